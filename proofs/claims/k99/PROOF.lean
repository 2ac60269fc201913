import PyProof.Rows.All
import Wide.All
import OpenK.AllK
import Wide.FinOn
import Lean
import PyProof.EqAt
import PyProof.EqKinds
import PyProof.TupleCall
import KE.KRevIter
import PyProof.FactsAll.range
import PyProof.P3In
import PyProof.ZipIter
import PyProof.TupleIter
import PyProof.WalkInts
import PyProof.SeqI3
import PyProof.EnumFor
import PyProof.EnumMake
import PyProof.ListMulRoad
import PyProof.Rows.SortRev
import PyProof.SumWalkG
import PyProof.StrWalks
import PyProof.StrCalls2
import PyProof.StrLawsTight
import KE.KIntText
import PyProof.StrBlockG
import PyProof.Rows.StrItems
import PyProof.StrLawsRepr
import PyProof.SliceStr2
import PyProof.StrBlockI
import PyProof.Rows.IntBool
import PyProof.Rows.FStr
import PyProof.FString
import PyProof.FactsAll.tuple
import KE.KSortTup
import PyProof.AutoListH
import PyProof.StrOps2
import PyProof.ListStr
import PyProof.DictRoadsH
import PyProof.Rows.TupTab
import PyProof.P3Eq
import PyProof.StationsW
import PyProof.RulesAs
import OpenK.KOwn
import KE.KTryMore
import PyProof.NsDelKeeps
import PyProof.ExcArgsOwn
import PyProof.ExcInit
import PyProof.InstStoreFacts
import PyProof.ListRange
import PyProof.TupleOfStr
import PyProof.CollectIter
import PyProof.DictItems
import PyProof.DictWalks
import PyProof.CollectWalk
import PySem.Challenge.RW_shorterline_k99_whole_means_by_all_runs
set_option Elab.async false
set_option linter.all false
set_option maxRecDepth 100000
open PySem renaming wpAny_bind->gE,PyData->iO,Value->GE,Shared->aaa,wpAny_pure->aac,sizeLine->aam,starEach->aao,sizeLine_eq->aav,wpAny_setField_rec->aaM,mainGlobals->aaQ,foldedSetIterable->aaT,Program->aaW,wpAny_callSpecial?_slot->aaY,wpAny_call_entry->aa0,Heap->aa4,wpAny_newObj_type->aa9,wpAny_field->abc,wpAny_isOneOf_itemiter->abf,bootBuiltins->abj,Around->abx,attributeBase->abG,compareOp->abK,sysModules->abL,assignEach->abM,Paired->abV,swapsWith->abY,wpAny_holding->abZ,backTo->ace,binaryOp->ack,DictEntry->acm,IsItemIter->acz,mem_of_lookup->acB,pyNext->acF,wpAny_rule->acP,wpAny_seqItems->acR,wpAny_passesOwn->ac0,Builtin->ac4,FuncData->ac5,setField->ac7,wpAny_dictEntries->ac8,assign->ada,wpAny_standAt->adb,swapsWithSole->adc,swappedStores->add,behindInMarks->ade,wpAny_attempt->adg,wpAny_isInstance->adm,standAt->adp,Keyword->adr,letOwnedTupleGo->adB,wpAny_dictEpoch->adF,rawInt->adI,holding->adK,keywordEach->adO,wpAny_typeOf->adU,wpAny_comprehension_free->ad5,ReadsAll->ad6,wpAny_mono->aef,wpAny_Call_Name_kw->aeg,sliceBounds->ael,wpAny_newTuple->aeu,call_meets->aeF,wpAny_forIn_list->aeG,codeAny->aeK,NameKind->aeN,wpAny_updateSeq_pair->aeQ,wpAny_execs_nil->aeZ,IsPair->ae4,wpAny_loadPart'->ae6,codeAny_builtin->ae8,codeAny_mono->afb,pyIter->afh,backToKw->afk,isSubtype_stop->afp,wpAny_fieldsOf->afr,wpAny_binaryOp_repeat_ref->afw,wpAny_sequenceKey->afB,wpAny_letGo->afF,valueAt->afH,wpAny_pyIter_slot->afJ,wpAny_onRaise->afM,IsItemIterOut->afO,PassesOwn->afU,IntMulOk->afV,noFill_tuple_add->afW,wpAny_Call_method0_late->af7,concat_meets->agi,IsPart->agj,typeIs_int->agl,wpAny_Call_method_late->agm,wpAny_Assign_Subscript->agp,wpAny_specialOf->agB,wpAny_updateSeq->agD,exec_Assign_Name_used->agF,wpAny_notOrdered_dict->agI,compEnvC->agM,tupleKind->ag0,setItem->ag1,getItem->ag2,callerA->ag3,relabel->ag4,evalArgs_none->ag7,assignInOrder->ahe,seq_tuple_add->ahf,plainId_quiet->ahj,BindsTo->ahv,seqIndex_neg->ahw,compTurn->ahx,newList->ahy,newTuple->ahC,callSpecial?->ahD,call_meetsIn->ahE,seqSlot_of->ahQ,specialOf->ahR,call->ah5
open List renaming length_map->oR,getElem?_eq_getElem->Ge,mem_cons_of_mem->aab,getElem?_eq_some_iff->aad,mem_of_getElem?->aae,mem_cons_self->aaf,take_length->aag,mem_singleton->aah,map_cons->aai,getElem?_map->aak,mem_cons->aal,length_append->aap,size_toArray->aas,replicate->aat,getD_eq_getElem?_getD->aax,mem_map->aay,length_cons->aaD,map_append->aaG,length_take->aaJ,range->aaP,getElem?_take->aaR,getElem?_set_ne->aaS,getElem?_append_right->aaU,nodup_cons->aaV,getElem?_append_left->aaX,getElem?_set_self->aaZ,not_mem_nil->aa1,mem_append->aa2,length_range->aa3,append_nil->aa5,map_map->abe,getElem_mem->abh,mem_append_right->abk,replicate_succ->abn,sum_cons->abo,length_set->abp,take_succ->abt,mem_flatMap->aby,take_add_one->abA,mem_iff_getElem->abB,eq_nil_of_length_eq_zero->abC,getElem?_zipWith_eq_some->abD,length_replicate->abH,Nodup->abI,foldl_cons->abP,pairwise_iff_getElem->abT,getElem?_range->abW,append_assoc->abX,map_nil->ab4,find?_cons->ab6,lookup_cons->ab9,all_eq_true->aca,mem_of_mem_take->acb,flatten_cons->acu,ext_getElem?->acw,flatMap_append->acD,all_cons->acM,nodup_nil->acQ,set_cons_succ->acS,length_zipIdx->acT,getElem?_eq_none->acX,sum_append->ac3,take_of_length_le->adx,nil_append->adC,length_nil->adE,foldl_append->adL,getElem?_of_mem->adP,length_drop->adT,all_map->adV,zipWith->adX,getElem_map->adY,getElem_set_ne->ad0,map_congr_left->ad1,eq_of_mem_replicate->aeb,range_succ->aec,set_cons_zero->aei,getElem?_replicate->aej,mem_range->aer,length_filter_le->aeC,foldl->aeE,any_cons->aeL,mem_append_left->aeM,length->aeO,getElem?_zipIdx->aeT,forIn_cons->ae2,filterMap_cons->ae9,length_zipWith->afa,pairwise_cons->afl,filter_append->afu,mem_or_eq_of_mem_set->afx,flatMap_cons->afG,drop_length->af0,cons_append->af1,filter_cons_of_pos->aga,filter_cons_of_neg->agb,mem_filter->agy,of_mem_zip->agz,length_singleton->agE,getElem_set_self->agG,getElem_toArray->agQ,drop_zero->agS,getElem?_mapIdx->agW,getElem_zipIdx->ag8,getD_cons_succ->ahb,nodup_append->ahz,ext_getElem->ahO,zipIdx_cons->ahP,any_eq_true->ahU,filter_cons->ahV,range'->ahY
open Nat renaming le_refl->Io,le_trans->aaz,lt_of_lt_of_le->aaA,lt_trans->aaE,lt_of_le_of_lt->aaF,ne_of_lt->aa6,mul_le_mul->abd,gcd_pos_of_pos_right->abg,ne_of_gt->abJ,pow_le_pow_right->abO,lt_succ_self->abQ,zero_add->ab5,dvd_trans->acd,le_add_right->aco,gcd_dvd_right->acx,pow_succ->acI,lt_irrefl->acK,zero_le->acL,dvd_mul_left->acO,mul_comm->ac6,mul_assoc->adh,zero_ne_add_one->adj,div_le_self->adD,le_of_lt->adQ,gcd_dvd_left->adW,le_of_dvd->aea,lt_or_gt_of_ne->aeh,Coprime->aeq,succ_mul->aet,lt_succ_of_lt->aev,le_of_ble_eq_true->aeA,mul_le_mul_right->aeP,mul_pos->aeU,le_max_left->ae3,add_assoc->afN,min_le_right->afX,min_eq_right->afZ,gcd_le_right->af4,gcd_comm->agx,min_eq_left->agA,log2_lt->agR,add_mul->agT,div_pos->agU,add_le_add_right->agY,mul_div_cancel'->ag9,add_left_cancel->ahc,div_mul_cancel->ahq,gcd_zero_right->ahs,sub_zero->ahB,dvd_mul_right->ahI,dvd_refl->ahJ,one_mul->ahZ,mul_one->ah0,pow_pos->ah1,mod_lt->ah8
open PySem.Heap renaming get?_push_of_some->OR,lt_size->aan,get?_push_size->aar,SameBut->abw,size_push->abE,get?_update_other->acH,get?_update_self->acW,get?_push_cases->aeR,ExtBut->afE,size_update->af9
open PySem.W renaming Frag->aaj,mg_none_of->abb,nsIn->abq,keepIn->adM,fnOf->adR,codeIn->afi,methodObj->afz,cellsFrom_some->agh,kas_rev->ag5,mg_of->ahi,OpenLaw->ah2,WalkO->ah9
open Int renaming natAbs_natCast->aaq,mul_left_comm->aaH,natCast_mul->aaI,mul_assoc->aaK,mul_comm->aaO,toNat_natCast->aba,eq_ofNat_of_zero_le->abl,mul_pos->abr,natCast_add->ab7,ofNat_dvd_left->ab8,mul_le_mul_of_nonneg_left->act,eq_of_mul_eq_mul_right->acU,mul_nonneg->acV,mul_zero->ac9,mul_ediv_cancel_left->adi,natAbs_mul->adn,mul_one->ado,zero_add->ady,add_zero->adz,emod_lt_of_pos->adA,emod_nonneg->aee,mul_add->aeo,le_refl->aep,natAbs_ediv_of_dvd->aex,natCast_ediv->aeJ,sub_mul->aeV,add_mul->aeW,nonneg_of_mul_nonneg_left->aeX,ediv_nonneg->ae7,fdiv_eq_ediv_of_nonneg->afm,natCast_nonneg->aft,zero_mul->ags,le_of_lt->agw,mul_le_mul->agX,one_mul->agZ,sub_eq_add_neg->ahr,natAbs_add_le->ahF,natAbs_sub_le->ahG,le_trans->ahH,ofNat_lt->ahK
open Option.some renaming inj->aau,injEq->afD
open PySem.PyData renaming eqv->aaw,depthAll->aaC,canLayAll0->abi,hasDict_of_canLay->abu,int->abN,tuple->acg,hasDict->acs,hasDictAll->acv,shownAll->ac2,hasDictAll_of_canLayAll->adl,eqvAll->adH,shown->afc,str->afv,showableAll->ahm,noDict_hsm->ahA,list->ahW,canLay0->ah6
open Bool renaming false_ne_true->aaB,and_eq_true->aaL,beq_eq_decide_eq->acl,false_eq_true->acn,eq_iff_iff->ac1,or_eq_true->aed,or_true->aez,not_eq_true->af5,false_and->agK,or_eq_false_iff->agN,and_self->ahh
open PySem.PassesOwn renaming never->aaN
open PySem.F renaming slot_dict_itemiterator_next->aa7,args_dict_itemiterator_next_1->aci,entry_dict_itemiterator_next->acp,slot_list_append->acq,type_list_append->acr,slot_dict_items_iter->acA,slot_dict_itemiterator_next->acN,slot_enumerate_next->adJ,plain_extend_loop->ad2,args_tuple_add_2->ad3,slot_tuple_index->ad7,slot_dict_itemiterator_iter->ad9,entry_tuple_add->aek,plainAttrs_dict->aem,slot_dict_items->aen,slot_tuple_add->aes,slot_tuple_mul->aew,slot_dict_get->aeB,args_dict_items_iter_1->aeH,entry_dict_items_iter->aeS,slot_zip_next->ae5,slot_tuple_iterator_next->afo,slot_tuple_hash->afI,type_tuple_index->afR,slot_list_extend->afS,type_list_extend->afT,args_enumerate_next_1->af2,slot_tuple_rmul->af3,args_dict_get_3->af6,type_dict_items->af8,entry_enumerate_next->agn,entry_dict_get->agq,slot_int_rmul->agH,entry_extend_loop->aha
open Array renaming length_toList->abm,getElem?_eq_getElem->acj,getElem?_toList->acY,getElem?_eq_none->agr,forIn_toList->ahp,toList->aht,size_push->ah3
open PyProof.Rows renaming slot_tuple_getitem->abv,callWith_type1->acG,seqObj->aey,callWith_builtin1->aeD,envOfC->ae0,assignInOrder_cons->afg,AllBare->afA,IntsAre->afC,subscriptTail_builtinR->agk,sortedHeap->agu,tupleItemsOf_->ahg,listUpdate_at->ahk
open Ne renaming symm->abz
open PySem.Builtin.Dict_items renaming ownsTuple->abF,ownedTupleIsFree->ab2,pairFromOwner->ach,ownedTupleFields->ad8,newIterator->aeI,isOneOf->afs,dictOf->afy
open PySem.Builtin.Tuple renaming tupleHashOf->abR,tupleExact->ab0,tupleItemsOf->adN,tupleIsExact->afn,tupleTooMany->afq
open PySem.Builtin.SmallTypes renaming nextOf->abU,ownedTupleIsFree->ab1,ownedTupleHandOut->acE
open PySem.Str renaming ofString->ab3,empty->ahN
open PySem.Obj renaming mapSeq->acf,data_mapFields->ahn
open Option renaming map_some->acy,isSome_iff_exists->afK,getD_none->afY,map_eq_some_iff->agv
open PySem.Builtin.List renaming listLengthHint->acJ,listTooLong->adf,listExtendWith->afd,listSameRef->afQ,listTouch->agt
open PySem.Builtin.Slice renaming slicePlaces->acZ,sliceAdjust->adZ,sliceApplied->afj
open False renaming elim->adq
open PySem.Calls renaming callWith_builtin->adt,Name_function_global->aff,evalArgs_plain->agL,spliced_cons->ahl,spliced_nil->ahu
open Or renaming inr->adu,inl->agP
open PySem.SeqAt renaming shaped->adv,canLay_of_shaped->adw,EqAt->age,readOf->ago,eqAt_reads->ahS
open PySem.Value renaming ref->adG,none->agf,type->agg,int->aic,str->aid
open PySem.NameKind renaming free->ad4,cell->aia
open PySem.Around renaming under_plainId->aeY
open ForInStep renaming yield->ae1
open LawfulBEq renaming eq_of_beq->afe
open PyProof renaming noPylong_of_log2->afL
open PySem.Shared renaming TypeIs->afP,heap->ahX
open Sum renaming inl->agc,inr->agd
open List.cons renaming injEq->agC
open PySem.Builtin.Dict renaming showsAll->agJ
open PySem.Heap.SameBut renaming update->ag6
open PySem.Paired renaming length->ahd
open True renaming intro->aho
open LawfulMonad renaming pure_bind->ahL
open And renaming intro->ahM
open PySem.PyData.int renaming injEq->ahT
open Int.ofNat renaming inj->aib
namespace L2
open PySem PySem.Spec PyProof.Rows
variable{us:List GE}{H:Hp}{a:Addr}{o:HO}{h:aa4}{P:aaW}{w:World}{g':Array GenState}{i j t':Nat}{ch fp:List Addr}{N ps:List Str}{x:Str}{M:Model}{A:abx}{E Q:GE->aaa->Prop}{v:V}{u:GE}{X:Cx}{e tg:Expr}{pos:Pos}{pins:List (Addr×Obj)}{σ:St}{K:aaj}{es:List Expr}{body:List Stmt}{f:GE->GE->Sem GE}{r:R2}{g:Int->Int->Int}{op:CmpOp}{mg:Str->Option GE}{scope:Scope}
abbrev Key:=Sum Int Str
def vN:Key->GE->Bool
 | .inl k,v=>Value.isInt k v
 | .inr x,v=>Value.isStrOf x v
def keyH(w:World):Key->Int
 | .inl k=>hashInt k
 | .inr x=>hashStr w x
theorem bA:∀{k:Key}{v:GE},vN k v=true->(∃i t,k=agc i/\v=aic i t)\/(∃x t,k=agd x/\v=aid x t)
 | .inl i,v,h=>by
  obtain⟨t,e⟩:=GE.isInt_shape (k:=i) (v:=v) h;exact .inl ⟨i,t,rfl,e⟩
 | .inr x,v,h=>by
  obtain⟨t,e⟩:=GE.isStrOf_shape (x:=x) (v:=v) h;exact .inr ⟨x,t,rfl,e⟩
theorem Ah(i:Int)(t:Tok):vN (.inl i) (.int i t)=true:=by simp[vN,Value.isInt]
theorem yC(x:Str)(t:Tok):vN (.inr x) (.str x t)=true:=by simp[vN,Value.isStrOf]
theorem Lp(a b:Int):decide ((agc a:Key)=agc b)=(a==b):=by
 by_cases e:a=b
 .subst e;simp
 .have h:¬(agc a:Key)=agc b:=fun q=>e (agc.inj q);rw[decide_eq_false h];exact(beq_eq_false_iff_ne.mpr e).symm
theorem Ot(a b:Str):decide ((agd a:Key)=agd b)=decide (a=b):=by
 by_cases e:a=b
 .subst e;simp
 .have h:¬(agd a:Key)=agd b:=fun q=>e (agd.inj q);rw[decide_eq_false h,decide_eq_false e]
theorem Ou(a:Int)(b:Str):decide ((agc a:Key)=agd b)=false:=decide_eq_false (fun q=>nomatch q)
theorem O8(a:Str)(b:Int):decide ((agd a:Key)=agc b)=false:=decide_eq_false (fun q=>nomatch q)
def cq(prog:aaW)(w:World):PySem.KeyKind prog w Key where
 is:=vN
 hash:=keyH w
 inj:=fun v a b ha hb=>by
  rcases bA ha with⟨i,t,rfl,rfl⟩|⟨x,t,rfl,rfl⟩
  .rcases bA hb with⟨j,u,rfl,e⟩|⟨y,u,rfl,e⟩
   .injection e with e1 _;rw[e1]
   .exact nomatch e
  .rcases bA hb with⟨j,u,rfl,e⟩|⟨y,u,rfl,e⟩
   .exact nomatch e
   .injection e with e1 _;rw[e1]
 byValue:=fun k v h=>by
  rcases bA h with⟨i,t,rfl,rfl⟩|⟨x,t,rfl,rfl⟩<;>rfl
 pyHash:=fun hv h=>by
  rcases bA hv with⟨i,t,rfl,rfl⟩|⟨x,t,rfl,rfl⟩
  .exact wpAny_pyHash_int h
  .exact wpAny_pyHash_str h
 eqBool:=fun hu hv h=>by
  rcases bA hu with⟨i,t,rfl,rfl⟩|⟨x,t,rfl,rfl⟩
  .rcases bA hv with⟨j,u,rfl,rfl⟩|⟨y,u,rfl,rfl⟩
   .rw[Lp]at h;exact wpAny_eqBool_int h
   .rw[Ou]at h;exact age.int_str i t y u _ _ _ _ h
  .rcases bA hv with⟨j,u,rfl,rfl⟩|⟨y,u,rfl,rfl⟩
   .rw[O8]at h;exact age.str_int x t j u _ _ _ _ h
   .rw[Ot]at h;exact wpAny_eqBool_str h
 «strs»:=fun k x t v h=>by
  rcases bA h with⟨i,u,rfl,e⟩|⟨y,u,rfl,e⟩
  .exact nomatch e
  .injection e with e1 _
   subst e1
   cases v<;>rfl
theorem rf(prog:aaW)(w:World)(i:Int)(t:Tok):(cq prog w).is (.inl i) (.int i t)=true:=Ah i t
theorem r8(prog:aaW)(w:World)(x:Str)(t:Tok):(cq prog w).is (.inr x) (.str x t)=true:=yC x t
inductive V where
 |non|bl (b:Bool)|int (i:Int)|str (x:Str)|byt (b:Array UInt8)|flt (b:UInt64)|ref (a:Addr)|ty (n:String)
 deriving DecidableEq
def RelV:V->GE->Prop
 | .non,u=>u=agf
 | .bl b,u=>u=Value.bool b
 | .int i,u=>∃t,u=aic i t
 | .str x,u=>∃t,u=aid x t
 | .byt b,u=>∃t,u=GE.bytes b t
 | .flt b,u=>∃t,u=GE.float b t
 | .ref a,u=>u=adG a
 | .ty n,u=>u=agg n
abbrev Vals:List V->List GE->Prop:=abV RelV
theorem Vals.length{xs:List V}(r:Vals xs us):xs.length=us.length:=ahd r
theorem Vals.get:∀{xs:List V}{us:List GE}{i:Nat}{x:V},Vals xs us->xs[i]?=some x->∃u,us[i]?=some u/\RelV x u
 |_,_,_,_,.nil,e=>by simp at e
 |_,_,0,_,.cons r _,e=>by simp at e;subst e;exact⟨_,rfl,r⟩
 |_,_,i+1,x,.cons _ t,e=>by
  obtain⟨u,h1,h2⟩:=Vals.get (i:=i) (x:=x) t (by simpa using e);exact⟨u,by simpa using h1,h2⟩
theorem Vals.set{x:V}{u:GE}(r:RelV x u):∀{xs:List V}{us:List GE} (i:Nat),Vals xs us->Vals (xs.set i x) (us.set i u)
 |_,_,_,.nil=>.nil
 |_,_,0,.cons _ t=>.cons r t
 |_,_,i+1,.cons q t=>.cons q (Vals.set r i t)
theorem Vals.append:∀{xs ys:List V}{us ws:List GE},Vals xs us->Vals ys ws->Vals (xs++ys) (us++ws)
 |_,_,_,_,.nil,s=>s
 |_,_,_,_,.cons r t,s=>.cons r (Vals.append t s)
theorem Vals.take:∀{xs:List V}{us:List GE} (n:Nat),Vals xs us->Vals (xs.take n) (us.take n)
 |_,_,0,_=>.nil
 |_,_,_+1,.nil=>.nil
 |_,_,n+1,.cons r t=>.cons r (Vals.take n t)
theorem Vals.drop:∀{xs:List V}{us:List GE} (n:Nat),Vals xs us->Vals (xs.drop n) (us.drop n)
 |_,_,0,r=>r
 |_,_,_+1,.nil=>.nil
 |_,_,n+1,.cons _ t=>Vals.drop n t
theorem Vals.none_of:∀{xs:List V}{us:List GE}{i:Nat},Vals xs us->xs[i]?=none->us[i]?=none:=fun {xs us i} r e=>by
 have h1:=r.length;have h2:xs.length≤i:=List.getElem?_eq_none_iff.mp e;exact List.getElem?_eq_none_iff.mpr (by omega)
def RelO:Option V->Option GE->Prop
 |some v,some u=>RelV v u
 |none,none=>True
 |_,_=>False
def KV{κ:Type}:List (κ×V)->List (κ×GE)->Prop:=abV fun(p:κ×V) (q:κ×GE)=>p.1=q.1/\RelV p.2 q.2
def kV:Key->V
 | .inl i=>.int i
 | .inr x=>.str x
inductive HO where
 |lst (xs:List V)
 |tup (xs:List V)
 |dK (kvs:List (Key×V))|dT (kvs:List (List Key×V))
 |set (S:Int->Bool) (n:Nat)
 |ins (C dx:Addr) (fs:List (Str×V))
 |own (x:Addr)
 |xd (fs:List (Str×V))
 |met (f x:Addr)
 |rng (lo hi:Int)
 |frz (o:Obj) (u:HO)
 |tbl (ps:Array GE)
 |ext (φ:aa4->Prop)
abbrev Hp:=Addr->Option HO
def upd(H:Hp)(a:Addr)(o:HO):Hp:=fun b=>if b=a then some o else H b
theorem av:upd H a o a=some o:=by unfold upd;rw[if_pos rfl]
theorem am{b:Addr}(h:b≠a):upd H a o b=H b:=by unfold upd;rw[if_neg h]
theorem qV{b:Addr}{u:HO}(h:H a=some o)(h':H b=some u)(d:o≠u):a≠b:=by
 intro e;subst e;rw[h]at h';exact d (aau h')
theorem bh{b:Addr}(h:H a=some o)(h':H b=none):a≠b:=by
 intro e;subst e;rw[h]at h';cases h'
def PlainT(h:aa4)(a:Addr)(items:Array GE):Prop:=∃o,h.get? a=some o/\o.cls = .type "tuple" /\ o.dict=none/\∃n,o.data = .seq items n
theorem PlainT.tup{items:Array GE}(x:PlainT h a items):IsTup h a items:=let ⟨o,e,c,_,d⟩:=x;⟨o,e,c,d⟩
theorem PlainT.new(h:aa4)(items:Array GE):PlainT (h.push {cls:=.type "tuple",data:=.seq items}) h.objs.size items:=⟨_,aar _ rfl,rfl,rfl,_,rfl⟩
section
variable (P:aaW) (w:World)
def ObjOk(H:Hp)(h:aa4)(a:Addr):HO->Prop
 | .lst xs=>xs.length≤aam/\∃(its:List GE) (n:Nat),Vals xs its/\h.get? a=some {cls:=.type "list",data:=.seq its.toArray n}
 | .tup xs=>xs.length≤aam/\∃its:List GE,Vals xs its/\PlainT h a its.toArray
 | .dK kvs=>kvs.length≤aam/\(a==abL)=false/\∃vs,KV kvs vs/\h.DictOf (cq P w) a vs
 | .dT kvs=>kvs.length≤aam/\(a==abL)=false/\∃xs:List (List Key×Addr×GE),
   abV (fun(p:List Key×V) (q:List Key×Addr×GE)=>p.1=q.1/\H q.2.1=some (.tup (p.1.map kV))/\RelV p.2 q.2.2) kvs xs /\
   ∃o es ep,h.get? a=some o/\o.ExactDict/\o.data = .dict es ep/\es.toList=xs.map (entryOfKey (ag0 (cq P w)))/\(xs.map (·.1)).Nodup
 | .set S n=>h.SetOf (intKind P w) a S n
 | .ins C dx fs=>H dx=some (.own a)/\fs.length≤1000/\dx≠a/\h.get? a=some (PySem.W.instObj C dx) /\
   ∃mA,h.Ns1 dx mA/\(∀f,RelO (fs.lookup f) (mA f))/\PySem.Within mA (fs.map (·.1))
 | .own _=>∃o,h.get? a=some o
 | .xd fs=>∃mA,h.Ns1 a mA/\∀f,RelO (fs.lookup f) (mA f)
 | .rng lo hi=>∃t u v,h.get? a=some {cls:=.type "range",data:=.fields #[.int lo t,.int hi u,.int 1 v]}
 | .frz o u=>h.get? a=some o/\ObjOk H h a u
 | .tbl ps=>h.get? a=some {cls:=.none,data:=.fields ps}
 | .met f x=>h.get? a=some (afz (.ref f) (.ref x))
 | .ext φ=>φ h/\(∃o,h.get? a=some o)/\∀h1 h2:aa4,φ h1->(∀o,h1.get? a=some o->h2.get? a=some o)->φ h2
def HOk(H:Hp)(h:aa4):Prop:=∀a o,H a=some o->ObjOk P w H h a o
end
section
variable {P:aaW}{w:World}{H H':Hp}{h h':aa4}{a:Addr}{o:HO}
theorem ObjOk.lt(x:ObjOk P w H h a o):a<h.objs.size:=by
 cases o with
 |lst xs=>obtain⟨_,_,_,_,e⟩:=x;exact aan e
 |tup xs=>obtain⟨_,_,_,p⟩:=x;exact p.tup.lt
 |dK kvs=>obtain⟨_,_,_,_,o,_,_,e,_⟩:=x;exact aan e
 |dT kvs=>obtain⟨_,_,_,_,o,_,_,e,_⟩:=x;exact aan e
 |set S n=>obtain⟨o,_,_,_,e,_⟩:=x;exact aan e
 |ins C dx fs=>obtain⟨_,_,_,e,_⟩:=x;exact aan e
 |own y=>obtain⟨_,e⟩:=x;exact aan e
 |xd fs=>obtain⟨_,⟨_,_,_,e,_⟩,_⟩:=x;exact aan e
 |rng lo hi=>obtain⟨_,_,_,e⟩:=x;exact aan e
 |frz ob u=>obtain⟨e,_⟩:=x;exact aan e
 |tbl ps=>exact aan (show h.get? a=some _ from x)
 |met f y=>exact aan (show h.get? a=some _ from x)
 |ext φ=>obtain⟨_,⟨_,e⟩,_⟩:=x;exact aan e
theorem Paired.mapP{α β:Type}{F G:α->β->Prop}:∀{l₁:List α}{l₂:List β},abV F l₁ l₂->(∀a b,F a b->G a b)->abV G l₁ l₂
 |_,_,.nil,_=>.nil
 |_,_,.cons r t,f=>.cons (f _ _ r) (Paired.mapP t f)
theorem ObjOk.stay(x:ObjOk P w H h a o)(k:∀b u,(b=a\/H b=some (.own a))->h.get? b=some u->h'.get? b=some u)
  (ho:∀b,H b=some (.own a)->H' b=some (.own a)) (ht:∀b xs,H b=some (.tup xs)->H' b=some (.tup xs)):ObjOk P w H' h' a o:=by
 induction o with
 |lst xs=>obtain⟨z,its,n,r,e⟩:=x;exact⟨z,its,n,r,k _ _ (.inl rfl) e⟩
 |tup xs=>obtain⟨z,its,r,ob,e,c⟩:=x;exact⟨z,its,r,ob,k _ _ (.inl rfl) e,c⟩
 |dK kvs=>obtain⟨z,y,vs,r,ob,es,ep,e,c⟩:=x;exact⟨z,y,vs,r,ob,es,ep,k _ _ (.inl rfl) e,c⟩
 |dT kvs =>
  obtain⟨z,y,xs,r,ob,es,ep,e,c⟩:=x;exact⟨z,y,xs,Paired.mapP r fun p q z=>⟨z.1,ht _ _ z.2.1,z.2.2⟩,ob,es,ep,k _ _ (.inl rfl) e,c⟩
 |set S n=>obtain⟨ob,es,ep,t,e,c⟩:=x;exact⟨ob,es,ep,t,k _ _ (.inl rfl) e,c⟩
 |ins C dx fs =>
  obtain⟨d,z,ne,e,mA,⟨od,es,ep,e2,c⟩,r⟩:=x;exact⟨ho _ d,z,ne,k _ _ (.inl rfl) e,mA,⟨od,es,ep,k _ _ (.inr d) e2,c⟩,r⟩
 |own y=>obtain⟨ob,e⟩:=x;exact⟨ob,k _ _ (.inl rfl) e⟩
 |xd fs=>obtain⟨mA,⟨od,es,ep,e,c⟩,r⟩:=x;exact⟨mA,⟨od,es,ep,k _ _ (.inl rfl) e,c⟩,r⟩
 |rng lo hi=>obtain⟨t,u,v,e⟩:=x;exact⟨t,u,v,k _ _ (.inl rfl) e⟩
 |frz ob u ih=>obtain⟨e,q⟩:=x;exact⟨k _ _ (.inl rfl) e,ih q⟩
 |tbl ps =>
  have e:h.get? a=some {cls:=.none,data:=.fields ps}:=x;show h'.get? a=some {cls:=.none,data:=.fields ps};exact k a _ (.inl rfl) e
 |met f y =>
  have e:h.get? a=some (afz (.ref f) (.ref y)):=x;show h'.get? a=some (afz (.ref f) (.ref y));exact k a _ (.inl rfl) e
 |ext φ=>obtain⟨p,⟨o,e⟩,st⟩:=x;exact⟨st _ _ p fun o q=>k _ _ (.inl rfl) q,⟨o,k _ _ (.inl rfl) e⟩,st⟩
theorem HOk.lt(x:HOk P w H h)(e:H a=some o):a<h.objs.size:=(x a o e).lt
theorem HOk.fresh(x:HOk P w H h)(e:h.objs.size≤a):H a=none:=by
 cases q:H a with
 |none=>rfl
 |some u=>exact absurd (aaA (x.lt q) e) (acK _)
theorem HOk.kept(x:HOk P w H h)(k:∀b u,h.get? b=some u->h'.get? b=some u):HOk P w H h':=fun a o e =>
 (x a o e).stay (fun b u _ q=>k b u q) (fun _ q=>q) fun _ _ q=>q
theorem HOk.laid(x:HOk P w H h)(k:∀b u,h.get? b=some u->h'.get? b=some u)(hp:h.objs.size≤a)(new:ObjOk P w (upd H a o) h' a o):HOk P w (upd H a o) h':=fun b u e=>by
 have hn:=x.fresh hp
 by_cases hb:b=a
 .subst hb;rw[av]at e;cases e;exact new
 .rw[am hb]at e;exact(x b u e).stay (fun c v _ q=>k c v q) (fun c q=>by rw[am (bh q hn)];exact q) fun c xs q=>by rw[am (bh q hn)];exact q
end
def Rd(H:Hp)(a:Addr)(u:HO):Prop:=H a=some u\/∃o,H a=some (.frz o u)
theorem Rd.ok{u:HO}(r:Rd H a u)(x:HOk P w H h):ObjOk P w H h a u:=by
 rcases r with r|⟨o,r⟩
 .exact x a u r
 .obtain⟨_,q⟩:=x a _ r;exact q
def Mut:Option HO->Prop
 |some (.lst _)=>True
 |some (.dK _)=>True
 |some (.dT _)=>True
 |some (.set _ _)=>True
 |some (.ins _ _ _)=>True
 |some (.ext _)=>True
 |_=>False
section
variable {P:aaW}{w:World}{H:Hp}{h h':aa4}{x e:Addr}{o':HO}
theorem HOk.write(ok:HOk P w H h)(mu:Mut (H x))(he:e=x\/H e=some (.own x))(k:∀b u,b≠e->h.get? b=some u->h'.get? b=some u)(heo:∃u,h'.get? e=some u)
  (new:ObjOk P w (upd H x o') h' x o'):HOk P w (upd H x o') h':=fun b u q=>by
 have nown:∀c y,H c=some (.own y)->c≠x:=fun c y r z=>by subst z;rw[r]at mu;exact mu
 have ntup:∀c xs,H c=some (.tup xs)->c≠x:=fun c xs r z=>by subst z;rw[r]at mu;exact mu
 by_cases hb:b=x
 .subst hb;rw[av]at q;cases q;exact new
 .rw[am hb]at q
  by_cases hbe:b=e
  .have q':H b=some (.own x):=by
    rcases he with z|z
    .exact absurd (hbe.trans z) hb
    .rw[hbe];exact z
   rw[q]at q';cases q';obtain⟨v,hv⟩:=heo;exact⟨v,by rw[hbe];exact hv⟩
  .refine(ok b u q).stay (fun c v hc r=>k c v ?_ r) (fun c r=>by rw[am (nown c b r)];exact r) fun c xs r=>by rw[am (ntup c xs r)];exact r
   rcases hc with rfl|hc
   .exact hbe
   .rintro rfl;rcases he with z|z
    .exact nown c b hc z
    .rw[hc]at z;cases z;exact hb rfl
end
structure Un(fs ex:List Addr)(H H':Hp)(h h':aa4):Prop where
 keep:∀b o,h.get? b=some o->H b=none->b∉fs->b∉ex->h'.get? b=some o
 slot:∀b o,h.get? b=some o->H b=none->b∈fs->b∉ex->∃sl,h'.get? b=some {o with slots:=sl}
 free:∀b o,h.get? b=some o->H b=none->b∉ex->H' b=none
 there:∀b o,h.get? b=some o->b∉ex->∃o',h'.get? b=some o'
 tups:∀b xs,H b=some (.tup xs)->H' b=some (.tup xs)
 frzs:∀b o u,H b=some (.frz o u)->H' b=some (.frz o u)
 tbls:∀b ps,H b=some (.tbl ps)->∃more,H' b=some (.tbl (ps++more))
section
variable {fs fs' ex ex':List Addr}{H H1 H2:Hp}{h h1 h2 h':aa4}{a x e:Addr}{o:HO}
theorem Un.any(u:Un fs ex H H1 h h1){b:Addr}{ob:Obj}(q:h.get? b=some ob)(n:H b=none)(hx:b∉ex):∃sl,h1.get? b=some {ob with slots:=sl}:=by
 by_cases hb:b∈fs
 .exact u.slot b ob q n hb hx
 .exact⟨ob.slots,u.keep b ob q n hb hx⟩
theorem Un.kept(k:∀b u,h.get? b=some u->h'.get? b=some u):Un fs ex H H h h' :=
 ⟨fun b ob q _ _ _=>k b ob q,fun b ob q _ _ _=>⟨ob.slots,k b ob q⟩,fun _ _ _ n _=>n,fun b ob q _=>⟨ob,k b ob q⟩,fun _ _ q=>q,fun _ _ _ q=>q,fun _ ps q=>⟨#[],by rw[q];simp⟩⟩
theorem Un.refl:Un fs ex H H h h:=Un.kept fun _ _ q=>q
theorem Un.laid(k:∀b u,h.get? b=some u->h'.get? b=some u)(hp:h.objs.size≤a)(hn:H a=none):Un fs ex H (upd H a o) h h' where
 keep:=fun b u q _ _ _=>k b u q
 slot:=fun b u q _ _ _=>⟨u.slots,k b u q⟩
 free:=fun b u q n _=>by rw[am (aa6 (aaA (aan q) hp))];exact n
 there:=fun b u q _=>⟨u,k b u q⟩
 tups:=fun b xs q=>by rw[am (bh q hn)];exact q
 frzs:=fun b u xs q=>by rw[am (bh q hn)];exact q
 tbls:=fun b ps q=>⟨#[],by rw[am (bh q hn),q];simp⟩
theorem Un.write(mu:Mut (H x))(he:e=x\/H e=some (.own x))(k:∀b u,b≠e->h.get? b=some u->h'.get? b=some u)(heo:∃u,h'.get? e=some u):Un fs ex H (upd H x o) h h':=by
 have hx:∀b,H b=none->b≠x:=fun b n z=>by subst z;rw[n]at mu;exact mu
 have hb:∀b,H b=none->b≠e:=fun b n z=>by
  subst z;rcases he with r|r
  .exact hx b n r
  .rw[n]at r;cases r
 have hm:∀b u,H b=some u->¬Mut (some u)->b≠x:=fun b u q nm z=>by subst z;rw[q]at mu;exact nm mu
 refine⟨fun b u q n _ _=>k b u (hb b n) q,fun b u q n _ _=>⟨u.slots,k b u (hb b n) q⟩,fun b u q n _=>by rw[am (hx b n)];exact n,fun b u q _=>?_,
  fun b xs q=>by rw[am (hm b _ q fun z=>z)];exact q,fun b u xs q=>by rw[am (hm b _ q fun z=>z)];exact q,fun b ps q=>⟨#[],by rw[am (hm b _ q fun z=>z),q];simp⟩⟩
 by_cases hbe:b=e
 .subst hbe;exact heo
 .exact⟨u,k b u hbe q⟩
end
def trk(h:aa4)(H:Hp):List Addr:=(aaP h.objs.size).filter fun a=>(H a).isSome
def hidT(h:aa4)(H:Hp):aa4:=PySem.W.hideAll h (trk h H)
theorem zO(h:aa4)(H:Hp):(hidT h H).objs.size=h.objs.size:=PySem.W.hideAll_size _ _
theorem BZ{b:Addr}{o:Obj}(e:h.get? b=some o)(n:H b=none):(hidT h H).get? b=some o :=
 PySem.W.hideAll_get _ e fun hm=>by
  have q:(H b).isSome=true:=(agy.mp hm).2;rw[n]at q;simp at q
theorem JD{b:Addr}{o:Obj}(e:(hidT h H).get? b=some o):h.get? b=some o/\H b=none:=by
 have e':h.get? b=some o:=PySem.W.of_hideAll (trk h H) e;refine⟨e',?_⟩
 cases q:H b with
 |none=>rfl
 |some x =>
  have hm:b∈trk h H:=agy.mpr ⟨aer.mpr (aan e'),by simp[q]⟩;have z:(hidT h H).get? b=none:=PySem.W.hideAll_none (trk h H) hm;rw[z]at e;cases e
structure Mod(K:aaj)(mg:Str->Option GE)(base:aa4):Prop where
 kin:K.In base
 glob:base.Ns aaQ mg
 blt:∃mb,base.Ns builtinsNs mb/\∀x:Str,x ≠ "__name__" -> mb x=abj x
 nolimit:base.NoLimit
 sys:∃m,base.Ns abL m
inductive Ao where
 |L (a:Addr)|T (t:List (List Nat×Addr))
structure EB where
 np:Nat
 be:List Ao
 H:Hp
structure Cx where
 prog:aaW
 w:World
 K:aaj
 mg:Str->Option GE
 base:aa4
 A:abx
 N:List Str
 s₀:aaa
 H₀:Hp
 env:Env
 outer:List Env
 stack:List Env
 ex:List Addr
 fn:Str->Bool
 calm:Bool
 pn:List (Addr×Obj)
 xe:GE->aaa->Prop
 eb:EB:=⟨0,[],fun _=>none⟩
def frs(l:List Env):List Addr:=l.filterMap (·.frame)
abbrev Cx.fs(X:Cx):List Addr:=frs X.outer
def Vis(sc:Scope)(x:Str):Prop:=sc.names.lookup x=some .local\/sc.names.lookup x=some .cell\/sc.names.lookup x=some .free
def Loc(sc:Scope)(x:Str):Prop:=sc.names.lookup x=some .local\/sc.names.lookup x=some .cell
def Look(env:Env)(h:aa4)(m:Str->Option GE)(x:Str)(u:GE):Prop :=
 (env.kindOf x=some .local/\m x=some u)\/((env.kindOf x=some .cell\/env.kindOf x=some .free)/\∃c,env.cells.lookup x=some c/\h.IsCell c (some u))
structure Cx.Ok(X:Cx):Prop where
 mod:Mod X.K X.mg X.base
 kind:X.env.scope.kind = .function
 glob:X.env.globals=aaQ
 blt:X.env.builtins=builtinsNs
 above:X.s₀.heap.objs.size≤X.env.locals
 inj:∀x y c,X.env.cells.lookup x=some c->X.env.cells.lookup y=some c->x=y
 has:∀x,(X.env.kindOf x=some .cell\/X.env.kindOf x=some .free)->∃c,X.env.cells.lookup x=some c
 cab:∀x c,X.fn x=true->X.env.cells.lookup x=some c->X.s₀.heap.objs.size≤c
 hd:X.calm=true->X.A.handled=none
 frames:X.A.frames=some X.stack
 stk:X.stack=X.outer\/(X.stack=X.env::X.outer/\X.env.frame=some X.env.locals)
 exf:∀b∈X.ex,b≠X.env.locals/\∀x c,X.env.cells.lookup x=some c->c≠b
 bs:∀b o,X.base.get? b=some o->X.s₀.heap.get? b=some o/\X.H₀ b=none
 bsz:X.base.objs.size≤X.s₀.heap.objs.size
 noex:∀b o,X.base.get? b=some o->b∉X.ex
 exfs:∀b∈X.ex,b∉X.fs
 funs:X.s₀.heap.FunFrames X.base X.outer
 frf:∀b∈X.fs,X.H₀ b=none
structure Inv(X:Cx)(pins:List (Addr×Obj))(σ:List (Option V))(H:Hp)(s:aaa):Prop where
 ok:X.Ok
 os:s.os=X.s₀.os
 bare:afA s.gens
 base:Un X.fs X.ex X.H₀ H X.s₀.heap s.heap
 loc:∃m,s.heap.Ns X.env.locals m/\∀(i:Nat) (x:Str) (v:V),X.N[i]?=some x->σ[i]?=some (some v)->Vis X.env.scope x->∃u,RelV v u/\Look X.env s.heap m x u
 cell:∀x c,X.env.cells.lookup x=some c->∃v,s.heap.IsCell c v
 free:H X.env.locals=none
 freeC:∀x c,X.env.cells.lookup x=some c->H c=none
 pin:∀p∈X.pn++pins,s.heap.get? p.1=some p.2/\H p.1=none/\p.1≠X.env.locals/\p.1∉X.fs/\∀v,p.2.data≠.cell v
 hok:HOk X.prog X.w H s.heap
 len:σ.length=X.N.length
section
variable {X:Cx}{pins:List (Addr×Obj)}{σ:List (Option V)}{H H':Hp}{s:aaa}{h':aa4}
theorem Cx.Ok.nofr(ok:X.Ok){b:Addr}{o:Obj}(e:X.base.get? b=some o):b∉X.fs:=fun hb=>by
 have:=(ok.funs.mem hb).1;rw[e]at this;cases this
theorem Inv.bs(I:Inv X pins σ H s):∀b o,X.base.get? b=some o->s.heap.get? b=some o/\H b=none:=fun b o e =>
 ⟨I.base.keep b o (I.ok.bs b o e).1 (I.ok.bs b o e).2 (I.ok.nofr e) (I.ok.noex b o e),I.base.free b o (I.ok.bs b o e).1 (I.ok.bs b o e).2 (I.ok.noex b o e)⟩
theorem Inv.bk(I:Inv X pins σ H s):∀b o,X.base.get? b=some o->s.heap.get? b=some o:=fun b o e=>(I.bs b o e).1
theorem Inv.mod(I:Inv X pins σ H s):Mod X.K X.mg X.base:=I.ok.mod
theorem Inv.kIn(I:Inv X pins σ H s):X.K.In s.heap:=I.ok.mod.kin.keeps I.bk
theorem Inv.lt(I:Inv X pins σ H s):X.env.locals<s.heap.objs.size:=let ⟨_,hn,_⟩:=I.loc;hn.lt
theorem Inv.sz(I:Inv X pins σ H s):X.s₀.heap.objs.size≤s.heap.objs.size:=aaz I.ok.above (adQ I.lt)
theorem Inv.nofs(I:Inv X pins σ H s)(h:s.heap.objs.size≤a):a∉X.fs:=fun hb=>by
 obtain⟨_,o,ho,_⟩:=I.ok.funs.mem hb;exact absurd (aaA (aan ho) (aaz I.sz h)) (acK _)
theorem Inv.cne(I:Inv X pins σ H s):∀x c,X.env.cells.lookup x=some c->c≠X.env.locals:=fun x c e z=>by
 obtain⟨v,o,ho,hd⟩:=I.cell x c e;obtain⟨m,⟨o',es,ep,ho',hd',_⟩,_⟩:=I.loc;rw[z,ho']at ho;cases ho;rw[hd']at hd;cases hd
theorem Inv.funs(I:Inv X pins σ H s):s.heap.FunFrames X.base X.outer:=by
 have all:∀(l:List Env),(∀b∈frs l,b∈X.fs)->X.s₀.heap.FunFrames X.base l->s.heap.FunFrames X.base l:=by
  intro l
  induction l with
  |nil=>intro _ _;trivial
  |cons env r ih =>
   intro hs hl;obtain⟨hk,⟨L,o,hf,hn,ho,hd⟩,hr⟩:=hl;have hL:L∈X.fs:=hs L (by unfold frs;rw[ae9,hf];exact aaf);obtain⟨sl,e⟩:=I.base.slot L o ho (I.ok.frf L hL) hL fun z=>I.ok.exfs L z hL;exact⟨hk,⟨L,_,hf,hn,e,hd⟩,ih (fun b hb=>hs b (by unfold frs;rw[ae9,hf];exact aab _ hb)) hr⟩
 exact all X.outer (fun _ hb=>hb) I.ok.funs
theorem Inv.stack(I:Inv X pins σ H s):s.heap.FunFrames X.base X.stack:=by
 rcases I.ok.stk with e|⟨e,hf⟩
 .rw[e];exact I.funs
 .rw[e];obtain⟨m,hn,_⟩:=I.loc;refine .cons (by rw[I.ok.kind];decide) hf hn ?_ I.funs;exact aa4.get?_none_of_le (aaz I.ok.bsz I.ok.above)
theorem Inv.stkSub(I:Inv X pins σ H s):∀b∈frs X.stack,b∈X.env.locals::X.fs:=fun b hb=>by
 rcases I.ok.stk with e|⟨e,hf⟩
 .rw[e]at hb;exact aab _ hb
 .rw[e]at hb;unfold frs at hb;rw[ae9,hf]at hb;exact hb
theorem Inv.stkFree(I:Inv X pins σ H s):∀b∈frs X.stack,H b=none:=fun b hb=>by
 rcases aal.mp (I.stkSub b hb)with e|hb
 .rw[e];exact I.free
 .obtain⟨_,o,ho,_⟩:=I.ok.funs.mem hb;exact I.base.free b o ho (I.ok.frf b hb) fun z=>I.ok.exfs b z hb
theorem Inv.step{d':Drawn}(I:Inv X pins σ H s)
  (hch:∀b∈ch,(b∈X.ex\/X.s₀.heap.objs.size≤b)/\b≠X.env.locals/\(∀x c,X.env.cells.lookup x=some c->c≠b)/\∀p∈X.pn++pins,p.1≠b)
  (keep:∀b o,b≠X.env.locals->b∉X.fs->b∉ch->s.heap.get? b=some o->H b=none->h'.get? b=some o)
  (slot:∀b o,b≠X.env.locals->b∈X.fs->b∉ch->s.heap.get? b=some o->H b=none->∃sl,h'.get? b=some {o with slots:=sl}) (free:∀b o,b∉ch->s.heap.get? b=some o->H b=none->H' b=none)
  (there:∀b o,b∉ch->s.heap.get? b=some o->∃o',h'.get? b=some o')
  (tups:∀b xs,H b=some (.tup xs)->H' b=some (.tup xs)) (frzs:∀b o u,H b=some (.frz o u)->H' b=some (.frz o u)) (tbls:∀b ps,H b=some (.tbl ps)->∃more,H' b=some (.tbl (ps++more)))
  (ns:∀m,s.heap.Ns X.env.locals m->h'.Ns X.env.locals m) (hok:HOk X.prog X.w H' h') (hg:afA g') :
  Inv X pins σ H' {s with heap:=h',gens:=g',drawn:=d',toks:=t' }:=by
 have neL:∀b o,X.s₀.heap.get? b=some o->b≠X.env.locals:=fun b o e=>aa6 (aaA (aan e) I.ok.above);have neC:∀b o,X.s₀.heap.get? b=some o->b∉X.ex->b∉ch:=fun b o e hx hb=>by
  rcases (hch b hb).1 with z|z
  .exact hx z
  .exact absurd (aaA (aan e) z) (acK _)
 have cellK:∀x c,X.env.cells.lookup x=some c->∀v,s.heap.IsCell c v->h'.IsCell c v:=fun x c e v ⟨o,ho,hd⟩=>by
  have nch:c∉ch:=fun z=>(hch c z).2.2.1 x c e rfl
  by_cases hc:c∈X.fs
  .obtain⟨sl,q⟩:=slot c o (I.cne x c e) hc nch ho (I.freeC x c e);exact⟨_,q,hd⟩
  .exact⟨o,keep c o (I.cne x c e) hc nch ho (I.freeC x c e),hd⟩
 refine⟨I.ok,I.os,hg,⟨fun b o e n hb hx=>?_,fun b o e n hb hx=>?_,fun b o e n hx=>?_,fun b o e hx=>?_,fun b xs e=>tups b xs (I.base.tups b xs e),fun b o xs e=>frzs b o xs (I.base.frzs b o xs e),fun b ps e=>?_⟩,?_,fun x c e=>?_,?_,fun x c e=>?_,fun p hp=>?_,hok,I.len⟩
 .exact keep b o (neL b o e) hb (neC b o e hx) (I.base.keep b o e n hb hx) (I.base.free b o e n hx)
 .obtain⟨sl,e1⟩:=I.base.slot b o e n hb hx;obtain⟨sl',e2⟩:=slot b _ (neL b o e) hb (neC b o e hx) e1 (I.base.free b o e n hx);exact⟨sl',e2⟩
 .obtain⟨o',e1⟩:=I.base.there b o e hx;exact free b o' (neC b o e hx) e1 (I.base.free b o e n hx)
 .obtain⟨o',e1⟩:=I.base.there b o e hx;exact there b o' (neC b o e hx) e1
 .obtain⟨m1,e1⟩:=I.base.tbls b ps e;obtain⟨m2,e2⟩:=tbls b _ e1;exact⟨m1++m2,by rw[e2,Array.append_assoc]⟩
 .obtain⟨m,hn,hl⟩:=I.loc;refine⟨m,ns m hn,fun i x v e1 e2 e3=>?_⟩;obtain⟨u,r,l⟩:=hl i x v e1 e2 e3;refine⟨u,r,?_⟩;rcases l with l|⟨k,c,e,z⟩
  .exact .inl l
  .exact .inr ⟨k,c,e,cellK x c e _ z⟩
 .obtain⟨v,z⟩:=I.cell x c e;exact⟨v,cellK x c e v z⟩
 .obtain⟨m,⟨o,_,_,ho,_⟩,_⟩:=I.loc;exact free _ o (fun z=>(hch _ z).2.1 rfl) ho I.free
 .obtain⟨v,o,ho,hd⟩:=I.cell x c e;exact free c o (fun z=>(hch c z).2.2.1 x c e rfl) ho (I.freeC x c e)
 .obtain⟨e,n,ne,nf,d⟩:=I.pin p hp;have nch:p.1∉ch:=fun z=>(hch p.1 z).2.2.2 p hp rfl;exact⟨keep p.1 p.2 ne nf nch e n,free p.1 p.2 nch e n,ne,nf,d⟩
theorem Inv.un(I:Inv X pins σ H s)(u:Un X.fs [] H H' s.heap h')(hok:HOk X.prog X.w H' h'):Inv X pins σ H' {s with heap:=h',toks:=t' }:=by
 obtain⟨m,⟨o,es,ep,ho,r⟩,_⟩:=id I.loc;obtain⟨sl,hL⟩:=u.any ho I.free (by simp);exact I.step (g':=s.gens) (d':=s.drawn) (ch:=[]) (fun _ z=>nomatch z) (fun b o _ hb _ e n=>u.keep b o e n hb (by simp)) (fun b o _ hb _ e n=>u.slot b o e n hb (by simp)) (fun b o _ e n=>u.free b o e n (by simp)) (fun b o _ e=>u.there b o e (by simp)) u.tups u.frzs u.tbls (fun m' hm=>by
  obtain⟨o',es',ep',ho',r'⟩:=hm;rw[ho]at ho';cases ho';exact⟨_,es',ep',hL,r'⟩) hok I.bare
theorem Inv.call{d':Drawn}(I:Inv X pins σ H s)(u:Un (frs X.stack) ch H H' s.heap h')(hok:HOk X.prog X.w H' h')(hg:afA g')
  (hch:∀b∈ch,(b∈X.ex\/X.s₀.heap.objs.size≤b)/\b≠X.env.locals/\(∀x c,X.env.cells.lookup x=some c->c≠b)/\∀p∈X.pn++pins,p.1≠b) :
  Inv X pins σ H' {s with heap:=h',gens:=g',drawn:=d',toks:=t' }:=by
 obtain⟨m,⟨o,es,ep,ho,r⟩,_⟩:=id I.loc;obtain⟨sl,hL⟩:=u.any ho I.free fun z=>(hch _ z).2.1 rfl;exact I.step (ch:=ch) hch (fun b o hL hb hc e n=>u.keep b o e n (fun z=>(aal.mp (I.stkSub b z)).elim hL hb) hc) (fun b o _ _ hc e n=>u.any e n hc) (fun b o hc e n=>u.free b o e n hc) (fun b o hc e=>u.there b o e hc) u.tups u.frzs u.tbls (fun m' hm=>by
  obtain⟨o',es',ep',ho',r'⟩:=hm;rw[ho]at ho';cases ho';exact⟨_,es',ep',hL,r'⟩) hok hg
theorem Inv.turned{it:Addr}(I:Inv X pins σ H s)(k:∀b o,b≠it->s.heap.get? b=some o->h'.get? b=some o)(hn:H it=none)(hL:it≠X.env.locals)
  (h1:it∈X.ex\/X.s₀.heap.objs.size≤it) (h2:∀x c,X.env.cells.lookup x=some c->c≠it) (h3:∀p∈X.pn++pins,p.1≠it):Inv X pins σ H {s with heap:=h',toks:=t' }:=by
 have nit:∀b u,H b=some u->b≠it:=fun b u e z=>by rw[z,hn]at e;cases e
 refine I.step (g':=s.gens) (d':=s.drawn) (ch:=[it]) (fun b hb=>?_) (fun b o _ _ hc e _=>k b o (fun z=>hc (by simp[z])) e) (fun b o _ _ hc e _=>⟨o.slots,k b o (fun z=>hc (by simp[z])) e⟩) (fun _ _ _ _ n=>n)
  (fun b o hc e=>⟨o,k b o (fun z=>hc (by simp[z])) e⟩) (fun _ _ e=>e) (fun _ _ _ e=>e) (fun b ps e=>⟨#[],by rw[e];simp⟩) (fun m hm=>?_) (fun b u e=>?_) I.bare
 .have e:b=it:=by simpa using hb
  subst e;exact⟨h1,hL,h2,h3⟩
 .obtain⟨o,es,ep,ho,r⟩:=hm;exact⟨o,es,ep,k _ o (abz hL) ho,r⟩
 .refine(I.hok b u e).stay (fun c v hc q=>k c v ?_ q) (fun _ q=>q) fun _ _ q=>q;rcases hc with z|z
  .rw[z];exact nit b u e
  .exact nit c _ z
theorem Inv.tok(I:Inv X pins σ H s)(t:Nat):Inv X pins σ H {s with toks:=t}:=I.un (h':=s.heap) (t':=t) Un.refl I.hok
theorem Inv.kept(I:Inv X pins σ H s)(k:∀b u,s.heap.get? b=some u->h'.get? b=some u):Inv X pins σ H {s with heap:=h',toks:=t' }:=I.un (Un.kept k) (I.hok.kept k)
theorem Inv.laid(I:Inv X pins σ H s)(k:∀b u,s.heap.get? b=some u->h'.get? b=some u)(hp:s.heap.objs.size≤a)(new:ObjOk X.prog X.w (upd H a o) h' a o) :
  Inv X pins σ (upd H a o) {s with heap:=h',toks:=t' }:=I.un (Un.laid k hp (I.hok.fresh hp)) (I.hok.laid k hp new)
theorem Inv.write{x e:Addr}(I:Inv X pins σ H s)(mu:Mut (H x))(he:e=x\/H e=some (.own x))(k:∀b u,b≠e->s.heap.get? b=some u->h'.get? b=some u)(heo:∃u,h'.get? e=some u)
  (new:ObjOk X.prog X.w (upd H x o) h' x o):Inv X pins σ (upd H x o) {s with heap:=h',toks:=t' }:=I.un (Un.write mu he k heo) (I.hok.write mu he k heo new)
theorem Inv.pins_of{pins':List (Addr×Obj)}(I:Inv X pins σ H s)(h:∀p∈pins',s.heap.get? p.1=some p.2/\H p.1=none/\p.1≠X.env.locals/\p.1∉X.fs/\∀v,p.2.data≠.cell v):Inv X pins' σ H s :=
 ⟨I.ok,I.os,I.bare,I.base,I.loc,I.cell,I.free,I.freeC,fun p hp=>(aa2.mp hp).elim (fun z=>I.pin p (aeM _ z)) (h p),I.hok,I.len⟩
theorem uo(hN:N.Nodup)(a:N[i]?=some x)(b:N[j]?=some x):i=j:=by
 obtain⟨h1,e1⟩:=aad.mp a;obtain⟨h2,e2⟩:=aad.mp b;exact(List.getElem_inj hN).mp (e1.trans e2.symm)
theorem qx{Q:Unit->aaa->Prop}(I:Inv X pins σ H s)(hN:X.N.Nodup)(hi:X.N[i]?=some x)(hx:Loc X.env.scope x)(r:RelV v u)
  (h:∀s',Inv X pins (σ.set i (some v)) H s'->(∃a,abw a s.heap s'.heap/\(a=X.env.locals\/X.env.cells.lookup x=some a))->Q () s') (hf:X.fn x=true\/X.env.scope.names.lookup x=some .local:=by first|exact .inl rfl|exact .inr rfl|assumption):wpAny M A (storeName X.env x u) Q E s:=by
 obtain⟨m,hn,hl⟩:=id I.loc;have hcls:(X.env.scope.kind == .class||(X.env.scope.kind == .module&&X.env.locals != X.env.globals))=false:=by rw[I.ok.kind];rfl
 have hiσ:i<σ.length:=by rw[I.len];exact(aad.mp hi).1
 have cne:=I.cne;have tracked:∀{a:Addr}{h':aa4},(∃o,s.heap.get? a=some o/\H a=none)->abw a s.heap h'->HOk X.prog X.w H h':=fun {a h'} ha hs b ob e=>by
  obtain⟨_,_,hfree⟩:=ha;refine(I.hok b ob e).stay (fun c w' hc q=>(hs.2 c ?_).trans q) (fun _ q=>q) fun _ _ q=>q;rintro rfl;rcases hc with rfl|hc
  .rw[hfree]at e;cases e
  .rw[hfree]at hc;cases hc
 rcases hx with hk|hk
 .refine wpAny_storeName_local hk hn (fun h' hn' hs=>?_) hcls;obtain⟨oL,_,_,hoL,_⟩:=id hn;refine h _ ⟨I.ok,I.os,I.bare,⟨fun b o e n hb hx=>?_,fun b o e n hb hx=>?_,I.base.free,fun b o e hx=>?_,I.base.tups,I.base.frzs,I.base.tbls⟩,⟨_,hn',fun j y v' e1 e2 e3=>?_⟩,fun y c e=>?_,I.free,I.freeC,fun p hp=>?_,tracked ⟨oL,hoL,I.free⟩ hs,by simpa using I.len⟩ ⟨_,hs,.inl rfl⟩
  .exact(hs.2 b (aa6 (aaA (aan e) I.ok.above))).trans (I.base.keep b o e n hb hx)
  .obtain⟨sl,e1⟩:=I.base.slot b o e n hb hx;exact⟨sl,(hs.2 b (aa6 (aaA (aan e) I.ok.above))).trans e1⟩
  .obtain⟨o',e1⟩:=I.base.there b o e hx;exact⟨o',(hs.2 b (aa6 (aaA (aan e) I.ok.above))).trans e1⟩
  .by_cases hj:j=i
   .subst hj;rw[hi]at e1;cases e1;rw[aaZ hiσ]at e2;cases e2;exact⟨u,r,.inl ⟨hk,by simp⟩⟩
   .rw[aaS (abz hj)]at e2;obtain⟨u',r',q⟩:=hl j y v' e1 e2 e3;refine⟨u',r',?_⟩;rcases q with⟨k,e⟩|⟨k,c,e,z⟩
    .refine .inl ⟨k,?_⟩;have:y≠x:=fun e=>hj (uo hN e1 (e▸hi));simp[this,e]
    .exact .inr ⟨k,c,e,z.sameBut hs (cne y c e)⟩
  .obtain⟨w',z⟩:=I.cell y c e;exact⟨w',z.sameBut hs (cne y c e)⟩
  .obtain⟨e,n,ne,nf,d⟩:=I.pin p hp;exact⟨(hs.2 p.1 ne).trans e,n,ne,nf,d⟩
 .have hfn:X.fn x=true:=by
   rcases hf with z|z
   .exact z
   .rw[z]at hk;cases hk
  obtain⟨c,hc⟩:=I.ok.has x (.inl hk);obtain⟨w',z⟩:=I.cell x c hc;refine wpAny_storeName_cell I.ok.kind hk hc z (fun h' hc' hs=>?_);obtain⟨oc,hoc,hocd⟩:=id z;refine h {s with heap:=h' } ⟨I.ok,I.os,I.bare,⟨fun b o e n hb hx=>?_,fun b o e n hb hx=>?_,I.base.free,fun b o e hx=>?_,I.base.tups,I.base.frzs,I.base.tbls⟩,⟨m,hn.sameBut hs (abz (cne x c hc)),fun j y v' e1 e2 e3=>?_⟩,fun y c' e=>?_,I.free,I.freeC,fun p hp=>?_,tracked ⟨oc,hoc,I.freeC x c hc⟩ hs,by simpa using I.len⟩ ⟨c,hs,.inr hc⟩
  .exact(hs.2 b (aa6 (aaA (aan e) (I.ok.cab x c hfn hc)))).trans (I.base.keep b o e n hb hx)
  .obtain⟨sl,e1⟩:=I.base.slot b o e n hb hx;exact⟨sl,(hs.2 b (aa6 (aaA (aan e) (I.ok.cab x c hfn hc)))).trans e1⟩
  .obtain⟨o',e1⟩:=I.base.there b o e hx;exact⟨o',(hs.2 b (aa6 (aaA (aan e) (I.ok.cab x c hfn hc)))).trans e1⟩
  .by_cases hj:j=i
   .subst hj;rw[hi]at e1;cases e1;rw[aaZ hiσ]at e2;cases e2;exact⟨u,r,.inr ⟨.inl hk,c,hc,hc'⟩⟩
   .rw[aaS (abz hj)]at e2;obtain⟨u',r',q⟩:=hl j y v' e1 e2 e3;refine⟨u',r',?_⟩;rcases q with q|⟨k,c',e,z'⟩
    .exact .inl q
    .refine .inr ⟨k,c',e,z'.sameBut hs ?_⟩;rintro rfl;exact hj (uo hN e1 (I.ok.inj _ _ _ e hc▸hi))
  .by_cases hcc:c'=c
   .subst hcc;exact⟨_,hc'⟩
   .obtain⟨w2,z2⟩:=I.cell y c' e;exact⟨w2,z2.sameBut hs hcc⟩
  .obtain⟨e,n,ne,nf,d⟩:=I.pin p hp;refine⟨(hs.2 p.1 ?_).trans e,n,ne,nf,d⟩;intro q;rw[q,hoc]at e;have q':oc=p.2:=aau e;exact d w' (by rw[<-q'];exact hocd)
theorem jB{Q:Unit->aaa->Prop}(I:Inv X pins σ H s)(hN:X.N.Nodup)(hi:X.N[i]?=some x)(hx:Loc X.env.scope x)(r:RelV v u)
  (h:∀s',Inv X pins (σ.set i (some v)) H s'->Q () s') (hf:X.fn x=true\/X.env.scope.names.lookup x=some .local:=by first|exact .inl rfl|exact .inr rfl|assumption):wpAny M A (storeName X.env x u) Q E s :=
 qx I hN hi hx r (fun s' I' _=>h s' I') hf
theorem Inv.call'{s':aaa}(I:Inv X pins σ H s)(ho:s'.os=s.os)(u:Un (frs X.stack) ch H H' s.heap s'.heap)(hok:HOk X.prog X.w H' s'.heap)(hg:afA s'.gens)
  (hch:∀b∈ch,(b∈X.ex\/X.s₀.heap.objs.size≤b)/\b≠X.env.locals/\(∀x c,X.env.cells.lookup x=some c->c≠b)/\∀p∈X.pn++pins,p.1≠b):Inv X pins σ H' s':=by
 obtain⟨h',g',d',t',o'⟩:=s';have e:o'=s.os:=ho;subst e;exact I.call (g':=g') (t':=t') (d':=d') u hok hg hch
end
abbrev XK:=GE->Option Addr->Hp->Prop
abbrev St:=List (Option V)
abbrev VK:=V->Hp->Prop
abbrev TE:=St->Hp->VK->Prop
abbrev TT:=St->Hp->(Bool->Hp->Prop)->Prop
abbrev TA:=St->Hp->(List V->Hp->Prop)->Prop
structure Ends where
 nx:St->Hp->Prop
 rt:VK
 bk:St->Hp->Prop:=fun _ _=>False
 ct:St->Hp->Prop:=fun _ _=>False
abbrev TS:=Ends->St->Hp->Prop
def EP(X:Cx)(pins:List (Addr×Obj))(σ:St)(Q:VK)(u:GE)(s':aaa):Prop:=∃v H',Inv X pins σ H' s'/\RelV v u/\Q v H'
def TP(X:Cx)(pins:List (Addr×Obj))(σ:St)(Q:Bool->Hp->Prop)(b:Bool)(s':aaa):Prop:=∃H',Inv X pins σ H' s'/\Q b H'
def AP(X:Cx)(pins:List (Addr×Obj))(σ:St)(Q:List V->Hp->Prop)(us:List GE)(s':aaa):Prop:=∃vs H',Inv X pins σ H' s'/\Vals vs us/\Q vs H'
def SP(X:Cx)(pins:List (Addr×Obj))(D:Ends)(f:Flow)(s':aaa):Prop :=
 match f with
 | .next=>∃σ' H',Inv X pins σ' H' s'/\D.nx σ' H'
 | .brk=>∃σ' H',Inv X pins σ' H' s'/\D.bk σ' H'
 | .cont=>∃σ' H',Inv X pins σ' H' s'/\D.ct σ' H'
 | .ret u=>∃v σ' H',Inv X pins σ' H' s'/\RelV v u/\D.rt v H'
def PE(X:Cx)(e:Expr)(t:TE):Prop :=
 ∀(pins:List (Addr×Obj)) (s:aaa) (σ:St) (H:Hp) (Q:VK),Inv X pins σ H s->t σ H Q->wpAny (model X.prog X.w) X.A (eval e X.env) (EP X pins σ Q) X.xe s
def PT(X:Cx)(e:Expr)(t:TT):Prop :=
 ∀(pins:List (Addr×Obj)) (s:aaa) (σ:St) (H:Hp) (Q:Bool->Hp->Prop),Inv X pins σ H s->t σ H Q->wpAny (model X.prog X.w) X.A (isTrue e X.env (eval e X.env)) (TP X pins σ Q) X.xe s
def PW(X:Cx)(e:Expr)(t:TT):Prop :=
 ∀(whole:Sem GE) (pins:List (Addr×Obj)) (s:aaa) (σ:St) (H:Hp) (Q:Bool->Hp->Prop),Inv X pins σ H s->t σ H Q->wpAny (model X.prog X.w) X.A (isTrue e X.env whole) (TP X pins σ Q) X.xe s
theorem PW.pt{t:TT}(h:PW X e t):PT X e t:=h _
def PA(X:Cx)(es:List Expr)(t:TA):Prop :=
 ∀(pos:Pos) (pins:List (Addr×Obj)) (s:aaa) (σ:St) (H:Hp) (Q:List V->Hp->Prop),Inv X pins σ H s->t σ H Q->wpAny (model X.prog X.w) X.A (spliced (ace pos (aao es X.env))) (AP X pins σ Q) X.xe s
def PS(X:Cx)(st:Stmt)(t:TS):Prop :=
 ∀(pins:List (Addr×Obj)) (s:aaa) (σ:St) (H:Hp) (D:Ends),Inv X pins σ H s->t D σ H->wpAny (model X.prog X.w) X.A (exec st X.env) (SP X pins D) X.xe s
def PSs(X:Cx)(st:List Stmt)(t:TS):Prop :=
 ∀(pins:List (Addr×Obj)) (s:aaa) (σ:St) (H:Hp) (D:Ends),Inv X pins σ H s->t D σ H->wpAny (model X.prog X.w) X.A (execs st X.env) (SP X pins D) X.xe s
theorem thn{α:Type}{t:Sem α}{Q Q':α->aaa->Prop}{s:aaa}(h:wpAny M A t Q E s)(hQ:∀a s,Q a s->Q' a s):wpAny M A t Q' E s:=aef h hQ fun _ _ x=>x
section
variable {X:Cx}
def tVar(i:Nat):TE:=fun σ H Q=>∃v,σ[i]?=some (some v)/\Q v H
def tC(v:V):TE:=fun _ H Q=>Q v H
theorem Qh(hN:X.N[i]?=some x)(hv:Vis X.env.scope x)(hd:(x==("__debug__" : Str))=false:=by decide)(hcd:(x==("__classdict__" : Str))=false:=by decide):PE X (.Name x pos) (tVar i):=by
 intro pins s σ H Q I h;obtain⟨v,e,h⟩:=h;obtain⟨m,hn,hl⟩:=I.loc;obtain⟨u,r,l⟩:=hl i x v hN e hv;have fin:EP X pins σ Q u s:=⟨v,H,I,r,h⟩;rcases l with⟨hk,hm⟩|⟨hk,c,hc,hcell⟩
 .exact wpAny_Name (wpAny_loadName_local I.ok.kind hk hn hm fin) hd
 .rcases hk with hk|hk
  .exact wpAny_Name (wpAny_loadName_cell I.ok.kind hk hc hcell fin) hd
  .exact wpAny_Name (wpAny_loadName_free I.ok.kind hk hc hcell fin hcd) hd
theorem OI{i j pos}:PE X (.Constant (.int i) j pos) (tC (.int i)):=fun _ _ _ H _ I h=>wpAny_Constant_int ⟨.int i,H,I.tok _,⟨_,rfl⟩,h⟩
theorem R8{b j pos}:PE X (.Constant (.bool b) j pos) (tC (.bl b)):=fun _ _ _ H _ I h=>Constant_bool ⟨.bl b,H,I,rfl,h⟩
theorem Pk{j pos}:PE X (.Constant .none j pos) (tC .non):=fun _ _ _ H _ I h=>Constant_none ⟨.non,H,I,rfl,h⟩
theorem Kl{x j pos}:PE X (.Constant (.str x) j pos) (tC (.str x)):=fun _ _ _ H _ I h=>Calls.Constant_str ⟨.str x,H,I.tok _,⟨_,rfl⟩,h⟩
def Gl(X:Cx)(x:Str):Prop:=X.env.kindOf x=some .globalImplicit
theorem xN{s:aaa}(I:Inv X pins σ H s)(hg:Gl X x)(hm:X.mg x=some u)(h:Q u s)
  (hd:(x==("__debug__" : Str))=false:=by decide):wpAny (model X.prog X.w) X.A (eval (.Name x pos) X.env) Q E s :=
 aff I.ok.kind hg (Calls.loadGlobal_global (by rw[I.ok.glob];exact I.mod.glob.keeps I.bk) hm h) hd
theorem ll{s:aaa}(I:Inv X pins σ H s)(hg:Gl X x)(hm:X.mg x=none)(hv:abj x=some u)(h:Q u s)
  (hn:x ≠ "__name__" :=by decide) (hd:(x==("__debug__" : Str))=false:=by decide):wpAny (model X.prog X.w) X.A (eval (.Name x pos) X.env) Q E s:=by
 obtain⟨mb,h1,h2⟩:=I.mod.blt;exact aff I.ok.kind hg (Calls.loadGlobal_builtin (by rw[I.ok.glob];exact I.mod.glob.keeps I.bk) hm (by rw[I.ok.blt];exact h1.keeps I.bk) ((h2 x hn).trans hv) h) hd
theorem Gm(hg:Gl X x)(hm:X.mg x=some u)(r:RelV v u)(hd:(x==("__debug__" : Str))=false:=by decide):PE X (.Name x pos) (tC v) :=
 fun _ _ _ H _ I h=>xN I hg hm ⟨v,H,I,r,h⟩ hd
variable {a b:Expr}{ta tb:TE}{pos:Pos}
def tB(t:TE):TT:=fun σ H Q=>t σ H fun x H1=>∃c,x = .bl c/\Q c H1
theorem LH{t:TE}(h:PE X e t)(he:∀whole,isTrue e X.env whole=(do let v <- whole;adp e.pos;adK [v] (truthy v)):=by intro _;rfl):PT X e (tB t):=by
 intro pins s σ H Q I hw;refine isTrue_plain (thn (h pins s σ H _ I hw) fun v s1 ⟨x,H1,I1,r1,q1⟩=>?_) (he _);obtain⟨d,rfl,q⟩:=q1;cases r1;exact wpAny_truthy_bool ⟨H1,I1,q⟩
variable {tA tB':TT}{rest:List Expr}
def tAnd(t u:TT):TT:=fun σ H Q=>t σ H fun c H1=>if c=true then u σ H1 Q else Q false H1
def tOr(t u:TT):TT:=fun σ H Q=>t σ H fun c H1=>if c=true then Q true H1 else u σ H1 Q
def tNot(t:TT):TT:=fun σ H Q=>t σ H fun c H1=>Q (!c) H1
theorem Je(ha:PT X a tA):PW X (.BoolOp .And [a] pos) tA:=by
 intro wh pins s σ H Q I h;refine isTrue_and (thn (ha pins s σ H Q I h) fun c s1 e=>?_)
 cases c with
 |true=>exact isTrue_and_nil e
 |false=>exact e
theorem Oi(ha:PT X a tA):PW X (.BoolOp .Or [a] pos) tA:=by
 intro wh pins s σ H Q I h;refine isTrue_or (thn (ha pins s σ H Q I h) fun c s1 e=>?_)
 cases c with
 |false=>exact isTrue_or_nil e
 |true=>exact e
theorem PF(ha:PT X a tA)(hb:PW X (.BoolOp .And (b::rest) pos) tB'):PW X (.BoolOp .And (a::b::rest) pos) (tAnd tA tB'):=by
 intro wh pins s σ H Q I h;refine isTrue_and (thn (ha pins s σ H _ I h) fun c s1 ⟨H1,I1,q1⟩=>?_)
 cases c with
 |true=>exact hb wh pins s1 σ H1 Q I1 q1
 |false=>exact⟨H1,I1,q1⟩
theorem SG(ha:PT X a tA)(hb:PW X (.BoolOp .Or (b::rest) pos) tB'):PW X (.BoolOp .Or (a::b::rest) pos) (tOr tA tB'):=by
 intro wh pins s σ H Q I h;refine isTrue_or (thn (ha pins s σ H _ I h) fun c s1 ⟨H1,I1,q1⟩=>?_)
 cases c with
 |true=>exact⟨H1,I1,q1⟩
 |false=>exact hb wh pins s1 σ H1 Q I1 q1
theorem P7(ha:PT X a tA):PT X (.UnaryOp .Not a pos) (tNot tA):=by
 intro pins s σ H Q I h;exact isTrue_not (ha pins s σ H (fun c H1=>Q (!c) H1) I h)
end
def SqL(K:aaj)(H:Hp)(a:Addr)(xs:List V):Prop :=
 Rd H a (.lst xs) \/
  ∃(o:Obj) (its:Array GE) (n:Nat),K.lookup a=some o/\o.cls = .type "list" /\ o.dict=none/\o.data = .seq its n/\its.size≤aam/\Vals xs its.toList
def SqT(K:aaj)(H:Hp)(a:Addr)(xs:List V):Prop :=
 Rd H a (.tup xs) \/
  ∃(o:Obj) (its:Array GE) (n:Nat),K.lookup a=some o/\o.cls = .type "tuple" /\ o.dict=none/\o.data = .seq its n/\its.size≤aam/\Vals xs its.toList
def absV:GE->Option V
 | .none=>some .non
 | .bool b=>some (.bl b)
 | .int i _=>some (.int i)
 | .str x _=>some (.str x)
 | .bytes b _=>some (.byt b)
 | .float b _=>some (.flt b)
 | .ref a=>some (.ref a)
 | .type n=>some (.ty n)
 |_=>none
theorem RelV.abs{x:V}(r:RelV x u):absV u=some x:=by
 cases x with
 |non=>cases r;rfl
 |bl _=>cases r;rfl
 |int _=>obtain⟨t,rfl⟩:=r;rfl
 |str _=>obtain⟨t,rfl⟩:=r;rfl
 |byt _=>obtain⟨t,rfl⟩:=r;rfl
 |flt _=>obtain⟨t,rfl⟩:=r;rfl
 |ref _=>cases r;rfl
 |ty _=>cases r;rfl
theorem RelV.inj{x y:V}(r:RelV x u)(q:RelV y u):x=y:=aau (r.abs.symm.trans q.abs)
theorem Vals.inj:∀{xs ys:List V}{us:List GE},Vals xs us->Vals ys us->xs=ys
 |_,_,_,.nil,.nil=>rfl
 |_,_,_,.cons r t,.cons r' t'=>by rw[r.inj r',Vals.inj t t']
section
variable {X:Cx}{pins:List (Addr×Obj)}{σ:St}{H:Hp}{s:aaa}{a:Addr}{xs ys:List V}
theorem SqL.of(h:H a=some (.lst xs)):SqL K H a xs:=.inl (.inl h)
theorem SqT.of(h:H a=some (.tup xs)):SqT K H a xs:=.inl (.inl h)
theorem Inv.list(I:Inv X pins σ H s)(h:SqL X.K H a xs):∃its:List GE,Vals xs its/\PlainL s.heap a its.toArray/\xs.length≤aam:=by
 rcases h with h|⟨o,its,n,hk,hc,hd,hs,hz,r⟩
 .obtain⟨z,its,n,r,e⟩:=h.ok I.hok;exact⟨its,r,⟨_,n,e,rfl,rfl,rfl⟩,z⟩
 .refine⟨its.toList,r,⟨o,n,I.kIn a o hk,hc,hd,by simpa using hs⟩,?_⟩;have e:=r.length;simp only[abm]at e;omega
theorem Inv.tuple(I:Inv X pins σ H s)(h:SqT X.K H a xs):∃its:List GE,Vals xs its/\IsTup s.heap a its.toArray/\xs.length≤aam:=by
 rcases h with h|⟨o,its,n,hk,hc,hd,hs,hz,r⟩
 .obtain⟨z,its,r,p⟩:=h.ok I.hok;exact⟨its,r,p.tup,z⟩
 .refine⟨its.toList,r,⟨o,I.kIn a o hk,hc,n,by simpa using hs⟩,?_⟩;have e:=r.length;simp only[abm]at e;omega
theorem Inv.tupleP(I:Inv X pins σ H s)(h:SqT X.K H a xs):∃its:List GE,Vals xs its/\PlainT s.heap a its.toArray/\xs.length≤aam:=by
 rcases h with h|⟨o,its,n,hk,hc,hd,hs,hz,r⟩
 .obtain⟨z,its,r,p⟩:=h.ok I.hok;exact⟨its,r,p,z⟩
 .refine⟨its.toList,r,⟨o,I.kIn a o hk,hc,hd,n,by simpa using hs⟩,?_⟩;have e:=r.length;simp only[abm]at e;omega
theorem Inv.list_inj(I:Inv X pins σ H s)(h:SqL X.K H a xs)(h':SqL X.K H a ys):xs=ys:=by
 obtain⟨its,r,⟨o,n,e,_,_,d⟩,_⟩:=I.list h;obtain⟨its',r',⟨o',n',e',_,_,d'⟩,_⟩:=I.list h';rw[e]at e';cases e';rw[d]at d';injection d' with d1 _
 have:its=its':=by simpa using congrArg aht d1
 subst this;exact r.inj r'
theorem Inv.tuple_inj(I:Inv X pins σ H s)(h:SqT X.K H a xs)(h':SqT X.K H a ys):xs=ys:=by
 obtain⟨its,r,⟨o,e,_,n,d⟩,_⟩:=I.tuple h;obtain⟨its',r',⟨o',e',_,n',d'⟩,_⟩:=I.tuple h';rw[e]at e';cases e';rw[d]at d';injection d' with d1 _
 have:its=its':=by simpa using congrArg aht d1
 subst this;exact r.inj r'
end
abbrev Cx.wish(X:Cx)(E:GE->aaa->Prop):Cx:={X with xe:=E}
abbrev Cx.nox(X:Cx):Cx:=X.wish fun _ _=>False
theorem Cx.Ok.wish(ok:X.Ok)(E:GE->aaa->Prop):(X.wish E).Ok :=
 ⟨ok.mod,ok.kind,ok.glob,ok.blt,ok.above,ok.inj,ok.has,ok.cab,ok.hd,ok.frames,ok.stk,ok.exf,ok.bs,ok.bsz,ok.noex,ok.exfs,ok.funs,ok.frf⟩
theorem Cx.Ok.unwish(ok:(X.wish E).Ok):X.Ok :=
 ⟨ok.mod,ok.kind,ok.glob,ok.blt,ok.above,ok.inj,ok.has,ok.cab,ok.hd,ok.frames,ok.stk,ok.exf,ok.bs,ok.bsz,ok.noex,ok.exfs,ok.funs,ok.frf⟩
section
variable {X:Cx}{pins:List (Addr×Obj)}{σ:St}{H:Hp}{s:aaa}{E:GE->aaa->Prop}
theorem Inv.wish(I:Inv X pins σ H s)(E:GE->aaa->Prop):Inv (X.wish E) pins σ H s:=⟨I.ok.wish E,I.os,I.bare,I.base,I.loc,I.cell,I.free,I.freeC,I.pin,I.hok,I.len⟩
theorem Inv.unwish(I:Inv (X.wish E) pins σ H s):Inv X pins σ H s:=⟨I.ok.unwish,I.os,I.bare,I.base,I.loc,I.cell,I.free,I.freeC,I.pin,I.hok,I.len⟩
theorem SP.unwish{D:Ends}{f:Flow}{s':aaa}(h:SP (X.wish E) pins D f s'):SP X pins D f s':=by
 cases f with
 |next=>obtain⟨σ',H',I,q⟩:=h;exact⟨σ',H',I.unwish,q⟩
 |brk=>obtain⟨σ',H',I,q⟩:=h;exact⟨σ',H',I.unwish,q⟩
 |cont=>obtain⟨σ',H',I,q⟩:=h;exact⟨σ',H',I.unwish,q⟩
 |ret u=>obtain⟨v,σ',H',I,r,q⟩:=h;exact⟨v,σ',H',I.unwish,r,q⟩
theorem PSs.nox{st:List Stmt}{t:TS}(h:PSs X.nox st t):PSs X st t:=fun pins s σ H D I hw =>
 aef (h pins s σ H D (I.wish _) hw) (fun _ _ q=>q.unwish) fun _ _ z=>adq z
end
section
variable {X:Cx}{st:Stmt}{rest:List Stmt}{t u:TS}{e:Expr}{te:TE}{pos:Pos}
def SF:TS:=fun D σ H=>D.nx σ H
def tSeq(t u:TS):TS:=fun D σ H=>t {D with nx:=u D} σ H
theorem JY:PSs X [] SF:=fun _ _ σ H _ I h=>aeZ ⟨σ,H,I,h⟩
theorem DM(h1:PS X st t)(h2:PSs X rest u):PSs X (st::rest) (tSeq t u):=by
 intro pins s σ H D I h;refine wpAny_execs_cons (thn (h1 pins s σ H {D with nx:=u D} I h) fun f s1 q=>?_)
 cases f with
 |next =>
  obtain⟨σ',H',I',q⟩:=q;exact h2 pins s1 σ' H' D I' q
 |ret v=>exact q
 |brk=>exact q
 |cont=>exact q
theorem JU(h1:PS X st t):PSs X [st] t:=by
 intro pins s σ H D I h;refine wpAny_execs_cons (thn (h1 pins s σ H D I h) fun f s1 q=>?_)
 cases f with
 |next=>exact aeZ q
 |ret v=>exact q
 |brk=>exact q
 |cont=>exact q
theorem Inv.quiet{s:aaa}(I:Inv X pins σ H s):interactive X.env=false:=by simp[interactive,I.ok.kind]
def Qi(te:TE):TS:=fun D σ H=>te σ H fun _ H1=>D.nx σ H1
theorem JK(he:PE X e te)(hs:abY e none pos.line X.env=pure false:=by rfl):PS X (.Expr e pos) (Qi te):=by
 intro pins s σ H D I h;exact wpAny_Expr_any (thn (he pins s σ H _ I h) fun v s1 ⟨x,H1,I1,r1,q1⟩=>⟨σ,H1,I1,q1⟩) I.quiet hs
def tRet(te:TE):TS:=fun D σ H=>te σ H D.rt
theorem Kh(he:PE X e te):PS X (.Return (some e) pos) (tRet te):=by
 intro pins s σ H D I h;exact wpAny_Return_some (thn (he pins s σ H _ I h) fun v s1 ⟨x,H1,I1,r1,q1⟩=>⟨x,σ,H1,I1,r1,q1⟩)
def tIfS(c:TT)(t u:TS):TS:=fun D σ H=>c σ H fun b H1=>if b=true then t D σ H1 else u D σ H1
theorem Sx{c:Expr}{a b:List Stmt}{tc:TT}(hc:PT X c tc)(ha:PSs X a t)(hb:PSs X b u):PS X (.If c a b pos) (tIfS tc t u):=by
 intro pins s σ H D I h;refine wpAny_If (thn (hc pins s σ H _ I h) fun d s1 ⟨H1,I1,q1⟩=>?_)
 cases d with
 |true=>exact ha pins s1 σ H1 D I1 q1
 |false=>exact hb pins s1 σ H1 D I1 q1
def KI:TS:=fun _ _ _=>False
theorem CP:PS X st KI:=fun _ _ _ _ _ _ h=>h.elim
end
abbrev TG:=V->St->Hp->(St->Hp->Prop)->Prop
abbrev TGs:=List V->St->Hp->(St->Hp->Prop)->Prop
def PG(X:Cx)(target:Expr)(t:TG):Prop :=
 ∀(pins:List (Addr×Obj)) (s:aaa) (σ:St) (H:Hp) (v:V) (u:GE) (Q:St->Hp->Prop),Inv X pins σ H s->RelV v u->t v σ H Q ->
  wpAny (model X.prog X.w) X.A (ada target X.env u) (fun _ s'=>∃σ' H',Inv X pins σ' H' s'/\Q σ' H') X.xe s
def PGs(X:Cx)(ts:List Expr)(t:TGs):Prop :=
 ∀(pins:List (Addr×Obj)) (s:aaa) (σ:St) (H:Hp) (vs:List V) (us:List GE) (Q:St->Hp->Prop),Inv X pins σ H s->Vals vs us->t vs σ H Q ->
  wpAny (model X.prog X.w) X.A (ahe ((abM ts X.env).map (·.2)) us) (fun _ s'=>∃σ' H',Inv X pins σ' H' s'/\Q σ' H') X.xe s
abbrev TSet:=V->V->V->Hp->(Hp->Prop)->Prop
def PSet(X:Cx)(t:TSet):Prop :=
 ∀(pins:List (Addr×Obj)) (s:aaa) (σ:St) (H:Hp) (o i v:V) (ov iv u:GE) (Q:Hp->Prop),Inv X pins σ H s->RelV o ov->RelV i iv->RelV v u->t o i v H Q ->
  wpAny (model X.prog X.w) X.A (ag1 ov iv u) (fun _ s'=>∃H',Inv X pins σ H' s'/\Q H') X.xe s
section
variable {X:Cx}{pos:Pos}
def Bx(i:Nat):TG:=fun v σ H Q=>Q (σ.set i (some v)) H
theorem JJ(hN:X.N.Nodup)(hi:X.N[i]?=some x)(hx:Loc X.env.scope x)(hf:X.fn x=true\/X.env.scope.names.lookup x=some .local:=by first|exact .inl rfl|exact .inr rfl|assumption):PG X (.Name x pos) (Bx i):=by
 intro pins s σ H v u Q I r h;exact wpAny_assign_Name (jB I hN hi hx r (fun s' I'=>⟨_,H,I',h⟩) hf)
def gNil:TGs:=fun vs σ H Q=>vs=[]/\Q σ H
def R9(t:TG)(u:TGs):TGs:=fun vs σ H Q=>∃v r,vs=v::r/\t v σ H fun σ' H'=>u r σ' H' Q
theorem Ip:PGs X [] gNil:=by
 intro pins s σ H vs us Q I r h;obtain⟨e,h⟩:=h;subst e;cases r;exact assignInOrder_nil ⟨σ,H,I,h⟩
theorem Bz{t:TG}{u:TGs}(h1:PG X e t)(h2:PGs X es u)
  (hs:(abM (e::es) X.env).map (·.2)=ada e X.env::(abM es X.env).map (·.2):=by rfl):PGs X (e::es) (R9 t u):=by
 intro pins s σ H vs us Q I r h;obtain⟨v,vr,e1,h⟩:=h;subst e1
 cases r with
 |cons r rr =>
  rw[hs];refine afg (thn (h1 pins s σ H _ _ _ I r h) fun _ s1 ⟨σ1,H1,I1,q1⟩=>?_);exact h2 pins s1 σ1 H1 _ _ Q I1 rr q1
def gTup(K:aaj)(n:Nat)(t:TGs):TG:=fun v σ H Q=>∃a xs,v = .ref a/\SqT K H a xs/\xs.length=n/\t xs σ H Q
theorem OL{k:Nat}{t:TGs}{n:Nat}(hc:X.calm=true)(h:PGs X es t)
  (hn:(abM es X.env).length=n:=by rfl) (hst:(abM es X.env).findIdx? (·.1)=none:=by rfl):PG X (.Tuple es k pos) (gTup X.K n t):=by
 intro pins s σ H v u Q I r hw;obtain⟨a,xs,e1,hq,hl,hw⟩:=hw;subst e1;cases r;obtain⟨its,rv,ht,hz⟩:=I.tuple hq;refine assign_Tuple_tuple (I.ok.hd hc) ht (by simp[hn,<-hl,rv.length]) hst fun h' hx=>?_;have I1:Inv X pins σ H {s with heap:=h' }:=I.kept (t':=s.toks) fun b o e=>hx b o (aa6 (aan e)) e;exact h pins _ σ H xs _ Q I1 (by simpa using rv) hw
def gSub(to ti:TE)(t:TSet):TG:=fun v σ H Q=>to σ H fun o H1=>ti σ H1 fun i H2=>t o i v H2 fun H3=>Q σ H3
theorem N6{o i:Expr}{to ti:TE}{t:TSet}(ho:PE X o to)(hi:PE X i ti)(hs:PSet X t)
  (ha:∀v,ada (.Subscript o i pos) X.env v=(do
   let ov <- adK [v] (eval o X.env)
   let iv <- adK [v,ov] (eval i X.env)
   adp pos
   adK [v,ov,iv] (ag1 ov iv v)
   release [v,ov,iv] []):=by intro _;rfl):PG X (.Subscript o i pos) (gSub to ti t):=by
 intro pins s σ H v u Q I r h;rw[ha];refine gE (abZ (thn (ho pins s σ H _ I h) fun ov s1 ⟨x,H1,I1,r1,q1⟩=>?_));refine gE (abZ (thn (hi pins s1 σ H1 _ I1 q1) fun iv s2 ⟨y,H2,I2,r2,q2⟩=>?_));refine gE (adb (gE (abZ (thn (hs pins s2 σ H2 x y v ov iv u _ I2 r1 r2 r q2) fun _ s3 ⟨H3,I3,q3⟩=>?_))));exact wpAny_release ⟨σ,H3,I3,q3⟩
def tAsg(te:TE)(g:TG):TS:=fun D σ H=>te σ H fun x H1=>g x σ H1 D.nx
theorem Fo{te:TE}{g:TG}(he:PE X e te)(hg:PG X tg g)(hs:adc [tg] e pos.line X.env=pure false:=by rfl)(hw:add [tg] e X.env=pure none:=by rfl)
  (h1:(abM [tg] X.env).map (·.2)=[ada tg X.env]:=by rfl):PS X (.Assign [tg] e pos) (tAsg te g):=by
 intro pins s σ H D I h;refine wpAny_Assign_stores (thn (he pins s σ H _ I h) fun v s1 ⟨x,H1,I1,r1,q1⟩=>?_) hs hw;rw[h1];exact thn (hg pins s1 σ H1 x v _ I1 r1 q1) fun _ s2 q=>q
theorem O9{te:TE}{pos':Pos}(hN:X.N.Nodup)(hi:X.N[i]?=some x)(hx:Loc X.env.scope x)(he:PE X e te)(hs:abY e (some (.Name x pos')) pos.line X.env=pure false:=by rfl)(hf:X.fn x=true\/X.env.scope.names.lookup x=some .local:=by first|exact .inl rfl|exact .inr rfl|assumption) :
  PS X (.Assign [.Name x pos'] e pos) (tAsg te (Bx i)):=by
 intro pins s σ H D I h;refine wpAny_Assign_Name (thn (he pins s σ H _ I h) fun v s1 ⟨y,H1,I1,r1,q1⟩=>?_) hs;exact jB I1 hN hi hx r1 (fun s2 I2=>⟨_,H1,I2,q1⟩) hf
def tPar(i j:Nat)(ta:TA):TS:=fun D σ H=>ta σ H fun vs H1=>∃v w,vs=[v,w]/\D.nx ((σ.set i (some v)).set j (some w)) H1
theorem Oq{y:Str}{a b:Expr}{ta:TA}{px py pt:Pos}{kt k2 pt2}(hc:X.calm=true)(hN:X.N.Nodup)(hi:X.N[i]?=some x)(hj:X.N[j]?=some y)(hij:i≠j)
  (hx:X.env.scope.names.lookup x=some .local) (hy:X.env.scope.names.lookup y=some .local) (ha:PA X [a,b] ta)
  (hw:add [.Tuple [.Name x px,.Name y py] kt pt] (.Tuple [a,b] k2 pt2) X.env=pure (some [x,y]))
  (hs:adc [.Tuple [.Name x px,.Name y py] kt pt] (.Tuple [a,b] k2 pt2) pos.line X.env=pure false:=by rfl) :
  PS X (.Assign [.Tuple [.Name x px,.Name y py] kt pt] (.Tuple [a,b] k2 pt2) pos) (tPar i j ta):=by
 intro pins s σ H D I h;rw[exec_Assign_arm];refine gE (adb ?_);rw[hs];refine gE (aac ?_);rw[if_neg (by decide)];refine gE (Tuple_ (thn (ha _ pins s σ H _ I h) fun us s1 ⟨vs,H1,I1,r1,q1⟩=>?_));obtain⟨v,w,e1,q1⟩:=q1;subst e1;obtain⟨u1,u2,rfl,rv,rw'⟩:∃u1 u2,us=[u1,u2]/\RelV v u1/\RelV w u2:=by
  cases r1 with
  | cons p q =>
   cases q with
   |cons p' q' =>
    cases q';exact⟨_,_,rfl,p,p'⟩
 refine aa9 ?_ (by show 2≤aam;decide);have I2:Inv X pins σ H1 {s1 with heap:=s1.heap.push {cls:=.type "tuple",data:=.seq [u1,u2].toArray} }:=I1.kept (t':=s1.toks) fun b o e=>OR _ e;rw[hw];refine gE (aac ?_);show wpAny (model X.prog X.w) X.A (do rule "assign.swapped-stores";let items <- unpackItems (.ref s1.heap.objs.size) 2 none;ahe [fun v=>bindName X.env y v,fun v=>bindName X.env x v] items.reverse;pure Flow.next) _ _ _;refine gE (acP (gE (unpackItems_tuple (items:=#[u1,u2]) (I.ok.hd hc) (IsTup.new s1.heap _) fun h' hx'=>?_)));have I3:=I2.kept (h':=h') (t':=s1.toks) fun b o e=>hx' b o (aa6 (aan e)) e;show wpAny _ _ (ahe [fun v=>bindName X.env y v,fun v=>bindName X.env x v] [u2,u1] >>= fun _=>pure Flow.next) _ _ _;refine gE (afg (wpAny_bindName (jB I3 hN hj (.inl hy) rw' (fun s2 I4=>?_) (.inr hy))));refine afg (wpAny_bindName (jB I4 hN hi (.inl hx) rv (fun s3 I5=>assignInOrder_nil (aac ?_)) (.inr hx)));rw[List.set_comm _ _ (abz hij)]at I5;exact⟨_,H1,I5,q1⟩
end
section
variable {X:Cx}{pos:Pos}
def OQ(c:TT)(tb:TS):TS:=fun D σ H=>∃W:Nat->St->Hp->Prop,(∃m,W m σ H)/\∀m σ H,W m σ H ->
 c σ H fun b H1=>if b=true then ∃N:St->Hp->Prop,(∀σ' H',N σ' H'->∃m',m'<m/\W m' σ' H')/\tb {D with nx:=N,ct:=N,bk:=D.nx} σ H1 else D.nx σ H1
theorem BQ{c:Expr}{tc:TT}{tb:TS}(hp:afU (model X.prog X.w) X.A X.env X.xe)(hc:PT X c tc)(hb:PSs X body tb):PS X (.While c body [] pos) (OQ tc tb):=by
 intro pins s σ H D I h;obtain⟨W,⟨m0,w0⟩,turn⟩:=h;refine wpAny_While (codeAny_whileLoop (fun n s'=>∃σ' H',Inv X pins σ' H' s'/\W n σ' H') ?_ m0 ⟨σ,H,I,w0⟩);rintro n s1 ⟨σ1,H1,I1,w1⟩;refine ac0 hp (thn (hc pins s1 σ1 H1 _ I1 (turn n σ1 H1 w1)) fun b s2 ⟨H2,I2,q2⟩=>?_)
 cases b with
 | true =>
  obtain⟨N,hN,q2⟩:=q2;rw[if_pos rfl];refine ac0 hp (thn (hb pins s2 σ1 H2 _ I2 q2) fun f s3 q3=>?_)
  cases f with
  |next =>
   obtain⟨σ3,H3,I3,n3⟩:=q3;obtain⟨m',hm,w3⟩:=hN σ3 H3 n3;exact⟨m',hm,σ3,H3,I3,w3⟩
  |cont =>
   obtain⟨σ3,H3,I3,n3⟩:=q3;obtain⟨m',hm,w3⟩:=hN σ3 H3 n3;exact⟨m',hm,σ3,H3,I3,w3⟩
  |brk=>exact q3
  |ret v=>exact q3
 |false =>
  rw[if_neg aaB];exact aeZ ⟨σ1,H2,I2,q2⟩
end
structure It where
 go:Nat->Hp->Prop
 yld:Nat->Hp->V->Hp->Prop
 stop:Nat->Hp->Prop
def FpOk(X:Cx)(pins:List (Addr×Obj))(H:Hp)(b:Addr):Prop :=
 H b=none/\b≠X.env.locals/\b∉X.fs/\(b∈X.ex\/X.s₀.heap.objs.size≤b)/\(∀x c,X.env.cells.lookup x=some c->c≠b)/\∀p∈X.pn++pins,p.1≠b
theorem Inv.fpOk{H':Hp}{s:aaa}{b:Addr}(I:Inv X pins σ H s)(hb:s.heap.objs.size≤b)(hn:H' b=none):FpOk X pins H' b:=by
 refine⟨hn,abJ (aaA I.lt hb),I.nofs hb,.inr (aaz I.sz hb),fun x c e z=>?_,fun p hp z=>?_⟩
 .obtain⟨v,q⟩:=I.cell x c e;exact absurd (aaA q.lt (by rw[z];exact hb)) (acK _)
 .exact absurd (aaA (aan (I.pin p hp).1) (by rw[z];exact hb)) (acK _)
structure Turn(P:aaW)(w:World)(K:aaj)(tg:Expr)(J:It)(fp:List Addr)(it:Addr)(tn:Nat->aa4->Prop):Prop where
 mem:it∈fp
 obj:∀i h,tn i h->∀b∈fp,∃o,h.get? b=some o/\∀v,o.data≠.cell v
 keep:∀i h h',tn i h->(∀b∈fp,∀o,h.get? b=some o->h'.get? b=some o)->tn i h'
 item:∀(X:Cx),X.prog=P->X.w=w->X.K=K->X.calm=true->∀(i:Nat) (pins:List (Addr×Obj)) (s:aaa) (σ:St) (H:Hp) (E:GE->aaa->Prop),Inv X pins σ H s->(∀b∈fp,FpOk X pins H b)->tn i s.heap->J.go i H ->
  wpAny (model P w) X.A (acF (.ref it)) (fun r s1=>∃u,r=some u /\
   wpAny (model P w) X.A (adB tg (.ref it) u) (fun _ s2=>∃x H',Inv X pins σ H' s2/\RelV x u/\J.yld i H x H'/\tn (i+1) s2.heap/\∀b∈fp,H' b=none) E s1) E s
 done:∀(X:Cx),X.prog=P->X.w=w->X.K=K->X.calm=true->∀(i:Nat) (pins:List (Addr×Obj)) (s:aaa) (σ:St) (H:Hp) (E:GE->aaa->Prop),Inv X pins σ H s->(∀b∈fp,FpOk X pins H b)->tn i s.heap->J.stop i H ->
  wpAny (model P w) X.A (acF (.ref it)) (fun r s1=>r=none/\Inv X pins σ H s1) E s
 self:∀(A:abx) (i:Nat) (s:aaa) (Q:GE->aaa->Prop) (E:GE->aaa->Prop),tn i s.heap->Q (.ref it) s->wpAny (model P w) A (afh (.ref it)) Q E s
abbrev TI:=St->Hp->(It->Hp->Prop)->Prop
def PIE(X:Cx)(pins:List (Addr×Obj))(σ:St)(tg:Expr)(R:It->Hp->Prop)(itv:GE)(s2:aaa):Prop :=
 ∃(it:Addr) (fp:List Addr) (tn:Nat->aa4->Prop) (J:It) (H':Hp),itv = .ref it/\Inv X pins σ H' s2/\Turn X.prog X.w X.K tg J fp it tn/\tn 0 s2.heap/\(∀b∈fp,FpOk X pins H' b)/\R J H'
def PI(X:Cx)(tg iter:Expr)(wi:TI):Prop :=
 ∀(pins:List (Addr×Obj)) (s:aaa) (σ:St) (H:Hp) (R:It->Hp->Prop),Inv X pins σ H s->wi σ H R ->
  wpAny (model X.prog X.w) X.A (eval iter X.env) (fun v s1=>wpAny (model X.prog X.w) X.A (afh v) (PIE X pins σ tg R) X.xe s1) X.xe s
theorem Gv{s:aaa}{it:Addr}{o:Obj}{n:String}{vs:Array GE}{Q:Unit->aaa->Prop}(ho:s.heap.get? it=some o)(hc:o.cls = .type n)(hd:o.data = .fields vs)
  (hn:["enumerate","zip","dict_itemiterator","dict_reverseitemiterator","odict_iterator","itertools.zip_longest","itertools.pairwise"].contains n=false) (hQ:Q () s):wpAny M A (adB tg (.ref it) u) Q E s:=by
 unfold adB
 cases tg<;>first
  |exact aac hQ
  | (cases u<;>first
    |exact aac hQ
    | (refine gE (wpAny_load ho ?_)
       rw[hc,hd];show wpAny M A (if (["enumerate","zip","dict_itemiterator","dict_reverseitemiterator","odict_iterator","itertools.zip_longest","itertools.pairwise"].contains n&&vs[0]?==some (adI _))=true then _ else _) Q E s;rw[if_neg (by intro h;rw[hn,agK]at h;cases h)];exact aac hQ))
def Itl(K:aaj)(a:Addr):It :=
 ⟨fun i H=>∃xs x,SqL K H a xs/\xs[i]?=some x,fun i H x H'=>H'=H/\∀xs,SqL K H a xs->xs[i]?=some x,fun i H=>∃xs,SqL K H a xs/\xs.length≤i⟩
def Itt(K:aaj)(a:Addr):It :=
 ⟨fun i H=>∃xs x,SqT K H a xs/\xs[i]?=some x,fun i H x H'=>H'=H/\∀xs,SqT K H a xs->xs[i]?=some x,fun i H=>∃xs,SqT K H a xs/\xs.length≤i⟩
def Itr(lo:Int)(n:Nat):It:=⟨fun i _=>i<n,fun i H x H'=>H'=H/\x = .int (lo+i),fun i _=>n≤i⟩
theorem AB(a it:Addr):Turn P w K tg (Itl K a) [it] it (fun i h=>h.IsListIter it a i) where
 mem:=by simp
 obj:=fun i h st b hb=>by
  have e:b=it:=by simpa using hb
  subst e;obtain⟨o,e,c,d⟩:=st;exact⟨o,e,fun v z=>by rw[d]at z;cases z⟩
 keep:=fun i h h' st k=>st.at fun o e=>k it (by simp) o e
 item:=by
  intro X hP hw hK hc i pins s σ H E I hf st hg;subst hP hw hK;obtain⟨xs,x,hq,hx⟩:=hg;obtain⟨its,rv,p,hz⟩:=I.list hq;obtain⟨u,hu,ru⟩:=rv.get hx;obtain⟨f0,f1,f2,f3,f4,f5⟩:=hf it (by simp);refine wpAny_pyNext_list_item st p.isList (x:=u) (by simpa using hu) fun h' st' sb=>?_;have I1:Inv X pins σ H {s with heap:=h' }:=I.turned (t':=s.toks) (fun b o hb e=>(sb.2 b hb).trans e) f0 f1 f3 f4 f5;obtain⟨o,e,c,d⟩:=id st';exact⟨u,rfl,Gv (s:={s with heap:=h' }) e c d (by decide) ⟨x,H,I1,ru,⟨rfl,fun ys hy=>by rw[I.list_inj hy hq];exact hx⟩,st',fun b hb=>(hf b hb).1⟩⟩
 done:=by
  intro X hP hw hK hc i pins s σ H E I hf st hg;subst hP hw hK;obtain⟨xs,hq,hx⟩:=hg;obtain⟨its,rv,p,hz⟩:=I.list hq;obtain⟨f0,f1,f2,f3,f4,f5⟩:=hf it (by simp);have hl:=rv.length;exact wpAny_pyNext_list_end (I.ok.hd hc) st p.isList (by simp;omega) fun h' eb=>⟨rfl,I.turned (t':=s.toks) (fun b o hb e=>eb b o hb e) f0 f1 f3 f4 f5⟩
 self:=fun _ _ _ _ _ st h=>wpAny_pyIter_listiter st h
theorem vG(a it:Addr):Turn P w K tg (Itt K a) [it] it (fun i h=>h.IsTupleIter it a i) where
 mem:=by simp
 obj:=fun i h st b hb=>by
  have e:b=it:=by simpa using hb
  subst e;obtain⟨o,e,c,d⟩:=st;exact⟨o,e,fun v z=>by rw[d]at z;cases z⟩
 keep:=fun i h h' st k=>st.at fun o e=>k it (by simp) o e
 item:=by
  intro X hP hw hK hc i pins s σ H E I hf st hg;subst hP hw hK;obtain⟨xs,x,hq,hx⟩:=hg;obtain⟨its,rv,p,hz⟩:=I.tuple hq;obtain⟨u,hu,ru⟩:=rv.get hx;obtain⟨f0,f1,f2,f3,f4,f5⟩:=hf it (by simp);refine wpAny_pyNext_tuple_item st (show s.heap.IsTuple a its.toArray from p) (x:=u) (by simpa using hu) fun h' st' sb=>?_;have I1:Inv X pins σ H {s with heap:=h' }:=I.turned (t':=s.toks) (fun b o hb e=>(sb.2 b hb).trans e) f0 f1 f3 f4 f5;obtain⟨o,e,c,d⟩:=id st';exact⟨u,rfl,Gv (s:={s with heap:=h' }) e c d (by decide) ⟨x,H,I1,ru,⟨rfl,fun ys hy=>by rw[I.tuple_inj hy hq];exact hx⟩,st',fun b hb=>(hf b hb).1⟩⟩
 done:=by
  intro X hP hw hK hc i pins s σ H E I hf st hg;subst hP hw hK;obtain⟨xs,hq,hx⟩:=hg;obtain⟨its,rv,p,hz⟩:=I.tuple hq;obtain⟨f0,f1,f2,f3,f4,f5⟩:=hf it (by simp);have hl:=rv.length;exact wpAny_pyNext_tuple_end (I.ok.hd hc) st (show s.heap.IsTuple a its.toArray from p) (by simp;omega) fun h' eb=>⟨rfl,I.turned (t':=s.toks) (fun b o hb e=>eb b o hb e) f0 f1 f3 f4 f5⟩
 self:=fun _ _ _ _ _ st h=>wpAny_pyIter_tupleiter st h
theorem vw(it:Addr)(lo:Int)(n:Nat):Turn P w K tg (Itr lo n) [it] it (fun i h=>IsRangeIter h it (lo+(i:Nat)*1) ((n:Int)-(i:Nat)) 1) where
 mem:=by simp
 obj:=fun i h st b hb=>by
  have e:b=it:=by simpa using hb
  subst e;exact⟨_,st,fun v z=>by
   have z':Data.fields _=Data.cell v:=z;cases z'⟩
 keep:=fun i h h' st k=>k it (by simp) _ st
 item:=by
  intro X hP hw hK hc i pins s σ H E I hf st hg;subst hP hw hK;obtain⟨f0,f1,f2,f3,f4,f5⟩:=hf it (by simp);have W:=Walks.range (prog:=X.prog) (w:=X.w) (I.ok.hd hc) it lo 1 n;refine W.item i s _ _ hg st fun v h' tk hv st' kk=>?_;obtain⟨t,rfl⟩:=hv;have I1:Inv X pins σ H {s with heap:=h',toks:=tk}:=I.turned (fun b o hb e=>kk b o (by simpa using hb) e) f0 f1 f3 f4 f5;refine⟨_,rfl,Gv (s:={s with heap:=h',toks:=tk}) (n := "range_iterator") st' rfl rfl (by decide) ⟨.int (lo+i),H,I1,⟨t,?_⟩,⟨rfl,rfl⟩,st',fun b hb=>(hf b hb).1⟩⟩;rw[ado]
 done:=by
  intro X hP hw hK hc i pins s σ H E I hf st hg;subst hP hw hK;obtain⟨f0,f1,f2,f3,f4,f5⟩:=hf it (by simp);exact wpAny_pyNext_range_end (I.ok.hd hc) st (by have:n≤i:=hg;omega) fun h' eb=>⟨rfl,I.turned (t':=s.toks) (fun b o hb e=>eb b o hb e) f0 f1 f3 f4 f5⟩
 self:=fun _ _ _ _ _ st h=>wpAny_pyIter_rangeiter st h
section
variable {X:Cx}{tg:Expr}
theorem CJ{s:aaa}{R:It->Hp->Prop}{lo hi:Int}{t u v:Tok}{tk:Nat}(I:Inv X pins σ H s)(h1 : -(2^62)≤lo)(h2:lo<2^62)(h3 : -(2^62)≤hi)(h4:hi<2^62)
  (q:R (Itr lo (hi-lo).toNat) H):wpAny (model X.prog X.w) X.A (afh (.ref s.heap.objs.size)) (PIE X pins σ tg R) E {s with heap:=s.heap.push {cls:=.type "range",data:=.fields #[.int lo t,.int hi u,.int 1 v]},toks:=tk}:=by
 refine wpAny_pyIter_range (IsRange.new ..) (small_one h1 h2 h3 h4) ?_;have I1:Inv X pins σ H {s with heap:=s.heap.push {cls:=.type "range",data:=.fields #[.int lo t,.int hi u,.int 1 v]},toks:=tk}:=I.kept fun b o e=>OR _ e;refine⟨(s.heap.push {cls:=.type "range",data:=.fields #[.int lo t,.int hi u,.int 1 v]}).objs.size,[(s.heap.push {cls:=.type "range",data:=.fields #[.int lo t,.int hi u,.int 1 v]}).objs.size],_,_,H,rfl,
  I1.kept (t':=tk) fun b o e=>OR _ e,vw _ lo (hi-lo).toNat,?_,fun b hb=>?_,q⟩
 .have e1:lo+((0:Nat):Int)*1=lo:=by simp
  have e2:(((hi-lo).toNat:Nat):Int)-((0:Nat):Int)=ac4.Range.rangeSize lo hi 1:=by rw[rangeSize_one];split<;>omega
  show IsRangeIter _ _ (lo+((0:Nat):Int)*1) ((((hi-lo).toNat:Nat):Int)-((0:Nat):Int)) 1;rw[e1,e2];exact aar _ rfl
 .have e:b=(s.heap.push {cls:=.type "range",data:=.fields #[.int lo t,.int hi u,.int 1 v]}).objs.size:=by simpa using hb
  subst e;exact I1.fpOk (Io _) (I1.hok.fresh (Io _))
def Qw(ta:TA):TI:=fun σ H R=>ta σ H fun vs H1=>∃j:Int,vs=[.int j]/\-(2^62)≤j/\j<2^62/\R (Itr 0 j.toNat) H1
theorem zW{a:Expr}{ta:TA}{p:Pos}(hg:Gl X "range")(hm:X.mg "range" = none)(ha:PA X [a] ta)(hs:aao [a] X.env=[(false,eval a X.env)]:=by rfl):PI X tg (.Call (.Name "range" p) [a] [] pos) (Qw ta):=by
 intro pins s σ H R I h;refine Call_ (ll I hg hm boot_range (acG (thn (ha pos pins s σ H _ I h) fun us s1 ⟨vs,H1,I1,r1,q1⟩=>?_) hs rfl));obtain⟨j,e,q1,q2,q⟩:=q1;subst e
 cases r1 with
 |cons r rr =>
  cases rr;obtain⟨t,rfl⟩:=r;exact call_range_1 (CJ I1 (by omega) (by omega) q1 q2 (by simpa using q))
def tFor(wi:TI)(g:TG)(tb:TS):TS:=fun D σ H=>wi σ H fun J H1=>∃W:Nat->Nat->St->Hp->Prop,(∃m,W 0 m σ H1)/\∀i m σ H,W i m σ H ->
 (J.stop i H/\D.nx σ H)\/(J.go i H/\∃N:St->Hp->Prop,(∀σ' H',N σ' H'->∃m',m'<m/\W (i+1) m' σ' H')/\∀x H',J.yld i H x H'->g x σ H' fun σ2 H2=>tb {D with nx:=N,ct:=N,bk:=D.nx} σ2 H2)
def oW(fp:List Addr)(h:aa4):List (Addr×Obj):=fp.filterMap fun b=>(h.get? b).map fun o=>(b,o)
theorem gw{b:Addr}{o:Obj}(hb:b∈fp)(e:h.get? b=some o):(b,o)∈oW fp h:=List.mem_filterMap.mpr ⟨b,hb,by rw[e];rfl⟩
theorem zM{p:Addr×Obj}(hp:p∈oW fp h):p.1∈fp/\h.get? p.1=some p.2:=by
 obtain⟨b,hb,e⟩:=List.mem_filterMap.mp hp
 cases q:h.get? b with
 |none=>rw[q]at e;cases e
 |some o =>
  rw[q]at e;have e':(b,o)=p:=aau e;subst e';exact⟨hb,q⟩
theorem Inv.pinned{s:aaa}(I:Inv X pins σ H s)(hf:∀b∈fp,FpOk X pins H b)(ho:∀b∈fp,∃o,s.heap.get? b=some o/\∀v,o.data≠.cell v):Inv X (pins++oW fp s.heap) σ H s :=
 I.pins_of fun p hp=>(aa2.mp hp).elim (fun z=>I.pin p (abk _ z)) fun z=>by
  obtain⟨hb,e⟩:=zM z;obtain⟨f0,f1,f2,_⟩:=hf p.1 hb;obtain⟨o,e',d⟩:=ho p.1 hb;rw[e]at e';cases e';exact⟨e,f0,f1,f2,d⟩
theorem Inv.unpinned{pl:List (Addr×Obj)}{s:aaa}(I:Inv X (pins++pl) σ H s):Inv X pins σ H s:=I.pins_of fun p hp=>I.pin p (abk _ (aeM _ hp))
theorem K9{iter:Expr}{wi:TI}{g:TG}{tb:TS}(hp:afU (model X.prog X.w) X.A X.env X.xe)(hc:X.calm=true)(hi:PI X tg iter wi)(hg:PG X tg g)(hb:PSs X body tb)
  (hs:∀x,aaT iter X.env x=pure x:=by intro _;rfl):PS X (.For tg iter body [] pos) (tFor wi g tb):=by
 intro pins s σ H D I h;refine wpAny_For (thn (hi pins s σ H _ I h) fun v s1 h1=>thn h1 fun itv s2 h2=>?_) hs;obtain⟨it,fp,tn,J,H2,e,I2,T,st2,f2,W,⟨m0,w0⟩,turn⟩:=h2;subst e;have stat:∀{H':Hp},(∀b∈fp,H' b=none)->∀b∈fp,FpOk X pins H' b:=fun hn b hb=>⟨hn b hb,(f2 b hb).2⟩;refine codeAny_forLoop_any (fun n s'=>∃i σ' H',Inv X pins σ' H' s'/\tn i s'.heap/\(∀b∈fp,H' b=none)/\W i n σ' H') ?_ m0 ⟨0,σ,H2,I2,st2,fun b hb=>(f2 b hb).1,w0⟩;rintro n s3 ⟨i,σ3,H3,I3,st3,fr3,w3⟩;rcases turn i n σ3 H3 w3 with⟨stop,qn⟩|⟨go,N,hN,step⟩
 .refine ac0 hp (thn (T.done X rfl rfl rfl hc i pins s3 σ3 H3 X.xe I3 (stat fr3) st3 stop) fun r s4 ⟨hr,I4⟩=>?_);subst hr;exact aeZ ⟨σ3,H3,I4,qn⟩
 .refine ac0 hp (thn (T.item X rfl rfl rfl hc i pins s3 σ3 H3 X.xe I3 (stat fr3) st3 go) fun r s4 ⟨u,hr,h4⟩=>?_);subst hr;refine ac0 hp (thn h4 fun _ s5 ⟨x,H5,I5,r5,y5,st5,fr5⟩=>?_);have I5':=I5.pinned (stat fr5) (T.obj _ _ st5);refine ac0 hp (thn (hg _ s5 σ3 H5 x u _ I5' r5 (step x H5 y5)) fun _ s6 ⟨σ6,H6,I6,q6⟩=>?_);refine ac0 hp (thn (hb _ s6 σ6 H6 _ I6 q6) fun f s7 q7=>?_);have again:∀{σ7:St}{H7:Hp},Inv X (pins++oW fp s5.heap) σ7 H7 s7->N σ7 H7->∃m,m<n/\∃i σ' H',Inv X pins σ' H' s7/\tn i s7.heap/\(∀b∈fp,H' b=none)/\W i m σ' H':=fun {σ7 H7} I7 n7=>by
   obtain⟨m',hm,w7⟩:=hN σ7 H7 n7;refine⟨m',hm,i+1,σ7,H7,I7.unpinned,T.keep _ _ _ st5 fun b hb o e=>(I7.pin (b,o) (abk _ (abk _ (gw hb e)))).1,fun b hb=>?_,w7⟩;obtain⟨o,e,d⟩:=T.obj _ _ st5 b hb;exact(I7.pin (b,o) (abk _ (abk _ (gw hb e)))).2.1
  cases f with
  |next=>obtain⟨σ7,H7,I7,n7⟩:=q7;exact again I7 n7
  |cont=>obtain⟨σ7,H7,I7,n7⟩:=q7;exact again I7 n7
  |brk=>obtain⟨σ7,H7,I7,q7⟩:=q7;exact⟨σ7,H7,I7.unpinned,q7⟩
  |ret v=>obtain⟨x7,σ7,H7,I7,r7,q7⟩:=q7;exact⟨x7,σ7,H7,I7.unpinned,r7,q7⟩
end
abbrev R2:=V->V->Hp->VK->Prop
def OpR(X:Cx)(f:GE->GE->Sem GE)(r:R2):Prop :=
 ∀(pins:List (Addr×Obj)) (s:aaa) (σ:St) (H:Hp) (x y:V) (v u:GE) (Q:VK),Inv X pins σ H s->RelV x v->RelV y u->r x y H Q ->
  wpAny (model X.prog X.w) X.A (f v u) (EP X pins σ Q) X.xe s
def UnR(X:Cx)(f:GE->Sem GE)(r:V->Hp->VK->Prop):Prop :=
 ∀(pins:List (Addr×Obj)) (s:aaa) (σ:St) (H:Hp) (x:V) (v:GE) (Q:VK),Inv X pins σ H s->RelV x v->r x H Q ->
  wpAny (model X.prog X.w) X.A (f v) (EP X pins σ Q) X.xe s
def dU(X:Cx)(f:GE)(r:List V->Hp->VK->Prop):Prop :=
 ∀(pins:List (Addr×Obj)) (s:aaa) (σ:St) (H:Hp) (xs:List V) (us:List GE) (Q:VK),Inv X pins σ H s->Vals xs us->r xs H Q ->
  wpAny (model X.prog X.w) X.A (call f us) (EP X pins σ Q) X.xe s
def tOp(r:R2)(ta tb:TE):TE:=fun σ H Q=>ta σ H fun x H1=>tb σ H1 fun y H2=>r x y H2 Q
def tUn(r:V->Hp->VK->Prop)(ta:TE):TE:=fun σ H Q=>ta σ H fun x H1=>r x H1 Q
def rI(C:Int->Int->Prop)(g:Int->Int->V):R2:=fun x y H Q=>∃i j,x = .int i/\y = .int j/\C i j/\Q (g i j) H
def rI0(g:Int->Int->V):R2:=fun x y H Q=>∃i j,x = .int i/\y = .int j/\Q (g i j) H
def rU(g:Int->V):V->Hp->VK->Prop:=fun x H Q=>∃i,x = .int i/\Q (g i) H
section
variable {X:Cx}{a b c:Expr}{ta tb tc:TE}{pos:Pos}
theorem binT(ha:PE X a ta)(hb:PE X b tb){s:aaa}{R:V->V->Hp->Prop}(I:Inv X pins σ H s)
  (h:ta σ H fun x H1=>tb σ H1 fun y H2=>R x y H2) 
  (hf:∀v u s2 x y H2,Inv X pins σ H2 s2->RelV x v->RelV y u->R x y H2->wpAny (model X.prog X.w) X.A (f v u) Q X.xe s2) :
  wpAny (model X.prog X.w) X.A (eval a X.env) (fun v s₁=>wpAny (model X.prog X.w) X.A (eval b X.env) (fun u s₂=>wpAny (model X.prog X.w) X.A (f v u) Q X.xe s₂) X.xe s₁) X.xe s:=by
 refine thn (ha pins s σ H _ I h) fun v s1 ⟨x,H1,I1,r1,q1⟩=>?_;refine thn (hb pins s1 σ H1 _ I1 q1) fun u s2 ⟨y,H2,I2,r2,q2⟩=>?_;exact hf v u s2 x y H2 I2 r1 r2 q2
theorem Rf{op:Operator}(ho:OpR X (ack op) r)(ha:PE X a ta)(hb:PE X b tb):PE X (.BinOp a op b pos) (tOp r ta tb):=by
 intro pins s σ H Q I h;exact wpAny_BinOp (binT ha hb I h fun v u s2 x y H2 I2 rx ry q=>ho pins s2 σ H2 x y v u Q I2 rx ry q)
theorem Se{op:UnaryOp}{r:V->Hp->VK->Prop}(ho:UnR X (unaryOp op) r)(ha:PE X a ta):PE X (.UnaryOp op a pos) (tUn r ta):=by
 intro pins s σ H Q I h;exact UnaryOp_ (thn (ha pins s σ H _ I h) fun v s1 ⟨x,H1,I1,r1,q1⟩=>ho pins s1 σ H1 x v Q I1 r1 q1)
theorem opI{C:Int->Int->Prop}
  (rule:∀(i j:Int) (t u:Tok) (s:aaa) (Q:GE->aaa->Prop) (E:GE->aaa->Prop),C i j->Q (.int (g i j) s.toks) {s with toks:=s.toks+1}->wpAny (model X.prog X.w) X.A (f (.int i t) (.int j u)) Q E s) :
  OpR X f (rI C fun i j=>.int (g i j)):=by
 intro pins s σ H x y v u Q I rx ry h;obtain⟨i,j,rfl,rfl,hc,q⟩:=h;obtain⟨t,rfl⟩:=rx;obtain⟨t',rfl⟩:=ry;exact rule i j t t' s _ _ hc ⟨.int (g i j),H,I.tok _,⟨_,rfl⟩,q⟩
theorem opI0
  (rule:∀(i j:Int) (t u:Tok) (s:aaa) (Q:GE->aaa->Prop) (E:GE->aaa->Prop),Q (.int (g i j) s.toks) {s with toks:=s.toks+1}->wpAny (model X.prog X.w) X.A (f (.int i t) (.int j u)) Q E s) :
  OpR X f (rI0 fun i j=>.int (g i j)):=by
 intro pins s σ H x y v u Q I rx ry h;obtain⟨i,j,rfl,rfl,q⟩:=h;obtain⟨t,rfl⟩:=rx;obtain⟨t',rfl⟩:=ry;exact rule i j t t' s _ _ ⟨.int (g i j),H,I.tok _,⟨_,rfl⟩,q⟩
theorem opB0{g:Int->Int->Bool}
  (rule:∀(i j:Int) (t u:Tok) (s:aaa) (Q:GE->aaa->Prop) (E:GE->aaa->Prop),Q (.bool (g i j)) s->wpAny (model X.prog X.w) X.A (f (.int i t) (.int j u)) Q E s) :
  OpR X f (rI0 fun i j=>.bl (g i j)):=by
 intro pins s σ H x y v u Q I rx ry h;obtain⟨i,j,rfl,rfl,q⟩:=h;obtain⟨t,rfl⟩:=rx;obtain⟨t',rfl⟩:=ry;exact rule i j t t' s _ _ ⟨.bl (g i j),H,I,rfl,q⟩
def CPow(i j:Int):Prop:=0≤j/\j≤1000000/\i.natAbs<2^64
def CMul(i j:Int):Prop:=(-(2^64)<i/\i<2^64)\/(-(2^64)<j/\j<2^64)
theorem CMul.ok{i j:Int}(h:CMul i j):afV i j:=by
 rcases h with⟨h1,h2⟩|⟨h1,h2⟩
 .exact .of_left (intBits_le_64 h1 h2)
 .exact .of_right (intBits_le_64 h1 h2)
theorem Nq:OpR X (ack .Add) (rI0 fun i j=>.int (i+j)):=opI0 fun _ _ _ _ _ _ _ q=>add_int q
theorem MF:OpR X (ack .Mod) (rI (fun _ j=>0<j) fun i j=>.int (i%j)):=opI fun i j _ _ _ _ _ hc q=>by
 have h1:(0:Int)<j:=hc;exact mod_int' (by omega) (by rw[Int.fmod_eq_emod_of_nonneg i (by omega)];exact q)
theorem LS:OpR X (ack .Pow) (rI CPow fun i j=>.int (i^j.toNat)):=opI fun _ _ _ _ _ _ _ hc q=>pow_int_small hc.1 hc.2.1 hc.2.2 q
theorem unI{f:GE->Sem GE}{g:Int->Int}
  (rule:∀(i:Int) (t:Tok) (s:aaa) (Q:GE->aaa->Prop) (E:GE->aaa->Prop),Q (.int (g i) s.toks) {s with toks:=s.toks+1}->wpAny (model X.prog X.w) X.A (f (.int i t)) Q E s) :
  UnR X f (rU fun i=>.int (g i)):=by
 intro pins s σ H x v Q I rx h;obtain⟨i,rfl,q⟩:=h;obtain⟨t,rfl⟩:=rx;exact rule i t s _ _ ⟨.int (g i),H,I.tok _,⟨_,rfl⟩,q⟩
theorem Mi:UnR X (unaryOp .USub) (rU fun i=>.int (-i)):=unI fun _ _ _ _ _ q=>neg_int q
end
def scal:V->V->Bool
 | .non,.non=>true | .non,.int _=>true | .int _,.non=>true | .non,.bl _=>true | .bl _,.non=>true | .non,.str _=>true | .str _,.non=>true
 | .int _,.int _=>true | .bl _,.bl _=>true | .str _,.str _=>true | .byt _,.byt _=>true
 | .int _,.str _=>true | .str _,.int _=>true | .bl _,.str _=>true | .str _,.bl _=>true
 |_,_=>false
def rEq:R2:=fun x y H Q=>scal x y=true/\Q (.bl (decide (x=y))) H
def rNe:R2:=fun x y H Q=>scal x y=true/\Q (.bl (!decide (x=y))) H
theorem xM{i j:Int}:decide (V.int i=V.int j)=(i==j):=by
 rw[ac1];simp
theorem Fq{i j:Bool}:decide (V.bl i=V.bl j)=(i==j):=by
 rw[ac1];simp
theorem oy{i j:Str}:decide (V.str i=V.str j)=(i==j):=by
 rw[ac1];simp
theorem zY{i j:Array UInt8}:decide (V.byt i=V.byt j)=(i.toList==j.toList):=by
 rw[ac1];cases i;cases j;simp
section
variable {X:Cx}{a b c:Expr}{ta tb tc:TE}{pos:Pos}
theorem bt{s:aaa}{Q:VK}{k k':Bool}(I:Inv X pins σ H s)(q:Q (.bl k) H)(e:k=k'):EP X pins σ Q (.bool k') s:=by
 subst e;exact⟨.bl k,H,I,rfl,q⟩
theorem QU:OpR X (abK .Eq) rEq:=by
 intro pins s σ H x y v u Q I rx ry h;obtain⟨hs,q⟩:=h
 cases x with
 |non =>
  cases rx
  cases y with
  |non=>cases ry;exact PySem.EqNone.eq_none_none (bt I q (by simp))
  |bl j=>cases ry;exact PySem.EqNone.eq_none_bool (bt I q (by simp))
  |int j=>obtain⟨t',rfl⟩:=ry;exact PySem.EqNone.eq_none_int (bt I q (by simp))
  |str j=>obtain⟨t',rfl⟩:=ry;exact PySem.EqNone.eq_none_str (bt I q (by simp))
  |_=>exact absurd (show false=true from hs) aaB
 |bl i =>
  cases rx
  cases y with
  |non=>cases ry;exact PySem.EqNone.eq_bool_none (bt I q (by simp))
  |bl j=>cases ry;exact eq_bool (bt I q Fq)
  |str j=>obtain⟨t',rfl⟩:=ry;exact PySem.EqMixed.eq_bool_str (bt I q (by simp))
  |_=>exact absurd (show false=true from hs) aaB
 |int i =>
  obtain⟨t,rfl⟩:=rx
  cases y with
  |non=>cases ry;exact PySem.EqNone.eq_int_none (bt I q (by simp))
  |int j=>obtain⟨t',rfl⟩:=ry;exact eq_int (bt I q xM)
  |str j=>obtain⟨t',rfl⟩:=ry;exact PySem.EqMixed.eq_int_str (bt I q (by simp))
  |_=>exact absurd (show false=true from hs) aaB
 |str i =>
  obtain⟨t,rfl⟩:=rx
  cases y with
  |non=>cases ry;exact PySem.EqNone.eq_str_none (bt I q (by simp))
  |bl j=>cases ry;exact PySem.EqMixed.eq_str_bool (bt I q (by simp))
  |int j=>obtain⟨t',rfl⟩:=ry;exact PySem.EqMixed.eq_str_int (bt I q (by simp))
  |str j=>obtain⟨t',rfl⟩:=ry;exact eq_str (bt I q oy)
  |_=>exact absurd (show false=true from hs) aaB
 |byt i =>
  obtain⟨t,rfl⟩:=rx
  cases y with
  |byt j=>obtain⟨t',rfl⟩:=ry;exact PySem.W.eq_bytes (bt I q zY)
  |_=>exact absurd (show false=true from hs) aaB
 |_=>cases y<;>exact absurd (show false=true from hs) aaB
theorem Qx:OpR X (abK .NotEq) rNe:=by
 intro pins s σ H x y v u Q I rx ry h;obtain⟨hs,q⟩:=h
 cases x with
 |non =>
  cases rx
  cases y with
  |non=>cases ry;exact PySem.EqNone.ne_none_none (bt I q (by simp))
  |bl j=>cases ry;exact PySem.EqNone.ne_none_bool (bt I q (by simp))
  |int j=>obtain⟨t',rfl⟩:=ry;exact PySem.EqNone.ne_none_int (bt I q (by simp))
  |str j=>obtain⟨t',rfl⟩:=ry;exact PySem.EqNone.ne_none_str (bt I q (by simp))
  |_=>exact absurd (show false=true from hs) aaB
 |bl i =>
  cases rx
  cases y with
  |non=>cases ry;exact PySem.EqNone.ne_bool_none (bt I q (by simp))
  |bl j=>cases ry;exact ne_bool (bt I q (congrArg not Fq))
  |str j=>obtain⟨t',rfl⟩:=ry;exact PySem.EqMixed.ne_bool_str (bt I q (by simp))
  |_=>exact absurd (show false=true from hs) aaB
 |int i =>
  obtain⟨t,rfl⟩:=rx
  cases y with
  |non=>cases ry;exact PySem.EqNone.ne_int_none (bt I q (by simp))
  |int j=>obtain⟨t',rfl⟩:=ry;exact ne_int (bt I q (congrArg not xM))
  |str j=>obtain⟨t',rfl⟩:=ry;exact PySem.EqMixed.ne_int_str (bt I q (by simp))
  |_=>exact absurd (show false=true from hs) aaB
 |str i =>
  obtain⟨t,rfl⟩:=rx
  cases y with
  |non=>cases ry;exact PySem.EqNone.ne_str_none (bt I q (by simp))
  |bl j=>cases ry;exact PySem.EqMixed.ne_str_bool (bt I q (by simp))
  |int j=>obtain⟨t',rfl⟩:=ry;exact PySem.EqMixed.ne_str_int (bt I q (by simp))
  |str j=>obtain⟨t',rfl⟩:=ry;exact ne_str (bt I q (congrArg not oy))
  |_=>exact absurd (show false=true from hs) aaB
 |byt i =>
  obtain⟨t,rfl⟩:=rx
  cases y with
  |byt j=>obtain⟨t',rfl⟩:=ry;exact PySem.W.ne_bytes (bt I q (congrArg not zY))
  |_=>exact absurd (show false=true from hs) aaB
 |_=>cases y<;>exact absurd (show false=true from hs) aaB
theorem Rg:OpR X (abK .Lt) (rI0 fun i j=>.bl (decide (i<j))):=opB0 fun _ _ _ _ _ _ _ q=>lt_int q
theorem SX:OpR X (abK .LtE) (rI0 fun i j=>.bl (decide (i≤j))):=opB0 fun _ _ _ _ _ _ _ q=>le_int q
theorem Qy:OpR X (abK .Gt) (rI0 fun i j=>.bl (decide (j<i))):=opB0 fun _ _ _ _ _ _ _ q=>gt_int q
theorem Si:OpR X (abK .GtE) (rI0 fun i j=>.bl (decide (j≤i))):=opB0 fun _ _ _ _ _ _ _ q=>ge_int q
theorem IG:OpR X (abK .IsNot) (fun x y H Q=>y = .non/\Q (.bl (!decide (x = .non))) H):=by
 intro pins s σ H x y v u Q I rx ry h;obtain⟨rfl,q⟩:=h;cases ry;refine isnot_none_gen (bt I q ?_)
 cases x<;>first
  |(cases rx;rfl)
  |(obtain⟨t,rfl⟩:=rx;rfl)
theorem aY(b:Expr)(h:op≠.In:=by decide)(h2:op≠.NotIn:=by decide):ade op b=false:=by
 have e1:(op==CmpOp.In)=false:=by cases op<;>first|rfl|exact absurd rfl h
 have e2:(op==CmpOp.NotIn)=false:=by cases op<;>first|rfl|exact absurd rfl h2
 cases b<;>simp[ade,e1,e2]
theorem Gj(ho:OpR X (abK op) r)(ha:PE X a ta)(hb:PE X b tb)(hm:ade op b=false):PE X (.Compare a [op] [b] pos) (tOp r ta tb):=by
 intro pins s σ H Q I h;exact wpAny_Compare1 (binT ha hb I h fun v u s2 x y H2 I2 rx ry q=>ho pins s2 σ H2 x y v u Q I2 rx ry q) hm
def Oa(t:TE):TT:=fun σ H Q=>t σ H fun x H'=>∃k,x = .bl k/\Q k H'
theorem IY(ho:OpR X (abK op) r)(ha:PE X a ta)(hb:PE X b tb)(hm:ade op b=false):PT X (.Compare a [op] [b] pos) (Oa (tOp r ta tb)):=by
 intro pins s σ H Q I h;refine wpAny_isTrue_Compare1 (thn (ha pins s σ H _ I h) fun v s1 ⟨x,H1,I1,r1,q1⟩=>thn (hb pins s1 σ H1 _ I1 q1) fun u s2 ⟨y,H2,I2,r2,q2⟩ =>
  thn (ho pins s2 σ H2 x y v u _ I2 r1 r2 q2) fun c s3 ⟨z,H3,I3,r3,k,e,q3⟩=>?_) hm
 subst e;cases r3;exact wpAny_truthy_bool ⟨H3,I3,q3⟩
theorem lP:(aam:Nat)<2^63:=by rw[aav];decide
theorem vW:OpR X (ack .Add) (fun x y H Q=>∃i j,x = .str i/\y = .str j/\i.length+j.length≤aam/\Q (.str (i++j)) H):=by
 intro pins s σ H x y v u Q I rx ry h;obtain⟨i,j,rfl,rfl,hz,q⟩:=h;obtain⟨t,rfl⟩:=rx;obtain⟨t',rfl⟩:=ry;exact add_str (fun t' tk=>⟨.str (i++j),H,I.tok _,⟨_,rfl⟩,q⟩) hz
theorem x8{x:V}(r:Vals [x] us):∃u,us=[u]/\RelV x u:=by
 cases r with
 |cons r1 r2=>cases r2;exact⟨_,rfl,r1⟩
theorem Bv:dU X (.builtin "abs") (fun xs H Q=>∃i,xs=[.int i]/\Q (.int (if i<0 then -i else i)) H):=by
 intro pins s σ H xs us Q I r h;obtain⟨i,rfl,q⟩:=h;obtain⟨u,rfl,t,rfl⟩:=x8 r;exact call_abs_int fun u tk=>⟨.int (if i<0 then -i else i),H,I.tok _,⟨_,rfl⟩,q⟩
end
theorem RelO.some_of{o:Option GE}(r:RelO (some v) o):∃u,o=some u/\RelV v u:=by
 cases o with
 |none=>exact(show False from r).elim
 |some u=>exact⟨u,rfl,r⟩
theorem RelO.none_of{o:Option GE}(r:RelO none o):o=none:=by
 cases o with
 |none=>rfl
 |some u=>exact(show False from r).elim
structure Room(k:Nat)(A:abx):Prop where
 hd:A.handled=none
 dp:A.depth+3*k+5<recursionLimit
 un:A.units+16*k+200<cLine
 gd:A.guards=some []
theorem Room.mono{k:Nat}(r:Room k A)(h:j≤k):Room j A:=⟨r.hd,by have:=r.dp;omega,by have:=r.un;omega,r.gd⟩
theorem Room.deeper{k:Nat}(r:Room (k+1) A)(env:Env):Room k (A.deeper env) :=
 ⟨r.hd,by have:=r.dp;show A.depth+1+3*k+5<_;omega,by have:=r.un;show A.units+3+16*k+200<_;omega,r.gd⟩
theorem Room.depth{k:Nat}(r:Room k A):A.depth<recursionLimit:=by have:=r.dp;omega
theorem Room.units{k:Nat}(r:Room k A):A.units+64<cLine:=by have:=r.un;omega
def tNil:TA:=fun _ H Q=>Q [] H
def RG(ta:TE)(tr:TA):TA:=fun σ H Q=>ta σ H fun x H1=>tr σ H1 fun xs H2=>Q (x::xs) H2
section
variable {X:Cx}{e:Expr}{es:List Expr}{te:TE}{t:TA}{pos:Pos}
theorem Mw:PA X [] tNil:=fun _ _ _ _ H Q I h=>ahu ⟨[],H,I,.nil,h⟩
theorem Gi(ha:PE X e te)(hr:PA X es t)(hs:aao (e::es) X.env=(false,eval e X.env)::aao es X.env:=by rfl):PA X (e::es) (RG te t):=by
 intro pos pins s σ H Q I h;rw[hs];show wpAny _ _ (spliced ((false,eval e X.env)::ace pos (aao es X.env))) _ _ s;refine ahl (thn (ha pins s σ H _ I h) fun u s1 ⟨x,H1,I1,r1,q1⟩=>?_);exact thn (hr pos pins s1 σ H1 _ I1 q1) fun us s2 ⟨xs,H2,I2,r2,q2⟩=>⟨x::xs,H2,I2,.cons r1 r2,q2⟩
def tTup(t:TA):TE:=fun σ H Q=>t σ H fun xs H1=>xs.length≤aam/\∀p,H1 p=none->Q (.ref p) (upd H1 p (.tup xs))
def tLst(t:TA):TE:=fun σ H Q=>t σ H fun xs H1=>xs.length≤aam/\∀p,H1 p=none->Q (.ref p) (upd H1 p (.lst xs))
theorem P6{x1}(h:PA X es t):PE X (.Tuple es x1 pos) (tTup t):=by
 intro pins s σ H Q I hq;refine wpAny_Tuple_spliced (thn (h pos pins s σ H _ I hq) fun us s1 ⟨xs,H1,I1,r,z,q⟩=>⟨by rw[<-r.length];exact z,?_⟩);have hf:H1 s1.heap.objs.size=none:=I1.hok.fresh (Io _);refine⟨.ref s1.heap.objs.size,upd H1 s1.heap.objs.size (.tup xs),I1.laid (t':=s1.toks) (fun b u e=>OR _ e) (Io _) ?_,rfl,q _ hf⟩;exact⟨z,us,r,⟨_,aar _ rfl,rfl,rfl,_,rfl⟩⟩
theorem LG(h:PA X es t):PE X (.List es pos) (tLst t):=by
 intro pins s σ H Q I hq;refine wpAny_List_spliced (thn (h pos pins s σ H _ I hq) fun us s1 ⟨xs,H1,I1,r,z,q⟩=>⟨by rw[<-r.length];exact z,?_⟩);have hf:H1 s1.heap.objs.size=none:=I1.hok.fresh (Io _);refine⟨.ref s1.heap.objs.size,upd H1 s1.heap.objs.size (.lst xs),I1.laid (t':=s1.toks) (fun b u e=>OR _ e) (Io _) ?_,rfl,q _ hf⟩;exact⟨z,us,0,r,aar _ rfl⟩
end
abbrev Sp:=List V->Hp->VK->XK->Prop
abbrev CXT:=List Env->Hp->aaa->XK->GE->aaa->Prop
structure Env0(P:aaW)(w:World)(K:aaj)(mg:Str->Option GE)(base:aa4)(A:abx)(outer:List Env)(s:aaa)(H:Hp):Prop where
 frames:A.frames=some outer
 mod:Mod K mg base
 bs:∀b o,base.get? b=some o->s.heap.get? b=some o/\H b=none
 bsz:base.objs.size≤s.heap.objs.size
 funs:s.heap.FunFrames base outer
 frf:∀b∈frs outer,H b=none
 hok:HOk P w H s.heap
 bare:afA s.gens
def CE(outer:List Env)(P:aaW)(w:World)(H:Hp)(s:aaa)(Q:VK)(u:GE)(s':aaa):Prop :=
 ∃v H',s'.os=s.os/\afA s'.gens/\Un (frs outer) [] H H' s.heap s'.heap/\HOk P w H' s'.heap/\RelV v u/\Q v H'
def CR(CX:CXT)(outer:List Env)(P:aaW)(w:World)(H:Hp)(s:aaa)(Q:VK)(E:XK)(r:Result)(s':aaa):Prop :=
 match r with
 | .ok (.ret u)=>CE outer P w H s Q u s'
 | .ok _=>False
 | .error e=>CX outer H s E e s'
structure FnOk(P:aaW)(w:World)(K:aaj)(mg:Str->Option GE)(base:aa4)(CX:CXT)(k:Nat)(f:Addr)(fd:ac5)(ps:List Str)(sp:Sp):Prop where
 len:∀vs H Q E,sp vs H Q E->vs.length=ps.length
 run:∀(A:abx) (outer:List Env) (s:aaa) (H:Hp) (args:Args) (us:List GE) (vs:List V) (Q:VK) (E:XK),Room k A->Env0 P w K mg base A outer s H->ahv s fd args (ps.zip us)->Vals vs us->sp vs H Q E ->
  aeK (model P w) A (.call (.ref f) args) (CR CX outer P w H s Q E) s
section
variable {X:Cx}{pins:List (Addr×Obj)}{σ:St}{H:Hp}{s s':aaa}
theorem Inv.env0(I:Inv X pins σ H s):Env0 X.prog X.w X.K X.mg X.base X.A X.stack s H :=
 ⟨I.ok.frames,I.ok.mod,I.bs,aaz I.ok.bsz I.sz,I.stack,I.stkFree,I.hok,I.bare⟩
theorem Inv.after{Q:VK}(I:Inv X pins σ H s)(h:CE X.stack X.prog X.w H s Q u s'):EP X pins σ Q u s':=by
 obtain⟨v,H',os,bare,un,hok,r,q⟩:=h;obtain⟨hh,g,d,t,os'⟩:=s';obtain rfl:os'=s.os:=os;exact⟨v,H',I.call (h':=hh) (g':=g) (d':=d) (t':=t) (ch:=[]) un hok bare (fun b z=>absurd z (by simp)),r,q⟩
end
def Ll(sp:Sp)(dvs:List V)(E:XK)(t:TA):TE:=fun σ H Q=>t σ H fun vs H1=>sp (vs++dvs) H1 Q E
def Binds(K:aaj)(fd:ac5)(ps:List Str)(ds:List GE):Prop :=
 ∀(s:aaa) (us:List GE),K.In s.heap->(us++ds).length=ps.length->ahv s fd ⟨us,[]⟩ (ps.zip (us++ds))
theorem Binds.all{fd:ac5}(h:∀us:List GE,us.length=ps.length->bindArgs fd ⟨us,[]⟩=pure (ps.zip us)):Binds K fd ps []:=fun s us _ hl=>by
 rw[aa5]at hl⊢;exact .of_eq (h us hl)
def uu(CX:CXT)(X:Cx)(E:XK):Prop:=∀(pins:List (Addr×Obj)) (σ:St) (H:Hp) (s:aaa) (e:GE) (s':aaa),Inv X pins σ H s->CX X.stack H s E e s'->X.xe e s'
section
variable {X:Cx}{CX:CXT}{k:Nat}{f C:Addr}{fd:ac5}{ps:List Str}{sp:Sp}{dvs:List V}{ds:List GE}{E:XK}{x m:Str}{p pos apos:Pos}{e o:Expr}{es:List Expr}{ta:TE}{t:TA}
theorem KO{s:aaa}{Q:VK}{vs:List V}(F:FnOk X.prog X.w X.K X.mg X.base CX k f fd ps sp)(hr:Room k X.A)(hb:Binds X.K fd ps ds)(hd:Vals dvs ds)(hx:uu CX X E)
  (I:Inv X pins σ H s) (r:Vals vs us) (h:sp (vs++dvs) H Q E):wpAny (model X.prog X.w) X.A (call (.ref f) us) (EP X pins σ Q) X.xe s:=by
 have r2:Vals (vs++dvs) (us++ds):=r.append hd;have hl:(us++ds).length=ps.length:=by rw[<-r2.length];exact F.len _ _ _ _ h
 refine wpAny_call (afb (F.run X.A X.stack s H ⟨us,[]⟩ (us++ds) (vs++dvs) Q E hr I.env0 (hb s us I.kIn hl) r2 h) fun r s' hq=>?_)
 cases r with
 |error e=>exact hx pins σ H s e s' I hq
 |ok fl =>
  cases fl with
  |ret u=>exact I.after hq
  |next=>exact adq hq
  |brk=>exact adq hq
  |cont=>exact adq hq
theorem JM(F:FnOk X.prog X.w X.K X.mg X.base CX k f fd ps sp)(hr:Room k X.A)(hg:Gl X x)(hm:X.mg x=some (.ref f))(hk:adM X.K (.ref f)=true)(hb:Binds X.K fd ps ds)(hd:Vals dvs ds)(hx:uu CX X E)
  (ha:PA X (e::es) t) (hdb:(x==("__debug__" : Str))=false:=by decide) (he:aao (e::es) X.env=(false,eval e X.env)::aao es X.env:=by rfl) (hpl:(ace pos (aao es X.env)).any (·.1)=false:=by rfl) :
  PE X (.Call (.Name x p) (e::es) [] pos) (Ll sp dvs E t):=by
 intro pins s σ H Q I h;refine aeg (xN I hg hm ?_ hdb);refine PySem.W.callWith_K (h₀:=X.base) I.ok.mod.kin hk (thn (ha pos pins s σ H _ I h) fun us s1 ⟨vs,H1,I1,r,q⟩=>⟨I1.kIn,?_⟩) he hpl;exact KO F hr hb hd hx I1 r q
end
structure ap(N P:List Str)(sc:Scope):Prop where
 kind:sc.kind = .function
 co:sc.isCoroutine=false
 gen:sc.isGenerator=false
 nd:N.Nodup
 pre:N.take P.length=P
 par:∀x∈P,sc.names.lookup x=some .local\/sc.names.lookup x=some .cell
 nofree:∀y∈sc.names,y.2≠.free
theorem qj{kindOf:Str->Option aeN}{x:Str}:∀{binds:List (Str×GE)}{m:Str->Option GE},(∀v,(x,v)∉binds)->bindL kindOf binds m x=m x
 |[],_,_=>rfl
 | (n,v)::r,m,h=>by
  unfold bindL;rw[qj fun w hw=>h w (aab _ hw)];split
  .have:x≠n:=by rintro rfl;exact h v aaf
   simp[this]
  .rfl
theorem o6{kindOf:Str->Option aeN}{x:Str}:∀{binds:List (Str×GE)}{m:Str->Option GE},(∀v,(x,v)∉binds)->bindC kindOf binds m x=m x
 |[],_,_=>rfl
 | (n,v)::r,m,h=>by
  unfold bindC;rw[o6 fun w hw=>h w (aab _ hw)];split
  .rfl
  .have:x≠n:=by rintro rfl;exact h v aaf
   simp[this]
theorem pg{kindOf:Str->Option aeN}{x:Str}{v:GE}:∀{P:List Str}{vs:List GE}{i:Nat}{m:Str->Option GE},P.Nodup->P[i]?=some x->vs[i]?=some v->kindOf x=some .local ->
  bindL kindOf (P.zip vs) m x=some v
 |[],_,_,_,_,h,_,_=>by simp at h
 |_::_,[],_,_,_,_,h,_=>by simp at h
 |p::P,w::vs,0,m,nd,h1,h2,hk=>by
  simp at h1 h2;subst h1;subst h2;show bindL kindOf ((p,w)::P.zip vs) m p=_;unfold bindL;rw[qj fun v hv=>(aaV.mp nd).1 (agz hv).1,if_pos hk];simp
 |p::P,w::vs,i+1,m,nd,h1,h2,hk=>by
  show bindL kindOf ((p,w)::P.zip vs) m x=_;unfold bindL;exact pg (i:=i) (aaV.mp nd).2 (by simpa using h1) (by simpa using h2) hk
theorem qf{kindOf:Str->Option aeN}{x:Str}{v:GE}:∀{P:List Str}{vs:List GE}{i:Nat}{m:Str->Option GE},P.Nodup->P[i]?=some x->vs[i]?=some v->kindOf x≠some .local ->
  bindC kindOf (P.zip vs) m x=some v
 |[],_,_,_,_,h,_,_=>by simp at h
 |_::_,[],_,_,_,_,h,_=>by simp at h
 |p::P,w::vs,0,m,nd,h1,h2,hk=>by
  simp at h1 h2;subst h1;subst h2;show bindC kindOf ((p,w)::P.zip vs) m p=_;unfold bindC;rw[o6 fun v hv=>(aaV.mp nd).1 (agz hv).1,if_neg hk];simp
 |p::P,w::vs,i+1,m,nd,h1,h2,hk=>by
  show bindC kindOf ((p,w)::P.zip vs) m x=_;unfold bindC;exact qf (i:=i) (aaV.mp nd).2 (by simpa using h1) (by simpa using h2) hk
def start(N:List Str)(vs:List V):St:=vs.map some++aat (N.length-vs.length) none
def cxOf(CX:CXT)(P:aaW)(w:World)(K:aaj)(mg:Str->Option GE)(base:aa4)(N:List Str)(qual:Str)(scope:Scope)(f:Addr)(cd:GE)(A:abx)(outer:List Env)(s:aaa)(H:Hp)(E:XK):Cx where
 prog:=P
 w:=w
 K:=K
 mg:=mg
 base:=base
 A:=A.deeper (ae0 qual scope s.heap.objs.size f cd)
 N:=N
 s₀:=s
 H₀:=H
 env:=ae0 qual scope s.heap.objs.size f cd
 outer:=outer
 stack:=ae0 qual scope s.heap.objs.size f cd::outer
 ex:=[]
 calm:=true
 fn:=fun _=>true
 pn:=[]
 xe:=fun e s'=>wpAny (model P w) (A.deeper (ae0 qual scope s.heap.objs.size f cd)) (leaving (ae0 qual scope s.heap.objs.size f cd) e) (fun _ s''=>CX outer H s E e s'') (fun e' s''=>CX outer H s E e' s'') s'
theorem uA{sc:Scope}{n:Nat}(h:sc.names.lookup x=some .cell):∃c,(cellsFrom n sc.names []).lookup x=some c:=by
 have q:=agh sc.names n [] (.inl h);exact afK.mp q
theorem xv{CX:CXT}{base:aa4}{qual:Str}{f:Addr}{cd:GE}{outer:List Env}{s s1:aaa}{E:XK}{vs:List V}
  (S:ap N ps scope) (hd:A.handled=none) (e0:Env0 P w K mg base A outer s H) (hl:vs.length=ps.length) (r:Vals vs us)
  (x:InCallC s s.heap.objs.size (bindL (ae0 qual scope s.heap.objs.size f cd).kindOf (ps.zip us) fun _=>none) (cellsFrom (s.heap.objs.size+1) scope.names []) (bindC (ae0 qual scope s.heap.objs.size f cd).kindOf (ps.zip us) fun _=>none) s1) :
  Inv (cxOf CX P w K mg base N qual scope f cd A outer s H E) [] (start N vs) H s1:=by
 have hpl:ps.length≤N.length:=by have:=congrArg aeO S.pre;rw[aaJ]at this;omega
 obtain⟨h1,tk,rfl,hk⟩:=x.done;have noA:∀b:Addr,b∉(cxOf CX P w K mg base N qual scope f cd A outer s H E).ex:=fun b z=>absurd (show b∈([]:List Addr)from z) (by simp);refine⟨⟨e0.mod,S.kind,rfl,rfl,Io _,fun y z c h1 h2=>?_,fun y hy=>?_,fun y c _ h=>?_,fun _=>hd,abx.frames_deeper e0.frames,.inr ⟨rfl,rfl⟩,fun b z=>absurd z (noA b),e0.bs,e0.bsz,fun b _ _=>noA b,fun b z=>absurd z (noA b),e0.funs,e0.frf⟩,
  rfl,e0.bare,Un.kept hk,⟨_,x.toInCall.ns,fun i y v h1 h2 h3=>?_⟩,fun y c h=>⟨_,x.cell y c h⟩,e0.hok.fresh (Io _),fun y c h=>?_,fun p hp=>absurd (show p∈([]:List (Addr×Obj))from hp) (by simp),e0.hok.kept hk,?_⟩
 .exact name_of_addr x.apart (acB h1) (acB h2)
 .have hy:scope.names.lookup y=some .cell\/scope.names.lookup y=some .free:=hy;rcases hy with hy|hy
  .exact uA hy
  .exact absurd rfl (S.nofree _ (acB hy))
 .exact adQ (x.above y c (acB h))
 .have hi:i<vs.length:=by
   unfold start at h2
   by_cases hi:i<vs.length
   .exact hi
   .rw[aaU (by simpa using hi)]at h2;rw[aej]at h2
    split at h2<;>cases h2
  have ha:vs[i]?=some v:=by
   unfold start at h2;rw[aaX (by simpa using hi),aak]at h2
   cases e:vs[i]? with
   |none=>rw[e]at h2;cases h2
   |some a=>rw[e]at h2;cases h2;rfl
  obtain⟨u,hu,rv⟩:=r.get ha;have hp:ps[i]?=some y:=by
   rw[<-S.pre,List.getElem?_take_of_lt (by omega)];exact h1
  have ndP:ps.Nodup:=by rw[<-S.pre];exact S.nd.sublist (List.take_sublist _ _)
  refine⟨u,rv,?_⟩;rcases S.par y (aae hp)with k|k
  .exact .inl ⟨k,pg ndP hp hu k⟩
  .obtain⟨c,e⟩:=uA (n:=s.heap.objs.size+1) k;refine .inr ⟨.inl k,c,e,?_⟩;have q:=x.cell y c e;rw[qf ndP hp hu (by show scope.names.lookup y≠_;rw[k];decide)]at q;exact q
 .exact e0.hok.fresh (adQ (x.above y c (acB h)))
 .unfold start;show _=N.length;rw[aap,oR,abH];omega
theorem RQ{CX:CXT}{base:aa4}{k:Nat}{f:Addr}{name qual:Str}{params:Arguments}{dV kV doc pm cdv ct oc:GE}{an od:Option Addr}
  {osl:Array (Option GE)}{sp:Sp} (lk:K.lookup f=some ⟨oc,od,.func (adR name qual params body scope dV kV doc pm an cdv ct),osl⟩) (hcd:afi K cdv qual=true) (S:ap N ps scope)
  (len:∀vs H Q E,sp vs H Q E->vs.length=ps.length)
  (hbody:∀(A:abx) (outer:List Env) (s:aaa) (H:Hp) (vs:List V) (Q:VK) (E:XK),Room k (A.deeper (ae0 qual scope s.heap.objs.size f cdv))->sp vs H Q E ->
   ∃t,PSs (cxOf CX P w K mg base N qual scope f cdv A outer s H E) body t/\t {nx:=fun _ H'=>Q .non H',rt:=Q} (start N vs) H) :
  FnOk P w K mg base CX (k+1) f (adR name qual params body scope dV kV doc pm an cdv ct) ps sp:=by
 refine⟨len,fun A outer s H args us vs Q E hr e0 hb r hsp=>?_⟩;have hl:=len _ _ _ _ hsp;have KX:K.In s.heap:=e0.mod.kin.keeps fun b o e=>(e0.bs b o e).1;have lim:s.heap.NoLimit:=e0.mod.nolimit.keeps fun b o e=>(e0.bs b o e).1;have hkind:∀y∈ps.zip us,scope.names.lookup y.1=some .local\/(scope.names.lookup y.1=some .cell/\((cellsFrom (s.heap.objs.size+1) scope.names []).lookup y.1).isSome=true):=fun⟨n,v⟩ hy=>by
  rcases S.par n (agz hy).1 with q|q
  .exact .inl q
  .exact .inr ⟨q,agh _ _ _ (.inl q)⟩
 refine codeAny_call_function hr.depth (KX _ _ lk) rfl S.co S.gen rfl (PySem.W.codeRec_of KX hcd) (hb _ _ _ _ ?_);refine wpAny_newFunctionEnv_cells S.kind hkind fun env he s1 x=>?_;subst he;refine⟨lim.keeps x.toInCall.keep,codeAny_func ?_⟩;obtain⟨t,ht,hq⟩:=hbody A outer s H vs Q E (hr.deeper _) hsp;have I:Inv (cxOf CX P w K mg base N qual scope f cdv A outer s H E) [] (start N vs) H s1:=xv S hr.hd e0 hl r x;refine aef (ht [] s1 (start N vs) H _ I hq) (fun fl s' hs=>?_) fun e s' hs=>hs;have fin:∀{σ':St}{H':Hp}{v:V}{u:GE},Inv (cxOf CX P w K mg base N qual scope f cdv A outer s H E) [] σ' H' s'->RelV v u->Q v H'->CE outer P w H s Q u s' :=
  fun {σ' H' v u} J rv q=>⟨v,H',J.os,J.bare,J.base,J.hok,rv,q⟩
 cases fl with
 |ret u =>
  obtain⟨v,σ',H',J,rv,q⟩:=hs;exact fin J rv q
 |next =>
  obtain⟨σ',H',J,q⟩:=hs;exact fin (v:=V.non) (u:=agf) J rfl q
 |brk =>
  obtain⟨_,_,_,q⟩:=hs;exact adq q
 |cont =>
  obtain⟨_,_,_,q⟩:=hs;exact adq q
section
variable {X:Cx}{x:Str}{p pos:Pos}{e:Expr}{es:List Expr}{t:TA}{id T:String}{r:List V->Hp->VK->Prop}
def tCB(r:List V->Hp->VK->Prop)(t:TA):TE:=fun σ H Q=>t σ H fun vs H1=>r vs H1 Q
theorem Br(hc:dU X (.builtin id) r)(hg:Gl X x)(hm:X.mg x=none)(hv:abj x=some (.builtin id))(ha:PA X (e::es) t)(hn:x ≠ "__name__" :=by decide)(hdb:(x==("__debug__" : Str))=false:=by decide)
  (he:aao (e::es) X.env=(false,eval e X.env)::aao es X.env:=by rfl) (hpl:(ace pos (aao es X.env)).any (·.1)=false:=by rfl):PE X (.Call (.Name x p) (e::es) [] pos) (tCB r t):=by
 intro pins s σ H Q I h;refine aeg (ll I hg hm hv ?_ hn hdb);exact aeD (thn (ha pos pins s σ H _ I h) fun us s1 ⟨vs,H1,I1,r1,q1⟩=>hc pins s1 σ H1 vs us Q I1 r1 q1) he hpl
theorem zh(hc:dU X (.type T) r)(hg:Gl X x)(hm:X.mg x=none)(hv:abj x=some (.type T))(ha:PA X (e::es) t)(hn:x ≠ "__name__" :=by decide)(hdb:(x==("__debug__" : Str))=false:=by decide)
  (he:aao (e::es) X.env=(false,eval e X.env)::aao es X.env:=by rfl) (hpl:(ace pos (aao es X.env)).any (·.1)=false:=by rfl):PE X (.Call (.Name x p) (e::es) [] pos) (tCB r t):=by
 intro pins s σ H Q I h;refine aeg (ll I hg hm hv ?_ hn hdb);exact acG (thn (ha pos pins s σ H _ I h) fun us s1 ⟨vs,H1,I1,r1,q1⟩=>hc pins s1 σ H1 vs us Q I1 r1 q1) he hpl
end
end L2
namespace HT
open PySem PyProof.Rows
variable{Q:GE->aaa->Prop}{hi lo:Option Int}
section
variable {prog:aaW}{w:World}{A:abx}{E:GE->aaa->Prop}{s:aaa}
theorem cat_tup{t b:Addr}{vs ws:List GE}(ht:IsTup s.heap t vs.toArray)(hb:IsTup s.heap b ws.toArray)(hv:vs≠[])
  (h1:ws=[]->Q (.ref t) s) (h2:ws≠[]->Q (.ref s.heap.objs.size) {s with heap:=s.heap.push {cls:=.type "tuple",data:=.seq (vs++ws).toArray} })
  (hsz:vs.length+ws.length≤aam):wpAny (model prog w) A (ack .Add (.ref t) (.ref b)) Q E s:=by
 obtain⟨⟨cls,dd,data,sl⟩,ho,hc,n,hd⟩:=id ht;obtain⟨⟨cls2,dd2,data2,sl2⟩,ho2,hc2,n2,hd2⟩:=id hb;simp only at hc hd hc2 hd2;subst hc hd hc2 hd2;have e:vs.toArray++ws.toArray=(vs++ws).toArray:=by simp
 by_cases hw:ws=[]
 .exact agi ⟨_,ho,rfl⟩ ⟨_,ho2,rfl⟩ afW ahf aes aek (ad3 _ _)
   (tuple_addW1 t b vs.toArray ws.toArray n n2 dd dd2 sl sl2 (by simpa using hv) (by simp[hw])) ⟨ho,ho2,h1 hw⟩
 .refine agi ⟨_,ho,rfl⟩ ⟨_,ho2,rfl⟩ afW ahf aes aek (ad3 _ _)
   (tuple_addW2 t b vs.toArray ws.toArray n n2 dd dd2 sl sl2 (by simpa using hv) (by simpa using hw) (by rw[aas,aas];exact hsz)) ⟨ho,ho2,?_⟩
  rw[e];exact h2 hw
def sIx(n d:Nat):Option Int->Nat
 |none=>d
 |some v=>if v<0 then(v+(n:Int)).toNat else min v.toNat n
theorem sIx_none(n d:Nat):sIx n d none=d:=rfl
theorem sIx_nat(n d k:Nat):sIx n d (some (k:Int))=min k n:=by
 show(if (k:Int)<0 then((k:Int)+(n:Int)).toNat else min (k:Int).toNat n)=min k n;rw[if_neg (by omega),aba]
theorem MH(n d:Nat)(hd:d≤n)(o:Option Int):sIx n d o≤n:=by
 cases o with
 |none=>exact hd
 |some v =>
  show(if v<0 then(v+(n:Int)).toNat else min v.toNat n)≤n
  by_cases hv:v<0
  .rw[if_pos hv];omega
  .rw[if_neg hv];exact afX _ _
theorem ze(v:Int)(n d:Nat):(if v<0 then max (v+(n:Int)) 0 else min v (n:Int))=((sIx n d (some v):Nat):Int):=by
 show(if v<0 then max (v+(n:Int)) 0 else min v (n:Int))=(((if v<0 then(v+(n:Int)).toNat else min v.toNat n):Nat):Int)
 by_cases hv:v<0
 .simp only[if_pos hv];omega
 .simp only[if_neg hv];omega
theorem vP(lo hi:Option Int)(n:Nat):adZ lo hi 1 (n:Int)=(((sIx n 0 lo:Nat):Int),((sIx n n hi:Nat):Int)):=by
 have h1:¬((1:Int)<0):=by omega
 unfold adZ;simp only[h1,if_false];refine Prod.ext ?_ ?_
 .cases lo with
  |none=>rfl
  |some v=>exact ze v n 0
 .cases hi with
  |none=>rfl
  |some v=>exact ze v n n
theorem vT(i j:Nat):acZ (i:Int) (j:Int) 1=j-i:=by
 unfold acZ;have h1:(1:Int)>0:=by omega
 simp only[h1,if_true,Int.ediv_one]
 split<;>omega
theorem lD{v:GE}{o:Option Int}{Q:Option Int->aaa->Prop}(p:agj v o)(h:Q o s):wpAny (model prog w) A (ac4.Slice.slicePartIndex v) Q E s:=by
 cases p with
 |none=>exact slicePart_none h
 |int i t=>exact slicePart_int h
theorem fC{sl:Addr}{vl vu:GE}{n:Nat}{Q:Int×Int×Nat->aaa->Prop}(hs:s.heap.IsSliceOf sl vl vu .none)(pl:agj vl lo)(pu:agj vu hi)
  (h:Q (((sIx n 0 lo:Nat):Int),1,sIx n n hi-sIx n 0 lo) s):wpAny (model prog w) A (afj (.ref sl) (pure (n:Int))) Q E s:=by
 obtain⟨os,hos,hcs,hds⟩:=id hs;unfold afj ac4.Slice.sliceFields;refine gE (gE (abc hos hds (x:=vl) rfl (gE (abc hos hds (x:=vu) rfl (gE (abc hos hds (x:=.none) rfl (aac ?_)))))));refine gE (slicePart_none ?_);show wpAny _ _ (if ((1:Int)==0)=true then _ else _) _ _ s;rw[if_neg (by decide)];refine gE (lD pl (gE (lD pu (gE (aac ?_)))));show wpAny _ _ (match adZ lo hi 1 (n:Int)with|(lo,hi)=>pure (lo,(1:Int),acZ lo hi 1)) _ _ s;rw[vP lo hi n];show wpAny _ _ (pure (((sIx n 0 lo:Nat):Int),(1:Int),acZ ((sIx n 0 lo:Nat):Int) ((sIx n n hi:Nat):Int) 1)) _ _ s;rw[vT];exact aac h
theorem Bi(xs:Array GE)(i k:Nat):((aaP k).filterMap fun(m:Nat)=>xs[((i:Int)+(m:Int)*1).toNat]?).toArray=((xs.toList.drop i).take k).toArray:=by
 have e:(fun(m:Nat)=>xs[((i:Int)+(m:Int)*1).toNat]?)=fun m=>xs[i+m]?:=by
  funext m
  have:((i:Int)+(m:Int)*1).toNat=i+m:=by omega
  rw[this]
 rw[e];have:=pick_run xs i k;rw[List.filterMap_map]at this;have e2:((fun x=>xs[x]?)∘fun x=>i+x)=fun m=>xs[i+m]?:=rfl;rw[e2]at this;rw[this]
theorem getItem_tuple_cut{t sl:Addr}{items:Array GE}{vl vu:GE}(ht:IsTup s.heap t items)(hs:s.heap.IsSliceOf sl vl vu .none)(pl:agj vl lo)(pu:agj vu hi)
  (hw:¬(sIx items.size 0 lo=0/\sIx items.size items.size hi=items.size))
  (h:Q (.ref s.heap.objs.size) {s with heap:=s.heap.push {cls:=.type "tuple",data:=.seq ((items.toList.drop (sIx items.size 0 lo)).take (sIx items.size items.size hi-sIx items.size 0 lo)).toArray} })
  (hsz:items.size≤aam):wpAny (model prog w) A (ag2 (.ref t) (.ref sl)) Q E s:=by
 have htake:sizeOk (.seq ((items.toList.drop (sIx items.size 0 lo)).take (sIx items.size items.size hi-sIx items.size 0 lo)).toArray):=by
  show((items.toList.drop (sIx items.size 0 lo)).take (sIx items.size items.size hi-sIx items.size 0 lo)).toArray.size≤aam;rw[aas,aaJ,adT,abm];omega
 have hj:sIx items.size items.size hi≤items.size:=MH _ _ (Io _) hi;obtain⟨os,hos,hcs,hds⟩:=id hs;have hTs:s.TypeIs (.ref sl) "slice" :=⟨os,hos,hcs⟩;unfold ag2
 try with_reducible refine abZ ?_
 first|refine gE (aac ?_)|skip
 refine gE (afB ht.typeIs (by decide) ?_);refine gE (aaY (name:=ab3 "__getitem__") ht.typeIs abv
  (aa0 abv ht.typeIs entry_tuple_getitem ?_ (args_tuple_getitem _ _)))
 show wpAny _ _ (adN (.ref t) >>= _) _ _ s;refine gE (ahg ht ?_);refine gE (adU hTs ?_);rw[if_pos (by decide)];refine gE (fC hs pl pu ?_);have hno:¬((((sIx items.size 0 lo:Nat):Int)==0&&(1:Int)==1&&(sIx items.size items.size hi-sIx items.size 0 lo)==items.size)=true):=by
  intro q;rw[aaL,aaL]at q;have q1:((sIx items.size 0 lo:Nat):Int)=0:=afe q.1.1;have q2:sIx items.size items.size hi-sIx items.size 0 lo=items.size:=afe q.2;exact hw ⟨by omega,by omega⟩
 show wpAny _ _ (if (((sIx items.size 0 lo:Nat):Int)==0&&(1:Int)==1&&(sIx items.size items.size hi-sIx items.size 0 lo)==items.size)=true then _ else _) _ _ s;rw[if_neg hno,Bi]
 first
  |exact gE (m:=ab0 _) (aa9 (aac ⟨_,rfl,aac h⟩) htake)
  |exact gE (m:=ab0 _) (aa9 (gE (aac (aac ⟨_,rfl,aac h⟩))) htake)
  |exact gE (gE (m:=ab0 _) (aa9 (aac (aac ⟨_,rfl,aac h⟩)) htake))
  |exact gE (gE (m:=ab0 _) (aa9 (aac ⟨_,rfl,aac h⟩) htake))
end
end HT
namespace L2
open PySem PySem.Spec PyProof.Rows
variable{xs:List V}{n:Nat}{α:Type}{pins:List (Addr×Obj)}{σ:St}{H:Hp}{its its':List GE}
abbrev TO:=St->Hp->(Option Int->Hp->Prop)->Prop
def PO(X:Cx)(e:Option Expr)(t:TO):Prop :=
 ∀(pins:List (Addr×Obj)) (s:aaa) (σ:St) (H:Hp) (Q:Option Int->Hp->Prop),Inv X pins σ H s->t σ H Q ->
  wpAny (model X.prog X.w) X.A (evalPart e X.env) (fun u s'=>∃o H',Inv X pins σ H' s'/\agj u o/\Q o H') X.xe s
def JA:TO:=fun _ H Q=>Q none H
def RF(t:TE):TO:=fun σ H Q=>t σ H fun x H1=>∃i,x = .int i/\Q (some i) H1
theorem jg{ns:List Int}:∀{us:List GE},Vals (ns.map V.int) us->afC us ns:=by
 induction ns with
 |nil=>intro us r;rw[ab4]at r;cases r;exact .nil
 | cons n ns ih =>
  intro us r;rw[aai]at r
  cases r with
  |cons r1 r2 =>
   obtain⟨t,e⟩:=r1;subst e;exact .cons n t (ih r2)
section
variable {X:Cx}{e:Expr}{te:TE}{lo hi:Option Expr}{tl th:TO}{pos p2:Pos}
theorem JI:PO X none JA:=by
 intro pins s σ H Q I h;rw[evalPart_none];exact aac ⟨none,H,I,.none,h⟩
theorem Ix(h:PE X e te):PO X (some e) (RF te):=by
 intro pins s σ H Q I hw;rw[evalPart_some];refine thn (h pins s σ H _ I hw) fun u s1 ⟨x,H1,I1,r1,q1⟩=>?_;obtain⟨i,rfl,q⟩:=q1;obtain⟨t,rfl⟩:=r1;exact⟨some i,H1,I1,.int i t,q⟩
def SlR(X:Cx)(r:V->Option Int->Option Int->Hp->VK->Prop):Prop :=
 ∀(pins:List (Addr×Obj)) (s:aaa) (σ:St) (H:Hp) (x:V) (v vl vu:GE) (lo hi:Option Int) (sl:Addr) (Q:VK),Inv X pins σ H s->RelV x v->s.heap.IsSliceOf sl vl vu .none->agj vl lo->agj vu hi->r x lo hi H Q ->
  ∃T id,typeLookup (.type T) "__getitem__" = pure (some (.builtin id))/\s.TypeIs v T/\wpAny (model X.prog X.w) X.A (ag2 v (.ref sl)) (EP X pins σ Q) X.xe s
def tSl(r:V->Option Int->Option Int->Hp->VK->Prop)(te:TE)(tl th:TO):TE:=fun σ H Q=>te σ H fun x H1=>tl σ H1 fun l H2=>th σ H2 fun u H3=>r x l u H3 Q
theorem Dq{r:V->Option Int->Option Int->Hp->VK->Prop}(hr:SlR X r)(he:PE X e te)(hl:PO X lo tl)(hu:PO X hi th):PE X (.Subscript e (.Slice lo hi none p2) pos) (tSl r te tl th):=by
 intro pins s σ H Q I h;refine Subscript_ (thn (he pins s σ H _ I h) fun v s1 ⟨x,H1,I1,r1,q1⟩=>?_);refine wpAny_Slice (thn (hl pins s1 σ H1 _ I1 q1) fun vl s2 ⟨l,H2,I2,pl,q2⟩=>thn (hu pins s2 σ H2 _ I2 q2) fun vu s3 ⟨u,H3,I3,pu,q3⟩=>?_);rw[evalPart_none];refine aac ?_;have I4:Inv X pins σ H3 {s3 with heap:=s3.heap.push {cls:=.type "slice",data:=.fields #[vl,vu,.none]} }:=I3.kept (t':=s3.toks) fun b ob q=>OR _ q;obtain⟨T,id,hT,ht,hg⟩:=hr pins {s3 with heap:=s3.heap.push {cls:=.type "slice",data:=.fields #[vl,vu,.none]} } σ H3 x v vl vu l u s3.heap.objs.size Q I4 r1 (aa4.IsSliceOf.new ..) pl pu q3;show wpAny (model X.prog X.w) X.A (subscriptTail e (.Slice lo hi none p2) v (.ref s3.heap.objs.size)) (EP X pins σ Q) X.xe {s3 with heap:=s3.heap.push {cls:=.type "slice",data:=.fields #[vl,vu,.none]} };exact tail_any (ops:=[.ref s3.heap.objs.size,v]) ht hT hg (by with_unfolding_all rfl)
def cutV(xs:List V)(lo hi:Option Int):List V:=(xs.drop (HT.sIx xs.length 0 lo)).take (HT.sIx xs.length xs.length hi-HT.sIx xs.length 0 lo)
theorem ki(xs:List V)(lo hi:Option Int):(cutV xs lo hi).length≤xs.length:=by
 unfold cutV;rw[aaJ,adT];omega
def rSlT(K:aaj):V->Option Int->Option Int->Hp->VK->Prop:=fun x lo hi H Q=>∃a xs,x = .ref a/\SqT K H a xs /\
 ¬(HT.sIx xs.length 0 lo=0/\HT.sIx xs.length xs.length hi=xs.length)/\∀p,H p=none->Q (.ref p) (upd H p (.tup (cutV xs lo hi)))
theorem LW:SlR X (rSlT X.K):=by
 intro pins s σ H x v vl vu lo hi sl Q I rx hs pl pu h;obtain⟨a,xs,rfl,hx,hw,q⟩:=h;cases rx;obtain⟨its,r,ht,hz⟩:=I.tuple hx;have hlen:its.toArray.size=xs.length:=by rw[aas];exact r.length.symm
 refine⟨"tuple",_,abv.lookup,ht.typeIs,?_⟩;refine HT.getItem_tuple_cut ht hs pl pu (by rw[hlen];exact hw) ?_ (by rw[hlen];exact hz);rw[hlen];refine⟨.ref s.heap.objs.size,_,I.laid (t':=s.toks) (o:=.tup (cutV xs lo hi)) (fun b ob q=>OR _ q) (Io _) ?_,rfl,q _ (I.hok.fresh (Io _))⟩;exact⟨aaz (ki xs lo hi) hz,_,(r.drop (HT.sIx xs.length 0 lo)).take (HT.sIx xs.length xs.length hi-HT.sIx xs.length 0 lo),PlainT.new _ _⟩
def QI(K:aaj):R2:=fun x y H Q=>∃a b xs ys,x = .ref a/\y = .ref b/\SqT K H a xs/\SqT K H b ys/\xs≠[]/\xs.length+ys.length≤aam /\
 (ys=[]->Q (.ref a) H)/\(ys≠[]->∀p,H p=none->Q (.ref p) (upd H p (.tup (xs++ys))))
theorem Vals.nil_iff{us:List GE}(r:Vals xs us):us=[]↔xs=[]:=by
 cases r with
 |nil=>simp
 |cons _ _=>simp
theorem Jg:OpR X (ack .Add) (QI X.K):=by
 intro pins s σ H x y v u Q I rx ry h;obtain⟨a,b,xs,ys,rfl,rfl,ha,hb,hx,hz,q1,q2⟩:=h;cases rx;cases ry;obtain⟨its,r1,p1,_⟩:=I.tuple ha;obtain⟨its2,r2,p2,_⟩:=I.tuple hb;refine HT.cat_tup p1 p2 (fun z=>hx (r1.nil_iff.mp z)) (fun z=>⟨.ref a,H,I,rfl,q1 (r2.nil_iff.mp z)⟩) (fun z=>?_) (by rw[<-r1.length,<-r2.length];exact hz);refine⟨.ref s.heap.objs.size,_,I.laid (t':=s.toks) (o:=.tup (xs++ys)) (fun b ob q=>OR _ q) (Io _) ?_,rfl,q2 (fun w=>z (r2.nil_iff.mpr w)) _ (I.hok.fresh (Io _))⟩;exact⟨by rw[aap];exact hz,_,r1.append r2,PlainT.new _ _⟩
end
def ixN(n:Nat)(i:Int):Option Nat:=if 0≤i then(if i<n then some i.toNat else none)else if -(n:Int)≤i then some (i+n).toNat else none
def atI{α:Type}(xs:List α)(i:Int):Option α:=(ixN xs.length i).bind fun j=>xs[j]?
theorem yG{i:Int}{j:Nat}(h:ixN n i=some j):seqIndex? i n=some j/\j<n/\-(n:Int)≤i/\i<n:=by
 unfold ixN at h
 by_cases h0:0≤i
 .rw[if_pos h0]at h
  by_cases h1:i<n
  .rw[if_pos h1]at h;have e:i.toNat=j:=aau h;exact⟨by rw[seqIndex_of h0 h1,e],by omega,by omega,h1⟩
  .rw[if_neg h1]at h;cases h
 .rw[if_neg h0]at h
  by_cases h1 : -(n:Int)≤i
  .rw[if_pos h1]at h;have e:(i+n).toNat=j:=aau h;exact⟨by rw[ahw (by omega) h1,e],by omega,h1,by omega⟩
  .rw[if_neg h1]at h;cases h
theorem sX{xs:List α}{i:Int}{v:α}(h:atI xs i=some v):∃j,seqIndex? i xs.length=some j/\xs[j]?=some v/\j<xs.length/\-(xs.length:Int)≤i/\i<xs.length:=by
 unfold atI at h
 cases e:ixN xs.length i with
 |none=>rw[e]at h;cases h
 |some j =>
  rw[e]at h;obtain⟨h1,h2,h3,h4⟩:=yG e;exact⟨j,h1,h,h2,h3,h4⟩
theorem bg{xs:List α}{j:Nat}{v:α}(h:xs[j]?=some v):atI xs (j:Int)=some v:=by
 have hj:j<xs.length:=(aad.mp h).1;have e:ixN xs.length (j:Int)=some j:=by
  unfold ixN;rw[if_pos (by omega),if_pos (by omega)];simp
 unfold atI;rw[e];exact h
theorem vc(xs:List α)(v:α):atI (xs++[v]) (-1)=some v:=by
 have hl:(xs++[v]).length=xs.length+1:=by simp
 have e:ixN (xs++[v]).length (-1)=some xs.length:=by
  unfold ixN;rw[hl,if_neg (by decide),if_pos (by omega)]
  congr 1
  omega
 unfold atI;rw[e];show(xs++[v])[xs.length]?=some v;simp
def sg(b:Expr):Prop:=∀o i,subscripted b false o i=operate [o,i] (ag2 o i)
def IxR(X:Cx)(r:R2):Prop :=
 ∀(value slice:Expr) (pins:List (Addr×Obj)) (s:aaa) (σ:St) (H:Hp) (x y:V) (v u:GE) (Q:VK),Inv X pins σ H s->RelV x v->RelV y u->r x y H Q ->
  subscripted slice false v u=operate [v,u] (ag2 v u)->wpAny (model X.prog X.w) X.A (subscriptTail value slice v u) (EP X pins σ Q) X.xe s
def MtR(X:Cx)(id:String)(r:V->List V->Hp->VK->Prop):Prop :=
 ∀(pins:List (Addr×Obj)) (s:aaa) (σ:St) (H:Hp) (x:V) (xs:List V) (v:GE) (us:List GE) (Q:VK),Inv X pins σ H s->RelV x v->Vals xs us->r x xs H Q ->
  wpAny (model X.prog X.w) X.A (call (.builtin id) (v::us)) (EP X pins σ Q) X.xe s
section
variable {X:Cx}{a b:Expr}{ta tb:TE}{pos:Pos}
theorem Qp{r:R2}(hr:IxR X r)(ha:PE X a ta)(hb:PE X b tb)(hs:sg b):PE X (.Subscript a b pos) (tOp r ta tb):=by
 intro pins s σ H Q I h;exact Subscript_ (binT ha hb I h fun v u s2 x y H2 I2 rx ry q=>hr a b pins s2 σ H2 x y v u Q I2 rx ry q (hs _ _))
def rIxL(K:aaj):R2:=fun x y H Q=>∃p xs i v,x = .ref p/\y = .int i/\SqL K H p xs/\atI xs i=some v/\Q v H
def rIxT(K:aaj):R2:=fun x y H Q=>∃p xs i v,x = .ref p/\y = .int i/\SqT K H p xs/\atI xs i=some v/\Q v H
def rIxS:R2:=fun x y H Q=>∃z i c,x = .str z/\y = .int i/\z.length≤aam/\atI z.cps.toList i=some c/\Q (.str ⟨#[c]⟩) H
theorem Jk:IxR X (rIxL X.K):=by
 intro value slice pins s σ H x y v u Q I rx ry h hs;obtain⟨p,xs,i,z,rfl,rfl,hq,he,q⟩:=h;cases rx;obtain⟨t,rfl⟩:=ry;obtain⟨its,r,pl,hz⟩:=I.list hq;obtain⟨j,h1,h2,h3,h4,h5⟩:=sX he;obtain⟨w,ew,rw'⟩:=r.get h2;have hl:=r.length;have hn:=lP;have fin:EP X pins σ Q w s:=⟨z,H,I,rw',q⟩
 by_cases h0:0≤i
 .have hj:i.toNat=j:=by
   rw[seqIndex_of h0 h5]at h1;exact aau h1
  exact item_listR pl.isList h0 (by omega) (by rw[hj];simpa using ew) fin hs
 .have hj:(i+(its.toArray.size:Int)).toNat=j:=by
   rw[ahw (by omega) h4]at h1;rw[aas,<-hl];exact aau h1
  exact agk (x:=w) pl.isList.typeIs slot_list_getitem.lookup
   (wpAny_getItem_list_neg (Q:=fun r s'=>r=w/\EP X pins σ Q r s') pl.isList (by omega) (by rw[aas]<;>omega) (by omega) (by rw[hj];simpa using ew) ⟨rfl,fin⟩) hs
theorem L9:IxR X (rIxT X.K):=by
 intro value slice pins s σ H x y v u Q I rx ry h hs;obtain⟨p,xs,i,z,rfl,rfl,hq,he,q⟩:=h;cases rx;obtain⟨t,rfl⟩:=ry;obtain⟨its,r,pl,hz⟩:=I.tuple hq;obtain⟨j,h1,h2,h3,h4,h5⟩:=sX he;obtain⟨w,ew,rw'⟩:=r.get h2;have hl:=r.length;have hn:=lP;have fin:EP X pins σ Q w s:=⟨z,H,I,rw',q⟩;exact agk (x:=w) pl.typeIs slot_tuple_getitem.lookup
  (getItem_tuple (j:=j) (Q:=fun r s'=>r=w/\EP X pins σ Q r s') pl (by omega) (by omega) (by rw[aas,<-hl];exact h1) (by simpa using ew) ⟨rfl,fin⟩) hs
theorem O5:IxR X rIxS:=by
 intro value slice pins s σ H x y v u Q I rx ry h hs;obtain⟨z,i,c,rfl,rfl,hz,he,q⟩:=h;obtain⟨t,rfl⟩:=rx;obtain⟨t',rfl⟩:=ry;obtain⟨j,h1,h2,h3,h4,h5⟩:=sX he;have hl:z.cps.toList.length=z.length:=by simp[Str.length]
 rw[hl]at h1 h4 h5;have hn:=lP;exact tail_any (typeIs_str s z t) slot_str_getitem.lookup (getItem_str (c:=c) (by
  have e1:decide (i < -(2^63:Int))=false:=decide_eq_false (by omega);have e2:decide (i≥2^63)=false:=decide_eq_false (by omega);rw[e1,e2,Bool.or_false]) (by rw[h1];simpa using h2) ⟨.str ⟨#[c]⟩,H,I.tok _,⟨_,rfl⟩,q⟩) hs
theorem wq(its:List GE)(n j:Nat)(u:GE):acf (·.setIfInBounds j u) {cls:=.type "list",data:=.seq its.toArray n}={cls:=.type "list",data:=.seq (its.set j u).toArray n}:=by
 simp[acf]
theorem Inv.lst{s:aaa}{p:Addr}(I:Inv X pins σ H s)(h:H p=some (.lst xs)) :
  ∃(its:List GE) (n:Nat),Vals xs its/\s.heap.get? p=some {cls:=.type "list",data:=.seq its.toArray n}/\xs.length≤aam:=by
 obtain⟨z,its,n,r,e⟩:=I.hok p _ h;exact⟨its,n,r,e,z⟩
theorem Inv.lstUpd{s:aaa}{p:Addr}{ys:List V}{n':Nat}{f:Obj->Obj}(I:Inv X pins σ H s)(h:H p=some (.lst xs))
  (ho:s.heap.get? p=some {cls:=.type "list",data:=.seq its.toArray n}) (hf:f {cls:=.type "list",data:=.seq its.toArray n}={cls:=.type "list",data:=.seq its'.toArray n' }) (r:Vals ys its') (hz:ys.length≤aam) (t:Nat) :
  Inv X pins σ (upd H p (.lst ys)) {s with heap:=s.heap.update p f,toks:=t}:=by
 have e:(s.heap.update p f).get? p=some {cls:=.type "list",data:=.seq its'.toArray n' }:=by
  rw[acW f ho (by rw[hf]<;>rfl),hf]
 refine I.write (x:=p) (e:=p) (by rw[h];trivial) (.inl rfl) (fun b u hb q=>(acH _ _ (abz hb)).trans q) ⟨_,e⟩ ?_;exact⟨hz,its',n',r,e⟩
def Qv:V->V->V->Hp->(Hp->Prop)->Prop:=fun o i v H Q=>∃p xs k j,o = .ref p/\i = .int k/\H p=some (.lst xs)/\ixN xs.length k=some j/\Q (upd H p (.lst (xs.set j v)))
theorem Bo:PSet X Qv:=by
 intro pins s σ H o i v ov iv u Q I ro ri rv h;obtain⟨p,xs,k,j,rfl,rfl,hp,hj,q⟩:=h;cases ro;obtain⟨t,rfl⟩:=ri;obtain⟨its,n,r,ho,hz⟩:=I.lst hp;obtain⟨h1,h2,h3,h4⟩:=yG hj;have hl:=r.length;have hn:=lP;have I':Inv X pins σ (upd H p (.lst (xs.set j v))) {s with heap:=s.heap.update p (acf (·.setIfInBounds j u))} :=
  I.lstUpd hp ho (wq its n j u) (r.set rv j) (by rw[abp];exact hz) s.toks
 by_cases h0:0≤k
 .have hk:k.toNat=j:=by
   rw[seqIndex_of h0 h4]at h1;exact aau h1
  exact PySem.W.ki_setAt ho h0 (by omega) (by rw[aas,<-hl];exact h4) (by rw[hk];exact⟨_,I',q⟩)
 .have hk:(k+(its.toArray.size:Int)).toNat=j:=by
   rw[ahw (by omega) h3]at h1;rw[aas,<-hl];exact aau h1
  exact PySem.W.ki_setBack ho (by omega) (by rw[aas,<-hl];exact h3) (by omega) (by rw[hk];exact⟨_,I',q⟩)
theorem qb(lo hi:Option Int)(n:Nat):(ael lo hi none n).1=((HT.sIx n 0 lo:Nat):Int)/\(ael lo hi none n).2.1=((HT.sIx n n hi:Nat):Int)/\(ael lo hi none n).2.2=1:=by
 refine⟨?_,?_,rfl⟩
 .cases lo with
  |none=>simp[ael,HT.sIx]
  |some i =>
   simp only[ael,HT.sIx,afY,show(1:Int)>0 by decide,if_true]
   by_cases h:i<0
   .simp only[h,if_true]<;>omega
   .simp only[h,if_false]<;>omega
 .cases hi with
  |none=>simp[ael,HT.sIx]
  |some i =>
   simp only[ael,HT.sIx,afY,show(1:Int)>0 by decide,if_true]
   by_cases h:i<0
   .simp only[h,if_true]<;>omega
   .simp only[h,if_false]<;>omega
theorem ot(its:List GE)(lo hi:Option Int):slicePick its.toArray lo hi none=((its.drop (HT.sIx its.length 0 lo)).take (HT.sIx its.length its.length hi-HT.sIx its.length 0 lo)).toArray:=by
 obtain⟨h1,h2,h3⟩:=qb lo hi its.toArray.size;unfold slicePick;rw[h1,h2,h3];simp only[sliceRange_one,pick_run,aas]<;>rfl
def rSlL(K:aaj):V->Option Int->Option Int->Hp->VK->Prop:=fun x lo hi H Q=>∃a xs,x = .ref a/\SqL K H a xs/\∀p,H p=none->Q (.ref p) (upd H p (.lst (cutV xs lo hi)))
theorem Ik:SlR X (rSlL X.K):=by
 intro pins s σ H x v vl vu lo hi sl Q I rx hs pl pu h;obtain⟨a,xs,rfl,hx,q⟩:=h;cases rx;obtain⟨its,r,ht,hz⟩:=I.list hx;have hlen:=r.length;refine⟨"list",_,slot_list_getitem.lookup,ht.isList.typeIs,?_⟩;refine wpAny_getItem_list_slice ht.isList hs pl pu .none (by simp) ?_ (by rw[aas]<;>omega);rw[ot,<-hlen];refine⟨.ref s.heap.objs.size,_,I.laid (t':=s.toks) (o:=.lst (cutV xs lo hi)) (fun b ob q=>OR _ q) (Io _) ?_,rfl,q _ (I.hok.fresh (Io _))⟩;exact⟨aaz (ki xs lo hi) hz,_,0,(r.drop (HT.sIx xs.length 0 lo)).take (HT.sIx xs.length xs.length hi-HT.sIx xs.length 0 lo),aar _ rfl⟩
theorem jh:dU X (.builtin "len") (fun xs H Q=>∃p ys,xs=[.ref p]/\(SqL X.K H p ys\/SqT X.K H p ys)/\Q (.int ys.length) H):=by
 intro pins s σ H xs us Q I r h;obtain⟨p,ys,rfl,hq,q⟩:=h;obtain⟨u,rfl,rx⟩:=x8 r;cases rx;have hn:=lP;rcases hq with hq|hq
 .obtain⟨its,r',pl,hz⟩:=I.list hq;have hlen:=r'.length;exact Calls.call_len_list pl.isList (by simp only[aas]<;>omega) ⟨.int ys.length,H,I.tok _,⟨s.toks+1,by rw[aas,hlen]⟩,q⟩
 .obtain⟨its,r',pl,hz⟩:=I.tuple hq;have hlen:=r'.length;exact len_tuple pl (by simp only[aas]<;>omega) ⟨.int ys.length,H,I.tok _,⟨s.toks+1,by rw[aas,hlen]⟩,q⟩
theorem pG:dU X (.builtin "len") (fun xs H Q=>∃z,xs=[.str z]/\z.length≤aam/\Q (.int z.length) H):=by
 intro pins s σ H xs us Q I r h;obtain⟨z,rfl,hz,q⟩:=h;obtain⟨u,rfl,t,rfl⟩:=x8 r;have hn:=lP;exact len_str (by omega) ⟨.int z.length,H,I.tok _,⟨_,rfl⟩,q⟩
theorem qI:dU X (.type "list") (fun xs H Q=>∃p ys,xs=[.ref p]/\(SqL X.K H p ys\/SqT X.K H p ys)/\∀l,H l=none->Q (.ref l) (upd H l (.lst ys))):=by
 intro pins s σ H xs us Q I r h;obtain⟨p,ys,rfl,hq,q⟩:=h;obtain⟨u,rfl,rx⟩:=x8 r;cases rx;have fin:∀(its:List GE),Vals ys its->ys.length≤aam->∀(h':aa4) (c':Nat),(∀b o',s.heap.get? b=some o'->h'.get? b=some o') ->
   h'.get? s.heap.objs.size=some {cls:=.type "list",dict:=none,data:=.seq its.toArray c',slots:=#[]}->EP X pins σ Q (.ref s.heap.objs.size) {s with heap:=h' }:=fun its r' hz h' c' kp e =>
  ⟨.ref s.heap.objs.size,_,I.laid (t':=s.toks) kp (Io _) (show ObjOk X.prog X.w _ h' _ (.lst ys)from⟨hz,its,c',r',e⟩),rfl,q _ (I.hok.fresh (Io _))⟩
 rcases hq with hq|hq
 .obtain⟨its,r',pl,hz⟩:=I.list hq;have hlen:=r'.length;obtain⟨o,ho,hc,n,hd⟩:=pl.isList;exact call_list_seq p (.inl rfl) ho hc hd (fun h' c' kp e=>fin its r' hz h' c' kp e) (by simp only[aas]<;>omega)
 .obtain⟨its,r',pl,hz⟩:=I.tuple hq;have hlen:=r'.length;obtain⟨o,ho,hc,n,hd⟩:=pl;exact call_list_seq p (.inr rfl) ho hc hd (fun h' c' kp e=>fin its r' hz h' c' kp e) (by simp only[aas]<;>omega)
theorem l5:dU X (.type "tuple") (fun xs H Q=>∃p ys,xs=[.ref p]/\((SqL X.K H p ys/\∀l,H l=none->Q (.ref l) (upd H l (.tup ys)))\/(SqT X.K H p ys/\Q (.ref p) H))):=by
 intro pins s σ H xs us Q I r h;obtain⟨p,ys,rfl,h⟩:=h;obtain⟨u,rfl,rx⟩:=x8 r;cases rx;rcases h with⟨hq,q⟩|⟨hq,q⟩
 .obtain⟨its,r',pl,hz⟩:=I.list hq;have hlen:=r'.length;refine call_tuple_list pl.isList (fun h' kp=>?_) (by simp only[aas]<;>omega);have I1:Inv X pins σ H {s with heap:=h' }:=I.kept (t':=s.toks) kp;have I2:Inv X pins σ (upd H h'.objs.size (.tup ys)) {s with heap:=h'.push {cls:=.type "tuple",data:=.seq its.toArray} } :=
   I1.laid (t':=s.toks) (fun b o e=>OR _ e) (Io _) (show ObjOk X.prog X.w _ _ _ (.tup ys)from⟨hz,its,r',PlainT.new _ _⟩)
  exact⟨.ref h'.objs.size,_,I2,rfl,q _ (I1.hok.fresh (Io _))⟩
 .obtain⟨its,r',pl,hz⟩:=I.tuple hq;exact call_tuple_same pl ⟨.ref p,H,I,rfl,q⟩
def tyV(K:aaj)(T:String)(x:V)(H:Hp):Prop:=match x with
 | .str _=>T = "str"
 | .int _=>T = "int"
 | .ref p=>(T = "list" /\ ∃xs,SqL K H p xs)\/(T = "tuple" /\ ∃xs,SqT K H p xs) \/
   (T = "dict" /\ ((∃kvs,H p=some (.dK kvs))\/∃kvs,H p=some (.dT kvs)))\/(T = "set" /\ ∃S n,H p=some (.set S n))
 |_=>False
theorem Pj{s:aaa}{T:String}{x:V}{v:GE}(I:Inv X pins σ H s)(r:RelV x v)(ty:tyV X.K T x H) :
  s.TypeIs v T/\∀a,v = .ref a->∃ob,s.heap.get? a=some ob/\ob.dict=none:=by
 cases x with
 |str z =>
  obtain⟨t,rfl⟩:=r
  cases (show T = "str" from ty)
  exact⟨typeIs_str s z t,fun _ e=>nomatch e⟩
 |int i =>
  obtain⟨t,rfl⟩:=r
  cases (show T = "int" from ty)
  exact⟨agl s i t,fun _ e=>nomatch e⟩
 | ref p =>
  cases r;rcases ty with⟨rfl,xs,hq⟩|⟨rfl,xs,hq⟩|⟨rfl,hk⟩|⟨rfl,S,n,hk⟩
  .obtain⟨its,_,pl,_⟩:=I.list hq;refine⟨pl.isList.typeIs,fun a e=>?_⟩;cases e;obtain⟨o,n,e,c,hd,_⟩:=pl;exact⟨o,e,hd⟩
  .obtain⟨its,_,⟨o,e0,hc,hd,_⟩,_⟩:=I.tupleP hq;refine⟨⟨o,e0,hc⟩,fun a e=>?_⟩;cases e;exact⟨o,e0,hd⟩
  .have z:∃o,s.heap.get? p=some o/\o.ExactDict:=by
    rcases hk with⟨kvs,hk⟩|⟨kvs,hk⟩
    .obtain⟨_,_,_,_,o,_,_,e,ex,_⟩:=I.hok p _ hk;exact⟨o,e,ex⟩
    .obtain⟨_,_,_,_,o,_,_,e,ex,_⟩:=I.hok p _ hk;exact⟨o,e,ex⟩
   obtain⟨o,e,ex⟩:=z;refine⟨⟨o,e,ex.1⟩,fun a e2=>?_⟩;cases e2;exact⟨o,e,ex.2.1⟩
  .obtain⟨o,_,_,_,e,ex,_⟩:=I.hok p _ hk;refine⟨⟨o,e,ex.1⟩,fun a e2=>?_⟩;cases e2;exact⟨o,e,ex.2.1⟩
 |_=>exact adq ty
def tBM(K:aaj)(T:String)(r:V->List V->Hp->VK->Prop)(to:TE)(t:TA):TE:=fun σ H Q=>to σ H fun x H1=>tyV K T x H1/\t σ H1 fun xs H2=>r x xs H2 Q
variable {o e:Expr}{es:List Expr}{to:TE}{t:TA}{name:Str}{apos cpos:Pos}{T id:String}{r:V->List V->Hp->VK->Prop}
theorem NH(pa:PlainAttrs T)(slot:Slot T name id)(hty:typeOf (.builtin id)=pure (.type "method_descriptor"))(hm:MtR X id r)(ho:PE X o to)(ha:PA X (e::es) t)
  (hbase:abG o name X.env (eval o X.env)=eval o X.env:=by rfl)
  (hfew:((ace cpos (aao (e::es) X.env)).all (fun x=>!x.1)&&(afk cpos (adO [] X.env)).all (fun x=>x.1.isSome)
   && decide ((e::es).length+([]:List adr).length+(if ([]:List adr).isEmpty then 0 else 1)<30))=true:=by rfl)
  (hline:(apos.endLine==cpos.line)=true:=by rfl) (hs:aao (e::es) X.env=(false,eval e X.env)::aao es X.env:=by rfl) (hplain:(ace cpos (aao es X.env)).any (·.1)=false:=by rfl) :
  PE X (.Call (.Attribute o name apos) (e::es) [] cpos) (tBM X.K T r to t):=by
 intro pins s σ H Q I h;refine agm hbase hfew hline rfl (thn (ho pins s σ H _ I h) fun v s1 ⟨x,H1,I1,r1,ty,q1⟩=>?_);obtain⟨h1,h2⟩:=Pj I1 r1 ty;refine⟨T,id,pa,slot,hty,h1,h2,?_⟩;have hA:=ha cpos pins s1 σ H1 _ I1 q1;rw[hs]at hA⊢;refine adt (by show(false||(ace cpos (aao es X.env)).any (·.1))=false;rw[hplain]<;>rfl) (agL ?_);exact thn hA fun us s2 ⟨vs,H2,I2,r2,q2⟩=>hm pins s2 σ H2 x vs v us Q I2 r1 r2 q2
end
def MtM(X:Cx)(id:String)(r:V->List V->Hp->VK->Prop):Prop :=
 ∀(pins:List (Addr×Obj)) (s:aaa) (σ:St) (H:Hp) (x:V) (xs:List V) (v:GE) (us:List GE) (Q:VK),Inv X pins σ H s->RelV x v->Vals xs us->r x xs H Q ->
  wpAny (model X.prog X.w) X.A (call (.builtin id) (v::us)) (EP X pins σ Q) X.xe s
theorem Vals.one:∀{x:V}{us:List GE},Vals [x] us->∃u,us=[u]/\RelV x u
 |_,_,.cons r .nil=>⟨_,rfl,r⟩
theorem Vals.rep{xs:List V}{us:List GE}(h:Vals xs us):∀k:Nat,Vals (aat k xs).flatten (aat k us).flatten
 |0=>.nil
 |k+1=>by
  rw[abn,abn,acu,acu];exact Vals.append h (Vals.rep h k)
theorem jU(its:List GE):∀(k:Nat) (acc:List GE),
  aeE (fun x1 x2=>x1++x2) acc.toArray (aat k its.toArray)=(acc++(aat k its).flatten).toArray
 |0,acc=>by simp
 | k+1,acc=>by
  have e:acc.toArray++its.toArray=(acc++its).toArray:=by simp
  have e2:(acc++its)++(aat k its).flatten=acc++(aat (k+1) its).flatten:=by
   rw[abn,acu,abX]
  rw[<-e2,<-jU its k (acc++its),<-e,abn,abP]
section
variable {X:Cx}{pins:List (Addr×Obj)}{σ:St}{H:Hp}{s:aaa}{l b:Addr}{xs ys zs:List V}
theorem Inv.lset{f:Array GE->Array GE}{t':Nat}(I:Inv X pins σ H s)(hH:H l=some (.lst xs))
  (e:s.heap.get? l=some {cls:=.type "list",data:=.seq its.toArray n}) (hf:f its.toArray=its'.toArray) (hv:Vals ys its') (hz:ys.length≤aam) :
  Inv X pins σ (upd H l (.lst ys)) {s with heap:=s.heap.update l (acf f),toks:=t' }:=by
 have q:=PySem.IsL.update e f;rw[hf]at q;refine I.write (x:=l) (e:=l) (by rw[hH];exact trivial) (.inl rfl) (fun b' u hb hu=>(acH s.heap (acf f) (abz hb)).trans hu) ⟨_,q⟩ ?_;exact⟨hz,its',_,hv,q⟩
theorem Inv.lnew{t':Nat}(I:Inv X pins σ H s)(hv:Vals ys its)(hz:ys.length≤aam) :
  Inv X pins σ (upd H s.heap.objs.size (.lst ys)) {s with heap:=s.heap.push {cls:=.type "list",data:=.seq its.toArray},toks:=t' } :=
 I.laid (fun _ _ q=>OR _ q) (Io _) ⟨hz,its,0,hv,aar _ rfl⟩
theorem Inv.fresh(I:Inv X pins σ H s):H s.heap.objs.size=none:=I.hok.fresh (Io _)
theorem Inv.lstM(I:Inv X pins σ H s)(hH:H l=some (.lst xs)):xs.length≤aam/\∃(its:List GE) (n:Nat),Vals xs its/\xs.length=its.length/\s.heap.get? l=some {cls:=.type "list",data:=.seq its.toArray n}:=by
 obtain⟨z,its,n,r,e⟩:=I.hok l _ hH;exact⟨z,its,n,r,r.length,e⟩
theorem uj(h:n≤aam):adf n=false:=by
 unfold adf;exact decide_eq_false (by omega)
end
section
variable {X:Cx}
def IJ:V->List V->Hp->VK->Prop:=fun x vs H Q=>∃l xs y,x = .ref l/\vs=[y]/\H l=some (.lst xs)/\xs.length<aam/\Q .non (upd H l (.lst (xs++[y])))
theorem o5:MtM X "list.append" IJ:=by
 intro pins s σ H x vs v us Q I rx rv h;obtain⟨l,xs,y,rfl,rfl,hH,hz,q⟩:=h;cases rx;obtain⟨u,rfl,ru⟩:=rv.one;obtain⟨z,its,n,r,hl,e⟩:=I.lstM hH;refine aeF F.slot_list_append ⟨_,e,rfl⟩ F.entry_list_append (F.args_list_append_2 _ _) (PySem.list_append l its.toArray n u (by rw[aas];omega)) ⟨e,?_⟩;refine⟨.non,_,I.lset (its':=its++[u]) hH e (by simp) (r.append (.cons ru .nil)) ?_,rfl,q⟩;rw[aap,agE];omega
def JT:V->List V->Hp->VK->Prop:=fun x vs H Q=>∃l b xs zs,x = .ref l/\vs=[.ref b]/\H l=some (.lst xs)/\H b=some (.lst zs)/\xs.length+zs.length≤aam/\Q .non (upd H l (.lst (xs++zs)))
theorem yU:MtM X "list.extend" JT:=by
 intro pins s σ H x vs v us Q I rx rv h;obtain⟨l,b,xs,zs,rfl,rfl,hH,hB,hz,q⟩:=h;cases rx;obtain⟨u,rfl,ru⟩:=rv.one;cases ru;obtain⟨z,its,n,r,hl,e⟩:=I.lstM hH;obtain⟨z2,its2,n2,r2,hl2,e2⟩:=I.lstM hB;have hsz:its.toArray.size+its2.toArray.size≤aam:=by rw[aas,aas];omega
 have hlong:¬(!its.toArray.isEmpty&&adf (its.toArray.size+its2.toArray.size))=true:=by
  rw[uj hsz,Bool.and_false];exact aaB
 refine aeF F.slot_list_extend ⟨_,e,rfl⟩ F.entry_list_extend (F.args_list_extend_2 _ _)
  (AutoSeq1.list_extend_list_list_0 l its.toArray n b its2.toArray n2 hlong (by rw[aas];omega) (by omega)) ⟨e,e2,?_⟩
 refine⟨.non,_,I.lset (its':=its++its2) hH e (by simp) (r.append r2) ?_,rfl,q⟩;rw[aap];omega
def rRep:R2:=fun x y H Q=>∃l k xs,x = .ref l/\y = .int k/\H l=some (.lst xs)/\-(2^63)≤k/\k<2^63/\xs.length*k.toNat≤aam /\
 ∀p,H p=none->Q (.ref p) (upd H p (.lst (aat k.toNat xs).flatten))
theorem xr(xs:List α)(k:Nat):(aat k xs).flatten.length=k*xs.length:=by
 induction k with
 |zero=>simp
 |succ k ih=>rw[abn,acu,aap,ih,aet,Nat.add_comm]
theorem Me:OpR X (ack .Mult) rRep:=by
 intro pins s σ H x y v u Q I rx ry h;obtain⟨l,k,xs,rfl,rfl,hH,h1,h2,hz,q⟩:=h;cases rx;obtain⟨t,rfl⟩:=ry;obtain⟨z,its,n,r,hl,e⟩:=I.lstM hH;have hlen:its.toArray.size*k.toNat≤aam:=by rw[aas,<-hl];exact hz
 have hcap:¬its.toArray.size*k.toNat>(2^63-1)/8:=by
  have:(aam:Nat)≤(2^63-1)/8:=by decide
  omega
 have hfit:¬(!ac4.List.listFitsIndex k)=true:=by
  rw[fitsIndex_both h1 h2];exact aaB
 have hlong:¬adf (its.toArray.size*k.toNat)=true:=by
  rw[uj hlen];exact aaB
 have hnew:aeE (fun x1 x2=>x1++x2) #[] (aat (if its.toArray.isEmpty=true then 0 else k.toNat) its.toArray)=(aat k.toNat its).flatten.toArray:=by
  have f0:∀m:Nat,aeE (fun x1 x2=>x1++x2) #[] (aat m its.toArray)=(aat m its).flatten.toArray:=fun m=>by
   have:=jU its m [];rw[adC]at this;exact this
  rw[f0]
  cases its with
  |nil=>simp
  |cons a r'=>rw[if_neg (by simp)]
 refine afw (T := "list") (U := "int") (by decide) ⟨_,e,rfl⟩ (fun s'=>agl s' k t) noFill_list_mul F.fills_int_mul F.slot_int_rmul repeat_list F.slot_int_index.lookup
  (aeF F.slot_int_rmul (agl s k t) F.entry_int_rmul (F.args_int_rmul_2 _ _) (int___rmul___int_list k t l its.toArray n)
   ⟨e,rfl,⟨_,e,rfl⟩,aeF F.slot_list_mul ⟨_,e,rfl⟩ F.entry_list_mul (F.args_list_mul_2 _ _) (AutoListH.list___mul___list_int_3 l its.toArray n k t hfit hcap hlong) ⟨e,?_⟩⟩)
 rw[hnew];exact⟨.ref _,_,I.lnew (t':=s.toks) (r.rep k.toNat) (by rw[xr,ac6];exact hz),rfl,q _ I.fresh⟩
end
end L2
namespace Att
open PySem PySem.W PySem.Calls PyProof.Rows
theorem j8{P:Params}{h:aa4}:∀(ns:List Int) (vs:List GE),WellAll P h vs (ns.map WData.int)->afC vs ns:=by
 intro ns
 induction ns with
 |nil =>
  intro vs w;rw[ab4]at w;cases w;exact .nil
 | cons n ns ih =>
  intro vs w;rw[aai]at w
  cases w with
  |cons a b =>
   cases a;exact .cons _ _ (ih _ b)
theorem yb{l:OpenLaw}{n:Nat}(hn:l.most=some n){P:Params}{h:aa4}{args:List WData}{vals:List GE}
  (hpre:l.row.toRowW.claim.pre args=true) (hwl:WellAll P h vals args) :
  ∃a vs ns,vals=[adG a]/\args=[WData.list (ns.map WData.int)]/\h.get? a=some {cls:=.type "list",data:=.seq vs.toArray}/\afC vs ns/\ns.length≤n:=by
 have hsh:WShape.hasAll [] args [.list .int]=true:=(pre_splitW hpre).1;have hc:l.pre.holds [] {args:=args}=true:=(pre_splitW hpre).2;obtain⟨d,r,rfl,h1,h2⟩:=hasAllW_cons hsh;obtain rfl:=hasAllW_nil h2;obtain⟨xs,rfl,h3⟩:=hasW_list h1;obtain⟨ns,rfl⟩:=items_int h3;have hlen:ns.length≤n:=by
  unfold OpenLaw.pre at hc;have h4:(WTm.not (.lt (.lit (.int (n:Int))) (.len (.arg 0)))).holds [] {args:=[.list (ns.map .int)]}=true:=by
   have h4:=(holds_andW hc).1;rw[hn]at h4;exact h4
  have h5:=condW_of h4 (w_not (w_lt w_lit (w_len_list (w_arg rfl))));rw[oR]at h5;refine Nat.le_of_not_lt fun q=>?_;have q':(n:Int)<((ns.length:Nat):Int):=by omega
  first
   |(rw[decide_eq_true q']at h5;exact absurd h5 (by decide))
   |(simp at h5;omega)
 cases hwl with
 |cons w1 w2 =>
  cases w2
  cases w1 with
  |list ho hall=>exact⟨_,_,ns,rfl,rfl,ho,j8 ns _ hall,hlen⟩
theorem xP(l:OpenLaw)(args:List WData):l.row.toRowW.claim.post args (.bool true) args=true :=
 postW_of (r:=l.row.toRowW) (X:=(true==true))
  (show WShape.has [] (.bool true) .bool=true by first|rfl|decide|simp[WShape.has,WShape.arms,WShape.armsAll])
  (show(WTm.eq .res (.lit (.bool true))).value [] {args:=args,res:=some (.bool true),after:=args}=some (.bool (true==true))from w_eq_bool (w_res rfl) w_lit) rfl
theorem attach_call{l:OpenLaw}{n:Nat}{q:aaW}{loose:List Str}{XP:(Str->Option GE)->aa4->Prop}{YP:World->aa4->Prop}{d:DefRec}
  (hn:l.most=some n) (hdf:d.params.defaults=[])
  (call:∀(w:World) (s₀ s₁:aaa) (mg mb:Str->Option GE) (fa:Addr) (o:Obj) (pm cd doc:GE) (a:Addr) (vs:List GE) (ns:List Int),
   Ground q loose [] XP w s₀ mg mb s₁.heap->YP w s₁.heap ->
   s₁.heap.get? fa=some o->o.data = .func (docDef d.name d.params d.body d.scope pm cd doc)->s₁.heap.CodeRec cd d.name->mg d.name=some (.ref fa) ->
   s₁.heap.get? a=some {cls:=.type "list",data:=.seq vs.toArray}->afC vs ns->ns.length≤n->s₁.gens = #[] ->
   aeK (model l.prog w) ag3 (.call (.ref fa) ⟨[.ref a],[]⟩) (fun r s'=>r = .ok (.ret (.bool true))/\OldK s₁.heap s'.heap/\s'.os=s₁.os/\afA s'.gens) s₁) :
  WalkO q loose XP YP l.row.toRowW d [] (fun f vs=>ah5 f vs):=by
 intro w s₀ s₁ mg mb G Y fa o pm cd doc dV kV ho hd hcd hD hmg hg args vals as hpre hlay hrd hwl hlo;obtain rfl:dV = .none:=Dflts.none hD hdf;obtain rfl:kV = .none:=Dflts.noKw hD;obtain⟨a,vs,ns,rfl,rfl,hobj,hints,hlen⟩:=yb hn hpre hwl;refine enter_call (afb (call w s₀ s₁ mg mb fa o pm cd doc a vs ns G Y ho (fd_plain hd) hcd hmg hobj hints hlen hg) fun r s' hq=>?_);obtain⟨rfl,h2,h3,h4⟩:=hq;exact⟨.inl ⟨.bool true,.bool true,[],rfl,fun _=>rfl,.bool true,xP l _,fun _=>⟨List.Pairwise.nil,fun _ hm=>(nomatch hm)⟩⟩,h2,h3,h4⟩
end Att
namespace L2
open PySem PySem.Spec PyProof.Rows
variable{P:MSt->Prop}{w:WS}{K:Kd}{mg:Str->Option GE}{a f l:Addr}{fd:ac5}{qual x y:Str}{ns:List Int}{i j n nN q:Nat}{X:Cx}{st:Stmt}{N own ps:List Str}{od:Option Addr}{A B:Prop}{env:Env}{scope:Scope}{c e elt t tg:Expr}{p pos pos':Pos}{ifs:List Expr}{tb:TS}{J:It}{fp:List Addr}{tn:Nat->aa4->Prop}{pins:List (Addr×Obj)}{σ σ':St}{H H' H0 H1 H2 Hb:Hp}{D:Ends}{E:GE->aaa->Prop}{Q:VK}{vs xs:List V}{ds ds':List iO}{v:V}{ao:Ao}{α α' α1 β:Al}{τ:List (List Nat×Addr)}{r:R}{o:WO}{op:CmpOp}{sp:SpM}{ks:List Nat}{De:dY}{g:WG}{gs:WGs}{m1:MSt}{wi:WI}{we:WE}{tt:WT}{ob:R->Option Int->Option Int->MSt->(R->Prop)->Prop}{hi lo:Option Expr}{wh wl:WO1}{as:List Ag}{Ko:Option Int->MSt->Prop}{Ks:Src->MSt->Prop}
theorem qw:∀{vs:List GE}{ns:List Int},afC vs ns->Vals (ns.map V.int) vs
 |_,_,.nil=>.nil
 |_,_,.cons n t h=>.cons ⟨t,rfl⟩ (qw h)
def Only(H:Hp):Prop:=∀b,H b=none\/∃o xs,H b=some (.frz o (.lst xs))
theorem AE{P:aaW}{w:World}{K:aaj}{mb:Str->Option GE}{CX:CXT}{k:Nat}{fa:Addr}{sp:Sp}{s₁:aaa}{vs:List GE}
  (KX:K.In s₁.heap) (hns:s₁.heap.Ns aaQ mg) (hb:s₁.heap.Ns builtinsNs mb) (hbb:∀x:Str,x ≠ "__name__" -> mb x=abj x) (hlim:s₁.heap.NoLimit) (hsy:∃m,s₁.heap.Ns abL m) (hg:s₁.gens = #[])
  (ha:s₁.heap.get? a=some {cls:=.type "list",data:=.seq vs.toArray}) (hi:afC vs ns) (hl:ns.length≤aam) (hr:Room k ag3)
  (F:∀base:aa4,K.In base->base.Ns aaQ mg->FnOk P w K mg base CX k fa fd [x] sp) (hbind:∀(s:aaa) (u:GE),ahv s fd ⟨[u],[]⟩ [(x,u)])
  (hsp:∀H:Hp,Only H->SqL K H a (ns.map V.int)->sp [.ref a] H (fun v _=>v = .bl true) fun _ _ _=>False)
  (hCX:∀H e s',CX [] H s₁ (fun _ _ _=>False) e s'->False) :
  aeK (model P w) ag3 (.call (.ref fa) ⟨[.ref a],[]⟩) (fun r s'=>r = .ok (.ret (.bool true))/\OldK s₁.heap s'.heap/\s'.os=s₁.os/\afA s'.gens) s₁:=by
 have rv:=qw hi;have lenV:=hi.length;have core:∀H:Hp,Only H->SqL K H a (ns.map V.int)->HOk P w H s₁.heap->(∀b,H b≠none->b=a)->(H a≠none->K.lookup a=none) ->
   aeK (model P w) ag3 (.call (.ref fa) ⟨[.ref a],[]⟩) (fun r s'=>r = .ok (.ret (.bool true))/\OldK s₁.heap s'.heap/\s'.os=s₁.os/\afA s'.gens) s₁:=by
  intro H hO hS hok hA hK;have base_of:∀{b:Addr}{o:Obj},s₁.heap.get? b=some o->H b=none->(hidT s₁.heap H).get? b=some o:=fun e n=>BZ e n;have noA:∀{b:Addr}{o:Obj}{es:Array acm}{ep:Nat},s₁.heap.get? b=some o->o.data = .dict es ep->H b=none:=fun {b o es ep} e d=>by
   cases q:H b with
   |none=>rfl
   |some u =>
    have e':b=a:=hA b (by rw[q];simp);subst e';rw[ha]at e;cases e;have d':Data.seq vs.toArray _=Data.dict es ep:=d;cases d'
  have nsK:∀{b:Addr}{m:Str->Option GE},s₁.heap.Ns b m->(hidT s₁.heap H).Ns b m:=fun {b m} ⟨o,es,ep,e,d,r⟩=>⟨o,es,ep,base_of e (noA e d),d,r⟩;have hKb:K.In (hidT s₁.heap H):=fun b o e=>base_of (KX b o e) (by
   cases q:H b with
   |none=>rfl
   |some u =>
    have e':b=a:=hA b (by rw[q];simp);subst e';rw[hK (by rw[q];simp)]at e;cases e)
  have hM:Mod K mg (hidT s₁.heap H):=⟨hKb,nsK hns,⟨mb,nsK hb,hbb⟩,let ⟨mc,h1,h2⟩:=hlim;⟨mc,nsK h1,h2⟩,let ⟨m,h⟩:=hsy;⟨m,nsK h⟩⟩;have e0:Env0 P w K mg (hidT s₁.heap H) ag3 [] s₁ H:=⟨rfl,hM,fun b o e=>JD e,Nat.le_of_eq (zO _ _),trivial,fun b hb=>absurd (show b∈([]:List Addr)from hb) (by simp),hok,.of_eq hg⟩;refine afb ((F _ hKb (nsK hns)).run ag3 [] s₁ H ⟨[.ref a],[]⟩ [.ref a] [.ref a] _ _ hr e0 (hbind s₁ (.ref a)) (.cons rfl .nil) (hsp H hO hS)) fun r s' h=>?_
  cases r with
  |error e=>exact(hCX H e s' h).elim
  | ok fl =>
   cases fl with
   |next=>exact adq h
   |brk=>exact adq h
   |cont=>exact adq h
   | ret u =>
    obtain⟨v,H',os,bare,un,hok',r',q⟩:=h;have q':v = .bl true:=q;subst q';obtain rfl:u=Value.bool true:=r';refine⟨rfl,OldK.of_keep fun b o e=>?_,os,bare⟩
    cases q:H b with
    |none=>exact un.keep b o e q (by intro z;exact absurd (show b∈([]:List Addr)from z) (by simp)) (by simp)
    |some u =>
     rcases hO b with z|⟨ob,xs,z⟩
     .rw[q]at z;cases z
     .have z2:=un.frzs b ob _ z;obtain⟨e1,_⟩:=hok b _ z;obtain⟨e2,_⟩:=hok' b _ z2;rw[e]at e1;cases e1;exact e2
 cases hk:K.lookup a with
 |some o =>
  have e:=KX a o hk;rw[ha]at e;cases e;refine core (fun _=>none) (fun _=>.inl rfl) (.inr ⟨_,vs.toArray,_,hk,rfl,rfl,rfl,by rw[aas,lenV];exact hl,by simpa using rv⟩) (fun b u z=>by have z':(none:Option HO)=some u:=z;cases z') (fun b z=>absurd rfl z) fun z=>absurd rfl z
 | none =>
  refine core (fun b=>if b=a then some (.frz {cls:=.type "list",data:=.seq vs.toArray} (.lst (ns.map V.int)))else none) (fun b=>?_) (.inl (.inr ⟨{cls:=.type "list",data:=.seq vs.toArray},if_pos rfl⟩)) (fun b u z=>?_) (fun b z=>?_) fun _=>hk
  .by_cases hb:b=a
   .exact .inr ⟨_,_,if_pos hb⟩
   .exact .inl (if_neg hb)
  .by_cases hb:b=a
   .have z':=(if_pos hb).symm.trans z;cases z';subst hb;exact⟨ha,by rw[oR];exact hl,vs,_,rv,ha⟩
   .have z':=(if_neg hb).symm.trans z;cases z'
  .by_cases hb:b=a
   .exact hb
   .exact absurd (if_neg hb) z
theorem GA{l:ah2}{k:Nat}{q:aaW}{loose:List Str}{XP:(Str->Option GE)->aa4->Prop}{YP:World->aa4->Prop}{d:DefRec}{K:Params->aaj}{CX:World->CXT}{sp:World->Sp}
  (hq:importsNone q=true) (hn:l.most=some n) (hn2:n≤aam) (hdf:d.params.defaults=[]) (hr:Room k ag3)
  (hY:∀(w:World) (h:aa4),YP w h->(K w.params).In h)
  (F:∀(w:World) (mg:Str->Option GE) (fa:Addr) (h:aa4),(K w.params).In h->h.Ns aaQ mg->mg d.name=some (.ref fa) ->
   ∃fd:ac5,(∀(s:aaa) (u:GE),ahv s fd ⟨[u],[]⟩ [(x,u)]) /\
    ∀base:aa4,(K w.params).In base->base.Ns aaQ mg->FnOk l.prog w (K w.params) mg base (CX w) k fa fd [x] (sp w))
  (hsp:∀(w:World) (H:Hp) (a:Addr) (ns:List Int),ns.length≤n->Only H->SqL (K w.params) H a (ns.map V.int)->sp w [.ref a] H (fun v _=>v = .bl true) fun _ _ _=>False)
  (hCX:∀(w:World) (H:Hp) (s:aaa) (e:GE) (s':aaa),CX w [] H s (fun _ _ _=>False) e s'->False) :
  ah9 q loose XP YP l.row.toRowW d [] (fun f vs=>ah5 f vs):=by
 refine Att.attach_call hn hdf fun w s₀ s₁ mg mb fa o pm cd doc a vs ns G Y ho hd hcd hmg hobj hints hlen hg=>?_;have KX:=hY w _ Y;obtain⟨fd,hb,hF⟩:=F w mg fa _ KX G.T.g hmg;exact AE KX G.T.g G.T.b G.T.builtins G.T.nolimit (let ⟨m,h,_⟩:=(G.T.seer hq).mods;⟨m,h⟩) hg hobj hints (aaz hlen hn2) hr hF hb (fun H hO hS=>hsp w H a ns hlen hO hS) fun H e s'=>hCX w H s₁ e s'
def km(s:Stmt):Arguments:=match s with
 | .FunctionDef _ a _ _ _ _ _ _ _ _=>a
 |_=>{posonlyargs:=[],args:=[],vararg:=none,kwonlyargs:=[],kw_defaults:=[],kwarg:=none,defaults:=[]}
def dM(s:Stmt):List Stmt:=match s with
 | .FunctionDef _ _ b _ _ _ _ _ _ _=>b
 |_=>[]
def ab(s:Stmt):Scope:=match s with
 | .FunctionDef _ _ _ _ _ _ sc _ _ _=>sc
 |_=>{kind:=.function,names:=[],isGenerator:=false,isCoroutine:=false}
abbrev CX0:CXT:=fun _ _ _ _ _ _=>False
abbrev E0:XK:=fun _ _ _=>False
theorem SI:uu CX0 X E0:=fun _ _ _ _ _ _ _ h=>h.elim
structure Fun(K:aaj)(x qual:Str)(st:Stmt)(f:Addr)(fd:ac5):Prop where
 ex:∃(oc:GE) (od:Option Addr) (kV doc pm:GE) (an:Option Addr) (cdv ct:GE) (osl:Array (Option GE)),
  fd=adR x qual (km st) (dM st) (ab st) .none kV doc pm an cdv ct/\K.lookup f=some ⟨oc,od,.func fd,osl⟩/\afi K cdv qual=true
 kp:adM K (.ref f)=true
section
variable {P:aaW}{w:World}{K:aaj}{mg:Str->Option GE}{base:aa4}
theorem Fun.ok{k:Nat}{sp:Sp}(F:Fun K x qual st f fd)(S:ap N ps (ab st))(len:∀vs H Q E,sp vs H Q E->vs.length=ps.length)
  (hbody:∀(cdv:GE) (A:abx) (outer:List Env) (s:aaa) (H:Hp) (vs:List V) (Q:VK) (E:XK),Room k (A.deeper (ae0 qual (ab st) s.heap.objs.size f cdv))->sp vs H Q E ->
   ∃t,PSs (cxOf CX0 P w K mg base N qual (ab st) f cdv A outer s H E).nox (dM st) t/\t {nx:=fun _ H'=>Q .non H',rt:=Q} (start N vs) H):FnOk P w K mg base CX0 (k+1) f fd ps sp:=by
 obtain⟨oc,od,kV,doc,pm,an,cdv,ct,osl,rfl,lk,hcd⟩:=F.ex;refine RQ lk hcd S len fun A outer s H vs Q E hr hsp=>?_;obtain⟨t,h,q⟩:=hbody cdv A outer s H vs Q E hr hsp;exact⟨t,h.nox,q⟩
theorem Fun.binds(F:Fun K x qual st f fd)
  (h:∀(kV doc pm:GE) (an:Option Addr) (cdv ct:GE) (us:List GE),us.length=ps.length->bindArgs (adR x qual (km st) (dM st) (ab st) .none kV doc pm an cdv ct) ⟨us,[]⟩=pure (ps.zip us)):Binds K fd ps []:=by
 obtain⟨oc,od,kV,doc,pm,an,cdv,ct,osl,rfl,lk,hcd⟩:=F.ex;exact .all (h kV doc pm an cdv ct)
theorem KH{oc:GE}{an:Option Addr}{osl:Array (Option GE)}{kV doc pm cdv ct:GE}(l:K.lookup f=some ⟨oc,od,.func (adR x qual (km st) (dM st) (ab st) .none kV doc pm an cdv ct),osl⟩)
  (c:afi K cdv qual=true) (k:adM K (.ref f)=true):Fun K x qual st f (adR x qual (km st) (dM st) (ab st) .none kV doc pm an cdv ct):=⟨⟨oc,od,kV,doc,pm,an,cdv,ct,osl,rfl,l,c⟩,k⟩
end
theorem iteF(h:B):if false=true then A else B:=by
 rw[if_neg aaB];exact h
theorem iteT(h:A):if true=true then A else B:=by
 rw[if_pos rfl];exact h
def aI(X:Cx)(scope:Scope)(cl:List (Str×Addr))(N:List Str)(s:aaa)(H:Hp)(C:Addr)(ex:List Addr):Cx where
 prog:=X.prog
 w:=X.w
 K:=X.K
 mg:=X.mg
 base:=X.base
 A:=X.A
 N:=N
 s₀:=s
 H₀:=H
 env:=agM scope cl C X.env
 outer:=X.stack
 stack:=X.stack
 ex:=ex
 fn:=fun _=>false
 calm:=X.calm
 eb:=X.eb
 pn:=[]
 xe:=fun _ _=>False
theorem iM{env:Env}:∀{names:List (Str×aeN)}{acc:List (Str×Addr)},(∀y∈names,y.2 = .free->∃c,env.cells.lookup y.1=some c)->(∀x c,acc.lookup x=some c->env.cells.lookup x=some c) ->
  ∃cl,(forIn names acc fun(x:Str×aeN) (cs:List (Str×Addr))=>if (x.2==ad4)=true then do let c <- cellOf env x.1;pure (ae1 ((x.1,c)::cs))else pure (ae1 cs):Sem (List (Str×Addr)))=pure cl /\
   (∀x c,cl.lookup x=some c->env.cells.lookup x=some c)/\(∀y∈names,y.2 = .free->∃c,cl.lookup y.1=some c)/\(∀x,(∃c,acc.lookup x=some c)->∃c,cl.lookup x=some c)
 |[],acc,_,ha=>⟨acc,rfl,ha,fun y hy=>absurd hy (by simp),fun _ h=>h⟩
 | (n,k)::r,acc,h,ha=>by
  rw[ae2]
  by_cases hk:k = .free
  .subst hk;obtain⟨c,hc⟩:=h (n,.free) aaf rfl;have hc':env.cells.lookup n=some c:=hc;have e1:cellOf env n=pure c:=by unfold cellOf;rw[hc']
   obtain⟨cl,e2,h2,h3,h4⟩:=iM (env:=env) (names:=r) (acc:=(n,c)::acc) (fun y hy=>h y (aab _ hy)) (fun x d hx=>by
    rw[ab9]at hx
    cases hb:x==n with
    |true=>rw[hb]at hx;cases hx;rw[afe hb];exact hc'
    |false=>rw[hb]at hx;exact ha x d hx)
   refine⟨cl,?_,h2,fun y hy hyk=>?_,fun x hx=>h4 x ?_⟩
   .simp only[beq_self_eq_true,if_true,e1,ahL];exact e2
   .obtain rfl|hy:=aal.mp hy
    .exact h4 n ⟨c,by rw[ab9];simp⟩
    .exact h3 y hy hyk
   .obtain⟨d,hd⟩:=hx;rw[ab9]
    cases hb:x==n with
    |true=>exact⟨c,rfl⟩
    |false=>exact⟨d,hd⟩
  .have hb:(k==ad4)=false:=by simpa using hk
   obtain⟨cl,e2,h2,h3,h4⟩:=iM (env:=env) (names:=r) (acc:=acc) (fun y hy=>h y (aab _ hy)) ha;refine⟨cl,?_,h2,fun y hy hyk=>?_,h4⟩
   .simp only[hb,acn,if_false,ahL];exact e2
   .obtain rfl|hy:=aal.mp hy
    .exact absurd hyk hk
    .exact h3 y hy hyk
theorem fj(h:∀y∈scope.names,y.2 = .free->∃c,env.cells.lookup y.1=some c) :
  ∃cl,closureFor scope env=pure cl/\(∀x c,cl.lookup x=some c->env.cells.lookup x=some c)/\∀y∈scope.names,y.2 = .free->∃c,cl.lookup y.1=some c:=by
 obtain⟨cl,e,h1,h2,_⟩:=iM (env:=env) (names:=scope.names) (acc:=[]) h (fun x c hx=>by cases hx);refine⟨cl,?_,h1,h2⟩;simp only[closureFor];have e':=congrArg (fun(t:Sem (List (Str×Addr)))=>t >>= fun cs=>pure cs) e;simp only[ahL,bind_pure]at e'⊢;exact e'
def PTs(X:Cx)(ifs:List Expr)(t:TT):Prop :=
 ∀(pins:List (Addr×Obj)) (s:aaa) (σ:St) (H:Hp) (Q:Bool->Hp->Prop),Inv X pins σ H s->t σ H Q ->
  wpAny (model X.prog X.w) X.A (forIn ifs true fun c r=>if r=true then do let ok <- isTrue c X.env (eval c X.env);pure (ae1 ok)else pure (ae1 r)) (TP X pins σ Q) X.xe s
def Jp:TT:=fun _ H Q=>Q true H
theorem Gq:PTs X [] Jp:=fun _ _ _ H _ I h=>wpAny_tests_nil ⟨H,I,h⟩
theorem J4{t:TT}(hc:PT X c t):PTs X [c] t:=fun pins s σ H Q I h=>wpAny_tests_one (hc pins s σ H Q I h)
def PB(X:Cx)(bd:Sem PUnit)(t:TS):Prop :=
 ∀(pins:List (Addr×Obj)) (s:aaa) (σ:St) (H:Hp) (D:Ends),Inv X pins σ H s->t D σ H->wpAny (model X.prog X.w) X.A bd (fun _ s'=>∃σ' H',Inv X pins σ' H' s'/\D.nx σ' H') X.xe s
def mT(J:It)(g:TG)(tb:TS):TS:=fun D σ H=>∃W:Nat->Nat->St->Hp->Prop,(∃m,W 0 m σ H)/\∀i m σ H,W i m σ H ->
 (J.stop i H/\D.nx σ H)\/(J.go i H/\∃N:St->Hp->Prop,(∀σ' H',N σ' H'->∃m',m'<m/\W (i+1) m' σ' H')/\∀x H',J.yld i H x H'->g x σ H' fun σ2 H2=>tb {D with nx:=N,ct:=N,bk:=D.nx} σ2 H2)
def tIfT(tt:TT)(tb:TS):TS:=fun D σ H=>tt σ H fun b H1=>if b=true then tb D σ H1 else D.nx σ H1
def oY(l:Addr)(te:TE):TS:=fun D σ H=>te σ H fun x H1=>∃xs,H1 l=some (.lst xs)/\xs.length<aam/\D.nx σ (upd H1 l (.lst (xs++[x])))
theorem qh{gens:List Comprehension}{d:Nat}{it:Addr}{acc:GE}{ipos:Pos}{bd:Sem PUnit}{g:TG}{tt:TT}
  (hturn:ahx (.ListComp elt gens scope pos) d (.ref it) acc X.env=(do
   adp ipos
   match <- acF (.ref it)with
   |none=>pure (.done .next)
   | some v =>
    adB tg (.ref it) v
    ada tg X.env v
    let mut ok:=true
    for c in ifs do
     if ok then ok <- isTrue c X.env (eval c X.env)
    if ok then bd
    again (.compLoop (.ListComp elt gens scope pos) d (.ref it) acc X.env)))
  (hx:X.xe=fun _ _=>False) (hc:X.calm=true) (T:Turn X.prog X.w X.K tg J fp it tn) (hg:PG X tg g) (ht:PTs X ifs tt) (hb:PB X bd tb)
  {s:aaa} (I:Inv X pins σ H s) (st:tn 0 s.heap) (f:∀b∈fp,FpOk X pins H b) (h:mT J g (tIfT tt tb) D σ H) :
  aeK (model X.prog X.w) X.A (.compLoop (.ListComp elt gens scope pos) d (.ref it) acc X.env) (fun r s'=>r = .ok .next/\∃σ' H',Inv X pins σ' H' s'/\D.nx σ' H') s:=by
 obtain⟨W,⟨m0,w0⟩,turn⟩:=h;have stat:∀{H':Hp},(∀b∈fp,H' b=none)->∀b∈fp,FpOk X pins H' b:=fun hn b hb=>⟨hn b hb,(f b hb).2⟩;have nox:∀{α:Type}{t:Sem α}{Q:α->aaa->Prop}{E:GE->aaa->Prop}{s:aaa},wpAny (model X.prog X.w) X.A t Q X.xe s->wpAny (model X.prog X.w) X.A t Q E s:=fun h=>aef h (fun _ _ q=>q) fun _ _ z=>by
  rw[hx]at z;exact z.elim
 refine codeAny_loop rfl (fun n s'=>∃i σ' H',Inv X pins σ' H' s'/\tn i s'.heap/\(∀b∈fp,H' b=none)/\W i n σ' H') ?_ m0 ⟨0,σ,H,I,st,fun b hb=>(f b hb).1,w0⟩;rintro n s3 ⟨i,σ3,H3,I3,st3,fr3,w3⟩;show wpAny _ X.A ((ahx (.ListComp elt gens scope pos) d (.ref it) acc X.env).onRaise (fun x=>do noteFrame x X.env;theTreesLotGoes x)) _ _ s3;refine wpAny_noted ?_;rw[hturn];refine gE (m:=adp _) (adb (gE ?_));rcases turn i n σ3 H3 w3 with⟨stop,qn⟩|⟨go,N,hN,step⟩
 .refine thn (T.done X rfl rfl rfl hc i pins s3 σ3 H3 _ I3 (stat fr3) st3 stop) fun r s4 ⟨hr,I4⟩=>?_;subst hr;exact aac ⟨rfl,σ3,H3,I4,qn⟩
 .refine thn (T.item X rfl rfl rfl hc i pins s3 σ3 H3 _ I3 (stat fr3) st3 go) fun r s4 ⟨u,hr,h4⟩=>?_;subst hr;refine gE (thn h4 fun _ s5 ⟨x,H5,I5,r5,y5,st5,fr5⟩=>?_);have I5':=I5.pinned (stat fr5) (T.obj _ _ st5);refine gE (nox (thn (hg _ s5 σ3 H5 x u _ I5' r5 (step x H5 y5)) fun _ s6 ⟨σ6,H6,I6,q6⟩=>?_));refine gE (nox (thn (ht _ s6 σ6 H6 _ I6 q6) fun ok s7 ⟨H7,I7,q7⟩=>?_));have fin:∀{σ8:St}{H8:Hp}{s8:aaa},Inv X (pins++oW fp s5.heap) σ8 H8 s8->N σ8 H8->∃m,m<n/\∃i σ' H',Inv X pins σ' H' s8/\tn i s8.heap/\(∀b∈fp,H' b=none)/\W i m σ' H':=fun {σ8 H8 s8} I8 n8=>by
   obtain⟨m',hm,w8⟩:=hN σ8 H8 n8;refine⟨m',hm,i+1,σ8,H8,I8.unpinned,T.keep _ _ _ st5 fun b hb o e=>(I8.pin (b,o) (abk _ (abk _ (gw hb e)))).1,fun b hb=>?_,w8⟩;obtain⟨o,e,_⟩:=T.obj _ _ st5 b hb;exact(I8.pin (b,o) (abk _ (abk _ (gw hb e)))).2.1
  cases ok with
  |false =>
   rw[if_neg aaB]at q7;exact aac ⟨rfl,fin I7 q7⟩
  |true =>
   rw[if_pos rfl]at q7;exact gE (nox (thn (hb _ s7 σ6 H7 _ I7 q7) fun _ s8 ⟨σ8,H8,I8,q8⟩=>aac ⟨rfl,fin I8 q8⟩))
theorem rE{te:TE}(he:PE X elt te):PB X (do let _ <- call (.builtin "list.append") [.ref l,<-eval elt X.env]) (oY l te):=by
 intro pins s σ H D I h;refine gE (thn (he pins s σ H _ I h) fun u s1 ⟨x,H1,I1,r1,xs,hl,hz,q⟩=>?_);obtain⟨hz1,its,n,rv,hv,ho⟩:=I1.lstM hl;have hsl:s1.heap.IsList l its.toArray:=⟨_,ho,rfl,_,rfl⟩;refine gE (thn (Q:=fun _ s'=>∃σ' H',Inv X pins σ' H' s'/\D.nx σ' H') ?_ fun _ s' hq=>aac hq);exact thn (o5 (X:=X) pins s1 σ H1 (.ref l) [x] (.ref l) [u] (fun v H'=>v = .non/\D.nx σ H') I1 rfl (.cons r1 .nil) ⟨l,xs,x,rfl,rfl,hl,hz,rfl,q⟩) fun v s' ⟨_,H',I',_,_,q'⟩=>⟨σ,H',I',q'⟩
theorem dQ(env:Env)(x:Str):∀names:List (Str×aeN),(names.map fun(n,k)=>if (k==ad4&&env.scope.kind == .function&&env.kindOf n==some .cell)then(n,aia)else(n,k)).lookup x =
  (names.lookup x).map fun k=>if (k==ad4&&env.scope.kind == .function&&env.kindOf x==some .cell)then aia else k
 |[]=>rfl
 | (n,k)::r=>by
  have ih:=dQ env x r;rw[aai];dsimp only
  cases hx:x==n with
  |true =>
   have e:=afe hx;subst e
   by_cases hc:(k==ad4&&env.scope.kind == .function&&env.kindOf x==some .cell)=true
   .rw[if_pos hc];simp only[ab9,hx,acy,if_pos hc]
   .rw[if_neg hc];simp only[ab9,hx,acy,if_neg hc]
  |false =>
   split
   .simp only[ab9,hx];exact ih
   .simp only[ab9,hx];exact ih
theorem gu{k:aeN}:∀{names:List (Str×aeN)},names.lookup x=some k->(x,k)∈names:=fun h=>acB h
theorem kW(hcell:∀y∈scope.names,y.2≠.cell)(h:(ag4 scope env).names.lookup x=some .cell\/(ag4 scope env).names.lookup x=some .free):scope.names.lookup x=some .free:=by
 unfold ag4 at h;simp only[dQ]at h
 cases e:scope.names.lookup x with
 |none=>rw[e]at h;rcases h with h|h<;>cases h
 | some k =>
  rw[e]at h;simp only[acy,afD]at h;have hk:k≠.cell:=hcell (x,k) (gu e)
  by_cases hf:k = .free
  .rw[hf]
  .have hb:(k==ad4)=false:=by simpa using hf
   rw[hb]at h;simp only[agK,acn,if_false]at h;rcases h with h|h
   .exact absurd h hk
   .rw[h]
theorem qm(h:scope.names.lookup x=some .free):(ag4 scope env).names.lookup x=some .cell\/(ag4 scope env).names.lookup x=some .free:=by
 unfold ag4;simp only[dQ,h,acy];split
 .exact .inl rfl
 .exact .inr rfl
def gC(own:List Str)(ps:List Nat)(σ:St):St:=own.map (fun _=>none)++ps.map fun i=>(σ[i]?).join
structure bZ(own fr:List Str)(scope sc:Scope):Prop where
 kind:scope.kind = .function
 nocell:∀y∈scope.names,y.2≠.cell
 names:∀y∈scope.names,y.2 = .local->scope.names.lookup y.1=some .local
 there:∀y∈scope.names,y.2 = .free->sc.names.lookup y.1=some .cell\/sc.names.lookup y.1=some .free
 fr:∀x∈fr,scope.names.lookup x=some .free
section
variable {X:Cx}{scope sc:Scope}{own fr:List Str}{ps:List Nat}
theorem jN{iter:Expr}{rest:List Comprehension}{bdy:Env->GE->Sem PUnit}{g:TG}{tt:TT}{tb:Addr->TS}{cl:List (Str×Addr)}{R:GE->Addr->Result->aaa->Prop}
  (S:bZ own fr scope sc) (hsc:X.env.scope=sc) (hps:ps.map (fun i=>X.N[i]?)=fr.map some) (hc:X.calm=true) (hcl1:∀x c,cl.lookup x=some c->X.env.cells.lookup x=some c) (hcl2:∀y∈scope.names,y.2 = .free->∃c,cl.lookup y.1=some c)
  (hturn:∀env it acc,ahx (.ListComp elt (⟨tg,iter,ifs,0⟩::rest) scope pos) 0 it acc env=(do
   adp iter.pos
   match <- acF it with
   |none=>pure (.done .next)
   | some v =>
    adB tg it v
    ada tg env v
    let mut ok:=true
    for c in ifs do
     if ok=true then ok <- isTrue c env (eval c env)
    if ok then bdy env acc
    again (.compLoop (.ListComp elt (⟨tg,iter,ifs,0⟩::rest) scope pos) 0 it acc env)))
  (hg:∀s H C ex,PG (aI X scope cl (own++fr) s H C ex) tg g) (ht:∀s H C ex,PTs (aI X scope cl (own++fr) s H C ex) ifs tt)
  (hb:∀s H C ex l,PB (aI X scope cl (own++fr) s H C ex) (bdy (agM scope cl C X.env) (.ref l)) (tb l))
  {s:aaa}{it:Addr} (I:Inv X pins σ H s) (T:Turn X.prog X.w X.K tg J fp it tn) (st:tn 0 s.heap) (f:∀b∈fp,FpOk X pins H b)
  (h:∀l,H l=none->mT J g (tIfT tt (tb l)) {nx:=fun _ H'=>Q (.ref l) H',rt:=fun _ _=>False} (gC own ps σ) (upd H l (.lst [])))
  (hR:∀l C H' s',(∃m,s'.heap.Ns C m)->Inv X pins σ H' s'->FpOk X pins H' C->Q (.ref l) H'->R (.ref l) C (.ok .next) s') :
  wpAny (model X.prog X.w) X.A (ahy []) (fun acc s₃=>wpAny (model X.prog X.w) X.A (newFunctionEnv scope X.env.globals cl [] X.env.qual none .none (some X.env)) (fun cenv s₄ =>
   aeK (model X.prog X.w) X.A (.compStart (.ListComp elt (⟨tg,iter,ifs,0⟩::rest) scope pos) 0 (.ref it) acc {cenv with scope:=ag4 scope X.env}) (R acc cenv.locals) s₄) E s₃) E s:=by
 refine aa9 (wpAny_newFunctionEnv S.nocell (by intro y hy;simp at hy) (fun h₁ hns₁ hsb₁=>?_) S.kind);have I3:Inv X pins σ (upd H s.heap.objs.size (.lst [])) {s with heap:=s.heap.push {cls:=.type "list",data:=.seq ([]:List GE).toArray} }:=I.lnew (t':=s.toks) (ys:=[]) .nil (acL _);generalize hS3:({s with heap:=s.heap.push {cls:=.type "list",data:=.seq ([]:List GE).toArray} }:aaa)=s3 at I3 hns₁ hsb₁⊢;have hsz:s3.heap.objs.size=s.heap.objs.size+1:=by rw[<-hS3];exact abE _ _
 have hl:H s.heap.objs.size=none:=I.hok.fresh (Io _);have kept0:∀b o,s.heap.get? b=some o->s3.heap.get? b=some o:=fun b o e=>by rw[<-hS3];exact OR _ e
 have kept1:∀b o,s3.heap.get? b=some o->h₁.get? b=some o:=fun b o e=>hsb₁.extBut b o (aa6 (aan e)) (OR _ e);have fpl:∀b∈fp,b<s.heap.objs.size:=fun b hb=>by obtain⟨o,e,_⟩:=T.obj _ _ st b hb;exact aan e
 have fpH:∀b∈fp,(upd H s.heap.objs.size (.lst [])) b=none:=fun b hb=>by rw[am (aa6 (fpl b hb))];exact(f b hb).1
 have fpS:∀b∈fp,b∉frs X.stack:=fun b hb z=>by
  rcases aal.mp (I.stkSub b z)with e|e
  .exact(f b hb).2.1 e
  .exact(f b hb).2.2.1 e
 have ok':(aI X scope cl (own++fr) s3 (upd H s.heap.objs.size (.lst [])) s3.heap.objs.size fp).Ok:=by
  refine⟨I.ok.mod,S.kind,I.ok.glob,I.ok.blt,Io _,fun x y c h1 h2=>I.ok.inj x y c (hcl1 x c h1) (hcl1 y c h2),fun x hx=>?_,fun x c hf=>(by cases hf),I.ok.hd,I.ok.frames,.inl rfl,fun b hb=>⟨?_,fun x c hx=>(f b hb).2.2.2.2.1 x c (hcl1 x c hx)⟩,
   fun b o e=>I3.bs b o e,aaz I3.ok.bsz I3.sz,fun b o e hb=>?_,fun b hb=>fpS b hb,I3.stack,I3.stkFree⟩
  .exact hcl2 (x,.free) (gu (kW S.nocell hx)) rfl
  .exact aa6 (aaA (fpl b hb) (by rw[hsz];exact Nat.le_succ _))
  .rcases (f b hb).2.2.2.1 with z|z
   .exact I.ok.noex b o e z
   .exact absurd (aaA (aan (I.ok.bs b o e).1) z) (acK _)
 have I4:Inv (aI X scope cl (own++fr) s3 (upd H s.heap.objs.size (.lst [])) s3.heap.objs.size fp) [] (gC own ps σ) (upd H s.heap.objs.size (.lst [])) {s3 with heap:=h₁,toks:=s3.toks+([]:List (Str×GE)).length}:=by
  refine⟨ok',rfl,I3.bare,Un.kept kept1,⟨_,hns₁,fun i x v e1 e2 e3=>?_⟩,fun x c e=>?_,I3.hok.fresh (Io _),fun x c e=>I3.freeC x c (hcl1 x c e),fun p hp=>absurd (show p∈([]:List (Addr×Obj))from hp) (by simp),I3.hok.kept kept1,?_⟩
  .have e1':(own++fr)[i]?=some x:=e1;unfold gC at e2
   by_cases hi:i<own.length
   .rw[aaX (by simpa using hi),aak]at e2
    cases q:own[i]? with
    |none=>rw[q]at e2;cases e2
    |some z=>rw[q]at e2;cases e2
   .rw[aaU (by simpa using hi),oR,aak]at e2;rw[aaU (by simpa using hi)]at e1'
    cases q:ps[i-own.length]? with
    |none=>rw[q]at e2;cases e2
    | some p =>
     rw[q]at e2;have e2':(σ[p]?).join=some v:=aau e2;have hσ:σ[p]?=some (some v):=by
      cases z:σ[p]? with
      |none=>rw[z]at e2';cases e2'
      |some w=>rw[z]at e2';cases w with
       |none=>cases e2'
       |some w=>cases e2';rfl
     have hN:X.N[p]?=some x:=by
      have z:=congrArg (fun l=>l[i-own.length]?) hps;simp only[aak,q,e1',acy,afD]at z;exact z
     have hx:x∈fr:=aae e1';have hfr:=S.fr x hx;have hsee:=S.there (x,.free) (gu hfr) rfl;obtain⟨m,hn,hlk⟩:=I3.loc;obtain⟨u,ru,lk⟩:=hlk p x v hN hσ (by rw[hsc];exact .inr hsee);refine⟨u,ru,.inr ⟨qm hfr,?_⟩⟩;rcases lk with⟨k,_⟩|⟨_,c,ec,z⟩
     .have k':X.env.scope.names.lookup x=some .local:=k;rw[hsc]at k';rcases hsee with q2|q2<;>(rw[k']at q2;cases q2)
     .obtain⟨c',ec'⟩:=hcl2 (x,.free) (gu hfr) rfl;have:=hcl1 x c' ec';rw[ec]at this;cases this;obtain⟨o,ho,hd⟩:=z;exact⟨c,ec',o,kept1 _ _ ho,hd⟩
  .obtain⟨v,o,ho,hd⟩:=I3.cell x c (hcl1 x c e);exact⟨v,o,kept1 _ _ ho,hd⟩
  .show(gC own ps σ).length=(own++fr).length;have:=congrArg aeO hps;rw[oR,oR]at this;unfold gC;rw[aap,aap,oR,oR,this]
 have f4:∀b∈fp,FpOk (aI X scope cl (own++fr) s3 (upd H s.heap.objs.size (.lst [])) s3.heap.objs.size fp) [] (upd H s.heap.objs.size (.lst [])) b:=fun b hb =>
  ⟨fpH b hb,(ok'.exf b hb).1,fpS b hb,.inl hb,(ok'.exf b hb).2,fun p hp=>absurd (show p∈([]:List (Addr×Obj))from hp) (by simp)⟩
 have st4:tn 0 h₁:=T.keep 0 _ _ st fun b hb o e=>kept1 b o (kept0 b o e);have loop:aeK (model X.prog X.w) X.A (.compLoop (.ListComp elt (⟨tg,iter,ifs,0⟩::rest) scope pos) 0 (.ref it) (.ref s.heap.objs.size) (agM scope cl s3.heap.objs.size X.env)) (R (.ref s.heap.objs.size) s3.heap.objs.size) {s3 with heap:=h₁,toks:=s3.toks+([]:List (Str×GE)).length}:=by
  refine afb (qh (X:=aI X scope cl (own++fr) s3 (upd H s.heap.objs.size (.lst [])) s3.heap.objs.size fp) (hturn _ _ _) rfl hc T (hg _ _ _ _) (ht _ _ _ _) (hb _ _ _ _ _) I4 st4 f4 (h _ hl)) fun r s' ⟨er,σ5,H5,I5,q5⟩=>?_;subst er;have I6:Inv X pins σ H5 s':=I3.call' (s':=s') I5.os I5.base I5.hok I5.bare fun b hb=>⟨(f b hb).2.2.2.1,(f b hb).2.1,(f b hb).2.2.2.2.1,(f b hb).2.2.2.2.2⟩;have hm:∃m,s'.heap.Ns s3.heap.objs.size m:=let ⟨m,hn,_⟩:=I5.loc;⟨m,hn⟩;exact hR _ _ H5 s' hm I6 (I3.fpOk (Io _) I5.free) q5
 exact codeAny_compStart_list loop (T.self _ 0 _ _ _ st4 loop)
def wZ(wi:TI)(own:List Str)(ps:List Nat)(tl:Addr->It->TS):TE:=fun σ H Q=>wi σ H fun J H1=>∀l,H1 l=none->tl l J {nx:=fun _ H'=>Q (.ref l) H',rt:=fun _ _=>False} (gC own ps σ) (upd H1 l (.lst []))
def tl1(g:TG)(tt:TT)(te:TE):Addr->It->TS:=fun l J=>mT J g (tIfT tt (oY l te))
def tl2(g:TG)(tt:TT)(wi2:TI)(g2:TG)(tt2:TT)(te:TE):Addr->It->TS:=fun l J=>mT J g (tIfT tt fun D σ H=>wi2 σ H fun J2 H1=>mT J2 g2 (tIfT tt2 (oY l te)) D σ H1)
theorem BG{Y:Cx}{tg1 iter1 tg2 iter2:Expr}{ifs1 ifs2:List Expr}{wi2:TI}{g2:TG}{tt2:TT}{te:TE}(hx:Y.xe=fun _ _=>False)(hc:Y.calm=true)(hi:PI Y tg2 iter2 wi2)(hg:PG Y tg2 g2)(ht:PTs Y ifs2 tt2)(he:PE Y elt te)
  (hs:∀x,aaT iter2 Y.env x=pure x) :
  PB Y (do
   let x <- eval iter2 Y.env
   adp iter2.pos
   let x <- aaT iter2 Y.env x
   let _ <- runOwn (.compStart (.ListComp elt [⟨tg1,iter1,ifs1,0⟩,⟨tg2,iter2,ifs2,0⟩] scope pos) 1 (<- adK [x] (afh x)) (.ref l) Y.env) Y.env) (fun D σ H=>wi2 σ H fun J2 H1=>mT J2 g2 (tIfT tt2 (oY l te)) D σ H1):=by
 intro pins s σ H D I h;refine gE (thn (hi pins s σ H _ I h) fun v s1 h1=>?_);refine gE (adb (gE (wpAny_of_eq (hs v) (gE (abZ (thn h1 fun itv s2 h2=>?_))))));obtain⟨it,fp,tn,J,H2,e,I2,T,st2,f2,q⟩:=h2;subst e;have loop:∀s3,s3=s2->aeK (model Y.prog Y.w) Y.A (.compLoop (.ListComp elt [⟨tg1,iter1,ifs1,0⟩,⟨tg2,iter2,ifs2,0⟩] scope pos) 1 (.ref it) (.ref l) Y.env) (fun r s'=>match r with| .ok f=>wpAny (model Y.prog Y.w) Y.A (pure PUnit.unit) (fun _ s'=>∃σ' H',Inv Y pins σ' H' s'/\D.nx σ' H') Y.xe s' | .error e=>cameBackBy (model Y.prog Y.w) Y.A Y.env Y.xe e s') s3:=by
  rintro s3 rfl;refine afb (qh (X:=Y) (elt:=elt) (gens:=[⟨tg1,iter1,ifs1,0⟩,⟨tg2,iter2,ifs2,0⟩]) (scope:=scope) (pos:=pos) (d:=1) (acc:=.ref l) (ipos:=iter2.pos) (ifs:=ifs2)
   (bd:=do let _ <- call (.builtin "list.append") [.ref l,<-eval elt Y.env]) rfl hx hc T hg ht (rE he) I2 st2 f2 q) fun r s' ⟨er,hq⟩=>?_
  subst er;exact aac hq
 refine gE (wpAny_runOwn ?_);show aeK (model Y.prog Y.w) Y.A _ _ s2;refine codeAny_of_tree ?_;show wpAny _ _ ((compStart (.ListComp elt [⟨tg1,iter1,ifs1,0⟩,⟨tg2,iter2,ifs2,0⟩] scope pos) 1 (.ref it) (.ref l) Y.env).onRaise (fun x=>do noteFrame x Y.env;adp theWindowsPlace)) _ _ s2;refine wpAny_notedAt ?_;unfold compStart;show wpAny _ _ (ask >>= _) _ _ s2;refine gE (m:=ask) (wpAny_askSetting (wpAny_ite ?_));split
 .first
   |exact gE (aac (aac (ahM rfl (loop _ rfl))))
   |exact aac (ahM rfl (loop _ rfl))
 .first
   |exact gE (acP (gE (adb (gE (T.self _ 0 _ _ _ st2 (aac (ahM rfl (loop _ rfl))))))))
   |(refine gE (acP ?_);show wpAny _ _ (adp iter2.pos >>= _) _ _ s2;exact gE (adb (gE (T.self _ 0 _ _ _ st2 (aac (ahM rfl (loop _ rfl)))))))
theorem Inv.junk{s:aaa}{C:Addr}(I:Inv X pins σ H s)(f:FpOk X pins H C){h':aa4}(hs:abw C s.heap h'):Inv X pins σ H {s with heap:=h' } :=
 I.turned (t':=s.toks) (it:=C) (fun b o ne e=>(hs.2 b ne).trans e) f.1 f.2.1 f.2.2.2.1 f.2.2.2.2.1 f.2.2.2.2.2
variable {elt tg iter:Expr}{ifs:List Expr}{pos spos py:Pos}{wi:TI}{g:TG}{tt:TT}{te:TE}
theorem oA{s:aaa}(S:bZ own fr scope sc)(hsc:X.env.scope=sc)(I:Inv X pins σ H s):∀y∈scope.names,y.2 = .free->∃c,X.env.cells.lookup y.1=some c:=fun y hy hk =>
 I.ok.has y.1 (by show X.env.scope.names.lookup y.1=_\/X.env.scope.names.lookup y.1=_;rw[hsc];exact S.there y hy hk)
theorem Dt(S:bZ own fr scope sc)(hi:PI X tg iter wi)(hg:∀cl s H C ex,PG (aI X scope cl (own++fr) s H C ex) tg g)(ht:∀cl s H C ex,PTs (aI X scope cl (own++fr) s H C ex) ifs tt)
  (he:∀cl s H C ex,PE (aI X scope cl (own++fr) s H C ex) elt te) (hsc:X.env.scope=sc:=by rfl) (hps:ps.map (fun i=>X.N[i]?)=fr.map some:=by rfl) (hc:X.calm=true:=by rfl) (hs:∀x,aaT iter X.env x=pure x:=by intro _;rfl) :
  PE X (.ListComp elt [⟨tg,iter,ifs,0⟩] scope pos) (wZ wi own ps (tl1 g tt te)):=by
 intro pins s σ H Q I h;obtain⟨cl,ec,h1,h2⟩:=fj (oA S hsc I);rw[eval_ListComp];refine ad5 (use:=none) rfl hs ec S.kind S.names (thn (hi pins s σ H _ I h) fun v s1 q1=>thn q1 fun itv s2 q2=>?_);obtain⟨it,fp,tn,J,H2,e,I2,T,st2,f2,q⟩:=q2;subst e;exact jN (R:=fun acc C=>compPost (model X.prog X.w) X.A X.xe none (EP X pins σ Q) acc C) (bdy:=fun env acc=>do let _ <- call (.builtin "list.append") [acc,<-eval elt env]) (tb:=fun l=>oY l te) S hsc hps hc h1 h2 (fun env it acc=>compTurn_list elt tg iter ifs scope pos it acc env)
  (hg cl) (ht cl) (fun s H C ex l=>rE (he cl s H C ex)) I2 T st2 f2 q fun l C H' s' hm I' fk q'=>by
   obtain⟨m,hn⟩:=hm;exact⟨m,hn,fun h' hs'=>⟨.ref l,H',I'.junk fk hs',rfl,q'⟩⟩
theorem ph{s':aaa}{C:Addr}{Q:St->Hp->Prop}(hN:X.N.Nodup)(hy:X.N[i]?=some y)(hlc:X.env.scope.names.lookup y=some .local)(hm:∃m,s'.heap.Ns C m)(I:Inv X pins σ H' s')(fk:FpOk X pins H' C)(q:Q (σ.set i (some (.ref l))) H') :
  wpAny (model X.prog X.w) X.A (ada (.Name y py) X.env (.ref l)) (fun _ s''=>∃m,s''.heap.Ns C m/\∀h',abw C s''.heap h'->∃σ' H'',Inv X pins σ' H'' {s'' with heap:=h' }/\Q σ' H'') E s':=by
 obtain⟨m,hn⟩:=hm;refine wpAny_assign_Name (qx I hN hy (.inl hlc) (v:=.ref l) rfl (fun s'' I'' ⟨a,hs,ha⟩=>?_) (.inr hlc));have hCa:C≠a:=by
  rcases ha with ha|ha
  .rw[ha];exact fk.2.1
  .exact fun z=>fk.2.2.2.2.1 _ _ ha z.symm
 exact⟨m,hn.sameBut hs hCa,fun h' hs'=>⟨_,H',I''.junk fk hs',q⟩⟩
theorem Cy(S:bZ own fr scope sc)(hN:X.N.Nodup)(hy:X.N[i]?=some y)(hlc:X.env.scope.names.lookup y=some .local)(hi:PI X tg iter wi)(hg:∀cl s H C ex,PG (aI X scope cl (own++fr) s H C ex) tg g)(ht:∀cl s H C ex,PTs (aI X scope cl (own++fr) s H C ex) ifs tt)
  (he:∀cl s H C ex,PE (aI X scope cl (own++fr) s H C ex) elt te) (hsw:abY (.ListComp elt [⟨tg,iter,ifs,0⟩] scope pos) (some (.Name y py)) spos.line X.env=pure true:=by rfl)
  (hsc:X.env.scope=sc:=by rfl) (hps:ps.map (fun i=>X.N[i]?)=fr.map some:=by rfl) (hc:X.calm=true:=by rfl) (hs:∀x,aaT iter X.env x=pure x:=by intro _;rfl) :
  PS X (.Assign [.Name y py] (.ListComp elt [⟨tg,iter,ifs,0⟩] scope pos) spos) (tAsg (wZ wi own ps (tl1 g tt te)) (Bx i)):=by
 intro pins s σ H D I h;obtain⟨cl,ec,h1,h2⟩:=fj (oA S hsc I);rw[show exec _ X.env=_ from agF _ _ _ _ hsw];refine gE (m:=adp _) (adb (gE ?_));show wpAny _ X.A (do let _ <- comprehension (.ListComp elt [⟨tg,iter,ifs,0⟩] scope pos) scope X.env _ (ahy []) false (eval iter X.env) (some (ada (.Name y py) X.env))) _ _ s;refine gE (aef (ad5 (use:=some (ada (.Name y py) X.env)) (Q:=fun _ s'=>SP X pins D .next s') rfl hs ec S.kind S.names (thn (hi pins s σ H _ I h) fun v s1 q1=>thn q1 fun itv s2 q2=>?_)) (fun _ s' hq=>aac (aac hq)) fun _ _ e=>e);obtain⟨it,fp,tn,J,H2,e,I2,T,st2,f2,q⟩:=q2;subst e;exact jN (Q:=fun v H'=>D.nx (σ.set i (some v)) H') (R:=fun acc C=>compPost (model X.prog X.w) X.A X.xe (some (ada (.Name y py) X.env)) (fun _ s'=>SP X pins D .next s') acc C) (bdy:=fun env acc=>do let _ <- call (.builtin "list.append") [acc,<-eval elt env]) (tb:=fun l=>oY l te) S hsc hps hc h1 h2 (fun env it acc=>compTurn_list elt tg iter ifs scope pos it acc env)
  (hg cl) (ht cl) (fun s H C ex l=>rE (he cl s H C ex)) I2 T st2 f2 q fun l C H' s' hm I' fk q'=>ph hN hy hlc hm I' fk q'
variable {tg2 iter2:Expr}{ifs2:List Expr}{wi2:TI}{g2:TG}{tt2:TT}
theorem lj(elt target iter:Expr)(ifs:List Expr)(tg2 iter2:Expr)(ifs2:List Expr)(scope:Scope)(pos:Pos)(it acc:GE)(env:Env) :
  ahx (.ListComp elt [⟨target,iter,ifs,0⟩,⟨tg2,iter2,ifs2,0⟩] scope pos) 0 it acc env=(do
   adp iter.pos
   match <- acF it with
   |none=>pure (.done .next)
   | some v =>
    adB target it v
    ada target env v
    let mut ok:=true
    for c in ifs do
     if ok=true then ok <- isTrue c env (eval c env)
    if ok then
     (do
      let x <- eval iter2 env
      adp iter2.pos
      let x <- aaT iter2 env x
      let _ <- runOwn (.compStart (.ListComp elt [⟨target,iter,ifs,0⟩,⟨tg2,iter2,ifs2,0⟩] scope pos) 1 (<- adK [x] (afh x)) acc env) env)
    again (.compLoop (.ListComp elt [⟨target,iter,ifs,0⟩,⟨tg2,iter2,ifs2,0⟩] scope pos) 0 it acc env)):=by
 unfold ahx;simp only[List.getElem?_cons_zero,List.getElem?_cons_succ,ab5,bind_assoc,ahL,bne_self_eq_false,acn,if_false];rfl
theorem CA(S:bZ own fr scope sc)(hN:X.N.Nodup)(hy:X.N[i]?=some y)(hlc:X.env.scope.names.lookup y=some .local)(hi:PI X tg iter wi)(hg:∀cl s H C ex,PG (aI X scope cl (own++fr) s H C ex) tg g)(ht:∀cl s H C ex,PTs (aI X scope cl (own++fr) s H C ex) ifs tt)
  (hi2:∀cl s H C ex,PI (aI X scope cl (own++fr) s H C ex) tg2 iter2 wi2) (hg2:∀cl s H C ex,PG (aI X scope cl (own++fr) s H C ex) tg2 g2) (ht2:∀cl s H C ex,PTs (aI X scope cl (own++fr) s H C ex) ifs2 tt2)
  (he:∀cl s H C ex,PE (aI X scope cl (own++fr) s H C ex) elt te) (hsw:abY (.ListComp elt [⟨tg,iter,ifs,0⟩,⟨tg2,iter2,ifs2,0⟩] scope pos) (some (.Name y py)) spos.line X.env=pure true:=by rfl)
  (hsc:X.env.scope=sc:=by rfl) (hps:ps.map (fun i=>X.N[i]?)=fr.map some:=by rfl) (hc:X.calm=true:=by rfl) (hs:∀x,aaT iter X.env x=pure x:=by intro _;rfl)
  (hs2:∀cl C x,aaT iter2 (agM scope cl C X.env) x=pure x:=by intro _ _ _;rfl) :
  PS X (.Assign [.Name y py] (.ListComp elt [⟨tg,iter,ifs,0⟩,⟨tg2,iter2,ifs2,0⟩] scope pos) spos) (tAsg (wZ wi own ps (tl2 g tt wi2 g2 tt2 te)) (Bx i)):=by
 intro pins s σ H D I h;obtain⟨cl,ec,h1,h2⟩:=fj (oA S hsc I);rw[show exec _ X.env=_ from agF _ _ _ _ hsw];refine gE (m:=adp _) (adb (gE ?_));show wpAny _ X.A (do let _ <- comprehension (.ListComp elt [⟨tg,iter,ifs,0⟩,⟨tg2,iter2,ifs2,0⟩] scope pos) scope X.env _ (ahy []) false (eval iter X.env) (some (ada (.Name y py) X.env))) _ _ s;refine gE (aef (ad5 (use:=some (ada (.Name y py) X.env)) (Q:=fun _ s'=>SP X pins D .next s') rfl hs ec S.kind S.names (thn (hi pins s σ H _ I h) fun v s1 q1=>thn q1 fun itv s2 q2=>?_)) (fun _ s' hq=>aac (aac hq)) fun _ _ e=>e);obtain⟨it,fp,tn,J,H2,e,I2,T,st2,f2,q⟩:=q2;subst e;exact jN (Q:=fun v H'=>D.nx (σ.set i (some v)) H') (R:=fun acc C=>compPost (model X.prog X.w) X.A X.xe (some (ada (.Name y py) X.env)) (fun _ s'=>SP X pins D .next s') acc C) (tb:=fun l D σ H=>wi2 σ H fun J2 H1=>mT J2 g2 (tIfT tt2 (oY l te)) D σ H1) S hsc hps hc h1 h2 (fun env it acc=>lj elt tg iter ifs tg2 iter2 ifs2 scope pos it acc env)
  (hg cl) (ht cl) (fun s H C ex l=>BG (Y:=aI X scope cl (own++fr) s H C ex) rfl hc (hi2 cl s H C ex) (hg2 cl s H C ex) (ht2 cl s H C ex) (he cl s H C ex) (hs2 cl C)) I2 T st2 f2 q fun l C H' s' hm I' fk q'=>ph hN hy hlc hm I' fk q'
end
def FzL(K:aaj)(H:Hp)(a:Addr)(xs:List V):Prop :=
 (∃o,H a=some (.frz o (.lst xs))) \/
  ∃(o:Obj) (its:Array GE) (n:Nat),K.lookup a=some o/\o.cls = .type "list" /\ o.dict=none/\o.data = .seq its n/\its.size≤aam/\Vals xs its.toList
theorem FzL.sq{K:aaj}(h:FzL K H a xs):SqL K H a xs:=by
 rcases h with⟨o,h⟩|h
 .exact .inl (.inr ⟨o,h⟩)
 .exact .inr h
structure Kd where
 K:aaj
 w:World
instance:Coe Kd aaj:=⟨Kd.K⟩
mutual
def dN(w:World):iO->Int
 | .int i=>hashInt i
 | .str x=>hashStr w x
 | .tuple ds=>reduceHash (abR (g9 w ds))
 |_=>0
def g9(w:World):List iO->List Int
 |[]=>[]
 |d::ds=>dN w d::g9 w ds
end
mutual
def hkD:iO->Bool
 | .int _=>true
 | .str _=>true
 | .tuple ds=>hkA ds
 |_=>false
def hkA:List iO->Bool
 |[]=>true
 |d::ds=>hkD d&&hkA ds
end
def isKd(kvs:List (iO×iO)):Bool:=kvs.all fun kv=>match kv.1 with| .int _=>true | .str _=>true|_=>false
def Ai(kvs:List (iO×iO)):Prop:=isKd kvs=false/\(kvs.map (·.1)).Nodup/\∀k∈kvs.map (·.1),hkD k=true
def dXp(a:Addr)(es:List (Int×V×V))(h:aa4):Prop :=
 (a==abL)=false/\es.length≤aam/\∃(o:Obj) (ents:Array acm) (ep:Nat),h.get? a=some o/\o.ExactDict/\o.data = .dict ents ep /\
  abV (fun(e:Int×V×V) (d:acm)=>d.hash=e.1/\RelV e.2.1 d.key/\RelV e.2.2 d.val) es ents.toList
abbrev dX(a:Addr)(es:List (Int×V×V)):HO:=.ext (dXp a es)
def FzD(H:Hp)(a:Addr)(es:List (Int×V×V)):Prop:=∃o,H a=some (.frz o (dX a es))
def ClsN(K:Kd)(c:Str)(C:Addr):Prop:=abq K.K aaQ c=some (some (.ref C))
def Su(K:Kd)(H:Hp)(a:Addr)(c:Str)(xs:List (Str×V)):Prop :=
 ∃(o:Obj) (u:HO) (C:Addr),H a=some (.frz o u)/\o.cls = .ref C/\(∃vs,o.data = .fields vs)/\ClsN K c C/\((o.dict=none/\xs=[])\/∃(dx:Addr) (od:Obj),o.dict=some dx/\H dx=some (.frz od (.xd xs)))
def keyD:Key->iO
 | .inl i=>.int i
 | .inr x=>.str x
def excC:List (iO×iO)->Option Str
 |(.none,.str c)::_=>some c
 |_=>none
mutual
def Den(K:Kd)(H:Hp):iO->V->Prop
 | .none,v=>v = .non
 | .bool b,v=>v = .bl b
 | .int i,v=>v = .int i
 | .str x,v=>v = .str x
 | .list ds,v=>∃a xs,v = .ref a/\FzL K H a xs/\DenAll K H ds xs
 | .tuple ds,v=>∃a xs,v = .ref a/\SqT K H a xs/\DenAll K H ds xs
 | .dict kvs,v=>∃a,v = .ref a/\((∃es,FzD H a es/\Ai kvs/\DenKV K H kvs es)\/(∃es o,H a=some (.frz o (.dK es))/\DenKK K H kvs es)\/∃c xs,excC kvs=some c/\Su K H a c xs/\DenXF K H kvs xs)
def DenAll(K:Kd)(H:Hp):List iO->List V->Prop
 |[],xs=>xs=[]
 |d::ds,xs=>∃v vs,xs=v::vs/\Den K H d v/\DenAll K H ds vs
def DenKV(K:Kd)(H:Hp):List (iO×iO)->List (Int×V×V)->Prop
 |[],es=>es=[]
 |(k,d)::r,es=>∃u v vs,es=(dN K.w k,u,v)::vs/\Den K H k u/\Den K H d v/\DenKV K H r vs
def DenKK(K:Kd)(H:Hp):List (iO×iO)->List (Key×V)->Prop
 |[],es=>es=[]
 |(k,d)::r,es=>∃kk v vs,es=(kk,v)::vs/\(k=keyD kk/\∀x∈vs,x.1≠kk)/\Den K H d v/\DenKK K H r vs
def DenXF(K:Kd)(H:Hp):List (iO×iO)->List (Str×V)->Prop
 |[],xs=>xs=[]
 |(k,d)::r,xs=>match k with
  | .str f=>∃v vs,xs=(f,v)::vs/\Den K H d v/\DenXF K H r vs
  |_=>DenXF K H r xs
end
structure Pers(H H':Hp):Prop where
 tups:∀b xs,H b=some (.tup xs)->H' b=some (.tup xs)
 frzs:∀b o u,H b=some (.frz o u)->H' b=some (.frz o u)
theorem Pers.trans(a:Pers H H1)(b:Pers H1 H2):Pers H H2:=⟨fun c xs e=>b.tups c xs (a.tups c xs e),fun c o u e=>b.frzs c o u (a.frzs c o u e)⟩
section
variable {K:Kd}{H H':Hp}
theorem FzL.mono(p:Pers H H')(h:FzL K H a xs):FzL K H' a xs:=by
 rcases h with⟨o,h⟩|h
 .exact .inl ⟨o,p.frzs _ _ _ h⟩
 .exact .inr h
theorem SqT.mono(p:Pers H H')(h:SqT K H a xs):SqT K H' a xs:=by
 rcases h with(h|⟨o,h⟩)|h
 .exact .inl (.inl (p.tups _ _ h))
 .exact .inl (.inr ⟨o,p.frzs _ _ _ h⟩)
 .exact .inr h
mutual
theorem Den.mono(p:Pers H H'):∀{d:iO}{v:V},Den K H d v->Den K H' d v
 | .none,_,h=>h
 | .bool _,_,h=>h
 | .int _,_,h=>h
 | .str _,_,h=>h
 | .list ds,_,h=>by
  simp only[Den]at h⊢;obtain⟨a,xs,e,f,g⟩:=h;exact⟨a,xs,e,f.mono p,DenAll.mono p g⟩
 | .tuple ds,_,h=>by
  simp only[Den]at h⊢;obtain⟨a,xs,e,f,g⟩:=h;exact⟨a,xs,e,f.mono p,DenAll.mono p g⟩
 | .dict kvs,_,h=>by
  simp only[Den]at h⊢;obtain⟨a,e,h⟩:=h;refine⟨a,e,?_⟩;rcases h with⟨es,⟨o,f⟩,kk,g⟩|⟨es,o,f,g⟩|⟨c,xs,ec,⟨o,u,C,f1,f2,f0,f3,f4⟩,g⟩
  .exact .inl ⟨es,⟨o,p.frzs _ _ _ f⟩,kk,DenKV.mono p g⟩
  .exact .inr (.inl ⟨es,o,p.frzs _ _ _ f,DenKK.mono p g⟩)
  .refine .inr <| .inr ⟨c,xs,ec,⟨o,u,C,p.frzs _ _ _ f1,f2,f0,f3,?_⟩,DenXF.mono p g⟩;rcases f4 with f4|⟨dx,od,f5,f6⟩
   .exact .inl f4
   .exact .inr ⟨dx,od,f5,p.frzs _ _ _ f6⟩
theorem DenAll.mono(p:Pers H H'):∀{ds:List iO}{xs:List V},DenAll K H ds xs->DenAll K H' ds xs
 |[],_,h=>h
 |d::ds,_,h=>by
  simp only[DenAll]at h⊢;obtain⟨v,vs,e,f,g⟩:=h;exact⟨v,vs,e,Den.mono p f,DenAll.mono p g⟩
theorem DenKV.mono(p:Pers H H'):∀{ds:List (iO×iO)}{xs:List (Int×V×V)},DenKV K H ds xs->DenKV K H' ds xs
 |[],_,h=>by simpa only[DenKV]using h
 |(k,d)::r,_,h=>by
  simp only[DenKV]at h⊢;obtain⟨u,v,vs,e,f1,f2,g⟩:=h;exact⟨u,v,vs,e,Den.mono p f1,Den.mono p f2,DenKV.mono p g⟩
theorem DenKK.mono(p:Pers H H'):∀{ds:List (iO×iO)}{xs:List (Key×V)},DenKK K H ds xs->DenKK K H' ds xs
 |[],_,h=>by simpa only[DenKK]using h
 |(k,d)::r,_,h=>by
  simp only[DenKK]at h⊢;obtain⟨u,v,vs,e,f1,f2,g⟩:=h;exact⟨u,v,vs,e,f1,Den.mono p f2,DenKK.mono p g⟩
theorem DenXF.mono(p:Pers H H'):∀{ds:List (iO×iO)}{xs:List (Str×V)},DenXF K H ds xs->DenXF K H' ds xs
 |[],_,h=>by simpa only[DenXF]using h
 |(.str f,d)::r,_,h=>by
  simp only[DenXF]at h⊢;obtain⟨v,vs,e,f1,g⟩:=h;exact⟨v,vs,e,Den.mono p f1,DenXF.mono p g⟩
 |(.none,d)::r,_,h=>by simp only[DenXF]at h⊢;exact DenXF.mono p h
 |(.bool _,d)::r,_,h=>by simp only[DenXF]at h⊢;exact DenXF.mono p h
 |(.int _,d)::r,_,h=>by simp only[DenXF]at h⊢;exact DenXF.mono p h
 |(.list _,d)::r,_,h=>by simp only[DenXF]at h⊢;exact DenXF.mono p h
 |(.tuple _,d)::r,_,h=>by simp only[DenXF]at h⊢;exact DenXF.mono p h
 |(.dict _,d)::r,_,h=>by simp only[DenXF]at h⊢;exact DenXF.mono p h
end
theorem DenAll.nil:DenAll K H [] []:=by simp only[DenAll]
theorem DenAll.cons{d:iO}(h:Den K H d v)(t:DenAll K H ds vs):DenAll K H (d::ds) (v::vs):=by
 simp only[DenAll];exact⟨v,vs,rfl,h,t⟩
theorem DenAll.paired:∀{ds:List iO}{xs:List V},DenAll K H ds xs->abV (Den K H) ds xs
 |[],_,h=>by simp only[DenAll]at h;subst h;exact .nil
 |d::ds,_,h=>by
  simp only[DenAll]at h;obtain⟨v,vs,e,f,g⟩:=h;subst e;exact .cons f g.paired
theorem gc:∀{ds:List iO}{xs:List V},abV (Den K H) ds xs->DenAll K H ds xs
 |_,_,.nil=>DenAll.nil
 |_,_,.cons f t=>DenAll.cons f (gc t)
theorem DenAll.length(h:DenAll K H ds xs):ds.length=xs.length:=h.paired.length
theorem Paired.get'{α β:Type}{F:α->β->Prop}:∀{l₁:List α}{l₂:List β}{i:Nat}{a:α},abV F l₁ l₂->l₁[i]?=some a->∃b,l₂[i]?=some b/\F a b
 |_,_,_,_,.nil,e=>by simp at e
 |_,_,0,_,.cons f _,e=>by simp at e;subst e;exact⟨_,rfl,f⟩
 |_,_,i+1,a,.cons _ t,e=>by
  obtain⟨b,h1,h2⟩:=Paired.get' (i:=i) (a:=a) t (by simpa using e);exact⟨b,by simpa using h1,h2⟩
theorem DenAll.get{d:iO}(h:DenAll K H ds xs)(e:ds[i]?=some d):∃v,xs[i]?=some v/\Den K H d v:=Paired.get' h.paired e
theorem Paired.get2{α β:Type}{F:α->β->Prop}:∀{l₁:List α}{l₂:List β}{i:Nat}{b:β},abV F l₁ l₂->l₂[i]?=some b->∃a,l₁[i]?=some a/\F a b
 |_,_,_,_,.nil,e=>by simp at e
 |_,_,0,_,.cons f _,e=>by simp at e;subst e;exact⟨_,rfl,f⟩
 |_,_,i+1,b,.cons _ t,e=>by
  obtain⟨a,h1,h2⟩:=Paired.get2 (i:=i) (b:=b) t (by simpa using e);exact⟨a,by simpa using h1,h2⟩
theorem DenAll.get2(h:DenAll K H ds xs)(e:xs[i]?=some v):∃d,ds[i]?=some d/\Den K H d v:=Paired.get2 h.paired e
theorem Paired.append'{α β:Type}{F:α->β->Prop}:∀{a b:List α}{c d:List β},abV F a c->abV F b d->abV F (a++b) (c++d)
 |_,_,_,_,.nil,s=>s
 |_,_,_,_,.cons r t,s=>.cons r (Paired.append' t s)
theorem DenAll.append{es:List iO}{ys:List V}(h:DenAll K H ds xs)(g:DenAll K H es ys):DenAll K H (ds++es) (xs++ys):=gc (Paired.append' h.paired g.paired)
theorem Paired.set'{α β:Type}{F:α->β->Prop}{a:α}{b:β}(f:F a b):∀{l₁:List α}{l₂:List β} (i:Nat),abV F l₁ l₂->abV F (l₁.set i a) (l₂.set i b)
 |_,_,_,.nil=>.nil
 |_,_,0,.cons _ t=>.cons f t
 |_,_,i+1,.cons q t=>.cons q (Paired.set' f i t)
theorem DenAll.set{d:iO}(h:DenAll K H ds xs)(f:Den K H d v)(i:Nat):DenAll K H (ds.set i d) (xs.set i v):=gc (Paired.set' f i h.paired)
theorem Paired.take'{α β:Type}{F:α->β->Prop}:∀{l₁:List α}{l₂:List β} (n:Nat),abV F l₁ l₂->abV F (l₁.take n) (l₂.take n)
 |_,_,0,_=>.nil
 |_,_,_+1,.nil=>.nil
 |_,_,n+1,.cons r t=>.cons r (Paired.take' n t)
theorem Paired.drop'{α β:Type}{F:α->β->Prop}:∀{l₁:List α}{l₂:List β} (n:Nat),abV F l₁ l₂->abV F (l₁.drop n) (l₂.drop n)
 |_,_,0,h=>h
 |_,_,_+1,.nil=>.nil
 |_,_,n+1,.cons _ t=>Paired.drop' n t
theorem DenAll.take(h:DenAll K H ds xs)(n:Nat):DenAll K H (ds.take n) (xs.take n):=gc (Paired.take' n h.paired)
theorem DenAll.drop(h:DenAll K H ds xs)(n:Nat):DenAll K H (ds.drop n) (xs.drop n):=gc (Paired.drop' n h.paired)
theorem DenAll.ints:∀ns:List Int,DenAll K H (ns.map .int) (ns.map V.int)
 |[]=>DenAll.nil
 |n::ns=>DenAll.cons (by simp only[Den]) (DenAll.ints ns)
end
def fzOf:List (iO×iO)->Option iO
 |[(.none,.list ds)]=>some (.list ds)
 |[(.none,.dict es)]=>some (.dict es)
 |_=>none
mutual
def TAt(K:Kd)(H:Hp)(τ:List (List Nat×Addr))(p:List Nat):iO->V->Prop
 | .list ts,v=>∃a xs,τ.lookup p=some a/\v = .ref a/\H a=some (.lst xs)/\TAtL K H τ p 0 ts xs
 | .dict kvs,v=>(∃d,fzOf kvs=some d/\Den K H d v) \/
   (fzOf kvs=none/\excC kvs=none/\∃a es,τ.lookup p=some a/\v = .ref a/\H a=some (dX a es)/\Ai kvs/\TAtD K H τ p 0 kvs es) \/
   (fzOf kvs=none/\excC kvs=none/\∃a es,τ.lookup p=some a/\v = .ref a/\H a=some (.dK es)/\TAtK K H τ p 0 kvs es) \/
   ∃c a dx C xs,excC kvs=some c/\τ.lookup p=some a/\v = .ref a/\H a=some (.ins C dx xs)/\ClsN K c C/\TAtF K H τ p 0 kvs xs
 | .none,v=>Den K H .none v
 | .bool b,v=>Den K H (.bool b) v
 | .int i,v=>Den K H (.int i) v
 | .str x,v=>Den K H (.str x) v
 | .tuple ds,v=>Den K H (.tuple ds) v
def TAtL(K:Kd)(H:Hp)(τ:List (List Nat×Addr))(p:List Nat)(i:Nat):List iO->List V->Prop
 |[],xs=>xs=[]
 |t::ts,xs=>∃v vs,xs=v::vs/\TAt K H τ (p++[i]) t v/\TAtL K H τ p (i+1) ts vs
def TAtD(K:Kd)(H:Hp)(τ:List (List Nat×Addr))(p:List Nat)(i:Nat):List (iO×iO)->List (Int×V×V)->Prop
 |[],es=>es=[]
 |(k,t)::r,es=>∃u v vs,es=(dN K.w k,u,v)::vs/\Den K H k u/\TAt K H τ (p++[i]) t v/\TAtD K H τ p (i+1) r vs
def TAtK(K:Kd)(H:Hp)(τ:List (List Nat×Addr))(p:List Nat)(i:Nat):List (iO×iO)->List (Key×V)->Prop
 |[],es=>es=[]
 |(k,t)::r,es=>∃kk v vs,es=(kk,v)::vs/\(k=keyD kk/\∀x∈vs,x.1≠kk)/\TAt K H τ (p++[i]) t v/\TAtK K H τ p (i+1) r vs
def TAtF(K:Kd)(H:Hp)(τ:List (List Nat×Addr))(p:List Nat)(i:Nat):List (iO×iO)->List (Str×V)->Prop
 |[],xs=>xs=[]
 |(k,t)::r,xs=>match k with
  | .str f=>∃v vs,xs=(f,v)::vs/\TAt K H τ (p++[i]) t v/\TAtF K H τ p (i+1) r vs
  | .none=>TAtF K H τ p (i+1) r xs
  |_=>False
end
theorem br{β γ:Type}[BEq β][LawfulBEq β]{l:List (β×γ)}{p:β}{a:γ}(h:l.lookup p=some a):a∈l.map (·.2):=by
 induction l with
 |nil=>cases h
 |cons x l ih =>
  rw[ab9]at h
  split at h
  .cases h;simp
  .exact aay.mpr (let ⟨y,h1,h2⟩:=aay.mp (ih h);⟨y,aab _ h1,h2⟩)
section
variable {K:Kd}{H H':Hp}{τ:List (List Nat×Addr)}
mutual
theorem TAt.mono(pe:Pers H H')(e:∀a∈τ.map (·.2),H' a=H a):∀{d:iO}{p:List Nat}{v:V},TAt K H τ p d v->TAt K H' τ p d v
 | .none,_,_,h=>by simp only[TAt]at h⊢;exact h.mono pe
 | .bool _,_,_,h=>by simp only[TAt]at h⊢;exact h.mono pe
 | .int _,_,_,h=>by simp only[TAt]at h⊢;exact h.mono pe
 | .str _,_,_,h=>by simp only[TAt]at h⊢;exact h.mono pe
 | .tuple _,_,_,h=>by simp only[TAt]at h⊢;exact h.mono pe
 | .list ts,_,_,h=>by
  simp only[TAt]at h⊢;obtain⟨a,xs,e1,e2,e3,g⟩:=h;exact⟨a,xs,e1,e2,(e a (br e1)).trans e3,TAtL.mono pe e g⟩
 | .dict kvs,_,_,h=>by
  simp only[TAt]at h⊢;rcases h with⟨d,e1,h⟩|⟨z1,z2,a,es,e1,e2,e3,k,g⟩|⟨z1,z2,a,es,e1,e2,e3,g⟩|⟨c,a,dx,C,xs,e0,e1,e2,e3,k,g⟩
  .exact .inl ⟨d,e1,h.mono pe⟩
  .exact .inr (.inl ⟨z1,z2,a,es,e1,e2,(e a (br e1)).trans e3,k,TAtD.mono pe e g⟩)
  .exact .inr (.inr (.inl ⟨z1,z2,a,es,e1,e2,(e a (br e1)).trans e3,TAtK.mono pe e g⟩))
  .exact .inr (.inr <| .inr ⟨c,a,dx,C,xs,e0,e1,e2,(e a (br e1)).trans e3,k,TAtF.mono pe e g⟩)
theorem TAtL.mono(pe:Pers H H')(e:∀a∈τ.map (·.2),H' a=H a):∀{ds:List iO}{p:List Nat}{i:Nat}{xs:List V},TAtL K H τ p i ds xs->TAtL K H' τ p i ds xs
 |[],_,_,_,h=>by simpa only[TAtL]using h
 |t::ts,_,_,_,h=>by
  simp only[TAtL]at h⊢;obtain⟨v,vs,e1,g1,g2⟩:=h;exact⟨v,vs,e1,TAt.mono pe e g1,TAtL.mono pe e g2⟩
theorem TAtD.mono(pe:Pers H H')(e:∀a∈τ.map (·.2),H' a=H a):∀{ds:List (iO×iO)}{p:List Nat}{i:Nat}{xs:List (Int×V×V)},TAtD K H τ p i ds xs->TAtD K H' τ p i ds xs
 |[],_,_,_,h=>by simpa only[TAtD]using h
 |(k,t)::r,_,_,_,h=>by
  simp only[TAtD]at h⊢;obtain⟨u,v,vs,e1,g0,g1,g2⟩:=h;exact⟨u,v,vs,e1,g0.mono pe,TAt.mono pe e g1,TAtD.mono pe e g2⟩
theorem TAtK.mono(pe:Pers H H')(e:∀a∈τ.map (·.2),H' a=H a):∀{ds:List (iO×iO)}{p:List Nat}{i:Nat}{xs:List (Key×V)},TAtK K H τ p i ds xs->TAtK K H' τ p i ds xs
 |[],_,_,_,h=>by simpa only[TAtK]using h
 |(k,t)::r,_,_,_,h=>by
  simp only[TAtK]at h⊢;obtain⟨u,v,vs,e1,g0,g1,g2⟩:=h;exact⟨u,v,vs,e1,g0,TAt.mono pe e g1,TAtK.mono pe e g2⟩
theorem TAtF.mono(pe:Pers H H')(e:∀a∈τ.map (·.2),H' a=H a):∀{ds:List (iO×iO)}{p:List Nat}{i:Nat}{xs:List (Str×V)},TAtF K H τ p i ds xs->TAtF K H' τ p i ds xs
 |[],_,_,_,h=>by simpa only[TAtF]using h
 |(.str f,t)::r,_,_,_,h=>by
  simp only[TAtF]at h⊢;obtain⟨v,vs,e1,g1,g2⟩:=h;exact⟨v,vs,e1,TAt.mono pe e g1,TAtF.mono pe e g2⟩
 |(.none,d)::r,_,_,_,h=>by simp only[TAtF]at h⊢;exact TAtF.mono pe e h
 |(.bool _,d)::r,_,_,_,h=>by simp only[TAtF]at h
 |(.int _,d)::r,_,_,_,h=>by simp only[TAtF]at h
 |(.list _,d)::r,_,_,_,h=>by simp only[TAtF]at h
 |(.tuple _,d)::r,_,_,_,h=>by simp only[TAtF]at h
 |(.dict _,d)::r,_,_,_,h=>by simp only[TAtF]at h
end
end
abbrev Cx.kd(X:Cx):Kd:=⟨X.K,X.w⟩
section
variable {X:Cx}{pins:List (Addr×Obj)}{σ:St}{H:Hp}{s:aaa}
mutual
theorem Den.reads(I:Inv X pins σ H s):∀{d:iO}{v:V}{u:GE},d.hasDict=false->Den X.kd H d v->RelV v u->∃as,Reads s.heap u d as
 | .none,v,u,_,h,r=>by simp only[Den]at h;subst h;cases r;exact⟨_,.none⟩
 | .bool b,v,u,nd,h,r=>by simp only[Den]at h;subst h;cases r;exact⟨_,.bool b⟩
 | .int i,v,u,nd,h,r=>by simp only[Den]at h;subst h;obtain⟨t,rfl⟩:=r;exact⟨_,.int i t⟩
 | .str x,v,u,nd,h,r=>by simp only[Den]at h;subst h;obtain⟨t,rfl⟩:=r;exact⟨_,.str x t⟩
 | .list ds,v,u,nd,h,r=>by
  simp only[Den]at h;obtain⟨a,xs,rfl,f,g⟩:=h;cases r;obtain⟨its,rv,⟨o,n,e,c,_,dd⟩,_⟩:=I.list f.sq;obtain⟨as,h2⟩:=DenAll.reads I (by simpa only[acs]using nd) g rv;exact⟨_,.list e c dd (by simpa using h2)⟩
 | .tuple ds,v,u,nd,h,r=>by
  simp only[Den]at h;obtain⟨a,xs,rfl,f,g⟩:=h;cases r;obtain⟨its,rv,⟨o,e,c,n,dd⟩,_⟩:=I.tuple f;obtain⟨as,h2⟩:=DenAll.reads I (by simpa only[acs]using nd) g rv;exact⟨_,.tuple e c dd (by simpa using h2)⟩
 | .dict _,v,u,nd,h,r=>by simp[acs]at nd
theorem DenAll.reads(I:Inv X pins σ H s):∀{ds:List iO}{xs:List V}{us:List GE},acv ds=false->DenAll X.kd H ds xs->Vals xs us->∃as,ad6 s.heap us ds as
 |[],xs,us,_,h,r=>by simp only[DenAll]at h;subst h;cases r;exact⟨_,.nil⟩
 | d::ds,xs,us,nd,h,r=>by
  simp only[acv,agN]at nd;simp only[DenAll]at h;obtain⟨v,vs,rfl,f,g⟩:=h
  cases r with
  |cons r1 r2 =>
   obtain⟨a1,h1⟩:=Den.reads I nd.1 f r1;obtain⟨a2,h2⟩:=DenAll.reads I nd.2 g r2;exact⟨_,.cons h1 h2⟩
end
theorem Inv.freeze(I:Inv X pins σ H s)(h:H a=some (.lst xs)):∃o,Inv X pins σ (upd H a (.frz o (.lst xs))) s:=by
 obtain⟨hz,its,n,rv,e⟩:=I.hok a _ h;refine⟨{cls:=.type "list",data:=.seq its.toArray n},I.un (h':=s.heap) (t':=s.toks) ⟨fun b ob q _ _ _=>q,fun b ob q _ _ _=>⟨ob.slots,q⟩,fun b ob q z _=>?_,fun b ob q _=>⟨ob,q⟩,fun b ys q=>?_,fun b ob u q=>?_,fun b ps q=>⟨#[],?_⟩⟩ fun b ob q=>?_⟩
 .rw[am (abz (bh h z))];exact z
 .rw[am (qV q h (by intro z;cases z))];exact q
 .rw[am (qV q h (by intro z;cases z))];exact q
 .rw[am (qV q h (by intro z;cases z)),q];simp
 .by_cases hb:b=a
  .subst hb;rw[av]at q;cases q;exact⟨e,hz,its,n,rv,e⟩
  .rw[am hb]at q;exact(I.hok b ob q).stay (fun _ _ _ z=>z) (fun c z=>by rw[am (qV z h (by intro z;cases z))];exact z) fun c ys z=>by rw[am (qV z h (by intro z;cases z))];exact z
end
def Fw:Expr->Bool
 | .Starred ..=>true
 |_=>false
theorem aV{es:List Expr}(h:Fw e=false):aao (e::es) env=(false,eval e env)::aao es env:=by
 cases e<;>first|rfl|cases h
theorem cx(h:Fw e=false):aao [e] env=[(false,eval e env)]:=aV h
inductive R where
 |imm (d:iO)|obj (k:Nat)|new (ds:List iO)|at (k:Nat) (p:List Nat)|newT (t:iO)
structure MSt where
 vs:List (Option R)
 os:List (List iO)
 np:Nat
structure Kx extends Kd where
 eb:EB
instance:Coe Kx Kd:=⟨Kx.toKd⟩
abbrev Cx.kx(X:Cx):Kx:=⟨X.kd,X.eb⟩
abbrev Al:=List Ao
def Ao.ads:Ao->List Addr
 | .L a=>[a]
 | .T t=>t.map (·.2)
def ads(α:Al):List Addr:=α.flatMap Ao.ads
theorem iZ(α β:Al):ads (α++β)=ads α++ads β:=by unfold ads;rw[acD]
def Mu:HO->Bool
 | .tup _=>false
 | .frz _ _=>false
 |_=>true
def OwnAt(K:Kd)(H:Hp):Ao->List iO->Prop
 | .L a,ds=>∃xs,H a=some (.lst xs)/\DenAll K H ds xs
 | .T τ,ds=>(∃t v,ds=[t]/\TAt K H τ [] t v/\∃a,τ.lookup []=some a/\v = .ref a)/\∀a∈τ.map (·.2),∃o,H a=some o/\Mu o=true
theorem OwnAt.mem(h:OwnAt K H ao ds)(ha:a∈ao.ads):∃o,H a=some o/\Mu o=true:=by
 cases ao with
 |L b=>cases aah.mp ha;obtain⟨xs,e,_⟩:=h;exact⟨_,e,rfl⟩
 |T τ=>exact h.2 a ha
theorem OwnAt.mono(h:OwnAt K H ao ds)(pe:Pers H H')(e:∀a∈ao.ads,H' a=H a):OwnAt K H' ao ds:=by
 cases ao with
 |L b =>
  obtain⟨xs,q,g⟩:=h;exact⟨xs,(e b (aah.mpr rfl)).trans q,g.mono pe⟩
 |T τ =>
  obtain⟨⟨t,v,e1,g,r⟩,m⟩:=h;exact⟨⟨t,v,e1,g.mono pe e,r⟩,fun a ha=>by rw[e a ha];exact m a ha⟩
def RelS(K:Kd)(α:Al)(H:Hp):R->V->Prop
 | .imm d,v=>Den K H d v
 | .obj k,v=>∃a,α[k]?=some (.L a)/\v = .ref a
 | .at k p,v=>∃τ a,α[k]?=some (.T τ)/\τ.lookup p=some a/\v = .ref a
 | .new _,_=>False
 | .newT _,_=>False
def RelR(K:Kd)(α:Al)(Hb H:Hp):R->V->Prop
 | .imm d,v=>Den K H d v
 | .obj k,v=>∃a,α[k]?=some (.L a)/\v = .ref a
 | .at k p,v=>∃τ a,α[k]?=some (.T τ)/\τ.lookup p=some a/\v = .ref a
 | .new ds,v=>∃a xs,v = .ref a/\Hb a=none/\H a=some (.lst xs)/\DenAll K H ds xs
 | .newT t,v=>∃τ a,v = .ref a/\τ.lookup []=some a/\(τ.map (·.2)).Nodup/\(∀b∈τ.map (·.2),Hb b=none)/\OwnAt K H (.T τ) [t]
def Frm(α:Al)(H H':Hp):Prop:=∀b o,H b=some o->b∉ads α->H' b=some o
theorem Frm.refl(α:Al)(H:Hp):Frm α H H:=fun _ _ e _=>e
theorem Frm.trans(a:Frm α H H1)(b:Frm α H1 H2):Frm α H H2:=fun c o e n=>b c o (a c o e n) n
structure Ext(np:Nat)(α:Al)(H:Hp)(α':Al)(H':Hp):Prop where
 pre:α'.take np=α.take np
 frm:Frm α H H'
 new:∀a∈ads α',a∈ads α\/H a=none
 old:∀a∈ads α,∃o,H' a=some o
theorem Ext.trans{np:Nat}{α2:Al}(x:Ext np α H α1 H1)(y:Ext np α1 H1 α2 H2):Ext np α H α2 H2:=by
 have out:∀b o,H b=some o->b∉ads α->b∉ads α1:=fun b o e n hb=>by
  rcases x.new b hb with z|z
  .exact n z
  .rw[e]at z;cases z
 refine⟨y.pre.trans x.pre,fun b o e n=>y.frm b o (x.frm b o e n) (out b o e n),fun a ha=>?_,fun a ha=>?_⟩
 .rcases y.new a ha with z|z
  .exact x.new a z
  .cases q:H a with
   |none=>exact .inr rfl
   |some o =>
    by_cases hm:a∈ads α
    .exact .inl hm
    .have:=x.frm a o q hm;rw[z]at this;cases this
 .obtain⟨o,e⟩:=x.old a ha
  by_cases hm:a∈ads α1
  .exact y.old a hm
  .exact⟨o,y.frm a o e hm⟩
theorem Ext.nil{np:Nat}(x:Ext np α H α1 H1)(h:H1 a=none):H a=none:=by
 cases q:H a with
 |none=>rfl
 |some o =>
  by_cases hm:a∈ads α
  .obtain⟨o',e⟩:=x.old a hm;rw[h]at e;cases e
  .have:=x.frm a o q hm;rw[h]at this;cases this
theorem Ext.less{np n1:Nat}(x:Ext n1 α H α' H')(h:np≤n1):Ext np α H α' H':=by
 refine⟨?_,x.frm,x.new,x.old⟩;have:=congrArg (List.take np) x.pre;rw[List.take_take,List.take_take,agA h]at this;exact this
structure Rel(K:Kx)(α:Al)(m:MSt)(σ:St)(H:Hp):Prop where
 nd:(ads α).Nodup
 len:α.length=m.os.length
 own:∀(k:Nat) (ao:Ao) (ds:List iO),α[k]?=some ao->m.os[k]?=some ds->OwnAt K H ao ds
 vlen:σ.length=m.vs.length
 var:∀(i:Nat) (r:R),m.vs[i]?=some (some r)->∃v,σ[i]?=some (some v)/\RelS K α H r v
 npl:m.np≤α.length
 ebl:K.eb.np≤m.np
 ebx:Ext K.eb.np K.eb.be K.eb.H α H
section
variable {K:Kx}{α:Al}{m m':MSt}{σ:St}{H H0 H1 H':Hp}{r:R}{v:V}
theorem RelS.rr{K:Kd}(h:RelS K α H r v):RelR K α Hb H r v:=by
 cases r with
 |imm d=>exact h
 |obj k=>exact h
 | «at» k p=>exact h
 |new ds=>exact h.elim
 |newT t=>exact h.elim
theorem Rel.mem(R:Rel K α m σ H)(ha:a∈ads α):∃o,H a=some o/\Mu o=true:=by
 obtain⟨ao,h1,h2⟩:=aby.mp ha;obtain⟨k,hk,e⟩:=abB.mp h1;have h1:α[k]?=some ao:=by rw[Ge hk,e]
 have h2':m.os[k]?=some (m.os[k]'(by rw[<-R.len];exact hk)):=Ge _;exact(R.own k ao _ h1 h2').mem h2
theorem Rel.out(R:Rel K α m σ H)(h:H a=none):a∉ads α:=fun ha=>by
 obtain⟨xs,q,_⟩:=R.mem ha;rw[h]at q;cases q
theorem Rel.pers(R:Rel K α m σ H)(F:Frm α H H'):Pers H H' where
 tups:=fun b xs e=>F b _ e fun ha=>by obtain⟨ys,q,z⟩:=R.mem ha;rw[e]at q;cases q;cases z
 frzs:=fun b o u e=>F b _ e fun ha=>by obtain⟨ys,q,z⟩:=R.mem ha;rw[e]at q;cases q;cases z
theorem Ext.of{np:Nat}(R:Rel K α m σ H')(F:Frm α H H'):Ext np α H α H' :=
 ⟨rfl,F,fun _ h=>.inl h,fun a ha=>let ⟨xs,q,_⟩:=R.mem ha;⟨_,q⟩⟩
theorem OwnAt.keep{K:Kd}(h:OwnAt K H1 ao ds)(pe:Pers H1 H)(F:Frm α H1 H)(n:∀b∈ao.ads,b∉ads α):OwnAt K H ao ds :=
 h.mono pe fun a ha=>by
  obtain⟨o,e,_⟩:=h.mem ha;rw[e];exact F a o e (n a ha)
theorem RelR.keep(R0:Rel K α m σ H0)(R1:Rel K α m' σ H1)(F:Frm α H1 H)(h:RelR K α H0 H1 r v):RelR K α H0 H r v:=by
 cases r with
 |imm d=>exact Den.mono (R1.pers F) h
 |obj k=>exact h
 | «at» k p=>exact h
 |new ds =>
  obtain⟨a,xs,e,n,q,g⟩:=h;exact⟨a,xs,e,n,F a _ q (R0.out n),g.mono (R1.pers F)⟩
 |newT t =>
  obtain⟨τ,a,e,e1,nd,n,g⟩:=h;exact⟨τ,a,e,e1,nd,n,g.keep (R1.pers F) F fun b hb=>R0.out (n b hb)⟩
theorem RelR.base(R:Rel K α m σ H)(F:Frm α H0 H)(h:RelR K α H H' r v):RelR K α H0 H' r v:=by
 have old:∀a,H a=none->H0 a=none:=fun a n=>by
  cases z:H0 a with
  |none=>rfl
  |some o =>
   have:=F a o z (R.out n);rw[n]at this;cases this
 cases r with
 |imm d=>exact h
 |obj k=>exact h
 | «at» k p=>exact h
 |new ds =>
  obtain⟨a,xs,e,n,q,g⟩:=h;exact⟨a,xs,e,old a n,q,g⟩
 |newT t =>
  obtain⟨τ,a,e,e1,nd,n,g⟩:=h;exact⟨τ,a,e,e1,nd,fun b hb=>old b (n b hb),g⟩
def chD:iO->Nat->Option iO
 | .list ts,i=>ts[i]?
 | .dict kvs,i=>match kvs[i]? with
  |some (.none,_)=>none
  |some (_,t)=>some t
  |none=>none
 |_,_=>none
def getT:iO->List Nat->Option iO
 |t,[]=>some t
 |t,i::p=>(chD t i).bind fun t'=>getT t' p
def xJ:iO->Option iO
 | .list _=>none
 | .dict kvs=>fzOf kvs
 |d=>some d
def je:List iO->Option (List iO)
 |[]=>some []
 |t::ts=>match xJ t,je ts with|some d,some ds=>some (d::ds)|_,_=>none
def ndL(m:MSt)(k:Nat)(p:List Nat):Option (List iO):=match m.os[k]? with
 |some [t]=>match getT t p with
  |some (.list ts)=>je ts
  |_=>none
 |_=>none
theorem jD{K:Kd}{p:List Nat}{t d:iO}(h:TAt K H τ p t v)(e:xJ t=some d):Den K H d v:=by
 cases t with
 |list ts=>cases e
 | dict kvs =>
  have e':fzOf kvs=some d:=e;simp only[TAt]at h;rcases h with⟨d',e1,h⟩|⟨z,_⟩|⟨z,_⟩|⟨c,a,dx,C,xs,e0,_⟩
  .rw[e']at e1;cases e1;exact h
  .rw[e']at z;cases z
  .rw[e']at z;cases z
  .exfalso;unfold fzOf at e';unfold excC at e0
   split at e'<;>simp_all
 |none=>cases e;simpa only[TAt]using h
 |bool _=>cases e;simpa only[TAt]using h
 |int _=>cases e;simpa only[TAt]using h
 |str _=>cases e;simpa only[TAt]using h
 |tuple _=>cases e;simpa only[TAt]using h
theorem lG{K:Kd}{τ:List (List Nat×Addr)}{p:List Nat}:∀{ts ds:List iO}{i:Nat}{xs:List V},TAtL K H τ p i ts xs->je ts=some ds->DenAll K H ds xs
 |[],ds,i,xs,h,e=>by
  cases e;simp only[TAtL]at h;subst h;exact DenAll.nil
 | t::ts,ds,i,xs,h,e=>by
  simp only[TAtL]at h;obtain⟨v,vs,rfl,g1,g2⟩:=h;simp only[je]at e
  cases q1:xJ t with
  |none=>rw[q1]at e;cases e
  | some d =>
   cases q2:je ts with
   |none=>rw[q1,q2]at e;cases e
   |some ds' =>
    rw[q1,q2]at e;cases e;exact DenAll.cons (jD g1 q1) (lG g2 q2)
theorem TAtL.get{K:Kd}{τ:List (List Nat×Addr)}{p:List Nat}:∀{ts:List iO}{i j:Nat}{xs:List V}{t:iO},TAtL K H τ p i ts xs->ts[j]?=some t->∃v,xs[j]?=some v/\TAt K H τ (p++[i+j]) t v
 |[],_,_,_,_,_,e=>by simp at e
 |t::ts,i,0,xs,t',h,e=>by
  simp only[TAtL]at h;obtain⟨v,vs,rfl,g1,_⟩:=h;simp at e;subst e;exact⟨v,rfl,g1⟩
 |t::ts,i,j+1,xs,t',h,e=>by
  simp only[TAtL]at h;obtain⟨v,vs,rfl,_,g2⟩:=h;obtain⟨v',e1,e2⟩:=TAtL.get (j:=j) g2 (by simpa using e);exact⟨v',by simpa using e1,by rw[show i+(j+1)=i+1+j by omega];exact e2⟩
theorem TAtD.get{K:Kd}{τ:List (List Nat×Addr)}{p:List Nat}:∀{ts:List (iO×iO)}{i j:Nat}{xs:List (Int×V×V)}{k t:iO},TAtD K H τ p i ts xs->ts[j]?=some (k,t)->∃u v,xs[j]?=some (dN K.w k,u,v)/\Den K H k u/\TAt K H τ (p++[i+j]) t v
 |[],_,_,_,_,_,_,e=>by simp at e
 |(k,t)::ts,i,0,xs,k',t',h,e=>by
  simp only[TAtD]at h;obtain⟨u,v,vs,rfl,g0,g1,_⟩:=h;simp at e;obtain⟨rfl,rfl⟩:=e;exact⟨u,v,rfl,g0,g1⟩
 |(k,t)::ts,i,j+1,xs,k',t',h,e=>by
  simp only[TAtD]at h;obtain⟨u,v,vs,rfl,_,_,g2⟩:=h;obtain⟨u',v',e1,e0,e2⟩:=TAtD.get (j:=j) g2 (by simpa using e);exact⟨u',v',by simpa using e1,e0,by rw[show i+(j+1)=i+1+j by omega];exact e2⟩
theorem TAtK.get{K:Kd}{τ:List (List Nat×Addr)}{p:List Nat}:∀{ts:List (iO×iO)}{i j:Nat}{xs:List (Key×V)}{k t:iO},TAtK K H τ p i ts xs->ts[j]?=some (k,t)->∃v,TAt K H τ (p++[i+j]) t v
 |[],_,_,_,_,_,_,e=>by simp at e
 |(k,t)::ts,i,0,xs,k',t',h,e=>by
  simp only[TAtK]at h;obtain⟨u,v,vs,rfl,g0,g1,_⟩:=h;simp at e;obtain⟨rfl,rfl⟩:=e;exact⟨v,g1⟩
 |(k,t)::ts,i,j+1,xs,k',t',h,e=>by
  simp only[TAtK]at h;obtain⟨u,v,vs,rfl,_,_,g2⟩:=h;obtain⟨v',e2⟩:=TAtK.get (j:=j) g2 (by simpa using e);exact⟨v',by rw[show i+(j+1)=i+1+j by omega];exact e2⟩
theorem TAtF.get{K:Kd}{τ:List (List Nat×Addr)}{p:List Nat}:∀{ts:List (iO×iO)}{i j:Nat}{xs:List (Str×V)}{f:Str}{t:iO},TAtF K H τ p i ts xs->ts[j]?=some (.str f,t)->∃v,(f,v)∈xs/\TAt K H τ (p++[i+j]) t v
 |[],_,_,_,_,_,_,e=>by simp at e
 |(k,t)::ts,i,0,xs,f,t',h,e=>by
  simp at e;obtain⟨rfl,rfl⟩:=e;simp only[TAtF]at h;obtain⟨v,vs,rfl,g1,_⟩:=h;exact⟨v,aaf,g1⟩
 | (k,t)::ts,i,j+1,xs,f,t',h,e=>by
  have go:∀{ys:List (Str×V)},TAtF K H τ p (i+1) ts ys->∃v,(f,v)∈ys/\TAt K H τ (p++[i+(j+1)]) t' v:=fun {ys} g2=>by
   obtain⟨v',e1,e2⟩:=TAtF.get (j:=j) g2 (by simpa using e);exact⟨v',e1,by rw[show i+(j+1)=i+1+j by omega];exact e2⟩
  cases k with
  |str f' =>
   simp only[TAtF]at h;obtain⟨v,vs,rfl,_,g2⟩:=h;obtain⟨v',e1,e2⟩:=go g2;exact⟨v',aab _ e1,e2⟩
  |none=>simp only[TAtF]at h;exact go h
  |bool _=>simp only[TAtF]at h
  |int _=>simp only[TAtF]at h
  |list _=>simp only[TAtF]at h
  |tuple _=>simp only[TAtF]at h
  |dict _=>simp only[TAtF]at h
theorem TAtF.key{K:Kd}{p:List Nat}:∀{ts:List (iO×iO)}{i:Nat}{xs:List (Str×V)}{k t:iO},TAtF K H τ p i ts xs->(k,t)∈ts->k≠.none->∃f,k = .str f
 |[],_,_,_,_,_,e,_=>by simp at e
 | (k,t)::ts,i,xs,k',t',h,e,kn=>by
  cases k with
  |str f' =>
   simp only[TAtF]at h;obtain⟨v,vs,rfl,_,g2⟩:=h;rcases aal.mp e with e|e
   .cases e;exact⟨_,rfl⟩
   .exact g2.key e kn
  |none =>
   simp only[TAtF]at h;rcases aal.mp e with e|e
   .cases e;exact(kn rfl).elim
   .exact h.key e kn
  |bool _=>simp only[TAtF]at h
  |int _=>simp only[TAtF]at h
  |list _=>simp only[TAtF]at h
  |tuple _=>simp only[TAtF]at h
  |dict _=>simp only[TAtF]at h
theorem TAt.get{K:Kd}{τ:List (List Nat×Addr)}:∀{q p:List Nat}{t t':iO}{v:V},TAt K H τ p t v->getT t q=some t'->∃v',TAt K H τ (p++q) t' v'
 |[],p,t,t',v,h,e=>by cases e;exact⟨v,by rw[aa5];exact h⟩
 | i::q,p,t,t',v,h,e=>by
  simp only[getT]at e
  cases z:chD t i with
  |none=>rw[z]at e;cases e
  | some t1 =>
   rw[z]at e;have e':getT t1 q=some t':=e;have step:∃v1,TAt K H τ (p++[i]) t1 v1:=by
    cases t with
    |list ts =>
     simp only[TAt]at h;obtain⟨a,xs,_,_,_,g⟩:=h;obtain⟨v1,_,g1⟩:=g.get (j:=i) z;exact⟨v1,by rw[ab5]at g1;exact g1⟩
    | dict kvs =>
     simp only[chD]at z
     cases zi:kvs[i]? with
     |none=>rw[zi]at z;cases z
     | some kt =>
      obtain⟨k,t2⟩:=kt;rw[zi]at z;have kn:k≠.none:=fun q=>by subst q;cases z
      have e2:t2=t1:=by
       split at z<;>simp_all
      subst e2;simp only[TAt]at h;rcases h with⟨d,e1,_⟩|⟨_,_,a,es,_,_,_,_,g⟩|⟨_,_,a,es,_,_,_,g⟩|⟨c,a,dx,C,xs,e0,_,_,_,_,g⟩
      .exfalso;unfold fzOf at e1
       split at e1
       .cases i<;>simp at zi;exact kn zi.1.symm
       .cases i<;>simp at zi;exact kn zi.1.symm
       .cases e1
      .obtain⟨u,v1,_,_,g1⟩:=g.get (j:=i) zi;exact⟨v1,by rw[ab5]at g1;exact g1⟩
      .obtain⟨v1,g1⟩:=g.get (j:=i) zi;exact⟨v1,by rw[ab5]at g1;exact g1⟩
      .obtain⟨f,rfl⟩:=g.key (aae zi) kn;obtain⟨v1,_,g1⟩:=g.get (j:=i) zi;exact⟨v1,by rw[ab5]at g1;exact g1⟩
    |none=>cases z
    |bool _=>cases z
    |int _=>cases z
    |str _=>cases z
    |tuple _=>cases z
   obtain⟨v1,h1⟩:=step;obtain⟨v',h2⟩:=TAt.get h1 e';exact⟨v',by rw[abX]at h2;exact h2⟩
def lsOf(m:MSt):R->Option (List iO)
 | .imm (.list ds)=>some ds
 | .obj k=>m.os[k]?
 | .new ds=>some ds
 | .at k p=>ndL m k p
 |_=>none
mutual
def eraT:iO->Option iO
 | .list ts=>(eraL ts).map .list
 | .dict kvs=>fzOf kvs
 | .none=>some .none
 | .bool b=>some (.bool b)
 | .int i=>some (.int i)
 | .str x=>some (.str x)
 | .tuple ds=>some (.tuple ds)
def eraL:List iO->Option (List iO)
 |[]=>some []
 |t::ts=>match eraT t,eraL ts with|some d,some ds=>some (d::ds)|_,_=>none
end
def ndT(m:MSt)(k:Nat)(p:List Nat):Option iO:=match m.os[k]? with
 |some [t]=>getT t p
 |_=>none
def asD(m:MSt):R->Option iO
 | .imm d=>some d
 | .obj k=>(m.os[k]?).map .list
 | .new ds=>some (.list ds)
 | .at k p=>match ndT m k p with
  |some (.list ts)=>(eraL ts).map .list
  |_=>none
 | .newT _=>none
theorem RelR.node(R:Rel K α m σ H){k:Nat}{p:List Nat}(h:RelR K α H0 H (.at k p) v){t:iO}(e:ndT m k p=some t):∃τ a v',α[k]?=some (.T τ)/\τ.lookup p=some a/\v = .ref a/\TAt K H τ p t v':=by
 obtain⟨τ,a,e1,e2,e3⟩:=h;unfold ndT at e
 split at e
 .rename_i t0 e0;obtain⟨⟨t1,v0,e4,g,_⟩,_⟩:=R.own k (.T τ) _ e1 e0;cases e4;obtain⟨v',g'⟩:=g.get e;exact⟨τ,a,v',e1,e2,e3,by simpa using g'⟩
 .cases e
theorem RelR.list(R:Rel K α m σ H)(h:RelR K α H0 H r v)(e:lsOf m r=some ds):∃a xs,v = .ref a/\SqL K H a xs/\DenAll K H ds xs:=by
 cases r with
 | imm d =>
  cases d with
  |list es =>
   cases e;have h':Den K H (.list ds) v:=h;simp only[Den]at h';obtain⟨a,xs,e1,f,g⟩:=h';exact⟨a,xs,e1,f.sq,g⟩
  |none=>cases e
  |bool _=>cases e
  |int _=>cases e
  |str _=>cases e
  |tuple _=>cases e
  |dict _=>cases e
 |obj k =>
  obtain⟨a,e1,rfl⟩:=h;obtain⟨xs,q,g⟩:=R.own k _ ds e1 e;exact⟨a,xs,rfl,SqL.of q,g⟩
 |new es =>
  cases e;obtain⟨a,xs,e1,n,q,g⟩:=h;exact⟨a,xs,e1,SqL.of q,g⟩
 | «at» k p =>
  have e':ndL m k p=some ds:=e;obtain⟨ts,e1,e2⟩:∃ts,ndT m k p=some (.list ts)/\je ts=some ds:=by
   unfold ndL at e';unfold ndT
   split at e'
   .split at e'
    .rename_i h0 _ ts h1;exact⟨ts,h1,e'⟩
    .cases e'
   .cases e'
  obtain⟨τ,a,v',_,ea,rfl,g⟩:=RelR.node R h e1;simp only[TAt]at g;obtain⟨a',xs,ea',_,q,g⟩:=g;rw[ea]at ea';cases ea';exact⟨a,xs,rfl,SqL.of q,lG g e2⟩
 |newT _=>cases e
end
section
variable {X:Cx}{pins:List (Addr×Obj)}{σ:St}{H:Hp}{s:aaa}{τ:List (List Nat×Addr)}
mutual
theorem TAt.reads(I:Inv X pins σ H s):∀{t d:iO}{p:List Nat}{v:V}{u:GE},eraT t=some d->d.hasDict=false->TAt X.kd H τ p t v->RelV v u->∃as,Reads s.heap u d as
 | .none,d,p,v,u,e,nd,h,r=>by simp only[eraT]at e;cases e;simp only[TAt]at h;exact h.reads I nd r
 | .bool b,d,p,v,u,e,nd,h,r=>by simp only[eraT]at e;cases e;simp only[TAt]at h;exact h.reads I nd r
 | .int i,d,p,v,u,e,nd,h,r=>by simp only[eraT]at e;cases e;simp only[TAt]at h;exact h.reads I nd r
 | .str x,d,p,v,u,e,nd,h,r=>by simp only[eraT]at e;cases e;simp only[TAt]at h;exact h.reads I nd r
 | .tuple ds,d,p,v,u,e,nd,h,r=>by simp only[eraT]at e;cases e;simp only[TAt]at h;exact h.reads I nd r
 | .dict kvs,d,p,v,u,e,nd,h,r=>by
  simp only[eraT]at e;exact(jD h (show xJ (.dict kvs)=some d from e)).reads I nd r
 | .list ts,d,p,v,u,e,nd,h,r=>by
  simp only[eraT]at e
  cases q:eraL ts with
  |none=>rw[q]at e;cases e
  |some ds =>
   rw[q]at e;cases e;simp only[TAt]at h;obtain⟨a,xs,_,rfl,f,g⟩:=h;cases r;obtain⟨its,rv,⟨o,n,e,c,_,dd⟩,_⟩:=I.list (SqL.of f);obtain⟨as,h2⟩:=TAtL.reads I q (by simpa only[acs]using nd) g rv;exact⟨_,.list e c dd (by simpa using h2)⟩
theorem TAtL.reads(I:Inv X pins σ H s):∀{ts ds:List iO}{p:List Nat}{i:Nat}{xs:List V}{us:List GE},eraL ts=some ds->acv ds=false->TAtL X.kd H τ p i ts xs->Vals xs us->∃as,ad6 s.heap us ds as
 |[],ds,p,i,xs,us,e,nd,h,r=>by
  simp only[eraL]at e;cases e;simp only[TAtL]at h;subst h
  cases r;exact⟨_,.nil⟩
 | t::ts,ds,p,i,xs,us,e,nd,h,r=>by
  simp only[eraL]at e
  cases q1:eraT t with
  |none=>rw[q1]at e;cases e
  | some d =>
   cases q2:eraL ts with
   |none=>rw[q1,q2]at e;cases e
   | some ds' =>
    rw[q1,q2]at e;cases e;simp only[acv,agN]at nd;simp only[TAtL]at h;obtain⟨v,vs,rfl,g1,g2⟩:=h
    cases r with
    |cons r1 r2 =>
     obtain⟨a1,h1⟩:=TAt.reads I q1 nd.1 g1 r1;obtain⟨a2,h2⟩:=TAtL.reads I q2 nd.2 g2 r2;exact⟨_,.cons h1 h2⟩
end
end
theorem RelR.reads{s:aaa}{m:MSt}{u:GE}{d:iO}(I:Inv X pins σ H s)(R:Rel X.kx α m σ' H)(h:RelR X.kd α H0 H r v)(rv:RelV v u)(e:asD m r=some d)(nd:d.hasDict=false):∃as,Reads s.heap u d as:=by
 have li:∀{ds:List iO},lsOf m r=some ds->acv ds=false->∃as,Reads s.heap u (.list ds) as:=fun {ds} e nd=>by
  obtain⟨a,xs,rfl,f,g⟩:=RelR.list R h e;cases rv;obtain⟨its,rv,⟨o,n,e,c,_,dd⟩,_⟩:=I.list f;obtain⟨as,h2⟩:=DenAll.reads I nd g rv;exact⟨_,.list e c dd (by simpa using h2)⟩
 cases r with
 |imm d'=>cases e;exact Den.reads I nd h rv
 | obj k =>
  cases q:m.os[k]? with
  |none=>simp[asD,q]at e
  |some ds =>
   simp[asD,q]at e;subst e;exact li q (by simpa only[acs]using nd)
 |new ds=>cases e;exact li rfl (by simpa only[acs]using nd)
 | «at» k p =>
  obtain⟨ts,ds,q,q2,rfl⟩:∃ts ds,ndT m k p=some (.list ts)/\eraL ts=some ds/\d = .list ds:=by
   unfold asD at e;simp only at e
   split at e
   .rename_i ts q
    cases q2:eraL ts with
    |none=>rw[q2]at e;cases e
    |some ds=>rw[q2]at e;cases e;exact⟨ts,ds,q,q2,rfl⟩
   .cases e
  obtain⟨τ,a,v',_,ea,rfl,g⟩:=RelR.node R h q;have g':=g;simp only[TAt]at g';obtain⟨a',xs,ea',e3,_⟩:=g';rw[ea]at ea';cases ea';subst e3;exact TAt.reads I (by simp only[eraT,q2,Option.map]) nd g rv
 |newT _=>cases e
abbrev WE:=MSt->(R->MSt->Prop)->Prop
abbrev WT:=MSt->(Bool->MSt->Prop)->Prop
abbrev WA:=MSt->(List R->MSt->Prop)->Prop
def tM(K:Kx)(w:WE):TE:=fun σ H Q=>∃α m Kc,Rel K α m σ H/\w m Kc/\∀r m' v H',Kc r m'->m'.np=m.np->Rel K α m' σ H'->RelR K α H H' r v->Frm α H H'->Q v H'
def tMT(K:Kx)(w:WT):TT:=fun σ H Q=>∃α m Kc,Rel K α m σ H/\w m Kc/\∀b m' H',Kc b m'->m'.np=m.np->Rel K α m' σ H'->Frm α H H'->Q b H'
inductive RelRs(K:Kd)(α:Al)(Hb H:Hp):List R->List V->Prop where
 |nil:RelRs K α Hb H [] []
 |cons {r:R}{rs:List R}{v:V}{vs:List V}:RelR K α Hb H r v->RelRs K α Hb H rs vs->RelRs K α Hb H (r::rs) (v::vs)
def tMA(K:Kx)(w:WA):TA:=fun σ H Q=>∃α m Kc,Rel K α m σ H/\w m Kc/\∀rs m' vs H',Kc rs m'->m'.np=m.np->Rel K α m' σ H'->RelRs K α H H' rs vs->Frm α H H'->Q vs H'
theorem PE.wk{t t':TE}(h:PE X e t)(k:∀σ H Q,t' σ H Q->t σ H Q):PE X e t':=fun pins s σ H Q I q=>h pins s σ H Q I (k _ _ _ q)
theorem PT.wk{t t':TT}(h:PT X e t)(k:∀σ H Q,t' σ H Q->t σ H Q):PT X e t':=fun pins s σ H Q I q=>h pins s σ H Q I (k _ _ _ q)
theorem PW.wk{t t':TT}(h:PW X e t)(k:∀σ H Q,t' σ H Q->t σ H Q):PW X e t':=fun wh pins s σ H Q I q=>h wh pins s σ H Q I (k _ _ _ q)
theorem PA.wk{e:List Expr}{t t':TA}(h:PA X e t)(k:∀σ H Q,t' σ H Q->t σ H Q):PA X e t':=fun pos pins s σ H Q I q=>h pos pins s σ H Q I (k _ _ _ q)
theorem PS.wk{e:Stmt}{t t':TS}(h:PS X e t)(k:∀D σ H,t' D σ H->t D σ H):PS X e t':=fun pins s σ H D I q=>h pins s σ H D I (k _ _ _ q)
theorem PSs.wk{e:List Stmt}{t t':TS}(h:PSs X e t)(k:∀D σ H,t' D σ H->t D σ H):PSs X e t':=fun pins s σ H D I q=>h pins s σ H D I (k _ _ _ q)
abbrev ME(X:Cx)(e:Expr)(w:WE):Prop:=PE X e (tM X.kx w)
abbrev MT(X:Cx)(e:Expr)(w:WT):Prop:=PT X e (tMT X.kx w)
abbrev MW(X:Cx)(e:Expr)(w:WT):Prop:=PW X e (tMT X.kx w)
abbrev MA(X:Cx)(es:List Expr)(w:WA):Prop:=PA X es (tMA X.kx w)
section
variable {X:Cx}{a b c:Expr}{es:List Expr}{wa wb wc:WE}{pos:Pos}
def wVar(i:Nat):WE:=fun m K=>∃r,m.vs[i]?=some (some r)/\K r m
def wC(d:iO):WE:=fun m K=>K (.imm d) m
theorem Ij{t:TE}{w:WE}(h:PE X a t)(k:∀α m σ H Kc Q,Rel X.kx α m σ H->w m Kc->(∀r m' v H',Kc r m'->m'.np=m.np->Rel X.kx α m' σ H'->RelR X.kx α H H' r v->Frm α H H'->Q v H')->t σ H Q):ME X a w :=
 h.wk fun σ H Q ⟨α,m,Kc,Rl,hw,fin⟩=>k α m σ H Kc Q Rl hw fin
theorem me_c{d:iO}(h:PE X a (tC v))(hd:∀(K:Kd) H,Den K H d v):ME X a (wC d) :=
 Ij h fun α m σ H Kc Q Rl hw fin=>fin _ m v H hw rfl Rl (hd _ _) (Frm.refl _ _)
theorem Km{i j pos}:ME X (.Constant (.int i) j pos) (wC (.int i)):=me_c OI fun _ _=>by simp only[Den]
theorem Rh{i j pos}:ME X (.Constant (.bool i) j pos) (wC (.bool i)):=me_c R8 fun _ _=>by simp only[Den]
theorem KJ{i j pos}:ME X (.Constant (.str i) j pos) (wC (.str i)):=me_c Kl fun _ _=>by simp only[Den]
theorem OX{j pos}:ME X (.Constant .none j pos) (wC .none):=me_c Pk fun _ _=>by simp only[Den]
theorem Qc(h:PE X a (tVar i)):ME X a (wVar i) :=
 Ij h fun α m σ H Kc Q Rl hw fin=>by
  obtain⟨r,e,k⟩:=hw;obtain⟨v,ev,rv⟩:=Rl.var i r e;exact⟨v,ev,fin r m v H k rfl Rl rv.rr (Frm.refl _ _)⟩
theorem mv(i:Nat){pos:Pos}(hN:X.N[i]?=some x:=by rfl)(hv:Vis X.env.scope x:=by first|exact agP rfl|exact adu (agP rfl)|exact adu (adu rfl))(hd:(x==("__debug__" : Str))=false:=by decide)(hcd:(x==("__classdict__" : Str))=false:=by decide):ME X (.Name x pos) (wVar i):=Qc (Qh hN hv hd hcd)
abbrev WO:=R->R->MSt->(R->Prop)->Prop
def rM(K:Kx)(o:WO):R2:=fun x y H Q=>∃α m σ H0 H1 r1 r2 Kc,Rel K α m σ H/\RelR K α H0 H r1 x/\RelR K α H1 H r2 y/\o r1 r2 m Kc/\∀r v H',Kc r->Rel K α m σ H'->RelR K α H H' r v->Frm α H H'->Q v H'
def wBin(o:WO)(wa wb:WE):WE:=fun m K=>wa m fun r1 m1=>wb m1 fun r2 m2=>o r1 r2 m2 fun r=>K r m2
theorem uH(h:tM X.kx (wBin o wa wb) σ H Q):tOp (rM X.kx o) (tM X.kx wa) (tM X.kx wb) σ H Q:=by
 obtain⟨α,m,Kc,Rl,hw,fin⟩:=h;refine⟨α,m,_,Rl,hw,fun r1 m1 x H1 k1 n1 Rl1 rr1 F1=>⟨α,m1,_,Rl1,k1,fun r2 m2 y H2 k2 n2 Rl2 rr2 F2=>?_⟩⟩;refine⟨α,m2,σ,H,H1,r1,r2,_,Rl2,rr1.keep Rl Rl1 F2,rr2,k2,fun r v H' k Rl' rr F=>?_⟩;exact fin r m2 v H' k (n2.trans n1) Rl' (rr.base Rl2 (F1.trans F2)) ((F1.trans F2).trans F)
theorem Mh{op:Operator}(ho:OpR X (ack op) (rM X.kx o))(ha:ME X a wa)(hb:ME X b wb):ME X (.BinOp a op b pos) (wBin o wa wb):=(Rf ho ha hb).wk fun _ _ _ h=>uH h
theorem Lj(ho:OpR X (abK op) (rM X.kx o))(ha:ME X a wa)(hb:ME X b wb)(hm:ade op b=false):ME X (.Compare a [op] [b] pos) (wBin o wa wb):=(Gj ho ha hb hm).wk fun _ _ _ h=>uH h
def onBl(P:Bool->Prop):R->Prop
 | .imm (.bool k)=>P k
 |_=>False
theorem Kj{K:Kx}{P:Bool->Prop}(rr:RelR K α Hb H r v)(h:onBl P r):∃b,r = .imm (.bool b)/\v = .bl b/\P b:=by
 cases r with
 |obj _=>exact h.elim
 |new _=>exact h.elim
 | «at» _ _=>exact h.elim
 |newT _=>exact h.elim
 | imm d =>
  cases d with
  |bool b =>
   have e:Den K H (.bool b) v:=rr;simp only[Den]at e;exact⟨b,rfl,e,h⟩
  |none=>exact h.elim
  |int _=>exact h.elim
  |str _=>exact h.elim
  |list _=>exact h.elim
  |tuple _=>exact h.elim
  |dict _=>exact h.elim
def v3(w:WE):WT:=fun m K=>w m fun r m'=>onBl (fun k=>K k m') r
theorem zt{t:TE}{Q:Bool->Hp->Prop}{w:WE}(k:∀Q',tM X.kx w σ H Q'->t σ H Q')(h:tMT X.kx (v3 w) σ H Q):Oa t σ H Q:=by
 obtain⟨α,m,Kc,Rl,hw,fin⟩:=h;refine k _ ⟨α,m,_,Rl,hw,fun r m' v H' kk n1 Rl' rr F=>?_⟩;obtain⟨b,er,ev,kk⟩:=Kj rr kk;exact⟨b,ev,fin b m' H' kk n1 Rl' F⟩
theorem Lh(ho:OpR X (abK op) (rM X.kx o))(ha:ME X a wa)(hb:ME X b wb)(hm:ade op b=false):MT X (.Compare a [op] [b] pos) (v3 (wBin o wa wb)):=(IY ho ha hb hm).wk fun _ _ _ h=>zt (fun _=>uH) h
theorem Ow(ha:ME X a wa)(he:∀whole,isTrue a X.env whole=(do let v <- whole;adp a.pos;adK [v] (truthy v)):=by intro _;rfl):MT X a (v3 wa):=(LH ha he).wk fun _ _ _ h=>zt (t:=tM X.kx wa) (fun _ h=>h) h
end
section
variable {X:Cx}{a b c:Expr}{es:List Expr}{wa wb wc:WE}{pos:Pos}
variable {wt wu:WT}{rest:List Expr}
def wAnd(t u:WT):WT:=fun m K=>t m fun c m1=>if c=true then u m1 K else K false m1
def wOr(t u:WT):WT:=fun m K=>t m fun c m1=>if c=true then K true m1 else u m1 K
def wNot(t:WT):WT:=fun m K=>t m fun c m1=>K (!c) m1
theorem Iw(ha:MT X a wt):MW X (.BoolOp .And [a] pos) wt:=Je ha
theorem L5(ha:MT X a wt):MW X (.BoolOp .Or [a] pos) wt:=Oi ha
theorem KR(ha:MT X a wt)(hb:MW X (.BoolOp .And (b::rest) pos) wu):MW X (.BoolOp .And (a::b::rest) pos) (wAnd wt wu):=(PF ha hb).wk fun σ H Q ⟨α,m,Kc,Rl,hw,fin⟩=>by
 refine⟨α,m,_,Rl,hw,fun bb m1 H1 k n1 Rl1 F1=>?_⟩
 cases bb with
 |true=>rw[if_pos rfl]at k⊢;exact⟨α,m1,Kc,Rl1,k,fun b2 m2 H2 k2 n2 Rl2 F2=>fin b2 m2 H2 k2 (n2.trans n1) Rl2 (F1.trans F2)⟩
 |false=>rw[if_neg aaB]at k⊢;exact fin _ m1 H1 k n1 Rl1 F1
theorem QC(ha:MT X a wt)(hb:MW X (.BoolOp .Or (b::rest) pos) wu):MW X (.BoolOp .Or (a::b::rest) pos) (wOr wt wu):=(SG ha hb).wk fun σ H Q ⟨α,m,Kc,Rl,hw,fin⟩=>by
 refine⟨α,m,_,Rl,hw,fun bb m1 H1 k n1 Rl1 F1=>?_⟩
 cases bb with
 |true=>rw[if_pos rfl]at k⊢;exact fin _ m1 H1 k n1 Rl1 F1
 |false=>rw[if_neg aaB]at k⊢;exact⟨α,m1,Kc,Rl1,k,fun b2 m2 H2 k2 n2 Rl2 F2=>fin b2 m2 H2 k2 (n2.trans n1) Rl2 (F1.trans F2)⟩
theorem L4(ha:MT X a wt):MT X (.UnaryOp .Not a pos) (wNot wt):=(P7 ha).wk fun σ H Q ⟨α,m,Kc,Rl,hw,fin⟩ =>
 ⟨α,m,_,Rl,hw,fun bb m1 H1 k n1 Rl1 F1=>fin _ m1 H1 k n1 Rl1 F1⟩
theorem Oh(b:Bool):Den K H (.bool b) (.bl b):=by simp only[Den]
theorem mF(b:Int):Den K H (.int b) (.int b):=by simp only[Den]
theorem wz(b:Str):Den K H (.str b) (.str b):=by simp only[Den]
theorem Ja:Den K H .none .non:=by simp only[Den]
abbrev WU:=R->MSt->(R->Prop)->Prop
def uM(K:Kx)(o:WU):V->Hp->VK->Prop:=fun x H Q=>∃α m σ H0 r1 Kc,Rel K α m σ H/\RelR K α H0 H r1 x/\o r1 m Kc/\∀r v H',Kc r->Rel K α m σ H'->RelR K α H H' r v->Frm α H H'->Q v H'
def wUn(o:WU)(wa:WE):WE:=fun m K=>wa m fun r1 m1=>o r1 m1 fun r=>K r m1
theorem RE{op:UnaryOp}{o:WU}(ho:UnR X (unaryOp op) (uM X.kx o))(ha:ME X a wa):ME X (.UnaryOp op a pos) (wUn o wa):=(Se ho ha).wk fun σ H Q ⟨α,m,Kc,Rl,hw,fin⟩ =>
 ⟨α,m,_,Rl,hw,fun r1 m1 x H1 k1 n1 Rl1 rr1 F1=>⟨α,m1,σ,H,r1,_,Rl1,rr1,k1,fun r v H' k Rl' rr F=>fin r m1 v H' k n1 Rl' (rr.base Rl1 F1) (F1.trans F)⟩⟩
def tFz(t:TE):TE:=fun σ H Q=>t σ H fun v H1=>Q v H1\/∃a xs,H1 a=some (.lst xs)/\∀o,Q v (upd H1 a (.frz o (.lst xs)))
theorem Sd{t:TE}(h:PE X a t):PE X a (tFz t):=by
 intro pins s σ H Q I q;refine thn (h pins s σ H _ I q) fun u s1 ⟨v,H1,I1,r1,q1⟩=>?_;rcases q1 with q1|⟨p,xs,e,q1⟩
 .exact⟨v,H1,I1,r1,q1⟩
 .obtain⟨o,I2⟩:=I1.freeze e;exact⟨v,_,I2,r1,q1 o⟩
theorem Rel.at{K:Kx}{m:MSt}(R:Rel K α m σ H)(p:Pers H H')(e:∀a∈ads α,H' a=H a)(x:Frm α H H'):Rel K α m σ H':=by
 refine⟨R.nd,R.len,fun k ao ds h1 h2=>?_,R.vlen,fun i r h=>?_,R.npl,R.ebl,R.ebx.trans ⟨rfl,x,fun _ h=>.inl h,fun a ha=>?_⟩⟩
 .exact(R.own k ao ds h1 h2).mono p fun a ha=>e a (aby.mpr ⟨ao,aae h1,ha⟩)
 .obtain⟨v,ev,rv⟩:=R.var i r h;refine⟨v,ev,?_⟩
  cases r with
  |imm d=>exact Den.mono p rv
  |obj k=>exact rv
  | «at» k p=>exact rv
  |new ds=>exact rv
  |newT t=>exact rv
 .obtain⟨o,q,_⟩:=R.mem ha;exact⟨o,(e a ha).trans q⟩
theorem Rel.at'{K:Kx}{m:MSt}(R:Rel K α m σ H)(p:Pers H H')(e:∀a∈ads α,H' a=H a)(x:Ext K.eb.np K.eb.be K.eb.H α H'):Rel K α m σ H':=by
 refine⟨R.nd,R.len,fun k ao ds h1 h2=>?_,R.vlen,fun i r h=>?_,R.npl,R.ebl,x⟩
 .exact(R.own k ao ds h1 h2).mono p fun a ha=>e a (aby.mpr ⟨ao,aae h1,ha⟩)
 .obtain⟨v,ev,rv⟩:=R.var i r h;refine⟨v,ev,?_⟩
  cases r with
  |imm d=>exact Den.mono p rv
  |obj k=>exact rv
  | «at» k p=>exact rv
  |new ds=>exact rv
  |newT t=>exact rv
theorem bu{a:Addr}{o:HO}(h:H a=none\/∃u,H a=some u/\Mu u=true):Pers H (upd H a o) where
 tups:=fun b xs e=>by
  rw[am];exact e;rintro rfl;rcases h with h|⟨ys,h,z⟩<;>(rw[e]at h;cases h)
  cases z
 frzs:=fun b o u e=>by
  rw[am];exact e;rintro rfl;rcases h with h|⟨ys,h,z⟩<;>(rw[e]at h;cases h)
  cases z
theorem uz{a:Addr}{o:HO}(h:H a=some (.lst xs)):Pers H (upd H a o):=bu (.inr ⟨_,h,rfl⟩)
theorem cC{a:Addr}{o:HO}(h:H a=none):Frm α H (upd H a o):=fun b ob e _=>by
 rw[am (bh e h)];exact e
theorem Rel.lay{K:Kx}{m:MSt}{a:Addr}{o:HO}(R:Rel K α m σ H)(h:H a=none):Rel K α m σ (upd H a o) :=
 R.at (bu (.inl h)) (fun b hb=>am fun e=>R.out h (e▸hb)) (cC h)
def wImm(w:WE):WE:=fun m K=>w m fun r m'=>match r with| .imm d=>K (.imm d) m' | .new ds=>K (.imm (.list ds)) m'|_=>False
theorem Qe(ha:ME X a wa):ME X a (wImm wa):=(Sd ha).wk fun σ H Q ⟨α,m,Kc,Rl,hw,fin⟩=>by
 refine⟨α,m,_,Rl,hw,fun r m1 v H1 k n1 Rl1 rr F1=>?_⟩
 cases r with
 |imm d=>exact .inl (fin _ m1 v H1 k n1 Rl1 rr F1)
 |obj _=>exact k.elim
 | «at» _ _=>exact k.elim
 |newT _=>exact k.elim
 | new ds =>
  obtain⟨p,xs,ev,n,q,g⟩:=rr;refine .inr ⟨p,xs,q,fun o=>?_⟩;have pe:Pers H1 (upd H1 p (.frz o (.lst xs))):=uz q;have fr:Frm α H (upd H1 p (.frz o (.lst xs))):=fun b ob e nb=>by
   rw[am (bh e n)];exact F1 b ob e nb
  have old:Ext X.kx.eb.np α H α (upd H1 p (.frz o (.lst xs))):=⟨rfl,fr,fun _ h=>.inl h,fun b hb=>by
   have hbp:b≠p:=fun e=>Rl.out n (e▸hb);rw[am hbp];obtain⟨o',e',_⟩:=Rl1.mem hb;exact⟨o',e'⟩⟩
  refine fin _ m1 v _ k n1 (Rl1.at' pe (fun b hb=>am fun e=>Rl.out n (e▸hb)) (Rl.ebx.trans old)) (show Den X.kx _ (.list ds) v from ?_) fun b ob e nb=>?_
  .simp only[Den];exact⟨p,xs,ev,.inl ⟨o,av⟩,g.mono pe⟩
  .rw[am (bh e n)];exact F1 b ob e nb
def wNil:WA:=fun m K=>K [] m
def J7(w:WE)(ws:WA):WA:=fun m K=>w m fun r m1=>ws m1 fun rs m2=>K (r::rs) m2
theorem RelRs.base{K:Kx}{m:MSt}(Rl:Rel K α m σ H)(F:Frm α H0 H):∀{rs:List R}{vs:List V},RelRs K α H H' rs vs->RelRs K α H0 H' rs vs
 |_,_,.nil=>.nil
 |_,_,.cons h t=>.cons (h.base Rl F) (t.base Rl F)
variable {ws:WA}
theorem PC:MA X [] wNil:=(Mw (X:=X)).wk fun σ H Q ⟨α,m,Kc,Rl,hw,fin⟩=>fin _ m _ H hw rfl Rl .nil (Frm.refl _ _)
theorem I9(ha:ME X a wa)(hr:MA X es ws)(hs:aao (a::es) X.env=(false,eval a X.env)::aao es X.env:=by first|exact aV rfl|rfl):MA X (a::es) (J7 wa ws):=(Gi ha hr hs).wk fun σ H Q ⟨α,m,Kc,Rl,hw,fin⟩ =>
 ⟨α,m,_,Rl,hw,fun r m1 v H1 k n1 Rl1 rr F1=>⟨α,m1,_,Rl1,k,fun rs m2 vs H2 k2 n2 Rl2 rr2 F2=>fin _ m2 _ H2 k2 (n2.trans n1) Rl2 (.cons (rr.keep Rl Rl1 F2) (rr2.base Rl1 F1)) (F1.trans F2)⟩⟩
def fB:List R->Option (List iO)
 |[]=>some []
 | .imm d::rs=>(fB rs).map (d :: ·)
 |_::_=>none
theorem RelRs.imm{K:Kx}:∀{rs:List R}{vs:List V}{ds:List iO},RelRs K α H0 H rs vs->fB rs=some ds->DenAll K H ds vs
 |_,_,_,.nil,e=>by cases e;exact DenAll.nil
 |_,_,ds,.cons (r:=.imm d) (rs:=rs) h t,e=>by
  simp only[fB]at e
  cases q:fB rs with
  |none=>rw[q]at e;cases e
  |some ds'=>rw[q]at e;cases e;exact DenAll.cons h (t.imm q)
 |_,_,_,.cons (r:=.obj _) h t,e=>by cases e
 |_,_,_,.cons (r:=.new _) h t,e=>by cases e
 |_,_,_,.cons (r:=.at _ _) h t,e=>by cases e
 |_,_,_,.cons (r:=.newT _) h t,e=>by cases e
def y9(P:List iO->Prop):Option (List iO)->Prop
 |some ds=>ds.length≤aam/\P ds
 |none=>False
def wTup(ws:WA):WE:=fun m K=>ws m fun rs m'=>y9 (fun ds=>K (.imm (.tuple ds)) m') (fB rs)
def wLst(ws:WA):WE:=fun m K=>ws m fun rs m'=>y9 (fun ds=>K (.new ds) m') (fB rs)
theorem Lr{x1}(h:MA X es ws):ME X (.Tuple es x1 pos) (wTup ws):=(P6 h).wk fun σ H Q ⟨α,m,Kc,Rl,hw,fin⟩=>by
 refine⟨α,m,_,Rl,hw,fun rs m1 vs H1 k n1 Rl1 rr F1=>?_⟩
 cases e:fB rs with
 |none=>rw[e]at k;exact k.elim
 |some ds =>
  rw[e]at k;obtain⟨hz,k⟩:=k;have g:=rr.imm e;refine⟨by rw[<-g.length];exact hz,fun p hp=>fin _ m1 _ _ k n1 (Rl1.lay hp) (show Den X.kx _ (.tuple ds) (.ref p)from ?_) (F1.trans (cC hp))⟩;simp only[Den];exact⟨p,vs,rfl,SqT.of av,g.mono (bu (.inl hp))⟩
theorem KW(h:MA X es ws):ME X (.List es pos) (wLst ws):=(LG h).wk fun σ H Q ⟨α,m,Kc,Rl,hw,fin⟩=>by
 refine⟨α,m,_,Rl,hw,fun rs m1 vs H1 k n1 Rl1 rr F1=>?_⟩
 cases e:fB rs with
 |none=>rw[e]at k;exact k.elim
 |some ds =>
  rw[e]at k;obtain⟨hz,k⟩:=k;have g:=rr.imm e;refine⟨by rw[<-g.length];exact hz,fun p hp=>fin _ m1 _ _ k n1 (Rl1.lay hp) ((RelR.base Rl1 F1 (show RelR X.kx α H1 _ (.new ds) (.ref p)from⟨p,vs,rfl,hp,av,g.mono (bu (.inl hp))⟩))) (F1.trans (cC hp))⟩
abbrev WC:=List R->MSt->(R->Prop)->Prop
def cM(K:Kx)(o:WC):List V->Hp->VK->Prop:=fun xs H Q=>∃α m σ H0 rs Kc,Rel K α m σ H/\RelRs K α H0 H rs xs/\o rs m Kc/\∀r v H',Kc r->Rel K α m σ H'->RelR K α H H' r v->Frm α H H'->Q v H'
def wCB(o:WC)(ws:WA):WE:=fun m K=>ws m fun rs m1=>o rs m1 fun r=>K r m1
theorem NU{o:WC}(h:tM X.kx (wCB o ws) σ H Q):tCB (cM X.kx o) (tMA X.kx ws) σ H Q:=by
 obtain⟨α,m,Kc,Rl,hw,fin⟩:=h;exact⟨α,m,_,Rl,hw,fun rs m1 vs H1 k n1 Rl1 rr F1=>⟨α,m1,σ,H,rs,_,Rl1,rr,k,fun r v H' k Rl' rr' F=>fin r m1 v H' k n1 Rl' (rr'.base Rl1 F1) (F1.trans F)⟩⟩
theorem AY{id:String}{o:WC}(hc:dU X (.builtin id) (cM X.kx o))(hg:Gl X x)(hm:X.mg x=none)(hv:abj x=some (.builtin id))(ha:MA X (a::es) ws)(hn:x ≠ "__name__" :=by decide)(hdb:(x==("__debug__" : Str))=false:=by decide)
  (he:aao (a::es) X.env=(false,eval a X.env)::aao es X.env:=by first|exact aV rfl|rfl) (hpl:(ace pos (aao es X.env)).any (·.1)=false:=by rfl):ME X (.Call (.Name x p) (a::es) [] pos) (wCB o ws):=(Br hc hg hm hv ha hn hdb he hpl).wk fun _ _ _ h=>NU h
theorem zp{T:String}{o:WC}(hc:dU X (.type T) (cM X.kx o))(hg:Gl X x)(hm:X.mg x=none)(hv:abj x=some (.type T))(ha:MA X (a::es) ws)(hn:x ≠ "__name__" :=by decide)(hdb:(x==("__debug__" : Str))=false:=by decide)
  (he:aao (a::es) X.env=(false,eval a X.env)::aao es X.env:=by first|exact aV rfl|rfl) (hpl:(ace pos (aao es X.env)).any (·.1)=false:=by rfl):ME X (.Call (.Name x p) (a::es) [] pos) (wCB o ws):=(zh hc hg hm hv ha hn hdb he hpl).wk fun _ _ _ h=>NU h
end
inductive Ag where
 |imm (d:iO)|own (ds:List iO)|tr (t:iO)
abbrev SpM:=List Ag->(R->List (List iO)->Prop)->Prop
inductive RelAs(K:Kd)(H:Hp):List Ag->List V->Al->Prop where
 |nil:RelAs K H [] [] []
 |imm {d:iO}{v:V}{as:List Ag}{vs:List V}{β:Al}:Den K H d v->RelAs K H as vs β->RelAs K H (.imm d::as) (v::vs) β
 |own {ds:List iO}{a:Addr}{as:List Ag}{vs:List V}{β:Al}:OwnAt K H (.L a) ds->RelAs K H as vs β->RelAs K H (.own ds::as) (.ref a::vs) (.L a::β)
 |tr {t:iO}{a:Addr}{τ:List (List Nat×Addr)}{as:List Ag}{vs:List V}{β:Al}:OwnAt K H (.T τ) [t]->τ.lookup []=some a->RelAs K H as vs β->RelAs K H (.tr t::as) (.ref a::vs) (.T τ::β)
theorem RelAs.length:∀{as:List Ag}{vs:List V}{β:Al},RelAs K H as vs β->as.length=vs.length
 |_,_,_,.nil=>rfl
 |_,_,_,.imm _ t=>by simp[t.length]
 |_,_,_,.own _ t=>by simp[t.length]
 |_,_,_,.tr _ _ t=>by simp[t.length]
structure yh(K:Kd)(H:Hp)(β:Al)(outs:List (List iO)):Prop where
 len:outs.length=β.length
 at_:∀(j:Nat) (ao:Ao) (ds:List iO),β[j]?=some ao->outs[j]?=some ds->OwnAt K H ao ds
def spOf(K:Kd)(n:Nat)(sp:SpM):Sp:=fun vs H Q _=>∃as β Kc,as.length=n/\(ads β).Nodup/\RelAs K H as vs β/\sp as Kc/\∀r outs v H',Kc r outs->yh K H' β outs->RelR K β H H' r v->Frm β H H'->Q v H'
theorem spOf.len{E:XK}(h:spOf K n sp vs H Q E):vs.length=n:=by
 obtain⟨as,β,Kc,hl,_,r,_⟩:=h;rw[<-r.length];exact hl
def iE(m:MSt):List R->Option (List Ag×List Nat)
 |[]=>some ([],[])
 | .imm d::rs=>match iE m rs with|some (as,ks)=>some (.imm d::as,ks)|none=>none
 | .obj k::rs=>match m.os[k]?,iE m rs with|some ds,some (as,ks)=>some (.own ds::as,k::ks)|_,_=>none
 | .at k []::rs=>match m.os[k]?,iE m rs with|some [t],some (as,ks)=>some (.tr t::as,k::ks)|_,_=>none
 |_::_=>none
def cz:List (List iO)->List Nat->List (List iO)->List (List iO)
 |os,k::ks,o::outs=>cz (os.set k o) ks outs
 |os,_,_=>os
def mapR(ks:List Nat):R->R
 | .imm d=>.imm d
 | .new ds=>.new ds
 | .obj j=>.obj (ks.getD j 0)
 | .at j p=>.at (ks.getD j 0) p
 | .newT t=>.newT t
def zT(sp:SpM)(ws:WA):WE:=fun m K=>ws m fun rs m1=>match iE m1 rs with
 |some (as,ks)=>ks.Nodup/\sp as fun r outs=>K (mapR ks r) {m1 with os:=cz m1.os ks outs}
 |none=>False
theorem i5:∀(ks:List Nat) (os outs:List (List iO)),(cz os ks outs).length=os.length
 |[],_,_=>by simp[cz]
 |_::_,_,[]=>by simp[cz]
 |k::ks,os,o::outs=>by simp[cz,i5 ks]
theorem ja:∀(ks:List Nat) (os outs:List (List iO)) (k:Nat),k∉ks->(cz os ks outs)[k]?=os[k]?
 |[],_,_,_,_=>by simp[cz]
 |_::_,_,[],_,_=>by simp[cz]
 |k'::ks,os,o::outs,k,h=>by
  rw[aal]at h;rw[not_or]at h;show(cz (os.set k' o) ks outs)[k]?=_;rw[ja ks _ _ k h.2,aaS (abz h.1)]
theorem qH:∀(ks:List Nat) (os outs:List (List iO)) (j k:Nat) (ds:List iO),ks.Nodup->ks[j]?=some k->outs[j]?=some ds->k<os.length->(cz os ks outs)[k]?=some ds
 |[],_,_,_,_,_,_,h,_,_=>by simp at h
 |_::_,_,[],_,_,_,_,_,h,_=>by simp at h
 |k'::ks,os,o::outs,0,k,ds,nd,h1,h2,hk=>by
  simp at h1 h2;subst h1;subst h2;show(cz (os.set k' o) ks outs)[k']?=_;rw[ja ks _ _ k' (aaV.mp nd).1,aaZ hk]
 |k'::ks,os,o::outs,j+1,k,ds,nd,h1,h2,hk=>by
  exact qH ks (os.set k' o) outs j k ds (aaV.mp nd).2 (by simpa using h1) (by simpa using h2) (by simpa using hk)
theorem gL(α:Al):(ads α).Nodup↔(∀ao∈α,ao.ads.Nodup)/\α.Pairwise fun x y=>∀a∈x.ads,∀b∈y.ads,a≠b:=List.pairwise_flatMap
theorem gm(nd:(ads α).Nodup){x y:Ao}(hi:α[i]?=some x)(hj:α[j]?=some y)(h:i≠j)(hx:a∈x.ads)(hy:a∈y.ads):False:=by
 have pw:=((gL α).mp nd).2;obtain⟨p1,q1⟩:=aad.mp hi;obtain⟨p2,q2⟩:=aad.mp hj;subst q1 q2;rcases aeh h with l|l
 .exact abT.mp pw i j p1 p2 l a hx a hy rfl
 .exact abT.mp pw j i p2 p1 l a hy a hx rfl
theorem ji{x:Ao}(hi:α[i]?=some x)(h:a∈x.ads):a∈ads α:=aby.mpr ⟨x,aae hi,h⟩
theorem iq(h:a∈ads α):∃(i:Nat) (x:Ao),α[i]?=some x/\a∈x.ads:=by
 obtain⟨ao,h1,h2⟩:=aby.mp h;obtain⟨k,hk,e⟩:=abB.mp h1;exact⟨k,ao,by rw[Ge hk,e],h2⟩
section
variable {K:Kx}{α:Al}{m:MSt}{σ:St}{H H0 H':Hp}
theorem ig(Rl:Rel K α m σ H):∀{rs:List R}{vs:List V}{as:List Ag}{ks:List Nat},RelRs K α H0 H rs vs->iE m rs=some (as,ks)->∃β,RelAs K H as vs β/\abV (fun(k:Nat) (ao:Ao)=>α[k]?=some ao) ks β
 |_,_,_,_,.nil,e=>by cases e;exact⟨[],.nil,.nil⟩
 | _,_,as,ks,.cons (r:=.imm d) (rs:=rs) h t,e=>by
  simp only[iE]at e
  cases q:iE m rs with
  |none=>rw[q]at e;cases e
  |some p =>
   obtain⟨as',ks'⟩:=p;rw[q]at e;cases e;obtain⟨β,h1,h2⟩:=ig Rl t q;exact⟨β,.imm h h1,h2⟩
 | _,_,as,ks,.cons (r:=.obj k) (rs:=rs) h t,e=>by
  simp only[iE]at e
  cases q1:m.os[k]? with
  |none=>rw[q1]at e;cases e
  | some ds =>
   cases q:iE m rs with
   |none=>rw[q1,q]at e;cases e
   |some p =>
    obtain⟨as',ks'⟩:=p;rw[q1,q]at e;cases e;obtain⟨β,h1,h2⟩:=ig Rl t q;obtain⟨a,ea,rfl⟩:=h;exact⟨.L a::β,.own (Rl.own k _ ds ea q1) h1,.cons ea h2⟩
 |_,_,as,ks,.cons (r:=.at k []) (rs:=rs) h t,e=>by
  simp only[iE]at e
  split at e
  .rename_i t' as' ks' q1 q;cases e;obtain⟨β,h1,h2⟩:=ig Rl t q;obtain⟨τ,a,ea,el,rfl⟩:=h;exact⟨.T τ::β,.tr (Rl.own k _ _ ea q1) el h1,.cons ea h2⟩
  .cases e
 |_,_,_,_,.cons (r:=.at _ (_::_)) h t,e=>by cases e
 |_,_,_,_,.cons (r:=.new _) h t,e=>by cases e
 |_,_,_,_,.cons (r:=.newT _) h t,e=>by cases e
theorem f9(nd:(ads α).Nodup)(h:ks.Nodup)(p:abV (fun(k:Nat) (ao:Ao)=>α[k]?=some ao) ks β):(ads β).Nodup:=by
 have one:=((gL α).mp nd).1
 induction p with
 |nil=>exact acQ
 | @cons k ao ks β e t ih =>
  have ih':=ih (aaV.mp h).2;rw[gL]at ih'⊢;refine⟨fun x hx=>?_,afl.mpr ⟨fun y hy a ha b hb z=>?_,ih'.2⟩⟩
  .rcases aal.mp hx with rfl|hx
   .exact one _ (aae e)
   .exact ih'.1 x hx
  .subst z;obtain⟨j,hj,ej⟩:=abB.mp hy;obtain⟨k',e1,e2⟩:=Paired.get2 t (i:=j) (b:=y) (by rw[Ge hj,ej]);have ek:k=k':=Classical.byContradiction fun ne=>gm nd e e2 ne ha hb;exact(aaV.mp h).1 (ek▸aae e1)
theorem Dm(Rl:Rel K α m σ H){outs:List (List iO)}(nd:ks.Nodup)(p:abV (fun(k:Nat) (ao:Ao)=>α[k]?=some ao) ks β)(O:yh K H' β outs)(F:Frm β H H') :
  Rel K α {m with os:=cz m.os ks outs} σ H'/\Frm α H H':=by
 have sub:∀a∈ads β,∃k ao,k∈ks/\α[k]?=some ao/\a∈ao.ads:=fun a ha=>by
  obtain⟨j,ao,ej,hm⟩:=iq ha;obtain⟨k',e1,e2⟩:=Paired.get2 p ej;exact⟨k',ao,aae e1,e2,hm⟩
 have Fα:Frm α H H':=fun b o e n=>F b o e fun z=>by
  obtain⟨k,ao,_,e2,hm⟩:=sub b z;exact n (ji e2 hm)
 have pe:=Rl.pers Fα;have own':∀(k:Nat) (ao:Ao) (ds:List iO),α[k]?=some ao->(cz m.os ks outs)[k]?=some ds->OwnAt K H' ao ds:=fun k ao ds e1 e2'=>by
  have hk:k<m.os.length:=by rw[<-Rl.len];exact(aad.mp e1).1
  by_cases hm:k∈ks
  .obtain⟨j,hj,ej⟩:=abB.mp hm;have z1:ks[j]?=some k:=by rw[Ge hj,ej]
   obtain⟨a',z2,z3⟩:=Paired.get' p z1;rw[e1]at z3;cases z3;have hj2:j<outs.length:=by rw[O.len];exact(aad.mp z2).1
   have z4:outs[j]?=some outs[j]:=Ge hj2;rw[qH ks m.os outs j k _ nd z1 z4 hk]at e2';cases e2';exact O.at_ j _ _ z2 z4
  .rw[ja ks _ _ k hm]at e2';have q:=Rl.own k ao ds e1 e2';refine q.mono pe fun a ha=>?_;obtain⟨o,eo,_⟩:=q.mem ha;rw[eo];refine F a o eo fun z=>?_;obtain⟨k2,ao2,hk2,e3,hm2⟩:=sub a z;exact gm Rl.nd e1 e3 (fun z=>hm (z▸hk2)) ha hm2
 refine⟨⟨Rl.nd,by show α.length=(cz m.os ks outs).length;rw[i5];exact Rl.len,own',Rl.vlen,fun i r h=>?_,Rl.npl,Rl.ebl,Rl.ebx.trans ⟨rfl,Fα,fun _ h=>.inl h,fun a ha=>?_⟩⟩,Fα⟩
 .obtain⟨v,ev,rv⟩:=Rl.var i r h;refine⟨v,ev,?_⟩
  cases r with
  |imm d=>exact Den.mono pe rv
  |obj k=>exact rv
  | «at» k p=>exact rv
  |new ds=>exact rv
  |newT t=>exact rv
 .obtain⟨k,ao,e1,hm⟩:=iq ha;have hk:k<(cz m.os ks outs).length:=by rw[i5,<-Rl.len];exact(aad.mp e1).1
  obtain⟨o,q,_⟩:=(own' k ao _ e1 (Ge hk)).mem hm;exact⟨o,q⟩
theorem BU{K:Kd}(p:abV (fun(k:Nat) (ao:Ao)=>α[k]?=some ao) ks β)(h:RelR K β H H' r v):RelR K α H H' (mapR ks r) v:=by
 have get:∀{j:Nat}{ao:Ao},β[j]?=some ao->α[ks.getD j 0]?=some ao:=fun {j ao} ea=>by
  obtain⟨k,z1,z2⟩:=Paired.get2 p ea;rw[aax,z1];exact z2
 cases r with
 |imm d=>exact h
 |new ds=>exact h
 |newT t=>exact h
 |obj j =>
  obtain⟨a,ea,e⟩:=h;exact⟨a,get ea,e⟩
 | «at» j q =>
  obtain⟨τ,a,ea,el,e⟩:=h;exact⟨τ,a,get ea,el,e⟩
end
section
variable {X:Cx}{a:Expr}{es:List Expr}{ws:WA}{pos p:Pos}{k n:Nat}{f:Addr}{fd:ac5}{ps:List Str}{sp:SpM}{x:Str}{CX:CXT}
theorem J5{E:XK}(h:tM X.kx (zT sp ws) σ H Q)(hn:∀as Kc,sp as Kc->as.length=n):Ll (spOf X.kd n sp) [] E (tMA X.kx ws) σ H Q:=by
 obtain⟨α,m,Kc,Rl,hw,fin⟩:=h;refine⟨α,m,_,Rl,hw,fun rs m1 vs H1 kk n1 Rl1 rr F1=>?_⟩
 cases e:iE m1 rs with
 |none=>rw[e]at kk;exact kk.elim
 |some q =>
  obtain⟨as,ks⟩:=q;rw[e]at kk;obtain⟨nd,hsp⟩:=kk;obtain⟨β,ra,pa⟩:=ig Rl1 rr e;refine⟨as,β,_,hn _ _ hsp,f9 Rl1.nd nd pa,by rw[aa5];exact ra,hsp,fun r outs v H' kk2 O rr2 F=>?_⟩;obtain⟨Rl2,F2⟩:=Dm Rl1 nd pa O F;exact fin _ _ v H' kk2 n1 Rl2 ((BU pa rr2).base Rl1 F1) (F1.trans F2)
theorem Gu{E:XK}(F:FnOk X.prog X.w X.K X.mg X.base CX k f fd ps (spOf X.kd n sp))(hr:Room k X.A)(hg:Gl X x)(hm:X.mg x=some (.ref f))(hk:adM X.K (.ref f)=true)(hb:Binds X.K fd ps [])(hx:uu CX X E)(hn:∀as Kc,sp as Kc->as.length=n)
  (ha:MA X (a::es) ws) (hdb:(x==("__debug__" : Str))=false:=by decide) (he:aao (a::es) X.env=(false,eval a X.env)::aao es X.env:=by first|exact aV rfl|rfl) (hpl:(ace pos (aao es X.env)).any (·.1)=false:=by rfl) :
  ME X (.Call (.Name x p) (a::es) [] pos) (zT sp ws):=(JM (E:=E) F hr hg hm hk hb .nil hx ha hdb he hpl).wk fun _ _ _ h=>J5 h hn
end
structure dY where
 nx:MSt->Prop
 rt:R->MSt->Prop
 bk:MSt->Prop:=fun _=>False
 ct:MSt->Prop:=fun _=>False
abbrev WS:=dY->MSt->Prop
theorem RelR.ext{np:Nat}{α2:Al}(x:Ext np α H α1 H1)(h:RelR K α2 H1 H2 r v):RelR K α2 H H2 r v:=by
 cases r with
 |imm d=>exact h
 |obj k=>exact h
 | «at» k p=>exact h
 |new ds =>
  obtain⟨a,xs,e,n,q,g⟩:=h;exact⟨a,xs,e,x.nil n,q,g⟩
 |newT t =>
  obtain⟨τ,a,e,e1,nd,n,g⟩:=h;exact⟨τ,a,e,e1,nd,fun b hb=>x.nil (n b hb),g⟩
structure EndsOk(K:Kx)(np:Nat)(α:Al)(H:Hp)(De:dY)(D:Ends):Prop where
 nx:∀α' m' σ' H',De.nx m'->m'.np=np->Rel K α' m' σ' H'->Ext np α H α' H'->D.nx σ' H'
 rt:∀r α' m' σ' v H',De.rt r m'->m'.np=np->Rel K α' m' σ' H'->RelR K α' H H' r v->Ext np α H α' H'->D.rt v H'
 bk:∀α' m' σ' H',De.bk m'->m'.np=np->Rel K α' m' σ' H'->Ext np α H α' H'->D.bk σ' H'
 ct:∀α' m' σ' H',De.ct m'->m'.np=np->Rel K α' m' σ' H'->Ext np α H α' H'->D.ct σ' H'
theorem EndsOk.ext{K:Kx}{np:Nat}(h:EndsOk K np α H De D)(x:Ext np α H α1 H1):EndsOk K np α1 H1 De D where
 nx:=fun α' m' σ' H' k n R y=>h.nx α' m' σ' H' k n R (x.trans y)
 rt:=fun r α' m' σ' v H' k n R rr y=>h.rt r α' m' σ' v H' k n R (rr.ext x) (x.trans y)
 bk:=fun α' m' σ' H' k n R y=>h.bk α' m' σ' H' k n R (x.trans y)
 ct:=fun α' m' σ' H' k n R y=>h.ct α' m' σ' H' k n R (x.trans y)
def tMS(K:Kx)(w:WS):TS:=fun D σ H=>∃α m De,Rel K α m σ H/\w De m/\EndsOk K m.np α H De D
abbrev MS(X:Cx)(st:Stmt)(w:WS):Prop:=PS X st (tMS X.kx w)
abbrev MSs(X:Cx)(st:List Stmt)(w:WS):Prop:=PSs X st (tMS X.kx w)
section
variable {X:Cx}{a b c e:Expr}{es:List Expr}{wa wb wc we:WE}{pos:Pos}{st:Stmt}{rest:List Stmt}{w u:WS}
def Jn:WS:=fun D m=>D.nx m
def wSeq(w u:WS):WS:=fun D m=>w {D with nx:=fun m'=>u D m' } m
theorem FZ:MSs X [] Jn:=(JY (X:=X)).wk fun D σ H ⟨α,m,De,Rl,hw,k⟩=>k.nx α m σ H hw rfl Rl (.of Rl (Frm.refl _ _))
theorem Cw(h1:MS X st w)(h2:MSs X rest u):MSs X (st::rest) (wSeq w u):=(DM h1 h2).wk fun D σ H ⟨α,m,De,Rl,hw,k⟩ =>
 ⟨α,m,_,Rl,hw,⟨fun α' m' σ' H' q n R y=>⟨α',m',De,R,q,by rw[n];exact k.ext y⟩,k.rt,k.bk,k.ct⟩⟩
theorem Gg(h1:MS X st w):MSs X [st] w:=(JU h1).wk fun D σ H h=>h
end
section
variable {X:Cx}{a b c e:Expr}{es:List Expr}{wa wb wc we:WE}{ws:WA}{wt:WT}{pos:Pos}{st:Stmt}{rest body body2:List Stmt}{w u:WS}
def wRet(we:WE):WS:=fun D m=>we m fun r m'=>D.rt r m'
theorem Po(he:ME X e we):MS X (.Return (some e) pos) (wRet we):=(Kh he).wk fun D σ H ⟨α,m,De,Rl,hw,k⟩ =>
 ⟨α,m,_,Rl,hw,fun r m' v H' q n Rl' rr F=>k.rt r α m' σ v H' q n Rl' rr (.of Rl' F)⟩
def G9(we:WE):WS:=fun D m=>we m fun _ m'=>D.nx m'
theorem Ia(he:ME X e we)(hs:abY e none pos.line X.env=pure false:=by rfl):MS X (.Expr e pos) (G9 we):=(JK he hs).wk fun D σ H ⟨α,m,De,Rl,hw,k⟩ =>
 ⟨α,m,_,Rl,hw,fun r m' v H' q n Rl' rr F=>k.nx α m' σ H' q n Rl' (.of Rl' F)⟩
def wIfS(t:WT)(w u:WS):WS:=fun D m=>t m fun c m'=>if c=true then w D m' else u D m'
theorem SY(ht:MT X t wt)(h1:MSs X body w)(h2:MSs X body2 u):MS X (.If t body body2 pos) (wIfS wt w u):=(Sx ht h1 h2).wk fun D σ H ⟨α,m,De,Rl,hw,k⟩=>by
 refine⟨α,m,_,Rl,hw,fun bb m' H' q n Rl' F=>?_⟩;have k':EndsOk X.kx m'.np α H' De D:=by rw[n];exact k.ext (.of Rl' F)
 cases bb with
 |true=>rw[if_pos rfl]at q;exact iteT ⟨α,m',De,Rl',q,k'⟩
 |false=>rw[if_neg aaB]at q;exact iteF ⟨α,m',De,Rl',q,k'⟩
def FW:WS:=fun _ _=>False
theorem Bg:MS X st FW:=(CP (X:=X)).wk fun D σ H ⟨α,m,De,Rl,hw,k⟩=>hw
def MSt.setV(m:MSt)(i:Nat)(r:R):MSt:={m with vs:=m.vs.set i (some r)}
def RenR(ρ:List Nat)(o:Option (Option R)):R->Prop
 | .imm d=>o=some (some (.imm d))
 | .obj k=>∃j,ρ[k]?=some j/\o=some (some (.obj j))
 | .at k p=>∃j,ρ[k]?=some j/\o=some (some (.at j p))
 | .new _=>False
 | .newT _=>False
structure Ren(ρ:List Nat)(m m2:MSt):Prop where
 nd:ρ.Nodup
 lt:∀k∈ρ,k<m.os.length
 pre:ρ.take m.np=aaP m.np
 npl:m.np≤ρ.length
 os:m2.os=ρ.map fun k=>m.os.getD k []
 np:m2.np=m.np
 vl:m2.vs.length=m.vs.length
 vs:∀(j:Nat) (r:R),m2.vs[j]?=some (some r)->RenR ρ m.vs[j]? r
def upR(D:MSt->Prop)(m:MSt):Prop:=D m\/∃ρ m2,Ren ρ m m2/\D m2
def qp(i:Nat)(D:MSt->Prop)(m:MSt):R->Prop
 | .imm d=>upR D (m.setV i (.imm d))
 | .obj k=>upR D (m.setV i (.obj k))
 | .at k p=>upR D (m.setV i (.at k p))
 | .new ds=>upR D {vs:=m.vs.set i (some (.obj m.os.length)),os:=m.os++[ds],np:=m.np} \/
   ∃k,m.vs[i]?=some (some (.obj k))/\m.np≤k/\(∀j:Nat,j≠i->m.vs[j]?≠some (some (.obj k)))/\D {m with os:=m.os.set k ds}
 | .newT t=>upR D {vs:=m.vs.set i (some (.at m.os.length [])),os:=m.os++[[t]],np:=m.np}
theorem gj{α:Al}{n:Nat}(hl:α.length=n):∀{ρ:List Nat},(∀k∈ρ,k<n)->abV (fun(k:Nat) (ao:Ao)=>α[k]?=some ao) ρ (ρ.map fun k=>α.getD k (.L 0))
 |[],_=>.nil
 | k::ρ,h=>.cons (by
   have hk:k<α.length:=by rw[hl];exact h k aaf
   show α[k]?=some (α.getD k (.L 0));rw[aax,Ge hk];rfl) (gj hl fun j hj=>h j (aab _ hj))
theorem Jl{K:Kx}{m m2:MSt}{ρ:List Nat}(Rl:Rel K α m σ H)(N:Ren ρ m m2):∃α2,Rel K α2 m2 σ H/\Ext m.np α H α2 H:=by
 have pr:=gj Rl.len N.lt;have get:∀(k:Nat) (ao:Ao),(ρ.map fun k=>α.getD k (.L 0))[k]?=some ao->∃j:Nat,ρ[k]?=some j/\α[j]?=some ao:=fun k ao z=>by
  obtain⟨j,h1,h2⟩:=Paired.get2 pr z;exact⟨j,h1,h2⟩
 have fwd:∀(k j:Nat) (ao:Ao),ρ[k]?=some j->α[j]?=some ao->(ρ.map fun k=>α.getD k (.L 0))[k]?=some ao:=fun k j ao z1 z2=>by
  obtain⟨ao',z3,z4⟩:=Paired.get' pr z1;rw[z2]at z4;cases z4;exact z3
 have pre':(ρ.map fun k=>α.getD k (.L 0)).take m.np=α.take m.np:=by
  apply acw;intro l;rw[aaR,aaR]
  by_cases hl:l<m.np
  .rw[if_pos hl,if_pos hl];have:ρ[l]?=some l:=by
    have e:=congrArg (·[l]?) N.pre;simp only[aaR,if_pos hl]at e;rw[e,abW hl]
   have hl2:l<α.length:=aaA hl Rl.npl;rw[fwd l l α[l] this (Ge hl2),Ge hl2]
  .rw[if_neg hl,if_neg hl]
 have ext:Ext m.np α H (ρ.map fun k=>α.getD k (.L 0)) H:=⟨pre',Frm.refl _ _,fun a ha=>by
  obtain⟨k,ao,e1,hm⟩:=iq ha;obtain⟨j,_,e2⟩:=get k ao e1;exact .inl (ji e2 hm),fun a ha=>by
  obtain⟨o,q,_⟩:=Rl.mem ha;exact⟨_,q⟩⟩
 refine⟨ρ.map fun k=>α.getD k (.L 0),⟨f9 Rl.nd N.nd pr,?_,fun k ao ds z1 z2=>?_,?_,fun j r z=>?_,?_,by rw[N.np];exact Rl.ebl,Rl.ebx.trans (ext.less Rl.ebl)⟩,ext⟩
 .rw[N.os,oR,oR]
 .obtain⟨j,q,qa⟩:=get k ao z1;rw[N.os,aak,q]at z2;have hj:j<m.os.length:=N.lt j (aae q);have z2':m.os.getD j []=ds:=aau z2;refine Rl.own j ao ds qa ?_;rw[<-z2',aax,Ge hj];rfl
 .rw[N.vl];exact Rl.vlen
 .have h:=N.vs j r z
  cases r with
  |imm d=>exact Rl.var j (.imm d) h
  |new _=>exact h.elim
  |newT _=>exact h.elim
  |obj k =>
   obtain⟨j',q,h⟩:=h;obtain⟨v,ev,a,ea,e⟩:=Rl.var j (.obj j') h;exact⟨v,ev,a,fwd k j' _ q ea,e⟩
  | «at» k p =>
   obtain⟨j',q,h⟩:=h;obtain⟨v,ev,τ,a,ea,el,e⟩:=Rl.var j (.at j' p) h;exact⟨v,ev,τ,a,fwd k j' _ q ea,el,e⟩
 .rw[N.np,oR];exact N.npl
def wSet(i:Nat)(we:WE):WS:=fun D m=>we m fun r m'=>qp i D.nx m' r
theorem cA{K:Kx}{m:MSt}(Rl:Rel K α m σ H)(h:RelS K α H r v):Rel K α (m.setV i r) (σ.set i (some v)) H:=by
 refine⟨Rl.nd,Rl.len,Rl.own,?_,fun j r' e=>?_,Rl.npl,Rl.ebl,Rl.ebx⟩
 .show(σ.set i (some v)).length=(m.vs.set i (some r)).length;rw[abp,abp];exact Rl.vlen
 .have e':(m.vs.set i (some r))[j]?=some (some r'):=e
  by_cases hj:i=j
  .subst hj
   by_cases hi:i<m.vs.length
   .rw[aaZ hi]at e';cases e';exact⟨v,aaZ (by rw[Rl.vlen];exact hi),h⟩
   .rw[acX (by rw[abp];omega)]at e';cases e'
  .rw[aaS hj]at e'⊢;exact Rl.var j r' e'
theorem oo{K:Kx}{m:MSt}(Rl:Rel K α m σ H)(R0:∃m0 σ0,Rel K α m0 σ0 H0)(F:Frm α H0 H)(nd:ao.ads.Nodup)(hn:∀b∈ao.ads,H0 b=none)(g:OwnAt K H ao ds) :
  Rel K (α++[ao]) {m with os:=m.os++[ds]} σ H/\∀np,np≤α.length->Ext np α H0 (α++[ao]) H:=by
 obtain⟨m0,σ0,Rl0⟩:=R0;have pα:∀b∈ao.ads,b∉ads α:=fun b hb=>Rl0.out (hn b hb);have one:ads [ao]=ao.ads:=by simp[ads]
 have ext:∀np,np≤α.length->Ext np α H0 (α++[ao]) H:=fun np hnp=>⟨by rw[List.take_append_of_le_length hnp],F,fun a ha=>by
  rw[iZ,one]at ha;rcases aa2.mp ha with z|z
  .exact .inl z
  .exact .inr (hn a z),fun a ha=>by
  obtain⟨o,q,_⟩:=Rl.mem ha;exact⟨_,q⟩⟩
 refine⟨⟨?_,by simp[Rl.len],fun k a es z1 z2=>?_,Rl.vlen,fun j r' z=>?_,by have:=Rl.npl;show m.np≤(α++[ao]).length;rw[aap];omega,Rl.ebl,Rl0.ebx.trans (ext _ ?_)⟩,ext⟩
 .rw[iZ,one];exact ahz.mpr ⟨Rl.nd,nd,fun x hx y hy e=>pα y hy (e▸hx)⟩
 .have z2':(m.os++[ds])[k]?=some es:=z2
  by_cases hk:k<α.length
  .rw[aaX hk]at z1;rw[aaX (by rw[<-Rl.len];exact hk)]at z2';exact Rl.own k a es z1 z2'
  .rw[aaU (by omega)]at z1;rw[aaU (by rw[<-Rl.len];omega)]at z2';have hk0:k-α.length=0:=by
    have:=(aad.mp z1).1;simp at this;omega
   rw[hk0]at z1;rw[<-Rl.len,hk0]at z2';simp at z1 z2';subst z1;subst z2';exact g
 .obtain⟨v,ev,rv⟩:=Rl.var j r' z;refine⟨v,ev,?_⟩
  cases r' with
  |imm d=>exact rv
  |new _=>exact rv
  |newT _=>exact rv
  |obj k =>
   obtain⟨a,ea,e⟩:=rv;exact⟨a,by rw[aaX (aad.mp ea).1];exact ea,e⟩
  | «at» k p =>
   obtain⟨τ,a,ea,e⟩:=rv;exact⟨τ,a,by rw[aaX (aad.mp ea).1];exact ea,e⟩
 .exact aaz Rl.ebl Rl.npl
theorem rG{K:Kx}{m:MSt}{Q:St->Hp->Prop}{np:Nat}(Rl:Rel K α m σ H)(n:m.np=np)(F:Frm α H0 H)(h:RelR K α H0 H r v)(q:qp i P m r)
  (k:∀α' m' σ' H',P m'->m'.np=np->Rel K α' m' σ' H'->Ext np α H0 α' H'->Q σ' H') (R0:∃m0 σ0,Rel K α m0 σ0 H0):Q (σ.set i (some v)) H:=by
 have up:∀α' m' σ' H',upR P m'->m'.np=np->Rel K α' m' σ' H'->Ext np α H0 α' H'->Q σ' H':=fun α' m' σ' H' q n R x=>by
  rcases q with q|⟨ρ,m2,N,q⟩
  .exact k α' m' σ' H' q n R x
  .obtain⟨α2,R2,x2⟩:=Jl R N;rw[n]at x2;exact k α2 m2 σ' H' q (N.np.trans n) R2 (x.trans x2)
 have npα:np≤α.length:=by rw[<-n];exact Rl.npl
 cases r with
 |imm d=>exact up α _ _ H q n (cA Rl (r:=.imm d) h) (.of (cA (i:=i) Rl (r:=.imm d) h) F)
 |obj j=>exact up α _ _ H q n (cA Rl (r:=.obj j) h) (.of (cA (i:=i) Rl (r:=.obj j) h) F)
 | «at» j p=>exact up α _ _ H q n (cA Rl (r:=.at j p) h) (.of (cA (i:=i) Rl (r:=.at j p) h) F)
 |newT t =>
  obtain⟨τ,p,rfl,el,nd,hn,g⟩:=h;obtain⟨base,ext⟩:=oo Rl R0 F (ao:=.T τ) nd hn g;exact up (α++[.T τ]) _ _ H q n (cA base (r:=.at m.os.length []) ⟨τ,p,by rw[aaU (by rw[Rl.len];exact Io _),<-Rl.len];simp,el,rfl⟩) (ext np npα)
 | new ds =>
  obtain⟨p,xs,rfl,hn,hp,g⟩:=h;have R0':=R0;obtain⟨m0,σ0,Rl0⟩:=R0';have pα:p∉ads α:=Rl0.out hn;rcases q with q|⟨j,e1,e2,e3,q⟩
  .
   obtain⟨base,ext⟩:=oo Rl R0 F (ao:=.L p) (by simp[Ao.ads]) (fun b hb=>by cases aah.mp hb;exact hn) ⟨xs,hp,g⟩;exact up (α++[.L p]) _ _ H q n (cA base (r:=.obj m.os.length) ⟨p,by rw[aaU (by rw[Rl.len];exact Io _),<-Rl.len];simp,rfl⟩) (ext np npα)
  .
   obtain⟨aj,eaj⟩:∃aj,α[j]?=some (.L aj):=by
    obtain⟨v,_,a,ea,_⟩:=Rl.var i _ e1;exact⟨a,ea⟩
   have hj:j<α.length:=(aad.mp eaj).1;have hi:i<m.vs.length:=(aad.mp e1).1;have ndS:(ads (α.set j (.L p))).Nodup:=by
    have z:=(gL α).mp Rl.nd;rw[gL];refine⟨fun ao ha=>?_,abT.mpr fun i1 i2 h1 h2 hlt a ha b hb e=>?_⟩
    .rcases afx ha with y|y
     .exact z.1 ao y
     .subst y;simp[Ao.ads]
    .subst e;rw[abp]at h1 h2;have mem:∀(l:Nat) (hl:l<α.length),a∈(α[l]).ads->a∈ads α:=fun l hl h=>ji (Ge hl) h
     by_cases c1:j=i1
     .subst c1;rw[agG]at ha;rw[ad0 (by omega)]at hb
      cases aah.mp ha
      exact pα (mem i2 h2 hb)
     .rw[ad0 c1]at ha
      by_cases c2:j=i2
      .subst c2;rw[agG]at hb
       cases aah.mp hb
       exact pα (mem i1 h1 ha)
      .rw[ad0 c2]at hb;exact gm Rl.nd (Ge h1) (Ge h2) (aa6 hlt) ha hb
   have ext:Ext np α H0 (α.set j (.L p)) H:=by
    refine⟨?_,F,fun a ha=>?_,fun a ha=>?_⟩
    .apply acw;intro l;rw[aaR,aaR]
     by_cases hl:l<np
     .rw[if_pos hl,if_pos hl,aaS (by omega)]
     .rw[if_neg hl,if_neg hl]
    .obtain⟨l,ao,el,hm⟩:=iq ha
     by_cases c1:j=l
     .subst c1;rw[aaZ hj]at el;cases el
      cases aah.mp hm
      exact .inr hn
     .rw[aaS c1]at el;exact .inl (ji el hm)
    .obtain⟨o,q,_⟩:=Rl.mem ha;exact⟨_,q⟩
   have Rl':Rel K (α.set j (.L p)) {m with os:=m.os.set j ds} (σ.set i (some (.ref p))) H:=by
    refine⟨ndS,by simp[Rl.len],fun k a es z1 z2=>?_,by rw[abp];exact Rl.vlen,fun l r' z=>?_,by rw[abp];exact Rl.npl,Rl.ebl,Rl0.ebx.trans (ext.less (by have:=Rl.ebl;omega))⟩
    .have z2':(m.os.set j ds)[k]?=some es:=z2
     by_cases c1:j=k
     .subst c1;rw[aaZ hj]at z1;rw[aaZ (by rw[<-Rl.len];exact hj)]at z2'
      cases z1;cases z2'
      exact⟨xs,hp,g⟩
     .rw[aaS c1]at z1 z2';exact Rl.own k a es z1 z2'
    .have z':m.vs[l]?=some (some r'):=z
     by_cases hl:i=l
     .subst hl;rw[e1]at z';cases z';exact⟨.ref p,aaZ (by rw[Rl.vlen];exact hi),p,aaZ hj,rfl⟩
     .obtain⟨v,ev,rv⟩:=Rl.var l r' z';refine⟨v,by rw[aaS hl];exact ev,?_⟩
      cases r' with
      |imm d=>exact rv
      |new _=>exact rv
      |newT _=>exact rv
      |obj k =>
       obtain⟨a,ea,e⟩:=rv;refine⟨a,?_,e⟩;rw[aaS]
       .exact ea
       .rintro rfl;exact e3 l (abz hl) z'
      | «at» k p' =>
       obtain⟨τ,a,ea,e⟩:=rv;refine⟨τ,a,?_,e⟩;rw[aaS]
       .exact ea
       .rintro rfl;rw[eaj]at ea;cases ea
   exact k (α.set j (.L p)) _ _ H q n Rl' ext
theorem Om(hN:X.N.Nodup)(hi:X.N[i]?=some x)(hx:Loc X.env.scope x)(he:ME X e we)(hs:abY e (some (.Name x pos')) pos.line X.env=pure false:=by rfl)(hf:X.fn x=true\/X.env.scope.names.lookup x=some .local:=by first|exact .inl rfl|exact .inr rfl|assumption) :
  MS X (.Assign [.Name x pos'] e pos) (wSet i we):=(O9 hN hi hx he hs hf).wk fun D σ H ⟨α,m,De,Rl,hw,k⟩ =>
 ⟨α,m,_,Rl,hw,fun r m' v H' q n Rl' rr F=>rG (Q:=D.nx) Rl' n F rr q k.nx ⟨m,σ,Rl⟩⟩
abbrev WG:=iO->MSt->(MSt->Prop)->Prop
abbrev WGs:=List iO->MSt->(MSt->Prop)->Prop
def tMG(K:Kx)(g:WG):TG:=fun v σ H Q=>∃α m d Kc,Rel K α m σ H/\Den K H d v/\g d m Kc/\∀m' σ',Kc m'->m'.np=m.np->Rel K α m' σ' H->Q σ' H
def tMGs(K:Kx)(g:WGs):TGs:=fun vs σ H Q=>∃α m ds Kc,Rel K α m σ H/\DenAll K H ds vs/\g ds m Kc/\∀m' σ',Kc m'->m'.np=m.np->Rel K α m' σ' H->Q σ' H
theorem PG.wk{X:Cx}{e:Expr}{t t':TG}(h:PG X e t)(k:∀v σ H Q,t' v σ H Q->t v σ H Q):PG X e t':=fun pins s σ H v u Q I r q=>h pins s σ H v u Q I r (k _ _ _ _ q)
theorem PGs.wk{X:Cx}{e:List Expr}{t t':TGs}(h:PGs X e t)(k:∀v σ H Q,t' v σ H Q->t v σ H Q):PGs X e t':=fun pins s σ H v u Q I r q=>h pins s σ H v u Q I r (k _ _ _ _ q)
abbrev MG(X:Cx)(e:Expr)(g:WG):Prop:=PG X e (tMG X.kx g)
abbrev MGs(X:Cx)(es:List Expr)(g:WGs):Prop:=PGs X es (tMGs X.kx g)
def gM(i:Nat):WG:=fun d m K=>K (m.setV i (.imm d))
def GQ:WGs:=fun ds m K=>ds=[]/\K m
def wR(g:WG)(gs:WGs):WGs:=fun ds m K=>match ds with|d::r=>g d m fun m'=>gs r m' K|[]=>False
def Cr(n:Nat)(gs:WGs):WG:=fun d m K=>match d with| .tuple ds=>ds.length=n/\gs ds m K|_=>False
theorem IC(hN:X.N.Nodup)(hi:X.N[i]?=some x)(hx:Loc X.env.scope x)(hf:X.fn x=true\/X.env.scope.names.lookup x=some .local:=by first|exact .inl rfl|exact .inr rfl|assumption):MG X (.Name x pos) (gM i):=(JJ hN hi hx hf).wk fun v σ H Q ⟨α,m,d,Kc,Rl,hd,hw,fin⟩ =>
 fin _ _ hw rfl (cA Rl hd)
theorem JW:MGs X [] GQ:=(Ip (X:=X)).wk fun v σ H Q ⟨α,m,d,Kc,Rl,hd,hw,fin⟩=>by
 obtain⟨rfl,hw⟩:=hw;simp only[DenAll]at hd;exact⟨hd,fin m σ hw rfl Rl⟩
theorem CW{e:Expr}{es:List Expr}(h1:MG X e g)(h2:MGs X es gs)
  (hs:(abM (e::es) X.env).map (·.2)=ada e X.env::(abM es X.env).map (·.2):=by rfl):MGs X (e::es) (wR g gs):=(Bz h1 h2 hs).wk fun v σ H Q ⟨α,m,ds,Kc,Rl,hd,hw,fin⟩=>by
 cases ds with
 |nil=>exact hw.elim
 |cons d r =>
  simp only[DenAll]at hd;obtain⟨x,vr,rfl,h3,h4⟩:=hd;exact⟨x,vr,rfl,α,m,d,_,Rl,h3,hw,fun m' σ' k n Rl'=>⟨α,m',r,_,Rl',h4,k,fun m2 σ2 k2 n2 Rl2=>fin m2 σ2 k2 (n2.trans n) Rl2⟩⟩
theorem Pf{es:List Expr}{k:Nat}(h:MGs X es gs)(hc:X.calm=true:=by rfl)
  (hn:(abM es X.env).length=n:=by rfl) (hst:(abM es X.env).findIdx? (·.1)=none:=by rfl):MG X (.Tuple es k pos) (Cr n gs):=(OL hc h hn hst).wk fun v σ H Q ⟨α,m,d,Kc,Rl,hd,hw,fin⟩=>by
 cases d with
 |tuple ds =>
  simp only[Den]at hd;obtain⟨a,xs,e,f,g⟩:=hd;exact⟨a,xs,e,f,g.length.symm.trans hw.1,α,m,ds,Kc,Rl,g,hw.2,fin⟩
 |none=>exact hw.elim
 |bool _=>exact hw.elim
 |int _=>exact hw.elim
 |str _=>exact hw.elim
 |list _=>exact hw.elim
 |dict _=>exact hw.elim
def e8(P:iO->Prop):R->Prop
 | .imm d=>P d
 |_=>False
theorem gF{K:Kx}{P:iO->Prop}(rr:RelR K α Hb H r v)(h:e8 P r):∃d,r = .imm d/\Den K H d v/\P d:=by
 cases r with
 |imm d=>exact⟨d,rfl,rr,h⟩
 |obj _=>exact h.elim
 |new _=>exact h.elim
 | «at» _ _=>exact h.elim
 |newT _=>exact h.elim
def wAsg(we:WE)(g:WG):WS:=fun D m=>we m fun r m'=>e8 (fun d=>g d m' D.nx) r
theorem N9(he:ME X e we)(hg:MG X tg g)(hs:adc [tg] e pos.line X.env=pure false:=by rfl)(hw:add [tg] e X.env=pure none:=by rfl)
  (h1:(abM [tg] X.env).map (·.2)=[ada tg X.env]:=by rfl):MS X (.Assign [tg] e pos) (wAsg we g):=(Fo he hg hs hw h1).wk fun D σ H ⟨α,m,De,Rl,hw,k⟩=>by
 refine⟨α,m,_,Rl,hw,fun r m' v H' q n Rl' rr F=>?_⟩;obtain⟨d,er,hd,q⟩:=gF rr q;exact⟨α,m',d,_,Rl',hd,q,fun m2 σ2 q2 n2 Rl2=>k.nx α m2 σ2 H' q2 (n2.trans n) Rl2 (.of Rl2 F)⟩
def wPar(i j:Nat)(ws:WA):WS:=fun D m=>ws m fun rs m'=>match rs with|[.imm d1,.imm d2]=>D.nx ((m'.setV i (.imm d1)).setV j (.imm d2))|_=>False
theorem O6{px py pt:Pos}{kt k2 pt2}(hN:X.N.Nodup)(hi:X.N[i]?=some x)(hj:X.N[j]?=some y)(hij:i≠j)
  (hx:X.env.scope.names.lookup x=some .local) (hy:X.env.scope.names.lookup y=some .local) (ha:MA X [a,b] ws)
  (hw:add [.Tuple [.Name x px,.Name y py] kt pt] (.Tuple [a,b] k2 pt2) X.env=pure (some [x,y])) (hc:X.calm=true:=by rfl)
  (hs:adc [.Tuple [.Name x px,.Name y py] kt pt] (.Tuple [a,b] k2 pt2) pos.line X.env=pure false:=by rfl) :
  MS X (.Assign [.Tuple [.Name x px,.Name y py] kt pt] (.Tuple [a,b] k2 pt2) pos) (wPar i j ws):=(Oq hc hN hi hj hij hx hy ha hw hs).wk fun D σ H ⟨α,m,De,Rl,hw,k⟩=>by
 refine⟨α,m,_,Rl,hw,fun rs m' vs H' q n Rl' rr F=>?_⟩;obtain⟨d1,d2,er,q⟩:∃d1 d2,rs=[.imm d1,.imm d2]/\De.nx ((m'.setV i (.imm d1)).setV j (.imm d2)):=by
  split at q
  .exact⟨_,_,rfl,q⟩
  .exact q.elim
 subst er
 cases rr with
 |cons h1 rr =>
  cases rr with
  |cons h2 rr =>
  cases rr;exact⟨_,_,rfl,k.nx α _ _ H' q n (cA (cA Rl' (r:=.imm d1) h1) (r:=.imm d2) h2) (.of Rl' F)⟩
end
structure Src where
 ds:List iO
 own:Option Nat
structure Wks(K:Kd)(J:It)(ds:List iO)(C:Hp->Prop):Prop where
 stop:∀H,C H->J.stop ds.length H
 go:∀i H,i<ds.length->C H->J.go i H
 yld:∀i H x H',i<ds.length->C H->J.yld i H x H'->(∀b o,H b=some o->H' b=some o)/\∃d,ds[i]?=some d/\Den K H' d x
def tj(K:Kd)(α:Al)(H:Hp)(s:Src)(J:It):Prop :=
 match s.own with
 |none=>∃C:Hp->Prop,Wks K J s.ds C/\C H/\∀H1 H2,C H1->Pers H1 H2->C H2
 |some k=>∃a,α[k]?=some (.L a)/\Wks K J s.ds fun H=>∃xs,H a=some (.lst xs)/\DenAll K H s.ds xs
abbrev WI:=MSt->(Src->MSt->Prop)->Prop
def tMI(K:Kx)(w:WI):TI:=fun σ H Rq=>∃α m Kc,Rel K α m σ H/\w m Kc/\∀s m' J H',Kc s m'->m'.np=m.np->Rel K α m' σ H'->Frm α H H'->tj K α H' s J->Rq J H'
theorem PI.wk{t t':TI}(h:PI X tg e t)(k:∀σ H Q,t' σ H Q->t σ H Q):PI X tg e t':=fun pins s σ H Q I q=>h pins s σ H Q I (k _ _ _ q)
abbrev MI(X:Cx)(tg e:Expr)(w:WI):Prop:=PI X tg e (tMI X.kx w)
section
variable {X:Cx}{tg a b c e iter:Expr}{es:List Expr}{wa wb wc we:WE}{ws:WA}{wt:WT}{pos:Pos}{st:Stmt}{rest body body2:List Stmt}{w u:WS}
def iSeq(K:aaj)(tl:TE):TI:=fun σ H Rq=>tl σ H fun x H1=>∃a,x = .ref a/\(((∃xs,SqL K H1 a xs)/\Rq (Itl K a) H1)\/((∃xs,SqT K H1 a xs)/\Rq (Itt K a) H1))
theorem P9{l:Expr}{tl:TE}(hl:PE X l tl):PI X tg l (iSeq X.K tl):=by
 intro pins s σ H Rq I h;refine thn (hl pins s σ H _ I h) fun v s1 ⟨x,H1,I1,r1,q1⟩=>?_;obtain⟨a,e,q⟩:=q1;subst e;cases r1;rcases q with⟨⟨xs,hq⟩,q⟩|⟨⟨xs,hq⟩,q⟩
 .obtain⟨its,rv,p,hz⟩:=I1.list hq;refine wpAny_pyIter_list p.isList ?_;refine⟨s1.heap.objs.size,[s1.heap.objs.size],_,_,H1,rfl,I1.kept (t':=s1.toks) fun b o e=>OR _ e,AB a _,⟨_,aar _ rfl,rfl,rfl⟩,fun b hb=>?_,q⟩;have e:b=s1.heap.objs.size:=by simpa using hb
  subst e;exact I1.fpOk (Io _) (I1.hok.fresh (Io _))
 .obtain⟨its,rv,p,hz⟩:=I1.tuple hq;refine wpAny_pyIter_tuple (show s1.heap.IsTuple a its.toArray from p) ?_;refine⟨s1.heap.objs.size,[s1.heap.objs.size],_,_,H1,rfl,I1.kept (t':=s1.toks) fun b o e=>OR _ e,vG a _,⟨_,aar _ rfl,rfl,rfl⟩,fun b hb=>?_,q⟩;have e:b=s1.heap.objs.size:=by simpa using hb
  subst e;exact I1.fpOk (Io _) (I1.hok.fresh (Io _))
def srcR(m:MSt)(K:Src->MSt->Prop):R->Prop
 | .imm (.list ds)=>K ⟨ds,none⟩ m
 | .imm (.tuple ds)=>K ⟨ds,none⟩ m
 | .obj k=>∃ds,m.os[k]?=some ds/\K ⟨ds,some k⟩ m
 |_=>False
def IM(we:WE):WI:=fun m K=>we m fun r m'=>srcR m' K r
theorem wks_list{a:Addr}:Wks K (Itl K a) ds fun H=>∃xs,SqL K H a xs/\DenAll K H ds xs where
 stop:=fun H ⟨xs,q,g⟩=>⟨xs,q,by rw[g.length];exact Io _⟩
 go:=fun i H hi ⟨xs,q,g⟩=>⟨xs,xs[i]'(by rw[<-g.length];exact hi),q,Ge _⟩
 yld:=fun i H x H' hi ⟨xs,q,g⟩ y=>by
  obtain⟨e,y⟩:=y;subst e;obtain⟨d,h1,h2⟩:=g.get2 (y xs q);exact⟨fun _ _ z=>z,d,h1,h2⟩
theorem GU{a:Addr}:Wks K (Itt K a) ds fun H=>∃xs,SqT K H a xs/\DenAll K H ds xs where
 stop:=fun H ⟨xs,q,g⟩=>⟨xs,q,by rw[g.length];exact Io _⟩
 go:=fun i H hi ⟨xs,q,g⟩=>⟨xs,xs[i]'(by rw[<-g.length];exact hi),q,Ge _⟩
 yld:=fun i H x H' hi ⟨xs,q,g⟩ y=>by
  obtain⟨e,y⟩:=y;subst e;obtain⟨d,h1,h2⟩:=g.get2 (y xs q);exact⟨fun _ _ z=>z,d,h1,h2⟩
theorem Wks.imp{C C':Hp->Prop}(h:Wks K J ds C)(k:∀H,C' H->C H):Wks K J ds C':=⟨fun H c=>h.stop H (k H c),fun i H hi c=>h.go i H hi (k H c),fun i H x H' hi c=>h.yld i H x H' hi (k H c)⟩
theorem OM(he:ME X e we):MI X tg e (IM we):=(P9 (tg:=tg) he).wk fun σ H Rq ⟨α,m,Kc,Rl,hw,fin⟩=>by
 refine⟨α,m,_,Rl,hw,fun r m' v H' k n Rl' rr F=>?_⟩
 cases r with
 |new _=>exact k.elim
 | «at» _ _=>exact k.elim
 |newT _=>exact k.elim
 |obj j =>
  obtain⟨ds,e1,k⟩:=k;obtain⟨p,ep,rfl⟩:=rr;obtain⟨xs,q,g⟩:=Rl'.own j _ ds ep e1;exact⟨p,rfl,.inl ⟨⟨xs,SqL.of q⟩,fin _ m' _ H' k n Rl' F ⟨p,ep,wks_list.imp fun H ⟨xs,q,g⟩=>⟨xs,SqL.of q,g⟩⟩⟩⟩
 | imm d =>
  cases d with
  |list ds =>
   have h:Den X.kx H' (.list ds) v:=rr;simp only[Den]at h;obtain⟨p,xs,rfl,f,g⟩:=h;refine⟨p,rfl,.inl ⟨⟨xs,f.sq⟩,fin _ m' _ H' k n Rl' F ⟨fun H=>∃xs,FzL X.kx H p xs/\DenAll X.kx H ds xs,wks_list.imp fun H ⟨xs,q,g⟩=>⟨xs,q.sq,g⟩,⟨xs,f,g⟩,fun H1 H2 ⟨xs,q,g⟩ pe=>⟨xs,q.mono pe,g.mono pe⟩⟩⟩⟩
  |tuple ds =>
   have h:Den X.kx H' (.tuple ds) v:=rr;simp only[Den]at h;obtain⟨p,xs,rfl,f,g⟩:=h;refine⟨p,rfl,.inr ⟨⟨xs,f⟩,fin _ m' _ H' k n Rl' F ⟨fun H=>∃xs,SqT X.kx H p xs/\DenAll X.kx H ds xs,GU,⟨xs,f,g⟩,fun H1 H2 ⟨xs,q,g⟩ pe=>⟨xs,q.mono pe,g.mono pe⟩⟩⟩⟩
  |none=>exact k.elim
  |bool _=>exact k.elim
  |int _=>exact k.elim
  |str _=>exact k.elim
  |dict _=>exact k.elim
def gH(lo:Int)(n:Nat):List iO:=(aaP n).map fun(i:Nat)=>abN (lo+(i:Int))
theorem aw(lo:Int)(n:Nat):(gH lo n).length=n:=by simp[gH]
theorem iW{lo:Int}(h:i<n):(gH lo n)[i]?=some (.int (lo+(i:Int))):=by simp[gH,h]
theorem Ak{lo:Int}:Wks K (Itr lo n) (gH lo n) fun _=>True where
 stop:=fun H _=>by rw[aw];exact Io _
 go:=fun i H hi _=>by rw[aw]at hi;exact hi
 yld:=fun i H x H' hi _ y=>by
  rw[aw]at hi;obtain⟨e,y⟩:=y;subst e y;exact⟨fun _ _ z=>z,_,iW hi,mF _⟩
def zg(ws:WA):WI:=fun m K=>ws m fun rs m'=>match rs with|[.imm (.int j)]=>-(2^62)≤j/\j<2^62/\K ⟨gH 0 j.toNat,none⟩ m'|_=>False
theorem aM{i:Int}(h:Den K H (.int i) v):v = .int i:=by simpa only[Den]using h
theorem Am(hg:Gl X "range")(hm:X.mg "range" = none)(ha:MA X [a] ws)(hs:aao [a] X.env=[(false,eval a X.env)]:=by first|exact cx rfl|rfl):MI X tg (.Call (.Name "range" p) [a] [] pos) (zg ws):=(zW (tg:=tg) hg hm ha hs).wk fun σ H Rq ⟨α,m,Kc,Rl,hw,fin⟩=>by
 refine⟨α,m,_,Rl,hw,fun rs m' vs H' k n Rl' rr F=>?_⟩;obtain⟨j,er,k1,k2,kf⟩:∃j:Int,rs=[.imm (.int j)]/\-(2^62)≤j/\j<2^62/\Kc ⟨gH 0 j.toNat,none⟩ m':=by
  split at k
  .exact⟨_,rfl,k⟩
  .exact k.elim
 subst er
 cases rr with
 |cons h1 rr =>
  cases rr;have e:=aM (show Den X.kx H' (.int j) _ from h1);subst e;exact⟨j,rfl,k1,k2,fin _ m' _ H' kf n Rl' F ⟨fun _=>True,Ak,trivial,fun _ _ _ _=>trivial⟩⟩
def MSt.setN(m:MSt)(n:Nat):MSt:={m with np:=n}
def Src.np(s:Src)(m:MSt):Nat:=match s.own with|none=>m.np|some k=>max m.np (k+1)
def Src.ok(s:Src)(m:MSt):Prop:=match s.own with|none=>True|some k=>m.os[k]?=some s.ds
def iz(s:Src)(g:WG)(w:WS):WS:=fun D m1=>∃P:Nat->MSt->Prop,P 0 (m1.setN (s.np m1)) /\
 (∀(i:Nat) (d:iO) (m:MSt),s.ds[i]?=some d->m.np=s.np m1->P i m->s.ok m/\g d m fun m2=>w {nx:=P (i+1),ct:=P (i+1),bk:=fun m'=>D.nx (m'.setN m1.np),rt:=fun r m'=>D.rt r (m'.setN m1.np)} m2) /\
 ∀m,m.np=s.np m1->P s.ds.length m->s.ok m/\D.nx (m.setN m1.np)
def wFor(wi:WI)(g:WG)(w:WS):WS:=fun D m=>wi m fun s m1=>iz s g w D m1
theorem Rel.setN{K:Kx}{m:MSt}(R:Rel K α m σ H)(h:n≤α.length)(he:K.eb.np≤n):Rel K α (m.setN n) σ H:=⟨R.nd,R.len,R.own,R.vlen,R.var,h,he,R.ebx⟩
theorem sF{K:Kx}{s:Src}{w:WS}(Rl:Rel K α m1 σ H)(hJ:tj K α H s J)(h:iz s g w De m1)(k:EndsOk K m1.np α H De D)
  (hb:∀α' m' σ' H' De' D',α'.take (s.np m1)=α.take (s.np m1)->m'.np=s.np m1->Rel K α' m' σ' H'->w De' m'->EndsOk K m'.np α' H' De' D'->tb D' σ' H'):mT J (tMG K g) tb D σ H:=by
 obtain⟨P,p0,turn,fin⟩:=h;have npk:s.np m1≤α.length:=by
  unfold Src.np;unfold tj at hJ
  cases e:s.own with
  |none=>exact Rl.npl
  |some j =>
   rw[e]at hJ;obtain⟨a,ea,_⟩:=hJ;have:=(aad.mp ea).1;have:=Rl.npl;show max m1.np (j+1)≤α.length;omega
 have nple:m1.np≤s.np m1:=by
  unfold Src.np;split
  .exact Io _
  .exact ae3 _ _
 obtain⟨C,wk,hC⟩:∃C:Hp->Prop,Wks K J s.ds C/\∀α' m' σ' H',Rel K α' m' σ' H'->Ext (s.np m1) α H α' H'->s.ok m'->C H':=by
  unfold tj at hJ
  cases e:s.own with
  |none =>
   rw[e]at hJ;obtain⟨C,wk,c0,cm⟩:=hJ;exact⟨C,wk,fun α' m' σ' H' _ x _=>cm H H' c0 (Rl.pers x.frm)⟩
  | some j =>
   rw[e]at hJ;obtain⟨a,ea,wk⟩:=hJ;refine⟨_,wk,fun α' m' σ' H' R' x ok=>?_⟩;have hj:j<s.np m1:=by unfold Src.np;rw[e];show j<max _ _;omega
   have ea':α'[j]?=some (.L a):=by
    have:=congrArg (fun l=>l[j]?) x.pre;simp only[aaR,if_pos hj]at this;rw[this];exact ea
   unfold Src.ok at ok;rw[e]at ok;exact R'.own j _ s.ds ea' ok
 have back:∀{α':Al}{m':MSt}{σ':St}{H':Hp},Rel K α' m' σ' H'->m'.np=s.np m1->Ext (s.np m1) α H α' H'->Rel K α' (m'.setN m1.np) σ' H':=fun R' n x=>R'.setN (by
  have:=R'.npl;rw[n]at this;omega) Rl.ebl
 refine⟨fun i n σ' H'=>n=s.ds.length-i/\i≤s.ds.length/\∃α' m',P i m'/\m'.np=s.np m1/\Rel K α' m' σ' H'/\Ext (s.np m1) α H α' H',⟨s.ds.length,by simp,acL _,α,_,p0,rfl,Rl.setN npk (aaz Rl.ebl nple),.of Rl (Frm.refl _ _)⟩,?_⟩;rintro i n σ' H' ⟨rfl,hi,α',m',p,hn,R',x⟩
 by_cases hlt:i<s.ds.length
 .have hd:s.ds[i]?=some s.ds[i]:=Ge hlt;obtain⟨ok,hg⟩:=turn i _ m' hd hn p;have c:=hC α' m' σ' H' R' x ok;refine .inr ⟨wk.go i H' hlt c,fun σ2 H2=>∃α2 m2,P (i+1) m2/\m2.np=s.np m1/\Rel K α2 m2 σ2 H2/\Ext (s.np m1) α H α2 H2,fun σ2 H2 h2=>⟨s.ds.length-(i+1),by omega,rfl,hlt,h2⟩,fun v H2 y=>?_⟩;obtain⟨grow,d,e1,e2⟩:=wk.yld i H' v H2 hlt c y;rw[hd]at e1;cases e1;have F2:Frm α' H' H2:=fun b o z _=>grow b o z;have R2:Rel K α' m' σ' H2:=R'.at (R'.pers F2) (fun b hb=>by
   obtain⟨ys,z,_⟩:=R'.mem hb;rw[z];exact grow b _ z) F2
  have x2:Ext (s.np m1) α H α' H2:=x.trans (.of R2 F2);refine⟨α',m',_,_,R2,e2,hg,fun m3 σ3 q3 n3 R3=>hb α' m3 σ3 H2 _ _ x2.pre (n3.trans hn) R3 q3 ?_⟩;have n3':m3.np=s.np m1:=n3.trans hn;have x3:Ext m3.np α H α' H2:=by rw[n3'];exact x2
  refine⟨fun α4 m4 σ4 H4 q4 n4 R4 x4=>⟨α4,m4,q4,n4.trans n3',R4,?_⟩,fun r α4 m4 σ4 v4 H4 q4 n4 R4 rr x4=>?_,fun α4 m4 σ4 H4 q4 n4 R4 x4=>?_,fun α4 m4 σ4 H4 q4 n4 R4 x4=>⟨α4,m4,q4,n4.trans n3',R4,?_⟩⟩
  .rw[<-n3'];exact x3.trans x4
  .have x5:Ext (s.np m1) α H α4 H4:=by rw[<-n3'];exact x3.trans x4
   exact k.rt r α4 (m4.setN m1.np) σ4 v4 H4 q4 rfl (back R4 (n4.trans n3') x5) (rr.ext x3) (x5.less nple)
  .have x5:Ext (s.np m1) α H α4 H4:=by rw[<-n3'];exact x3.trans x4
   exact k.nx α4 (m4.setN m1.np) σ4 H4 q4 rfl (back R4 (n4.trans n3') x5) (x5.less nple)
  .rw[<-n3'];exact x3.trans x4
 .have e:i=s.ds.length:=by omega
  subst e;obtain⟨ok,q⟩:=fin m' hn p;exact .inl ⟨wk.stop H' (hC α' m' σ' H' R' x ok),k.nx α' (m'.setN m1.np) σ' H' q rfl (back R' hn x) (x.less nple)⟩
theorem PH(hi:MI X tg iter wi)(hg:MG X tg g)(hb:MSs X body w)(hp:afU (model X.prog X.w) X.A X.env X.xe)(hc:X.calm=true:=by rfl)
  (hs:∀x,aaT iter X.env x=pure x:=by intro _;rfl):MS X (.For tg iter body [] pos) (wFor wi g w):=(K9 hp hc hi hg hb hs).wk fun D σ H ⟨α,m,De,Rl,hw,k⟩ =>
 ⟨α,m,_,Rl,hw,fun s m' J H' q n Rl' F hJ=>sF Rl' hJ q (by rw[n];exact k.ext (.of Rl' F)) fun α' m' σ' H' De' D' _ _ R' h' k'=>⟨α',m',De',R',h',k'⟩⟩
def xT(t:WT)(w:WS):WS:=fun D m0=>∃P:Nat->MSt->Prop,(∃n,P n m0)/\∀n m,m.np=m0.np->P n m->t m fun c m'=>if c=true then w {D with nx:=fun m2=>∃n',n'<n/\P n' m2,ct:=fun m2=>∃n',n'<n/\P n' m2,bk:=D.nx} m' else D.nx m'
theorem CV(ht:MT X t wt)(hb:MSs X body w)(hp:afU (model X.prog X.w) X.A X.env X.xe):MS X (.While t body [] pos) (xT wt w):=(BQ hp ht hb).wk fun D σ H ⟨α,m,De,Rl,⟨P,⟨n0,p0⟩,turn⟩,k⟩=>by
 refine⟨fun n σ' H'=>∃α' m',P n m'/\m'.np=m.np/\Rel X.kx α' m' σ' H'/\Ext m.np α H α' H',⟨n0,α,m,p0,rfl,Rl,.of Rl (Frm.refl _ _)⟩,?_⟩;rintro n σ1 H1 ⟨α1,m1,p1,n1,R1,x1⟩;refine⟨α1,m1,_,R1,turn n m1 n1 p1,fun bb m2 H2 q n2 R2 F2=>?_⟩;have x2:Ext m.np α H α1 H2:=x1.trans (.of R2 F2);have n2':m2.np=m.np:=n2.trans n1
 cases bb with
 |true =>
  rw[if_pos rfl]at q;refine iteT ⟨fun σ3 H3=>∃n',n'<n/\∃α' m',P n' m'/\m'.np=m.np/\Rel X.kx α' m' σ3 H3/\Ext m.np α H α' H3,fun σ3 H3 ⟨n',hl,z⟩=>⟨n',hl,z⟩,α1,m2,_,R2,q,?_⟩;rw[n2'];exact⟨fun α' m' σ' H' ⟨n',hl,q⟩ nn R' y=>⟨n',hl,α',m',q,nn,R',x2.trans y⟩,fun r α' m' σ' v H' q nn R' rr y=>k.rt r α' m' σ' v H' q nn R' (rr.ext x2) (x2.trans y),fun α' m' σ' H' q nn R' y=>k.nx α' m' σ' H' q nn R' (x2.trans y),fun α' m' σ' H' ⟨n',hl,q⟩ nn R' y=>⟨n',hl,α',m',q,nn,R',x2.trans y⟩⟩
 |false =>
  rw[if_neg aaB]at q;exact iteF (k.nx α1 m2 σ1 H2 q n2' R2 x2)
end
section
variable {K:Kx}{α:Al}{m:MSt}{σ:St}{H:Hp}
theorem Rel.setW(R:Rel K α m σ H)(ha:α[q]?=some ao)(pe:Pers H H')(F:∀b,b∉ao.ads->H' b=H b)(g:OwnAt K H' ao ds'):Rel K α {m with os:=m.os.set q ds' } σ H'/\Frm α H H':=by
 have Fα:Frm α H H':=fun b o e nb=>by rw[F b fun z=>nb (ji ha z)];exact e
 have own':∀(k:Nat) (a:Ao) (es:List iO),α[k]?=some a->(m.os.set q ds')[k]?=some es->OwnAt K H' a es:=fun k a es z1 z2'=>by
  by_cases c:q=k
  .subst c;rw[ha]at z1;cases z1;rw[aaZ (by rw[<-R.len];exact(aad.mp ha).1)]at z2';cases z2';exact g
  .rw[aaS c]at z2';exact(R.own k a es z1 z2').mono pe fun b hb=>F b fun z=>gm R.nd ha z1 c z hb
 refine⟨⟨R.nd,by simp[R.len],own',R.vlen,fun i r h=>?_,R.npl,R.ebl,R.ebx.trans ⟨rfl,Fα,fun _ h=>.inl h,fun a ha=>?_⟩⟩,Fα⟩
 .obtain⟨v,ev,rv⟩:=R.var i r h;refine⟨v,ev,?_⟩
  cases r with
  |imm d=>exact Den.mono pe rv
  |obj k=>exact rv
  | «at» k p=>exact rv
  |new ds=>exact rv
  |newT t=>exact rv
 .obtain⟨k,ao,e1,hm⟩:=iq ha;have hk:k<(m.os.set q ds').length:=by rw[abp,<-R.len];exact(aad.mp e1).1
  obtain⟨o,q,_⟩:=(own' k ao _ e1 (Ge hk)).mem hm;exact⟨o,q⟩
theorem Rel.setO{xs':List V}(R:Rel K α m σ H)(ha:α[q]?=some (.L l))(hl:H l=some (.lst xs))(g:DenAll K H ds' xs'):Rel K α {m with os:=m.os.set q ds' } σ (upd H l (.lst xs'))/\Frm α H (upd H l (.lst xs')):=by
 have pe:Pers H (upd H l (.lst xs')):=uz hl;exact R.setW ha pe (fun b hb=>am fun e=>hb (aah.mpr e)) ⟨xs',av,g.mono pe⟩
end
def vv(own:List Str)(ps:List Nat)(vs:List (Option R)):List (Option R):=own.map (fun _=>none)++ps.map fun i=>(vs[i]?).join
def jp(own:List Str)(ps:List Nat)(m:MSt):MSt:=⟨vv own ps m.vs,m.os++[[]],m.os.length+1⟩
def wIfT(tt:WT)(w:WS):WS:=fun D m=>tt m fun b m'=>if b=true then w D m' else D.nx m'
def vX(q:Nat)(we:WE):WS:=fun D m=>we m fun r m'=>e8 (fun d=>∃ds,m'.os[q]?=some ds/\ds.length<aam/\D.nx {m' with os:=m'.os.set q (ds++[d])}) r
def lz(wi:WI)(own:List Str)(ps:List Nat)(g:WG)(tt:WT)(we:WE):WE:=fun m K=>wi m fun s m1 =>
 iz s g (wIfT tt (vX m1.os.length we)) {nx:=fun m'=>K (.new (m'.os.getD m1.os.length [])) {m1 with os:=m'.os.take m1.os.length},rt:=fun _ _=>False} (jp own ps m1)
def vi(wi:WI)(own:List Str)(ps:List Nat)(g:WG)(tt:WT)(wi2:WI)(g2:WG)(tt2:WT)(we:WE):WE:=fun m K=>wi m fun s m1 =>
 iz s g (wIfT tt fun D m2=>wi2 m2 fun s2 m3=>iz s2 g2 (wIfT tt2 (vX m1.os.length we)) D m3) {nx:=fun m'=>K (.new (m'.os.getD m1.os.length [])) {m1 with os:=m'.os.take m1.os.length},rt:=fun _ _=>False} (jp own ps m1)
def sw:WT:=fun m K=>K true m
section
variable {K:Kx}
theorem xk{m:MSt}(ha:α[q]?=some (.L l))(Rl:Rel K α m σ H)(h:vX q we De m)(k:EndsOk K m.np α H De D):oY l (tM K we) D σ H:=by
 refine⟨α,m,_,Rl,h,fun r m' v H' kk n R' rr F=>?_⟩;obtain⟨d,er,hd,ds,e1,hz,kk⟩:=gF rr kk;obtain⟨xs,hx,g⟩:=R'.own q _ ds ha e1;obtain⟨R2,F2⟩:=R'.setO ha hx (g.append (DenAll.cons hd DenAll.nil));exact⟨xs,hx,by rw[<-g.length];exact hz,k.nx α _ σ _ kk n R2 (.of R2 (F.trans F2))⟩
theorem yd{m:MSt}(Rl:Rel K α m σ H)(h:wIfT tt w De m)(k:EndsOk K m.np α H De D)
  (hb:∀m' H',m'.np=m.np->Rel K α m' σ H'->w De m'->EndsOk K m'.np α H' De D->tb D σ H'):tIfT (tMT K tt) tb D σ H:=by
 refine⟨α,m,_,Rl,h,fun bb m' H' q n R' F=>?_⟩;have k':EndsOk K m'.np α H' De D:=by rw[n];exact k.ext (.of R' F)
 cases bb with
 |true=>rw[if_pos rfl]at q;exact iteT (hb m' H' n R' q k')
 |false=>rw[if_neg aaB]at q;exact iteF (k'.nx α m' σ H' q rfl R' (.of R' (Frm.refl _ _)))
theorem zr{ps:List Nat}{s:Src}{m:MSt}{Kc:R->MSt->Prop}(Rl:Rel K α m σ H)(n1:m1.np=m.np)(Rl1:Rel K α m1 σ H1)(F1:Frm α H H1)(hJ:tj K α H1 s J)(hl:H1 l=none)
  (h:iz s g w {nx:=fun m'=>Kc (.new (m'.os.getD m1.os.length [])) {m1 with os:=m'.os.take m1.os.length},rt:=fun _ _=>False} (jp own ps m1))
  (fin:∀r m' v H',Kc r m'->m'.np=m.np->Rel K α m' σ H'->RelR K α H H' r v->Frm α H H'->Q v H')
  (hb:∀α' m' σ' H' De' D',α'[m1.os.length]?=some (.L l)->m1.os.length<m'.np->Rel K α' m' σ' H'->w De' m'->EndsOk K m'.np α' H' De' D'->tb D' σ' H') :
  mT J (tMG K g) tb {nx:=fun _ H'=>Q (.ref l) H',rt:=fun _ _=>False} (gC own ps σ) (upd H1 l (.lst [])):=by
 have pα:l∉ads α:=Rl1.out hl;have pe:Pers H1 (upd H1 l (.lst [])):=bu (.inl hl);have hlen:α.length=m1.os.length:=Rl1.len;have at0:(α++[.L l])[m1.os.length]?=some (.L l):=by rw[aaU (by omega),<-hlen];simp
 have Rl1':Rel K α m1 σ (upd H1 l (.lst [])):=Rl1.lay hl;obtain⟨Rm,extm⟩:=oo (ao:=.L l) (ds:=[]) Rl1' ⟨m1,σ,Rl1⟩ (cC hl) (by simp[Ao.ads]) (fun b hb=>by cases aah.mp hb;exact hl) ⟨[],av,DenAll.nil⟩;have R0:Rel K (α++[.L l]) (jp own ps m1) (gC own ps σ) (upd H1 l (.lst [])):=by
  refine⟨Rm.nd,by simp[jp,hlen],Rm.own,by simp[gC,jp,vv],fun i r z=>?_,by simp[jp,hlen],by have:=Rl1.ebl;have:=Rl1.npl;show K.eb.np≤m1.os.length+1;omega,Rm.ebx⟩;have z':(vv own ps m1.vs)[i]?=some (some r):=z;unfold vv at z'
  by_cases hi:i<own.length
  .rw[aaX (by simpa using hi),aak]at z'
   cases q:own[i]? with
   |none=>rw[q]at z';cases z'
   |some y=>rw[q]at z';cases z'
  .rw[aaU (by simpa using hi),oR,aak]at z'
   cases q:ps[i-own.length]? with
   |none=>rw[q]at z';cases z'
   | some p =>
    rw[q]at z';have z2:(m1.vs[p]?).join=some r:=aau z';have hv:m1.vs[p]?=some (some r):=by
     cases y:m1.vs[p]? with
     |none=>rw[y]at z2;cases z2
     |some y'=>rw[y]at z2;cases y' with
      |none=>cases z2
      |some y'=>cases z2;rfl
    obtain⟨v,ev,rv⟩:=Rm.var p r hv;refine⟨v,?_,rv⟩;unfold gC;rw[aaU (by simpa using hi),oR,aak,q];show some ((σ[p]?).join)=some (some v);rw[ev];rfl
 have hJ':tj K (α++[.L l]) (upd H1 l (.lst [])) s J:=by
  unfold tj at hJ⊢
  cases e:s.own with
  |none =>
   rw[e]at hJ;obtain⟨C,wk,c0,cm⟩:=hJ;exact⟨C,wk,cm _ _ c0 pe,cm⟩
  |some j =>
   rw[e]at hJ;obtain⟨a,ea,wk⟩:=hJ;exact⟨a,by rw[aaX (aad.mp ea).1];exact ea,wk⟩
 have npq:m1.os.length<s.np (jp own ps m1):=by
  unfold Src.np;split
  .exact abQ _
  .exact aaA (abQ _) (ae3 _ _)
 refine sF R0 hJ' h ⟨fun α' m' σ' H' q n R' x=>?_,fun _ _ _ _ _ _ z=>z.elim,fun _ _ _ _ z=>z.elim,fun _ _ _ _ z=>z.elim⟩ fun α' m' σ' H' De' D' hp hnp R' h' k'=>hb α' m' σ' H' De' D' ?_ (by rw[hnp];exact npq) R' h' k'
 .
  have n':m'.np=m1.os.length+1:=n;have x':Ext (m1.os.length+1) (α++[.L l]) (upd H1 l (.lst [])) α' H':=x;have F':Frm α H1 H':=fun b o e nb=>by
   have hbl:b≠l:=bh e hl;refine x'.frm b o (by rw[am hbl];exact e) fun z=>?_;rw[iZ]at z;rcases aa2.mp z with z|z
   .exact nb z
   .exact hbl (by simpa[ads,Ao.ads]using z)
  have pe':Pers H1 H':=Rl1.pers F';have same:∀k,k<m1.os.length+1->α'[k]?=(α++[.L l])[k]?:=fun k hk=>by
   have:=congrArg (fun z=>z[k]?) x'.pre;simp only[aaR,if_pos hk]at this;exact this
  have hlen':m1.os.length+1≤m'.os.length:=by
   have:=R'.npl;rw[n',R'.len]at this;exact this
  have hq:m1.os.length<m'.os.length:=by omega
  have eq1:m'.os[m1.os.length]?=some (m'.os.getD m1.os.length []):=by
   rw[aax,Ge hq];rfl
  obtain⟨xs,y1,y2⟩:=R'.own m1.os.length (.L l) _ (by rw[same _ (abQ _)];exact at0) eq1;have own':∀(k:Nat) (a:Ao) (es:List iO),α[k]?=some a->(m'.os.take m1.os.length)[k]?=some es->OwnAt K H' a es:=fun k a es z1 z2'=>by
   rw[aaR]at z2';have hk:k<m1.os.length:=by rw[<-hlen];exact(aad.mp z1).1
   rw[if_pos hk]at z2';exact R'.own k a es (by rw[same k (by omega),aaX (by omega)];exact z1) z2'
  have tl:(m'.os.take m1.os.length).length=α.length:=by rw[aaJ];omega
  have old':Ext K.eb.np α H1 α H':=⟨rfl,F',fun _ h=>.inl h,fun a ha=>by
   obtain⟨k,ao,e1,hm⟩:=iq ha;have hk:k<(m'.os.take m1.os.length).length:=by rw[tl];exact(aad.mp e1).1
   obtain⟨o,q,_⟩:=(own' k ao _ e1 (Ge hk)).mem hm;exact⟨o,q⟩⟩
  refine fin _ _ (.ref l) H' q n1 ⟨Rl1.nd,tl.symm,own',Rl1.vlen,fun i r z=>?_,Rl1.npl,Rl1.ebl,Rl1.ebx.trans old'⟩ ?_ (F1.trans F')
  .obtain⟨v,ev,rv⟩:=Rl1.var i r z;refine⟨v,ev,?_⟩
   cases r with
   |imm d=>exact Den.mono pe' rv
   |obj k=>exact rv
   | «at» k p=>exact rv
   |new ds=>exact rv
   |newT t=>exact rv
  .refine⟨l,xs,rfl,?_,y1,y2⟩
   cases z:H l with
   |none=>rfl
   |some o =>
    have:=F1 l o z pα;rw[hl]at this;cases this
 .have:=congrArg (fun z=>z[m1.os.length]?) hp;simp only[aaR,if_pos npq]at this;rw[this];exact at0
end
section
variable {X:Cx}{scope sc:Scope}{own fr:List Str}{ps:List Nat}{elt tg iter tg2 iter2:Expr}{ifs ifs2:List Expr}{pos spos py:Pos}{wi wi2:WI}{g g2:WG}{tt tt2:WT}{we:WE}
theorem vk(h:tM X.kx (lz wi own ps g tt we) σ H Q):wZ (tMI X.kx wi) own ps (tl1 (tMG X.kx g) (tMT X.kx tt) (tM X.kx we)) σ H Q:=by
 obtain⟨α,m,Kc,Rl,hw,fin⟩:=h;refine⟨α,m,_,Rl,hw,fun s m1 J H1 k n1 Rl1 F1 hJ l hl=>?_⟩;exact zr Rl n1 Rl1 F1 hJ hl k fin fun α' m' σ' H' De' D' ha hnp R' h' k'=>yd R' h' k' fun m2 H2 n2 R2 h2 k2=>xk ha R2 h2 k2
theorem BO(h:tM X.kx (vi wi own ps g tt wi2 g2 tt2 we) σ H Q):wZ (tMI X.kx wi) own ps (tl2 (tMG X.kx g) (tMT X.kx tt) (tMI X.kx wi2) (tMG X.kx g2) (tMT X.kx tt2) (tM X.kx we)) σ H Q:=by
 obtain⟨α,m,Kc,Rl,hw,fin⟩:=h;refine⟨α,m,_,Rl,hw,fun s m1 J H1 k n1 Rl1 F1 hJ l hl=>?_⟩;refine zr Rl n1 Rl1 F1 hJ hl k fin fun α' m' σ' H' De' D' ha hnp R' h' k'=>yd R' h' k' fun m2 H2 n2 R2 h2 k2=>?_;refine⟨α',m2,_,R2,h2,fun s2 m3 J2 H3 q3 n3 R3 F3 hJ2=>?_⟩;have hq:m1.os.length<s2.np m3:=by
  have:m1.os.length<m3.np:=by rw[n3,n2];exact hnp
  unfold Src.np;split
  .exact this
  .exact aaA this (ae3 _ _)
 refine sF R3 hJ2 q3 (by rw[n3];exact k2.ext (.of R3 F3)) fun α4 m4 σ4 H4 De4 D4 hp4 hn4 R4 h4 k4=>yd R4 h4 k4 fun m5 H5 n5 R5 h5 k5=>xk ?_ R5 h5 k5;have:=congrArg (fun z=>z[m1.os.length]?) hp4;simp only[aaR,if_pos hq]at this;rw[this];exact ha
theorem Ca(S:bZ own fr scope sc)(hi:MI X tg iter wi)(hg:∀cl s H C ex,MG (aI X scope cl (own++fr) s H C ex) tg g)(ht:∀cl s H C ex,PTs (aI X scope cl (own++fr) s H C ex) ifs (tMT X.kx tt))
  (he:∀cl s H C ex,ME (aI X scope cl (own++fr) s H C ex) elt we) (hsc:X.env.scope=sc:=by rfl) (hps:ps.map (fun i=>X.N[i]?)=fr.map some:=by rfl) (hc:X.calm=true:=by rfl) (hs:∀x,aaT iter X.env x=pure x:=by intro _;rfl) :
  ME X (.ListComp elt [⟨tg,iter,ifs,0⟩] scope pos) (lz wi own ps g tt we):=(Dt S hi hg ht he hsc hps hc hs).wk fun _ _ _ h=>vk h
theorem JO:PTs X [] (tMT X.kx sw):=fun pins s σ H Q I ⟨α,m,Kc,Rl,hw,fin⟩=>Gq pins s σ H Q I (fin true m H hw rfl Rl (Frm.refl _ _))
theorem IW{t:WT}(h:MT X c t):PTs X [c] (tMT X.kx t):=J4 h
theorem Du(S:bZ own fr scope sc)(hN:X.N.Nodup)(hy:X.N[i]?=some y)(hlc:X.env.scope.names.lookup y=some .local)(hi:MI X tg iter wi)(hg:∀cl s H C ex,MG (aI X scope cl (own++fr) s H C ex) tg g)(ht:∀cl s H C ex,PTs (aI X scope cl (own++fr) s H C ex) ifs (tMT X.kx tt))
  (he:∀cl s H C ex,ME (aI X scope cl (own++fr) s H C ex) elt we) (hsw:abY (.ListComp elt [⟨tg,iter,ifs,0⟩] scope pos) (some (.Name y py)) spos.line X.env=pure true:=by rfl)
  (hsc:X.env.scope=sc:=by rfl) (hps:ps.map (fun i=>X.N[i]?)=fr.map some:=by rfl) (hc:X.calm=true:=by rfl) (hs:∀x,aaT iter X.env x=pure x:=by intro _;rfl) :
  MS X (.Assign [.Name y py] (.ListComp elt [⟨tg,iter,ifs,0⟩] scope pos) spos) (wSet i (lz wi own ps g tt we)):=(Cy S hN hy hlc hi hg ht he hsw hsc hps hc hs).wk fun D σ H ⟨α,m,De,Rl,hw,k⟩ =>
 vk ⟨α,m,_,Rl,hw,fun r m' v H' q n Rl' rr F=>rG (Q:=D.nx) Rl' n F rr q k.nx ⟨m,σ,Rl⟩⟩
theorem Bm(S:bZ own fr scope sc)(hN:X.N.Nodup)(hy:X.N[i]?=some y)(hlc:X.env.scope.names.lookup y=some .local)(hi:MI X tg iter wi)(hg:∀cl s H C ex,MG (aI X scope cl (own++fr) s H C ex) tg g)(ht:∀cl s H C ex,PTs (aI X scope cl (own++fr) s H C ex) ifs (tMT X.kx tt))
  (hi2:∀cl s H C ex,MI (aI X scope cl (own++fr) s H C ex) tg2 iter2 wi2) (hg2:∀cl s H C ex,MG (aI X scope cl (own++fr) s H C ex) tg2 g2) (ht2:∀cl s H C ex,PTs (aI X scope cl (own++fr) s H C ex) ifs2 (tMT X.kx tt2))
  (he:∀cl s H C ex,ME (aI X scope cl (own++fr) s H C ex) elt we) (hsw:abY (.ListComp elt [⟨tg,iter,ifs,0⟩,⟨tg2,iter2,ifs2,0⟩] scope pos) (some (.Name y py)) spos.line X.env=pure true:=by rfl)
  (hsc:X.env.scope=sc:=by rfl) (hps:ps.map (fun i=>X.N[i]?)=fr.map some:=by rfl) (hc:X.calm=true:=by rfl) (hs:∀x,aaT iter X.env x=pure x:=by intro _;rfl)
  (hs2:∀cl C x,aaT iter2 (agM scope cl C X.env) x=pure x:=by intro _ _ _;rfl) :
  MS X (.Assign [.Name y py] (.ListComp elt [⟨tg,iter,ifs,0⟩,⟨tg2,iter2,ifs2,0⟩] scope pos) spos) (wSet i (vi wi own ps g tt wi2 g2 tt2 we)):=(CA S hN hy hlc hi hg ht hi2 hg2 ht2 he hsw hsc hps hc hs hs2).wk fun D σ H ⟨α,m,De,Rl,hw,k⟩ =>
 BO ⟨α,m,_,Rl,hw,fun r m' v H' q n Rl' rr F=>rG (Q:=D.nx) Rl' n F rr q k.nx ⟨m,σ,Rl⟩⟩
end
theorem bx{i:Str}(h:Den K H (.str i) v):v = .str i:=by simpa only[Den]using h
theorem pi{i:Bool}(h:Den K H (.bool i) v):v = .bl i:=by simpa only[Den]using h
theorem lJ(h:Den K H .none v):v = .non:=by simpa only[Den]using h
theorem fI(i:Int):RelR K α Hb H (.imm (.int i)) (.int i):=mF (K:=K) (H:=H) i
theorem oZ(i:Bool):RelR K α Hb H (.imm (.bool i)) (.bl i):=Oh (K:=K) (H:=H) i
theorem yF(i:Str):RelR K α Hb H (.imm (.str i)) (.str i):=wz (K:=K) (H:=H) i
theorem xY:RelR K α Hb H (.imm .none) .non:=Ja (K:=K) (H:=H)
theorem k7{d:iO}(h:Den K H d v):RelR K α Hb H (.imm d) v:=h
theorem bI(h:Den K H (.tuple ds) v):∃a xs,v = .ref a/\SqT K H a xs/\DenAll K H ds xs:=by simpa only[Den]using h
theorem c5(f:SqT K H a xs)(g:DenAll K H ds xs):Den K H (.tuple ds) (.ref a):=by simp only[Den];exact⟨a,xs,rfl,f,g⟩
section
variable {X:Cx}
def oAdd:WO
 | .imm (.int i),.imm (.int j),_,K=>K (.imm (.int (i+j)))
 | .imm (.str x),.imm (.str y),_,K=>x.length+y.length≤aam/\K (.imm (.str (x++y)))
 | .imm (.tuple a),.imm (.tuple b),_,K=>a.length+b.length≤aam/\K (.imm (.tuple (a++b)))
 |r1,r2,m,K=>∃xs ys,lsOf m r1=some xs/\lsOf m r2=some ys/\xs.length+ys.length≤aam/\K (.new (xs++ys))
theorem aE:OpR X (ack .Add) (rM X.kx oAdd):=by
 rintro pins s σ' H x y v u Q I rx ry ⟨α,m,σ,H0,H1,r1,r2,Kc,Rl,h1,h2,ho,fin⟩;unfold oAdd at ho
 split at ho
 .rename_i _ _ i j;have e1:=aM (show Den X.kx H (.int i) x from h1);have e2:=aM (show Den X.kx H (.int j) y from h2);subst e1 e2;exact Nq pins s σ' H _ _ v u Q I rx ry ⟨i,j,rfl,rfl,fin _ _ H ho Rl (fI _) (Frm.refl _ _)⟩
 .rename_i _ _ i j;have e1:=bx (show Den X.kx H (.str i) x from h1);have e2:=bx (show Den X.kx H (.str j) y from h2);subst e1 e2;exact vW pins s σ' H _ _ v u Q I rx ry ⟨i,j,rfl,rfl,ho.1,fin _ _ H ho.2 Rl (yF _) (Frm.refl _ _)⟩
 .rename_i _ _ ds es;obtain⟨a,xs,rfl,f1,g1⟩:=bI (show Den X.kx H (.tuple ds) x from h1);obtain⟨b,ys,rfl,f2,g2⟩:=bI (show Den X.kx H (.tuple es) y from h2);obtain⟨hz,ho⟩:=ho
  by_cases hx:xs=[]
  .subst hx
   cases rx;cases ry
   obtain⟨its,rv1,p1,_⟩:=I.tuple f1;obtain⟨its2,rv2,p2,_⟩:=I.tuple f2;cases rv1;obtain⟨⟨cls,dd,data,sl⟩,ho1,hc,n,hd⟩:=id p1;obtain⟨⟨cls2,dd2,data2,sl2⟩,ho2,hc2,n2,hd2⟩:=id p2;simp only at hc hd hc2 hd2;subst hc hd hc2 hd2;have e0:ds=[]:=by cases ds with|nil=>rfl|cons _ _=>have:=g1.length;simp at this
   subst e0;exact agi ⟨_,ho1,rfl⟩ ⟨_,ho2,rfl⟩ afW ahf aes aek (ad3 _ _)
    (tuple_addW0 a b _ its2.toArray n n2 dd dd2 sl sl2 (by simp)) ⟨ho1,ho2,⟨.ref b,H,I,rfl,fin _ _ H ho Rl (show Den X.kx H (.tuple ([]++es)) (.ref b)from h2) (Frm.refl _ _)⟩⟩
  .refine Jg pins s σ' H _ _ v u Q I rx ry ⟨a,b,xs,ys,rfl,rfl,f1,f2,hx,by rw[<-g1.length,<-g2.length];exact hz,fun e=>?_,fun e p hp=>?_⟩
   .subst e;have e0:es=[]:=by cases es with|nil=>rfl|cons _ _=>have:=g2.length;simp at this
    subst e0;exact fin _ _ H (by rw[aa5]at ho;exact ho) Rl (k7 h1) (Frm.refl _ _)
   .exact fin _ _ _ ho (Rl.lay hp) (k7<|c5 (SqT.of av) ((g1.append g2).mono (bu (.inl hp)))) (cC hp)
 .obtain⟨ds,es,e1,e2,hz,ho⟩:=ho;obtain⟨a,xs,rfl,f1,g1⟩:=h1.list Rl e1;obtain⟨b,ys,rfl,f2,g2⟩:=h2.list Rl e2
  cases rx;cases ry
  obtain⟨its,rv1,⟨⟨cls,dd,data,sl⟩,n,ho1,hc,hdd,hd⟩,_⟩:=I.list f1;obtain⟨its2,rv2,⟨⟨cls2,dd2,data2,sl2⟩,n2,ho2,hc2,hdd2,hd2⟩,_⟩:=I.list f2;simp only at hc hd hc2 hd2;subst hc hd hc2 hd2;have hzz:xs.length+ys.length≤aam:=by rw[<-g1.length,<-g2.length];exact hz
  refine agi ⟨_,ho1,rfl⟩ ⟨_,ho2,rfl⟩ noFill_list_add seq_list_add PySem.F.slot_list_add PySem.F.entry_list_add (PySem.F.args_list_add_2 _ _) (list_addW a b its.toArray its2.toArray n n2 dd dd2 sl sl2 (by have:=rv1.length;have:=rv2.length;simp only[aas];omega)) ⟨ho1,ho2,?_⟩;have ea:its.toArray++its2.toArray=(its++its2).toArray:=by simp
  rw[ea];have hp:H s.heap.objs.size=none:=I.fresh;exact⟨.ref _,_,I.lnew (t':=s.toks) (rv1.append rv2) (by rw[aap];omega),rfl,fin _ _ _ ho (Rl.lay hp) ⟨_,xs++ys,rfl,hp,av,(g1.append g2).mono (bu (.inl hp))⟩ (cC hp)⟩
def oII(C:Int->Int->Prop)(g:Int->Int->Int):WO
 | .imm (.int i),.imm (.int j),_,K=>C i j/\K (.imm (.int (g i j)))
 |_,_,_,_=>False
def oIB(g:Int->Int->Bool):WO
 | .imm (.int i),.imm (.int j),_,K=>K (.imm (.bool (g i j)))
 |_,_,_,_=>False
theorem lq{f:GE->GE->Sem GE}{C:Int->Int->Prop}{g:Int->Int->Int}(h:OpR X f (rI C fun i j=>.int (g i j))):OpR X f (rM X.kx (oII C g)):=by
 rintro pins s σ' H x y v u Q I rx ry ⟨α,m,σ,H0,H1,r1,r2,Kc,Rl,h1,h2,ho,fin⟩;unfold oII at ho
 split at ho
 .rename_i _ _ i j;have e1:=aM (show Den X.kx H (.int i) x from h1);have e2:=aM (show Den X.kx H (.int j) y from h2);subst e1 e2;exact h pins s σ' H _ _ v u Q I rx ry ⟨i,j,rfl,rfl,ho.1,fin _ _ H ho.2 Rl (fI _) (Frm.refl _ _)⟩
 .exact ho.elim
theorem ut{f:GE->GE->Sem GE}{g:Int->Int->Bool}(h:OpR X f (rI0 fun i j=>.bl (g i j))):OpR X f (rM X.kx (oIB g)):=by
 rintro pins s σ' H x y v u Q I rx ry ⟨α,m,σ,H0,H1,r1,r2,Kc,Rl,h1,h2,ho,fin⟩;unfold oIB at ho
 split at ho
 .rename_i _ _ i j;have e1:=aM (show Den X.kx H (.int i) x from h1);have e2:=aM (show Den X.kx H (.int j) y from h2);subst e1 e2;exact h pins s σ' H _ _ v u Q I rx ry ⟨i,j,rfl,rfl,fin _ _ H ho Rl (oZ _) (Frm.refl _ _)⟩
 .exact ho.elim
def oSub:WO:=oII (fun _ _=>True) fun i j=>i-j
theorem kR:OpR X (ack .Sub) (rM X.kx oSub):=lq (opI fun _ _ _ _ _ _ _ _ q=>sub_int q)
def oMul:WO:=oII afV fun i j=>i*j
theorem Gn:OpR X (ack .Mult) (rM X.kx oMul):=lq (opI fun _ _ _ _ _ _ _ hc q=>mul_int q hc)
def CFd(_ j:Int):Prop:=0<j/\j.natAbs.log2<9000
def J9:WO:=oII CFd fun i j=>i/j
theorem dF:OpR X (ack .FloorDiv) (rM X.kx J9):=lq (opI fun i j _ _ _ _ _ hc q=>floordiv_int (by have:=hc.1;omega) (by rw[afm _ (by have:=hc.1;omega)];exact q) (.inl (afL hc.2)))
def CFn(_ j:Int):Prop:=j≠0/\j.natAbs.log2<9000
def DQ:WO:=oII CFn fun i j=>i.fdiv j
theorem qJ:OpR X (ack .FloorDiv) (rM X.kx DQ):=lq (opI fun i j _ _ _ _ _ hc q=>floordiv_int hc.1 q (.inl (afL hc.2)))
def oMod:WO:=oII (fun _ j=>0<j) fun i j=>i%j
theorem dJ:OpR X (ack .Mod) (rM X.kx oMod):=lq MF
def oPow:WO:=oII CPow fun i j=>i^j.toNat
theorem Ic:OpR X (ack .Pow) (rM X.kx oPow):=lq LS
def oLt:WO:=oIB fun i j=>decide (i<j)
def oLe:WO:=oIB fun i j=>decide (i≤j)
def oGt:WO:=oIB fun i j=>decide (j<i)
def oGe:WO:=oIB fun i j=>decide (j≤i)
theorem oO:OpR X (abK .Lt) (rM X.kx oLt):=ut Rg
theorem Qg:OpR X (abK .LtE) (rM X.kx oLe):=ut SX
theorem vo:OpR X (abK .Gt) (rM X.kx oGt):=ut Qy
theorem Ng:OpR X (abK .GtE) (rM X.kx oGe):=ut Si
def eqD(f:Bool->Bool):WO:=fun r1 r2 m K=>match asD m r1,asD m r2 with
 |some d1,some d2=>adv d1=true/\adv d2=true/\K (.imm (.bool (f (aaw d1 d2))))
 |_,_=>False
def eqS(f:Bool->Bool):WO:=fun r1 r2 m K=>∃x y:Str,r1 = .imm (.str x)/\r2 = .imm (.str y)/\K (.imm (.bool (f (decide (x=y)))))
def eqSs(f:Bool->Bool):WO:=fun r1 r2 m K=>∃xs ys:List Str,lsOf m r1=some (xs.map .str)/\lsOf m r2=some (ys.map .str)/\xs.length=ys.length/\K (.imm (.bool (f (decide (xs=ys)))))
def oEq:WO:=fun r1 r2 m K=>eqD id r1 r2 m K\/eqS id r1 r2 m K\/eqSs id r1 r2 m K
def oNe:WO:=fun r1 r2 m K=>eqD (!·) r1 r2 m K\/eqS (!·) r1 r2 m K
theorem gJ{K:Kd}{H:Hp}:∀{ns:List Str}{xs:List V},DenAll K H (ns.map .str) xs->xs=ns.map V.str
 |[],_,h=>by simpa only[ab4,DenAll]using h
 |n::ns,_,h=>by
  simp only[aai,DenAll]at h;obtain⟨v,vs,rfl,h1,h2⟩:=h;have e:=bx (K:=K) (H:=H) h1;rw[e,gJ h2];rfl
theorem oj:∀{ns:List Str}{us:List GE}{j:Nat}{u:GE},Vals (ns.map V.str) us->us[j]?=some u->∃x t,ns[j]?=some x/\u = .str x t
 |[],_,_,_,.nil,e=>by simp at e
 |n::ns,_,0,_,.cons r _,e=>by
  simp at e;subst e;obtain⟨t,h⟩:=r;exact⟨n,t,rfl,h⟩
 |n::ns,_,j+1,u,.cons _ t,e=>by
  obtain⟨x,tk,h1,h2⟩:=oj (j:=j) (u:=u) t (by simpa using e);exact⟨x,tk,by simpa using h1,h2⟩
theorem rH(xs ys:List Str)(h:xs.length=ys.length):(aaP xs.length).all (fun j=>decide (xs.getD j ahN=ys.getD j ahN))=decide (xs=ys):=by
 rw[ac1,aca,decide_eq_true_eq];constructor
 .intro q;apply ahO h;intro i h1 h2;have:=q i (by simpa using h1);rw[decide_eq_true_eq,aax,aax,Ge h1,Ge h2]at this;exact this
 .rintro rfl j _;exact decide_eq_true rfl
theorem Gh{s:aaa}{x y:V}{v u:GE}{m:MSt}{r1 r2:R}{xs ys:List Str}(I:Inv X pins σ' H s)(Rl:Rel X.kx α m σ H)(h1:RelR X.kx α H0 H r1 x)(h2:RelR X.kx α H1 H r2 y)(rx:RelV x v)(ry:RelV y u)
  (e1:lsOf m r1=some (xs.map .str)) (e2:lsOf m r2=some (ys.map .str)) (hl:xs.length=ys.length) (hu:X.A.units+64<cLine):∃l b its its2,v = .ref l/\u = .ref b/\s.heap.IsList l its/\s.heap.IsList b its2/\its.size=xs.length/\its2.size=xs.length /\
   ∀j (z1:j<its.size) (z2:j<its2.size),age X.A.in1 s its[j] its2[j] (decide (xs.getD j ahN=ys.getD j ahN)):=by
 obtain⟨a,zs,rfl,f1,g1⟩:=h1.list Rl e1;obtain⟨b,ws,rfl,f2,g2⟩:=h2.list Rl e2;have q1:=gJ g1;have q2:=gJ g2;subst q1 q2
 cases rx;cases ry
 obtain⟨its,rv1,p1,_⟩:=I.list f1;obtain⟨its2,rv2,p2,_⟩:=I.list f2;have l1:=rv1.length;have l2:=rv2.length;rw[oR]at l1 l2;refine⟨a,b,its.toArray,its2.toArray,rfl,rfl,p1.isList,p2.isList,by simp[l1],by simp[<-l2,hl],fun j z1 z2=>?_⟩;obtain⟨x,t,h3,h4⟩:=oj rv1 (j:=j) (u:=its.toArray[j]) (by rw[agQ,Ge]);obtain⟨y,t',h5,h6⟩:=oj rv2 (j:=j) (u:=its2.toArray[j]) (by rw[agQ,Ge]);rw[h4,h6,aax,aax,h3,h5];have:=age.str_str (A:=X.A.in1) (s:=s) x t y t';have e:(x==y)=decide (x=y):=by rw[acl]
 rw[e]at this;exact this
theorem cg(hu:X.A.units+64<cLine):OpR X (abK .Eq) (rM X.kx oEq):=by
 rintro pins s σ' H x y v u Q I rx ry ⟨α,m,σ,H0,H1,r1,r2,Kc,Rl,h1,h2,ho,fin⟩;rcases ho with ho|⟨z,t,rfl,rfl,ho⟩|⟨xs,ys,e1,e2,hl,ho⟩
 .unfold eqD at ho
  split at ho
  .rename_i d1 d2 e1 e2;obtain⟨as,q1⟩:=h1.reads I Rl rx e1 (abu _ (adw ho.1));obtain⟨bs,q2⟩:=h2.reads I Rl ry e2 (abu _ (adw ho.2.1));exact eq_dataH q1 q2 ho.1 ho.2.1 hu ⟨.bl _,H,I,rfl,fin _ _ H ho.2.2 Rl (oZ _) (Frm.refl _ _)⟩
  .exact ho.elim
 .have e1:=bx (show Den X.kx H (.str z) x from h1);have e2:=bx (show Den X.kx H (.str t) y from h2);subst e1 e2;refine QU pins s σ' H _ _ v u Q I rx ry ⟨rfl,?_⟩;rw[oy,acl];exact fin _ _ H ho Rl (oZ _) (Frm.refl _ _)
 .obtain⟨l,b,its,its2,rfl,rfl,p1,p2,s1,s2,he⟩:=Gh I Rl h1 h2 rx ry e1 e2 hl hu;refine SeqAt.eq_listAt p1 p2 (s1.trans s2.symm) (by omega) he ?_;rw[s1,rH xs ys hl];exact⟨.bl _,H,I,rfl,fin _ _ H ho Rl (oZ _) (Frm.refl _ _)⟩
theorem pk(hu:X.A.units+64<cLine):OpR X (abK .NotEq) (rM X.kx oNe):=by
 rintro pins s σ' H x y v u Q I rx ry ⟨α,m,σ,H0,H1,r1,r2,Kc,Rl,h1,h2,ho,fin⟩;rcases ho with ho|⟨z,t,rfl,rfl,ho⟩
 .unfold eqD at ho
  split at ho
  .rename_i d1 d2 e1 e2;obtain⟨as,q1⟩:=h1.reads I Rl rx e1 (abu _ (adw ho.1));obtain⟨bs,q2⟩:=h2.reads I Rl ry e2 (abu _ (adw ho.2.1));exact ne_dataH q1 q2 ho.1 ho.2.1 hu ⟨.bl _,H,I,rfl,fin _ _ H ho.2.2 Rl (oZ _) (Frm.refl _ _)⟩
  .exact ho.elim
 .have e1:=bx (show Den X.kx H (.str z) x from h1);have e2:=bx (show Den X.kx H (.str t) y from h2);subst e1 e2;refine Qx pins s σ' H _ _ v u Q I rx ry ⟨rfl,?_⟩;rw[oy,acl];exact fin _ _ H ho Rl (oZ _) (Frm.refl _ _)
def yI:R->Bool
 | .imm .none=>true
 |_=>false
def xI:WO:=fun r1 r2 _ K=>r2 = .imm .none/\K (.imm (.bool (!yI r1)))
theorem wg(h:RelR K α Hb H r v):decide (v = .non)=yI r:=by
 cases r with
 |obj k=>obtain⟨a,_,rfl⟩:=h;rfl
 |new ds=>obtain⟨a,_,rfl,_⟩:=h;rfl
 | «at» k p=>obtain⟨τ,a,_,_,rfl⟩:=h;rfl
 |newT t=>obtain⟨τ,a,rfl,_⟩:=h;rfl
 |imm d =>
  cases d with
  |none=>have e:=lJ (show Den K H .none v from h);subst e;rfl
  |bool b=>have e:=pi (show Den K H (.bool b) v from h);subst e;rfl
  |int b=>have e:=aM (show Den K H (.int b) v from h);subst e;rfl
  |str b=>have e:=bx (show Den K H (.str b) v from h);subst e;rfl
  |list ds=>have h':Den K H (.list ds) v:=h;simp only[Den]at h';obtain⟨a,_,rfl,_⟩:=h';rfl
  |tuple ds=>obtain⟨a,_,rfl,_⟩:=bI (show Den K H (.tuple ds) v from h);rfl
  |dict es=>have h':Den K H (.dict es) v:=h;simp only[Den]at h';obtain⟨a,rfl,_⟩:=h';rfl
theorem wn:OpR X (abK .IsNot) (rM X.kx xI):=by
 rintro pins s σ' H x y v u Q I rx ry ⟨α,m,σ,H0,H1,r1,r2,Kc,Rl,h1,h2,ho,fin⟩;obtain⟨e,ho⟩:=ho;subst e;have ey:=lJ (show Den X.kx H .none y from h2);exact IG pins s σ' H _ _ v u Q I rx ry ⟨ey,by rw[wg h1];exact fin _ _ H ho Rl (oZ _) (Frm.refl _ _)⟩
def uNeg:WU
 | .imm (.int i),_,K=>K (.imm (.int (-i)))
 |_,_,_=>False
theorem fw:UnR X (unaryOp .USub) (uM X.kx uNeg):=by
 rintro pins s σ' H x v Q I rx ⟨α,m,σ,H0,r1,Kc,Rl,h1,ho,fin⟩;unfold uNeg at ho
 split at ho
 .rename_i _ i;have e1:=aM (show Den X.kx H (.int i) x from h1);subst e1;exact Mi pins s σ' H _ v Q I rx ⟨i,rfl,fin _ _ H ho Rl (fI _) (Frm.refl _ _)⟩
 .exact ho.elim
def yw(m:MSt)(K:R->Prop):R->R->Prop
 | .imm (.tuple ds),.imm (.int i)=>∃d,atI ds i=some d/\K (.imm d)
 | .imm (.str x),.imm (.int i)=>∃c,x.length≤aam/\atI x.cps.toList i=some c/\K (.imm (.str ⟨#[c]⟩))
 |r,.imm (.int i)=>∃ds d,lsOf m r=some ds/\atI ds i=some d/\K (.imm d)
 |_,_=>False
def pK:WO:=fun r1 r2 m K=>yw m K r1 r2
theorem zm{K:Kx}{i:Int}{d:iO}(g:DenAll K H ds xs)(e:atI ds i=some d):∃v,atI xs i=some v/\Den K H d v:=by
 unfold atI at e⊢;rw[<-g.length]
 cases q:ixN ds.length i with
 |none=>rw[q]at e;cases e
 |some j =>
  rw[q]at e;obtain⟨v,h1,h2⟩:=g.get (show ds[j]?=some d from e);exact⟨v,h1,h2⟩
theorem GL:IxR X (rM X.kx pK):=by
 rintro value slice pins s σ' H x y v u Q I rx ry ⟨α,m,σ,H0,H1,r1,r2,Kc,Rl,h1,h2,ho,fin⟩ hsub;have ho':yw m Kc r1 r2:=ho;unfold yw at ho'
 split at ho'
 .rename_i ds i;obtain⟨d,e,k⟩:=ho';obtain⟨a,xs,rfl,f,g⟩:=bI (show Den X.kx H (.tuple ds) x from h1);have e2:=aM (show Den X.kx H (.int i) y from h2);obtain⟨z,z1,z2⟩:=zm g e;exact L9 value slice pins s σ' H _ _ v u Q I rx ry ⟨a,xs,i,z,rfl,e2,f,z1,fin _ _ H k Rl (k7 z2) (Frm.refl _ _)⟩ hsub
 .rename_i w i;obtain⟨c,hz,e,k⟩:=ho';have e1:=bx (show Den X.kx H (.str w) x from h1);have e2:=aM (show Den X.kx H (.int i) y from h2);exact O5 value slice pins s σ' H _ _ v u Q I rx ry ⟨w,i,c,e1,e2,hz,e,fin _ _ H k Rl (yF _) (Frm.refl _ _)⟩ hsub
 .rename_i i _ _;obtain⟨ds,d,el,e,k⟩:=ho';obtain⟨a,xs,rfl,f,g⟩:=h1.list Rl el;have e2:=aM (show Den X.kx H (.int i) y from h2);obtain⟨z,z1,z2⟩:=zm g e;exact Jk value slice pins s σ' H _ _ v u Q I rx ry ⟨a,xs,i,z,rfl,e2,f,z1,fin _ _ H k Rl (k7 z2) (Frm.refl _ _)⟩ hsub
 .exact ho'.elim
theorem Qz{a b:Expr}{wa wb:WE}(ha:ME X a wa)(hb:ME X b wb)(hs:sg b:=by intro _ _;rfl):ME X (.Subscript a b pos) (wBin pK wa wb):=(Qp GL ha hb hs).wk fun _ _ _ h=>uH h
end
def qQ(P:Int->Prop):R->Prop
 | .imm (.int i)=>P i
 |_=>False
def sY(P:Nat->Prop):R->Prop
 | .obj k=>P k
 |_=>False
def on1(P:R->Prop):List R->Prop
 |[r]=>P r
 |_=>False
section
variable {K:Kx}{α:Al}{Hb H:Hp}{r:R}{v:V}
theorem Av{P:Int->Prop}(rr:RelR K α Hb H r v)(h:qQ P r):∃i,r = .imm (.int i)/\v = .int i/\P i:=by
 unfold qQ at h
 split at h
 .exact⟨_,rfl,aM (K:=K) (H:=H) rr,h⟩
 .exact h.elim
theorem zw{P:Nat->Prop}(rr:RelR K α Hb H r v)(h:sY P r):∃k a,r = .obj k/\α[k]?=some (.L a)/\v = .ref a/\P k:=by
 unfold sY at h
 split at h
 .obtain⟨a,e1,e2⟩:=rr;exact⟨_,a,rfl,e1,e2,h⟩
 .exact h.elim
theorem fz{P:R->Prop}{rs:List R}(rr:RelRs K α Hb H rs xs)(h:on1 P rs):∃r v,rs=[r]/\xs=[v]/\RelR K α Hb H r v/\P r:=by
 cases rr with
 |nil=>exact h.elim
 |cons h1 t =>
  cases t with
  |nil=>exact⟨_,_,rfl,rfl,h1,h⟩
  |cons _ _=>exact h.elim
end
section
variable {X:Cx}{o a b c e:Expr}{es:List Expr}{wo wa wb wc we wi:WE}{ws:WA}{pos apos cpos:Pos}
abbrev WM:=R->List R->MSt->(R->MSt->Prop)->Prop
def mM(K:Kx)(ob:WM):V->List V->Hp->VK->Prop:=fun x xs H Q=>∃α m σ H0 H1 r rs Kc,Rel K α m σ H/\RelR K α H0 H r x/\RelRs K α H1 H rs xs/\ob r rs m Kc/\∀r m' v H',Kc r m'->m'.np=m.np->Rel K α m' σ H'->RelR K α H H' r v->Frm α H H'->Q v H'
def wML(ob:WM)(wo:WE)(ws:WA):WE:=fun m K=>wo m fun r m1=>(∃ds,lsOf m1 r=some ds)/\ws m1 fun rs m2=>ob r rs m2 K
theorem Qq{ob:WM}(h:tM X.kx (wML ob wo ws) σ H Q):tBM X.K "list" (mM X.kx ob) (tM X.kx wo) (tMA X.kx ws) σ H Q:=by
 obtain⟨α,m,Kc,Rl,hw,fin⟩:=h;refine⟨α,m,_,Rl,hw,fun r m1 v H1 k n1 Rl1 rr F1=>?_⟩;obtain⟨⟨ds,el⟩,k⟩:=k;obtain⟨a,xs,rfl,f,g⟩:=rr.list Rl1 el;refine⟨.inl ⟨rfl,xs,f⟩,α,m1,_,Rl1,k,fun rs m2 vs H2 k2 n2 Rl2 rr2 F2=>?_⟩;exact⟨α,m2,σ,H,H1,r,rs,Kc,Rl2,rr.keep Rl Rl1 F2,rr2,k2,fun r m' v H' k n Rl' rr' F=>fin r m' v H' k (n.trans (n2.trans n1)) Rl' (rr'.base Rl2 (F1.trans F2)) ((F1.trans F2).trans F)⟩
theorem QH{name:Str}{id:String}{ob:WM}(slot:Slot "list" name id)(hty:typeOf (.builtin id)=pure (.type "method_descriptor"))(hm:MtM X id (mM X.kx ob))(ho:ME X o wo)(ha:MA X (e::es) ws)
  (hbase:abG o name X.env (eval o X.env)=eval o X.env:=by rfl)
  (hfew:((ace cpos (aao (e::es) X.env)).all (fun x=>!x.1)&&(afk cpos (adO [] X.env)).all (fun x=>x.1.isSome)
   && decide ((e::es).length+([]:List adr).length+(if ([]:List adr).isEmpty then 0 else 1)<30))=true:=by rfl)
  (hline:(apos.endLine==cpos.line)=true:=by rfl) (hs:aao (e::es) X.env=(false,eval e X.env)::aao es X.env:=by first|exact aV rfl|rfl) (hplain:(ace cpos (aao es X.env)).any (·.1)=false:=by rfl) :
  ME X (.Call (.Attribute o name apos) (e::es) [] cpos) (wML ob wo ws):=(NH PySem.F.plainAttrs_list slot hty hm ho ha hbase hfew hline hs hplain).wk fun _ _ _ h=>Qq h
def wY:WM:=fun r rs m K=>sY (fun k=>on1 (e8 fun d=>∃ds,m.os[k]?=some ds/\ds.length<aam/\K (.imm .none) {m with os:=m.os.set k (ds++[d])}) rs) r
theorem d5:MtM X "list.append" (mM X.kx wY):=by
 rintro pins s σ' H x xs v us Q I rx rv ⟨α,m,σ,H0,H1,r,rs,Kc,Rl,h1,h2,ho,fin⟩;obtain⟨k,a,rfl,ea,rfl,ho⟩:=zw h1 ho;obtain⟨r2,v2,rfl,rfl,h2,ho⟩:=fz h2 ho;obtain⟨d,rfl,hd,ds,e1,hz,ho⟩:=gF h2 ho;obtain⟨ys,q,g⟩:=Rl.own _ _ ds ea e1;obtain⟨R2,F2⟩:=Rl.setO ea q (g.append (DenAll.cons hd DenAll.nil));exact o5 pins s σ' H _ _ v us Q I rx rv ⟨a,ys,_,rfl,rfl,q,by rw[<-g.length];exact hz,fin _ _ _ _ ho rfl R2 xY F2⟩
def Ig(we wo wi:WE):WS:=fun D m=>we m fun rv m1=>e8 (fun d=>wo m1 fun ro m2=>wi m2 fun ri m3=>sY (fun k=>qQ (fun z=>∃ds j,m3.os[k]?=some ds/\ixN ds.length z=some j/\D.nx {m3 with os:=m3.os.set k (ds.set j d)}) ri) ro) rv
theorem Ib{b i:Expr}(he:ME X e we)(ho:ME X b wo)(hi:ME X i wi)(hs:adc [.Subscript b i pos'] e pos.line X.env=pure false:=by rfl)(hw:add [.Subscript b i pos'] e X.env=pure none:=by rfl)
  (h1:(abM [.Subscript b i pos'] X.env).map (·.2)=[ada (.Subscript b i pos') X.env]:=by rfl) (ha:∀v,ada (.Subscript b i pos') X.env v=(do
   let ov <- adK [v] (eval b X.env)
   let iv <- adK [v,ov] (eval i X.env)
   adp pos'
   adK [v,ov,iv] (ag1 ov iv v)
   release [v,ov,iv] []):=by intro _;rfl):MS X (.Assign [.Subscript b i pos'] e pos) (Ig we wo wi):=(Fo he (N6 ho hi Bo ha) hs hw h1).wk fun D σ H ⟨α,m,De,Rl,hw,k⟩=>by
 refine⟨α,m,_,Rl,hw,fun r m1 v H1 q n1 Rl1 rr F1=>?_⟩;obtain⟨d,er,hd,q⟩:=gF rr q;refine⟨α,m1,_,Rl1,q,fun ro m2 ov H2 q2 n2 Rl2 rr2 F2=>⟨α,m2,_,Rl2,q2,fun ri m3 iv H3 q3 n3 Rl3 rr3 F3=>?_⟩⟩;obtain⟨kk,p,rfl,ea,rfl,q3⟩:=zw rr2 q3;obtain⟨z,rfl,rfl,ds,j,e1,e2,q3⟩:=Av rr3 q3;obtain⟨ys,q,g⟩:=Rl3.own _ _ ds ea e1;have hd3:Den X.kx H3 d v:=(hd.mono (Rl1.pers F2)).mono (Rl2.pers F3);obtain⟨R4,F4⟩:=Rl3.setO ea q (g.set hd3 j);exact⟨p,ys,z,j,rfl,rfl,q,by rw[<-g.length];exact e2,k.nx α _ σ _ q3 (n3.trans (n2.trans n1)) R4 (.of R4 (((F1.trans F2).trans F3).trans F4))⟩
def lenR(m:MSt)(K:R->Prop):R->Prop
 | .imm (.str x)=>x.length≤aam/\K (.imm (.int x.length))
 | .imm (.tuple ds)=>K (.imm (.int ds.length))
 |r=>∃ds,lsOf m r=some ds/\K (.imm (.int ds.length))
def oLen:WC:=fun rs m K=>on1 (lenR m K) rs
theorem b9:dU X (.builtin "len") (cM X.kx oLen):=by
 rintro pins s σ' H xs us Q I rv ⟨α,m,σ,H0,rs,Kc,Rl,h,ho,fin⟩;obtain⟨r,v,rfl,rfl,h1,ho⟩:=fz h ho;unfold lenR at ho
 split at ho
 .rename_i x _;have e:=bx (show Den X.kx H (.str x) _ from h1);subst e;exact pG pins s σ' H _ us Q I rv ⟨x,rfl,ho.1,fin _ _ H ho.2 Rl (fI _) (Frm.refl _ _)⟩
 .rename_i ds _;obtain⟨a,ys,rfl,f,g⟩:=bI (show Den X.kx H (.tuple ds) _ from h1);exact jh pins s σ' H _ us Q I rv ⟨a,ys,rfl,.inr f,by rw[<-g.length];exact fin _ _ H ho Rl (fI _) (Frm.refl _ _)⟩
 .obtain⟨ds,el,ho⟩:=ho;obtain⟨a,ys,rfl,f,g⟩:=h1.list Rl el;exact jh pins s σ' H _ us Q I rv ⟨a,ys,rfl,.inl f,by rw[<-g.length];exact fin _ _ H ho Rl (fI _) (Frm.refl _ _)⟩
def oAbs:WC:=fun rs m K=>on1 (qQ fun i=>K (.imm (.int (if i<0 then -i else i)))) rs
theorem kq:dU X (.builtin "abs") (cM X.kx oAbs):=by
 rintro pins s σ' H xs us Q I rv ⟨α,m,σ,H0,rs,Kc,Rl,h,ho,fin⟩;obtain⟨r,v,rfl,rfl,h1,ho⟩:=fz h ho;obtain⟨i,rfl,rfl,ho⟩:=Av h1 ho;exact Bv pins s σ' H _ us Q I rv ⟨i,rfl,fin _ _ H ho Rl (fI _) (Frm.refl _ _)⟩
def sqOf(m:MSt):R->Option (List iO)
 | .imm (.tuple ds)=>some ds
 |r=>lsOf m r
theorem RelR.seq{K:Kx}{m:MSt}(Rl:Rel K α m σ H)(h:RelR K α H0 H r v)(e:sqOf m r=some ds):∃a xs,v = .ref a/\(SqL K H a xs\/SqT K H a xs)/\DenAll K H ds xs:=by
 unfold sqOf at e
 split at e
 .cases e;obtain⟨a,ys,e,f,g⟩:=bI (show Den K H (.tuple ds) _ from h);exact⟨a,ys,e,.inr f,g⟩
 .obtain⟨a,ys,e,f,g⟩:=h.list Rl e;exact⟨a,ys,e,.inl f,g⟩
def MR:WC:=fun rs m K=>on1 (fun r=>∃ds,sqOf m r=some ds/\K (.new ds)) rs
theorem vJ:dU X (.type "list") (cM X.kx MR):=by
 rintro pins s σ' H xs us Q I rv ⟨α,m,σ,H0,rs,Kc,Rl,h,ho,fin⟩;obtain⟨r,v,rfl,rfl,h1,ho⟩:=fz h ho
 .obtain⟨ds,e,ho⟩:=ho;obtain⟨a,ys,rfl,f,g⟩:=h1.seq Rl e;exact qI pins s σ' H _ us Q I rv ⟨a,ys,rfl,f,fun l hl=>fin _ _ _ ho (Rl.lay hl) ⟨l,ys,rfl,hl,av,g.mono (bu (.inl hl))⟩ (cC hl)⟩
def D6:WC:=fun rs m K=>on1 (fun r=>∃ds,sqOf m r=some ds/\K (.imm (.tuple ds))) rs
theorem cp:dU X (.type "tuple") (cM X.kx D6):=by
 rintro pins s σ' H xs us Q I rv ⟨α,m,σ,H0,rs,Kc,Rl,h,ho,fin⟩;obtain⟨r,v,rfl,rfl,h1,ho⟩:=fz h ho
 .obtain⟨ds,e,ho⟩:=ho;obtain⟨a,ys,rfl,f,g⟩:=h1.seq Rl e;refine l5 pins s σ' H _ us Q I rv ⟨a,ys,rfl,?_⟩;rcases f with f|f
  .exact .inl ⟨f,fun l hl=>fin _ _ _ ho (Rl.lay hl) (k7 (c5 (SqT.of av) (g.mono (bu (.inl hl))))) (cC hl)⟩
  .exact .inr ⟨f,fin _ _ _ ho Rl (k7 (c5 f g)) (Frm.refl _ _)⟩
def J3:WC:=fun rs m K=>on1 (fun r=>∃d,asD m r=some d/\d.showable=true/\d.hasDict=false/\d.shown.length≤aam/\d.depth≤100/\K (.imm (.str d.shown))) rs
theorem gv(hg:X.A.guards=some [])(hu:X.A.units+200<cLine):dU X (.builtin "repr") (cM X.kx J3):=by
 rintro pins s σ' H xs us Q I rv ⟨α,m,σ,H0,rs,Kc,Rl,h,ho,fin⟩;obtain⟨r,v,rfl,rfl,h1,ho⟩:=fz h ho
 .obtain⟨d,e,hs,hnd,hz,hdp,ho⟩:=ho;obtain⟨u,rfl,ru⟩:=rv.one;obtain⟨as,q⟩:=h1.reads I Rl ru e hnd;have done:∀tk tk2 h',(∀b o,s.heap.get? b=some o->h'.get? b=some o)->EP X pins σ' Q (.str d.shown tk2) {s with heap:=h',toks:=tk}:=fun tk tk2 h' hk=>⟨.str d.shown,H,I.kept (t':=tk) hk,⟨_,rfl⟩,fin _ _ H ho Rl (yF _) (Frm.refl _ _)⟩
  cases q with
  |none=>exact PySem.P.repr_of_none (done _ _ _ fun _ _ z=>z)
  |bool b =>
   have:=done (s.toks+1) s.toks s.heap fun _ _ z=>z;simp only[afc]at this;exact PySem.P.repr_of_bool (by cases b<;>exact this)
  |int i t =>
   refine PySem.P.repr_of_int (by simpa[iO.showable]using hs) ?_;have:=done (s.toks+1) s.toks s.heap fun _ _ z=>z;simp only[afc]at this;exact this
  |str x t =>
   have hz':(reprText x).length≤aam:=by simpa only[afc]using hz
   refine PySem.P.repr_of_str ?_ hz';have:=done (s.toks+1) s.toks s.heap fun _ _ z=>z;simp only[afc]at this;exact this
  |list z1 z2 z3 z4=>exact repr_of_reads' (.list z1 z2 z3 z4) hs (ahA hnd) hg (by omega) (fun _ _ z=>z) (fun h' u tk hk=>done tk u h' hk) hz
  |tuple z1 z2 z3 z4=>exact repr_of_reads' (.tuple z1 z2 z3 z4) hs (ahA hnd) hg (by omega) (fun _ _ z=>z) (fun h' u tk hk=>done tk u h' hk) hz
  |dict z1 z2 z3 z4 z5=>simp[acs]at hnd
def sM(K:Kx)(o:R->Option Int->Option Int->MSt->(R->Prop)->Prop):V->Option Int->Option Int->Hp->VK->Prop:=fun x lo hi H Q=>∃α m σ H0 r Kc,Rel K α m σ H/\RelR K α H0 H r x/\o r lo hi m Kc/\∀r v H',Kc r->Rel K α m σ H'->RelR K α H H' r v->Frm α H H'->Q v H'
def cutD(xs:List iO)(lo hi:Option Int):List iO:=(xs.drop (HT.sIx xs.length 0 lo)).take (HT.sIx xs.length xs.length hi-HT.sIx xs.length 0 lo)
theorem yP(g:DenAll K H ds xs)(lo hi:Option Int):DenAll K H (cutD ds lo hi) (cutV xs lo hi):=by
 unfold cutD cutV;rw[<-g.length];exact(g.drop _).take _
def Qj:R->Option Int->Option Int->MSt->(R->Prop)->Prop:=fun r lo hi m K=>∃ds,lsOf m r=some ds/\K (.new (cutD ds lo hi))
theorem Bt:SlR X (sM X.kx Qj):=by
 intro pins s σ' H x v vl vu lo hi sl Q I rx hs pl pu hq;obtain⟨α,m,σ,H0,r,Kc,Rl,h,⟨ds,e,k⟩,fin⟩:=hq;obtain⟨a,ys,rfl,f,g⟩:=h.list Rl e;exact Ik pins s σ' H _ v vl vu lo hi sl Q I rx hs pl pu ⟨a,ys,rfl,f,fun p hp=>fin _ _ _ k (Rl.lay hp) ⟨p,_,rfl,hp,av,(yP g lo hi).mono (bu (.inl hp))⟩ (cC hp)⟩
def WO1:=MSt->(Option Int->MSt->Prop)->Prop
def tMO(K:Kx)(w:WO1):TO:=fun σ H Q=>∃α m Kc,Rel K α m σ H/\w m Kc/\∀r m' H',Kc r m'->m'.np=m.np->Rel K α m' σ H'->Frm α H H'->Q r H'
def rg:WO1:=fun m K=>K none m
def Ii(w:WE):WO1:=fun m K=>w m fun r m'=>qQ (fun i=>K (some i) m') r
theorem PO.wk{X:Cx}{e:Option Expr}{t t':TO}(h:PO X e t)(k:∀σ H Q,t' σ H Q->t σ H Q):PO X e t':=fun pins s σ H Q I q=>h pins s σ H Q I (k _ _ _ q)
abbrev MO(X:Cx)(e:Option Expr)(w:WO1):Prop:=PO X e (tMO X.kx w)
theorem JR:MO X none rg:=(JI (X:=X)).wk fun σ H Q ⟨α,m,Kc,Rl,hw,fin⟩=>fin none m H hw rfl Rl (Frm.refl _ _)
theorem JB(he:ME X e we):MO X (some e) (Ii we):=(Ix he).wk fun σ H Q ⟨α,m,Kc,Rl,hw,fin⟩=>by
 refine⟨α,m,_,Rl,hw,fun r m1 v H1 k n1 Rl1 rr F1=>?_⟩;obtain⟨i,rfl,rfl,k⟩:=Av rr k;exact⟨i,rfl,fin _ m1 H1 k n1 Rl1 F1⟩
def wSl(ob:R->Option Int->Option Int->MSt->(R->Prop)->Prop)(we:WE)(wl wh:WO1):WE:=fun m K=>we m fun r m1=>wl m1 fun l m2=>wh m2 fun u m3=>ob r l u m3 fun r'=>K r' m3
theorem BT{p2:Pos}(hr:SlR X (sM X.kx ob))(he:ME X e we)(hl:MO X lo wl)(hu:MO X hi wh):ME X (.Subscript e (.Slice lo hi none p2) pos) (wSl ob we wl wh):=(Dq hr he hl hu).wk fun σ H Q ⟨α,m,Kc,Rl,hw,fin⟩ =>
 ⟨α,m,_,Rl,hw,fun r m1 v H1 k n1 Rl1 rr F1=>⟨α,m1,_,Rl1,k,fun l m2 H2 k2 n2 Rl2 F2=>⟨α,m2,_,Rl2,k2,fun u m3 H3 k3 n3 Rl3 F3=>⟨α,m3,σ,H,r,_,Rl3,(rr.keep Rl Rl1 F2).keep Rl Rl2 F3,k3,fun r' v' H' k4 Rl4 rr4 F4=>fin r' m3 v' H' k4 (n3.trans (n2.trans n1)) Rl4 (rr4.base Rl3 ((F1.trans F2).trans F3)) (((F1.trans F2).trans F3).trans F4)⟩⟩⟩⟩
end
def agV:Nat->List Ag->List (Option R)
 |_,[]=>[]
 |k,.imm d::as=>some (.imm d)::agV k as
 |k,.own _::as=>some (.obj k)::agV (k+1) as
 |k,.tr _::as=>some (.at k [])::agV (k+1) as
def agO:List Ag->List (List iO)
 |[]=>[]
 | .imm _::as=>agO as
 | .own ds::as=>ds::agO as
 | .tr t::as=>[t]::agO as
def ia(n:Nat)(as:List Ag):MSt:=⟨agV 0 as++aat (n-as.length) none,agO as,(agO as).length⟩
def outR(m:MSt):R->R
 | .imm d=>.imm d
 | .new ds=>.new ds
 | .newT t=>.newT t
 | .obj k=>if k<m.np then .obj k else .new (m.os.getD k [])
 | .at k p=>if k<m.np then .at k p else match p,m.os[k]? with
  |[],some [t]=>.newT t
  |_,_=>.at k p
theorem da:∀(k:Nat) (as:List Ag),(agV k as).length=as.length
 |_,[]=>rfl
 |k,.imm d::as=>by simp[agV,da k as]
 |k,.own _::as=>by simp[agV,da (k+1) as]
 |k,.tr _::as=>by simp[agV,da (k+1) as]
section
variable {K:Kx}{H:Hp}
theorem RelAs.facts{K:Kd}:∀{as:List Ag}{vs:List V}{β:Al}{pre:Al},RelAs K H as vs β ->
  (agO as).length=β.length/\(∀(k:Nat) (ao:Ao) (ds:List iO),β[k]?=some ao->(agO as)[k]?=some ds->OwnAt K H ao ds) /\
   ∀(i:Nat) (r:R),(agV pre.length as)[i]?=some (some r)->∃v,vs[i]?=some v/\RelS K (pre++β) H r v
 |_,_,_,_,.nil=>⟨rfl,fun k a ds h=>by simp at h,fun i r h=>by simp[agV]at h⟩
 | _,_,β,pre,.imm (as:=as) hd t=>by
  obtain⟨h1,h2,h3⟩:=t.facts (pre:=pre);refine⟨h1,h2,fun i r h=>?_⟩
  cases i with
  |zero=>simp[agV]at h;subst h;exact⟨_,rfl,hd⟩
  |succ i =>
   obtain⟨v,e,q⟩:=h3 i r (by simpa[agV]using h);exact⟨v,by simpa using e,q⟩
 | _,_,_,pre,.own (a:=a) (β:=β) ha t=>by
  obtain⟨h1,h2,h3⟩:=t.facts (pre:=pre++[.L a]);refine⟨by simp[agO,h1],fun k b ds z1 z2=>?_,fun i r h=>?_⟩
  .cases k with
   |zero=>simp[agO]at z1 z2;subst z1;subst z2;exact ha
   |succ k=>exact h2 k b ds (by simpa using z1) (by simpa[agO]using z2)
  .cases i with
   |zero=>simp[agV]at h;subst h;exact⟨_,rfl,a,by simp,rfl⟩
   |succ i =>
    obtain⟨v,e,q⟩:=h3 i r (by simpa[agV]using h);refine⟨v,by simpa using e,?_⟩;rw[abX]at q;exact q
 | _,_,_,pre,.tr (a:=a) (τ:=τ) (β:=β) ha el t=>by
  obtain⟨h1,h2,h3⟩:=t.facts (pre:=pre++[.T τ]);refine⟨by simp[agO,h1],fun k b ds z1 z2=>?_,fun i r h=>?_⟩
  .cases k with
   |zero=>simp[agO]at z1 z2;subst z1;subst z2;exact ha
   |succ k=>exact h2 k b ds (by simpa using z1) (by simpa[agO]using z2)
  .cases i with
   |zero=>simp[agV]at h;subst h;exact⟨_,rfl,τ,a,by simp,el,rfl⟩
   |succ i =>
    obtain⟨v,e,q⟩:=h3 i r (by simpa[agV]using h);refine⟨v,by simpa using e,?_⟩;rw[abX]at q;exact q
theorem zX(hN:N.length=nN)(hle:n≤nN)(hl:as.length=n)(nd:(ads β).Nodup)(ra:RelAs K H as vs β)(hb:K.eb.np≤(agO as).length)(hx:Ext K.eb.np K.eb.be K.eb.H β H):Rel K β (ia nN as) (start N vs) H:=by
 obtain⟨h1,h2,h3⟩:=ra.facts (pre:=[]);have hvl:as.length=vs.length:=ra.length;refine⟨nd,by rw[<-h1];rfl,h2,?_,fun i r e=>?_,by rw[<-h1];exact Io _,hb,hx⟩
 .unfold start ia;simp only[aap,oR,abH,da];omega
 .have e':(agV 0 as++aat (nN-as.length) none)[i]?=some (some r):=e
  by_cases hi:i<as.length
  .rw[aaX (by rw[da];exact hi)]at e';obtain⟨v,ev,q⟩:=h3 i r e';refine⟨v,?_,by simpa using q⟩;unfold start;rw[aaX (by rw[oR];omega),aak,ev];rfl
  .rw[aaU (by rw[da];omega),aej]at e'
   split at e'<;>cases e'
theorem u4{m':MSt}(ra:RelAs K H as vs β)(hn:m'.np=(agO as).length)(R':Rel K α' m' σ' H')(x:Ext (agO as).length β H α' H'):yh K H' β (m'.os.take m'.np)/\Frm β H H'/\β=α'.take (agO as).length:=by
 obtain⟨h1,h2,h3⟩:=ra.facts (pre:=[]);have e1:α'.take (agO as).length=β:=by rw[x.pre,h1,aag]
 refine⟨⟨?_,fun j a ds z1 z2=>?_⟩,x.frm,e1.symm⟩
 .have:=R'.npl;rw[R'.len]at this;rw[aaJ,hn,<-h1];omega
 .rw[<-e1,aaR]at z1;rw[hn,aaR]at z2
  by_cases hj:j<(agO as).length
  .rw[if_pos hj]at z1 z2;exact R'.own j a ds z1 z2
  .rw[if_neg hj]at z1;cases z1
theorem IA{m':MSt}(hn:m'.np=(agO as).length)(R':Rel K α' m' σ' H')(x:Ext (agO as).length β H α' H')(eβ:β=α'.take (agO as).length)(rr:RelR K α' H H' r v)
  (ok:∀k p,r = .at k p->k<m'.np\/(p=[]/\∃t,m'.os[k]?=some [t])):RelR K β H H' (outR m' r) v:=by
 have out:∀{k:Nat}{ao:Ao},¬k<m'.np->α'[k]?=some ao->∀b∈ao.ads,H b=none:=fun {k ao} hk ea b hb=>by
  rcases x.new b (ji ea hb)with z|z
  .exfalso;rw[eβ]at z;obtain⟨j,ao',ej,hm⟩:=iq z;rw[aaR]at ej
   by_cases hj:j<(agO as).length
   .rw[if_pos hj]at ej;exact gm R'.nd ea ej (by omega) hb hm
   .rw[if_neg hj]at ej;cases ej
  .exact z
 have inb:∀{k:Nat}{ao:Ao},k<m'.np->α'[k]?=some ao->β[k]?=some ao:=fun {k ao} hk ea=>by
  rw[eβ,aaR,if_pos (by rw[<-hn];exact hk)];exact ea
 cases r with
 |imm d=>exact rr
 |new ds=>exact rr
 |newT t=>exact rr
 | obj k =>
  obtain⟨a,ea,rfl⟩:=rr;unfold outR
  by_cases hk:k<m'.np
  .simp only[hk,if_true];exact⟨a,inb hk ea,rfl⟩
  .simp only[hk,if_false];have hk2:k<m'.os.length:=by rw[<-R'.len];exact(aad.mp ea).1
   have e3:m'.os[k]?=some (m'.os.getD k []):=by rw[aax,Ge hk2];rfl
   obtain⟨xs,y1,y2⟩:=R'.own k _ _ ea e3;exact⟨a,xs,rfl,out hk ea a (aah.mpr rfl),y1,y2⟩
 | «at» k p =>
  obtain⟨τ,a,ea,el,rfl⟩:=rr;unfold outR
  by_cases hk:k<m'.np
  .simp only[hk,if_true];exact⟨τ,a,inb hk ea,el,rfl⟩
  .simp only[hk,if_false];rcases ok k p rfl with z|⟨rfl,t,et⟩
   .exact(hk z).elim
   .rw[et];have g:=R'.own k _ _ ea et;exact⟨τ,a,rfl,el,((gL α').mp R'.nd).1 _ (aae ea),out hk ea,g⟩
def okR(m:MSt):R->Prop
 | .at k p=>k<m.np\/(p=[]/\∃t,m.os[k]?=some [t])
 |_=>True
theorem okR.at{m:MSt}(h:okR m r):∀k p,r = .at k p->k<m.np\/(p=[]/\∃t,m.os[k]?=some [t]):=fun k p e=>by subst e;exact h
def retK(Kc:R->List (List iO)->Prop)(m:MSt):R->Prop
 | .at k p=>okR m (.at k p)/\Kc (outR m (.at k p)) (m.os.take m.np)
 | .imm d=>Kc (.imm d) (m.os.take m.np)
 | .new ds=>Kc (.new ds) (m.os.take m.np)
 | .obj k=>Kc (outR m (.obj k)) (m.os.take m.np)
 | .newT t=>Kc (.newT t) (m.os.take m.np)
theorem retK.ok{Kc:R->List (List iO)->Prop}{m:MSt}(h:retK Kc m r):okR m r/\Kc (outR m r) (m.os.take m.np):=by
 cases r with
 | «at» k p=>exact h
 |imm d=>exact⟨trivial,h⟩
 |new ds=>exact⟨trivial,h⟩
 |obj k=>exact⟨trivial,h⟩
 |newT t=>exact⟨trivial,h⟩
theorem fn_m{E:XK}(he:K.eb=⟨0,[],fun _=>none⟩)(h:spOf K n sp vs H Q E)(hN:N.length=nN)(hle:n≤nN)
  (hw:∀as Kc,as.length=n->sp as Kc->w {nx:=fun m=>Kc (.imm .none) (m.os.take m.np),rt:=fun r m=>retK Kc m r} (ia nN as)):tMS K w {nx:=fun _ H'=>Q .non H',rt:=Q} (start N vs) H:=by
 obtain⟨as,β,Kc,hl,nd,ra,hsp,fin⟩:=h;have R0:Rel K β (ia nN as) (start N vs) H:=zX hN hle hl nd ra (by rw[he];exact acL _) (by rw[he];exact⟨rfl,fun _ _ z=>(by cases z),fun _ _=>.inr rfl,fun a ha=>(by cases ha)⟩);refine⟨β,ia nN as,_,R0,hw as Kc hl hsp,⟨fun α' m' σ' H' q hn R' x=>?_,fun r α' m' σ' v H' q hn R' rr x=>?_,fun _ _ _ _ z=>z.elim,fun _ _ _ _ z=>z.elim⟩⟩
 .obtain⟨O,F,_⟩:=u4 ra hn R' x;exact fin _ _ .non H' q O xY F
 .obtain⟨O,F,eβ⟩:=u4 ra hn R' x;have q':=retK.ok q;exact fin _ _ v H' q'.2 O (IA hn R' x eβ rr q'.1.at) F
end
structure FnM(P:aaW)(w:World)(K:aaj)(mg:Str->Option GE)(base:aa4)(x:Str)(k n:Nat)(sp:SpM):Prop where
 ex:∃(f:Addr) (fd:ac5) (ps:List Str),FnOk P w K mg base CX0 k f fd ps (spOf ⟨K,w⟩ n sp)/\mg x=some (.ref f)/\adM K (.ref f)=true/\Binds K fd ps []
 ar:∀as Kc,sp as Kc->as.length=n
structure DefM(K:aaj)(mg:Str->Option GE)(x:Str)(st:Stmt)(ps:List Str):Prop where
 ex:∃(f:Addr) (fd:ac5),Fun K x x st f fd/\mg x=some (.ref f)/\Binds K fd ps []
theorem QQ{P:aaW}{w:World}{K:aaj}{base:aa4}{k:Nat}(D:DefM K mg x st ps)(S:ap N ps (ab st))(hn:ps.length=n)(hN:N.length=nN)(hle:n≤nN)(ar:∀as Kc,sp as Kc->as.length=n)
  (hbody:∀(cdv:GE) (A:abx) (outer:List Env) (s:aaa) (H:Hp) (E:XK) (f:Addr),Room k (A.deeper (ae0 x (ab st) s.heap.objs.size f cdv)) ->
   ∃ww,MSs (cxOf CX0 P w K mg base N x (ab st) f cdv A outer s H E).nox (dM st) ww/\∀as Kc,as.length=n->sp as Kc->ww {nx:=fun m=>Kc (.imm .none) (m.os.take m.np),rt:=fun r m=>retK Kc m r} (ia nN as)) :
  FnM P w K mg base x (k+1) n sp:=by
 obtain⟨f,fd,F,hm,hb⟩:=D.ex;refine⟨⟨f,fd,ps,F.ok S (fun vs H Q E h=>by rw[hn];exact h.len) (fun cdv A outer s H vs Q E hr h=>?_),hm,F.kp,hb⟩,ar⟩;obtain⟨ww,h1,h2⟩:=hbody cdv A outer s H E f hr;exact⟨_,h1,fn_m (K:=(cxOf CX0 P w K mg base N x (ab st) f cdv A outer s H E).nox.kx) rfl h hN hle h2⟩
section
variable {X:Cx}{a:Expr}{es:List Expr}{ws:WA}{pos p:Pos}{k n:Nat}{sp:SpM}{x:Str}
theorem Bw(F:FnM X.prog X.w X.K X.mg X.base x k n sp)(hr:Room k X.A)(ha:MA X (a::es) ws)(hg:Gl X x:=by rfl)(hdb:(x==("__debug__" : Str))=false:=by decide)(he:aao (a::es) X.env=(false,eval a X.env)::aao es X.env:=by first|exact aV rfl|rfl)(hpl:(ace pos (aao es X.env)).any (·.1)=false:=by rfl) :
  ME X (.Call (.Name x p) (a::es) [] pos) (zT sp ws):=by
 obtain⟨f,fd,ps,G,hm,hk,hb⟩:=F.ex;exact Gu (E:=E0) G hr hg hm hk hb SI F.ar ha hdb he hpl
theorem Room.u200{k:Nat}{A:abx}(r:Room k A):A.units+200<cLine:=by have:=r.un;omega
theorem fE:abj "len" = some (.builtin "len"):=by decide +kernel
theorem wy:abj "abs" = some (.builtin "abs"):=by decide +kernel
theorem u9:abj "sum" = some (.builtin "sum"):=by decide +kernel
theorem Fe:abj "max" = some (.builtin "max"):=by decide +kernel
theorem na:abj "repr" = some (.builtin "repr"):=by decide +kernel
theorem GW:abj "list" = some (.type "list"):=by decide +kernel
theorem fq:abj "tuple" = some (.type "tuple"):=by decide +kernel
theorem p8:abj "enumerate" = some (.type "enumerate"):=by decide +kernel
end
section
variable {m:MSt}{K:R->MSt->Prop}{Kb:Bool->MSt->Prop}{Ka:List R->MSt->Prop}{Kr:R->Prop}{D:dY}{wa wb wc we wo wi:WE}{ws:WA}{wt wu:WT}{w u:WS}{o:WO}{d:iO}{r r1 r2:R}{i j:Int}{k:Nat}
theorem vz(h:w {D with nx:=fun m'=>u D m' } m):wSeq w u D m:=h
theorem Nw(h:D.nx m):Jn D m:=h
theorem Re(h:wa m fun r1 m1=>wb m1 fun r2 m2=>o r1 r2 m2 fun r=>K r m2):wBin o wa wb m K:=h
theorem JG(e:m.vs[n]?=some (some r))(h:K r m):wVar n m K:=⟨r,e,h⟩
theorem x_c(h:K (.imm d) m):wC d m K:=h
theorem Qr(h:we m fun r m'=>D.rt r m'):wRet we D m:=h
theorem Ph(h:we m fun _ m'=>D.nx m'):G9 we D m:=h
theorem Rj(h:wt m fun c m'=>if c=true then w D m' else u D m'):wIfS wt w u D m:=h
theorem Ku(h:we m fun r m'=>onBl (fun k=>Kb k m') r):v3 we m Kb:=h
theorem QR(h:wt m fun c m1=>if c=true then wu m1 Kb else Kb false m1):wAnd wt wu m Kb:=h
theorem x_or(h:wt m fun c m1=>if c=true then Kb true m1 else wu m1 Kb):wOr wt wu m Kb:=h
theorem SW(h:wt m fun c m1=>Kb (!c) m1):wNot wt m Kb:=h
theorem Ld{P:Bool->Prop}{b:Bool}(h:P b):onBl P (.imm (.bool b)):=h
theorem GG{P:Int->Prop}(h:P i):qQ P (.imm (.int i)):=h
theorem IK{P:Nat->Prop}(h:P k):sY P (.obj k):=h
theorem JQ{P:iO->Prop}(h:P d):e8 P (.imm d):=h
theorem Sg{P:R->Prop}(h:P r):on1 P [r]:=h
theorem kU(h:A):if true=true then A else B:=by rw[if_pos rfl];exact h
theorem ip(h:B):if false=true then A else B:=by rw[if_neg aaB];exact h
theorem aU{c:Prop}[Decidable c](h1:c->A)(h2:¬c->B):if decide c=true then A else B:=by
 by_cases h:c
 .rw[if_pos (decide_eq_true h)];exact h1 h
 .rw[if_neg (by rw[decide_eq_false h];exact aaB)];exact h2 h
theorem x_un{ob:WU}(h:wa m fun r1 m1=>ob r1 m1 fun r=>K r m1):wUn ob wa m K:=h
theorem Sj(h:Kr (.imm (.int (-i)))):uNeg (.imm (.int i)) m Kr:=h
theorem QJ(h:we m fun r m'=>match r with| .imm d=>K (.imm d) m' | .new ds=>K (.imm (.list ds)) m'|_=>False):wImm we m K:=h
theorem Sf(h:Ka [] m):wNil m Ka:=h
theorem LU(h:we m fun r m1=>ws m1 fun rs m2=>Ka (r::rs) m2):J7 we ws m Ka:=h
theorem QY(h:ws m fun rs m'=>y9 (fun ds=>K (.imm (.tuple ds)) m') (fB rs)):wTup ws m K:=h
theorem Qk(h:ws m fun rs m'=>y9 (fun ds=>K (.new ds) m') (fB rs)):wLst ws m K:=h
theorem SD{rs:List R}{P:List iO->Prop}(e:fB rs=some ds)(hz:ds.length≤aam)(h:P ds):y9 P (fB rs):=by rw[e];exact⟨hz,h⟩
theorem x_cb{oc:WC}(h:ws m fun rs m1=>oc rs m1 fun r=>K r m1):wCB oc ws m K:=h
theorem Ox(h:ws m fun rs m1=>match iE m1 rs with|some (as,ks)=>ks.Nodup/\sp as fun r outs=>K (mapR ks r) {m1 with os:=cz m1.os ks outs}|none=>False):zT sp ws m K:=h
theorem Qu{rs:List R}{P:List Ag->List Nat->Prop}(e:iE m rs=some (as,ks))(hn:ks.Nodup)(h:P as ks):match iE m rs with|some (as,ks)=>ks.Nodup/\P as ks|none=>False:=by rw[e];exact⟨hn,h⟩
theorem y7(h:we m fun r m'=>qp n D.nx m' r):wSet n we D m:=h
theorem fu(h:P (m.setV n (.imm d))):qp n P m (.imm d):=.inl h
theorem cP(h:P {vs:=m.vs.set n (some (.obj m.os.length)),os:=m.os++[ds],np:=m.np}):qp n P m (.new ds):=.inl (.inl h)
theorem QM(h:we m fun r m'=>e8 (fun d=>g d m' D.nx) r):wAsg we g D m:=h
theorem Sk{n':Nat}(h:ws m fun rs m'=>match rs with|[.imm d1,.imm d2]=>D.nx ((m'.setV n (.imm d1)).setV n' (.imm d2))|_=>False):wPar n n' ws D m:=h
theorem OY(h:we m fun rv m1=>e8 (fun d=>wo m1 fun ro m2=>wi m2 fun ri m3=>sY (fun k=>qQ (fun z=>∃ds j,m3.os[k]?=some ds/\ixN ds.length z=some j/\D.nx {m3 with os:=m3.os.set k (ds.set j d)}) ri) ro) rv):Ig we wo wi D m:=h
theorem OW{k:Nat}{z:Int}{P:List iO->Nat->Prop}(e1:m.os[k]?=some ds)(e2:ixN ds.length z=some n)(h:P ds n):∃ds j,m.os[k]?=some ds/\ixN ds.length z=some j/\P ds j:=⟨ds,n,e1,e2,h⟩
theorem x_ml{ob:WM}(h:wo m fun r m1=>(∃ds,lsOf m1 r=some ds)/\ws m1 fun rs m2=>ob r rs m2 K):wML ob wo ws m K:=h
theorem x_ls{P:Prop}(e:lsOf m r=some ds)(h:P):(∃ds,lsOf m r=some ds)/\P:=⟨⟨ds,e⟩,h⟩
theorem Df(e:m.os[k]?=some ds)(hz:ds.length<aam)(h:K (.imm .none) {m with os:=m.os.set k (ds++[d])}):wY (.obj k) [.imm d] m K:=⟨ds,e,hz,h⟩
theorem E8(h:Kr (.imm (.int (i+j)))):oAdd (.imm (.int i)) (.imm (.int j)) m Kr:=h
theorem jI{a b:List iO}(hz:a.length+b.length≤aam)(h:Kr (.imm (.tuple (a++b)))):oAdd (.imm (.tuple a)) (.imm (.tuple b)) m Kr:=⟨hz,h⟩
theorem Jv{a b:List iO}(e:m.os[k]?=some a)(hz:a.length+b.length≤aam)(h:Kr (.new (a++b))):oAdd (.obj k) (.new b) m Kr:=⟨a,b,e,rfl,hz,h⟩
theorem Nh(h:Kr (.imm (.int (i-j)))):oSub (.imm (.int i)) (.imm (.int j)) m Kr:=⟨trivial,h⟩
theorem kw(hc:CFd i j)(h:Kr (.imm (.int (i/j)))):J9 (.imm (.int i)) (.imm (.int j)) m Kr:=⟨hc,h⟩
theorem GV(hc:0<j)(h:Kr (.imm (.int (i%j)))):oMod (.imm (.int i)) (.imm (.int j)) m Kr:=⟨hc,h⟩
theorem nU(hc:CFn i j)(h:Kr (.imm (.int (i.fdiv j)))):DQ (.imm (.int i)) (.imm (.int j)) m Kr:=⟨hc,h⟩
theorem QW(hc:CPow i j)(h:Kr (.imm (.int (i^j.toNat)))):oPow (.imm (.int i)) (.imm (.int j)) m Kr:=⟨hc,h⟩
theorem x_lt(h:Kr (.imm (.bool (decide (i<j))))):oLt (.imm (.int i)) (.imm (.int j)) m Kr:=h
theorem x_le(h:Kr (.imm (.bool (decide (i≤j))))):oLe (.imm (.int i)) (.imm (.int j)) m Kr:=h
theorem x_gt(h:Kr (.imm (.bool (decide (j<i))))):oGt (.imm (.int i)) (.imm (.int j)) m Kr:=h
theorem x_ge(h:Kr (.imm (.bool (decide (j≤i))))):oGe (.imm (.int i)) (.imm (.int j)) m Kr:=h
theorem x_eq{d1 d2:iO}(e1:asD m r1=some d1)(e2:asD m r2=some d2)(s1:adv d1=true)(s2:adv d2=true)(h:Kr (.imm (.bool (aaw d1 d2)))):oEq r1 r2 m Kr:=by refine agP ?_;unfold eqD;rw[e1,e2];exact⟨s1,s2,h⟩
theorem x_ne{d1 d2:iO}(e1:asD m r1=some d1)(e2:asD m r2=some d2)(s1:adv d1=true)(s2:adv d2=true)(h:Kr (.imm (.bool (!aaw d1 d2)))):oNe r1 r2 m Kr:=by refine agP ?_;unfold eqD;rw[e1,e2];exact⟨s1,s2,h⟩
theorem Qm(h:Kr (.imm (.bool (decide (i=j))))):oEq (.imm (.int i)) (.imm (.int j)) m Kr:=x_eq rfl rfl rfl rfl (by simp only[aaw];rw[acl];exact h)
theorem QF(h:Kr (.imm (.bool (decide (i≠j))))):oNe (.imm (.int i)) (.imm (.int j)) m Kr:=x_ne rfl rfl rfl rfl (by simp only[aaw];rw[acl,<-decide_not];exact h)
theorem RH(h:Kr (.imm (.bool (decide (x=y))))):oEq (.imm (.str x)) (.imm (.str y)) m Kr:=adu (agP ⟨x,y,rfl,rfl,h⟩)
theorem RJ(h:Kr (.imm (.bool (!decide (x=y))))):oNe (.imm (.str x)) (.imm (.str y)) m Kr:=adu ⟨x,y,rfl,rfl,h⟩
theorem BJ(h:Kr (.imm (.bool (!yI r)))):xI r (.imm .none) m Kr:=⟨rfl,h⟩
theorem bc(e:atI ds i=some d)(h:Kr (.imm d)):pK (.imm (.tuple ds)) (.imm (.int i)) m Kr:=⟨d,e,h⟩
theorem on(e:atI ds i=some d)(h:Kr (.imm d)):pK (.imm (.list ds)) (.imm (.int i)) m Kr:=⟨ds,d,rfl,e,h⟩
theorem tf(e1:m.os[k]?=some ds)(e:atI ds i=some d)(h:Kr (.imm d)):pK (.obj k) (.imm (.int i)) m Kr:=⟨ds,d,e1,e,h⟩
theorem kz(e:atI ds i=some d)(h:Kr (.imm d)):pK (.new ds) (.imm (.int i)) m Kr:=⟨ds,d,rfl,e,h⟩
theorem QE{rs:List R}(h:on1 (lenR m Kr) rs):oLen rs m Kr:=h
theorem Md(h:Kr (.imm (.int ds.length))):lenR m Kr (.imm (.tuple ds)):=h
theorem KQ(h:Kr (.imm (.int ds.length))):lenR m Kr (.imm (.list ds)):=⟨ds,rfl,h⟩
theorem Qf(e:m.os[k]?=some ds)(h:Kr (.imm (.int ds.length))):lenR m Kr (.obj k):=⟨ds,e,h⟩
theorem Sw(h:Kr (.imm (.int (if i<0 then -i else i)))):oAbs [.imm (.int i)] m Kr:=h
theorem Oy(e:sqOf m r=some ds)(h:Kr (.new ds)):MR [r] m Kr:=⟨ds,e,h⟩
theorem GH(e:sqOf m r=some ds)(h:Kr (.imm (.tuple ds))):D6 [r] m Kr:=⟨ds,e,h⟩
theorem OJ(e:asD m r=some d)(h1:d.showable=true)(h2:d.hasDict=false)(h3:d.shown.length≤aam)(h4:d.depth≤100)(h:Kr (.imm (.str d.shown))):J3 [r] m Kr:=⟨d,e,h1,h2,h3,h4,h⟩
theorem x_sl(h:we m fun r m1=>wl m1 fun l m2=>wh m2 fun u m3=>ob r l u m3 fun r'=>K r' m3):wSl ob we wl wh m K:=h
theorem Cf(h:Ko none m):rg m Ko:=h
theorem OA(h:we m fun r m'=>qQ (fun i=>Ko (some i) m') r):Ii we m Ko:=h
theorem x_gM(h:P (m.setV n (.imm d))):gM n d m P:=h
theorem Qb(h:P m):GQ [] m P:=⟨rfl,h⟩
theorem GN(h:g d m fun m'=>gs ds m' P):wR g gs (d::ds) m P:=h
theorem LJ(e:ds.length=n)(h:gs ds m P):Cr n gs (.tuple ds) m P:=⟨e,h⟩
theorem SK{wi:WI}(h:wi m fun s m1=>iz s g w D m1):wFor wi g w D m:=h
theorem Oz(h:we m fun r m'=>srcR m' Ks r):IM we m Ks:=h
theorem KL(h:Ks ⟨ds,none⟩ m):srcR m Ks (.imm (.list ds)):=h
theorem LP(h:Ks ⟨ds,none⟩ m):srcR m Ks (.imm (.tuple ds)):=h
theorem ON(e:m.os[k]?=some ds)(h:Ks ⟨ds,some k⟩ m):srcR m Ks (.obj k):=⟨ds,e,h⟩
theorem PK(h:ws m fun rs m'=>match rs with|[.imm (.int j)]=>-(2^62)≤j/\j<2^62/\Ks ⟨gH 0 j.toNat,none⟩ m'|_=>False):zg ws m Ks:=h
theorem QL(h:wt m fun b m'=>if b=true then w D m' else D.nx m'):wIfT wt w D m:=h
theorem Dy(h:Kb true m):sw m Kb:=h
theorem Ol(h:we m fun r m'=>e8 (fun d=>∃ds,m'.os[q]?=some ds/\ds.length<aam/\D.nx {m' with os:=m'.os.set q (ds++[d])}) r):vX q we D m:=h
end
theorem ak{D:dY}{m:MSt}(m':MSt)(e:m=m')(h:w D m'):w D m:=e▸h
theorem Rb{i j:Int}(h:(-18446744073709551616<i/\i<18446744073709551616)\/(-18446744073709551616<j/\j<18446744073709551616)):afV i j:=CMul.ok (by unfold CMul;exact h)
theorem cfd{i j:Int}(h0:0<j)(h1:j<1152921504606846976):CFd i j:=⟨h0,by
 have:j.natAbs<2^60:=by omega
 have:=(agR (by omega)).mpr this;omega⟩
theorem gU:∀ns:List Int,abi (ns.map .int)=true
 |[]=>rfl
 |n::ns=>by simp only[aai,abi,ah6,gU ns,ahh]
theorem jb:∀ns:List Int,aaC (ns.map .int)≤1
 |[]=>acL 1
 |n::ns=>by
  have:=jb ns;rw[aai];simp only[aaC,PyData.depth];omega
theorem rh(ns:List Int):adv (.list (ns.map .int))=true:=by
 have h:=jb ns;have h2:(ahW (ns.map .int)).depth≤64:=by simp only[PyData.depth];omega
 have h3:(ahW (ns.map .int)).canLay0=true:=by simp only[ah6,gU]
 unfold adv;rw[h3,decide_eq_true h2];rfl
theorem K7{α:Type}{xs:List α}{i:Int}(h0:0≤i)(h1:i<xs.length):∃d,xs[i.toNat]?=some d/\atI xs i=some d:=by
 have hl:i.toNat<xs.length:=by omega
 refine⟨xs[i.toNat],Ge hl,?_⟩;unfold atI ixN;rw[if_pos h0,if_pos h1];exact Ge hl
theorem Db{i:Int}(h0:0≤i)(h1:i<ns.length):∃x:Int,atI (ns.map abN) i=some (.int x):=by
 obtain⟨d,e,h⟩:=K7 (xs:=ns.map abN) h0 (by rw[oR];exact h1);rw[aak]at e
 cases q:ns[i.toNat]? with
 |none=>rw[q]at e;cases e
 |some x=>rw[q]at e;cases e;exact⟨x,h⟩
section
variable {X:Cx}{tg a b c e:Expr}{es:List Expr}{wo wa wb wc we wi:WE}{ws:WA}{pos p p2:Pos}
def d8:List iO->Option (List Int)
 |[]=>some []
 | .int i::ds=>(d8 ds).map (i :: ·)
 |_::_=>none
theorem iQ(h:d8 ds=some ns):ds=ns.map .int:=by
 induction ds generalizing ns with
 |nil=>cases h;rfl
 | cons d ds ih =>
  cases d with
  |int i =>
   simp only[d8]at h
   cases q:d8 ds with
   |none=>rw[q]at h;cases h
   |some ms=>rw[q]at h;cases h;rw[ih q];rfl
  |none=>cases h
  |bool _=>cases h
  |str _=>cases h
  |list _=>cases h
  |tuple _=>cases h
  |dict _=>cases h
theorem fi:∀ns:List Int,d8 (ns.map .int)=some ns
 |[]=>rfl
 |n::ns=>by simp only[aai,d8,fi ns,acy]
theorem fo{K:Kd}{H:Hp}:∀{ns:List Int}{xs:List V},DenAll K H (ns.map .int) xs->xs=ns.map V.int
 |[],_,h=>by simpa only[ab4,DenAll]using h
 |n::ns,_,h=>by
  simp only[aai,DenAll]at h;obtain⟨v,vs,rfl,h1,h2⟩:=h;have e:=aM (K:=K) (H:=H) h1;rw[e,fo h2];rfl
def oSum:WC:=fun rs m K=>on1 (fun r=>∃ds ns,lsOf m r=some ds/\d8 ds=some ns/\K (.imm (.int ns.sum))) rs
theorem wG(hc:X.calm=true):dU X (.builtin "sum") (cM X.kx oSum):=by
 rintro pins s σ' H xs us Q I rv ⟨α,m,σ,H0,rs,Kc,Rl,h,ho,fin⟩;obtain⟨r,v,rfl,rfl,h1,ds,ns,el,ei,ho⟩:=fz h ho;obtain⟨a,ys,rfl,f,g⟩:=h1.list Rl el;rw[iQ ei]at g;have ey:=fo g;subst ey;obtain⟨u,rfl,ru⟩:=rv.one;cases ru;obtain⟨its,rv1,pl,_⟩:=I.list f;have hi:=jg rv1;have hall:AllInts its.toArray:=hi.allInts;obtain⟨xs,ex⟩:=hall.items;have hl:s.heap.IsList a (intItems xs):=by rw[<-ex];exact pl.isList
 refine sum_intListG (I.ok.hd hc) hl fun h' tk t' hk=>?_;have e1:preSum (numAt xs) xs.size=ns.sum:=by
  have e2:(numsOf its).sum=ns.sum:=by rw[hi.numsOf]
  rw[<-e2];have e3:=congrArg aht ex;have e4:its=(intItems xs).toList:=by simpa using e3
  rw[e4,nums_intItems,preSum_eq,adx (by simp)]
 rw[e1];exact⟨.int ns.sum,H,I.kept (t':=tk) hk,⟨_,rfl⟩,fin _ _ H ho Rl (fI _) (Frm.refl _ _)⟩
end
theorem bJ{D:dY}(P:Nat->MSt->Prop)(p0:P 0 m1)
  (step:∀(i:Nat) (d:iO) (m:MSt),ds[i]?=some d->m.np=m1.np->P i m->g d m fun m2=>w {nx:=P (i+1),ct:=P (i+1),bk:=fun m'=>D.nx (m'.setN m1.np),rt:=fun r m'=>D.rt r (m'.setN m1.np)} m2)
  (fin:∀m,m.np=m1.np->P ds.length m->D.nx m):iz ⟨ds,none⟩ g w D m1:=by
 refine⟨P,p0,fun i d m e n p=>⟨trivial,step i d m e n p⟩,fun m n p=>⟨trivial,?_⟩⟩;have e:m.setN m1.np=m:=by
  obtain⟨a,b,c⟩:=m;have n':c=m1.np:=n;subst n';rfl
 rw[e];exact fin m n p
theorem oi{k:Nat}{D:dY}(P:Nat->MSt->Prop)(p0:P 0 (m1.setN (max m1.np (k+1))))
  (ok:∀i m,P i m->m.os[k]?=some ds)
  (step:∀(i:Nat) (d:iO) (m:MSt),ds[i]?=some d->m.np=max m1.np (k+1)->P i m->g d m fun m2=>w {nx:=P (i+1),ct:=P (i+1),bk:=fun m'=>D.nx (m'.setN m1.np),rt:=fun r m'=>D.rt r (m'.setN m1.np)} m2)
  (fin:∀m,m.np=max m1.np (k+1)->P ds.length m->D.nx (m.setN m1.np)):iz ⟨ds,some k⟩ g w D m1 :=
 ⟨P,p0,fun i d m e n p=>⟨ok i m p,step i d m e n p⟩,fun m n p=>⟨ok _ m p,fin m n p⟩⟩
theorem sU{t:WT}{D:dY}{m0:MSt}(P:Nat->MSt->Prop)(n0:Nat)(p0:P n0 m0)
  (step:∀n m,m.np=m0.np->P n m->t m fun c m'=>if c=true then w {D with nx:=fun m2=>∃n',n'<n/\P n' m2,ct:=fun m2=>∃n',n'<n/\P n' m2,bk:=D.nx} m' else D.nx m'):xT t w D m0:=⟨P,⟨n0,p0⟩,step⟩
theorem AH(h:ds.length≤n):cutD ds none (some (n:Int))=ds:=by
 unfold cutD;rw[HT.sIx_none,HT.sIx_nat,afZ h,ahB,agS,aag]
theorem JH{m:MSt}{K:R->MSt->Prop}{ps:List Nat}(h:wi m fun s m1=>iz s g (wIfT tt (vX m1.os.length we)) {nx:=fun m'=>K (.new (m'.os.getD m1.os.length [])) {m1 with os:=m'.os.take m1.os.length},rt:=fun _ _=>False} (jp own ps m1)):lz wi own ps g tt we m K:=h
theorem Iu{m:MSt}{K:R->MSt->Prop}{wi2:WI}{ps:List Nat}{g2:WG}{tt2:WT}(h:wi m fun s m1=>iz s g (wIfT tt fun D m2=>wi2 m2 fun s2 m3=>iz s2 g2 (wIfT tt2 (vX m1.os.length we)) D m3) {nx:=fun m'=>K (.new (m'.os.getD m1.os.length [])) {m1 with os:=m'.os.take m1.os.length},rt:=fun _ _=>False} (jp own ps m1)):vi wi own ps g tt wi2 g2 tt2 we m K:=h
theorem J8{k:Nat}(h:k<n):ixN n (k:Int)=some k:=by
 unfold ixN;rw[if_pos (by omega),if_pos (by omega)];simp
theorem vE{k:Nat}{m:MSt}(h1:m.vs[n]?=some (some (.obj k)))(h2:m.np≤k)(h3:∀j:Nat,j≠n->m.vs[j]?≠some (some (.obj k)))(h:P {m with os:=m.os.set k ds}):qp n P m (.new ds):=.inr ⟨k,h1,h2,h3,h⟩
theorem bm{α:Type}{xs:List α}{k:Nat}{d x:α}(h:xs[k]?=some x):xs.getD k d=x:=by
 rw[aax,h];rfl
theorem x_JS{m:MSt}{D:dY}(Φ:MSt->Prop)(h:∀N:MSt->Prop,(∀m',Φ m'->N m')->w {D with nx:=N} m)(J:∀m',Φ m'->D.nx m'):w D m:=h D.nx J
structure Fine(n k:Nat)(d:iO):Prop where
 sh:d.showable=true
 nd:d.hasDict=false
 ln:d.shown.length≤n
 dp:d.depth≤k
theorem Fine.mono{k n' k':Nat}{d:iO}(h:Fine n k d)(hn:n≤n')(hk:k≤k'):Fine n' k' d:=⟨h.sh,h.nd,aaz h.ln hn,aaz h.dp hk⟩
theorem wj{k:Nat}(h:n<2^k)(hk:0<k):n.log2<k:=by
 by_cases h0:n=0
 .subst h0;rw[Nat.log2_zero];exact hk
 .rw[agR h0];exact h
theorem tQ{i:Int}(h:i.natAbs<10^12):Fine 13 0 (.int i):=by
 refine⟨?_,rfl,iO.shown_int_le h,Io _⟩;have:i.natAbs.log2<40:=wj (aaA h (by decide)) (by decide);show decide (i.natAbs.log2<1920)=true;apply decide_eq_true;omega
theorem u3{n k:Nat}:∀{ds:List iO},(∀d∈ds,Fine n k d)->ahm ds=true/\acv ds=false/\((ac2 ds).map (·.length)).sum≤ds.length*n/\(ac2 ds).length=ds.length/\aaC ds≤k
 |[],_=>⟨rfl,rfl,by simp[ac2],rfl,by simp[aaC]⟩
 |d::ds,h=>by
  obtain⟨h1,h2,h3,h4,h5⟩:=u3 fun d' h'=>h d' (aab _ h');have h0:=h d aaf;refine⟨?_,?_,?_,?_,?_⟩
  .show(d.showable&&ahm ds)=true;rw[h0.sh,h1];rfl
  .show(d.hasDict||acv ds)=false;rw[h0.nd,h2];rfl
  .show(d.shown.length::(ac2 ds).map (·.length)).sum≤_;rw[abo,aaD,aet];have:=h0.ln;omega
  .show(ac2 ds).length+1=_;rw[h4];rfl
  .show max d.depth (aaC ds)≤k;have:=h0.dp;omega
theorem cv{k c:Nat}(h:∀d∈ds,Fine n k d)(hc:ds.length≤c):Fine (c*(n+2)+3) (k+1) (.tuple ds):=by
 obtain⟨h1,h2,h3,h4,h5⟩:=u3 h;refine⟨h1,h2,?_,?_⟩
 .show(tupleText (ac2 ds)).length≤_;have:=tupleText_len_le (ac2 ds);have e:ds.length*(n+2)≤c*(n+2):=aeP _ hc;rw[Nat.mul_add]at e;rw[h4]at this;omega
 .show aaC ds+1≤_;omega
structure Shp(k:Nat)(d:iO):Prop where
 cl:d.canLay0=true
 dp:d.depth≤k
theorem jK(i:Int):Shp 0 (.int i):=⟨rfl,Io _⟩
theorem tz{k:Nat}:∀{ds:List iO},(∀d∈ds,Shp k d)->abi ds=true/\aaC ds≤k
 |[],_=>⟨rfl,by simp[aaC]⟩
 |d::ds,h=>by
  obtain⟨h1,h2⟩:=tz fun d' h'=>h d' (aab _ h');have h0:=h d aaf;refine⟨?_,?_⟩
  .simp only[abi];rw[h0.cl,h1];rfl
  .show max d.depth (aaC ds)≤k;have:=h0.dp;omega
theorem m6{m:MSt}{d:iO}{Kr:R->Prop}{k:Nat}(h:Fine n k d)(e:asD m r=some d)(hn:n≤16777216)(hk:k≤100)(hK:Kr (.imm (.str d.shown))):J3 [r] m Kr:=OJ e h.sh h.nd (by rw[aav];exact aaz h.ln hn) (aaz h.dp hk) hK
theorem vZ(hO:Only H)(h:SqL K H a (ns.map V.int)):Den K H (.list (ns.map .int)) (.ref a):=by
 simp only[Den];refine⟨a,_,rfl,?_,DenAll.ints _⟩;rcases h with(h|⟨o,h⟩)|h
 .rcases hO a with z|⟨o,xs,z⟩
  .rw[h]at z;cases z
  .rw[h]at z;cases z
 .exact .inl ⟨o,h⟩
 .exact .inr h
theorem Kg{P:aaW}{w:World}{K:aaj}{base:aa4}{k:Nat}(F:Fun K x x st f fd)(S:ap N ps (ab st))(hn:ps.length=n)(hN:N.length=nN)(hle:n≤nN)
  (hbody:∀(cdv:GE) (A:abx) (outer:List Env) (s:aaa) (H:Hp) (E:XK) (f:Addr),Room k (A.deeper (ae0 x (ab st) s.heap.objs.size f cdv)) ->
   ∃ww,MSs (cxOf CX0 P w K mg base N x (ab st) f cdv A outer s H E).nox (dM st) ww/\∀as Kc,as.length=n->sp as Kc->ww {nx:=fun m=>Kc (.imm .none) (m.os.take m.np),rt:=fun r m=>retK Kc m r} (ia nN as)) :
  FnOk P w K mg base CX0 (k+1) f fd ps (spOf ⟨K,w⟩ n sp):=by
 refine F.ok S (fun vs H Q E h=>by rw[hn];exact h.len) (fun cdv A outer s H vs Q E hr h=>?_);obtain⟨ww,h1,h2⟩:=hbody cdv A outer s H E f hr;exact⟨_,h1,fn_m (K:=(cxOf CX0 P w K mg base N x (ab st) f cdv A outer s H E).nox.kx) rfl h hN hle h2⟩
structure DefK(K:aaj)(x:Str)(st:Stmt):Prop where
 ex:∃(f:Addr) (fd:ac5),abq K aaQ x=some (some (.ref f))/\Fun K x x st f fd
theorem DefK.of{K:aaj}{oc kV doc pm cdv ct:GE}{an:Option Addr}{sl:Array (Option GE)}(a:abq K aaQ x=some (some (.ref f)))
  (l:K.lookup f=some ⟨oc,od,.func (adR x x (km st) (dM st) (ab st) .none kV doc pm an cdv ct),sl⟩) (c:afi K cdv x=true) (k:adM K (.ref f)=true):DefK K x st:=⟨f,_,a,KH l c k⟩
theorem DefK.m{K:aaj}{h:aa4}(D:DefK K x st)(X:K.In h)(G:h.Ns aaQ mg)(b:∀(f:Addr) (fd:ac5),Fun K x x st f fd->Binds K fd ps []):DefM K mg x st ps:=by
 obtain⟨f,fd,a,F⟩:=D.ex;exact⟨f,fd,F,ahi X G a,b f fd F⟩
structure EE(X:Cx)(e:Expr)(w:WE):Prop where
 h:ME X e w
structure ET(X:Cx)(e:Expr)(w:WT):Prop where
 h:MT X e w
structure EW(X:Cx)(e:Expr)(w:WT):Prop where
 h:MW X e w
structure EA(X:Cx)(es:List Expr)(w:WA):Prop where
 h:MA X es w
structure ES(X:Cx)(st:Stmt)(w:WS):Prop where
 h:MS X st w
structure ESs(X:Cx)(st:List Stmt)(w:WS):Prop where
 h:MSs X st w
structure EI(X:Cx)(tg e:Expr)(w:WI):Prop where
 h:MI X tg e w
structure EG(X:Cx)(t:Expr)(w:WG):Prop where
 h:MG X t w
structure EGs(X:Cx)(ts:List Expr)(w:WGs):Prop where
 h:MGs X ts w
structure EO(X:Cx)(e:Option Expr)(w:WO1):Prop where
 h:MO X e w
structure ETs(X:Cx)(ifs:List Expr)(w:WT):Prop where
 h:PTs X ifs (tMT X.kx w)
theorem EW.pt{w:WT}(h:EW X e w):ET X e w:=⟨h.h.pt⟩
section
variable {X:Cx}{a b c:Expr}{es:List Expr}{wa wb wc:WE}{pos:Pos}
theorem mh'{i j pos}:EE X (.Constant (.int i) j pos) (wC (.int i)):=⟨Km⟩
theorem Fc{i j pos}:EE X (.Constant (.bool i) j pos) (wC (.bool i)):=⟨Rh⟩
theorem aH{i j pos}:EE X (.Constant (.str i) j pos) (wC (.str i)):=⟨KJ⟩
theorem sN{j pos}:EE X (.Constant .none j pos) (wC .none):=⟨OX⟩
theorem mv'(i:Nat){pos:Pos}(hN:X.N[i]?=some x:=by rfl)(hv:Vis X.env.scope x:=by first|exact agP rfl|exact adu (agP rfl)|exact adu (adu rfl))(hd:(x==("__debug__" : Str))=false:=by decide)(hcd:(x==("__classdict__" : Str))=false:=by decide):EE X (.Name x pos) (wVar i):=⟨mv i hN hv hd hcd⟩
theorem ac{op:Operator}(ho:OpR X (ack op) (rM X.kx o))(ha:EE X a wa)(hb:EE X b wb):EE X (.BinOp a op b pos) (wBin o wa wb):=⟨Mh ho ha.h hb.h⟩
theorem tu(ho:OpR X (abK op) (rM X.kx o))(ha:EE X a wa)(hb:EE X b wb)(hm:ade op b=false):EE X (.Compare a [op] [b] pos) (wBin o wa wb):=⟨Lj ho ha.h hb.h hm⟩
theorem aF(ho:OpR X (abK op) (rM X.kx o))(ha:EE X a wa)(hb:EE X b wb)(hm:ade op b=false):ET X (.Compare a [op] [b] pos) (v3 (wBin o wa wb)):=⟨Lh ho ha.h hb.h hm⟩
theorem zG(ha:EE X a wa)(he:∀whole,isTrue a X.env whole=(do let v <- whole;adp a.pos;adK [v] (truthy v)):=by intro _;rfl):ET X a (v3 wa):=⟨Ow ha.h he⟩
end
section
variable {X:Cx}{a b c:Expr}{es:List Expr}{wa wb wc:WE}{pos:Pos}
variable {wt wu:WT}{rest:List Expr}
theorem BW(ha:ET X a wt):EW X (.BoolOp .And [a] pos) wt:=⟨Iw ha.h⟩
theorem GJ(ha:ET X a wt):EW X (.BoolOp .Or [a] pos) wt:=⟨L5 ha.h⟩
theorem IZ(ha:ET X a wt)(hb:EW X (.BoolOp .And (b::rest) pos) wu):EW X (.BoolOp .And (a::b::rest) pos) (wAnd wt wu):=⟨KR ha.h hb.h⟩
theorem Fm(ha:ET X a wt)(hb:EW X (.BoolOp .Or (b::rest) pos) wu):EW X (.BoolOp .Or (a::b::rest) pos) (wOr wt wu):=⟨QC ha.h hb.h⟩
theorem JX(ha:ET X a wt):ET X (.UnaryOp .Not a pos) (wNot wt):=⟨L4 ha.h⟩
theorem iw{op:UnaryOp}{o:WU}(ho:UnR X (unaryOp op) (uM X.kx o))(ha:EE X a wa):EE X (.UnaryOp op a pos) (wUn o wa):=⟨RE ho ha.h⟩
theorem ce(ha:EE X a wa):EE X a (wImm wa):=⟨Qe ha.h⟩
end
section
variable {X:Cx}{a b c:Expr}{es:List Expr}{wa wb wc:WE}{pos:Pos}
variable {wt wu:WT}{rest:List Expr}
variable {ws:WA}
theorem mn'  : EA X [] wNil:=⟨PC⟩
theorem mc'(ha:EE X a wa)(hr:EA X es ws)(hs:aao (a::es) X.env=(false,eval a X.env)::aao es X.env:=by first|exact aV rfl|rfl):EA X (a::es) (J7 wa ws):=⟨I9 ha.h hr.h hs⟩
theorem ag{x1}(h:EA X es ws):EE X (.Tuple es x1 pos) (wTup ws):=⟨Lr h.h⟩
theorem bV(h:EA X es ws):EE X (.List es pos) (wLst ws):=⟨KW h.h⟩
theorem aG{id:String}{o:WC}(hc:dU X (.builtin id) (cM X.kx o))(hg:Gl X x)(hm:X.mg x=none)(hv:abj x=some (.builtin id))(ha:EA X (a::es) ws)(hn:x ≠ "__name__" :=by decide)(hdb:(x==("__debug__" : Str))=false:=by decide)(he:aao (a::es) X.env=(false,eval a X.env)::aao es X.env:=by first|exact aV rfl|rfl)(hpl:(ace pos (aao es X.env)).any (·.1)=false:=by rfl):EE X (.Call (.Name x p) (a::es) [] pos) (wCB o ws):=⟨AY hc hg hm hv ha.h hn hdb he hpl⟩
theorem cw{T:String}{o:WC}(hc:dU X (.type T) (cM X.kx o))(hg:Gl X x)(hm:X.mg x=none)(hv:abj x=some (.type T))(ha:EA X (a::es) ws)(hn:x ≠ "__name__" :=by decide)(hdb:(x==("__debug__" : Str))=false:=by decide)(he:aao (a::es) X.env=(false,eval a X.env)::aao es X.env:=by first|exact aV rfl|rfl)(hpl:(ace pos (aao es X.env)).any (·.1)=false:=by rfl):EE X (.Call (.Name x p) (a::es) [] pos) (wCB o ws):=⟨zp hc hg hm hv ha.h hn hdb he hpl⟩
end
section
variable {X:Cx}{a b c e:Expr}{es:List Expr}{wa wb wc we:WE}{pos:Pos}{st:Stmt}{rest:List Stmt}{w u:WS}
theorem aB  : ESs X [] Jn:=⟨FZ⟩
theorem mz'(h1:ES X st w)(h2:ESs X rest u):ESs X (st::rest) (wSeq w u):=⟨Cw h1.h h2.h⟩
theorem aa(h1:ES X st w):ESs X [st] w:=⟨Gg h1.h⟩
end
section
variable {X:Cx}{a b c e:Expr}{es:List Expr}{wa wb wc we:WE}{ws:WA}{wt:WT}{pos:Pos}{st:Stmt}{rest body body2:List Stmt}{w u:WS}
theorem ah(he:EE X e we):ES X (.Return (some e) pos) (wRet we):=⟨Po he.h⟩
theorem fg(he:EE X e we)(hs:abY e none pos.line X.env=pure false:=by rfl):ES X (.Expr e pos) (G9 we):=⟨Ia he.h hs⟩
theorem bo(ht:ET X t wt)(h1:ESs X body w)(h2:ESs X body2 u):ES X (.If t body body2 pos) (wIfS wt w u):=⟨SY ht.h h1.h h2.h⟩
theorem f7  : ES X st FW:=⟨Bg⟩
theorem dh(hN:X.N.Nodup)(hi:X.N[i]?=some x)(hx:Loc X.env.scope x)(he:EE X e we)(hs:abY e (some (.Name x pos')) pos.line X.env=pure false:=by rfl)(hf:X.fn x=true\/X.env.scope.names.lookup x=some .local:=by first|exact .inl rfl|exact .inr rfl|assumption):ES X (.Assign [.Name x pos'] e pos) (wSet i we):=⟨Om hN hi hx he.h hs hf⟩
theorem mf(hN:X.N.Nodup)(hi:X.N[i]?=some x)(hx:Loc X.env.scope x)(hf:X.fn x=true\/X.env.scope.names.lookup x=some .local:=by first|exact .inl rfl|exact .inr rfl|assumption):EG X (.Name x pos) (gM i):=⟨IC hN hi hx hf⟩
theorem aK  : EGs X [] GQ:=⟨JW⟩
theorem ae{e:Expr}{es:List Expr}(h1:EG X e g)(h2:EGs X es gs)(hs:(abM (e::es) X.env).map (·.2)=ada e X.env::(abM es X.env).map (·.2):=by rfl):EGs X (e::es) (wR g gs):=⟨CW h1.h h2.h hs⟩
theorem bj{es:List Expr}{k:Nat}(h:EGs X es gs)(hc:X.calm=true:=by rfl)(hn:(abM es X.env).length=n:=by rfl)(hst:(abM es X.env).findIdx? (·.1)=none:=by rfl):EG X (.Tuple es k pos) (Cr n gs):=⟨Pf h.h hc hn hst⟩
theorem cJ(he:EE X e we)(hg:EG X tg g)(hs:adc [tg] e pos.line X.env=pure false:=by rfl)(hw:add [tg] e X.env=pure none:=by rfl)(h1:(abM [tg] X.env).map (·.2)=[ada tg X.env]:=by rfl):ES X (.Assign [tg] e pos) (wAsg we g):=⟨N9 he.h hg.h hs hw h1⟩
theorem jY{px py pt:Pos}{kt k2 pt2}(hN:X.N.Nodup)(hi:X.N[i]?=some x)(hj:X.N[j]?=some y)(hij:i≠j)(hx:X.env.scope.names.lookup x=some .local)(hy:X.env.scope.names.lookup y=some .local)(ha:EA X [a,b] ws)(hw:add [.Tuple [.Name x px,.Name y py] kt pt] (.Tuple [a,b] k2 pt2) X.env=pure (some [x,y]))(hc:X.calm=true:=by rfl)(hs:adc [.Tuple [.Name x px,.Name y py] kt pt] (.Tuple [a,b] k2 pt2) pos.line X.env=pure false:=by rfl):ES X (.Assign [.Tuple [.Name x px,.Name y py] kt pt] (.Tuple [a,b] k2 pt2) pos) (wPar i j ws):=⟨O6 hN hi hj hij hx hy ha.h hw hc hs⟩
end
section
variable {X:Cx}{tg a b c e iter:Expr}{es:List Expr}{wa wb wc we:WE}{ws:WA}{wt:WT}{pos:Pos}{st:Stmt}{rest body body2:List Stmt}{w u:WS}
theorem bO(he:EE X e we):EI X tg e (IM we):=⟨OM he.h⟩
theorem bw(hg:Gl X "range")(hm:X.mg "range" = none)(ha:EA X [a] ws)(hs:aao [a] X.env=[(false,eval a X.env)]:=by first|exact cx rfl|rfl):EI X tg (.Call (.Name "range" p) [a] [] pos) (zg ws):=⟨Am hg hm ha.h hs⟩
theorem bC(hi:EI X tg iter wi)(hg:EG X tg g)(hb:ESs X body w)(hp:afU (model X.prog X.w) X.A X.env X.xe)(hc:X.calm=true:=by rfl)(hs:∀x,aaT iter X.env x=pure x:=by intro _;rfl):ES X (.For tg iter body [] pos) (wFor wi g w):=⟨PH hi.h hg.h hb.h hp hc hs⟩
theorem ku(ht:ET X t wt)(hb:ESs X body w)(hp:afU (model X.prog X.w) X.A X.env X.xe):ES X (.While t body [] pos) (xT wt w):=⟨CV ht.h hb.h hp⟩
end
section
variable {X:Cx}{scope sc:Scope}{own fr:List Str}{ps:List Nat}{elt tg iter tg2 iter2:Expr}{ifs ifs2:List Expr}{pos spos py:Pos}{wi wi2:WI}{g g2:WG}{tt tt2:WT}{we:WE}
theorem ci(S:bZ own fr scope sc)(hi:EI X tg iter wi)(hg:∀cl s H C ex,EG (aI X scope cl (own++fr) s H C ex) tg g)(ht:∀cl s H C ex,ETs (aI X scope cl (own++fr) s H C ex) ifs tt)(he:∀cl s H C ex,EE (aI X scope cl (own++fr) s H C ex) elt we)(hsc:X.env.scope=sc:=by rfl)(hps:ps.map (fun i=>X.N[i]?)=fr.map some:=by rfl)(hc:X.calm=true:=by rfl)(hs:∀x,aaT iter X.env x=pure x:=by intro _;rfl):EE X (.ListComp elt [⟨tg,iter,ifs,0⟩] scope pos) (lz wi own ps g tt we):=⟨Ca S hi.h (fun cl s H C ex=>(hg cl s H C ex).h) (fun cl s H C ex=>(ht cl s H C ex).h) (fun cl s H C ex=>(he cl s H C ex).h) hsc hps hc hs⟩
theorem cc  : ETs X [] sw:=⟨JO⟩
theorem Bh{t:WT}(h:ET X c t):ETs X [c] t:=⟨IW h.h⟩
theorem qy(S:bZ own fr scope sc)(hN:X.N.Nodup)(hy:X.N[i]?=some y)(hlc:X.env.scope.names.lookup y=some .local)(hi:EI X tg iter wi)(hg:∀cl s H C ex,EG (aI X scope cl (own++fr) s H C ex) tg g)(ht:∀cl s H C ex,ETs (aI X scope cl (own++fr) s H C ex) ifs tt)(he:∀cl s H C ex,EE (aI X scope cl (own++fr) s H C ex) elt we)(hsw:abY (.ListComp elt [⟨tg,iter,ifs,0⟩] scope pos) (some (.Name y py)) spos.line X.env=pure true:=by rfl)(hsc:X.env.scope=sc:=by rfl)(hps:ps.map (fun i=>X.N[i]?)=fr.map some:=by rfl)(hc:X.calm=true:=by rfl)(hs:∀x,aaT iter X.env x=pure x:=by intro _;rfl):ES X (.Assign [.Name y py] (.ListComp elt [⟨tg,iter,ifs,0⟩] scope pos) spos) (wSet i (lz wi own ps g tt we)):=⟨Du S hN hy hlc hi.h (fun cl s H C ex=>(hg cl s H C ex).h) (fun cl s H C ex=>(ht cl s H C ex).h) (fun cl s H C ex=>(he cl s H C ex).h) hsw hsc hps hc hs⟩
theorem xh(S:bZ own fr scope sc)(hN:X.N.Nodup)(hy:X.N[i]?=some y)(hlc:X.env.scope.names.lookup y=some .local)(hi:EI X tg iter wi)(hg:∀cl s H C ex,EG (aI X scope cl (own++fr) s H C ex) tg g)(ht:∀cl s H C ex,ETs (aI X scope cl (own++fr) s H C ex) ifs tt)(hi2:∀cl s H C ex,EI (aI X scope cl (own++fr) s H C ex) tg2 iter2 wi2)(hg2:∀cl s H C ex,EG (aI X scope cl (own++fr) s H C ex) tg2 g2)(ht2:∀cl s H C ex,ETs (aI X scope cl (own++fr) s H C ex) ifs2 tt2)(he:∀cl s H C ex,EE (aI X scope cl (own++fr) s H C ex) elt we)(hsw:abY (.ListComp elt [⟨tg,iter,ifs,0⟩,⟨tg2,iter2,ifs2,0⟩] scope pos) (some (.Name y py)) spos.line X.env=pure true:=by rfl)(hsc:X.env.scope=sc:=by rfl)(hps:ps.map (fun i=>X.N[i]?)=fr.map some:=by rfl)(hc:X.calm=true:=by rfl)(hs:∀x,aaT iter X.env x=pure x:=by intro _;rfl)(hs2:∀cl C x,aaT iter2 (agM scope cl C X.env) x=pure x:=by intro _ _ _;rfl):ES X (.Assign [.Name y py] (.ListComp elt [⟨tg,iter,ifs,0⟩,⟨tg2,iter2,ifs2,0⟩] scope pos) spos) (wSet i (vi wi own ps g tt wi2 g2 tt2 we)):=⟨Bm S hN hy hlc hi.h (fun cl s H C ex=>(hg cl s H C ex).h) (fun cl s H C ex=>(ht cl s H C ex).h) (fun cl s H C ex=>(hi2 cl s H C ex).h) (fun cl s H C ex=>(hg2 cl s H C ex).h) (fun cl s H C ex=>(ht2 cl s H C ex).h) (fun cl s H C ex=>(he cl s H C ex).h) hsw hsc hps hc hs hs2⟩
end
section
variable {X:Cx}
theorem af{a b:Expr}{wa wb:WE}(ha:EE X a wa)(hb:EE X b wb)(hs:sg b:=by intro _ _;rfl):EE X (.Subscript a b pos) (wBin pK wa wb):=⟨Qz ha.h hb.h hs⟩
end
section
variable {X:Cx}{o a b c e:Expr}{es:List Expr}{wo wa wb wc we wi:WE}{ws:WA}{pos apos cpos:Pos}
theorem j4{name:Str}{id:String}{ob:WM}(slot:Slot "list" name id)(hty:typeOf (.builtin id)=pure (.type "method_descriptor"))(hm:MtM X id (mM X.kx ob))(ho:EE X o wo)(ha:EA X (e::es) ws)(hbase:abG o name X.env (eval o X.env)=eval o X.env:=by rfl)(hfew:((ace cpos (aao (e::es) X.env)).all (fun x=>!x.1)&&(afk cpos (adO [] X.env)).all (fun x=>x.1.isSome)
   && decide ((e::es).length+([]:List adr).length+(if ([]:List adr).isEmpty then 0 else 1)<30))=true:=by rfl) (hline:(apos.endLine==cpos.line)=true:=by rfl) (hs:aao (e::es) X.env=(false,eval e X.env)::aao es X.env:=by first|exact aV rfl|rfl) (hplain:(ace cpos (aao es X.env)).any (·.1)=false:=by rfl):EE X (.Call (.Attribute o name apos) (e::es) [] cpos) (wML ob wo ws):=⟨QH slot hty hm ho.h ha.h hbase hfew hline hs hplain⟩
theorem ik{b i:Expr}(he:EE X e we)(ho:EE X b wo)(hi:EE X i wi)(hs:adc [.Subscript b i pos'] e pos.line X.env=pure false:=by rfl)(hw:add [.Subscript b i pos'] e X.env=pure none:=by rfl)(h1:(abM [.Subscript b i pos'] X.env).map (·.2)=[ada (.Subscript b i pos') X.env]:=by rfl)(ha:∀v,ada (.Subscript b i pos') X.env v=(do
   let ov <- adK [v] (eval b X.env)
   let iv <- adK [v,ov] (eval i X.env)
   adp pos'
   adK [v,ov,iv] (ag1 ov iv v)
   release [v,ov,iv] []):=by intro _;rfl):ES X (.Assign [.Subscript b i pos'] e pos) (Ig we wo wi):=⟨Ib he.h ho.h hi.h hs hw h1 ha⟩
theorem dH  : EO X none rg:=⟨JR⟩
theorem dG(he:EE X e we):EO X (some e) (Ii we):=⟨JB he.h⟩
theorem cW{p2:Pos}(hr:SlR X (sM X.kx ob))(he:EE X e we)(hl:EO X lo wl)(hu:EO X hi wh):EE X (.Subscript e (.Slice lo hi none p2) pos) (wSl ob we wl wh):=⟨BT hr he.h hl.h hu.h⟩
end
section
variable {X:Cx}{a:Expr}{es:List Expr}{ws:WA}{pos p:Pos}{k n:Nat}{sp:SpM}{x:Str}
theorem mf'(F:FnM X.prog X.w X.K X.mg X.base x k n sp)(hr:Room k X.A)(ha:EA X (a::es) ws)(hg:Gl X x:=by rfl)(hdb:(x==("__debug__" : Str))=false:=by decide)(he:aao (a::es) X.env=(false,eval a X.env)::aao es X.env:=by first|exact aV rfl|rfl)(hpl:(ace pos (aao es X.env)).any (·.1)=false:=by rfl):EE X (.Call (.Name x p) (a::es) [] pos) (zT sp ws):=⟨Bw F hr ha.h hg hdb he hpl⟩
end
theorem aP{P:aaW}{w:World}{K:aaj}{base:aa4}{k:Nat}(D:DefM K mg x st ps)(S:ap N ps (ab st))(hn:ps.length=n)(hN:N.length=nN)(hle:n≤nN)(ar:∀as Kc,sp as Kc->as.length=n)
  (hbody:∀(cdv:GE) (A:abx) (outer:List Env) (s:aaa) (H:Hp) (E:XK) (f:Addr),Room k (A.deeper (ae0 x (ab st) s.heap.objs.size f cdv)) ->
   ∃ww,ESs (cxOf CX0 P w K mg base N x (ab st) f cdv A outer s H E).nox (dM st) ww/\∀as Kc,as.length=n->sp as Kc->ww {nx:=fun m=>Kc (.imm .none) (m.os.take m.np),rt:=fun r m=>retK Kc m r} (ia nN as)) :
  FnM P w K mg base x (k+1) n sp:=QQ D S hn hN hle ar fun cdv A outer s H E f hr=>let ⟨ww,h1,h2⟩:=hbody cdv A outer s H E f hr;⟨ww,h1.h,h2⟩
theorem Jw{P:aaW}{w:World}{K:aaj}{base:aa4}{k:Nat}(F:Fun K x x st f fd)(S:ap N ps (ab st))(hn:ps.length=n)(hN:N.length=nN)(hle:n≤nN)
  (hbody:∀(cdv:GE) (A:abx) (outer:List Env) (s:aaa) (H:Hp) (E:XK) (f:Addr),Room k (A.deeper (ae0 x (ab st) s.heap.objs.size f cdv)) ->
   ∃ww,ESs (cxOf CX0 P w K mg base N x (ab st) f cdv A outer s H E).nox (dM st) ww/\∀as Kc,as.length=n->sp as Kc->ww {nx:=fun m=>Kc (.imm .none) (m.os.take m.np),rt:=fun r m=>retK Kc m r} (ia nN as)) :
  FnOk P w K mg base CX0 (k+1) f fd ps (spOf ⟨K,w⟩ n sp):=Kg F S hn hN hle fun cdv A outer s H E f hr=>let ⟨ww,h1,h2⟩:=hbody cdv A outer s H E f hr;⟨ww,h1.h,h2⟩
end L2
namespace HT
open PySem PySem.Spec PyProof.Rows
section
variable {prog:aaW}{w:World}{A:abx}{E:GE->aaa->Prop}{s:aaa}
theorem cut_whole{t sl:Addr}{items:Array GE}{vl vu:GE}{lo hi:Option Int}{Q:GE->aaa->Prop}(ht:IsTup s.heap t items)(hs:s.heap.IsSliceOf sl vl vu .none)(pl:agj vl lo)(pu:agj vu hi)
  (hw:sIx items.size 0 lo=0/\sIx items.size items.size hi=items.size) (h:Q (.ref t) s):wpAny (model prog w) A (ag2 (.ref t) (.ref sl)) Q E s:=by
 obtain⟨os,hos,hcs,hds⟩:=id hs;have hTs:s.TypeIs (.ref sl) "slice" :=⟨os,hos,hcs⟩;unfold ag2
 try with_reducible refine abZ ?_
 first|(refine gE (aac ?_))|skip
 refine gE (afB ht.typeIs (by decide) (gE (aaY (name:=ab3 "__getitem__") ht.typeIs abv (aa0 abv ht.typeIs entry_tuple_getitem ?_ (args_tuple_getitem _ _)))));show wpAny _ _ (adN (.ref t) >>= _) _ _ s;refine gE (ahg ht (gE (adU hTs ?_)));rw[if_pos (by decide)];refine gE (fC hs pl pu ?_);have hyes:(((sIx items.size 0 lo:Nat):Int)==0&&(1:Int)==1&&(sIx items.size items.size hi-sIx items.size 0 lo)==items.size)=true:=by
  rw[hw.1,hw.2];simp
 show wpAny _ _ (if (((sIx items.size 0 lo:Nat):Int)==0&&(1:Int)==1&&(sIx items.size items.size hi-sIx items.size 0 lo)==items.size)=true then _ else _) _ _ s;rw[if_pos hyes];refine gE ?_;unfold afn;refine gE (adU ht.typeIs (aac ?_));rw[if_pos (by rfl)];exact gE (acP (aac ⟨_,rfl,aac h⟩))
end
end HT
namespace L2
open PySem PySem.Spec PyProof.Rows
variable{hi lo:Option Int}{Kr:R->Prop}{ds es:List iO}{X:Cx}{pins:List (Addr×Obj)}{σ:St}{H:Hp}{h h':aa4}{t t1 t2:Bool}{i n:Nat}{a i1 i2 it l l1 l2 z:Addr}{items its xs ys:Array GE}{Q:GE->aaa->Prop}{f:GE}{elts:List Expr}
section
variable {X:Cx}
def oCut:R->Option Int->Option Int->MSt->(R->Prop)->Prop:=fun r lo hi m K=>(∃ds,lsOf m r=some ds/\K (.new (cutD ds lo hi)))\/∃ds,r = .imm (.tuple ds)/\K (.imm (.tuple (cutD ds lo hi)))
theorem fX:SlR X (sM X.kx oCut):=by
 intro pins s σ' H x v vl vu lo hi sl Q I rx hs pl pu hq;obtain⟨α,m,σ,H0,r,Kc,Rl,h,k|⟨ds,rfl,k⟩,fin⟩:=hq
 .exact Bt pins s σ' H x v vl vu lo hi sl Q I rx hs pl pu ⟨α,m,σ,H0,r,Kc,Rl,h,k,fin⟩
 .obtain⟨a,xs,rfl,f,g⟩:=bI (show Den X.kx H (.tuple ds) x from h)
  by_cases hw:HT.sIx xs.length 0 lo=0/\HT.sIx xs.length xs.length hi=xs.length
  .cases rx;obtain⟨its,rv,ht,hz⟩:=I.tuple f;have hlen:its.toArray.size=xs.length:=by rw[aas];exact rv.length.symm
   refine⟨"tuple",_,abv.lookup,ht.typeIs,?_⟩;refine HT.cut_whole ht hs pl pu (by rw[hlen];exact hw) ⟨.ref a,H,I,rfl,fin _ _ H k Rl (k7 (c5 f ?_)) (Frm.refl _ _)⟩;have e:cutD ds lo hi=ds:=by
    unfold cutD;rw[g.length,hw.1,hw.2,agS,ahB,<-g.length,aag]
   rw[e];exact g
  .exact LW pins s σ' H _ v vl vu lo hi sl Q I rx hs pl pu ⟨a,xs,rfl,f,hw,fun p hp=>fin _ _ _ k (Rl.lay hp) (k7 (c5 (SqT.of av) ((yP g lo hi).mono (bu (.inl hp))))) (cC hp)⟩
theorem II{m:MSt}{r:R}(e:lsOf m r=some ds)(h:Kr (.new (cutD ds lo hi))):oCut r lo hi m Kr:=.inl ⟨ds,e,h⟩
theorem MD{m:MSt}(h:Kr (.imm (.tuple (cutD ds lo hi)))):oCut (.imm (.tuple ds)) lo hi m Kr:=.inr ⟨ds,rfl,h⟩
theorem nk(n:Nat):cutD ds none (some (n:Int))=ds.take n:=by
 unfold cutD;rw[HT.sIx_none,HT.sIx_nat,ahB,agS]
 by_cases h:n≤ds.length
 .rw[agA h]
 .rw[afZ (by omega),aag,adx (by omega)]
theorem qE(n:Nat):cutD ds (some (n:Int)) none=ds.drop n:=by
 unfold cutD;rw[HT.sIx_none,HT.sIx_nat]
 by_cases h:n≤ds.length
 .rw[agA h,adx (by rw[adT];omega)]
 .rw[afZ (by omega),af0,List.drop_eq_nil_of_le (by omega),List.take_nil]
def oIn(neg:Bool):WO:=fun r1 r2 m K=>∃d ds,asD m r1=some d/\(asD m r2=some (.list ds)\/asD m r2=some (.tuple ds))/\d.canLay0=true/\abi ds=true/\d.depth≤60/\K (.imm (.bool (if neg then !ds.any (fun y=>aaw y d)else ds.any fun y=>aaw y d)))
theorem qr(hu:X.A.units+64<cLine):OpR X (abK .NotIn) (rM X.kx (oIn true)):=by
 rintro pins s σ' H x y v u Q I rx ry ⟨α,m,σ,H0,H1,r1,r2,Kc,Rl,h1,h2,⟨d,ds,e1,e2,c1,c2,dp,ho⟩,fin⟩;obtain⟨as,q1⟩:=h1.reads I Rl rx e1 (abu _ c1);have fin':EP X pins σ' Q (.bool (!ds.any fun y=>aaw y d)) s:=⟨.bl _,H,I,rfl,fin _ _ H ho Rl (oZ _) (Frm.refl _ _)⟩;have hm:X.A.units+1+min (aaC ds) d.depth<cLine:=by have:=afX (aaC ds) d.depth;omega
 rcases e2 with e2|e2
 .obtain⟨bs,q2⟩:=h2.reads I Rl ry e2 (by simp only[acs];exact adl _ c2);exact SeqAt.notIn_list_reads q2 q1 c2 c1 hm fin'
 .obtain⟨bs,q2⟩:=h2.reads I Rl ry e2 (by simp only[acs];exact adl _ c2);exact SeqAt.notIn_tuple_reads q2 q1 c2 c1 hm fin'
theorem x_in{m:MSt}{r1 r2:R}{neg:Bool}{d:iO}{k k':Nat}(e1:asD m r1=some d)(e2:asD m r2=some (.list ds)\/asD m r2=some (.tuple ds))(s1:Shp k d)(s2:∀y∈ds,Shp k' y)(hk:k≤60)(h:Kr (.imm (.bool (if neg then !ds.any (fun y=>aaw y d)else ds.any fun y=>aaw y d)))):oIn neg r1 r2 m Kr :=
 ⟨d,ds,e1,e2,s1.cl,(tz s2).1,aaz s1.dp hk,h⟩
def SN(P:List iO->Prop):R->Prop
 | .new ds=>P ds
 |_=>False
def w4:WM:=fun r rs m K=>sY (fun k=>on1 (SN fun es=>∃ds,m.os[k]?=some ds/\ds.length+es.length≤aam/\K (.imm .none) {m with os:=m.os.set k (ds++es)}) rs) r
theorem lW:MtM X "list.extend" (mM X.kx w4):=by
 rintro pins s σ' H x xs v us Q I rx rv ⟨α,m,σ,H0,H1,r,rs,Kc,Rl,h1,h2,ho,fin⟩;obtain⟨k,a,rfl,ea,rfl,ho⟩:=zw h1 ho;obtain⟨r2,v2,rfl,rfl,h2,ho⟩:=fz h2 ho
 cases r2 with
 |imm _=>exact ho.elim
 |obj _=>exact ho.elim
 | «at» _ _=>exact ho.elim
 |newT _=>exact ho.elim
 |new es =>
  obtain⟨ds,e1,hz,ho⟩:=ho;obtain⟨b,zs,rfl,hb0,hb,gb⟩:=h2;obtain⟨ys,q,g⟩:=Rl.own _ _ ds ea e1;obtain⟨R2,F2⟩:=Rl.setO ea q (g.append gb);exact yU pins s σ' H _ _ v us Q I rx rv ⟨a,b,ys,zs,rfl,rfl,q,hb,by rw[<-g.length,<-gb.length];exact hz,fin _ _ _ _ ho rfl R2 xY F2⟩
theorem tZ{m:MSt}{k:Nat}{K:R->MSt->Prop}(e:m.os[k]?=some ds)(hz:ds.length+es.length≤aam)(h:K (.imm .none) {m with os:=m.os.set k (ds++es)}):w4 (.obj k) [.new es] m K:=⟨ds,e,hz,h⟩
end
theorem Inv.turneds{s:aaa}{t':Nat}{ch:List Addr}(I:Inv X pins σ H s)(k:∀b o,b∉ch->s.heap.get? b=some o->h'.get? b=some o)(hf:∀b∈ch,FpOk X pins H b):Inv X pins σ H {s with heap:=h',toks:=t' }:=by
 have nit:∀b u,H b=some u->b∉ch:=fun b u e z=>by have:=(hf b z).1;rw[this]at e;cases e
 have nl:X.env.locals∉ch:=fun z=>(hf _ z).2.1 rfl;refine I.step (g':=s.gens) (d':=s.drawn) (ch:=ch) (fun b hb=>?_) (fun b o _ _ hc e _=>k b o hc e) (fun b o _ _ hc e _=>⟨o.slots,k b o hc e⟩) (fun _ _ _ _ n=>n)
  (fun b o hc e=>⟨o,k b o hc e⟩) (fun _ _ e=>e) (fun _ _ _ e=>e) (fun b ps e=>⟨#[],by rw[e];simp⟩) (fun m hm=>?_) (fun b u e=>?_) I.bare
 .obtain⟨_,f1,_,f3,f4,f5⟩:=hf b hb;exact⟨f3,f1,f4,f5⟩
 .obtain⟨o,es,ep,ho,r⟩:=hm;exact⟨o,es,ep,k _ o nl ho,r⟩
 .refine(I.hok b u e).stay (fun c v hc q=>k c v ?_ q) (fun _ q=>q) fun _ _ q=>q;rcases hc with z|z
  .rw[z];exact nit b u e
  .exact nit c _ z
def SubI(t:Bool)(h:aa4)(i l:Addr)(k:Nat):Prop:=if t then h.IsTupleIter i l k else h.IsListIter i l k
def SubS(t:Bool)(h:aa4)(l:Addr)(its:Array GE):Prop:=if t then h.IsTuple l its else h.IsList l its
theorem SubI.ext{b i:Addr}{k:Nat}(x:SubI t h i l k)(e:afE b h h')(n:i≠b):SubI t h' i l k:=by
 cases t
 .exact aa4.IsListIter.extBut (show h.IsListIter i l k from x) e n
 .exact aa4.IsTupleIter.extBut (show h.IsTupleIter i l k from x) e n
theorem SubI.obj{i:Addr}{k:Nat}(x:SubI t h i l k):∃o vs,h.get? i=some o/\o.data = .fields vs:=by
 cases t
 .obtain⟨o,e,_,d⟩:=(show h.IsListIter i l k from x);exact⟨o,_,e,d⟩
 .obtain⟨o,e,_,d⟩:=(show h.IsTupleIter i l k from x);exact⟨o,_,e,d⟩
theorem SubI.keep{i:Addr}{k:Nat}(x:SubI t h i l k)(e:∀o,h.get? i=some o->h'.get? i=some o):SubI t h' i l k:=by
 cases t
 .obtain⟨o,q,r⟩:=(show h.IsListIter i l k from x);exact⟨o,e o q,r⟩
 .obtain⟨o,q,r⟩:=(show h.IsTupleIter i l k from x);exact⟨o,e o q,r⟩
theorem SubS.keep(x:SubS t h l its)(e:∀o,h.get? l=some o->h'.get? l=some o):SubS t h' l its:=by
 cases t
 .obtain⟨o,q,r⟩:=(show h.IsList l its from x);exact⟨o,e o q,r⟩
 .obtain⟨o,q,r⟩:=(show h.IsTuple l its from x);exact⟨o,e o q,r⟩
theorem SubS.ext{b:Addr}(x:SubS t h l its)(e:afE b h h')(n:l≠b):SubS t h' l its:=x.keep fun o q=>e l o n q
section
variable {prog:aaW}{w:World}{A:abx}{E:GE->aaa->Prop}{s:aaa}
theorem mj{α:Type}{Q:α->aaa->Prop}(hh:A.handled=none)(h:∀h' e,(∀b o,s.heap.get? b=some o->h'.get? b=some o)->(∃o,h'.get? e=some o/\o.cls = .type "StopIteration")->E (.ref e) {s with heap:=h' }) :
  wpAny (model prog w) A (do raiseNew (<- newExc (.type "StopIteration") []):Sem α) Q E s:=by
 refine gE (m:=newExc (.type "StopIteration") []) ?_;refine gE (m:=ahC []) (aa9 ?_ (by size_fits));refine gE (m:=firstArgMember (.type "StopIteration") []) (wpAny_of_eq (a:=agf) (by rfl) (aa9 ?_ (by size_fits)));refine gE (m:=handled) (wpAny_handled ?_);rw[hh];refine gE (aac (wpAny_throw (h _ _ (fun b o q=>OR _ (OR _ q)) ⟨_,aar _ rfl,rfl⟩)))
theorem RB(hit:s.heap.IsTupleIter it l i)(h:Q (.ref l) s):wpAny (model prog w) A (field (.ref it) 0) Q E s:=let ⟨_,ho,_,hd⟩:=hit;abc ho hd (x:=.ref l) rfl h
theorem QX(hit:s.heap.IsTupleIter it l i)(h:Q (.int i 0) s):wpAny (model prog w) A (field (.ref it) 1) Q E s:=let ⟨_,ho,_,hd⟩:=hit;abc ho hd (x:=.int i 0) rfl h
theorem SU{Q:Option (Array GE)->aaa->Prop}(hl:s.heap.IsTuple l items)(h:Q (some items) s):wpAny (model prog w) A (seqItems? (.ref l)) Q E s:=let ⟨_,ho,_,_,hd⟩:=hl;acR ho hd h
theorem uO{Q:Option GE->aaa->Prop}(hit:s.heap.IsTupleIter it l i)(hl:s.heap.IsTuple l items)
  (hs:∀x,items[i]?=some x->∀h',h'.IsTupleIter it l (i+1)->abw it s.heap h'->Q (some x) {s with heap:=h' })
  (hE:items[i]?=none->A.handled=none/\∀h' e,afE it s.heap h'->(∃o,h'.get? e=some o/\o.cls = .type "StopIteration")->E (.ref e) {s with heap:=h' }) :
  wpAny (model prog w) A (ahD (.ref it) "__next__" []) Q E s:=by
 refine aaY (name:=ab3 "__next__") hit.typeIs afo (aa0 afo hit.typeIs F.entry_tuple_iterator_next ?_ (F.args_tuple_iterator_next_1 _))
 wp_walk using RB hit,QX hit,SU hl
 rcases id hit with⟨o,ho,hc,hd⟩;rw[aba]
 cases q:items[i]? with
 | some x =>
  have new:(s.heap.update it (Obj.mapFields (·.setIfInBounds 1 (adI ((i:Int)+1))))).IsTupleIter it l (i+1):=by
   refine⟨_,acW _ ho (Obj.isFreed_of_fields (ahn hd _)),?_,?_⟩
   .exact(Obj.cls_mapFields ..).trans hc
   .rw[ahn hd];simp[adI]
  exact gE (m:=ac7 (.ref it) 1 _) (wpAny_setField ho hd (by simp) (aac ⟨x,rfl,hs x q _ new (ag6 ..)⟩))
 |none =>
  obtain⟨hh,hE⟩:=hE q;refine gE (m:=rule _) (acP (gE (m:=ac7 (.ref it) 0 _) (wpAny_setField ho hd (by simp) ?_)));exact mj (A:=A.in1) hh fun h' e k x=>hE h' e (fun b ob nb z=>k b ob ((ag6 ..).extBut b ob nb z)) x
theorem jv{x:GE}(hit:SubI t s.heap it l i)(hl:SubS t s.heap l items)(hx:items[i]?=some x)
  (hQ:∀h',SubI t h' it l (i+1)->abw it s.heap h'->Q x {s with heap:=h' }):wpAny (model prog w) A (abU (.ref it)) Q E s:=by
 cases t with
 |false=>exact wpAny_nextOf_list_item (show s.heap.IsListIter it l i from hit) (show s.heap.IsList l items from hl) hx hQ
 |true=>exact gE (m:=ahD (.ref it) "__next__" []) (uO (show s.heap.IsTupleIter it l i from hit) (show s.heap.IsTuple l items from hl) (fun y ey h' a b=>by rw[hx]at ey;cases ey;exact aac (hQ h' a b)) fun no=>by rw[hx]at no;cases no)
theorem si(hh:A.handled=none)(hit:SubI t s.heap it l i)(hl:SubS t s.heap l items)(hx:items[i]?=none)
  (hE:∀h' e,afE it s.heap h'->(∃o,h'.get? e=some o/\o.cls = .type "StopIteration")->E (.ref e) {s with heap:=h' }):wpAny (model prog w) A (abU (.ref it)) Q E s:=by
 cases t with
 |false=>exact wpAny_nextOf_list_end hh (show s.heap.IsListIter it l i from hit) (show s.heap.IsList l items from hl) hx hE
 |true=>exact gE (m:=ahD (.ref it) "__next__" []) (uO (show s.heap.IsTupleIter it l i from hit) (show s.heap.IsTuple l items from hl) (fun y ey=>by rw[hx]at ey;cases ey) fun _=>⟨hh,hE⟩)
structure Apart(z TI TO i1 i2 l1 l2:Addr):Prop where
 d:[z,TI,TO,i1,i2].Nodup
 m1:l1∉[z,TI,TO,i1,i2]
 m2:l2∉[z,TI,TO,i1,i2]
theorem Apart.old{TI TO:Addr}(D:Apart z TI TO i1 i2 l1 l2):ZipApart z TI TO i1 i2 l1 l2:=by
 obtain⟨d,m1,m2⟩:=D;simp only[aaV,aal,aa1,not_or,or_false,acQ,and_true,not_false_eq_true]at d m1 m2;obtain⟨⟨a1,a2,a3,a4⟩,⟨b1,b2,b3⟩,⟨c1,c2⟩,d1⟩:=d;exact⟨abz a1,abz a2,abz a3,abz a4,b1,b2,b3,c1,c2,d1,m1.1,m1.2.2.1,m1.2.2.2.1,m1.2.2.2.2,m2.1,m2.2.2.1,m2.2.2.2.1,m2.2.2.2.2⟩
structure Dh(t1 t2:Bool)(z TI TO i1 i2 l1 l2:Addr)(k:Nat)(h:aa4):Prop where
 z:IsZip h z TI TO .none
 ti:ae4 h TI (.ref i1) (.ref i2)
 to:∃a b,ae4 h TO a b
 s1:SubI t1 h i1 l1 k
 s2:SubI t2 h i2 l2 k
theorem zf0{TI TO:Addr}(hz:IsZip s.heap z TI TO f)(h:Q f s):wpAny (model prog w) A (field (.ref z) 0) Q E s:=abc hz rfl (x:=f) rfl h
theorem zf2{TI TO:Addr}(hz:IsZip s.heap z TI TO f)(h:Q (.bool false) s):wpAny (model prog w) A (field (.ref z) 2) Q E s:=abc hz rfl (x:=.bool false) rfl h
theorem zf3{TI TO:Addr}(hz:IsZip s.heap z TI TO f)(h:Q (.ref TI) s):wpAny (model prog w) A (field (.ref z) 3) Q E s:=abc hz rfl (x:=.ref TI) rfl h
theorem CC{TI TO:Addr}{k:Nat}{x y:GE}{Q:Option GE->aaa->Prop}(D0:Apart z TI TO i1 i2 l1 l2)(Z:Dh t1 t2 z TI TO i1 i2 l1 l2 k s.heap)
  (hl1:SubS t1 s.heap l1 xs) (hl2:SubS t2 s.heap l2 ys) (hx:xs[k]?=some x) (hy:ys[k]?=some y)
  (hQ:∀h',IsZip h' z TI TO (adI s.heap.objs.size)->ae4 h' TO x y->SubI t1 h' i1 l1 (k+1)->SubI t2 h' i2 l2 (k+1)->ae4 h' s.heap.objs.size x y->h'.objs.size=s.heap.objs.size+1 ->
   (∀c o,c∉[z,TO,i1,i2]->s.heap.get? c=some o->h'.get? c=some o)->Q (some (.ref s.heap.objs.size)) {s with heap:=h' }):wpAny (model prog w) A (acF (.ref z)) Q E s:=by
 have D:=D0.old;obtain⟨hz,hTI,⟨a,b,hTO⟩,h1,h2⟩:=Z;have hT:s.TypeIs (.ref z) "zip" :=(⟨_,hz,rfl⟩);unfold acF;refine gE (adg (aaY (name:=ab3 "__next__") hT ae5 (aa0 ae5 hT F.entry_zip_next ?_ (F.args_zip_next_1 _))));refine gE (m:=field (.ref z) 2) (zf2 hz (gE (m:=field (.ref z) 3) (zf3 hz (gE (acR hTI rfl ?_)))));refine gE (m:=ab1 (.ref z)) (gE (m:=field (.ref z) 0) (zf0 hz (aac ?_)));simp only[if_true];refine gE (acP (gE (abc hz rfl (x:=.ref TO) rfl (gE (aaM hz (by simp) fun g1 hz1 s1=>?_)))));replace hz1:IsZip g1 z TI TO .ellipsis:=hz1;refine gE ?_;simp only[ae2,List.forIn_nil,ahP,List.zipIdx_nil];refine gE (gE (afM (gE (m:=abU (.ref i1)) ?_)));refine(jv (h1.ext s1.extBut D.i1z) (hl1.ext s1.extBut D.l1z) hx fun g2 n1 s2=>aac ?_);have hTO2:ae4 g2 TO a b:=s2.extBut _ _ D.TOi1 (s1.extBut _ _ D.TOz hTO);refine gE (acR hTO2 rfl (gE (aeQ hTO2 fun g3 hTO3 s3=>?_)));replace hTO3:ae4 g3 TO x b:=hTO3;refine gE (afF (aac (gE (gE (afM ?_)))));refine gE (m:=abU (.ref i2)) (jv (((h2.ext s1.extBut D.i2z).ext s2.extBut D.i12.symm).ext s3.extBut D.TOi2.symm) (((hl2.ext s1.extBut D.l2z).ext s2.extBut D.l2i1).ext s3.extBut D.l2TO) hy fun g4 n2 s4=>aac ?_);have hTO4:ae4 g4 TO x b:=s4.extBut _ _ D.TOi2 hTO3;refine gE (acR hTO4 rfl (gE (aeQ hTO4 fun g5 hTO5 s5=>?_)));replace hTO5:ae4 g5 TO x y:=hTO5;refine gE (afF (aac (aac (gE (acR hTO5 rfl (gE (aeu ?_)))))));have hsz:g5.objs.size=s.heap.objs.size:=by rw[s5.1,s4.1,s3.1,s2.1,s1.1]
 have hz5:IsZip g5 z TI TO .ellipsis:=s5.extBut _ _ D.TOz.symm (s4.extBut _ _ D.i2z.symm (s3.extBut _ _ D.TOz.symm (s2.extBut _ _ D.i1z.symm hz1)));have k5:∀c o,c∉[z,TO,i1,i2]->s.heap.get? c=some o->g5.get? c=some o:=fun c o hc e=>by
  simp only[aal,aa1,not_or,or_false]at hc;exact s5.extBut _ _ hc.2.1 (s4.extBut _ _ hc.2.2.2 (s3.extBut _ _ hc.2.1 (s2.extBut _ _ hc.2.2.1 (s1.extBut _ _ hc.1 e))))
 have n15:SubI t1 g5 i1 l1 (k+1):=((n1.ext s3.extBut D.TOi1.symm).ext s4.extBut D.i12).ext s5.extBut D.TOi1.symm;have n25:SubI t2 g5 i2 l2 (k+1):=n2.ext s5.extBut D.TOi2.symm;have zlt:z<g5.objs.size:=aan hz5;refine gE (m:=acE (.ref z) (.ref g5.objs.size)) ?_;have hz6:IsZip (g5.push {cls:=.type "tuple",data:=.seq #[x,y]}) z TI TO .ellipsis:=OR _ hz5;refine gE (m:=ac7 (.ref z) 0 _) (aaM hz6 (by simp) fun g7 hz7 s7=>?_);replace hz7:IsZip g7 z TI TO (adI g5.objs.size):=hz7;refine aaM hz7 (by simp) fun g8 hz8 s8=>?_;replace hz8:IsZip g8 z TI TO (adI g5.objs.size):=hz8;have up:∀c o,c≠z->g5.get? c=some o->g8.get? c=some o:=fun c o c1 e=>s8.extBut _ _ c1 (s7.extBut _ _ c1 (OR _ e));have hT8:ae4 g8 g5.objs.size x y:=s8.extBut _ _ (abJ zlt) (s7.extBut _ _ (abJ zlt) (aar _ rfl));have z8:g8.objs.size=g5.objs.size+1:=by rw[s8.1,s7.1,abE]
 rw[hsz]at hz8 hT8 z8;have fin:wpAny (model prog w) A (pure (some (adG g5.objs.size))) Q E {s with heap:=g8}:=by
  rw[hsz];exact aac (hQ g8 hz8 (up _ _ D.TOz hTO5) (n15.keep fun o e=>up _ o D.i1z e) (n25.keep fun o e=>up _ o D.i2z e) hT8 z8 fun c o hc e=>up c o (fun q=>hc (by simp[q])) (k5 c o hc e))
 exact aac ⟨_,rfl,fin⟩
theorem IE{TI TO:Addr}{k:Nat}{Q:Option GE->aaa->Prop}(hh:A.handled=none)(D0:Apart z TI TO i1 i2 l1 l2)(Z:Dh t1 t2 z TI TO i1 i2 l1 l2 k s.heap)
  (hl1:SubS t1 s.heap l1 xs) (hl2:SubS t2 s.heap l2 ys) (hend:xs[k]?=none\/ys[k]?=none)
  (hQ:∀h',(∀c o,c∉[z,TO,i1,i2]->s.heap.get? c=some o->h'.get? c=some o)->Q none {s with heap:=h' }):wpAny (model prog w) A (acF (.ref z)) Q E s:=by
 have D:=D0.old;obtain⟨hz,hTI,⟨a,b,hTO⟩,h1,h2⟩:=Z;have hT:s.TypeIs (.ref z) "zip" :=(⟨_,hz,rfl⟩);have out:∀{c:Addr},c∉[z,TO,i1,i2]->c≠z/\c≠TO/\c≠i1/\c≠i2:=fun hc=>by simpa only[aal,aa1,not_or,or_false]using hc
 have fin:∀h' e,(∀c o,c∉[z,TO,i1,i2]->s.heap.get? c=some o->h'.get? c=some o)->(∃o,h'.get? e=some o/\o.cls = .type "StopIteration") ->
   wpAny (model prog w) A (do if <- isInstance (.ref e) (.type "StopIteration")then pure none else throw (.ref e):Sem (Option GE)) Q E {s with heap:=h' }:=fun h' e hk ⟨o,ho,hc⟩ =>
  gE (adm (T := "StopIteration") (b:=true) ⟨o,ho,hc⟩ afp (aac (hQ _ hk)))
 unfold acF;refine gE (adg (aaY (name:=ab3 "__next__") hT ae5 (aa0 ae5 hT F.entry_zip_next ?_ (F.args_zip_next_1 _))));refine gE (m:=field (.ref z) 2) (zf2 hz (gE (m:=field (.ref z) 3) (zf3 hz (gE (acR hTI rfl ?_)))));refine gE (m:=ab1 (.ref z)) (gE (m:=field (.ref z) 0) (zf0 hz (aac ?_)));simp only[if_true];refine gE (acP (gE (abc hz rfl (x:=.ref TO) rfl (gE (aaM hz (by simp) fun g1 hz1 s1=>?_)))));replace hz1:IsZip g1 z TI TO .ellipsis:=hz1;refine gE ?_;simp only[ae2,List.forIn_nil,ahP,List.zipIdx_nil];refine gE (gE (afM (gE (m:=abU (.ref i1)) ?_)))
 cases hx:xs[k]? with
 |none =>
  refine(si hh (h1.ext s1.extBut D.i1z) (hl1.ext s1.extBut D.l1z) hx fun g2 e s2 he=>?_);obtain⟨oe,hoe,hce⟩:=he;have hz2:IsZip g2 z TI TO .ellipsis:=s2 _ _ D.i1z.symm hz1;have hez:e≠z:=fun q=>by subst q;rw[hz2]at hoe;cases hoe;simp at hce
  refine aaM hz2 (by simp) fun g3 _ s3=>fin g3 e (fun c o hc q=>?_) ⟨oe,s3.extBut _ _ hez hoe,hce⟩;obtain⟨c1,_,c3,_⟩:=out hc;exact s3.extBut _ _ c1 (s2 _ _ c3 (s1.extBut _ _ c1 q))
 |some x =>
  have hy:ys[k]?=none:=by rcases hend with q|q;rw[hx]at q;cases q;exact q
  refine(jv (h1.ext s1.extBut D.i1z) (hl1.ext s1.extBut D.l1z) hx fun g2 n1 s2=>aac ?_);have hTO2:ae4 g2 TO a b:=s2.extBut _ _ D.TOi1 (s1.extBut _ _ D.TOz hTO);refine gE (acR hTO2 rfl (gE (aeQ hTO2 fun g3 hTO3 s3=>?_)));refine gE (afF (aac (gE (gE (afM ?_)))));refine gE (m:=abU (.ref i2)) (si hh (((h2.ext s1.extBut D.i2z).ext s2.extBut D.i12.symm).ext s3.extBut D.TOi2.symm) (((hl2.ext s1.extBut D.l2z).ext s2.extBut D.l2i1).ext s3.extBut D.l2TO) hy fun g4 e s4 he=>?_);obtain⟨oe,hoe,hce⟩:=he;have hz4:IsZip g4 z TI TO .ellipsis:=s4 _ _ D.i2z.symm (s3.extBut _ _ D.TOz.symm (s2.extBut _ _ D.i1z.symm hz1));have hez:e≠z:=fun q=>by subst q;rw[hz4]at hoe;cases hoe;simp at hce
  refine aaM hz4 (by simp) fun g5 _ s5=>fin g5 e (fun c o hc q=>?_) ⟨oe,s5.extBut _ _ hez hoe,hce⟩;obtain⟨c1,c2,c3,c4⟩:=out hc;exact s5.extBut _ _ c1 (s4 _ _ c4 (s3.extBut _ _ c2 (s2.extBut _ _ c3 (s1.extBut _ _ c1 q))))
end
def zit(t:Bool):String:=if t then "tuple_iterator" else "list_iterator"
abbrev itO(t:Bool)(l:Addr):Obj:={cls:=.type (zit t),data:=.fields #[.ref l,.int 0 0]}
abbrev zA(t1:Bool)(h:aa4)(l1:Addr):aa4:=h.push (itO t1 l1)
abbrev zB(t1 t2:Bool)(h:aa4)(l1 l2:Addr):aa4:=(zA t1 h l1).push (itO t2 l2)
abbrev zC(t1 t2:Bool)(h:aa4)(l1 l2:Addr):aa4:=(zB t1 t2 h l1 l2).push {cls:=.type "tuple",data:=.seq #[.ref h.objs.size,.ref (zA t1 h l1).objs.size]}
abbrev zD(t1 t2:Bool)(h:aa4)(l1 l2:Addr):aa4:=(zC t1 t2 h l1 l2).push {cls:=.type "tuple",data:=.seq #[.none,.none]}
abbrev zE(t1 t2:Bool)(h:aa4)(l1 l2:Addr):aa4:=(zD t1 t2 h l1 l2).push {cls:=.type "zip",data:=.fields #[.none,.bool false,.bool false,.ref (zB t1 t2 h l1 l2).objs.size,.ref (zC t1 t2 h l1 l2).objs.size]}
theorem db{prog:aaW}{w:World}{A:abx}{E:GE->aaa->Prop}{s:aaa}(h:SubS t s.heap l its)
  (hQ:Q (.ref s.heap.objs.size) {s with heap:=s.heap.push (itO t l)}):wpAny (model prog w) A (afh (.ref l)) Q E s:=by
 cases t
 .exact wpAny_pyIter_list (show s.heap.IsList l its from h) hQ
 .exact wpAny_pyIter_tuple (show s.heap.IsTuple l its from h) hQ
theorem Js(t1 t2:Bool)(l1 l2:Addr)(xs ys:Array GE) :
  Meets (ac4.«zip.__new__» ⟨[.type "zip",.ref l1,.ref l2],[]⟩) (fun _ R s=>SubS t1 s.heap l1 xs/\SubS t2 s.heap l2 ys/\R (.ok (.ret (.ref (zD t1 t2 s.heap l1 l2).objs.size))) {s with heap:=zE t1 t2 s.heap l1 l2}) :=
 .of_wp fun prog w A R s h=>by
  rcases s with⟨hp,g,d,tk,os⟩;rcases h with⟨hl1,hl2,h⟩;have hsub:=sub_zip;have hL1:SubS t1 (ahX ⟨hp,g,d,tk,os⟩) l1 xs:=hl1;have hL2:SubS t2 (ahX ⟨hp.push (itO t1 l1),g,d,tk,os⟩) l2 ys:=hl2.keep fun o e=>OR _ e
  wp_walk using db hL1,db hL2
  exact⟨_,rfl,h⟩
section
variable {prog:aaW}{w:World}{A:abx}{E:GE->aaa->Prop}{s:aaa}
theorem DI(hl1:SubS t1 s.heap l1 xs)(hl2:SubS t2 s.heap l2 ys)
  (h:∀h',Dh t1 t2 (s.heap.objs.size+4) (s.heap.objs.size+2) (s.heap.objs.size+3) s.heap.objs.size (s.heap.objs.size+1) l1 l2 0 h'->(∀c o,s.heap.get? c=some o->h'.get? c=some o)->Q (.ref (s.heap.objs.size+4)) {s with heap:=h' }):wpAny (model prog w) A (call (.type "zip") [.ref l1,.ref l2]) Q E s:=by
 refine callType_new F.called_zip (by decide) (F.typeCall_zip_2 _ _) (F.newCall_zip_2 _ _) (fun obj=>F.args_object_init_3 obj _ _) F.entry_zip_new (Js t1 t2 l1 l2 xs ys) ⟨hl1,hl2,?_⟩;have z1:(zA t1 s.heap l1).objs.size=s.heap.objs.size+1:=abE ..;have z2:(zB t1 t2 s.heap l1 l2).objs.size=s.heap.objs.size+2:=by rw[abE,z1]
 have z3:(zC t1 t2 s.heap l1 l2).objs.size=s.heap.objs.size+3:=by rw[abE,z2]
 have z4:(zD t1 t2 s.heap l1 l2).objs.size=s.heap.objs.size+4:=by rw[abE,z3]
 have up1:∀c o,(zD t1 t2 s.heap l1 l2).get? c=some o->(zE t1 t2 s.heap l1 l2).get? c=some o:=fun c o e=>OR _ e;have up2:∀c o,(zC t1 t2 s.heap l1 l2).get? c=some o->(zE t1 t2 s.heap l1 l2).get? c=some o:=fun c o e=>up1 c o (OR _ e);have up3:∀c o,(zB t1 t2 s.heap l1 l2).get? c=some o->(zE t1 t2 s.heap l1 l2).get? c=some o:=fun c o e=>up2 c o (OR _ e);have up4:∀c o,(zA t1 s.heap l1).get? c=some o->(zE t1 t2 s.heap l1 l2).get? c=some o:=fun c o e=>up3 c o (OR _ e);have g5:(zE t1 t2 s.heap l1 l2).get? (s.heap.objs.size+4)=some {cls:=.type "zip",data:=.fields #[.none,.bool false,.bool false,.ref (s.heap.objs.size+2),.ref (s.heap.objs.size+3)]}:=by
  rw[<-z4,<-z3,<-z2];exact aar _ rfl
 have g4:(zE t1 t2 s.heap l1 l2).get? (s.heap.objs.size+3)=some {cls:=.type "tuple",data:=.seq #[.none,.none]}:=by
  rw[<-z3];exact up1 _ _ (aar _ rfl)
 have g3:(zE t1 t2 s.heap l1 l2).get? (s.heap.objs.size+2)=some {cls:=.type "tuple",data:=.seq #[.ref s.heap.objs.size,.ref (s.heap.objs.size+1)]}:=by
  rw[<-z2,<-z1];exact up2 _ _ (aar _ rfl)
 have g2:(zE t1 t2 s.heap l1 l2).get? (s.heap.objs.size+1)=some (itO t2 l2):=by
  rw[<-z1];exact up3 _ _ (aar _ rfl)
 have g1:(zE t1 t2 s.heap l1 l2).get? s.heap.objs.size=some (itO t1 l1):=up4 _ _ (aar _ rfl);have sub:∀{t:Bool}{i l:Addr},(zE t1 t2 s.heap l1 l2).get? i=some (itO t l)->SubI t (zE t1 t2 s.heap l1 l2) i l 0:=fun {t i l} e=>by
  cases t
  .exact⟨_,e,rfl,rfl⟩
  .exact⟨_,e,rfl,rfl⟩
 show _/\_;rw[z4];exact⟨⟨_,g5,rfl⟩,h _ ⟨g5,g3,⟨_,_,g4⟩,sub g1,sub g2⟩ fun c o x=>up4 c o (OR _ x)⟩
end
theorem wF{l1 l2:Nat}(h1:l1<n)(h2:l2<n):Apart (n+4) (n+2) (n+3) n (n+1) l1 l2 where
 d:=by
  show abI ([n+4,n+2,n+3,n,n+1]:List Nat);simp only[aaV,aal,aa1,or_false,not_or,acQ,and_true,not_false_eq_true];omega
 m1:=by
  show ¬(l1∈([n+4,n+2,n+3,n,n+1]:List Nat));simp only[aal,aa1,or_false,not_or];omega
 m2:=by
  show ¬(l2∈([n+4,n+2,n+3,n,n+1]:List Nat));simp only[aal,aa1,or_false,not_or];omega
def SqB(t:Bool)(K:aaj)(H:Hp)(a:Addr)(xs:List V):Prop:=if t then SqT K H a xs else SqL K H a xs
def Itz(t1 t2:Bool)(K:aaj)(a b:Addr):It where
 go:=fun i H=>∃xs ys x y,SqB t1 K H a xs/\SqB t2 K H b ys/\xs[i]?=some x/\ys[i]?=some y
 yld:=fun i H v H'=>∃T x y,v = .ref T/\H T=none/\H'=upd H T (.tup [x,y])/\(∀xs,SqB t1 K H a xs->xs[i]?=some x)/\∀ys,SqB t2 K H b ys->ys[i]?=some y
 stop:=fun i H=>∃xs ys,SqB t1 K H a xs/\SqB t2 K H b ys/\(xs.length≤i\/ys.length≤i)
theorem Inv.sqb{s:aaa}{xs:List V}(I:Inv X pins σ H s)(h:SqB t X.kx H a xs):∃its:List GE,Vals xs its/\SubS t s.heap a its.toArray/\xs.length≤aam:=by
 cases t
 .obtain⟨its,r,p,z⟩:=I.list (show SqL X.kx H a xs from h);exact⟨its,r,p.isList,z⟩
 .obtain⟨its,r,p,z⟩:=I.tuple (show SqT X.kx H a xs from h);exact⟨its,r,p,z⟩
theorem Inv.sqb_inj{s:aaa}{xs ys:List V}(I:Inv X pins σ H s)(h:SqB t X.kx H a xs)(h':SqB t X.kx H a ys):xs=ys:=by
 cases t
 .exact I.list_inj (show SqL X.kx H a xs from h) (show SqL X.kx H a ys from h')
 .exact I.tuple_inj (show SqT X.kx H a xs from h) (show SqT X.kx H a ys from h')
theorem AI{P:aaW}{w:World}{K:aaj}{x1:Nat}{pos:Pos}{b TI TO:Addr}(D:Apart z TI TO i1 i2 a b):Turn P w K (.Tuple elts x1 pos) (Itz t1 t2 K a b) [z,TI,TO,i1,i2] z (fun i h=>Dh t1 t2 z TI TO i1 i2 a b i h) where
 mem:=by simp
 obj:=fun i h st c hc=>by
  obtain⟨hz,hTI,⟨u,v,hTO⟩,h1,h2⟩:=st;simp only[aal,aa1,or_false]at hc;rcases hc with rfl|rfl|rfl|rfl|rfl
  .exact⟨_,hz,fun v q=>by cases q⟩
  .exact⟨_,hTI,fun v q=>by cases q⟩
  .exact⟨_,hTO,fun v q=>by cases q⟩
  .obtain⟨o,vs,e,d⟩:=h1.obj;exact⟨o,e,fun v q=>by rw[d]at q;cases q⟩
  .obtain⟨o,vs,e,d⟩:=h2.obj;exact⟨o,e,fun v q=>by rw[d]at q;cases q⟩
 keep:=fun i h h' st k=>by
  obtain⟨hz,hTI,⟨u,v,hTO⟩,h1,h2⟩:=st;exact⟨k z (by simp) _ hz,k TI (by simp) _ hTI,⟨u,v,k TO (by simp) _ hTO⟩,h1.keep fun o e=>k i1 (by simp) o e,h2.keep fun o e=>k i2 (by simp) o e⟩
 item:=by
  intro X hP hw hK hc i pins s σ H E I hf st hg;subst hP hw hK;obtain⟨xs,ys,x,y,hq1,hq2,hx,hy⟩:=hg;obtain⟨its1,rv1,p1,_⟩:=I.sqb hq1;obtain⟨its2,rv2,p2,_⟩:=I.sqb hq2;obtain⟨u1,e1,ru1⟩:=rv1.get hx;obtain⟨u2,e2,ru2⟩:=rv2.get hy;refine CC D st p1 p2 (x:=u1) (y:=u2) (by simpa using e1) (by simpa using e2) fun h' a1 a2 a3 a4 a5 a6 a7=>⟨.ref s.heap.objs.size,rfl,?_⟩;refine wpAny_letOwnedTupleGo_zip (s:={s with heap:=h' }) a1 fun h2 b1 sb=>?_;have hfT:H s.heap.objs.size=none:=I.hok.fresh (Io _);have sfp:∀c∈[z,TI,TO,i1,i2],c<s.heap.objs.size:=fun c hc=>by
   obtain⟨hz,hTI,⟨u,v,hTO⟩,h1,h2⟩:=st;simp only[aal,aa1,or_false]at hc;rcases hc with rfl|rfl|rfl|rfl|rfl
   .exact aan hz
   .exact aan hTI
   .exact aan hTO
   .obtain⟨o,vs,e,d⟩:=h1.obj;exact aan e
   .obtain⟨o,vs,e,d⟩:=h2.obj;exact aan e
  have nz:∀c∈[z,TI,TO,i1,i2],c≠s.heap.objs.size:=fun c hc=>aa6 (sfp c hc);have dd:=D.old;have up:∀c o,c≠z->h'.get? c=some o->h2.get? c=some o:=fun c o n e=>sb.extBut c o n e;have T2:ae4 h2 s.heap.objs.size u1 u2:=up _ _ (abz (nz z (by simp))) a5;have I0:Inv X pins σ (upd H s.heap.objs.size (.tup [x,y])) {s with heap:=s.heap.push {cls:=.type "tuple",data:=.seq #[u1,u2]},toks:=s.toks} :=
   I.laid (o:=.tup [x,y]) (fun c o e=>OR _ e) (Io _) ⟨by show 2≤aam;rw[aav];decide,[u1,u2],.cons ru1 (.cons ru2 .nil),PlainT.new _ _⟩
  have Il:Inv X pins σ (upd H s.heap.objs.size (.tup [x,y])) {s with heap:=h2,toks:=s.toks}:=by
   refine Inv.turneds (s:={s with heap:=s.heap.push {cls:=.type "tuple",data:=.seq #[u1,u2]},toks:=s.toks}) (h':=h2) (t':=s.toks) (ch:=[z,TI,TO,i1,i2]) I0 (fun c o hc e=>?_) fun c hc=>?_
   .rcases aeR e with⟨rfl,rfl⟩|e
    .exact T2
    .exact up c o (fun q=>hc (by simp[q])) (a7 c o (fun q=>hc (by simp only[aal,aa1,or_false]at q⊢;rcases q with q|q|q|q<;>simp[q])) e)
   .obtain⟨f0,f1⟩:=hf c hc;exact⟨by rw[am (nz c hc)];exact f0,f1⟩
  refine⟨.ref s.heap.objs.size,upd H s.heap.objs.size (.tup [x,y]),Il,rfl,⟨_,x,y,rfl,hfT,rfl,fun zs hz=>by rw[I.sqb_inj hz hq1];exact hx,fun zs hz=>by rw[I.sqb_inj hz hq2];exact hy⟩,⟨b1,up _ _ dd.TIz (a7 _ _ (by simp only[aal,aa1,or_false,not_or];exact⟨dd.TIz,dd.TITO,dd.TIi1,dd.TIi2⟩) st.ti),⟨_,_,up _ _ dd.TOz a2⟩,a3.keep fun o e=>up _ o dd.i1z e,a4.keep fun o e=>up _ o dd.i2z e⟩,fun c hc=>?_⟩;rw[am (nz c hc)];exact(hf c hc).1
 done:=by
  intro X hP hw hK hc i pins s σ H E I hf st hg;subst hP hw hK;obtain⟨xs,ys,hq1,hq2,he⟩:=hg;obtain⟨its1,rv1,p1,_⟩:=I.sqb hq1;obtain⟨its2,rv2,p2,_⟩:=I.sqb hq2;have l1:=rv1.length;have l2:=rv2.length;refine IE (I.ok.hd hc) D st p1 p2 (by rcases he with q|q;(left;simp;omega);(right;simp;omega)) fun h' hk=>⟨rfl,I.turneds (t':=s.toks) (ch:=[z,TI,TO,i1,i2]) (fun c o hc e=>hk c o (fun q=>hc (by simp only[aal,aa1,or_false]at q⊢;rcases q with q|q|q|q<;>simp[q])) e) hf⟩
 self:=fun _ _ _ _ _ st h=>wpAny_pyIter_zip st.z h
section
variable {X:Cx}{elts:List Expr}{x1:Nat}{tpos:Pos}{a b:Expr}{ws:WA}{p pos:Pos}
def iZip(K:aaj)(ta:TA):TI:=fun σ H Rq=>ta σ H fun vs H1=>∃t1 t2 l1 l2,vs=[.ref l1,.ref l2]/\(∃xs,SqB t1 K H1 l1 xs)/\(∃ys,SqB t2 K H1 l2 ys)/\Rq (Itz t1 t2 K l1 l2) H1
theorem JC:abj "zip" = some (.type "zip"):=by decide +kernel
theorem L7{ta:TA}(hg:Gl X "zip")(hm:X.mg "zip" = none)(ha:PA X [a,b] ta)(hs:aao [a,b] X.env=[(false,eval a X.env),(false,eval b X.env)]:=by first|exact(aV rfl).trans (congrArg _ (cx rfl))|rfl)(hs2:aao [b] X.env=[(false,eval b X.env)]:=by first|exact cx rfl|rfl):PI X (.Tuple elts x1 tpos) (.Call (.Name "zip" p) [a,b] [] pos) (iZip X.K ta):=by
 intro pins s σ H Rq I h;refine Call_ (ll I hg hm JC (acG (thn (ha pos pins s σ H _ I h) fun us s1 ⟨vs,H1,I1,r1,q1⟩=>?_) (by rw[hs,hs2]) (by rw[hs2];rfl)));obtain⟨t1,t2,l1,l2,e,⟨xs,h1⟩,⟨ys,h2⟩,q⟩:=q1;subst e
 cases r1 with
 | cons r rr =>
  cases rr with
  | cons r' rr =>
   cases rr;cases r;cases r';obtain⟨its1,rv1,p1,_⟩:=I1.sqb h1;obtain⟨its2,rv2,p2,_⟩:=I1.sqb h2;refine DI p1 p2 fun h' Z hk=>?_;refine wpAny_pyIter_zip Z.z ?_;have lt:∀{t:Bool}{l:Addr}{its:Array GE},SubS t s1.heap l its->l<s1.heap.objs.size:=fun {t l its} p=>by
    cases t
    .obtain⟨o,e,_⟩:=(show s1.heap.IsList l its from p);exact aan e
    .obtain⟨o,e,_⟩:=(show s1.heap.IsTuple l its from p);exact aan e
   refine⟨s1.heap.objs.size+4,_,_,_,H1,rfl,I1.kept (t':=s1.toks) hk,AI (wF (lt p1) (lt p2)),Z,fun c hc=>?_,q⟩;have hle:s1.heap.objs.size≤c:=by
    have hc':c∈([s1.heap.objs.size+4,s1.heap.objs.size+2,s1.heap.objs.size+3,s1.heap.objs.size,s1.heap.objs.size+1]:List Nat):=hc;simp only[aal,aa1,or_false]at hc';rcases hc' with rfl|rfl|rfl|rfl|rfl<;>first|exact aco _ _|exact Io _
   exact I1.fpOk hle (I1.hok.fresh hle)
def imS:R->Option (Bool×List iO)
 | .imm (.tuple ds)=>some (true,ds)
 | .imm (.list ds)=>some (false,ds)
 |_=>none
def zipD(ds es:List iO):List iO:=(ds.zip es).map fun p=>.tuple [p.1,p.2]
def IP(ws:WA):WI:=fun m K=>ws m fun rs m'=>match rs with|[r1,r2]=>∃t1 ds t2 es,imS r1=some (t1,ds)/\imS r2=some (t2,es)/\K ⟨zipD ds es,none⟩ m'|_=>False
theorem yZ{K:Kd}{α:Al}{H0:Hp}{r:R}{v:V}(h:RelR K α H0 H r v)(e:imS r=some (t,ds)):∃l xs,v = .ref l/\DenAll K H ds xs/\(SqB t K H l xs)/\∀H1,Pers H H1->SqB t K H1 l xs:=by
 unfold imS at e
 split at e
 .cases e;obtain⟨l,xs,e,f,g⟩:=bI (show Den K H (.tuple ds) v from h);exact⟨l,xs,e,g,f,fun H1 p=>f.mono p⟩
 .cases e;have h':Den K H (.list ds) v:=h;simp only[Den]at h';obtain⟨l,xs,e,f,g⟩:=h';exact⟨l,xs,e,g,f.sq,fun H1 p=>(f.mono p).sq⟩
 .cases e
theorem fv(ds es:List iO):(zipD ds es).length=min ds.length es.length:=by simp[zipD]
theorem ub{d e:iO}(h1:ds[i]?=some d)(h2:es[i]?=some e):(zipD ds es)[i]?=some (.tuple [d,e]):=by
 unfold zipD;rw[aak,(List.getElem?_zip_eq_some (z:=(d,e))).mpr ⟨h1,h2⟩];rfl
theorem wks_zip{K:Kd}:Wks K (Itz t1 t2 K l1 l2) (zipD ds es) fun H=>∃xs ys,SqB t1 K H l1 xs/\SqB t2 K H l2 ys/\DenAll K H ds xs/\DenAll K H es ys where
 stop:=fun H ⟨xs,ys,q1,q2,g1,g2⟩=>⟨xs,ys,q1,q2,by rw[fv,<-g1.length,<-g2.length];omega⟩
 go:=fun i H hi ⟨xs,ys,q1,q2,g1,g2⟩=>by
  rw[fv]at hi;exact⟨xs,ys,xs[i]'(by rw[<-g1.length];omega),ys[i]'(by rw[<-g2.length];omega),q1,q2,Ge _,Ge _⟩
 yld:=fun i H x H' hi ⟨xs,ys,q1,q2,g1,g2⟩ y=>by
  obtain⟨T,u,v,rfl,hT,rfl,e1,e2⟩:=y;obtain⟨d,h1,k1⟩:=g1.get2 (e1 xs q1);obtain⟨e,h2,k2⟩:=g2.get2 (e2 ys q2);have gr:∀b o,H b=some o->upd H T (.tup [u,v]) b=some o:=fun b o q=>by rw[am (bh q hT)];exact q
  have pe:Pers H (upd H T (.tup [u,v])):=⟨fun b xs q=>gr b _ q,fun b o u q=>gr b _ q⟩;refine⟨gr,_,ub h1 h2,?_⟩;exact c5 (SqT.of av) (DenAll.cons (k1.mono pe) (DenAll.cons (k2.mono pe) DenAll.nil))
theorem NQ(hm:X.mg "zip" = none)(ha:MA X [a,b] ws)(hg:Gl X "zip" :=by rfl)(hs:aao [a,b] X.env=[(false,eval a X.env),(false,eval b X.env)]:=by first|exact(aV rfl).trans (congrArg _ (cx rfl))|rfl)(hs2:aao [b] X.env=[(false,eval b X.env)]:=by first|exact cx rfl|rfl):MI X (.Tuple elts x1 tpos) (.Call (.Name "zip" p) [a,b] [] pos) (IP ws):=(L7 hg hm ha hs hs2).wk fun σ H Rq ⟨α,m,Kc,Rl,hw,fin⟩=>by
 refine⟨α,m,_,Rl,hw,fun rs m' vs H' k n Rl' rr F=>?_⟩
 cases rr with
 |nil=>exact k.elim
 |cons h1 rr =>
  cases rr with
  |nil=>exact k.elim
  |cons h2 rr =>
  cases rr with
  |cons _ _=>exact k.elim
  |nil =>
  obtain⟨t1,ds,t2,es,e1,e2,k⟩:=k;obtain⟨l1,xs,rfl,g1,q1,p1⟩:=yZ h1 e1;obtain⟨l2,ys,rfl,g2,q2,p2⟩:=yZ h2 e2;refine⟨t1,t2,l1,l2,rfl,⟨xs,q1⟩,⟨ys,q2⟩,fin _ m' _ H' k n Rl' F ⟨fun H=>∃xs ys,SqB t1 X.kx H l1 xs/\SqB t2 X.kx H l2 ys/\DenAll X.kx H ds xs/\DenAll X.kx H es ys/\(∀H1,Pers H H1->SqB t1 X.kx H1 l1 xs)/\∀H1,Pers H H1->SqB t2 X.kx H1 l2 ys,wks_zip.imp fun H ⟨xs,ys,a,b,c,d,_⟩=>⟨xs,ys,a,b,c,d⟩,⟨xs,ys,q1,q2,g1,g2,p1,p2⟩,fun Ha Hb ⟨xs,ys,a,b,c,d,pa,pb⟩ pe=>⟨xs,ys,pa Hb pe,pb Hb pe,c.mono pe,d.mono pe,fun H1 p=>pa H1 (pe.trans p),fun H1 p=>pb H1 (pe.trans p)⟩⟩⟩
theorem QK{m:MSt}{Ks:Src->MSt->Prop}(h:ws m fun rs m'=>match rs with|[r1,r2]=>∃t1 ds t2 es,imS r1=some (t1,ds)/\imS r2=some (t2,es)/\Ks ⟨zipD ds es,none⟩ m'|_=>False):IP ws m Ks:=h
end
theorem Gf{x1:Nat}{tpos:Pos}{a b:Expr}{ws:WA}{p pos:Pos}(hm:X.mg "zip" = none)(ha:EA X [a,b] ws)(hg:Gl X "zip" :=by rfl)(hs:aao [a,b] X.env=[(false,eval a X.env),(false,eval b X.env)]:=by first|exact(aV rfl).trans (congrArg _ (cx rfl))|rfl)(hs2:aao [b] X.env=[(false,eval b X.env)]:=by first|exact cx rfl|rfl):EI X (.Tuple elts x1 tpos) (.Call (.Name "zip" p) [a,b] [] pos) (IP ws):=⟨NQ hm ha.h hg hs hs2⟩
theorem gmap{α β:Type}{xs:List α}{y:β}{f:α->β}(h:(xs.map f)[i]?=some y):∃x,xs[i]?=some x/\y=f x/\i<xs.length:=by
 rw[aak]at h
 cases q:xs[i]? with
 |none=>rw[q]at h;cases h
 |some x=>rw[q]at h;exact⟨x,rfl,(aau h).symm,(aad.mp q).1⟩
theorem bQ{lo:Int}{d:iO}(h:(gH lo n)[i]?=some d):i<n/\d = .int (lo+(i:Int)):=by
 have hi:i<n:=by
  have:=(aad.mp h).1;rwa[aw]at this
 rw[iW hi]at h;exact⟨hi,(aau h).symm⟩
theorem qC{k:Nat}{P:MSt->Prop}{m:MSt}(ρ:List Nat)(m2:MSt)(N:Ren ρ (m.setV n (.obj k)) m2)(h:P m2):qp n P m (.obj k):=.inr ⟨ρ,m2,N,h⟩
def RenO(ρ:List Nat)(o:Option R):Option R->Prop
 |none=>True
 |some r=>RenR ρ (some o) r
def RenVs(ρ:List Nat):List (Option R)->List (Option R)->Prop
 |o::os,q::qs=>RenO ρ o q/\RenVs ρ os qs
 |[],[]=>True
 |_,_=>False
theorem RenVs.len{ρ:List Nat}:∀{os qs:List (Option R)},RenVs ρ os qs->qs.length=os.length
 |[],[],_=>rfl
 |_::_,_::_,h=>congrArg (· + 1) (RenVs.len h.2)
 |[],_::_,h=>h.elim
 |_::_,[],h=>h.elim
theorem RenVs.get{ρ:List Nat}:∀{os qs:List (Option R)},RenVs ρ os qs->∀(j:Nat) (r:R),qs[j]?=some (some r)->RenR ρ os[j]? r
 |o::os,q::qs,h,0,r,e=>by
  have e':q=some r:=by simpa using e
  subst e';exact h.1
 |o::os,q::qs,h,j+1,r,e=>by simpa using RenVs.get h.2 j r (by simpa using e)
 |[],[],_,_,_,e=>by simp at e
 |[],_::_,h,_,_,_=>h.elim
 |_::_,[],h,_,_,_=>h.elim
theorem FJ{ρ:List Nat}{m m2:MSt}(nd:decide ρ.Nodup=true)(lt:(ρ.all fun k=>Nat.blt k m.os.length)=true)(pre:ρ.take m.np=aaP m.np)(npl:Nat.ble m.np ρ.length=true)(os:m2.os=ρ.map fun k=>m.os.getD k [])(np:m2.np=m.np)(vs:RenVs ρ m.vs m2.vs):Ren ρ m m2 :=
 ⟨of_decide_eq_true nd,fun k hk=>Nat.blt_eq.mp (aca.mp lt k hk),pre,aeA npl,os,np,vs.len,fun j r e=>vs.get j r e⟩
theorem Jc{d:iO}(h:(zipD ds es)[i]?=some d):∃a b,ds[i]?=some a/\es[i]?=some b/\d = .tuple [a,b]:=by
 obtain⟨p,h1,rfl,_⟩:=gmap h;obtain⟨h2,h3⟩:=List.getElem?_zip_eq_some.mp h1;exact⟨p.1,p.2,h2,h3,rfl⟩
end L2
namespace M3
def stepL(xs:List (List Nat))(r:Nat):List (List Nat):=xs.flatMap fun a=>(aaP (r+1)).map fun k=>a++[k]
def allL(rs:List Nat):List (List Nat):=rs.foldl stepL [[]]
def allR:List Nat->List (List Nat)
 |[]=>[[]]
 |r::rs=>(aaP (r+1)).flatMap fun k=>(allR rs).map (k :: ·)
theorem qM:∀(rs:List Nat) (xs:List (List Nat)),rs.foldl stepL xs=xs.flatMap fun a=>(allR rs).map (a++·)
 |[],xs=>by
  simp[allR]
 |r::rs,xs=>by
  rw[abP,qM rs];simp only[stepL,allR,List.flatMap_assoc,List.map_flatMap,List.flatMap_map,abe]
  congr 1
  funext a
  congr 1
  funext k
  congr 1
  funext l
  simp
theorem allL_eq(rs:List Nat):allL rs=allR rs:=by
 unfold allL;rw[qM];simp
theorem allR_len:∀{rs l:List Nat},l∈allR rs->l.length=rs.length
 |[],l,h=>by simp[allR]at h;subst h;rfl
 |r::rs,l,h=>by
  simp only[allR,aby,aay]at h;obtain⟨k,_,l',h,rfl⟩:=h;simp[allR_len h]
theorem stepL_length(xs:List (List Nat))(r:Nat):(stepL xs r).length=xs.length*(r+1):=by
 unfold stepL
 induction xs with
 |nil=>simp
 |cons a xs ih =>
  rw[afG,aap,ih,oR,aa3,aaD,aet];omega
theorem um:∀{rs:List Nat}{xs:List (List Nat)},(∀r∈rs,r≤6)->(rs.foldl stepL xs).length≤xs.length*7^rs.length
 |[],xs,_=>by simp
 |r::rs,xs,h=>by
  rw[abP];refine aaz (um fun r' h'=>h r' (aab _ h')) ?_;rw[stepL_length,aaD,acI,adh,ac6 (7^rs.length)];refine Nat.mul_le_mul_left _ (aeP _ ?_);have:=h r aaf;omega
theorem fold_small{rs:List Nat}(h4:rs.length≤4)(h:∀r∈rs,r≤6):(rs.foldl stepL [[]]).length≤2401:=by
 refine aaz (um h) ?_;have:7^rs.length≤7^4:=abO (by decide) h4;simpa using this
theorem stepL_take{xs:List (List Nat)}{r j:Nat}{l:List Nat}(h:xs[j]?=some l):stepL (xs.take (j+1)) r=stepL (xs.take j) r++(aaP (r+1)).map fun y=>l++[y]:=by
 unfold stepL;rw[abA,h,acD];simp
end M3
set_option maxHeartbeats 4100000
namespace K
open PySem L2
variable{h:Hall}{l:List Nat}
def FeedD(c:Nat)(ds:List iO):Prop:=∃(ns:List Int) (p q r:Int),ds=[.list (ns.map .int),.int p,.int q,.int r]/\ns.length≤63/\0≤p/\p≤c/\0≤q/\0≤r/\r≤c
theorem FeedD.mono{c c':Nat}{ds:List iO}(h:FeedD c ds)(hc:c≤c'):FeedD c' ds:=by
 obtain⟨ns,p,q,r,e,h1,h2,h3,h4,h5,h6⟩:=h;exact⟨ns,p,q,r,e,h1,h2,by omega,h4,h5,by omega⟩
def FX:SpM:=fun as K=>∃ns:List Int,as=[.imm (.list (ns.map .int))]/\ns.length≤63/\∀ds,FeedD 0 ds->K (.new ds) []
def uR:SpM:=fun as K=>∃(ds:List iO) (m:Int) (c:Nat),as=[.own ds,.imm (.int m)]/\FeedD c ds/\c<1000000000/\0<m/\m<1099511627776/\∀(r:Int) (ds':List iO),0≤r->r<m->FeedD (c+1) ds'->K (.imm (.int r)) [ds']
def AC:SpM:=fun as K=>∃ns:List Int,as=[.imm (.list (ns.map .int))]/\ns.length≤63/\K (.imm (.bool true)) []
def frD(a b:Int):iO:=.tuple [.int a,.int b]
structure Srv where
 a:Nat
 b:Nat
 r:Nat
def Srv.d(s:Srv):iO:=.tuple [.tuple [.int s.a,.int s.b],.int s.r]
structure Srv.Ok(s:Srv):Prop where
 a1:1≤s.a
 a2:s.a<1000000
 b1:1≤s.b
 b2:s.b<1000000
 r1:1≤s.r
 r6:s.r≤6
structure Hall where
 a:Nat
 b:Nat
 ss:List Srv
 mv:Bool
def Hall.d(h:Hall):iO:=.tuple [.tuple [.int h.a,.int h.b],.tuple (h.ss.map Srv.d),.bool h.mv]
structure Hall.Ok(h:Hall):Prop where
 a1:1≤h.a
 a2:h.a<1000000
 b1:1≤h.b
 b2:h.b<1000000
 n1:1≤h.ss.length
 n4:h.ss.length≤4
 ok:∀s∈h.ss,s.Ok
def Hall.rs(h:Hall):List Nat:=h.ss.map Srv.r
theorem Hall.rsl(h:Hall):h.rs.length=h.ss.length:=by simp[Hall.rs]
theorem Hall.Ok.r6(o:h.Ok):∀r∈h.rs,r≤6:=fun r hr=>by
 obtain⟨s,hs,rfl⟩:=aay.mp hr;exact(o.ok s hs).r6
theorem Hall.rs_get{i:Nat}{s:Srv}(e:h.ss[i]?=some s):h.rs[i]?=some s.r:=by simp[Hall.rs,e]
def prD(p:Nat×Nat):iO:=.tuple [.int (p.1:Int),.int (p.2:Int)]
def natD(l:List Nat):List iO:=l.map fun(k:Nat)=>.int (k:Int)
def lnD(l:List Nat):iO:=.tuple (natD l)
theorem bf(l:List Nat):(natD l).length=l.length:=by simp[natD]
theorem bW{i x:Nat}(h:l[i]?=some x):(natD l)[i]?=some (.int (x:Int)):=by simp[natD,h]
theorem oH(a b:List Nat):natD (a++b)=natD a++natD b:=by simp[natD]
def Ls:SpM:=fun as K=>∃h:Hall,as=[.imm h.d]/\h.Ok/\K (.new ((M3.allR h.rs).map lnD)) []
theorem yr{c:Nat}(hl:l.length≤c)(h:∀x∈l,x≤1000):Fine (c*15+3) 1 (lnD l):=by
 refine cv (n:=13) (k:=0) (c:=c) (fun d hd=>?_) (by simpa[natD]using hl);simp[natD]at hd;obtain⟨x,hx,rfl⟩:=hd;have:=h x hx;exact tQ (by omega)
inductive Rule where
 |random|turns|two|least|quick
 |told (ps:List Nat)
def Rule.word:Rule->Str
 | .random => "random" | .turns => "turns" | .two => "two" | .least => "least" | .quick => "quick" | .told _ => "told"
def Rule.d:Rule->iO
 | .told ps=>.tuple [.str "told",lnD ps]
 |r=>.tuple [.str r.word]
def Rule.Ok(h:Hall):Rule->Prop
 | .told ps=>ps.length=(M3.allR h.rs).length/\∀p∈ps,p<h.ss.length
 |_=>True
theorem lp{rs:List Nat}(h4:rs.length≤4)(h:∀r∈rs,r≤6):(M3.allR rs).length≤2401:=by
 rw[<-M3.allL_eq];exact M3.fold_small h4 h
def Fx:SpM:=fun as K=>∃(fd:List iO) (c:Nat) (h:Hall),as=[.own fd,.imm h.d]/\h.Ok/\FeedD c fd/\c<900000000/\∀(r:Rule) (fd':List iO),r.Ok h->FeedD (c+2410) fd'->K (.imm r.d) [fd']
def Lines(h:Hall)(l:List Nat):Prop:=l.length=h.ss.length/\∀(i:Nat) s x,h.ss[i]?=some s->l[i]?=some x->x≤s.r
theorem Lines.le(o:h.Ok)(k:Lines h l):∀x∈l,x≤6:=fun x hx=>by
 obtain⟨i,hi,rfl⟩:=abB.mp hx;have hi':i<h.ss.length:=by rw[<-k.1];exact hi
 have:=k.2 i _ _ (Ge hi') (Ge hi);have:=(o.ok _ (abh hi')).r6;omega
end K
namespace M7
open M3
def placeF:Nat->List Nat->List Nat->Nat
 |acc,r::rs,x::l=>placeF (acc*(r+1)+x) rs l
 |acc,_,_=>acc
def cnt:List Nat->Nat
 |[]=>1
 |r::rs=>(r+1)*cnt rs
theorem allR_cnt:∀rs:List Nat,(allR rs).length=cnt rs
 |[]=>rfl
 | r::rs=>by
  have ih:=allR_cnt rs;have:∀n:Nat,((aaP n).flatMap fun k=>(allR rs).map (k :: ·)).length=n*cnt rs:=by
   intro n
   induction n with
   |zero=>simp
   |succ n ihn=>rw[aec,acD,aap,ihn];simp[ih,aet]
  exact this (r+1)
theorem jc:∀{rs l:List Nat}{acc:Nat},l.length=rs.length->placeF acc rs l=acc*cnt rs+placeF 0 rs l
 |[],[],acc,_=>by simp[placeF,cnt]
 |r::rs,x::l,acc,h=>by
  have h':l.length=rs.length:=by simpa using h
  simp only[placeF,cnt];rw[jc h',jc (acc:=0*(r+1)+x) h',agT,adh];simp[afN]
 |[],_::_,_,h=>by simp at h
 |_::_,[],_,h=>by simp at h
theorem se{r x:Nat}{rs l:List Nat}(h:l.length=rs.length):placeF 0 (r::rs) (x::l)=x*cnt rs+placeF 0 rs l:=by
 simp only[placeF];rw[jc h];simp
def Fits:List Nat->List Nat->Prop
 |r::rs,x::l=>x≤r/\Fits rs l
 |[],[]=>True
 |_,_=>False
theorem Fits.len:∀{rs l:List Nat},Fits rs l->l.length=rs.length
 |[],[],_=>rfl
 |_::_,_::_,h=>congrArg (· + 1) h.2.len
 |[],_::_,h=>h.elim
 |_::_,[],h=>h.elim
theorem place_lt:∀{rs l:List Nat},Fits rs l->placeF 0 rs l<cnt rs
 |[],[],_=>by simp[placeF,cnt]
 |r::rs,x::l,h=>by
  rw[se h.2.len,cnt];have:=place_lt h.2;have h2:=aeP (cnt rs) (show x+1≤r+1 by have:=h.1;omega);rw[aet]at h2;omega
 |[],_::_,h=>h.elim
 |_::_,[],h=>h.elim
def pick(lt:Nat->Nat->Bool):Nat->List Nat->Nat
 |b,[]=>b
 |b,k::ks=>pick lt (if lt k b then k else b) ks
theorem ul{lt:Nat->Nat->Bool}:∀{ks:List Nat}{b:Nat},pick lt b ks=b\/pick lt b ks∈ks
 |[],b=>.inl rfl
 | k::ks,b=>by
  simp only[pick];rcases ul (lt:=lt) (ks:=ks) (b:=if lt k b then k else b)with h|h
  .rw[h]
   by_cases q:lt k b=true
   .rw[if_pos q];exact .inr aaf
   .rw[if_neg q];exact .inl rfl
  .exact .inr (aab _ h)
theorem pick_app{lt:Nat->Nat->Bool}:∀{ks:List Nat}{b k:Nat},pick lt b (ks++[k])=if lt k (pick lt b ks)then k else pick lt b ks
 |[],b,k=>rfl
 |j::ks,b,k=>by simp only[af1,pick];exact pick_app
theorem placeF_take:∀{rs l:List Nat}{i acc r x:Nat},rs[i]?=some r->l[i]?=some x->placeF acc (rs.take (i+1)) (l.take (i+1))=placeF acc (rs.take i) (l.take i)*(r+1)+x
 |r0::rs,x0::l,0,acc,r,x,h1,h2=>by
  have e1:r0=r:=by simpa using h1
  have e2:x0=x:=by simpa using h2
  subst e1 e2;simp[placeF]
 |r0::rs,x0::l,i+1,acc,r,x,h1,h2=>by
  simp only[List.take_succ_cons,placeF];exact placeF_take (by simpa using h1) (by simpa using h2)
 |[],_,_,_,_,_,h1,_=>by simp at h1
 |_::_,[],_,_,_,_,_,h2=>by simp at h2
end M7
namespace K
open PySem L2 M7
variable{n:Nat}
def Hall.an(h:Hall)(k:Nat):Nat:=(h.ss.map Srv.a).getD k 0
def Hall.bn(h:Hall)(k:Nat):Nat:=(h.ss.map Srv.b).getD k 0
def du(l:List Nat)(k b:Nat):Bool:=decide (l.getD k 0<l.getD b 0)
def cZ(h:Hall)(l:List Nat)(k b:Nat):Bool:=decide ((l.getD k 0+1)*h.bn k*h.an b<(l.getD b 0+1)*h.bn b*h.an k)
def sent(h:Hall)(r:Rule)(l:List Nat)(t:Nat)(o:List Nat):Nat:=match r with
 | .random=>o.headD 0
 | .turns=>t
 | .two=>pick (du l) (o.headD 0) (o.take 2)
 | .least=>pick (du l) (o.headD 0) o
 | .quick=>pick (cZ h l) (o.headD 0) o
 | .told ps=>ps.getD (placeF 0 h.rs l) 0
structure Ord(n:Nat)(o:List Nat):Prop where
 ne:o≠[]
 lt:∀k∈o,k<n
 le:o.length≤4
theorem Lines.fits{h:Hall}{l:List Nat}(k:Lines h l):Fits h.rs l:=by
 obtain⟨k1,k2⟩:=k;unfold Hall.rs;generalize h.ss=ss at k1 k2
 induction ss generalizing l with
 |nil=>cases l with
  |nil=>trivial
  |cons _ _=>simp at k1
 |cons s ss ih=>cases l with
  |nil=>simp at k1
  |cons x l=>exact⟨k2 0 s x rfl rfl,ih (by simpa using k1) fun i s x e1 e2=>k2 (i+1) s x (by simpa using e1) (by simpa using e2)⟩
theorem getN{l:List Nat}{k:Nat}(hl:l.length=n)(hk:k<n):l[k]?=some (l.getD k 0):=by
 rw[bm (Ge (show k<l.length by omega))];exact Ge _
theorem Hall.srv{h:Hall}{k:Nat}(hk:k<h.ss.length):∃s,h.ss[k]?=some s/\h.an k=s.a/\h.bn k=s.b/\s∈h.ss:=by
 refine⟨h.ss[k],Ge hk,?_,?_,abh hk⟩
 .exact bm (by rw[aak,Ge hk];rfl)
 .exact bm (by rw[aak,Ge hk];rfl)
def D8:SpM:=fun as K=>∃a b c d:Nat,as=[.imm (frD a b),.imm (frD c d)]/\a<1000000000000/\b<1000000000000/\c<1000000000000/\d<1000000000000/\K (.imm (.bool (decide (a*d<c*b)))) []
def z7:SpM:=fun as K=>∃(h:Hall) (l:List Nat),as=[.imm h.d,.imm (lnD l)]/\h.Ok/\Lines h l/\K (.imm (.int (placeF 0 h.rs l:Nat))) []
def lR:SpM:=fun as K=>∃(l o:List Nat),as=[.imm (lnD l),.imm (lnD o)]/\Ord l.length o/\K (.imm (.int (pick (du l) (o.headD 0) o:Nat))) []
def D5:SpM:=fun as K=>∃(h:Hall) (l:List Nat) (k:Nat),as=[.imm h.d,.imm (lnD l),.imm (.int (k:Int))]/\h.Ok/\Lines h l/\k<h.ss.length/\K (.imm (frD ((l.getD k 0+1)*h.bn k:Nat) (h.an k:Nat))) []
def lU:SpM:=fun as K=>∃(h:Hall) (l o:List Nat),as=[.imm h.d,.imm (lnD l),.imm (lnD o)]/\h.Ok/\Lines h l/\Ord h.ss.length o/\K (.imm (.int (pick (cZ h l) (o.headD 0) o:Nat))) []
def stD(l:List Nat)(t:Nat):iO:=.tuple [lnD l,.int (t:Int)]
def ue:SpM:=fun as K=>∃(h:Hall) (r:Rule) (l:List Nat) (t:Nat) (o:List Nat),as=[.imm h.d,.imm r.d,.imm (stD l t),.imm (lnD o)]/\h.Ok/\r.Ok h/\Lines h l/\Ord h.ss.length o/\K (.imm (.int (sent h r l t o:Nat))) []
theorem Ord.cons{o:List Nat}(h:Ord n o):∃k ks,o=k::ks/\k<n:=by
 cases o with
 |nil=>exact(h.ne rfl).elim
 |cons k ks=>exact⟨k,ks,rfl,h.lt k aaf⟩
theorem kM{lt:Nat->Nat->Bool}{o:List Nat}(h:Ord n o)(i:Nat):pick lt (o.headD 0) (o.take i)<n:=by
 obtain⟨k,ks,rfl,hk⟩:=h.cons;rcases ul (lt:=lt) (ks:=(k::ks).take i) (b:=k)with e|e
 .show pick lt k _<n;rw[e];exact hk
 .exact h.lt _ (acb e)
theorem uq:∀a b:List Nat,adH (natD a) (natD b)=decide (a=b)
 |[],[]=>by simp[natD,adH]
 |[],y::b=>by simp[natD,adH]
 |x::a,[]=>by simp[natD,adH]
 |x::a,y::b=>by
  have ih:=uq a b;unfold natD at ih;simp only[natD,aai,adH,aaw,ih]
  by_cases h:x=y
  .subst h;simp
  .have:¬((x:Int)=(y:Int)):=fun z=>h (aib z);simp[h,this]
theorem OG(a b:List Nat):aaw (lnD a) (lnD b)=decide (a=b):=by
 simp only[lnD,aaw];exact uq a b
def Rule.tl:Rule->List iO
 | .told ps=>[lnD ps]
 |_=>[]
theorem Rule.dc(r:Rule):r.d = .tuple (.str r.word::r.tl):=by cases r<;>rfl
theorem Gc{m:MSt}{Kr:R->Prop}{d x:iO}{ds:List iO}{i:Int}(e:d = .tuple ds)(h:atI ds i=some x)(k:Kr (.imm x)):pK (.imm d) (.imm (.int i)) m Kr:=by
 subst e;exact bc h k
end K
namespace L2
open PySem PySem.Spec PyProof.Rows
variable{t:Bool}{e it l:Addr}{items:Array GE}{Q:Option GE->aaa->Prop}{ns:List Int}{i:Nat}{ds:List iO}{Kr:R->Prop}{ob:WM}{K:R->MSt->Prop}
theorem oX{prog:aaW}{w:World}{A:abx}(t:Bool)(hh:A.handled=none)(I ax:Addr)(hne:ax≠I)(items:Array GE):Walks prog w A I [I,ax] [I] items.size (fun i v=>items[i]?=some v) (fun i h=>SubI t h I ax i/\SubS t h ax items):=by
 cases t
 .exact Walks.list hh I ax hne items
 .exact Walks.tuple hh I ax hne items
section
variable {prog:aaW}{w:World}{A:abx}{E:GE->aaa->Prop}{s:aaa}
theorem tU{Q:GE->aaa->Prop}(hl:SubS t s.heap l items)
  (h:∀s2:aaa,s2={s with heap:=s.heap.push (itO t l)}->(SubI t s2.heap s.heap.objs.size l 0/\SubS t s2.heap l items)->(∀b∈[s.heap.objs.size,l],b<s2.heap.objs.size)->l≠s.heap.objs.size->Q (.ref s.heap.objs.size) s2):wpAny (model prog w) A (afh (.ref l)) Q E s:=by
 have hlt:l<s.heap.objs.size:=by
  cases t
  .obtain⟨_,e,_⟩:=(show s.heap.IsList l items from hl);exact aan e
  .obtain⟨_,e,_⟩:=(show s.heap.IsTuple l items from hl);exact aan e
 refine db hl (h _ rfl ⟨?_,hl.keep fun o e=>OR _ e⟩ (fun b hb=>?_) (aa6 hlt))
 .cases t
  .exact⟨_,aar _ rfl,rfl,rfl⟩
  .exact⟨_,aar _ rfl,rfl,rfl⟩
 .show b<(s.heap.push _).objs.size;rw[abE];simp only[aa1,or_false,aal]at hb;rcases hb with rfl|rfl
  .exact abQ _
  .exact aev hlt
theorem uy{h':aa4}(hk:∀b o,b∉[s.heap.objs.size]->(s.heap.push (itO t l)).get? b=some o->h'.get? b=some o):∀b o,s.heap.get? b=some o->h'.get? b=some o:=fun b o e =>
 hk b o (fun hm=>absurd (aan e) (by rw[aah.mp hm];exact acK _)) (OR _ e)
theorem rF(hi:afC items.toList ns):∀(i:Nat) (v:GE),items[i]?=some v->∃t,v = .int (ns.getD i 0) t:=fun i v e=>hi.int_at i v (by simpa using e)
end
section
variable {X:Cx}
def rMax(K:aaj):List V->Hp->VK->Prop:=fun xs H Q=>∃t l ns,xs=[.ref l]/\SqB t K H l (ns.map V.int)/\ns≠[]/\∀x,x∈ns->(∀y∈ns,y≤x)->Q (.int x) H
theorem Da{b:Nat}(hb:b≤ns.length-1)(hne:ns≠[]):ns.getD b 0∈ns:=by
 have hl:b<ns.length:=by
  have:ns.length≠0:=fun z=>hne (abC z);omega
 rw[bm (Ge hl)];exact abh hl
theorem qL(hc:X.calm=true):dU X (.builtin "max") (rMax X.K):=by
 rintro pins s σ H xs us Q I rv ⟨t,l,ns,ex,hq,hne,q⟩;subst ex;obtain⟨u,rfl,ru⟩:=rv.one;cases ru;obtain⟨its,rvv,pl,_⟩:=I.sqb hq;have hi:afC its.toArray.toList ns:=jg rvv;have hl:its.length=ns.length:=by have:=rvv.length;rw[oR]at this;omega
 refine call_max_walk (tU pl fun s2 e st hfp hlI=>?_);subst e;refine⟨s.heap.objs.size,[s.heap.objs.size,l],[s.heap.objs.size],its.toArray.size,fun i v=>its.toArray[i]?=some v,fun i h=>SubI t h s.heap.objs.size l i/\SubS t h l its.toArray,_,rfl,oX (A:=X.A.in1) t (I.ok.hd hc) _ l hlI its.toArray,st,hfp,?_,CmpOf.ints_gt (fun i=>ns.getD i 0) (rF hi),fun v h' tk hP hk=>?_⟩
 .have:ns.length≠0:=fun z=>hne (abC z);rw[aas];omega
 .obtain⟨tt,rfl⟩:=rF hi _ v hP;rw[aas,hl]at *;obtain⟨b1,b2⟩:=PySem.argBest_gt (fun i=>ns.getD i 0) (ns.length-1);refine⟨.int _,H,I.kept (t':=tk) (uy hk),⟨_,rfl⟩,q _ (Da b1 hne) fun y hy=>?_⟩;obtain⟨j,hj,rfl⟩:=abB.mp hy;have:=b2 j (by omega);rwa[bm (Ge hj)]at this
end
section
variable {prog:aaW}{w:World}{A:abx}{E:GE->aaa->Prop}{s:aaa}
structure t6(t:Bool)(e it l:Addr)(k:Nat)(h:aa4):Prop where
 e:∃old,IsEnum h e it (k:Int) old
 s:SubI t h it l k
theorem zH{x:GE}(Z:t6 t e it l i s.heap)(hl:SubS t s.heap l items)(hx:items[i]?=some x)(hne:e≠it)
  (hQ:∀h',IsEnumOut h' e it ((i:Int)+1) x s.heap.objs.size->SubI t h' it l (i+1)->ae4 h' s.heap.objs.size (.int i s.toks) x->h'.objs.size=s.heap.objs.size+1 ->
   (∀b o,b∉[e,it]->s.heap.get? b=some o->h'.get? b=some o)->Q (some (.ref s.heap.objs.size)) {s with heap:=h',toks:=s.toks+1}):wpAny (model prog w) A (acF (.ref e)) Q E s:=by
 obtain⟨⟨old,he⟩,hit⟩:=Z;have hT:s.TypeIs (.ref e) "enumerate" :=(⟨_,he,rfl⟩);unfold acF;refine gE (adg (aaY (name:=ab3 "__next__") hT adJ (aa0 adJ hT agn ?_ (af2 _))));rcases s with⟨hp,g,d,tk,os⟩;refine gE (m:=field (.ref e) 2) (abc he rfl (x:=.ref it) rfl (gE (jv hit hl hx fun g1 n1 s1=>?_)));replace s1:abw it hp g1:=s1;have e1:IsEnum g1 e it i old:=(s1.2 e hne).trans he;show wpAny _ _ (field (.ref e) 3 >>= _) _ _ ⟨g1,g,d,tk,os⟩;refine gE (abc e1 rfl (x:=adI i) rfl ?_);show wpAny _ _ (field (.ref e) 4 >>= _) _ _ ⟨g1,g,d,tk,os⟩;refine gE (abc e1 rfl (x:=.none) rfl ?_);refine gE (m:=mkInt i) (wpAny_mkInt ?_);show wpAny _ _ (ac7 (.ref e) 3 (adI ((i:Int)+1)) >>= _) _ _ ⟨g1,g,d,tk+1,os⟩;refine gE (aaM e1 (by simp) fun g2 e2 s2=>?_);replace s2:abw e g1 g2:=s2;replace e2:IsEnum g2 e it ((i:Int)+1) old:=e2;show wpAny _ _ (ac7 (.ref e) 4 .none >>= _) _ _ ⟨g2,g,d,tk+1,os⟩;refine gE (aaM e2 (by simp) fun g3 e3 s3=>?_);replace s3:abw e g2 g3:=s3;replace e3:IsEnum g3 e it ((i:Int)+1) old:=e3;refine gE (m:=ahC [.int i tk,x]) (aeu ?_);have e4:IsEnum (g3.push {cls:=.type "tuple",data:=.seq #[.int i tk,x]}) e it ((i:Int)+1) old:=OR _ e3;have hsz:g3.objs.size=hp.objs.size:=by rw[s3.1,s2.1,s1.1]
 have young:e<hp.objs.size:=aan he;have t4:(g3.push {cls:=.type "tuple",data:=.seq #[.int i tk,x]}).get? hp.objs.size=some {cls:=.type "tuple",data:=.seq #[.int i tk,x]}:=by rw[<-hsz];exact aar _ rfl
 have z4:(g3.push {cls:=.type "tuple",data:=.seq #[.int i tk,x]}).objs.size=hp.objs.size+1:=by rw[abE,hsz]
 have k4:∀b o,b∉[e,it]->hp.get? b=some o->(g3.push {cls:=.type "tuple",data:=.seq #[.int i tk,x]}).get? b=some o:=fun b o hb q=>by
  simp only[aal,aa1,not_or,or_false]at hb;exact OR _ (s3.extBut b o hb.1 (s2.extBut b o hb.1 (s1.extBut b o hb.2 q)))
 have n4:SubI t (g3.push {cls:=.type "tuple",data:=.seq #[.int i tk,x]}) it l (i+1):=((n1.ext s2.extBut (abz hne)).ext s3.extBut (abz hne)).keep fun o q=>OR _ q;generalize g3.push {cls:=.type "tuple",data:=.seq #[.int i tk,x]}=g4 at e4 t4 z4 k4 n4;show wpAny _ _ (ab1 (.ref e) >>= _) _ _ ⟨g4,g,d,tk+1,os⟩;rw[hsz];refine gE (m:=ab1 (.ref e)) (gE (m:=field (.ref e) 0) (abc e4 rfl (x:=.none) rfl (aac ?_)));simp only[if_true];refine gE (acP (gE (abc e4 rfl (x:=old) rfl (gE (aaM e4 (by simp) fun g5 e5 s5=>?_)))));replace s5:abw e g4 g5:=s5;replace e5:IsEnum g5 e it ((i:Int)+1) x:=e5;show wpAny _ _ (acE (.ref e) (.ref hp.objs.size) >>= _) _ _ ⟨g5,g,d,tk+1,os⟩;refine gE (m:=acE (.ref e) (.ref hp.objs.size)) ?_;refine gE (m:=ac7 (.ref e) 0 _) (aaM e5 (by simp) fun g6 e6 s6=>?_);replace s6:abw e g5 g6:=s6;replace e6:IsEnumOut g6 e it ((i:Int)+1) x hp.objs.size:=e6;refine aaM e6 (by simp) fun g7 e7 s7=>?_;replace s7:abw e g6 g7:=s7;replace e7:IsEnumOut g7 e it ((i:Int)+1) x hp.objs.size:=e7;have up:∀b o,b≠e->g4.get? b=some o->g7.get? b=some o:=fun b o n q=>s7.extBut b o n (s6.extBut b o n (s5.extBut b o n q));refine gE (afF (aac ⟨_,rfl,aac (hQ g7 e7 (n4.keep fun o q=>up _ o (abz hne) q) (up _ _ (abJ young) t4) (by rw[s7.1,s6.1,s5.1,z4]) fun b o hb q=>up b o (fun z=>hb (by simp[z])) (k4 b o hb q))⟩))
theorem AV(hh:A.handled=none)(Z:t6 t e it l i s.heap)(hl:SubS t s.heap l items)(hx:items[i]?=none)
  (hQ:∀hz,afE it s.heap hz->Q none {s with heap:=hz}):wpAny (model prog w) A (acF (.ref e)) Q E s:=by
 obtain⟨⟨old,he⟩,hit⟩:=Z;have hT:s.TypeIs (.ref e) "enumerate" :=(⟨_,he,rfl⟩);unfold acF;refine gE (adg (aaY (name:=ab3 "__next__") hT adJ (aa0 adJ hT agn ?_ (af2 _))));refine gE (m:=field (.ref e) 2) (abc he rfl (x:=.ref it) rfl (gE (si hh hit hl hx fun h' x he' hx'=>?_)));obtain⟨o,ho,hc⟩:=hx';exact gE (adm (T := "StopIteration") (b:=true) ⟨o,ho,hc⟩ afp (aac (hQ _ he')))
end
open AutoSeq1 (wpAny_loadPart') in
set_option maxHeartbeats 1100000 in
theorem CI(t:Bool)(l:Addr)(items:Array GE) :
  Meets (ac4.«enumerate.__new__» ⟨[.type "enumerate",.ref l],[]⟩) (fun _ R s=>SubS t s.heap l items /\
   R (.ok (.ret (.ref (s.heap.push (itO t l)).objs.size))) {s with heap:=(s.heap.push (itO t l)).push {cls:=.type "enumerate",data:=.fields #[.none,.bool false,.ref s.heap.objs.size,adI 0,.none,.none]} }) :=
 .of_wp fun prog w A R s h=>by
  rcases s with⟨hp,g,d,tk,os⟩;rcases h with⟨hl,h⟩;have hsub:=sub_enumerate;have hL:SubS t (ahX ⟨hp,g,d,tk,os⟩) l items:=hl
  wp_walk
  refine wpAny_stack_any fun st=>?_;refine aac ?_;split
  .rename_i c _ _ _ _ _
   cases c==agg "enumerate"
   .wp_walk using db hL
    exact⟨_,rfl,h⟩
   .wp_walk using db hL
    exact⟨_,rfl,h⟩
  .wp_walk using db hL
   exact⟨_,rfl,h⟩
section
variable {prog:aaW}{w:World}{A:abx}{E:GE->aaa->Prop}{s:aaa}
theorem xy{Q:GE->aaa->Prop}(hL:SubS t s.heap l items)
  (h:∀h',t6 t (s.heap.objs.size+1) s.heap.objs.size l 0 h'->(∀b o,s.heap.get? b=some o->h'.get? b=some o)->Q (.ref (s.heap.objs.size+1)) {s with heap:=h' }):wpAny (model prog w) A (call (.type "enumerate") [.ref l]) Q E s:=by
 refine callType_new F.called_enumerate (by decide) (F.typeCall_enumerate_1 _) (F.newCall_enumerate_1 _) (fun obj=>F.args_object_init_2 obj _) F.entry_enumerate_new (CI t l items) ⟨hL,?_⟩;have hz:(s.heap.push (itO t l)).objs.size=s.heap.objs.size+1:=abE ..;show _/\_;rw[hz];have he:((s.heap.push (itO t l)).push {cls:=.type "enumerate",data:=.fields #[.none,.bool false,.ref s.heap.objs.size,adI 0,.none,.none]}).get? (s.heap.objs.size+1)=some {cls:=.type "enumerate",data:=.fields #[.none,.bool false,.ref s.heap.objs.size,adI 0,.none,.none]}:=by
  rw[<-hz];exact aar _ rfl
 have hi:((s.heap.push (itO t l)).push {cls:=.type "enumerate",data:=.fields #[.none,.bool false,.ref s.heap.objs.size,adI 0,.none,.none]}).get? s.heap.objs.size=some (itO t l):=OR _ (aar _ rfl);refine⟨⟨_,he,rfl⟩,h _ ⟨⟨.none,he⟩,?_⟩ fun b o x=>OR _ (OR _ x)⟩;cases t
 .exact⟨_,hi,rfl,rfl⟩
 .exact⟨_,hi,rfl,rfl⟩
end
def Ite(t:Bool)(K:aaj)(a:Addr):It where
 go:=fun i H=>∃xs x,SqB t K H a xs/\xs[i]?=some x
 yld:=fun i H v H'=>∃T x,v = .ref T/\H T=none/\H'=upd H T (.tup [.int (i:Int),x])/\∀xs,SqB t K H a xs->xs[i]?=some x
 stop:=fun i H=>∃xs,SqB t K H a xs/\xs.length≤i
theorem zu{P:aaW}{w:World}{K:aaj}{elts:List Expr}{x1:Nat}{pos:Pos}{a:Addr}(hne:e≠it):Turn P w K (.Tuple elts x1 pos) (Ite t K a) [e,it] e (fun i h=>t6 t e it a i h) where
 mem:=by simp
 obj:=fun i h st c hc=>by
  obtain⟨⟨old,he⟩,h1⟩:=st;simp only[aal,aa1,or_false]at hc;rcases hc with rfl|rfl
  .exact⟨_,he,fun v q=>by cases q⟩
  .obtain⟨o,vs,e,d⟩:=h1.obj;exact⟨o,e,fun v q=>by rw[d]at q;cases q⟩
 keep:=fun i h h' st k=>by
  obtain⟨⟨old,he⟩,h1⟩:=st;exact⟨⟨old,k e (by simp) _ he⟩,h1.keep fun o q=>k it (by simp) o q⟩
 item:=by
  intro X hP hw hK hc i pins s σ H E I hf st hg;subst hP hw hK;obtain⟨xs,x,hq,hx⟩:=hg;obtain⟨its,rv,p,_⟩:=I.sqb hq;obtain⟨u,eu,ru⟩:=rv.get hx;refine zH st p (x:=u) (by simpa using eu) hne fun h' a1 a2 a3 a4 a5=>⟨.ref s.heap.objs.size,rfl,?_⟩;refine wpAny_letOwnedTupleGo_enum (s:={s with heap:=h',toks:=s.toks+1}) a1 fun h2 b1 sb=>?_;have hfT:H s.heap.objs.size=none:=I.hok.fresh (Io _);have sfp:∀c∈[e,it],c<s.heap.objs.size:=fun c hc=>by
   obtain⟨⟨old,he⟩,h1⟩:=st;simp only[aal,aa1,or_false]at hc;rcases hc with rfl|rfl
   .exact aan he
   .obtain⟨o,vs,e,d⟩:=h1.obj;exact aan e
  have nz:∀c∈[e,it],c≠s.heap.objs.size:=fun c hc=>aa6 (sfp c hc);have up:∀c o,c≠e->h'.get? c=some o->h2.get? c=some o:=fun c o n q=>sb.extBut c o n q;have T2:ae4 h2 s.heap.objs.size (.int i s.toks) u:=up _ _ (abz (nz e (by simp))) a3;have I0:Inv X pins σ (upd H s.heap.objs.size (.tup [.int (i:Int),x])) {s with heap:=s.heap.push {cls:=.type "tuple",data:=.seq #[.int i s.toks,u]},toks:=s.toks+1} :=
   I.laid (o:=.tup [.int (i:Int),x]) (fun c o q=>OR _ q) (Io _) ⟨by show 2≤aam;rw[aav];decide,[.int i s.toks,u],.cons ⟨_,rfl⟩ (.cons ru .nil),PlainT.new _ _⟩
  have Il:Inv X pins σ (upd H s.heap.objs.size (.tup [.int (i:Int),x])) {s with heap:=h2,toks:=s.toks+1}:=by
   refine Inv.turneds (s:={s with heap:=s.heap.push {cls:=.type "tuple",data:=.seq #[.int i s.toks,u]},toks:=s.toks+1}) (h':=h2) (t':=s.toks+1) (ch:=[e,it]) I0 (fun c o hc q=>?_) fun c hc=>?_
   .rcases aeR q with⟨rfl,rfl⟩|q
    .exact T2
    .exact up c o (fun z=>hc (by simp[z])) (a5 c o hc q)
   .obtain⟨f0,f1⟩:=hf c hc;exact⟨by rw[am (nz c hc)];exact f0,f1⟩
  refine⟨.ref s.heap.objs.size,upd H s.heap.objs.size (.tup [.int (i:Int),x]),Il,rfl,⟨_,x,rfl,hfT,rfl,fun zs hz=>by rw[I.sqb_inj hz hq];exact hx⟩,⟨⟨u,?_⟩,a2.keep fun o q=>up _ o (abz hne) q⟩,fun c hc=>?_⟩
  .have:((i+1:Nat):Int)=(i:Int)+1:=by omega
   rw[this];exact b1
  .rw[am (nz c hc)];exact(hf c hc).1
 done:=by
  intro X hP hw hK hc i pins s σ H E I hf st hg;subst hP hw hK;obtain⟨xs,hq,he⟩:=hg;obtain⟨its,rv,p,_⟩:=I.sqb hq;have l1:=rv.length;exact AV (I.ok.hd hc) st p (by simp;omega) fun h' hk=>⟨rfl,I.turneds (t':=s.toks) (ch:=[e,it]) (fun c o hc q=>hk c o (fun z=>hc (by simp[z])) q) hf⟩
 self:=fun _ _ _ _ _ st h=>by obtain⟨⟨old,he⟩,_⟩:=st;exact wpAny_pyIter_enum he h
section
variable {X:Cx}{elts:List Expr}{x1:Nat}{tpos:Pos}{a:Expr}{ws:WA}{p pos:Pos}
def Sy(K:aaj)(ta:TA):TI:=fun σ H Rq=>ta σ H fun vs H1=>∃t l,vs=[.ref l]/\(∃xs,SqB t K H1 l xs)/\Rq (Ite t K l) H1
theorem IL{ta:TA}(hg:Gl X "enumerate")(hm:X.mg "enumerate" = none)(ha:PA X [a] ta)(hs:aao [a] X.env=[(false,eval a X.env)]:=by first|exact cx rfl|rfl):PI X (.Tuple elts x1 tpos) (.Call (.Name "enumerate" p) [a] [] pos) (Sy X.K ta):=by
 intro pins s σ H Rq I h;refine Call_ (ll I hg hm p8 (acG (thn (ha pos pins s σ H _ I h) fun us s1 ⟨vs,H1,I1,r1,q1⟩=>?_) hs rfl));obtain⟨t,l,e,⟨xs,h1⟩,q⟩:=q1;subst e
 cases r1 with
 | cons r rr =>
  cases rr;cases r;obtain⟨its,rv,pp,_⟩:=I1.sqb h1;refine xy pp fun h' Z hk=>?_;obtain⟨old,he⟩:=Z.e;refine wpAny_pyIter_enum he ⟨s1.heap.objs.size+1,_,_,_,H1,rfl,I1.kept (t':=s1.toks) hk,zu (Nat.succ_ne_self _),Z,fun c hc=>?_,q⟩;have hle:s1.heap.objs.size≤c:=by
   have hc':c∈([s1.heap.objs.size+1,s1.heap.objs.size]:List Nat):=hc;simp only[aal,aa1,or_false]at hc';rcases hc' with rfl|rfl<;>first|exact aco _ _|exact Io _
  exact I1.fpOk hle (I1.hok.fresh hle)
def vt(ds:List iO):List iO:=zipD (gH 0 ds.length) ds
def zR(ws:WA):WI:=fun m K=>ws m fun rs m'=>on1 (fun r=>∃t ds,imS r=some (t,ds)/\K ⟨vt ds,none⟩ m') rs
theorem dA(ds:List iO):(vt ds).length=ds.length:=by unfold vt;rw[fv,aw];omega
theorem oJ{d:iO}(h:ds[i]?=some d):(vt ds)[i]?=some (.tuple [.int (i:Int),d]):=by
 have hi:=(aad.mp h).1;have:=ub (iW (lo:=0) hi) h;rw[ady]at this;exact this
theorem wks_enum{K:Kd}:Wks K (Ite t K l) (vt ds) fun H=>∃xs,SqB t K H l xs/\DenAll K H ds xs where
 stop:=fun H ⟨xs,q,g⟩=>⟨xs,q,by rw[dA,g.length];exact Io _⟩
 go:=fun i H hi ⟨xs,q,g⟩=>by
  rw[dA]at hi;exact⟨xs,xs[i]'(by rw[<-g.length];exact hi),q,Ge _⟩
 yld:=fun i H x H' hi ⟨xs,q,g⟩ y=>by
  obtain⟨T,u,rfl,hT,rfl,e1⟩:=y;obtain⟨d,h1,k1⟩:=g.get2 (e1 xs q);have gr:∀b o,H b=some o->upd H T (.tup [.int (i:Int),u]) b=some o:=fun b o q=>by rw[am (bh q hT)];exact q
  have pe:Pers H (upd H T (.tup [.int (i:Int),u])):=⟨fun b xs q=>gr b _ q,fun b o u q=>gr b _ q⟩;exact⟨gr,_,oJ h1,c5 (SqT.of av) (DenAll.cons (mF _) (DenAll.cons (k1.mono pe) DenAll.nil))⟩
theorem F7(hm:X.mg "enumerate" = none)(ha:MA X [a] ws)(hg:Gl X "enumerate" :=by rfl)(hs:aao [a] X.env=[(false,eval a X.env)]:=by first|exact cx rfl|rfl):MI X (.Tuple elts x1 tpos) (.Call (.Name "enumerate" p) [a] [] pos) (zR ws):=(IL hg hm ha hs).wk fun σ H Rq ⟨α,m,Kc,Rl,hw,fin⟩=>by
 refine⟨α,m,_,Rl,hw,fun rs m' vs H' k n Rl' rr F=>?_⟩;obtain⟨r,v,rfl,rfl,h1,t,ds,e1,k⟩:=fz rr k;obtain⟨l,xs,rfl,g1,q1,p1⟩:=yZ h1 e1;refine⟨t,l,rfl,⟨xs,q1⟩,fin _ m' _ H' k n Rl' F ⟨fun H=>∃xs,SqB t X.kx H l xs/\DenAll X.kx H ds xs/\∀H1,Pers H H1->SqB t X.kx H1 l xs,wks_enum.imp fun H ⟨xs,a,c,_⟩=>⟨xs,a,c⟩,⟨xs,q1,g1,p1⟩,fun Ha Hb ⟨xs,a,c,pa⟩ pe=>⟨xs,pa Hb pe,c.mono pe,fun H1 p=>pa H1 (pe.trans p)⟩⟩⟩
theorem Cv(hm:X.mg "enumerate" = none)(ha:EA X [a] ws)(hg:Gl X "enumerate" :=by rfl)(hs:aao [a] X.env=[(false,eval a X.env)]:=by first|exact cx rfl|rfl):EI X (.Tuple elts x1 tpos) (.Call (.Name "enumerate" p) [a] [] pos) (zR ws):=⟨F7 hm ha.h hg hs⟩
theorem M9{m:MSt}{Ks:Src->MSt->Prop}(h:ws m fun rs m'=>on1 (fun r=>∃t ds,imS r=some (t,ds)/\Ks ⟨vt ds,none⟩ m') rs):zR ws m Ks:=h
end
section
variable {X:Cx}
def Na:WC:=fun rs m K=>on1 (fun r=>∃ds ns,sqOf m r=some ds/\d8 ds=some ns/\ns≠[]/\∀x,x∈ns->(∀y∈ns,y≤x)->K (.imm (.int x))) rs
theorem lH(hc:X.calm=true):dU X (.builtin "max") (cM X.kx Na):=by
 rintro pins s σ' H xs us Q I rv ⟨α,m,σ,H0,rs,Kc,Rl,h,ho,fin⟩;obtain⟨r,v,rfl,rfl,h1,ds,ns,e1,e2,hne,ho⟩:=fz h ho;obtain⟨a,ys,rfl,f,g⟩:=h1.seq Rl e1;rw[iQ e2]at g;have ey:=fo g;subst ey;have go:∀x,x∈ns->(∀y∈ns,y≤x)->Q (.int x) H:=fun x h1 h2=>fin _ _ H (ho x h1 h2) Rl (fI _) (Frm.refl _ _);rcases f with f|f
 .exact qL hc pins s σ' H _ us Q I rv ⟨false,a,ns,rfl,f,hne,go⟩
 .exact qL hc pins s σ' H _ us Q I rv ⟨true,a,ns,rfl,f,hne,go⟩
theorem FU{m:MSt}{r:R}(e1:sqOf m r=some ds)(e2:d8 ds=some ns)(hne:ns≠[])(h:∀x,x∈ns->(∀y∈ns,y≤x)->Kr (.imm (.int x))):Na [r] m Kr:=⟨ds,ns,e1,e2,hne,h⟩
end
open SeqAt in
open AutoSeq1 (wpAny_loadPart') in
theorem rm(l:Addr)(items:Array GE)(n:Nat)(dd:Option Addr)(sl:Array (Option GE))(x:GE)(e:GE->Bool)(j:Nat)(hj:j<items.size)(hit:e items[j]=true)(hno:∀m (hm:m<items.size),m<j->e items[m]=false) :
  Meets (ac4.«tuple.index» ⟨[.ref l,x],[]⟩)
   (fun A R s=>s.heap.get? l=some {cls:=.type "tuple",dict:=dd,data:=.seq items n,slots:=sl}/\(∀y,y∈items->EqAt A.in1 s y x (e y))/\R (.ok (.ret (.int j s.toks))) {s with toks:=s.toks+1}) :=
 .of_wp fun prog w A R s h=>by
  rcases s with⟨hp,g,d,tk,os⟩;rcases h with⟨hl,he,h⟩
  (wp_walk using ae6 hl)
  refine(show wpAny (model prog w) A.in1 (forIn ([:min items.size items.size]:Std.Legacy.Range) _ _) _ _ _ from ?_);simp only[Std.Legacy.Range.forIn_eq_forIn_range'];have e1:ahY (0:Nat) (min items.size items.size) 1=ahY 0 items.size 1:=by rw[Nat.min_self]
  refine aeG _ (fun rest (b:Option _×Unit) s'=>b.1=none/\s'=⟨hp,g,d,tk,os⟩/\∃i,i≤j/\rest=ahY i (items.size-i) 1) _ ?turn ?fin _ _ ?start
  case turn =>
   rintro i rest b s' ⟨hb,rfl,i0,hi0,hr⟩;have hlt:i0<items.size:=by omega
   have hs:items.size-i0=(items.size-(i0+1))+1:=by omega
   rw[hs,List.range'_succ]at hr;cases hr;rw[show items[i]?=some items[i]from acj hlt];refine gE (he items[i] (Array.getElem_mem hlt) prog w _ _ ?_)
   by_cases hij:i=j
   .subst hij;rw[hit]
    wp_walk
    exact⟨_,rfl,h⟩
   .rw[hno i hlt (by omega)]
    wp_walk
    exact⟨rfl,rfl,i+1,by omega,rfl⟩
  case fin =>
   rintro⟨b1,b2⟩ s' ⟨hb,rfl,i0,hi0,hr⟩;have:=congrArg aeO hr;simp at this;omega
  case start =>
   refine⟨rfl,rfl,0,acL _,?_⟩;simp[Std.Legacy.Range.size]
section
variable {X:Cx}{o e:Expr}{es:List Expr}{wo:WE}{ws:WA}{apos cpos:Pos}
def wMT(ob:WM)(wo:WE)(ws:WA):WE:=fun m K=>wo m fun r m1=>(∃ds,r = .imm (.tuple ds))/\ws m1 fun rs m2=>ob r rs m2 K
theorem QG{name:Str}{id:String}(slot:Slot "tuple" name id)(hty:typeOf (.builtin id)=pure (.type "method_descriptor"))(hm:MtM X id (mM X.kx ob))(ho:ME X o wo)(ha:MA X (e::es) ws)
  (hbase:abG o name X.env (eval o X.env)=eval o X.env:=by rfl)
  (hfew:((ace cpos (aao (e::es) X.env)).all (fun x=>!x.1)&&(afk cpos (adO [] X.env)).all (fun x=>x.1.isSome)
   && decide ((e::es).length+([]:List adr).length+(if ([]:List adr).isEmpty then 0 else 1)<30))=true:=by rfl)
  (hline:(apos.endLine==cpos.line)=true:=by rfl) (hs:aao (e::es) X.env=(false,eval e X.env)::aao es X.env:=by first|exact aV rfl|rfl) (hplain:(ace cpos (aao es X.env)).any (·.1)=false:=by rfl) :
  ME X (.Call (.Attribute o name apos) (e::es) [] cpos) (wMT ob wo ws):=(NH PySem.F.plainAttrs_tuple slot hty hm ho ha hbase hfew hline hs hplain).wk fun σ H Q ⟨α,m,Kc,Rl,hw,fin⟩=>by
 refine⟨α,m,_,Rl,hw,fun r m1 v H1 k n1 Rl1 rr F1=>?_⟩;obtain⟨⟨ds,rfl⟩,k⟩:=k;obtain⟨a,xs,rfl,f,g⟩:=bI (show Den X.kx H1 (.tuple ds) v from rr);refine⟨.inr (.inl ⟨rfl,xs,f⟩),α,m1,_,Rl1,k,fun rs m2 vs H2 k2 n2 Rl2 rr2 F2=>?_⟩;exact⟨α,m2,σ,H,H1,.imm (.tuple ds),rs,Kc,Rl2,rr.keep Rl Rl1 F2,rr2,k2,fun r m' v H' k n Rl' rr' F=>fin r m' v H' k (n.trans (n2.trans n1)) Rl' (rr'.base Rl2 (F1.trans F2)) ((F1.trans F2).trans F)⟩
theorem DY{name:Str}{id:String}(slot:Slot "tuple" name id)(hty:typeOf (.builtin id)=pure (.type "method_descriptor"))(hm:MtM X id (mM X.kx ob))(ho:EE X o wo)(ha:EA X (e::es) ws)
  (hbase:abG o name X.env (eval o X.env)=eval o X.env:=by rfl)
  (hfew:((ace cpos (aao (e::es) X.env)).all (fun x=>!x.1)&&(afk cpos (adO [] X.env)).all (fun x=>x.1.isSome)
   && decide ((e::es).length+([]:List adr).length+(if ([]:List adr).isEmpty then 0 else 1)<30))=true:=by rfl)
  (hline:(apos.endLine==cpos.line)=true:=by rfl) (hs:aao (e::es) X.env=(false,eval e X.env)::aao es X.env:=by first|exact aV rfl|rfl) (hplain:(ace cpos (aao es X.env)).any (·.1)=false:=by rfl) :
  EE X (.Call (.Attribute o name apos) (e::es) [] cpos) (wMT ob wo ws):=⟨QG slot hty hm ho.h ha.h hbase hfew hline hs hplain⟩
theorem x_mt{m:MSt}(h:wo m fun r m1=>(∃ds,r = .imm (.tuple ds))/\ws m1 fun rs m2=>ob r rs m2 K):wMT ob wo ws m K:=h
theorem x_ts{P:Prop}(h:P):(∃es,R.imm (.tuple ds) = .imm (.tuple es))/\P:=⟨⟨ds,rfl⟩,h⟩
def Ap:WM:=fun r rs m K=>on1 (e8 fun d=>∃ds j,r = .imm (.tuple ds)/\d.canLay0=true/\abi ds=true/\d.depth≤60/\(∃y,ds[j]?=some y/\aaw y d=true)/\(∀(i:Nat) y,i<j->ds[i]?=some y->aaw y d=false)/\K (.imm (.int (j:Nat))) m) rs
theorem lr(hu:X.A.units+64<cLine):MtM X "tuple.index" (mM X.kx Ap):=by
 rintro pins s σ' H x xs v us Q I rx rv ⟨α,m,σ,H0,H1,r,rs,Kc,Rl,h1,h2,ho,fin⟩;obtain⟨r2,v2,rfl,rfl,h2,ho⟩:=fz h2 ho;obtain⟨d,rfl,hd,ds,j,rfl,c1,c2,dp,⟨y,ey,eq⟩,hno,ho⟩:=gF h2 ho;obtain⟨a,zs,rfl,f,g⟩:=bI (show Den X.kx H (.tuple ds) x from h1);cases rx;obtain⟨u,rfl,ru⟩:=rv.one;obtain⟨bs,qd⟩:=Den.reads I (abu _ c1) hd ru;obtain⟨its,rvv,⟨o,ho1,hc,hdict,n,hdata⟩,hz⟩:=I.tupleP f;obtain⟨as,rds⟩:=DenAll.reads I (adl _ c2) g rvv;have hm:X.A.units+1+min (aaC ds) d.depth<cLine:=by have:=afX (aaC ds) d.depth;omega
 have hmap:=SeqAt.readsAll_map ds _ _ c2 rds;have hl:its.length=ds.length:=by rw[<-hmap,oR]
 have hj:j<its.length:=by rw[hl];exact(aad.mp ey).1
 have ro:∀(i:Nat) (hi:i<its.length) y,ds[i]?=some y->ago s.heap its[i]=y:=fun i hi y e=>by
  rw[<-hmap,aak,Ge hi]at e;exact aau e
 obtain⟨cls,dd,data,sl⟩:=o;dsimp only at hc hdata;subst hc;subst hdata;refine aeF ad7 ⟨_,ho1,rfl⟩ PySem.F.entry_tuple_index (PySem.F.args_tuple_index_2 _ _)
  (rm a its.toArray _ dd sl u (fun y=>aaw (ago s.heap y) d) j (by simpa using hj) ?_ ?_) ⟨ho1,SeqAt.items_eqAt (by simpa using rds) qd c2 c1 hm,?_⟩
 .show aaw (ago s.heap its[j]) d=true;rw[ro j hj y ey];exact eq
 .intro i hi hlt;have hi':i<its.length:=by simpa using hi
  show aaw (ago s.heap its[i]) d=false;have hi2:i<ds.length:=by rw[<-hl];exact hi'
  rw[ro i hi' _ (Ge hi2)];exact hno i _ hlt (Ge hi2)
 .exact⟨.int (j:Nat),H,I.tok _,⟨_,rfl⟩,fin _ _ _ H ho rfl Rl (fI _) (Frm.refl _ _)⟩
theorem tJ{m:MSt}{d y:iO}{j k k':Nat}(s1:Shp k d)(s2:∀y∈ds,Shp k' y)(hk:k≤60)(ey:ds[j]?=some y)(eq:aaw y d=true)(hno:∀(i:Nat) y,i<j->ds[i]?=some y->aaw y d=false)(h:K (.imm (.int (j:Nat))) m):Ap (.imm (.tuple ds)) [.imm d] m K :=
 ⟨ds,j,rfl,s1.cl,(tz s2).1,aaz s1.dp hk,⟨y,ey,eq⟩,hno,h⟩
end
theorem vx:fillsNumberSlot (.type "tuple") "mul" = pure false :=
 PySem.fillsNumberSlot_seq (id := "tuple.__mul__") (r:=some (.builtin "tuple.__rmul__")) aew.lookup (by decide +kernel) af3.lookup (by decide +kernel)
theorem Jr:seqRepeat? (.type "tuple")=pure (some (.builtin "tuple.__mul__")):=by
 unfold seqRepeat?;rw[ahQ (T := "tuple") (name := "__mul__") (id := "tuple.__mul__") aew.lookup (by decide +kernel),ahQ (T := "tuple") (name := "__rmul__") (id := "tuple.__rmul__") af3.lookup (by decide +kernel)];rfl
theorem Ce(a:Int)(t:Tok)(l:Addr)(items:Array GE)(n:Nat)(dd:Option Addr)(sl:Array (Option GE)) :
  Meets (ac4.«int.__rmul__» ⟨[.int a t,.ref l],[]⟩) (fun _ R s=>s.heap.get? l=some {cls:=.type "tuple",dict:=dd,data:=.seq items n,slots:=sl}/\R (.ok (.ret GE.notImplemented)) s) :=
 .of_wp fun prog w A R s h=>by
  rcases s with⟨hp,g,d,tk,os⟩;rcases h with⟨hl,h⟩
  wp_walk
  exact⟨_,rfl,h⟩
open AutoSeq1 (wpAny_loadPart') in
theorem Jq(l:Addr)(items:Array GE)(n:Nat)(dd:Option Addr)(sl:Array (Option GE))(k:Int)(t:Tok)(h1:0≤k)(h2:k<2^20)(hz:items.size*k.toNat≤1000000) :
  Meets (ac4.«tuple.__mul__» ⟨[.ref l,.int k t],[]⟩) (fun _ R s=>s.heap.get? l=some {cls:=.type "tuple",dict:=dd,data:=.seq items n,slots:=sl} /\
   if (items.isEmpty||k==1)=true then R (.ok (.ret (.ref l))) s else R (.ok (.ret (.ref s.heap.objs.size))) {s with heap:=s.heap.push {cls:=.type "tuple",data:=.seq ((aat k.toNat items).foldl (fun x1 x2=>x1++x2) #[])} }) :=
 .of_wp fun prog w A R s h=>by
  rcases s with⟨hp,g,d,tk,os⟩;rcases h with⟨hl,h⟩
  (wp_walk using ae6 hl)
  have hT:(⟨hp,g,d,tk,os⟩:aaa).TypeIs (.ref l) "tuple" :=(⟨_,hl,rfl⟩);have hIs:IsTup (⟨hp,g,d,tk,os⟩:aaa).heap l items:=⟨_,hl,rfl,n,rfl⟩;have hsz:((items.size:Nat):Int)*k≤1000000:=by
   have ek:k=((k.toNat:Nat):Int):=by omega
   rw[ek,<-aaI];omega
  rw[if_neg (show ¬_ by simp only[decide_eq_true_eq,aed];omega)];refine gE (ahg hIs ?_)
  by_cases hc:(items.isEmpty||k==1)=true
  .rw[if_pos hc]at h⊢;refine gE ?_;unfold afn;refine gE (adU hT (aac ?_));rw[if_pos (by rfl)];exact gE (acP (aac ⟨_,rfl,h⟩))
  .rw[if_neg hc]at h⊢;have he:items.isEmpty=false:=by
    cases q:items.isEmpty with
    |false=>rfl
    |true=>rw[q]at hc;exact(hc rfl).elim
   by_cases hk0:k=0
   .subst hk0;show wpAny _ _ (if (decide ((0:Int)≤0)||items.isEmpty)=true then _ else _) _ _ _;rw[if_pos (by rfl)];exact gE (m:=ab0 #[]) (aa9 (aac ⟨_,rfl,h⟩) (by show(0:Nat)≤aam;exact acL _))
   have e1:(decide (k≤0)||items.isEmpty)=false:=by rw[he,decide_eq_false (by omega)];rfl
   have hlen:∀(m:Nat) (acc:Array GE),(aeE (fun x1 x2=>x1++x2) acc (aat m items)).size=acc.size+m*items.size:=by
    intro m
    induction m with
    |zero=>intro acc;simp
    |succ m ih=>intro acc;rw[abn,abP,ih,Array.size_append,aet];omega
   have hbig:((aat k.toNat items).foldl (fun x1 x2=>x1++x2) #[]).size≤aam:=by
    rw[hlen,aav,ac6];simp;omega
   show wpAny _ _ (if (decide (k≤0)||items.isEmpty)=true then _ else _) _ _ _;rw[if_neg (by rw[e1];exact aaB)];show wpAny _ _ (if ((items.size:Nat):Int)*k>(2^63-1)/8 then _ else _) _ _ _;rw[if_neg (by omega)];show wpAny _ _ (if afq (((items.size:Nat):Int)*k)=true then _ else _) _ _ _;rw[if_neg (by unfold afq;rw[decide_eq_true_eq,aav];omega)];exact gE (m:=ab0 _) (aa9 (aac ⟨_,rfl,h⟩) hbig)
section
variable {X:Cx}
def SE(K:aaj):R2:=fun x y H Q=>∃a xs k,x = .ref a/\y = .int k/\SqT K H a xs/\0≤k/\k<2^20/\xs.length*k.toNat≤1000000 /\
 if (xs.isEmpty||k==1)=true then Q (.ref a) H else ∀p,H p=none->Q (.ref p) (upd H p (.tup (aat k.toNat xs).flatten))
theorem JL:OpR X (ack .Mult) (SE X.K):=by
 intro pins s σ H x y v u Q I rx ry h;obtain⟨a,xs,k,rfl,rfl,hq,h1,h2,hz,q⟩:=h;cases rx;obtain⟨t,rfl⟩:=ry;obtain⟨its,r,⟨o,ho,hc,hd,n,hdt⟩,hsz⟩:=I.tupleP hq;obtain⟨cls,dd,data,sl⟩:=o;dsimp only at hc hdt;subst hc hdt;have hl:xs.length=its.length:=r.length;have hem:its.toArray.isEmpty=xs.isEmpty:=by
  cases its with
  |nil=>have:xs=[]:=abC (by simpa using hl);subst this;rfl
  |cons _ _=>cases xs with
   |nil=>simp at hl
   |cons _ _=>rfl
 have hnew:aeE (fun x1 x2=>x1++x2) #[] (aat k.toNat its.toArray)=(aat k.toNat its).flatten.toArray:=by
  have:=jU its k.toNat [];rw[adC]at this;exact this
 refine afw (T := "tuple") (U := "int") (by decide) ⟨_,ho,rfl⟩ (fun s'=>agl s' k t) vx PySem.F.fills_int_mul agH Jr PySem.F.slot_int_index.lookup
  (aeF agH (agl s k t) PySem.F.entry_int_rmul (PySem.F.args_int_rmul_2 _ _) (Ce k t a its.toArray n dd sl)
   ⟨ho,rfl,⟨_,ho,rfl⟩,aeF aew ⟨_,ho,rfl⟩ PySem.F.entry_tuple_mul (PySem.F.args_tuple_mul_2 _ _) (Jq a its.toArray n dd sl k t h1 h2 (by rw[aas,<-hl];exact hz)) ⟨ho,?_⟩⟩)
 rw[hem,hnew]
 by_cases hc:(xs.isEmpty||k==1)=true
 .rw[if_pos hc]at q⊢;exact⟨.ref a,H,I,rfl,q⟩
 .rw[if_neg hc]at q⊢;have hp:H s.heap.objs.size=none:=I.hok.fresh (Io _);refine⟨.ref s.heap.objs.size,_,I.laid (t':=s.toks) (o:=.tup (aat k.toNat xs).flatten) (fun b ob e=>OR _ e) (Io _) ⟨?_,_,r.rep k.toNat,PlainT.new _ _⟩,rfl,q _ hp⟩;rw[xr,ac6,aav];omega
def yD:WO
 | .imm (.int i),.imm (.int j),_,K=>afV i j/\K (.imm (.int (i*j)))
 | .imm (.tuple ds),.imm (.int k),_,K=>0≤k/\k<2^20/\ds.length*k.toNat≤1000000/\K (.imm (.tuple (aat k.toNat ds).flatten))
 | .new ds,.imm (.int k),_,K=>0≤k/\k<2^20/\ds.length*k.toNat≤1000000/\K (.new (aat k.toNat ds).flatten)
 |_,_,_,_=>False
theorem iK{K:Kd}{H:Hp}{ds:List iO}{xs:List V}(g:DenAll K H ds xs):∀k:Nat,DenAll K H (aat k ds).flatten (aat k xs).flatten
 |0=>by simp only[List.replicate_zero,List.flatten_nil,DenAll]
 |k+1=>by rw[abn,abn,acu,acu];exact g.append (iK g k)
theorem aA:OpR X (ack .Mult) (rM X.kx yD):=by
 rintro pins s σ' H x y v u Q I rx ry ⟨α,m,σ,H0,H1,r1,r2,Kc,Rl,h1,h2,ho,fin⟩;unfold yD at ho
 split at ho
 .rename_i i j;exact Gn pins s σ' H x y v u Q I rx ry ⟨α,m,σ,H0,H1,.imm (.int i),.imm (.int j),Kc,Rl,h1,h2,ho,fin⟩
 .rename_i ds k;obtain⟨k1,k2,k3,ho⟩:=ho;obtain⟨a,xs,rfl,f,g⟩:=bI (show Den X.kx H (.tuple ds) x from h1);have e2:=aM (show Den X.kx H (.int k) y from h2);subst e2;refine JL pins s σ' H _ _ v u Q I rx ry ⟨a,xs,k,rfl,rfl,f,k1,k2,by rw[<-g.length];exact k3,?_⟩
  by_cases hc:(xs.isEmpty||k==1)=true
  .rw[if_pos hc];refine fin _ _ H ho Rl (k7 (c5 f ?_)) (Frm.refl _ _);have e:(aat k.toNat ds).flatten=ds:=by
    rw[aed]at hc;rcases hc with hc|hc
    .have hx:xs=[]:=List.isEmpty_iff.mp hc;have hd:ds=[]:=abC (by rw[g.length,hx];rfl);subst hd;simp
    .have:k=1:=by simpa using hc
     subst this;simp
   rw[e];exact g
  .rw[if_neg hc];exact fun p hp=>fin _ _ _ ho (Rl.lay hp) (k7 (c5 (SqT.of av) ((iK g k.toNat).mono (bu (.inl hp))))) (cC hp)
 .rename_i ds k;obtain⟨k1,k2,k3,ho⟩:=ho;obtain⟨a,xs,rfl,hb,hH,g⟩:=h1;have e2:=aM (show Den X.kx H (.int k) y from h2);subst e2;refine Me pins s σ' H _ _ v u Q I rx ry ⟨a,k,xs,rfl,rfl,hH,by omega,by omega,by rw[<-g.length,aav];omega,fun p hp=>?_⟩;exact fin _ _ _ ho (Rl.lay hp) ⟨p,_,rfl,hp,av,(iK g k.toNat).mono (bu (.inl hp))⟩ (cC hp)
 .exact ho.elim
theorem bH{m:MSt}{i j:Int}(hc:afV i j)(h:Kr (.imm (.int (i*j)))):yD (.imm (.int i)) (.imm (.int j)) m Kr:=⟨hc,h⟩
theorem Nk{m:MSt}{k:Int}(h1:0≤k)(h2:k<2^20)(h3:ds.length*k.toNat≤1000000)(h:Kr (.imm (.tuple (aat k.toNat ds).flatten))):yD (.imm (.tuple ds)) (.imm (.int k)) m Kr:=⟨h1,h2,h3,h⟩
theorem Fy{m:MSt}{k:Int}(h1:0≤k)(h2:k<2^20)(h3:ds.length*k.toNat≤1000000)(h:Kr (.new (aat k.toNat ds).flatten)):yD (.new ds) (.imm (.int k)) m Kr:=⟨h1,h2,h3,h⟩
end
end L2
namespace K
open PySem L2 M7
variable{l:List Nat}{h:Hall}{p:Nat×Nat}{r:Rule}{t:Nat}
inductive Mv where
 |come (o:List Nat)|done (k:Nat)|still
def Mv.d:Mv->iO
 | .come o=>.tuple [.str "come",lnD o]
 | .done k=>.tuple [.str "done",.int (k:Int)]
 | .still=>.tuple [.str "still"]
def Mv.Ok(h:Hall):Mv->Prop
 | .come o=>Ord h.ss.length o
 | .done k=>k<h.ss.length
 | .still=>True
inductive Wd where
 |taken|away|served|none
def Wd.s:Wd->Str
 | .taken => "taken" | .away => "away" | .served => "served" | .none => "none"
def Hall.rn(h:Hall)(k:Nat):Nat:=h.rs.getD k 0
def d7(h:Hall)(l:List Nat)(k:Nat):List Nat×Wd:=if l.getD k 0=h.rn k then(l,.away)else(l.set k (l.getD k 0+1),.taken)
def d6(l:List Nat)(k:Nat):List Nat×Wd:=if l.getD k 0=0 then(l,.none)else(l.set k (l.getD k 0-1),.served)
def idx(l:List Nat)(x:Nat):Nat:=l.findIdx (fun y=>y==x)
def maxN(l:List Nat):Nat:=l.foldl max 0
def dn(h:Hall)(l:List Nat):Option (Nat×Nat):=if h.mv=true/\0∈l/\2≤maxN l then some (idx l (maxN l),idx l 0)else none
def cY(l:List Nat)(p:Nat×Nat):List Nat:=(l.set p.1 (l.getD p.1 0-1)).set p.2 ((l.set p.1 (l.getD p.1 0-1)).getD p.2 0+1)
def di(h:Hall):Nat->List Nat->List Nat
 |0,l=>l
 |n+1,l=>match dn h l with
  |none=>l
  |some p=>di h n (cY l p)
def h8(h:Hall)(l:List Nat):List Nat:=di h (l.count 0) l
theorem jW:∀(l:List Nat) (a:Nat),a≤l.foldl max a/\(∀x∈l,x≤l.foldl max a)/\(l.foldl max a=a\/l.foldl max a∈l)
 |[],a=>⟨Io _,(fun _ h=>by cases h),.inl rfl⟩
 | y::l,a=>by
  obtain⟨h1,h2,h3⟩:=jW l (max a y);refine⟨aaz (ae3 a y) h1,fun x hx=>?_,?_⟩
  .rcases aal.mp hx with rfl|hx
   .exact aaz (Nat.le_max_right a x) h1
   .exact h2 x hx
  .rcases h3 with h3|h3
   .show(aeE max (max a y) l=a)\/_;rw[h3]
    by_cases hy:a≤y
    .right;show aeE max (max a y) l∈y::l;rw[h3,Nat.max_eq_right hy];exact aaf
    .left;exact Nat.max_eq_left (by omega)
   .exact .inr (aab _ h3)
theorem xn:∀x∈l,x≤maxN l:=(jW l 0).2.1
theorem l7(h:l≠[]):maxN l∈l:=by
 rcases (jW l 0).2.2 with e|e
 .cases l with
  |nil=>exact(h rfl).elim
  |cons x l =>
   have:x≤maxN (x::l):=xn x aaf;have e':maxN (x::l)=0:=e;have hx:x=0:=by omega
   rw[e',<-hx];exact aaf
 .exact e
theorem jz{x:Nat}(h:x∈l):l[idx l x]?=some x/\∀i y,i<idx l x->l[i]?=some y->y≠x:=by
 have hlt:idx l x<l.length:=List.findIdx_lt_length_of_exists ⟨x,h,by simp⟩;refine⟨?_,fun i y hi hy e=>?_⟩
 .rw[Ge hlt];have:=List.findIdx_getElem (w:=hlt);simp at this;exact congrArg some this
 .subst e;have:=List.not_of_lt_findIdx hi;have hi':i<l.length:=by have:idx l y<l.length:=hlt;omega
  rw[Ge hi']at hy;simp at this;exact this (aau hy)
theorem dW(a b:Nat):aaw (.int (a:Int)) (.int (b:Int))=decide (a=b):=by
 simp only[aaw]
 by_cases h:a=b
 .subst h;simp
 .have:¬((a:Int)=(b:Int)):=fun z=>h (aib z);simp[h,this]
theorem jC(l:List Nat):∀y∈natD l,Shp 0 y:=fun y hy=>by
 obtain⟨x,_,rfl⟩:=aay.mp hy;exact jK _
theorem Ci(l:List Nat)(k x:Nat):(natD l).set k (.int (x:Int))=natD (l.set k x):=by
 unfold natD;rw[List.map_set]
def uw:SpM:=fun as K=>∃(l:List Nat) (k:Nat) (d:Int) (x:Nat),as=[.imm (lnD l),.imm (.int (k:Int)),.imm (.int d)]/\k<l.length/\l.length≤1000/\(l.getD k 0:Int)+d=(x:Int)/\K (.imm (lnD (l.set k x))) []
def lwD(p:List Nat×Wd):iO:=.tuple [lnD p.1,.str p.2.s]
def Fg:SpM:=fun as K=>∃(h:Hall) (l:List Nat) (k:Nat),as=[.imm h.d,.imm (lnD l),.imm (.int (k:Int))]/\h.Ok/\Lines h l/\k<h.ss.length/\K (.imm (lwD (d7 h l k))) []
def FG:SpM:=fun as K=>∃(l:List Nat) (k:Nat),as=[.imm (lnD l),.imm (.int (k:Int))]/\k<l.length/\l.length≤1000/\K (.imm (lwD (d6 l k))) []
def optP:Option (Nat×Nat)->iO
 |none=>.none
 |some p=>.tuple [.int (p.1:Int),.int (p.2:Int)]
def zo:SpM:=fun as K=>∃(h:Hall) (l:List Nat),as=[.imm h.d,.imm (lnD l)]/\l≠[]/\l.length≤1000/\K (.imm (optP (dn h l))) []
def pJ:SpM:=fun as K=>∃(h:Hall) (l:List Nat),as=[.imm h.d,.imm (lnD l)]/\l≠[]/\l.length≤1000/\K (.imm (lnD (h8 h l))) []
theorem gg(e:dn h l=some p):h.mv=true/\l[p.1]?=some (maxN l)/\2≤maxN l/\l[p.2]?=some 0/\p.1≠p.2:=by
 unfold dn at e
 split at e
 .rename_i q;obtain⟨q1,q2,q3⟩:=q;have hne:l≠[]:=fun z=>by rw[z]at q2;cases q2
  have s1:=(jz (l7 hne)).1;have s0:=(jz q2).1;cases e;refine⟨q1,s1,q3,s0,fun z=>?_⟩;have z':idx l (maxN l)=idx l 0:=z;rw[z',s0]at s1;have:=aau s1;omega
 .cases e
theorem iG(e:dn h l=some p):cY l p=(l.set p.1 (maxN l-1)).set p.2 1/\p.1<l.length/\p.2<l.length/\(cY l p).count 0+1=l.count 0/\(cY l p).length=l.length:=by
 obtain⟨h0,h1,h2,h3,h4⟩:=gg e;have l1:=(aad.mp h1).1;have l2:=(aad.mp h3).1;have g1:l.getD p.1 0=maxN l:=bm h1;have g2:(l.set p.1 (maxN l-1)).getD p.2 0=0:=bm (by rw[aaS h4];exact h3);have es:cY l p=(l.set p.1 (maxN l-1)).set p.2 1:=by unfold cY;rw[g1,g2]
 have v1:l[p.1]=maxN l:=by rw[Ge l1]at h1;exact aau h1
 have v2:l[p.2]=0:=by rw[Ge l2]at h3;exact aau h3
 refine⟨es,l1,l2,?_,by rw[es,abp,abp]⟩;have c0:0<l.count 0:=List.count_pos_iff.mpr (aae h3);have l2':p.2<(l.set p.1 (maxN l-1)).length:=by rw[abp];exact l2
 have v2':(l.set p.1 (maxN l-1))[p.2]=0:=by rw[ad0 h4];exact v2
 rw[es,List.count_set l2',List.count_set l1,v2',v1];have d1:(maxN l==0)=false:=by simp;omega
 have d2:(maxN l-1==0)=false:=by simp;omega
 rw[d1,d2];simp;omega
theorem qk(e:dn h l=none):∀n,di h n l=l
 |0=>rfl
 |n+1=>by simp[di,e]
def yn(h:Hall)(r:Rule)(t:Nat):Nat:=match r with
 | .turns=>(t+1)%h.ss.length
 |_=>t
def zq:SpM:=fun as K=>∃(h:Hall) (r:Rule) (t:Nat),as=[.imm h.d,.imm r.d,.imm (.int (t:Int))]/\h.Ok/\K (.imm (.int (yn h r t:Nat))) []
def Bu(h:Hall)(r:Rule)(l:List Nat)(t:Nat):Mv->iO
 | .come o=>.int (sent h r l t o:Nat)
 | .done k=>.int (k:Int)
 | .still=>.none
def uX:SpM:=fun as K=>∃(h:Hall) (r:Rule) (l:List Nat) (t:Nat) (mv:Mv),as=[.imm h.d,.imm r.d,.imm (stD l t),.imm mv.d]/\h.Ok/\r.Ok h/\Lines h l/\mv.Ok h/\K (.imm (Bu h r l t mv)) []
def bR(h:Hall)(r:Rule)(l:List Nat)(t:Nat):Mv->List Nat×Nat×Wd
 | .come o=>(h8 h (d7 h l (sent h r l t o)).1,yn h r t,(d7 h l (sent h r l t o)).2)
 | .done k=>(h8 h (d6 l k).1,t,(d6 l k).2)
 | .still=>(h8 h l,t,.none)
def mvD(p:List Nat×Nat×Wd):iO:=.tuple [stD p.1 p.2.1,.str p.2.2.s]
def nh:SpM:=fun as K=>∃(h:Hall) (r:Rule) (l:List Nat) (t:Nat) (mv:Mv),as=[.imm h.d,.imm r.d,.imm (stD l t),.imm mv.d]/\h.Ok/\r.Ok h/\Lines h l/\mv.Ok h/\(r = .turns->t<h.ss.length)/\K (.imm (mvD (bR h r l t mv))) []
theorem rj{o:List Nat}(ho:h.Ok)(hr:r.Ok h)(hL:Lines h l)(hO:Ord h.ss.length o)(ht:r = .turns->t<h.ss.length):sent h r l t o<h.ss.length:=by
 cases r with
 |random=>obtain⟨k0,k1,rfl,h0⟩:=hO.cons;exact h0
 |turns=>exact ht rfl
 |two=>exact kM (lt:=du l) hO 2
 |least=>have:=kM (lt:=du l) hO o.length;rw[aag]at this;exact this
 |quick=>have:=kM (lt:=cZ h l) hO o.length;rw[aag]at this;exact this
 |told ps =>
  have hlt:placeF 0 h.rs l<ps.length:=by rw[hr.1,allR_cnt];exact place_lt hL.fits
  exact hr.2 _ (aae (getN rfl hlt))
theorem Lines.set{k x:Nat}(hL:Lines h l)(hx:∀s,h.ss[k]?=some s->x≤s.r):Lines h (l.set k x):=by
 refine⟨by rw[abp];exact hL.1,fun i s y e1 e2=>?_⟩
 by_cases hi:k=i
 .subst hi;have hlt:k<l.length:=by rw[hL.1];exact(aad.mp e1).1
  rw[aaZ hlt]at e2;cases e2;exact hx s e1
 .rw[aaS hi]at e2;exact hL.2 i s y e1 e2
theorem Lines.at{k:Nat}(hL:Lines h l)(hk:k<h.ss.length):∃s,h.ss[k]?=some s/\l.getD k 0≤s.r/\h.rn k=s.r/\s∈h.ss:=by
 obtain⟨s,es,ea,eb,hs⟩:=h.srv hk;exact⟨s,es,hL.2 k s _ es (getN hL.1 hk),bm (Hall.rs_get es),hs⟩
theorem wf{k:Nat}(hL:Lines h l)(hk:k<h.ss.length):Lines h (d7 h l k).1:=by
 obtain⟨s,es,hle,er,hs⟩:=hL.at hk;unfold d7;split
 .exact hL
 .rename_i hne;refine hL.set fun s' e'=>?_;rw[es]at e';cases e';omega
theorem vQ{k:Nat}(hL:Lines h l)(hk:k<h.ss.length):Lines h (d6 l k).1:=by
 obtain⟨s,es,hle,er,hs⟩:=hL.at hk;unfold d6;split
 .exact hL
 .refine hL.set fun s' e'=>?_;rw[es]at e';cases e';omega
theorem im{h:Hall}(ho:h.Ok):∀(n:Nat) (l:List Nat),Lines h l->Lines h (di h n l)
 |0,l,hL=>hL
 | n+1,l,hL=>by
  simp only[di]
  cases e:dn h l with
  |none=>exact hL
  |some p =>
   obtain⟨es,l1,l2,hc,hlen⟩:=iG e;obtain⟨m0,m1,m2,m3,m4⟩:=gg e;refine im ho n _ ?_;rw[es];refine(hL.set (k:=p.1) (x:=maxN l-1) fun s e1=>?_).set fun s e1=>(ho.ok s (aae e1)).r1;have:=hL.2 p.1 s _ e1 m1;omega
theorem fG(ho:h.Ok)(hL:Lines h l):Lines h (h8 h l):=im ho _ _ hL
structure St(h:Hall)(r:Rule)(l:List Nat)(t:Nat):Prop where
 ln:Lines h l
 tn:r = .turns->t<h.ss.length
 ts:t<4
theorem DF(ho:h.Ok)(hs:t<4)(ht:r = .turns->t<h.ss.length):(r = .turns->yn h r t<h.ss.length)/\yn h r t<4:=by
 have n1:=ho.n1;have n4:=ho.n4
 cases r with
 |turns =>
  have:=ah8 (t+1) (show h.ss.length>0 by omega);exact⟨fun _=>this,by show(t+1)%h.ss.length<4;omega⟩
 |_=>exact⟨(fun z=>by cases z),hs⟩
theorem h7(ho:h.Ok)(hr:r.Ok h)(S:St h r l t){mv:Mv}(hm:mv.Ok h):St h r (bR h r l t mv).1 (bR h r l t mv).2.1:=by
 cases mv with
 |come o =>
  have:=DF ho S.ts S.tn;exact⟨fG ho (wf S.ln (rj ho hr S.ln hm S.tn)),this.1,this.2⟩
 |done k=>exact⟨fG ho (vQ S.ln hm),S.tn,S.ts⟩
 |still=>exact⟨fG ho S.ln,S.tn,S.ts⟩
def zer(h:Hall):List Nat:=aat h.ss.length 0
theorem dI(ho:h.Ok)(r:Rule):St h r (zer h) 0:=by
 refine⟨⟨by simp[zer],fun i s x e1 e2=>?_⟩,fun _=>ho.n1,by decide⟩;have:x=0:=by
  have:=aae e2;unfold zer at this;exact(List.mem_replicate.mp this).2
 omega
def jT:SpM:=fun as K=>∃h:Hall,as=[.imm h.d]/\h.Ok/\K (.imm (stD (zer h) 0)) []
structure Cn where
 c:Nat
 t:Nat
 a:Nat
 s:Nat
def Cn.d(x:Cn):iO:=.tuple [.int (x.c:Int),.int (x.t:Int),.int (x.a:Int),.int (x.s:Int)]
def Cn.b(x:Cn):Wd->Cn
 | .taken=>⟨x.c+1,x.t+1,x.a,x.s⟩
 | .away=>⟨x.c+1,x.t,x.a+1,x.s⟩
 | .served=>⟨x.c,x.t,x.a,x.s+1⟩
 | .none=>x
def Ki:SpM:=fun as K=>∃(x:Cn) (w:Wd),as=[.imm x.d,.imm (.str w.s)]/\K (.imm (x.b w).d) []
def runD(R:List Mv):iO:=.tuple (R.map Mv.d)
def iU(h:Hall)(r:Rule):List Nat×Nat->List Mv->List (List Nat×Nat)
 |p,[]=>[p]
 |p,mv::R=>p::iU h r ((bR h r p.1 p.2 mv).1,(bR h r p.1 p.2 mv).2.1) R
def vf:SpM:=fun as K=>∃(h:Hall) (r:Rule) (R:List Mv),as=[.imm h.d,.imm r.d,.imm (runD R)]/\h.Ok/\r.Ok h/\(∀mv∈R,mv.Ok h)/\R.length≤100000/\K (.imm (.tuple ((iU h r (zer h,0) R).map fun p=>stD p.1 p.2))) []
def cy(h:Hall)(r:Rule):List Nat×Nat->Cn->List Mv->Cn
 |_,c,[]=>c
 |p,c,mv::R=>cy h r ((bR h r p.1 p.2 mv).1,(bR h r p.1 p.2 mv).2.1) (c.b (bR h r p.1 p.2 mv).2.2) R
def o9:SpM:=fun as K=>∃(h:Hall) (r:Rule) (R:List Mv),as=[.imm h.d,.imm r.d,.imm (runD R)]/\h.Ok/\r.Ok h/\(∀mv∈R,mv.Ok h)/\K (.imm (cy h r (zer h,0) ⟨0,0,0,0⟩ R).d) []
theorem qR{α:Type}{R:List α}{i:Nat}{x:α}(e:R[i]?=some x):R.drop i=x::R.drop (i+1):=by
 obtain⟨hi,rfl⟩:=aad.mp e;exact List.drop_eq_getElem_cons hi
def Jo:SpM:=fun as K=>∃a b:Nat,as=[.imm (.int a),.imm (.int b)]/\K (.imm (.int (a.gcd b:Nat))) []
def cutN(b:Nat)(p:Nat):Nat×Nat:=(p/p.gcd b,b/p.gcd b)
theorem Ae{b p:Nat}(h1:1≤p)(h2:p<1000000)(h3:1≤b)(h4:b<1000000):1≤(cutN b p).1/\(cutN b p).1<1000000/\1≤(cutN b p).2/\(cutN b p).2<1000000:=by
 have g1:0<p.gcd b:=abg _ h3;have g2:p.gcd b≤b:=af4 _ h3;have g3:p.gcd b≤p:=Nat.gcd_le_left _ h1;have d1:=adD p (p.gcd b);have d2:=adD b (p.gcd b);exact⟨agU g3 g1,by show p/p.gcd b<1000000;omega,agU g2 g1,by show b/p.gcd b<1000000;omega⟩
theorem t7{α:Type}(n:Nat)(x:α):(aat n [x]).flatten=aat n x:=by
 induction n with
 |zero=>rfl
 |succ n ih=>rw[abn,acu,ih,abn];rfl
theorem uY(n x:Nat):aat n (abN (x:Int))=natD (aat n x):=by unfold natD;rw[List.map_replicate]
def NA(p:Nat×Nat)(r:Nat):Srv:=⟨p.1,p.2,r⟩
theorem Cp{r:Nat}(h:1≤p.1/\p.1<1000000/\1≤p.2/\p.2<1000000)(hr:1≤r/\r≤6):(NA p r).Ok:=⟨h.1,h.2.1,h.2.2.1,h.2.2.2,hr.1,hr.2⟩
end K
namespace L2
open PySem PySem.Spec PyProof.Rows
variable{x:Str}
section
variable {X:Cx}{a:Expr}{es:List Expr}{ws:WA}{pos p p2 p3:Pos}
def QP(K:aaj):List V->Hp->VK->Prop:=fun xs H Q=>∃(t:Bool) (l:Addr) (ns:List Int),xs=[.ref l]/\SqB t K H l (ns.map V.int)/\Q (.int ns.sum) H
theorem jQ(ns:List Int):∀n,n≤ns.length->preSum (fun i=>ns.getD i 0) n=(ns.take n).sum
 |0,_=>by simp[preSum]
 |n+1,h=>by
  show preSum (fun i=>ns.getD i 0) n+ns.getD n 0=_;have hn:n<ns.length:=by omega
  rw[jQ ns n (by omega),abA,Ge hn,bm (Ge hn),ac3];simp
theorem o7(hc:X.calm=true):dU X (.builtin "sum") (QP X.K):=by
 rintro pins s σ H xs us Q I rv ⟨t,l,ns,ex,hq,q⟩;subst ex;obtain⟨u,rfl,ru⟩:=rv.one;cases ru;obtain⟨its,rvv,pl,_⟩:=I.sqb hq;have hi:afC its.toArray.toList ns:=jg rvv;have hl:its.length=ns.length:=by have:=rvv.length;rw[oR]at this;omega
 refine call_sum_walkG (tU pl fun s2 e st hfp hlI=>?_);subst e;refine⟨s.heap.objs.size,[s.heap.objs.size,l],[s.heap.objs.size],its.toArray.size,fun i v=>its.toArray[i]?=some v,fun i h=>SubI t h s.heap.objs.size l i/\SubS t h l its.toArray,fun i=>ns.getD i 0,rfl,oX (A:=X.A.in1) t (I.ok.hd hc) _ l hlI its.toArray,st,hfp,rF hi,fun h' tk t' hk=>?_⟩;have e:preSum (fun i=>ns.getD i 0) its.toArray.size=ns.sum:=by
  rw[aas,hl,jQ ns ns.length (Io _),aag]
 rw[e];exact⟨.int ns.sum,H,I.kept (t':=tk) (uy hk),⟨_,rfl⟩,q⟩
def OH:WC:=fun rs m K=>on1 (fun r=>∃ds ns,sqOf m r=some ds/\d8 ds=some ns/\K (.imm (.int ns.sum))) rs
theorem iL(hc:X.calm=true):dU X (.builtin "sum") (cM X.kx OH):=by
 rintro pins s σ' H xs us Q I rv ⟨α,m,σ,H0,rs,Kc,Rl,h,ho,fin⟩;obtain⟨r,v,rfl,rfl,h1,ds,ns,e1,e2,ho⟩:=fz h ho;obtain⟨a,ys,rfl,f,g⟩:=h1.seq Rl e1;rw[iQ e2]at g;have ey:=fo g;subst ey;have go:Q (.int ns.sum) H:=fin _ _ H ho Rl (fI _) (Frm.refl _ _);rcases f with f|f
 .exact o7 hc pins s σ' H _ us Q I rv ⟨false,a,ns,rfl,f,go⟩
 .exact o7 hc pins s σ' H _ us Q I rv ⟨true,a,ns,rfl,f,go⟩
theorem zk{m:MSt}{r:R}{Kr:R->Prop}{ds:List iO}{ns:List Int}(e1:sqOf m r=some ds)(e2:d8 ds=some ns)(h:Kr (.imm (.int ns.sum))):OH [r] m Kr:=⟨ds,ns,e1,e2,h⟩
theorem gI{K:Kd}{H:Hp}:∀ns:List Int,DenAll K H (ns.map .int) (ns.map V.int)
 |[]=>by simp only[ab4,DenAll]
 |n::ns=>by
  simp only[aai,DenAll];exact⟨.int n,_,rfl,by simp only[Den],gI ns⟩
end
section
variable {X:Cx}{a:Expr}{es:List Expr}{ws:WA}{pos p p2 p3:Pos}
theorem wx:abj "sorted" = some (.builtin "sorted"):=by decide +kernel
end
structure ConM(K:aaj)(mg:Str->Option GE)(x:Str)(d:iO):Prop where
 ex:∃(v:V) (u:GE),mg x=some u/\RelV v u/\∀(w:World) (H:Hp),Den ⟨K,w⟩ H d v
structure ConK(K:aaj)(x:Str)(d:iO):Prop where
 ex:∃(v:V) (u:GE),abq K aaQ x=some (some u)/\RelV v u/\∀(w:World) (H:Hp),Den ⟨K,w⟩ H d v
theorem ConK.m{K:aaj}{mg:Str->Option GE}{h:aa4}{d:iO}(D:ConK K x d)(X:K.In h)(G:h.Ns aaQ mg):ConM K mg x d:=by
 obtain⟨v,u,a,r,q⟩:=D.ex;exact⟨v,u,ahi X G a,r,q⟩
section
variable {X:Cx}{a b o e:Expr}{es:List Expr}{wo we:WE}{ws:WA}{apos cpos pos p:Pos}{tg:Expr}
theorem Oj{d:iO}(C:ConM X.K X.mg x d)(hg:Gl X x)(hd:(x==("__debug__" : Str))=false:=by decide):ME X (.Name x pos) (wC d):=by
 obtain⟨v,u,hm,r,q⟩:=C.ex;exact Ij (Gm hg hm r hd) fun α m σ H Kc Q Rl hw fin=>fin _ m v H hw rfl Rl (q _ _) (Frm.refl _ _)
theorem Iy{d:iO}(C:ConM X.K X.mg x d)(hg:Gl X x)(hd:(x==("__debug__" : Str))=false:=by decide):EE X (.Name x pos) (wC d):=⟨Oj C hg hd⟩
end
end L2
namespace HT
open PySem PySem.Spec PyProof.Rows
end HT
namespace L2
open PySem PySem.Spec PyProof.Rows
def intV:GE->Option Int
 | .int z _=>some z
 |_=>none
theorem lu:∀{its:List GE}{zs:List Int},its.map intV=zs.map some->Vals (zs.map V.int) its
 |[],[],_=>.nil
 |[],_::_,h=>by cases h
 |_::_,[],h=>by cases h
 |u::its,z::zs,h=>by
  obtain⟨h1,h2⟩:=List.cons.inj h;refine .cons ?_ (lu h2)
  cases u<;>first|(cases h1;exact⟨_,rfl⟩)|cases h1
theorem ConK.ints{K:aaj}{x:Str}{p:Addr}{its:Array GE}{n:Nat}{sl:Array (Option GE)}{zs:List Int}(a:abq K aaQ x=some (some (.ref p)))(l:K.lookup p=some ⟨.type "tuple",none,.seq its n,sl⟩)(i:its.toList.map intV=zs.map some)(hz:its.size≤1000):ConK K x (.tuple (zs.map .int)):=by
 refine⟨.ref p,_,a,rfl,fun _ H=>?_⟩;exact c5 (.inr ⟨_,its,n,l,rfl,rfl,rfl,by rw[aav];omega,lu i⟩) (gI zs)
end L2
namespace L2
open PySem PySem.Spec PySem.W PyProof.Rows
def runC{α:Type}(n:Nat)(f:Nat->Nat->Bool):KasT α->Option α
 | .ret a=>some a
 | .ask i j k=>if i<n/\j<n then runC n f (k (f i j))else none
theorem yA{α:Type}{n:Nat}{f:Nat->Nat->Bool}{cmp:Nat->Nat->(Bool->aaa->Prop)->aaa->Prop}{s:aaa}(hc:∀i j C,i<n->j<n->C (f i j) s->cmp i j C s){Q:α->aaa->Prop}:∀(t:KasT α) (a:α),runC n f t=some a->Q a s->t.kasWp cmp Q s
 | .ret b,a,e,q=>by
  have e':b=a:=aau e;subst e';exact q
 | .ask i j k,a,e,q=>by
  unfold runC at e
  split at e
  .rename_i h;exact hc i j _ h.1 h.2 (yA hc (k (f i j)) a e q)
  .cases e
section
variable {X:Cx}
theorem ui{K:Kd}{H:Hp}{ds:List iO}{xs:List V}(g:DenAll K H ds xs):∀p:List Nat,DenAll K H (p.map fun i=>ds.getD i .none) (p.map fun i=>xs.getD i .non)
 |[]=>by simp only[ab4,DenAll]
 | i::p=>by
  simp only[aai,DenAll];refine⟨_,_,rfl,?_,ui g p⟩
  cases e:ds[i]? with
  |some d =>
   obtain⟨v,e2,hd⟩:=g.get e;rw[bm e,bm e2];exact hd
  |none =>
   have e2:xs[i]?=none:=by rw[List.getElem?_eq_none_iff]at e⊢;rw[<-g.length];exact e
   rw[aax,aax,e,e2];simp only[afY,Den]
theorem qg{xs:List V}{us:List GE}(r:Vals xs us):∀p:List Nat,Vals (p.map fun i=>xs.getD i .non) (p.map fun i=>us.getD i .none)
 |[]=>.nil
 | i::p=>by
  rw[aai,aai];refine .cons ?_ (qg r p)
  cases e:xs[i]? with
  |some x =>
   obtain⟨u,e2,hu⟩:=r.get e;rw[bm e,bm e2];exact hu
  |none =>
   rw[aax,aax,e,r.none_of e];exact rfl
end
end L2
namespace K
open PySem L2 M7
variable{os:List (List Nat)}
def k6(n:Nat)(os:List (List Nat)):List (List Nat):=os.flatMap fun a=>((aaP n).filter fun l=>!a.contains l).map fun l=>a++[l]
def ordK(n:Nat):Nat->List (List Nat)
 |0=>[[]]
 |k+1=>k6 n (ordK n k)
theorem vC{n:Nat}{j:Nat}{a:List Nat}(h:os[j]?=some a):k6 n (os.take (j+1))=k6 n (os.take j)++((aaP n).filter fun l=>!a.contains l).map fun l=>a++[l]:=by
 unfold k6;rw[abA,h,acD];simp
theorem de:∀n≤4,∀k≤4,(ordK n k).length≤24/\∀a∈ordK n k,a.length≤4/\∀x∈a,x≤3:=by decide +kernel
theorem kZ:∀n≤4,∀k≤3,∀j≤24,(k6 n ((ordK n k).take j)).length≤24:=by decide +kernel
def insO(j:Nat)(o:List Nat):List (List Nat):=(aaP (j+1)).map fun k=>o.take k++[j]++o.drop k
def insA(j:Nat)(os:List (List Nat)):List (List Nat):=os.flatMap (insO j)
theorem yB{j:Nat}{z:Nat}{o:List Nat}(h:os[z]?=some o):insA j (os.take (z+1))=insA j (os.take z)++insO j o:=by
 unfold insA;rw[abA,h,acD];simp
end K
namespace L2
open PySem PySem.Spec PyProof.Rows
variable{v y:V}{u:GE}{P:aaW}{w:World}{H H':Hp}{kvs:List (iO×iO)}{xs:List (List Key×Addr×GE)}{a:Addr}{τ:List (List Nat×Addr)}{p ρ:List Nat}{kk:Key}{es vs:List (Key×V)}{t:iO}{K:Kd}{α:Al}{m2:MSt}{σ:St}
section
variable {κ:Type} [DecidableEq κ]
def valV(kvs:List (κ×V))(k:κ):Option V:=(kvs.find? fun kv=>decide (kv.1=k)).map (·.2)
def putK(kvs:List (κ×V))(k:κ)(v:V):List (κ×V) :=
 if (kvs.any fun kv=>decide (kv.1=k))=true then kvs.map (fun kv=>if kv.1=k then(kv.1,v)else kv)else kvs++[(k,v)]
theorem ju{p:κ×V}{r:List (κ×V)}{k:κ}(e:p.1=k):valV (p::r) k=some p.2:=by simp[valV,ab6,e]
theorem jx{p:κ×V}{r:List (κ×V)}{k:κ}(e:¬p.1=k):valV (p::r) k=valV r k:=by simp[valV,ab6,e]
theorem u8(k:κ):∀kvs:List (κ×V),(kvs.any fun kv=>decide (kv.1=k))=(valV kvs k).isSome
 |[]=>rfl
 |p::r=>by
  rw[aeL]
  by_cases e:p.1=k
  .simp only[ju e,decide_eq_true e,Bool.true_or,Option.isSome_some]
  .rw[jx e,decide_eq_false e,Bool.false_or];exact u8 k r
theorem jS(kvs:List (κ×V))(k:κ)(v:V):(putK kvs k v).length≤kvs.length+1:=by
 unfold putK;split
 .rw[oR];omega
 .rw[aap,aaD,adE];omega
theorem RelO.isSome_eq{o:Option V}{u:Option GE}(r:RelO o u):o.isSome=u.isSome:=by
 cases o with
 |none=>cases u with
  |none=>rfl
  |some _=>exact(show False from r).elim
 |some _=>cases u with
  |none=>exact(show False from r).elim
  |some _=>rfl
theorem KV.val{kvs:List (κ×V)}{vs:List (κ×GE)}(r:KV kvs vs)(k:κ):RelO (valV kvs k) (afH vs k):=by
 unfold KV at r
 induction r with
 |nil=>exact aho
 | @cons p q ps qs h t ih =>
  obtain⟨h1,h2⟩:=h
  by_cases e:p.1=k
  .have e':q.1=k:=h1.symm.trans e;have b:afH (q::qs) k=some q.2:=by simp[afH,ab6,e']
   rw[ju e,b];exact h2
  .have e':¬q.1=k:=fun z=>e (h1.trans z);have b:afH (q::qs) k=afH qs k:=by simp[afH,ab6,e']
   rw[jx e,b];exact ih
theorem KV.any{kvs:List (κ×V)}{vs:List (κ×GE)}(r:KV kvs vs)(k:κ):(kvs.any fun kv=>decide (kv.1=k))=vs.any fun kv=>decide (kv.1=k):=by
 unfold KV at r
 induction r with
 |nil=>rfl
 |cons h t ih=>rw[aeL,aeL,ih,h.1]
theorem KV.repl{kvs:List (κ×V)}{vs:List (κ×GE)}(r:KV kvs vs)(k:κ)(ry:RelV y u) :
  KV (kvs.map fun kv=>if kv.1=k then(kv.1,y)else kv) (vs.map fun kv=>if kv.1=k then(kv.1,u)else kv):=by
 unfold KV at r⊢
 induction r with
 |nil=>exact .nil
 | @cons p q ps qs h t ih =>
  rw[aai,aai];refine .cons ?_ ih;obtain⟨h1,h2⟩:=h
  by_cases e:p.1=k
  .rw[if_pos e,if_pos (h1.symm.trans e)];exact⟨h1,ry⟩
  .rw[if_neg e,if_neg (fun z=>e (h1.trans z))];exact⟨h1,h2⟩
theorem KV.put{kvs:List (κ×V)}{vs:List (κ×GE)}(r:KV kvs vs)(k:κ)(ry:RelV y u):KV (putK kvs k y) (stored vs k u):=by
 unfold putK stored;rw[r.any k]
 by_cases e:(vs.any fun kv=>decide (kv.1=k))=true
 .rw[if_pos e,if_pos e];exact r.repl k ry
 .rw[if_neg e,if_neg e];exact Paired.snoc r ⟨rfl,ry⟩
theorem KV.length{kvs:List (κ×V)}{vs:List (κ×GE)}(r:KV kvs vs):kvs.length=vs.length:=ahd r
end
theorem Jx{k:Key}(r:RelV (kV k) u):(cq P w).is k u=true:=by
 cases k with
 |inl i=>obtain⟨t,e⟩:=(show ∃t,u=aic i t from r);subst e;exact rf P w i t
 |inr x=>obtain⟨t,e⟩:=(show ∃t,u=aid x t from r);subst e;exact r8 P w x t
theorem qe{P:aaW}{w:World}:∀{ks:List Key}{us:List GE},Vals (ks.map kV) us->ItemsAre (cq P w) ks us
 |[],_,r=>by rw[ab4]at r;cases r;exact .nil
 |k::ks,_,r=>by
  rw[aai]at r
  cases r with
  |cons h t=>exact .cons (Jx h) (qe t)
abbrev KT(H:Hp):List (List Key×V)->List (List Key×Addr×GE)->Prop:=abV fun p q=>p.1=q.1/\H q.2.1=some (.tup (p.1.map kV))/\RelV p.2 q.2.2
theorem KT.val{kvs:List (List Key×V)}(r:KT H kvs xs)(k:List Key):RelO (valV kvs k) ((atKey xs k).map (·.2)):=by
 induction r with
 |nil=>exact aho
 | @cons p q ps qs h t ih =>
  obtain⟨h1,_,h2⟩:=h
  by_cases e:p.1=k
  .have e':q.1=k:=h1.symm.trans e;have b:atKey (q::qs) k=some q.2:=by simp[atKey,ab6,e']
   rw[ju e,b];exact h2
  .have e':¬q.1=k:=fun z=>e (h1.trans z);have b:atKey (q::qs) k=atKey qs k:=by simp[atKey,ab6,e']
   rw[jx e,b];exact ih
theorem KT.repl{kvs:List (List Key×V)}(r:KT H kvs xs)(k:List Key)(ry:RelV y u) :
  KT H (kvs.map fun kv=>if kv.1=k then(kv.1,y)else kv) (xs.map (putAt k u)):=by
 induction r with
 |nil=>exact .nil
 | @cons p q ps qs h t ih =>
  rw[aai,aai];refine .cons ?_ ih;obtain⟨h1,h2,h3⟩:=h;unfold putAt
  by_cases e:p.1=k
  .rw[if_pos e,if_pos (h1.symm.trans e)];exact⟨h1,h2,ry⟩
  .rw[if_neg e,if_neg (fun z=>e (h1.trans z))];exact⟨h1,h2,h3⟩
theorem KT.put{kvs:List (List Key×V)}(r:KT H kvs xs)(k:List Key){b:Addr}(hb:H b=some (.tup (k.map kV)))(ry:RelV y u) :
  KT H (putK kvs k y) (storedH xs k b u):=by
 have e:(kvs.any fun kv=>decide (kv.1=k))=(atKey xs k).isSome:=by
  rw[u8,(r.val k).isSome_eq,Option.isSome_map]
 unfold putK storedH;rw[e]
 by_cases q:(atKey xs k).isSome=true
 .rw[if_pos q,if_pos q];exact r.repl k ry
 .rw[if_neg q,if_neg q];exact Paired.snoc r ⟨rfl,hb,ry⟩
theorem KT.keeps{kvs:List (List Key×V)}(r:KT H kvs xs)(ht:∀b ys,H b=some (.tup ys)->H' b=some (.tup ys)):KT H' kvs xs :=
 Paired.mapP r fun _ _ z=>⟨z.1,ht _ _ z.2.1,z.2.2⟩
section
variable {P:aaW}{w:World}{H:Hp}{h:aa4}{a:Addr}
theorem OU{u:HO}(ok:HOk P w H h)(e:Rd H a u):ObjOk P w H h a u:=e.ok ok
theorem BH{kvs:List (Key×V)}(ok:HOk P w H h)(e:Rd H a (.dK kvs)):kvs.length≤aam/\(a==abL)=false/\∃vs,KV kvs vs/\h.DictOf (cq P w) a vs :=
 show ObjOk P w H h a (.dK kvs)from OU ok e
theorem Q9{kvs:List (Key×V)}(ok:HOk P w H h)(e:H a=some (.dK kvs)):kvs.length≤aam/\(a==abL)=false/\∃vs,KV kvs vs/\h.DictOf (cq P w) a vs:=BH ok (.inl e)
theorem FE{ks:List Key}(ok:HOk P w H h)(e:H a=some (.tup (ks.map kV))):(ag0 (cq P w)).is h ks a:=by
 obtain⟨_,its,r,o,h1,h2,hd,n,h3⟩:=(show ObjOk P w H h a (.tup (ks.map kV))from ok a _ e);exact⟨o,its.toArray,n,h1,h2,h3,by simpa using qe r⟩
theorem SJ{kvs:List (List Key×V)}(ok:HOk P w H h)(e:Rd H a (.dT kvs)):kvs.length≤aam/\(a==abL)=false /\
  ∃xs,KT H kvs xs/\h.DictOfH (ag0 (cq P w)) a xs:=by
 obtain⟨z,y,xs,r,o,es,ep,h1,h2,h3,h4,h5⟩:=(show ObjOk P w H h a (.dT kvs)from OU ok e);refine⟨z,y,xs,r,o,es,ep,h1,h2,h3,h4,fun x hx=>?_,h5⟩;have all:∀{l:List (List Key×V)}{m:List (List Key×Addr×GE)},KT H l m->∀x∈m,(ag0 (cq P w)).is h x.1 x.2.1:=by
  intro l m q
  induction q with
  |nil=>intro x hx;exact nomatch hx
  | @cons p q ps qs hq t ih =>
   intro x hx;rcases aal.mp hx with e|hx
   .subst e;exact FE ok (by rw[<-hq.1];exact hq.2.1)
   .exact ih x hx
 exact all r x hx
theorem QV{kvs:List (List Key×V)}(ok:HOk P w H h)(e:H a=some (.dT kvs)):kvs.length≤aam/\(a==abL)=false /\
  ∃xs,KT H kvs xs/\h.DictOfH (ag0 (cq P w)) a xs:=SJ ok (.inl e)
end
def DPut(H:Hp)(a:Addr)(y v:V)(H':Hp):Prop :=
 (∃kvs k,H a=some (.dK kvs)/\y=kV k/\kvs.length<aam/\H'=upd H a (.dK (putK kvs k v))) \/
 ∃kvs k b,H a=some (.dT kvs)/\y = .ref b/\H b=some (.tup (k.map kV))/\kvs.length<aam/\H'=upd H a (.dT (putK kvs k v))
theorem DPut.k{kvs:List (Key×V)}{k:Key}(e:H a=some (.dK kvs))(hl:kvs.length<aam):DPut H a (kV k) v (upd H a (.dK (putK kvs k v))):=.inl ⟨kvs,k,e,rfl,hl,rfl⟩
section
variable {X:Cx}{pins:List (Addr×Obj)}{σ:St}{H:Hp}{s:aaa}{a:Addr}{y v:V}{u r:GE}{o:Option V}{A:abx}{E:GE->aaa->Prop}
theorem Inv.big(I:Inv X pins σ H s):abL<s.heap.objs.size:=by
 have h:aaQ<s.heap.objs.size:=(I.mod.glob.keeps I.bk).lt;exact aaE (by decide) h
theorem rq{h':aa4}{t':Nat}{ob:HO}(I:Inv X pins σ H s)(mu:Mut (H a))(hs:abw a s.heap h')(he:∃q,h'.get? a=some q)(new:ObjOk X.prog X.w (upd H a ob) h' a ob) :
  Inv X pins σ (upd H a ob) {s with heap:=h',toks:=t' } :=
 I.write (x:=a) (e:=a) mu (.inl rfl) (fun b q hb z=>(hs.2 b hb).trans z) he new
theorem Og{h':aa4}{kvs:List (Key×V)}{vs:List (Key×GE)}(z:kvs.length≤aam)(hd:(a==abL)=false)(rel:KV kvs vs)(dd:h'.DictOf (cq P w) a vs) :
  ObjOk P w H' h' a (.dK kvs):=⟨z,hd,vs,rel,dd⟩
theorem yu{Q:Unit->aaa->Prop}(hu:A.units+1<cLine)(I:Inv X pins σ H s)(g:DPut H a y v H')(ry:RelV y u)(rv:RelV v r)(h:∀s',Inv X pins σ H' s'->Q () s') :
  wpAny (model X.prog X.w) A (ag1 (.ref a) u r) Q E s:=by
 rcases g with⟨kvs,k,e,ey,l,eH⟩|⟨kvs,k,b,e,ey,eb,l,eH⟩
 .subst ey eH;obtain⟨z,hd,vs,rel,dd⟩:=Q9 I.hok e;have hz:vs.length≤aam:=by rw[<-rel.length];exact z
  have hl:(putK kvs k v).length≤aam:=by have:=jS kvs k v;omega
  refine wpAny_setItem_pairs (hsz:=hz) (Jx ry) dd fun h' dd' hs=>h _ ?_;have he:∃q,h'.get? a=some q:=let ⟨q,_,_,hq,_⟩:=dd';⟨q,hq⟩;exact rq I (by rw[e];exact aho) hs he (Og hl hd (rel.put k rv) dd')
 .subst ey eH
  cases (show u=adG b from ry)
  obtain⟨z,hd,xs,rel,dd⟩:=QV I.hok e;have hz:xs.length≤aam:=by rw[<-ahd rel];exact z
  have hl:(putK kvs k v).length≤aam:=by have:=jS kvs k v;omega
  refine wpAny_setItem_heap (hsz:=hz) (tupleKind_room_in1 hu) (FE I.hok eb) dd fun h' dd' hs=>h _ ?_;obtain⟨q,es,ep,hq,h2,h3,h4,_,h5⟩:=dd';refine rq I (by rw[e];exact aho) hs ⟨q,hq⟩ ⟨hl,hd,_,(rel.put k eb rv).keeps fun c ys ec=>?_,q,es,ep,hq,h2,h3,h4,h5⟩;rw[am (qV ec e (fun z=>nomatch z))];exact ec
end
def QB(td ty tv:TE):TS:=fun D σ H=>tv σ H fun v H1=>td σ H1 fun x H2=>ty σ H2 fun y H3=>∃a H4,x = .ref a/\DPut H3 a y v H4/\D.nx σ H4
section
variable {X:Cx}{o i e value:Expr}{pos pos' tpos:Pos}{td ty tv:TE}
theorem J6(hu:X.A.units+1<cLine)(ho:PE X o td)(hi:PE X i ty)(hv:PE X value tv)(hs:abY value (some (.Subscript o i pos')) pos.line X.env=pure false) :
  PS X (.Assign [.Subscript o i pos'] value pos) (QB td ty tv):=by
 intro pins s σ H D I h;refine agp (thn (hv pins s σ H _ I h) fun r s1 ⟨v,H1,I1,rv,q1⟩=>thn (ho pins s1 σ H1 _ I1 q1) fun u s2 ⟨x,H2,I2,rx,q2⟩=>thn (hi pins s2 σ H2 _ I2 q2) fun iv s3 ⟨y,H3,I3,ry,a,H4,ex,g,q3⟩=>?_) hs;subst ex;obtain rfl:u=adG a:=rx;exact yu hu I3 g ry rv fun s4 I4=>⟨σ,H4,I4,q3⟩
end
theorem vd(h:aa4)(hb:abL<h.objs.size):ObjOk P w H (h.push {cls:=.type "dict",data:=.dict #[]}) h.objs.size (.dK []) :=
 ⟨acL _,beq_eq_false_iff_ne.mpr (abz (aa6 hb)),[],.nil,aa4.DictOf.new h⟩
def M6:TE:=fun _ H Q=>∀p,H p=none->Q (.ref p) (upd H p (.dK []))
section
variable {X:Cx}{pos:Pos}
theorem pe_dnewK:PE X (.Dict [] [] pos) M6:=fun pins s σ H Q I h =>
 wpAny_Dict_empty ⟨.ref s.heap.objs.size,_,I.laid (a:=s.heap.objs.size) (o:=.dK []) (t':=s.toks) (fun _ _ q=>OR _ q) (Io _) (vd s.heap I.big),rfl,h _ (I.hok.fresh (Io _))⟩
end
section
variable {K:Kd}{H H':Hp}{τ:List (List Nat×Addr)}
mutual
theorem TAt.monoP(pe:Pers H H'):∀{d:iO}{p:List Nat}{v:V},(∀q a,τ.lookup (p++q)=some a->H' a=H a)->TAt K H τ p d v->TAt K H' τ p d v
 | .none,_,_,_,h=>by simp only[TAt]at h⊢;exact h.mono pe
 | .bool _,_,_,_,h=>by simp only[TAt]at h⊢;exact h.mono pe
 | .int _,_,_,_,h=>by simp only[TAt]at h⊢;exact h.mono pe
 | .str _,_,_,_,h=>by simp only[TAt]at h⊢;exact h.mono pe
 | .tuple _,_,_,_,h=>by simp only[TAt]at h⊢;exact h.mono pe
 | .list ts,p,_,e,h=>by
  simp only[TAt]at h⊢;obtain⟨a,xs,e1,e2,e3,g⟩:=h;exact⟨a,xs,e1,e2,(e [] a (by rw[aa5];exact e1)).trans e3,TAtL.monoP pe (fun i q a z=>e (i::q) a z) g⟩
 | .dict kvs,p,_,e,h=>by
  simp only[TAt]at h⊢;rcases h with⟨d,e1,h⟩|⟨z1,z2,a,es,e1,e2,e3,k,g⟩|⟨z1,z2,a,es,e1,e2,e3,g⟩|⟨c,a,dx,C,xs,e0,e1,e2,e3,k,g⟩
  .exact .inl ⟨d,e1,h.mono pe⟩
  .exact .inr (.inl ⟨z1,z2,a,es,e1,e2,(e [] a (by rw[aa5];exact e1)).trans e3,k,TAtD.monoP pe (fun i q a z=>e (i::q) a z) g⟩)
  .exact .inr (.inr (.inl ⟨z1,z2,a,es,e1,e2,(e [] a (by rw[aa5];exact e1)).trans e3,TAtK.monoP pe (fun i q a z=>e (i::q) a z) g⟩))
  .exact .inr (.inr (.inr ⟨c,a,dx,C,xs,e0,e1,e2,(e [] a (by rw[aa5];exact e1)).trans e3,k,TAtF.monoP pe (fun i q a z=>e (i::q) a z) g⟩))
theorem TAtL.monoP(pe:Pers H H'):∀{ds:List iO}{p:List Nat}{i:Nat}{xs:List V},(∀i q a,τ.lookup (p++i::q)=some a->H' a=H a)->TAtL K H τ p i ds xs->TAtL K H' τ p i ds xs
 |[],_,_,_,_,h=>by simpa only[TAtL]using h
 |t::ts,p,i,_,e,h=>by
  simp only[TAtL]at h⊢;obtain⟨v,vs,e1,g1,g2⟩:=h;exact⟨v,vs,e1,TAt.monoP pe (fun q a z=>e i q a (by simpa using z)) g1,TAtL.monoP pe e g2⟩
theorem TAtD.monoP(pe:Pers H H'):∀{ds:List (iO×iO)}{p:List Nat}{i:Nat}{xs:List (Int×V×V)},(∀i q a,τ.lookup (p++i::q)=some a->H' a=H a)->TAtD K H τ p i ds xs->TAtD K H' τ p i ds xs
 |[],_,_,_,_,h=>by simpa only[TAtD]using h
 |(k,t)::r,p,i,_,e,h=>by
  simp only[TAtD]at h⊢;obtain⟨u,v,vs,e1,g0,g1,g2⟩:=h;exact⟨u,v,vs,e1,g0.mono pe,TAt.monoP pe (fun q a z=>e i q a (by simpa using z)) g1,TAtD.monoP pe e g2⟩
theorem TAtK.monoP(pe:Pers H H'):∀{ds:List (iO×iO)}{p:List Nat}{i:Nat}{xs:List (Key×V)},(∀i q a,τ.lookup (p++i::q)=some a->H' a=H a)->TAtK K H τ p i ds xs->TAtK K H' τ p i ds xs
 |[],_,_,_,_,h=>by simpa only[TAtK]using h
 |(k,t)::r,p,i,_,e,h=>by
  simp only[TAtK]at h⊢;obtain⟨u,v,vs,e1,g0,g1,g2⟩:=h;exact⟨u,v,vs,e1,g0,TAt.monoP pe (fun q a z=>e i q a (by simpa using z)) g1,TAtK.monoP pe e g2⟩
theorem TAtF.monoP(pe:Pers H H'):∀{ds:List (iO×iO)}{p:List Nat}{i:Nat}{xs:List (Str×V)},(∀i q a,τ.lookup (p++i::q)=some a->H' a=H a)->TAtF K H τ p i ds xs->TAtF K H' τ p i ds xs
 |[],_,_,_,_,h=>by simpa only[TAtF]using h
 |(.str f,t)::r,p,i,_,e,h=>by
  simp only[TAtF]at h⊢;obtain⟨v,vs,e1,g1,g2⟩:=h;exact⟨v,vs,e1,TAt.monoP pe (fun q a z=>e i q a (by simpa using z)) g1,TAtF.monoP pe e g2⟩
 |(.none,d)::r,_,_,_,e,h=>by simp only[TAtF]at h⊢;exact TAtF.monoP pe e h
 |(.bool _,d)::r,_,_,_,_,h=>by simp only[TAtF]at h
 |(.int _,d)::r,_,_,_,_,h=>by simp only[TAtF]at h
 |(.list _,d)::r,_,_,_,_,h=>by simp only[TAtF]at h
 |(.tuple _,d)::r,_,_,_,_,h=>by simp only[TAtF]at h
 |(.dict _,d)::r,_,_,_,_,h=>by simp only[TAtF]at h
end
end
def setT:iO->List Nat->iO->iO
 |_,[],n=>n
 | .list ts,i::p,n=>.list (ts.set i (setT (ts.getD i .none) p n))
 | .dict kvs,i::p,n=>.dict (kvs.set i ((kvs.getD i (.none,.none)).1,setT (kvs.getD i (.none,.none)).2 p n))
 |t,_::_,_=>t
section
variable {K:Kd}{H H':Hp}{τ:List (List Nat×Addr)}{p q:List Nat}{P:List Nat}
theorem TAtL.setL(pe:Pers H H'){t':iO}:∀{ts:List iO}{i j:Nat}{xs:List V},TAtL K H τ p i ts xs->(∀v,xs[j]?=some v->TAt K H' τ (p++[i+j]) t' v)->(∀l,l≠i+j->∀q a,τ.lookup (p++l::q)=some a->H' a=H a)->TAtL K H' τ p i (ts.set j t') xs
 |[],_,_,_,h,_,_=>by simpa only[List.set_nil,TAtL]using h
 | t::ts,i,0,xs,h,c,e=>by
  simp only[TAtL]at h;obtain⟨v,vs,rfl,_,g2⟩:=h;simp only[aei,TAtL];refine⟨v,vs,rfl,c v rfl,?_⟩;clear c;have:∀{ts:List iO}{i':Nat}{vs:List V},i<i'->TAtL K H τ p i' ts vs->TAtL K H' τ p i' ts vs:=by
   intro ts
   induction ts with
   |nil=>intro i' vs _ h;simpa only[TAtL]using h
   |cons t ts ih =>
    intro i' vs hl h;simp only[TAtL]at h⊢;obtain⟨v,vs,rfl,g1,g2⟩:=h;exact⟨v,vs,rfl,TAt.monoP pe (fun q a z=>e i' (by omega) q a (by simpa using z)) g1,ih (by omega) g2⟩
  exact this (abQ i) g2
 |t::ts,i,j+1,xs,h,c,e=>by
  simp only[TAtL]at h;obtain⟨v,vs,rfl,g1,g2⟩:=h;simp only[acS,TAtL];exact⟨v,vs,rfl,TAt.monoP pe (fun q a z=>e i (by omega) q a (by simpa using z)) g1,TAtL.setL pe g2 (fun v' z=>by rw[show i+1+j=i+(j+1) by omega];exact c v' (by simpa using z)) fun l hl=>e l (by omega)⟩
theorem TAtK.rest(pe:Pers H H'){i:Nat}(e:∀l,l≠i->∀q a,τ.lookup (p++l::q)=some a->H' a=H a):∀{ts:List (iO×iO)}{i':Nat}{vs:List (Key×V)},i<i'->TAtK K H τ p i' ts vs->TAtK K H' τ p i' ts vs
 |[],_,_,_,h=>by simpa only[TAtK]using h
 |(k,t)::ts,i',vs,hl,h=>by
  simp only[TAtK]at h⊢;obtain⟨kk,v,vs,rfl,g0,g1,g2⟩:=h;exact⟨kk,v,vs,rfl,g0,TAt.monoP pe (fun q a z=>e i' (by omega) q a (by simpa using z)) g1,TAtK.rest pe e (by omega) g2⟩
theorem TAtK.setK(pe:Pers H H'){t':iO}:∀{ts:List (iO×iO)}{i j:Nat}{xs:List (Key×V)}{k0 t0:iO},TAtK K H τ p i ts xs->ts[j]?=some (k0,t0)->(∀v,(∃kk,xs[j]?=some (kk,v))->TAt K H' τ (p++[i+j]) t' v)->(∀l,l≠i+j->∀q a,τ.lookup (p++l::q)=some a->H' a=H a)->TAtK K H' τ p i (ts.set j (k0,t')) xs
 |[],_,_,_,_,_,_,z,_,_=>by simp at z
 |(k,t)::ts,i,0,xs,k0,t0,h,z,c,e=>by
  simp at z;obtain⟨rfl,rfl⟩:=z;simp only[TAtK]at h;obtain⟨kk,v,vs,rfl,g0,_,g2⟩:=h;simp only[aei,TAtK];exact⟨kk,v,vs,rfl,g0,c v ⟨kk,rfl⟩,TAtK.rest pe e (abQ i) g2⟩
 |(k,t)::ts,i,j+1,xs,k0,t0,h,z,c,e=>by
  simp only[TAtK]at h;obtain⟨kk,v,vs,rfl,g0,g1,g2⟩:=h;simp only[acS,TAtK];exact⟨kk,v,vs,rfl,g0,TAt.monoP pe (fun q a z=>e i (by omega) q a (by simpa using z)) g1,TAtK.setK pe g2 (by simpa using z) (fun v' ⟨kk',z⟩=>by rw[show i+1+j=i+(j+1) by omega];exact c v' ⟨kk',by simpa using z⟩) fun l hl=>e l (by omega)⟩
end
theorem uh(nd:(τ.map (·.2)).Nodup){q:List Nat}(h1:τ.lookup p=some a)(h2:τ.lookup q=some a):p=q:=by
 induction τ with
 |nil=>cases h1
 | cons x τ ih =>
  obtain⟨r,b⟩:=x;rw[aai,aaV]at nd;rw[ab9]at h1 h2
  by_cases e1:p==r
  .rw[e1]at h1;cases h1
   by_cases e2:q==r
   .rw[afe e1,afe e2]
   .simp only[af5]at e2;rw[e2]at h2;exact(nd.1 (br h2)).elim
  .simp only[af5]at e1;rw[e1]at h1
   by_cases e2:q==r
   .rw[e2]at h2;cases h2;exact(nd.1 (br h1)).elim
   .simp only[af5]at e2;rw[e2]at h2;exact ih nd.2 h1 h2
def zU:iO->iO->Bool
 | .int a,.int b=>decide (a=b)
 | .str a,.str b=>decide (a=b)
 |_,_=>false
theorem pI(a b:Key):zU (keyD a) (keyD b)=decide (a=b):=by
 cases a<;>cases b<;>simp[keyD,zU]
def putD(k t:iO):List (iO×iO)->List (iO×iO)
 |[]=>[(k,t)]
 |(k',t')::r=>if zU k' k=true then(k',t)::r else(k',t')::putD k t r
def lfD:iO->iO
 | .list ds=>.dict [(.none,.list ds)]
 | .dict ds=>.dict [(.none,.dict ds)]
 |d=>d
theorem tw(h:isKd kvs=true):fzOf kvs=none/\excC kvs=none:=by
 cases kvs with
 |nil=>exact⟨rfl,rfl⟩
 |cons x r =>
  obtain⟨k,d⟩:=x
  cases k with
  |int _=>exact⟨rfl,rfl⟩
  |str _=>exact⟨rfl,rfl⟩
  |none=>simp[isKd]at h
  |bool _=>simp[isKd]at h
  |list _=>simp[isKd]at h
  |tuple _=>simp[isKd]at h
  |dict _=>simp[isKd]at h
section
variable {K:Kd}{H:Hp}{τ:List (List Nat×Addr)}{p:List Nat}
theorem TAtK.get':∀{ts:List (iO×iO)}{i j:Nat}{xs:List (Key×V)}{k t:iO},TAtK K H τ p i ts xs->ts[j]?=some (k,t)->∃kk v,xs[j]?=some (kk,v)/\k=keyD kk/\TAt K H τ (p++[i+j]) t v
 |[],_,_,_,_,_,_,e=>by simp at e
 |(k,t)::ts,i,0,xs,k',t',h,e=>by
  simp only[TAtK]at h;obtain⟨u,v,vs,rfl,g0,g1,_⟩:=h;simp at e;obtain⟨rfl,rfl⟩:=e;exact⟨u,v,rfl,g0.1,g1⟩
 |(k,t)::ts,i,j+1,xs,k',t',h,e=>by
  simp only[TAtK]at h;obtain⟨u,v,vs,rfl,_,_,g2⟩:=h;obtain⟨kk,v',e1,e0,e2⟩:=TAtK.get' (j:=j) g2 (by simpa using e);exact⟨kk,v',by simpa using e1,e0,by rw[show i+(j+1)=i+1+j by omega];exact e2⟩
theorem TAtK.kd:∀{ts:List (iO×iO)}{i:Nat}{xs:List (Key×V)},TAtK K H τ p i ts xs->isKd ts=true
 |[],_,_,_=>rfl
 |(k,t)::ts,i,xs,h=>by
  simp only[TAtK]at h;obtain⟨u,v,vs,rfl,g0,_,g2⟩:=h;have:=g2.kd;unfold isKd at this⊢;rw[acM,this,g0.1]
  cases u<;>rfl
theorem TAtK.len:∀{ts:List (iO×iO)}{i:Nat}{xs:List (Key×V)},TAtK K H τ p i ts xs->ts.length=xs.length
 |[],_,_,h=>by simp only[TAtK]at h;subst h;rfl
 |(k,t)::ts,i,xs,h=>by
  simp only[TAtK]at h;obtain⟨u,v,vs,rfl,g0,_,g2⟩:=h;simp[g2.len]
theorem o3{u:Key}{w:V}(c:u≠kk):putK ((u,w)::vs) kk v=(u,w)::putK vs kk v:=by
 unfold putK;rw[aeL,decide_eq_false (show ¬((u,w):Key×V).1=kk from c),Bool.false_or]
 by_cases e:(vs.any fun kv=>decide (kv.1=kk))=true
 .rw[if_pos e,if_pos e,aai,if_neg (show ¬((u,w):Key×V).1=kk from c)]
 .rw[if_neg e,if_neg e];rfl
theorem qK{w:V}(h:∀x∈vs,x.1≠kk):putK ((kk,w)::vs) kk v=(kk,v)::vs:=by
 unfold putK;rw[aeL,decide_eq_true (show((kk,w):Key×V).1=kk from rfl),Bool.true_or,if_pos rfl,aai,if_pos rfl]
 congr 1
 exact(ad1 (g:=id) fun x hx=>if_neg (h x hx)).trans (List.map_id _)
theorem BV{x:Key×V}(h:x∈putK vs kk v):x.1=kk\/∃y∈vs,y.1=x.1:=by
 unfold putK at h
 split at h
 .obtain⟨y,h1,h2⟩:=aay.mp h;subst h2;refine .inr ⟨y,h1,?_⟩
  split<;>rfl
 .obtain h|h:=aa2.mp h
  .exact .inr ⟨x,h,rfl⟩
  .cases aah.mp h
   exact .inl rfl
theorem TAtK.put{t':iO}{v':V}(c:∀j,TAt K H τ (p++[j]) t' v'):∀{ts:List (iO×iO)}{i:Nat}{xs:List (Key×V)},TAtK K H τ p i ts xs->TAtK K H τ p i (putD (keyD kk) t' ts) (putK xs kk v')
 |[],i,xs,h=>by
  simp only[TAtK]at h;subst h;simp only[putD,TAtK];exact⟨kk,v',[],rfl,⟨rfl,fun x hx=>by cases hx⟩,c i,rfl⟩
 | (k,t)::ts,i,xs,h=>by
  simp only[TAtK]at h;obtain⟨u,v,vs,rfl,g0,g1,g2⟩:=h;obtain⟨rfl,g0⟩:=g0;simp only[putD,pI]
  by_cases e:u=kk
  .subst e;rw[if_pos (decide_eq_true rfl),qK g0];simp only[TAtK];exact⟨u,v',vs,rfl,⟨rfl,g0⟩,c i,g2⟩
  .rw[if_neg (by simpa using e),o3 e];simp only[TAtK];refine⟨u,v,_,rfl,⟨rfl,fun x hx=>?_⟩,g1,g2.put c⟩;rcases BV hx with z|⟨y,hy,z⟩
   .rw[z];exact fun w=>e w.symm
   .rw[<-z];exact g0 y hy
theorem xK{d:iO}(h:Den K H d v):TAt K H τ p (lfD d) v:=by
 cases d with
 |list ds=>simp only[lfD,TAt];exact .inl ⟨_,rfl,h⟩
 |dict ds=>simp only[lfD,TAt];exact .inl ⟨_,rfl,h⟩
 |none=>simpa only[lfD,TAt]using h
 |bool _=>simpa only[lfD,TAt]using h
 |int _=>simpa only[lfD,TAt]using h
 |str _=>simpa only[lfD,TAt]using h
 |tuple _=>simpa only[lfD,TAt]using h
theorem TAt.kd(h:TAt K H τ p (.dict kvs) v)(e:isKd kvs=true):∃a es,τ.lookup p=some a/\v = .ref a/\H a=some (.dK es)/\TAtK K H τ p 0 kvs es:=by
 obtain⟨n1,n2⟩:=tw e;simp only[TAt]at h;rcases h with⟨d,e1,_⟩|⟨_,_,b,es,e1,e2,e3,kk,g⟩|⟨_,_,b,es,e1,e2,e3,g⟩|⟨c,b,dx,C,xs,e0,e1,e2,e3,kk,g⟩
 .rw[n1]at e1;cases e1
 .rw[kk.1]at e;cases e
 .exact⟨b,es,e1,e2,e3,g⟩
 .rw[n2]at e0;cases e0
end
def okW:iO->List Nat->Bool
 |_,[]=>true
 | .list ts,i::q=>okW (ts.getD i .none) q
 | .dict kvs,i::q=>(isKd kvs||(excC kvs).isSome)&&okW (kvs.getD i (.none,.none)).2 q
 |_,_::_=>false
theorem CG{i:Nat}{k t':iO}(h:isKd kvs=true)(e:kvs[i]?=some (k,t)):isKd (kvs.set i (k,t'))=true:=by
 unfold isKd at h⊢;rw[aca]at h⊢;intro x hx;rcases afx hx with z|z
 .exact h x z
 .subst z;exact h (k,t) (aae e)
theorem TAtF.restF{K:Kd}{H H':Hp}{τ:List (List Nat×Addr)}{p:List Nat}(pe:Pers H H'){i:Nat}(e:∀l,l≠i->∀q a,τ.lookup (p++l::q)=some a->H' a=H a):∀{ts:List (iO×iO)}{i':Nat}{vs:List (Str×V)},i<i'->TAtF K H τ p i' ts vs->TAtF K H' τ p i' ts vs
 |[],_,_,_,h=>by simpa only[TAtF]using h
 |(.str f,t)::ts,i',vs,hl,h=>by
  simp only[TAtF]at h⊢;obtain⟨v,vs,rfl,g1,g2⟩:=h;exact⟨v,vs,rfl,TAt.monoP pe (fun q a z=>e i' (by omega) q a (by simpa using z)) g1,TAtF.restF pe e (by omega) g2⟩
 |(.none,d)::r,_,_,hl,h=>by simp only[TAtF]at h⊢;exact TAtF.restF pe e (by omega) h
 |(.bool _,d)::r,_,_,_,h=>by simp only[TAtF]at h
 |(.int _,d)::r,_,_,_,h=>by simp only[TAtF]at h
 |(.list _,d)::r,_,_,_,h=>by simp only[TAtF]at h
 |(.tuple _,d)::r,_,_,_,h=>by simp only[TAtF]at h
 |(.dict _,d)::r,_,_,_,h=>by simp only[TAtF]at h
theorem TAtF.setF{K:Kd}{H H':Hp}{τ:List (List Nat×Addr)}{p:List Nat}(pe:Pers H H'){t' t0:iO}{f0:Str}:∀{ts:List (iO×iO)}{i j:Nat}{xs:List (Str×V)},TAtF K H τ p i ts xs->ts[j]?=some (.str f0,t0)->(∀v,TAt K H τ (p++[i+j]) t0 v->TAt K H' τ (p++[i+j]) t' v)->(∀l,l≠i+j->∀q a,τ.lookup (p++l::q)=some a->H' a=H a)->TAtF K H' τ p i (ts.set j (.str f0,t')) xs
 |[],_,_,_,_,z,_,_=>by simp at z
 |(k,t)::ts,i,0,xs,h,z,c,e=>by
  simp at z;obtain⟨rfl,rfl⟩:=z;simp only[TAtF]at h;obtain⟨v,vs,rfl,g1,g2⟩:=h;simp only[aei,TAtF];exact⟨v,vs,rfl,c v g1,TAtF.restF pe e (abQ i) g2⟩
 |(.str f,t)::ts,i,j+1,xs,h,z,c,e=>by
  simp only[TAtF]at h;obtain⟨v,vs,rfl,g1,g2⟩:=h;simp only[acS,TAtF];exact⟨v,vs,rfl,TAt.monoP pe (fun q a z=>e i (by omega) q a (by simpa using z)) g1,TAtF.setF pe g2 (by simpa using z) (fun v' zv=>by rw[show i+1+j=i+(j+1) by omega]at zv⊢;exact c v' zv) fun l hl=>e l (by omega)⟩
 |(.none,d)::ts,i,j+1,xs,h,z,c,e=>by
  simp only[TAtF]at h;simp only[acS,TAtF];exact TAtF.setF pe h (by simpa using z) (fun v' zv=>by rw[show i+1+j=i+(j+1) by omega]at zv⊢;exact c v' zv) fun l hl=>e l (by omega)
 |(.bool _,d)::r,_,_+1,_,h,_,_,_=>by simp only[TAtF]at h
 |(.int _,d)::r,_,_+1,_,h,_,_,_=>by simp only[TAtF]at h
 |(.list _,d)::r,_,_+1,_,h,_,_,_=>by simp only[TAtF]at h
 |(.tuple _,d)::r,_,_+1,_,h,_,_,_=>by simp only[TAtF]at h
 |(.dict _,d)::r,_,_+1,_,h,_,_,_=>by simp only[TAtF]at h
theorem TAt.ins{c:Str}(h:TAt K H τ p (.dict kvs) v)(e:excC kvs=some c):∃a dx C xs,τ.lookup p=some a/\v = .ref a/\H a=some (.ins C dx xs)/\ClsN K c C/\TAtF K H τ p 0 kvs xs:=by
 have hf:fzOf kvs=none:=by
  unfold excC at e
  split at e
  .unfold fzOf;split
   .rename_i z;simp at z
   .rename_i z;simp at z
   .rfl
  .cases e
 simp only[TAt]at h;rcases h with⟨d,e1,_⟩|⟨_,z2,_⟩|⟨_,z2,_⟩|⟨c',a,dx,C,xs,e0,e1,e2,e3,k,g⟩
 .rw[hf]at e1;cases e1
 .rw[e]at z2;cases z2
 .rw[e]at z2;cases z2
 .rw[e]at e0;cases e0;exact⟨a,dx,C,xs,e1,e2,e3,k,g⟩
theorem BC{i:Nat}{x:iO×iO}{c:Str}{k:iO}(h:excC kvs=some c)(e:kvs[i]?=some (k,t))(kn:k≠.none):excC (kvs.set i x)=some c:=by
 cases kvs with
 |nil=>cases h
 | cons y r =>
  cases i with
  |zero =>
   simp at e;subst e;unfold excC at h
   split at h
   .rename_i z;simp at z;exact(kn z.1.1).elim
   .cases h
  |succ i =>
   rw[acS];unfold excC at h⊢
   split at h
   .rename_i z;simp at z;obtain⟨rfl,rfl⟩:=z;exact h
   .cases h
theorem TAt.set{K:Kd}{H:Hp}{τ:List (List Nat×Addr)}(nd:(τ.map (·.2)).Nodup){a:Addr}{o:HO}{n:iO}(pe:Pers H (upd H a o)):∀{q p:List Nat}{t t0:iO}{v:V},TAt K H τ p t v->getT t q=some t0->okW t q=true->τ.lookup (p++q)=some a->TAt K (upd H a o) τ (p++q) n (.ref a)->(∀u,TAt K H τ (p++q) t0 u->u = .ref a)->TAt K (upd H a o) τ p (setT t q n) v
 |[],p,t,t0,v,h,e,_,_,hn,hu=>by
  cases e;rw[aa5]at hn hu;rw[hu v h];unfold setT;exact hn
 | i::q,p,t,t0,v,h,e,ok,ea,hn,hu=>by
  have other:∀(r:List Nat) (b:Addr),τ.lookup r=some b->r≠p++i::q->(upd H a o) b=H b:=fun r b z ne=>am fun eb=>by
   subst eb;exact ne (uh nd z ea)
  have ea':τ.lookup ((p++[i])++q)=some a:=by simpa using ea
  have hn':TAt K (upd H a o) τ ((p++[i])++q) n (.ref a):=by simpa using hn
  have hu':∀u,TAt K H τ ((p++[i])++q) t0 u->u = .ref a:=fun u z=>hu u (by simpa using z);simp only[getT]at e
  cases z:chD t i with
  |none=>rw[z]at e;cases e
  | some t1 =>
   rw[z]at e;have e':getT t1 q=some t0:=e;have sib:∀l,l≠0+i->∀r b,τ.lookup (p++l::r)=some b->(upd H a o) b=H b:=fun l hl r b zz=>other _ _ zz fun y=>by
    have:=List.append_cancel_left y;injection this with h1 _
    omega
   have self:∀b,τ.lookup p=some b->(upd H a o) b=H b:=fun b zz=>other _ _ zz fun y=>by
    have:=congrArg aeO y;simp at this
   cases t with
   |list ts =>
    have zi:ts[i]?=some t1:=z;have hg:ts.getD i .none=t1:=by rw[aax,zi];rfl
    simp only[TAt]at h;obtain⟨b,xs,e1,e2,e3,g⟩:=h;simp only[setT,hg,TAt];refine⟨b,xs,e1,e2,(self b e1).trans e3,TAtL.setL pe g (fun v1 zv=>?_) sib⟩;obtain⟨v2,ev2,g2⟩:=g.get (j:=i) zi;rw[zv]at ev2;cases ev2;rw[ab5]at g2⊢;exact TAt.set nd pe g2 e' (by simp only[okW,hg]at ok;exact ok) ea' hn' hu'
   | dict kvs =>
    simp only[chD]at z
    cases zi:kvs[i]? with
    |none=>rw[zi]at z;cases z
    |some kt =>
     obtain⟨k,t2⟩:=kt;rw[zi]at z;have kn:k≠.none:=fun w=>by subst w;cases z
     have e2:t2=t1:=by split at z<;>simp_all
     subst e2;have hg:kvs.getD i (.none,.none)=(k,t2):=by rw[aax,zi];rfl
     simp only[okW,hg,aaL,aed]at ok;rcases ok.1 with ok1|ok1
     .obtain⟨b,es,e1,e2,e3,g⟩:=h.kd ok1;have kd':isKd (kvs.set i (k,setT t2 q n))=true:=CG ok1 zi;obtain⟨n1,n2⟩:=tw kd';simp only[setT,hg,TAt];refine .inr (.inr (.inl ⟨n1,n2,b,es,e1,e2,(self b e1).trans e3,TAtK.setK pe g zi (fun v1 ⟨kk,zv⟩=>?_) sib⟩));obtain⟨kk2,v2,ev2,_,g2⟩:=g.get' (j:=i) zi;rw[zv]at ev2;cases ev2;rw[ab5]at g2⊢;exact TAt.set nd pe g2 e' ok.2 ea' hn' hu'
     .obtain⟨c,ec⟩:=afK.mp ok1;obtain⟨b,dx,C,xs,e1,e2,e3,kc,g⟩:=h.ins ec;obtain⟨f0,rfl⟩:=g.key (aae zi) kn;have ec':excC (kvs.set i (.str f0,setT t2 q n))=some c:=BC ec zi kn;simp only[setT,hg,TAt];refine .inr (.inr (.inr ⟨c,b,dx,C,xs,ec',e1,e2,(self b e1).trans e3,kc,TAtF.setF pe g zi (fun v1 g2=>?_) sib⟩));rw[ab5]at g2⊢;exact TAt.set nd pe g2 e' ok.2 ea' hn' hu'
   |none=>cases z
   |bool _=>cases z
   |int _=>cases z
   |str _=>cases z
   |tuple _=>cases z
def onAt(P:Nat->List Nat->Prop):R->Prop
 | .at k p=>P k p
 |_=>False
def yL(P:iO->Prop):R->Prop
 | .imm (.int i)=>P (.int i)
 | .imm (.str x)=>P (.str x)
 |_=>False
section
variable {K:Kx}{α:Al}{Hb H:Hp}{r:R}{v:V}{m:MSt}{σ:St}
theorem OT{P:Nat->List Nat->Prop}(rr:RelR K α Hb H r v)(h:onAt P r):∃k p τ a,r = .at k p/\α[k]?=some (.T τ)/\τ.lookup p=some a/\v = .ref a/\P k p:=by
 unfold onAt at h
 split at h
 .obtain⟨τ,a,e1,e2,e3⟩:=rr;exact⟨_,_,τ,a,rfl,e1,e2,e3,h⟩
 .exact h.elim
theorem KM{P:iO->Prop}(rr:RelR K α Hb H r v)(h:yL P r):∃kk:Key,r = .imm (keyD kk)/\v=kV kk/\P (keyD kk):=by
 unfold yL at h
 split at h
 .rename_i i;exact⟨.inl i,rfl,aM (show Den K H (.int i) v from rr),h⟩
 .rename_i x;exact⟨.inr x,rfl,bx (show Den K H (.str x) v from rr),h⟩
 .exact h.elim
theorem Rel.dict(Rl:Rel K α m σ H){k:Nat}(e1:α[k]?=some (.T τ))(e2:τ.lookup p=some a)(e3:m.os[k]?=some [t])(e4:getT t p=some (.dict kvs))(e5:isKd kvs=true) :
  ∃es,H a=some (.dK es)/\TAtK K H τ p 0 kvs es:=by
 obtain⟨⟨t1,v0,z,g,_⟩,_⟩:=Rl.own k (.T τ) _ e1 e3;cases z;obtain⟨v',g'⟩:=g.get e4;rw[adC]at g';obtain⟨a',es,ea,_,ed,gk⟩:=g'.kd e5;rw[e2]at ea;cases ea;exact⟨es,ed,gk⟩
end
section
variable {X:Cx}{o i e:Expr}{wo wi we:WE}{pos pos':Pos}
def KG(m:MSt)(k:Nat)(p:List Nat)(y d:iO)(P:iO->Prop):Prop:=∃t kvs,m.os[k]?=some [t]/\getT t p=some (.dict kvs)/\isKd kvs=true/\okW t p=true/\kvs.length<aam/\P (setT t p (.dict (putD y (lfD d) kvs)))
def JZ(we wo wi:WE):WS:=fun D m=>we m fun rv m1=>e8 (fun d=>wo m1 fun ro m2=>wi m2 fun ri m3=>onAt (fun k p=>yL (fun y=>KG m3 k p y d fun t=>D.nx {m3 with os:=m3.os.set k [t]}) ri) ro) rv
theorem Jt(hu:X.A.units+64<cLine)(he:ME X e we)(ho:ME X o wo)(hi:ME X i wi)(hs:abY e (some (.Subscript o i pos')) pos.line X.env=pure false:=by rfl):MS X (.Assign [.Subscript o i pos'] e pos) (JZ we wo wi):=(J6 (by omega) ho hi he hs).wk fun D σ H ⟨α,m,De,Rl,hw,k⟩=>by
 refine⟨α,m,_,Rl,hw,fun r m1 v H1 q n1 Rl1 rr F1=>?_⟩;obtain⟨d,er,hd,q⟩:=gF rr q;refine⟨α,m1,_,Rl1,q,fun ro m2 ov H2 q2 n2 Rl2 rr2 F2=>⟨α,m2,_,Rl2,q2,fun ri m3 iv H3 q3 n3 Rl3 rr3 F3=>?_⟩⟩;obtain⟨kk,p,τ,a,rfl,e1,e2,rfl,q3⟩:=OT rr2 q3;obtain⟨y,rfl,rfl,t,kvs,e3,e4,e5,e6,e7,q3⟩:=KM rr3 q3;obtain⟨es,ed,gk⟩:=Rl3.dict e1 e2 e3 e4 e5;have hd3:Den X.kx H3 d v:=(hd.mono (Rl1.pers F2)).mono (Rl2.pers F3);obtain⟨⟨t1,v0,z,g,a0,ea0,ev0⟩,mu⟩:=Rl3.own kk (.T τ) _ e1 e3;cases z;have pe:Pers H3 (upd H3 a (.dK (putK es y v))):=bu (.inr ⟨_,ed,rfl⟩);have nd:(τ.map (·.2)).Nodup:=((gL α).mp Rl3.nd).1 (.T τ) (aae e1);have gk':TAtK X.kx (upd H3 a (.dK (putK es y v))) τ p 0 kvs es:=TAtK.monoP pe (fun i q b zb=>am fun eb=>by
  subst eb;have:=congrArg aeO (uh nd zb e2);simp at this) gk
 have new:TAt X.kx (upd H3 a (.dK (putK es y v))) τ p (.dict (putD (keyD y) (lfD d) kvs)) (.ref a):=by
  have gp:=gk'.put (kk:=y) (t':=lfD d) (v':=v) fun j=>xK (hd3.mono pe);obtain⟨z1,z2⟩:=tw gp.kd;simp only[TAt];exact .inr (.inr (.inl ⟨z1,z2,a,_,e2,rfl,av,gp⟩))
 have all:TAt X.kx (upd H3 a (.dK (putK es y v))) τ [] (setT t p (.dict (putD (keyD y) (lfD d) kvs))) v0:=TAt.set nd pe g e4 e6 (by rw[adC];exact e2) (by rw[adC];exact new) fun u hu'=>by
  rw[adC]at hu';obtain⟨a',es',ea',eu,_⟩:=hu'.kd e5;rw[e2]at ea';cases ea';exact eu
 obtain⟨R4,F4⟩:=Rl3.setW e1 pe (ds':=[setT t p (.dict (putD (keyD y) (lfD d) kvs))]) (fun b hb=>am fun eb=>hb (eb▸br e2)) ⟨⟨_,v0,rfl,all,a0,ea0,ev0⟩,fun b hb=>by
  by_cases eb:b=a
  .subst eb;exact⟨_,av,rfl⟩
  .rw[am eb];exact mu b hb⟩
 exact⟨a,_,rfl,DPut.k ed (by rw[<-gk.len];exact e7),k.nx α _ σ _ q3 (n3.trans (n2.trans n1)) R4 (.of R4 (((F1.trans F2).trans F3).trans F4))⟩
def lfKV(kvs:List (iO×iO)):List (iO×iO):=kvs.map fun kv=>(kv.1,lfD kv.2)
end
section
variable {m:MSt}{Q:R->MSt->Prop}{wo wi we:WE}{D:dY}
theorem NG{P:Nat->List Nat->Prop}{k:Nat}(h:P k p):onAt P (.at k p):=h
theorem ud{P:iO->Prop}{x:Str}(h:P (.str x)):yL P (.imm (.str x)):=h
theorem NK(h:we m fun rv m1=>e8 (fun d=>wo m1 fun ro m2=>wi m2 fun ri m3=>onAt (fun k p=>yL (fun y=>KG m3 k p y d fun t=>D.nx {m3 with os:=m3.os.set k [t]}) ri) ro) rv):JZ we wo wi D m:=h
theorem jy{n:Nat}{P:MSt->Prop}(h:P {vs:=m.vs.set n (some (.at m.os.length [])),os:=m.os++[[t]],np:=m.np}):qp n P m (.newT t):=.inl h
end
section
variable {X:Cx}{o i e:Expr}{wo wi we:WE}{pos pos':Pos}
theorem BI(hu:X.A.units+64<cLine)(he:EE X e we)(ho:EE X o wo)(hi:EE X i wi)(hs:abY e (some (.Subscript o i pos')) pos.line X.env=pure false:=by rfl):ES X (.Assign [.Subscript o i pos'] e pos) (JZ we wo wi):=⟨Jt hu he.h ho.h hi.h hs⟩
end
def isFz:HO->Bool
 | .lst _=>true
 | .dK _=>true
 | .ext _=>true
 |_=>false
section
variable {X:Cx}{pins:List (Addr×Obj)}{σ:St}{H:Hp}{s:aaa}
theorem Inv.freezeU{u:HO}(I:Inv X pins σ H s)(h:H a=some u)(hu:isFz u=true):∃o,Inv X pins σ (upd H a (.frz o u)) s:=by
 have ok:=I.hok a u h;obtain⟨o,e⟩:∃o,s.heap.get? a=some o:=by
  cases u with
  |lst xs=>obtain⟨_,its,n,_,e⟩:=ok;exact⟨_,e⟩
  |dK kvs=>obtain⟨_,_,vs,_,o,_,_,e,_⟩:=ok;exact⟨_,e⟩
  |ext φ=>exact ok.2.1
  |_=>cases hu
 have nt:∀{b:Addr}{v:HO},H b=some v->v≠u->b≠a:=fun q z=>qV q h z;refine⟨o,I.un (h':=s.heap) (t':=s.toks) ⟨fun b ob q _ _ _=>q,fun b ob q _ _ _=>⟨ob.slots,q⟩,fun b ob q z _=>?_,fun b ob q _=>⟨ob,q⟩,fun b ys q=>?_,fun b ob v q=>?_,fun b ps q=>⟨#[],?_⟩⟩ fun b ob q=>?_⟩
 .rw[am (abz (bh h z))];exact z
 .rw[am (nt q (by intro z;subst z;cases hu))];exact q
 .rw[am (nt q (by intro z;subst z;cases hu))];exact q
 .rw[am (nt q (by intro z;subst z;cases hu)),q];simp
 .have stay:∀{c:Addr}{v:HO},ObjOk X.prog X.w H s.heap c v->ObjOk X.prog X.w (upd H a (.frz o u)) s.heap c v:=fun x=>x.stay (fun _ _ _ z=>z) (fun c z=>by rw[am (nt z (by intro z;subst z;cases hu))];exact z) fun c ys z=>by rw[am (nt z (by intro z;subst z;cases hu))];exact z
  by_cases hb:b=a
  .subst hb;rw[av]at q;cases q;exact⟨e,stay ok⟩
  .rw[am hb]at q;exact stay (I.hok b ob q)
end
def tFrz(t:TS):TS:=fun D σ H=>∃a u,H a=some u/\isFz u=true/\∀o,t D σ (upd H a (.frz o u))
section
variable {X:Cx}{st:Stmt}{w:WS}
theorem Nr{t:TS}(h:PS X st t):PS X st (tFrz t):=fun pins s σ H D I ⟨a,u,e,hu,q⟩=>by
 obtain⟨o,I'⟩:=I.freezeU e hu;exact h pins s σ _ D I' (q o)
theorem CU{K:Kx}{m:MSt}(Rl:Rel K α m σ H)(N:Ren ρ m m2):Rel K (ρ.map fun k=>α.getD k (.L 0)) m2 σ H/\Ext m.np α H (ρ.map fun k=>α.getD k (.L 0)) H:=by
 have pr:=gj Rl.len N.lt;have get:∀(k:Nat) (ao:Ao),(ρ.map fun k=>α.getD k (.L 0))[k]?=some ao->∃j:Nat,ρ[k]?=some j/\α[j]?=some ao:=fun k ao z=>by
  obtain⟨j,h1,h2⟩:=Paired.get2 pr z;exact⟨j,h1,h2⟩
 have fwd:∀(k j:Nat) (ao:Ao),ρ[k]?=some j->α[j]?=some ao->(ρ.map fun k=>α.getD k (.L 0))[k]?=some ao:=fun k j ao z1 z2=>by
  obtain⟨ao',z3,z4⟩:=Paired.get' pr z1;rw[z2]at z4;cases z4;exact z3
 have pre':(ρ.map fun k=>α.getD k (.L 0)).take m.np=α.take m.np:=by
  apply acw;intro l;rw[aaR,aaR]
  by_cases hl:l<m.np
  .rw[if_pos hl,if_pos hl];have:ρ[l]?=some l:=by
    have e:=congrArg (·[l]?) N.pre;simp only[aaR,if_pos hl]at e;rw[e,abW hl]
   have hl2:l<α.length:=aaA hl Rl.npl;rw[fwd l l α[l] this (Ge hl2),Ge hl2]
  .rw[if_neg hl,if_neg hl]
 have ext:Ext m.np α H (ρ.map fun k=>α.getD k (.L 0)) H:=⟨pre',Frm.refl _ _,fun a ha=>by
  obtain⟨k,ao,e1,hm⟩:=iq ha;obtain⟨j,_,e2⟩:=get k ao e1;exact .inl (ji e2 hm),fun a ha=>by
  obtain⟨o,q,_⟩:=Rl.mem ha;exact⟨_,q⟩⟩
 refine⟨⟨f9 Rl.nd N.nd pr,?_,fun k ao ds z1 z2=>?_,?_,fun j r z=>?_,?_,by rw[N.np];exact Rl.ebl,Rl.ebx.trans (ext.less Rl.ebl)⟩,ext⟩
 .rw[N.os,oR,oR]
 .obtain⟨j,q,qa⟩:=get k ao z1;rw[N.os,aak,q]at z2;have hj:j<m.os.length:=N.lt j (aae q);have z2':m.os.getD j []=ds:=aau z2;refine Rl.own j ao ds qa ?_;rw[<-z2',aax,Ge hj];rfl
 .rw[N.vl];exact Rl.vlen
 .have h:=N.vs j r z
  cases r with
  |imm d=>exact Rl.var j (.imm d) h
  |new _=>exact h.elim
  |newT _=>exact h.elim
  |obj k =>
   obtain⟨j',q,h⟩:=h;obtain⟨v,ev,a,ea,e⟩:=Rl.var j (.obj j') h;exact⟨v,ev,a,fwd k j' _ q ea,e⟩
  | «at» k p =>
   obtain⟨j',q,h⟩:=h;obtain⟨v,ev,τ,a,ea,el,e⟩:=Rl.var j (.at j' p) h;exact⟨v,ev,τ,a,fwd k j' _ q ea,el,e⟩
 .rw[N.np,oR];exact N.npl
structure Fz(k:Nat)(dd:iO)(ρ:List Nat)(m m2:MSt):Prop where
 nd:ρ.Nodup
 lt:∀k∈ρ,k<m.os.length
 out:k∉ρ
 pre:ρ.take m.np=aaP m.np
 npl:m.np≤ρ.length
 npk:m.np≤k
 os:m2.os=ρ.map fun k=>m.os.getD k []
 np:m2.np=m.np
 vl:m2.vs.length=m.vs.length
 vs:∀(j:Nat) (r:R),m2.vs[j]?=some (some r)->RenR ρ m.vs[j]? r\/(r = .imm dd/\(m.vs[j]?=some (some (.obj k))\/m.vs[j]?=some (some (.at k []))))
def Fz.ren{k:Nat}{dd:iO}{ρ:List Nat}{m m2:MSt}(F:Fz k dd ρ m m2):∃m3,Ren ρ m m3/\m3.np=m2.np/\m3.os=m2.os/\m3.vs.length=m2.vs.length/\∀(j:Nat) (r:R),m2.vs[j]?=some (some r)->m3.vs[j]?=some (some r)\/(r = .imm dd/\(m.vs[j]?=some (some (.obj k))\/m.vs[j]?=some (some (.at k [])))):=by
 classical
 refine⟨{m2 with vs:=m2.vs.mapIdx fun j o=>match o with|some r=>if RenR ρ m.vs[j]? r then some r else none|none=>none},⟨F.nd,F.lt,F.pre,F.npl,F.os,F.np,by rw[<-F.vl];simp,fun j r z=>?_⟩,rfl,rfl,by simp,fun j r z=>?_⟩
 .simp only[agW]at z
  cases q:m2.vs[j]? with
  |none=>rw[q]at z;cases z
  | some o =>
   rw[q]at z
   cases o with
   |none=>cases z
   |some r' =>
    simp only[acy,afD]at z
    split at z
    .cases z;assumption
    .cases z
 .rcases F.vs j r z with h|h
  .left;simp only[agW,z,acy,if_pos h]
  .exact .inr h
theorem r9{m:MSt}{De:dY}{D:Ends}{k:Nat}{dd:iO}{ao:Ao}{u:HO}(Rl:Rel X.kx α m σ H)(ke:EndsOk X.kx m.np α H De D)(F:Fz k dd ρ m m2)(ea:α[k]?=some ao)(hm:a∈ao.ads)(hu:H a=some u)(hfz:isFz u=true)(mu:Mu u=true)
  (den:∀o,Pers H (upd H a (.frz o u))->Den X.kx (upd H a (.frz o u)) dd (.ref a)) (name:∀(j:Nat) (v:V),(m.vs[j]?=some (some (.obj k))\/m.vs[j]?=some (some (.at k [])))->σ[j]?=some (some v)->v = .ref a) (hw:w De m2):tFrz (tMS X.kx w) D σ H:=by
 obtain⟨m3,N,np3,os3,vl3,vs3⟩:=F.ren;obtain⟨R3,x3⟩:=CU Rl N;refine⟨a,u,hu,hfz,fun o=>?_⟩;have pe:Pers H (upd H a (.frz o u)):=bu (.inr ⟨u,hu,mu⟩);have aα:a∈ads α:=ji ea hm;have out:a∉ads (ρ.map fun k=>α.getD k (.L 0)):=fun z=>by
  obtain⟨i,x,e1,e2⟩:=iq z;obtain⟨j,h1,h2⟩:=Paired.get2 (gj Rl.len N.lt) e1;exact gm Rl.nd ea h2 (fun z=>F.out (z▸aae h1)) hm e2
 have xx:Ext m.np α H (ρ.map fun k=>α.getD k (.L 0)) (upd H a (.frz o u)):=⟨x3.pre,fun b ob e n=>by rw[am (fun z=>n (by rw[z];exact aα))];exact e,x3.new,fun b hb=>by
  by_cases eb:b=a
  .subst eb;exact⟨_,av⟩
  .rw[am eb];exact x3.old b hb⟩
 have R4:=R3.at' pe (fun b hb=>am fun z=>out (z▸hb)) (Rl.ebx.trans (xx.less Rl.ebl));refine⟨_,m2,De,⟨R4.nd,by rw[R4.len,os3],fun k ao ds z1 z2=>R4.own k ao ds z1 (by rw[os3];exact z2),by rw[R4.vlen,vl3],fun j r z=>?_,by rw[<-np3];exact R4.npl,by rw[<-np3];exact R4.ebl,R4.ebx⟩,hw,by rw[F.np];exact ke.ext xx⟩;rcases vs3 j r z with h|⟨rfl,h⟩
 .exact R4.var j r h
 .obtain⟨v,ev⟩:∃v,σ[j]?=some (some v):=by
   rcases h with h|h
   .obtain⟨v,ev,_⟩:=Rl.var j _ h;exact⟨v,ev⟩
   .obtain⟨v,ev,_⟩:=Rl.var j _ h;exact⟨v,ev⟩
  refine⟨v,ev,?_⟩;rw[name j v h ev];exact den o pe
theorem yQ(d:iO):xJ (lfD d)=some d:=by cases d<;>rfl
theorem fzKK{K:Kd}{H:Hp}{τ:List (List Nat×Addr)}{p:List Nat}:∀{kvs:List (iO×iO)}{i:Nat}{es:List (Key×V)},TAtK K H τ p i (lfKV kvs) es->DenKK K H kvs es
 |[],_,_,h=>by simpa only[lfKV,ab4,TAtK,DenKK]using h
 |(k,d)::r,i,es,h=>by
  simp only[lfKV,aai,TAtK]at h;obtain⟨kk,v,vs,rfl,g0,g1,g2⟩:=h;simp only[DenKK];exact⟨kk,v,vs,rfl,g0,jD g1 (yQ d),fzKK g2⟩
def wFzK(w:WS):WS:=fun D m=>∃(k j:Nat) (kvs:List (iO×iO)) (ρ:List Nat) (m2:MSt),m.vs[j]?=some (some (.at k []))/\m.os[k]?=some [.dict (lfKV kvs)]/\isKd (lfKV kvs)=true/\Fz k (.dict kvs) ρ m m2/\w D m2
theorem L8(h:MS X st w):MS X st (wFzK w):=(Nr h).wk fun D σ H ⟨α,m,De,Rl,⟨k,j0,kvs,ρ,m2,ej,eo,kd,F,hw⟩,ke⟩=>by
 obtain⟨v,ev,τ,a,ea,el,rfl⟩:=Rl.var j0 _ ej;obtain⟨es,hx,g⟩:=Rl.dict ea el eo rfl kd;refine r9 Rl ke F ea (br el) hx rfl rfl (fun o pe=>?_) (fun j v hj evj=>?_) hw
 .simp only[Den];exact⟨a,rfl,.inr (.inl ⟨es,o,av,(fzKK g).mono pe⟩)⟩
 .rcases hj with hj|hj
  .obtain⟨v',ev',a',ea',_⟩:=Rl.var j _ hj;rw[ea]at ea';cases ea'
  .obtain⟨v',ev',τ',a',ea',el',rfl⟩:=Rl.var j _ hj;rw[ea]at ea';cases ea';rw[el]at el';cases el';rw[evj]at ev';cases ev';rfl
theorem F9(h:ES X st w):ES X st (wFzK w):=⟨L8 h.h⟩
end
def FzVs(k:Nat)(dd:iO)(ρ:List Nat):List (Option R)->List (Option R)->Prop
 |o::os,q::qs=>(RenO ρ o q\/(q=some (.imm dd)/\(o=some (.obj k)\/o=some (.at k []))))/\FzVs k dd ρ os qs
 |[],[]=>True
 |_,_=>False
theorem FzVs.len{k:Nat}{dd:iO}{ρ:List Nat}:∀{os qs:List (Option R)},FzVs k dd ρ os qs->qs.length=os.length
 |[],[],_=>rfl
 |_::_,_::_,h=>congrArg (· + 1) (FzVs.len h.2)
 |[],_::_,h=>h.elim
 |_::_,[],h=>h.elim
theorem FzVs.get{k:Nat}{dd:iO}{ρ:List Nat}:∀{os qs:List (Option R)},FzVs k dd ρ os qs->∀(j:Nat) (r:R),qs[j]?=some (some r)->RenR ρ os[j]? r\/(r = .imm dd/\(os[j]?=some (some (.obj k))\/os[j]?=some (some (.at k []))))
 |o::os,q::qs,h,0,r,e=>by
  have e':q=some r:=by simpa using e
  subst e';rcases h.1 with h|⟨h1,h2⟩
  .exact .inl h
  .cases h1;exact .inr ⟨rfl,by simpa using h2⟩
 |o::os,q::qs,h,j+1,r,e=>by simpa using FzVs.get h.2 j r (by simpa using e)
 |[],[],_,_,_,e=>by simp at e
 |[],_::_,h,_,_,_=>h.elim
 |_::_,[],h,_,_,_=>h.elim
theorem GI{k:Nat}{dd:iO}{m:MSt}(nd:decide ρ.Nodup=true)(lt:(ρ.all fun k=>Nat.blt k m.os.length)=true)(out:(ρ.all fun i=>i != k)=true)(pre:ρ.take m.np=aaP m.np)(npl:Nat.ble m.np ρ.length=true)(npk:Nat.ble m.np k=true)(os:m2.os=ρ.map fun k=>m.os.getD k [])(np:m2.np=m.np)(vs:FzVs k dd ρ m.vs m2.vs):Fz k dd ρ m m2 :=
 ⟨of_decide_eq_true nd,fun k hk=>Nat.blt_eq.mp (aca.mp lt k hk),fun z=>by simpa using aca.mp out k z,pre,aeA npl,aeA npk,os,np,vs.len,fun j r e=>vs.get j r e⟩
theorem Ql{w:WS}{D:dY}{m:MSt}(k j:Nat)(kvs:List (iO×iO))(ρ:List Nat)(m2:MSt)(e1:m.vs[j]?=some (some (.at k [])))(e2:m.os[k]?=some [.dict (lfKV kvs)])(e3:isKd (lfKV kvs)=true)(F:Fz k (.dict kvs) ρ m m2)(h:w D m2):wFzK w D m:=⟨k,j,kvs,ρ,m2,e1,e2,e3,F,h⟩
noncomputable instance instDecPyData:DecidableEq iO:=fun a b=>Classical.propDecidable (a=b)
mutual
def jk:iO->Nat
 | .int _=>1
 | .str _=>1
 | .tuple ds=>e9 ds+1
 |_=>0
def e9:List iO->Nat
 |[]=>0
 |d::ds=>jk d+e9 ds
end
def kyD(d:iO):Bool:=(match d with| .tuple _=>true|_=>false)&&(hkD d&&(d.canLay0&&decide (d.depth≤7)))
theorem ij{d:iO}(h:kyD d=true):∃ds,d = .tuple ds/\hkA ds=true/\d.canLay0=true/\d.depth≤7:=by
 unfold kyD at h;rw[aaL,aaL,aaL,decide_eq_true_eq]at h
 cases d with
 |tuple ds=>exact⟨ds,rfl,by simpa only[hkD]using h.2.1,h.2.2.1,h.2.2.2⟩
 |_=>simp at h
section
variable {w:World}{prog:aaW}
theorem po(w:World):∀a b:List iO,g9 w (a++b)=g9 w a++g9 w b
 |[],b=>by simp[g9]
 |d::a,b=>by simp only[af1,g9,po w a b]
theorem lL:∀a b:List iO,e9 (a++b)=e9 a+e9 b
 |[],b=>by simp[e9]
 |d::a,b=>by simp only[af1,e9,lL a b];omega
theorem s9:∀{ds:List iO}{d:iO},hkA ds=true->d∈ds->hkD d=true
 |x::ds,d,h,hm=>by
  simp only[hkA,aaL]at h;obtain rfl|hm:=aal.mp hm
  .exact h.1
  .exact s9 h.2 hm
theorem jm{ds:List iO}{d:iO}(h:d∈ds):d.depth≤aaC ds:=by
 induction ds with
 |nil=>cases h
 |cons x ds ih =>
  show _≤max x.depth (aaC ds);obtain rfl|h:=aal.mp h
  .omega
  .have:=ih h;omega
mutual
theorem lw:∀(d:iO) {A:abx}{E:GE->aaa->Prop}{s:aaa}{v:GE}{as:List Addr}{Q:Int->aaa->Prop},hkD d=true->Reads s.heap v d as->A.units+d.depth<cLine->Q (dN w d) {s with toks:=s.toks+jk d}->wpAny (model prog w) A (pyHash v) Q E s
 | .int i,A,E,s,v,as,Q,_,r,_,h=>by
  cases r;exact wpAny_pyHash_int (by simpa only[dN,jk]using h)
 | .str x,A,E,s,v,as,Q,_,r,_,h=>by
  cases r;exact wpAny_pyHash_str (by simpa only[dN,jk]using h)
 | .tuple ds,A,E,s,v,as,Q,hk,r,hu,h=>by
  cases r with
  | @tuple a o vs n _ _ ho hc hd hr =>
   have hT:s.TypeIs (.ref a) "tuple" :=⟨o,ho,hc⟩;have hu0:A.units<cLine:=aaF (aco _ _) hu;have sp:∀{P:Option GE->aaa->Prop},P (some (.builtin "tuple.__hash__")) s->wpAny (model prog w) A (ahR (.ref a) "__hash__") P E s:=fun p=>agB hT afI.lookup p;simp only[dN,jk]at h;refine gE (m:=cRoomFor "hash" [.ref a]) (wpAny_cRoomFor_or (.inr hu0) (gE (m:=ahR _ _) (sp ?_)));rw[if_neg (show ¬(some (GE.builtin "tuple.__hash__")==some agf)=true by rw[beq_builtin_none];decide)];refine gE (m:=ahR _ _) (sp (gE (m:=callSpecialIfBoundUnlessNone? (.ref a) "__hash__" _) ?_));refine wpAny_callSpecialIfBoundUnlessNone?_slot hT afI (aa0 afI hT F.entry_tuple_hash (gE (m:=adN (.ref a)) (wpAny_tupleItemsOf ho hd ?_)) (F.args_tuple_hash_1 _));refine gE ?_;rw[<-ahp];refine aeG _
    (fun rest (b:Array Int) s'=>∃done left bs,ds=done++left/\ad6 s.heap rest left bs/\b.toList=g9 w done/\s'={s with toks:=s.toks+e9 done})
    _ ?_ ?_ _ _ ⟨[],ds,_,rfl,hr,by simp[g9],by simp[e9]⟩
   .rintro x rest b s' ⟨done,left,bs,hds,hl,hb,rfl⟩
    cases hl with
    | @cons _ _ d ds' as1 bs1 r1 r2 =>
     have hm:d∈ds:=by rw[hds];simp
     refine gE (uC ds d hm (s9 (by simpa only[hkD]using hk) hm) (s:={s with toks:=s.toks+e9 done}) r1 ?_ ?_)
     .have:=jm hm;have e:(acg ds).depth=aaC ds+1:=rfl;show A.units+1+d.depth<cLine;omega
     .have fin:∃done' left' bs',ds=done'++left'/\ad6 s.heap rest left' bs'/\(b.push (dN w d)).toList=g9 w done'/\({s with toks:=s.toks+e9 done+jk d}:aaa)={s with toks:=s.toks+e9 done' }:=by
       refine⟨done++[d],ds',_,by rw[hds];simp,r2,?_,?_⟩
       .rw[Array.toList_push,hb,po];simp[g9]
       .rw[lL,afN];simp[e9]
      first
       |exact aac fin
       |exact gE (aac (aac fin))
   .rintro b s' ⟨done,left,bs,hds,hl,hb,rfl⟩;cases hl;rw[aa5]at hds;subst hds;change wpAny _ _ (retInt (abR (b.toList:List Int))) _ _ _;rw[hb];refine wpAny_ret_mkInt ?_;show wpAny _ _ (if (decide (-(2:Int)^63≤abR (g9 w ds))&&decide (abR (g9 w ds)<2^63))=true then _ else _) Q E _;unfold reduceHash at h
    by_cases hr:(decide (-(2:Int)^63≤abR (g9 w ds))&&decide (abR (g9 w ds)<2^63))=true
    .rw[if_pos hr];rw[if_pos hr]at h;refine aac ?_;simpa[afN]using h
    .rw[if_neg hr];rw[if_neg hr]at h;refine gE (m:=rule _) (acP (aac ?_));simpa[afN]using h
 | .none,_,_,_,_,_,_,hk,_,_,_=>by simp only[hkD]at hk;cases hk
 | .bool _,_,_,_,_,_,_,hk,_,_,_=>by simp only[hkD]at hk;cases hk
 | .list _,_,_,_,_,_,_,hk,_,_,_=>by simp only[hkD]at hk;cases hk
 | .dict _,_,_,_,_,_,_,hk,_,_,_=>by simp only[hkD]at hk;cases hk
theorem uC:∀(ds:List iO) (d:iO),d∈ds->∀{A:abx}{E:GE->aaa->Prop}{s:aaa}{v:GE}{as:List Addr}{Q:Int->aaa->Prop},hkD d=true->Reads s.heap v d as->A.units+d.depth<cLine->Q (dN w d) {s with toks:=s.toks+jk d}->wpAny (model prog w) A (pyHash v) Q E s
 |x::ds,d,hm=>by
  intro hk r hu h;rcases aal.mp hm with e|hm'
  .rw[e]at hk r hu h;exact lw x hk r hu h
  .exact uC ds d hm' hk r hu h
end
mutual
theorem qB:∀(a b:iO),hkD a=true->hkD b=true->aaw a b=decide (a=b)
 | .int i,b,_,hb=>by
  cases b with
  |int j =>
   show decide (i=j)=_
   by_cases h:i=j
   .subst h;rw[decide_eq_true rfl,decide_eq_true rfl]
   .rw[decide_eq_false h,decide_eq_false (fun z=>h (by cases z;rfl))]
  |str _=>rw[decide_eq_false (fun z=>by cases z)];rfl
  |tuple _=>rw[decide_eq_false (fun z=>by cases z)];rfl
  |none=>simp only[hkD]at hb;cases hb
  |bool _=>simp only[hkD]at hb;cases hb
  |list _=>simp only[hkD]at hb;cases hb
  |dict _=>simp only[hkD]at hb;cases hb
 | .str i,b,_,hb=>by
  cases b with
  |str j =>
   show decide (i=j)=_
   by_cases h:i=j
   .subst h;rw[decide_eq_true rfl,decide_eq_true rfl]
   .rw[decide_eq_false h,decide_eq_false (fun z=>h (by cases z;rfl))]
  |int _=>rw[decide_eq_false (fun z=>by cases z)];rfl
  |tuple _=>rw[decide_eq_false (fun z=>by cases z)];rfl
  |none=>simp only[hkD]at hb;cases hb
  |bool _=>simp only[hkD]at hb;cases hb
  |list _=>simp only[hkD]at hb;cases hb
  |dict _=>simp only[hkD]at hb;cases hb
 | .tuple ds,b,ha,hb=>by
  cases b with
  |tuple es =>
   simp only[aaw];rw[xg ds es (by simpa only[hkD]using ha) (by simpa only[hkD]using hb)]
   by_cases h:ds=es
   .subst h;rw[decide_eq_true rfl,decide_eq_true rfl]
   .rw[decide_eq_false h,decide_eq_false (fun z=>h (by cases z;rfl))]
  |int _=>rw[decide_eq_false (fun z=>by cases z)];rfl
  |str _=>rw[decide_eq_false (fun z=>by cases z)];rfl
  |none=>simp only[hkD]at hb;cases hb
  |bool _=>simp only[hkD]at hb;cases hb
  |list _=>simp only[hkD]at hb;cases hb
  |dict _=>simp only[hkD]at hb;cases hb
 | .none,_,ha,_=>by simp only[hkD]at ha;cases ha
 | .bool _,_,ha,_=>by simp only[hkD]at ha;cases ha
 | .list _,_,ha,_=>by simp only[hkD]at ha;cases ha
 | .dict _,_,ha,_=>by simp only[hkD]at ha;cases ha
theorem xg:∀(a b:List iO),hkA a=true->hkA b=true->adH a b=decide (a=b)
 |[],[],_,_=>by rw[decide_eq_true rfl];rfl
 |[],_::_,_,_=>by rw[decide_eq_false (fun z=>by cases z)];rfl
 |_::_,[],_,_=>by rw[decide_eq_false (fun z=>by cases z)];rfl
 | x::a,y::b,ha,hb=>by
  simp only[hkA,aaL]at ha hb;simp only[adH];rw[qB x y ha.1 hb.1,xg a b ha.2 hb.2]
  by_cases h1:x=y
  .by_cases h2:a=b
   .subst h1 h2;rw[decide_eq_true rfl,decide_eq_true rfl,decide_eq_true rfl];rfl
   .rw[decide_eq_false h2,Bool.and_false,decide_eq_false (fun z=>h2 (by cases z;rfl))]
  .rw[decide_eq_false h1,agK,decide_eq_false (fun z=>h1 (by cases z;rfl))]
end
mutual
theorem Reads.hkeep{h h':aa4}{d:Addr}{o:Obj}{es:Array acm}{ep:Nat}(ho:h.get? d=some o)(hd:o.data = .dict es ep)(hs:abw d h h'):∀(k:iO) {v:GE}{as:List Addr},hkD k=true->Reads h v k as->Reads h' v k as
 | .int _,_,_,_,r=>by cases r;exact .int _ _
 | .str _,_,_,_,r=>by cases r;exact .str _ _
 | .tuple ds,_,_,hk,r=>by
  cases r with
  | @tuple a o' vs n _ _ h1 h2 h3 h4 =>
   have hne:a≠d:=by
    rintro rfl;rw[ho]at h1;cases h1;rw[hd]at h3;cases h3
   exact .tuple ((hs.2 a hne).trans h1) h2 h3 (ReadsAll.hkeep ho hd hs ds (by simpa only[hkD]using hk) h4)
 | .none,_,_,hk,_=>by simp only[hkD]at hk;cases hk
 | .bool _,_,_,hk,_=>by simp only[hkD]at hk;cases hk
 | .list _,_,_,hk,_=>by simp only[hkD]at hk;cases hk
 | .dict _,_,_,hk,_=>by simp only[hkD]at hk;cases hk
theorem ReadsAll.hkeep{h h':aa4}{d:Addr}{o:Obj}{es:Array acm}{ep:Nat}(ho:h.get? d=some o)(hd:o.data = .dict es ep)(hs:abw d h h'):∀(ks:List iO) {vs:List GE}{as:List Addr},hkA ks=true->ad6 h vs ks as->ad6 h' vs ks as
 |[],_,_,_,r=>by cases r;exact .nil
 |k::ks,_,_,hk,r=>by
  simp only[hkA,aaL]at hk
  cases r with
  |cons r1 r2=>exact .cons (Reads.hkeep ho hd hs k hk.1 r1) (ReadsAll.hkeep ho hd hs ks hk.2 r2)
end
mutual
theorem j9:∀(d:iO) {A:abx}{E:GE->aaa->Prop}{s:aaa}{v:GE}{as:List Addr}{n:Nat}{Q:Bool->aaa->Prop},hkD d=true->Reads s.heap v d as->d.depth≤n->Q true s->wpAny (model prog w) A (eqIsQuiet n v) Q E s
 | .int _,_,_,_,_,_,_,_,_,r,_,h=>by cases r;rw[eqIsQuiet_byValue _ rfl];exact aac h
 | .str _,_,_,_,_,_,_,_,_,r,_,h=>by cases r;rw[eqIsQuiet_byValue _ rfl];exact aac h
 | .tuple ds,A,E,s,v,as,n,Q,hk,r,hn,h=>by
  cases r with
  | @tuple a o vs nn _ _ ho hc hd hr =>
   have hT:s.TypeIs (.ref a) "tuple" :=⟨o,ho,hc⟩;have e:(acg ds).depth=aaC ds+1:=rfl
   cases n with
   |zero=>omega
   | succ n =>
    unfold eqIsQuiet;refine gE (m:=ahR _ _) (agB hT F.slot_tuple_eq.lookup (gE (m:=isInstance (.ref a) (.type "tuple")) (adm hT isSubtype_tuple_tuple ?_)));simp only[if_false,acn,Bool.not_true];refine gE (m:=seqItems? (.ref a)) (acR ho hd ?_);refine gE ?_;show wpAny _ _ (forIn vs _ _) _ _ s;rw[<-ahp];refine aeG _ (fun rest r s'=>r.1=none/\s'=s/\∃left bs,(∀d∈left,d∈ds)/\ad6 s.heap rest left bs) _ ?_ ?_ _ _ ⟨rfl,rfl,ds,_,fun _ h=>h,hr⟩
    .rintro x rest r s' ⟨hr',rfl,left,bs,hsub,hl⟩
     cases hl with
     | @cons _ _ d ds' as1 bs1 r1 r2 =>
      have hm:d∈ds:=hsub d aaf;refine gE (qq ds d hm (s9 (by simpa only[hkD]using hk) hm) r1 (by have:=jm hm;omega) ?_);simp only[if_false,acn,Bool.not_true];exact aac ⟨rfl,rfl,ds',_,fun z hz=>hsub z (aab _ hz),r2⟩
    .rintro⟨r1,r2⟩ s' ⟨hr',rfl,_⟩;simp only at hr';subst hr';exact aac h
 | .none,_,_,_,_,_,_,_,hk,_,_,_=>by simp only[hkD]at hk;cases hk
 | .bool _,_,_,_,_,_,_,_,hk,_,_,_=>by simp only[hkD]at hk;cases hk
 | .list _,_,_,_,_,_,_,_,hk,_,_,_=>by simp only[hkD]at hk;cases hk
 | .dict _,_,_,_,_,_,_,_,hk,_,_,_=>by simp only[hkD]at hk;cases hk
theorem qq:∀(ds:List iO) (d:iO),d∈ds->∀{A:abx}{E:GE->aaa->Prop}{s:aaa}{v:GE}{as:List Addr}{n:Nat}{Q:Bool->aaa->Prop},hkD d=true->Reads s.heap v d as->d.depth≤n->Q true s->wpAny (model prog w) A (eqIsQuiet n v) Q E s
 |x::ds,d,hm=>by
  intro hk r hu h;rcases aal.mp hm with e|hm'
  .rw[e]at hk r hu;exact j9 x hk r hu h
  .exact qq ds d hm' hk r hu h
end
theorem ld{d:iO}(h:kyD d=true):hkD d=true:=by
 obtain⟨ds,rfl,h1,_⟩:=ij h;simpa only[hkD]using h1
noncomputable def l8 (prog:aaW) (w:World):HeapKind prog w iO where
 is:=fun h d a=>(∃as,Reads h (.ref a) d as)/\kyD d=true
 hash:=dN w
 draws:=jk
 room:=fun A=>A.units+20<cLine
 inj:=fun {h a x y} ⟨⟨as,r1⟩,k1⟩ ⟨⟨bs,r2⟩,k2⟩=>by
  obtain⟨ds,rfl,_,hl,_⟩:=ij k1;exact SeqAt.Reads.unique _ _ _ _ _ hl r1 r2
 keeps:=fun⟨⟨as,r⟩,k⟩ ho hd hs=>⟨⟨as,Reads.hkeep ho hd hs _ (ld k) r⟩,k⟩
 pyHash:=fun {A E s k a Q} hu ⟨⟨as,r⟩,hk⟩ h=>by
  obtain⟨ds,e,_,_,hd⟩:=ij hk;exact lw k (ld hk) r (by omega) h
 eqBool:=fun {A E s x y a b Q} hu ⟨⟨as,r1⟩,k1⟩ ⟨⟨bs,r2⟩,k2⟩ h=>by
  obtain⟨ds,e1,_,l1,d1⟩:=ij k1;obtain⟨es,e2,_,l2,d2⟩:=ij k2;refine ahS x y A s _ _ _ _ r1 r2 l1 l2 (by omega) prog w E Q ?_;rw[qB x y (ld k1) (ld k2)];exact h
 quiet:=fun {A E s k a Q} ⟨⟨as,r⟩,hk⟩ h=>by
  obtain⟨ds,e,_,_,hd⟩:=ij hk;exact j9 k (ld hk) r (by omega) h
end
def fO(k:iO):List (iO×iO)->Option iO
 |[]=>none
 |(k',d)::r=>if aaw k' k=true then some d else fO k r
def putP(k d:iO):List (iO×iO)->List (iO×iO)
 |[]=>[(k,d)]
 |(k',d')::r=>if aaw k' k=true then(k',d)::r else(k',d')::putP k d r
def kyA(kvs:List (iO×iO)):Bool:=kvs.all fun kv=>kyD kv.1
def kdD:iO->Bool
 | .int _=>true
 | .str _=>true
 |_=>false
def oneK(kvs:List (iO×iO))(k:iO):Bool:=(isKd kvs&&kdD k)||(kyA kvs&&kyD k)
theorem nR(kvs:List (iO×iO)):isKd kvs=kvs.all fun kv=>kdD kv.1:=by
 unfold isKd
 congr 1
theorem sE{k:iO}(h:kdD k=true):∃kk:Key,k=keyD kk:=by
 cases k with
 |int i=>exact⟨.inl i,rfl⟩
 |str x=>exact⟨.inr x,rfl⟩
 |_=>cases h
theorem zP(a b:Key):aaw (keyD a) (keyD b)=decide (a=b):=by
 cases a<;>cases b<;>simp[keyD,aaw,acl]
def IsDc(K:Kd)(H:Hp)(a:Addr)(kvs:List (iO×iO)):Prop :=
 (∃es,Rd H a (.dK es)/\DenKK K H kvs es)\/∃es,Rd H a (dX a es)/\isKd kvs=false/\(kvs.map (·.1)).Nodup/\DenKV K H kvs es
section
variable {K:Kd}{H H':Hp}
theorem fzKV{τ:List (List Nat×Addr)}{p:List Nat}:∀{kvs:List (iO×iO)}{i:Nat}{es:List (Int×V×V)},TAtD K H τ p i (lfKV kvs) es->DenKV K H kvs es
 |[],_,_,h=>by simpa only[lfKV,ab4,TAtD,DenKV]using h
 |(k,d)::r,i,es,h=>by
  simp only[lfKV,aai,TAtD]at h;obtain⟨u,v,vs,rfl,g0,g1,g2⟩:=h;simp only[DenKV];exact⟨u,v,vs,rfl,g0,jD g1 (yQ d),fzKV g2⟩
theorem Pc{τ:List (List Nat×Addr)}{p:List Nat}:∀{kvs:List (iO×iO)}{i:Nat}{es:List (Int×V×V)},DenKV K H kvs es->TAtD K H τ p i (lfKV kvs) es
 |[],_,_,h=>by simpa only[lfKV,ab4,TAtD,DenKV]using h
 |(k,d)::r,i,es,h=>by
  simp only[DenKV]at h;obtain⟨u,v,vs,rfl,g0,g1,g2⟩:=h;simp only[lfKV,aai,TAtD];exact⟨u,v,vs,rfl,g0,xK g1,Pc g2⟩
theorem iA(kvs:List (iO×iO)):(lfKV kvs).map (·.1)=kvs.map (·.1):=by
 unfold lfKV;rw[abe];rfl
theorem j7(kvs:List (iO×iO)):isKd (lfKV kvs)=isKd kvs:=by
 unfold isKd lfKV;rw[adV];rfl
theorem qG(h:isKd kvs=true\/kyA kvs=true):fzOf kvs=none/\excC kvs=none:=by
 cases kvs with
 |nil=>exact⟨rfl,rfl⟩
 | cons x r =>
  obtain⟨k,d⟩:=x
  cases k with
  |none =>
   rcases h with h|h
   .simp[isKd]at h
   .simp[kyA,kyD]at h
  |int _=>exact⟨rfl,rfl⟩
  |str _=>exact⟨rfl,rfl⟩
  |bool _=>exact⟨rfl,rfl⟩
  |list _=>exact⟨rfl,rfl⟩
  |tuple _=>exact⟨rfl,rfl⟩
  |dict _=>exact⟨rfl,rfl⟩
end
def dcM(m:MSt)(kvs:List (iO×iO)):R->Prop
 | .imm (.dict es)=>es=kvs
 | .at k p=>p=[]/\m.os[k]?=some [.dict (lfKV kvs)]
 |_=>False
theorem RelR.dc{K:Kx}{m:MSt}{H0:Hp}{r:R}(R:Rel K α m σ H)(h:RelR K α H0 H r v)(e:dcM m kvs r)(hk:isKd kvs=true\/kyA kvs=true):∃a,v = .ref a/\IsDc K H a kvs:=by
 obtain⟨n1,n2⟩:=qG hk
 cases r with
 | imm d =>
  cases d with
  |dict es =>
   have e':es=kvs:=e;subst e';have h':Den K H (.dict es) v:=h;simp only[Den]at h';obtain⟨a,rfl,h'⟩:=h';refine⟨a,rfl,?_⟩;rcases h' with⟨xs,⟨o,f⟩,kk,g⟩|⟨xs,o,f,g⟩|⟨c,xs,ec,_⟩
   .exact .inr ⟨xs,.inr ⟨o,f⟩,kk.1,kk.2.1,g⟩
   .exact .inl ⟨xs,.inr ⟨o,f⟩,g⟩
   .rw[n2]at ec;cases ec
  |none=>exact e.elim
  |bool _=>exact e.elim
  |int _=>exact e.elim
  |str _=>exact e.elim
  |list _=>exact e.elim
  |tuple _=>exact e.elim
 | «at» k p =>
  obtain⟨rfl,eo⟩:=e;obtain⟨τ,a,e1,e2,rfl⟩:=h;obtain⟨⟨t1,v0,z,g,a0,el,ev⟩,_⟩:=R.own k _ _ e1 eo;cases z;rw[e2]at el;cases el;subst ev;refine⟨a,rfl,?_⟩;have n3:fzOf (lfKV kvs)=none/\excC (lfKV kvs)=none:=qG (by
   rcases hk with hk|hk
   .exact .inl (by rw[j7];exact hk)
   .refine .inr ?_;unfold kyA lfKV at *;rw[adV];exact hk)
  simp only[TAt]at g;rcases g with⟨d,e1,_⟩|⟨_,_,b,es,e1,e3,e4,kk,g⟩|⟨_,_,b,es,e1,e3,e4,g⟩|⟨c,b,dx,C,xs,e0,_⟩
  .rw[n3.1]at e1;cases e1
  .cases e3;rw[e2]at e1;exact .inr ⟨es,.inl e4,by rw[<-j7];exact kk.1,by rw[<-iA];exact kk.2.1,fzKV g⟩
  .cases e3;exact .inl ⟨es,.inl e4,fzKK g⟩
  .rw[n3.2]at e0;cases e0
 |obj _=>exact e.elim
 |new _=>exact e.elim
 |newT _=>exact e.elim
theorem DenKV.len{K:Kd}{H:Hp}:∀{kvs:List (iO×iO)}{es:List (Int×V×V)},DenKV K H kvs es->kvs.length=es.length
 |[],_,g=>by simp only[DenKV]at g;subst g;rfl
 |(k,d)::r,_,g=>by
  simp only[DenKV]at g;obtain⟨u,v,vs,rfl,_,_,g⟩:=g;simp[DenKV.len g]
section
variable {X:Cx}{pins:List (Addr×Obj)}{σ:St}{H:Hp}{s:aaa}
abbrev PxV(K:Kd)(H:Hp):List (iO×iO)->List (iO×Addr×GE)->Prop:=abV fun p q=>p.1=q.1/\Den K H p.1 (.ref q.2.1)/\∃v,Den K H p.2 v/\RelV v q.2.2
theorem PxV.keys{H:Hp}{xs:List (iO×Addr×GE)}(p:PxV K H kvs xs):xs.map (·.1)=kvs.map (·.1):=by
 induction p with
 |nil=>rfl
 |cons h t ih=>rw[aai,aai,ih,h.1]
theorem xL{k:iO}{u:V}(hk:kyD k=true)(h:Den K H k u):∃b,u = .ref b:=by
 obtain⟨ds,rfl,_⟩:=ij hk;simp only[Den]at h;obtain⟨a,xs,e,_⟩:=h;exact⟨a,e⟩
theorem xz{k:iO}(hk:kyD k=true):k.hasDict=false:=by
 obtain⟨ds,rfl,_,hl,_⟩:=ij hk;exact abu _ hl
theorem Inv.ky(I:Inv X pins σ H s){k:iO}{b:Addr}(hk:kyD k=true)(h:Den X.kd H k (.ref b)):(l8 X.prog X.w).is s.heap k b:=⟨h.reads I (xz hk) (show RelV (.ref b) (.ref b)from rfl),hk⟩
abbrev ExV(w:World):List (Int×V×V)->List (iO×Addr×GE)->Prop:=abV fun e q=>e.1=dN w q.1/\e.2.1 = .ref q.2.1/\RelV e.2.2 q.2.2
theorem Inv.dcE(I:Inv X pins σ H s){es:List (Int×V×V)}(rd:Rd H a (dX a es))(g:DenKV X.kd H kvs es)(nd:(kvs.map (·.1)).Nodup)(hk:kyA kvs=true):(a==abL)=false/\es.length≤aam/\∃xs,s.heap.DictOfH (l8 X.prog X.w) a xs/\PxV X.kd H kvs xs/\ExV X.w es xs:=by
 obtain⟨⟨hs,hz,o,ents,ep,h1,h2,h3,h4⟩,_⟩:=(show ObjOk X.prog X.w H s.heap a (dX a es)from rd.ok I.hok);have key:∀{kvs:List (iO×iO)}{es:List (Int×V×V)}{ents:List acm},kyA kvs=true->DenKV X.kd H kvs es->abV (fun(e:Int×V×V) (d:acm)=>d.hash=e.1/\RelV e.2.1 d.key/\RelV e.2.2 d.val) es ents->∃xs,ents=xs.map (entryOfKey (l8 X.prog X.w))/\PxV X.kd H kvs xs/\ExV X.w es xs:=by
  intro kvs
  induction kvs with
  |nil =>
   intro es ents _ g p;simp only[DenKV]at g;subst g;cases p;exact⟨[],rfl,.nil,.nil⟩
  | cons x r ih =>
   intro es ents hk g p;obtain⟨k,d⟩:=x;rw[kyA,acM,aaL]at hk;simp only[DenKV]at g;obtain⟨u,v,vs,rfl,g0,g1,g2⟩:=g
   cases p with
   |cons p1 p2 =>
    rename_i en ents';obtain⟨xs,e1,e2,e3⟩:=ih hk.2 g2 p2;obtain⟨b,rfl⟩:=xL hk.1 g0;obtain⟨p3,p4,p5⟩:=p1;obtain⟨eh,ek,ev⟩:=en
    cases (show ek=adG b from p4)
    refine⟨(k,b,ev)::xs,?_,.cons ⟨rfl,g0,v,g1,p5⟩ e2,.cons ⟨rfl,rfl,p5⟩ e3⟩;rw[aai,<-e1]
    congr 1
    show acm.mk eh (.ref b) ev=⟨dN X.w k,.ref b,ev⟩;rw[show eh=dN X.w k from p3]
 obtain⟨xs,e1,e2,e3⟩:=key hk g h4;refine⟨hs,hz,xs,⟨o,ents,ep,h1,h2,h3,e1,fun x hx=>?_,by rw[e2.keys];exact nd⟩,e2,e3⟩;have all:∀{kvs:List (iO×iO)}{xs:List (iO×Addr×GE)},kyA kvs=true->PxV X.kd H kvs xs->∀x∈xs,(l8 X.prog X.w).is s.heap x.1 x.2.1:=by
  intro kvs xs hk p
  induction p with
  |nil=>intro x hx;cases hx
  | @cons q x0 qs xs0 h t ih =>
   rw[kyA,acM,aaL]at hk;intro x hx;obtain rfl|hx:=aal.mp hx
   .rw[<-h.1];exact I.ky hk.1 h.2.1
   .exact ih hk.2 x hx
 exact all hk e2 x hx
theorem Inv.dc0(I:Inv X pins σ H s)(rd:Rd H a (.dK [])):(a==abL)=false/\s.heap.DictOfH (l8 X.prog X.w) a []:=by
 obtain⟨_,hs,vs,kv,dd⟩:=BH I.hok rd;cases kv;obtain⟨o,ents,ep,h1,h2,h3,h4⟩:=dd;refine⟨hs,o,ents,ep,h1,h2,h3,?_,⟨(fun x hx=>absurd hx (by simp)),acQ⟩⟩;have e0:ents.toList=[]:=by
  obtain⟨_,hp,_⟩:=h4;exact abC (by have:=hp.length;simpa using this)
 rw[e0];rfl
theorem Mr(g:DenKK K H kvs es)(hk:kyA kvs=true):kvs=[]/\es=[]:=by
 cases kvs with
 |nil=>simp only[DenKK]at g;exact⟨rfl,g⟩
 |cons x r =>
  obtain⟨k,d⟩:=x;simp only[DenKK]at g;obtain⟨kk,v,vs,_,⟨ek,_⟩,_⟩:=g;rw[kyA,acM,aaL]at hk;have hk1:kyD k=true:=hk.1;rw[ek]at hk1
  cases kk<;>cases hk1
theorem Inv.dcX(I:Inv X pins σ H s)(h:IsDc X.kd H a kvs)(hk:kyA kvs=true):(a==abL)=false/\∃xs,s.heap.DictOfH (l8 X.prog X.w) a xs/\PxV X.kd H kvs xs:=by
 rcases h with⟨es,rd,g⟩|⟨es,rd,_,nd,g⟩
 .obtain⟨rfl,rfl⟩:=Mr g hk;obtain⟨hs,dd⟩:=I.dc0 rd;exact⟨hs,[],dd,.nil⟩
 .obtain⟨hs,_,xs,dd,p,_⟩:=I.dcE rd g nd hk;exact⟨hs,xs,dd,p⟩
theorem PxV.val{xs:List (iO×Addr×GE)}{k:iO}(hk:kyA kvs=true)(hkk:kyD k=true)(p:PxV K H kvs xs) :
  (fO k kvs=none/\atKey xs k=none)\/∃d v q,fO k kvs=some d/\atKey xs k=some q/\Den K H d v/\RelV v q.2:=by
 induction p with
 |nil=>exact(.inl ⟨rfl,rfl⟩)
 | @cons x q xs0 qs h t ih =>
  rw[kyA,acM,aaL]at hk;obtain⟨k',d⟩:=x;obtain⟨h1,h2,v,h3,h4⟩:=h;have h1':k'=q.1:=h1;have he:aaw k' k=decide (k'=k):=qB _ _ (ld hk.1) (ld hkk);unfold fO
  by_cases e:k'=k
  .have b:atKey (q::qs) k=some q.2:=by simp[atKey,ab6,<-h1',e]
   rw[he,decide_eq_true e,if_pos rfl];exact .inr ⟨d,v,q.2,rfl,b,h3,h4⟩
  .have b:atKey (q::qs) k=atKey qs k:=by simp[atKey,ab6,<-h1',e]
   rw[he,decide_eq_false e,if_neg (by decide),b];exact ih hk.2
theorem DenKK.val(g:DenKK K H kvs es) :
  (fO (keyD kk) kvs=none/\valV es kk=none)\/∃d v,fO (keyD kk) kvs=some d/\valV es kk=some v/\Den K H d v:=by
 induction kvs generalizing es with
 |nil=>simp only[DenKK]at g;subst g;exact .inl ⟨rfl,rfl⟩
 |cons x r ih =>
  obtain⟨k,d⟩:=x;simp only[DenKK]at g;obtain⟨k0,v,vs,rfl,⟨rfl,_⟩,g1,g2⟩:=g;unfold fO;rw[zP]
  by_cases e:k0=kk
  .rw[decide_eq_true e,if_pos rfl];exact .inr ⟨d,v,rfl,ju (p:=(k0,v)) e,g1⟩
  .rw[decide_eq_false e,if_neg (by decide),jx (p:=(k0,v)) e];exact ih g2
theorem yp{k:iO}(h:oneK kvs k=true):(isKd kvs=true/\kdD k=true)\/(kyA kvs=true/\kyD k=true):=by
 unfold oneK at h;rw[aed,aaL,aaL]at h;exact h
theorem Inv.dcT(I:Inv X pins σ H s)(h:IsDc X.kd H a kvs):s.TypeIs (.ref a) "dict" /\ ∀b,adG a = .ref b->∃ob,s.heap.get? b=some ob/\ob.dict=none:=by
 rcases h with⟨es,rd,g⟩|⟨es,rd,_,nd,g⟩
 .obtain⟨_,hs,vs,kv,o,_,_,h1,h2,_⟩:=BH I.hok rd;exact⟨⟨o,h1,h2.1⟩,fun b e=>by cases e;exact⟨o,h1,h2.2.1⟩⟩
 .obtain⟨⟨hs,hz,o,ents,ep,h1,h2,h3,h4⟩,_⟩:=(show ObjOk X.prog X.w H s.heap a (dX a es)from rd.ok I.hok);exact⟨⟨o,h1,h2.1⟩,fun b e=>by cases e;exact⟨o,h1,h2.2.1⟩⟩
theorem Jd(h:Den K H (keyD kk) y):y=kV kk:=by
 cases kk with
 |inl i=>exact aM h
 |inr x=>exact bx h
section
variable {a:Addr}{kvs:List (iO×iO)}{k:iO}{y z:V}{u dflt:GE}{A:abx}{E:GE->aaa->Prop}
theorem Gw{Q:GE->aaa->Prop}(hu:A.units+64<cLine)(I:Inv X pins σ H s)(h:IsDc X.kd H a kvs)(ok:oneK kvs k=true)(hk:Den X.kd H k y)(ry:RelV y u)(rz:RelV z dflt)
  (fin:∀v w' s',Inv X pins σ H s'->RelV v w'->((∃d,fO k kvs=some d/\Den X.kd H d v)\/(fO k kvs=none/\v=z))->Q w' s'):wpAny (model X.prog X.w) A (call (.builtin "dict.get") [.ref a,u,dflt]) Q E s:=by
 have hT:=(I.dcT h).1;rcases yp ok with⟨o1,o2⟩|⟨o1,o2⟩
 .obtain⟨kk,rfl⟩:=sE o2;have ey:=Jd hk;subst ey;rcases h with⟨es,rd,g⟩|⟨es,rd,kd,nd,g⟩
  .obtain⟨z0,hd,vs,rel,dd⟩:=BH I.hok rd;refine ahE aeB hT agq (af6 _ _ _) (meets_dict_get_default (cq X.prog X.w) a (Jx ry) hd dflt) ⟨_,dd.mapOf,?_⟩;have rv:=rel.val kk;rcases g.val (kk:=kk)with⟨e1,e2⟩|⟨d,v,e1,e2,e3⟩
   .rw[e2]at rv;have e4:afH vs kk=none:=RelO.none_of rv;show Q ((afH vs kk).getD dflt) _;rw[e4];exact fin z dflt _ (I.tok _) rz (.inr ⟨e1,rfl⟩)
   .rw[e2]at rv;obtain⟨w',e4,e5⟩:=RelO.some_of rv;show Q ((afH vs kk).getD dflt) _;rw[e4];exact fin v w' _ (I.tok _) e5 (.inl ⟨d,e1,e3⟩)
  .rw[o1]at kd;cases kd
 .obtain⟨hs,xs,dd,p⟩:=I.dcX h o1;obtain⟨b,rfl⟩:=xL o2 hk
  cases (show u=adG b from ry)
  refine ahE aeB hT agq (af6 _ _ _) (meetsH_dict_get_default (l8 X.prog X.w) a b hs dflt) ⟨(by show A.units+1+20<cLine;omega),k,xs,I.ky o2 hk,dd,?_⟩;rcases p.val o1 o2 with⟨e1,e2⟩|⟨d,v,q,e1,e2,e3,e4⟩
  .rw[e2];exact fin z dflt _ (I.tok _) rz (.inr ⟨e1,rfl⟩)
  .rw[e2];exact fin v q.2 _ (I.tok _) e4 (.inl ⟨d,e1,e3⟩)
end
end
section
variable {X:Cx}{a:Expr}{wa:WE}{pos:Pos}
def JS:WE:=fun m K=>K (.newT (.dict [])) m
theorem JV:ME X (.Dict [] [] pos) JS:=pe_dnewK.wk fun σ H Q ⟨α,m,Kc,Rl,hw,fin⟩=>by
 intro p hp;refine fin _ m _ _ hw rfl (Rl.lay hp) ⟨[([],p)],p,rfl,rfl,by simp,fun b hb=>by simp at hb;subst hb;exact hp,⟨⟨_,.ref p,rfl,?_,p,rfl,rfl⟩,fun b hb=>by simp at hb;subst hb;exact⟨_,av,rfl⟩⟩⟩ (cC hp);simp only[TAt];refine .inr (.inr (.inl ⟨rfl,rfl,p,[],rfl,rfl,av,?_⟩));simp only[TAtK]
theorem mi:EE X (.Dict [] [] pos) JS:=⟨JV⟩
end
section
variable {m:MSt}{K:R->MSt->Prop}{w:WE}{P:iO->Prop}
theorem xp(h:K (.newT (.dict [])) m):JS m K:=h
end
section
variable {X:Cx}{o e e2:Expr}{es:List Expr}{wo:WE}{ws:WA}{apos cpos:Pos}
def Nu(K:Kd)(to:TE)(t:TA):TE:=fun σ H Q=>to σ H fun x H1=>∃a kvs0,x = .ref a/\IsDc K H1 a kvs0/\t σ H1 fun xs H2=>∃kvs k y z,xs=[y,z]/\IsDc K H2 a kvs/\oneK kvs k=true/\Den K H2 k y/\∀v,((∃d,fO k kvs=some d/\Den K H2 d v)\/(fO k kvs=none/\v=z))->Q v H2
theorem AK{to:TE}{t:TA}(hu:X.A.units+64<cLine)(ho:PE X o to)(ha:PA X (e::es) t)
  (hbase:abG o "get" X.env (eval o X.env)=eval o X.env:=by rfl)
  (hfew:((ace cpos (aao (e::es) X.env)).all (fun x=>!x.1)&&(afk cpos (adO [] X.env)).all (fun x=>x.1.isSome)
   && decide ((e::es).length+([]:List adr).length+(if ([]:List adr).isEmpty then 0 else 1)<30))=true:=by rfl)
  (hline:(apos.endLine==cpos.line)=true:=by rfl) (hs:aao (e::es) X.env=(false,eval e X.env)::aao es X.env:=by rfl) (hplain:(ace cpos (aao es X.env)).any (·.1)=false:=by rfl) :
  PE X (.Call (.Attribute o "get" apos) (e::es) [] cpos) (Nu X.kd to t):=by
 intro pins s σ H Q I h;refine agm hbase hfew hline rfl (thn (ho pins s σ H _ I h) fun v s1 ⟨x,H1,I1,r1,q1⟩=>?_);obtain⟨a,kvs0,rfl,dc0,q1⟩:=q1
 cases (show v=adG a from r1)
 obtain⟨h1,h2⟩:=I1.dcT dc0;refine⟨"dict","dict.get",aem,aeB,PySem.F.type_dict_get,h1,h2,?_⟩;have hA:=ha cpos pins s1 σ H1 _ I1 q1;rw[hs]at hA⊢;refine adt (by show(false||(ace cpos (aao es X.env)).any (·.1))=false;rw[hplain]<;>rfl) (agL ?_);refine thn hA fun us s2 ⟨vs,H2,I2,r2,q2⟩=>?_;obtain⟨kvs,k,y,z,rfl,dc,ok,hk,fin⟩:=q2
 cases r2 with
 | cons ry r2 =>
  cases r2 with
  |cons rz r2 =>
   cases r2;exact Gw hu I2 dc ok hk ry rz fun v w' s' I' rv hv=>⟨v,H2,I',rv,fin v hv⟩
def ym(wo:WE)(ws:WA):WE:=fun m K=>wo m fun ro m1=>∃kvs0,dcM m1 kvs0 ro/\(isKd kvs0=true\/kyA kvs0=true)/\ws m1 fun rs m2=>∃kvs k z,rs=[.imm k,.imm z]/\dcM m2 kvs ro/\oneK kvs k=true/\K (.imm ((fO k kvs).getD z)) m2
theorem Bf(hu:X.A.units+64<cLine)(ho:ME X o wo)(ha:MA X (e::es) ws)
  (hbase:abG o "get" X.env (eval o X.env)=eval o X.env:=by rfl)
  (hfew:((ace cpos (aao (e::es) X.env)).all (fun x=>!x.1)&&(afk cpos (adO [] X.env)).all (fun x=>x.1.isSome)
   && decide ((e::es).length+([]:List adr).length+(if ([]:List adr).isEmpty then 0 else 1)<30))=true:=by rfl)
  (hline:(apos.endLine==cpos.line)=true:=by rfl) (hs:aao (e::es) X.env=(false,eval e X.env)::aao es X.env:=by first|exact aV rfl|rfl) (hplain:(ace cpos (aao es X.env)).any (·.1)=false:=by rfl) :
  ME X (.Call (.Attribute o "get" apos) (e::es) [] cpos) (ym wo ws):=(AK hu ho ha hbase hfew hline hs hplain).wk fun σ H Q ⟨α,m,Kc,Rl,hw,fin⟩=>by
 refine⟨α,m,_,Rl,hw,fun r m1 v H1 k n1 Rl1 rr F1=>?_⟩;obtain⟨kvs0,e0,k0,k⟩:=k;obtain⟨a,rfl,dc0⟩:=RelR.dc Rl1 rr e0 k0;refine⟨a,kvs0,rfl,dc0,α,m1,_,Rl1,k,fun rs m2 vs H2 k2 n2 Rl2 rr2 F2=>?_⟩;obtain⟨kvs,kk,z,rfl,e1,ok,k2⟩:=k2;have hk:isKd kvs=true\/kyA kvs=true:=by
  rcases yp ok with z|z
  .exact .inl z.1
  .exact .inr z.1
 obtain⟨a',ea,dc⟩:=RelR.dc Rl2 (rr.keep Rl Rl1 F2) e1 hk;cases ea
 cases rr2 with
 | cons hy rr2 =>
  cases rr2 with
  |cons hz rr2 =>
   cases rr2;refine⟨kvs,kk,_,_,rfl,dc,ok,hy,fun v hv=>fin _ m2 v H2 k2 (n2.trans n1) Rl2 ?_ (F1.trans F2)⟩;rcases hv with⟨d,ed,hd⟩|⟨ed,rfl⟩
   .rw[ed];exact hd
   .rw[ed];exact hz
theorem fJ(hu:X.A.units+64<cLine)(ho:EE X o wo)(ha:EA X (e::es) ws)
  (hbase:abG o "get" X.env (eval o X.env)=eval o X.env:=by rfl)
  (hfew:((ace cpos (aao (e::es) X.env)).all (fun x=>!x.1)&&(afk cpos (adO [] X.env)).all (fun x=>x.1.isSome)
   && decide ((e::es).length+([]:List adr).length+(if ([]:List adr).isEmpty then 0 else 1)<30))=true:=by rfl)
  (hline:(apos.endLine==cpos.line)=true:=by rfl) (hs:aao (e::es) X.env=(false,eval e X.env)::aao es X.env:=by first|exact aV rfl|rfl) (hplain:(ace cpos (aao es X.env)).any (·.1)=false:=by rfl) :
  EE X (.Call (.Attribute o "get" apos) (e::es) [] cpos) (ym wo ws):=⟨Bf hu ho.h ha.h hbase hfew hline hs hplain⟩
end
section
variable {X:Cx}{iter:Expr}{wo:WE}{w:WS}{body:List Stmt}{pos np:Pos}{x:Str}{i0:Nat}
theorem kl{ws:WA}{m:MSt}{Q:R->MSt->Prop}(h:wo m fun ro m1=>∃kvs0,dcM m1 kvs0 ro/\(isKd kvs0=true\/kyA kvs0=true)/\ws m1 fun rs m2=>∃kvs k z,rs=[.imm k,.imm z]/\dcM m2 kvs ro/\oneK kvs k=true/\Q (.imm ((fO k kvs).getD z)) m2):ym wo ws m Q:=h
end
end L2
set_option maxHeartbeats 1100000
namespace L2
open PySem PySem.Spec PyProof.Rows
open Sem (wp)
variable{Q:GE->aaa->Prop}{H:Hp}{a:Addr}{o:Obj}{es:List (V×V)}{w:World}{K:Kd}{kvs:List (iO×iO)}{P:List (iO×iO)->Prop}
structure EntAt(h:aa4)(d:Addr)(es:Array acm)(ep:Nat):Prop where
 ex:∃o,h.get? d=some o/\o.ExactDict/\o.data = .dict es ep
section
variable {prog:aaW}{w:World}{A:abx}{E:GE->aaa->Prop}{s:aaa}{it d:Addr}{es:Array acm}{i ep:Nat}{ok ov:GE}
theorem p6{Q:String->aaa->Prop}(hT:s.TypeIs (.ref it) "dict_itemiterator")(h:Q "dict_itemiterator" s):wpAny (model prog w) A (typeNameOfWhole (.ref it)) Q E s:=wpAny_typeNameOfWhole_itemiter hT h
theorem vy{j n:Nat}{k v:GE}(hit:acz s.heap it d j n ep ok ov)
  (hQ:∀h',afO h' it d j n ep k v s.heap.objs.size->h'.get? s.heap.objs.size=some {cls:=.type "tuple",data:=.seq #[k,v]}->h'.objs.size=s.heap.objs.size+1 ->
   (∀b o,b≠it->s.heap.get? b=some o->h'.get? b=some o)->Q (.ref s.heap.objs.size) {s with heap:=h' }):wpAny (model prog w) A (ach (.ref it) 6 k v) Q E s:=by
 have lt:it<s.heap.objs.size:=aan hit;rcases s with⟨hp,g,dr,tk,os⟩;refine gE (m:=ahC [k,v]) (aeu ?_);have z0:(hp.push {cls:=.type "tuple",data:=.seq #[k,v]}).objs.size=hp.objs.size+1:=abE ..;have t0:(hp.push {cls:=.type "tuple",data:=.seq #[k,v]}).get? hp.objs.size=some {cls:=.type "tuple",data:=.seq #[k,v]}:=aar _ rfl;have k0:∀b o,hp.get? b=some o->(hp.push {cls:=.type "tuple",data:=.seq #[k,v]}).get? b=some o:=fun b o q=>OR _ q;have i0:acz (hp.push {cls:=.type "tuple",data:=.seq #[k,v]}) it d j n ep ok ov:=k0 _ _ hit;show wpAny _ _ (ab2 (.ref it) >>= _) _ _ ⟨hp.push {cls:=.type "tuple",data:=.seq #[k,v]},g,dr,tk,os⟩;generalize hp.push {cls:=.type "tuple",data:=.seq #[k,v]}=q0 at z0 t0 k0 i0;refine gE (m:=ab2 (.ref it)) ?_;refine gE (m:=field (.ref it) 0) (abc i0 rfl (x:=.none) rfl (aac ?_));refine gE (m:=field (.ref it) 6) (abc i0 rfl (x:=ok) rfl (gE (m:=field (.ref it) 7) (abc i0 rfl (x:=ov) rfl ?_)));refine gE (m:=ac7 (.ref it) 6 k) (aaM i0 (by simp) fun q1 i1 s1=>?_);have i1':acz q1 it d j n ep k ov:=i1;refine gE (m:=ac7 (.ref it) 7 v) (aaM i1' (by simp) fun q2 i2 s2=>?_);have i2':acz q2 it d j n ep k v:=i2;refine gE (m:=ac7 (.ref it) 0 (adI hp.objs.size)) (aaM i2' (by simp) fun q3 i3 s3=>?_);have i3':afO q3 it d j n ep k v hp.objs.size:=i3;refine gE (m:=ac7 (.ref it) 1 (.bool false)) (aaM i3' (by simp) fun q4 i4 s4=>?_);have i4':afO q4 it d j n ep k v hp.objs.size:=i4;have up:∀b o,b≠it->q0.get? b=some o->q4.get? b=some o:=fun b o nb q=>s4.extBut b o nb (s3.extBut b o nb (s2.extBut b o nb (s1.extBut b o nb q)));have zz:q4.objs.size=q0.objs.size:=by rw[s4.1,s3.1,s2.1,s1.1]
 exact gE (m:=letGo _ _) (afF (aac (hQ q4 i4' (up _ _ (abJ lt) t0) (zz.trans z0) fun b o nb q=>up b o nb (k0 b o q))))
theorem p7{Q:Option GE->aaa->Prop}(hit:acz s.heap it d i es.size ep ok ov)(he:EntAt s.heap d es ep)(hi:i<es.size)
  (hQ:∀h',afO h' it d (i+1) es.size ep es[i].key es[i].val s.heap.objs.size->h'.get? s.heap.objs.size=some {cls:=.type "tuple",data:=.seq #[es[i].key,es[i].val]}->h'.objs.size=s.heap.objs.size+1 ->
   (∀b o,b≠it->s.heap.get? b=some o->h'.get? b=some o)->Q (some (.ref s.heap.objs.size)) {s with heap:=h' }):wpAny (model prog w) A (acF (.ref it)) Q E s:=by
 obtain⟨od,hod,hcd,hdd⟩:=he.ex;have hT:s.TypeIs (.ref it) "dict_itemiterator" :=(⟨_,hit,rfl⟩);have own:abF "dict_itemiterator" = true:=by decide
 unfold acF;refine gE (adg (aaY (name:=ab3 "__next__") hT aa7 (aa0 aa7 hT acp ?_ (aci _))))
 wp_walk using p6 hT,afr hit rfl,ac8 hod hdd,adF hod hdd,abf hT
 have eg:(if (i:Int)<0 then none else es[((i:Nat):Int).toNat]?)=some es[i]:=by
  rw[if_neg (by omega),aba,acj hi]
 rw[eg];rcases s with⟨hp,g,dr,tk,os⟩;refine gE ?_;refine gE (p6 hT (aac ?_));refine gE (m:=afs _ _) (abf hT ?_);show wpAny _ _ (ac7 (.ref it) 3 (adI ((i:Int)+1)) >>= _) _ _ _;refine gE (aaM hit (by simp) fun h1 e1 s1=>?_);replace s1:abw it hp h1:=s1;have e1':acz h1 it d (i+1) es.size ep ok ov:=by
  have q:((i+1:Nat):Int)=(i:Int)+1:=rfl;unfold acz;rw[q];simpa[adI]using e1
 have T1:afP ⟨h1,g,dr,tk,os⟩ (.ref it) "dict_itemiterator" :=(⟨_,e1',rfl⟩);refine gE (abZ (gE (abf T1 (gE (abf T1 ?_)))));show wpAny _ _ (ach (.ref it) 6 es[i].key es[i].val) _ _ ⟨h1,g,dr,tk,os⟩;have z1:h1.objs.size=hp.objs.size:=s1.1;refine vy e1' fun h2 e2 t2 z2 k2=>?_;rw[z1]at e2 t2 z2⊢;exact aac ⟨_,rfl,aac (hQ h2 e2 t2 z2 fun b o nb q=>k2 b o nb (s1.extBut b o nb q))⟩
theorem qv{Q:Option GE->aaa->Prop}(hh:A.handled=none)(hit:acz s.heap it d i es.size ep ok ov)(he:EntAt s.heap d es ep)(hi:es.size≤i)
  (hQ:∀h',(∀b o,b≠it->s.heap.get? b=some o->h'.get? b=some o)->Q none {s with heap:=h' }):wpAny (model prog w) A (acF (.ref it)) Q E s:=by
 obtain⟨od,hod,hcd,hdd⟩:=he.ex;have hT:s.TypeIs (.ref it) "dict_itemiterator" :=(⟨_,hit,rfl⟩);have own:abF "dict_itemiterator" = true:=by decide
 unfold acF;refine gE (adg (aaY (name:=ab3 "__next__") hT aa7 (aa0 aa7 hT acp ?_ (aci _))))
 wp_walk using p6 hT,afr hit rfl,ac8 hod hdd,adF hod hdd,abf hT
 have eg:(if (i:Int)<0 then none else es[((i:Nat):Int).toNat]?)=none:=by
  rw[if_neg (by omega),aba,agr hi]
 rw[eg];refine gE (gE (p6 hT (aac ?_)));refine gE (m:=ac7 (.ref it) 2 .none) (aaM hit (by simp) fun h1 e1 s1=>?_);refine mj hh fun h2 e k2 ⟨oe,q1,q2⟩=>?_;exact gE (adm (T := "StopIteration") (b:=true) ⟨oe,q1,q2⟩ afp (aac (hQ h2 fun b o nb q=>k2 b o (s1.extBut b o nb q))))
theorem EntAt.keep{h h':aa4}(x:EntAt h d es ep)(k:∀o,h.get? d=some o->h'.get? d=some o):EntAt h' d es ep:=let ⟨o,a,b,c⟩:=x.ex;⟨o,k o a,b,c⟩
theorem EntAt.ty(x:EntAt s.heap d es ep):s.TypeIs (.ref d) "dict" :=let ⟨o,a,b,_⟩:=x.ex;⟨o,a,b.1⟩
theorem lQ(hd:(d==abL)=false)(he:EntAt s.heap d es ep)(h:Q (.ref s.heap.objs.size) {s with heap:=s.heap.push {cls:=.type "dict_items",data:=.fields #[.ref d]} }):wpAny (model prog w) A (call (.builtin "dict.items") [.ref d]) Q E s:=by
 refine ahE (S:=fun _ R s=>EntAt s.heap d es ep/\R (.ok (.ret (.ref s.heap.objs.size))) {s with heap:=s.heap.push {cls:=.type "dict_items",data:=.fields #[.ref d]} }) aen he.ty PySem.F.entry_dict_items (PySem.F.args_dict_items_1 _) (.of_wp fun A R s ⟨hm,h⟩=>?_) ⟨he,h⟩;unfold ac4.«dict.items» ac4.Dict.noArgs;refine gE (gE (agI hm.ty ?_));refine aac ?_;refine gE (m:=agJ d) ?_;unfold agJ;rw[hd];exact aac (gE (aa9 (aac ⟨_,rfl,h⟩)))
theorem vI{v:Addr}(hv:s.heap.get? v=some {cls:=.type "dict_items",data:=.fields #[.ref d]})(he:EntAt s.heap d es ep)
  (hQ:∀h',acz h' s.heap.objs.size d 0 es.size ep .none .none->(∀b o,s.heap.get? b=some o->h'.get? b=some o)->Q (.ref s.heap.objs.size) {s with heap:=h' }):wpAny (model prog w) A (afh (.ref v)) Q E s:=by
 obtain⟨od,hod,hcd,hdd⟩:=he.ex;have hT:s.TypeIs (.ref v) "dict_items" :=(⟨_,hv,rfl⟩);have own:abF "dict_itemiterator" = true:=by decide
 refine afJ hT acA (aa0 acA hT aeS ?_ (aeH _));unfold ac4.«dict_items.__iter__» afy aeI;refine gE (aac (gE (gE (abc hv rfl (x:=.ref d) rfl (aac (gE (gE (ac8 hod hdd (gE (adF hod hdd ?_))))))))));simp only[own,if_true];refine aa9 (aac ⟨_,rfl,"dict_itemiterator",_,⟨_,aar _ rfl,rfl⟩,acN.lookup,?_⟩) (by simp only[sizeOk,ad8,aas,aap,aaD,adE,aav];omega);exact hQ _ (aar _ rfl) fun b o q=>OR _ q
end
def DcE(H:Hp)(a:Addr)(o:Obj)(es:List (V×V)):Prop:=(∃xs,H a=some (.frz o (dX a xs))/\es=xs.map (·.2))\/∃xs,H a=some (.frz o (.dK xs))/\es=xs.map fun p=>(kV p.1,p.2)
theorem DcE.mono{H':Hp}(p:Pers H H')(h:DcE H a o es):DcE H' a o es:=by
 rcases h with⟨xs,e,q⟩|⟨xs,e,q⟩
 .exact .inl ⟨xs,p.frzs _ _ _ e,q⟩
 .exact .inr ⟨xs,p.frzs _ _ _ e,q⟩
section
variable {X:Cx}{pins:List (Addr×Obj)}{σ:St}{H:Hp}{s:aaa}
theorem Im{P:aaW}{kk:Key}{u:GE}(e:(cq P w).is kk u=true):RelV (kV kk) u:=by
 rcases bA e with⟨i,t,rfl,rfl⟩|⟨x,t,rfl,rfl⟩
 .exact⟨t,rfl⟩
 .exact⟨t,rfl⟩
theorem Inv.dce(I:Inv X pins σ H s)(h:DcE H a o es):(a==abL)=false/\∃ents ep,s.heap.get? a=some o/\o.ExactDict/\o.data = .dict ents ep/\abV (fun(e:V×V) (d:acm)=>RelV e.1 d.key/\RelV e.2 d.val) es ents.toList:=by
 rcases h with⟨xs,e,rfl⟩|⟨xs,e,rfl⟩
 .obtain⟨ho,⟨hs,hz,o',ents,ep,h1,h2,h3,h4⟩,_⟩:=(show ObjOk X.prog X.w H s.heap a (.frz o (dX a xs))from I.hok a _ e);rw[ho]at h1;cases h1;refine⟨hs,ents,ep,ho,h2,h3,?_⟩;clear e hz;generalize ents.toList=l at h4;rename_i zz;clear zz
  induction h4 with
  |nil=>exact .nil
  |cons q _ ih=>exact .cons q.2 ih
 .obtain⟨ho,hz,hs,vs,kv,o',ents,ep,h1,h2,h3,h4,h5,h6⟩:=(show ObjOk X.prog X.w H s.heap a (.frz o (.dK xs))from I.hok a _ e);rw[ho]at h1;cases h1;refine⟨hs,ents,ep,ho,h2,h3,?_⟩;generalize ents.toList=l at h5;clear h6 h4 h3 h2 hz e
  induction kv generalizing l with
  |nil=>cases h5;exact .nil
  | cons q _ ih =>
   cases h5 with
   |cons p1 p2 p3 =>
    rw[aai];refine .cons ⟨?_,?_⟩ (ih _ p3)
    .rw[<-q.1]at p1;exact Im p1
    .rw[p2];exact q.2
end
def Itm(a:Addr)(o:Obj)(es:List (V×V)):It where
 go:=fun i H=>DcE H a o es/\i<es.length
 yld:=fun i H v H'=>∃T p,v = .ref T/\H T=none/\H'=upd H T (.tup [p.1,p.2])/\es[i]?=some p
 stop:=fun i H=>DcE H a o es/\es.length≤i
theorem Paired.at{α β:Type}{R:α->β->Prop}:∀{xs:List α}{ys:List β}{i:Nat}{y:β},abV R xs ys->ys[i]?=some y->∃x,xs[i]?=some x/\R x y
 |_,_,i,y,.nil,e=>by simp at e
 |_,_,0,y,.cons h _,e=>by simp at e;subst e;exact⟨_,rfl,h⟩
 |_,_,i+1,y,.cons _ t,e=>by
  obtain⟨x,h1,h2⟩:=Paired.at t (i:=i) (by simpa using e);exact⟨x,by simpa using h1,h2⟩
theorem Dn:entryFor table "dict_itemiterator.__iter__" = some ac4.«dict_keyiterator.__iter__»:=entryFor_alias (id' := "dict_keyiterator.__iter__") (by kernel_rfl) (by rfl) (by decide +kernel) (by kernel_rfl)
theorem Ay{prog:aaW}{A:abx}{E:GE->aaa->Prop}{s:aaa}{it d:Addr}{i n ep:Nat}{ok ov:GE}(st:acz s.heap it d i n ep ok ov)(h:Q (.ref it) s):wpAny (model prog w) A (afh (.ref it)) Q E s:=by
 have hT:s.TypeIs (.ref it) "dict_itemiterator" :=⟨_,st,rfl⟩;refine afJ hT ad9 (aa0 ad9 hT Dn ?_ (PySem.F.args_dict_itemiterator_iter_1 _));refine aac ⟨_,rfl,"dict_itemiterator",_,hT,acN.lookup,?_⟩;exact h
theorem vV{P:aaW}{K:aaj}{elts:List Expr}{x1:Nat}{pos:Pos}{it:Addr}{ents:Array acm}{ep:Nat}(ho:o.data = .dict ents ep):Turn P w K (.Tuple elts x1 pos) (Itm a o es) [it] it (fun i h=>∃ok ov,acz h it a i ents.size ep ok ov) where
 mem:=by simp
 obj:=fun i h st c hc=>by
  obtain⟨ok,ov,he⟩:=st
  cases aah.mp hc
  exact⟨_,he,fun v q=>by cases q⟩
 keep:=fun i h h' st k=>by
  obtain⟨ok,ov,he⟩:=st;exact⟨ok,ov,k it (by simp) _ he⟩
 item:=by
  intro X hP hw hK hc i pins s σ H E I hf st hg;subst hP hw hK;obtain⟨ok,ov,st⟩:=st;obtain⟨dc,hi⟩:=hg;obtain⟨_,ents',ep',g1,g2,g3,g4⟩:=I.dce dc;rw[ho]at g3;cases g3;have hl:es.length=ents.size:=by have:=g4.length;simpa using this
  have hi':i<ents.size:=by omega
  obtain⟨p,q1,q2,q3⟩:=Paired.at g4 (i:=i) (y:=ents[i]) (by simp[hi']);refine p7 st ⟨o,g1,g2,ho⟩ hi' fun h' a1 a2 a3 a4=>⟨.ref s.heap.objs.size,rfl,?_⟩;refine wpAny_letOwnedTupleGo_items (s:={s with heap:=h' }) a1 fun h2 b1 sb=>?_;have hfT:H s.heap.objs.size=none:=I.hok.fresh (Io _);have nz:it≠s.heap.objs.size:=aa6 (aan st);have up:∀c o,c≠it->h'.get? c=some o->h2.get? c=some o:=fun c o n q=>sb.extBut c o n q;have T2:h2.get? s.heap.objs.size=some {cls:=.type "tuple",data:=.seq #[ents[i].key,ents[i].val]}:=up _ _ (abz nz) a2;have I0:Inv X pins σ (upd H s.heap.objs.size (.tup [p.1,p.2])) {s with heap:=s.heap.push {cls:=.type "tuple",data:=.seq #[ents[i].key,ents[i].val]},toks:=s.toks} :=
   I.laid (o:=.tup [p.1,p.2]) (fun c o q=>OR _ q) (Io _) ⟨by show 2≤aam;rw[aav];decide,[ents[i].key,ents[i].val],.cons q2 (.cons q3 .nil),PlainT.new _ _⟩
  have Il:Inv X pins σ (upd H s.heap.objs.size (.tup [p.1,p.2])) {s with heap:=h2,toks:=s.toks}:=by
   refine Inv.turneds (s:={s with heap:=s.heap.push {cls:=.type "tuple",data:=.seq #[ents[i].key,ents[i].val]},toks:=s.toks}) (h':=h2) (t':=s.toks) (ch:=[it]) I0 (fun c o hc q=>?_) fun c hc=>?_
   .have hc':c≠it:=fun z=>hc (by simp[z]);rcases aeR q with⟨rfl,rfl⟩|q
    .exact T2
    .exact up c o hc' (a4 c o hc' q)
   .obtain⟨f0,f1⟩:=hf c hc
    cases aah.mp hc
    exact⟨by rw[am nz];exact f0,f1⟩
  refine⟨.ref s.heap.objs.size,upd H s.heap.objs.size (.tup [p.1,p.2]),Il,rfl,⟨_,p,rfl,hfT,rfl,q1⟩,⟨_,_,b1⟩,fun c hc=>?_⟩
  cases aah.mp hc
  rw[am nz];exact(hf _ hc).1
 done:=by
  intro X hP hw hK hc i pins s σ H E I hf st hg;subst hP hw hK;obtain⟨ok,ov,st⟩:=st;obtain⟨dc,hi⟩:=hg;obtain⟨_,ents',ep',g1,g2,g3,g4⟩:=I.dce dc;rw[ho]at g3;cases g3;have hl:es.length=ents.size:=by have:=g4.length;simpa using this
  exact qv (I.ok.hd hc) st ⟨o,g1,g2,ho⟩ (by omega) fun h' hk=>⟨rfl,I.turneds (t':=s.toks) (ch:=[it]) (fun c o hc q=>hk c o (fun z=>hc (by simp[z])) q) hf⟩
 self:=fun _ _ _ _ _ st h=>by
  obtain⟨ok,ov,st⟩:=st;exact Ay st h
theorem yO{K:Kd}{H:Hp}:∀{kvs:List (iO×iO)}{xs:List (Int×V×V)},DenKV K H kvs xs->abV (fun(p:iO×iO) (e:V×V)=>Den K H p.1 e.1/\Den K H p.2 e.2) kvs (xs.map (·.2))
 |[],_,h=>by simp only[DenKV]at h;subst h;exact .nil
 |(k,d)::r,_,h=>by
  simp only[DenKV]at h;obtain⟨u,v,vs,rfl,h1,h2,h3⟩:=h;exact .cons ⟨h1,h2⟩ (yO h3)
theorem yM{K:Kd}{H:Hp}:∀{kvs:List (iO×iO)}{xs:List (Key×V)},DenKK K H kvs xs->abV (fun(p:iO×iO) (e:V×V)=>Den K H p.1 e.1/\Den K H p.2 e.2) kvs (xs.map fun p=>(kV p.1,p.2))
 |[],_,h=>by simp only[DenKK]at h;subst h;exact .nil
 |(k,d)::r,_,h=>by
  simp only[DenKK]at h;obtain⟨kk,v,vs,rfl,⟨rfl,_⟩,h2,h3⟩:=h;refine .cons ⟨?_,h2⟩ (yM h3)
  cases kk with
  |inl i=>exact mF i
  |inr x=>exact wz x
abbrev PDc(K:Kd)(H:Hp):List (iO×iO)->List (V×V)->Prop:=abV fun p e=>Den K H p.1 e.1/\Den K H p.2 e.2
theorem PDc.mono{H':Hp}(p:Pers H H')(h:PDc K H kvs es):PDc K H' kvs es:=by
 induction h with
 |nil=>exact .nil
 |cons h _ ih=>exact .cons ⟨h.1.mono p,h.2.mono p⟩ ih
theorem NW{v:V}(h:Den K H (.dict kvs) v)(hk:isKd kvs=true\/kyA kvs=true):∃a o es,v = .ref a/\DcE H a o es/\PDc K H kvs es:=by
 obtain⟨n1,n2⟩:=qG hk;simp only[Den]at h;obtain⟨a,rfl,h⟩:=h;rcases h with⟨xs,⟨o,f⟩,kk,g⟩|⟨xs,o,f,g⟩|⟨c,xs,ec,_⟩
 .exact⟨a,o,_,rfl,.inl ⟨xs,f,rfl⟩,yO g⟩
 .exact⟨a,o,_,rfl,.inr ⟨xs,f,rfl⟩,yM g⟩
 .rw[n2]at ec;cases ec
def bG(kvs:List (iO×iO)):List iO:=kvs.map fun p=>.tuple [p.1,p.2]
theorem Paired.at1{α β:Type}{R:α->β->Prop}:∀{xs:List α}{ys:List β}{i:Nat}{x:α},abV R xs ys->xs[i]?=some x->∃y,ys[i]?=some y/\R x y
 |_,_,i,y,.nil,e=>by simp at e
 |_,_,0,y,.cons h _,e=>by simp at e;subst e;exact⟨_,rfl,h⟩
 |_,_,i+1,y,.cons _ t,e=>by
  obtain⟨x,h1,h2⟩:=Paired.at1 t (i:=i) (by simpa using e);exact⟨x,by simpa using h1,h2⟩
theorem xH:Wks K (Itm a o es) (bG kvs) fun H=>DcE H a o es/\PDc K H kvs es where
 stop:=fun H ⟨q,g⟩=>⟨q,by unfold bG;rw[oR,g.length];exact Io _⟩
 go:=fun i H hi ⟨q,g⟩=>⟨q,by unfold bG at hi;rw[oR,g.length]at hi;exact hi⟩
 yld:=fun i H x H' hi ⟨q,g⟩ y=>by
  obtain⟨T,u,rfl,hT,rfl,e1⟩:=y;obtain⟨p,h1,h2,h3⟩:=Paired.at g e1;have gr:∀b o,H b=some o->upd H T (.tup [u.1,u.2]) b=some o:=fun b o q=>by rw[am (bh q hT)];exact q
  have pe:Pers H (upd H T (.tup [u.1,u.2])):=⟨fun b xs q=>gr b _ q,fun b o u q=>gr b _ q⟩;exact⟨gr,.tuple [p.1,p.2],by unfold bG;rw[aak,h1];rfl,c5 (SqT.of av) (DenAll.cons (h2.mono pe) (DenAll.cons (h3.mono pe) DenAll.nil))⟩
section
variable {X:Cx}{tg o:Expr}{elts:List Expr}{x1:Nat}{tpos:Pos}{wo:WE}{apos cpos:Pos}
def PJ(to:TE):TI:=fun σ H Rq=>to σ H fun x H1=>∃a o es,x = .ref a/\DcE H1 a o es/\Rq (Itm a o es) H1
theorem CF{to:TE}(ho:PE X o to)(hbase:abG o "items" X.env (eval o X.env)=eval o X.env:=by rfl)(hline:(apos.endLine==cpos.line)=true:=by rfl):PI X (.Tuple elts x1 tpos) (.Call (.Attribute o "items" apos) [] [] cpos) (PJ to):=by
 intro pins s σ H Rq I h;refine af7 hbase hline (thn (ho pins s σ H _ I h) fun v s1 ⟨x,H1,I1,r1,q1⟩=>?_);obtain⟨a,ob,es,rfl,dc,q⟩:=q1;cases r1;obtain⟨hs,ents,ep,g1,g2,g3,g4⟩:=I1.dce dc;have he:EntAt s1.heap a ents ep:=⟨ob,g1,g2,g3⟩;refine⟨"dict","dict.items",aem,aen,af8,⟨ob,g1,g2.1⟩,fun b e=>by cases e;exact⟨ob,g1,g2.2.1⟩,adt rfl (ag7 (lQ hs he ?_))⟩;have k1:∀b o,s1.heap.get? b=some o->(s1.heap.push {cls:=.type "dict_items",data:=.fields #[.ref a]}).get? b=some o:=fun b o q=>OR _ q;refine vI (s:={s1 with heap:=s1.heap.push {cls:=.type "dict_items",data:=.fields #[.ref a]} }) (aar _ rfl) (he.keep fun o=>k1 _ o) fun h' Z hk=>?_;have hle:s1.heap.objs.size≤(s1.heap.push {cls:=.type "dict_items",data:=.fields #[.ref a]}).objs.size:=by rw[abE];omega
 refine⟨_,[_],_,_,H1,rfl,I1.kept (t':=s1.toks) fun b o q=>hk b o (k1 b o q),vV g3,⟨_,_,Z⟩,fun c hc=>?_,q⟩
 cases aah.mp hc
 exact I1.fpOk hle (I1.hok.fresh hle)
def onDc(P:List (iO×iO)->Prop):R->Prop
 | .imm (.dict kvs)=>(isKd kvs||kyA kvs)=true/\P kvs
 |_=>False
theorem Pi{α:Al}{H0:Hp}{r:R}{v:V}(h:RelR K α H0 H r v)(k:onDc P r):∃kvs a o es,v = .ref a/\DcE H a o es/\PDc K H kvs es/\P kvs:=by
 cases r with
 | imm d =>
  cases d with
  |dict kvs =>
   obtain⟨k1,k2⟩:=k;obtain⟨a,o,es,e1,e2,e3⟩:=NW (show Den K H (.dict kvs) v from h) (by rw[aed]at k1;exact k1);exact⟨kvs,a,o,es,e1,e2,e3,k2⟩
  |none=>exact k.elim
  |bool _=>exact k.elim
  |int _=>exact k.elim
  |str _=>exact k.elim
  |list _=>exact k.elim
  |tuple _=>exact k.elim
 |_=>exact k.elim
def re(wo:WE):WI:=fun m K=>wo m fun r m'=>onDc (fun kvs=>K ⟨bG kvs,none⟩ m') r
theorem Bq(ho:ME X o wo)(hbase:abG o "items" X.env (eval o X.env)=eval o X.env:=by rfl)(hline:(apos.endLine==cpos.line)=true:=by rfl):MI X (.Tuple elts x1 tpos) (.Call (.Attribute o "items" apos) [] [] cpos) (re wo):=(CF ho hbase hline).wk fun σ H Rq ⟨α,m,Kc,Rl,hw,fin⟩=>by
 refine⟨α,m,_,Rl,hw,fun r m' v H' k n Rl' rr F=>?_⟩;obtain⟨kvs,a,ob,es,rfl,dc,pd,k⟩:=Pi rr k;exact⟨a,ob,es,rfl,dc,fin _ m' _ H' k n Rl' F ⟨_,xH,⟨dc,pd⟩,fun Ha Hb ⟨x,y⟩ pe=>⟨x.mono pe,y.mono pe⟩⟩⟩
theorem qi(ho:EE X o wo)(hbase:abG o "items" X.env (eval o X.env)=eval o X.env:=by rfl)(hline:(apos.endLine==cpos.line)=true:=by rfl):EI X (.Tuple elts x1 tpos) (.Call (.Attribute o "items" apos) [] [] cpos) (re wo):=⟨Bq ho.h hbase hline⟩
theorem z9{m:MSt}{Ks:Src->MSt->Prop}(h:wo m fun r m'=>onDc (fun kvs=>Ks ⟨bG kvs,none⟩ m') r):re wo m Ks:=h
theorem u7(hk:(isKd kvs||kyA kvs)=true)(h:P kvs):onDc P (.imm (.dict kvs)):=⟨hk,h⟩
end
noncomputable def putX (k:iO) (b:Addr) (r:GE):List (iO×Addr×GE)->List (iO×Addr×GE)
 |[]=>[(k,b,r)]
 |x::xs=>if x.1=k then(x.1,x.2.1,r)::xs else x::putX k b r xs
theorem uT{k:iO}{r:GE}:∀{xs:List (iO×Addr×GE)},k∉xs.map (·.1)->xs.map (putAt k r)=xs
 |[],_=>rfl
 |x::xs,h=>by
  rw[aai,aal,not_or]at h;rw[aai,uT h.2];unfold putAt;rw[if_neg (fun z=>h.1 z.symm)]
theorem kj{k:iO}{b:Addr}{r:GE}:∀{xs:List (iO×Addr×GE)},(xs.map (·.1)).Nodup->storedH xs k b r=putX k b r xs
 |[],_=>rfl
 | x::xs,h=>by
  rw[aai,aaV]at h
  by_cases e:x.1=k
  .have a:atKey (x::xs) k=some x.2:=by simp[atKey,ab6,e]
   rw[storedH_old a,aai,uT (by rw[<-e];exact h.1)];unfold putX putAt;rw[if_pos e,if_pos e]
  .have a:atKey (x::xs) k=atKey xs k:=by simp[atKey,ab6,e]
   have ih:=kj (k:=k) (b:=b) (r:=r) h.2;unfold putX;rw[if_neg e,<-ih];unfold storedH;rw[a];split
   .rw[aai]
    congr 1
    unfold putAt;rw[if_neg e]
   .rfl
noncomputable def putE (w:World) (k:iO) (y v:V):List (iO×iO)->List (Int×V×V)->List (Int×V×V)
 |(k',_)::r,e::es=>if k'=k then(e.1,e.2.1,v)::es else e::putE w k y v r es
 |_,_=>[(dN w k,y,v)]
theorem wM{k d k' d':iO}{r:List (iO×iO)}(h:kyD k'=true)(hk:kyD k=true):putP k d ((k',d')::r)=if k'=k then(k',d)::r else(k',d')::putP k d r:=by
 show(if aaw k' k=true then _ else _)=_;rw[qB _ _ (ld h) (ld hk)]
 by_cases e:k'=k
 .rw[if_pos e,if_pos (decide_eq_true e)]
 .rw[if_neg e,if_neg (by rw[decide_eq_false e];decide)]
theorem vp(w:World)(k:iO)(y v:V):∀(kvs:List (iO×iO)) (es:List (Int×V×V)),kvs.length=es.length->(putE w k y v kvs es).length≤es.length+1
 |[],[],_=>Io _
 |(k',d')::r,e::es,h=>by
  unfold putE;split
  .simp
  .rw[aaD,aaD];have:=vp w k y v r es (by simpa using h);omega
 |[],_::_,h=>by simp at h
 |_::_,[],h=>by simp at h
theorem uk{K:Kd}{H:Hp}{k d:iO}{y v:V}(hk:kyD k=true)(dk:Den K H k y)(dd:Den K H d v):∀{kvs:List (iO×iO)}{es:List (Int×V×V)},kyA kvs=true->DenKV K H kvs es->DenKV K H (putP k d kvs) (putE K.w k y v kvs es)
 |[],es,_,g=>by
  simp only[DenKV]at g;subst g;show DenKV K H [(k,d)] [(dN K.w k,y,v)];simp only[DenKV];exact⟨y,v,[],rfl,dk,dd,rfl⟩
 |(k',d')::r,es,ha,g=>by
  rw[kyA,acM,aaL]at ha;simp only[DenKV]at g;obtain⟨u,v',vs,rfl,g0,g1,g2⟩:=g;rw[wM ha.1 hk];unfold putE
  by_cases e:k'=k
  .rw[if_pos e,if_pos e];simp only[DenKV];exact⟨u,v,vs,rfl,g0,dd,g2⟩
  .rw[if_neg e,if_neg e];simp only[DenKV];exact⟨u,v',_,rfl,g0,g1,uk hk dk dd ha.2 g2⟩
theorem JN{k:iO}{b:Addr}{v:V}{r:GE}(rv:RelV v r):∀{kvs:List (iO×iO)}{es:List (Int×V×V)}{xs:List (iO×Addr×GE)},xs.map (·.1)=kvs.map (·.1)->ExV w es xs->ExV w (putE w k (.ref b) v kvs es) (putX k b r xs):=by
 intro kvs
 induction kvs with
 |nil =>
  intro es xs hk ex;have:xs=[]:=by simpa using hk
  subst this;cases ex;exact .cons ⟨rfl,rfl,rv⟩ .nil
 | cons q kvs ih =>
  intro es xs hk ex;obtain⟨k',d'⟩:=q
  cases ex with
  |nil=>simp at hk
  |cons h t =>
   simp only[aai,agC]at hk;unfold putE putX
   by_cases c:k'=k
   .rw[if_pos c,if_pos (hk.1.trans c)];exact .cons ⟨h.1,h.2.1,rv⟩ t
   .rw[if_neg c,if_neg (fun z=>c (hk.1.symm.trans z))];exact .cons h (ih hk.2 t)
def DxM(K:Kd)(H:Hp)(a:Addr)(kvs:List (iO×iO))(es:List (Int×V×V)):Prop :=
 DenKV K H kvs es/\(kvs.map (·.1)).Nodup/\kyA kvs=true/\((H a=some (dX a es)/\kvs≠[])\/(H a=some (.dK [])/\kvs=[]))
section
variable {X:Cx}{pins:List (Addr×Obj)}{σ:St}{H:Hp}{s:aaa}{a:Addr}{kvs:List (iO×iO)}{es:List (Int×V×V)}{k d:iO}{y v:V}{u r:GE}{A:abx}{E:GE->aaa->Prop}
theorem DxM.is(I:Inv X pins σ H s)(h:DxM X.kd H a kvs es):(a==abL)=false/\∃xs,s.heap.DictOfH (l8 X.prog X.w) a xs/\PxV X.kd H kvs xs/\ExV X.w es xs:=by
 obtain⟨g,nd,ky,⟨q,_⟩|⟨q,rfl⟩⟩:=h
 .obtain⟨hs,_,xs,dd,p,e⟩:=I.dcE (.inl q) g nd ky;exact⟨hs,xs,dd,p,e⟩
 .obtain⟨hs,dd⟩:=I.dc0 (.inl q);simp only[DenKV]at g;subst g;exact⟨hs,[],dd,.nil,.nil⟩
theorem Fv{Q:Unit->aaa->Prop}(hu:A.units+20<cLine)(I:Inv X pins σ H s)(h:DxM X.kd H a kvs es)(hk:kyD k=true)(dk:Den X.kd H k y)(ry:RelV y u)(rv:RelV v r)(hl:kvs.length<aam)
  (fin:∀s',Inv X pins σ (upd H a (dX a (putE X.w k y v kvs es))) s'->Q () s'):wpAny (model X.prog X.w) A (dictSet a u r) Q E s:=by
 obtain⟨hs,xs,dd,px,ex⟩:=h.is I;obtain⟨b,rfl⟩:=xL hk dk
 cases (show u=adG b from ry)
 have le:es.length=kvs.length:=h.1.len.symm;have lx:xs.length=kvs.length:=by have:=congrArg aeO px.keys;simpa using this
 refine wpAny_dictSet_heap (knd:=l8 X.prog X.w) hu (I.ky hk dk) dd (fun h' dd' hsb=>fin _ ?_) (by omega);rw[kj (by rw[px.keys];exact h.2.1)]at dd';obtain⟨o,ents,ep,h1,h2,h3,h4,h5,h6⟩:=dd';have mu:Mut (H a):=by
  rcases h.2.2.2 with⟨q,_⟩|⟨q,_⟩
  .rw[q];exact trivial
  .rw[q];exact trivial
 refine rq I mu hsb ⟨o,h1⟩ ⟨⟨hs,?_,o,ents,ep,h1,h2,h3,?_⟩,⟨o,h1⟩,fun ha hb φ kk=>?_⟩
 .have:=vp X.w k (.ref b) v kvs es le.symm;omega
 .rw[h4];have:=JN (w:=X.w) (k:=k) (b:=b) rv px.keys ex;generalize putE X.w k (.ref b) v kvs es=l1 at this;generalize putX k b r xs=l2 at this;clear h4 h5 h6
  induction this with
  |nil=>exact .nil
  |cons q _ ih=>exact .cons ⟨q.1.symm,by rw[q.2.1];rfl,q.2.2⟩ ih
 .obtain⟨z1,z2,o',ents',ep',z3,z4⟩:=φ;exact⟨z1,z2,o',ents',ep',kk o' z3,z4⟩
theorem vM{Q:Unit->aaa->Prop}(hu:A.units+64<cLine)(I:Inv X pins σ H s)(h:DxM X.kd H a kvs es)(hk:kyD k=true)(dk:Den X.kd H k y)(ry:RelV y u)(rv:RelV v r)(hl:kvs.length<aam)
  (fin:∀s',Inv X pins σ (upd H a (dX a (putE X.w k y v kvs es))) s'->Q () s'):wpAny (model X.prog X.w) A (ag1 (.ref a) u r) Q E s:=by
 obtain⟨hs,xs,dd,px,ex⟩:=h.is I;unfold ag1;refine abZ ?_;refine gE (afB dd.typeIs (by decide) ?_);refine gE (aaY (name:=ab3 "__setitem__") dd.typeIs slot_dict_setitem (aa0 slot_dict_setitem dd.typeIs entry_dict_setitem ?_ (args_dict_setitem _ _ _)));refine gE (m:=ac4.Dict.notOrdered "__setitem__" _) (agI dd.typeIs ?_);refine gE (m:=dictSet a u r) (Fv (A:=A.in1) (by show A.units+1+20<cLine;omega) I h hk dk ry rv hl fun s' I'=>aac ⟨.none,rfl,aac (fin s' I')⟩)
end
def Lq(K:Kd)(td ty tv:TE):TS:=fun D σ H=>tv σ H fun v H1=>td σ H1 fun x H2=>ty σ H2 fun y H3=>∃a kvs es k,x = .ref a/\DxM K H3 a kvs es/\kyD k=true/\Den K H3 k y/\kvs.length<aam/\D.nx σ (upd H3 a (dX a (putE K.w k y v kvs es)))
section
variable {X:Cx}{o i e:Expr}{wo wi we:WE}{pos pos':Pos}{td ty tv:TE}
theorem Ba(hu:X.A.units+64<cLine)(ho:PE X o td)(hi:PE X i ty)(hv:PE X e tv)(hs:abY e (some (.Subscript o i pos')) pos.line X.env=pure false):PS X (.Assign [.Subscript o i pos'] e pos) (Lq X.kd td ty tv):=by
 intro pins s σ H D I h;refine agp (thn (hv pins s σ H _ I h) fun r s1 ⟨v,H1,I1,rv,q1⟩=>thn (ho pins s1 σ H1 _ I1 q1) fun u s2 ⟨x,H2,I2,rx,q2⟩=>thn (hi pins s2 σ H2 _ I2 q2) fun iv s3 ⟨y,H3,I3,ry,a,kvs,es,k,ex,dx,ky,dk,hl,q3⟩=>?_) hs;subst ex;obtain rfl:u=adG a:=rx;exact vM hu I3 dx ky dk ry rv hl fun s4 I4=>⟨σ,_,I4,q3⟩
theorem jM{k d:iO}(hk:kyD k=true):∀{kvs:List (iO×iO)},kyA kvs=true->(putP k d kvs).map (·.1)=if k∈kvs.map (·.1)then kvs.map (·.1)else kvs.map (·.1)++[k]
 |[],_=>rfl
 | (k',d')::r,h=>by
  rw[kyA,acM,aaL]at h;rw[wM h.1 hk]
  by_cases e:k'=k
  .rw[if_pos e,if_pos (by simp[e])];rfl
  .rw[if_neg e,aai,jM hk h.2]
   by_cases c:k∈r.map (·.1)
   .rw[if_pos c,if_pos (by simp[c])];rfl
   .rw[if_neg c,if_neg (by simp only[aai,aal,not_or];exact⟨fun z=>e z.symm,c⟩)];rfl
theorem vq{k d:iO}(hk:kyD k=true)(h:kyA kvs=true)(nd:(kvs.map (·.1)).Nodup):((putP k d kvs).map (·.1)).Nodup:=by
 rw[jM hk h];split
 .exact nd
 .rename_i c;exact ahz.mpr ⟨nd,by simp,fun a ha b hb=>by simp at hb;subst hb;exact fun z=>c (z▸ha)⟩
theorem uW{k d:iO}(hk:kyD k=true)(h:kyA kvs=true):kyA (putP k d kvs)=true:=by
 have e:∀l:List (iO×iO),kyA l=(l.map (·.1)).all kyD:=fun l=>by unfold kyA;rw[adV];rfl
 rw[e,jM hk h];rw[e]at h;split
 .exact h
 .rw[List.all_append,h];simp[hk]
theorem Ji(k d:iO)(kvs:List (iO×iO)):putP k d kvs≠[]:=by
 cases kvs with
 |nil=>intro h;cases h
 |cons x r =>
  obtain⟨k',d'⟩:=x;show(if _ then _ else _)≠_
  split<;>simp
theorem Ck(h:kyA kvs=true)(n:kvs≠[]):isKd kvs=false:=by
 cases kvs with
 |nil=>exact(n rfl).elim
 |cons x r =>
  obtain⟨k,d⟩:=x;rw[kyA,acM,aaL]at h;obtain⟨ds,rfl,_⟩:=ij h.1;rfl
theorem jH(h:kyA kvs=true)(n:kvs≠[])(nd:(kvs.map (·.1)).Nodup):Ai kvs :=
 ⟨Ck h n,nd,fun k hk=>by
  obtain⟨x,hx,rfl⟩:=aay.mp hk;exact ld (aca.mp h x hx)⟩
def w6(we wo wi:WE):WS:=fun D m=>we m fun rv m1=>e8 (fun d=>wo m1 fun ro m2=>wi m2 fun ri m3=>onAt (fun k p=>e8 (fun y=>p=[]/\∃kvs,m3.os[k]?=some [.dict (lfKV kvs)]/\kyA kvs=true/\kyD y=true/\kvs.length<aam/\D.nx {m3 with os:=m3.os.set k [.dict (lfKV (putP y d kvs))]}) ri) ro) rv
theorem E9(kvs:List (iO×iO)):kyA (lfKV kvs)=kyA kvs:=by
 unfold kyA lfKV;rw[adV];rfl
theorem Rel.dx{K:Kx}{α:Al}{m:MSt}{σ:St}{k:Nat}{τ:List (List Nat×Addr)}(Rl:Rel K α m σ H)(e1:α[k]?=some (.T τ))(e2:τ.lookup []=some a)(e3:m.os[k]?=some [.dict (lfKV kvs)])(ky:kyA kvs=true):∃es,DxM K H a kvs es:=by
 obtain⟨⟨t1,v0,z,g,a0,ea0,ev0⟩,_⟩:=Rl.own k (.T τ) _ e1 e3;cases z;obtain⟨n1,n2⟩:=qG (.inr (by rw[E9];exact ky):isKd (lfKV kvs)=true\/kyA (lfKV kvs)=true);simp only[TAt]at g;rcases g with⟨d,z1,_⟩|⟨_,_,b,es,z1,z3,z4,kk,g⟩|⟨_,_,b,es,z1,z3,z4,g⟩|⟨c,b,dx,C,xs,z0,_⟩
 .rw[n1]at z1;cases z1
 .rw[e2]at z1;cases z1;exact⟨es,fzKV g,by rw[<-iA];exact kk.2.1,ky,.inl ⟨z4,fun z=>by subst z;exact absurd kk.1 (by decide)⟩⟩
 .rw[e2]at z1;cases z1;obtain⟨rfl,rfl⟩:=Mr (fzKK g) ky;exact⟨[],by simp only[DenKV],acQ,rfl,.inr ⟨z4,rfl⟩⟩
 .rw[n2]at z0;cases z0
theorem AF(hu:X.A.units+64<cLine)(he:ME X e we)(ho:ME X o wo)(hi:ME X i wi)(hs:abY e (some (.Subscript o i pos')) pos.line X.env=pure false:=by rfl):MS X (.Assign [.Subscript o i pos'] e pos) (w6 we wo wi):=(Ba hu ho hi he hs).wk fun D σ H ⟨α,m,De,Rl,hw,k⟩=>by
 refine⟨α,m,_,Rl,hw,fun r m1 v H1 q n1 Rl1 rr F1=>?_⟩;obtain⟨d,er,hd,q⟩:=gF rr q;refine⟨α,m1,_,Rl1,q,fun ro m2 ov H2 q2 n2 Rl2 rr2 F2=>⟨α,m2,_,Rl2,q2,fun ri m3 iv H3 q3 n3 Rl3 rr3 F3=>?_⟩⟩;obtain⟨kk,p,τ,a,rfl,e1,e2,rfl,q3⟩:=OT rr2 q3;obtain⟨y,rfl,hy,rfl,kvs,e3,ky,kyy,hl,q3⟩:=gF rr3 q3;obtain⟨es,dx⟩:=Rl3.dx e1 e2 e3 ky;have hd3:Den X.kx H3 d v:=(hd.mono (Rl1.pers F2)).mono (Rl2.pers F3);obtain⟨⟨t1,v0,z,g,a0,ea0,ev0⟩,mu⟩:=Rl3.own kk (.T τ) _ e1 e3;cases z;obtain⟨u0,hu0,mu0⟩:∃u,H3 a=some u/\Mu u=true:=by
  rcases dx.2.2.2 with⟨q,_⟩|⟨q,_⟩
  .exact⟨_,q,rfl⟩
  .exact⟨_,q,rfl⟩
 have pe:Pers H3 (upd H3 a (dX a (putE X.w y iv v kvs es))):=bu (.inr ⟨u0,hu0,mu0⟩);have ok:=jH (kvs:=putP y d kvs) (uW kyy ky) (Ji y d kvs) (vq kyy ky dx.2.1);have new:TAt X.kx (upd H3 a (dX a (putE X.w y iv v kvs es))) τ [] (.dict (lfKV (putP y d kvs))) (.ref a):=by
  obtain⟨z1,z2⟩:=qG (.inr (by rw[E9];exact uW kyy ky):isKd (lfKV (putP y d kvs))=true\/kyA (lfKV (putP y d kvs))=true);simp only[TAt];refine .inr (.inl ⟨z1,z2,a,_,e2,rfl,av,⟨by rw[j7];exact ok.1,by rw[iA];exact ok.2.1,by rw[iA];exact ok.2.2⟩,Pc ?_⟩);exact uk kyy (hy.mono pe) (hd3.mono pe) ky (DenKV.mono pe dx.1)
 rw[e2]at ea0;cases ea0;subst ev0;obtain⟨R4,F4⟩:=Rl3.setW e1 pe (ds':=[.dict (lfKV (putP y d kvs))]) (fun b hb=>am fun eb=>hb (eb▸br e2)) ⟨⟨_,.ref a,rfl,new,a,e2,rfl⟩,fun b hb=>by
  by_cases eb:b=a
  .subst eb;exact⟨_,av,rfl⟩
  .rw[am eb];exact mu b hb⟩
 exact⟨a,kvs,es,y,rfl,dx,kyy,hy,hl,k.nx α _ σ _ q3 (n3.trans (n2.trans n1)) R4 (.of R4 (((F1.trans F2).trans F3).trans F4))⟩
theorem pF(hu:X.A.units+64<cLine)(he:EE X e we)(ho:EE X o wo)(hi:EE X i wi)(hs:abY e (some (.Subscript o i pos')) pos.line X.env=pure false:=by rfl):ES X (.Assign [.Subscript o i pos'] e pos) (w6 we wo wi):=⟨AF hu he.h ho.h hi.h hs⟩
theorem yY{D:dY}{m:MSt}(h:we m fun rv m1=>e8 (fun d=>wo m1 fun ro m2=>wi m2 fun ri m3=>onAt (fun k p=>e8 (fun y=>p=[]/\∃kvs,m3.os[k]?=some [.dict (lfKV kvs)]/\kyA kvs=true/\kyD y=true/\kvs.length<aam/\D.nx {m3 with os:=m3.os.set k [.dict (lfKV (putP y d kvs))]}) ri) ro) rv):w6 we wo wi D m:=h
def wFzX(w:WS):WS:=fun D m=>∃(k j:Nat) (kvs:List (iO×iO)) (ρ:List Nat) (m2:MSt),m.vs[j]?=some (some (.at k []))/\m.os[k]?=some [.dict (lfKV kvs)]/\kyA kvs=true/\Fz k (.dict kvs) ρ m m2/\w D m2
theorem LR{st:Stmt}{w:WS}(h:MS X st w):MS X st (wFzX w):=(Nr h).wk fun D σ H ⟨α,m,De,Rl,⟨k,j0,kvs,ρ,m2,ej,eo,ky,F,hw⟩,ke⟩=>by
 obtain⟨v,ev,τ,a,ea,el,rfl⟩:=Rl.var j0 _ ej;obtain⟨es,dx⟩:=Rl.dx ea el eo ky;have name:∀(j:Nat) (v:V),(m.vs[j]?=some (some (.obj k))\/m.vs[j]?=some (some (.at k [])))->σ[j]?=some (some v)->v = .ref a:=fun j v hj evj=>by
  rcases hj with hj|hj
  .obtain⟨v',ev',a',ea',_⟩:=Rl.var j _ hj;rw[ea]at ea';cases ea'
  .obtain⟨v',ev',τ',a',ea',el',rfl⟩:=Rl.var j _ hj;rw[ea]at ea';cases ea';rw[el]at el';cases el';rw[evj]at ev';cases ev';rfl
 rcases dx.2.2.2 with⟨q,ne⟩|⟨q,rfl⟩
 .refine r9 Rl ke F ea (br el) q rfl rfl (fun o pe=>?_) name hw;simp only[Den];exact⟨a,rfl,.inl ⟨es,⟨o,av⟩,jH ky ne dx.2.1,DenKV.mono pe dx.1⟩⟩
 .refine r9 Rl ke F ea (br el) q rfl rfl (fun o pe=>?_) name hw;simp only[Den];exact⟨a,rfl,.inr (.inl ⟨[],o,av,by simp only[DenKK]⟩)⟩
theorem yV{st:Stmt}{w:WS}(h:ES X st w):ES X st (wFzX w):=⟨LR h.h⟩
theorem P8{w:WS}{D:dY}{m:MSt}(k j:Nat)(kvs:List (iO×iO))(ρ:List Nat)(m2:MSt)(e1:m.vs[j]?=some (some (.at k [])))(e2:m.os[k]?=some [.dict (lfKV kvs)])(e3:kyA kvs=true)(F:Fz k (.dict kvs) ρ m m2)(h:w D m2):wFzX w D m:=⟨k,j,kvs,ρ,m2,e1,e2,e3,F,h⟩
def Lz(K:Kd)(tk tv:TE):TE:=fun σ H Q=>∀p,H p=none->tk σ (upd H p (.dK [])) fun y H1=>tv σ H1 fun v H2=>H2 p=some (.dK [])/\∃k,kyD k=true/\Den K H2 k y/\∀ob,Q (.ref p) (upd H2 p (.frz ob (dX p [(dN K.w k,y,v)])))
theorem Cq{tk tv:TE}(hu:X.A.units+64<cLine)(hk:PE X i tk)(hv:PE X e tv):PE X (.Dict [some i] [e] pos) (Lz X.kd tk tv):=by
 intro pins s σ H Q I q;have hn:=I.hok.fresh (Io s.heap.objs.size);have I1:=I.laid (a:=s.heap.objs.size) (o:=.dK []) (h':=s.heap.push {cls:=.type "dict",data:=.dict #[]}) (t':=s.toks) (fun _ _ q=>OR _ q) (Io _) (vd s.heap I.big);refine wpAny_Dict_any rfl rfl (by simp) (show 1≤15 by decide) (pairTrees_cons_walk (thn (hk pins _ σ _ _ I1 (q _ hn)) fun u s1 ⟨y,H1,I2,ry,q1⟩=>thn (hv pins s1 σ H1 _ I2 q1) fun r s2 ⟨v,H2,I3,rv,e0,k,ky,dk,q2⟩=>pairTrees_nil_walk ?_));unfold storeAll;rw[ae2];refine gE (gE (Fv (kvs:=[]) (es:=[]) (by omega) I3 ⟨by simp only[DenKV],acQ,rfl,.inr ⟨e0,rfl⟩⟩ ky dk ry rv (by rw[aav];decide) fun s' I'=>aac ?_));obtain⟨ob,I4⟩:=I'.freezeU av rfl;have e1:upd (upd H2 s.heap.objs.size (dX s.heap.objs.size (putE X.w k y v [] []))) s.heap.objs.size (.frz ob (dX s.heap.objs.size (putE X.w k y v [] [])))=upd H2 s.heap.objs.size (.frz ob (dX s.heap.objs.size [(dN X.w k,y,v)])):=by
  funext b
  by_cases c:b=s.heap.objs.size
  .subst c;rw[av,av];rfl
  .rw[am c,am c,am c]
 rw[e1]at I4;exact aac ⟨.ref s.heap.objs.size,_,I4,rfl,q2 ob⟩
def yz(wk wv:WE):WE:=fun m K=>wk m fun rk m1=>e8 (fun k=>wv m1 fun rv m2=>e8 (fun d=>kyD k=true/\K (.imm (.dict [(k,d)])) m2) rv) rk
theorem CZ(hu:X.A.units+64<cLine)(hk:ME X i wi)(hv:ME X e we):ME X (.Dict [some i] [e] pos) (yz wi we):=(Cq hu hk hv).wk fun σ H Q ⟨α,m,Kc,Rl,hw,fin⟩=>by
 intro p hp;refine⟨α,m,_,Rl.lay hp,hw,fun rk m1 y H1 k1 n1 Rl1 rr1 F1=>?_⟩;obtain⟨k,rfl,hky,k1⟩:=gF rr1 k1;refine⟨α,m1,_,Rl1,k1,fun rv m2 v H2 k2 n2 Rl2 rr2 F2=>?_⟩;obtain⟨d,rfl,hd,kd,k2⟩:=gF rr2 k2;have hpα:p∉ads α:=Rl.out hp;have e1:H2 p=some (.dK []):=F2 p _ (F1 p _ av hpα) hpα;have hk2:Den X.kx H2 k y:=hky.mono (Rl1.pers F2);refine⟨e1,k,kd,hk2,fun ob=>?_⟩;have pe:Pers H2 (upd H2 p (.frz ob (dX p [(dN X.w k,y,v)]))):=bu (.inr ⟨_,e1,rfl⟩);have fr:Frm α H (upd H2 p (.frz ob (dX p [(dN X.w k,y,v)]))):=fun b o eb nb=>by
  have ne:b≠p:=bh eb hp;rw[am ne];exact F2 b o (F1 b o (by rw[am ne];exact eb) nb) nb
 have old:Ext X.kx.eb.np α H α (upd H2 p (.frz ob (dX p [(dN X.w k,y,v)]))):=⟨rfl,fr,fun _ h=>.inl h,fun b hb=>by
  have hbp:b≠p:=fun e=>hpα (e▸hb);rw[am hbp];obtain⟨o',e',_⟩:=Rl2.mem hb;exact⟨o',e'⟩⟩
 refine fin _ m2 _ _ k2 (n2.trans n1) (Rl2.at' pe (fun b hb=>am fun e=>hpα (e▸hb)) (Rl.ebx.trans old)) (show Den X.kx _ (.dict [(k,d)]) (.ref p)from ?_) fr;simp only[Den];refine⟨p,rfl,.inl ⟨_,⟨ob,av⟩,jH (by simp[kyA,kd]) (by simp) (by simp),?_⟩⟩;simp only[DenKV];exact⟨y,v,[],rfl,hk2.mono pe,hd.mono pe,rfl⟩
theorem oN(hu:X.A.units+64<cLine)(hk:EE X i wi)(hv:EE X e we):EE X (.Dict [some i] [e] pos) (yz wi we):=⟨CZ hu hk.h hv.h⟩
theorem yT{m:MSt}{K:R->MSt->Prop}(h:wi m fun rk m1=>e8 (fun k=>we m1 fun rv m2=>e8 (fun d=>kyD k=true/\K (.imm (.dict [(k,d)])) m2) rv) rk):yz wi we m K:=h
theorem AA{a b:iO}(ha:kdD a=true)(hb:kdD b=true):zU a b=aaw a b:=by
 obtain⟨ka,rfl⟩:=sE ha;obtain⟨kb,rfl⟩:=sE hb;rw[zP,pI]
theorem xW{y d:iO}(hy:kdD y=true):∀{kvs:List (iO×iO)},isKd kvs=true->putD y (lfD d) (lfKV kvs)=lfKV (putP y d kvs)
 |[],_=>rfl
 |(k',d')::r,h=>by
  rw[nR,acM,aaL]at h;have ih:=xW (y:=y) (d:=d) hy (kvs:=r) (by rw[nR];exact h.2);show(if zU k' y=true then _ else _)=lfKV (if aaw k' y=true then _ else _);rw[AA h.1 hy];split
  .rfl
  .show _::putD y (lfD d) (lfKV r)=_;rw[ih];rfl
end
end L2
namespace K
open PySem L2 M7
variable{D a i t v:Int}{S g n:Nat}{h:Hall}{r:Rule}{l:List Nat}{W:List (Pt×Int)}{L:List Pr}
theorem z6(h:a.natAbs<10^160):ac4.Int.intBits a≤540:=intBits_le_iff.mpr (aaE h (by decide))
theorem cE{b:Int}(ha:a.natAbs<10^160)(hb:b.natAbs<10^160):afV a b:=afV.of_le (z6 ha) (z6 hb) (by decide)
theorem cfdB(h0:0<g)(h:g<10^160):CFd i (g:Int):=⟨by omega,by
 rw[aaq];have:=(agR (by omega)).mpr (aaE h (show 10^160<2^540 by decide));omega⟩
def nfP(t b:Int):Int×Int:=if b<0 then((-t)/((t.natAbs.gcd b.natAbs:Nat):Int),(-b)/((t.natAbs.gcd b.natAbs:Nat):Int))else(t/((t.natAbs.gcd b.natAbs:Nat):Int),b/((t.natAbs.gcd b.natAbs:Nat):Int))
def nf(t b:Int):iO:=.tuple [.int (nfP t b).1,.int (nfP t b).2]
def xG:SpM:=fun as K=>∃t b:Int,as=[.imm (.int t),.imm (.int b)]/\b≠0/\t.natAbs<10^160/\b.natAbs<10^160/\K (.imm (nf t b)) []
structure FrOk(a b:Int):Prop where
 ha:a.natAbs<10^76
 hb:b.natAbs<10^76
 hp:0<b
def frT(a b:Int):iO:=.tuple [.int a,.int b]
def GM(f:Int->Int->Int->Int->iO):SpM:=fun as K=>∃a b c d:Int,as=[.imm (frT a b),.imm (frT c d)]/\FrOk a b/\FrOk c d/\K (.imm (f a b c d)) []
def addF(a b c d:Int):iO:=nf (a*d+c*b) (b*d)
def subF(a b c d:Int):iO:=nf (a*d-c*b) (b*d)
def mulF(a b c d:Int):iO:=nf (a*c) (b*d)
def K8:SpM:=fun as K=>∃a b c d:Int,as=[.imm (frT a b),.imm (frT c d)]/\FrOk a b/\FrOk c d/\c≠0/\K (.imm (nf (a*d) (b*c))) []
theorem fU{b:Int}(ha:a.natAbs<10^76)(hb:b.natAbs<10^76):(a*b).natAbs<10^152:=by
 rw[adn];have h:=Nat.mul_lt_mul'' ha hb;exact aaA h (by decide)
theorem tq(h:n<10^152):n<10^160:=aaE h (by decide)
theorem up45(h:n<10^76):n<10^160:=aaE h (by decide)
theorem K6{b:Int}(ha:a.natAbs<10^152)(hb:b.natAbs<10^152):(a+b).natAbs<10^160:=by
 have h:=ahF a b;have:10^152+10^152<10^160:=by decide
 omega
theorem Mt{b:Int}(ha:a.natAbs<10^152)(hb:b.natAbs<10^152):(a-b).natAbs<10^160:=by
 have h:=ahG a b;have:10^152+10^152<10^160:=by decide
 omega
theorem oa{b:Int}(ha:0<a)(hb:0<b):a*b≠0:=Int.ne_of_gt (abr ha hb)
theorem u5(h0:0<g)(h:g ∣ t.natAbs):t.fdiv (-(g:Int))=(-t)/(g:Int):=by
 obtain⟨c,rfl⟩:=ab8.mpr h;have hg:(g:Int)≠0:=by omega
 rw[show -((g:Int)*c)=(g:Int)*(-c) by rw[Int.mul_neg],adi _ hg,show(g:Int)*c=(-(g:Int))*(-c) by rw[Int.neg_mul_neg]];exact Int.mul_fdiv_cancel_left _ (by omega)
theorem t5:t.fdiv (g:Int)=t/(g:Int):=afm _ (by omega)
def vm:SpM:=fun as K=>∃t b:Int,as=[.imm (.int t),.imm (.int b)]/\b≠0/\t.natAbs<10^160/\b.natAbs<10^160/\K (.imm (nf t b)) []
def GC:SpM:=GM addF
def NR:SpM:=GM subF
def BM:SpM:=GM mulF
theorem cfnP(h0:0<g)(h:g<10^160):CFn i (g:Int):=⟨by omega,(cfdB (i:=i) h0 h).2⟩
theorem cfnB(h0:0<g)(h:g<10^160):CFn i (-(g:Int)):=⟨by omega,by rw[Int.natAbs_neg];exact(cfdB (i:=i) h0 h).2⟩
section
variable {α:Type} [deq:DecidableEq α]
def addA(a:α)(x:Int):List (α×Int)->List (α×Int)
 |[]=>[(a,x)]
 |p::r=>if p.1=a then(p.1,p.2+x)::r else p::addA a x r
def getA(a:α):List (α×Int)->Int
 |[]=>0
 |p::r=>if p.1=a then p.2 else getA a r
def kvA(enc:α->iO)(L:List (α×Int)):List (iO×iO):=L.map fun p=>(enc p.1,.int p.2)
theorem kI{enc:α->iO}(he:∀a b,aaw (enc a) (enc b)=decide (a=b))(a:α):∀L:List (α×Int),(fO (enc a) (kvA enc L)).getD (.int 0) = .int (getA a L)
 |[]=>rfl
 |p::r=>by
  show(if aaw (enc p.1) (enc a)=true then some (abN p.2)else fO (enc a) (kvA enc r)).getD (.int 0) = .int (if p.1=a then p.2 else getA a r);rw[he]
  by_cases c:p.1=a
  .rw[if_pos c,if_pos (decide_eq_true c)];rfl
  .rw[if_neg c,if_neg (by rw[decide_eq_false c];decide)];exact kI he a r
theorem zl{enc:α->iO}(he:∀a b,aaw (enc a) (enc b)=decide (a=b))(a:α)(x:Int):∀L:List (α×Int),putP (enc a) (.int (getA a L+x)) (kvA enc L)=kvA enc (addA a x L)
 |[]=>by show [(enc a,abN (0+x))]=_;rw[ady];rfl
 |p::r=>by
  show(if aaw (enc p.1) (enc a)=true then(enc p.1,abN ((if p.1=a then p.2 else getA a r)+x))::kvA enc r else(enc p.1,abN p.2)::putP (enc a) (.int ((if p.1=a then p.2 else getA a r)+x)) (kvA enc r))=kvA enc (if p.1=a then(p.1,p.2+x)::r else p::addA a x r);rw[he]
  by_cases c:p.1=a
  .rw[if_pos c,if_pos c,if_pos (decide_eq_true c)];rfl
  .rw[if_neg c,if_neg c,if_neg (by rw[decide_eq_false c];decide),zl he a x r];rfl
theorem jF(a:α)(x:Int):∀L:List (α×Int),(addA a x L).length≤L.length+1
 |[]=>Io _
 |p::r=>by
  unfold addA;split
  .simp
  .have:=jF a x r;simp only[aaD]at this⊢;omega
end
abbrev Pt:=List Nat×Nat
def ptD(p:Pt):iO:=stD p.1 p.2
theorem vj:∀{a b:List Nat},natD a=natD b->a=b
 |[],[],_=>rfl
 |x::a,y::b,h=>by
  simp only[natD,aai,agC,ahT]at h;rw[show x=y by omega,vj (a:=a) (b:=b) h.2]
 |[],_::_,h=>nomatch h
 |_::_,[],h=>nomatch h
theorem Ju(p:Pt):hkD (ptD p)=true:=by
 have nats:∀l:List Nat,hkA (natD l)=true:=fun l=>by
  induction l with
  |nil=>rfl
  |cons x l ih=>show(hkD (.int (x:Int))&&hkA (natD l))=true;rw[ih];rfl
 show(hkD (lnD p.1)&&(hkD (.int (p.2:Int))&&true))=true;rw[show hkD (lnD p.1)=true from nats p.1];rfl
theorem kQ(p q:Pt):aaw (ptD p) (ptD q)=decide (p=q):=by
 rw[qB _ _ (Ju p) (Ju q)];refine decide_eq_decide.mpr ⟨fun h=>?_,fun h=>by rw[h]⟩;have h':[lnD p.1,abN (p.2:Int)]=[lnD q.1,.int (q.2:Int)]:=by injection h
 simp only[agC,ahT,and_true]at h';have h1:natD p.1=natD q.1:=by have:=h'.1;injection this
 exact Prod.ext (vj h1) (by omega)
instance decWd:DecidableEq Wd:=fun a b=>by cases a<;>cases b<;>first|exact isTrue rfl|exact isFalse (fun h=>nomatch h)
theorem ux(p q:Wd):aaw (.str p.s) (.str q.s)=decide (p=q):=by cases p<;>cases q<;>decide
def wdD(w:Wd):iO:=.str w.s
abbrev Ms:=List (Mv×Int)
def msD(M:Ms):List iO:=M.map fun p=>.tuple [p.1.d,.int p.2]
def goW1(h:Hall)(r:Rule)(p:Pt)(w:Int)(q:Mv×Int)(x:List (Pt×Int)×List (Wd×Int)):List (Pt×Int)×List (Wd×Int) :=
 (addA ((bR h r p.1 p.2 q.1).1,(bR h r p.1 p.2 q.1).2.1) (w*q.2) x.1,addA (bR h r p.1 p.2 q.1).2.2 (w*q.2) x.2)
def goW(h:Hall)(r:Rule)(M:Ms)(x:List (Pt×Int)×List (Wd×Int))(p:Pt×Int):List (Pt×Int)×List (Wd×Int):=M.foldl (fun x q=>goW1 h r p.1 p.2 q x) x
theorem qW{t:Nat}(ho:h.Ok)(S:St h r l t):kyD (stD l t)=true:=by
 have hk:=Ju (l,t);have lay:∀l:List Nat,abi (natD l)=true:=fun l=>by
  have:=gU (l.map fun(x:Nat)=>(x:Int));rwa[abe]at this
 have dep:∀l:List Nat,aaC (natD l)≤1:=fun l=>by
  have:=jb (l.map fun(x:Nat)=>(x:Int));rwa[abe]at this
 unfold kyD;rw[show hkD (stD l t)=true from hk];have c:(stD l t).canLay0=true:=by
  show abi [lnD l,.int (t:Int)]=true;simp only[abi,aaL];exact⟨lay l,rfl,trivial⟩
 rw[c];have d:(stD l t).depth≤7:=by
  show max (aaC (natD l)+1) (max (abN (t:Int)).depth 0)+1≤7;have:=dep l;have e:(abN (t:Int)).depth=0:=rfl;rw[e];omega
 rw[decide_eq_true d];rfl
def wtD(W:List (Pt×Int)):iO:=.dict (kvA ptD W)
theorem ya(ho:h.Ok)(hW:∀p∈W,St h r p.1.1 p.1.2):kyA (kvA ptD W)=true:=by
 unfold kyA kvA;rw[adV,aca];exact fun p hp=>qW ho (hW p hp)
theorem jE{α:Type}[DecidableEq α]{a:α}{x:Int}:∀{L:List (α×Int)}{p:α×Int},p∈addA a x L->p.1=a\/∃q∈L,q.1=p.1
 |[],p,h=>by rw[aah.mp h];exact .inl rfl
 | q::r,p,h=>by
  unfold addA at h
  split at h
  .rename_i e
   cases h with
   |head=>exact .inl e
   |tail _ h=>exact .inr ⟨p,aab _ h,rfl⟩
  .cases h with
   |head=>exact .inr ⟨_,aaf,rfl⟩
   |tail _ h =>
    rcases jE h with e|⟨q',h',e⟩
    .exact .inl e
    .exact .inr ⟨q',aab _ h',e⟩
abbrev Pr:=iO×Int×Nat
def prsD(L:List Pr):List iO:=L.map fun p=>.tuple [p.1,.tuple [.int p.2.1,.int (p.2.2:Int)]]
def botL(L:List Pr):Nat:=L.foldl (fun m p=>m.lcm p.2.2) 1
def onB(L:List Pr):List iO:=L.map fun p=>.tuple [p.1,.int (p.2.1*(((botL L/p.2.2:Nat)):Int))]
theorem xU(L:List Pr)(p:Pr):botL (L++[p])=(botL L).lcm p.2.2:=by
 unfold botL;rw[adL];rfl
theorem t9{B:Nat}:∀{L:List Pr},(∀p∈L,p.2.2 ∣ B)->botL L ∣ B:=by
 intro L;have key:∀(L:List Pr) (m:Nat),m ∣ B->(∀p∈L,p.2.2 ∣ B)->L.foldl (fun m p=>m.lcm p.2.2) m ∣ B:=by
  intro L
  induction L with
  |nil=>intro m hm _;exact hm
  |cons p L ih=>intro m hm h;exact ih _ (Nat.lcm_dvd hm (h p aaf)) fun q hq=>h q (aab _ hq)
 exact fun h=>key L 1 (Nat.one_dvd _) h
theorem Bj(h:∀p∈L,1≤p.2.2):1≤botL L:=by
 have key:∀(L:List Pr) (m:Nat),1≤m->(∀p∈L,1≤p.2.2)->1≤L.foldl (fun m p=>m.lcm p.2.2) m:=by
  intro L
  induction L with
  |nil=>intro m hm _;exact hm
  |cons p L ih=>intro m hm h;exact ih _ (Nat.lcm_pos hm (h p aaf)) fun q hq=>h q (aab _ hq)
 exact key L 1 (Io _) h
structure BtOk(L:List Pr)(B:Nat):Prop where
 n:L.length≤100
 d:∀p∈L,1≤p.2.2/\p.2.2 ∣ B/\p.2.1.natAbs<10^76
 b0:1≤B
 b:B<10^76
def uQ:SpM:=fun as K=>∃(L:List Pr) (B:Nat),as=[.imm (.list (prsD L))]/\BtOk L B/\K (.imm (.tuple [.list (onB L),.int (botL L:Int)])) []
theorem BtOk.pre{B:Nat}(h:BtOk L B)(i:Nat):1≤botL (L.take i)/\botL (L.take i)<10^76:=by
 have hm:∀p∈L.take i,p∈L:=fun p hp=>acb hp;refine⟨Bj fun p hp=>(h.d p (hm p hp)).1,aaF (aea h.b0 (t9 fun p hp=>(h.d p (hm p hp)).2.1)) h.b⟩
theorem IU(m b:Nat)(hb:1≤b):m.lcm b=m*(b/m.gcd b):=by
 unfold Nat.lcm;exact Nat.mul_div_assoc _ (acx m b)
theorem ga{b:Int}(hb:0<b):0<(nfP t b).2/\(nfP t b).2≤b/\(nfP t b).1.natAbs≤t.natAbs:=by
 have g1:0<t.natAbs.gcd b.natAbs:=abg _ (by omega);have gb:((t.natAbs.gcd b.natAbs:Nat):Int) ∣ b:=ab8.mpr (acx _ _);have gt:((t.natAbs.gcd b.natAbs:Nat):Int) ∣ t:=ab8.mpr (adW _ _);unfold nfP;rw[if_neg (by omega)];refine⟨Int.ediv_pos_of_pos_of_dvd hb (by omega) gb,Int.ediv_le_self _ (by omega),?_⟩;show(t/((t.natAbs.gcd b.natAbs:Nat):Int)).natAbs≤_;rw[aex gt,aaq];exact adD _ _
def bF(h:Hall):Int×Int:=nfP ((h.a:Int)*1) ((h.b:Int)*((ordK h.ss.length h.ss.length).length:Int))
def restF(h:Hall):Nat->Int×Int
 |0=>nfP (1*(h.b:Int)-(h.a:Int)*1) (1*(h.b:Int))
 |k+1=>match h.ss[k]? with
  |some s=>nfP ((restF h k).1*(s.b:Int)-(s.a:Int)*(restF h k).2) ((restF h k).2*(s.b:Int))
  |none=>restF h k
theorem n9(ho:h.Ok)(hl:0<(ordK h.ss.length h.ss.length).length):FrOk (bF h).1 (bF h).2:=by
 have a2:=ho.a2;have b1:=ho.b1;have b2:=ho.b2;have n:=(de h.ss.length ho.n4 h.ss.length ho.n4).1;have hb:0<(h.b:Int)*((ordK h.ss.length h.ss.length).length:Int):=abr (by omega) (by omega);obtain⟨e1,e2,e3⟩:=ga (t:=(h.a:Int)*1) hb;have e4:(h.b:Int)*((ordK h.ss.length h.ss.length).length:Int)≤1000000*24:=agX (by omega) (by omega) (by omega) (by omega);unfold bF;exact⟨aaF e3 (by omega),by omega,e1⟩
theorem fe{h:Hall}(ho:h.Ok):∀k,k≤h.ss.length->0<(restF h k).2/\(restF h k).2≤1000000^(k+1)/\(restF h k).1.natAbs≤(k+1)*1000000^(k+1)
 |0,_=>by
  have a2:=ho.a2;have b1:=ho.b1;have b2:=ho.b2;obtain⟨e1,e2,e3⟩:=ga (t:=1*(h.b:Int)-(h.a:Int)*1) (b:=1*(h.b:Int)) (by omega);unfold restF;exact⟨e1,by omega,aaz e3 (by omega)⟩
 | k+1,hk=>by
  obtain⟨i1,i2,i3⟩:=fe ho k (by omega);have es:h.ss[k]?=some h.ss[k]:=Ge (by omega);have so:=ho.ok h.ss[k] (abh _);have sa:=so.a2;have sb:=so.b2;have sb1:=so.b1;have hb:0<(restF h k).2*(h.ss[k].b:Int):=abr i1 (by omega);obtain⟨e1,e2,e3⟩:=ga (t:=(restF h k).1*(h.ss[k].b:Int)-(h.ss[k].a:Int)*(restF h k).2) hb;unfold restF;rw[es];refine⟨e1,ahH e2 ?_,aaz e3 (aaz (ahG _ _) ?_)⟩
  .rw[Int.pow_succ];exact agX i2 (by omega) (by omega) (by omega)
  .rw[adn,adn,aaq,aaq,acI 1000000 (k+1)];have h1:(restF h k).1.natAbs*h.ss[k].b≤(k+1)*1000000^(k+1)*1000000:=abd i3 (by omega);have h2:h.ss[k].a*(restF h k).2.natAbs≤1000000*1000000^(k+1):=abd (by omega) (by
    have e:((1000000^(k+1):Nat):Int)=(1000000:Int)^(k+1):=by rw[Int.natCast_pow];rfl
    omega)
   rw[ac6 1000000 (1000000^(k+1))]at h2;rw[show(k+1+1)*(1000000^(k+1)*1000000)=(k+1)*1000000^(k+1)*1000000+1000000^(k+1)*1000000 by rw[agT (k+1) 1,ahZ,adh]];omega
theorem md(ho:h.Ok){k:Nat}(hk:k≤h.ss.length):FrOk (restF h k).1 (restF h k).2:=by
 obtain⟨i1,i2,i3⟩:=fe ho k hk;have n4:=ho.n4;have p1:1000000^(k+1)≤1000000^5:=abO (by decide) (by omega);have p2:(1000000:Int)^(k+1)=((1000000^(k+1):Nat):Int):=by rw[Int.natCast_pow];rfl
 have p3:(k+1)*1000000^(k+1)≤5*1000000^5:=abd (by omega) p1;have p4:5*1000000^5<10^76:=by decide
 have p5:1000000^5<10^76:=by decide
 refine⟨aaF i3 (aaF p3 p4),?_,i1⟩;rw[p2]at i2;omega
def prF(d:iO)(p:Int×Int):Pr:=(d,p.1,p.2.toNat)
def BR(h:Hall)(k:Nat):List Pr:=(h.ss.take k).zipIdx.map fun q=>((Mv.done q.2).d,(q.1.a:Int),q.1.b)
def shrL(h:Hall):List Pr:=(ordK h.ss.length h.ss.length).map (fun o=>prF (Mv.come o).d (bF h))++BR h h.ss.length++if 0<(restF h h.ss.length).1 then [prF Mv.still.d (restF h h.ss.length)]else []
def u6:SpM:=fun as K=>∃h:Hall,as=[.imm h.d]/\h.Ok/\K (.new (prsD (shrL h))) []
def D9:SpM:=fun as K=>∃h:Hall,as=[.imm h.d]/\h.Ok/\K (.new ((ordK h.ss.length h.ss.length).map lnD)) []
theorem cR:∀n≤4,0<(ordK n n).length:=by decide +kernel
def gQ(h:Hall):List iO:=(ordK h.ss.length h.ss.length).map fun o=>.tuple [(Mv.come o).d,nf ((h.a:Int)*1) ((h.b:Int)*((ordK h.ss.length h.ss.length).length:Int))]
def jn(h:Hall)(k:Nat):List iO:=(aaP k).map fun i=>.tuple [(Mv.done i).d,.tuple [.int ((h.ss.getD i ⟨0,0,0⟩).a:Int),.int ((h.ss.getD i ⟨0,0,0⟩).b:Int)]]
def rsD(h:Hall)(k:Nat):iO:=.tuple [.int (restF h k).1,.int (restF h k).2]
theorem v9(h:Hall)(k:Nat):jn h (k+1)=jn h k++[.tuple [(Mv.done k).d,.tuple [.int ((h.ss.getD k ⟨0,0,0⟩).a:Int),.int ((h.ss.getD k ⟨0,0,0⟩).b:Int)]]]:=by
 unfold jn;rw[aec,aaG];rfl
theorem w9(a b:List Pr):prsD (a++b)=prsD a++prsD b:=by unfold prsD;rw[aaG]
theorem Sn{d:iO}{p:Int×Int}(hp:0<p.2):prsD [prF d p]=[.tuple [d,.tuple [.int p.1,.int p.2]]]:=by
 show [acg [d,.tuple [.int p.1,.int ((p.2.toNat:Nat):Int)]]]=_;rw[show((p.2.toNat:Nat):Int)=p.2 by omega]
theorem Jz(ho:h.Ok):prsD ((ordK h.ss.length h.ss.length).map fun o=>prF (Mv.come o).d (bF h))=gQ h:=by
 have hp:=(n9 ho (cR h.ss.length ho.n4)).hp;unfold prsD gQ;rw[abe];refine ad1 fun o _=>?_;show acg [(Mv.come o).d,.tuple [.int (bF h).1,.int (((bF h).2.toNat:Nat):Int)]]=_;rw[show(((bF h).2.toNat:Nat):Int)=(bF h).2 by omega];rfl
theorem IQ(h:Hall):prsD (BR h h.ss.length)=jn h h.ss.length:=by
 unfold prsD BR jn;rw[aag,abe];refine acw fun i=>?_;rw[aak,aak,aeT]
 by_cases hi:i<h.ss.length
 .rw[abW hi,Ge hi];have eg:h.ss.getD i ⟨0,0,0⟩=h.ss[i]:=bm (Ge hi);show some (acg [(Mv.done (0+i)).d,.tuple [.int (h.ss[i].a:Int),.int (h.ss[i].b:Int)]])=some (.tuple [(Mv.done i).d,.tuple [.int ((h.ss.getD i ⟨0,0,0⟩).a:Int),.int ((h.ss.getD i ⟨0,0,0⟩).b:Int)]]);rw[eg,ab5]
 .rw[acX (by omega),acX (by rw[aa3];omega)];rfl
theorem KZ(ho:h.Ok):prsD (shrL h)=gQ h++jn h h.ss.length++if 0<(restF h h.ss.length).1 then [.tuple [Mv.still.d,rsD h h.ss.length]]else []:=by
 unfold shrL;rw[w9,w9,Jz ho,IQ]
 congr 1
 split
 .exact Sn (fe ho h.ss.length (Io _)).1
 .rfl
theorem DE{i:Nat}{s:Srv}(e:h.ss[i]?=some s):rsD h (i+1)=subF (restF h i).1 (restF h i).2 (s.a:Int) (s.b:Int):=by
 unfold rsD;rw[restF,e];rfl
def shrM(h:Hall):List (Mv×Int×Nat):=(ordK h.ss.length h.ss.length).map (fun o=>(Mv.come o,(bF h).1,(bF h).2.toNat))++(h.ss.zipIdx.map fun q=>(Mv.done q.2,(q.1.a:Int),q.1.b))++if 0<(restF h h.ss.length).1 then [(Mv.still,(restF h h.ss.length).1,(restF h h.ss.length).2.toNat)]else []
theorem jj(h:Hall):shrL h=(shrM h).map fun q=>(q.1.d,q.2):=by
 unfold shrL shrM BR;rw[aaG,aaG,abe,abe,aag]
 congr 1
 split<;>rfl
def botH(h:Hall):Nat:=botL (shrL h)
def msL(h:Hall):Ms:=(shrM h).map fun q=>(q.1,q.2.1*((botH h/q.2.2:Nat):Int))
theorem Lg(h:Hall):onB (shrL h)=msD (msL h):=by
 unfold onB msD msL botH;rw[jj,abe,abe];rfl
theorem BX:∀n≤4,1≤n->∀o∈ordK n n,o≠[]/\o.length≤4/\∀k∈o,k<n:=by decide +kernel
theorem jt{q:Mv×Int×Nat}(hq:q∈shrM h):(∃o∈ordK h.ss.length h.ss.length,q=(Mv.come o,(bF h).1,(bF h).2.toNat))\/(∃i,∃hi:i<h.ss.length,q=(Mv.done i,(h.ss[i].a:Int),h.ss[i].b))\/q=(Mv.still,(restF h h.ss.length).1,(restF h h.ss.length).2.toNat):=by
 unfold shrM at hq;obtain hq|hq:=aa2.mp hq
 .obtain hq|hq:=aa2.mp hq
  .obtain⟨o,ho,rfl⟩:=aay.mp hq;exact .inl ⟨o,ho,rfl⟩
  .obtain⟨z,hz,rfl⟩:=aay.mp hq;obtain⟨i,hi,e⟩:=abB.mp hz;rw[acT]at hi;refine .inr (.inl ⟨i,hi,?_⟩);rw[ag8]at e;rw[<-e];show(Mv.done (0+i),_,_)=_;rw[ab5]
 .split at hq
  .exact .inr (.inr (aah.mp hq))
  .cases hq
theorem Iz(ho:h.Ok):∀q∈shrM h,q.1.Ok h:=fun q hq=>by
 rcases jt hq with⟨o,hm,rfl⟩|⟨i,hi,rfl⟩|rfl
 .obtain⟨h1,h2,h3⟩:=BX h.ss.length ho.n4 ho.n1 o hm;exact⟨h1,h3,h2⟩
 .exact hi
 .exact trivial
theorem nK{b:Int}(hb:0<b):(nfP t b).2.toNat ∣ b.toNat:=by
 have gb:((t.natAbs.gcd b.natAbs:Nat):Int) ∣ b:=ab8.mpr (acx _ _);obtain⟨c,hc⟩:=gb;have g1:0<t.natAbs.gcd b.natAbs:=abg _ (by omega);unfold nfP;rw[if_neg (by omega)];show(b/((t.natAbs.gcd b.natAbs:Nat):Int)).toNat ∣ b.toNat;generalize hg:t.natAbs.gcd b.natAbs=g at *;have e:b/(g:Int)=c:=by rw[hc];exact adi _ (by omega)
 have c0:0<c:=by
  rcases Int.lt_trichotomy c 0 with z|z|z
  .have:=Int.mul_neg_of_pos_of_neg (show(0:Int)<(g:Int) by omega) z;omega
  .rw[z,ac9]at hc;omega
  .exact z
 rw[e];refine⟨g,?_⟩;have:((c.toNat*g:Nat):Int)=b:=by
  rw[aaI,show((c.toNat:Nat):Int)=c by omega,aaO];exact hc.symm
 omega
def bP:List Srv->Nat
 |[]=>1
 |s::r=>s.b*bP r
theorem rb:∀(l:List Srv) (s:Srv),bP (l++[s])=bP l*s.b
 |[],s=>by show s.b*1=1*s.b;omega
 |x::l,s=>by show x.b*bP (l++[s])=x.b*bP l*s.b;rw[rb l s,adh]
theorem DW:∀{l:List Srv}{s:Srv},s∈l->s.b ∣ bP l
 |x::l,s,h=>by
  cases h with
  |head=>exact ahI _ _
  |tail _ h=>exact acd (DW h) (acO _ _)
theorem AU:∀{l:List Srv},(∀s∈l,s.Ok)->1≤bP l/\bP l≤1000000^l.length
 |[],_=>⟨Io 1,Io 1⟩
 |x::l,h=>by
  obtain⟨h1,h2⟩:=AU (l:=l) fun s hs=>h s (aab _ hs);have xo:=h x aaf;have b1:=xo.b1;have b2:=xo.b2;refine⟨aeU b1 h1,?_⟩;show x.b*bP l≤1000000^(l.length+1);rw[acI,ac6];exact abd h2 (by omega)
theorem uG{h:Hall}(ho:h.Ok):∀k,k≤h.ss.length->(restF h k).2.toNat ∣ h.b*bP (h.ss.take k)
 |0,_=>by
  have b1:=ho.b1;have:=nK (t:=1*(h.b:Int)-(h.a:Int)*1) (b:=1*(h.b:Int)) (by omega);rw[show(1*(h.b:Int)).toNat=h.b by omega]at this;show(nfP _ _).2.toNat ∣ h.b*1;rw[ah0];exact this
 | k+1,hk=>by
  have ih:=uG ho k (by omega);have i1:=(fe ho k (by omega)).1;have es:h.ss[k]?=some h.ss[k]:=Ge (by omega);have so:=ho.ok h.ss[k] (abh _);have sb1:=so.b1;have hb:0<(restF h k).2*(h.ss[k].b:Int):=abr i1 (by omega);have d:=nK (t:=(restF h k).1*(h.ss[k].b:Int)-(h.ss[k].a:Int)*(restF h k).2) hb;have e2:((restF h k).2*(h.ss[k].b:Int)).toNat=(restF h k).2.toNat*h.ss[k].b:=by
   rw[Int.toNat_mul (by omega) (by omega)];rfl
  rw[e2]at d;rw[restF,es,abt,es];show(nfP _ _).2.toNat ∣ h.b*bP (h.ss.take k++[h.ss[k]]);rw[rb,<-adh];exact acd d (Nat.mul_dvd_mul ih (ahJ _))
theorem gG(ho:h.Ok):BtOk (shrL h) ((ordK h.ss.length h.ss.length).length*(h.b*bP h.ss)):=by
 have n4:=ho.n4;have b1:=ho.b1;have b2:=ho.b2;have a2:=ho.a2;have nO:=(de h.ss.length ho.n4 h.ss.length ho.n4).1;have pO:=cR h.ss.length ho.n4;obtain⟨p1,p2⟩:=AU ho.ok;have p3:bP h.ss≤1000000^4:=aaz p2 (abO (by decide) n4);refine⟨?_,?_,aeU pO (aeU b1 p1),?_⟩
 .rw[jj,oR];unfold shrM;rw[aap,aap,oR,oR,acT]
  split<;>simp only[aaD,adE]<;>omega
 .intro p hp;rw[jj]at hp;obtain⟨q,hq,rfl⟩:=aay.mp hp;rcases jt hq with⟨o,hm,rfl⟩|⟨i,hi,rfl⟩|rfl
  .have e:=n9 ho pO;have hb:0<(h.b:Int)*((ordK h.ss.length h.ss.length).length:Int):=abr (by omega) (by omega);have d:=nK (t:=(h.a:Int)*1) hb;rw[show((h.b:Int)*((ordK h.ss.length h.ss.length).length:Int)).toNat=h.b*(ordK h.ss.length h.ss.length).length by rw[<-aaI,aba]]at d;refine⟨by have:=e.hp;show 1≤(bF h).2.toNat;omega,?_,e.ha⟩;rw[ac6 h.b,]at d;exact acd d (by rw[<-adh];exact ahI _ _)
  .have so:=ho.ok h.ss[i] (abh _);have sa:=so.a2;refine⟨so.b1,acd (DW (abh hi)) (acd (acO _ _) (acO _ _)),?_⟩;show((h.ss[i].a:Nat):Int).natAbs<10^76;omega
  .have e:=md ho (k:=h.ss.length) (Io _);have d:=uG ho h.ss.length (Io _);rw[aag]at d;exact⟨by have:=e.hp;show 1≤(restF h h.ss.length).2.toNat;omega,acd d (acO _ _),e.ha⟩
 .have m1:h.b*bP h.ss≤1000000*1000000^4:=abd (by omega) p3;have m2:(ordK h.ss.length h.ss.length).length*(h.b*bP h.ss)≤24*(1000000*1000000^4):=abd nO m1;exact aaF m2 (by decide)
theorem C9(ho:h.Ok):(msL h).length≤29/\∀q∈msL h,q.1.Ok h/\q.2.natAbs<10^160:=by
 have n4:=ho.n4;have nO:=(de h.ss.length ho.n4 h.ss.length ho.n4).1;have B:=gG ho;have bL:botH h<10^76:=by have:=B.pre (shrL h).length;rw[aag]at this;exact this.2
 constructor
 .unfold msL shrM;rw[oR,aap,aap,oR,oR,acT]
  split<;>simp only[aaD,adE]<;>omega
 .intro q hq;obtain⟨z,hz,rfl⟩:=aay.mp hq;have d:=B.d (z.1.d,z.2) (by rw[jj];exact aay.mpr ⟨z,hz,rfl⟩);refine⟨Iz ho z hz,?_⟩;show(z.2.1*((botH h/z.2.2:Nat):Int)).natAbs<10^160;have e1:(z.2.1).natAbs<10^76:=d.2.2;have e2:(((botH h/z.2.2:Nat):Int)).natAbs<10^76:=by rw[aaq];exact aaF (adD _ _) bL
  exact tq (fU e1 e2)
theorem fm(L:List (Wd×Int)):isKd (kvA wdD L)=true:=by
 unfold kvA;rw[nR,adV];exact aca.mpr fun _ _=>rfl
def kr:SpM:=fun as K=>∃(h:Hall) (r:Rule) (W:List (Pt×Int)),as=[.imm h.d,.imm r.d,.imm (wtD W)]/\h.Ok/\r.Ok h/\(∀p∈W,St h r p.1.1 p.1.2/\p.2.natAbs<10^160)/\W.length≤100000/\K (.imm (.tuple [wtD (W.foldl (goW h r (msL h)) ([],[])).1,.dict (kvA wdD (W.foldl (goW h r (msL h)) ([],[])).2),.int (botH h:Int)])) []
structure GoOk(h:Hall)(r:Rule)(n:Nat)(x:List (Pt×Int)×List (Wd×Int)):Prop where
 st:∀p∈x.1,St h r p.1.1 p.1.2
 n1:x.1.length≤n
 n2:x.2.length≤n
theorem GoOk.next{x:List (Pt×Int)×List (Wd×Int)}(ho:h.Ok)(hr:r.Ok h)(X:GoOk h r n x){p:Pt}(hp:St h r p.1 p.2)(w:Int){q:Mv×Int}(hq:q.1.Ok h):GoOk h r (n+1) (goW1 h r p w q x):=by
 refine⟨fun z hz=>?_,aaz (jF _ _ _) (agY X.n1 1),aaz (jF _ _ _) (agY X.n2 1)⟩;rcases jE hz with e|⟨z',hz',e⟩
 .rw[e];exact h7 ho hr hp hq
 .rw[<-e];exact X.st z' hz'
theorem GoOk.all{h:Hall}{r:Rule}(ho:h.Ok)(hr:r.Ok h){p:Pt}(hp:St h r p.1 p.2)(w:Int):∀{M:Ms}{n:Nat}{x:List (Pt×Int)×List (Wd×Int)},(∀q∈M,q.1.Ok h)->GoOk h r n x->GoOk h r (n+M.length) (M.foldl (fun x q=>goW1 h r p w q x) x)
 |[],_,_,_,X=>X
 |q::M,n,x,hM,X=>by
  have:=GoOk.all ho hr hp w (M:=M) (fun z hz=>hM z (aab _ hz)) (X.next ho hr hp w (hM q aaf));rw[show n+(q::M).length=n+1+M.length by simp only[aaD];omega];exact this
def stW(h:Hall)(r:Rule):Nat->List (Pt×Int)
 |0=>[((zer h,0),1)]
 |k+1=>((stW h r k).foldl (goW h r (msL h)) ([],[])).1
def wdW(h:Hall)(r:Rule)(k:Nat):List (Wd×Int):=((stW h r k).foldl (goW h r (msL h)) ([],[])).2
def cntW(h:Hall)(r:Rule)(w:Wd):Nat->Int
 |0=>0
 |k+1=>cntW h r w k*(botH h:Int)+getA w (wdW h r k)
def p9(h:Hall)(r:Rule)(k:Nat):Int:=((stW h r k).map fun p=>p.2*(p.1.1.sum:Int)).sum
structure MnOk(h:Hall)(r:Rule)(n:Nat):Prop where
 l:∀k≤n,(stW h r k).length≤100000
 w:∀k≤n,∀p∈stW h r k,p.2.natAbs<10^90
 b:∀k≤n,botH h^k<10^90
 s:∀w,∀k≤n,(cntW h r w k).natAbs<10^90
theorem f8{h:Hall}{r:Rule}(ho:h.Ok)(hr:r.Ok h):∀k,∀p∈stW h r k,St h r p.1.1 p.1.2
 |0,p,hp=>by rw[aah.mp hp];exact dI ho r
 | k+1,p,hp=>by
  have ih:=f8 ho hr k;have key:∀(W:List (Pt×Int)) (n:Nat) (x:List (Pt×Int)×List (Wd×Int)),(∀p∈W,St h r p.1.1 p.1.2)->GoOk h r n x->∃n',GoOk h r n' (W.foldl (goW h r (msL h)) x):=by
   intro W
   induction W with
   |nil=>intro n x _ X;exact⟨n,X⟩
   |cons q W ihW =>
    intro n x hW X;exact ihW _ _ (fun z hz=>hW z (aab _ hz)) (GoOk.all ho hr (hW q aaf) q.2 (fun z hz=>((C9 ho).2 z hz).1) X)
  obtain⟨n',X⟩:=key (stW h r k) 0 ([],[]) ih ⟨fun _ hp=>(by cases hp),Io _,Io _⟩;exact X.st p hp
def mnD(h:Hall)(r:Rule)(n:Nat):iO:=.tuple [nf (p9 h r n) (botH h^n:Nat),nf (cntW h r .served n) (botH h^n:Nat),nf (cntW h r .away n) (botH h^n:Nat)]
def yc:SpM:=fun as K=>∃(h:Hall) (r:Rule) (n:Nat),as=[.imm h.d,.imm r.d,.imm (.int (n:Int))]/\h.Ok/\r.Ok h/\MnOk h r n/\n≤100/\K (.imm (mnD h r n)) []
theorem CQ{i:Nat}{d:iO}(e:(bG (kvA ptD W))[i]?=some d):∃pr:Pt×Int,W[i]?=some pr/\d = .tuple [ptD pr.1,.int pr.2]/\i<W.length:=by
 unfold bG kvA at e;rw[abe,aak]at e
 cases q:W[i]? with
 |none=>rw[q]at e;cases e
 |some pr =>
  rw[q]at e;exact⟨pr,rfl,(aau e).symm,(aad.mp q).1⟩
theorem Dg(W:List (Pt×Int)):(bG (kvA ptD W)).length=W.length:=by
 unfold bG kvA;rw[oR,oR]
theorem me(l:List Nat):d8 (natD l)=some (l.map fun(x:Nat)=>(x:Int)):=by
 have:=fi (l.map fun(x:Nat)=>(x:Int));rwa[abe]at this
theorem l9:∀l:List Nat,(l.map fun(x:Nat)=>(x:Int)).sum=(l.sum:Int)
 |[]=>rfl
 |x::l=>by rw[aai,abo];rw[abo,l9 l];rfl
theorem ii(ho:h.Ok)(L:Lines h l):l.sum≤24:=by
 have n4:=ho.n4;have key:∀l:List Nat,(∀x∈l,x≤6)->l.sum≤6*l.length:=by
  intro l
  induction l with
  |nil=>intro _;exact Io _
  |cons x l ih =>
   intro hx;have:=ih fun y hy=>hx y (aab _ hy);have:=hx x aaf;rw[abo,aaD];omega
 have:=key l fun x hx=>L.le ho x hx;have:=L.1;omega
theorem sd{α:Type}{f:α->Int}{B:Nat}:∀{L:List α},(∀x∈L,(f x).natAbs≤B)->((L.map f).sum).natAbs≤L.length*B
 |[],_=>acL _
 |x::L,h=>by
  have ih:=sd (f:=f) (L:=L) fun y hy=>h y (aab _ hy);have h0:=h x aaf;rw[aai,abo,aaD,agT,ahZ];have:=ahF (f x) (L.map f).sum;omega
theorem IX(ho:h.Ok)(hr:r.Ok h)(M:MnOk h r n):(p9 h r n).natAbs<10^160:=by
 have h1:=sd (f:=fun p:Pt×Int=>p.2*(p.1.1.sum:Int)) (B:=10^90*24) (L:=stW h r n) fun p hp=>by
  rw[adn,aaq];exact abd (adQ (M.w n (Io _) p hp)) (ii ho (f8 ho hr n p hp).ln)
 have h2:(stW h r n).length*(10^90*24)≤100000*(10^90*24):=abd (M.l n (Io _)) (Io _);exact aaF (aaz h1 h2) (by decide)
theorem cj{b:Int}(hb:0<b):(nfP t b).1*b=t*(nfP t b).2:=by
 have gb:((t.natAbs.gcd b.natAbs:Nat):Int) ∣ b:=ab8.mpr (acx _ _);have gt:((t.natAbs.gcd b.natAbs:Nat):Int) ∣ t:=ab8.mpr (adW _ _);have g1:0<t.natAbs.gcd b.natAbs:=abg _ (by omega);unfold nfP;rw[if_neg (by omega)];show t/((t.natAbs.gcd b.natAbs:Nat):Int)*b=t*(b/((t.natAbs.gcd b.natAbs:Nat):Int));generalize t.natAbs.gcd b.natAbs=g at *;obtain⟨x,hx⟩:=gt;obtain⟨y,hy⟩:=gb;have e1:t/(g:Int)=x:=by rw[hx];exact adi _ (by omega)
 have e2:b/(g:Int)=y:=by rw[hy];exact adi _ (by omega)
 rw[e1,e2,hx,hy];simp only[aaO,aaH,aaK]
def vF(D:Nat)(n:Int)(d:Nat):Int:=n*((D/d:Nat):Int)
theorem oG{D d:Nat}{n b:Int}(hd:d ∣ D)(e:n*b=t*(d:Int)):vF D n d*b=t*(D:Int):=by
 have eD:(D:Int)=(d:Int)*((D/d:Nat):Int):=by rw[<-aaI,ag9 hd]
 unfold vF
 calc n*((D/d:Nat):Int)*b=(n*b)*((D/d:Nat):Int):=by simp only[aaO,aaH,aaK]
  _=t*(D:Int):=by rw[e,eD];simp only[aaO,aaH,aaK]
theorem iy{p:Pr}(hp:p∈L):p.2.2 ∣ botL L:=by
 have keep:∀(L:List Pr) (m:Nat),m ∣ L.foldl (fun m p=>m.lcm p.2.2) m:=by
  intro L
  induction L with
  |nil=>intro m;exact ahJ _
  |cons x L ih=>intro m;exact acd (Nat.dvd_lcm_left _ _) (ih _)
 have key:∀(L:List Pr) (m:Nat),p∈L->p.2.2 ∣ L.foldl (fun m p=>m.lcm p.2.2) m:=by
  intro L
  induction L with
  |nil=>intro m h;cases h
  |cons x L ih =>
   intro m h
   cases h with
   |head=>exact acd (Nat.dvd_lcm_right _ _) (keep _ _)
   |tail _ h=>exact ih _ h
 exact key L 1 hp
def tT(h:Hall):Nat->Int
 |0=>(h.b:Int)-(h.a:Int)
 |k+1=>match h.ss[k]? with
  |some s=>tT h k*(s.b:Int)-(s.a:Int)*((h.b*bP (h.ss.take k):Nat):Int)
  |none=>tT h k
theorem x6{k:Nat}(hk:k<h.ss.length):bP (h.ss.take (k+1))=bP (h.ss.take k)*h.ss[k].b:=by
 rw[abt,Ge hk];exact rb _ _
theorem gi{h:Hall}(ho:h.Ok):∀k,k≤h.ss.length->(restF h k).1*((h.b*bP (h.ss.take k):Nat):Int)=tT h k*(restF h k).2
 |0,_=>by
  have b1:=ho.b1;have:=cj (t:=1*(h.b:Int)-(h.a:Int)*1) (b:=1*(h.b:Int)) (by omega);rw[restF,tT];show _*((h.b*1:Nat):Int)=_;rw[ah0];rw[agZ,ado]at this;rw[agZ,ado];exact this
 | k+1,hk=>by
  have ih:=gi ho k (by omega);have i1:=(fe ho k (by omega)).1;have es:h.ss[k]?=some h.ss[k]:=Ge (by omega);have so:=ho.ok h.ss[k] (abh _);have sb1:=so.b1;have hb:0<(restF h k).2*(h.ss[k].b:Int):=abr i1 (by omega);have c:=cj (t:=(restF h k).1*(h.ss[k].b:Int)-(h.ss[k].a:Int)*(restF h k).2) hb;rw[restF,tT,es,x6 (by omega)];show(nfP _ _).1*_=(tT h k*(h.ss[k].b:Int)-(h.ss[k].a:Int)*_)*(nfP _ _).2;generalize nfP ((restF h k).1*(h.ss[k].b:Int)-(h.ss[k].a:Int)*(restF h k).2) ((restF h k).2*(h.ss[k].b:Int))=z at *;rw[<-adh,aaI (h.b*bP (h.ss.take k))];generalize ((h.b*bP (h.ss.take k):Nat):Int)=P at *;generalize (h.ss[k].b:Int)=B at *;generalize (h.ss[k].a:Int)=S at *;generalize (restF h k).1=r1 at *;generalize (restF h k).2=r2 at *;generalize tT h k=T at *;refine Int.eq_of_mul_eq_mul_left (a:=r2) (by omega) ?_
  calc r2*(z.1*(P*B))=P*(z.1*(r2*B)):=by simp only[aaO,aaH,aaK]
   _=P*((r1*B-S*r2)*z.2):=by rw[c]
   _=((r1*P)*B-S*r2*P)*z.2:=by simp only[aeV,Int.mul_sub,aaO,aaH,aaK]
   _=((T*r2)*B-S*r2*P)*z.2:=by rw[ih]
   _=r2*((T*B-S*P)*z.2):=by simp only[aeV,Int.mul_sub,aaO,aaH,aaK]
def dnS(h:Hall)(D:Nat):Nat->Int
 |0=>0
 |k+1=>match h.ss[k]? with
  |some s=>dnS h D k+vF D (s.a:Int) s.b
  |none=>dnS h D k
theorem iP{h:Hall}(ho:h.Ok){D:Nat}{C:Int}(hC:C*(h.b:Int)=(h.a:Int)*(D:Int))(hD:∀s∈h.ss,s.b ∣ D):∀k,k≤h.ss.length->((D:Int)-C-dnS h D k)*((h.b*bP (h.ss.take k):Nat):Int)=tT h k*(D:Int)
 |0,_=>by
  rw[dnS,tT];show((D:Int)-C-0)*((h.b*1:Nat):Int)=_;rw[ah0,Int.sub_zero,aeV,aeV,hC,aaO (D:Int)]
 | k+1,hk=>by
  have ih:=iP ho hC hD k (by omega);have es:h.ss[k]?=some h.ss[k]:=Ge (by omega);have c:=oG (D:=D) (d:=h.ss[k].b) (n:=(h.ss[k].a:Int)) (t:=(h.ss[k].a:Int)) (b:=(h.ss[k].b:Int)) (hD _ (abh _)) rfl;rw[dnS,tT,es,x6 (by omega)];show((D:Int)-C-(dnS h D k+vF D (h.ss[k].a:Int) h.ss[k].b))*_=(tT h k*(h.ss[k].b:Int)-(h.ss[k].a:Int)*_)*(D:Int);rw[<-adh,aaI (h.b*bP (h.ss.take k))];generalize vF D (h.ss[k].a:Int) h.ss[k].b=v at *;generalize ((h.b*bP (h.ss.take k):Nat):Int)=P at *;generalize (h.ss[k].b:Int)=B at *;generalize (h.ss[k].a:Int)=S at *;generalize dnS h D k=A at *;generalize tT h k=T at *;generalize (D:Int)=E at *;have e0:(E-C-(A+v))*(P*B)=((E-C-A)*P)*B-(v*B)*P:=by
   rw[show E-C-(A+v)=(E-C-A)-v by omega,aeV];simp only[aaO,aaH,aaK]
  calc (E-C-(A+v))*(P*B)=((E-C-A)*P)*B-(v*B)*P:=e0
   _=(T*E)*B-(S*E)*P:=by rw[ih,c]
   _=(T*B-S*P)*E:=by rw[aeV];simp only[aaO,aaH,aaK]
theorem Kz(h:Hall)(D:Nat):((h.ss.zipIdx.map fun q=>((q.1.a:Int)*((D/q.1.b:Nat):Int))).sum)=dnS h D h.ss.length:=by
 have key:∀k,k≤h.ss.length->(((h.ss.take k).map fun s=>((s.a:Int)*((D/s.b:Nat):Int))).sum)=dnS h D k:=by
  intro k
  induction k with
  |zero=>intro _;rfl
  |succ k ih =>
   intro hk;have es:h.ss[k]?=some h.ss[k]:=Ge (by omega);rw[dnS,es,abt,es,aaG,ac3,ih (by omega)];simp[vF]
 have e:=key h.ss.length (Io _);rw[aag]at e;rw[<-e]
 congr 1
 refine acw fun i=>?_;rw[aak,aak,aeT]
 cases h.ss[i]?<;>rfl
theorem pc{α:Type}(c:Int):∀l:List α,(l.map fun _=>c).sum=(l.length:Int)*c
 |[]=>by simp
 |x::l=>by rw[aai,abo,pc c l,aaD];rw[ab7,aeW];simp;omega
theorem yt(ho:h.Ok)(h0:0≤(restF h h.ss.length).1):((msL h).map (·.2)).sum=(botH h:Int):=by
 have b1:=ho.b1;have pO:=cR h.ss.length ho.n4;have B:=gG ho;have bp:1≤botH h:=by have:=B.pre (shrL h).length;rw[aag]at this;exact this.1
 have memC:∀o∈ordK h.ss.length h.ss.length,prF (Mv.come o).d (bF h)∈shrL h:=fun o hm=>by
  unfold shrL;exact aa2.mpr (.inl (aa2.mpr (.inl (aay.mpr ⟨o,hm,rfl⟩))))
 have dvC:(bF h).2.toNat ∣ botH h:=by
  obtain⟨o,hm⟩:=List.exists_mem_of_length_pos pO;exact iy (memC o hm)
 have hbn:0<(h.b:Int)*((ordK h.ss.length h.ss.length).length:Int):=abr (by omega) (by omega);have eo:=n9 ho pO;have eC:vF (botH h) (bF h).1 (bF h).2.toNat*((h.b:Int)*((ordK h.ss.length h.ss.length).length:Int))=(h.a:Int)*1*(botH h:Int):=by
  refine oG dvC ?_;rw[show(((bF h).2.toNat:Nat):Int)=(bF h).2 by have:=eo.hp;omega];exact cj hbn
 have hC:(((ordK h.ss.length h.ss.length).length:Int)*vF (botH h) (bF h).1 (bF h).2.toNat)*(h.b:Int)=(h.a:Int)*(botH h:Int):=by
  rw[ado]at eC;rw[<-eC];simp only[aaO,aaH,aaK]
 have hD:∀s∈h.ss,s.b ∣ botH h:=fun s hs=>by
  obtain⟨i,hi,rfl⟩:=abB.mp hs;have:((Mv.done i).d,(h.ss[i].a:Int),h.ss[i].b)∈shrL h:=by
   rw[jj];refine aay.mpr ⟨(Mv.done i,(h.ss[i].a:Int),h.ss[i].b),?_,rfl⟩;unfold shrM;refine aa2.mpr (.inl (aa2.mpr (.inr (aay.mpr ⟨(h.ss[i],i),?_,rfl⟩))));exact abB.mpr ⟨i,by rw[acT];exact hi,by rw[ag8,ab5]⟩
  exact iy this
 have lc:=iP ho hC hD h.ss.length (Io _);have rc:=gi ho h.ss.length (Io _);obtain⟨p1,_⟩:=AU ho.ok;rw[aag]at lc rc;have Ppos:0<((h.b*bP h.ss:Nat):Int):=by have:=aeU b1 p1;omega
 have es:((msL h).map (·.2)).sum=((ordK h.ss.length h.ss.length).length:Int)*vF (botH h) (bF h).1 (bF h).2.toNat+dnS h (botH h) h.ss.length+if 0<(restF h h.ss.length).1 then vF (botH h) (restF h h.ss.length).1 (restF h h.ss.length).2.toNat else 0:=by
  unfold msL shrM;rw[abe,aaG,aaG,ac3,ac3,abe,abe]
  congr 1
  .congr 1
   .exact pc (vF (botH h) (bF h).1 (bF h).2.toNat) (ordK h.ss.length h.ss.length)
   .exact Kz h (botH h)
  .split
   .simp[vF]
   .rfl
 rw[es];have rp:=(fe ho h.ss.length (Io _)).1
 by_cases c:0<(restF h h.ss.length).1
 .rw[if_pos c];have dvR:(restF h h.ss.length).2.toNat ∣ botH h:=by
   have:prF Mv.still.d (restF h h.ss.length)∈shrL h:=by
    unfold shrL;rw[if_pos c];exact aa2.mpr (.inr (aah.mpr rfl))
   exact iy this
  have eR:=oG (D:=botH h) (n:=(restF h h.ss.length).1) (t:=tT h h.ss.length) (b:=((h.b*bP h.ss:Nat):Int)) dvR (by rw[rc,show(((restF h h.ss.length).2.toNat:Nat):Int)=(restF h h.ss.length).2 by omega]);have:=acU (a:=((h.b*bP h.ss:Nat):Int)) (by omega) (eR.trans lc.symm);omega
 .rw[if_neg c];have r0:(restF h h.ss.length).1=0:=by omega
  rw[r0,ags]at rc;have t0:tT h h.ss.length=0:=by
   rcases Int.mul_eq_zero.mp rc.symm with z|z
   .exact z
   .omega
  rw[t0,ags]at lc;rcases Int.mul_eq_zero.mp lc with z|z
  .omega
  .omega
def sumA{α:Type}(L:List (α×Int)):Int:=(L.map (·.2)).sum
theorem ou{α:Type}[DecidableEq α](a:α)(x:Int):∀L:List (α×Int),sumA (addA a x L)=sumA L+x
 |[]=>by show x+0=0+x;omega
 |p::r=>by
  have ih:=ou a x r;unfold addA;split
  .show p.2+x+sumA r=p.2+sumA r+x;omega
  .show p.2+sumA (addA a x r)=p.2+sumA r+x;omega
theorem qX{α:Type}[DecidableEq α]{a:α}{x:Int}(hx:0≤x):∀{L:List (α×Int)},(∀p∈L,0≤p.2)->∀p∈addA a x L,0≤p.2
 |[],_,p,hp=>by rw[aah.mp hp];exact hx
 | q::r,h,p,hp=>by
  have hq:=h q aaf;unfold addA at hp
  split at hp
  .cases hp with
   |head=>show 0≤q.2+x;omega
   |tail _ hp=>exact h p (aab _ hp)
  .cases hp with
   |head=>exact hq
   |tail _ hp=>exact qX hx (fun z hz=>h z (aab _ hz)) p hp
theorem Aw{h:Hall}{r:Rule}{p:Pt}{w:Int}:∀{M:Ms}{x:List (Pt×Int)×List (Wd×Int)},sumA (M.foldl (fun x q=>goW1 h r p w q x) x).1=sumA x.1+w*(M.map (·.2)).sum/\sumA (M.foldl (fun x q=>goW1 h r p w q x) x).2=sumA x.2+w*(M.map (·.2)).sum
 |[],x=>by constructor<;>(show sumA _=sumA _+w*0;rw[ac9,adz];rfl)
 |q::M,x=>by
  obtain⟨i1,i2⟩:=Aw (h:=h) (r:=r) (p:=p) (w:=w) (M:=M) (x:=goW1 h r p w q x);rw[abP,i1,i2];unfold goW1;dsimp only;rw[ou,ou,aai,abo,aeo];constructor<;>omega
theorem yN{h:Hall}{r:Rule}:∀{W:List (Pt×Int)}{x:List (Pt×Int)×List (Wd×Int)},sumA (W.foldl (goW h r (msL h)) x).1=sumA x.1+sumA W*((msL h).map (·.2)).sum/\sumA (W.foldl (goW h r (msL h)) x).2=sumA x.2+sumA W*((msL h).map (·.2)).sum
 |[],x=>by constructor<;>(show sumA _=sumA _+0*_;rw[ags,adz];rfl)
 |p::W,x=>by
  obtain⟨i1,i2⟩:=yN (h:=h) (r:=r) (W:=W) (x:=goW h r (msL h) x p);obtain⟨j1,j2⟩:=Aw (h:=h) (r:=r) (p:=p.1) (w:=p.2) (M:=msL h) (x:=x);rw[abP,i1,i2];rw[show goW h r (msL h) x p=(msL h).foldl (fun x q=>goW1 h r p.1 p.2 q x) x from rfl,j1,j2];rw[show sumA (p::W)=p.2+sumA W from rfl,aeW];constructor<;>omega
theorem ls{h:Hall}(ho:h.Ok)(h0:0≤(restF h h.ss.length).1)(r:Rule):∀k,sumA (stW h r k)=((botH h^k:Nat):Int)
 |0=>rfl
 |k+1=>by
  rw[stW,yN.1,yt ho h0,ls ho h0 r k,acI,aaI];show 0+_=_;omega
theorem MJ(ho:h.Ok)(h0:0≤(restF h h.ss.length).1)(r:Rule)(k:Nat):sumA (wdW h r k)=((botH h^(k+1):Nat):Int):=by
 rw[wdW,yN.2,yt ho h0,ls ho h0 r k,acI,aaI];show 0+_=_;omega
theorem QZ(ho:h.Ok)(h0:0≤(restF h h.ss.length).1):∀q∈msL h,0≤q.2:=fun q hq=>by
 obtain⟨z,hz,rfl⟩:=aay.mp hq;refine acV ?_ (aft _);rcases jt hz with⟨o,hm,rfl⟩|⟨i,hi,rfl⟩|rfl
 .show 0≤(bF h).1;unfold bF nfP;have b1:=ho.b1;have pO:=cR h.ss.length ho.n4;have hb:0<(h.b:Int)*((ordK h.ss.length h.ss.length).length:Int):=abr (by omega) (by omega);rw[if_neg (by omega)];exact ae7 (by omega) (by omega)
 .show 0≤((h.ss[i].a:Nat):Int);omega
 .exact h0
theorem Lw{h:Hall}{r:Rule}{M:Ms}(hM:∀q∈M,0≤q.2){p:Pt}{w:Int}(hw:0≤w):∀{N:Ms}{x:List (Pt×Int)×List (Wd×Int)},(∀q∈N,q∈M)->(∀z∈x.1,0≤z.2)/\(∀z∈x.2,0≤z.2)->(∀z∈(N.foldl (fun x q=>goW1 h r p w q x) x).1,0≤z.2)/\∀z∈(N.foldl (fun x q=>goW1 h r p w q x) x).2,0≤z.2
 |[],x,_,hx=>hx
 |q::N,x,hN,hx=>Lw hM hw (N:=N) (fun z hz=>hN z (aab _ hz)) ⟨qX (acV hw (hM q (hN q aaf))) hx.1,qX (acV hw (hM q (hN q aaf))) hx.2⟩
theorem yK{h:Hall}(ho:h.Ok)(h0:0≤(restF h h.ss.length).1)(r:Rule):∀{W:List (Pt×Int)}{x:List (Pt×Int)×List (Wd×Int)},(∀z∈W,0≤z.2)->(∀z∈x.1,0≤z.2)/\(∀z∈x.2,0≤z.2)->(∀z∈(W.foldl (goW h r (msL h)) x).1,0≤z.2)/\∀z∈(W.foldl (goW h r (msL h)) x).2,0≤z.2
 |[],x,_,hx=>hx
 |p::W,x,hW,hx=>yK ho h0 r (W:=W) (fun z hz=>hW z (aab _ hz)) (Lw (QZ ho h0) (hW p aaf) (fun _ h=>h) hx)
theorem vO{h:Hall}(ho:h.Ok)(h0:0≤(restF h h.ss.length).1)(r:Rule):∀k,∀p∈stW h r k,0≤p.2
 |0,p,hp=>by rw[aah.mp hp];exact Int.one_nonneg
 |k+1,p,hp=>(yK ho h0 r (vO ho h0 r k) ⟨fun _ z=>(by cases z),fun _ z=>(by cases z)⟩).1 p hp
theorem gf{α:Type}:∀{L:List (α×Int)},(∀p∈L,0≤p.2)->0≤sumA L/\∀p∈L,p.2≤sumA L
 |[],_=>⟨aep _,fun _ h=>(by cases h)⟩
 |q::L,h=>by
  obtain⟨i1,i2⟩:=gf (L:=L) fun p hp=>h p (aab _ hp);have hq:=h q aaf;have e:sumA (q::L)=q.2+sumA L:=rfl;rw[e];refine⟨by omega,fun p hp=>?_⟩
  cases hp with
  |head=>omega
  |tail _ hp=>have:=i2 p hp;omega
theorem tF{α:Type}[DecidableEq α](a:α):∀{L:List (α×Int)},(∀p∈L,0≤p.2)->0≤getA a L/\getA a L≤sumA L
 |[],_=>⟨aep 0,aep 0⟩
 |q::L,h=>by
  have i:=tF a (L:=L) fun p hp=>h p (aab _ hp);have s:=(gf (L:=L) fun p hp=>h p (aab _ hp)).1;have hq:=h q aaf;have e:sumA (q::L)=q.2+sumA L:=rfl;rw[e];unfold getA
  split<;>omega
theorem xV{h:Hall}(ho:h.Ok)(h0:0≤(restF h h.ss.length).1)(r:Rule)(w:Wd):∀k,0≤cntW h r w k/\cntW h r w k≤(k:Int)*((botH h^k:Nat):Int)
 |0=>⟨aep 0,by show(0:Int)≤0*_;rw[ags];exact aep 0⟩
 |k+1=>by
  obtain⟨i1,i2⟩:=xV ho h0 r w k;have nn:=(yK ho h0 r (vO ho h0 r k) (x:=([],[])) ⟨fun _ z=>(by cases z),fun _ z=>(by cases z)⟩).2;obtain⟨g1,g2⟩:=tF w (L:=wdW h r k) nn;rw[MJ ho h0 r k]at g2;rw[cntW];have b0:(0:Int)≤(botH h:Int):=aft _;have m0:=acV i1 b0;have m1:=Int.mul_le_mul_of_nonneg_right i2 b0;refine⟨by omega,?_⟩;have e:(k:Int)*((botH h^k:Nat):Int)*(botH h:Int)=(k:Int)*((botH h^(k+1):Nat):Int):=by rw[acI,aaI,aaK]
  rw[e]at m1;rw[ab7,aeW];show _≤_+1*_;rw[agZ];omega
theorem ko{α:Type}[DecidableEq α]{a:α}{x:Int}:∀{L:List (α×Int)},(L.map (·.1)).Nodup->((addA a x L).map (·.1)).Nodup
 |[],_=>by simp[addA]
 | q::r,h=>by
  rw[aai,aaV]at h;unfold addA;split
  .exact aaV.mpr ⟨h.1,h.2⟩
  .rename_i ne;refine aaV.mpr ⟨fun hm=>?_,ko h.2⟩;obtain⟨z,hz,e⟩:=aay.mp hm;rcases jE hz with e'|⟨y,hy,e'⟩
   .exact ne (e.symm.trans e')
   .exact h.1 (aay.mpr ⟨y,hy,e'.trans e⟩)
theorem yx{h:Hall}{r:Rule}:∀{W:List (Pt×Int)}{x:List (Pt×Int)×List (Wd×Int)},(x.1.map (·.1)).Nodup->((W.foldl (goW h r (msL h)) x).1.map (·.1)).Nodup
 |[],x,hx=>hx
 | p::W,x,hx=>by
  have key:∀(M:Ms) (x:List (Pt×Int)×List (Wd×Int)),(x.1.map (·.1)).Nodup->((M.foldl (fun x q=>goW1 h r p.1 p.2 q x) x).1.map (·.1)).Nodup:=by
   intro M
   induction M with
   |nil=>intro x hx;exact hx
   |cons q M ih=>intro x hx;exact ih _ (ko hx)
  exact yx (W:=W) (key (msL h) x hx)
theorem nr:∀k,((stW h r k).map (·.1)).Nodup
 |0=>by simp[stW]
 |k+1=>yx (by simp)
theorem jJ{α:Type}[DecidableEq α]:∀{l m:List α},l.Nodup->(∀x∈l,x∈m)->l.length≤m.length
 |[],_,_,_=>acL _
 | a::l,m,h,hs=>by
  rw[aaV]at h;have ha:=hs a aaf;have ih:=jJ (l:=l) (m:=m.erase a) h.2 fun x hx=>by
   have hne:x≠a:=fun z=>h.1 (z▸hx);exact(List.mem_erase_of_ne hne).mpr (hs x (aab _ hx))
  have:=List.length_erase_of_mem ha;have:=List.length_pos_of_mem ha;rw[aaD];omega
theorem uK:∀{rs l:List Nat},M7.Fits rs l->l∈M3.allR rs
 |[],[],_=>aah.mpr rfl
 |r::rs,x::l,h=>by
  have h1:x≤r:=h.1;exact aby.mpr ⟨x,aer.mpr (by omega),aay.mpr ⟨l,uK h.2,rfl⟩⟩
 |[],_::_,h=>h.elim
 |_::_,[],h=>h.elim
theorem FC(ho:h.Ok)(hr:r.Ok h)(k:Nat):(stW h r k).length≤100000:=by
 have sm:=lp (rs:=h.rs) (by rw[h.rsl];exact ho.n4) ho.r6;have sub:∀p∈(stW h r k).map (·.1),p∈(M3.allR h.rs).flatMap fun l=>[(l,0),(l,1),(l,2),(l,3)]:=fun p hp=>by
  obtain⟨z,hz,rfl⟩:=aay.mp hp;have S:=f8 ho hr k z hz;refine aby.mpr ⟨z.1.1,uK S.ln.fits,?_⟩;have ts:=S.ts;obtain⟨⟨l,t⟩,w⟩:=z;dsimp only at ts⊢;have:t=0\/t=1\/t=2\/t=3:=by omega
  rcases this with e|e|e|e<;>rw[e]<;>simp
 have le:=jJ (nr k) sub;rw[oR,List.length_flatMap]at le;have e:∀L:List (List Nat),((L.map fun l=>[(l,0),(l,1),(l,2),(l,(3:Nat))].length)).sum=4*L.length:=by
  intro L
  induction L with
  |nil=>rfl
  |cons x L ih =>
   show 4+((L.map fun l=>[(l,0),(l,1),(l,2),(l,(3:Nat))].length)).sum=4*(L.length+1);rw[ih];omega
 rw[e]at le;omega
theorem Oo(ho:h.Ok)(hr:r.Ok h)(h0:0≤(restF h h.ss.length).1)(hn:n≤100)(hb:botH h^n<10^76):MnOk h r n:=by
 have bp:1≤botH h:=by have:=(gG ho).pre (shrL h).length;rw[aag]at this;exact this.1
 have pw:∀k≤n,botH h^k<10^76:=fun k hk=>aaF (abO bp hk) hb;have up:∀{z:Nat},z<10^76->z<10^90:=fun hz=>aaE hz (by decide);refine⟨fun k _=>FC ho hr k,fun k hk p hp=>?_,fun k hk=>up (pw k hk),fun w k hk=>?_⟩
 .have nn:=vO ho h0 r k;have l1:=(gf nn).2 p hp;have l2:=nn p hp;rw[ls ho h0 r k]at l1;have:=pw k hk;refine up ?_;omega
 .obtain⟨c1,c2⟩:=xV ho h0 r w k;have p1:=pw k hk;have m1:(k:Int)*((botH h^k:Nat):Int)≤100*((10^76:Nat):Int):=agX (by omega) (by omega) (aft _) (by omega);have m2:((100*10^76:Nat):Int)=100*((10^76:Nat):Int):=by rw[aaI];rfl
  have m3:100*10^76<10^90:=by decide
  refine aaF (m:=100*10^76) ?_ m3;omega
theorem nq{b:Int}(hb:0<b):aeq (nfP t b).1.natAbs (nfP t b).2.natAbs:=by
 have g1:0<t.natAbs.gcd b.natAbs:=abg _ (by omega);have gb:((t.natAbs.gcd b.natAbs:Nat):Int) ∣ b:=ab8.mpr (acx _ _);have gt:((t.natAbs.gcd b.natAbs:Nat):Int) ∣ t:=ab8.mpr (adW _ _);unfold nfP;rw[if_neg (by omega)];show aeq (t/((t.natAbs.gcd b.natAbs:Nat):Int)).natAbs (b/((t.natAbs.gcd b.natAbs:Nat):Int)).natAbs;rw[aex gt,aex gb,aaq];exact Nat.coprime_div_gcd_div_gcd g1
theorem r4{p q b:Int}(c:aeq p.natAbs q.natAbs)(e:p*b=a*q):q.natAbs ∣ b.natAbs:=by
 have e':p.natAbs*b.natAbs=a.natAbs*q.natAbs:=by rw[<-adn,<-adn,e]
 have:q.natAbs ∣ b.natAbs*p.natAbs:=by rw[ac6,e'];exact acO _ _
 exact aeq.dvd_of_dvd_mul_right c.symm this
theorem LZ{p q p' q':Int}(hq:0<q)(hq':0<q')(c:aeq p.natAbs q.natAbs)(c':aeq p'.natAbs q'.natAbs)(e:p*q'=p'*q):(p,q)=(p',q'):=by
 have d1:=r4 c e;have d2:=r4 c' e.symm;have eq:q=q':=by
  have:=Nat.dvd_antisymm d1 d2;omega
 subst eq;rw[acU (by omega) e]
theorem mR{b t' b':Int}(hb:0<b)(hb':0<b')(e:t*b'=t'*b):nfP t b=nfP t' b':=by
 refine LZ (ga hb).1 (ga hb').1 (nq hb) (nq hb') ?_;have e1:=cj (t:=t) hb;have e2:=cj (t:=t') hb';have hbb:b*b'≠0:=oa hb hb';refine acU hbb ?_
 calc (nfP t b).1*(nfP t' b').2*(b*b')=((nfP t b).1*b)*((nfP t' b').2*b'):=by simp only[aaO,aaH,aaK]
  _=t*b'*((nfP t b).2*(nfP t' b').2):=by rw[e1];simp only[aaO,aaH,aaK]
  _=(t'*(nfP t' b').2)*((nfP t b).2*b):=by rw[e];simp only[aaO,aaH,aaK]
  _=(nfP t' b').1*(nfP t b).2*(b*b'):=by rw[<-e2];simp only[aaO,aaH,aaK]
theorem C5{w:Int}(hD:0<D):nfP ((nfP v D).1*(nfP w D).2+(nfP w D).1*(nfP v D).2) ((nfP v D).2*(nfP w D).2)=nfP (v+w) D:=by
 have e1:=cj (t:=v) hD;have e2:=cj (t:=w) hD;refine mR (abr (ga hD).1 (ga hD).1) hD ?_;rw[aeW,aeW]
 congr 1
 .calc (nfP v D).1*(nfP w D).2*D=((nfP v D).1*D)*(nfP w D).2:=by simp only[aaO,aaH,aaK]
   _=v*((nfP v D).2*(nfP w D).2):=by rw[e1,aaK]
 .calc (nfP w D).1*(nfP v D).2*D=((nfP w D).1*D)*(nfP v D).2:=by simp only[aaO,aaH,aaK]
   _=w*((nfP v D).2*(nfP w D).2):=by rw[e2];simp only[aaO,aaH,aaK]
theorem y8{b k:Int}(hD:0<D)(hb:0<b)(hk:0<k):nfP ((nfP v D).1*a) ((nfP v D).2*b)=nfP (v*(a*k)) (D*(b*k)):=by
 have e1:=cj (t:=v) hD;refine mR (abr (ga hD).1 hb) (abr hD (abr hb hk)) ?_
 calc (nfP v D).1*a*(D*(b*k))=((nfP v D).1*D)*(a*b*k):=by simp only[aaO,aaH,aaK]
  _=v*(a*k)*((nfP v D).2*b):=by rw[e1];simp only[aaO,aaH,aaK]
theorem oh(hD:0<D):nfP 0 D=(0,1):=by
 unfold nfP;rw[if_neg (by omega),show((0:Int).natAbs)=0 from rfl,Nat.gcd_zero_left,Int.zero_ediv,show((D.natAbs:Nat):Int)=D by omega,Int.ediv_self (by omega)]
theorem uB(hD:0<D)(h1:v.natAbs<10^76)(h2:D.natAbs<10^76):FrOk (nfP v D).1 (nfP v D).2:=by
 obtain⟨e1,e2,e3⟩:=ga (t:=v) hD;exact⟨aaF e3 h1,by omega,e1⟩
theorem i8(v D:Int):nf v D=frT (nfP v D).1 (nfP v D).2:=rfl
section
variable {α:Type} [deq:DecidableEq α]
def kvG(enc:α->iO)(f:Int->iO)(L:List (α×Int)):List (iO×iO):=L.map fun p=>(enc p.1,f p.2)
theorem y0{enc:α->iO}{f:Int->iO}(he:∀a b,aaw (enc a) (enc b)=decide (a=b))(a:α):∀L:List (α×Int),(fO (enc a) (kvG enc f L)).getD (f 0)=f (getA a L)
 |[]=>rfl
 |p::r=>by
  show(if aaw (enc p.1) (enc a)=true then some (f p.2)else fO (enc a) (kvG enc f r)).getD (f 0)=f (if p.1=a then p.2 else getA a r);rw[he]
  by_cases c:p.1=a
  .rw[if_pos c,if_pos (decide_eq_true c)];rfl
  .rw[if_neg c,if_neg (by rw[decide_eq_false c];decide)];exact y0 he a r
theorem FV{enc:α->iO}{f:Int->iO}(he:∀a b,aaw (enc a) (enc b)=decide (a=b))(a:α)(x:Int):∀L:List (α×Int),putP (enc a) (f (getA a L+x)) (kvG enc f L)=kvG enc f (addA a x L)
 |[]=>by show [(enc a,f (0+x))]=_;rw[ady];rfl
 |p::r=>by
  show(if aaw (enc p.1) (enc a)=true then(enc p.1,f ((if p.1=a then p.2 else getA a r)+x))::kvG enc f r else(enc p.1,f p.2)::putP (enc a) (f ((if p.1=a then p.2 else getA a r)+x)) (kvG enc f r))=kvG enc f (if p.1=a then(p.1,p.2+x)::r else p::addA a x r);rw[he]
  by_cases c:p.1=a
  .rw[if_pos c,if_pos c,if_pos (decide_eq_true c)];rfl
  .rw[if_neg c,if_neg c,if_neg (by rw[decide_eq_false c];decide),FV he a x r];rfl
end
def frV(D:Int)(v:Int):iO:=nf v D
def shD(D:Int)(W:List (Pt×Int)):List (iO×iO):=kvG ptD (frV D) W
structure OfS(h:Hall)(S:Nat):Prop where
 s1:1≤S
 s2:S≤9700
 hb:h.b ∣ S
 hs:∀s∈h.ss,s.b ∣ S
 le:(h.a:Int)*((S/h.b:Nat):Int)+dnS h S h.ss.length≤(S:Int)
theorem OfS.lf(ho:h.Ok)(O:OfS h S):((S:Int)-(h.a:Int)*((S/h.b:Nat):Int)-dnS h S h.ss.length)*((h.b*bP h.ss:Nat):Int)=tT h h.ss.length*(S:Int):=by
 have hC:((h.a:Int)*((S/h.b:Nat):Int))*(h.b:Int)=(h.a:Int)*(S:Int):=by
  rw[aaK,<-aaI,ahq O.hb]
 have:=iP ho hC O.hs h.ss.length (Io _);rwa[aag]at this
theorem OfS.bp(ho:h.Ok)(O:OfS h S):0<((h.b*bP h.ss:Nat):Int):=by
 have b1:=ho.b1;have:=aeU (show 0<h.b by omega) (show 0<bP h.ss from(AU ho.ok).1);omega
theorem OfS.rest(ho:h.Ok)(O:OfS h S):0≤(restF h h.ss.length).1:=by
 have e1:=O.lf ho;have e2:=gi ho h.ss.length (Io _);rw[aag]at e2;have p1:=O.bp ho;have s1:=O.s1;have le:=O.le;have r2:=(fe ho h.ss.length (Io _)).1;have t0:0≤tT h h.ss.length:=by
  have q:0≤tT h h.ss.length*(S:Int):=by rw[<-e1];exact acV (by omega) (by omega)
  exact aeX q (by omega)
 have q:0≤(restF h h.ss.length).1*((h.b*bP h.ss:Nat):Int):=by rw[e2];exact acV t0 (by omega)
 exact aeX q p1
theorem zd(ho:h.Ok):∀k,k≤h.ss.length->aeq (restF h k).1.natAbs (restF h k).2.natAbs
 |0,_=>by
  have b1:=ho.b1;exact nq (by omega)
 |k+1,hk=>by
  have i1:=(fe ho k (by omega)).1;have es:h.ss[k]?=some h.ss[k]:=Ge (by omega);have sb1:=(ho.ok h.ss[k] (abh _)).b1;rw[restF,es];exact nq (abr i1 (by omega))
theorem OfS.restd(ho:h.Ok)(O:OfS h S):(restF h h.ss.length).2.toNat ∣ S:=by
 have e1:=O.lf ho;have e2:=gi ho h.ss.length (Io _);rw[aag]at e2;have p1:=O.bp ho;have r2:=(fe ho h.ss.length (Io _)).1;have c:=zd ho h.ss.length (Io _);generalize hX:(S:Int)-(h.a:Int)*((S/h.b:Nat):Int)-dnS h S h.ss.length=X at e1;have e:(restF h h.ss.length).1*(S:Int)=X*(restF h h.ss.length).2:=by
  refine acU (a:=((h.b*bP h.ss:Nat):Int)) (by omega) ?_
  calc (restF h h.ss.length).1*(S:Int)*((h.b*bP h.ss:Nat):Int)=((restF h h.ss.length).1*((h.b*bP h.ss:Nat):Int))*(S:Int):=by simp only[aaO,aaH,aaK]
   _=(tT h h.ss.length*(S:Int))*(restF h h.ss.length).2:=by rw[e2];simp only[aaO,aaH,aaK]
   _=X*(restF h h.ss.length).2*((h.b*bP h.ss:Nat):Int):=by rw[<-e1];simp only[aaO,aaH,aaK]
 have:=r4 c e;rw[aaq]at this;rwa[show(restF h h.ss.length).2.toNat=(restF h h.ss.length).2.natAbs by omega]
theorem OfS.bot(ho:h.Ok)(O:OfS h S):botH h ∣ (ordK h.ss.length h.ss.length).length*S:=by
 have b1:=ho.b1;have pO:=cR h.ss.length ho.n4;refine t9 fun p hp=>?_;rw[jj]at hp;obtain⟨q,hq,rfl⟩:=aay.mp hp;rcases jt hq with⟨o,hm,rfl⟩|⟨i,hi,rfl⟩|rfl
 .have d:=nK (t:=(h.a:Int)*1) (b:=(h.b:Int)*((ordK h.ss.length h.ss.length).length:Int)) (abr (by omega) (by omega));rw[show((h.b:Int)*((ordK h.ss.length h.ss.length).length:Int)).toNat=h.b*(ordK h.ss.length h.ss.length).length by rw[<-aaI,aba]]at d;refine acd d ?_;rw[ac6];exact Nat.mul_dvd_mul (ahJ _) O.hb
 .exact acd (O.hs _ (abh hi)) (acO _ _)
 .exact acd (O.restd ho) (acO _ _)
theorem kO(ho:h.Ok):1≤botH h:=by have:=(gG ho).pre (shrL h).length;rw[aag]at this;exact this.1
theorem OfS.small(ho:h.Ok)(O:OfS h S):botH h≤232800:=by
 have pO:=cR h.ss.length ho.n4;have nO:=(de h.ss.length ho.n4 h.ss.length ho.n4).1;have:=aea (aeU pO O.s1) (O.bot ho);have m:=abd nO O.s2;omega
theorem OfS.pow(ho:h.Ok)(O:OfS h S)(hn:n≤12):botH h^n<10^66:=by
 have h1:botH h^n≤232800^n:=Nat.pow_le_pow_left (O.small ho) n;have h2:232800^n≤232800^12:=abO (by decide) hn;have h3:232800^12<10^66:=by decide
 omega
def srvS(S q r:Nat):Srv:=NA (cutN S q) r
def dw(S p0:Nat)(qs rs:List Nat)(mv:Bool):Hall:=⟨(cutN S p0).1,(cutN S p0).2,adX (srvS S) qs rs,mv⟩
theorem il{q:Nat}(hS:1≤S):(cutN S q).2 ∣ S/\(cutN S q).1*(S/(cutN S q).2)=q:=by
 unfold cutN;have g1:q.gcd S ∣ S:=acx _ _;refine⟨Nat.div_dvd_of_dvd g1,?_⟩;show q/q.gcd S*(S/(S/q.gcd S))=q;rw[Nat.div_div_self g1 (by omega)];exact ahq (adW _ _)
theorem uZ{S p0:Nat}{qs rs:List Nat}{mv:Bool}(hS:1≤S)(hl:qs.length=rs.length):∀k,k≤qs.length->dnS (dw S p0 qs rs mv) S k=((qs.take k).sum:Int)
 |0,_=>rfl
 |k+1,hk=>by
  have ih:=uZ (p0:=p0) (mv:=mv) hS hl k (by omega);have e1:qs[k]?=some qs[k]:=Ge (by omega);have e2:rs[k]?=some rs[k]:=Ge (by omega);have es:(dw S p0 qs rs mv).ss[k]?=some (srvS S qs[k] rs[k]):=abD.mpr ⟨_,_,e1,e2,rfl⟩;rw[dnS,es,ih,abA,e1,ac3];show _+((cutN S qs[k]).1:Int)*((S/(cutN S qs[k]).2:Nat):Int)=_;rw[<-aaI,(il hS).2,ab7];rfl
theorem Dj{p0:Nat}{qs rs:List Nat}{mv:Bool}(s1:1≤S)(s2:S≤9700)(hl:qs.length=rs.length)(hs:p0+qs.sum≤S):OfS (dw S p0 qs rs mv) S:=by
 have el:(dw S p0 qs rs mv).ss.length=qs.length:=by show(adX (srvS S) qs rs).length=_;rw[afa];omega
 refine⟨s1,s2,(il s1).1,fun s hs=>?_,?_⟩
 .obtain⟨i,hi⟩:=adP hs;obtain⟨q,r,_,_,rfl⟩:=abD.mp hi;exact(il s1).1
 .rw[el,uZ s1 hl _ (Io _),aag];show((cutN S p0).1:Int)*((S/(cutN S p0).2:Nat):Int)+_≤_;rw[<-aaI,(il s1).2];omega
theorem FY{q:Nat}(hS:1≤S):nf (q:Int) (S:Int)=prD (cutN S q):=by
 have g1:0<q.gcd S:=abg _ (by omega);unfold nf nfP;rw[if_neg (by omega),aaq,aaq];show acg [.int ((q:Int)/((q.gcd S:Nat):Int)),.int ((S:Int)/((q.gcd S:Nat):Int))] = .tuple [.int ((q/q.gcd S:Nat):Int),.int ((S/q.gcd S:Nat):Int)];rw[aeJ,aeJ]
theorem iX:∀{l:List Nat}{i x y:Nat},l[i]?=some y->(l.set i x).sum+y=l.sum+x
 |[],_,_,_,e=>by simp at e
 |z::l,0,x,y,e=>by
  simp at e;subst e;rw[aei,abo,abo];omega
 |z::l,i+1,x,y,e=>by
  have:=iX (l:=l) (i:=i) (x:=x) (y:=y) (by simpa using e);rw[acS,abo,abo];omega
theorem q9{p:Nat×Nat}(e:dn h l=some p):(cY l p).sum=l.sum:=by
 obtain⟨es,l1,l2,_,_⟩:=iG e;obtain⟨m0,m1,m2,m3,m4⟩:=gg e;rw[es];have h1:=iX (l:=l) (i:=p.1) (x:=maxN l-1) m1;have h2:=iX (l:=l.set p.1 (maxN l-1)) (i:=p.2) (x:=1) (y:=0) (by rw[aaS m4];exact m3);omega
theorem jO{h:Hall}:∀(n:Nat) (l:List Nat),(di h n l).sum=l.sum
 |0,l=>rfl
 |n+1,l=>by
  simp only[di]
  cases e:dn h l with
  |none=>rfl
  |some p=>exact(jO n _).trans (q9 e)
theorem i6(h:Hall)(l:List Nat):(h8 h l).sum=l.sum:=jO _ _
def szB(n:Nat):Wd->Nat
 | .taken=>n+1
 | .served=>n-1
 |_=>n
theorem yi{t:Nat}{mv:Mv}(ho:h.Ok)(hr:r.Ok h)(S:St h r l t)(hm:mv.Ok h):(bR h r l t mv).1.sum=szB l.sum (bR h r l t mv).2.2/\((bR h r l t mv).2.2 = .served->1≤l.sum):=by
 have mem_sum:∀{l:List Nat}{i y:Nat},l[i]?=some y->y≤l.sum:=fun {l i y} e=>by
  have:=iX (x:=0) e;omega
 cases mv with
 |come o =>
  have hk:=rj ho hr S.ln hm S.tn;have e:=getN S.ln.1 hk;show(h8 h (d7 h l (sent h r l t o)).1).sum=szB l.sum (d7 h l (sent h r l t o)).2/\((d7 h l (sent h r l t o)).2 = .served->1≤l.sum);rw[i6];unfold d7;split
  .exact⟨rfl,fun z=>by cases z⟩
  .refine⟨?_,fun z=>by cases z⟩;have:=iX (x:=l.getD (sent h r l t o) 0+1) e;show(l.set _ _).sum=l.sum+1;omega
 |done k =>
  have e:=getN S.ln.1 (show k<h.ss.length from hm);show(h8 h (d6 l k).1).sum=szB l.sum (d6 l k).2/\((d6 l k).2 = .served->1≤l.sum);rw[i6];unfold d6;split
  .exact⟨rfl,fun z=>by cases z⟩
  .rename_i hne;have h1:=iX (x:=l.getD k 0-1) e;have h2:=mem_sum e;refine⟨?_,fun _=>by omega⟩;show(l.set _ _).sum=l.sum-1;omega
 |still=>exact⟨i6 h l,fun z=>by cases z⟩
theorem uI{α:Type}[DecidableEq α](a b:α)(x:Int):∀L:List (α×Int),getA b (addA a x L)=getA b L+if a=b then x else 0
 |[]=>by show(if a=b then x else 0)=0+_;omega
 | p::r=>by
  have ih:=uI a b x r;unfold addA
  by_cases e:p.1=a
  .rw[if_pos e];show(if p.1=b then p.2+x else getA b r)=(if p.1=b then p.2 else getA b r)+_
   by_cases c:p.1=b
   .rw[if_pos c,if_pos c,if_pos (e.symm.trans c)]
   .rw[if_neg c,if_neg c,if_neg (fun z=>c (e.trans z))];omega
  .rw[if_neg e];show(if p.1=b then p.2 else getA b (addA a x r))=(if p.1=b then p.2 else getA b r)+_
   by_cases c:p.1=b
   .rw[if_pos c,if_pos c,if_neg (fun z=>e (c.trans z.symm))];omega
   .rw[if_neg c,if_neg c,ih]
end K
namespace L2
open PySem PySem.Spec PyProof.Rows
section
variable {X:Cx}
theorem cX{ds:List iO}{g:WG}{w:WS}{D:dY}{m1:MSt}(P:Nat->MSt->Prop)(p0:P 0 m1)
  (step:∀(i:Nat) (d:iO) (m:MSt),ds[i]?=some d->m.np=m1.np->P i m->∀D':dY,(∀m',P (i+1) m'->D'.nx m')->(∀r m',D.rt r (m'.setN m1.np)->D'.rt r m')->g d m fun m2=>w D' m2)
  (fin:∀m,m.np=m1.np->P ds.length m->D.nx m):iz ⟨ds,none⟩ g w D m1:=bJ P p0 (fun i d m e n p=>step i d m e n p _ (fun _ z=>z) fun _ _ z=>z) fin
theorem au{e:Expr}{we:WE}{pos pos':Pos}{x:Str}(i:Nat)(hN:X.N.Nodup)(he:EE X e we)(hi:X.N[i]?=some x:=by rfl)(hx:Loc X.env.scope x:=by exact agP rfl)(hs:abY e (some (.Name x pos')) pos.line X.env=pure false:=by rfl)(hf:X.fn x=true\/X.env.scope.names.lookup x=some .local:=by first|exact .inl rfl|exact .inr rfl|assumption):ES X (.Assign [.Name x pos'] e pos) (wSet i we):=dh hN hi hx he hs hf
theorem ai{pos:Pos}{x:Str}(i:Nat)(hN:X.N.Nodup)(hi:X.N[i]?=some x:=by rfl)(hx:Loc X.env.scope x:=by exact agP rfl)(hf:X.fn x=true\/X.env.scope.names.lookup x=some .local:=by first|exact .inl rfl|exact .inr rfl|assumption):EG X (.Name x pos) (gM i):=mf hN hi hx hf
end
end L2
namespace K
open PySem L2 M7
variable{h:Hall}{r:Rule}{n:Nat}
def dnM(h:Hall):List (Mv×Int×Nat):=h.ss.zipIdx.map fun q=>(Mv.done q.2,(q.1.a:Int),q.1.b)
theorem Iq{i:Nat}{s:Srv}(e:h.ss[i]?=some s):(dnM h)[i]?=some (Mv.done i,(s.a:Int),s.b):=by
 unfold dnM;rw[aak,aeT,e];show some (Mv.done (0+i),_,_)=_;rw[ab5]
structure DuOk(h:Hall)(r:Rule)(n:Nat):Prop where
 ho:h.Ok
 hr:r.Ok h
 h0:0≤(restF h h.ss.length).1
 le:n≤12
 b:botH h^n<10^66
theorem DuOk.pw(D:DuOk h r n){k:Nat}(hk:k≤n):botH h^k<10^66:=aaF (abO (kO D.ho) hk) D.b
theorem DuOk.p0(D:DuOk h r n)(k:Nat):0<((botH h^k:Nat):Int):=by
 have:=ah1 (n:=k) (show 0<botH h from kO D.ho);omega
theorem v6{a v D:Int}(hD:0<D):nfP (a*(nfP v D).1) (1*(nfP v D).2)=nfP (v*a) D:=by
 have e1:=cj (t:=v) hD;rw[agZ];refine mR (ga hD).1 hD ?_
 calc a*(nfP v D).1*D=((nfP v D).1*D)*a:=by simp only[aaO,aaH,aaK]
  _=v*a*(nfP v D).2:=by rw[e1];simp only[aaO,aaH,aaK]
theorem Au{v c:Int}{D k:Nat}(h0:0≤v)(h1:v≤c)(hc:c≤(k:Int)*(D:Int))(hk:k≤10000000)(hD:D<10^66):v.natAbs<10^76:=by
 have m:(k:Int)*(D:Int)≤((10000000*10^66:Nat):Int):=by
  rw[<-aaI];exact Int.ofNat_le.mpr (abd hk (adQ hD))
 have e:10000000*10^66<10^76:=by decide
 omega
theorem FQ(ho:h.Ok){D:Int}{W:List (Pt×Int)}(hW:∀p∈W,St h r p.1.1 p.1.2):kyA (shD D W)=true:=by
 unfold kyA shD kvG;rw[adV,aca];exact fun p hp=>qW ho (hW p hp)
theorem DuOk.part(D:DuOk h r n){k:Nat}(w:Int){q:Mv×Int×Nat}(hq:q∈shrM h):FrOk q.2.1 (q.2.2:Int)/\nfP ((nfP w ((botH h^k:Nat):Int)).1*q.2.1) ((nfP w ((botH h^k:Nat):Int)).2*(q.2.2:Int))=nfP (w*(q.2.1*((botH h/q.2.2:Nat):Int))) ((botH h^(k+1):Nat):Int):=by
 have B:=gG D.ho;have hm:(q.1.d,q.2)∈shrL h:=by rw[jj];exact aay.mpr ⟨q,hq,rfl⟩
 have d:=B.d _ hm;have dv:q.2.2 ∣ botH h:=iy hm;have bp:=kO D.ho;have b1:1≤q.2.2:=d.1;have le:=aea bp dv;have bL:botH h<10^76:=by have:=B.pre (shrL h).length;rw[aag]at this;exact this.2
 have k1:0<botH h/q.2.2:=agU le b1;refine⟨⟨d.2.2,by rw[aaq];omega,by omega⟩,?_⟩;rw[y8 (k:=((botH h/q.2.2:Nat):Int)) (D.p0 k) (by omega) (by omega)]
 congr 1
 rw[<-aaI,ag9 dv,acI,aaI]
theorem kg{i:Int}(h:i.natAbs<10^100):Fine 101 0 (.int i):=by
 have sl:(afc (.int i)).length≤101:=by
  have e:=PySem.int_text_length_le10 (k:=100) (by decide) h;show(ab3 (toString i)).length≤101;rw[PySem.ofString_length];exact e
 refine⟨?_,rfl,sl,Io _⟩;have:i.natAbs.log2<400\/i.natAbs=0:=by
  by_cases z:i.natAbs=0
  .exact .inr z
  .exact .inl ((agR z).mpr (aaE h (show 10^100<2^400 by decide)))
 show decide (i.natAbs.log2<1920)=true;rcases this with h|h
 .exact decide_eq_true (by omega)
 .rw[h];decide
theorem kJ{t b:Int}(hb0:0<b)(ht:t.natAbs<10^76)(hb:b.natAbs<10^76):Fine 300 1 (nf t b):=by
 have F:=uB hb0 ht hb;refine(cv (n:=101) (k:=0) (c:=2) (ds:=[.int (nfP t b).1,.int (nfP t b).2]) (fun d hd=>?_) (Io 2)).mono (by decide) (by decide);rcases aal.mp hd with e|e
 .rw[e];exact kg (aaE F.ha (by decide))
 .rw[aah.mp e];exact kg (aaE F.hb (by decide))
theorem DuOk.cn(D:DuOk h r n)(w:Wd):0≤cntW h r w n/\(cntW h r w n).natAbs<10^70:=by
 obtain⟨c0,c1⟩:=xV D.ho D.h0 r w n;have b:=D.b;have le:=D.le;have m:(n:Int)*((botH h^n:Nat):Int)≤((12*10^66:Nat):Int):=by
  rw[<-aaI];exact Int.ofNat_le.mpr (abd le (adQ b))
 have e:12*10^66<10^70:=by decide
 exact⟨c0,by omega⟩
theorem DuOk.mn(D:DuOk h r n):(p9 h r n).natAbs<10^74:=by
 have w0:=vO D.ho D.h0 r n;have w1:=(gf w0).2;rw[ls D.ho D.h0 r n]at w1;have b:=D.b;have ln:=FC D.ho D.hr n;have h1:=sd (f:=fun p:Pt×Int=>p.2*(p.1.1.sum:Int)) (B:=10^66*24) (L:=stW h r n) fun p hp=>by
  have a0:=w0 p hp;have a1:=w1 p hp;rw[adn];exact abd (by omega) (by have:=ii D.ho (f8 D.ho D.hr n p hp).ln;omega)
 have h2:(stW h r n).length*(10^66*24)≤100000*(10^66*24):=abd ln (Io _);exact aaF (aaz h1 h2) (by decide)
theorem DuOk.fine(D:DuOk h r n):Fine 1000 2 (mnD h r n):=by
 have p:=D.p0 n;have b:(((botH h^n:Nat):Int)).natAbs<10^76:=by rw[aaq];exact aaE D.b (by decide)
 refine(cv (n:=300) (k:=1) (c:=3) (ds:=[nf (p9 h r n) ((botH h^n:Nat):Int),nf (cntW h r .served n) ((botH h^n:Nat):Int),nf (cntW h r .away n) ((botH h^n:Nat):Int)]) (fun d hd=>?_) (Io 3)).mono (by decide) (by decide);rcases aal.mp hd with e|e1
 .rw[e];exact kJ p (aaE D.mn (by decide)) b
 rcases aal.mp e1 with e|e2
 .rw[e];exact kJ p (aaE (D.cn _).2 (by decide)) b
 .rw[aah.mp e2];exact kJ p (aaE (D.cn _).2 (by decide)) b
end K
namespace L2
open PySem PySem.W PyProof.Rows
variable{i j n:Nat}{p:Array Nat}
structure TotF(n:Nat)(f:Nat->Nat->Bool):Prop where
 tr:∀a b c,a<n->b<n->c<n->f a b=true->f b c=true->f a c=true
 tot:∀a b,a<n->b<n->a≠b->f a b=true\/f b a=true
theorem d9{α β:Type}{n:Nat}{f:Nat->Nat->Bool}(g:α->KasT β):∀t:KasT α,runC n f (t.bind g)=(runC n f t).bind fun a=>runC n f (g a)
 | .ret a=>rfl
 | .ask i j k=>by
  show(if i<n/\j<n then runC n f ((k (f i j)).bind g)else none)=(if i<n/\j<n then runC n f (k (f i j))else none).bind _
  by_cases h:i<n/\j<n
  .rw[if_pos h,if_pos h];exact d9 g (k (f i j))
  .rw[if_neg h,if_neg h];rfl
theorem iu{α:Type}{f:Nat->Nat->Bool}{k:Bool->KasT α}(hi:i<n)(hj:j<n):runC n f (.ask i j k)=runC n f (k (f i j)):=if_pos ⟨hi,hj⟩
structure PermA(n:Nat)(p:Array Nat):Prop where
 sz:p.size=n
 pm:p.toList.Perm (aaP n)
abbrev pA(p:Array Nat)(k:Nat):Nat:=p.getD k 0
theorem dt{k:Nat}(h:k<p.size):p[k]?=some (pA p k):=by
 unfold pA;rw[Array.getD_eq_getD_getElem?,acj h];rfl
theorem PermA.lt(h:PermA n p){k:Nat}(hk:k<n):pA p k<n:=by
 have e:=dt (p:=p) (k:=k) (by rw[h.sz];exact hk);have:pA p k∈p.toList:=by
  rw[Array.mem_toList_iff];exact Array.mem_of_getElem? e
 exact aer.mp (h.pm.mem_iff.mp this)
theorem PermA.inj(h:PermA n p)(hi:i<n)(hj:j<n)(e:pA p i=pA p j):i=j:=by
 have nd:p.toList.Nodup:=h.pm.nodup_iff.mpr List.nodup_range;have e1:p.toList[i]?=some (pA p i):=by rw[acY];exact dt (by rw[h.sz];exact hi)
 have e2:p.toList[j]?=some (pA p j):=by rw[acY];exact dt (by rw[h.sz];exact hj)
 have l1:i<p.toList.length:=by rw[abm,h.sz];exact hi
 have l2:j<p.toList.length:=by rw[abm,h.sz];exact hj
 rw[Ge l1]at e1;rw[Ge l2]at e2;have e3:p.toList[i]=p.toList[j]:=by rw[aau e1,aau e2,e]
 have pw:=abT.mp nd;rcases Nat.lt_trichotomy i j with z|z|z
 .exact absurd e3 (pw i j l1 l2 z)
 .exact z
 .exact absurd e3.symm (pw j i l2 l1 z)
def AscA(f:Nat->Nat->Bool)(p:Array Nat)(k:Nat):Prop:=∀i j,i<j->j<k->f (pA p i) (pA p j)=true
def DscA(f:Nat->Nat->Bool)(p:Array Nat)(k:Nat):Prop:=∀i j,i<j->j<k->f (pA p j) (pA p i)=true
section
variable {n:Nat}{f:Nat->Nat->Bool} (T:TotF n f)
include T
theorem TotF.no(h:PermA n p)(hi:i<n)(hj:j<n)(hne:i≠j)(e:f (pA p i) (pA p j)=false):f (pA p j) (pA p i)=true:=by
 rcases T.tot _ _ (h.lt hi) (h.lt hj) (fun z=>hne (h.inj hi hj z))with z|z
 .rw[e]at z;cases z
 .exact z
theorem Cg(h:PermA n p){k:Nat}(h1:1≤k)(hk:k<n)(a:AscA f p k)(e:f (pA p (k-1)) (pA p k)=true):AscA f p (k+1):=fun i j hij hj=>by
 by_cases z:j=k
 .subst z
  by_cases y:i=j-1
  .rw[y];exact e
  .exact T.tr _ _ _ (h.lt (by omega)) (h.lt (by omega)) (h.lt hk) (a i (j-1) (by omega) (by omega)) e
 .exact a i j hij (by omega)
theorem sf{p:Array Nat}(h:PermA n p):∀(u k:Nat),1≤k->k+u≤n->AscA f p k->∃m,runC n f (kas_asc p u k)=some m/\k≤m/\m≤k+u/\AscA f p m/\(m<k+u->f (pA p m) (pA p (m-1))=true)
 |0,k,_,_,a=>⟨k,rfl,Io _,Io _,a,fun z=>by omega⟩
 | u+1,k,h1,hk,a=>by
  unfold kas_asc;rw[iu (h.lt (k:=k) (by omega)) (h.lt (k:=k-1) (by omega))]
  cases e:f (p.getD k 0) (p.getD (k-1) 0)with
  |true =>
   rw[if_pos rfl];exact⟨k,rfl,Io _,by omega,a,fun _=>e⟩
  |false =>
   rw[if_neg (by decide)];have e':=T.no h (i:=k) (j:=k-1) (by omega) (by omega) (by omega) e;obtain⟨m,r,m1,m2,m3,m4⟩:=sf h u (k+1) (by omega) (by omega) (Cg T h h1 (by omega) a e');exact⟨m,r,by omega,by omega,m3,fun z=>m4 (by omega)⟩
theorem uc{p:Array Nat}(h:PermA n p):∀(u k:Nat),1≤k->k+u≤n->DscA f p k->∃m,runC n f (kas_desc u p k 0)=some (p,m,0)/\k≤m/\m≤k+u/\DscA f p m
 |0,k,_,_,a=>⟨k,rfl,Io _,Io _,a⟩
 | u+1,k,h1,hk,a=>by
  unfold kas_desc;rw[iu (h.lt (k:=k) (by omega)) (h.lt (k:=k-1) (by omega))]
  cases e:f (p.getD k 0) (p.getD (k-1) 0)with
  | true =>
   rw[if_pos rfl,if_neg (by omega)];have a':DscA f p (k+1):=fun i j hij hj=>by
    by_cases z:j=k
    .subst z
     by_cases y:i=j-1
     .rw[y];exact e
     .exact T.tr _ _ _ (h.lt (by omega)) (h.lt (by omega)) (h.lt (by omega)) e (a i (j-1) (by omega) (by omega))
    .exact a i j hij (by omega)
   obtain⟨m,r,m1,m2,m3⟩:=uc h u (k+1) (by omega) (by omega) a';exact⟨m,r,by omega,by omega,m3⟩
  |false =>
   rw[if_neg (by decide),iu (h.lt (k:=k-1) (by omega)) (h.lt (k:=k) (by omega))];have e':f (p.getD (k-1) 0) (p.getD k 0)=true:=T.no h (i:=k) (j:=k-1) (by omega) (by omega) (by omega) e;rw[e',if_pos rfl];exact⟨k,rfl,Io _,by omega,a⟩
theorem BF(h:PermA n p)(i j:Nat):PermA n (ag5 p i j):=by
 refine⟨by rw[kas_rev_size];exact h.sz,?_⟩;exact((mirror_perm p i j ((j-i)/2)).toList).trans h.pm
theorem DU(h:PermA n p){m:Nat}(hm:m≤n){k:Nat}(hk:k<n):pA (ag5 p 0 m) k=if k<m then pA p (m-1-k)else pA p k:=by
 have e:=getElem?_mirror_all (xs:=p) (i:=0) (j:=m) (by rw[h.sz];exact hm) k;have e1:(ag5 p 0 m)[k]?=some (pA (ag5 p 0 m) k):=dt (by rw[kas_rev_size,h.sz];exact hk);unfold ag5 at e1⊢;rw[e]at e1
 by_cases z:k<m
 .rw[if_pos ⟨acL _,z⟩,ab5,dt (by rw[h.sz];omega)]at e1;rw[if_pos z];exact(aau e1).symm
 .rw[if_neg (fun y=>z y.2),dt (by rw[h.sz];omega)]at e1;rw[if_neg z];exact(aau e1).symm
theorem Di(h:PermA n p){m:Nat}(h1:1≤m)(hm:m≤n)(a:DscA f p m):∃m' p',runC n f (kas_tail3 m n p)=some (m',p')/\PermA n p'/\m≤m'/\m'≤n/\AscA f p' m':=by
 have h':=BF T h 0 m;have a':AscA f (ag5 p 0 m) m:=fun i j hij hj=>by
  rw[DU T h hm (by omega),DU T h hm (by omega),if_pos (by omega),if_pos hj];exact a _ _ (by omega) (by omega)
 obtain⟨m',r,m1,m2,m3,_⟩:=sf T h' (n-m) m h1 (by omega) a';refine⟨m',ag5 p 0 m,?_,h',m1,by omega,m3⟩;unfold kas_tail3;rw[d9,r];rfl
theorem xm(h:PermA n p)(h1:1≤n):∃m' p',runC n f (kas_count n p)=some (m',p')/\PermA n p'/\1≤m'/\m'≤n/\AscA f p' m':=by
 obtain⟨m,r,m1,m2,m3,m4⟩:=sf T h (n-1) 1 (Io _) (by omega) (fun i j hij hj=>by omega);unfold kas_count;rw[d9,r];show ∃m' p',runC n f (if (m==n)=true then .ret (m,p)else _)=some (m',p')/\_
 by_cases z:m=n
 .rw[if_pos (by rw[z];exact beq_self_eq_true n)];exact⟨m,p,rfl,h,m1,by omega,m3⟩
 .rw[if_neg (fun y=>z (afe y))]
  by_cases y:m>1
  .rw[if_pos y,iu (h.lt (k:=0) (by omega)) (h.lt (k:=m-1) (by omega))];have e:f (p.getD 0 0) (p.getD (m-1) 0)=true:=m3 0 (m-1) (by omega) (by omega);rw[e,if_pos rfl];exact⟨m,p,rfl,h,m1,by omega,m3⟩
  .rw[if_neg y];have em:m=1:=by omega
   subst em;have d2:DscA f p 2:=fun i j hij hj=>by
    have ei:i=0:=by omega
    have ej:j=1:=by omega
    rw[ei,ej];exact m4 (by omega)
   obtain⟨k,rk,k1,k2,k3⟩:=uc T h (n-2) 2 (by omega) (by omega) d2;obtain⟨m',p',r',h',a1,a2,a3⟩:=Di T h (m:=k) (by omega) (by omega) k3;refine⟨m',p',?_,h',by omega,a2,a3⟩;unfold kas_descPart;rw[d9,rk];show runC n f (if (0:Nat)>0 then _ else kas_tail3 k n p)=_;rw[if_neg (by omega)];exact r'
theorem jG{p:Array Nat}(h:PermA n p){k:Nat}(hk:k<n)(a:AscA f p k):∀(u l r:Nat),l≤r->r≤k->r-l≤u->(∀i,i<l->f (pA p i) (pA p k)=true)->(∀i,r≤i->i<k->f (pA p k) (pA p i)=true)->∃m,runC n f (kas_place p k u l r)=some m/\m≤k/\(∀i,i<m->f (pA p i) (pA p k)=true)/\∀i,m≤i->i<k->f (pA p k) (pA p i)=true
 |0,l,r,hl,hr,hu,b1,b2=>⟨l,rfl,by omega,b1,fun i hi=>b2 i (by omega)⟩
 | u+1,l,r,hl,hr,hu,b1,b2=>by
  unfold kas_place
  by_cases z:l≥r
  .rw[if_pos z];exact⟨l,rfl,by omega,b1,fun i hi=>b2 i (by omega)⟩
  .rw[if_neg z,iu (h.lt hk) (h.lt (k:=(l+r)/2) (by omega))]
   cases e:f (p.getD k 0) (p.getD ((l+r)/2) 0)with
   | true =>
    rw[if_pos rfl];exact jG h hk a u l ((l+r)/2) (by omega) (by omega) (by omega) b1 fun i hi hik=>by
     by_cases y:i=(l+r)/2
     .rw[y];exact e
     .exact T.tr _ _ _ (h.lt hk) (h.lt (k:=(l+r)/2) (by omega)) (h.lt (by omega)) e (a _ _ (by omega) hik)
   | false =>
    rw[if_neg (by decide)];have e':=T.no h (i:=k) (j:=(l+r)/2) hk (by omega) (by omega) e;exact jG h hk a u ((l+r)/2+1) r (by omega) hr (by omega) (fun i hi=>by
     by_cases y:i=(l+r)/2
     .rw[y];exact e'
     .exact T.tr _ _ _ (h.lt (by omega)) (h.lt (k:=(l+r)/2) (by omega)) (h.lt hk) (a _ _ (by omega) (by omega)) e') b2
theorem DT(h:PermA n p){k l:Nat}(hk:k<n)(hl:l≤k)(hi:i<n):pA (bubble p k (k-l)) i=if i=l then pA p k else if l<i/\i≤k then pA p (i-1)else pA p i:=by
 have e:=getElem?_bubble (xs:=p) (src:=k) (by rw[h.sz];exact hk) (k-l) (by omega) i;have e1:(bubble p k (k-l))[i]?=some (pA (bubble p k (k-l)) i):=dt (by rw[bubble_size,h.sz];exact hi);rw[e,show k-(k-l)=l by omega]at e1
 by_cases z:i=l
 .rw[if_pos z,dt (by rw[h.sz];exact hk)]at e1;rw[if_pos z];exact(aau e1).symm
 .rw[if_neg z]at e1⊢
  by_cases y:l<i/\i≤k
  .rw[if_pos y,dt (by rw[h.sz];omega)]at e1;rw[if_pos y];exact(aau e1).symm
  .rw[if_neg y,dt (by rw[h.sz];omega)]at e1;rw[if_neg y];exact(aau e1).symm
theorem yl:∀(u:Nat) {p:Array Nat}{k:Nat},PermA n p->k+u=n->AscA f p k->∃p',runC n f (kas_bin u p k)=some p'/\PermA n p'/\AscA f p' n
 |0,p,k,h,hk,a=>⟨p,rfl,h,by rw[<-hk];exact a⟩
 | u+1,p,k,h,hk,a=>by
  obtain⟨l,r,hl,b1,b2⟩:=jG T h (k:=k) (by omega) a k 0 k (by omega) (Io _) (by omega) (fun i hi=>by omega) (fun i hi hik=>by omega);unfold kas_bin;rw[d9,r];show ∃p',runC n f (kas_bin u (bubble p k (k-l)) (k+1))=some p'/\_;have h':PermA n (bubble p k (k-l)):=⟨by rw[bubble_size];exact h.sz,((bubble_perm p k (k-l)).toList).trans h.pm⟩;refine yl u h' (by omega) fun i j hij hj=>?_;rw[DT T h (by omega) hl (by omega),DT T h (by omega) hl (by omega)]
  by_cases z1:i=l
  .rw[if_pos z1,if_neg (by omega)]
   by_cases z2:l<j/\j≤k
   .rw[if_pos z2];exact b2 _ (by omega) (by omega)
   .rw[if_neg z2];omega
  .rw[if_neg z1]
   by_cases z3:j=l
   .rw[if_pos z3,if_neg (by omega)];exact b1 _ (by omega)
   .rw[if_neg z3]
    by_cases z4:l<i/\i≤k
    .rw[if_pos z4,if_pos (by omega)];exact a _ _ (by omega) (by omega)
    .rw[if_neg z4]
     by_cases z5:l<j/\j≤k
     .rw[if_pos z5];exact a _ _ (by omega) (by omega)
     .rw[if_neg z5];exact a _ _ hij (by omega)
theorem B9(h1:1≤n):∃p,runC n f (kas_sort n)=some p/\PermA n p/\AscA f p n:=by
 have h0:PermA n (List.toArray (aaP n)):=⟨by simp,by simp⟩;obtain⟨m,p,r,h,m1,m2,m3⟩:=xm T h0 h1;unfold kas_sort;rw[d9,r];show ∃p',runC n f (if m<n then kas_bin (n-max m 1) p (max m 1)else .ret p)=some p'/\_
 by_cases z:m<n
 .rw[if_pos z,show max m 1=m by omega];exact yl T (n-m) h (by omega) m3
 .rw[if_neg z];have:m=n:=by omega
  subst this;exact⟨p,rfl,h,m3⟩
end
end L2
namespace L2
open PySem PySem.Spec PySem.W PyProof.Rows
def LtAt(A:abx)(s:aaa)(x y:GE)(b:Bool):Prop :=
 ∀(prog:aaW) (w:World) (E:GE->aaa->Prop) (Q:GE->aaa->Prop),Q (.bool b) s->wpAny (model prog w) A (richCompare .Lt x y) Q E s
def zx(A:abx)(s:aaa)(fin r:Bool):List (GE×GE)->Prop
 |[]=>r=fin
 |p::ps=>∃e,age A s p.1 p.2 e/\((e=true->zx A s fin r ps)/\(e=false->LtAt A s p.1 p.2 r))
theorem k8(l b:Addr)(xs ys:Array GE)(n m:Nat)(d1 d2:Option Addr)(s1 s2:Array (Option GE))(r:Bool) :
  Meets (ac4.«tuple.__lt__» ⟨[.ref l,.ref b],[]⟩)
   (fun A R s=>s.heap.get? l=some {cls:=.type "tuple",dict:=d1,data:=.seq xs n,slots:=s1}/\s.heap.get? b=some {cls:=.type "tuple",dict:=d2,data:=.seq ys m,slots:=s2}/\zx A.in1 s (decide (xs.size<ys.size)) r (xs.toList.zip ys.toList)/\R (.ok (.ret (.bool r))) s) :=
 .of_wp fun prog w A R s h=>by
  obtain⟨hx,hy,hp,hr⟩:=h;have sub:=AutoSeq1.sub_tuple_tuple
  wp_walk using ae6 hx,ae6 hy,aeG _ (fun rest z s'=>z.1=none/\s'=s/\zx A.in1 s (decide (xs.size<ys.size)) r rest) _
  case turn =>
   rintro⟨u,v⟩ rest z s' ⟨hz,rfl,e,he,h1,h2⟩;refine gE (he prog w _ _ ?_)
   cases e with
   |true=>exact aac ⟨rfl,rfl,h1 rfl⟩
   |false =>
    refine gE (acP (gE (h2 rfl prog w _ _ ?_)))
    wp_walk
    exact⟨_,rfl,hr⟩
  case fin =>
   rintro⟨z,u⟩ s' ⟨hz,rfl,e⟩;have hz':z=none:=hz;subst hz'
   wp_walk
   refine⟨_,rfl,?_⟩;rw[e]at hr;exact hr
  case h=>exact⟨rfl,rfl,hp⟩
mutual
def ltD:iO->iO->Bool
 | .int a,.int b=>decide (a<b)
 | .tuple xs,.tuple ys=>ltDs xs ys
 |_,_=>false
def ltDs:List iO->List iO->Bool
 |x::xs,y::ys=>if aaw x y=true then ltDs xs ys else ltD x y
 |[],_::_=>true
 |_,_=>false
end
mutual
def smD:iO->iO->Bool
 | .int _,.int _=>true
 | .tuple xs,.tuple ys=>smDs xs ys
 |_,_=>false
def smDs:List iO->List iO->Bool
 |[],[]=>true
 |x::xs,y::ys=>smD x y&&smDs xs ys
 |_,_=>false
end
mutual
theorem xR:∀{x y:iO},smD x y=true->x.canLay0=true/\y.canLay0=true
 | .int _,.int _,_=>⟨rfl,rfl⟩
 | .tuple xs,.tuple ys,h=>by
  simp only[smD]at h;have:=y4 h;exact⟨this.1,this.2⟩
theorem y4:∀{xs ys:List iO},smDs xs ys=true->abi xs=true/\abi ys=true
 |[],[],_=>⟨rfl,rfl⟩
 |x::xs,y::ys,h=>by
  simp only[smDs,aaL]at h;have a:=xR h.1;have b:=y4 h.2;exact⟨by simp only[abi,a.1,b.1,ahh],by simp only[abi,a.2,b.2,ahh]⟩
end
def LtUp(k:Nat):Prop:=∀(x y:iO) (A:abx) (s:aaa) (u v:GE) (as bs:List Addr),x.depth≤k->Reads s.heap u x as->Reads s.heap v y bs->smD x y=true->A.units+x.depth<cLine->LtAt A s u v (ltD x y)
theorem j3{k:Nat}(IH:LtUp k)(A:abx)(s:aaa):∀(xs ys:List iO) (us vs:List GE) (as bs:List Addr),aaC xs≤k->ad6 s.heap us xs as->ad6 s.heap vs ys bs->smDs xs ys=true->A.units+aaC xs<cLine->us.length=vs.length/\zx A s false (ltDs xs ys) (us.zip vs)
 | [],ys,us,vs,as,bs,hk,r1,r2,h,hu=>by
  cases ys with
  |cons y ys=>exact absurd h (by simp only[smDs];decide)
  |nil =>
   cases r1;cases r2;exact⟨rfl,rfl⟩
 | x::xs,ys,us,vs,as,bs,hk,r1,r2,h,hu=>by
  cases ys with
  |nil=>exact absurd h (by simp only[smDs];decide)
  | cons y ys =>
   simp only[smDs,aaL]at h
   cases r1 with
   | cons a1 a2 =>
    cases r2 with
    |cons b1 b2 =>
     have hk':max x.depth (aaC xs)≤k:=hk;have dp:A.units+max x.depth (aaC xs)<cLine:=hu;have ly:=xR h.1;obtain⟨l1,l2⟩:=j3 IH A s xs ys _ _ _ _ (by omega) a2 b2 h.2 (by omega);refine⟨by rw[aaD,aaD,l1],aaw x y,ahS x y A s _ _ _ _ a1 b1 ly.1 ly.2 (by have:=Nat.min_le_left x.depth y.depth;omega),fun e=>?_,fun e=>?_⟩
     .rw[ltDs,if_pos e];exact l2
     .rw[ltDs,if_neg (by rw[e];decide)];exact IH x y A s _ _ _ _ (by omega) a1 b1 h.1 (by omega)
theorem uD:∀k,LtUp k
 | 0,x,y,A,s,u,v,as,bs,hk,r1,r2,h,hu=>by
  cases x with
  | int a =>
   cases y with
   |int b =>
    cases r1;cases r2;exact fun prog w E Q h=>wpAny_lt_int h
   |_=>exact absurd h (by simp only[smD];decide)
  |tuple xs=>exact absurd hk (by show ¬aaC xs+1≤0;omega)
  |_=>exact absurd h (by simp only[smD];decide)
 | k+1,x,y,A,s,u,v,as,bs,hk,r1,r2,h,hu=>by
  cases x with
  | int a =>
   cases y with
   |int b =>
    cases r1;cases r2;exact fun prog w E Q h=>wpAny_lt_int h
   |_=>exact absurd h (by simp only[smD];decide)
  | tuple xs =>
   cases y with
   | tuple ys =>
    simp only[smD]at h
    cases r1 with
    | tuple e1 c1 q1 z1 =>
     cases r2 with
     |tuple e2 c2 q2 z2 =>
      rename_i l o vs n m o' vs' n';obtain⟨cls,dd,data,sl⟩:=o;obtain⟨cls',dd',data',sl'⟩:=o';dsimp only at c1 q1 c2 q2;subst c1 q1 c2 q2;have hk':aaC xs+1≤k+1:=hk;have dp:A.units+(aaC xs+1)<cLine:=hu;obtain⟨l1,lx⟩:=j3 (uD k) A.in1 s xs ys vs.toList vs'.toList _ _ (by omega) z1 z2 h (show A.units+1+aaC xs<cLine by omega);rw[abm,abm]at l1;intro prog w E Q hQ;refine richCompare_meets_room (op:=.Lt) ⟨_,e1,rfl⟩ ⟨_,e2,rfl⟩ F.slot_tuple_lt F.entry_tuple_lt (F.args_tuple_lt_2 _ _) (k8 l m vs vs' n n' dd dd' sl sl' (ltDs xs ys)) ⟨e1,e2,?_,⟨(fun z=>nomatch z),hQ⟩⟩ (by omega);rw[decide_eq_false (p:=_) (by omega)];exact lx
   |_=>exact absurd h (by simp only[smD];decide)
  |_=>exact absurd h (by simp only[smD];decide)
end L2
namespace L2
open PySem PySem.Spec PyProof.Rows
variable{n:Nat}{T v:Addr}{o:Obj}{Q:Option GE->aaa->Prop}{P:Addr->aa4->Nat->GE->Prop}
section
variable {prog:aaW}{w:World}{A:abx}{E:GE->aaa->Prop}{s:aaa}{it d:Addr}{es:Array acm}{i ep:Nat}{ok ov:GE}
def lg(h:aa4)(it d:Addr)(i n ep:Nat)(k v:GE)(T:Addr)(b:Bool):Prop:=h.get? it=some {cls:=.type "dict_itemiterator",data:=.fields #[adI T,.bool b,.ref d,.int i 0,.int n 0,.int ep 0,k,v]}
theorem Lu{a:Addr}{Q:Option Obj->aaa->Prop}(h:Q (s.heap.get? a) s):wpAny (model prog w) A (loadIfAlive a) Q E s:=fun _ _ _=>h
theorem JE{j:Nat}{b:Bool}{Q:Bool->aaa->Prop}(hit:lg s.heap it d j n ep ok ov T b)(hT:s.heap.get? T=some o)
  (hQ:∀h',lg h' it d j n ep ok ov T true->h'.objs.size=s.heap.objs.size->(∀c o,c≠it->s.heap.get? c=some o->h'.get? c=some o)->Q false {s with heap:=h' }):wpAny (model prog w) A (ab2 (.ref it)) Q E s:=by
 refine gE (m:=field (.ref it) 0) (abc hit rfl (x:=adI T) rfl ?_);refine gE (m:=loadIfAlive _) (Lu ?_);rw[show((T:Int)).toNat=T by omega,hT];show wpAny _ _ (field (.ref it) 1 >>= _) _ _ _;refine gE (m:=field (.ref it) 1) (abc hit rfl (x:=.bool b) rfl ?_)
 cases b with
 |true=>exact aac (hQ s.heap hit rfl fun c o _ q=>q)
 |false =>
  refine gE (m:=ac7 (.ref it) 1 (.bool true)) (aaM hit (by simp) fun q1 i1 s1=>?_);exact aac (hQ q1 i1 s1.1 fun c o nc q=>s1.extBut c o nc q)
theorem DJ{j:Nat}{b:Bool}{k v:GE}{Q:GE->aaa->Prop}(hit:lg s.heap it d j n ep ok ov T b)(hT:s.heap.get? T=some o)
  (hQ:∀h',lg h' it d j n ep ok ov T true->h'.get? s.heap.objs.size=some {cls:=.type "tuple",data:=.seq #[k,v]}->h'.objs.size=s.heap.objs.size+1 ->
   (∀c o,c≠it->s.heap.get? c=some o->h'.get? c=some o)->Q (.ref s.heap.objs.size) {s with heap:=h' }):wpAny (model prog w) A (ach (.ref it) 6 k v) Q E s:=by
 have lt:it<s.heap.objs.size:=aan hit;refine gE (m:=ahC [k,v]) (aeu ?_);have push:∀c o,s.heap.get? c=some o->(s.heap.push {cls:=.type "tuple",data:=.seq #[k,v]}).get? c=some o:=fun c o q=>OR _ q;refine gE (m:=ab2 (.ref it)) (JE (s:={s with heap:=s.heap.push {cls:=.type "tuple",data:=.seq #[k,v]} }) (push _ _ hit) (push _ _ hT) fun h' a1 a2 a3=>?_);refine aac (hQ h' a1 (a3 _ _ (abJ lt) (aar _ rfl)) (a2.trans (abE ..)) fun c o nc q=>a3 c o nc (push c o q))
theorem Cu{b:Bool}(hit:lg s.heap it d i es.size ep ok ov T b)(hal:s.heap.get? T=some o)(nT:T≠it)(he:EntAt s.heap d es ep)(hi:i<es.size)
  (hQ:∀h',lg h' it d (i+1) es.size ep ok ov T true->h'.get? s.heap.objs.size=some {cls:=.type "tuple",data:=.seq #[es[i].key,es[i].val]}->h'.objs.size=s.heap.objs.size+1 ->
   (∀c o,c≠it->s.heap.get? c=some o->h'.get? c=some o)->Q (some (.ref s.heap.objs.size)) {s with heap:=h' }):wpAny (model prog w) A (acF (.ref it)) Q E s:=by
 obtain⟨od,hod,hcd,hdd⟩:=he.ex;have hT:s.TypeIs (.ref it) "dict_itemiterator" :=(⟨_,hit,rfl⟩);have own:abF "dict_itemiterator" = true:=by decide
 unfold acF;refine gE (adg (aaY (name:=ab3 "__next__") hT aa7 (aa0 aa7 hT acp ?_ (aci _))))
 wp_walk using p6 hT,afr hit rfl,ac8 hod hdd,adF hod hdd,abf hT
 have eg:(if (i:Int)<0 then none else es[((i:Nat):Int).toNat]?)=some es[i]:=by
  rw[if_neg (by omega),aba,acj hi]
 rw[eg];rcases s with⟨hp,g,dr,tk,os⟩;refine gE ?_;refine gE (p6 hT (aac ?_));refine gE (m:=afs _ _) (abf hT ?_);show wpAny _ _ (ac7 (.ref it) 3 (adI ((i:Int)+1)) >>= _) _ _ _;refine gE (aaM hit (by simp) fun h1 e1 s1=>?_);replace s1:abw it hp h1:=s1;have e1':lg h1 it d (i+1) es.size ep ok ov T b:=by
  have q:((i+1:Nat):Int)=(i:Int)+1:=rfl;unfold lg;rw[q];simpa[adI]using e1
 have T1:afP ⟨h1,g,dr,tk,os⟩ (.ref it) "dict_itemiterator" :=(⟨_,e1',rfl⟩);refine gE (abZ (gE (abf T1 (gE (abf T1 ?_)))));show wpAny _ _ (ach (.ref it) 6 es[i].key es[i].val) _ _ ⟨h1,g,dr,tk,os⟩;have z1:h1.objs.size=hp.objs.size:=s1.1;refine DJ (s:=⟨h1,g,dr,tk,os⟩) e1' (s1.extBut T o nT hal) fun h2 e2 t2 z2 k2=>?_;rw[z1]at t2 z2⊢;exact aac ⟨_,rfl,aac (hQ h2 e2 t2 z2 fun c o nc q=>k2 c o nc (s1.extBut c o nc q))⟩
theorem C6{b:Bool}(hh:A.handled=none)(hit:lg s.heap it d i es.size ep ok ov T b)(he:EntAt s.heap d es ep)(hi:es.size≤i)
  (hQ:∀h',(∀c o,c≠it->s.heap.get? c=some o->h'.get? c=some o)->Q none {s with heap:=h' }):wpAny (model prog w) A (acF (.ref it)) Q E s:=by
 obtain⟨od,hod,hcd,hdd⟩:=he.ex;have hT:s.TypeIs (.ref it) "dict_itemiterator" :=(⟨_,hit,rfl⟩);have own:abF "dict_itemiterator" = true:=by decide
 unfold acF;refine gE (adg (aaY (name:=ab3 "__next__") hT aa7 (aa0 aa7 hT acp ?_ (aci _))))
 wp_walk using p6 hT,afr hit rfl,ac8 hod hdd,adF hod hdd,abf hT
 have eg:(if (i:Int)<0 then none else es[((i:Nat):Int).toNat]?)=none:=by
  rw[if_neg (by omega),aba,agr hi]
 rw[eg];refine gE (gE (p6 hT (aac ?_)));refine gE (m:=ac7 (.ref it) 2 .none) (aaM hit (by simp) fun h1 e1 s1=>?_);refine mj hh fun h2 e k2 ⟨oe,q1,q2⟩=>?_;exact gE (adm (T := "StopIteration") (b:=true) ⟨oe,q1,q2⟩ afp (aac (hQ h2 fun c o nc q=>k2 c o (s1.extBut c o nc q))))
structure Nx(prog:aaW)(w:World)(A:abx)(S it:Addr)(n:Nat)(St:Nat->aa4->Prop)(P:aa4->Nat->GE->Prop):Prop where
 item:∀(i:Nat) (s:aaa) (Q:Option GE->aaa->Prop) (E:GE->aaa->Prop),i<n->St i s.heap->(∃o,s.heap.get? S=some o)->(∀h' v,St (i+1) h'->P h' i v->(∀c o,c≠it->s.heap.get? c=some o->h'.get? c=some o)->Q (some v) {s with heap:=h' })->wpAny (model prog w) A (acF (.ref it)) Q E s
 done:∀(s:aaa) (Q:Option GE->aaa->Prop) (E:GE->aaa->Prop),St n s.heap->(∀h',(∀c o,c≠it->s.heap.get? c=some o->h'.get? c=some o)->Q none {s with heap:=h' })->wpAny (model prog w) A (acF (.ref it)) Q E s
 keep:∀i h h',St i h->h'.objs.size=h.objs.size->(∀c o,c≠S->h.get? c=some o->h'.get? c=some o)->St i h'
 more:∀h h' i v,P h i v->(∀c o,c≠S->c≠it->h.get? c=some o->h'.get? c=some o)->P h' i v
def lh(h:aa4)(S:Addr)(acc:Array GE)(c:Nat):Prop:=h.get? S=some {cls:=.type "list",data:=.seq acc c}
theorem uL{S it:Addr}{n:Nat}{St:Nat->aa4->Prop}{P:aa4->Nat->GE->Prop}{R:Result->aaa->Prop}{res:GE}(N:Nx prog w A.in1 S it n St P)(ne:S≠it)(hn:n≤aam):∀(k i:Nat) (s:aaa) (acc:Array GE) (c:Nat),n-i=k->i≤n->St i s.heap->lh s.heap S acc c->acc.size=i->(∀j v,acc[j]?=some v->P s.heap j v) ->
  (∀h' acc' c',(∀b o,b≠it->b≠S->s.heap.get? b=some o->h'.get? b=some o)->lh h' S acc' c'->acc'.size=n->(∀j v,acc'[j]?=some v->P h' j v)->R (.ok (.ret res)) {s with heap:=h' })->aeK (model prog w) A (.builtin "list.extend.loop" ⟨[.ref S,.ref it,res],[]⟩) R s
 |0,i,s,acc,c,hk,hi,st,hl,ha,hp,fin=>by
  have e:i=n:=by omega
  subst e;refine ae8 aha ((aeY ad2 _).symm▸?_);refine gE (m:=acF (.ref it)) (N.done s _ _ st fun h' kp=>aac (fin h' acc c (fun b o nb _ q=>kp b o nb q) (kp S _ ne hl) ha fun j v e=>N.more _ _ _ _ (hp j v e) fun c o _ nc q=>kp c o nc q))
 | k+1,i,s,acc,c,hk,hi,st,hl,ha,hp,fin=>by
  refine ae8 aha ((aeY ad2 _).symm▸?_);refine gE (m:=acF (.ref it)) (N.item i s _ _ (by omega) st ⟨_,hl⟩ fun h' v st' pv kp=>?_);have hl':lh h' S acc c:=kp S _ ne hl;refine gE (m:=updateSeq S (·.push v)) (agD (s:={s with heap:=h' }) hl' rfl (aac ⟨ahj ad2 _,?_⟩) (by rw[ha];omega) (by show(acc.push v).size≤aam+1;rw[ah3,ha];omega));have up:∀b o,b≠S->h'.get? b=some o->(h'.update S (acf (·.push v))).get? b=some o:=fun b o nb q=>(acH _ _ (abz nb)).trans q;have hp':∀j u,(acc.push v)[j]?=some u->P (h'.update S (acf (·.push v))) j u:=fun j u e=>by
   rw[Array.getElem?_push]at e
   split at e
   .rename_i z;rw[ha]at z;subst z;rw[<-aau e];exact N.more _ _ _ _ pv fun c o nc _ q=>up c o nc q
   .exact N.more _ _ _ _ (hp j u e) fun c o nc ni q=>up c o nc (kp c o ni q)
  refine uL N ne hn k (i+1) _ (acc.push v) _ (by omega) (by omega) (N.keep _ _ _ st' (af9 ..) up) (acW _ hl' rfl) (by rw[ah3,ha]) hp' fun h2 acc2 c2 k2 l2 z2 p2=>fin h2 acc2 c2 (fun b o n1 n2 q=>k2 b o n1 n2 (up b o n2 (kp b o n1 q))) l2 z2 p2
end
section
variable {prog:aaW}{w:World}{A:abx}{E:GE->aaa->Prop}{s:aaa}{it d S:Addr}{es:Array acm}{i ep:Nat}{ok ov:GE}
def StI(S it d:Addr)(es:Array acm)(ep:Nat)(i:Nat)(h:aa4):Prop:=EntAt h d es ep/\h.objs.size=it+1+i/\((∃ok ov,acz h it d i es.size ep ok ov)\/∃k v T b o,lg h it d i es.size ep k v T b/\h.get? T=some o/\T≠it/\T≠S)
def PrI(S it:Addr)(es:Array acm)(h:aa4)(i:Nat)(v:GE):Prop:=S<it/\v = .ref (it+1+i)/\∃hi:i<es.size,h.get? (it+1+i)=some {cls:=.type "tuple",data:=.seq #[es[i].key,es[i].val]}
theorem wQ(it:Addr)(i:Nat):it+1+i≠it:=abJ (aaA (abQ it) (aco _ i))
theorem wN{S it:Addr}(h:S<it)(i:Nat):it+1+i≠S:=abJ (aaE h (aaA (abQ it) (aco _ i)))
theorem DG(hh:A.handled=none)(n1:S<it)(n2:S≠d)(n3:it≠d):Nx prog w A S it es.size (StI S it d es ep) (PrI S it es) where
 item:=fun i s Q E hi ⟨he,z,st⟩ ⟨oS,hS⟩ hQ=>by
  rcases st with⟨ok,ov,st⟩|⟨k,v,T,b,o,st,hT,nT,nS⟩
  .refine p7 st he hi fun h' a1 a2 a3 a4=>?_;rw[z]at a1 a2 a3⊢;exact hQ h' _ ⟨he.keep fun o q=>a4 d o (abz n3) q,a3,.inr ⟨_,_,_,false,_,a1,a2,(wQ it i),(wN n1 i)⟩⟩ ⟨n1,rfl,hi,a2⟩ a4
  .refine Cu st hT nT he hi fun h' a1 a2 a3 a4=>?_;rw[z]at a2 a3⊢;exact hQ h' _ ⟨he.keep fun o q=>a4 d o (abz n3) q,a3,.inr ⟨_,_,_,true,o,a1,a4 T o nT hT,nT,nS⟩⟩ ⟨n1,rfl,hi,a2⟩ a4
 done:=fun s Q E ⟨he,z,st⟩ hQ=>by
  rcases st with⟨ok,ov,st⟩|⟨k,v,T,b,o,st,_⟩
  .exact qv hh st he (Io _) hQ
  .exact C6 hh st he (Io _) hQ
 keep:=fun i h h' ⟨he,z,st⟩ zz k=>by
  refine⟨he.keep fun o q=>k d o (abz n2) q,zz.trans z,?_⟩;rcases st with⟨ok,ov,st⟩|⟨a,v,T,b,o,st,hT,nT,nS⟩
  .exact .inl ⟨ok,ov,k it _ (abJ n1) st⟩
  .exact .inr ⟨a,v,T,b,o,k it _ (abJ n1) st,k T o nS hT,nT,nS⟩
 more:=fun h h' i v ⟨l,e,hi,q⟩ k=>⟨l,e,hi,k _ _ (wN n1 i) (wQ it i) q⟩
theorem yE{Q:GE->aaa->Prop}(hv:s.heap.get? v=some {cls:=.type "dict_items",data:=.fields #[.ref d]})(he:EntAt s.heap d es ep)
  (hQ:∀h',acz h' s.heap.objs.size d 0 es.size ep .none .none->h'.objs.size=s.heap.objs.size+1->(∀b o,s.heap.get? b=some o->h'.get? b=some o)->Q (.ref s.heap.objs.size) {s with heap:=h' }):wpAny (model prog w) A (afh (.ref v)) Q E s:=by
 obtain⟨od,hod,hcd,hdd⟩:=he.ex;have hT:s.TypeIs (.ref v) "dict_items" :=(⟨_,hv,rfl⟩);have own:abF "dict_itemiterator" = true:=by decide
 refine afJ hT acA (aa0 acA hT aeS ?_ (aeH _));unfold ac4.«dict_items.__iter__» afy aeI;refine gE (aac (gE (gE (abc hv rfl (x:=.ref d) rfl (aac (gE (gE (ac8 hod hdd (gE (adF hod hdd ?_))))))))));simp only[own,if_true];refine aa9 (aac ⟨_,rfl,"dict_itemiterator",_,⟨_,aar _ rfl,rfl⟩,acN.lookup,?_⟩) (by simp only[sizeOk,ad8,aas,aap,aaD,adE,aav];omega);exact hQ _ (aar _ rfl) (abE ..) fun b o q=>OR _ q
theorem yo:typeLookup (.type "dict_items") "__len__" = pure (some (.builtin "dict_items.__len__")):=by rw[typeLookup_type,builtinLookup_eq_fast];kernel_rfl
theorem v8{Q:Bool->aaa->Prop}(hT:s.TypeIs (.ref v) "dict_items")(h:Q false s):wpAny (model prog w) A (acJ (.ref v)) Q E s:=by
 rw[acJ];refine gE (agB hT yo ?_);have sp:splitId "dict_items.__len__" = some ("dict_items","__len__"):=by decide +kernel
 dsimp only;rw[sp];dsimp only;refine gE (adm (b:=true) hT (by rw[isSubtype_type];kernel_rfl) ?_);rw[if_neg (by decide)];rw[if_pos (by decide +kernel)];exact gE (adU hT (aac h))
theorem O7{c:Nat}{Q:Unit->aaa->Prop}(hl:lh s.heap S #[] c)(h:∀h' c',lh h' S #[] c'->h'.objs.size=s.heap.objs.size->(∀b o,b≠S->s.heap.get? b=some o->h'.get? b=some o)->Q () {s with heap:=h' }):wpAny (model prog w) A (agt (.ref S)) Q E s:=by
 unfold agt;refine gE (m:=updateSeq S (·.push .none)) (agD hl rfl ?_ (by rw[Array.size_empty,aav];omega) (by show(#[].push agf:Array GE).size≤aam+1;rw[aav];decide));have l1:lh (s.heap.update S (acf (·.push .none))) S (#[].push .none) _:=acW _ hl rfl;refine agD (s:={s with heap:=s.heap.update S (acf (·.push .none))}) l1 rfl ?_ (by show(1:Nat)≤aam;rw[aav];decide) (by show(0:Nat)≤aam+1;omega);have l2:lh ((s.heap.update S (acf (·.push .none))).update S (acf (·.pop))) S #[] _:=acW _ l1 rfl;exact h _ _ l2 ((af9 ..).trans (af9 ..)) fun b o nb q=>(acH _ _ (abz nb)).trans ((acH _ _ (abz nb)).trans q)
theorem CK{T:String}{c:Nat}{St:Addr->Nat->aa4->Prop}{R:Result->aaa->Prop}(hT:s.TypeIs (.ref v) T)(hTT:T = "dict_items" \/ T = "dict")(nv:S≠v)(hl:lh s.heap S #[] c)(hn:n≤aam)
  (hint:∀(s:aaa) (Q:Bool->aaa->Prop) (E:GE->aaa->Prop),s.TypeIs (.ref v) T->Q false s->wpAny (model prog w) A.in1 (acJ (.ref v)) Q E s)
  (iter:∀(Q:GE->aaa->Prop) (E:GE->aaa->Prop),(∀h' it,it≠S->Nx prog w A.in1 S it n (St it) (P it)->St it 0 h'->(∀b o,s.heap.get? b=some o->h'.get? b=some o)->s.heap.get? it=none->Q (.ref it) {s with heap:=h' })->wpAny (model prog w) A.in1 (afh (.ref v)) Q E s)
  (fin:∀it h' (acc:Array GE) c',(∀b o,b≠S->s.heap.get? b=some o->h'.get? b=some o)->lh h' S acc c'->acc.size=n->(∀j u,acc[j]?=some u->P it h' j u)->R (.ok (.ret (.ref S))) {s with heap:=h' }):aeK (model prog w) A (.builtin "list.__iadd__" ⟨[.ref S,.ref v],[]⟩) R s:=by
 refine ae8 F.entry_list_iadd ((aeY F.plain_list_iadd _).symm▸?_);show wpAny _ A.in1 (afd (.ref S) (.ref v) (.ref S)) _ _ _;rw[afd];refine gE ?_;refine adU hT ?_;have sr:afQ (.ref S) (.ref v)=false:=by simp[afQ,nv]
 rw[sr,if_neg (by rcases hTT with rfl|rfl<;>decide)];refine gE (iter _ _ fun h1 it ni N st k1 nn=>?_);have hT1:afP {s with heap:=h1} (.ref v) T:=by
  obtain⟨o,q1,q2⟩:=hT;exact⟨o,k1 _ _ q1,q2⟩
 refine gE (abZ (hint _ _ _ hT1 ?_));dsimp only;rw[if_pos (by rcases hTT with rfl|rfl<;>decide)];refine gE (acP (gE (O7 (s:={s with heap:=h1}) (k1 _ _ hl) fun h2 c2 l2 zz2 k2=>?_)));refine aac ⟨ahj ad2 _,uL N (abz ni) hn n 0 _ #[] c2 rfl (acL _) (N.keep _ _ _ st zz2 k2) l2 rfl (fun j u e=>by simp at e) fun h3 acc c3 k3 l3 z3 p3=>fin it h3 acc c3 (fun b o nb q=>k3 b o (fun z=>by rw[z,nn]at q;cases q) nb (k2 b o nb (k1 b o q))) l3 z3 p3⟩
theorem vH{T:String}{St:Addr->Nat->aa4->Prop}{Q:List GE->aaa->Prop}(hT:s.TypeIs (.ref v) T)(hTT:T = "dict_items" \/ T = "dict")(hn:n≤aam)
  (hint:∀(s:aaa) (Q:Bool->aaa->Prop) (E:GE->aaa->Prop),s.TypeIs (.ref v) T->Q false s->wpAny (model prog w) A.in1 (acJ (.ref v)) Q E s)
  (iter:∀(s1:aaa) (Q:GE->aaa->Prop) (E:GE->aaa->Prop),(∀b o,s.heap.get? b=some o->s1.heap.get? b=some o)->(∃o,s1.heap.get? s.heap.objs.size=some o)->(∀h' it,it≠s.heap.objs.size->Nx prog w A.in1 s.heap.objs.size it n (St it) (P it)->St it 0 h'->(∀b o,s1.heap.get? b=some o->h'.get? b=some o)->s1.heap.get? it=none->Q (.ref it) {s1 with heap:=h' })->wpAny (model prog w) A.in1 (afh (.ref v)) Q E s1)
  (fin:∀it h' (acc:Array GE),(∀b o,s.heap.get? b=some o->h'.get? b=some o)->s.heap.objs.size<h'.objs.size->acc.size=n->(∀j u,acc[j]?=some u->P it h' j u)->Q acc.toList {s with heap:=h' }):wpAny (model prog w) A (collect (.ref v)) Q E s:=by
 have new:lh (s.heap.push {cls:=.type "list",data:=.seq #[]}) s.heap.objs.size #[] 0:=aar _ rfl;have k0:∀b o,s.heap.get? b=some o->(s.heap.push {cls:=.type "list",data:=.seq #[]}).get? b=some o:=fun b o q=>OR _ q;have nv:s.heap.objs.size≠v:=by
  obtain⟨o,q,_⟩:=hT;exact abJ (aan q)
 have hT0:afP {s with heap:=s.heap.push {cls:=.type "list",data:=.seq #[]} } (.ref v) T:=by
  obtain⟨o,q1,q2⟩:=hT;exact⟨o,k0 _ _ q1,q2⟩
 refine gE (m:=runValue _) (wpAny_runValue (ae8 F.entry_proto_collect (gE (m:=ahy []) (aa9 (aac ⟨ahj F.plain_list_iadd _,?_⟩)))));refine CK (s:={s with heap:=s.heap.push {cls:=.type "list",data:=.seq #[]} }) hT0 hTT nv new hn hint (fun Q E h=>iter {s with heap:=s.heap.push {cls:=.type "list",data:=.seq #[]} } Q E k0 ⟨_,new⟩ h) fun it h' acc c' k l z p=>?_;refine gE (m:=load s.heap.objs.size) (wpAny_load l ?_);exact aac (fin it h' acc (fun b o q=>k b o (aa6 (aan q)) (k0 b o q)) (aan l) z p)
end
end L2
namespace L2
open PySem PySem.Spec PySem.W PyProof.Rows
variable{ds:List iO}{n:Nat}{B:Addr}{g:Nat->HO}{o:Expr}{apos cpos pos:Pos}{wo:WE}
section
variable {prog:aaW}{w:World}{A:abx}{E:GE->aaa->Prop}{s:aaa}
def Jj(h h':aa4):Prop:=∀b o,h.get? b=some o->o.cls = .type "tuple" -> h'.get? b=some o
theorem uF{h h':aa4}{k:Nat}(K:Jj h h')(IH:∀x y u as,x.depth≤k->smD x y=true->Reads h u x as->∃bs,Reads h' u x bs):∀(xs ys:List iO) us as,aaC xs≤k->smDs xs ys=true->ad6 h us xs as->∃bs,ad6 h' us xs bs
 |[],ys,us,as,_,_,r=>by cases r;exact⟨[],.nil⟩
 | x::xs,ys,us,as,hk,sm,r=>by
  cases ys with
  |nil=>exact absurd sm (by simp only[smDs];decide)
  | cons y ys =>
   simp only[smDs,aaL]at sm;have hk':max x.depth (aaC xs)≤k:=hk
   cases r with
   |cons r1 r2 =>
    obtain⟨b1,q1⟩:=IH x y _ _ (by omega) sm.1 r1;obtain⟨b2,q2⟩:=uF K IH xs ys _ _ (by omega) sm.2 r2;exact⟨_,.cons q1 q2⟩
theorem yX{h h':aa4}(K:Jj h h'):∀(k:Nat) (x y:iO) (u:GE) (as:List Addr),x.depth≤k->smD x y=true->Reads h u x as->∃bs,Reads h' u x bs
 |k,.int a,y,u,as,_,_,r=>by cases r;exact⟨_,.int _ _⟩
 |0,.tuple xs,y,u,as,hk,_,_=>absurd hk (by show ¬aaC xs+1≤0;omega)
 | k+1,.tuple xs,y,u,as,hk,sm,r=>by
  cases y with
  | tuple ys =>
   simp only[smD]at sm;have hk':aaC xs+1≤k+1:=hk
   cases r with
   |tuple e c q z =>
    obtain⟨bs,q'⟩:=uF K (yX K k) xs ys _ _ (by omega) sm z;exact⟨_,.tuple (K _ _ e c) c q q'⟩
  |_=>exact absurd sm (by simp only[smD];decide)
 |k,.none,y,u,as,_,sm,_=>absurd sm (by simp only[smD];decide)
 |k,.bool _,y,u,as,_,sm,_=>absurd sm (by simp only[smD];decide)
 |k,.str _,y,u,as,_,sm,_=>absurd sm (by simp only[smD];decide)
 |k,.list _,y,u,as,_,sm,_=>absurd sm (by simp only[smD];decide)
 |k,.dict _,y,u,as,_,sm,_=>absurd sm (by simp only[smD];decide)
theorem yj{fin r:Bool}{Q:Bool->aaa->Prop}(q:Q r s):∀(ps:List (GE×GE)) (i:Nat),zx A s fin r ps->KatLex prog w A false fin Q ps i s
 |[],i,h=>kat_nil (by have h':r=fin:=h;rw[<-h'];exact q)
 |p::ps,i,⟨e,he,h1,h2⟩=>by
  refine kat_cons (he prog w _ _ ?_)
  cases e with
  |true=>exact kat_yes (yj q ps (i+1) (h1 rfl))
  |false=>exact kat_no (kat_one _ _ (h2 rfl prog w _ _ q))
def RdL(h:aa4):List GE->List iO->Prop
 |[],[]=>True
 |v::vs,d::ds=>(∃as,Reads h v d as)/\RdL h vs ds
 |_,_=>False
theorem RdL.len{h:aa4}:∀{vs:List GE}{ds:List iO},RdL h vs ds->vs.length=ds.length
 |[],[],_=>rfl
 |v::vs,d::ds,t=>by rw[aaD,aaD,RdL.len t.2]
 |[],_::_,t=>t.elim
 |_::_,[],t=>t.elim
theorem RdL.get{h:aa4}:∀{vs:List GE}{ds:List iO}{i:Nat},RdL h vs ds->i<vs.length->∃as,Reads h (vs.getD i .none) (ds.getD i .none) as
 |[],[],_,_,z=>by simp at z
 |v::vs,d::ds,0,t,_=>t.1
 |v::vs,d::ds,i+1,t,z=>by
  rw[ahb,ahb];exact RdL.get t.2 (by simpa using z)
 |[],_::_,_,t,_=>(t.elim)
 |_::_,[],_,t,_=>(t.elim)
def tt1:iO->Bool
 | .tuple (.tuple _::_)=>true
 |_=>false
theorem y6{h:aa4}:∀{vs:List GE}{ds:List iO},RdL h vs ds->(∀d∈ds,tt1 d=true)->∃fs,KatTups h vs fs/\fs.length=vs.length/\∀v∈fs,∃b o,v = .ref b/\h.get? b=some o/\o.cls = .type "tuple"
 |[],[],_,_=>⟨[],.nil,rfl,fun _ h=>by cases h⟩
 | v::vs,d::ds,⟨⟨as,r⟩,t⟩,hd=>by
  obtain⟨fs,k1,k2,k3⟩:=y6 t fun x hx=>hd x (aab _ hx);have h1:=hd d aaf;obtain⟨ys,xs,rfl⟩:∃ys xs,d = .tuple (.tuple ys::xs):=by
   unfold tt1 at h1
   split at h1
   .exact⟨_,_,rfl⟩
   .cases h1
  cases r with
  | tuple e c q z =>
   rename_i a o its n;generalize eL:its.toList=L at z
   cases z with
   | cons r1 r2 =>
    rename_i u us as1 bs;have e0:its[0]?=some u:=by
     rw[<-acY,eL];rfl
    cases r1 with
    |tuple e2 c2 q2 z2 =>
     refine⟨_::fs,.cons e c q e0 k1,by rw[aaD,aaD,k2],fun x hx=>?_⟩;exact(aal.mp hx).elim (fun z=>by subst z;exact⟨_,_,rfl,e2,c2⟩) (k3 x)
 |[],_::_,t,_=>t.elim
 |_::_,[],t,_=>t.elim
theorem RdL.keep{h h':aa4}(K:Jj h h'):∀{vs:List GE}{ds:List iO},(∀d∈ds,smD d d=true)->RdL h vs ds->RdL h' vs ds
 |[],[],_,_=>trivial
 |v::vs,d::ds,hs,⟨⟨as,r⟩,t⟩=>⟨yX K d.depth d d v as (Io _) (hs d aaf) r,RdL.keep K (fun x hx=>hs x (aab _ hx)) t⟩
 |[],_::_,_,t=>t.elim
 |_::_,[],_,t=>t.elim
structure SrtOk(ds:List iO):Prop where
 n:ds.length<64
 sm:∀x∈ds,∀y∈ds,smD x y=true
 tt:∀x∈ds,tt1 x=true
 dp:∀x∈ds,x.depth≤7
theorem Mf{u v:GE}{x y:iO}{as bs:List Addr}{Q:Bool->aaa->Prop}(r1:Reads s.heap u x as)(r2:Reads s.heap v y bs)(sm:smD x y=true)(t1:tt1 x=true)(t2:tt1 y=true)(hu:A.units+x.depth<cLine)(h:Q (ltD x y) s):wpAny (model prog w) A (keyLt' (tuples' false) u v) Q E s:=by
 obtain⟨a1,b1,rfl⟩:∃a b,x = .tuple (.tuple a::b):=by
  unfold tt1 at t1
  split at t1
  .exact⟨_,_,rfl⟩
  .cases t1
 obtain⟨a2,b2,rfl⟩:∃a b,y = .tuple (.tuple a::b):=by
  unfold tt1 at t2
  split at t2
  .exact⟨_,_,rfl⟩
  .cases t2
 simp only[smD]at sm
 cases r1 with
 | tuple e c q z =>
  cases r2 with
  |tuple e2 c2 q2 z2 =>
   have hu':A.units+(aaC (.tuple a1::b1)+1)<cLine:=hu;obtain⟨l1,lx⟩:=j3 (uD _) A s _ _ _ _ _ _ (Io _) z z2 sm (by omega);rw[abm,abm]at l1;have h':Q (ltDs (.tuple a1::b1) (.tuple a2::b2)) s:=h;refine kat_lt e q e2 q2 (yj h' _ 0 ?_);rw[decide_eq_false (p:=_) (by omega)];exact lx
def ordP(ds:List iO)(p:List Nat):Prop:=p.Perm (aaP ds.length)/\∀i j,i<j->j<ds.length->ltD (ds.getD (p.getD i 0) .none) (ds.getD (p.getD j 0) .none)=true
theorem og{a:Addr}{vs:List GE}{P:PySem.Fin->aaa->Prop}(ho:s.heap.get? a=some (aey "list" vs.toArray n))(hr:RdL s.heap vs ds)(ok:SrtOk ds)(hT:TotF ds.length fun i j=>ltD (ds.getD i .none) (ds.getD j .none))(hu:A.units+7<cLine)
  (h:∀p:List Nat,ordP ds p->P (.done (.ret .none)) {s with heap:=agu s.heap a vs (p.map fun i=>vs.getD i .none).toArray}):wpAny (model prog w) A
  (ac4.«list.sort» ⟨[.ref a],[]⟩) P E s:=by
 have hlen:=hr.len;have h64:=ok.n;rw[list_sort_plain];have hz1:(s.heap.update a (acf fun _=>#[])).get? a=some (aey "list" #[] _):=get?_update_seq ho fun _=>#[];have hz6:(((s.heap.update a (acf fun _=>#[])).push (aey "tuple" vs.toArray 0)).push (aey "list" #[] 0)).get? a=some (aey "list" #[] _):=OR _ (OR _ hz1);refine gE (listItems_at ho rfl (gE (ahk ho rfl (gE (seqEpoch_at hz1 rfl (gE (m:=ahC _) (aeu (gE (m:=ahy _) (wpAny_newList (abZ ?_))))))))));have r6:RdL (((s.heap.update a (acf fun _=>#[])).push (aey "tuple" vs.toArray 0)).push (aey "list" #[] 0)) vs ds:=hr.keep (fun b o e c=>by
  have hb:b≠a:=fun z=>by
   rw[z,ho]at e;have c':o.cls=agg "list" :=by rw[<-aau e]
   rw[c']at c;exact absurd c (by decide)
  refine OR _ (OR _ ?_);rw[aa4.get?_update_ne _ _ _ _ hb];exact e) fun d hd=>ok.sm d hd d hd
 generalize hH:((s.heap.update a (acf fun _=>#[])).push (aey "tuple" vs.toArray 0)).push (aey "list" #[] 0)=h6 at hz6 r6;have sH:agu s.heap a vs=fun out=>agu s.heap a vs out:=rfl;change wpAny _ A _ P E ({s with heap:=h6}:aaa);dsimp only;have hsz:(vs.toArray:Array GE).size=vs.length:=aas
 by_cases h2:(vs.toArray:Array GE).size<2
 .rw[if_pos h2,if_pos h2];refine gE (aac ?_);rw[StateT.run_pure];refine gE (aac ?_);dsimp only;refine gE (seqEpoch_at hz6 rfl ?_);refine gE (ahk hz6 rfl ?_ (hsz2:=by rw[Array.size_map];show(pairsOf vs).size≤_;rw[pairsOf_size,aav];omega));simp only[if_false,acn,bne_self_eq_false];refine aac ?_;have hh:=h (aaP ds.length) ⟨List.Perm.refl _,fun i j hij hj=>by omega⟩;have eo:((aaP ds.length).map fun i=>vs.getD i .none).toArray=(arrOf (SortSt.mk' general' (vs.toArray.zip vs.toArray) #[] 7 none)).map (·.2):=by
   show _=(vs.toArray.zip vs.toArray).map (·.2);apply Array.toList_inj.mp;rw[Array.toList_map,Array.toList_zip];refine acw fun i=>?_
   by_cases hi:i<vs.length
   .simp[abW,hi,<-hlen]
   .simp[abW,hi,<-hlen]
  rw[eo]at hh;unfold agu at hh;rw[hH]at hh;exact hh
 .rw[if_neg h2,if_neg h2];obtain⟨q,eq,pq,aq⟩:=B9 hT (by omega);obtain⟨fs,k1,k2,k3⟩:=y6 r6 ok.tt;refine gE (kat_kind (s:={s with heap:=h6}) (T:=.type "tuple") k1 (by omega) (fun v hv=>?_) rfl ?_)
  .obtain⟨b,o,rfl,e1,c1⟩:=k3 v hv;exact fun A' Q' E' s' kk q=>adU ⟨o,kk _ _ e1,c1⟩ q
  rw[show(agg "tuple" != agg "tuple")=false by decide];refine gE (aef (kat_run (ks:=vs) (Q:=fun st' s'=>q.size=vs.length/\arrOf st'=q.map (kas_item (vs.toArray.zip vs.toArray))/\failedOf st'=none/\s'={s with heap:=h6})
   (G:=fun p' s'=>p'=q/\s'={s with heap:=h6}) rfl (by omega) (by omega) (fun p' st' s' z1 z2 z3 z4=>by obtain⟨rfl,rfl⟩:=z4;exact⟨z1,z2,z3,rfl⟩) ?_) ?_ fun _ _ e=>e)
  rotate_left
  .rintro⟨⟨⟩,st'⟩ s' ⟨z1,z2,z3,rfl⟩;dsimp only;rw[kat_snds rfl z2];refine gE (seqEpoch_at hz6 rfl ?_);refine gE (ahk hz6 rfl ?_ (hsz2:=by simp;rw[z1,aav];omega));rw[z3];simp only[if_false,acn,bne_self_eq_false];have hh:=h q.toList ⟨pq.pm,fun i j hij hj=>by
    have e1:∀k,k<ds.length->q.toList.getD k 0=pA q k:=fun k hk=>by
     rw[aax,acY,dt (by rw[pq.sz];exact hk)];rfl
    rw[e1 i (by omega),e1 j hj];exact aq i j hij hj⟩
   unfold agu at hh;rw[hH]at hh;exact aac hh
  .rw[hlen];refine yA (fun i j C hi hj hC=>?_) _ q eq ⟨rfl,rfl⟩;have hi':i<ds.length:=hi;have hj':j<ds.length:=hj;obtain⟨as,r1⟩:=r6.get (i:=i) (by omega);obtain⟨bs,r2⟩:=r6.get (i:=j) (by omega);have m1:ds.getD i .none∈ds:=by rw[bm (Ge hi')];exact abh _
   have m2:ds.getD j .none∈ds:=by rw[bm (Ge hj')];exact abh _
   exact Mf (s:={s with heap:=h6}) r1 r2 (ok.sm _ m1 _ m2) (ok.tt _ m1) (ok.tt _ m2) (by have:=ok.dp _ m1;omega) hC
end
section
variable {prog:aaW}{w:World}{A:abx}{E:GE->aaa->Prop}{s:aaa}
theorem vK{v:GE}{C:aa4->List GE->Prop}{Q:GE->aaa->Prop}(ok:SrtOk ds)(hT:TotF ds.length fun i j=>ltD (ds.getD i .none) (ds.getD j .none))(hu:A.units+10<cLine)
  (col:∀(P:List GE->aaa->Prop) (E:GE->aaa->Prop),(∀h' vs,(∀b o,s.heap.get? b=some o->h'.get? b=some o)->RdL h' vs ds->C h' vs->P vs {s with heap:=h' })->wpAny (model prog w) A.in1 (collect v) P E s)
  (h:∀(h1 h2:aa4) (vs:List GE) (p:List Nat) (L:Addr) (e:Nat),(∀b o,s.heap.get? b=some o->h1.get? b=some o)->C h1 vs->RdL h1 vs ds->(∀b o,h1.get? b=some o->h2.get? b=some o)->L=h1.objs.size->h2.get? L=some (aey "list" (p.map fun i=>vs.getD i .none).toArray e)->ordP ds p->Q (.ref L) {s with heap:=h2}) :
  wpAny (model prog w) A (call (.builtin "sorted") [v]) Q E s:=by
 refine Calls.call_function_entry kind_sorted plain_sorted entry_sorted (args:=_) (args_sorted1 v) ?_;refine gE (m:=checkCount "sorted" 1 1 _) (aac (gE (col _ _ fun h1 vs k1 r1 c1=>gE (m:=ahy vs) (wpAny_newList ?_ (hsz:=by rw[r1.len,aav];have:=ok.n;omega)))));have at1:(h1.push (aey "list" vs.toArray 0)).get? h1.objs.size=some (aey "list" vs.toArray 0):=aar _ rfl;have k2:∀b o,h1.get? b=some o->(h1.push (aey "list" vs.toArray 0)).get? b=some o:=fun b o q=>OR _ q;have r2:RdL (h1.push (aey "list" vs.toArray 0)) vs ds:=r1.keep (fun b o q _=>k2 b o q) fun d hd=>ok.sm d hd d hd;refine gE (m:=adK _ _) (abZ (aef (aa0 (s:={s with heap:=h1.push (aey "list" vs.toArray 0)}) slot_list_sort ⟨_,at1,rfl⟩ entry_list_sort (og at1 r2 ok hT (show A.units+1+1+7<cLine by omega) fun p hp=>⟨_,rfl,?_⟩) (args_list_sort _)) (fun v' s' (q:Q (.ref h1.objs.size) s')=>aac ⟨_,rfl,q⟩) fun _ _ z=>z));obtain⟨e,he⟩:=sortedHeap_at (out:=(p.map fun i=>vs.getD i .none).toArray) at1;exact h h1 _ vs p _ e k1 c1 r1 (fun b o q=>by
  have lt:b<h1.objs.size:=aan q;rw[sortedHeap_old (aa6 lt) (by rw[size_push'];exact aev lt)];exact k2 b o q) rfl he hp
end
theorem xw(h:aa4):h.get? h.objs.size=none:=by
 cases e:h.get? h.objs.size with
 |none=>rfl
 |some o=>exact(acK _ (aan e)).elim
def updR(H:Hp)(B:Addr)(g:Nat->HO):Nat->Hp
 |0=>H
 |n+1=>upd (updR H B g n) (B+n) (g n)
theorem ix{H:Hp}{B:Addr}{g:Nat->HO}{b:Addr}:∀{n:Nat},(∀j,j<n->b≠B+j)->updR H B g n b=H b
 |0,_=>rfl
 |n+1,h=>by
  show upd _ _ _ b=_;rw[am (h n (abQ n))];exact ix fun j hj=>h j (aev hj)
theorem sj{H:Hp}{B:Addr}{g:Nat->HO}{j:Nat}:∀{n:Nat},j<n->updR H B g n (B+j)=some (g j)
 |0,h=>absurd h (Nat.not_lt_zero _)
 |n+1,h=>by
  by_cases e:j=n
  .subst e;exact av
  .show upd _ _ _ (B+j)=_;rw[am (fun z=>e (ahc z))];exact sj (by omega)
section
variable {X:Cx}{pins:List (Addr×Obj)}{σ:List (Option V)}{H:Hp}{s:aaa}{h':aa4}
theorem Cc{b:Addr}(h:b<B):updR H B g n b=H b:=ix fun j _=>aa6 (aaA h (aco _ _))
theorem c9{b:Addr}{o:HO}(fr:∀j,H (B+j)=none)(h:H b=some o):updR H B g n b=some o:=by
 rw[ix fun j _ z=>by rw[z,fr j]at h;cases h];exact h
theorem Inv.laidR{t':Nat}(I:Inv X pins σ H s)(k:∀b u,s.heap.get? b=some u->h'.get? b=some u)(hp:s.heap.objs.size≤B)(new:∀j,j<n->ObjOk X.prog X.w (updR H B g n) h' (B+j) (g j)) :
  Inv X pins σ (updR H B g n) {s with heap:=h',toks:=t' }:=by
 have fr:∀j,H (B+j)=none:=fun j=>I.hok.fresh (aaz hp (aco _ _));refine I.un ⟨fun b u q _ _ _=>k b u q,fun b u q _ _ _=>⟨u.slots,k b u q⟩,fun b u q n _=>?_,fun b u q _=>⟨u,k b u q⟩,fun b xs q=>c9 fr q,fun b u xs q=>c9 fr q,fun b ps q=>⟨#[],?_⟩⟩ fun b u e=>?_
 .rw[Cc (aaA (aan q) hp)];exact n
 .rw[c9 fr q];simp
 .by_cases hb:∃j,j<n/\b=B+j
  .obtain⟨j,hj,rfl⟩:=hb;rw[sj hj]at e;rw[<-aau e];exact new j hj
  .rw[ix fun j hj z=>hb ⟨j,hj,z⟩]at e;exact(I.hok b u e).stay (fun c v _ q=>k c v q) (fun c q=>c9 fr q) fun c xs q=>c9 fr q
theorem Ga{p:List Nat}(h:ordP ds p):(p.map fun i=>ds.getD i .none).Perm ds/\(p.map fun i=>ds.getD i .none).Pairwise fun a b=>ltD a b=true:=by
 have pl:p.length=ds.length:=by rw[h.1.length_eq,aa3]
 constructor
 .have e:(aaP ds.length).map (fun i=>ds.getD i .none)=ds:=acw fun i=>by
   rw[aak]
   by_cases hi:i<ds.length
   .rw[abW hi,Ge hi];show some (ds.getD i .none)=_;rw[bm (Ge hi)]
   .rw[acX (by rw[aa3];omega),acX (by omega)];rfl
  have:=h.1.map fun i=>ds.getD i .none;rwa[e]at this
 .refine abT.mpr fun i j hi hj hij=>?_;rw[oR]at hi hj;rw[adY,adY];have:=h.2 i j hij (by omega);rwa[bm (Ge hi),bm (Ge hj)]at this
theorem Fb(I:Inv X pins σ H s):∀{ds:List iO}{xs:List V}{us:List GE},(∀d∈ds,d.canLay0=true)->DenAll X.kx H ds xs->Vals xs us->RdL s.heap us ds
 |[],xs,us,_,g,r=>by
  simp only[DenAll]at g;subst g;cases r;trivial
 |d::ds,xs,us,hl,g,r=>by
  simp only[DenAll]at g;obtain⟨x,xs',rfl,g1,g2⟩:=g
  cases r with
  |cons h t=>exact⟨Den.reads I (abu _ (hl d aaf)) g1 h,Fb I (fun x hx=>hl x (aab _ hx)) g2 t⟩
theorem SrtOk.lay(ok:SrtOk ds):∀d∈ds,d.canLay0=true:=fun d hd=>(xR (ok.sm d hd d hd)).1
structure SrtT(ds:List iO):Prop where
 ok:SrtOk ds
 tot:TotF ds.length fun i j=>ltD (ds.getD i .none) (ds.getD j .none)
def srtR(ds:List iO)(K:List iO->Prop):Prop:=SrtT ds/\∀ds':List iO,ds'.Perm ds->ds'.Pairwise (fun a b=>ltD a b=true)->K ds'
theorem yW:∀{xs:List V}{us:List GE},xs.length=us.length->(∀(j:Nat) (x:V) (u:GE),xs[j]?=some x->us[j]?=some u->RelV x u)->Vals xs us
 |[],[],_,_=>.nil
 |x::xs,u::us,hl,h=>.cons (h 0 x u rfl rfl) (yW (by simpa using hl) fun j x u e1 e2=>h (j+1) x u (by simpa using e1) (by simpa using e2))
 |[],_::_,hl,_=>(adj _ hl).elim
 |_::_,[],hl,_=>(adj _ hl.symm).elim
theorem pj{K:Kd}{H:Hp}:∀{ds:List iO}{xs:List V},ds.length=xs.length->(∀(j:Nat) (d:iO) (x:V),ds[j]?=some d->xs[j]?=some x->Den K H d x)->DenAll K H ds xs
 |[],[],_,_=>by simp only[DenAll]
 |d::ds,x::xs,hl,h=>by
  simp only[DenAll];exact⟨x,xs,rfl,h 0 d x rfl rfl,pj (by simpa using hl) fun j d x e1 e2=>h (j+1) d x (by simpa using e1) (by simpa using e2)⟩
 |[],_::_,hl,_=>(adj _ hl).elim
 |_::_,[],hl,_=>(adj _ hl.symm).elim
theorem yy{H:Hp}(fr:∀j,H (B+j)=none)(n:Nat):Pers H (updR H B g n):=⟨fun b xs q=>c9 fr q,fun b o u q=>c9 fr q⟩
def itmG(es:List (V×V))(j:Nat):HO:=.tup [(es.getD j (.non,.non)).1,(es.getD j (.non,.non)).2]
def qz(B:Addr)(n:Nat):List V:=(aaP n).map fun j=>.ref (B+j)
theorem pf{K:Kd}{H:Hp}{kvs:List (iO×iO)}{es:List (V×V)}(fr:∀j,H (B+j)=none)(pd:PDc K H kvs es):DenAll K (updR H B (itmG es) es.length) (bG kvs) (qz B es.length):=by
 have pe:=yy (g:=itmG es) fr es.length;refine pj (by unfold bG qz;rw[oR,oR,aa3,pd.length]) fun j d x e1 e2=>?_;unfold bG at e1;rw[aak]at e1;obtain⟨p,e3,rfl⟩:=agv.mp e1;obtain⟨ev,e4,d1,d2⟩:=Paired.at1 pd e3;have hj:j<es.length:=(aad.mp e4).1;unfold qz at e2;rw[aak,abW hj]at e2;have e2':=aau e2;subst e2';have eg:itmG es j = .tup [ev.1,ev.2]:=by unfold itmG;rw[bm e4]
 exact c5 (SqT.of ((sj hj).trans (by rw[eg]))) (DenAll.cons (d1.mono pe) (DenAll.cons (d2.mono pe) DenAll.nil))
def LL(K:Kd)(to:TE):TE:=fun σ H Q=>to σ H fun x H1=>∃a o es kvs,x = .ref a/\DcE H1 a o es/\PDc K H1 kvs es/\SrtT (bG kvs)/\∀(ds':List iO) (B:Addr) (g:Nat->HO) (n:Nat) (L:Addr) (xs:List V),ds'.Perm (bG kvs)->ds'.Pairwise (fun a b=>ltD a b=true)->(∀j,H1 (B+j)=none)->updR H1 B g n L=none->DenAll K (upd (updR H1 B g n) L (.lst xs)) ds' xs->Q (.ref L) (upd (updR H1 B g n) L (.lst xs))
theorem AG{p0:Pos}{to:TE}(hc:X.calm=true)(hu:X.A.units+64<cLine)(hg:Gl X "sorted")(hm:X.mg "sorted" = none)(ho:PE X o to)(hbase:abG o "items" X.env (eval o X.env)=eval o X.env:=by rfl)(hline:(apos.endLine==cpos.line)=true:=by rfl)
  (hst:aao [.Call (.Attribute o "items" apos) [] [] cpos] X.env=[(false,eval (.Call (.Attribute o "items" apos) [] [] cpos) X.env)]:=by rfl):PE X (.Call (.Name "sorted" p0) [.Call (.Attribute o "items" apos) [] [] cpos] [] pos) (LL X.kx to):=by
 intro pins s σ H Q I h;refine aeg (ll I hg hm wx ?_);refine aeD ?_ hst rfl;rw[hst];refine ahl ?_;refine af7 hbase hline (thn (ho pins s σ H _ I h) fun v s1 ⟨x,H1,I1,r1,q1⟩=>?_);obtain⟨a,ob,es,kvs,rfl,dc,pd,st,q⟩:=q1;cases r1;obtain⟨hsys,ents,ep,g1,g2,g3,g4⟩:=I1.dce dc;have he:EntAt s1.heap a ents ep:=⟨ob,g1,g2,g3⟩;refine⟨"dict","dict.items",aem,aen,af8,⟨ob,g1,g2.1⟩,fun b e=>by cases e;exact⟨ob,g1,g2.2.1⟩,adt rfl (ag7 (lQ hsys he ?_))⟩;refine ahu ?_;have kv:∀b o,s1.heap.get? b=some o->(s1.heap.push {cls:=.type "dict_items",data:=.fields #[.ref a]}).get? b=some o:=fun b o q=>OR _ q;have hl:es.length=ents.size:=by have:=g4.length;simpa using this
 have hil:(bG kvs).length=es.length:=by unfold bG;rw[oR,pd.length]
 have hn:=st.ok.n;have I2:Inv X pins σ H1 {s1 with heap:=s1.heap.push {cls:=.type "dict_items",data:=.fields #[.ref a]} }:=I1.kept (t':=s1.toks) kv;have hv2:(s1.heap.push {cls:=.type "dict_items",data:=.fields #[.ref a]}).get? s1.heap.objs.size=some {cls:=.type "dict_items",data:=.fields #[.ref a]}:=aar _ rfl;have he2:EntAt (s1.heap.push {cls:=.type "dict_items",data:=.fields #[.ref a]}) a ents ep:=he.keep fun o q=>kv _ _ q;have la:a<s1.heap.objs.size:=aan g1;generalize hS2:({s1 with heap:=s1.heap.push {cls:=.type "dict_items",data:=.fields #[.ref a]} }:aaa)=s2 at I2⊢;have hh2:s2.heap=s1.heap.push {cls:=.type "dict_items",data:=.fields #[.ref a]}:=by rw[<-hS2]
 rw[<-hh2]at hv2 he2;have lv:s1.heap.objs.size<s2.heap.objs.size:=aan hv2;have lay:∀(h':aa4) (it:Addr),(∀b o,s2.heap.get? b=some o->h'.get? b=some o)->s2.heap.objs.size≤it+1->(∀j (hj:j<ents.size),h'.get? (it+1+j)=some {cls:=.type "tuple",data:=.seq #[ents[j].key,ents[j].val]})->Inv X pins σ (updR H1 (it+1) (itmG es) es.length) {s2 with heap:=h' }:=fun h' it k z tp=>by
  refine I2.laidR (t':=s2.toks) k z fun j hj=>?_;obtain⟨ev,e1,e2,e3⟩:=Paired.at g4 (i:=j) (y:=ents[j]) (by simp[show j<ents.size by omega]);have eg:itmG es j = .tup [ev.1,ev.2]:=by unfold itmG;rw[bm e1]
  rw[eg];exact⟨by show 2≤aam;rw[aav];decide,[ents[j].key,ents[j].val],.cons e2 (.cons e3 .nil),⟨_,tp j (by omega),rfl,rfl,_,rfl⟩⟩
 have vref:∀(it:Addr) (acc:Array GE),acc.size=ents.size->(∀(j:Nat) u,acc[j]?=some u->u = .ref (it+1+j))->Vals (qz (it+1) es.length) acc.toList:=fun it acc az ar=>yW (by have z1:acc.toList.length=acc.size:=abm;unfold qz;rw[oR,aa3,z1,az,hl]) fun j x u e1 e2=>by
  unfold qz at e1;rw[aak]at e1;obtain⟨j',e3,rfl⟩:=agv.mp e1;have hj':j<es.length:=by have:=(aad.mp e3).1;rwa[aa3]at this
  rw[abW hj']at e3;rw[acY]at e2;rw[ar j u e2,aau e3];exact rfl
 have fr:∀(it:Addr),s2.heap.objs.size≤it+1->∀j,H1 (it+1+j)=none:=fun it z j=>I2.hok.fresh (aaz z (aco _ _));refine vK (s:=s2) (C:=fun h vs=>∃it:Addr,s2.heap.objs.size≤it+1/\(∀j (hj:j<ents.size),h.get? (it+1+j)=some {cls:=.type "tuple",data:=.seq #[ents[j].key,ents[j].val]})/\Vals (qz (it+1) es.length) vs) st.ok st.tot (by omega) (fun P E hP=>?_) ?_
 .refine vH (St:=fun it=>StI s2.heap.objs.size it a ents ep) (P:=fun it=>PrI s2.heap.objs.size it ents) (n:=ents.size) ⟨_,hv2,rfl⟩ (.inl rfl) (by rw[aav];omega) (fun s3 Q3 E3 hT q=>v8 hT q) (fun s3 Q3 E3 k0 ⟨oS,hS⟩ hq=>?_) fun it h' acc k zz az pz=>?_
  .have lS:s2.heap.objs.size<s3.heap.objs.size:=aan hS;have he3:EntAt s3.heap a ents ep:=he2.keep fun o q=>k0 _ _ q;refine yE (k0 _ _ hv2) he3 fun h' Z sz hk=>hq h' _ (abJ lS) (DG (I2.ok.hd hc) lS (abJ (aaE la lv)) (abJ (aaE la (aaE lv lS)))) ⟨he3.keep fun o q=>hk _ _ q,sz,.inl ⟨_,_,Z⟩⟩ hk (xw _)
  .obtain⟨it',z',tp',ar'⟩:∃it':Addr,s2.heap.objs.size≤it'+1/\(∀j (hj:j<ents.size),h'.get? (it'+1+j)=some {cls:=.type "tuple",data:=.seq #[ents[j].key,ents[j].val]})/\∀(j:Nat) u,acc[j]?=some u->u = .ref (it'+1+j):=by
    by_cases e0:ents.size=0
    .exact⟨s2.heap.objs.size,Nat.le_succ _,fun j hj=>by omega,fun j u e=>by have:=(Array.getElem?_eq_some_iff.mp e).1;omega⟩
    .have get:∀j,j<ents.size->∃u,acc[j]?=some u:=fun j hj=>⟨_,acj (show j<acc.size by omega)⟩;obtain⟨u0,e1⟩:=get 0 (by omega);have l0:=(pz 0 u0 e1).1;refine⟨it,adQ (aev l0),fun j hj=>?_,fun j u e=>(pz j u e).2.1⟩;obtain⟨u,e⟩:=get j hj;obtain⟨_,_,hj',q⟩:=pz j u e;exact q
   have hv:=vref it' acc az ar';have I':=lay h' it' k z' tp';exact hP h' acc.toList k (Fb I' st.ok.lay (pf (fr it' z') pd) hv) ⟨it',z',tp',hv⟩
 .rintro h1 h2 vs p L e k1 ⟨it,z,tp,hv⟩ r1 k2 hL hl2 hp;subst hL;have I3:=lay h1 it k1 z tp;have hfr:updR H1 (it+1) (itmG es) es.length h1.objs.size=none:=I3.hok.fresh (Io _);obtain⟨o1,o2⟩:=Ga hp;have hpl:p.length=ents.size:=by have:=hp.1.length_eq;rw[aa3]at this;omega
  exact⟨.ref h1.objs.size,_,I3.laid (t':=s2.toks) k2 (Io _) (show ObjOk X.prog X.w _ _ _ (.lst (p.map fun i=>(qz (it+1) es.length).getD i .non))from⟨by rw[oR,aav];omega,_,e,qg hv p,by rw[hl2]⟩),rfl,q _ _ _ _ _ _ o1 o2 (fr it z) hfr ((ui (pf (fr it z) pd) p).mono (bu (.inl hfr)))⟩
theorem yR{H:Hp}{b:Addr}(fr:∀j,H (B+j)=none)(h:updR H B g n b=none):H b=none:=by
 cases e:H b with
 |none=>rfl
 |some o=>rw[c9 fr e]at h;cases h
theorem Rel.layR{K:Kx}{α:Al}{m:MSt}{σ:St}{H:Hp}{B:Addr}{g:Nat->HO}(R:Rel K α m σ H)(fr:∀j,H (B+j)=none):∀n,Rel K α m σ (updR H B g n)
 |0=>R
 |n+1=>(Rel.layR R fr n).lay (by rw[ix fun j hj z=>abJ hj (ahc z)];exact fr n)
theorem DA{α:Al}{H:Hp}(fr:∀j,H (B+j)=none)(n:Nat):Frm α H (updR H B g n):=fun b o e _=>c9 fr e
def Ac(wo:WE):WE:=fun m K=>wo m fun r m'=>onDc (fun kvs=>srtR (bG kvs) fun ds'=>K (.new ds') m') r
theorem Cz{p0:Pos}(hu:X.A.units+64<cLine)(hm:X.mg "sorted" = none)(ho:ME X o wo)(hc:X.calm=true:=by rfl)(hg:Gl X "sorted" :=by rfl)(hbase:abG o "items" X.env (eval o X.env)=eval o X.env:=by rfl)(hline:(apos.endLine==cpos.line)=true:=by rfl)
  (hst:aao [.Call (.Attribute o "items" apos) [] [] cpos] X.env=[(false,eval (.Call (.Attribute o "items" apos) [] [] cpos) X.env)]:=by rfl):ME X (.Call (.Name "sorted" p0) [.Call (.Attribute o "items" apos) [] [] cpos] [] pos) (Ac wo):=(AG hc hu hg hm ho hbase hline hst).wk fun σ H Q ⟨α,m,Kc,Rl,hw,fin⟩=>by
 refine⟨α,m,_,Rl,hw,fun r m' v H' k n Rl' rr F=>?_⟩;obtain⟨kvs,a,ob,es,rfl,dc,pd,st,k⟩:=Pi rr k;refine⟨a,ob,es,kvs,rfl,dc,pd,st,fun ds' B g n' L xs p1 p2 fr hL den=>?_⟩;have R1:=Rel.layR (g:=g) Rl' fr n';have F1:=F.trans (DA (g:=g) fr n');exact fin _ m' _ _ (k ds' p1 p2) n (R1.lay hL) (RelR.base Rl' F (show RelR X.kx α H' _ (.new ds') (.ref L)from⟨L,xs,rfl,yR fr hL,av,den⟩)) (F1.trans (cC hL))
theorem oQ{p0:Pos}(hu:X.A.units+64<cLine)(hm:X.mg "sorted" = none)(ho:EE X o wo)(hc:X.calm=true:=by rfl)(hg:Gl X "sorted" :=by rfl)(hbase:abG o "items" X.env (eval o X.env)=eval o X.env:=by rfl)(hline:(apos.endLine==cpos.line)=true:=by rfl)
  (hst:aao [.Call (.Attribute o "items" apos) [] [] cpos] X.env=[(false,eval (.Call (.Attribute o "items" apos) [] [] cpos) X.env)]:=by rfl):EE X (.Call (.Name "sorted" p0) [.Call (.Attribute o "items" apos) [] [] cpos] [] pos) (Ac wo):=⟨Cz hu hm ho.h hc hg hbase hline hst⟩
theorem vh{m:MSt}{K:R->MSt->Prop}(h:wo m fun r m'=>onDc (fun kvs=>srtR (bG kvs) fun ds'=>K (.new ds') m') r):Ac wo m K:=h
end
end L2
namespace K
open PySem L2 M7
variable{p q:Pt}{α:Type}{a:Pt×Int}{A W:List (Pt×Int)}{enc:Pt×Int->iO}{h:Hall}{r:Rule}{S n:Nat}{qs:List Nat}
def lexN:List Nat->List Nat->Bool
 |x::xs,y::ys=>if x=y then lexN xs ys else decide (x<y)
 |_,_=>false
def ltP(p q:Pt):Bool:=if p.1=q.1 then decide (p.2<q.2)else lexN p.1 q.1
theorem tW:∀a:List Nat,lexN a a=false
 |[]=>rfl
 |x::xs=>by show(if x=x then lexN xs xs else _)=false;rw[if_pos rfl];exact tW xs
theorem yH:∀{a b c:List Nat},a.length=b.length->b.length=c.length->lexN a b=true->lexN b c=true->lexN a c=true
 |[],[],_,_,_,h,_=>by cases h
 | x::a,y::b,z::c,h1,h2,h,h'=>by
  have h3:(if x=y then lexN a b else decide (x<y))=true:=h;have h4:(if y=z then lexN b c else decide (y<z))=true:=h';show(if x=z then lexN a c else decide (x<z))=true
  by_cases e1:x=y
  .subst e1;rw[if_pos rfl]at h3
   by_cases e2:x=z
   .rw[if_pos e2]at h4⊢;exact yH (by simpa using h1) (by simpa using h2) h3 h4
   .rw[if_neg e2]at h4⊢;exact h4
  .rw[if_neg e1]at h3;have l1:=of_decide_eq_true h3
   by_cases e2:y=z
   .subst e2;rw[if_neg e1];exact h3
   .rw[if_neg e2]at h4;have l2:=of_decide_eq_true h4;rw[if_neg (by omega)];exact decide_eq_true (p:=_<_) (by omega)
theorem vn:∀{a b:List Nat},a.length=b.length->a≠b->lexN a b=true\/lexN b a=true
 |[],[],_,h=>(h rfl).elim
 | x::a,y::b,hl,h=>by
  show(if x=y then lexN a b else decide (x<y))=true\/(if y=x then lexN b a else decide (y<x))=true
  by_cases e:x=y
  .subst e;rw[if_pos rfl,if_pos rfl];exact vn (by simpa using hl) fun z=>h (by rw[z])
  .rw[if_neg e,if_neg (abz e)];rcases aeh e with z|z
   .exact .inl (decide_eq_true z)
   .exact .inr (decide_eq_true z)
theorem FM{r:Pt}(h1:p.1.length=q.1.length)(h2:q.1.length=r.1.length)(a:ltP p q=true)(b:ltP q r=true):ltP p r=true:=by
 unfold ltP at *
 by_cases e1:p.1=q.1
 .rw[if_pos e1]at a;rw[e1]
  by_cases e2:q.1=r.1
  .rw[if_pos e2]at b⊢;have:=of_decide_eq_true a;have:=of_decide_eq_true b;exact decide_eq_true (p:=_<_) (by omega)
  .rw[if_neg e2]at b⊢;exact b
 .rw[if_neg e1]at a
  by_cases e2:q.1=r.1
  .rw[<-e2,if_neg e1];exact a
  .rw[if_neg e2]at b;have t:=yH h1 h2 a b
   by_cases e3:p.1=r.1
   .rw[e3,tW]at t;cases t
   .rw[if_neg e3];exact t
theorem Jy(h1:p.1.length=q.1.length)(h:p≠q):ltP p q=true\/ltP q p=true:=by
 unfold ltP
 by_cases e:p.1=q.1
 .rw[if_pos e,if_pos e.symm];have:p.2≠q.2:=fun z=>h (Prod.ext e z);rcases aeh this with z|z
  .exact .inl (decide_eq_true z)
  .exact .inr (decide_eq_true z)
 .rw[if_neg e,if_neg (abz e)];exact vn h1 e
theorem sW(p:Pt):ltP p p=false:=by unfold ltP;rw[if_pos rfl];exact decide_eq_false (acK _)
theorem wJ:∀{a b:List Nat},a.length=b.length->ltDs (natD a) (natD b)=lexN a b
 |[],[],_=>rfl
 |x::a,y::b,h=>by
  show(if aaw (.int (x:Int)) (.int (y:Int))=true then ltDs (natD a) (natD b)else decide ((x:Int)<(y:Int)))=if x=y then lexN a b else decide (x<y);rw[dW,wJ (a:=a) (b:=b) (by simpa using h)]
  by_cases e:x=y
  .rw[if_pos e,if_pos (decide_eq_true e)]
  .rw[if_neg e,if_neg (by rw[decide_eq_false e];decide)];exact decide_eq_decide.mpr ahK
theorem On(h:p.1.length=q.1.length):ltD (ptD p) (ptD q)=ltP p q:=by
 show(if aaw (lnD p.1) (lnD q.1)=true then(if aaw (.int (p.2:Int)) (.int (q.2:Int))=true then ltDs [] []else decide ((p.2:Int)<(q.2:Int)))else ltDs (natD p.1) (natD q.1))=_;rw[OG,dW,wJ h];unfold ltP
 by_cases e:p.1=q.1
 .rw[if_pos e,if_pos (decide_eq_true e)]
  by_cases e2:p.2=q.2
  .rw[if_pos (decide_eq_true e2)];exact(decide_eq_false (by omega)).symm
  .rw[if_neg (by rw[decide_eq_false e2];decide)];exact decide_eq_decide.mpr ahK
 .rw[if_neg e,if_neg (by rw[decide_eq_false e];decide)]
def itD(f:Int->iO)(p:Pt×Int):iO:=.tuple [ptD p.1,f p.2]
theorem D7{f:Int->iO}{p q:Pt×Int}(h:p.1.1.length=q.1.1.length)(hne:p.1≠q.1):ltD (itD f p) (itD f q)=ltP p.1 q.1:=by
 show(if aaw (ptD p.1) (ptD q.1)=true then _ else ltD (ptD p.1) (ptD q.1))=_;rw[kQ,if_neg (by rw[decide_eq_false hne];decide),On h]
theorem oU{α:Type}{lt:α->α->Bool}(irr:∀a,lt a a=false):∀{l m:List α},l.Perm m->l.Pairwise (fun a b=>lt a b=true)->m.Pairwise (fun a b=>lt a b=true)->(∀a∈l,∀b∈l,lt a b=true->lt b a=false)->l=m
 |[],m,p,_,_,_=>p.nil_eq
 | a::l,m,p,h1,h2,asy=>by
  cases m with
  |nil=>exact(adj _ p.length_eq.symm).elim
  | cons b m =>
   have h1':=afl.mp h1;have h2':=afl.mp h2;have e:a=b:=by
    have hb:b∈a::l:=p.mem_iff.mpr aaf;have ha:a∈b::m:=p.mem_iff.mp aaf;rcases aal.mp hb with z|z
    .exact z.symm
    .rcases aal.mp ha with y|y
     .exact y
     .have l1:=h1'.1 b z;have l2:=h2'.1 a y;rw[asy a aaf b hb l1]at l2;cases l2
   subst e;rw[oU irr (List.Perm.cons_inv p) h1'.2 h2'.2 fun x hx y hy=>asy x (aab _ hx) y (aab _ hy)]
theorem qc{β:Type}{f:α->β}{z l:List β}(p:z.Perm l):∀{m:List α},z=m.map f->∃m':List α,m'.Perm m/\l=m'.map f:=by
 induction p with
 |nil=>intro m e;exact⟨m,.refl _,e⟩
 | cons a p ih =>
  intro m e
  cases m with
  |nil=>cases e
  |cons b m =>
   rw[aai]at e;injection e with e1 e2
   obtain⟨m',p',e'⟩:=ih e2;exact⟨b::m',p'.cons b,by rw[aai,e1,e']⟩
 | swap a b l =>
  intro m e
  cases m with
  |nil=>cases e
  | cons x m =>
   cases m with
   |nil=>cases e
   |cons y m =>
    rw[aai,aai]at e;injection e with e1 e2
    injection e2 with e2 e3
    exact⟨y::x::m,.swap _ _ _,by rw[aai,aai,e1,e2,e3]⟩
 |trans p1 p2 ih1 ih2 =>
  intro m e;obtain⟨m1,q1,e1⟩:=ih1 e;obtain⟨m2,q2,e2⟩:=ih2 e1;exact⟨m2,q2.trans q1,e2⟩
def yq(D:Int)(W:List (Pt×Int)):iO:=.tuple (W.map fun q=>.tuple [ptD q.1,nf q.2 D])
structure Srd(W W':List (Pt×Int)):Prop where
 p:W'.Perm W
 o:W'.Pairwise fun a b=>ltP a.1 b.1=true
structure WOk(h:Hall)(r:Rule)(W:List (Pt×Int)):Prop where
 st:∀p∈W,St h r p.1.1 p.1.2
 kd:(W.map (·.1)).Nodup
 n:W.length<64
 v:∀p∈W,p.2.natAbs<10^76
section
variable {h:Hall}{r:Rule}{W:List (Pt×Int)}
theorem WOk.ln(X:WOk h r W){b:Pt×Int}(ha:a∈W)(hb:b∈W):a.1.1.length=b.1.1.length:=((X.st a ha).ln.1).trans ((X.st b hb).ln.1).symm
theorem FB{i j:Nat}{b:Pt×Int}(nd:(W.map (·.1)).Nodup)(e1:W[i]?=some a)(e2:W[j]?=some b)(h:i≠j):a.1≠b.1:=by
 have key:∀{i j:Nat}{a b:Pt×Int},W[i]?=some a->W[j]?=some b->i<j->a.1≠b.1:=fun {i j a b} e1 e2 hij=>by
  obtain⟨hi,ea⟩:=aad.mp e1;obtain⟨hj,eb⟩:=aad.mp e2;have:=abT.mp nd i j (by rw[oR];exact hi) (by rw[oR];exact hj) hij;rw[adY,adY,ea,eb]at this;exact this
 rcases aeh h with z|z
 .exact key e1 e2 z
 .exact fun e=>key e2 e1 z e.symm
theorem su{b:Pt×Int}(nd:(W.map (·.1)).Nodup)(ha:a∈W)(hb:b∈W)(e:a.1=b.1):a=b:=by
 obtain⟨i,hi⟩:=adP ha;obtain⟨j,hj⟩:∃j,W[j]?=some b:=adP hb
 by_cases c:i=j
 .subst c;rw[hi]at hj;exact aau hj
 .exact(FB nd hi hj c e).elim
theorem Srd.uniq{B:List (Pt×Int)}(X:WOk h r W)(a:Srd W A)(b:Srd W B):A=B :=
 oU (lt:=fun(a b:Pt×Int)=>ltP a.1 b.1) (fun a=>sW _) (a.p.trans b.p.symm) a.o b.o fun x hx y hy l=>by
  have mx:=a.p.mem_iff.mp hx;have my:=a.p.mem_iff.mp hy
  cases e:ltP y.1 x.1 with
  |false=>rfl
  |true =>
   have t:=FM (X.ln mx my) (X.ln my mx) l e;rw[sW]at t;cases t
structure EncP(W:List (Pt×Int))(enc:Pt×Int->iO):Prop where
 lt:∀a∈W,∀b∈W,a.1≠b.1->ltD (enc a) (enc b)=ltP a.1 b.1
 ir:∀a,ltD (enc a) (enc a)=false
 sm:∀a∈W,∀b∈W,smD (enc a) (enc b)=true
 tt:∀a,tt1 (enc a)=true
 dp:∀a∈W,(enc a).depth≤7
theorem EncP.srt(X:WOk h r W)(E:EncP W enc):SrtT (W.map enc):=by
 have get:∀i,i<W.length->∃a,W[i]?=some a/\a∈W/\(W.map enc).getD i .none=enc a:=fun i hi=>by
  have e:=Ge hi;exact⟨_,e,aae e,bm (by rw[aak,e];rfl)⟩
 refine⟨⟨by rw[oR];exact X.n,fun x hx y hy=>?_,fun x hx=>?_,fun x hx=>?_⟩,⟨fun a b c ha hb hc=>?_,fun a b ha hb ne=>?_⟩⟩
 .obtain⟨a,ha,rfl⟩:=aay.mp hx;obtain⟨b,hb,rfl⟩:∃b,b∈W/\enc b=y:=aay.mp hy;exact E.sm a ha b hb
 .obtain⟨a,ha,rfl⟩:=aay.mp hx;exact E.tt a
 .obtain⟨a,ha,rfl⟩:=aay.mp hx;exact E.dp a ha
 .rw[oR]at ha hb hc;obtain⟨x,ex,mx,gx⟩:=get a ha;obtain⟨y,ey,my,gy⟩:=get b hb;obtain⟨z,ez,mz,gz⟩:=get c hc;rw[gx,gy,gz];intro l1 l2;have n1:x.1≠y.1:=fun e=>by rw[su X.kd mx my e,E.ir]at l1;cases l1
  have n2:y.1≠z.1:=fun e=>by rw[su X.kd my mz e,E.ir]at l2;cases l2
  rw[E.lt x mx y my n1]at l1;rw[E.lt y my z mz n2]at l2;have t:=FM (X.ln mx my) (X.ln my mz) l1 l2;have n3:x.1≠z.1:=fun e=>by rw[e,sW]at t;cases t
  rw[E.lt x mx z mz n3];exact t
 .rw[oR]at ha hb;obtain⟨x,ex,mx,gx⟩:=get a ha;obtain⟨y,ey,my,gy⟩:=get b hb;rw[gx,gy];have n:=FB X.kd ex ey ne;rw[E.lt x mx y my n,E.lt y my x mx (abz n)];exact Jy (X.ln mx my) n
theorem EncP.srd(X:WOk h r W)(E:EncP W enc){ds':List iO}(p:ds'.Perm (W.map enc))(o:ds'.Pairwise fun a b=>ltD a b=true):∃W',Srd W W'/\ds'=W'.map enc:=by
 obtain⟨W',p',e⟩:=qc p.symm rfl;refine⟨W',⟨p',?_⟩,e⟩;rw[e]at o;refine(List.pairwise_map.mp o).imp_of_mem fun {a b} ha hb l=>?_;have ma:=p'.mem_iff.mp ha;have mb:=p'.mem_iff.mp hb;have n:a.1≠b.1:=fun e=>by rw[su X.kd ma mb e,E.ir]at l;cases l
 rwa[E.lt a ma b mb n]at l
theorem zN:∀{a b:List Nat},a.length=b.length->smDs (natD a) (natD b)=true
 |[],[],_=>rfl
 |x::a,y::b,e=>by
  show(true&&smDs (natD a) (natD b))=true;rw[zN (by simpa using e)];rfl
theorem Pg(e:p.1.length=q.1.length):smD (ptD p) (ptD q)=true:=by
 show(smDs (natD p.1) (natD q.1)&&(true&&true))=true;rw[zN e];rfl
theorem sy{l:List Nat}{t:Nat}(ho:h.Ok)(S:St h r l t):Fine 200 2 (stD l t):=by
 have n4:=ho.n4;have l1:=S.ln.1;have ts:=S.ts;refine(cv (n:=63) (k:=1) (c:=2) (ds:=[lnD l,.int (t:Int)]) (fun d hd=>?_) (Io 2)).mono (by decide) (by decide);rcases aal.mp hd with e|e
 .rw[e];exact yr (c:=4) (by omega) fun x hx=>by
   have:=S.ln.le ho x hx;omega
 .rw[aah.mp e];exact(tQ (by omega)).mono (by decide) (by decide)
theorem KU(ho:h.Ok)(X:WOk h r W):EncP W (itD .int):=by
 refine⟨fun a ha b hb n=>D7 (X.ln ha hb) n,fun a=>?_,fun a ha b hb=>?_,fun a=>rfl,fun a ha=>?_⟩
 .show(if aaw (ptD a.1) (ptD a.1)=true then(if aaw (.int a.2) (.int a.2)=true then false else decide (a.2<a.2))else _)=false;rw[kQ,if_pos (decide_eq_true rfl),decide_eq_false (Int.lt_irrefl a.2)]
  split<;>rfl
 .show(smD (ptD a.1) (ptD b.1)&&(true&&true))=true;rw[Pg (X.ln ha hb)];rfl
 .refine aaz (cv (n:=200) (k:=2) (c:=2) (ds:=[ptD a.1,.int a.2]) (fun d hd=>?_) (Io 2)).dp (by decide);rcases aal.mp hd with e|e
  .rw[e];exact sy ho (X.st a ha)
  .rw[aah.mp e];exact(kg (aaE (X.v a ha) (by decide))).mono (by decide) (by decide)
theorem Bc(W:List (Pt×Int)):bG (kvA ptD W)=W.map (itD .int):=by
 unfold bG kvA itD;rw[abe];rfl
theorem xZ{D:Int}(ho:h.Ok)(X:WOk h r W){W':List (Pt×Int)}(s:Srd W W')(h0:0<D)(hD:D.natAbs<10^76):Fine 50000 4 (yq D W'):=by
 have n:=X.n;have e:=s.p.length_eq;refine Fine.mono (n':=50000) (k':=4) (cv (n:=607) (k:=3) (c:=64) (ds:=W'.map fun q=>.tuple [ptD q.1,nf q.2 D]) (fun d hd=>?_) (by rw[oR];omega)) (by decide) (by decide);obtain⟨q,hq,rfl⟩:∃q,q∈W'/\_=d:=aay.mp hd;have mq:=s.p.mem_iff.mp hq;refine Fine.mono (n':=607) (k':=3) (cv (n:=300) (k:=2) (c:=2) (ds:=[ptD q.1,nf q.2 D]) (fun d hd=>?_) (Io 2)) (by decide) (by decide);rcases aal.mp hd with e|e
 .rw[e];exact(sy ho (X.st q mq)).mono (by decide) (by decide)
 .rw[aah.mp e];exact(kJ h0 (X.v q mq) hD).mono (by decide) (by decide)
end
def Fu:SpM:=fun as K=>∃(h:Hall) (r:Rule) (W:List (Pt×Int)) (D:Nat),as=[.imm (wtD W),.imm (.int (D:Int))]/\h.Ok/\WOk h r W/\0<D/\D<10^76/\∀W',Srd W W'->K (.imm (yq (D:Int) W')) []
def sumF{α:Type}(f:α->Int)(L:List (α×Int)):Int:=(L.map fun p=>p.2*f p.1).sum
theorem cF(f:α->Int):sumF f []=0:=rfl
theorem ay(f:α->Int)(p:α×Int)(L:List (α×Int)):sumF f (p::L)=p.2*f p.1+sumF f L:=by unfold sumF;rw[aai,abo]
theorem ur(f:α->Int)(L M:List (α×Int)):sumF f (L++M)=sumF f L+sumF f M:=by unfold sumF;rw[aaG,ac3]
theorem ox{α:Type}(f g:α->Int):∀L:List (α×Int),sumF (fun a=>f a+g a) L=sumF f L+sumF g L
 |[]=>rfl
 |p::L=>by
  rw[ay,ay,ay,ox f g L,aeo];omega
theorem mE{α:Type}(f:α->Int)(c:Int):∀L:List (α×Int),sumF (fun a=>c*f a) L=c*sumF f L
 |[]=>by rw[cF,cF,ac9]
 |p::L=>by
  rw[ay,ay,mE f c L,aeo]
  congr 1
  rw[<-aaK,aaO p.2 c,aaK]
theorem j6{α:Type}[DecidableEq α](f:α->Int)(a:α)(x:Int):∀L:List (α×Int),sumF f (addA a x L)=sumF f L+x*f a
 |[]=>by show x*f a+0=0+x*f a;omega
 |p::r=>by
  show sumF f (if p.1=a then(p.1,p.2+x)::r else p::addA a x r)=_
  by_cases c:p.1=a
  .rw[if_pos c,ay,ay];show(p.2+x)*f p.1+_=_;rw[aeW,c];omega
  .rw[if_neg c,ay,ay,j6 f a x r];omega
theorem kH(f:α->Int){L M:List (α×Int)}(p:L.Perm M):sumF f L=sumF f M:=by
 induction p with
 |nil=>rfl
 |cons a p ih=>rw[ay,ay,ih]
 |swap a b l=>rw[ay,ay,ay,ay];omega
 |trans p q ih1 ih2=>exact ih1.trans ih2
theorem mw{α:Type}[DecidableEq α](a:α):∀{L:List (α×Int)},(L.map (·.1)).Nodup->sumF (fun b=>if b=a then 1 else 0) L=getA a L
 |[],_=>rfl
 | p::r,nd=>by
  rw[aai,aaV]at nd;rw[ay,mw a nd.2];show _=if p.1=a then p.2 else getA a r
  by_cases c:p.1=a
  .rw[if_pos c,if_pos c,ado];have:getA a r=0:=by
    have key:∀{r:List (α×Int)},(∀q∈r,q.1≠a)->getA a r=0:=by
     intro r
     induction r with
     |nil=>intro _;rfl
     |cons q r ih =>
      intro hq;show(if q.1=a then q.2 else getA a r)=0;rw[if_neg (hq q aaf)];exact ih fun z hz=>hq z (aab _ hz)
    exact key fun q hq z=>nd.1 (by rw[c,<-z];exact aay.mpr ⟨q,hq,rfl⟩)
   omega
  .rw[if_neg c,if_neg c,ac9,ady]
def nxt(h:Hall)(r:Rule)(p:Pt)(m:Mv):Pt:=((bR h r p.1 p.2 m).1,(bR h r p.1 p.2 m).2.1)
def endQ(h:Hall)(r:Rule):Pt->List Mv->Pt
 |p,[]=>p
 |p,m::R=>endQ h r (nxt h r p m) R
theorem pC(h:Hall)(r:Rule)(m:Mv):∀(R:List Mv) (p:Pt),endQ h r p (R++[m])=nxt h r (endQ h r p R) m
 |[],_=>rfl
 |x::R,p=>pC h r m R (nxt h r p x)
theorem jl(h:Hall)(r:Rule):∀(R:List Mv) (p:Pt),(iU h r p R).getLast? = some (endQ h r p R)
 |[],_=>rfl
 |x::R,p=>by
  show(p::iU h r (nxt h r p x) R).getLast? = _;have e:=jl h r R (nxt h r p x);rw[List.getLast?_cons,e];rfl
theorem jV(h:Hall)(r:Rule)(m:Mv):∀(R:List Mv) (p:Pt) (c:Cn),cy h r p c (R++[m])=(cy h r p c R).b (bR h r (endQ h r p R).1 (endQ h r p R).2 m).2.2
 |[],_,_=>rfl
 |x::R,p,c=>jV h r m R (nxt h r p x) (c.b (bR h r p.1 p.2 x).2.2)
abbrev Mws:=List (Mv×Int)
def ba(M:Mws):Nat->List (List Mv×Int)
 |0=>[([],1)]
 |n+1=>(ba M n).flatMap fun p=>M.map fun q=>(p.1++[q.1],p.2*q.2)
theorem kL(M:Mws)(f:List Mv->Int):∀L:List (List Mv×Int),sumF f (L.flatMap fun p=>M.map fun q=>(p.1++[q.1],p.2*q.2))=sumF (fun R=>sumF (fun m=>f (R++[m])) M) L
 |[]=>rfl
 | p::L=>by
  rw[afG,ur,ay,kL M f L]
  congr 1
  induction M with
  |nil=>show(0:Int)=p.2*0;omega
  |cons q M ih =>
   rw[aai,ay,ay,ih,aeo,aaK]
theorem gl{f g:α->Int}{L:List (α×Int)}(h:∀p∈L,f p.1=g p.1):sumF f L=sumF g L:=by
 induction L with
 |nil=>rfl
 |cons p L ih =>
  rw[ay,ay,h p aaf,ih fun q hq=>h q (aab _ hq)]
def ye(h:Hall)(r:Rule)(f:Pt->Int)(p:Pt):Int:=sumF (fun m=>f (nxt h r p m)) (msL h)
theorem t8(h:Hall)(r:Rule)(f:Pt->Int)(p:Pt)(w:Int):∀(M:Ms) (x:List (Pt×Int)×List (Wd×Int)),sumF f (M.foldl (fun x q=>goW1 h r p w q x) x).1=sumF f x.1+w*sumF (fun m=>f (nxt h r p m)) M
 |[],x=>by rw[cF,ac9,adz];rfl
 |q::M,x=>by
  rw[abP,t8 h r f p w M,ay,aeo];show sumF f (addA (nxt h r p q.1) (w*q.2) x.1)+_=_;rw[j6,aaK];omega
theorem zj(h:Hall)(r:Rule)(f:Pt->Int):∀(W:List (Pt×Int)) (x:List (Pt×Int)×List (Wd×Int)),sumF f (W.foldl (goW h r (msL h)) x).1=sumF f x.1+sumF (ye h r f) W
 |[],x=>by rw[cF,adz];rfl
 |p::W,x=>by
  rw[abP,zj h r f W,ay];show sumF f ((msL h).foldl (fun x q=>goW1 h r p.1 p.2 q x) x).1+_=_;rw[t8];show _+p.2*ye h r f p.1+_=_;omega
theorem Jm(h:Hall)(r:Rule)(f:Pt->Int)(k:Nat):sumF f (stW h r (k+1))=sumF (ye h r f) (stW h r k):=by
 show sumF f ((stW h r k).foldl (goW h r (msL h)) ([],[])).1=_;rw[zj,cF,ady]
theorem ie{h:Hall}(r:Rule){M:Mws}(pM:M.Perm (msL h)):∀(n:Nat) (f:Pt->Int),sumF (fun R=>f (endQ h r (zer h,0) R)) (ba M n)=sumF f (stW h r n)
 |0,f=>rfl
 |n+1,f=>by
  rw[Jm,<-ie r pM n (ye h r f)];show sumF _ ((ba M n).flatMap _)=_;rw[kL];refine gl fun p _=>?_;unfold ye;rw[<-kH _ pM];refine gl fun q _=>?_;rw[pC]
def zQ(h:Hall)(r:Rule)(w:Wd)(p:Pt):Int:=sumF (fun m=>if (bR h r p.1 p.2 m).2.2=w then 1 else 0) (msL h)
theorem zy(h:Hall)(r:Rule)(v:Wd)(p:Pt)(w:Int):∀(M:Ms) (x:List (Pt×Int)×List (Wd×Int)),getA v (M.foldl (fun x q=>goW1 h r p w q x) x).2=getA v x.2+w*sumF (fun m=>if (bR h r p.1 p.2 m).2.2=v then 1 else 0) M
 |[],x=>by rw[cF,ac9,adz];rfl
 |q::M,x=>by
  rw[abP,zy h r v p w M,ay,aeo];show getA v (addA (bR h r p.1 p.2 q.1).2.2 (w*q.2) x.2)+_=_;rw[uI]
  by_cases c:(bR h r p.1 p.2 q.1).2.2=v
  .rw[if_pos c,if_pos c,ado];omega
  .rw[if_neg c,if_neg c,ac9,ac9];omega
theorem FI(h:Hall)(r:Rule)(v:Wd):∀(W:List (Pt×Int)) (x:List (Pt×Int)×List (Wd×Int)),getA v (W.foldl (goW h r (msL h)) x).2=getA v x.2+sumF (zQ h r v) W
 |[],x=>by rw[cF,adz];rfl
 |p::W,x=>by
  rw[abP,FI h r v W,ay];show getA v ((msL h).foldl (fun x q=>goW1 h r p.1 p.2 q x) x).2+_=_;rw[zy];show _+p.2*zQ h r v p.1+_=_;omega
theorem nw{h:Hall}(ho:h.Ok)(h0:0≤(restF h h.ss.length).1)(r:Rule){M:Mws}(pM:M.Perm (msL h)){v:Wd}{c:Cn->Int}(z:c ⟨0,0,0,0⟩=0)(cb:∀x w,c (x.b w)=c x+if w=v then 1 else 0):∀n:Nat,sumF (fun R=>c (cy h r (zer h,0) ⟨0,0,0,0⟩ R)) (ba M n)=cntW h r v n
 |0=>by
  show sumF _ [([],1)]=0;rw[ay,cF];show(1:Int)*c ⟨0,0,0,0⟩+0=0;rw[z];rfl
 | n+1=>by
  have ih:=nw ho h0 r pM z cb n;show sumF _ ((ba M n).flatMap _)=cntW h r v n*(botH h:Int)+getA v (wdW h r n);have e1:getA v (wdW h r n)=sumF (zQ h r v) (stW h r n):=by
   show getA v ((stW h r n).foldl (goW h r (msL h)) ([],[])).2=_;rw[FI];show(0:Int)+_=_;rw[ady]
  rw[kL,e1,<-ie r pM n (zQ h r v),<-ih,aaO,<-mE,<-ox];refine gl fun p _=>?_;have e2:sumF (fun m=>c (cy h r (zer h,0) ⟨0,0,0,0⟩ (p.1++[m]))) M=sumF (fun m=>c (cy h r (zer h,0) ⟨0,0,0,0⟩ p.1)*1+if (bR h r (endQ h r (zer h,0) p.1).1 (endQ h r (zer h,0) p.1).2 m).2.2=v then 1 else 0) M:=gl fun q _=>by rw[jV,cb,ado]
  rw[e2,ox,mE];have e3:sumF (fun _:Mv=>(1:Int)) M=(botH h:Int):=by
   rw[kH _ pM,<-yt ho h0];unfold sumF
   congr 1
   exact ad1 fun q _=>ado _
  rw[e3,aaO]
  congr 1
  unfold zQ;rw[kH _ pM]
def v5(h:Hall)(r:Rule)(L:List (List Mv×Int)):List (Pt×Int):=L.foldl (fun x p=>addA (endQ h r (zer h,0) p.1) p.2 x) []
theorem nQ(h:Hall)(r:Rule)(f:Pt->Int):∀(L:List (List Mv×Int)) (x:List (Pt×Int)),sumF f (L.foldl (fun x p=>addA (endQ h r (zer h,0) p.1) p.2 x) x)=sumF f x+sumF (fun R=>f (endQ h r (zer h,0) R)) L
 |[],x=>by rw[cF,adz];rfl
 |p::L,x=>by rw[abP,nQ h r f L,j6,ay];omega
theorem pH(h:Hall)(r:Rule):∀(L:List (List Mv×Int)) (x:List (Pt×Int)),(x.map (·.1)).Nodup->((L.foldl (fun x p=>addA (endQ h r (zer h,0) p.1) p.2 x) x).map (·.1)).Nodup
 |[],x,hx=>hx
 |p::L,x,hx=>pH h r L _ (ko hx)
theorem ow{α:Type}[DecidableEq α]{a:α}{x:Int}(hx:0<x):∀{L:List (α×Int)},(∀p∈L,0<p.2)->∀p∈addA a x L,0<p.2
 |[],_,p,hp=>by rw[aah.mp hp];exact hx
 | q::r,h,p,hp=>by
  have hq:=h q aaf;have hp':p∈(if q.1=a then(q.1,q.2+x)::r else q::addA a x r):=hp
  by_cases c:q.1=a
  .rw[if_pos c]at hp';rcases aal.mp hp' with e|e
   .rw[e];show 0<q.2+x;omega
   .exact h p (aab _ e)
  .rw[if_neg c]at hp';rcases aal.mp hp' with e|e
   .rw[e];exact hq
   .exact ow hx (fun z hz=>h z (aab _ hz)) p e
theorem om{α:Type}[DecidableEq α]:∀{L:List (α×Int)}{p:α×Int},(L.map (·.1)).Nodup->p∈L->getA p.1 L=p.2
 |q::L,p,nd,hp=>by
  rw[aai,aaV]at nd;show(if q.1=p.1 then q.2 else getA p.1 L)=p.2;rcases aal.mp hp with e|e
  .rw[e,if_pos rfl]
  .rw[if_neg (fun z=>nd.1 (by rw[z];exact aay.mpr ⟨p,e,rfl⟩))];exact om nd.2 e
theorem m9{α:Type}[DecidableEq α]{a:α}:∀{L:List (α×Int)},getA a L≠0->(a,getA a L)∈L
 |[],h=>(h rfl).elim
 |q::L,h=>by
  have h':(if q.1=a then q.2 else getA a L)≠0:=h;show(a,if q.1=a then q.2 else getA a L)∈_
  by_cases c:q.1=a
  .rw[if_pos c,<-c];exact aaf
  .rw[if_neg c]at h'⊢;exact aab _ (m9 h')
theorem fy{α:Type}:∀{L:List (α×Int)},(L.map (·.1)).Nodup->L.Nodup
 |[],_=>acQ
 |q::L,nd=>by
  rw[aai,aaV]at nd;exact aaV.mpr ⟨fun z=>nd.1 (aay.mpr ⟨q,z,rfl⟩),fy nd.2⟩
theorem Cj[DecidableEq α]{L M:List (α×Int)}(n1:(L.map (·.1)).Nodup)(n2:(M.map (·.1)).Nodup)(p1:∀p∈L,0<p.2)(p2:∀p∈M,0<p.2)(e:∀a,getA a L=getA a M):L.Perm M:=by
 refine(List.perm_ext_iff_of_nodup (fy n1) (fy n2)).mpr fun p=>⟨fun hp=>?_,fun hp=>?_⟩
 .have g:=om n1 hp;have:=p1 p hp;have m:=m9 (a:=p.1) (L:=M) (by rw[<-e,g];omega);rw[<-e,g]at m;exact m
 .have g:=om n2 hp;have:=p2 p hp;have m:=m9 (a:=p.1) (L:=L) (by rw[e,g];omega);rw[e,g]at m;exact m
theorem Jf{t b:Int}(ht:0<t)(hb:0<b):0<(nfP t b).1:=by
 have c:=cj (t:=t) hb;have q:=(ga (t:=t) hb).1;have m:0<(nfP t b).1*b:=by rw[c];exact abr ht q
 exact Int.pos_of_mul_pos_left m hb
theorem vg(ho:h.Ok){z:Mv×Int×Nat}(hz:z∈shrM h):0<z.2.1:=by
 have a1:=ho.a1;have b1:=ho.b1;unfold shrM at hz;rcases aa2.mp hz with hz|hz
 .rcases aa2.mp hz with hz|hz
  .obtain⟨o,ho',rfl⟩:=aay.mp hz;have pO:=cR h.ss.length ho.n4;exact Jf (by omega) (abr (by omega) (by omega))
  .obtain⟨q,hq,rfl⟩:=aay.mp hz;have m:=List.fst_mem_of_mem_zipIdx hq;have:=(ho.ok q.1 m).a1;show(0:Int)<(q.1.a:Int);omega
 .by_cases c:0<(restF h h.ss.length).1
  .rw[if_pos c]at hz;rw[aah.mp hz];exact c
  .rw[if_neg c]at hz;cases hz
theorem Ab(ho:h.Ok):∀q∈msL h,0<q.2:=fun q hq=>by
 obtain⟨z,hz,rfl⟩:=aay.mp hq;have hm:(z.1.d,z.2)∈shrL h:=by rw[jj];exact aay.mpr ⟨z,hz,rfl⟩
 have d:=(gG ho).d _ hm;have dv:z.2.2 ∣ botH h:=iy hm;have b1:1≤z.2.2:=d.1;have k1:0<botH h/z.2.2:=agU (aea (kO ho) dv) b1;refine abr ?_ (by omega);exact vg ho hz
theorem xt{h:Hall}{r:Rule}{p:Pt}{w:Int}(hw:0<w):∀{M:Ms}{x:List (Pt×Int)×List (Wd×Int)},(∀q∈M,0<q.2)->(∀z∈x.1,0<z.2)->∀z∈(M.foldl (fun x q=>goW1 h r p w q x) x).1,0<z.2
 |[],x,_,hx=>hx
 |q::M,x,hM,hx=>xt hw (M:=M) (fun z hz=>hM z (aab _ hz)) (ow (abr hw (hM q aaf)) hx)
theorem DN{h:Hall}(ho:h.Ok)(r:Rule):∀n,∀p∈stW h r n,0<p.2
 |0,p,hp=>by rw[aah.mp hp];show(0:Int)<1;decide
 | n+1,p,hp=>by
  have key:∀{W:List (Pt×Int)}{x:List (Pt×Int)×List (Wd×Int)},(∀z∈W,0<z.2)->(∀z∈x.1,0<z.2)->∀z∈(W.foldl (goW h r (msL h)) x).1,0<z.2:=by
   intro W
   induction W with
   |nil=>intro x _ hx;exact hx
   |cons q W ih =>
    intro x hW hx;exact ih (fun z hz=>hW z (aab _ hz)) (xt (hW q aaf) (Ab ho) hx)
  exact key (DN ho r n) (fun _ hz=>by cases hz) p hp
theorem ug{M:Mws}(hM:∀q∈M,0<q.2):∀n,∀p∈ba M n,0<p.2
 |0,p,hp=>by rw[aah.mp hp];show(0:Int)<1;decide
 |n+1,p,hp=>by
  obtain⟨q,hq,hp⟩:=aby.mp hp;obtain⟨z,hz,rfl⟩:=aay.mp hp;exact abr (ug hM n q hq) (hM z hz)
theorem mt{h:Hall}{r:Rule}:∀{L:List (List Mv×Int)}{x:List (Pt×Int)},(∀p∈L,0<p.2)->(∀p∈x,0<p.2)->∀p∈L.foldl (fun x p=>addA (endQ h r (zer h,0) p.1) p.2 x) x,0<p.2
 |[],_,_,hx=>hx
 |p::L,x,hL,hx=>mt (L:=L) (fun z hz=>hL z (aab _ hz)) (ow (hL p aaf) hx)
theorem wX(ho:h.Ok)(r:Rule){M:Mws}(pM:M.Perm (msL h))(n:Nat):(v5 h r (ba M n)).Perm (stW h r n):=by
 have n1:((v5 h r (ba M n)).map (·.1)).Nodup:=pH h r _ [] (by simp);have n2:=nr (h:=h) (r:=r) n;refine Cj n1 n2 (mt (ug (fun q hq=>Ab ho q (pM.mem_iff.mp hq)) n) fun _ hz=>by cases hz) (DN ho r n) fun a=>?_;rw[<-mw a n1,<-mw a n2,<-ie r pM n];unfold v5;rw[nQ,cF,ady]
theorem Kw(n:Nat)(w:Wd):szB n w≤n+1:=by cases w<;>simp only[szB]<;>omega
theorem Aa{h:Hall}{r:Rule}(ho:h.Ok)(hr:r.Ok h):∀n,∀p∈stW h r n,p.1.1.sum≤n
 |0,p,hp=>by
  rw[aah.mp hp];show(zer h).sum≤0;unfold zer
  induction h.ss.length with
  |zero=>exact Io _
  |succ n ih=>rw[abn,abo];omega
 | n+1,p,hp=>by
  have ad:∀{L:List (Pt×Int)}{a:Pt}{x:Int},a.1.sum≤n+1->(∀z∈L,z.1.1.sum≤n+1)->∀z∈addA a x L,z.1.1.sum≤n+1:=by
   intro L a x ha
   induction L with
   |nil=>intro _ z hz;rw[aah.mp hz];exact ha
   | cons q L ih =>
    intro hL z hz;have hz':z∈(if q.1=a then(q.1,q.2+x)::L else q::addA a x L):=hz
    by_cases c:q.1=a
    .rw[if_pos c]at hz';rcases aal.mp hz' with e|e
     .rw[e];exact hL q aaf
     .exact hL z (aab _ e)
    .rw[if_neg c]at hz';rcases aal.mp hz' with e|e
     .rw[e];exact hL q aaf
     .exact ih (fun y hy=>hL y (aab _ hy)) z e
  have one:∀{q:Pt×Int},St h r q.1.1 q.1.2->q.1.1.sum≤n->∀{M:Ms}{x:List (Pt×Int)×List (Wd×Int)},(∀m∈M,m.1.Ok h)->(∀z∈x.1,z.1.1.sum≤n+1)->∀z∈(M.foldl (fun x m=>goW1 h r q.1 q.2 m x) x).1,z.1.1.sum≤n+1:=by
   intro q hS hq M
   induction M with
   |nil=>intro x _ hx;exact hx
   |cons m M ih =>
    intro x hM hx;refine ih (fun y hy=>hM y (aab _ hy)) (ad ?_ hx);show(bR h r q.1.1 q.1.2 m.1).1.sum≤n+1;rw[(yi ho hr hS (hM m aaf)).1];exact aaz (Kw _ _) (by omega)
  have key:∀{W:List (Pt×Int)}{x:List (Pt×Int)×List (Wd×Int)},(∀z∈W,St h r z.1.1 z.1.2/\z.1.1.sum≤n)->(∀z∈x.1,z.1.1.sum≤n+1)->∀z∈(W.foldl (goW h r (msL h)) x).1,z.1.1.sum≤n+1:=by
   intro W
   induction W with
   |nil=>intro x _ hx;exact hx
   |cons q W ih =>
    intro x hW hx;exact ih (fun z hz=>hW z (aab _ hz)) (one (hW q aaf).1 (hW q aaf).2 (fun m hm=>((C9 ho).2 m hm).1) hx)
  exact key (fun z hz=>⟨f8 ho hr n z hz,Aa ho hr n z hz⟩) (fun _ hz=>by cases hz) p hp
def fewL:Nat->Nat->List (List Nat)
 |0,_=>[[]]
 |k+1,n=>(aaP (n+1)).flatMap fun x=>(fewL k (n-x)).map fun l=>x::l
theorem ua:∀(k n:Nat) (l:List Nat),l.length=k->l.sum≤n->l∈fewL k n
 |0,n,l,hl,_=>by rw[List.length_eq_zero_iff.mp hl];exact aah.mpr rfl
 |k+1,n,[],hl,_=>by cases hl
 |k+1,n,x::l,hl,hs=>by
  rw[abo]at hs;exact aby.mpr ⟨x,aer.mpr (by omega),aay.mpr ⟨l,ua k (n-x) l (by simpa using hl) (by omega),rfl⟩⟩
theorem DH:∀k≤3,∀n≤3,(k=3->n≤2)->((fewL k n).flatMap fun l=>(aaP 4).map fun t=>(l,t)).length≤40:=by decide +kernel
structure Few(h:Hall)(n:Nat):Prop where
 a:h.ss.length≤3
 b:n≤3
 c:h.ss.length=3->n≤2
theorem IB(ho:h.Ok)(hr:r.Ok h)(F:Few h n):(stW h r n).length≤40:=by
 have:=jJ (nr (h:=h) (r:=r) n) (m:=(fewL h.ss.length n).flatMap fun l=>(aaP 4).map fun t=>(l,t)) fun x hx=>by
  obtain⟨p,hp,rfl⟩:=aay.mp hx;have S:=f8 ho hr n p hp;exact aby.mpr ⟨p.1.1,ua _ _ _ S.ln.1 (Aa ho hr n p hp),aay.mpr ⟨p.1.2,aer.mpr S.ts,rfl⟩⟩
 rw[oR]at this;exact aaz this (DH _ F.a _ F.b F.c)
theorem LD(D:DuOk h r n)(F:Few h n):WOk h r (stW h r n):=by
 refine⟨f8 D.ho D.hr n,nr n,aaF (IB D.ho D.hr F) (by decide),fun p hp=>?_⟩;have h1:=vO D.ho D.h0 r n p hp;have h2:=(gf (vO D.ho D.h0 r n)).2 p hp;rw[ls D.ho D.h0 r n]at h2;have h3:=D.b;exact aaE (show p.2.natAbs<10^66 by omega) (by decide)
def ordR:Nat->List (List Nat)
 |0=>[[]]
 |n+1=>insA n (ordR n)
theorem jL:∀n≤4,(ordR n).Perm (ordK n n):=by decide +kernel
def mvA(h:Hall):List (Mv×Int×Nat):=(ordR h.ss.length).map (fun o=>(Mv.come o,(bF h).1,(bF h).2.toNat))++dnM h++[(Mv.still,(restF h h.ss.length).1,(restF h h.ss.length).2.toNat)]
def mvP(h:Hall):List (Mv×Int×Nat):=(mvA h).filter fun q=>decide (0<q.2.1)
theorem uE(ho:h.Ok):(mvP h).Perm (shrM h):=by
 have p0:=(jL h.ss.length ho.n4).map fun o=>(Mv.come o,(bF h).1,(bF h).2.toNat);have p1:(mvA h).Perm ((ordK h.ss.length h.ss.length).map (fun o=>(Mv.come o,(bF h).1,(bF h).2.toNat))++dnM h++[(Mv.still,(restF h h.ss.length).1,(restF h h.ss.length).2.toNat)]):=(p0.append_right _).append_right _;refine(p1.filter _).trans (List.Perm.of_eq ?_);have pos:=fun z (hz:z∈shrM h)=>vg ho hz;rw[afu];unfold shrM at pos⊢
 congr 1
 .exact List.filter_eq_self.mpr fun z hz=>decide_eq_true (pos z (aeM _ hz))
 .by_cases c:0<(restF h h.ss.length).1
  .rw[if_pos c];exact aga (decide_eq_true c)
  .rw[if_neg c];exact agb (by rw[decide_eq_false c];decide)
def mwP(h:Hall):Mws:=(mvP h).map fun q=>(q.1,q.2.1*((botH h/q.2.2:Nat):Int))
theorem gh(ho:h.Ok):(mwP h).Perm (msL h):=(uE ho).map _
theorem Mj(ho:h.Ok):∀q∈mwP h,q.1.Ok h/\0<q.2:=fun q hq=>by
 have m:=(gh ho).mem_iff.mp hq;exact⟨((C9 ho).2 q m).1,Ab ho q m⟩
theorem gW{h:Hall}(ho:h.Ok):∀n,∀p∈ba (mwP h) n,p.1.length=n/\(∀m∈p.1,m.Ok h)/\0<p.2
 |0,p,hp=>by
  rw[aah.mp hp];refine⟨rfl,fun _ hm=>?_,by decide⟩;cases hm
 |n+1,p,hp=>by
  obtain⟨q,hq,hp⟩:=aby.mp hp;obtain⟨z,hz,rfl⟩:=aay.mp hp;obtain⟨h1,h2,h3⟩:=gW ho n q hq;obtain⟨z1,z2⟩:=Mj ho z hz;refine⟨by rw[aap,h1];rfl,fun m hm=>?_,abr h3 z2⟩;rcases aa2.mp hm with e|e
  .exact h2 m e
  .rw[aah.mp e];exact z1
theorem jw(L:List (α×Int)):sumF (fun _=>1) L=sumA L:=by
 unfold sumF sumA
 congr 1
 exact ad1 fun q _=>ado _
theorem jA(ho:h.Ok)(h0:0≤(restF h h.ss.length).1)(r:Rule)(n:Nat):sumA (ba (mwP h) n)=((botH h^n:Nat):Int):=by
 rw[<-ls ho h0 r n,<-jw,<-jw];exact ie r (gh ho) n fun _=>1
theorem x9{α:Type}{f:α->Int}{k:Int}:∀{L:List (α×Int)},(∀p∈L,0≤f p.1/\f p.1≤k/\0≤p.2)->0≤sumF f L/\sumF f L≤k*sumA L
 |[],_=>by
  show(0:Int)≤0/\(0:Int)≤k*0;rw[ac9];exact⟨aep _,aep _⟩
 |p::L,h=>by
  obtain⟨h1,h2,h3⟩:=h p aaf;obtain⟨i1,i2⟩:=x9 (L:=L) fun q hq=>h q (aab _ hq);have e:sumA (p::L)=p.2+sumA L:=by unfold sumA;rw[aai,abo]
  rw[ay,e,aeo];have m1:=acV h3 h1;have m2:=act h2 h3;rw[aaO k p.2];omega
theorem qu{L:List (α×Int)}(h:∀p∈L,0≤p.2)(i:Nat):sumA (L.take i)≤sumA L:=by
 have e:sumA L=sumA (L.take i)+sumA (L.drop i):=by
  unfold sumA;rw[<-ac3,<-aaG,List.take_append_drop]
 have:=(gf (L:=L.drop i) fun p hp=>h p (List.mem_of_mem_drop hp)).1;omega
theorem nG{h:Hall}{r:Rule}(ho:h.Ok)(hr:r.Ok h):∀{R:List Mv}{p:Pt},(∀m∈R,m.Ok h)->St h r p.1 p.2->St h r (endQ h r p R).1 (endQ h r p R).2
 |[],_,_,S=>S
 |m::R,p,hR,S=>nG ho hr (R:=R) (fun z hz=>hR z (aab _ hz)) (h7 ho hr S (hR m aaf))
theorem FO(h:Hall)(r:Rule):∀(R:List Mv) (p:Pt) (c:Cn),(cy h r p c R).s≤c.s+R.length/\(cy h r p c R).a≤c.a+R.length
 |[],_,_=>⟨Io _,Io _⟩
 |m::R,p,c=>by
  obtain⟨h1,h2⟩:=FO h r R ((bR h r p.1 p.2 m).1,(bR h r p.1 p.2 m).2.1) (c.b (bR h r p.1 p.2 m).2.2);have e1:∀w:Wd,(c.b w).s≤c.s+1/\(c.b w).a≤c.a+1:=fun w=>by cases w<;>simp only[Cn.b]<;>omega
  obtain⟨e2,e3⟩:=e1 (bR h r p.1 p.2 m).2.2;rw[aaD];exact⟨aaz h1 (by omega),aaz h2 (by omega)⟩
def thrF(h:Hall)(r:Rule)(k:Nat)(R:List Mv):Int:=match k with
 |0=>((endQ h r (zer h,0) R).1.sum:Int)
 |1=>((cy h r (zer h,0) ⟨0,0,0,0⟩ R).s:Int)
 |_=>((cy h r (zer h,0) ⟨0,0,0,0⟩ R).a:Int)
theorem Fi(ho:h.Ok)(hr:r.Ok h)(hn:n≤12)(k:Nat):∀p∈ba (mwP h) n,0≤thrF h r k p.1/\thrF h r k p.1≤24/\0≤p.2:=fun p hp=>by
 obtain⟨h1,h2,h3⟩:=gW ho n p hp;have S:=nG ho hr (p:=(zer h,0)) h2 (dI ho r);have c:=FO h r p.1 (zer h,0) ⟨0,0,0,0⟩;have l:=ii ho S.ln;unfold thrF
 split<;>dsimp only at c<;>omega
theorem GF(D:DuOk h r n)(k i:Nat):0≤sumF (thrF h r k) ((ba (mwP h) n).take i)/\(sumF (thrF h r k) ((ba (mwP h) n).take i)).natAbs<10^76:=by
 have b:=Fi D.ho D.hr D.le k;have h1:=x9 (f:=thrF h r k) (k:=24) (L:=(ba (mwP h) n).take i) fun p hp=>b p (acb hp);have h2:=qu (L:=ba (mwP h) n) (fun p hp=>(b p hp).2.2) i;rw[jA D.ho D.h0 r n]at h2;exact⟨h1.1,Au (k:=24) h1.1 h1.2 (act h2 (by decide)) (by decide) D.b⟩
theorem Jb(D:DuOk h r n):sumF (thrF h r 0) (ba (mwP h) n)=p9 h r n/\sumF (thrF h r 1) (ba (mwP h) n)=cntW h r .served n/\sumF (thrF h r 2) (ba (mwP h) n)=cntW h r .away n:=by
 refine⟨ie r (gh D.ho) n fun p=>(p.1.sum:Int),?_,?_⟩
 .refine nw D.ho D.h0 r (gh D.ho) (v:=.served) (c:=fun x=>(x.s:Int)) rfl (fun x w=>?_) n
  cases w<;>simp only[Cn.b]<;>simp
 .refine nw D.ho D.h0 r (gh D.ho) (v:=.away) (c:=fun x=>(x.a:Int)) rfl (fun x w=>?_) n
  cases w<;>simp only[Cn.b]<;>simp
def endT(h:Hall)(r:Rule)(n i:Nat):List (Pt×Int):=v5 h r ((ba (mwP h) n).take i)
theorem Af{i:Nat}{p:List Mv×Int}(e:(ba (mwP h) n)[i]?=some p):endT h r n (i+1)=addA (endQ h r (zer h,0) p.1) p.2 (endT h r n i):=by
 unfold endT v5;rw[abt,e,adL];rfl
theorem rQ(D:DuOk h r n)(i:Nat):(∀p∈endT h r n i,St h r p.1.1 p.1.2)/\(endT h r n i).length≤i:=by
 have key:∀{L:List (List Mv×Int)}{x:List (Pt×Int)},(∀p∈L,∀m∈p.1,m.Ok h)->(∀p∈x,St h r p.1.1 p.1.2)->(∀p∈L.foldl (fun x p=>addA (endQ h r (zer h,0) p.1) p.2 x) x,St h r p.1.1 p.1.2)/\(L.foldl (fun x p=>addA (endQ h r (zer h,0) p.1) p.2 x) x).length≤x.length+L.length:=by
  intro L
  induction L with
  |nil=>intro x _ hx;exact⟨hx,Io _⟩
  | cons q L ih =>
   intro x hL hx;have al:=jF (endQ h r (zer h,0) q.1) q.2 x;obtain⟨i1,i2⟩:=ih (x:=addA (endQ h r (zer h,0) q.1) q.2 x) (fun p hp=>hL p (aab _ hp)) fun p hp=>(by
    rcases jE hp with e|⟨z,hz,e⟩
    .rw[e];exact nG D.ho D.hr (p:=(zer h,0)) (hL q aaf) (dI D.ho r)
    .rw[<-e];exact hx z hz)
   refine⟨i1,aaz i2 ?_⟩;rw[aaD];omega
 obtain⟨k1,k2⟩:=key (L:=(ba (mwP h) n).take i) (x:=[]) (fun p hp=>(gW D.ho n p (acb hp)).2.1) fun _ hp=>by cases hp
 refine⟨k1,aaz k2 ?_⟩;rw[aaJ,adE];omega
theorem F8(D:DuOk h r n)(i:Nat)(a:Pt):0≤getA a (endT h r n i)/\(getA a (endT h r n i)).natAbs<10^76:=by
 have pos:∀p∈(ba (mwP h) n).take i,0<p.2:=fun p hp=>(gW D.ho n p (acb hp)).2.2;have e1:=mt (h:=h) (r:=r) (x:=[]) pos fun _ hz=>by cases hz
 have g:=tF a (L:=endT h r n i) fun p hp=>agw (e1 p hp);have s:sumA (endT h r n i)=sumA ((ba (mwP h) n).take i):=by
  rw[<-jw,<-jw];unfold endT v5;rw[nQ,cF,ady]
 have t:=qu (L:=ba (mwP h) n) (fun p hp=>agw (gW D.ho n p hp).2.2) i;rw[jA D.ho D.h0 r n]at t;exact⟨g.1,Au (k:=1) (c:=((botH h^n:Nat):Int)) g.1 (by omega) (by omega) (by decide) D.b⟩
theorem BA(D:DuOk h r n):(endT h r n (ba (mwP h) n).length).Perm (stW h r n):=by
 unfold endT;rw[aag];exact wX D.ho r (gh D.ho) n
theorem WOk.perm{V:List (Pt×Int)}(p:V.Perm W)(X:WOk h r W):WOk h r V:=⟨fun q hq=>X.st q (p.mem_iff.mp hq),((p.map _).nodup_iff).mpr X.kd,by rw[p.length_eq];exact X.n,fun q hq=>X.v q (p.mem_iff.mp hq)⟩
theorem LQ{D:Int}(ho:h.Ok)(X:WOk h r W)(h0:0<D)(hD:D.natAbs<10^76):EncP W (itD (frV D)):=by
 have sm:∀v w:Int,smD (frV D v) (frV D w)=true:=fun v w=>rfl;refine⟨fun a ha b hb n=>D7 (X.ln ha hb) n,fun a=>?_,fun a ha b hb=>?_,fun a=>rfl,fun a ha=>?_⟩
 .have e:∀v:Int,aaw (.int v) (.int v)=true:=fun v=>decide_eq_true rfl;have ef:aaw (frV D a.2) (frV D a.2)=true:=by
   show(aaw (.int (nfP a.2 D).1) (.int (nfP a.2 D).1)&&(aaw (.int (nfP a.2 D).2) (.int (nfP a.2 D).2)&&true))=true;rw[e,e];rfl
  show(if aaw (ptD a.1) (ptD a.1)=true then(if aaw (frV D a.2) (frV D a.2)=true then false else _)else _)=false;rw[kQ,if_pos (decide_eq_true rfl),if_pos ef]
 .show(smD (ptD a.1) (ptD b.1)&&(smD (frV D a.2) (frV D b.2)&&true))=true;rw[Pg (X.ln ha hb),sm];rfl
 .refine aaz (cv (n:=300) (k:=2) (c:=2) (ds:=[ptD a.1,frV D a.2]) (fun d hd=>?_) (Io 2)).dp (by decide);rcases aal.mp hd with e|e
  .rw[e];exact(sy ho (X.st a ha)).mono (by decide) (by decide)
  .rw[aah.mp e];exact(kJ h0 (X.v a ha) hD).mono (by decide) (by decide)
theorem Dw(D:Int)(W:List (Pt×Int)):bG (shD D W)=W.map (itD (frV D)):=by
 unfold bG shD kvG itD;rw[abe];rfl
theorem Srd.perm{V:List (Pt×Int)}(p:V.Perm W)(s:Srd V A):Srd W A:=⟨s.p.trans p,s.o⟩
def moD(q:Mv×Int×Nat):iO:=.tuple [q.1.d,frT q.2.1 (q.2.2:Int)]
def rnD(D:Int)(p:List Mv×Int):iO:=.tuple [runD p.1,nf p.2 D]
structure Sml(S p0:Nat)(qs rs:List Nat):Prop where
 s1:1≤S
 s2:S≤100
 p1:1≤p0
 sm:p0+qs.sum≤S
 q:∀x∈qs,1≤x
 l:qs.length=rs.length
 n1:1≤rs.length
 n3:rs.length≤3
 r:∀x∈rs,1≤x/\x≤6
theorem Sml.six{p0:Nat}{rs:List Nat}(X:Sml S p0 qs rs):Sml S p0 qs (aat rs.length 6):=⟨X.s1,X.s2,X.p1,X.sm,X.q,by rw[abH];exact X.l,by rw[abH];exact X.n1,by rw[abH];exact X.n3,fun x hx=>by rw[aeb hx];decide⟩
theorem uU:∀{l:List Nat}{x:Nat},x∈l->x≤l.sum
 |y::l,x,h=>by
  rw[abo];rcases aal.mp h with e|e
  .omega
  .have:=uU e;omega
theorem Sml.len{p0:Nat}{rs:List Nat}(X:Sml S p0 qs rs)(mv:Bool):(dw S p0 qs rs mv).ss.length=rs.length:=by
 show(adX (srvS S) qs rs).length=_;rw[afa,X.l,Nat.min_self]
theorem Sml.ok{p0:Nat}{rs:List Nat}(X:Sml S p0 qs rs)(mv:Bool):(dw S p0 qs rs mv).Ok:=by
 have s1:=X.s1;have s2:=X.s2;have sm:=X.sm;have c0:=Ae (b:=S) (p:=p0) X.p1 (by omega) X.s1 (by omega);have l:=X.len mv;refine⟨c0.1,c0.2.1,c0.2.2.1,c0.2.2.2,by rw[l];exact X.n1,by rw[l];have:=X.n3;omega,fun s hs=>?_⟩;obtain⟨i,hi⟩:=adP hs;obtain⟨p,r,e1,e2,rfl⟩:=abD.mp hi;have hp:=aae e1;have:=uU hp;exact Cp (Ae (b:=S) (p:=p) (X.q p hp) (by omega) X.s1 (by omega)) (X.r r (aae e2))
theorem Sml.of{p0:Nat}{rs:List Nat}(X:Sml S p0 qs rs)(mv:Bool):OfS (dw S p0 qs rs mv) S:=Dj X.s1 (by have:=X.s2;omega) X.l X.sm
def zL:SpM:=fun as K=>∃(fd:List iO) (c:Nat),as=[.own fd]/\FeedD c fd/\c<900000000/\∀(S p0:Nat) (qs rs:List Nat) (mv:Bool) (fd':List iO),Sml S p0 qs rs->FeedD (c+20) fd'->K (.imm (dw S p0 qs rs mv).d) [fd']
def ve:SpM:=fun as K=>∃h:Hall,as=[.imm h.d]/\h.Ok/\K (.new ((mvA h).map moD)) []
def Fj:SpM:=fun as K=>∃(h:Hall) (r:Rule) (n:Nat),as=[.imm h.d,.imm (.int (n:Int))]/\DuOk h r n/\n≤3/\K (.new ((ba (mwP h) n).map (rnD ((botH h^n:Nat):Int)))) []
def y3:SpM:=fun as K=>∃(h:Hall) (r:Rule) (n:Nat),as=[.imm h.d,.imm r.d,.imm (.int (n:Int))]/\DuOk h r n/\WOk h r (stW h r n)/\∀W',Srd (stW h r n) W'->K (.imm (yq ((botH h^n:Nat):Int) W')) []
end K
namespace K
open PySem L2
variable{h:Hall}{i n z:Nat}{r:Rule}{l:ah2}
local macro_rules | `(tactic| walk_at "x1") => `(tactic| first
 |(with_reducible first|apply vz|apply Re)|((with_reducible refine' JG ?xe ?_);(case xe=>rfl))|(with_reducible first|apply x_c|apply Ku|apply Ld|apply GG|apply IK|apply JQ|apply Sg|apply E8|apply Nh|apply x_lt|apply x_le|apply x_gt|apply x_ge|apply Qm|apply QF|apply RH|apply RJ|apply x_isT)|((with_reducible refine' x_nd ?xe ?_);(case xe=>first|rfl|assumption))|(with_reducible first|apply x_rev|apply x_min|apply x_max)|((with_reducible refine' QK ?_))|(with_reducible first|apply M9|apply x_mt|apply x_ts)
 |((with_reducible refine' bc ?xe ?_);(case xe=>rfl))|((with_reducible refine' tf ?xf ?xe ?_);(case xf=>rfl);(case xe=>rfl))|((with_reducible refine' on ?xe ?_);(case xe=>rfl))|((with_reducible refine' kz ?xe ?_);(case xe=>rfl))
 |((with_reducible refine' GV ?xe ?_);(case xe=>omega))|((with_reducible refine' kw ?xe ?_);(case xe=>exact cfd (by omega) (by omega)))|((with_reducible refine' bH ?xe ?_);(case xe=>exact Rb (by omega)))|((with_reducible refine' QW ?xe ?_);(case xe=>exact⟨by decide,by decide,by decide⟩))
 |(with_reducible first|apply y7|apply fu|apply x_bindO|apply Qr|apply Rj|apply Nw|apply OY)|((with_reducible refine' OW ?xe ?xf ?_);(case xe=>rfl);(case xf=>rfl))
 |(with_reducible first|apply QR|apply x_or|apply SW|apply x_andV|apply x_orV|apply x_notV|apply LU|apply Sf|apply x_cb|apply Ox)|((with_reducible refine' Qu ?xe ?xf ?_);(case xe=>rfl);(case xf=>decide))
 |(with_reducible first|apply QY|apply Qk)|((with_reducible refine' SD ?xe ?xf ?_);(case xe=>rfl);(case xf=>exact of_decide_eq_true rfl))|(with_reducible first|apply QJ|apply x_dix|apply NG|apply ud|apply NK|apply x_disp|apply x_pNil|apply x_pCons|apply jy|apply x_bindA)|((with_reducible refine' x_dgot ?xa ?xb ?xc ?xd ?xe ?_);(case xa=>rfl);(case xb=>rfl);(case xc=>rfl);(case xd=>rfl);(case xe=>rfl))|((with_reducible refine' x_dgotN ?xa ?xb ?xc ?xd ?xe ?_);(case xa=>rfl);(case xb=>rfl);(case xc=>rfl);(case xd=>rfl);(case xe=>rfl))|((with_reducible refine' x_dputs ?xa ?xb ?xc ?xd ?xe ?xf ?_);(case xa=>rfl);(case xb=>rfl);(case xc=>rfl);(case xd=>rfl);(case xe=>exact of_decide_eq_true rfl);(case xf=>rfl))|((with_reducible refine' x_onPairs ?xa ?xb ?xc ?xd ?_);(case xa=>rfl);(case xb=>rfl);(case xc=>exact of_decide_eq_true rfl);(case xd=>rfl))
 |with_reducible apply x_callX|((with_reducible refine' x_agsX ?xe ?xf ?_);(case xe=>rfl);(case xf=>decide))|(with_reducible first|apply x_raise|apply x_raiseI|apply x_excI|apply x_excP|apply x_xf|apply x_isX|apply x_isXs)|((with_reducible refine' x_rz ?xe ?_);(case xe=>exact of_decide_eq_true rfl))
 |((with_reducible refine' x_onAgs ?xa ?xb ?_);(case xa=>rfl);(case xb=>decide))|(with_reducible first|apply x_tupR|apply x_dixD|apply x_immT|apply x_fsC|apply x_fsN|apply x_trI|apply x_trN|apply x_trT|apply x_fldI)|((with_reducible refine' x_fgot ?xa ?xb ?xc ?xd ?xe ?_);(case xa=>rfl);(case xb=>rfl);(case xc=>rfl);(case xd=>rfl);(case xe=>rfl))|((with_reducible refine' x_fgotN ?xa ?xb ?xc ?xd ?xe ?_);(case xa=>rfl);(case xb=>rfl);(case xc=>rfl);(case xd=>rfl);(case xe=>rfl))|with_reducible apply x_meth|((with_reducible refine' x_insR ?xa ?xb ?xc ?_);(case xa=>rfl);(case xb=>rfl);(case xc=>rfl))|with_reducible apply x_make|((with_reducible refine' x_onImms ?xa ?_);(case xa=>rfl))|(with_reducible first|apply x_reps|apply x_dputT|apply x_empt|apply x_dispT|apply x_ml0)|((with_reducible refine' x_onPairsT ?xa ?xb ?xc ?_);(case xa=>rfl);(case xb=>rfl);(case xc=>exact of_decide_eq_true rfl))
 |(with_reducible first|apply x_un|apply Sj|apply Sw|apply x_intI|apply x_intB|apply QE|apply Md|apply KQ)|((with_reducible refine' Qf ?xe ?_);(case xe=>rfl))|(with_reducible first|apply x_lenN|apply QM|apply Sk|apply Ph|apply x_retN|apply x_chain|apply x_ml)|((with_reducible refine' x_ls ?xe ?_);(case xe=>rfl))
 |(with_reducible first|apply x_isN|apply x_isB|apply BJ|apply x_gM|apply Qb|apply GN|apply LJ)
 |((with_reducible refine' II ?xe ?_);(case xe=>rfl))|with_reducible apply MD|((with_reducible refine' Oy ?xe ?_);(case xe=>rfl))|((with_reducible refine' GH ?xe ?_);(case xe=>rfl))|(with_reducible first|apply x_listR|apply x_sl|apply Cf|apply OA|apply SK|apply Oz|apply KL|apply LP)|((with_reducible refine' ON ?xe ?_);(case xe=>rfl))|(with_reducible first|apply PK|apply x_rng2|apply JH|apply Iu|apply QL|apply Dy|apply Ol|apply kU)|with_reducible apply ip)
local macro_rules | `(tactic| walk_at "xs") => `(tactic| repeat walk_at "x1")
local macro_rules | `(tactic| walk_at "xn") => `(tactic| first | dsimp only [mapR, cz, List.set, MSt.setV, MSt.setN, List.take, List.length, List.append, jp, vv, Nat.reduceAdd, List.getD_cons_succ, List.getD_cons_zero, List.nil_append, List.cons_append, setT, lfD] | dsimp only [mapR, cz, List.set, MSt.setV, MSt.setN, List.take, List.length, List.append, jp, vv, Nat.reduceAdd, List.getD_cons_succ, List.getD_cons_zero, List.nil_append, List.cons_append] | skip)
local macro_rules | `(tactic| walk_at "sc") => `(tactic| exact ⟨rfl, rfl, rfl, by decide +kernel, rfl, by decide +kernel, by decide +kernel⟩)
local macro_rules | `(tactic| walk_at "xx") => `(tactic| (walk_at "xn"; walk_at "xs"))
def top(i:Nat):Stmt:=PySem.Challenge.pw_shorterline_k99_whole_means_by_all_runs.main.body.getD i (.Pass ⟨0,0,0,0⟩)
abbrev cQ:Stmt:=top 4
abbrev fZ:Stmt:=top 5
abbrev iJ:Stmt:=top 6
abbrev mh:Stmt:=top 7
abbrev nW:Stmt:=top 8
abbrev cU:Stmt:=top 9
abbrev dq:Stmt:=top 12
abbrev df:Stmt:=top 14
abbrev oq:Stmt:=top 15
abbrev dg:Stmt:=top 16
abbrev mH:Stmt:=top 17
abbrev fY:Stmt:=top 19
abbrev fb:Stmt:=top 20
abbrev iI:Stmt:=top 21
abbrev m8:Stmt:=top 22
abbrev n6:Stmt:=top 23
abbrev gN:Stmt:=top 24
abbrev nu:Stmt:=top 25
abbrev fV:Stmt:=top 26
abbrev mJ:Stmt:=top 27
abbrev jZ:Stmt:=top 28
abbrev dE:Stmt:=top 30
abbrev dm:Stmt:=top 31
abbrev dB:Stmt:=top 32
abbrev d3:Stmt:=top 33
abbrev ib:Stmt:=top 35
abbrev d4:Stmt:=top 37
abbrev rJ:Stmt:=top 38
abbrev mI:Stmt:=top 39
abbrev i9:Stmt:=top 41
abbrev iY:Stmt:=top 42
abbrev j5:Stmt:=top 43
abbrev jf:Stmt:=top 44
abbrev gV:Stmt:=top 45
abbrev cI:Stmt:=top 46
abbrev h9:Stmt:=top 47
abbrev gq:Stmt:=top 48
abbrev cr:Stmt:=top 49
abbrev fc:Stmt:=top 50
abbrev jd:Stmt:=top 51
abbrev slaw:Stmt:=top 52
structure Bl(K:aaj)(mg:Str->Option GE):Prop where
 len:mg "len" = none
 abs:mg "abs" = none
 range:mg "range" = none
 list:mg "list" = none
 tuple:mg "tuple" = none
 int:mg "int" = none
 sum:mg "sum" = none
 zip:mg "zip" = none
 min:mg "min" = none
 max:mg "max" = none
 enumerate:mg "enumerate" = none
 repr:mg "repr" = none
 sorted:mg "sorted" = none
 c_WHOLE_TURN:ConM K mg "WHOLE_TURN" (.tuple (([1,1]:List Int).map .int))
theorem dy:ap ["one","other"] ["one","other"] (ab cQ):=by walk_at"sc"
theorem fx:ap ["top","bottom","divisor"] ["top","bottom"] (ab fZ):=by walk_at"sc"
theorem sk:ap ["one","other"] ["one","other"] (ab iJ):=by walk_at"sc"
theorem yk:ap ["one","other"] ["one","other"] (ab mh):=by walk_at"sc"
theorem zK:ap ["one","other"] ["one","other"] (ab nW):=by walk_at"sc"
theorem ca:ap ["pairs","bottom","thing","fraction"] ["pairs"] (ab cU):=by walk_at"sc"
theorem bT:ap ["hall","lines","place","many","server"] ["hall","lines"] (ab dq):=by walk_at"sc"
theorem ck:ap ["lines","order","best","line"] ["lines","order"] (ab df):=by walk_at"sc"
theorem jR:ap ["hall","lines","line","top","bottom"] ["hall","lines","line"] (ab oq):=by walk_at"sc"
theorem bv:ap ["hall","lines","order","best","least","line","wait"] ["hall","lines","order"] (ab dg):=by walk_at"sc"
theorem iC:ap ["hall","rule","stand","order","lines","turn","word"] ["hall","rule","stand","order"] (ab mH):=by walk_at"sc"
theorem l4:ap ["hall"] ["hall"] (ab fY):=by walk_at"sc"
theorem cV:ap ["hall","many","orders","place"] ["hall"] (ab fb):=by walk_at"sc"
theorem qY:ap ["lines","line","more"] ["lines","line","more"] (ab iI):=by walk_at"sc"
theorem yf:ap ["hall","lines","line"] ["hall","lines","line"] (ab m8):=by walk_at"sc"
theorem za:ap ["lines","line"] ["lines","line"] (ab n6):=by walk_at"sc"
theorem qF:ap ["hall","lines"] ["hall","lines"] (ab gN):=by walk_at"sc"
theorem iB:ap ["hall","lines","shift"] ["hall","lines"] (ab nu):=by walk_at"sc"
theorem nH:ap ["hall","rule","turn"] ["hall","rule","turn"] (ab fV):=by walk_at"sc"
theorem yJ:ap ["hall","rule","stand","move"] ["hall","rule","stand","move"] (ab mJ):=by walk_at"sc"
theorem bU:ap ["hall","rule","stand","move","lines","turn","word","line"] ["hall","rule","stand","move"] (ab jZ):=by walk_at"sc"
theorem aW:ap ["hall","come","servers","moved","orders","each","shares","rest","line","server"] ["hall"] (ab dE):=by walk_at"sc"
theorem aC:ap ["hall","rule","weights","moves","whole","stands","words","stand","weight","move","share","behind","word"] ["hall","rule","weights"] (ab dm):=by walk_at"sc"
theorem oz:ap ["weights","whole"] ["weights","whole"] (ab dB):=by walk_at"sc"
theorem bi:ap ["hall","rule","turns","weights","bottom","turn","words","whole"] ["hall","rule","turns"] (ab d3):=by walk_at"sc"
theorem bq:ap ["hall","rule","turns","weights","bottom","served","away","turn","words","whole","many"] ["hall","rule","turns"] (ab ib):=by walk_at"sc"
theorem bX:ap ["counts","word","came","taken","away","served"] ["counts","word"] (ab d4):=by walk_at"sc"
theorem mr:ap ["hall","rule","run","stands","move"] ["hall","rule","run"] (ab rJ):=by walk_at"sc"
theorem dj:ap ["hall","rule","run","stand","counts","move","word"] ["hall","rule","run"] (ab mI):=by walk_at"sc"
theorem sJ:ap ["_law_script"] ["_law_script"] (ab i9):=by walk_at"sc"
theorem cG:ap ["_law_feed_here","_law_many","_law_found","_law_cell","_law_mixed"] ["_law_feed_here","_law_many"] (ab iY):=by walk_at"sc"
theorem gn:ap ["_law_top","_law_bottom","_law_one","_law_other"] ["_law_top","_law_bottom"] (ab j5):=by walk_at"sc"
theorem sn:ap ["_law_one","_law_other"] ["_law_one","_law_other"] (ab jf):=by walk_at"sc"
theorem qU:ap ["_law_one","_law_other"] ["_law_one","_law_other"] (ab gV):=by walk_at"sc"
theorem bz:ap ["_law_feed_here","_law_many","_law_rooms","_law_speeds","_law_come","_law_whole","_law_servers"] ["_law_feed_here"] (ab cI):=by walk_at"sc"
theorem cK:ap ["_law_hall","_law_found","_law_speed","_law_room","_law_longer","_law_lines"] ["_law_hall"] (ab h9):=by walk_at"sc"
theorem jP:ap ["_law_feed_here","_law_hall","_law_word"] ["_law_feed_here","_law_hall"] (ab gq):=by walk_at"sc"
theorem c6:ap ["_law_many","_law_found","_law_order"] ["_law_many"] (ab cr):=by walk_at"sc"
theorem cu:ap ["_law_hall","_law_orders_here","_law_found","_law_rest","_law_k"] ["_law_hall"] (ab fc):=by walk_at"sc"
theorem bM:ap ["_law_hall","_law_turns","_law_found","_law_turn","_law_longer","_law_run","_law_share","_law_move","_law_one"] ["_law_hall","_law_turns"] (ab jd):=by walk_at"sc"
theorem gA:ap ["_law_script","_law_feed_here","_law_hall","_law_rule_here","_law_turns","_law_means","_law_left","_law_run","_law_share","_law_stand","_law_came","_law_taken","_law_away","_law_served","_law_k"] ["_law_script"] (ab slaw):=by walk_at"sc"
theorem zn{k:Nat}{ds:List iO}{g:WG}{w:WS}{D:dY}{m1:MSt}(P:Nat->MSt->Prop)(p0:P 0 (m1.setN (max m1.np (k+1))))(ok:∀i m,P i m->m.os[k]?=some ds)
  (step:∀(i:Nat) (d:iO) (m:MSt),ds[i]?=some d->m.np=max m1.np (k+1)->P i m->∀D':dY,(∀m',P (i+1) m'->D'.nx m')->g d m fun m2=>w D' m2)
  (fin:∀m,m.np=max m1.np (k+1)->P ds.length m->D.nx (m.setN m1.np)):iz ⟨ds,some k⟩ g w D m1:=oi P p0 ok (fun i d m e n p=>step i d m e n p _ fun _ z=>z) fin
theorem AW:∀j≤3,∀z≤24,(insA j ((ordR j).take z)).length≤24:=by decide +kernel
theorem i7:∀j≤4,(ordR j).length≤24/\∀o∈ordR j,o.length≤4:=by decide +kernel
def uJ:Nat->SpM
 |0=>fun _ _=>False
 |n+1=>fun as K=>∃m:Nat,as=[.imm (.int (m:Int))]/\m≤n/\m≤4/\K (.new ((ordR m).map lnD)) []
abbrev xl:SpM:=uJ 5
theorem M8(ho:h.Ok):nf ((h.a:Int)*1) ((h.b:Int)*(((ordR h.ss.length).map lnD).length:Int))=frT (bF h).1 (((bF h).2.toNat:Nat):Int):=by
 have e:=n9 ho (cR h.ss.length ho.n4);have hp:=e.hp;rw[oR,(jL h.ss.length ho.n4).length_eq,i8,show(((bF h).2.toNat:Nat):Int)=(bF h).2 by omega];rfl
theorem JF(h:Hall):addF 1 1 (-(h.a:Int)) (h.b:Int)=frT (restF h 0).1 (restF h 0).2:=by
 unfold addF;rw[i8,Int.neg_mul,<-ahr];rfl
theorem Ie{s:Srv}(e:h.ss[i]?=some s):addF (restF h i).1 (restF h i).2 (-(s.a:Int)) (s.b:Int)=frT (restF h (i+1)).1 (restF h (i+1)).2:=by
 unfold addF;rw[i8,Int.neg_mul,<-ahr,restF,e]
theorem uf{a b:Nat}(h1:a<1000000)(h2:b<1000000)(h3:1≤b):FrOk (a:Int) (b:Int)/\FrOk (-(a:Int)) (b:Int):=by
 have k:(1000000:Nat)<10^76:=by decide
 exact⟨⟨by rw[aaq];omega,by rw[aaq];omega,by omega⟩,⟨by rw[Int.natAbs_neg,aaq];omega,by rw[aaq];omega,by omega⟩⟩
def cmA(h:Hall):List (Mv×Int×Nat):=(ordR h.ss.length).map fun o=>(Mv.come o,(bF h).1,(bF h).2.toNat)
theorem xq(ho:h.Ok):(mvA h).length≤29:=by
 have n4:=ho.n4;have o:=(i7 h.ss.length n4).1;have dl:(dnM h).length=h.ss.length:=by unfold dnM;rw[oR,acT]
 unfold mvA;rw[aap,aap,oR,dl];show _+1≤29;omega
theorem zc(ho:h.Ok):(mwP h).length≤29:=by
 unfold mwP mvP;rw[oR];exact aaz (aeC _ _) (xq ho)
theorem oI{M:Mws}:∀L:List (List Mv×Int),(L.flatMap fun p=>M.map fun q=>(p.1++[q.1],p.2*q.2)).length=L.length*M.length
 |[]=>(Nat.zero_mul _).symm
 |p::L=>by rw[afG,aap,oR,oI L,aaD,agT,ahZ,Nat.add_comm]
theorem mW{h:Hall}(ho:h.Ok):∀n,(ba (mwP h) n).length≤29^n
 |0=>Io 1
 |n+1=>by
  show((ba (mwP h) n).flatMap _).length≤_;rw[oI,acI];exact abd (mW ho n) (zc ho)
theorem OZ:∀qs:List Nat,(∀x∈qs,1≤x/\x≤3)->qs.sum≤3*qs.length
 |[],_=>Io 0
 |x::l,h=>by
  have:=h x aaf;have:=OZ l fun y hy=>h y (aab _ hy);rw[aaD,abo];omega
def mnL(h:Hall)(r:Rule)(n i z:Nat):List iO:=[nf (sumF (thrF h r 0) ((ba (mwP h) n).take (if 0<z then i+1 else i))) ((botH h^n:Nat):Int),nf (sumF (thrF h r 1) ((ba (mwP h) n).take (if 1<z then i+1 else i))) ((botH h^n:Nat):Int),nf (sumF (thrF h r 2) ((ba (mwP h) n).take (if 2<z then i+1 else i))) ((botH h^n:Nat):Int)]
theorem CY(P0:0<((botH h^n:Nat):Int)):mnL h r n 0 0=[.tuple [.int 0,.int 1],.tuple [.int 0,.int 1],.tuple [.int 0,.int 1]]:=by
 have z:nf 0 ((botH h^n:Nat):Int) = .tuple [.int 0,.int 1]:=by rw[i8,oh P0];rfl
 show [nf 0 ((botH h^n:Nat):Int),nf 0 ((botH h^n:Nat):Int),nf 0 ((botH h^n:Nat):Int)]=_;rw[z]
theorem JP(h:Hall)(r:Rule)(n i:Nat):mnL h r n i 3=mnL h r n (i+1) 0:=rfl
theorem Kq(hz:z<3):atI (mnL h r n i z) (z:Int)=some (nf (sumF (thrF h r z) ((ba (mwP h) n).take i)) ((botH h^n:Nat):Int)):=by
 rcases (show z=0\/z=1\/z=2 by omega)with e|e|e<;>subst e<;>rfl
theorem Jh(hz:z<3):(mnL h r n i z).set z (nf (sumF (thrF h r z) ((ba (mwP h) n).take (i+1))) ((botH h^n:Nat):Int))=mnL h r n i (z+1):=by
 rcases (show z=0\/z=1\/z=2 by omega)with e|e|e<;>subst e<;>rfl
theorem OO{R:List Mv}(hz:z<3):atI [abN ((endQ h r (zer h,0) R).1.sum:Int),.int ((cy h r (zer h,0) ⟨0,0,0,0⟩ R).s:Int),.int ((cy h r (zer h,0) ⟨0,0,0,0⟩ R).a:Int)] (z:Int)=some (.int (thrF h r z R)):=by
 rcases (show z=0\/z=1\/z=2 by omega)with e|e|e<;>subst e<;>rfl
theorem H9(ho:h.Ok)(r:Rule):mnD h r 0 = .tuple [.tuple [.int 0,.int 1],.tuple [.int 0,.int 1],.tuple [.int 0,.int 1]]:=by
 have z:nf 0 ((botH h^0:Nat):Int) = .tuple [.int 0,.int 1]:=by rw[Nat.pow_zero,i8,oh (by decide)];rfl
 have m:p9 h r 0=0:=by
  have e:(zer h).sum≤0:=Aa (n:=0) ho trivial (r:=.random) _ (aah.mpr rfl);show(1:Int)*((zer h).sum:Int)+0=0;omega
 unfold mnD;rw[m,z,show cntW h r .served 0=0 from rfl,show cntW h r .away 0=0 from rfl,z]
section
variable {P:aaW}{w:World}{K:aaj}{mg:Str->Option GE}{base:aa4}
theorem ic(T:Bl K mg)(D:DefM K mg "greatest_divisor" cQ ["one","other"]):FnM P w K mg base "greatest_divisor" 1 2 Jo:=by
 refine aP D dy rfl (nN:=2) rfl (by decide) ?ar fun cdv A outer s H E f hr=>⟨_,(mz' (ku (aF (pk hr.units) (mv' 1) mh' (aY _)) (aa (jY (i:=0) (j:=1) dy.nd rfl rfl (by decide) rfl rfl (mc' (mv' 1) (mc' (ac dJ (mv' 0) (mv' 1)) mn')) rfl)) aaN)
   (aa (ah (mv' 0)))),?_⟩
 case ar=>rintro as Kc ⟨a,b,rfl,_⟩;rfl
 rintro as Kc hl ⟨a,b,rfl,k⟩;refine ak (MSt.mk [some (.imm (.int a)),some (.imm (.int b))] [] 0) rfl ?_;walk_at"xs";refine sU (fun n m=>∃x y:Nat,m=MSt.mk [some (.imm (.int x)),some (.imm (.int y))] [] 0/\x.gcd y=a.gcd b/\n=y) b ⟨a,b,rfl,rfl,rfl⟩ ?_;rintro n m hn ⟨x,y,rfl,hg,rfl⟩;walk_at"xs";refine aU (fun hpos=>?_) (fun hz=>?_)
 .have hy:0<n:=by omega
  walk_at"xs";have h2:=ah8 x hy;exact⟨x%n,h2,n,x%n,rfl,by rw[agx,<-Nat.gcd_rec,agx,hg],rfl⟩
 .have hy0:n=0:=by omega
  subst hy0;rw[ahs]at hg;walk_at"xs";rw[hg];exact k
theorem nA(T:Bl K mg)(D:DefM K mg "fraction_of" fZ ["top","bottom"])(Ggreatest_divisor:FnM P w K mg base "greatest_divisor" 1 2 Jo):FnM P w K mg base "fraction_of" 2 2 xG:=by
 refine aP D fx rfl (nN:=3) rfl (by decide) ?ar fun cdv A outer s H E f hr=>⟨_,(mz' (bo (aF (cg hr.units) (mv' 1) mh' (aY _)) (aa f7) aB)
   (mz' (bo (aF oO (mv' 1) mh' (aY _)) (aa (jY (i:=0) (j:=1) fx.nd rfl rfl (by decide) rfl rfl (mc' (iw fw (mv' 0)) (mc' (iw fw (mv' 1)) mn')) rfl)) aB)
   (mz' (au 2 fx.nd (mf' Ggreatest_divisor (hr.mono (by decide)) (mc' (aG kq (by rfl) T.abs wy (mc' (mv' 0) mn')) (mc' (mv' 1) mn'))))
   (aa (ah (ag (mc' (ac dF (mv' 0) (mv' 2)) (mc' (ac dF (mv' 1) (mv' 2)) mn')))))))),?_⟩
 case ar=>rintro as Kc ⟨a,b,rfl,_⟩;rfl
 rintro as Kc hl ⟨t,b,rfl,hb,ht,hb1,k⟩;refine ak (MSt.mk [some (.imm (.int t)),some (.imm (.int b)),none] [] 0) rfl ?_;have g1:0<t.natAbs.gcd b.natAbs:=abg _ (by omega);have g2:t.natAbs.gcd b.natAbs<10^160:=aaF (af4 _ (by omega)) hb1;unfold nf nfP at k;walk_at"xs";refine aU (fun z=>absurd z hb) (fun _=>?_);walk_at"xs";refine aU (fun z=>?_) (fun z=>?_)
 .rw[if_pos z]at k;walk_at"xs";refine⟨t.natAbs,b.natAbs,by rw[show(if -t<0 then - -t else -t)=(t.natAbs:Int) by split<;>omega,show -b=(b.natAbs:Int) by omega],?_⟩;walk_at"xn";refine fu ?_;walk_at"xx";refine kw (cfdB g1 g2) ?_;walk_at"xs";refine kw (cfdB g1 g2) ?_;walk_at"xs";exact k
 .rw[if_neg z]at k;walk_at"xs";refine⟨t.natAbs,b.natAbs,by rw[show(if t<0 then -t else t)=(t.natAbs:Int) by split<;>omega,show(b.natAbs:Int)=b by omega],?_⟩;walk_at"xn";refine fu ?_;walk_at"xx";refine kw (cfdB g1 g2) ?_;walk_at"xs";refine kw (cfdB g1 g2) ?_;walk_at"xs";exact k
theorem sG(T:Bl K mg)(D:DefM K mg "taken_off" iJ ["one","other"])(Gfraction_of:FnM P w K mg base "fraction_of" 2 2 xG):FnM P w K mg base "taken_off" 3 2 NR:=by
 refine aP D sk rfl (nN:=2) rfl (by decide) ?ar fun cdv A outer s H E f hr=>⟨_,(aa (ah (mf' Gfraction_of (hr.mono (by decide)) (mc' (ac kR (ac aA (af (mv' 0) mh') (af (mv' 1) mh')) (ac aA (af (mv' 1) mh') (af (mv' 0) mh'))) (mc' (ac aA (af (mv' 0) mh') (af (mv' 1) mh')) mn'))))),?_⟩
 case ar=>rintro as Kc ⟨a,b,c,d,rfl,_⟩;rfl
 rintro as Kc hl ⟨a,b,c,d,rfl,h1,h2,k⟩;refine ak (MSt.mk [some (.imm (.tuple [.int a,.int b])),some (.imm (.tuple [.int c,.int d]))] [] 0) rfl ?_;walk_at"xs";refine bH (cE (up45 h1.ha) (up45 h2.hb)) ?_;walk_at"xs";refine bH (cE (up45 h2.ha) (up45 h1.hb)) ?_;walk_at"xs";refine bH (cE (up45 h1.hb) (up45 h2.hb)) ?_;walk_at"xs";refine⟨_,_,rfl,oa h1.hp h2.hp,Mt (fU h1.ha h2.hb) (fU h2.ha h1.hb),tq (fU h1.hb h2.hb),?_⟩;walk_at"xn";exact k
theorem zJ(T:Bl K mg)(D:DefM K mg "divided" mh ["one","other"])(Gfraction_of:FnM P w K mg base "fraction_of" 2 2 xG):FnM P w K mg base "divided" 3 2 K8:=by
 refine aP D yk rfl (nN:=2) rfl (by decide) ?ar fun cdv A outer s H E f hr=>⟨_,(aa (ah (mf' Gfraction_of (hr.mono (by decide)) (mc' (ac aA (af (mv' 0) mh') (af (mv' 1) mh')) (mc' (ac aA (af (mv' 0) mh') (af (mv' 1) mh')) mn'))))),?_⟩
 case ar=>rintro as Kc ⟨a,b,c,d,rfl,_⟩;rfl
 rintro as Kc hl ⟨a,b,c,d,rfl,h1,h2,hc,k⟩;refine ak (MSt.mk [some (.imm (.tuple [.int a,.int b])),some (.imm (.tuple [.int c,.int d]))] [] 0) rfl ?_;walk_at"xs";refine bH (cE (up45 h1.ha) (up45 h2.hb)) ?_;walk_at"xs";refine bH (cE (up45 h1.hb) (up45 h2.ha)) ?_;walk_at"xs";refine⟨_,_,rfl,Int.mul_ne_zero (Int.ne_of_gt h1.hp) hc,tq (fU h1.ha h2.hb),tq (fU h1.hb h2.ha),?_⟩;walk_at"xn";exact k
theorem xj(T:Bl K mg)(D:DefM K mg "is_less" nW ["one","other"]):FnM P w K mg base "is_less" 1 2 D8:=by
 refine aP D zK rfl (nN:=2) rfl (by decide) ?ar fun cdv A outer s H E f hr=>⟨_,(aa (ah (tu oO (ac aA (af (mv' 0) mh') (af (mv' 1) mh')) (ac aA (af (mv' 1) mh') (af (mv' 0) mh')) (aY _)))),?_⟩
 case ar=>rintro as Kc ⟨a,b,c,d,rfl,_⟩;rfl
 rintro as Kc hl ⟨a,b,c,d,rfl,ha,hb,hc,hd,k⟩;refine ak (MSt.mk [some (.imm (.tuple [.int a,.int b])),some (.imm (.tuple [.int c,.int d]))] [] 0) rfl ?_;walk_at"xs";have e:decide ((a:Int)*(d:Int)<(c:Int)*(b:Int))=decide (a*d<c*b):=by
  rw[<-aaI,<-aaI];exact decide_eq_decide.mpr ahK
 rw[e];exact k
theorem kG(T:Bl K mg)(D:DefM K mg "on_one_bottom" cU ["pairs"])(Ggreatest_divisor:FnM P w K mg base "greatest_divisor" 1 2 Jo):FnM P w K mg base "on_one_bottom" 2 1 uQ:=by
 refine aP D ca rfl (nN:=4) rfl (by decide) ?ar fun cdv A outer s H E f hr=>⟨_,(mz' (dh (i:=1) ca.nd rfl (adu rfl) mh')
   (mz' (bC (bO (mv' 0)) (bj (n:=2) (ae (ai 2 ca.nd) (ae (ai 3 ca.nd) aK))) (aa (dh (i:=1) ca.nd rfl (adu rfl) (ac aA (mv' 1) (ac dF (af (mv' 3) mh') (mf' Ggreatest_divisor (hr.mono (by decide)) (mc' (mv' 1) (mc' (af (mv' 3) mh') mn'))))))) aaN)
   (aa (ah (ag (mc' (ce (ci (own:=["thing","fraction"]) (fr:=["bottom"]) (ps:=[1]) (sc:=(ab cU)) (by exact⟨rfl,by decide +kernel,by decide +kernel,by decide +kernel,by decide +kernel⟩) (bO (mv' 0)) (fun _ _ _ _ _=>(bj (n:=2) (ae (ai 0 (show abI ((["thing","fraction"]:List Str)++(["bottom"]:List Str))from by decide +kernel)) (ae (ai 1 (show abI ((["thing","fraction"]:List Str)++(["bottom"]:List Str))from by decide +kernel)) aK)))) (fun _ _ _ _ _=>cc) (fun _ _ _ _ _=>(ag (mc' (mv' 0) (mc' (ac aA (af (mv' 1) mh') (ac dF (mv' 2) (af (mv' 1) mh'))) mn')))))) (mc' (mv' 1) mn'))))))),?_⟩
 case ar=>rintro as Kc ⟨L,B,rfl,_⟩;rfl
 rintro as Kc hl ⟨L,B,rfl,hP,k⟩;refine ak (MSt.mk [some (.imm (.list (prsD L))),none,none,none] [] 0) rfl ?_;walk_at"xs";refine bJ (fun i m=>∃a b:Option L2.R,m=MSt.mk [some (.imm (.list (prsD L))),some (.imm (.int (botL (L.take i):Int))),a,b] [] 0) ⟨none,none,rfl⟩ ?_ ?_
 .rintro i d m e hnp ⟨a,b,rfl⟩;obtain⟨p,ep,rfl,hi⟩:=gmap e;have hp:=hP.d p (aae ep);have hb:=hP.pre i;walk_at"xs"
  .rfl
  walk_at"xs";refine⟨botL (L.take i),p.2.2,rfl,?_⟩;have g1:0<(botL (L.take i)).gcd p.2.2:=abg _ hp.1;have g2:(botL (L.take i)).gcd p.2.2≤botL (L.take i):=Nat.gcd_le_left _ hb.1;have pB:p.2.2<10^76:=aaF (aea hP.b0 hp.2.1) hP.b;walk_at"xx";refine kw (cfdB g1 (aaF g2 (aaE hb.2 (by decide)))) ?_;rw[<-aeJ];refine bH (cE (by rw[aaq];exact aaE hb.2 (by decide)) (by rw[aaq];exact aaF (adD _ _) (aaE pB (by decide)))) ?_;have es:botL (L.take (i+1))=botL (L.take i)*(p.2.2/(botL (L.take i)).gcd p.2.2):=by
   rw[abt,ep,<-IU _ _ hp.1];exact xU _ _
  walk_at"xs";refine(show ∃a b:Option L2.R,_=MSt.mk [some (.imm (.list (prsD L))),some (.imm (.int (botL (L.take (i+1)):Int))),a,b] [] 0 from⟨some (.imm p.1),some (.imm (.tuple [.int p.2.1,.int (p.2.2:Int)])),?_⟩);rw[es,aaI];rfl
 .rintro m hnp ⟨a,b,rfl⟩;have ef:L.take (prsD L).length=L:=by unfold prsD;rw[oR];exact aag
  have bL:1≤botL L/\botL L<10^76:=by have:=hP.pre L.length;rwa[aag]at this
  rw[ef];walk_at"xs";refine bJ (fun i m=>∃a b:Option L2.R,m=MSt.mk [a,b,some (.imm (.int (botL L:Int)))] [(onB L).take i] 1) ⟨none,none,rfl⟩ ?_ ?_
  .rintro i d m e hnp ⟨a,b,rfl⟩;obtain⟨p,ep,rfl,hi⟩:=gmap e;have hp:=hP.d p (aae ep);have hn:=hP.n;have pB:p.2.2<10^76:=aaF (aea hP.b0 hp.2.1) hP.b;walk_at"xs"
   .rfl
   walk_at"xs";refine kw (cfdB hp.1 (aaE pB (by decide))) ?_;rw[<-aeJ];refine bH (cE (aaE hp.2.2 (by decide)) (by rw[aaq];exact aaF (adD _ _) (aaE bL.2 (by decide)))) ?_;walk_at"xx";refine⟨_,rfl,by rw[aaJ,aav];omega,some (.imm p.1),some (.imm (.tuple [.int p.2.1,.int (p.2.2:Int)])),?_⟩;have eo:(onB L)[i]?=some (.tuple [p.1,.int (p.2.1*((botL L/p.2.2:Nat):Int))]):=by unfold onB;rw[aak,ep];rfl
   rw[abt,eo];rfl
  .rintro m hnp ⟨a,b,rfl⟩;have ef2:(onB L).take (prsD L).length=onB L:=by
    have:(prsD L).length=(onB L).length:=by unfold prsD onB;rw[oR,oR]
    rw[this];exact aag
   rw[ef2];walk_at"xx";exact k
theorem jr(T:Bl K mg)(D:DefM K mg "place_of_lines" dq ["hall","lines"]):FnM P w K mg base "place_of_lines" 1 2 z7:=by
 refine aP D bT rfl (nN:=5) rfl (by decide) ?ar fun cdv A outer s H E f hr=>⟨_,(mz' (au 2 bT.nd mh')
   (mz' (bC (Gf T.zip (mc' (mv' 1) (mc' (af (mv' 0) mh') mn'))) (bj (n:=2) (ae (ai 3 bT.nd) (ae (ai 4 bT.nd) aK))) (aa (au 2 bT.nd (ac aE (ac aA (mv' 2) (ac aE (af (mv' 4) mh') mh')) (mv' 3)))) aaN)
   (aa (ah (mv' 2))))),?_⟩
 case ar=>rintro as Kc ⟨h,l,rfl,_⟩;rfl
 rintro as Kc hl ⟨h,l,rfl,ho,hL,k⟩;refine ak (MSt.mk [some (.imm (.tuple [.tuple [.int h.a,.int h.b],.tuple (h.ss.map Srv.d),.bool h.mv])),some (.imm (.tuple (natD l))),none,none,none] [] 0) rfl ?_;walk_at"xs";refine⟨true,_,true,_,rfl,rfl,?_⟩;refine bJ (fun i m=>∃a b,m=MSt.mk [some (.imm (.tuple [.tuple [.int h.a,.int h.b],.tuple (h.ss.map Srv.d),.bool h.mv])),some (.imm (.tuple (natD l))),some (.imm (.int (M7.placeF 0 (h.rs.take i) (l.take i):Nat))),a,b] [] 0) ⟨none,none,rfl⟩ ?_ ?_
 .rintro i d m e n ⟨a,b,rfl⟩;obtain⟨a1,b1,e1,e2,rfl⟩:=Jc e;obtain⟨x,ex,rfl,hi⟩:=gmap e1;obtain⟨s,es,rfl,hj⟩:=gmap e2;have r6:=(ho.ok s (aae es)).r6;rw[M7.placeF_take (Hall.rs_get es) ex];dsimp only[Srv.d];walk_at"xs"
  .rfl
  walk_at"xs";generalize M7.placeF 0 (h.rs.take i) (l.take i)=P;have ec:(P:Int)*((s.r:Int)+1)+(x:Int)=((P*(s.r+1)+x:Nat):Int):=by
   rw[ab7,aaI,ab7];rfl
  rw[ec];exact⟨_,_,rfl⟩
 .rintro m n ⟨a,b,rfl⟩;have e1:min (natD l).length (h.ss.map Srv.d).length=l.length:=by rw[bf,oR];have:=hL.1;omega
  rw[fv,e1];have e2:h.rs.take l.length=h.rs:=by rw[hL.1,<-h.rsl];exact aag
  rw[e2,aag];walk_at"xs";exact k
theorem js(T:Bl K mg)(D:DefM K mg "first_shortest" df ["lines","order"]):FnM P w K mg base "first_shortest" 1 2 lR:=by
 refine aP D ck rfl (nN:=4) rfl (by decide) ?ar fun cdv A outer s H E f hr=>⟨_,(mz' (au 2 ck.nd (af (mv' 1) mh'))
   (mz' (bC (bO (mv' 1)) (ai 3 ck.nd) (aa (bo (aF oO (af (mv' 0) (mv' 3)) (af (mv' 0) (mv' 2)) (aY _)) (aa (au 2 ck.nd (mv' 3))) aB)) aaN)
   (aa (ah (mv' 2))))),?_⟩
 case ar=>rintro as Kc ⟨l,o,rfl,_⟩;rfl
 rintro as Kc hl ⟨l,o,rfl,hO,k⟩;obtain⟨o0,os,rfl,h0⟩:=hO.cons;refine ak (MSt.mk [some (.imm (.tuple (natD l))),some (.imm (.tuple (natD (o0::os)))),none,none] [] 0) rfl ?_;walk_at"xs";refine bc (bg (j:=0) (bW rfl)) ?_;walk_at"xs";refine bJ (fun i m=>∃a,m=MSt.mk [some (.imm (.tuple (natD l))),some (.imm (.tuple (natD (o0::os)))),some (.imm (.int (M7.pick (du l) o0 ((o0::os).take i):Nat))),a] [] 0) ⟨none,rfl⟩ ?_ ?_
 .rintro i d m e n ⟨a,rfl⟩;obtain⟨j,ej,rfl,hi⟩:=gmap e;have hj:=hO.lt j (aae ej);have hb:M7.pick (du l) o0 ((o0::os).take i)<l.length:=kM hO i;have et:(o0::os).take (i+1)=(o0::os).take i++[j]:=by rw[abA,ej];rfl
  rw[et,M7.pick_app];generalize M7.pick (du l) o0 ((o0::os).take i)=b at hb;walk_at"xs";refine bc (bg (bW (getN rfl hj))) ?_;walk_at"xs";refine bc (bg (bW (getN rfl hb))) ?_;walk_at"xs";refine aU (fun h=>?_) (fun h=>?_)
  .walk_at"xs";rw[if_pos (show du l j b=true from decide_eq_true (by omega))];exact⟨_,rfl⟩
  .walk_at"xs";rw[if_neg (show ¬du l j b=true by unfold du;rw[decide_eq_true_eq];omega)];exact⟨_,rfl⟩
 .rintro m n ⟨a,rfl⟩;rw[bf,aag];walk_at"xs";exact k
theorem wr(T:Bl K mg)(D:DefM K mg "wait_at" oq ["hall","lines","line"]):FnM P w K mg base "wait_at" 1 3 D5:=by
 refine aP D jR rfl (nN:=5) rfl (by decide) ?ar fun cdv A outer s H E f hr=>⟨_,(mz' (cJ (af (af (af (mv' 0) mh') (mv' 2)) mh') (bj (n:=2) (ae (ai 3 jR.nd) (ae (ai 4 jR.nd) aK))))
   (aa (ah (ag (mc' (ac aA (ac aE (af (mv' 1) (mv' 2)) mh') (mv' 4)) (mc' (mv' 3) mn')))))),?_⟩
 case ar=>rintro as Kc ⟨h,l,j,rfl,_⟩;rfl
 rintro as Kc hl ⟨h,l,j,rfl,ho,hL,hj,k⟩;obtain⟨s,es,ea,eb,hs⟩:=h.srv hj;have so:=ho.ok s hs;have b2:=so.b2;rw[ea,eb]at k;have el:=getN hL.1 hj;refine ak (MSt.mk [some (.imm (.tuple [.tuple [.int h.a,.int h.b],.tuple (h.ss.map Srv.d),.bool h.mv])),some (.imm (.tuple (natD l))),some (.imm (.int (j:Int))),none,none] [] 0) rfl ?_;walk_at"xs";refine bc (d:=s.d) (bg (by rw[aak,es];rfl)) ?_;dsimp only[Srv.d];walk_at"xs"
 .rfl
 walk_at"xs";refine bc (bg (bW el)) ?_;walk_at"xs";have e:(((l.getD j 0:Nat):Int)+1)*(s.b:Int)=(((l.getD j 0+1)*s.b:Nat):Int):=by
  rw[aaI,ab7];rfl
 rw[e];exact k
theorem jq(T:Bl K mg)(D:DefM K mg "first_quickest" dg ["hall","lines","order"])(Gwait_at:FnM P w K mg base "wait_at" 1 3 D5)(Gis_less:FnM P w K mg base "is_less" 1 2 D8):FnM P w K mg base "first_quickest" 2 3 lU:=by
 refine aP D bv rfl (nN:=7) rfl (by decide) ?ar fun cdv A outer s H E f hr=>⟨_,(mz' (au 3 bv.nd (af (mv' 2) mh'))
   (mz' (au 4 bv.nd (mf' Gwait_at (hr.mono (by decide)) (mc' (mv' 0) (mc' (mv' 1) (mc' (mv' 3) mn')))))
   (mz' (bC (bO (mv' 2)) (ai 5 bv.nd) (mz' (au 6 bv.nd (mf' Gwait_at (hr.mono (by decide)) (mc' (mv' 0) (mc' (mv' 1) (mc' (mv' 5) mn')))))
   (aa (bo (zG (mf' Gis_less (hr.mono (by decide)) (mc' (mv' 6) (mc' (mv' 4) mn')))) (aa (jY (i:=3) (j:=4) bv.nd rfl rfl (by decide) rfl rfl (mc' (mv' 5) (mc' (mv' 6) mn')) rfl)) aB))) aaN)
   (aa (ah (mv' 3)))))),?_⟩
 case ar=>rintro as Kc ⟨h,l,o,rfl,_⟩;rfl
 rintro as Kc hl ⟨h,l,o,rfl,ho,hL,hO,k⟩;obtain⟨o0,os,rfl,h0⟩:=hO.cons;have bd:∀j,j<h.ss.length->(l.getD j 0+1)*h.bn j<1000000000000/\h.an j<1000000000000:=fun j hj=>by
  obtain⟨s,es,ea,eb,hs⟩:=h.srv hj;have so:=ho.ok s hs;have h6:=hL.le ho _ (aae (getN hL.1 hj));rw[ea,eb];have:=so.a2;have:(l.getD j 0+1)*s.b≤7*1000000:=abd (by omega) (by have:=so.b2;omega);omega
 refine ak (MSt.mk [some (.imm h.d),some (.imm (.tuple (natD l))),some (.imm (.tuple (natD (o0::os)))),none,none,none,none] [] 0) rfl ?_;walk_at"xs";refine bc (bg (j:=0) (bW rfl)) ?_;walk_at"xs";refine⟨h,l,o0,rfl,ho,hL,h0,?_⟩;walk_at"xx";refine bJ (fun i m=>∃a b,m=MSt.mk [some (.imm h.d),some (.imm (.tuple (natD l))),some (.imm (.tuple (natD (o0::os)))),some (.imm (.int (M7.pick (cZ h l) o0 ((o0::os).take i):Nat))),some (.imm (frD ((l.getD (M7.pick (cZ h l) o0 ((o0::os).take i)) 0+1)*h.bn (M7.pick (cZ h l) o0 ((o0::os).take i)):Nat) (h.an (M7.pick (cZ h l) o0 ((o0::os).take i)):Nat))),a,b] [] 0) ⟨none,none,rfl⟩ ?_ ?_
 .rintro i d m e n ⟨a,b,rfl⟩;obtain⟨j,ej,rfl,hi⟩:=gmap e;have hj:=hO.lt j (aae ej);have hb:M7.pick (cZ h l) o0 ((o0::os).take i)<h.ss.length:=kM hO i;have et:(o0::os).take (i+1)=(o0::os).take i++[j]:=by rw[abA,ej];rfl
  rw[et,M7.pick_app];generalize M7.pick (cZ h l) o0 ((o0::os).take i)=b at hb;walk_at"xs";refine⟨h,l,j,rfl,ho,hL,hj,?_⟩;walk_at"xx";obtain⟨b1,b2⟩:=bd j hj;obtain⟨b3,b4⟩:=bd b hb;refine⟨_,_,_,_,rfl,b1,b2,b3,b4,?_⟩;walk_at"xx";refine aU (fun q=>?_) (fun q=>?_)
  .walk_at"xs";rw[if_pos (show cZ h l j b=true from decide_eq_true q)];exact⟨_,_,rfl⟩
  .walk_at"xs";rw[if_neg (show ¬cZ h l j b=true by unfold cZ;rw[decide_eq_true_eq];exact q)];exact⟨_,_,rfl⟩
 .rintro m n ⟨a,b,rfl⟩;rw[bf,aag];walk_at"xs";exact k
theorem xQ(T:Bl K mg)(D:DefM K mg "sent_to" mH ["hall","rule","stand","order"])(Gfirst_shortest:FnM P w K mg base "first_shortest" 1 2 lR)(Gfirst_quickest:FnM P w K mg base "first_quickest" 2 3 lU)(Gplace_of_lines:FnM P w K mg base "place_of_lines" 1 2 z7):FnM P w K mg base "sent_to" 3 4 ue:=by
 refine aP D iC rfl (nN:=7) rfl (by decide) ?ar fun cdv A outer s H E f hr=>⟨_,(mz' (cJ (mv' 2) (bj (n:=2) (ae (ai 4 iC.nd) (ae (ai 5 iC.nd) aK))))
   (mz' (au 6 iC.nd (af (mv' 1) mh'))
   (mz' (bo (aF (cg hr.units) (mv' 6) aH (aY _)) (aa (ah (af (mv' 3) mh'))) aB)
   (mz' (bo (aF (cg hr.units) (mv' 6) aH (aY _)) (aa (ah (mv' 5))) aB)
   (mz' (bo (aF (cg hr.units) (mv' 6) aH (aY _)) (aa (ah (mf' Gfirst_shortest (hr.mono (by decide)) (mc' (mv' 4) (mc' (ce (cW fX (mv' 3) dH (dG mh'))) mn'))))) aB)
   (mz' (bo (aF (cg hr.units) (mv' 6) aH (aY _)) (aa (ah (mf' Gfirst_shortest (hr.mono (by decide)) (mc' (mv' 4) (mc' (mv' 3) mn'))))) aB)
   (mz' (bo (aF (cg hr.units) (mv' 6) aH (aY _)) (aa (ah (mf' Gfirst_quickest (hr.mono (by decide)) (mc' (mv' 0) (mc' (mv' 4) (mc' (mv' 3) mn')))))) aB)
   (aa (ah (af (af (mv' 1) mh') (mf' Gplace_of_lines (hr.mono (by decide)) (mc' (mv' 0) (mc' (mv' 4) mn'))))))))))))),?_⟩
 case ar=>rintro as Kc ⟨h,r,l,t,o,rfl,_⟩;rfl
 rintro as Kc hl ⟨h,r,l,t,o,rfl,ho,hr0,hL,hO,k⟩;have hll:=hL.1;have hO':Ord l.length o:=by rw[hll];exact hO
 cases r with
 |random =>
  refine ak (MSt.mk [some (.imm h.d),some (.imm (.tuple [.str "random"])),some (.imm (.tuple [lnD l,.int (t:Int)])),some (.imm (.tuple (natD o))),none,none,none] [] 0) rfl ?_;walk_at"xs"
  .rfl
  walk_at"xs";refine aU (fun _=>?_) (fun z=>(z rfl).elim);obtain⟨o0,os,rfl,h0⟩:=hO.cons;walk_at"xs";refine bc (bg (j:=0) (bW rfl)) ?_;walk_at"xs";exact k
 |turns =>
  refine ak (MSt.mk [some (.imm h.d),some (.imm (.tuple [.str "turns"])),some (.imm (.tuple [lnD l,.int (t:Int)])),some (.imm (.tuple (natD o))),none,none,none] [] 0) rfl ?_;walk_at"xs"
  .rfl
  walk_at"xs";refine aU (fun z=>absurd z (by decide +kernel)) (fun _=>?_);walk_at"xs";refine aU (fun _=>?_) (fun z=>(z rfl).elim);walk_at"xs";exact k
 | two =>
  refine ak (MSt.mk [some (.imm h.d),some (.imm (.tuple [.str "two"])),some (.imm (.tuple [lnD l,.int (t:Int)])),some (.imm (.tuple (natD o))),none,none,none] [] 0) rfl ?_;walk_at"xs"
  .rfl
  walk_at"xs";refine aU (fun z=>absurd z (by decide +kernel)) (fun _=>?_);walk_at"xs";refine aU (fun z=>absurd z (by decide +kernel)) (fun _=>?_);walk_at"xs";refine aU (fun _=>?_) (fun z=>(z rfl).elim);walk_at"xs";have e:cutD (natD o) none (some 2)=natD (o.take 2):=by
   rw[show(2:Int)=((2:Nat):Int)from rfl,nk];simp[natD]
  rw[e];obtain⟨o0,os,rfl,h0⟩:=hO.cons;refine⟨l,(o0::os).take 2,rfl,⟨by simp,fun k hk=>hO'.lt k (acb hk),by rw[aaJ];omega⟩,?_⟩;walk_at"xn";exact k
 |least =>
  refine ak (MSt.mk [some (.imm h.d),some (.imm (.tuple [.str "least"])),some (.imm (.tuple [lnD l,.int (t:Int)])),some (.imm (.tuple (natD o))),none,none,none] [] 0) rfl ?_;walk_at"xs"
  .rfl
  walk_at"xs";refine aU (fun z=>absurd z (by decide +kernel)) (fun _=>?_);walk_at"xs";refine aU (fun z=>absurd z (by decide +kernel)) (fun _=>?_);walk_at"xs";refine aU (fun z=>absurd z (by decide +kernel)) (fun _=>?_);walk_at"xs";refine aU (fun _=>?_) (fun z=>(z rfl).elim);walk_at"xs";refine⟨l,o,rfl,hO',?_⟩;walk_at"xn";exact k
 |quick =>
  refine ak (MSt.mk [some (.imm h.d),some (.imm (.tuple [.str "quick"])),some (.imm (.tuple [lnD l,.int (t:Int)])),some (.imm (.tuple (natD o))),none,none,none] [] 0) rfl ?_;walk_at"xs"
  .rfl
  walk_at"xs";refine aU (fun z=>absurd z (by decide +kernel)) (fun _=>?_);walk_at"xs";refine aU (fun z=>absurd z (by decide +kernel)) (fun _=>?_);walk_at"xs";refine aU (fun z=>absurd z (by decide +kernel)) (fun _=>?_);walk_at"xs";refine aU (fun z=>absurd z (by decide +kernel)) (fun _=>?_);walk_at"xs";refine aU (fun _=>?_) (fun z=>(z rfl).elim);walk_at"xs";refine⟨h,l,o,rfl,ho,hL,hO,?_⟩;walk_at"xn";exact k
 |told ps =>
  refine ak (MSt.mk [some (.imm h.d),some (.imm (.tuple [.str "told",.tuple (natD ps)])),some (.imm (.tuple [lnD l,.int (t:Int)])),some (.imm (.tuple (natD o))),none,none,none] [] 0) rfl ?_;walk_at"xs"
  .rfl
  walk_at"xs";refine aU (fun z=>absurd z (by decide +kernel)) (fun _=>?_);walk_at"xs";refine aU (fun z=>absurd z (by decide +kernel)) (fun _=>?_);walk_at"xs";refine aU (fun z=>absurd z (by decide +kernel)) (fun _=>?_);walk_at"xs";refine aU (fun z=>absurd z (by decide +kernel)) (fun _=>?_);walk_at"xs";refine aU (fun z=>absurd z (by decide +kernel)) (fun _=>?_);walk_at"xs";refine⟨h,l,rfl,ho,hL,?_⟩;walk_at"xn";have hlt:M7.placeF 0 h.rs l<ps.length:=by rw[hr0.1,M7.allR_cnt];exact M7.place_lt hL.fits
  refine bc (bg (bW (getN rfl hlt))) ?_;exact k
theorem m7(T:Bl K mg)(D:DefM K mg "first_stand" fY ["hall"]):FnM P w K mg base "first_stand" 1 1 jT:=by
 refine aP D l4 rfl (nN:=1) rfl (by decide) ?ar fun cdv A outer s H E f hr=>⟨_,(aa (ah (ag (mc' (ac aA (ag (mc' mh' mn')) (aG b9 (by rfl) T.len fE (mc' (af (mv' 0) mh') mn'))) (mc' mh' mn'))))),?_⟩
 case ar=>rintro as Kc ⟨h,rfl,_⟩;rfl
 rintro as Kc hl ⟨h,rfl,ho,k⟩;have n1:=ho.n1;have n4:=ho.n4;refine ak (MSt.mk [some (.imm (.tuple [.tuple [.int h.a,.int h.b],.tuple (h.ss.map Srv.d),.bool h.mv]))] [] 0) rfl ?_;walk_at"xs";rw[oR];refine Nk (by omega) (by omega) (by simp;omega) ?_;walk_at"xs";have e:(aat ((h.ss.length:Nat):Int).toNat [abN 0]).flatten=natD (zer h):=by
  rw[aba];simp[zer,natD]
 rw[e];exact k
theorem o8(T:Bl K mg)(D:DefM K mg "all_orders" fb ["hall"]):FnM P w K mg base "all_orders" 1 1 D9:=by
 refine aP D cV rfl (nN:=4) rfl (by decide) ?ar fun cdv A outer s H E f hr=>⟨_,(mz' (dh (i:=1) cV.nd rfl (adu rfl) (aG b9 (by rfl) T.len fE (mc' (af (mv' 0) mh') mn')))
   (mz' (au 2 cV.nd (bV (mc' (ag mn') mn')))
   (mz' (bC (bw (by rfl) T.range (mc' (mv' 1) mn')) (ai 3 cV.nd) (aa (xh (i:=2) (own:=["ahead","line"]) (fr:=["many"]) (ps:=[1]) (sc:=(ab fb)) (by exact⟨rfl,by decide +kernel,by decide +kernel,by decide +kernel,by decide +kernel⟩) cV.nd rfl rfl (bO (mv' 2)) (fun _ _ _ _ _=>(ai 0 (show abI ((["ahead","line"]:List Str)++(["many"]:List Str))from by decide +kernel))) (fun _ _ _ _ _=>cc) (fun _ _ _ _ _=>(bw (by rfl) T.range (mc' (mv' 2) mn'))) (fun _ _ _ _ _=>(ai 1 (show abI ((["ahead","line"]:List Str)++(["many"]:List Str))from by decide +kernel))) (fun _ _ _ _ _=>(Bh (aF (qr hr.units) (mv' 1) (mv' 0) (by with_unfolding_all rfl)))) (fun _ _ _ _ _=>(ac aE (mv' 0) (ag (mc' (mv' 1) mn')))))) aaN)
   (aa (ah (mv' 2)))))),?_⟩
 case ar=>rintro as Kc ⟨h,rfl,_⟩;rfl
 rintro as Kc hl ⟨h,rfl,ho,k⟩;have n1:=ho.n1;have n4:=ho.n4;refine ak (MSt.mk [some (.imm (.tuple [.tuple [.int h.a,.int h.b],.tuple (h.ss.map Srv.d),.bool h.mv])),none,none,none] [] 0) rfl ?_;walk_at"xs";refine cP ?_;walk_at"xx";rw[oR];refine⟨by omega,by omega,?_⟩;rw[aba];refine bJ (fun i m=>∃a,m=MSt.mk [some (.imm (.tuple [.tuple [.int h.a,.int h.b],.tuple (h.ss.map Srv.d),.bool h.mv])),some (.imm (.int (h.ss.length:Nat))),some (.obj 0),a] [(ordK h.ss.length i).map lnD] 0) ⟨none,rfl⟩ ?_ ?_
 .rintro i d m e n ⟨a,rfl⟩;obtain⟨hi,rfl⟩:=bQ e;obtain⟨hk1,hk2⟩:=de h.ss.length n4 i (by omega);have hk3:=kZ h.ss.length n4 i (by omega);rw[show ordK h.ss.length (i+1)=k6 h.ss.length (ordK h.ss.length i)from rfl];generalize ordK h.ss.length i=os at hk1 hk2 hk3;walk_at"xs";walk_at"xn";refine oi (fun z m=>∃b c,m=MSt.mk [b,c,some (.imm (.int (h.ss.length:Nat)))] [os.map lnD,(k6 h.ss.length (os.take z)).map lnD] 2) ⟨none,none,rfl⟩ ?_ ?_ ?_
  .rintro z m ⟨b,c,rfl⟩;rfl
  .rintro z d m ez nz ⟨b,c,rfl⟩;obtain⟨l,el,rfl,hz⟩:=gmap ez;obtain⟨hl4,hl3⟩:=hk2 l (aae el);have hzl:=(aad.mp el).1;have hz24:=hk3 z (by omega);walk_at"xs";refine⟨by omega,by omega,?_⟩;rw[aba];obtain⟨G,hG⟩:∃G:Nat->List (List Nat),G=fun y=>k6 h.ss.length (os.take z)++((aaP y).filter fun q=>!l.contains q).map fun q=>l++[q]:=⟨_,rfl⟩;have hG0:G 0=k6 h.ss.length (os.take z):=by rw[hG];simp
   have hGn:G h.ss.length=k6 h.ss.length (os.take (z+1)):=by rw[hG,vC el]
   have hGs:∀y,G (y+1)=G y++([y].filter fun q=>!l.contains q).map fun q=>l++[q]:=fun y=>by
    rw[hG];show _++((aaP (y+1)).filter _).map _=_;rw[aec,afu,aaG,abX]
   have hGl:∀y,y≤4->(G y).length≤28:=fun y hy=>by
    rw[hG];dsimp only;rw[aap,oR];have:=aeC (fun q=>!l.contains q) (aaP y);rw[aa3]at this;omega
   clear hG;rw[<-hG0];refine bJ (fun y m=>∃c,m=MSt.mk [some (.imm (lnD l)),c,some (.imm (.int (h.ss.length:Nat)))] [os.map lnD,(G y).map lnD] 2) ⟨c,rfl⟩ ?_ ?_
   .rintro y d m ey ny ⟨c,rfl⟩;obtain⟨hy,rfl⟩:=bQ ey;rw[show(0:Int)+(y:Int)=((y:Nat):Int) by omega];have hlen:=hGl y (by omega);have hin:(natD l).any (fun x=>aaw x (.int (y:Int)))=l.contains y:=by
     rw[ac1,ahU,List.contains_iff_mem];constructor
     .rintro⟨x,hx,ex⟩;obtain⟨w,hw,rfl⟩:=aay.mp hx;rw[dW]at ex;rw[<-of_decide_eq_true ex];exact hw
     .intro hm;exact⟨_,aay.mpr ⟨y,hm,rfl⟩,by rw[dW];exact decide_eq_true rfl⟩
    walk_at"xs";refine x_in (d:=.int (y:Int)) (ds:=natD l) rfl (.inr rfl) (jK _) (jC l) (by decide) ?_;walk_at"xs";rw[hin]
    cases hc:l.contains y with
    |true =>
     refine ip ?_;walk_at"xs";refine⟨some (.imm (.int (y:Int))),?_⟩;rw[hGs,show([y].filter fun q=>!l.contains q)=[] by rw[ahV,hc];rfl,ab4,aa5];rfl
    |false =>
     refine kU ?_;walk_at"xs";refine jI (by rw[aav,bf];simp;omega) ?_;walk_at"xs";refine⟨_,rfl,by rw[aav,oR];omega,some (.imm (.int (y:Int))),?_⟩;rw[hGs,show([y].filter fun q=>!l.contains q)=[y] by rw[ahV,hc];rfl,aaG];simp[lnD,natD,MSt.setV]
   .rintro m ny ⟨c,rfl⟩;rw[aw,hGn];walk_at"xs";exact⟨_,_,rfl⟩
  .rintro m nz ⟨b,c,rfl⟩;rw[oR,aag];walk_at"xn";refine vE (k:=0) rfl (Io _) (fun j hj=>?_) ⟨_,rfl⟩
   match j with
   |0|1|3=>exact fun z=>by cases z
   |2=>exact(hj rfl).elim
   |n+4=>exact fun z=>by cases z
 .rintro m n ⟨a,rfl⟩;rw[aw];walk_at"xs";exact k
theorem sx(T:Bl K mg)(D:DefM K mg "with_more" iI ["lines","line","more"]):FnM P w K mg base "with_more" 1 3 uw:=by
 refine aP D qY rfl (nN:=3) rfl (by decide) ?ar fun cdv A outer s H E f hr=>⟨_,(aa (ah (ac aE (ac aE (cW fX (mv' 0) dH (dG (mv' 1))) (ag (mc' (ac aE (af (mv' 0) (mv' 1)) (mv' 2)) mn'))) (cW fX (mv' 0) (dG (ac aE (mv' 1) mh')) dH)))),?_⟩
 case ar=>rintro as Kc ⟨l,j,d,x,rfl,_⟩;rfl
 rintro as Kc hl ⟨l,j,d,x,rfl,hj,hl4,hx,k⟩;refine ak (MSt.mk [some (.imm (.tuple (natD l))),some (.imm (.int (j:Int))),some (.imm (.int d))] [] 0) rfl ?_;walk_at"xs";refine bc (bg (bW (getN rfl hj))) ?_;walk_at"xs";rw[hx,nk];refine jI (by rw[aav,aaJ,bf];simp;omega) ?_;walk_at"xs";rw[show(j:Int)+1=((j+1:Nat):Int)from rfl,qE];refine jI (by rw[aav,aap,aaJ,adT,bf];simp;omega) ?_;walk_at"xs";have e:(natD l).take j++[.int (x:Int)]++(natD l).drop (j+1)=natD (l.set j x):=by
  rw[<-Ci,List.set_eq_take_append_cons_drop,if_pos (by rw[bf];exact hj)];simp
 rw[e];exact k
theorem w5(T:Bl K mg)(D:DefM K mg "come_to" m8 ["hall","lines","line"])(Gwith_more:FnM P w K mg base "with_more" 1 3 uw):FnM P w K mg base "come_to" 2 3 Fg:=by
 refine aP D yf rfl (nN:=3) rfl (by decide) ?ar fun cdv A outer s H E f hr=>⟨_,(mz' (bo (aF (cg hr.units) (af (mv' 1) (mv' 2)) (af (af (af (mv' 0) mh') (mv' 2)) mh') (aY _)) (aa (ah (ag (mc' (mv' 1) (mc' aH mn'))))) aB)
   (aa (ah (ag (mc' (mf' Gwith_more (hr.mono (by decide)) (mc' (mv' 1) (mc' (mv' 2) (mc' mh' mn')))) (mc' aH mn')))))),?_⟩
 case ar=>rintro as Kc ⟨h,l,j,rfl,_⟩;rfl
 rintro as Kc hl ⟨h,l,j,rfl,ho,hL,hj,k⟩;have hll:=hL.1;have n4:=ho.n4;obtain⟨s,es,ea,eb,hs⟩:=h.srv hj;have er:h.rn j=s.r:=bm (Hall.rs_get es);refine ak (MSt.mk [some (.imm (.tuple [.tuple [.int h.a,.int h.b],.tuple (h.ss.map Srv.d),.bool h.mv])),some (.imm (.tuple (natD l))),some (.imm (.int (j:Int)))] [] 0) rfl ?_;walk_at"xs";refine bc (bg (bW (getN hll hj))) ?_;walk_at"xs";refine bc (d:=s.d) (bg (by rw[aak,es];rfl)) ?_;dsimp only[Srv.d];walk_at"xs";refine aU (fun z=>?_) (fun z=>?_)
 .walk_at"xs";have e:d7 h l j=(l,.away):=if_pos (by rw[er];omega);rw[e]at k;exact k
 .walk_at"xs";refine⟨l,j,1,l.getD j 0+1,rfl,by omega,by omega,rfl,?_⟩;walk_at"xx";have e:d7 h l j=(l.set j (l.getD j 0+1),.taken):=if_neg (by rw[er];omega);rw[e]at k;exact k
theorem xu(T:Bl K mg)(D:DefM K mg "done_at" n6 ["lines","line"])(Gwith_more:FnM P w K mg base "with_more" 1 3 uw):FnM P w K mg base "done_at" 2 2 FG:=by
 refine aP D za rfl (nN:=2) rfl (by decide) ?ar fun cdv A outer s H E f hr=>⟨_,(mz' (bo (aF (cg hr.units) (af (mv' 0) (mv' 1)) mh' (aY _)) (aa (ah (ag (mc' (mv' 0) (mc' aH mn'))))) aB)
   (aa (ah (ag (mc' (mf' Gwith_more (hr.mono (by decide)) (mc' (mv' 0) (mc' (mv' 1) (mc' (iw fw mh') mn')))) (mc' aH mn')))))),?_⟩
 case ar=>rintro as Kc ⟨l,j,rfl,_⟩;rfl
 rintro as Kc hl ⟨l,j,rfl,hj,hl4,k⟩;refine ak (MSt.mk [some (.imm (.tuple (natD l))),some (.imm (.int (j:Int)))] [] 0) rfl ?_;walk_at"xs";refine bc (bg (bW (getN rfl hj))) ?_;walk_at"xs";refine aU (fun z=>?_) (fun z=>?_)
 .walk_at"xs";have e:d6 l j=(l,.none):=if_pos (by omega);rw[e]at k;exact k
 .walk_at"xs";refine⟨l,j,-1,l.getD j 0-1,rfl,hj,hl4,by omega,?_⟩;walk_at"xx";have e:d6 l j=(l.set j (l.getD j 0-1),.served):=if_neg (by omega);rw[e]at k;exact k
theorem oT(T:Bl K mg)(D:DefM K mg "next_shift" gN ["hall","lines"]):FnM P w K mg base "next_shift" 1 2 zo:=by
 refine aP D qF rfl (nN:=2) rfl (by decide) ?ar fun cdv A outer s H E f hr=>⟨_,(mz' (bo (EW.pt (Fm (JX (zG (af (mv' 0) mh'))) (Fm (aF (qr hr.units) mh' (mv' 1) (by with_unfolding_all rfl)) (GJ (aF oO (aG (lH rfl) (by rfl) T.max Fe (mc' (mv' 1) mn')) mh' (aY _)))))) (aa (ah sN)) aB)
   (aa (ah (ag (mc' (DY ad7 afR (lr hr.units) (mv' 1) (mc' (aG (lH rfl) (by rfl) T.max Fe (mc' (mv' 1) mn')) mn')) (mc' (DY ad7 afR (lr hr.units) (mv' 1) (mc' mh' mn')) mn')))))),?_⟩
 case ar=>rintro as Kc ⟨h,l,rfl,_⟩;rfl
 rintro as Kc hl ⟨h,l,rfl,hne,hl4,k⟩;have hints:d8 (natD l)=some (l.map fun(x:Nat)=>(x:Int)):=by
  have:=fi (l.map fun(x:Nat)=>(x:Int));rwa[abe]at this
 have hnei:(l.map fun(x:Nat)=>(x:Int))≠[]:=fun z=>hne (List.map_eq_nil_iff.mp z);have hmax:∀x:Int,x∈(l.map fun(x:Nat)=>(x:Int))->(∀y∈(l.map fun(x:Nat)=>(x:Int)),y≤x)->x=(maxN l:Int):=fun x hx hy=>by
  obtain⟨n,hn,rfl⟩:=aay.mp hx;have h1:=xn n hn;have h2:=hy (maxN l:Int) (aay.mpr ⟨maxN l,l7 hne,rfl⟩);omega
 have hin:(natD l).any (fun y=>aaw y (.int 0))=decide (0∈l):=by
  rw[ac1];rw[ahU,decide_eq_true_eq];constructor
  .rintro⟨y,hy,e⟩;obtain⟨x,hx,rfl⟩:=aay.mp hy;have e':=dW x 0;rw[show((0:Nat):Int)=0 from rfl,e]at e';have:x=0:=of_decide_eq_true e'.symm;rw[<-this];exact hx
  .intro h0;exact⟨.int 0,aay.mpr ⟨0,h0,rfl⟩,dW 0 0⟩
 refine ak (MSt.mk [some (.imm (.tuple [.tuple [.int h.a,.int h.b],.tuple (h.ss.map Srv.d),.bool h.mv])),some (.imm (.tuple (natD l)))] [] 0) rfl ?_;walk_at"xs"
 cases hmv:h.mv with
 |false =>
  refine kU ?_;walk_at"xs";have e:dn h l=none:=if_neg (by rw[hmv];exact fun z=>by cases z.1);rw[e]at k;exact k
 | true =>
  refine ip ?_;walk_at"xs";refine x_in (d:=.int 0) (ds:=natD l) rfl (.inr rfl) (jK 0) (jC l) (by decide) ?_;walk_at"xs";rw[hin]
  by_cases h0:0∈l
  .rw[decide_eq_true h0];refine ip ?_;walk_at"xs";refine FU rfl hints hnei fun x hx hy=>?_;rw[hmax x hx hy];walk_at"xs";refine aU (fun z=>?_) (fun z=>?_)
   .walk_at"xs";have e:dn h l=none:=if_neg (fun q=>by have:=q.2.2;omega);rw[e]at k;exact k
   .walk_at"xs";refine FU rfl hints hnei fun x hx hy=>?_;rw[hmax x hx hy];have s1:=jz (l7 hne);have s0:=jz h0;walk_at"xs";refine tJ (j:=idx l (maxN l)) (k':=0) (jK _) (jC l) (by decide) (bW s1.1) (by rw[dW];exact decide_eq_true rfl) (fun i y hi hy=>?_) ?_
    .obtain⟨z,ez,rfl,_⟩:=gmap hy;rw[dW];exact decide_eq_false (s1.2 i z hi ez)
    walk_at"xs";refine tJ (j:=idx l 0) (k':=0) (jK _) (jC l) (by decide) (bW s0.1) (dW 0 0) (fun i y hi hy=>?_) ?_
    .obtain⟨z',ez,rfl,_⟩:=gmap hy;have:=dW z' 0;rw[show((0:Nat):Int)=0 from rfl]at this;rw[this];exact decide_eq_false (s0.2 i z' hi ez)
    walk_at"xs";have e:dn h l=some (idx l (maxN l),idx l 0):=if_pos ⟨hmv,h0,by omega⟩;rw[e]at k;exact k
  .rw[decide_eq_false h0];refine kU ?_;walk_at"xs";have e:dn h l=none:=if_neg (fun q=>h0 q.2.1);rw[e]at k;exact k
theorem yg(T:Bl K mg)(D:DefM K mg "settled" nu ["hall","lines"])(Gnext_shift:FnM P w K mg base "next_shift" 1 2 zo)(Gwith_more:FnM P w K mg base "with_more" 1 3 uw):FnM P w K mg base "settled" 2 2 pJ:=by
 refine aP D iB rfl (nN:=3) rfl (by decide) ?ar fun cdv A outer s H E f hr=>⟨_,(mz' (au 2 iB.nd (mf' Gnext_shift (hr.mono (by decide)) (mc' (mv' 0) (mc' (mv' 1) mn'))))
   (mz' (ku (aF wn (mv' 2) sN (aY _)) (mz' (au 1 iB.nd (mf' Gwith_more (hr.mono (by decide)) (mc' (mf' Gwith_more (hr.mono (by decide)) (mc' (mv' 1) (mc' (af (mv' 2) mh') (mc' (iw fw mh') mn')))) (mc' (af (mv' 2) mh') (mc' mh' mn')))))
   (aa (au 2 iB.nd (mf' Gnext_shift (hr.mono (by decide)) (mc' (mv' 0) (mc' (mv' 1) mn')))))) aaN)
   (aa (ah (mv' 1))))),?_⟩
 case ar=>rintro as Kc ⟨h,l,rfl,_⟩;rfl
 rintro as Kc hl ⟨h,l,rfl,hne,hl4,k⟩;refine ak (MSt.mk [some (.imm h.d),some (.imm (lnD l)),none] [] 0) rfl ?_;walk_at"xs";refine⟨h,l,rfl,hne,hl4,?_⟩;walk_at"xx";refine sU (fun n m=>∃l':List Nat,m=MSt.mk [some (.imm h.d),some (.imm (lnD l')),some (.imm (optP (dn h l')))] [] 0/\n=l'.count 0/\di h n l'=h8 h l/\l'≠[]/\l'.length≤1000) (l.count 0) ⟨l,rfl,rfl,rfl,hne,hl4⟩ ?_;rintro n m hn ⟨l',rfl,rfl,hs,hne',hl'⟩;walk_at"xs"
 cases e:dn h l' with
 |none =>
  refine ip ?_;walk_at"xs";rw[qk e]at hs;rw[<-hs]at k;exact k
 | some p =>
  refine kU ?_;obtain⟨es,l1,l2,hc,hlen⟩:=iG e;obtain⟨m0,m1,m2,m3,m4⟩:=gg e;have g1:l'.getD p.1 0=maxN l':=bm m1;have g2:(l'.set p.1 (maxN l'-1)).getD p.2 0=0:=bm (by rw[aaS m4];exact m3);dsimp only[optP];walk_at"xs";refine⟨l',p.1,-1,maxN l'-1,rfl,l1,hl',by omega,?_⟩;walk_at"xx";refine⟨l'.set p.1 (maxN l'-1),p.2,1,1,rfl,by rw[abp];exact l2,by rw[abp];exact hl',by omega,?_⟩;rw[<-es];walk_at"xx";have hne2:cY l' p≠[]:=fun z=>by
   rw[z]at hlen;exact hne' (abC hlen.symm)
  refine⟨h,cY l' p,rfl,hne2,by omega,?_⟩;walk_at"xx";refine⟨(cY l' p).count 0,by omega,cY l' p,rfl,rfl,?_,hne2,by omega⟩;rw[<-hs,<-hc];show _=di h ((cY l' p).count 0+1) l';simp only[di,e]
theorem ng(T:Bl K mg)(D:DefM K mg "turn_behind" fV ["hall","rule","turn"]):FnM P w K mg base "turn_behind" 1 3 zq:=by
 refine aP D nH rfl (nN:=3) rfl (by decide) ?ar fun cdv A outer s H E f hr=>⟨_,(mz' (bo (aF (cg hr.units) (af (mv' 1) mh') aH (aY _)) (aa (ah (ac dJ (ac aE (mv' 2) mh') (aG b9 (by rfl) T.len fE (mc' (af (mv' 0) mh') mn'))))) aB)
   (aa (ah (mv' 2)))),?_⟩
 case ar=>rintro as Kc ⟨h,r,t,rfl,_⟩;rfl
 rintro as Kc hl ⟨h,r,t,rfl,ho,k⟩;have n1:=ho.n1;refine ak (MSt.mk [some (.imm (.tuple [.tuple [.int h.a,.int h.b],.tuple (h.ss.map Srv.d),.bool h.mv])),some (.imm r.d),some (.imm (.int (t:Int)))] [] 0) rfl ?_;walk_at"xs";refine Gc r.dc (bg (j:=0) rfl) ?_;walk_at"xs";refine aU (fun z=>?_) (fun z=>?_)
 .have hr:r = .turns:=by cases r<;>first|rfl|exact absurd z (by decide +kernel)|exact absurd (show("told" : Str) = "turns" from z) (by decide +kernel)
  subst hr;walk_at"xs";refine GV (by rw[oR];omega) ?_;rw[oR];exact k
 .walk_at"xs";have e:yn h r t=t:=by cases r<;>first|rfl|exact absurd rfl z
  rw[e]at k;exact k
theorem xi(T:Bl K mg)(D:DefM K mg "line_of" mJ ["hall","rule","stand","move"])(Gsent_to:FnM P w K mg base "sent_to" 3 4 ue):FnM P w K mg base "line_of" 4 4 uX:=by
 refine aP D yJ rfl (nN:=4) rfl (by decide) ?ar fun cdv A outer s H E f hr=>⟨_,(mz' (bo (aF (cg hr.units) (af (mv' 3) mh') aH (aY _)) (aa (ah (mf' Gsent_to (hr.mono (by decide)) (mc' (mv' 0) (mc' (mv' 1) (mc' (mv' 2) (mc' (af (mv' 3) mh') mn'))))))) aB)
   (mz' (bo (aF (cg hr.units) (af (mv' 3) mh') aH (aY _)) (aa (ah (af (mv' 3) mh'))) aB)
   (aa (ah sN)))),?_⟩
 case ar=>rintro as Kc ⟨h,r,l,t,mv,rfl,_⟩;rfl
 rintro as Kc hl ⟨h,r,l,t,mv,rfl,ho,hr0,hL,hm,k⟩
 cases mv with
 |come o =>
  refine ak (MSt.mk [some (.imm h.d),some (.imm r.d),some (.imm (stD l t)),some (.imm (.tuple [.str "come",lnD o]))] [] 0) rfl ?_;walk_at"xs";refine aU (fun _=>?_) (fun z=>(z rfl).elim);walk_at"xs";refine⟨h,r,l,t,o,rfl,ho,hr0,hL,hm,?_⟩;walk_at"xn";exact k
 |done j =>
  refine ak (MSt.mk [some (.imm h.d),some (.imm r.d),some (.imm (stD l t)),some (.imm (.tuple [.str "done",.int (j:Int)]))] [] 0) rfl ?_;walk_at"xs";refine aU (fun z=>absurd z (by decide +kernel)) (fun _=>?_);walk_at"xs";refine aU (fun _=>?_) (fun z=>(z rfl).elim);walk_at"xs";exact k
 |still =>
  refine ak (MSt.mk [some (.imm h.d),some (.imm r.d),some (.imm (stD l t)),some (.imm (.tuple [.str "still"]))] [] 0) rfl ?_;walk_at"xs";refine aU (fun z=>absurd z (by decide +kernel)) (fun _=>?_);walk_at"xs";refine aU (fun z=>absurd z (by decide +kernel)) (fun _=>?_);walk_at"xs";exact k
theorem vD(T:Bl K mg)(D:DefM K mg "moved_on" jZ ["hall","rule","stand","move"])(Gline_of:FnM P w K mg base "line_of" 4 4 uX)(Gcome_to:FnM P w K mg base "come_to" 2 3 Fg)(Gturn_behind:FnM P w K mg base "turn_behind" 1 3 zq)(Gdone_at:FnM P w K mg base "done_at" 2 2 FG)(Gsettled:FnM P w K mg base "settled" 2 2 pJ):FnM P w K mg base "moved_on" 5 4 nh:=by
 refine aP D bU rfl (nN:=8) rfl (by decide) ?ar fun cdv A outer s H E f hr=>⟨_,(mz' (cJ (mv' 2) (bj (n:=2) (ae (ai 4 bU.nd) (ae (ai 5 bU.nd) aK))))
   (mz' (au 6 bU.nd aH)
   (mz' (au 7 bU.nd (mf' Gline_of (hr.mono (by decide)) (mc' (mv' 0) (mc' (mv' 1) (mc' (mv' 2) (mc' (mv' 3) mn'))))))
   (mz' (bo (aF (cg hr.units) (af (mv' 3) mh') aH (aY _)) (mz' (cJ (mf' Gcome_to (hr.mono (by decide)) (mc' (mv' 0) (mc' (mv' 4) (mc' (mv' 7) mn')))) (bj (n:=2) (ae (ai 4 bU.nd) (ae (ai 6 bU.nd) aK))))
   (aa (au 5 bU.nd (mf' Gturn_behind (hr.mono (by decide)) (mc' (mv' 0) (mc' (mv' 1) (mc' (mv' 5) mn'))))))) (aa (bo (aF (cg hr.units) (af (mv' 3) mh') aH (aY _)) (aa (cJ (mf' Gdone_at (hr.mono (by decide)) (mc' (mv' 4) (mc' (mv' 7) mn'))) (bj (n:=2) (ae (ai 4 bU.nd) (ae (ai 6 bU.nd) aK))))) aB)))
   (aa (ah (ag (mc' (ag (mc' (mf' Gsettled (hr.mono (by decide)) (mc' (mv' 0) (mc' (mv' 4) mn'))) (mc' (mv' 5) mn'))) (mc' (mv' 6) mn'))))))))),?_⟩
 case ar=>rintro as Kc ⟨h,r,l,t,mv,rfl,_⟩;rfl
 rintro as Kc hl ⟨h,r,l,t,mv,rfl,ho,hr0,hL,hm,ht,k⟩;have hll:=hL.1;have n1:=ho.n1;have n4:=ho.n4;have ne:∀l':List Nat,l'.length=l.length->l'≠[]:=fun l' e z=>by rw[z]at e;simp at e;omega
 cases mv with
 |come o =>
  refine ak (MSt.mk [some (.imm h.d),some (.imm r.d),some (.imm (.tuple [lnD l,.int (t:Int)])),some (.imm (.tuple [.str "come",lnD o])),none,none,none,none] [] 0) rfl ?_;walk_at"xs"
  .rfl
  walk_at"xs";refine⟨h,r,l,t,.come o,rfl,ho,hr0,hL,hm,?_⟩;dsimp only[Bu];walk_at"xx";refine aU (fun _=>?_) (fun z=>(z rfl).elim);walk_at"xs";refine⟨h,l,sent h r l t o,rfl,ho,hL,rj ho hr0 hL hm ht,?_⟩;walk_at"xn";dsimp only[lwD];walk_at"xs"
  .rfl
  walk_at"xs";refine⟨h,r,t,rfl,ho,?_⟩;walk_at"xx";have hlen:(d7 h l (sent h r l t o)).1.length=l.length:=by unfold d7;split<;>simp
  refine⟨h,_,rfl,ne _ hlen,by omega,?_⟩;walk_at"xx";exact k
 |done j =>
  refine ak (MSt.mk [some (.imm h.d),some (.imm r.d),some (.imm (.tuple [lnD l,.int (t:Int)])),some (.imm (.tuple [.str "done",.int (j:Int)])),none,none,none,none] [] 0) rfl ?_;walk_at"xs"
  .rfl
  walk_at"xs";refine⟨h,r,l,t,.done j,rfl,ho,hr0,hL,hm,?_⟩;dsimp only[Bu];walk_at"xx";refine aU (fun z=>absurd z (by decide +kernel)) (fun _=>?_);walk_at"xs";refine aU (fun _=>?_) (fun z=>(z rfl).elim);walk_at"xs";refine⟨l,j,rfl,by rw[hll];exact hm,by omega,?_⟩;walk_at"xn";dsimp only[lwD];walk_at"xs"
  .rfl
  walk_at"xs";have hlen:(d6 l j).1.length=l.length:=by unfold d6;split<;>simp
  refine⟨h,_,rfl,ne _ hlen,by omega,?_⟩;walk_at"xx";exact k
 |still =>
  refine ak (MSt.mk [some (.imm h.d),some (.imm r.d),some (.imm (.tuple [lnD l,.int (t:Int)])),some (.imm (.tuple [.str "still"])),none,none,none,none] [] 0) rfl ?_;walk_at"xs"
  .rfl
  walk_at"xs";refine⟨h,r,l,t,.still,rfl,ho,hr0,hL,hm,?_⟩;dsimp only[Bu];walk_at"xx";refine aU (fun z=>absurd z (by decide +kernel)) (fun _=>?_);walk_at"xs";refine aU (fun z=>absurd z (by decide +kernel)) (fun _=>?_);walk_at"xs";refine⟨h,l,rfl,ne _ rfl,by omega,?_⟩;walk_at"xx";exact k
theorem lZ(T:Bl K mg)(D:DefM K mg "move_shares" dE ["hall"])(Gall_orders:FnM P w K mg base "all_orders" 1 1 D9)(Gdivided:FnM P w K mg base "divided" 3 2 K8)(Gtaken_off:FnM P w K mg base "taken_off" 3 2 NR):FnM P w K mg base "move_shares" 4 1 u6:=by
 refine aP D aW rfl (nN:=10) rfl (by decide) ?ar fun cdv A outer s H E f hr=>⟨_,(mz' (cJ (mv' 0) (bj (n:=3) (ae (ai 1 aW.nd) (ae (ai 2 aW.nd) (ae (ai 3 aW.nd) aK)))))
   (mz' (au 4 aW.nd (mf' Gall_orders (hr.mono (by decide)) (mc' (mv' 0) mn')))
   (mz' (dh (i:=5) aW.nd rfl (adu rfl) (mf' Gdivided (hr.mono (by decide)) (mc' (mv' 1) (mc' (ag (mc' (aG b9 (by rfl) T.len fE (mc' (mv' 4) mn')) (mc' mh' mn'))) mn'))))
   (mz' (qy (i:=6) (own:=["order"]) (fr:=["each"]) (ps:=[5]) (sc:=(ab dE)) (by exact⟨rfl,by decide +kernel,by decide +kernel,by decide +kernel,by decide +kernel⟩) aW.nd rfl rfl (bO (mv' 4)) (fun _ _ _ _ _=>(ai 0 (show abI ((["order"]:List Str)++(["each"]:List Str))from by decide +kernel))) (fun _ _ _ _ _=>cc) (fun _ _ _ _ _=>(ag (mc' (ag (mc' aH (mc' (mv' 0) mn'))) (mc' (mv' 1) mn')))))
   (mz' (au 7 aW.nd (mf' Gtaken_off (hr.mono (by decide)) (mc' (Iy T.c_WHOLE_TURN (by rfl)) (mc' (mv' 1) mn'))))
   (mz' (bC (Cv T.enumerate (mc' (mv' 2) mn')) (bj (n:=2) (ae (ai 8 aW.nd) (ae (ai 9 aW.nd) aK))) (mz' (fg (j4 acq acr d5 (mv' 6) (mc' (ag (mc' (ag (mc' aH (mc' (mv' 8) mn'))) (mc' (af (mv' 9) mh') mn'))) mn')))
   (aa (au 7 aW.nd (mf' Gtaken_off (hr.mono (by decide)) (mc' (mv' 7) (mc' (af (mv' 9) mh') mn')))))) aaN)
   (mz' (bo (aF vo (af (mv' 7) mh') mh' (aY _)) (aa (fg (j4 acq acr d5 (mv' 6) (mc' (ag (mc' (ag (mc' aH mn')) (mc' (mv' 7) mn'))) mn')))) aB)
   (aa (ah (mv' 6)))))))))),?_⟩
 case ar=>rintro as Kc ⟨h,rfl,_⟩;rfl
 rintro as Kc hl ⟨h,rfl,ho,k⟩;have a1:=ho.a1;have a2:=ho.a2;have b1:=ho.b1;have b2:=ho.b2;have n4:=ho.n4;have nO:=(de h.ss.length ho.n4 h.ss.length ho.n4).1;have pO:=cR h.ss.length ho.n4;refine ak (MSt.mk [some (.imm (.tuple [.tuple [.int h.a,.int h.b],.tuple (h.ss.map Srv.d),.bool h.mv])),none,none,none,none,none,none,none,none,none] [] 0) rfl ?_;walk_at"xs"
 .rfl
 walk_at"xs";refine⟨h,rfl,ho,?_⟩;walk_at"xn";refine cP ?_;walk_at"xx";refine⟨(h.a:Int),(h.b:Int),(((ordK h.ss.length h.ss.length).map lnD).length:Int),1,rfl,⟨by omega,by omega,by omega⟩,⟨by rw[oR];omega,by decide,by decide⟩,by rw[oR];omega,?_⟩;walk_at"xx";rw[oR];refine oi (fun i m=>∃a,m=MSt.mk [a,some (.imm (nf ((h.a:Int)*1) ((h.b:Int)*((ordK h.ss.length h.ss.length).length:Int))))] [(ordK h.ss.length h.ss.length).map lnD,(gQ h).take i] 2) ⟨none,rfl⟩ ?_ ?_ ?_
 .rintro i m ⟨a,rfl⟩;rfl
 .rintro i d m e hnp ⟨a,rfl⟩;obtain⟨o,eo,rfl,hi⟩:=gmap e;walk_at"xs";have ec:(gQ h)[i]?=some (.tuple [(Mv.come o).d,nf ((h.a:Int)*1) ((h.b:Int)*((ordK h.ss.length h.ss.length).length:Int))]):=by unfold gQ;rw[aak,eo];rfl
  refine⟨_,rfl,by rw[aaJ,aav];omega,some (.imm (lnD o)),?_⟩;rw[abt,ec];rfl
 .rintro m hnp ⟨a,rfl⟩;have ef:(gQ h).take ((ordK h.ss.length h.ss.length).map lnD).length=gQ h:=by
   have:((ordK h.ss.length h.ss.length).map lnD).length=(gQ h).length:=by unfold gQ;rw[oR,oR]
   rw[this];exact aag
  rw[ef];walk_at"xn";refine cP ?_;walk_at"xx";refine⟨1,1,(h.a:Int),(h.b:Int),rfl,⟨by decide,by decide,by decide⟩,⟨by omega,by omega,by omega⟩,?_⟩;walk_at"xn";refine fu ?_;walk_at"xx";refine⟨true,h.ss.map Srv.d,rfl,?_⟩;refine bJ (fun i m=>∃a b,m=MSt.mk [some (.imm (.tuple [.tuple [.int h.a,.int h.b],.tuple (h.ss.map Srv.d),.bool h.mv])),some (.imm (.tuple [.int h.a,.int h.b])),some (.imm (.tuple (h.ss.map Srv.d))),some (.imm (.bool h.mv)),some (.obj 0),some (.imm (nf ((h.a:Int)*1) ((h.b:Int)*((ordK h.ss.length h.ss.length).length:Int)))),some (.obj 1),some (.imm (rsD h i)),a,b] [(ordK h.ss.length h.ss.length).map lnD,gQ h++jn h i] 0) ⟨none,none,?_⟩ ?_ ?_
  .rw[show jn h 0=[]from rfl,aa5];rfl
  .rintro i d m e hnp ⟨a,b,rfl⟩;have hi:i<h.ss.length:=by
    have:=(aad.mp e).1;rw[dA,oR]at this;exact this
   have es:h.ss[i]?=some h.ss[i]:=Ge hi;have ed:d = .tuple [.int (i:Int),Srv.d h.ss[i]]:=by
    have:=oJ (ds:=h.ss.map Srv.d) (i:=i) (d:=Srv.d h.ss[i]) (by rw[aak,es];rfl);rw[this]at e;exact(aau e).symm
   subst ed;have so:=ho.ok h.ss[i] (abh _);have sa:=so.a2;have sb:=so.b2;have sb1:=so.b1;have rk:=md ho (k:=i) (by omega);have ln:(jn h i).length=i:=by unfold jn;rw[oR,aa3]
   have lc:(gQ h).length≤24:=by unfold gQ;rw[oR];exact nO
   generalize es':h.ss[i]=sv at *;obtain⟨va,vb,vr⟩:=sv;walk_at"xs"
   .rfl
   walk_at"xs";refine bc (ds:=[.tuple [.int (va:Int),.int (vb:Int)],.int (vr:Int)]) (bg (j:=0) rfl) ?_;walk_at"xs";refine⟨_,rfl,?_⟩;refine⟨by rw[aav,aap];omega,?_⟩;walk_at"xx";refine bc (ds:=[.tuple [.int (va:Int),.int (vb:Int)],.int (vr:Int)]) (bg (j:=0) rfl) ?_;walk_at"xs";refine⟨(restF h i).1,(restF h i).2,(va:Int),(vb:Int),rfl,rk,⟨by simp only at sa;omega,by simp only at sb;omega,by simp only at sb1;omega⟩,?_⟩;rw[<-DE (s:=⟨va,vb,vr⟩) es];walk_at"xn";refine fu ?_;walk_at"xn";refine⟨some (.imm (.int (i:Int))),some (.imm (Srv.d ⟨va,vb,vr⟩)),?_⟩;rw[v9,bm es,abX];rfl
  .rintro m hnp ⟨a,b,rfl⟩;rw[dA,oR];walk_at"xs";refine bc (ds:=[.int (restF h h.ss.length).1,.int (restF h h.ss.length).2]) (bg (j:=0) rfl) ?_;walk_at"xs";have ln:(jn h h.ss.length).length=h.ss.length:=by unfold jn;rw[oR,aa3]
   have lc:(gQ h).length≤24:=by unfold gQ;rw[oR];exact nO
   rw[KZ ho]at k;refine aU (fun z=>?_) (fun z=>?_)
   .rw[if_pos z]at k;walk_at"xs";refine⟨_,rfl,?_⟩;refine⟨by rw[aav,aap];omega,?_⟩;walk_at"xx";exact k
   .rw[if_neg z,aa5]at k;walk_at"xs";exact k
theorem jo(T:Bl K mg)(D:DefM K mg "weights_behind" dm ["hall","rule","weights"])(Gmove_shares:FnM P w K mg base "move_shares" 4 1 u6)(Gon_one_bottom:FnM P w K mg base "on_one_bottom" 2 1 uQ)(Gmoved_on:FnM P w K mg base "moved_on" 5 4 nh):FnM P w K mg base "weights_behind" 6 3 kr:=by
 refine aP D aC rfl (nN:=13) rfl (by decide) ?ar fun cdv A outer s H E f hr=>⟨_,(mz' (cJ (mf' Gon_one_bottom (hr.mono (by decide)) (mc' (ce (mf' Gmove_shares (hr.mono (by decide)) (mc' (mv' 0) mn'))) mn')) (bj (n:=2) (ae (ai 3 aC.nd) (ae (ai 4 aC.nd) aK))))
   (mz' (au 5 aC.nd mi)
   (mz' (au 6 aC.nd mi)
   (mz' (bC (qi (mv' 2)) (bj (n:=2) (ae (ai 7 aC.nd) (ae (ai 8 aC.nd) aK))) (aa (bC (bO (mv' 3)) (bj (n:=2) (ae (ai 9 aC.nd) (ae (ai 10 aC.nd) aK))) (mz' (cJ (mf' Gmoved_on (hr.mono (by decide)) (mc' (mv' 0) (mc' (mv' 1) (mc' (mv' 7) (mc' (mv' 9) mn'))))) (bj (n:=2) (ae (ai 11 aC.nd) (ae (ai 12 aC.nd) aK))))
   (mz' (pF hr.units (ac aE (fJ hr.units (mv' 5) (mc' (mv' 11) (mc' mh' mn'))) (ac aA (mv' 8) (mv' 10))) (mv' 5) (mv' 11))
   (aa (BI hr.units (ac aE (fJ hr.units (mv' 6) (mc' (mv' 12) (mc' mh' mn'))) (ac aA (mv' 8) (mv' 10))) (mv' 6) (mv' 12))))) aaN)) aaN)
   (aa (yV (F9 (ah (ag (mc' (mv' 5) (mc' (mv' 6) (mc' (mv' 4) mn')))))))))))),?_⟩
 case ar=>rintro as Kc ⟨h,r,W,rfl,_⟩;rfl
 rintro as Kc hl ⟨h,r,W,rfl,ho,hr0,hW,hWl,k⟩;have hB:=gG ho;obtain⟨mn,mo⟩:=C9 ho;refine ak (MSt.mk [some (.imm h.d),some (.imm r.d),some (.imm (wtD W)),none,none,none,none,none,none,none,none,none,none] [] 0) rfl ?_;walk_at"xs";refine⟨h,rfl,ho,?_⟩;walk_at"xx";refine⟨shrL h,_,rfl,hB,?_⟩;rw[Lg];walk_at"xx"
 .rfl
 walk_at"xs";refine xp (jy ?_);walk_at"xn";refine vz (y7 (xp (jy ?_)));walk_at"xn";refine vz ?_;walk_at"xs";refine z9 ?_;walk_at"xs";refine u7 (by rw[ya ho fun p hp=>(hW p hp).1,aez]) ?_;refine cX (fun i m=>∃a b c d e f:Option L2.R,m=MSt.mk [some (.imm h.d),some (.imm r.d),some (.imm (wtD W)),some (.imm (.list (msD (msL h)))),some (.imm (.int (botH h:Int))),some (.at 0 []),some (.at 1 []),a,b,c,d,e,f] [[.dict (lfKV (kvA ptD ((W.take i).foldl (goW h r (msL h)) ([],[])).1))],[.dict (lfKV (kvA wdD ((W.take i).foldl (goW h r (msL h)) ([],[])).2))]] 0/\GoOk h r (29*i) ((W.take i).foldl (goW h r (msL h)) ([],[]))) ⟨none,none,none,none,none,none,rfl,⟨fun _ hp=>(by cases hp),Io _,Io _⟩⟩ ?_ ?_
 .rintro i d m e hnp ⟨a1,a2,a3,a4,a5,a6,rfl,G0⟩ D1 hD1 hR1;obtain⟨pr,ep,rfl,hi⟩:∃pr:Pt×Int,W[i]?=some pr/\.tuple [ptD pr.1,.int pr.2]=d/\i<W.length:=by
   have e':(bG (kvA ptD W))[i]?=some d:=e;unfold bG kvA at e';rw[abe,aak]at e'
   cases q:W[i]? with
   |none=>rw[q]at e';cases e'
   |some pr =>
    rw[q]at e';exact⟨pr,rfl,aau e',(aad.mp q).1⟩
  obtain⟨⟨l,t⟩,wt⟩:=pr;obtain⟨hS,hwt⟩:=hW _ (aae ep);have efold:(W.take (i+1)).foldl (goW h r (msL h)) ([],[])=goW h r (msL h) ((W.take i).foldl (goW h r (msL h)) ([],[])) ((l,t),wt):=by
   rw[abt,ep,adL];rfl
  generalize hx0:(W.take i).foldl (goW h r (msL h)) ([],[])=x0 at *;walk_at"xs"
  .rfl
  walk_at"xs";refine cX (fun j m=>∃c d e f:Option L2.R,m=MSt.mk [some (.imm h.d),some (.imm r.d),some (.imm (wtD W)),some (.imm (.list (msD (msL h)))),some (.imm (.int (botH h:Int))),some (.at 0 []),some (.at 1 []),some (.imm (ptD (l,t))),some (.imm (.int wt)),c,d,e,f] [[.dict (lfKV (kvA ptD (((msL h).take j).foldl (fun x q=>goW1 h r (l,t) wt q x) x0).1))],[.dict (lfKV (kvA wdD (((msL h).take j).foldl (fun x q=>goW1 h r (l,t) wt q x) x0).2))]] 0/\GoOk h r (29*i+j) (((msL h).take j).foldl (fun x q=>goW1 h r (l,t) wt q x) x0)) ⟨a3,a4,a5,a6,rfl,G0⟩ ?_ ?_
  .rintro j d m ej hnj ⟨b3,b4,b5,b6,rfl,G1⟩ D2 hD2 hR2;obtain⟨q,eq,rfl,hj⟩:=gmap ej;have hq:=mo q (aae eq);have efold1:((msL h).take (j+1)).foldl (fun x q=>goW1 h r (l,t) wt q x) x0=goW1 h r (l,t) wt q (((msL h).take j).foldl (fun x q=>goW1 h r (l,t) wt q x) x0):=by
    rw[abt,eq,adL];rfl
   have G2:=G1.next ho hr0 hS wt hq.1;rw[efold1]at hD2;generalize ((msL h).take j).foldl (fun x q=>goW1 h r (l,t) wt q x) x0=x1 at *;walk_at"xs"
   .rfl
   walk_at"xs";refine⟨h,r,l,t,q.1,rfl,ho,hr0,hS.ln,hq.1,hS.tn,?_⟩;walk_at"xn";rw[show mvD (bR h r l t q.1) = .tuple [ptD ((bR h r l t q.1).1,(bR h r l t q.1).2.1),wdD (bR h r l t q.1).2.2]from rfl];unfold goW1 at G2 hD2;have hS2:=h7 ho hr0 hS hq.1;generalize bR h r l t q.1=mm at *;obtain⟨l2,t2,wd⟩:=mm;dsimp only at hS2 G2 hD2⊢;walk_at"xs"
   .rfl
   walk_at"xs";refine yY ?_;walk_at"xs";walk_at"xn";have kyS:=ya ho G1.st;have ky2:=qW ho hS2;have m1:=G1.n1;have m2:=G1.n2;refine kl ?_;walk_at"xs";refine⟨kvA ptD x1.1,⟨rfl,rfl⟩,.inr kyS,?_⟩;walk_at"xs";refine⟨kvA ptD x1.1,ptD (l2,t2),.int 0,rfl,⟨rfl,rfl⟩,by unfold oneK;rw[kyS,show kyD (ptD (l2,t2))=true from ky2,Bool.and_true,aez],?_⟩;rw[kI kQ];walk_at"xs";refine bH (cE hwt hq.2) ?_;walk_at"xs";refine⟨rfl,kvA ptD x1.1,rfl,kyS,ky2,by unfold kvA;rw[oR,aav];omega,?_⟩;rw[zl kQ];walk_at"xx";refine kl ?_;walk_at"xs";refine⟨kvA wdD x1.2,⟨rfl,rfl⟩,.inl (fm _),?_⟩;walk_at"xs";refine⟨kvA wdD x1.2,wdD wd,.int 0,rfl,⟨rfl,rfl⟩,by unfold oneK;rw[fm];rfl,?_⟩;rw[kI (enc:=wdD) ux];walk_at"xs";refine bH (cE hwt hq.2) ?_;walk_at"xs";refine ud (x:=wd.s) ?_;refine⟨_,lfKV (kvA wdD x1.2),rfl,rfl,by rw[j7];exact fm _,rfl,by unfold lfKV kvA;rw[oR,oR,aav];omega,?_⟩;rw[show afv wd.s=wdD wd from rfl,xW (by rfl) (fm _),zl (enc:=wdD) ux];exact hD2 _ ⟨some (.imm q.1.d),some (.imm (.int q.2)),some (.imm (ptD (l2,t2))),some (.imm (wdD wd)),rfl,G2⟩
  .rintro m hnj ⟨b3,b4,b5,b6,rfl,G1⟩;have el:(msD (msL h)).length=(msL h).length:=by unfold msD;rw[oR]
   have ef:(msL h).take (msD (msL h)).length=msL h:=by rw[el];exact aag
   rw[ef]at G1;rw[ef];refine hD1 _ (show ∃a b c d e f:Option L2.R,_ from⟨some (.imm (ptD (l,t))),some (.imm (.int wt)),b3,b4,b5,b6,?_,?_⟩)
   .rw[efold];rfl
   .rw[efold];refine⟨G1.st,aaz G1.n1 ?_,aaz G1.n2 ?_⟩<;>rw[el]<;>omega
 .rintro m hnp ⟨a1,a2,a3,a4,a5,a6,rfl,G0⟩;have eW:W.take (bG (kvA ptD W)).length=W:=by unfold bG kvA;rw[oR,oR];exact aag
  rw[eW];rw[eW]at G0;refine P8 0 5 (kvA ptD (W.foldl (goW h r (msL h)) ([],[])).1) [1] (MSt.mk [some (.imm h.d),some (.imm r.d),some (.imm (wtD W)),some (.imm (.list (msD (msL h)))),some (.imm (.int (botH h:Int))),some (.imm (wtD (W.foldl (goW h r (msL h)) ([],[])).1)),some (.at 0 []),none,none,none,none,none,none] [[.dict (lfKV (kvA wdD (W.foldl (goW h r (msL h)) ([],[])).2))]] 0) rfl rfl (ya ho G0.st) ?_ ?_
  .exact GI rfl rfl rfl rfl rfl rfl rfl rfl ⟨.inl rfl,.inl rfl,.inl rfl,.inl rfl,.inl rfl,.inr ⟨rfl,.inr rfl⟩,.inl ⟨1,rfl,rfl⟩,.inl trivial,.inl trivial,.inl trivial,.inl trivial,.inl trivial,.inl trivial,trivial⟩
  refine Ql 0 6 (kvA wdD (W.foldl (goW h r (msL h)) ([],[])).2) [] (MSt.mk [some (.imm h.d),some (.imm r.d),some (.imm (wtD W)),some (.imm (.list (msD (msL h)))),some (.imm (.int (botH h:Int))),some (.imm (wtD (W.foldl (goW h r (msL h)) ([],[])).1)),some (.imm (.dict (kvA wdD (W.foldl (goW h r (msL h)) ([],[])).2))),none,none,none,none,none,none] [] 0) rfl rfl (by rw[j7];exact fm _) ?_ ?_
  .exact GI rfl rfl rfl rfl rfl rfl rfl rfl ⟨.inl rfl,.inl rfl,.inl rfl,.inl rfl,.inl rfl,.inl rfl,.inr ⟨rfl,.inr rfl⟩,.inl trivial,.inl trivial,.inl trivial,.inl trivial,.inl trivial,.inl trivial,trivial⟩
  walk_at"xs";exact k
theorem ol(T:Bl K mg)(D:DefM K mg "told_shares" dB ["weights","whole"])(Gfraction_of:FnM P w K mg base "fraction_of" 2 2 xG):FnM P w K mg base "told_shares" 3 2 Fu:=by
 refine aP D oz rfl (nN:=2) rfl (by decide) ?ar fun cdv A outer s H E f hr=>⟨_,(aa (ah (cw cp (by rfl) T.tuple fq (mc' (ci (own:=["stand","weight"]) (fr:=["whole"]) (ps:=[1]) (sc:=(ab dB)) (by exact⟨rfl,by decide +kernel,by decide +kernel,by decide +kernel,by decide +kernel⟩) (bO (ce (oQ hr.units T.sorted (mv' 0)))) (fun _ _ _ _ _=>(bj (n:=2) (ae (ai 0 (show abI ((["stand","weight"]:List Str)++(["whole"]:List Str))from by decide +kernel)) (ae (ai 1 (show abI ((["stand","weight"]:List Str)++(["whole"]:List Str))from by decide +kernel)) aK)))) (fun _ _ _ _ _=>cc) (fun _ _ _ _ _=>(ag (mc' (mv' 0) (mc' (mf' Gfraction_of (hr.mono (by decide)) (mc' (mv' 1) (mc' (mv' 2) mn'))) mn'))))) mn')))),?_⟩
 case ar=>rintro as Kc ⟨h,r,W,D,rfl,_⟩;rfl
 rintro as Kc hl ⟨h,r,W,D,rfl,ho,X,d0,d1,k⟩;refine ak (MSt.mk [some (.imm (wtD W)),some (.imm (.int (D:Int)))] [] 0) rfl ?_;walk_at"xs";refine vh ?_;walk_at"xs";have E:=KU ho X;refine u7 (by rw[ya ho X.st,aez]) ?_;rw[Bc];refine⟨E.srt X,fun ds' p o=>?_⟩;obtain⟨W',s,rfl⟩:=E.srd X p o;have ln:W'.length<64:=by rw[s.p.length_eq];exact X.n
 walk_at"xs";walk_at"xn";refine bJ (fun i m=>∃a b:Option L2.R,m=MSt.mk [a,b,some (.imm (.int (D:Int)))] [(W'.take i).map fun q=>.tuple [ptD q.1,nf q.2 (D:Int)]] 1) ⟨none,none,rfl⟩ ?_ ?_
 .rintro i d m e hnp ⟨a,b,rfl⟩;obtain⟨q,eq,rfl,hi⟩:=gmap e;have mq:=s.p.mem_iff.mp (aae eq);show Cr 2 _ (.tuple [ptD q.1,.int q.2]) _ _;walk_at"xs"
  .rfl
  walk_at"xs";refine⟨q.2,(D:Int),rfl,by omega,aaE (X.v q mq) (by decide),by rw[aaq];exact aaE d1 (by decide),?_⟩;walk_at"xx";refine⟨_,rfl,by rw[aav,oR,aaJ];omega,some (.imm (ptD q.1)),some (.imm (.int q.2)),?_⟩;rw[abA,eq,aaG];rfl
 .rintro m hnp ⟨a,b,rfl⟩;rw[oR,aag];walk_at"xs";exact k W' s
theorem jX(T:Bl K mg)(D:DefM K mg "left_by_turns" d3 ["hall","rule","turns"])(Gfirst_stand:FnM P w K mg base "first_stand" 1 1 jT)(Gweights_behind:FnM P w K mg base "weights_behind" 6 3 kr)(Gtold_shares:FnM P w K mg base "told_shares" 3 2 Fu):FnM P w K mg base "left_by_turns" 7 3 y3:=by
 refine aP D bi rfl (nN:=8) rfl (by decide) ?ar fun cdv A outer s H E f hr=>⟨_,(mz' (au 3 bi.nd (oN hr.units (mf' Gfirst_stand (hr.mono (by decide)) (mc' (mv' 0) mn')) mh'))
   (mz' (au 4 bi.nd mh')
   (mz' (bC (bw (by rfl) T.range (mc' (mv' 2) mn')) (ai 5 bi.nd) (mz' (cJ (mf' Gweights_behind (hr.mono (by decide)) (mc' (mv' 0) (mc' (mv' 1) (mc' (mv' 3) mn')))) (bj (n:=3) (ae (ai 3 bi.nd) (ae (ai 6 bi.nd) (ae (ai 7 bi.nd) aK)))))
   (aa (au 4 bi.nd (ac aA (mv' 4) (mv' 7))))) aaN)
   (aa (ah (mf' Gtold_shares (hr.mono (by decide)) (mc' (mv' 3) (mc' (mv' 4) mn')))))))),?_⟩
 case ar=>rintro as Kc ⟨h,r,n,rfl,_⟩;rfl
 rintro as Kc hl ⟨h,r,n,rfl,hD,X,k⟩;have ho:=hD.ho;have hr0:=hD.hr;have hn:=hD.le;have hM:=Oo ho hr0 hD.h0 (by omega) (aaE hD.b (by decide));refine ak (MSt.mk [some (.imm h.d),some (.imm r.d),some (.imm (.int (n:Int))),none,none,none,none,none] [] 0) rfl ?_;walk_at"xs";refine yT ?_;walk_at"xs";refine⟨h,rfl,ho,?_⟩;walk_at"xx";refine⟨qW ho (dI ho r),?_⟩;walk_at"xs";refine⟨by omega,by omega,?_⟩;rw[show((n:Int)).toNat=n by omega];have bL:botH h<10^76:=by have:=(gG ho).pre (shrL h).length;rw[aag]at this;exact this.2
 have up:∀{z:Nat},z<10^90->z<10^160:=fun hz=>aaE hz (by decide);refine cX (fun i m=>∃a b c:Option L2.R,m=MSt.mk [some (.imm h.d),some (.imm r.d),some (.imm (.int (n:Int))),some (.imm (wtD (stW h r i))),some (.imm (.int ((botH h^i:Nat):Int))),a,b,c] [] 0) ⟨none,none,none,rfl⟩ ?_ ?_
 .rintro i d m e hnp ⟨a,b,c,rfl⟩ D1 hD1 hR1;obtain⟨hi,rfl⟩:=bQ e;walk_at"xs";refine⟨h,r,stW h r i,rfl,ho,hr0,fun p hp=>⟨f8 ho hr0 i p hp,up (hM.w i (by omega) p hp)⟩,hM.l i (by omega),?_⟩;walk_at"xx"
  .rfl
  walk_at"xs";walk_at"xn";have bb:((botH h:Nat):Int).natAbs<10^160:=by rw[aaq];exact up45 bL
  refine bH (cE (by rw[aaq];exact up (hM.b i (by omega))) bb) ?_;walk_at"xs";rw[<-aaI,<-acI];exact hD1 _ ⟨_,_,_,rfl⟩
 .rintro m hnp ⟨a,b,c,rfl⟩;rw[aw];walk_at"xs";have bp:0<botH h^n:=ah1 (kO ho);refine⟨h,r,stW h r n,botH h^n,rfl,ho,X,bp,aaE hD.b (by decide),fun W' s=>?_⟩;walk_at"xx";exact k W' s
theorem wm(T:Bl K mg)(D:DefM K mg "means_of" ib ["hall","rule","turns"])(Gfirst_stand:FnM P w K mg base "first_stand" 1 1 jT)(Gweights_behind:FnM P w K mg base "weights_behind" 6 3 kr)(Gfraction_of:FnM P w K mg base "fraction_of" 2 2 xG):FnM P w K mg base "means_of" 7 3 yc:=by
 refine aP D bq rfl (nN:=11) rfl (by decide) ?ar fun cdv A outer s H E f hr=>⟨_,(mz' (au 3 bq.nd (oN hr.units (mf' Gfirst_stand (hr.mono (by decide)) (mc' (mv' 0) mn')) mh'))
   (mz' (au 4 bq.nd mh')
   (mz' (au 5 bq.nd mh')
   (mz' (au 6 bq.nd mh')
   (mz' (bC (bw (by rfl) T.range (mc' (mv' 2) mn')) (ai 7 bq.nd) (mz' (cJ (mf' Gweights_behind (hr.mono (by decide)) (mc' (mv' 0) (mc' (mv' 1) (mc' (mv' 3) mn')))) (bj (n:=3) (ae (ai 3 bq.nd) (ae (ai 8 bq.nd) (ae (ai 9 bq.nd) aK)))))
   (mz' (au 5 bq.nd (ac aE (ac aA (mv' 5) (mv' 9)) (fJ hr.units (mv' 8) (mc' aH (mc' mh' mn')))))
   (mz' (au 6 bq.nd (ac aE (ac aA (mv' 6) (mv' 9)) (fJ hr.units (mv' 8) (mc' aH (mc' mh' mn')))))
   (aa (au 4 bq.nd (ac aA (mv' 4) (mv' 9))))))) aaN)
   (mz' (au 10 bq.nd (aG (wG rfl) (by rfl) T.sum u9 (mc' (ci (own:=["stand","weight"]) (fr:=[]) (ps:=[]) (sc:=(ab ib)) (by exact⟨rfl,by decide +kernel,by decide +kernel,by decide +kernel,by decide +kernel⟩) (qi (mv' 3)) (fun _ _ _ _ _=>(bj (n:=2) (ae (ai 0 (show abI ((["stand","weight"]:List Str)++([]:List Str))from by decide +kernel)) (ae (ai 1 (show abI ((["stand","weight"]:List Str)++([]:List Str))from by decide +kernel)) aK)))) (fun _ _ _ _ _=>cc) (fun _ _ _ _ _=>(ac aA (mv' 1) (aG (iL rfl) (by rfl) T.sum u9 (mc' (af (mv' 0) mh') mn'))))) mn')))
   (aa (ah (ag (mc' (mf' Gfraction_of (hr.mono (by decide)) (mc' (mv' 10) (mc' (mv' 4) mn'))) (mc' (mf' Gfraction_of (hr.mono (by decide)) (mc' (mv' 5) (mc' (mv' 4) mn'))) (mc' (mf' Gfraction_of (hr.mono (by decide)) (mc' (mv' 6) (mc' (mv' 4) mn'))) mn')))))))))))),?_⟩
 case ar=>rintro as Kc ⟨h,r,n,rfl,_⟩;rfl
 rintro as Kc hl ⟨h,r,n,rfl,ho,hr0,hM,hn,k⟩;refine ak (MSt.mk [some (.imm h.d),some (.imm r.d),some (.imm (.int (n:Int))),none,none,none,none,none,none,none,none] [] 0) rfl ?_;walk_at"xs";refine yT ?_;walk_at"xs";refine⟨h,rfl,ho,?_⟩;walk_at"xx";refine⟨qW ho (dI ho r),?_⟩;walk_at"xs";refine⟨by omega,by omega,?_⟩;rw[show((n:Int)).toNat=n by omega];have bL:botH h<10^76:=by have:=(gG ho).pre (shrL h).length;rw[aag]at this;exact this.2
 have up:∀{z:Nat},z<10^90->z<10^160:=fun hz=>aaE hz (by decide);refine bJ (fun i m=>∃a b c:Option L2.R,m=MSt.mk [some (.imm h.d),some (.imm r.d),some (.imm (.int (n:Int))),some (.imm (wtD (stW h r i))),some (.imm (.int ((botH h^i:Nat):Int))),some (.imm (.int (cntW h r .served i))),some (.imm (.int (cntW h r .away i))),a,b,c,none] [] 0) ⟨none,none,none,rfl⟩ ?_ ?_
 .rintro i d m e hnp ⟨a,b,c,rfl⟩;obtain⟨hi,rfl⟩:=bQ e;walk_at"xs";refine⟨h,r,stW h r i,rfl,ho,hr0,fun p hp=>⟨f8 ho hr0 i p hp,up (hM.w i (by omega) p hp)⟩,hM.l i (by omega),?_⟩;walk_at"xx"
  .rfl
  walk_at"xs";walk_at"xn";have bb:((botH h:Nat):Int).natAbs<10^160:=by rw[aaq];exact up45 bL
  refine bH (cE (up (hM.s .served i (by omega))) bb) ?_;walk_at"xs";refine kl ?_;walk_at"xs";refine⟨kvA wdD (wdW h r i),rfl,.inl (fm _),?_⟩;walk_at"xs";refine⟨kvA wdD (wdW h r i),.str "served",.int 0,rfl,rfl,by unfold oneK;rw[fm];rfl,?_⟩;rw[show afv "served" = wdD .served from rfl,kI (enc:=wdD) ux];walk_at"xs";walk_at"xn";refine bH (cE (up (hM.s .away i (by omega))) bb) ?_;walk_at"xs";refine kl ?_;walk_at"xs";refine⟨kvA wdD (wdW h r i),rfl,.inl (fm _),?_⟩;walk_at"xs";refine⟨kvA wdD (wdW h r i),.str "away",.int 0,rfl,rfl,by unfold oneK;rw[fm];rfl,?_⟩;rw[show afv "away" = wdD .away from rfl,kI (enc:=wdD) ux];walk_at"xs";walk_at"xn";refine bH (cE (by rw[aaq];exact up (hM.b i (by omega))) bb) ?_;walk_at"xs";rw[<-aaI,<-acI];exact⟨_,_,_,rfl⟩
 .rintro m hnp ⟨a,b,c,rfl⟩;rw[aw];walk_at"xs";refine z9 ?_;walk_at"xs";refine u7 (by rw[ya ho (f8 ho hr0 n),aez]) ?_;refine bJ (fun i m=>∃a b:Option L2.R,m=MSt.mk [a,b] [(((stW h r n).take i).map fun p=>p.2*(p.1.1.sum:Int)).map .int] 1) ⟨none,none,rfl⟩ ?_ ?_
  .rintro i d m e hnp ⟨a,b,rfl⟩;obtain⟨⟨⟨l,t⟩,wt⟩,ep,rfl,hi⟩:=CQ e;have hS:=f8 ho hr0 n _ (aae ep);have hw:=hM.w n (Io _) _ (aae ep);have hle:=hM.l n (Io _);walk_at"xs"
   .rfl
   walk_at"xs";refine bc (ds:=[lnD l,.int (t:Int)]) (bg (j:=0) rfl) ?_;walk_at"xs";have l24:=ii ho hS.ln;refine zk rfl (me l) ?_;rw[l9];refine bH (cE (up hw) (by rw[aaq];exact aaF l24 (by decide))) ?_;walk_at"xs";refine⟨_,rfl,by rw[oR,oR,aaJ,aav];omega,some (.imm (ptD (l,t))),some (.imm (.int wt)),?_⟩;rw[abt,ep,aaG,aaG];rfl
  .rintro m hnp ⟨a,b,rfl⟩;rw[Dg,aag];walk_at"xx";have bn:((botH h^n:Nat):Int)≠0:=by
    have:0<botH h^n:=ah1 (by have:=(gG ho).pre (shrL h).length;rw[aag]at this;exact this.1);omega
   have bB:((botH h^n:Nat):Int).natAbs<10^160:=by rw[aaq];exact up (hM.b n (Io _))
   refine⟨_,_,rfl,fi _,?_⟩;refine fu ?_;walk_at"xx";refine⟨_,_,rfl,bn,IX ho hr0 hM,bB,?_⟩;walk_at"xx";refine⟨_,_,rfl,bn,up (hM.s .served n (Io _)),bB,?_⟩;walk_at"xx";refine⟨_,_,rfl,bn,up (hM.s .away n (Io _)),bB,?_⟩;walk_at"xx";exact k
theorem kh(T:Bl K mg)(D:DefM K mg "counts_behind" d4 ["counts","word"]):FnM P w K mg base "counts_behind" 1 2 Ki:=by
 refine aP D bX rfl (nN:=6) rfl (by decide) ?ar fun cdv A outer s H E f hr=>⟨_,(mz' (cJ (mv' 0) (bj (n:=4) (ae (ai 2 bX.nd) (ae (ai 3 bX.nd) (ae (ai 4 bX.nd) (ae (ai 5 bX.nd) aK))))))
   (mz' (bo (aF (cg hr.units) (mv' 1) aH (aY _)) (aa (ah (ag (mc' (ac aE (mv' 2) mh') (mc' (ac aE (mv' 3) mh') (mc' (mv' 4) (mc' (mv' 5) mn'))))))) aB)
   (mz' (bo (aF (cg hr.units) (mv' 1) aH (aY _)) (aa (ah (ag (mc' (ac aE (mv' 2) mh') (mc' (mv' 3) (mc' (ac aE (mv' 4) mh') (mc' (mv' 5) mn'))))))) aB)
   (mz' (bo (aF (cg hr.units) (mv' 1) aH (aY _)) (aa (ah (ag (mc' (mv' 2) (mc' (mv' 3) (mc' (mv' 4) (mc' (ac aE (mv' 5) mh') mn'))))))) aB)
   (aa (ah (mv' 0))))))),?_⟩
 case ar=>rintro as Kc ⟨x,w,rfl,_⟩;rfl
 rintro as Kc hl ⟨x,w,rfl,k⟩
 cases w with
 |taken =>
  refine ak (MSt.mk [some (.imm (.tuple [.int (x.c:Int),.int (x.t:Int),.int (x.a:Int),.int (x.s:Int)])),some (.imm (.str "taken")),none,none,none,none] [] 0) rfl ?_;walk_at"xs"
  .rfl
  walk_at"xs";refine aU (fun _=>?_) (fun z=>(z rfl).elim);walk_at"xs";exact k
 |away =>
  refine ak (MSt.mk [some (.imm (.tuple [.int (x.c:Int),.int (x.t:Int),.int (x.a:Int),.int (x.s:Int)])),some (.imm (.str "away")),none,none,none,none] [] 0) rfl ?_;walk_at"xs"
  .rfl
  walk_at"xs";refine aU (fun z=>absurd z (by decide +kernel)) (fun _=>?_);walk_at"xs";refine aU (fun _=>?_) (fun z=>(z rfl).elim);walk_at"xs";exact k
 |served =>
  refine ak (MSt.mk [some (.imm (.tuple [.int (x.c:Int),.int (x.t:Int),.int (x.a:Int),.int (x.s:Int)])),some (.imm (.str "served")),none,none,none,none] [] 0) rfl ?_;walk_at"xs"
  .rfl
  walk_at"xs";refine aU (fun z=>absurd z (by decide +kernel)) (fun _=>?_);walk_at"xs";refine aU (fun z=>absurd z (by decide +kernel)) (fun _=>?_);walk_at"xs";refine aU (fun _=>?_) (fun z=>(z rfl).elim);walk_at"xs";exact k
 |none =>
  refine ak (MSt.mk [some (.imm (.tuple [.int (x.c:Int),.int (x.t:Int),.int (x.a:Int),.int (x.s:Int)])),some (.imm (.str "none")),none,none,none,none] [] 0) rfl ?_;walk_at"xs"
  .rfl
  walk_at"xs";refine aU (fun z=>absurd z (by decide +kernel)) (fun _=>?_);walk_at"xs";refine aU (fun z=>absurd z (by decide +kernel)) (fun _=>?_);walk_at"xs";refine aU (fun z=>absurd z (by decide +kernel)) (fun _=>?_);walk_at"xs";exact k
theorem AM(T:Bl K mg)(D:DefM K mg "walked" rJ ["hall","rule","run"])(Gfirst_stand:FnM P w K mg base "first_stand" 1 1 jT)(Gmoved_on:FnM P w K mg base "moved_on" 5 4 nh):FnM P w K mg base "walked" 6 3 vf:=by
 refine aP D mr rfl (nN:=5) rfl (by decide) ?ar fun cdv A outer s H E f hr=>⟨_,(mz' (au 3 mr.nd (bV (mc' (mf' Gfirst_stand (hr.mono (by decide)) (mc' (mv' 0) mn')) mn')))
   (mz' (bC (bO (mv' 2)) (ai 4 mr.nd) (aa (fg (j4 acq acr d5 (mv' 3) (mc' (af (mf' Gmoved_on (hr.mono (by decide)) (mc' (mv' 0) (mc' (mv' 1) (mc' (af (mv' 3) (iw fw mh')) (mc' (mv' 4) mn'))))) mh') mn')))) aaN)
   (aa (ah (cw cp (by rfl) T.tuple fq (mc' (mv' 3) mn')))))),?_⟩
 case ar=>rintro as Kc ⟨h,r,R,rfl,_⟩;rfl
 rintro as Kc hl ⟨h,r,R,rfl,ho,hr0,hR,hlen,k⟩;refine ak (MSt.mk [some (.imm h.d),some (.imm r.d),some (.imm (runD R)),none,none] [] 0) rfl ?_;walk_at"xs";refine⟨h,rfl,ho,?_⟩;walk_at"xx";refine cP ?_;walk_at"xx";refine bJ (fun i m=>∃(S:List (List Nat×Nat)) (p:List Nat×Nat) (a:Option L2.R),m=MSt.mk [some (.imm h.d),some (.imm r.d),some (.imm (runD R)),some (.obj 0),a] [(S.map fun p=>stD p.1 p.2)++[stD p.1 p.2]] 0/\St h r p.1 p.2/\S.length=i/\S++iU h r p (R.drop i)=iU h r (zer h,0) R) ⟨[],(zer h,0),none,rfl,dI ho r,rfl,rfl⟩ ?_ ?_
 .rintro i d m e n ⟨S,p,a,rfl,hS,hi2,hc⟩;obtain⟨mv,emv,rfl,hi⟩:=gmap e;have hm:=hR mv (aae emv);have hiR:=(aad.mp emv).1;walk_at"xs";refine' tf (ds:=(S.map fun p=>stD p.1 p.2)++[stD p.1 p.2]) ?ea (vc _ _) ?_
  case ea=>rfl
  walk_at"xs";refine⟨h,r,p.1,p.2,mv,rfl,ho,hr0,hS.ln,hm,hS.tn,?_⟩;walk_at"xn";dsimp only[mvD];walk_at"xs";refine' Df (ds:=(S.map fun p=>stD p.1 p.2)++[stD p.1 p.2]) ?eb (by rw[aav,aap,oR,agE];omega) ?_
  case eb=>rfl
  refine⟨S++[p],((bR h r p.1 p.2 mv).1,(bR h r p.1 p.2 mv).2.1),some (.imm mv.d),?_,h7 ho hr0 hS hm,by rw[aap,hi2];rfl,?_⟩
  .rw[aaG];rfl
  .rw[<-hc,qR emv,abX];rfl
 rintro m n ⟨S,p,a,rfl,hS,hi2,hc⟩;rw[oR,af0]at hc;rw[<-hc,aaG]at k;walk_at"xs";exact k
theorem yv(T:Bl K mg)(D:DefM K mg "counted" mI ["hall","rule","run"])(Gfirst_stand:FnM P w K mg base "first_stand" 1 1 jT)(Gmoved_on:FnM P w K mg base "moved_on" 5 4 nh)(Gcounts_behind:FnM P w K mg base "counts_behind" 1 2 Ki):FnM P w K mg base "counted" 6 3 o9:=by
 refine aP D dj rfl (nN:=7) rfl (by decide) ?ar fun cdv A outer s H E f hr=>⟨_,(mz' (au 3 dj.nd (mf' Gfirst_stand (hr.mono (by decide)) (mc' (mv' 0) mn')))
   (mz' (au 4 dj.nd (ag (mc' mh' (mc' mh' (mc' mh' (mc' mh' mn'))))))
   (mz' (bC (bO (mv' 2)) (ai 5 dj.nd) (mz' (cJ (mf' Gmoved_on (hr.mono (by decide)) (mc' (mv' 0) (mc' (mv' 1) (mc' (mv' 3) (mc' (mv' 5) mn'))))) (bj (n:=2) (ae (ai 3 dj.nd) (ae (ai 6 dj.nd) aK))))
   (aa (au 4 dj.nd (mf' Gcounts_behind (hr.mono (by decide)) (mc' (mv' 4) (mc' (mv' 6) mn')))))) aaN)
   (aa (ah (mv' 4)))))),?_⟩
 case ar=>rintro as Kc ⟨h,r,R,rfl,_⟩;rfl
 rintro as Kc hl ⟨h,r,R,rfl,ho,hr0,hR,k⟩;refine ak (MSt.mk [some (.imm h.d),some (.imm r.d),some (.imm (runD R)),none,none,none,none] [] 0) rfl ?_;walk_at"xs";refine⟨h,rfl,ho,?_⟩;walk_at"xx";refine bJ (fun i m=>∃(p:List Nat×Nat) (c:Cn) (a b:Option L2.R),m=MSt.mk [some (.imm h.d),some (.imm r.d),some (.imm (runD R)),some (.imm (stD p.1 p.2)),some (.imm c.d),a,b] [] 0/\St h r p.1 p.2/\cy h r p c (R.drop i)=cy h r (zer h,0) ⟨0,0,0,0⟩ R) ⟨(zer h,0),⟨0,0,0,0⟩,none,none,rfl,dI ho r,rfl⟩ ?_ ?_
 .rintro i d m e n ⟨p,c,a,b,rfl,S,hc⟩;obtain⟨mv,emv,rfl,hi⟩:=gmap e;have hm:=hR mv (aae emv);walk_at"xs";refine⟨h,r,p.1,p.2,mv,rfl,ho,hr0,S.ln,hm,S.tn,?_⟩;walk_at"xn";dsimp only[mvD];walk_at"xs"
  .rfl
  walk_at"xs";refine⟨c,(bR h r p.1 p.2 mv).2.2,rfl,?_⟩;walk_at"xx";refine⟨((bR h r p.1 p.2 mv).1,(bR h r p.1 p.2 mv).2.1),_,_,_,rfl,h7 ho hr0 S hm,?_⟩;rw[<-hc,qR emv];rfl
 rintro m n ⟨p,c,a,b,rfl,S,hc⟩;rw[oR,af0]at hc;walk_at"xs";rw[<-hc]at k;exact k
theorem sD(T:Bl K mg)(D:DefM K mg "_law_feed" i9 ["_law_script"]):FnM P w K mg base "_law_feed" 1 1 FX:=by
 refine aP D sJ rfl (nN:=1) rfl (by decide) ?ar fun cdv A outer s H E f hr=>⟨_,(aa (ah (bV (mc' (ce (cw vJ (by rfl) T.list GW (mc' (cW fX (mv' 0) dH (dG mh')) mn'))) (mc' mh' (mc' mh' (mc' mh' mn'))))))),?_⟩
 case ar=>rintro as Kc ⟨ns,rfl,_⟩;rfl
 rintro as Kc hl ⟨ns,rfl,hn,k⟩;refine ak (MSt.mk [some (.imm (.list (ns.map .int)))] [] 0) rfl ?_;walk_at"xs";have e:cutD (ns.map abN) none (some 63)=ns.map .int:=AH (n:=63) (by rw[oR];exact hn);rw[e];exact k _ ⟨ns,0,0,0,rfl,hn,by omega,by omega,by omega,by omega,by omega⟩
theorem sK(T:Bl K mg)(D:DefM K mg "_law_draw" iY ["_law_feed_here","_law_many"]):FnM P w K mg base "_law_draw" 1 2 uR:=by
 refine aP D cG rfl (nN:=5) rfl (by decide) ?ar fun cdv A outer s H E f hr=>⟨_,(mz' (ik (ac aE (af (mv' 0) mh') mh') (mv' 0) mh')
   (mz' (bo (aF vo (af (mv' 0) mh') mh' (aY _)) (mz' (au 2 cG.nd (ac dJ (af (mv' 0) mh') (mv' 1)))
   (mz' (ik (ac dF (af (mv' 0) mh') (mv' 1)) (mv' 0) mh')
   (aa (ah (mv' 2))))) aB)
   (mz' (au 3 cG.nd mh')
   (mz' (bo (aF (pk hr.units) (af (mv' 0) mh') (bV mn') (aY _)) (aa (au 3 cG.nd (af (af (mv' 0) mh') (ac dJ (af (mv' 0) mh') (aG b9 (by rfl) T.len fE (mc' (af (mv' 0) mh') mn')))))) aB)
   (mz' (ik (ac aE (af (mv' 0) mh') mh') (mv' 0) mh')
   (mz' (bo (EW.pt (IZ (aF Ng (mv' 3) (ac Ic mh' mh') (aY _)) (BW (aF Qg (af (mv' 0) mh') (aG b9 (by rfl) T.len fE (mc' (af (mv' 0) mh') mn')) (aY _))))) (mz' (ik (ac dF (mv' 3) (mv' 1)) (mv' 0) mh')
   (aa (ah (ac dJ (mv' 3) (mv' 1))))) aB)
   (mz' (au 4 cG.nd (ac dJ (ac aA (ac aE (ac dJ (mv' 3) mh') (ac aA mh' (af (mv' 0) mh'))) mh') mh'))
   (mz' (au 4 cG.nd (ac dJ (ac aA (ac aE (ac dF (mv' 4) mh') (ac aA (ac aA mh' (af (mv' 0) mh')) (af (mv' 0) mh'))) mh') mh'))
   (aa (ah (ac dJ (ac dF (mv' 4) mh') (mv' 1)))))))))))),?_⟩
 case ar=>rintro as Kc ⟨ds,m,c,rfl,_⟩;rfl
 rintro as Kc hl ⟨ds,m,c,rfl,⟨ns,p,q,r,rfl,hn,hp0,hp,hq,hr0,hr1⟩,hc,hm0,hm1,k⟩;refine ak (MSt.mk [some (.obj 0),some (.imm (.int m)),none,none,none] [[.list (ns.map .int),.int p,.int q,.int r]] 1) rfl ?_;walk_at"xs";refine aU (fun h=>?_) (fun h=>?_)
 .walk_at"xs";exact k _ _ (aee _ (by omega)) (adA _ hm0) ⟨ns,p,q/m,r+1,rfl,hn,hp0,by omega,ae7 hq (by omega),by omega,by omega⟩
 .walk_at"xs";have fin:∀x:Int,0≤x->x<m->∀q':Int,0≤q'->Kc (.imm (.int x)) [[.list (ns.map .int),.int (p+1),.int q',.int (r+1)]]:=fun x h1 h2 q' h3=>k _ _ h1 h2 ⟨ns,p+1,q',r+1,rfl,hn,by omega,by omega,h3,by omega,by omega⟩;have mixed:∀y:Int,0≤y/64%m/\y/64%m<m:=fun y=>⟨aee _ (by omega),adA _ hm0⟩
  cases ns with
  | nil =>
   refine x_ne rfl rfl rfl rfl ?_;walk_at"xs";refine ip ?_;walk_at"xs";refine aU (fun h1=>?_) (fun h1=>?_)
   .walk_at"xs";refine aU (fun h2=>?_) (fun h2=>?_)
    .walk_at"xs";exact fin _ (aee _ (by omega)) (adA _ hm0) _ (ae7 (ahH (by decide) h1) (by omega))
    .walk_at"xs";exact fin _ (mixed _).1 (mixed _).2 _ hq
   .walk_at"xs";exact fin _ (mixed _).1 (mixed _).2 _ hq
  | cons n0 ns =>
   refine x_ne rfl rfl (rh _) rfl ?_;walk_at"xs";refine kU ?_;walk_at"xs";have hl0:(0:Int)<((List.map abN (n0::ns)).length:Int):=by simp only[oR,aaD];omega
   refine GV hl0 ?_;obtain⟨x,hx⟩:=Db (ns:=n0::ns) (i:=p%((List.map abN (n0::ns)).length:Int)) (aee _ (by omega)) (by have:=adA p hl0;simp only[oR]at this⊢;exact this);refine on hx ?_;walk_at"xs";refine aU (fun h1=>?_) (fun h1=>?_)
   .walk_at"xs";refine aU (fun h2=>?_) (fun h2=>?_)
    .walk_at"xs";exact fin _ (aee _ (by omega)) (adA _ hm0) _ (ae7 (ahH (by decide) h1) (by omega))
    .walk_at"xs";exact fin _ (mixed _).1 (mixed _).2 _ hq
   .walk_at"xs";exact fin _ (mixed _).1 (mixed _).2 _ hq
theorem v7(T:Bl K mg)(D:DefM K mg "_law_cut" j5 ["_law_top","_law_bottom"]):FnM P w K mg base "_law_cut" 1 2 vm:=by
 refine aP D gn rfl (nN:=4) rfl (by decide) ?ar fun cdv A outer s H E f hr=>⟨_,(mz' (jY (i:=2) (j:=3) gn.nd rfl rfl (by decide) rfl rfl (mc' (aG kq (by rfl) T.abs wy (mc' (mv' 0) mn')) (mc' (aG kq (by rfl) T.abs wy (mc' (mv' 1) mn')) mn')) rfl)
   (mz' (ku (aF vo (mv' 3) mh' (aY _)) (aa (jY (i:=2) (j:=3) gn.nd rfl rfl (by decide) rfl rfl (mc' (mv' 3) (mc' (ac dJ (mv' 2) (mv' 3)) mn')) rfl)) aaN)
   (mz' (bo (aF oO (mv' 1) mh' (aY _)) (aa (au 2 gn.nd (iw fw (mv' 2)))) aB)
   (aa (ah (ag (mc' (ac qJ (mv' 0) (mv' 2)) (mc' (ac qJ (mv' 1) (mv' 2)) mn')))))))),?_⟩
 case ar=>rintro as Kc ⟨a,b,rfl,_⟩;rfl
 rintro as Kc hl ⟨t,b,rfl,hb,ht,hb1,k⟩;refine ak (MSt.mk [some (.imm (.int t)),some (.imm (.int b)),none,none] [] 0) rfl ?_;have g1:0<t.natAbs.gcd b.natAbs:=abg _ (by omega);have g2:t.natAbs.gcd b.natAbs<10^160:=aaF (af4 _ (by omega)) hb1;have d1:=adW t.natAbs b.natAbs;have d2:=acx t.natAbs b.natAbs;unfold nf nfP at k;walk_at"xs";rw[show(if t<0 then -t else t)=(t.natAbs:Int) by split<;>omega,show(if b<0 then -b else b)=(b.natAbs:Int) by split<;>omega];refine sU (fun n m=>∃x y:Nat,m=MSt.mk [some (.imm (.int t)),some (.imm (.int b)),some (.imm (.int x)),some (.imm (.int y))] [] 0/\x.gcd y=t.natAbs.gcd b.natAbs/\n=y) b.natAbs ⟨t.natAbs,b.natAbs,rfl,rfl,rfl⟩ ?_;rintro n m hn ⟨x,y,rfl,hg,rfl⟩;walk_at"xs";refine aU (fun hpos=>?_) (fun hz=>?_)
 .walk_at"xs";have hy:0<n:=by omega
  have h2:=ah8 x hy;exact⟨x%n,h2,n,x%n,rfl,by rw[agx,<-Nat.gcd_rec,agx,hg],rfl⟩
 .have hy0:n=0:=by omega
  subst hy0;rw[ahs]at hg;subst hg;walk_at"xs";refine aU (fun z=>?_) (fun z=>?_)
  .rw[if_pos z]at k;walk_at"xs";refine nU (cfnB g1 g2) ?_;walk_at"xs";refine nU (cfnB g1 g2) ?_;walk_at"xs";rw[u5 g1 d1,u5 g1 d2];exact k
  .rw[if_neg z]at k;walk_at"xs";refine nU (cfnP g1 g2) ?_;walk_at"xs";refine nU (cfnP g1 g2) ?_;walk_at"xs";rw[t5,t5];exact k
theorem sI(T:Bl K mg)(D:DefM K mg "_law_plus" jf ["_law_one","_law_other"])(G_law_cut:FnM P w K mg base "_law_cut" 1 2 vm):FnM P w K mg base "_law_plus" 2 2 GC:=by
 refine aP D sn rfl (nN:=2) rfl (by decide) ?ar fun cdv A outer s H E f hr=>⟨_,(aa (ah (mf' G_law_cut (hr.mono (by decide)) (mc' (ac aE (ac aA (af (mv' 0) mh') (af (mv' 1) mh')) (ac aA (af (mv' 1) mh') (af (mv' 0) mh'))) (mc' (ac aA (af (mv' 0) mh') (af (mv' 1) mh')) mn'))))),?_⟩
 case ar=>rintro as Kc ⟨a,b,c,d,rfl,_⟩;rfl
 rintro as Kc hl ⟨a,b,c,d,rfl,h1,h2,k⟩;refine ak (MSt.mk [some (.imm (.tuple [.int a,.int b])),some (.imm (.tuple [.int c,.int d]))] [] 0) rfl ?_;walk_at"xs";refine bH (cE (up45 h1.ha) (up45 h2.hb)) ?_;walk_at"xs";refine bH (cE (up45 h2.ha) (up45 h1.hb)) ?_;walk_at"xs";refine bH (cE (up45 h1.hb) (up45 h2.hb)) ?_;walk_at"xs";refine⟨_,_,rfl,oa h1.hp h2.hp,K6 (fU h1.ha h2.hb) (fU h2.ha h1.hb),tq (fU h1.hb h2.hb),?_⟩;walk_at"xn";exact k
theorem ql(T:Bl K mg)(D:DefM K mg "_law_times" gV ["_law_one","_law_other"])(G_law_cut:FnM P w K mg base "_law_cut" 1 2 vm):FnM P w K mg base "_law_times" 2 2 BM:=by
 refine aP D qU rfl (nN:=2) rfl (by decide) ?ar fun cdv A outer s H E f hr=>⟨_,(aa (ah (mf' G_law_cut (hr.mono (by decide)) (mc' (ac aA (af (mv' 0) mh') (af (mv' 1) mh')) (mc' (ac aA (af (mv' 0) mh') (af (mv' 1) mh')) mn'))))),?_⟩
 case ar=>rintro as Kc ⟨a,b,c,d,rfl,_⟩;rfl
 rintro as Kc hl ⟨a,b,c,d,rfl,h1,h2,k⟩;refine ak (MSt.mk [some (.imm (.tuple [.int a,.int b])),some (.imm (.tuple [.int c,.int d]))] [] 0) rfl ?_;walk_at"xs";refine bH (cE (up45 h1.ha) (up45 h2.ha)) ?_;walk_at"xs";refine bH (cE (up45 h1.hb) (up45 h2.hb)) ?_;walk_at"xs";refine⟨_,_,rfl,oa h1.hp h2.hp,tq (fU h1.ha h2.ha),tq (fU h1.hb h2.hb),?_⟩;walk_at"xn";exact k
theorem qP(T:Bl K mg)(D:DefM K mg "_law_small" cI ["_law_feed_here"])(G_law_draw:FnM P w K mg base "_law_draw" 1 2 uR)(G_law_cut:FnM P w K mg base "_law_cut" 1 2 vm):FnM P w K mg base "_law_small" 3 1 zL:=by
 refine aP D bz rfl (nN:=7) rfl (by decide) ?ar fun cdv A outer s H E f hr=>⟨_,(mz' (au 1 bz.nd (ac aE mh' (mf' G_law_draw (hr.mono (by decide)) (mc' (mv' 0) (mc' mh' mn')))))
   (mz' (dh (i:=2) bz.nd rfl (adu rfl) (af (bV (mc' (ce (bV (mc' (ac aE mh' (mf' G_law_draw (hr.mono (by decide)) (mc' (mv' 0) (mc' mh' mn')))) mn'))) (mc' (ce (ci (own:=["_law_k"]) (fr:=["_law_feed_here"]) (ps:=[0]) (sc:=(ab cI)) (by exact⟨rfl,by decide +kernel,by decide +kernel,by decide +kernel,by decide +kernel⟩) (bw (by rfl) T.range (mc' mh' mn')) (fun _ _ _ _ _=>(ai 0 (show abI ((["_law_k"]:List Str)++(["_law_feed_here"]:List Str))from by decide +kernel))) (fun _ _ _ _ _=>cc) (fun _ _ _ _ _=>(ac aE mh' (mf' G_law_draw (hr.mono (by decide)) (mc' (mv' 1) (mc' mh' mn'))))))) (mc' (ce (bV (mc' mh' (mc' mh' (mc' mh' mn'))))) mn')))) (ac kR (mv' 1) mh')))
   (mz' (dh (i:=3) bz.nd rfl (adu rfl) (ce (ci (own:=["_law_k"]) (fr:=["_law_feed_here"]) (ps:=[0]) (sc:=(ab cI)) (by exact⟨rfl,by decide +kernel,by decide +kernel,by decide +kernel,by decide +kernel⟩) (bw (by rfl) T.range (mc' (mv' 1) mn')) (fun _ _ _ _ _=>(ai 0 (show abI ((["_law_k"]:List Str)++(["_law_feed_here"]:List Str))from by decide +kernel))) (fun _ _ _ _ _=>cc) (fun _ _ _ _ _=>(ac aE mh' (mf' G_law_draw (hr.mono (by decide)) (mc' (mv' 1) (mc' mh' mn'))))))))
   (mz' (bo (aF (cg hr.units) (mf' G_law_draw (hr.mono (by decide)) (mc' (mv' 0) (mc' mh' mn'))) mh' (aY _)) (mz' (dh (i:=3) bz.nd rfl (adu rfl) (ce (ac aA (cW fX (mv' 3) dH (dG mh')) (mv' 1))))
   (aa (dh (i:=2) bz.nd rfl (adu rfl) (ce (ac aA (cW fX (mv' 2) dH (dG mh')) (mv' 1)))))) aB)
   (mz' (au 4 bz.nd (ac aE mh' (mf' G_law_draw (hr.mono (by decide)) (mc' (mv' 0) (mc' mh' mn')))))
   (mz' (dh (i:=5) bz.nd rfl (adu rfl) (ac aE (ac aE (mv' 4) (aG (iL rfl) (by rfl) T.sum u9 (mc' (mv' 3) mn'))) (ac aA (mf' G_law_draw (hr.mono (by decide)) (mc' (mv' 0) (mc' mh' mn'))) (mf' G_law_draw (hr.mono (by decide)) (mc' (mv' 0) (mc' mh' mn'))))))
   (mz' (au 6 bz.nd (cw cp (by rfl) T.tuple fq (mc' (ci (own:=["_law_k"]) (fr:=["_law_speeds","_law_whole","_law_rooms"]) (ps:=[3,5,2]) (sc:=(ab cI)) (by exact⟨rfl,by decide +kernel,by decide +kernel,by decide +kernel,by decide +kernel⟩) (bw (by rfl) T.range (mc' (mv' 1) mn')) (fun _ _ _ _ _=>(ai 0 (show abI ((["_law_k"]:List Str)++(["_law_speeds","_law_whole","_law_rooms"]:List Str))from by decide +kernel))) (fun _ _ _ _ _=>cc) (fun _ _ _ _ _=>(ag (mc' (mf' G_law_cut (hr.mono (by decide)) (mc' (af (mv' 1) (mv' 0)) (mc' (mv' 2) mn'))) (mc' (af (mv' 3) (mv' 0)) mn'))))) mn')))
   (aa (ah (ag (mc' (mf' G_law_cut (hr.mono (by decide)) (mc' (mv' 4) (mc' (mv' 5) mn'))) (mc' (mv' 6) (mc' (tu (cg hr.units) (mf' G_law_draw (hr.mono (by decide)) (mc' (mv' 0) (mc' mh' mn'))) mh' (aY _)) mn'))))))))))))),?_⟩
 case ar=>rintro as Kc ⟨fd,c,rfl,_⟩;rfl
 rintro as Kc hl ⟨fd,c,rfl,hf,hc,k⟩;refine ak (MSt.mk [some (.obj 0),none,none,none,none,none,none] [fd] 1) rfl ?_;walk_at"xs";refine⟨fd,_,c,rfl,hf,by omega,by decide,by decide,fun many fd hm0 hm1 hf=>?_⟩;obtain⟨mn,rfl⟩:=abl hm0;walk_at"xx";refine⟨fd,_,_,rfl,hf,by omega,by decide,by decide,fun r1 fd h10 h11 hf=>?_⟩;obtain⟨x1,rfl⟩:=abl h10;walk_at"xx";refine⟨by decide,by decide,?_⟩;refine cX (fun i m=>∃(a:Option L2.R) (fd:List iO) (l:List Nat),m=MSt.mk [a,some (.obj 0)] [fd,natD l] 2/\FeedD (c+2+i) fd/\l.length=i/\∀x∈l,1≤x/\x≤2) ⟨none,fd,[],rfl,hf,rfl,fun _ h=>by cases h⟩ ?_ ?_
 .rintro i d m e hnp ⟨a,fd,l,rfl,hf,hl2,hx⟩ D1 hD1 hR1;obtain⟨hi,rfl⟩:=bQ e;have hi2:i<2:=hi;walk_at"xs";refine⟨fd,_,_,rfl,hf,by omega,by decide,by decide,fun y fd hy0 hy1 hf=>?_⟩;obtain⟨y,rfl⟩:=abl hy0;walk_at"xx";refine⟨_,rfl,by rw[aav,bf];omega,hD1 _ ⟨some (.imm (.int (0+(i:Int)))),fd,l++[1+y],?_,hf,by simp;omega,fun x hx'=>?_⟩⟩
  .rw[oH];rfl
  .rcases aa2.mp hx' with z|z
   .exact hx x z
   .rw[aah.mp z];omega
 rintro m hm ⟨a,fd,l2,rfl,hf,hl2,hx2⟩;rw[aw]at hf hl2;walk_at"xx";obtain⟨rs,ers,hrl,hrs⟩:∃rs:List Nat,atI [ahW [.int ((1:Int)+(x1:Int))],.list (natD l2),.list [.int 1,.int 1,.int 1]] ((1:Int)+(mn:Int)-1)=some (.list (natD rs))/\rs.length=mn+1/\∀x∈rs,1≤x/\x≤6:=by
  rcases (show mn=0\/mn=1\/mn=2 by omega)with z|z|z<;>subst z
  .exact⟨[1+x1],rfl,rfl,fun x hx=>by rw[aah.mp hx];omega⟩
  .exact⟨l2,rfl,hl2,fun x hx=>by have:=hx2 x hx;omega⟩
  .refine⟨[1,1,1],rfl,rfl,fun x hx=>?_⟩;have:x=1:=by simpa using hx
   omega
 refine kz ers ?_;refine fu ?_;walk_at"xx";refine⟨by omega,by omega,?_⟩;rw[show((1:Int)+(mn:Int)).toNat=mn+1 by omega];refine cX (fun i m=>∃(a:Option L2.R) (fd:List iO) (l:List Nat),m=MSt.mk [a,some (.obj 0)] [fd,natD l] 2/\FeedD (c+4+i) fd/\l.length=i/\∀x∈l,1≤x/\x≤3) ⟨none,fd,[],rfl,hf,rfl,fun _ h=>by cases h⟩ ?_ ?_
 .rintro i d m e hnp ⟨a,fd,l,rfl,hf,hl3,hx⟩ D1 hD1 hR1;obtain⟨hi,rfl⟩:=bQ e;walk_at"xs";refine⟨fd,_,_,rfl,hf,by omega,by decide,by decide,fun y fd hy0 hy1 hf=>?_⟩;obtain⟨y,rfl⟩:=abl hy0;walk_at"xx";refine⟨_,rfl,by rw[aav,bf];omega,hD1 _ ⟨some (.imm (.int (0+(i:Int)))),fd,l++[1+y],?_,hf,by simp;omega,fun x hx'=>?_⟩⟩
  .rw[oH];rfl
  .rcases aa2.mp hx' with z|z
   .exact hx x z
   .rw[aah.mp z];omega
 rintro m hm ⟨a,fd,qs,rfl,hf,hql,hqs⟩;rw[aw]at hf hql;walk_at"xn";rw[show [fd,natD qs].getD 1 []=natD qs from rfl];refine fu ?_;walk_at"xn";refine vz ?_;refine x_JS (fun m=>∃(rs qs:List Nat) (fd:List iO),m=MSt.mk [some (.obj 0),some (.imm (.int (1+(mn:Int)))),some (.imm (.list (natD rs))),some (.imm (.list (natD qs))),none,none,none] [fd] 1/\FeedD (c+9) fd/\rs.length=mn+1/\qs.length=mn+1/\(∀x∈rs,1≤x/\x≤6)/\∀x∈qs,1≤x/\x≤3) (fun N J=>?_) ?_
 .walk_at"xs";refine⟨fd,_,_,rfl,hf,by omega,by decide,by decide,fun y fd hy0 hy1 hf=>?_⟩;walk_at"xx";refine aU (fun z=>?_) (fun z=>?_)
  .obtain⟨q0,qt,rfl⟩:∃q0 qt,qs=q0::qt:=by
    cases qs with
    |nil=>simp at hql
    |cons q0 qt=>exact⟨q0,qt,rfl⟩
   obtain⟨r0,rt,rfl⟩:∃r0 rt,rs=r0::rt:=by
    cases rs with
    |nil=>simp at hrl
    |cons r0 rt=>exact⟨r0,rt,rfl⟩
   have e1:∀(a:Nat) (l:List Nat),cutD (natD (a::l)) none (some 1)=[.int (a:Int)]:=fun a l=>by
    rw[show(1:Int)=((1:Nat):Int)from rfl,nk];rfl
   walk_at"xs";rw[e1];refine Fy (by omega) (by omega) (by simp;omega) ?_;rw[show((1:Int)+(mn:Int)).toNat=mn+1 by omega,t7,uY];walk_at"xs";rw[e1];refine Fy (by omega) (by omega) (by simp;omega) ?_;rw[show((1:Int)+(mn:Int)).toNat=mn+1 by omega,t7,uY];walk_at"xs";exact J _ ⟨aat (mn+1) r0,aat (mn+1) q0,fd,rfl,hf.mono (by omega),by rw[abH],by rw[abH],fun x hx=>by rw[aeb hx];exact hrs r0 aaf,fun x hx=>by rw[aeb hx];exact hqs q0 aaf⟩
  .walk_at"xs";exact J _ ⟨rs,qs,fd,rfl,hf.mono (by omega),hrl,hql,hrs,hqs⟩
 clear hrs hqs hrl hql ers hf;rintro _ ⟨rs,qs,fd,rfl,hf,hrl,hql,hrs,hqs⟩;walk_at"xx";refine⟨fd,_,_,rfl,hf,by omega,by decide,by decide,fun y fd hy0 hy1 hf=>?_⟩;obtain⟨y,rfl⟩:=abl hy0;walk_at"xx";refine zk rfl (me qs) ?_;rw[l9];walk_at"xs";refine⟨fd,_,_,rfl,hf,by omega,by decide,by decide,fun u fd hu0 hu1 hf=>?_⟩;obtain⟨u,rfl⟩:=abl hu0;walk_at"xx";refine⟨fd,_,_,rfl,hf,by omega,by decide,by decide,fun v fd hv0 hv1 hf=>?_⟩;obtain⟨v,rfl⟩:=abl hv0;walk_at"xn";have sq:=OZ qs hqs;rw[hql]at sq;have uv:u*v≤3:=by
  rcases (show u=0\/u=1 by omega)with z|z<;>subst z<;>omega
 obtain⟨S,hS⟩:∃S,S=1+y+qs.sum+u*v:=⟨_,rfl⟩;have eS:(1:Int)+(y:Int)+(qs.sum:Int)+(u:Int)*(v:Int)=(S:Int):=by rw[hS,ab7,ab7,ab7,aaI];rfl
 have B:(10:Nat)^160>1000:=by decide
 have X:Sml S (1+y) qs rs:=⟨by omega,by omega,by omega,by omega,fun x hx=>(hqs x hx).1,by omega,by omega,by omega,hrs⟩;walk_at"xs";refine⟨by omega,by omega,?_⟩;rw[eS,show((1:Int)+(mn:Int)).toNat=mn+1 by omega];walk_at"xn";refine cX (fun i m=>∃a:Option L2.R,m=MSt.mk [a,some (.imm (.list (natD qs))),some (.imm (.int (S:Int))),some (.imm (.list (natD rs)))] [fd,((adX (srvS S) qs rs).take i).map Srv.d] 2) ⟨none,rfl⟩ ?_ ?_
 .rintro i d m e hnp ⟨a,rfl⟩ D1 hD1 hR1;obtain⟨hi,rfl⟩:=bQ e;obtain⟨r,er⟩:∃r,rs[i]?=some r:=⟨_,Ge (by omega)⟩;obtain⟨q,eq⟩:∃q,qs[i]?=some q:=⟨_,Ge (by omega)⟩;have q3:=hqs q (aae eq);rw[show(0:Int)+(i:Int)=((i:Nat):Int) by omega];walk_at"xs";refine on (bg (bW eq)) ?_;walk_at"xs";refine⟨(q:Int),(S:Int),rfl,by omega,by rw[aaq];omega,by rw[aaq];omega,?_⟩;rw[FY X.s1];walk_at"xx";refine on (bg (bW er)) ?_;walk_at"xs";refine⟨_,rfl,by rw[aav,oR,aaJ];omega,hD1 _ ⟨some (.imm (.int (i:Int))),?_⟩⟩;rw[abA,abD.mpr ⟨q,r,eq,er,rfl⟩,aaG];rfl
 .rintro m hm ⟨a',rfl⟩;have ezl:(adX (srvS S) qs rs).length=mn+1:=by rw[afa];omega
  rw[aw,<-ezl,aag];walk_at"xs";refine⟨((1+y:Nat):Int),(S:Int),by rw[ab7];rfl,by omega,by rw[aaq];omega,by rw[aaq];omega,?_⟩;rw[FY X.s1];walk_at"xx";refine⟨fd,_,_,rfl,hf,by omega,by decide,by decide,fun q fd hq0 hq1 hf=>?_⟩;walk_at"xx";exact k S (1+y) qs rs (decide (q=0)) fd X (hf.mono (by omega))
theorem vY(T:Bl K mg)(D:DefM K mg "_law_all" h9 ["_law_hall"]):FnM P w K mg base "_law_all" 1 1 Ls:=by
 refine aP D cK rfl (nN:=6) rfl (by decide) ?ar fun cdv A outer s H E f hr=>⟨_,(mz' (au 1 cK.nd (bV (mc' (ag mn') mn')))
   (mz' (bC (bO (af (mv' 0) mh')) (bj (n:=2) (ae (ai 2 cK.nd) (ae (ai 3 cK.nd) aK))) (mz' (au 4 cK.nd (bV mn'))
   (mz' (bC (bO (mv' 1)) (mf (i:=5) cK.nd rfl (adu rfl)) (aa (fg (j4 afS afT lW (mv' 4) (mc' (ci (own:=["_law_many"]) (fr:=["_law_lines"]) (ps:=[5]) (sc:=(ab h9)) (by exact⟨rfl,by decide +kernel,by decide +kernel,by decide +kernel,by decide +kernel⟩) (bw (by rfl) T.range (mc' (ac aE (mv' 3) mh') mn')) (fun _ _ _ _ _=>(ai 0 (show abI ((["_law_many"]:List Str)++(["_law_lines"]:List Str))from by decide +kernel))) (fun _ _ _ _ _=>cc) (fun _ _ _ _ _=>(ac aE (mv' 1) (ag (mc' (mv' 0) mn'))))) mn')))) aaN)
   (aa (au 1 cK.nd (mv' 4))))) aaN)
   (aa (ah (mv' 1))))),?_⟩
 case ar=>rintro as Kc ⟨h,rfl,_⟩;rfl
 rintro as Kc hl ⟨h,rfl,ho,k⟩;refine ak (MSt.mk [some (.imm (.tuple [.tuple [.int h.a,.int h.b],.tuple (h.ss.map Srv.d),.bool h.mv])),none,none,none,none,none] [] 0) rfl ?_;walk_at"xs";refine cP ?_;walk_at"xx";refine bJ (fun i m=>∃a b c,m=MSt.mk [some (.imm (.tuple [.tuple [.int h.a,.int h.b],.tuple (h.ss.map Srv.d),.bool h.mv])),some (.obj 0),a,b,none,c] [(((h.rs.take i).foldl M3.stepL [[]]).map lnD)] 0) ⟨none,none,none,rfl⟩ ?_ ?_
 .rintro i d m e n ⟨a,b,c,rfl⟩;obtain⟨s,es,rfl,hi⟩:=gmap e;have r1:=(ho.ok s (aae es)).r1;have r6:=(ho.ok s (aae es)).r6;have hrl:=h.rsl;generalize hprev:(h.rs.take i).foldl M3.stepL [[]]=prev;have hpl:∀a∈prev,a.length≤4:=by
   intro a ha;rw[<-hprev]at ha;have:=M3.allR_len (by rw[<-M3.allL_eq];exact ha);rw[this,aaJ];have:=ho.n4;omega
  have hpn:prev.length≤2401:=by
   rw[<-hprev];exact M3.fold_small (by rw[aaJ];have:=ho.n4;omega) (fun r hr=>ho.r6 r (acb hr))
  have hfold:((h.rs.take (i+1)).foldl M3.stepL [[]])=M3.stepL prev s.r:=by
   rw[abA,Hall.rs_get es,adL,hprev];rfl
  rw[hfold];dsimp only[Srv.d];walk_at"xs"
  .rfl
  walk_at"xs";refine cP ?_;walk_at"xx";refine oi (fun i m=>∃a,m=MSt.mk [some (.imm (.tuple [.tuple [.int h.a,.int h.b],.tuple (h.ss.map Srv.d),.bool h.mv])),some (.obj 0),some (.imm (.tuple [.int s.a,.int s.b])),some (.imm (.int s.r)),some (.obj 1),a] [prev.map lnD,(M3.stepL (prev.take i) s.r).map lnD] 1) ⟨c,rfl⟩ ?_ ?_ ?_
  .rintro j m ⟨a,rfl⟩;rfl
  .rintro j d m ej nj ⟨a,rfl⟩;obtain⟨l,el,rfl,hj⟩:=gmap ej;have hl4:=hpl l (aae el);walk_at"xs";refine⟨by omega,by omega,?_⟩;have en:((s.r:Int)+1).toNat=s.r+1:=by omega
   rw[en];walk_at"xn";refine bJ (fun z m=>∃b,m=MSt.mk [b,some (.imm (lnD l))] [prev.map lnD,(M3.stepL (prev.take j) s.r).map lnD,((aaP z).map fun y=>l++[y]).map lnD] 3) ⟨none,rfl⟩ ?_ ?_
   .rintro z dz m ez nz ⟨b,rfl⟩;obtain⟨hz,rfl⟩:=bQ ez;walk_at"xs";refine jI (by rw[aav,bf];simp;omega) ?_;walk_at"xs";refine⟨_,rfl,by rw[aav];simp;omega,some (.imm (.int (0+(z:Int)))),?_⟩;have ee:((aaP (z+1)).map fun y=>l++[y]).map lnD=((aaP z).map fun y=>l++[y]).map lnD++[.tuple (natD l++[.int (0+(z:Int))])]:=by
     rw[aec];simp[lnD,natD]
    rw[ee];rfl
   .rintro m n ⟨b,rfl⟩;rw[aw];walk_at"xs";have hz:((M3.stepL (prev.take j) s.r).map lnD).length+(((aaP (s.r+1)).map fun y=>l++[y]).map lnD).length≤aam:=by
     rw[aav,oR,oR,oR,aa3,M3.stepL_length,aaJ];have:min j prev.length*(s.r+1)≤2401*7:=abd (by omega) (by omega);omega
    refine' tZ (ds:=(M3.stepL (prev.take j) s.r).map lnD) ?eb hz ?_
    case eb=>rfl
    have ee:(M3.stepL (prev.take (j+1)) s.r).map lnD=(M3.stepL (prev.take j) s.r).map lnD++((aaP (s.r+1)).map fun y=>l++[y]).map lnD:=by
     rw[M3.stepL_take el,aaG]
    rw[ee];exact⟨_,rfl⟩
  .rintro m n ⟨a,rfl⟩;rw[oR,aag];walk_at"xn";refine y7 ?_;refine JG rfl ?_;refine qC [1] (MSt.mk [some (.imm (.tuple [.tuple [.int h.a,.int h.b],.tuple (h.ss.map Srv.d),.bool h.mv])),some (.obj 0),some (.imm (.tuple [.int s.a,.int s.b])),some (.imm (.int s.r)),none,none] [(M3.stepL prev s.r).map lnD] 0) (FJ rfl rfl rfl rfl rfl rfl ⟨rfl,⟨1,rfl,rfl⟩,rfl,rfl,trivial,trivial,trivial⟩) ⟨_,_,_,rfl⟩
 .rintro m n ⟨a,b,c,rfl⟩;rw[oR,<-h.rsl,aag,show h.rs.foldl M3.stepL [[]]=M3.allL h.rs from rfl,M3.allL_eq];walk_at"xs";exact k
theorem qZ(T:Bl K mg)(D:DefM K mg "_law_rule" gq ["_law_feed_here","_law_hall"])(G_law_draw:FnM P w K mg base "_law_draw" 1 2 uR)(G_law_all:FnM P w K mg base "_law_all" 1 1 Ls):FnM P w K mg base "_law_rule" 2 2 Fx:=by
 refine aP D jP rfl (nN:=3) rfl (by decide) ?ar fun cdv A outer s H E f hr=>⟨_,(mz' (au 2 jP.nd (af (bV (mc' aH (mc' aH (mc' aH (mc' aH (mc' aH (mc' aH mn'))))))) (mf' G_law_draw (hr.mono (by decide)) (mc' (mv' 0) (mc' mh' mn')))))
   (mz' (bo (aF (pk hr.units) (mv' 2) aH (aY _)) (aa (ah (ag (mc' (mv' 2) mn')))) aB)
   (aa (ah (ag (mc' aH (mc' (cw cp (by rfl) T.tuple fq (mc' (ci (own:=["_law_lines"]) (fr:=["_law_feed_here","_law_hall"]) (ps:=[0,1]) (sc:=(ab gq)) (by exact⟨rfl,by decide +kernel,by decide +kernel,by decide +kernel,by decide +kernel⟩) (bO (ce (mf' G_law_all (hr.mono (by decide)) (mc' (mv' 1) mn')))) (fun _ _ _ _ _=>(ai 0 (show abI ((["_law_lines"]:List Str)++(["_law_feed_here","_law_hall"]:List Str))from by decide +kernel))) (fun _ _ _ _ _=>cc) (fun _ _ _ _ _=>(mf' G_law_draw (hr.mono (by decide)) (mc' (mv' 1) (mc' (aG b9 (by rfl) T.len fE (mc' (af (mv' 2) mh') mn')) mn'))))) mn')) mn'))))))),?_⟩
 case ar=>rintro as Kc ⟨fd,c,h,rfl,_⟩;rfl
 rintro as Kc hl ⟨fd,c,h,rfl,ho,hf,hc,k⟩;have n1:=ho.n1;have n4:=ho.n4;refine ak (MSt.mk [some (.obj 0),some (.imm (.tuple [.tuple [.int h.a,.int h.b],.tuple (h.ss.map Srv.d),.bool h.mv])),none] [fd] 1) rfl ?_;walk_at"xs";refine⟨fd,_,c,rfl,hf,by omega,by decide,by decide,fun r fd hr0 hr1 hf=>?_⟩;walk_at"xx";have five:∀(q:Rule) (x:Str),atI [afv "random",.str "turns",.str "two",.str "least",.str "quick",.str "told"] r=some (.str x)->q.d = .tuple [.str x]->q.Ok h->x ≠ "told" -> ∃d,atI [afv "random",.str "turns",.str "two",.str "least",.str "quick",.str "told"] r=some d/\((∃x q,d = .str x/\x ≠ "told" /\ Rule.d q = .tuple [.str x]/\q.Ok h)\/d = .str "told"):=fun q x e1 e2 e3 e4=>⟨_,e1,.inl ⟨x,q,rfl,e4,e2,e3⟩⟩;obtain⟨d,ed,hd⟩:∃d,atI [afv "random",.str "turns",.str "two",.str "least",.str "quick",.str "told"] r=some d/\((∃x q,d = .str x/\x ≠ "told" /\ Rule.d q = .tuple [.str x]/\q.Ok h)\/d = .str "told"):=by
  rcases (show r=0\/r=1\/r=2\/r=3\/r=4\/r=5 by omega)with rfl|rfl|rfl|rfl|rfl|rfl
  .exact five .random "random" rfl rfl trivial (by decide +kernel)
  .exact five .turns "turns" rfl rfl trivial (by decide +kernel)
  .exact five .two "two" rfl rfl trivial (by decide +kernel)
  .exact five .least "least" rfl rfl trivial (by decide +kernel)
  .exact five .quick "quick" rfl rfl trivial (by decide +kernel)
  .exact⟨_,rfl,.inr rfl⟩
 refine kz ed ?_;rcases hd with⟨x,q,rfl,hx,eq,qo⟩|rfl
 .walk_at"xs";rw[decide_eq_false hx];refine kU ?_;walk_at"xs";rw[<-eq];exact k q fd qo (hf.mono (by omega))
 .walk_at"xs";rw[decide_eq_true rfl];refine ip ?_;walk_at"xs";refine⟨h,rfl,ho,?_⟩;walk_at"xx";walk_at"xn";have hsm:(M3.allR h.rs).length≤2401:=lp (by rw[h.rsl];exact n4) ho.r6;refine bJ (fun i m=>∃a fd' ps,m=MSt.mk [a,some (.obj 0),some (.imm (.tuple [.tuple [.int h.a,.int h.b],.tuple (h.ss.map Srv.d),.bool h.mv]))] [fd',natD ps] 2/\FeedD (c+1+i) fd'/\ps.length=i/\∀p∈ps,p<h.ss.length) ⟨none,fd,[],rfl,hf,rfl,fun _ h=>by cases h⟩ ?_ ?_
  .rintro i d m e n ⟨a,fd',ps,rfl,hf',hpl,hps⟩;obtain⟨l,el,rfl,hi⟩:=gmap e;walk_at"xs";refine⟨fd',_,_,rfl,hf',by omega,by rw[oR];omega,by rw[oR];omega,fun p fd2 hp0 hp1 hf2=>?_⟩;rw[oR]at hp1;walk_at"xx";obtain⟨pn,rfl⟩:=abl hp0;refine⟨_,rfl,by rw[aav,bf];omega,_,fd2,ps++[pn],by rw[oH];rfl,hf2,by simp;omega,fun p hp=>?_⟩;obtain z|z:=aa2.mp hp
   .exact hps p z
   .simp at z;subst z;omega
  .rintro m n ⟨a,fd',ps,rfl,hf',hpl,hps⟩;rw[oR]at hf' hpl;walk_at"xs";exact k (.told ps) fd' ⟨hpl,hps⟩ (hf'.mono (by omega))
theorem k9(D:DefM K mg "_law_orders" cr ["_law_many"]):FnM P w K mg base "_law_orders" 1 1 (uJ 0):=by
 refine aP D c6 rfl (nN:=3) rfl (by decide) ?ar fun cdv A outer s H E f hr=>⟨_,(mz' f7 (mz' f7 (mz' f7 (aa f7)))),?_⟩
 case ar=>rintro as Kc z;exact z.elim
 rintro as Kc hl z;exact z.elim
theorem cf(T:Bl K mg)(D:DefM K mg "_law_orders" cr ["_law_many"]){k:Nat}(G_law_orders:FnM P w K mg base "_law_orders" (k+1) 1 (uJ n)):FnM P w K mg base "_law_orders" (k+1+1) 1 (uJ (n+1)):=by
 refine aP D c6 rfl (nN:=3) rfl (by decide) ?ar fun cdv A outer s H E f hr=>⟨_,(mz' (bo (aF (cg hr.units) (mv' 0) mh' (aY _)) (aa (ah (bV (mc' (ag mn') mn')))) aB)
   (mz' (au 1 c6.nd (bV mn'))
   (mz' (bC (bO (ce (mf' G_law_orders (hr.mono (by omega)) (mc' (ac kR (mv' 0) mh') mn')))) (mf (i:=2) c6.nd rfl (adu rfl)) (aa (fg (j4 afS afT lW (mv' 1) (mc' (ci (own:=["_law_k"]) (fr:=["_law_order","_law_many"]) (ps:=[2,0]) (sc:=(ab cr)) (by exact⟨rfl,by decide +kernel,by decide +kernel,by decide +kernel,by decide +kernel⟩) (bw (by rfl) T.range (mc' (mv' 0) mn')) (fun _ _ _ _ _=>(ai 0 (show abI ((["_law_k"]:List Str)++(["_law_order","_law_many"]:List Str))from by decide +kernel))) (fun _ _ _ _ _=>cc) (fun _ _ _ _ _=>(ce (ac aE (ac aE (cW fX (mv' 1) dH (dG (mv' 0))) (ag (mc' (ac kR (mv' 2) mh') mn'))) (cW fX (mv' 1) (dG (mv' 0)) dH))))) mn')))) aaN)
   (aa (ah (mv' 1)))))),?_⟩
 case ar=>rintro as Kc ⟨m,rfl,_⟩;rfl
 rintro as Kc hl ⟨m,rfl,hmn,hm4,k⟩;refine ak (MSt.mk [some (.imm (.int (m:Int))),none,none] [] 0) rfl ?_;walk_at"xs";refine aU (fun q=>?_) (fun q=>?_)
 .have:m=0:=by omega
  subst this;walk_at"xs";exact k
 .obtain⟨j,rfl⟩:∃j,m=j+1:=⟨m-1,by omega⟩;walk_at"xs";refine cP ?_;walk_at"xx";obtain⟨n',rfl⟩:∃n',n=n'+1:=⟨n-1,by omega⟩;refine⟨j,by rw[show((j+1:Nat):Int)-1=(j:Int) by omega],by omega,by omega,?_⟩;obtain⟨hk1,hk2⟩:=i7 j (by omega);have hil:=AW j (by omega);rw[show ordR (j+1)=insA j (ordR j)from rfl]at k;generalize ordR j=os at hk1 hk2 hil k;walk_at"xx";refine bJ (fun z m=>∃a,m=MSt.mk [some (.imm (.int ((j+1:Nat):Int))),some (.obj 0),a] [(insA j (os.take z)).map lnD] 0) ⟨none,rfl⟩ ?_ ?_
  .rintro z d m ez nz ⟨a,rfl⟩;obtain⟨o,eo,rfl,hz⟩:=gmap ez;have hl4:=hk2 o (aae eo);have hzl:=(aad.mp eo).1;have hz24:=hil z (by omega);walk_at"xs";refine⟨by omega,by omega,?_⟩;rw[aba];walk_at"xn";refine bJ (fun y m=>∃c,m=MSt.mk [c,some (.imm (.tuple (natD o))),some (.imm (.int ((j+1:Nat):Int)))] [(insA j (os.take z)).map lnD,((aaP y).map fun k=>o.take k++[j]++o.drop k).map lnD] 2) ⟨none,rfl⟩ ?_ ?_
   .rintro y d m ey ny ⟨c,rfl⟩;obtain⟨hy,rfl⟩:=bQ ey;rw[show(0:Int)+(y:Int)=((y:Nat):Int) by omega];walk_at"xs";rw[nk,show((j+1:Nat):Int)-1=(j:Int) by omega];refine jI (by rw[aav,aaJ,bf];simp;omega) ?_;walk_at"xs";rw[qE];refine jI (by rw[aav,aap,aaJ,adT,bf];simp;omega) ?_;walk_at"xs";refine⟨_,rfl,by rw[aav,oR,oR,aa3];omega,some (.imm (.int (y:Int))),?_⟩;rw[aec,aaG,aaG];have ee:(acg ((natD o).take y++[.int (j:Int)]++(natD o).drop y))=lnD (o.take y++[j]++o.drop y):=by
     simp[lnD,natD,List.map_take,List.map_drop]
    rw[show(acg ((natD o).take y++(fun x=>abN (j:Int)::x) []++(natD o).drop y))=lnD (o.take y++[j]++o.drop y)from ee];rfl
   .rintro m ny ⟨c,rfl⟩;rw[aw];walk_at"xs";have hz:((insA j (os.take z)).map lnD).length+(((aaP (j+1)).map fun k=>o.take k++[j]++o.drop k).map lnD).length≤aam:=by
     rw[aav,oR,oR,oR,aa3];omega
    refine' tZ (ds:=(insA j (os.take z)).map lnD) ?eb hz ?_
    case eb=>rfl
    rw[yB eo,aaG];exact⟨_,rfl⟩
  .rintro m nz ⟨a,rfl⟩;rw[oR,aag];walk_at"xs";exact k
theorem mD(T:Bl K mg)(D:DefM K mg "_law_orders" cr ["_law_many"]):FnM P w K mg base "_law_orders" 6 1 xl:=(cf T D  (cf T D  (cf T D  (cf T D  (cf T D  (k9 D))))))
theorem oM(T:Bl K mg)(D:DefM K mg "_law_moves" fc ["_law_hall"])(G_law_orders:FnM P w K mg base "_law_orders" 6 1 xl)(G_law_times:FnM P w K mg base "_law_times" 2 2 BM)(G_law_plus:FnM P w K mg base "_law_plus" 2 2 GC):FnM P w K mg base "_law_moves" 7 1 ve:=by
 refine aP D cu rfl (nN:=5) rfl (by decide) ?ar fun cdv A outer s H E f hr=>⟨_,(mz' (dh (i:=1) cu.nd rfl (adu rfl) (mf' G_law_orders (hr.mono (by decide)) (mc' (aG b9 (by rfl) T.len fE (mc' (af (mv' 0) mh') mn')) mn')))
   (mz' (qy (i:=2) (own:=["_law_order"]) (fr:=["_law_hall","_law_orders_here"]) (ps:=[0,1]) (sc:=(ab fc)) (by exact⟨rfl,by decide +kernel,by decide +kernel,by decide +kernel,by decide +kernel⟩) cu.nd rfl rfl (bO (mv' 1)) (fun _ _ _ _ _=>(ai 0 (show abI ((["_law_order"]:List Str)++(["_law_hall","_law_orders_here"]:List Str))from by decide +kernel))) (fun _ _ _ _ _=>cc) (fun _ _ _ _ _=>(ag (mc' (ag (mc' aH (mc' (mv' 0) mn'))) (mc' (mf' G_law_times (hr.mono (by decide)) (mc' (af (mv' 1) mh') (mc' (ag (mc' mh' (mc' (aG b9 (by rfl) T.len fE (mc' (mv' 2) mn')) mn'))) mn'))) mn')))))
   (mz' (au 3 cu.nd (mf' G_law_plus (hr.mono (by decide)) (mc' (ag (mc' mh' (mc' mh' mn'))) (mc' (ag (mc' (iw fw (af (af (mv' 0) mh') mh')) (mc' (af (af (mv' 0) mh') mh') mn'))) mn'))))
   (mz' (bC (bw (by rfl) T.range (mc' (aG b9 (by rfl) T.len fE (mc' (af (mv' 0) mh') mn')) mn')) (ai 4 cu.nd) (mz' (fg (j4 acq acr d5 (mv' 2) (mc' (ag (mc' (ag (mc' aH (mc' (mv' 4) mn'))) (mc' (af (af (af (mv' 0) mh') (mv' 4)) mh') mn'))) mn')))
   (aa (au 3 cu.nd (mf' G_law_plus (hr.mono (by decide)) (mc' (mv' 3) (mc' (ag (mc' (iw fw (af (af (af (af (mv' 0) mh') (mv' 4)) mh') mh')) (mc' (af (af (af (af (mv' 0) mh') (mv' 4)) mh') mh') mn'))) mn')))))) aaN)
   (aa (ah (ac aE (mv' 2) (bV (mc' (ag (mc' (ag (mc' aH mn')) (mc' (mv' 3) mn'))) mn'))))))))),?_⟩
 case ar=>rintro as Kc ⟨h,rfl,_⟩;rfl
 rintro as Kc hl ⟨h,rfl,ho,k⟩;have n1:=ho.n1;have n4:=ho.n4;obtain⟨o24,o4⟩:=i7 h.ss.length n4;have fh:=uf ho.a2 ho.b2 ho.b1;have f1:FrOk 1 (((ordR h.ss.length).map lnD).length:Int):=by
  have:=cR h.ss.length n4;rw[<-(jL h.ss.length n4).length_eq]at this;rw[oR];exact⟨by decide,by rw[aaq];exact aaF o24 (by decide),by omega⟩
 refine ak (MSt.mk [some (.imm (.tuple [.tuple [.int h.a,.int h.b],.tuple (h.ss.map Srv.d),.bool h.mv])),none,none,none,none] [] 0) rfl ?_;walk_at"xs";refine⟨h.ss.length,by rw[oR],by omega,by omega,?_⟩;walk_at"xn";refine cP ?_;walk_at"xx";refine zn (fun i m=>∃a:Option L2.R,m=MSt.mk [a,some (.imm (.tuple [.tuple [.int h.a,.int h.b],.tuple (h.ss.map Srv.d),.bool h.mv])),some (.obj 0)] [(ordR h.ss.length).map lnD,((cmA h).take i).map moD] 2) ⟨none,rfl⟩ ?_ ?_ ?_
 .rintro i m ⟨a,rfl⟩;rfl
 .rintro i d m e hnp ⟨a,rfl⟩ D1 hD1;obtain⟨o,eo,rfl,hi⟩:=gmap e;walk_at"xs";refine⟨_,_,_,_,rfl,fh.1,f1,?_⟩;unfold mulF;rw[M8 ho];walk_at"xx";refine⟨_,rfl,by rw[aav,oR,aaJ];unfold cmA;rw[oR];omega,hD1 _ ⟨some (.imm (lnD o)),?_⟩⟩;have ec:(cmA h)[i]?=some (Mv.come o,(bF h).1,(bF h).2.toNat):=by unfold cmA;rw[aak,eo];rfl
  rw[abt,ec,aaG];rfl
 .rintro m hm ⟨a,rfl⟩;have el:((ordR h.ss.length).map lnD).length=(cmA h).length:=by unfold cmA;rw[oR,oR]
  rw[el,aag];walk_at"xn";refine cP ?_;walk_at"xx";refine⟨_,_,_,_,rfl,⟨by decide,by decide,by decide⟩,fh.2,?_⟩;rw[JF];walk_at"xx";rw[oR];refine⟨by omega,by omega,?_⟩;rw[aba];refine cX (fun i m=>∃a:Option L2.R,m=MSt.mk [some (.imm (.tuple [.tuple [.int h.a,.int h.b],.tuple (h.ss.map Srv.d),.bool h.mv])),some (.obj 0),some (.obj 1),some (.imm (frT (restF h i).1 (restF h i).2)),a] [(ordR h.ss.length).map lnD,(cmA h++(dnM h).take i).map moD] 0) ⟨none,?_⟩ ?_ ?_
  .rw[List.take_zero,aa5];rfl
  .rintro i d m e hnp ⟨a,rfl⟩ D1 hD1 hR1;obtain⟨hi,rfl⟩:=bQ e;obtain⟨s,es⟩:∃s,h.ss[i]?=some s:=⟨_,Ge hi⟩;have so:=ho.ok s (aae es);have fs:=uf so.a2 so.b2 so.b1;rw[show(0:Int)+(i:Int)=((i:Nat):Int) by omega];walk_at"xs";refine bc (bg (by rw[aak,es];rfl)) ?_;dsimp only[Srv.d];walk_at"xs";refine⟨_,rfl,?_,?_⟩
   .rw[aav,oR,aap,aaJ];unfold cmA;rw[oR];omega
   walk_at"xx";refine bc (bg (by rw[aak,es];rfl)) ?_;dsimp only[Srv.d];walk_at"xs";refine bc (bg (by rw[aak,es];rfl)) ?_;dsimp only[Srv.d];walk_at"xs";refine⟨_,_,_,_,rfl,md ho (by omega),fs.2,?_⟩;rw[Ie es];walk_at"xx";refine hD1 _ ⟨some (.imm (.int (i:Int))),?_⟩;rw[show(cmA h++(dnM h).take (i+1)).map moD=(cmA h++(dnM h).take i).map moD++[moD (Mv.done i,(s.a:Int),s.b)] by rw[abt,Iq es,<-abX,aaG];rfl];rfl
  .rintro m hm ⟨a,rfl⟩;have dl:(dnM h).length=h.ss.length:=by unfold dnM;rw[oR,acT]
   rw[aw,<-dl,aag,dl];walk_at"xs";refine Jv rfl ?_ ?_
   .rw[aav,oR,aap,dl];unfold cmA;rw[oR];show _+1≤_;omega
   walk_at"xs";have rp:=(md ho (Io _)).hp;have ee:(cmA h++dnM h).map moD++[.tuple [.tuple [.str "still"],frT (restF h h.ss.length).1 (restF h h.ss.length).2]]=(mvA h).map moD:=by
    unfold mvA;rw[aaG (l₂:=[_])];show _=_++[acg [.tuple [.str "still"],frT (restF h h.ss.length).1 (((restF h h.ss.length).2.toNat:Nat):Int)]];rw[show(((restF h h.ss.length).2.toNat:Nat):Int)=(restF h h.ss.length).2 by omega];rfl
   rw[<-ee]at k;exact k
theorem rB(T:Bl K mg)(D:DefM K mg "_law_runs" jd ["_law_hall","_law_turns"])(G_law_moves:FnM P w K mg base "_law_moves" 7 1 ve)(G_law_times:FnM P w K mg base "_law_times" 2 2 BM):FnM P w K mg base "_law_runs" 8 2 Fj:=by
 refine aP D bM rfl (nN:=9) rfl (by decide) ?ar fun cdv A outer s H E f hr=>⟨_,(mz' (au 2 bM.nd (bV (mc' (ag (mc' (ag mn') (mc' (ag (mc' mh' (mc' mh' mn'))) mn'))) mn')))
   (mz' (bC (bw (by rfl) T.range (mc' (mv' 1) mn')) (ai 3 bM.nd) (mz' (au 4 bM.nd (bV mn'))
   (mz' (bC (bO (mv' 2)) (bj (n:=2) (ae (ai 5 bM.nd) (ae (ai 6 bM.nd) aK))) (aa (bC (bO (ce (mf' G_law_moves (hr.mono (by decide)) (mc' (mv' 0) mn')))) (bj (n:=2) (ae (ai 7 bM.nd) (ae (ai 8 bM.nd) aK))) (aa (bo (aF vo (af (mv' 8) mh') mh' (aY _)) (aa (fg (j4 acq acr d5 (mv' 4) (mc' (ag (mc' (ac aE (mv' 5) (ag (mc' (mv' 7) mn'))) (mc' (mf' G_law_times (hr.mono (by decide)) (mc' (mv' 6) (mc' (mv' 8) mn'))) mn'))) mn')))) aB)) aaN)) aaN)
   (aa (au 2 bM.nd (mv' 4))))) aaN)
   (aa (ah (mv' 2))))),?_⟩
 case ar=>rintro as Kc ⟨h,r,n,rfl,_⟩;rfl
 rintro as Kc hl ⟨h,r,n,rfl,hD,hn,k⟩;have ho:=hD.ho;have ml:(mvA h).length≤29:=xq ho;refine ak (MSt.mk [some (.imm h.d),some (.imm (.int (n:Int))),none,none,none,none,none,none,none] [] 0) rfl ?_;walk_at"xs";refine cP ?_;walk_at"xx";refine⟨by omega,by omega,?_⟩;rw[aba];refine cX (fun i m=>∃a3 a5 a6 a7 a8:Option L2.R,m=MSt.mk [some (.imm h.d),some (.imm (.int (n:Int))),some (.obj 0),a3,none,a5,a6,a7,a8] [(ba (mwP h) i).map (rnD ((botH h^i:Nat):Int))] 0) ⟨none,none,none,none,none,?_⟩ ?_ ?_
 .show MSt.mk _ [[acg [.tuple [],.tuple [.int 1,.int 1]]]] 0=MSt.mk _ [[acg [.tuple [],nf 1 ((botH h^0:Nat):Int)]]] 0;rw[show nf 1 ((botH h^0:Nat):Int) = .tuple [.int 1,.int 1] by rw[Nat.pow_zero,i8,show nfP 1 ((1:Nat):Int)=(1,1) by decide +kernel];rfl]
 .rintro i d m e hnp ⟨a3,a5,a6,a7,a8,rfl⟩ D1 hD1 hR1;obtain⟨hi,rfl⟩:=bQ e;have rin:=gW ho i;have rl:=mW ho i;have r3:29^i≤29^2:=abO (by decide) (by omega);walk_at"xs";refine cP ?_;walk_at"xx";refine zn (fun j m=>∃a5 a6 a7 a8:Option L2.R,m=MSt.mk [some (.imm h.d),some (.imm (.int (n:Int))),some (.obj 0),some (.imm (.int (0+(i:Int)))),some (.obj 1),a5,a6,a7,a8] [(ba (mwP h) i).map (rnD ((botH h^i:Nat):Int)),(((ba (mwP h) i).take j).flatMap fun p=>(mwP h).map fun q=>(p.1++[q.1],p.2*q.2)).map (rnD ((botH h^(i+1):Nat):Int))] 1) ⟨_,_,_,_,rfl⟩ ?_ ?_ ?_
  .rintro j m ⟨a5,a6,a7,a8,rfl⟩;rfl
  .rintro j d m ej nj ⟨b5,b6,b7,b8,rfl⟩ D2 hD2;obtain⟨⟨R,w⟩,ep,rfl,hj⟩:=gmap ej;obtain⟨R1,R2,R3⟩:=rin _ (aae ep);dsimp only at R1 R2 R3;have w1:=(gf (L:=ba (mwP h) i) fun p hp=>agw (rin p hp).2.2).2 _ (aae ep);rw[jA ho hD.h0 r i]at w1;dsimp only at w1;have B0:=hD.pw (k:=i) (by omega);have fW:FrOk (nfP w ((botH h^i:Nat):Int)).1 (nfP w ((botH h^i:Nat):Int)).2:=uB (hD.p0 i) (aaE (show w.natAbs<10^67 by omega) (by decide)) (by rw[aaq];exact aaE B0 (by decide));rw[show rnD ((botH h^i:Nat):Int) (R,w) = .tuple [.tuple (R.map Mv.d),.tuple [.int (nfP w ((botH h^i:Nat):Int)).1,.int (nfP w ((botH h^i:Nat):Int)).2]]from rfl];have efl:((ba (mwP h) i).take (j+1)).flatMap (fun p=>(mwP h).map fun q=>(p.1++[q.1],p.2*q.2))=((ba (mwP h) i).take j).flatMap (fun p=>(mwP h).map fun q=>(p.1++[q.1],p.2*q.2))++(mwP h).map fun q=>(R++[q.1],w*q.2):=by
    rw[abt,ep,acD]
    congr 1
    exact aa5 _
   have lb:=oI (M:=mwP h) ((ba (mwP h) i).take j);rw[aaJ]at lb;have lm:=zc ho;have lb2:min j (ba (mwP h) i).length*(mwP h).length≤29^2*29:=abd (by omega) lm;rw[efl]at hD2;generalize ((ba (mwP h) i).take j).flatMap (fun p=>(mwP h).map fun q=>(p.1++[q.1],p.2*q.2))=base at *;walk_at"xs"
   .rfl
   walk_at"xs";refine⟨h,rfl,ho,?_⟩;walk_at"xx";refine cX (fun z m=>∃a7 a8:Option L2.R,m=MSt.mk [some (.imm h.d),some (.imm (.int (n:Int))),some (.obj 0),some (.imm (.int (0+(i:Int)))),some (.obj 1),some (.imm (runD R)),some (.imm (nf w ((botH h^i:Nat):Int))),a7,a8] [(ba (mwP h) i).map (rnD ((botH h^i:Nat):Int)),(base++(((mvA h).take z).filter fun q=>decide (0<q.2.1)).map fun q=>(R++[q.1],w*(q.2.1*((botH h/q.2.2:Nat):Int)))).map (rnD ((botH h^(i+1):Nat):Int))] 1) ⟨b7,b8,?_⟩ ?_ ?_
   .rw[List.take_zero,List.filter_nil,ab4,aa5];rfl
   .rintro z d m ez hnz ⟨c7,c8,rfl⟩ D3 hD3 hR3;obtain⟨q,eq,rfl,hz⟩:=gmap ez;have hq:=aae eq;have ef:((mvA h).take (z+1)).filter (fun q=>decide (0<q.2.1))=((mvA h).take z).filter (fun q=>decide (0<q.2.1))++if 0<q.2.1 then [q]else []:=by
     rw[abt,eq,afu]
     congr 1
     by_cases c:0<q.2.1
     .rw[if_pos c];exact aga (decide_eq_true c)
     .rw[if_neg c];exact agb (by rw[decide_eq_false c];decide)
    rw[ef]at hD3;rw[show moD q = .tuple [q.1.d,.tuple [.int q.2.1,.int (q.2.2:Int)]]from rfl];walk_at"xs"
    .rfl
    walk_at"xs";refine aU (fun c=>?_) (fun c=>?_)
    .have hp:q∈shrM h:=(uE ho).mem_iff.mp (agy.mpr ⟨hq,decide_eq_true c⟩);obtain⟨fQ,eQ⟩:=hD.part (k:=i) w hp;walk_at"xs";refine jI (by rw[aav,oR];show _+1≤_;omega) ?_;walk_at"xs";refine⟨_,_,_,_,rfl,fW,fQ,?_⟩;rw[show mulF (nfP w ((botH h^i:Nat):Int)).1 (nfP w ((botH h^i:Nat):Int)).2 q.2.1 (q.2.2:Int)=nf (w*(q.2.1*((botH h/q.2.2:Nat):Int))) ((botH h^(i+1):Nat):Int) by unfold mulF;rw[i8,eQ,<-i8]];walk_at"xx";have zf:((((mvA h).take z).filter fun q=>decide (0<q.2.1))).length≤29:=aaz (aeC _ _) (by rw[aaJ];omega);refine⟨_,rfl,by rw[aav,oR,aap,oR];omega,hD3 _ ⟨some (.imm q.1.d),some (.imm (frT q.2.1 (q.2.2:Int))),?_⟩⟩;rw[if_pos c,show(base++((((mvA h).take z).filter fun q=>decide (0<q.2.1))++[q]).map fun q=>(R++[q.1],w*(q.2.1*((botH h/q.2.2:Nat):Int)))).map (rnD ((botH h^(i+1):Nat):Int))=(base++(((mvA h).take z).filter fun q=>decide (0<q.2.1)).map fun q=>(R++[q.1],w*(q.2.1*((botH h/q.2.2:Nat):Int)))).map (rnD ((botH h^(i+1):Nat):Int))++[.tuple [.tuple (R.map Mv.d++[q.1.d]),nf (w*(q.2.1*((botH h/q.2.2:Nat):Int))) ((botH h^(i+1):Nat):Int)]] by simp only[aaG,abX,aai,ab4,rnD,runD]];rfl
    .walk_at"xs";refine hD3 _ ⟨some (.imm q.1.d),some (.imm (frT q.2.1 (q.2.2:Int))),?_⟩;rw[if_neg c,aa5];rfl
   .rintro m hm ⟨c7,c8,rfl⟩;rw[oR,aag];refine hD2 _ ⟨some (.imm (runD R)),some (.imm (nf w ((botH h^i:Nat):Int))),c7,c8,?_⟩;rw[show(mwP h).map (fun q=>(R++[q.1],w*q.2))=(mvP h).map fun q=>(R++[q.1],w*(q.2.1*((botH h/q.2.2:Nat):Int))) by unfold mwP;rw[abe];rfl];rfl
  .rintro m hm ⟨b5,b6,b7,b8,rfl⟩;rw[oR,aag];walk_at"xn";refine y7 ?_;refine JG rfl ?_;refine qC [1] (MSt.mk [some (.imm h.d),some (.imm (.int (n:Int))),some (.obj 0),some (.imm (.int (0+(i:Int)))),none,none,none,none,none] [(ba (mwP h) (i+1)).map (rnD ((botH h^(i+1):Nat):Int))] 0) (FJ rfl rfl rfl rfl rfl rfl ⟨rfl,rfl,⟨1,rfl,rfl⟩,rfl,trivial,trivial,trivial,trivial,trivial,trivial⟩) (hD1 _ ⟨_,_,_,_,_,rfl⟩)
 .rintro m hm ⟨a3,a5,a6,a7,a8,rfl⟩;rw[aw];walk_at"xs";exact k
theorem RM(T:Bl K mg){ff:Addr}{fd:ac5}(F:Fun K "law" "law" slaw ff fd)(G_law_feed:FnM P w K mg base "_law_feed" 1 1 FX)(G_law_small:FnM P w K mg base "_law_small" 3 1 zL)(G_law_draw:FnM P w K mg base "_law_draw" 1 2 uR)(G_law_rule:FnM P w K mg base "_law_rule" 2 2 Fx)(G_law_runs:FnM P w K mg base "_law_runs" 8 2 Fj)(Gwalked:FnM P w K mg base "walked" 6 3 vf)(Gcounted:FnM P w K mg base "counted" 6 3 o9)(G_law_plus:FnM P w K mg base "_law_plus" 2 2 GC)(G_law_times:FnM P w K mg base "_law_times" 2 2 BM)(Gmeans_of:FnM P w K mg base "means_of" 7 3 yc)(Gleft_by_turns:FnM P w K mg base "left_by_turns" 7 3 y3):FnOk P w K mg base CX0 9 ff fd ["_law_script"] (spOf ⟨K,w⟩ 1 AC):=by
 refine Jw F gA rfl (nN:=15) rfl (by decide) fun cdv A outer s H E f hr=>⟨_,(mz' (au 1 gA.nd (mf' G_law_feed (hr.mono (by decide)) (mc' (mv' 0) mn')))
   (mz' (au 2 gA.nd (mf' G_law_small (hr.mono (by decide)) (mc' (mv' 1) mn')))
   (mz' (bo (aF (cg hr.units) (mf' G_law_draw (hr.mono (by decide)) (mc' (mv' 1) (mc' mh' mn'))) mh' (aY _)) (aa (au 2 gA.nd (ag (mc' (af (mv' 2) mh') (mc' (cw cp (by rfl) T.tuple fq (mc' (ci (own:=["_law_speed","_law_room"]) (fr:=[]) (ps:=[]) (sc:=(ab slaw)) (by exact⟨rfl,by decide +kernel,by decide +kernel,by decide +kernel,by decide +kernel⟩) (bO (af (mv' 2) mh')) (fun _ _ _ _ _=>(bj (n:=2) (ae (ai 0 (show abI ((["_law_speed","_law_room"]:List Str)++([]:List Str))from by decide +kernel)) (ae (ai 1 (show abI ((["_law_speed","_law_room"]:List Str)++([]:List Str))from by decide +kernel)) aK)))) (fun _ _ _ _ _=>cc) (fun _ _ _ _ _=>(ag (mc' (mv' 0) (mc' mh' mn'))))) mn')) (mc' (af (mv' 2) mh') mn')))))) aB)
   (mz' (au 3 gA.nd (mf' G_law_rule (hr.mono (by decide)) (mc' (mv' 1) (mc' (mv' 2) mn'))))
   (mz' (au 4 gA.nd (ac aE mh' (mf' G_law_draw (hr.mono (by decide)) (mc' (mv' 1) (mc' (af (bV (mc' mh' (mc' mh' (mc' mh' mn')))) (ac kR (aG b9 (by rfl) T.len fE (mc' (af (mv' 2) mh') mn')) mh')) mn')))))
   (mz' (au 5 gA.nd (bV (mc' (ag (mc' mh' (mc' mh' mn'))) (mc' (ag (mc' mh' (mc' mh' mn'))) (mc' (ag (mc' mh' (mc' mh' mn'))) mn')))))
   (mz' (au 6 gA.nd mi)
   (mz' (bC (bO (ce (mf' G_law_runs (hr.mono (by decide)) (mc' (mv' 2) (mc' (mv' 4) mn'))))) (bj (n:=2) (ae (ai 7 gA.nd) (ae (ai 8 gA.nd) aK))) (mz' (au 9 gA.nd (af (mf' Gwalked (hr.mono (by decide)) (mc' (mv' 2) (mc' (mv' 3) (mc' (mv' 7) mn')))) (iw fw mh')))
   (mz' (cJ (mf' Gcounted (hr.mono (by decide)) (mc' (mv' 2) (mc' (mv' 3) (mc' (mv' 7) mn')))) (bj (n:=4) (ae (ai 10 gA.nd) (ae (ai 11 gA.nd) (ae (ai 12 gA.nd) (ae (ai 13 gA.nd) aK))))))
   (mz' (bC (bw (by rfl) T.range (mc' mh' mn')) (ai 14 gA.nd) (aa (ik (mf' G_law_plus (hr.mono (by decide)) (mc' (af (mv' 5) (mv' 14)) (mc' (mf' G_law_times (hr.mono (by decide)) (mc' (ag (mc' (af (bV (mc' (aG (iL rfl) (by rfl) T.sum u9 (mc' (af (mv' 9) mh') mn')) (mc' (mv' 13) (mc' (mv' 12) mn')))) (mv' 14)) (mc' mh' mn'))) (mc' (mv' 8) mn'))) mn'))) (mv' 5) (mv' 14))) aaN)
   (aa (pF hr.units (mf' G_law_plus (hr.mono (by decide)) (mc' (fJ hr.units (mv' 6) (mc' (mv' 9) (mc' (ag (mc' mh' (mc' mh' mn'))) mn'))) (mc' (mv' 8) mn'))) (mv' 6) (mv' 9)))))) aaN)
   (mz' (bo (aF (pk hr.units) (aG (gv hr.gd hr.u200) (by rfl) T.repr na (mc' (mf' Gmeans_of (hr.mono (by decide)) (mc' (mv' 2) (mc' (mv' 3) (mc' (mv' 4) mn')))) mn')) (aG (gv hr.gd hr.u200) (by rfl) T.repr na (mc' (cw cp (by rfl) T.tuple fq (mc' (mv' 5) mn')) mn')) (aY _)) (aa (ah Fc)) aB)
   (mz' (yV (bo (aF (pk hr.units) (aG (gv hr.gd hr.u200) (by rfl) T.repr na (mc' (mf' Gleft_by_turns (hr.mono (by decide)) (mc' (mv' 2) (mc' (mv' 3) (mc' (mv' 4) mn')))) mn')) (aG (gv hr.gd hr.u200) (by rfl) T.repr na (mc' (cw cp (by rfl) T.tuple fq (mc' (oQ hr.units T.sorted (mv' 6)) mn')) mn')) (aY _)) (aa (ah Fc)) aB))
   (aa (ah (tu (cg hr.units) (mf' Gmeans_of (hr.mono (by decide)) (mc' (mv' 2) (mc' (mv' 3) (mc' mh' mn')))) (ag (mc' (ag (mc' mh' (mc' mh' mn'))) (mc' (ag (mc' mh' (mc' mh' mn'))) (mc' (ag (mc' mh' (mc' mh' mn'))) mn')))) (aY _)))))))))))))),?_⟩
 rintro as Kc hl ⟨ns,rfl,hn,k⟩;refine ak (MSt.mk [some (.imm (.list (ns.map .int))),none,none,none,none,none,none,none,none,none,none,none,none,none,none] [] 0) rfl ?_;walk_at"xs";refine⟨ns,rfl,hn,fun fd hf=>?_⟩;walk_at"xn";refine cP ?_;walk_at"xx";refine⟨fd,_,rfl,hf,by decide,fun S p0 qs rs mv fd X hf=>?_⟩;walk_at"xn";refine fu ?_;walk_at"xn";refine vz ?_;refine x_JS (fun m=>∃(rs:List Nat) (fd:List iO),m=MSt.mk [some (.imm (.list (ns.map .int))),some (.obj 0),some (.imm (dw S p0 qs rs mv).d),none,none,none,none,none,none,none,none,none,none,none,none] [fd] 0/\FeedD 21 fd/\Sml S p0 qs rs) (fun N J=>?_) ?_
 .walk_at"xs";refine⟨fd,_,_,rfl,hf,by decide,by decide,by decide,fun y fd hy0 hy1 hf=>?_⟩;walk_at"xx";refine aU (fun z=>?_) (fun z=>?_)
  .walk_at"xs";refine bc (ds:=[.tuple [.int ((dw S p0 qs rs mv).a:Int),.int ((dw S p0 qs rs mv).b:Int)],.tuple ((dw S p0 qs rs mv).ss.map Srv.d),.bool (dw S p0 qs rs mv).mv]) (bg (j:=0) rfl) ?_;walk_at"xs";refine bc (ds:=[.tuple [.int ((dw S p0 qs rs mv).a:Int),.int ((dw S p0 qs rs mv).b:Int)],.tuple ((dw S p0 qs rs mv).ss.map Srv.d),.bool (dw S p0 qs rs mv).mv]) (bg (j:=1) rfl) ?_;walk_at"xs";have l6:=X.len mv;refine cX (fun i m=>∃a b:Option L2.R,m=MSt.mk [a,b] [fd,((adX (srvS S) qs (aat rs.length 6)).take i).map Srv.d] 2) ⟨none,none,rfl⟩ ?_ ?_
   .rintro i d m e hnp ⟨a,b,rfl⟩ D1 hD1 hR1;obtain⟨s,es,rfl,hi⟩:=gmap e;obtain⟨q,r,e1,e2,rfl⟩:=abD.mp es;have n3:=X.n3;have e6:(aat rs.length 6)[i]?=some 6:=by rw[aej,if_pos (by omega)]
    dsimp only[Srv.d];walk_at"xs"
    .rfl
    walk_at"xs";refine⟨_,rfl,by rw[aav,oR,aaJ];omega,hD1 _ ⟨some (.imm (prD (cutN S q))),some (.imm (.int (r:Int))),?_⟩⟩;rw[abA,abD.mpr ⟨q,6,e1,e6,rfl⟩,aaG];rfl
   .rintro m hm ⟨a,b,rfl⟩;have ezl:(adX (srvS S) qs (aat rs.length 6)).length=rs.length:=X.six.len mv▸(by rw[abH]);rw[oR,l6,adx (Nat.le_of_eq ezl)];walk_at"xx";refine bc (ds:=[.tuple [.int ((dw S p0 qs rs mv).a:Int),.int ((dw S p0 qs rs mv).b:Int)],.tuple ((dw S p0 qs rs mv).ss.map Srv.d),.bool (dw S p0 qs rs mv).mv]) (bg (j:=2) rfl) ?_;walk_at"xs";exact J _ ⟨aat rs.length 6,fd,rfl,hf.mono (by decide),X.six⟩
  .walk_at"xs";exact J _ ⟨rs,fd,rfl,hf.mono (by decide),X⟩
 clear X hf;rintro _ ⟨rs,fd,rfl,hf,X⟩;have ho:=X.ok mv;have hO:=X.of mv;have hl:=X.len mv;generalize dw S p0 qs rs mv=h at *;walk_at"xx";refine⟨fd,_,h,rfl,ho,hf,by decide,fun r fd hr hf=>?_⟩;walk_at"xx";refine bc (ds:=[.tuple [.int (h.a:Int),.int (h.b:Int)],.tuple (h.ss.map Srv.d),.bool h.mv]) (bg (j:=1) rfl) ?_;walk_at"xs";rw[oR,hl];have n3:=X.n3;have n1:=X.n1;obtain⟨tm,etm,t1,t3,tc⟩:∃t:Nat,atI [abN 3,.int 3,.int 2] ((rs.length:Int)-1)=some (.int (t:Int))/\1≤t/\t≤3/\(rs.length=3->t≤2):=by
  rcases (show rs.length=1\/rs.length=2\/rs.length=3 by omega)with z|z|z<;>rw[z]
  .exact⟨3,rfl,by decide,by decide,by decide⟩
  .exact⟨3,rfl,by decide,by decide,by decide⟩
  .exact⟨2,rfl,by decide,by decide,by decide⟩
 refine kz etm ?_;walk_at"xs";refine⟨fd,_,_,rfl,hf,by decide,by omega,by omega,fun y fd hy0 hy1 hf=>?_⟩;obtain⟨y,rfl⟩:=abl hy0;obtain⟨n,en⟩:∃n:Nat,n=1+y:=⟨_,rfl⟩;have D:DuOk h r n:=⟨ho,hr,hO.rest ho,by omega,hO.pow ho (by omega)⟩;have F:Few h n:=⟨by omega,by omega,fun z=>by have:=tc (by omega);omega⟩;have XW:=LD D F;have P0:=D.p0 n;have B0:((botH h^n:Nat):Int).natAbs<10^76:=by rw[aaq];exact aaE D.b (by decide)
 walk_at"xn";refine E8 ?_;rw[show(1:Int)+(y:Int)=(n:Int) by omega];walk_at"xs";refine cP ?_;walk_at"xn";refine vz (y7 (xp (jy ?_)));walk_at"xx";refine⟨h,r,n,rfl,D,by omega,?_⟩;walk_at"xx";refine cX (fun i m=>∃a7 a8 a9 a10 a11 a12 a13 a14:Option L2.R,m=MSt.mk [some (.imm (.list (ns.map .int))),some (.obj 0),some (.imm h.d),some (.imm r.d),some (.imm (.int (n:Int))),some (.obj 1),some (.at 2 []),a7,a8,a9,a10,a11,a12,a13,a14] [fd,mnL h r n i 0,[.dict (lfKV (shD ((botH h^n:Nat):Int) (endT h r n i)))]] 0) ⟨none,none,none,none,none,none,none,none,?_⟩ ?_ ?_
 .rw[CY P0];rfl
 .rintro i d m e hnp ⟨a7,a8,a9,a10,a11,a12,a13,a14,rfl⟩ D1 hD1 hR1;obtain⟨⟨R,w⟩,ep,rfl,hi⟩:=gmap e;have rin:=gW ho n;have rl:=mW ho n;have r3:29^n≤29^3:=abO (by decide) (by omega);obtain⟨R1,R2,R3⟩:=rin _ (aae ep);have w1:=(gf (L:=ba (mwP h) n) fun p hp=>agw (rin p hp).2.2).2 _ (aae ep);rw[jA ho D.h0 r n]at w1;have DB:=D.b;dsimp only at R1 R2 R3 w1;have fW:FrOk (nfP w ((botH h^n:Nat):Int)).1 (nfP w ((botH h^n:Nat):Int)).2:=uB P0 (aaE (show w.natAbs<10^67 by omega) (by decide)) B0;have hS:=nG ho hr (p:=(zer h,0)) R2 (dI ho r);have tb:=fun k=>Fi ho hr (n:=n) (by omega) k (R,w) (aae ep);obtain⟨ys,ey⟩:=List.getLast?_eq_some_iff.mp (jl h r R (zer h,0));rw[Af ep]at hD1;have kyS:kyA (shD ((botH h^n:Nat):Int) (endT h r n i))=true:=FQ ho (rQ D i).1;have lnE:=(rQ D i).2;have gb:=F8 D i (endQ h r (zer h,0) R);rw[show rnD ((botH h^n:Nat):Int) (R,w) = .tuple [runD R,.tuple [.int (nfP w ((botH h^n:Nat):Int)).1,.int (nfP w ((botH h^n:Nat):Int)).2]]from rfl];walk_at"xs"
  .rfl
  walk_at"xs";refine⟨h,r,R,rfl,ho,hr,R2,by omega,?_⟩;rw[ey,aaG];walk_at"xx";refine bc (vc _ _) ?_;walk_at"xs";refine⟨h,r,R,rfl,ho,hr,R2,?_⟩;walk_at"xn";dsimp only[Cn.d];walk_at"xs"
  .rfl
  walk_at"xs";refine⟨by decide,by decide,?_⟩;have frB:∀y:Int,y.natAbs<10^76->FrOk (nfP y ((botH h^n:Nat):Int)).1 (nfP y ((botH h^n:Nat):Int)).2:=fun y hy=>uB P0 hy B0;have eAdd:∀a b:Int,addF (nfP a ((botH h^n:Nat):Int)).1 (nfP a ((botH h^n:Nat):Int)).2 (nfP b ((botH h^n:Nat):Int)).1 (nfP b ((botH h^n:Nat):Int)).2=nf (a+b) ((botH h^n:Nat):Int):=fun a b=>by unfold addF;rw[i8,C5 P0,<-i8]
  refine cX (fun z m=>∃a14:Option L2.R,m=MSt.mk [some (.imm (.list (ns.map .int))),some (.obj 0),some (.imm h.d),some (.imm r.d),some (.imm (.int (n:Int))),some (.obj 1),some (.at 2 []),some (.imm (runD R)),some (.imm (nf w ((botH h^n:Nat):Int))),some (.imm (stD (endQ h r (zer h,0) R).1 (endQ h r (zer h,0) R).2)),some (.imm (.int ((cy h r (zer h,0) ⟨0,0,0,0⟩ R).c:Int))),some (.imm (.int ((cy h r (zer h,0) ⟨0,0,0,0⟩ R).t:Int))),some (.imm (.int ((cy h r (zer h,0) ⟨0,0,0,0⟩ R).a:Int))),some (.imm (.int ((cy h r (zer h,0) ⟨0,0,0,0⟩ R).s:Int))),a14] [fd,mnL h r n i z,[.dict (lfKV (shD ((botH h^n:Nat):Int) (endT h r n i)))]] 0) ⟨a14,rfl⟩ ?_ ?_
  .rintro z d m ez hnz ⟨b14,rfl⟩ D2 hD2 hR2;obtain⟨hz,rfl⟩:=bQ ez;have hz3:z<3:=hz;obtain⟨t0,t24,_⟩:=tb z;have sT:=GF D z i;have eT:sumF (thrF h r z) ((ba (mwP h) n).take (i+1))=sumF (thrF h r z) ((ba (mwP h) n).take i)+w*thrF h r z R:=by
    rw[abt,ep,ur];show _+(w*thrF h r z R+0)=_;rw[adz]
   have wt:(w*thrF h r z R).natAbs<10^76:=Au (k:=24) (acV (by omega) t0) (act t24 (by omega)) (by rw[aaO];exact act w1 (by decide)) (by decide) D.b;rw[show(0:Int)+(z:Int)=((z:Nat):Int) by omega];walk_at"xs";refine tf rfl (Kq hz3) ?_;walk_at"xs";refine bc (ds:=[lnD (endQ h r (zer h,0) R).1,.int ((endQ h r (zer h,0) R).2:Int)]) (bg (j:=0) rfl) ?_;walk_at"xs";refine zk rfl (me _) ?_;rw[l9];walk_at"xs";refine kz (OO hz3) ?_;walk_at"xs";refine⟨thrF h r z R,1,(nfP w ((botH h^n:Nat):Int)).1,(nfP w ((botH h^n:Nat):Int)).2,rfl,⟨aaE (show(thrF h r z R).natAbs<100 by dsimp only at t0 t24;omega) (by decide),by decide,by decide⟩,fW,?_⟩;rw[show mulF (thrF h r z R) 1 (nfP w ((botH h^n:Nat):Int)).1 (nfP w ((botH h^n:Nat):Int)).2=nf (w*thrF h r z R) ((botH h^n:Nat):Int) by unfold mulF;rw[i8,v6 P0,<-i8]];walk_at"xx";refine⟨_,_,_,_,rfl,frB _ sT.2,frB _ wt,?_⟩;rw[eAdd,<-eT];walk_at"xx";refine OW rfl (J8 (k:=z) hz3) ?_;rw[Jh hz3];exact hD2 _ ⟨_,rfl⟩
  .rintro m hm ⟨b14,rfl⟩;rw[aw,show((3:Int)).toNat=3 from rfl,JP];walk_at"xn";refine yY ?_;walk_at"xs";refine kl ?_;walk_at"xs";refine⟨shD ((botH h^n:Nat):Int) (endT h r n i),⟨rfl,rfl⟩,.inr kyS,?_⟩;walk_at"xs";refine⟨shD ((botH h^n:Nat):Int) (endT h r n i),ptD (endQ h r (zer h,0) R),.tuple [.int 0,.int 1],rfl,⟨rfl,rfl⟩,by unfold oneK;rw[kyS,show kyD (ptD (endQ h r (zer h,0) R))=true from qW ho hS,Bool.and_true,aez],?_⟩;have z0:acg [.int 0,.int 1]=frV ((botH h^n:Nat):Int) 0:=by unfold frV;rw[i8,oh P0];rfl
   rw[z0,show shD ((botH h^n:Nat):Int) (endT h r n i)=kvG ptD (frV ((botH h^n:Nat):Int)) (endT h r n i)from rfl,y0 kQ];walk_at"xs";refine⟨_,_,_,_,rfl,frB _ gb.2,fW,?_⟩;rw[eAdd];walk_at"xx";refine⟨rfl,shD ((botH h^n:Nat):Int) (endT h r n i),rfl,kyS,qW ho hS,by unfold shD kvG;rw[oR,aav];omega,?_⟩;rw[show nf (getA (endQ h r (zer h,0) R) (endT h r n i)+w) ((botH h^n:Nat):Int)=frV ((botH h^n:Nat):Int) (getA (endQ h r (zer h,0) R) (endT h r n i)+w)from rfl,show shD ((botH h^n:Nat):Int) (endT h r n i)=kvG ptD (frV ((botH h^n:Nat):Int)) (endT h r n i)from rfl,show stD (endQ h r (zer h,0) R).1 (endQ h r (zer h,0) R).2=ptD (endQ h r (zer h,0) R)from rfl,FV kQ];walk_at"xn";exact hD1 _ ⟨_,_,_,_,_,_,_,_,rfl⟩
 .rintro m hm ⟨a7,a8,a9,a10,a11,a12,a13,a14,rfl⟩;rw[oR];obtain⟨q0,q1,q2⟩:=Jb D;walk_at"xn";have eM:mnL h r n (ba (mwP h) n).length 0=[nf (p9 h r n) ((botH h^n:Nat):Int),nf (cntW h r .served n) ((botH h^n:Nat):Int),nf (cntW h r .away n) ((botH h^n:Nat):Int)]:=by
   rw[<-q0,<-q1,<-q2];show [nf (sumF (thrF h r 0) ((ba (mwP h) n).take (ba (mwP h) n).length)) _,nf (sumF (thrF h r 1) ((ba (mwP h) n).take (ba (mwP h) n).length)) _,nf (sumF (thrF h r 2) ((ba (mwP h) n).take (ba (mwP h) n).length)) _]=_;rw[aag]
  have pE:=BA D;have kyS:kyA (shD ((botH h^n:Nat):Int) (endT h r n (ba (mwP h) n).length))=true:=FQ ho (rQ D _).1;have XE:=XW.perm pE;have EE:=LQ ho XE P0 B0;generalize endT h r n (ba (mwP h) n).length=W0 at *;rw[eM];have mo:=fun j (hj:j≤n)=>Oo ho hr D.h0 (n:=j) (by omega) (aaE (D.pw hj) (by decide));have fM:=D.fine;obtain⟨tx,htx⟩:∃tx,(mnD h r n).shown=tx:=⟨_,rfl⟩;walk_at"xs";refine⟨h,r,n,rfl,ho,hr,mo n (Io _),by omega,?_⟩;walk_at"xx";refine m6 fM rfl (by decide) (by decide) ?_;rw[htx];walk_at"xs";refine m6 (d:=mnD h r n) fM rfl (by decide) (by decide) ?_;rw[htx];walk_at"xs";rw[decide_eq_true (rfl:tx=tx)];refine ip ?_;walk_at"xs";refine P8 2 6 (shD ((botH h^n:Nat):Int) W0) [0,1] (MSt.mk [some (.imm (.list (ns.map .int))),some (.obj 0),some (.imm h.d),some (.imm r.d),some (.imm (.int (n:Int))),some (.obj 1),some (.imm (.dict (shD ((botH h^n:Nat):Int) W0))),none,none,none,none,none,none,none,none] [fd,[nf (p9 h r n) ((botH h^n:Nat):Int),nf (cntW h r .served n) ((botH h^n:Nat):Int),nf (cntW h r .away n) ((botH h^n:Nat):Int)]] 0) rfl rfl kyS ?_ ?_
  .exact GI rfl rfl rfl rfl rfl rfl rfl rfl ⟨.inl rfl,.inl ⟨0,rfl,rfl⟩,.inl rfl,.inl rfl,.inl rfl,.inl ⟨1,rfl,rfl⟩,.inr ⟨rfl,.inr rfl⟩,.inl trivial,.inl trivial,.inl trivial,.inl trivial,.inl trivial,.inl trivial,.inl trivial,.inl trivial,trivial⟩
  walk_at"xs";refine⟨h,r,n,rfl,D,XW,fun W1 s1=>?_⟩;have ft:=xZ ho XW s1 P0 B0;obtain⟨ty,hty⟩:∃ty,(yq ((botH h^n:Nat):Int) W1).shown=ty:=⟨_,rfl⟩;walk_at"xx";refine m6 ft rfl (by decide) (by decide) ?_;rw[hty];walk_at"xs";refine vh ?_;walk_at"xs";refine u7 (by rw[kyS,aez]) ?_;rw[Dw];refine⟨EE.srt XE,fun ds' p o=>?_⟩;obtain⟨W2,s2,rfl⟩:=EE.srd XE p o;have e12:=(s2.perm pE).uniq XW s1;subst e12;walk_at"xs";refine m6 (d:=yq ((botH h^n:Nat):Int) W2) ft rfl (by decide) (by decide) ?_;rw[hty];walk_at"xs";rw[decide_eq_true (rfl:ty=ty)];refine ip ?_;walk_at"xs";refine⟨h,r,0,rfl,ho,hr,mo 0 (by omega),by decide,?_⟩;walk_at"xx";rw[H9 ho r];refine x_eq rfl rfl (by decide +kernel) (by decide +kernel) ?_;rw[show aaw (.tuple [.tuple [.int 0,.int 1],.tuple [.int 0,.int 1],.tuple [.int 0,.int 1]]) (.tuple [.tuple [.int 0,.int 1],.tuple [.int 0,.int 1],.tuple [.int 0,.int 1]])=true by decide +kernel];exact k
end
theorem ar_{us:List GE}(hl:us.length=n):us=(aaP n).map fun i=>us.getD i .none:=ahO (by rw[hl,oR,aa3]) fun i h1 h2=>by
 rw[adY,List.getElem_range,aax,Ge h1];rfl
local macro_rules | `(tactic| walk_at "dm") => `(tactic| exact fun f fd F => F.binds fun _ _ _ _ _ _ us hl => by rw [ar_ hl]; rfl)
theorem O3{w:World}{K:aaj}{h:aa4}{mg:Str->Option GE}{fa:Addr}(X:K.In h)(G:h.Ns aaQ mg)(hfa:mg "law" = some (.ref fa))(dgreatest_divisor:DefK K "greatest_divisor" cQ)(dfraction_of:DefK K "fraction_of" fZ)(dtaken_off:DefK K "taken_off" iJ)(ddivided:DefK K "divided" mh)(dis_less:DefK K "is_less" nW)(don_one_bottom:DefK K "on_one_bottom" cU)(dplace_of_lines:DefK K "place_of_lines" dq)(dfirst_shortest:DefK K "first_shortest" df)(dwait_at:DefK K "wait_at" oq)(dfirst_quickest:DefK K "first_quickest" dg)(dsent_to:DefK K "sent_to" mH)(dfirst_stand:DefK K "first_stand" fY)(dall_orders:DefK K "all_orders" fb)(dwith_more:DefK K "with_more" iI)(dcome_to:DefK K "come_to" m8)(ddone_at:DefK K "done_at" n6)(dnext_shift:DefK K "next_shift" gN)(dsettled:DefK K "settled" nu)(dturn_behind:DefK K "turn_behind" fV)(dline_of:DefK K "line_of" mJ)(dmoved_on:DefK K "moved_on" jZ)(dmove_shares:DefK K "move_shares" dE)(dweights_behind:DefK K "weights_behind" dm)(dtold_shares:DefK K "told_shares" dB)(dleft_by_turns:DefK K "left_by_turns" d3)(dmeans_of:DefK K "means_of" ib)(dcounts_behind:DefK K "counts_behind" d4)(dwalked:DefK K "walked" rJ)(dcounted:DefK K "counted" mI)(d_law_feed:DefK K "_law_feed" i9)(d_law_draw:DefK K "_law_draw" iY)(d_law_cut:DefK K "_law_cut" j5)(d_law_plus:DefK K "_law_plus" jf)(d_law_times:DefK K "_law_times" gV)(d_law_small:DefK K "_law_small" cI)(d_law_all:DefK K "_law_all" h9)(d_law_rule:DefK K "_law_rule" gq)(d_law_orders:DefK K "_law_orders" cr)(d_law_moves:DefK K "_law_moves" fc)(d_law_runs:DefK K "_law_runs" jd)(dlaw:DefK K "law" slaw)(zlen:abq K aaQ "len" = some none)(zabs:abq K aaQ "abs" = some none)(zrange:abq K aaQ "range" = some none)(zlist:abq K aaQ "list" = some none)(ztuple:abq K aaQ "tuple" = some none)(zint:abq K aaQ "int" = some none)(zsum:abq K aaQ "sum" = some none)(zzip:abq K aaQ "zip" = some none)(zmin:abq K aaQ "min" = some none)(zmax:abq K aaQ "max" = some none)(zenumerate:abq K aaQ "enumerate" = some none)(zrepr:abq K aaQ "repr" = some none)(zsorted:abq K aaQ "sorted" = some none)(cWHOLE_TURN:ConK K "WHOLE_TURN" (.tuple (([1,1]:List Int).map .int)))    :
  ∃fd:ac5,(∀(s:aaa) (v:GE),ahv s fd ⟨[v],[]⟩ [("_law_script",v)])/\∀base:aa4,K.In base->base.Ns aaQ mg->FnOk l.prog w K mg base CX0 9 fa fd ["_law_script"] (spOf ⟨K,w⟩ 1 AC):=by
 obtain⟨f,fd,a,F⟩:=dlaw.ex;have e:=hfa.symm.trans (ahi X G a);cases e;have T:Bl K mg:=⟨abb X G zlen,abb X G zabs,abb X G zrange,abb X G zlist,abb X G ztuple,abb X G zint,abb X G zsum,abb X G zzip,abb X G zmin,abb X G zmax,abb X G zenumerate,abb X G zrepr,abb X G zsorted,cWHOLE_TURN.m X G⟩;have Dgreatest_divisor:=dgreatest_divisor.m (ps:=["one","other"]) X G (by walk_at"dm");have Dfraction_of:=dfraction_of.m (ps:=["top","bottom"]) X G (by walk_at"dm");have Dtaken_off:=dtaken_off.m (ps:=["one","other"]) X G (by walk_at"dm");have Ddivided:=ddivided.m (ps:=["one","other"]) X G (by walk_at"dm");have Dis_less:=dis_less.m (ps:=["one","other"]) X G (by walk_at"dm");have Don_one_bottom:=don_one_bottom.m (ps:=["pairs"]) X G (by walk_at"dm");have Dplace_of_lines:=dplace_of_lines.m (ps:=["hall","lines"]) X G (by walk_at"dm");have Dfirst_shortest:=dfirst_shortest.m (ps:=["lines","order"]) X G (by walk_at"dm");have Dwait_at:=dwait_at.m (ps:=["hall","lines","line"]) X G (by walk_at"dm");have Dfirst_quickest:=dfirst_quickest.m (ps:=["hall","lines","order"]) X G (by walk_at"dm");have Dsent_to:=dsent_to.m (ps:=["hall","rule","stand","order"]) X G (by walk_at"dm");have Dfirst_stand:=dfirst_stand.m (ps:=["hall"]) X G (by walk_at"dm");have Dall_orders:=dall_orders.m (ps:=["hall"]) X G (by walk_at"dm");have Dwith_more:=dwith_more.m (ps:=["lines","line","more"]) X G (by walk_at"dm");have Dcome_to:=dcome_to.m (ps:=["hall","lines","line"]) X G (by walk_at"dm");have Ddone_at:=ddone_at.m (ps:=["lines","line"]) X G (by walk_at"dm");have Dnext_shift:=dnext_shift.m (ps:=["hall","lines"]) X G (by walk_at"dm");have Dsettled:=dsettled.m (ps:=["hall","lines"]) X G (by walk_at"dm");have Dturn_behind:=dturn_behind.m (ps:=["hall","rule","turn"]) X G (by walk_at"dm");have Dline_of:=dline_of.m (ps:=["hall","rule","stand","move"]) X G (by walk_at"dm");have Dmoved_on:=dmoved_on.m (ps:=["hall","rule","stand","move"]) X G (by walk_at"dm");have Dmove_shares:=dmove_shares.m (ps:=["hall"]) X G (by walk_at"dm");have Dweights_behind:=dweights_behind.m (ps:=["hall","rule","weights"]) X G (by walk_at"dm");have Dtold_shares:=dtold_shares.m (ps:=["weights","whole"]) X G (by walk_at"dm");have Dleft_by_turns:=dleft_by_turns.m (ps:=["hall","rule","turns"]) X G (by walk_at"dm");have Dmeans_of:=dmeans_of.m (ps:=["hall","rule","turns"]) X G (by walk_at"dm");have Dcounts_behind:=dcounts_behind.m (ps:=["counts","word"]) X G (by walk_at"dm");have Dwalked:=dwalked.m (ps:=["hall","rule","run"]) X G (by walk_at"dm");have Dcounted:=dcounted.m (ps:=["hall","rule","run"]) X G (by walk_at"dm");have D_law_feed:=d_law_feed.m (ps:=["_law_script"]) X G (by walk_at"dm");have D_law_draw:=d_law_draw.m (ps:=["_law_feed_here","_law_many"]) X G (by walk_at"dm");have D_law_cut:=d_law_cut.m (ps:=["_law_top","_law_bottom"]) X G (by walk_at"dm");have D_law_plus:=d_law_plus.m (ps:=["_law_one","_law_other"]) X G (by walk_at"dm");have D_law_times:=d_law_times.m (ps:=["_law_one","_law_other"]) X G (by walk_at"dm");have D_law_small:=d_law_small.m (ps:=["_law_feed_here"]) X G (by walk_at"dm");have D_law_all:=d_law_all.m (ps:=["_law_hall"]) X G (by walk_at"dm");have D_law_rule:=d_law_rule.m (ps:=["_law_feed_here","_law_hall"]) X G (by walk_at"dm");have D_law_orders:=d_law_orders.m (ps:=["_law_many"]) X G (by walk_at"dm");have D_law_moves:=d_law_moves.m (ps:=["_law_hall"]) X G (by walk_at"dm");have D_law_runs:=d_law_runs.m (ps:=["_law_hall","_law_turns"]) X G (by walk_at"dm");refine⟨fd,fun s v=>?_,fun base _ _=>?_⟩
 .obtain⟨oc,od,kV,doc,pm,an,cdv,ct,osl,rfl,lk,hcd⟩:=F.ex;exact .of_eq rfl
 .have Ggreatest_divisor:=ic (P:=l.prog) (w:=w) (base:=base) T Dgreatest_divisor;have Gfraction_of:=nA (P:=l.prog) (w:=w) (base:=base) T Dfraction_of Ggreatest_divisor;have Gtaken_off:=sG (P:=l.prog) (w:=w) (base:=base) T Dtaken_off Gfraction_of;have Gdivided:=zJ (P:=l.prog) (w:=w) (base:=base) T Ddivided Gfraction_of;have Gis_less:=xj (P:=l.prog) (w:=w) (base:=base) T Dis_less;have Gon_one_bottom:=kG (P:=l.prog) (w:=w) (base:=base) T Don_one_bottom Ggreatest_divisor;have Gplace_of_lines:=jr (P:=l.prog) (w:=w) (base:=base) T Dplace_of_lines;have Gfirst_shortest:=js (P:=l.prog) (w:=w) (base:=base) T Dfirst_shortest;have Gwait_at:=wr (P:=l.prog) (w:=w) (base:=base) T Dwait_at;have Gfirst_quickest:=jq (P:=l.prog) (w:=w) (base:=base) T Dfirst_quickest Gwait_at Gis_less;have Gsent_to:=xQ (P:=l.prog) (w:=w) (base:=base) T Dsent_to Gfirst_shortest Gfirst_quickest Gplace_of_lines;have Gfirst_stand:=m7 (P:=l.prog) (w:=w) (base:=base) T Dfirst_stand;have Gall_orders:=o8 (P:=l.prog) (w:=w) (base:=base) T Dall_orders;have Gwith_more:=sx (P:=l.prog) (w:=w) (base:=base) T Dwith_more;have Gcome_to:=w5 (P:=l.prog) (w:=w) (base:=base) T Dcome_to Gwith_more;have Gdone_at:=xu (P:=l.prog) (w:=w) (base:=base) T Ddone_at Gwith_more;have Gnext_shift:=oT (P:=l.prog) (w:=w) (base:=base) T Dnext_shift;have Gsettled:=yg (P:=l.prog) (w:=w) (base:=base) T Dsettled Gnext_shift Gwith_more;have Gturn_behind:=ng (P:=l.prog) (w:=w) (base:=base) T Dturn_behind;have Gline_of:=xi (P:=l.prog) (w:=w) (base:=base) T Dline_of Gsent_to;have Gmoved_on:=vD (P:=l.prog) (w:=w) (base:=base) T Dmoved_on Gline_of Gcome_to Gturn_behind Gdone_at Gsettled;have Gmove_shares:=lZ (P:=l.prog) (w:=w) (base:=base) T Dmove_shares Gall_orders Gdivided Gtaken_off;have Gweights_behind:=jo (P:=l.prog) (w:=w) (base:=base) T Dweights_behind Gmove_shares Gon_one_bottom Gmoved_on;have Gtold_shares:=ol (P:=l.prog) (w:=w) (base:=base) T Dtold_shares Gfraction_of;have Gleft_by_turns:=jX (P:=l.prog) (w:=w) (base:=base) T Dleft_by_turns Gfirst_stand Gweights_behind Gtold_shares;have Gmeans_of:=wm (P:=l.prog) (w:=w) (base:=base) T Dmeans_of Gfirst_stand Gweights_behind Gfraction_of;have Gcounts_behind:=kh (P:=l.prog) (w:=w) (base:=base) T Dcounts_behind;have Gwalked:=AM (P:=l.prog) (w:=w) (base:=base) T Dwalked Gfirst_stand Gmoved_on;have Gcounted:=yv (P:=l.prog) (w:=w) (base:=base) T Dcounted Gfirst_stand Gmoved_on Gcounts_behind;have G_law_feed:=sD (P:=l.prog) (w:=w) (base:=base) T D_law_feed;have G_law_draw:=sK (P:=l.prog) (w:=w) (base:=base) T D_law_draw;have G_law_cut:=v7 (P:=l.prog) (w:=w) (base:=base) T D_law_cut;have G_law_plus:=sI (P:=l.prog) (w:=w) (base:=base) T D_law_plus G_law_cut;have G_law_times:=ql (P:=l.prog) (w:=w) (base:=base) T D_law_times G_law_cut;have G_law_small:=qP (P:=l.prog) (w:=w) (base:=base) T D_law_small G_law_draw G_law_cut;have G_law_all:=vY (P:=l.prog) (w:=w) (base:=base) T D_law_all;have G_law_rule:=qZ (P:=l.prog) (w:=w) (base:=base) T D_law_rule G_law_draw G_law_all;have G_law_orders:=mD (P:=l.prog) (w:=w) (base:=base) T D_law_orders;have G_law_moves:=oM (P:=l.prog) (w:=w) (base:=base) T D_law_moves G_law_orders G_law_times G_law_plus;have G_law_runs:=rB (P:=l.prog) (w:=w) (base:=base) T D_law_runs G_law_moves G_law_times;exact RM T F G_law_feed G_law_small G_law_draw G_law_rule G_law_runs Gwalked Gcounted G_law_plus G_law_times Gmeans_of Gleft_by_turns
theorem walk{q:aaW}{loose:List Str}{XP:(Str->Option GE)->aa4->Prop}{YP:World->aa4->Prop}{d:DefRec}{K:Params->aaj}(hq:PyProof.Rows.importsNone q=true)(hn:l.most=some 63)(hdf:d.params.defaults=[])
  (hY:∀(w:World) (h:aa4),YP w h->(K w.params).In h)
  (F:∀(w:World) (mg:Str->Option GE) (fa:Addr) (h:aa4),(K w.params).In h->h.Ns aaQ mg->mg d.name=some (.ref fa) ->
   ∃fd:ac5,(∀(s:aaa) (u:GE),ahv s fd ⟨[u],[]⟩ [("_law_script",u)])/\∀base:aa4,(K w.params).In base->base.Ns aaQ mg->FnOk l.prog w (K w.params) mg base CX0 9 fa fd ["_law_script"] (spOf ⟨K w.params,w⟩ 1 AC)) :
  ah9 q loose XP YP l.row.toRowW d [] (fun f vs=>ah5 f vs) :=
 L2.GA (n:=63) (k:=9) (x := "_law_script") (CX:=fun _=>CX0) (sp:=fun w=>spOf ⟨K w.params,w⟩ 1 AC) hq hn (by decide) hdf ⟨rfl,by decide,by decide,rfl⟩ hY F
  (fun w H a ns hl hO hS=>⟨[.imm (.list (ns.map .int))],[],fun r _=>r = .imm (.bool true),rfl,acQ,.imm (vZ hO hS) .nil,⟨ns,rfl,hl,rfl⟩,fun r outs v H' k _ rr _=>by cases k;exact pi (show Den ⟨K w.params,w⟩ H' (.bool true) v from rr)⟩) fun _ _ _ _ _ z=>z
end K
namespace PySem.W.Fast
def tw15460185969245224867:=0
def tw17492006126346349164:=0
def tw4725135923146260667:=0
def tw13532602980474257802:=0
def tw11848852248689919390:=0
def tw9655070839403768685:=0
def tw11786486553988962324:=0
def tw2671814689207654319:=0
def tw6898236082109832417:=0
def tw17613965545316247014:=0
def tw3613029724721731326:=0
def tw5685021908015666249:=0
def tw5134655296203131143:=0
def tw25081021076011006:=0
def tw1616923715621796910:=0
def tw11295154161550018286:=0
def tw13634366838676168445:=0
def tw16757442423091925580:=0
def tw1493657181547505160:=0
def tw13511243909218388894:=0
def tw11708431364888406927:=0
def tw15422259754800911573:=0
def tw10909163280771537815:=0
def tw399577256587220356:=0
def tw14834433149736602120:=0
def tw7226735906943017303:=0
def tw7312509325848190743:=0
def tw869866327458949173:=0
def tw8016640319695545897:=0
def tw5612182507777193817:=0
def tw17617656445164681806:=0
def tw9477097455409677134:=0
def tw10813079860930582902:=0
def tw3193901007385339780:=0
def tw3750233597922528660:=0
def tw14176924189836998341:=0
def tw5399494347712314385:=0
def tw10784817087426123683:=0
def tw513024830258917127:=0
def tw8605883444578310516:=0
def tw2539232224102617725:=0
def tw658640307347370383:=0
def tw17615615260998131089:=0
def tw4409102860268970948:=0
def tw5331297773665256906:=0
def tw12835941069489437366:=0
def tw7417692270303830947:=0
def tw9099872636754112402:=0
def tw741854961479735671:=0
def tw7141409700037401586:=0
def tw13751470428024211145:=0
def tw8956486796136789668:=0
def tw6948538631427480607:=0
def tw18040774974652118248:=0
def tw11359378114456838616:=0
def tw15749926505605770568:=0
def tw10050573358211138410:=0
def tw14994653497086501146:=0
def tw1161443442044694906:=0
def tw16821293977900081966:=0
def tw15898841813638740457:=0
def tw16974724517401046076:=0
def tw7782082065404419076:=0
def tw18362490549897261612:=0
def tw14069913913599388173:=0
def tw12920758173173770949:=0
def tw16635096150865527396:=0
def tw2222308955432947219:=0
def tw14297740871445609275:=0
def tw7804557756430764130:=0
def tw11365546574730354134:=0
def tw4238605322444153610:=0
def tw11904435982937856822:=0
def tw6137719531591549354:=0
def tw16000816050093675450:=0
def tw3002594097321726022:=0
def tw12269689604460614324:=0
def tw8947301851459820956:=0
def tw806832191239510465:=0
def tw15572883900475162062:=0
def tw7550720777534774801:=0
def tw9747714547815123256:=0
def tw10898167689026360761:=0
def tw14301290541959712988:=0
def tw10549055144864671402:=0
def tw15660457336143718086:=0
def tw17686257430603861238:=0
def tw3800361944290653538:=0
def tw12103376348437649246:=0
def tw9316830300768782455:=0
def tw5143199200406247669:=0
def tw3752668943932412431:=0
def tw10348767284387505124:=0
def tw17455442153151106717:=0
def tw6857692440033284898:=0
def tw9164195724992977988:=0
def tw7110267537857068383:=0
def tw6271645152445810273:=0
def tw1011462011471877849:=0
def tw6930350224397331879:=0
def tw16995282036550294551:=0
def tw12663164753538400082:=0
def tw9128931977449916329:=0
def tw5868655334882929234:=0
def tw10259260913312264989:=0
def tw9874149816957368229:=0
def tw4054076231750129901:=0
end PySem.W.Fast
open PySem PySem.W PyProof.Rows
local macro_rules | `(tactic| walk_at "dk") => `(tactic| (refine' L2.DefK.of ?a ?l ?c ?k; (case a => k_is); (case l => k_is); (case c => k_is); (case k => k_is)))
set_option maxRecDepth 100000 in
set_option maxHeartbeats 0 in
theorem PySem.Challenge.cw_shorterline_k99_whole_means_by_all_runs_holds : PySem.Challenge.rw_shorterline_k99_whole_means_by_all_runs.Holds := by
 w_on;o_law;k_head;(case hw=>w_witness2)
 k_fill
 refine K.walk (l:=PySem.Challenge.rw_shorterline_k99_whole_means_by_all_runs) ?hq rfl rfl (fun w h Y=>PySem.W.kIn_of Y) ?F
 case hq=>kernel_rfl
 case F =>
  intro w mg fa h KX G hmg;refine' K.O3 KX G hmg ?dgreatest_divisor ?dfraction_of ?dtaken_off ?ddivided ?dis_less ?don_one_bottom ?dplace_of_lines ?dfirst_shortest ?dwait_at ?dfirst_quickest ?dsent_to ?dfirst_stand ?dall_orders ?dwith_more ?dcome_to ?ddone_at ?dnext_shift ?dsettled ?dturn_behind ?dline_of ?dmoved_on ?dmove_shares ?dweights_behind ?dtold_shares ?dleft_by_turns ?dmeans_of ?dcounts_behind ?dwalked ?dcounted ?d_law_feed ?d_law_draw ?d_law_cut ?d_law_plus ?d_law_times ?d_law_small ?d_law_all ?d_law_rule ?d_law_orders ?d_law_moves ?d_law_runs ?dlaw ?zlen ?zabs ?zrange ?zlist ?ztuple ?zint ?zsum ?zzip ?zmin ?zmax ?zenumerate ?zrepr ?zsorted ?cWHOLE_TURN
  (case dgreatest_divisor=>walk_at"dk")
  (case dfraction_of=>walk_at"dk")
  (case dtaken_off=>walk_at"dk")
  (case ddivided=>walk_at"dk")
  (case dis_less=>walk_at"dk")
  (case don_one_bottom=>walk_at"dk")
  (case dplace_of_lines=>walk_at"dk")
  (case dfirst_shortest=>walk_at"dk")
  (case dwait_at=>walk_at"dk")
  (case dfirst_quickest=>walk_at"dk")
  (case dsent_to=>walk_at"dk")
  (case dfirst_stand=>walk_at"dk")
  (case dall_orders=>walk_at"dk")
  (case dwith_more=>walk_at"dk")
  (case dcome_to=>walk_at"dk")
  (case ddone_at=>walk_at"dk")
  (case dnext_shift=>walk_at"dk")
  (case dsettled=>walk_at"dk")
  (case dturn_behind=>walk_at"dk")
  (case dline_of=>walk_at"dk")
  (case dmoved_on=>walk_at"dk")
  (case dmove_shares=>walk_at"dk")
  (case dweights_behind=>walk_at"dk")
  (case dtold_shares=>walk_at"dk")
  (case dleft_by_turns=>walk_at"dk")
  (case dmeans_of=>walk_at"dk")
  (case dcounts_behind=>walk_at"dk")
  (case dwalked=>walk_at"dk")
  (case dcounted=>walk_at"dk")
  (case d_law_feed=>walk_at"dk")
  (case d_law_draw=>walk_at"dk")
  (case d_law_cut=>walk_at"dk")
  (case d_law_plus=>walk_at"dk")
  (case d_law_times=>walk_at"dk")
  (case d_law_small=>walk_at"dk")
  (case d_law_all=>walk_at"dk")
  (case d_law_rule=>walk_at"dk")
  (case d_law_orders=>walk_at"dk")
  (case d_law_moves=>walk_at"dk")
  (case d_law_runs=>walk_at"dk")
  (case dlaw=>walk_at"dk")
  (case zlen=>k_is)
  (case zabs=>k_is)
  (case zrange=>k_is)
  (case zlist=>k_is)
  (case ztuple=>k_is)
  (case zint=>k_is)
  (case zsum=>k_is)
  (case zzip=>k_is)
  (case zmin=>k_is)
  (case zmax=>k_is)
  (case zenumerate=>k_is)
  (case zrepr=>k_is)
  (case zsorted=>k_is)
  (case cWHOLE_TURN=>(refine' L2.ConK.ints ?a ?l ?i ?z;(case a=>k_is);(case l=>k_is);(case i=>rfl);(case z=>decide)))