import PyProof.Rows.All
import Wide.All
import OpenK.AllK
import Wide.FinOn
import Lean
import PyProof.EqAt
import PyProof.EqKinds
import PyProof.TupleCall
import KE.KRevIter
import PyProof.FactsAll.range
import PyProof.P3In
import PyProof.ZipIter
import PyProof.TupleIter
import PyProof.WalkInts
import PyProof.SeqI3
import PyProof.EnumFor
import PyProof.EnumMake
import PyProof.ListMulRoad
import PyProof.Rows.SortRev
import PyProof.SumWalkG
import PyProof.StrWalks
import PyProof.StrCalls2
import PyProof.StrLawsTight
import KE.KIntText
import PyProof.StrBlockG
import PyProof.Rows.StrItems
import PyProof.StrLawsRepr
import PyProof.SliceStr2
import PyProof.StrBlockI
import PyProof.Rows.IntBool
import PyProof.Rows.FStr
import PyProof.FString
import PyProof.FactsAll.tuple
import KE.KSortTup
import PyProof.AutoListH
import PyProof.StrOps2
import PyProof.ListStr
import PyProof.DictRoadsH
import PyProof.Rows.TupTab
import PyProof.P3Eq
import PyProof.StationsW
import PyProof.RulesAs
import OpenK.KOwn
import KE.KTryMore
import PyProof.NsDelKeeps
import PyProof.ExcArgsOwn
import PyProof.ExcInit
import PyProof.InstStoreFacts
import PyProof.ListRange
import PyProof.TupleOfStr
import PyProof.CollectIter
import PyProof.DictItems
import PyProof.DictWalks
import PyProof.CollectWalk
import PyProof.AutoSeq1
import KE.RegKIsAll
import KE.RegKTryMore
import PySem.Challenge.RW_shorterline_k28_whole_turn_behind_turn
set_option Elab.async false
set_option linter.all false
set_option maxRecDepth 100000
set_option bootstrap.genMatcherCode false
open PySem renaming wpAny_bind->aD,PyData->dL,Value->mT,Shared->oR,wpAny_pure->AD,starEach->aad,sizeLine->aag,sizeLine_eq->aan,mainGlobals->aao,wpAny_setField_rec->aay,Program->aaB,wpAny_callSpecial?_slot->aaE,wpAny_call_entry->aaI,Heap->aaM,foldedSetIterable->aaN,wpAny_field->aaO,wpAny_newObj_type->aaW,Around->aa4,wpAny_isOneOf_itemiter->abb,bootBuiltins->abe,attributeBase->abg,compareOp->abr,wpAny_holding->abA,sysModules->abD,assignEach->abF,swapsWith->abH,Paired->abO,wpAny_mono->abP,wpAny_dictEntries->abT,backTo->ab1,FuncData->ab6,mem_of_lookup->ab8,wpAny_dictEpoch->acd,rawInt->ace,pyNext->aci,DictEntry->acj,wpAny_isInstance->acl,wpAny_standAt->acp,wpAny_attempt->act,binaryOp->acx,Builtin->acD,IsItemIter->acJ,setField->acM,wpAny_rule->acV,wpAny_Call_Name_kw->acW,wpAny_seqItems->acY,wpAny_passesOwn->ac1,wpAny_typeOf->ac4,swapsWithSole->ada,swappedStores->adb,behindInMarks->adc,Keyword->adi,wpAny_isOneOf_keyiter->adu,standAt->adv,holding->adw,wpAny_loadPart_at->adx,keywordEach->adA,wpAny_setField->adB,wpAny_fieldsOf->adC,codeAny_mono->adE,wpAny_comprehension_free->adR,ReadsAll->adT,wpAny_execs_nil->ad0,letOwnedTupleGo->ad1,wpAny_specialOf->ad3,assign->ad4,call_meets->ad6,tupleKind_room_in1->ad8,sliceBounds->aee,wpAny_Call_method0_late->aef,codeAny->ael,isSubtype_stop->aeo,wpAny_pyIter_slot->aes,wpAny_notOrdered_dict->aez,wpAny_forIn_list->aeC,getItem->aeJ,NameKind->aeR,wpAny_updateSeq_pair->aeU,pyIter->ae2,IsPair->ae6,wpAny_loadPart'->ae9,codeAny_builtin->afb,evalArgs_none->afe,valueAt->afj,Operator->afn,backToKw->afq,wpAny_newTuple->afu,wpAny_binaryOp_repeat_ref->afD,wpAny_sequenceKey->afG,wpAny_letGo->afJ,excClassObj->afM,wpAny_onRaise->afS,IsItemIterOut->afU,PassesOwn->afY,IntMulOk->afZ,noFill_tuple_add->af1,setFlight->aga,concat_meets->agh,IsPart->agi,typeLookup->agj,typeIs_int->agl,typeOf->agm,wpAny_Call_method_late->agn,wpAny_Assign_Subscript->ags,wpAny_updateSeq->agA,exec_Assign_Name_used->agB,subscripted->agG,compEnvC->agI,tupleKind->agY,callerA->ag0,relabel->ag1,seq_tuple_add->aha,plainId_quiet->ahc,wpAny_call->ahg,isInstance->ahi,setItem->ahq,BindsTo->ahs,seqIndex_neg->aht,call_meetsIn->ahy,noteFrame->ahI,seqSlot_of->ahN,specialOf->ahO,call->ah4
open List renaming length_map->gE,getElem?_eq_getElem->iO,mem_of_getElem?->DL,mem_cons_of_mem->Ge,mem_cons_self->GE,getElem?_eq_some_iff->Io,mem_singleton->OR,take_length->aab,mem_map->aac,getElem?_map->aae,mem_cons->aai,replicate->aam,length_append->aap,getD_eq_getElem?_getD->aar,map_cons->aau,size_toArray->aaw,length_cons->aaz,map_map->aaD,map_append->aaF,range->aaH,getElem?_append_left->aaJ,mem_append->aaK,getElem?_append_right->aaP,nodup_cons->aaQ,getElem?_take->aaR,getElem?_set_ne->aaT,length_take->aaU,append_nil->aaV,getElem?_set_self->aa2,length_range->aa6,mem_append_right->aa7,not_mem_nil->abc,mem_flatMap->abi,getElem_mem->abj,take_add_one->abl,length_set->abq,mem_iff_getElem->abv,mem_of_mem_take->abw,take_succ->abz,all_eq_true->abJ,pairwise_iff_getElem->abM,eq_nil_of_length_eq_zero->abR,Nodup->ab2,foldl_cons->acb,length_replicate->ach,lookup_cons->ack,sum_cons->acr,mem_append_left->acw,nodup_nil->acy,getElem?_zipWith_eq_some->acA,getElem?_of_mem->acB,append_assoc->acE,ext_getElem?->acG,sum_append->acI,getElem?_range->acL,all_cons->acS,foldl_append->ac8,all_map->ado,mem_range->ady,length_drop->adF,zipWith->adI,replicate_succ->adK,getElem_set_ne->adL,forIn_cons->ad2,length_zipIdx->ad9,map_id->aeg,pairwise_singleton->aek,pairwise_map->aev,getElem_map->aeH,length->aeS,nil_append->ae3,range_succ->ae8,length_nil->afa,filterMap_cons->afd,map_congr_left->aff,pairwise_cons->afr,map_replicate->afw,perm_ext_iff_of_nodup->afB,mem_or_eq_of_mem_set->afE,lookup->afF,nodup_append->afH,any_cons->afT,eq_of_mem_replicate->afX,getElem?_replicate->af0,ext_getElem->af3,any_eq_true->agd,map_nil->agr,of_mem_zip->agy,getElem_set_self->agC,dropLast_eq_take->agE,getElem?_mapIdx->agP,getElem?_zipIdx->agS,mem_erase_of_ne->agU,mem_of_mem_drop->agX,flatMap_append->ag2,getElem_zipIdx->ag5,length_zipWith->ag8,flatMap_cons->ahF,drop_length->ahL,zipIdx_cons->ahM,filter_cons->ahQ,range'->ahR,foldl->ah3
open PySem.Heap renaming get?_push_of_some->Ad,lt_size->aaa,get?_push_size->aaf,get?_update_other->aaY,get?_update_self->abf,SameBut->abk,size_push->abt,get?_none_of_le->acv,size_update->adG,get?_update_ne->adM,get?_push_cases->aeV,ExtBut->afI,get?_push_at->afN,MadeExcOf->agQ
open Nat renaming le_refl->Dl,lt_of_lt_of_le->aah,le_trans->aaj,lt_of_le_of_lt->aas,lt_trans->aax,ne_of_lt->aaG,ne_of_gt->aaX,le_of_lt->aa0,gcd_pos_of_pos_right->abB,zero_le->abC,lt_succ_self->abI,mul_assoc->ab4,dvd_trans->ab5,le_add_right->acm,mul_comm->acq,mul_le_mul->acz,dvd_mul_left->acU,zero_add->ac5,pow_le_pow_right->ac6,gcd_dvd_right->ac7,lt_irrefl->ac9,zero_ne_add_one->adg,pow_succ->adm,div_le_self->adq,lt_or_gt_of_ne->ad7,div_mul_cancel->aea,mul_pos->aej,lt_succ_of_lt->aep,le_of_ble_eq_true->aex,gcd_dvd_left->aeG,add_assoc->aeM,le_of_dvd->aeP,mul_le_mul_right->aeT,Coprime->aeY,le_max_left->ae5,succ_mul->afh,min_le_right->af2,gcd_le_right->af7,gcd_comm->agx,pos_of_dvd_of_pos->agF,le_succ->agJ,log2_lt->agM,add_le_add_right->agT,mul_lt_mul_right->agW,add_left_cancel->ag7,mul_right_comm->ahn,gcd_zero_right->aho,le_of_eq->ahu,succ_pos->ahz,dvd_mul_right->ahC,dvd_refl->ahD,add_comm->ahE,div_pos->ahS,mul_one->ahT,pow_one->ahV,mod_lt->ah6
open PySem.W renaming Frag->Mt,nsIn->aat,mg_none_of->aba,keepIn->abV,fnOf->acP,codeIn->aem,mg_of->aeL,Looks->aeN,looks_clsIn->afg,callWith_K->afp,findIn->afx,InstAt->afy,any_some->agb,cellsFrom_some->agg,OpenLaw->ahW,exmOne->ah7,notCls->ah8,WalkO->ah9,mroIn->aic
open PySem.PyData renaming eqv->aak,depthAll->aav,canLayAll0->abd,int->abn,hasDict_of_canLay->abo,hasDictAll->acF,hasDict->acX,hasDictAll_of_canLayAll->adh,shownAll->adp,eqvAll->adr,tuple->afk,shown->ago,canLay0->agN,showableAll->ahh,str->ahp,noDict_hsm->ahw
open Option.some renaming inj->aal,injEq->ahv
open Bool renaming false_ne_true->aaq,and_eq_true->aaZ,eq_iff_iff->aca,or_true->acR,false_eq_true->adj,beq_eq_decide_eq->aew,and_true->aeQ,and_eq_true_iff->aeW,not_eq_true->af8,or_eq_true->agz,or_eq_false_iff->agK
open Int renaming natCast_mul->aaA,natAbs_natCast->aaS,toNat_natCast->aa1,mul_assoc->aa8,mul_left_comm->abm,mul_pos->abx,mul_comm->abK,eq_ofNat_of_zero_le->ab3,ofNat_dvd_left->aco,eq_of_mul_eq_mul_right->acZ,natCast_add->ac3,mul_nonneg->adD,add_zero->adH,mul_ediv_cancel_left->adZ,emod_lt_of_pos->aeb,mul_one->aec,natAbs_mul->aet,natAbs_ediv_of_dvd->aeu,nonneg_of_mul_nonneg_left->aeZ,mul_le_mul_of_nonneg_left->ae1,emod_nonneg->afc,zero_add->afi,mul_zero->afl,natCast_nonneg->afA,mul_add->afO,add_mul->afP,le_refl->afQ,zero_mul->agv,mul_le_mul->agR,natAbs_sub_le->ahA,le_trans->ahB,one_mul->ahU
open PySem.PassesOwn renaming never->aaL,leaving->ahG
open PySem.F renaming slot_dict_itemiterator_next->aa3,slot_dict_keyiterator_next->aby,args_dict_itemiterator_next_1->acf,entry_dict_itemiterator_next->acn,slot_dict_items_iter->acK,slot_dict_itemiterator_next->acT,slot_list_append->ade,type_list_append->adf,slot_enumerate_next->adt,args_dict_keyiterator_next_1->adN,plain_extend_loop->adO,args_tuple_add_2->adP,slot_tuple_index->adU,entry_dict_keyiterator_next->adX,slot_dict_itemiterator_iter->adY,entry_tuple_add->aed,plainAttrs_dict->aeh,slot_dict_items->aei,slot_tuple_add->aen,slot_tuple_mul->aeq,slot_dict_get->aey,args_dict_items_iter_1->aeF,entry_dict_items_iter->aeX,slot_zip_next->ae7,slot_tuple_iterator_next->aft,slot_tuple_hash->afL,type_tuple_index->afW,plainAttrs_list->af4,args_enumerate_next_1->af5,slot_tuple_rmul->af6,args_dict_get_3->af9,type_dict_items->agc,entry_enumerate_next->agp,entry_dict_get->agt,slot_dict_iter->agu,slot_int_rmul->agD,entry_extend_loop->ag6
open Ne renaming symm->aa5
open PySem.Builtin.Dict_items renaming ownsTuple->aa9,ownedTupleIsFree->abY,pairFromOwner->ab7,ownedTupleFields->adV,isOneOf->afz
open PySem.Value renaming ref->abh,none->ab0,type->agf
open PyProof.Rows renaming slot_tuple_getitem->abp,callWith_type1->acO,envOfC->ad5,callWith_builtin1->aeB,seqObj->aeD,AllBare->aeI,assignInOrder_cons->afo,subscriptTail_builtinR->agk,sortedHeap->agw,IntsAre->agZ,tupleItemsOf_->ahb,listUpdate_at->ahd
open Array renaming getElem?_eq_some_iff->abu,getElem?_toList->abU,length_toList->ab9,getElem?_eq_getElem->acg,getElem?_eq_none->aer,append_assoc->ahe,forIn_toList->ahk,size_push->ahX
open PySem.Builtin.List renaming listLengthHint->abE,listTooLong->adQ,listSameRef->afV
open PySem.Obj renaming data_mapFields->abG,mapFields->acs,mapSeq->acH,isFreed_of_fields->ac0,cls_mapFields->ahx
open PySem.Builtin.Tuple renaming tupleHashOf->abL,tupleExact->abW,tupleItemsOf->adz,tupleIsExact->afs,tupleTooMany->afv
open PySem.Builtin.SmallTypes renaming nextOf->abN,ownedTupleIsFree->abX,ownedTupleHandOut->acN
open False renaming elim->abQ
open PySem.Str renaming ofString->abZ,empty->ahK
open PySem.Calls renaming callWith_builtin->acQ,Name_function_global->afm,evalArgs_plain->agH,spliced_cons->ahf,spliced_nil->ahr
open Option renaming map_some->ac2,map_eq_some_iff->adn,isSome_map->afK,isSome_iff_exists->afR,getD_none->ahH
open Or renaming inr->add,inl->agL
open PySem.SeqAt renaming shaped->adk,canLay_of_shaped->adl,EqAt->age,readOf->agq,eqAt_reads->ahP
open PySem.Builtin.Slice renaming slicePlaces->adJ,sliceAdjust->afC
open PySem.Builtin.Dict renaming showsAll->aeA
open PySem.Builtin.ObjectAttr renaming storeInDict->aeE
open PySem.NameKind renaming free->aeK,cell->aia
open PySem.Shared renaming TypeIs->aeO
open PySem.Around renaming under_plainId->ae0
open ForInStep renaming yield->ae4
open PySem.Heap.SameBut renaming update->ag3
open PySem.EntryCells renaming newEntry->ag4
open PySem.Paired renaming length->ag9
open True renaming intro->ahj
open PySem.Code renaming quiet_builtin->ahl
open PySem.W.Looks renaming here->ahm
open And renaming intro->ahJ
open Sum renaming inl->ahY,inr->ahZ
open Int.ofNat renaming inj->aib
namespace L2
open PySem PySem.Spec PyProof.Rows
variable{us:List mT}{H:Hp}{C a b:Addr}{o:HO}{h:aaM}{P:aaB}{w:World}{g':Array GenState}{i j t':Nat}{ch fp:List Addr}{N ps:List Str}{x:Str}{M:Model}{A:aa4}{E Q:mT->oR->Prop}{v:V}{u:mT}{X:Cx}{c e tg:Expr}{pos:Pos}{pins:List (Addr×Obj)}{σ:St}{K:Mt}{es:List Expr}{te:TE}{op:CmpOp}{body:List Stmt}{f:mT->mT->Sem mT}{r:R2}{g:Int->Int->Int}{kw:List (Str×mT)}{mg:Str->Option mT}{outer:List Env}{scope:Scope}
noncomputable abbrev Key:=Sum Int Str
noncomputable def wq:Key->mT->Bool
 | .inl k,v=>Value.isInt k v
 | .inr x,v=>Value.isStrOf x v
noncomputable def keyH(w:World):Key->Int
 | .inl k=>hashInt k
 | .inr x=>hashStr w x
theorem bz:∀{k:Key}{v:mT},wq k v=true->(∃i t,k=ahY i/\v=Value.int i t)\/(∃x t,k=ahZ x/\v=Value.str x t)
 | .inl i,v,h=>by
  obtain⟨t,e⟩:=mT.isInt_shape h;exact .inl ⟨i,t,rfl,e⟩
 | .inr x,v,h=>by
  obtain⟨t,e⟩:=mT.isStrOf_shape h;exact .inr ⟨x,t,rfl,e⟩
theorem Ai(i:Int)(t:Tok):wq (.inl i) (.int i t)=true:=by simp[wq,Value.isInt]
theorem yL(x:Str)(t:Tok):wq (.inr x) (.str x t)=true:=by simp[wq,Value.isStrOf]
theorem Ua(a b:Int):decide ((ahY a:Key)=ahY b)=(a==b):=by
 by_cases e:a=b
 .subst e;simp
 .simp_all
theorem Pf(a b:Str):decide ((ahZ a:Key)=ahZ b)=decide (a=b):=by simp
theorem Uo(a:Int)(b:Str):decide ((ahY a:Key)=ahZ b)=false:=rfl
theorem OW(a:Str)(b:Int):decide ((ahZ a:Key)=ahY b)=false:=rfl
noncomputable def cg(prog:aaB)(w:World):PySem.KeyKind prog w Key where
 is:=wq
 hash:=keyH w
 inj:=λv a b ha hb=>by
  rcases bz ha with⟨i,t,rfl,rfl⟩|⟨x,t,rfl,rfl⟩
  .rcases bz hb with⟨j,u,rfl,e⟩|⟨y,u,rfl,e⟩
   .injection e with e1 _;rw[e1]
   .exact nomatch e
  .rcases bz hb with⟨j,u,rfl,e⟩|⟨y,u,rfl,e⟩
   .exact nomatch e
   .injection e with e1 _;rw[e1]
 byValue:=λk v h=>by
  rcases bz h with⟨i,t,rfl,rfl⟩|⟨x,t,rfl,rfl⟩<;>rfl
 pyHash:=λd h=>by
  rcases bz d with⟨i,t,rfl,rfl⟩|⟨x,t,rfl,rfl⟩
  .exact wpAny_pyHash_int h
  .exact wpAny_pyHash_str h
 eqBool:=λl d h=>by
  rcases bz l with⟨i,t,rfl,rfl⟩|⟨x,t,rfl,rfl⟩
  .rcases bz d with⟨j,u,rfl,rfl⟩|⟨y,u,rfl,rfl⟩
   .rw[Ua]at h;exact wpAny_eqBool_int h
   .rw[Uo]at h;exact age.int_str i t y u _ _ _ _ h
  .rcases bz d with⟨j,u,rfl,rfl⟩|⟨y,u,rfl,rfl⟩
   .rw[OW]at h;exact age.str_int x t j u _ _ _ _ h
   .rw[Pf]at h;exact wpAny_eqBool_str h
 «strs»:=λk x t v h=>by
  rcases bz h with⟨i,u,rfl,e⟩|⟨y,u,rfl,e⟩
  .exact nomatch e
  .injection e with e1 _
   subst e1
   cases v<;>rfl
theorem sE(prog:aaB)(w:World)(i:Int)(t:Tok):(cg prog w).is (.inl i) (.int i t)=true:=Ai i t
theorem tu(prog:aaB)(w:World)(x:Str)(t:Tok):(cg prog w).is (.inr x) (.str x t)=true:=yL x t
inductive V where
 |non|bl (b:Bool)|int (i:Int)|str (x:Str)|byt (b:Array UInt8)|flt (b:UInt64)|ref (a:Addr)|ty (n:String)
 deriving DecidableEq
noncomputable def RelV:V->mT->Prop
 | .non,u=>u=ab0
 | .bl b,u=>u=Value.bool b
 | .int i,u=>∃t,u=Value.int i t
 | .str x,u=>∃t,u=Value.str x t
 | .byt b,u=>∃t,u=mT.bytes b t
 | .flt b,u=>∃t,u=mT.float b t
 | .ref a,u=>u=abh a
 | .ty n,u=>u=agf n
noncomputable abbrev Vals:List V->List mT->Prop:=abO RelV
theorem Vals.length{xs:List V}(r:Vals xs us):xs.length=us.length:=ag9 r
theorem Vals.get:∀{xs:List V}{us:List mT}{i:Nat}{x:V},Vals xs us->xs[i]?=some x->∃u,us[i]?=some u/\RelV x u
 |_,_,_,_,.nil,e=>by simp at e
 |_,_,0,_,.cons r _,e=>by simp at e;subst e;exact⟨_,rfl,r⟩
 |_,_,i+1,x,.cons _ t,e=>by
  obtain⟨u,d,k⟩:=Vals.get t ‹_›;exact⟨u,by simpa using d,k⟩
theorem Vals.set{x:V}{u:mT}(r:RelV x u):∀{xs:List V}{us:List mT} (i:Nat),Vals xs us->Vals (xs.set i x) (us.set i u)
 |_,_,_,.nil=>.nil
 |_,_,0,.cons _ t=>.cons r t
 |_,_,i+1,.cons q t=>.cons q (Vals.set r i t)
theorem Vals.append:∀{xs ys:List V}{us d:List mT},Vals xs us->Vals ys d->Vals (xs++ys) (us++d)
 |_,_,_,_,.nil,s=>s
 |_,_,_,_,.cons r t,s=>.cons r (Vals.append t s)
theorem Vals.take:∀{xs:List V}{us:List mT} (n:Nat),Vals xs us->Vals (xs.take n) (us.take n)
 |_,_,0,_=>.nil
 |_,_,_+1,.nil=>.nil
 |_,_,n+1,.cons r t=>.cons r (Vals.take n t)
theorem Vals.drop:∀{xs:List V}{us:List mT} (n:Nat),Vals xs us->Vals (xs.drop n) (us.drop n)
 |_,_,0,r=>r
 |_,_,_+1,.nil=>.nil
 |_,_,n+1,.cons _ t=>Vals.drop n t
theorem Vals.none_of:∀{xs:List V}{us:List mT}{i:Nat},Vals xs us->xs[i]?=none->us[i]?=none:=λ{xs us i} r e=>by
 have d:=r.length
 simp_all
noncomputable def RelO:Option V->Option mT->Prop
 |some v,some u=>RelV v u
 |none,none=>True
 |_,_=>False
noncomputable def KV{d:Type}:List (d×V)->List (d×mT)->Prop:=abO λ(p:d×V) (q:d×mT)=>p.1=q.1/\RelV p.2 q.2
noncomputable def kV:Key->V
 | .inl i=>.int i
 | .inr x=>.str x
inductive HO where
 |lst (xs:List V)
 |tup (xs:List V)
 |dK (kvs:List (Key×V))|dT (kvs:List (List Key×V))
 |set (S:Int->Bool) (n:Nat)
 |ins (C dx:Addr) (fs:List (Str×V))
 |own (x:Addr)
 |xd (fs:List (Str×V))
 |met (f x:Addr)
 |rng (lo hi:Int)
 |frz (o:Obj) (u:HO)
 |tbl (ps:Array mT)
 |ext (φ:aaM->Prop)
noncomputable abbrev Hp:=Addr->Option HO
noncomputable def upd(H:Hp)(a:Addr)(o:HO):Hp:=λb=>if b=a then some o else H b
theorem ai:upd H a o a=some o:=by unfold upd;rw[if_pos rfl]
theorem ag(h:b≠a):upd H a o b=H b:=by unfold upd;rw[if_neg h]
theorem rQ{u:HO}(h:H a=some o)(h':H b=some u)(d:o≠u):a≠b:=by
 intro e;subst e;rw[h]at h';exact d (aal h')
theorem aP(h:H a=some o)(h':H b=none):a≠b:=by grind
noncomputable def PlainT(h:aaM)(a:Addr)(items:Array mT):Prop:=∃o,h.get? a=some o/\o.cls = .type "tuple"/\o.dict=none/\∃n,o.data = .seq items n
theorem PlainT.tup{items:Array mT}(x:PlainT h a items):IsTup h a items:=let ⟨o,e,c,_,d⟩:=x;⟨o,e,c,d⟩
theorem PlainT.new(h:aaM)(items:Array mT):PlainT (h.push {cls:=.type "tuple",data:=.seq items}) h.objs.size items:=⟨_,aaf _ rfl,rfl,rfl,_,rfl⟩
section
variable (P:aaB) (w:World)
noncomputable def ObjOk(H:Hp)(h:aaM)(a:Addr):HO->Prop
 | .lst l=>l.length≤aag/\∃(d:List mT) (n:Nat),Vals l d/\h.get? a=some {cls:=.type "list",data:=.seq d.toArray n}
 | .tup l=>l.length≤aag/\∃d:List mT,Vals l d/\PlainT h a d.toArray
 | .dK k=>k.length≤aag/\(a==abD)=false/\∃vs,KV k vs/\h.DictOf (cg P w) a vs
 | .dT k=>k.length≤aag/\(a==abD)=false/\∃l:List (List Key×Addr×mT),
   abO (λ(p:List Key×V) (q:List Key×Addr×mT)=>p.1=q.1/\H q.2.1=some (.tup (p.1.map kV))/\RelV p.2 q.2.2) k l/\
   ∃o es D,h.get? a=some o/\o.ExactDict/\o.data = .dict es D/\es.toList=l.map (entryOfKey (agY (cg P w)))/\(l.map (·.1)).Nodup
 | .set S n=>h.SetOf (intKind P w) a S n
 | .ins C dx fs=>H dx=some (.own a)/\fs.length≤1000/\dx≠a/\h.get? a=some (PySem.W.instObj C dx)/\
   ∃m,h.Ns1 dx m/\(∀f,RelO (fs.lookup f) (m f))/\PySem.Within m (fs.map (·.1))
 | .own _=>∃o,h.get? a=some o
 | .xd fs=>∃m,h.Ns1 a m/\∀f,RelO (fs.lookup f) (m f)
 | .rng B F=>∃t u v,h.get? a=some {cls:=.type "range",data:=.fields #[.int B t,.int F u,.int 1 v]}
 | .frz o u=>h.get? a=some o/\ObjOk H h a u
 | .tbl ps=>h.get? a=some {cls:=.none,data:=.fields ps}
 | .met f x=>h.get? a=some (PySem.W.methodObj (.ref f) (.ref x))
 | .ext s=>s h/\(∃o,h.get? a=some o)/\∀y z:aaM,s y->(∀o,y.get? a=some o->z.get? a=some o)->s z
noncomputable def HOk(H:Hp)(h:aaM):Prop:=∀a o,H a=some o->ObjOk P w H h a o
end
section
variable {P:aaB}{w:World}{H g:Hp}{h h':aaM}{a:Addr}{o:HO}
theorem ObjOk.lt(x:ObjOk P w H h a o):a<h.objs.size:=by
 cases o with
 |lst d=>obtain⟨_,_,_,_,e⟩:=x;exact aaa e
 |tup d=>obtain⟨_,_,_,p⟩:=x;exact p.tup.lt
 |dK k=>obtain⟨_,_,_,_,o,_,_,e,_⟩:=x;exact aaa e
 |dT k=>obtain⟨_,_,_,_,o,_,_,e,_⟩:=x;exact aaa e
 |set S n=>obtain⟨o,_,_,_,e,_⟩:=x;exact aaa e
 |ins C dx fs=>obtain⟨_,_,_,e,_⟩:=x;exact aaa e
 |own y=>obtain⟨_,e⟩:=x;exact aaa e
 |xd fs=>obtain⟨_,⟨_,_,_,e,_⟩,_⟩:=x;exact aaa e
 |rng m q=>obtain⟨_,_,_,e⟩:=x;exact aaa e
 |frz ob u=>obtain⟨e,_⟩:=x;exact aaa e
 |tbl ps=>exact aaa (x)
 |met f y=>exact aaa (x)
 |ext l=>obtain⟨_,⟨_,e⟩,_⟩:=x;exact aaa e
theorem Paired.mapP{d β:Type}{F G:d->β->Prop}:∀{l₁:List d}{l:List β},abO F l₁ l->(∀a b,F a b->G a b)->abO G l₁ l
 |_,_,.nil,_=>.nil
 |_,_,.cons r t,f=>.cons (f _ _ r) (Paired.mapP t f)
theorem ObjOk.stay(x:ObjOk P w H h a o)(k:∀b u,(b=a\/H b=some (.own a))->h.get? b=some u->h'.get? b=some u)
  (ho:∀b,H b=some (.own a)->g b=some (.own a)) (I:∀b xs,H b=some (.tup xs)->g b=some (.tup xs)):ObjOk P w g h' a o:=by
 induction o with
 |lst xs=>obtain⟨z,m,n,r,e⟩:=x;exact⟨z,m,n,r,k _ _ (.inl rfl) e⟩
 |tup xs=>obtain⟨z,m,r,ob,e,c⟩:=x;exact⟨z,m,r,ob,k _ _ (.inl rfl) e,c⟩
 |dK B=>obtain⟨z,y,vs,r,ob,es,l,e,c⟩:=x;exact⟨z,y,vs,r,ob,es,l,k _ _ (.inl rfl) e,c⟩
 |dT B=>
  obtain⟨z,y,xs,r,ob,es,l,e,c⟩:=x;exact⟨z,y,xs,Paired.mapP r λp q z=>⟨z.1,I _ _ z.2.1,z.2.2⟩,ob,es,l,k _ _ (.inl rfl) e,c⟩
 |set S n=>obtain⟨ob,es,l,t,e,c⟩:=x;exact⟨ob,es,l,t,k _ _ (.inl rfl) e,c⟩
 |ins C dx fs=>
  obtain⟨d,z,ne,e,s,⟨D,es,l,F,c⟩,r⟩:=x;exact⟨ho _ d,z,ne,k _ _ (.inl rfl) e,s,⟨D,es,l,k _ _ (.inr d) F,c⟩,r⟩
 |own y=>obtain⟨ob,e⟩:=x;exact⟨ob,k _ _ (.inl rfl) e⟩
 |xd fs=>obtain⟨s,⟨D,es,l,e,c⟩,r⟩:=x;exact⟨s,⟨D,es,l,k _ _ (.inl rfl) e,c⟩,r⟩
 |rng O J=>obtain⟨t,u,v,e⟩:=x;exact⟨t,u,v,k _ _ (.inl rfl) e⟩
 |frz ob u G=>obtain⟨e,q⟩:=x;exact⟨k _ _ (.inl rfl) e,G q⟩
 |tbl ps=>
  have e:h.get? a=some {cls:=.none,data:=.fields ps}:=x;exact k a _ (.inl rfl) e
 |met f y=>
  have e:=x;exact k a _ (.inl rfl) e
 |ext L=>obtain⟨p,⟨o,e⟩,st⟩:=x;exact⟨st _ _ p λo q=>k _ _ (.inl rfl) q,⟨o,k _ _ (.inl rfl) e⟩,st⟩
theorem HOk.lt(x:HOk P w H h)(e:H a=some o):a<h.objs.size:=(x a o e).lt
theorem HOk.fresh(x:HOk P w H h)(e:h.objs.size≤a):H a=none:=by
 cases q:H a with
 |none=>rfl
 |some u=>exact absurd (aah (x.lt q) e) (ac9 _)
theorem HOk.kept(x:HOk P w H h)(k:∀b u,h.get? b=some u->h'.get? b=some u):HOk P w H h':=λa o e=>
 (x a o e).stay (λb u _ q=>k b u q) (λ_ q=>q) λ_ _ q=>q
theorem HOk.laid(x:HOk P w H h)(k:∀b u,h.get? b=some u->h'.get? b=some u)(hp:h.objs.size≤a)(new:ObjOk P w (upd H a o) h' a o):HOk P w (upd H a o) h':=λb u e=>by
 have d:=x.fresh hp
 by_cases hb:b=a
 .subst hb;rw[ai]at e;grind
 .rw[ag hb]at e;exact(x b u e).stay (λc v _ q=>k c v q) (λc q=>by rw[ag (aP q d)];exact q) λc l q=>by rw[ag (aP q d)];exact q
end
noncomputable def Rd(H:Hp)(a:Addr)(u:HO):Prop:=H a=some u\/∃o,H a=some (.frz o u)
theorem Rd.ok{u:HO}(r:Rd H a u)(x:HOk P w H h):ObjOk P w H h a u:=by
 rcases r with r|⟨o,r⟩
 .exact x a u r
 .obtain⟨_,q⟩:=x a _ r;exact q
noncomputable def Mut:Option HO->Prop
 |some (.lst _)=>True
 |some (.dK _)=>True
 |some (.dT _)=>True
 |some (.set _ _)=>True
 |some (.ins _ _ _)=>True
 |some (.ext _)=>True
 |_=>False
section
variable {P:aaB}{w:World}{H:Hp}{h h':aaM}{x e:Addr}{o:HO}
theorem HOk.write(ok:HOk P w H h)(p:Mut (H x))(B:e=x\/H e=some (.own x))(k:∀b u,b≠e->h.get? b=some u->h'.get? b=some u)(s:∃u,h'.get? e=some u)
  (new:ObjOk P w (upd H x o) h' x o):HOk P w (upd H x o) h':=λb u q=>by
 have l:∀c y,H c=some (.own y)->c≠x:=λc y r z=>by subst z;rw[r]at p;exact p
 have n:∀c m,H c=some (.tup m)->c≠x:=λc m r z=>by subst z;rw[r]at p;exact p
 by_cases hb:b=x
 .subst hb;rw[ai]at q;grind
 .rw[ag hb]at q
  by_cases d:b=e
  .have q':H b=some (.own x):=by
    rcases B with z|z
    .exact absurd (d.trans z) hb
    .rw[d];exact z
   rw[q]at q';cases q';obtain⟨v,t⟩:=s;exact⟨v,by rw[d];exact t⟩
  .refine(ok b u q).stay (λc v D r=>k c v ?_ r) (λc r=>by rw[ag (l c b r)];exact r) λc m r=>by rw[ag (n c m r)];exact r
   grind
end
structure Un(fs ex:List Addr)(H H':Hp)(h h':aaM):Prop where
 keep:∀b o,h.get? b=some o->H b=none->b∉fs->b∉ex->h'.get? b=some o
 slot:∀b o,h.get? b=some o->H b=none->b∈fs->b∉ex->∃sl,h'.get? b=some {o with slots:=sl}
 free:∀b o,h.get? b=some o->H b=none->b∉ex->H' b=none
 there:∀b o,h.get? b=some o->b∉ex->∃o',h'.get? b=some o'
 tups:∀b xs,H b=some (.tup xs)->H' b=some (.tup xs)
 frzs:∀b o u,H b=some (.frz o u)->H' b=some (.frz o u)
 tbls:∀b ps,H b=some (.tbl ps)->∃more,H' b=some (.tbl (ps++more))
section
variable {fs f ex d:List Addr}{H g i:Hp}{h c j h':aaM}{a x e:Addr}{o:HO}
theorem Un.any(u:Un fs ex H g h c){ob:Obj}(q:h.get? b=some ob)(n:H b=none)(k:b∉ex):∃s,c.get? b=some {ob with slots:=s}:=by
 by_cases hb:b∈fs
 .exact u.slot b ob q n hb k
 .exact⟨ob.slots,u.keep b ob q n hb k⟩
theorem Un.kept(k:∀b u,h.get? b=some u->h'.get? b=some u):Un fs ex H H h h':=
 ⟨λb ob q _ _ _=>k b ob q,λb ob q _ _ _=>⟨ob.slots,k b ob q⟩,λ_ _ _ n _=>n,λb ob q _=>⟨ob,k b ob q⟩,λ_ _ q=>q,λ_ _ _ q=>q,λ_ ps q=>⟨#[],by rw[q];simp⟩⟩
theorem Un.refl:Un fs ex H H h h:=Un.kept λ_ _ q=>q
theorem Un.laid(k:∀b u,h.get? b=some u->h'.get? b=some u)(hp:h.objs.size≤a)(l:H a=none):Un fs ex H (upd H a o) h h' where
 keep:=λb u q _ _ _=>k b u q
 slot:=λb u q _ _ _=>⟨u.slots,k b u q⟩
 free:=λb u q n _=>by rw[ag (aaG (aah (aaa q) hp))];exact n
 there:=λb u q _=>⟨u,k b u q⟩
 tups:=λb m q=>by rw[ag (aP q l)];exact q
 frzs:=λb u m q=>by rw[ag (aP q l)];exact q
 tbls:=λb ps q=>⟨#[],by rw[ag (aP q l),q];simp⟩
theorem Un.write(p:Mut (H x))(D:e=x\/H e=some (.own x))(k:∀b u,b≠e->h.get? b=some u->h'.get? b=some u)(s:∃u,h'.get? e=some u):Un fs ex H (upd H x o) h h':=by
 have y:∀b,H b=none->b≠x:=λb n z=>by subst z;rw[n]at p;exact p
 have hb:∀b,H b=none->b≠e:=λb n z=>by
  simp_all
 have m:∀b u,H b=some u->¬Mut (some u)->b≠x:=λb u q B z=>by subst z;simp_all
 refine⟨λb u q n _ _=>k b u (hb b n) q,λb u q n _ _=>⟨u.slots,k b u (hb b n) q⟩,λb u q n _=>by rw[ag (y b n)];exact n,λb u q _=>?_,
  λb t q=>by rw[ag (m b _ q λz=>z)];exact q,λb u t q=>by rw[ag (m b _ q λz=>z)];exact q,λb ps q=>⟨#[],by rw[ag (m b _ q λz=>z),q];simp⟩⟩
 by_cases l:b=e
 .simp_all
 .exact⟨u,k b u l q⟩
end
noncomputable def trk(h:aaM)(H:Hp):List Addr:=(aaH h.objs.size).filter λa=>(H a).isSome
noncomputable def hidT(h:aaM)(H:Hp):aaM:=PySem.W.hideAll h (trk h H)
theorem ym(h:aaM)(H:Hp):(hidT h H).objs.size=h.objs.size:=PySem.W.hideAll_size _ _
theorem Dg{o:Obj}(e:h.get? b=some o)(n:H b=none):(hidT h H).get? b=some o:=
 PySem.W.hideAll_get _ e λd=>by
  have q:=(List.mem_filter.mp d).2;rw[n]at q;simp at q
theorem JB{o:Obj}(e:(hidT h H).get? b=some o):h.get? b=some o/\H b=none:=by
 have d:=PySem.W.of_hideAll _ e;refine⟨d,?_⟩
 cases q:H b with
 |none=>rfl
 |some x=>
  have k:b∈trk h H:=List.mem_filter.mpr ⟨ady.mpr (aaa d),by simp[q]⟩;have z:(hidT h H).get? b=none:=PySem.W.hideAll_none _ k
  grind
structure Mod(K:Mt)(mg:Str->Option mT)(base:aaM):Prop where
 kin:K.In base
 glob:base.Ns aao mg
 blt:∃mb,base.Ns builtinsNs mb/\∀x:Str,x ≠ "__name__" -> mb x=abe x
 nolimit:base.NoLimit
 sys:∃m,base.Ns abD m
inductive Ao where
 |L (a:Addr)|T (t:List (List Nat×Addr))
structure EB where
 np:Nat
 be:List Ao
 H:Hp
structure Cx where
 prog:aaB
 w:World
 K:Mt
 mg:Str->Option mT
 base:aaM
 A:aa4
 N:List Str
 s₀:oR
 H₀:Hp
 env:Env
 outer:List Env
 stack:List Env
 ex:List Addr
 fn:Str->Bool
 calm:Bool
 pn:List (Addr×Obj)
 xe:mT->oR->Prop
 eb:EB:=⟨0,[],λ_=>none⟩
noncomputable def frs(l:List Env):List Addr:=l.filterMap (·.frame)
noncomputable abbrev Cx.fs(X:Cx):List Addr:=frs X.outer
noncomputable def Vis(sc:Scope)(x:Str):Prop:=sc.names.lookup x=some .local\/sc.names.lookup x=some .cell\/sc.names.lookup x=some .free
noncomputable def Loc(sc:Scope)(x:Str):Prop:=sc.names.lookup x=some .local\/sc.names.lookup x=some .cell
noncomputable def Look(env:Env)(h:aaM)(m:Str->Option mT)(x:Str)(u:mT):Prop:=
 (env.kindOf x=some .local/\m x=some u)\/((env.kindOf x=some .cell\/env.kindOf x=some .free)/\∃c,env.cells.lookup x=some c/\h.IsCell c (some u))
structure Cx.Ok(X:Cx):Prop where
 mod:Mod X.K X.mg X.base
 kind:X.env.scope.kind = .function
 glob:X.env.globals=aao
 blt:X.env.builtins=builtinsNs
 above:X.s₀.heap.objs.size≤X.env.locals
 inj:∀x y c,X.env.cells.lookup x=some c->X.env.cells.lookup y=some c->x=y
 has:∀x,(X.env.kindOf x=some .cell\/X.env.kindOf x=some .free)->∃c,X.env.cells.lookup x=some c
 cab:∀x c,X.fn x=true->X.env.cells.lookup x=some c->X.s₀.heap.objs.size≤c
 hd:X.calm=true->X.A.handled=none
 frames:X.A.frames=some X.stack
 stk:X.stack=X.outer\/(X.stack=X.env::X.outer/\X.env.frame=some X.env.locals)
 exf:∀b∈X.ex,b≠X.env.locals/\∀x c,X.env.cells.lookup x=some c->c≠b
 bs:∀b o,X.base.get? b=some o->X.s₀.heap.get? b=some o/\X.H₀ b=none
 bsz:X.base.objs.size≤X.s₀.heap.objs.size
 noex:∀b o,X.base.get? b=some o->b∉X.ex
 exfs:∀b∈X.ex,b∉X.fs
 funs:X.s₀.heap.FunFrames X.base X.outer
 frf:∀b∈X.fs,X.H₀ b=none
structure Inv(X:Cx)(pins:List (Addr×Obj))(σ:List (Option V))(H:Hp)(s:oR):Prop where
 ok:X.Ok
 os:s.os=X.s₀.os
 bare:aeI s.gens
 base:Un X.fs X.ex X.H₀ H X.s₀.heap s.heap
 loc:∃m,s.heap.Ns X.env.locals m/\∀(i:Nat) (x:Str) (v:V),X.N[i]?=some x->σ[i]?=some (some v)->Vis X.env.scope x->∃u,RelV v u/\Look X.env s.heap m x u
 cell:∀x c,X.env.cells.lookup x=some c->∃v,s.heap.IsCell c v
 free:H X.env.locals=none
 freeC:∀x c,X.env.cells.lookup x=some c->H c=none
 pin:∀p∈X.pn++pins,s.heap.get? p.1=some p.2/\H p.1=none/\p.1≠X.env.locals/\p.1∉X.fs/\∀v,p.2.data≠.cell v
 hok:HOk X.prog X.w H s.heap
 len:σ.length=X.N.length
section
variable {X:Cx}{f:List (Addr×Obj)}{g:List (Option V)}{H w:Hp}{s:oR}{h':aaM}
theorem Cx.Ok.nofr(ok:X.Ok){o:Obj}(e:X.base.get? b=some o):b∉X.fs:=λhb=>by
 have:=(ok.funs.mem hb).1
 grind
theorem Inv.bs(I:Inv X f g H s):∀b o,X.base.get? b=some o->s.heap.get? b=some o/\H b=none:=λb o e=>
 ⟨I.base.keep b o (I.ok.bs b o e).1 (I.ok.bs b o e).2 (I.ok.nofr e) (I.ok.noex b o e),I.base.free b o (I.ok.bs b o e).1 (I.ok.bs b o e).2 (I.ok.noex b o e)⟩
theorem Inv.bk(I:Inv X f g H s):∀b o,X.base.get? b=some o->s.heap.get? b=some o:=λb o e=>(I.bs b o e).1
theorem Inv.mod(I:Inv X f g H s):Mod X.K X.mg X.base:=I.ok.mod
theorem Inv.kIn(I:Inv X f g H s):X.K.In s.heap:=I.ok.mod.kin.keeps I.bk
theorem Inv.lt(I:Inv X f g H s):X.env.locals<s.heap.objs.size:=let ⟨_,hn,_⟩:=I.loc;hn.lt
theorem Inv.sz(I:Inv X f g H s):X.s₀.heap.objs.size≤s.heap.objs.size:=aaj I.ok.above (aa0 I.lt)
theorem Inv.nofs(I:Inv X f g H s)(h:s.heap.objs.size≤a):a∉X.fs:=λhb=>by
 obtain⟨_,o,ho,_⟩:=I.ok.funs.mem hb;exact absurd (aah (aaa ho) (aaj I.sz h)) (ac9 _)
theorem Inv.cne(I:Inv X f g H s):∀x c,X.env.cells.lookup x=some c->c≠X.env.locals:=λx c e z=>by
 obtain⟨v,o,ho,hd⟩:=I.cell x c e;obtain⟨m,⟨l,es,n,k,d,_⟩,_⟩:=I.loc
 grind
theorem Inv.funs(I:Inv X f g H s):s.heap.FunFrames X.base X.outer:=by
 have all:∀l,(∀b∈frs l,b∈X.fs)->X.s₀.heap.FunFrames X.base l->s.heap.FunFrames X.base l:=by
  intro l
  induction l with
  |nil=>intro _ _;trivial
  |cons env r m=>
   intro hs q;obtain⟨p,⟨L,o,k,n,ho,hd⟩,hr⟩:=q;have d:=hs L (by unfold frs;rw[afd,k];exact GE);obtain⟨t,e⟩:=I.base.slot L o ho (I.ok.frf L d) d λz=>I.ok.exfs L z d;exact⟨p,⟨L,_,k,n,e,hd⟩,m (λb hb=>hs b (by unfold frs;rw[afd,k];exact Ge _ hb)) hr⟩
 exact all X.outer (λ_ hb=>hb) I.ok.funs
theorem Inv.stack(I:Inv X f g H s):s.heap.FunFrames X.base X.stack:=by
 rcases I.ok.stk with e|⟨e,d⟩
 .rw[e];exact I.funs
 .rw[e];obtain⟨m,k,_⟩:=I.loc;refine .cons (by rw[I.ok.kind];decide) d k ?_ I.funs;exact acv (aaj I.ok.bsz I.ok.above)
theorem Inv.stkSub(I:Inv X f g H s):∀b∈frs X.stack,b∈X.env.locals::X.fs:=λb hb=>by
 rcases I.ok.stk with e|⟨e,d⟩
 .rw[e]at hb;exact Ge _ hb
 .rw[e]at hb;unfold frs at hb;rw[afd,d]at hb;exact hb
theorem Inv.stkFree(I:Inv X f g H s):∀b∈frs X.stack,H b=none:=λb hb=>by
 rcases aai.mp (I.stkSub b hb)with e|hb
 .rw[e];exact I.free
 .obtain⟨_,o,ho,_⟩:=I.ok.funs.mem hb;exact I.base.free b o ho (I.ok.frf b hb) λz=>I.ok.exfs b z hb
theorem Inv.step{d':Drawn}(I:Inv X f g H s)
  (B:∀b∈ch,(b∈X.ex\/X.s₀.heap.objs.size≤b)/\b≠X.env.locals/\(∀x c,X.env.cells.lookup x=some c->c≠b)/\∀p∈X.pn++f,p.1≠b)
  (keep:∀b o,b≠X.env.locals->b∉X.fs->b∉ch->s.heap.get? b=some o->H b=none->h'.get? b=some o)
  (slot:∀b o,b≠X.env.locals->b∈X.fs->b∉ch->s.heap.get? b=some o->H b=none->∃R,h'.get? b=some {o with slots:=R}) (free:∀b o,b∉ch->s.heap.get? b=some o->H b=none->w b=none)
  (there:∀b o,b∉ch->s.heap.get? b=some o->∃J,h'.get? b=some J)
  (tups:∀b xs,H b=some (.tup xs)->w b=some (.tup xs)) (frzs:∀b o u,H b=some (.frz o u)->w b=some (.frz o u)) (tbls:∀b ps,H b=some (.tbl ps)->∃more,w b=some (.tbl (ps++more)))
  (ns:∀m,s.heap.Ns X.env.locals m->h'.Ns X.env.locals m) (hok:HOk X.prog X.w w h') (V:aeI g') :
  Inv X f g w {s with heap:=h',gens:=g',drawn:=d',toks:=t' }:=by
 have O:∀b o,X.s₀.heap.get? b=some o->b≠X.env.locals:=λb o e=>aaG (aah (aaa e) I.ok.above);have G:∀b o,X.s₀.heap.get? b=some o->b∉X.ex->b∉ch:=λb o e t hb=>by
  rcases (B b hb).1 with z|z
  .exact t z
  .exact absurd (aah (aaa e) z) (ac9 _)
 have y:∀x c,X.env.cells.lookup x=some c->∀v,s.heap.IsCell c v->h'.IsCell c v:=by
  rintro x c e v ⟨o,ho,hd⟩;have D:c∉ch:=λz=>(B c z).2.2.1 x c e rfl
  by_cases T:c∈X.fs
  .obtain⟨R,q⟩:=slot c o (I.cne x c e) T D ho (I.freeC x c e);exact⟨_,q,hd⟩
  .exact⟨o,keep c o (I.cne x c e) T D ho (I.freeC x c e),hd⟩
 refine⟨I.ok,I.os,V,⟨λb o e n hb t=>?_,λb o e n hb t=>?_,λb o e n t=>?_,λb o e t=>?_,λb xs e=>tups b xs (I.base.tups b xs e),λb o xs e=>frzs b o xs (I.base.frzs b o xs e),λb ps e=>?_⟩,?_,λx c e=>?_,?_,λx c e=>?_,λp hp=>?_,hok,I.len⟩
 .exact keep b o (O b o e) hb (G b o e t) (I.base.keep b o e n hb t) (I.base.free b o e n t)
 .obtain⟨R,F⟩:=I.base.slot b o e n hb t;obtain⟨S,L⟩:=slot b _ (O b o e) hb (G b o e t) F (I.base.free b o e n t);exact⟨S,L⟩
 .obtain⟨J,F⟩:=I.base.there b o e t;exact free b J (G b o e t) F (I.base.free b o e n t)
 .obtain⟨J,F⟩:=I.base.there b o e t;exact there b J (G b o e t) F
 .obtain⟨m1,F⟩:=I.base.tbls b ps e;obtain⟨m2,L⟩:=tbls b _ F;exact⟨m1++m2,by rw[L,ahe]⟩
 .obtain⟨m,hn,hl⟩:=I.loc;refine⟨m,ns m hn,λi x v F L U=>?_⟩;obtain⟨u,r,l⟩:=hl i x v F L U;refine⟨u,r,?_⟩;rcases l with l|⟨k,c,e,z⟩
  .exact .inl l
  .exact .inr ⟨k,c,e,y x c e _ z⟩
 .obtain⟨v,z⟩:=I.cell x c e;exact⟨v,y x c e v z⟩
 .obtain⟨m,⟨o,_,_,ho,_⟩,_⟩:=I.loc;exact free _ o (λz=>(B _ z).2.1 rfl) ho I.free
 .obtain⟨v,o,ho,hd⟩:=I.cell x c e;exact free c o (λz=>(B c z).2.2.1 x c e rfl) ho (I.freeC x c e)
 .obtain⟨e,n,ne,nf,d⟩:=I.pin p hp;have D:p.1∉ch:=λz=>(B p.1 z).2.2.2 p hp rfl;exact⟨keep p.1 p.2 ne nf D e n,free p.1 p.2 D e n,ne,nf,d⟩
theorem Inv.un(I:Inv X f g H s)(u:Un X.fs [] H w s.heap h')(hok:HOk X.prog X.w w h'):Inv X f g w {s with heap:=h',toks:=t' }:=by
 obtain⟨m,⟨o,es,B,ho,r⟩,_⟩:=id I.loc;obtain⟨D,q⟩:=u.any ho I.free (by simp);exact I.step (g':=s.gens) (d':=s.drawn) (ch:=[]) (λ_ z=>nomatch z) (λb o _ hb _ e n=>u.keep b o e n hb (by simp)) (λb o _ hb _ e n=>u.slot b o e n hb (by simp)) (λb o _ e n=>u.free b o e n (by simp)) (λb o _ e=>u.there b o e (by simp)) u.tups u.frzs u.tbls (λF p=>by
  obtain⟨y,l,k,d,t⟩:=p;rw[ho]at d;cases d;exact⟨_,l,k,q,t⟩) hok I.bare
theorem Inv.call{d':Drawn}(I:Inv X f g H s)(u:Un (frs X.stack) ch H w s.heap h')(hok:HOk X.prog X.w w h')(F:aeI g')
  (k:∀b∈ch,(b∈X.ex\/X.s₀.heap.objs.size≤b)/\b≠X.env.locals/\(∀x c,X.env.cells.lookup x=some c->c≠b)/\∀p∈X.pn++f,p.1≠b) :
  Inv X f g w {s with heap:=h',gens:=g',drawn:=d',toks:=t' }:=by
 obtain⟨m,⟨o,es,J,ho,r⟩,_⟩:=id I.loc;obtain⟨L,t⟩:=u.any ho I.free λz=>(k _ z).2.1 rfl;exact I.step k (λb o t hb d e n=>u.keep b o e n (λz=>(aai.mp (I.stkSub b z)).elim t hb) d) (λb o _ _ d e n=>u.any e n d) (λb o d e n=>u.free b o e n d) (λb o d e=>u.there b o e d) u.tups u.frzs u.tbls (λO B=>by
  obtain⟨G,y,q,l,D⟩:=B;rw[ho]at l;cases l;exact⟨_,y,q,t,D⟩) hok F
theorem Inv.turned{d:Addr}(I:Inv X f g H s)(k:∀b o,b≠d->s.heap.get? b=some o->h'.get? b=some o)(B:H d=none)(y:d≠X.env.locals)
  (G:d∈X.ex\/X.s₀.heap.objs.size≤d) (J:∀x c,X.env.cells.lookup x=some c->c≠d) (F:∀p∈X.pn++f,p.1≠d):Inv X f g H {s with heap:=h',toks:=t' }:=by
 have t:∀b u,H b=some u->b≠d:=λb u e z=>by rw[z,B]at e;cases e
 refine I.step (g':=s.gens) (d':=s.drawn) (ch:=[d]) (λb hb=>?_) (λb o _ _ l e _=>k b o (λz=>l (by simp[z])) e) (λb o _ _ l e _=>⟨o.slots,k b o (λz=>l (by simp[z])) e⟩) (λ_ _ _ _ n=>n)
  (λb o l e=>⟨o,k b o (λz=>l (by simp[z])) e⟩) (λ_ _ e=>e) (λ_ _ _ e=>e) (λb ps e=>⟨#[],by rw[e];simp⟩) (λm D=>?_) (λb u e=>?_) I.bare
 .have e:=by simpa using hb
  subst e;exact⟨G,y,J,F⟩
 .obtain⟨o,es,ep,ho,r⟩:=D;exact⟨o,es,ep,k _ o (aa5 y) ho,r⟩
 .refine(I.hok b u e).stay (λc v l q=>k c v ?_ q) (λ_ q=>q) λ_ _ q=>q;rcases l with z|z
  .rw[z];exact t b u e
  .exact t c _ z
theorem Inv.tok(I:Inv X f g H s)(t:Nat):Inv X f g H {s with toks:=t}:=I.un (h':=s.heap) (t':=t) Un.refl I.hok
theorem Inv.kept(I:Inv X f g H s)(k:∀b u,s.heap.get? b=some u->h'.get? b=some u):Inv X f g H {s with heap:=h',toks:=t' }:=I.un (Un.kept k) (I.hok.kept k)
theorem Inv.laid(I:Inv X f g H s)(k:∀b u,s.heap.get? b=some u->h'.get? b=some u)(hp:s.heap.objs.size≤a)(new:ObjOk X.prog X.w (upd H a o) h' a o) :
  Inv X f g (upd H a o) {s with heap:=h',toks:=t' }:=I.un (Un.laid k hp (I.hok.fresh hp)) (I.hok.laid k hp new)
theorem Inv.write{x e:Addr}(I:Inv X f g H s)(m:Mut (H x))(l:e=x\/H e=some (.own x))(k:∀b u,b≠e->s.heap.get? b=some u->h'.get? b=some u)(d:∃u,h'.get? e=some u)
  (new:ObjOk X.prog X.w (upd H x o) h' x o):Inv X f g (upd H x o) {s with heap:=h',toks:=t' }:=I.un (Un.write m l k d) (I.hok.write m l k d new)
theorem Inv.pins_of{d:List (Addr×Obj)}(I:Inv X f g H s)(h:∀p∈d,s.heap.get? p.1=some p.2/\H p.1=none/\p.1≠X.env.locals/\p.1∉X.fs/\∀v,p.2.data≠.cell v):Inv X d g H s:=
 ⟨I.ok,I.os,I.bare,I.base,I.loc,I.cell,I.free,I.freeC,λp hp=>(aaK.mp hp).elim (λz=>I.pin p (acw _ z)) (h p),I.hok,I.len⟩
theorem uJ(k:N.Nodup)(a:N[i]?=some x)(b:N[j]?=some x):i=j:=by
 obtain⟨m,l⟩:=Io.mp a;obtain⟨n,d⟩:=Io.mp b;exact(List.getElem_inj k).mp (l.trans d.symm)
theorem pf{Q:Unit->oR->Prop}(I:Inv X f g H s)(hN:X.N.Nodup)(S:X.N[i]?=some x)(D:Loc X.env.scope x)(r:RelV v u)
  (h:∀s',Inv X f (g.set i (some v)) H s'->(∃a,abk a s.heap s'.heap/\(a=X.env.locals\/X.env.cells.lookup x=some a))->Q () s') (hf:X.fn x=true\/X.env.scope.names.lookup x=some .local:=by first|exact .inl rfl|exact .inr rfl|assumption):wpAny M A (storeName X.env x u) Q E s:=by
 obtain⟨m,hn,hl⟩:=id I.loc;have R:(X.env.scope.kind == .class||(X.env.scope.kind == .module&&X.env.locals != X.env.globals))=false:=by rw[I.ok.kind];rfl
 have L:i<g.length:=by rw[I.len];exact(Io.mp S).1
 have cne:=I.cne;have t:∀{a:Addr}{h':aaM},(∃o,s.heap.get? a=some o/\H a=none)->abk a s.heap h'->HOk X.prog X.w H h':=λ{a h'} ha hs b ob e=>by
  obtain⟨_,_,F⟩:=ha;refine(I.hok b ob e).stay (λc W B q=>(hs.2 c ?_).trans q) (λ_ q=>q) λ_ _ q=>q;rintro rfl;rcases B with rfl|B
  .rw[F]at e;cases e
  .rw[F]at B;cases B
 rcases D with J|J
 .refine wpAny_storeName_local J hn (λh' hn' hs=>?_) R;obtain⟨oL,_,_,Y,_⟩:=id hn;refine h _ ⟨I.ok,I.os,I.bare,⟨λb o e n hb D=>?_,λb o e n hb D=>?_,I.base.free,λb o e D=>?_,I.base.tups,I.base.frzs,I.base.tbls⟩,⟨_,hn',λj y Z l G e3=>?_⟩,λy c e=>?_,I.free,I.freeC,λp hp=>?_,t ⟨oL,Y,I.free⟩ hs,by simpa using I.len⟩ ⟨_,hs,.inl rfl⟩
  .exact(hs.2 b (aaG (aah (aaa e) I.ok.above))).trans (I.base.keep b o e n hb D)
  .obtain⟨sl,l⟩:=I.base.slot b o e n hb D;exact⟨sl,(hs.2 b (aaG (aah (aaa e) I.ok.above))).trans l⟩
  .obtain⟨o',l⟩:=I.base.there b o e D;exact⟨o',(hs.2 b (aaG (aah (aaa e) I.ok.above))).trans l⟩
  .by_cases hj:j=i
   .subst hj;rw[S]at l;cases l;rw[aa2 L]at G;cases G;exact⟨u,r,.inl ⟨J,by simp⟩⟩
   .rw[aaT (aa5 hj)]at G;obtain⟨u',r',q⟩:=hl j y Z l G e3;refine⟨u',r',?_⟩;rcases q with⟨k,e⟩|⟨k,c,e,z⟩
    .refine .inl ⟨k,?_⟩;have:y≠x:=λe=>hj (uJ hN l (e▸S));simp[this,e]
    .exact .inr ⟨k,c,e,z.sameBut hs (cne y c e)⟩
  .obtain⟨W,z⟩:=I.cell y c e;exact⟨W,z.sameBut hs (cne y c e)⟩
  .obtain⟨e,n,ne,nf,d⟩:=I.pin p hp;exact⟨(hs.2 p.1 ne).trans e,n,ne,nf,d⟩
 .have hfn:X.fn x=true:=by
   rcases hf with z|z
   .exact z
   .rw[z]at J;cases J
  obtain⟨c,B⟩:=I.ok.has x (.inl J);obtain⟨W,z⟩:=I.cell x c B;refine wpAny_storeName_cell I.ok.kind J B z (λh' U hs=>?_);obtain⟨oc,O,T⟩:=id z;refine h {s with heap:=h' } ⟨I.ok,I.os,I.bare,⟨λb o e n hb D=>?_,λb o e n hb D=>?_,I.base.free,λb o e D=>?_,I.base.tups,I.base.frzs,I.base.tbls⟩,⟨m,hn.sameBut hs (aa5 (cne x c B)),λj y Z l G e3=>?_⟩,λy V e=>?_,I.free,I.freeC,λp hp=>?_,t ⟨oc,O,I.freeC x c B⟩ hs,by simpa using I.len⟩ ⟨c,hs,.inr B⟩
  .exact(hs.2 b (aaG (aah (aaa e) (I.ok.cab x c hfn B)))).trans (I.base.keep b o e n hb D)
  .obtain⟨sl,l⟩:=I.base.slot b o e n hb D;exact⟨sl,(hs.2 b (aaG (aah (aaa e) (I.ok.cab x c hfn B)))).trans l⟩
  .obtain⟨o',l⟩:=I.base.there b o e D;exact⟨o',(hs.2 b (aaG (aah (aaa e) (I.ok.cab x c hfn B)))).trans l⟩
  .by_cases hj:j=i
   .subst hj;rw[S]at l;cases l;rw[aa2 L]at G;cases G;exact⟨u,r,.inr ⟨.inl J,c,B,U⟩⟩
   .rw[aaT (aa5 hj)]at G;obtain⟨u',r',q⟩:=hl j y Z l G e3;refine⟨u',r',?_⟩;rcases q with q|⟨k,V,e,z'⟩
    .exact .inl q
    .refine .inr ⟨k,V,e,z'.sameBut hs ?_⟩;rintro rfl;exact hj (uJ hN l (I.ok.inj _ _ _ e B▸S))
  .by_cases hcc:V=c
   .subst hcc;exact⟨_,U⟩
   .obtain⟨w2,z2⟩:=I.cell y V e;exact⟨w2,z2.sameBut hs hcc⟩
  .obtain⟨e,n,ne,nf,d⟩:=I.pin p hp;refine⟨(hs.2 p.1 ?_).trans e,n,ne,nf,d⟩;intro q;rw[q,O]at e;have q':oc=p.2:=aal e;exact d W (by rw[<-q'];exact T)
theorem ig{Q:Unit->oR->Prop}(I:Inv X f g H s)(n:X.N.Nodup)(k:X.N[i]?=some x)(l:Loc X.env.scope x)(r:RelV v u)
  (h:∀s',Inv X f (g.set i (some v)) H s'->Q () s') (d:X.fn x=true\/X.env.scope.names.lookup x=some .local:=by first|exact .inl rfl|exact .inr rfl|assumption):wpAny M A (storeName X.env x u) Q E s:=
 pf I n k l r (λs' m _=>h s' m) d
theorem Inv.call'{s':oR}(I:Inv X f g H s)(ho:s'.os=s.os)(u:Un (frs X.stack) ch H w s.heap s'.heap)(hok:HOk X.prog X.w w s'.heap)(k:aeI s'.gens)
  (d:∀b∈ch,(b∈X.ex\/X.s₀.heap.objs.size≤b)/\b≠X.env.locals/\(∀x c,X.env.cells.lookup x=some c->c≠b)/\∀p∈X.pn++f,p.1≠b):Inv X f g w s':=by
 obtain⟨h',g',d',t',l⟩:=s';have e:=ho;subst e;exact I.call (g':=g') (t':=t') (d':=d') u hok k d
end
noncomputable abbrev XK:=mT->Option Addr->Hp->Prop
noncomputable abbrev St:=List (Option V)
noncomputable abbrev VK:=V->Hp->Prop
noncomputable abbrev TE:=St->Hp->VK->Prop
noncomputable abbrev TT:=St->Hp->(Bool->Hp->Prop)->Prop
noncomputable abbrev TA:=St->Hp->(List V->Hp->Prop)->Prop
structure Ends where
 nx:St->Hp->Prop
 rt:VK
 bk:St->Hp->Prop:=λ_ _=>False
 ct:St->Hp->Prop:=λ_ _=>False
noncomputable abbrev TS:=Ends->St->Hp->Prop
noncomputable def EP(X:Cx)(pins:List (Addr×Obj))(σ:St)(Q:VK)(u:mT)(s':oR):Prop:=∃v d,Inv X pins σ d s'/\RelV v u/\Q v d
noncomputable def TP(X:Cx)(pins:List (Addr×Obj))(σ:St)(Q:Bool->Hp->Prop)(b:Bool)(s':oR):Prop:=∃d,Inv X pins σ d s'/\Q b d
noncomputable def AP(X:Cx)(pins:List (Addr×Obj))(σ:St)(Q:List V->Hp->Prop)(us:List mT)(s':oR):Prop:=∃vs d,Inv X pins σ d s'/\Vals vs us/\Q vs d
noncomputable def SP(X:Cx)(pins:List (Addr×Obj))(D:Ends)(f:Flow)(s':oR):Prop:=
 match f with
 | .next=>∃d k,Inv X pins d k s'/\D.nx d k
 | .brk=>∃d k,Inv X pins d k s'/\D.bk d k
 | .cont=>∃d k,Inv X pins d k s'/\D.ct d k
 | .ret u=>∃v d k,Inv X pins d k s'/\RelV v u/\D.rt v k
noncomputable def PE(X:Cx)(e:Expr)(t:TE):Prop:=
 ∀(pins:List (Addr×Obj)) (s:oR) (σ:St) (H:Hp) (Q:VK),Inv X pins σ H s->t σ H Q->wpAny (model X.prog X.w) X.A (eval e X.env) (EP X pins σ Q) X.xe s
noncomputable def PT(X:Cx)(e:Expr)(t:TT):Prop:=
 ∀(pins:List (Addr×Obj)) (s:oR) (σ:St) (H:Hp) (Q:Bool->Hp->Prop),Inv X pins σ H s->t σ H Q->wpAny (model X.prog X.w) X.A (isTrue e X.env (eval e X.env)) (TP X pins σ Q) X.xe s
noncomputable def PW(X:Cx)(e:Expr)(t:TT):Prop:=
 ∀(d:Sem mT) (pins:List (Addr×Obj)) (s:oR) (σ:St) (H:Hp) (Q:Bool->Hp->Prop),Inv X pins σ H s->t σ H Q->wpAny (model X.prog X.w) X.A (isTrue e X.env d) (TP X pins σ Q) X.xe s
theorem PW.pt{t:TT}(h:PW X e t):PT X e t:=h _
noncomputable def PA(X:Cx)(es:List Expr)(t:TA):Prop:=
 ∀(pos:Pos) (pins:List (Addr×Obj)) (s:oR) (σ:St) (H:Hp) (Q:List V->Hp->Prop),Inv X pins σ H s->t σ H Q->wpAny (model X.prog X.w) X.A (spliced (ab1 pos (aad es X.env))) (AP X pins σ Q) X.xe s
noncomputable def PS(X:Cx)(st:Stmt)(t:TS):Prop:=
 ∀(pins:List (Addr×Obj)) (s:oR) (σ:St) (H:Hp) (D:Ends),Inv X pins σ H s->t D σ H->wpAny (model X.prog X.w) X.A (exec st X.env) (SP X pins D) X.xe s
noncomputable def PSs(X:Cx)(st:List Stmt)(t:TS):Prop:=
 ∀(pins:List (Addr×Obj)) (s:oR) (σ:St) (H:Hp) (D:Ends),Inv X pins σ H s->t D σ H->wpAny (model X.prog X.w) X.A (execs st X.env) (SP X pins D) X.xe s
theorem thn{d:Type}{t:Sem d}{Q k:d->oR->Prop}{s:oR}(h:wpAny M A t Q E s)(l:∀a s,Q a s->k a s):wpAny M A t k E s:=abP h l λ_ _ x=>x
section
variable {X:Cx}
noncomputable def tVar(i:Nat):TE:=λσ H Q=>∃v,σ[i]?=some (some v)/\Q v H
noncomputable def tC(v:V):TE:=λ_ H Q=>Q v H
theorem Cf(z:X.N[i]?=some x)(B:Vis X.env.scope x)(hd:(x==("__debug__" : Str))=false:=by decide)(p:(x==("__classdict__" : Str))=false:=by decide):PE X (.Name x pos) (tVar i):=by
 intro pins s σ H Q I h;obtain⟨v,e,h⟩:=h;obtain⟨m,y,D⟩:=I.loc;obtain⟨u,r,l⟩:=D i x v z e B;have k:EP X pins σ Q u s:=⟨v,H,I,r,h⟩;rcases l with⟨n,t⟩|⟨n,c,q,d⟩
 .exact wpAny_Name (wpAny_loadName_local I.ok.kind n y t k) hd
 .rcases n with n|n
  .exact wpAny_Name (wpAny_loadName_cell I.ok.kind n q d k) hd
  .exact wpAny_Name (wpAny_loadName_free I.ok.kind n q d k p) hd
theorem UJ{i j pos}:PE X (.Constant (.int i) j pos) (tC (.int i)):=λ_ _ _ H _ I h=>wpAny_Constant_int ⟨.int i,H,I.tok _,⟨_,rfl⟩,h⟩
theorem V6{b j pos}:PE X (.Constant (.bool b) j pos) (tC (.bl b)):=λ_ _ _ H _ I h=>Constant_bool ⟨.bl b,H,I,rfl,h⟩
theorem Rg{j pos}:PE X (.Constant .none j pos) (tC .non):=λ_ _ _ H _ I h=>Constant_none ⟨.non,H,I,rfl,h⟩
theorem Pg{x j pos}:PE X (.Constant (.str x) j pos) (tC (.str x)):=λ_ _ _ H _ I h=>Calls.Constant_str ⟨.str x,H,I.tok _,⟨_,rfl⟩,h⟩
noncomputable def Gl(X:Cx)(x:Str):Prop:=X.env.kindOf x=some .globalImplicit
theorem j7{s:oR}(I:Inv X pins σ H s)(d:Gl X x)(k:X.mg x=some u)(h:Q u s)
  (hd:(x==("__debug__" : Str))=false:=by decide):wpAny (model X.prog X.w) X.A (eval (.Name x pos) X.env) Q E s:=
 afm I.ok.kind d (Calls.loadGlobal_global (by rw[I.ok.glob];exact I.mod.glob.keeps I.bk) k h) hd
theorem ls{s:oR}(I:Inv X pins σ H s)(n:Gl X x)(d:X.mg x=none)(l:abe x=some u)(h:Q u s)
  (k:x ≠ "__name__":=by decide) (hd:(x==("__debug__" : Str))=false:=by decide):wpAny (model X.prog X.w) X.A (eval (.Name x pos) X.env) Q E s:=by
 obtain⟨q,m,p⟩:=I.mod.blt;exact afm I.ok.kind n (Calls.loadGlobal_builtin (by rw[I.ok.glob];exact I.mod.glob.keeps I.bk) d (by rw[I.ok.blt];exact m.keeps I.bk) ((p x k).trans l) h) hd
theorem NR(d:Gl X x)(k:X.mg x=some u)(r:RelV v u)(hd:(x==("__debug__" : Str))=false:=by decide):PE X (.Name x pos) (tC v):=
 λ_ _ _ H _ I h=>j7 I d k ⟨v,H,I,r,h⟩ hd
variable {a b:Expr}{k tb:TE}{pos:Pos}
noncomputable def tB(t:TE):TT:=λσ H Q=>t σ H λx d=>∃c,x = .bl c/\Q c d
theorem TZ{t:TE}(h:PE X e t)(m:∀l,isTrue e X.env l=(do let v <- l;adv e.pos;adw [v] (truthy v)):=by intro _;rfl):PT X e (tB t):=by
 intro pins s σ H Q I y;refine isTrue_plain (thn (h pins s σ H _ I y) λv s1 ⟨x,z,n,r1,p⟩=>?_) (m _);obtain⟨d,rfl,q⟩:=p;cases r1;exact wpAny_truthy_bool ⟨z,n,q⟩
variable {f g:TT}{rest:List Expr}
noncomputable def tAnd(t u:TT):TT:=λσ H Q=>t σ H λc d=>if c=true then u σ d Q else Q false d
noncomputable def tOr(t u:TT):TT:=λσ H Q=>t σ H λc d=>if c=true then Q true d else u σ d Q
noncomputable def tNot(t:TT):TT:=λσ H Q=>t σ H λc d=>Q (!c) d
theorem LS(ha:PT X a f):PW X (.BoolOp .And [a] pos) f:=by
 intro d pins s σ H Q I h;refine isTrue_and (thn (ha pins s σ H Q I h) λc s1 e=>?_)
 cases c with
 |true=>exact isTrue_and_nil e
 |false=>exact e
theorem Qc(ha:PT X a f):PW X (.BoolOp .Or [a] pos) f:=by
 intro d pins s σ H Q I h;refine isTrue_or (thn (ha pins s σ H Q I h) λc s1 e=>?_)
 cases c with
 |false=>exact isTrue_or_nil e
 |true=>exact e
theorem RG(ha:PT X a f)(hb:PW X (.BoolOp .And (b::rest) pos) g):PW X (.BoolOp .And (a::b::rest) pos) (tAnd f g):=by
 intro m pins s σ H Q I h;refine isTrue_and (thn (ha pins s σ H _ I h) λc s1 ⟨d,l,q⟩=>?_)
 cases c with
 |true=>exact hb m pins s1 σ d Q l q
 |false=>exact⟨d,l,q⟩
theorem V3(ha:PT X a f)(hb:PW X (.BoolOp .Or (b::rest) pos) g):PW X (.BoolOp .Or (a::b::rest) pos) (tOr f g):=by
 intro m pins s σ H Q I h;refine isTrue_or (thn (ha pins s σ H _ I h) λc s1 ⟨d,l,q⟩=>?_)
 cases c with
 |true=>exact⟨d,l,q⟩
 |false=>exact hb m pins s1 σ d Q l q
theorem Uj(ha:PT X a f):PT X (.UnaryOp .Not a pos) (tNot f):=by
 intro pins s σ H Q I h;exact isTrue_not (ha pins s σ H _ I h)
noncomputable def tIf(t:TT)(k tb:TE):TE:=λσ H Q=>t σ H λc d=>if c=true then k σ d Q else tb σ d Q
theorem Df(n:PT X c f)(ha:PE X a k)(hb:PE X b tb):PE X (.IfExp c a b pos) (tIf f k tb):=by
 intro pins s σ H Q I h;refine wpAny_IfExp (thn (n pins s σ H _ I h) λd s1 ⟨l,m,q⟩=>?_)
 cases d with
 |true=>exact ha pins s1 σ l Q m q
 |false=>exact hb pins s1 σ l Q m q
end
noncomputable def SqL(K:Mt)(H:Hp)(a:Addr)(xs:List V):Prop:=
 Rd H a (.lst xs) \/
  ∃(o:Obj) (d:Array mT) (n:Nat),K.lookup a=some o/\o.cls = .type "list"/\o.dict=none/\o.data = .seq d n/\d.size≤aag/\Vals xs d.toList
noncomputable def SqT(K:Mt)(H:Hp)(a:Addr)(xs:List V):Prop:=
 Rd H a (.tup xs) \/
  ∃(o:Obj) (d:Array mT) (n:Nat),K.lookup a=some o/\o.cls = .type "tuple"/\o.dict=none/\o.data = .seq d n/\d.size≤aag/\Vals xs d.toList
noncomputable def absV:mT->Option V
 | .none=>some .non
 | .bool b=>some (.bl b)
 | .int i _=>some (.int i)
 | .str x _=>some (.str x)
 | .bytes b _=>some (.byt b)
 | .float b _=>some (.flt b)
 | .ref a=>some (.ref a)
 | .type n=>some (.ty n)
 |_=>none
theorem RelV.abs{x:V}(r:RelV x u):absV u=some x:=by
 cases x with
 |non=>cases r;rfl
 |bl _=>cases r;rfl
 |int _=>obtain⟨t,rfl⟩:=r;rfl
 |str _=>obtain⟨t,rfl⟩:=r;rfl
 |byt _=>obtain⟨t,rfl⟩:=r;rfl
 |flt _=>obtain⟨t,rfl⟩:=r;rfl
 |ref _=>cases r;rfl
 |ty _=>cases r;rfl
theorem RelV.inj{x y:V}(r:RelV x u)(q:RelV y u):x=y:=aal (r.abs.symm.trans q.abs)
theorem Vals.inj:∀{xs ys:List V}{us:List mT},Vals xs us->Vals ys us->xs=ys
 |_,_,_,.nil,.nil=>rfl
 |_,_,_,.cons r t,.cons r' t'=>by rw[r.inj r',Vals.inj t t']
section
variable {X:Cx}{b:List (Addr×Obj)}{c:St}{H:Hp}{s:oR}{a:Addr}{xs ys:List V}
theorem SqL.of(h:H a=some (.lst xs)):SqL K H a xs:=.inl (.inl h)
theorem SqT.of(h:H a=some (.tup xs)):SqT K H a xs:=.inl (.inl h)
theorem Inv.list(I:Inv X b c H s)(h:SqL X.K H a xs):∃d:List mT,Vals xs d/\PlainL s.heap a d.toArray/\xs.length≤aag:=by
 rcases h with h|⟨o,d,n,l,k,hd,hs,m,r⟩
 .obtain⟨z,d,n,r,e⟩:=h.ok I.hok;exact⟨d,r,⟨_,n,e,rfl,rfl,rfl⟩,z⟩
 .refine⟨d.toList,r,⟨o,n,I.kIn a o l,k,hd,by simpa using hs⟩,?_⟩;have e:=r.length
  grind
theorem Inv.tuple(I:Inv X b c H s)(h:SqT X.K H a xs):∃d:List mT,Vals xs d/\IsTup s.heap a d.toArray/\xs.length≤aag:=by
 rcases h with h|⟨o,d,n,l,k,hd,hs,m,r⟩
 .obtain⟨z,d,r,p⟩:=h.ok I.hok;exact⟨d,r,p.tup,z⟩
 .refine⟨d.toList,r,⟨o,I.kIn a o l,k,n,by simpa using hs⟩,?_⟩;have e:=r.length
  simp_all
theorem Inv.tupleP(I:Inv X b c H s)(h:SqT X.K H a xs):∃d:List mT,Vals xs d/\PlainT s.heap a d.toArray/\xs.length≤aag:=by
 rcases h with h|⟨o,d,n,l,k,hd,hs,m,r⟩
 .obtain⟨z,d,r,p⟩:=h.ok I.hok;exact⟨d,r,p,z⟩
 .refine⟨d.toList,r,⟨o,I.kIn a o l,k,hd,n,by simpa using hs⟩,?_⟩;have e:=r.length
  simp_all
theorem Inv.list_inj(I:Inv X b c H s)(h:SqL X.K H a xs)(h':SqL X.K H a ys):xs=ys:=by
 obtain⟨q,r,⟨o,n,e,_,_,d⟩,_⟩:=I.list h;obtain⟨m,p,⟨t,y,k,_,_,l⟩,_⟩:=I.list h';rw[e]at k;cases k;rw[d]at l;injection l with d1 _
 have:=by simpa using congrArg Array.toList d1
 subst this;exact r.inj p
theorem Inv.tuple_inj(I:Inv X b c H s)(h:SqT X.K H a xs)(h':SqT X.K H a ys):xs=ys:=by
 obtain⟨q,r,⟨o,e,_,n,d⟩,_⟩:=I.tuple h;obtain⟨m,p,⟨t,k,_,y,l⟩,_⟩:=I.tuple h';rw[e]at k;cases k;rw[d]at l;injection l with d1 _
 have:=by simpa using congrArg Array.toList d1
 subst this;exact r.inj p
end
noncomputable abbrev Cx.wish(X:Cx)(E:mT->oR->Prop):Cx:={X with xe:=E}
noncomputable abbrev Cx.nox(X:Cx):Cx:=X.wish λ_ _=>False
theorem Cx.Ok.wish(ok:X.Ok)(E:mT->oR->Prop):(X.wish E).Ok:=
 ⟨ok.mod,ok.kind,ok.glob,ok.blt,ok.above,ok.inj,ok.has,ok.cab,ok.hd,ok.frames,ok.stk,ok.exf,ok.bs,ok.bsz,ok.noex,ok.exfs,ok.funs,ok.frf⟩
theorem Cx.Ok.unwish(ok:(X.wish E).Ok):X.Ok:=
 ⟨ok.mod,ok.kind,ok.glob,ok.blt,ok.above,ok.inj,ok.has,ok.cab,ok.hd,ok.frames,ok.stk,ok.exf,ok.bs,ok.bsz,ok.noex,ok.exfs,ok.funs,ok.frf⟩
section
variable {X:Cx}{p:List (Addr×Obj)}{a:St}{H:Hp}{s:oR}{E:mT->oR->Prop}
theorem Inv.wish(I:Inv X p a H s)(E:mT->oR->Prop):Inv (X.wish E) p a H s:=⟨I.ok.wish E,I.os,I.bare,I.base,I.loc,I.cell,I.free,I.freeC,I.pin,I.hok,I.len⟩
theorem Inv.unwish(I:Inv (X.wish E) p a H s):Inv X p a H s:=⟨I.ok.unwish,I.os,I.bare,I.base,I.loc,I.cell,I.free,I.freeC,I.pin,I.hok,I.len⟩
theorem SP.unwish{D:Ends}{f:Flow}{s':oR}(h:SP (X.wish E) p D f s'):SP X p D f s':=by
 cases f with
 |next=>obtain⟨d,k,I,q⟩:=h;exact⟨d,k,I.unwish,q⟩
 |brk=>obtain⟨d,k,I,q⟩:=h;exact⟨d,k,I.unwish,q⟩
 |cont=>obtain⟨d,k,I,q⟩:=h;exact⟨d,k,I.unwish,q⟩
 |ret u=>obtain⟨v,d,k,I,r,q⟩:=h;exact⟨v,d,k,I.unwish,r,q⟩
theorem PSs.nox{st:List Stmt}{t:TS}(h:PSs X.nox st t):PSs X st t:=λp s a H D I d=>
 abP (h p s a H D (I.wish _) d) (λ_ _ q=>q.unwish) λ_ _ z=>abQ z
end
section
variable {X:Cx}{st:Stmt}{rest:List Stmt}{t u:TS}{e:Expr}{g:TE}{pos:Pos}
noncomputable def VY:TS:=λD σ H=>D.nx σ H
noncomputable def tSeq(t u:TS):TS:=λD σ H=>t {D with nx:=u D} σ H
theorem K7:PSs X [] VY:=λ_ _ σ H _ I h=>ad0 ⟨σ,H,I,h⟩
theorem Dm(k:PS X st t)(l:PSs X rest u):PSs X (st::rest) (tSeq t u):=by
 intro pins s σ H D I h;refine wpAny_execs_cons (thn (k pins s σ H {D with nx:=u D} I h) λf s1 q=>?_)
 cases f with
 |next=>
  obtain⟨d,n,m,q⟩:=q;exact l pins s1 d n D m q
 |ret v=>exact q
 |brk=>exact q
 |cont=>exact q
theorem Br(d:PS X st t):PSs X [st] t:=by
 intro pins s σ H D I h;refine wpAny_execs_cons (thn (d pins s σ H D I h) λf s1 q=>?_)
 cases f with
 |next=>exact ad0 q
 |ret v=>exact q
 |brk=>exact q
 |cont=>exact q
theorem Inv.quiet{s:oR}(I:Inv X pins σ H s):interactive X.env=false:=by simp[interactive,I.ok.kind]
noncomputable def Vq(g:TE):TS:=λD σ H=>g σ H λ_ d=>D.nx σ d
theorem JH(k:PE X e g)(hs:abH e none pos.line X.env=pure false:=by rfl):PS X (.Expr e pos) (Vq g):=by
 intro pins s σ H D I h;exact wpAny_Expr_any (thn (k pins s σ H _ I h)<|by rintro v s1 ⟨x,d,l,r1,q⟩;exact⟨σ,d,l,q⟩) I.quiet hs
noncomputable def tRet(g:TE):TS:=λD σ H=>g σ H D.rt
theorem Ux(k:PE X e g):PS X (.Return (some e) pos) (tRet g):=by
 intro pins s σ H D I h;exact wpAny_Return_some (thn (k pins s σ H _ I h)<|by rintro v s1 ⟨x,d,l,r1,q⟩;exact⟨x,σ,d,l,r1,q⟩)
noncomputable def tIfS(c:TT)(t u:TS):TS:=λD σ H=>c σ H λb d=>if b=true then t D σ d else u D σ d
theorem UT{a b:List Stmt}{k:TT}(n:PT X c k)(ha:PSs X a t)(hb:PSs X b u):PS X (.If c a b pos) (tIfS k t u):=by
 intro pins s σ H D I h;refine wpAny_If (thn (n pins s σ H _ I h) λd s1 ⟨m,l,q⟩=>?_)
 cases d with
 |true=>exact ha pins s1 σ m D l q
 |false=>exact hb pins s1 σ m D l q
noncomputable def Qr:TS:=λ_ _ _=>False
theorem H9:PS X st Qr:=λ_ _ _ _ _ _ h=>h.elim
end
noncomputable abbrev TG:=V->St->Hp->(St->Hp->Prop)->Prop
noncomputable abbrev TGs:=List V->St->Hp->(St->Hp->Prop)->Prop
noncomputable def PG(X:Cx)(d:Expr)(t:TG):Prop:=
 ∀(pins:List (Addr×Obj)) (s:oR) (σ:St) (H:Hp) (v:V) (u:mT) (Q:St->Hp->Prop),Inv X pins σ H s->RelV v u->t v σ H Q ->
  wpAny (model X.prog X.w) X.A (ad4 d X.env u) (λ_ m=>∃k l,Inv X pins k l m/\Q k l) X.xe s
noncomputable def PGs(X:Cx)(ts:List Expr)(t:TGs):Prop:=
 ∀(pins:List (Addr×Obj)) (s:oR) (σ:St) (H:Hp) (vs:List V) (us:List mT) (Q:St->Hp->Prop),Inv X pins σ H s->Vals vs us->t vs σ H Q ->
  wpAny (model X.prog X.w) X.A (assignInOrder ((abF ts X.env).map (·.2)) us) (λ_ l=>∃d k,Inv X pins d k l/\Q d k) X.xe s
noncomputable abbrev TSet:=V->V->V->Hp->(Hp->Prop)->Prop
noncomputable def PSet(X:Cx)(t:TSet):Prop:=
 ∀(pins:List (Addr×Obj)) (s:oR) (σ:St) (H:Hp) (o i v:V) (k d u:mT) (Q:Hp->Prop),Inv X pins σ H s->RelV o k->RelV i d->RelV v u->t o i v H Q ->
  wpAny (model X.prog X.w) X.A (ahq k d u) (λ_ m=>∃l,Inv X pins σ l m/\Q l) X.xe s
noncomputable abbrev TIp:=V->V->Hp->VK->Prop
noncomputable def PIp(X:Cx)(op:afn)(t:TIp):Prop:=
 ∀(pins:List (Addr×Obj)) (s:oR) (σ:St) (H:Hp) (x y:V) (v u:mT) (Q:VK),Inv X pins σ H s->RelV x v->RelV y u->t x y H Q ->
  wpAny (model X.prog X.w) X.A (inplaceOp op v u) (EP X pins σ Q) X.xe s
section
variable {X:Cx}{pos:Pos}
noncomputable def CU(i:Nat):TG:=λv σ H Q=>Q (σ.set i (some v)) H
theorem N6(n:X.N.Nodup)(k:X.N[i]?=some x)(l:Loc X.env.scope x)(d:X.fn x=true\/X.env.scope.names.lookup x=some .local:=by first|exact .inl rfl|exact .inr rfl|assumption):PG X (.Name x pos) (CU i):=by
 intro pins s σ H v u Q I r h;exact wpAny_assign_Name (ig I n k l r (λp m=>⟨_,H,m,h⟩) d)
noncomputable def gNil:TGs:=λvs σ H Q=>vs=[]/\Q σ H
noncomputable def Vo(t:TG)(u:TGs):TGs:=λvs σ H Q=>∃v r,vs=v::r/\t v σ H λd k=>u r d k Q
theorem Kl:PGs X [] gNil:=by
 intro pins s σ H vs us Q I r h;obtain⟨e,h⟩:=h;exact assignInOrder_nil ⟨σ,H,I,h⟩
theorem CY{t:TG}{u:TGs}(l:PG X e t)(p:PGs X es u)
  (hs:(abF (e::es) X.env).map (·.2)=ad4 e X.env::(abF es X.env).map (·.2):=by rfl):PGs X (e::es) (Vo t u):=by
 intro pins s σ H vs us Q I r h;obtain⟨v,y,m,h⟩:=h;subst m
 cases r with
 |cons r rr=>
  rw[hs];refine afo (thn (l pins s σ H _ _ _ I r h) λ_ s1 ⟨d,n,k,q⟩=>?_);exact p pins s1 d n _ _ Q k rr q
noncomputable def gTup(K:Mt)(n:Nat)(t:TGs):TG:=λv σ H Q=>∃a d,v = .ref a/\SqT K H a d/\d.length=n/\t d σ H Q
theorem QH{k:Nat}{t:TGs}{n:Nat}(J:X.calm=true)(h:PGs X es t)
  (q:(abF es X.env).length=n:=by rfl) (l:(abF es X.env).findIdx? (·.1)=none:=by rfl):PG X (.Tuple es k pos) (gTup X.K n t):=by
 intro pins s σ H v u Q I r d;obtain⟨a,p,L,B,G,d⟩:=d;subst L;cases r;obtain⟨D,m,F,R⟩:=I.tuple B;refine assign_Tuple_tuple (I.ok.hd J) F (by simp[q,<-G,m.length]) l λO y=>?_;have z:=I.kept (t':=s.toks) λb o e=>y b o (aaG (aaa e)) e;exact h pins _ σ H p _ Q z ‹_› d
noncomputable def gSub(to ti:TE)(t:TSet):TG:=λv σ H Q=>to σ H λo d=>ti σ d λi k=>t o i v k λl=>Q σ l
theorem Uv{o i:Expr}{to ti:TE}{t:TSet}(ho:PE X o to)(F:PE X i ti)(hs:PSet X t)
  (ha:∀v,ad4 (.Subscript o i pos) X.env v=(do
   let d <- adw [v] (eval o X.env)
   let k <- adw [v,d] (eval i X.env)
   adv pos
   adw [v,d,k] (ahq d k v)
   release [v,d,k] []):=by intro _;rfl):PG X (.Subscript o i pos) (gSub to ti t):=by
 intro pins s σ H v u Q I r h;rw[ha];refine aD (abA (thn (ho pins s σ H _ I h) λd s1 ⟨x,D,n,r1,p⟩=>?_));refine aD (abA (thn (F pins s1 σ D _ n p) λk s2 ⟨y,G,m,l,q⟩=>?_));refine aD (acp (aD (abA (thn (hs pins s2 σ G x y v d k u _ m r1 l r q) λ_ L ⟨z,B,J⟩=>?_))));exact wpAny_release ⟨σ,z,B,J⟩
noncomputable def tAsg(te:TE)(g:TG):TS:=λD σ H=>te σ H λx d=>g x σ d D.nx
theorem Jc{g:TG}(t:PE X e te)(p:PG X tg g)(hs:ada [tg] e pos.line X.env=pure false:=by rfl)(l:adb [tg] e X.env=pure none:=by rfl)
  (m:(abF [tg] X.env).map (·.2)=[ad4 tg X.env]:=by rfl):PS X (.Assign [tg] e pos) (tAsg te g):=by
 intro pins s σ H D I h;refine wpAny_Assign_stores (thn (t pins s σ H _ I h) λv s1 ⟨x,n,d,r1,k⟩=>?_) hs l;rw[m];exact thn (p pins s1 σ n x v _ d r1 k) λ_ s2 q=>q
theorem O5{p:Pos}(l:X.N.Nodup)(z:X.N[i]?=some x)(d:Loc X.env.scope x)(B:PE X e te)(hs:abH e (some (.Name x p)) pos.line X.env=pure false:=by rfl)(m:X.fn x=true\/X.env.scope.names.lookup x=some .local:=by first|exact .inl rfl|exact .inr rfl|assumption) :
  PS X (.Assign [.Name x p] e pos) (tAsg te (CU i)):=by
 intro pins s σ H D I h;refine wpAny_Assign_Name (thn (B pins s σ H _ I h) λv s1 ⟨y,t,k,r1,q⟩=>?_) hs;exact ig k l z d r1 (λs2 n=>⟨_,t,n,q⟩) m
noncomputable def tPar(i j:Nat)(t:TA):TS:=λD σ H=>t σ H λvs d=>∃v w,vs=[v,w]/\D.nx ((σ.set i (some v)).set j (some w)) d
theorem OU{y:Str}{a b:Expr}{J:TA}{m z pt:Pos}{kt k2 pt2}(hc:X.calm=true)(G:X.N.Nodup)(hi:X.N[i]?=some x)(T:X.N[j]?=some y)(l:i≠j)
  (F:X.env.scope.names.lookup x=some .local) (L:X.env.scope.names.lookup y=some .local) (ha:PA X [a,b] J)
  (Z:adb [.Tuple [.Name x m,.Name y z] kt pt] (.Tuple [a,b] k2 pt2) X.env=pure (some [x,y]))
  (hs:ada [.Tuple [.Name x m,.Name y z] kt pt] (.Tuple [a,b] k2 pt2) pos.line X.env=pure false:=by rfl) :
  PS X (.Assign [.Tuple [.Name x m,.Name y z] kt pt] (.Tuple [a,b] k2 pt2) pos) (tPar i j J):=by
 intro pins s σ H D I h;rw[exec_Assign_arm];refine aD (acp ?_);rw[hs];refine aD (AD ?_);rw[if_neg (by decide)];refine aD (Tuple_ (thn (ha _ pins s σ H _ I h) λus s1 ⟨vs,R,Y,r1,t⟩=>?_));obtain⟨v,w,e1,t⟩:=t;subst e1;obtain⟨d,k,rfl,rv,B⟩:∃d k,us=[d,k]/\RelV v d/\RelV w k:=by
  cases r1 with
  | cons p q=>
   cases q with
   |cons V W=>
    cases W;exact⟨_,_,rfl,p,V⟩
 refine aaW ?_ (by show 2≤aag;decide);have U:Inv X pins σ R {s1 with heap:=s1.heap.push {cls:=.type "tuple",data:=.seq [d,k].toArray} }:=Y.kept (t':=s1.toks) λb o e=>Ad _ e;rw[Z];refine aD (AD ?_);refine aD (acV (aD (unpackItems_tuple (items:=#[d,k]) (I.ok.hd hc) (IsTup.new s1.heap _) λh' n=>?_)));have I3:=U.kept (h':=h') (t':=s1.toks) λb o e=>n b o (aaG (aaa e)) e;show wpAny _ _ (assignInOrder [λv=>bindName X.env y v,λv=>bindName X.env x v] [k,d] >>= λ_=>pure Flow.next) _ _ _;refine aD (afo (wpAny_bindName (ig I3 G T (.inl L) B (λs2 S=>?_) (.inr L))));refine afo (wpAny_bindName (ig S G hi (.inl F) rv (λs3 O=>assignInOrder_nil (AD ?_)) (.inr F)));rw[List.set_comm _ _ (aa5 l)]at O;exact⟨_,R,O,t⟩
noncomputable def tAug(i:Nat)(te:TE)(ti:TIp):TS:=λD σ H=>∃x,σ[i]?=some (some x)/\te σ H λy d=>ti x y d λz k=>D.nx (σ.set i (some z)) k
theorem TJ{op:afn}{ti:TIp}{t:Pos}(L:X.N.Nodup)(F:X.N[i]?=some x)(B:Loc X.env.scope x)(S:PE X e te)(ho:PIp X op ti)(Y:X.fn x=true\/X.env.scope.names.lookup x=some .local:=by first|exact .inl rfl|exact .inr rfl|assumption) :
  PS X (.AugAssign (.Name x t) op e pos) (tAug i te ti):=by
 intro pins s σ H D I h;obtain⟨v,e1,h⟩:=h;obtain⟨m,J,hl⟩:=I.loc;have vis:Vis X.env.scope x:=by rcases B with k|k;exact .inl k;exact .inr (.inl k)
 obtain⟨u,r,l⟩:=hl i x v F e1 vis;refine wpAny_AugAssign_Name ?_;have go:wpAny (model X.prog X.w) X.A (eval e X.env) (λw q=>wpAny (model X.prog X.w) X.A (inplaceOp op u w) (λr p=>wpAny (model X.prog X.w) X.A (storeName X.env x r) (λ_=>SP X pins D .next) X.xe p) X.xe q) X.xe s:=by
  refine thn (S pins s σ H _ I h) λw s1 ⟨y,Z,T,r1,V⟩=>?_;refine thn (ho pins s1 σ Z v y u w _ T r r1 V) λz s2 ⟨zv,H2,R,O,U⟩=>?_;exact ig R L F B O (λs3 W=>⟨_,H2,W,U⟩) Y
 rcases l with⟨d,G⟩|⟨d,c,hc,n⟩
 .exact wpAny_loadName_local I.ok.kind d J G go
 .rcases d with d|d
  .exact wpAny_loadName_cell I.ok.kind d hc n go
  .rcases B with k|k
   .have:X.env.scope.names.lookup x=some .free:=d;rw[k]at this;cases this
   .have:X.env.scope.names.lookup x=some .free:=d;rw[k]at this;cases this
end
section
variable {X:Cx}{pos:Pos}
noncomputable def RH(c:TT)(tb:TS):TS:=λD σ H=>∃W:Nat->St->Hp->Prop,(∃m,W m σ H)/\∀m σ H,W m σ H ->
 c σ H λb l=>if b=true then ∃N:St->Hp->Prop,(∀d n,N d n->∃k,k<m/\W k d n)/\tb {D with nx:=N,ct:=N,bk:=D.nx} σ l else D.nx σ l
theorem GH{T:TT}{tb:TS}(hp:afY (model X.prog X.w) X.A X.env X.xe)(Y:PT X c T)(hb:PSs X body tb):PS X (.While c body [] pos) (RH T tb):=by
 intro pins s σ H D I h;obtain⟨W,⟨Z,V⟩,t⟩:=h;refine wpAny_While (codeAny_whileLoop (λn U=>∃m O,Inv X pins m O U/\W n m O) ?_ Z ⟨σ,H,I,V⟩);rintro n s1 ⟨k,R,I1,w1⟩;refine ac1 hp (thn (Y pins s1 k R _ I1 (t n k R w1)) λb s2 ⟨S,L,q⟩=>?_)
 cases b with
 | true=>
  obtain⟨N,J,q⟩:=q;rw[if_pos rfl];refine ac1 hp (thn (hb pins s2 k S _ L q) λf s3 p=>?_)
  cases f with
  |next=>
   obtain⟨d,l,F,z⟩:=p;obtain⟨G,y,B⟩:=J d l z;exact⟨G,y,d,l,F,B⟩
  |cont=>
   obtain⟨d,l,F,z⟩:=p;obtain⟨G,y,B⟩:=J d l z;exact⟨G,y,d,l,F,B⟩
  |brk=>exact p
  |ret v=>exact p
 |false=>
  exact ad0 ⟨k,S,L,q⟩
end
structure It where
 go:Nat->Hp->Prop
 yld:Nat->Hp->V->Hp->Prop
 stop:Nat->Hp->Prop
noncomputable def FpOk(X:Cx)(pins:List (Addr×Obj))(H:Hp)(b:Addr):Prop:=
 H b=none/\b≠X.env.locals/\b∉X.fs/\(b∈X.ex\/X.s₀.heap.objs.size≤b)/\(∀x c,X.env.cells.lookup x=some c->c≠b)/\∀p∈X.pn++pins,p.1≠b
theorem Inv.fpOk{d:Hp}{s:oR}(I:Inv X pins σ H s)(hb:s.heap.objs.size≤b)(k:d b=none):FpOk X pins d b:=by
 refine⟨k,aaX (aah I.lt hb),I.nofs hb,.inr (aaj I.sz hb),λx c e z=>?_,λp hp z=>?_⟩
 .obtain⟨v,q⟩:=I.cell x c e;exact absurd (aah q.lt (by simp_all)) (ac9 _)
 .exact absurd (aah (aaa (I.pin p hp).1) (by simp_all)) (ac9 _)
structure Turn(P:aaB)(w:World)(K:Mt)(tg:Expr)(J:It)(fp:List Addr)(it:Addr)(tn:Nat->aaM->Prop):Prop where
 mem:it∈fp
 obj:∀i h,tn i h->∀b∈fp,∃o,h.get? b=some o/\∀v,o.data≠.cell v
 keep:∀i h h',tn i h->(∀b∈fp,∀o,h.get? b=some o->h'.get? b=some o)->tn i h'
 item:∀(X:Cx),X.prog=P->X.w=w->X.K=K->X.calm=true->∀(i:Nat) (pins:List (Addr×Obj)) (s:oR) (σ:St) (H:Hp) (E:mT->oR->Prop),Inv X pins σ H s->(∀b∈fp,FpOk X pins H b)->tn i s.heap->J.go i H ->
  wpAny (model P w) X.A (aci (.ref it)) (λr s1=>∃u,r=some u/\
   wpAny (model P w) X.A (ad1 tg (.ref it) u) (λ_ s2=>∃x H',Inv X pins σ H' s2/\RelV x u/\J.yld i H x H'/\tn (i+1) s2.heap/\∀b∈fp,H' b=none) E s1) E s
 done:∀(X:Cx),X.prog=P->X.w=w->X.K=K->X.calm=true->∀(i:Nat) (pins:List (Addr×Obj)) (s:oR) (σ:St) (H:Hp) (E:mT->oR->Prop),Inv X pins σ H s->(∀b∈fp,FpOk X pins H b)->tn i s.heap->J.stop i H ->
  wpAny (model P w) X.A (aci (.ref it)) (λr s1=>r=none/\Inv X pins σ H s1) E s
 self:∀(A:aa4) (i:Nat) (s:oR) (Q:mT->oR->Prop) (E:mT->oR->Prop),tn i s.heap->Q (.ref it) s->wpAny (model P w) A (ae2 (.ref it)) Q E s
noncomputable abbrev TI:=St->Hp->(It->Hp->Prop)->Prop
noncomputable def PIE(X:Cx)(pins:List (Addr×Obj))(σ:St)(tg:Expr)(R:It->Hp->Prop)(k:mT)(s2:oR):Prop:=
 ∃(l:Addr) (fp:List Addr) (tn:Nat->aaM->Prop) (J:It) (d:Hp),k = .ref l/\Inv X pins σ d s2/\Turn X.prog X.w X.K tg J fp l tn/\tn 0 s2.heap/\(∀b∈fp,FpOk X pins d b)/\R J d
noncomputable def PI(X:Cx)(tg d:Expr)(k:TI):Prop:=
 ∀(pins:List (Addr×Obj)) (s:oR) (σ:St) (H:Hp) (R:It->Hp->Prop),Inv X pins σ H s->k σ H R ->
  wpAny (model X.prog X.w) X.A (eval d X.env) (λv s1=>wpAny (model X.prog X.w) X.A (ae2 v) (PIE X pins σ tg R) X.xe s1) X.xe s
theorem Lh{s:oR}{k:Addr}{o:Obj}{n:String}{vs:Array mT}{Q:Unit->oR->Prop}(ho:s.heap.get? k=some o)(l:o.cls = .type n)(hd:o.data = .fields vs)
  (m:["enumerate","zip","dict_itemiterator","dict_reverseitemiterator","odict_iterator","itertools.zip_longest","itertools.pairwise"].contains n=false) (d:Q () s):wpAny M A (ad1 tg (.ref k) u) Q E s:=by
 cases tg<;>first
  |exact AD d
  | (cases u<;>first
    |exact AD d
    | (refine aD (wpAny_load ho ?_)
       rw[l,hd];show wpAny M A (if _=true then _ else _) Q E s;rw[if_neg (by grind)];exact AD d))
noncomputable def Itl(K:Mt)(a:Addr):It:=
 ⟨λi H=>∃d x,SqL K H a d/\d[i]?=some x,λi H x k=>k=H/\∀d,SqL K H a d->d[i]?=some x,λi H=>∃d,SqL K H a d/\d.length≤i⟩
noncomputable def Itt(K:Mt)(a:Addr):It:=
 ⟨λi H=>∃d x,SqT K H a d/\d[i]?=some x,λi H x k=>k=H/\∀d,SqT K H a d->d[i]?=some x,λi H=>∃d,SqT K H a d/\d.length≤i⟩
noncomputable def Itr(lo:Int)(n:Nat):It:=⟨λi _=>i<n,λi H x d=>d=H/\x = .int (lo+i),λi _=>n≤i⟩
theorem yN(a l:Addr):Turn P w K tg (Itl K a) [l] l (λi h=>h.IsListIter l a i) where
 mem:=by simp
 obj:=λi h st b hb=>by
  have e:b=l:=by simpa using hb
  subst e;obtain⟨o,e,c,d⟩:=st;exact⟨o,e,λv z=>by rw[d]at z;cases z⟩
 keep:=λi h q st k=>st.at λo e=>k l (by simp) o e
 item:=by
  intro X F S y V i pins s σ H E I t st G;subst F S y;obtain⟨W,x,n,B⟩:=G;obtain⟨J,U,p,hz⟩:=I.list n;obtain⟨u,Y,Z⟩:=U.get B;obtain⟨L,D,f2,R,T,O⟩:=t l (by simp);refine wpAny_pyNext_list_item st p.isList (x:=u) (by simpa using Y) λq m sb=>?_;have I1:Inv X pins σ H {s with heap:=q }:=I.turned (t':=s.toks) (λb o hb e=>(sb.2 b hb).trans e) L D R T O;obtain⟨o,e,c,d⟩:=id m;exact⟨u,rfl,Lh (s:={s with heap:=q }) e c d (by decide) ⟨x,H,I1,Z,⟨rfl,λys hy=>by rw[I.list_inj hy n];exact B⟩,m,λb hb=>(t b hb).1⟩⟩
 done:=by
  intro X F S y V i pins s σ H E I t st G;subst F S y;obtain⟨W,n,B⟩:=G;obtain⟨J,U,p,hz⟩:=I.list n;obtain⟨L,D,f2,R,T,O⟩:=t l (by simp);have hl:=U.length;exact wpAny_pyNext_list_end (I.ok.hd V) st p.isList (by simp;omega) λq eb=>⟨rfl,I.turned (t':=s.toks) (λb o hb e=>eb b o hb e) L D R T O⟩
 self:=λ_ _ _ _ _ st h=>wpAny_pyIter_listiter st h
theorem xw(a m:Addr):Turn P w K tg (Itt K a) [m] m (λi h=>h.IsTupleIter m a i) where
 mem:=by simp
 obj:=λi h st b hb=>by
  have e:b=m:=by simpa using hb
  subst e;obtain⟨o,e,c,d⟩:=st;exact⟨o,e,λv z=>by rw[d]at z;cases z⟩
 keep:=λi h t st k=>st.at λo e=>k m (by simp) o e
 item:=by
  intro X G S B V i pins s σ H E I y st J;subst G S B;obtain⟨W,x,q,D⟩:=J;obtain⟨l,U,p,hz⟩:=I.tuple q;obtain⟨u,Y,Z⟩:=U.get D;obtain⟨L,F,f2,R,T,O⟩:=y m (by simp);refine wpAny_pyNext_tuple_item st (show s.heap.IsTuple a l.toArray from p) (x:=u) (by simpa using Y) λt n sb=>?_;have I1:Inv X pins σ H {s with heap:=t }:=I.turned (t':=s.toks) (λb o hb e=>(sb.2 b hb).trans e) L F R T O;obtain⟨o,e,c,d⟩:=id n;exact⟨u,rfl,Lh (s:={s with heap:=t }) e c d (by decide) ⟨x,H,I1,Z,⟨rfl,λys hy=>by rw[I.tuple_inj hy q];exact D⟩,n,λb hb=>(y b hb).1⟩⟩
 done:=by
  intro X G S B V i pins s σ H E I y st J;subst G S B;obtain⟨W,q,D⟩:=J;obtain⟨l,U,p,hz⟩:=I.tuple q;obtain⟨L,F,f2,R,T,O⟩:=y m (by simp);have hl:=U.length;exact wpAny_pyNext_tuple_end (I.ok.hd V) st (show s.heap.IsTuple a l.toArray from p) (by simp;omega) λt eb=>⟨rfl,I.turned (t':=s.toks) (λb o hb e=>eb b o hb e) L F R T O⟩
 self:=λ_ _ _ _ _ st h=>wpAny_pyIter_tupleiter st h
theorem wx(d:Addr)(lo:Int)(n:Nat):Turn P w K tg (Itr lo n) [d] d (λi h=>IsRangeIter h d (lo+(i:Nat)*1) ((n:Int)-(i:Nat)) 1) where
 mem:=by simp
 obj:=λi h st b hb=>by
  simp_all
 keep:=λi h m st k=>k d (by simp) _ st
 item:=by
  intro X z J q O i pins s σ H E I p st B;subst z J q;obtain⟨D,y,T,G,L,F⟩:=p d (by simp);have W:=Walks.range (prog:=X.prog) (w:=X.w) (I.ok.hd O) d lo 1 n;refine W.item i s _ _ B st λv m R S l U=>?_;obtain⟨t,rfl⟩:=S;have V:Inv X pins σ H {s with heap:=m,toks:=R}:=I.turned (λb o hb e=>U b o (by simpa using hb) e) D y G L F;refine⟨_,rfl,Lh (s:={s with heap:=m,toks:=R}) (n:= "range_iterator") l rfl rfl (by decide) ⟨.int (lo+i),H,V,⟨t,?_⟩,⟨rfl,rfl⟩,l,λb hb=>(p b hb).1⟩⟩;rw[aec]
 done:=by
  intro X z J q O i pins s σ H E I p st B;subst z J q;obtain⟨D,y,T,G,L,F⟩:=p d (by simp);exact wpAny_pyNext_range_end (I.ok.hd O) st (by have:n≤i:=B;omega) λm eb=>⟨rfl,I.turned (t':=s.toks) (λb o hb e=>eb b o hb e) D y G L F⟩
 self:=λ_ _ _ _ _ st h=>wpAny_pyIter_rangeiter st h
section
variable {X:Cx}{tg:Expr}
theorem FZ{s:oR}{R:It->Hp->Prop}{lo d:Int}{t u v:Tok}{k:Nat}(I:Inv X pins σ H s)(n : -(2^62)≤lo)(p:lo<2^62)(z : -(2^62)≤d)(y:d<2^62)
  (q:R (Itr lo (d-lo).toNat) H):wpAny (model X.prog X.w) X.A (ae2 (.ref s.heap.objs.size)) (PIE X pins σ tg R) E {s with heap:=s.heap.push {cls:=.type "range",data:=.fields #[.int lo t,.int d u,.int 1 v]},toks:=k}:=by
 refine wpAny_pyIter_range (IsRange.new ..) (small_one n p z y) ?_;have l:Inv X pins σ H {s with heap:=s.heap.push {cls:=.type "range",data:=.fields #[.int lo t,.int d u,.int 1 v]},toks:=k}:=I.kept λb o e=>Ad _ e;refine⟨(s.heap.push {cls:=.type "range",data:=.fields #[.int lo t,.int d u,.int 1 v]}).objs.size,[(s.heap.push {cls:=.type "range",data:=.fields #[.int lo t,.int d u,.int 1 v]}).objs.size],_,_,H,rfl,
  l.kept (t':=k) λb o e=>Ad _ e,wx _ lo (d-lo).toNat,?_,λb hb=>?_,q⟩
 .have e1:lo+((0:Nat):Int)*1=lo:=by simp
  have m:(((d-lo).toNat):Int)-((0:Nat):Int)=acD.Range.rangeSize lo d 1:=by rw[rangeSize_one];split<;>omega
  rw[e1,m];exact aaf _ rfl
 .have e:b=(s.heap.push {cls:=.type "range",data:=.fields #[.int lo t,.int d u,.int 1 v]}).objs.size:=by simpa using hb
  subst e;exact l.fpOk (Dl _) (l.hok.fresh (Dl _))
noncomputable def VM(t:TA):TI:=λσ H R=>t σ H λvs d=>∃j:Int,vs=[.int j]/\-(2^62)≤j/\j<2^62/\R (Itr 0 j.toNat) d
theorem zL{a:Expr}{k:TA}{p:Pos}(y:Gl X "range")(l:X.mg "range" = none)(ha:PA X [a] k)(hs:aad [a] X.env=[(false,eval a X.env)]:=by rfl):PI X tg (.Call (.Name "range" p) [a] [] pos) (VM k):=by
 intro pins s σ H R I h;refine Call_ (ls I y l boot_range (acO (thn (ha pos pins s σ H _ I h) λus s1 ⟨vs,z,m,r1,d⟩=>?_) hs rfl));obtain⟨j,e,d,n,q⟩:=d;subst e
 cases r1 with
 |cons r rr=>
  cases rr;obtain⟨t,rfl⟩:=r;exact call_range_1 (FZ m (by decide) (by decide) d n (by simpa))
noncomputable def tFor(q:TI)(g:TG)(tb:TS):TS:=λD σ H=>q σ H λJ p=>∃W:Nat->Nat->St->Hp->Prop,(∃m,W 0 m σ p)/\∀i m σ H,W i m σ H ->
 (J.stop i H/\D.nx σ H)\/(J.go i H/\∃N:St->Hp->Prop,(∀d k,N d k->∃n,n<m/\W (i+1) n d k)/\∀x k,J.yld i H x k->g x σ k λl s=>tb {D with nx:=N,ct:=N,bk:=D.nx} l s)
noncomputable def qx(fp:List Addr)(h:aaM):List (Addr×Obj):=fp.filterMap λb=>(h.get? b).map λo=>(b,o)
theorem ga{o:Obj}(hb:b∈fp)(e:h.get? b=some o):(b,o)∈qx fp h:=List.mem_filterMap.mpr ⟨b,hb,by rw[e];rfl⟩
theorem zM{p:Addr×Obj}(hp:p∈qx fp h):p.1∈fp/\h.get? p.1=some p.2:=by
 obtain⟨b,hb,e⟩:=List.mem_filterMap.mp hp
 cases q:h.get? b with
 |none=>rw[q]at e;cases e
 |some o=>
  rw[q]at e;have d:=aal e;subst d;exact⟨hb,q⟩
theorem Inv.pinned{s:oR}(I:Inv X pins σ H s)(d:∀b∈fp,FpOk X pins H b)(ho:∀b∈fp,∃o,s.heap.get? b=some o/\∀v,o.data≠.cell v):Inv X (pins++qx fp s.heap) σ H s:=
 I.pins_of λp hp=>(aaK.mp hp).elim (λz=>I.pin p (aa7 _ z)) λz=>by
  obtain⟨hb,e⟩:=zM z;obtain⟨l,k,m,_⟩:=d p.1 hb;obtain _:=ho p.1 hb
  simp_all
theorem Inv.unpinned{d:List (Addr×Obj)}{s:oR}(I:Inv X (pins++d) σ H s):Inv X pins σ H s:=I.pins_of λp hp=>I.pin p (aa7 _ (acw _ hp))
theorem P9{y:Expr}{wi:TI}{g:TG}{tb:TS}(hp:afY (model X.prog X.w) X.A X.env X.xe)(hc:X.calm=true)(hi:PI X tg y wi)(hg:PG X tg g)(hb:PSs X body tb)
  (hs:∀x,aaN y X.env x=pure x:=by intro _;rfl):PS X (.For tg y body [] pos) (tFor wi g tb):=by
 intro pins s σ H D I h;refine wpAny_For (thn (hi pins s σ H _ I h) λv s1 h1=>thn h1 λitv s2 h2=>?_) hs;obtain⟨it,fp,tn,J,H2,e,I2,T,st2,f2,W,⟨m0,w0⟩,O⟩:=h2;subst e;have p:∀{F:Hp},(∀b∈fp,F b=none)->∀b∈fp,FpOk X pins F b:=λhn b hb=>⟨hn b hb,(f2 b hb).2⟩;refine codeAny_forLoop_any (λn s'=>∃i B F,Inv X pins B F s'/\tn i s'.heap/\(∀b∈fp,F b=none)/\W i n B F) ?_ m0 ⟨0,σ,H2,I2,st2,λb hb=>(f2 b hb).1,w0⟩;rintro n s3 ⟨i,l,V,I3,S,R,w3⟩;rcases O i n l V w3 with⟨stop,qn⟩|⟨go,N,hN,step⟩
 .refine ac1 hp (thn (T.done X rfl rfl rfl hc i pins s3 l V X.xe I3 (p R) S stop) λr s4 ⟨hr,I4⟩=>?_);subst hr;exact ad0 ⟨l,V,I4,qn⟩
 .refine ac1 hp (thn (T.item X rfl rfl rfl hc i pins s3 l V X.xe I3 (p R) S go) λr s4 ⟨u,hr,h4⟩=>?_);subst hr;refine ac1 hp (thn h4 λ_ s5 ⟨x,H5,I5,r5,y5,L,fr5⟩=>?_);have I5':=I5.pinned (p fr5) (T.obj _ _ L);refine ac1 hp (thn (hg _ s5 l H5 x u _ I5' r5 (step x H5 y5)) λ_ s6 ⟨Y,H6,I6,q6⟩=>?_);refine ac1 hp (thn (hb _ s6 Y H6 _ I6 q6) λf Z G=>?_);have t:∀{k:St}{z:Hp},Inv X (pins++qx fp s5.heap) k z Z->N k z->∃m,m<n/\∃i B F,Inv X pins B F Z/\tn i Z.heap/\(∀b∈fp,F b=none)/\W i m B F:=λ{k z} q U=>by
   obtain⟨m',hm,w7⟩:=hN k z U;refine⟨m',hm,i+1,k,z,q.unpinned,T.keep _ _ _ L λb hb o e=>(q.pin (b,o) (aa7 _ (aa7 _ (ga hb e)))).1,λb hb=>?_,w7⟩;obtain⟨o,e,d⟩:=T.obj _ _ L b hb;exact(q.pin (b,o) (aa7 _ (aa7 _ (ga hb e)))).2.1
  cases f with
  |next=>obtain⟨k,z,q,U⟩:=G;exact t q U
  |cont=>obtain⟨k,z,q,U⟩:=G;exact t q U
  |brk=>obtain⟨k,z,q,G⟩:=G;exact⟨k,z,q.unpinned,G⟩
  |ret v=>obtain⟨x7,k,z,q,r7,G⟩:=G;exact⟨x7,k,z,q.unpinned,r7,G⟩
end
noncomputable abbrev R2:=V->V->Hp->VK->Prop
noncomputable def OpR(X:Cx)(f:mT->mT->Sem mT)(r:R2):Prop:=
 ∀(pins:List (Addr×Obj)) (s:oR) (σ:St) (H:Hp) (x y:V) (v u:mT) (Q:VK),Inv X pins σ H s->RelV x v->RelV y u->r x y H Q ->
  wpAny (model X.prog X.w) X.A (f v u) (EP X pins σ Q) X.xe s
noncomputable def UnR(X:Cx)(f:mT->Sem mT)(r:V->Hp->VK->Prop):Prop:=
 ∀(pins:List (Addr×Obj)) (s:oR) (σ:St) (H:Hp) (x:V) (v:mT) (Q:VK),Inv X pins σ H s->RelV x v->r x H Q ->
  wpAny (model X.prog X.w) X.A (f v) (EP X pins σ Q) X.xe s
noncomputable def dn(X:Cx)(f:mT)(r:List V->Hp->VK->Prop):Prop:=
 ∀(pins:List (Addr×Obj)) (s:oR) (σ:St) (H:Hp) (d:List V) (us:List mT) (Q:VK),Inv X pins σ H s->Vals d us->r d H Q ->
  wpAny (model X.prog X.w) X.A (call f us) (EP X pins σ Q) X.xe s
noncomputable def tOp(r:R2)(t tb:TE):TE:=λσ H Q=>t σ H λx d=>tb σ d λy k=>r x y k Q
noncomputable def tUn(r:V->Hp->VK->Prop)(t:TE):TE:=λσ H Q=>t σ H λx d=>r x d Q
noncomputable def rI(C:Int->Int->Prop)(g:Int->Int->V):R2:=λx y H Q=>∃i j,x = .int i/\y = .int j/\C i j/\Q (g i j) H
noncomputable def rI0(g:Int->Int->V):R2:=λx y H Q=>∃i j,x = .int i/\y = .int j/\Q (g i j) H
noncomputable def rU(g:Int->V):V->Hp->VK->Prop:=λx H Q=>∃i,x = .int i/\Q (g i) H
section
variable {X:Cx}{a b c:Expr}{d tb e:TE}{pos:Pos}
theorem binT(ha:PE X a d)(hb:PE X b tb){s:oR}{R:V->V->Hp->Prop}(I:Inv X pins σ H s)
  (h:d σ H λx n=>tb σ n λy k=>R x y k) 
  (B:∀v u s2 x y k,Inv X pins σ k s2->RelV x v->RelV y u->R x y k->wpAny (model X.prog X.w) X.A (f v u) Q X.xe s2) :
  wpAny (model X.prog X.w) X.A (eval a X.env) (λv m=>wpAny (model X.prog X.w) X.A (eval b X.env) (λu l=>wpAny (model X.prog X.w) X.A (f v u) Q X.xe l) X.xe m) X.xe s:=by
 refine thn (ha pins s σ H _ I h) λv s1 ⟨x,n,p,r1,t⟩=>?_;refine thn (hb pins s1 σ n _ p t) λu s2 ⟨y,k,D,z,q⟩=>?_;exact B v u s2 x y k D r1 z q
theorem WX{op:afn}(ho:OpR X (acx op) r)(ha:PE X a d)(hb:PE X b tb):PE X (.BinOp a op b pos) (tOp r d tb):=by
 intro pins s σ H Q I h;exact wpAny_BinOp (binT ha hb I h λv u s2 x y n l k m q=>ho pins s2 σ n x y v u Q l k m q)
theorem VV{op:UnaryOp}{r:V->Hp->VK->Prop}(ho:UnR X (unaryOp op) r)(ha:PE X a d):PE X (.UnaryOp op a pos) (tUn r d):=by
 intro pins s σ H Q I h;exact UnaryOp_ (thn (ha pins s σ H _ I h)<|by rintro v s1 ⟨x,k,l,r1,q⟩;exact ho pins s1 σ k x v Q l r1 q)
theorem opI{C:Int->Int->Prop}
  (k:∀(i j:Int) (t u:Tok) (s:oR) (Q:mT->oR->Prop) (E:mT->oR->Prop),C i j->Q (.int (g i j) s.toks) {s with toks:=s.toks+1}->wpAny (model X.prog X.w) X.A (f (.int i t) (.int j u)) Q E s) :
  OpR X f (rI C λi j=>.int (g i j)):=by
 intro pins s σ H x y v u Q I l m h;obtain⟨i,j,rfl,rfl,n,q⟩:=h;obtain⟨t,rfl⟩:=l;obtain⟨t',rfl⟩:=m;exact k i j t t' s _ _ n ⟨.int _,H,I.tok _,⟨_,rfl⟩,q⟩
theorem opI0
  (k:∀(i j:Int) (t u:Tok) (s:oR) (Q:mT->oR->Prop) (E:mT->oR->Prop),Q (.int (g i j) s.toks) {s with toks:=s.toks+1}->wpAny (model X.prog X.w) X.A (f (.int i t) (.int j u)) Q E s) :
  OpR X f (rI0 λi j=>.int (g i j)):=by
 intro pins s σ H x y v u Q I l m h;obtain⟨i,j,rfl,rfl,q⟩:=h;obtain⟨t,rfl⟩:=l;obtain⟨t',rfl⟩:=m;exact k i j t t' s _ _ ⟨.int _,H,I.tok _,⟨_,rfl⟩,q⟩
theorem opB0{g:Int->Int->Bool}
  (k:∀(i j:Int) (t u:Tok) (s:oR) (Q:mT->oR->Prop) (E:mT->oR->Prop),Q (.bool (g i j)) s->wpAny (model X.prog X.w) X.A (f (.int i t) (.int j u)) Q E s) :
  OpR X f (rI0 λi j=>.bl (g i j)):=by
 intro pins s σ H x y v u Q I l m h;obtain⟨i,j,rfl,rfl,q⟩:=h;obtain⟨t,rfl⟩:=l;obtain⟨t',rfl⟩:=m;exact k i j t t' s _ _ ⟨.bl _,H,I,rfl,q⟩
noncomputable def CPow(i j:Int):Prop:=0≤j/\j≤1000000/\i.natAbs<2^64
noncomputable def CMul(i j:Int):Prop:=(-(2^64)<i/\i<2^64)\/(-(2^64)<j/\j<2^64)
theorem CMul.ok{i j:Int}(h:CMul i j):afZ i j:=by
 rcases h with⟨l,k⟩|⟨l,k⟩
 .exact .of_left (intBits_le_64 l k)
 .exact .of_right (intBits_le_64 l k)
theorem SU:OpR X (acx .Add) (rI0 λi j=>.int (i+j)):=opI0 λ_ _ _ _ _ _ _ q=>add_int q
theorem Qj:OpR X (acx .Mod) (rI (λ_ j=>0<j) λi j=>.int (i%j)):=opI λi j _ _ _ _ _ k q=>by
 exact mod_int' (by omega) (by rw[Int.fmod_eq_emod_of_nonneg i (by omega)];exact q)
theorem QU:OpR X (acx .Pow) (rI CPow λi j=>.int (i^j.toNat)):=opI λ_ _ _ _ _ _ _ k q=>pow_int_small k.1 k.2.1 k.2.2 q
theorem unI{f:mT->Sem mT}{g:Int->Int}
  (k:∀(i:Int) (t:Tok) (s:oR) (Q:mT->oR->Prop) (E:mT->oR->Prop),Q (.int (g i) s.toks) {s with toks:=s.toks+1}->wpAny (model X.prog X.w) X.A (f (.int i t)) Q E s) :
  UnR X f (rU λi=>.int (g i)):=by
 intro pins s σ H x v Q I l h;obtain⟨i,rfl,q⟩:=h;obtain⟨t,rfl⟩:=l;exact k i t s _ _ ⟨.int _,H,I.tok _,⟨_,rfl⟩,q⟩
theorem TQ:UnR X (unaryOp .USub) (rU λi=>.int (-i)):=unI λ_ _ _ _ _ q=>neg_int q
end
noncomputable def scal:V->V->Bool
 | .non,.non=>true | .non,.int _=>true | .int _,.non=>true | .non,.bl _=>true | .bl _,.non=>true | .non,.str _=>true | .str _,.non=>true
 | .int _,.int _=>true | .bl _,.bl _=>true | .str _,.str _=>true | .byt _,.byt _=>true
 | .int _,.str _=>true | .str _,.int _=>true | .bl _,.str _=>true | .str _,.bl _=>true
 |_,_=>false
noncomputable def rEq:R2:=λx y H Q=>scal x y=true/\Q (.bl (decide (x=y))) H
noncomputable def rNe:R2:=λx y H Q=>scal x y=true/\Q (.bl (!decide (x=y))) H
theorem Bf{i j:Int}:decide (V.int i=V.int j)=(i==j):=by
 rw[aca];simp
theorem IG{i j:Bool}:decide (V.bl i=V.bl j)=(i==j):=by
 rw[aca];simp
theorem oJ{i j:Str}:decide (V.str i=V.str j)=(i==j):=by
 rw[aca];simp
theorem y7{i j:Array UInt8}:decide (V.byt i=V.byt j)=(i.toList==j.toList):=by
 rw[aca];simp
section
variable {X:Cx}{a b c:Expr}{d tb f:TE}{pos:Pos}
theorem br{s:oR}{Q:VK}{k k':Bool}(I:Inv X pins σ H s)(q:Q (.bl k) H)(e:k=k'):EP X pins σ Q (.bool k') s:=by
 subst e;exact⟨.bl k,H,I,rfl,q⟩
theorem UV:OpR X (abr .Eq) rEq:=by
 intro pins s σ H x y v u Q I l k h;obtain⟨hs,q⟩:=h
 cases x with
 |non=>
  cases l
  cases y with
  |non=>cases k;exact PySem.EqNone.eq_none_none (br I q (by simp))
  |bl j=>cases k;exact PySem.EqNone.eq_none_bool (br I q (by simp))
  |int j=>obtain⟨t',rfl⟩:=k;exact PySem.EqNone.eq_none_int (br I q (by simp))
  |str j=>obtain⟨t',rfl⟩:=k;exact PySem.EqNone.eq_none_str (br I q (by simp))
  |_=>exact absurd (show false=true from hs) aaq
 |bl i=>
  cases l
  cases y with
  |non=>cases k;exact PySem.EqNone.eq_bool_none (br I q (by simp))
  |bl j=>cases k;exact eq_bool (br I q IG)
  |str j=>obtain⟨t',rfl⟩:=k;exact PySem.EqMixed.eq_bool_str (br I q (by simp))
  |_=>exact absurd (show false=true from hs) aaq
 |int i=>
  obtain⟨t,rfl⟩:=l
  cases y with
  |non=>cases k;exact PySem.EqNone.eq_int_none (br I q (by simp))
  |int j=>obtain⟨t',rfl⟩:=k;exact eq_int (br I q Bf)
  |str j=>obtain⟨t',rfl⟩:=k;exact PySem.EqMixed.eq_int_str (br I q (by simp))
  |_=>exact absurd (show false=true from hs) aaq
 |str i=>
  obtain⟨t,rfl⟩:=l
  cases y with
  |non=>cases k;exact PySem.EqNone.eq_str_none (br I q (by simp))
  |bl j=>cases k;exact PySem.EqMixed.eq_str_bool (br I q (by simp))
  |int j=>obtain⟨t',rfl⟩:=k;exact PySem.EqMixed.eq_str_int (br I q (by simp))
  |str j=>obtain⟨t',rfl⟩:=k;exact eq_str (br I q oJ)
  |_=>exact absurd (show false=true from hs) aaq
 |byt i=>
  obtain⟨t,rfl⟩:=l
  cases y with
  |byt j=>obtain⟨t',rfl⟩:=k;exact PySem.W.eq_bytes (br I q y7)
  |_=>exact absurd (show false=true from hs) aaq
 |_=>cases y<;>exact absurd (show false=true from hs) aaq
theorem Vw:OpR X (abr .NotEq) rNe:=by
 intro pins s σ H x y v u Q I l k h;obtain⟨hs,q⟩:=h
 cases x with
 |non=>
  cases l
  cases y with
  |non=>cases k;exact PySem.EqNone.ne_none_none (br I q (by rfl))
  |bl j=>cases k;exact PySem.EqNone.ne_none_bool (br I q (by simp))
  |int j=>obtain⟨t',rfl⟩:=k;exact PySem.EqNone.ne_none_int (br I q (by simp))
  |str j=>obtain⟨t',rfl⟩:=k;exact PySem.EqNone.ne_none_str (br I q (by simp))
  |_=>exact absurd (show false=true from hs) aaq
 |bl i=>
  cases l
  cases y with
  |non=>cases k;exact PySem.EqNone.ne_bool_none (br I q (by simp))
  |bl j=>cases k;exact ne_bool (br I q (congrArg not IG))
  |str j=>obtain⟨t',rfl⟩:=k;exact PySem.EqMixed.ne_bool_str (br I q (by simp))
  |_=>exact absurd (show false=true from hs) aaq
 |int i=>
  obtain⟨t,rfl⟩:=l
  cases y with
  |non=>cases k;exact PySem.EqNone.ne_int_none (br I q (by simp))
  |int j=>obtain⟨t',rfl⟩:=k;exact ne_int (br I q (congrArg not Bf))
  |str j=>obtain⟨t',rfl⟩:=k;exact PySem.EqMixed.ne_int_str (br I q (by simp))
  |_=>exact absurd (show false=true from hs) aaq
 |str i=>
  obtain⟨t,rfl⟩:=l
  cases y with
  |non=>cases k;exact PySem.EqNone.ne_str_none (br I q (by simp))
  |bl j=>cases k;exact PySem.EqMixed.ne_str_bool (br I q (by simp))
  |int j=>obtain⟨t',rfl⟩:=k;exact PySem.EqMixed.ne_str_int (br I q (by simp))
  |str j=>obtain⟨t',rfl⟩:=k;exact ne_str (br I q (congrArg not oJ))
  |_=>exact absurd (show false=true from hs) aaq
 |byt i=>
  obtain⟨t,rfl⟩:=l
  cases y with
  |byt j=>obtain⟨t',rfl⟩:=k;exact PySem.W.ne_bytes (br I q (congrArg not y7))
  |_=>exact absurd (show false=true from hs) aaq
 |_=>cases y<;>exact absurd (show false=true from hs) aaq
theorem UX:OpR X (abr .Lt) (rI0 λi j=>.bl (decide (i<j))):=opB0 λ_ _ _ _ _ _ _ q=>lt_int q
theorem Vx:OpR X (abr .Gt) (rI0 λi j=>.bl (decide (j<i))):=opB0 λ_ _ _ _ _ _ _ q=>gt_int q
theorem Vp:OpR X (abr .GtE) (rI0 λi j=>.bl (decide (j≤i))):=opB0 λ_ _ _ _ _ _ _ q=>ge_int q
theorem Oo:OpR X (abr .IsNot) (λx y H Q=>y = .non/\Q (.bl (!decide (x = .non))) H):=by
 intro pins s σ H x y v u Q I k l h;obtain⟨rfl,q⟩:=h;cases l;refine isnot_none_gen (br I q ?_)
 cases x<;>first
  |(cases k;rfl)
  |(obtain⟨t,rfl⟩:=k;rfl)
theorem aI(b:Expr)(h:op≠.In:=by decide)(k:op≠.NotIn:=by decide):adc op b=false:=by
 have m:(op==CmpOp.In)=false:=by cases op<;>first|rfl|exact absurd rfl h
 have l:(op==CmpOp.NotIn)=false:=by cases op<;>first|rfl|exact absurd rfl k
 cases b<;>simp[adc,m,l]
theorem LL(ho:OpR X (abr op) r)(ha:PE X a d)(hb:PE X b tb)(k:adc op b=false):PE X (.Compare a [op] [b] pos) (tOp r d tb):=by
 intro pins s σ H Q I h;exact wpAny_Compare1 (binT ha hb I h λv u s2 x y p m l n q=>ho pins s2 σ p x y v u Q m l n q) k
noncomputable def PJ(t:TE):TT:=λσ H Q=>t σ H λx l=>∃k,x = .bl k/\Q k l
theorem KM(ho:OpR X (abr op) r)(ha:PE X a d)(hb:PE X b tb)(l:adc op b=false):PT X (.Compare a [op] [b] pos) (PJ (tOp r d tb)):=by
 intro pins s σ H Q I h;refine wpAny_isTrue_Compare1 (thn (ha pins s σ H _ I h) λv s1 ⟨x,G,q,r1,B⟩=>thn (hb pins s1 σ G _ q B) λu s2 ⟨y,J,p,n,t⟩=>
  thn (ho pins s2 σ J x y v u _ p r1 n t) λc O ⟨z,D,F,m,k,e,L⟩=>?_) l
 subst e;cases m;exact wpAny_truthy_bool ⟨D,F,L⟩
theorem mF:(aag:Nat)<2^63:=by  decide
theorem wX:OpR X (acx .Add) (λx y H Q=>∃i j,x = .str i/\y = .str j/\i.length+j.length≤aag/\Q (.str (i++j)) H):=by
 intro pins s σ H x y v u Q I k m h;obtain⟨i,j,rfl,rfl,l,q⟩:=h;obtain⟨t,rfl⟩:=k;obtain⟨t',rfl⟩:=m;exact add_str (λt' n=>⟨.str _,H,I.tok _,⟨_,rfl⟩,q⟩) l
theorem w6{x:V}(r:Vals [x] us):∃u,us=[u]/\RelV x u:=by
 cases r with
 |cons r1 k=>cases k;exact⟨_,rfl,r1⟩
theorem D5:dn X (.builtin "abs") (λxs H Q=>∃i,xs=[.int i]/\Q (.int (if i<0 then -i else i)) H):=by
 intro pins s σ H xs us Q I r h;obtain⟨i,rfl,q⟩:=h;obtain⟨u,rfl,t,rfl⟩:=w6 r;exact call_abs_int λu k=>⟨.int _,H,I.tok _,⟨_,rfl⟩,q⟩
theorem qF:dn X (.type "int") (λxs H Q=>(∃i,xs=[.int i]/\Q (.int i) H)\/∃k,xs=[.bl k]/\Q (.int (if k then 1 else 0)) H):=by
 intro pins s σ H xs us Q I r h;rcases h with⟨i,rfl,q⟩|⟨k,rfl,q⟩
 .obtain⟨u,rfl,t,rfl⟩:=w6 r;exact call_int_int ⟨.int i,H,I,⟨_,rfl⟩,q⟩
 .obtain⟨u,rfl,r1⟩:=w6 r;cases r1;exact call_int_bool ⟨.int _,H,I.tok _,⟨_,rfl⟩,q⟩
end
noncomputable def putF(f:Str)(v:V):List (Str×V)->List (Str×V)
 |[]=>[(f,v)]
 |(g,x)::r=>if g=f then(g,v)::r else(g,x)::putF f v r
theorem ki(f g:Str)(v:V):∀fs:List (Str×V),(putF f v fs).lookup g=if g=f then some v else fs.lookup g
 |[]=>by
  show afF g [(f,v)]=_
  by_cases h:g=f
  .simp_all
  .have hb:=beq_eq_false_iff_ne.mpr h;simp only[afF,hb,if_neg h]
 | (k,x)::r=>by
  have l:=ki f g v r;rw[show putF f v ((k,x)::r)=(if k=f then(k,v)::r else(k,x)::putF f v r)from rfl]
  by_cases d:k=f
  .rw[if_pos d]
   by_cases h:g=k
   .simp_all
   .have hb:(g==k)=false:=beq_eq_false_iff_ne.mpr h;simp only[afF,hb,if_neg (λe:g=f=>h (e.trans d.symm))]
  .rw[if_neg d]
   by_cases h:g=k
   .simp_all
   .have hb:=beq_eq_false_iff_ne.mpr h;simp only[afF,hb];exact l
theorem RelO.some_of{o:Option mT}(r:RelO (some v) o):∃u,o=some u/\RelV v u:=by
 cases o with
 |none=>exact(r).elim
 |some u=>exact⟨u,rfl,r⟩
theorem RelO.none_of{o:Option mT}(r:RelO none o):o=none:=by
 cases o with
 |none=>rfl
 |some u=>exact(r).elim
noncomputable def InOp(X:Cx)(op:afn)(d:V->V->Hp->VK->Prop):Prop:=
 ∀(pins:List (Addr×Obj)) (s:oR) (σ:St) (H:Hp) (x y:V) (u v:mT) (Q:VK),Inv X pins σ H s->RelV x u->RelV y v->d x y H Q->wpAny (model X.prog X.w) X.A (inplaceOp op u v) (EP X pins σ Q) X.xe s
section
variable {X:Cx}{o e a:Expr}{f:Str}{pos p b:Pos}{c d:TE}
noncomputable def rAdd:V->V->Hp->VK->Prop:=λx y H Q=>∃i j,x = .int i/\y = .int j/\Q (.int (i+j)) H
theorem SK:InOp X .Add rAdd:=by
 rintro pins s σ H x y u v Q I l k ⟨i,j,rfl,rfl,q⟩;obtain⟨t,rfl⟩:=(l);obtain⟨t',rfl⟩:=(k);exact PyProof.Rows.iadd_int ⟨.int _,H,I.tok _,⟨_,rfl⟩,q⟩
end
structure Room(k:Nat)(A:aa4):Prop where
 hd:A.handled=none
 dp:A.depth+3*k+5<recursionLimit
 un:A.units+16*k+200<cLine
 gd:A.guards=some []
theorem Room.mono{k:Nat}(r:Room k A)(h:j≤k):Room j A:=⟨r.hd,by have:=r.dp;omega,by have:=r.un;omega,r.gd⟩
theorem Room.deeper{k:Nat}(r:Room (k+1) A)(env:Env):Room k (A.deeper env):=
 ⟨r.hd,by have:=r.dp;show A.depth+1+3*k+5<_;omega,by have:=r.un;show A.units+3+16*k+200<_;omega,r.gd⟩
theorem wN:(A.under (.builtin "type.__call__" ⟨.ref C::us,kw⟩)).depth=A.depth+1:=rfl
theorem wY:(A.under (.builtin "type.__call__" ⟨.ref C::us,kw⟩)).units=A.units+1:=rfl
theorem rJ:(A.under (.builtin "type.__call__" ⟨.ref C::us,kw⟩)).guards=A.guards:=rfl
theorem Room.make{k:Nat}(r:Room (k+1) A)(C:Addr)(us:List mT)(kw:List (Str×mT)):Room k (A.under (.builtin "type.__call__" ⟨.ref C::us,kw⟩)):=
 ⟨r.hd,by have:=r.dp;rw[wN];omega,by have:=r.un;rw[wY];omega,by rw[rJ];exact r.gd⟩
theorem Room.depth{k:Nat}(r:Room k A):A.depth<recursionLimit:=by have:=r.dp;omega
theorem Room.units{k:Nat}(r:Room k A):A.units+64<cLine:=by have:=r.un;omega
noncomputable def tNil:TA:=λ_ H Q=>Q [] H
noncomputable def Vy(t:TE)(tr:TA):TA:=λσ H Q=>t σ H λx k=>tr σ k λd l=>Q (x::d) l
section
variable {X:Cx}{e:Expr}{es:List Expr}{a:TE}{t:TA}{pos:Pos}
theorem OL:PA X [] tNil:=λ_ _ _ _ H Q I h=>ahr ⟨[],H,I,.nil,h⟩
theorem J4(ha:PE X e a)(hr:PA X es t)(hs:aad (e::es) X.env=(false,eval e X.env)::aad es X.env:=by rfl):PA X (e::es) (Vy a t):=by
 intro pos pins s σ H Q I h;rw[hs];show wpAny _ _ (spliced ((false,eval e X.env)::ab1 pos _)) _ _ s;refine ahf (thn (ha pins s σ H _ I h) λu s1 ⟨x,p,k,r1,q⟩=>?_);exact thn (hr pos pins s1 σ p _ k q)<|by rintro us s2 ⟨d,y,n,m,l⟩;exact⟨x::d,y,n,.cons r1 m,l⟩
noncomputable def tTup(t:TA):TE:=λσ H Q=>t σ H λd k=>d.length≤aag/\∀p,k p=none->Q (.ref p) (upd k p (.tup d))
noncomputable def tLst(t:TA):TE:=λσ H Q=>t σ H λd k=>d.length≤aag/\∀p,k p=none->Q (.ref p) (upd k p (.lst d))
theorem Se{x1}(h:PA X es t):PE X (.Tuple es x1 pos) (tTup t):=by
 intro pins s σ H Q I k;refine wpAny_Tuple_spliced (thn (h pos pins s σ H _ I k) λus s1 ⟨n,m,d,r,z,q⟩=>⟨by rw[<-r.length];exact z,?_⟩);have l:=d.hok.fresh (Dl _);refine⟨.ref s1.heap.objs.size,upd m s1.heap.objs.size _,d.laid (t':=s1.toks) (λb u e=>Ad _ e) (Dl _) ?_,rfl,q _ l⟩;exact⟨z,us,r,⟨_,aaf _ rfl,rfl,rfl,_,rfl⟩⟩
theorem T9(h:PA X es t):PE X (.List es pos) (tLst t):=by
 intro pins s σ H Q I k;refine wpAny_List_spliced (thn (h pos pins s σ H _ I k) λus s1 ⟨n,m,d,r,z,q⟩=>⟨by rw[<-r.length];exact z,?_⟩);have l:=d.hok.fresh (Dl _);refine⟨.ref s1.heap.objs.size,upd m s1.heap.objs.size _,d.laid (t':=s1.toks) (λb u e=>Ad _ e) (Dl _) ?_,rfl,q _ l⟩;exact⟨z,us,0,r,aaf _ rfl⟩
end
noncomputable abbrev Sp:=List V->Hp->VK->XK->Prop
noncomputable abbrev CXT:=List Env->Hp->oR->XK->mT->oR->Prop
structure Env0(P:aaB)(w:World)(K:Mt)(mg:Str->Option mT)(base:aaM)(A:aa4)(outer:List Env)(s:oR)(H:Hp):Prop where
 frames:A.frames=some outer
 mod:Mod K mg base
 bs:∀b o,base.get? b=some o->s.heap.get? b=some o/\H b=none
 bsz:base.objs.size≤s.heap.objs.size
 funs:s.heap.FunFrames base outer
 frf:∀b∈frs outer,H b=none
 hok:HOk P w H s.heap
 bare:aeI s.gens
noncomputable def CE(outer:List Env)(P:aaB)(w:World)(H:Hp)(s:oR)(Q:VK)(u:mT)(s':oR):Prop:=
 ∃v d,s'.os=s.os/\aeI s'.gens/\Un (frs outer) [] H d s.heap s'.heap/\HOk P w d s'.heap/\RelV v u/\Q v d
noncomputable def CR(CX:CXT)(outer:List Env)(P:aaB)(w:World)(H:Hp)(s:oR)(Q:VK)(E:XK)(r:Result)(s':oR):Prop:=
 match r with
 | .ok (.ret u)=>CE outer P w H s Q u s'
 | .ok _=>False
 | .error e=>CX outer H s E e s'
structure FnOk(P:aaB)(w:World)(K:Mt)(mg:Str->Option mT)(base:aaM)(CX:CXT)(k:Nat)(f:Addr)(fd:ab6)(ps:List Str)(sp:Sp):Prop where
 len:∀vs H Q E,sp vs H Q E->vs.length=ps.length
 run:∀(A:aa4) (outer:List Env) (s:oR) (H:Hp) (args:Args) (us:List mT) (vs:List V) (Q:VK) (E:XK),Room k A->Env0 P w K mg base A outer s H->ahs s fd args (ps.zip us)->Vals vs us->sp vs H Q E ->
  ael (model P w) A (.call (.ref f) args) (CR CX outer P w H s Q E) s
theorem Env0.make{base:aaM}{s:oR}(e:Env0 P w K mg base A outer s H)(C:Addr)(us:List mT)(kw:List (Str×mT)) :
  Env0 P w K mg base (A.under (.builtin "type.__call__" ⟨.ref C::us,kw⟩)) outer s H:=⟨by first|exact e.frames|(simpa[ pushEnvs]),e.mod,e.bs,e.bsz,e.funs,e.frf,e.hok,e.bare⟩
section
variable {X:Cx}{p:List (Addr×Obj)}{a:St}{H:Hp}{s s':oR}
theorem Inv.env0(I:Inv X p a H s):Env0 X.prog X.w X.K X.mg X.base X.A X.stack s H:=
 ⟨I.ok.frames,I.ok.mod,I.bs,aaj I.ok.bsz I.sz,I.stack,I.stkFree,I.hok,I.bare⟩
theorem Inv.after{Q:VK}(I:Inv X p a H s)(h:CE X.stack X.prog X.w H s Q u s'):EP X p a Q u s':=by
 obtain⟨v,m,os,bare,un,hok,r,q⟩:=h;obtain⟨l,g,d,t,k⟩:=s';obtain rfl:k=s.os:=os;exact⟨v,m,I.call (h':=l) (g':=g) (d':=d) (t':=t) un hok bare (λb z=>absurd z (by simp)),r,q⟩
end
noncomputable def OH(sp:Sp)(d:List V)(E:XK)(t:TA):TE:=λσ H Q=>t σ H λvs k=>sp (vs++d) k Q E
noncomputable def Binds(K:Mt)(fd:ab6)(ps:List Str)(ds:List mT):Prop:=
 ∀(s:oR) (us:List mT),K.In s.heap->(us++ds).length=ps.length->ahs s fd ⟨us,[]⟩ (ps.zip (us++ds))
theorem Binds.all{fd:ab6}(h:∀us:List mT,us.length=ps.length->bindArgs fd ⟨us,[]⟩=pure (ps.zip us)):Binds K fd ps []:=λs us _ d=>by
 rw[aaV]at d⊢;exact .of_eq (h us d)
noncomputable def v9(CX:CXT)(X:Cx)(E:XK):Prop:=∀(pins:List (Addr×Obj)) (σ:St) (H:Hp) (s:oR) (e:mT) (d:oR),Inv X pins σ H s->CX X.stack H s E e d->X.xe e d
section
variable {X:Cx}{CX:CXT}{k:Nat}{f C:Addr}{fd:ab6}{ps:List Str}{sp:Sp}{d:List V}{ds:List mT}{E:XK}{x m:Str}{p pos a:Pos}{e o:Expr}{es:List Expr}{b:TE}{t:TA}
theorem Rj{s:oR}{Q:VK}{vs:List V}(F:FnOk X.prog X.w X.K X.mg X.base CX k f fd ps sp)(hr:Room k X.A)(hb:Binds X.K fd ps ds)(hd:Vals d ds)(z:v9 CX X E)
  (I:Inv X pins σ H s) (r:Vals vs us) (h:sp (vs++d) H Q E):wpAny (model X.prog X.w) X.A (call (.ref f) us) (EP X pins σ Q) X.xe s:=by
 have n:=r.append hd;have B:(us++ds).length=ps.length:=by rw[<-n.length];exact F.len _ _ _ _ h
 refine ahg (adE (F.run X.A X.stack s H _ _ _ Q E hr I.env0 (hb s us I.kIn B) n h) λr y l=>?_)
 cases r with
 |error e=>exact z pins σ H s e y I l
 |ok q=>
  cases q with
  |ret u=>exact I.after l
  |next=>exact abQ l
  |brk=>exact abQ l
  |cont=>exact abQ l
theorem JY(F:FnOk X.prog X.w X.K X.mg X.base CX k f fd ps sp)(hr:Room k X.A)(D:Gl X x)(z:X.mg x=some (.ref f))(J:abV X.K (.ref f)=true)(hb:Binds X.K fd ps ds)(hd:Vals d ds)(B:v9 CX X E)
  (ha:PA X (e::es) t) (l:(x==("__debug__" : Str))=false:=by decide) (G:aad (e::es) X.env=(false,eval e X.env)::aad es X.env:=by rfl) (n:(ab1 pos (aad es X.env)).any (·.1)=false:=by rfl) :
  PE X (.Call (.Name x p) (e::es) [] pos) (OH sp d E t):=by
 intro pins s σ H Q I h;refine acW (j7 I D z ?_ l);refine afp I.ok.mod.kin J (thn (ha pos pins s σ H _ I h) λus s1 ⟨vs,L,y,r,q⟩=>⟨y.kIn,?_⟩) G n;exact Rj F hr hb hd B y r q
end
structure FnScope(N P:List Str)(sc:Scope):Prop where
 kind:sc.kind = .function
 co:sc.isCoroutine=false
 gen:sc.isGenerator=false
 nd:N.Nodup
 pre:N.take P.length=P
 par:∀x∈P,sc.names.lookup x=some .local\/sc.names.lookup x=some .cell
 nofree:∀y∈sc.names,y.2≠.free
theorem qc{k:Str->Option aeR}{x:Str}:∀{binds:List (Str×mT)}{m:Str->Option mT},(∀v,(x,v)∉binds)->bindL k binds m x=m x
 |[],_,_=>rfl
 | (n,v)::r,m,h=>by
  unfold bindL;rw[qc λw d=>h w (Ge _ d)];split
  .have:x≠n:=by rintro rfl;exact h v GE
   simp[this]
  .rfl
theorem p7{k:Str->Option aeR}{x:Str}:∀{binds:List (Str×mT)}{m:Str->Option mT},(∀v,(x,v)∉binds)->bindC k binds m x=m x
 |[],_,_=>rfl
 | (n,v)::r,m,h=>by
  unfold bindC;rw[p7 λw d=>h w (Ge _ d)];split
  .rfl
  .have:x≠n:=by rintro rfl;exact h v GE
   simp[this]
theorem qm{k:Str->Option aeR}{x:Str}{v:mT}:∀{P:List Str}{vs:List mT}{i:Nat}{m:Str->Option mT},P.Nodup->P[i]?=some x->vs[i]?=some v->k x=some .local ->
  bindL k (P.zip vs) m x=some v
 |[],_,_,_,_,h,_,_=>by simp at h
 |_::_,[],_,_,_,_,h,_=>by simp at h
 |p::P,w::vs,0,m,nd,h1,h2,hk=>by
  simp at h1 h2;subst h1;subst h2;show bindL k ((p,w)::P.zip vs) m p=_;unfold bindL;rw[qc λv d=>(aaQ.mp nd).1 (agy d).1,if_pos hk];simp
 |p::P,w::vs,i+1,m,nd,h1,h2,hk=>by
  unfold bindL;exact qm (aaQ.mp nd).2 ‹_› ‹_› hk
theorem pi{k:Str->Option aeR}{x:Str}{v:mT}:∀{P:List Str}{vs:List mT}{i:Nat}{m:Str->Option mT},P.Nodup->P[i]?=some x->vs[i]?=some v->k x≠some .local ->
  bindC k (P.zip vs) m x=some v
 |[],_,_,_,_,h,_,_=>by simp at h
 |_::_,[],_,_,_,_,h,_=>by simp at h
 |p::P,w::vs,0,m,nd,h1,h2,hk=>by
  simp at h1 h2;subst h1;subst h2;show bindC k (_::P.zip vs) m p=_;unfold bindC;rw[p7 λv d=>(aaQ.mp nd).1 (agy d).1,if_neg hk];simp
 |p::P,w::vs,i+1,m,nd,h1,h2,hk=>by
  unfold bindC;exact pi (aaQ.mp nd).2 ‹_› ‹_› hk
noncomputable def start(N:List Str)(vs:List V):St:=vs.map some++aam (N.length-vs.length) none
noncomputable def cxOf(CX:CXT)(P:aaB)(w:World)(K:Mt)(mg:Str->Option mT)(base:aaM)(N:List Str)(qual:Str)(scope:Scope)(f:Addr)(k:mT)(A:aa4)(outer:List Env)(s:oR)(H:Hp)(E:XK):Cx where
 prog:=P
 w:=w
 K:=K
 mg:=mg
 base:=base
 A:=A.deeper (ad5 qual scope s.heap.objs.size f k)
 N:=N
 s₀:=s
 H₀:=H
 env:=ad5 qual scope s.heap.objs.size f k
 outer:=outer
 stack:=ad5 qual scope s.heap.objs.size f k::outer
 ex:=[]
 calm:=true
 fn:=λ_=>true
 pn:=[]
 xe:=λe l=>wpAny (model P w) (A.deeper (ad5 qual scope s.heap.objs.size f k)) (leaving (ad5 qual scope s.heap.objs.size f k) e) (λ_ d=>CX outer H s E e d) (λm d=>CX outer H s E m d) l
theorem vv{sc:Scope}{n:Nat}(h:sc.names.lookup x=some .cell):∃c,(cellsFrom n sc.names []).lookup x=some c:=by
 have q:=agg sc.names n [] (.inl h);exact afR.mp q
theorem Bj{CX:CXT}{base:aaM}{qual:Str}{f:Addr}{G:mT}{s s1:oR}{E:XK}{vs:List V}
  (S:FnScope N ps scope) (hd:A.handled=none) (l:Env0 P w K mg base A outer s H) (U:vs.length=ps.length) (r:Vals vs us)
  (x:InCallC s s.heap.objs.size (bindL (ad5 qual scope s.heap.objs.size f G).kindOf (ps.zip us) λ_=>none) (cellsFrom (s.heap.objs.size+1) scope.names []) (bindC (ad5 qual scope s.heap.objs.size f G).kindOf (ps.zip us) λ_=>none) s1) :
  Inv (cxOf CX P w K mg base N qual scope f G A outer s H E) [] (start N vs) H s1:=by
 have L:ps.length≤N.length:=by have:=congrArg aeS S.pre;rw[aaU]at this;omega
 obtain⟨D,R,rfl,J⟩:=x.done;have m:∀b:Addr,b∉(cxOf CX P w K mg base N qual scope f G A outer s H E).ex:=λb z=>absurd (show b∈([]:List Addr)from z) (by simp);refine⟨⟨l.mod,S.kind,rfl,rfl,Dl _,λy z c D d=>?_,λy B=>?_,λy c _ h=>?_,λ_=>hd,aa4.frames_deeper l.frames,.inr ⟨rfl,rfl⟩,λb z=>absurd z (m b),l.bs,l.bsz,λb _ _=>m b,λb z=>absurd z (m b),l.funs,l.frf⟩,
  rfl,l.bare,Un.kept J,⟨_,x.toInCall.ns,λi y v D d T=>?_⟩,λy c h=>⟨_,x.cell y c h⟩,l.hok.fresh (Dl _),λy c h=>?_,λp hp=>absurd (show p∈([]:List (Addr×Obj))from hp) (by simp),l.hok.kept J,?_⟩
 .exact name_of_addr x.apart (ab8 D) (ab8 d)
 .rcases B with B|B
  .exact vv B
  .exact absurd rfl (S.nofree _ (ab8 B))
 .exact aa0 (x.above y c (ab8 h))
 .have F:i<vs.length:=by
   unfold start at d
   by_cases F:i<vs.length
   .exact F
   .rw[aaP (by simpa using F)]at d;rw[af0]at d
    split at d<;>cases d
  have ha:vs[i]?=some v:=by
   unfold start at d;rw[aaJ (by simpa using F),aae]at d
   cases e:vs[i]? with
   |none=>rw[e]at d;cases d
   |some a=>rw[e]at d;cases d;rfl
  obtain⟨u,I,O⟩:=r.get ha;have hp:ps[i]?=some y:=by
   rw[<-S.pre,List.getElem?_take_of_lt (by omega)];exact D
  have t:ps.Nodup:=by rw[<-S.pre];exact S.nd.sublist (List.take_sublist _ _)
  refine⟨u,O,?_⟩;rcases S.par y (DL hp)with k|k
  .exact .inl ⟨k,qm t hp I k⟩
  .obtain⟨c,e⟩:=vv (n:=s.heap.objs.size+1) k;refine .inr ⟨.inl k,c,e,?_⟩;have q:=x.cell y c e;rw[pi t hp I (by show scope.names.lookup y≠_;rw[k];decide)]at q;exact q
 .exact l.hok.fresh (aa0 (x.above y c (ab8 h)))
 .unfold start;show _=N.length;rw[aap,gE,ach];omega
theorem Ql{CX:CXT}{base:aaM}{k:Nat}{f:Addr}{name qual:Str}{p:Arguments}{Y kV F pm d ct oc:mT}{an od:Option Addr}
  {O:Array (Option mT)}{sp:Sp} (lk:K.lookup f=some ⟨oc,od,.func (acP name qual p body scope Y kV F pm an d ct),O⟩) (U:aem K d qual=true) (S:FnScope N ps scope)
  (len:∀vs H Q E,sp vs H Q E->vs.length=ps.length)
  (B:∀(A:aa4) (outer:List Env) (s:oR) (H:Hp) (vs:List V) (Q:VK) (E:XK),Room k (A.deeper (ad5 qual scope s.heap.objs.size f d))->sp vs H Q E ->
   ∃t,PSs (cxOf CX P w K mg base N qual scope f d A outer s H E) body t/\t {nx:=λ_ m=>Q .non m,rt:=Q} (start N vs) H) :
  FnOk P w K mg base CX (k+1) f (acP name qual p body scope Y kV F pm an d ct) ps sp:=by
 refine⟨len,λA outer s H args us vs Q E hr L hb r D=>?_⟩;have hl:=len _ _ _ _ D;have Z:K.In s.heap:=L.mod.kin.keeps λb o e=>(L.bs b o e).1;have T:s.heap.NoLimit:=L.mod.nolimit.keeps λb o e=>(L.bs b o e).1;have z:∀y∈ps.zip us,scope.names.lookup y.1=some .local\/(scope.names.lookup y.1=some .cell/\((cellsFrom (s.heap.objs.size+1) scope.names []).lookup y.1).isSome=true):=by
  rintro⟨n,v⟩ hy;rcases S.par n (agy hy).1 with q|q
  .exact .inl q
  .exact .inr ⟨q,agg _ _ _ (.inl q)⟩
 refine codeAny_call_function hr.depth (Z _ _ lk) rfl S.co S.gen rfl (PySem.W.codeRec_of Z U) (hb _ _ _ _ ?_);refine wpAny_newFunctionEnv_cells S.kind z λenv he s1 x=>?_;subst he;refine⟨T.keeps x.toInCall.keep,codeAny_func ?_⟩;obtain⟨t,ht,hq⟩:=B A outer s H vs Q E (hr.deeper _) D;have I:Inv (cxOf CX P w K mg base N qual scope f d A outer s H E) [] (start N vs) H s1:=Bj S hr.hd L hl r x;refine abP (ht [] s1 (start N vs) H _ I hq) (λfl R hs=>?_) λe R hs=>hs;have G:∀{l:St}{m:Hp}{v:V}{u:mT},Inv (cxOf CX P w K mg base N qual scope f d A outer s H E) [] l m R->RelV v u->Q v m->CE outer P w H s Q u R:=
  λ{l m v u} J W q=>⟨v,m,J.os,J.bare,J.base,J.hok,W,q⟩
 cases fl with
 |ret u=>
  obtain⟨v,l,m,J,W,q⟩:=hs;exact G J W q
 |next=>
  obtain⟨l,m,J,q⟩:=hs;exact G (v:=V.non) (u:=ab0) J rfl q
 |brk=>
  obtain⟨_,_,_,q⟩:=hs;exact abQ q
 |cont=>
  obtain⟨_,_,_,q⟩:=hs;exact abQ q
section
variable {X:Cx}{x:Str}{p pos:Pos}{e:Expr}{es:List Expr}{t:TA}{id T:String}{r:List V->Hp->VK->Prop}
noncomputable def tCB(r:List V->Hp->VK->Prop)(t:TA):TE:=λσ H Q=>t σ H λvs d=>r vs d Q
theorem Iq(F:dn X (.builtin id) r)(q:Gl X x)(l:X.mg x=none)(n:abe x=some (.builtin id))(ha:PA X (e::es) t)(m:x ≠ "__name__":=by decide)(d:(x==("__debug__" : Str))=false:=by decide)
  (y:aad (e::es) X.env=(false,eval e X.env)::aad es X.env:=by rfl) (k:(ab1 pos (aad es X.env)).any (·.1)=false:=by rfl):PE X (.Call (.Name x p) (e::es) [] pos) (tCB r t):=by
 intro pins s σ H Q I h;refine acW (ls I q l n ?_ m d);exact aeB (thn (ha pos pins s σ H _ I h)<|by rintro us s1 ⟨vs,D,z,r1,B⟩;exact F pins s1 σ D vs us Q z r1 B) y k
theorem zj(F:dn X (.type T) r)(q:Gl X x)(l:X.mg x=none)(n:abe x=some (.type T))(ha:PA X (e::es) t)(m:x ≠ "__name__":=by decide)(d:(x==("__debug__" : Str))=false:=by decide)
  (y:aad (e::es) X.env=(false,eval e X.env)::aad es X.env:=by rfl) (k:(ab1 pos (aad es X.env)).any (·.1)=false:=by rfl):PE X (.Call (.Name x p) (e::es) [] pos) (tCB r t):=by
 intro pins s σ H Q I h;refine acW (ls I q l n ?_ m d);exact acO (thn (ha pos pins s σ H _ I h) λus s1 ⟨vs,D,z,r1,B⟩=>F pins s1 σ D vs us Q z r1 B) y k
end
end L2
namespace HT
open PySem PyProof.Rows
variable{Q:mT->oR->Prop}{hi lo:Option Int}
section
variable {prog:aaB}{w:World}{A:aa4}{E:mT->oR->Prop}{s:oR}
theorem cat_tup{t b:Addr}{vs a:List mT}(u:IsTup s.heap t vs.toArray)(hb:IsTup s.heap b a.toArray)(q:vs≠[])
  (p:a=[]->Q (.ref t) s) (r:a≠[]->Q (.ref s.heap.objs.size) {s with heap:=s.heap.push {cls:=.type "tuple",data:=.seq (vs++a).toArray} })
  (hsz:vs.length+a.length≤aag):wpAny (model prog w) A (acx .Add (.ref t) (.ref b)) Q E s:=by
 obtain⟨⟨cls,l,data,k⟩,ho,o,n,hd⟩:=id u;obtain⟨⟨m,g,i,c⟩,h,f,n2,d⟩:=id hb;simp only at o hd f d;subst o hd f d;have e:vs.toArray++a.toArray=(vs++a).toArray:=by simp
 by_cases j:a=[]
 .exact agh ⟨_,ho,rfl⟩ ⟨_,h,rfl⟩ af1 aha aen aed (adP _ _)
   (tuple_addW1 t b vs.toArray a.toArray n n2 l g k c (by simpa) (by simp[j])) ⟨ho,h,p j⟩
 .refine agh ⟨_,ho,rfl⟩ ⟨_,h,rfl⟩ af1 aha aen aed (adP _ _)
   (tuple_addW2 t b vs.toArray a.toArray n n2 l g k c (by simpa using q) (by simpa) ‹_›) ⟨ho,h,?_⟩
  rw[e];exact r j
noncomputable def sIx(n d:Nat):Option Int->Nat
 |none=>d
 |some v=>if v<0 then(v+(n:Int)).toNat else min v.toNat n
theorem sIx_none(n d:Nat):sIx n d none=d:=rfl
theorem sIx_nat(n d k:Nat):sIx n d (some (k:Int))=min k n:=rfl
theorem Ph(n d:Nat)(hd:d≤n)(o:Option Int):sIx n d o≤n:=by
 cases o with
 |none=>exact hd
 |some v=>
  show(if v<0 then(v+n).toNat else min v.toNat n)≤n
  by_cases h:v<0
  .grind
  .rw[if_neg h];exact af2 _ _
theorem xY(v:Int)(n d:Nat):(if v<0 then max (v+(n:Int)) 0 else min v (n:Int))=((sIx n d (some v):Nat):Int):=by
 show _=(((if v<0 then(v+_).toNat else min v.toNat n):Nat):Int)
 grind
theorem xu(lo hi:Option Int)(n:Nat):afC lo hi 1 (n:Int)=(((sIx n 0 lo:Nat):Int),((sIx n n hi:Nat):Int)):=by
 refine Prod.ext ?_ ?_
 .cases lo with
  |none=>rfl
  |some v=>exact xY v n 0
 .cases hi with
  |none=>rfl
  |some v=>exact xY v n n
theorem xP(i j:Nat):adJ (i:Int) (j:Int) 1=j-i:=by
 unfold adJ
 grind
theorem l6{v:mT}{o:Option Int}{Q:Option Int->oR->Prop}(p:agi v o)(h:Q o s):wpAny (model prog w) A (acD.Slice.slicePartIndex v) Q E s:=by
 cases p with
 |none=>exact slicePart_none h
 |int i t=>exact slicePart_int h
theorem fx{c:Addr}{vl v:mT}{n:Nat}{Q:Int×Int×Nat->oR->Prop}(hs:s.heap.IsSliceOf c vl v .none)(p:agi vl lo)(e:agi v hi)
  (h:Q (((sIx n 0 lo:Nat):Int),1,sIx n n hi-sIx n 0 lo) s):wpAny (model prog w) A (acD.Slice.sliceApplied (.ref c) (pure (n:Int))) Q E s:=by
 obtain⟨os,b,d,a⟩:=id hs;refine aD (aD (aaO b a (x:=vl) rfl (aD (aaO b a (x:=v) rfl (aD (aaO b a (x:=.none) rfl (AD ?_)))))));refine aD (slicePart_none ?_);refine aD (l6 p (aD (l6 e (aD (AD ?_)))));show wpAny _ _ (match afC lo hi 1 (n:Int)with|(lo,hi)=>pure (lo,(1:Int),adJ lo hi 1)) _ _ s;rw[xu lo hi n];show wpAny _ _ (pure _) _ _ s;rw[xP];exact AD h
theorem Ib(xs:Array mT)(i k:Nat):((aaH k).filterMap λ(m:Nat)=>xs[((i:Int)+(m:Int)*1).toNat]?).toArray=((xs.toList.drop i).take k).toArray:=by
 have e:(λ(m:Nat)=>xs[(i+(m:Int)*1).toNat]?)=λm=>xs[i+m]?:=by
  funext m
  have:(i+(m:Int)*1).toNat=i+m:=by omega
  rw[this]
 rw[e];have:=pick_run xs i k;rw[List.filterMap_map]at this;have a:(_∘λx=>i+x)=λm=>xs[i+m]?:=rfl;rw[a]at this;rw[this]
theorem getItem_tuple_cut{t d:Addr}{items:Array mT}{vl v:mT}(b:IsTup s.heap t items)(hs:s.heap.IsSliceOf d vl v .none)(p:agi vl lo)(i:agi v hi)
  (l:¬(sIx items.size 0 lo=0/\sIx items.size items.size hi=items.size))
  (h:Q (.ref s.heap.objs.size) {s with heap:=s.heap.push {cls:=.type "tuple",data:=.seq ((items.toList.drop (sIx items.size 0 lo)).take (sIx items.size items.size hi-sIx items.size 0 lo)).toArray} })
  (hsz:items.size≤aag):wpAny (model prog w) A (aeJ (.ref t) (.ref d)) Q E s:=by
 have a:sizeOk (.seq ((items.toList.drop (sIx items.size 0 lo)).take (sIx items.size items.size hi-sIx items.size 0 lo)).toArray):=by
  show((items.toList.drop (sIx items.size 0 lo)).take (sIx items.size items.size hi-sIx items.size 0 lo)).toArray.size≤aag;rw[aaw,aaU,adF,ab9];omega
 have k:sIx items.size items.size hi≤items.size:=Ph _ _ (Dl _) hi;obtain⟨os,c,f,j⟩:=id hs;have e:s.TypeIs (.ref d) "slice":=⟨os,c,f⟩;unfold aeJ
 try with_reducible refine abA ?_
 first|refine aD (AD ?_)|skip
 refine aD (afG b.typeIs (by decide) ?_);refine aD (aaE (name:=abZ "__getitem__") b.typeIs abp
  (aaI abp b.typeIs entry_tuple_getitem ?_ (args_tuple_getitem _ _)))
 show wpAny _ _ (adz (.ref t) >>= _) _ _ s;refine aD (ahb b ?_);refine aD (ac4 e ?_);rw[if_pos (by decide)];refine aD (fx hs p i ?_);have g:¬((((sIx items.size 0 lo:Nat):Int)==0&&(1:Int)==1&&(sIx items.size items.size hi-sIx items.size 0 lo)==items.size)=true):=by
  grind
 show wpAny _ _ (if (((sIx items.size 0 lo:Nat):Int)==0&&(1:Int)==1&&(sIx items.size items.size hi-sIx items.size 0 lo)==items.size)=true then _ else _) _ _ s;rw[if_neg g,Ib]
 first
  |exact aD (m:=abW _) (aaW (AD ⟨_,rfl,AD h⟩) a)
  |exact aD (m:=abW _) (aaW (aD (AD (AD ⟨_,rfl,AD h⟩))) a)
  |exact aD (aD (m:=abW _) (aaW (AD (AD ⟨_,rfl,AD h⟩)) a))
  |exact aD (aD (m:=abW _) (aaW (AD ⟨_,rfl,AD h⟩) a))
end
end HT
namespace L2
open PySem PySem.Spec PyProof.Rows
variable{xs:List V}{its its' us:List mT}{n:Nat}{α:Type}{pins:List (Addr×Obj)}{σ:St}{H:Hp}
noncomputable abbrev TO:=St->Hp->(Option Int->Hp->Prop)->Prop
noncomputable def PO(X:Cx)(e:Option Expr)(t:TO):Prop:=
 ∀(pins:List (Addr×Obj)) (s:oR) (σ:St) (H:Hp) (Q:Option Int->Hp->Prop),Inv X pins σ H s->t σ H Q ->
  wpAny (model X.prog X.w) X.A (evalPart e X.env) (λu b=>∃o a,Inv X pins σ a b/\agi u o/\Q o a) X.xe s
noncomputable def Oa:TO:=λ_ H Q=>Q none H
noncomputable def VC(t:TE):TO:=λσ H Q=>t σ H λx a=>∃i,x = .int i/\Q (some i) a
theorem mD{ns:List Int}:∀{us:List mT},Vals (ns.map V.int) us->agZ us ns:=by
 induction ns with
 |nil=>intro us r;cases r;exact .nil
 | cons n ns i=>
  intro us r
  cases r with
  |cons r1 a=>
   obtain⟨t,e⟩:=r1;subst e;exact .cons n t (i a)
section
variable {X:Cx}{e:Expr}{d:TE}{lo c:Option Expr}{tl f:TO}{pos g:Pos}
theorem KH:PO X none Oa:=by
 intro pins s σ H Q I h;exact AD ⟨none,H,I,.none,h⟩
theorem K8(h:PE X e d):PO X (some e) (VC d):=by
 intro pins s σ H Q I a;refine thn (h pins s σ H _ I a) λu s1 ⟨x,j,k,r1,b⟩=>?_;obtain⟨i,rfl,q⟩:=b;obtain⟨t,rfl⟩:=r1;exact⟨some i,j,k,.int i t,q⟩
noncomputable def SlR(X:Cx)(r:V->Option Int->Option Int->Hp->VK->Prop):Prop:=
 ∀(pins:List (Addr×Obj)) (s:oR) (σ:St) (H:Hp) (x:V) (v vl b:mT) (lo c:Option Int) (a:Addr) (Q:VK),Inv X pins σ H s->RelV x v->s.heap.IsSliceOf a vl b .none->agi vl lo->agi b c->r x lo c H Q ->
  ∃T id,agj (.type T) "__getitem__" = pure (some (.builtin id))/\s.TypeIs v T/\wpAny (model X.prog X.w) X.A (aeJ v (.ref a)) (EP X pins σ Q) X.xe s
noncomputable def tSl(r:V->Option Int->Option Int->Hp->VK->Prop)(d:TE)(tl f:TO):TE:=λσ H Q=>d σ H λx a=>tl σ a λl b=>f σ b λu h=>r x l u h Q
theorem DG{r:V->Option Int->Option Int->Hp->VK->Prop}(hr:SlR X r)(t:PE X e d)(J:PO X lo tl)(m:PO X c f):PE X (.Subscript e (.Slice lo c none g) pos) (tSl r d tl f):=by
 intro pins s σ H Q I h;refine Subscript_ (thn (t pins s σ H _ I h) λv s1 ⟨x,y,E,r1,G⟩=>?_);refine wpAny_Slice (thn (J pins s1 σ y _ E G) λvl s2 ⟨l,z,o,A,F⟩=>thn (m pins s2 σ z _ o F) λi a ⟨u,j,w,p,K⟩=>?_);refine AD ?_;have k:Inv X pins σ j {a with heap:=a.heap.push {cls:=.type "slice",data:=.fields #[vl,i,.none]} }:=w.kept (t':=a.toks) λb ob q=>Ad _ q;obtain⟨T,id,B,D,C⟩:=hr pins {a with heap:=a.heap.push {cls:=.type "slice",data:=.fields #[vl,i,.none]} } σ j x v vl i l u a.heap.objs.size Q k r1 (aaM.IsSliceOf.new ..) A p K;exact tail_any D B C rfl
noncomputable def cutV(xs:List V)(lo c:Option Int):List V:=(xs.drop (HT.sIx xs.length 0 lo)).take (HT.sIx xs.length xs.length c-HT.sIx xs.length 0 lo)
theorem ko(xs:List V)(lo c:Option Int):(cutV xs lo c).length≤xs.length:=by
 unfold cutV;rw[aaU,adF];omega
noncomputable def rSlT(K:Mt):V->Option Int->Option Int->Hp->VK->Prop:=λx lo c H Q=>∃a xs,x = .ref a/\SqT K H a xs/\
 ¬(HT.sIx xs.length 0 lo=0/\HT.sIx xs.length xs.length c=xs.length)/\∀p,H p=none->Q (.ref p) (upd H p (.tup (cutV xs lo c)))
theorem QR:SlR X (rSlT X.K):=by
 intro pins s σ H x v vl w lo c u Q I m hs p o h;obtain⟨a,xs,rfl,l,t,q⟩:=h;cases m;obtain⟨its,r,j,k⟩:=I.tuple l;have i:its.toArray.size=xs.length:=by rw[aaw];exact r.length.symm
 refine⟨"tuple",_,abp.lookup,j.typeIs,?_⟩;refine HT.getItem_tuple_cut j hs p o (by rw[i];exact t) ?_ (by rw[i];exact k);rw[i];refine⟨.ref s.heap.objs.size,_,I.laid (t':=s.toks) (λb ob q=>Ad _ q) (Dl _) ?_,rfl,q _ (I.hok.fresh (Dl _))⟩;exact⟨aaj (ko xs lo c) k,_,(r.drop _).take _,PlainT.new _ _⟩
noncomputable def W4(K:Mt):R2:=λx y H Q=>∃a b xs h,x = .ref a/\y = .ref b/\SqT K H a xs/\SqT K H b h/\xs≠[]/\xs.length+h.length≤aag/\
 (h=[]->Q (.ref a) H)/\(h≠[]->∀p,H p=none->Q (.ref p) (upd H p (.tup (xs++h))))
theorem Vals.nil_iff(r:Vals xs us):us=[]↔xs=[]:=by
 cases r with
 |nil=>simp
 |cons _ _=>simp
theorem LG:OpR X (acx .Add) (W4 X.K):=by
 intro pins s σ H x y v u Q I l t h;obtain⟨a,b,xs,A,rfl,rfl,ha,hb,k,j,o,m⟩:=h;cases l;cases t;obtain⟨its,r1,p,_⟩:=I.tuple ha;obtain⟨i,r,g,_⟩:=I.tuple hb;refine HT.cat_tup p g (λz=>k (r1.nil_iff.mp z)) (λz=>⟨.ref a,H,I,rfl,o (r.nil_iff.mp z)⟩) (λz=>?_) (by rw[<-r1.length,<-r.length];exact j);refine⟨.ref s.heap.objs.size,_,I.laid (t':=s.toks) (λb ob q=>Ad _ q) (Dl _) ?_,rfl,m (λw=>z (r.nil_iff.mpr w)) _ (I.hok.fresh (Dl _))⟩;exact⟨by rw[aap];exact j,_,r1.append r,PlainT.new _ _⟩
end
noncomputable def ixN(n:Nat)(i:Int):Option Nat:=if 0≤i then(if i<n then some i.toNat else none)else if -(n:Int)≤i then some (i+n).toNat else none
noncomputable def atI{α:Type}(xs:List α)(i:Int):Option α:=(ixN xs.length i).bind λj=>xs[j]?
theorem yc{i:Int}{j:Nat}(h:ixN n i=some j):seqIndex? i n=some j/\j<n/\-(n:Int)≤i/\i<n:=by
 unfold ixN at h
 by_cases h0:0≤i
 .rw[if_pos h0]at h
  by_cases a:i<n
  .rw[if_pos a]at h;have e:=aal h;exact⟨by rw[seqIndex_of h0 a,e],by omega,by omega,a⟩
  .simp_all
 .rw[if_neg h0]at h
  by_cases a : -(n:Int)≤i
  .rw[if_pos a]at h;have e:=aal h;exact⟨by rw[aht (by omega) a,e],by omega,a,by omega⟩
  .simp_all
theorem sd{xs:List α}{i:Int}{v:α}(h:atI xs i=some v):∃j,seqIndex? i xs.length=some j/\xs[j]?=some v/\j<xs.length/\-(xs.length:Int)≤i/\i<xs.length:=by
 unfold atI at h
 cases e:ixN xs.length i with
 |none=>rw[e]at h;cases h
 |some j=>
  rw[e]at h;obtain⟨d,a,b,c⟩:=yc e;exact⟨j,d,h,a,b,c⟩
theorem bg{xs:List α}{j:Nat}{v:α}(h:xs[j]?=some v):atI xs (j:Int)=some v:=by
 have a:=(Io.mp h).1;have e:ixN xs.length j=some j:=by
  unfold ixN
  simp_all
 unfold atI;rw[e];exact h
noncomputable def tq(b:Expr):Prop:=∀o i,agG b false o i=operate [o,i] (aeJ o i)
noncomputable def IxR(X:Cx)(r:R2):Prop:=
 ∀(b a:Expr) (pins:List (Addr×Obj)) (s:oR) (σ:St) (H:Hp) (x y:V) (v u:mT) (Q:VK),Inv X pins σ H s->RelV x v->RelV y u->r x y H Q ->
  agG a false v u=operate [v,u] (aeJ v u)->wpAny (model X.prog X.w) X.A (subscriptTail b a v u) (EP X pins σ Q) X.xe s
noncomputable def MtR(X:Cx)(id:String)(r:V->List V->Hp->VK->Prop):Prop:=
 ∀(pins:List (Addr×Obj)) (s:oR) (σ:St) (H:Hp) (x:V) (xs:List V) (v:mT) (us:List mT) (Q:VK),Inv X pins σ H s->RelV x v->Vals xs us->r x xs H Q ->
  wpAny (model X.prog X.w) X.A (call (.builtin id) (v::us)) (EP X pins σ Q) X.xe s
section
variable {X:Cx}{a b:Expr}{m tb:TE}{pos:Pos}
theorem V7{r:R2}(hr:IxR X r)(ha:PE X a m)(hb:PE X b tb)(hs:tq b):PE X (.Subscript a b pos) (tOp r m tb):=by
 intro pins s σ H Q I h;exact Subscript_ (binT ha hb I h λv u s2 x y f d c e q=>hr a b pins s2 σ f x y v u Q d c e q (hs _ _))
noncomputable def rIxL(K:Mt):R2:=λx y H Q=>∃p xs i v,x = .ref p/\y = .int i/\SqL K H p xs/\atI xs i=some v/\Q v H
noncomputable def rIxT(K:Mt):R2:=λx y H Q=>∃p xs i v,x = .ref p/\y = .int i/\SqT K H p xs/\atI xs i=some v/\Q v H
noncomputable def rIxS:R2:=λx y H Q=>∃z i c,x = .str z/\y = .int i/\z.length≤aag/\atI z.cps.toList i=some c/\Q (.str ⟨#[c]⟩) H
theorem LH:IxR X (rIxL X.K):=by
 intro e k pins s σ H x y v u Q I o F h hs;obtain⟨p,xs,i,z,rfl,rfl,A,B,q⟩:=h;cases o;obtain⟨t,rfl⟩:=F;obtain⟨its,r,d,L⟩:=I.list A;obtain⟨j,c,C,K,D,E⟩:=sd B;obtain⟨w,l,g⟩:=r.get C;have G:=r.length;have J:=mF;have f:EP X pins σ Q w s:=⟨z,H,I,g,q⟩
 by_cases h0:0≤i
 .have hj:i.toNat=j:=by
   rw[seqIndex_of h0 E]at c;exact aal c
  exact item_listR d.isList h0 (by omega) (by rw[hj];simpa using l) f hs
 .have hj:(i+(its.toArray.size:Int)).toNat=j:=by
   rw[aht (by omega) D]at c;rw[aaw,<-G];exact aal c
  exact agk (x:=w) d.isList.typeIs slot_list_getitem.lookup
   (wpAny_getItem_list_neg d.isList (by omega) (by simp_all) (by omega) (by rw[hj];simpa using l) ⟨rfl,f⟩) hs
theorem Pc:IxR X (rIxT X.K):=by
 intro c e pins s σ H x y v u Q I k C h hs;obtain⟨p,xs,i,z,rfl,rfl,l,A,q⟩:=h;cases k;obtain⟨t,rfl⟩:=C;obtain⟨its,r,g,L⟩:=I.tuple l;obtain⟨j,o,B,J,F,K⟩:=sd A;obtain⟨w,G,d⟩:=r.get B;have D:=r.length;have E:=mF;have f:EP X pins σ Q w s:=⟨z,H,I,d,q⟩;exact agk g.typeIs slot_tuple_getitem.lookup
  (getItem_tuple g (by omega) (by omega) (by rw[aaw,<-D];exact o) (by simpa) ⟨rfl,f⟩) hs
theorem Rb:IxR X rIxS:=by
 intro d e pins s σ H x y v u Q I r w h hs;obtain⟨z,i,c,rfl,rfl,F,k,q⟩:=h;obtain⟨t,rfl⟩:=r;obtain⟨E,rfl⟩:=w;obtain⟨j,f,l,D,o,p⟩:=sd k;have A:z.cps.toList.length=z.length:=by simp[Str.length]
 rw[A]at f o p;have C:=mF;exact tail_any (typeIs_str s z t) slot_str_getitem.lookup (getItem_str (by
  have B:decide (i < -(2^63:Int))=false:=decide_eq_false (by omega);have g:decide (i≥2^63)=false:=decide_eq_false (by omega);rw[B,g,Bool.or_false]) (by rw[f];simpa using l) ⟨.str ⟨#[c]⟩,H,I.tok _,⟨_,rfl⟩,q⟩) hs
theorem xr(its:List mT)(n j:Nat)(u:mT):acH (·.setIfInBounds j u) {cls:=.type "list",data:=.seq its.toArray n}={cls:=.type "list",data:=.seq (its.set j u).toArray n}:=by
 simp[acH]
theorem Inv.lst{s:oR}{p:Addr}(I:Inv X pins σ H s)(h:H p=some (.lst xs)) :
  ∃(its:List mT) (n:Nat),Vals xs its/\s.heap.get? p=some {cls:=.type "list",data:=.seq its.toArray n}/\xs.length≤aag:=by
 obtain⟨z,its,n,r,e⟩:=I.hok p _ h;exact⟨its,n,r,e,z⟩
theorem Inv.lstUpd{s:oR}{p:Addr}{ys:List V}{n':Nat}{f:Obj->Obj}(I:Inv X pins σ H s)(h:H p=some (.lst xs))
  (ho:s.heap.get? p=some {cls:=.type "list",data:=.seq its.toArray n}) (c:f {cls:=.type "list",data:=.seq its.toArray n}={cls:=.type "list",data:=.seq its'.toArray n' }) (r:Vals ys its') (d:ys.length≤aag) (t:Nat) :
  Inv X pins σ (upd H p (.lst ys)) {s with heap:=s.heap.update p f,toks:=t}:=by
 have e:(s.heap.update p f).get? p=some {cls:=.type "list",data:=.seq its'.toArray n' }:=by
  rw[abf f ho (by rw[c]<;>rfl),c]
 refine I.write (by rw[h];trivial) (.inl rfl) (λb u hb q=>(aaY _ _ (aa5 hb)).trans q) ⟨_,e⟩ ?_;exact⟨d,its',n',r,e⟩
noncomputable def VD:V->V->V->Hp->(Hp->Prop)->Prop:=λo i v H Q=>∃p xs k j,o = .ref p/\i = .int k/\H p=some (.lst xs)/\ixN xs.length k=some j/\Q (upd H p (.lst (xs.set j v)))
theorem FG:PSet X VD:=by
 intro pins s σ H o i v C D u Q I f l z h;obtain⟨p,xs,k,j,rfl,rfl,hp,e,q⟩:=h;cases f;obtain⟨t,rfl⟩:=l;obtain⟨its,n,r,ho,x⟩:=I.lst hp;obtain⟨c,B,w,g⟩:=yc e;have y:=r.length;have A:=mF;have d:=
  I.lstUpd hp ho (xr its n j u) (r.set z j) (by rw[abq];exact x) s.toks
 by_cases h0:0≤k
 .have hk:k.toNat=j:=by
   rw[seqIndex_of h0 g]at c;exact aal c
  exact PySem.W.ki_setAt ho h0 (by omega) (by simp_all) (by rw[hk];exact⟨_,d,q⟩)
 .have hk:(k+(its.toArray.size:Int)).toNat=j:=by
   rw[aht (by omega) w]at c;rw[aaw,<-y];exact aal c
  exact PySem.W.ki_setBack ho (by omega) (by simp_all) (by omega) (by rw[hk];exact⟨_,d,q⟩)
theorem pJ(lo c:Option Int)(n:Nat):(aee lo c none n).1=((HT.sIx n 0 lo:Nat):Int)/\(aee lo c none n).2.1=((HT.sIx n n c:Nat):Int)/\(aee lo c none n).2.2=1:=by
 refine⟨?_,?_,rfl⟩
 .cases lo with
  |none=>simp[aee,HT.sIx]
  |some i=>
   simp only[aee,HT.sIx,ahH,show(1:Int)>0 by decide,if_true]
   by_cases h:i<0
   .simp only[h,if_true]<;>omega
   .simp only[h,if_false]<;>omega
 .cases c with
  |none=>simp[aee,HT.sIx]
  |some i=>
   simp[aee,HT.sIx,ahH,show(1:Int)>0 by decide,if_true]
   by_cases h:i<0
   .simp only[h,if_true]<;>omega
   .simp only[h,if_false]<;>omega
theorem o9(its:List mT)(lo h:Option Int):slicePick its.toArray lo h none=((its.drop (HT.sIx its.length 0 lo)).take (HT.sIx its.length its.length h-HT.sIx its.length 0 lo)).toArray:=by
 obtain⟨e,c,d⟩:=pJ lo h its.toArray.size;unfold slicePick;rw[e,c,d];simp only[sliceRange_one,pick_run]<;>rfl
noncomputable def rSlL(K:Mt):V->Option Int->Option Int->Hp->VK->Prop:=λx l h H Q=>∃a xs,x = .ref a/\SqL K H a xs/\∀p,H p=none->Q (.ref p) (upd H p (.lst (cutV xs l h)))
theorem Lz:SlR X (rSlL X.K):=by
 intro pins s σ H x v vl o l j k Q I f hs p g h;obtain⟨a,xs,rfl,e,q⟩:=h;cases f;obtain⟨its,r,d,i⟩:=I.list e;have c:=r.length;refine⟨"list",_,slot_list_getitem.lookup,d.isList.typeIs,?_⟩;refine wpAny_getItem_list_slice d.isList hs p g .none (by simp) ?_ (by grind);rw[o9,<-c];refine⟨.ref s.heap.objs.size,_,I.laid (t':=s.toks) (λb ob q=>Ad _ q) (Dl _) ?_,rfl,q _ (I.hok.fresh (Dl _))⟩;exact⟨aaj (ko xs l j) i,_,0,(r.drop _).take _,aaf _ rfl⟩
theorem jj:dn X (.builtin "len") (λxs H Q=>∃p ys,xs=[.ref p]/\(SqL X.K H p ys\/SqT X.K H p ys)/\Q (.int ys.length) H):=by
 intro pins s σ H xs us Q I r h;obtain⟨p,ys,rfl,d,q⟩:=h;obtain⟨u,rfl,e⟩:=w6 r;cases e;have f:=mF;rcases d with d|d
 .obtain⟨its,r',pl,hz⟩:=I.list d;have c:=r'.length;exact Calls.call_len_list pl.isList (by simp only[aaw]<;>omega) ⟨.int ys.length,H,I.tok _,⟨s.toks+1,by rw[aaw,c]⟩,q⟩
 .obtain⟨its,r',pl,hz⟩:=I.tuple d;have c:=r'.length;exact len_tuple pl (by simp only[aaw]<;>omega) ⟨.int ys.length,H,I.tok _,⟨s.toks+1,by rw[aaw,c]⟩,q⟩
theorem q9:dn X (.builtin "len") (λxs H Q=>∃z,xs=[.str z]/\z.length≤aag/\Q (.int z.length) H):=by
 intro pins s σ H xs us Q I r h;obtain⟨z,rfl,c,q⟩:=h;obtain⟨u,rfl,t,rfl⟩:=w6 r;have d:=mF;exact len_str (by omega) ⟨.int z.length,H,I.tok _,⟨_,rfl⟩,q⟩
theorem oH:dn X (.type "tuple") (λxs H Q=>∃p ys,xs=[.ref p]/\((SqL X.K H p ys/\∀l,H l=none->Q (.ref l) (upd H l (.tup ys)))\/(SqT X.K H p ys/\Q (.ref p) H))):=by
 intro pins s σ H xs us Q I r h;obtain⟨p,ys,rfl,h⟩:=h;obtain⟨u,rfl,g⟩:=w6 r;cases g;rcases h with⟨c,q⟩|⟨c,q⟩
 .obtain⟨its,r',pl,hz⟩:=I.list c;have d:=r'.length;refine call_tuple_list pl.isList (λj kp=>?_) (by simp_all);have f:=I.kept (t':=s.toks) kp;have i:=
   f.laid (t':=s.toks) (λb o e=>Ad _ e) (Dl _) (show ObjOk X.prog X.w _ _ _ (.tup ys)from⟨hz,its,r',PlainT.new _ _⟩)
  exact⟨.ref j.objs.size,_,i,rfl,q _ (f.hok.fresh (Dl _))⟩
 .obtain⟨its,r',pl,hz⟩:=I.tuple c;exact call_tuple_same pl ⟨.ref p,H,I,rfl,q⟩
noncomputable def tyV(K:Mt)(T:String)(x:V)(H:Hp):Prop:=match x with
 | .str _=>T = "str"
 | .int _=>T = "int"
 | .ref p=>(T = "list"/\∃xs,SqL K H p xs)\/(T = "tuple"/\∃xs,SqT K H p xs) \/
   (T = "dict"/\((∃k,H p=some (.dK k))\/∃k,H p=some (.dT k)))\/(T = "set"/\∃S n,H p=some (.set S n))
 |_=>False
theorem IZ{s:oR}{T:String}{x:V}{v:mT}(I:Inv X pins σ H s)(r:RelV x v)(ty:tyV X.K T x H) :
  s.TypeIs v T/\∀a,v = .ref a->∃ob,s.heap.get? a=some ob/\ob.dict=none:=by
 cases x with
 |str z=>
  obtain⟨t,rfl⟩:=r
  cases (show T = "str" from ty)
  exact⟨typeIs_str s z t,λ_ e=>nomatch e⟩
 |int i=>
  obtain⟨t,rfl⟩:=r
  cases (show T = "int" from ty)
  exact⟨agl s i t,λ_ e=>nomatch e⟩
 | ref p=>
  cases r;rcases ty with⟨rfl,xs,f⟩|⟨rfl,xs,f⟩|⟨rfl,h⟩|⟨rfl,S,n,h⟩
  .obtain⟨its,_,pl,_⟩:=I.list f;refine⟨pl.isList.typeIs,λa e=>?_⟩;cases e;obtain⟨o,n,e,c,hd,_⟩:=pl;exact⟨o,e,hd⟩
  .obtain⟨its,_,⟨o,e0,hc,hd,_⟩,_⟩:=I.tupleP f;refine⟨⟨o,e0,hc⟩,λa e=>?_⟩;cases e;exact⟨o,e0,hd⟩
  .have z:∃o,s.heap.get? p=some o/\o.ExactDict:=by
    rcases h with⟨k,h⟩|⟨k,h⟩
    .obtain⟨_,_,_,_,o,_,_,e,ex,_⟩:=I.hok p _ h;exact⟨o,e,ex⟩
    .obtain⟨_,_,_,_,o,_,_,e,ex,_⟩:=I.hok p _ h;exact⟨o,e,ex⟩
   obtain⟨o,e,ex⟩:=z;refine⟨⟨o,e,ex.1⟩,λa d=>?_⟩;cases d;exact⟨o,e,ex.2.1⟩
  .obtain⟨o,_,_,_,e,ex,_⟩:=I.hok p _ h;refine⟨⟨o,e,ex.1⟩,λa d=>?_⟩;cases d;exact⟨o,e,ex.2.1⟩
 |_=>exact abQ ty
noncomputable def tBM0(K:Mt)(T:String)(r:V->List V->Hp->VK->Prop)(to:TE):TE:=λσ H Q=>to σ H λx c=>tyV K T x c/\r x [] c Q
noncomputable def tBM(K:Mt)(T:String)(r:V->List V->Hp->VK->Prop)(to:TE)(t:TA):TE:=λσ H Q=>to σ H λx c=>tyV K T x c/\t σ c λxs d=>r x xs d Q
variable {o e:Expr}{es:List Expr}{to:TE}{t:TA}{name:Str}{g d:Pos}{T id:String}{r:V->List V->Hp->VK->Prop}
theorem Um(p:PlainAttrs T)(slot:Slot T name id)(i:agm (.builtin id)=pure (.type "method_descriptor"))(k:MtR X id r)(ho:PE X o to)
  (c:abg o name X.env (eval o X.env)=eval o X.env:=by rfl) (f:(g.endLine==d.line)=true:=by rfl):PE X (.Call (.Attribute o name g) [] [] d) (tBM0 X.K T r to):=by
 intro pins s σ H Q I h;refine aef c f (thn (ho pins s σ H _ I h) λv s1 ⟨x,u,j,r1,ty,q⟩=>?_);obtain⟨l,w⟩:=IZ j r1 ty;exact⟨T,id,p,slot,i,l,w,acQ rfl (afe (k pins s1 σ u x [] v [] Q j r1 .nil q))⟩
theorem Tq(C:PlainAttrs T)(slot:Slot T name id)(k:agm (.builtin id)=pure (.type "method_descriptor"))(q:MtR X id r)(ho:PE X o to)(ha:PA X (e::es) t)
  (f:abg o name X.env (eval o X.env)=eval o X.env:=by rfl)
  (i:((ab1 d (aad (e::es) X.env)).all (λx=>!x.1)&&(afq d (adA [] X.env)).all (λx=>x.1.isSome)
   && decide ((e::es).length+([]:List adi).length+(if ([]:List adi).isEmpty then 0 else 1)<30))=true:=by rfl)
  (c:(g.endLine==d.line)=true:=by rfl) (hs:aad (e::es) X.env=(false,eval e X.env)::aad es X.env:=by rfl) (j:(ab1 d (aad es X.env)).any (·.1)=false:=by rfl) :
  PE X (.Call (.Attribute o name g) (e::es) [] d) (tBM X.K T r to t):=by
 intro pins s σ H Q I h;refine agn f i c rfl (thn (ho pins s σ H _ I h) λv s1 ⟨x,D,p,r1,ty,B⟩=>?_);obtain⟨u,z⟩:=IZ p r1 ty;refine⟨T,id,C,slot,k,u,z,?_⟩;have l:=ha d pins s1 σ D _ p B;rw[hs]at l⊢;refine acQ ‹_› (agH ?_);exact thn l<|by rintro us s2 ⟨vs,E,y,w,A⟩;exact q pins s2 σ E x vs v us Q y r1 w A
end
noncomputable def MtM(X:Cx)(id:String)(r:V->List V->Hp->VK->Prop):Prop:=
 ∀(pins:List (Addr×Obj)) (s:oR) (σ:St) (H:Hp) (x:V) (xs:List V) (v:mT) (us:List mT) (Q:VK),Inv X pins σ H s->RelV x v->Vals xs us->r x xs H Q ->
  wpAny (model X.prog X.w) X.A (call (.builtin id) (v::us)) (EP X pins σ Q) X.xe s
theorem Vals.one:∀{x:V}{us:List mT},Vals [x] us->∃u,us=[u]/\RelV x u
 |_,_,.cons r .nil=>⟨_,rfl,r⟩
theorem Vals.zero:∀{us:List mT},Vals [] us->us=[]
 |_,.nil=>rfl
theorem Vals.dropLast(h:Vals xs us):Vals xs.dropLast us.dropLast:=by
 induction h with
 |nil=>exact .nil
 |cons r t i=>
  cases t with
  |nil=>exact .nil
  |cons q a=>exact .cons r i
theorem Vals.rep{xs:List V}{us:List mT}(h:Vals xs us):∀k:Nat,Vals (aam k xs).flatten (aam k us).flatten
 |0=>.nil
 |k+1=>by
  exact Vals.append h (Vals.rep h k)
theorem wj(l:List α):l.eraseIdx (l.length-1)=l.dropLast:=by
 induction l with
 |nil=>rfl
 | cons a r i=>
  cases r with
  |nil=>rfl
  | cons b r=>
   have e:(a::b::r).length-1=((b::r).length-1)+1:=by
    have c:(a::b::r).length=r.length+2:=rfl;have h:(b::r).length=r.length+1:=rfl;omega
   rw[e,List.eraseIdx_cons_succ,i]
   all_goals rfl
theorem k8(its:List mT):∀(k:Nat) (acc:List mT),
  ah3 (λx b=>x++b) acc.toArray (aam k its.toArray)=(acc++(aam k its).flatten).toArray
 |0,acc=>by simp
 | k+1,acc=>by
  have e:acc.toArray++its.toArray=(acc++its).toArray:=by simp
  have a:(acc++its)++(aam k its).flatten=acc++(aam (k+1) its).flatten:=by
   rw[adK,List.flatten_cons,acE]
  rw[<-a,<-k8 its k _,<-e,adK,acb]
section
variable {X:Cx}{p:List (Addr×Obj)}{a:St}{H:Hp}{s:oR}{l b:Addr}{xs ys c:List V}
theorem Inv.lset{f:Array mT->Array mT}{t':Nat}(I:Inv X p a H s)(j:H l=some (.lst xs))
  (e:s.heap.get? l=some {cls:=.type "list",data:=.seq its.toArray n}) (d:f its.toArray=its'.toArray) (h:Vals ys its') (g:ys.length≤aag) :
  Inv X p a (upd H l (.lst ys)) {s with heap:=s.heap.update l (acH f),toks:=t' }:=by
 have q:=PySem.IsL.update e f;rw[d]at q;refine I.write (by rw[j];exact trivial) (.inl rfl) (λk u hb i=>(aaY s.heap _ (aa5 hb)).trans i) ⟨_,q⟩ ?_;exact⟨g,its',_,h,q⟩
theorem Inv.lnew{t':Nat}(I:Inv X p a H s)(h:Vals ys its)(d:ys.length≤aag) :
  Inv X p a (upd H s.heap.objs.size (.lst ys)) {s with heap:=s.heap.push {cls:=.type "list",data:=.seq its.toArray},toks:=t' }:=
 I.laid (λ_ _ q=>Ad _ q) (Dl _) ⟨d,its,0,h,aaf _ rfl⟩
theorem Inv.fresh(I:Inv X p a H s):H s.heap.objs.size=none:=I.hok.fresh (Dl _)
theorem Inv.lstM(I:Inv X p a H s)(h:H l=some (.lst xs)):xs.length≤aag/\∃(its:List mT) (n:Nat),Vals xs its/\xs.length=its.length/\s.heap.get? l=some {cls:=.type "list",data:=.seq its.toArray n}:=by
 obtain⟨z,its,n,r,e⟩:=I.hok l _ h;exact⟨z,its,n,r,r.length,e⟩
theorem vC(h:n≤aag):adQ n=false:=by
 exact decide_eq_false (by omega)
end
section
variable {X:Cx}
noncomputable def Oh:V->List V->Hp->VK->Prop:=λx vs H Q=>∃l xs y,x = .ref l/\vs=[y]/\H l=some (.lst xs)/\xs.length<aag/\Q .non (upd H l (.lst (xs++[y])))
theorem qG:MtM X "list.append" Oh:=by
 intro pins s σ H x vs v us Q I c d h;obtain⟨l,xs,y,rfl,rfl,a,f,q⟩:=h;cases c;obtain⟨u,rfl,b⟩:=d.one;obtain⟨z,its,n,r,g,e⟩:=I.lstM a;refine ad6 F.slot_list_append ⟨_,e,rfl⟩ F.entry_list_append (F.args_list_append_2 _ _) (PySem.list_append l its.toArray n u (by grind)) ⟨e,?_⟩;refine⟨.non,_,I.lset (its':=its++[u]) a e (by simp) (r.append (.cons b .nil)) ?_,rfl,q⟩
 grind
noncomputable def Kz:V->List V->Hp->VK->Prop:=λx vs H Q=>∃l b xs z,x = .ref l/\vs=[.ref b]/\H l=some (.lst xs)/\H b=some (.lst z)/\xs.length+z.length≤aag/\Q .non (upd H l (.lst (xs++z)))
theorem zK:MtM X "list.extend" Kz:=by
 intro pins s σ H x vs v us Q I j p h;obtain⟨l,b,xs,w,rfl,rfl,d,o,y,q⟩:=h;cases j;obtain⟨u,rfl,g⟩:=p.one;cases g;obtain⟨z,its,n,r,A,e⟩:=I.lstM d;obtain⟨t,i,n2,k,m,f⟩:=I.lstM o;have c:its.toArray.size+i.toArray.size≤aag:=by rw[aaw,aaw];omega
 have a:¬(!its.toArray.isEmpty&&adQ (its.toArray.size+i.toArray.size))=true:=by
  rw[vC c,Bool.and_false];exact aaq
 refine ad6 F.slot_list_extend ⟨_,e,rfl⟩ F.entry_list_extend (F.args_list_extend_2 _ _)
  (AutoSeq1.list_extend_list_list_0 l its.toArray n b i.toArray n2 a (by grind) (by omega)) ⟨e,f,?_⟩
 refine⟨.non,_,I.lset (its':=its++i) d e (by simp) (r.append k) ?_,rfl,q⟩;rw[aap];omega
noncomputable def rPop:V->List V->Hp->VK->Prop:=λx vs H Q=>∃l xs y,x = .ref l/\vs=[]/\H l=some (.lst xs)/\xs[xs.length-1]?=some y/\Q y (upd H l (.lst xs.dropLast))
theorem SY:MtM X "list.pop" rPop:=by
 intro pins s σ H x vs v us Q I g k h;obtain⟨l,xs,y,rfl,rfl,c,i,q⟩:=h;cases g;have b:=k.zero;subst b;obtain⟨z,its,n,r,j,e⟩:=I.lstM c;obtain⟨u,d,f⟩:=r.get i;have a:its.toArray[its.toArray.size-1]?=some u:=by
  show its.toArray[its.length-1]?=some u;rw[<-abU,<-j];exact d
 refine ad6 F.slot_list_pop ⟨_,e,rfl⟩ F.entry_list_pop (F.args_list_pop_1 _) (MeetsSeq.list_pop_last l its.toArray n u a (by rw[aaw];omega)) ⟨e,?_⟩;refine⟨y,_,I.lset (its':=its.dropLast) c e ?_ r.dropLast ?_,f,q⟩
 .show its.toArray.eraseIdxIfInBounds (its.toArray.size-1)=its.dropLast.toArray;rw[aaw,List.eraseIdxIfInBounds_toArray,wj]
 .rw[List.length_dropLast];omega
noncomputable def rRep:R2:=λx y H Q=>∃l k xs,x = .ref l/\y = .int k/\H l=some (.lst xs)/\-(2^63)≤k/\k<2^63/\xs.length*k.toNat≤aag/\
 ∀p,H p=none->Q (.ref p) (upd H p (.lst (aam k.toNat xs).flatten))
theorem yM(xs:List α)(k:Nat):(aam k xs).flatten.length=k*xs.length:=by simp
theorem Tj:OpR X (acx .Mult) rRep:=by
 intro pins s σ H x y v u Q I j B h;obtain⟨l,k,xs,rfl,rfl,C,o,w,i,q⟩:=h;cases j;obtain⟨t,rfl⟩:=B;obtain⟨z,its,n,r,E,e⟩:=I.lstM C;have c:its.toArray.size*k.toNat≤aag:=by rw[aaw,<-E];exact i
 have g:¬its.toArray.size*k.toNat>(2^63-1)/8:=by
  have:(aag:Nat)≤(2^63-1)/8:=by decide
  omega
 have f:¬(!acD.List.listFitsIndex k)=true:=by
  rw[fitsIndex_both o w];exact aaq
 have b:¬adQ (its.toArray.size*k.toNat)=true:=by
  rw[vC c];exact aaq
 have d:ah3 (λD G=>D++G) #[] (aam (if its.toArray.isEmpty=true then 0 else k.toNat) its.toArray)=(aam k.toNat its).flatten.toArray:=by
  have A:=λm=>by
   have:=k8 its m [];rw[ae3]at this;exact this
  rw[A]
  cases its with
  |nil=>simp
  |cons a J=>rw[if_neg (by simp)]
 refine afD (T:= "list") (U:= "int") (by decide) ⟨_,e,rfl⟩ (λp=>agl p k t) noFill_list_mul F.fills_int_mul F.slot_int_rmul repeat_list F.slot_int_index.lookup
  (ad6 F.slot_int_rmul (agl s k t) F.entry_int_rmul (F.args_int_rmul_2 _ _) (int___rmul___int_list k t l its.toArray n)
   ⟨e,rfl,⟨_,e,rfl⟩,ad6 F.slot_list_mul ⟨_,e,rfl⟩ F.entry_list_mul (F.args_list_mul_2 _ _) (AutoListH.list___mul___list_int_3 l its.toArray n k t f g b) ⟨e,?_⟩⟩)
 rw[d];exact⟨.ref _,_,I.lnew (t':=s.toks) (r.rep k.toNat) (by rw[yM,acq];exact i),rfl,q _ I.fresh⟩
end
end L2
namespace Att
open PySem PySem.W PySem.Calls PyProof.Rows
theorem jL{P:Params}{h:aaM}:∀(ns:List Int) (vs:List mT),WellAll P h vs (ns.map WData.int)->agZ vs ns:=by
 intro ns
 induction ns with
 |nil=>
  intro vs w;cases w;exact .nil
 | cons n ns i=>
  intro vs w
  cases w with
  |cons a b=>
   cases a;exact .cons _ _ (i _ b)
theorem Cj{l:OpenLaw}{n:Nat}(j:l.most=some n){P:Params}{h:aaM}{args:List WData}{v:List mT}
  (b:l.row.toRowW.claim.pre args=true) (i:WellAll P h v args) :
  ∃a vs ns,v=[abh a]/\args=[WData.list (ns.map WData.int)]/\h.get? a=some {cls:=.type "list",data:=.seq vs.toArray}/\agZ vs ns/\ns.length≤n:=by
 have g:WShape.hasAll [] args [.list .int]=true:=(pre_splitW b).1;have q:l.pre.holds [] {args:=args}=true:=(pre_splitW b).2;obtain⟨d,r,rfl,k,m⟩:=hasAllW_cons g;obtain rfl:=hasAllW_nil m;obtain⟨x,rfl,p⟩:=hasW_list k;obtain⟨ns,rfl⟩:=items_int p;have c:ns.length≤n:=by
  have f:=by
   have f:=(holds_andW q).1;rw[j]at f;omega
  have s:=condW_of f (w_not (w_lt w_lit (w_len_list (w_arg rfl))))
  simp_all
 cases i with
 |cons w o=>
  cases o
  cases w with
  |list ho e=>exact⟨_,_,ns,rfl,rfl,ho,jL ns _ e,c⟩
theorem Cw(l:OpenLaw)(args:List WData):l.row.toRowW.claim.post args (.bool true) args=true:=
 postW_of
  rfl
  (w_eq_bool (w_res rfl) w_lit) rfl
theorem attach_call{l:OpenLaw}{n:Nat}{q:aaB}{b:List Str}{X:(Str->Option mT)->aaM->Prop}{x:World->aaM->Prop}{d:DefRec}
  (J:l.most=some n) (t:d.params.defaults=[])
  (call:∀(w:World) (s₀ s:oR) (mg v:Str->Option mT) (e:Addr) (o:Obj) (pm k c:mT) (a:Addr) (vs:List mT) (ns:List Int),
   Ground q b [] X w s₀ mg v s.heap->x w s.heap ->
   s.heap.get? e=some o->o.data = .func (docDef d.name d.params d.body d.scope pm k c)->s.heap.CodeRec k d.name->mg d.name=some (.ref e) ->
   s.heap.get? a=some {cls:=.type "list",data:=.seq vs.toArray}->agZ vs ns->ns.length≤n->s.gens = #[] ->
   ael (model l.prog w) ag0 (.call (.ref e) ⟨[.ref a],[]⟩) (λr s'=>r = .ok (.ret (.bool true))/\OldK s.heap s'.heap/\s'.os=s.os/\aeI s'.gens) s) :
  WalkO q b X x l.row.toRowW d [] (λf vs=>ah4 f vs):=by
 intro w s₀ s mg v G Y e o pm k c F kV ho hd m y u K B z N i A M p H;obtain rfl:F = .none:=Dflts.none y t;obtain rfl:kV = .none:=Dflts.noKw y;obtain⟨a,vs,ns,rfl,rfl,g,h,j⟩:=Cj J i p;refine enter_call (adE (call w s₀ s mg v e o pm k c a vs ns G Y ho (fd_plain hd) m u g h j K) λr s' D=>?_);obtain⟨rfl,E,I,L⟩:=D;exact⟨.inl ⟨.bool true,.bool true,[],rfl,λ_=>rfl,.bool true,Cw l _,λ_=>⟨List.Pairwise.nil,λ_ C=>(nomatch C)⟩⟩,E,I,L⟩
end Att
namespace L2
open PySem PySem.Spec PyProof.Rows
variable{P:MSt->Prop}{w:WS}{K:Kd}{mg:Str->Option mT}{a f l:Addr}{fd:ab6}{qual x y:Str}{ns:List Int}{i j n nN q:Nat}{X:Cx}{st:Stmt}{N own ps:List Str}{od:Option Addr}{A B:Prop}{env:Env}{scope:Scope}{c e elt t tg:Expr}{p pos pos':Pos}{ifs:List Expr}{tb:TS}{J:It}{fp:List Addr}{tn:Nat->aaM->Prop}{pins:List (Addr×Obj)}{σ σ':St}{H H' H0 H1 H2 Hb:Hp}{D:Ends}{E:mT->oR->Prop}{Q:VK}{vs xs:List V}{ds ds':List dL}{v:V}{ao:Ao}{α α' α1 β:Al}{τ:List (List Nat×Addr)}{r:R}{o:WO}{op:CmpOp}{sp:SpM}{ks:List Nat}{De:cV}{g:WG}{gs:WGs}{m1:MSt}{wi:WI}{we:WE}{tt:WT}{ob:R->Option Int->Option Int->MSt->(R->Prop)->Prop}{hi lo:Option Expr}{wh wl:WO1}{as:List Ag}{Ko:Option Int->MSt->Prop}{Ks:Src->MSt->Prop}
theorem qi:∀{vs:List mT}{ns:List Int},agZ vs ns->Vals (ns.map V.int) vs
 |_,_,.nil=>.nil
 |_,_,.cons n t h=>.cons ⟨t,rfl⟩ (qi h)
noncomputable def Only(H:Hp):Prop:=∀b,H b=none\/∃o xs,H b=some (.frz o (.lst xs))
theorem FE{P:aaB}{w:World}{K:Mt}{mb:Str->Option mT}{CX:CXT}{k:Nat}{fa:Addr}{sp:Sp}{C:oR}{vs:List mT}
  (KX:K.In C.heap) (Z:C.heap.Ns aao mg) (hb:C.heap.Ns builtinsNs mb) (hbb:∀x:Str,x ≠ "__name__" -> mb x=abe x) (W:C.heap.NoLimit) (hsy:∃m,C.heap.Ns abD m) (hg:C.gens = #[])
  (ha:C.heap.get? a=some {cls:=.type "list",data:=.seq vs.toArray}) (hi:agZ vs ns) (hl:ns.length≤aag) (hr:Room k ag0)
  (F:∀base:aaM,K.In base->base.Ns aao mg->FnOk P w K mg base CX k fa fd [x] sp) (M:∀(s:oR) (u:mT),ahs s fd ⟨[u],[]⟩ [(x,u)])
  (hsp:∀H:Hp,Only H->SqL K H a (ns.map V.int)->sp [.ref a] H (λv _=>v = .bl true) λ_ _ _=>False)
  (hCX:∀H e s',CX [] H C (λ_ _ _=>False) e s'->False) :
  ael (model P w) ag0 (.call (.ref fa) ⟨[.ref a],[]⟩) (λr s'=>r = .ok (.ret (.bool true))/\OldK C.heap s'.heap/\s'.os=C.os/\aeI s'.gens) C:=by
 have rv:=qi hi;have O:=hi.length;have L:∀H:Hp,Only H->SqL K H a (ns.map V.int)->HOk P w H C.heap->(∀b,H b≠none->b=a)->(H a≠none->K.lookup a=none) ->
   ael (model P w) ag0 (.call (.ref fa) ⟨[.ref a],[]⟩) (λr s'=>r = .ok (.ret (.bool true))/\OldK C.heap s'.heap/\s'.os=C.os/\aeI s'.gens) C:=by
  intro H hO hS hok hA hK;have G:∀{b:Addr}{o:Obj},C.heap.get? b=some o->H b=none->(hidT C.heap H).get? b=some o:=λe n=>Dg e n;have noA:∀{b:Addr}{o:Obj}{T:Array acj}{S:Nat},C.heap.get? b=some o->o.data = .dict T S->H b=none:=λ{b o T S} e d=>by
   cases q:H b with
   |none=>rfl
   |some u=>
    have e':b=a:=hA b (by rw[q];simp);subst e';rw[ha]at e;cases e;have d':Data.seq vs.toArray _=Data.dict T S:=d;cases d'
  have I:∀{b:Addr}{m:Str->Option mT},C.heap.Ns b m->(hidT C.heap H).Ns b m:=λ{b m} ⟨o,T,S,e,d,r⟩=>⟨o,T,S,G e (noA e d),d,r⟩;have Y:K.In (hidT C.heap H):=λb o e=>G (KX b o e) (by
   cases q:H b with
   |none=>rfl
   |some u=>
    have e':b=a:=hA b (by rw[q];simp);subst e';rw[hK (by rw[q];simp)]at e;cases e)
  have hM:Mod K mg (hidT C.heap H):=⟨Y,I Z,⟨mb,I hb,hbb⟩,let ⟨mc,h1,h2⟩:=W;⟨mc,I h1,h2⟩,let ⟨m,h⟩:=hsy;⟨m,I h⟩⟩;have e0:Env0 P w K mg (hidT C.heap H) ag0 [] C H:=⟨rfl,hM,λb o e=>JB e,ahu (ym _ _),trivial,λb hb=>absurd (show b∈([]:List Addr)from hb) (by simp),hok,.of_eq hg⟩;refine adE ((F _ Y (I Z)).run ag0 [] C H ⟨[.ref a],[]⟩ [.ref a] [.ref a] _ _ hr e0 (M C (.ref a)) (.cons rfl .nil) (hsp H hO hS)) λr s' h=>?_
  cases r with
  |error e=>exact(hCX H e s' h).elim
  | ok fl=>
   cases fl with
   |next=>exact abQ h
   |brk=>exact abQ h
   |cont=>exact abQ h
   | ret u=>
    obtain⟨v,H',os,bare,un,R,r',q⟩:=h;have q':v = .bl true:=q;subst q';obtain rfl:u=Value.bool true:=r';refine⟨rfl,OldK.of_keep λb o e=>?_,os,bare⟩
    cases q:H b with
    |none=>exact un.keep b o e q (by intro z;exact absurd (show b∈([]:List Addr)from z) (by simp)) (by simp)
    |some u=>
     rcases hO b with z|⟨ob,xs,z⟩
     .rw[q]at z;cases z
     .have z2:=un.frzs b ob _ z;obtain⟨e1,_⟩:=hok b _ z;obtain⟨e2,_⟩:=R b _ z2;rw[e]at e1;cases e1;exact e2
 cases hk:K.lookup a with
 |some o=>
  have e:=KX a o hk;rw[ha]at e;cases e;refine L (λ_=>none) (λ_=>.inl rfl) (.inr ⟨_,vs.toArray,_,hk,rfl,rfl,rfl,by rw[aaw,O];exact hl,by simpa using rv⟩) (λb u z=>by have U:(none:Option HO)=some u:=z;cases U) (λb z=>absurd rfl z) λz=>absurd rfl z
 | none=>
  refine L (λb=>if b=a then some (.frz {cls:=.type "list",data:=.seq vs.toArray} (.lst (ns.map V.int)))else none) (λb=>?_) (.inl (.inr ⟨{cls:=.type "list",data:=.seq vs.toArray},if_pos rfl⟩)) (λb u z=>?_) (λb z=>?_) λ_=>hk
  .by_cases hb:b=a
   .exact .inr ⟨_,_,if_pos hb⟩
   .exact .inl (if_neg hb)
  .by_cases hb:b=a
   .have U:=(if_pos hb).symm.trans z;cases U;subst hb;exact⟨ha,by rw[gE];exact hl,vs,_,rv,ha⟩
   .have U:=(if_neg hb).symm.trans z;cases U
  .by_cases hb:b=a
   .exact hb
   .exact absurd (if_neg hb) z
theorem M8{l:ahW}{k:Nat}{q:aaB}{C:List Str}{XP:(Str->Option mT)->aaM->Prop}{W:World->aaM->Prop}{d:DefRec}{K:Params->Mt}{CX:World->CXT}{sp:World->Sp}
  (hq:importsNone q=true) (hn:l.most=some n) (U:n≤aag) (R:d.params.defaults=[]) (hr:Room k ag0)
  (hY:∀(w:World) (h:aaM),W w h->(K w.params).In h)
  (F:∀(w:World) (mg:Str->Option mT) (M:Addr) (h:aaM),(K w.params).In h->h.Ns aao mg->mg d.name=some (.ref M) ->
   ∃fd:ab6,(∀(s:oR) (u:mT),ahs s fd ⟨[u],[]⟩ [(x,u)])/\
    ∀base:aaM,(K w.params).In base->base.Ns aao mg->FnOk l.prog w (K w.params) mg base (CX w) k M fd [x] (sp w))
  (O:∀(w:World) (H:Hp) (a:Addr) (ns:List Int),ns.length≤n->Only H->SqL (K w.params) H a (ns.map V.int)->sp w [.ref a] H (λv _=>v = .bl true) λ_ _ _=>False)
  (S:∀(w:World) (H:Hp) (s:oR) (e:mT) (s':oR),CX w [] H s (λ_ _ _=>False) e s'->False) :
  ah9 q C XP W l.row.toRowW d [] (λf vs=>ah4 f vs):=by
 refine Att.attach_call hn R λw s₀ L mg mb M o pm cd doc a vs ns G Y ho hd hcd T I z b hg=>?_;have Z:=hY w _ Y;obtain⟨fd,hb,hF⟩:=F w mg M _ Z G.T.g T;exact FE Z G.T.g G.T.b G.T.builtins G.T.nolimit (by obtain⟨m,h,_⟩:=(G.T.seer hq).mods;exact⟨m,h⟩) hg I z (aaj b U) hr hF hb (λH hO hS=>O w H a ns b hO hS) λH e s'=>S w H L e s'
noncomputable def fU(s:Stmt):Arguments:=match s with
 | .FunctionDef _ a _ _ _ _ _ _ _ _=>a
 |_=>{posonlyargs:=[],args:=[],vararg:=none,kwonlyargs:=[],kw_defaults:=[],kwarg:=none,defaults:=[]}
noncomputable def bO(s:Stmt):List Stmt:=match s with
 | .FunctionDef _ _ b _ _ _ _ _ _ _=>b
 |_=>[]
noncomputable def ac(s:Stmt):Scope:=match s with
 | .FunctionDef _ _ _ _ _ _ b _ _ _=>b
 |_=>{kind:=.function,names:=[],isGenerator:=false,isCoroutine:=false}
noncomputable abbrev CX0:CXT:=λ_ _ _ _ _ _=>False
noncomputable abbrev E0:XK:=λ_ _ _=>False
theorem Vj:v9 CX0 X E0:=λ_ _ _ _ _ _ _ h=>h.elim
structure Fun(K:Mt)(x qual:Str)(st:Stmt)(f:Addr)(fd:ab6):Prop where
 ex:∃(oc:mT) (od:Option Addr) (kV doc pm:mT) (an:Option Addr) (cdv ct:mT) (osl:Array (Option mT)),
  fd=acP x qual (fU st) (bO st) (ac st) .none kV doc pm an cdv ct/\K.lookup f=some ⟨oc,od,.func fd,osl⟩/\aem K cdv qual=true
 kp:abV K (.ref f)=true
section
variable {P:aaB}{w:World}{K:Mt}{mg:Str->Option mT}{base:aaM}
theorem Fun.ok{k:Nat}{sp:Sp}(F:Fun K x qual st f fd)(S:FnScope N ps (ac st))(len:∀vs H Q E,sp vs H Q E->vs.length=ps.length)
  (d:∀(b:mT) (A:aa4) (outer:List Env) (s:oR) (H:Hp) (vs:List V) (Q:VK) (E:XK),Room k (A.deeper (ad5 qual (ac st) s.heap.objs.size f b))->sp vs H Q E ->
   ∃t,PSs (cxOf CX0 P w K mg base N qual (ac st) f b A outer s H E).nox (bO st) t/\t {nx:=λ_ H'=>Q .non H',rt:=Q} (start N vs) H):FnOk P w K mg base CX0 (k+1) f fd ps sp:=by
 obtain⟨I,od,kV,G,pm,an,b,ct,C,rfl,z,u⟩:=F.ex;refine Ql z u S len λA outer s H vs Q E hr m=>?_;obtain⟨t,h,q⟩:=d b A outer s H vs Q E hr m;exact⟨t,h.nox,q⟩
theorem Fun.binds(F:Fun K x qual st f fd)
  (h:∀(kV d pm:mT) (an:Option Addr) (b ct:mT) (u:List mT),u.length=ps.length->bindArgs (acP x qual (fU st) (bO st) (ac st) .none kV d pm an b ct) ⟨u,[]⟩=pure (ps.zip u)):Binds K fd ps []:=by
 obtain⟨z,od,kV,d,pm,an,b,ct,k,rfl,s,m⟩:=F.ex;exact .all (h kV d pm an b ct)
theorem y8{m:mT}{an:Option Addr}{h:Array (Option mT)}{kV d pm b ct:mT}(l:K.lookup f=some ⟨m,od,.func (acP x qual (fU st) (bO st) (ac st) .none kV d pm an b ct),h⟩)
  (c:aem K b qual=true) (k:abV K (.ref f)=true):Fun K x qual st f (acP x qual (fU st) (bO st) (ac st) .none kV d pm an b ct):=⟨⟨m,od,kV,d,pm,an,b,ct,h,rfl,l,c⟩,k⟩
end
theorem iteF(h:B):if false=true then A else B:=by simp_all
theorem iteT(h:A):if true=true then A else B:=by simp_all
noncomputable def aG(X:Cx)(scope:Scope)(cl:List (Str×Addr))(N:List Str)(s:oR)(H:Hp)(C:Addr)(ex:List Addr):Cx where
 prog:=X.prog
 w:=X.w
 K:=X.K
 mg:=X.mg
 base:=X.base
 A:=X.A
 N:=N
 s₀:=s
 H₀:=H
 env:=agI scope cl C X.env
 outer:=X.stack
 stack:=X.stack
 ex:=ex
 fn:=λ_=>false
 calm:=X.calm
 eb:=X.eb
 pn:=[]
 xe:=λ_ _=>False
theorem iK{env:Env}:∀{names:List (Str×aeR)}{acc:List (Str×Addr)},(∀y∈names,y.2 = .free->∃c,env.cells.lookup y.1=some c)->(∀x c,acc.lookup x=some c->env.cells.lookup x=some c) ->
  ∃cl,(forIn names acc λ(x:Str×aeR) (L:List (Str×Addr))=>if (x.2==aeK)=true then do let c <- cellOf env x.1;pure (ae4 ((x.1,c)::L))else pure (ae4 L):Sem (List (Str×Addr)))=pure cl/\
   (∀x c,cl.lookup x=some c->env.cells.lookup x=some c)/\(∀y∈names,y.2 = .free->∃c,cl.lookup y.1=some c)/\(∀x,(∃c,acc.lookup x=some c)->∃c,cl.lookup x=some c)
 |[],acc,_,ha=>⟨acc,rfl,ha,λy b=>absurd b (by simp),λ_ h=>h⟩
 | (n,k)::r,acc,h,ha=>by
  rw[ad2]
  by_cases I:k = .free
  .subst I;obtain⟨c,M⟩:=h (n,.free) GE rfl;have u:env.cells.lookup n=some c:=M;have O:cellOf env n=pure c:=by unfold cellOf;rw[u]
   obtain⟨cl,C,G,F,z⟩:=iK (env:=env) (names:=r) (acc:=(n,c)::acc) (λy b=>h y (Ge _ b)) (λx d s=>by
    rw[ack]at s
    cases hb:x==n with
    |true=>rw[hb]at s;cases s;rw[eq_of_beq hb];exact u
    |false=>rw[hb]at s;exact ha x d s)
   refine⟨cl,?_,G,λy b m=>?_,λx s=>z x ?_⟩
   .simp only[beq_self_eq_true,if_true,O,pure_bind];exact C
   .obtain rfl|b:=aai.mp b
    .exact z n ⟨c,by rw[ack];simp⟩
    .exact F y b m
   .obtain⟨d,hd⟩:=s;rw[ack]
    cases hb:x==n with
    |true=>exact⟨c,rfl⟩
    |false=>exact⟨d,hd⟩
  .have hb:(k==aeK)=false:=by simpa using I
   obtain⟨cl,C,G,F,z⟩:=iK (env:=env) (names:=r) (acc:=acc) (λy b=>h y (Ge _ b)) ha;refine⟨cl,?_,G,λy b m=>?_,z⟩
   .simp only[hb,adj,if_false,pure_bind];exact C
   .obtain rfl|b:=aai.mp b
    .exact absurd m I
    .exact F y b m
theorem fc(h:∀y∈scope.names,y.2 = .free->∃c,env.cells.lookup y.1=some c) :
  ∃cl,closureFor scope env=pure cl/\(∀x c,cl.lookup x=some c->env.cells.lookup x=some c)/\∀y∈scope.names,y.2 = .free->∃c,cl.lookup y.1=some c:=by
 obtain⟨cl,e,k,d,_⟩:=iK (acc:=[]) h (λx c b=>by cases b);refine⟨cl,?_,k,d⟩;simp[closureFor]
 simp_all
noncomputable def PTs(X:Cx)(ifs:List Expr)(t:TT):Prop:=
 ∀(pins:List (Addr×Obj)) (s:oR) (σ:St) (H:Hp) (Q:Bool->Hp->Prop),Inv X pins σ H s->t σ H Q ->
  wpAny (model X.prog X.w) X.A (forIn ifs true λc r=>if r=true then do let ok <- isTrue c X.env (eval c X.env);pure (ae4 ok)else pure (ae4 r)) (TP X pins σ Q) X.xe s
noncomputable def ML:TT:=λ_ H Q=>Q true H
theorem JG:PTs X [] ML:=λ_ _ _ H _ I h=>wpAny_tests_nil ⟨H,I,h⟩
theorem Kh{t:TT}(b:PT X c t):PTs X [c] t:=λpins s σ H Q I h=>wpAny_tests_one (b pins s σ H Q I h)
noncomputable def PB(X:Cx)(bd:Sem PUnit)(t:TS):Prop:=
 ∀(pins:List (Addr×Obj)) (s:oR) (σ:St) (H:Hp) (D:Ends),Inv X pins σ H s->t D σ H->wpAny (model X.prog X.w) X.A bd (λ_ b=>∃σ' H',Inv X pins σ' H' b/\D.nx σ' H') X.xe s
noncomputable def pk(J:It)(g:TG)(tb:TS):TS:=λD σ H=>∃W:Nat->Nat->St->Hp->Prop,(∃m,W 0 m σ H)/\∀i m σ H,W i m σ H ->
 (J.stop i H/\D.nx σ H)\/(J.go i H/\∃N:St->Hp->Prop,(∀σ' H',N σ' H'->∃d,d<m/\W (i+1) d σ' H')/\∀x H',J.yld i H x H'->g x σ H' λb H2=>tb {D with nx:=N,ct:=N,bk:=D.nx} b H2)
noncomputable def tIfT(tt:TT)(tb:TS):TS:=λD σ H=>tt σ H λb H1=>if b=true then tb D σ H1 else D.nx σ H1
noncomputable def wm(l:Addr)(b:TE):TS:=λD σ H=>b σ H λx H1=>∃xs,H1 l=some (.lst xs)/\xs.length<aag/\D.nx σ (upd H1 l (.lst (xs++[x])))
theorem qe{gens:List Comprehension}{d:Nat}{M:Addr}{acc:mT}{ipos:Pos}{bd:Sem PUnit}{g:TG}{tt:TT}
  (L:compTurn (.ListComp elt gens scope pos) d (.ref M) acc X.env=(do
   adv ipos
   match <- aci (.ref M)with
   |none=>pure (.done .next)
   | some v=>
    ad1 tg (.ref M) v
    ad4 tg X.env v
    let mut ok:=true
    for c in ifs do
     if ok then ok <- isTrue c X.env (eval c X.env)
    if ok then bd
    again (.compLoop (.ListComp elt gens scope pos) d (.ref M) acc X.env)))
  (hx:X.xe=λ_ _=>False) (hc:X.calm=true) (T:Turn X.prog X.w X.K tg J fp M tn) (hg:PG X tg g) (ht:PTs X ifs tt) (hb:PB X bd tb)
  {s:oR} (I:Inv X pins σ H s) (st:tn 0 s.heap) (f:∀b∈fp,FpOk X pins H b) (h:pk J g (tIfT tt tb) D σ H) :
  ael (model X.prog X.w) X.A (.compLoop (.ListComp elt gens scope pos) d (.ref M) acc X.env) (λr s'=>r = .ok .next/\∃σ' H',Inv X pins σ' H' s'/\D.nx σ' H') s:=by
 obtain⟨W,⟨m0,w0⟩,R⟩:=h;have F:∀{H':Hp},(∀b∈fp,H' b=none)->∀b∈fp,FpOk X pins H' b:=λhn b hb=>⟨hn b hb,(f b hb).2⟩;have nox:∀{α:Type}{t:Sem α}{Q:α->oR->Prop}{E:mT->oR->Prop}{s:oR},wpAny (model X.prog X.w) X.A t Q X.xe s->wpAny (model X.prog X.w) X.A t Q E s:=λh=>abP h (λ_ _ q=>q) λ_ _ z=>by
  rw[hx]at z;exact z.elim
 refine codeAny_loop rfl (λn s'=>∃i σ' H',Inv X pins σ' H' s'/\tn i s'.heap/\(∀b∈fp,H' b=none)/\W i n σ' H') ?_ m0 ⟨0,σ,H,I,st,λb hb=>(f b hb).1,w0⟩;rintro n s3 ⟨i,C,H3,I3,Y,V,w3⟩;show wpAny _ X.A ((compTurn (.ListComp elt gens scope pos) d (.ref M) acc X.env).onRaise (λx=>do ahI x X.env;theTreesLotGoes x)) _ _ s3;refine wpAny_noted ?_;rw[L];refine aD (m:=adv _) (acp (aD ?_));rcases R i n C H3 w3 with⟨stop,qn⟩|⟨go,N,hN,step⟩
 .refine thn (T.done X rfl rfl rfl hc i pins s3 C H3 _ I3 (F V) Y stop) λr s4 ⟨hr,I4⟩=>?_;subst hr;exact AD ⟨rfl,C,H3,I4,qn⟩
 .refine thn (T.item X rfl rfl rfl hc i pins s3 C H3 _ I3 (F V) Y go) λr s4 ⟨u,hr,h4⟩=>?_;subst hr;refine aD (thn h4 λ_ s5 ⟨x,H5,I5,r5,y5,G,fr5⟩=>?_);have I5':=I5.pinned (F fr5) (T.obj _ _ G);refine aD (nox (thn (hg _ s5 C H5 x u _ I5' r5 (step x H5 y5)) λ_ s6 ⟨S,H6,I6,q6⟩=>?_));refine aD (nox (thn (ht _ s6 S H6 _ I6 q6) λok s7 ⟨H7,I7,q7⟩=>?_));have U:∀{k:St}{O:Hp}{s8:oR},Inv X (pins++qx fp s5.heap) k O s8->N k O->∃m,m<n/\∃i σ' H',Inv X pins σ' H' s8/\tn i s8.heap/\(∀b∈fp,H' b=none)/\W i m σ' H':=λ{k O s8} Z n8=>by
   obtain⟨m',hm,w8⟩:=hN k O n8;refine⟨m',hm,i+1,k,O,Z.unpinned,T.keep _ _ _ G λb hb o e=>(Z.pin (b,o) (aa7 _ (aa7 _ (ga hb e)))).1,λb hb=>?_,w8⟩;obtain⟨o,e,_⟩:=T.obj _ _ G b hb;exact(Z.pin (b,o) (aa7 _ (aa7 _ (ga hb e)))).2.1
  cases ok with
  |false=>
   rw[if_neg aaq]at q7;exact AD ⟨rfl,U I7 q7⟩
  |true=>
   rw[if_pos rfl]at q7;exact aD (nox (thn (hb _ s7 S H7 _ I7 q7)<|by rintro _ s8 ⟨k,O,Z,q8⟩;exact AD ⟨rfl,U Z q8⟩))
theorem tw{b:TE}(m:PE X elt b):PB X (do let _ <- call (.builtin "list.append") [.ref l,<-eval elt X.env]) (wm l b):=by
 intro pins s σ H D I h;refine aD (thn (m pins s σ H _ I h) λu s1 ⟨x,H1,F,r1,xs,L,G,q⟩=>?_);refine aD (thn ?_ λ_ k d=>AD d);exact thn (qG pins s1 σ H1 (.ref l) [x] _ [u] (λv H'=>v = .non/\D.nx σ H') F rfl (.cons r1 .nil) ⟨l,xs,x,rfl,rfl,L,G,rfl,q⟩)<|by rintro v k ⟨_,H',z,_,_,C⟩;exact⟨σ,H',z,C⟩
theorem dU(env:Env)(x:Str):∀names:List (Str×aeR),(names.map λ(n,k)=>if (k==aeK&&env.scope.kind == .function&&env.kindOf n==some .cell)then(n,aia)else(n,k)).lookup x =
  (names.lookup x).map λk=>if (k==aeK&&env.scope.kind == .function&&env.kindOf x==some .cell)then aia else k
 |[]=>rfl
 | (n,k)::r=>by
  have b:=dU env x r;rw[aau];dsimp only
  cases hx:x==n with
  |true=>
   have e:=eq_of_beq hx;subst e
   by_cases h:(k==aeK&&env.scope.kind == .function&&env.kindOf x==some .cell)=true
   .simp only[ack,hx,ac2,if_pos h]
   .simp only[ack,hx,ac2,if_neg h]
  |false=>
   split
   .simp only[ack,hx];exact b
   .simp only[ack,hx];exact b
theorem gA{k:aeR}:∀{names:List (Str×aeR)},names.lookup x=some k->(x,k)∈names:=λh=>ab8 h
theorem j8(b:∀y∈scope.names,y.2≠.cell)(h:(ag1 scope env).names.lookup x=some .cell\/(ag1 scope env).names.lookup x=some .free):scope.names.lookup x=some .free:=by
 unfold ag1 at h;simp only[dU]at h
 cases e:scope.names.lookup x with
 |none=>rw[e]at h;rcases h with h|h<;>cases h
 |some k=>
  rw[e]at h;simp only[ac2]at h;have m:=b _ (gA e)
  by_cases d:k = .free
  .rw[d]
  .simp_all
theorem pH(h:scope.names.lookup x=some .free):(ag1 scope env).names.lookup x=some .cell\/(ag1 scope env).names.lookup x=some .free:=by
 unfold ag1;simp only[dU,h,ac2];split
 .exact .inl rfl
 .exact .inr rfl
noncomputable def gH(own:List Str)(ps:List Nat)(σ:St):St:=own.map (λ_=>none)++ps.map λi=>(σ[i]?).join
structure bV(own fr:List Str)(scope sc:Scope):Prop where
 kind:scope.kind = .function
 nocell:∀y∈scope.names,y.2≠.cell
 names:∀y∈scope.names,y.2 = .local->scope.names.lookup y.1=some .local
 there:∀y∈scope.names,y.2 = .free->sc.names.lookup y.1=some .cell\/sc.names.lookup y.1=some .free
 fr:∀x∈fr,scope.names.lookup x=some .free
section
variable {X:Cx}{scope sc:Scope}{own fr:List Str}{ps:List Nat}
theorem jT{n:Expr}{rest:List Comprehension}{bdy:Env->mT->Sem PUnit}{g:TG}{tt:TT}{tb:Addr->TS}{cl:List (Str×Addr)}{R:mT->Addr->Result->oR->Prop}
  (S:bV own fr scope sc) (hsc:X.env.scope=sc) (hps:ps.map (λi=>X.N[i]?)=fr.map some) (hc:X.calm=true) (F:∀x c,cl.lookup x=some c->X.env.cells.lookup x=some c) (Y:∀y∈scope.names,y.2 = .free->∃c,cl.lookup y.1=some c)
  (hturn:∀env it acc,compTurn (.ListComp elt (⟨tg,n,ifs,0⟩::rest) scope pos) 0 it acc env=(do
   adv n.pos
   match <- aci it with
   |none=>pure (.done .next)
   | some v=>
    ad1 tg it v
    ad4 tg env v
    let mut ok:=true
    for c in ifs do
     if ok=true then ok <- isTrue c env (eval c env)
    if ok then bdy env acc
    again (.compLoop (.ListComp elt (⟨tg,n,ifs,0⟩::rest) scope pos) 0 it acc env)))
  (hg:∀s H C ex,PG (aG X scope cl (own++fr) s H C ex) tg g) (ht:∀s H C ex,PTs (aG X scope cl (own++fr) s H C ex) ifs tt)
  (hb:∀s H C ex l,PB (aG X scope cl (own++fr) s H C ex) (bdy (agI scope cl C X.env) (.ref l)) (tb l))
  {s:oR}{it:Addr} (I:Inv X pins σ H s) (T:Turn X.prog X.w X.K tg J fp it tn) (st:tn 0 s.heap) (f:∀b∈fp,FpOk X pins H b)
  (h:∀l,H l=none->pk J g (tIfT tt (tb l)) {nx:=λ_ H'=>Q (.ref l) H',rt:=λ_ _=>False} (gH own ps σ) (upd H l (.lst [])))
  (hR:∀l C H' s',(∃m,s'.heap.Ns C m)->Inv X pins σ H' s'->FpOk X pins H' C->Q (.ref l) H'->R (.ref l) C (.ok .next) s') :
  wpAny (model X.prog X.w) X.A (newList []) (λacc s₃=>wpAny (model X.prog X.w) X.A (newFunctionEnv scope X.env.globals cl [] X.env.qual none .none (some X.env)) (λcenv s₄=>
   ael (model X.prog X.w) X.A (.compStart (.ListComp elt (⟨tg,n,ifs,0⟩::rest) scope pos) 0 (.ref it) acc {cenv with scope:=ag1 scope X.env}) (R acc cenv.locals) s₄) E s₃) E s:=by
 refine aaW (wpAny_newFunctionEnv S.nocell (by intro y hy;simp at hy) (λL O U=>?_) S.kind);have M:Inv X pins σ (upd H s.heap.objs.size (.lst [])) {s with heap:=s.heap.push {cls:=.type "list",data:=.seq ([]:List mT).toArray} }:=I.lnew (t':=s.toks) (ys:=[]) .nil (abC _);generalize hS3:({s with heap:=s.heap.push {cls:=.type "list",data:=.seq ([]:List mT).toArray} }:oR)=G at M O U⊢;have hsz:G.heap.objs.size=s.heap.objs.size+1:=by rw[<-hS3];exact abt _ _
 have hl:H s.heap.objs.size=none:=I.hok.fresh (Dl _);have kept0:∀b o,s.heap.get? b=some o->G.heap.get? b=some o:=λb o e=>by rw[<-hS3];exact Ad _ e
 have d:∀b o,G.heap.get? b=some o->L.get? b=some o:=λb o e=>U.extBut b o (aaG (aaa e)) (Ad _ e);have fpl:∀b∈fp,b<s.heap.objs.size:=λb hb=>by obtain⟨o,e,_⟩:=T.obj _ _ st b hb;exact aaa e
 have fpH:∀b∈fp,(upd H s.heap.objs.size (.lst [])) b=none:=λb hb=>by rw[ag (aaG (fpl b hb))];exact(f b hb).1
 have fpS:∀b∈fp,b∉frs X.stack:=λb hb z=>by
  rcases aai.mp (I.stkSub b z)with e|e
  .exact(f b hb).2.1 e
  .exact(f b hb).2.2.1 e
 have ok':(aG X scope cl (own++fr) G (upd H s.heap.objs.size (.lst [])) G.heap.objs.size fp).Ok:=by
  refine⟨I.ok.mod,S.kind,I.ok.glob,I.ok.blt,Dl _,λx y c h1 h2=>I.ok.inj x y c (F x c h1) (F y c h2),λx hx=>?_,λx c hf=>(by cases hf),I.ok.hd,I.ok.frames,.inl rfl,λb hb=>⟨?_,λx c hx=>(f b hb).2.2.2.2.1 x c (F x c hx)⟩,
   λb o e=>M.bs b o e,aaj M.ok.bsz M.sz,λb o e hb=>?_,λb hb=>fpS b hb,M.stack,M.stkFree⟩
  .exact Y (x,.free) (gA (j8 S.nocell hx)) rfl
  .exact aaG (aah (fpl b hb) (by rw[hsz];exact agJ _))
  .rcases (f b hb).2.2.2.1 with z|z
   .exact I.ok.noex b o e z
   .exact absurd (aah (aaa (I.ok.bs b o e).1) z) (ac9 _)
 have I4:Inv (aG X scope cl (own++fr) G (upd H s.heap.objs.size (.lst [])) G.heap.objs.size fp) [] (gH own ps σ) (upd H s.heap.objs.size (.lst [])) {G with heap:=L,toks:=G.toks+([]:List (Str×mT)).length}:=by
  refine⟨ok',rfl,M.bare,Un.kept d,⟨_,O,λi x v e1 W e3=>?_⟩,λx c e=>?_,M.hok.fresh (Dl _),λx c e=>M.freeC x c (F x c e),λp hp=>absurd (show p∈([]:List (Addr×Obj))from hp) (by simp),M.hok.kept d,?_⟩
  .have e1':(own++fr)[i]?=some x:=e1;unfold gH at W
   by_cases hi:i<own.length
   .rw[aaJ (by simpa using hi),aae]at W
    cases q:own[i]? with
    |none=>rw[q]at W;cases W
    |some z=>rw[q]at W;cases W
   .rw[aaP (by simpa using hi),gE,aae]at W;rw[aaP (by simpa using hi)]at e1'
    cases q:ps[i-own.length]? with
    |none=>rw[q]at W;cases W
    | some p=>
     rw[q]at W;have V:(σ[p]?).join=some v:=aal W;have hσ:σ[p]?=some (some v):=by
      cases z:σ[p]? with
      |none=>rw[z]at V;cases V
      |some w=>rw[z]at V;cases w with
       |none=>cases V
       |some w=>cases V;rfl
     have hN:X.N[p]?=some x:=by
      have z:=congrArg (λl=>l[i-own.length]?) hps;simp only[aae,q,e1',ac2,ahv]at z;exact z
     have hx:x∈fr:=DL e1';have hfr:=S.fr x hx;have hsee:=S.there (x,.free) (gA hfr) rfl;obtain⟨m,hn,hlk⟩:=M.loc;obtain⟨u,ru,lk⟩:=hlk p x v hN hσ (by rw[hsc];exact .inr hsee);refine⟨u,ru,.inr ⟨pH hfr,?_⟩⟩;rcases lk with⟨k,_⟩|⟨_,c,ec,z⟩
     .have k':X.env.scope.names.lookup x=some .local:=k;rw[hsc]at k';rcases hsee with q2|q2<;>(rw[k']at q2;cases q2)
     .obtain⟨c',ec'⟩:=Y (x,.free) (gA hfr) rfl;have:=F x c' ec';rw[ec]at this;cases this;obtain⟨o,ho,hd⟩:=z;exact⟨c,ec',o,d _ _ ho,hd⟩
  .obtain⟨v,o,ho,hd⟩:=M.cell x c (F x c e);exact⟨v,o,d _ _ ho,hd⟩
  .show(gH own ps σ).length=(own++fr).length;have:=congrArg aeS hps;rw[gE,gE]at this;unfold gH;rw[aap,aap,gE,gE,this]
 have f4:∀b∈fp,FpOk (aG X scope cl (own++fr) G (upd H s.heap.objs.size (.lst [])) G.heap.objs.size fp) [] (upd H s.heap.objs.size (.lst [])) b:=λb hb=>
  ⟨fpH b hb,(ok'.exf b hb).1,fpS b hb,.inl hb,(ok'.exf b hb).2,λp hp=>absurd (show p∈([]:List (Addr×Obj))from hp) (by simp)⟩
 have st4:tn 0 L:=T.keep 0 _ _ st λb hb o e=>d b o (kept0 b o e);have Z:ael (model X.prog X.w) X.A (.compLoop (.ListComp elt (⟨tg,n,ifs,0⟩::rest) scope pos) 0 (.ref it) (.ref s.heap.objs.size) (agI scope cl G.heap.objs.size X.env)) (R (.ref s.heap.objs.size) G.heap.objs.size) {G with heap:=L,toks:=G.toks+([]:List (Str×mT)).length}:=by
  refine adE (qe (X:=aG X scope cl (own++fr) G (upd H s.heap.objs.size (.lst [])) G.heap.objs.size fp) (hturn _ _ _) rfl hc T (hg _ _ _ _) (ht _ _ _ _) (hb _ _ _ _ _) I4 st4 f4 (h _ hl)) λr s' ⟨er,σ5,H5,I5,q5⟩=>?_;subst er;have I6:Inv X pins σ H5 s':=M.call' (s':=s') I5.os I5.base I5.hok I5.bare λb hb=>⟨(f b hb).2.2.2.1,(f b hb).2.1,(f b hb).2.2.2.2.1,(f b hb).2.2.2.2.2⟩;have hm:∃m,s'.heap.Ns G.heap.objs.size m:=let ⟨m,hn,_⟩:=I5.loc;⟨m,hn⟩;exact hR _ _ H5 s' hm I6 (M.fpOk (Dl _) I5.free) q5
 exact codeAny_compStart_list Z (T.self _ 0 _ _ _ st4 Z)
noncomputable def Cg(L:TI)(own:List Str)(ps:List Nat)(tl:Addr->It->TS):TE:=λσ H Q=>L σ H λJ H1=>∀l,H1 l=none->tl l J {nx:=λ_ H'=>Q (.ref l) H',rt:=λ_ _=>False} (gH own ps σ) (upd H1 l (.lst []))
noncomputable def tl1(g:TG)(tt:TT)(K:TE):Addr->It->TS:=λl J=>pk J g (tIfT tt (wm l K))
noncomputable def tl2(g:TG)(tt:TT)(B:TI)(M:TG)(F:TT)(K:TE):Addr->It->TS:=λl J=>pk J g (tIfT tt λD σ H=>B σ H λb H1=>pk b M (tIfT F (wm l K)) D σ H1)
theorem Fj{Y:Cx}{z b A j:Expr}{u t:List Expr}{B:TI}{M:TG}{F:TT}{K:TE}(R:Y.xe=λ_ _=>False)(hc:Y.calm=true)(hi:PI Y A j B)(Z:PG Y A M)(ht:PTs Y t F)(he:PE Y elt K)
  (hs:∀x,aaN j Y.env x=pure x) :
  PB Y (do
   let x <- eval j Y.env
   adv j.pos
   let x <- aaN j Y.env x
   let _ <- runOwn (.compStart (.ListComp elt [⟨z,b,u,0⟩,⟨A,j,t,0⟩] scope pos) 1 (<- adw [x] (ae2 x)) (.ref l) Y.env) Y.env) (λD σ H=>B σ H λJ2 H1=>pk J2 M (tIfT F (wm l K)) D σ H1):=by
 intro pins s σ H D I h;refine aD (thn (hi pins s σ H _ I h) λv s1 U=>?_);refine aD (acp (aD (wpAny_of_eq (hs v) (aD (abA (thn U λS s2 h2=>?_))))));obtain⟨it,fp,tn,J,H2,e,W,T,C,f2,q⟩:=h2;subst e;have k:∀L,L=s2->ael (model Y.prog Y.w) Y.A (.compLoop (.ListComp elt [⟨z,b,u,0⟩,⟨A,j,t,0⟩] scope pos) 1 (.ref it) (.ref l) Y.env) (λr G=>match r with| .ok f=>wpAny (model Y.prog Y.w) Y.A (pure PUnit.unit) (λ_ G=>∃σ' H',Inv Y pins σ' H' G/\D.nx σ' H') Y.xe G | .error e=>cameBackBy (model Y.prog Y.w) Y.A Y.env Y.xe e G) L:=by
  rintro L rfl;refine adE (qe (X:=Y) (elt:=elt) (gens:=[⟨z,b,u,0⟩,⟨A,j,t,0⟩]) (scope:=scope) (pos:=pos) (d:=1) (acc:=.ref l) (ipos:=j.pos) (ifs:=t)
   (bd:=do let _ <- call (.builtin "list.append") [.ref l,<-eval elt Y.env]) rfl R hc T Z ht (tw he) W C f2 q) λr G ⟨O,V⟩=>?_
  subst O;exact AD V
 refine aD (wpAny_runOwn ?_);show ael (model Y.prog Y.w) Y.A _ _ s2;refine codeAny_of_tree ?_;refine wpAny_notedAt ?_;unfold compStart;show wpAny _ _ (ask >>= _) _ _ s2;refine aD (m:=ask) (wpAny_askSetting (wpAny_ite ?_));split
 .first
   |exact aD (AD (AD (ahJ rfl (k _ rfl))))
   |exact AD (ahJ rfl (k _ rfl))
 .first
   |exact aD (acV (aD (acp (aD (T.self _ 0 _ _ _ C (AD (ahJ rfl (k _ rfl))))))))
   |(refine aD (acV ?_);show wpAny _ _ (adv j.pos >>= _) _ _ s2;exact aD (acp (aD (T.self _ 0 _ _ _ C (AD (ahJ rfl (k _ rfl)))))))
theorem Inv.junk{s:oR}{C:Addr}(I:Inv X pins σ H s)(f:FpOk X pins H C){h':aaM}(hs:abk C s.heap h'):Inv X pins σ H {s with heap:=h' }:=
 I.turned (t':=s.toks) (λb o ne e=>(hs.2 b ne).trans e) f.1 f.2.1 f.2.2.2.1 f.2.2.2.2.1 f.2.2.2.2.2
variable {elt tg n:Expr}{ifs:List Expr}{pos G N:Pos}{L:TI}{g:TG}{tt:TT}{K:TE}
theorem m8{s:oR}(S:bV own fr scope sc)(h:X.env.scope=sc)(I:Inv X pins σ H s):∀y∈scope.names,y.2 = .free->∃c,X.env.cells.lookup y.1=some c:=λy d b=>
 I.ok.has y.1 (by show X.env.scope.names.lookup y.1=_\/X.env.scope.names.lookup y.1=_;rw[h];exact S.there y d b)
theorem E9(S:bV own fr scope sc)(hi:PI X tg n L)(Y:∀cl s H C ex,PG (aG X scope cl (own++fr) s H C ex) tg g)(ht:∀cl s H C ex,PTs (aG X scope cl (own++fr) s H C ex) ifs tt)
  (Z:∀cl s H C ex,PE (aG X scope cl (own++fr) s H C ex) elt K) (b:X.env.scope=sc:=by rfl) (k:ps.map (λi=>X.N[i]?)=fr.map some:=by rfl) (hc:X.calm=true:=by rfl) (hs:∀x,aaN n X.env x=pure x:=by intro _;rfl) :
  PE X (.ListComp elt [⟨tg,n,ifs,0⟩] scope pos) (Cg L own ps (tl1 g tt K)):=by
 intro pins s σ H Q I h;obtain⟨cl,M,V,h2⟩:=fc (m8 S b I);refine adR (use:=none) rfl hs M S.kind S.names (thn (hi pins s σ H _ I h) λv s1 q1=>thn q1 λU s2 q2=>?_);obtain⟨F,fp,tn,J,H2,e,W,T,u,f2,q⟩:=q2;subst e;exact jT S b k hc V h2 (λenv F z=>compTurn_list elt tg n ifs scope pos F z env)
  (Y cl) (ht cl) (λs H C ex l=>tw (Z cl s H C ex)) W T u f2 q λl C H' s' O I' fk q'=>by
   obtain⟨m,R⟩:=O;exact⟨m,R,λh' d=>⟨.ref l,H',I'.junk fk d,rfl,q'⟩⟩
theorem qz{s':oR}{C:Addr}{Q:St->Hp->Prop}(R:X.N.Nodup)(S:X.N[i]?=some y)(h:X.env.scope.names.lookup y=some .local)(M:∃m,s'.heap.Ns C m)(I:Inv X pins σ H' s')(F:FpOk X pins H' C)(q:Q (σ.set i (some (.ref l))) H') :
  wpAny (model X.prog X.w) X.A (ad4 (.Name y N) X.env (.ref l)) (λ_ s=>∃m,s.heap.Ns C m/\∀h',abk C s.heap h'->∃σ' b,Inv X pins σ' b {s with heap:=h' }/\Q σ' b) E s':=by
 obtain⟨m,O⟩:=M;refine wpAny_assign_Name (pf I R S (.inl h) (v:=.ref l) rfl (λs u ⟨a,hs,ha⟩=>?_) (.inr h));have k:C≠a:=by
  rcases ha with ha|ha
  .rw[ha];exact F.2.1
  .exact λz=>F.2.2.2.2.1 _ _ ha z.symm
 exact⟨m,O.sameBut hs k,λh' d=>⟨_,H',u.junk F d,q⟩⟩
theorem Fh(S:bV own fr scope sc)(R:X.N.Nodup)(hy:X.N[i]?=some y)(F:X.env.scope.names.lookup y=some .local)(hi:PI X tg n L)(hg:∀cl s H C ex,PG (aG X scope cl (own++fr) s H C ex) tg g)(ht:∀cl s H C ex,PTs (aG X scope cl (own++fr) s H C ex) ifs tt)
  (Z:∀cl s H C ex,PE (aG X scope cl (own++fr) s H C ex) elt K) (u:abH (.ListComp elt [⟨tg,n,ifs,0⟩] scope pos) (some (.Name y N)) G.line X.env=pure true:=by rfl)
  (b:X.env.scope=sc:=by rfl) (d:ps.map (λi=>X.N[i]?)=fr.map some:=by rfl) (hc:X.calm=true:=by rfl) (hs:∀x,aaN n X.env x=pure x:=by intro _;rfl) :
  PS X (.Assign [.Name y N] (.ListComp elt [⟨tg,n,ifs,0⟩] scope pos) G) (tAsg (Cg L own ps (tl1 g tt K)) (CU i)):=by
 intro pins s σ H D I h;obtain⟨cl,ec,U,h2⟩:=fc (m8 S b I);rw[show exec _ X.env=_ from agB _ _ _ _ u];refine aD (m:=adv _) (acp (aD ?_));refine aD (abP (adR rfl hs ec S.kind S.names (thn (hi pins s σ H _ I h) λv s1 q1=>thn q1 λitv s2 q2=>?_)) (λ_ Y V=>AD (AD V)) λ_ _ e=>e);obtain⟨M,fp,tn,J,H2,e,W,T,z,f2,q⟩:=q2;subst e;exact jT (Q:=λv H'=>D.nx (σ.set i (some v)) H') (tb:=λl=>wm l K) S b d hc U h2 (λenv M k=>compTurn_list elt tg n ifs scope pos M k env)
  (hg cl) (ht cl) (λs H C ex l=>tw (Z cl s H C ex)) W T z f2 q λl C H' Y O I' fk q'=>qz R hy F O I' fk q'
variable {A j:Expr}{t:List Expr}{B:TI}{M:TG}{F:TT}
theorem lp(elt b n:Expr)(ifs:List Expr)(A j:Expr)(t:List Expr)(scope:Scope)(pos:Pos)(d acc:mT)(env:Env) :
  compTurn (.ListComp elt [⟨b,n,ifs,0⟩,⟨A,j,t,0⟩] scope pos) 0 d acc env=(do
   adv n.pos
   match <- aci d with
   |none=>pure (.done .next)
   | some v=>
    ad1 b d v
    ad4 b env v
    let mut ok:=true
    for c in ifs do
     if ok=true then ok <- isTrue c env (eval c env)
    if ok then
     (do
      let x <- eval j env
      adv j.pos
      let x <- aaN j env x
      let _ <- runOwn (.compStart (.ListComp elt [⟨b,n,ifs,0⟩,⟨A,j,t,0⟩] scope pos) 1 (<- adw [x] (ae2 x)) acc env) env)
    again (.compLoop (.ListComp elt [⟨b,n,ifs,0⟩,⟨A,j,t,0⟩] scope pos) 0 d acc env)):=by
 simp only[ bind_assoc];rfl
theorem D7(S:bV own fr scope sc)(hN:X.N.Nodup)(hy:X.N[i]?=some y)(Y:X.env.scope.names.lookup y=some .local)(hi:PI X tg n L)(hg:∀cl s H C ex,PG (aG X scope cl (own++fr) s H C ex) tg g)(ht:∀cl s H C ex,PTs (aG X scope cl (own++fr) s H C ex) ifs tt)
  (R:∀cl s H C ex,PI (aG X scope cl (own++fr) s H C ex) A j B) (V:∀cl s H C ex,PG (aG X scope cl (own++fr) s H C ex) A M) (O:∀cl s H C ex,PTs (aG X scope cl (own++fr) s H C ex) t F)
  (he:∀cl s H C ex,PE (aG X scope cl (own++fr) s H C ex) elt K) (z:abH (.ListComp elt [⟨tg,n,ifs,0⟩,⟨A,j,t,0⟩] scope pos) (some (.Name y N)) G.line X.env=pure true:=by rfl)
  (b:X.env.scope=sc:=by rfl) (d:ps.map (λi=>X.N[i]?)=fr.map some:=by rfl) (Z:X.calm=true:=by rfl) (hs:∀x,aaN n X.env x=pure x:=by intro _;rfl)
  (W:∀cl C x,aaN j (agI scope cl C X.env) x=pure x:=by intro _ _ _;rfl) :
  PS X (.Assign [.Name y N] (.ListComp elt [⟨tg,n,ifs,0⟩,⟨A,j,t,0⟩] scope pos) G) (tAsg (Cg L own ps (tl2 g tt B M F K)) (CU i)):=by
 intro pins s σ H D I h;obtain⟨cl,ec,h1,h2⟩:=fc (m8 S b I);rw[show exec _ X.env=_ from agB _ _ _ _ z];refine aD (m:=adv _) (acp (aD ?_));refine aD (abP (adR (Q:=λ_ k=>SP X pins D .next k) rfl hs ec S.kind S.names (thn (hi pins s σ H _ I h) λv s1 q1=>thn q1 λitv s2 q2=>?_)) (λ_ k hq=>AD (AD hq)) λ_ _ e=>e);obtain⟨it,fp,tn,J,H2,e,I2,T,U,f2,q⟩:=q2;subst e;exact jT (Q:=λv H'=>D.nx (σ.set i (some v)) H') S b d Z h1 h2 (λenv it u=>lp elt tg n ifs A j t scope pos it u env)
  (hg cl) (ht cl) (λs H C ex l=>Fj rfl Z (R cl s H C ex) (V cl s H C ex) (O cl s H C ex) (he cl s H C ex) (W cl C)) I2 T U f2 q λl C H' k hm I' fk q'=>qz hN hy Y hm I' fk q'
end
noncomputable def FzL(K:Mt)(H:Hp)(a:Addr)(xs:List V):Prop:=
 (∃o,H a=some (.frz o (.lst xs))) \/
  ∃(o:Obj) (b:Array mT) (n:Nat),K.lookup a=some o/\o.cls = .type "list"/\o.dict=none/\o.data = .seq b n/\b.size≤aag/\Vals xs b.toList
theorem FzL.sq{K:Mt}(h:FzL K H a xs):SqL K H a xs:=by
 rcases h with⟨o,h⟩|h
 .exact .inl (.inr ⟨o,h⟩)
 .exact .inr h
structure Kd where
 K:Mt
 w:World
noncomputable instance:Coe Kd Mt:=⟨Kd.K⟩
mutual
noncomputable def cE(w:World):dL->Int
 | .int i=>hashInt i
 | .str x=>hashStr w x
 | .tuple ds=>reduceHash (abL (h8 w ds))
 |_=>0
noncomputable def h8(w:World):List dL->List Int
 |[]=>[]
 |d::ds=>cE w d::h8 w ds
end
mutual
noncomputable def hkD:dL->Bool
 | .int _=>true
 | .str _=>true
 | .tuple ds=>hkA ds
 |_=>false
noncomputable def hkA:List dL->Bool
 |[]=>true
 |d::ds=>hkD d&&hkA ds
end
noncomputable def isKd(kvs:List (dL×dL)):Bool:=kvs.all λk=>match k.1 with| .int _=>true | .str _=>true|_=>false
noncomputable def CA(kvs:List (dL×dL)):Prop:=isKd kvs=false/\(kvs.map (·.1)).Nodup/\∀k∈kvs.map (·.1),hkD k=true
noncomputable def dXp(a:Addr)(es:List (Int×V×V))(h:aaM):Prop:=
 (a==abD)=false/\es.length≤aag/\∃(o:Obj) (b:Array acj) (c:Nat),h.get? a=some o/\o.ExactDict/\o.data = .dict b c/\
  abO (λ(e:Int×V×V) (d:acj)=>d.hash=e.1/\RelV e.2.1 d.key/\RelV e.2.2 d.val) es b.toList
noncomputable abbrev dX(a:Addr)(es:List (Int×V×V)):HO:=.ext (dXp a es)
noncomputable def FzD(H:Hp)(a:Addr)(es:List (Int×V×V)):Prop:=∃o,H a=some (.frz o (dX a es))
noncomputable def ClsN(K:Kd)(c:Str)(C:Addr):Prop:=aat K.K aao c=some (some (.ref C))
noncomputable def Wm(K:Kd)(H:Hp)(a:Addr)(c:Str)(xs:List (Str×V)):Prop:=
 ∃(o:Obj) (u:HO) (C:Addr),H a=some (.frz o u)/\o.cls = .ref C/\(∃vs,o.data = .fields vs)/\ClsN K c C/\((o.dict=none/\xs=[])\/∃(dx:Addr) (b:Obj),o.dict=some dx/\H dx=some (.frz b (.xd xs)))
noncomputable def keyD:Key->dL
 | .inl i=>.int i
 | .inr x=>.str x
noncomputable def excC:List (dL×dL)->Option Str
 |(.none,.str c)::_=>some c
 |_=>none
mutual
noncomputable def Den(K:Kd)(H:Hp):dL->V->Prop
 | .none,v=>v = .non
 | .bool b,v=>v = .bl b
 | .int i,v=>v = .int i
 | .str x,v=>v = .str x
 | .list ds,v=>∃a d,v = .ref a/\FzL K H a d/\DenAll K H ds d
 | .tuple ds,v=>∃a d,v = .ref a/\SqT K H a d/\DenAll K H ds d
 | .dict kvs,v=>∃a,v = .ref a/\((∃e,FzD H a e/\CA kvs/\DenKV K H kvs e)\/(∃e o,H a=some (.frz o (.dK e))/\DenKK K H kvs e)\/∃c d,excC kvs=some c/\Wm K H a c d/\DenXF K H kvs d)
noncomputable def DenAll(K:Kd)(H:Hp):List dL->List V->Prop
 |[],xs=>xs=[]
 |d::ds,xs=>∃v vs,xs=v::vs/\Den K H d v/\DenAll K H ds vs
noncomputable def DenKV(K:Kd)(H:Hp):List (dL×dL)->List (Int×V×V)->Prop
 |[],es=>es=[]
 |(k,d)::r,es=>∃u v vs,es=(cE K.w k,u,v)::vs/\Den K H k u/\Den K H d v/\DenKV K H r vs
noncomputable def DenKK(K:Kd)(H:Hp):List (dL×dL)->List (Key×V)->Prop
 |[],es=>es=[]
 |(k,d)::r,es=>∃a v vs,es=(a,v)::vs/\(k=keyD a/\∀x∈vs,x.1≠a)/\Den K H d v/\DenKK K H r vs
noncomputable def DenXF(K:Kd)(H:Hp):List (dL×dL)->List (Str×V)->Prop
 |[],xs=>xs=[]
 |(k,d)::r,xs=>match k with
  | .str f=>∃v vs,xs=(f,v)::vs/\Den K H d v/\DenXF K H r vs
  |_=>DenXF K H r xs
end
structure Pers(H H':Hp):Prop where
 tups:∀b xs,H b=some (.tup xs)->H' b=some (.tup xs)
 frzs:∀b o u,H b=some (.frz o u)->H' b=some (.frz o u)
theorem Pers.trans(a:Pers H H1)(b:Pers H1 H2):Pers H H2:=⟨λc x e=>b.tups c x (a.tups c x e),λc o u e=>b.frzs c o u (a.frzs c o u e)⟩
section
variable {K:Kd}{H H':Hp}
theorem FzL.mono(p:Pers H H')(h:FzL K H a xs):FzL K H' a xs:=by
 rcases h with⟨o,h⟩|h
 .exact .inl ⟨o,p.frzs _ _ _ h⟩
 .exact .inr h
theorem SqT.mono(p:Pers H H')(h:SqT K H a xs):SqT K H' a xs:=by
 rcases h with(h|⟨o,h⟩)|h
 .exact .inl (.inl (p.tups _ _ h))
 .exact .inl (.inr ⟨o,p.frzs _ _ _ h⟩)
 .exact .inr h
mutual
theorem Den.mono(p:Pers H H'):∀{d:dL}{v:V},Den K H d v->Den K H' d v
 | .none,_,h=>h
 | .bool _,_,h=>h
 | .int _,_,h=>h
 | .str _,_,h=>h
 | .list ds,_,h=>by
  simp only[Den]at h⊢;obtain⟨a,x,e,f,g⟩:=h;exact⟨a,x,e,f.mono p,DenAll.mono p g⟩
 | .tuple ds,_,h=>by
  simp only[Den]at h⊢;obtain⟨a,x,e,f,g⟩:=h;exact⟨a,x,e,f.mono p,DenAll.mono p g⟩
 | .dict kvs,_,h=>by
  simp only[Den]at h⊢;obtain⟨a,e,h⟩:=h;refine⟨a,e,?_⟩;rcases h with⟨b,⟨o,f⟩,r,g⟩|⟨b,o,f,g⟩|⟨c,x,j,⟨o,u,C,k,m,l,s,i⟩,g⟩
  .exact .inl ⟨b,⟨o,p.frzs _ _ _ f⟩,r,DenKV.mono p g⟩
  .exact .inr (.inl ⟨b,o,p.frzs _ _ _ f,DenKK.mono p g⟩)
  .refine .inr <| .inr ⟨c,x,j,⟨o,u,C,p.frzs _ _ _ k,m,l,s,?_⟩,DenXF.mono p g⟩;rcases i with i|⟨dx,t,q,n⟩
   .exact .inl i
   .exact .inr ⟨dx,t,q,p.frzs _ _ _ n⟩
theorem DenAll.mono(p:Pers H H'):∀{ds:List dL}{xs:List V},DenAll K H ds xs->DenAll K H' ds xs
 |[],_,h=>h
 |d::ds,_,h=>by
  simp only[DenAll]at h⊢;obtain⟨v,vs,e,f,g⟩:=h;exact⟨v,vs,e,Den.mono p f,DenAll.mono p g⟩
theorem DenKV.mono(p:Pers H H'):∀{ds:List (dL×dL)}{xs:List (Int×V×V)},DenKV K H ds xs->DenKV K H' ds xs
 |[],_,h=>by simpa only[DenKV]using h
 |(k,d)::r,_,h=>by
  simp only[DenKV]at h⊢;obtain⟨u,v,vs,e,a,f,g⟩:=h;exact⟨u,v,vs,e,Den.mono p a,Den.mono p f,DenKV.mono p g⟩
theorem DenKK.mono(p:Pers H H'):∀{ds:List (dL×dL)}{xs:List (Key×V)},DenKK K H ds xs->DenKK K H' ds xs
 |[],_,h=>by simpa only[DenKK]using h
 |(k,d)::r,_,h=>by
  simp only[DenKK]at h⊢;obtain⟨u,v,vs,e,a,f,g⟩:=h;exact⟨u,v,vs,e,a,Den.mono p f,DenKK.mono p g⟩
theorem DenXF.mono(p:Pers H H'):∀{ds:List (dL×dL)}{xs:List (Str×V)},DenXF K H ds xs->DenXF K H' ds xs
 |[],_,h=>by simpa only[DenXF]using h
 |(.str f,d)::r,_,h=>by
  simp only[DenXF]at h⊢;obtain⟨v,vs,e,a,g⟩:=h;exact⟨v,vs,e,Den.mono p a,DenXF.mono p g⟩
 |(.none,d)::r,_,h=>by simp only[DenXF]at h⊢;exact DenXF.mono p h
 |(.bool _,d)::r,_,h=>by simp only[DenXF]at h⊢;exact DenXF.mono p h
 |(.int _,d)::r,_,h=>by simp only[DenXF]at h⊢;exact DenXF.mono p h
 |(.list _,d)::r,_,h=>by simp only[DenXF]at h⊢;exact DenXF.mono p h
 |(.tuple _,d)::r,_,h=>by simp only[DenXF]at h⊢;exact DenXF.mono p h
 |(.dict _,d)::r,_,h=>by simp only[DenXF]at h⊢;exact DenXF.mono p h
end
theorem DenAll.nil:DenAll K H [] []:=rfl
theorem DenAll.cons{d:dL}(h:Den K H d v)(t:DenAll K H ds vs):DenAll K H (d::ds) (v::vs):=by
   exact⟨v,vs,rfl,h,t⟩
theorem DenAll.paired:∀{ds:List dL}{xs:List V},DenAll K H ds xs->abO (Den K H) ds xs
 |[],_,h=>by simp[DenAll]at h;subst h;exact .nil
 |d::ds,_,h=>by
  obtain⟨v,vs,e,f,g⟩:=h;subst e;exact .cons f g.paired
theorem f9:∀{ds:List dL}{xs:List V},abO (Den K H) ds xs->DenAll K H ds xs
 |_,_,.nil=>DenAll.nil
 |_,_,.cons f t=>DenAll.cons f (f9 t)
theorem DenAll.length(h:DenAll K H ds xs):ds.length=xs.length:=h.paired.length
theorem Paired.get'{c β:Type}{F:c->β->Prop}:∀{l₁:List c}{l:List β}{i:Nat}{a:c},abO F l₁ l->l₁[i]?=some a->∃b,l[i]?=some b/\F a b
 |_,_,_,_,.nil,e=>by simp at e
 |_,_,0,_,.cons f _,e=>by simp at e;subst e;exact⟨_,rfl,f⟩
 |_,_,i+1,a,.cons _ t,e=>by
  obtain⟨b,h,d⟩:=Paired.get' t ‹_›;exact⟨b,by simpa using h,d⟩
theorem DenAll.get{d:dL}(h:DenAll K H ds xs)(e:ds[i]?=some d):∃v,xs[i]?=some v/\Den K H d v:=Paired.get' h.paired e
theorem Paired.get2{c β:Type}{F:c->β->Prop}:∀{l₁:List c}{l:List β}{i:Nat}{b:β},abO F l₁ l->l[i]?=some b->∃a,l₁[i]?=some a/\F a b
 |_,_,_,_,.nil,e=>by simp at e
 |_,_,0,_,.cons f _,e=>by simp at e;subst e;exact⟨_,rfl,f⟩
 |_,_,i+1,b,.cons _ t,e=>by
  obtain⟨a,h,d⟩:=Paired.get2 t ‹_›;exact⟨a,by simpa using h,d⟩
theorem DenAll.get2(h:DenAll K H ds xs)(e:xs[i]?=some v):∃d,ds[i]?=some d/\Den K H d v:=Paired.get2 h.paired e
theorem Paired.append'{e β:Type}{F:e->β->Prop}:∀{a b:List e}{c d:List β},abO F a c->abO F b d->abO F (a++b) (c++d)
 |_,_,_,_,.nil,s=>s
 |_,_,_,_,.cons r t,s=>.cons r (Paired.append' t s)
theorem DenAll.append{es:List dL}{ys:List V}(h:DenAll K H ds xs)(g:DenAll K H es ys):DenAll K H (ds++es) (xs++ys):=f9 (Paired.append' h.paired g.paired)
theorem Paired.set'{c β:Type}{F:c->β->Prop}{a:c}{b:β}(f:F a b):∀{l₁:List c}{l:List β} (i:Nat),abO F l₁ l->abO F (l₁.set i a) (l.set i b)
 |_,_,_,.nil=>.nil
 |_,_,0,.cons _ t=>.cons f t
 |_,_,i+1,.cons q t=>.cons q (Paired.set' f i t)
theorem DenAll.set{d:dL}(h:DenAll K H ds xs)(f:Den K H d v)(i:Nat):DenAll K H (ds.set i d) (xs.set i v):=f9 (Paired.set' f i h.paired)
theorem Paired.take'{a β:Type}{F:a->β->Prop}:∀{l₁:List a}{l:List β} (n:Nat),abO F l₁ l->abO F (l₁.take n) (l.take n)
 |_,_,0,_=>.nil
 |_,_,_+1,.nil=>.nil
 |_,_,n+1,.cons r t=>.cons r (Paired.take' n t)
theorem Paired.drop'{a β:Type}{F:a->β->Prop}:∀{l₁:List a}{l:List β} (n:Nat),abO F l₁ l->abO F (l₁.drop n) (l.drop n)
 |_,_,0,h=>h
 |_,_,_+1,.nil=>.nil
 |_,_,n+1,.cons _ t=>Paired.drop' n t
theorem DenAll.take(h:DenAll K H ds xs)(n:Nat):DenAll K H (ds.take n) (xs.take n):=f9 (Paired.take' n h.paired)
theorem DenAll.drop(h:DenAll K H ds xs)(n:Nat):DenAll K H (ds.drop n) (xs.drop n):=f9 (Paired.drop' n h.paired)
theorem DenAll.ints:∀ns:List Int,DenAll K H (ns.map .int) (ns.map V.int)
 |[]=>DenAll.nil
 |n::ns=>DenAll.cons rfl (DenAll.ints ns)
end
noncomputable def fzOf:List (dL×dL)->Option dL
 |[(.none,.list ds)]=>some (.list ds)
 |[(.none,.dict es)]=>some (.dict es)
 |_=>none
mutual
noncomputable def TAt(K:Kd)(H:Hp)(τ:List (List Nat×Addr))(p:List Nat):dL->V->Prop
 | .list ts,v=>∃a f,τ.lookup p=some a/\v = .ref a/\H a=some (.lst f)/\TAtL K H τ p 0 ts f
 | .dict kvs,v=>(∃d,fzOf kvs=some d/\Den K H d v) \/
   (fzOf kvs=none/\excC kvs=none/\∃a e,τ.lookup p=some a/\v = .ref a/\H a=some (dX a e)/\CA kvs/\TAtD K H τ p 0 kvs e) \/
   (fzOf kvs=none/\excC kvs=none/\∃a e,τ.lookup p=some a/\v = .ref a/\H a=some (.dK e)/\TAtK K H τ p 0 kvs e) \/
   ∃c a dx C f,excC kvs=some c/\τ.lookup p=some a/\v = .ref a/\H a=some (.ins C dx f)/\ClsN K c C/\TAtF K H τ p 0 kvs f
 | .none,v=>Den K H .none v
 | .bool b,v=>Den K H (.bool b) v
 | .int i,v=>Den K H (.int i) v
 | .str x,v=>Den K H (.str x) v
 | .tuple ds,v=>Den K H (.tuple ds) v
noncomputable def TAtL(K:Kd)(H:Hp)(τ:List (List Nat×Addr))(p:List Nat)(i:Nat):List dL->List V->Prop
 |[],xs=>xs=[]
 |t::ts,xs=>∃v vs,xs=v::vs/\TAt K H τ (p++[i]) t v/\TAtL K H τ p (i+1) ts vs
noncomputable def TAtD(K:Kd)(H:Hp)(τ:List (List Nat×Addr))(p:List Nat)(i:Nat):List (dL×dL)->List (Int×V×V)->Prop
 |[],es=>es=[]
 |(k,t)::r,es=>∃u v vs,es=(cE K.w k,u,v)::vs/\Den K H k u/\TAt K H τ (p++[i]) t v/\TAtD K H τ p (i+1) r vs
noncomputable def TAtK(K:Kd)(H:Hp)(τ:List (List Nat×Addr))(p:List Nat)(i:Nat):List (dL×dL)->List (Key×V)->Prop
 |[],es=>es=[]
 |(k,t)::r,es=>∃a v vs,es=(a,v)::vs/\(k=keyD a/\∀x∈vs,x.1≠a)/\TAt K H τ (p++[i]) t v/\TAtK K H τ p (i+1) r vs
noncomputable def TAtF(K:Kd)(H:Hp)(τ:List (List Nat×Addr))(p:List Nat)(i:Nat):List (dL×dL)->List (Str×V)->Prop
 |[],xs=>xs=[]
 |(k,t)::r,xs=>match k with
  | .str f=>∃v vs,xs=(f,v)::vs/\TAt K H τ (p++[i]) t v/\TAtF K H τ p (i+1) r vs
  | .none=>TAtF K H τ p (i+1) r xs
  |_=>False
end
theorem bt{β b:Type}[BEq β][LawfulBEq β]{l:List (β×b)}{p:β}{a:b}(h:l.lookup p=some a):a∈l.map (·.2):=by
 induction l with
 |nil=>cases h
 |cons x l i=>
  grind
section
variable {K:Kd}{H H':Hp}{τ:List (List Nat×Addr)}
mutual
theorem TAt.mono(f:Pers H H')(e:∀a∈τ.map (·.2),H' a=H a):∀{d:dL}{p:List Nat}{v:V},TAt K H τ p d v->TAt K H' τ p d v
 | .none,_,_,h=>by simp only[TAt]at h⊢;exact h.mono f
 | .bool _,_,_,h=>by simp only[TAt]at h⊢;exact h.mono f
 | .int _,_,_,h=>by simp only[TAt]at h⊢;exact h.mono f
 | .str _,_,_,h=>by simp only[TAt]at h⊢;exact h.mono f
 | .tuple _,_,_,h=>by simp only[TAt]at h⊢;exact h.mono f
 | .list ts,_,_,h=>by
  simp only[TAt]at h⊢;obtain⟨a,x,b,i,j,g⟩:=h;exact⟨a,x,b,i,(e a (bt b)).trans j,TAtL.mono f e g⟩
 | .dict kvs,_,_,h=>by
  simp only[TAt]at h⊢;rcases h with⟨d,b,h⟩|⟨z,l,a,m,b,i,j,k,g⟩|⟨z,l,a,m,b,i,j,g⟩|⟨c,a,dx,C,x,n,b,i,j,k,g⟩
  .exact .inl ⟨d,b,h.mono f⟩
  .exact .inr (.inl ⟨z,l,a,m,b,i,(e a (bt b)).trans j,k,TAtD.mono f e g⟩)
  .exact .inr (.inr (.inl ⟨z,l,a,m,b,i,(e a (bt b)).trans j,TAtK.mono f e g⟩))
  .exact .inr (.inr <| .inr ⟨c,a,dx,C,x,n,b,i,(e a (bt b)).trans j,k,TAtF.mono f e g⟩)
theorem TAtL.mono(b:Pers H H')(e:∀a∈τ.map (·.2),H' a=H a):∀{ds:List dL}{p:List Nat}{i:Nat}{xs:List V},TAtL K H τ p i ds xs->TAtL K H' τ p i ds xs
 |[],_,_,_,h=>by simpa only[TAtL]using h
 |t::ts,_,_,_,h=>by
  simp only[TAtL]at h⊢;obtain⟨v,vs,d,c,g⟩:=h;exact⟨v,vs,d,TAt.mono b e c,TAtL.mono b e g⟩
theorem TAtD.mono(b:Pers H H')(e:∀a∈τ.map (·.2),H' a=H a):∀{ds:List (dL×dL)}{p:List Nat}{i:Nat}{xs:List (Int×V×V)},TAtD K H τ p i ds xs->TAtD K H' τ p i ds xs
 |[],_,_,_,h=>by simpa only[TAtD]using h
 |(k,t)::r,_,_,_,h=>by
  simp only[TAtD]at h⊢;obtain⟨u,v,vs,f,d,c,g⟩:=h;exact⟨u,v,vs,f,d.mono b,TAt.mono b e c,TAtD.mono b e g⟩
theorem TAtK.mono(b:Pers H H')(e:∀a∈τ.map (·.2),H' a=H a):∀{ds:List (dL×dL)}{p:List Nat}{i:Nat}{xs:List (Key×V)},TAtK K H τ p i ds xs->TAtK K H' τ p i ds xs
 |[],_,_,_,h=>by simpa only[TAtK]using h
 |(k,t)::r,_,_,_,h=>by
  simp only[TAtK]at h⊢;obtain⟨u,v,vs,f,d,c,g⟩:=h;exact⟨u,v,vs,f,d,TAt.mono b e c,TAtK.mono b e g⟩
theorem TAtF.mono(b:Pers H H')(e:∀a∈τ.map (·.2),H' a=H a):∀{ds:List (dL×dL)}{p:List Nat}{i:Nat}{xs:List (Str×V)},TAtF K H τ p i ds xs->TAtF K H' τ p i ds xs
 |[],_,_,_,h=>by simpa only[TAtF]using h
 |(.str f,t)::r,_,_,_,h=>by
  simp only[TAtF]at h⊢;obtain⟨v,vs,j,c,g⟩:=h;exact⟨v,vs,j,TAt.mono b e c,TAtF.mono b e g⟩
 |(.none,d)::r,_,_,_,h=>by simp only[TAtF]at h⊢;exact TAtF.mono b e h
 |(.bool _,d)::r,_,_,_,h=>by simp only[TAtF]at h
 |(.int _,d)::r,_,_,_,h=>by simp only[TAtF]at h
 |(.list _,d)::r,_,_,_,h=>by simp only[TAtF]at h
 |(.tuple _,d)::r,_,_,_,h=>by simp only[TAtF]at h
 |(.dict _,d)::r,_,_,_,h=>by simp only[TAtF]at h
end
end
noncomputable abbrev Cx.kd(X:Cx):Kd:=⟨X.K,X.w⟩
section
variable {X:Cx}{pins:List (Addr×Obj)}{σ:St}{H:Hp}{s:oR}
mutual
theorem Den.reads(I:Inv X pins σ H s):∀{d:dL}{v:V}{u:mT},d.hasDict=false->Den X.kd H d v->RelV v u->∃as,Reads s.heap u d as
 | .none,v,u,_,h,r=>by simp only[Den]at h;subst h;cases r;exact⟨_,.none⟩
 | .bool b,v,u,nd,h,r=>by simp only[Den]at h;subst h;cases r;exact⟨_,.bool b⟩
 | .int i,v,u,nd,h,r=>by simp only[Den]at h;subst h;obtain⟨t,rfl⟩:=r;exact⟨_,.int i t⟩
 | .str x,v,u,nd,h,r=>by simp only[Den]at h;subst h;obtain⟨t,rfl⟩:=r;exact⟨_,.str x t⟩
 | .list ds,v,u,nd,h,r=>by
  simp only[Den]at h;obtain⟨a,p,rfl,f,g⟩:=h;cases r;obtain⟨l,m,⟨o,n,e,c,_,j⟩,_⟩:=I.list f.sq;obtain⟨as,k⟩:=DenAll.reads I (by simpa only[acX]using nd) g m;exact⟨_,.list e c j (by simpa using k)⟩
 | .tuple ds,v,u,nd,h,r=>by
  simp only[Den]at h;obtain⟨a,p,rfl,f,g⟩:=h;cases r;obtain⟨l,m,⟨o,e,c,n,j⟩,_⟩:=I.tuple f;obtain⟨as,k⟩:=DenAll.reads I (by simpa only[acX]using nd) g m;exact⟨_,.tuple e c j (by simpa using k)⟩
 | .dict _,v,u,nd,h,r=>by simp[acX]at nd
theorem DenAll.reads(I:Inv X pins σ H s):∀{ds:List dL}{xs:List V}{u:List mT},acF ds=false->DenAll X.kd H ds xs->Vals xs u->∃as,adT s.heap u ds as
 |[],xs,u,_,h,r=>by simp only[DenAll]at h;subst h;cases r;exact⟨_,.nil⟩
 | d::ds,xs,u,nd,h,r=>by
  simp only[acF,agK]at nd;simp only[DenAll]at h;obtain⟨v,vs,rfl,f,g⟩:=h
  cases r with
  |cons r1 a=>
   obtain⟨a1,b⟩:=Den.reads I nd.1 f r1;obtain⟨a2,c⟩:=DenAll.reads I nd.2 g a;exact⟨_,.cons b c⟩
end
theorem Inv.freeze(I:Inv X pins σ H s)(h:H a=some (.lst xs)):∃o,Inv X pins σ (upd H a (.frz o (.lst xs))) s:=by
 obtain⟨d,i,n,r,e⟩:=I.hok a _ h;refine⟨{cls:=.type "list",data:=.seq i.toArray n},I.un (h':=s.heap) (t':=s.toks) ⟨λb ob q _ _ _=>q,λb ob q _ _ _=>⟨ob.slots,q⟩,λb ob q z _=>?_,λb ob q _=>⟨ob,q⟩,λb y q=>?_,λb ob u q=>?_,λb ps q=>⟨#[],?_⟩⟩ λb ob q=>?_⟩
 .rw[ag (aa5 (aP h z))];exact z
 .rw[ag (rQ q h (by simp))];exact q
 .rw[ag (rQ q h (by intro z;cases z))];exact q
 .rw[ag (rQ q h (by simp)),q];simp
 .by_cases hb:b=a
  .subst hb;rw[ai]at q;cases q;exact⟨e,d,i,n,r,e⟩
  .rw[ag hb]at q;exact(I.hok b ob q).stay (λ_ _ _ z=>z) (λc z=>by rw[ag (rQ z h (by simp))];exact z) λc y z=>by rw[ag (rQ z h (by simp))];exact z
end
noncomputable def IK:Expr->Bool
 | .Starred ..=>true
 |_=>false
theorem aE{es:List Expr}(h:IK e=false):aad (e::es) env=(false,eval e env)::aad es env:=by
 cases e<;>first|rfl|cases h
theorem cu(h:IK e=false):aad [e] env=[(false,eval e env)]:=aE h
inductive R where
 |imm (d:dL)|obj (k:Nat)|new (ds:List dL)|at (k:Nat) (p:List Nat)|newT (t:dL)
structure MSt where
 vs:List (Option R)
 os:List (List dL)
 np:Nat
structure Kx extends Kd where
 eb:EB
noncomputable instance:Coe Kx Kd:=⟨Kx.toKd⟩
noncomputable abbrev Cx.kx(X:Cx):Kx:=⟨X.kd,X.eb⟩
noncomputable abbrev Al:=List Ao
noncomputable def Ao.ads:Ao->List Addr
 | .L a=>[a]
 | .T t=>t.map (·.2)
noncomputable def ads(a:Al):List Addr:=a.flatMap Ao.ads
theorem jh(a β:Al):ads (a++β)=ads a++ads β:=by unfold ads;rw[ag2]
noncomputable def Mu:HO->Bool
 | .tup _=>false
 | .frz _ _=>false
 |_=>true
noncomputable def OwnAt(K:Kd)(H:Hp):Ao->List dL->Prop
 | .L a,ds=>∃x,H a=some (.lst x)/\DenAll K H ds x
 | .T τ,ds=>(∃t v,ds=[t]/\TAt K H τ [] t v/\∃a,τ.lookup []=some a/\v = .ref a)/\∀a∈τ.map (·.2),∃o,H a=some o/\Mu o=true
theorem OwnAt.mem(h:OwnAt K H ao ds)(ha:a∈ao.ads):∃o,H a=some o/\Mu o=true:=by
 cases ao with
 |L b=>cases OR.mp ha;obtain⟨x,e,_⟩:=h;exact⟨_,e,rfl⟩
 |T c=>exact h.2 a ha
theorem OwnAt.mono(h:OwnAt K H ao ds)(p:Pers H H')(e:∀a∈ao.ads,H' a=H a):OwnAt K H' ao ds:=by
 cases ao with
 |L b=>
  obtain⟨x,q,g⟩:=h;exact⟨x,(e b (OR.mpr rfl)).trans q,g.mono p⟩
 |T d=>
  obtain⟨⟨t,v,c,g,r⟩,m⟩:=h;exact⟨⟨t,v,c,g.mono p e,r⟩,λa ha=>by rw[e a ha];exact m a ha⟩
noncomputable def RelS(K:Kd)(b:Al)(H:Hp):R->V->Prop
 | .imm d,v=>Den K H d v
 | .obj k,v=>∃a,b[k]?=some (.L a)/\v = .ref a
 | .at k p,v=>∃c a,b[k]?=some (.T c)/\c.lookup p=some a/\v = .ref a
 | .new _,_=>False
 | .newT _,_=>False
noncomputable def RelR(K:Kd)(e:Al)(f H:Hp):R->V->Prop
 | .imm d,v=>Den K H d v
 | .obj k,v=>∃a,e[k]?=some (.L a)/\v = .ref a
 | .at k p,v=>∃c a,e[k]?=some (.T c)/\c.lookup p=some a/\v = .ref a
 | .new ds,v=>∃a x,v = .ref a/\f a=none/\H a=some (.lst x)/\DenAll K H ds x
 | .newT t,v=>∃c a,v = .ref a/\c.lookup []=some a/\(c.map (·.2)).Nodup/\(∀b∈c.map (·.2),f b=none)/\OwnAt K H (.T c) [t]
noncomputable def Frm(a:Al)(H c:Hp):Prop:=∀b o,H b=some o->b∉ads a->c b=some o
theorem Frm.refl(a:Al)(H:Hp):Frm a H H:=λ_ _ e _=>e
theorem Frm.trans(a:Frm α H H1)(b:Frm α H1 H2):Frm α H H2:=λc o e n=>b c o (a c o e n) n
structure Ext(np:Nat)(α:Al)(H:Hp)(α':Al)(H':Hp):Prop where
 pre:α'.take np=α.take np
 frm:Frm α H H'
 new:∀a∈ads α',a∈ads α\/H a=none
 old:∀a∈ads α,∃o,H' a=some o
theorem Ext.trans{np:Nat}{c:Al}(x:Ext np α H α1 H1)(y:Ext np α1 H1 c H2):Ext np α H c H2:=by
 have out:∀b o,H b=some o->b∉ads α->b∉ads α1:=λb o e n hb=>by
  rcases x.new b hb with z|z
  .exact n z
  .grind
 refine⟨y.pre.trans x.pre,λb o e n=>y.frm b o (x.frm b o e n) (out b o e n),λa ha=>?_,λa ha=>?_⟩
 .rcases y.new a ha with z|z
  .exact x.new a z
  .cases q:H a with
   |none=>exact .inr rfl
   | some o=>
    by_cases h:a∈ads α
    .exact .inl h
    .have:=x.frm a o q h
     grind
 .obtain⟨o,e⟩:=x.old a ha
  by_cases h:a∈ads α1
  .exact y.old a h
  .exact⟨o,y.frm a o e h⟩
theorem Ext.nil{np:Nat}(x:Ext np α H α1 H1)(h:H1 a=none):H a=none:=by
 cases q:H a with
 |none=>rfl
 | some o=>
  by_cases b:a∈ads α
  .obtain⟨o',e⟩:=x.old a b
   grind
  .have:=x.frm a o q b
   grind
theorem Ext.less{np n1:Nat}(x:Ext n1 α H α' H')(h:np≤n1):Ext np α H α' H':=by
 refine⟨?_,x.frm,x.new,x.old⟩;have:=congrArg (List.take np) x.pre;rw[List.take_take,List.take_take,Nat.min_eq_left h]at this;omega
structure Rel(K:Kx)(α:Al)(m:MSt)(σ:St)(H:Hp):Prop where
 nd:(ads α).Nodup
 len:α.length=m.os.length
 own:∀(k:Nat) (ao:Ao) (ds:List dL),α[k]?=some ao->m.os[k]?=some ds->OwnAt K H ao ds
 vlen:σ.length=m.vs.length
 var:∀(i:Nat) (r:R),m.vs[i]?=some (some r)->∃v,σ[i]?=some (some v)/\RelS K α H r v
 npl:m.np≤α.length
 ebl:K.eb.np≤m.np
 ebx:Ext K.eb.np K.eb.be K.eb.H α H
section
variable {K:Kx}{α:Al}{m m':MSt}{σ:St}{H H0 H1 H':Hp}{r:R}{v:V}
theorem RelS.rr{K:Kd}(h:RelS K α H r v):RelR K α Hb H r v:=by
 cases r with
 |imm d=>exact h
 |obj k=>exact h
 | «at» k p=>exact h
 |new ds=>exact h.elim
 |newT t=>exact h.elim
theorem Rel.mem(R:Rel K α m σ H)(ha:a∈ads α):∃o,H a=some o/\Mu o=true:=by
 obtain⟨c,b,f⟩:=abi.mp ha;obtain⟨k,d,e⟩:=abv.mp b;have b:α[k]?=some c:=by rw[iO d,e]
 have h:m.os[k]?=some (m.os[k]'(by rw[<-R.len];exact d)):=iO _;exact(R.own k c _ b h).mem f
theorem Rel.out(R:Rel K α m σ H)(h:H a=none):a∉ads α:=λha=>by
 obtain _:=R.mem ha
 grind
theorem Rel.pers(R:Rel K α m σ H)(F:Frm α H H'):Pers H H' where
 tups:=λb x e=>F b _ e λha=>by obtain⟨y,q,z⟩:=R.mem ha;rw[e]at q;cases q;cases z
 frzs:=λb o u e=>F b _ e λha=>by obtain⟨y,q,z⟩:=R.mem ha;rw[e]at q;cases q;cases z
theorem Ext.of{np:Nat}(R:Rel K α m σ H')(F:Frm α H H'):Ext np α H α H':=
 ⟨rfl,F,λ_ h=>.inl h,λa ha=>let ⟨xs,q,_⟩:=R.mem ha;⟨_,q⟩⟩
theorem OwnAt.keep{K:Kd}(h:OwnAt K H1 ao ds)(p:Pers H1 H)(F:Frm α H1 H)(n:∀b∈ao.ads,b∉ads α):OwnAt K H ao ds:=
 h.mono p λa ha=>by
  obtain⟨o,e,_⟩:=h.mem ha;rw[e];exact F a o e (n a ha)
theorem RelR.keep(c:Rel K α m σ H0)(R:Rel K α m' σ H1)(F:Frm α H1 H)(h:RelR K α H0 H1 r v):RelR K α H0 H r v:=by
 cases r with
 |imm d=>exact Den.mono (R.pers F) h
 |obj k=>exact h
 | «at» k p=>exact h
 |new ds=>
  obtain⟨a,x,e,n,q,g⟩:=h;exact⟨a,x,e,n,F a _ q (c.out n),g.mono (R.pers F)⟩
 |newT t=>
  obtain⟨f,a,e,i,nd,n,g⟩:=h;exact⟨f,a,e,i,nd,n,g.keep (R.pers F) F λb hb=>c.out (n b hb)⟩
theorem RelR.base(R:Rel K α m σ H)(F:Frm α H0 H)(h:RelR K α H H' r v):RelR K α H0 H' r v:=by
 have old:∀a,H a=none->H0 a=none:=λa n=>by
  cases z:H0 a with
  |none=>rfl
  |some o=>
   have:=F a o z (R.out n)
   grind
 cases r with
 |imm d=>exact h
 |obj k=>exact h
 | «at» k p=>exact h
 |new ds=>
  obtain⟨a,x,e,n,q,g⟩:=h;exact⟨a,x,e,old a n,q,g⟩
 |newT t=>
  obtain⟨c,a,e,f,nd,n,g⟩:=h;exact⟨c,a,e,f,nd,λb hb=>old b (n b hb),g⟩
noncomputable def chD:dL->Nat->Option dL
 | .list ts,i=>ts[i]?
 | .dict kvs,i=>match kvs[i]? with
  |some (.none,_)=>none
  |some (_,t)=>some t
  |none=>none
 |_,_=>none
noncomputable def getT:dL->List Nat->Option dL
 |t,[]=>some t
 |t,i::p=>(chD t i).bind λa=>getT a p
noncomputable def yv:dL->Option dL
 | .list _=>none
 | .dict k=>fzOf k
 |d=>some d
noncomputable def i8:List dL->Option (List dL)
 |[]=>some []
 |t::ts=>match yv t,i8 ts with|some d,some ds=>some (d::ds)|_,_=>none
noncomputable def ndL(m:MSt)(k:Nat)(p:List Nat):Option (List dL):=match m.os[k]? with
 |some [t]=>match getT t p with
  |some (.list ts)=>i8 ts
  |_=>none
 |_=>none
theorem ju{K:Kd}{p:List Nat}{t d:dL}(h:TAt K H τ p t v)(e:yv t=some d):Den K H d v:=by
 cases t with
 |list ts=>cases e
 | dict k=>
  have b:fzOf k=some d:=e;rcases h with _|⟨z,_⟩|⟨z,_⟩|⟨c,a,dx,C,x,f,_⟩
  .simp_all
  .simp_all
  .rw[b]at z;cases z
  .exfalso;unfold fzOf at b;unfold excC at f
   split at b<;>contradiction
 |none=>cases e;simpa only[TAt]using h
 |bool _=>cases e;simpa only[TAt]using h
 |int _=>cases e;simpa only[TAt]using h
 |str _=>cases e;simpa only[TAt]using h
 |tuple _=>cases e;simpa only[TAt]using h
theorem l4{K:Kd}{τ:List (List Nat×Addr)}{p:List Nat}:∀{ts ds:List dL}{i:Nat}{xs:List V},TAtL K H τ p i ts xs->i8 ts=some ds->DenAll K H ds xs
 |[],ds,i,xs,h,e=>by
  cases e;subst h;rfl
 | t::ts,ds,i,xs,h,e=>by
  obtain⟨v,vs,rfl,a,g⟩:=h;simp[i8]at e
  cases q1:yv t with
  |none=>rw[q1]at e;cases e
  | some d=>
   cases q2:i8 ts with
   |none=>rw[q1,q2]at e;cases e
   |some b=>
    rw[q1,q2]at e;cases e;exact DenAll.cons (ju a q1) (l4 g q2)
theorem TAtL.get{K:Kd}{τ:List (List Nat×Addr)}{p:List Nat}:∀{ts:List dL}{i j:Nat}{xs:List V}{t:dL},TAtL K H τ p i ts xs->ts[j]?=some t->∃v,xs[j]?=some v/\TAt K H τ (p++[i+j]) t v
 |[],_,_,_,_,_,e=>by simp at e
 |t::ts,i,0,xs,t',h,e=>by
  obtain⟨v,vs,rfl,a,_⟩:=h;simp at e;subst e;exact⟨v,rfl,a⟩
 |t::ts,i,j+1,xs,t',h,e=>by
  obtain⟨v,vs,rfl,_,g⟩:=h;obtain⟨c,d,b⟩:=TAtL.get g ‹_›;exact⟨c,by simpa using d,by rw[show i+(j+1)=i+1+j by omega];exact b⟩
theorem TAtD.get{K:Kd}{τ:List (List Nat×Addr)}{p:List Nat}:∀{ts:List (dL×dL)}{i j:Nat}{xs:List (Int×V×V)}{k t:dL},TAtD K H τ p i ts xs->ts[j]?=some (k,t)->∃u v,xs[j]?=some (cE K.w k,u,v)/\Den K H k u/\TAt K H τ (p++[i+j]) t v
 |[],_,_,_,_,_,_,e=>by simp at e
 |(k,t)::ts,i,0,xs,k',t',h,e=>by
  obtain⟨u,v,vs,rfl,d,a,_⟩:=h;simp at e;obtain⟨rfl,rfl⟩:=e;exact⟨u,v,rfl,d,a⟩
 |(k,t)::ts,i,j+1,xs,k',t',h,e=>by
  obtain⟨u,v,vs,rfl,_,_,g⟩:=h;obtain⟨l,c,n,f,b⟩:=TAtD.get g ‹_›;exact⟨l,c,by simpa using n,f,by rw[show i+(j+1)=i+1+j by omega];exact b⟩
theorem TAtK.get{K:Kd}{τ:List (List Nat×Addr)}{p:List Nat}:∀{ts:List (dL×dL)}{i j:Nat}{xs:List (Key×V)}{k t:dL},TAtK K H τ p i ts xs->ts[j]?=some (k,t)->∃v,TAt K H τ (p++[i+j]) t v
 |[],_,_,_,_,_,_,e=>by simp at e
 |(k,t)::ts,i,0,xs,k',t',h,e=>by
  obtain⟨u,v,vs,rfl,d,b,_⟩:=h;simp at e;obtain⟨rfl,rfl⟩:=e;exact⟨v,b⟩
 |(k,t)::ts,i,j+1,xs,k',t',h,e=>by
  obtain⟨u,v,vs,rfl,_,_,g⟩:=h;obtain⟨a,c⟩:=TAtK.get g ‹_›;exact⟨a,by rw[show i+_=i+1+j by omega];exact c⟩
theorem TAtF.get{K:Kd}{τ:List (List Nat×Addr)}{p:List Nat}:∀{ts:List (dL×dL)}{i j:Nat}{xs:List (Str×V)}{f:Str}{t:dL},TAtF K H τ p i ts xs->ts[j]?=some (.str f,t)->∃v,(f,v)∈xs/\TAt K H τ (p++[i+j]) t v
 |[],_,_,_,_,_,_,e=>by simp at e
 |(k,t)::ts,i,0,xs,f,t',h,e=>by
  simp_all
  obtain⟨v,vs,rfl,d,_⟩:=h;exact⟨v,GE,d⟩
 | (k,t)::ts,i,j+1,xs,f,t',h,e=>by
  have go:∀{y:List (Str×V)},TAtF K H τ p (i+1) ts y->∃v,(f,v)∈y/\TAt K H τ (p++[i+(j+1)]) t' v:=λ{y} g=>by
   obtain⟨b,c,a⟩:=TAtF.get (j:=j) g (by simpa using e);exact⟨b,c,by rw[show i+(j+1)=i+1+j by omega];exact a⟩
  cases k with
  |str l=>
   simp only[TAtF]at h;obtain⟨v,vs,rfl,_,g⟩:=h;obtain⟨b,c,a⟩:=go g;exact⟨b,Ge _ c,a⟩
  |none=>simp only[TAtF]at h;exact go h
  |bool _=>simp only[TAtF]at h
  |int _=>simp only[TAtF]at h
  |list _=>simp only[TAtF]at h
  |tuple _=>simp only[TAtF]at h
  |dict _=>simp only[TAtF]at h
theorem TAtF.key{K:Kd}{p:List Nat}:∀{ts:List (dL×dL)}{i:Nat}{xs:List (Str×V)}{k t:dL},TAtF K H τ p i ts xs->(k,t)∈ts->k≠.none->∃f,k = .str f
 |[],_,_,_,_,_,e,_=>by simp at e
 | (k,t)::ts,i,xs,k',t',h,e,kn=>by
  cases k with
  |str a=>
   obtain⟨v,vs,rfl,_,g⟩:=h;rcases aai.mp e with e|e
   .grind
   .exact g.key e kn
  |none=>
   simp only[TAtF]at h;rcases aai.mp e with e|e
   .grind
   .exact h.key e kn
  |bool _=>simp[TAtF]at h
  |int _=>simp[TAtF]at h
  |list _=>simp only[TAtF]at h
  |tuple _=>simp only[TAtF]at h
  |dict _=>simp[TAtF]at h
theorem TAt.get{K:Kd}{τ:List (List Nat×Addr)}:∀{q p:List Nat}{t t':dL}{v:V},TAt K H τ p t v->getT t q=some t'->∃v',TAt K H τ (p++q) t' v'
 |[],p,t,t',v,h,e=>by cases e;exact⟨v,by rw[aaV];exact h⟩
 | i::q,p,t,t',v,h,e=>by
  simp only[getT]at e
  cases z:chD t i with
  |none=>rw[z]at e;cases e
  | some n=>
   rw[z]at e;have G:getT n q=some t':=e;have step:∃l,TAt K H τ (p++[i]) n l:=by
    cases t with
    |list ts=>
     simp only[TAt]at h;obtain⟨a,A,_,_,_,g⟩:=h;obtain⟨l,_,b⟩:=g.get (j:=i) z;exact⟨l,by rw[ac5]at b;exact b⟩
    | dict o=>
     simp only[chD]at z
     cases zi:o[i]? with
     |none=>rw[zi]at z;cases z
     | some y=>
      obtain⟨k,F⟩:=y;rw[zi]at z;have s:k≠.none:=λq=>by subst q;cases z
      have B:F=n:=by
       split at z<;>simp_all
      subst B;simp only[TAt]at h;rcases h with⟨d,w,_⟩|⟨_,_,a,E,_,_,_,_,g⟩|⟨_,_,a,E,_,_,_,g⟩|⟨c,a,dx,C,A,I,_,_,_,_,g⟩
      .exfalso;unfold fzOf at w
       split at w
       .cases i<;>simp at zi;exact s zi.1.symm
       .cases i<;>simp at zi;exact s zi.1.symm
       .cases w
      .obtain⟨u,l,_,_,b⟩:=g.get (j:=i) zi;exact⟨l,by rw[ac5]at b;exact b⟩
      .obtain⟨l,b⟩:=g.get (j:=i) zi;exact⟨l,by rw[ac5]at b;exact b⟩
      .obtain⟨f,rfl⟩:=g.key (DL zi) s;obtain⟨l,_,b⟩:=g.get (j:=i) zi;exact⟨l,by rw[ac5]at b;exact b⟩
    |none=>cases z
    |bool _=>cases z
    |int _=>cases z
    |str _=>cases z
    |tuple _=>cases z
   obtain⟨l,D⟩:=step;obtain⟨v',x⟩:=TAt.get D G;exact⟨v',by rw[acE]at x;exact x⟩
noncomputable def lsOf(m:MSt):R->Option (List dL)
 | .imm (.list ds)=>some ds
 | .obj k=>m.os[k]?
 | .new ds=>some ds
 | .at k p=>ndL m k p
 |_=>none
mutual
noncomputable def eraT:dL->Option dL
 | .list ts=>(eraL ts).map .list
 | .dict k=>fzOf k
 | .none=>some .none
 | .bool b=>some (.bool b)
 | .int i=>some (.int i)
 | .str x=>some (.str x)
 | .tuple ds=>some (.tuple ds)
noncomputable def eraL:List dL->Option (List dL)
 |[]=>some []
 |t::ts=>match eraT t,eraL ts with|some d,some ds=>some (d::ds)|_,_=>none
end
noncomputable def ndT(m:MSt)(k:Nat)(p:List Nat):Option dL:=match m.os[k]? with
 |some [t]=>getT t p
 |_=>none
noncomputable def asD(m:MSt):R->Option dL
 | .imm d=>some d
 | .obj k=>(m.os[k]?).map .list
 | .new ds=>some (.list ds)
 | .at k p=>match ndT m k p with
  |some (.list ts)=>(eraL ts).map .list
  |_=>none
 | .newT _=>none
theorem RelR.node(R:Rel K α m σ H){k:Nat}{p:List Nat}(h:RelR K α H0 H (.at k p) v){t:dL}(e:ndT m k p=some t):∃τ a v',α[k]?=some (.T τ)/\τ.lookup p=some a/\v = .ref a/\TAt K H τ p t v':=by
 obtain⟨τ,a,b,c,f⟩:=h;unfold ndT at e
 split at e
 .rename_i t0 e0;obtain⟨⟨j,l,i,g,_⟩,_⟩:=R.own k _ _ b e0;cases i;obtain⟨v',d⟩:=g.get e;exact⟨τ,a,v',b,c,f,by simpa using d⟩
 .cases e
theorem RelR.list(R:Rel K α m σ H)(h:RelR K α H0 H r v)(e:lsOf m r=some ds):∃a xs,v = .ref a/\SqL K H a xs/\DenAll K H ds xs:=by
 cases r with
 | imm d=>
  cases d with
  |list l=>
   cases e;have s:Den K H (.list ds) v:=h;obtain⟨a,xs,b,f,g⟩:=s;exact⟨a,xs,b,f.sq,g⟩
  |none=>cases e
  |bool _=>cases e
  |int _=>cases e
  |str _=>cases e
  |tuple _=>cases e
  |dict _=>cases e
 |obj k=>
  obtain⟨a,b,rfl⟩:=h;obtain⟨xs,q,g⟩:=R.own k _ ds b e;exact⟨a,xs,rfl,SqL.of q,g⟩
 |new l=>
  cases e;obtain⟨a,xs,b,n,q,g⟩:=h;exact⟨a,xs,b,SqL.of q,g⟩
 | «at» k p=>
  have c:ndL m k p=some ds:=e;obtain⟨ts,b,j⟩:∃ts,ndT m k p=some (.list ts)/\i8 ts=some ds:=by
   unfold ndL at c;unfold ndT
   split at c
   .split at c
    .rename_i h0 _ ts h1;exact⟨ts,h1,c⟩
    .cases c
   .cases c
  obtain⟨w,a,t,_,o,rfl,g⟩:=RelR.node R h b;simp only[TAt]at g;obtain⟨u,xs,i,_,q,g⟩:=g;rw[o]at i;cases i;exact⟨a,xs,rfl,SqL.of q,l4 g j⟩
 |newT _=>cases e
end
section
variable {X:Cx}{pins:List (Addr×Obj)}{σ:St}{H:Hp}{s:oR}{τ:List (List Nat×Addr)}
mutual
theorem TAt.reads(I:Inv X pins σ H s):∀{t d:dL}{p:List Nat}{v:V}{u:mT},eraT t=some d->d.hasDict=false->TAt X.kd H τ p t v->RelV v u->∃as,Reads s.heap u d as
 | .none,d,p,v,u,e,nd,h,r=>by simp only[eraT]at e;cases e;simp only[TAt]at h;exact h.reads I nd r
 | .bool b,d,p,v,u,e,nd,h,r=>by simp only[eraT]at e;cases e;simp only[TAt]at h;exact h.reads I nd r
 | .int i,d,p,v,u,e,nd,h,r=>by simp only[eraT]at e;cases e;simp only[TAt]at h;exact h.reads I nd r
 | .str x,d,p,v,u,e,nd,h,r=>by simp only[eraT]at e;cases e;simp only[TAt]at h;exact h.reads I nd r
 | .tuple ds,d,p,v,u,e,nd,h,r=>by simp only[eraT]at e;cases e;simp only[TAt]at h;exact h.reads I nd r
 | .dict kvs,d,p,v,u,e,nd,h,r=>by
  simp only[eraT]at e;exact(ju h (show yv (.dict kvs)=some d from e)).reads I nd r
 | .list ts,d,p,v,u,e,nd,h,r=>by
  simp only[eraT]at e
  cases q:eraL ts with
  |none=>rw[q]at e;cases e
  |some ds=>
   rw[q]at e;cases e;simp only[TAt]at h;obtain⟨a,w,_,rfl,f,g⟩:=h;cases r;obtain⟨l,m,⟨o,n,e,c,_,j⟩,_⟩:=I.list (SqL.of f);obtain⟨as,k⟩:=TAtL.reads I q (by simpa only[acX]using nd) g m;exact⟨_,.list e c j (by simpa using k)⟩
theorem TAtL.reads(I:Inv X pins σ H s):∀{ts ds:List dL}{p:List Nat}{i:Nat}{xs:List V}{u:List mT},eraL ts=some ds->acF ds=false->TAtL X.kd H τ p i ts xs->Vals xs u->∃as,adT s.heap u ds as
 |[],ds,p,i,xs,u,e,nd,h,r=>by
  simp only[eraL]at e;cases e;simp only[TAtL]at h;subst h
  cases r;exact⟨_,.nil⟩
 | t::ts,ds,p,i,xs,u,e,nd,h,r=>by
  simp only[eraL]at e
  cases q1:eraT t with
  |none=>rw[q1]at e;cases e
  | some d=>
   cases q2:eraL ts with
   |none=>rw[q1,q2]at e;cases e
   | some b=>
    rw[q1,q2]at e;cases e;simp only[acF,agK]at nd;simp only[TAtL]at h;obtain⟨v,vs,rfl,a,g⟩:=h
    cases r with
    |cons r1 f=>
     obtain⟨a1,c⟩:=TAt.reads I q1 nd.1 a r1;obtain⟨a2,j⟩:=TAtL.reads I q2 nd.2 g f;exact⟨_,.cons c j⟩
end
end
theorem RelR.reads{s:oR}{m:MSt}{u:mT}{d:dL}(I:Inv X pins σ H s)(R:Rel X.kx α m σ' H)(h:RelR X.kd α H0 H r v)(j:RelV v u)(e:asD m r=some d)(nd:d.hasDict=false):∃as,Reads s.heap u d as:=by
 have l:∀{ds:List dL},lsOf m r=some ds->acF ds=false->∃as,Reads s.heap u (.list ds) as:=λ{ds} e nd=>by
  obtain⟨a,x,rfl,f,g⟩:=RelR.list R h e;cases j;obtain⟨B,j,⟨o,n,e,c,_,w⟩,_⟩:=I.list f;obtain⟨as,A⟩:=DenAll.reads I nd g j;exact⟨_,.list e c w (by simpa using A)⟩
 cases r with
 |imm F=>cases e;exact Den.reads I nd h j
 | obj k=>
  cases q:m.os[k]? with
  |none=>simp[asD,q]at e
  |some ds=>
   simp[asD,q]at e;subst e;exact l q ‹_›
 |new ds=>cases e;exact l rfl (by simpa only[acX]using nd)
 | «at» k p=>
  obtain⟨ts,ds,q,i,rfl⟩:∃ts ds,ndT m k p=some (.list ts)/\eraL ts=some ds/\d = .list ds:=by
   unfold asD at e;simp only at e
   split at e
   .rename_i ts q
    cases i:eraL ts with
    |none=>rw[i]at e;cases e
    |some ds=>rw[i]at e;cases e;exact⟨ts,ds,q,i,rfl⟩
   .cases e
  obtain⟨E,a,C,_,z,rfl,g⟩:=RelR.node R h q;have t:=g;simp only[TAt]at t;obtain⟨D,x,b,y,_⟩:=t;rw[z]at b;cases b;subst y;exact TAt.reads I (by simp only[eraT,i,Option.map]) nd g j
 |newT _=>cases e
noncomputable abbrev WE:=MSt->(R->MSt->Prop)->Prop
noncomputable abbrev WT:=MSt->(Bool->MSt->Prop)->Prop
noncomputable abbrev WA:=MSt->(List R->MSt->Prop)->Prop
noncomputable def tM(K:Kx)(w:WE):TE:=λe H Q=>∃a m d,Rel K a m e H/\w m d/\∀r c v b,d r c->c.np=m.np->Rel K a c e b->RelR K a H b r v->Frm a H b->Q v b
noncomputable def tMT(K:Kx)(w:WT):TT:=λf H Q=>∃c m e,Rel K c m f H/\w m e/\∀b a d,e b a->a.np=m.np->Rel K c a f d->Frm c H d->Q b d
inductive RelRs(K:Kd)(α:Al)(Hb H:Hp):List R->List V->Prop where
 |nil:RelRs K α Hb H [] []
 |cons {r:R}{rs:List R}{v:V}{vs:List V}:RelR K α Hb H r v->RelRs K α Hb H rs vs->RelRs K α Hb H (r::rs) (v::vs)
noncomputable def tMA(K:Kx)(w:WA):TA:=λe H Q=>∃a m d,Rel K a m e H/\w m d/\∀rs c vs b,d rs c->c.np=m.np->Rel K a c e b->RelRs K a H b rs vs->Frm a H b->Q vs b
theorem PE.wk{t t':TE}(h:PE X e t)(k:∀a H Q,t' a H Q->t a H Q):PE X e t':=λp s a H Q I q=>h p s a H Q I (k _ _ _ q)
theorem PT.wk{t t':TT}(h:PT X e t)(k:∀a H Q,t' a H Q->t a H Q):PT X e t':=λp s a H Q I q=>h p s a H Q I (k _ _ _ q)
theorem PW.wk{t t':TT}(h:PW X e t)(k:∀a H Q,t' a H Q->t a H Q):PW X e t':=λw p s a H Q I q=>h w p s a H Q I (k _ _ _ q)
theorem PA.wk{e:List Expr}{t t':TA}(h:PA X e t)(k:∀a H Q,t' a H Q->t a H Q):PA X e t':=λb p s a H Q I q=>h b p s a H Q I (k _ _ _ q)
theorem PS.wk{e:Stmt}{t t':TS}(h:PS X e t)(k:∀D a H,t' D a H->t D a H):PS X e t':=λp s a H D I q=>h p s a H D I (k _ _ _ q)
theorem PSs.wk{e:List Stmt}{t t':TS}(h:PSs X e t)(k:∀D a H,t' D a H->t D a H):PSs X e t':=λp s a H D I q=>h p s a H D I (k _ _ _ q)
noncomputable abbrev ME(X:Cx)(e:Expr)(w:WE):Prop:=PE X e (tM X.kx w)
noncomputable abbrev MT(X:Cx)(e:Expr)(w:WT):Prop:=PT X e (tMT X.kx w)
noncomputable abbrev MW(X:Cx)(e:Expr)(w:WT):Prop:=PW X e (tMT X.kx w)
noncomputable abbrev MA(X:Cx)(es:List Expr)(w:WA):Prop:=PA X es (tMA X.kx w)
section
variable {X:Cx}{a b c:Expr}{es:List Expr}{f g l:WE}{pos:Pos}
noncomputable def wVar(i:Nat):WE:=λm K=>∃r,m.vs[i]?=some (some r)/\K r m
noncomputable def wC(d:dL):WE:=λm K=>K (.imm d) m
theorem Mr{t:TE}{w:WE}(h:PE X a t)(k:∀d m e H K Q,Rel X.kx d m e H->w m K->(∀r j v i,K r j->j.np=m.np->Rel X.kx d j e i->RelR X.kx d H i r v->Frm d H i->Q v i)->t e H Q):ME X a w:=
 h.wk<|by rintro e H Q ⟨d,m,K,R,o,n⟩;exact k d m e H K Q R o n
theorem me_c{d:dL}(h:PE X a (tC v))(hd:∀(K:Kd) H,Den K H d v):ME X a (wC d):=
 Mr h λk m n H j Q R i e=>e _ m v H i rfl R (hd _ _) (Frm.refl _ _)
theorem Uu{i j pos}:ME X (.Constant (.int i) j pos) (wC (.int i)):=me_c UJ λ_ _=>by simp[Den]
theorem V5{i j pos}:ME X (.Constant (.bool i) j pos) (wC (.bool i)):=me_c V6 λ_ _=>by simp[Den]
theorem Uz{i j pos}:ME X (.Constant (.str i) j pos) (wC (.str i)):=me_c Pg λ_ _=>by simp[Den]
theorem QI{j pos}:ME X (.Constant .none j pos) (wC .none):=me_c Rg λ_ _=>by simp[Den]
theorem RM(h:PE X a (tVar i)):ME X a (wVar i):=
 Mr h λp m q H K Q R j d=>by
  obtain⟨r,e,k⟩:=j;obtain⟨v,o,n⟩:=R.var i r e;exact⟨v,o,d r m v H k rfl R n.rr (Frm.refl _ _)⟩
theorem mv(i:Nat){pos:Pos}(e:X.N[i]?=some x:=by rfl)(d:Vis X.env.scope x:=by first|exact agL rfl|exact add (agL rfl)|exact add (add rfl))(hd:(x==("__debug__" : Str))=false:=by decide)(h:(x==("__classdict__" : Str))=false:=by decide):ME X (.Name x pos) (wVar i):=RM (Cf e d hd h)
noncomputable abbrev WO:=R->R->MSt->(R->Prop)->Prop
noncomputable def rM(K:Kx)(o:WO):R2:=λx y H Q=>∃d m j n k r1 h i,Rel K d m j H/\RelR K d n H r1 x/\RelR K d k H h y/\o r1 h m i/\∀r v e,i r->Rel K d m j e->RelR K d H e r v->Frm d H e->Q v e
noncomputable def wBin(o:WO)(f g:WE):WE:=λm K=>f m λr1 m1=>g m1 λd m2=>o r1 d m2 λr=>K r m2
theorem vy(h:tM X.kx (wBin o f g) σ H Q):tOp (rM X.kx o) (tM X.kx f) (tM X.kx g) σ H Q:=by
 obtain⟨j,m,K,t,A,q⟩:=h;refine⟨j,m,_,t,A,λr1 m1 x B u n1 d n s=>⟨j,m1,_,d,u,λw m2 y D C n2 R p e=>?_⟩⟩;refine⟨j,m2,σ,H,B,r1,w,_,R,n.keep t d e,p,C,λr v z k i rr F=>?_⟩;exact q r m2 v z k (n2.trans n1) i (rr.base R (s.trans e)) ((s.trans e).trans F)
theorem UB{op:afn}(ho:OpR X (acx op) (rM X.kx o))(ha:ME X a f)(hb:ME X b g):ME X (.BinOp a op b pos) (wBin o f g):=(WX ho ha hb).wk λ_ _ _ h=>vy h
theorem Uk(ho:OpR X (abr op) (rM X.kx o))(ha:ME X a f)(hb:ME X b g)(d:adc op b=false):ME X (.Compare a [op] [b] pos) (wBin o f g):=(LL ho ha hb d).wk λ_ _ _ h=>vy h
noncomputable def onBl(P:Bool->Prop):R->Prop
 | .imm (.bool k)=>P k
 |_=>False
theorem Uh{K:Kx}{P:Bool->Prop}(rr:RelR K α Hb H r v)(h:onBl P r):∃b,r = .imm (.bool b)/\v = .bl b/\P b:=by
 cases r with
 |obj _=>exact h.elim
 |new _=>exact h.elim
 | «at» _ _=>exact h.elim
 |newT _=>exact h.elim
 | imm d=>
  cases d with
  |bool b=>
   have e:=rr;exact⟨b,rfl,e,h⟩
  |none=>exact h.elim
  |int _=>exact h.elim
  |str _=>exact h.elim
  |list _=>exact h.elim
  |tuple _=>exact h.elim
  |dict _=>exact h.elim
noncomputable def wr(w:WE):WT:=λm K=>w m λr d=>onBl (λk=>K k d) r
theorem x9{t:TE}{Q:Bool->Hp->Prop}{w:WE}(k:∀i,tM X.kx w σ H i->t σ H i)(h:tMT X.kx (wr w) σ H Q):PJ t σ H Q:=by
 obtain⟨n,m,K,s,p,e⟩:=h;refine k _ ⟨n,m,_,s,p,λr q v o d n1 R rr F=>?_⟩;obtain⟨b,u,j,d⟩:=Uh rr d;exact⟨b,j,e b q o d n1 R F⟩
theorem Rh(ho:OpR X (abr op) (rM X.kx o))(ha:ME X a f)(hb:ME X b g)(d:adc op b=false):MT X (.Compare a [op] [b] pos) (wr (wBin o f g)):=(KM ho ha hb d).wk λ_ _ _ h=>x9 (λ_=>vy) h
theorem T5(ha:ME X a f)(d:∀w,isTrue a X.env w=(do let v <- w;adv a.pos;adw [v] (truthy v)):=by intro _;rfl):MT X a (wr f):=(TZ ha d).wk λ_ _ _ h=>x9 (λ_ h=>h) h
end
section
variable {X:Cx}{a b c:Expr}{es:List Expr}{j y B:WE}{pos:Pos}
variable {l A:WT}{rest:List Expr}
noncomputable def wAnd(t u:WT):WT:=λm K=>t m λc m1=>if c=true then u m1 K else K false m1
noncomputable def wOr(t u:WT):WT:=λm K=>t m λc m1=>if c=true then K true m1 else u m1 K
noncomputable def wNot(t:WT):WT:=λm K=>t m λc m1=>K (!c) m1
theorem JR(ha:MT X a l):MW X (.BoolOp .And [a] pos) l:=LS ha
theorem Sw(ha:MT X a l):MW X (.BoolOp .Or [a] pos) l:=Qc ha
theorem Tx(ha:MT X a l)(hb:MW X (.BoolOp .And (b::rest) pos) A):MW X (.BoolOp .And (a::b::rest) pos) (wAnd l A):=(RG ha hb).wk<|by
 rintro r H Q ⟨e,m,K,q,i,f⟩;refine⟨e,m,_,q,i,λh m1 n k n1 R F=>?_⟩
 cases h with
 |true=>rw[if_pos rfl];exact⟨e,m1,K,R,k,λb2 m2 o p n2 d g=>f b2 m2 o p (n2.trans n1) d (F.trans g)⟩
 |false=>rw[if_neg aaq];exact f _ m1 n k n1 R F
theorem Vi(ha:MT X a l)(hb:MW X (.BoolOp .Or (b::rest) pos) A):MW X (.BoolOp .Or (a::b::rest) pos) (wOr l A):=(V3 ha hb).wk<|by
 rintro r H Q ⟨e,m,K,q,i,f⟩;refine⟨e,m,_,q,i,λh m1 n k n1 R F=>?_⟩
 cases h with
 |true=>rw[if_pos rfl];exact f _ m1 n k n1 R F
 |false=>rw[if_neg aaq];exact⟨e,m1,K,R,k,λb2 m2 o p n2 d g=>f b2 m2 o p (n2.trans n1) d (F.trans g)⟩
theorem OO(ha:MT X a l):MT X (.UnaryOp .Not a pos) (wNot l):=(Uj ha).wk<|by rintro n H Q ⟨d,m,K,g,h,f⟩;exact
 ⟨d,m,_,g,h,λi m1 e k n1 R F=>f _ m1 e k n1 R F⟩
theorem su(b:Int):Den K H (.int b) (.int b):=rfl
theorem NA(b:Str):Den K H (.str b) (.str b):=rfl
noncomputable def wIfE(t:WT)(j y:WE):WE:=λm K=>t m λc m1=>if c=true then j m1 K else y m1 K
theorem Wj(p:MT X t l)(ha:ME X a j)(hb:ME X b y):ME X (.IfExp t a b pos) (wIfE l j y):=(Df p ha hb).wk<|by
 rintro u H Q ⟨h,m,K,s,q,f⟩;refine⟨h,m,_,s,q,λo m1 w k n1 R F=>?_⟩
 cases o with
 |true=>rw[if_pos rfl];exact⟨h,m1,K,R,k,λr m2 v i n n2 d e g=>f r m2 v i n (n2.trans n1) d (e.base R F) (F.trans g)⟩
 |false=>rw[if_neg aaq];exact⟨h,m1,K,R,k,λr m2 v i n n2 d e g=>f r m2 v i n (n2.trans n1) d (e.base R F) (F.trans g)⟩
noncomputable abbrev WU:=R->MSt->(R->Prop)->Prop
noncomputable def uM(K:Kx)(o:WU):V->Hp->VK->Prop:=λx H Q=>∃d m g h r1 f,Rel K d m g H/\RelR K d h H r1 x/\o r1 m f/\∀r v e,f r->Rel K d m g e->RelR K d H e r v->Frm d H e->Q v e
noncomputable def wUn(o:WU)(j:WE):WE:=λm K=>j m λr1 m1=>o r1 m1 λr=>K r m1
theorem WN{op:UnaryOp}{o:WU}(ho:UnR X (unaryOp op) (uM X.kx o))(ha:ME X a j):ME X (.UnaryOp op a pos) (wUn o j):=(VV ho ha).wk<|by rintro p H Q ⟨g,m,K,s,q,f⟩;exact
 ⟨g,m,_,s,q,λr1 m1 x t i n1 R e h=>⟨g,m1,p,H,r1,_,R,e,i,λr v n k d rr F=>f r m1 v n k n1 d (rr.base R h) (h.trans F)⟩⟩
noncomputable def tFz(t:TE):TE:=λe H Q=>t e H λv d=>Q v d\/∃a x,d a=some (.lst x)/\∀o,Q v (upd d a (.frz o (.lst x)))
theorem Vf{t:TE}(h:PE X a t):PE X a (tFz t):=by
 intro d s i H Q I q;refine thn (h d s i H _ I q) λu s1 ⟨v,k,g,r1,f⟩=>?_;rcases f with f|⟨p,x,e,f⟩
 .exact⟨v,k,g,r1,f⟩
 .obtain⟨o,I2⟩:=g.freeze e;exact⟨v,_,I2,r1,f o⟩
theorem Rel.at{K:Kx}{m:MSt}(R:Rel K α m σ H)(p:Pers H H')(e:∀a∈ads α,H' a=H a)(x:Frm α H H'):Rel K α m σ H':=by
 refine⟨R.nd,R.len,λk g ds f n=>?_,R.vlen,λi r h=>?_,R.npl,R.ebl,R.ebx.trans ⟨rfl,x,λ_ h=>.inl h,λa ha=>?_⟩⟩
 .exact(R.own k g ds f n).mono p λa ha=>e a (abi.mpr ⟨g,DL f,ha⟩)
 .obtain⟨v,ev,rv⟩:=R.var i r h;refine⟨v,ev,?_⟩
  cases r with
  |imm d=>exact Den.mono p rv
  |obj k=>exact rv
  | «at» k p=>exact rv
  |new ds=>exact rv
  |newT t=>exact rv
 .obtain⟨o,q,_⟩:=R.mem ha;exact⟨o,(e a ha).trans q⟩
theorem Rel.at'{K:Kx}{m:MSt}(R:Rel K α m σ H)(p:Pers H H')(e:∀a∈ads α,H' a=H a)(x:Ext K.eb.np K.eb.be K.eb.H α H'):Rel K α m σ H':=by
 refine⟨R.nd,R.len,λk g ds f n=>?_,R.vlen,λi r h=>?_,R.npl,R.ebl,x⟩
 .exact(R.own k g ds f n).mono p λa ha=>e a (abi.mpr ⟨g,DL f,ha⟩)
 .obtain⟨v,ev,rv⟩:=R.var i r h;refine⟨v,ev,?_⟩
  cases r with
  |imm d=>exact Den.mono p rv
  |obj k=>exact rv
  | «at» k p=>exact rv
  |new ds=>exact rv
  |newT t=>exact rv
theorem bf{a:Addr}{o:HO}(h:H a=none\/∃u,H a=some u/\Mu u=true):Pers H (upd H a o) where
 tups:=λb x e=>by
  rw[ag];exact e;rintro rfl;rcases h with h|⟨d,h,z⟩<;>(rw[e]at h;cases h)
  cases z
 frzs:=λb o u e=>by
  rw[ag];exact e;rintro rfl;rcases h with h|⟨d,h,z⟩<;>(rw[e]at h;cases h)
  cases z
theorem vg{a:Addr}{o:HO}(h:H a=some (.lst xs)):Pers H (upd H a o):=bf (.inr ⟨_,h,rfl⟩)
theorem cf{a:Addr}{o:HO}(h:H a=none):Frm α H (upd H a o):=λb ob e _=>by
 rw[ag (aP e h)];exact e
theorem Rel.lay{K:Kx}{m:MSt}{a:Addr}{o:HO}(R:Rel K α m σ H)(h:H a=none):Rel K α m σ (upd H a o):=
 R.at (bf (.inl h)) (λb hb=>ag λe=>R.out h (e▸hb)) (cf h)
noncomputable def wImm(w:WE):WE:=λm K=>w m λr e=>match r with| .imm d=>K (.imm d) e | .new ds=>K (.imm (.list ds)) e|_=>False
theorem Qf(ha:ME X a j):ME X a (wImm j):=(Vf ha).wk<|by
 rintro I H Q ⟨i,m,K,t,G,f⟩;refine⟨i,m,_,t,G,λr m1 v s k n1 R rr F=>?_⟩
 cases r with
 |imm d=>exact .inl (f _ m1 v s k n1 R rr F)
 |obj _=>exact k.elim
 | «at» _ _=>exact k.elim
 |newT _=>exact k.elim
 | new ds=>
  obtain⟨p,x,D,n,q,g⟩:=rr;refine .inr ⟨p,x,q,λo=>?_⟩;have z:Pers s (upd s p (.frz o (.lst x))):=vg q;have fr:Frm i H (upd s p (.frz o (.lst x))):=λb ob e u=>by
   rw[ag (aP e n)];exact F b ob e u
  have old:Ext X.kx.eb.np i H i _:=⟨rfl,fr,λ_ h=>.inl h,λb hb=>by
   have w:b≠p:=λe=>t.out n (e▸hb);rw[ag w];obtain⟨C,E,_⟩:=R.mem hb;exact⟨C,E⟩⟩
  refine f _ m1 v _ k n1 (R.at' z (λb hb=>ag λe=>t.out n (e▸hb)) (t.ebx.trans old)) (?_) λb ob e u=>?_
  .exact⟨p,x,D,.inl ⟨o,ai⟩,g.mono z⟩
  .rw[ag (aP e n)];exact F b ob e u
noncomputable def wNil:WA:=λm K=>K [] m
noncomputable def JM(w:WE)(f:WA):WA:=λm K=>w m λr m1=>f m1 λrs m2=>K (r::rs) m2
theorem RelRs.base{K:Kx}{m:MSt}(d:Rel K α m σ H)(F:Frm α H0 H):∀{rs:List R}{vs:List V},RelRs K α H H' rs vs->RelRs K α H0 H' rs vs
 |_,_,.nil=>.nil
 |_,_,.cons h t=>.cons (h.base d F) (t.base d F)
variable {f:WA}
theorem RB:MA X [] wNil:=(OL).wk<|by rintro g H Q ⟨e,m,K,R,h,d⟩;exact d _ m _ H h rfl R .nil (Frm.refl _ _)
theorem Og(ha:ME X a j)(hr:MA X es f)(hs:aad (a::es) X.env=(false,eval a X.env)::aad es X.env:=by first|exact aE rfl|rfl):MA X (a::es) (JM j f):=(J4 ha hr hs).wk<|by rintro s H Q ⟨i,m,K,n,o,e⟩;exact
 ⟨i,m,_,n,o,λr m1 v t k n1 R rr h=>⟨i,m1,_,R,k,λrs m2 vs p q n2 g d F=>e _ m2 _ p q (n2.trans n1) g (.cons (rr.keep n R F) (d.base R h)) (h.trans F)⟩⟩
noncomputable def fv:List R->Option (List dL)
 |[]=>some []
 | .imm d::rs=>(fv rs).map (d :: ·)
 |_::_=>none
theorem RelRs.imm{K:Kx}:∀{rs:List R}{vs:List V}{ds:List dL},RelRs K α H0 H rs vs->fv rs=some ds->DenAll K H ds vs
 |_,_,_,.nil,e=>by cases e;exact DenAll.nil
 |_,_,ds,.cons (r:=.imm d) (rs:=rs) h t,e=>by
  simp only[fv]at e
  cases q:fv rs with
  |none=>rw[q]at e;cases e
  |some g=>rw[q]at e;cases e;exact DenAll.cons h (t.imm q)
 |_,_,_,.cons (r:=.obj _) h t,e=>by cases e
 |_,_,_,.cons (r:=.new _) h t,e=>by cases e
 |_,_,_,.cons (r:=.at _ _) h t,e=>by cases e
 |_,_,_,.cons (r:=.newT _) h t,e=>by cases e
noncomputable def yp(P:List dL->Prop):Option (List dL)->Prop
 |some ds=>ds.length≤aag/\P ds
 |none=>False
noncomputable def wTup(f:WA):WE:=λm K=>f m λrs d=>yp (λds=>K (.imm (.tuple ds)) d) (fv rs)
noncomputable def wLst(f:WA):WE:=λm K=>f m λrs d=>yp (λds=>K (.new ds) d) (fv rs)
theorem Tf{x1}(h:MA X es f):ME X (.Tuple es x1 pos) (wTup f):=(Se h).wk<|by
 rintro r H Q ⟨i,m,K,q,n,d⟩;refine⟨i,m,_,q,n,λrs m1 vs s k n1 R rr F=>?_⟩
 cases e:fv rs with
 |none=>rw[e]at k;exact k.elim
 |some ds=>
  rw[e]at k;obtain⟨o,k⟩:=k;have g:=rr.imm e;refine⟨by rw[<-g.length];exact o,λp hp=>d _ m1 _ _ k n1 (R.lay hp) (?_) (F.trans (cf hp))⟩;exact⟨p,vs,rfl,SqT.of ai,g.mono (bf (.inl hp))⟩
theorem Qm(h:MA X es f):ME X (.List es pos) (wLst f):=(T9 h).wk<|by
 rintro r H Q ⟨i,m,K,q,n,d⟩;refine⟨i,m,_,q,n,λrs m1 vs s k n1 R rr F=>?_⟩
 cases e:fv rs with
 |none=>rw[e]at k;exact k.elim
 |some ds=>
  rw[e]at k;obtain⟨o,k⟩:=k;have g:=rr.imm e;refine⟨by rw[<-g.length];exact o,λp hp=>d _ m1 _ _ k n1 (R.lay hp) ((RelR.base R F (⟨p,vs,rfl,hp,ai,g.mono (bf (.inl hp))⟩))) (F.trans (cf hp))⟩
noncomputable abbrev WC:=List R->MSt->(R->Prop)->Prop
noncomputable def cM(K:Kx)(o:WC):List V->Hp->VK->Prop:=λx H Q=>∃d m h i rs g,Rel K d m h H/\RelRs K d i H rs x/\o rs m g/\∀r v e,g r->Rel K d m h e->RelR K d H e r v->Frm d H e->Q v e
noncomputable def wCB(o:WC)(f:WA):WE:=λm K=>f m λrs m1=>o rs m1 λr=>K r m1
theorem Ul{o:WC}(h:tM X.kx (wCB o f) σ H Q):tCB (cM X.kx o) (tMA X.kx f) σ H Q:=by
 obtain⟨i,m,K,s,q,g⟩:=h;exact⟨i,m,_,s,q,λrs m1 vs t k n1 R rr n=>⟨i,m1,σ,H,rs,_,R,rr,k,λr v p k e d F=>g r m1 v p k n1 e (d.base R n) (n.trans F)⟩⟩
theorem Gc{id:String}{o:WC}(q:dn X (.builtin id) (cM X.kx o))(i:Gl X x)(k:X.mg x=none)(g:abe x=some (.builtin id))(ha:MA X (a::es) f)(m:x ≠ "__name__":=by decide)(d:(x==("__debug__" : Str))=false:=by decide)
  (n:aad (a::es) X.env=(false,eval a X.env)::aad es X.env:=by first|exact aE rfl|rfl) (e:(ab1 pos (aad es X.env)).any (·.1)=false:=by rfl):ME X (.Call (.Name x p) (a::es) [] pos) (wCB o f):=(Iq q i k g ha m d n e).wk λ_ _ _ h=>Ul h
theorem BO{T:String}{o:WC}(q:dn X (.type T) (cM X.kx o))(i:Gl X x)(k:X.mg x=none)(g:abe x=some (.type T))(ha:MA X (a::es) f)(m:x ≠ "__name__":=by decide)(d:(x==("__debug__" : Str))=false:=by decide)
  (n:aad (a::es) X.env=(false,eval a X.env)::aad es X.env:=by first|exact aE rfl|rfl) (e:(ab1 pos (aad es X.env)).any (·.1)=false:=by rfl):ME X (.Call (.Name x p) (a::es) [] pos) (wCB o f):=(zj q i k g ha m d n e).wk λ_ _ _ h=>Ul h
end
inductive Ag where
 |imm (d:dL)|own (ds:List dL)|tr (t:dL)
noncomputable abbrev SpM:=List Ag->(R->List (List dL)->Prop)->Prop
inductive RelAs(K:Kd)(H:Hp):List Ag->List V->Al->Prop where
 |nil:RelAs K H [] [] []
 |imm {d:dL}{v:V}{as:List Ag}{vs:List V}{β:Al}:Den K H d v->RelAs K H as vs β->RelAs K H (.imm d::as) (v::vs) β
 |own {ds:List dL}{a:Addr}{as:List Ag}{vs:List V}{β:Al}:OwnAt K H (.L a) ds->RelAs K H as vs β->RelAs K H (.own ds::as) (.ref a::vs) (.L a::β)
 |tr {t:dL}{a:Addr}{τ:List (List Nat×Addr)}{as:List Ag}{vs:List V}{β:Al}:OwnAt K H (.T τ) [t]->τ.lookup []=some a->RelAs K H as vs β->RelAs K H (.tr t::as) (.ref a::vs) (.T τ::β)
theorem RelAs.length:∀{as:List Ag}{vs:List V}{β:Al},RelAs K H as vs β->as.length=vs.length
 |_,_,_,.nil=>rfl
 |_,_,_,.imm _ t=>by simp[t.length]
 |_,_,_,.own _ t=>by simp[t.length]
 |_,_,_,.tr _ _ t=>by simp[t.length]
structure rl(K:Kd)(H:Hp)(β:Al)(outs:List (List dL)):Prop where
 len:outs.length=β.length
 at_:∀(j:Nat) (ao:Ao) (ds:List dL),β[j]?=some ao->outs[j]?=some ds->OwnAt K H ao ds
noncomputable def spOf(K:Kd)(n:Nat)(sp:SpM):Sp:=λvs H Q _=>∃c a d,c.length=n/\(ads a).Nodup/\RelAs K H c vs a/\sp c d/\∀r o v b,d r o->rl K b a o->RelR K a H b r v->Frm a H b->Q v b
theorem spOf.len{E:XK}(h:spOf K n sp vs H Q E):vs.length=n:=by
 obtain⟨d,c,b,a,_,r,_⟩:=h;rw[<-r.length];exact a
noncomputable def e8(m:MSt):List R->Option (List Ag×List Nat)
 |[]=>some ([],[])
 | .imm d::rs=>match e8 m rs with|some (as,ks)=>some (.imm d::as,ks)|none=>none
 | .obj k::rs=>match m.os[k]?,e8 m rs with|some ds,some (as,ks)=>some (.own ds::as,k::ks)|_,_=>none
 | .at k []::rs=>match m.os[k]?,e8 m rs with|some [t],some (as,ks)=>some (.tr t::as,k::ks)|_,_=>none
 |_::_=>none
noncomputable def cb:List (List dL)->List Nat->List (List dL)->List (List dL)
 |os,k::ks,o::outs=>cb (os.set k o) ks outs
 |os,_,_=>os
noncomputable def mapR(ks:List Nat):R->R
 | .imm d=>.imm d
 | .new ds=>.new ds
 | .obj j=>.obj (ks.getD j 0)
 | .at j p=>.at (ks.getD j 0) p
 | .newT t=>.newT t
noncomputable def yE(sp:SpM)(w:WA):WE:=λm K=>w m λrs m1=>match e8 m1 rs with
 |some (as,ks)=>ks.Nodup/\sp as λr o=>K (mapR ks r) {m1 with os:=cb m1.os ks o}
 |none=>False
theorem iW:∀(ks:List Nat) (os a:List (List dL)),(cb os ks a).length=os.length
 |[],_,_=>by simp[cb]
 |_::_,_,[]=>by simp[cb]
 |k::ks,os,o::a=>by simp[cb,iW ks]
theorem iI:∀(ks:List Nat) (os a:List (List dL)) (k:Nat),k∉ks->(cb os ks a)[k]?=os[k]?
 |[],_,_,_,_=>by simp[cb]
 |_::_,_,[],_,_=>by simp[cb]
 |k'::ks,os,o::a,k,h=>by
  rw[aai]at h;rw[not_or]at h;show(cb _ ks a)[k]?=_;rw[iI ks _ _ k h.2,aaT (aa5 h.1)]
theorem pj:∀(ks:List Nat) (os a:List (List dL)) (j k:Nat) (ds:List dL),ks.Nodup->ks[j]?=some k->a[j]?=some ds->k<os.length->(cb os ks a)[k]?=some ds
 |[],_,_,_,_,_,_,h,_,_=>by simp at h
 |_::_,_,[],_,_,_,_,_,h,_=>by simp at h
 |k'::ks,os,o::a,0,k,ds,nd,h1,h2,hk=>by
  simp at h1 h2;subst h1;subst h2;show(cb _ ks a)[k']?=_;rw[iI ks _ _ k' (aaQ.mp nd).1,aa2 hk]
 |k'::ks,os,o::a,j+1,k,ds,nd,h1,h2,hk=>by
  exact pj ks _ a j k ds (aaQ.mp nd).2 ‹_› ‹_› (by simpa)
theorem g9(c:Al):(ads c).Nodup↔(∀ao∈c,ao.ads.Nodup)/\c.Pairwise λx y=>∀a∈x.ads,∀b∈y.ads,a≠b:=List.pairwise_flatMap
theorem gw(nd:(ads α).Nodup){x y:Ao}(k:α[i]?=some x)(f:α[j]?=some y)(h:i≠j)(b:a∈x.ads)(e:a∈y.ads):False:=by
 have d:=((g9 α).mp nd).2;obtain⟨p,g⟩:=Io.mp k;obtain⟨c,q⟩:=Io.mp f;subst g q;rcases ad7 h with l|l
 .exact abM.mp d i j p c l a b a e rfl
 .exact abM.mp d j i c p l a e a b rfl
theorem ip{x:Ao}(b:α[i]?=some x)(h:a∈x.ads):a∈ads α:=abi.mpr ⟨x,DL b,h⟩
theorem gF(h:a∈ads α):∃(i:Nat) (x:Ao),α[i]?=some x/\a∈x.ads:=by
 obtain⟨b,f,c⟩:=abi.mp h;obtain⟨k,d,e⟩:=abv.mp f;exact⟨k,b,by rw[iO d,e],c⟩
section
variable {K:Kx}{c:Al}{m:MSt}{g:St}{H l f:Hp}
theorem fX(n:Rel K c m g H):∀{rs:List R}{vs:List V}{as:List Ag}{ks:List Nat},RelRs K c l H rs vs->e8 m rs=some (as,ks)->∃β,RelAs K H as vs β/\abO (λ(k:Nat) (ao:Ao)=>c[k]?=some ao) ks β
 |_,_,_,_,.nil,e=>by cases e;exact⟨[],.nil,.nil⟩
 | _,_,as,ks,.cons (r:=.imm d) (rs:=rs) h t,e=>by
  simp only[e8]at e
  cases q:e8 m rs with
  |none=>rw[q]at e;cases e
  |some p=>
   rw[q]at e;cases e;obtain⟨β,b,j⟩:=fX n t q;exact⟨β,.imm h b,j⟩
 | _,_,as,ks,.cons (r:=.obj k) (rs:=rs) h t,e=>by
  simp only[e8]at e
  cases q1:m.os[k]? with
  |none=>rw[q1]at e;cases e
  | some ds=>
   cases q:e8 m rs with
   |none=>rw[q1,q]at e;cases e
   |some p=>
    obtain⟨s,o⟩:=p;rw[q1,q]at e;cases e;obtain⟨β,b,j⟩:=fX n t q;obtain⟨a,i,rfl⟩:=h;exact⟨.L a::β,.own (n.own k _ ds i q1) b,.cons i j⟩
 |_,_,as,ks,.cons (r:=.at k []) (rs:=rs) h t,e=>by
  simp only[e8]at e
  split at e
  .rename_i t' s o q1 q;cases e;obtain⟨β,b,j⟩:=fX n t q;obtain⟨u,a,i,v,rfl⟩:=h;exact⟨.T u::β,.tr (n.own k _ _ i q1) v b,.cons i j⟩
  .cases e
 |_,_,_,_,.cons (r:=.at _ (_::_)) h t,e=>by cases e
 |_,_,_,_,.cons (r:=.new _) h t,e=>by cases e
 |_,_,_,_,.cons (r:=.newT _) h t,e=>by cases e
theorem dI(nd:(ads c).Nodup)(h:ks.Nodup)(p:abO (λ(k:Nat) (ao:Ao)=>c[k]?=some ao) ks β):(ads β).Nodup:=by
 have one:=((g9 c).mp nd).1
 induction p with
 |nil=>exact acy
 | @cons k ao ks β e t ih=>
  have d:=ih (aaQ.mp h).2;rw[g9]at d⊢;refine⟨λx n=>?_,afr.mpr ⟨λy q a ha b hb z=>?_,d.2⟩⟩
  .rcases aai.mp n with rfl|n
   .exact one _ (DL e)
   .exact d.1 x n
  .subst z;obtain⟨j,u,v⟩:=abv.mp q;obtain⟨w,s,o⟩:=Paired.get2 t (i:=j) (b:=y) (by simp_all);have r:=Classical.byContradiction λne=>gw nd e o ne ha hb;exact(aaQ.mp h).1 (r▸DL s)
theorem uI(R:Rel K c m g H){s:List (List dL)}(nd:ks.Nodup)(p:abO (λ(k:Nat) (ao:Ao)=>c[k]?=some ao) ks β)(O:rl K f β s)(F:Frm β H f) :
  Rel K c {m with os:=cb m.os ks s} g f/\Frm c H f:=by
 have sub:∀a∈ads β,∃k ao,k∈ks/\c[k]?=some ao/\a∈ao.ads:=λa ha=>by
  obtain⟨j,ao,I,w⟩:=gF ha;obtain⟨U,x,B⟩:=Paired.get2 p I;exact⟨U,ao,DL x,B,w⟩
 have A:Frm c H f:=λb o e n=>F b o e λz=>by
  obtain⟨k,ao,_,B,w⟩:=sub b z;exact n (ip B w)
 have M:=R.pers A;have y:∀(k:Nat) (ao:Ao) (ds:List dL),c[k]?=some ao->(cb m.os ks s)[k]?=some ds->OwnAt K f ao ds:=λk ao ds x u=>by
  have D:k<m.os.length:=by rw[<-R.len];exact(Io.mp x).1
  by_cases w:k∈ks
  .obtain⟨j,hj,I⟩:=abv.mp w;have J:ks[j]?=some k:=by rw[iO hj,I]
   obtain⟨V,N,P⟩:=Paired.get' p J;rw[x]at P;cases P;have C:j<s.length:=by rw[O.len];exact(Io.mp N).1
   have Q:s[j]?=some s[j]:=iO C;rw[pj ks m.os s j k _ nd J Q D]at u;cases u;exact O.at_ j _ _ N Q
  .rw[iI ks _ _ k w]at u;have q:=R.own k ao ds x u;refine q.mono M λa ha=>?_;obtain⟨o,L,_⟩:=q.mem ha;rw[L];refine F a o L λz=>?_;obtain⟨W,T,E,S,G⟩:=sub a z;exact gw R.nd x S (λz=>w (z▸E)) ha G
 refine⟨⟨R.nd,by show c.length=(cb m.os ks s).length;rw[iW];exact R.len,y,R.vlen,λi r h=>?_,R.npl,R.ebl,R.ebx.trans ⟨rfl,A,λ_ h=>.inl h,λa ha=>?_⟩⟩,A⟩
 .obtain⟨v,ev,rv⟩:=R.var i r h;refine⟨v,ev,?_⟩
  cases r with
  |imm d=>exact Den.mono M rv
  |obj k=>exact rv
  | «at» k p=>exact rv
  |new ds=>exact rv
  |newT t=>exact rv
 .obtain⟨k,ao,x,w⟩:=gF ha;have D:k<(cb m.os ks s).length:=by rw[iW,<-R.len];exact(Io.mp x).1
  obtain⟨o,q,_⟩:=(y k ao _ x (iO D)).mem w;exact⟨o,q⟩
theorem vD{K:Kd}(p:abO (λ(k:Nat) (ao:Ao)=>c[k]?=some ao) ks β)(h:RelR K β H f r v):RelR K c H f (mapR ks r) v:=by
 have get:∀{j:Nat}{ao:Ao},β[j]?=some ao->c[ks.getD j 0]?=some ao:=λ{j ao} b=>by
  obtain⟨k,o,z⟩:=Paired.get2 p b
  simp_all
 cases r with
 |imm d=>exact h
 |new ds=>exact h
 |newT t=>exact h
 |obj j=>
  obtain⟨a,b,e⟩:=h;exact⟨a,get b,e⟩
 | «at» j q=>
  obtain⟨i,a,b,n,e⟩:=h;exact⟨i,a,get b,n,e⟩
end
section
variable {X:Cx}{a:Expr}{es:List Expr}{w:WA}{pos p:Pos}{k n:Nat}{f:Addr}{fd:ab6}{ps:List Str}{sp:SpM}{x:Str}{CX:CXT}
theorem KU{E:XK}(h:tM X.kx (yE sp w) σ H Q)(y:∀as K,sp as K->as.length=n):OH (spOf X.kd n sp) [] E (tMA X.kx w) σ H Q:=by
 obtain⟨z,m,K,D,C,i⟩:=h;refine⟨z,m,_,D,C,λrs m1 vs I c n1 R rr s=>?_⟩
 cases e:e8 m1 rs with
 |none=>rw[e]at c;exact c.elim
 |some q=>
  obtain⟨as,G⟩:=q;rw[e]at c;obtain⟨nd,b⟩:=c;obtain⟨B,t,l⟩:=fX R rr e;refine⟨as,B,_,y _ _ b,dI R.nd nd l,by rw[aaV];exact t,b,λr o v A j O g F=>?_⟩;obtain⟨d,u⟩:=uI R nd l O F;exact i _ _ v A j n1 d ((vD l g).base R s) (s.trans u)
theorem Ku{E:XK}(F:FnOk X.prog X.w X.K X.mg X.base CX k f fd ps (spOf X.kd n sp))(hr:Room k X.A)(d:Gl X x)(e:X.mg x=some (.ref f))(l:abV X.K (.ref f)=true)(hb:Binds X.K fd ps [])(i:v9 CX X E)(g:∀as K,sp as K->as.length=n)
  (ha:MA X (a::es) w) (b:(x==("__debug__" : Str))=false:=by decide) (j:aad (a::es) X.env=(false,eval a X.env)::aad es X.env:=by first|exact aE rfl|rfl) (c:(ab1 pos (aad es X.env)).any (·.1)=false:=by rfl) :
  ME X (.Call (.Name x p) (a::es) [] pos) (yE sp w):=(JY F hr d e l hb .nil i ha b j c).wk λ_ _ _ h=>KU h g
end
structure cV where
 nx:MSt->Prop
 rt:R->MSt->Prop
 bk:MSt->Prop:=λ_=>False
 ct:MSt->Prop:=λ_=>False
noncomputable abbrev WS:=cV->MSt->Prop
theorem RelR.ext{np:Nat}{c:Al}(x:Ext np α H α1 H1)(h:RelR K c H1 H2 r v):RelR K c H H2 r v:=by
 cases r with
 |imm d=>exact h
 |obj k=>exact h
 | «at» k p=>exact h
 |new ds=>
  obtain⟨a,f,e,n,q,g⟩:=h;exact⟨a,f,e,x.nil n,q,g⟩
 |newT t=>
  obtain⟨i,a,e,j,nd,n,g⟩:=h;exact⟨i,a,e,j,nd,λb hb=>x.nil (n b hb),g⟩
structure EndsOk(K:Kx)(np:Nat)(α:Al)(H:Hp)(De:cV)(D:Ends):Prop where
 nx:∀α' m' σ' H',De.nx m'->m'.np=np->Rel K α' m' σ' H'->Ext np α H α' H'->D.nx σ' H'
 rt:∀r α' m' σ' v H',De.rt r m'->m'.np=np->Rel K α' m' σ' H'->RelR K α' H H' r v->Ext np α H α' H'->D.rt v H'
 bk:∀α' m' σ' H',De.bk m'->m'.np=np->Rel K α' m' σ' H'->Ext np α H α' H'->D.bk σ' H'
 ct:∀α' m' σ' H',De.ct m'->m'.np=np->Rel K α' m' σ' H'->Ext np α H α' H'->D.ct σ' H'
theorem EndsOk.ext{K:Kx}{np:Nat}(h:EndsOk K np α H De D)(x:Ext np α H α1 H1):EndsOk K np α1 H1 De D where
 nx:=λb m a c k n R y=>h.nx b m a c k n R (x.trans y)
 rt:=λr b m a v c k n R rr y=>h.rt r b m a v c k n R (rr.ext x) (x.trans y)
 bk:=λb m a c k n R y=>h.bk b m a c k n R (x.trans y)
 ct:=λb m a c k n R y=>h.ct b m a c k n R (x.trans y)
noncomputable def tMS(K:Kx)(w:WS):TS:=λD c H=>∃b m a,Rel K b m c H/\w a m/\EndsOk K m.np b H a D
noncomputable abbrev MS(X:Cx)(st:Stmt)(w:WS):Prop:=PS X st (tMS X.kx w)
noncomputable abbrev MSs(X:Cx)(st:List Stmt)(w:WS):Prop:=PSs X st (tMS X.kx w)
section
variable {X:Cx}{a b c e:Expr}{es:List Expr}{d f g i:WE}{pos:Pos}{st:Stmt}{rest:List Stmt}{w u:WS}
noncomputable def MR:WS:=λD m=>D.nx m
noncomputable def wSeq(w u:WS):WS:=λD m=>w {D with nx:=λh=>u D h } m
theorem Ml:MSs X [] MR:=(K7).wk<|by rintro D l H ⟨j,m,n,R,h,k⟩;exact k.nx j m l H h rfl R (.of R (Frm.refl _ _))
theorem C8(j:MS X st w)(o:MSs X rest u):MSs X (st::rest) (wSeq w u):=(Dm j o).wk<|by rintro D z H ⟨l,m,p,v,s,k⟩;exact
 ⟨l,m,_,v,s,⟨λh t r x q n R y=>⟨h,t,p,R,q,by rw[n];exact k.ext y⟩,k.rt,k.bk,k.ct⟩⟩
theorem J7(j:MS X st w):MSs X [st] w:=(Br j).wk λD k H h=>h
end
section
variable {X:Cx}{a b c e:Expr}{es:List Expr}{wa wb wc we:WE}{ws:WA}{wt:WT}{pos:Pos}{st:Stmt}{rest body body2:List Stmt}{w u:WS}
noncomputable def wRet(we:WE):WS:=λD m=>we m λr d=>D.rt r d
theorem Tw(h:ME X e we):MS X (.Return (some e) pos) (wRet we):=(Ux h).wk<|by rintro D g H ⟨d,m,o,l,i,k⟩;exact
 ⟨d,m,_,l,i,λr j v f q n R rr F=>k.rt r d j g v f q n R rr (.of R F)⟩
noncomputable def Mh(we:WE):WS:=λD m=>we m λ_ d=>D.nx d
theorem NG(h:ME X e we)(hs:abH e none pos.line X.env=pure false:=by rfl):MS X (.Expr e pos) (Mh we):=(JH h hs).wk<|by rintro D g H ⟨d,m,o,l,i,k⟩;exact
 ⟨d,m,_,l,i,λr j v f q n R rr F=>k.nx d j g f q n R (.of R F)⟩
noncomputable def wIfS(t:WT)(w u:WS):WS:=λD m=>t m λc d=>if c=true then w D d else u D d
theorem UR(p:MT X t wt)(j:MSs X body w)(l:MSs X body2 u):MS X (.If t body body2 pos) (wIfS wt w u):=(UT p j l).wk<|by
 rintro D v H ⟨d,m,f,s,r,k⟩;refine⟨d,m,_,s,r,λi g o q n R F=>?_⟩;have h:EndsOk X.kx g.np d o f D:=by rw[n];exact k.ext (.of R F)
 cases i with
 |true=>rw[if_pos rfl]at q;exact iteT ⟨d,g,f,R,q,h⟩
 |false=>rw[if_neg aaq]at q;exact iteF ⟨d,g,f,R,q,h⟩
noncomputable def IJ:WS:=λ_ _=>False
theorem Fw:MS X st IJ:=(H9).wk<|by rintro D g H ⟨f,m,d,R,h,k⟩;exact h
noncomputable def MSt.setV(m:MSt)(i:Nat)(r:R):MSt:={m with vs:=m.vs.set i (some r)}
noncomputable def RenR(f:List Nat)(o:Option (Option R)):R->Prop
 | .imm d=>o=some (some (.imm d))
 | .obj k=>∃j,f[k]?=some j/\o=some (some (.obj j))
 | .at k p=>∃j,f[k]?=some j/\o=some (some (.at j p))
 | .new _=>False
 | .newT _=>False
structure Ren(ρ:List Nat)(m m2:MSt):Prop where
 nd:ρ.Nodup
 lt:∀k∈ρ,k<m.os.length
 pre:ρ.take m.np=aaH m.np
 npl:m.np≤ρ.length
 os:m2.os=ρ.map λk=>m.os.getD k []
 np:m2.np=m.np
 vl:m2.vs.length=m.vs.length
 vs:∀(j:Nat) (r:R),m2.vs[j]?=some (some r)->RenR ρ m.vs[j]? r
noncomputable def upR(D:MSt->Prop)(m:MSt):Prop:=D m\/∃d m2,Ren d m m2/\D m2
noncomputable def oN(i:Nat)(D:MSt->Prop)(m:MSt):R->Prop
 | .imm d=>upR D (m.setV i (.imm d))
 | .obj k=>upR D (m.setV i (.obj k))
 | .at k p=>upR D (m.setV i (.at k p))
 | .new ds=>upR D {vs:=m.vs.set i (some (.obj m.os.length)),os:=m.os++[ds],np:=m.np} \/
   ∃k,m.vs[i]?=some (some (.obj k))/\m.np≤k/\(∀j:Nat,j≠i->m.vs[j]?≠some (some (.obj k)))/\D {m with os:=m.os.set k ds}
 | .newT t=>upR D {vs:=m.vs.set i (some (.at m.os.length [])),os:=m.os++[[t]],np:=m.np}
theorem gq{d:Al}{n:Nat}(g:d.length=n):∀{f:List Nat},(∀k∈f,k<n)->abO (λ(k:Nat) (ao:Ao)=>d[k]?=some ao) f (f.map λk=>d.getD k (.L 0))
 |[],_=>.nil
 | k::f,h=>.cons (by
   have l:k<d.length:=by rw[g];exact h k GE
   show d[k]?=some (d.getD k _);rw[aar,iO l];rfl) (gq g λj i=>h j (Ge _ i))
theorem M9{K:Kx}{m m2:MSt}{g:List Nat}(R:Rel K α m σ H)(N:Ren g m m2):∃s,Rel K s m2 σ H/\Ext m.np α H s H:=by
 have F:=gq R.len N.lt;have get:∀(k:Nat) (f:Ao),(g.map λk=>α.getD k (.L 0))[k]?=some f->∃j:Nat,g[k]?=some j/\α[j]?=some f:=λk f z=>by
  obtain⟨j,L,M⟩:=Paired.get2 F z;exact⟨j,L,M⟩
 have i:∀(k j:Nat) (f:Ao),g[k]?=some j->α[j]?=some f->(g.map λk=>α.getD k (.L 0))[k]?=some f:=λk j f D A=>by
  obtain⟨S,O,G⟩:=Paired.get' F D;rw[A]at G;cases G;exact O
 have t:(g.map λk=>α.getD k (.L 0)).take m.np=α.take m.np:=by
  apply acG;intro l;rw[aaR,aaR]
  by_cases n:l<m.np
  .rw[if_pos n,if_pos n];have:g[l]?=some l:=by
    have e:=congrArg (·[l]?) N.pre;simp only[aaR,if_pos n]at e;rw[e,acL n]
   have x:l<α.length:=aah n R.npl;rw[i l l α[l] this (iO x),iO x]
  .rw[if_neg n,if_neg n]
 have ext:Ext m.np α H (g.map λk=>α.getD k (.L 0)) H:=⟨t,Frm.refl _ _,λa ha=>by
  obtain⟨k,f,P,I⟩:=gF ha;obtain⟨j,_,J⟩:=get k f P;exact .inl (ip J I),λa ha=>by
  obtain⟨o,q,_⟩:=R.mem ha;exact⟨_,q⟩⟩
 refine⟨g.map λk=>α.getD k (.L 0),⟨dI R.nd N.nd F,?_,λk f ds D A=>?_,?_,λj r z=>?_,?_,by rw[N.np];exact R.ebl,R.ebx.trans (ext.less R.ebl)⟩,ext⟩
 .rw[N.os,gE,gE]
 .obtain⟨j,q,qa⟩:=get k f D;rw[N.os,aae,q]at A;have Q:j<m.os.length:=N.lt j (DL q);have B:m.os.getD j []=ds:=aal A;refine R.own j f ds qa ?_;rw[<-B,aar,iO Q];rfl
 .rw[N.vl];exact R.vlen
 .have h:=N.vs j r z
  cases r with
  |imm d=>exact R.var j (.imm d) h
  |new _=>exact h.elim
  |newT _=>exact h.elim
  |obj k=>
   obtain⟨y,q,h⟩:=h;obtain⟨v,E,a,C,e⟩:=R.var j (.obj y) h;exact⟨v,E,a,i k y _ q C,e⟩
  | «at» k p=>
   obtain⟨y,q,h⟩:=h;obtain⟨v,E,T,a,C,U,e⟩:=R.var j (.at y p) h;exact⟨v,E,T,a,i k y _ q C,U,e⟩
 .rw[N.np,gE];exact N.npl
noncomputable def wSet(i:Nat)(we:WE):WS:=λD m=>we m λr d=>oN i D.nx d r
theorem cc{K:Kx}{m:MSt}(R:Rel K α m σ H)(h:RelS K α H r v):Rel K α (m.setV i r) (σ.set i (some v)) H:=by
 refine⟨R.nd,R.len,R.own,?_,λj g e=>?_,R.npl,R.ebl,R.ebx⟩
 .show(σ.set i _).length=(m.vs.set i _).length;rw[abq,abq];exact R.vlen
 .have e':(m.vs.set i (some r))[j]?=some _:=e
  by_cases f:i=j
  .subst f
   by_cases d:i<m.vs.length
   .rw[aa2 d]at e';cases e';exact⟨v,aa2 (by rw[R.vlen];exact d),h⟩
   .simp_all
  .rw[aaT f]at e'⊢;exact R.var j g e'
theorem nH{K:Kx}{m:MSt}(R:Rel K α m σ H)(E:∃A i,Rel K α A i H0)(F:Frm α H0 H)(nd:ao.ads.Nodup)(t:∀b∈ao.ads,H0 b=none)(g:OwnAt K H ao ds) :
  Rel K (α++[ao]) {m with os:=m.os++[ds]} σ H/\∀np,np≤α.length->Ext np α H0 (α++[ao]) H:=by
 obtain⟨A,i,n⟩:=E;have s:∀b∈ao.ads,b∉ads α:=λb hb=>n.out (t b hb);have one:ads [ao]=ao.ads:=by simp[ads]
 have ext:∀np,np≤α.length->Ext np α H0 (α++[ao]) H:=λnp r=>⟨by rw[List.take_append_of_le_length r],F,λa ha=>by
  rw[jh,one]at ha;rcases aaK.mp ha with z|z
  .exact .inl z
  .exact .inr (t a z),λa ha=>by
  obtain⟨o,q,_⟩:=R.mem ha;exact⟨_,q⟩⟩
 refine⟨⟨?_,by simp[R.len],λk a es f I=>?_,R.vlen,λj B z=>?_,by have:=R.npl;show m.np≤(α++[ao]).length;rw[aap];omega,R.ebl,n.ebx.trans (ext _ ?_)⟩,ext⟩
 .rw[jh,one];exact afH.mpr ⟨R.nd,nd,λx D y G e=>s y G (e▸D)⟩
 .have z2':(m.os++[ds])[k]?=some es:=I
  by_cases C:k<α.length
  .rw[aaJ C]at f;rw[aaJ (by rw[<-R.len];exact C)]at z2';exact R.own k a es f z2'
  .rw[aaP (by omega)]at f;rw[aaP (by rw[<-R.len];omega)]at z2';have h:k-α.length=0:=by
    have:=(Io.mp f).1;simp at this;omega
   rw[h]at f;rw[<-R.len,h]at z2'
   simp_all
 .obtain⟨v,ev,rv⟩:=R.var j B z;refine⟨v,ev,?_⟩
  cases B with
  |imm d=>exact rv
  |new _=>exact rv
  |newT _=>exact rv
  |obj k=>
   obtain⟨a,l,e⟩:=rv;exact⟨a,by rw[aaJ (Io.mp l).1];exact l,e⟩
  | «at» k p=>
   obtain⟨J,a,l,e⟩:=rv;exact⟨J,a,by rw[aaJ (Io.mp l).1];exact l,e⟩
 .exact aaj R.ebl R.npl
theorem sk{K:Kx}{m:MSt}{Q:St->Hp->Prop}{np:Nat}(f:Rel K α m σ H)(n:m.np=np)(F:Frm α H0 H)(h:RelR K α H0 H r v)(q:oN i P m r)
  (k:∀A D s C,P D->D.np=np->Rel K A D s C->Ext np α H0 A C->Q s C) (Z:∃m0 M,Rel K α m0 M H0):Q (σ.set i (some v)) H:=by
 have O:∀A D s C,upR P D->D.np=np->Rel K A D s C->Ext np α H0 A C->Q s C:=λA D s C q n R x=>by
  rcases q with q|⟨ρ,m2,N,q⟩
  .exact k A D s C q n R x
  .obtain⟨α2,R2,x2⟩:=M9 R N;rw[n]at x2;exact k α2 m2 s C q (N.np.trans n) R2 (x.trans x2)
 have G:np≤α.length:=by rw[<-n];exact f.npl
 cases r with
 |imm d=>exact O α _ _ H q n (cc f (r:=.imm d) h) (.of (cc (i:=i) f (r:=.imm d) h) F)
 |obj j=>exact O α _ _ H q n (cc f (r:=.obj j) h) (.of (cc (i:=i) f (r:=.obj j) h) F)
 | «at» j p=>exact O α _ _ H q n (cc f (r:=.at j p) h) (.of (cc (i:=i) f (r:=.at j p) h) F)
 |newT t=>
  obtain⟨S,p,rfl,J,nd,L,g⟩:=h;obtain⟨base,ext⟩:=nH f Z F (ao:=.T S) nd L g;exact O (α++[.T S]) _ _ H q n (cc base (r:=.at m.os.length []) ⟨S,p,by rw[aaP (by rw[f.len];exact Dl _),<-f.len];simp,J,rfl⟩) (ext np G)
 | new ds=>
  obtain⟨p,xs,rfl,L,hp,g⟩:=h;have R0':=Z;obtain⟨m0,M,U⟩:=R0';have V:p∉ads α:=U.out L;rcases q with q|⟨j,e1,e2,e3,q⟩
  .
   obtain⟨base,ext⟩:=nH f Z F (ao:=.L p) (by simp[Ao.ads]) (λb hb=>by cases OR.mp hb;exact L) ⟨xs,hp,g⟩;exact O (α++[.L p]) _ _ H q n (cc base (r:=.obj m.os.length) ⟨p,by rw[aaP (by rw[f.len];exact Dl _),<-f.len];simp,rfl⟩) (ext np G)
  .
   obtain⟨aj,T⟩:∃aj,α[j]?=some (.L aj):=by
    obtain⟨v,_,a,I,_⟩:=f.var i _ e1;exact⟨a,I⟩
   have Y:j<α.length:=(Io.mp T).1;have hi:i<m.vs.length:=(Io.mp e1).1;have ndS:(ads (α.set j (.L p))).Nodup:=by
    have z:=(g9 α).mp f.nd;rw[g9];refine⟨λao ha=>?_,abM.mpr λi1 i2 h1 h2 hlt a ha b hb e=>?_⟩
    .rcases afE ha with y|y
     .exact z.1 ao y
     .subst y;simp[Ao.ads]
    .subst e;rw[abq]at h1 h2;have mem:∀(l:Nat) (B:l<α.length),a∈(α[l]).ads->a∈ads α:=λl B h=>ip (iO B) h
     by_cases E:j=i1
     .subst E;rw[agC]at ha;rw[adL (by exact aaG ‹_›)]at hb
      cases OR.mp ha
      exact V (mem i2 h2 hb)
     .rw[adL E]at ha
      by_cases c2:j=i2
      .subst c2;rw[agC]at hb
       cases OR.mp hb
       exact V (mem i1 h1 ha)
      .rw[adL c2]at hb;exact gw f.nd (iO h1) (iO h2) (aaG hlt) ha hb
   have ext:Ext np α H0 (α.set j (.L p)) H:=by
    refine⟨?_,F,λa ha=>?_,λa ha=>?_⟩
    .apply acG;intro l;rw[aaR,aaR]
     by_cases B:l<np
     .rw[if_pos B,if_pos B,aaT (by omega)]
     .rw[if_neg B,if_neg B]
    .obtain⟨l,ao,J,hm⟩:=gF ha
     by_cases E:j=l
     .subst E;rw[aa2 Y]at J;cases J
      cases OR.mp hm
      exact .inr L
     .rw[aaT E]at J;exact .inl (ip J hm)
    .obtain⟨o,q,_⟩:=f.mem ha;exact⟨_,q⟩
   have Rl':Rel K (α.set j (.L p)) {m with os:=m.os.set j ds} (σ.set i (some (.ref p))) H:=by
    refine⟨ndS,by simp[f.len],λk a es W z2=>?_,by rw[abq];exact f.vlen,λl r' z=>?_,by rw[abq];exact f.npl,f.ebl,U.ebx.trans (ext.less (by have:=f.ebl;omega))⟩
    .have z2':(m.os.set j ds)[k]?=some es:=z2
     by_cases E:j=k
     .subst E;rw[aa2 Y]at W;rw[aa2 (by rw[<-f.len];exact Y)]at z2'
      cases W;cases z2'
      exact⟨xs,hp,g⟩
     .rw[aaT E]at W z2';exact f.own k a es W z2'
    .have z':m.vs[l]?=some (some r'):=z
     by_cases B:i=l
     .subst B;rw[e1]at z';cases z';exact⟨.ref p,aa2 (by rw[f.vlen];exact hi),p,aa2 Y,rfl⟩
     .obtain⟨v,ev,rv⟩:=f.var l r' z';refine⟨v,by rw[aaT B];exact ev,?_⟩
      cases r' with
      |imm d=>exact rv
      |new _=>exact rv
      |newT _=>exact rv
      |obj k=>
       obtain⟨a,I,e⟩:=rv;refine⟨a,?_,e⟩;rw[aaT]
       .exact I
       .rintro rfl;exact e3 l (aa5 B) z'
      | «at» k p'=>
       obtain⟨S,a,I,e⟩:=rv;refine⟨S,a,?_,e⟩;rw[aaT]
       .exact I
       .rintro rfl;rw[T]at I;cases I
   exact k (α.set j (.L p)) _ _ H q n Rl' ext
theorem Qh(g:X.N.Nodup)(p:X.N[i]?=some x)(h:Loc X.env.scope x)(s:ME X e we)(hs:abH e (some (.Name x pos')) pos.line X.env=pure false:=by rfl)(l:X.fn x=true\/X.env.scope.names.lookup x=some .local:=by first|exact .inl rfl|exact .inr rfl|assumption) :
  MS X (.Assign [.Name x pos'] e pos) (wSet i we):=(O5 g p h s hs l).wk<|by rintro D f H ⟨o,m,t,d,j,k⟩;exact
 ⟨o,m,_,d,j,λr y v z q n R rr F=>sk R n F rr q k.nx ⟨m,f,d⟩⟩
noncomputable abbrev WG:=dL->MSt->(MSt->Prop)->Prop
noncomputable abbrev WGs:=List dL->MSt->(MSt->Prop)->Prop
noncomputable def tMG(K:Kx)(g:WG):TG:=λv k H Q=>∃j m d i,Rel K j m k H/\Den K H d v/\g d m i/\∀h f,i h->h.np=m.np->Rel K j h f H->Q f H
noncomputable def tMGs(K:Kx)(g:WGs):TGs:=λvs j H Q=>∃i m ds h,Rel K i m j H/\DenAll K H ds vs/\g ds m h/\∀f d,h f->f.np=m.np->Rel K i f d H->Q d H
theorem PG.wk{X:Cx}{e:Expr}{t t':TG}(h:PG X e t)(k:∀v d H Q,t' v d H Q->t v d H Q):PG X e t':=λp s d H v u Q I r q=>h p s d H v u Q I r (k _ _ _ _ q)
theorem PGs.wk{X:Cx}{e:List Expr}{t t':TGs}(h:PGs X e t)(k:∀v d H Q,t' v d H Q->t v d H Q):PGs X e t':=λp s d H v u Q I r q=>h p s d H v u Q I r (k _ _ _ _ q)
noncomputable abbrev MG(X:Cx)(e:Expr)(g:WG):Prop:=PG X e (tMG X.kx g)
noncomputable abbrev MGs(X:Cx)(es:List Expr)(g:WGs):Prop:=PGs X es (tMGs X.kx g)
noncomputable def gM(i:Nat):WG:=λd m K=>K (m.setV i (.imm d))
noncomputable def L8:WGs:=λds m K=>ds=[]/\K m
noncomputable def Bw(g:WG)(h:WGs):WGs:=λds m K=>match ds with|d::r=>g d m λf=>h r f K|[]=>False
noncomputable def CK(n:Nat)(g:WGs):WG:=λd m K=>match d with| .tuple ds=>ds.length=n/\g ds m K|_=>False
theorem Mf(l:X.N.Nodup)(j:X.N[i]?=some x)(k:Loc X.env.scope x)(g:X.fn x=true\/X.env.scope.names.lookup x=some .local:=by first|exact .inl rfl|exact .inr rfl|assumption):MG X (.Name x pos) (gM i):=(N6 l j k g).wk λv o H Q ⟨n,m,d,K,R,hd,h,f⟩=>
 f _ _ h rfl (cc R hd)
theorem JV:MGs X [] L8:=(Kl).wk<|by
 rintro v g H Q ⟨i,m,d,K,R,hd,h,f⟩;obtain⟨rfl,h⟩:=h;exact⟨hd,f m g h rfl R⟩
theorem FU{e:Expr}{es:List Expr}(s:MG X e g)(y:MGs X es gs)
  (hs:(abF (e::es) X.env).map (·.2)=ad4 e X.env::(abF es X.env).map (·.2):=by rfl):MGs X (e::es) (Bw g gs):=(CY s y hs).wk<|by
 rintro v C H Q ⟨l,m,ds,K,B,hd,j,f⟩
 cases ds with
 |nil=>exact j.elim
 |cons d r=>
  obtain⟨x,p,rfl,q,A⟩:=hd;exact⟨x,p,rfl,l,m,d,_,B,q,j,λt o k n h=>⟨l,t,r,_,h,A,k,λm2 i z n2 R=>f m2 i z (n2.trans n) R⟩⟩
theorem OY{es:List Expr}{k:Nat}(h:MGs X es gs)(q:X.calm=true:=by rfl)
  (o:(abF es X.env).length=n:=by rfl) (l:(abF es X.env).findIdx? (·.1)=none:=by rfl):MG X (.Tuple es k pos) (CK n gs):=(QH q h o l).wk<|by
 rintro v r H Q ⟨p,m,d,K,R,hd,i,j⟩
 cases d with
 |tuple ds=>
  obtain⟨a,x,e,f,g⟩:=hd;exact⟨a,x,e,f,g.length.symm.trans i.1,p,m,ds,K,R,g,i.2,j⟩
 |none=>exact i.elim
 |bool _=>exact i.elim
 |int _=>exact i.elim
 |str _=>exact i.elim
 |list _=>exact i.elim
 |dict _=>exact i.elim
noncomputable def cx(P:dL->Prop):R->Prop
 | .imm d=>P d
 |_=>False
theorem dB{K:Kx}{P:dL->Prop}(rr:RelR K α Hb H r v)(h:cx P r):∃d,r = .imm d/\Den K H d v/\P d:=by
 cases r with
 |imm d=>exact⟨d,rfl,rr,h⟩
 |obj _=>exact h.elim
 |new _=>exact h.elim
 | «at» _ _=>exact h.elim
 |newT _=>exact h.elim
noncomputable def wAsg(we:WE)(g:WG):WS:=λD m=>we m λr f=>cx (λd=>g d f D.nx) r
theorem SX(t:ME X e we)(s:MG X tg g)(hs:ada [tg] e pos.line X.env=pure false:=by rfl)(h:adb [tg] e X.env=pure none:=by rfl)
  (o:(abF [tg] X.env).map (·.2)=[ad4 tg X.env]:=by rfl):MS X (.Assign [tg] e pos) (wAsg we g):=(Jc t s hs h o).wk<|by
 rintro D B H ⟨i,m,z,y,h,k⟩;refine⟨i,m,_,y,h,λr p v x q n f rr F=>?_⟩;obtain⟨d,A,hd,q⟩:=dB rr q;exact⟨i,p,d,_,f,hd,q,λm2 j l n2 R=>k.nx i m2 j x l (n2.trans n) R (.of R F)⟩
noncomputable def wPar(i j:Nat)(ws:WA):WS:=λD m=>ws m λrs d=>match rs with|[.imm d1,.imm d2]=>D.nx ((d.setV i (.imm d1)).setV j (.imm d2))|_=>False
theorem O8{p l pt:Pos}{kt k2 pt2}(v:X.N.Nodup)(I:X.N[i]?=some x)(t:X.N[j]?=some y)(h:i≠j)
  (s:X.env.scope.names.lookup x=some .local) (C:X.env.scope.names.lookup y=some .local) (ha:MA X [a,b] ws)
  (f:adb [.Tuple [.Name x p,.Name y l] kt pt] (.Tuple [a,b] k2 pt2) X.env=pure (some [x,y])) (K:X.calm=true:=by rfl)
  (hs:ada [.Tuple [.Name x p,.Name y l] kt pt] (.Tuple [a,b] k2 pt2) pos.line X.env=pure false:=by rfl) :
  MS X (.Assign [.Tuple [.Name x p,.Name y l] kt pt] (.Tuple [a,b] k2 pt2) pos) (wPar i j ws):=(OU K v I t h s C ha f hs).wk<|by
 rintro D L H ⟨o,m,E,J,f,k⟩;refine⟨o,m,_,J,f,λrs G vs B q n R rr F=>?_⟩;obtain⟨g,d,r,q⟩:∃g d,rs=[.imm g,.imm d]/\E.nx ((G.setV i (.imm g)).setV j (.imm d)):=by
  split at q
  .exact⟨_,_,rfl,q⟩
  .exact q.elim
 subst r
 cases rr with
 |cons z rr=>
  cases rr with
  |cons A rr=>
  cases rr;exact⟨_,_,rfl,k.nx o _ _ B q n (cc (cc R z) A) (.of R F)⟩
end
structure Src where
 ds:List dL
 own:Option Nat
structure Wks(K:Kd)(J:It)(ds:List dL)(C:Hp->Prop):Prop where
 stop:∀H,C H->J.stop ds.length H
 go:∀i H,i<ds.length->C H->J.go i H
 yld:∀i H x H',i<ds.length->C H->J.yld i H x H'->(∀b o,H b=some o->H' b=some o)/\∃d,ds[i]?=some d/\Den K H' d x
noncomputable def t9(K:Kd)(d:Al)(H:Hp)(s:Src)(J:It):Prop:=
 match s.own with
 |none=>∃C:Hp->Prop,Wks K J s.ds C/\C H/\∀b c,C b->Pers b c->C c
 |some k=>∃a,d[k]?=some (.L a)/\Wks K J s.ds λH=>∃x,H a=some (.lst x)/\DenAll K H s.ds x
noncomputable abbrev WI:=MSt->(Src->MSt->Prop)->Prop
noncomputable def tMI(K:Kx)(w:WI):TI:=λe H R=>∃a m d,Rel K a m e H/\w m d/\∀s c J b,d s c->c.np=m.np->Rel K a c e b->Frm a H b->t9 K a b s J->R J b
theorem PI.wk{t t':TI}(h:PI X tg e t)(k:∀a H Q,t' a H Q->t a H Q):PI X tg e t':=λp s a H Q I q=>h p s a H Q I (k _ _ _ q)
noncomputable abbrev MI(X:Cx)(tg e:Expr)(w:WI):Prop:=PI X tg e (tMI X.kx w)
section
variable {X:Cx}{tg a b c e B:Expr}{es:List Expr}{N O Q E:WE}{G:WA}{M:WT}{pos:Pos}{st:Stmt}{rest A L:List Stmt}{w u:WS}
noncomputable def iSeq(K:Mt)(tl:TE):TI:=λg H R=>tl g H λx d=>∃a,x = .ref a/\(((∃f,SqL K d a f)/\R (Itl K a) d)\/((∃f,SqT K d a f)/\R (Itt K a) d))
theorem RQ{l:Expr}{tl:TE}(n:PE X l tl):PI X tg l (iSeq X.K tl):=by
 intro f s m H R I h;refine thn (n f s m H _ I h) λv s1 ⟨x,i,d,r1,k⟩=>?_;obtain⟨a,e,q⟩:=k;subst e;cases r1;rcases q with⟨⟨j,g⟩,q⟩|⟨⟨j,g⟩,q⟩
 .obtain⟨its,rv,p,hz⟩:=d.list g;refine wpAny_pyIter_list p.isList ?_;refine⟨s1.heap.objs.size,[s1.heap.objs.size],_,_,i,rfl,d.kept (t':=s1.toks) λb o e=>Ad _ e,yN a _,⟨_,aaf _ rfl,rfl,rfl⟩,λb hb=>?_,q⟩;have e:=by simpa using hb
  subst e;exact d.fpOk (Dl _) (d.hok.fresh (Dl _))
 .obtain⟨its,rv,p,hz⟩:=d.tuple g;refine wpAny_pyIter_tuple (p) ?_;refine⟨s1.heap.objs.size,[s1.heap.objs.size],_,_,i,rfl,d.kept (t':=s1.toks) λb o e=>Ad _ e,xw a _,⟨_,aaf _ rfl,rfl,rfl⟩,λb hb=>?_,q⟩;have e:=by simpa using hb
  subst e;exact d.fpOk (Dl _) (d.hok.fresh (Dl _))
noncomputable def srcR(m:MSt)(K:Src->MSt->Prop):R->Prop
 | .imm (.list ds)=>K ⟨ds,none⟩ m
 | .imm (.tuple ds)=>K ⟨ds,none⟩ m
 | .obj k=>∃ds,m.os[k]?=some ds/\K ⟨ds,some k⟩ m
 |_=>False
noncomputable def Lj(E:WE):WI:=λm K=>E m λr d=>srcR d K r
theorem wks_list{a:Addr}:Wks K (Itl K a) ds λH=>∃xs,SqL K H a xs/\DenAll K H ds xs where
 stop:=λH ⟨xs,q,g⟩=>⟨xs,q,by rw[g.length];exact Dl _⟩
 go:=λi H h ⟨xs,q,g⟩=>⟨xs,xs[i]'(by rw[<-g.length];exact h),q,iO _⟩
 yld:=λi H x k h ⟨xs,q,g⟩ y=>by
  obtain⟨e,y⟩:=y;subst e;obtain⟨d,j,f⟩:=g.get2 (y xs q);exact⟨λ_ _ z=>z,d,j,f⟩
theorem MD{a:Addr}:Wks K (Itt K a) ds λH=>∃xs,SqT K H a xs/\DenAll K H ds xs where
 stop:=λH ⟨xs,q,g⟩=>⟨xs,q,by rw[g.length];exact Dl _⟩
 go:=λi H h ⟨xs,q,g⟩=>⟨xs,xs[i]'(by rw[<-g.length];exact h),q,iO _⟩
 yld:=λi H x k h ⟨xs,q,g⟩ y=>by
  obtain⟨e,y⟩:=y;subst e;obtain⟨d,j,f⟩:=g.get2 (y xs q);exact⟨λ_ _ z=>z,d,j,f⟩
theorem Wks.imp{C f:Hp->Prop}(h:Wks K J ds C)(k:∀H,f H->C H):Wks K J ds f:=⟨λH c=>h.stop H (k H c),λi H d c=>h.go i H d (k H c),λi H x g d c=>h.yld i H x g d (k H c)⟩
theorem QJ(z:ME X e E):MI X tg e (Lj E):=(RQ (tg:=tg) z).wk<|by
 rintro T H P ⟨y,m,S,J,C,i⟩;refine⟨y,m,_,J,C,λr s v o k n R rr F=>?_⟩
 cases r with
 |new _=>exact k.elim
 | «at» _ _=>exact k.elim
 |newT _=>exact k.elim
 |obj j=>
  obtain⟨ds,K,k⟩:=k;obtain⟨p,t,rfl⟩:=rr;obtain⟨x,q,g⟩:=R.own j _ ds t K;exact⟨p,rfl,.inl ⟨⟨x,SqL.of q⟩,i _ s _ o k n R F ⟨p,t,wks_list.imp<|by rintro H ⟨x,q,g⟩;exact⟨x,SqL.of q,g⟩⟩⟩⟩
 | imm d=>
  cases d with
  |list ds=>
   have h:=rr;simp only[Den]at h;obtain⟨p,x,rfl,f,g⟩:=h;refine⟨p,rfl,.inl ⟨⟨x,f.sq⟩,i _ s _ o k n R F ⟨λH=>∃x,FzL X.kx H p x/\DenAll X.kx H ds x,wks_list.imp λH ⟨x,q,g⟩=>⟨x,q.sq,g⟩,⟨x,f,g⟩,λD I ⟨x,q,g⟩ l=>⟨x,q.mono l,g.mono l⟩⟩⟩⟩
  |tuple ds=>
   have h:=rr;simp only[Den]at h;obtain⟨p,x,rfl,f,g⟩:=h;refine⟨p,rfl,.inr ⟨⟨x,f⟩,i _ s _ o k n R F ⟨λH=>∃x,SqT X.kx H p x/\DenAll X.kx H ds x,MD,⟨x,f,g⟩,λD I ⟨x,q,g⟩ l=>⟨x,q.mono l,g.mono l⟩⟩⟩⟩
  |none=>exact k.elim
  |bool _=>exact k.elim
  |int _=>exact k.elim
  |str _=>exact k.elim
  |dict _=>exact k.elim
noncomputable def gG(lo:Int)(n:Nat):List dL:=(aaH n).map λ(i:Nat)=>abn (lo+(i:Int))
theorem aM(lo:Int)(n:Nat):(gG lo n).length=n:=by simp[gG]
theorem i9{lo:Int}(h:i<n):(gG lo n)[i]?=some (.int (lo+(i:Int))):=by simp[gG,h]
theorem yR{lo:Int}:Wks K (Itr lo n) (gG lo n) λ_=>True where
 stop:=λH _=>by rw[aM];exact Dl _
 go:=λi H h _=>by rw[aM]at h;exact h
 yld:=λi H x d h _ y=>by
  rw[aM]at h;obtain⟨e,y⟩:=y;subst e y;exact⟨λ_ _ z=>z,_,i9 h,su _⟩
noncomputable def yd(G:WA):WI:=λm K=>G m λrs d=>match rs with|[.imm (.int j)]=>-(2^62)≤j/\j<2^62/\K ⟨gG 0 j.toNat,none⟩ d|_=>False
theorem aF{i:Int}(h:Den K H (.int i) v):v = .int i:=by simpa[Den]
theorem AF(r:Gl X "range")(h:X.mg "range" = none)(ha:MA X [a] G)(hs:aad [a] X.env=[(false,eval a X.env)]:=by first|exact cu rfl|rfl):MI X tg (.Call (.Name "range" p) [a] [] pos) (yd G):=(zL r h ha hs).wk<|by
 rintro z H y ⟨q,m,K,x,t,f⟩;refine⟨q,m,_,x,t,λrs g vs d k n R rr F=>?_⟩;obtain⟨j,i,l,v,s⟩:∃j:Int,rs=[.imm (.int j)]/\-(2^62)≤j/\j<2^62/\K ⟨gG 0 j.toNat,none⟩ g:=by
  split at k
  .exact⟨_,rfl,k⟩
  .exact k.elim
 subst i
 cases rr with
 |cons o rr=>
  cases rr;have e:=aF (show Den X.kx d _ _ from o);subst e;exact⟨j,rfl,l,v,f _ g _ d s n R F ⟨λ_=>True,yR,trivial,λ_ _ _ _=>trivial⟩⟩
noncomputable def MSt.setN(m:MSt)(n:Nat):MSt:={m with np:=n}
noncomputable def Src.np(s:Src)(m:MSt):Nat:=match s.own with|none=>m.np|some k=>max m.np (k+1)
noncomputable def Src.ok(s:Src)(m:MSt):Prop:=match s.own with|none=>True|some k=>m.os[k]?=some s.ds
noncomputable def ie(s:Src)(g:WG)(w:WS):WS:=λD m1=>∃P:Nat->MSt->Prop,P 0 (m1.setN (s.np m1))/\
 (∀(i:Nat) (d:dL) (m:MSt),s.ds[i]?=some d->m.np=s.np m1->P i m->s.ok m/\g d m λm2=>w {nx:=P (i+1),ct:=P (i+1),bk:=λf=>D.nx (f.setN m1.np),rt:=λr f=>D.rt r (f.setN m1.np)} m2)/\
 ∀m,m.np=s.np m1->P s.ds.length m->s.ok m/\D.nx (m.setN m1.np)
noncomputable def wFor(d:WI)(g:WG)(w:WS):WS:=λD m=>d m λs m1=>ie s g w D m1
theorem Rel.setN{K:Kx}{m:MSt}(R:Rel K α m σ H)(h:n≤α.length)(d:K.eb.np≤n):Rel K α (m.setN n) σ H:=⟨R.nd,R.len,R.own,R.vlen,R.var,h,d,R.ebx⟩
theorem tz{K:Kx}{s:Src}{w:WS}(Rl:Rel K α m1 σ H)(Z:t9 K α H s J)(h:ie s g w De m1)(k:EndsOk K m1.np α H De D)
  (hb:∀f F m t De' D',f.take (s.np m1)=α.take (s.np m1)->F.np=s.np m1->Rel K f F m t->w De' F->EndsOk K F.np f t De' D'->tb D' m t):pk J (tMG K g) tb D σ H:=by
 obtain⟨P,p0,turn,fin⟩:=h;have npk:s.np m1≤α.length:=by
  unfold Src.np;unfold t9 at Z
  cases e:s.own with
  |none=>exact Rl.npl
  |some j=>
   rw[e]at Z;obtain⟨a,ea,_⟩:=Z;have:=(Io.mp ea).1;have:=Rl.npl;show max m1.np (j+1)≤α.length;omega
 have S:m1.np≤s.np m1:=by
  unfold Src.np;split
  .exact Dl _
  .exact ae5 _ _
 obtain⟨C,wk,hC⟩:∃C:Hp->Prop,Wks K J s.ds C/\∀f F m t,Rel K f F m t->Ext (s.np m1) α H f t->s.ok F->C t:=by
  unfold t9 at Z
  cases e:s.own with
  |none=>
   rw[e]at Z;obtain⟨C,wk,c0,cm⟩:=Z;exact⟨C,wk,λf F m t _ x _=>cm H t c0 (Rl.pers x.frm)⟩
  | some j=>
   rw[e]at Z;obtain⟨a,ea,wk⟩:=Z;refine⟨_,wk,λf F m t U x ok=>?_⟩;have hj:j<s.np m1:=by unfold Src.np;rw[e];show j<max _ _;omega
   have ea':f[j]?=some (.L a):=by
    have:=congrArg (λl=>l[j]?) x.pre;simp only[aaR,if_pos hj]at this;rw[this];exact ea
   unfold Src.ok at ok;rw[e]at ok;exact U.own j _ s.ds ea' ok
 have back:∀{f:Al}{F:MSt}{m:St}{t:Hp},Rel K f F m t->F.np=s.np m1->Ext (s.np m1) α H f t->Rel K f (F.setN m1.np) m t:=λU n x=>U.setN (by
  have:=U.npl;rw[n]at this;exact aaj ‹_› ‹_›) Rl.ebl
 refine⟨λi n m t=>n=s.ds.length-i/\i≤s.ds.length/\∃f F,P i F/\F.np=s.np m1/\Rel K f F m t/\Ext (s.np m1) α H f t,⟨s.ds.length,by simp,abC _,α,_,p0,rfl,Rl.setN npk (aaj Rl.ebl S),.of Rl (Frm.refl _ _)⟩,?_⟩;rintro i n m t ⟨rfl,hi,f,F,p,hn,U,x⟩
 by_cases W:i<s.ds.length
 .have hd:s.ds[i]?=some s.ds[i]:=iO W;obtain⟨ok,hg⟩:=turn i _ F hd hn p;have c:=hC f F m t U x ok;refine .inr ⟨wk.go i t W c,λσ2 V=>∃α2 m2,P (i+1) m2/\m2.np=s.np m1/\Rel K α2 m2 σ2 V/\Ext (s.np m1) α H α2 V,λσ2 V h2=>⟨s.ds.length-(i+1),by omega,rfl,W,h2⟩,λv V y=>?_⟩;obtain⟨Y,d,e1,e2⟩:=wk.yld i t v V W c y;rw[hd]at e1;cases e1;have F2:Frm f t V:=λb o z _=>Y b o z;have R2:Rel K f F m V:=U.at (U.pers F2) (λb hb=>by
   obtain⟨ys,z,_⟩:=U.mem hb;rw[z];exact Y b _ z) F2
  have x2:Ext (s.np m1) α H f V:=x.trans (.of R2 F2);refine⟨f,F,_,_,R2,e2,hg,λm3 σ3 q3 n3 R3=>hb f m3 σ3 V _ _ x2.pre (n3.trans hn) R3 q3 ?_⟩;have R:m3.np=s.np m1:=n3.trans hn;have x3:Ext m3.np α H f V:=by rw[R];exact x2
  refine⟨λI m4 T H4 q4 n4 R4 x4=>⟨I,m4,q4,n4.trans R,R4,?_⟩,λr I m4 T v4 H4 q4 n4 R4 rr x4=>?_,λI m4 T H4 q4 n4 R4 x4=>?_,λI m4 T H4 q4 n4 R4 x4=>⟨I,m4,q4,n4.trans R,R4,?_⟩⟩
  .rw[<-R];exact x3.trans x4
  .have x5:Ext (s.np m1) α H I H4:=by rw[<-R];exact x3.trans x4
   exact k.rt r I (m4.setN m1.np) T v4 H4 q4 rfl (back R4 (n4.trans R) x5) (rr.ext x3) (x5.less S)
  .have x5:Ext (s.np m1) α H I H4:=by rw[<-R];exact x3.trans x4
   exact k.nx I (m4.setN m1.np) T H4 q4 rfl (back R4 (n4.trans R) x5) (x5.less S)
  .rw[<-R];exact x3.trans x4
 .have e:i=s.ds.length:=by omega
  subst e;obtain⟨ok,q⟩:=fin F hn p;exact .inl ⟨wk.stop t (hC f F m t U x ok),k.nx f (F.setN m1.np) m t q rfl (back U hn x) (x.less S)⟩
theorem Pi(v:MI X tg B wi)(t:MG X tg g)(hb:MSs X A w)(hp:afY (model X.prog X.w) X.A X.env X.xe)(I:X.calm=true:=by rfl)
  (hs:∀x,aaN B X.env x=pure x:=by intro _;rfl):MS X (.For tg B A [] pos) (wFor wi g w):=(P9 hp I v t hb hs).wk<|by rintro D P H ⟨p,m,K,C,o,k⟩;exact
 ⟨p,m,_,C,o,λs h J y q n R F j=>tz R j q (by rw[n];exact k.ext (.of R F)) λf h i y d S _ _ r l z=>⟨f,h,d,r,l,z⟩⟩
noncomputable def yD(t:WT)(w:WS):WS:=λD g=>∃P:Nat->MSt->Prop,(∃n,P n g)/\∀n m,m.np=g.np->P n m->t m λc f=>if c=true then w {D with nx:=λm2=>∃d,d<n/\P d m2,ct:=λm2=>∃d,d<n/\P d m2,bk:=D.nx} f else D.nx f
theorem FY(V:MT X t M)(hb:MSs X A w)(hp:afY (model X.prog X.w) X.A X.env X.xe):MS X (.While t A [] pos) (yD M w):=(GH hp V hb).wk<|by
 rintro D σ H ⟨I,m,De,K,⟨P,⟨Y,p0⟩,o⟩,k⟩;refine⟨λn f i=>∃d g,P n g/\g.np=m.np/\Rel X.kx d g f i/\Ext m.np I H d i,⟨Y,I,m,p0,rfl,K,.of K (Frm.refl _ _)⟩,?_⟩;rintro n F H1 ⟨j,m1,W,n1,U,x1⟩;refine⟨j,m1,_,U,o n m1 n1 W,λT m2 Z q n2 R2 S=>?_⟩;have x:=x1.trans (.of R2 S);have s:m2.np=m.np:=n2.trans n1
 cases T with
 |true=>
  refine iteT ⟨λp J=>∃h,h<n/\∃d g,P h g/\g.np=m.np/\Rel X.kx d g p J/\Ext m.np I H d J,by rintro p J ⟨h,C,z⟩;exact⟨h,C,z⟩,j,m2,_,R2,q,?_⟩;rw[s];exact⟨λd g f i ⟨h,C,q⟩ l R y=>⟨h,C,d,g,q,l,R,x.trans y⟩,λr d g f v i q l R rr y=>k.rt r d g f v i q l R (rr.ext x) (x.trans y),λd g f i q l R y=>k.nx d g f i q l R (x.trans y),λd g f i ⟨h,C,q⟩ l R y=>⟨h,C,d,g,q,l,R,x.trans y⟩⟩
 |false=>
  exact iteF (k.nx j m2 F Z q s R2 x)
end
section
variable {K:Kx}{f:Al}{m:MSt}{j:St}{H:Hp}
theorem Rel.setW(R:Rel K f m j H)(ha:f[q]?=some ao)(x:Pers H H')(F:∀b,b∉ao.ads->H' b=H b)(g:OwnAt K H' ao ds'):Rel K f {m with os:=m.os.set q ds' } j H'/\Frm f H H':=by
 have s:Frm f H H':=λb o e y=>by rw[F b λz=>y (ip ha z)];exact e
 have l:∀(k:Nat) (a:Ao) u,f[k]?=some a->(m.os.set q ds')[k]?=some u->OwnAt K H' a u:=λk a u w n=>by
  by_cases c:q=k
  .subst c;rw[aa2 (by rw[<-R.len];exact(Io.mp ha).1)]at n
   grind
  .rw[aaT c]at n;exact(R.own k a u w n).mono x λb hb=>F b λz=>gw R.nd ha w c z hb
 refine⟨⟨R.nd,by simp[R.len],l,R.vlen,λi r h=>?_,R.npl,R.ebl,R.ebx.trans ⟨rfl,s,λ_ h=>.inl h,λa ha=>?_⟩⟩,s⟩
 .obtain⟨v,ev,rv⟩:=R.var i r h;refine⟨v,ev,?_⟩
  cases r with
  |imm d=>exact Den.mono x rv
  |obj k=>exact rv
  | «at» k p=>exact rv
  |new ds=>exact rv
  |newT t=>exact rv
 .obtain⟨k,ao,e1,hm⟩:=gF ha;have A:k<(m.os.set q ds').length:=by rw[abq,<-R.len];exact(Io.mp e1).1
  obtain⟨o,q,_⟩:=(l k ao _ e1 (iO A)).mem hm;exact⟨o,q⟩
theorem Rel.setO{x:List V}(R:Rel K f m j H)(ha:f[q]?=some (.L l))(h:H l=some (.lst xs))(g:DenAll K H ds' x):Rel K f {m with os:=m.os.set q ds' } j (upd H l (.lst x))/\Frm f H (upd H l (.lst x)):=by
 have p:Pers H (upd H l (.lst x)):=vg h;exact R.setW ha p (λb hb=>ag λe=>hb (OR.mpr e)) ⟨x,ai,g.mono p⟩
end
noncomputable def xp(own:List Str)(ps:List Nat)(vs:List (Option R)):List (Option R):=own.map (λ_=>none)++ps.map λi=>(vs[i]?).join
noncomputable def jp(own:List Str)(ps:List Nat)(m:MSt):MSt:=⟨xp own ps m.vs,m.os++[[]],m.os.length+1⟩
noncomputable def wIfT(tt:WT)(w:WS):WS:=λD m=>tt m λb a=>if b=true then w D a else D.nx a
noncomputable def wZ(q:Nat)(w:WE):WS:=λD m=>w m λr a=>cx (λd=>∃ds,a.os[q]?=some ds/\ds.length<aag/\D.nx {a with os:=a.os.set q (ds++[d])}) r
noncomputable def lR(b:WI)(own:List Str)(ps:List Nat)(g:WG)(tt:WT)(w:WE):WE:=λm K=>b m λs m1=>
 ie s g (wIfT tt (wZ m1.os.length w)) {nx:=λa=>K (.new (a.os.getD m1.os.length [])) {m1 with os:=a.os.take m1.os.length},rt:=λ_ _=>False} (jp own ps m1)
noncomputable def uY(d:WI)(own:List Str)(ps:List Nat)(g:WG)(tt:WT)(w:WI)(b:WG)(t:WT)(c:WE):WE:=λm K=>d m λs m1=>
 ie s g (wIfT tt λD m2=>w m2 λs2 e=>ie s2 b (wIfT t (wZ m1.os.length c)) D e) {nx:=λa=>K (.new (a.os.getD m1.os.length [])) {m1 with os:=a.os.take m1.os.length},rt:=λ_ _=>False} (jp own ps m1)
noncomputable def sU:WT:=λm K=>K true m
section
variable {K:Kx}
theorem zT{m:MSt}(ha:α[q]?=some (.L l))(f:Rel K α m σ H)(h:wZ q we De m)(k:EndsOk K m.np α H De D):wm l (tM K we) D σ H:=by
 refine⟨α,m,_,f,h,λr o v p a n R rr F=>?_⟩;obtain⟨d,j,hd,ds,i,e,a⟩:=dB rr a;obtain⟨x,b,g⟩:=R.own q _ ds ha i;obtain⟨R2,c⟩:=R.setO ha b (g.append (DenAll.cons hd DenAll.nil));exact⟨x,b,by rw[<-g.length];exact e,k.nx α _ σ _ a n R2 (.of R2 (F.trans c))⟩
theorem Cq{m:MSt}(e:Rel K α m σ H)(h:wIfT tt w De m)(k:EndsOk K m.np α H De D)
  (hb:∀a b,a.np=m.np->Rel K α a σ b->w De a->EndsOk K a.np α b De D->tb D σ b):tIfT (tMT K tt) tb D σ H:=by
 refine⟨α,m,_,e,h,λd a b q n R F=>?_⟩;have c:EndsOk K a.np α b De D:=by rw[n];exact k.ext (.of R F)
 cases d with
 |true=>rw[if_pos rfl]at q;exact iteT (hb a b n R q c)
 |false=>rw[if_neg aaq]at q;exact iteF (c.nx α a σ b q rfl R (.of R (Frm.refl _ _)))
theorem zu{ps:List Nat}{s:Src}{m:MSt}{Kc:R->MSt->Prop}(Rl:Rel K α m σ H)(n1:m1.np=m.np)(c:Rel K α m1 σ H1)(F1:Frm α H H1)(U:t9 K α H1 s J)(M:H1 l=none)
  (h:ie s g w {nx:=λf=>Kc (.new (f.os.getD m1.os.length [])) {m1 with os:=f.os.take m1.os.length},rt:=λ_ _=>False} (jp own ps m1))
  (fin:∀r f v u,Kc r f->f.np=m.np->Rel K α f σ u->RelR K α H u r v->Frm α H u->Q v u)
  (hb:∀A f E u F Y,A[m1.os.length]?=some (.L l)->m1.os.length<f.np->Rel K A f E u->w F f->EndsOk K f.np A u F Y->tb Y E u) :
  pk J (tMG K g) tb {nx:=λ_ u=>Q (.ref l) u,rt:=λ_ _=>False} (gH own ps σ) (upd H1 l (.lst [])):=by
 have pα:l∉ads α:=c.out M;have pe:Pers H1 (upd H1 l (.lst [])):=bf (.inl M);have B:α.length=m1.os.length:=c.len;have O:(α++[.L l])[m1.os.length]?=some (.L l):=by rw[aaP (by omega),<-B];simp
 have P:Rel K α m1 σ (upd H1 l (.lst [])):=c.lay M;obtain⟨Rm,extm⟩:=nH (ao:=.L l) (ds:=[]) P ⟨m1,σ,c⟩ (cf M) (by simp[Ao.ads]) (λb hb=>by cases OR.mp hb;exact M) ⟨[],ai,DenAll.nil⟩;have R0:Rel K (α++[.L l]) (jp own ps m1) (gH own ps σ) (upd H1 l (.lst [])):=by
  refine⟨Rm.nd,by simp[jp,B],Rm.own,by simp[gH,jp,xp],λi r z=>?_,by simp[jp,B],by have:=c.ebl;have:=c.npl;show K.eb.np≤m1.os.length+1;omega,Rm.ebx⟩;have D:(xp own ps m1.vs)[i]?=some (some r):=z;unfold xp at D
  by_cases hi:i<own.length
  .rw[aaJ (by simpa using hi),aae]at D
   cases q:own[i]? with
   |none=>rw[q]at D;cases D
   |some y=>rw[q]at D;cases D
  .rw[aaP (by simpa using hi),gE,aae]at D
   cases q:ps[i-own.length]? with
   |none=>rw[q]at D;cases D
   | some p=>
    rw[q]at D;have X:(m1.vs[p]?).join=some r:=aal D;have hv:m1.vs[p]?=some (some r):=by
     cases y:m1.vs[p]? with
     |none=>rw[y]at X;cases X
     |some y'=>rw[y]at X;cases y' with
      |none=>cases X
      |some y'=>cases X;rfl
    obtain⟨v,ev,L⟩:=Rm.var p r hv;refine⟨v,?_,L⟩;unfold gH;rw[aaP (by simpa using hi),gE,aae,q];show some ((σ[p]?).join)=some (some v);rw[ev];rfl
 have hJ':t9 K (α++[.L l]) (upd H1 l (.lst [])) s J:=by
  unfold t9 at U⊢
  cases e:s.own with
  |none=>
   rw[e]at U;obtain⟨C,wk,c0,cm⟩:=U;exact⟨C,wk,cm _ _ c0 pe,cm⟩
  |some j=>
   rw[e]at U;obtain⟨a,ea,wk⟩:=U;exact⟨a,by rw[aaJ (Io.mp ea).1];exact ea,wk⟩
 have W:m1.os.length<s.np (jp own ps m1):=by
  unfold Src.np;split
  .exact abI _
  .exact aah (abI _) (ae5 _ _)
 refine tz R0 hJ' h ⟨λA f E u q n N x=>?_,λ_ _ _ _ _ _ z=>z.elim,λ_ _ _ _ z=>z.elim,λ_ _ _ _ z=>z.elim⟩ λA f E u F Y hp hnp N h' k'=>hb A f E u F Y ?_ (by rw[hnp];exact W) N h' k'
 .
  have n':f.np=m1.os.length+1:=n;have x':Ext (m1.os.length+1) (α++[.L l]) (upd H1 l (.lst [])) A u:=x;have F':Frm α H1 u:=λb o e nb=>by
   have V:b≠l:=aP e M;refine x'.frm b o (by rw[ag V];exact e) λz=>?_;rw[jh]at z;rcases aaK.mp z with z|z
   .exact nb z
   .exact V (by simpa[ads,Ao.ads]using z)
  have pe':Pers H1 u:=c.pers F';have same:∀k,k<m1.os.length+1->A[k]?=(α++[.L l])[k]?:=λk T=>by
   have:=congrArg (λz=>z[k]?) x'.pre;simp only[aaR,if_pos T]at this;exact this
  have hlen':m1.os.length+1≤f.os.length:=by
   have:=N.npl;rw[n',N.len]at this;exact this
  have hq:m1.os.length<f.os.length:=by assumption
  have eq1:f.os[m1.os.length]?=some (f.os.getD m1.os.length []):=by
   rw[aar,iO hq];rfl
  obtain⟨xs,y1,y2⟩:=N.own m1.os.length (.L l) _ (by rw[same _ (abI _)];exact O) eq1;have G:∀(k:Nat) (a:Ao) (Z:List dL),α[k]?=some a->(f.os.take m1.os.length)[k]?=some Z->OwnAt K u a Z:=λk a Z z1 I=>by
   rw[aaR]at I;have T:k<m1.os.length:=by rw[<-B];exact(Io.mp z1).1
   rw[if_pos T]at I;exact N.own k a Z (by rw[same k (by omega),aaJ (by omega)];exact z1) I
  have tl:(f.os.take m1.os.length).length=α.length:=by rw[aaU];omega
  have S:Ext K.eb.np α H1 α u:=⟨rfl,F',λ_ h=>.inl h,λa ha=>by
   obtain⟨k,ao,e1,hm⟩:=gF ha;have T:k<(f.os.take m1.os.length).length:=by rw[tl];exact(Io.mp e1).1
   obtain⟨o,q,_⟩:=(G k ao _ e1 (iO T)).mem hm;exact⟨o,q⟩⟩
  refine fin _ _ (.ref l) u q n1 ⟨c.nd,tl.symm,G,c.vlen,λi r z=>?_,c.npl,c.ebl,c.ebx.trans S⟩ ?_ (F1.trans F')
  .obtain⟨v,ev,L⟩:=c.var i r z;refine⟨v,ev,?_⟩
   cases r with
   |imm d=>exact Den.mono pe' L
   |obj k=>exact L
   | «at» k p=>exact L
   |new ds=>exact L
   |newT t=>exact L
  .refine⟨l,xs,rfl,?_,y1,y2⟩
   cases z:H l with
   |none=>rfl
   |some o=>
    have:=F1 l o z pα;rw[M]at this;cases this
 .have:=congrArg (λz=>z[m1.os.length]?) hp;simp only[aaR,if_pos W]at this;rw[this];exact O
end
section
variable {X:Cx}{scope sc:Scope}{own fr:List Str}{ps:List Nat}{elt tg a j b:Expr}{ifs e:List Expr}{pos d u:Pos}{w o:WI}{g A:WG}{tt p:WT}{f:WE}
theorem vj(h:tM X.kx (lR w own ps g tt f) σ H Q):Cg (tMI X.kx w) own ps (tl1 (tMG X.kx g) (tMT X.kx tt) (tM X.kx f)) σ H Q:=by
 obtain⟨r,m,K,i,z,c⟩:=h;refine⟨r,m,_,i,z,λs m1 J N k n1 R F G l E=>?_⟩;exact zu i n1 R F G E k c λy M v L D I ha n B x q=>Cq B x q λm2 O n2 R2 t C=>zT ha R2 t C
theorem CQ(h:tM X.kx (uY w own ps g tt o A p f) σ H Q):Cg (tMI X.kx w) own ps (tl2 (tMG X.kx g) (tMT X.kx tt) (tMI X.kx o) (tMG X.kx A) (tMT X.kx p) (tM X.kx f)) σ H Q:=by
 obtain⟨I,m,Kc,y,W,i⟩:=h;refine⟨I,m,_,y,W,λs m1 J H1 k n1 R S hJ l hl=>?_⟩;refine zu y n1 R S hJ hl k i λn m' P H' D D' ha c R' T E=>Cq R' T E λm2 H2 n2 R2 L k2=>?_;refine⟨n,m2,_,R2,L,λs2 x J2 H3 q3 t v F r=>?_⟩;have G:m1.os.length<s2.np x:=by
  have:m1.os.length<x.np:=by rw[t,n2];exact c
  unfold Src.np;split
  .omega
  .exact aah this (ae5 _ _)
 refine tz v r q3 (by rw[t];exact k2.ext (.of v F)) λB m4 U H4 C D4 q O N M V=>Cq N M V λm5 H5 n5 K Y Z=>zT ?_ K Y Z;have:=congrArg (λz=>z[m1.os.length]?) q;simp[aaR,if_pos G]at this;rw[this];exact ha
theorem DF(S:bV own fr scope sc)(l:MI X tg a w)(m:∀cl s H C ex,MG (aG X scope cl (own++fr) s H C ex) tg g)(q:∀cl s H C ex,PTs (aG X scope cl (own++fr) s H C ex) ifs (tMT X.kx tt))
  (n:∀cl s H C ex,ME (aG X scope cl (own++fr) s H C ex) elt f) (k:X.env.scope=sc:=by rfl) (c:ps.map (λi=>X.N[i]?)=fr.map some:=by rfl) (r:X.calm=true:=by rfl) (hs:∀x,aaN a X.env x=pure x:=by intro _;rfl) :
  ME X (.ListComp elt [⟨tg,a,ifs,0⟩] scope pos) (lR w own ps g tt f):=(E9 S l m q n k c r hs).wk λ_ _ _ h=>vj h
theorem J8:PTs X [] (tMT X.kx sU):=by rintro c s k H Q I ⟨l,m,K,R,i,h⟩;exact JG c s k H Q I (h true m H i rfl R (Frm.refl _ _))
theorem L5{t:WT}(h:MT X c t):PTs X [c] (tMT X.kx t):=Kh h
theorem GL(S:bV own fr scope sc)(E:X.N.Nodup)(N:X.N[i]?=some y)(h:X.env.scope.names.lookup y=some .local)(J:MI X tg a w)(K:∀cl s H C ex,MG (aG X scope cl (own++fr) s H C ex) tg g)(M:∀cl s H C ex,PTs (aG X scope cl (own++fr) s H C ex) ifs (tMT X.kx tt))
  (L:∀cl s H C ex,ME (aG X scope cl (own++fr) s H C ex) elt f) (t:abH (.ListComp elt [⟨tg,a,ifs,0⟩] scope pos) (some (.Name y u)) d.line X.env=pure true:=by rfl)
  (l:X.env.scope=sc:=by rfl) (c:ps.map (λi=>X.N[i]?)=fr.map some:=by rfl) (O:X.calm=true:=by rfl) (hs:∀x,aaN a X.env x=pure x:=by intro _;rfl) :
  MS X (.Assign [.Name y u] (.ListComp elt [⟨tg,a,ifs,0⟩] scope pos) d) (wSet i (lR w own ps g tt f)):=(Fh S E N h J K M L t l c O hs).wk λD B H ⟨I,m,P,z,G,k⟩=>
 vj ⟨I,m,_,z,G,λr Q v T q n R rr F=>sk R n F rr q k.nx ⟨m,B,z⟩⟩
theorem Fy(S:bV own fr scope sc)(J:X.N.Nodup)(Q:X.N[i]?=some y)(E:X.env.scope.names.lookup y=some .local)(M:MI X tg a w)(O:∀cl s H C ex,MG (aG X scope cl (own++fr) s H C ex) tg g)(P:∀cl s H C ex,PTs (aG X scope cl (own++fr) s H C ex) ifs (tMT X.kx tt))
  (t:∀cl s H C ex,MI (aG X scope cl (own++fr) s H C ex) j b o) (z:∀cl s H C ex,MG (aG X scope cl (own++fr) s H C ex) j A) (l:∀cl s H C ex,PTs (aG X scope cl (own++fr) s H C ex) e (tMT X.kx p))
  (L:∀cl s H C ex,ME (aG X scope cl (own++fr) s H C ex) elt f) (c:abH (.ListComp elt [⟨tg,a,ifs,0⟩,⟨j,b,e,0⟩] scope pos) (some (.Name y u)) d.line X.env=pure true:=by rfl)
  (G:X.env.scope=sc:=by rfl) (h:ps.map (λi=>X.N[i]?)=fr.map some:=by rfl) (N:X.calm=true:=by rfl) (hs:∀x,aaN a X.env x=pure x:=by intro _;rfl)
  (B:∀cl C x,aaN b (agI scope cl C X.env) x=pure x:=by intro _ _ _;rfl) :
  MS X (.Assign [.Name y u] (.ListComp elt [⟨tg,a,ifs,0⟩,⟨j,b,e,0⟩] scope pos) d) (wSet i (uY w own ps g tt o A p f)):=(D7 S J Q E M O P t z l L c G h N hs B).wk λD T H ⟨K,m,W,I,U,k⟩=>
 CQ ⟨K,m,_,I,U,λr Y v V q n R rr F=>sk R n F rr q k.nx ⟨m,T,I⟩⟩
end
theorem bv{i:Str}(h:Den K H (.str i) v):v = .str i:=by simpa[Den]
theorem kl{i:Bool}(h:Den K H (.bool i) v):v = .bl i:=by simpa[Den]
theorem mh(h:Den K H .none v):v = .non:=by simpa[Den]
theorem fw(i:Int):RelR K α Hb H (.imm (.int i)) (.int i):=rfl
theorem om(i:Bool):RelR K α Hb H (.imm (.bool i)) (.bl i):=rfl
theorem zk(i:Str):RelR K α Hb H (.imm (.str i)) (.str i):=rfl
theorem ve:RelR K α Hb H (.imm .none) .non:=rfl
theorem kj{d:dL}(h:Den K H d v):RelR K α Hb H (.imm d) v:=h
theorem bF(h:Den K H (.tuple ds) v):∃a xs,v = .ref a/\SqT K H a xs/\DenAll K H ds xs:=by simpa only[Den]
theorem cF(f:SqT K H a xs)(g:DenAll K H ds xs):Den K H (.tuple ds) (.ref a):=by  exact⟨a,xs,rfl,f,g⟩
section
variable {X:Cx}
noncomputable def oAdd:WO
 | .imm (.int i),.imm (.int j),_,K=>K (.imm (.int (i+j)))
 | .imm (.str x),.imm (.str y),_,K=>x.length+y.length≤aag/\K (.imm (.str (x++y)))
 | .imm (.tuple a),.imm (.tuple b),_,K=>a.length+b.length≤aag/\K (.imm (.tuple (a++b)))
 |r1,r2,m,K=>∃d c,lsOf m r1=some d/\lsOf m r2=some c/\d.length+c.length≤aag/\K (.new (d++c))
theorem bh:OpR X (acx .Add) (rM X.kx oAdd):=by
 rintro d s w H x y v u Q I G O ⟨α,m,σ,H0,H1,r1,r2,Kc,R,J,L,ho,f⟩;unfold oAdd at ho
 split at ho
 .rename_i _ _ i j;have M:=aF (show Den X.kx H (.int i) x from J);have F:=aF (show Den X.kx H (.int j) y from L);subst M F;exact SU d s w H _ _ v u Q I G O ⟨i,j,rfl,rfl,f _ _ H ho R (fw _) (Frm.refl _ _)⟩
 .rename_i _ _ i j;have M:=bv (show Den X.kx H (.str i) x from J);have F:=bv (show Den X.kx H (.str j) y from L);subst M F;exact wX d s w H _ _ v u Q I G O ⟨i,j,rfl,rfl,ho.1,f _ _ H ho.2 R (zk _) (Frm.refl _ _)⟩
 .rename_i _ _ ds es;obtain⟨a,D,rfl,P,C⟩:=bF (show Den X.kx H (.tuple ds) x from J);obtain⟨b,T,rfl,S,B⟩:=bF (show Den X.kx H (.tuple es) y from L);obtain⟨Y,ho⟩:=ho
  by_cases Z:D=[]
  .subst Z
   cases G;cases O
   obtain⟨o,r,p1,_⟩:=I.tuple P;obtain⟨c,z,p2,_⟩:=I.tuple S;cases r;obtain⟨⟨cls,V,N,U⟩,h,E,n,hd⟩:=id p1;obtain⟨⟨K,A,q,t⟩,l,k,n2,g⟩:=id p2;simp only at E hd k g;subst E hd k g;have W:ds=[]:=by cases ds with|nil=>rfl|cons _ _=>have:=C.length;simp at this
   subst W;exact agh ⟨_,h,rfl⟩ ⟨_,l,rfl⟩ af1 aha aen aed (adP _ _)
    (tuple_addW0 a b _ c.toArray n n2 V A U t (by simp)) ⟨h,l,⟨.ref b,H,I,rfl,f _ _ H ho R (show Den X.kx H (.tuple ([]++es)) (.ref b)from L) (Frm.refl _ _)⟩⟩
  .refine LG d s w H _ _ v u Q I G O ⟨a,b,D,T,rfl,rfl,P,S,Z,by rw[<-C.length,<-B.length];exact Y,λe=>?_,λe p hp=>?_⟩
   .subst e;have W:es=[]:=by cases es with|nil=>rfl|cons _ _=>have:=B.length;simp at this
    subst W;exact f _ _ H (by rw[aaV]at ho;exact ho) R (kj J) (Frm.refl _ _)
   .exact f _ _ _ ho (R.lay hp) (kj<|cF (SqT.of ai) ((C.append B).mono (bf (.inl hp)))) (cf hp)
 .obtain⟨ds,es,M,F,Y,ho⟩:=ho;obtain⟨a,D,rfl,P,C⟩:=J.list R M;obtain⟨b,T,rfl,S,B⟩:=L.list R F
  cases G;cases O
  obtain⟨o,r,⟨⟨cls,V,N,U⟩,n,h,E,hdd,hd⟩,_⟩:=I.list P;obtain⟨c,z,⟨⟨K,A,q,t⟩,n2,l,k,hdd2,g⟩,_⟩:=I.list S;simp only at E hd k g;subst E hd k g;have hzz:D.length+T.length≤aag:=by rw[<-C.length,<-B.length];exact Y
  refine agh ⟨_,h,rfl⟩ ⟨_,l,rfl⟩ noFill_list_add seq_list_add PySem.F.slot_list_add PySem.F.entry_list_add (PySem.F.args_list_add_2 _ _) (list_addW a b o.toArray c.toArray n n2 V A U t (by have:=r.length;have:=z.length;simp only[aaw];omega)) ⟨h,l,?_⟩;have ea:o.toArray++c.toArray=(o++c).toArray:=by simp
  rw[ea];have hp:H s.heap.objs.size=none:=I.fresh;exact⟨.ref _,_,I.lnew (t':=s.toks) (r.append z) (by rw[aap];omega),rfl,f _ _ _ ho (R.lay hp) ⟨_,D++T,rfl,hp,ai,(C.append B).mono (bf (.inl hp))⟩ (cf hp)⟩
noncomputable def oII(C:Int->Int->Prop)(g:Int->Int->Int):WO
 | .imm (.int i),.imm (.int j),_,K=>C i j/\K (.imm (.int (g i j)))
 |_,_,_,_=>False
noncomputable def oIB(g:Int->Int->Bool):WO
 | .imm (.int i),.imm (.int j),_,K=>K (.imm (.bool (g i j)))
 |_,_,_,_=>False
theorem rb{f:mT->mT->Sem mT}{C:Int->Int->Prop}{g:Int->Int->Int}(h:OpR X f (rI C λi j=>.int (g i j))):OpR X f (rM X.kx (oII C g)):=by
 rintro p s a H x y v u Q I r l ⟨o,m,q,w,t,r1,n,K,R,c,d,ho,b⟩;unfold oII at ho
 split at ho
 .rename_i _ _ i j;have k:=aF (show Den X.kx H _ x from c);have e:=aF (show Den X.kx H _ y from d);subst k e;exact h p s a H _ _ v u Q I r l ⟨i,j,rfl,rfl,ho.1,b _ _ H ho.2 R (fw _) (Frm.refl _ _)⟩
 .simp_all
theorem yF{f:mT->mT->Sem mT}{g:Int->Int->Bool}(h:OpR X f (rI0 λi j=>.bl (g i j))):OpR X f (rM X.kx (oIB g)):=by
 rintro p s a H x y v u Q I r l ⟨o,m,q,w,t,r1,n,K,R,c,d,ho,b⟩;unfold oIB at ho
 split at ho
 .rename_i _ _ i j;have k:=aF (show Den X.kx H _ x from c);have e:=aF (show Den X.kx H _ y from d);subst k e;exact h p s a H _ _ v u Q I r l ⟨i,j,rfl,rfl,b _ _ H ho R (om _) (Frm.refl _ _)⟩
 .simp_all
noncomputable def oSub:WO:=oII (λ_ _=>True) λi j=>i-j
theorem sY:OpR X (acx .Sub) (rM X.kx oSub):=rb (opI λ_ _ _ _ _ _ _ _ q=>sub_int q)
noncomputable def oMul:WO:=oII afZ λi j=>i*j
theorem J5:OpR X (acx .Mult) (rM X.kx oMul):=rb (opI λ_ _ _ _ _ _ _ h q=>mul_int q h)
noncomputable def CFd(_ j:Int):Prop:=0<j/\j.natAbs.log2<9000
noncomputable def SD:WO:=oII CFd λi j=>i/j
theorem cR:OpR X (acx .FloorDiv) (rM X.kx SD):=rb (opI λi j _ _ _ _ _ h q=>floordiv_int (by have:=h.1;omega) (by rw[Int.fdiv_eq_ediv_of_nonneg _ (by have:=h.1;omega)];exact q) (.inl (PyProof.noPylong_of_log2 h.2)))
noncomputable def oMod:WO:=oII (λ_ j=>0<j) λi j=>i%j
theorem dj:OpR X (acx .Mod) (rM X.kx oMod):=rb Qj
noncomputable def oPow:WO:=oII CPow λi j=>i^j.toNat
theorem Ll:OpR X (acx .Pow) (rM X.kx oPow):=rb QU
noncomputable def oLt:WO:=oIB λi j=>decide (i<j)
noncomputable def oGt:WO:=oIB λi j=>decide (j<i)
noncomputable def oGe:WO:=oIB λi j=>decide (j≤i)
theorem ji:OpR X (abr .Lt) (rM X.kx oLt):=yF UX
theorem l8:OpR X (abr .Gt) (rM X.kx oGt):=yF Vx
theorem Po:OpR X (abr .GtE) (rM X.kx oGe):=yF Vp
noncomputable def eqD(f:Bool->Bool):WO:=λr1 r m K=>match asD m r1,asD m r with
 |some d1,some d2=>adk d1=true/\adk d2=true/\K (.imm (.bool (f (aak d1 d2))))
 |_,_=>False
noncomputable def eqS(f:Bool->Bool):WO:=λr1 r m K=>∃x y:Str,r1 = .imm (.str x)/\r = .imm (.str y)/\K (.imm (.bool (f (decide (x=y)))))
noncomputable def eqSs(f:Bool->Bool):WO:=λr1 r m K=>∃x y:List Str,lsOf m r1=some (x.map .str)/\lsOf m r=some (y.map .str)/\x.length=y.length/\K (.imm (.bool (f (decide (x=y)))))
noncomputable def oEq:WO:=λr1 r m K=>eqD id r1 r m K\/eqS id r1 r m K\/eqSs id r1 r m K
noncomputable def oNe:WO:=λr1 r m K=>eqD (!·) r1 r m K\/eqS (!·) r1 r m K
theorem gQ{K:Kd}{H:Hp}:∀{ns:List Str}{xs:List V},DenAll K H (ns.map .str) xs->xs=ns.map V.str
 |[],_,h=>by simpa only[ DenAll]
 |n::ns,_,h=>by
  obtain⟨v,vs,rfl,b,a⟩:=h;have e:=bv b;rw[e,gQ a];rfl
theorem oA:∀{ns:List Str}{a:List mT}{j:Nat}{u:mT},Vals (ns.map V.str) a->a[j]?=some u->∃x t,ns[j]?=some x/\u = .str x t
 |[],_,_,_,.nil,e=>by simp at e
 |n::ns,_,0,_,.cons r _,e=>by
  simp at e;subst e;obtain⟨t,h⟩:=r;exact⟨n,t,rfl,h⟩
 |n::ns,_,j+1,u,.cons _ t,e=>by
  obtain⟨x,c,b,d⟩:=oA t ‹_›;exact⟨x,c,by simpa using b,d⟩
theorem tU(xs ys:List Str)(h:xs.length=ys.length):(aaH xs.length).all (λj=>decide (xs.getD j ahK=ys.getD j ahK))=decide (xs=ys):=by
 rw[aca,abJ,decide_eq_true_eq];constructor
 .intro q;apply af3 h;intro i b a;have:=q i (by simpa);rw[decide_eq_true_eq,aar,aar,iO b,iO a]at this;exact this
 .rintro rfl j _;exact decide_eq_true rfl
theorem Lq{s:oR}{x y:V}{v u:mT}{m:MSt}{r1 f:R}{xs ys:List Str}(I:Inv X pins σ' H s)(h:Rel X.kx α m σ H)(p:RelR X.kx α H0 H r1 x)(q:RelR X.kx α H1 H f y)(o:RelV x v)(C:RelV y u)
  (D:lsOf m r1=some (xs.map .str)) (n:lsOf m f=some (ys.map .str)) (T:xs.length=ys.length) (U:X.A.units+64<cLine):∃l b c i,v = .ref l/\u = .ref b/\s.heap.IsList l c/\s.heap.IsList b i/\c.size=xs.length/\i.size=xs.length/\
   ∀j (J:j<c.size) (N:j<i.size),age X.A.in1 s c[j] i[j] (decide (xs.getD j ahK=ys.getD j ahK)):=by
 obtain⟨a,Y,rfl,K,G⟩:=p.list h D;obtain⟨b,W,rfl,w,E⟩:=q.list h n;have Q:=gQ G;have O:=gQ E;subst Q O
 cases o;cases C
 obtain⟨c,d,M,_⟩:=I.list K;obtain⟨i,r,P,_⟩:=I.list w;have g:=d.length;have k:=r.length;rw[gE]at g k;refine⟨a,b,c.toArray,i.toArray,rfl,rfl,M.isList,P.isList,by simp[g],by simp[<-k,T],λj J N=>?_⟩;obtain⟨x,t,z,L⟩:=oA d (j:=j) (u:=c.toArray[j]) (by simp);obtain⟨y,S,B,F⟩:=oA r (j:=j) (u:=i.toArray[j]) (by simp);rw[L,F,aar,aar,z,B];have:=age.str_str (A:=X.A.in1) (s:=s) x t y S;have e:(x==y)=decide (x=y):=by rw[aew]
 simp_all
theorem cv(i:X.A.units+64<cLine):OpR X (abr .Eq) (rM X.kx oEq):=by
 rintro p s d H x y v u Q I r g ⟨B,m,C,E,D,r1,A,K,R,h,c,ho,f⟩;rcases ho with ho|⟨z,t,rfl,rfl,ho⟩|⟨k,o,a,e,j,ho⟩
 .unfold eqD at ho
  split at ho
  .rename_i d1 d2 a e;obtain⟨w,n⟩:=h.reads I R r a (abo _ (adl ho.1));obtain⟨bs,q⟩:=c.reads I R g e (abo _ (adl ho.2.1));exact eq_dataH n q ho.1 ho.2.1 i ⟨.bl _,H,I,rfl,f _ _ H ho.2.2 R (om _) (Frm.refl _ _)⟩
  .exact ho.elim
 .have a:=bv (show Den X.kx H (.str z) x from h);have e:=bv (show Den X.kx H (.str t) y from c);subst a e;refine UV p s d H _ _ v u Q I r g ⟨rfl,?_⟩;rw[oJ];exact f _ _ H ho R (om _) (Frm.refl _ _)
 .obtain⟨l,b,its,its2,rfl,rfl,p1,p2,s1,s2,he⟩:=Lq I R h c r g a e j i;refine SeqAt.eq_listAt p1 p2 (s1.trans s2.symm) (by omega) he ?_;rw[s1,tU k o j];exact⟨.bl _,H,I,rfl,f _ _ H ho R (om _) (Frm.refl _ _)⟩
theorem kQ(d:X.A.units+64<cLine):OpR X (abr .NotEq) (rM X.kx oNe):=by
 rintro p s a H x y v u Q I r c ⟨k,m,l,o,n,r1,j,K,R,h,b,ho,f⟩;rcases ho with ho|⟨z,t,rfl,rfl,ho⟩
 .unfold eqD at ho
  split at ho
  .rename_i d1 d2 e1 e;obtain⟨i,g⟩:=h.reads I R r e1 (abo _ (adl ho.1));obtain⟨bs,q⟩:=b.reads I R c e (abo _ (adl ho.2.1));exact ne_dataH g q ho.1 ho.2.1 d ⟨.bl _,H,I,rfl,f _ _ H ho.2.2 R (om _) (Frm.refl _ _)⟩
  .simp_all
 .have e1:=bv (show Den X.kx H (.str z) x from h);have e:=bv (show Den X.kx H _ y from b);subst e1 e;refine Vw p s a H _ _ v u Q I r c ⟨rfl,?_⟩;rw[oJ];exact f _ _ H ho R (om _) (Frm.refl _ _)
noncomputable def Cn:R->Bool
 | .imm .none=>true
 |_=>false
noncomputable def yI:WO:=λr1 r _ K=>r = .imm .none/\K (.imm (.bool (!Cn r1)))
theorem wM(h:RelR K α Hb H r v):decide (v = .non)=Cn r:=by
 cases r with
 |obj k=>obtain⟨a,_,rfl⟩:=h;rfl
 |new ds=>obtain⟨a,_,rfl,_⟩:=h;rfl
 | «at» k p=>obtain⟨f,a,_,_,rfl⟩:=h;rfl
 |newT t=>obtain⟨f,a,rfl,_⟩:=h;rfl
 |imm d=>
  cases d with
  |none=>have e:=mh (show Den K H .none v from h);subst e;rfl
  |bool b=>have e:=kl (show Den K H _ v from h);subst e;rfl
  |int b=>have e:=aF (show Den K H _ v from h);subst e;rfl
  |str b=>have e:=bv (show Den K H _ v from h);subst e;rfl
  |list ds=>have c:=h;obtain⟨a,_,rfl,_⟩:=c;rfl
  |tuple ds=>obtain⟨a,_,rfl,_⟩:=bF (h);rfl
  |dict g=>have c:=h;obtain⟨a,rfl,_⟩:=c;rfl
theorem xR:OpR X (abr .IsNot) (rM X.kx yI):=by
 rintro p s a H x y v u Q I r d ⟨i,m,j,l,k,r1,g,K,R,h,c,ho,f⟩;obtain⟨e,ho⟩:=ho;subst e;have b:=mh (show Den X.kx H .none y from c);exact Oo p s a H _ _ v u Q I r d ⟨b,by rw[wM h];exact f _ _ H ho R (om _) (Frm.refl _ _)⟩
noncomputable def uNeg:WU
 | .imm (.int i),_,K=>K (.imm (.int (-i)))
 |_,_,_=>False
theorem nh:UnR X (unaryOp .USub) (uM X.kx uNeg):=by
 rintro p s a H x v Q I r ⟨b,m,c,d,r1,K,R,h,ho,f⟩;unfold uNeg at ho
 split at ho
 .rename_i _ i;have e:=aF (show Den X.kx H _ x from h);subst e;exact TQ p s a H _ v Q I r ⟨i,rfl,f _ _ H ho R (fw _) (Frm.refl _ _)⟩
 .simp_all
noncomputable def yo(m:MSt)(K:R->Prop):R->R->Prop
 | .imm (.tuple ds),.imm (.int i)=>∃d,atI ds i=some d/\K (.imm d)
 | .imm (.str x),.imm (.int i)=>∃c,x.length≤aag/\atI x.cps.toList i=some c/\K (.imm (.str ⟨#[c]⟩))
 |r,.imm (.int i)=>∃ds d,lsOf m r=some ds/\atI ds i=some d/\K (.imm d)
 |_,_=>False
noncomputable def o6:WO:=λr1 r m K=>yo m K r1 r
theorem Bq{K:Kx}{i:Int}{d:dL}(g:DenAll K H ds xs)(e:atI ds i=some d):∃v,atI xs i=some v/\Den K H d v:=by
 unfold atI at e⊢;rw[<-g.length]
 cases q:ixN ds.length i with
 |none=>rw[q]at e;cases e
 |some j=>
  rw[q]at e;obtain⟨v,h,a⟩:=g.get (e);exact⟨v,h,a⟩
theorem Ki:IxR X (rM X.kx o6):=by
 rintro b h p s n H x y v u Q I A E ⟨M,m,N,P,O,r1,F,K,R,B,C,ho,o⟩ l;have j:yo m K r1 F:=ho;unfold yo at j
 split at j
 .rename_i ds i;obtain⟨d,e,k⟩:=j;obtain⟨a,r,rfl,f,g⟩:=bF (B);have q:=aF (show Den X.kx H (.int i) y from C);obtain⟨z,t,D⟩:=Bq g e;exact Pc b h p s n H _ _ v u Q I A E ⟨a,r,i,z,rfl,q,f,t,o _ _ H k R (kj D) (Frm.refl _ _)⟩ l
 .rename_i w i;obtain⟨c,J,e,k⟩:=j;have G:=bv (show Den X.kx H (.str w) x from B);have q:=aF (show Den X.kx H (.int i) y from C);exact Rb b h p s n H _ _ v u Q I A E ⟨w,i,c,G,q,J,e,o _ _ H k R (zk _) (Frm.refl _ _)⟩ l
 .rename_i i _ _;obtain⟨ds,d,L,e,k⟩:=j;obtain⟨a,r,rfl,f,g⟩:=B.list R L;have q:=aF (show Den X.kx H (.int i) y from C);obtain⟨z,t,D⟩:=Bq g e;exact LH b h p s n H _ _ v u Q I A E ⟨a,r,i,z,rfl,q,f,t,o _ _ H k R (kj D) (Frm.refl _ _)⟩ l
 .exact j.elim
theorem U9{a b:Expr}{w c:WE}(ha:ME X a w)(hb:ME X b c)(hs:tq b:=by intro _ _;rfl):ME X (.Subscript a b pos) (wBin o6 w c):=(V7 Ki ha hb hs).wk λ_ _ _ h=>vy h
end
noncomputable def pg(P:Int->Prop):R->Prop
 | .imm (.int i)=>P i
 |_=>False
noncomputable def p9(P:Nat->Prop):R->Prop
 | .obj k=>P k
 |_=>False
noncomputable def on1(P:R->Prop):List R->Prop
 |[r]=>P r
 |_=>False
section
variable {K:Kx}{b:Al}{c H:Hp}{r:R}{v:V}
theorem AE{P:Int->Prop}(rr:RelR K b c H r v)(h:pg P r):∃i,r = .imm (.int i)/\v = .int i/\P i:=by
 unfold pg at h
 split at h
 .exact⟨_,rfl,aF (K:=K) (H:=H) rr,h⟩
 .simp_all
theorem uE{P:Nat->Prop}(rr:RelR K b c H r v)(h:p9 P r):∃k a,r = .obj k/\b[k]?=some (.L a)/\v = .ref a/\P k:=by
 unfold p9 at h
 split at h
 .obtain⟨a,e1,e2⟩:=rr;exact⟨_,a,rfl,e1,e2,h⟩
 .simp_all
theorem d6{P:R->Prop}{rs:List R}(rr:RelRs K b c H rs xs)(h:on1 P rs):∃r v,rs=[r]/\xs=[v]/\RelR K b c H r v/\P r:=by
 cases rr with
 |nil=>exact h.elim
 |cons a t=>
  cases t with
  |nil=>exact⟨_,_,rfl,rfl,a,h⟩
  |cons _ _=>exact h.elim
end
section
variable {X:Cx}{o a b c e:Expr}{es:List Expr}{A J L M B G:WE}{E:WA}{pos C y:Pos}
noncomputable abbrev WM:=R->List R->MSt->(R->MSt->Prop)->Prop
noncomputable def mM(K:Kx)(ob:WM):V->List V->Hp->VK->Prop:=λx j H Q=>∃d m i l k r rs h,Rel K d m i H/\RelR K d l H r x/\RelRs K d k H rs j/\ob r rs m h/\∀r g v f,h r g->g.np=m.np->Rel K d g i f->RelR K d H f r v->Frm d H f->Q v f
noncomputable def wML(ob:WM)(A:WE)(E:WA):WE:=λm K=>A m λr m1=>(∃ds,lsOf m1 r=some ds)/\E m1 λrs m2=>ob r rs m2 K
theorem U6{ob:WM}(h:tM X.kx (wML ob A E) σ H Q):tBM X.K "list" (mM X.kx ob) (tM X.kx A) (tMA X.kx E) σ H Q:=by
 obtain⟨p,m,K,u,z,s⟩:=h;refine⟨p,m,_,u,z,λr m1 v I k n1 R rr t=>?_⟩;obtain⟨⟨ds,N⟩,k⟩:=k;obtain⟨a,x,rfl,f,g⟩:=rr.list R N;refine⟨.inl ⟨rfl,x,f⟩,p,m1,_,R,k,λrs m2 vs P O n2 d q j=>?_⟩;exact⟨p,m2,σ,H,I,r,rs,K,d,rr.keep u R j,q,O,λr D v w k n l i F=>s r D v w k (n.trans (n2.trans n1)) l (i.base d (t.trans j)) ((t.trans j).trans F)⟩
theorem U7{name:Str}{id:String}{ob:WM}(slot:Slot "list" name id)(j:agm (.builtin id)=pure (.type "method_descriptor"))(k:MtM X id (mM X.kx ob))(ho:ME X o A)(ha:MA X (e::es) E)
  (f:abg o name X.env (eval o X.env)=eval o X.env:=by rfl)
  (i:((ab1 y (aad (e::es) X.env)).all (λx=>!x.1)&&(afq y (adA [] X.env)).all (λx=>x.1.isSome)
   && decide ((e::es).length+([]:List adi).length+(if ([]:List adi).isEmpty then 0 else 1)<30))=true:=by rfl)
  (g:(C.endLine==y.line)=true:=by rfl) (hs:aad (e::es) X.env=(false,eval e X.env)::aad es X.env:=by first|exact aE rfl|rfl) (d:(ab1 y (aad es X.env)).any (·.1)=false:=by rfl) :
  ME X (.Call (.Attribute o name C) (e::es) [] y) (wML ob A E):=(Tq af4 slot j k ho ha f i g hs d).wk λ_ _ _ h=>U6 h
noncomputable def zx:WM:=λr rs m K=>p9 (λk=>on1 (cx λd=>∃ds,m.os[k]?=some ds/\ds.length<aag/\K (.imm .none) {m with os:=m.os.set k (ds++[d])}) rs) r
theorem gn:MtM X "list.append" (mM X.kx zx):=by
 rintro p s f H x K v u Q I l D ⟨P,m,S,V,U,r,rs,N,R,n,h,ho,i⟩;obtain⟨k,a,rfl,j,rfl,ho⟩:=uE n ho;obtain⟨O,T,rfl,rfl,h,ho⟩:=d6 h ho;obtain⟨d,rfl,hd,ds,t,w,ho⟩:=dB h ho;obtain⟨z,q,g⟩:=R.own _ _ ds j t;obtain⟨R2,F⟩:=R.setO j q (g.append (DenAll.cons hd DenAll.nil));exact qG p s f H _ _ v u Q I l D ⟨a,z,_,rfl,rfl,q,by rw[<-g.length];exact w,i _ _ _ _ ho rfl R2 ve F⟩
noncomputable def JA(B A G:WE):WS:=λD m=>B m λh m1=>cx (λd=>A m1 λg m2=>G m2 λr f=>p9 (λk=>pg (λz=>∃ds j,f.os[k]?=some ds/\ixN ds.length z=some j/\D.nx {f with os:=f.os.set k (ds.set j d)}) r) g) h
theorem MJ{b i:Expr}(T:ME X e B)(ho:ME X b A)(hi:ME X i G)(hs:ada [.Subscript b i pos'] e pos.line X.env=pure false:=by rfl)(x:adb [.Subscript b i pos'] e X.env=pure none:=by rfl)
  (S:(abF [.Subscript b i pos'] X.env).map (·.2)=[ad4 (.Subscript b i pos') X.env]:=by rfl) (ha:∀v,ad4 (.Subscript b i pos') X.env v=(do
   let h <- adw [v] (eval b X.env)
   let t <- adw [v,h] (eval i X.env)
   adv pos'
   adw [v,h,t] (ahq h t v)
   release [v,h,t] []):=by intro _;rfl):MS X (.Assign [.Subscript b i pos'] e pos) (JA B A G):=(Jc T (Uv ho hi FG ha) hs x S).wk<|by
 rintro D Z H ⟨s,m,De,Rl,x,k⟩;refine⟨s,m,_,Rl,x,λr m1 v H1 q n1 f rr W=>?_⟩;obtain⟨d,er,hd,q⟩:=dB rr q;refine⟨s,m1,_,f,q,λro m2 h H2 Y n2 R u I=>⟨s,m2,_,R,Y,λri m3 t H3 n Q l w K=>?_⟩⟩;obtain⟨kk,p,rfl,N,rfl,n⟩:=uE u n;obtain⟨z,rfl,rfl,ds,j,U,P,n⟩:=AE w n;obtain⟨ys,q,g⟩:=l.own _ _ ds N U;have F:=(hd.mono (f.pers I)).mono (R.pers K);obtain⟨O,V⟩:=l.setO N q (g.set F j);exact⟨p,ys,z,j,rfl,rfl,q,by rw[<-g.length];exact P,k.nx s _ Z _ n (Q.trans (n2.trans n1)) O (.of O (((W.trans I).trans K).trans V))⟩
noncomputable def lenR(m:MSt)(K:R->Prop):R->Prop
 | .imm (.str x)=>x.length≤aag/\K (.imm (.int x.length))
 | .imm (.tuple ds)=>K (.imm (.int ds.length))
 |r=>∃ds,lsOf m r=some ds/\K (.imm (.int ds.length))
noncomputable def oLen:WC:=λrs m K=>on1 (lenR m K) rs
theorem aW:dn X (.builtin "len") (cM X.kx oLen):=by
 rintro p s d H n u Q I l ⟨q,m,t,w,rs,K,R,h,ho,i⟩;obtain⟨r,v,rfl,rfl,j,ho⟩:=d6 h ho;unfold lenR at ho
 split at ho
 .rename_i x _;have e:=bv (show Den X.kx H _ _ from j);subst e;exact q9 p s d H _ u Q I l ⟨x,rfl,ho.1,i _ _ H ho.2 R (fw _) (Frm.refl _ _)⟩
 .obtain⟨a,k,rfl,f,g⟩:=bF (j);exact jj p s d H _ u Q I l ⟨a,k,rfl,.inr f,by rw[<-g.length];exact i _ _ H ho R (fw _) (Frm.refl _ _)⟩
 .obtain⟨ds,el,ho⟩:=ho;obtain⟨a,k,rfl,f,g⟩:=j.list R el;exact jj p s d H _ u Q I l ⟨a,k,rfl,.inl f,by rw[<-g.length];exact i _ _ H ho R (fw _) (Frm.refl _ _)⟩
noncomputable def oAbs:WC:=λrs m K=>on1 (pg λi=>K (.imm (.int (if i<0 then -i else i)))) rs
theorem pG:dn X (.builtin "abs") (cM X.kx oAbs):=by
 rintro p s d H x u Q I j ⟨k,m,l,n,rs,K,R,h,ho,f⟩;obtain⟨r,v,rfl,rfl,g,ho⟩:=d6 h ho;obtain⟨i,rfl,rfl,ho⟩:=AE g ho;exact D5 p s d H _ u Q I j ⟨i,rfl,f _ _ H ho R (fw _) (Frm.refl _ _)⟩
noncomputable def intR(K:R->Prop):R->Prop
 | .imm (.int i)=>K (.imm (.int i))
 | .imm (.bool b)=>K (.imm (.int (if b then 1 else 0)))
 |_=>False
noncomputable def oInt:WC:=λrs m K=>on1 (intR K) rs
theorem AA:dn X (.type "int") (cM X.kx oInt):=by
 rintro p s d H x u Q I j ⟨k,m,l,n,rs,K,R,h,ho,f⟩;obtain⟨r,v,rfl,rfl,g,ho⟩:=d6 h ho;unfold intR at ho
 split at ho
 .rename_i i _;have e:=aF (show Den X.kx H _ _ from g);subst e;exact qF p s d H _ u Q I j (.inl ⟨i,rfl,f _ _ H ho R (fw _) (Frm.refl _ _)⟩)
 .rename_i i _;have e:=kl (show Den X.kx H _ _ from g);subst e;exact qF p s d H _ u Q I j (.inr ⟨i,rfl,f _ _ H ho R (fw _) (Frm.refl _ _)⟩)
 .simp_all
noncomputable def sqOf(m:MSt):R->Option (List dL)
 | .imm (.tuple ds)=>some ds
 |r=>lsOf m r
theorem RelR.seq{K:Kx}{m:MSt}(R:Rel K α m σ H)(h:RelR K α H0 H r v)(e:sqOf m r=some ds):∃a xs,v = .ref a/\(SqL K H a xs\/SqT K H a xs)/\DenAll K H ds xs:=by
 unfold sqOf at e
 split at e
 .cases e;obtain⟨a,d,e,f,g⟩:=bF (h);exact⟨a,d,e,.inr f,g⟩
 .obtain⟨a,d,e,f,g⟩:=h.list R e;exact⟨a,d,e,.inl f,g⟩
noncomputable def I9:WC:=λrs m K=>on1 (λr=>∃ds,sqOf m r=some ds/\K (.imm (.tuple ds))) rs
theorem di:dn X (.type "tuple") (cM X.kx I9):=by
 rintro p s i H x u Q I q ⟨t,m,w,z,rs,K,R,h,ho,d⟩;obtain⟨r,v,rfl,rfl,k,ho⟩:=d6 h ho
 .obtain⟨ds,e,ho⟩:=ho;obtain⟨a,n,rfl,f,g⟩:=k.seq R e;refine oH p s i H _ u Q I q ⟨a,n,rfl,?_⟩;rcases f with f|f
  .exact .inl ⟨f,λl j=>d _ _ _ ho (R.lay j) (kj (cF (SqT.of ai) (g.mono (bf (.inl j))))) (cf j)⟩
  .exact .inr ⟨f,d _ _ _ ho R (kj (cF f g)) (Frm.refl _ _)⟩
noncomputable def Lw:WC:=λrs m K=>on1 (λr=>∃d,asD m r=some d/\d.showable=true/\d.hasDict=false/\d.shown.length≤aag/\d.depth≤100/\K (.imm (.str d.shown))) rs
theorem lW(O:X.A.guards=some [])(Y:X.A.units+200<cLine):dn X (.builtin "repr") (cM X.kx Lw):=by
 rintro p s K H U us Q I T ⟨α,m,σ,H0,rs,V,R,h,ho,N⟩;obtain⟨r,v,rfl,rfl,S,ho⟩:=d6 h ho
 .obtain⟨d,e,hs,hnd,hz,hdp,ho⟩:=ho;obtain⟨u,rfl,P⟩:=T.one;obtain⟨Z,q⟩:=S.reads I R P e hnd;have done:∀f j g,_->EP X p K Q (.str d.shown j) {s with heap:=g,toks:=f}:=λf j g k=>⟨.str d.shown,H,I.kept (t':=f) k,⟨_,rfl⟩,N _ _ H ho R (zk _) (Frm.refl _ _)⟩
  cases q with
  |none=>exact PySem.P.repr_of_none (done _ _ _ λ_ _ z=>z)
  |bool b=>
   have:=done (s.toks+1) s.toks s.heap λ_ _ z=>z;simp only[ago]at this;exact PySem.P.repr_of_bool (by cases b<;>exact this)
  |int i t=>
   refine PySem.P.repr_of_int (by simpa[dL.showable]using hs) ?_;have:=done (s.toks+1) s.toks s.heap λ_ _ z=>z;simp only[ago]at this;exact this
  |str x t=>
   have F:=by simpa only[ago]using hz
   refine PySem.P.repr_of_str ?_ F;have:=done (s.toks+1) s.toks s.heap λ_ _ z=>z;simp only[ago]at this;exact this
  |list l n w D=>exact repr_of_reads' (.list l n w D) hs (ahw hnd) O (by omega) (λ_ _ z=>z) (λg u f k=>done f u g k) hz
  |tuple l n w D=>exact repr_of_reads' (.tuple l n w D) hs (ahw hnd) O (by omega) (λ_ _ z=>z) (λg u f k=>done f u g k) hz
  |dict l n w D W=>simp[acX]at hnd
noncomputable def sM(K:Kx)(o:R->Option Int->Option Int->MSt->(R->Prop)->Prop):V->Option Int->Option Int->Hp->VK->Prop:=λx l i H Q=>∃d m h j r g,Rel K d m h H/\RelR K d j H r x/\o r l i m g/\∀r v f,g r->Rel K d m h f->RelR K d H f r v->Frm d H f->Q v f
noncomputable def cutD(xs:List dL)(lo h:Option Int):List dL:=(xs.drop (HT.sIx xs.length 0 lo)).take (HT.sIx xs.length xs.length h-HT.sIx xs.length 0 lo)
theorem zo(g:DenAll K H ds xs)(lo h:Option Int):DenAll K H (cutD ds lo h) (cutV xs lo h):=by
 unfold cutD cutV;rw[<-g.length];exact(g.drop _).take _
noncomputable def V9:R->Option Int->Option Int->MSt->(R->Prop)->Prop:=λr l h m K=>∃ds,lsOf m r=some ds/\K (.new (cutD ds l h))
theorem Gi:SlR X (sM X.kx V9):=by
 intro d s i H x v vl D l n z Q I q hs t u w;obtain⟨N,m,O,P,r,K,R,h,⟨ds,e,k⟩,j⟩:=w;obtain⟨a,F,rfl,f,g⟩:=h.list R e;exact Lz d s i H _ v vl D l n z Q I q hs t u ⟨a,F,rfl,f,λp hp=>j _ _ _ k (R.lay hp) ⟨p,_,rfl,hp,ai,(zo g l n).mono (bf (.inl hp))⟩ (cf hp)⟩
noncomputable def WO1:=MSt->(Option Int->MSt->Prop)->Prop
noncomputable def tMO(K:Kx)(w:WO1):TO:=λi H Q=>∃f m h,Rel K f m i H/\w m h/\∀r d g,h r d->d.np=m.np->Rel K f d i g->Frm f H g->Q r g
noncomputable def uk:WO1:=λm K=>K none m
noncomputable def Ls(w:WE):WO1:=λm K=>w m λr d=>pg (λi=>K (some i) d) r
theorem PO.wk{X:Cx}{e:Option Expr}{t t':TO}(h:PO X e t)(k:∀d H Q,t' d H Q->t d H Q):PO X e t':=λp s d H Q I q=>h p s d H Q I (k _ _ _ q)
noncomputable abbrev MO(X:Cx)(e:Option Expr)(w:WO1):Prop:=PO X e (tMO X.kx w)
theorem On:MO X none uk:=(KH).wk<|by rintro g H Q ⟨d,m,K,R,h,f⟩;exact f none m H h rfl R (Frm.refl _ _)
theorem JI(h:ME X e B):MO X (some e) (Ls B):=(K8 h).wk<|by
 rintro n H Q ⟨d,m,K,l,g,f⟩;refine⟨d,m,_,l,g,λr m1 v j k n1 R rr F=>?_⟩;obtain⟨i,rfl,rfl,k⟩:=AE rr k;exact⟨i,rfl,f _ m1 j k n1 R F⟩
noncomputable def wSl(ob:R->Option Int->Option Int->MSt->(R->Prop)->Prop)(B:WE)(g w:WO1):WE:=λm K=>B m λr m1=>g m1 λl m2=>w m2 λu d=>ob r l u d λf=>K f d
theorem D6{P:Pos}(hr:SlR X (sM X.kx ob))(z:ME X e B)(V:MO X lo wl)(t:MO X hi wh):ME X (.Subscript e (.Slice lo hi none P) pos) (wSl ob B wl wh):=(DG hr z V t).wk<|by rintro S H Q ⟨g,m,Kc,j,T,h⟩;exact
 ⟨g,m,_,j,T,λr m1 v Y k n1 d rr s=>⟨g,m1,_,d,k,λl m2 Z K n2 R n=>⟨g,m2,_,R,K,λu q W N w f F=>⟨g,q,S,H,r,_,f,(rr.keep j d n).keep j R F,N,λU x D O p i I=>h U q x D O (w.trans (n2.trans n1)) p (i.base f ((s.trans n).trans F)) (((s.trans n).trans F).trans I)⟩⟩⟩⟩
end
noncomputable def agV:Nat->List Ag->List (Option R)
 |_,[]=>[]
 |k,.imm d::as=>some (.imm d)::agV k as
 |k,.own _::as=>some (.obj k)::agV (k+1) as
 |k,.tr _::as=>some (.at k [])::agV (k+1) as
noncomputable def agO:List Ag->List (List dL)
 |[]=>[]
 | .imm _::as=>agO as
 | .own ds::as=>ds::agO as
 | .tr t::as=>[t]::agO as
noncomputable def fq(n:Nat)(as:List Ag):MSt:=⟨agV 0 as++aam (n-as.length) none,agO as,(agO as).length⟩
noncomputable def outR(m:MSt):R->R
 | .imm d=>.imm d
 | .new ds=>.new ds
 | .newT t=>.newT t
 | .obj k=>if k<m.np then .obj k else .new (m.os.getD k [])
 | .at k p=>if k<m.np then .at k p else match p,m.os[k]? with
  |[],some [t]=>.newT t
  |_,_=>.at k p
theorem cY:∀(k:Nat) (as:List Ag),(agV k as).length=as.length
 |_,[]=>rfl
 |k,.imm d::as=>by simp[agV,cY k as]
 |k,.own _::as=>by simp[agV,cY (k+1) as]
 |k,.tr _::as=>by simp[agV,cY (k+1) as]
section
variable {K:Kx}{H:Hp}
theorem RelAs.facts{K:Kd}:∀{as:List Ag}{vs:List V}{β:Al}{pre:Al},RelAs K H as vs β ->
  (agO as).length=β.length/\(∀(k:Nat) (ao:Ao) (ds:List dL),β[k]?=some ao->(agO as)[k]?=some ds->OwnAt K H ao ds)/\
   ∀(i:Nat) (r:R),(agV pre.length as)[i]?=some (some r)->∃v,vs[i]?=some v/\RelS K (pre++β) H r v
 |_,_,_,_,.nil=>⟨rfl,λk a ds h=>by simp at h,λi r h=>by simp[agV]at h⟩
 | _,_,β,pre,.imm (as:=as) hd t=>by
  obtain⟨f,g,d⟩:=t.facts (pre:=pre);refine⟨f,g,λi r h=>?_⟩
  cases i with
  |zero=>simp[agV]at h;subst h;exact⟨_,rfl,hd⟩
  |succ i=>
   obtain⟨v,e,q⟩:=d i r (by simpa[agV]using h);exact⟨v,by simpa using e,q⟩
 | _,_,_,pre,.own (a:=a) (β:=β) ha t=>by
  obtain⟨f,g,d⟩:=t.facts (pre:=pre++[.L a]);refine⟨by simp[agO,f],λk b ds c z=>?_,λi r h=>?_⟩
  .cases k with
   |zero=>simp[agO]at c z;subst c;subst z;exact ha
   |succ k=>exact g k b ds (by simpa using c) (by simpa[agO]using z)
  .cases i with
   |zero=>simp[agV]at h;subst h;exact⟨_,rfl,a,by simp,rfl⟩
   |succ i=>
    obtain⟨v,e,q⟩:=d i r (by simpa[agV]using h);refine⟨v,by simpa using e,?_⟩;rw[acE]at q;exact q
 | _,_,_,pre,.tr (a:=a) (τ:=τ) (β:=β) ha el t=>by
  obtain⟨f,g,d⟩:=t.facts (pre:=pre++[.T τ]);refine⟨by simp[agO,f],λk b ds c z=>?_,λi r h=>?_⟩
  .cases k with
   |zero=>simp[agO]at c z;subst c;subst z;exact ha
   |succ k=>exact g k b ds (by simpa using c) (by simpa[agO]using z)
  .cases i with
   |zero=>simp[agV]at h;subst h;exact⟨_,rfl,τ,a,by simp,el,rfl⟩
   |succ i=>
    obtain⟨v,e,q⟩:=d i r (by simpa[agV]using h);refine⟨v,by simpa using e,?_⟩;rw[acE]at q;exact q
theorem p6(l:N.length=nN)(k:n≤nN)(m:as.length=n)(nd:(ads β).Nodup)(a:RelAs K H as vs β)(hb:K.eb.np≤(agO as).length)(c:Ext K.eb.np K.eb.be K.eb.H β H):Rel K β (fq nN as) (start N vs) H:=by
 obtain⟨h,j,d⟩:=a.facts (pre:=[]);have b:=a.length;refine⟨nd,by rw[<-h];rfl,j,?_,λi r e=>?_,by rw[<-h];exact Dl _,hb,c⟩
 .unfold start fq;simp only[aap,gE,ach,cY];omega
 .have e':(agV 0 as++aam (nN-as.length) none)[i]?=some (some r):=e
  by_cases g:i<as.length
  .rw[aaJ (by rw[cY];exact g)]at e';obtain⟨v,f,q⟩:=d i r e';refine⟨v,?_,by simpa using q⟩;unfold start;rw[aaJ (by rw[gE];omega),aae,f];rfl
  .rw[aaP (by rw[cY];omega),af0]at e'
   split at e'<;>cases e'
theorem jG{m:MSt}(r:RelAs K H as vs β)(h:m.np=(agO as).length)(R:Rel K α' m σ' H')(x:Ext (agO as).length β H α' H'):rl K H' β (m.os.take m.np)/\Frm β H H'/\β=α'.take (agO as).length:=by
 obtain⟨d,f,g⟩:=r.facts (pre:=[]);have e:α'.take (agO as).length=β:=by rw[x.pre,d,aab]
 refine⟨⟨?_,λj a ds b z=>?_⟩,x.frm,e.symm⟩
 .have:=R.npl;rw[R.len]at this
  grind
 .rw[<-e,aaR]at b;rw[h,aaR]at z
  by_cases c:j<(agO as).length
  .rw[if_pos c]at b z;exact R.own j a ds b z
  .simp_all
theorem yP{m:MSt}(E:m.np=(agO as).length)(R:Rel K α' m σ' H')(x:Ext (agO as).length β H α' H')(n:β=α'.take (agO as).length)(rr:RelR K α' H H' r v)
  (ok:∀k p,r = .at k p->k<m.np\/(p=[]/\∃t,m.os[k]?=some [t])):RelR K β H H' (outR m r) v:=by
 have out:∀{k:Nat}{c:Ao},¬k<m.np->α'[k]?=some c->∀b∈c.ads,H b=none:=λ{k c} h e b hb=>by
  rcases x.new b (ip e hb)with z|z
  .exfalso;rw[n]at z;obtain⟨j,B,f,y⟩:=gF z;rw[aaR]at f
   by_cases o:j<(agO as).length
   .rw[if_pos o]at f;exact gw R.nd e f (by omega) hb y
   .rw[if_neg o]at f;cases f
  .exact z
 have i:∀{k:Nat}{c:Ao},k<m.np->α'[k]?=some c->β[k]?=some c:=λ{k c} h e=>by
  simp_all
 cases r with
 |imm d=>exact rr
 |new ds=>exact rr
 |newT t=>exact rr
 | obj k=>
  obtain⟨a,e,rfl⟩:=rr;unfold outR
  by_cases h:k<m.np
  .simp only[h,if_true];exact⟨a,i h e,rfl⟩
  .simp only[h,if_false];have l:k<m.os.length:=by rw[<-R.len];exact(Io.mp e).1
   have D:m.os[k]?=some (m.os.getD k []):=by rw[aar,iO l];rfl
   obtain⟨w,C,A⟩:=R.own k _ _ e D;exact⟨a,w,rfl,out h e a (OR.mpr rfl),C,A⟩
 | «at» k p=>
  obtain⟨q,a,e,s,rfl⟩:=rr;unfold outR
  by_cases h:k<m.np
  .simp only[h,if_true];exact⟨q,a,i h e,s,rfl⟩
  .simp only[h,if_false];rcases ok k p rfl with z|⟨rfl,t,u⟩
   .exact(h z).elim
   .rw[u];have g:=R.own k _ _ e u;exact⟨q,a,rfl,s,((g9 α').mp R.nd).1 _ (DL e),out h e,g⟩
noncomputable def okR(m:MSt):R->Prop
 | .at k p=>k<m.np\/(p=[]/\∃t,m.os[k]?=some [t])
 |_=>True
theorem okR.at{m:MSt}(h:okR m r):∀k p,r = .at k p->k<m.np\/(p=[]/\∃t,m.os[k]?=some [t]):=λk p e=>by subst e;exact h
noncomputable def retK(a:R->List (List dL)->Prop)(m:MSt):R->Prop
 | .at k p=>okR m (.at k p)/\a (outR m (.at k p)) (m.os.take m.np)
 | .imm d=>a (.imm d) (m.os.take m.np)
 | .new ds=>a (.new ds) (m.os.take m.np)
 | .obj k=>a (outR m (.obj k)) (m.os.take m.np)
 | .newT t=>a (.newT t) (m.os.take m.np)
theorem retK.ok{a:R->List (List dL)->Prop}{m:MSt}(h:retK a m r):okR m r/\a (outR m r) (m.os.take m.np):=by
 cases r with
 | «at» k p=>exact h
 |imm d=>exact⟨trivial,h⟩
 |new ds=>exact⟨trivial,h⟩
 |obj k=>exact⟨trivial,h⟩
 |newT t=>exact⟨trivial,h⟩
theorem fn_m{E:XK}(l:K.eb=⟨0,[],λ_=>none⟩)(h:spOf K n sp vs H Q E)(t:N.length=nN)(k:n≤nN)
  (y:∀as b,as.length=n->sp as b->w {nx:=λm=>b (.imm .none) (m.os.take m.np),rt:=λr m=>retK b m r} (fq nN as)):tMS K w {nx:=λ_ c=>Q .non c,rt:=Q} (start N vs) H:=by
 obtain⟨as,u,b,p,nd,e,g,f⟩:=h;have s:=p6 t k p nd e (by rw[l];exact abC _) (by rw[l];exact⟨rfl,λ_ _ z=>(by cases z),λ_ _=>.inr rfl,λa ha=>(by cases ha)⟩);refine⟨u,fq nN as,_,s,y as b p g,⟨λj A i c q d R x=>?_,λr j A i v c q d R rr x=>?_,λ_ _ _ _ z=>z.elim,λ_ _ _ _ z=>z.elim⟩⟩
 .obtain⟨O,F,_⟩:=jG e d R x;exact f _ _ .non c q O ve F
 .obtain⟨O,F,eβ⟩:=jG e d R x;have o:=retK.ok q;exact f _ _ v c o.2 O (yP d R x eβ rr o.1.at) F
end
structure FnM(P:aaB)(w:World)(K:Mt)(mg:Str->Option mT)(base:aaM)(x:Str)(k n:Nat)(sp:SpM):Prop where
 ex:∃(f:Addr) (fd:ab6) (ps:List Str),FnOk P w K mg base CX0 k f fd ps (spOf ⟨K,w⟩ n sp)/\mg x=some (.ref f)/\abV K (.ref f)=true/\Binds K fd ps []
 ar:∀as Kc,sp as Kc->as.length=n
structure DefM(K:Mt)(mg:Str->Option mT)(x:Str)(st:Stmt)(ps:List Str):Prop where
 ex:∃(f:Addr) (fd:ab6),Fun K x x st f fd/\mg x=some (.ref f)/\Binds K fd ps []
theorem UW{P:aaB}{w:World}{K:Mt}{base:aaM}{k:Nat}(D:DefM K mg x st ps)(S:FnScope N ps (ac st))(g:ps.length=n)(j:N.length=nN)(e:n≤nN)(ar:∀as b,sp as b->as.length=n)
  (a:∀(c:mT) (A:aa4) (outer:List Env) (s:oR) (H:Hp) (E:XK) (f:Addr),Room k (A.deeper (ad5 x (ac st) s.heap.objs.size f c)) ->
   ∃d,MSs (cxOf CX0 P w K mg base N x (ac st) f c A outer s H E).nox (bO st) d/\∀as b,as.length=n->sp as b->d {nx:=λm=>b (.imm .none) (m.os.take m.np),rt:=λr m=>retK b m r} (fq nN as)) :
  FnM P w K mg base x (k+1) n sp:=by
 obtain⟨f,fd,F,i,hb⟩:=D.ex;refine⟨⟨f,fd,ps,F.ok S (λvs H Q E h=>by rw[g];exact h.len) (λc A outer s H vs Q E hr h=>?_),i,F.kp,hb⟩,ar⟩;obtain⟨d,l,o⟩:=a c A outer s H E f hr;exact⟨_,l,fn_m rfl h j e o⟩
section
variable {X:Cx}{a:Expr}{es:List Expr}{w:WA}{pos p:Pos}{k n:Nat}{sp:SpM}{x:Str}
theorem CN(F:FnM X.prog X.w X.K X.mg X.base x k n sp)(hr:Room k X.A)(ha:MA X (a::es) w)(c:Gl X x:=by rfl)(h:(x==("__debug__" : Str))=false:=by decide)(e:aad (a::es) X.env=(false,eval a X.env)::aad es X.env:=by first|exact aE rfl|rfl)(b:(ab1 pos (aad es X.env)).any (·.1)=false:=by rfl) :
  ME X (.Call (.Name x p) (a::es) [] pos) (yE sp w):=by
 obtain⟨f,fd,ps,G,d,g,hb⟩:=F.ex;exact Ku G hr c d g hb Vj F.ar ha h e b
theorem Room.u200{k:Nat}{A:aa4}(r:Room k A):A.units+200<cLine:=by have:=r.un;omega
theorem cw:abe "len" = some (.builtin "len"):=by rfl
theorem IC:abe "abs" = some (.builtin "abs"):=by rfl
theorem T7:abe "sum" = some (.builtin "sum"):=by rfl
theorem Iy:abe "max" = some (.builtin "max"):=by rfl
theorem zp:abe "repr" = some (.builtin "repr"):=by rfl
theorem iC:abe "tuple" = some (.type "tuple"):=by rfl
theorem QE:abe "int" = some (.type "int"):=by rfl
theorem qB:abe "enumerate" = some (.type "enumerate"):=by rfl
end
section
variable {m:MSt}{K:R->MSt->Prop}{v:Bool->MSt->Prop}{H:List R->MSt->Prop}{f:R->Prop}{D:cV}{E I M p J G:WE}{t:WA}{C L:WT}{w u:WS}{o:WO}{d:dL}{r r1 F:R}{i j:Int}{k:Nat}
theorem zP(h:w {D with nx:=λa=>u D a } m):wSeq w u D m:=h
theorem Uc(h:D.nx m):MR D m:=h
theorem VP(h:E m λr1 m1=>I m1 λF m2=>o r1 F m2 λr=>K r m2):wBin o E I m K:=h
theorem Ui(e:m.vs[n]?=some (some r))(h:K r m):wVar n m K:=⟨r,e,h⟩
theorem x_c(h:K (.imm d) m):wC d m K:=h
theorem VF(h:p m λr a=>D.rt r a):wRet p D m:=h
theorem Ut(h:p m λ_ a=>D.nx a):Mh p D m:=h
theorem Vv(h:C m λc a=>if c=true then w D a else u D a):wIfS C w u D m:=h
theorem VE(h:C m λc a=>if c=true then E a K else I a K):wIfE C E I m K:=h
theorem Qy(h:p m λr a=>onBl (λk=>v k a) r):wr p m v:=h
theorem W9(h:C m λc m1=>if c=true then L m1 v else v false m1):wAnd C L m v:=h
theorem x_or(h:C m λc m1=>if c=true then v true m1 else L m1 v):wOr C L m v:=h
theorem Wx(h:C m λc m1=>v (!c) m1):wNot C m v:=h
theorem Qk{P:Bool->Prop}{b:Bool}(h:P b):onBl P (.imm (.bool b)):=h
theorem JU{P:Int->Prop}(h:P i):pg P (.imm (.int i)):=h
theorem LQ{P:Nat->Prop}(h:P k):p9 P (.obj k):=h
theorem MH{P:dL->Prop}(h:P d):cx P (.imm d):=h
theorem VX{P:R->Prop}(h:P r):on1 P [r]:=h
theorem lB(h:A):if true=true then A else B:=by simp_all
theorem j5(h:B):if false=true then A else B:=by simp_all
theorem bj{c:Prop}[Decidable c](a:c->A)(h:¬c->B):if decide c=true then A else B:=by simp_all
theorem x_un{ob:WU}(h:E m λr1 m1=>ob r1 m1 λr=>K r m1):wUn ob E m K:=h
theorem Ve(h:f (.imm (.int (-i)))):uNeg (.imm (.int i)) m f:=h
theorem Vt(h:p m λr a=>match r with| .imm d=>K (.imm d) a | .new ds=>K (.imm (.list ds)) a|_=>False):wImm p m K:=h
theorem Vc(h:H [] m):wNil m H:=h
theorem Ub(h:p m λr m1=>t m1 λrs m2=>H (r::rs) m2):JM p t m H:=h
theorem Wf(h:t m λrs a=>yp (λds=>K (.imm (.tuple ds)) a) (fv rs)):wTup t m K:=h
theorem UM(h:t m λrs a=>yp (λds=>K (.new ds) a) (fv rs)):wLst t m K:=h
theorem WZ{rs:List R}{P:List dL->Prop}(e:fv rs=some ds)(a:ds.length≤aag)(h:P ds):yp P (fv rs):=by rw[e];exact⟨a,h⟩
theorem x_cb{a:WC}(h:t m λrs m1=>a rs m1 λr=>K r m1):wCB a t m K:=h
theorem Sk(h:t m λrs m1=>match e8 m1 rs with|some (as,ks)=>ks.Nodup/\sp as λr a=>K (mapR ks r) {m1 with os:=cb m1.os ks a}|none=>False):yE sp t m K:=h
theorem WF{rs:List R}{P:List Ag->List Nat->Prop}(e:e8 m rs=some (as,ks))(a:ks.Nodup)(h:P as ks):match e8 m rs with|some (as,ks)=>ks.Nodup/\P as ks|none=>False:=by rw[e];exact⟨a,h⟩
theorem Km(h:p m λr a=>oN n D.nx a r):wSet n p D m:=h
theorem fH(h:P (m.setV n (.imm d))):oN n P m (.imm d):=.inl h
theorem cq(h:P {vs:=m.vs.set n (some (.obj m.os.length)),os:=m.os++[ds],np:=m.np}):oN n P m (.new ds):=.inl (.inl h)
theorem VT(h:p m λr a=>cx (λd=>g d a D.nx) r):wAsg p g D m:=h
theorem Vz{n':Nat}(h:t m λrs a=>match rs with|[.imm d1,.imm d2]=>D.nx ((a.setV n (.imm d1)).setV n' (.imm d2))|_=>False):wPar n n' t D m:=h
theorem QB(h:p m λe m1=>cx (λd=>J m1 λc m2=>G m2 λb a=>p9 (λk=>pg (λz=>∃ds j,a.os[k]?=some ds/\ixN ds.length z=some j/\D.nx {a with os:=a.os.set k (ds.set j d)}) b) c) e):JA p J G D m:=h
theorem W6{k:Nat}{z:Int}{P:List dL->Nat->Prop}(a:m.os[k]?=some ds)(e:ixN ds.length z=some n)(h:P ds n):∃ds j,m.os[k]?=some ds/\ixN ds.length z=some j/\P ds j:=⟨ds,n,a,e,h⟩
theorem x_ml{ob:WM}(h:J m λr m1=>(∃ds,lsOf m1 r=some ds)/\t m1 λrs m2=>ob r rs m2 K):wML ob J t m K:=h
theorem x_ls{P:Prop}(e:lsOf m r=some ds)(h:P):(∃ds,lsOf m r=some ds)/\P:=⟨⟨ds,e⟩,h⟩
theorem uT(e:m.os[k]?=some ds)(a:ds.length<aag)(h:K (.imm .none) {m with os:=m.os.set k (ds++[d])}):zx (.obj k) [.imm d] m K:=⟨ds,e,a,h⟩
theorem IM(h:f (.imm (.int (i+j)))):oAdd (.imm (.int i)) (.imm (.int j)) m f:=h
theorem vi{a b:List dL}(c:a.length+b.length≤aag)(h:f (.imm (.tuple (a++b)))):oAdd (.imm (.tuple a)) (.imm (.tuple b)) m f:=⟨c,h⟩
theorem Qb(h:f (.imm (.int (i-j)))):oSub (.imm (.int i)) (.imm (.int j)) m f:=⟨trivial,h⟩
theorem iu(a:CFd i j)(h:f (.imm (.int (i/j)))):SD (.imm (.int i)) (.imm (.int j)) m f:=⟨a,h⟩
theorem TU(a:0<j)(h:f (.imm (.int (i%j)))):oMod (.imm (.int i)) (.imm (.int j)) m f:=⟨a,h⟩
theorem Wg(a:CPow i j)(h:f (.imm (.int (i^j.toNat)))):oPow (.imm (.int i)) (.imm (.int j)) m f:=⟨a,h⟩
theorem x_lt(h:f (.imm (.bool (decide (i<j))))):oLt (.imm (.int i)) (.imm (.int j)) m f:=h
theorem x_gt(h:f (.imm (.bool (decide (j<i))))):oGt (.imm (.int i)) (.imm (.int j)) m f:=h
theorem x_ge(h:f (.imm (.bool (decide (j≤i))))):oGe (.imm (.int i)) (.imm (.int j)) m f:=h
theorem x_eq{d1 d2:dL}(a:asD m r1=some d1)(e:asD m F=some d2)(s1:adk d1=true)(s2:adk d2=true)(h:f (.imm (.bool (aak d1 d2)))):oEq r1 F m f:=by refine agL ?_;unfold eqD;rw[a,e];exact⟨s1,s2,h⟩
theorem x_ne{d1 d2:dL}(a:asD m r1=some d1)(e:asD m F=some d2)(s1:adk d1=true)(s2:adk d2=true)(h:f (.imm (.bool (!aak d1 d2)))):oNe r1 F m f:=by refine agL ?_;unfold eqD;rw[a,e];exact⟨s1,s2,h⟩
theorem WY(h:f (.imm (.bool (decide (i=j))))):oEq (.imm (.int i)) (.imm (.int j)) m f:=x_eq rfl rfl rfl rfl ‹_›
theorem Wq(h:f (.imm (.bool (decide (i≠j))))):oNe (.imm (.int i)) (.imm (.int j)) m f:=x_ne rfl rfl rfl rfl (by simp[aak];rw[aew,<-decide_not];exact h)
theorem Wr(h:f (.imm (.bool (decide (x=y))))):oEq (.imm (.str x)) (.imm (.str y)) m f:=add (agL ⟨x,y,rfl,rfl,h⟩)
theorem U4(h:f (.imm (.bool (!decide (x=y))))):oNe (.imm (.str x)) (.imm (.str y)) m f:=add ⟨x,y,rfl,rfl,h⟩
theorem Ij(h:f (.imm (.bool (!Cn r)))):yI r (.imm .none) m f:=⟨rfl,h⟩
theorem bC(e:atI ds i=some d)(h:f (.imm d)):o6 (.imm (.tuple ds)) (.imm (.int i)) m f:=⟨d,e,h⟩
theorem tZ(e:atI ds i=some d)(h:f (.imm d)):o6 (.imm (.list ds)) (.imm (.int i)) m f:=⟨ds,d,rfl,e,h⟩
theorem jX(a:m.os[k]?=some ds)(e:atI ds i=some d)(h:f (.imm d)):o6 (.obj k) (.imm (.int i)) m f:=⟨ds,d,a,e,h⟩
theorem jg(e:atI ds i=some d)(h:f (.imm d)):o6 (.new ds) (.imm (.int i)) m f:=⟨ds,d,rfl,e,h⟩
theorem VI{rs:List R}(h:on1 (lenR m f) rs):oLen rs m f:=h
theorem RF(h:f (.imm (.int ds.length))):lenR m f (.imm (.tuple ds)):=h
theorem Qw(h:f (.imm (.int ds.length))):lenR m f (.imm (.list ds)):=⟨ds,rfl,h⟩
theorem OZ(e:m.os[k]?=some ds)(h:f (.imm (.int ds.length))):lenR m f (.obj k):=⟨ds,e,h⟩
theorem QZ(h:f (.imm (.int ds.length))):lenR m f (.new ds):=⟨ds,rfl,h⟩
theorem Vh(h:f (.imm (.int (if i<0 then -i else i)))):oAbs [.imm (.int i)] m f:=h
theorem UA{b:Bool}(h:f (.imm (.int (if b then 1 else 0)))):oInt [.imm (.bool b)] m f:=h
theorem Oz(e:sqOf m r=some ds)(h:f (.imm (.tuple ds))):I9 [r] m f:=⟨ds,e,h⟩
theorem Ug(e:asD m r=some d)(g:d.showable=true)(a:d.hasDict=false)(b:d.shown.length≤aag)(c:d.depth≤100)(h:f (.imm (.str d.shown))):Lw [r] m f:=⟨d,e,g,a,b,c,h⟩
theorem x_sl(h:p m λr m1=>wl m1 λl m2=>wh m2 λu a=>ob r l u a λb=>K b a):wSl ob p wl wh m K:=h
theorem Ik(h:Ko none m):uk m Ko:=h
theorem Qu(h:p m λr a=>pg (λi=>Ko (some i) a) r):Ls p m Ko:=h
theorem x_gM(h:P (m.setV n (.imm d))):gM n d m P:=h
theorem Qg(h:P m):L8 [] m P:=⟨rfl,h⟩
theorem Nk(h:g d m λa=>gs ds a P):Bw g gs (d::ds) m P:=h
theorem QL(e:ds.length=n)(h:gs ds m P):CK n gs (.tuple ds) m P:=⟨e,h⟩
theorem U3{G:WI}(h:G m λs m1=>ie s g w D m1):wFor G g w D m:=h
theorem T6(h:p m λr a=>srcR a Ks r):Lj p m Ks:=h
theorem QY(h:Ks ⟨ds,none⟩ m):srcR m Ks (.imm (.list ds)):=h
theorem OQ(h:Ks ⟨ds,none⟩ m):srcR m Ks (.imm (.tuple ds)):=h
theorem P6(e:m.os[k]?=some ds)(h:Ks ⟨ds,some k⟩ m):srcR m Ks (.obj k):=⟨ds,e,h⟩
theorem Tz(h:t m λrs a=>match rs with|[.imm (.int j)]=>-(2^62)≤j/\j<2^62/\Ks ⟨gG 0 j.toNat,none⟩ a|_=>False):yd t m Ks:=h
theorem W5(h:C m λb a=>if b=true then w D a else D.nx a):wIfT C w D m:=h
theorem CG(h:v true m):sU m v:=h
theorem R8(h:p m λr a=>cx (λd=>∃ds,a.os[q]?=some ds/\ds.length<aag/\D.nx {a with os:=a.os.set q (ds++[d])}) r):wZ q p D m:=h
end
theorem am{D:cV}{m:MSt}(a:MSt)(e:m=a)(h:w D a):w D m:=e▸h
theorem U5{i j:Int}(h:(-18446744073709551616<i/\i<18446744073709551616)\/(-18446744073709551616<j/\j<18446744073709551616)):afZ i j:=CMul.ok ‹_›
theorem cfd{i j:Int}(h0:0<j)(h:j<1152921504606846976):CFd i j:=⟨h0,by
 have:j.natAbs<2^60:=by omega
 have:=(agM (by omega)).mpr this;omega⟩
theorem jU:∀ns:List Int,abd (ns.map .int)=true
 |[]=>rfl
 |n::ns=>by simp[ abd,agN,jU ns]
theorem l7:∀ns:List Int,aav (ns.map .int)≤1
 |[]=>abC 1
 |n::ns=>by
  have:=l7 ns;simp[aav,dL.depth];omega
theorem PH{a:Type}{xs:List a}{i:Int}(h0:0≤i)(b:i<xs.length):∃d,xs[i.toNat]?=some d/\atI xs i=some d:=by
 have h:i.toNat<xs.length:=by omega
 refine⟨xs[i.toNat],iO h,?_⟩;unfold atI ixN
 simp_all
theorem GU{i:Int}(h0:0≤i)(a:i<ns.length):∃x:Int,atI (ns.map abn) i=some (.int x):=by
 obtain⟨d,e,h⟩:=PH (xs:=ns.map abn) h0 (by simp_all);rw[aae]at e
 cases q:ns[i.toNat]? with
 |none=>rw[q]at e;cases e
 |some x=>rw[q]at e;cases e;exact⟨x,h⟩
section
variable {X:Cx}{tg a b c e:Expr}{es:List Expr}{w f g j k l:WE}{m:WA}{pos p o:Pos}
noncomputable def fu:List dL->Option (List Int)
 |[]=>some []
 | .int i::ds=>(fu ds).map (i :: ·)
 |_::_=>none
theorem lZ(h:fu ds=some ns):ds=ns.map .int:=by
 induction ds generalizing ns with
 |nil=>cases h;rfl
 | cons d ds n=>
  cases d with
  |int i=>
   simp only[fu]at h
   cases q:fu ds with
   |none=>rw[q]at h;cases h
   |some r=>rw[q]at h;cases h;rw[n q];rfl
  |none=>cases h
  |bool _=>cases h
  |str _=>cases h
  |list _=>cases h
  |tuple _=>cases h
  |dict _=>cases h
theorem gN:∀ns:List Int,fu (ns.map .int)=some ns
 |[]=>rfl
 |n::ns=>by simp[ fu,gN ns]
theorem gJ{K:Kd}{H:Hp}:∀{ns:List Int}{xs:List V},DenAll K H (ns.map .int) xs->xs=ns.map V.int
 |[],_,h=>by simpa only[ DenAll]
 |n::ns,_,h=>by
  obtain⟨v,vs,rfl,i,d⟩:=h;have e:=aF i;rw[e,gJ d];rfl
end
theorem gV{D:cV}(P:Nat->MSt->Prop)(p0:P 0 m1)
  (step:∀(i:Nat) (d:dL) (m:MSt),ds[i]?=some d->m.np=m1.np->P i m->g d m λm2=>w {nx:=P (i+1),ct:=P (i+1),bk:=λh=>D.nx (h.setN m1.np),rt:=λr h=>D.rt r (h.setN m1.np)} m2)
  (f:∀m,m.np=m1.np->P ds.length m->D.nx m):ie ⟨ds,none⟩ g w D m1:=by
 refine⟨P,p0,λi d m e n p=>⟨trivial,step i d m e n p⟩,λm n p=>⟨trivial,?_⟩⟩;have e:m.setN m1.np=m:=by
  obtain⟨a,b,c⟩:=m;have j:c=m1.np:=n;subst j;rfl
 rw[e];exact f m n p
theorem oj{k:Nat}{D:cV}(P:Nat->MSt->Prop)(p0:P 0 (m1.setN (max m1.np (k+1))))
  (ok:∀i m,P i m->m.os[k]?=some ds)
  (step:∀(i:Nat) (d:dL) (m:MSt),ds[i]?=some d->m.np=max m1.np (k+1)->P i m->g d m λm2=>w {nx:=P (i+1),ct:=P (i+1),bk:=λa=>D.nx (a.setN m1.np),rt:=λr a=>D.rt r (a.setN m1.np)} m2)
  (f:∀m,m.np=max m1.np (k+1)->P ds.length m->D.nx (m.setN m1.np)):ie ⟨ds,some k⟩ g w D m1:=
 ⟨P,p0,λi d m e n p=>⟨ok i m p,step i d m e n p⟩,λm n p=>⟨ok _ m p,f m n p⟩⟩
theorem jN{t:WT}{D:cV}{a:MSt}(P:Nat->MSt->Prop)(d:Nat)(p0:P d a)
  (step:∀n m,m.np=a.np->P n m->t m λc b=>if c=true then w {D with nx:=λm2=>∃n',n'<n/\P n' m2,ct:=λm2=>∃n',n'<n/\P n' m2,bk:=D.nx} b else D.nx b):yD t w D a:=⟨P,⟨d,p0⟩,step⟩
theorem DN(h:ds.length≤n):cutD ds none (some (n:Int))=ds:=by
 unfold cutD;rw[HT.sIx_none,HT.sIx_nat,Nat.min_eq_right h,Nat.sub_zero,List.drop_zero,aab]
theorem JE{m:MSt}{K:R->MSt->Prop}{ps:List Nat}(h:wi m λs m1=>ie s g (wIfT tt (wZ m1.os.length we)) {nx:=λa=>K (.new (a.os.getD m1.os.length [])) {m1 with os:=a.os.take m1.os.length},rt:=λ_ _=>False} (jp own ps m1)):lR wi own ps g tt we m K:=h
theorem KO{m:MSt}{K:R->MSt->Prop}{w:WI}{ps:List Nat}{a:WG}{t:WT}(h:wi m λs m1=>ie s g (wIfT tt λD m2=>w m2 λs2 c=>ie s2 a (wIfT t (wZ m1.os.length we)) D c) {nx:=λb=>K (.new (b.os.getD m1.os.length [])) {m1 with os:=b.os.take m1.os.length},rt:=λ_ _=>False} (jp own ps m1)):uY wi own ps g tt w a t we m K:=h
theorem md{k:Nat}{m:MSt}(c:m.vs[n]?=some (some (.obj k)))(a:m.np≤k)(b:∀j:Nat,j≠n->m.vs[j]?≠some (some (.obj k)))(h:P {m with os:=m.os.set k ds}):oN n P m (.new ds):=.inr ⟨k,c,a,b,h⟩
theorem bu{a:Type}{xs:List a}{k:Nat}{d x:a}(h:xs[k]?=some x):xs.getD k d=x:=by simp_all
theorem x_J{w:WE}{m:MSt}{K:R->MSt->Prop}(c:R->MSt->Prop)(h:∀b:R->MSt->Prop,(∀r a,c r a->b r a)->w m b)(J:∀r a,c r a->K r a):w m K:=h K J
theorem x_JS{m:MSt}{D:cV}(b:MSt->Prop)(h:∀N:MSt->Prop,(∀a,b a->N a)->w {D with nx:=N} m)(J:∀a,b a->D.nx a):w D m:=h D.nx J
structure Fine(n k:Nat)(d:dL):Prop where
 sh:d.showable=true
 nd:d.hasDict=false
 ln:d.shown.length≤n
 dp:d.depth≤k
theorem Fine.mono{k n' k':Nat}{d:dL}(h:Fine n k d)(a:n≤n')(b:k≤k'):Fine n' k' d:=⟨h.sh,h.nd,aaj h.ln a,aaj h.dp b⟩
theorem wg{k:Nat}(h:n<2^k)(a:0<k):n.log2<k:=by
 by_cases h0:n=0
 .simp_all
 .rw[agM h0];exact h
theorem vp{i:Int}(h:i.natAbs<10^12):Fine 13 0 (.int i):=by
 refine⟨?_,rfl,dL.shown_int_le h,Dl _⟩;have:i.natAbs.log2<40:=wg (aah h (by decide)) (by decide);apply decide_eq_true;omega
theorem vf{n k:Nat}:∀{ds:List dL},(∀d∈ds,Fine n k d)->ahh ds=true/\acF ds=false/\((adp ds).map (·.length)).sum≤ds.length*n/\(adp ds).length=ds.length/\aav ds≤k
 |[],_=>⟨rfl,rfl,by simp[adp],rfl,by simp[aav]⟩
 |d::ds,h=>by
  obtain⟨f,b,i,e,g⟩:=vf λc a=>h c (Ge _ a);have h0:=h d GE;refine⟨?_,?_,?_,?_,?_⟩
  .show(d.showable&&ahh ds)=true;rw[h0.sh,f];rfl
  .show(d.hasDict||acF ds)=false;rw[h0.nd,b];rfl
  .show(d.shown.length::(adp ds).map _).sum≤_;rw[acr,aaz,afh];have:=h0.ln;omega
  .show(adp ds).length+1=_;rw[e];rfl
  .show max d.depth _≤k;have:=h0.dp;omega
theorem c5{k c:Nat}(h:∀d∈ds,Fine n k d)(f:ds.length≤c):Fine (c*(n+2)+3) (k+1) (.tuple ds):=by
 obtain⟨a,b,g,j,i⟩:=vf h;refine⟨a,b,?_,?_⟩
 .show(tupleText _).length≤_;have:=tupleText_len_le (adp ds);have e:ds.length*(n+2)≤c*_:=aeT _ f
  grind
 .show aav ds+1≤_;omega
structure Shp(k:Nat)(d:dL):Prop where
 cl:d.canLay0=true
 dp:d.depth≤k
theorem Shp.mono{k k':Nat}{d:dL}(h:Shp k d)(a:k≤k'):Shp k' d:=⟨h.cl,aaj h.dp a⟩
theorem Shp.ok{k:Nat}{d:dL}(h:Shp k d)(a:k≤64):adk d=true:=by
 unfold adk;rw[h.cl,decide_eq_true (aaj h.dp a)];rfl
theorem gW(i:Int):Shp 0 (.int i):=⟨rfl,Dl _⟩
theorem jI{k:Nat}:∀{ds:List dL},(∀d∈ds,Shp k d)->abd ds=true/\aav ds≤k
 |[],_=>⟨rfl,by simp[aav]⟩
 |d::ds,h=>by
  obtain⟨c,e⟩:=jI λb a=>h b (Ge _ a);have h0:=h d GE;refine⟨?_,?_⟩
  .simp only[abd];rw[h0.cl,c];rfl
  .show max d.depth _≤k;have:=h0.dp;omega
theorem qC{k:Nat}(h:∀d∈ds,Shp k d):Shp (k+1) (.tuple ds):=by
 obtain⟨a,b⟩:=jI h;exact⟨by simp[agN];exact a,by show aav ds+1≤_;omega⟩
theorem jv{k:Nat}(h:∀d∈ds,Shp k d):Shp (k+1) (.list ds):=by
 obtain⟨a,b⟩:=jI h;exact⟨by simp only[agN];exact a,by show aav ds+1≤_;omega⟩
theorem zf{m:MSt}{d:dL}{K:R->Prop}{k:Nat}(h:Fine n k d)(e:asD m r=some d)(b:n≤16777216)(c:k≤100)(a:K (.imm (.str d.shown))):Lw [r] m K:=Ug e h.sh h.nd (by rw[aan];exact aaj h.ln b) (aaj h.dp c) a
theorem w5(b:Only H)(h:SqL K H a (ns.map V.int)):Den K H (.list (ns.map .int)) (.ref a):=by
 refine⟨a,_,rfl,?_,DenAll.ints _⟩;rcases h with(h|⟨o,h⟩)|h
 .rcases b a with z|_
  .grind
  .grind
 .exact .inl ⟨o,h⟩
 .exact .inr h
theorem UL{P:aaB}{w:World}{K:Mt}{base:aaM}{k:Nat}(F:Fun K x x st f fd)(S:FnScope N ps (ac st))(g:ps.length=n)(i:N.length=nN)(e:n≤nN)
  (a:∀(c:mT) (A:aa4) (outer:List Env) (s:oR) (H:Hp) (E:XK) (f:Addr),Room k (A.deeper (ad5 x (ac st) s.heap.objs.size f c)) ->
   ∃d,MSs (cxOf CX0 P w K mg base N x (ac st) f c A outer s H E).nox (bO st) d/\∀as b,as.length=n->sp as b->d {nx:=λm=>b (.imm .none) (m.os.take m.np),rt:=λr m=>retK b m r} (fq nN as)) :
  FnOk P w K mg base CX0 (k+1) f fd ps (spOf ⟨K,w⟩ n sp):=by
 refine F.ok S (λvs H Q E h=>by rw[g];exact h.len) (λc A outer s H vs Q E hr h=>?_);obtain⟨d,j,l⟩:=a c A outer s H E f hr;exact⟨_,j,fn_m rfl h i e l⟩
structure DefK(K:Mt)(x:Str)(st:Stmt):Prop where
 ex:∃(f:Addr) (fd:ab6),aat K aao x=some (some (.ref f))/\Fun K x x st f fd
theorem DefK.of{K:Mt}{o kV d pm b ct:mT}{an:Option Addr}{s:Array (Option mT)}(a:aat K aao x=some (some (.ref f)))
  (l:K.lookup f=some ⟨o,od,.func (acP x x (fU st) (bO st) (ac st) .none kV d pm an b ct),s⟩) (c:aem K b x=true) (k:abV K (.ref f)=true):DefK K x st:=⟨f,_,a,y8 l c k⟩
theorem DefK.m{K:Mt}{h:aaM}(D:DefK K x st)(X:K.In h)(G:h.Ns aao mg)(b:∀(f:Addr) (fd:ab6),Fun K x x st f fd->Binds K fd ps []):DefM K mg x st ps:=by
 obtain⟨f,fd,a,F⟩:=D.ex;exact⟨f,fd,F,aeL X G a,b f fd F⟩
structure EE(X:Cx)(e:Expr)(w:WE):Prop where
 h:ME X e w
structure ET(X:Cx)(e:Expr)(w:WT):Prop where
 h:MT X e w
structure EW(X:Cx)(e:Expr)(w:WT):Prop where
 h:MW X e w
structure EA(X:Cx)(es:List Expr)(w:WA):Prop where
 h:MA X es w
structure ES(X:Cx)(st:Stmt)(w:WS):Prop where
 h:MS X st w
structure ESs(X:Cx)(st:List Stmt)(w:WS):Prop where
 h:MSs X st w
structure EI(X:Cx)(tg e:Expr)(w:WI):Prop where
 h:MI X tg e w
structure EG(X:Cx)(t:Expr)(w:WG):Prop where
 h:MG X t w
structure EGs(X:Cx)(ts:List Expr)(w:WGs):Prop where
 h:MGs X ts w
structure EO(X:Cx)(e:Option Expr)(w:WO1):Prop where
 h:MO X e w
structure ETs(X:Cx)(ifs:List Expr)(w:WT):Prop where
 h:PTs X ifs (tMT X.kx w)
theorem EW.pt{w:WT}(h:EW X e w):ET X e w:=⟨h.h.pt⟩
section
variable {X:Cx}{a b c:Expr}{es:List Expr}{w d e:WE}{pos:Pos}
theorem mh'{i j pos}:EE X (.Constant (.int i) j pos) (wC (.int i)):=⟨Uu⟩
theorem iG{i j pos}:EE X (.Constant (.bool i) j pos) (wC (.bool i)):=⟨V5⟩
theorem aY{i j pos}:EE X (.Constant (.str i) j pos) (wC (.str i)):=⟨Uz⟩
theorem uh{j pos}:EE X (.Constant .none j pos) (wC .none):=⟨QI⟩
theorem mv'(i:Nat){pos:Pos}(g:X.N[i]?=some x:=by rfl)(f:Vis X.env.scope x:=by first|exact agL rfl|exact add (agL rfl)|exact add (add rfl))(hd:(x==("__debug__" : Str))=false:=by decide)(h:(x==("__classdict__" : Str))=false:=by decide):EE X (.Name x pos) (wVar i):=⟨mv i g f hd h⟩
theorem ae{op:afn}(ho:OpR X (acx op) (rM X.kx o))(ha:EE X a w)(hb:EE X b d):EE X (.BinOp a op b pos) (wBin o w d):=⟨UB ho ha.h hb.h⟩
theorem og(ho:OpR X (abr op) (rM X.kx o))(ha:EE X a w)(hb:EE X b d)(h:adc op b=false):EE X (.Compare a [op] [b] pos) (wBin o w d):=⟨Uk ho ha.h hb.h h⟩
theorem au(ho:OpR X (abr op) (rM X.kx o))(ha:EE X a w)(hb:EE X b d)(h:adc op b=false):ET X (.Compare a [op] [b] pos) (wr (wBin o w d)):=⟨Rh ho ha.h hb.h h⟩
theorem sX(ha:EE X a w)(h:∀f,isTrue a X.env f=(do let v <- f;adv a.pos;adw [v] (truthy v)):=by intro _;rfl):ET X a (wr w):=⟨T5 ha.h h⟩
end
section
variable {X:Cx}{a b c:Expr}{es:List Expr}{d f g:WE}{pos:Pos}
variable {w e:WT}{rest:List Expr}
theorem uL(ha:ET X a w):EW X (.BoolOp .And [a] pos) w:=⟨JR ha.h⟩
theorem uf(ha:ET X a w):EW X (.BoolOp .Or [a] pos) w:=⟨Sw ha.h⟩
theorem Bo(ha:ET X a w)(hb:EW X (.BoolOp .And (b::rest) pos) e):EW X (.BoolOp .And (a::b::rest) pos) (wAnd w e):=⟨Tx ha.h hb.h⟩
theorem uK(ha:ET X a w)(hb:EW X (.BoolOp .Or (b::rest) pos) e):EW X (.BoolOp .Or (a::b::rest) pos) (wOr w e):=⟨Vi ha.h hb.h⟩
theorem yl(ha:ET X a w):ET X (.UnaryOp .Not a pos) (wNot w):=⟨OO ha.h⟩
theorem Ue(h:ET X t w)(ha:EE X a d)(hb:EE X b f):EE X (.IfExp t a b pos) (wIfE w d f):=⟨Wj h.h ha.h hb.h⟩
theorem uB{op:UnaryOp}{o:WU}(ho:UnR X (unaryOp op) (uM X.kx o))(ha:EE X a d):EE X (.UnaryOp op a pos) (wUn o d):=⟨WN ho ha.h⟩
theorem fm(ha:EE X a d):EE X a (wImm d):=⟨Qf ha.h⟩
end
section
variable {X:Cx}{a b c:Expr}{es:List Expr}{d e f:WE}{pos:Pos}
variable {g i:WT}{rest:List Expr}
variable {w:WA}
theorem mn'  : EA X [] wNil:=⟨RB⟩
theorem mc'(ha:EE X a d)(hr:EA X es w)(hs:aad (a::es) X.env=(false,eval a X.env)::aad es X.env:=by first|exact aE rfl|rfl):EA X (a::es) (JM d w):=⟨Og ha.h hr.h hs⟩
theorem ap{x1}(h:EA X es w):EE X (.Tuple es x1 pos) (wTup w):=⟨Tf h.h⟩
theorem bH(h:EA X es w):EE X (.List es pos) (wLst w):=⟨Qm h.h⟩
theorem av{id:String}{o:WC}(r:dn X (.builtin id) (cM X.kx o))(l:Gl X x)(m:X.mg x=none)(k:abe x=some (.builtin id))(ha:EA X (a::es) w)(n:x ≠ "__name__":=by decide)(h:(x==("__debug__" : Str))=false:=by decide)(q:aad (a::es) X.env=(false,eval a X.env)::aad es X.env:=by first|exact aE rfl|rfl)(j:(ab1 pos (aad es X.env)).any (·.1)=false:=by rfl):EE X (.Call (.Name x p) (a::es) [] pos) (wCB o w):=⟨Gc r l m k ha.h n h q j⟩
theorem cZ{T:String}{o:WC}(r:dn X (.type T) (cM X.kx o))(l:Gl X x)(m:X.mg x=none)(k:abe x=some (.type T))(ha:EA X (a::es) w)(n:x ≠ "__name__":=by decide)(h:(x==("__debug__" : Str))=false:=by decide)(q:aad (a::es) X.env=(false,eval a X.env)::aad es X.env:=by first|exact aE rfl|rfl)(j:(ab1 pos (aad es X.env)).any (·.1)=false:=by rfl):EE X (.Call (.Name x p) (a::es) [] pos) (wCB o w):=⟨BO r l m k ha.h n h q j⟩
end
section
variable {X:Cx}{a b c e:Expr}{es:List Expr}{d f g h:WE}{pos:Pos}{st:Stmt}{rest:List Stmt}{w u:WS}
theorem aA  : ESs X [] MR:=⟨Ml⟩
theorem mz'(j:ES X st w)(i:ESs X rest u):ESs X (st::rest) (wSeq w u):=⟨C8 j.h i.h⟩
theorem aa(i:ES X st w):ESs X [st] w:=⟨J7 i.h⟩
end
section
variable {X:Cx}{a b c e:Expr}{es:List Expr}{p q r f:WE}{m:WA}{o:WT}{pos:Pos}{st:Stmt}{rest l d:List Stmt}{w u:WS}
theorem ak(h:EE X e f):ES X (.Return (some e) pos) (wRet f):=⟨Tw h.h⟩
theorem h9(h:EE X e f)(hs:abH e none pos.line X.env=pure false:=by rfl):ES X (.Expr e pos) (Mh f):=⟨NG h.h hs⟩
theorem bq(h:ET X t o)(i:ESs X l w)(g:ESs X d u):ES X (.If t l d pos) (wIfS o w u):=⟨UR h.h i.h g.h⟩
theorem zt  : ES X st IJ:=⟨Fw⟩
theorem cn(n:X.N.Nodup)(k:X.N[i]?=some x)(h:Loc X.env.scope x)(g:EE X e f)(hs:abH e (some (.Name x pos')) pos.line X.env=pure false:=by rfl)(j:X.fn x=true\/X.env.scope.names.lookup x=some .local:=by first|exact .inl rfl|exact .inr rfl|assumption):ES X (.Assign [.Name x pos'] e pos) (wSet i f):=⟨Qh n k h g.h hs j⟩
theorem vI(j:X.N.Nodup)(g:X.N[i]?=some x)(h:Loc X.env.scope x)(k:X.fn x=true\/X.env.scope.names.lookup x=some .local:=by first|exact .inl rfl|exact .inr rfl|assumption):EG X (.Name x pos) (gM i):=⟨Mf j g h k⟩
theorem aK  : EGs X [] L8:=⟨JV⟩
theorem af{e:Expr}{es:List Expr}(i:EG X e g)(h:EGs X es gs)(hs:(abF (e::es) X.env).map (·.2)=ad4 e X.env::(abF es X.env).map (·.2):=by rfl):EGs X (e::es) (Bw g gs):=⟨FU i.h h.h hs⟩
theorem bo{es:List Expr}{k:Nat}(h:EGs X es gs)(j:X.calm=true:=by rfl)(i:(abF es X.env).length=n:=by rfl)(g:(abF es X.env).findIdx? (·.1)=none:=by rfl):EG X (.Tuple es k pos) (CK n gs):=⟨OY h.h j i g⟩
theorem dJ(i:EE X e f)(j:EG X tg g)(hs:ada [tg] e pos.line X.env=pure false:=by rfl)(h:adb [tg] e X.env=pure none:=by rfl)(k:(abF [tg] X.env).map (·.2)=[ad4 tg X.env]:=by rfl):ES X (.Assign [tg] e pos) (wAsg f g):=⟨SX i.h j.h hs h k⟩
theorem k7{g k pt:Pos}{kt k2 pt2}(B:X.N.Nodup)(t:X.N[i]?=some x)(z:X.N[j]?=some y)(h:i≠j)(v:X.env.scope.names.lookup x=some .local)(A:X.env.scope.names.lookup y=some .local)(ha:EA X [a,b] m)(n:adb [.Tuple [.Name x g,.Name y k] kt pt] (.Tuple [a,b] k2 pt2) X.env=pure (some [x,y]))(s:X.calm=true:=by rfl)(hs:ada [.Tuple [.Name x g,.Name y k] kt pt] (.Tuple [a,b] k2 pt2) pos.line X.env=pure false:=by rfl):ES X (.Assign [.Tuple [.Name x g,.Name y k] kt pt] (.Tuple [a,b] k2 pt2) pos) (wPar i j m):=⟨O8 B t z h v A ha.h n s hs⟩
end
section
variable {X:Cx}{tg a b c e i:Expr}{es:List Expr}{l m n h:WE}{j:WA}{k:WT}{pos:Pos}{st:Stmt}{rest d f:List Stmt}{w u:WS}
theorem bx(g:EE X e h):EI X tg e (Lj h):=⟨QJ g.h⟩
theorem cy(g:Gl X "range")(o:X.mg "range" = none)(ha:EA X [a] j)(hs:aad [a] X.env=[(false,eval a X.env)]:=by first|exact cu rfl|rfl):EI X tg (.Call (.Name "range" p) [a] [] pos) (yd j):=⟨AF g o ha.h hs⟩
theorem bQ(p:EI X tg i wi)(o:EG X tg g)(hb:ESs X d w)(hp:afY (model X.prog X.w) X.A X.env X.xe)(q:X.calm=true:=by rfl)(hs:∀x,aaN i X.env x=pure x:=by intro _;rfl):ES X (.For tg i d [] pos) (wFor wi g w):=⟨Pi p.h o.h hb.h hp q hs⟩
theorem fy(g:ET X t k)(hb:ESs X d w)(hp:afY (model X.prog X.w) X.A X.env X.xe):ES X (.While t d [] pos) (yD k w):=⟨FY g.h hb.h hp⟩
end
section
variable {X:Cx}{scope sc:Scope}{own fr:List Str}{ps:List Nat}{elt tg a f b:Expr}{ifs e:List Expr}{pos d p:Pos}{w k:WI}{g m:WG}{tt l:WT}{j:WE}
theorem b8(S:bV own fr scope sc)(n:EI X tg a w)(o:∀cl s H C ex,EG (aG X scope cl (own++fr) s H C ex) tg g)(r:∀cl s H C ex,ETs (aG X scope cl (own++fr) s H C ex) ifs tt)(q:∀cl s H C ex,EE (aG X scope cl (own++fr) s H C ex) elt j)(c:X.env.scope=sc:=by rfl)(h:ps.map (λi=>X.N[i]?)=fr.map some:=by rfl)(t:X.calm=true:=by rfl)(hs:∀x,aaN a X.env x=pure x:=by intro _;rfl):EE X (.ListComp elt [⟨tg,a,ifs,0⟩] scope pos) (lR w own ps g tt j):=⟨DF S n.h (λcl s H C ex=>(o cl s H C ex).h) (λcl s H C ex=>(r cl s H C ex).h) (λcl s H C ex=>(q cl s H C ex).h) c h t hs⟩
theorem cr  : ETs X [] sU:=⟨J8⟩
theorem v7{t:WT}(h:ET X c t):ETs X [c] t:=⟨L5 h.h⟩
theorem yq(S:bV own fr scope sc)(q:X.N.Nodup)(z:X.N[i]?=some y)(h:X.env.scope.names.lookup y=some .local)(r:EI X tg a w)(t:∀cl s H C ex,EG (aG X scope cl (own++fr) s H C ex) tg g)(v:∀cl s H C ex,ETs (aG X scope cl (own++fr) s H C ex) ifs tt)(u:∀cl s H C ex,EE (aG X scope cl (own++fr) s H C ex) elt j)(o:abH (.ListComp elt [⟨tg,a,ifs,0⟩] scope pos) (some (.Name y p)) d.line X.env=pure true:=by rfl)(n:X.env.scope=sc:=by rfl)(c:ps.map (λi=>X.N[i]?)=fr.map some:=by rfl)(A:X.calm=true:=by rfl)(hs:∀x,aaN a X.env x=pure x:=by intro _;rfl):ES X (.Assign [.Name y p] (.ListComp elt [⟨tg,a,ifs,0⟩] scope pos) d) (wSet i (lR w own ps g tt j)):=⟨GL S q z h r.h (λcl s H C ex=>(t cl s H C ex).h) (λcl s H C ex=>(v cl s H C ex).h) (λcl s H C ex=>(u cl s H C ex).h) o n c A hs⟩
theorem BF(S:bV own fr scope sc)(v:X.N.Nodup)(E:X.N[i]?=some y)(o:X.env.scope.names.lookup y=some .local)(z:EI X tg a w)(A:∀cl s H C ex,EG (aG X scope cl (own++fr) s H C ex) tg g)(D:∀cl s H C ex,ETs (aG X scope cl (own++fr) s H C ex) ifs tt)(c:∀cl s H C ex,EI (aG X scope cl (own++fr) s H C ex) f b k)(u:∀cl s H C ex,EG (aG X scope cl (own++fr) s H C ex) f m)(n:∀cl s H C ex,ETs (aG X scope cl (own++fr) s H C ex) e l)(B:∀cl s H C ex,EE (aG X scope cl (own++fr) s H C ex) elt j)(t:abH (.ListComp elt [⟨tg,a,ifs,0⟩,⟨f,b,e,0⟩] scope pos) (some (.Name y p)) d.line X.env=pure true:=by rfl)(r:X.env.scope=sc:=by rfl)(q:ps.map (λi=>X.N[i]?)=fr.map some:=by rfl)(F:X.calm=true:=by rfl)(hs:∀x,aaN a X.env x=pure x:=by intro _;rfl)(h:∀cl C x,aaN b (agI scope cl C X.env) x=pure x:=by intro _ _ _;rfl):ES X (.Assign [.Name y p] (.ListComp elt [⟨tg,a,ifs,0⟩,⟨f,b,e,0⟩] scope pos) d) (wSet i (uY w own ps g tt k m l j)):=⟨Fy S v E o z.h (λcl s H C ex=>(A cl s H C ex).h) (λcl s H C ex=>(D cl s H C ex).h) (λcl s H C ex=>(c cl s H C ex).h) (λcl s H C ex=>(u cl s H C ex).h) (λcl s H C ex=>(n cl s H C ex).h) (λcl s H C ex=>(B cl s H C ex).h) t r q F hs h⟩
end
section
variable {X:Cx}
theorem ah{a b:Expr}{w c:WE}(ha:EE X a w)(hb:EE X b c)(hs:tq b:=by intro _ _;rfl):EE X (.Subscript a b pos) (wBin o6 w c):=⟨U9 ha.h hb.h hs⟩
end
section
variable {X:Cx}{o a b c e:Expr}{es:List Expr}{g k l m w h:WE}{j:WA}{pos f d:Pos}
theorem qJ{name:Str}{id:String}{ob:WM}(slot:Slot "list" name id)(r:agm (.builtin id)=pure (.type "method_descriptor"))(s:MtM X id (mM X.kx ob))(ho:EE X o g)(ha:EA X (e::es) j)(n:abg o name X.env (eval o X.env)=eval o X.env:=by rfl)(q:((ab1 d (aad (e::es) X.env)).all (λx=>!x.1)&&(afq d (adA [] X.env)).all (λx=>x.1.isSome)
   && decide ((e::es).length+([]:List adi).length+(if ([]:List adi).isEmpty then 0 else 1)<30))=true:=by rfl) (p:(f.endLine==d.line)=true:=by rfl) (hs:aad (e::es) X.env=(false,eval e X.env)::aad es X.env:=by first|exact aE rfl|rfl) (i:(ab1 d (aad es X.env)).any (·.1)=false:=by rfl):EE X (.Call (.Attribute o name f) (e::es) [] d) (wML ob g j):=⟨U7 slot r s ho.h ha.h n q p hs i⟩
theorem o4{b i:Expr}(q:EE X e w)(ho:EE X b g)(p:EE X i h)(hs:ada [.Subscript b i pos'] e pos.line X.env=pure false:=by rfl)(n:adb [.Subscript b i pos'] e X.env=pure none:=by rfl)(r:(abF [.Subscript b i pos'] X.env).map (·.2)=[ad4 (.Subscript b i pos') X.env]:=by rfl)(ha:∀v,ad4 (.Subscript b i pos') X.env v=(do
   let ov <- adw [v] (eval b X.env)
   let iv <- adw [v,ov] (eval i X.env)
   adv pos'
   adw [v,ov,iv] (ahq ov iv v)
   release [v,ov,iv] []):=by intro _;rfl):ES X (.Assign [.Subscript b i pos'] e pos) (JA w g h):=⟨MJ q.h ho.h p.h hs n r ha⟩
theorem gi  : EO X none uk:=⟨On⟩
theorem gg(i:EE X e w):EO X (some e) (Ls w):=⟨JI i.h⟩
theorem d4{p:Pos}(hr:SlR X (sM X.kx ob))(i:EE X e w)(q:EO X lo wl)(n:EO X hi wh):EE X (.Subscript e (.Slice lo hi none p) pos) (wSl ob w wl wh):=⟨D6 hr i.h q.h n.h⟩
end
section
variable {X:Cx}{a:Expr}{es:List Expr}{w:WA}{pos p:Pos}{k n:Nat}{sp:SpM}{x:Str}
theorem mf'(F:FnM X.prog X.w X.K X.mg X.base x k n sp)(hr:Room k X.A)(ha:EA X (a::es) w)(c:Gl X x:=by rfl)(h:(x==("__debug__" : Str))=false:=by decide)(d:aad (a::es) X.env=(false,eval a X.env)::aad es X.env:=by first|exact aE rfl|rfl)(b:(ab1 pos (aad es X.env)).any (·.1)=false:=by rfl):EE X (.Call (.Name x p) (a::es) [] pos) (yE sp w):=⟨CN F hr ha.h c h d b⟩
end
theorem aU{P:aaB}{w:World}{K:Mt}{base:aaM}{k:Nat}(D:DefM K mg x st ps)(S:FnScope N ps (ac st))(e:ps.length=n)(g:N.length=nN)(d:n≤nN)(ar:∀as a,sp as a->as.length=n)
  (h:∀(c:mT) (A:aa4) (outer:List Env) (s:oR) (H:Hp) (E:XK) (f:Addr),Room k (A.deeper (ad5 x (ac st) s.heap.objs.size f c)) ->
   ∃b,ESs (cxOf CX0 P w K mg base N x (ac st) f c A outer s H E).nox (bO st) b/\∀as a,as.length=n->sp as a->b {nx:=λm=>a (.imm .none) (m.os.take m.np),rt:=λr m=>retK a m r} (fq nN as)) :
  FnM P w K mg base x (k+1) n sp:=UW D S e g d ar λc A outer s H E f hr=>let ⟨b,h1,h2⟩:=h c A outer s H E f hr;⟨b,h1.h,h2⟩
theorem Me{P:aaB}{w:World}{K:Mt}{base:aaM}{k:Nat}(F:Fun K x x st f fd)(S:FnScope N ps (ac st))(e:ps.length=n)(g:N.length=nN)(d:n≤nN)
  (h:∀(c:mT) (A:aa4) (outer:List Env) (s:oR) (H:Hp) (E:XK) (f:Addr),Room k (A.deeper (ad5 x (ac st) s.heap.objs.size f c)) ->
   ∃a,ESs (cxOf CX0 P w K mg base N x (ac st) f c A outer s H E).nox (bO st) a/\∀as b,as.length=n->sp as b->a {nx:=λm=>b (.imm .none) (m.os.take m.np),rt:=λr m=>retK b m r} (fq nN as)) :
  FnOk P w K mg base CX0 (k+1) f fd ps (spOf ⟨K,w⟩ n sp):=UL F S e g d λc A outer s H E f hr=>let ⟨a,h1,h2⟩:=h c A outer s H E f hr;⟨a,h1.h,h2⟩
end L2
namespace HT
open PySem PySem.Spec PyProof.Rows
section
variable {prog:aaB}{w:World}{A:aa4}{E:mT->oR->Prop}{s:oR}
theorem cut_whole{t d:Addr}{items:Array mT}{vl v:mT}{lo g:Option Int}{Q:mT->oR->Prop}(a:IsTup s.heap t items)(hs:s.heap.IsSliceOf d vl v .none)(p:agi vl lo)(j:agi v g)
  (i:sIx items.size 0 lo=0/\sIx items.size items.size g=items.size) (h:Q (.ref t) s):wpAny (model prog w) A (aeJ (.ref t) (.ref d)) Q E s:=by
 obtain⟨os,c,f,k⟩:=id hs;have e:s.TypeIs (.ref d) "slice":=⟨os,c,f⟩;unfold aeJ
 try with_reducible refine abA ?_
 refine aD (afG a.typeIs (by decide) (aD (aaE (name:=abZ "__getitem__") a.typeIs abp (aaI abp a.typeIs entry_tuple_getitem ?_ (args_tuple_getitem _ _)))));show wpAny _ _ (adz (.ref t) >>= _) _ _ s;refine aD (ahb a (aD (ac4 e ?_)));rw[if_pos (by decide)];refine aD (fx hs p j ?_);have b:(((sIx items.size 0 lo:Nat):Int)==0&&(1:Int)==1&&(sIx items.size items.size g-sIx items.size 0 lo)==items.size)=true:=by
  rw[i.1,i.2];simp
 show wpAny _ _ (if _=true then _ else _) _ _ s;rw[if_pos b];refine aD ?_;unfold afs;refine aD (ac4 a.typeIs (AD ?_));rw[if_pos (by rfl)];exact aD (acV (AD ⟨_,rfl,AD h⟩))
end
end HT
namespace L2
open PySem PySem.Spec PyProof.Rows
variable{hi lo:Option Int}{Kr:R->Prop}{ds es:List dL}{X:Cx}{pins:List (Addr×Obj)}{σ:St}{H:Hp}{h h':aaM}{t t1 t2:Bool}{a b i1 i2 it l l1 l2 z:Addr}{i n:Nat}{items its xs ys:Array mT}{Q:mT->oR->Prop}{f:mT}{elts:List Expr}
section
variable {X:Cx}
noncomputable def oCut:R->Option Int->Option Int->MSt->(R->Prop)->Prop:=λr lo hi m K=>(∃ds,lsOf m r=some ds/\K (.new (cutD ds lo hi)))\/∃ds,r = .imm (.tuple ds)/\K (.imm (.tuple (cutD ds lo hi)))
theorem iY:SlR X (sM X.kx oCut):=by
 intro pins s j H x v vl B lo hi y Q I q hs u w C;obtain⟨D,m,σ,F,r,K,R,h,k|⟨ds,rfl,k⟩,c⟩:=C
 .exact Gi pins s j H x v vl B lo hi y Q I q hs u w ⟨D,m,σ,F,r,K,R,h,k,c⟩
 .obtain⟨a,xs,rfl,f,g⟩:=bF (h)
  by_cases o:HT.sIx xs.length 0 lo=0/\HT.sIx xs.length xs.length hi=xs.length
  .cases q;obtain⟨its,E,A,G⟩:=I.tuple f;have d:its.toArray.size=xs.length:=by rw[aaw];exact E.length.symm
   refine⟨"tuple",_,abp.lookup,A.typeIs,?_⟩;refine HT.cut_whole A hs u w (by rw[d];exact o) ⟨.ref a,H,I,rfl,c _ _ H k R (kj (cF f ?_)) (Frm.refl _ _)⟩;have e:cutD ds lo hi=ds:=by
    unfold cutD;rw[g.length,o.1,o.2,List.drop_zero,Nat.sub_zero,<-g.length,aab]
   rw[e];exact g
  .exact QR pins s j H _ v vl B lo hi y Q I q hs u w ⟨a,xs,rfl,f,o,λp hp=>c _ _ _ k (R.lay hp) (kj (cF (SqT.of ai) ((zo g lo hi).mono (bf (.inl hp))))) (cf hp)⟩
theorem Om{m:MSt}{r:R}(e:lsOf m r=some ds)(h:Kr (.new (cutD ds lo hi))):oCut r lo hi m Kr:=.inl ⟨ds,e,h⟩
theorem Sd{m:MSt}(h:Kr (.imm (.tuple (cutD ds lo hi)))):oCut (.imm (.tuple ds)) lo hi m Kr:=.inr ⟨ds,rfl,h⟩
theorem sg(n:Nat):cutD ds none (some (n:Int))=ds.take n:=by
 unfold cutD;rw[HT.sIx_none,HT.sIx_nat];simp
theorem qK(n:Nat):cutD ds (some (n:Int)) none=ds.drop n:=by
 unfold cutD;rw[HT.sIx_none,HT.sIx_nat]
 by_cases h:n≤ds.length
 .rw[Nat.min_eq_left h];exact List.take_of_length_le (by simp)
 .rw[Nat.min_eq_right (by omega),ahL,List.drop_eq_nil_of_le (by omega),List.take_nil]
noncomputable def oIn(c:Bool):WO:=λr1 r m K=>∃d ds,asD m r1=some d/\(asD m r=some (.list ds)\/asD m r=some (.tuple ds))/\d.canLay0=true/\abd ds=true/\d.depth≤60/\K (.imm (.bool (if c then !ds.any (λy=>aak y d)else ds.any λy=>aak y d)))
theorem ii(D:X.A.units+64<cLine):OpR X (abr .NotIn) (rM X.kx (oIn true)):=by
 rintro pins s k H x y v u Q I A w ⟨G,m,σ,L,J,r1,F,K,R,B,q,⟨d,ds,C,e,j,g,dp,ho⟩,o⟩;obtain⟨E,r⟩:=B.reads I R A C (abo _ j);have c:EP X pins k Q _ s:=⟨.bl _,H,I,rfl,o _ _ H ho R (om _) (Frm.refl _ _)⟩;have p:X.A.units+1+min (aav ds) d.depth<cLine:=by have:=af2 (aav ds) d.depth;omega
 rcases e with e|e
 .obtain⟨bs,q2⟩:=q.reads I R w e (by simp[acX];exact adh _ g);exact SeqAt.notIn_list_reads q2 r g j p c
 .obtain⟨bs,q2⟩:=q.reads I R w e (by simp only[acX];exact adh _ g);exact SeqAt.notIn_tuple_reads q2 r g j p c
theorem x_in{m:MSt}{r1 r:R}{c:Bool}{d:dL}{k k':Nat}(j:asD m r1=some d)(e:asD m r=some (.list ds)\/asD m r=some (.tuple ds))(s1:Shp k d)(s2:∀y∈ds,Shp k' y)(g:k≤60)(h:Kr (.imm (.bool (if c then !ds.any (λy=>aak y d)else ds.any λy=>aak y d)))):oIn c r1 r m Kr:=
 ⟨d,ds,j,e,s1.cl,(jI s2).1,aaj s1.dp g,h⟩
noncomputable def WQ(P:List dL->Prop):R->Prop
 | .new ds=>P ds
 |_=>False
noncomputable def zO:WM:=λr rs m K=>p9 (λk=>on1 (WQ λes=>∃ds,m.os[k]?=some ds/\ds.length+es.length≤aag/\K (.imm .none) {m with os:=m.os.set k (ds++es)}) rs) r
theorem wG:MtM X "list.extend" (mM X.kx zO):=by
 rintro pins s d H x xs v A Q I u E ⟨G,m,σ,M,L,r,rs,K,R,w,c,ho,e⟩;obtain⟨k,a,rfl,j,rfl,ho⟩:=uE w ho;obtain⟨y,J,rfl,rfl,c,ho⟩:=d6 c ho
 cases y with
 |imm _=>exact ho.elim
 |obj _=>exact ho.elim
 | «at» _ _=>exact ho.elim
 |newT _=>exact ho.elim
 |new es=>
  obtain⟨ds,B,D,ho⟩:=ho;obtain⟨b,C,rfl,p,hb,o⟩:=c;obtain⟨ys,q,g⟩:=R.own _ _ ds j B;obtain⟨R2,F⟩:=R.setO j q (g.append o);exact zK pins s d H _ _ v A Q I u E ⟨a,b,ys,C,rfl,rfl,q,hb,by rw[<-g.length,<-o.length];exact D,e _ _ _ _ ho rfl R2 ve F⟩
theorem FH{m:MSt}{k:Nat}{K:R->MSt->Prop}(e:m.os[k]?=some ds)(c:ds.length+es.length≤aag)(h:K (.imm .none) {m with os:=m.os.set k (ds++es)}):zO (.obj k) [.new es] m K:=⟨ds,e,c,h⟩
end
theorem Inv.turneds{s:oR}{t':Nat}{ch:List Addr}(I:Inv X pins σ H s)(k:∀b o,b∉ch->s.heap.get? b=some o->h'.get? b=some o)(j:∀b∈ch,FpOk X pins H b):Inv X pins σ H {s with heap:=h',toks:=t' }:=by
 have g:∀b u,H b=some u->b∉ch:=λb u e z=>by have:=(j b z).1;grind
 have w:=λz=>(j _ z).2.1 rfl;refine I.step (g':=s.gens) (d':=s.drawn) (λb hb=>?_) (λb o _ _ d e _=>k b o d e) (λb o _ _ d e _=>⟨o.slots,k b o d e⟩) (λ_ _ _ _ n=>n)
  (λb o d e=>⟨o,k b o d e⟩) (λ_ _ e=>e) (λ_ _ _ e=>e) (λb ps e=>⟨#[],by rw[e];simp⟩) (λm p=>?_) (λb u e=>?_) I.bare
 .obtain⟨_,f1,_,f3,f4,f5⟩:=j b hb;exact⟨f3,f1,f4,f5⟩
 .obtain⟨o,es,ep,ho,r⟩:=p;exact⟨o,es,ep,k _ o w ho,r⟩
 .refine(I.hok b u e).stay (λc v d q=>k c v ?_ q) (λ_ q=>q) λ_ _ q=>q;rcases d with z|z
  .rw[z];exact g b u e
  .exact g c _ z
noncomputable def SubI(t:Bool)(h:aaM)(i l:Addr)(k:Nat):Prop:=if t then h.IsTupleIter i l k else h.IsListIter i l k
noncomputable def SubS(t:Bool)(h:aaM)(l:Addr)(its:Array mT):Prop:=if t then h.IsTuple l its else h.IsList l its
theorem SubI.ext{i:Addr}{k:Nat}(x:SubI t h i l k)(e:afI b h h')(n:i≠b):SubI t h' i l k:=by
 cases t
 .exact aaM.IsListIter.extBut (x) e n
 .exact aaM.IsTupleIter.extBut (x) e n
theorem SubI.obj{i:Addr}{k:Nat}(x:SubI t h i l k):∃o vs,h.get? i=some o/\o.data = .fields vs:=by
 cases t
 .obtain⟨o,e,_,d⟩:=(x);exact⟨o,_,e,d⟩
 .obtain⟨o,e,_,d⟩:=(x);exact⟨o,_,e,d⟩
theorem SubI.keep{i:Addr}{k:Nat}(x:SubI t h i l k)(e:∀o,h.get? i=some o->h'.get? i=some o):SubI t h' i l k:=by
 cases t
 .obtain⟨o,q,r⟩:=(x);exact⟨o,e o q,r⟩
 .obtain⟨o,q,r⟩:=(x);exact⟨o,e o q,r⟩
theorem SubS.keep(x:SubS t h l its)(e:∀o,h.get? l=some o->h'.get? l=some o):SubS t h' l its:=by
 cases t
 .obtain⟨o,q,r⟩:=(x);exact⟨o,e o q,r⟩
 .obtain⟨o,q,r⟩:=(x);exact⟨o,e o q,r⟩
theorem SubS.ext(x:SubS t h l its)(e:afI b h h')(n:l≠b):SubS t h' l its:=x.keep λo q=>e l o n q
section
variable {prog:aaB}{w:World}{A:aa4}{E:mT->oR->Prop}{s:oR}
theorem jx{c:Type}{Q:c->oR->Prop}(d:A.handled=none)(h:∀h' e,(∀b o,s.heap.get? b=some o->h'.get? b=some o)->(∃o,h'.get? e=some o/\o.cls = .type "StopIteration")->E (.ref e) {s with heap:=h' }) :
  wpAny (model prog w) A (do raiseNew (<- newExc (.type "StopIteration") []):Sem c) Q E s:=by
 refine aD ?_;refine aD ?_;refine aaW ?_ (by size_fits);refine aD (wpAny_of_eq (a:=ab0) (by rfl) (aaW ?_ (by size_fits)));refine aD (m:=handled) (wpAny_handled ?_);rw[d];refine aD (AD (wpAny_throw (h _ _ (λb o q=>Ad _ (Ad _ q)) ⟨_,aaf _ rfl,rfl⟩)))
theorem VZ(c:s.heap.IsTupleIter it l i)(h:Q (.ref l) s):wpAny (model prog w) A (field (.ref it) 0) Q E s:=let ⟨_,ho,_,hd⟩:=c;aaO ho hd (x:=.ref l) rfl h
theorem Vk(c:s.heap.IsTupleIter it l i)(h:Q (.int i 0) s):wpAny (model prog w) A (field (.ref it) 1) Q E s:=let ⟨_,ho,_,hd⟩:=c;aaO ho hd (x:=.int i 0) rfl h
theorem VG{Q:Option (Array mT)->oR->Prop}(c:s.heap.IsTuple l items)(h:Q (some items) s):wpAny (model prog w) A (seqItems? (.ref l)) Q E s:=let ⟨_,ho,_,_,hd⟩:=c;acY ho hd h
theorem vN{Q:Option mT->oR->Prop}(c:s.heap.IsTupleIter it l i)(p:s.heap.IsTuple l items)
  (hs:∀x,items[i]?=some x->∀h',h'.IsTupleIter it l (i+1)->abk it s.heap h'->Q (some x) {s with heap:=h' })
  (d:items[i]?=none->A.handled=none/\∀h' e,afI it s.heap h'->(∃o,h'.get? e=some o/\o.cls = .type "StopIteration")->E (.ref e) {s with heap:=h' }) :
  wpAny (model prog w) A (callSpecial? (.ref it) "__next__" []) Q E s:=by
 refine aaE (name:=abZ "__next__") c.typeIs aft (aaI aft c.typeIs F.entry_tuple_iterator_next ?_ (F.args_tuple_iterator_next_1 _))
 wp_walk using VZ c,Vk c,VG p
 rcases id c with⟨o,ho,r,hd⟩;rw[aa1]
 cases q:items[i]? with
 | some x=>
  have new:(s.heap.update it (acs (·.setIfInBounds 1 (ace ((i:Int)+1))))).IsTupleIter it l (i+1):=by
   refine⟨_,abf _ ho (ac0 (abG hd _)),?_,?_⟩
   .exact(ahx ..).trans r
   .rw[abG hd];simp[ace]
  exact aD (m:=acM (.ref it) 1 _) (adB ho hd (by simp) (AD ⟨x,rfl,hs x q _ new (ag3 ..)⟩))
 |none=>
  obtain⟨j,d⟩:=d q;refine aD (m:=rule _) (acV (aD (m:=acM (.ref it) 0 _) (adB ho hd (by simp) ?_)));exact jx (A:=A.in1) j λh' e k x=>d h' e (λb ob g z=>k b ob ((ag3 ..).extBut b ob g z)) x
theorem jF{x:mT}(c:SubI t s.heap it l i)(j:SubS t s.heap l items)(d:items[i]?=some x)
  (e:∀h',SubI t h' it l (i+1)->abk it s.heap h'->Q x {s with heap:=h' }):wpAny (model prog w) A (abN (.ref it)) Q E s:=by
 cases t with
 |false=>exact wpAny_nextOf_list_item (c) (j) d e
 |true=>exact aD (vN (c) (j) (λy g h' a b=>by rw[d]at g;cases g;exact AD (e h' a b)) λno=>by rw[d]at no;cases no)
theorem sD(j:A.handled=none)(c:SubI t s.heap it l i)(m:SubS t s.heap l items)(g:items[i]?=none)
  (d:∀h' e,afI it s.heap h'->(∃o,h'.get? e=some o/\o.cls = .type "StopIteration")->E (.ref e) {s with heap:=h' }):wpAny (model prog w) A (abN (.ref it)) Q E s:=by
 cases t with
 |false=>exact wpAny_nextOf_list_end j (c) (m) g d
 |true=>exact aD (vN (c) (m) (λy k=>by rw[g]at k;cases k) λ_=>⟨j,d⟩)
structure Apart(z TI TO i1 i2 l1 l2:Addr):Prop where
 d:[z,TI,TO,i1,i2].Nodup
 m1:l1∉[z,TI,TO,i1,i2]
 m2:l2∉[z,TI,TO,i1,i2]
theorem Apart.old{TI TO:Addr}(D:Apart z TI TO i1 i2 l1 l2):ZipApart z TI TO i1 i2 l1 l2:=by
 obtain⟨d,m1,m2⟩:=D;simp at d m1 m2;obtain⟨⟨a1,a2,g,e⟩,⟨b1,b2,m⟩,⟨c,j⟩,k⟩:=d;exact⟨aa5 a1,aa5 a2,aa5 g,aa5 e,b1,b2,m,c,j,k,m1.1,m1.2.2.1,m1.2.2.2.1,m1.2.2.2.2,m2.1,m2.2.2.1,m2.2.2.2.1,m2.2.2.2.2⟩
structure Ia(t1 t2:Bool)(z TI TO i1 i2 l1 l2:Addr)(k:Nat)(h:aaM):Prop where
 z:IsZip h z TI TO .none
 ti:ae6 h TI (.ref i1) (.ref i2)
 to:∃a b,ae6 h TO a b
 s1:SubI t1 h i1 l1 k
 s2:SubI t2 h i2 l2 k
theorem zf0{TI TO:Addr}(c:IsZip s.heap z TI TO f)(h:Q f s):wpAny (model prog w) A (field (.ref z) 0) Q E s:=aaO c rfl (x:=f) rfl h
theorem zf2{TI TO:Addr}(c:IsZip s.heap z TI TO f)(h:Q (.bool false) s):wpAny (model prog w) A (field (.ref z) 2) Q E s:=aaO c rfl (x:=.bool false) rfl h
theorem zf3{TI TO:Addr}(c:IsZip s.heap z TI TO f)(h:Q (.ref TI) s):wpAny (model prog w) A (field (.ref z) 3) Q E s:=aaO c rfl (x:=.ref TI) rfl h
theorem F7{TI TO:Addr}{k:Nat}{x y:mT}{Q:Option mT->oR->Prop}(D0:Apart z TI TO i1 i2 l1 l2)(Z:Ia t1 t2 z TI TO i1 i2 l1 l2 k s.heap)
  (hl1:SubS t1 s.heap l1 xs) (hl2:SubS t2 s.heap l2 ys) (hx:xs[k]?=some x) (hy:ys[k]?=some y)
  (hQ:∀h',IsZip h' z TI TO (ace s.heap.objs.size)->ae6 h' TO x y->SubI t1 h' i1 l1 (k+1)->SubI t2 h' i2 l2 (k+1)->ae6 h' s.heap.objs.size x y->h'.objs.size=s.heap.objs.size+1 ->
   (∀c o,c∉[z,TO,i1,i2]->s.heap.get? c=some o->h'.get? c=some o)->Q (some (.ref s.heap.objs.size)) {s with heap:=h' }):wpAny (model prog w) A (aci (.ref z)) Q E s:=by
 have D:=D0.old;obtain⟨J,V,⟨a,b,T⟩,h1,h2⟩:=Z;have hT:s.TypeIs (.ref z) "zip":=(⟨_,J,rfl⟩);unfold aci;refine aD (act (aaE (name:=abZ "__next__") hT ae7 (aaI ae7 hT F.entry_zip_next ?_ (F.args_zip_next_1 _))));refine aD (m:=field (.ref z) 2) (zf2 J (aD (m:=field (.ref z) 3) (zf3 J (aD (acY V rfl ?_)))));refine aD (m:=abX (.ref z)) (aD (m:=field (.ref z) 0) (zf0 J (AD ?_)));simp only[if_true];refine aD (acV (aD (aaO J rfl (x:=.ref TO) rfl (aD (aay J (by simp) λg1 C s1=>?_)))));replace C:IsZip g1 z TI TO .ellipsis:=C;refine aD ?_;simp only[ad2,List.forIn_nil,ahM,List.zipIdx_nil];refine aD (aD (afS (aD (m:=abN (.ref i1)) ?_)));refine(jF (h1.ext s1.extBut D.i1z) (hl1.ext s1.extBut D.l1z) hx λg2 n1 s2=>AD ?_);have u:ae6 g2 TO a b:=s2.extBut _ _ D.TOi1 (s1.extBut _ _ D.TOz T);refine aD (acY u rfl (aD (aeU u λg3 j G=>?_)));replace j:ae6 g3 TO x b:=j;refine aD (afJ (AD (aD (aD (afS ?_)))));refine aD (m:=abN (.ref i2)) (jF (((h2.ext s1.extBut D.i2z).ext s2.extBut D.i12.symm).ext G.extBut D.TOi2.symm) (((hl2.ext s1.extBut D.l2z).ext s2.extBut D.l2i1).ext G.extBut D.l2TO) hy λg4 n2 O=>AD ?_);have v:ae6 g4 TO x b:=O.extBut _ _ D.TOi2 j;refine aD (acY v rfl (aD (aeU v λg d K=>?_)));replace d:ae6 g TO x y:=d;refine aD (afJ (AD (AD (aD (acY d rfl (aD (afu ?_)))))));have L:g.objs.size=s.heap.objs.size:=by rw[K.1,O.1,G.1,s2.1,s1.1]
 have N:IsZip g z TI TO .ellipsis:=K.extBut _ _ D.TOz.symm (O.extBut _ _ D.i2z.symm (G.extBut _ _ D.TOz.symm (s2.extBut _ _ D.i1z.symm C)));have k5:∀c o,c∉[z,TO,i1,i2]->s.heap.get? c=some o->g.get? c=some o:=λc o r e=>by
  simp only[aai,abc,not_or,or_false]at r;exact K.extBut _ _ r.2.1 (O.extBut _ _ r.2.2.2 (G.extBut _ _ r.2.1 (s2.extBut _ _ r.2.2.1 (s1.extBut _ _ r.1 e))))
 have W:SubI t1 g i1 l1 (k+1):=((n1.ext G.extBut D.TOi1.symm).ext O.extBut D.i12).ext K.extBut D.TOi1.symm;have n25:SubI t2 g i2 l2 (k+1):=n2.ext K.extBut D.TOi2.symm;have M:z<g.objs.size:=aaa N;refine aD (m:=acN (.ref z) (.ref g.objs.size)) ?_;have S:IsZip (g.push {cls:=.type "tuple",data:=.seq #[x,y]}) z TI TO .ellipsis:=Ad _ N;refine aD (m:=acM (.ref z) 0 _) (aay S (by simp) λg7 B s7=>?_);replace B:IsZip g7 z TI TO (ace g.objs.size):=B;refine aay B (by simp) λI p U=>?_;replace p:IsZip I z TI TO (ace g.objs.size):=p;have R:∀c o,c≠z->g.get? c=some o->I.get? c=some o:=λc o c1 e=>U.extBut _ _ c1 (s7.extBut _ _ c1 (Ad _ e));have P:ae6 I g.objs.size x y:=U.extBut _ _ (aaX M) (s7.extBut _ _ (aaX M) (aaf _ rfl));have z8:I.objs.size=g.objs.size+1:=by rw[U.1,s7.1,abt]
 rw[L]at p P z8;have Y:wpAny (model prog w) A (pure (some (abh g.objs.size))) Q E {s with heap:=I}:=by
  rw[L];exact AD (hQ I p (R _ _ D.TOz d) (W.keep λo e=>R _ o D.i1z e) (n25.keep λo e=>R _ o D.i2z e) P z8 λc o r e=>R c o (λq=>r (by simp[q])) (k5 c o r e))
 exact AD ⟨_,rfl,Y⟩
theorem Jx{TI TO:Addr}{k:Nat}{Q:Option mT->oR->Prop}(hh:A.handled=none)(D0:Apart z TI TO i1 i2 l1 l2)(Z:Ia t1 t2 z TI TO i1 i2 l1 l2 k s.heap)
  (J:SubS t1 s.heap l1 xs) (S:SubS t2 s.heap l2 ys) (K:xs[k]?=none\/ys[k]?=none)
  (hQ:∀h',(∀c o,c∉[z,TO,i1,i2]->s.heap.get? c=some o->h'.get? c=some o)->Q none {s with heap:=h' }):wpAny (model prog w) A (aci (.ref z)) Q E s:=by
 have D:=D0.old;obtain⟨y,R,⟨a,b,O⟩,W,h2⟩:=Z;have hT:s.TypeIs (.ref z) "zip":=(⟨_,y,rfl⟩);have out:∀{c:Addr},c∉[z,TO,i1,i2]->c≠z/\c≠TO/\c≠i1/\c≠i2:=λv=>by simpa only[aai,abc,not_or,or_false]using v
 have I:∀h' e,(∀c o,c∉[z,TO,i1,i2]->s.heap.get? c=some o->h'.get? c=some o)->(∃o,h'.get? e=some o/\o.cls = .type "StopIteration") ->
   wpAny (model prog w) A (do if <- ahi (.ref e) (.type "StopIteration")then pure none else throw (.ref e):Sem (Option mT)) Q E {s with heap:=h' }:=λh' e hk ⟨o,ho,v⟩=>
  aD (acl (T:= "StopIteration") (b:=true) ⟨o,ho,v⟩ aeo (AD (hQ _ hk)))
 unfold aci;refine aD (act (aaE (name:=abZ "__next__") hT ae7 (aaI ae7 hT F.entry_zip_next ?_ (F.args_zip_next_1 _))));refine aD (m:=field (.ref z) 2) (zf2 y (aD (m:=field (.ref z) 3) (zf3 y (aD (acY R rfl ?_)))));refine aD (m:=abX (.ref z)) (aD (m:=field (.ref z) 0) (zf0 y (AD ?_)));simp only[if_true];refine aD (acV (aD (aaO y rfl (x:=.ref TO) rfl (aD (aay y (by simp) λg1 j s1=>?_)))));replace j:IsZip g1 z TI TO .ellipsis:=j;refine aD ?_;simp only[ad2,List.forIn_nil,ahM,List.zipIdx_nil];refine aD (aD (afS (aD (m:=abN (.ref i1)) ?_)))
 cases hx:xs[k]? with
 |none=>
  refine(sD hh (W.ext s1.extBut D.i1z) (J.ext s1.extBut D.l1z) hx λL e s2 P=>?_);obtain⟨N,d,g⟩:=P;have C:IsZip L z TI TO .ellipsis:=s2 _ _ D.i1z.symm j;have u:e≠z:=λq=>by subst q;rw[C]at d;cases d;simp at g
  refine aay C (by simp) λV _ r=>I V e (λc o v q=>?_) ⟨N,r.extBut _ _ u d,g⟩;obtain⟨G,_,M,_⟩:=out v;exact r.extBut _ _ G (s2 _ _ M (s1.extBut _ _ G q))
 |some x=>
  have hy:ys[k]?=none:=by rcases K with q|q;rw[hx]at q;cases q;exact q
  refine(jF (W.ext s1.extBut D.i1z) (J.ext s1.extBut D.l1z) hx λL n1 s2=>AD ?_);have p:ae6 L TO a b:=s2.extBut _ _ D.TOi1 (s1.extBut _ _ D.TOz O);refine aD (acY p rfl (aD (aeU p λV Y r=>?_)));refine aD (afJ (AD (aD (aD (afS ?_)))));refine aD (m:=abN (.ref i2)) (sD hh (((h2.ext s1.extBut D.i2z).ext s2.extBut D.i12.symm).ext r.extBut D.TOi2.symm) (((S.ext s1.extBut D.l2z).ext s2.extBut D.l2i1).ext r.extBut D.l2TO) hy λg4 e s4 P=>?_);obtain⟨N,d,g⟩:=P;have B:IsZip g4 z TI TO .ellipsis:=s4 _ _ D.i2z.symm (r.extBut _ _ D.TOz.symm (s2.extBut _ _ D.i1z.symm j));have u:e≠z:=λq=>by subst q;rw[B]at d;cases d;simp at g
  refine aay B (by simp) λg5 _ U=>I g5 e (λc o v q=>?_) ⟨N,U.extBut _ _ u d,g⟩;obtain⟨G,c2,M,c4⟩:=out v;exact U.extBut _ _ G (s4 _ _ c4 (r.extBut _ _ c2 (s2.extBut _ _ M (s1.extBut _ _ G q))))
end
noncomputable def zit(t:Bool):String:=if t then "tuple_iterator" else "list_iterator"
noncomputable abbrev itO(t:Bool)(l:Addr):Obj:={cls:=.type (zit t),data:=.fields #[.ref l,.int 0 0]}
noncomputable abbrev zA(t1:Bool)(h:aaM)(l1:Addr):aaM:=h.push (itO t1 l1)
noncomputable abbrev zB(t1 t2:Bool)(h:aaM)(l1 l2:Addr):aaM:=(zA t1 h l1).push (itO t2 l2)
noncomputable abbrev zC(t1 t2:Bool)(h:aaM)(l1 l2:Addr):aaM:=(zB t1 t2 h l1 l2).push {cls:=.type "tuple",data:=.seq #[.ref h.objs.size,.ref (zA t1 h l1).objs.size]}
noncomputable abbrev zD(t1 t2:Bool)(h:aaM)(l1 l2:Addr):aaM:=(zC t1 t2 h l1 l2).push {cls:=.type "tuple",data:=.seq #[.none,.none]}
noncomputable abbrev zE(t1 t2:Bool)(h:aaM)(l1 l2:Addr):aaM:=(zD t1 t2 h l1 l2).push {cls:=.type "zip",data:=.fields #[.none,.bool false,.bool false,.ref (zB t1 t2 h l1 l2).objs.size,.ref (zC t1 t2 h l1 l2).objs.size]}
theorem c7{prog:aaB}{w:World}{A:aa4}{E:mT->oR->Prop}{s:oR}(h:SubS t s.heap l its)
  (c:Q (.ref s.heap.objs.size) {s with heap:=s.heap.push (itO t l)}):wpAny (model prog w) A (ae2 (.ref l)) Q E s:=by
 cases t
 .exact wpAny_pyIter_list (h) c
 .exact wpAny_pyIter_tuple (h) c
theorem Kj(t1 t2:Bool)(l1 l2:Addr)(xs ys:Array mT) :
  Meets (acD.«zip.__new__» ⟨[.type "zip",.ref l1,.ref l2],[]⟩) (λ_ R s=>SubS t1 s.heap l1 xs/\SubS t2 s.heap l2 ys/\R (.ok (.ret (.ref (zD t1 t2 s.heap l1 l2).objs.size))) {s with heap:=zE t1 t2 s.heap l1 l2}):=
 .of_wp λprog w A R s h=>by
  rcases s with⟨hp,g,d,q,os⟩;rcases h with⟨m,k,h⟩;have p:=sub_zip;have j:=m;have c:SubS t2 (Shared.heap ⟨hp.push (itO t1 l1),g,d,q,os⟩) l2 ys:=k.keep λo e=>Ad _ e
  wp_walk using c7 j,c7 c
  exact⟨_,rfl,h⟩
section
variable {prog:aaB}{w:World}{A:aa4}{E:mT->oR->Prop}{s:oR}
theorem GC(q:SubS t1 s.heap l1 xs)(p:SubS t2 s.heap l2 ys)
  (h:∀h',Ia t1 t2 (s.heap.objs.size+4) (s.heap.objs.size+2) (s.heap.objs.size+3) s.heap.objs.size (s.heap.objs.size+1) l1 l2 0 h'->(∀c o,s.heap.get? c=some o->h'.get? c=some o)->Q (.ref (s.heap.objs.size+4)) {s with heap:=h' }):wpAny (model prog w) A (call (.type "zip") [.ref l1,.ref l2]) Q E s:=by
 refine callType_new F.called_zip (by decide) (F.typeCall_zip_2 _ _) (F.newCall_zip_2 _ _) (λobj=>F.args_object_init_3 obj _ _) F.entry_zip_new (Kj t1 t2 l1 l2 xs ys) ⟨q,p,?_⟩;have k:(zA t1 s.heap l1).objs.size=s.heap.objs.size+1:=abt ..;have m:(zB t1 t2 s.heap l1 l2).objs.size=s.heap.objs.size+2:=by rw[abt,k]
 have r:(zC t1 t2 s.heap l1 l2).objs.size=s.heap.objs.size+3:=by rw[abt,m]
 have y:(zD t1 t2 s.heap l1 l2).objs.size=s.heap.objs.size+4:=by rw[abt,r]
 have g:∀c o,(zD t1 t2 s.heap l1 l2).get? c=some o->(zE t1 t2 s.heap l1 l2).get? c=some o:=λc o e=>Ad _ e;have d:∀c o,(zC t1 t2 s.heap l1 l2).get? c=some o->(zE t1 t2 s.heap l1 l2).get? c=some o:=λc o e=>g c o (Ad _ e);have j:∀c o,(zB t1 t2 s.heap l1 l2).get? c=some o->(zE t1 t2 s.heap l1 l2).get? c=some o:=λc o e=>d c o (Ad _ e);have u:∀c o,(zA t1 s.heap l1).get? c=some o->(zE t1 t2 s.heap l1 l2).get? c=some o:=λc o e=>j c o (Ad _ e);have v:(zE t1 t2 s.heap l1 l2).get? (s.heap.objs.size+4)=some {cls:=.type "zip",data:=.fields #[.none,.bool false,.bool false,.ref (s.heap.objs.size+2),.ref (s.heap.objs.size+3)]}:=by
  rw[<-y,<-r,<-m];exact aaf _ rfl
 have G:(zE t1 t2 s.heap l1 l2).get? (s.heap.objs.size+3)=some {cls:=.type "tuple",data:=.seq #[.none,.none]}:=by
  rw[<-r];exact g _ _ (aaf _ rfl)
 have D:(zE t1 t2 s.heap l1 l2).get? (s.heap.objs.size+2)=some {cls:=.type "tuple",data:=.seq #[.ref s.heap.objs.size,.ref (s.heap.objs.size+1)]}:=by
  rw[<-m,<-k];exact d _ _ (aaf _ rfl)
 have B:(zE t1 t2 s.heap l1 l2).get? (s.heap.objs.size+1)=some (itO t2 l2):=by
  rw[<-k];exact j _ _ (aaf _ rfl)
 have C:(zE t1 t2 s.heap l1 l2).get? s.heap.objs.size=some (itO t1 l1):=u _ _ (aaf _ rfl);have sub:∀{t:Bool}{i l:Addr},(zE t1 t2 s.heap l1 l2).get? i=some (itO t l)->SubI t (zE t1 t2 s.heap l1 l2) i l 0:=λ{t i l} e=>by
  cases t
  .exact⟨_,e,rfl,rfl⟩
  .exact⟨_,e,rfl,rfl⟩
 show _/\_;rw[y];exact⟨⟨_,v,rfl⟩,h _ ⟨v,D,⟨_,_,G⟩,sub C,sub B⟩ λc o x=>u c o (Ad _ x)⟩
end
theorem yT{l1 l2:Nat}(e:l1<n)(c:l2<n):Apart (n+4) (n+2) (n+3) n (n+1) l1 l2 where
 d:=by
  simp
 m1:=by
  grind
 m2:=by
  grind
noncomputable def SqB(t:Bool)(K:Mt)(H:Hp)(a:Addr)(xs:List V):Prop:=if t then SqT K H a xs else SqL K H a xs
noncomputable def Itz(t1 t2:Bool)(K:Mt)(a b:Addr):It where
 go:=λi H=>∃xs ys x y,SqB t1 K H a xs/\SqB t2 K H b ys/\xs[i]?=some x/\ys[i]?=some y
 yld:=λi H v c=>∃T x y,v = .ref T/\H T=none/\c=upd H T (.tup [x,y])/\(∀xs,SqB t1 K H a xs->xs[i]?=some x)/\∀ys,SqB t2 K H b ys->ys[i]?=some y
 stop:=λi H=>∃xs ys,SqB t1 K H a xs/\SqB t2 K H b ys/\(xs.length≤i\/ys.length≤i)
theorem Inv.sqb{s:oR}{xs:List V}(I:Inv X pins σ H s)(h:SqB t X.kx H a xs):∃its:List mT,Vals xs its/\SubS t s.heap a its.toArray/\xs.length≤aag:=by
 cases t
 .obtain⟨its,r,p,z⟩:=I.list (h);exact⟨its,r,p.isList,z⟩
 .obtain⟨its,r,p,z⟩:=I.tuple (h);exact⟨its,r,p,z⟩
theorem Inv.sqb_inj{s:oR}{xs ys:List V}(I:Inv X pins σ H s)(h:SqB t X.kx H a xs)(h':SqB t X.kx H a ys):xs=ys:=by
 cases t
 .exact I.list_inj (h) (h')
 .exact I.tuple_inj (h) (h')
theorem CW{P:aaB}{w:World}{K:Mt}{x1:Nat}{pos:Pos}{TI TO:Addr}(D:Apart z TI TO i1 i2 a b):Turn P w K (.Tuple elts x1 pos) (Itz t1 t2 K a b) [z,TI,TO,i1,i2] z (λi h=>Ia t1 t2 z TI TO i1 i2 a b i h) where
 mem:=by simp
 obj:=λi h st c g=>by
  obtain⟨A,m,⟨u,v,j⟩,M,p⟩:=st;simp only[aai,abc,or_false]at g;rcases g with rfl|rfl|rfl|rfl|rfl
  .exact⟨_,A,λv q=>by cases q⟩
  .exact⟨_,m,λv q=>by cases q⟩
  .exact⟨_,j,λv q=>by cases q⟩
  .obtain⟨o,vs,e,d⟩:=M.obj;exact⟨o,e,λv q=>by rw[d]at q;cases q⟩
  .obtain⟨o,vs,e,d⟩:=p.obj;exact⟨o,e,λv q=>by rw[d]at q;cases q⟩
 keep:=λi h h' st k=>by
  obtain⟨A,m,⟨u,v,j⟩,M,p⟩:=st;exact⟨k z (by simp) _ A,k TI (by simp) _ m,⟨u,v,k TO (by simp) _ j⟩,M.keep λo e=>k i1 (by simp) o e,p.keep λo e=>k i2 (by simp) o e⟩
 item:=by
  intro X V hw Y g i pins s σ H E I S st hg;subst V hw Y;obtain⟨xs,ys,x,y,B,r,hx,hy⟩:=hg;obtain⟨R,G,p1,_⟩:=I.sqb B;obtain⟨L,F,p2,_⟩:=I.sqb r;obtain⟨N,e1,U⟩:=G.get hx;obtain⟨O,e2,T⟩:=F.get hy;refine F7 D st p1 p2 (x:=N) (y:=O) (by simpa using e1) (by simpa using e2) λh' a1 a2 a3 a4 a5 a6 a7=>⟨.ref s.heap.objs.size,rfl,?_⟩;refine wpAny_letOwnedTupleGo_zip (s:={s with heap:=h' }) a1 λp b1 sb=>?_;have hfT:H s.heap.objs.size=none:=I.hok.fresh (Dl _);have Z:∀c∈[z,TI,TO,i1,i2],c<s.heap.objs.size:=λc g=>by
   obtain⟨A,m,⟨u,v,j⟩,M,p⟩:=st;simp only[aai,abc,or_false]at g;rcases g with rfl|rfl|rfl|rfl|rfl
   .exact aaa A
   .exact aaa m
   .exact aaa j
   .obtain⟨o,vs,e,d⟩:=M.obj;exact aaa e
   .obtain⟨o,vs,e,d⟩:=p.obj;exact aaa e
  have W:∀c∈[z,TI,TO,i1,i2],c≠s.heap.objs.size:=λc g=>aaG (Z c g);have C:=D.old;have J:∀c o,c≠z->h'.get? c=some o->p.get? c=some o:=λc o n e=>sb.extBut c o n e;have T2:ae6 p s.heap.objs.size N O:=J _ _ (aa5 (W z (by simp))) a5;have I0:Inv X pins σ (upd H s.heap.objs.size (.tup [x,y])) {s with heap:=s.heap.push {cls:=.type "tuple",data:=.seq #[N,O]},toks:=s.toks}:=
   I.laid (o:=.tup [x,y]) (λc o e=>Ad _ e) (Dl _) ⟨by show 2≤aag;rw[aan];decide,[N,O],.cons U (.cons T .nil),PlainT.new _ _⟩
  have Il:Inv X pins σ (upd H s.heap.objs.size (.tup [x,y])) {s with heap:=p,toks:=s.toks}:=by
   refine Inv.turneds (s:={s with heap:=s.heap.push {cls:=.type "tuple",data:=.seq #[N,O]},toks:=s.toks}) (h':=p) (t':=s.toks) (ch:=[z,TI,TO,i1,i2]) I0 (λc o g e=>?_) λc g=>?_
   .rcases aeV e with⟨rfl,rfl⟩|e
    .exact T2
    .exact J c o (λq=>g (by simp[q])) (a7 c o (λq=>g (by simp only[aai,abc,or_false]at q⊢;rcases q with q|q|q|q<;>simp[q])) e)
   .obtain⟨f0,f1⟩:=S c g;exact⟨by rw[ag (W c g)];exact f0,f1⟩
  refine⟨.ref s.heap.objs.size,upd H s.heap.objs.size (.tup [x,y]),Il,rfl,⟨_,x,y,rfl,hfT,rfl,λzs A=>by rw[I.sqb_inj A B];exact hx,λzs A=>by rw[I.sqb_inj A r];exact hy⟩,⟨b1,J _ _ C.TIz (a7 _ _ (by simp only[aai,abc,or_false,not_or];exact⟨C.TIz,C.TITO,C.TIi1,C.TIi2⟩) st.ti),⟨_,_,J _ _ C.TOz a2⟩,a3.keep λo e=>J _ o C.i1z e,a4.keep λo e=>J _ o C.i2z e⟩,λc g=>?_⟩;rw[ag (W c g)];exact(S c g).1
 done:=by
  intro X V hw Y g i pins s σ H E I S st hg;subst V hw Y;obtain⟨xs,ys,B,r,he⟩:=hg;obtain⟨R,G,p1,_⟩:=I.sqb B;obtain⟨L,F,p2,_⟩:=I.sqb r;have l1:=G.length;have l2:=F.length;refine Jx (I.ok.hd g) D st p1 p2 (by rcases he with q|q;(left;simp;omega);(right;simp;omega)) λh' hk=>⟨rfl,I.turneds (t':=s.toks) (ch:=[z,TI,TO,i1,i2]) (λc o g e=>hk c o (λq=>g (by simp only[aai,abc,or_false]at q⊢;rcases q with q|q|q|q<;>simp[q])) e) S⟩
 self:=λ_ _ _ _ _ st h=>wpAny_pyIter_zip st.z h
section
variable {X:Cx}{j:List Expr}{B:Nat}{w:Pos}{a b:Expr}{A:WA}{p pos:Pos}
noncomputable def iZip(K:Mt)(d:TA):TI:=λσ H R=>d σ H λvs c=>∃t1 t2 l1 l2,vs=[.ref l1,.ref l2]/\(∃xs,SqB t1 K c l1 xs)/\(∃ys,SqB t2 K c l2 ys)/\R (Itz t1 t2 K l1 l2) c
theorem KQ:abe "zip" = some (.type "zip"):=by rfl
theorem TF{v:TA}(M:Gl X "zip")(D:X.mg "zip" = none)(ha:PA X [a,b] v)(hs:aad [a,b] X.env=[(false,eval a X.env),(false,eval b X.env)]:=by first|exact(aE rfl).trans (congrArg _ (cu rfl))|rfl)(g:aad [b] X.env=[(false,eval b X.env)]:=by first|exact cu rfl|rfl):PI X (.Tuple j B w) (.Call (.Name "zip" p) [a,b] [] pos) (iZip X.K v):=by
 intro pins s σ H R I h;refine Call_ (ls I M D KQ (acO (thn (ha pos pins s σ H _ I h) λS s1 ⟨vs,G,k,r1,N⟩=>?_) (by rw[hs,g]) (by rw[g];rfl)));obtain⟨t1,t2,l1,l2,e,⟨xs,E⟩,⟨ys,F⟩,q⟩:=N;subst e
 cases r1 with
 | cons r rr=>
  cases rr with
  | cons O rr=>
   cases rr;cases r;cases O;obtain⟨y,P,x,_⟩:=k.sqb E;obtain⟨u,J,C,_⟩:=k.sqb F;refine GC x C λh' Z K=>?_;refine wpAny_pyIter_zip Z.z ?_;have lt:∀{t:Bool}{l:Addr}{its:Array mT},SubS t s1.heap l its->l<s1.heap.objs.size:=λ{t l its} p=>by
    cases t
    .obtain⟨o,e,_⟩:=(show s1.heap.IsList l its from p);exact aaa e
    .obtain⟨o,e,_⟩:=(show s1.heap.IsTuple l its from p);exact aaa e
   refine⟨s1.heap.objs.size+4,_,_,_,G,rfl,k.kept (t':=s1.toks) K,CW (yT (lt x) (lt C)),Z,λc L=>?_,q⟩;have m:s1.heap.objs.size≤c:=by
    have d:=L;simp at d;rcases d with rfl|rfl|rfl|rfl|rfl<;>first|exact acm _ _|exact Dl _
   exact k.fpOk m (k.hok.fresh m)
noncomputable def imS:R->Option (Bool×List dL)
 | .imm (.tuple ds)=>some (true,ds)
 | .imm (.list ds)=>some (false,ds)
 |_=>none
noncomputable def zipD(ds es:List dL):List dL:=(ds.zip es).map λp=>.tuple [p.1,p.2]
noncomputable def K9(A:WA):WI:=λm K=>A m λrs c=>match rs with|[r1,r2]=>∃t1 ds t2 es,imS r1=some (t1,ds)/\imS r2=some (t2,es)/\K ⟨zipD ds es,none⟩ c|_=>False
theorem B9{K:Kd}{k:Al}{d:Hp}{r:R}{v:V}(h:RelR K k d H r v)(e:imS r=some (t,ds)):∃l xs,v = .ref l/\DenAll K H ds xs/\(SqB t K H l xs)/\∀c,Pers H c->SqB t K c l xs:=by
 unfold imS at e
 split at e
 .cases e;obtain⟨l,xs,e,f,g⟩:=bF (h);exact⟨l,xs,e,g,f,λc p=>f.mono p⟩
 .cases e;have h':=h;obtain⟨l,xs,e,f,g⟩:=h';exact⟨l,xs,e,g,f.sq,λc p=>(f.mono p).sq⟩
 .cases e
theorem fj(ds es:List dL):(zipD ds es).length=min ds.length es.length:=by simp[zipD]
theorem vo{d e:dL}(g:ds[i]?=some d)(c:es[i]?=some e):(zipD ds es)[i]?=some (.tuple [d,e]):=by
 unfold zipD;rw[aae,(List.getElem?_zip_eq_some (z:=(d,e))).mpr ⟨g,c⟩];rfl
theorem wks_zip{K:Kd}:Wks K (Itz t1 t2 K l1 l2) (zipD ds es) λH=>∃xs ys,SqB t1 K H l1 xs/\SqB t2 K H l2 ys/\DenAll K H ds xs/\DenAll K H es ys where
 stop:=λH ⟨xs,ys,m,k,c,g⟩=>⟨xs,ys,m,k,by rw[fj,<-c.length,<-g.length];omega⟩
 go:=λi H hi ⟨xs,ys,m,k,c,g⟩=>by
  rw[fj]at hi;exact⟨xs,ys,xs[i]'(by rw[<-c.length];omega),ys[i]'(by rw[<-g.length];omega),m,k,iO _,iO _⟩
 yld:=λi H x L hi ⟨xs,ys,m,k,c,g⟩ y=>by
  obtain⟨T,u,v,rfl,F,rfl,J,C⟩:=y;obtain⟨d,E,D⟩:=c.get2 (J xs m);obtain⟨e,G,I⟩:=g.get2 (C ys k);have r:∀b o,H b=some o->upd H T (.tup [u,v]) b=some o:=λb o q=>by rw[ag (aP q F)];exact q
  have s:Pers H _:=⟨λb xs q=>r b _ q,λb o u q=>r b _ q⟩;refine⟨r,_,vo E G,?_⟩;exact cF (SqT.of ai) (DenAll.cons (D.mono s) (DenAll.cons (I.mono s) DenAll.nil))
theorem QV(y:X.mg "zip" = none)(ha:MA X [a,b] A)(N:Gl X "zip":=by rfl)(hs:aad [a,b] X.env=[(false,eval a X.env),(false,eval b X.env)]:=by first|exact(aE rfl).trans (congrArg _ (cu rfl))|rfl)(q:aad [b] X.env=[(false,eval b X.env)]:=by first|exact cu rfl|rfl):MI X (.Tuple j B w) (.Call (.Name "zip" p) [a,b] [] pos) (K9 A):=(TF N y ha hs q).wk<|by
 rintro σ H U ⟨E,m,W,J,S,o⟩;refine⟨E,m,_,J,S,λrs T vs I k n R rr F=>?_⟩
 cases rr with
 |nil=>exact k.elim
 |cons D rr=>
  cases rr with
  |nil=>exact k.elim
  |cons G rr=>
  cases rr with
  |cons _ _=>exact k.elim
  |nil=>
  obtain⟨t1,ds,t2,es,K,C,k⟩:=k;obtain⟨l1,xs,rfl,M,x,O⟩:=B9 D K;obtain⟨l2,ys,rfl,L,v,P⟩:=B9 G C;refine⟨t1,t2,l1,l2,rfl,⟨xs,x⟩,⟨ys,v⟩,o _ T _ I k n R F ⟨λH=>∃xs ys,SqB t1 X.kx H l1 xs/\SqB t2 X.kx H l2 ys/\DenAll X.kx H ds xs/\DenAll X.kx H es ys/\(∀e,Pers H e->SqB t1 X.kx e l1 xs)/\∀e,Pers H e->SqB t2 X.kx e l2 ys,wks_zip.imp<|by rintro H ⟨xs,ys,a,b,c,d,_⟩;exact⟨xs,ys,a,b,c,d⟩,⟨xs,ys,x,v,M,L,O,P⟩,by rintro V r ⟨xs,ys,a,b,c,d,s,u⟩ g;exact⟨xs,ys,s r g,u r g,c.mono g,d.mono g,λe p=>s e (g.trans p),λe p=>u e (g.trans p)⟩⟩⟩
theorem Vn{m:MSt}{K:Src->MSt->Prop}(h:A m λrs c=>match rs with|[r1,r2]=>∃t1 ds t2 es,imS r1=some (t1,ds)/\imS r2=some (t2,es)/\K ⟨zipD ds es,none⟩ c|_=>False):K9 A m K:=h
end
theorem JK{x:Nat}{c:Pos}{a b:Expr}{w:WA}{p pos:Pos}(g:X.mg "zip" = none)(ha:EA X [a,b] w)(e:Gl X "zip":=by rfl)(hs:aad [a,b] X.env=[(false,eval a X.env),(false,eval b X.env)]:=by first|exact(aE rfl).trans (congrArg _ (cu rfl))|rfl)(d:aad [b] X.env=[(false,eval b X.env)]:=by first|exact cu rfl|rfl):EI X (.Tuple elts x c) (.Call (.Name "zip" p) [a,b] [] pos) (K9 w):=⟨QV g ha.h e hs d⟩
theorem gmap{c β:Type}{xs:List c}{y:β}{f:c->β}(h:(xs.map f)[i]?=some y):∃x,xs[i]?=some x/\y=f x/\i<xs.length:=by
 rw[aae]at h
 cases q:xs[i]? with
 |none=>rw[q]at h;cases h
 |some x=>rw[q]at h;exact⟨x,rfl,(aal h).symm,(Io.mp q).1⟩
theorem dg{lo:Int}{d:dL}(h:(gG lo n)[i]?=some d):i<n/\d = .int (lo+(i:Int)):=by
 have hi:=by
  have:=(Io.mp h).1;rwa[aM]at this
 rw[i9 hi]at h;exact⟨hi,(aal h).symm⟩
theorem Ah{k:Nat}{P:MSt->Prop}{m:MSt}(c:List Nat)(m2:MSt)(N:Ren c (m.setV n (.obj k)) m2)(h:P m2):oN n P m (.obj k):=.inr ⟨c,m2,N,h⟩
theorem wf{d:dL}{P:MSt->Prop}{m:MSt}(c:List Nat)(m2:MSt)(N:Ren c (m.setV n (.imm d)) m2)(h:P m2):oN n P m (.imm d):=.inr ⟨c,m2,N,h⟩
noncomputable def RenO(c:List Nat)(o:Option R):Option R->Prop
 |none=>True
 |some r=>RenR c (some o) r
noncomputable def RenVs(c:List Nat):List (Option R)->List (Option R)->Prop
 |o::os,q::qs=>RenO c o q/\RenVs c os qs
 |[],[]=>True
 |_,_=>False
theorem RenVs.len{c:List Nat}:∀{os q:List (Option R)},RenVs c os q->q.length=os.length
 |[],[],_=>rfl
 |_::_,_::_,h=>congrArg (· + 1) (RenVs.len h.2)
 |[],_::_,h=>h.elim
 |_::_,[],h=>h.elim
theorem RenVs.get{d:List Nat}:∀{os c:List (Option R)},RenVs d os c->∀(j:Nat) (r:R),c[j]?=some (some r)->RenR d os[j]? r
 |o::os,q::c,h,0,r,e=>by
  have g:=by simpa using e
  subst g;exact h.1
 |o::os,q::c,h,j+1,r,e=>by simpa using RenVs.get h.2 j r ‹_›
 |[],[],_,_,_,e=>by simp at e
 |[],_::_,h,_,_,_=>h.elim
 |_::_,[],h,_,_,_=>h.elim
theorem Ji{c:List Nat}{m m2:MSt}(nd:decide c.Nodup=true)(lt:(c.all λk=>Nat.blt k m.os.length)=true)(pre:c.take m.np=aaH m.np)(npl:Nat.ble m.np c.length=true)(os:m2.os=c.map λk=>m.os.getD k [])(np:m2.np=m.np)(vs:RenVs c m.vs m2.vs):Ren c m m2:=
 ⟨of_decide_eq_true nd,λk d=>Nat.blt_eq.mp (abJ.mp lt k d),pre,aex npl,os,np,vs.len,λj r e=>vs.get j r e⟩
theorem Nu{d:dL}(h:(zipD ds es)[i]?=some d):∃a b,ds[i]?=some a/\es[i]?=some b/\d = .tuple [a,b]:=by
 obtain⟨p,g,rfl,_⟩:=gmap h;obtain⟨c,e⟩:=List.getElem?_zip_eq_some.mp g;exact⟨p.1,p.2,c,e,rfl⟩
end L2
namespace M3
noncomputable def stepL(xs:List (List Nat))(r:Nat):List (List Nat):=xs.flatMap λa=>(aaH (r+1)).map λk=>a++[k]
noncomputable def allL(rs:List Nat):List (List Nat):=rs.foldl stepL [[]]
noncomputable def allR:List Nat->List (List Nat)
 |[]=>[[]]
 |r::rs=>(aaH (r+1)).flatMap λk=>(allR rs).map (k :: ·)
theorem qq:∀(rs:List Nat) (xs:List (List Nat)),rs.foldl stepL xs=xs.flatMap λa=>(allR rs).map (a++·)
 |[],xs=>by
  simp[allR]
 |r::rs,xs=>by
  rw[acb,qq rs];simp only[stepL,allR,List.flatMap_assoc,List.map_flatMap,List.flatMap_map,aaD]
  congr 1
  funext a
  congr 1
  funext k
  congr 1
  funext l
  simp
theorem allL_eq(rs:List Nat):allL rs=allR rs:=by
 unfold allL;rw[qq];simp
theorem allR_len:∀{rs l:List Nat},l∈allR rs->l.length=rs.length
 |[],l,h=>by simp[allR]at h;subst h;rfl
 |r::rs,l,h=>by
  simp only[allR,abi,aac]at h;obtain⟨k,_,a,h,rfl⟩:=h;simp[allR_len h]
theorem stepL_length(xs:List (List Nat))(r:Nat):(stepL xs r).length=xs.length*(r+1):=by
 unfold stepL
 induction xs with
 |nil=>simp
 |cons a xs i=>
  grind
theorem vZ:∀{rs:List Nat}{xs:List (List Nat)},(∀r∈rs,r≤6)->(rs.foldl stepL xs).length≤xs.length*7^rs.length
 |[],xs,_=>by simp
 |r::rs,xs,h=>by
  rw[acb];refine aaj (vZ λa b=>h a (Ge _ b)) ?_;rw[stepL_length,aaz,adm,ab4,acq (7^rs.length)];refine Nat.mul_le_mul_left _ (aeT _ ?_)
  simp_all
theorem fold_small{rs:List Nat}(a:rs.length≤4)(h:∀r∈rs,r≤6):(rs.foldl stepL [[]]).length≤2401:=by
 refine aaj (vZ h) ?_;have:7^rs.length≤7^4:=ac6 (by decide) a;simpa
theorem stepL_take{xs:List (List Nat)}{r j:Nat}{l:List Nat}(h:xs[j]?=some l):stepL (xs.take (j+1)) r=stepL (xs.take j) r++(aaH (r+1)).map λy=>l++[y]:=by
 unfold stepL;rw[abl,h];simp
end M3
set_option maxHeartbeats 4100000
namespace K
open PySem L2
variable{h:Hall}{l:List Nat}
noncomputable def DU:SpM:=λa K=>∃ns:List Int,a=[.imm (.list (ns.map .int))]/\ns.length≤63/\K (.imm (.bool true)) []
noncomputable def frD(a b:Int):dL:=.tuple [.int a,.int b]
structure Srv where
 a:Nat
 b:Nat
 r:Nat
noncomputable def Srv.d(s:Srv):dL:=.tuple [.tuple [.int s.a,.int s.b],.int s.r]
structure Srv.Ok(s:Srv):Prop where
 a1:1≤s.a
 a2:s.a<1000000
 b1:1≤s.b
 b2:s.b<1000000
 r1:1≤s.r
 r6:s.r≤6
structure Hall where
 a:Nat
 b:Nat
 ss:List Srv
 mv:Bool
noncomputable def Hall.d(h:Hall):dL:=.tuple [.tuple [.int h.a,.int h.b],.tuple (h.ss.map Srv.d),.bool h.mv]
structure Hall.Ok(h:Hall):Prop where
 a1:1≤h.a
 a2:h.a<1000000
 b1:1≤h.b
 b2:h.b<1000000
 n1:1≤h.ss.length
 n4:h.ss.length≤4
 ok:∀s∈h.ss,s.Ok
noncomputable def Hall.rs(h:Hall):List Nat:=h.ss.map Srv.r
theorem Hall.rsl(h:Hall):h.rs.length=h.ss.length:=by simp[Hall.rs]
theorem Hall.Ok.r6(o:h.Ok):∀r∈h.rs,r≤6:=λr hr=>by
 obtain⟨s,hs,rfl⟩:=aac.mp hr;exact(o.ok s hs).r6
theorem Hall.rs_get{i:Nat}{s:Srv}(e:h.ss[i]?=some s):h.rs[i]?=some s.r:=by simp[Hall.rs,e]
noncomputable def prD(p:Nat×Nat):dL:=.tuple [.int (p.1:Int),.int (p.2:Int)]
noncomputable def natD(l:List Nat):List dL:=l.map λ(k:Nat)=>.int (k:Int)
noncomputable def lnD(l:List Nat):dL:=.tuple (natD l)
theorem aH(l:List Nat):(natD l).length=l.length:=by simp[natD]
theorem bW{i x:Nat}(h:l[i]?=some x):(natD l)[i]?=some (.int (x:Int)):=by simp[natD,h]
theorem vm(a b:List Nat):natD (a++b)=natD a++natD b:=by simp[natD]
noncomputable def Kq:SpM:=λa K=>∃h:Hall,a=[.imm h.d]/\h.Ok/\K (.new ((M3.allR h.rs).map lnD)) []
theorem yh{c:Nat}(b:l.length≤c)(h:∀x∈l,x≤1000):Fine (c*15+3) 1 (lnD l):=by
 refine c5 (λd hd=>?_) (by simpa[natD]);simp[natD]at hd;obtain⟨x,a,rfl⟩:=hd;have:=h x a;exact vp (by omega)
theorem KJ(l:List Nat):Shp 1 (lnD l):=qC λd hd=>by
 simp[natD]at hd;obtain⟨x,a,rfl⟩:=hd;exact gW _
inductive Rule where
 |random|turns|two|least|quick
 |told (ps:List Nat)
noncomputable def Rule.word:Rule->Str
 | .random=> "random" | .turns=> "turns" | .two=> "two" | .least=> "least" | .quick=> "quick" | .told _=> "told"
noncomputable def Rule.d:Rule->dL
 | .told ps=>.tuple [.str "told",lnD ps]
 |r=>.tuple [.str r.word]
noncomputable def Rule.Ok(h:Hall):Rule->Prop
 | .told ps=>ps.length=(M3.allR h.rs).length/\∀p∈ps,p<h.ss.length
 |_=>True
theorem gc{rs:List Nat}(a:rs.length≤4)(h:∀r∈rs,r≤6):(M3.allR rs).length≤2401:=by
 rw[<-M3.allL_eq];exact M3.fold_small a h
noncomputable def Lines(h:Hall)(l:List Nat):Prop:=l.length=h.ss.length/\∀(i:Nat) s x,h.ss[i]?=some s->l[i]?=some x->x≤s.r
theorem Lines.le(o:h.Ok)(k:Lines h l):∀x∈l,x≤6:=λx c=>by
 obtain⟨i,b,rfl⟩:=abv.mp c;have a:i<h.ss.length:=by rw[<-k.1];exact b
 have:=k.2 i _ _ (iO a) (iO b);have:=(o.ok _ (abj a)).r6;exact aaj ‹_› ‹_›
end K
namespace M7
open M3
noncomputable def placeF:Nat->List Nat->List Nat->Nat
 |acc,r::rs,x::l=>placeF (acc*(r+1)+x) rs l
 |acc,_,_=>acc
noncomputable def cnt:List Nat->Nat
 |[]=>1
 |r::rs=>(r+1)*cnt rs
theorem allR_cnt:∀rs:List Nat,(allR rs).length=cnt rs
 |[]=>rfl
 | r::rs=>by
  have a:=allR_cnt rs;have:∀n:Nat,((aaH n).flatMap λk=>(allR rs).map (k :: ·)).length=n*cnt rs:=by
   intro n
   induction n with
   |zero=>simp
   |succ n i=>rw[ae8,ag2,aap,i];simp[a,afh]
  exact this _
theorem jf:∀{rs l:List Nat}{acc:Nat},l.length=rs.length->placeF acc rs l=acc*cnt rs+placeF 0 rs l
 |[],[],acc,_=>by simp[placeF,cnt]
 |r::rs,x::l,acc,h=>by
  have a:=by simpa using h
  simp only[placeF,cnt];rw[jf a,jf (acc:=0*_+x) a,Nat.add_mul,ab4];simp[aeM]
 |[],_::_,_,h=>by simp at h
 |_::_,[],_,h=>by simp at h
theorem tj{r x:Nat}{rs l:List Nat}(h:l.length=rs.length):placeF 0 (r::rs) (x::l)=x*cnt rs+placeF 0 rs l:=by
 simp only[placeF];rw[jf h];simp
noncomputable def Fits:List Nat->List Nat->Prop
 |r::rs,x::l=>x≤r/\Fits rs l
 |[],[]=>True
 |_,_=>False
theorem Fits.len:∀{rs l:List Nat},Fits rs l->l.length=rs.length
 |[],[],_=>rfl
 |_::_,_::_,h=>congrArg (· + 1) h.2.len
 |[],_::_,h=>h.elim
 |_::_,[],h=>h.elim
theorem place_lt:∀{rs l:List Nat},Fits rs l->placeF 0 rs l<cnt rs
 |[],[],_=>by simp[placeF,cnt]
 |r::rs,x::l,h=>by
  rw[tj h.2.len,cnt];have:=place_lt h.2;have a:=aeT (cnt rs) (by have:=h.1;omega)
  grind
 |[],_::_,h=>h.elim
 |_::_,[],h=>h.elim
noncomputable def pick(lt:Nat->Nat->Bool):Nat->List Nat->Nat
 |b,[]=>b
 |b,k::ks=>pick lt (if lt k b then k else b) ks
theorem v6{lt:Nat->Nat->Bool}:∀{ks:List Nat}{b:Nat},pick lt b ks=b\/pick lt b ks∈ks
 |[],b=>.inl rfl
 | k::ks,b=>by
  simp only[pick];rcases v6 with h|h
  .rw[h]
   by_cases q:lt k b=true
   .rw[if_pos q];exact .inr GE
   .rw[if_neg q];exact .inl rfl
  .exact .inr (Ge _ h)
theorem pick_app{lt:Nat->Nat->Bool}:∀{ks:List Nat}{b k:Nat},pick lt b (ks++[k])=if lt k (pick lt b ks)then k else pick lt b ks
 |[],b,k=>rfl
 |j::ks,b,k=>by simp;exact pick_app
theorem placeF_take:∀{rs l:List Nat}{i acc r x:Nat},rs[i]?=some r->l[i]?=some x->placeF acc (rs.take (i+1)) (l.take (i+1))=placeF acc (rs.take i) (l.take i)*(r+1)+x
 |r0::rs,x0::l,0,acc,r,x,h1,h2=>by
  have a:=by simpa using h1
  have e:=by simpa using h2
  subst a e;rfl
 |r0::rs,x0::l,i+1,acc,r,x,h1,h2=>by
  simp;exact placeF_take ‹_› ‹_›
 |[],_,_,_,_,_,h1,_=>by simp at h1
 |_::_,[],_,_,_,_,_,h2=>by simp at h2
end M7
namespace K
open PySem L2 M7
variable{n:Nat}
noncomputable def Hall.an(h:Hall)(k:Nat):Nat:=(h.ss.map Srv.a).getD k 0
noncomputable def Hall.bn(h:Hall)(k:Nat):Nat:=(h.ss.map Srv.b).getD k 0
noncomputable def dQ(l:List Nat)(k b:Nat):Bool:=decide (l.getD k 0<l.getD b 0)
noncomputable def cJ(h:Hall)(l:List Nat)(k b:Nat):Bool:=decide ((l.getD k 0+1)*h.bn k*h.an b<(l.getD b 0+1)*h.bn b*h.an k)
noncomputable def sent(h:Hall)(r:Rule)(l:List Nat)(t:Nat)(o:List Nat):Nat:=match r with
 | .random=>o.headD 0
 | .turns=>t
 | .two=>pick (dQ l) (o.headD 0) (o.take 2)
 | .least=>pick (dQ l) (o.headD 0) o
 | .quick=>pick (cJ h l) (o.headD 0) o
 | .told ps=>ps.getD (placeF 0 h.rs l) 0
structure Ord(n:Nat)(o:List Nat):Prop where
 ne:o≠[]
 lt:∀k∈o,k<n
 le:o.length≤4
theorem Lines.fits{h:Hall}{l:List Nat}(k:Lines h l):Fits h.rs l:=by
 obtain⟨a,b⟩:=k;unfold Hall.rs;generalize h.ss=ss at a b
 induction ss generalizing l with
 |nil=>cases l with
  |nil=>trivial
  |cons _ _=>simp at a
 |cons s ss c=>cases l with
  |nil=>simp at a
  |cons x l=>exact⟨b 0 s x rfl rfl,c (by simpa using a) λi s x d e=>b (i+1) s x ‹_› ‹_›⟩
theorem getN{l:List Nat}{k:Nat}(h:l.length=n)(a:k<n):l[k]?=some (l.getD k 0):=by simp_all
theorem Hall.srv{h:Hall}{k:Nat}(a:k<h.ss.length):∃s,h.ss[k]?=some s/\h.an k=s.a/\h.bn k=s.b/\s∈h.ss:=by
 refine⟨h.ss[k],iO a,?_,?_,abj a⟩
 .exact bu (by rw[aae,iO a];rfl)
 .exact bu (by rw[aae,iO a];rfl)
noncomputable def Ja:SpM:=λe K=>∃a b c d:Nat,e=[.imm (frD a b),.imm (frD c d)]/\a<1000000000000/\b<1000000000000/\c<1000000000000/\d<1000000000000/\K (.imm (.bool (decide (a*d<c*b)))) []
noncomputable def zJ:SpM:=λa K=>∃(h:Hall) (l:List Nat),a=[.imm h.d,.imm (lnD l)]/\h.Ok/\Lines h l/\K (.imm (.int (placeF 0 h.rs l:Nat))) []
noncomputable def l9:SpM:=λa K=>∃(l o:List Nat),a=[.imm (lnD l),.imm (lnD o)]/\Ord l.length o/\K (.imm (.int (pick (dQ l) (o.headD 0) o:Nat))) []
noncomputable def IW:SpM:=λa K=>∃(h:Hall) (l:List Nat) (k:Nat),a=[.imm h.d,.imm (lnD l),.imm (.int (k:Int))]/\h.Ok/\Lines h l/\k<h.ss.length/\K (.imm (frD ((l.getD k 0+1)*h.bn k:Nat) (h.an k:Nat))) []
noncomputable def mj:SpM:=λa K=>∃(h:Hall) (l o:List Nat),a=[.imm h.d,.imm (lnD l),.imm (lnD o)]/\h.Ok/\Lines h l/\Ord h.ss.length o/\K (.imm (.int (pick (cJ h l) (o.headD 0) o:Nat))) []
noncomputable def stD(l:List Nat)(t:Nat):dL:=.tuple [lnD l,.int (t:Int)]
noncomputable def vw:SpM:=λa K=>∃(h:Hall) (r:Rule) (l:List Nat) (t:Nat) (o:List Nat),a=[.imm h.d,.imm r.d,.imm (stD l t),.imm (lnD o)]/\h.Ok/\r.Ok h/\Lines h l/\Ord h.ss.length o/\K (.imm (.int (sent h r l t o:Nat))) []
theorem Ord.cons{o:List Nat}(h:Ord n o):∃k ks,o=k::ks/\k<n:=by
 cases o with
 |nil=>exact(h.ne rfl).elim
 |cons k ks=>exact⟨k,ks,rfl,h.lt k GE⟩
theorem kH{lt:Nat->Nat->Bool}{o:List Nat}(h:Ord n o)(i:Nat):pick lt (o.headD 0) (o.take i)<n:=by
 obtain⟨k,b,rfl,a⟩:=h.cons;rcases v6 with e|e
 .rw[e];exact a
 .exact h.lt _ (abw e)
theorem vH:∀a b:List Nat,adr (natD a) (natD b)=decide (a=b)
 |[],[]=>by simp[natD,adr]
 |[],y::b=>by simp[natD,adr]
 |x::a,[]=>by simp[natD,adr]
 | x::a,y::b=>by
  have i:=vH a b;unfold natD at i;simp[natD,adr,aak,i]
  by_cases h:x=y
  .subst h;simp
  .have:¬_:=λz=>h (aib z)
   simp_all
theorem UK(a b:List Nat):aak (lnD a) (lnD b)=decide (a=b):=by
   exact vH a b
noncomputable def Rule.tl:Rule->List dL
 | .told ps=>[lnD ps]
 |_=>[]
theorem Rule.dc(r:Rule):r.d = .tuple (.str r.word::r.tl):=by cases r<;>rfl
theorem Lb{m:MSt}{K:R->Prop}{d x:dL}{ds:List dL}{i:Int}(e:d = .tuple ds)(h:atI ds i=some x)(k:K (.imm x)):o6 (.imm d) (.imm (.int i)) m K:=by
 subst e;exact bC h k
end K
namespace L2
open PySem PySem.Spec PyProof.Rows
variable{t:Bool}{e it l:Addr}{items:Array mT}{Q:Option mT->oR->Prop}{ns:List Int}{i:Nat}{ds:List dL}{Kr:R->Prop}{ob:WM}{K:R->MSt->Prop}
theorem qL{prog:aaB}{w:World}{A:aa4}(t:Bool)(c:A.handled=none)(I a:Addr)(b:a≠I)(items:Array mT):Walks prog w A I [I,a] [I] items.size (λi v=>items[i]?=some v) (λi h=>SubI t h I a i/\SubS t h a items):=by
 cases t
 .exact Walks.list c I a b items
 .exact Walks.tuple c I a b items
section
variable {prog:aaB}{w:World}{A:aa4}{E:mT->oR->Prop}{s:oR}
theorem vO{Q:mT->oR->Prop}(c:SubS t s.heap l items)
  (h:∀s2:oR,s2={s with heap:=s.heap.push (itO t l)}->(SubI t s2.heap s.heap.objs.size l 0/\SubS t s2.heap l items)->(∀b∈[s.heap.objs.size,l],b<s2.heap.objs.size)->l≠s.heap.objs.size->Q (.ref s.heap.objs.size) s2):wpAny (model prog w) A (ae2 (.ref l)) Q E s:=by
 have a:l<s.heap.objs.size:=by
  cases t
  .obtain⟨_,e,_⟩:=(c);exact aaa e
  .obtain⟨_,e,_⟩:=(c);exact aaa e
 refine c7 c (h _ rfl ⟨?_,c.keep λo e=>Ad _ e⟩ (λb hb=>?_) (aaG a))
 .cases t
  .exact⟨_,aaf _ rfl,rfl,rfl⟩
  .exact⟨_,aaf _ rfl,rfl,rfl⟩
 .rw[abt];simp at hb;rcases hb with rfl|rfl
  .simp
  .exact aep a
theorem vt{h':aaM}(a:∀b o,b∉[s.heap.objs.size]->(s.heap.push (itO t l)).get? b=some o->h'.get? b=some o):∀b o,s.heap.get? b=some o->h'.get? b=some o:=λb o e=>
 a b o (λh=>absurd (aaa e) (by rw[OR.mp h];exact ac9 _)) (Ad _ e)
theorem ub(h:agZ items.toList ns):∀(i:Nat) (v:mT),items[i]?=some v->∃t,v = .int (ns.getD i 0) t:=λi v e=>h.int_at i v (by simpa)
end
section
variable {X:Cx}
noncomputable def rMax(K:Mt):List V->Hp->VK->Prop:=λa H Q=>∃t l ns,a=[.ref l]/\SqB t K H l (ns.map V.int)/\ns≠[]/\∀x,x∈ns->(∀y∈ns,y≤x)->Q (.int x) H
theorem Ig{b:Nat}(hb:b≤ns.length-1)(h:ns≠[]):ns.getD b 0∈ns:=by
 have a:b<ns.length:=by
  have:ns.length≠0:=λz=>h (abR z);omega
 rw[bu (iO a)];simp
theorem qU(C:X.calm=true):dn X (.builtin "max") (rMax X.K):=by
 rintro p s J H E F Q I B ⟨t,l,ns,ex,n,d,q⟩;subst ex;obtain⟨u,rfl,k⟩:=B.one;cases k;obtain⟨a,r,m,_⟩:=I.sqb n;have f:=mD r;have z:a.length=ns.length:=by have:=r.length;rw[gE]at this;omega
 refine call_max_walk (vO m λs2 e st c b=>?_);subst e;refine⟨s.heap.objs.size,[s.heap.objs.size,l],[s.heap.objs.size],a.toArray.size,λi v=>a.toArray[i]?=some v,λi h=>SubI t h s.heap.objs.size l i/\SubS t h l a.toArray,_,rfl,qL (A:=X.A.in1) t (I.ok.hd C) _ l b a.toArray,st,c,?_,CmpOf.ints_gt (λi=>ns.getD i 0) (ub f),λv G x o D=>?_⟩
 .grind
 .obtain⟨tt,rfl⟩:=ub f _ v o;rw[aaw,z]at *;obtain⟨b1,b2⟩:=PySem.argBest_gt (λi=>ns.getD i 0) (ns.length-1);refine⟨.int _,H,I.kept (t':=x) (vt D),⟨_,rfl⟩,q _ (Ig b1 d) λy w=>?_⟩;obtain⟨j,g,rfl⟩:=abv.mp w;have:=b2 j (by omega);rwa[bu (iO g)]at this
end
section
variable {prog:aaB}{w:World}{A:aa4}{E:mT->oR->Prop}{s:oR}
structure u4(t:Bool)(e it l:Addr)(k:Nat)(h:aaM):Prop where
 e:∃old,IsEnum h e it (k:Int) old
 s:SubI t h it l k
theorem zW{x:mT}(Z:u4 t e it l i s.heap)(X:SubS t s.heap l items)(V:items[i]?=some x)(h:e≠it)
  (W:∀h',IsEnumOut h' e it ((i:Int)+1) x s.heap.objs.size->SubI t h' it l (i+1)->ae6 h' s.heap.objs.size (.int i s.toks) x->h'.objs.size=s.heap.objs.size+1 ->
   (∀b o,b∉[e,it]->s.heap.get? b=some o->h'.get? b=some o)->Q (some (.ref s.heap.objs.size)) {s with heap:=h',toks:=s.toks+1}):wpAny (model prog w) A (aci (.ref e)) Q E s:=by
 obtain⟨⟨old,v⟩,P⟩:=Z;have S:s.TypeIs (.ref e) "enumerate":=(⟨_,v,rfl⟩);unfold aci;refine aD (act (aaE (name:=abZ "__next__") S adt (aaI adt S agp ?_ (af5 _))));rcases s with⟨hp,g,d,a,os⟩;refine aD (m:=field (.ref e) 2) (aaO v rfl (x:=.ref it) rfl (aD (jF P X V λj n1 s1=>?_)));replace s1:abk it hp j:=s1;have M:IsEnum j e it i old:=(s1.2 e h).trans v;show wpAny _ _ (field (.ref e) 3 >>= _) _ _ ⟨j,g,d,a,os⟩;refine aD (aaO M rfl (x:=ace i) rfl ?_);show wpAny _ _ (field (.ref e) 4 >>= _) _ _ ⟨j,g,d,a,os⟩;refine aD (aaO M rfl (x:=.none) rfl ?_);refine aD (m:=mkInt i) (wpAny_mkInt ?_);show wpAny _ _ (acM (.ref e) 3 (ace ((i:Int)+1)) >>= _) _ _ ⟨j,g,d,a+1,os⟩;refine aD (aay M (by simp) λp H s2=>?_);replace s2:abk e j p:=s2;replace H:IsEnum p e it ((i:Int)+1) old:=H;show wpAny _ _ (acM (.ref e) 4 .none >>= _) _ _ ⟨p,g,d,a+1,os⟩;refine aD (aay H (by simp) λc L k=>?_);replace k:abk e p c:=k;replace L:IsEnum c e it ((i:Int)+1) old:=L;refine aD (m:=newTuple [.int i a,x]) (afu ?_);have F:IsEnum (c.push {cls:=.type "tuple",data:=.seq #[.int i a,x]}) e it ((i:Int)+1) old:=Ad _ L;have f:c.objs.size=hp.objs.size:=by rw[k.1,s2.1,s1.1]
 have y:e<hp.objs.size:=aaa v;have t4:(c.push {cls:=.type "tuple",data:=.seq #[.int i a,x]}).get? hp.objs.size=some {cls:=.type "tuple",data:=.seq #[.int i a,x]}:=by rw[<-f];exact aaf _ rfl
 have U:(c.push {cls:=.type "tuple",data:=.seq #[.int i a,x]}).objs.size=hp.objs.size+1:=by rw[abt,f]
 have T:∀b o,b∉[e,it]->hp.get? b=some o->(c.push {cls:=.type "tuple",data:=.seq #[.int i a,x]}).get? b=some o:=λb o hb q=>by
  simp only[aai,abc,not_or,or_false]at hb;exact Ad _ (k.extBut b o hb.1 (s2.extBut b o hb.1 (s1.extBut b o hb.2 q)))
 have n4:SubI t (c.push {cls:=.type "tuple",data:=.seq #[.int i a,x]}) it l (i+1):=((n1.ext s2.extBut (aa5 h)).ext k.extBut (aa5 h)).keep λo q=>Ad _ q;generalize c.push {cls:=.type "tuple",data:=.seq #[.int i a,x]}=J at F t4 U T n4;show wpAny _ _ (abX (.ref e) >>= _) _ _ ⟨J,g,d,a+1,os⟩;rw[f];refine aD (m:=abX (.ref e)) (aD (m:=field (.ref e) 0) (aaO F rfl (x:=.none) rfl (AD ?_)));simp only[if_true];refine aD (acV (aD (aaO F rfl (x:=old) rfl (aD (aay F (by simp) λu R r=>?_)))));replace r:abk e J u:=r;replace R:IsEnum u e it ((i:Int)+1) x:=R;show wpAny _ _ (acN (.ref e) (.ref hp.objs.size) >>= _) _ _ ⟨u,g,d,a+1,os⟩;refine aD (m:=acN (.ref e) (.ref hp.objs.size)) ?_;refine aD (m:=acM (.ref e) 0 _) (aay R (by simp) λI G B=>?_);replace B:abk e u I:=B;replace G:IsEnumOut I e it ((i:Int)+1) x hp.objs.size:=G;refine aay G (by simp) λC N D=>?_;replace D:abk e I C:=D;replace N:IsEnumOut C e it ((i:Int)+1) x hp.objs.size:=N;have O:∀b o,b≠e->J.get? b=some o->C.get? b=some o:=λb o n q=>D.extBut b o n (B.extBut b o n (r.extBut b o n q));refine aD (afJ (AD ⟨_,rfl,AD (W C N (n4.keep λo q=>O _ o (aa5 h) q) (O _ _ (aaX y) t4) (by rw[D.1,B.1,r.1,U]) λb o hb q=>O b o (λz=>hb (by simp[z])) (T b o hb q))⟩))
theorem Gj(j:A.handled=none)(Z:u4 t e it l i s.heap)(n:SubS t s.heap l items)(g:items[i]?=none)
  (k:∀c,afI it s.heap c->Q none {s with heap:=c}):wpAny (model prog w) A (aci (.ref e)) Q E s:=by
 obtain⟨⟨old,f⟩,a⟩:=Z;have d:s.TypeIs (.ref e) "enumerate":=(⟨_,f,rfl⟩);refine aD (act (aaE d adt (aaI adt d agp ?_ (af5 _))));refine aD (m:=field _ 2) (aaO f rfl (x:=.ref it) rfl (aD (sD j a n g λq x h b=>?_)));obtain⟨o,ho,p⟩:=b;exact aD (acl ⟨o,ho,p⟩ aeo (AD (k _ h)))
end
open AutoSeq1 (wpAny_loadPart') in
set_option maxHeartbeats 1100000 in
theorem Gu(t:Bool)(l:Addr)(items:Array mT) :
  Meets (acD.«enumerate.__new__» ⟨[.type "enumerate",.ref l],[]⟩) (λ_ R s=>SubS t s.heap l items/\
   R (.ok (.ret (.ref (s.heap.push (itO t l)).objs.size))) {s with heap:=(s.heap.push (itO t l)).push {cls:=.type "enumerate",data:=.fields #[.none,.bool false,.ref s.heap.objs.size,ace 0,.none,.none]} }):=
 .of_wp λprog w A R s h=>by
  rcases s with⟨hp,g,d,f,os⟩;rcases h with⟨j,h⟩;have b:=sub_enumerate;have a:SubS t (Shared.heap ⟨hp,g,d,f,os⟩) l items:=j
  wp_walk
  refine wpAny_stack_any λst=>?_;refine AD ?_;split
  .rename_i c _ _ _ _ _
   cases c==agf "enumerate"
   .wp_walk using c7 a
    exact⟨_,rfl,h⟩
   .wp_walk using c7 a
    exact⟨_,rfl,h⟩
  .wp_walk using c7 a
   exact⟨_,rfl,h⟩
section
variable {prog:aaB}{w:World}{A:aa4}{E:mT->oR->Prop}{s:oR}
theorem yt{Q:mT->oR->Prop}(f:SubS t s.heap l items)
  (h:∀h',u4 t (s.heap.objs.size+1) s.heap.objs.size l 0 h'->(∀b o,s.heap.get? b=some o->h'.get? b=some o)->Q (.ref (s.heap.objs.size+1)) {s with heap:=h' }):wpAny (model prog w) A (call (.type "enumerate") [.ref l]) Q E s:=by
 refine callType_new F.called_enumerate (by decide) (F.typeCall_enumerate_1 _) (F.newCall_enumerate_1 _) (λobj=>F.args_object_init_2 obj _) F.entry_enumerate_new (Gu t l items) ⟨f,?_⟩;have a:(s.heap.push (itO t l)).objs.size=s.heap.objs.size+1:=abt ..;rw[a];have d:((s.heap.push (itO t l)).push {cls:=.type "enumerate",data:=.fields #[.none,.bool false,.ref s.heap.objs.size,ace 0,.none,.none]}).get? (s.heap.objs.size+1)=some {cls:=.type "enumerate",data:=.fields #[.none,.bool false,.ref s.heap.objs.size,ace 0,.none,.none]}:=by
  rw[<-a];exact aaf _ rfl
 have c:((s.heap.push (itO t l)).push {cls:=.type "enumerate",data:=.fields #[.none,.bool false,.ref s.heap.objs.size,ace 0,.none,.none]}).get? s.heap.objs.size=some (itO t l):=Ad _ (aaf _ rfl);refine⟨⟨_,d,rfl⟩,h _ ⟨⟨.none,d⟩,?_⟩ λb o x=>Ad _ (Ad _ x)⟩;cases t
 .exact⟨_,c,rfl,rfl⟩
 .exact⟨_,c,rfl,rfl⟩
end
noncomputable def Ite(t:Bool)(K:Mt)(a:Addr):It where
 go:=λi H=>∃b x,SqB t K H a b/\b[i]?=some x
 yld:=λi H v c=>∃T x,v = .ref T/\H T=none/\c=upd H T (.tup [.int (i:Int),x])/\∀b,SqB t K H a b->b[i]?=some x
 stop:=λi H=>∃b,SqB t K H a b/\b.length≤i
theorem BZ{P:aaB}{w:World}{K:Mt}{m:List Expr}{x1:Nat}{pos:Pos}{a:Addr}(r:e≠it):Turn P w K (.Tuple m x1 pos) (Ite t K a) [e,it] e (λi h=>u4 t e it a i h) where
 mem:=by simp
 obj:=λi h st c b=>by
  obtain⟨⟨old,g⟩,j⟩:=st;simp only[aai,abc,or_false]at b;rcases b with rfl|rfl
  .exact⟨_,g,λv q=>by cases q⟩
  .obtain⟨o,vs,e,d⟩:=j.obj;exact⟨o,e,λv q=>by rw[d]at q;cases q⟩
 keep:=λi h h' st k=>by
  obtain⟨⟨old,g⟩,j⟩:=st;exact⟨⟨old,k e (by simp) _ g⟩,j.keep λo q=>k it (by simp) o q⟩
 item:=by
  intro X C R J b i f s O H E I B st M;subst C R J;obtain⟨U,x,y,T⟩:=M;obtain⟨N,G,p,_⟩:=I.sqb y;obtain⟨u,eu,W⟩:=G.get T;refine zW st p (x:=u) (by simpa using eu) r λh' a1 a2 V a4 Y=>⟨.ref s.heap.objs.size,rfl,?_⟩;refine wpAny_letOwnedTupleGo_enum (s:={s with heap:=h',toks:=s.toks+1}) a1 λA b1 sb=>?_;have S:H s.heap.objs.size=none:=I.hok.fresh (Dl _);have L:∀c∈[e,it],c<s.heap.objs.size:=λc b=>by
   obtain⟨⟨old,g⟩,j⟩:=st;simp only[aai,abc,or_false]at b;rcases b with rfl|rfl
   .exact aaa g
   .obtain⟨o,vs,e,d⟩:=j.obj;exact aaa e
  have F:∀c∈[e,it],c≠s.heap.objs.size:=λc b=>aaG (L c b);have D:∀c o,c≠e->h'.get? c=some o->A.get? c=some o:=λc o n q=>sb.extBut c o n q;have T2:ae6 A s.heap.objs.size (.int i s.toks) u:=D _ _ (aa5 (F e (by simp))) V;have I0:Inv X f O (upd H s.heap.objs.size (.tup [.int (i:Int),x])) {s with heap:=s.heap.push {cls:=.type "tuple",data:=.seq #[.int i s.toks,u]},toks:=s.toks+1}:=
   I.laid (o:=.tup [.int (i:Int),x]) (λc o q=>Ad _ q) (Dl _) ⟨by show 2≤aag;rw[aan];decide,[.int i s.toks,u],.cons ⟨_,rfl⟩ (.cons W .nil),PlainT.new _ _⟩
  have Il:Inv X f O (upd H s.heap.objs.size (.tup [.int (i:Int),x])) {s with heap:=A,toks:=s.toks+1}:=by
   refine Inv.turneds (s:={s with heap:=s.heap.push {cls:=.type "tuple",data:=.seq #[.int i s.toks,u]},toks:=s.toks+1}) (h':=A) (t':=s.toks+1) (ch:=[e,it]) I0 (λc o b q=>?_) λc b=>?_
   .rcases aeV q with⟨rfl,rfl⟩|q
    .exact T2
    .exact D c o (λz=>b (by simp[z])) (Y c o b q)
   .obtain⟨f0,f1⟩:=B c b;exact⟨by rw[ag (F c b)];exact f0,f1⟩
  refine⟨.ref s.heap.objs.size,upd H s.heap.objs.size (.tup [.int (i:Int),x]),Il,rfl,⟨_,x,rfl,S,rfl,λzs Z=>by rw[I.sqb_inj Z y];exact T⟩,⟨⟨u,?_⟩,a2.keep λo q=>D _ o (aa5 r) q⟩,λc b=>?_⟩
  .have:((i+1:Nat):Int)=(i:Int)+1:=by rfl
   rw[this];exact b1
  .rw[ag (F c b)];exact(B c b).1
 done:=by
  intro X C R J b i f s O H E I B st M;subst C R J;obtain⟨U,y,g⟩:=M;obtain⟨N,G,p,_⟩:=I.sqb y;have l1:=G.length;exact Gj (I.ok.hd b) st p (by simp;omega) λh' hk=>⟨rfl,I.turneds (t':=s.toks) (ch:=[e,it]) (λc o b q=>hk c o (λz=>b (by simp[z])) q) B⟩
 self:=λ_ _ _ _ _ st h=>by obtain⟨⟨old,g⟩,_⟩:=st;exact wpAny_pyIter_enum g h
section
variable {X:Cx}{f:List Expr}{z:Nat}{j:Pos}{a:Expr}{w:WA}{p pos:Pos}
noncomputable def UO(K:Mt)(c:TA):TI:=λd H R=>c d H λvs b=>∃t l,vs=[.ref l]/\(∃x,SqB t K b l x)/\R (Ite t K l) b
theorem LJ{m:TA}(A:Gl X "enumerate")(n:X.mg "enumerate" = none)(ha:PA X [a] m)(hs:aad [a] X.env=[(false,eval a X.env)]:=by first|exact cu rfl|rfl):PI X (.Tuple f z j) (.Call (.Name "enumerate" p) [a] [] pos) (UO X.K m):=by
 intro b s E H R I h;refine Call_ (ls I A n qB (acO (thn (ha pos b s E H _ I h) λG s1 ⟨vs,v,k,r1,D⟩=>?_) hs rfl));obtain⟨t,l,e,⟨F,o⟩,q⟩:=D;subst e
 cases r1 with
 | cons r rr=>
  cases rr;cases r;obtain⟨B,J,C,_⟩:=k.sqb o;refine yt C λL Z y=>?_;obtain⟨old,u⟩:=Z.e;refine wpAny_pyIter_enum u ⟨s1.heap.objs.size+1,_,_,_,v,rfl,k.kept (t':=s1.toks) y,BZ (Nat.succ_ne_self _),Z,λc x=>?_,q⟩;have g:s1.heap.objs.size≤c:=by
   have d:=x;simp at d;rcases d with rfl|rfl<;>first|exact acm _ _|exact Dl _
  exact k.fpOk g (k.hok.fresh g)
noncomputable def wz(ds:List dL):List dL:=zipD (gG 0 ds.length) ds
noncomputable def yu(w:WA):WI:=λm K=>w m λrs b=>on1 (λr=>∃t ds,imS r=some (t,ds)/\K ⟨wz ds,none⟩ b) rs
theorem du(ds:List dL):(wz ds).length=ds.length:=by unfold wz;rw[fj,aM];simp
theorem pF{d:dL}(h:ds[i]?=some d):(wz ds)[i]?=some (.tuple [.int (i:Int),d]):=by
 have b:=(Io.mp h).1;have:=vo (i9 (lo:=0) b) h;rw[afi]at this;exact this
theorem wks_enum{K:Kd}:Wks K (Ite t K l) (wz ds) λH=>∃xs,SqB t K H l xs/\DenAll K H ds xs where
 stop:=λH ⟨xs,q,g⟩=>⟨xs,q,by rw[du,g.length];exact Dl _⟩
 go:=λi H h ⟨xs,q,g⟩=>by
  rw[du]at h;exact⟨xs,xs[i]'(by rw[<-g.length];exact h),q,iO _⟩
 yld:=λi H x v h ⟨xs,q,g⟩ y=>by
  obtain⟨T,u,rfl,n,rfl,s⟩:=y;obtain⟨d,m,k⟩:=g.get2 (s xs q);have c:∀b o,H b=some o->upd H T (.tup [.int i,u]) b=some o:=λb o q=>by rw[ag (aP q n)];exact q
  have r:Pers H _:=⟨λb xs q=>c b _ q,λb o u q=>c b _ q⟩;exact⟨c,_,pF m,cF (SqT.of ai) (DenAll.cons (su _) (DenAll.cons (k.mono r) DenAll.nil))⟩
theorem Jz(s:X.mg "enumerate" = none)(ha:MA X [a] w)(A:Gl X "enumerate":=by rfl)(hs:aad [a] X.env=[(false,eval a X.env)]:=by first|exact cu rfl|rfl):MI X (.Tuple f z j) (.Call (.Name "enumerate" p) [a] [] pos) (yu w):=(LJ A s ha hs).wk<|by
 rintro O H L ⟨y,m,M,I,E,g⟩;refine⟨y,m,_,I,E,λrs G vs C k n R rr F=>?_⟩;obtain⟨r,v,rfl,rfl,u,t,ds,J,k⟩:=d6 rr k;obtain⟨l,x,rfl,o,q,D⟩:=B9 u J;refine⟨t,l,rfl,⟨x,q⟩,g _ G _ C k n R F ⟨λH=>∃x,SqB t X.kx H l x/\DenAll X.kx H ds x/\∀b,Pers H b->SqB t X.kx b l x,wks_enum.imp λH ⟨x,a,c,_⟩=>⟨x,a,c⟩,⟨x,q,o,D⟩,λN B ⟨x,a,c,h⟩ d=>⟨x,h B d,c.mono d,λb p=>h b (d.trans p)⟩⟩⟩
theorem Dq(b:X.mg "enumerate" = none)(ha:EA X [a] w)(h:Gl X "enumerate":=by rfl)(hs:aad [a] X.env=[(false,eval a X.env)]:=by first|exact cu rfl|rfl):EI X (.Tuple f z j) (.Call (.Name "enumerate" p) [a] [] pos) (yu w):=⟨Jz b ha.h h hs⟩
theorem QC{m:MSt}{b:Src->MSt->Prop}(h:w m λrs c=>on1 (λr=>∃t ds,imS r=some (t,ds)/\b ⟨wz ds,none⟩ c) rs):yu w m b:=h
end
section
variable {X:Cx}
noncomputable def Rf:WC:=λrs m K=>on1 (λr=>∃ds ns,sqOf m r=some ds/\fu ds=some ns/\ns≠[]/\∀x,x∈ns->(∀y∈ns,y≤x)->K (.imm (.int x))) rs
theorem me(k:X.calm=true):dn X (.builtin "max") (cM X.kx Rf):=by
 rintro p s c H z u Q I n ⟨B,m,C,E,rs,A,R,h,ho,j⟩;obtain⟨r,v,rfl,rfl,d,ds,ns,y,o,b,ho⟩:=d6 h ho;obtain⟨a,D,rfl,f,g⟩:=d.seq R y;rw[lZ o]at g;have q:=gJ g;subst q;have go:=λx d w=>j _ _ H (ho x d w) R (fw _) (Frm.refl _ _);rcases f with f|f
 .exact qU k p s c H _ u Q I n ⟨false,a,ns,rfl,f,b,go⟩
 .exact qU k p s c H _ u Q I n ⟨true,a,ns,rfl,f,b,go⟩
theorem Jp{m:MSt}{r:R}(c:sqOf m r=some ds)(b:fu ds=some ns)(a:ns≠[])(h:∀x,x∈ns->(∀y∈ns,y≤x)->Kr (.imm (.int x))):Rf [r] m Kr:=⟨ds,ns,c,b,a,h⟩
end
open SeqAt in
open AutoSeq1 (wpAny_loadPart') in
theorem r8(l:Addr)(items:Array mT)(n:Nat)(u:Option Addr)(r:Array (Option mT))(x:mT)(e:mT->Bool)(j:Nat)(D:j<items.size)(q:e items[j]=true)(p:∀m (C:m<items.size),m<j->e items[m]=false) :
  Meets (acD.«tuple.index» ⟨[.ref l,x],[]⟩)
   (λA R s=>s.heap.get? l=some {cls:=.type "tuple",dict:=u,data:=.seq items n,slots:=r}/\(∀y,y∈items->EqAt A.in1 s y x (e y))/\R (.ok (.ret (.int j s.toks))) {s with toks:=s.toks+1}):=
 .of_wp λprog w A R s h=>by
  rcases s with⟨hp,g,d,z,os⟩;rcases h with⟨B,v,h⟩
  (wp_walk using ae9 B)
  refine(show wpAny (model prog w) A.in1 (forIn ([:min items.size items.size]:Std.Legacy.Range) _ _) _ _ _ from ?_);simp only[Std.Legacy.Range.forIn_eq_forIn_range'];have E:ahR (0:Nat) (min items.size items.size) 1=ahR 0 items.size 1:=by rw[Nat.min_self]
  refine aeC _ (λrest (b:Option _×Unit) k=>b.1=none/\k=⟨hp,g,d,z,os⟩/\∃i,i≤j/\rest=ahR i (items.size-i) 1) _ ?turn ?fin _ _ ?start
  case turn=>
   rintro i rest b k ⟨hb,rfl,c,o,hr⟩;have a:c<items.size:=by omega
   have hs:items.size-c=(items.size-(c+1))+1:=by omega
   rw[hs,List.range'_succ]at hr;cases hr;rw[show items[i]?=some items[i]from acg a];refine aD (v items[i] (Array.getElem_mem a) prog w _ _ ?_)
   by_cases f:i=j
   .subst f;rw[q]
    wp_walk
    exact⟨_,rfl,h⟩
   .rw[p i a (by omega)]
    wp_walk
    exact⟨rfl,rfl,i+1,by omega,rfl⟩
  case fin=>
   rintro⟨b1,b2⟩ k ⟨hb,rfl,c,o,hr⟩;have:=congrArg aeS hr;simp at this;omega
  case start=>
   refine⟨rfl,rfl,0,abC _,?_⟩;simp[Std.Legacy.Range.size]
section
variable {X:Cx}{o e:Expr}{es:List Expr}{w:WE}{l:WA}{b c:Pos}
noncomputable def wMT(ob:WM)(w:WE)(l:WA):WE:=λm K=>w m λr m1=>(∃ds,r = .imm (.tuple ds))/\l m1 λrs m2=>ob r rs m2 K
theorem WJ{name:Str}{id:String}(slot:Slot "tuple" name id)(C:agm (.builtin id)=pure (.type "method_descriptor"))(J:MtM X id (mM X.kx ob))(ho:ME X o w)(ha:MA X (e::es) l)
  (j:abg o name X.env (eval o X.env)=eval o X.env:=by rfl)
  (p:((ab1 c (aad (e::es) X.env)).all (λx=>!x.1)&&(afq c (adA [] X.env)).all (λx=>x.1.isSome)
   && decide ((e::es).length+([]:List adi).length+(if ([]:List adi).isEmpty then 0 else 1)<30))=true:=by rfl)
  (d:(b.endLine==c.line)=true:=by rfl) (hs:aad (e::es) X.env=(false,eval e X.env)::aad es X.env:=by first|exact aE rfl|rfl) (h:(ab1 c (aad es X.env)).any (·.1)=false:=by rfl) :
  ME X (.Call (.Attribute o name b) (e::es) [] c) (wMT ob w l):=(Tq PySem.F.plainAttrs_tuple slot C J ho ha j p d hs h).wk<|by
 rintro M H Q ⟨z,m,I,E,N,B⟩;refine⟨z,m,_,E,N,λr m1 v P k n1 q rr D=>?_⟩;obtain⟨⟨ds,rfl⟩,k⟩:=k;obtain⟨a,G,rfl,f,g⟩:=bF (rr);refine⟨.inr (.inl ⟨rfl,G,f⟩),z,m1,_,q,k,λrs m2 vs T S n2 R A u=>?_⟩;exact⟨z,m2,M,H,P,.imm _,rs,I,R,rr.keep E q u,A,S,λr O v L k n y s F=>B r O v L k (n.trans (n2.trans n1)) y (s.base R (D.trans u)) ((D.trans u).trans F)⟩
theorem Jg{name:Str}{id:String}(slot:Slot "tuple" name id)(g:agm (.builtin id)=pure (.type "method_descriptor"))(j:MtM X id (mM X.kx ob))(ho:EE X o w)(ha:EA X (e::es) l)
  (a:abg o name X.env (eval o X.env)=eval o X.env:=by rfl)
  (f:((ab1 c (aad (e::es) X.env)).all (λx=>!x.1)&&(afq c (adA [] X.env)).all (λx=>x.1.isSome)
   && decide ((e::es).length+([]:List adi).length+(if ([]:List adi).isEmpty then 0 else 1)<30))=true:=by rfl)
  (d:(b.endLine==c.line)=true:=by rfl) (hs:aad (e::es) X.env=(false,eval e X.env)::aad es X.env:=by first|exact aE rfl|rfl) (h:(ab1 c (aad es X.env)).any (·.1)=false:=by rfl) :
  EE X (.Call (.Attribute o name b) (e::es) [] c) (wMT ob w l):=⟨WJ slot g j ho.h ha.h a f d hs h⟩
theorem x_mt{m:MSt}(h:w m λr m1=>(∃ds,r = .imm (.tuple ds))/\l m1 λrs m2=>ob r rs m2 K):wMT ob w l m K:=h
theorem x_ts{P:Prop}(h:P):(∃es,R.imm (.tuple ds) = .imm (.tuple es))/\P:=⟨⟨ds,rfl⟩,h⟩
noncomputable def AK:WM:=λr rs m K=>on1 (cx λd=>∃ds j,r = .imm (.tuple ds)/\d.canLay0=true/\abd ds=true/\d.depth≤60/\(∃y,ds[j]?=some y/\aak y d=true)/\(∀(i:Nat) y,i<j->ds[i]?=some y->aak y d=false)/\K (.imm (.int (j:Nat))) m) rs
theorem lG(hu:X.A.units+64<cLine):MtM X "tuple.index" (mM X.kx AK):=by
 rintro R s σ' H x xs v us Q I Z rv ⟨α,m,σ,H0,H1,r,rs,Kc,Rl,h1,E,ho,G⟩;obtain⟨r2,v2,rfl,rfl,E,ho⟩:=d6 E ho;obtain⟨d,rfl,hd,ds,j,rfl,P,D,dp,⟨y,S,eq⟩,L,ho⟩:=dB E ho;obtain⟨a,zs,rfl,f,g⟩:=bF (show Den X.kx H (.tuple ds) x from h1);cases Z;obtain⟨u,rfl,Y⟩:=rv.one;obtain⟨bs,W⟩:=Den.reads I (abo _ P) hd Y;obtain⟨h,F,⟨o,z,M,J,n,k⟩,hz⟩:=I.tupleP f;obtain⟨as,B⟩:=DenAll.reads I (adh _ D) g F;have V:X.A.units+1+min (aav ds) d.depth<cLine:=by have:=af2 (aav ds) d.depth;omega
 have p:=SeqAt.readsAll_map ds _ _ D B;have U:h.length=ds.length:=by rw[<-p,gE]
 have N:j<h.length:=by rw[U];exact(Io.mp S).1
 have O:∀(i:Nat) (C:i<h.length) y,ds[i]?=some y->agq s.heap h[i]=y:=λi C y e=>by
  rw[<-p,aae,iO C]at e;exact aal e
 obtain⟨cls,dd,T,sl⟩:=o;dsimp only at M k;subst M;subst k;refine ad6 adU ⟨_,z,rfl⟩ PySem.F.entry_tuple_index (PySem.F.args_tuple_index_2 _ _)
  (r8 a h.toArray _ dd sl u (λy=>aak (agq s.heap y) d) j (by simpa using N) ?_ ?_) ⟨z,SeqAt.items_eqAt (by simpa using B) W D P V,?_⟩
 .show aak (agq s.heap h[j]) d=true;rw[O j N y S];exact eq
 .intro i C hlt;have q:i<h.length:=by simpa using C
  show aak (agq s.heap h[i]) d=false;have A:i<ds.length:=by rw[<-U];exact q
  rw[O i q _ (iO A)];exact L i _ hlt (iO A)
 .exact⟨.int (j:Nat),H,I.tok _,⟨_,rfl⟩,G _ _ _ H ho rfl Rl (fw _) (Frm.refl _ _)⟩
theorem vW{m:MSt}{d y:dL}{j k k':Nat}(s1:Shp k d)(s2:∀y∈ds,Shp k' y)(g:k≤60)(f:ds[j]?=some y)(eq:aak y d=true)(a:∀(i:Nat) y,i<j->ds[i]?=some y->aak y d=false)(h:K (.imm (.int (j:Nat))) m):AK (.imm (.tuple ds)) [.imm d] m K:=
 ⟨ds,j,rfl,s1.cl,(jI s2).1,aaj s1.dp g,⟨y,f,eq⟩,a,h⟩
end
theorem xQ:fillsNumberSlot (.type "tuple") "mul" = pure false:=
 PySem.fillsNumberSlot_seq aeq.lookup rfl af6.lookup rfl
theorem JD:seqRepeat? (.type "tuple")=pure (some (.builtin "tuple.__mul__")):=by
 unfold seqRepeat?;rw[ahN (name:= "__mul__") aeq.lookup rfl,ahN (name:= "__rmul__") af6.lookup rfl];rfl
theorem GG(a:Int)(t:Tok)(l:Addr)(items:Array mT)(n:Nat)(d:Option Addr)(b:Array (Option mT)) :
  Meets (acD.«int.__rmul__» ⟨[.int a t,.ref l],[]⟩) (λ_ R s=>s.heap.get? l=some {cls:=.type "tuple",dict:=d,data:=.seq items n,slots:=b}/\R (.ok (.ret mT.notImplemented)) s):=
 .of_wp λprog w A R s h=>by
  rcases h with⟨c,h⟩
  wp_walk
  exact⟨_,rfl,h⟩
open AutoSeq1 (wpAny_loadPart') in
theorem Ou(l:Addr)(items:Array mT)(n:Nat)(B:Option Addr)(y:Array (Option mT))(k:Int)(t:Tok)(G:0≤k)(H:k<2^20)(I:items.size*k.toNat≤1000000) :
  Meets (acD.«tuple.__mul__» ⟨[.ref l,.int k t],[]⟩) (λ_ R s=>s.heap.get? l=some {cls:=.type "tuple",dict:=B,data:=.seq items n,slots:=y}/\
   if (items.isEmpty||k==1)=true then R (.ok (.ret (.ref l))) s else R (.ok (.ret (.ref s.heap.objs.size))) {s with heap:=s.heap.push {cls:=.type "tuple",data:=.seq ((aam k.toNat items).foldl (λx f=>x++f) #[])} }):=
 .of_wp λprog w A R s h=>by
  rcases s with⟨hp,g,d,u,os⟩;rcases h with⟨r,h⟩
  (wp_walk using ae9 r)
  have C:(⟨hp,g,d,u,os⟩:oR).TypeIs (.ref l) "tuple":=(⟨_,r,rfl⟩);have p:IsTup (⟨hp,g,d,u,os⟩:oR).heap l items:=⟨_,r,rfl,n,rfl⟩;have z:((items.size:Nat):Int)*k≤1000000:=by
   have E:k=((k.toNat:Nat):Int):=by omega
   rw[E,<-aaA];omega
  rw[if_neg (show ¬_ by simp only[decide_eq_true_eq,agz];omega)];refine aD (ahb p ?_)
  by_cases j:(items.isEmpty||k==1)=true
  .rw[if_pos j]at h⊢;refine aD ?_;unfold afs;refine aD (ac4 C (AD ?_));rw[if_pos (by rfl)];exact aD (acV (AD ⟨_,rfl,h⟩))
  .rw[if_neg j]at h⊢;have D:items.isEmpty=false:=by
    cases q:items.isEmpty with
    |false=>rfl
    |true=>rw[q]at j;exact(j rfl).elim
   by_cases o:k=0
   .subst o;show wpAny _ _ (if (decide ((0:Int)≤0)||items.isEmpty)=true then _ else _) _ _ _;rw[if_pos (by rfl)];exact aD (m:=abW #[]) (aaW (AD ⟨_,rfl,h⟩) (by show(0:Nat)≤aag;exact abC _))
   have F:(decide (k≤0)||items.isEmpty)=false:=by rw[D,decide_eq_false (by omega)];rfl
   have b:∀(m:Nat) (a:Array mT),(ah3 (λx f=>x++f) a (aam m items)).size=a.size+m*items.size:=by
    intro m
    induction m with
    |zero=>intro a;simp
    |succ m v=>intro a;rw[adK,acb,v,Array.size_append,afh];omega
   have c:((aam k.toNat items).foldl (λx f=>x++f) #[]).size≤aag:=by
    rw[b,aan,acq];simp;omega
   show wpAny _ _ (if (decide (k≤0)||items.isEmpty)=true then _ else _) _ _ _;rw[if_neg (by rw[F];exact aaq)];show wpAny _ _ (if ((items.size:Nat):Int)*k>(2^63-1)/8 then _ else _) _ _ _;rw[if_neg (by omega)];show wpAny _ _ (if afv (((items.size:Nat):Int)*k)=true then _ else _) _ _ _;rw[if_neg (by unfold afv;rw[decide_eq_true_eq,aan];omega)];exact aD (m:=abW _) (aaW (AD ⟨_,rfl,h⟩) c)
section
variable {X:Cx}
noncomputable def UZ(K:Mt):R2:=λx y H Q=>∃a b k,x = .ref a/\y = .int k/\SqT K H a b/\0≤k/\k<2^20/\b.length*k.toNat≤1000000/\
 if (b.isEmpty||k==1)=true then Q (.ref a) H else ∀p,H p=none->Q (.ref p) (upd H p (.tup (aam k.toNat b).flatten))
theorem JP:OpR X (acx .Mult) (UZ X.K):=by
 intro z s N H x y v u Q I C M h;obtain⟨a,d,k,rfl,rfl,E,D,J,L,q⟩:=h;cases C;obtain⟨t,rfl⟩:=M;obtain⟨c,r,⟨o,ho,j,hd,n,g⟩,F⟩:=I.tupleP E;obtain⟨cls,A,B,w⟩:=o;dsimp only at j g;subst j g;have p:d.length=c.length:=r.length;have m:c.toArray.isEmpty=d.isEmpty:=by
  cases c with
  |nil=>have:d=[]:=abR (by simpa using p);subst this;rfl
  |cons _ _=>cases d with
   |nil=>simp at p
   |cons _ _=>rfl
 have f:=by
  have:=k8 c k.toNat [];omega
 refine afD (T:= "tuple") (U:= "int") (by decide) ⟨_,ho,rfl⟩ (λG=>agl G k t) xQ PySem.F.fills_int_mul agD JD PySem.F.slot_int_index.lookup
  (ad6 agD (agl s k t) PySem.F.entry_int_rmul (PySem.F.args_int_rmul_2 _ _) (GG k t a c.toArray n A w)
   ⟨ho,rfl,⟨_,ho,rfl⟩,ad6 aeq ⟨_,ho,rfl⟩ PySem.F.entry_tuple_mul (PySem.F.args_tuple_mul_2 _ _) (Ou a c.toArray n A w k t D J (by rw[aaw,<-p];exact L)) ⟨ho,?_⟩⟩)
 rw[m,f]
 by_cases j:(d.isEmpty||k==1)=true
 .rw[if_pos j]at q⊢;exact⟨.ref a,H,I,rfl,q⟩
 .rw[if_neg j]at q⊢;have hp:H s.heap.objs.size=none:=I.hok.fresh (Dl _);refine⟨.ref s.heap.objs.size,_,I.laid (t':=s.toks) (o:=.tup (aam k.toNat d).flatten) (λb ob e=>Ad _ e) (Dl _) ⟨?_,_,r.rep k.toNat,PlainT.new _ _⟩,rfl,q _ hp⟩;rw[yM,acq,aan];omega
noncomputable def zU:WO
 | .imm (.int i),.imm (.int j),_,K=>afZ i j/\K (.imm (.int (i*j)))
 | .imm (.tuple ds),.imm (.int k),_,K=>0≤k/\k<2^20/\ds.length*k.toNat≤1000000/\K (.imm (.tuple (aam k.toNat ds).flatten))
 | .new ds,.imm (.int k),_,K=>0≤k/\k<2^20/\ds.length*k.toNat≤1000000/\K (.new (aam k.toNat ds).flatten)
 |_,_,_,_=>False
theorem iX{K:Kd}{H:Hp}{ds:List dL}{xs:List V}(g:DenAll K H ds xs):∀k:Nat,DenAll K H (aam k ds).flatten (aam k xs).flatten
 |0=>by simp[ DenAll]
 |k+1=>by rw[ adK];exact g.append (iX g k)
theorem ay:OpR X (acx .Mult) (rM X.kx zU):=by
 rintro b s d H x y v u Q I r z ⟨E,m,F,L,G,r1,M,D,R,q,w,ho,c⟩;unfold zU at ho
 split at ho
 .rename_i i j;exact J5 b s d H x y v u Q I r z ⟨E,m,F,L,G,.imm (.int i),.imm (.int j),D,R,q,w,ho,c⟩
 .rename_i ds k;obtain⟨A,C,B,ho⟩:=ho;obtain⟨a,n,rfl,f,g⟩:=bF (show Den X.kx H (.tuple ds) x from q);have o:=aF (show Den X.kx H (.int k) y from w);subst o;refine JP b s d H _ _ v u Q I r z ⟨a,n,k,rfl,rfl,f,A,C,by rw[<-g.length];exact B,?_⟩
  by_cases h:(n.isEmpty||k==1)=true
  .rw[if_pos h];refine c _ _ H ho R (kj (cF f ?_)) (Frm.refl _ _);have e:(aam k.toNat ds).flatten=ds:=by
    rw[agz]at h;rcases h with h|h
    .have hx:n=[]:=List.isEmpty_iff.mp h;have hd:ds=[]:=abR (by rw[g.length,hx];rfl);subst hd;simp
    .simp_all
   rw[e];exact g
  .rw[if_neg h];exact λp hp=>c _ _ _ ho (R.lay hp) (kj (cF (SqT.of ai) ((iX g k.toNat).mono (bf (.inl hp))))) (cf hp)
 .rename_i ds k;obtain⟨A,C,B,ho⟩:=ho;obtain⟨a,n,rfl,hb,J,g⟩:=q;have o:=aF (show Den X.kx H (.int k) y from w);subst o;refine Tj b s d H _ _ v u Q I r z ⟨a,k,n,rfl,rfl,J,by omega,by omega,by rw[<-g.length,aan];omega,λp hp=>?_⟩;exact c _ _ _ ho (R.lay hp) ⟨p,_,rfl,hp,ai,(iX g k.toNat).mono (bf (.inl hp))⟩ (cf hp)
 .exact ho.elim
theorem bU{m:MSt}{i j:Int}(a:afZ i j)(h:Kr (.imm (.int (i*j)))):zU (.imm (.int i)) (.imm (.int j)) m Kr:=⟨a,h⟩
theorem Ix{m:MSt}{k:Int}(c:0≤k)(a:k<2^20)(b:ds.length*k.toNat≤1000000)(h:Kr (.imm (.tuple (aam k.toNat ds).flatten))):zU (.imm (.tuple ds)) (.imm (.int k)) m Kr:=⟨c,a,b,h⟩
theorem Sj{m:MSt}{k:Int}(c:0≤k)(a:k<2^20)(b:ds.length*k.toNat≤1000000)(h:Kr (.new (aam k.toNat ds).flatten)):zU (.new ds) (.imm (.int k)) m Kr:=⟨c,a,b,h⟩
end
end L2
namespace K
open PySem L2 M7
variable{l:List Nat}{h:Hall}{p:Nat×Nat}{r:Rule}{t:Nat}
inductive Mv where
 |come (o:List Nat)|done (k:Nat)|still
noncomputable def Mv.d:Mv->dL
 | .come o=>.tuple [.str "come",lnD o]
 | .done k=>.tuple [.str "done",.int (k:Int)]
 | .still=>.tuple [.str "still"]
noncomputable def Mv.Ok(h:Hall):Mv->Prop
 | .come o=>Ord h.ss.length o
 | .done k=>k<h.ss.length
 | .still=>True
inductive Wd where
 |taken|away|served|none
noncomputable def Wd.s:Wd->Str
 | .taken=> "taken" | .away=> "away" | .served=> "served" | .none=> "none"
noncomputable def Hall.rn(h:Hall)(k:Nat):Nat:=h.rs.getD k 0
noncomputable def ik(h:Hall)(l:List Nat)(k:Nat):List Nat×Wd:=if l.getD k 0=h.rn k then(l,.away)else(l.set k (l.getD k 0+1),.taken)
noncomputable def iw(l:List Nat)(k:Nat):List Nat×Wd:=if l.getD k 0=0 then(l,.none)else(l.set k (l.getD k 0-1),.served)
noncomputable def idx(l:List Nat)(x:Nat):Nat:=l.findIdx (λy=>y==x)
noncomputable def maxN(l:List Nat):Nat:=l.foldl max 0
noncomputable def cK(h:Hall)(l:List Nat):Option (Nat×Nat):=if h.mv=true/\0∈l/\2≤maxN l then some (idx l (maxN l),idx l 0)else none
noncomputable def df(l:List Nat)(p:Nat×Nat):List Nat:=(l.set p.1 (l.getD p.1 0-1)).set p.2 ((l.set p.1 (l.getD p.1 0-1)).getD p.2 0+1)
noncomputable def cG(h:Hall):Nat->List Nat->List Nat
 |0,l=>l
 |n+1,l=>match cK h l with
  |none=>l
  |some p=>cG h n (df l p)
noncomputable def dE(h:Hall)(l:List Nat):List Nat:=cG h (l.count 0) l
theorem jY:∀(l:List Nat) (a:Nat),a≤l.foldl max a/\(∀x∈l,x≤l.foldl max a)/\(l.foldl max a=a\/l.foldl max a∈l)
 |[],a=>⟨Dl _,(λ_ h=>by cases h),.inl rfl⟩
 | y::l,a=>by
  obtain⟨c,d,e⟩:=jY l _;refine⟨aaj (ae5 a y) c,λx b=>?_,?_⟩
  .rcases aai.mp b with rfl|b
   .exact aaj (Nat.le_max_right a x) c
   .exact d x b
  .grind
theorem BW:∀x∈l,x≤maxN l:=(jY l 0).2.1
theorem nU(h:l≠[]):maxN l∈l:=by
 rcases (jY l 0).2.2 with e|e
 .cases l with
  |nil=>exact(h rfl).elim
  |cons x l=>
   have:x≤maxN (x::l):=BW x GE;have a:maxN _=0:=e
   grind
 .exact e
theorem jw{x:Nat}(h:x∈l):l[idx l x]?=some x/\∀i y,i<idx l x->l[i]?=some y->y≠x:=by
 have a:idx l x<l.length:=List.findIdx_lt_length_of_exists ⟨x,h,by simp⟩;refine⟨?_,λi y b c e=>?_⟩
 .rw[iO a];have:=List.findIdx_getElem (w:=a);simp at this;exact congrArg some this
 .have:=List.not_of_lt_findIdx b
  grind
theorem dW(a b:Nat):aak (.int (a:Int)) (.int (b:Int))=decide (a=b):=by
 simp[aak]
 by_cases h:a=b
 .subst h;simp
 .have:¬_:=λz=>h (aib z)
  simp_all
theorem jy(l:List Nat):∀y∈natD l,Shp 0 y:=λy a=>by
 obtain⟨x,_,rfl⟩:=aac.mp a;exact gW _
theorem DQ(l:List Nat)(k x:Nat):(natD l).set k (.int (x:Int))=natD (l.set k x):=by
 unfold natD;rw[List.map_set]
noncomputable def v5:SpM:=λa K=>∃(l:List Nat) (k:Nat) (d:Int) (x:Nat),a=[.imm (lnD l),.imm (.int (k:Int)),.imm (.int d)]/\k<l.length/\l.length≤1000/\(l.getD k 0:Int)+d=(x:Int)/\K (.imm (lnD (l.set k x))) []
noncomputable def lwD(p:List Nat×Wd):dL:=.tuple [lnD p.1,.str p.2.s]
noncomputable def Jh:SpM:=λa K=>∃(h:Hall) (l:List Nat) (k:Nat),a=[.imm h.d,.imm (lnD l),.imm (.int (k:Int))]/\h.Ok/\Lines h l/\k<h.ss.length/\K (.imm (lwD (ik h l k))) []
noncomputable def IQ:SpM:=λa K=>∃(l:List Nat) (k:Nat),a=[.imm (lnD l),.imm (.int (k:Int))]/\k<l.length/\l.length≤1000/\K (.imm (lwD (iw l k))) []
noncomputable def optP:Option (Nat×Nat)->dL
 |none=>.none
 |some p=>.tuple [.int (p.1:Int),.int (p.2:Int)]
noncomputable def AG:SpM:=λa K=>∃(h:Hall) (l:List Nat),a=[.imm h.d,.imm (lnD l)]/\l≠[]/\l.length≤1000/\K (.imm (optP (cK h l))) []
noncomputable def ql:SpM:=λa K=>∃(h:Hall) (l:List Nat),a=[.imm h.d,.imm (lnD l)]/\l≠[]/\l.length≤1000/\K (.imm (lnD (dE h l))) []
theorem i5(e:cK h l=some p):h.mv=true/\l[p.1]?=some (maxN l)/\2≤maxN l/\l[p.2]?=some 0/\p.1≠p.2:=by
 unfold cK at e
 split at e
 .rename_i q;obtain⟨c,b,d⟩:=q;have a:l≠[]:=λz=>by rw[z]at b;cases b
  have s1:=(jw (nU a)).1;have s:=(jw b).1
  grind
 .cases e
theorem lH(e:cK h l=some p):df l p=(l.set p.1 (maxN l-1)).set p.2 1/\p.1<l.length/\p.2<l.length/\(df l p).count 0+1=l.count 0/\(df l p).length=l.length:=by
 obtain⟨h0,b,u,a,i⟩:=i5 e;have c:=(Io.mp b).1;have g:=(Io.mp a).1;have m:l.getD p.1 0=maxN l:=bu b;have j:(l.set p.1 (maxN l-1)).getD p.2 0=0:=bu (by rw[aaT i];exact a);have d:df l p=(l.set p.1 (maxN l-1)).set p.2 1:=by unfold df;rw[m,j]
 have n:=by rw[iO c]at b;exact aal b
 have k:l[p.2]=0:=by rw[iO g]at a;exact aal a
 refine⟨d,c,g,?_,by rw[d,abq,abq]⟩;have q:0<l.count 0:=List.count_pos_iff.mpr (DL a);have f:p.2<(l.set p.1 (maxN l-1)).length:=by rw[abq];exact g
 have v:(l.set p.1 (maxN l-1))[p.2]=0:=by rw[adL i];exact k
 rw[d,List.count_set f,List.count_set c,v,n];have s:(maxN l==0)=false:=by simp;omega
 have o:(maxN l-1==0)=false:=by simp;omega
 simp_all
theorem qb(e:cK h l=none):∀n,cG h n l=l
 |0=>rfl
 |n+1=>by simp[cG,e]
noncomputable def xg(h:Hall)(r:Rule)(t:Nat):Nat:=match r with
 | .turns=>(t+1)%h.ss.length
 |_=>t
noncomputable def Bc:SpM:=λa K=>∃(h:Hall) (r:Rule) (t:Nat),a=[.imm h.d,.imm r.d,.imm (.int (t:Int))]/\h.Ok/\K (.imm (.int (xg h r t:Nat))) []
noncomputable def DW(h:Hall)(r:Rule)(l:List Nat)(t:Nat):Mv->dL
 | .come o=>.int (sent h r l t o:Nat)
 | .done k=>.int (k:Int)
 | .still=>.none
noncomputable def vz:SpM:=λa K=>∃(h:Hall) (r:Rule) (l:List Nat) (t:Nat) (mv:Mv),a=[.imm h.d,.imm r.d,.imm (stD l t),.imm mv.d]/\h.Ok/\r.Ok h/\Lines h l/\mv.Ok h/\K (.imm (DW h r l t mv)) []
noncomputable def fQ(h:Hall)(r:Rule)(l:List Nat)(t:Nat):Mv->List Nat×Nat×Wd
 | .come o=>(dE h (ik h l (sent h r l t o)).1,xg h r t,(ik h l (sent h r l t o)).2)
 | .done k=>(dE h (iw l k).1,t,(iw l k).2)
 | .still=>(dE h l,t,.none)
noncomputable def mvD(p:List Nat×Nat×Wd):dL:=.tuple [stD p.1 p.2.1,.str p.2.2.s]
noncomputable def BR:SpM:=λa K=>∃(h:Hall) (r:Rule) (l:List Nat) (t:Nat) (mv:Mv),a=[.imm h.d,.imm r.d,.imm (stD l t),.imm mv.d]/\h.Ok/\r.Ok h/\Lines h l/\mv.Ok h/\(r = .turns->t<h.ss.length)/\K (.imm (mvD (fQ h r l t mv))) []
theorem Bg{o:List Nat}(ho:h.Ok)(hr:r.Ok h)(c:Lines h l)(a:Ord h.ss.length o)(d:r = .turns->t<h.ss.length):sent h r l t o<h.ss.length:=by
 cases r with
 |random=>obtain⟨e,k,rfl,h0⟩:=a.cons;exact h0
 |turns=>exact d rfl
 |two=>exact kH a 2
 |least=>have:=kH (lt:=dQ l) a o.length;rw[aab]at this;exact this
 |quick=>have:=kH (lt:=cJ h l) a o.length;rw[aab]at this;exact this
 |told ps=>
  have b:placeF 0 h.rs l<ps.length:=by rw[hr.1,allR_cnt];exact place_lt c.fits
  exact hr.2 _ (DL (getN rfl b))
theorem Lines.set{k x:Nat}(a:Lines h l)(f:∀s,h.ss[k]?=some s->x≤s.r):Lines h (l.set k x):=by
 refine⟨by rw[abq];exact a.1,λi s y c e=>?_⟩
 by_cases b:k=i
 .subst b;have d:k<l.length:=by rw[a.1];exact(Io.mp c).1
  simp_all
 .rw[aaT b]at e;exact a.2 i s y c e
theorem Lines.at{k:Nat}(a:Lines h l)(b:k<h.ss.length):∃s,h.ss[k]?=some s/\l.getD k 0≤s.r/\h.rn k=s.r/\s∈h.ss:=by
 obtain⟨s,e,c,eb,hs⟩:=h.srv b;exact⟨s,e,a.2 k s _ e (getN a.1 b),bu (Hall.rs_get e),hs⟩
theorem xz{k:Nat}(a:Lines h l)(b:k<h.ss.length):Lines h (ik h l k).1:=by
 obtain⟨s,e,c,f,hs⟩:=a.at b;unfold ik;split
 .omega
 .refine a.set λd g=>?_
  grind
theorem wn{k:Nat}(a:Lines h l)(b:k<h.ss.length):Lines h (iw l k).1:=by
 obtain⟨s,e,c,f,hs⟩:=a.at b;unfold iw;split
 .omega
 .refine a.set λd g=>?_
  grind
theorem ix{h:Hall}(ho:h.Ok):∀(n:Nat) (l:List Nat),Lines h l->Lines h (cG h n l)
 |0,l,hL=>hL
 | n+1,l,hL=>by
  simp[cG]
  cases e:cK h l with
  |none=>exact hL
  |some p=>
   obtain⟨c,d,g,j,b⟩:=lH e;obtain⟨i,m1,m2,m,f⟩:=i5 e;refine ix ho n _ ?_;rw[c];refine(hL.set λs a=>?_).set λs a=>(ho.ok s (DL a)).r1;have:=hL.2 p.1 s _ a m1;omega
theorem fB(ho:h.Ok)(a:Lines h l):Lines h (dE h l):=ix ho _ _ a
structure St(h:Hall)(r:Rule)(l:List Nat)(t:Nat):Prop where
 ln:Lines h l
 tn:r = .turns->t<h.ss.length
 ts:t<4
theorem Fg(ho:h.Ok)(hs:t<4)(a:r = .turns->t<h.ss.length):(r = .turns->xg h r t<h.ss.length)/\xg h r t<4:=by
 have n1:=ho.n1;have n4:=ho.n4
 cases r with
 |turns=>
  have:=ah6 (t+1) (show h.ss.length>0 by assumption);exact⟨λ_=>this,by show(t+1)%h.ss.length<4;exact aah ‹_› ‹_›⟩
 |_=>exact⟨(λz=>by cases z),hs⟩
theorem o8(ho:h.Ok)(hr:r.Ok h)(S:St h r l t){mv:Mv}(a:mv.Ok h):St h r (fQ h r l t mv).1 (fQ h r l t mv).2.1:=by
 cases mv with
 |come o=>
  have:=Fg ho S.ts S.tn;exact⟨fB ho (xz S.ln (Bg ho hr S.ln a S.tn)),this.1,this.2⟩
 |done k=>exact⟨fB ho (wn S.ln a),S.tn,S.ts⟩
 |still=>exact⟨fB ho S.ln,S.tn,S.ts⟩
noncomputable def zer(h:Hall):List Nat:=aam h.ss.length 0
theorem iA(ho:h.Ok)(r:Rule):St h r (zer h) 0:=by
 refine⟨⟨by simp[zer],λi s x a e=>?_⟩,λ_=>ho.n1,by decide⟩;have:=by
  have:=DL e;exact(List.mem_replicate.mp this).2
 omega
noncomputable def sy:SpM:=λa K=>∃h:Hall,a=[.imm h.d]/\h.Ok/\K (.imm (stD (zer h) 0)) []
theorem D9{k:Nat}{d:dL}(h:Shp k d):aak d d=true:=PySem.SeqAt.eqv_refl d h.cl
theorem tW(l:List Nat)(t:Nat):Shp 2 (stD l t):=qC (k:=1) λd hd=>by
 simp at hd;rcases hd with rfl|rfl
 .exact KJ l
 .exact(gW _).mono (by decide)
noncomputable def TapeD(c:Nat)(ds:List dL):Prop:=∃(ns:List Int) (p q:Int),ds=[.list (ns.map .int),.int p,.int q]/\ns.length≤63/\0≤p/\p≤c/\0≤q
theorem TapeD.mono{c a:Nat}{ds:List dL}(h:TapeD c ds)(g:c≤a):TapeD a ds:=by
 obtain⟨ns,p,q,e,b,d,i,f⟩:=h;exact⟨ns,p,q,e,b,d,by omega,f⟩
noncomputable def IY:SpM:=λa K=>∃ns:List Int,a=[.imm (.list (ns.map .int))]/\ns.length≤63/\∀ds,TapeD 0 ds->K (.new ds) []
noncomputable def kz:SpM:=λa K=>∃(ds:List dL) (m:Int) (c:Nat),a=[.own ds,.imm (.int m)]/\TapeD c ds/\c<1000000000/\0<m/\m<1099511627776/\∀(r:Int) (d:List dL),0≤r->r<m->TapeD (c+1) d->K (.imm (.int r)) [d]
noncomputable def KL:SpM:=λc K=>∃a b:Nat,c=[.imm (.int a),.imm (.int b)]/\K (.imm (.int (a.gcd b:Nat))) []
noncomputable def Jq(m:List (List Nat)):Prop:=m≠[]/\m.length≤1000/\∀rs∈m,1≤rs.length/\rs.length≤4/\∀r∈rs,1≤r/\r≤6
theorem sumZ:∀l:List Nat,(l.map λ(x:Nat)=>(x:Int)).sum=((l.sum:Nat):Int)
 |[]=>rfl
 |x::l=>by rw[aau,acr,acr,sumZ l,ac3]
theorem Jb:∀{l:List Nat}{N:Nat},(∀x∈l,x≤N)->l.sum≤N*l.length
 |[],N,_=>abC _
 |x::l,N,h=>by
  have c:=h x GE;have b:=Jb λy a=>h y (Ge _ a);rw[acr,aaz,Nat.mul_succ];omega
theorem Ak:∀{l:List Nat}{x:Nat},x∈l->x≤l.sum
 |y::l,x,h=>by
  rw[acr];obtain rfl|h:=aai.mp h
  .simp
  .have:=Ak h;omega
theorem xZ(l:List Nat):fu (natD l)=some (l.map λ(x:Nat)=>(x:Int)):=by
 have:=gN (l.map λ(x:Nat)=>x);rwa[aaD]at this
noncomputable def cutN(b:Nat)(p:Nat):Nat×Nat:=(p/p.gcd b,b/p.gcd b)
theorem oi{b p:Nat}(e:1≤p)(j:p<1000000)(a:1≤b)(k:b<1000000):1≤(cutN b p).1/\(cutN b p).1<1000000/\1≤(cutN b p).2/\(cutN b p).2<1000000:=by
 have g:0<p.gcd b:=abB _ a;have c:p.gcd b≤b:=af7 _ a;have d:p.gcd b≤p:=Nat.gcd_le_left _ e;have i:=adq p (p.gcd b);have f:=adq b (p.gcd b);exact⟨ahS d g,by show p/p.gcd b<1000000;exact aas ‹_› ‹_›,ahS c g,by show b/p.gcd b<1000000;exact aas ‹_› ‹_›⟩
theorem vk{a:Type}(n:Nat)(x:a):(aam n [x]).flatten=aam n x:=by simp
theorem FM(n x:Nat):aam n (abn (x:Int))=natD (aam n x):=by unfold natD;rw[afw]
noncomputable def S9(p:Nat×Nat)(r:Nat):Srv:=⟨p.1,p.2,r⟩
theorem C7{r:Nat}(h:1≤p.1/\p.1<1000000/\1≤p.2/\p.2<1000000)(hr:1≤r/\r≤6):(S9 p r).Ok:=⟨h.1,h.2.1,h.2.2.1,h.2.2.2,hr.1,hr.2⟩
end K
namespace L2
open PySem PySem.Spec PyProof.Rows
variable{K:Mt}{x:Str}
section
variable {prog:aaB}{w:World}{A:aa4}{E:mT->oR->Prop}{s:oR}
noncomputable abbrev colH(h:aaM)(vs:List mT):aaM:=(h.push (aeD "list" #[] 0)).update h.objs.size (acH (·++vs.toArray))
theorem Am(h:aaM)(vs:List mT):(colH h vs).objs.size=h.objs.size+1:=(adG ..).trans (size_push' ..)
end
section
variable {X:Cx}{a:Expr}{es:List Expr}{w:WA}{pos p b c:Pos}
noncomputable def VJ(K:Mt):List V->Hp->VK->Prop:=λd H Q=>∃(t:Bool) (l:Addr) (ns:List Int),d=[.ref l]/\SqB t K H l (ns.map V.int)/\Q (.int ns.sum) H
theorem j6(ns:List Int):∀n,n≤ns.length->preSum (λi=>ns.getD i 0) n=(ns.take n).sum
 |0,_=>by simp[preSum]
 |n+1,h=>by
  show preSum _ n+ns.getD n 0=_;have d:=by omega
  rw[j6 ns n (by exact aa0 ‹_›),abl,iO d,bu (iO d),acI];simp
theorem qW(C:X.calm=true):dn X (.builtin "sum") (VJ X.K):=by
 rintro j s J H E F Q I B ⟨t,l,ns,ex,n,q⟩;subst ex;obtain⟨u,rfl,k⟩:=B.one;cases k;obtain⟨d,r,m,_⟩:=I.sqb n;have y:=mD r;have z:d.length=ns.length:=by have:=r.length;grind
 refine call_sum_walkG (vO m λs2 e st g f=>?_);subst e;refine⟨s.heap.objs.size,[s.heap.objs.size,l],[s.heap.objs.size],d.toArray.size,λi v=>d.toArray[i]?=some v,λi h=>SubI t h s.heap.objs.size l i/\SubS t h l d.toArray,λi=>ns.getD i 0,rfl,qL (A:=X.A.in1) t (I.ok.hd C) _ l f d.toArray,st,g,ub y,λG o t' D=>?_⟩;have e:preSum (λi=>ns.getD i 0) d.toArray.size=ns.sum:=by
  rw[aaw,z,j6 ns ns.length (Dl _),aab]
 rw[e];exact⟨.int ns.sum,H,I.kept (t':=o) (vt D),⟨_,rfl⟩,q⟩
noncomputable def UF:WC:=λrs m K=>on1 (λr=>∃ds ns,sqOf m r=some ds/\fu ds=some ns/\K (.imm (.int ns.sum))) rs
theorem wR(j:X.calm=true):dn X (.builtin "sum") (cM X.kx UF):=by
 rintro d s e H t u Q I k ⟨z,m,A,C,rs,y,R,h,ho,i⟩;obtain⟨r,v,rfl,rfl,n,ds,ns,q,l,ho⟩:=d6 h ho;obtain⟨a,B,rfl,f,g⟩:=n.seq R q;rw[lZ l]at g;have o:=gJ g;subst o;have go:=i _ _ H ho R (fw _) (Frm.refl _ _);rcases f with f|f
 .exact qW j d s e H _ u Q I k ⟨false,a,ns,rfl,f,go⟩
 .exact qW j d s e H _ u Q I k ⟨true,a,ns,rfl,f,go⟩
theorem O6{m:MSt}{r:R}{d:R->Prop}{ds:List dL}{ns:List Int}(f:sqOf m r=some ds)(e:fu ds=some ns)(h:d (.imm (.int ns.sum))):UF [r] m d:=⟨ds,ns,f,e,h⟩
theorem gI{K:Kd}{H:Hp}:∀ns:List Int,DenAll K H (ns.map .int) (ns.map V.int)
 |[]=>by simp[ DenAll]
 |n::ns=>by
  exact⟨.int n,_,rfl,by simp[Den],gI ns⟩
end
section
variable {X:Cx}{a:Expr}{es:List Expr}{w:WA}{pos p b c:Pos}
theorem iE:abe "sorted" = some (.builtin "sorted"):=by rfl
end
structure ConM(K:Mt)(mg:Str->Option mT)(x:Str)(d:dL):Prop where
 ex:∃(v:V) (u:mT),mg x=some u/\RelV v u/\∀(w:World) (H:Hp),Den ⟨K,w⟩ H d v
structure ConK(K:Mt)(x:Str)(d:dL):Prop where
 ex:∃(v:V) (u:mT),aat K aao x=some (some u)/\RelV v u/\∀(w:World) (H:Hp),Den ⟨K,w⟩ H d v
theorem ConK.m{mg:Str->Option mT}{h:aaM}{d:dL}(D:ConK K x d)(X:K.In h)(G:h.Ns aao mg):ConM K mg x d:=by
 obtain⟨v,u,a,r,q⟩:=D.ex;exact⟨v,u,aeL X G a,r,q⟩
theorem ConK.int{z:Int}{t:Tok}(a:aat K aao x=some (some (.int z t))):ConK K x (.int z):=⟨.int z,_,a,⟨t,rfl⟩,λ_ H=>by simp[Den]⟩
section
variable {X:Cx}{a b o e:Expr}{es:List Expr}{w g:WE}{h:WA}{c f pos p:Pos}{tg:Expr}
theorem TW{d:dL}(C:ConM X.K X.mg x d)(k:Gl X x)(hd:(x==("__debug__" : Str))=false:=by decide):ME X (.Name x pos) (wC d):=by
 obtain⟨v,u,l,r,q⟩:=C.ex;exact Mr (NR k l r hd) λs m t H n Q R j i=>i _ m v H j rfl R (q _ _) (Frm.refl _ _)
theorem Bh{d:dL}(C:ConM X.K X.mg x d)(i:Gl X x)(hd:(x==("__debug__" : Str))=false:=by decide):EE X (.Name x pos) (wC d):=⟨TW C i hd⟩
end
end L2
namespace L2
open PySem PySem.Spec PyProof.Rows
noncomputable def intV:mT->Option Int
 | .int z _=>some z
 |_=>none
theorem lJ:∀{i:List mT}{a:List Int},i.map intV=a.map some->Vals (a.map V.int) i
 |[],[],_=>.nil
 |[],_::_,h=>by cases h
 |_::_,[],h=>by cases h
 |u::i,z::a,h=>by
  obtain⟨b,c⟩:=List.cons.inj h;refine .cons ?_ (lJ c)
  cases u<;>first|(cases b;exact⟨_,rfl⟩)|cases b
theorem ConK.ints{K:Mt}{x:Str}{p:Addr}{b:Array mT}{n:Nat}{s:Array (Option mT)}{z:List Int}(a:aat K aao x=some (some (.ref p)))(l:K.lookup p=some ⟨.type "tuple",none,.seq b n,s⟩)(i:b.toList.map intV=z.map some)(h:b.size≤1000):ConK K x (.tuple (z.map .int)):=by
 refine⟨.ref p,_,a,rfl,λ_ H=>?_⟩;exact cF (.inr ⟨_,b,n,l,rfl,rfl,rfl,by rw[aan];omega,lJ i⟩) (gI z)
end L2
namespace L2
open PySem PySem.Spec PySem.W PyProof.Rows
noncomputable def runC{b:Type}(n:Nat)(f:Nat->Nat->Bool):KasT b->Option b
 | .ret a=>some a
 | .ask i j k=>if i<n/\j<n then runC n f (k (f i j))else none
theorem yf{d:Type}{n:Nat}{f:Nat->Nat->Bool}{c:Nat->Nat->(Bool->oR->Prop)->oR->Prop}{s:oR}(g:∀i j C,i<n->j<n->C (f i j) s->c i j C s){Q:d->oR->Prop}:∀(t:KasT d) (a:d),runC n f t=some a->Q a s->t.kasWp c Q s
 | .ret b,a,e,q=>by
  have l:=aal e;subst l;exact q
 | .ask i j k,a,e,q=>by
  unfold runC at e
  split at e
  .rename_i h;exact g i j _ h.1 h.2 (yf g _ a e q)
  .cases e
section
variable {X:Cx}
theorem jD{K:Kd}{H:Hp}{ds:List dL}{xs:List V}(g:DenAll K H ds xs):∀p:List Nat,DenAll K H (p.map λi=>ds.getD i .none) (p.map λi=>xs.getD i .non)
 |[]=>by simp only[agr,DenAll]
 | i::p=>by
  simp only[aau];refine⟨_,_,rfl,?_,jD g p⟩
  cases e:ds[i]? with
  |some d=>
   obtain⟨v,a,hd⟩:=g.get e;rw[bu e,bu a];exact hd
  |none=>
   have a:xs[i]?=none:=by rw[List.getElem?_eq_none_iff]at e⊢;rw[<-g.length];exact e
   rw[aar,aar,e,a];rfl
theorem ij{xs:List V}{a:List mT}(r:Vals xs a):∀p:List Nat,Vals (p.map λi=>xs.getD i .non) (p.map λi=>a.getD i .none)
 |[]=>.nil
 | i::p=>by
  rw[aau,aau];refine .cons ?_ (ij r p)
  cases e:xs[i]? with
  |some x=>
   obtain⟨u,b,h⟩:=r.get e;rw[bu e,bu b];exact h
  |none=>
   rw[aar,aar,e,r.none_of e];rfl
end
end L2
namespace K
open PySem L2 M7
noncomputable def lj(n:Nat)(os:List (List Nat)):List (List Nat):=os.flatMap λa=>((aaH n).filter λl=>!a.contains l).map λl=>a++[l]
noncomputable def ordK(n:Nat):Nat->List (List Nat)
 |0=>[[]]
 |k+1=>lj n (ordK n k)
theorem xV{n:Nat}{os:List (List Nat)}{j:Nat}{a:List Nat}(h:os[j]?=some a):lj n (os.take (j+1))=lj n (os.take j)++((aaH n).filter λl=>!a.contains l).map λl=>a++[l]:=by
 unfold lj;rw[abl,h];simp
theorem c6:∀n≤4,∀k≤4,(ordK n k).length≤24/\∀a∈ordK n k,a.length≤4/\∀x∈a,x≤3:=by decide +kernel
theorem lg:∀n≤4,∀k≤3,∀j≤24,(lj n ((ordK n k).take j)).length≤24:=by decide +kernel
end K
namespace L2
open PySem PySem.Spec PyProof.Rows
variable{v y:V}{C u:mT}{P:aaB}{w:World}{H H':Hp}{kvs:List (dL×dL)}{xs:List (List Key×Addr×mT)}{a b e:Addr}{E Q:mT->oR->Prop}{h h':aaM}{A:aa4}{τ:List (List Nat×Addr)}{p ρ:List Nat}{kk:Key}{es vs:List (Key×V)}{t:dL}{K:Kd}{x:Str}{n:Nat}{α:Al}{m2:MSt}{σ:St}{D:Ends}{ds:List dL}{ob:WM}{F:Addr->Prop}{To dct:Option Addr}{X:Cx}{pins:List (Addr×Obj)}{s':oR}{mg:Str->Option mT}{N ps:List Str}
section
variable {a:Type} [DecidableEq a]
noncomputable def valV(kvs:List (a×V))(k:a):Option V:=(kvs.find? λc=>decide (c.1=k)).map (·.2)
noncomputable def putK(kvs:List (a×V))(k:a)(v:V):List (a×V):=
 if (kvs.any λc=>decide (c.1=k))=true then kvs.map (λc=>if c.1=k then(c.1,v)else c)else kvs++[(k,v)]
theorem jB{p:a×V}{r:List (a×V)}{k:a}(e:p.1=k):valV (p::r) k=some p.2:=by simp[valV,e]
theorem jC{p:a×V}{r:List (a×V)}{k:a}(e:¬p.1=k):valV (p::r) k=valV r k:=by simp[valV,e]
theorem ux(k:a):∀kvs:List (a×V),(kvs.any λc=>decide (c.1=k))=(valV kvs k).isSome
 |[]=>rfl
 |p::r=>by
  rw[afT]
  by_cases e:p.1=k
  .simp[jB e,decide_eq_true e]
  .rw[jC e,decide_eq_false e];exact ux k r
theorem ku(kvs:List (a×V))(k:a)(v:V):(putK kvs k v).length≤kvs.length+1:=by
 unfold putK
 grind
theorem RelO.isSome_eq{o:Option V}{u:Option mT}(r:RelO o u):o.isSome=u.isSome:=by
 cases o with
 |none=>cases u with
  |none=>rfl
  |some _=>exact(r).elim
 |some _=>cases u with
  |none=>exact(r).elim
  |some _=>rfl
theorem KV.val{kvs:List (a×V)}{vs:List (a×mT)}(r:KV kvs vs)(k:a):RelO (valV kvs k) (afj vs k):=by
 induction r with
 |nil=>exact ahj
 | @cons p q ps qs h t ih=>
  obtain⟨c,d⟩:=h
  by_cases e:p.1=k
  .have e':=c.symm.trans e;have b:afj (q::qs) k=some q.2:=by simp[afj,e']
   rw[jB e,b];exact d
  .have e':¬q.1=k:=λz=>e (c.trans z);have b:afj (q::qs) k=afj qs k:=by simp[afj,e']
   rw[jC e,b];exact ih
theorem KV.any{kvs:List (a×V)}{vs:List (a×mT)}(r:KV kvs vs)(k:a):(kvs.any λc=>decide (c.1=k))=vs.any λc=>decide (c.1=k):=by
 induction r with
 |nil=>rfl
 |cons h t i=>rw[afT,afT,i,h.1]
theorem KV.repl{kvs:List (a×V)}{vs:List (a×mT)}(r:KV kvs vs)(k:a)(f:RelV y u) :
  KV (kvs.map λc=>if c.1=k then(c.1,y)else c) (vs.map λc=>if c.1=k then(c.1,u)else c):=by
 induction r with
 |nil=>exact .nil
 | @cons p q ps qs h t ih=>
  rw[aau,aau];refine .cons ?_ ih;obtain⟨d,g⟩:=h
  by_cases e:p.1=k
  .rw[if_pos e,if_pos (d.symm.trans e)];exact⟨d,f⟩
  .rw[if_neg e,if_neg (λz=>e (d.trans z))];exact⟨d,g⟩
theorem KV.put{kvs:List (a×V)}{vs:List (a×mT)}(r:KV kvs vs)(k:a)(c:RelV y u):KV (putK kvs k y) (stored vs k u):=by
 unfold putK stored;rw[r.any k]
 by_cases e:(vs.any λd=>decide (d.1=k))=true
 .rw[if_pos e,if_pos e];exact r.repl k c
 .rw[if_neg e,if_neg e];exact Paired.snoc r ⟨rfl,c⟩
theorem KV.length{kvs:List (a×V)}{vs:List (a×mT)}(r:KV kvs vs):kvs.length=vs.length:=ag9 r
end
theorem xh{k:Key}(r:RelV (kV k) u):(cg P w).is k u=true:=by
 cases k with
 |inl i=>obtain⟨t,e⟩:=(r);subst e;exact sE P w i t
 |inr x=>obtain⟨t,e⟩:=(r);subst e;exact tu P w x t
theorem qX{P:aaB}{w:World}:∀{ks:List Key}{c:List mT},Vals (ks.map kV) c->ItemsAre (cg P w) ks c
 |[],_,r=>by rw[agr]at r;cases r;exact .nil
 |k::ks,_,r=>by
  cases r with
  |cons h t=>exact .cons (xh h) (qX t)
noncomputable abbrev KT(H:Hp):List (List Key×V)->List (List Key×Addr×mT)->Prop:=abO λp q=>p.1=q.1/\H q.2.1=some (.tup (p.1.map kV))/\RelV p.2 q.2.2
theorem KT.val{kvs:List (List Key×V)}(r:KT H kvs xs)(k:List Key):RelO (valV kvs k) ((atKey xs k).map (·.2)):=by
 induction r with
 |nil=>exact ahj
 | @cons p q ps qs h t ih=>
  obtain⟨c,_,d⟩:=h
  by_cases e:p.1=k
  .have e':=c.symm.trans e;have b:atKey (q::qs) k=some q.2:=by simp[atKey,e']
   rw[jB e,b];exact d
  .have e':¬q.1=k:=λz=>e (c.trans z);have b:atKey (q::qs) k=atKey qs k:=by simp[atKey,e']
   rw[jC e,b];exact ih
theorem KT.repl{kvs:List (List Key×V)}(r:KT H kvs xs)(k:List Key)(g:RelV y u) :
  KT H (kvs.map λd=>if d.1=k then(d.1,y)else d) (xs.map (putAt k u)):=by
 induction r with
 |nil=>exact .nil
 | @cons p q ps qs h t ih=>
  rw[aau];refine .cons ?_ ih;obtain⟨c,f,i⟩:=h;unfold putAt
  by_cases e:p.1=k
  .rw[if_pos e,if_pos (c.symm.trans e)];exact⟨c,f,g⟩
  .rw[if_neg e,if_neg (λz=>e (c.trans z))];exact⟨c,f,i⟩
theorem KT.put{kvs:List (List Key×V)}(r:KT H kvs xs)(k:List Key)(hb:H b=some (.tup (k.map kV)))(c:RelV y u) :
  KT H (putK kvs k y) (storedH xs k b u):=by
 have e:(kvs.any λd=>decide (d.1=k))=(atKey xs k).isSome:=by
  rw[ux,(r.val k).isSome_eq,afK]
 unfold putK storedH;rw[e]
 by_cases q:(atKey xs k).isSome=true
 .rw[if_pos q,if_pos q];exact r.repl k c
 .rw[if_neg q,if_neg q];exact Paired.snoc r ⟨rfl,hb,c⟩
theorem KT.keeps{kvs:List (List Key×V)}(r:KT H kvs xs)(c:∀b ys,H b=some (.tup ys)->H' b=some (.tup ys)):KT H' kvs xs:=
 Paired.mapP r λ_ _ z=>⟨z.1,c _ _ z.2.1,z.2.2⟩
section
variable {P:aaB}{w:World}{H:Hp}{h:aaM}{a:Addr}
theorem Uw{u:HO}(ok:HOk P w H h)(e:Rd H a u):ObjOk P w H h a u:=e.ok ok
theorem sj{kvs:List (Key×V)}(ok:HOk P w H h)(e:Rd H a (.dK kvs)):kvs.length≤aag/\(a==abD)=false/\∃vs,KV kvs vs/\h.DictOf (cg P w) a vs:=
 Uw ok e
theorem U8{kvs:List (Key×V)}(ok:HOk P w H h)(e:H a=some (.dK kvs)):kvs.length≤aag/\(a==abD)=false/\∃vs,KV kvs vs/\h.DictOf (cg P w) a vs:=sj ok (.inl e)
theorem ph{ks:List Key}(ok:HOk P w H h)(e:H a=some (.tup (ks.map kV))):(agY (cg P w)).is h ks a:=by
 obtain⟨_,i,r,o,c,d,hd,n,f⟩:=(ok a _ e);exact⟨o,i.toArray,n,c,d,f,by simpa using qX r⟩
theorem Iu{kvs:List (List Key×V)}(ok:HOk P w H h)(e:Rd H a (.dT kvs)):kvs.length≤aag/\(a==abD)=false/\
  ∃xs,KT H kvs xs/\h.DictOfH (agY (cg P w)) a xs:=by
 obtain⟨z,y,xs,r,o,es,f,d,g,j,i,k⟩:=(Uw ok e);refine⟨z,y,xs,r,o,es,f,d,g,j,i,λx c=>?_,k⟩;have all:∀{l:List _}{m:List _},KT H l m->∀x∈m,(agY (cg P w)).is h x.1 x.2.1:=by
  intro l m q
  induction q with
  |nil=>intro x c;exact nomatch c
  | @cons p q ps qs hq t ih=>
   intro x c;rcases aai.mp c with e|c
   .subst e;exact ph ok (by simp_all)
   .exact ih x c
 exact all r x c
theorem Vd{kvs:List (List Key×V)}(ok:HOk P w H h)(e:H a=some (.dT kvs)):kvs.length≤aag/\(a==abD)=false/\
  ∃xs,KT H kvs xs/\h.DictOfH (agY (cg P w)) a xs:=Iu ok (.inl e)
end
noncomputable def DGet(H:Hp)(a:Addr)(y:V)(r:Option V):Prop:=
 (∃kvs k,Rd H a (.dK kvs)/\y=kV k/\r=valV kvs k)\/∃kvs k b,Rd H a (.dT kvs)/\y = .ref b/\H b=some (.tup (k.map kV))/\r=valV kvs k
noncomputable def DPut(H:Hp)(a:Addr)(y v:V)(H':Hp):Prop:=
 (∃kvs k,H a=some (.dK kvs)/\y=kV k/\kvs.length<aag/\H'=upd H a (.dK (putK kvs k v))) \/
 ∃kvs k b,H a=some (.dT kvs)/\y = .ref b/\H b=some (.tup (k.map kV))/\kvs.length<aag/\H'=upd H a (.dT (putK kvs k v))
theorem DPut.k{kvs:List (Key×V)}{k:Key}(e:H a=some (.dK kvs))(c:kvs.length<aag):DPut H a (kV k) v (upd H a (.dK (putK kvs k v))):=.inl ⟨kvs,k,e,rfl,c,rfl⟩
section
variable {X:Cx}{d:List (Addr×Obj)}{f:St}{H:Hp}{s:oR}{a:Addr}{y v:V}{u r:mT}{o:Option V}{A:aa4}{E:mT->oR->Prop}
theorem Inv.big(I:Inv X d f H s):abD<s.heap.objs.size:=by
 have h:=(I.mod.glob.keeps I.bk).lt;exact aax (by decide) h
theorem y0(L:A.units+1<cLine)(I:Inv X d f H s)(g:DGet H a y (some v))(J:RelV y u)(h:∀j s',Inv X d f H s'->RelV v j->Q j s') :
  wpAny (model X.prog X.w) A (aeJ (.ref a) u) Q E s:=by
 rcases g with⟨kvs,k,e,G,l⟩|⟨kvs,k,b,e,G,eb,l⟩
 .subst G;obtain⟨z,hd,vs,c,B⟩:=sj I.hok e;obtain⟨j,q,i⟩:=RelO.some_of (v:=v) (o:=afj vs k) (by rw[l];exact c.val k);exact wpAny_getItem_of (xh J) B.mapOf q (h j _ (I.tok _) i)
 .subst G
  cases (show u=abh b from J)
  obtain⟨z,hd,xs,c,B⟩:=Iu I.hok e;obtain⟨j,q,i⟩:=RelO.some_of (v:=v) (o:=(atKey xs k).map (·.2)) (by rw[l];exact c.val k);obtain⟨p,hp,m⟩:=adn.mp q;refine wpAny_getItem_heap (ad8 L) (ph I.hok eb) B hp ?_;rw[m];exact h j _ (I.tok _) i
theorem d_in(B:A.units+1<cLine)(I:Inv X d f H s)(g:DGet H a y o)(m:RelV y u)(h:∀s',Inv X d f H s'->Q (.bool o.isSome) s') :
  wpAny (model X.prog X.w) A (abr .In u (.ref a)) Q E s:=by
 rcases g with⟨kvs,k,e,j,l⟩|⟨kvs,k,b,e,j,eb,l⟩
 .subst j;obtain⟨z,hd,vs,c,i⟩:=sj I.hok e;refine wpAny_in_of (xh m) hd i.mapOf ?_;rw[<-(c.val k).isSome_eq,<-l];exact h _ (I.tok _)
 .subst j;cases (m);obtain⟨z,hd,xs,c,i⟩:=Iu I.hok e;refine wpAny_in_heap (ad8 B) (ph I.hok eb) hd i ?_;have q:=(c.val k).isSome_eq;rw[afK]at q;rw[<-q,<-l];exact h _ (I.tok _)
theorem Ng(B:A.units+1<cLine)(I:Inv X d f H s)(g:DGet H a y o)(m:RelV y u)(h:∀s',Inv X d f H s'->Q (.bool (!o.isSome)) s') :
  wpAny (model X.prog X.w) A (abr .NotIn u (.ref a)) Q E s:=by
 rcases g with⟨kvs,k,e,j,l⟩|⟨kvs,k,b,e,j,eb,l⟩
 .subst j;obtain⟨z,hd,vs,c,i⟩:=sj I.hok e;refine wpAny_notIn_of (xh m) hd i.mapOf ?_;rw[<-(c.val k).isSome_eq,<-l];exact h _ (I.tok _)
 .subst j;cases (m);obtain⟨z,hd,xs,c,i⟩:=Iu I.hok e;refine wpAny_notIn_heap (ad8 B) (ph I.hok eb) hd i ?_;have q:=(c.val k).isSome_eq;rw[afK]at q;rw[<-q,<-l];exact h _ (I.tok _)
theorem uv{t':Nat}{ob:HO}(I:Inv X d f H s)(m:Mut (H a))(hs:abk a s.heap h')(c:∃q,h'.get? a=some q)(new:ObjOk X.prog X.w (upd H a ob) h' a ob) :
  Inv X d f (upd H a ob) {s with heap:=h',toks:=t' }:=
 I.write m (.inl rfl) (λb q hb z=>(hs.2 b hb).trans z) c new
theorem Sf{kvs:List (Key×V)}{vs:List (Key×mT)}(z:kvs.length≤aag)(hd:(a==abD)=false)(c:KV kvs vs)(g:h'.DictOf (cg P w) a vs) :
  ObjOk P w H' h' a (.dK kvs):=⟨z,hd,vs,c,g⟩
theorem z7{Q:Unit->oR->Prop}(T:A.units+1<cLine)(I:Inv X d f H s)(g:DPut H a y v H')(O:RelV y u)(R:RelV v r)(h:∀s',Inv X d f H' s'->Q () s') :
  wpAny (model X.prog X.w) A (ahq (.ref a) u r) Q E s:=by
 rcases g with⟨kvs,k,e,G,l,L⟩|⟨kvs,k,b,e,G,eb,l,L⟩
 .subst G L;obtain⟨z,hd,vs,i,B⟩:=U8 I.hok e;have J:vs.length≤aag:=by rw[<-i.length];exact z
  have M:(putK kvs k v).length≤aag:=by have:=ku kvs k v;exact aaj ‹_› ‹_›
  refine wpAny_setItem_pairs (hsz:=J) (xh O) B λh' j hs=>h _ ?_;have U:∃q,h'.get? a=some q:=let ⟨q,_,_,m,_⟩:=j;⟨q,m⟩;exact uv I (by rw[e];exact ahj) hs U (Sf M hd (i.put k R) j)
 .subst G L;cases (O);obtain⟨z,hd,xs,i,B⟩:=Vd I.hok e;have J:xs.length≤aag:=by rw[<-ag9 i];exact z
  have M:(putK kvs k v).length≤aag:=by have:=ku kvs k v;exact aaj ‹_› ‹_›
  refine wpAny_setItem_heap (hsz:=J) (ad8 T) (ph I.hok eb) B λh' j hs=>h _ ?_;obtain⟨q,es,Z,m,V,W,h4,_,Y⟩:=j;refine uv I (by rw[e];exact ahj) hs ⟨q,m⟩ ⟨M,hd,_,(i.put k eb R).keeps λc ys S=>?_,q,es,Z,m,V,W,h4,Y⟩;rw[ag (rQ S e (λz=>nomatch z))];exact S
end
noncomputable def NoSl(i:Expr):Prop:=∀o c,agG i false o c=operate [o,c] (aeJ o c)
theorem Oy{prog:aaB}{s:oR}{env:Env}{d c:Expr}{pos:Pos}{T id:String}
  (B:agj (.type T) "__getitem__" = pure (some (.builtin id))) (hs:NoSl c)
  (h:wpAny (model prog w) A (eval d env) (λo k=>wpAny (model prog w) A (eval c env) (λi f=>f.TypeIs o T/\wpAny (model prog w) A (aeJ o i) Q E f) E k) E s) :
  wpAny (model prog w) A (eval (.Subscript d c pos) env) Q E s:=by
 refine Subscript_ (abP h (λo k q=>abP q (λi f g=>?_) λ_ _ x=>x) λ_ _ x=>x);obtain⟨z,g⟩:=g;unfold subscriptTail;refine aD ?_;rw[getitemInPython_of_ne z.not_modules];refine aD (ad3 z B ?_);have l:wpAny (model prog w) A (agG c false o i) (λr j=>wpAny (model prog w) A (letTemporaryGo d o r >>= λ_=>pure r) Q E j) E f:=by
  rw[hs o i];exact wpAny_operating (abP g (λr j m=>aD (wpAny_letTemporaryGo (AD m))) λ_ _ x=>x)
 first
  |exact AD (aD l)
  |exact aD (AD (aD l))
  |exact aD l
noncomputable def VO(d ty g:TE):TS:=λD σ H=>g σ H λv f=>d σ f λx i=>ty σ i λy j=>∃a c,x = .ref a/\DPut j a y v c/\D.nx σ c
section
variable {X:Cx}{o i e b:Expr}{pos p t:Pos}{c ty d:TE}
theorem Ol(j:X.A.units+1<cLine)(ho:PE X o c)(G:PE X i ty)(l:PE X b d)(hs:abH b (some (.Subscript o i p)) pos.line X.env=pure false) :
  PS X (.Assign [.Subscript o i p] b pos) (VO c ty d):=by
 intro pins s σ H D I h;refine ags (thn (l pins s σ H _ I h) λr s1 ⟨v,B,O,M,S⟩=>thn (ho pins s1 σ B _ O S) λu s2 ⟨x,L,q,k,R⟩=>thn (G pins s2 σ L _ q R) λY V ⟨y,U,z,J,a,m,ex,g,T⟩=>?_) hs;subst ex;obtain rfl:u=abh a:=k;exact z7 j z g J M λW f=>⟨σ,m,f,T⟩
end
theorem ou(h:aaM)(hb:abD<h.objs.size):ObjOk P w H (h.push {cls:=.type "dict",data:=.dict #[]}) h.objs.size (.dK []):=
 ⟨abC _,beq_eq_false_iff_ne.mpr (aa5 (aaG hb)),[],.nil,aaM.DictOf.new h⟩
noncomputable def OA:TE:=λ_ H Q=>∀p,H p=none->Q (.ref p) (upd H p (.dK []))
section
variable {X:Cx}{pos:Pos}
theorem pe_dnewK:PE X (.Dict [] [] pos) OA:=λpins s σ H Q I h=>
 wpAny_Dict_empty ⟨.ref s.heap.objs.size,_,I.laid (t':=s.toks) (λ_ _ q=>Ad _ q) (Dl _) (ou s.heap I.big),rfl,h _ (I.hok.fresh (Dl _))⟩
end
section
variable {K:Kd}{H H':Hp}{τ:List (List Nat×Addr)}
mutual
theorem TAt.monoP(j:Pers H H'):∀{d:dL}{p:List Nat}{v:V},(∀q a,τ.lookup (p++q)=some a->H' a=H a)->TAt K H τ p d v->TAt K H' τ p d v
 | .none,_,_,_,h=>by simp only[TAt]at h⊢;exact h.mono j
 | .bool _,_,_,_,h=>by simp only[TAt]at h⊢;exact h.mono j
 | .int _,_,_,_,h=>by simp only[TAt]at h⊢;exact h.mono j
 | .str _,_,_,_,h=>by simp only[TAt]at h⊢;exact h.mono j
 | .tuple _,_,_,_,h=>by simp only[TAt]at h⊢;exact h.mono j
 | .list ts,p,_,e,h=>by
  simp only[TAt]at h⊢;obtain⟨a,xs,f,l,m,g⟩:=h;exact⟨a,xs,f,l,(e [] a (by rw[aaV];exact f)).trans m,TAtL.monoP j (λi q a z=>e (i::q) a z) g⟩
 | .dict kvs,p,_,e,h=>by
  simp only[TAt]at h⊢;rcases h with⟨d,f,h⟩|⟨o,r,a,es,f,l,m,k,g⟩|⟨o,r,a,es,f,l,m,g⟩|⟨c,a,dx,C,xs,s,f,l,m,k,g⟩
  .exact .inl ⟨d,f,h.mono j⟩
  .exact .inr (.inl ⟨o,r,a,es,f,l,(e [] a (by rw[aaV];exact f)).trans m,k,TAtD.monoP j (λi q a z=>e (i::q) a z) g⟩)
  .exact .inr (.inr (.inl ⟨o,r,a,es,f,l,(e [] a (by rw[aaV];exact f)).trans m,TAtK.monoP j (λi q a z=>e (i::q) a z) g⟩))
  .exact .inr (.inr (.inr ⟨c,a,dx,C,xs,s,f,l,(e [] a (by rw[aaV];exact f)).trans m,k,TAtF.monoP j (λi q a z=>e (i::q) a z) g⟩))
theorem TAtL.monoP(c:Pers H H'):∀{ds:List dL}{p:List Nat}{i:Nat}{xs:List V},(∀i q a,τ.lookup (p++i::q)=some a->H' a=H a)->TAtL K H τ p i ds xs->TAtL K H' τ p i ds xs
 |[],_,_,_,_,h=>by simpa only[TAtL]using h
 |t::ts,p,i,_,e,h=>by
  simp only[TAtL]at h⊢;obtain⟨v,vs,f,d,g⟩:=h;exact⟨v,vs,f,TAt.monoP c (λq a z=>e i q a (by simpa using z)) d,TAtL.monoP c e g⟩
theorem TAtD.monoP(c:Pers H H'):∀{ds:List (dL×dL)}{p:List Nat}{i:Nat}{xs:List (Int×V×V)},(∀i q a,τ.lookup (p++i::q)=some a->H' a=H a)->TAtD K H τ p i ds xs->TAtD K H' τ p i ds xs
 |[],_,_,_,_,h=>by simpa only[TAtD]using h
 |(k,t)::r,p,i,_,e,h=>by
  simp only[TAtD]at h⊢;obtain⟨u,v,vs,j,f,d,g⟩:=h;exact⟨u,v,vs,j,f.mono c,TAt.monoP c (λq a z=>e i q a (by simpa using z)) d,TAtD.monoP c e g⟩
theorem TAtK.monoP(c:Pers H H'):∀{ds:List (dL×dL)}{p:List Nat}{i:Nat}{xs:List (Key×V)},(∀i q a,τ.lookup (p++i::q)=some a->H' a=H a)->TAtK K H τ p i ds xs->TAtK K H' τ p i ds xs
 |[],_,_,_,_,h=>by simpa only[TAtK]using h
 |(k,t)::r,p,i,_,e,h=>by
  simp only[TAtK]at h⊢;obtain⟨u,v,vs,j,f,d,g⟩:=h;exact⟨u,v,vs,j,f,TAt.monoP c (λq a z=>e i q a (by simpa using z)) d,TAtK.monoP c e g⟩
theorem TAtF.monoP(c:Pers H H'):∀{ds:List (dL×dL)}{p:List Nat}{i:Nat}{xs:List (Str×V)},(∀i q a,τ.lookup (p++i::q)=some a->H' a=H a)->TAtF K H τ p i ds xs->TAtF K H' τ p i ds xs
 |[],_,_,_,_,h=>by simpa only[TAtF]using h
 |(.str f,t)::r,p,i,_,e,h=>by
  simp only[TAtF]at h⊢;obtain⟨v,vs,k,j,g⟩:=h;exact⟨v,vs,k,TAt.monoP c (λq a z=>e i q a (by simpa using z)) j,TAtF.monoP c e g⟩
 |(.none,d)::r,_,_,_,e,h=>by simp only[TAtF]at h⊢;exact TAtF.monoP c e h
 |(.bool _,d)::r,_,_,_,_,h=>by simp only[TAtF]at h
 |(.int _,d)::r,_,_,_,_,h=>by simp only[TAtF]at h
 |(.list _,d)::r,_,_,_,_,h=>by simp only[TAtF]at h
 |(.tuple _,d)::r,_,_,_,_,h=>by simp only[TAtF]at h
 |(.dict _,d)::r,_,_,_,_,h=>by simp only[TAtF]at h
end
end
noncomputable def setT:dL->List Nat->dL->dL
 |_,[],n=>n
 | .list ts,i::p,n=>.list (ts.set i (setT (ts.getD i .none) p n))
 | .dict kvs,i::p,n=>.dict (kvs.set i ((kvs.getD i (.none,.none)).1,setT (kvs.getD i (.none,.none)).2 p n))
 |t,_::_,_=>t
section
variable {K:Kd}{H b:Hp}{τ:List (List Nat×Addr)}{p q:List Nat}{P:List Nat}
theorem TAtL.setL(k:Pers H b){t':dL}:∀{ts:List dL}{i j:Nat}{xs:List V},TAtL K H τ p i ts xs->(∀v,xs[j]?=some v->TAt K b τ (p++[i+j]) t' v)->(∀l,l≠i+j->∀q a,τ.lookup (p++l::q)=some a->b a=H a)->TAtL K b τ p i (ts.set j t') xs
 |[],_,_,_,h,_,_=>by simpa only[List.set_nil,TAtL]using h
 | t::ts,i,0,xs,h,c,e=>by
  simp only[TAtL]at h;obtain⟨v,vs,rfl,_,g⟩:=h;refine⟨v,vs,rfl,c v rfl,?_⟩;clear c;have:∀{ts:List dL}{d:Nat}{vs:List V},i<d->TAtL K H τ p d ts vs->TAtL K b τ p d ts vs:=by
   intro ts
   induction ts with
   |nil=>intro d vs _ h;simpa only[TAtL]using h
   |cons t ts m=>
    intro d vs o h;simp only[TAtL]at h⊢;obtain⟨v,vs,rfl,f,g⟩:=h;exact⟨v,vs,rfl,TAt.monoP k (λq a z=>e d (by exact aaX ‹_›) q a (by simpa using z)) f,m (by omega) g⟩
  exact this (abI i) g
 |t::ts,i,j+1,xs,h,c,e=>by
  simp only[TAtL]at h;obtain⟨v,vs,rfl,f,g⟩:=h;exact⟨v,vs,rfl,TAt.monoP k (λq a z=>e i (by simp) q a (by simpa using z)) f,TAtL.setL k g (λn z=>by rw[show i+1+j=i+(j+1) by omega];exact c n (by simpa using z)) λl o=>e l (by omega)⟩
theorem TAtK.rest(d:Pers H b){i:Nat}(e:∀l,l≠i->∀q a,τ.lookup (p++l::q)=some a->b a=H a):∀{ts:List (dL×dL)}{c:Nat}{vs:List (Key×V)},i<c->TAtK K H τ p c ts vs->TAtK K b τ p c ts vs
 |[],_,_,_,h=>by simpa[TAtK]
 |_::ts,c,vs,hl,h=>by
  obtain⟨k,v,vs,rfl,j,f,g⟩:=h;exact⟨k,v,vs,rfl,j,TAt.monoP d (λq a z=>e c (by exact aaX ‹_›) q a (by simpa using z)) f,TAtK.rest d e (by omega) g⟩
theorem TAtK.setK(f:Pers H b){t':dL}:∀{ts:List (dL×dL)}{i j:Nat}{xs:List (Key×V)}{d m:dL},TAtK K H τ p i ts xs->ts[j]?=some (d,m)->(∀v,(∃kk,xs[j]?=some (kk,v))->TAt K b τ (p++[i+j]) t' v)->(∀l,l≠i+j->∀q a,τ.lookup (p++l::q)=some a->b a=H a)->TAtK K b τ p i (ts.set j (d,t')) xs
 |[],_,_,_,_,_,_,z,_,_=>by simp at z
 |(k,t)::ts,i,0,xs,d,m,h,z,c,e=>by
  simp at z;obtain⟨rfl,rfl⟩:=z;simp only[TAtK]at h;obtain⟨kk,v,vs,rfl,o,_,g⟩:=h;exact⟨kk,v,vs,rfl,o,c v ⟨kk,rfl⟩,TAtK.rest f e (abI i) g⟩
 |(k,t)::ts,i,j+1,xs,d,m,h,z,c,e=>by
  obtain⟨kk,v,vs,rfl,o,r,g⟩:=h;exact⟨kk,v,vs,rfl,o,TAt.monoP f (λq a z=>e i (by omega) q a (by simpa using z)) r,TAtK.setK f g (by simpa using z) (by rintro s ⟨n,z⟩;rw[show i+1+j=i+(j+1) by omega];exact c s ⟨n,by simpa using z⟩) λl u=>e l (by omega)⟩
end
theorem u3(nd:(τ.map (·.2)).Nodup){q:List Nat}(c:τ.lookup p=some a)(h:τ.lookup q=some a):p=q:=by
 induction τ with
 |nil=>cases c
 | cons x τ i=>
  obtain⟨r,b⟩:=x;rw[aau,aaQ]at nd;rw[ack]at c h
  by_cases d:p==r
  .rw[d]at c;cases c
   by_cases e:q==r
   .simp_all
   .simp only[af8]at e;rw[e]at h;exact(nd.1 (bt h)).elim
  .simp only[af8]at d;rw[d]at c
   by_cases e:q==r
   .rw[e]at h;cases h;exact(nd.1 (bt c)).elim
   .simp only[af8]at e;rw[e]at h;exact i nd.2 c h
noncomputable def Au:dL->dL->Bool
 | .int a,.int b=>decide (a=b)
 | .str a,.str b=>decide (a=b)
 |_,_=>false
theorem qy(a b:Key):Au (keyD a) (keyD b)=decide (a=b):=by
 cases a<;>cases b<;>simp[keyD,Au]
noncomputable def putD(k t:dL):List (dL×dL)->List (dL×dL)
 |[]=>[(k,t)]
 |(k',t')::r=>if Au k' k=true then(k',t)::r else(k',t')::putD k t r
noncomputable def lfD:dL->dL
 | .list ds=>.dict [(.none,.list ds)]
 | .dict ds=>.dict [(.none,.dict ds)]
 |d=>d
theorem tx(h:isKd kvs=true):fzOf kvs=none/\excC kvs=none:=by
 cases kvs with
 |nil=>exact⟨rfl,rfl⟩
 |cons x r=>
  obtain⟨k,d⟩:=x
  cases k with
  |int _=>exact⟨rfl,rfl⟩
  |str _=>exact⟨rfl,rfl⟩
  |none=>simp[isKd]at h
  |bool _=>simp[isKd]at h
  |list _=>simp[isKd]at h
  |tuple _=>simp[isKd]at h
  |dict _=>simp[isKd]at h
section
variable {K:Kd}{H:Hp}{τ:List (List Nat×Addr)}{p:List Nat}
theorem TAtK.get':∀{ts:List (dL×dL)}{i j:Nat}{xs:List (Key×V)}{k t:dL},TAtK K H τ p i ts xs->ts[j]?=some (k,t)->∃kk v,xs[j]?=some (kk,v)/\k=keyD kk/\TAt K H τ (p++[i+j]) t v
 |[],_,_,_,_,_,_,e=>by simp at e
 |(k,t)::ts,i,0,xs,k',t',h,e=>by
  obtain⟨u,v,vs,rfl,f,a,_⟩:=h;simp at e;obtain⟨rfl,rfl⟩:=e;exact⟨u,v,rfl,f.1,a⟩
 |(k,t)::ts,i,j+1,xs,k',t',h,e=>by
  obtain⟨u,v,vs,rfl,_,_,g⟩:=h;obtain⟨kk,c,l,d,b⟩:=TAtK.get' (j:=j) g ‹_›;exact⟨kk,c,by simpa using l,d,by rw[show i+(j+1)=i+1+j by omega];exact b⟩
theorem TAtK.kd:∀{ts:List (dL×dL)}{i:Nat}{xs:List (Key×V)},TAtK K H τ p i ts xs->isKd ts=true
 |[],_,_,_=>rfl
 |_::ts,i,xs,h=>by
  obtain⟨u,v,vs,rfl,a,_,g⟩:=h;have:=g.kd;unfold isKd at this⊢;rw[acS,this,a.1]
  cases u<;>rfl
theorem TAtK.len:∀{ts:List (dL×dL)}{i:Nat}{xs:List (Key×V)},TAtK K H τ p i ts xs->ts.length=xs.length
 |[],_,_,h=>by simp[TAtK]at h;subst h;rfl
 |(k,t)::ts,i,xs,h=>by
  obtain⟨u,v,vs,rfl,a,_,g⟩:=h;simp[g.len]
theorem rf{u:Key}{w:V}(c:u≠kk):putK ((u,w)::vs) kk v=(u,w)::putK vs kk v:=by
 unfold putK
 grind
theorem qZ{w:V}(h:∀x∈vs,x.1≠kk):putK ((kk,w)::vs) kk v=(kk,v)::vs:=by
 unfold putK;rw[afT,decide_eq_true (rfl),Bool.true_or,if_pos rfl,aau,if_pos rfl]
 congr 1
 exact(aff λx a=>if_neg (h x a)).trans (aeg _)
theorem D8{x:Key×V}(h:x∈putK vs kk v):x.1=kk\/∃y∈vs,y.1=x.1:=by
 unfold putK at h
 split at h
 .obtain⟨y,h1,h2⟩:=aac.mp h;subst h2;refine .inr ⟨y,h1,?_⟩
  split<;>rfl
 .obtain h|h:=aaK.mp h
  .exact .inr ⟨x,h,rfl⟩
  .cases OR.mp h
   exact .inl rfl
theorem TAtK.put{t':dL}{v':V}(c:∀j,TAt K H τ (p++[j]) t' v'):∀{ts:List (dL×dL)}{i:Nat}{xs:List (Key×V)},TAtK K H τ p i ts xs->TAtK K H τ p i (putD (keyD kk) t' ts) (putK xs kk v')
 |[],i,xs,h=>by
  simp only[TAtK]at h;subst h;exact⟨kk,v',[],rfl,⟨rfl,λx a=>by cases a⟩,c i,rfl⟩
 | (k,t)::ts,i,xs,h=>by
  obtain⟨u,v,vs,rfl,g,d,b⟩:=h;obtain⟨rfl,g⟩:=g;simp only[putD,qy]
  by_cases e:u=kk
  .subst e;rw[if_pos (decide_eq_true rfl),qZ g];simp only[TAtK];exact⟨u,v',vs,rfl,⟨rfl,g⟩,c i,b⟩
  .rw[if_neg (by simpa using e),rf e];simp only[TAtK];refine⟨u,v,_,rfl,⟨rfl,λx a=>?_⟩,d,b.put c⟩;rcases D8 a with z|⟨y,f,z⟩
   .rw[z];exact λw=>e w.symm
   .rw[<-z];exact g y f
theorem BV{d:dL}(h:Den K H d v):TAt K H τ p (lfD d) v:=by
 cases d with
 |list ds=>simp[lfD];exact .inl ⟨_,rfl,h⟩
 |dict ds=>simp[lfD];exact .inl ⟨_,rfl,h⟩
 |none=>simpa[ TAt]
 |bool _=>simpa[lfD]
 |int _=>simpa[ TAt]
 |str _=>simpa[lfD]
 |tuple _=>simpa[ TAt]
theorem TAt.kd(h:TAt K H τ p (.dict kvs) v)(e:isKd kvs=true):∃a es,τ.lookup p=some a/\v = .ref a/\H a=some (.dK es)/\TAtK K H τ p 0 kvs es:=by
 obtain _:=tx e;rcases h with _|⟨_,_,b,es,f,d,c,k,g⟩|⟨_,_,b,es,f,d,c,g⟩|_
 .simp_all
 .rw[k.1]at e;cases e
 .exact⟨b,es,f,d,c,g⟩
 .simp_all
end
noncomputable def okW:dL->List Nat->Bool
 |_,[]=>true
 | .list ts,i::q=>okW (ts.getD i .none) q
 | .dict kvs,i::q=>(isKd kvs||(excC kvs).isSome)&&okW (kvs.getD i (.none,.none)).2 q
 |_,_::_=>false
theorem C5{i:Nat}{k t':dL}(h:isKd kvs=true)(e:kvs[i]?=some (k,t)):isKd (kvs.set i (k,t'))=true:=by
 unfold isKd at h⊢;rw[abJ]at h⊢;intro x a;rcases afE a with z|z
 .exact h x z
 .subst z;exact h (k,t) (DL e)
theorem TAtF.restF{K:Kd}{H g:Hp}{τ:List (List Nat×Addr)}{p:List Nat}(c:Pers H g){i:Nat}(e:∀l,l≠i->∀q a,τ.lookup (p++l::q)=some a->g a=H a):∀{ts:List (dL×dL)}{b:Nat}{vs:List (Str×V)},i<b->TAtF K H τ p b ts vs->TAtF K g τ p b ts vs
 |[],_,_,_,h=>by simpa only[TAtF]
 |(.str f,t)::ts,b,vs,hl,h=>by
  obtain⟨v,vs,rfl,k,j⟩:=h;exact⟨v,vs,rfl,TAt.monoP c (λq a z=>e b (by omega) q a (by simpa using z)) k,TAtF.restF c e (by omega) j⟩
 |(.none,d)::r,_,_,hl,h=>by simp only[TAtF];exact TAtF.restF c e (by omega) h
 |(.bool _,d)::r,_,_,_,h=>by simp[TAtF]at h
 |(.int _,d)::r,_,_,_,h=>by simp only[TAtF]at h
 |(.list _,d)::r,_,_,_,h=>by simp only[TAtF]at h
 |(.tuple _,d)::r,_,_,_,h=>by simp[TAtF]at h
 |(.dict _,d)::r,_,_,_,h=>by simp[TAtF]at h
theorem TAtF.setF{K:Kd}{H g:Hp}{τ:List (List Nat×Addr)}{p:List Nat}(m:Pers H g){t' w:dL}{u:Str}:∀{ts:List (dL×dL)}{i j:Nat}{xs:List (Str×V)},TAtF K H τ p i ts xs->ts[j]?=some (.str u,w)->(∀v,TAt K H τ (p++[i+j]) w v->TAt K g τ (p++[i+j]) t' v)->(∀l,l≠i+j->∀q a,τ.lookup (p++l::q)=some a->g a=H a)->TAtF K g τ p i (ts.set j (.str u,t')) xs
 |[],_,_,_,_,z,_,_=>by simp at z
 |(k,t)::ts,i,0,xs,h,z,c,e=>by
  simp at z;obtain⟨rfl,rfl⟩:=z;simp only[TAtF]at h;obtain⟨v,vs,rfl,o,n⟩:=h;simp only[List.set_cons_zero,TAtF];exact⟨v,vs,rfl,c v o,TAtF.restF m e (abI i) n⟩
 |(.str f,t)::ts,i,j+1,xs,h,z,c,e=>by
  simp only[TAtF]at h;obtain⟨v,vs,rfl,o,n⟩:=h;exact⟨v,vs,rfl,TAt.monoP m (λq a z=>e i (by omega) q a (by simpa using z)) o,TAtF.setF m n (by simpa using z) (λs b=>by rw[show i+1+j=i+(j+1) by omega]at b⊢;exact c s b) λl x=>e l (by omega)⟩
 |(.none,d)::ts,i,j+1,xs,h,z,c,e=>by
  simp only[TAtF]at h;simp only[List.set_cons_succ,TAtF];exact TAtF.setF m h (by simpa using z) (λs b=>by rw[show i+1+j=i+(j+1) by omega]at b⊢;exact c s b) λl x=>e l (by omega)
 |(.bool _,d)::r,_,_+1,_,h,_,_,_=>by simp only[TAtF]at h
 |(.int _,d)::r,_,_+1,_,h,_,_,_=>by simp only[TAtF]at h
 |(.list _,d)::r,_,_+1,_,h,_,_,_=>by simp only[TAtF]at h
 |(.tuple _,d)::r,_,_+1,_,h,_,_,_=>by simp only[TAtF]at h
 |(.dict _,d)::r,_,_+1,_,h,_,_,_=>by simp only[TAtF]at h
theorem TAt.ins{c:Str}(h:TAt K H τ p (.dict kvs) v)(e:excC kvs=some c):∃a dx C xs,τ.lookup p=some a/\v = .ref a/\H a=some (.ins C dx xs)/\ClsN K c C/\TAtF K H τ p 0 kvs xs:=by
 have b:fzOf kvs=none:=by
  unfold excC at e
  split at e
  .rfl
  .cases e
 simp only[TAt]at h
 grind
theorem Fv{i:Nat}{x:dL×dL}{c:Str}{k:dL}(h:excC kvs=some c)(e:kvs[i]?=some (k,t))(a:k≠.none):excC (kvs.set i x)=some c:=by
 cases kvs with
 |nil=>cases h
 | cons y r=>
  cases i with
  |zero=>
   simp;unfold excC at h
   simp_all
  |succ i=>
   unfold excC at h⊢
   split at h
   .rename_i z;simp at z;obtain⟨rfl,rfl⟩:=z;exact h
   .cases h
theorem TAt.set{K:Kd}{H:Hp}{τ:List (List Nat×Addr)}(nd:(τ.map (·.2)).Nodup){a:Addr}{o:HO}{n:dL}(L:Pers H (upd H a o)):∀{q p:List Nat}{t M:dL}{v:V},TAt K H τ p t v->getT t q=some M->okW t q=true->τ.lookup (p++q)=some a->TAt K (upd H a o) τ (p++q) n (.ref a)->(∀u,TAt K H τ (p++q) M u->u = .ref a)->TAt K (upd H a o) τ p (setT t q n) v
 |[],p,t,M,v,h,e,_,_,hn,hu=>by
  cases e;rw[aaV]at hn hu;rw[hu v h];unfold setT;exact hn
 | i::q,p,t,M,v,h,e,ok,ea,hn,hu=>by
  have f:∀(r:List Nat) (b:Addr),τ.lookup r=some b->r≠p++i::q->(upd H a o) b=H b:=λr b z ne=>ag λeb=>by
   subst eb;exact ne (u3 nd z ea)
  have E:τ.lookup ((p++[i])++q)=some a:=by simpa using ea
  have G:TAt K (upd H a o) τ ((p++[i])++q) n (.ref a):=by simpa using hn
  have F:∀u,TAt K H τ ((p++[i])++q) M u->u = .ref a:=λu z=>hu u (by simpa using z);simp only[getT]at e
  cases z:chD t i with
  |none=>rw[z]at e;cases e
  | some O=>
   rw[z]at e;have W:getT O q=some M:=e;have I:∀l,l≠0+i->∀r b,τ.lookup (p++l::r)=some b->(upd H a o) b=H b:=λl hl r b R=>f _ _ R λy=>by
    have:=List.append_cancel_left y;injection this with h1 _
    omega
   have self:∀b,τ.lookup p=some b->(upd H a o) b=H b:=λb R=>f _ _ R λy=>by
    have:=congrArg aeS y;simp at this
   cases t with
   |list ts=>
    have d:ts[i]?=some O:=z;have J:ts.getD i .none=O:=by rw[aar,d];rfl
    simp only[TAt]at h;obtain⟨b,Q,A,D,N,g⟩:=h;simp only[setT,J,TAt];refine⟨b,Q,A,D,(self b A).trans N,TAtL.setL L g (λX S=>?_) I⟩;obtain⟨v2,m,B⟩:=g.get (j:=i) d;rw[S]at m;cases m;rw[ac5]at B⊢;exact TAt.set nd L B W (by simp only[okW,J]at ok;exact ok) E G F
   | dict x=>
    simp only[chD]at z
    cases d:x[i]? with
    |none=>rw[d]at z;cases z
    |some Z=>
     obtain⟨k,P⟩:=Z;rw[d]at z;have Y:k≠.none:=λw=>by subst w;cases z
     have D:P=O:=by split at z<;>simp_all
     subst D;have J:x.getD i (.none,.none)=(k,P):=by rw[aar,d];rfl
     simp only[okW,J,aaZ,agz]at ok;rcases ok.1 with s|s
     .obtain⟨b,es,A,D,N,g⟩:=h.kd s;have U:isKd (x.set i (k,setT P q n))=true:=C5 s d;obtain⟨n1,n2⟩:=tx U;simp only[setT,J,TAt];refine .inr (.inr (.inl ⟨n1,n2,b,es,A,D,(self b A).trans N,TAtK.setK L g d (λX ⟨kk,S⟩=>?_) I⟩));obtain⟨kk2,v2,m,_,B⟩:=g.get' (j:=i) d;rw[S]at m;cases m;rw[ac5]at B⊢;exact TAt.set nd L B W ok.2 E G F
     .obtain⟨c,ec⟩:=afR.mp s;obtain⟨b,dx,C,Q,A,D,N,kc,g⟩:=h.ins ec;obtain⟨f0,rfl⟩:=g.key (DL d) Y;have T:excC (x.set i (.str f0,setT P q n))=some c:=Fv ec d Y;simp only[setT,J,TAt];refine .inr (.inr (.inr ⟨c,b,dx,C,Q,T,A,D,(self b A).trans N,kc,TAtF.setF L g d (λX B=>?_) I⟩));rw[ac5]at B⊢;exact TAt.set nd L B W ok.2 E G F
   |none=>cases z
   |bool _=>cases z
   |int _=>cases z
   |str _=>cases z
   |tuple _=>cases z
noncomputable def onAt(P:Nat->List Nat->Prop):R->Prop
 | .at k p=>P k p
 |_=>False
noncomputable def Bv(P:dL->Prop):R->Prop
 | .imm (.int i)=>P (.int i)
 | .imm (.str x)=>P (.str x)
 |_=>False
section
variable {K:Kx}{b:Al}{c H:Hp}{r:R}{v:V}{m:MSt}{d:St}
theorem Qe{P:Nat->List Nat->Prop}(rr:RelR K b c H r v)(h:onAt P r):∃k p τ a,r = .at k p/\b[k]?=some (.T τ)/\τ.lookup p=some a/\v = .ref a/\P k p:=by
 unfold onAt at h
 split at h
 .obtain⟨τ,a,e1,e2,e3⟩:=rr;exact⟨_,_,τ,a,rfl,e1,e2,e3,h⟩
 .simp_all
theorem OM{P:dL->Prop}(rr:RelR K b c H r v)(h:Bv P r):∃kk:Key,r = .imm (keyD kk)/\v=kV kk/\P (keyD kk):=by
 unfold Bv at h
 split at h
 .rename_i i;exact⟨.inl i,rfl,aF (show Den K H _ v from rr),h⟩
 .rename_i x;exact⟨.inr x,rfl,bv (show Den K H _ v from rr),h⟩
 .simp_all
theorem Rel.dict(R:Rel K b m d H){k:Nat}(j:b[k]?=some (.T τ))(l:τ.lookup p=some a)(f:m.os[k]?=some [t])(h:getT t p=some (.dict kvs))(i:isKd kvs=true) :
  ∃es,H a=some (.dK es)/\TAtK K H τ p 0 kvs es:=by
 obtain⟨⟨n,q,z,g,_⟩,_⟩:=R.own k _ _ j f;cases z;obtain⟨o,e⟩:=g.get h;obtain _:=e.kd i
 simp_all
end
section
variable {X:Cx}{o i e:Expr}{w f h:WE}{pos c:Pos}
noncomputable def UI(m:MSt)(k:Nat)(p:List Nat)(y d:dL)(P:dL->Prop):Prop:=∃t a,m.os[k]?=some [t]/\getT t p=some (.dict a)/\isKd a=true/\okW t p=true/\a.length<aag/\P (setT t p (.dict (putD y (lfD d) a)))
noncomputable def JJ(h w f:WE):WS:=λD m=>h m λg m1=>cx (λd=>w m1 λb m2=>f m2 λr a=>onAt (λk p=>Bv (λy=>UI a k p y d λt=>D.nx {a with os:=a.os.set k [t]}) r) b) g
theorem JF(hu:X.A.units+64<cLine)(he:ME X e h)(ho:ME X o w)(hi:ME X i f)(hs:abH e (some (.Subscript o i c)) pos.line X.env=pure false:=by rfl):MS X (.Assign [.Subscript o i c] e pos) (JJ h w f):=(Ol (by omega) ho hi he hs).wk<|by
 rintro D σ H ⟨B,m,De,Rl,hw,k⟩;refine⟨B,m,_,Rl,hw,λr m1 v H1 q n1 x rr F1=>?_⟩;obtain⟨d,er,hd,q⟩:=dB rr q;refine⟨B,m1,_,x,q,λro m2 ov H2 q2 n2 s N Y=>⟨B,m2,_,s,q2,λri m3 iv C G n3 R O S=>?_⟩⟩;obtain⟨kk,p,F,a,rfl,I,n,rfl,G⟩:=Qe N G;obtain⟨y,rfl,rfl,t,l,T,e4,W,e6,e7,G⟩:=OM O G;obtain⟨J,ed,U⟩:=R.dict I n T e4 W;have Q:Den X.kx C d v:=(hd.mono (x.pers Y)).mono (s.pers S);obtain⟨⟨t1,v0,z,g,a0,M,L⟩,mu⟩:=R.own kk (.T F) _ I T;cases z;have K:Pers C (upd C a (.dK (putK J y v))):=bf (.inr ⟨_,ed,rfl⟩);have nd:(F.map (·.2)).Nodup:=((g9 B).mp R.nd).1 (.T F) (DL I);have P:TAtK X.kx (upd C a (.dK (putK J y v))) F p 0 l J:=TAtK.monoP K (λi q b zb=>ag λeb=>by
  subst eb;have:=congrArg aeS (u3 nd zb n);simp at this) U
 have new:TAt X.kx (upd C a (.dK (putK J y v))) F p (.dict (putD (keyD y) (lfD d) l)) (.ref a):=by
  have Z:=P.put (kk:=y) (t':=lfD d) (v':=v) λj=>BV (Q.mono K);obtain⟨z1,z2⟩:=tx Z.kd;simp only[TAt];exact .inr (.inr (.inl ⟨z1,z2,a,_,n,rfl,ai,Z⟩))
 have all:=TAt.set nd K g e4 e6 (by rw[ae3];exact n) (by rw[ae3];exact new) λu E=>by
  rw[ae3]at E;obtain⟨a',es',A,eu,_⟩:=E.kd W;rw[n]at A;cases A;exact eu
 obtain⟨V,F4⟩:=R.setW I K (ds':=[setT t p (.dict (putD (keyD y) (lfD d) l))]) (λb hb=>ag λeb=>hb (eb▸bt n)) ⟨⟨_,v0,rfl,all,a0,M,L⟩,λb hb=>by
  by_cases eb:b=a
  .subst eb;exact⟨_,ai,rfl⟩
  .rw[ag eb];exact mu b hb⟩
 exact⟨a,_,rfl,DPut.k ed (by rw[<-U.len];exact e7),k.nx B _ σ _ G (n3.trans (n2.trans n1)) V (.of V (((F1.trans Y).trans S).trans F4))⟩
noncomputable def lfKV(kvs:List (dL×dL)):List (dL×dL):=kvs.map λk=>(k.1,lfD k.2)
end
section
variable {m:MSt}{Q:R->MSt->Prop}{w a b:WE}{D:cV}
theorem O7{P:Nat->List Nat->Prop}{k:Nat}(h:P k p):onAt P (.at k p):=h
theorem u8{P:dL->Prop}(h:P (.str x)):Bv P (.imm (.str x)):=h
theorem RJ(h:b m λf m1=>cx (λd=>w m1 λe m2=>a m2 λr c=>onAt (λk p=>Bv (λy=>UI c k p y d λt=>D.nx {c with os:=c.os.set k [t]}) r) e) f):JJ b w a D m:=h
theorem gm{P:MSt->Prop}(h:P {vs:=m.vs.set n (some (.at m.os.length [])),os:=m.os++[[t]],np:=m.np}):oN n P m (.newT t):=.inl h
end
section
variable {X:Cx}{o i e:Expr}{w a b:WE}{pos p:Pos}
theorem FQ(d:X.A.units+64<cLine)(h:EE X e b)(ho:EE X o w)(c:EE X i a)(hs:abH e (some (.Subscript o i p)) pos.line X.env=pure false:=by rfl):ES X (.Assign [.Subscript o i p] e pos) (JJ b w a):=⟨JF d h.h ho.h c.h hs⟩
end
noncomputable def isFz:HO->Bool
 | .lst _=>true
 | .dK _=>true
 | .ext _=>true
 |_=>false
section
variable {X:Cx}{p:List (Addr×Obj)}{d:St}{H:Hp}{s:oR}
theorem Inv.freezeU{u:HO}(I:Inv X p d H s)(h:H a=some u)(f:isFz u=true):∃o,Inv X p d (upd H a (.frz o u)) s:=by
 have ok:=I.hok a u h;obtain⟨o,e⟩:∃o,s.heap.get? a=some o:=by
  cases u with
  |lst l=>obtain⟨_,i,n,_,e⟩:=ok;exact⟨_,e⟩
  |dK k=>obtain⟨_,_,vs,_,o,_,_,e,_⟩:=ok;exact⟨_,e⟩
  |ext j=>exact ok.2.1
  |_=>cases f
 have g:∀{b:Addr}{v:HO},H b=some v->v≠u->b≠a:=λq z=>rQ q h z;refine⟨o,I.un (h':=s.heap) (t':=s.toks) ⟨λb ob q _ _ _=>q,λb ob q _ _ _=>⟨ob.slots,q⟩,λb ob q z _=>?_,λb ob q _=>⟨ob,q⟩,λb y q=>?_,λb ob v q=>?_,λb ps q=>⟨#[],?_⟩⟩ λb ob q=>?_⟩
 .rw[ag (aa5 (aP h z))];exact z
 .rw[ag (g q (by intro z;subst z;cases f))];exact q
 .rw[ag (g q (by intro z;subst z;cases f))];exact q
 .rw[ag (g q (by intro z;subst z;cases f)),q];simp
 .have stay:∀{c:Addr}{v:HO},ObjOk X.prog X.w H s.heap c v->ObjOk X.prog X.w (upd H a (.frz o u)) s.heap c v:=λx=>x.stay (λ_ _ _ z=>z) (λc z=>by rw[ag (g z (by intro z;subst z;cases f))];exact z) λc y z=>by rw[ag (g z (by intro z;subst z;cases f))];exact z
  by_cases hb:b=a
  .subst hb;rw[ai]at q;cases q;exact⟨e,stay ok⟩
  .rw[ag hb]at q;exact stay (I.hok b ob q)
end
noncomputable def tFrz(t:TS):TS:=λD b H=>∃a u,H a=some u/\isFz u=true/\∀o,t D b (upd H a (.frz o u))
section
variable {X:Cx}{st:Stmt}{w:WS}
theorem Uy{t:TS}(h:PS X st t):PS X st (tFrz t):=by
 rintro p s d H D I ⟨a,u,e,b,q⟩;obtain⟨o,c⟩:=I.freezeU e b;exact h p s d _ D c (q o)
theorem Dj{K:Kx}{m:MSt}(R:Rel K α m σ H)(N:Ren ρ m m2):Rel K (ρ.map λk=>α.getD k (.L 0)) m2 σ H/\Ext m.np α H (ρ.map λk=>α.getD k (.L 0)) H:=by
 have y:=gq R.len N.lt;have get:∀(k:Nat) (b:Ao),(ρ.map λk=>α.getD k (.L 0))[k]?=some b->∃j:Nat,ρ[k]?=some j/\α[j]?=some b:=λk b z=>by
  obtain⟨j,G,I⟩:=Paired.get2 y z;exact⟨j,G,I⟩
 have f:∀(k j:Nat) (b:Ao),ρ[k]?=some j->α[j]?=some b->(ρ.map λk=>α.getD k (.L 0))[k]?=some b:=λk j b u s=>by
  obtain⟨F,L,B⟩:=Paired.get' y u;rw[s]at B;cases B;exact L
 have i:(ρ.map λk=>α.getD k (.L 0)).take m.np=α.take m.np:=by
  apply acG;intro l;rw[aaR,aaR]
  by_cases c:l<m.np
  .rw[if_pos c,if_pos c];have:ρ[l]?=some l:=by
    have e:=congrArg (·[l]?) N.pre;simp only[aaR,if_pos c]at e;rw[e,acL c]
   have n:l<α.length:=aah c R.npl;rw[f l l α[l] this (iO n),iO n]
  .rw[if_neg c,if_neg c]
 have ext:Ext m.np α H (ρ.map λk=>α.getD k (.L 0)) H:=⟨i,Frm.refl _ _,λa ha=>by
  obtain⟨k,b,O,C⟩:=gF ha;obtain⟨j,_,D⟩:=get k b O;exact .inl (ip D C),λa ha=>by
  obtain⟨o,q,_⟩:=R.mem ha;exact⟨_,q⟩⟩
 refine⟨⟨dI R.nd N.nd y,?_,λk b ds u s=>?_,?_,λj r z=>?_,?_,by rw[N.np];exact R.ebl,R.ebx.trans (ext.less R.ebl)⟩,ext⟩
 .rw[N.os,gE,gE]
 .obtain⟨j,q,qa⟩:=get k b u;rw[N.os,aae,q]at s;have E:j<m.os.length:=N.lt j (DL q);have t:m.os.getD j []=ds:=aal s;refine R.own j b ds qa ?_;rw[<-t,aar,iO E];rfl
 .rw[N.vl];exact R.vlen
 .have h:=N.vs j r z
  cases r with
  |imm d=>exact R.var j (.imm d) h
  |new _=>exact h.elim
  |newT _=>exact h.elim
  |obj k=>
   obtain⟨g,q,h⟩:=h;obtain⟨v,x,a,A,e⟩:=R.var j (.obj g) h;exact⟨v,x,a,f k g _ q A,e⟩
  | «at» k p=>
   obtain⟨g,q,h⟩:=h;obtain⟨v,x,J,a,A,M,e⟩:=R.var j (.at g p) h;exact⟨v,x,J,a,f k g _ q A,M,e⟩
 .rw[N.np,gE];exact N.npl
structure Fz(k:Nat)(dd:dL)(ρ:List Nat)(m m2:MSt):Prop where
 nd:ρ.Nodup
 lt:∀k∈ρ,k<m.os.length
 out:k∉ρ
 pre:ρ.take m.np=aaH m.np
 npl:m.np≤ρ.length
 npk:m.np≤k
 os:m2.os=ρ.map λk=>m.os.getD k []
 np:m2.np=m.np
 vl:m2.vs.length=m.vs.length
 vs:∀(j:Nat) (r:R),m2.vs[j]?=some (some r)->RenR ρ m.vs[j]? r\/(r = .imm dd/\(m.vs[j]?=some (some (.obj k))\/m.vs[j]?=some (some (.at k []))))
noncomputable def Fz.ren{k:Nat}{d:dL}{b:List Nat}{m m2:MSt}(F:Fz k d b m m2):∃a,Ren b m a/\a.np=m2.np/\a.os=m2.os/\a.vs.length=m2.vs.length/\∀(j:Nat) (r:R),m2.vs[j]?=some (some r)->a.vs[j]?=some (some r)\/(r = .imm d/\(m.vs[j]?=some (some (.obj k))\/m.vs[j]?=some (some (.at k [])))):=by
 classical
 refine⟨{m2 with vs:=m2.vs.mapIdx λj o=>match o with|some r=>if RenR b m.vs[j]? r then some r else none|none=>none},⟨F.nd,F.lt,F.pre,F.npl,F.os,F.np,by rw[<-F.vl];simp,λj r z=>?_⟩,rfl,rfl,by simp,λj r z=>?_⟩
 .simp only[agP]at z
  cases q:m2.vs[j]? with
  |none=>rw[q]at z;cases z
  | some o=>
   rw[q]at z
   cases o with
   |none=>cases z
   |some c=>
    simp only[ac2,ahv]at z
    split at z
    .cases z;assumption
    .cases z
 .rcases F.vs j r z with h|h
  .left;simp only[agP,z,ac2,if_pos h]
  .exact .inr h
theorem uo{m:MSt}{l:cV}{k:Nat}{C:dL}{ao:Ao}{u:HO}(c:Rel X.kx α m σ H)(O:EndsOk X.kx m.np α H l D)(F:Fz k C ρ m m2)(E:α[k]?=some ao)(B:a∈ao.ads)(A:H a=some u)(t:isFz u=true)(Q:Mu u=true)
  (p:∀o,Pers H (upd H a (.frz o u))->Den X.kx (upd H a (.frz o u)) C (.ref a)) (name:∀(j:Nat) (v:V),(m.vs[j]?=some (some (.obj k))\/m.vs[j]?=some (some (.at k [])))->σ[j]?=some (some v)->v = .ref a) (U:w l m2):tFrz (tMS X.kx w) D σ H:=by
 obtain⟨W,N,f,d,g,q⟩:=F.ren;obtain⟨S,s⟩:=Dj c N;refine⟨a,u,A,t,λo=>?_⟩;have I:Pers H (upd H a (.frz o u)):=bf (.inr ⟨u,A,Q⟩);have y:a∈ads α:=ip E B;have out:a∉ads _:=λz=>by
  obtain⟨i,x,M,J⟩:=gF z;obtain⟨j,K,L⟩:=Paired.get2 (gq c.len N.lt) M;exact gw c.nd E L (λz=>F.out (z▸DL K)) B J
 have G:Ext m.np α H (ρ.map λk=>α.getD k (.L 0)) (upd H a (.frz o u)):=⟨s.pre,λb ob e n=>by rw[ag (λz=>n (by rw[z];exact y))];exact e,s.new,λb hb=>by
  by_cases eb:b=a
  .subst eb;exact⟨_,ai⟩
  .rw[ag eb];exact s.old b hb⟩
 have R:=S.at' I (λb hb=>ag λz=>out (z▸hb)) (c.ebx.trans (G.less c.ebl));refine⟨_,m2,l,⟨R.nd,by rw[R.len,d],λk ao ds P T=>R.own k ao ds P (by rw[d];exact T),by rw[R.vlen,g],λj r z=>?_,by rw[<-f];exact R.npl,by rw[<-f];exact R.ebl,R.ebx⟩,U,by rw[F.np];exact O.ext G⟩;rcases q j r z with h|⟨rfl,h⟩
 .exact R.var j r h
 .obtain⟨v,ev⟩:∃v,σ[j]?=some (some v):=by
   rcases h with h|h
   .obtain⟨v,ev,_⟩:=c.var j _ h;exact⟨v,ev⟩
   .obtain⟨v,ev,_⟩:=c.var j _ h;exact⟨v,ev⟩
  refine⟨v,ev,?_⟩;rw[name j v h ev];exact p o I
theorem Cu(d:dL):yv (lfD d)=some d:=by cases d<;>rfl
theorem fzKK{K:Kd}{H:Hp}{τ:List (List Nat×Addr)}{p:List Nat}:∀{kvs:List (dL×dL)}{i:Nat}{es:List (Key×V)},TAtK K H τ p i (lfKV kvs) es->DenKK K H kvs es
 |[],_,_,h=>by simpa[ TAtK]
 |(k,d)::r,i,es,h=>by
  obtain⟨c,v,vs,rfl,b,a,g⟩:=h;exact⟨c,v,vs,rfl,b,ju a (Cu d),fzKK g⟩
noncomputable def wFzK(w:WS):WS:=λD m=>∃(k j:Nat) (a:List (dL×dL)) (b:List Nat) (m2:MSt),m.vs[j]?=some (some (.at k []))/\m.os[k]?=some [.dict (lfKV a)]/\isKd (lfKV a)=true/\Fz k (.dict a) b m m2/\w D m2
theorem SE(h:MS X st w):MS X st (wFzK w):=(Uy h).wk<|by
 rintro D B H ⟨x,m,y,R,⟨k,n,l,z,m2,s,p,kd,F,t⟩,d⟩;obtain⟨v,u,A,a,e,c,rfl⟩:=R.var n _ s;obtain⟨i,f,g⟩:=R.dict e c p rfl kd;refine uo R d F e (bt c) f rfl rfl (λo q=>?_) (λj v b r=>?_) t
 .exact⟨a,rfl,.inr (.inl ⟨i,o,ai,(fzKK g).mono q⟩)⟩
 .rcases b with b|b
  .obtain⟨v',ev',a',ea',_⟩:=R.var j _ b
   grind
  .obtain⟨v',ev',τ',a',ea',el',rfl⟩:=R.var j _ b
   grind
theorem NU(h:ES X st w):ES X st (wFzK w):=⟨SE h.h⟩
end
noncomputable def FzVs(k:Nat)(d:dL)(a:List Nat):List (Option R)->List (Option R)->Prop
 |o::os,q::qs=>(RenO a o q\/(q=some (.imm d)/\(o=some (.obj k)\/o=some (.at k []))))/\FzVs k d a os qs
 |[],[]=>True
 |_,_=>False
theorem FzVs.len{k:Nat}{d:dL}{a:List Nat}:∀{os q:List (Option R)},FzVs k d a os q->q.length=os.length
 |[],[],_=>rfl
 |_::_,_::_,h=>congrArg (· + 1) (FzVs.len h.2)
 |[],_::_,h=>h.elim
 |_::_,[],h=>h.elim
theorem FzVs.get{k:Nat}{d:dL}{b:List Nat}:∀{os a:List (Option R)},FzVs k d b os a->∀(j:Nat) (r:R),a[j]?=some (some r)->RenR b os[j]? r\/(r = .imm d/\(os[j]?=some (some (.obj k))\/os[j]?=some (some (.at k []))))
 |o::os,q::a,h,0,r,e=>by
  have c:=by simpa using e
  subst c;rcases h.1 with h|_
  .exact .inl h
  .simp_all
 |o::os,q::a,h,j+1,r,e=>by simpa using FzVs.get h.2 j r ‹_›
 |[],[],_,_,_,e=>by simp at e
 |[],_::_,h,_,_,_=>h.elim
 |_::_,[],h,_,_,_=>h.elim
theorem Ie{k:Nat}{d:dL}{m:MSt}(nd:decide ρ.Nodup=true)(lt:(ρ.all λk=>Nat.blt k m.os.length)=true)(out:(ρ.all λi=>i != k)=true)(pre:ρ.take m.np=aaH m.np)(npl:Nat.ble m.np ρ.length=true)(npk:Nat.ble m.np k=true)(os:m2.os=ρ.map λk=>m.os.getD k [])(np:m2.np=m.np)(vs:FzVs k d ρ m.vs m2.vs):Fz k d ρ m m2:=
 ⟨of_decide_eq_true nd,λk h=>Nat.blt_eq.mp (abJ.mp lt k h),λz=>by simpa using abJ.mp out k z,pre,aex npl,aex npk,os,np,vs.len,λj r e=>vs.get j r e⟩
theorem UQ{w:WS}{D:cV}{m:MSt}(k j:Nat)(kvs:List (dL×dL))(a:List Nat)(m2:MSt)(c:m.vs[j]?=some (some (.at k [])))(b:m.os[k]?=some [.dict (lfKV kvs)])(e:isKd (lfKV kvs)=true)(F:Fz k (.dict kvs) a m m2)(h:w D m2):wFzK w D m:=⟨k,j,kvs,a,m2,c,b,e,F,h⟩
noncomputable instance instDecPyData:DecidableEq dL:=λa b=>Classical.propDecidable (a=b)
mutual
noncomputable def jl:dL->Nat
 | .int _=>1
 | .str _=>1
 | .tuple ds=>d5 ds+1
 |_=>0
noncomputable def d5:List dL->Nat
 |[]=>0
 |d::ds=>jl d+d5 ds
end
noncomputable def kyD(d:dL):Bool:=(match d with| .tuple _=>true|_=>false)&&(hkD d&&(d.canLay0&&decide (d.depth≤7)))
theorem ib{d:dL}(h:kyD d=true):∃ds,d = .tuple ds/\hkA ds=true/\d.canLay0=true/\d.depth≤7:=by
 unfold kyD at h;rw[aaZ,aaZ,aaZ,decide_eq_true_eq]at h
 cases d with
 |tuple ds=>exact⟨ds,rfl,by simpa[hkD]using h.2.1,h.2.2.1,h.2.2.2⟩
 |_=>simp at h
section
variable {w:World}{prog:aaB}
theorem qI(w:World):∀a b:List dL,h8 w (a++b)=h8 w a++h8 w b
 |[],b=>by simp[h8]
 |d::a,b=>by simp[ h8,qI w a b]
theorem mf:∀a b:List dL,d5 (a++b)=d5 a+d5 b
 |[],b=>by simp[d5]
 |d::a,b=>by simp[ d5,mf a b];omega
theorem rF:∀{ds:List dL}{d:dL},hkA ds=true->d∈ds->hkD d=true
 |x::ds,d,h,a=>by
  simp[hkA]at h;obtain rfl|a:=aai.mp a
  .exact h.1
  .exact rF h.2 a
theorem jk{d:dL}(h:d∈ds):d.depth≤aav ds:=by
 induction ds with
 |nil=>cases h
 |cons x ds i=>
  show _≤max x.depth _
  grind
mutual
theorem lP:∀(d:dL) {A:aa4}{E:mT->oR->Prop}{s:oR}{v:mT}{as:List Addr}{Q:Int->oR->Prop},hkD d=true->Reads s.heap v d as->A.units+d.depth<cLine->Q (cE w d) {s with toks:=s.toks+jl d}->wpAny (model prog w) A (pyHash v) Q E s
 | .int i,A,E,s,v,as,Q,_,r,_,h=>by
  cases r;exact wpAny_pyHash_int (by simpa only[cE,jl]using h)
 | .str x,A,E,s,v,as,Q,_,r,_,h=>by
  cases r;exact wpAny_pyHash_str (by simpa only[cE,jl]using h)
 | .tuple ds,A,E,s,v,as,Q,hk,r,hu,h=>by
  cases r with
  | @tuple a o vs n _ _ ho hc hd hr=>
   have k:s.TypeIs (.ref a) "tuple":=⟨o,ho,hc⟩;have g:A.units<cLine:=aas (acm _ _) hu;have t:∀{P:Option mT->oR->Prop},P (some (.builtin "tuple.__hash__")) s->wpAny (model prog w) A (ahO (.ref a) "__hash__") P E s:=λp=>ad3 k afL.lookup p;simp only[cE,jl]at h;refine aD (m:=cRoomFor "hash" [.ref a]) (wpAny_cRoomFor_or (.inr g) (aD (m:=ahO _ _) (t ?_)));rw[if_neg (show ¬(some (mT.builtin "tuple.__hash__")==some ab0)=true by rw[beq_builtin_none];decide)];refine aD (m:=ahO _ _) (t (aD (m:=callSpecialIfBoundUnlessNone? (.ref a) "__hash__" _) ?_));refine wpAny_callSpecialIfBoundUnlessNone?_slot k afL (aaI afL k F.entry_tuple_hash (aD (m:=adz (.ref a)) (wpAny_tupleItemsOf ho hd ?_)) (F.args_tuple_hash_1 _));refine aD ?_;rw[<-ahk];refine aeC _
    (λrest (b:Array Int) q=>∃done left bs,ds=done++left/\adT s.heap rest left bs/\b.toList=h8 w done/\q={s with toks:=s.toks+d5 done})
    _ ?_ ?_ _ _ ⟨[],ds,_,rfl,hr,by simp[h8],by simp[d5]⟩
   .rintro x rest b q ⟨done,left,bs,hds,hl,hb,rfl⟩
    cases hl with
    | @cons _ _ d ds' as1 bs1 r1 r2=>
     have f:d∈ds:=by rw[hds];simp
     refine aD (uO ds d f (rF (by simpa only[hkD]using hk) f) (s:={s with toks:=s.toks+d5 done}) r1 ?_ ?_)
     .have:=jk f;have e:(afk ds).depth=aav ds+1:=rfl;show A.units+1+d.depth<cLine;omega
     .have fin:∃c l j,ds=c++l/\adT s.heap rest l j/\(b.push (cE w d)).toList=h8 w c/\({s with toks:=s.toks+d5 done+jl d}:oR)={s with toks:=s.toks+d5 c }:=by
       refine⟨done++[d],ds',_,by rw[hds];simp,r2,?_,?_⟩
       .rw[Array.toList_push,hb,qI];simp[h8]
       .rw[mf,aeM];simp[d5]
      first
       |exact AD fin
       |exact aD (AD (AD fin))
   .rintro b q ⟨done,left,bs,hds,hl,hb,rfl⟩;cases hl;rw[aaV]at hds;subst hds;change wpAny _ _ (retInt (abL (b.toList:List Int))) _ _ _;rw[hb];refine wpAny_ret_mkInt ?_;show wpAny _ _ (if (decide (-(2:Int)^63≤abL (h8 w ds))&&decide (abL (h8 w ds)<2^63))=true then _ else _) Q E _;unfold reduceHash at h
    by_cases hr:(decide (-(2:Int)^63≤abL (h8 w ds))&&decide (abL (h8 w ds)<2^63))=true
    .rw[if_pos hr];rw[if_pos hr]at h;refine AD ?_;simpa[aeM]using h
    .rw[if_neg hr];rw[if_neg hr]at h;refine aD (m:=rule _) (acV (AD ?_));simpa[aeM]using h
 | .none,_,_,_,_,_,_,hk,_,_,_=>by simp only[hkD]at hk;cases hk
 | .bool _,_,_,_,_,_,_,hk,_,_,_=>by simp only[hkD]at hk;cases hk
 | .list _,_,_,_,_,_,_,hk,_,_,_=>by simp only[hkD]at hk;cases hk
 | .dict _,_,_,_,_,_,_,hk,_,_,_=>by simp only[hkD]at hk;cases hk
theorem uO:∀(ds:List dL) (d:dL),d∈ds->∀{A:aa4}{E:mT->oR->Prop}{s:oR}{v:mT}{as:List Addr}{Q:Int->oR->Prop},hkD d=true->Reads s.heap v d as->A.units+d.depth<cLine->Q (cE w d) {s with toks:=s.toks+jl d}->wpAny (model prog w) A (pyHash v) Q E s
 |x::ds,d,hm=>by
  intro c r a h;rcases aai.mp hm with e|b
  .rw[e]at c r a h;exact lP x c r a h
  .exact uO ds d b c r a h
end
mutual
theorem rj:∀(a b:dL),hkD a=true->hkD b=true->aak a b=decide (a=b)
 | .int i,b,_,hb=>by
  cases b with
  |int j=>
   show decide (i=j)=_
   by_cases h:i=j
   .subst h;rw[decide_eq_true rfl,decide_eq_true rfl]
   .rw[decide_eq_false h,decide_eq_false (λz=>h (by cases z;rfl))]
  |str _=>rw[decide_eq_false (λz=>by cases z)];rfl
  |tuple _=>rw[decide_eq_false (λz=>by cases z)];rfl
  |none=>simp only[hkD]at hb;cases hb
  |bool _=>simp only[hkD]at hb;cases hb
  |list _=>simp only[hkD]at hb;cases hb
  |dict _=>simp only[hkD]at hb;cases hb
 | .str i,b,_,hb=>by
  cases b with
  |str j=>
   show decide (i=j)=_
   by_cases h:i=j
   .subst h;rw[decide_eq_true rfl,decide_eq_true rfl]
   .rw[decide_eq_false h,decide_eq_false (λz=>h (by cases z;rfl))]
  |int _=>rw[decide_eq_false (λz=>by cases z)];rfl
  |tuple _=>rw[decide_eq_false (λz=>by cases z)];rfl
  |none=>simp only[hkD]at hb;cases hb
  |bool _=>simp only[hkD]at hb;cases hb
  |list _=>simp only[hkD]at hb;cases hb
  |dict _=>simp only[hkD]at hb;cases hb
 | .tuple ds,b,ha,hb=>by
  cases b with
  |tuple e=>
   simp only[aak];rw[AL ds e (by simpa only[hkD]using ha) (by simpa only[hkD]using hb)]
   by_cases h:ds=e
   .subst h;rw[decide_eq_true rfl,decide_eq_true rfl]
   .rw[decide_eq_false h,decide_eq_false (λz=>h (by cases z;rfl))]
  |int _=>rw[decide_eq_false (λz=>by cases z)];rfl
  |str _=>rw[decide_eq_false (λz=>by cases z)];rfl
  |none=>simp only[hkD]at hb;cases hb
  |bool _=>simp only[hkD]at hb;cases hb
  |list _=>simp only[hkD]at hb;cases hb
  |dict _=>simp only[hkD]at hb;cases hb
 | .none,_,ha,_=>by simp only[hkD]at ha;cases ha
 | .bool _,_,ha,_=>by simp only[hkD]at ha;cases ha
 | .list _,_,ha,_=>by simp only[hkD]at ha;cases ha
 | .dict _,_,ha,_=>by simp only[hkD]at ha;cases ha
theorem AL:∀(a b:List dL),hkA a=true->hkA b=true->adr a b=decide (a=b)
 |[],[],_,_=>by rw[decide_eq_true rfl];rfl
 |[],_::_,_,_=>by rw[decide_eq_false (λz=>by cases z)];rfl
 |_::_,[],_,_=>by rw[decide_eq_false (λz=>by cases z)];rfl
 | x::a,y::b,ha,hb=>by
  simp only[hkA,aaZ]at ha hb;simp only[adr];rw[rj x y ha.1 hb.1,AL a b ha.2 hb.2]
  by_cases h:x=y
  .by_cases h2:a=b
   .subst h h2;rw[decide_eq_true rfl,decide_eq_true rfl,decide_eq_true rfl];rfl
   .rw[decide_eq_false h2,Bool.and_false,decide_eq_false (λz=>h2 (by cases z;rfl))]
  .rw[decide_eq_false h,Bool.false_and,decide_eq_false (λz=>h (by cases z;rfl))]
end
mutual
theorem Reads.hkeep{h h':aaM}{d:Addr}{o:Obj}{es:Array acj}{e:Nat}(ho:h.get? d=some o)(hd:o.data = .dict es e)(hs:abk d h h'):∀(k:dL) {v:mT}{as:List Addr},hkD k=true->Reads h v k as->Reads h' v k as
 | .int _,_,_,_,r=>by cases r;exact .int _ _
 | .str _,_,_,_,r=>by cases r;exact .str _ _
 | .tuple ds,_,_,hk,r=>by
  cases r with
  | @tuple a o' vs n _ _ h1 h2 h3 h4=>
   have b:a≠d:=by
    rintro rfl;rw[ho]at h1;cases h1;rw[hd]at h3;cases h3
   exact .tuple ((hs.2 a b).trans h1) h2 h3 (ReadsAll.hkeep ho hd hs ds (by simpa only[hkD]using hk) h4)
 | .none,_,_,hk,_=>by simp only[hkD]at hk;cases hk
 | .bool _,_,_,hk,_=>by simp only[hkD]at hk;cases hk
 | .list _,_,_,hk,_=>by simp only[hkD]at hk;cases hk
 | .dict _,_,_,hk,_=>by simp only[hkD]at hk;cases hk
theorem ReadsAll.hkeep{h h':aaM}{d:Addr}{o:Obj}{es:Array acj}{e:Nat}(ho:h.get? d=some o)(hd:o.data = .dict es e)(hs:abk d h h'):∀(ks:List dL) {vs:List mT}{as:List Addr},hkA ks=true->adT h vs ks as->adT h' vs ks as
 |[],_,_,_,r=>by cases r;exact .nil
 |k::ks,_,_,hk,r=>by
  simp only[hkA,aaZ]at hk
  cases r with
  |cons r1 a=>exact .cons (Reads.hkeep ho hd hs k hk.1 r1) (ReadsAll.hkeep ho hd hs ks hk.2 a)
end
mutual
theorem jQ:∀(d:dL) {A:aa4}{E:mT->oR->Prop}{s:oR}{v:mT}{as:List Addr}{n:Nat}{Q:Bool->oR->Prop},hkD d=true->Reads s.heap v d as->d.depth≤n->Q true s->wpAny (model prog w) A (eqIsQuiet n v) Q E s
 | .int _,_,_,_,_,_,_,_,_,r,_,h=>by cases r;rw[eqIsQuiet_byValue _ rfl];exact AD h
 | .str _,_,_,_,_,_,_,_,_,r,_,h=>by cases r;rw[eqIsQuiet_byValue _ rfl];exact AD h
 | .tuple ds,A,E,s,v,as,n,Q,hk,r,hn,h=>by
  cases r with
  | @tuple a o vs nn _ _ ho hc hd hr=>
   have f:s.TypeIs (.ref a) "tuple":=⟨o,ho,hc⟩;have e:(afk ds).depth=aav ds+1:=rfl
   cases n with
   |zero=>omega
   | succ n=>
    unfold eqIsQuiet;refine aD (m:=ahO _ _) (ad3 f F.slot_tuple_eq.lookup (aD (m:=ahi (.ref a) (.type "tuple")) (acl f isSubtype_tuple_tuple ?_)));simp only[if_false,adj,Bool.not_true];refine aD (m:=seqItems? (.ref a)) (acY ho hd ?_);refine aD ?_;show wpAny _ _ (forIn vs _ _) _ _ s;rw[<-ahk];refine aeC _ (λrest r c=>r.1=none/\c=s/\∃left bs,(∀d∈left,d∈ds)/\adT s.heap rest left bs) _ ?_ ?_ _ _ ⟨rfl,rfl,ds,_,λ_ h=>h,hr⟩
    .rintro x rest r c ⟨hr',rfl,left,bs,hsub,hl⟩
     cases hl with
     | @cons _ _ d ds' as1 bs1 r1 r2=>
      have b:d∈ds:=hsub d GE;refine aD (qh ds d b (rF (by simpa only[hkD]using hk) b) r1 (by have:=jk b;omega) ?_);simp only[if_false,adj,Bool.not_true];exact AD ⟨rfl,rfl,ds',_,λz g=>hsub z (Ge _ g),r2⟩
    .rintro⟨r1,r2⟩ c ⟨hr',rfl,_⟩;simp only at hr';subst hr';exact AD h
 | .none,_,_,_,_,_,_,_,hk,_,_,_=>by simp only[hkD]at hk;cases hk
 | .bool _,_,_,_,_,_,_,_,hk,_,_,_=>by simp only[hkD]at hk;cases hk
 | .list _,_,_,_,_,_,_,_,hk,_,_,_=>by simp only[hkD]at hk;cases hk
 | .dict _,_,_,_,_,_,_,_,hk,_,_,_=>by simp only[hkD]at hk;cases hk
theorem qh:∀(ds:List dL) (d:dL),d∈ds->∀{A:aa4}{E:mT->oR->Prop}{s:oR}{v:mT}{as:List Addr}{n:Nat}{Q:Bool->oR->Prop},hkD d=true->Reads s.heap v d as->d.depth≤n->Q true s->wpAny (model prog w) A (eqIsQuiet n v) Q E s
 |x::ds,d,hm=>by
  intro c r a h;rcases aai.mp hm with e|b
  .rw[e]at c r a;exact jQ x c r a h
  .exact qh ds d b c r a h
end
theorem ll{d:dL}(h:kyD d=true):hkD d=true:=by
 obtain⟨ds,rfl,a,_⟩:=ib h;simpa[hkD]
noncomputable def km (prog:aaB) (w:World):HeapKind prog w dL where
 is:=λh d a=>(∃c,Reads h (.ref a) d c)/\kyD d=true
 hash:=cE w
 draws:=jl
 room:=λA=>A.units+20<cLine
 inj:=λ{h a x y} ⟨⟨c,r1⟩,g⟩ ⟨⟨bs,i⟩,j⟩=>by
  obtain⟨ds,rfl,_,o,_⟩:=ib g;exact SeqAt.Reads.unique _ _ _ _ _ o r1 i
 keeps:=λ⟨⟨c,r⟩,k⟩ ho hd hs=>⟨⟨c,Reads.hkeep ho hd hs _ (ll k) r⟩,k⟩
 pyHash:=λ{A E s k a Q} l ⟨⟨c,r⟩,f⟩ h=>by
  obtain⟨ds,e,_,_,hd⟩:=ib f;exact lP k (ll f) r (by omega) h
 eqBool:=λ{A E s x y a b Q} l ⟨⟨c,r1⟩,g⟩ ⟨⟨bs,i⟩,j⟩ h=>by
  obtain⟨ds,t,_,n,v⟩:=ib g;obtain⟨q,p,_,m,u⟩:=ib j;refine ahP x y A s _ _ _ _ r1 i n m (by omega) prog w E Q ?_;rw[rj x y (ll g) (ll j)];exact h
 quiet:=λ{A E s k a Q} ⟨⟨c,r⟩,f⟩ h=>by
  obtain⟨ds,e,_,_,hd⟩:=ib f;exact jQ k (ll f) r (by omega) h
end
noncomputable def bZ(k:dL):List (dL×dL)->Option dL
 |[]=>none
 |(k',d)::r=>if aak k' k=true then some d else bZ k r
noncomputable def putP(k d:dL):List (dL×dL)->List (dL×dL)
 |[]=>[(k,d)]
 |(k',d')::r=>if aak k' k=true then(k',d)::r else(k',d')::putP k d r
noncomputable def kyA(kvs:List (dL×dL)):Bool:=kvs.all λk=>kyD k.1
noncomputable def kdD:dL->Bool
 | .int _=>true
 | .str _=>true
 |_=>false
noncomputable def oneK(kvs:List (dL×dL))(k:dL):Bool:=(isKd kvs&&kdD k)||(kyA kvs&&kyD k)
theorem ow(kvs:List (dL×dL)):isKd kvs=kvs.all λk=>kdD k.1:=rfl
theorem jV{k:dL}(h:kdD k=true):∃kk:Key,k=keyD kk:=by
 cases k with
 |int i=>exact⟨.inl i,rfl⟩
 |str x=>exact⟨.inr x,rfl⟩
 |_=>cases h
theorem BJ(a b:Key):aak (keyD a) (keyD b)=decide (a=b):=by
 cases a<;>cases b<;>simp[keyD,aak,aew]
noncomputable def IsDc(K:Kd)(H:Hp)(a:Addr)(kvs:List (dL×dL)):Prop:=
 (∃e,Rd H a (.dK e)/\DenKK K H kvs e)\/∃e,Rd H a (dX a e)/\isKd kvs=false/\(kvs.map (·.1)).Nodup/\DenKV K H kvs e
section
variable {K:Kd}{H a:Hp}
theorem fzKV{τ:List (List Nat×Addr)}{p:List Nat}:∀{kvs:List (dL×dL)}{i:Nat}{es:List (Int×V×V)},TAtD K H τ p i (lfKV kvs) es->DenKV K H kvs es
 |[],_,_,h=>by simpa[lfKV]
 |(k,d)::r,i,es,h=>by
  obtain⟨u,v,vs,rfl,c,b,g⟩:=h;exact⟨u,v,vs,rfl,c,ju b (Cu d),fzKV g⟩
theorem KZ{τ:List (List Nat×Addr)}{p:List Nat}:∀{kvs:List (dL×dL)}{i:Nat}{es:List (Int×V×V)},DenKV K H kvs es->TAtD K H τ p i (lfKV kvs) es
 |[],_,_,h=>by simpa only[lfKV]
 |_::r,i,es,h=>by
  obtain⟨u,v,vs,rfl,c,b,g⟩:=h;exact⟨u,v,vs,rfl,c,BV b,KZ g⟩
theorem d7(kvs:List (dL×dL)):(lfKV kvs).map (·.1)=kvs.map (·.1):=by
 unfold lfKV;rw[aaD];rfl
theorem je(kvs:List (dL×dL)):isKd (lfKV kvs)=isKd kvs:=by
 unfold isKd lfKV;rw[ado];rfl
theorem mE(h:isKd kvs=true\/kyA kvs=true):fzOf kvs=none/\excC kvs=none:=by
 cases kvs with
 |nil=>exact⟨rfl,rfl⟩
 | cons x r=>
  obtain⟨k,d⟩:=x
  cases k with
  |none=>
   rcases h with h|h
   .simp[isKd]at h
   .simp[kyA,kyD]at h
  |int _=>exact⟨rfl,rfl⟩
  |str _=>exact⟨rfl,rfl⟩
  |bool _=>exact⟨rfl,rfl⟩
  |list _=>exact⟨rfl,rfl⟩
  |tuple _=>exact⟨rfl,rfl⟩
  |dict _=>exact⟨rfl,rfl⟩
end
noncomputable def dcM(m:MSt)(kvs:List (dL×dL)):R->Prop
 | .imm (.dict es)=>es=kvs
 | .at k p=>p=[]/\m.os[k]?=some [.dict (lfKV kvs)]
 |_=>False
theorem RelR.dc{K:Kx}{m:MSt}{G:Hp}{r:R}(R:Rel K α m σ H)(h:RelR K α G H r v)(e:dcM m kvs r)(j:isKd kvs=true\/kyA kvs=true):∃a,v = .ref a/\IsDc K H a kvs:=by
 obtain⟨n1,n2⟩:=mE j
 cases r with
 | imm d=>
  cases d with
  |dict l=>
   have E:l=kvs:=e;subst E;have q:Den K H (.dict l) v:=h;simp only[Den]at q;obtain⟨a,rfl,q⟩:=q;refine⟨a,rfl,?_⟩;rcases q with⟨x,⟨o,f⟩,n,g⟩|⟨x,o,f,g⟩|⟨c,x,y,_⟩
   .exact .inr ⟨x,.inr ⟨o,f⟩,n.1,n.2.1,g⟩
   .exact .inl ⟨x,.inr ⟨o,f⟩,g⟩
   .rw[n2]at y;cases y
  |none=>exact e.elim
  |bool _=>exact e.elim
  |int _=>exact e.elim
  |str _=>exact e.elim
  |list _=>exact e.elim
  |tuple _=>exact e.elim
 | «at» k p=>
  obtain⟨rfl,F⟩:=e;obtain⟨J,a,i,u,rfl⟩:=h;obtain⟨⟨L,M,z,g,I,B,D⟩,_⟩:=R.own k _ _ i F;cases z;rw[u]at B;cases B;subst D;refine⟨a,rfl,?_⟩;have w:=mE (by
   rcases j with j|j
   .exact .inl (by rw[je];exact j)
   .refine .inr ?_;unfold kyA lfKV at *;rw[ado];exact j)
  simp only[TAt]at g;rcases g with⟨d,i,_⟩|⟨_,_,b,l,i,s,t,n,g⟩|⟨_,_,b,l,i,s,t,g⟩|⟨c,b,dx,C,x,A,_⟩
  .rw[w.1]at i;cases i
  .cases s;rw[u]at i;exact .inr ⟨l,.inl t,by rw[<-je];exact n.1,by rw[<-d7];exact n.2.1,fzKV g⟩
  .cases s;exact .inl ⟨l,.inl t,fzKK g⟩
  .rw[w.2]at A;cases A
 |obj _=>exact e.elim
 |new _=>exact e.elim
 |newT _=>exact e.elim
theorem DenKV.len{K:Kd}{H:Hp}:∀{kvs:List (dL×dL)}{es:List (Int×V×V)},DenKV K H kvs es->kvs.length=es.length
 |[],_,g=>by simp[DenKV]at g;subst g;rfl
 |_::r,_,g=>by
  obtain⟨u,v,vs,rfl,_,_,g⟩:=g;simp[DenKV.len g]
section
variable {X:Cx}{pins:List (Addr×Obj)}{σ:St}{H:Hp}{s:oR}
noncomputable abbrev PxV(K:Kd)(H:Hp):List (dL×dL)->List (dL×Addr×mT)->Prop:=abO λp q=>p.1=q.1/\Den K H p.1 (.ref q.2.1)/\∃v,Den K H p.2 v/\RelV v q.2.2
theorem PxV.keys{H:Hp}{xs:List (dL×Addr×mT)}(p:PxV K H kvs xs):xs.map (·.1)=kvs.map (·.1):=by
 induction p with
 |nil=>rfl
 |cons h t i=>rw[aau,aau,i,h.1]
theorem qQ{k:dL}{u:V}(c:kyD k=true)(h:Den K H k u):∃b,u = .ref b:=by
 obtain⟨ds,rfl,_⟩:=ib c;obtain⟨a,x,e,_⟩:=h;exact⟨a,e⟩
theorem yZ{k:dL}(a:kyD k=true):k.hasDict=false:=by
 obtain⟨ds,rfl,_,h,_⟩:=ib a;exact abo _ h
theorem Inv.ky(I:Inv X pins σ H s){k:dL}(a:kyD k=true)(h:Den X.kd H k (.ref b)):(km X.prog X.w).is s.heap k b:=⟨h.reads I (yZ a) (rfl),a⟩
noncomputable abbrev ExV(w:World):List (Int×V×V)->List (dL×Addr×mT)->Prop:=abO λe q=>e.1=cE w q.1/\e.2.1 = .ref q.2.1/\RelV e.2.2 q.2.2
theorem Inv.dcE(I:Inv X pins σ H s){es:List (Int×V×V)}(L:Rd H a (dX a es))(g:DenKV X.kd H kvs es)(nd:(kvs.map (·.1)).Nodup)(f:kyA kvs=true):(a==abD)=false/\es.length≤aag/\∃xs,s.heap.DictOfH (km X.prog X.w) a xs/\PxV X.kd H kvs xs/\ExV X.w es xs:=by
 obtain⟨⟨hs,G,o,c,M,C,D,F,N⟩,_⟩:=(show ObjOk X.prog X.w H s.heap a (dX a es)from L.ok I.hok);have key:∀{kvs:List (dL×dL)}{es:List (Int×V×V)}{c:List acj},kyA kvs=true->DenKV X.kd H kvs es->abO (λ(e:Int×V×V) (d:acj)=>d.hash=e.1/\RelV e.2.1 d.key/\RelV e.2.2 d.val) es c->∃xs,c=xs.map (entryOfKey (km X.prog X.w))/\PxV X.kd H kvs xs/\ExV X.w es xs:=by
  intro kvs
  induction kvs with
  |nil=>
   intro es c _ g p;simp only[DenKV]at g;subst g;cases p;exact⟨[],rfl,.nil,.nil⟩
  | cons x r n=>
   intro es c f g p;obtain⟨k,d⟩:=x;rw[kyA,acS,aaZ]at f;simp only[DenKV]at g;obtain⟨u,v,vs,rfl,B,K,J⟩:=g
   cases p with
   |cons O P=>
    rename_i S y;obtain⟨xs,m,j,l⟩:=n f.2 J P;obtain⟨b,rfl⟩:=qQ f.1 B;obtain⟨Q,E,z⟩:=O;obtain⟨A,R,w⟩:=S
    cases (show R=abh b from E)
    refine⟨(k,b,w)::xs,?_,.cons ⟨rfl,B,v,K,z⟩ j,.cons ⟨rfl,rfl,z⟩ l⟩;rw[aau,<-m]
    congr 1
    show acj.mk A (.ref b) w=⟨cE X.w k,.ref b,w⟩;rw[show A=cE X.w k from Q]
 obtain⟨xs,m,j,l⟩:=key f g N;refine⟨hs,G,xs,⟨o,c,M,C,D,F,m,λx i=>?_,by rw[j.keys];exact nd⟩,j,l⟩;have all:∀{kvs:List (dL×dL)}{xs:List (dL×Addr×mT)},kyA kvs=true->PxV X.kd H kvs xs->∀x∈xs,(km X.prog X.w).is s.heap x.1 x.2.1:=by
  intro kvs xs f p
  induction p with
  |nil=>intro x i;cases i
  | @cons q x0 qs xs0 h t n=>
   rw[kyA,acS,aaZ]at f;intro x i;obtain rfl|i:=aai.mp i
   .rw[<-h.1];exact I.ky f.1 h.2.1
   .exact n f.2 x i
 exact all f j x i
theorem Inv.dc0(I:Inv X pins σ H s)(r:Rd H a (.dK [])):(a==abD)=false/\s.heap.DictOfH (km X.prog X.w) a []:=by
 obtain⟨_,hs,vs,k,d⟩:=sj I.hok r;cases k;obtain⟨o,e,b,j,f,g,i⟩:=d;refine⟨hs,o,e,b,j,f,g,?_,⟨(λx h=>absurd h (by simp)),acy⟩⟩;have c:e.toList=[]:=by
  obtain⟨_,hp,_⟩:=i;exact abR (by have:=hp.length;simpa)
 rw[c];rfl
theorem Qt(g:DenKK K H kvs es)(a:kyA kvs=true):kvs=[]/\es=[]:=by
 cases kvs with
 |nil=>simp[DenKK]at g;exact⟨rfl,g⟩
 |cons x r=>
  obtain⟨k,d⟩:=x;obtain⟨b,v,vs,_,⟨e,_⟩,_⟩:=g;rw[kyA,acS,aaZ]at a;have h:kyD k=true:=a.1;rw[e]at h
  cases b<;>cases h
theorem Inv.dcX(I:Inv X pins σ H s)(h:IsDc X.kd H a kvs)(b:kyA kvs=true):(a==abD)=false/\∃xs,s.heap.DictOfH (km X.prog X.w) a xs/\PxV X.kd H kvs xs:=by
 rcases h with⟨e,r,g⟩|⟨e,r,_,nd,g⟩
 .obtain⟨rfl,rfl⟩:=Qt g b;obtain⟨hs,d⟩:=I.dc0 r;exact⟨hs,[],d,.nil⟩
 .obtain⟨hs,_,xs,d,p,_⟩:=I.dcE r g nd b;exact⟨hs,xs,d,p⟩
theorem PxV.val{xs:List (dL×Addr×mT)}{k:dL}(f:kyA kvs=true)(c:kyD k=true)(p:PxV K H kvs xs) :
  (bZ k kvs=none/\atKey xs k=none)\/∃d v q,bZ k kvs=some d/\atKey xs k=some q/\Den K H d v/\RelV v q.2:=by
 induction p with
 |nil=>exact(.inl ⟨rfl,rfl⟩)
 | @cons x q xs0 qs h t ih=>
  rw[kyA,acS,aaZ]at f;obtain⟨i,d⟩:=x;obtain⟨l,n,v,j,m⟩:=h;have a:i=q.1:=l;have g:=rj _ _ (ll f.1) (ll c);unfold bZ
  by_cases e:i=k
  .have b:atKey (q::qs) k=some q.2:=by simp[atKey,List.find?_cons,<-a,e]
   rw[g,decide_eq_true e,if_pos rfl];exact .inr ⟨d,v,q.2,rfl,b,j,m⟩
  .have b:atKey (q::qs) k=atKey qs k:=by simp[atKey,<-a,e]
   rw[g,decide_eq_false e,b];exact ih f.2
theorem DenKK.val(g:DenKK K H kvs es) :
  (bZ (keyD kk) kvs=none/\valV es kk=none)\/∃d v,bZ (keyD kk) kvs=some d/\valV es kk=some v/\Den K H d v:=by
 induction kvs generalizing es with
 |nil=>simp[DenKK]at g;subst g;exact .inl ⟨rfl,rfl⟩
 |cons x r i=>
  obtain⟨k,d⟩:=x;obtain⟨a,v,vs,rfl,⟨rfl,_⟩,c,b⟩:=g;unfold bZ;rw[BJ]
  by_cases e:a=kk
  .rw[decide_eq_true e];exact .inr ⟨d,v,rfl,jB e,c⟩
  .rw[decide_eq_false e,jC e];exact i b
theorem DGet.kr{H:Hp}{kvs:List (Key×V)}{k:Key}(e:Rd H a (.dK kvs)):DGet H a (kV k) (valV kvs k):=.inl ⟨kvs,k,e,rfl,rfl⟩
theorem jd{k:dL}(h:oneK kvs k=true):(isKd kvs=true/\kdD k=true)\/(kyA kvs=true/\kyD k=true):=by
 unfold oneK at h
 simp_all
theorem Inv.dcT(I:Inv X pins σ H s)(h:IsDc X.kd H a kvs):s.TypeIs (.ref a) "dict"/\∀b,abh a = .ref b->∃ob,s.heap.get? b=some ob/\ob.dict=none:=by
 rcases h with⟨c,r,g⟩|⟨c,r,_,nd,g⟩
 .obtain⟨_,hs,vs,kv,o,_,_,h1,h2,_⟩:=sj I.hok r;exact⟨⟨o,h1,h2.1⟩,λb e=>by cases e;exact⟨o,h1,h2.2.1⟩⟩
 .obtain⟨⟨hs,hz,o,ents,ep,h1,h2,h3,h4⟩,_⟩:=(r.ok I.hok);exact⟨⟨o,h1,h2.1⟩,λb e=>by cases e;exact⟨o,h1,h2.2.1⟩⟩
theorem tF(h:Den K H (keyD kk) y):y=kV kk:=by
 cases kk with
 |inl i=>exact aF h
 |inr x=>exact bv h
section
variable {a:Addr}{kvs:List (dL×dL)}{k:dL}{y z:V}{u c:mT}{A:aa4}{E:mT->oR->Prop}
theorem Jw(J:A.units+64<cLine)(I:Inv X pins σ H s)(h:IsDc X.kd H a kvs)(ok:oneK kvs k=true)(n:Den X.kd H k y)(C:RelV y u)(x:RelV z c)
  (f:∀v w s',Inv X pins σ H s'->RelV v w->((∃d,bZ k kvs=some d/\Den X.kd H d v)\/(bZ k kvs=none/\v=z))->Q w s'):wpAny (model X.prog X.w) A (call (.builtin "dict.get") [.ref a,u,c]) Q E s:=by
 have B:=(I.dcT h).1;rcases jd ok with⟨l,o⟩|⟨l,o⟩
 .obtain⟨kk,rfl⟩:=jV o;have F:=tF n;subst F;rcases h with⟨D,t,g⟩|⟨D,t,kd,nd,g⟩
  .obtain⟨z0,hd,vs,rel,dd⟩:=sj I.hok t;refine ahy aey B agt (af9 _ _ _) (meets_dict_get_default (cg X.prog X.w) a (xh C) hd c) ⟨_,dd.mapOf,?_⟩;have r:=rel.val kk;rcases g.val (kk:=kk)with⟨i,e⟩|⟨d,v,i,e,m⟩
   .rw[e]at r;have j:afj vs kk=none:=RelO.none_of r;show Q ((afj vs kk).getD c) _;rw[j];exact f z c _ (I.tok _) x (.inr ⟨i,rfl⟩)
   .rw[e]at r;obtain⟨w,j,G⟩:=RelO.some_of r;show Q ((afj vs kk).getD c) _;rw[j];exact f v w _ (I.tok _) G (.inl ⟨d,i,m⟩)
  .rw[l]at kd;cases kd
 .obtain⟨hs,xs,dd,p⟩:=I.dcX h l;obtain⟨b,rfl⟩:=qQ o n
  cases (show u=abh b from C)
  refine ahy aey B agt (af9 _ _ _) (meetsH_dict_get_default (km X.prog X.w) a b hs c) ⟨(by show A.units+1+20<cLine;omega),k,xs,I.ky o n,dd,?_⟩;rcases p.val l o with⟨i,e⟩|⟨d,v,q,i,e,m,j⟩
  .rw[e];exact f z c _ (I.tok _) x (.inr ⟨i,rfl⟩)
  .rw[e];exact f v q.2 _ (I.tok _) j (.inl ⟨d,i,m⟩)
theorem VN(D:A.units+64<cLine)(I:Inv X pins σ H s)(h:IsDc X.kd H a kvs)(ok:oneK kvs k=true)(m:Den X.kd H k y)(t:RelV y u)(n:Bool)
  (f:∀s',Inv X pins σ H s'->Q (.bool (if n=true then !(bZ k kvs).isSome else(bZ k kvs).isSome)) s'):wpAny (model X.prog X.w) A (abr (if n=true then .NotIn else .In) u (.ref a)) Q E s:=by
 rcases jd ok with⟨l,o⟩|⟨l,o⟩
 .obtain⟨kk,rfl⟩:=jV o;have C:=tF m;subst C;rcases h with⟨x,r,g⟩|⟨x,r,kd,nd,g⟩
  .have e:(bZ (keyD kk) kvs).isSome=(valV x kk).isSome:=by
    rcases g.val (kk:=kk)with⟨j,i⟩|⟨d,v,j,i,B⟩
    .rw[j,i];rfl
    .rw[j,i];rfl
   cases n with
   |false=>exact d_in (by omega) I (DGet.kr r) t λs' w=>by rw[<-e];exact f s' w
   |true=>exact Ng (by omega) I (DGet.kr r) t λs' w=>by rw[<-e];exact f s' w
  .rw[l]at kd;cases kd
 .obtain⟨hs,xs,dd,p⟩:=I.dcX h l;obtain⟨b,rfl⟩:=qQ o m
  cases (show u=abh b from t)
  have e:(bZ k kvs).isSome=(atKey xs k).isSome:=by
   rcases p.val l o with⟨j,i⟩|⟨d,v,q,j,i,B,F⟩
   .rw[j,i];rfl
   .rw[j,i];rfl
  cases n with
  |false=>exact wpAny_in_heap (by show A.units+1+20<cLine;omega) (I.ky o m) hs dd (by rw[<-e];exact f _ (I.tok _))
  |true=>exact PyProof.Rows.wpAny_notIn_heap (knd:=km X.prog X.w) (by show A.units+1+20<cLine;omega) (I.ky o m) hs dd (by rw[<-e];exact f _ (I.tok _))
theorem xG{d:dL}(J:A.units+64<cLine)(I:Inv X pins σ H s)(h:IsDc X.kd H a kvs)(ok:oneK kvs k=true)(n:Den X.kd H k y)(x:RelV y u)(l:bZ k kvs=some d)
  (i:∀v w s',Inv X pins σ H s'->RelV v w->Den X.kd H d v->Q w s'):wpAny (model X.prog X.w) A (aeJ (.ref a) u) Q E s:=by
 rcases jd ok with⟨j,o⟩|⟨j,o⟩
 .obtain⟨kk,rfl⟩:=jV o;have D:=tF n;subst D;rcases h with⟨C,t,g⟩|⟨C,t,kd,nd,g⟩
  .rcases g.val (kk:=kk)with⟨e,f⟩|⟨B,v,e,f,m⟩
   .rw[l]at e;cases e
   .rw[l]at e;cases e;exact y0 (by omega) I (by rw[<-f];exact DGet.kr t) x λw s' F r=>i v w s' F r m
  .rw[j]at kd;cases kd
 .obtain⟨hs,xs,dd,p⟩:=I.dcX h j;obtain⟨b,rfl⟩:=qQ o n
  cases (show u=abh b from x)
  rcases p.val j o with⟨e,f⟩|⟨B,v,q,e,f,m,G⟩
  .rw[l]at e;cases e
  .rw[l]at e;cases e;exact wpAny_getItem_heap (knd:=km X.prog X.w) (by show A.units+1+20<cLine;omega) (I.ky o n) dd f (i v q.2 _ (I.tok _) G m)
end
end
section
variable {X:Cx}{a:Expr}{w:WE}{pos:Pos}
noncomputable def L6:WE:=λm K=>K (.newT (.dict [])) m
theorem Na:ME X (.Dict [] [] pos) L6:=pe_dnewK.wk<|by
 rintro d H Q ⟨c,m,K,R,h,f⟩;intro p hp;refine f _ m _ _ h rfl (R.lay hp) ⟨[([],p)],p,rfl,rfl,by simp,λb hb=>by simp at hb;subst hb;exact hp,⟨⟨_,.ref p,rfl,?_,p,rfl,rfl⟩,λb hb=>by simp at hb;subst hb;exact⟨_,ai,rfl⟩⟩⟩ (cf hp);refine .inr (.inr (.inl ⟨rfl,rfl,p,[],rfl,rfl,ai,?_⟩));rfl
theorem oh:EE X (.Dict [] [] pos) L6:=⟨Na⟩
end
section
variable {m:MSt}{K:R->MSt->Prop}{w:WE}{P:dL->Prop}
theorem zG(h:K (.newT (.dict [])) m):L6 m K:=h
end
section
variable {X:Cx}{o e:Expr}{w:WE}{b c:Pos}
theorem DenAll.dropLast{xs:List V}(g:DenAll K H ds xs):DenAll K H ds.dropLast xs.dropLast:=by
 rw[agE,agE,<-g.length];exact g.take _
noncomputable def wML0(ob:WM)(w:WE):WE:=λm K=>w m λr m1=>(∃ds,lsOf m1 r=some ds)/\ob r [] m1 K
theorem P7{name:Str}{id:String}(slot:Slot "list" name id)(l:agm (.builtin id)=pure (.type "method_descriptor"))(t:MtM X id (mM X.kx ob))(ho:ME X o w)
  (h:abg o name X.env (eval o X.env)=eval o X.env:=by rfl) (d:(b.endLine==c.line)=true:=by rfl):ME X (.Call (.Attribute o name b) [] [] c) (wML0 ob w):=
 (Um af4 slot l t ho h d).wk<|by
 rintro u H Q ⟨s,m,K,D,y,j⟩;refine⟨s,m,_,D,y,λr m1 v A k n1 R rr q=>?_⟩;obtain⟨⟨ds,C⟩,k⟩:=k;obtain⟨a,x,rfl,f,g⟩:=rr.list R C;exact⟨.inl ⟨rfl,x,f⟩,s,m1,u,H,A,r,[],K,R,rr,.nil,k,λr z v B k n p i F=>j r z v B k (n.trans n1) p (i.base R q) (q.trans F)⟩
end
section
variable {X:Cx}{scope sc:Scope}{own fr:List Str}{ps:List Nat}{elt b o:Expr}{ifs:List Expr}{pos np l s p a c:Pos}{tt:WT}{d w:WE}{e:WI}{x y:Str}{i:Nat}
theorem Ju{name:Str}{id:String}(slot:Slot "list" name id)(g:agm (.builtin id)=pure (.type "method_descriptor"))(j:MtM X id (mM X.kx ob))(ho:EE X o w)
  (h:abg o name X.env (eval o X.env)=eval o X.env:=by rfl) (f:(a.endLine==c.line)=true:=by rfl):EE X (.Call (.Attribute o name a) [] [] c) (wML0 ob w):=⟨P7 slot g j ho.h h f⟩
end
section
variable {m:MSt}{Q:R->MSt->Prop}{w a:WE}{b:WI}{tt:WT}{own:List Str}{ps:List Nat}
theorem VQ(h:w m λr m1=>(∃ds,lsOf m1 r=some ds)/\ob r [] m1 Q):wML0 ob w m Q:=h
end
section
variable {X:Cx}{o e g:Expr}{es:List Expr}{w:WE}{f:WA}{b c:Pos}
noncomputable def Q9(K:Kd)(to:TE)(t:TA):TE:=λm H Q=>to m H λx l=>∃a i,x = .ref a/\IsDc K l a i/\t m l λn j=>∃h k y z,n=[y,z]/\IsDc K j a h/\oneK h k=true/\Den K j k y/\∀v,((∃d,bZ k h=some d/\Den K j d v)\/(bZ k h=none/\v=z))->Q v j
theorem Fq{to:TE}{t:TA}(C:X.A.units+64<cLine)(ho:PE X o to)(ha:PA X (e::es) t)
  (i:abg o "get" X.env (eval o X.env)=eval o X.env:=by rfl)
  (j:((ab1 c (aad (e::es) X.env)).all (λx=>!x.1)&&(afq c (adA [] X.env)).all (λx=>x.1.isSome)
   && decide ((e::es).length+([]:List adi).length+(if ([]:List adi).isEmpty then 0 else 1)<30))=true:=by rfl)
  (d:(b.endLine==c.line)=true:=by rfl) (hs:aad (e::es) X.env=(false,eval e X.env)::aad es X.env:=by rfl) (l:(ab1 c (aad es X.env)).any (·.1)=false:=by rfl) :
  PE X (.Call (.Attribute o "get" b) (e::es) [] c) (Q9 X.kd to t):=by
 intro p s B H Q I h;refine agn i j d rfl (thn (ho p s B H _ I h) λv s1 ⟨x,O,A,r1,q⟩=>?_);obtain⟨a,u,rfl,dc0,q⟩:=q;cases (r1);obtain⟨D,J⟩:=A.dcT dc0;refine⟨"dict","dict.get",aeh,aey,PySem.F.type_dict_get,D,J,?_⟩;have n:=ha c p s1 B O _ A q;rw[hs]at n⊢;refine acQ ‹_› (agH ?_);refine thn n λV s2 ⟨vs,R,F,r,N⟩=>?_;obtain⟨G,k,y,z,rfl,dc,ok,L,m⟩:=N
 cases r with
 | cons P r=>
  cases r with
  |cons M r=>
   cases r;exact Jw C F dc ok L P M λv T U K S E=>⟨v,R,K,S,m v E⟩
noncomputable def Ap(w:WE)(f:WA):WE:=λm K=>w m λr m1=>∃a,dcM m1 a r/\(isKd a=true\/kyA a=true)/\f m1 λrs m2=>∃d k z,rs=[.imm k,.imm z]/\dcM m2 d r/\oneK d k=true/\K (.imm ((bZ k d).getD z)) m2
theorem GQ(C:X.A.units+64<cLine)(ho:ME X o w)(ha:MA X (e::es) f)
  (n:abg o "get" X.env (eval o X.env)=eval o X.env:=by rfl)
  (p:((ab1 c (aad (e::es) X.env)).all (λx=>!x.1)&&(afq c (adA [] X.env)).all (λx=>x.1.isSome)
   && decide ((e::es).length+([]:List adi).length+(if ([]:List adi).isEmpty then 0 else 1)<30))=true:=by rfl)
  (j:(b.endLine==c.line)=true:=by rfl) (hs:aad (e::es) X.env=(false,eval e X.env)::aad es X.env:=by first|exact aE rfl|rfl) (i:(ab1 c (aad es X.env)).any (·.1)=false:=by rfl) :
  ME X (.Call (.Attribute o "get" b) (e::es) [] c) (Ap w f):=(Fq C ho ha n p j hs i).wk<|by
 rintro V H Q ⟨A,m,T,B,N,t⟩;refine⟨A,m,_,B,N,λr m1 v W k n1 R rr M=>?_⟩;obtain⟨s,O,G,k⟩:=k;obtain⟨a,rfl,dc0⟩:=RelR.dc R rr O G;refine⟨a,s,rfl,dc0,A,m1,_,R,k,λrs m2 vs S y n2 q h F=>?_⟩;obtain⟨l,L,z,rfl,J,ok,y⟩:=y;have K:isKd l=true\/kyA l=true:=by
  rcases jd ok with z|z
  .exact .inl z.1
  .exact .inr z.1
 obtain⟨U,E,dc⟩:=RelR.dc q (rr.keep B R F) J K;cases E
 cases h with
 | cons I h=>
  cases h with
  |cons P h=>
   cases h;refine⟨l,L,_,_,rfl,dc,ok,I,λv D=>t _ m2 v S y (n2.trans n1) q ?_ (M.trans F)⟩;rcases D with⟨d,u,hd⟩|⟨u,rfl⟩
   .rw[u];exact hd
   .rw[u];exact P
noncomputable def oInD(n:Bool):WO:=λr1 r m K=>cx (λk=>∃a,dcM m a r/\oneK a k=true/\K (.imm (.bool (if n=true then !(bZ k a).isSome else(bZ k a).isSome)))) r1
theorem J9(h:X.A.units+64<cLine)(n:Bool):OpR X (abr (if n=true then .NotIn else .In)) (rM X.kx (oInD n)):=by
 rintro p s B H x y v u Q I r C ⟨E,m,G,L,J,r1,D,K,R,i,l,ho,d⟩;obtain⟨k,rfl,t,j,A,ok,ho⟩:=dB i ho;obtain⟨a,rfl,dc⟩:=RelR.dc R l A (by
  rcases jd ok with z|z
  .exact .inl z.1
  .exact .inr z.1)
 cases (C);exact VN h I dc ok t r n λF q=>⟨.bl _,H,q,rfl,d _ _ H ho R (om _) (Frm.refl _ _)⟩
theorem mH(h:X.A.units+64<cLine):OpR X (abr .NotIn) (rM X.kx (oInD true)):=J9 h true
theorem jS(j:X.A.units+64<cLine)(ho:EE X o w)(ha:EA X (e::es) f)
  (a:abg o "get" X.env (eval o X.env)=eval o X.env:=by rfl)
  (i:((ab1 c (aad (e::es) X.env)).all (λx=>!x.1)&&(afq c (adA [] X.env)).all (λx=>x.1.isSome)
   && decide ((e::es).length+([]:List adi).length+(if ([]:List adi).isEmpty then 0 else 1)<30))=true:=by rfl)
  (d:(b.endLine==c.line)=true:=by rfl) (hs:aad (e::es) X.env=(false,eval e X.env)::aad es X.env:=by first|exact aE rfl|rfl) (h:(ab1 c (aad es X.env)).any (·.1)=false:=by rfl) :
  EE X (.Call (.Attribute o "get" b) (e::es) [] c) (Ap w f):=⟨GQ j ho.h ha.h a i d hs h⟩
end
section
variable {X:Cx}{i:Expr}{a:WE}{w:WS}{b:List Stmt}{pos np:Pos}{x:Str}{c:Nat}
theorem ue{e:WA}{m:MSt}{Q:R->MSt->Prop}(h:a m λr m1=>∃d,dcM m1 d r/\(isKd d=true\/kyA d=true)/\e m1 λrs m2=>∃kvs k z,rs=[.imm k,.imm z]/\dcM m2 kvs r/\oneK kvs k=true/\Q (.imm ((bZ k kvs).getD z)) m2):Ap a e m Q:=h
end
structure Stp(S:List Addr)(e:Addr)(To:Option Addr)(h h':aaM):Prop where
 same:∀b o,h.get? b=some o->b≠e->some b≠To->b∉S->h'.get? b=some o
 slot:∀b o,h.get? b=some o->b≠e->some b≠To->∃sl,h'.get? b=some {o with slots:=sl}
 there:∀b o,h.get? b=some o->∃o',h'.get? b=some o'
structure XF(F:Addr->Prop)(H:Hp)(h:aaM)(e:Addr)(C:mT)(dct:Option Addr):Prop where
 new:F e
 un:H e=none
 obj:∃oe vs,h.get? e=some oe/\oe.cls=C/\oe.dict=dct/\oe.data = .fields vs/\
  (vs[1]?=some .none\/∃T oT ts,vs[1]?=some (.ref T)/\F T/\T≠e/\H T=none/\h.get? T=some oT/\oT.data = .fields ts/\ts[3]?=some .none)
theorem Ay(o:Obj)(f):(o.mapFields f).dict=o.dict:=by
 obtain⟨c,d,a,s⟩:=o
 cases a<;>rfl
section
variable {M:Model}{A:aa4}{E:mT->oR->Prop}{s:oR}{base:aaM}{env:Env}{outer:List Env}{L e:Addr}
theorem qV{k:Obj}{vs:Array mT}{c:mT}{d:Bool}{Q:Unit->oR->Prop}(q:A.frames=some (env::outer))(w:s.heap.FunFrames base (env::outer))(F:env.frame=some L)
  (v:s.heap.get? e=some k) (hd:k.data = .fields vs) (hsz:1<vs.size)
  (h:∀(h':aaM) (T:Addr) (C:Obj) (ts:Array mT),Stp (frs (env::outer)) e none s.heap h'->h'.get? e=some (k.mapFields (·.setIfInBounds 1 (.ref T)))->s.heap.objs.size≤T->h'.get? T=some C->C.data = .fields ts->ts[3]?=some .none->T≠e->Q () {s with heap:=h' }) :
  wpAny M A (do let fr <- frameOf env;let p <- entryPlaceOf L d;let ne <- ag4 c fr .none (ace L) .none p;acM (.ref e) 1 ne) (λ_ s'=>wpAny M A (aga (.ref e) none) Q E s') E s:=by
 have G:e∉frs (env::outer):=λD=>by
  rcases w.mem D with⟨_,o,ho,r⟩;rw[v]at ho;cases ho;exact r vs hd
 refine aD (wpAny_frameOf_fun q w F λa s1=>aD (wpAny_entryPlaceOf λp t=>?_));refine aD (m:=ag4 _ _ _ _ _ _) (aaW ?_ (t.sizeOk5 _ _ _ _ _));have u:a.get? e=some k:=(s1.2.1 e G).trans v;generalize g:({cls:=.type "traceback",dict:=none,data:=.fields ([c,.ref L,.none,ace L,.none]++(if p.isEmpty then aam 6 ab0 else p)).toArray}:Obj)=j;have i:j.data = .fields ([c,.ref L,.none,ace L,.none]++(if p.isEmpty then aam 6 ab0 else p)).toArray:=by rw[<-g]
 have B:(a.push j).get? e=some k:=Ad _ u;refine adB B hd hsz ?_;have ne:a.objs.size≠e:=aaX (aaa u);have y:=abG hd (·.setIfInBounds 1 (abh a.objs.size));have z:=abf (acs (·.setIfInBounds 1 (abh a.objs.size))) B (ac0 y);have t3:((a.push j).update e (acs (·.setIfInBounds 1 (abh a.objs.size)))).get? a.objs.size=some j:=by
  rw[aaY _ _ (aa5 ne)];exact aaf a (by rw[<-g];rfl)
 unfold aga;refine aD (aaO z y (x:=.ref a.objs.size) (by simp[hsz]) ?_);rw[if_pos (show(abh a.objs.size != ab0)=true by rfl)];have l:3<([c,.ref L,.none,ace L,.none]++(if p.isEmpty then aam 6 ab0 else p)).toArray.size:=by
  rw[aaw,aap];simp only[aaz]<;>omega
 refine adB t3 i l (h _ a.objs.size _ _ ?_ ?_ ?_ (abf _ t3 (ac0 (abG i _))) (abG i _) (by simp[l]) ne)
 .have go:∀b o,b≠e->a.get? b=some o->(((a.push j).update e (acs (·.setIfInBounds 1 (abh a.objs.size)))).update a.objs.size (acs (·.setIfInBounds 3 ((none:Option Addr).elim ab0 λf=>ace f)))).get? b=some o:=λb o n hb=>by
   rw[aaY _ _ (aaX (aaa hb)),aaY _ _ (aa5 n)];exact Ad j hb
  refine⟨λb o hb n _ H=>go b o n ((s1.2.1 b H).trans hb),λb o hb n _=>?_,λb o hb=>?_⟩
  .obtain⟨sl,hs⟩:=s1.2.2 b o hb;exact⟨sl,go b _ n hs⟩
  .by_cases n:b=e
   .subst n;exact⟨_,by rw[aaY _ _ ne];exact z⟩
   .obtain⟨sl,hs⟩:=s1.2.2 b o hb;exact⟨_,go b _ n hs⟩
 .rw[aaY _ _ ne];exact z
 .rw[s1.1];exact Dl _
theorem v3{Q:Unit->oR->Prop}(k:A.frames=some (env::outer))(w:s.heap.FunFrames base (env::outer))(G:env.frame=some L)
  (x:XF F H s.heap e C dct) (hok:∀T,s.heap.objs.size≤T->H T=none/\F T)
  (h:∀h' J,(∀T,J=some T->F T/\H T=none)->Stp (frs (env::outer)) e J s.heap h'->XF F H h' e C dct->Q () {s with heap:=h' }) :
  wpAny M A (ahI (.ref e) env) (λ_ s'=>wpAny M A (aga (.ref e) none) Q E s') E s:=by
 obtain⟨new,un,oe,vs,p,K,m,hd,S⟩:=x;have eS:e∉frs (env::outer):=λy=>by
  rcases w.mem y with⟨_,o,ho,d⟩;rw[p]at ho;cases ho;exact d vs hd
 have t:∀{a:Obj}{v:Array mT}{h':aaM}{T:Addr}{g:Obj}{ts:Array mT},a.cls=C->a.dict=dct->a.data = .fields v->1<v.size->h'.get? e=some (a.mapFields (·.setIfInBounds 1 (.ref T)))->s.heap.objs.size≤T->h'.get? T=some g->g.data = .fields ts->ts[3]?=some .none->T≠e->XF F H h' e C dct:=
  λ{a v h' T g ts} P U N O a1 a2 j l q r=>⟨new,un,_,_,a1,by rw[ahx];exact P,by rw[Ay];exact U,abG N _,.inr ⟨T,g,ts,by simp[O],(hok T a2).2,r,(hok T a2).1,j,l,q⟩⟩
 unfold ahI;simp only[G];rcases S with f|⟨T,g,ts,f,Y,R,B,i,u,t3⟩
 .refine aD (aaO p hd f ?_);rw[if_neg (by decide)];refine qV k w G p hd (abu.mp f).1 λh' T g ts st a1 a2 j l q r=>?_;exact h h' none (λ_ z=>by cases z) st (t K m hd (abu.mp f).1 a1 a2 j l q r)
 .refine aD (aaO p hd f ?_);rw[if_pos (show(abh T != ab0)=true by simp)];refine aD (aaO i u t3 ?_);rw[if_neg (show ¬((ab0==ace L)=true) by simp[ace])];refine aD (adB i u (abu.mp t3).1 ?_);have c:∀b,b≠T->(s.heap.update T (acs (·.setIfInBounds 3 ab0))).get? b=s.heap.get? b:=λb hb=>aaY _ _ (aa5 hb);have TS:T∉frs (env::outer):=λy=>by
   rcases w.mem y with⟨_,o,ho,d⟩;rw[i]at ho;cases ho;exact d ts u
  have I:(s.heap.update T (acs (·.setIfInBounds 3 ab0))).FunFrames base (env::outer):=w.of_keeps λb o hb d=>⟨o,(c b λz=>by subst z;rw[i]at hb;cases hb;exact d ts u).trans hb,rfl⟩;refine qV (s:={s with heap:=s.heap.update T (acs (·.setIfInBounds 3 ab0))}) k I G ((c e (aa5 R)).trans p) hd (abu.mp f).1 λh' X W V st a1 a2 j l q r=>?_;have D:s.heap.objs.size≤X:=aaj (ahu (adG ..).symm) a2;refine h h' (some T) (λT0 z=>by cases z;exact⟨Y,B⟩) ⟨λb o hb ne n Z=>?_,λb o hb ne n=>?_,λb o hb=>?_⟩ (t K m hd (abu.mp f).1 a1 D j l q r)
  .exact st.same b o ((c b λz=>n (by rw[z])).trans hb) ne (λz=>by cases z) Z
  .exact st.slot b o ((c b λz=>n (by rw[z])).trans hb) ne (λz=>by cases z)
  .by_cases bT:b=T
   .subst bT;exact st.there b _ (abf _ i (ac0 (abG u _)))
   .exact st.there b o ((c b bT).trans hb)
end
theorem Inv.stepN{s:oR}{g':Array GenState}{t':Nat}{d':Drawn}{ch:List Addr}(I:Inv X pins σ H s)
  (f:∀b∈ch,(b∈X.ex\/X.s₀.heap.get? b=none)/\b≠X.env.locals/\(∀x c,X.env.cells.lookup x=some c->c≠b)/\∀p∈X.pn++pins,p.1≠b)
  (keep:∀b o,b≠X.env.locals->b∉X.fs->b∉ch->s.heap.get? b=some o->H b=none->h'.get? b=some o)
  (slot:∀b o,b≠X.env.locals->b∈X.fs->b∉ch->s.heap.get? b=some o->H b=none->∃B,h'.get? b=some {o with slots:=B}) (free:∀b o,b∉ch->s.heap.get? b=some o->H b=none->H' b=none)
  (there:∀b o,b∉ch->s.heap.get? b=some o->∃w,h'.get? b=some w)
  (tups:∀b xs,H b=some (.tup xs)->H' b=some (.tup xs)) (frzs:∀b o u,H b=some (.frz o u)->H' b=some (.frz o u)) (tbls:∀b ps,H b=some (.tbl ps)->∃more,H' b=some (.tbl (ps++more)))
  (ns:∀m,s.heap.Ns X.env.locals m->h'.Ns X.env.locals m) (hok:HOk X.prog X.w H' h') (F:aeI g') :
  Inv X pins σ H' {s with heap:=h',gens:=g',drawn:=d',toks:=t' }:=by
 have A:∀b o,X.s₀.heap.get? b=some o->b≠X.env.locals:=λb o e=>aaG (aah (aaa e) I.ok.above);have t:∀b o,X.s₀.heap.get? b=some o->b∉X.ex->b∉ch:=λb o e h hb=>by
  rcases (f b hb).1 with z|z
  .exact h z
  .rw[z]at e;cases e
 have a:∀x c,X.env.cells.lookup x=some c->∀v,s.heap.IsCell c v->h'.IsCell c v:=by
  rintro x c e v ⟨o,ho,hd⟩;have g:c∉ch:=λz=>(f c z).2.2.1 x c e rfl
  by_cases D:c∈X.fs
  .obtain⟨B,q⟩:=slot c o (I.cne x c e) D g ho (I.freeC x c e);exact⟨_,q,hd⟩
  .exact⟨o,keep c o (I.cne x c e) D g ho (I.freeC x c e),hd⟩
 refine⟨I.ok,I.os,F,⟨λb o e n hb h=>?_,λb o e n hb h=>?_,λb o e n h=>?_,λb o e h=>?_,λb xs e=>tups b xs (I.base.tups b xs e),λb o xs e=>frzs b o xs (I.base.frzs b o xs e),λb ps e=>?_⟩,?_,λx c e=>?_,?_,λx c e=>?_,λp hp=>?_,hok,I.len⟩
 .exact keep b o (A b o e) hb (t b o e h) (I.base.keep b o e n hb h) (I.base.free b o e n h)
 .obtain⟨B,j⟩:=I.base.slot b o e n hb h;obtain⟨C,y⟩:=slot b _ (A b o e) hb (t b o e h) j (I.base.free b o e n h);exact⟨C,y⟩
 .obtain⟨w,j⟩:=I.base.there b o e h;exact free b w (t b o e h) j (I.base.free b o e n h)
 .obtain⟨w,j⟩:=I.base.there b o e h;exact there b w (t b o e h) j
 .obtain⟨m1,j⟩:=I.base.tbls b ps e;obtain⟨m2,y⟩:=tbls b _ j;exact⟨m1++m2,by rw[y,ahe]⟩
 .obtain⟨m,hn,hl⟩:=I.loc;refine⟨m,ns m hn,λi x v j y E=>?_⟩;obtain⟨u,r,l⟩:=hl i x v j y E;refine⟨u,r,?_⟩;rcases l with l|⟨k,c,e,z⟩
  .exact .inl l
  .exact .inr ⟨k,c,e,a x c e _ z⟩
 .obtain⟨v,z⟩:=I.cell x c e;exact⟨v,a x c e v z⟩
 .obtain⟨m,⟨o,_,_,ho,_⟩,_⟩:=I.loc;exact free _ o (λz=>(f _ z).2.1 rfl) ho I.free
 .obtain⟨v,o,ho,hd⟩:=I.cell x c e;exact free c o (λz=>(f c z).2.2.1 x c e rfl) ho (I.freeC x c e)
 .obtain⟨e,n,ne,nf,d⟩:=I.pin p hp;have g:p.1∉ch:=λz=>(f p.1 z).2.2.2 p hp rfl;exact⟨keep p.1 p.2 ne nf g e n,free p.1 p.2 g e n,ne,nf,d⟩
noncomputable def Yg(X:Cx)(a:List (Addr×Obj))(b:Addr):Prop:=X.s₀.heap.get? b=none/\b≠X.env.locals/\(∀x c,X.env.cells.lookup x=some c->c≠b)/\∀p∈X.pn++a,p.1≠b
theorem Inv.yg{s:oR}(I:Inv X pins σ H s)(h:X.ex=[])(hb:s.heap.get? b=none):Yg X pins b:=by
 refine⟨?_,λz=>?_,λx c e z=>?_,λp hp z=>?_⟩
 .cases q:X.s₀.heap.get? b with
  |none=>rfl
  |some o=>
   obtain⟨a,e⟩:=I.base.there b o q (by simp_all)
   grind
 .obtain⟨m,⟨o,es,ep,ho,_⟩,_⟩:=I.loc
  grind
 .obtain⟨v,o,ho,_⟩:=I.cell x c e
  grind
 .have:=(I.pin p hp).1
  grind
theorem Inv.noted{s:oR}(I:Inv X pins σ H s)(A:X.stack=X.env::X.outer)(g:Yg X pins e)(C:H e=none)(B:∀T,To=some T->Yg X pins T/\H T=none)
  (st:Stp (frs (X.env::X.outer)) e To s.heap h'):Inv X pins σ H {s with heap:=h' }:=by
 have ch:∀b,b∉e::To.toList->b≠e/\some b≠To:=λb hb=>⟨λz=>hb (by rw[z];exact GE),λz=>hb (by rw[<-z];simp)⟩;have un:Un (frs X.stack) (e::To.toList) H H s.heap h':=⟨λb o q n nf a=>st.same b o q (ch b a).1 (ch b a).2 (by rw[<-A];exact nf),λb o q n nf a=>st.slot b o q (ch b a).1 (ch b a).2,λb o q n a=>n,λb o q a=>st.there b o q,λ_ _ q=>q,λ_ _ _ q=>q,λb ps q=>⟨#[],by rw[q];simp⟩⟩;have f:∀b∈e::To.toList,(b∈X.ex\/X.s₀.heap.get? b=none)/\b≠X.env.locals/\(∀x c,X.env.cells.lookup x=some c->c≠b)/\∀p∈X.pn++pins,p.1≠b:=λb hb=>by
  rcases aai.mp hb with z|z
  .subst z;exact⟨.inr g.1,g.2.1,g.2.2.1,g.2.2.2⟩
  .have:=(B b (by simpa using z)).1;exact⟨.inr this.1,this.2.1,this.2.2.1,this.2.2.2⟩
 have hok:HOk X.prog X.w H h':=λb u q=>by
  have out:∀c v,H c=some v->c≠e/\some c≠To/\c∉frs (X.env::X.outer):=λc v z=>by
   refine⟨λy=>(by rw[y,C]at z;cases z),λy=>?_,λy=>?_⟩
   .rw[(B c y.symm).2]at z;cases z
   .rw[<-A]at y;rw[I.stkFree c y]at z;cases z
  refine(I.hok b u q).stay (λc v h y=>?_) (λ_ y=>y) λ_ _ y=>y;rcases h with z|z
  .subst z;obtain⟨i,w,j⟩:=out c u q;exact st.same c v y i w j
  .obtain⟨i,w,j⟩:=out c _ z;exact st.same c v y i w j
 obtain⟨m,⟨o,J,G,ho,r⟩,_⟩:=id I.loc;obtain⟨K,l⟩:=un.any ho I.free λz=>(f _ z).2.1 rfl;exact I.stepN (g':=s.gens) (d':=s.drawn) (t':=s.toks) (ch:=e::To.toList) f (λb o l hb h q n=>un.keep b o q n (λz=>(aai.mp (I.stkSub b z)).elim l hb) h) (λb o _ _ h q n=>un.any q n h) (λb o h q n=>un.free b o q n h) (λb o h q=>un.there b o q h) un.tups un.frzs un.tbls (λL D=>by
  obtain⟨F,t,k,d,E⟩:=D;rw[ho]at d;cases d;exact⟨_,t,k,l,E⟩) hok I.bare
noncomputable def CXE(P:aaB)(w:World):CXT:=λouter H s E e a=>∃f C d c,e = .ref f/\a.os=s.os/\aeI a.gens/\Un (frs outer) [] H c s.heap a.heap/\HOk P w c a.heap/\XF (λb=>s.heap.get? b=none) c a.heap f C d/\E C d c
theorem XF.imp{d:Addr->Prop}(x:XF F H h e C dct)(k:∀b,F b->d b):XF d H h e C dct:=by
 obtain⟨n,u,g,vs,i,j,hd,f,t⟩:=x;refine⟨k _ n,u,g,vs,i,j,hd,f,?_⟩;rcases t with t|⟨T,o,ts,a,b,c⟩
 .exact .inl t
 .exact .inr ⟨T,o,ts,a,k _ b,c⟩
section
variable {P:aaB}{w:World}{K:Mt}{mg:Str->Option mT}{base:aaM}{N:List Str}{qual:Str}{scope:Scope}{f:Addr}{c:mT}{A:aa4}{outer:List Env}{a:oR}{d:Hp}{E:XK}
theorem Fi{s:oR}(I:Inv (cxOf (CXE P w) P w K mg base N qual scope f c A outer a d E) pins σ H s)(x:XF (Yg (cxOf (CXE P w) P w K mg base N qual scope f c A outer a d E) pins) H s.heap e C dct)(j:E C dct H) :
  (cxOf (CXE P w) P w K mg base N qual scope f c A outer a d E).xe (.ref e) s:=by
 refine aD (v3 I.ok.frames I.stack rfl x (λT i=>⟨I.hok.fresh i,I.yg rfl (acv i)⟩) λm l h st k=>?_);have g:=I.noted rfl x.new x.un h st;exact⟨e,C,dct,H,rfl,g.os,g.bare,g.base,g.hok,k.imp λb z=>z.1,j⟩
end
theorem Inv.raised{s:oR}{E:XK}{e:mT}(I:Inv X pins σ H s)(g:X.ex=[])(h:CXE X.prog X.w X.stack H s E e s'):∃c C d a,e = .ref c/\Inv X pins σ a s'/\XF (Yg X pins) a s'.heap c C d/\E C d a/\Un (frs X.stack) [] H a s.heap s'.heap:=by
 obtain⟨c,C,d,a,rfl,ho,i,un,hok,x,f⟩:=h;exact⟨c,C,d,a,rfl,I.call' ho un hok i (λb z=>by cases z),x.imp λb hb=>I.yg g hb,f,un⟩
noncomputable def ExcD(K:Kd)(H e:Hp)(C:mT)(a:Option Addr)(d:dL):Prop:=∃c b k,d = .dict ((.none,.str c)::k)/\C = .ref b/\ClsN K c b/\((a=none/\k=[])\/∃dx x,a=some dx/\e dx=some (.xd x)/\H dx=none/\DenXF K e k x)
theorem ExcD.back{be:Al}{a:Hp}{d:dL}(h:ExcD K H H' C dct d)(x:Ext n be a α H):ExcD K a H' C dct d:=by
 obtain⟨c,j,k,p,i,l,z⟩:=h;refine⟨c,j,k,p,i,l,?_⟩;rcases z with z|⟨dx,b,g,f,r,m⟩
 .exact .inl z
 .refine .inr ⟨dx,b,g,f,?_,m⟩
  cases q:a dx with
  |none=>rfl
  | some o=>
   by_cases hb:dx∈ads be
   .obtain⟨o',e⟩:=x.old dx hb
    grind
   .have:=x.frm dx o q hb
    grind
structure XL(X:Cx)(Ex:dL->MSt->Prop):Prop where
 go:∀(pins:List (Addr×Obj)) (σ:St) (H H':Hp) (α:Al) (m:MSt) (d:dL) (s':oR) (e:Addr) (C:mT) (dct:Option Addr),Rel X.kx α m σ H->Ex d m->Pers H H'->Ext 0 α H [] H'->Inv X pins σ H' s'->XF (Yg X pins) H' s'.heap e C dct->ExcD X.kd H H' C dct d->X.xe (.ref e) s'
 ex:X.ex=[]
theorem RelAs.mem:∀{as:List Ag}{vs:List V}{β:Al},RelAs K H as vs β->∀{a:Addr},a∈ads β->∃o,H a=some o
 |_,_,_,.nil,_,h=>by cases h
 |_,_,_,.imm _ t,_,h=>t.mem h
 |_,_,_,.own g t,a,h=>by
  rcases aaK.mp (h)with z|z
  .obtain⟨o,e,_⟩:=g.mem z;exact⟨o,e⟩
  .exact t.mem z
 |_,_,_,.tr g _ t,a,h=>by
  rcases aaK.mp (h)with z|z
  .obtain⟨o,e,_⟩:=g.mem z;exact⟨o,e⟩
  .exact t.mem z
noncomputable abbrev SpX:=List Ag->(R->List (List dL)->Prop)->(dL->Prop)->Prop
noncomputable def spOfX(K:Kd)(n:Nat)(sp:SpX):Sp:=λvs H Q E=>∃e b f g,e.length=n/\(ads b).Nodup/\RelAs K H e vs b/\sp e f g/\(∀r o v a,f r o->rl K a b o->RelR K b H a r v->Frm b H a->Q v a)/\∀d C c a,g d->ExcD K H a C c d->Ext 0 b H [] a->E C c a
theorem spOfX.len{sp:SpX}{vs:List V}{Q:VK}{E:XK}(h:spOfX K n sp vs H Q E):vs.length=n:=by
 obtain⟨d,c,b,e,a,_,r,_⟩:=h;rw[<-r.length];exact a
structure FnX(P:aaB)(w:World)(K:Mt)(mg:Str->Option mT)(base:aaM)(x:Str)(k n:Nat)(sp:SpX):Prop where
 ex:∃(f:Addr) (fd:ab6) (ps:List Str),FnOk P w K mg base (CXE P w) k f fd ps (spOfX ⟨K,w⟩ n sp)/\mg x=some (.ref f)/\abV K (.ref f)=true/\Binds K fd ps []
 ar:∀as Kc Ke,sp as Kc Ke->as.length=n
noncomputable abbrev Cx.wEb(X:Cx)(b:EB):Cx:={X with eb:=b}
section
variable {X:Cx}{p:List (Addr×Obj)}{a:St}{H:Hp}{s:oR}{b:EB}
theorem Cx.Ok.wEb(ok:X.Ok)(b:EB):(X.wEb b).Ok:=⟨ok.mod,ok.kind,ok.glob,ok.blt,ok.above,ok.inj,ok.has,ok.cab,ok.hd,ok.frames,ok.stk,ok.exf,ok.bs,ok.bsz,ok.noex,ok.exfs,ok.funs,ok.frf⟩
theorem Cx.Ok.unEb(ok:(X.wEb b).Ok):X.Ok:=⟨ok.mod,ok.kind,ok.glob,ok.blt,ok.above,ok.inj,ok.has,ok.cab,ok.hd,ok.frames,ok.stk,ok.exf,ok.bs,ok.bsz,ok.noex,ok.exfs,ok.funs,ok.frf⟩
theorem Inv.wEb(I:Inv X p a H s)(b:EB):Inv (X.wEb b) p a H s:=⟨I.ok.wEb b,I.os,I.bare,I.base,I.loc,I.cell,I.free,I.freeC,I.pin,I.hok,I.len⟩
theorem Inv.unEb(I:Inv (X.wEb b) p a H s):Inv X p a H s:=⟨I.ok.unEb,I.os,I.bare,I.base,I.loc,I.cell,I.free,I.freeC,I.pin,I.hok,I.len⟩
theorem SP.unEb{f:Flow}(h:SP (X.wEb b) p D f s'):SP X p D f s':=by
 cases f with
 |next=>obtain⟨c,d,I,q⟩:=h;exact⟨c,d,I.unEb,q⟩
 |brk=>obtain⟨c,d,I,q⟩:=h;exact⟨c,d,I.unEb,q⟩
 |cont=>obtain⟨c,d,I,q⟩:=h;exact⟨c,d,I.unEb,q⟩
 |ret u=>obtain⟨v,c,d,I,r,q⟩:=h;exact⟨v,c,d,I.unEb,r,q⟩
theorem PSs.unEb{st:List Stmt}{t:TS}(h:PSs (X.wEb b) st t):PSs X st t:=λp s a H D I c=>abP (h p s a H D (I.wEb b) c) (λ_ _ q=>q.unEb) λ_ _ z=>z
end
theorem Pk{K:Mt}{base:aaM}{qual:Str}{scope:Scope}{f:Addr}{i:mT}{outer:List Env}{s:oR}{E:XK}{np:Nat}{β:Al}{c:dL->Prop}(h:∀d C a b,c d->ExcD ⟨K,w⟩ H b C a d->Ext 0 β H [] b->E C a b) :
  XL ((cxOf (CXE P w) P w K mg base N qual scope f i A outer s H E).wEb ⟨np,β,H⟩) λd _=>c d:=
 ⟨λp n o b j m d l e C a R k _ g I x xd=>Fi I.unEb x (h d C a b k (xd.back R.ebx) ((R.ebx.less (abC _)).trans g)),rfl⟩
theorem Vm{K:Kx}{nN:Nat}{w:WS}{as:List Ag}{vs:List V}{β:Al}{g:R->List (List dL)->Prop}{Q:VK}(p:K.eb=⟨(agO as).length,β,H⟩)(A:as.length=n)(nd:(ads β).Nodup)(c:RelAs K H as vs β)(f:∀r o v b,g r o->rl K b β o->RelR K β H b r v->Frm β H b->Q v b)(t:N.length=nN)(k:n≤nN)
  (u:w {nx:=λm=>g (.imm .none) (m.os.take m.np),rt:=λr m=>retK g m r} (fq nN as)):tMS K w {nx:=λ_ b=>Q .non b,rt:=Q} (start N vs) H:=by
 have s:=p6 t k A nd c (by rw[p];exact Dl _) (by rw[p];exact⟨rfl,Frm.refl _ _,λ_ h=>.inl h,λa ha=>RelAs.mem c ha⟩);refine⟨β,fq nN as,_,s,u,⟨λj y i b q d e x=>?_,λr j y i v b q d e rr x=>?_,λ_ _ _ _ z=>z.elim,λ_ _ _ _ z=>z.elim⟩⟩
 .obtain⟨O,F,_⟩:=jG c d e x;exact f _ _ .non b q O ve F
 .obtain⟨O,F,eβ⟩:=jG c d e x;have l:=retK.ok q;exact f _ _ v b l.2 O (yP d e x eβ rr l.1.at) F
theorem Fun.okX{K:Mt}{base:aaM}{qual:Str}{st:Stmt}{f:Addr}{fd:ab6}{k:Nat}{sp:Sp}{CX:CXT}(F:Fun K x qual st f fd)(S:FnScope N ps (ac st))(len:∀vs H Q E,sp vs H Q E->vs.length=ps.length)
  (h:∀(c:mT) (A:aa4) (outer:List Env) (s:oR) (H:Hp) (vs:List V) (Q:VK) (E:XK),Room k (A.deeper (ad5 qual (ac st) s.heap.objs.size f c))->sp vs H Q E ->
   ∃t,PSs (cxOf CX P w K mg base N qual (ac st) f c A outer s H E) (bO st) t/\t {nx:=λ_ d=>Q .non d,rt:=Q} (start N vs) H):FnOk P w K mg base CX (k+1) f fd ps sp:=by
 obtain⟨g,i,kV,e,pm,an,c,ct,o,rfl,l,b⟩:=F.ex;exact Ql l b S len λA outer s H vs Q E hr a=>h c A outer s H vs Q E hr a
theorem OJ{K:Mt}{base:aaM}{st:Stmt}{nN k:Nat}{sp:SpX}(D:DefM K mg x st ps)(S:FnScope N ps (ac st))(B:ps.length=n)(t:N.length=nN)(o:n≤nN)(ar:∀as a g,sp as a g->as.length=n)
  (e:∀(c:mT) (A:aa4) (outer:List Env) (s:oR) (H:Hp) (E:XK) (f:Addr) (b:EB) (g:dL->Prop),Room k (A.deeper (ad5 x (ac st) s.heap.objs.size f c))->XL ((cxOf (CXE P w) P w K mg base N x (ac st) f c A outer s H E).wEb b) (λd _=>g d) ->
   ∃l,MSs ((cxOf (CXE P w) P w K mg base N x (ac st) f c A outer s H E).wEb b) (bO st) l/\∀as a,as.length=n->sp as a g->l {nx:=λm=>a (.imm .none) (m.os.take m.np),rt:=λr m=>retK a m r} (fq nN as)) :
  FnX P w K mg base x (k+1) n sp:=by
 obtain⟨f,fd,F,q,hb⟩:=D.ex;refine⟨⟨f,fd,ps,F.okX S (λvs H Q E h=>by rw[B];exact h.len) (λc A outer s H vs Q E hr h=>?_),q,F.kp,hb⟩,ar⟩;obtain⟨as,C,a,g,p,nd,z,i,j,y⟩:=h;obtain⟨l,u,v⟩:=e c A outer s H E f _ g hr (Pk y);exact⟨_,PSs.unEb u,Vm rfl p nd z j t o (v as a p i)⟩
section
variable {X:Cx}{a:Expr}{es:List Expr}{w:WA}{pos p:Pos}{k n:Nat}{sp:SpX}{x:Str}{E:dL->MSt->Prop}
noncomputable def BH(sp:SpX)(E:dL->MSt->Prop)(w:WA):WE:=λm K=>w m λrs m1=>match e8 m1 rs with
 |some (as,ks)=>ks.Nodup/\sp as (λr o=>K (mapR ks r) {m1 with os:=cb m1.os ks o}) λd=>E d m1
 |none=>False
theorem GJ(F:FnX X.prog X.w X.K X.mg X.base x k n sp)(hx:XL X E)(hr:Room k X.A)(ha:MA X (a::es) w)(hg:Gl X x:=by rfl)(Z:(x==("__debug__" : Str))=false:=by decide)(he:aad (a::es) X.env=(false,eval a X.env)::aad es X.env:=by first|exact aE rfl|rfl)(V:(ab1 pos (aad es X.env)).any (·.1)=false:=by rfl) :
  ME X (.Call (.Name x p) (a::es) [] pos) (BH sp E w):=by
 obtain⟨f,fd,ps,G,S,hk,hb⟩:=F.ex;intro l s σ H Q I h;obtain⟨t,m,Kc,Rl,hw,U⟩:=h;refine acW (j7 I hg S ?_ Z);refine afp (h₀:=X.base) I.ok.mod.kin hk (thn (ha pos l s σ H _ I ⟨t,m,_,Rl,hw,λrs m1 vs g y n1 R rr L=>(⟨m1,rs,y,n1,R,rr,L⟩:∃m1 rs,(match e8 m1 rs with|some (as,ks)=>ks.Nodup/\sp as _ (λd=>E d m1)|none=>False)/\m1.np=m.np/\Rel X.kx t m1 σ g/\RelRs X.kx t H g rs vs/\Frm t H g)⟩) λM s1 ⟨vs,g,A,r,q⟩=>⟨A.kIn,?_⟩) he V;obtain⟨m1,rs,y,n1,R,rr,L⟩:=q
 cases e:e8 m1 rs with
 |none=>rw[e]at y;exact y.elim
 | some q=>
  obtain⟨as,ks⟩:=q;rw[e]at y;obtain⟨nd,D⟩:=y;obtain⟨N,ra,P⟩:=fX R rr e;have hQ:spOfX X.kd n sp vs g (λv c=>Q v c) λC i c=>∃d,E d m1/\ExcD X.kd g c C i d/\Ext 0 N g [] c:=
   ⟨as,N,_,_,F.ar _ _ _ D,dI R.nd nd P,ra,D,λr outs v c Y O W F=>by
    obtain⟨T,F2⟩:=uI R nd P O F;exact U _ _ v c Y n1 T ((vD P W).base R L) (L.trans F2),λd C i c k xd K=>⟨d,k,xd,K⟩⟩
  have hl:M.length=ps.length:=by rw[<-r.length];exact G.len _ _ _ _ hQ
  refine ahg (adE (G.run X.A X.stack s1 g ⟨M,[]⟩ M vs _ _ hr A.env0 (by have:=hb s1 M A.kIn (by rw[aaV];exact hl);rwa[aaV]at this) r hQ) λr s' J=>?_)
  cases r with
  | error e=>
   obtain⟨ea,C,i,c,rfl,I',x,⟨d,k,xd,K⟩,un⟩:=A.raised hx.ex J;have sub:∀a∈ads N,a∈ads t:=λa ha=>by
    obtain⟨j,ao,ej,S⟩:=gF ha;obtain⟨k',_,e2⟩:=Paired.get2 P ej;exact ip e2 S
   refine hx.go l σ g c t m1 d s' ea C i R k ⟨un.tups,un.frzs⟩ ⟨rfl,λb o eb nb=>K.frm b o eb λz=>nb (sub b z),λa ha=>(by cases ha),λa ha=>?_⟩ I' x xd
   by_cases B:a∈ads N
   .exact K.old a B
   .obtain⟨o,eo,_⟩:=R.mem ha;exact⟨o,K.frm a o eo B⟩
  |ok fl=>
   cases fl with
   |ret u=>exact A.after J
   |next=>exact abQ J
   |brk=>exact abQ J
   |cont=>exact abQ J
end
theorem ObjOk.there{o:HO}(x:ObjOk P w H h a o):∃ob,h.get? a=some ob:=by
 cases o with
 |lst b=>obtain⟨_,_,_,_,e⟩:=x;exact⟨_,e⟩
 |tup b=>obtain⟨_,_,_,o,e,_⟩:=x;exact⟨_,e⟩
 |dK k=>obtain⟨_,_,_,_,o,_,_,e,_⟩:=x;exact⟨_,e⟩
 |dT k=>obtain⟨_,_,_,_,o,_,_,e,_⟩:=x;exact⟨_,e⟩
 |set S n=>obtain⟨o,_,_,_,e,_⟩:=x;exact⟨_,e⟩
 |ins C dx fs=>obtain⟨_,_,_,e,_⟩:=x;exact⟨_,e⟩
 |own y=>obtain⟨_,e⟩:=x;exact⟨_,e⟩
 |xd fs=>obtain⟨_,⟨_,_,_,e,_⟩,_⟩:=x;exact⟨_,e⟩
 |rng l d=>obtain⟨_,_,_,e⟩:=x;exact⟨_,e⟩
 |frz ob u=>obtain⟨e,_⟩:=x;exact⟨_,e⟩
 |tbl ps=>exact⟨_,(x)⟩
 |met f y=>exact⟨_,(x)⟩
 |ext c=>obtain⟨_,⟨_,e⟩,_⟩:=x;exact⟨_,e⟩
theorem HOk.nil(x:HOk P w H h)(e:h.get? a=none):H a=none:=by
 cases q:H a with
 |none=>rfl
 |some u=>
  obtain⟨ob,z⟩:=(x a u q).there
  grind
noncomputable abbrev Cx.tr(X:Cx)(xe:mT->oR->Prop)(pn:List (Addr×Obj))(b:EB):Cx:={X with xe:=xe,pn:=pn,eb:=b}
noncomputable abbrev Cx.sui(X:Cx)(e:Addr)(xe:mT->oR->Prop):Cx:={X with A:=X.A.mark (some (.ref e)),calm:=false,xe:=xe}
section
variable {X:Cx}{c d:List (Addr×Obj)}{g:St}{H:Hp}{s:oR}{xe:mT->oR->Prop}{b:EB}{e:Addr}
theorem Inv.tr(I:Inv X c g H s):Inv (X.tr xe (X.pn++c) b) [] g H s:=
 ⟨⟨I.ok.mod,I.ok.kind,I.ok.glob,I.ok.blt,I.ok.above,I.ok.inj,I.ok.has,I.ok.cab,I.ok.hd,I.ok.frames,I.ok.stk,I.ok.exf,I.ok.bs,I.ok.bsz,I.ok.noex,I.ok.exfs,I.ok.funs,I.ok.frf⟩,I.os,I.bare,I.base,I.loc,I.cell,I.free,I.freeC,λp hp=>I.pin p (by rwa[aaV]at hp),I.hok,I.len⟩
theorem Inv.untr(I:Inv (X.tr xe (X.pn++c) b) d g H s):Inv X c g H s:=
 ⟨⟨I.ok.mod,I.ok.kind,I.ok.glob,I.ok.blt,I.ok.above,I.ok.inj,I.ok.has,I.ok.cab,I.ok.hd,I.ok.frames,I.ok.stk,I.ok.exf,I.ok.bs,I.ok.bsz,I.ok.noex,I.ok.exfs,I.ok.funs,I.ok.frf⟩,I.os,I.bare,I.base,I.loc,I.cell,I.free,I.freeC,λp hp=>I.pin p (acw _ hp),I.hok,I.len⟩
theorem Yg.untr(y:Yg (X.tr xe (X.pn++c) b) d a):Yg X c a:=⟨y.1,y.2.1,y.2.2.1,λp hp=>y.2.2.2 p (acw _ hp)⟩
theorem SP.untr{f:Flow}(h:SP (X.tr xe (X.pn++c) b) [] D f s'):SP X c D f s':=by
 cases f with
 |next=>obtain⟨a,i,I,q⟩:=h;exact⟨a,i,I.untr,q⟩
 |brk=>obtain⟨a,i,I,q⟩:=h;exact⟨a,i,I.untr,q⟩
 |cont=>obtain⟨a,i,I,q⟩:=h;exact⟨a,i,I.untr,q⟩
 |ret u=>obtain⟨v,a,i,I,r,q⟩:=h;exact⟨v,a,i,I.untr,r,q⟩
theorem Inv.sui(I:Inv X c g H s):Inv (X.sui e xe) c g H s:=
 ⟨⟨I.ok.mod,I.ok.kind,I.ok.glob,I.ok.blt,I.ok.above,I.ok.inj,I.ok.has,I.ok.cab,λz=>(by cases z),I.ok.frames,I.ok.stk,I.ok.exf,I.ok.bs,I.ok.bsz,I.ok.noex,I.ok.exfs,I.ok.funs,I.ok.frf⟩,I.os,I.bare,I.base,I.loc,I.cell,I.free,I.freeC,I.pin,I.hok,I.len⟩
theorem Inv.unsui(I:Inv (X.sui e xe) c g H s)(ok:X.Ok):Inv X c g H s:=⟨ok,I.os,I.bare,I.base,I.loc,I.cell,I.free,I.freeC,I.pin,I.hok,I.len⟩
end
noncomputable def Lg:Option R->Option R
 |some (.imm d)=>some (.imm d)
 |_=>none
noncomputable def MSt.dropO(m:MSt):MSt:=⟨m.vs.map Lg,[],0⟩
section
variable {K:Kx}{b:Al}{m:MSt}{a:St}{H c:Hp}
theorem Rel.drop(R:Rel K b m a H)(p:Pers H c)(h0:K.eb.np=0)(x:Ext 0 K.eb.be K.eb.H [] c):Rel K [] m.dropO a c:=by
 refine⟨acy,rfl,λk l ds z=>by simp at z,by show a.length=(m.vs.map Lg).length;rw[gE];exact R.vlen,λi r z=>?_,Dl _,by rw[h0];exact Dl _,by rw[h0];exact x⟩;have f:(m.vs.map Lg)[i]?=some _:=z;rw[aae]at f
 cases q:m.vs[i]? with
 |none=>rw[q]at f;cases f
 | some o=>
  rw[q]at f;have e:=aal f
  cases o with
  |none=>cases e
  | some g=>
   cases g with
   |imm d=>
    cases e;obtain⟨v,j,h⟩:=R.var i _ q;exact⟨v,j,Den.mono p h⟩
   |obj _=>cases e
   | «at» _ _=>cases e
   |new _=>cases e
   |newT _=>cases e
theorem Rel.reEb{d:Kx}(R:Rel K b m a H)(e:d.toKd=K.toKd)(h:d.eb.np≤m.np)(l:Ext d.eb.np d.eb.be d.eb.H b H):Rel d b m a H:=
 ⟨R.nd,R.len,λk j ds g f=>by rw[e];exact R.own k j ds g f,R.vlen,λi r z=>by rw[e];exact R.var i r z,R.npl,h,l⟩
end
theorem Stp.mono{S a:List Addr}(x:Stp S e To h h')(k:∀b∈S,b∈a):Stp a e To h h':=⟨λb o q n1 n2 n=>x.same b o q n1 n2 λz=>n (k b z),x.slot,x.there⟩
theorem Fb{M:Model}{s:oR}{Q:Unit->oR->Prop}(x:XF F H s.heap e C dct)
  (h:∀h' p,(∀T,p=some T->F T/\H T=none)->Stp [] e p s.heap h'->XF F H h' e C dct->Q () {s with heap:=h' }):wpAny M A (aga (.ref e) none) Q E s:=by
 obtain⟨new,un,u,vs,i,t,g,hd,v⟩:=x;unfold aga;rcases v with c|⟨T,w,ts,c,r,m,d,k,j,t3⟩
 .refine aD (aaO i hd c ?_);rw[if_neg (by decide)];exact AD (h s.heap none (λ_ z=>by cases z) ⟨λ_ _ q _ _ _=>q,λ_ o q _ _=>⟨o.slots,q⟩,λ_ o q=>⟨o,q⟩⟩ ⟨new,un,u,vs,i,t,g,hd,.inl c⟩)
 .refine aD (aaO i hd c ?_);have sz:3<ts.size:=(abu.mp t3).1;refine adB k j sz ?_;have a:∀b,b≠T->(s.heap.update T (acs (·.setIfInBounds 3 ((none:Option Addr).elim ab0 λf=>ace f)))).get? b=s.heap.get? b:=λb hb=>aaY _ _ (aa5 hb);have n:=abf (acs (·.setIfInBounds 3 ((none:Option Addr).elim ab0 λf=>ace f))) k (ac0 (abG j _));refine h _ (some T) (λy z=>by cases z;exact⟨r,d⟩) ⟨λb o q _ n2 _=>(a b λz=>n2 (by rw[z])).trans q,λb o q _ n2=>⟨o.slots,(a b λz=>n2 (by rw[z])).trans q⟩,λb o q=>?_⟩ ⟨new,un,u,vs,(a e (aa5 m)).trans i,t,g,hd,.inr ⟨T,_,_,c,r,m,d,n,abG j _,by simp[sz]⟩⟩
  by_cases l:b=T
  .subst l;exact⟨_,n⟩
  .exact⟨o,(a b l).trans q⟩
noncomputable def SubX(K:Mt)(b c:Str):Prop:=∃a C:Addr,aat K aao b=some (some (.ref a))/\aat K aao c=some (some (.ref C))/\ah7 K (.ref a) (.ref C)=some true
end L2
namespace L2
open PySem PySem.Spec PyProof.Rows
open Sem (wp)
variable{K:Mt}{C fI:Addr}{mN:Str->Option mT}{Q:Unit->oR->Prop}{P:aaB}{w:World}{xs:List (Str×V)}{x:Str}
noncomputable def qY(K:Mt)(C:Addr)(b:List mT)(n:String)(fI:Addr):Bool:=match K.lookup C with
 |some ⟨.type "type",_,.cls ci,si⟩=>(match ci.mro,si.toList with
  | .ref C0::tl,[_,_,_,_,some (.builtin nq),_]=>C0==C&&(nq==n&&(!ci.hasDel&&(ci.hasDict&&(PySem.W.tailIn K b tl&&(PySem.W.nsOkIn K ci.ns&&(aat K ci.ns "__init__" == some (some (.ref fI))))))))
  |_,_=>false)
 |_=>false
theorem qt{h:aaM}{f:List mT}{n:String}(X:K.In h)(q:qY K C f n fI=true) :
  ∃p N y q bs u sub v e s i k m r j mN,h.get? C=some (afM y q C N bs p true u sub v e s i k m r j n)/\h.Ns N mN/\mN "__init__" = some (.ref fI)/\OwnTail h f p:=by
 unfold qY at q
 split at q
 .rename_i s cd sl ho
  split at q
  .rename_i C0 p i k m r nq j hm hs;simp at q;obtain⟨rfl,rfl,b,g,F,hok,a⟩:=q;rcases cd with⟨y,bs,E,ns,A,hd,u,sub,v,e,G⟩;dsimp only at hm b g hok a;subst hm b g;have t:sl = #[i,k,m,r,some (.builtin nq),j]:=by
    obtain⟨l⟩:=sl;simp only at hs;rw[hs]
   subst t;have z:h.Ns ns (h.nsMap ns):=.of_isNs (PySem.W.isNs_of_in X hok);exact⟨p,ns,y,A,bs,u,sub,v,e,s,i,k,m,r,j,_,X _ _ ho,z,by
    obtain⟨o,J,I,D,B,_,H⟩:=z;unfold aat at a
    split at a
    .rename_i c d es' n' sl' lk;have:=X _ _ lk;rw[D]at this;cases this;cases B
     split at a
     .rename_i en he;rw[<-H];unfold nsFind findBy;rw[<-Array.find?_toList,he];exact aal a
     .split at a<;>cases a
    .exact absurd a (by simp),PySem.W.tail_of_in X F⟩
  .cases q
 .cases q
section
variable {w:World}{prog:aaB}{E:mT->oR->Prop}{A:aa4}{h:aaM}{g:Array GenState}{d:Drawn}{t:Nat}{os:OsState}
variable {q k:Str}{N C:Addr}{bs f a:List mT}{c:Bool}{s:List Str}{sub:List mT}{l:Bool}{j:Option Bool}{p:Option Addr}{u v y z D:Option mT}{B n i:String}
theorem w4(F:ExcBaseFacts B n i a)(T:OwnTail h a f){rest:List mT}{Y:Obj}{Q:Fin->oR->Prop}
  (M:h.get? C=some (afM k q C N bs f c s sub l j p u v y z D n)) (hn:h.Ns N mN) (hi:mN "__init__" = some (.ref fI)) (S:h.get? fI=some Y) (U:Y.cls = .type "function")
  (Z:∀h' e,agQ h h' e (.ref C) rest->wpAny (model prog w) A (call (.ref fI) (.ref e::rest)) (λr s'=>r = .none/\Q (.done (.ret (.ref e))) s') E ⟨h',g,d,t,os⟩) (G:rest.length≤aag):wpAny (model prog w) A (acD.«type.__call__» ⟨.ref C::rest,[]⟩) Q E ⟨h,g,d,t,os⟩:=by
 repeat (first|with_reducible refine wpAny_madeBy_exc M ?_|with_reducible refine adx M ?_|wp_step)
 refine codeAny_call_builtin_code (ahl _ F.quiet) (wpAny_check_new_subT F T M (codeAny_exc_new_subT F T M ?_ G));show wpAny _ _ _ _ _ _;generalize H:h.push {cls:=.type "tuple",data:=.seq rest.toArray}=J;have s1:J.objs.size=h.objs.size+1:=by rw[<-H,abt]
 have K1:∀b o,h.get? b=some o->J.get? b=some o:=λb o e=>by rw[<-H];exact Ad _ e
 have t1:J.get? h.objs.size=some {cls:=.type "tuple",data:=.seq rest.toArray}:=by rw[<-H];exact afN rfl rfl
 generalize R:J.push {cls:=.ref C,data:=.fields #[.ref h.objs.size,.none,.none,.none,.bool false,.none]}=I;have X:∀b o,J.get? b=some o->I.get? b=some o:=λb o e=>by rw[<-R];exact Ad _ e
 have W:I.get? (h.objs.size+1)=some {cls:=.ref C,data:=.fields #[.ref h.objs.size,.none,.none,.none,.bool false,.none]}:=by rw[<-R];exact afN s1.symm rfl
 have L:∀b o,h.get? b=some o->I.get? b=some o:=λb o e=>X b o (K1 b o e);have O:=L _ _ M;have V:I.Ns N mN:=hn.keeps L;have own:(abh C::f).contains (.ref C)=true:=by simp
 unfold ahi
 repeat (first|with_reducible refine adx W ?_|(with_reducible refine wpAny_isSubtype_exc O ?_;rw[own])|wp_step)
 refine(show wpAny _ _ (agj (.ref C) _) _ _ _ from ?_);refine wpAny_typeLookup_tail O V (T.keeps L) F.mroIs F.init.lookup ?_;rw[hi];refine abA (aD (m:=bindSpecial _ _) ?_);refine aD (m:=agm _) (ac4 (T:= "function") ⟨_,L _ _ S,U⟩ ?_);rw[if_pos (by decide)];have mk:agQ h I (h.objs.size+1) (.ref C) rest:=⟨L,acv (agJ _),h.objs.size,W,acv (Dl _),X _ _ t1⟩;refine AD (aD (abP (Z I _ mk) (λr s' hr=>?_) λ_ _ x=>x));obtain⟨rfl,hQ⟩:=hr
 wp_walk
 exact hQ
theorem WR(F:ExcBaseFacts B n i a)(T:OwnTail h a f){rest:List mT}{H:Obj}{Q:mT->oR->Prop}
  (m:h.get? C=some (afM k q C N bs f c s sub l j p u v y z D n)) (I:h.Ns N mN) (L:mN "__init__" = some (.ref fI)) (o:h.get? fI=some H) (G:H.cls = .type "function")
  (J:∀h' e,agQ h h' e (.ref C) rest->wpAny (model prog w) (A.under (.builtin "type.__call__" ⟨.ref C::rest,[]⟩)) (call (.ref fI) (.ref e::rest)) (λr s'=>r = .none/\Q (.ref e) s') E ⟨h',g,d,t,os⟩) (b:rest.length≤aag):wpAny (model prog w) A (call (.ref C) rest) Q E ⟨h,g,d,t,os⟩:=by
 have M:=tc_lookup;have O:=tc_bind (.ref C);have ty:(⟨h,g,d,t,os⟩:oR).TypeIs (.ref C) "type":=⟨_,m,rfl⟩;refine ahg (codeAny_of_tree (?_))
 repeat (any_goals (first|with_reducible refine adx m ?_|assumption|wp_step))
 exact⟨rfl,codeAny_call_builtin_at (ahl _ (by decide +kernel)) entry_typeCall (wpAny_check_type_call_sub m (w4 F T m I L o G J b))⟩
end
noncomputable def vErr:List mT:=[.type "ValueError",.type "Exception",.type "BaseException",.type "object"]
noncomputable def isRf:mT->Bool
 | .ref _=>true
 |_=>false
noncomputable def overVE:List mT->Bool
 |[]=>false
 |v::r=>if isRf v then overVE r else(v::r)==vErr
theorem overVE.pass(self:mT):∀{l:List mT},overVE l=true->refuseLoop self "__setattr__" l=pure ()
 |[],e=>by cases e
 | v::r,e=>by
  unfold overVE at e
  split at e
  .rename_i hv
   cases v<;>first|cases hv|skip
   rw[refuseLoop_ref];exact overVE.pass self e
  .rw[beq_iff_eq.mp e];exact PySem.F.store_ValueError.passes self
noncomputable def Sg(K:Mt)(C:Addr):Bool:=(PySem.W.clsIn K C).any λc=>overVE c.mro&&c.hasDict
structure StoK(K:Mt)(C:Addr)(f:Str):Prop where
 set:Sg K C=true
 sa:afx K (.ref C) "__setattr__" = some (some (.builtin "object.__setattr__"))
 no:afx K (.ref C) f=some none
 ob:aic K C (.type "object")=some true
section
variable {prog:aaB}{w:World}{A:aa4}{E:mT->oR->Prop}{s:oR}{K:Mt}{x C:Addr}{d:Obj}{f:Str}{v:mT}
theorem lz{o:Option Obj}(X:K.In s.heap)(I:afy s.heap x d C o)(S:StoK K C f)
  (h:wpAny (model prog w) A.in1 (acD.ObjectAttr.storeInOwnDict (.ref x) (.ref C) (.str f s.toks) f v false) (λa s'=>match a with| .done (.ret _)=>Q () s'|_=>False) E {s with toks:=s.toks+1}) :
  wpAny (model prog w) A (setAttr (.ref x) f v) Q E s:=by
 obtain⟨j,l,e⟩:=agb S.set;obtain⟨ho,_⟩:=aeW.mp e;obtain b:=PySem.F.store_object;refine PySem.W.set_plain X I S.sa ?_;have sub:aeN (model prog w) s.heap (ahi (.ref x) (.type "object")) true:=I.type.andThen (PySem.W.looks_mroIn X S.ob);refine codeAny_call_builtin b.slot.plain b.entry (@PySem.W.check_slot (model prog w) _ _ {s with toks:=s.toks+1} "object.__setattr__" "object" "__setattr__" (.ref x) [.str f s.toks,v] [] _ b.kind b.split sub (b.args (.ref x) (.str f s.toks) v) ?_);have i:aeN (model prog w) s.heap (mroOf (.ref C)) j.mro:=(afg X l).andThen .now;have L:aeN (model prog w) s.heap (acD.ObjectAttr.storeTaker? none) none:=.now;rw[PySem.W.osa_eq,refuse_eq];have g:afy ({s with toks:=s.toks+1}:oR).heap x d C o:=I;have k:K.In ({s with toks:=s.toks+1}:oR).heap:=X;refine aD (aD (g.type.here (aD (ahm i ?_))));rw[overVE.pass _ ho];refine AD (aD (g.type.here (aD ((PySem.W.looks_findIn k S.no).here (aD (ahm L ?_))))));refine abP h (λa s' z=>?_) λ_ _ z=>z
 cases a with
 |done r=>
  cases r with
  |ret u=>exact z
  |next=>exact z.elim
  |brk=>exact z.elim
  |cont=>exact z.elim
 |again c=>exact z.elim
theorem yK(X:K.In s.heap)(S:StoK K C f)(g:s.heap.get? x=some d)(B:d.cls = .ref C)(u:ah8 d=true)(hd:d.dict=none)(a:∃vs,d.data = .fields vs)
  (h:∀h' dx N,s.heap.get? dx=none->dx≠x->h'.Ns1 dx (λy=>if y=f then some v else none)->h'.get? x=some {d with dict:=some dx}->(∀b o,b≠x->s.heap.get? b=some o->h'.get? b=some o)->Q () {s with heap:=h',toks:=N}) :
  wpAny (model prog w) A (setAttr (.ref x) f v) Q E s:=by
 have I:afy s.heap x d C none:=⟨g,B,u,by rw[hd];trivial⟩;obtain⟨cd,j,p⟩:=agb S.set;obtain⟨_,t⟩:=aeW.mp p;refine lz X I S ?_;rcases d with⟨Y,H,T,c⟩;obtain⟨vs,a⟩:=a;dsimp only at B hd a;subst B hd a;have U:K.In ({s with toks:=s.toks+1}:oR).heap:=X;refine aD (AD (aD (aD (wpAny_loadPart (s:={s with toks:=s.toks+1}) g (aD ((afg U j).here ?_))))));rw[t];generalize hp:s.heap.push {cls:=.type "dict",data:=.dict #[]}=k;have G:k.get? x=some {cls:=.ref C,data:=.fields vs,slots:=c}:=by rw[<-hp];exact Ad _ g
 have ns:x≠s.heap.objs.size:=aaG (aaa g);refine aD (m:=alloc _) (wpAny_alloc' ?_);show wpAny _ _ _ _ _ {s with heap:=s.heap.push _,toks:=s.toks+1};rw[hp];refine aD (wpAny_update' G ?_);generalize l:k.update x (λo=>{o with dict:=some s.heap.objs.size})=i;have R:k.get? s.heap.objs.size=some {cls:=.type "dict",data:=.dict #[]}:=by rw[<-hp];exact afN rfl rfl
 have M:i.get? s.heap.objs.size=some {cls:=.type "dict",data:=.dict #[]}:=by rw[<-l];exact(adM _ _ _ _ ns.symm).trans R
 have W:i.get? x=some {cls:=.ref C,dict:=some s.heap.objs.size,data:=.fields vs,slots:=c}:=by rw[<-l];exact abf _ G rfl
 have V:∀b o,b≠x->s.heap.get? b=some o->i.get? b=some o:=λb o hb e=>by rw[<-l,adM _ _ _ _ hb,<-hp];exact Ad _ e
 have n2:i.Ns s.heap.objs.size (λ_=>none):=⟨_,#[],_,M,rfl,λe L=>absurd L (by simp),λ_=>rfl⟩;refine AD ?_;show wpAny _ _ (aeE s.heap.objs.size (.str f s.toks) f v) _ _ _;unfold aeE acD.ObjectAttr.newKeyGuard;refine aD (AD (aD (wpAny_nsSet1 (aaM.Ns1.of_empty n2) λO D F=>?_)));obtain⟨Z,z,J,q,r,n⟩:=D.count (Within.cons f v Within.nil);have small:z.size≤aag+1:=aaj n (by simp only[aaz,afa,aan];exact ahz _);refine aD (wpAny_lookBehind q (by rw[r];exact pastItsLine_dict small) ?_);refine AD (h O s.heap.objs.size _ (acv (Dl _)) ns.symm D ((F.2 x ns).trans W) λb o hb e=>(F.2 b (aaG (aaa e))).trans (V b o hb e))
theorem zN{dx:Addr}{m:Str->Option mT}{ns:List Str}(X:K.In s.heap)(S:StoK K C f)(q:s.heap.get? x=some d)(o:d.cls = .ref C)(l:ah8 d=true)(hd:d.dict=some dx)(p:s.heap.Ns1 dx m)(H:Within m ns)(V:ns.length<1000)
  (h:∀h' F,h'.Ns1 dx (λy=>if y=f then some v else m y)->(∀b,b≠dx->h'.get? b=s.heap.get? b)->Q () {s with heap:=h',toks:=F}) :
  wpAny (model prog w) A (setAttr (.ref x) f v) Q E s:=by
 obtain⟨L,z,O,J,R⟩:=id p;have I:afy s.heap x d C (some L):=⟨q,o,l,by rw[hd];exact J⟩;obtain⟨W,c,g⟩:=agb S.set;obtain⟨_,k⟩:=aeW.mp g;refine lz X I S ?_;rcases d with⟨T,t,M,u⟩;dsimp only at o hd;subst o hd;have N:K.In ({s with toks:=s.toks+1}:oR).heap:=X;refine aD (AD (aD (aD (wpAny_loadPart (s:={s with toks:=s.toks+1}) q (aD ((afg N c).here ?_))))));rw[k];apply AD (a:=some dx);refine aD (AD (aD (wpAny_nsSet1 (s:={s with toks:=s.toks+1}) p λG r B=>?_)));obtain⟨U,n,D,i,j,e⟩:=r.count (Within.cons f v H);have small:n.size≤aag+1:=aaj e (by simp only[aaz,aan];omega);refine aD (wpAny_lookBehind i (by rw[j];exact pastItsLine_dict small) ?_);refine AD (h G _ r B.2)
end
noncomputable def xo(e C:Addr)(d:Option Addr):HO:=.ext λh=>∃vs s,h.get? e=some {cls:=.ref C,dict:=d,data:=.fields vs,slots:=s}/\vs[1]?=some .none
section
variable {X:Cx}{p:List (Addr×Obj)}{i:St}{H:Hp}{s:oR}{h':aaM}{e C dx:Addr}{A:aa4}{E:mT->oR->Prop}
theorem PK{b:Hp}{d:Option Addr}{vs:Array mT}{a:Array (Option mT)}(x:h'.get? e=some {cls:=.ref C,dict:=d,data:=.fields vs,slots:=a})(h:vs[1]?=some .none):ObjOk P w b h' e (xo e C d):=
 ⟨⟨vs,a,x,h⟩,⟨_,x⟩,by rintro c f ⟨vs,a,z,q⟩ k;exact⟨vs,a,k _ z,q⟩⟩
theorem Lp{d:Option Addr}(k:HOk P w H s.heap)(x:H e=some (xo e C d)):∃vs a,s.heap.get? e=some {cls:=.ref C,dict:=d,data:=.fields vs,slots:=a}/\vs[1]?=some .none:=(k e _ x).1
theorem Inv.twoX{d a:HO}{t':Nat}(I:Inv X p i H s)(h:∃g,H e=some (.ext g))(nd:s.heap.get? dx=none)(ne:dx≠e)(k:∀b u,b≠e->s.heap.get? b=some u->h'.get? b=some u)(n1:ObjOk X.prog X.w (upd (upd H dx a) e d) h' e d)(n2:ObjOk X.prog X.w (upd (upd H dx a) e d) h' dx a) :
  Inv X p i (upd (upd H dx a) e d) {s with heap:=h',toks:=t' }:=by
 obtain⟨g,h⟩:=h;have hd:H dx=none:=I.hok.nil nd;have out:∀b u,H b=some u->b≠e->(upd (upd H dx a) e d) b=some u:=λb u q hb=>by
  rw[ag hb,ag λz=>by rw[z,hd]at q;cases q];exact q
 have f:∀b,H b=none->b≠e:=λb q z=>by rw[z,h]at q;cases q
 refine I.un ⟨λb o q n _ _=>k b o (f b n) q,λb o q n _ _=>⟨o.slots,k b o (f b n) q⟩,λb o q n _=>?_,λb o q _=>?_,λb xs q=>out b _ q λz=>(by rw[z,h]at q;cases q),λb o u q=>out b _ q λz=>(by rw[z,h]at q;cases q),λb ps q=>⟨#[],?_⟩⟩ λb u q=>?_
 .rw[ag (f b n),ag λz=>by rw[z,nd]at q;cases q];exact n
 .by_cases hb:b=e
  .rw[hb];exact n1.there
  .exact⟨o,k b o hb q⟩
 .rw[out b _ q λz=>(by rw[z,h]at q;cases q)];simp
 .by_cases hb:b=e
  .rw[hb]at q⊢;rw[ai]at q;cases q;exact n1
  .by_cases hb2:b=dx
   .rw[hb2]at q⊢;rw[ag ne,ai]at q;cases q;exact n2
   .rw[ag hb,ag hb2]at q;refine(I.hok b u q).stay (λc v l z=>k c v ?_ z) (λc z=>out c _ z λy=>(by grind)) λc j z=>out c _ z λy=>(by rw[y,h]at z;cases z)
    grind
theorem Inv.oneX{a:Addr}{f:HO}{t':Nat}(I:Inv X p i H s)(h:H a=some (.xd xs))(k:∀b u,b≠a->s.heap.get? b=some u->h'.get? b=some u)(n1:ObjOk X.prog X.w (upd H a f) h' a f) :
  Inv X p i (upd H a f) {s with heap:=h',toks:=t' }:=by
 have d:∀b,H b=none->b≠a:=λb q z=>by rw[z,h]at q;cases q
 refine I.un ⟨λb o q n _ _=>k b o (d b n) q,λb o q n _ _=>⟨o.slots,k b o (d b n) q⟩,λb o q n _=>by rw[ag (d b n)];exact n,λb o q _=>?_,λb xs q=>by rw[ag λz=>(by rw[z,h]at q;cases q)];exact q,λb o u q=>by rw[ag λz=>(by grind)];exact q,λb ps q=>⟨#[],by rw[ag λz=>(by rw[z,h]at q;cases q),q];simp⟩⟩ λb u q=>?_
 .by_cases hb:b=a
  .rw[hb];exact n1.there
  .exact⟨o,k b o hb q⟩
 .by_cases hb:b=a
  .rw[hb]at q⊢;rw[ai]at q;cases q;exact n1
  .rw[ag hb]at q;refine(I.hok b u q).stay (λc v j z=>k c v ?_ z) (λc z=>by rw[ag λy=>(by grind)];exact z) λc g z=>by rw[ag λy=>(by grind)];exact z
   grind
theorem UH(k:HOk P w H s.heap)(x:H dx=some (.xd xs)):∃m,s.heap.Ns1 dx m/\(∀f,RelO (xs.lookup f) (m f))/\Within m (xs.map (·.1)):=by
 obtain⟨m,n,r⟩:=k dx _ x;refine⟨m,n,r,λy h=>?_⟩;have:=r y
 cases q:xs.lookup y with
 |none=>
  rw[q]at this
  cases e:m y with
  |none=>exact absurd e h
  |some v=>rw[e]at this;exact this.elim
 |some v=>exact aac.mpr ⟨_,ab8 q,rfl⟩
theorem Gf{f:Str}{y:V}{u:mT}(I:Inv X p i H s)(b:H e=some (xo e C none))(S:StoK X.K C f)(r:RelV y u)
  (h:∀dx s',H dx=none->dx≠e->Inv X p i (upd (upd H dx (.xd [(f,y)])) e (xo e C (some dx))) s'->Q () s'):wpAny (model X.prog X.w) A (setAttr (.ref e) f u) Q E s:=by
 obtain⟨vs,j,c,d⟩:=Lp I.hok b;refine yK I.kIn S c rfl rfl rfl ⟨vs,rfl⟩ λh' dx t nd ne n a k=>h dx _ (I.hok.nil nd) ne ?_;refine I.twoX ⟨_,b⟩ nd ne k (PK a d) ⟨_,n,λg=>?_⟩
 by_cases q:g=f
 .rw[if_pos q,q];simp;exact r
 .rw[if_neg q];have:(g==f)=false:=by simp[q]
  simp[afF,this];trivial
theorem Ga{f:Str}{y:V}{u:mT}(I:Inv X p i H s)(d:H e=some (xo e C (some dx)))(hd:H dx=some (.xd xs))(S:StoK X.K C f)(B:xs.length<1000)(l:RelV y u)
  (h:∀s',Inv X p i (upd H dx (.xd (putF f y xs))) s'->Q () s'):wpAny (model X.prog X.w) A (setAttr (.ref e) f u) Q E s:=by
 obtain⟨vs,t,c,o⟩:=Lp I.hok d;obtain⟨m,n,r,a⟩:=UH I.hok hd;refine zN I.kIn S c rfl rfl rfl n a (by simp_all) λh' v j k=>h _ ?_;refine I.oneX hd (λb q hb z=>(k b hb).trans z) ⟨_,j,λg=>?_⟩;rw[ki]
 by_cases q:g=f
 .rw[if_pos q,if_pos q];exact l
 .simp_all
end
noncomputable def sXf(K:Mt)(d t:TE)(f:Str):TS:=λD b H=>t b H λy c=>d b c λx a=>∃e C,x = .ref e/\StoK K C f/\
 ((a e=some (xo e C none)/\∀dx,a dx=none->dx≠e->D.nx b (upd (upd a dx (.xd [(f,y)])) e (xo e C (some dx)))) \/
  ∃dx xs,a e=some (xo e C (some dx))/\a dx=some (.xd xs)/\xs.length<1000/\D.nx b (upd a dx (.xd (putF f y xs))))
section
variable {X:Cx}{o v:Expr}{f:Str}{pos p:Pos}{t a:TE}
theorem UU(ha:PE X o t)(m:PE X v a)(hs:abH v (some (.Attribute o f p)) pos.line X.env=pure false):PS X (.Assign [.Attribute o f p] v pos) (sXf X.K t a f):=by
 intro b s d H D I h;refine plainObj_wpAny_Assign_Attribute (thn (m b s d H _ I h) λu s1 ⟨y,A,z,r,q⟩=>thn (ha b s1 d A _ z q) λn s2 ⟨x,E,j,l,e,C,ex,S,c⟩=>?_) hs;subst ex;obtain rfl:n=abh e:=l;rcases c with⟨g,c⟩|⟨dx,xs,g,hd,B,c⟩
 .exact Gf j g S r λdx k nd ne i=>⟨d,_,i,c dx nd ne⟩
 .exact Ga j g hd S B r λk i=>⟨d,_,i,c⟩
end
noncomputable def L7(s:Stmt):List Stmt:=match s with
 | .ClassDef _ _ _ b _ _ _ _ _ _ _=>b
 |_=>[]
noncomputable def spIni(K:Mt)(fs:List Str):Sp:=λvs H Q _=>∃e C v,vs = .ref e::v/\v.length=fs.length/\H e=some (xo e C none)/\(∀f∈fs,StoK K C f)/\
 ∀dx a,H dx=none->dx≠e->a dx=some (.xd (fs.zip v))->a e=some (xo e C (some dx))->(∀b,b≠e->b≠dx->a b=H b)->Q .non a
theorem spIni.len{fs:List Str}{vs:List V}{H:Hp}{Q:VK}{E:XK}(h:spIni K fs vs H Q E):vs.length=("self" :: fs:List Str).length:=by
 obtain⟨e,C,v,rfl,a,_⟩:=h;simp[a]
theorem FnScope.vis{N ps:List Str}{sc:Scope}(S:FnScope N ps sc)(h:x∈ps):Vis sc x:=(S.par x h).elim .inl λz=>.inr (.inl z)
section
variable {P:aaB}{w:World}{K:Mt}{mg:Str->Option mT}{base:aaM}{qual:Str}{st:Stmt}{a:Addr}{fd:ab6}{f g:Str}{p c d j k l m n:Pos}
theorem ini1(F:Fun K "__init__" qual st a fd)(S:FnScope ["self",f] ["self",f] (ac st))(hb:bO st=[.Assign [.Attribute (.Name "self" p) f c] (.Name f d) j])(hd:(f==("__debug__" : Str))=false)(B:(f==("__classdict__" : Str))=false) :
  FnOk P w K mg base CX0 1 a fd ["self",f] (spIni K [f]):=by
 refine F.okX S (λvs H Q E h=>h.len) λr A outer s H vs Q E hr h=>?_;refine⟨_,by rw[hb];exact Br (UU (Cf (i:=0) rfl (S.vis (by simp))) (Cf (i:=1) rfl (S.vis (by simp)) hd B) rfl),?_⟩;obtain⟨e,C,v,rfl,z,t,hs,q⟩:=h
 match v,z with
 |[y],_=>
  refine⟨y,rfl,.ref e,rfl,e,C,rfl,hs f (by simp),.inl ⟨t,λdx nd ne=>?_⟩⟩;exact q dx _ nd ne (by rw[ag ne,ai];rfl) ai λb o u=>by rw[ag o,ag u]
end
structure IniX(P:aaB)(w:World)(K:Mt)(mg:Str->Option mT)(base:aaM)(x:Str)(fs:List Str):Prop where
 ex:∃(C fI:Addr) (fd:ab6) (oI:Obj),mg x=some (.ref C)/\aat K aao x=some (some (.ref C))/\qY K C vErr "ValueError.__new__" fI=true/\abV K (.ref C)=true/\K.lookup fI=some oI/\oI.cls = .type "function"/\
  FnOk P w K mg base CX0 1 fI fd ("self" :: fs) (spIni K fs)/\Binds K fd ("self" :: fs) []/\∀f∈fs,StoK K C f
noncomputable def delH(H:Hp)(e:Addr):Hp:=λb=>if b=e then none else H b
section
variable {X:Cx}{pins:List (Addr×Obj)}{σ:St}{H:Hp}{s:oR}{e:Addr}
theorem Inv.trackO{o:HO}(I:Inv X pins σ H s)(y:Yg X pins e)(h:H e=none)(new:ObjOk X.prog X.w (upd H e o) s.heap e o):Inv X pins σ (upd H e o) s:=by
 have ne:∀b u,H b=some u->b≠e:=λb u q z=>by rw[z,h]at q;cases q
 have hok:HOk X.prog X.w (upd H e o) s.heap:=λb u q=>by
  by_cases hb:b=e
  .subst hb;rw[ai]at q;grind
  .rw[ag hb]at q;exact(I.hok b u q).stay (λ_ _ _ z=>z) (λc z=>by rw[ag (ne c _ z)];exact z) λc f z=>by rw[ag (ne c _ z)];exact z
 refine I.stepN (h':=s.heap) (g':=s.gens) (d':=s.drawn) (t':=s.toks) (ch:=[e]) (λb hb=>?_) (λb o _ _ _ q _=>q) (λb o _ _ _ q _=>⟨o.slots,q⟩) (λb o d q n=>?_) (λb o _ q=>⟨o,q⟩) (λb xs q=>?_) (λb o u q=>?_) (λb ps q=>⟨#[],?_⟩) (λm a=>a) hok I.bare
 .cases OR.mp hb
  exact⟨.inr y.1,y.2.1,y.2.2.1,y.2.2.2⟩
 .rw[ag λz=>d (by rw[z];exact OR.mpr rfl)];exact n
 .rw[ag (ne b _ q)];exact q
 .rw[ag (ne b _ q)];exact q
 .rw[ag (ne b _ q),q];simp
theorem Inv.untrack{a:aaM->Prop}(I:Inv X pins σ H s)(y:Yg X pins e)(d:H e=some (.ext a)):Inv X pins σ (delH H e) s:=by
 have out:∀b u,H b=some u->(∀a,u≠.ext a)->delH H e b=some u:=λb u q n=>by
  unfold delH
  grind
 have hok:HOk X.prog X.w (delH H e) s.heap:=λb u q=>by
  unfold delH at q
  split at q
  .cases q
  .exact(I.hok b u q).stay (λ_ _ _ z=>z) (λc z=>out c _ z λ_=>by intro y;cases y) λc f z=>out c _ z λ_=>by intro y;cases y
 refine I.stepN (h':=s.heap) (g':=s.gens) (d':=s.drawn) (t':=s.toks) (ch:=[e]) (λb hb=>?_) (λb o _ _ _ q _=>q) (λb o _ _ _ q _=>⟨o.slots,q⟩) (λb o g q n=>?_) (λb o _ q=>⟨o,q⟩) (λb xs q=>out b _ q λ_=>by intro y;cases y) (λb o u q=>out b _ q λ_=>by intro y;cases y) (λb ps q=>⟨#[],?_⟩) (λm h=>h) hok I.bare
 .cases OR.mp hb
  exact⟨.inr y.1,y.2.1,y.2.2.1,y.2.2.2⟩
 .unfold delH;split
  .rfl
  .exact n
 .rw[out b _ q λ_=>by intro y;cases y];simp
structure MadeX(X:Cx)(pins:List (Addr×Obj))(σ:St)(H:Hp)(s':oR)(e C dx:Addr)(xs:List (Str×V))(H':Hp):Prop where
 inv:Inv X pins σ H' s'
 xf:XF (Yg X pins) H' s'.heap e (.ref C) (some dx)
 raw:∃oe vs,s'.heap.get? e=some oe/\oe.cls = .ref C/\oe.data = .fields vs/\vs[1]?=some .none
 fld:H' dx=some (.xd xs)
 new:H dx=none
 old:∀b o,H b=some o->H' b=some o
 cls:∃nm q N bs bm sn sub ab col dd k0 k1 k2 k3 k5,s'.heap.get? C=some (afM nm q C N bs bm true sn sub ab col dd k0 k1 k2 k3 k5 "ValueError.__new__")/\OwnTail s'.heap vErr bm
theorem JC{fs:List Str}{a:List mT}{vs:List V}{Q:mT->oR->Prop}{E:mT->oR->Prop}(M:IniX X.prog X.w X.K X.mg X.base x fs)(O:aat X.K aao x=some (some (.ref C)))(hx:X.ex=[])(hr:Room 2 X.A)(I:Inv X pins σ H s)(r:Vals vs a)(hl:vs.length=fs.length)(hz:a.length≤aag)
  (h:∀e dx c s',MadeX X pins σ H s' e C dx (fs.zip vs) c->Q (.ref e) s'):wpAny (model X.prog X.w) X.A (call (.ref C) a) Q E s:=by
 obtain⟨C0,fI,fd,oI,hm,i,hi,_,J,B,F,hb,L⟩:=M.ex;rw[O]at i;cases i;obtain⟨bm,N,nm,q,bs,sn,sub,ab,l,dd,k0,U,k2,k3,k5,mN,R,Y,f,T⟩:=qt I.kIn hi;obtain⟨hp,g,d,t,os⟩:=s;refine WR PySem.F.excBase_ValueError T R Y f (I.kIn _ _ J) B (λj e n=>?_) hz;have I1:Inv X pins σ H ⟨j,g,d,t,os⟩:=I.kept (h':=j) (t':=t) n.keeps;have y:Yg X pins e:=I.yg hx n.new;have S:H e=none:=I.hok.nil n.new;obtain⟨tt,he,_,_⟩:=n.there;have A:=I1.trackO (o:=xo e C none) y S (PK he rfl);have sp:spIni X.K fs (.ref e::vs) (upd H e (xo e C none)) (λv c=>v = .non/\∃dx,c dx=some (.xd (fs.zip vs))/\c e=some (xo e C (some dx))/\H dx=none/\∀b,b≠e->b≠dx->c b=H b) (λ_ _ _=>False):=
  ⟨e,C,vs,rfl,hl,ai,L,λdx c nd ne a1 a2 m=>⟨rfl,dx,a1,a2,by rw[ag ne]at nd;exact nd,λb j h2=>by rw[m b j h2,ag j]⟩⟩
 have Z:Vals (V.ref e::vs) (abh e::a):=.cons rfl r;have D:((abh e::a)++[]).length=("self" :: fs:List Str).length:=by rw[aaV,<-Z.length];exact F.len _ _ _ _ sp
 have bd:=hb _ (abh e::a) A.kIn D;rw[aaV]at bd;refine ahg (adE (F.run _ X.stack _ _ ⟨abh e::a,[]⟩ (abh e::a) _ _ _ (hr.make C a []) (A.env0.make C a []) bd Z sp) λr s' k=>?_)
 cases r with
 |error _=>exact abQ k
 | ok fl=>
  cases fl with
  |next=>exact abQ k
  |brk=>exact abQ k
  |cont=>exact abQ k
  | ret u=>
   obtain⟨v,c,G,rv,rfl,dx,a1,a2,m,a4⟩:=A.after k;obtain⟨vs',sl,e1,W⟩:=Lp G.hok a2;have p:dx≠e:=λz=>by rw[z,a2]at a1;cases a1
   refine⟨rv,h e dx (delH c e) s' ⟨G.untrack y a2,⟨y,if_pos rfl,_,_,e1,rfl,rfl,rfl,.inl W⟩,⟨_,_,e1,rfl,rfl,W⟩,?_,m,λb o ho=>?_,?_⟩⟩
   .unfold delH;rw[if_neg p];exact a1
   .have b1:b≠e:=λz=>by rw[z,S]at ho;cases ho
    have b2:b≠dx:=λz=>by rw[z,m]at ho;cases ho
    unfold delH;rw[if_neg b1,a4 b b1 b2];exact ho
   .obtain⟨bm,N,nm,q,bs,sn,sub,ab,l,dd,k0,U,k2,k3,k5,mN,R,Y,f,T⟩:=qt G.kIn hi;exact⟨nm,q,N,bs,bm,sn,sub,ab,l,dd,k0,U,k2,k3,k5,R,T⟩
end
section
variable {A:aa4}{M:Model}{E:mT->oR->Prop}{env:Env}{s:oR}
theorem Cb{x:Sem mT}{Q:Flow->oR->Prop}(J:A.handled=none)
  (h:wpAny M A x (λv a=>∃e o vs C z q N bs i b l sub y f p t k D u B n,v = .ref e/\a.heap.get? e=some o/\o.cls = .ref C/\o.data = .fields vs/\vs[1]?=some .none/\a.heap.get? C=some (afM z q C N bs i b l sub y f p t k D u B n)/\i.contains (.type "BaseException")=true/\E (.ref e) a) E s):wpAny M A (raiseStmt env (some x) none) Q E s:=by
 unfold raiseStmt;refine aD (abP h (λv s1 G=>?_) λ_ _ x=>x);obtain⟨e,o,vs,C,z,q,N,bs,i,b,l,sub,y,f,p,t,k,D,u,B,n,rfl,r,j,g,H,m,d,I⟩:=G;obtain⟨O,R,L,F⟩:=o;dsimp only at j g;subst j g;have c:(abh C::i).contains (.type "BaseException")=true:=by rw[List.contains_cons,d,acR]
 repeat (first|with_reducible refine adx r ?_|with_reducible refine adx m ?_|(with_reducible refine wpAny_isSubtype_exc m ?_;rw[c])|with_reducible refine aD (aaO r rfl H ?_)|wp_step)
 apply wpAny_raiseNew_none J I
end
noncomputable def zipF:List Str->List dL->List (dL×dL)
 |f::fs,d::ds=>(.str f,d)::zipF fs ds
 |_,_=>[]
noncomputable def DenAs(K:Kd)(H:Hp):List dL->List V->Prop
 |[],[]=>True
 |d::ds,v::vs=>Den K H d v/\DenAs K H ds vs
 |_,_=>False
theorem DenAs.len{K:Kd}{H:Hp}:∀{ds:List dL}{vs:List V},DenAs K H ds vs->ds.length=vs.length
 |[],[],_=>rfl
 |_::_,_::_,h=>by simp[DenAs.len h.2]
 |[],_::_,h=>h.elim
 |_::_,[],h=>h.elim
theorem DenAs.mono{K:Kd}{H a:Hp}(p:Pers H a):∀{ds:List dL}{vs:List V},DenAs K H ds vs->DenAs K a ds vs
 |[],[],_=>trivial
 |_::_,_::_,h=>⟨Den.mono p h.1,DenAs.mono p h.2⟩
 |[],_::_,h=>h.elim
 |_::_,[],h=>h.elim
theorem DenAs.fields{K:Kd}{H:Hp}:∀{fs:List Str}{ds:List dL}{vs:List V},DenAs K H ds vs->DenXF K H (zipF fs ds) (fs.zip vs)
 |[],_,_,_=>by simp[zipF,DenXF]
 |_::_,[],[],_=>by simp[zipF,DenXF]
 |f::fs,d::ds,v::vs,h=>by
  exact⟨v,_,rfl,h.1,DenAs.fields h.2⟩
 |_::_,[],_::_,h=>h.elim
 |_::_,_::_,[],h=>h.elim
theorem Jj{K:Kx}{b:Al}{c H:Hp}:∀{ds:List dL}{vs:List V},RelRs K b c H (ds.map .imm) vs->DenAs K.toKd H ds vs
 |[],_,h=>by cases h;trivial
 |d::ds,_,h=>by
  cases h with
  |cons a t=>exact⟨a,Jj t⟩
section
variable {X:Cx}{a:Expr}{es:List Expr}{w:WA}{pos c np:Pos}{x:Str}{fs:List Str}{E:dL->MSt->Prop}
noncomputable def rH(x:Str)(fs:List Str)(E:dL->MSt->Prop)(w:WA):WS:=λD m=>w m λrs m1=>∃ds:List dL,rs=ds.map .imm/\ds.length=fs.length/\fs.length≤1000/\E (.dict ((.none,.str x)::zipF fs ds)) m1
theorem MadeX.pers{p:List (Addr×Obj)}{f:St}{H d:Hp}{s':oR}{e dx:Addr}(M:MadeX X p f H s' e C dx xs d):Pers H d:=⟨λb xs q=>M.old b _ q,λb o u q=>M.old b _ q⟩
theorem ze(A:IniX X.prog X.w X.K X.mg X.base x fs)(z:XL X E)(hr:Room 2 X.A)(Y:X.calm=true)(ha:MA X (a::es) w)(hg:Gl X x:=by rfl)(n:(x==("__debug__" : Str))=false:=by decide)
  (S:aad (a::es) X.env=(false,eval a X.env)::aad es X.env:=by first|exact aE rfl|rfl) (j:(ab1 c (aad es X.env)).any (·.1)=false:=by rfl) :
  MS X (.Raise (some (.Call (.Name x np) (a::es) [] c)) none pos) (rH x fs E w):=by
 intro p s v H D I h;obtain⟨g,m,De,Rl,hw,k⟩:=h;obtain⟨C,fI,fd,oI,G,f,hi,l,hlk,hfc,F,hb,hst⟩:=id A.ex;rw[arm_exec_Raise];simp only[evalOpt,Option.map];refine aD (acp (Cb (I.ok.hd Y) (aD ?_)));have i:=ha c p s v H (λvs d=>∃m1 rs,_/\Rel X.kx g m1 v d/\RelRs X.kx g H d rs vs) I ⟨g,m,_,Rl,hw,λrs m1 vs d kk n1 R rr F1=>⟨m1,rs,kk,R,rr⟩⟩;refine acW (j7 I hg G ?_ n);refine afp (h₀:=X.base) I.ok.mod.kin l (thn i λus s1 ⟨vs,d,y,r,m1,rs,⟨ds,t,hl,hz,V⟩,R,rr⟩=>⟨y.kIn,?_⟩) S j;subst t;have B:=Jj rr;have lv:vs.length=fs.length:=by rw[<-B.len];exact hl
 have lu:us.length≤aag:=by rw[<-r.length,lv,aan];omega
 refine JC A f z.ex hr y r lv lu λe dx U O M=>aD (acp (AD ?_));obtain⟨oe,os,z1,z2,z3,z4⟩:=M.raw;obtain⟨nm,q,N,bs,bm,Z,sub,ab,u,L,k0,J,k2,k3,W,hO,T⟩:=M.cls;refine⟨e,oe,os,C,nm,q,N,bs,bm,true,Z,sub,ab,u,L,k0,J,k2,k3,W,_,rfl,z1,z2,z3,z4,hO,T.hasType (by decide),?_⟩;exact z.go p v d U g m1 _ O e (.ref C) (some dx) R V M.pers ⟨rfl,λb o q _=>M.old b o q,λa ha=>(by cases ha),λa ha=>(by obtain⟨o,eo,_⟩:=R.mem ha;exact⟨o,M.old a o eo⟩)⟩ M.inv M.xf ⟨x,C,_,rfl,rfl,f,.inr ⟨dx,_,rfl,M.fld,M.new,(B.mono M.pers).fields⟩⟩
end
structure IniK(K:Mt)(x:Str)(fs:List Str):Prop where
 ex:∃(C fI:Addr) (fd:ab6) (oI:Obj),aat K aao x=some (some (.ref C))/\qY K C vErr "ValueError.__new__" fI=true/\abV K (.ref C)=true/\K.lookup fI=some oI/\oI.cls = .type "function"/\
  (∀P w mg base,FnOk P w K mg base CX0 1 fI fd ("self" :: fs) (spIni K fs))/\Binds K fd ("self" :: fs) []/\∀f∈fs,StoK K C f
structure IniM(K:Mt)(mg:Str->Option mT)(x:Str)(fs:List Str):Prop where
 x:∀{P:aaB}{w:World}{base:aaM},IniX P w K mg base x fs
theorem IniK.m{h:aaM}{mg:Str->Option mT}{fs:List Str}(k:IniK K x fs)(X:K.In h)(G:h.Ns aao mg):IniM K mg x fs:=⟨by
 obtain⟨C,fI,fd,o,a,b,c,d,e,f,g,i⟩:=k.ex;exact⟨C,fI,fd,o,aeL X G a,a,b,c,d,e,f _ _ _ _,g,i⟩⟩
section
variable {K:Mt}{x qual:Str}{C e:Addr}{st:Stmt}{m kV d pm b ct:mT}{p o an:Option Addr}{j:ClassData}{q h:Array (Option mT)}{f g:Str}{r t u v z A B D:Pos}
theorem IniK.of1(S:FnScope ["self",f] ["self",f] (ac st))(hb:bO st=[.Assign [.Attribute (.Name "self" r) f t] (.Name f u) v])(hd:(f==("__debug__" : Str))=false)(I:(f==("__classdict__" : Str))=false)
  (bd:∀(kV d pm:mT) (an:Option Addr) (b ct:mT) (F:List mT),F.length=(["self",f]:List Str).length->bindArgs (acP "__init__" qual (fU st) (bO st) (ac st) .none kV d pm an b ct) ⟨F,[]⟩=pure ((["self",f]:List Str).zip F))
  (a:aat K aao x=some (some (.ref C))) (J:K.lookup C=some ⟨m,p,.cls j,q⟩) (n:aat K j.ns "__init__" = some (some (.ref e)))
  (l:K.lookup e=some ⟨.type "function",o,.func (acP "__init__" qual (fU st) (bO st) (ac st) .none kV d pm an b ct),h⟩) (c:aem K b qual=true) (k:abV K (.ref e)=true) (H:abV K (.ref C)=true)
  (i:qY K C vErr "ValueError.__new__" e=true) (s:Sg K C=true) (sa:afx K (.ref C) "__setattr__" = some (some (.builtin "object.__setattr__"))) (ob:aic K C (.type "object")=some true) (E:afx K (.ref C) f=some none):IniK K x [f]:=
 ⟨C,e,_,_,a,i,H,l,rfl,λP w mg base=>ini1 (y8 l c k) S hb hd I,(y8 l c k).binds bd,λy G=>by rw[OR.mp G];exact⟨s,sa,E,ob⟩⟩
end
noncomputable def Xg(K:Kd)(to ti:TE):TE:=λe H Q=>to e H λx f=>ti e f λy c=>∃a b k d,x = .ref a/\IsDc K c a b/\oneK b k=true/\Den K c k y/\bZ k b=some d/\∀v,Den K c d v->Q v c
section
variable {X:Cx}{o i:Expr}{w b:WE}{pos:Pos}{to ti:TE}
theorem J6(f:X.A.units+64<cLine)(ho:PE X o to)(z:PE X i ti)(hs:NoSl i):PE X (.Subscript o i pos) (Xg X.kd to ti):=by
 intro p s e H Q I h;refine Oy PySem.F.slot_dict_getitem.lookup hs (thn (ho p s e H _ I h) λu s1 ⟨x,t,m,r,n⟩=>thn (z p s1 e t _ m n) λJ s2 ⟨y,B,c,A,a,g,k,d,ex,dc,ok,l,D,q⟩=>?_);subst ex;obtain rfl:u=abh a:=r;exact⟨(c.dcT dc).1,xG f c dc ok l A D λv F G j E hd=>⟨v,B,j,E,q v hd⟩⟩
noncomputable def Mi(w b:WE):WE:=λm K=>w m λc m1=>b m1 λr m2=>cx (λk=>∃a d,dcM m2 a c/\oneK a k=true/\bZ k a=some d/\K (.imm d) m2) r
theorem Lr(n:X.A.units+64<cLine)(ho:ME X o w)(y:ME X i b)(hs:NoSl i:=by intro _ _;rfl):ME X (.Subscript o i pos) (Mi w b):=(J6 n ho y hs).wk<|by
 rintro J H Q ⟨j,m,D,l,u,g⟩;refine⟨j,m,_,l,u,λE m1 G M p n1 c r t=>⟨j,m1,_,c,p,λI m2 L A h n2 R f F=>?_⟩⟩;obtain⟨k,rfl,q,e,d,s,ok,B,h⟩:=dB f h;obtain⟨a,rfl,dc⟩:=RelR.dc R (r.keep l c F) s (by
  rcases jd ok with z|z
  .exact .inl z.1
  .exact .inr z.1)
 exact⟨a,e,k,d,rfl,dc,ok,q,B,λv hd=>g _ m2 v A h (n2.trans n1) R hd (t.trans F)⟩
theorem DH(a:X.A.units+64<cLine)(ho:EE X o w)(h:EE X i b)(hs:NoSl i:=by intro _ _;rfl):EE X (.Subscript o i pos) (Mi w b):=⟨Lr a ho.h h.h hs⟩
end
theorem UG{m:MSt}{Q:R->MSt->Prop}{b a:WE}(h:b m λc m1=>a m1 λr m2=>cx (λk=>∃kvs d,dcM m2 kvs c/\oneK kvs k=true/\bZ k kvs=some d/\Q (.imm d) m2) r):Mi b a m Q:=h
end L2
set_option maxHeartbeats 1100000
namespace L2
open PySem PySem.Spec PyProof.Rows
open Sem (wp)
variable{Q:mT->oR->Prop}{H:Hp}{a:Addr}{o:Obj}{es:List (V×V)}{w:World}{K:Kd}{kvs:List (dL×dL)}{P:List (dL×dL)->Prop}
structure EntAt(h:aaM)(d:Addr)(es:Array acj)(ep:Nat):Prop where
 ex:∃o,h.get? d=some o/\o.ExactDict/\o.data = .dict es ep
section
variable {prog:aaB}{w:World}{A:aa4}{E:mT->oR->Prop}{s:oR}{it d:Addr}{es:Array acj}{i ep:Nat}{ok ov:mT}
theorem qg{Q:String->oR->Prop}(b:s.TypeIs (.ref it) "dict_itemiterator")(h:Q "dict_itemiterator" s):wpAny (model prog w) A (typeNameOfWhole (.ref it)) Q E s:=wpAny_typeNameOfWhole_itemiter b h
theorem wy{j n:Nat}{k v:mT}(h:acJ s.heap it d j n ep ok ov)
  (G:∀h',afU h' it d j n ep k v s.heap.objs.size->h'.get? s.heap.objs.size=some {cls:=.type "tuple",data:=.seq #[k,v]}->h'.objs.size=s.heap.objs.size+1 ->
   (∀b o,b≠it->s.heap.get? b=some o->h'.get? b=some o)->Q (.ref s.heap.objs.size) {s with heap:=h' }):wpAny (model prog w) A (ab7 (.ref it) 6 k v) Q E s:=by
 have lt:it<s.heap.objs.size:=aaa h;rcases s with⟨hp,g,J,I,os⟩;refine aD (m:=newTuple [k,v]) (afu ?_);have z0:(hp.push {cls:=.type "tuple",data:=.seq #[k,v]}).objs.size=hp.objs.size+1:=abt ..;have D:(hp.push {cls:=.type "tuple",data:=.seq #[k,v]}).get? hp.objs.size=some {cls:=.type "tuple",data:=.seq #[k,v]}:=aaf _ rfl;have l:∀b o,hp.get? b=some o->(hp.push {cls:=.type "tuple",data:=.seq #[k,v]}).get? b=some o:=λb o q=>Ad _ q;have e:acJ (hp.push {cls:=.type "tuple",data:=.seq #[k,v]}) it d j n ep ok ov:=l _ _ h;show wpAny _ _ (abY (.ref it) >>= _) _ _ ⟨hp.push {cls:=.type "tuple",data:=.seq #[k,v]},g,J,I,os⟩;generalize hp.push {cls:=.type "tuple",data:=.seq #[k,v]}=B at z0 D l e;refine aD (m:=abY (.ref it)) ?_;refine aD (m:=field (.ref it) 0) (aaO e rfl (x:=.none) rfl (AD ?_));refine aD (m:=field (.ref it) 6) (aaO e rfl (x:=ok) rfl (aD (m:=field (.ref it) 7) (aaO e rfl (x:=ov) rfl ?_)));refine aD (m:=acM (.ref it) 6 k) (aay e (by simp) λS N s1=>?_);have t:acJ S it d j n ep k ov:=N;refine aD (m:=acM (.ref it) 7 v) (aay t (by simp) λR L s2=>?_);have r:acJ R it d j n ep k v:=L;refine aD (m:=acM (.ref it) 0 (ace hp.objs.size)) (aay r (by simp) λT O z=>?_);have u:afU T it d j n ep k v hp.objs.size:=O;refine aD (m:=acM (.ref it) 1 (.bool false)) (aay u (by simp) λf M C=>?_);have p:afU f it d j n ep k v hp.objs.size:=M;have y:∀b o,b≠it->B.get? b=some o->f.get? b=some o:=λb o c q=>C.extBut b o c (z.extBut b o c (s2.extBut b o c (s1.extBut b o c q)));have F:f.objs.size=B.objs.size:=by rw[C.1,z.1,s2.1,s1.1]
 exact aD (m:=letGo _ _) (afJ (AD (G f p (y _ _ (aaX lt) D) (F.trans z0) λb o c q=>y b o c (l b o q))))
theorem qR{Q:Option mT->oR->Prop}(h:acJ s.heap it d i es.size ep ok ov)(C:EntAt s.heap d es ep)(y:i<es.size)
  (B:∀h',afU h' it d (i+1) es.size ep es[i].key es[i].val s.heap.objs.size->h'.get? s.heap.objs.size=some {cls:=.type "tuple",data:=.seq #[es[i].key,es[i].val]}->h'.objs.size=s.heap.objs.size+1 ->
   (∀b o,b≠it->s.heap.get? b=some o->h'.get? b=some o)->Q (some (.ref s.heap.objs.size)) {s with heap:=h' }):wpAny (model prog w) A (aci (.ref it)) Q E s:=by
 obtain⟨I,f,v,j⟩:=C.ex;have c:s.TypeIs (.ref it) "dict_itemiterator":=(⟨_,h,rfl⟩);have own:aa9 "dict_itemiterator" = true:=by decide
 unfold aci;refine aD (act (aaE (name:=abZ "__next__") c aa3 (aaI aa3 c acn ?_ (acf _))))
 wp_walk using qg c,adC h rfl,abT f j,acd f j,abb c
 have x:(if (i:Int)<0 then none else es[((i:Nat):Int).toNat]?)=some es[i]:=by
  rw[if_neg (by omega),aa1,acg y]
 rw[x];rcases s with⟨hp,g,r,t,os⟩;refine aD ?_;refine aD (qg c (AD ?_));refine aD (m:=afz _ _) (abb c ?_);show wpAny _ _ (acM (.ref it) 3 (ace ((i:Int)+1)) >>= _) _ _ _;refine aD (aay h (by simp) λe G s1=>?_);replace s1:abk it hp e:=s1;have k:acJ e it d (i+1) es.size ep ok ov:=by
  have q:((i+1:Nat):Int)=(i:Int)+1:=rfl;unfold acJ;rw[q];simpa[ace]using G
 have T:aeO ⟨e,g,r,t,os⟩ (.ref it) "dict_itemiterator":=(⟨_,k,rfl⟩);refine aD (abA (aD (abb T (aD (abb T ?_)))));show wpAny _ _ (ab7 (.ref it) 6 es[i].key es[i].val) _ _ ⟨e,g,r,t,os⟩;have u:e.objs.size=hp.objs.size:=s1.1;refine wy k λD l p z F=>?_;rw[u]at l p z⊢;exact AD ⟨_,rfl,AD (B D l p z λb o n q=>F b o n (s1.extBut b o n q))⟩
theorem rm{Q:Option mT->oR->Prop}(r:A.handled=none)(h:acJ s.heap it d i es.size ep ok ov)(x:EntAt s.heap d es ep)(t:es.size≤i)
  (v:∀h',(∀b o,b≠it->s.heap.get? b=some o->h'.get? b=some o)->Q none {s with heap:=h' }):wpAny (model prog w) A (aci (.ref it)) Q E s:=by
 obtain⟨C,f,k,g⟩:=x.ex;have c:s.TypeIs (.ref it) "dict_itemiterator":=(⟨_,h,rfl⟩);have own:aa9 "dict_itemiterator" = true:=by decide
 unfold aci;refine aD (act (aaE (name:=abZ "__next__") c aa3 (aaI aa3 c acn ?_ (acf _))))
 wp_walk using qg c,adC h rfl,abT f g,acd f g,abb c
 have p:(if (i:Int)<0 then none else es[((i:Nat):Int).toNat]?)=none:=by
  rw[if_neg (by omega),aa1,aer t]
 rw[p];refine aD (aD (qg c (AD ?_)));refine aD (m:=acM (.ref it) 2 .none) (aay h (by simp) λB D s1=>?_);refine jx r λy e z ⟨u,l,j⟩=>?_;exact aD (acl (T:= "StopIteration") (b:=true) ⟨u,l,j⟩ aeo (AD (v y λb o n q=>z b o (s1.extBut b o n q))))
theorem EntAt.keep{h h':aaM}(x:EntAt h d es ep)(k:∀o,h.get? d=some o->h'.get? d=some o):EntAt h' d es ep:=let ⟨o,a,b,c⟩:=x.ex;⟨o,k o a,b,c⟩
theorem EntAt.ty(x:EntAt s.heap d es ep):s.TypeIs (.ref d) "dict":=let ⟨o,a,b,_⟩:=x.ex;⟨o,a,b.1⟩
theorem lQ(hd:(d==abD)=false)(b:EntAt s.heap d es ep)(h:Q (.ref s.heap.objs.size) {s with heap:=s.heap.push {cls:=.type "dict_items",data:=.fields #[.ref d]} }):wpAny (model prog w) A (call (.builtin "dict.items") [.ref d]) Q E s:=by
 refine ahy (S:=λ_ R s=>EntAt s.heap d es ep/\R (.ok (.ret (.ref s.heap.objs.size))) {s with heap:=s.heap.push {cls:=.type "dict_items",data:=.fields #[.ref d]} }) aei b.ty PySem.F.entry_dict_items (PySem.F.args_dict_items_1 _) (.of_wp λA R s ⟨c,h⟩=>?_) ⟨b,h⟩;refine aD (aD (aez c.ty ?_));refine AD ?_;refine aD ?_;unfold aeA;rw[hd];exact AD (aD (aaW (AD ⟨_,rfl,h⟩)))
theorem xy{v:Addr}(e:s.heap.get? v=some {cls:=.type "dict_items",data:=.fields #[.ref d]})(k:EntAt s.heap d es ep)
  (j:∀h',acJ h' s.heap.objs.size d 0 es.size ep .none .none->(∀b o,s.heap.get? b=some o->h'.get? b=some o)->Q (.ref s.heap.objs.size) {s with heap:=h' }):wpAny (model prog w) A (ae2 (.ref v)) Q E s:=by
 obtain⟨l,h,g,c⟩:=k.ex;have f:s.TypeIs (.ref v) "dict_items":=(⟨_,e,rfl⟩);have own:aa9 "dict_itemiterator" = true:=by decide
 refine aes f acK (aaI acK f aeX ?_ (aeF _));refine aD (AD (aD (aD (aaO e rfl (x:=.ref d) rfl (AD (aD (aD (abT h c (aD (acd h c ?_))))))))));simp only[own,if_true];refine aaW (AD ⟨_,rfl,"dict_itemiterator",_,⟨_,aaf _ rfl,rfl⟩,acT.lookup,?_⟩) (by simp only[sizeOk,adV,aaw,aap,aaz,afa,aan];decide);exact j _ (aaf _ rfl) λb o q=>Ad _ q
structure r9(h:aaM)(it d:Addr)(i n ep:Nat):Prop where
 e:h.get? it=some {cls:=.type "dict_keyiterator",data:=.fields #[.ref d,.int i 0,.int n 0,.int ep 0]}
theorem BX(hd:(d==abD)=false)(e:EntAt s.heap d es ep)
  (f:∀h',r9 h' s.heap.objs.size d 0 es.size ep->(∀b o,s.heap.get? b=some o->h'.get? b=some o)->Q (.ref s.heap.objs.size) {s with heap:=h' }):wpAny (model prog w) A (ae2 (.ref d)) Q E s:=by
 obtain⟨j,h,g,c⟩:=e.ex;refine aes e.ty agu (aaI agu e.ty PySem.F.entry_dict_iter ?_ (PySem.F.args_dict_iter_1 _));unfold acD.«dict.__iter__» acD.Dict.dictSlotNone;refine aD (aD (aez e.ty (AD ?_)));refine aD (m:=aeA d) ?_;unfold aeA;rw[hd];refine AD (aD (abT h c (aD (acd h c ?_))));refine aD (aaW (AD ⟨_,rfl,"dict_keyiterator",_,⟨_,aaf _ rfl,rfl⟩,aby.lookup,?_⟩));exact f _ ⟨aaf _ rfl⟩ λb o q=>Ad _ q
theorem F9{Q:String->oR->Prop}(b:s.TypeIs (.ref it) "dict_keyiterator")(h:Q "dict_keyiterator" s):wpAny (model prog w) A (typeNameOfWhole (.ref it)) Q E s:=wpAny_typeNameOfWhole_keyiter b h
theorem Ip{Q:Option mT->oR->Prop}(h:r9 s.heap it d i es.size ep)(u:EntAt s.heap d es ep)(p:i<es.size)
  (r:∀h',r9 h' it d (i+1) es.size ep->(∀b o,b≠it->s.heap.get? b=some o->h'.get? b=some o)->Q (some es[i].key) {s with heap:=h' }):wpAny (model prog w) A (aci (.ref it)) Q E s:=by
 obtain⟨y,e,l,f⟩:=u.ex;obtain⟨h⟩:=h;have c:s.TypeIs (.ref it) "dict_keyiterator":=(⟨_,h,rfl⟩);have own:aa9 "dict_keyiterator" = false:=by decide
 unfold aci;refine aD (act (aaE (name:=abZ "__next__") c aby (aaI aby c adX ?_ (adN _))))
 wp_walk using F9 c,adC h rfl,abT e f,acd e f,adu c
 have m:(if (i:Int)<0 then none else es[((i:Nat):Int).toNat]?)=some es[i]:=by
  rw[if_neg (by omega),aa1,acg p]
 rw[m];rcases s with⟨hp,g,v,t,os⟩;refine aD ?_;refine aD (F9 c (AD ?_));refine aD (adu c ?_);show wpAny _ _ (acM (.ref it) 1 (ace ((i:Int)+1)) >>= _) _ _ _;refine aD (aay h (by simp) λk x s1=>?_);replace s1:abk it hp k:=s1;have j:r9 k it d (i+1) es.size ep:=by
  refine⟨?_⟩;have q:((i+1:Nat):Int)=(i:Int)+1:=rfl;rw[q];simpa[ace]using x
 have T:aeO ⟨k,g,v,t,os⟩ (.ref it) "dict_keyiterator":=(⟨_,j.e,rfl⟩);refine aD (abA (aD (adu T ?_)));exact AD (AD ⟨_,rfl,AD (r k j λb o n q=>s1.extBut b o n q)⟩)
theorem Dw{Q:Option mT->oR->Prop}(r:A.handled=none)(h:r9 s.heap it d i es.size ep)(x:EntAt s.heap d es ep)(t:es.size≤i)
  (v:∀h',(∀b o,b≠it->s.heap.get? b=some o->h'.get? b=some o)->Q none {s with heap:=h' }):wpAny (model prog w) A (aci (.ref it)) Q E s:=by
 obtain⟨C,f,k,g⟩:=x.ex;obtain⟨h⟩:=h;have c:s.TypeIs (.ref it) "dict_keyiterator":=(⟨_,h,rfl⟩);have own:aa9 "dict_keyiterator" = false:=by decide
 unfold aci;refine aD (act (aaE (name:=abZ "__next__") c aby (aaI aby c adX ?_ (adN _))))
 wp_walk using F9 c,adC h rfl,abT f g,acd f g,adu c
 have p:(if (i:Int)<0 then none else es[((i:Nat):Int).toNat]?)=none:=by
  rw[if_neg (by omega),aa1,aer t]
 rw[p];refine aD (aD (F9 c (AD ?_)));refine aD (m:=acM (.ref it) 0 .none) (aay h (by simp) λB D s1=>?_);refine jx r λy e z ⟨u,l,j⟩=>?_;exact aD (acl (T:= "StopIteration") (b:=true) ⟨u,l,j⟩ aeo (AD (v y λb o n q=>z b o (s1.extBut b o n q))))
end
noncomputable def DcE(H:Hp)(a:Addr)(o:Obj)(es:List (V×V)):Prop:=(∃x,H a=some (.frz o (dX a x))/\es=x.map (·.2))\/∃x,H a=some (.frz o (.dK x))/\es=x.map λp=>(kV p.1,p.2)
theorem DcE.mono{b:Hp}(p:Pers H b)(h:DcE H a o es):DcE b a o es:=by
 rcases h with⟨x,e,q⟩|⟨x,e,q⟩
 .exact .inl ⟨x,p.frzs _ _ _ e,q⟩
 .exact .inr ⟨x,p.frzs _ _ _ e,q⟩
section
variable {X:Cx}{p:List (Addr×Obj)}{b:St}{H:Hp}{s:oR}
theorem JS{P:aaB}{kk:Key}{u:mT}(e:(cg P w).is kk u=true):RelV (kV kk) u:=by
 rcases bz e with⟨i,t,rfl,rfl⟩|⟨x,t,rfl,rfl⟩
 .exact⟨t,rfl⟩
 .exact⟨t,rfl⟩
theorem Inv.dce(I:Inv X p b H s)(h:DcE H a o es):(a==abD)=false/\∃c f,s.heap.get? a=some o/\o.ExactDict/\o.data = .dict c f/\abO (λ(e:V×V) (d:acj)=>RelV e.1 d.key/\RelV e.2 d.val) es c.toList:=by
 rcases h with⟨x,e,rfl⟩|⟨x,e,rfl⟩
 .obtain⟨ho,⟨hs,hz,o',c,f,h1,h2,h3,h4⟩,_⟩:=(I.hok a _ e);rw[ho]at h1;cases h1;refine⟨hs,c,f,ho,h2,h3,?_⟩;clear e hz;generalize c.toList=l at h4;rename_i z;clear z
  induction h4 with
  |nil=>exact .nil
  |cons q _ i=>exact .cons q.2 i
 .obtain⟨ho,hz,hs,vs,kv,o',c,f,h1,h2,h3,h4,h5,h6⟩:=(I.hok a _ e);rw[ho]at h1;cases h1;refine⟨hs,c,f,ho,h2,h3,?_⟩;generalize c.toList=l at h5;clear h6 h4 h3 h2 hz e
  induction kv generalizing l with
  |nil=>cases h5;exact .nil
  | cons q _ i=>
   cases h5 with
   |cons g j k=>
    rw[aau];refine .cons ⟨?_,?_⟩ (i _ k)
    .rw[<-q.1]at g;exact JS g
    .rw[j];exact q.2
end
noncomputable def Itm(a:Addr)(o:Obj)(es:List (V×V)):It where
 go:=λi H=>DcE H a o es/\i<es.length
 yld:=λi H v b=>∃T p,v = .ref T/\H T=none/\b=upd H T (.tup [p.1,p.2])/\es[i]?=some p
 stop:=λi H=>DcE H a o es/\es.length≤i
theorem Paired.at{b β:Type}{R:b->β->Prop}:∀{xs:List b}{ys:List β}{i:Nat}{y:β},abO R xs ys->ys[i]?=some y->∃x,xs[i]?=some x/\R x y
 |_,_,i,y,.nil,e=>by simp at e
 |_,_,0,y,.cons h _,e=>by simp at e;subst e;exact⟨_,rfl,h⟩
 |_,_,i+1,y,.cons _ t,e=>by
  obtain⟨x,c,d⟩:=Paired.at t ‹_›;exact⟨x,by simpa using c,d⟩
theorem Gv:entryFor table "dict_itemiterator.__iter__" = some acD.«dict_keyiterator.__iter__»:=entryFor_alias (id':= "dict_keyiterator.__iter__") rfl (by rfl) (by decide +kernel) rfl
theorem y9{prog:aaB}{A:aa4}{E:mT->oR->Prop}{s:oR}{b d:Addr}{i n e:Nat}{ok f:mT}(st:acJ s.heap b d i n e ok f)(h:Q (.ref b) s):wpAny (model prog w) A (ae2 (.ref b)) Q E s:=by
 have c:s.TypeIs (.ref b) "dict_itemiterator":=⟨_,st,rfl⟩;refine aes c adY (aaI adY c Gv ?_ (PySem.F.args_dict_itemiterator_iter_1 _));refine AD ⟨_,rfl,"dict_itemiterator",_,c,acT.lookup,?_⟩;exact h
theorem wF{P:aaB}{K:Mt}{r:List Expr}{x1:Nat}{pos:Pos}{f:Addr}{e:Array acj}{R:Nat}(ho:o.data = .dict e R):Turn P w K (.Tuple r x1 pos) (Itm a o es) [f] f (λi h=>∃ok g,acJ h f a i e.size R ok g) where
 mem:=by simp
 obj:=λi h st c b=>by
  obtain⟨ok,g,J⟩:=st
  cases OR.mp b
  exact⟨_,J,λv q=>by cases q⟩
 keep:=λi h h' st k=>by
  obtain⟨ok,g,J⟩:=st;exact⟨ok,g,k f (by simp) _ J⟩
 item:=by
  intro X F N C b i d s M H E I x st G;subst F N C;obtain⟨ok,g,st⟩:=st;obtain⟨dc,hi⟩:=G;obtain⟨_,j,D,B,A,l,t⟩:=I.dce dc;rw[ho]at l;cases l;have hl:es.length=e.size:=by have:=t.length;simpa using this
  have m:i<e.size:=by omega
  obtain⟨p,Z,Y,q3⟩:=Paired.at t (i:=i) (y:=e[i]) (by simp[m]);refine qR st ⟨o,B,A,ho⟩ m λh' a1 a2 a3 U=>⟨.ref s.heap.objs.size,rfl,?_⟩;refine wpAny_letOwnedTupleGo_items (s:={s with heap:=h' }) a1 λu b1 T=>?_;have O:H s.heap.objs.size=none:=I.hok.fresh (Dl _);have L:f≠s.heap.objs.size:=aaG (aaa st);have S:∀c o,c≠f->h'.get? c=some o->u.get? c=some o:=λc o n q=>T.extBut c o n q;have W:u.get? s.heap.objs.size=some {cls:=.type "tuple",data:=.seq #[e[i].key,e[i].val]}:=S _ _ (aa5 L) a2;have I0:Inv X d M (upd H s.heap.objs.size (.tup [p.1,p.2])) {s with heap:=s.heap.push {cls:=.type "tuple",data:=.seq #[e[i].key,e[i].val]},toks:=s.toks}:=
   I.laid (o:=.tup [p.1,p.2]) (λc o q=>Ad _ q) (Dl _) ⟨by show 2≤aag;rw[aan];decide,[e[i].key,e[i].val],.cons Y (.cons q3 .nil),PlainT.new _ _⟩
  have Il:Inv X d M (upd H s.heap.objs.size (.tup [p.1,p.2])) {s with heap:=u,toks:=s.toks}:=by
   refine Inv.turneds (s:={s with heap:=s.heap.push {cls:=.type "tuple",data:=.seq #[e[i].key,e[i].val]},toks:=s.toks}) (h':=u) (t':=s.toks) (ch:=[f]) I0 (λc o b q=>?_) λc b=>?_
   .have hc':c≠f:=λz=>b (by simp[z]);rcases aeV q with⟨rfl,rfl⟩|q
    .exact W
    .exact S c o hc' (U c o hc' q)
   .obtain⟨f0,f1⟩:=x c b
    cases OR.mp b
    exact⟨by rw[ag L];exact f0,f1⟩
  refine⟨.ref s.heap.objs.size,upd H s.heap.objs.size (.tup [p.1,p.2]),Il,rfl,⟨_,p,rfl,O,rfl,Z⟩,⟨_,_,b1⟩,λc b=>?_⟩
  cases OR.mp b
  rw[ag L];exact(x _ b).1
 done:=by
  intro X F N C b i d s M H E I x st G;subst F N C;obtain⟨ok,g,st⟩:=st;obtain⟨dc,hi⟩:=G;obtain⟨_,j,D,B,A,l,t⟩:=I.dce dc;rw[ho]at l;cases l;have hl:es.length=e.size:=by have:=t.length;simpa using this
  exact rm (I.ok.hd b) st ⟨o,B,A,ho⟩ (by omega) λh' V=>⟨rfl,I.turneds (t':=s.toks) (ch:=[f]) (λc o b q=>V c o (λz=>b (by simp[z])) q) x⟩
 self:=λ_ _ _ _ _ st h=>by
  obtain⟨ok,g,st⟩:=st;exact y9 st h
theorem yA{K:Kd}{H:Hp}:∀{kvs:List (dL×dL)}{xs:List (Int×V×V)},DenKV K H kvs xs->abO (λ(p:dL×dL) (e:V×V)=>Den K H p.1 e.1/\Den K H p.2 e.2) kvs (xs.map (·.2))
 |[],_,h=>by simp[DenKV]at h;subst h;exact .nil
 |_::r,_,h=>by
  obtain⟨u,v,vs,rfl,d,b,c⟩:=h;exact .cons ⟨d,b⟩ (yA c)
theorem zd{K:Kd}{H:Hp}:∀{kvs:List (dL×dL)}{xs:List (Key×V)},DenKK K H kvs xs->abO (λ(p:dL×dL) (e:V×V)=>Den K H p.1 e.1/\Den K H p.2 e.2) kvs (xs.map λp=>(kV p.1,p.2))
 |[],_,h=>by simp[DenKK]at h;subst h;exact .nil
 |(k,d)::r,_,h=>by
  obtain⟨b,v,vs,rfl,⟨rfl,_⟩,c,f⟩:=h;refine .cons ⟨?_,c⟩ (zd f)
  cases b with
  |inl i=>exact su i
  |inr x=>exact NA x
noncomputable abbrev PDc(K:Kd)(H:Hp):List (dL×dL)->List (V×V)->Prop:=abO λp e=>Den K H p.1 e.1/\Den K H p.2 e.2
theorem PDc.mono{b:Hp}(p:Pers H b)(h:PDc K H kvs es):PDc K b kvs es:=by
 induction h with
 |nil=>exact .nil
 |cons h _ i=>exact .cons ⟨h.1.mono p,h.2.mono p⟩ i
theorem SJ{v:V}(h:Den K H (.dict kvs) v)(b:isKd kvs=true\/kyA kvs=true):∃a o es,v = .ref a/\DcE H a o es/\PDc K H kvs es:=by
 obtain _:=mE b;obtain⟨a,rfl,h⟩:=h;rcases h with⟨x,⟨o,f⟩,k,g⟩|⟨x,o,f,g⟩|⟨c,x,e,_⟩
 .exact⟨a,o,_,rfl,.inl ⟨x,f,rfl⟩,yA g⟩
 .exact⟨a,o,_,rfl,.inr ⟨x,f,rfl⟩,zd g⟩
 .grind
noncomputable def b9(kvs:List (dL×dL)):List dL:=kvs.map λp=>.tuple [p.1,p.2]
noncomputable def jJ(kvs:List (dL×dL)):List dL:=kvs.map (·.1)
theorem Paired.at1{b β:Type}{R:b->β->Prop}:∀{xs:List b}{ys:List β}{i:Nat}{x:b},abO R xs ys->xs[i]?=some x->∃y,ys[i]?=some y/\R x y
 |_,_,i,y,.nil,e=>by simp at e
 |_,_,0,y,.cons h _,e=>by simp at e;subst e;exact⟨_,rfl,h⟩
 |_,_,i+1,y,.cons _ t,e=>by
  obtain⟨x,c,d⟩:=Paired.at1 t ‹_›;exact⟨x,by simpa using c,d⟩
theorem ya:Wks K (Itm a o es) (b9 kvs) λH=>DcE H a o es/\PDc K H kvs es where
 stop:=λH ⟨q,g⟩=>⟨q,by unfold b9;rw[gE,g.length];exact Dl _⟩
 go:=λi H h ⟨q,g⟩=>⟨q,by unfold b9 at h;rw[gE,g.length]at h;exact h⟩
 yld:=λi H x n h ⟨q,g⟩ y=>by
  obtain⟨T,u,rfl,f,rfl,l⟩:=y;obtain⟨p,e,j,k⟩:=Paired.at g l;have c:∀b o,H b=some o->upd H T (.tup [u.1,u.2]) b=some o:=λb o q=>by rw[ag (aP q f)];exact q
  have d:Pers H _:=⟨λb m q=>c b _ q,λb o u q=>c b _ q⟩;exact⟨c,.tuple [p.1,p.2],by unfold b9;rw[aae,e];rfl,cF (SqT.of ai) (DenAll.cons (j.mono d) (DenAll.cons (k.mono d) DenAll.nil))⟩
section
variable {X:Cx}{tg o:Expr}{i:List Expr}{j:Nat}{t:Pos}{w:WE}{f g:Pos}
noncomputable def ON(to:TE):TI:=λc H R=>to c H λx b=>∃a o es,x = .ref a/\DcE b a o es/\R (Itm a o es) b
theorem Db{to:TE}(ho:PE X o to)(k:abg o "items" X.env (eval o X.env)=eval o X.env:=by rfl)(d:(f.endLine==g.line)=true:=by rfl):PI X (.Tuple i j t) (.Call (.Attribute o "items" f) [] [] g) (ON to):=by
 intro p s F H R I h;refine aef k d (thn (ho p s F H _ I h) λv s1 ⟨x,G,n,r1,E⟩=>?_);obtain⟨a,ob,es,rfl,dc,q⟩:=E;cases r1;obtain⟨hs,l,C,u,r,y,J⟩:=n.dce dc;have A:EntAt s1.heap a l C:=⟨ob,u,r,y⟩;refine⟨"dict","dict.items",aeh,aei,agc,⟨ob,u,r.1⟩,λb e=>by cases e;exact⟨ob,u,r.2.1⟩,acQ rfl (afe (lQ hs A ?_))⟩;have z:∀b o,s1.heap.get? b=some o->(s1.heap.push {cls:=.type "dict_items",data:=.fields #[.ref a]}).get? b=some o:=λb o q=>Ad _ q;refine xy (aaf _ rfl) (A.keep λo=>z _ o) λL Z D=>?_;have m:s1.heap.objs.size≤(s1.heap.push {cls:=.type "dict_items",data:=.fields #[.ref a]}).objs.size:=by rw[abt];exact agJ _
 refine⟨_,[_],_,_,G,rfl,n.kept (t':=s1.toks) λb o q=>D b o (z b o q),wF y,⟨_,_,Z⟩,λc B=>?_,q⟩
 cases OR.mp B
 exact n.fpOk m (n.hok.fresh m)
noncomputable def onDc(P:List (dL×dL)->Prop):R->Prop
 | .imm (.dict kvs)=>(isKd kvs||kyA kvs)=true/\P kvs
 |_=>False
theorem JX{b:Al}{m:Hp}{r:R}{v:V}(h:RelR K b m H r v)(k:onDc P r):∃kvs a o es,v = .ref a/\DcE H a o es/\PDc K H kvs es/\P kvs:=by
 cases r with
 | imm d=>
  cases d with
  |dict kvs=>
   obtain⟨p,l⟩:=k;obtain⟨a,o,es,n,e,c⟩:=SJ (h) (by simp_all);exact⟨kvs,a,o,es,n,e,c,l⟩
  |none=>exact k.elim
  |bool _=>exact k.elim
  |int _=>exact k.elim
  |str _=>exact k.elim
  |list _=>exact k.elim
  |tuple _=>exact k.elim
 |_=>exact k.elim
noncomputable def uu(w:WE):WI:=λm K=>w m λr b=>onDc (λkvs=>K ⟨b9 kvs,none⟩ b) r
theorem FV(ho:ME X o w)(b:abg o "items" X.env (eval o X.env)=eval o X.env:=by rfl)(h:(f.endLine==g.line)=true:=by rfl):MI X (.Tuple i j t) (.Call (.Attribute o "items" f) [] [] g) (uu w):=(Db ho b h).wk<|by
 rintro D H z ⟨d,m,A,u,q,c⟩;refine⟨d,m,_,u,q,λr s v e k n R rr F=>?_⟩;obtain⟨kvs,a,ob,es,rfl,dc,l,k⟩:=JX rr k;exact⟨a,ob,es,rfl,dc,c _ s _ e k n R F ⟨_,ya,⟨dc,l⟩,by rintro C B ⟨x,y⟩ p;exact⟨x.mono p,y.mono p⟩⟩⟩
theorem Ck(ho:EE X o w)(b:abg o "items" X.env (eval o X.env)=eval o X.env:=by rfl)(h:(f.endLine==g.line)=true:=by rfl):EI X (.Tuple i j t) (.Call (.Attribute o "items" f) [] [] g) (uu w):=⟨FV ho.h b h⟩
theorem LM{m:MSt}{b:Src->MSt->Prop}(h:w m λr c=>onDc (λkvs=>b ⟨b9 kvs,none⟩ c) r):uu w m b:=h
theorem vx(b:(isKd kvs||kyA kvs)=true)(h:P kvs):onDc P (.imm (.dict kvs)):=⟨b,h⟩
end
noncomputable def putX (k:dL) (b:Addr) (r:mT):List (dL×Addr×mT)->List (dL×Addr×mT)
 |[]=>[(k,b,r)]
 |x::xs=>if x.1=k then(x.1,x.2.1,r)::xs else x::putX k b r xs
theorem vK{k:dL}{r:mT}:∀{xs:List (dL×Addr×mT)},k∉xs.map (·.1)->xs.map (putAt k r)=xs
 |[],_=>rfl
 |x::xs,h=>by
  rw[aau,aai,not_or]at h;rw[aau,vK h.2];unfold putAt;rw[if_neg (λz=>h.1 z.symm)]
theorem kJ{k:dL}{b:Addr}{r:mT}:∀{xs:List (dL×Addr×mT)},(xs.map (·.1)).Nodup->storedH xs k b r=putX k b r xs
 |[],_=>rfl
 | x::xs,h=>by
  rw[aau,aaQ]at h
  by_cases e:x.1=k
  .have a:atKey (x::xs) k=some x.2:=by simp[atKey,e]
   rw[storedH_old a,aau,vK (by rw[<-e];exact h.1)];unfold putX putAt;rw[if_pos e,if_pos e]
  .have a:atKey (x::xs) k=atKey xs k:=by simp[atKey,e]
   have i:=kJ (k:=k) (b:=b) (r:=r) h.2;unfold putX;rw[if_neg e,<-i];unfold storedH;rw[a];split
   .rw[aau];unfold putAt;rw[if_neg e]
   .rfl
noncomputable def putE (w:World) (k:dL) (y v:V):List (dL×dL)->List (Int×V×V)->List (Int×V×V)
 |(k',_)::r,e::es=>if k'=k then(e.1,e.2.1,v)::es else e::putE w k y v r es
 |_,_=>[(cE w k,y,v)]
theorem B8{k d k' d':dL}{r:List (dL×dL)}(h:kyD k'=true)(b:kyD k=true):putP k d ((k',d')::r)=if k'=k then(k',d)::r else(k',d')::putP k d r:=by
 show(if aak k' k=true then _ else _)=_;rw[rj _ _ (ll h) (ll b)];simp
theorem vM(w:World)(k:dL)(y v:V):∀(kvs:List (dL×dL)) (es:List (Int×V×V)),kvs.length=es.length->(putE w k y v kvs es).length≤es.length+1
 |[],[],_=>Dl _
 |_::r,e::es,h=>by
  unfold putE;split
  .simp
  .rw[aaz,aaz];have:=vM w k y v r es (by simpa using h);omega
 |[],_::_,h=>by simp at h
 |_::_,[],h=>by simp at h
theorem v8{K:Kd}{H:Hp}{k d:dL}{y v:V}(i:kyD k=true)(h:Den K H k y)(b:Den K H d v):∀{kvs:List (dL×dL)}{es:List (Int×V×V)},kyA kvs=true->DenKV K H kvs es->DenKV K H (putP k d kvs) (putE K.w k y v kvs es)
 |[],es,_,g=>by
  subst g;show DenKV K H [(k,d)] [(cE K.w k,y,v)];simp only[DenKV];exact⟨y,v,[],rfl,h,b,rfl⟩
 |(k',d')::r,es,ha,g=>by
  rw[kyA,acS,aaZ]at ha;obtain⟨u,j,vs,rfl,f,l,c⟩:=g;rw[B8 ha.1 i];unfold putE
  by_cases e:k'=k
  .rw[if_pos e,if_pos e];simp only[DenKV];exact⟨u,v,vs,rfl,f,b,c⟩
  .rw[if_neg e,if_neg e];simp only[DenKV];exact⟨u,j,_,rfl,f,l,v8 i h b ha.2 c⟩
theorem Ow{k:dL}{b:Addr}{v:V}{r:mT}(e:RelV v r):∀{kvs:List (dL×dL)}{es:List (Int×V×V)}{xs:List (dL×Addr×mT)},xs.map (·.1)=kvs.map (·.1)->ExV w es xs->ExV w (putE w k (.ref b) v kvs es) (putX k b r xs):=by
 intro kvs
 induction kvs with
 |nil=>
  intro es xs d ex;have:=by simpa using d
  subst this;exact .cons ⟨rfl,rfl,e⟩ .nil
 | cons q kvs i=>
  intro es xs d ex;obtain⟨f,g⟩:=q
  cases ex with
  |nil=>simp at d
  |cons h t=>
   simp at d;unfold putE putX
   by_cases c:f=k
   .rw[if_pos c,if_pos (d.1.trans c)];exact .cons ⟨h.1,h.2.1,e⟩ t
   .rw[if_neg c,if_neg (λz=>c (d.1.symm.trans z))];exact .cons h (i d.2 t)
noncomputable def DxM(K:Kd)(H:Hp)(a:Addr)(kvs:List (dL×dL))(es:List (Int×V×V)):Prop:=
 DenKV K H kvs es/\(kvs.map (·.1)).Nodup/\kyA kvs=true/\((H a=some (dX a es)/\kvs≠[])\/(H a=some (.dK [])/\kvs=[]))
section
variable {X:Cx}{c:List (Addr×Obj)}{f:St}{H:Hp}{s:oR}{a:Addr}{kvs:List (dL×dL)}{es:List (Int×V×V)}{k d:dL}{y v:V}{u r:mT}{A:aa4}{E:mT->oR->Prop}
theorem DxM.is(I:Inv X c f H s)(h:DxM X.kd H a kvs es):(a==abD)=false/\∃xs,s.heap.DictOfH (km X.prog X.w) a xs/\PxV X.kd H kvs xs/\ExV X.w es xs:=by
 obtain⟨g,nd,ky,⟨q,_⟩|⟨q,rfl⟩⟩:=h
 .obtain⟨hs,_,xs,dd,p,e⟩:=I.dcE (.inl q) g nd ky;exact⟨hs,xs,dd,p,e⟩
 .obtain⟨hs,dd⟩:=I.dc0 (.inl q);subst g;exact⟨hs,[],dd,.nil,.nil⟩
theorem zh{Q:Unit->oR->Prop}(C:A.units+20<cLine)(I:Inv X c f H s)(h:DxM X.kd H a kvs es)(t:kyD k=true)(m:Den X.kd H k y)(R:RelV y u)(S:RelV v r)(Y:kvs.length<aag)
  (j:∀s',Inv X c f (upd H a (dX a (putE X.w k y v kvs es))) s'->Q () s'):wpAny (model X.prog X.w) A (dictSet a u r) Q E s:=by
 obtain⟨hs,x,G,p,ex⟩:=h.is I;obtain⟨b,rfl⟩:=qQ t m;cases (R);have le:es.length=kvs.length:=h.1.len.symm;have W:x.length=kvs.length:=by have:=congrArg aeS p.keys;simpa using this
 refine wpAny_dictSet_heap (knd:=km X.prog X.w) C (I.ky t m) G (λU g l=>j _ ?_) (by omega);rw[kJ (by rw[p.keys];exact h.2.1)]at g;obtain⟨o,e,D,i,J,N,n,O,z⟩:=g;have F:Mut (H a):=by
  rcases h.2.2.2 with⟨q,_⟩|⟨q,_⟩
  .rw[q];exact trivial
  .rw[q];exact trivial
 refine uv I F l ⟨o,i⟩ ⟨⟨hs,?_,o,e,D,i,J,N,?_⟩,⟨o,i⟩,λha hb L M=>?_⟩
 .have:=vM X.w k (.ref b) v kvs es le.symm;omega
 .rw[n];have:=Ow (w:=X.w) (k:=k) (b:=b) S p.keys ex;generalize putE X.w k (.ref b) v kvs es=V at this;generalize putX k b r x=T at this;clear n O z
  induction this with
  |nil=>exact .nil
  |cons q _ B=>exact .cons ⟨q.1.symm,by rw[q.2.1];rfl,q.2.2⟩ B
 .obtain⟨z1,z2,o',ents',ep',z3,z4⟩:=L;exact⟨z1,z2,o',ents',ep',M o' z3,z4⟩
theorem xm{Q:Unit->oR->Prop}(q:A.units+64<cLine)(I:Inv X c f H s)(h:DxM X.kd H a kvs es)(p:kyD k=true)(j:Den X.kd H k y)(g:RelV y u)(n:RelV v r)(l:kvs.length<aag)
  (e:∀s',Inv X c f (upd H a (dX a (putE X.w k y v kvs es))) s'->Q () s'):wpAny (model X.prog X.w) A (ahq (.ref a) u r) Q E s:=by
 obtain⟨hs,x,b,t,ex⟩:=h.is I;refine abA ?_;refine aD (afG b.typeIs (by decide) ?_);refine aD (aaE b.typeIs slot_dict_setitem (aaI slot_dict_setitem b.typeIs entry_dict_setitem ?_ (args_dict_setitem _ _ _)));refine aD (aez b.typeIs ?_);refine aD (m:=dictSet a u r) (zh (by grind) I h p j g n l λs' i=>AD ⟨.none,rfl,AD (e s' i)⟩)
end
noncomputable def Qi(K:Kd)(t ty e:TE):TS:=λD b H=>e b H λv d=>t b d λx f=>ty b f λy c=>∃a kvs es k,x = .ref a/\DxM K c a kvs es/\kyD k=true/\Den K c k y/\kvs.length<aag/\D.nx b (upd c a (dX a (putE K.w k y v kvs es)))
section
variable {X:Cx}{o i e:Expr}{B t A:WE}{pos f:Pos}{G ty E:TE}
theorem DE(d:X.A.units+64<cLine)(ho:PE X o G)(z:PE X i ty)(l:PE X e E)(hs:abH e (some (.Subscript o i f)) pos.line X.env=pure false):PS X (.Assign [.Subscript o i f] e pos) (Qi X.kd G ty E):=by
 intro p s b H D I h;refine ags (thn (l p s b H _ I h) λr s1 ⟨v,q,L,J,N⟩=>thn (ho p s1 b q _ L N) λu s2 ⟨x,F,m,j,M⟩=>thn (z p s2 b F _ m M) λV T ⟨y,S,n,C,a,kvs,es,k,ex,dx,ky,g,O,R⟩=>?_) hs;subst ex;obtain rfl:u=abh a:=j;exact xm d n dx ky g C J O λU c=>⟨b,_,c,R⟩
theorem kh{k d:dL}(b:kyD k=true):∀{kvs:List (dL×dL)},kyA kvs=true->(putP k d kvs).map (·.1)=if k∈kvs.map (·.1)then kvs.map (·.1)else kvs.map (·.1)++[k]
 |[],_=>rfl
 | (k',d')::r,h=>by
  rw[kyA,acS,aaZ]at h;rw[B8 h.1 b]
  by_cases e:k'=k
  .rw[if_pos e,if_pos (by simp[e])];rfl
  .rw[if_neg e,aau,kh b h.2]
   by_cases c:k∈r.map (·.1)
   .rw[if_pos c,if_pos (by simp[c])];rfl
   .rw[if_neg c,if_neg (by simp only[aau,aai,not_or];exact⟨λz=>e z.symm,c⟩)];rfl
theorem xj{k d:dL}(g:kyD k=true)(h:kyA kvs=true)(nd:(kvs.map (·.1)).Nodup):((putP k d kvs).map (·.1)).Nodup:=by
 rw[kh g h];split
 .omega
 .rename_i c;exact afH.mpr ⟨nd,by simp,λa ha b hb=>by simp at hb;subst hb;exact λz=>c (z▸ha)⟩
theorem uC{k d:dL}(b:kyD k=true)(h:kyA kvs=true):kyA (putP k d kvs)=true:=by
 have e:∀l:List _,kyA l=(l.map _).all kyD:=λl=>by unfold kyA;rw[ado];rfl
 rw[e,kh b h];rw[e]at h;split
 .exact h
 .rw[List.all_append,h];simp[b]
theorem JW(k d:dL)(kvs:List (dL×dL)):putP k d kvs≠[]:=by
 cases kvs with
 |nil=>intro h;cases h
 |cons x r=>
  show(if _ then _ else _)≠_
  split<;>simp
theorem Fx(h:kyA kvs=true)(n:kvs≠[]):isKd kvs=false:=by
 cases kvs with
 |nil=>exact(n rfl).elim
 |cons x r=>
  obtain⟨k,d⟩:=x;rw[kyA,acS,aaZ]at h;obtain⟨ds,rfl,_⟩:=ib h.1;rfl
theorem iy(h:kyA kvs=true)(n:kvs≠[])(nd:(kvs.map (·.1)).Nodup):CA kvs:=
 ⟨Fx h n,nd,λk c=>by
  obtain⟨x,b,rfl⟩:=aac.mp c;exact ll (abJ.mp h x b)⟩
noncomputable def AC(A B t:WE):WS:=λD m=>A m λg m1=>cx (λd=>B m1 λc m2=>t m2 λr b=>onAt (λk p=>cx (λy=>p=[]/\∃kvs,b.os[k]?=some [.dict (lfKV kvs)]/\kyA kvs=true/\kyD y=true/\kvs.length<aag/\D.nx {b with os:=b.os.set k [.dict (lfKV (putP y d kvs))]}) r) c) g
theorem y6(kvs:List (dL×dL)):kyA (lfKV kvs)=kyA kvs:=by
 unfold kyA lfKV;rw[ado];rfl
theorem Rel.dx{K:Kx}{l:Al}{m:MSt}{u:St}{k:Nat}{τ:List (List Nat×Addr)}(R:Rel K l m u H)(x:l[k]?=some (.T τ))(p:τ.lookup []=some a)(r:m.os[k]?=some [.dict (lfKV kvs)])(ky:kyA kvs=true):∃es,DxM K H a kvs es:=by
 obtain⟨⟨D,F,z,g,I,s,q⟩,_⟩:=R.own k (.T τ) _ x r;cases z;obtain⟨n1,n2⟩:=mE (.inr (by rw[y6];exact ky));rcases g with⟨d,h,_⟩|⟨_,_,b,es,h,v,j,n,g⟩|⟨_,_,b,es,h,v,j,g⟩|⟨c,b,dx,C,y,z0,_⟩
 .rw[n1]at h;cases h
 .rw[p]at h;cases h;exact⟨es,fzKV g,by rw[<-d7];exact n.2.1,ky,.inl ⟨j,λz=>by subst z;exact absurd n.1 (by decide)⟩⟩
 .simp_all
  obtain⟨rfl,rfl⟩:=Qt (fzKK g) ky;exact⟨[],by simp only[DenKV],acy,rfl,.inr ⟨j,rfl⟩⟩
 .grind
theorem Ii(hu:X.A.units+64<cLine)(he:ME X e A)(ho:ME X o B)(hi:ME X i t)(hs:abH e (some (.Subscript o i f)) pos.line X.env=pure false:=by rfl):MS X (.Assign [.Subscript o i f] e pos) (AC A B t):=(DE hu ho hi he hs).wk<|by
 rintro D σ H ⟨C,m,De,Rl,hw,k⟩;refine⟨C,m,_,Rl,hw,λr m1 v H1 q n1 l rr F1=>?_⟩;obtain⟨d,er,hd,q⟩:=dB rr q;refine⟨C,m1,_,l,q,λro m2 ov H2 q2 n2 j N W=>⟨C,m2,_,j,q2,λri m3 Z s x n3 R O T=>?_⟩⟩;obtain⟨kk,p,τ,a,rfl,M,h,rfl,x⟩:=Qe N x;obtain⟨y,rfl,Y,rfl,kvs,U,ky,c,hl,x⟩:=dB O x;obtain⟨es,dx⟩:=R.dx M h U ky;have S:Den X.kx s d v:=(hd.mono (l.pers W)).mono (j.pers T);obtain⟨⟨t1,v0,z,g,a0,n,J⟩,mu⟩:=R.own kk (.T τ) _ M U;cases z;obtain⟨u0,L,I⟩:∃u,s a=some u/\Mu u=true:=by
  rcases dx.2.2.2 with⟨q,_⟩|⟨q,_⟩
  .exact⟨_,q,rfl⟩
  .exact⟨_,q,rfl⟩
 have F:Pers s (upd s a (dX a (putE X.w y Z v kvs es))):=bf (.inr ⟨u0,L,I⟩);have ok:=iy (kvs:=putP y d kvs) (uC c ky) (JW y d kvs) (xj c ky dx.2.1);have new:TAt X.kx (upd s a (dX a (putE X.w y Z v kvs es))) τ [] (.dict (lfKV (putP y d kvs))) (.ref a):=by
  obtain⟨z1,z2⟩:=mE (.inr (by rw[y6];exact uC c ky):isKd (lfKV (putP y d kvs))=true\/kyA (lfKV (putP y d kvs))=true);simp only[TAt];refine .inr (.inl ⟨z1,z2,a,_,h,rfl,ai,⟨by rw[je];exact ok.1,by rw[d7];exact ok.2.1,by rw[d7];exact ok.2.2⟩,KZ ?_⟩);exact v8 c (Y.mono F) (S.mono F) ky (DenKV.mono F dx.1)
 rw[h]at n;cases n;subst J;obtain⟨V,F4⟩:=R.setW M F (ds':=[.dict (lfKV (putP y d kvs))]) (λb hb=>ag λeb=>hb (eb▸bt h)) ⟨⟨_,.ref a,rfl,new,a,h,rfl⟩,λb hb=>by
  by_cases eb:b=a
  .subst eb;exact⟨_,ai,rfl⟩
  .rw[ag eb];exact mu b hb⟩
 exact⟨a,kvs,es,y,rfl,dx,c,Y,hl,k.nx C _ σ _ x (n3.trans (n2.trans n1)) V (.of V (((F1.trans W).trans T).trans F4))⟩
theorem im(c:X.A.units+64<cLine)(h:EE X e A)(ho:EE X o B)(b:EE X i t)(hs:abH e (some (.Subscript o i f)) pos.line X.env=pure false:=by rfl):ES X (.Assign [.Subscript o i f] e pos) (AC A B t):=⟨Ii c h.h ho.h b.h hs⟩
theorem on{D:cV}{m:MSt}(h:A m λg m1=>cx (λd=>B m1 λc m2=>t m2 λr b=>onAt (λk p=>cx (λy=>p=[]/\∃kvs,b.os[k]?=some [.dict (lfKV kvs)]/\kyA kvs=true/\kyD y=true/\kvs.length<aag/\D.nx {b with os:=b.os.set k [.dict (lfKV (putP y d kvs))]}) r) c) g):AC A B t D m:=h
noncomputable def wFzX(w:WS):WS:=λD m=>∃(k j:Nat) (kvs:List (dL×dL)) (b:List Nat) (m2:MSt),m.vs[j]?=some (some (.at k []))/\m.os[k]?=some [.dict (lfKV kvs)]/\kyA kvs=true/\Fz k (.dict kvs) b m m2/\w D m2
theorem O9{st:Stmt}{w:WS}(h:MS X st w):MS X st (wFzX w):=(Uy h).wk<|by
 rintro D y H ⟨C,m,I,R,⟨k,r,kvs,J,m2,x,s,ky,F,l⟩,g⟩;obtain⟨v,z,L,a,c,d,rfl⟩:=R.var r _ x;obtain⟨es,dx⟩:=R.dx c d s ky;have n:∀(j:Nat) (v:V),(m.vs[j]?=some (some (.obj k))\/m.vs[j]?=some (some (.at k [])))->y[j]?=some (some v)->v = .ref a:=λj v b u=>by
  rcases b with b|b
  .obtain⟨v',ev',a',ea',_⟩:=R.var j _ b;rw[c]at ea';cases ea'
  .obtain⟨v',ev',τ',a',ea',el',rfl⟩:=R.var j _ b
   grind
 rcases dx.2.2.2 with⟨q,ne⟩|⟨q,rfl⟩
 .refine uo R g F c (bt d) q rfl rfl (λo p=>?_) n l;simp only[Den];exact⟨a,rfl,.inl ⟨es,⟨o,ai⟩,iy ky ne dx.2.1,DenKV.mono p dx.1⟩⟩
 .refine uo R g F c (bt d) q rfl rfl (λo p=>?_) n l;simp only[Den];exact⟨a,rfl,.inr (.inl ⟨[],o,ai,by simp only[DenKK]⟩)⟩
theorem tX{st:Stmt}{w:WS}(h:ES X st w):ES X st (wFzX w):=⟨O9 h.h⟩
theorem LP{w:WS}{D:cV}{m:MSt}(k j:Nat)(kvs:List (dL×dL))(b:List Nat)(m2:MSt)(g:m.vs[j]?=some (some (.at k [])))(d:m.os[k]?=some [.dict (lfKV kvs)])(c:kyA kvs=true)(F:Fz k (.dict kvs) b m m2)(h:w D m2):wFzX w D m:=⟨k,j,kvs,b,m2,g,d,c,F,h⟩
noncomputable def Pj(K:Kd)(g E:TE):TE:=λc H Q=>∀p,H p=none->g c (upd H p (.dK [])) λy d=>E c d λv b=>b p=some (.dK [])/\∃k,kyD k=true/\Den K b k y/\∀ob,Q (.ref p) (upd b p (.frz ob (dX p [(cE K.w k,y,v)])))
theorem Im{g E:TE}(T:X.A.units+64<cLine)(S:PE X i g)(n:PE X e E):PE X (.Dict [some i] [e] pos) (Pj X.kd g E):=by
 intro p s h H Q I q;have l:=I.hok.fresh (Dl s.heap.objs.size);have D:=I.laid (o:=.dK []) (h':=s.heap.push {cls:=.type "dict",data:=.dict #[]}) (t':=s.toks) (λ_ _ q=>Ad _ q) (Dl _) (ou s.heap I.big);refine wpAny_Dict_any rfl rfl (by simp) (show 1≤15 by decide) (pairTrees_cons_walk (thn (S p _ h _ _ D (q _ l)) λu s1 ⟨y,N,x,O,J⟩=>thn (n p s1 h N _ x J) λr s2 ⟨v,j,L,R,M,k,ky,m,F⟩=>pairTrees_nil_walk ?_));unfold storeAll;rw[ad2];refine aD (aD (zh (kvs:=[]) (es:=[]) (by omega) L ⟨by simp only[DenKV],acy,rfl,.inr ⟨M,rfl⟩⟩ ky m O R (by rw[aan];decide) λU z=>AD ?_));obtain⟨ob,d⟩:=z.freezeU ai rfl;have C:upd (upd j s.heap.objs.size (dX s.heap.objs.size (putE X.w k y v [] []))) s.heap.objs.size (.frz ob (dX s.heap.objs.size (putE X.w k y v [] [])))=upd j s.heap.objs.size (.frz ob (dX s.heap.objs.size [(cE X.w k,y,v)])):=by
  funext b
  by_cases c:b=s.heap.objs.size
  .subst c;rw[ai,ai];rfl
  .rw[ag c,ag c,ag c]
 rw[C]at d;exact AD ⟨.ref s.heap.objs.size,_,d,rfl,F ob⟩
noncomputable def yU(wk b:WE):WE:=λm K=>wk m λr m1=>cx (λk=>b m1 λc m2=>cx (λd=>kyD k=true/\K (.imm (.dict [(k,d)])) m2) c) r
theorem DM(O:X.A.units+64<cLine)(V:ME X i t)(S:ME X e A):ME X (.Dict [some i] [e] pos) (yU t A):=(Im O V S).wk<|by
 rintro Y H Q ⟨g,m,W,I,U,C⟩;intro p hp;refine⟨g,m,_,I.lay hp,U,λZ m1 y H1 q n1 l s M=>?_⟩;obtain⟨k,rfl,r,q⟩:=dB s q;refine⟨g,m1,_,l,q,λrv m2 v j D n2 R u F=>?_⟩;obtain⟨d,rfl,hd,kd,D⟩:=dB u D;have c:p∉ads g:=I.out hp;have L:j p=some (.dK []):=F p _ (M p _ ai c) c;have n:Den X.kx j k y:=r.mono (l.pers F);refine⟨L,k,kd,n,λob=>?_⟩;have z:Pers j (upd j p (.frz ob (dX p [(cE X.w k,y,v)]))):=bf (.inr ⟨_,L,rfl⟩);have fr:Frm g H (upd j p (.frz ob (dX p [(cE X.w k,y,v)]))):=λb o eb J=>by
  have ne:b≠p:=aP eb hp;rw[ag ne];exact F b o (M b o (by rw[ag ne];exact eb) J) J
 have old:Ext X.kx.eb.np g H g (upd j p (.frz ob (dX p [(cE X.w k,y,v)]))):=⟨rfl,fr,λ_ h=>.inl h,λb hb=>by
  have x:b≠p:=λe=>c (e▸hb);rw[ag x];obtain⟨N,T,_⟩:=R.mem hb;exact⟨N,T⟩⟩
 refine C _ m2 _ _ D (n2.trans n1) (R.at' z (λb hb=>ag λe=>c (e▸hb)) (I.ebx.trans old)) (show Den X.kx _ (.dict [(k,d)]) (.ref p)from ?_) fr;simp only[Den];refine⟨p,rfl,.inl ⟨_,⟨ob,ai⟩,iy (by simp[kyA,kd]) (by simp) (by simp),?_⟩⟩;simp only[DenKV];exact⟨y,v,[],rfl,n.mono z,hd.mono z,rfl⟩
theorem qw(b:X.A.units+64<cLine)(c:EE X i t)(h:EE X e A):EE X (.Dict [some i] [e] pos) (yU t A):=⟨DM b c.h h.h⟩
theorem zY{m:MSt}{K:R->MSt->Prop}(h:t m λr m1=>cx (λk=>A m1 λb m2=>cx (λd=>kyD k=true/\K (.imm (.dict [(k,d)])) m2) b) r):yU t A m K:=h
theorem yk{a b:dL}(ha:kdD a=true)(hb:kdD b=true):Au a b=aak a b:=by
 obtain⟨k,rfl⟩:=jV ha;obtain⟨c,rfl⟩:=jV hb;rw[BJ,qy]
theorem CC{y d:dL}(b:kdD y=true):∀{kvs:List (dL×dL)},isKd kvs=true->putD y (lfD d) (lfKV kvs)=lfKV (putP y d kvs)
 |[],_=>rfl
 |(k',d')::r,h=>by
  rw[ow,acS,aaZ]at h;have c:=CC (d:=d) b (by rw[ow];exact h.2);show(if Au k' y=true then _ else _)=lfKV (if aak k' y=true then _ else _);rw[yk h.1 b];split
  .rfl
  .show _::putD y _ (lfKV r)=_;rw[c];rfl
end
end L2
namespace K
open PySem L2 M7
variable{D a b t:Int}{S n q:Nat}{h:Hall}{r:Rule}{L:List Pr}
theorem Ae(h:a.natAbs<10^160):acD.Int.intBits a≤540:=intBits_le_iff.mpr (aax h (by decide))
theorem cN(ha:a.natAbs<10^160)(hb:b.natAbs<10^160):afZ a b:=afZ.of_le (Ae ha) (Ae hb) (by decide)
theorem cfdB{i:Int}{g:Nat}(h0:0<g)(h:g<10^160):CFd i (g:Int):=⟨by omega,by
 rw[aaS];have:=(agM (by exact aaX ‹_›)).mpr (aax h (show 10^160<2^540 by decide));omega⟩
noncomputable def nfP(t b:Int):Int×Int:=if b<0 then((-t)/((t.natAbs.gcd b.natAbs:Nat):Int),(-b)/((t.natAbs.gcd b.natAbs:Nat):Int))else(t/((t.natAbs.gcd b.natAbs:Nat):Int),b/((t.natAbs.gcd b.natAbs:Nat):Int))
noncomputable def nf(t b:Int):dL:=.tuple [.int (nfP t b).1,.int (nfP t b).2]
noncomputable def FB:SpM:=λc K=>∃t b:Int,c=[.imm (.int t),.imm (.int b)]/\b≠0/\t.natAbs<10^160/\b.natAbs<10^160/\K (.imm (nf t b)) []
structure FrOk(a b:Int):Prop where
 ha:a.natAbs<10^76
 hb:b.natAbs<10^76
 hp:0<b
noncomputable def frT(a b:Int):dL:=.tuple [.int a,.int b]
noncomputable def C9(f:Int->Int->Int->Int->dL):SpM:=λe K=>∃a b c d:Int,e=[.imm (frT a b),.imm (frT c d)]/\FrOk a b/\FrOk c d/\K (.imm (f a b c d)) []
noncomputable def addF(a b c d:Int):dL:=nf (a*d+c*b) (b*d)
noncomputable def subF(a b c d:Int):dL:=nf (a*d-c*b) (b*d)
noncomputable def mulF(a b c d:Int):dL:=nf (a*c) (b*d)
noncomputable def QQ:SpM:=λe K=>∃a b c d:Int,e=[.imm (frT a b),.imm (frT c d)]/\FrOk a b/\FrOk c d/\c≠0/\K (.imm (nf (a*d) (b*c))) []
theorem fZ(ha:a.natAbs<10^76)(hb:b.natAbs<10^76):(a*b).natAbs<10^152:=by
 rw[aet];have h:=Nat.mul_lt_mul'' ha hb;omega
theorem ur(h:n<10^152):n<10^160:=aax h (by decide)
theorem up45(h:n<10^76):n<10^160:=aax h (by decide)
theorem Ud(ha:a.natAbs<10^152)(hb:b.natAbs<10^152):(a+b).natAbs<10^160:=by
 have h:=Int.natAbs_add_le a b;omega
theorem UD(ha:a.natAbs<10^152)(hb:b.natAbs<10^152):(a-b).natAbs<10^160:=by
 have h:=ahA a b;omega
theorem AH(ha:0<a)(hb:0<b):a*b≠0:=Int.ne_of_gt (abx ha hb)
noncomputable def VW:SpM:=C9 addF
noncomputable def P8:SpM:=C9 subF
noncomputable def Ur:SpM:=C9 mulF
noncomputable def O4:SpM:=C9 addF
section
variable {d:Type} [e:DecidableEq d]
noncomputable def addA(a:d)(x:Int):List (d×Int)->List (d×Int)
 |[]=>[(a,x)]
 |p::r=>if p.1=a then(p.1,p.2+x)::r else p::addA a x r
noncomputable def getA(a:d):List (d×Int)->Int
 |[]=>0
 |p::r=>if p.1=a then p.2 else getA a r
noncomputable def kvA(enc:d->dL)(L:List (d×Int)):List (dL×dL):=L.map λp=>(enc p.1,.int p.2)
theorem uc{enc:d->dL}(f:∀a b,aak (enc a) (enc b)=decide (a=b))(a:d):∀L:List (d×Int),(bZ (enc a) (kvA enc L)).getD (.int 0) = .int (getA a L)
 |[]=>rfl
 |p::r=>by
  show(if aak _ _=true then some _ else bZ _ (kvA enc r)).getD _ = .int (if p.1=a then p.2 else getA a r);rw[f]
  by_cases c:p.1=a
  .rw[if_pos c,if_pos (decide_eq_true c)];rfl
  .rw[if_neg c,if_neg (by rw[decide_eq_false c];decide)];exact uc f a r
theorem yX{enc:d->dL}(f:∀a b,aak (enc a) (enc b)=decide (a=b))(a:d)(x:Int):∀L:List (d×Int),putP (enc a) (.int (getA a L+x)) (kvA enc L)=kvA enc (addA a x L)
 |[]=>by show [(enc a,abn (0+x))]=_;rw[afi];rfl
 |p::r=>by
  show(if aak _ _=true then(enc p.1,abn ((if p.1=a then p.2 else getA a r)+x))::kvA enc r else _::putP _ (.int ((if p.1=a then p.2 else getA a r)+x)) (kvA enc r))=kvA enc (if p.1=a then _::r else p::addA a x r);rw[f]
  by_cases c:p.1=a
  .rw[if_pos c,if_pos c,if_pos (decide_eq_true c)];rfl
  .rw[if_neg c,if_neg c,if_neg (by rw[decide_eq_false c];decide),yX f a x r];rfl
theorem oW(a:d)(x:Int):∀L:List (d×Int),(addA a x L).length≤L.length+1
 |[]=>Dl _
 | p::r=>by
  unfold addA;split
  .simp
  .have:=oW a x r
   grind
end
noncomputable abbrev Pt:=List Nat×Nat
noncomputable def ptD(p:Pt):dL:=stD p.1 p.2
theorem vP:∀{a b:List Nat},natD a=natD b->a=b
 |[],[],_=>rfl
 |x::a,y::b,h=>by
  simp[natD]at h;rw[show x=y by omega,vP h.2]
 |[],_::_,h=>nomatch h
 |_::_,[],h=>nomatch h
theorem M6(p:Pt):hkD (ptD p)=true:=by
 have c:∀l:List Nat,hkA (natD l)=true:=λl=>by
  induction l with
  |nil=>rfl
  |cons x l i=>show(hkD _&&hkA (natD l))=true;rw[i];rfl
 show(hkD _&&_)=true;rw[show hkD (lnD p.1)=true from c p.1];rfl
theorem fJ(p q:Pt):aak (ptD p) (ptD q)=decide (p=q):=by
 rw[rj _ _ (M6 p) (M6 q)];refine decide_eq_decide.mpr ⟨λh=>?_,λh=>by rw[h]⟩;have c:=by injection h
 simp at c;have d:=by have:=c.1;injection this
 exact Prod.ext (vP d) (by omega)
noncomputable instance decWd:DecidableEq Wd:=λa b=>by cases a<;>cases b<;>first|exact isTrue rfl|exact isFalse (λh=>nomatch h)
theorem Iw(p q:Wd):aak (.str p.s) (.str q.s)=decide (p=q):=by cases p<;>cases q<;>decide
noncomputable def wdD(w:Wd):dL:=.str w.s
noncomputable abbrev Ms:=List (Mv×Int)
noncomputable def msD(M:Ms):List dL:=M.map λp=>.tuple [p.1.d,.int p.2]
noncomputable def goW1(h:Hall)(r:Rule)(p:Pt)(w:Int)(q:Mv×Int)(x:List (Pt×Int)×List (Wd×Int)):List (Pt×Int)×List (Wd×Int):=
 (addA ((fQ h r p.1 p.2 q.1).1,(fQ h r p.1 p.2 q.1).2.1) (w*q.2) x.1,addA (fQ h r p.1 p.2 q.1).2.2 (w*q.2) x.2)
noncomputable def goW(h:Hall)(r:Rule)(M:Ms)(x:List (Pt×Int)×List (Wd×Int))(p:Pt×Int):List (Pt×Int)×List (Wd×Int):=M.foldl (λx q=>goW1 h r p.1 p.2 q x) x
theorem jc{l:List Nat}{t:Nat}(ho:h.Ok)(S:St h r l t):kyD (stD l t)=true:=by
 have g:=M6 (l,t);have lay:∀l:List Nat,abd (natD l)=true:=λl=>by
  have:=jU (l.map λ(x:Nat)=>(x:Int));rwa[aaD]at this
 have f:∀l:List Nat,aav (natD l)≤1:=λl=>by
  have:=l7 (l.map λ(x:Nat)=>(x:Int));rwa[aaD]at this
 unfold kyD;rw[show hkD (stD l t)=true from g];have c:(stD l t).canLay0=true:=by
  show abd [lnD l,.int (t:Int)]=true;simp only[abd,aaZ];exact⟨lay l,rfl,trivial⟩
 rw[c];have d:(stD l t).depth≤7:=by
  show max (aav (natD l)+1) (max (abn (t:Int)).depth 0)+1≤7;have e:(abn (t:Int)).depth=0:=rfl
  grind
 rw[decide_eq_true d];rfl
noncomputable def wtD(W:List (Pt×Int)):dL:=.dict (kvA ptD W)
theorem Gg(ho:h.Ok){W:List (Pt×Int)}(c:∀p∈W,St h r p.1.1 p.1.2):kyA (kvA ptD W)=true:=by
 unfold kyA kvA;rw[ado,abJ];exact λp hp=>jc ho (c p hp)
theorem jH{c:Type}[DecidableEq c]{a:c}{x:Int}:∀{L:List (c×Int)}{p:c×Int},p∈addA a x L->p.1=a\/∃q∈L,q.1=p.1
 |[],p,h=>by rw[OR.mp h];exact .inl rfl
 | q::r,p,h=>by
  unfold addA at h
  split at h
  .rename_i e
   cases h with
   |head=>exact .inl e
   |tail _ h=>exact .inr ⟨p,Ge _ h,rfl⟩
  .cases h with
   |head=>exact .inr ⟨_,GE,rfl⟩
   |tail _ h=>
    rcases jH h with e|⟨f,d,e⟩
    .exact .inl e
    .exact .inr ⟨f,Ge _ d,e⟩
noncomputable abbrev Pr:=dL×Int×Nat
noncomputable def prsD(L:List Pr):List dL:=L.map λp=>.tuple [p.1,.tuple [.int p.2.1,.int (p.2.2:Int)]]
noncomputable def botL(L:List Pr):Nat:=L.foldl (λm p=>m.lcm p.2.2) 1
noncomputable def onB(L:List Pr):List dL:=L.map λp=>.tuple [p.1,.int (p.2.1*(((botL L/p.2.2:Nat)):Int))]
theorem Cz(L:List Pr)(p:Pr):botL (L++[p])=(botL L).lcm p.2.2:=by
 unfold botL;simp
theorem uU{B:Nat}:∀{L:List Pr},(∀p∈L,p.2.2 ∣ B)->botL L ∣ B:=by
 intro L;have key:∀(L:List Pr) m,m ∣ B->(∀p∈L,p.2.2 ∣ B)->L.foldl (λm p=>m.lcm p.2.2) m ∣ B:=by
  intro L
  induction L with
  |nil=>intro m c _;exact c
  |cons p L i=>intro m c h;exact i _ (Nat.lcm_dvd c (h p GE)) λq d=>h q (Ge _ d)
 exact λh=>key L 1 (Nat.one_dvd _) h
theorem Fc(h:∀p∈L,1≤p.2.2):1≤botL L:=by
 have key:∀(L:List Pr) m,1≤m->(∀p∈L,1≤p.2.2)->1≤L.foldl (λm p=>m.lcm p.2.2) m:=by
  intro L
  induction L with
  |nil=>intro m c _;exact c
  |cons p L i=>intro m c h;exact i _ (Nat.lcm_pos c (h p GE)) λq d=>h q (Ge _ d)
 exact key L 1 (Dl _) h
structure BtOk(L:List Pr)(B:Nat):Prop where
 n:L.length≤100
 d:∀p∈L,1≤p.2.2/\p.2.2 ∣ B/\p.2.1.natAbs<10^76
 b0:1≤B
 b:B<10^76
noncomputable def uV:SpM:=λc K=>∃(L:List Pr) (B:Nat),c=[.imm (.list (prsD L))]/\BtOk L B/\K (.imm (.tuple [.list (onB L),.int (botL L:Int)])) []
theorem BtOk.pre{B:Nat}(h:BtOk L B)(i:Nat):1≤botL (L.take i)/\botL (L.take i)<10^76:=by
 have c:∀p∈L.take i,p∈L:=λp hp=>abw hp;refine⟨Fc λp hp=>(h.d p (c p hp)).1,aas (aeP h.b0 (uU λp hp=>(h.d p (c p hp)).2.1)) h.b⟩
theorem Jy(m b:Nat)(hb:1≤b):m.lcm b=m*(b/m.gcd b):=by
 exact Nat.mul_div_assoc _ (ac7 m b)
noncomputable def vh:SpM:=λc K=>∃(t:Int) (b:Nat),c=[.imm (.int t),.imm (.int (b:Int))]/\0<b/\t.natAbs<10^160/\b<10^160/\K (.imm (nf t (b:Int))) []
theorem uR(ha:0<a)(hb:0<b):∃n:Nat,a*b=(n:Int)/\0<n:=by
 have h:=abx ha hb;exact⟨(a*b).toNat,by omega,by omega⟩
theorem fC(hb:0<b):0<(nfP t b).2/\(nfP t b).2≤b/\(nfP t b).1.natAbs≤t.natAbs:=by
 have g:((t.natAbs.gcd b.natAbs):Int) ∣ b:=aco.mpr (ac7 _ _);have c:((t.natAbs.gcd b.natAbs):Int) ∣ t:=aco.mpr (aeG _ _);unfold nfP;rw[if_neg (by omega)];refine⟨Int.ediv_pos_of_pos_of_dvd hb (by simp) g,Int.ediv_le_self _ (by omega),?_⟩;rw[aeu c];exact adq _ _
noncomputable def cQ(h:Hall):Int×Int:=nfP ((h.a:Int)*1) ((h.b:Int)*((ordK h.ss.length h.ss.length).length:Int))
noncomputable def restF(h:Hall):Nat->Int×Int
 |0=>nfP (1*(h.b:Int)-(h.a:Int)*1) (1*(h.b:Int))
 |k+1=>match h.ss[k]? with
  |some s=>nfP ((restF h k).1*(s.b:Int)-(s.a:Int)*(restF h k).2) ((restF h k).2*(s.b:Int))
  |none=>restF h k
theorem AU(ho:h.Ok)(f:0<(ordK h.ss.length h.ss.length).length):FrOk (cQ h).1 (cQ h).2:=by
 have a2:=ho.a2;have b1:=ho.b1;have b2:=ho.b2;have n:=(c6 h.ss.length ho.n4 h.ss.length ho.n4).1;have hb:0<h.b*((ordK h.ss.length h.ss.length).length:Int):=abx (by omega) (by omega);obtain⟨c,d,e⟩:=fC hb;have g:h.b*((ordK h.ss.length h.ss.length).length:Int)≤1000000*24:=agR (by omega) (by omega) (by simp) (by decide);unfold cQ;exact⟨aas e (by omega),by omega,c⟩
theorem fh{h:Hall}(ho:h.Ok):∀k,k≤h.ss.length->0<(restF h k).2/\(restF h k).2≤1000000^(k+1)/\(restF h k).1.natAbs≤(k+1)*1000000^(k+1)
 |0,_=>by
  have a2:=ho.a2;have b1:=ho.b1;have b2:=ho.b2;obtain⟨d,f,c⟩:=fC (t:=1*(h.b:Int)-(h.a:Int)*1) (b:=1*(h.b:Int)) (by omega);unfold restF;exact⟨d,by omega,aaj c (by omega)⟩
 | k+1,hk=>by
  obtain⟨m,i,o⟩:=fh ho k (by exact aa0 ‹_›);have g:h.ss[k]?=some h.ss[k]:=iO (by assumption);have s:=ho.ok h.ss[k] (abj _);have sa:=s.a2;have p:=s.b2;have j:=s.b1;have hb:0<(restF h k).2*(h.ss[k].b:Int):=abx m (by omega);obtain⟨d,f,c⟩:=fC (t:=(restF h k).1*(h.ss[k].b:Int)-(h.ss[k].a:Int)*(restF h k).2) hb;unfold restF;rw[g];refine⟨d,ahB f ?_,aaj c (aaj (ahA _ _) ?_)⟩
  .rw[Int.pow_succ];exact agR i (by omega) (by simp) (by omega)
  .rw[aet,aet,aaS,aaS,adm 1000000 (k+1)];have u:(restF h k).1.natAbs*h.ss[k].b≤(k+1)*1000000^(k+1)*1000000:=acz o (by exact aa0 ‹_›);have l:h.ss[k].a*(restF h k).2.natAbs≤1000000*1000000^(k+1):=acz (by exact aa0 ‹_›) (by
    have e:((1000000^(k+1):Nat):Int)=(1000000:Int)^(k+1):=by rw[Int.natCast_pow];rfl
    omega)
   rw[acq 1000000 (1000000^(k+1))]at l;rw[show(k+1+1)*(1000000^(k+1)*1000000)=(k+1)*1000000^(k+1)*1000000+1000000^(k+1)*1000000 by rw[Nat.add_mul (k+1) 1,Nat.one_mul,ab4]];omega
theorem z9(ho:h.Ok){k:Nat}(f:k≤h.ss.length):FrOk (restF h k).1 (restF h k).2:=by
 obtain⟨i,j,c⟩:=fh ho k f;have n4:=ho.n4;have p:1000000^(k+1)≤1000000^5:=ac6 (by decide) (by omega);have g:1000000^(k+1)=((1000000^(k+1):Nat):Int):=by rw[Int.natCast_pow];rfl
 have e:(k+1)*1000000^(k+1)≤5*1000000^5:=acz (by omega) p;have d:5*1000000^5<10^76:=by decide
 refine⟨aas c (aas e d),?_,i⟩;omega
noncomputable def prF(d:dL)(p:Int×Int):Pr:=(d,p.1,p.2.toNat)
noncomputable def CV(h:Hall)(k:Nat):List Pr:=(h.ss.take k).zipIdx.map λq=>((Mv.done q.2).d,(q.1.a:Int),q.1.b)
noncomputable def shrL(h:Hall):List Pr:=(ordK h.ss.length h.ss.length).map (λo=>prF (Mv.come o).d (cQ h))++CV h h.ss.length++if 0<(restF h h.ss.length).1 then [prF Mv.still.d (restF h h.ss.length)]else []
noncomputable def uH:SpM:=λc K=>∃h:Hall,c=[.imm h.d]/\h.Ok/\K (.new (prsD (shrL h))) []
noncomputable def IX:SpM:=λc K=>∃h:Hall,c=[.imm h.d]/\h.Ok/\K (.new ((ordK h.ss.length h.ss.length).map lnD)) []
theorem gf:∀n≤4,0<(ordK n n).length:=by decide +kernel
noncomputable def h7(h:Hall):List dL:=(ordK h.ss.length h.ss.length).map λo=>.tuple [(Mv.come o).d,nf ((h.a:Int)*1) ((h.b:Int)*((ordK h.ss.length h.ss.length).length:Int))]
noncomputable def jm(h:Hall)(k:Nat):List dL:=(aaH k).map λi=>.tuple [(Mv.done i).d,.tuple [.int ((h.ss.getD i ⟨0,0,0⟩).a:Int),.int ((h.ss.getD i ⟨0,0,0⟩).b:Int)]]
noncomputable def rsD(h:Hall)(k:Nat):dL:=.tuple [.int (restF h k).1,.int (restF h k).2]
theorem xv(h:Hall)(k:Nat):jm h (k+1)=jm h k++[.tuple [(Mv.done k).d,.tuple [.int ((h.ss.getD k ⟨0,0,0⟩).a:Int),.int ((h.ss.getD k ⟨0,0,0⟩).b:Int)]]]:=by
 unfold jm;rw[ae8,aaF];rfl
theorem zn(a b:List Pr):prsD (a++b)=prsD a++prsD b:=by unfold prsD;rw[aaF]
theorem Vg{d:dL}{p:Int×Int}(hp:0<p.2):prsD [prF d p]=[.tuple [d,.tuple [.int p.1,.int p.2]]]:=by
 show [afk [d,.tuple [.int p.1,.int p.2.toNat]]]=_
 grind
theorem Md(ho:h.Ok):prsD ((ordK h.ss.length h.ss.length).map λo=>prF (Mv.come o).d (cQ h))=h7 h:=by
 unfold prsD h7;rw[aaD];rfl
theorem Nr(h:Hall):prsD (CV h h.ss.length)=jm h h.ss.length:=by
 unfold prsD CV jm;rw[ aaD];refine acG λi=>?_;rw[aae,aae,agS]
 by_cases c:i<h.ss.length
 .simp_all
 .simp_all
theorem PC(ho:h.Ok):prsD (shrL h)=h7 h++jm h h.ss.length++if 0<(restF h h.ss.length).1 then [.tuple [Mv.still.d,rsD h h.ss.length]]else []:=by
 unfold shrL;rw[zn,zn,Md ho,Nr]
 congr 1
 split
 .exact Vg (fh ho h.ss.length (Dl _)).1
 .rfl
theorem FI{i:Nat}{s:Srv}(e:h.ss[i]?=some s):rsD h (i+1)=subF (restF h i).1 (restF h i).2 (s.a:Int) (s.b:Int):=by
 unfold rsD;rw[restF,e];rfl
noncomputable def shrM(h:Hall):List (Mv×Int×Nat):=(ordK h.ss.length h.ss.length).map (λo=>(Mv.come o,(cQ h).1,(cQ h).2.toNat))++(h.ss.zipIdx.map λq=>(Mv.done q.2,(q.1.a:Int),q.1.b))++if 0<(restF h h.ss.length).1 then [(Mv.still,(restF h h.ss.length).1,(restF h h.ss.length).2.toNat)]else []
theorem jO(h:Hall):shrL h=(shrM h).map λq=>(q.1.d,q.2):=by
 unfold shrL shrM CV;rw[aaF,aaF,aaD,aaD,aab]
 split<;>rfl
noncomputable def botH(h:Hall):Nat:=botL (shrL h)
noncomputable def msL(h:Hall):Ms:=(shrM h).map λq=>(q.1,q.2.1*((botH h/q.2.2:Nat):Int))
theorem UE(h:Hall):onB (shrL h)=msD (msL h):=by
 unfold onB msD msL botH;rw[jO,aaD,aaD];rfl
theorem Gh:∀n≤4,1≤n->∀o∈ordK n n,o≠[]/\o.length≤4/\∀k∈o,k<n:=by decide +kernel
theorem jA{q:Mv×Int×Nat}(c:q∈shrM h):(∃o∈ordK h.ss.length h.ss.length,q=(Mv.come o,(cQ h).1,(cQ h).2.toNat))\/(∃i,∃d:i<h.ss.length,q=(Mv.done i,(h.ss[i].a:Int),h.ss[i].b))\/q=(Mv.still,(restF h h.ss.length).1,(restF h h.ss.length).2.toNat):=by
 obtain c|c:=aaK.mp c
 .obtain c|c:=aaK.mp c
  .obtain⟨o,ho,rfl⟩:=aac.mp c;exact .inl ⟨o,ho,rfl⟩
  .obtain⟨z,hz,rfl⟩:=aac.mp c;obtain⟨i,d,e⟩:=abv.mp hz;rw[ad9]at d;refine .inr (.inl ⟨i,d,?_⟩);rw[ag5]at e;rw[<-e];simp
 .split at c
  .exact .inr (.inr (OR.mp c))
  .cases c
theorem Bz(ho:h.Ok):∀q∈shrM h,q.1.Ok h:=λq e=>by
 rcases jA e with⟨o,d,rfl⟩|⟨i,c,rfl⟩|rfl
 .obtain⟨h1,h2,h3⟩:=Gh h.ss.length ho.n4 ho.n1 o d;exact⟨h1,h3,h2⟩
 .exact c
 .exact trivial
theorem ol(hb:0<b):(nfP t b).2.toNat ∣ b.toNat:=by
 have d:((t.natAbs.gcd b.natAbs:Nat):Int) ∣ b:=aco.mpr (ac7 _ _);obtain⟨c,f⟩:=d;have i:0<t.natAbs.gcd b.natAbs:=abB _ (by omega);unfold nfP;generalize j:t.natAbs.gcd b.natAbs=g at *;have e:b/g=c:=by rw[f];exact adZ _ (by omega)
 have k:0<c:=by
  rcases Int.lt_trichotomy c 0 with z|z|z
  .have:=Int.mul_neg_of_pos_of_neg (show(0:Int)<(g:Int) by omega) z;omega
  .simp_all
  .exact z
 refine⟨g,?_⟩
 grind
noncomputable def bP:List Srv->Nat
 |[]=>1
 |s::r=>s.b*bP r
theorem ui:∀(l:List Srv) (s:Srv),bP (l++[s])=bP l*s.b
 |[],s=>by show s.b*1=1*s.b;simp
 |x::l,s=>by show x.b*bP (l++[s])=x.b*bP l*s.b;rw[ui l s,ab4]
theorem Jl:∀{l:List Srv}{s:Srv},s∈l->s.b ∣ bP l
 |x::l,s,h=>by
  cases h with
  |head=>exact ahC _ _
  |tail _ h=>exact ab5 (Jl h) (acU _ _)
theorem CJ:∀{l:List Srv},(∀s∈l,s.Ok)->1≤bP l/\bP l≤1000000^l.length
 |[],_=>⟨Dl 1,Dl 1⟩
 |x::l,h=>by
  obtain⟨d,c⟩:=CJ λs hs=>h s (Ge _ hs);have xo:=h x GE;have b1:=xo.b1;have b2:=xo.b2;refine⟨aej b1 d,?_⟩;show x.b*bP l≤1000000^_;rw[ acq];exact acz c (by exact aa0 ‹_›)
theorem uG{h:Hall}(ho:h.Ok):∀k,k≤h.ss.length->(restF h k).2.toNat ∣ h.b*bP (h.ss.take k)
 |0,_=>by
  have b1:=ho.b1;have:=ol (t:=1*(h.b:Int)-(h.a:Int)*1) (b:=1*(h.b:Int)) (by omega);rw[show(1*(h.b:Int)).toNat=h.b by simp]at this;show(nfP _ _).2.toNat ∣ h.b*1;rw[ahT];exact this
 | k+1,hk=>by
  have i:=uG ho k (by omega);have c:=(fh ho k (by omega)).1;have e:h.ss[k]?=some h.ss[k]:=iO (by omega);have g:=ho.ok h.ss[k] (abj _);have s:=g.b1;have hb:0<(restF h k).2*(h.ss[k].b:Int):=abx c (by omega);have d:=ol (t:=(restF h k).1*(h.ss[k].b:Int)-(h.ss[k].a:Int)*(restF h k).2) hb;have f:((restF h k).2*(h.ss[k].b:Int)).toNat=(restF h k).2.toNat*h.ss[k].b:=by
   grind
  rw[f]at d;rw[restF,e,abz,e];show(nfP _ _).2.toNat ∣ h.b*bP (h.ss.take k++[h.ss[k]]);rw[ui,<-ab4];exact ab5 d (Nat.mul_dvd_mul i (ahD _))
theorem jP(ho:h.Ok):BtOk (shrL h) ((ordK h.ss.length h.ss.length).length*(h.b*bP h.ss)):=by
 have n4:=ho.n4;have b1:=ho.b1;have b2:=ho.b2;have a2:=ho.a2;have f:=(c6 h.ss.length ho.n4 h.ss.length ho.n4).1;have c:=gf h.ss.length ho.n4;obtain⟨g,j⟩:=CJ ho.ok;have l:bP h.ss≤1000000^4:=aaj j (ac6 (by decide) n4);refine⟨?_,?_,aej c (aej b1 g),?_⟩
 .rw[jO,gE];unfold shrM;rw[aap,aap,gE,gE,ad9]
  split<;>simp only[aaz,afa]<;>omega
 .intro p hp;rw[jO]at hp;obtain⟨q,m,rfl⟩:=aac.mp hp;rcases jA m with⟨o,u,rfl⟩|⟨i,s,rfl⟩|rfl
  .have e:=AU ho c;have hb:0<(h.b:Int)*((ordK h.ss.length h.ss.length).length:Int):=abx (by omega) (by omega);have d:=ol (t:=(h.a:Int)*1) hb;rw[show((h.b:Int)*((ordK h.ss.length h.ss.length).length:Int)).toNat=h.b*(ordK h.ss.length h.ss.length).length by rw[<-aaA,aa1]]at d;refine⟨by have:=e.hp;show 1≤(cQ h).2.toNat;omega,?_,e.ha⟩;rw[acq h.b,]at d;exact ab5 d (by rw[<-ab4];exact ahC _ _)
  .have so:=ho.ok h.ss[i] (abj _);have sa:=so.a2;refine⟨so.b1,ab5 (Jl (abj s)) (ab5 (acU _ _) (acU _ _)),?_⟩;show((h.ss[i].a:Nat):Int).natAbs<10^76;omega
  .have e:=z9 ho (k:=h.ss.length) (Dl _);have d:=uG ho h.ss.length (Dl _);rw[aab]at d;exact⟨by have:=e.hp;show 1≤(restF h h.ss.length).2.toNat;omega,ab5 d (acU _ _),e.ha⟩
 .have m1:h.b*bP h.ss≤1000000*1000000^4:=acz (by exact aa0 ‹_›) l;have m2:=acz f m1;exact aas m2 (by decide)
theorem Gm(ho:h.Ok):(msL h).length≤29/\∀q∈msL h,q.1.Ok h/\q.2.natAbs<10^160:=by
 have n4:=ho.n4;have i:=(c6 h.ss.length ho.n4 h.ss.length ho.n4).1;have B:=jP ho;have f:botH h<10^76:=by have:=B.pre (shrL h).length;rw[aab]at this;exact this.2
 constructor
 .unfold msL shrM;rw[gE,aap,aap,gE,gE,ad9]
  grind
 .intro q hq;obtain⟨z,c,rfl⟩:=aac.mp hq;have d:=B.d (z.1.d,z.2) (by rw[jO];exact aac.mpr ⟨z,c,rfl⟩);refine⟨Bz ho z c,?_⟩;have g:=d.2.2;have e:(((botH h/z.2.2:Nat):Int)).natAbs<10^76:=by rw[aaS];exact aas (adq _ _) f
  exact ur (fZ g e)
theorem kO(L:List (Wd×Int)):isKd (kvA wdD L)=true:=by
 unfold kvA;rw[ow,ado];exact abJ.mpr λ_ _=>rfl
noncomputable def kZ:SpM:=λc K=>∃(h:Hall) (r:Rule) (W:List (Pt×Int)),c=[.imm h.d,.imm r.d,.imm (wtD W)]/\h.Ok/\r.Ok h/\(∀p∈W,St h r p.1.1 p.1.2/\p.2.natAbs<10^160)/\W.length≤100000/\K (.imm (.tuple [wtD (W.foldl (goW h r (msL h)) ([],[])).1,.dict (kvA wdD (W.foldl (goW h r (msL h)) ([],[])).2),.int (botH h:Int)])) []
structure GoOk(h:Hall)(r:Rule)(n:Nat)(x:List (Pt×Int)×List (Wd×Int)):Prop where
 st:∀p∈x.1,St h r p.1.1 p.1.2
 n1:x.1.length≤n
 n2:x.2.length≤n
theorem GoOk.next{x:List (Pt×Int)×List (Wd×Int)}(ho:h.Ok)(hr:r.Ok h)(X:GoOk h r n x){p:Pt}(hp:St h r p.1 p.2)(w:Int){q:Mv×Int}(g:q.1.Ok h):GoOk h r (n+1) (goW1 h r p w q x):=by
 refine⟨λz f=>?_,aaj (oW _ _ _) (agT X.n1 1),aaj (oW _ _ _) (agT X.n2 1)⟩;rcases jH f with e|⟨d,c,e⟩
 .rw[e];exact o8 ho hr hp g
 .rw[<-e];exact X.st d c
theorem GoOk.all{h:Hall}{r:Rule}(ho:h.Ok)(hr:r.Ok h){p:Pt}(hp:St h r p.1 p.2)(w:Int):∀{M:Ms}{n:Nat}{x:List (Pt×Int)×List (Wd×Int)},(∀q∈M,q.1.Ok h)->GoOk h r n x->GoOk h r (n+M.length) (M.foldl (λx q=>goW1 h r p w q x) x)
 |[],_,_,_,X=>X
 |q::M,n,x,hM,X=>by
  have:=GoOk.all ho hr hp w (M:=M) (λz c=>hM z (Ge _ c)) (X.next ho hr hp w (hM q GE));rw[show n+(q::M).length=n+1+M.length by simp only[aaz];omega];exact this
noncomputable def stW(h:Hall)(r:Rule):Nat->List (Pt×Int)
 |0=>[((zer h,0),1)]
 |k+1=>((stW h r k).foldl (goW h r (msL h)) ([],[])).1
noncomputable def wdW(h:Hall)(r:Rule)(k:Nat):List (Wd×Int):=((stW h r k).foldl (goW h r (msL h)) ([],[])).2
noncomputable def cntW(h:Hall)(r:Rule)(w:Wd):Nat->Int
 |0=>0
 |k+1=>cntW h r w k*(botH h:Int)+getA w (wdW h r k)
structure MnOk(h:Hall)(r:Rule)(n:Nat):Prop where
 l:∀k≤n,(stW h r k).length≤100000
 w:∀k≤n,∀p∈stW h r k,p.2.natAbs<10^90
 b:∀k≤n,botH h^k<10^90
 s:∀w,∀k≤n,(cntW h r w k).natAbs<10^90
theorem qj{h:Hall}{r:Rule}(ho:h.Ok)(hr:r.Ok h):∀k,∀p∈stW h r k,St h r p.1.1 p.1.2
 |0,p,hp=>by rw[OR.mp hp];exact iA ho r
 | k+1,p,hp=>by
  have f:=qj ho hr k;have key:∀(W:List (Pt×Int)) (n:Nat) (x:List (Pt×Int)×List (Wd×Int)),(∀p∈W,St h r p.1.1 p.1.2)->GoOk h r n x->∃e,GoOk h r e (W.foldl (goW h r (msL h)) x):=by
   intro W
   induction W with
   |nil=>intro n x _ X;exact⟨n,X⟩
   |cons q W i=>
    intro n x d X;exact i _ _ (λz c=>d z (Ge _ c)) (GoOk.all ho hr (d q GE) q.2 (λz c=>((Gm ho).2 z c).1) X)
  obtain⟨e,X⟩:=key (stW h r k) 0 ([],[]) f ⟨λ_ hp=>(by cases hp),Dl _,Dl _⟩;exact X.st p hp
theorem ca(hb:0<b):(nfP t b).1*b=t*(nfP t b).2:=by
 have e:((t.natAbs.gcd b.natAbs):Int) ∣ b:=aco.mpr (ac7 _ _);have f:((t.natAbs.gcd b.natAbs):Int) ∣ t:=aco.mpr (aeG _ _);have k:0<t.natAbs.gcd b.natAbs:=abB _ (by omega);unfold nfP;rw[if_neg (by omega)];generalize t.natAbs.gcd b.natAbs=g at *;obtain⟨x,c⟩:=f;obtain⟨y,d⟩:=e;have j:t/g=x:=by rw[c];exact adZ _ (by omega)
 have i:b/g=y:=by rw[d];exact adZ _ (by omega)
 rw[j,i,c,d];simp[abK,abm]
noncomputable def vF(D:Nat)(n:Int)(d:Nat):Int:=n*((D/d:Nat):Int)
theorem o5{D d:Nat}{n:Int}(hd:d ∣ D)(e:n*b=t*(d:Int)):vF D n d*b=t*(D:Int):=by
 have c:D=d*((D/d:Nat):Int):=by rw[<-aaA,Nat.mul_div_cancel' hd]
 calc n*_*b=(n*b)*((D/d:Nat)):=by simp only[abK,abm,aa8]
  _=t*_:=by rw[e,c];simp only[ aa8]
theorem jt{p:Pr}(hp:p∈L):p.2.2 ∣ botL L:=by
 have keep:∀(L:List Pr) (m:Nat),m ∣ L.foldl (λm p=>m.lcm p.2.2) m:=by
  intro L
  induction L with
  |nil=>intro m;exact ahD _
  |cons x L i=>intro m;exact ab5 (Nat.dvd_lcm_left _ _) (i _)
 have key:∀(L:List Pr) m,p∈L->p.2.2 ∣ L.foldl (λm p=>m.lcm p.2.2) m:=by
  intro L
  induction L with
  |nil=>intro m h;cases h
  |cons x L i=>
   intro m h
   cases h with
   |head=>exact ab5 (Nat.dvd_lcm_right _ _) (keep _ _)
   |tail _ h=>exact i _ h
 exact key L 1 hp
noncomputable def tT(h:Hall):Nat->Int
 |0=>(h.b:Int)-(h.a:Int)
 |k+1=>match h.ss[k]? with
  |some s=>tT h k*(s.b:Int)-(s.a:Int)*((h.b*bP (h.ss.take k):Nat):Int)
  |none=>tT h k
theorem BA{k:Nat}(c:k<h.ss.length):bP (h.ss.take (k+1))=bP (h.ss.take k)*h.ss[k].b:=by
 rw[abz,iO c];exact ui _ _
theorem gv{h:Hall}(ho:h.Ok):∀k,k≤h.ss.length->(restF h k).1*((h.b*bP (h.ss.take k):Nat):Int)=tT h k*(restF h k).2
 |0,_=>by
  have b1:=ho.b1;have:=ca (t:=1*(h.b:Int)-(h.a:Int)*1) (b:=1*(h.b:Int)) (by omega);rw[restF,tT];show _*((h.b*1:Nat):Int)=_;rw[ahT];rw[ahU,aec]at this;rw[ahU,aec];exact this
 |k+1,hk=>by
  have g:=gv ho k (by omega);have i:=(fh ho k (by omega)).1;have e:h.ss[k]?=some h.ss[k]:=iO (by omega);have f:=ho.ok h.ss[k] (abj _);have s:=f.b1;have hb:0<(restF h k).2*(h.ss[k].b:Int):=abx i (by omega);have c:=ca (t:=(restF h k).1*(h.ss[k].b:Int)-(h.ss[k].a:Int)*(restF h k).2) hb;rw[restF,tT,e,BA (by omega)];show(nfP _ _).1*_=(tT h k*(h.ss[k].b:Int)-(h.ss[k].a:Int)*_)*(nfP _ _).2;generalize nfP ((restF h k).1*(h.ss[k].b:Int)-(h.ss[k].a:Int)*(restF h k).2) ((restF h k).2*(h.ss[k].b:Int))=z at *;rw[<-ab4,aaA (h.b*bP (h.ss.take k))];generalize ((h.b*bP (h.ss.take k):Nat):Int)=P at *;generalize (h.ss[k].b:Int)=B at *;generalize (h.ss[k].a:Int)=S at *;generalize (restF h k).1=r1 at *;generalize (restF h k).2=d at *;generalize tT h k=T at *;refine Int.eq_of_mul_eq_mul_left (a:=d) (by omega) ?_
  grind
noncomputable def dnS(h:Hall)(D:Nat):Nat->Int
 |0=>0
 |k+1=>match h.ss[k]? with
  |some s=>dnS h D k+vF D (s.a:Int) s.b
  |none=>dnS h D k
theorem ja{h:Hall}(ho:h.Ok){D:Nat}{C:Int}(e:C*(h.b:Int)=(h.a:Int)*(D:Int))(f:∀s∈h.ss,s.b ∣ D):∀k,k≤h.ss.length->((D:Int)-C-dnS h D k)*((h.b*bP (h.ss.take k):Nat):Int)=tT h k*(D:Int)
 |0,_=>by
  rw[dnS,tT];show _*((h.b*1:Nat):Int)=_;rw[ahT,Int.sub_zero,Int.sub_mul,Int.sub_mul,e,abK (D:Int)]
 |k+1,hk=>by
  have i:=ja ho e f k (by exact aa0 ‹_›);have g:h.ss[k]?=some h.ss[k]:=iO (by assumption);have c:=o5 (D:=D) (d:=h.ss[k].b) (t:=(h.ss[k].a:Int)) (f _ (abj _)) rfl;rw[dnS,tT,g,BA (by assumption)]
  grind
theorem PF(h:Hall)(D:Nat):((h.ss.zipIdx.map λq=>((q.1.a:Int)*((D/q.1.b:Nat):Int))).sum)=dnS h D h.ss.length:=by
 have key:∀k,k≤h.ss.length->(((h.ss.take k).map λs=>((s.a:Int)*((D/s.b:Nat):Int))).sum)=dnS h D k:=by
  intro k
  induction k with
  |zero=>intro _;rfl
  |succ k d=>
   intro f;have c:h.ss[k]?=some h.ss[k]:=iO _;rw[dnS,c,abz,c,aaF,acI,d (by omega)];rfl
 have e:=key h.ss.length (Dl _);rw[aab]at e;rw[<-e]
 congr 1
 refine acG λi=>?_;rw[aae,aae,agS]
 cases h.ss[i]?<;>rfl
theorem qk{d:Type}(c:Int):∀l:List d,(l.map λ_=>c).sum=(l.length:Int)*c
 |[]=>by simp
 |x::l=>by rw[aau,acr,qk c l,aaz];grind
theorem uz(ho:h.Ok)(h0:0≤(restF h h.ss.length).1):((msL h).map (·.2)).sum=(botH h:Int):=by
 have b1:=ho.b1;have p:=gf h.ss.length ho.n4;have B:=jP ho;have bp:1≤botH h:=by have:=B.pre (shrL h).length;rw[aab]at this;exact this.1
 have m:∀o∈ordK h.ss.length h.ss.length,prF (Mv.come o).d (cQ h)∈shrL h:=λo d=>by
  unfold shrL;exact aaK.mpr (.inl (aaK.mpr (.inl (aac.mpr ⟨o,d,rfl⟩))))
 have e:(cQ h).2.toNat ∣ botH h:=by
  obtain⟨o,d⟩:=List.exists_mem_of_length_pos p;exact jt (m o d)
 have g:0<(h.b:Int)*((ordK h.ss.length h.ss.length).length:Int):=abx (by omega) (by omega);have x:=AU ho p;have j:vF (botH h) (cQ h).1 (cQ h).2.toNat*((h.b:Int)*((ordK h.ss.length h.ss.length).length:Int))=(h.a:Int)*1*(botH h:Int):=by
  refine o5 e ?_;rw[show(((cQ h).2.toNat:Nat):Int)=(cQ h).2 by have:=x.hp;rfl];exact ca g
 have v:(((ordK h.ss.length h.ss.length).length:Int)*vF (botH h) (cQ h).1 (cQ h).2.toNat)*(h.b:Int)=(h.a:Int)*(botH h:Int):=by
  rw[aec]at j;rw[<-j];simp only[abK,abm,aa8]
 have w:∀s∈h.ss,s.b ∣ botH h:=λs hs=>by
  obtain⟨i,E,rfl⟩:=abv.mp hs;have:((Mv.done i).d,(h.ss[i].a:Int),h.ss[i].b)∈shrL h:=by
   rw[jO];refine aac.mpr ⟨(Mv.done i,(h.ss[i].a:Int),h.ss[i].b),?_,rfl⟩;unfold shrM;refine aaK.mpr (.inl (aaK.mpr (.inr (aac.mpr ⟨(h.ss[i],i),?_,rfl⟩))));exact abv.mpr ⟨i,by rw[ad9];exact E,by rw[ag5,ac5]⟩
  exact jt this
 have l:=ja ho v w h.ss.length (Dl _);have rc:=gv ho h.ss.length (Dl _);obtain⟨A,_⟩:=CJ ho.ok;rw[aab]at l rc;have P:0<((h.b*bP h.ss:Nat):Int):=by have:=aej b1 A;omega
 have u:((msL h).map (·.2)).sum=((ordK h.ss.length h.ss.length).length:Int)*vF (botH h) (cQ h).1 (cQ h).2.toNat+dnS h (botH h) h.ss.length+if 0<(restF h h.ss.length).1 then vF (botH h) (restF h h.ss.length).1 (restF h h.ss.length).2.toNat else 0:=by
  unfold msL shrM;rw[aaD,aaF,aaF,acI,acI,aaD,aaD]
  congr 1
  .congr 1
   .exact qk (vF (botH h) (cQ h).1 (cQ h).2.toNat) (ordK h.ss.length h.ss.length)
   .exact PF h (botH h)
  .split
   .simp[vF]
   .rfl
 rw[u];have F:=(fh ho h.ss.length (Dl _)).1
 by_cases c:0<(restF h h.ss.length).1
 .rw[if_pos c];have f:(restF h h.ss.length).2.toNat ∣ botH h:=by
   have:prF Mv.still.d (restF h h.ss.length)∈shrL h:=by
    unfold shrL;rw[if_pos c];exact aaK.mpr (.inr (OR.mpr rfl))
   exact jt this
  have k:=o5 (D:=botH h) (n:=(restF h h.ss.length).1) (t:=tT h h.ss.length) (b:=((h.b*bP h.ss:Nat):Int)) f (by rw[rc,show(((restF h h.ss.length).2.toNat:Nat):Int)=(restF h h.ss.length).2 by omega]);have:=acZ (a:=((h.b*bP h.ss:Nat):Int)) (by omega) (k.trans l.symm);omega
 .rw[if_neg c];have y:(restF h h.ss.length).1=0:=by omega
  rw[y,agv]at rc;have C:tT h h.ss.length=0:=by
   rcases Int.mul_eq_zero.mp rc.symm with z|z
   .exact z
   .omega
  rw[C,agv]at l;rcases Int.mul_eq_zero.mp l with z|z
  .omega
  .omega
noncomputable def sumA{c:Type}(L:List (c×Int)):Int:=(L.map (·.2)).sum
theorem jz{c:Type}[DecidableEq c](a:c)(x:Int):∀L:List (c×Int),sumA (addA a x L)=sumA L+x
 |[]=>by show x+0=0+x;simp
 |p::r=>by
  have i:=jz a x r;unfold addA;split
  .show p.2+x+sumA r=p.2+sumA r+x;omega
  .show p.2+sumA _=p.2+sumA r+x;omega
theorem ug{c:Type}[DecidableEq c]{a:c}{x:Int}(d:0≤x):∀{L:List (c×Int)},(∀p∈L,0≤p.2)->∀p∈addA a x L,0≤p.2
 |[],_,p,hp=>by rw[OR.mp hp];exact d
 | q::r,h,p,hp=>by
  have f:=h q GE;unfold addA at hp
  split at hp
  .cases hp with
   |head=>show 0≤q.2+x;omega
   |tail _ hp=>exact h p (Ge _ hp)
  .cases hp with
   |head=>exact f
   |tail _ hp=>exact ug d (λz e=>h z (Ge _ e)) p hp
theorem AY{h:Hall}{r:Rule}{p:Pt}{w:Int}:∀{M:Ms}{x:List (Pt×Int)×List (Wd×Int)},sumA (M.foldl (λx q=>goW1 h r p w q x) x).1=sumA x.1+w*(M.map (·.2)).sum/\sumA (M.foldl (λx q=>goW1 h r p w q x) x).2=sumA x.2+w*(M.map (·.2)).sum
 |[],x=>by constructor<;>(show sumA _=sumA _+w*0;rw[afl,adH];rfl)
 |q::M,x=>by
  obtain⟨c,i⟩:=AY (r:=r);rw[acb,c,i];unfold goW1;rw[jz,jz,aau,acr,afO]
  grind
theorem vE{h:Hall}{r:Rule}:∀{W:List (Pt×Int)}{x:List (Pt×Int)×List (Wd×Int)},sumA (W.foldl (goW h r (msL h)) x).1=sumA x.1+sumA W*((msL h).map (·.2)).sum/\sumA (W.foldl (goW h r (msL h)) x).2=sumA x.2+sumA W*((msL h).map (·.2)).sum
 |[],x=>by constructor<;>(show sumA _=sumA _+0*_;rw[agv,adH];rfl)
 |p::W,x=>by
  obtain⟨c,i⟩:=vE (W:=W);obtain⟨j,d⟩:=AY (h:=h) (r:=r) (x:=x);rw[acb,c,i];rw[show goW h r (msL h) x p=(msL h).foldl _ x from rfl,j,d];rw[show sumA (p::W)=p.2+sumA W from rfl,afP];omega
theorem mi{h:Hall}(ho:h.Ok)(h0:0≤(restF h h.ss.length).1)(r:Rule):∀k,sumA (stW h r k)=((botH h^k:Nat):Int)
 |0=>rfl
 |k+1=>by
  rw[stW,vE.1,uz ho h0,mi ho h0 r k,adm,aaA];show 0+_=_;omega
theorem Uf(ho:h.Ok)(h0:0≤(restF h h.ss.length).1)(r:Rule)(k:Nat):sumA (wdW h r k)=((botH h^(k+1):Nat):Int):=by
 rw[wdW,vE.2,uz ho h0,mi ho h0 r k,adm,aaA];show 0+_=_;omega
theorem Wn(ho:h.Ok)(h0:0≤(restF h h.ss.length).1):∀q∈msL h,0≤q.2:=λq d=>by
 obtain⟨z,c,rfl⟩:=aac.mp d;refine adD ?_ (afA _);rcases jA c with⟨o,f,rfl⟩|⟨i,e,rfl⟩|rfl
 .show 0≤(cQ h).1;unfold cQ nfP
  grind
 .simp
 .omega
theorem UC{h:Hall}{r:Rule}{M:Ms}(d:∀q∈M,0≤q.2){p:Pt}{w:Int}(c:0≤w):∀{N:Ms}{x:List (Pt×Int)×List (Wd×Int)},(∀q∈N,q∈M)->(∀z∈x.1,0≤z.2)/\(∀z∈x.2,0≤z.2)->(∀z∈(N.foldl (λx q=>goW1 h r p w q x) x).1,0≤z.2)/\∀z∈(N.foldl (λx q=>goW1 h r p w q x) x).2,0≤z.2
 |[],x,_,hx=>hx
 |q::N,x,hN,hx=>UC d c (N:=N) (λz e=>hN z (Ge _ e)) ⟨ug (adD c (d q (hN q GE))) hx.1,ug (adD c (d q (hN q GE))) hx.2⟩
theorem u6{h:Hall}(ho:h.Ok)(h0:0≤(restF h h.ss.length).1)(r:Rule):∀{W:List (Pt×Int)}{x:List (Pt×Int)×List (Wd×Int)},(∀z∈W,0≤z.2)->(∀z∈x.1,0≤z.2)/\(∀z∈x.2,0≤z.2)->(∀z∈(W.foldl (goW h r (msL h)) x).1,0≤z.2)/\∀z∈(W.foldl (goW h r (msL h)) x).2,0≤z.2
 |[],x,_,hx=>hx
 |p::W,x,hW,hx=>u6 ho h0 r (W:=W) (λz c=>hW z (Ge _ c)) (UC (Wn ho h0) (hW p GE) (λ_ h=>h) hx)
theorem qE{h:Hall}(ho:h.Ok)(h0:0≤(restF h h.ss.length).1)(r:Rule):∀k,∀p∈stW h r k,0≤p.2
 |0,p,hp=>by rw[OR.mp hp];exact Int.one_nonneg
 |k+1,p,hp=>(u6 ho h0 r (qE ho h0 r k) ⟨λ_ z=>(by cases z),λ_ z=>(by cases z)⟩).1 p hp
theorem fM{c:Type}:∀{L:List (c×Int)},(∀p∈L,0≤p.2)->0≤sumA L/\∀p∈L,p.2≤sumA L
 |[],_=>⟨afQ _,λ_ h=>(by cases h)⟩
 |q::L,h=>by
  obtain⟨i,d⟩:=fM λp hp=>h p (Ge _ hp);have f:=h q GE;have e:sumA (q::L)=q.2+sumA L:=rfl
  grind
theorem um{c:Type}[DecidableEq c](a:c):∀{L:List (c×Int)},(∀p∈L,0≤p.2)->0≤getA a L/\getA a L≤sumA L
 |[],_=>⟨afQ 0,afQ 0⟩
 |q::L,h=>by
  have i:=um a (L:=L) λp hp=>h p (Ge _ hp);have s:=(fM (L:=L) λp hp=>h p (Ge _ hp)).1;have d:=h q GE;have e:sumA (q::L)=q.2+sumA L:=rfl;rw[e];unfold getA
  split<;>omega
theorem Js{h:Hall}(ho:h.Ok)(h0:0≤(restF h h.ss.length).1)(r:Rule)(w:Wd):∀k,0≤cntW h r w k/\cntW h r w k≤(k:Int)*((botH h^k:Nat):Int)
 |0=>⟨afQ 0,by show(0:Int)≤0*_;rw[agv];exact afQ 0⟩
 |k+1=>by
  obtain⟨i,c⟩:=Js ho h0 r w k;have d:=(u6 ho h0 r (qE ho h0 r k) (x:=([],[])) ⟨λ_ z=>(by cases z),λ_ z=>(by cases z)⟩).2;obtain⟨f,g⟩:=um w (L:=wdW h r k) d;rw[Uf ho h0 r k]at g;rw[cntW];have b0:(0:Int)≤(botH h:Int):=afA _;have m:=adD i b0;have m1:=Int.mul_le_mul_of_nonneg_right c b0;refine⟨by omega,?_⟩;have e:(k:Int)*((botH h^k:Nat):Int)*(botH h:Int)=(k:Int)*((botH h^(k+1):Nat):Int):=by rw[adm,aaA,aa8]
  rw[e]at m1;rw[ac3,afP];show _≤_+1*_;rw[ahU];omega
theorem jM{c:Type}[DecidableEq c]{a:c}{x:Int}:∀{L:List (c×Int)},(L.map (·.1)).Nodup->((addA a x L).map (·.1)).Nodup
 |[],_=>by simp[addA]
 | q::r,h=>by
  rw[aau,aaQ]at h;unfold addA;split
  .exact aaQ.mpr ⟨h.1,h.2⟩
  .rename_i ne;refine aaQ.mpr ⟨λf=>?_,jM h.2⟩;obtain⟨z,g,e⟩:=aac.mp f;rcases jH g with d|⟨y,i,d⟩
   .exact ne (e.symm.trans d)
   .exact h.1 (aac.mpr ⟨y,i,d.trans e⟩)
theorem uj{h:Hall}{r:Rule}:∀{W:List (Pt×Int)}{x:List (Pt×Int)×List (Wd×Int)},(x.1.map (·.1)).Nodup->((W.foldl (goW h r (msL h)) x).1.map (·.1)).Nodup
 |[],x,c=>c
 | p::W,x,c=>by
  have key:∀(M:Ms) x,(x.1.map (·.1)).Nodup->((M.foldl (λx q=>goW1 h r p.1 p.2 q x) x).1.map (·.1)).Nodup:=by
   intro M
   induction M with
   |nil=>intro x c;exact c
   |cons q M i=>intro x c;exact i _ (jM c)
  exact uj (W:=W) (key _ x c)
theorem iP:∀k,((stW h r k).map (·.1)).Nodup
 |0=>by simp[stW]
 |k+1=>uj (by simp)
theorem fG{e:Type}[DecidableEq e]:∀{l m:List e},l.Nodup->(∀x∈l,x∈m)->l.length≤m.length
 |[],_,_,_=>abC _
 | a::l,m,h,hs=>by
  rw[aaQ]at h;have ha:=hs a GE;have i:=fG (l:=l) (m:=m.erase a) h.2 λx d=>by
   have c:x≠a:=λz=>h.1 (z▸d);exact(agU c).mpr (hs x (Ge _ d))
  have:=List.length_erase_of_mem ha;have:=List.length_pos_of_mem ha;rw[aaz];omega
theorem jE:∀{rs l:List Nat},M7.Fits rs l->l∈M3.allR rs
 |[],[],_=>OR.mpr rfl
 |r::rs,x::l,h=>by
  have c:x≤r:=h.1;exact abi.mpr ⟨x,ady.mpr (by omega),aac.mpr ⟨l,jE h.2,rfl⟩⟩
 |[],_::_,h=>h.elim
 |_::_,[],h=>h.elim
theorem Tu(ho:h.Ok)(hr:r.Ok h)(k:Nat):(stW h r k).length≤100000:=by
 have sm:=gc (rs:=h.rs) (by rw[h.rsl];exact ho.n4) ho.r6;have sub:∀p∈(stW h r k).map (·.1),p∈(M3.allR h.rs).flatMap λl=>[(l,0),(l,1),(l,2),(l,3)]:=λp hp=>by
  obtain⟨z,c,rfl⟩:=aac.mp hp;have S:=qj ho hr k z c;refine abi.mpr ⟨z.1.1,jE S.ln.fits,?_⟩;have ts:=S.ts;obtain⟨⟨l,t⟩,w⟩:=z;dsimp only at ts⊢;have:t=0\/t=1\/t=2\/t=3:=by omega
  rcases this with e|e|e|e<;>rw[e]<;>simp
 have le:=fG (iP k) sub;rw[gE,List.length_flatMap]at le;have e:∀L:List (List Nat),((L.map λl=>[(l,0),(l,1),(l,2),(l,(3:Nat))].length)).sum=4*L.length:=by
  intro L
  induction L with
  |nil=>rfl
  |cons x L i=>
   show 4+((L.map λl=>[(l,0),(l,1),(l,2),(l,(3:Nat))].length)).sum=4*(L.length+1);rw[i];omega
 rw[e]at le;omega
theorem Wy(ho:h.Ok)(hr:r.Ok h)(h0:0≤(restF h h.ss.length).1)(j:n≤100)(hb:botH h^n<10^76):MnOk h r n:=by
 have bp:1≤botH h:=by have:=(jP ho).pre (shrL h).length;rw[aab]at this;exact this.1
 have d:∀k≤n,botH h^k<10^76:=λk c=>aas (ac6 bp c) hb;have u:∀{z:Nat},z<10^76->z<10^90:=λf=>aax f (by decide);refine⟨λk _=>Tu ho hr k,λk c p hp=>?_,λk c=>u (d k c),λw k c=>?_⟩
 .have nn:=qE ho h0 r k;have l:=(fM nn).2 p hp;have i:=nn p hp;rw[mi ho h0 r k]at l;have:=d k c;refine u ?_;omega
 .obtain⟨c1,c2⟩:=Js ho h0 r w k;have g:=d k c;have m1:(k:Int)*((botH h^k:Nat):Int)≤100*((10^76:Nat):Int):=agR (by omega) (by omega) (afA _) (by omega);have m2:((100*10^76:Nat):Int)=100*((10^76:Nat):Int):=by rw[aaA];rfl
  have e:100*10^76<10^90:=by decide
  refine aas (m:=100*10^76) ?_ e;omega
theorem nA(hb:0<b):aeY (nfP t b).1.natAbs (nfP t b).2.natAbs:=by
 have g:0<t.natAbs.gcd b.natAbs:=abB _ (by omega);have c:((t.natAbs.gcd b.natAbs):Int) ∣ b:=aco.mpr (ac7 _ _);have d:((t.natAbs.gcd b.natAbs):Int) ∣ t:=aco.mpr (aeG _ _);unfold nfP;rw[if_neg (by omega)];rw[aeu d,aeu c];exact Nat.coprime_div_gcd_div_gcd g
theorem sF{p q:Int}(c:aeY p.natAbs q.natAbs)(e:p*b=a*q):q.natAbs ∣ b.natAbs:=by
 have d:p.natAbs*b.natAbs=a.natAbs*q.natAbs:=by rw[<-aet,<-aet,e]
 have:q.natAbs ∣ b.natAbs*p.natAbs:=by rw[acq,d];exact acU _ _
 exact aeY.dvd_of_dvd_mul_right c.symm this
theorem Qq{p q f d:Int}(l:0<q)(k:0<d)(c:aeY p.natAbs q.natAbs)(j:aeY f.natAbs d.natAbs)(e:p*d=f*q):(p,q)=(f,d):=by
 have i:=sF c e;have g:=sF j e.symm;have eq:q=d:=by
  have:=Nat.dvd_antisymm i g;omega
 subst eq;rw[acZ (by omega) e]
theorem oq{t' c:Int}(hb:0<b)(d:0<c)(e:t*c=t'*b):nfP t b=nfP t' c:=by
 refine Qq (fC hb).1 (fC d).1 (nA hb) (nA d) ?_;have i:=ca (t:=t) hb;have g:=ca (t:=t') d;have f:=AH hb d;refine acZ f ?_
 calc (nfP t b).1*(nfP t' c).2*_=((nfP t b).1*b)*((nfP t' c).2*c):=by simp only[ abm,aa8]
  _=t*c*((nfP t b).2*(nfP t' c).2):=by rw[i];simp only[abK,abm,aa8]
  _=(t'*(nfP t' c).2)*((nfP t b).2*b):=by rw[e];simp[abK,abm,aa8]
  _=(nfP t' c).1*(nfP t b).2*_:=by rw[<-g];simp[abK,abm,aa8]
theorem u5{v w:Int}(c:0<D):nfP ((nfP v D).1*(nfP w D).2+(nfP w D).1*(nfP v D).2) ((nfP v D).2*(nfP w D).2)=nfP (v+w) D:=by
 have d:=ca (t:=v) c;have e:=ca (t:=w) c;refine oq (abx (fC c).1 (fC c).1) c ?_;rw[afP,afP]
 congr 1
 .calc (nfP v D).1*(nfP w D).2*D=((nfP v D).1*D)*(nfP w D).2:=by simp only[abK,abm,aa8]
   _=v*((nfP v D).2*(nfP w D).2):=by rw[d,aa8]
 .calc (nfP w D).1*(nfP v D).2*D=((nfP w D).1*D)*(nfP v D).2:=by simp only[abK,abm,aa8]
   _=w*((nfP v D).2*(nfP w D).2):=by rw[e];simp only[abK,abm,aa8]
theorem vq(c:0<D):nfP 0 D=(0,1):=by
 unfold nfP;rw[if_neg (by omega),show((0:Int).natAbs)=0 from rfl,Nat.gcd_zero_left,Int.zero_ediv,show((D.natAbs:Nat):Int)=D by omega,Int.ediv_self (by omega)]
theorem l5{v:Int}(c:0<D)(f:v.natAbs<10^76)(g:D.natAbs<10^76):FrOk (nfP v D).1 (nfP v D).2:=by
 obtain⟨d,i,e⟩:=fC (t:=v) c;exact⟨aas e f,by omega,d⟩
theorem na(v D:Int):nf v D=frT (nfP v D).1 (nfP v D).2:=rfl
section
variable {d:Type} [g:DecidableEq d]
noncomputable def kvG(enc:d->dL)(f:Int->dL)(L:List (d×Int)):List (dL×dL):=L.map λp=>(enc p.1,f p.2)
theorem y3{enc:d->dL}{f:Int->dL}(e:∀a b,aak (enc a) (enc b)=decide (a=b))(a:d):∀L:List (d×Int),(bZ (enc a) (kvG enc f L)).getD (f 0)=f (getA a L)
 |[]=>rfl
 |p::r=>by
  show(if aak (enc p.1) (enc a)=true then some (f p.2)else bZ (enc a) (kvG enc f r)).getD (f 0)=f (if p.1=a then p.2 else getA a r);rw[e]
  by_cases c:p.1=a
  .rw[if_pos c,if_pos (decide_eq_true c)];rfl
  .rw[if_neg c,if_neg (by rw[decide_eq_false c];decide)];exact y3 e a r
theorem II{enc:d->dL}{f:Int->dL}(e:∀a b,aak (enc a) (enc b)=decide (a=b))(a:d)(x:Int):∀L:List (d×Int),putP (enc a) (f (getA a L+x)) (kvG enc f L)=kvG enc f (addA a x L)
 |[]=>by show [(enc a,f (0+x))]=_;rw[afi];rfl
 |p::r=>by
  show(if aak (enc p.1) (enc a)=true then(enc p.1,f ((if p.1=a then p.2 else getA a r)+x))::kvG enc f r else(enc p.1,f p.2)::putP (enc a) (f ((if p.1=a then p.2 else getA a r)+x)) (kvG enc f r))=kvG enc f (if p.1=a then(p.1,p.2+x)::r else p::addA a x r);rw[e]
  by_cases c:p.1=a
  .rw[if_pos c,if_pos c,if_pos (decide_eq_true c)];rfl
  .rw[if_neg c,if_neg c,if_neg (by rw[decide_eq_false c];decide),II e a x r];rfl
theorem vn{enc:d->dL}{f:Int->dL}(c:∀a b,aak (enc a) (enc b)=decide (a=b)):∀{L:List (d×Int)}{i:Nat}{p:d×Int},(L.map (·.1)).Nodup->L[i]?=some p->bZ (enc p.1) (kvG enc f L)=some (f p.2)
 |[],i,p,_,e=>by cases e
 | q::r,i,p,nd,e=>by
  rw[aau,aaQ]at nd;show(if aak (enc q.1) (enc p.1)=true then some (f q.2)else bZ (enc p.1) (kvG enc f r))=some (f p.2);rw[c]
  cases i with
  |zero=>
   have:q=p:=aal e;rw[this,if_pos (decide_eq_true rfl)]
  |succ i=>
   have j:r[i]?=some p:=e;have:¬q.1=p.1:=λz=>nd.1 (z▸aac.mpr ⟨p,DL j,rfl⟩);rw[if_neg (by rw[decide_eq_false this];decide)];exact vn c nd.2 j
end
noncomputable def frV(D:Int)(v:Int):dL:=nf v D
noncomputable def shD(D:Int)(W:List (Pt×Int)):List (dL×dL):=kvG ptD (frV D) W
structure OfS(h:Hall)(S:Nat):Prop where
 s1:1≤S
 s2:S≤9700
 hb:h.b ∣ S
 hs:∀s∈h.ss,s.b ∣ S
 le:(h.a:Int)*((S/h.b:Nat):Int)+dnS h S h.ss.length≤(S:Int)
theorem OfS.lf(ho:h.Ok)(O:OfS h S):((S:Int)-(h.a:Int)*((S/h.b:Nat):Int)-dnS h S h.ss.length)*((h.b*bP h.ss:Nat):Int)=tT h h.ss.length*(S:Int):=by
 have c:(h.a*((S/h.b:Nat):Int))*h.b=h.a*S:=by
  rw[aa8,<-aaA,aea O.hb]
 have:=ja ho c O.hs h.ss.length (Dl _);rwa[aab]at this
theorem OfS.bp(ho:h.Ok)(O:OfS h S):0<((h.b*bP h.ss:Nat):Int):=by
 have b1:=ho.b1;have:=aej (show 0<h.b by assumption) ((CJ ho.ok).1);omega
theorem OfS.rest(ho:h.Ok)(O:OfS h S):0≤(restF h h.ss.length).1:=by
 have d:=O.lf ho;have e:=gv ho h.ss.length (Dl _);rw[aab]at e;have p:=O.bp ho;have s1:=O.s1;have le:=O.le;have f:=(fh ho h.ss.length (Dl _)).1;have c:=by
  have q:0≤tT h h.ss.length*S:=by rw[<-d];exact adD (by omega) (by omega)
  exact aeZ q (by omega)
 have q:0≤(restF h h.ss.length).1*((h.b*bP h.ss:Nat)):=by rw[e];exact adD c (by omega)
 exact aeZ q p
theorem yb(ho:h.Ok):∀k,k≤h.ss.length->aeY (restF h k).1.natAbs (restF h k).2.natAbs
 |0,_=>by
  have b1:=ho.b1;exact nA (by omega)
 |k+1,hk=>by
  have i:=(fh ho k (by exact aa0 ‹_›)).1;have e:h.ss[k]?=some h.ss[k]:=iO _;have s:=(ho.ok h.ss[k] (abj _)).b1;rw[restF,e];exact nA (abx i (by omega))
theorem OfS.restd(ho:h.Ok)(O:OfS h S):(restF h h.ss.length).2.toNat ∣ S:=by
 have f:=O.lf ho;have d:=gv ho h.ss.length (Dl _);rw[aab]at d;have p:=O.bp ho;have g:=(fh ho h.ss.length (Dl _)).1;have c:=yb ho h.ss.length (Dl _);generalize i:S-_*_-dnS h S h.ss.length=X at f;have e:(restF h h.ss.length).1*S=X*(restF h h.ss.length).2:=by
  refine acZ (a:=((h.b*bP h.ss:Nat))) (by omega) ?_
  grind
 have:=sF c e;rwa[show(restF h h.ss.length).2.toNat=(restF h h.ss.length).2.natAbs by omega]
theorem OfS.bot(ho:h.Ok)(O:OfS h S):botH h ∣ (ordK h.ss.length h.ss.length).length*S:=by
 have b1:=ho.b1;have f:=gf h.ss.length ho.n4;refine uU λp hp=>?_;rw[jO]at hp;obtain⟨q,e,rfl⟩:=aac.mp hp;rcases jA e with⟨o,g,rfl⟩|⟨i,c,rfl⟩|rfl
 .have d:=ol (t:=h.a*1) (b:=h.b*((ordK h.ss.length h.ss.length).length)) (abx (by omega) (by omega));rw[show((h.b:Int)*_).toNat=h.b*(ordK h.ss.length h.ss.length).length by rw[<-aaA,aa1]]at d;refine ab5 d ?_;rw[acq];exact Nat.mul_dvd_mul (ahD _) O.hb
 .exact ab5 (O.hs _ (abj c)) (acU _ _)
 .exact ab5 (O.restd ho) (acU _ _)
theorem iM(ho:h.Ok):1≤botH h:=by have:=(jP ho).pre (shrL h).length;rw[aab]at this;exact this.1
theorem OfS.small(ho:h.Ok)(O:OfS h S):botH h≤232800:=by
 have p:=gf h.ss.length ho.n4;have c:=(c6 h.ss.length ho.n4 h.ss.length ho.n4).1;have:=aeP (aej p O.s1) (O.bot ho);have m:=acz c O.s2;exact aaj ‹_› ‹_›
theorem OfS.pow(ho:h.Ok)(O:OfS h S)(c:n≤12):botH h^n<10^66:=by
 have e:=Nat.pow_le_pow_left (O.small ho) n;have d:232800^n≤232800^12:=ac6 (by decide) c;omega
noncomputable def srvS(S q r:Nat):Srv:=S9 (cutN S q) r
noncomputable def xH(S p0:Nat)(c rs:List Nat)(mv:Bool):Hall:=⟨(cutN S p0).1,(cutN S p0).2,adI (srvS S) c rs,mv⟩
theorem d9(c:1≤S):(cutN S q).2 ∣ S/\(cutN S q).1*(S/(cutN S q).2)=q:=by
 unfold cutN;have g:q.gcd S ∣ S:=ac7 _ _;refine⟨Nat.div_dvd_of_dvd g,?_⟩;rw[Nat.div_div_self g (by exact aaX ‹_›)];exact aea (aeG _ _)
theorem uA{S p0:Nat}{c rs:List Nat}{mv:Bool}(d:1≤S)(j:c.length=rs.length):∀k,k≤c.length->dnS (xH S p0 c rs mv) S k=((c.take k).sum:Int)
 |0,_=>rfl
 |k+1,hk=>by
  have i:=uA (p0:=p0) (mv:=mv) d j k (by exact aa0 ‹_›);have e:c[k]?=some c[k]:=iO _;have f:rs[k]?=some rs[k]:=iO _;have g:(xH S p0 c rs mv).ss[k]?=some _:=acA.mpr ⟨_,_,e,f,rfl⟩;rw[dnS,g,i,abl,e,acI];show _+((cutN S c[k]).1:Int)*((S/(cutN S c[k]).2:Nat):Int)=_;rw[<-aaA,(d9 d).2];rfl
theorem GA{p0:Nat}{c rs:List Nat}{mv:Bool}(s1:1≤S)(s2:S≤9700)(d:c.length=rs.length)(hs:p0+c.sum≤S):OfS (xH S p0 c rs mv) S:=by
 have e:(xH S p0 c rs mv).ss.length=c.length:=by show(adI _ c rs).length=_;grind
 refine⟨s1,s2,(d9 s1).1,λs hs=>?_,?_⟩
 .obtain⟨i,hi⟩:=acB hs;obtain⟨q,r,_,_,rfl⟩:=acA.mp hi;exact(d9 s1).1
 .rw[e,uA s1 d _ (Dl _),aab];show((cutN S p0).1:Int)*((S/(cutN S p0).2:Nat))+_≤_;rw[<-aaA,(d9 s1).2];omega
theorem R9(c:1≤S):nf (q:Int) (S:Int)=prD (cutN S q):=rfl
theorem QK{p:Nat}(e:1≤S):((cutN S p).1*(cutN S q).2<(cutN S q).1*(cutN S p).2)↔p<q:=by
 have d:=d9 (q:=p) e;have c:=d9 (q:=q) e;have g:0<(cutN S p).2:=agF d.1 (by omega);have f:0<(cutN S q).2:=agF c.1 (by omega);have j:=by
  have z:=congrArg (· * (cutN S p).2) d.2;rwa[ab4,aea d.1]at z
 have i:=by
  have z:=congrArg (· * (cutN S q).2) c.2;rwa[ab4,aea c.1]at z
 have key:∀a b:Nat,a<b↔a*S<b*S:=λa b=>(agW (by omega)).symm;rw[key];rw[show(cutN S p).1*(cutN S q).2*S=p*_ by rw[ahn,j,ab4],show(cutN S q).1*(cutN S p).2*S=q*_ by rw[ahn,i,ab4,acq (cutN S q).2]];exact agW (aej g f)
theorem mr:∀{l:List Nat}{n q:Nat},n=l.length->(∀x∈l,q≤x)->(aam n q).sum≤l.sum
 |[],n,q,h,_=>by subst h;exact Dl _
 |x::l,n,q,h,hm=>by
  have i:=mr rfl λy c=>hm y (Ge _ c);have:=hm x GE
  grind
noncomputable def uZ:SpM:=λd K=>∃(fd:List dL) (c n:Nat),d=[.own fd,.imm (.int (n:Int))]/\TapeD c fd/\c<900000000/\n≤4/\∀(ps:List Nat) (S:Nat) (f:List dL),ps.length=n+1->(∀p∈ps,1≤p/\p≤1600)->1≤S->S≤9700->ps.sum≤S->TapeD (c+10) f->K (.new ((ps.map (cutN S)).map prD)) [f]
end K
namespace L2
open PySem PySem.Spec PyProof.Rows
section
variable {X:Cx}
theorem QM{m:MSt}{r:R}{n:Bool}{k:dL}{kvs:List (dL×dL)}{K:R->Prop}(a:dcM m kvs r)(e:oneK kvs k=true)(h:K (.imm (.bool (if n=true then !(bZ k kvs).isSome else(bZ k kvs).isSome)))):oInD n (.imm k) r m K:=⟨kvs,a,e,h⟩
theorem bG{ds:List dL}{g:WG}{w:WS}{D:cV}{m1:MSt}(P:Nat->MSt->Prop)(p0:P 0 m1)
  (step:∀(i:Nat) (d:dL) (m:MSt),ds[i]?=some d->m.np=m1.np->P i m->∀b:cV,(∀a,P (i+1) a->b.nx a)->(∀r a,D.rt r (a.setN m1.np)->b.rt r a)->g d m λm2=>w b m2)
  (f:∀m,m.np=m1.np->P ds.length m->D.nx m):ie ⟨ds,none⟩ g w D m1:=gV P p0 (λi d m e n p=>step i d m e n p _ (λ_ z=>z) λ_ _ z=>z) f
theorem aw{e:Expr}{w:WE}{pos p:Pos}{x:Str}(i:Nat)(d:X.N.Nodup)(c:EE X e w)(a:X.N[i]?=some x:=by rfl)(b:Loc X.env.scope x:=by exact agL rfl)(hs:abH e (some (.Name x p)) pos.line X.env=pure false:=by rfl)(h:X.fn x=true\/X.env.scope.names.lookup x=some .local:=by first|exact .inl rfl|exact .inr rfl|assumption):ES X (.Assign [.Name x p] e pos) (wSet i w):=cn d a b c hs h
theorem al{pos:Pos}{x:Str}(i:Nat)(c:X.N.Nodup)(b:X.N[i]?=some x:=by rfl)(h:Loc X.env.scope x:=by exact agL rfl)(a:X.fn x=true\/X.env.scope.names.lookup x=some .local:=by first|exact .inl rfl|exact .inr rfl|assumption):EG X (.Name x pos) (gM i):=vI c b h a
end
end L2
namespace K
open PySem L2 M7
noncomputable def Bi:SpM:=λa K=>∃(fd:List dL) (c:Nat) (h:Hall),a=[.own fd,.imm h.d]/\h.Ok/\TapeD c fd/\c<800000000/\∀(r:Rule) (f:List dL),r.Ok h->TapeD (c+2410) f->K (.imm r.d) [f]
structure DuOk(h:Hall)(r:Rule)(n:Nat):Prop where
 ho:h.Ok
 hr:r.Ok h
 h0:0≤(restF h h.ss.length).1
 le:n≤12
 b:botH h^n<10^66
theorem DuOk.p0{h:Hall}{r:Rule}{n:Nat}(D:DuOk h r n)(k:Nat):0<((botH h^k:Nat):Int):=by
 have:=Nat.pow_pos (n:=k) (show 0<botH h from iM D.ho);omega
theorem Jr{h:Hall}{r:Rule}(ho:h.Ok){D:Int}{W:List (Pt×Int)}(a:∀p∈W,St h r p.1.1 p.1.2):kyA (shD D W)=true:=by
 unfold kyA shD kvG;rw[ado,abJ];exact λp hp=>jc ho (a p hp)
theorem lb{i:Int}(h:i.natAbs<10^100):Fine 101 0 (.int i):=by
 have s:=by
  have e:=PySem.int_text_length_le10 (by decide) h;show(abZ (toString i)).length≤101;rw[PySem.ofString_length];exact e
 refine⟨?_,rfl,s,Dl _⟩;have:i.natAbs.log2<400\/i.natAbs=0:=by
  by_cases z:i.natAbs=0
  .exact .inr z
  .exact .inl ((agM z).mpr (aax h (by decide)))
 show decide _=true;rcases this with h|h
 .grind
 .rw[h];decide
theorem JO{t b:Int}(h:0<b)(a:t.natAbs<10^76)(hb:b.natAbs<10^76):Fine 300 1 (nf t b):=by
 have F:=l5 h a hb;refine(c5 (n:=101) (k:=0) (c:=2) (ds:=[.int (nfP t b).1,.int (nfP t b).2]) (λd hd=>?_) (Dl 2)).mono (by decide) (by decide);rcases aai.mp hd with e|e
 .rw[e];exact lb (aax F.ha (by decide))
 .rw[OR.mp e];exact lb (aax F.hb (by decide))
end K
namespace L2
open PySem PySem.W PyProof.Rows
variable{i j n:Nat}{p:Array Nat}
structure TotF(n:Nat)(f:Nat->Nat->Bool):Prop where
 tr:∀a b c,a<n->b<n->c<n->f a b=true->f b c=true->f a c=true
 tot:∀a b,a<n->b<n->a≠b->f a b=true\/f b a=true
theorem d8{b β:Type}{n:Nat}{f:Nat->Nat->Bool}(g:b->KasT β):∀t:KasT b,runC n f (t.bind g)=(runC n f t).bind λa=>runC n f (g a)
 | .ret a=>rfl
 | .ask i j k=>by
  show(if i<n/\j<n then runC n f _ else none)=(if i<n/\j<n then runC n f _ else none).bind _
  by_cases h:i<n/\j<n
  .rw[if_pos h,if_pos h];exact d8 g _
  .rw[if_neg h,if_neg h];rfl
theorem ia{a:Type}{f:Nat->Nat->Bool}{k:Bool->KasT a}(b:i<n)(h:j<n):runC n f (.ask i j k)=runC n f (k (f i j)):=if_pos ⟨b,h⟩
structure PermA(n:Nat)(p:Array Nat):Prop where
 sz:p.size=n
 pm:p.toList.Perm (aaH n)
noncomputable abbrev pA(p:Array Nat)(k:Nat):Nat:=p.getD k 0
theorem c8{k:Nat}(h:k<p.size):p[k]?=some (pA p k):=by simp_all
theorem PermA.lt(h:PermA n p){k:Nat}(a:k<n):pA p k<n:=by
 have e:=c8 (by rw[h.sz];exact a);have:pA p k∈p.toList:=by
  rw[Array.mem_toList_iff];exact Array.mem_of_getElem? e
 exact ady.mp (h.pm.mem_iff.mp this)
theorem PermA.inj(h:PermA n p)(c:i<n)(f:j<n)(e:pA p i=pA p j):i=j:=by
 have nd:=h.pm.nodup_iff.mpr List.nodup_range;have k:p.toList[i]?=some (pA p i):=by rw[abU];exact c8 (by rw[h.sz];exact c)
 have g:p.toList[j]?=some (pA p j):=by rw[abU];exact c8 (by rw[h.sz];exact f)
 have l:i<p.toList.length:=by rw[ab9,h.sz];exact c
 have a:j<p.toList.length:=by rw[ab9,h.sz];exact f
 rw[iO l]at k;rw[iO a]at g;have d:p.toList[i]=p.toList[j]:=by rw[aal k,aal g,e]
 have b:=abM.mp nd;rcases Nat.lt_trichotomy i j with z|z|z
 .exact absurd d (b i j l a z)
 .exact z
 .exact absurd d.symm (b j i a l z)
noncomputable def AscA(f:Nat->Nat->Bool)(p:Array Nat)(k:Nat):Prop:=∀i j,i<j->j<k->f (pA p i) (pA p j)=true
noncomputable def DscA(f:Nat->Nat->Bool)(p:Array Nat)(k:Nat):Prop:=∀i j,i<j->j<k->f (pA p j) (pA p i)=true
section
variable {n:Nat}{f:Nat->Nat->Bool} (T:TotF n f)
include T
theorem TotF.no(h:PermA n p)(c:i<n)(b:j<n)(a:i≠j)(e:f (pA p i) (pA p j)=false):f (pA p j) (pA p i)=true:=by
 rcases T.tot _ _ (h.lt c) (h.lt b) (λz=>a (h.inj c b z))with z|z
 .simp_all
 .exact z
theorem CF(h:PermA n p){k:Nat}(g:1≤k)(c:k<n)(a:AscA f p k)(e:f (pA p (k-1)) (pA p k)=true):AscA f p (k+1):=λi j b d=>by
 by_cases z:j=k
 .subst z
  by_cases y:i=j-1
  .rw[y];exact e
  .exact T.tr _ _ _ (h.lt (by omega)) (h.lt (by omega)) (h.lt c) (a i _ (by omega) (by omega)) e
 .exact a i j b (by omega)
theorem sf{p:Array Nat}(h:PermA n p):∀(u k:Nat),1≤k->k+u≤n->AscA f p k->∃m,runC n f (kas_asc p u k)=some m/\k≤m/\m≤k+u/\AscA f p m/\(m<k+u->f (pA p m) (pA p (m-1))=true)
 |0,k,_,_,a=>⟨k,rfl,Dl _,Dl _,a,λz=>by omega⟩
 | u+1,k,h1,hk,a=>by
  unfold kas_asc;rw[ia (h.lt (k:=k) (by omega)) (h.lt (k:=k-1) (by omega))]
  cases e:f (p.getD k 0) _ with
  |true=>
   exact⟨k,rfl,Dl _,by simp,a,λ_=>e⟩
  |false=>
   have d:=T.no h (i:=k) (j:=k-1) (by omega) (by omega) (by omega) e;obtain⟨m,r,m1,m2,b,c⟩:=sf h u (k+1) (by exact ahz _) (by omega) (CF T h h1 (by omega) a d);exact⟨m,r,by exact aa0 ‹_›,by omega,b,λz=>c (by omega)⟩
theorem uW{p:Array Nat}(h:PermA n p):∀(u k:Nat),1≤k->k+u≤n->DscA f p k->∃m,runC n f (kas_desc u p k 0)=some (p,m,0)/\k≤m/\m≤k+u/\DscA f p m
 |0,k,_,_,a=>⟨k,rfl,Dl _,Dl _,a⟩
 | u+1,k,h1,hk,a=>by
  unfold kas_desc;rw[ia (h.lt (k:=k) (by omega)) (h.lt (k:=k-1) (by omega))]
  cases e:f (p.getD k 0) (p.getD (k-1) 0)with
  | true=>
   have d:DscA f p (k+1):=λi j b l=>by
    by_cases z:j=k
    .subst z
     by_cases y:i=j-1
     .rw[y];exact e
     .exact T.tr _ _ _ (h.lt (by omega)) (h.lt (by omega)) (h.lt (by omega)) e (a i (j-1) (by omega) (by omega))
    .exact a i j b (by omega)
   obtain⟨m,r,m1,m2,c⟩:=uW h u (k+1) (by omega) (by omega) d;exact⟨m,r,by omega,by omega,c⟩
  |false=>
   rw[if_neg (by decide),ia (h.lt (k:=k-1) (by omega)) (h.lt (k:=k) (by omega))];have g:=T.no h (i:=k) (j:=k-1) (by omega) (by omega) (by omega) e;rw[g,if_pos rfl];exact⟨k,rfl,Dl _,by omega,a⟩
theorem GF(h:PermA n p)(i j:Nat):PermA n (kas_rev p i j):=by
 refine⟨by rw[kas_rev_size];exact h.sz,?_⟩;exact((mirror_perm p i j _).toList).trans h.pm
theorem Jm(h:PermA n p){m:Nat}(b:m≤n){k:Nat}(c:k<n):pA (kas_rev p 0 m) k=if k<m then pA p (m-1-k)else pA p k:=by
 have e:=getElem?_mirror_all (i:=0) (j:=m) (by rw[h.sz];exact b) k;have a:(kas_rev p 0 m)[k]?=some _:=c8 (by rw[kas_rev_size,h.sz];exact c);unfold kas_rev at a⊢;rw[e]at a
 by_cases z:k<m
 .rw[if_pos ⟨abC _,z⟩,ac5,c8 (by rw[h.sz];omega)]at a;rw[if_pos z];exact(aal a).symm
 .rw[if_neg (λy=>z y.2),c8 (by rw[h.sz];omega)]at a;rw[if_neg z];exact(aal a).symm
theorem F8(h:PermA n p){m:Nat}(q:1≤m)(d:m≤n)(a:DscA f p m):∃b c,runC n f (kas_tail3 m n p)=some (b,c)/\PermA n c/\m≤b/\b≤n/\AscA f c b:=by
 have e:=GF T h 0 m;have o:AscA f _ m:=λi j g l=>by
  rw[Jm T h d (by omega),Jm T h d (by exact aah ‹_› ‹_›),if_pos (by omega),if_pos l];exact a _ _ (by omega) (by omega)
 obtain⟨b,r,m1,m2,k,_⟩:=sf T e (n-m) m q (by omega) o;refine⟨b,kas_rev p 0 m,?_,e,m1,by omega,k⟩;unfold kas_tail3;rw[d8,r];rfl
theorem Cr(h:PermA n p)(C:1≤n):∃a b,runC n f (kas_count n p)=some (a,b)/\PermA n b/\1≤a/\a≤n/\AscA f b a:=by
 obtain⟨m,r,m1,m2,d,u⟩:=sf T h (n-1) 1 (Dl _) (by omega) (λi j c o=>by omega);unfold kas_count;rw[d8,r];show ∃a b,runC n f (if (m==n)=true then .ret (m,p)else _)=some (a,b)/\_
 by_cases z:m=n
 .rw[if_pos (by rw[z];exact beq_self_eq_true n)];exact⟨m,p,rfl,h,m1,by omega,d⟩
 .rw[if_neg (λy=>z (eq_of_beq y))]
  by_cases y:m>1
  .rw[if_pos y,ia (h.lt (k:=0) (by assumption)) (h.lt (k:=m-1) (by omega))];have e:=d 0 (m-1) (by omega) (by omega);rw[e,if_pos rfl];exact⟨m,p,rfl,h,m1,by omega,d⟩
  .rw[if_neg y];have g:m=1:=by omega
   subst g;have s:DscA f p 2:=λi j c o=>by
    have q:i=0:=by omega
    have w:j=1:=by omega
    rw[q,w];exact u (by omega)
   obtain⟨k,A,B,D,t⟩:=uW T h (n-2) 2 (by exact ahz _) (by omega) s;obtain⟨a,b,x,v,a1,a2,l⟩:=F8 T h (m:=k) (by exact aa0 ‹_›) (by omega) t;refine⟨a,b,?_,v,by omega,a2,l⟩;unfold kas_descPart;rw[d8,A];show runC n f (if (0:Nat)>0 then _ else kas_tail3 k n p)=_;rw[if_neg (by decide)];exact x
theorem jR{p:Array Nat}(h:PermA n p){k:Nat}(b:k<n)(a:AscA f p k):∀(u l r:Nat),l≤r->r≤k->r-l≤u->(∀i,i<l->f (pA p i) (pA p k)=true)->(∀i,r≤i->i<k->f (pA p k) (pA p i)=true)->∃m,runC n f (kas_place p k u l r)=some m/\m≤k/\(∀i,i<m->f (pA p i) (pA p k)=true)/\∀i,m≤i->i<k->f (pA p k) (pA p i)=true
 |0,l,r,hl,hr,hu,b1,b2=>⟨l,rfl,by exact aaj ‹_› ‹_›,b1,λi d=>b2 i (by omega)⟩
 | u+1,l,r,hl,hr,hu,b1,b2=>by
  unfold kas_place
  by_cases z:l≥r
  .rw[if_pos z];exact⟨l,rfl,by exact aaj ‹_› ‹_›,b1,λi d=>b2 i (by exact aaj ‹_› ‹_›)⟩
  .rw[if_neg z,ia (h.lt b) (h.lt (k:=(l+r)/2) (by omega))]
   cases e:f (p.getD k 0) (p.getD ((l+r)/2) 0)with
   | true=>
    rw[if_pos rfl];exact jR h b a u l ((l+r)/2) (by omega) (by omega) (by omega) b1 λi d c=>by
     by_cases y:i=(l+r)/2
     .rw[y];exact e
     .exact T.tr _ _ _ (h.lt b) (h.lt (k:=(l+r)/2) (by omega)) (h.lt (by omega)) e (a _ _ (by omega) c)
   | false=>
    have g:=T.no h (i:=k) (j:=(l+r)/2) b (by omega) (by omega) e;exact jR h b a u ((l+r)/2+1) r (by omega) hr (by omega) (λi d=>by
     by_cases y:i=(l+r)/2
     .rw[y];exact g
     .exact T.tr _ _ _ (h.lt (by omega)) (h.lt (k:=(l+r)/2) (by omega)) (h.lt b) (a _ _ (by omega) (by omega)) g) b2
theorem IB(h:PermA n p){k l:Nat}(b:k<n)(d:l≤k)(c:i<n):pA (bubble p k (k-l)) i=if i=l then pA p k else if l<i/\i≤k then pA p (i-1)else pA p i:=by
 have e:=getElem?_bubble (xs:=p) (src:=k) (by rw[h.sz];exact b) (k-l) (by simp) i;have a:(bubble p k (k-l))[i]?=some _:=c8 (by rw[bubble_size,h.sz];exact c);rw[e,show k-(k-l)=l by omega]at a
 by_cases z:i=l
 .rw[if_pos z,c8 (by rw[h.sz];exact b)]at a;rw[if_pos z];exact(aal a).symm
 .rw[if_neg z]at a⊢
  by_cases y:l<i/\i≤k
  .rw[if_pos y,c8 (by rw[h.sz];omega)]at a;rw[if_pos y];exact(aal a).symm
  .rw[if_neg y,c8 (by rw[h.sz];omega)]at a;rw[if_neg y];exact(aal a).symm
theorem zX:∀(u:Nat) {p:Array Nat}{k:Nat},PermA n p->k+u=n->AscA f p k->∃c,runC n f (kas_bin u p k)=some c/\PermA n c/\AscA f c n
 |0,p,k,h,hk,a=>⟨p,rfl,h,by rw[<-hk];exact a⟩
 | u+1,p,k,h,hk,a=>by
  obtain⟨l,r,g,b1,b2⟩:=jR T h (k:=k) (by omega) a k 0 k (by exact abC _) (Dl _) (by exact Dl _) (λi s=>by contradiction) (λi s q=>by omega);unfold kas_bin;rw[d8,r];have o:PermA n (bubble p k (k-l)):=⟨by rw[bubble_size];exact h.sz,((bubble_perm p k (k-l)).toList).trans h.pm⟩;refine zX u o (by omega) λi j b t=>?_;rw[IB T h (by omega) g (by omega),IB T h (by omega) g (by omega)]
  by_cases m:i=l
  .grind
  .rw[if_neg m]
   by_cases d:j=l
   .rw[if_pos d,if_neg (by omega)];exact b1 _ (by omega)
   .rw[if_neg d]
    by_cases e:l<i/\i≤k
    .rw[if_pos e,if_pos (by omega)];exact a _ _ (by omega) (by omega)
    .rw[if_neg e]
     by_cases z:l<j/\j≤k
     .rw[if_pos z];exact a _ _ (by omega) (by omega)
     .rw[if_neg z];exact a _ _ b (by omega)
theorem GI(c:1≤n):∃p,runC n f (kas_sort n)=some p/\PermA n p/\AscA f p n:=by
 have h0:PermA n (List.toArray (aaH n)):=⟨by simp,by simp⟩;obtain⟨m,p,r,h,m1,m2,a⟩:=Cr T h0 c;unfold kas_sort;rw[d8,r];show ∃b,runC n f _=some b/\_
 by_cases z:m<n
 .rw[if_pos z,show max m 1=m by omega];exact zX T _ h (by omega) a
 .rw[if_neg z];have:m=n:=by omega
  subst this;exact⟨p,rfl,h,a⟩
end
end L2
namespace L2
open PySem PySem.Spec PySem.W PyProof.Rows
noncomputable def LtAt(A:aa4)(s:oR)(x y:mT)(b:Bool):Prop:=
 ∀(prog:aaB) (w:World) (E:mT->oR->Prop) (Q:mT->oR->Prop),Q (.bool b) s->wpAny (model prog w) A (richCompare .Lt x y) Q E s
noncomputable def x6(A:aa4)(s:oR)(f r:Bool):List (mT×mT)->Prop
 |[]=>r=f
 |p::ps=>∃e,age A s p.1 p.2 e/\((e=true->x6 A s f r ps)/\(e=false->LtAt A s p.1 p.2 r))
theorem lh(l b:Addr)(xs ys:Array mT)(n m:Nat)(d1 d2:Option Addr)(s1 s2:Array (Option mT))(r:Bool) :
  Meets (acD.«tuple.__lt__» ⟨[.ref l,.ref b],[]⟩)
   (λA R s=>s.heap.get? l=some {cls:=.type "tuple",dict:=d1,data:=.seq xs n,slots:=s1}/\s.heap.get? b=some {cls:=.type "tuple",dict:=d2,data:=.seq ys m,slots:=s2}/\x6 A.in1 s (decide (xs.size<ys.size)) r (xs.toList.zip ys.toList)/\R (.ok (.ret (.bool r))) s):=
 .of_wp λprog w A R s h=>by
  obtain⟨f,k,hp,hr⟩:=h;have sub:=AutoSeq1.sub_tuple_tuple
  wp_walk using ae9 f,ae9 k,aeC _ (λrest z a=>z.1=none/\a=s/\x6 A.in1 s (decide (xs.size<ys.size)) r rest) _
  case turn=>
   rintro⟨u,v⟩ rest z a ⟨d,rfl,e,i,g,j⟩;refine aD (i prog w _ _ ?_)
   cases e with
   |true=>exact AD ⟨rfl,rfl,g rfl⟩
   |false=>
    refine aD (acV (aD (j rfl prog w _ _ ?_)))
    wp_walk
    exact⟨_,rfl,hr⟩
  case fin=>
   rintro⟨z,u⟩ a ⟨d,rfl,e⟩;have c:z=none:=d;subst c
   wp_walk
   refine⟨_,rfl,?_⟩;rw[e]at hr;exact hr
  case h=>exact⟨rfl,rfl,hp⟩
mutual
noncomputable def ltD:dL->dL->Bool
 | .int a,.int b=>decide (a<b)
 | .tuple xs,.tuple ys=>ltDs xs ys
 |_,_=>false
noncomputable def ltDs:List dL->List dL->Bool
 |x::xs,y::ys=>if aak x y=true then ltDs xs ys else ltD x y
 |[],_::_=>true
 |_,_=>false
end
mutual
noncomputable def smD:dL->dL->Bool
 | .int _,.int _=>true
 | .tuple xs,.tuple ys=>smDs xs ys
 |_,_=>false
noncomputable def smDs:List dL->List dL->Bool
 |[],[]=>true
 |x::xs,y::ys=>smD x y&&smDs xs ys
 |_,_=>false
end
mutual
theorem z6:∀{x y:dL},smD x y=true->x.canLay0=true/\y.canLay0=true
 | .int _,.int _,_=>⟨rfl,rfl⟩
 | .tuple xs,.tuple ys,h=>by
  simp only[smD]at h;have:=yJ h;exact⟨this.1,this.2⟩
theorem yJ:∀{xs ys:List dL},smDs xs ys=true->abd xs=true/\abd ys=true
 |[],[],_=>⟨rfl,rfl⟩
 |x::xs,y::ys,h=>by
  simp only[smDs,aaZ]at h;have a:=z6 h.1;have b:=yJ h.2;exact⟨by simp only[abd,a.1,b.1,Bool.and_self],by simp only[abd,a.2,b.2,Bool.and_self]⟩
end
noncomputable def LtUp(k:Nat):Prop:=∀(x y:dL) (A:aa4) (s:oR) (u v:mT) (a bs:List Addr),x.depth≤k->Reads s.heap u x a->Reads s.heap v y bs->smD x y=true->A.units+x.depth<cLine->LtAt A s u v (ltD x y)
theorem jZ{k:Nat}(I:LtUp k)(A:aa4)(s:oR):∀(xs ys:List dL) (u vs:List mT) (as bs:List Addr),aav xs≤k->adT s.heap u xs as->adT s.heap vs ys bs->smDs xs ys=true->A.units+aav xs<cLine->u.length=vs.length/\x6 A s false (ltDs xs ys) (u.zip vs)
 | [],ys,u,vs,as,bs,hk,r1,r2,h,hu=>by
  cases ys with
  |cons y ys=>exact absurd h (by simp only[smDs];decide)
  |nil=>
   cases r1;cases r2;exact⟨rfl,rfl⟩
 | x::xs,ys,u,vs,as,bs,hk,r1,r2,h,hu=>by
  cases ys with
  |nil=>exact absurd h (by simp only[smDs];decide)
  | cons y ys=>
   simp only[smDs,aaZ]at h
   cases r1 with
   | cons a1 a2=>
    cases r2 with
    |cons b1 b2=>
     have a:max x.depth _≤k:=hk;have dp:A.units+max x.depth _<cLine:=hu;have l:=z6 h.1;obtain⟨c,b⟩:=jZ I A s xs ys _ _ _ _ (by omega) a2 b2 h.2 (by omega);refine⟨by rw[aaz,aaz,c],aak x y,ahP x y A s _ _ _ _ a1 b1 l.1 l.2 (by have:=Nat.min_le_left x.depth y.depth;omega),λe=>?_,λe=>?_⟩
     .rw[ltDs,if_pos e];exact b
     .rw[ltDs,if_neg (by rw[e];decide)];exact I x y A s _ _ _ _ (by omega) a1 b1 h.1 (by omega)
theorem vX:∀k,LtUp k
 | 0,x,y,A,s,u,v,as,bs,hk,r1,r2,h,hu=>by
  cases x with
  | int a=>
   cases y with
   |int b=>
    cases r1;cases r2;exact λprog w E Q h=>wpAny_lt_int h
   |_=>exact absurd h (by simp only[smD];decide)
  |tuple c=>exact absurd hk (by show ¬aav c+1≤0;contradiction)
  |_=>exact absurd h (by simp only[smD];decide)
 | k+1,x,y,A,s,u,v,as,bs,hk,r1,r2,h,hu=>by
  cases x with
  | int a=>
   cases y with
   |int b=>
    cases r1;cases r2;exact λprog w E Q h=>wpAny_lt_int h
   |_=>exact absurd h (by simp only[smD];decide)
  | tuple c=>
   cases y with
   | tuple D=>
    simp only[smD]at h
    cases r1 with
    | tuple G q C I=>
     cases r2 with
     |tuple j r B O=>
      rename_i l o vs n m H d L;obtain⟨cls,M,t,K⟩:=o;obtain⟨i,g,e,f⟩:=H;dsimp only at q C r B;subst q C r B;have J:aav c+1≤k+1:=hk;have dp:A.units+(aav c+1)<cLine:=hu;obtain⟨P,R⟩:=jZ (vX k) A.in1 s c D vs.toList d.toList _ _ (by omega) I O h (show A.units+1+aav c<cLine by omega);rw[ab9,ab9]at P;intro prog w E Q N;refine richCompare_meets_room (op:=.Lt) ⟨_,G,rfl⟩ ⟨_,j,rfl⟩ F.slot_tuple_lt F.entry_tuple_lt (F.args_tuple_lt_2 _ _) (lh l m vs d n L M g K f (ltDs c D)) ⟨G,j,?_,⟨(λz=>nomatch z),N⟩⟩ (by omega);rw[decide_eq_false (p:=_) (by omega)];exact R
   |_=>exact absurd h (by simp only[smD];decide)
  |_=>exact absurd h (by simp only[smD];decide)
end L2
namespace L2
open PySem PySem.Spec PyProof.Rows
variable{n:Nat}{T v:Addr}{b:Bool}{o:Obj}{Q:Bool->oR->Prop}{P:Addr->aaM->Nat->mT->Prop}
section
variable {prog:aaB}{w:World}{A:aa4}{E:mT->oR->Prop}{s:oR}{it d:Addr}{es:Array acj}{i ep:Nat}{ok ov:mT}
noncomputable def lm(h:aaM)(it d:Addr)(i n ep:Nat)(k v:mT)(T:Addr)(b:Bool):Prop:=h.get? it=some {cls:=.type "dict_itemiterator",data:=.fields #[ace T,.bool b,.ref d,.int i 0,.int n 0,.int ep 0,k,v]}
theorem Uq{a:Addr}{Q:Option Obj->oR->Prop}(h:Q (s.heap.get? a) s):wpAny (model prog w) A (loadIfAlive a) Q E s:=λ_ _ _=>h
theorem Oj{j:Nat}(h:lm s.heap it d j n ep ok ov T b)(f:s.heap.get? T=some o)
  (a:∀h',lm h' it d j n ep ok ov T true->h'.objs.size=s.heap.objs.size->(∀c o,c≠it->s.heap.get? c=some o->h'.get? c=some o)->Q false {s with heap:=h' }):wpAny (model prog w) A (abY (.ref it)) Q E s:=by
 refine aD (aaO h rfl (x:=ace T) rfl ?_);refine aD (Uq ?_);rw[show((T:Int)).toNat=T by rfl,f];refine aD (aaO h rfl (x:=.bool b) rfl ?_)
 cases b with
 |true=>exact AD (a s.heap h rfl λc o _ q=>q)
 |false=>
  refine aD (aay h (by simp) λk g s1=>?_);exact AD (a k g s1.1 λc o e q=>s1.extBut c o e q)
theorem Fm{j:Nat}{k v:mT}{Q:mT->oR->Prop}(h:lm s.heap it d j n ep ok ov T b)(f:s.heap.get? T=some o)
  (g:∀h',lm h' it d j n ep ok ov T true->h'.get? s.heap.objs.size=some {cls:=.type "tuple",data:=.seq #[k,v]}->h'.objs.size=s.heap.objs.size+1 ->
   (∀c o,c≠it->s.heap.get? c=some o->h'.get? c=some o)->Q (.ref s.heap.objs.size) {s with heap:=h' }):wpAny (model prog w) A (ab7 (.ref it) 6 k v) Q E s:=by
 have lt:=aaa h;have p:∀c o,s.heap.get? c=some o->(s.heap.push {cls:=.type "tuple",data:=.seq #[k,v]}).get? c=some o:=λc o q=>Ad _ q;refine aD (m:=abY _) (Oj (p _ _ h) (p _ _ f) λh' a1 a2 a=>?_);refine AD (g h' a1 (a _ _ (aaX lt) (aaf _ rfl)) (a2.trans (abt ..)) λc o e q=>a c o e (p c o q))
theorem GW{Q:Option mT->oR->Prop}(h:lm s.heap it d i es.size ep ok ov T b)(l:s.heap.get? T=some o)(I:T≠it)(F:EntAt s.heap d es ep)(J:i<es.size)
  (D:∀h',lm h' it d (i+1) es.size ep ok ov T true->h'.get? s.heap.objs.size=some {cls:=.type "tuple",data:=.seq #[es[i].key,es[i].val]}->h'.objs.size=s.heap.objs.size+1 ->
   (∀c o,c≠it->s.heap.get? c=some o->h'.get? c=some o)->Q (some (.ref s.heap.objs.size)) {s with heap:=h' }):wpAny (model prog w) A (aci (.ref it)) Q E s:=by
 obtain⟨M,f,H,j⟩:=F.ex;have e:s.TypeIs (.ref it) "dict_itemiterator":=(⟨_,h,rfl⟩);have own:aa9 "dict_itemiterator" = true:=by decide
 unfold aci;refine aD (act (aaE (name:=abZ "__next__") e aa3 (aaI aa3 e acn ?_ (acf _))))
 wp_walk using qg e,adC h rfl,abT f j,acd f j,abb e
 have C:(if (i:Int)<0 then none else es[((i:Nat):Int).toNat]?)=some es[i]:=by
  rw[if_neg (by omega),aa1,acg J]
 rw[C];rcases s with⟨hp,g,p,t,os⟩;refine aD ?_;refine aD (qg e (AD ?_));refine aD (m:=afz _ _) (abb e ?_);show wpAny _ _ (acM (.ref it) 3 (ace ((i:Int)+1)) >>= _) _ _ _;refine aD (aay h (by simp) λa L s1=>?_);replace s1:abk it hp a:=s1;have k:lm a it d (i+1) es.size ep ok ov T b:=by
  have q:((i+1:Nat):Int)=(i:Int)+1:=rfl;unfold lm;rw[q];simpa[ace]using L
 have u:aeO ⟨a,g,p,t,os⟩ (.ref it) "dict_itemiterator":=(⟨_,k,rfl⟩);refine aD (abA (aD (abb u (aD (abb u ?_)))));show wpAny _ _ (ab7 (.ref it) 6 es[i].key es[i].val) _ _ ⟨a,g,p,t,os⟩;have y:a.objs.size=hp.objs.size:=s1.1;refine Fm (s:=⟨a,g,p,t,os⟩) k (s1.extBut T o I l) λG B x z K=>?_;rw[y]at x z⊢;exact AD ⟨_,rfl,AD (D G B x z λc o r q=>K c o r (s1.extBut c o r q))⟩
theorem Du{Q:Option mT->oR->Prop}(t:A.handled=none)(h:lm s.heap it d i es.size ep ok ov T b)(z:EntAt s.heap d es ep)(u:es.size≤i)
  (y:∀h',(∀c o,c≠it->s.heap.get? c=some o->h'.get? c=some o)->Q none {s with heap:=h' }):wpAny (model prog w) A (aci (.ref it)) Q E s:=by
 obtain⟨F,f,l,g⟩:=z.ex;have a:s.TypeIs (.ref it) "dict_itemiterator":=(⟨_,h,rfl⟩);have own:aa9 "dict_itemiterator" = true:=by decide
 unfold aci;refine aD (act (aaE (name:=abZ "__next__") a aa3 (aaI aa3 a acn ?_ (acf _))))
 wp_walk using qg a,adC h rfl,abT f g,acd f g,abb a
 have r:(if (i:Int)<0 then none else es[((i:Nat):Int).toNat]?)=none:=by
  rw[if_neg (by omega),aa1,aer u]
 rw[r];refine aD (aD (qg a (AD ?_)));refine aD (m:=acM (.ref it) 2 .none) (aay h (by simp) λD G s1=>?_);refine jx t λB e C ⟨x,p,k⟩=>?_;exact aD (acl (T:= "StopIteration") (b:=true) ⟨x,p,k⟩ aeo (AD (y B λc o j q=>C c o (s1.extBut c o j q))))
structure Nx(prog:aaB)(w:World)(A:aa4)(S it:Addr)(n:Nat)(St:Nat->aaM->Prop)(P:aaM->Nat->mT->Prop):Prop where
 item:∀(i:Nat) (s:oR) (Q:Option mT->oR->Prop) (E:mT->oR->Prop),i<n->St i s.heap->(∃o,s.heap.get? S=some o)->(∀h' v,St (i+1) h'->P h' i v->(∀c o,c≠it->s.heap.get? c=some o->h'.get? c=some o)->Q (some v) {s with heap:=h' })->wpAny (model prog w) A (aci (.ref it)) Q E s
 done:∀(s:oR) (Q:Option mT->oR->Prop) (E:mT->oR->Prop),St n s.heap->(∀h',(∀c o,c≠it->s.heap.get? c=some o->h'.get? c=some o)->Q none {s with heap:=h' })->wpAny (model prog w) A (aci (.ref it)) Q E s
 keep:∀i h h',St i h->h'.objs.size=h.objs.size->(∀c o,c≠S->h.get? c=some o->h'.get? c=some o)->St i h'
 more:∀h h' i v,P h i v->(∀c o,c≠S->c≠it->h.get? c=some o->h'.get? c=some o)->P h' i v
noncomputable def lq(h:aaM)(S:Addr)(acc:Array mT)(c:Nat):Prop:=h.get? S=some {cls:=.type "list",data:=.seq acc c}
theorem vY{S it:Addr}{n:Nat}{St:Nat->aaM->Prop}{P:aaM->Nat->mT->Prop}{R:Result->oR->Prop}{r:mT}(N:Nx prog w A.in1 S it n St P)(ne:S≠it)(B:n≤aag):∀(k i:Nat) (s:oR) (acc:Array mT) (c:Nat),n-i=k->i≤n->St i s.heap->lq s.heap S acc c->acc.size=i->(∀j v,acc[j]?=some v->P s.heap j v) ->
  (∀h' a G,(∀b o,b≠it->b≠S->s.heap.get? b=some o->h'.get? b=some o)->lq h' S a G->a.size=n->(∀j v,a[j]?=some v->P h' j v)->R (.ok (.ret r)) {s with heap:=h' })->ael (model prog w) A (.builtin "list.extend.loop" ⟨[.ref S,.ref it,r],[]⟩) R s
 |0,i,s,acc,c,hk,hi,st,hl,ha,hp,fin=>by
  have e:i=n:=by omega
  subst e;refine afb ag6 ((ae0 adO _).symm▸?_);refine aD (m:=aci (.ref it)) (N.done s _ _ st λh' kp=>AD (fin h' acc c (λb o p _ q=>kp b o p q) (kp S _ ne hl) ha λj v e=>N.more _ _ _ _ (hp j v e) λc o _ f q=>kp c o f q))
 | k+1,i,s,acc,c,hk,hi,st,hl,ha,hp,fin=>by
  refine afb ag6 ((ae0 adO _).symm▸?_);refine aD (m:=aci (.ref it)) (N.item i s _ _ (by omega) st ⟨_,hl⟩ λh' v x y kp=>?_);have h:lq h' S acc c:=kp S _ ne hl;refine aD (m:=updateSeq S (·.push v)) (agA (s:={s with heap:=h' }) h rfl (AD ⟨ahc adO _,?_⟩) (by rw[ha];exact aaj ‹_› ‹_›) (by show(acc.push v).size≤aag+1;rw[ahX,ha];omega));have l:∀b o,b≠S->h'.get? b=some o->(h'.update S (acH (·.push v))).get? b=some o:=λb o p q=>(aaY _ _ (aa5 p)).trans q;have t:∀j u,(acc.push v)[j]?=some u->P (h'.update S (acH (·.push v))) j u:=λj u e=>by
   rw[Array.getElem?_push]at e
   split at e
   .rename_i z;rw[ha]at z;subst z;rw[<-aal e];exact N.more _ _ _ _ y λc o f _ q=>l c o f q
   .exact N.more _ _ _ _ (hp j u e) λc o f C q=>l c o f (kp c o C q)
  refine vY N ne B k (i+1) _ (acc.push v) _ (by omega) (by omega) (N.keep _ _ _ x (adG ..) l) (abf _ h rfl) (by rw[ahX,ha]) t λF g D K H I J=>fin F g D (λb o n1 n2 q=>K b o n1 n2 (l b o n2 (kp b o n1 q))) H I J
end
section
variable {prog:aaB}{w:World}{A:aa4}{E:mT->oR->Prop}{s:oR}{f d S:Addr}{es:Array acj}{i g:Nat}{ok r:mT}
noncomputable def StI(S f d:Addr)(es:Array acj)(g:Nat)(i:Nat)(h:aaM):Prop:=EntAt h d es g/\h.objs.size=f+1+i/\((∃ok r,acJ h f d i es.size g ok r)\/∃k v T b o,lm h f d i es.size g k v T b/\h.get? T=some o/\T≠f/\T≠S)
noncomputable def PrI(S f:Addr)(es:Array acj)(h:aaM)(i:Nat)(v:mT):Prop:=S<f/\v = .ref (f+1+i)/\∃a:i<es.size,h.get? (f+1+i)=some {cls:=.type "tuple",data:=.seq #[es[i].key,es[i].val]}
theorem yC(f:Addr)(i:Nat):f+1+i≠f:=aaX (aah (abI f) (acm _ i))
theorem zq{S f:Addr}(h:S<f)(i:Nat):f+1+i≠S:=aaX (aax h (aah (abI f) (acm _ i)))
theorem Ic(D:A.handled=none)(n1:S<f)(n2:S≠d)(C:f≠d):Nx prog w A S f es.size (StI S f d es g) (PrI S f es) where
 item:=by
  rintro i s Q E m ⟨c,z,st⟩ ⟨H,G⟩ t;rcases st with⟨ok,r,st⟩|⟨k,v,T,b,o,st,y,x,B⟩
  .refine qR st c m λu a1 a2 p j=>?_;rw[z]at a1 a2 p⊢;exact t u _ ⟨c.keep λo q=>j d o (aa5 C) q,p,.inr ⟨_,_,_,false,_,a1,a2,(yC f i),(zq n1 i)⟩⟩ ⟨n1,rfl,m,a2⟩ j
  .refine GW st y x c m λu a1 a2 p j=>?_;rw[z]at a2 p⊢;exact t u _ ⟨c.keep λo q=>j d o (aa5 C) q,p,.inr ⟨_,_,_,true,o,a1,j T o x y,x,B⟩⟩ ⟨n1,rfl,m,a2⟩ j
 done:=by
  rintro s Q E ⟨c,z,st⟩ t;rcases st with⟨ok,r,st⟩|⟨k,v,T,b,o,st,_⟩
  .exact rm D st c (Dl _) t
  .exact Du D st c (Dl _) t
 keep:=by
  rintro i h u ⟨c,z,st⟩ F k;refine⟨c.keep λo q=>k d o (aa5 n2) q,F.trans z,?_⟩;rcases st with⟨ok,r,st⟩|⟨a,v,T,b,o,st,y,x,B⟩
  .exact .inl ⟨ok,r,k f _ (aaX n1) st⟩
  .exact .inr ⟨a,v,T,b,o,k f _ (aaX n1) st,k T o B y,x,B⟩
 more:=by rintro h u i v ⟨l,e,m,q⟩ k;exact⟨l,e,m,k _ _ (zq n1 i) (yC f i) q⟩
theorem K6(p:A.handled=none)(n1:S≠f)(n2:S≠d)(m:f≠d):Nx prog w A S f es.size (λi h=>EntAt h d es g/\r9 h f d i es.size g) (λ_ i v=>∃j:i<es.size,v=es[i].key) where
 item:=by rintro i s Q E j ⟨a,st⟩ _ c;exact Ip st a j λe a1 l=>c e _ ⟨a.keep λo q=>l d o (aa5 m) q,a1⟩ ⟨j,rfl⟩ l
 done:=by rintro s Q E ⟨a,st⟩ c;exact Dw p st a (Dl _) c
 keep:=by rintro i h e ⟨a,st⟩ _ k;exact⟨a.keep λo q=>k d o (aa5 n2) q,⟨k f _ (aa5 n1) st.e⟩⟩
 more:=λh e i v x _=>x
theorem Cv{Q:mT->oR->Prop}(c:s.heap.get? v=some {cls:=.type "dict_items",data:=.fields #[.ref d]})(l:EntAt s.heap d es g)
  (k:∀h',acJ h' s.heap.objs.size d 0 es.size g .none .none->h'.objs.size=s.heap.objs.size+1->(∀b o,s.heap.get? b=some o->h'.get? b=some o)->Q (.ref s.heap.objs.size) {s with heap:=h' }):wpAny (model prog w) A (ae2 (.ref v)) Q E s:=by
 obtain⟨m,h,j,a⟩:=l.ex;have e:s.TypeIs (.ref v) "dict_items":=(⟨_,c,rfl⟩);have own:aa9 "dict_itemiterator" = true:=by decide
 refine aes e acK (aaI acK e aeX ?_ (aeF _));refine aD (AD (aD (aD (aaO c rfl (x:=.ref d) rfl (AD (aD (aD (abT h a (aD (acd h a ?_))))))))));simp only[own,if_true];refine aaW (AD ⟨_,rfl,"dict_itemiterator",_,⟨_,aaf _ rfl,rfl⟩,acT.lookup,?_⟩) (by simp only[sizeOk,adV,aaw,aap,aaz,afa,aan];decide);exact k _ (aaf _ rfl) (abt ..) λb o q=>Ad _ q
theorem zg:agj (.type "dict_items") "__len__" = pure (some (.builtin "dict_items.__len__")):=by rfl
theorem Di:agj (.type "dict") "__len__" = pure (some (.builtin "dict.__len__")):=by rw[typeLookup_type,builtinLookup_eq_fast];kernel_rfl
theorem xq(a:s.TypeIs (.ref v) "dict_items")(h:Q false s):wpAny (model prog w) A (abE (.ref v)) Q E s:=by
 rw[abE];refine aD (ad3 a zg ?_);have c:splitId "dict_items.__len__" = some ("dict_items","__len__"):=by decide +kernel
 dsimp only;rw[c];dsimp only;refine aD (acl (b:=true) a (by rw[isSubtype_type];kernel_rfl) ?_);rw[if_neg (by decide)];rw[if_pos (by decide +kernel)];exact aD (ac4 a (AD h))
theorem CB(a:s.TypeIs (.ref v) "dict")(h:Q false s):wpAny (model prog w) A (abE (.ref v)) Q E s:=by
 rw[abE];refine aD (ad3 a Di ?_);have c:splitId "dict.__len__" = some ("dict","__len__"):=by decide +kernel
 dsimp only;rw[c];dsimp only;refine aD (acl (b:=true) a (by rw[isSubtype_type];kernel_rfl) ?_);rw[if_neg (by decide)];rw[if_pos (by decide +kernel)];exact aD (ac4 a (AD h))
theorem QT{c:Nat}{Q:Unit->oR->Prop}(e:lq s.heap S #[] c)(h:∀h' k,lq h' S #[] k->h'.objs.size=s.heap.objs.size->(∀b o,b≠S->s.heap.get? b=some o->h'.get? b=some o)->Q () {s with heap:=h' }):wpAny (model prog w) A (acD.List.listTouch (.ref S)) Q E s:=by
 refine aD (agA e rfl ?_ (by simp) (by trivial));have l:lq (s.heap.update S (acH (·.push .none))) S (#[].push .none) _:=abf _ e rfl;refine agA l rfl ?_ (by show(1:Nat)≤aag;rw[aan];decide) (by trivial);have j:lq ((s.heap.update S (acH (·.push .none))).update S (acH (·.pop))) S #[] _:=abf _ l rfl;exact h _ _ j ((adG ..).trans (adG ..)) λb o a q=>(aaY _ _ (aa5 a)).trans ((aaY _ _ (aa5 a)).trans q)
theorem Fe{T:String}{c:Nat}{St:Addr->Nat->aaM->Prop}{R:Result->oR->Prop}(C:s.TypeIs (.ref v) T)(h:T = "dict_items" \/ T = "dict")(O:S≠v)(hl:lq s.heap S #[] c)(L:n≤aag)
  (a:∀(s:oR) (Q:Bool->oR->Prop) (E:mT->oR->Prop),s.TypeIs (.ref v) T->Q false s->wpAny (model prog w) A.in1 (abE (.ref v)) Q E s)
  (k:∀(Q:mT->oR->Prop) (E:mT->oR->Prop),(∀h' f,f≠S->Nx prog w A.in1 S f n (St f) (P f)->St f 0 h'->(∀b o,s.heap.get? b=some o->h'.get? b=some o)->s.heap.get? f=none->Q (.ref f) {s with heap:=h' })->wpAny (model prog w) A.in1 (ae2 (.ref v)) Q E s)
  (p:∀f h' (acc:Array mT) c',(∀b o,b≠S->s.heap.get? b=some o->h'.get? b=some o)->lq h' S acc c'->acc.size=n->(∀j u,acc[j]?=some u->P f h' j u)->R (.ok (.ret (.ref S))) {s with heap:=h' }):ael (model prog w) A (.builtin "list.__iadd__" ⟨[.ref S,.ref v],[]⟩) R s:=by
 refine afb F.entry_list_iadd ((ae0 F.plain_list_iadd _).symm▸?_);show wpAny _ A.in1 (acD.List.listExtendWith (.ref S) (.ref v) (.ref S)) _ _ _;refine aD ?_;refine ac4 C ?_;have G:afV (.ref S) (.ref v)=false:=by simp[afV,O]
 rw[G,if_neg (by rcases h with rfl|rfl<;>decide)];refine aD (k _ _ λy f M N st l J=>?_);have t:aeO {s with heap:=y} (.ref v) T:=by
  obtain⟨o,Y,X⟩:=C;exact⟨o,l _ _ Y,X⟩
 refine aD (abA (a _ _ _ t ?_));dsimp only;rw[if_pos (by rcases h with rfl|rfl<;>decide)];refine aD (acV (aD (QT (s:={s with heap:=y}) (l _ _ hl) λh2 U W m B=>?_)));refine AD ⟨ahc adO _,vY N (aa5 M) L n 0 _ #[] U rfl (abC _) (N.keep _ _ _ st m B) W rfl (λj u e=>by simp at e) λI acc D V H K Z=>p f I acc D (λb o x q=>V b o (λz=>by rw[z,J]at q;cases q) x (B b o x (l b o q))) H K Z⟩
theorem lw{T:String}{St:Addr->Nat->aaM->Prop}{Q:List mT->oR->Prop}(B:s.TypeIs (.ref v) T)(y:T = "dict_items" \/ T = "dict")(C:n≤aag)
  (a:∀(s:oR) (Q:Bool->oR->Prop) (E:mT->oR->Prop),s.TypeIs (.ref v) T->Q false s->wpAny (model prog w) A.in1 (abE (.ref v)) Q E s)
  (c:∀(s1:oR) (Q:mT->oR->Prop) (E:mT->oR->Prop),(∀b o,s.heap.get? b=some o->s1.heap.get? b=some o)->(∃o,s1.heap.get? s.heap.objs.size=some o)->(∀h' f,f≠s.heap.objs.size->Nx prog w A.in1 s.heap.objs.size f n (St f) (P f)->St f 0 h'->(∀b o,s1.heap.get? b=some o->h'.get? b=some o)->s1.heap.get? f=none->Q (.ref f) {s1 with heap:=h' })->wpAny (model prog w) A.in1 (ae2 (.ref v)) Q E s1)
  (x:∀f h' (acc:Array mT),(∀b o,s.heap.get? b=some o->h'.get? b=some o)->s.heap.objs.size<h'.objs.size->acc.size=n->(∀j u,acc[j]?=some u->P f h' j u)->Q acc.toList {s with heap:=h' }):wpAny (model prog w) A (collect (.ref v)) Q E s:=by
 have new:lq _ s.heap.objs.size #[] 0:=aaf _ rfl;have t:∀b o,s.heap.get? b=some o->(s.heap.push {cls:=.type "list",data:=.seq #[]}).get? b=some o:=λb o q=>Ad _ q;have D:s.heap.objs.size≠v:=by
  obtain⟨o,q,_⟩:=B;exact aaX (aaa q)
 have e:aeO {s with heap:=s.heap.push {cls:=.type "list",data:=.seq #[]} } (.ref v) T:=by
  obtain⟨o,H,G⟩:=B;exact⟨o,t _ _ H,G⟩
 refine aD (m:=runValue _) (wpAny_runValue (afb F.entry_proto_collect (aD (m:=newList []) (aaW (AD ⟨ahc F.plain_list_iadd _,?_⟩)))));refine Fe e y D new C a (λQ E h=>c {s with heap:=s.heap.push {cls:=.type "list",data:=.seq #[]} } Q E t ⟨_,new⟩ h) λf h' acc I k l z p=>?_;refine aD (m:=load s.heap.objs.size) (wpAny_load l ?_);exact AD (x f h' acc (λb o q=>k b o (aaG (aaa q)) (t b o q)) (aaa l) z p)
end
end L2
namespace L2
open PySem PySem.Spec PySem.W PyProof.Rows
variable{ds:List dL}{n:Nat}{B b:Addr}{g:Nat->HO}{o:Expr}{apos cpos pos:Pos}{wo:WE}
section
variable {prog:aaB}{w:World}{A:aa4}{E:mT->oR->Prop}{s:oR}
noncomputable def JN(h h':aaM):Prop:=∀b o,h.get? b=some o->o.cls = .type "tuple" -> h'.get? b=some o
theorem uQ{h h':aaM}{k:Nat}(K:JN h h')(I:∀x y u as,x.depth≤k->smD x y=true->Reads h u x as->∃bs,Reads h' u x bs):∀(xs ys:List dL) us as,aav xs≤k->smDs xs ys=true->adT h us xs as->∃bs,adT h' us xs bs
 |[],ys,us,as,_,_,r=>by cases r;exact⟨[],.nil⟩
 | x::xs,ys,us,as,hk,sm,r=>by
  cases ys with
  |nil=>exact absurd sm (by simp only[smDs];decide)
  | cons y ys=>
   simp[smDs]at sm;have a:max x.depth _≤k:=hk
   cases r with
   |cons r1 d=>
    obtain⟨b1,c⟩:=I x y _ _ (by omega) sm.1 r1;obtain⟨b2,q⟩:=uQ K I xs ys _ _ (by omega) sm.2 d;exact⟨_,.cons c q⟩
theorem BI{h h':aaM}(K:JN h h'):∀(k:Nat) (x y:dL) (u:mT) (as:List Addr),x.depth≤k->smD x y=true->Reads h u x as->∃bs,Reads h' u x bs
 |k,.int a,y,u,as,_,_,r=>by cases r;exact⟨_,.int _ _⟩
 |0,.tuple xs,y,u,as,hk,_,_=>absurd hk (by show ¬aav xs+1≤0;contradiction)
 | k+1,.tuple xs,y,u,as,hk,sm,r=>by
  cases y with
  | tuple i=>
   have f:aav xs+1≤k+1:=hk
   cases r with
   |tuple e c q z=>
    obtain⟨bs,d⟩:=uQ K (BI K k) xs i _ _ (by omega) sm z;exact⟨_,.tuple (K _ _ e c) c q d⟩
  |_=>exact absurd sm (by simp only[smD];decide)
 |k,.none,y,u,as,_,sm,_=>absurd sm (by simp only[smD];decide)
 |k,.bool _,y,u,as,_,sm,_=>absurd sm (by simp only[smD];decide)
 |k,.str _,y,u,as,_,sm,_=>absurd sm (by simp only[smD];decide)
 |k,.list _,y,u,as,_,sm,_=>absurd sm (by simp only[smD];decide)
 |k,.dict _,y,u,as,_,sm,_=>absurd sm (by simp only[smD];decide)
theorem Aa{f r:Bool}{Q:Bool->oR->Prop}(q:Q r s):∀(ps:List (mT×mT)) (i:Nat),x6 A s f r ps->KatLex prog w A false f Q ps i s
 |[],i,h=>kat_nil (by have a:=h;rw[<-a];exact q)
 |p::ps,i,⟨e,he,h1,h2⟩=>by
  refine kat_cons (he prog w _ _ ?_)
  cases e with
  |true=>exact kat_yes (Aa q ps _ (h1 rfl))
  |false=>exact kat_no (kat_one _ _ (h2 rfl prog w _ _ q))
noncomputable def RdL(h:aaM):List mT->List dL->Prop
 |[],[]=>True
 |v::vs,d::ds=>(∃a,Reads h v d a)/\RdL h vs ds
 |_,_=>False
theorem RdL.len{h:aaM}:∀{vs:List mT}{ds:List dL},RdL h vs ds->vs.length=ds.length
 |[],[],_=>rfl
 |v::vs,d::ds,t=>by rw[aaz,aaz,RdL.len t.2]
 |[],_::_,t=>t.elim
 |_::_,[],t=>t.elim
theorem RdL.get{h:aaM}:∀{vs:List mT}{ds:List dL}{i:Nat},RdL h vs ds->i<vs.length->∃as,Reads h (vs.getD i .none) (ds.getD i .none) as
 |[],[],_,_,z=>by simp at z
 |v::vs,d::ds,0,t,_=>t.1
 |v::vs,d::ds,i+1,t,z=>by
  rw[List.getD_cons_succ];exact RdL.get t.2 (by simp_all)
 |[],_::_,_,t,_=>(t.elim)
 |_::_,[],_,t,_=>(t.elim)
noncomputable def tt1:dL->Bool
 | .tuple (.tuple _::_)=>true
 |_=>false
theorem yV{h:aaM}:∀{vs:List mT}{ds:List dL},RdL h vs ds->(∀d∈ds,tt1 d=true)->∃fs,KatTups h vs fs/\fs.length=vs.length/\∀v∈fs,∃b o,v = .ref b/\h.get? b=some o/\o.cls = .type "tuple"
 |[],[],_,_=>⟨[],.nil,rfl,λ_ h=>by cases h⟩
 | v::vs,d::ds,⟨⟨as,r⟩,t⟩,hd=>by
  obtain⟨fs,m,H,F⟩:=yV t λx f=>hd x (Ge _ f);have j:=hd d GE;obtain⟨y,k,rfl⟩:∃y k,d = .tuple (.tuple y::k):=by
   unfold tt1 at j
   split at j
   .exact⟨_,_,rfl⟩
   .cases j
  cases r with
  | tuple e c q z=>
   rename_i a o i n;generalize D:i.toList=L at z
   cases z with
   | cons r1 I=>
    rename_i u J l bs;have G:i[0]?=some u:=by
     rw[<-abU,D];rfl
    cases r1 with
    |tuple p C M K=>
     refine⟨_::fs,.cons e c q G m,by rw[aaz,aaz,H],λx f=>?_⟩;exact(aai.mp f).elim (λz=>by subst z;exact⟨_,_,rfl,p,C⟩) (F x)
 |[],_::_,t,_=>t.elim
 |_::_,[],t,_=>t.elim
theorem RdL.keep{h h':aaM}(K:JN h h'):∀{vs:List mT}{ds:List dL},(∀d∈ds,smD d d=true)->RdL h vs ds->RdL h' vs ds
 |[],[],_,_=>trivial
 |v::vs,d::ds,hs,⟨⟨as,r⟩,t⟩=>⟨BI K d.depth d d v as (Dl _) (hs d GE) r,RdL.keep K (λx a=>hs x (Ge _ a)) t⟩
 |[],_::_,_,t=>t.elim
 |_::_,[],_,t=>t.elim
structure SrtOk(ds:List dL):Prop where
 n:ds.length<64
 sm:∀x∈ds,∀y∈ds,smD x y=true
 tt:∀x∈ds,tt1 x=true
 dp:∀x∈ds,x.depth≤7
theorem RL{u v:mT}{x y:dL}{as bs:List Addr}{Q:Bool->oR->Prop}(r1:Reads s.heap u x as)(r:Reads s.heap v y bs)(sm:smD x y=true)(t:tt1 x=true)(d:tt1 y=true)(f:A.units+x.depth<cLine)(h:Q (ltD x y) s):wpAny (model prog w) A (keyLt' (tuples' false) u v) Q E s:=by
 obtain⟨a1,b1,rfl⟩:∃a b,x = .tuple (.tuple a::b):=by
  unfold tt1 at t
  split at t
  .exact⟨_,_,rfl⟩
  .cases t
 obtain⟨a2,b2,rfl⟩:∃a b,y = .tuple (.tuple a::b):=by
  unfold tt1 at d
  split at d
  .exact⟨_,_,rfl⟩
  .cases d
 cases r1 with
 | tuple e c q z=>
  cases r with
  |tuple i p l j=>
   have m:A.units+(aav _+1)<cLine:=f;obtain⟨C,D⟩:=jZ (vX _) A s _ _ _ _ _ _ (Dl _) z j sm (by exact aa0 ‹_›);have k:Q (ltDs (.tuple a1::b1) _) s:=h;refine kat_lt e q i l (Aa k _ 0 ?_)
   grind
noncomputable def ordP(ds:List dL)(p:List Nat):Prop:=p.Perm (aaH ds.length)/\∀i j,i<j->j<ds.length->ltD (ds.getD (p.getD i 0) .none) (ds.getD (p.getD j 0) .none)=true
theorem m7{a:Addr}{vs:List mT}{P:PySem.Fin->oR->Prop}(ho:s.heap.get? a=some (aeD "list" vs.toArray n))(hr:RdL s.heap vs ds)(ok:SrtOk ds)(hT:TotF ds.length λi j=>ltD (ds.getD i .none) (ds.getD j .none))(hu:A.units+7<cLine)
  (h:∀p:List Nat,ordP ds p->P (.done (.ret .none)) {s with heap:=agw s.heap a vs (p.map λi=>vs.getD i .none).toArray}):wpAny (model prog w) A
  (acD.«list.sort» ⟨[.ref a],[]⟩) P E s:=by
 have l:=hr.len;have h64:=ok.n;rw[list_sort_plain];have F:(s.heap.update a (acH λ_=>#[])).get? a=some (aeD "list" #[] _):=get?_update_seq ho λ_=>#[];have f:(((s.heap.update a (acH λ_=>#[])).push (aeD "tuple" vs.toArray 0)).push (aeD "list" #[] 0)).get? a=some (aeD "list" #[] _):=Ad _ (Ad _ F);refine aD (listItems_at ho rfl (aD (ahd ho rfl (aD (seqEpoch_at F rfl (aD (m:=newTuple _) (afu (aD (m:=newList _) (wpAny_newList (abA ?_))))))))));have r6:RdL (((s.heap.update a (acH λ_=>#[])).push (aeD "tuple" vs.toArray 0)).push (aeD "list" #[] 0)) vs ds:=hr.keep (λb o e c=>by
  have hb:b≠a:=λz=>by
   rw[z,ho]at e;have Y:o.cls=agf "list":=by rw[<-aal e]
   rw[Y]at c;exact absurd c (by decide)
  refine Ad _ (Ad _ ?_);rw[adM _ _ _ _ hb];exact e) λd hd=>ok.sm d hd d hd
 generalize R:((s.heap.update a (acH λ_=>#[])).push (aeD "tuple" vs.toArray 0)).push (aeD "list" #[] 0)=y at f r6;have sH:agw s.heap a vs=λout=>agw s.heap a vs out:=rfl;change wpAny _ A _ P E ({s with heap:=y}:oR);dsimp only;have hsz:(vs.toArray:Array mT).size=vs.length:=aaw
 by_cases H:(vs.toArray:Array mT).size<2
 .rw[if_pos H,if_pos H];refine aD (AD ?_);rw[StateT.run_pure];refine aD (AD ?_);dsimp only;refine aD (seqEpoch_at f rfl ?_);refine aD (ahd f rfl ?_ (hsz2:=by rw[Array.size_map];show(pairsOf vs).size≤_;rw[pairsOf_size,aan];omega));simp only[if_false,adj,bne_self_eq_false];refine AD ?_;have t:=h (aaH ds.length) ⟨List.Perm.refl _,λi j x D=>by omega⟩;have eo:((aaH ds.length).map λi=>vs.getD i .none).toArray=(arrOf (SortSt.mk' general' (vs.toArray.zip vs.toArray) #[] 7 none)).map (·.2):=by
   show _=(vs.toArray.zip vs.toArray).map (·.2);apply Array.toList_inj.mp;rw[Array.toList_map,Array.toList_zip];refine acG λi=>?_
   by_cases I:i<vs.length
   .simp[acL,I,<-l]
   .simp[acL,I,<-l]
  rw[eo]at t;unfold agw at t;rw[R]at t;exact t
 .rw[if_neg H,if_neg H];obtain⟨q,eq,U,aq⟩:=GI hT (by omega);obtain⟨fs,V,k2,k3⟩:=yV r6 ok.tt;refine aD (kat_kind (s:={s with heap:=y}) (T:=.type "tuple") V (by omega) (λv W=>?_) rfl ?_)
  .obtain⟨b,o,rfl,J,c1⟩:=k3 v W;exact λA' Q' E' u kk q=>ac4 ⟨o,kk _ _ J,c1⟩ q
  rw[show(agf "tuple" != agf "tuple")=false by decide];refine aD (abP (kat_run (ks:=vs) (Q:=λr u=>q.size=vs.length/\arrOf r=q.map (kas_item (vs.toArray.zip vs.toArray))/\failedOf r=none/\u={s with heap:=y})
   (G:=λS u=>S=q/\u={s with heap:=y}) rfl (by omega) (by omega) (λS r u M O L z4=>by obtain⟨rfl,rfl⟩:=z4;exact⟨M,O,L,rfl⟩) ?_) ?_ λ_ _ e=>e)
  rotate_left
  .rintro⟨⟨⟩,r⟩ u ⟨M,O,L,rfl⟩;dsimp only;rw[kat_snds rfl O];refine aD (seqEpoch_at f rfl ?_);refine aD (ahd f rfl ?_ (hsz2:=by simp;rw[M,aan];omega));rw[L];simp only[if_false,adj,bne_self_eq_false];have t:=h q.toList ⟨U.pm,λi j x D=>by
    have J:∀k,k<ds.length->q.toList.getD k 0=pA q k:=λk Z=>by
     rw[aar,abU,c8 (by rw[U.sz];exact Z)];rfl
    rw[J i (by omega),J j D];exact aq i j x D⟩
   unfold agw at t;rw[R]at t;exact AD t
  .rw[l];refine yf (λi j C I D hC=>?_) _ q eq ⟨rfl,rfl⟩;have N:i<ds.length:=I;have K:j<ds.length:=D;obtain⟨as,r1⟩:=r6.get (i:=i) (by omega);obtain⟨bs,X⟩:=r6.get (i:=j) (by omega);have m1:ds.getD i .none∈ds:=by rw[bu (iO N)];exact abj _
   have m2:ds.getD j .none∈ds:=by rw[bu (iO K)];exact abj _
   exact RL (s:={s with heap:=y}) r1 X (ok.sm _ m1 _ m2) (ok.tt _ m1) (ok.tt _ m2) (by have:=ok.dp _ m1;omega) hC
end
section
variable {prog:aaB}{w:World}{A:aa4}{E:mT->oR->Prop}{s:oR}
theorem jb{v:mT}{C:aaM->List mT->Prop}{Q:mT->oR->Prop}(ok:SrtOk ds)(y:TotF ds.length λi j=>ltD (ds.getD i .none) (ds.getD j .none))(D:A.units+10<cLine)
  (f:∀(P:List mT->oR->Prop) (E:mT->oR->Prop),(∀h' vs,(∀b o,s.heap.get? b=some o->h'.get? b=some o)->RdL h' vs ds->C h' vs->P vs {s with heap:=h' })->wpAny (model prog w) A.in1 (collect v) P E s)
  (h:∀(a c:aaM) (vs:List mT) (p:List Nat) (L:Addr) (e:Nat),(∀b o,s.heap.get? b=some o->a.get? b=some o)->C a vs->RdL a vs ds->(∀b o,a.get? b=some o->c.get? b=some o)->L=a.objs.size->c.get? L=some (aeD "list" (p.map λi=>vs.getD i .none).toArray e)->ordP ds p->Q (.ref L) {s with heap:=c}) :
  wpAny (model prog w) A (call (.builtin "sorted") [v]) Q E s:=by
 refine Calls.call_function_entry kind_sorted plain_sorted entry_sorted (args:=_) (args_sorted1 v) ?_;refine aD (m:=checkCount "sorted" 1 1 _) (AD (aD (f _ _ λa vs l r1 t=>aD (m:=newList vs) (wpAny_newList ?_ (hsz:=by rw[r1.len,aan];have:=ok.n;omega)))));have at1:(a.push (aeD "list" vs.toArray 0)).get? a.objs.size=some (aeD "list" vs.toArray 0):=aaf _ rfl;have k:∀b o,a.get? b=some o->(a.push (aeD "list" vs.toArray 0)).get? b=some o:=λb o q=>Ad _ q;have r:=r1.keep (λb o q _=>k b o q) λd hd=>ok.sm d hd d hd;refine aD (m:=adw _ _) (abA (abP (aaI slot_list_sort ⟨_,at1,rfl⟩ entry_list_sort (m7 at1 r ok y (show A.units+1+1+7<cLine by exact aa0 ‹_›) λp hp=>⟨_,rfl,?_⟩) (args_list_sort _)) (λF u (q:Q (.ref a.objs.size) u)=>AD ⟨_,rfl,q⟩) λ_ _ z=>z));obtain⟨e,x⟩:=sortedHeap_at at1;exact h a _ vs p _ e l t r1 (λb o q=>by
  have lt:b<a.objs.size:=aaa q;rw[sortedHeap_old (aaG lt) (by rw[size_push'];exact aep lt)];exact k b o q) rfl x hp
end
theorem rg(h:aaM):h.get? h.objs.size=none:=by
 cases e:h.get? h.objs.size with
 |none=>rfl
 |some o=>exact(ac9 _ (aaa e)).elim
noncomputable def updR(H:Hp)(B:Addr)(g:Nat->HO):Nat->Hp
 |0=>H
 |n+1=>upd (updR H B g n) (B+n) (g n)
theorem iz{H:Hp}{B:Addr}{g:Nat->HO}{b:Addr}:∀{n:Nat},(∀j,j<n->b≠B+j)->updR H B g n b=H b
 |0,_=>rfl
 |n+1,h=>by
  show upd _ _ _ b=_;rw[ag (h n (abI n))];exact iz λj a=>h j (aep a)
theorem t6{H:Hp}{B:Addr}{g:Nat->HO}{j:Nat}:∀{n:Nat},j<n->updR H B g n (B+j)=some (g j)
 |0,h=>absurd h (Nat.not_lt_zero _)
 |n+1,h=>by
  by_cases e:j=n
  .subst e;exact ai
  .show upd _ _ _ _=_;rw[ag (λz=>e (ag7 z))];exact t6 (by omega)
section
variable {X:Cx}{pins:List (Addr×Obj)}{σ:List (Option V)}{H:Hp}{s:oR}{h':aaM}
theorem DJ(h:b<B):updR H B g n b=H b:=iz λj _=>aaG (aah h (acm _ _))
theorem cX{o:HO}(fr:∀j,H (B+j)=none)(h:H b=some o):updR H B g n b=some o:=by
 rw[iz λj _ z=>by rw[z,fr j]at h;cases h];exact h
theorem Inv.laidR{t':Nat}(I:Inv X pins σ H s)(k:∀b u,s.heap.get? b=some u->h'.get? b=some u)(hp:s.heap.objs.size≤B)(new:∀j,j<n->ObjOk X.prog X.w (updR H B g n) h' (B+j) (g j)) :
  Inv X pins σ (updR H B g n) {s with heap:=h',toks:=t' }:=by
 have fr:∀j,H (B+j)=none:=λj=>I.hok.fresh (aaj hp (acm _ _));refine I.un ⟨λb u q _ _ _=>k b u q,λb u q _ _ _=>⟨u.slots,k b u q⟩,λb u q n _=>?_,λb u q _=>⟨u,k b u q⟩,λb x q=>cX fr q,λb u x q=>cX fr q,λb ps q=>⟨#[],?_⟩⟩ λb u e=>?_
 .rw[DJ (aah (aaa q) hp)];exact n
 .rw[cX fr q];simp
 .by_cases hb:∃j,j<n/\b=B+j
  .obtain⟨j,h,rfl⟩:=hb;rw[t6 h]at e;rw[<-aal e];exact new j h
  .rw[iz λj h z=>hb ⟨j,h,z⟩]at e;exact(I.hok b u e).stay (λc v _ q=>k c v q) (λc q=>cX fr q) λc x q=>cX fr q
theorem sw{p:List Nat}(h:ordP ds p):(p.map λi=>ds.getD i .none).Perm ds/\(p.map λi=>ds.getD i .none).Pairwise λa b=>ltD a b=true:=by
 have k:p.length=ds.length:=by rw[h.1.length_eq,aa6]
 constructor
 .have e:(aaH ds.length).map (λi=>ds.getD i .none)=ds:=acG λi=>by
   by_cases d:i<ds.length
   .simp_all
   .simp_all
  have:=h.1.map λi=>ds.getD i .none;rwa[e]at this
 .refine abM.mpr λi j d f c=>?_;rw[gE]at d f;rw[aeH,aeH];have:=h.2 i j c (by omega);rwa[bu (iO d),bu (iO f)]at this
theorem vd(I:Inv X pins σ H s):∀{ds:List dL}{xs:List V}{u:List mT},(∀d∈ds,d.canLay0=true)->DenAll X.kx H ds xs->Vals xs u->RdL s.heap u ds
 |[],xs,u,_,g,r=>by
  subst g;cases r;trivial
 |d::ds,xs,u,hl,g,r=>by
  obtain⟨x,e,rfl,c,a⟩:=g
  cases r with
  |cons h t=>exact⟨Den.reads I (abo _ (hl d GE)) c h,vd I (λx f=>hl x (Ge _ f)) a t⟩
theorem SrtOk.lay(ok:SrtOk ds):∀d∈ds,d.canLay0=true:=λd hd=>(z6 (ok.sm d hd d hd)).1
structure SrtT(ds:List dL):Prop where
 ok:SrtOk ds
 tot:TotF ds.length λi j=>ltD (ds.getD i .none) (ds.getD j .none)
noncomputable def srtR(ds:List dL)(K:List dL->Prop):Prop:=SrtT ds/\∀d:List dL,d.Perm ds->d.Pairwise (λa b=>ltD a b=true)->K d
noncomputable def Jk:WC:=λrs m K=>on1 (onDc λk=>srtR (jJ k) λd=>K (.new d)) rs
theorem n6{K:Kd}{H:Hp}:∀{kvs:List (dL×dL)}{es:List (V×V)},PDc K H kvs es->DenAll K H (jJ kvs) (es.map (·.1))
 |_,_,.nil=>by simp only[jJ,agr,DenAll]
 |_,_,.cons h t=>by
  simp only[jJ,aau,DenAll];exact⟨_,_,rfl,h.1,n6 t⟩
theorem se:∀{xs:List V}{a:List mT},xs.length=a.length->(∀(j:Nat) (x:V) (u:mT),xs[j]?=some x->a[j]?=some u->RelV x u)->Vals xs a
 |[],[],_,_=>.nil
 |x::xs,u::a,hl,h=>.cons (h 0 x u rfl rfl) (se (by simpa using hl) λj x u c e=>h (j+1) x u ‹_› ‹_›)
 |[],_::_,hl,_=>(adg _ hl).elim
 |_::_,[],hl,_=>(adg _ hl.symm).elim
theorem j9(hc:X.calm=true)(hu:X.A.units+64<cLine):dn X (.builtin "sorted") (cM X.kx Jk):=by
 rintro pins s M H xs us Q I rv ⟨α,m,σ,H0,rs,Kc,Rl,h,ho,F⟩;obtain⟨r,v,rfl,rfl,A,ho⟩:=d6 h ho;obtain⟨G,a,o,w,rfl,dc,J,st,ho⟩:=JX A ho;obtain⟨u,rfl,ru⟩:=rv.one;cases ru;obtain⟨t,c,D,V,g2,g3,S⟩:=I.dce dc;have N:EntAt s.heap a c D:=⟨o,V,g2,g3⟩;have hl:w.length=c.size:=by have:=S.length;simpa using this
 have hkl:(jJ G).length=w.length:=by unfold jJ;rw[gE,J.length]
 have hn:=st.ok.n;refine jb (C:=λh vs=>s.heap.objs.size<h.objs.size/\Vals (w.map (·.1)) vs) st.ok st.tot (by omega) (λP E hP=>?_) λA h2 vs p L e k1 c1 r1 k2 hL K hp=>?_
 .refine lw (St:=λW i h=>EntAt h a c D/\r9 h W a i c.size D) (P:=λ_ _ i v=>∃hi:i<c.size,v=c[i].key) (n:=c.size) N.ty (.inr rfl) (by rw[aan];omega) (λs1 Q1 E1 hT q=>CB hT q) (λs1 Q1 E1 k0 ⟨oS,hS⟩ hq=>?_) λW h' f k z az pz=>?_
  .have lS:s.heap.objs.size<s1.heap.objs.size:=aaa hS;have U:a<s.heap.objs.size:=aaa V;have l:EntAt s1.heap a c D:=N.keep λo q=>k0 _ _ q;refine BX t l λh' Z O=>hq h' _ (aaX lS) (K6 (I.ok.hd hc) (aaG lS) (aaX U) (aaX (aax U lS))) ⟨l.keep λo q=>O _ _ q,Z⟩ O ?_;exact rg _
  .have hv:Vals (w.map (·.1)) f.toList:=se (by have z1:f.toList.length=f.size:=ab9;rw[gE,z1,az,hl]) λj x u R T=>by
    rw[aae]at R;obtain⟨ev,e3,rfl⟩:=adn.mp R;rw[abU]at T;obtain⟨hj,rfl⟩:=pz j u T;obtain⟨ev',Y,e5,_⟩:=Paired.at S (i:=j) (y:=c[j]) (by simp[hj]);rw[e3]at Y;rw[aal Y];exact e5
   have I':Inv X pins M H {s with heap:=h' }:=I.kept (t':=s.toks) k;exact hP h' f.toList k (vd I' st.ok.lay (n6 J) hv) ⟨z,hv⟩
 .obtain⟨z,hv⟩:=c1;subst hL;have d:H A.objs.size=none:=I.hok.fresh (aa0 z);have hpl:p.length=c.size:=by have:=hp.1.length_eq;rw[aa6]at this;omega
  obtain⟨o1,o2⟩:=sw hp;refine⟨.ref A.objs.size,_,I.laid (t':=s.toks) (λb o q=>k2 b o (k1 b o q)) (aa0 z) (show ObjOk X.prog X.w _ _ _ (.lst (p.map λi=>(w.map (·.1)).getD i .non))from⟨by rw[gE,aan];omega,_,e,ij hv p,by rw[K]⟩),rfl,?_⟩;exact F _ _ _ (ho _ o1 o2) (Rl.lay d) ⟨_,_,rfl,d,ai,(jD (n6 J) p).mono (bf (.inl d))⟩ (cf d)
theorem pK{K:Kd}{H:Hp}:∀{ds:List dL}{xs:List V},ds.length=xs.length->(∀(j:Nat) (d:dL) (x:V),ds[j]?=some d->xs[j]?=some x->Den K H d x)->DenAll K H ds xs
 |[],[],_,_=>by simp[DenAll]
 |d::ds,x::xs,hl,h=>by
  exact⟨x,xs,rfl,h 0 d x rfl rfl,pK (by simpa using hl) λj d x a e=>h (j+1) d x ‹_› ‹_›⟩
 |[],_::_,hl,_=>(adg _ hl).elim
 |_::_,[],hl,_=>(adg _ hl.symm).elim
theorem zm{H:Hp}(fr:∀j,H (B+j)=none)(n:Nat):Pers H (updR H B g n):=⟨λb x q=>cX fr q,λb o u q=>cX fr q⟩
noncomputable def itmG(es:List (V×V))(j:Nat):HO:=.tup [(es.getD j (.non,.non)).1,(es.getD j (.non,.non)).2]
noncomputable def pC(B:Addr)(n:Nat):List V:=(aaH n).map λj=>.ref (B+j)
theorem pI{K:Kd}{H:Hp}{kvs:List (dL×dL)}{es:List (V×V)}(fr:∀j,H (B+j)=none)(i:PDc K H kvs es):DenAll K (updR H B (itmG es) es.length) (b9 kvs) (pC B es.length):=by
 have k:=zm (g:=itmG es) fr es.length;refine pK (by unfold b9 pC;rw[gE,gE,aa6,i.length]) λj d x c a=>?_;unfold b9 at c;rw[aae]at c;obtain⟨p,q,rfl⟩:=adn.mp c;obtain⟨f,l,t,r⟩:=Paired.at1 i q;have h:=(Io.mp l).1;unfold pC at a;rw[aae,acL h]at a;have e:=aal a;subst e;have m:itmG es j = .tup [f.1,f.2]:=by unfold itmG;rw[bu l]
 exact cF (SqT.of ((t6 h).trans (by rw[m]))) (DenAll.cons (t.mono k) (DenAll.cons (r.mono k) DenAll.nil))
noncomputable def QF(K:Kd)(to:TE):TE:=λσ H Q=>to σ H λx c=>∃a o f k,x = .ref a/\DcE c a o f/\PDc K c k f/\SrtT (b9 k)/\∀(d:List dL) (B:Addr) (g:Nat->HO) (n:Nat) (L:Addr) (e:List V),d.Perm (b9 k)->d.Pairwise (λa b=>ltD a b=true)->(∀j,c (B+j)=none)->updR c B g n L=none->DenAll K (upd (updR c B g n) L (.lst e)) d e->Q (.ref L) (upd (updR c B g n) L (.lst e))
theorem G9{p0:Pos}{to:TE}(hc:X.calm=true)(hu:X.A.units+64<cLine)(hg:Gl X "sorted")(hm:X.mg "sorted" = none)(ho:PE X o to)(A:abg o "items" X.env (eval o X.env)=eval o X.env:=by rfl)(D:(apos.endLine==cpos.line)=true:=by rfl)
  (J:aad [.Call (.Attribute o "items" apos) [] [] cpos] X.env=[(false,eval (.Call (.Attribute o "items" apos) [] [] cpos) X.env)]:=by rfl):PE X (.Call (.Name "sorted" p0) [.Call (.Attribute o "items" apos) [] [] cpos] [] pos) (QF X.kx to):=by
 intro pins s σ H Q I h;refine acW (ls I hg hm iE ?_);refine aeB ?_ J rfl;rw[J];refine ahf ?_;refine aef A D (thn (ho pins s σ H _ I h) λv s1 ⟨x,S,I1,r1,q1⟩=>?_);obtain⟨a,ob,m,kvs,rfl,dc,pd,st,q⟩:=q1;cases r1;obtain⟨G,c,Y,W,g2,g3,g4⟩:=I1.dce dc;have he:EntAt s1.heap a c Y:=⟨ob,W,g2,g3⟩;refine⟨"dict","dict.items",aeh,aei,agc,⟨ob,W,g2.1⟩,λb e=>by cases e;exact⟨ob,W,g2.2.1⟩,acQ rfl (afe (lQ G he ?_))⟩;refine ahr ?_;have kv:∀b o,s1.heap.get? b=some o->(s1.heap.push {cls:=.type "dict_items",data:=.fields #[.ref a]}).get? b=some o:=λb o q=>Ad _ q;have hl:m.length=c.size:=by have:=g4.length;simpa using this
 have hil:(b9 kvs).length=m.length:=by unfold b9;rw[gE,pd.length]
 have hn:=st.ok.n;have V:Inv X pins σ S {s1 with heap:=s1.heap.push {cls:=.type "dict_items",data:=.fields #[.ref a]} }:=I1.kept (t':=s1.toks) kv;have r:(s1.heap.push {cls:=.type "dict_items",data:=.fields #[.ref a]}).get? s1.heap.objs.size=some {cls:=.type "dict_items",data:=.fields #[.ref a]}:=aaf _ rfl;have R:EntAt (s1.heap.push {cls:=.type "dict_items",data:=.fields #[.ref a]}) a c Y:=he.keep λo q=>kv _ _ q;have la:a<s1.heap.objs.size:=aaa W;generalize hS2:({s1 with heap:=s1.heap.push {cls:=.type "dict_items",data:=.fields #[.ref a]} }:oR)=s2 at V⊢;have hh2:s2.heap=s1.heap.push {cls:=.type "dict_items",data:=.fields #[.ref a]}:=by rw[<-hS2]
 rw[<-hh2]at r R;have lv:s1.heap.objs.size<s2.heap.objs.size:=aaa r;have lay:∀(h':aaM) (d:Addr),(∀b o,s2.heap.get? b=some o->h'.get? b=some o)->s2.heap.objs.size≤d+1->(∀j (w:j<c.size),h'.get? (d+1+j)=some {cls:=.type "tuple",data:=.seq #[c[j].key,c[j].val]})->Inv X pins σ (updR S (d+1) (itmG m) m.length) {s2 with heap:=h' }:=λh' d k z tp=>by
  refine V.laidR (t':=s2.toks) k z λj w=>?_;obtain⟨ev,t,T,N⟩:=Paired.at g4 (i:=j) (y:=c[j]) (by simp[show j<c.size by omega]);have eg:itmG m j = .tup [ev.1,ev.2]:=by unfold itmG;rw[bu t]
  rw[eg];exact⟨by show 2≤aag;rw[aan];decide,[c[j].key,c[j].val],.cons T (.cons N .nil),⟨_,tp j (by omega),rfl,rfl,_,rfl⟩⟩
 have O:∀(d:Addr) (f:Array mT),f.size=c.size->(∀(j:Nat) u,f[j]?=some u->u = .ref (d+1+j))->Vals (pC (d+1) m.length) f.toList:=λd f az ar=>se (by have z1:f.toList.length=f.size:=ab9;unfold pC;rw[gE,aa6,z1,az,hl]) λj x u t T=>by
  unfold pC at t;rw[aae]at t;obtain⟨j',N,rfl⟩:=adn.mp t;have M:j<m.length:=by have:=(Io.mp N).1;rwa[aa6]at this
  rw[acL M]at N;rw[abU]at T;rw[ar j u T,aal N];exact rfl
 have fr:∀(d:Addr),s2.heap.objs.size≤d+1->∀j,S (d+1+j)=none:=λd z j=>V.hok.fresh (aaj z (acm _ _));refine jb (s:=s2) (C:=λh vs=>∃d:Addr,s2.heap.objs.size≤d+1/\(∀j (w:j<c.size),h.get? (d+1+j)=some {cls:=.type "tuple",data:=.seq #[c[j].key,c[j].val]})/\Vals (pC (d+1) m.length) vs) st.ok st.tot (by omega) (λP E hP=>?_) ?_
 .refine lw (St:=λd=>StI s2.heap.objs.size d a c Y) (P:=λd=>PrI s2.heap.objs.size d c) (n:=c.size) ⟨_,r,rfl⟩ (.inl rfl) (by rw[aan];omega) (λs3 Q3 E3 hT q=>xq hT q) (λs3 Q3 E3 k0 ⟨oS,hS⟩ hq=>?_) λd h' f k zz az pz=>?_
  .have lS:s2.heap.objs.size<s3.heap.objs.size:=aaa hS;have K:EntAt s3.heap a c Y:=R.keep λo q=>k0 _ _ q;refine Cv (k0 _ _ r) K λh' Z sz hk=>hq h' _ (aaX lS) (Ic (V.ok.hd hc) lS (aaX (aax la lv)) (aaX (aax la (aax lv lS)))) ⟨K.keep λo q=>hk _ _ q,sz,.inl ⟨_,_,Z⟩⟩ hk (rg _)
  .obtain⟨l,z',tp',ar'⟩:∃l:Addr,s2.heap.objs.size≤l+1/\(∀j (w:j<c.size),h'.get? (l+1+j)=some {cls:=.type "tuple",data:=.seq #[c[j].key,c[j].val]})/\∀(j:Nat) u,f[j]?=some u->u = .ref (l+1+j):=by
    by_cases e0:c.size=0
    .exact⟨s2.heap.objs.size,agJ _,λj w=>by omega,λj u e=>by have:=(abu.mp e).1;omega⟩
    .have get:∀j,j<c.size->∃u,f[j]?=some u:=λj w=>⟨_,acg (show j<f.size by omega)⟩;obtain⟨u0,t⟩:=get 0 (by omega);have l0:=(pz 0 u0 t).1;refine⟨d,aa0 (aep l0),λj w=>?_,λj u e=>(pz j u e).2.1⟩;obtain⟨u,e⟩:=get j w;obtain⟨_,_,M,q⟩:=pz j u e;exact q
   have U:=O l f az ar';have I':=lay h' l k z' tp';exact hP h' f.toList k (vd I' st.ok.lay (pI (fr l z') pd) U) ⟨l,z',tp',U⟩
 .rintro h1 h2 vs p L e k1 ⟨d,z,tp,U⟩ r1 k2 hL hl2 hp;subst hL;have I3:=lay h1 d k1 z tp;have F:updR S (d+1) (itmG m) m.length h1.objs.size=none:=I3.hok.fresh (Dl _);obtain⟨o1,o2⟩:=sw hp;have hpl:p.length=c.size:=by have:=hp.1.length_eq;rw[aa6]at this;omega
  exact⟨.ref h1.objs.size,_,I3.laid (t':=s2.toks) k2 (Dl _) (show ObjOk X.prog X.w _ _ _ (.lst (p.map λi=>(pC (d+1) m.length).getD i .non))from⟨by rw[gE,aan];omega,_,e,ij U p,by rw[hl2]⟩),rfl,q _ _ _ _ _ _ o1 o2 (fr d z) F ((jD (pI (fr d z) pd) p).mono (bf (.inl F)))⟩
theorem Bu{H:Hp}(fr:∀j,H (B+j)=none)(h:updR H B g n b=none):H b=none:=by
 cases e:H b with
 |none=>rfl
 |some o=>rw[cX fr e]at h;cases h
theorem Rel.layR{K:Kx}{a:Al}{m:MSt}{σ:St}{H:Hp}{B:Addr}{g:Nat->HO}(R:Rel K a m σ H)(fr:∀j,H (B+j)=none):∀n,Rel K a m σ (updR H B g n)
 |0=>R
 |n+1=>(Rel.layR R fr n).lay (by rw[iz λj h z=>aaX h (ag7 z)];exact fr n)
theorem CZ{a:Al}{H:Hp}(fr:∀j,H (B+j)=none)(n:Nat):Frm a H (updR H B g n):=λb o e _=>cX fr e
noncomputable def yi(wo:WE):WE:=λm K=>wo m λr a=>onDc (λk=>srtR (b9 k) λd=>K (.new d) a) r
theorem FC{p0:Pos}(q:X.A.units+64<cLine)(t:X.mg "sorted" = none)(ho:ME X o wo)(K:X.calm=true:=by rfl)(y:Gl X "sorted":=by rfl)(c:abg o "items" X.env (eval o X.env)=eval o X.env:=by rfl)(h:(apos.endLine==cpos.line)=true:=by rfl)
  (e:aad [.Call (.Attribute o "items" apos) [] [] cpos] X.env=[(false,eval (.Call (.Attribute o "items" apos) [] [] cpos) X.env)]:=by rfl):ME X (.Call (.Name "sorted" p0) [.Call (.Attribute o "items" apos) [] [] cpos] [] pos) (yi wo):=(G9 K q y t ho c h e).wk<|by
 rintro σ H Q ⟨w,m,M,J,G,i⟩;refine⟨w,m,_,J,G,λr I v N k n R rr F=>?_⟩;obtain⟨f,a,ob,u,rfl,dc,A,st,k⟩:=JX rr k;refine⟨a,ob,u,f,rfl,dc,A,st,λj B g p L x C E fr d l=>?_⟩;have z:=Rel.layR (g:=g) R fr p;have D:=F.trans (CZ (g:=g) fr p);exact i _ I _ _ (k j C E) n (z.lay d) (RelR.base R F (⟨L,x,rfl,Bu fr d,ai,l⟩)) (D.trans (cf d))
theorem BU{p0:Pos}(e:X.A.units+64<cLine)(f:X.mg "sorted" = none)(ho:EE X o wo)(i:X.calm=true:=by rfl)(d:Gl X "sorted":=by rfl)(h:abg o "items" X.env (eval o X.env)=eval o X.env:=by rfl)(a:(apos.endLine==cpos.line)=true:=by rfl)
  (c:aad [.Call (.Attribute o "items" apos) [] [] cpos] X.env=[(false,eval (.Call (.Attribute o "items" apos) [] [] cpos) X.env)]:=by rfl):EE X (.Call (.Name "sorted" p0) [.Call (.Attribute o "items" apos) [] [] cpos] [] pos) (yi wo):=⟨FC e f ho.h i d h a c⟩
theorem GV{m:MSt}{K:R->MSt->Prop}(h:wo m λr a=>onDc (λkvs=>srtR (b9 kvs) λds'=>K (.new ds') a) r):yi wo m K:=h
theorem Aw{m:MSt}{r:R}{K:R->Prop}(h:onDc (λkvs=>srtR (jJ kvs) λds'=>K (.new ds')) r):Jk [r] m K:=h
end
end L2
namespace K
open PySem L2 M7
variable{p q y:Pt}{α:Type}{a b:Pt×Int}{A W:List (Pt×Int)}{enc:Pt×Int->dL}{h:Hall}{r:Rule}
noncomputable def lexN:List Nat->List Nat->Bool
 |x::xs,y::ys=>if x=y then lexN xs ys else decide (x<y)
 |_,_=>false
noncomputable def ltP(p q:Pt):Bool:=if p.1=q.1 then decide (p.2<q.2)else lexN p.1 q.1
theorem uy:∀a:List Nat,lexN a a=false
 |[]=>rfl
 |x::xs=>by show(if x=x then lexN xs xs else _)=false;rw[if_pos rfl];exact uy xs
theorem yW:∀{a b c:List Nat},a.length=b.length->b.length=c.length->lexN a b=true->lexN b c=true->lexN a c=true
 |[],[],_,_,_,h,_=>by cases h
 | x::a,y::b,z::c,h1,h2,h,h'=>by
  have f:(if x=y then lexN a b else decide _)=true:=h;have d:(if y=z then lexN b c else decide _)=true:=h';show(if x=z then lexN a c else decide _)=true
  by_cases g:x=y
  .subst g;rw[if_pos rfl]at f
   by_cases e:x=z
   .rw[if_pos e]at d⊢;exact yW (by simpa using h1) (by simpa using h2) f d
   .rw[if_neg e]at d⊢;exact d
  .grind
theorem uF:∀{a b:List Nat},a.length=b.length->a≠b->lexN a b=true\/lexN b a=true
 |[],[],_,h=>(h rfl).elim
 | x::a,y::b,hl,h=>by
  show(if x=y then lexN a b else decide _)=true\/(if y=x then lexN b a else decide _)=true
  by_cases e:x=y
  .subst e;rw[if_pos rfl,if_pos rfl];exact uF (by simpa using hl) λz=>h (by rw[z])
  .rw[if_neg e,if_neg (aa5 e)];rcases ad7 e with z|z
   .exact .inl (decide_eq_true z)
   .exact .inr (decide_eq_true z)
theorem Jn{r:Pt}(f:p.1.length=q.1.length)(g:q.1.length=r.1.length)(a:ltP p q=true)(b:ltP q r=true):ltP p r=true:=by
 unfold ltP at *
 by_cases c:p.1=q.1
 .rw[if_pos c]at a;rw[c]
  by_cases e:q.1=r.1
  .grind
  .rw[if_neg e]at b⊢;exact b
 .rw[if_neg c]at a
  by_cases e:q.1=r.1
  .rw[<-e,if_neg c];exact a
  .rw[if_neg e]at b;have t:=yW f g a b
   by_cases d:p.1=r.1
   .rw[d,uy]at t;cases t
   .rw[if_neg d];exact t
theorem LW(c:p.1.length=q.1.length)(h:p≠q):ltP p q=true\/ltP q p=true:=by
 unfold ltP
 by_cases e:p.1=q.1
 .rw[if_pos e,if_pos e.symm];have:=λz=>h (Prod.ext e z);rcases ad7 this with z|z
  .exact .inl (decide_eq_true z)
  .exact .inr (decide_eq_true z)
 .rw[if_neg e,if_neg (aa5 e)];exact uF c e
theorem nG(p:Pt):ltP p p=false:=by unfold ltP;simp_all
theorem AM:∀{a b:List Nat},a.length=b.length->ltDs (natD a) (natD b)=lexN a b
 |[],[],_=>rfl
 |x::a,y::b,h=>by
  show(if aak _ _=true then ltDs (natD a) (natD b)else decide _)=if x=y then lexN a b else decide _;rw[dW,AM (by simpa using h)];simp
theorem zw(h:p.1.length=q.1.length):ltD (ptD p) (ptD q)=ltP p q:=by
 show(if aak _ _=true then(if aak _ _=true then ltDs [] []else decide _)else ltDs _ _)=_;rw[UK,dW,AM h];unfold ltP
 by_cases e:p.1=q.1
 .rw[if_pos e,if_pos (decide_eq_true e)]
  by_cases c:p.2=q.2
  .rw[if_pos (decide_eq_true c)];exact(decide_eq_false (by omega)).symm
  .simp_all
 .simp_all
noncomputable def itD(f:Int->dL)(p:Pt×Int):dL:=.tuple [ptD p.1,f p.2]
theorem OI{f:Int->dL}{p q:Pt×Int}(h:p.1.1.length=q.1.1.length)(c:p.1≠q.1):ltD (itD f p) (itD f q)=ltP p.1 q.1:=by
 show(if aak _ _=true then _ else ltD _ _)=_;rw[fJ,if_neg (by rw[decide_eq_false c];decide),zw h]
theorem qv{α:Type}{lt:α->α->Bool}(i:∀a,lt a a=false):∀{l m:List α},l.Perm m->l.Pairwise (λa b=>lt a b=true)->m.Pairwise (λa b=>lt a b=true)->(∀a∈l,∀b∈l,lt a b=true->lt b a=false)->l=m
 |[],m,p,_,_,_=>p.nil_eq
 | a::l,m,p,h1,h2,asy=>by
  cases m with
  |nil=>exact(adg _ p.length_eq.symm).elim
  | cons b m=>
   have c:=afr.mp h1;have d:=afr.mp h2;have e:a=b:=by
    have hb:=p.mem_iff.mpr GE;have ha:=p.mem_iff.mp GE;rcases aai.mp hb with z|z
    .exact z.symm
    .rcases aai.mp ha with y|y
     .exact y
     .have l1:=c.1 b z;have f:=d.1 a y;rw[asy a GE b hb l1]at f
      grind
   subst e;rw[qv i (List.Perm.cons_inv p) c.2 d.2 λx g y j=>asy x (Ge _ g) y (Ge _ j)]
theorem qT{β:Type}{f:α->β}{z l:List β}(p:z.Perm l):∀{m:List α},z=m.map f->∃g:List α,g.Perm m/\l=g.map f:=by
 induction p with
 |nil=>intro m e;exact⟨m,.refl _,e⟩
 | cons a p k=>
  intro m e
  cases m with
  |nil=>cases e
  |cons b m=>
   injection e with d c
   obtain⟨g,t,s⟩:=k c;exact⟨b::g,t.cons b,by rw[aau,d,s]⟩
 | swap a b l=>
  intro m e
  cases m with
  |nil=>cases e
  | cons x m=>
   cases m with
   |nil=>cases e
   |cons y m=>
    injection e with d c
    injection c with c e3
    exact⟨y::x::m,.swap _ _ _,by rw[aau,aau,d,c,e3]⟩
 |trans u v j i=>
  intro m e;obtain⟨m1,o,d⟩:=j e;obtain⟨m2,n,c⟩:=i d;exact⟨m2,n.trans o,c⟩
noncomputable def gC(D:Int)(W:List (Pt×Int)):dL:=.tuple (W.map λq=>.tuple [ptD q.1,nf q.2 D])
structure Srd(W W':List (Pt×Int)):Prop where
 p:W'.Perm W
 o:W'.Pairwise λa b=>ltP a.1 b.1=true
structure WOk(h:Hall)(r:Rule)(W:List (Pt×Int)):Prop where
 st:∀p∈W,St h r p.1.1 p.1.2
 kd:(W.map (·.1)).Nodup
 n:W.length<64
 v:∀p∈W,p.2.natAbs<10^76
section
variable {h:Hall}{r:Rule}{W:List (Pt×Int)}
theorem WOk.ln(X:WOk h r W)(ha:a∈W)(hb:b∈W):a.1.1.length=b.1.1.length:=((X.st a ha).ln.1).trans ((X.st b hb).ln.1).symm
theorem IE{i j:Nat}(nd:(W.map (·.1)).Nodup)(d:W[i]?=some a)(c:W[j]?=some b)(h:i≠j):a.1≠b.1:=by
 have key:∀{i j:Nat}{a b:Pt×Int},W[i]?=some a->W[j]?=some b->i<j->a.1≠b.1:=λ{i j a b} d c f=>by
  obtain⟨g,k⟩:=Io.mp d;obtain⟨l,eb⟩:=Io.mp c;have:=abM.mp nd i j (by simp_all) (by simp_all) f
  simp_all
 rcases ad7 h with z|z
 .exact key d c z
 .exact λe=>key c d z e.symm
theorem tQ(nd:(W.map (·.1)).Nodup)(ha:a∈W)(hb:b∈W)(e:a.1=b.1):a=b:=by
 obtain⟨i,d⟩:=acB ha;obtain⟨j,f⟩:∃j,W[j]?=some b:=acB hb
 by_cases c:i=j
 .simp_all
 .exact(IE nd d f c e).elim
theorem Srd.uniq{B:List (Pt×Int)}(X:WOk h r W)(a:Srd W A)(b:Srd W B):A=B:=
 qv (lt:=λa b=>ltP a.1 b.1) (λa=>nG _) (a.p.trans b.p.symm) a.o b.o λx d y f l=>by
  have c:=a.p.mem_iff.mp d;have m:=a.p.mem_iff.mp f
  cases e:ltP y.1 x.1 with
  |false=>rfl
  |true=>
   have t:=Jn (X.ln c m) (X.ln m c) l e;rw[nG]at t;cases t
structure EncP(W:List (Pt×Int))(enc:Pt×Int->dL):Prop where
 lt:∀a∈W,∀b∈W,a.1≠b.1->ltD (enc a) (enc b)=ltP a.1 b.1
 ir:∀a,ltD (enc a) (enc a)=false
 sm:∀a∈W,∀b∈W,smD (enc a) (enc b)=true
 tt:∀a,tt1 (enc a)=true
 dp:∀a∈W,(enc a).depth≤7
theorem EncP.srt(X:WOk h r W)(E:EncP W enc):SrtT (W.map enc):=by
 have get:∀i,i<W.length->∃a,W[i]?=some a/\a∈W/\(W.map enc).getD i .none=enc a:=λi C=>by
  have e:=iO C;exact⟨_,e,DL e,bu (by rw[aae,e];rfl)⟩
 refine⟨⟨by rw[gE];exact X.n,λx f y B=>?_,λx f=>?_,λx f=>?_⟩,⟨λa b c ha hb u=>?_,λa b ha hb ne=>?_⟩⟩
 .obtain⟨a,ha,rfl⟩:=aac.mp f;obtain⟨b,hb,rfl⟩:∃b,b∈W/\enc b=y:=aac.mp B;exact E.sm a ha b hb
 .obtain⟨a,ha,rfl⟩:=aac.mp f;exact E.tt a
 .obtain⟨a,ha,rfl⟩:=aac.mp f;exact E.dp a ha
 .rw[gE]at ha hb u;obtain⟨x,ex,d,k⟩:=get a ha;obtain⟨y,s,m,o⟩:=get b hb;obtain⟨z,D,g,v⟩:=get c u;rw[k,o,v];intro j l;have n1:x.1≠y.1:=λe=>by rw[tQ X.kd d m e,E.ir]at j;cases j
  have n2:y.1≠z.1:=λe=>by rw[tQ X.kd m g e,E.ir]at l;cases l
  rw[E.lt x d y m n1]at j;rw[E.lt y m z g n2]at l;have t:=Jn (X.ln d m) (X.ln m g) j l;have w:x.1≠z.1:=λe=>by rw[e,nG]at t;cases t
  rw[E.lt x d z g w];exact t
 .rw[gE]at ha hb;obtain⟨x,ex,d,k⟩:=get a ha;obtain⟨y,s,m,o⟩:=get b hb;rw[k,o];have n:=IE X.kd ex s ne;rw[E.lt x d y m n,E.lt y m x d (aa5 n)];exact LW (X.ln d m) n
theorem EncP.srd(X:WOk h r W)(E:EncP W enc){ds':List dL}(p:ds'.Perm (W.map enc))(o:ds'.Pairwise λa b=>ltD a b=true):∃c,Srd W c/\ds'=c.map enc:=by
 obtain⟨c,d,e⟩:=qT p.symm rfl;refine⟨c,⟨d,?_⟩,e⟩;rw[e]at o;refine(aev.mp o).imp_of_mem λ{a b} ha hb l=>?_;have f:=d.mem_iff.mp ha;have m:=d.mem_iff.mp hb;have n:a.1≠b.1:=λe=>by rw[tQ X.kd f m e,E.ir]at l;cases l
 rwa[E.lt a f b m n]at l
theorem Af:∀{a b:List Nat},a.length=b.length->smDs (natD a) (natD b)=true
 |[],[],_=>rfl
 |x::a,y::b,e=>by
  show(true&&smDs (natD a) (natD b))=true;rw[Af (by simpa using e)];rfl
theorem Su(e:p.1.length=q.1.length):smD (ptD p) (ptD q)=true:=by
 show(smDs _ _&&(true&&true))=true;rw[Af e];rfl
theorem rB{l:List Nat}{t:Nat}(ho:h.Ok)(S:St h r l t):Fine 200 2 (stD l t):=by
 have n4:=ho.n4;have g:=S.ln.1;have ts:=S.ts;refine(c5 (n:=63) (k:=1) (λd hd=>?_) (Dl 2)).mono (by decide) (by decide);rcases aai.mp hd with e|e
 .rw[e];exact yh (c:=4) (by omega) λx f=>by
   have:=S.ln.le ho x f;omega
 .rw[OR.mp e];exact(vp (by omega)).mono (by decide) (by decide)
theorem po(ho:h.Ok)(X:WOk h r W):EncP W λp=>ptD p.1:=
 ⟨λa ha b hb _=>zw (X.ln ha hb),λa=>by rw[zw rfl];exact nG _,λa ha b hb=>Su (X.ln ha hb),λa=>rfl,λa ha=>aaj (rB ho (X.st a ha)).dp (by decide)⟩
theorem QG(ho:h.Ok)(X:WOk h r W):EncP W (itD .int):=by
 refine⟨λa ha b hb n=>OI (X.ln ha hb) n,λa=>?_,λa ha b hb=>?_,λa=>rfl,λa ha=>?_⟩
 .show(if aak (ptD a.1) _=true then(if aak (.int a.2) _=true then false else decide _)else _)=false;rw[fJ,if_pos (decide_eq_true rfl),decide_eq_false (Int.lt_irrefl a.2)]
  split<;>rfl
 .show(smD _ (ptD b.1)&&_)=true;rw[Su (X.ln ha hb)];rfl
 .refine aaj (c5 (n:=200) (k:=2) (c:=2) (ds:=[ptD a.1,.int a.2]) (λd hd=>?_) (Dl 2)).dp (by decide);rcases aai.mp hd with e|e
  .rw[e];exact rB ho (X.st a ha)
  .rw[OR.mp e];exact(lb (aax (X.v a ha) (by decide))).mono (by decide) (by decide)
theorem FJ(W:List (Pt×Int)):b9 (kvA ptD W)=W.map (itD .int):=by
 unfold b9 kvA itD;rw[aaD];rfl
theorem Oi(D:Int)(W:List (Pt×Int)):jJ (shD D W)=W.map λp=>ptD p.1:=by
 unfold jJ shD kvG;rw[aaD];rfl
theorem BC{D:Int}(ho:h.Ok)(X:WOk h r W){f:List (Pt×Int)}(s:Srd W f)(h0:0<D)(i:D.natAbs<10^76):Fine 50000 4 (gC D f):=by
 have n:=X.n;have e:=s.p.length_eq;refine Fine.mono (n':=50000) (k':=4) (c5 (n:=607) (k:=3) (c:=64) (ds:=f.map λq=>.tuple [ptD q.1,nf q.2 D]) (λd hd=>?_) (by rw[gE];omega)) (by decide) (by decide);obtain⟨q,g,rfl⟩:∃q,q∈f/\_=d:=aac.mp hd;have m:=s.p.mem_iff.mp g;refine Fine.mono (n':=607) (k':=3) (c5 (n:=300) (k:=2) (c:=2) (ds:=[ptD q.1,nf q.2 D]) (λd hd=>?_) (Dl 2)) (by decide) (by decide);rcases aai.mp hd with e|e
 .rw[e];exact(rB ho (X.st q m)).mono (by decide) (by decide)
 .rw[OR.mp e];exact(JO h0 (X.v q m) i).mono (by decide) (by decide)
end
noncomputable def lv(h:Hall)(r:Rule)(p:Pt):List (Pt×Int):=([(p,(1:Int))].foldl (goW h r (msL h)) ([],[])).1
theorem Qv{h:Hall}{r:Rule}(ho:h.Ok)(hr:r.Ok h){p:Pt}(hp:St h r p.1 p.2)(w:Int):∀{M:Ms}{n:Nat}{x:List (Pt×Int)×List (Wd×Int)},(∀q∈M,q.1.Ok h)->GoOk h r n x->GoOk h r (n+M.length) (M.foldl (λx q=>goW1 h r p w q x) x)
 |[],n,x,_,X=>X
 |q::M,n,x,hM,X=>by
  have:=Qv ho hr hp w (λz c=>hM z (Ge _ c)) (X.next ho hr hp w (hM q GE));rw[aaz,ahE M.length 1,<-aeM];exact this
theorem zl{l:List Nat}{t:Nat}(D:DuOk h r 1)(S:St h r l t):WOk h r (lv h r (l,t))/\∀p∈lv h r (l,t),0≤p.2/\p.2≤(botH h:Int):=by
 obtain⟨i,m⟩:=Gm D.ho;have G:=Qv D.ho D.hr (p:=(l,t)) S 1 (M:=msL h) (n:=0) (x:=([],[])) (λq f=>(m q f).1) ⟨λ_ hp=>(by cases hp),Dl _,Dl _⟩;have c:=(u6 D.ho D.h0 r (W:=[((l,t),(1:Int))]) (x:=([],[])) (λz g=>by rw[OR.mp g];show(0:Int)≤1;decide) ⟨λ_ hp=>(by cases hp),λ_ hp=>(by cases hp)⟩).1;have sm:=(vE (h:=h) (r:=r) (W:=[((l,t),(1:Int))]) (x:=([],[]))).1;have e:=uz D.ho D.h0;have le:=(fM c).2;rw[sm,e]at le;have d:∀p∈lv h r (l,t),p.2≤(botH h:Int):=λp hp=>by
  refine ahB (le p hp) (Int.le_of_eq ?_);show(0:Int)+(1+0)*(botH h:Int)=_;simp
 have b:botH h<10^66:=by have:=D.b;rwa[ahV]at this
 refine⟨⟨G.st,uj (by simp),?_,λp hp=>?_⟩,λp hp=>⟨c p hp,d p hp⟩⟩
 .have:=G.n1;exact aas this (by omega)
 .have h1:=c p hp
  grind
noncomputable def x8:SpM:=λd K=>∃(h:Hall) (r:Rule) (W:List (Pt×Int)) (D:Nat),d=[.imm (wtD W),.imm (.int (D:Int))]/\h.Ok/\WOk h r W/\0<D/\D<10^76/\∀c,Srd W c->K (.imm (gC (D:Int) c)) []
noncomputable def nr:SpM:=λd K=>∃(h:Hall) (r:Rule) (l:List Nat) (t:Nat),d=[.imm h.d,.imm r.d,.imm (stD l t)]/\DuOk h r 1/\St h r l t/\∀c,Srd (lv h r (l,t)) c->K (.imm (gC (botH h:Int) c)) []
noncomputable def sumF{α:Type}(f:α->Int)(L:List (α×Int)):Int:=(L.map λp=>p.2*f p.1).sum
theorem gl(f:α->Int):sumF f []=0:=rfl
theorem aV(f:α->Int)(p:α×Int)(L:List (α×Int)):sumF f (p::L)=p.2*f p.1+sumF f L:=by unfold sumF;rw[aau,acr]
theorem Dh(f:α->Int)(L M:List (α×Int)):sumF f (L++M)=sumF f L+sumF f M:=by unfold sumF;rw[aaF,acI]
theorem uD{α:Type}(f:α->Int)(c:Int):∀L:List (α×Int),sumF (λa=>c*f a) L=c*sumF f L
 |[]=>by rw[gl,gl,afl]
 |p::L=>by
  rw[aV,aV,uD f c L,afO]
  congr 1
  rw[<-aa8,abK p.2 c,aa8]
theorem kU{α:Type}[DecidableEq α](f:α->Int)(a:α)(x:Int):∀L:List (α×Int),sumF f (addA a x L)=sumF f L+x*f a
 |[]=>by show x*f a+0=0+x*f a;omega
 |p::r=>by
  show sumF f (if p.1=a then(p.1,p.2+x)::r else p::addA a x r)=_
  by_cases c:p.1=a
  .rw[if_pos c,aV,aV];show(p.2+x)*f p.1+_=_;rw[afP,c];omega
  .rw[if_neg c,aV,aV,kU f a x r];omega
theorem jW(f:α->Int){L M:List (α×Int)}(p:L.Perm M):sumF f L=sumF f M:=by
 induction p with
 |nil=>rfl
 |cons a p d=>rw[aV,aV,d]
 |swap a b l=>rw[aV,aV,aV,aV];omega
 |trans p q i c=>exact i.trans c
theorem nu{α:Type}[DecidableEq α](a:α):∀{L:List (α×Int)},(L.map (·.1)).Nodup->sumF (λb=>if b=a then 1 else 0) L=getA a L
 |[],_=>rfl
 | p::r,nd=>by
  rw[aau,aaQ]at nd;rw[aV,nu a nd.2];show _=if p.1=a then p.2 else getA a r
  by_cases c:p.1=a
  .rw[if_pos c,if_pos c,aec];have:getA a r=0:=by
    have key:∀{r:List (α×Int)},(∀q∈r,q.1≠a)->getA a r=0:=by
     intro r
     induction r with
     |nil=>intro _;rfl
     |cons q r i=>
      intro d;show(if q.1=a then q.2 else getA a r)=0;rw[if_neg (d q GE)];exact i λz e=>d z (Ge _ e)
    exact key λq d z=>nd.1 (by rw[c,<-z];exact aac.mpr ⟨q,d,rfl⟩)
   omega
  .rw[if_neg c,if_neg c,afl,afi]
noncomputable def nxt(h:Hall)(r:Rule)(p:Pt)(m:Mv):Pt:=((fQ h r p.1 p.2 m).1,(fQ h r p.1 p.2 m).2.1)
theorem xJ{f g:α->Int}{L:List (α×Int)}(h:∀p∈L,f p.1=g p.1):sumF f L=sumF g L:=by
 induction L with
 |nil=>rfl
 |cons p L i=>
  rw[aV,aV,h p GE,i λq c=>h q (Ge _ c)]
noncomputable def oQ(h:Hall)(r:Rule)(f:Pt->Int)(p:Pt):Int:=sumF (λm=>f (nxt h r p m)) (msL h)
theorem vQ(h:Hall)(r:Rule)(f:Pt->Int)(p:Pt)(w:Int):∀(M:Ms) (x:List (Pt×Int)×List (Wd×Int)),sumF f (M.foldl (λx q=>goW1 h r p w q x) x).1=sumF f x.1+w*sumF (λm=>f (nxt h r p m)) M
 |[],x=>by rw[gl,afl,adH];rfl
 |q::M,x=>by
  rw[acb,vQ h r f p w M,aV,afO];show sumF f (addA (nxt h r p q.1) (w*q.2) x.1)+_=_;rw[kU,aa8];omega
theorem rG(h:Hall)(r:Rule)(f:Pt->Int):∀(W:List (Pt×Int)) (x:List (Pt×Int)×List (Wd×Int)),sumF f (W.foldl (goW h r (msL h)) x).1=sumF f x.1+sumF (oQ h r f) W
 |[],x=>by rw[gl,adH];rfl
 |p::W,x=>by
  rw[acb,rG h r f W,aV];show sumF f ((msL h).foldl (λx q=>goW1 h r p.1 p.2 q x) x).1+_=_;rw[vQ];show _+p.2*oQ h r f p.1+_=_;omega
theorem JT(h:Hall)(r:Rule)(f:Pt->Int)(k:Nat):sumF f (stW h r (k+1))=sumF (oQ h r f) (stW h r k):=by
 show sumF f ((stW h r k).foldl (goW h r (msL h)) ([],[])).1=_;rw[rG,gl,afi]
theorem mJ{α:Type}[DecidableEq α]{a:α}{x:Int}(f:0<x):∀{L:List (α×Int)},(∀p∈L,0<p.2)->∀p∈addA a x L,0<p.2
 |[],_,p,hp=>by rw[OR.mp hp];exact f
 | q::r,h,p,hp=>by
  have i:=h q GE;have d:p∈(if q.1=a then(q.1,q.2+x)::r else q::addA a x r):=hp
  by_cases c:q.1=a
  .rw[if_pos c]at d;rcases aai.mp d with e|e
   .rw[e];show 0<q.2+x;omega
   .exact h p (Ge _ e)
  .rw[if_neg c]at d;rcases aai.mp d with e|e
   .rw[e];exact i
   .exact mJ f (λz g=>h z (Ge _ g)) p e
theorem nk{α:Type}[DecidableEq α]:∀{L:List (α×Int)}{p:α×Int},(L.map (·.1)).Nodup->p∈L->getA p.1 L=p.2
 |q::L,p,nd,hp=>by
  rw[aau,aaQ]at nd;show(if q.1=p.1 then q.2 else getA p.1 L)=p.2;rcases aai.mp hp with e|e
  .rw[e,if_pos rfl]
  .rw[if_neg (λz=>nd.1 (by rw[z];exact aac.mpr ⟨p,e,rfl⟩))];exact nk nd.2 e
theorem oz{α:Type}[DecidableEq α]{a:α}:∀{L:List (α×Int)},getA a L≠0->(a,getA a L)∈L
 |[],h=>(h rfl).elim
 |q::L,h=>by
  have d:(if q.1=a then q.2 else getA a L)≠0:=h;show(a,if q.1=a then q.2 else getA a L)∈_
  by_cases c:q.1=a
  .rw[if_pos c,<-c];exact GE
  .rw[if_neg c]at d⊢;exact Ge _ (oz d)
theorem fb{α:Type}:∀{L:List (α×Int)},(L.map (·.1)).Nodup->L.Nodup
 |[],_=>acy
 |q::L,nd=>by
  rw[aau,aaQ]at nd;exact aaQ.mpr ⟨λz=>nd.1 (aac.mpr ⟨q,z,rfl⟩),fb nd.2⟩
theorem GN[DecidableEq α]{L M:List (α×Int)}(n1:(L.map (·.1)).Nodup)(n2:(M.map (·.1)).Nodup)(c:∀p∈L,0<p.2)(d:∀p∈M,0<p.2)(e:∀a,getA a L=getA a M):L.Perm M:=by
 refine(afB (fb n1) (fb n2)).mpr λp=>⟨λhp=>?_,λhp=>?_⟩
 .have g:=nk n1 hp;have:=c p hp;have m:=oz (a:=p.1) (L:=M) (by rw[<-e,g];omega);rw[<-e,g]at m;exact m
 .have g:=nk n2 hp;have:=d p hp;have m:=oz (a:=p.1) (L:=L) (by rw[e,g];omega);rw[e,g]at m;exact m
theorem Nh{t b:Int}(d:0<t)(hb:0<b):0<(nfP t b).1:=by
 have c:=ca (t:=t) hb;have q:=(fC (t:=t) hb).1;have m:0<(nfP t b).1*b:=by rw[c];exact abx d q
 exact Int.pos_of_mul_pos_left m hb
theorem Gn(ho:h.Ok){z:Mv×Int×Nat}(d:z∈shrM h):0<z.2.1:=by
 have a1:=ho.a1;have b1:=ho.b1;unfold shrM at d;rcases aaK.mp d with d|d
 .rcases aaK.mp d with d|d
  .obtain⟨o,ho',rfl⟩:=aac.mp d;have e:=gf h.ss.length ho.n4;exact Nh (by omega) (abx (by omega) (by omega))
  .obtain⟨q,hq,rfl⟩:=aac.mp d;have m:=List.fst_mem_of_mem_zipIdx hq;have:=(ho.ok q.1 m).a1;show(0:Int)<(q.1.a:Int);omega
 .by_cases c:0<(restF h h.ss.length).1
  .rw[if_pos c]at d;rw[OR.mp d];exact c
  .rw[if_neg c]at d;cases d
theorem IA(ho:h.Ok):∀q∈msL h,0<q.2:=λq g=>by
 obtain⟨z,c,rfl⟩:=aac.mp g;have e:(z.1.d,z.2)∈shrL h:=by rw[jO];exact aac.mpr ⟨z,c,rfl⟩
 have d:=(jP ho).d _ e;have f:z.2.2 ∣ botH h:=jt e;have b1:1≤z.2.2:=d.1;have k:0<botH h/z.2.2:=ahS (aeP (iM ho) f) b1;refine abx ?_ (by omega);exact Gn ho c
theorem sK{h:Hall}{r:Rule}{p:Pt}{w:Int}(c:0<w):∀{M:Ms}{x:List (Pt×Int)×List (Wd×Int)},(∀q∈M,0<q.2)->(∀z∈x.1,0<z.2)->∀z∈(M.foldl (λx q=>goW1 h r p w q x) x).1,0<z.2
 |[],x,_,hx=>hx
 |q::M,x,hM,hx=>sK c (M:=M) (λz d=>hM z (Ge _ d)) (mJ (abx c (hM q GE)) hx)
theorem Bx{h:Hall}(ho:h.Ok)(r:Rule):∀n,∀p∈stW h r n,0<p.2
 |0,p,hp=>by rw[OR.mp hp];show(0:Int)<1;decide
 | n+1,p,hp=>by
  have key:∀{W:List (Pt×Int)}{x:List (Pt×Int)×List (Wd×Int)},(∀z∈W,0<z.2)->(∀z∈x.1,0<z.2)->∀z∈(W.foldl (goW h r (msL h)) x).1,0<z.2:=by
   intro W
   induction W with
   |nil=>intro x _ d;exact d
   |cons q W i=>
    intro x e d;exact i (λz c=>e z (Ge _ c)) (sK (e q GE) (IA ho) d)
  exact key (Bx ho r n) (λ_ c=>by cases c) p hp
theorem cU(L:List (α×Int)):sumF (λ_=>1) L=sumA L:=by
 unfold sumF sumA
 congr 1
 exact aff λq _=>aec _
theorem k9{L:List (α×Int)}(h:∀p∈L,0≤p.2)(i:Nat):sumA (L.take i)≤sumA L:=by
 have e:sumA L=sumA (L.take i)+sumA (L.drop i):=by
  unfold sumA;rw[<-acI,<-aaF,List.take_append_drop]
 have:=(fM (L:=L.drop i) λp hp=>h p (agX hp)).1;omega
theorem WOk.perm{V:List (Pt×Int)}(p:V.Perm W)(X:WOk h r W):WOk h r V:=⟨λq c=>X.st q (p.mem_iff.mp c),((p.map _).nodup_iff).mpr X.kd,by rw[p.length_eq];exact X.n,λq c=>X.v q (p.mem_iff.mp c)⟩
theorem Srd.perm{V:List (Pt×Int)}(p:V.Perm W)(s:Srd V A):Srd W A:=⟨s.p.trans p,s.o⟩
noncomputable def Av:SpM:=λd K=>∃(h:Hall) (r:Rule) (n:Nat),d=[.imm h.d,.imm r.d,.imm (.int (n:Int))]/\DuOk h r n/\WOk h r (stW h r n)/\∀c,Srd (stW h r n) c->K (.imm (gC ((botH h^n:Nat):Int) c)) []
section
variable {α:Type} [DecidableEq α] {sc:α->List α}{x0:α}{i:Nat}
noncomputable def add1(F:List α)(x:α):List α:=if x∈F then F else F++[x]
noncomputable def adds(F xs:List α):List α:=xs.foldl add1 F
inductive Rch(sc:α->List α)(x0:α):α->Prop
 |here:Rch sc x0 x0
 |next {y z:α}:Rch sc x0 y->z∈sc y->Rch sc x0 z
theorem FX{F:List α}{x y:α}:y∈add1 F x↔y∈F\/y=x:=by
 unfold add1;split
 .simp_all
 .simp
theorem L9{F:List α}{x:α}(h:F.Nodup):(add1 F x).Nodup:=by
 unfold add1;split
 .exact h
 .rename_i n;exact afH.mpr ⟨h,aek _ _,λa ha b hb e=>n (by rw[<-OR.mp hb,<-e];exact ha)⟩
theorem GM{F:List α}{x:α}(h:i<F.length):(add1 F x)[i]?=F[i]?:=by
 unfold add1;split
 .rfl
 .exact aaJ h
theorem uw{F:List α}{x:α}:F.length≤(add1 F x).length/\(add1 F x).length≤F.length+1:=by
 unfold add1;split
 .simp
 .simp
theorem mem_adds{y:α}:∀{xs F:List α},y∈adds F xs↔y∈F\/y∈xs
 |[],F=>⟨.inl,λh=>h.elim id λq=>absurd q abc⟩
 |x::xs,F=>by
  rw[show adds F (x::xs)=adds _ xs from rfl,mem_adds,FX,aai,or_assoc]
theorem tJ:∀{xs F:List α},F.Nodup->(adds F xs).Nodup
 |[],_,h=>h
 |x::xs,F,h=>tJ (xs:=xs) (L9 h)
theorem gj:∀{xs F:List α},F.length≤(adds F xs).length/\(adds F xs).length≤F.length+xs.length
 |[],F=>⟨Dl _,Dl _⟩
 |x::xs,F=>by
  have a:=gj (xs:=xs) (F:=add1 F x);have b:=uw (F:=F) (x:=x);rw[show adds F (x::xs)=adds _ xs from rfl,aaz];omega
theorem oO:∀{xs F:List α},i<F.length->(adds F xs)[i]?=F[i]?
 |[],_,_=>rfl
 |x::xs,F,h=>by
  rw[show adds F (x::xs)=adds _ xs from rfl,oO (aah h uw.1),GM h]
structure Cmg(sc:α->List α)(x0:α)(F:List α)(i:Nat):Prop where
 nd:F.Nodup
 rc:∀y∈F,Rch sc x0 y
 hd:x0∈F
 cl:∀(j:Nat) (y:α),j<i->F[j]?=some y->∀z∈sc y,z∈F
theorem Cmg.one:Cmg sc x0 [x0] 0:=⟨aek _ _,λy c=>by rw[OR.mp c];exact .here,OR.mpr rfl,λj _ h=>absurd h (Nat.not_lt_zero j)⟩
variable {F G:List α}
theorem Cmg.next(C:Cmg sc x0 F i){y:α}{xs:List α}(e:F[i]?=some y)(f:∀z,z∈xs↔z∈sc y):Cmg sc x0 (adds F xs) (i+1):=by
 have l:=(Io.mp e).1;have g:=C.rc y (DL e);refine⟨tJ C.nd,λz d=>?_,mem_adds.mpr (.inl C.hd),λj u k c z d=>?_⟩
 .rcases mem_adds.mp d with q|q
  .exact C.rc z q
  .exact g.next ((f z).mp q)
 .rw[oO (by exact aah ‹_› ‹_›)]at c
  by_cases w:j=i
  .rw[w,e]at c;cases c;exact mem_adds.mpr (.inr ((f z).mpr d))
  .exact mem_adds.mpr (.inl (C.cl j u (by omega) c z d))
theorem Cmg.all(C:Cmg sc x0 F i)(h:F.length≤i):∀{y:α},Rch sc x0 y->y∈F:=by
 intro y r
 induction r with
 |here=>exact C.hd
 |next r d c=>
  obtain⟨j,f,e⟩:=List.getElem_of_mem c;exact C.cl j _ (by exact aah ‹_› ‹_›) (Io.mpr ⟨f,e⟩) _ d
theorem Ba:∀{F G:List α},F.Nodup->(∀x∈F,x∈G)->F.length≤G.length
 |[],_,_,_=>abC _
 |x::F,G,n,h=>by
  obtain⟨n1,n2⟩:=aaQ.mp n;have d:=h x GE;have a:=Ba (G:=G.erase x) n2 λy c=>(agU λe=>n1 (by simp_all)).mpr (h y (Ge x c))
  grind
end
noncomputable def scS(h:Hall)(r:Rule)(p:Pt):List Pt:=(shrM h).map λq=>((fQ h r p.1 p.2 q.1).1,(fQ h r p.1 p.2 q.1).2.1)
theorem mem_addA{α:Type}[DecidableEq α]{a y:α}{x:Int}:∀{W:List (α×Int)},y∈(addA a x W).map (·.1)↔y∈W.map (·.1)\/y=a
 |[]=>by
  show y∈[a]↔_;simp
 |p::W=>by
  unfold addA;split
  .rename_i e;exact⟨.inl,λh=>h.elim id λq=>by rw[q,<-e];exact GE⟩
  .show y∈p.1::(addA a x W).map (·.1)↔y∈p.1::W.map _\/y=a;rw[aai,aai,mem_addA,or_assoc]
theorem IP:y∈(lv h r p).map (·.1)↔y∈scS h r p:=by
 have key:∀(M:Ms) x,y∈(M.foldl (λx q=>goW1 h r p 1 q x) x).1.map (·.1)↔y∈x.1.map (·.1)\/y∈M.map λq=>((fQ h r p.1 p.2 q.1).1,(fQ h r p.1 p.2 q.1).2.1):=by
  intro M
  induction M with
  |nil=>intro x;exact⟨.inl,λh=>h.elim id λq=>absurd q abc⟩
  |cons q M i=>
   intro x;rw[acb,i,aau,aai,<-or_assoc];unfold goW1;rw[mem_addA]
 have:=key (msL h) ([],[]);unfold lv scS;rw[show([(p,(1:Int))].foldl _ ([],[]))=(msL h).foldl (λx q=>goW1 h r p 1 q x) ([],[])from rfl,this];unfold msL;rw[aaD];exact⟨λh=>h.elim (λq=>absurd q abc) id,.inr⟩
theorem pc(ho:h.Ok)(hr:r.Ok h)(S:St h r p.1 p.2)(f:y∈scS h r p):St h r y.1 y.2:=by
 obtain⟨q,d,e⟩:=aac.mp f;obtain⟨_,m⟩:=Gm ho;have c:_∈msL h:=aac.mpr ⟨q,d,rfl⟩;rw[<-e];exact o8 ho hr S (m _ c).1
theorem ml(ho:h.Ok)(hr:r.Ok h){x:Pt}(S:St h r x.1 x.2)(R:Rch (scS h r) x y):St h r y.1 y.2:=by
 induction R with
 |here=>exact S
 |next _ c i=>exact pc ho hr i c
theorem yx{h:Hall}{r:Rule}{y:Pt}:∀{W:List (Pt×Int)}{x:List (Pt×Int)×List (Wd×Int)},y∈(W.foldl (goW h r (msL h)) x).1.map (·.1)->y∈x.1.map (·.1)\/∃p∈W,y∈scS h r p.1
 |[],x,hy=>.inl hy
 | q::W,x,hy=>by
  have one:∀(M:Ms) (x:List (Pt×Int)×List (Wd×Int)),y∈(M.foldl (λx m=>goW1 h r q.1 q.2 m x) x).1.map (·.1)->y∈x.1.map (·.1)\/∃m∈M,y=nxt h r q.1 m.1:=by
   intro M
   induction M with
   |nil=>intro x d;exact .inl d
   | cons m M i=>
    intro x d;rcases i _ d with z|⟨n,c,e⟩
    .rcases mem_addA.mp z with z|z
     .exact .inl z
     .exact .inr ⟨m,GE,z⟩
    .exact .inr ⟨n,Ge _ c,e⟩
  rcases yx (W:=W) hy with z|⟨p,hp,e⟩
  .rcases one _ _ z with z|⟨m,hm,e⟩
   .exact .inl z
   .refine .inr ⟨q,GE,?_⟩;obtain⟨n,c,rfl⟩:=aac.mp hm;exact aac.mpr ⟨n,c,e.symm⟩
  .exact .inr ⟨p,Ge _ hp,e⟩
theorem yj{h:Hall}{r:Rule}:∀(n:Nat),∀p∈stW h r n,Rch (scS h r) (zer h,0) p.1
 |0,p,hp=>by rw[OR.mp hp];exact .here
 |n+1,p,hp=>by
  rcases yx (aac.mpr ⟨p,hp,rfl⟩)with z|⟨q,c,e⟩
  .cases z
  .exact .next (yj n q c) e
theorem DI(hr:r≠.turns)(R:Rch (scS h r) (zer h,0) y):y.2=0:=by
 induction R with
 |here=>rfl
 |next _ d i=>
  obtain⟨q,_,rfl⟩:=aac.mp d;have c:∀t,xg h r t=t:=λt=>by cases r<;>first|rfl|exact(hr rfl).elim
  cases q.1 with
  |come o=>exact(c _).trans i
  |done k=>exact i
  |still=>exact i
noncomputable def Rule.many(h:Hall):Rule->Nat
 | .turns=>h.ss.length
 |_=>1
theorem zQ(ho:h.Ok)(hr:r.Ok h){L:List Pt}(nd:L.Nodup)(R:∀y∈L,Rch (scS h r) (zer h,0) y):L.length≤(M3.allR h.rs).length*r.many h:=by
 have:=fG nd (m:=(M3.allR h.rs).flatMap λl=>(aaH (r.many h)).map λt=>(l,t)) λy c=>by
  have S:=ml ho hr (x:=(zer h,0)) (iA ho r) (R y c);refine abi.mpr ⟨y.1,jE S.ln.fits,aac.mpr ⟨y.2,ady.mpr ?_,rfl⟩⟩
  by_cases z:r = .turns
  .have:=S.tn z;rw[z];exact this
  .have:=DI z (R y c);rw[this]
   cases r<;>first|exact Nat.zero_lt_one|exact(z rfl).elim
 refine aaj this (ahu ?_);generalize M3.allR h.rs=A
 induction A with
 |nil=>simp
 |cons a A i=>rw[ahF,aap,i,gE,aa6,aaz,afh,ahE]
noncomputable def jK(rs:List Nat)(mv:Bool):Hall:=⟨1,4,rs.map λr=>⟨1,8,r⟩,mv⟩
theorem vT(rs:List Nat)(mv:Bool):(jK rs mv).rs=rs:=by
 unfold Hall.rs jK;rw[aaD];exact aeg rs
theorem uX(h:Hall)(rs:List Nat):∀(n:Nat) (l:List Nat),cG h n l=cG (jK rs h.mv) n l
 |0,_=>rfl
 |n+1,l=>by
  unfold cG;rw[show cK (jK rs h.mv) l=cK h l from rfl]
  cases cK h l with
  |none=>rfl
  |some p=>exact uX h rs n _
noncomputable def tmv(k:Nat):List Mv:=Mv.come [0]::Mv.still::(aaH k).map Mv.done
theorem nxt0{m:Mv}(d:m.Ok h):∃c∈tmv h.ss.length,nxt h .turns p m=nxt (jK h.rs h.mv) .turns p c:=by
 have st:∀l,dE h l=dE (jK h.rs h.mv) l:=λl=>uX h h.rs _ l;have rn:∀k,h.rn k=(jK h.rs h.mv).rn k:=λk=>by unfold Hall.rn;rw[vT]
 have ln:h.ss.length=(jK h.rs h.mv).ss.length:=by rw[<-Hall.rsl,<-Hall.rsl,vT]
 cases m with
 |come o=>
  refine⟨.come [0],GE,?_⟩;show(dE h (if p.1.getD p.2 0=h.rn p.2 then(p.1,Wd.away)else(_,Wd.taken)).1,(p.2+1)%h.ss.length)=(dE _ (if p.1.getD p.2 0=(jK h.rs h.mv).rn p.2 then(p.1,Wd.away)else _).1,(p.2+1)%(jK h.rs h.mv).ss.length);rw[st,<-rn,<-ln];rfl
 |done k=>
  refine⟨.done k,Ge _ (Ge _ (aac.mpr ⟨k,ady.mpr d,rfl⟩)),?_⟩;show(dE h _,p.2)=(dE _ _,p.2);rw[st]
 |still=>
  refine⟨.still,Ge _ GE,?_⟩;show(dE h _,p.2)=(dE _ _,p.2);rw[st]
noncomputable def rcN(rs:List Nat)(mv:Bool):Nat->List Pt
 |0=>[(aam rs.length 0,0)]
 |n+1=>adds [] ((rcN rs mv n).flatMap λp=>(tmv rs.length).map λm=>nxt (jK rs mv) .turns p m)
theorem Iz{h:Hall}(ho:h.Ok):∀(n:Nat),∀p∈stW h .turns n,p.1∈rcN h.rs h.mv n
 |0,p,hp=>by
  rw[OR.mp hp];unfold rcN;rw[Hall.rsl];exact OR.mpr rfl
 |n+1,p,hp=>by
  rcases yx (aac.mpr ⟨p,hp,rfl⟩)with z|⟨q,f,e⟩
  .cases z
  .obtain⟨m,hm,e⟩:=aac.mp e;have c:m.1.Ok h:=Bz ho m hm;obtain⟨d,i,g⟩:=nxt0 (p:=q.1) c;refine mem_adds.mpr (.inr (abi.mpr ⟨q.1,Iz ho n q f,aac.mpr ⟨d,by rw[Hall.rsl];exact i,?_⟩⟩));exact g.symm.trans e
theorem LR:∀mv:Bool,∀n≤6,(rcN [2,2,2] mv n).length<64:=by decide +kernel
theorem NH:∀mv:Bool,∀n≤2,(rcN [1,1,1,1] mv n).length<64:=by decide +kernel
noncomputable def Kg:List (List Nat):=[[1],[4],[1,1],[3,2],[3,3],[2,2],[1,2,2],[1,1,1],[2,1,1],[2,2,2],[1,1,1,1]]
theorem y4:∀rs∈Kg,(M3.allR rs).length<64/\((M3.allR rs).length*rs.length<64\/rs=[2,2,2]\/rs=[1,1,1,1]):=by decide +kernel
structure Trn(h:Hall)(n:Nat):Prop where
 rs:h.rs∈Kg
 t3:h.ss.length=3->n≤6
 t4:h.ss.length=4->n≤2
theorem Ot{n:Nat}(ho:h.Ok)(hr:r.Ok h)(T:Trn h n):(stW h r n).length<64:=by
 obtain⟨a1,a2⟩:=y4 _ T.rs;have b:=zQ ho hr (iP (h:=h) (r:=r) n) λy f=>by
  obtain⟨p,hp,rfl⟩:=aac.mp f;exact yj n p hp
 rw[gE]at b
 by_cases z:r = .turns
 .subst z;have c:=fG (iP (h:=h) (r:=.turns) n) (m:=rcN h.rs h.mv n) λy f=>by
   obtain⟨p,hp,rfl⟩:=aac.mp f;exact Iz ho n p hp
  rw[gE]at c;have d:=h.rsl;rcases a2 with q|q|q
  .rw[d]at q;exact aas b q
  .rw[q]at c d;exact aas c (LR _ n (T.t3 (by simpa using d.symm)))
  .rw[q]at c d;exact aas c (NH _ n (T.t4 (by simpa using d.symm)))
 .have e:r.many h=1:=by cases r<;>first|rfl|exact(z rfl).elim
  rw[e]at b;omega
theorem Je{n:Nat}(D:DuOk h r n)(T:Trn h n):WOk h r (stW h r n):=by
 refine⟨qj D.ho D.hr n,iP n,Ot D.ho D.hr T,λp hp=>?_⟩;have e:=qE D.ho D.h0 r n p hp;have c:=(fM (qE D.ho D.h0 r n)).2 p hp;rw[mi D.ho D.h0 r n]at c;have d:=D.b;exact aax (show p.2.natAbs<10^66 by omega) (by decide)
noncomputable def adW(p:Pt×Int)(S:List (Pt×Int))(V:List (Pt×Int)):List (Pt×Int):=V.foldl (λS q=>addA q.1 (p.2*q.2) S) S
theorem t5(f:Pt->Int)(p:Pt×Int):∀(V S:List (Pt×Int)),sumF f (adW p S V)=sumF f S+p.2*sumF f V
 |[],S=>by
  show sumF f S=sumF f S+p.2*0;rw[afl,adH]
 |q::V,S=>by
  show sumF f (adW p (addA q.1 (p.2*q.2) S) V)=_;rw[t5 f p V,kU,aV,afO,aa8];omega
theorem vV{p:Pt×Int}:∀{V S:List (Pt×Int)},(S.map (·.1)).Nodup->((adW p S V).map (·.1)).Nodup
 |[],_,h=>h
 |q::V,S,h=>vV (V:=V) (jM h)
theorem yy{p:Pt×Int}(hp:0<p.2):∀{V S:List (Pt×Int)},(∀q∈V,0<q.2)->(∀z∈S,0<z.2)->∀z∈adW p S V,0<z.2
 |[],_,_,h=>h
 |q::V,S,hV,h=>yy hp (V:=V) (λz c=>hV z (Ge _ c)) (mJ (abx hp (hV q GE)) h)
theorem Jd{h:Hall}{r:Rule}{p:Pt×Int}:∀{V S:List (Pt×Int)},(∀q∈V,St h r q.1.1 q.1.2)->(∀z∈S,St h r z.1.1 z.1.2)->∀z∈adW p S V,St h r z.1.1 z.1.2
 |[],_,_,h=>h
 |q::V,S,hV,h=>Jd (V:=V) (λz c=>hV z (Ge _ c)) λz c=>by
  rcases jH c with e|⟨y,d,e⟩
  .rw[e];exact hV q GE
  .rw[<-e];exact h y d
theorem yH(h:Hall)(r:Rule)(f:Pt->Int)(p:Pt):sumF f (lv h r p)=oQ h r f p:=by
 unfold lv;rw[rG];show sumF f []+(1*oQ h r f p+0)=_;rw[gl];omega
theorem vJ(ho:h.Ok)(h0:0≤(restF h h.ss.length).1)(r:Rule)(p:Pt):oQ h r (λ_=>1) p=(botH h:Int):=by
 unfold oQ;rw[cU];exact uz ho h0
theorem xM(c:Int)(L:List (α×Int)):sumF (λ_=>c) L=c*sumA L:=by
 rw[<-cU,<-uD];unfold sumF
 congr 1
 exact aff λ_ _=>by rw[aec]
structure SmS(h:Hall)(r:Rule)(W':List (Pt×Int))(i:Nat)(S:List (Pt×Int)):Prop where
 kd:(S.map (·.1)).Nodup
 ps:∀z∈S,0<z.2
 st:∀z∈S,St h r z.1.1 z.1.2
 sm:∀f:Pt->Int,sumF f S=sumF (oQ h r f) (W'.take i)
theorem FW(ho:h.Ok){S:List (Pt×Int)}(kd:(S.map (·.1)).Nodup)(st:∀z∈S,St h r z.1.1 z.1.2):S.length≤10000:=by
 have:=fG kd (m:=(M3.allR h.rs).flatMap λl=>(aaH 4).map λt=>(l,t)) λy d=>by
  obtain⟨p,hp,rfl⟩:=aac.mp d;exact abi.mpr ⟨p.1.1,jE (st p hp).ln.fits,aac.mpr ⟨p.1.2,ady.mpr (st p hp).ts,rfl⟩⟩
 rw[gE]at this;have e:∀A:List (List Nat),(A.flatMap λl=>(aaH 4).map λt=>(l,t)).length=A.length*4:=λA=>by
  induction A with
  |nil=>rfl
  |cons a A i=>rw[ahF,aap,i,gE,aa6,aaz,afh,ahE]
 rw[e]at this;have:=gc (rs:=h.rs) (by rw[Hall.rsl];exact ho.n4) λx c=>by
  obtain⟨s,hs,rfl⟩:=aac.mp c;exact(ho.ok s hs).r6
 omega
section
variable {h:Hall}{r:Rule}{n i j:Nat}{W V S:List (Pt×Int)}{p q:Pt×Int}
theorem SmS.sum(D:DuOk h r n)(X:SmS h r W i S):sumA S=(botH h:Int)*sumA (W.take i):=by
 rw[<-cU,X.sm,<-xM];exact xJ λz _=>vJ D.ho D.h0 r z.1
theorem Lm(D:DuOk h r n)(p:Pt):sumA (lv h r p)=(botH h:Int):=by
 rw[<-cU,yH];exact vJ D.ho D.h0 r p
theorem AW(D:DuOk h r n)(p:Pt):∀z∈lv h r p,0<z.2:=sK (w:=1) (by decide) (IA D.ho) λ_ c=>by cases c
theorem j4{L M:List (α×Int)}(e:L.Perm M):sumA L=sumA M:=by rw[<-cU,<-cU];exact jW _ e
theorem qu(e:W[i]?=some p):sumA (W.take (i+1))=sumA (W.take i)+p.2:=by
 rw[abz,e];unfold sumA;rw[aaF,acI];show _+(p.2+0)=_;rw[adH]
theorem SmS.bd(D:DuOk h r (n+1))(X:SmS h r W i S)(d:W.Perm (stW h r n))(e:W[i]?=some p)(g:V.Perm (lv h r p.1)):sumA (adW p S (V.take j))≤((botH h^(n+1):Nat):Int):=by
 have hp:=d.mem_iff.mp (DL e);have p0:=qE D.ho D.h0 r n p hp;have v:∀z∈V,0≤z.2:=λz c=>Int.le_of_lt (AW D p.1 z (g.mem_iff.mp c));have b1:=k9 v j;rw[j4 g,Lm D]at b1;have s1:sumA (adW p S (V.take j))=sumA S+p.2*sumA (V.take j):=by rw[<-cU,t5,cU,cU]
 have b2:=ae1 b1 p0;have f:=k9 (L:=W) (λz c=>qE D.ho D.h0 r n z (d.mem_iff.mp c)) (i+1);rw[j4 d,mi D.ho D.h0 r n,qu e]at f;have k:=ae1 f (show(0:Int)≤(botH h:Int) by omega);rw[s1,X.sum D,adm,acq,aaA];rw[afO,abK _ p.2]at k;omega
theorem SmS.in(X:SmS h r W i S)(p0:0<p.2)(D:DuOk h r n)(d:V.Perm (lv h r p.1))(e:St h r p.1.1 p.1.2)(f:DuOk h r 1):((adW p S (V.take j)).map (·.1)).Nodup/\(∀z∈adW p S (V.take j),0<z.2)/\∀z∈adW p S (V.take j),St h r z.1.1 z.1.2:=
 ⟨vV X.kd,yy p0 (λz c=>AW D p.1 z (d.mem_iff.mp (abw c))) X.ps,Jd (λz c=>(zl f e).1.st z (d.mem_iff.mp (abw c))) X.st⟩
theorem SmS.next(X:SmS h r W i S)(e:W[i]?=some p)(p0:0<p.2)(D:DuOk h r n)(d:V.Perm (lv h r p.1))(k:St h r p.1.1 p.1.2)(g:DuOk h r 1):SmS h r W (i+1) (adW p S V):=by
 obtain⟨a,b,c⟩:=X.in (j:=V.length) p0 D d k g;rw[aab]at a b c;refine⟨a,b,c,λf=>?_⟩;rw[t5,X.sm,jW f d,yH,abz,e,Dh];show _=_+(p.2*oQ h r f p.1+0);rw[adH]
theorem SmS.end(X:SmS h r W W.length S)(D:DuOk h r (n+1))(c:W.Perm (stW h r n)):S.Perm (stW h r (n+1)):=by
 refine GN X.kd (iP _) X.ps (Bx D.ho r _) λa=>?_;rw[<-nu a X.kd,<-nu a (iP _),X.sm,aab,JT];exact jW _ c
theorem vc(e:V[j]?=some q):adW p S (V.take (j+1))=addA q.1 (p.2*q.2) (adW p S (V.take j)):=by
 unfold adW;rw[abz,e,ac8];rfl
theorem DuOk.two(D:DuOk h r n)(w v:Int)(k:Nat):nfP ((nfP w ((botH h^k:Nat):Int)).1*(nfP v (botH h:Int)).1) ((nfP w ((botH h^k:Nat):Int)).2*(nfP v (botH h:Int)).2)=nfP (w*v) ((botH h^(k+1):Nat):Int):=by
 have P:=D.p0 k;have B:0<(botH h:Int):=by have:=iM D.ho;omega
 have d:=ca (t:=w) P;have e:=ca (t:=v) B;have f:=(fC (t:=w) P).1;have o:=(fC (t:=v) B).1;refine oq (abx f o) (D.p0 (k+1)) ?_;rw[adm,aaA];generalize nfP w _=x at *;generalize nfP v _=y at *;generalize ((botH h^k:Nat):Int)=b at *;generalize (botH h:Int)=c at *;rw[show x.1*y.1*(b*c)=(x.1*b)*(y.1*c) by simp only[abK,abm,aa8],d,e];simp only[abK,abm,aa8]
end
end K
namespace L2
open PySem PySem.Spec PyProof.Rows
variable{K:Mt}{ds:List dL}{sp:SpX}{mg:Str->Option mT}{c:Str}{C:Addr}{body suite:List Stmt}{wb:(dL->MSt->Prop)->WS}
section
variable {X:Cx}{i:Nat}{x:Str}{e:Expr}{w:WE}{op:afn}{p pos:Pos}{f:Int->Int->Int}
noncomputable def KI(X:Cx)(op:afn)(f:Int->Int->Int):Prop:=PIp X op λx y H Q=>∃i j,x = .int i/\y = .int j/\Q (.int (f i j)) H
theorem OT:KI X .Add (· + ·):=SK
noncomputable def wAug(i:Nat)(w:WE)(f:Int->Int->Int):WS:=λD m=>∃a:Int,m.vs[i]?=some (some (.imm (.int a)))/\w m λr d=>∃b:Int,r = .imm (.int b)/\D.nx (d.setV i (.imm (.int (f a b))))
theorem Qx(t:X.N.Nodup)(A:X.N[i]?=some x)(G:ME X e w)(h:KI X op f)(d:X.env.scope.names.lookup x=some .local:=by rfl):MS X (.AugAssign (.Name x p) op e pos) (wAug i w f):=(TJ t A (.inl d) G h (.inr d)).wk<|by
 rintro D L H ⟨g,m,J,l,⟨a,E,z⟩,k⟩;obtain⟨v,u,I⟩:=l.var i _ E;have B:=I;refine⟨v,u,g,m,_,l,z,λr M y j ⟨b,o,q⟩ n R rr F=>?_⟩;subst o;have s:=rr;have R2:=cc (i:=i) (r:=.imm (.int (f a b))) R (show Den X.kx.toKd j (.int (f a b)) (.int (f a b)) by simp only[Den]);exact⟨a,b,B,s,k.nx g _ _ j q n R2 (.of R2 F)⟩
theorem JL(i:Nat)(g:X.N.Nodup)(b:EE X e w)(h:KI X op f)(d:X.N[i]?=some x:=by rfl)(a:X.env.scope.names.lookup x=some .local:=by rfl):ES X (.AugAssign (.Name x p) op e pos) (wAug i w f):=⟨Qx g d b.h h a⟩
theorem V8{D:cV}{m:MSt}(a:Int)(g:m.vs[i]?=some (some (.imm (.int a))))(h:w m λr d=>∃b:Int,r = .imm (.int b)/\D.nx (d.setV i (.imm (.int (f a b))))):wAug i w f D m:=⟨a,g,h⟩
end
section
variable {X:Cx}{i e:Expr}{w a:WE}{pos:Pos}
noncomputable def VH(K:Kd)(t g:TE):TE:=λd H Q=>∀p,H p=none->t d (upd H p (.dK [])) λy f=>g d f λv b=>b p=some (.dK [])/\∃k,kyD k=true/\Den K b k y/\Q (.ref p) (upd b p (dX p [(cE K.w k,y,v)]))
theorem N9{b t:TE}(E:X.A.units+64<cLine)(o:PE X i b)(h:PE X e t):PE X (.Dict [some i] [e] pos) (VH X.kd b t):=by
 intro p s d H Q I q;have z:=I.laid (h':=s.heap.push {cls:=.type "dict",data:=.dict #[]}) (t':=s.toks) (λ_ _ q=>Ad _ q) (Dl _) (ou s.heap I.big);refine wpAny_Dict_any rfl rfl (by simp) (show 1≤15 by decide) (pairTrees_cons_walk (thn (o p _ d _ _ z (q _ (I.hok.fresh (Dl _)))) λu s1 ⟨y,l,g,m,B⟩=>thn (h p s1 d l _ g B) λr s2 ⟨v,G,j,n,D,k,ky,f,A⟩=>pairTrees_nil_walk ?_));unfold storeAll;rw[ad2];exact aD (aD (zh (kvs:=[]) (es:=[]) (by omega) j ⟨by simp[DenKV],acy,rfl,.inr ⟨D,rfl⟩⟩ ky f m n (by rw[aan];decide) λF x=>AD (AD ⟨.ref s.heap.objs.size,_,x,rfl,A⟩)))
noncomputable def J3(wk b:WE):WE:=λm K=>wk m λr m1=>cx (λk=>b m1 λf m2=>cx (λd=>kyD k=true/\K (.newT (.dict (lfKV [(k,d)]))) m2) f) r
theorem MF(L:X.A.units+64<cLine)(T:ME X i w)(N:ME X e a):ME X (.Dict [some i] [e] pos) (J3 w a):=(N9 L T N).wk<|by
 rintro V H Q ⟨g,m,U,B,S,z⟩;intro p hp;refine⟨g,m,_,B.lay hp,S,λW m1 y Y q n1 l s I=>?_⟩;obtain⟨k,rfl,r,q⟩:=dB s q;refine⟨g,m1,_,l,q,λZ m2 v j A n2 R t F=>?_⟩;obtain⟨d,rfl,hd,kd,A⟩:=dB t A;have f:p∉ads g:=B.out hp;have G:j p=some (.dK []):=F p _ (I p _ ai f) f;have n:Den X.kx j k y:=r.mono (l.pers F);refine⟨G,k,kd,n,?_⟩;have x:Pers j (upd j p (dX p [(cE X.w k,y,v)])):=bf (.inr ⟨_,G,rfl⟩);have fr:Frm g H (upd j p (dX p [(cE X.w k,y,v)])):=λb o eb E=>by
  have ne:b≠p:=aP eb hp;rw[ag ne];exact F b o (I b o (by rw[ag ne];exact eb) E) E
 have old:Ext X.kx.eb.np g H g (upd j p (dX p [(cE X.w k,y,v)])):=⟨rfl,fr,λ_ h=>.inl h,λb hb=>by
  have u:b≠p:=λe=>f (e▸hb);rw[ag u];obtain⟨J,O,_⟩:=R.mem hb;exact⟨J,O⟩⟩
 refine z _ m2 _ _ A (n2.trans n1) (R.at' x (λb hb=>ag λe=>f (e▸hb)) (B.ebx.trans old)) ⟨[([],p)],p,rfl,rfl,by simp,λb hb=>by simp at hb;subst hb;exact hp,⟨⟨_,.ref p,rfl,?_,p,rfl,rfl⟩,λb hb=>by simp at hb;subst hb;exact⟨_,ai,rfl⟩⟩⟩ fr;have D:kyA [(k,d)]=true:=by simp[kyA,kd]
 have ok:=iy (kvs:=[(k,d)]) D (by simp) (by simp);obtain⟨M,P⟩:=mE (.inr (by rw[y6];exact D):isKd (lfKV [(k,d)])=true\/kyA (lfKV [(k,d)])=true);simp only[TAt];refine .inr (.inl ⟨M,P,p,_,rfl,rfl,ai,⟨by rw[je];exact ok.1,by rw[d7];exact ok.2.1,by rw[d7];exact ok.2.2⟩,KZ ?_⟩);simp only[DenKV];exact⟨y,v,[],rfl,n.mono x,hd.mono x,rfl⟩
theorem u7(b:X.A.units+64<cLine)(d:EE X i w)(h:EE X e a):EE X (.Dict [some i] [e] pos) (J3 w a):=⟨MF b d.h h.h⟩
theorem Jo{m:MSt}{K:R->MSt->Prop}(h:w m λr m1=>cx (λk=>a m1 λb m2=>cx (λd=>kyD k=true/\K (.newT (.dict (lfKV [(k,d)]))) m2) b) r):J3 w a m K:=h
end
section
variable {X:Cx}
noncomputable def IL:WC:=λrs m K=>on1 (λr=>∃ds,lsOf m r=some ds/\srtR ds λd=>K (.new d)) rs
theorem u9{h:aaM}{vs:List mT}{b:Addr}{o:Obj}(e:h.get? b=some o):(colH h vs).get? b=some o:=by
 rw[adM _ _ _ _ (aaG (aaa e))];exact Ad _ e
theorem ua(Z:X.A.units+64<cLine):dn X (.builtin "sorted") (cM X.kx IL):=by
 rintro t s N H W us Q I V ⟨α,m,σ,H0,rs,Y,R,h,ho,n⟩;obtain⟨r,v,rfl,rfl,k,ds,M,st,ho⟩:=d6 h ho;obtain⟨l,S,rfl,f,g⟩:=k.list R M;obtain⟨u,rfl,x⟩:=V.one;cases x;obtain⟨i,d,y,J⟩:=I.list f;have hl:=d.length;have j:=g.length;have hn:=st.ok.n;refine jb (C:=λh vs=>s.heap.objs.size<h.objs.size/\Vals S vs) st.ok st.tot (by omega) (λP E F=>collect_list y.isList (F _ i (λ_ _=>u9) (vd (I.kept (t':=s.toks) λ_ _=>u9) st.ok.lay g d) ⟨Nat.lt_of_lt_of_eq (abI _) (Am s.heap i).symm,d⟩) (by rw[aan];omega)) λk h2 vs p L e w B r1 U D j hp=>?_;obtain⟨z,A⟩:=B;subst D;have a:=I.hok.fresh (aa0 z);have T:=by have:=hp.1.length_eq;rwa[aa6]at this
 obtain⟨G,O⟩:=sw hp;refine⟨.ref k.objs.size,_,I.laid (t':=s.toks) (λb o q=>U b o (w b o q)) (aa0 z) (show ObjOk X.prog X.w _ _ _ (.lst _)from⟨by rw[gE,aan];omega,_,e,ij A p,by rw[j]⟩),rfl,?_⟩;exact n _ _ _ (ho _ G O) (R.lay a) ⟨_,_,rfl,a,ai,(jD g p).mono (bf (.inl a))⟩ (cf a)
theorem LB{m:MSt}{r:R}{a:R->Prop}(e:lsOf m r=some ds)(h:srtR ds λds'=>a (.new ds')):IL [r] m a:=⟨ds,e,h⟩
end
noncomputable def clsA(K:Mt)(c:Str):Addr:=match aat K aao c with|some (some (.ref C))=>C|_=>0
section
variable {X:Cx}{a e:Expr}{es:List Expr}{w:WA}{b:WE}{pos p d c np t:Pos}{k n:Nat}{x:Str}{E:dL->MSt->Prop}
theorem Cy(F:FnX X.prog X.w X.K X.mg X.base x k n sp)(i:XL X E)(hr:Room k X.A)(ha:EA X (a::es) w)(g:Gl X x:=by rfl)(h:(x==("__debug__" : Str))=false:=by decide)(j:aad (a::es) X.env=(false,eval a X.env)::aad es X.env:=by first|exact aE rfl|rfl)(f:(ab1 pos (aad es X.env)).any (·.1)=false:=by rfl) :
  EE X (.Call (.Name x p) (a::es) [] pos) (BH sp E w):=⟨GJ F i hr ha.h g h j f⟩
theorem xU{fs:List Str}(g:IniX X.prog X.w X.K X.mg X.base x fs)(j:XL X E)(hr:Room 2 X.A)(m:X.calm=true)(ha:EA X (a::es) w)(i:Gl X x:=by rfl)(h:(x==("__debug__" : Str))=false:=by decide)
  (l:aad (a::es) X.env=(false,eval a X.env)::aad es X.env:=by first|exact aE rfl|rfl) (f:(ab1 c (aad es X.env)).any (·.1)=false:=by rfl) :
  ES X (.Raise (some (.Call (.Name x np) (a::es) [] c)) none pos) (rH x fs E w):=⟨ze g j hr m ha.h i h l f⟩
end
theorem JQ{P:aaB}{w:World}{base:aaM}{x:Str}{st:Stmt}{N ps:List Str}{n nN k:Nat}(D:DefM K mg x st ps)(S:FnScope N ps (ac st))(l:ps.length=n)(p:N.length=nN)(j:n≤nN)(ar:∀as g e,sp as g e->as.length=n)
  (h:∀(a:mT) (A:aa4) (outer:List Env) (s:oR) (H:Hp) (E:XK) (f:Addr) (b:EB) (e:dL->Prop),Room k (A.deeper (ad5 x (ac st) s.heap.objs.size f a))->XL ((cxOf (CXE P w) P w K mg base N x (ac st) f a A outer s H E).wEb b) (λd _=>e d) ->
   ∃i,ESs ((cxOf (CXE P w) P w K mg base N x (ac st) f a A outer s H E).wEb b) (bO st) i/\∀as g,as.length=n->sp as g e->i {nx:=λm=>g (.imm .none) (m.os.take m.np),rt:=λr m=>retK g m r} (fq nN as)) :
  FnX P w K mg base x (k+1) n sp:=OJ D S l p j ar λa A outer s H E f b e hr o=>let ⟨i,h1,h2⟩:=h a A outer s H E f b e hr o;⟨i,h1.h,h2⟩
section
variable {m:MSt}{Q:R->MSt->Prop}{w:WA}{D:cV}{E:dL->MSt->Prop}{a:WE}
theorem NK(h:w m λrs m1=>match e8 m1 rs with|some (as,ks)=>ks.Nodup/\sp as (λr o=>Q (mapR ks r) {m1 with os:=cb m1.os ks o}) (λd=>E d m1)|none=>False):BH sp E w m Q:=h
theorem QW{m1:MSt}{rs:List R}{as:List Ag}{ks:List Nat}{P:List Ag->List Nat->Prop}(e:e8 m1 rs=some (as,ks))(nd:ks.Nodup)(h:P as ks):(match e8 m1 rs with|some (as,ks)=>ks.Nodup/\P as ks|none=>False):=by rw[e];exact⟨nd,h⟩
theorem C6{x:Str}{fs:List Str}(h:w m λrs m1=>∃ds:List dL,rs=ds.map .imm/\ds.length=fs.length/\fs.length≤1000/\E (.dict ((.none,.str x)::zipF fs ds)) m1):rH x fs E w D m:=h
theorem Qz{rs:List R}{fs:List Str}{P:List dL->Prop}(ds:List dL)(e:rs=ds.map .imm)(l:ds.length=fs.length)(z:fs.length≤1000)(h:P ds):∃ds:List dL,rs=ds.map .imm/\ds.length=fs.length/\fs.length≤1000/\P ds:=⟨ds,e,l,z,h⟩
end
theorem Oq(h:aat K aao c=some (some (.ref C))):clsA K c=C:=by unfold clsA;rw[h]
structure ClsK(K:Mt)(c:Str):Prop where
 ns:aat K aao c=some (some (.ref (clsA K c)))
theorem ClsK.of(a:aat K aao c=some (some (.ref C))):ClsK K c:=⟨by rw[Oq a];exact a⟩
theorem ClsK.m{h:aaM}(k:ClsK K c)(X:K.In h)(G:h.Ns aao mg):mg c=some (.ref (clsA K c)):=aeL X G k.ns
theorem SubX.of{f:Str}{d:Addr}(a:aat K aao f=some (some (.ref d)))(b:aat K aao c=some (some (.ref C)))(e:ah7 K (.ref d) (.ref C)=some true):SubX K f c:=⟨d,C,a,b,e⟩
noncomputable def JZ(K:Mt)(c:Str)(wb:(dL->MSt->Prop)->WS)(w:WS):WS:=λD m=>m.np=0/\wb (λd b=>∃a k,d = .dict ((.none,.str a)::k)/\SubX K a c/\w D b.dropO) D m
theorem Jv{X:Cx}{B:Stmt}{cp hp pos:Pos}{Cc:Addr}{ws:WS}(hm:X.mg c=some (.ref Cc))(hn:aat X.K aao c=some (some (.ref Cc)))
  (hb:∀(l:mT->oR->Prop) (pn:List (Addr×Obj)) (b:EB) (Y:dL->MSt->Prop),XL (X.tr l pn b) Y->MSs (X.tr l pn b) body (wb Y)) (hs:∀(e:Addr) (l:mT->oR->Prop),MSs (X.sui e l) (B::suite) ws)
  (hg:Gl X c:=by rfl) (hdb:(c==("__debug__" : Str))=false:=by decide) (hex:X.ex=[]:=by rfl) (hS:X.stack=X.env::X.outer:=by rfl) (hL:X.env.frame=some X.env.locals:=by rfl) :
  MS X (.Try body [.ExceptHandler (some (.Name c cp)) none (B::suite) hp] [] [] pos) (JZ X.K c wb ws):=by
 intro p s σ H D I h;obtain⟨A,m,De,V,⟨np0,hw⟩,k⟩:=h;have F:X.kx.eb.np=0:=by have:=V.ebl;omega
 refine wpAny_Try_except ?_;generalize hxe:(λ(e:mT) (s₁:oR)=>wpAny (model X.prog X.w) X.A (ahI e X.env) (λ_ U=>wpAny (model X.prog X.w) X.A (aga e none) (λ_ s₃=>wpAny (model X.prog X.w) X.A (handleBy e X.env [.ExceptHandler (some (.Name c cp)) none (B::suite) hp]) (SP X p D) X.xe s₃) X.xe U) X.xe s₁)=l;have O:Ext 0 A H A H:=⟨rfl,Frm.refl _ _,λ_ h=>.inl h,λa ha=>(let ⟨o,eo,_⟩:=V.mem ha;⟨o,eo⟩)⟩;have back:∀{i:Al}{t:MSt}{g:St}{j:Hp},Rel (X.tr l (X.pn++p) ⟨0,A,H⟩).kx i t g j->Rel X.kx i t g j:=λ{i t g j} R=>R.reEb rfl (by rw[F];exact abC _) (by
  have W:=V.ebx;rw[F]at W⊢;exact W.trans R.ebx)
 have k':EndsOk (X.tr l (X.pn++p) ⟨0,A,H⟩).kx m.np A H De D:=⟨λi t g j q n R x=>k.nx i t g j q n (back R) x,λr i t g v j q n R rr x=>k.rt r i t g v j q n (back R) rr x,λi t g j q n R x=>k.bk i t g j q n (back R) x,λi t g j q n R x=>k.ct i t g j q n (back R) x⟩;have Rl':Rel (X.tr l (X.pn++p) ⟨0,A,H⟩).kx A m σ H:=V.reEb rfl (abC _) O;have xl:XL (X.tr l (X.pn++p) ⟨0,A,H⟩) (λd t=>∃c' Z,d = .dict ((.none,.str c')::Z)/\SubX X.K c' c/\ws De t.dropO):=by
  refine⟨λpins' w H1 J α1 m1 d s2 e C dct R1 hE pe xt I2 xf xd=>?_,hex⟩;show l (.ref e) s2;rw[<-hxe];have S:Inv X p w J s2:=I2.untr;have L:XF (Yg X p) J s2.heap e C dct:=xf.imp λb y=>y.untr;obtain⟨c',Z,rfl,⟨C',Cc',hn',Q,hexm⟩,hws⟩:=hE;obtain⟨c2,Ca,kvs2,ed,rfl,hcl,hdct⟩:=xd;cases ed;obtain rfl:Cc'=Cc:=by rw[hn]at Q;cases Q;rfl
  obtain rfl:Ca=C':=by
   have:aat X.K aao c'=some (some (.ref Ca)):=hcl;rw[hn']at this;cases this;rfl
  refine v3 (base:=X.base) (by rw[<-hS];exact S.ok.frames) (by rw[<-hS];exact S.stack) hL L (λT hT=>⟨S.hok.fresh hT,S.yg hex (acv hT)⟩) λh4 To hTo st E=>?_;have I4:Inv X p w J {s2 with heap:=h4}:=S.noted hS L.new L.un hTo st;have LT:aeN (model X.prog X.w) h4 (agm (.ref e)) (.ref Ca):=by
   obtain⟨oe,vs,he,hc,_⟩:=E.obj;exact hc▸(aeN.ld he).andThen .now
  refine wpAny_handleBy_cons (codeAny_handlers_test (j7 (X:=X.sui e X.xe) (I4.sui) hg hm ?_ hdb)) (by intro z;cases z);refine(PySem.W.exm_one (M:=model X.prog X.w) I4.kIn LT hexm).here ?_;show ael _ _ _ _ _;refine codeAny_handlers_suite (Fb E λh5 To5 hTo5 st5 xf5=>?_);have I5:Inv X p w J {s2 with heap:=h5}:=I4.noted (s:={s2 with heap:=h4}) hS E.new E.un hTo5 (st5.mono λb z=>by cases z);have xtf:Ext 0 α1 H1 [] J:=⟨rfl,λb o q nb=>xt.frm b o q nb,λa ha=>(by cases ha),λa ha=>xt.old a ha⟩;have P:Ext 0 A H [] J:=R1.ebx.trans xtf;have Rd:Rel X.kx [] m1.dropO w J:=(back R1).drop pe F (by
   have W:=V.ebx;rw[F]at W;exact W.trans P)
  have G:m.np=0:=np0;refine abP (hs e _ p _ w J D I5.sui ⟨[],_,De,Rd,hws,⟨λi t g j q n R x=>?_,λr i t g v j q n R rr x=>?_,λi t g j q n R x=>?_,λi t g j q n R x=>?_⟩⟩) (λf s8 q=>?_) λx s8 q=>q
  .exact k.nx i t g j q (n.trans G.symm) R (by rw[G];exact P.trans x)
  .exact k.rt r i t g v j q (n.trans G.symm) R (rr.ext P) (by rw[G];exact P.trans x)
  .exact k.bk i t g j q (n.trans G.symm) R (by rw[G];exact P.trans x)
  .exact k.ct i t g j q (n.trans G.symm) R (by rw[G];exact P.trans x)
  .cases f with
   |next=>
    obtain⟨g,j,N,q⟩:=q;exact⟨g,j,N.unsui I.ok,q⟩
   |brk=>
    obtain⟨g,j,N,q⟩:=q;exact⟨g,j,N.unsui I.ok,q⟩
   |cont=>
    obtain⟨g,j,N,q⟩:=q;exact⟨g,j,N.unsui I.ok,q⟩
   |ret u=>
    obtain⟨v,g,j,N,r,q⟩:=q;exact⟨v,g,j,N.unsui I.ok,r,q⟩
 refine abP (hb l (X.pn++p) ⟨0,A,H⟩ _ xl [] s σ H D I.tr ⟨A,m,De,Rl',hw,k'⟩) (λf s1 q=>?_) (λe s1 q=>q);have q':=SP.untr q
 cases f with
 |next=>exact ad0 q'
 |brk=>exact q'
 |cont=>exact q'
 |ret u=>exact q'
theorem E8{X:Cx}{a:Stmt}{i hp pos:Pos}{g:Addr}{w:WS}(j:X.mg c=some (.ref g))(k:aat X.K aao c=some (some (.ref g)))
  (hb:∀(x:mT->oR->Prop) (pn:List (Addr×Obj)) (b:EB) (E:dL->MSt->Prop),XL (X.tr x pn b) E->ESs (X.tr x pn b) body (wb E)) (hs:∀(e:Addr) (x:mT->oR->Prop),ESs (X.sui e x) (a::suite) w)
  (n:Gl X c:=by rfl) (d:(c==("__debug__" : Str))=false:=by decide) (f:X.ex=[]:=by rfl) (l:X.stack=X.env::X.outer:=by rfl) (m:X.env.frame=some X.env.locals:=by rfl) :
  ES X (.Try body [.ExceptHandler (some (.Name c i)) none (a::suite) hp] [] [] pos) (JZ X.K c wb w):=⟨Jv j k (λx pn b E h=>(hb x pn b E h).h) (λe x=>(hs e x).h) n d f l m⟩
theorem QX{w:WS}{D:cV}{m:MSt}(e:m.np=0)(h:wb (λd b=>∃a kvs,d = .dict ((.none,.str a)::kvs)/\SubX K a c/\w D b.dropO) D m):JZ K c wb w D m:=⟨e,h⟩
noncomputable def oPop:WM:=λr rs m K=>p9 (λk=>∃(ds:List dL) (d:dL),rs=[]/\m.os[k]?=some (ds++[d])/\K (.imm d) {m with os:=m.os.set k ds}) r
theorem Wz{m:MSt}{k:Nat}{d:dL}{K:R->MSt->Prop}(e:m.os[k]?=some (ds++[d]))(h:K (.imm d) {m with os:=m.os.set k ds}):oPop (.obj k) [] m K:=⟨ds,d,rfl,e,h⟩
section
variable {X:Cx}
theorem Mj:MtM X "list.pop" (mM X.kx oPop):=by
 rintro p s b H x A v u Q I h t ⟨D,m,E,J,G,r,rs,B,R,j,l,ho,f⟩;obtain⟨k,a,rfl,e,rfl,ds,d,rfl,n,ho⟩:=uE j ho;cases l;obtain⟨y,q,g⟩:=R.own _ _ _ e n;have gd:=g.dropLast;rw[List.dropLast_concat]at gd;obtain⟨R2,F⟩:=R.setO e q gd;obtain⟨w,z,o⟩:=g.get (i:=ds.length) (d:=d) (by simp);exact SY p s b H _ _ v u Q I h t ⟨a,y,w,rfl,rfl,q,by rw[<-g.length,aap];exact z,f _ _ _ _ ho rfl R2 (kj (o.mono (R.pers F))) F⟩
end
end L2
namespace K
open PySem L2
variable{F G M:List Pt}{p x0 y:Pt}{h:Hall}{r:Rule}{sc:Pt->List Pt}{l:ahW}
local macro_rules | `(tactic| walk_at"1") => `(tactic| first
 |(with_reducible first|apply zP|apply VP)|((with_reducible refine' Ui ?xe ?_);(case xe=>rfl))|(with_reducible first|apply x_c|apply Qy|apply Qk|apply JU|apply LQ|apply MH|apply VX|apply IM|apply Qb|apply x_lt|apply x_le|apply x_gt|apply x_ge|apply WY|apply Wq|apply Wr|apply U4|apply x_isT)|((with_reducible refine' x_nd ?xe ?_);(case xe=>first|rfl|assumption))|(with_reducible first|apply x_rev|apply x_min|apply x_max)|((with_reducible refine' Vn ?_))|(with_reducible first|apply QC|apply x_mt|apply x_ts)
 |((with_reducible refine' bC ?xe ?_);(case xe=>rfl))|((with_reducible refine' jX ?xf ?xe ?_);(case xf=>rfl);(case xe=>rfl))|((with_reducible refine' tZ ?xe ?_);(case xe=>rfl))|((with_reducible refine' jg ?xe ?_);(case xe=>rfl))
 |((with_reducible refine' TU ?xe ?_);(case xe=>omega))|((with_reducible refine' iu ?xe ?_);(case xe=>exact cfd (by omega) (by omega)))|((with_reducible refine' bU ?xe ?_);(case xe=>exact U5 (by omega)))|((with_reducible refine' Wg ?xe ?_);(case xe=>exact⟨by decide,by decide,by decide⟩))
 |(with_reducible first|apply Km|apply fH|apply x_bindO|apply VF|apply Vv|apply Uc|apply QB)|((with_reducible refine' W6 ?xe ?xf ?_);(case xe=>rfl);(case xf=>rfl))
 |(with_reducible first|apply W9|apply x_or|apply Wx|apply x_andV|apply x_orV|apply x_notV|apply Ub|apply Vc|apply x_cb|apply Sk)|((with_reducible refine' WF ?xe ?xf ?_);(case xe=>rfl);(case xf=>decide))
 |(with_reducible first|apply Wf|apply UM)|((with_reducible refine' WZ ?xe ?xf ?_);(case xe=>rfl);(case xf=>exact of_decide_eq_true rfl))|(with_reducible first|apply Vt|apply x_dix|apply O7|apply u8|apply RJ|apply x_disp|apply x_pNil|apply x_pCons|apply gm|apply x_bindA)|((with_reducible refine' x_dgot ?xa ?xb ?xc ?xd ?xe ?_);(case xa=>rfl);(case xb=>rfl);(case xc=>rfl);(case xd=>rfl);(case xe=>rfl))|((with_reducible refine' x_dgotN ?xa ?xb ?xc ?xd ?xe ?_);(case xa=>rfl);(case xb=>rfl);(case xc=>rfl);(case xd=>rfl);(case xe=>rfl))|((with_reducible refine' x_dputs ?xa ?xb ?xc ?xd ?xe ?xf ?_);(case xa=>rfl);(case xb=>rfl);(case xc=>rfl);(case xd=>rfl);(case xe=>exact of_decide_eq_true rfl);(case xf=>rfl))|((with_reducible refine' x_onPairs ?xa ?xb ?xc ?xd ?_);(case xa=>rfl);(case xb=>rfl);(case xc=>exact of_decide_eq_true rfl);(case xd=>rfl))
 |with_reducible apply NK|((with_reducible refine' QW ?xe ?xf ?_);(case xe=>rfl);(case xf=>decide))|(with_reducible first|apply x_raise|apply C6|apply x_excI|apply x_excP|apply x_xf|apply x_isX|apply x_isXs)|((with_reducible refine' x_rz ?xe ?_);(case xe=>exact of_decide_eq_true rfl))
 |((with_reducible refine' x_onAgs ?xa ?xb ?_);(case xa=>rfl);(case xb=>decide))|(with_reducible first|apply x_tupR|apply UG|apply x_immT|apply x_fsC|apply x_fsN|apply x_trI|apply x_trN|apply x_trT|apply x_fldI)|((with_reducible refine' x_fgot ?xa ?xb ?xc ?xd ?xe ?_);(case xa=>rfl);(case xb=>rfl);(case xc=>rfl);(case xd=>rfl);(case xe=>rfl))|((with_reducible refine' x_fgotN ?xa ?xb ?xc ?xd ?xe ?_);(case xa=>rfl);(case xb=>rfl);(case xc=>rfl);(case xd=>rfl);(case xe=>rfl))|with_reducible apply x_meth|((with_reducible refine' x_insR ?xa ?xb ?xc ?_);(case xa=>rfl);(case xb=>rfl);(case xc=>rfl))|with_reducible apply x_make|((with_reducible refine' x_onImms ?xa ?_);(case xa=>rfl))|(with_reducible first|apply x_reps|apply x_dputT|apply x_empt|apply x_dispT|apply VQ)|((with_reducible refine' x_onPairsT ?xa ?xb ?xc ?_);(case xa=>rfl);(case xb=>rfl);(case xc=>exact of_decide_eq_true rfl))
 |(with_reducible first|apply x_un|apply Ve|apply Vh|apply x_intI|apply UA|apply VI|apply RF|apply Qw)|((with_reducible refine' OZ ?xe ?_);(case xe=>rfl))|(with_reducible first|apply QZ|apply VT|apply Vz|apply Ut|apply x_retN|apply x_chain|apply x_ml)|((with_reducible refine' x_ls ?xe ?_);(case xe=>rfl))
 |(with_reducible first|apply x_isN|apply x_isB|apply Ij|apply x_gM|apply Qg|apply Nk|apply QL)
 |((with_reducible refine' Om ?xe ?_);(case xe=>rfl))|with_reducible apply Sd|((with_reducible refine' x_list ?xe ?_);(case xe=>rfl))|((with_reducible refine' Oz ?xe ?_);(case xe=>rfl))|(with_reducible first|apply x_listR|apply x_sl|apply Ik|apply Qu|apply U3|apply T6|apply QY|apply OQ)|((with_reducible refine' P6 ?xe ?_);(case xe=>rfl))|(with_reducible first|apply Tz|apply x_rng2|apply JE|apply KO|apply W5|apply CG|apply R8|apply lB)|with_reducible apply j5)
local macro_rules | `(tactic| walk_at"s") => `(tactic| repeat walk_at"1")
local macro_rules | `(tactic| walk_at"n") => `(tactic| first | dsimp only [mapR, cb, List.set, MSt.setV, MSt.setN, List.take, List.length, List.append, jp, xp, Nat.reduceAdd, List.getD_cons_succ, List.getD_cons_zero, List.nil_append, List.cons_append, setT, lfD] | dsimp only [mapR, cb, List.set, MSt.setV, MSt.setN, List.take, List.length, List.append, jp, xp, Nat.reduceAdd, List.getD_cons_succ, List.getD_cons_zero, List.nil_append, List.cons_append] | skip)
local macro_rules | `(tactic| walk_at "sc") => `(tactic| exact ⟨rfl, rfl, rfl, by decide +kernel, rfl, by decide +kernel, by decide +kernel⟩)
local macro_rules | `(tactic| walk_at"x") => `(tactic| (walk_at"n"; walk_at"s"))
local macro_rules | `(tactic| walk_at "a") => `(tactic| (refine bj (λz=>absurd z (by decide +kernel)) (λ_=>?_);walk_at"s";refine bj (λz=>absurd z (by decide +kernel)) (λ_=>?_);walk_at"s"))
local macro_rules | `(tactic| walk_at "b") => `(tactic| (refine bj (λz=>absurd z (by decide +kernel)) (λ_=>?_);walk_at"s";refine bj (λ_=>?_) (λz=>(z rfl).elim);walk_at"s"))
local macro_rules | `(tactic| walk_at "c") => `(tactic| (refine cq ?_;walk_at"x"))
noncomputable def top(i:Nat):Stmt:=PySem.Challenge.pw_shorterline_k28_whole_turn_behind_turn.main.body.getD i (.Pass ⟨0,0,0,0⟩)
noncomputable abbrev cz:Stmt:=top 5
noncomputable abbrev fY:Stmt:=top 6
noncomputable abbrev iQ:Stmt:=top 7
noncomputable abbrev oy:Stmt:=top 8
noncomputable abbrev mR:Stmt:=top 9
noncomputable abbrev cB:Stmt:=top 10
noncomputable abbrev dh:Stmt:=top 13
noncomputable abbrev de:Stmt:=top 15
noncomputable abbrev ot:Stmt:=top 16
noncomputable abbrev db:Stmt:=top 17
noncomputable abbrev mL:Stmt:=top 18
noncomputable abbrev f7:Stmt:=top 20
noncomputable abbrev fe:Stmt:=top 21
noncomputable abbrev iJ:Stmt:=top 22
noncomputable abbrev oo:Stmt:=top 23
noncomputable abbrev m9:Stmt:=top 24
noncomputable abbrev gL:Stmt:=top 25
noncomputable abbrev oG:Stmt:=top 26
noncomputable abbrev fz:Stmt:=top 27
noncomputable abbrev nK:Stmt:=top 28
noncomputable abbrev kL:Stmt:=top 29
noncomputable abbrev dw:Stmt:=top 32
noncomputable abbrev dm:Stmt:=top 33
noncomputable abbrev dF:Stmt:=top 34
noncomputable abbrev e9:Stmt:=top 35
noncomputable abbrev dN:Stmt:=top 36
noncomputable abbrev dM:Stmt:=top 37
noncomputable abbrev iL:Stmt:=top 39
noncomputable abbrev iZ:Stmt:=top 40
noncomputable abbrev kq:Stmt:=top 41
noncomputable abbrev iU:Stmt:=top 42
noncomputable abbrev gU:Stmt:=top 43
noncomputable abbrev c9:Stmt:=top 44
noncomputable abbrev gu:Stmt:=top 45
noncomputable abbrev ck:Stmt:=top 46
noncomputable abbrev gh:Stmt:=top 47
noncomputable abbrev fE:Stmt:=top 48
noncomputable abbrev dq:Stmt:=top 49
noncomputable abbrev slaw:Stmt:=top 50
structure Bl(K:Mt)(mg:Str->Option mT):Prop where
 len:mg "len" = none
 abs:mg "abs" = none
 range:mg "range" = none
 list:mg "list" = none
 tuple:mg "tuple" = none
 int:mg "int" = none
 sum:mg "sum" = none
 zip:mg "zip" = none
 min:mg "min" = none
 max:mg "max" = none
 enumerate:mg "enumerate" = none
 repr:mg "repr" = none
 sorted:mg "sorted" = none
 c_WHOLE_TURN:ConM K mg "WHOLE_TURN" (.tuple (([1,1]:List Int).map .int))
 c_MOST_STANDS:ConM K mg "MOST_STANDS" (.int 60)
 m_TooMany:mg "TooMany" = some (.ref (clsA K "TooMany"))
 i_TooMany:IniM K mg "TooMany" ["word"]
 n_TooMany:aat K aao "TooMany" = some (some (.ref (clsA K "TooMany")))
 sub:SubX K "TooMany" "TooMany"
theorem dH:FnScope ["one","other"] ["one","other"] (ac cz):=by walk_at"sc"
theorem fi:FnScope ["top","bottom","divisor"] ["top","bottom"] (ac fY):=by walk_at"sc"
theorem rL:FnScope ["one","other"] ["one","other"] (ac iQ):=by walk_at"sc"
theorem Bt:FnScope ["one","other"] ["one","other"] (ac oy):=by walk_at"sc"
theorem Ac:FnScope ["one","other"] ["one","other"] (ac mR):=by walk_at"sc"
theorem bR:FnScope ["pairs","bottom","thing","fraction"] ["pairs"] (ac cB):=by walk_at"sc"
theorem bI:FnScope ["hall","lines","place","many","server"] ["hall","lines"] (ac dh):=by walk_at"sc"
theorem ce:FnScope ["lines","order","best","line"] ["lines","order"] (ac de):=by walk_at"sc"
theorem kg:FnScope ["hall","lines","line","top","bottom"] ["hall","lines","line"] (ac ot):=by walk_at"sc"
theorem bw:FnScope ["hall","lines","order","best","least","line","wait"] ["hall","lines","order"] (ac db):=by walk_at"sc"
theorem il:FnScope ["hall","rule","stand","order","lines","turn","word"] ["hall","rule","stand","order"] (ac mL):=by walk_at"sc"
theorem ng:FnScope ["hall"] ["hall"] (ac f7):=by walk_at"sc"
theorem cC:FnScope ["hall","many","orders","place"] ["hall"] (ac fe):=by walk_at"sc"
theorem ud:FnScope ["lines","line","more"] ["lines","line","more"] (ac iJ):=by walk_at"sc"
theorem BQ:FnScope ["hall","lines","line"] ["hall","lines","line"] (ac oo):=by walk_at"sc"
theorem zy:FnScope ["lines","line"] ["lines","line"] (ac m9):=by walk_at"sc"
theorem qf:FnScope ["hall","lines"] ["hall","lines"] (ac gL):=by walk_at"sc"
theorem iB:FnScope ["hall","lines","shift"] ["hall","lines"] (ac oG):=by walk_at"sc"
theorem oa:FnScope ["hall","rule","turn"] ["hall","rule","turn"] (ac fz):=by walk_at"sc"
theorem yY:FnScope ["hall","rule","stand","move"] ["hall","rule","stand","move"] (ac nK):=by walk_at"sc"
theorem bJ:FnScope ["hall","rule","stand","move","lines","turn","word","line"] ["hall","rule","stand","move"] (ac kL):=by walk_at"sc"
theorem aL:FnScope ["hall","come","servers","moved","orders","each","shares","rest","line","server"] ["hall"] (ac dw):=by walk_at"sc"
theorem aC:FnScope ["hall","rule","weights","moves","whole","stands","words","stand","weight","move","share","behind","word"] ["hall","rule","weights"] (ac dm):=by walk_at"sc"
theorem oZ:FnScope ["weights","whole"] ["weights","whole"] (ac dF):=by walk_at"sc"
theorem cA:FnScope ["hall","rule","stand","stands","words","whole"] ["hall","rule","stand"] (ac e9):=by walk_at"sc"
theorem ba:FnScope ["hall","rule","found","known","at","behind","stand","share"] ["hall","rule"] (ac dN):=by walk_at"sc"
theorem bc:FnScope ["hall","rule","turns","weights","bottom","turn","words","whole"] ["hall","rule","turns"] (ac dM):=by walk_at"sc"
theorem t7:FnScope ["_law_script"] ["_law_script"] (ac iL):=by walk_at"sc"
theorem cj:FnScope ["_law_tape_here","_law_many","_law_found","_law_at","_law_cell","_law_mixed"] ["_law_tape_here","_law_many"] (ac iZ):=by walk_at"sc"
theorem i6:FnScope ["_law_top","_law_bottom","_law_one","_law_other"] ["_law_top","_law_bottom"] (ac kq):=by walk_at"sc"
theorem sx:FnScope ["_law_one","_law_other"] ["_law_one","_law_other"] (ac iU):=by walk_at"sc"
theorem rh:FnScope ["_law_one","_law_other"] ["_law_one","_law_other"] (ac gU):=by walk_at"sc"
theorem dG:FnScope ["_law_tape_here","_law_many","_law_most","_law_parts_here","_law_rest"] ["_law_tape_here","_law_many"] (ac c9):=by walk_at"sc"
theorem bA:FnScope ["_law_tape_here","_law_menu","_law_rooms","_law_shares","_law_speeds","_law_slowest","_law_speed","_law_servers"] ["_law_tape_here","_law_menu"] (ac gu):=by walk_at"sc"
theorem bi:FnScope ["_law_hall_here","_law_found","_law_speed","_law_room","_law_longer","_law_lines"] ["_law_hall_here"] (ac ck):=by walk_at"sc"
theorem kI:FnScope ["_law_tape_here","_law_hall_here","_law_word"] ["_law_tape_here","_law_hall_here"] (ac gh):=by walk_at"sc"
theorem cW:FnScope ["_law_hall_here","_law_rule_here","_law_told"] ["_law_hall_here","_law_rule_here"] (ac fE):=by walk_at"sc"
theorem bX:FnScope ["_law_hall_here","_law_rule_here","_law_coming_here","_law_first","_law_met","_law_line","_law_later","_law_share"] ["_law_hall_here","_law_rule_here","_law_coming_here"] (ac dq):=by walk_at"sc"
theorem fg:FnScope ["_law_script","_law_tape_here","_law_menu","_law_k","_law_hall_here","_law_rule_here","_law_turns","_law_sums","_law_stand","_law_share","_law_later","_law_part","_law_told","_law_whole","_law_coming_here","_law_many"] ["_law_script"] (ac slaw):=by walk_at"sc"
noncomputable abbrev f8:Stmt:=(L7 (top 2)).getD 0 (.Pass ⟨0,0,0,0⟩)
theorem w9:FnScope ["self","word"] ["self","word"] (ac f8):=⟨rfl,rfl,rfl,by decide +kernel,rfl,by decide +kernel,by decide +kernel⟩
theorem yQ:∀(kV d pm:mT) (an:Option Addr) (c ct:mT) (u:List mT),u.length=(["self","word"]:List Str).length->bindArgs (acP "__init__" "TooMany.__init__" (fU f8) (bO f8) (ac f8) .none kV d pm an c ct) ⟨u,[]⟩=pure ((["self","word"]:List Str).zip u):=λ_ _ _ _ _ _ u a=>match u,a with|[_,_],_=>rfl
theorem ye{k:Nat}{ds:List dL}{g:WG}{w:WS}{D:cV}{m1:MSt}(P:Nat->MSt->Prop)(p0:P 0 (m1.setN (max m1.np (k+1))))(ok:∀i m,P i m->m.os[k]?=some ds)
  (step:∀(i:Nat) (d:dL) (m:MSt),ds[i]?=some d->m.np=max m1.np (k+1)->P i m->∀a:cV,(∀b,P (i+1) b->a.nx b)->g d m λm2=>w a m2)
  (f:∀m,m.np=max m1.np (k+1)->P ds.length m->D.nx (m.setN m1.np)):ie ⟨ds,some k⟩ g w D m1:=oj P p0 ok (λi d m e n p=>step i d m e n p _ λ_ z=>z) f
noncomputable def knD(F:List Pt):List (dL×dL):=F.map λp=>(ptD p,.bool true)
noncomputable def z0(h:Hall):Pt:=(zer h,0)
theorem yr:(bZ (ptD p) (knD F)).isSome=decide (p∈F):=by
 induction F with
 |nil=>rfl
 |cons q F i=>
  show(if aak (ptD q) (ptD p)=true then some (dL.bool true)else bZ (ptD p) (knD F)).isSome=_;rw[fJ]
  by_cases e:q=p
  .rw[if_pos (decide_eq_true e),e];exact(decide_eq_true GE).symm
  .rw[if_neg (by rw[decide_eq_false e];exact aaq),i,aca,decide_eq_true_iff,decide_eq_true_iff,aai];exact⟨.inr,λq=>q.elim (λw=>absurd w.symm e) id⟩
theorem Jf(h:p∉F):putP (ptD p) (.bool true) (knD F)=knD (F++[p]):=by
 induction F with
 |nil=>rfl
 |cons q F i=>
  obtain⟨n1,n2⟩:=not_or.mp λw=>h (aai.mpr w);show(if aak (ptD q) (ptD p)=true then _ else _::putP (ptD p) (.bool true) (knD F))=_;rw[fJ,if_neg (by rw[decide_eq_false λe=>n1 e.symm];exact aaq),i n2];rfl
theorem L4(ho:h.Ok)(S:∀p∈F,St h r p.1 p.2):kyA (knD F)=true:=by
 unfold kyA knD;rw[ado,abJ];exact λp hp=>jc ho (S p hp)
noncomputable def OG:dL:=.dict [(.none,.str "TooMany"),(.str "word",.str "stands")]
structure SrF(F G:List Pt):Prop where
 p:G.Perm F
 o:G.Pairwise λa b=>ltP a b=true
noncomputable def IU:SpX:=λa K E=>∃(h:Hall) (r:Rule),a=[.imm h.d,.imm r.d]/\DuOk h r 1/\(∀(F G:List Pt) (i:Nat),Cmg (scS h r) (z0 h) F i->F.length≤i->F.length<61->SrF F G->K (.new (G.map ptD)) [])/\∀(F:List Pt) (i:Nat),Cmg (scS h r) (z0 h) F i->60<F.length->E OG
theorem AI(S:∀p∈F,St h r p.1 p.2)(nd:F.Nodup)(n:F.length<64):WOk h r (F.map λp=>(p,(0:Int))):=by
 refine⟨λp hp=>?_,?_,by rwa[gE],λp hp=>?_⟩
 .obtain⟨q,hq,rfl⟩:=aac.mp hp;exact S q hq
 .rwa[aaD,show((λx:Pt×Int=>x.1)∘λp:Pt=>(p,(0:Int)))=id from rfl,aeg]
 .obtain⟨q,hq,rfl⟩:=aac.mp hp;show(0:Int).natAbs<10^76;decide
theorem SrF.srd(s:SrF F G):Srd (F.map λp=>(p,(0:Int))) (G.map λp=>(p,(0:Int))):=⟨s.p.map _,by rw[aev];exact s.o⟩
theorem SrF.uniq{d c:List Pt}(S:∀p∈F,St h r p.1 p.2)(nd:F.Nodup)(n:F.length<64)(e:d.Perm F)(a:SrF F G)(b:SrF d c):c=G:=by
 have f:SrF F c:=⟨b.p.trans e,b.o⟩;have q:=congrArg (List.map (·.1)) (f.srd.uniq (AI S nd n) a.srd);rwa[aaD,aaD,show((λx:Pt×Int=>x.1)∘λp:Pt=>(p,(0:Int)))=id from rfl,aeg,aeg]at q
noncomputable def menu28:List (List Nat):=[[1],[4],[1,1],[3,2],[2,2],[1,2,2],[2,1,1],[1,1,1,1]]
theorem zH:Jq menu28:=by
 refine⟨by decide,by decide,?_⟩;decide
noncomputable def altR(m:List (List Nat)):List (List Nat):=m.flatMap λrs=>[rs,aam rs.length (rs.headD 0)]
theorem Gw:∀rs∈altR menu28,rs∈Kg:=by decide
theorem Gq{S p0:Nat}{q rs:List Nat}{mv:Bool}(h:q.length=rs.length):(xH S p0 q rs mv).rs=rs:=by
 show(adI (srvS S) q rs).map Srv.r=rs;refine af3 (by rw[gE,ag8];omega) λi a b=>?_;rw[aeH,List.getElem_zipWith];rfl
noncomputable def za:SpM:=λa K=>∃(fd:List dL) (c:Nat) (m:List (List Nat)),a=[.own fd,.imm (.list (m.map lnD))]/\Jq m/\TapeD c fd/\c<800000000/\∀(h:Hall) (S:Nat) (f:List dL),h.Ok->OfS h S->h.rs∈altR m->TapeD (c+20) f->K (.imm h.d) [f]
noncomputable def Jt:SpM:=λa K=>∃(h:Hall) (r:Rule),a=[.imm h.d,.imm r.d]/\DuOk h r 1/\(∀(F G:List Pt) (i:Nat),Cmg (scS h r) (z0 h) F i->F.length≤i->F.length<61->SrF F G->K (.new (G.map ptD)) [])/\∀(F:List Pt) (i:Nat),Cmg (scS h r) (z0 h) F i->60<F.length->K (.new []) []
noncomputable def vG:SpM:=λa K=>∃(h:Hall) (r:Rule) (F G:List Pt) (i:Nat),a=[.imm h.d,.imm r.d,.imm (.list (G.map ptD))]/\DuOk h r 1/\Cmg (scS h r) (z0 h) F i/\F.length≤i/\F.length<61/\SrF F G/\K (.imm (.bool true)) []
structure Clo(sc:Pt->List Pt)(x0:Pt)(M L:List Pt):Prop where
 nd:M.Nodup
 rc:∀y∈M,Rch sc x0 y
 hd:x0∈M
 cl:∀y∈M,y∈L\/∀z∈sc y,z∈M
theorem Clo.one:Clo sc x0 [x0] [x0]:=⟨aek _ _,λy a=>by rw[OR.mp a];exact .here,OR.mpr rfl,λy a=>.inl a⟩
theorem yO{xs:List Pt}:(add1 (adds M xs) y).drop M.length=if y∈adds M xs then(adds M xs).drop M.length else(adds M xs).drop M.length++[y]:=by
 unfold add1;split
 .rfl
 .exact List.drop_append_of_le_length gj.1
theorem nR{xs:List Pt}(a:y∈adds M xs):y∈M\/y∈(adds M xs).drop M.length:=by
 obtain⟨i,e⟩:=acB a
 by_cases z:i<M.length
 .rw[oO z]at e;exact .inl (DL e)
 .refine .inr (DL (i:=i-M.length) ?_);rw[List.getElem?_drop,show M.length+(i-M.length)=i by omega];exact e
theorem Clo.next{L B:List Pt}(X:Clo sc x0 M (L++[p]))(hp:p∈M)(c:∀z,z∈B↔z∈sc p):Clo sc x0 (adds M B) (L++(adds M B).drop M.length):=by
 refine⟨tJ X.nd,λy b=>?_,mem_adds.mpr (.inl X.hd),λy b=>?_⟩
 .rcases mem_adds.mp b with q|q
  .exact X.rc y q
  .exact(X.rc p hp).next ((c y).mp q)
 .rcases nR b with q|q
  .rcases X.cl y q with w|w
   .rcases aaK.mp w with w|w
    .exact .inl (acw _ w)
    .rw[OR.mp w];exact .inr λz a=>mem_adds.mpr (.inr ((c z).mpr a))
   .exact .inr λz a=>mem_adds.mpr (.inl (w z a))
  .exact .inl (aa7 _ q)
theorem Clo.all(X:Clo sc x0 M [])(R:Rch sc x0 y):y∈M:=by
 induction R with
 |here=>exact X.hd
 |next _ a i=>exact(X.cl _ i).elim (λq=>by cases q) λq=>q _ a
theorem Clo.same{i:Nat}(X:Clo sc x0 M [])(C:Cmg sc x0 F i)(h:F.length≤i):M.Perm F:=(afB X.nd C.nd).mpr λa=>⟨λq=>C.all h (X.rc a q),λq=>X.all (C.rc a q)⟩
theorem Clo.le{L:List Pt}{i:Nat}(X:Clo sc x0 M L)(C:Cmg sc x0 F i)(h:F.length≤i):M.length≤F.length:=Ba X.nd λa q=>C.all h (X.rc a q)
theorem KG(M:List Pt):jJ (knD M)=M.map ptD:=by
 unfold jJ knD;rw[aaD];rfl
theorem i7(G:List Pt):∀d∈G.map ptD,Shp 2 d:=λd hd=>by
 obtain⟨p,_,rfl⟩:=aac.mp hd;exact tW _ _
theorem yw:((G.map ptD).any λy=>aak y (ptD p))=decide (p∈G):=by
 rw[aca,agd,decide_eq_true_iff];constructor
 .rintro⟨d,hd,e⟩;obtain⟨q,b,a⟩:=aac.mp hd;rw[<-a,fJ]at e;rw[<-of_decide_eq_true e];exact b
 .intro h;exact⟨_,aac.mpr ⟨p,h,rfl⟩,by rw[fJ];exact decide_eq_true rfl⟩
theorem LZ{d x:dL}{tl:List dL}{m:MSt}{K:L2.R->Prop}(e:d = .tuple (x::tl))(h:K (.imm x)):o6 (.imm d) (.imm (.int 0)) m K:=by
 subst e;exact bC (bg (j:=0) rfl) h
theorem TX(r:Rule):∃tl,r.d = .tuple (.str r.word::tl):=by cases r<;>exact⟨_,rfl⟩
theorem Fu{D:Int}(h:0<D):nfP D D=(1,1):=(oq h (by decide) (by omega)).trans (show nfP 1 1=(1,1) by decide)
noncomputable def ComR(h:Hall)(r:Rule)(G:List Pt):Prop:=(G=[]/\60<(M3.allR h.rs).length*r.many h)\/∃(F:List Pt) (i:Nat),Cmg (scS h r) (z0 h) F i/\F.length≤i/\F.length<61/\SrF F G
theorem AV(h:Hall)(r:Rule):(decide (r.word = "turns")=true/\r.many h=h.ss.length)\/(decide (r.word = "turns")=false/\r.many h=1):=by
 cases r with
 |turns=>exact .inl ⟨by decide +kernel,rfl⟩
 |told ps=>exact .inr ⟨show decide (("told" : Str) = "turns")=false by decide +kernel,rfl⟩
 |random=>exact .inr ⟨by decide +kernel,rfl⟩
 |two=>exact .inr ⟨by decide +kernel,rfl⟩
 |least=>exact .inr ⟨by decide +kernel,rfl⟩
 |quick=>exact .inr ⟨by decide +kernel,rfl⟩
section
variable {P:aaB}{w:World}{K:Mt}{mg:Str->Option mT}{base:aaM}
theorem iq(T:Bl K mg)(D:DefM K mg "greatest_divisor" cz ["one","other"]):FnM P w K mg base "greatest_divisor" 1 2 KL:=by
 refine aU D dH rfl (nN:=2) rfl (by decide) ?ar λq A outer s H E f hr=>⟨_,(mz' (fy (au (kQ hr.units) (mv' 1) mh' (aI _)) (aa (k7 (i:=0) (j:=1) dH.nd rfl rfl (by decide) rfl rfl (mc' (mv' 1) (mc' (ae dj (mv' 0) (mv' 1)) mn')) rfl)) aaL)
   (aa (ak (mv' 0)))),?_⟩
 case ar=>rintro g e ⟨a,b,rfl,_⟩;rfl
 rintro g e v ⟨a,b,rfl,k⟩;refine am (MSt.mk [some (.imm (.int a)),some (.imm (.int b))] [] 0) rfl ?_;walk_at"s";refine jN (λn m=>∃x y:Nat,m=MSt.mk [some (.imm (.int x)),some (.imm (.int y))] [] 0/\x.gcd y=a.gcd b/\n=y) b ⟨a,b,rfl,rfl,rfl⟩ ?_;rintro n m t ⟨x,y,rfl,c,rfl⟩;walk_at"s";refine bj (λd=>?_) (λu=>?_)
 .have hy:0<n:=by omega
  walk_at"s";have o:=ah6 x hy;exact⟨x%n,o,n,x%n,rfl,by rw[agx,<-Nat.gcd_rec,agx,c],rfl⟩
 .have hy0:n=0:=by omega
  subst hy0;rw[aho]at c;walk_at"s";rw[c];exact k
theorem oM(T:Bl K mg)(D:DefM K mg "fraction_of" fY ["top","bottom"])(c:FnM P w K mg base "greatest_divisor" 1 2 KL):FnM P w K mg base "fraction_of" 2 2 FB:=by
 refine aU D fi rfl (nN:=3) rfl (by decide) ?ar λo A outer s H E f hr=>⟨_,(mz' (bq (au (cv hr.units) (mv' 1) mh' (aI _)) (aa zt) aA)
   (mz' (bq (au ji (mv' 1) mh' (aI _)) (aa (k7 (i:=0) (j:=1) fi.nd rfl rfl (by decide) rfl rfl (mc' (uB nh (mv' 0)) (mc' (uB nh (mv' 1)) mn')) rfl)) aA)
   (mz' (aw 2 fi.nd (mf' c (hr.mono (by decide)) (mc' (av pG (by rfl) T.abs IC (mc' (mv' 0) mn')) (mc' (mv' 1) mn'))))
   (aa (ak (ap (mc' (ae cR (mv' 0) (mv' 2)) (mc' (ae cR (mv' 1) (mv' 2)) mn')))))))),?_⟩
 case ar=>rintro n m ⟨a,b,rfl,_⟩;rfl
 rintro n m u ⟨t,b,rfl,hb,q,e,k⟩;refine am (MSt.mk [some (.imm (.int t)),some (.imm (.int b)),none] [] 0) rfl ?_;have d:0<t.natAbs.gcd b.natAbs:=abB _ (by omega);have g:t.natAbs.gcd b.natAbs<10^160:=aas (af7 _ (by omega)) e;unfold nf nfP at k;walk_at"s";refine bj (λz=>absurd z hb) (λ_=>?_);walk_at"s";refine bj (λz=>?_) (λz=>?_)
 .rw[if_pos z]at k;walk_at"s";refine⟨t.natAbs,b.natAbs,by rw[show(if -t<0 then - -t else -t)=(t.natAbs:Int) by split<;>omega,show -b=(b.natAbs:Int) by omega],?_⟩;walk_at"n";refine fH ?_;walk_at"x";refine iu (cfdB d g) ?_;walk_at"s";refine iu (cfdB d g) ?_;walk_at"s";exact k
 .rw[if_neg z]at k;walk_at"s";refine⟨t.natAbs,b.natAbs,by rw[show(if t<0 then -t else t)=(t.natAbs:Int) by split<;>omega,show(b.natAbs:Int)=b by omega],?_⟩;walk_at"n";refine fH ?_;walk_at"x";refine iu (cfdB d g) ?_;walk_at"s";refine iu (cfdB d g) ?_;walk_at"s";exact k
theorem ut(T:Bl K mg)(D:DefM K mg "taken_off" iQ ["one","other"])(e:FnM P w K mg base "fraction_of" 2 2 FB):FnM P w K mg base "taken_off" 3 2 P8:=by
 refine aU D rL rfl (nN:=2) rfl (by decide) ?ar λn A outer s H E f hr=>⟨_,(aa (ak (mf' e (hr.mono (by decide)) (mc' (ae sY (ae ay (ah (mv' 0) mh') (ah (mv' 1) mh')) (ae ay (ah (mv' 1) mh') (ah (mv' 0) mh'))) (mc' (ae ay (ah (mv' 0) mh') (ah (mv' 1) mh')) mn'))))),?_⟩
 case ar=>rintro m j ⟨a,b,c,d,rfl,_⟩;rfl
 rintro m j o ⟨a,b,c,d,rfl,g,i,k⟩;refine am (MSt.mk [some (.imm (.tuple [.int a,.int b])),some (.imm (.tuple [.int c,.int d]))] [] 0) rfl ?_;walk_at"s";refine bU (cN (up45 g.ha) (up45 i.hb)) ?_;walk_at"s";refine bU (cN (up45 i.ha) (up45 g.hb)) ?_;walk_at"s";refine bU (cN (up45 g.hb) (up45 i.hb)) ?_;walk_at"s";refine⟨_,_,rfl,AH g.hp i.hp,UD (fZ g.ha i.hb) (fZ i.ha g.hb),ur (fZ g.hb i.hb),?_⟩;walk_at"n";exact k
theorem yB(T:Bl K mg)(D:DefM K mg "divided" oy ["one","other"])(e:FnM P w K mg base "fraction_of" 2 2 FB):FnM P w K mg base "divided" 3 2 QQ:=by
 refine aU D Bt rfl (nN:=2) rfl (by decide) ?ar λn A outer s H E f hr=>⟨_,(aa (ak (mf' e (hr.mono (by decide)) (mc' (ae ay (ah (mv' 0) mh') (ah (mv' 1) mh')) (mc' (ae ay (ah (mv' 0) mh') (ah (mv' 1) mh')) mn'))))),?_⟩
 case ar=>rintro m j ⟨a,b,c,d,rfl,_⟩;rfl
 rintro m j q ⟨a,b,c,d,rfl,g,i,o,k⟩;refine am (MSt.mk [some (.imm (.tuple [.int a,.int b])),some (.imm (.tuple [.int c,.int d]))] [] 0) rfl ?_;walk_at"s";refine bU (cN (up45 g.ha) (up45 i.hb)) ?_;walk_at"s";refine bU (cN (up45 g.hb) (up45 i.ha)) ?_;walk_at"s";refine⟨_,_,rfl,Int.mul_ne_zero (Int.ne_of_gt g.hp) o,ur (fZ g.ha i.hb),ur (fZ g.hb i.ha),?_⟩;walk_at"n";exact k
theorem xW(T:Bl K mg)(D:DefM K mg "is_less" mR ["one","other"]):FnM P w K mg base "is_less" 1 2 Ja:=by
 refine aU D Ac rfl (nN:=2) rfl (by decide) ?ar λj A outer s H E f hr=>⟨_,(aa (ak (og ji (ae ay (ah (mv' 0) mh') (ah (mv' 1) mh')) (ae ay (ah (mv' 1) mh') (ah (mv' 0) mh')) (aI _)))),?_⟩
 case ar=>rintro i g ⟨a,b,c,d,rfl,_⟩;rfl
 rintro i g m ⟨a,b,c,d,rfl,ha,hb,n,hd,k⟩;refine am (MSt.mk [some (.imm (.tuple [.int a,.int b])),some (.imm (.tuple [.int c,.int d]))] [] 0) rfl ?_;walk_at"s";have e:decide ((a:Int)*(d:Int)<(c:Int)*(b:Int))=decide (a*d<c*b):=by
  rw[<-aaA,<-aaA];exact decide_eq_decide.mpr Int.ofNat_lt
 rw[e];exact k
theorem k6(T:Bl K mg)(D:DefM K mg "on_one_bottom" cB ["pairs"])(c:FnM P w K mg base "greatest_divisor" 1 2 KL):FnM P w K mg base "on_one_bottom" 2 1 uV:=by
 refine aU D bR rfl (nN:=4) rfl (by decide) ?ar λx A outer s H E f hr=>⟨_,(mz' (cn (i:=1) bR.nd rfl (add rfl) mh')
   (mz' (bQ (bx (mv' 0)) (bo (n:=2) (af (al 2 bR.nd) (af (al 3 bR.nd) aK))) (aa (cn (i:=1) bR.nd rfl (add rfl) (ae ay (mv' 1) (ae cR (ah (mv' 3) mh') (mf' c (hr.mono (by decide)) (mc' (mv' 1) (mc' (ah (mv' 3) mh') mn'))))))) aaL)
   (aa (ak (ap (mc' (fm (b8 (own:=["thing","fraction"]) (fr:=["bottom"]) (ps:=[1]) (sc:=(ac cB)) (by exact⟨rfl,by decide +kernel,by decide +kernel,by decide +kernel,by decide +kernel⟩) (bx (mv' 0)) (λ_ _ _ _ _=>(bo (n:=2) (af (al 0 (show ab2 ((["thing","fraction"]:List Str)++(["bottom"]:List Str))from by decide +kernel)) (af (al 1 (show ab2 ((["thing","fraction"]:List Str)++(["bottom"]:List Str))from by decide +kernel)) aK)))) (λ_ _ _ _ _=>cr) (λ_ _ _ _ _=>(ap (mc' (mv' 0) (mc' (ae ay (ah (mv' 1) mh') (ae cR (mv' 2) (ah (mv' 1) mh'))) mn')))))) (mc' (mv' 1) mn'))))))),?_⟩
 case ar=>rintro t I ⟨L,B,rfl,_⟩;rfl
 rintro t I R ⟨L,B,rfl,g,k⟩;refine am (MSt.mk [some (.imm (.list (prsD L))),none,none,none] [] 0) rfl ?_;walk_at"s";refine bG (λi m=>∃a b:Option L2.R,m=MSt.mk [some (.imm (.list (prsD L))),some (.imm (.int (botL (L.take i):Int))),a,b] [] 0) ⟨none,none,rfl⟩ ?_ ?_
 .rintro i d m e hnp ⟨a,b,rfl⟩ D1 hD1 hR1;obtain⟨p,j,rfl,z⟩:=gmap e;have hp:=g.d p (DL j);have hb:=g.pre i;walk_at"s"
  .rfl
  walk_at"s";refine⟨botL (L.take i),p.2.2,rfl,?_⟩;have J:0<(botL (L.take i)).gcd p.2.2:=abB _ hp.1;have C:(botL (L.take i)).gcd p.2.2≤botL (L.take i):=Nat.gcd_le_left _ hb.1;have o:p.2.2<10^76:=aas (aeP g.b0 hp.2.1) g.b;walk_at"x";refine iu (cfdB J (aas C (aax hb.2 (by decide)))) ?_;rw[<-Int.natCast_ediv];refine bU (cN (by rw[aaS];exact aax hb.2 (by decide)) (by rw[aaS];exact aas (adq _ _) (aax o (by decide)))) ?_;have N:botL (L.take (i+1))=botL (L.take i)*(p.2.2/(botL (L.take i)).gcd p.2.2):=by
   rw[abz,j,<-Jy _ _ hp.1];exact Cz _ _
  walk_at"s";refine hD1 _ (show ∃a b:Option L2.R,_=MSt.mk [some (.imm (.list (prsD L))),some (.imm (.int (botL (L.take (i+1)):Int))),a,b] [] 0 from⟨some (.imm p.1),some (.imm (.tuple [.int p.2.1,.int (p.2.2:Int)])),?_⟩);rw[N,aaA];rfl
 .rintro m hnp ⟨a,b,rfl⟩;have u:L.take (prsD L).length=L:=by unfold prsD;rw[gE];exact aab
  have v:1≤botL L/\botL L<10^76:=by have:=g.pre L.length;rwa[aab]at this
  rw[u];walk_at"s";refine bG (λi m=>∃a b:Option L2.R,m=MSt.mk [a,b,some (.imm (.int (botL L:Int)))] [(onB L).take i] 1) ⟨none,none,rfl⟩ ?_ ?_
  .rintro i d m e hnp ⟨a,b,rfl⟩ D1 hD1 hR1;obtain⟨p,j,rfl,z⟩:=gmap e;have hp:=g.d p (DL j);have Q:=g.n;have o:p.2.2<10^76:=aas (aeP g.b0 hp.2.1) g.b;walk_at"s"
   .rfl
   walk_at"s";refine iu (cfdB hp.1 (aax o (by decide))) ?_;rw[<-Int.natCast_ediv];refine bU (cN (aax hp.2.2 (by decide)) (by rw[aaS];exact aas (adq _ _) (aax v.2 (by decide)))) ?_;walk_at"x";refine⟨_,rfl,by rw[aaU,aan];omega,hD1 _ ⟨some (.imm p.1),some (.imm (.tuple [.int p.2.1,.int (p.2.2:Int)])),?_⟩⟩;have O:(onB L)[i]?=some (.tuple [p.1,.int (p.2.1*((botL L/p.2.2:Nat):Int))]):=by unfold onB;rw[aae,j];rfl
   rw[abz,O];rfl
  .rintro m hnp ⟨a,b,rfl⟩;have q:(onB L).take (prsD L).length=onB L:=by
    have:(prsD L).length=(onB L).length:=by unfold prsD onB;rw[gE,gE]
    rw[this];exact aab
   rw[q];walk_at"x";exact k
theorem jq(T:Bl K mg)(D:DefM K mg "place_of_lines" dh ["hall","lines"]):FnM P w K mg base "place_of_lines" 1 2 zJ:=by
 refine aU D bI rfl (nN:=5) rfl (by decide) ?ar λv A outer s H E f hr=>⟨_,(mz' (aw 2 bI.nd mh')
   (mz' (bQ (JK T.zip (mc' (mv' 1) (mc' (ah (mv' 0) mh') mn'))) (bo (n:=2) (af (al 3 bI.nd) (af (al 4 bI.nd) aK))) (aa (aw 2 bI.nd (ae bh (ae ay (mv' 2) (ae bh (ah (mv' 4) mh') mh')) (mv' 3)))) aaL)
   (aa (ak (mv' 2))))),?_⟩
 case ar=>rintro u t ⟨h,l,rfl,_⟩;rfl
 rintro u t C ⟨h,l,rfl,ho,o,k⟩;refine am (MSt.mk [some (.imm (.tuple [.tuple [.int h.a,.int h.b],.tuple (h.ss.map Srv.d),.bool h.mv])),some (.imm (.tuple (natD l))),none,none,none] [] 0) rfl ?_;walk_at"s";refine⟨true,_,true,_,rfl,rfl,?_⟩;refine gV (λi m=>∃a b,m=MSt.mk [some (.imm (.tuple [.tuple [.int h.a,.int h.b],.tuple (h.ss.map Srv.d),.bool h.mv])),some (.imm (.tuple (natD l))),some (.imm (.int (M7.placeF 0 (h.rs.take i) (l.take i):Nat))),a,b] [] 0) ⟨none,none,rfl⟩ ?_ ?_
 .rintro i d m e n ⟨a,b,rfl⟩;obtain⟨a1,b1,g,c,rfl⟩:=Nu e;obtain⟨x,ex,rfl,B⟩:=gmap g;obtain⟨s,j,rfl,z⟩:=gmap c;have r6:=(ho.ok s (DL j)).r6;rw[M7.placeF_take (Hall.rs_get j) ex];dsimp only[Srv.d];walk_at"s"
  .rfl
  walk_at"s";generalize M7.placeF 0 (h.rs.take i) (l.take i)=P;have q:(P:Int)*((s.r:Int)+1)+(x:Int)=((P*(s.r+1)+x:Nat):Int):=by
   rw[ac3,aaA,ac3];rfl
  rw[q];exact⟨_,_,rfl⟩
 .rintro m n ⟨a,b,rfl⟩;have g:min (natD l).length (h.ss.map Srv.d).length=l.length:=by rw[aH,gE];have:=o.1;omega
  rw[fj,g];have c:h.rs.take l.length=h.rs:=by rw[o.1,<-h.rsl];exact aab
  rw[c,aab];walk_at"s";exact k
theorem jn(T:Bl K mg)(D:DefM K mg "first_shortest" de ["lines","order"]):FnM P w K mg base "first_shortest" 1 2 l9:=by
 refine aU D ce rfl (nN:=4) rfl (by decide) ?ar λx A outer s H E f hr=>⟨_,(mz' (aw 2 ce.nd (ah (mv' 1) mh'))
   (mz' (bQ (bx (mv' 1)) (al 3 ce.nd) (aa (bq (au ji (ah (mv' 0) (mv' 3)) (ah (mv' 0) (mv' 2)) (aI _)) (aa (aw 2 ce.nd (mv' 3))) aA)) aaL)
   (aa (ak (mv' 2))))),?_⟩
 case ar=>rintro u t ⟨l,o,rfl,_⟩;rfl
 rintro u t C ⟨l,o,rfl,g,k⟩;obtain⟨c,os,rfl,h0⟩:=g.cons;refine am (MSt.mk [some (.imm (.tuple (natD l))),some (.imm (.tuple (natD (c::os)))),none,none] [] 0) rfl ?_;walk_at"s";refine bC (bg (j:=0) (bW rfl)) ?_;walk_at"s";refine gV (λi m=>∃a,m=MSt.mk [some (.imm (.tuple (natD l))),some (.imm (.tuple (natD (c::os)))),some (.imm (.int (M7.pick (dQ l) c ((c::os).take i):Nat))),a] [] 0) ⟨none,rfl⟩ ?_ ?_
 .rintro i d m e n ⟨a,rfl⟩;obtain⟨j,q,rfl,B⟩:=gmap e;have v:=g.lt j (DL q);have hb:M7.pick (dQ l) c ((c::os).take i)<l.length:=kH g i;have z:(c::os).take (i+1)=(c::os).take i++[j]:=by rw[abl,q];rfl
  rw[z,M7.pick_app];generalize M7.pick (dQ l) c ((c::os).take i)=b at hb;walk_at"s";refine bC (bg (bW (getN rfl v))) ?_;walk_at"s";refine bC (bg (bW (getN rfl hb))) ?_;walk_at"s";refine bj (λh=>?_) (λh=>?_)
  .walk_at"s";rw[if_pos (show dQ l j b=true from decide_eq_true (by omega))];exact⟨_,rfl⟩
  .walk_at"s";rw[if_neg (show ¬dQ l j b=true by unfold dQ;rw[decide_eq_true_eq];omega)];exact⟨_,rfl⟩
 .rintro m n ⟨a,rfl⟩;rw[aH,aab];walk_at"s";exact k
theorem BG(T:Bl K mg)(D:DefM K mg "wait_at" ot ["hall","lines","line"]):FnM P w K mg base "wait_at" 1 3 IW:=by
 refine aU D kg rfl (nN:=5) rfl (by decide) ?ar λo A outer s H E f hr=>⟨_,(mz' (dJ (ah (ah (ah (mv' 0) mh') (mv' 2)) mh') (bo (n:=2) (af (al 3 kg.nd) (af (al 4 kg.nd) aK))))
   (aa (ak (ap (mc' (ae ay (ae bh (ah (mv' 1) (mv' 2)) mh') (mv' 4)) (mc' (mv' 3) mn')))))),?_⟩
 case ar=>rintro c b ⟨h,l,j,rfl,_⟩;rfl
 rintro c b u ⟨h,l,j,rfl,ho,i,a,k⟩;obtain⟨s,g,m,eb,hs⟩:=h.srv a;have q:=ho.ok s hs;have b2:=q.b2;rw[m,eb]at k;have t:=getN i.1 a;refine am (MSt.mk [some (.imm (.tuple [.tuple [.int h.a,.int h.b],.tuple (h.ss.map Srv.d),.bool h.mv])),some (.imm (.tuple (natD l))),some (.imm (.int (j:Int))),none,none] [] 0) rfl ?_;walk_at"s";refine bC (d:=s.d) (bg (by rw[aae,g];rfl)) ?_;dsimp only[Srv.d];walk_at"s"
 .rfl
 walk_at"s";refine bC (bg (bW t)) ?_;walk_at"s";have e:(((l.getD j 0:Nat):Int)+1)*(s.b:Int)=(((l.getD j 0+1)*s.b:Nat):Int):=by
  rw[aaA,ac3];rfl
 rw[e];exact k
theorem js(T:Bl K mg)(D:DefM K mg "first_quickest" db ["hall","lines","order"])(c:FnM P w K mg base "wait_at" 1 3 IW)(t:FnM P w K mg base "is_less" 1 2 Ja):FnM P w K mg base "first_quickest" 2 3 mj:=by
 refine aU D bw rfl (nN:=7) rfl (by decide) ?ar λL A outer s H E f hr=>⟨_,(mz' (aw 3 bw.nd (ah (mv' 2) mh'))
   (mz' (aw 4 bw.nd (mf' c (hr.mono (by decide)) (mc' (mv' 0) (mc' (mv' 1) (mc' (mv' 3) mn')))))
   (mz' (bQ (bx (mv' 2)) (al 5 bw.nd) (mz' (aw 6 bw.nd (mf' c (hr.mono (by decide)) (mc' (mv' 0) (mc' (mv' 1) (mc' (mv' 5) mn')))))
   (aa (bq (sX (mf' t (hr.mono (by decide)) (mc' (mv' 6) (mc' (mv' 4) mn')))) (aa (k7 (i:=3) (j:=4) bw.nd rfl rfl (by decide) rfl rfl (mc' (mv' 5) (mc' (mv' 6) mn')) rfl)) aA))) aaL)
   (aa (ak (mv' 3)))))),?_⟩
 case ar=>rintro C Q ⟨h,l,o,rfl,_⟩;rfl
 rintro C Q V ⟨h,l,o,rfl,ho,v,x,k⟩;obtain⟨g,os,rfl,h0⟩:=x.cons;have bd:∀j,j<h.ss.length->(l.getD j 0+1)*h.bn j<1000000000000/\h.an j<1000000000000:=λj u=>by
  obtain⟨s,U,J,eb,hs⟩:=h.srv u;have B:=ho.ok s hs;have S:=v.le ho _ (DL (getN v.1 u));rw[J,eb];have:=B.a2;have:(l.getD j 0+1)*s.b≤7*1000000:=acz (by omega) (by have:=B.b2;omega);omega
 refine am (MSt.mk [some (.imm h.d),some (.imm (.tuple (natD l))),some (.imm (.tuple (natD (g::os)))),none,none,none,none] [] 0) rfl ?_;walk_at"s";refine bC (bg (j:=0) (bW rfl)) ?_;walk_at"s";refine⟨h,l,g,rfl,ho,v,h0,?_⟩;walk_at"x";refine gV (λi m=>∃a b,m=MSt.mk [some (.imm h.d),some (.imm (.tuple (natD l))),some (.imm (.tuple (natD (g::os)))),some (.imm (.int (M7.pick (cJ h l) g ((g::os).take i):Nat))),some (.imm (frD ((l.getD (M7.pick (cJ h l) g ((g::os).take i)) 0+1)*h.bn (M7.pick (cJ h l) g ((g::os).take i)):Nat) (h.an (M7.pick (cJ h l) g ((g::os).take i)):Nat))),a,b] [] 0) ⟨none,none,rfl⟩ ?_ ?_
 .rintro i d m e n ⟨a,b,rfl⟩;obtain⟨j,z,rfl,R⟩:=gmap e;have u:=x.lt j (DL z);have hb:M7.pick (cJ h l) g ((g::os).take i)<h.ss.length:=kH x i;have N:(g::os).take (i+1)=(g::os).take i++[j]:=by rw[abl,z];rfl
  rw[N,M7.pick_app];generalize M7.pick (cJ h l) g ((g::os).take i)=b at hb;walk_at"s";refine⟨h,l,j,rfl,ho,v,u,?_⟩;walk_at"x";obtain⟨b1,b2⟩:=bd j u;obtain⟨I,O⟩:=bd b hb;refine⟨_,_,_,_,rfl,b1,b2,I,O,?_⟩;walk_at"x";refine bj (λq=>?_) (λq=>?_)
  .walk_at"s";rw[if_pos (show cJ h l j b=true from decide_eq_true q)];exact⟨_,_,rfl⟩
  .walk_at"s";rw[if_neg (show ¬cJ h l j b=true by unfold cJ;rw[decide_eq_true_eq];exact q)];exact⟨_,_,rfl⟩
 .rintro m n ⟨a,b,rfl⟩;rw[aH,aab];walk_at"s";exact k
theorem Ce(T:Bl K mg)(D:DefM K mg "sent_to" mL ["hall","rule","stand","order"])(a:FnM P w K mg base "first_shortest" 1 2 l9)(c:FnM P w K mg base "first_quickest" 2 3 mj)(b:FnM P w K mg base "place_of_lines" 1 2 zJ):FnM P w K mg base "sent_to" 3 4 vw:=by
 refine aU D il rfl (nN:=7) rfl (by decide) ?ar λC A outer s H E f hr=>⟨_,(mz' (dJ (mv' 2) (bo (n:=2) (af (al 4 il.nd) (af (al 5 il.nd) aK))))
   (mz' (aw 6 il.nd (ah (mv' 1) mh'))
   (mz' (bq (au (cv hr.units) (mv' 6) aY (aI _)) (aa (ak (ah (mv' 3) mh'))) aA)
   (mz' (bq (au (cv hr.units) (mv' 6) aY (aI _)) (aa (ak (mv' 5))) aA)
   (mz' (bq (au (cv hr.units) (mv' 6) aY (aI _)) (aa (ak (mf' a (hr.mono (by decide)) (mc' (mv' 4) (mc' (fm (d4 iY (mv' 3) gi (gg mh'))) mn'))))) aA)
   (mz' (bq (au (cv hr.units) (mv' 6) aY (aI _)) (aa (ak (mf' a (hr.mono (by decide)) (mc' (mv' 4) (mc' (mv' 3) mn'))))) aA)
   (mz' (bq (au (cv hr.units) (mv' 6) aY (aI _)) (aa (ak (mf' c (hr.mono (by decide)) (mc' (mv' 0) (mc' (mv' 4) (mc' (mv' 3) mn')))))) aA)
   (aa (ak (ah (ah (mv' 1) mh') (mf' b (hr.mono (by decide)) (mc' (mv' 0) (mc' (mv' 4) mn'))))))))))))),?_⟩
 case ar=>rintro B x ⟨h,r,l,t,o,rfl,_⟩;rfl
 rintro B x J ⟨h,r,l,t,o,rfl,ho,q,g,i,k⟩;have u:=g.1;have d:Ord l.length o:=by rw[u];exact i
 cases r with
 |random=>
  refine am (MSt.mk [some (.imm h.d),some (.imm (.tuple [.str "random"])),some (.imm (.tuple [lnD l,.int (t:Int)])),some (.imm (.tuple (natD o))),none,none,none] [] 0) rfl ?_;walk_at"s"
  .rfl
  walk_at"s";refine bj (λ_=>?_) (λz=>(z rfl).elim);obtain⟨v,os,rfl,h0⟩:=i.cons;walk_at"s";refine bC (bg (j:=0) (bW rfl)) ?_;walk_at"s";exact k
 |turns=>
  refine am (MSt.mk [some (.imm h.d),some (.imm (.tuple [.str "turns"])),some (.imm (.tuple [lnD l,.int (t:Int)])),some (.imm (.tuple (natD o))),none,none,none] [] 0) rfl ?_;walk_at"s"
  .rfl
  walk_at"s";walk_at"b";exact k
 | two=>
  refine am (MSt.mk [some (.imm h.d),some (.imm (.tuple [.str "two"])),some (.imm (.tuple [lnD l,.int (t:Int)])),some (.imm (.tuple (natD o))),none,none,none] [] 0) rfl ?_;walk_at"s"
  .rfl
  walk_at"s";walk_at"a";refine bj (λ_=>?_) (λz=>(z rfl).elim);walk_at"s";have e:cutD (natD o) none (some 2)=natD (o.take 2):=by
   rw[show(2:Int)=((2:Nat):Int)from rfl,sg];simp[natD]
  rw[e];obtain⟨v,os,rfl,h0⟩:=i.cons;refine⟨l,(v::os).take 2,rfl,⟨by simp,λk I=>d.lt k (abw I),by rw[aaU];omega⟩,?_⟩;walk_at"n";exact k
 |least=>
  refine am (MSt.mk [some (.imm h.d),some (.imm (.tuple [.str "least"])),some (.imm (.tuple [lnD l,.int (t:Int)])),some (.imm (.tuple (natD o))),none,none,none] [] 0) rfl ?_;walk_at"s"
  .rfl
  walk_at"s";walk_at"a";walk_at"b";refine⟨l,o,rfl,d,?_⟩;walk_at"n";exact k
 |quick=>
  refine am (MSt.mk [some (.imm h.d),some (.imm (.tuple [.str "quick"])),some (.imm (.tuple [lnD l,.int (t:Int)])),some (.imm (.tuple (natD o))),none,none,none] [] 0) rfl ?_;walk_at"s"
  .rfl
  walk_at"s";walk_at"a";walk_at"a";refine bj (λ_=>?_) (λz=>(z rfl).elim);walk_at"s";refine⟨h,l,o,rfl,ho,g,i,?_⟩;walk_at"n";exact k
 |told ps=>
  refine am (MSt.mk [some (.imm h.d),some (.imm (.tuple [.str "told",.tuple (natD ps)])),some (.imm (.tuple [lnD l,.int (t:Int)])),some (.imm (.tuple (natD o))),none,none,none] [] 0) rfl ?_;walk_at"s"
  .rfl
  walk_at"s";walk_at"a";walk_at"a";refine bj (λz=>absurd z (by decide +kernel)) (λ_=>?_);walk_at"s";refine⟨h,l,rfl,ho,g,?_⟩;walk_at"n";have m:M7.placeF 0 h.rs l<ps.length:=by rw[q.1,M7.allR_cnt];exact M7.place_lt g.fits
  refine bC (bg (bW (getN rfl m))) ?_;exact k
theorem m6(T:Bl K mg)(D:DefM K mg "first_stand" f7 ["hall"]):FnM P w K mg base "first_stand" 1 1 sy:=by
 refine aU D ng rfl (nN:=1) rfl (by decide) ?ar λc A outer s H E f hr=>⟨_,(aa (ak (ap (mc' (ae ay (ap (mc' mh' mn')) (av aW (by rfl) T.len cw (mc' (ah (mv' 0) mh') mn'))) (mc' mh' mn'))))),?_⟩
 case ar=>rintro b a ⟨h,rfl,_⟩;rfl
 rintro b a d ⟨h,rfl,ho,k⟩;have n1:=ho.n1;have n4:=ho.n4;refine am (MSt.mk [some (.imm (.tuple [.tuple [.int h.a,.int h.b],.tuple (h.ss.map Srv.d),.bool h.mv]))] [] 0) rfl ?_;walk_at"s";rw[gE];refine Ix (by omega) (by omega) (by simp;omega) ?_;walk_at"s";have e:(aam ((h.ss.length:Nat):Int).toNat [abn 0]).flatten=natD (zer h):=by
  rw[aa1];simp[zer,natD]
 rw[e];exact k
theorem qr(T:Bl K mg)(D:DefM K mg "all_orders" fe ["hall"]):FnM P w K mg base "all_orders" 1 1 IX:=by
 refine aU D cC rfl (nN:=4) rfl (by decide) ?ar λV A outer s H E f hr=>⟨_,(mz' (cn (i:=1) cC.nd rfl (add rfl) (av aW (by rfl) T.len cw (mc' (ah (mv' 0) mh') mn')))
   (mz' (aw 2 cC.nd (bH (mc' (ap mn') mn')))
   (mz' (bQ (cy (by rfl) T.range (mc' (mv' 1) mn')) (al 3 cC.nd) (aa (BF (i:=2) (own:=["ahead","line"]) (fr:=["many"]) (ps:=[1]) (sc:=(ac fe)) (by exact⟨rfl,by decide +kernel,by decide +kernel,by decide +kernel,by decide +kernel⟩) cC.nd rfl rfl (bx (mv' 2)) (λ_ _ _ _ _=>(al 0 (show ab2 ((["ahead","line"]:List Str)++(["many"]:List Str))from by decide +kernel))) (λ_ _ _ _ _=>cr) (λ_ _ _ _ _=>(cy (by rfl) T.range (mc' (mv' 2) mn'))) (λ_ _ _ _ _=>(al 1 (show ab2 ((["ahead","line"]:List Str)++(["many"]:List Str))from by decide +kernel))) (λ_ _ _ _ _=>(v7 (au (ii hr.units) (mv' 1) (mv' 0) (by with_unfolding_all rfl)))) (λ_ _ _ _ _=>(ae bh (mv' 0) (ap (mc' (mv' 1) mn')))))) aaL)
   (aa (ak (mv' 2)))))),?_⟩
 case ar=>rintro R Q ⟨h,rfl,_⟩;rfl
 rintro R Q hl ⟨h,rfl,ho,k⟩;have n1:=ho.n1;have n4:=ho.n4;refine am (MSt.mk [some (.imm (.tuple [.tuple [.int h.a,.int h.b],.tuple (h.ss.map Srv.d),.bool h.mv])),none,none,none] [] 0) rfl ?_;walk_at"s";walk_at"c";rw[gE];refine⟨by omega,by omega,?_⟩;rw[aa1];refine gV (λi m=>∃a,m=MSt.mk [some (.imm (.tuple [.tuple [.int h.a,.int h.b],.tuple (h.ss.map Srv.d),.bool h.mv])),some (.imm (.int (h.ss.length:Nat))),some (.obj 0),a] [(ordK h.ss.length i).map lnD] 0) ⟨none,rfl⟩ ?_ ?_
 .rintro i d m e n ⟨a,rfl⟩;obtain⟨hi,rfl⟩:=dg e;obtain⟨B,u⟩:=c6 h.ss.length n4 i (by omega);have g:=lg h.ss.length n4 i (by omega);rw[show ordK h.ss.length (i+1)=lj h.ss.length (ordK h.ss.length i)from rfl];generalize ordK h.ss.length i=os at B u g;walk_at"s";walk_at"n";refine oj (λz m=>∃b c,m=MSt.mk [b,c,some (.imm (.int (h.ss.length:Nat)))] [os.map lnD,(lj h.ss.length (os.take z)).map lnD] 2) ⟨none,none,rfl⟩ ?_ ?_ ?_
  .rintro z m ⟨b,c,rfl⟩;rfl
  .rintro z d m ez nz ⟨b,c,rfl⟩;obtain⟨l,L,rfl,hz⟩:=gmap ez;obtain⟨S,X⟩:=u l (DL L);have Z:=(Io.mp L).1;have O:=g z (by omega);walk_at"s";refine⟨by omega,by omega,?_⟩;rw[aa1];obtain⟨G,t⟩:∃G:Nat->List (List Nat),G=λy=>lj h.ss.length (os.take z)++((aaH y).filter λq=>!l.contains q).map λq=>l++[q]:=⟨_,rfl⟩;have I:G 0=lj h.ss.length (os.take z):=by rw[t];simp
   have v:G h.ss.length=lj h.ss.length (os.take (z+1)):=by rw[t,xV L]
   have o:∀y,G (y+1)=G y++([y].filter λq=>!l.contains q).map λq=>l++[q]:=λy=>by
    rw[t];show _++((aaH (y+1)).filter _).map _=_;rw[ae8,List.filter_append,aaF,acE]
   have C:∀y,y≤4->(G y).length≤28:=λy W=>by
    rw[t];dsimp only;rw[aap,gE];have:=List.length_filter_le (λq=>!l.contains q) (aaH y);rw[aa6]at this;omega
   clear t;rw[<-I];refine bG (λy m=>∃c,m=MSt.mk [some (.imm (lnD l)),c,some (.imm (.int (h.ss.length:Nat)))] [os.map lnD,(G y).map lnD] 2) ⟨c,rfl⟩ ?_ ?_
   .rintro y d m ey ny ⟨c,rfl⟩ D1 hD1 hR1;obtain⟨W,rfl⟩:=dg ey;rw[show(0:Int)+(y:Int)=((y:Nat):Int) by omega];have N:=C y (by omega);have J:(natD l).any (λx=>aak x (.int (y:Int)))=l.contains y:=by
     rw[aca,agd,List.contains_iff_mem];constructor
     .rintro⟨x,hx,ex⟩;obtain⟨w,Y,rfl⟩:=aac.mp hx;rw[dW]at ex;rw[<-of_decide_eq_true ex];exact Y
     .intro hm;exact⟨_,aac.mpr ⟨y,hm,rfl⟩,by rw[dW];exact decide_eq_true rfl⟩
    walk_at"s";refine x_in (d:=.int (y:Int)) (ds:=natD l) rfl (.inr rfl) (gW _) (jy l) (by decide) ?_;walk_at"s";rw[J]
    cases hc:l.contains y with
    |true=>
     refine j5 ?_;walk_at"s";refine hD1 _ ⟨some (.imm (.int (y:Int))),?_⟩;rw[o,show([y].filter λq=>!l.contains q)=[] by rw[ahQ,hc];rfl,agr,aaV];rfl
    |false=>
     refine lB ?_;walk_at"s";refine vi (by rw[aan,aH];simp;omega) ?_;walk_at"s";refine⟨_,rfl,by rw[aan,gE];omega,hD1 _ ⟨some (.imm (.int (y:Int))),?_⟩⟩;rw[o,show([y].filter λq=>!l.contains q)=[y] by rw[ahQ,hc];rfl,aaF];simp[lnD,natD,MSt.setV]
   .rintro m ny ⟨c,rfl⟩;rw[aM,v];walk_at"s";exact⟨_,_,rfl⟩
  .rintro m nz ⟨b,c,rfl⟩;rw[gE,aab];walk_at"n";refine md (k:=0) rfl (Dl _) (λj U=>?_) ⟨_,rfl⟩
   match j with
   |0|1|3=>exact λz=>by cases z
   |2=>exact(U rfl).elim
   |n+4=>exact λz=>by cases z
 .rintro m n ⟨a,rfl⟩;rw[aM];walk_at"s";exact k
theorem ul(T:Bl K mg)(D:DefM K mg "with_more" iJ ["lines","line","more"]):FnM P w K mg base "with_more" 1 3 v5:=by
 refine aU D ud rfl (nN:=3) rfl (by decide) ?ar λm A outer s H E f hr=>⟨_,(aa (ak (ae bh (ae bh (d4 iY (mv' 0) gi (gg (mv' 1))) (ap (mc' (ae bh (ah (mv' 0) (mv' 1)) (mv' 2)) mn'))) (d4 iY (mv' 0) (gg (ae bh (mv' 1) mh')) gi)))),?_⟩
 case ar=>rintro c b ⟨l,j,d,x,rfl,_⟩;rfl
 rintro c b n ⟨l,j,d,x,rfl,a,i,g,k⟩;refine am (MSt.mk [some (.imm (.tuple (natD l))),some (.imm (.int (j:Int))),some (.imm (.int d))] [] 0) rfl ?_;walk_at"s";refine bC (bg (bW (getN rfl a))) ?_;walk_at"s";rw[g,sg];refine vi (by rw[aan,aaU,aH];simp;omega) ?_;walk_at"s";rw[show(j:Int)+1=((j+1:Nat):Int)from rfl,qK];refine vi (by rw[aan,aap,aaU,adF,aH];simp;omega) ?_;walk_at"s";have e:(natD l).take j++[.int (x:Int)]++(natD l).drop (j+1)=natD (l.set j x):=by
  rw[<-DQ,List.set_eq_take_append_cons_drop,if_pos (by rw[aH];exact a)];simp
 rw[e];exact k
theorem yn(T:Bl K mg)(D:DefM K mg "come_to" oo ["hall","lines","line"])(a:FnM P w K mg base "with_more" 1 3 v5):FnM P w K mg base "come_to" 2 3 Jh:=by
 refine aU D BQ rfl (nN:=3) rfl (by decide) ?ar λq A outer s H E f hr=>⟨_,(mz' (bq (au (cv hr.units) (ah (mv' 1) (mv' 2)) (ah (ah (ah (mv' 0) mh') (mv' 2)) mh') (aI _)) (aa (ak (ap (mc' (mv' 1) (mc' aY mn'))))) aA)
   (aa (ak (ap (mc' (mf' a (hr.mono (by decide)) (mc' (mv' 1) (mc' (mv' 2) (mc' mh' mn')))) (mc' aY mn')))))),?_⟩
 case ar=>rintro n m ⟨h,l,j,rfl,_⟩;rfl
 rintro n m u ⟨h,l,j,rfl,ho,o,g,k⟩;have b:=o.1;have n4:=ho.n4;obtain⟨s,i,t,eb,hs⟩:=h.srv g;have c:h.rn j=s.r:=bu (Hall.rs_get i);refine am (MSt.mk [some (.imm (.tuple [.tuple [.int h.a,.int h.b],.tuple (h.ss.map Srv.d),.bool h.mv])),some (.imm (.tuple (natD l))),some (.imm (.int (j:Int)))] [] 0) rfl ?_;walk_at"s";refine bC (bg (bW (getN b g))) ?_;walk_at"s";refine bC (d:=s.d) (bg (by rw[aae,i];rfl)) ?_;dsimp only[Srv.d];walk_at"s";refine bj (λz=>?_) (λz=>?_)
 .walk_at"s";have e:ik h l j=(l,.away):=if_pos (by rw[c];omega);rw[e]at k;exact k
 .walk_at"s";refine⟨l,j,1,l.getD j 0+1,rfl,by omega,by omega,rfl,?_⟩;walk_at"x";have e:ik h l j=(l.set j (l.getD j 0+1),.taken):=if_neg (by rw[c];omega);rw[e]at k;exact k
theorem zc(T:Bl K mg)(D:DefM K mg "done_at" m9 ["lines","line"])(a:FnM P w K mg base "with_more" 1 3 v5):FnM P w K mg base "done_at" 2 2 IQ:=by
 refine aU D zy rfl (nN:=2) rfl (by decide) ?ar λi A outer s H E f hr=>⟨_,(mz' (bq (au (cv hr.units) (ah (mv' 0) (mv' 1)) mh' (aI _)) (aa (ak (ap (mc' (mv' 0) (mc' aY mn'))))) aA)
   (aa (ak (ap (mc' (mf' a (hr.mono (by decide)) (mc' (mv' 0) (mc' (mv' 1) (mc' (uB nh mh') mn')))) (mc' aY mn')))))),?_⟩
 case ar=>rintro g d ⟨l,j,rfl,_⟩;rfl
 rintro g d m ⟨l,j,rfl,c,b,k⟩;refine am (MSt.mk [some (.imm (.tuple (natD l))),some (.imm (.int (j:Int)))] [] 0) rfl ?_;walk_at"s";refine bC (bg (bW (getN rfl c))) ?_;walk_at"s";refine bj (λz=>?_) (λz=>?_)
 .walk_at"s";have e:iw l j=(l,.none):=if_pos (by omega);rw[e]at k;exact k
 .walk_at"s";refine⟨l,j,-1,l.getD j 0-1,rfl,c,b,by omega,?_⟩;walk_at"x";have e:iw l j=(l.set j (l.getD j 0-1),.served):=if_neg (by omega);rw[e]at k;exact k
theorem qH(T:Bl K mg)(D:DefM K mg "next_shift" gL ["hall","lines"]):FnM P w K mg base "next_shift" 1 2 AG:=by
 refine aU D qf rfl (nN:=2) rfl (by decide) ?ar λN A outer s H E f hr=>⟨_,(mz' (bq (EW.pt (uK (yl (sX (ah (mv' 0) mh'))) (uK (au (ii hr.units) mh' (mv' 1) (by with_unfolding_all rfl)) (uf (au ji (av (me rfl) (by rfl) T.max Iy (mc' (mv' 1) mn')) mh' (aI _)))))) (aa (ak uh)) aA)
   (aa (ak (ap (mc' (Jg adU afW (lG hr.units) (mv' 1) (mc' (av (me rfl) (by rfl) T.max Iy (mc' (mv' 1) mn')) mn')) (mc' (Jg adU afW (lG hr.units) (mv' 1) (mc' mh' mn')) mn')))))),?_⟩
 case ar=>rintro I C ⟨h,l,rfl,_⟩;rfl
 rintro I C R ⟨h,l,rfl,o,L,k⟩;have a:fu (natD l)=some (l.map λ(x:Nat)=>(x:Int)):=by
  have:=gN (l.map λ(x:Nat)=>(x:Int));rwa[aaD]at this
 have c:(l.map λ(x:Nat)=>(x:Int))≠[]:=λz=>o (List.map_eq_nil_iff.mp z);have g:∀x:Int,x∈(l.map λ(x:Nat)=>(x:Int))->(∀y∈(l.map λ(x:Nat)=>(x:Int)),y≤x)->x=(maxN l:Int):=λx m b=>by
  obtain⟨n,J,rfl⟩:=aac.mp m;have O:=BW n J;have Q:=b (maxN l:Int) (aac.mpr ⟨maxN l,nU o,rfl⟩);omega
 have t:(natD l).any (λy=>aak y (.int 0))=decide (0∈l):=by
  rw[aca];rw[agd,decide_eq_true_eq];constructor
  .rintro⟨y,b,e⟩;obtain⟨x,m,rfl⟩:=aac.mp b;have v:=dW x 0;rw[show((0:Nat):Int)=0 from rfl,e]at v;have:x=0:=of_decide_eq_true v.symm;rw[<-this];exact m
  .intro h0;exact⟨.int 0,aac.mpr ⟨0,h0,rfl⟩,dW 0 0⟩
 refine am (MSt.mk [some (.imm (.tuple [.tuple [.int h.a,.int h.b],.tuple (h.ss.map Srv.d),.bool h.mv])),some (.imm (.tuple (natD l)))] [] 0) rfl ?_;walk_at"s"
 cases hmv:h.mv with
 |false=>
  refine lB ?_;walk_at"s";have e:cK h l=none:=if_neg (by rw[hmv];exact λz=>by cases z.1);rw[e]at k;exact k
 | true=>
  refine j5 ?_;walk_at"s";refine x_in (d:=.int 0) (ds:=natD l) rfl (.inr rfl) (gW 0) (jy l) (by decide) ?_;walk_at"s";rw[t]
  by_cases h0:0∈l
  .rw[decide_eq_true h0];refine j5 ?_;walk_at"s";refine Jp rfl a c λx m b=>?_;rw[g x m b];walk_at"s";refine bj (λz=>?_) (λz=>?_)
   .walk_at"s";have e:cK h l=none:=if_neg (λq=>by have:=q.2.2;omega);rw[e]at k;exact k
   .walk_at"s";refine Jp rfl a c λx m b=>?_;rw[g x m b];have s1:=jw (nU o);have B:=jw h0;walk_at"s";refine vW (j:=idx l (maxN l)) (k':=0) (gW _) (jy l) (by decide) (bW s1.1) (by rw[dW];exact decide_eq_true rfl) (λi y u b=>?_) ?_
    .obtain⟨z,ez,rfl,_⟩:=gmap b;rw[dW];exact decide_eq_false (s1.2 i z u ez)
    walk_at"s";refine vW (j:=idx l 0) (k':=0) (gW _) (jy l) (by decide) (bW B.1) (dW 0 0) (λi y u b=>?_) ?_
    .obtain⟨z',ez,rfl,_⟩:=gmap b;have:=dW z' 0;rw[show((0:Nat):Int)=0 from rfl]at this;rw[this];exact decide_eq_false (B.2 i z' u ez)
    walk_at"s";have e:cK h l=some (idx l (maxN l),idx l 0):=if_pos ⟨hmv,h0,by omega⟩;rw[e]at k;exact k
  .rw[decide_eq_false h0];refine lB ?_;walk_at"s";have e:cK h l=none:=if_neg (λq=>h0 q.2.1);rw[e]at k;exact k
theorem zF(T:Bl K mg)(D:DefM K mg "settled" oG ["hall","lines"])(a:FnM P w K mg base "next_shift" 1 2 AG)(b:FnM P w K mg base "with_more" 1 3 v5):FnM P w K mg base "settled" 2 2 ql:=by
 refine aU D iB rfl (nN:=3) rfl (by decide) ?ar λu A outer s H E f hr=>⟨_,(mz' (aw 2 iB.nd (mf' a (hr.mono (by decide)) (mc' (mv' 0) (mc' (mv' 1) mn'))))
   (mz' (fy (au xR (mv' 2) uh (aI _)) (mz' (aw 1 iB.nd (mf' b (hr.mono (by decide)) (mc' (mf' b (hr.mono (by decide)) (mc' (mv' 1) (mc' (ah (mv' 2) mh') (mc' (uB nh mh') mn')))) (mc' (ah (mv' 2) mh') (mc' mh' mn')))))
   (aa (aw 2 iB.nd (mf' a (hr.mono (by decide)) (mc' (mv' 0) (mc' (mv' 1) mn')))))) aaL)
   (aa (ak (mv' 1))))),?_⟩
 case ar=>rintro t I ⟨h,l,rfl,_⟩;rfl
 rintro t I S ⟨h,l,rfl,i,q,k⟩;refine am (MSt.mk [some (.imm h.d),some (.imm (lnD l)),none] [] 0) rfl ?_;walk_at"s";refine⟨h,l,rfl,i,q,?_⟩;walk_at"x";refine jN (λn m=>∃c:List Nat,m=MSt.mk [some (.imm h.d),some (.imm (lnD c)),some (.imm (optP (cK h c)))] [] 0/\n=c.count 0/\cG h n c=dE h l/\c≠[]/\c.length≤1000) (l.count 0) ⟨l,rfl,rfl,rfl,i,q⟩ ?_;rintro n m Q ⟨c,rfl,rfl,hs,o,j⟩;walk_at"s"
 cases e:cK h c with
 |none=>
  refine j5 ?_;walk_at"s";rw[qb e]at hs;rw[<-hs]at k;exact k
 | some p=>
  refine lB ?_;obtain⟨J,B,L,C,d⟩:=lH e;obtain⟨R,m1,m2,v,x⟩:=i5 e;have O:c.getD p.1 0=maxN c:=bu m1;have N:(c.set p.1 (maxN c-1)).getD p.2 0=0:=bu (by rw[aaT x];exact v);dsimp only[optP];walk_at"s";refine⟨c,p.1,-1,maxN c-1,rfl,B,j,by omega,?_⟩;walk_at"x";refine⟨c.set p.1 (maxN c-1),p.2,1,1,rfl,by rw[abq];exact L,by rw[abq];exact j,by omega,?_⟩;rw[<-J];walk_at"x";have g:df c p≠[]:=λz=>by
   rw[z]at d;exact o (abR d.symm)
  refine⟨h,df c p,rfl,g,by omega,?_⟩;walk_at"x";refine⟨(df c p).count 0,by omega,df c p,rfl,rfl,?_,g,by omega⟩;rw[<-hs,<-C];show _=cG h ((df c p).count 0+1) c;simp only[cG,e]
theorem oY(T:Bl K mg)(D:DefM K mg "turn_behind" fz ["hall","rule","turn"]):FnM P w K mg base "turn_behind" 1 3 Bc:=by
 refine aU D oa rfl (nN:=3) rfl (by decide) ?ar λc A outer s H E f hr=>⟨_,(mz' (bq (au (cv hr.units) (ah (mv' 1) mh') aY (aI _)) (aa (ak (ae dj (ae bh (mv' 2) mh') (av aW (by rfl) T.len cw (mc' (ah (mv' 0) mh') mn'))))) aA)
   (aa (ak (mv' 2)))),?_⟩
 case ar=>rintro b a ⟨h,r,t,rfl,_⟩;rfl
 rintro b a d ⟨h,r,t,rfl,ho,k⟩;have n1:=ho.n1;refine am (MSt.mk [some (.imm (.tuple [.tuple [.int h.a,.int h.b],.tuple (h.ss.map Srv.d),.bool h.mv])),some (.imm r.d),some (.imm (.int (t:Int)))] [] 0) rfl ?_;walk_at"s";refine Lb r.dc (bg (j:=0) rfl) ?_;walk_at"s";refine bj (λz=>?_) (λz=>?_)
 .have hr:r = .turns:=by cases r<;>first|rfl|exact absurd z (by decide +kernel)|exact absurd (show("told" : Str) = "turns" from z) (by decide +kernel)
  subst hr;walk_at"s";refine TU (by rw[gE];omega) ?_;rw[gE];exact k
 .walk_at"s";have e:xg h r t=t:=by cases r<;>first|rfl|exact absurd rfl z
  rw[e]at k;exact k
theorem yz(T:Bl K mg)(D:DefM K mg "line_of" nK ["hall","rule","stand","move"])(a:FnM P w K mg base "sent_to" 3 4 vw):FnM P w K mg base "line_of" 4 4 vz:=by
 refine aU D yY rfl (nN:=4) rfl (by decide) ?ar λi A outer s H E f hr=>⟨_,(mz' (bq (au (cv hr.units) (ah (mv' 3) mh') aY (aI _)) (aa (ak (mf' a (hr.mono (by decide)) (mc' (mv' 0) (mc' (mv' 1) (mc' (mv' 2) (mc' (ah (mv' 3) mh') mn'))))))) aA)
   (mz' (bq (au (cv hr.units) (ah (mv' 3) mh') aY (aI _)) (aa (ak (ah (mv' 3) mh'))) aA)
   (aa (ak uh)))),?_⟩
 case ar=>rintro d c ⟨h,r,l,t,mv,rfl,_⟩;rfl
 rintro d c m ⟨h,r,l,t,mv,rfl,ho,b,g,e,k⟩
 cases mv with
 |come o=>
  refine am (MSt.mk [some (.imm h.d),some (.imm r.d),some (.imm (stD l t)),some (.imm (.tuple [.str "come",lnD o]))] [] 0) rfl ?_;walk_at"s";refine bj (λ_=>?_) (λz=>(z rfl).elim);walk_at"s";refine⟨h,r,l,t,o,rfl,ho,b,g,e,?_⟩;walk_at"n";exact k
 |done j=>
  refine am (MSt.mk [some (.imm h.d),some (.imm r.d),some (.imm (stD l t)),some (.imm (.tuple [.str "done",.int (j:Int)]))] [] 0) rfl ?_;walk_at"s";walk_at"b";exact k
 |still=>
  refine am (MSt.mk [some (.imm h.d),some (.imm r.d),some (.imm (stD l t)),some (.imm (.tuple [.str "still"]))] [] 0) rfl ?_;walk_at"s";walk_at"a";exact k
theorem wJ(T:Bl K mg)(D:DefM K mg "moved_on" kL ["hall","rule","stand","move"])(d:FnM P w K mg base "line_of" 4 4 vz)(c:FnM P w K mg base "come_to" 2 3 Jh)(a:FnM P w K mg base "turn_behind" 1 3 Bc)(g:FnM P w K mg base "done_at" 2 2 IQ)(b:FnM P w K mg base "settled" 2 2 ql):FnM P w K mg base "moved_on" 5 4 BR:=by
 refine aU D bJ rfl (nN:=8) rfl (by decide) ?ar λC A outer s H E f hr=>⟨_,(mz' (dJ (mv' 2) (bo (n:=2) (af (al 4 bJ.nd) (af (al 5 bJ.nd) aK))))
   (mz' (aw 6 bJ.nd aY)
   (mz' (aw 7 bJ.nd (mf' d (hr.mono (by decide)) (mc' (mv' 0) (mc' (mv' 1) (mc' (mv' 2) (mc' (mv' 3) mn'))))))
   (mz' (bq (au (cv hr.units) (ah (mv' 3) mh') aY (aI _)) (mz' (dJ (mf' c (hr.mono (by decide)) (mc' (mv' 0) (mc' (mv' 4) (mc' (mv' 7) mn')))) (bo (n:=2) (af (al 4 bJ.nd) (af (al 6 bJ.nd) aK))))
   (aa (aw 5 bJ.nd (mf' a (hr.mono (by decide)) (mc' (mv' 0) (mc' (mv' 1) (mc' (mv' 5) mn'))))))) (aa (bq (au (cv hr.units) (ah (mv' 3) mh') aY (aI _)) (aa (dJ (mf' g (hr.mono (by decide)) (mc' (mv' 4) (mc' (mv' 7) mn'))) (bo (n:=2) (af (al 4 bJ.nd) (af (al 6 bJ.nd) aK))))) aA)))
   (aa (ak (ap (mc' (ap (mc' (mf' b (hr.mono (by decide)) (mc' (mv' 0) (mc' (mv' 4) mn'))) (mc' (mv' 5) mn'))) (mc' (mv' 6) mn'))))))))),?_⟩
 case ar=>rintro B I ⟨h,r,l,t,mv,rfl,_⟩;rfl
 rintro B I L ⟨h,r,l,t,mv,rfl,ho,m,q,u,J,k⟩;have x:=q.1;have n1:=ho.n1;have n4:=ho.n4;have ne:∀v:List Nat,v.length=l.length->v≠[]:=λv e z=>by rw[z]at e;simp at e;omega
 cases mv with
 |come o=>
  refine am (MSt.mk [some (.imm h.d),some (.imm r.d),some (.imm (.tuple [lnD l,.int (t:Int)])),some (.imm (.tuple [.str "come",lnD o])),none,none,none,none] [] 0) rfl ?_;walk_at"s"
  .rfl
  walk_at"s";refine⟨h,r,l,t,.come o,rfl,ho,m,q,u,?_⟩;dsimp only[DW];walk_at"x";refine bj (λ_=>?_) (λz=>(z rfl).elim);walk_at"s";refine⟨h,l,sent h r l t o,rfl,ho,q,Bg ho m q u J,?_⟩;walk_at"n";dsimp only[lwD];walk_at"s"
  .rfl
  walk_at"s";refine⟨h,r,t,rfl,ho,?_⟩;walk_at"x";have i:(ik h l (sent h r l t o)).1.length=l.length:=by unfold ik;split<;>simp
  refine⟨h,_,rfl,ne _ i,by omega,?_⟩;walk_at"x";exact k
 |done j=>
  refine am (MSt.mk [some (.imm h.d),some (.imm r.d),some (.imm (.tuple [lnD l,.int (t:Int)])),some (.imm (.tuple [.str "done",.int (j:Int)])),none,none,none,none] [] 0) rfl ?_;walk_at"s"
  .rfl
  walk_at"s";refine⟨h,r,l,t,.done j,rfl,ho,m,q,u,?_⟩;dsimp only[DW];walk_at"x";walk_at"b";refine⟨l,j,rfl,by rw[x];exact u,by omega,?_⟩;walk_at"n";dsimp only[lwD];walk_at"s"
  .rfl
  walk_at"s";have i:(iw l j).1.length=l.length:=by unfold iw;split<;>simp
  refine⟨h,_,rfl,ne _ i,by omega,?_⟩;walk_at"x";exact k
 |still=>
  refine am (MSt.mk [some (.imm h.d),some (.imm r.d),some (.imm (.tuple [lnD l,.int (t:Int)])),some (.imm (.tuple [.str "still"])),none,none,none,none] [] 0) rfl ?_;walk_at"s"
  .rfl
  walk_at"s";refine⟨h,r,l,t,.still,rfl,ho,m,q,u,?_⟩;dsimp only[DW];walk_at"x";walk_at"a";refine⟨h,l,rfl,ne _ rfl,by omega,?_⟩;walk_at"x";exact k
theorem n9(T:Bl K mg)(D:DefM K mg "move_shares" dw ["hall"])(g:FnM P w K mg base "all_orders" 1 1 IX)(q:FnM P w K mg base "divided" 3 2 QQ)(c:FnM P w K mg base "taken_off" 3 2 P8):FnM P w K mg base "move_shares" 4 1 uH:=by
 refine aU D aL rfl (nN:=10) rfl (by decide) ?ar λR A outer s H E f hr=>⟨_,(mz' (dJ (mv' 0) (bo (n:=3) (af (al 1 aL.nd) (af (al 2 aL.nd) (af (al 3 aL.nd) aK)))))
   (mz' (aw 4 aL.nd (mf' g (hr.mono (by decide)) (mc' (mv' 0) mn')))
   (mz' (cn (i:=5) aL.nd rfl (add rfl) (mf' q (hr.mono (by decide)) (mc' (mv' 1) (mc' (ap (mc' (av aW (by rfl) T.len cw (mc' (mv' 4) mn')) (mc' mh' mn'))) mn'))))
   (mz' (yq (i:=6) (own:=["order"]) (fr:=["each"]) (ps:=[5]) (sc:=(ac dw)) (by exact⟨rfl,by decide +kernel,by decide +kernel,by decide +kernel,by decide +kernel⟩) aL.nd rfl rfl (bx (mv' 4)) (λ_ _ _ _ _=>(al 0 (show ab2 ((["order"]:List Str)++(["each"]:List Str))from by decide +kernel))) (λ_ _ _ _ _=>cr) (λ_ _ _ _ _=>(ap (mc' (ap (mc' aY (mc' (mv' 0) mn'))) (mc' (mv' 1) mn')))))
   (mz' (aw 7 aL.nd (mf' c (hr.mono (by decide)) (mc' (Bh T.c_WHOLE_TURN (by rfl)) (mc' (mv' 1) mn'))))
   (mz' (bQ (Dq T.enumerate (mc' (mv' 2) mn')) (bo (n:=2) (af (al 8 aL.nd) (af (al 9 aL.nd) aK))) (mz' (h9 (qJ ade adf gn (mv' 6) (mc' (ap (mc' (ap (mc' aY (mc' (mv' 8) mn'))) (mc' (ah (mv' 9) mh') mn'))) mn')))
   (aa (aw 7 aL.nd (mf' c (hr.mono (by decide)) (mc' (mv' 7) (mc' (ah (mv' 9) mh') mn')))))) aaL)
   (mz' (bq (au l8 (ah (mv' 7) mh') mh' (aI _)) (aa (h9 (qJ ade adf gn (mv' 6) (mc' (ap (mc' (ap (mc' aY mn')) (mc' (mv' 7) mn'))) mn')))) aA)
   (aa (ak (mv' 6)))))))))),?_⟩
 case ar=>rintro N V ⟨h,rfl,_⟩;rfl
 rintro N V hl ⟨h,rfl,ho,k⟩;have a1:=ho.a1;have a2:=ho.a2;have b1:=ho.b1;have b2:=ho.b2;have n4:=ho.n4;have I:=(c6 h.ss.length ho.n4 h.ss.length ho.n4).1;have pO:=gf h.ss.length ho.n4;refine am (MSt.mk [some (.imm (.tuple [.tuple [.int h.a,.int h.b],.tuple (h.ss.map Srv.d),.bool h.mv])),none,none,none,none,none,none,none,none,none] [] 0) rfl ?_;walk_at"s"
 .rfl
 walk_at"s";refine⟨h,rfl,ho,?_⟩;walk_at"n";walk_at"c";refine⟨(h.a:Int),(h.b:Int),(((ordK h.ss.length h.ss.length).map lnD).length:Int),1,rfl,⟨by omega,by omega,by omega⟩,⟨by rw[gE];omega,by decide,by decide⟩,by rw[gE];omega,?_⟩;walk_at"x";rw[gE];refine oj (λi m=>∃a,m=MSt.mk [a,some (.imm (nf ((h.a:Int)*1) ((h.b:Int)*((ordK h.ss.length h.ss.length).length:Int))))] [(ordK h.ss.length h.ss.length).map lnD,(h7 h).take i] 2) ⟨none,rfl⟩ ?_ ?_ ?_
 .rintro i m ⟨a,rfl⟩;rfl
 .rintro i d m e hnp ⟨a,rfl⟩;obtain⟨o,Y,rfl,J⟩:=gmap e;walk_at"s";have U:(h7 h)[i]?=some (.tuple [(Mv.come o).d,nf ((h.a:Int)*1) ((h.b:Int)*((ordK h.ss.length h.ss.length).length:Int))]):=by unfold h7;rw[aae,Y];rfl
  refine⟨_,rfl,by rw[aaU,aan];omega,some (.imm (lnD o)),?_⟩;rw[abz,U];rfl
 .rintro m hnp ⟨a,rfl⟩;have O:(h7 h).take ((ordK h.ss.length h.ss.length).map lnD).length=h7 h:=by
   have:((ordK h.ss.length h.ss.length).map lnD).length=(h7 h).length:=by unfold h7;rw[gE,gE]
   rw[this];exact aab
  rw[O];walk_at"n";walk_at"c";refine⟨1,1,(h.a:Int),(h.b:Int),rfl,⟨by decide,by decide,by decide⟩,⟨by omega,by omega,by omega⟩,?_⟩;walk_at"n";refine fH ?_;walk_at"x";refine⟨true,h.ss.map Srv.d,rfl,?_⟩;refine bG (λi m=>∃a b,m=MSt.mk [some (.imm (.tuple [.tuple [.int h.a,.int h.b],.tuple (h.ss.map Srv.d),.bool h.mv])),some (.imm (.tuple [.int h.a,.int h.b])),some (.imm (.tuple (h.ss.map Srv.d))),some (.imm (.bool h.mv)),some (.obj 0),some (.imm (nf ((h.a:Int)*1) ((h.b:Int)*((ordK h.ss.length h.ss.length).length:Int)))),some (.obj 1),some (.imm (rsD h i)),a,b] [(ordK h.ss.length h.ss.length).map lnD,h7 h++jm h i] 0) ⟨none,none,?_⟩ ?_ ?_
  .rw[show jm h 0=[]from rfl,aaV];rfl
  .rintro i d m e hnp ⟨a,b,rfl⟩ D1 hD1 hR1;have J:i<h.ss.length:=by
    have:=(Io.mp e).1;rw[du,gE]at this;exact this
   have x:h.ss[i]?=some h.ss[i]:=iO J;have Z:d = .tuple [.int (i:Int),Srv.d h.ss[i]]:=by
    have:=pF (ds:=h.ss.map Srv.d) (i:=i) (d:=Srv.d h.ss[i]) (by rw[aae,x];rfl);rw[this]at e;exact(aal e).symm
   subst Z;have C:=ho.ok h.ss[i] (abj _);have sa:=C.a2;have W:=C.b2;have B:=C.b1;have S:=z9 ho (k:=i) (by omega);have ln:(jm h i).length=i:=by unfold jm;rw[gE,aa6]
   have L:(h7 h).length≤24:=by unfold h7;rw[gE];exact I
   generalize X:h.ss[i]=Q at *;obtain⟨t,v,u⟩:=Q;walk_at"s"
   .rfl
   walk_at"s";refine bC (ds:=[.tuple [.int (t:Int),.int (v:Int)],.int (u:Int)]) (bg (j:=0) rfl) ?_;walk_at"s";refine⟨_,rfl,?_⟩;refine⟨by rw[aan,aap];omega,?_⟩;walk_at"x";refine bC (ds:=[.tuple [.int (t:Int),.int (v:Int)],.int (u:Int)]) (bg (j:=0) rfl) ?_;walk_at"s";refine⟨(restF h i).1,(restF h i).2,(t:Int),(v:Int),rfl,S,⟨by simp only at sa;omega,by simp only at W;omega,by simp only at B;omega⟩,?_⟩;rw[<-FI (s:=⟨t,v,u⟩) x];walk_at"n";refine fH ?_;walk_at"n";refine hD1 _ ⟨some (.imm (.int (i:Int))),some (.imm (Srv.d ⟨t,v,u⟩)),?_⟩;rw[xv,bu x,acE];rfl
  .rintro m hnp ⟨a,b,rfl⟩;rw[du,gE];walk_at"s";refine bC (ds:=[.int (restF h h.ss.length).1,.int (restF h h.ss.length).2]) (bg (j:=0) rfl) ?_;walk_at"s";have ln:(jm h h.ss.length).length=h.ss.length:=by unfold jm;rw[gE,aa6]
   have L:(h7 h).length≤24:=by unfold h7;rw[gE];exact I
   rw[PC ho]at k;refine bj (λz=>?_) (λz=>?_)
   .rw[if_pos z]at k;walk_at"s";refine⟨_,rfl,?_⟩;refine⟨by rw[aan,aap];omega,?_⟩;walk_at"x";exact k
   .rw[if_neg z,aaV]at k;walk_at"s";exact k
theorem jo(T:Bl K mg)(D:DefM K mg "weights_behind" dm ["hall","rule","weights"])(o:FnM P w K mg base "move_shares" 4 1 uH)(g:FnM P w K mg base "on_one_bottom" 2 1 uV)(u:FnM P w K mg base "moved_on" 5 4 BR):FnM P w K mg base "weights_behind" 6 3 kZ:=by
 refine aU D aC rfl (nN:=13) rfl (by decide) ?ar λcdv A outer s H E f hr=>⟨_,(mz' (dJ (mf' g (hr.mono (by decide)) (mc' (fm (mf' o (hr.mono (by decide)) (mc' (mv' 0) mn'))) mn')) (bo (n:=2) (af (al 3 aC.nd) (af (al 4 aC.nd) aK))))
   (mz' (aw 5 aC.nd oh)
   (mz' (aw 6 aC.nd oh)
   (mz' (bQ (Ck (mv' 2)) (bo (n:=2) (af (al 7 aC.nd) (af (al 8 aC.nd) aK))) (aa (bQ (bx (mv' 3)) (bo (n:=2) (af (al 9 aC.nd) (af (al 10 aC.nd) aK))) (mz' (dJ (mf' u (hr.mono (by decide)) (mc' (mv' 0) (mc' (mv' 1) (mc' (mv' 7) (mc' (mv' 9) mn'))))) (bo (n:=2) (af (al 11 aC.nd) (af (al 12 aC.nd) aK))))
   (mz' (im hr.units (ae bh (jS hr.units (mv' 5) (mc' (mv' 11) (mc' mh' mn'))) (ae ay (mv' 8) (mv' 10))) (mv' 5) (mv' 11))
   (aa (FQ hr.units (ae bh (jS hr.units (mv' 6) (mc' (mv' 12) (mc' mh' mn'))) (ae ay (mv' 8) (mv' 10))) (mv' 6) (mv' 12))))) aaL)) aaL)
   (aa (tX (NU (ak (ap (mc' (mv' 5) (mc' (mv' 6) (mc' (mv' 4) mn')))))))))))),?_⟩
 case ar=>rintro as Kc ⟨h,r,W,rfl,_⟩;rfl
 rintro as Kc hl ⟨h,r,W,rfl,ho,C,hW,hWl,k⟩;have hB:=jP ho;obtain⟨mn,mo⟩:=Gm ho;refine am (MSt.mk [some (.imm h.d),some (.imm r.d),some (.imm (wtD W)),none,none,none,none,none,none,none,none,none,none] [] 0) rfl ?_;walk_at"s";refine⟨h,rfl,ho,?_⟩;walk_at"x";refine⟨shrL h,_,rfl,hB,?_⟩;rw[UE];walk_at"x"
 .rfl
 walk_at"s";refine zG (gm ?_);walk_at"n";refine zP (Km (zG (gm ?_)));walk_at"n";refine zP ?_;walk_at"s";refine LM ?_;walk_at"s";refine vx (by rw[Gg ho λp hp=>(hW p hp).1,acR]) ?_;refine bG (λi m=>∃a b c d e f:Option L2.R,m=MSt.mk [some (.imm h.d),some (.imm r.d),some (.imm (wtD W)),some (.imm (.list (msD (msL h)))),some (.imm (.int (botH h:Int))),some (.at 0 []),some (.at 1 []),a,b,c,d,e,f] [[.dict (lfKV (kvA ptD ((W.take i).foldl (goW h r (msL h)) ([],[])).1))],[.dict (lfKV (kvA wdD ((W.take i).foldl (goW h r (msL h)) ([],[])).2))]] 0/\GoOk h r (29*i) ((W.take i).foldl (goW h r (msL h)) ([],[]))) ⟨none,none,none,none,none,none,rfl,⟨λ_ hp=>(by cases hp),Dl _,Dl _⟩⟩ ?_ ?_
 .rintro i d m e hnp ⟨a1,a2,a3,a4,a5,a6,rfl,G0⟩ D1 hD1 hR1;obtain⟨J,ep,rfl,hi⟩:∃J:Pt×Int,W[i]?=some J/\.tuple [ptD J.1,.int J.2]=d/\i<W.length:=by
   have N:(b9 (kvA ptD W))[i]?=some d:=e;unfold b9 kvA at N;rw[aaD,aae]at N
   cases q:W[i]? with
   |none=>rw[q]at N;cases N
   |some J=>
    rw[q]at N;exact⟨J,rfl,aal N,(Io.mp q).1⟩
  obtain⟨⟨l,t⟩,z⟩:=J;obtain⟨V,Q⟩:=hW _ (DL ep);have v:(W.take (i+1)).foldl (goW h r (msL h)) ([],[])=goW h r (msL h) ((W.take i).foldl (goW h r (msL h)) ([],[])) ((l,t),z):=by
   rw[abz,ep,ac8];rfl
  generalize hx0:(W.take i).foldl (goW h r (msL h)) ([],[])=x0 at *;walk_at"s"
  .rfl
  walk_at"s";refine bG (λj m=>∃c d e f:Option L2.R,m=MSt.mk [some (.imm h.d),some (.imm r.d),some (.imm (wtD W)),some (.imm (.list (msD (msL h)))),some (.imm (.int (botH h:Int))),some (.at 0 []),some (.at 1 []),some (.imm (ptD (l,t))),some (.imm (.int z)),c,d,e,f] [[.dict (lfKV (kvA ptD (((msL h).take j).foldl (λx q=>goW1 h r (l,t) z q x) x0).1))],[.dict (lfKV (kvA wdD (((msL h).take j).foldl (λx q=>goW1 h r (l,t) z q x) x0).2))]] 0/\GoOk h r (29*i+j) (((msL h).take j).foldl (λx q=>goW1 h r (l,t) z q x) x0)) ⟨a3,a4,a5,a6,rfl,G0⟩ ?_ ?_
  .rintro j d m ej hnj ⟨b3,b4,b5,b6,rfl,G1⟩ D2 hD2 hR2;obtain⟨q,eq,rfl,hj⟩:=gmap ej;have O:=mo q (DL eq);have B:((msL h).take (j+1)).foldl (λx q=>goW1 h r (l,t) z q x) x0=goW1 h r (l,t) z q (((msL h).take j).foldl (λx q=>goW1 h r (l,t) z q x) x0):=by
    rw[abz,eq,ac8];rfl
   have X:=G1.next ho C V z O.1;rw[B]at hD2;generalize ((msL h).take j).foldl (λx q=>goW1 h r (l,t) z q x) x0=L at *;walk_at"s"
   .rfl
   walk_at"s";refine⟨h,r,l,t,q.1,rfl,ho,C,V.ln,O.1,V.tn,?_⟩;walk_at"n";rw[show mvD (fQ h r l t q.1) = .tuple [ptD ((fQ h r l t q.1).1,(fQ h r l t q.1).2.1),wdD (fQ h r l t q.1).2.2]from rfl];unfold goW1 at X hD2;have S:=o8 ho C V O.1;generalize fQ h r l t q.1=mm at *;obtain⟨Y,Z,U⟩:=mm;dsimp only at S X hD2⊢;walk_at"s"
   .rfl
   walk_at"s";refine on ?_;walk_at"s";walk_at"n";have I:=Gg ho G1.st;have R:=jc ho S;have m1:=G1.n1;have m2:=G1.n2;refine ue ?_;walk_at"s";refine⟨kvA ptD L.1,⟨rfl,rfl⟩,.inr I,?_⟩;walk_at"s";refine⟨kvA ptD L.1,ptD (Y,Z),.int 0,rfl,⟨rfl,rfl⟩,by unfold oneK;rw[I,show kyD (ptD (Y,Z))=true from R,aeQ,acR],?_⟩;rw[uc fJ];walk_at"s";refine bU (cN Q O.2) ?_;walk_at"s";refine⟨rfl,kvA ptD L.1,rfl,I,R,by unfold kvA;rw[gE,aan];omega,?_⟩;rw[yX fJ];walk_at"x";refine ue ?_;walk_at"s";refine⟨kvA wdD L.2,⟨rfl,rfl⟩,.inl (kO _),?_⟩;walk_at"s";refine⟨kvA wdD L.2,wdD U,.int 0,rfl,⟨rfl,rfl⟩,by unfold oneK;rw[kO];rfl,?_⟩;rw[uc (enc:=wdD) Iw];walk_at"s";refine bU (cN Q O.2) ?_;walk_at"s";refine u8 (x:=U.s) ?_;refine⟨_,lfKV (kvA wdD L.2),rfl,rfl,by rw[je];exact kO _,rfl,by unfold lfKV kvA;rw[gE,gE,aan];omega,?_⟩;rw[show ahp U.s=wdD U from rfl,CC (by rfl) (kO _),yX (enc:=wdD) Iw];exact hD2 _ ⟨some (.imm q.1.d),some (.imm (.int q.2)),some (.imm (ptD (Y,Z))),some (.imm (wdD U)),rfl,X⟩
  .rintro m hnj ⟨b3,b4,b5,b6,rfl,G1⟩;have el:(msD (msL h)).length=(msL h).length:=by unfold msD;rw[gE]
   have ef:(msL h).take (msD (msL h)).length=msL h:=by rw[el];exact aab
   rw[ef]at G1;rw[ef];refine hD1 _ (show ∃a b c d e f:Option L2.R,_ from⟨some (.imm (ptD (l,t))),some (.imm (.int z)),b3,b4,b5,b6,?_,?_⟩)
   .rw[v];rfl
   .rw[v];refine⟨G1.st,aaj G1.n1 ?_,aaj G1.n2 ?_⟩<;>rw[el]<;>omega
 .rintro m hnp ⟨a1,a2,a3,a4,a5,a6,rfl,G0⟩;have eW:W.take (b9 (kvA ptD W)).length=W:=by unfold b9 kvA;rw[gE,gE];exact aab
  rw[eW];rw[eW]at G0;refine LP 0 5 (kvA ptD (W.foldl (goW h r (msL h)) ([],[])).1) [1] (MSt.mk [some (.imm h.d),some (.imm r.d),some (.imm (wtD W)),some (.imm (.list (msD (msL h)))),some (.imm (.int (botH h:Int))),some (.imm (wtD (W.foldl (goW h r (msL h)) ([],[])).1)),some (.at 0 []),none,none,none,none,none,none] [[.dict (lfKV (kvA wdD (W.foldl (goW h r (msL h)) ([],[])).2))]] 0) rfl rfl (Gg ho G0.st) ?_ ?_
  .exact Ie rfl rfl rfl rfl rfl rfl rfl rfl ⟨.inl rfl,.inl rfl,.inl rfl,.inl rfl,.inl rfl,.inr ⟨rfl,.inr rfl⟩,.inl ⟨1,rfl,rfl⟩,.inl trivial,.inl trivial,.inl trivial,.inl trivial,.inl trivial,.inl trivial,trivial⟩
  refine UQ 0 6 (kvA wdD (W.foldl (goW h r (msL h)) ([],[])).2) [] (MSt.mk [some (.imm h.d),some (.imm r.d),some (.imm (wtD W)),some (.imm (.list (msD (msL h)))),some (.imm (.int (botH h:Int))),some (.imm (wtD (W.foldl (goW h r (msL h)) ([],[])).1)),some (.imm (.dict (kvA wdD (W.foldl (goW h r (msL h)) ([],[])).2))),none,none,none,none,none,none] [] 0) rfl rfl (by rw[je];exact kO _) ?_ ?_
  .exact Ie rfl rfl rfl rfl rfl rfl rfl rfl ⟨.inl rfl,.inl rfl,.inl rfl,.inl rfl,.inl rfl,.inl rfl,.inr ⟨rfl,.inr rfl⟩,.inl trivial,.inl trivial,.inl trivial,.inl trivial,.inl trivial,.inl trivial,trivial⟩
  walk_at"s";exact k
theorem o7(T:Bl K mg)(D:DefM K mg "told_shares" dF ["weights","whole"])(c:FnM P w K mg base "fraction_of" 2 2 FB):FnM P w K mg base "told_shares" 3 2 x8:=by
 refine aU D oZ rfl (nN:=2) rfl (by decide) ?ar λv A outer s H E f hr=>⟨_,(aa (ak (cZ di (by rfl) T.tuple iC (mc' (b8 (own:=["stand","weight"]) (fr:=["whole"]) (ps:=[1]) (sc:=(ac dF)) (by exact⟨rfl,by decide +kernel,by decide +kernel,by decide +kernel,by decide +kernel⟩) (bx (fm (BU hr.units T.sorted (mv' 0)))) (λ_ _ _ _ _=>(bo (n:=2) (af (al 0 (show ab2 ((["stand","weight"]:List Str)++(["whole"]:List Str))from by decide +kernel)) (af (al 1 (show ab2 ((["stand","weight"]:List Str)++(["whole"]:List Str))from by decide +kernel)) aK)))) (λ_ _ _ _ _=>cr) (λ_ _ _ _ _=>(ap (mc' (mv' 0) (mc' (mf' c (hr.mono (by decide)) (mc' (mv' 1) (mc' (mv' 2) mn'))) mn'))))) mn')))),?_⟩
 case ar=>rintro u j ⟨h,r,W,D,rfl,_⟩;rfl
 rintro u j I ⟨h,r,W,D,rfl,ho,X,B,z,k⟩;refine am (MSt.mk [some (.imm (wtD W)),some (.imm (.int (D:Int)))] [] 0) rfl ?_;walk_at"s";refine GV ?_;walk_at"s";have E:=QG ho X;refine vx (by rw[Gg ho X.st,acR]) ?_;rw[FJ];refine⟨E.srt X,λx p o=>?_⟩;obtain⟨g,s,rfl⟩:=E.srd X p o;have ln:g.length<64:=by rw[s.p.length_eq];exact X.n
 walk_at"s";walk_at"n";refine bG (λi m=>∃a b:Option L2.R,m=MSt.mk [a,b,some (.imm (.int (D:Int)))] [(g.take i).map λq=>.tuple [ptD q.1,nf q.2 (D:Int)]] 1) ⟨none,none,rfl⟩ ?_ ?_
 .rintro i d m e hnp ⟨a,b,rfl⟩ D1 hD1 hR1;obtain⟨q,eq,rfl,C⟩:=gmap e;have t:=s.p.mem_iff.mp (DL eq);show CK 2 _ (.tuple [ptD q.1,.int q.2]) _ _;walk_at"s"
  .rfl
  walk_at"s";refine⟨q.2,(D:Int),rfl,by omega,aax (X.v q t) (by decide),by rw[aaS];exact aax z (by decide),?_⟩;walk_at"x";refine⟨_,rfl,by rw[aan,gE,aaU];omega,hD1 _ ⟨some (.imm (ptD q.1)),some (.imm (.int q.2)),?_⟩⟩;rw[abl,eq,aaF];rfl
 .rintro m hnp ⟨a,b,rfl⟩;rw[gE,aab];walk_at"s";exact k g s
theorem lr(T:Bl K mg)(D:DefM K mg "left_by_turn" e9 ["hall","rule","stand"])(a:FnM P w K mg base "weights_behind" 6 3 kZ)(c:FnM P w K mg base "told_shares" 3 2 x8):FnM P w K mg base "left_by_turn" 7 3 nr:=by
 refine aU D cA rfl (nN:=6) rfl (by decide) ?ar λi A outer s H E f hr=>⟨_,(mz' (dJ (mf' a (hr.mono (by decide)) (mc' (mv' 0) (mc' (mv' 1) (mc' (qw hr.units (mv' 2) mh') mn')))) (bo (n:=3) (af (al 3 cA.nd) (af (al 4 cA.nd) (af (al 5 cA.nd) aK)))))
   (aa (ak (mf' c (hr.mono (by decide)) (mc' (mv' 3) (mc' (mv' 5) mn')))))),?_⟩
 case ar=>rintro g e ⟨h,r,l,t,rfl,_⟩;rfl
 rintro g e j ⟨h,r,l,t,rfl,d,S,k⟩;have ho:=d.ho;have b:botH h<10^66:=by have:=d.b;rwa[ahV]at this
 refine am (MSt.mk [some (.imm h.d),some (.imm r.d),some (.imm (stD l t)),none,none,none] [] 0) rfl ?_;walk_at"s";refine zY ?_;walk_at"s";refine⟨jc ho S,?_⟩;walk_at"s";refine⟨h,r,[((l,t),1)],rfl,ho,d.hr,λp hp=>?_,by show 1≤100000;decide,?_⟩
 .rw[show p=_ from OR.mp hp];exact⟨S,by show(1:Int).natAbs<10^160;decide⟩
 walk_at"x"
 .rfl
 walk_at"s";refine⟨h,r,lv h r (l,t),botH h,rfl,ho,(zl d S).1,iM ho,aax b (by decide),λW s=>?_⟩;walk_at"x";exact k W s
theorem ic(T:Bl K mg)(D:DefM K mg "stands_coming" dN ["hall","rule"])(c:FnM P w K mg base "first_stand" 1 1 sy)(a:FnM P w K mg base "left_by_turn" 7 3 nr):FnX P w K mg base "stands_coming" 8 2 IU:=by
 refine JQ D ba rfl (nN:=8) rfl (by decide) ?ar λcdv A outer s H E f b Ke hr hx=>⟨_,(mz' (aw 2 ba.nd (bH (mc' (mf' c (hr.mono (by decide)) (mc' (mv' 0) mn')) mn')))
   (mz' (aw 3 ba.nd (u7 hr.units (ah (mv' 2) mh') iG))
   (mz' (aw 4 ba.nd mh')
   (mz' (fy (au ji (mv' 4) (av aW (by rfl) T.len cw (mc' (mv' 2) mn')) (aI _)) (mz' (aw 5 ba.nd (mf' a (hr.mono (by decide)) (mc' (mv' 0) (mc' (mv' 1) (mc' (ah (mv' 2) (mv' 4)) mn')))))
   (mz' (bQ (bx (mv' 5)) (bo (n:=2) (af (al 6 ba.nd) (af (al 7 ba.nd) aK))) (aa (bq (au (mH hr.units) (mv' 6) (mv' 3) (by with_unfolding_all rfl)) (mz' (im hr.units iG (mv' 3) (mv' 6))
   (aa (h9 (qJ ade adf gn (mv' 2) (mc' (mv' 6) mn'))))) aA)) ahG)
   (mz' (bq (au l8 (av aW (by rfl) T.len cw (mc' (mv' 2) mn')) (Bh T.c_MOST_STANDS (by rfl)) (aI _)) (aa (xU T.i_TooMany.x hx (hr.mono (by decide)) rfl (mc' aY mn'))) aA)
   (aa (JL 4 ba.nd mh' OT))))) ahG)
   (aa (ak (av (ua hr.units) (by rfl) T.sorted iE (mc' (mv' 2) mn')))))))),?_⟩
 case ar=>rintro X Kc Ke ⟨h,r,rfl,_⟩;rfl
 rintro X Kc hl ⟨h,r,rfl,g,Y,k2⟩;have ho:=g.ho;have hr:=g.hr;have o:=iA ho r;refine am (MSt.mk [some (.imm h.d),some (.imm r.d),none,none,none,none,none,none] [] 0) rfl ?_;walk_at"s";refine⟨h,rfl,ho,?_⟩;walk_at"x";walk_at"c";refine Jo ?_;walk_at"s";refine⟨jc ho o,?_⟩;refine gm ?_;walk_at"x";refine jN (λn m=>∃(F:List Pt) (i:Nat) (J I B:Option L2.R),m=MSt.mk [some (.imm h.d),some (.imm r.d),some (.obj 0),some (.at 1 []),some (.imm (.int (i:Int))),J,I,B] [F.map ptD,[.dict (lfKV (knD F))]] 0/\Cmg (scS h r) (z0 h) F i/\n=100-i/\i≤F.length/\F.length≤60) 100 ⟨[z0 h],0,none,none,none,rfl,Cmg.one,rfl,abC _,Nat.le_of_sub_eq_zero rfl⟩ ?_;rintro n m hnp ⟨F,i,J,I,B,rfl,C,hn,hi,hF⟩;walk_at"s";rw[gE];refine bj (λz1=>?_) (λz1=>?_)
 .obtain⟨p,ep⟩:∃p,F[i]?=some p:=⟨_,iO (by omega)⟩;have Sp:=ml ho hr (x:=z0 h) o (C.rc p (DL ep));walk_at"s";refine' jX (d:=ptD p) (ds:=F.map ptD) ?xf ?xe ?_
  case xf=>rfl
  case xe=>exact bg (by rw[aae,ep];rfl)
  walk_at"s";refine⟨h,r,p.1,p.2,rfl,g,Sp,λW S=>?_⟩;have XW:=(zl (l:=p.1) (t:=p.2) g Sp).1;have wl:W.length<64:=by rw[S.p.length_eq];exact XW.n
  have u:∀z,z∈W.map (·.1)↔z∈scS h r p:=λz=>(S.p.map (·.1)).mem_iff.trans IP;generalize R:W.map (·.1)=L at u;have eL:L.length=W.length:=by rw[<-R,gE]
  walk_at"n";unfold gC;walk_at"s";refine bG (λj m=>∃k v:Option L2.R,m=MSt.mk [some (.imm h.d),some (.imm r.d),some (.obj 0),some (.at 1 []),some (.imm (.int (i:Int))),some (.imm (.tuple (W.map λq=>.tuple [ptD q.1,nf q.2 (botH h:Int)]))),k,v] [(adds F (L.take j)).map ptD,[.dict (lfKV (knD (adds F (L.take j))))]] 0) ⟨I,B,rfl⟩ ?_ ?_
  .rintro j d m ej hj ⟨k,v,rfl⟩ D1 hD1 hR1;obtain⟨q,eq,rfl,hz⟩:=gmap ej;have N:L[j]?=some q.1:=by rw[<-R,aae,eq];rfl
   have et:adds F (L.take (j+1))=add1 (adds F (L.take j)) q.1:=by
    unfold adds;rw[abz,N,ac8];rfl
   have Q:=(gj (F:=F) (xs:=L.take j)).2;rw[aaU]at Q;have Sa:∀y∈adds F (L.take j),St h r y.1 y.2:=λy e=>by
    rcases mem_adds.mp e with w|w
    .exact ml ho hr (x:=z0 h) o (C.rc y w)
    .exact pc ho hr Sp ((u y).mp (abw w))
   have Sy:=pc ho hr Sp ((u q.1).mp (DL N));rw[et]at hD1;generalize adds F (L.take j)=G at *;have U:=L4 ho Sa;have ky:=jc ho Sy;walk_at"s"
   .rfl
   walk_at"s";refine QM (kvs:=knD G) ⟨rfl,rfl⟩ (by unfold oneK;rw[U,show kyD (ptD q.1)=true from ky,aeQ,acR]) ?_;rw[yr,if_pos rfl];walk_at"s"
   by_cases e:q.1∈G
   .rw[decide_eq_true e,if_neg (show ¬(!true)=true from aaq)];rw[show add1 G q.1=G from if_pos e]at hD1;walk_at"s";walk_at"n";exact hD1 _ ⟨_,_,rfl⟩
   .rw[decide_eq_false e,if_pos (show(!false)=true from rfl)];rw[show add1 G q.1=G++[q.1]from if_neg e]at hD1;walk_at"x";refine on ?_;walk_at"s";refine⟨rfl,knD G,rfl,U,ky,by unfold knD;rw[gE,aan];omega,?_⟩;rw[Jf e];walk_at"x";refine' uT (ds:=G.map ptD) ?eb (by rw[aan,gE];omega) ?_
    case eb=>rfl
    walk_at"n";rw[aaF]at hD1;exact hD1 _ ⟨_,_,rfl⟩
  .rintro m hm ⟨k,v,rfl⟩;have Q:=gj (F:=F) (xs:=L);rw[gE,<-eL,aab];have O:=C.next ep u;walk_at"s";rw[gE];refine bj (λz2=>?_) (λz2=>?_)
   .walk_at"s";refine Qz [.str "stands"] rfl rfl (by decide) ?_;exact k2 _ _ O (by omega)
   .walk_at"s";refine V8 (i:Int) rfl ?_;walk_at"s";exact⟨1,rfl,100-(i+1),by omega,adds F L,i+1,_,k,v,rfl,O,rfl,by omega,by omega⟩
 .walk_at"s";refine LB (ds:=F.map ptD) rfl ?_;have SF:∀y∈F,St h r y.1 y.2:=λy e=>ml ho hr (x:=z0 h) o (C.rc y e);have XF:=AI SF C.nd (by omega);have eF:F.map ptD=(F.map λp=>(p,(0:Int))).map λp=>ptD p.1:=by rw[aaD];rfl
  rw[eF];refine⟨(po ho XF).srt XF,λds' p' V=>?_⟩;obtain⟨W,S,rfl⟩:=(po ho XF).srd XF p' V;walk_at"s";have Z:(W.map λp=>ptD p.1)=(W.map (·.1)).map ptD:=by rw[aaD];rfl
  rw[Z];refine Y F (W.map (·.1)) i C (by omega) (by omega) ⟨?_,?_⟩
  .have:=S.p.map (·.1);rwa[aaD,show((λx:Pt×Int=>x.1)∘λp:Pt=>(p,(0:Int)))=id from rfl,aeg]at this
  .rw[aev];exact S.o
theorem j3(T:Bl K mg)(D:DefM K mg "left_by_turns" dM ["hall","rule","turns"])(j:FnM P w K mg base "first_stand" 1 1 sy)(g:FnM P w K mg base "weights_behind" 6 3 kZ)(o:FnM P w K mg base "told_shares" 3 2 x8):FnM P w K mg base "left_by_turns" 7 3 Av:=by
 refine aU D bc rfl (nN:=8) rfl (by decide) ?ar λI A outer s H E f hr=>⟨_,(mz' (aw 3 bc.nd (qw hr.units (mf' j (hr.mono (by decide)) (mc' (mv' 0) mn')) mh'))
   (mz' (aw 4 bc.nd mh')
   (mz' (bQ (cy (by rfl) T.range (mc' (mv' 2) mn')) (al 5 bc.nd) (mz' (dJ (mf' g (hr.mono (by decide)) (mc' (mv' 0) (mc' (mv' 1) (mc' (mv' 3) mn')))) (bo (n:=3) (af (al 3 bc.nd) (af (al 6 bc.nd) (af (al 7 bc.nd) aK)))))
   (aa (aw 4 bc.nd (ae ay (mv' 4) (mv' 7))))) aaL)
   (aa (ak (mf' o (hr.mono (by decide)) (mc' (mv' 3) (mc' (mv' 4) mn')))))))),?_⟩
 case ar=>rintro B L ⟨h,r,n,rfl,_⟩;rfl
 rintro B L Q ⟨h,r,n,rfl,t,X,k⟩;have ho:=t.ho;have q:=t.hr;have O:=t.le;have u:=Wy ho q t.h0 (by omega) (aax t.b (by decide));refine am (MSt.mk [some (.imm h.d),some (.imm r.d),some (.imm (.int (n:Int))),none,none,none,none,none] [] 0) rfl ?_;walk_at"s";refine zY ?_;walk_at"s";refine⟨h,rfl,ho,?_⟩;walk_at"x";refine⟨jc ho (iA ho r),?_⟩;walk_at"s";refine⟨by omega,by omega,?_⟩;rw[show((n:Int)).toNat=n by omega];have C:botH h<10^76:=by have:=(jP ho).pre (shrL h).length;rw[aab]at this;exact this.2
 have v:∀{z:Nat},z<10^90->z<10^160:=λJ=>aax J (by decide);refine bG (λi m=>∃a b c:Option L2.R,m=MSt.mk [some (.imm h.d),some (.imm r.d),some (.imm (.int (n:Int))),some (.imm (wtD (stW h r i))),some (.imm (.int ((botH h^i:Nat):Int))),a,b,c] [] 0) ⟨none,none,none,rfl⟩ ?_ ?_
 .rintro i d m e hnp ⟨a,b,c,rfl⟩ D1 hD1 hR1;obtain⟨N,rfl⟩:=dg e;walk_at"s";refine⟨h,r,stW h r i,rfl,ho,q,λp hp=>⟨qj ho q i p hp,v (u.w i (by omega) p hp)⟩,u.l i (by omega),?_⟩;walk_at"x"
  .rfl
  walk_at"s";walk_at"n";have x:((botH h:Nat):Int).natAbs<10^160:=by rw[aaS];exact up45 C
  refine bU (cN (by rw[aaS];exact v (u.b i (by omega))) x) ?_;walk_at"s";rw[<-aaA,<-adm];exact hD1 _ ⟨_,_,_,rfl⟩
 .rintro m hnp ⟨a,b,c,rfl⟩;rw[aM];walk_at"s";have bp:0<botH h^n:=Nat.pow_pos (iM ho);refine⟨h,r,stW h r n,botH h^n,rfl,ho,X,bp,aax t.b (by decide),λW s=>?_⟩;walk_at"x";exact k W s
theorem s9(T:Bl K mg)(D:DefM K mg "_law_tape" iL ["_law_script"]):FnM P w K mg base "_law_tape" 1 1 IY:=by
 refine aU D t7 rfl (nN:=1) rfl (by decide) ?ar λd A outer s H E f hr=>⟨_,(aa (ak (bH (mc' (fm (d4 iY (mv' 0) gi (gg mh'))) (mc' mh' (mc' mh' mn')))))),?_⟩
 case ar=>rintro c b ⟨ns,rfl,_⟩;rfl
 rintro c b g ⟨ns,rfl,a,k⟩;refine am (MSt.mk [some (.imm (.list (ns.map .int)))] [] 0) rfl ?_;walk_at"s";have e:cutD (ns.map abn) none (some 63)=ns.map .int:=DN (n:=63) (by rw[gE];exact a);rw[e];exact k _ ⟨ns,0,0,rfl,a,by omega,by omega,by omega⟩
theorem rq(T:Bl K mg)(D:DefM K mg "_law_draw" iZ ["_law_tape_here","_law_many"]):FnM P w K mg base "_law_draw" 1 2 kz:=by
 refine aU D cj rfl (nN:=6) rfl (by decide) ?ar λC A outer s H E f hr=>⟨_,(mz' (bq (au l8 (ah (mv' 0) mh') mh' (aI _)) (mz' (aw 2 cj.nd (ae dj (ah (mv' 0) mh') (mv' 1)))
   (mz' (o4 (ae cR (ah (mv' 0) mh') (mv' 1)) (mv' 0) mh')
   (aa (ak (mv' 2))))) aA)
   (mz' (aw 3 cj.nd (ah (mv' 0) mh'))
   (mz' (o4 (ae bh (mv' 3) mh') (mv' 0) mh')
   (mz' (aw 4 cj.nd mh')
   (mz' (bq (au l8 (av aW (by rfl) T.len cw (mc' (ah (mv' 0) mh') mn')) mh' (aI _)) (aa (aw 4 cj.nd (ah (ah (mv' 0) mh') (ae dj (mv' 3) (av aW (by rfl) T.len cw (mc' (ah (mv' 0) mh') mn')))))) aA)
   (mz' (bq (EW.pt (Bo (au Po (mv' 4) (ae Ll mh' mh') (aI _)) (uL (au ji (mv' 3) (av aW (by rfl) T.len cw (mc' (ah (mv' 0) mh') mn')) (aI _))))) (mz' (o4 (ae cR (mv' 4) (mv' 1)) (mv' 0) mh')
   (aa (ak (ae dj (mv' 4) (mv' 1))))) aA)
   (mz' (aw 5 cj.nd (ae dj (ae ay (ae bh (ae bh (ae bh (ae dj (mv' 4) mh') (ae ay (ae ay mh' (mv' 3)) (mv' 3))) (ae ay mh' (mv' 3))) mh') mh') mh'))
   (mz' (aw 5 cj.nd (ae dj (ae bh (ae bh (ae ay (mv' 5) (mv' 5)) (ae ay mh' (mv' 5))) (mv' 3)) mh'))
   (aa (ak (ae dj (ae cR (ae dj (ae ay (mv' 5) mh') mh') mh') (mv' 1)))))))))))),?_⟩
 case ar=>rintro z u ⟨ds,m,c,rfl,_⟩;rfl
 rintro z u L ⟨ds,m,c,rfl,⟨ns,p,q,rfl,v,n,hp,g⟩,N,e,I,k⟩;refine am (MSt.mk [some (.obj 0),some (.imm (.int m)),none,none,none,none] [[.list (ns.map .int),.int p,.int q]] 1) rfl ?_;walk_at"s";refine bj (λh=>?_) (λh=>?_)
 .walk_at"s";exact k _ _ (afc _ (by omega)) (aeb _ e) ⟨ns,p,q/m,rfl,v,n,by omega,Int.ediv_nonneg g (by omega)⟩
 .walk_at"s";have d:∀x:Int,0≤x->x<m->∀j:Int,0≤j->u (.imm (.int x)) [[.list (ns.map .int),.int (p+1),.int j]]:=λx b t j J=>k _ _ b t ⟨ns,p+1,j,rfl,v,by omega,by omega,J⟩;have a:∀y:Int,0≤y/7%m/\y/7%m<m:=λy=>⟨afc _ (by omega),aeb _ e⟩;refine bj (λb=>?_) (λb=>?_)
  .walk_at"s";have o:(0:Int)<((List.map abn ns).length:Int):=by simpa using b
   obtain⟨x,B⟩:=GU (ns:=ns) (i:=p%((List.map abn ns).length:Int)) (afc _ (by omega)) (by have:=aeb p o;simp only[gE]at this⊢;exact this);refine tZ B ?_;walk_at"s";refine bj (λb=>?_) (λb=>?_)
   .walk_at"s";refine bj (λt=>?_) (λt=>?_)
    .walk_at"s";exact d _ (afc _ (by omega)) (aeb _ e) _ (Int.ediv_nonneg (ahB (by decide) b) (by omega))
    .walk_at"s";exact d _ (a _).1 (a _).2 _ g
   .walk_at"s";exact d _ (a _).1 (a _).2 _ g
  .walk_at"s";refine bj (λb=>?_) (λb=>?_)
   .exact absurd b (by decide)
   .walk_at"s";exact d _ (a _).1 (a _).2 _ g
theorem wQ(T:Bl K mg)(D:DefM K mg "_law_cut" kq ["_law_top","_law_bottom"]):FnM P w K mg base "_law_cut" 1 2 vh:=by
 refine aU D i6 rfl (nN:=4) rfl (by decide) ?ar λC A outer s H E f hr=>⟨_,(mz' (k7 (i:=2) (j:=3) i6.nd rfl rfl (by decide) rfl rfl (mc' (av pG (by rfl) T.abs IC (mc' (mv' 0) mn')) (mc' (mv' 1) mn')) rfl)
   (mz' (fy (au l8 (mv' 3) mh' (aI _)) (aa (k7 (i:=2) (j:=3) i6.nd rfl rfl (by decide) rfl rfl (mc' (mv' 3) (mc' (ae dj (mv' 2) (mv' 3)) mn')) rfl)) aaL)
   (aa (ak (ap (mc' (ae cR (mv' 0) (mv' 2)) (mc' (ae cR (mv' 1) (mv' 2)) mn'))))))),?_⟩
 case ar=>rintro z v ⟨a,b,rfl,_⟩;rfl
 rintro z v O ⟨t,b,rfl,e,L,hb,k⟩;refine am (MSt.mk [some (.imm (.int t)),some (.imm (.int b)),none,none] [] 0) rfl ?_;walk_at"s";rw[show(if t<0 then -t else t)=(t.natAbs:Int) by split<;>omega];refine jN (λn m=>∃x y:Nat,m=MSt.mk [some (.imm (.int t)),some (.imm (.int b)),some (.imm (.int x)),some (.imm (.int y))] [] 0/\x.gcd y=t.natAbs.gcd b/\n=y) b ⟨t.natAbs,b,rfl,rfl,rfl⟩ ?_;rintro n m J ⟨x,y,rfl,c,rfl⟩;walk_at"s";refine bj (λu=>?_) (λN=>?_)
 .walk_at"s";have I:0<n:=by omega
  have B:=ah6 x I;exact⟨x%n,B,n,x%n,rfl,by rw[agx,<-Nat.gcd_rec,agx,c],rfl⟩
 .have hy0:n=0:=by omega
  subst hy0;rw[aho]at c;have q:0<x:=by rw[c];exact abB _ e
  have o:x≤b:=by rw[c];exact af7 _ e
  walk_at"s";rw[c];have g:t.natAbs.gcd b<10^160:=by rw[<-c];exact aas o hb
  have d:0<t.natAbs.gcd b:=by rw[<-c];exact q
  refine iu (cfdB d g) ?_;walk_at"s";refine iu (cfdB d g) ?_;walk_at"s";unfold nf nfP at k;rw[if_neg (by omega),aaS]at k;exact k
theorem uq(T:Bl K mg)(D:DefM K mg "_law_plus" iU ["_law_one","_law_other"])(e:FnM P w K mg base "_law_cut" 1 2 vh):FnM P w K mg base "_law_plus" 2 2 VW:=by
 refine aU D sx rfl (nN:=2) rfl (by decide) ?ar λq A outer s H E f hr=>⟨_,(aa (ak (mf' e (hr.mono (by decide)) (mc' (ae bh (ae ay (ah (mv' 0) mh') (ah (mv' 1) mh')) (ae ay (ah (mv' 1) mh') (ah (mv' 0) mh'))) (mc' (ae ay (ah (mv' 0) mh') (ah (mv' 1) mh')) mn'))))),?_⟩
 case ar=>rintro o n ⟨a,b,c,d,rfl,_⟩;rfl
 rintro o n t ⟨a,b,c,d,rfl,g,i,k⟩;refine am (MSt.mk [some (.imm (.tuple [.int a,.int b])),some (.imm (.tuple [.int c,.int d]))] [] 0) rfl ?_;walk_at"s";refine bU (cN (up45 g.ha) (up45 i.hb)) ?_;walk_at"s";refine bU (cN (up45 i.ha) (up45 g.hb)) ?_;walk_at"s";refine bU (cN (up45 g.hb) (up45 i.hb)) ?_;walk_at"s";obtain⟨m,eb,j⟩:=uR g.hp i.hp;rw[eb];refine⟨_,m,rfl,j,Ud (fZ g.ha i.hb) (fZ i.ha g.hb),(by have:=fZ g.hb i.hb;rw[eb,aaS]at this;exact ur this),?_⟩;walk_at"n";rw[<-eb];exact k
theorem p8(T:Bl K mg)(D:DefM K mg "_law_times" gU ["_law_one","_law_other"])(e:FnM P w K mg base "_law_cut" 1 2 vh):FnM P w K mg base "_law_times" 2 2 Ur:=by
 refine aU D rh rfl (nN:=2) rfl (by decide) ?ar λq A outer s H E f hr=>⟨_,(aa (ak (mf' e (hr.mono (by decide)) (mc' (ae ay (ah (mv' 0) mh') (ah (mv' 1) mh')) (mc' (ae ay (ah (mv' 0) mh') (ah (mv' 1) mh')) mn'))))),?_⟩
 case ar=>rintro o n ⟨a,b,c,d,rfl,_⟩;rfl
 rintro o n t ⟨a,b,c,d,rfl,g,i,k⟩;refine am (MSt.mk [some (.imm (.tuple [.int a,.int b])),some (.imm (.tuple [.int c,.int d]))] [] 0) rfl ?_;walk_at"s";refine bU (cN (up45 g.ha) (up45 i.ha)) ?_;walk_at"s";refine bU (cN (up45 g.hb) (up45 i.hb)) ?_;walk_at"s";obtain⟨m,eb,j⟩:=uR g.hp i.hp;rw[eb];refine⟨_,m,rfl,j,ur (fZ g.ha i.ha),(by have:=fZ g.hb i.hb;rw[eb,aaS]at this;exact ur this),?_⟩;walk_at"n";rw[<-eb];exact k
theorem qM(T:Bl K mg)(D:DefM K mg "_law_parts" c9 ["_law_tape_here","_law_many"])(b:FnM P w K mg base "_law_draw" 1 2 kz)(j:FnM P w K mg base "_law_cut" 1 2 vh):FnM P w K mg base "_law_parts" 3 2 uZ:=by
 refine aU D dG rfl (nN:=5) rfl (by decide) ?ar λcdv A outer s H E f hr=>⟨_,(mz' (cn (i:=2) dG.nd rfl (add rfl) (ah (bH (mc' mh' (mc' mh' (mc' mh' (mc' (ah (bH (mc' mh' (mc' mh' mn'))) (cZ AA (by rfl) T.int QE (mc' (og l8 (mv' 1) mh' (aI _)) mn'))) mn'))))) (mf' b (hr.mono (by decide)) (mc' (mv' 0) (mc' mh' mn')))))
   (mz' (cn (i:=3) dG.nd rfl (add rfl) (b8 (own:=["_law_k"]) (fr:=["_law_tape_here","_law_most"]) (ps:=[0,2]) (sc:=(ac c9)) (by exact⟨rfl,by decide +kernel,by decide +kernel,by decide +kernel,by decide +kernel⟩) (cy (by rfl) T.range (mc' (ae bh (mv' 1) mh') mn')) (λ_ _ _ _ _=>(al 0 (show ab2 ((["_law_k"]:List Str)++(["_law_tape_here","_law_most"]:List Str))from by decide +kernel))) (λ_ _ _ _ _=>cr) (λ_ _ _ _ _=>(ae bh mh' (mf' b (hr.mono (by decide)) (mc' (mv' 1) (mc' (mv' 2) mn')))))))
   (mz' (cn (i:=4) dG.nd rfl (add rfl) (ah (bH (mc' mh' (mc' (ae bh mh' (mf' b (hr.mono (by decide)) (mc' (mv' 0) (mc' (mv' 2) mn')))) (mc' (mf' b (hr.mono (by decide)) (mc' (mv' 0) (mc' mh' mn'))) mn')))) (mf' b (hr.mono (by decide)) (mc' (mv' 0) (mc' mh' mn')))))
   (aa (ak (b8 (own:=["_law_part"]) (fr:=["_law_parts_here","_law_rest"]) (ps:=[3,4]) (sc:=(ac c9)) (by exact⟨rfl,by decide +kernel,by decide +kernel,by decide +kernel,by decide +kernel⟩) (bx (mv' 3)) (λ_ _ _ _ _=>(al 0 (show ab2 ((["_law_part"]:List Str)++(["_law_parts_here","_law_rest"]:List Str))from by decide +kernel))) (λ_ _ _ _ _=>cr) (λ_ _ _ _ _=>(mf' j (hr.mono (by decide)) (mc' (mv' 0) (mc' (ae bh (av (wR rfl) (by rfl) T.sum T7 (mc' (mv' 1) mn')) (mv' 2)) mn')))))))))),?_⟩
 case ar=>rintro as Kc ⟨fd,c,n,rfl,_⟩;rfl
 rintro as Kc hl ⟨fd,c,n,rfl,g,hc,hn,k⟩;refine am (MSt.mk [some (.obj 0),some (.imm (.int (n:Int))),none,none,none] [fd] 1) rfl ?_;obtain⟨C,W,n1,n2⟩:∃C:Nat,atI [abn 1600,abn 40] (if decide (2<(n:Int))=true then 1 else 0)=some (.int (C:Int))/\1≤C/\C≤1600:=by
  split
  .exact⟨40,rfl,by decide,by decide⟩
  .exact⟨1600,rfl,by decide,by decide⟩
 walk_at"s";refine jg W ?_;walk_at"s";refine⟨fd,_,_,rfl,g,by omega,by decide,by decide,λi fd hi0 hi1 g=>?_⟩;walk_at"n";obtain⟨B,S,mo1,mo4⟩:∃B:Nat,atI [abn 9,abn 3,abn 40,abn (C:Int)] i=some (.int (B:Int))/\1≤B/\B≤1600:=by
  rcases (show i=0\/i=1\/i=2\/i=3 by omega)with z|z|z|z<;>rw[z]
  .exact⟨9,rfl,by decide,by decide⟩
  .exact⟨3,rfl,by decide,by decide⟩
  .exact⟨40,rfl,by decide,by decide⟩
  .exact⟨C,rfl,n1,n2⟩
 walk_at"s";refine jg S ?_;walk_at"s";refine⟨by omega,by omega,?_⟩;rw[show((n:Int)+1).toNat=n+1 by omega];walk_at"n";refine bG (λz m=>∃(a:Option L2.R) (J:List dL) (ps:List Nat),m=MSt.mk [a,some (.obj 0),some (.imm (.int (B:Int)))] [J,natD ps] 2/\TapeD (c+1+z) J/\ps.length=z/\∀p∈ps,1≤p/\p≤1600) ⟨none,fd,[],rfl,g,rfl,λ_ h=>by cases h⟩ ?_ ?_
 .rintro z d m e hz ⟨a,fd,ps,rfl,g,t,o⟩ D1 hD1 hR1;obtain⟨hi,rfl⟩:=dg e;walk_at"s";refine⟨fd,_,_,rfl,g,by omega,by omega,by omega,λq fd v Q g=>?_⟩;walk_at"n";obtain⟨Y,rfl⟩:=ab3 v;walk_at"s";refine⟨_,rfl,by rw[aan,aH];omega,hD1 _ ⟨some (.imm (.int (0+(z:Int)))),fd,ps++[1+Y],by rw[vm];rfl,g,by rw[aap,t];rfl,λx I=>?_⟩⟩;obtain I|I:=aaK.mp I
  .exact o x I
  .rw[OR.mp I];omega
 rintro m hm ⟨a,fd,ps,rfl,g,t,o⟩;rw[aM]at g t;walk_at"n";refine cq ?_;walk_at"n";refine am (MSt.mk [some (.obj 0),some (.imm (.int (n:Int))),some (.imm (.int (B:Int))),some (.obj 1),none] [fd,natD ps] 1) rfl ?_;walk_at"s";refine⟨fd,_,_,rfl,g,by omega,by omega,by omega,λV fd v Q g=>?_⟩;walk_at"n";obtain⟨V,rfl⟩:=ab3 v;walk_at"s";refine⟨fd,_,_,rfl,g,by omega,by omega,by omega,λU fd N hr1 g=>?_⟩;walk_at"n";obtain⟨U,rfl⟩:=ab3 N;walk_at"s";refine⟨fd,_,_,rfl,g,by omega,by omega,by omega,λL fd Z hs1 g=>?_⟩;walk_at"n";obtain⟨u,O,re4⟩:∃u:Nat,atI [abn 0,abn (1+(V:Int)),abn (U:Int)] L=some (.int (u:Int))/\u≤1601:=by
  rcases (show L=0\/L=1\/L=2 by omega)with z|z|z<;>rw[z]
  .exact⟨0,rfl,by decide⟩
  .exact⟨1+V,by rw[ac3];rfl,by omega⟩
  .exact⟨U,rfl,by omega⟩
 walk_at"s";refine jg O ?_;walk_at"s";have X:=Jb λp hp=>(o p hp).2;walk_at"n";refine ye (λz m=>∃a,m=MSt.mk [a,some (.obj 1),some (.imm (.int (u:Int)))] [fd,natD ps,((ps.take z).map (cutN (ps.sum+u))).map prD] 3) ⟨none,rfl⟩ ?_ ?_ ?_
 .rintro z m ⟨a,rfl⟩;rfl
 .rintro z d m ez nz ⟨a,rfl⟩ D2 hD2;obtain⟨p,R,rfl,hz⟩:=gmap ez;have hp:=o p (DL R);have hp2:=Ak (DL R);walk_at"s";refine O6 rfl (xZ ps) ?_;rw[sumZ];walk_at"s";refine⟨(p:Int),ps.sum+u,by rw[ac3],by omega,aas (show((p:Nat):Int).natAbs≤1600 by omega) (by decide),aas (show ps.sum+u≤100000 by omega) (by decide),?_⟩;rw[R9 (by omega)];walk_at"x";refine⟨_,rfl,by rw[aan,gE,gE,aaU];omega,hD2 _ ⟨some (.imm (.int (p:Int))),?_⟩⟩;rw[abl,R,aaF,aaF];rfl
 .rintro m hm ⟨a,rfl⟩;rw[aH,aab];walk_at"s";exact k ps (ps.sum+u) fd t o (by have:=List.length_pos_iff.mp (show 0<ps.length by omega);cases ps with|nil=>exact(this rfl).elim|cons x ps=>have:=o x GE;simp only[acr];omega) (by omega) (by omega) (g.mono (by omega))
theorem tf(T:Bl K mg)(D:DefM K mg "_law_hall" gu ["_law_tape_here","_law_menu"])(g:FnM P w K mg base "_law_draw" 1 2 kz)(u:FnM P w K mg base "_law_parts" 3 2 uZ):FnM P w K mg base "_law_hall" 4 2 za:=by
 refine aU D bA rfl (nN:=8) rfl (by decide) ?ar λcdv A outer s H E f hr=>⟨_,(mz' (cn (i:=2) bA.nd rfl (add rfl) (ah (mv' 1) (mf' g (hr.mono (by decide)) (mc' (mv' 0) (mc' (av aW (by rfl) T.len cw (mc' (mv' 1) mn')) mn')))))
   (mz' (aw 3 bA.nd (mf' u (hr.mono (by decide)) (mc' (mv' 0) (mc' (av aW (by rfl) T.len cw (mc' (mv' 2) mn')) mn'))))
   (mz' (cn (i:=4) bA.nd rfl (add rfl) (d4 iY (mv' 3) (gg mh') gi))
   (mz' (bq (au (cv hr.units) (mf' g (hr.mono (by decide)) (mc' (mv' 0) (mc' mh' mn'))) mh' (aI _)) (mz' (cn (i:=2) bA.nd rfl (add rfl) (ae ay (d4 iY (mv' 2) gi (gg mh')) (av aW (by rfl) T.len cw (mc' (mv' 2) mn'))))
   (mz' (aw 5 bA.nd (ah (mv' 4) mh'))
   (mz' (bQ (bx (mv' 4)) (al 6 bA.nd) (aa (bq (au ji (ae ay (ah (mv' 6) mh') (ah (mv' 5) mh')) (ae ay (ah (mv' 5) mh') (ah (mv' 6) mh')) (aI _)) (aa (aw 5 bA.nd (mv' 6))) aA)) aaL)
   (aa (cn (i:=4) bA.nd rfl (add rfl) (ae ay (bH (mc' (mv' 5) mn')) (av aW (by rfl) T.len cw (mc' (mv' 2) mn')))))))) aA)
   (mz' (aw 7 bA.nd (cZ di (by rfl) T.tuple iC (mc' (b8 (own:=["_law_k"]) (fr:=["_law_speeds","_law_rooms"]) (ps:=[4,2]) (sc:=(ac gu)) (by exact⟨rfl,by decide +kernel,by decide +kernel,by decide +kernel,by decide +kernel⟩) (cy (by rfl) T.range (mc' (av aW (by rfl) T.len cw (mc' (mv' 2) mn')) mn')) (λ_ _ _ _ _=>(al 0 (show ab2 ((["_law_k"]:List Str)++(["_law_speeds","_law_rooms"]:List Str))from by decide +kernel))) (λ_ _ _ _ _=>cr) (λ_ _ _ _ _=>(ap (mc' (ah (mv' 1) (mv' 0)) (mc' (ah (mv' 2) (mv' 0)) mn'))))) mn')))
   (aa (ak (ap (mc' (ah (mv' 3) mh') (mc' (mv' 7) (mc' (og (cv hr.units) (mf' g (hr.mono (by decide)) (mc' (mv' 0) (mc' mh' mn'))) mh' (aI _)) mn'))))))))))),?_⟩
 case ar=>rintro as Kc ⟨fd,c,U,rfl,_⟩;rfl
 rintro as Kc hl ⟨fd,c,U,rfl,⟨hne,hml,hms⟩,I,hc,k⟩;have hm0:0<U.length:=List.length_pos_iff.mpr hne;refine am (MSt.mk [some (.obj 0),some (.imm (.list (U.map lnD))),none,none,none,none,none,none] [fd] 1) rfl ?_;walk_at"s";rw[gE];refine⟨fd,_,_,rfl,I,by omega,by omega,by omega,λi fd hi0 hi1 I=>?_⟩;obtain⟨i,rfl⟩:=ab3 hi0;obtain⟨rs,Q⟩:∃rs,U[i]?=some rs:=⟨_,iO (show i<U.length by omega)⟩;obtain⟨r1,r4,hr⟩:=hms rs (DL Q);walk_at"n";refine tZ (d:=lnD rs) (bg (by rw[aae,Q];rfl)) ?_;walk_at"s";dsimp only[lnD];walk_at"s";rw[aH];refine⟨fd,_,rs.length,rfl,I,by omega,r4,λns S fd Z X C hS2 hSs I=>?_⟩;walk_at"n";walk_at"c";refine cq ?_;obtain⟨p0,v,rfl⟩:∃p0 v,ns=p0::v:=by
  cases ns with
  |nil=>simp at Z
  |cons p0 v=>exact⟨p0,v,rfl⟩
 have hsl:v.length=rs.length:=by simpa using Z
 have h0:=X p0 GE;have O:∀p∈v,1≤p/\p≤1600:=λp hp=>X p (Ge _ hp);have Y:cutD (((p0::v).map (cutN S)).map prD) (some 1) none=(v.map (cutN S)).map prD:=by
  rw[show(1:Int)=((1:Nat):Int)from rfl,qK];rfl
 rw[Y];walk_at"n";refine zP ?_;refine x_JS (λm=>∃(o:List Nat) (t:List Nat) (a b:Option L2.R) (fd':List dL),m=MSt.mk [some (.obj 0),some (.imm (.list (U.map lnD))),some (.imm (.tuple (natD o))),some (.obj 1),some (.obj 2),a,b,none] [fd',((p0::v).map (cutN S)).map prD,(t.map (cutN S)).map prD] 1/\TapeD (c+12) fd'/\o.length=rs.length/\t.length=rs.length/\(∀r∈o,1≤r/\r≤6)/\(∀p∈t,1≤p/\p≤1600)/\t.sum≤v.sum/\o∈altR U) (λN J=>?_) ?_
 .walk_at"s";refine⟨fd,_,_,rfl,I,by omega,by omega,by omega,λq1 fd hq0 hq1 I=>?_⟩;walk_at"x";refine bj (λz=>?_) (λz=>?_)
  .walk_at"s";obtain⟨L,rt,rfl⟩:∃L rt,rs=L::rt:=by
    cases rs with
    |nil=>simp at r1
    |cons L rt=>exact⟨L,rt,rfl⟩
   obtain⟨B,st,rfl⟩:∃B st,v=B::st:=by
    cases v with
    |nil=>simp at hsl
    |cons B st=>exact⟨B,st,rfl⟩
   have ec1:cutD (natD (L::rt)) none (some 1)=[.int (L:Int)]:=by
    rw[show(1:Int)=((1:Nat):Int)from rfl,sg];rfl
   rw[ec1,aH];generalize hn:(L::rt).length=n at *;refine Ix (by omega) (by omega) (by simp;omega) ?_;rw[aa1,vk,FM];walk_at"s";refine jX (d:=prD (cutN S B)) rfl (show atI (((B::st).map (cutN S)).map prD) 0=some (prD (cutN S B))from bg (j:=0) (xs:=((B::st).map (cutN S)).map prD) rfl) ?_;walk_at"s";refine ye (λz m=>∃(q:Nat) (b:Option dL),m=MSt.mk [some (.obj 0),some (.imm (.list (U.map lnD))),some (.imm (.tuple (natD (aam n L)))),some (.obj 1),some (.obj 2),some (.imm (prD (cutN S q))),b.map L2.R.imm,none] [fd,((p0::B::st).map (cutN S)).map prD,((B::st).map (cutN S)).map prD] 3/\q∈B::st/\∀x∈(B::st).take z,q≤x) ?_ ?_ ?_ ?_
   .exact⟨B,none,rfl,GE,λ_ h=>by cases h⟩
   .rintro z m ⟨q,b,rfl,_⟩;rfl
   .rintro z d m ez nz ⟨q,b,rfl,hq,hmn⟩ D2 hD2;obtain⟨p',ep',rfl,hz⟩:=gmap ez;obtain⟨p,W,rfl,hz'⟩:=gmap ep';have b1:=O p (DL W);have b2:=O q hq;have c1:=oi (b:=S) (p:=p) b1.1 (by omega) C (by omega);have c2:=oi (b:=S) (p:=q) b2.1 (by omega) C (by omega);have lt:=QK (S:=S) (p:=p) (q:=q) C;have tk:∀y,(∀x∈(B::st).take z,y≤x)->y≤p->∀x∈(B::st).take (z+1),y≤x:=λy h1 h2 x R=>by
     rw[abl,W]at R;obtain R|R:=aaK.mp R
     .exact h1 x R
     .rw[OR.mp R];exact h2
    dsimp only[prD];walk_at"s";refine bj (λz=>?_) (λz=>?_)
    .walk_at"s";have hlt:=lt.mp (Int.ofNat_lt.mp (by rw[aaA,aaA];exact z));exact hD2 _ ⟨p,some (prD (cutN S p)),rfl,DL W,tk p (λx R=>aaj (aa0 hlt) (hmn x R)) (Dl _)⟩
    .walk_at"s";refine hD2 _ ⟨q,some (prD (cutN S p)),rfl,hq,tk q hmn (Nat.le_of_not_lt λy=>z ?_)⟩;have:=Int.ofNat_lt.mpr (lt.mpr y);rwa[aaA,aaA]at this
   .rintro m hm ⟨q,b,rfl,hq,hmn⟩;rw[gE,gE,aab]at hmn;walk_at"s";rw[aH,ach];refine Sj (by omega) (by omega) (by simp;omega) ?_;rw[aa1,vk];refine md (k:=2) rfl (show 1≤2 by decide) (λj hj=>?_) (J _ ⟨aam n L,aam n q,some (.imm (prD (cutN S q))),b.map L2.R.imm,fd,by rw[afw,afw];rfl,I.mono (by omega),by rw[ach],by rw[ach],λr V=>?_,λp hp=>?_,?_,?_⟩)
    .match j with
     |0|1|2|3|5|7=>exact λz=>by cases z
     |6=>cases b with
      |none=>exact λz=>by cases z
      |some b=>exact λz=>by cases z
     |4=>exact(hj rfl).elim
     |n+8=>exact λz=>by cases z
    .rw[afX V];exact hr L GE
    .rw[afX hp];exact O q hq
    .exact mr (by omega) hmn
    .refine abi.mpr ⟨L::rt,DL Q,?_⟩;rw[hn];exact Ge _ GE
  .walk_at"s";exact J _ ⟨rs,v,none,none,fd,rfl,I.mono (by omega),rfl,hsl,hr,O,Dl _,abi.mpr ⟨rs,DL Q,GE⟩⟩
 rintro _ ⟨o,t,a,b,fd,rfl,I,hrl,hsl',V,hsp',hsum,hal⟩;walk_at"x";rw[aH];refine⟨by omega,by omega,?_⟩;rw[aa1];walk_at"n";refine bG (λz m=>∃a,m=MSt.mk [a,some (.obj 2),some (.imm (.tuple (natD o)))] [fd,((p0::v).map (cutN S)).map prD,(t.map (cutN S)).map prD,((adI (srvS S) t o).take z).map Srv.d] 4) ⟨none,rfl⟩ ?_ ?_
 .rintro z d m e hz ⟨a,rfl⟩ D1 hD1 hR1;obtain⟨hi,rfl⟩:=dg e;obtain⟨r,er⟩:∃r,o[z]?=some r:=⟨_,iO (by omega)⟩;obtain⟨p,W⟩:∃p,t[z]?=some p:=⟨_,iO (by omega)⟩;rw[show(0:Int)+(z:Int)=((z:Nat):Int) by omega];walk_at"s";refine jX (d:=prD (cutN S p)) rfl (bg (by rw[aae,aae,W];rfl)) ?_;walk_at"s";refine bC (bg (bW er)) ?_;walk_at"s";refine⟨_,rfl,by rw[aan,gE,aaU];omega,hD1 _ ⟨some (.imm (.int (z:Int))),?_⟩⟩;rw[abl,acA.mpr ⟨p,r,W,er,rfl⟩,aaF];rfl
 .rintro m hm ⟨a',rfl⟩;have ezl:(adI (srvS S) t o).length=o.length:=by rw[ag8];omega
  rw[aM,<-ezl,aab];walk_at"s";refine jX (d:=prD (cutN S p0)) rfl (show atI (((p0::v).map (cutN S)).map prD) 0=some (prD (cutN S p0))from bg (j:=0) (xs:=((p0::v).map (cutN S)).map prD) rfl) ?_;walk_at"s";refine⟨fd,_,_,rfl,I,by omega,by omega,by omega,λq fd hq0 hq1 I=>?_⟩;walk_at"x";have c0:=oi (b:=S) (p:=p0) h0.1 (by omega) C (by omega);rw[acr]at hSs;refine k (xH S p0 t o (decide (q=0))) S fd ⟨c0.1,c0.2.1,c0.2.2.1,c0.2.2.2,by show 1≤(adI (srvS S) t o).length;omega,by show(adI (srvS S) t o).length≤4;omega,λs hs=>?_⟩ (GA C hS2 (by omega) (by omega)) (by rw[Gq (by omega)];exact hal) (I.mono (by omega));obtain⟨i,hi⟩:=acB hs;obtain⟨p,r,e1,e2,rfl⟩:=acA.mp hi;have hp:=hsp' p (DL e1);exact C7 (oi (b:=S) (p:=p) hp.1 (by omega) C (by omega)) (V r (DL e2))
theorem jr(T:Bl K mg)(D:DefM K mg "_law_all_lines" ck ["_law_hall_here"]):FnM P w K mg base "_law_all_lines" 1 1 Kq:=by
 refine aU D bi rfl (nN:=6) rfl (by decide) ?ar λN A outer s H E f hr=>⟨_,(mz' (aw 1 bi.nd (bH (mc' (ap mn') mn')))
   (mz' (bQ (bx (ah (mv' 0) mh')) (bo (n:=2) (af (al 2 bi.nd) (af (al 3 bi.nd) aK))) (mz' (aw 4 bi.nd (bH mn'))
   (mz' (bQ (bx (mv' 1)) (vI (i:=5) bi.nd rfl (add rfl)) (aa (h9 (qJ PySem.F.slot_list_extend PySem.F.type_list_extend wG (mv' 4) (mc' (b8 (own:=["_law_many"]) (fr:=["_law_lines"]) (ps:=[5]) (sc:=(ac ck)) (by exact⟨rfl,by decide +kernel,by decide +kernel,by decide +kernel,by decide +kernel⟩) (cy (by rfl) T.range (mc' (ae bh (mv' 3) mh') mn')) (λ_ _ _ _ _=>(al 0 (show ab2 ((["_law_many"]:List Str)++(["_law_lines"]:List Str))from by decide +kernel))) (λ_ _ _ _ _=>cr) (λ_ _ _ _ _=>(ae bh (mv' 1) (ap (mc' (mv' 0) mn'))))) mn')))) aaL)
   (aa (aw 1 bi.nd (mv' 4))))) aaL)
   (aa (ak (mv' 1))))),?_⟩
 case ar=>rintro J I ⟨h,rfl,_⟩;rfl
 rintro J I U ⟨h,rfl,ho,k⟩;refine am (MSt.mk [some (.imm (.tuple [.tuple [.int h.a,.int h.b],.tuple (h.ss.map Srv.d),.bool h.mv])),none,none,none,none,none] [] 0) rfl ?_;walk_at"s";walk_at"c";refine gV (λi m=>∃a b c,m=MSt.mk [some (.imm (.tuple [.tuple [.int h.a,.int h.b],.tuple (h.ss.map Srv.d),.bool h.mv])),some (.obj 0),a,b,none,c] [(((h.rs.take i).foldl M3.stepL [[]]).map lnD)] 0) ⟨none,none,none,rfl⟩ ?_ ?_
 .rintro i d m e n ⟨a,b,c,rfl⟩;obtain⟨s,u,rfl,S⟩:=gmap e;have r1:=(ho.ok s (DL u)).r1;have r6:=(ho.ok s (DL u)).r6;have C:=h.rsl;generalize o:(h.rs.take i).foldl M3.stepL [[]]=g;have v:∀a∈g,a.length≤4:=by
   intro a ha;rw[<-o]at ha;have:=M3.allR_len (by rw[<-M3.allL_eq];exact ha);rw[this,aaU];have:=ho.n4;omega
  have O:g.length≤2401:=by
   rw[<-o];exact M3.fold_small (by rw[aaU];have:=ho.n4;omega) (λr hr=>ho.r6 r (abw hr))
  have q:((h.rs.take (i+1)).foldl M3.stepL [[]])=M3.stepL g s.r:=by
   rw[abl,Hall.rs_get u,ac8,o];rfl
  rw[q];dsimp only[Srv.d];walk_at"s"
  .rfl
  walk_at"s";walk_at"c";refine oj (λi m=>∃a,m=MSt.mk [some (.imm (.tuple [.tuple [.int h.a,.int h.b],.tuple (h.ss.map Srv.d),.bool h.mv])),some (.obj 0),some (.imm (.tuple [.int s.a,.int s.b])),some (.imm (.int s.r)),some (.obj 1),a] [g.map lnD,(M3.stepL (g.take i) s.r).map lnD] 1) ⟨c,rfl⟩ ?_ ?_ ?_
  .rintro j m ⟨a,rfl⟩;rfl
  .rintro j d m ej nj ⟨a,rfl⟩;obtain⟨l,B,rfl,R⟩:=gmap ej;have L:=v l (DL B);walk_at"s";refine⟨by omega,by omega,?_⟩;have Q:((s.r:Int)+1).toNat=s.r+1:=by omega
   rw[Q];walk_at"n";refine bG (λz m=>∃b,m=MSt.mk [b,some (.imm (lnD l))] [g.map lnD,(M3.stepL (g.take j) s.r).map lnD,((aaH z).map λy=>l++[y]).map lnD] 3) ⟨none,rfl⟩ ?_ ?_
   .rintro z dz m ez nz ⟨b,rfl⟩ D1 hD1 hR1;obtain⟨x,rfl⟩:=dg ez;walk_at"s";refine vi (by rw[aan,aH];simp;omega) ?_;walk_at"s";refine⟨_,rfl,by rw[aan];simp;omega,hD1 _ ⟨some (.imm (.int (0+(z:Int)))),?_⟩⟩;have t:((aaH (z+1)).map λy=>l++[y]).map lnD=((aaH z).map λy=>l++[y]).map lnD++[.tuple (natD l++[.int (0+(z:Int))])]:=by
     rw[ae8];simp[lnD,natD]
    rw[t];rfl
   .rintro m n ⟨b,rfl⟩;rw[aM];walk_at"s";have x:((M3.stepL (g.take j) s.r).map lnD).length+(((aaH (s.r+1)).map λy=>l++[y]).map lnD).length≤aag:=by
     rw[aan,gE,gE,gE,aa6,M3.stepL_length,aaU];have:min j g.length*(s.r+1)≤2401*7:=acz (by omega) (by omega);omega
    refine' FH (ds:=(M3.stepL (g.take j) s.r).map lnD) ?eb x ?_
    case eb=>rfl
    have t:(M3.stepL (g.take (j+1)) s.r).map lnD=(M3.stepL (g.take j) s.r).map lnD++((aaH (s.r+1)).map λy=>l++[y]).map lnD:=by
     rw[M3.stepL_take B,aaF]
    rw[t];exact⟨_,rfl⟩
  .rintro m n ⟨a,rfl⟩;rw[gE,aab];walk_at"n";refine Km ?_;refine Ui rfl ?_;refine Ah [1] (MSt.mk [some (.imm (.tuple [.tuple [.int h.a,.int h.b],.tuple (h.ss.map Srv.d),.bool h.mv])),some (.obj 0),some (.imm (.tuple [.int s.a,.int s.b])),some (.imm (.int s.r)),none,none] [(M3.stepL g s.r).map lnD] 0) (Ji rfl rfl rfl rfl rfl rfl ⟨rfl,⟨1,rfl,rfl⟩,rfl,rfl,trivial,trivial,trivial⟩) ⟨_,_,_,rfl⟩
 .rintro m n ⟨a,b,c,rfl⟩;rw[gE,<-h.rsl,aab,show h.rs.foldl M3.stepL [[]]=M3.allL h.rs from rfl,M3.allL_eq];walk_at"s";exact k
theorem sJ(T:Bl K mg)(D:DefM K mg "_law_rule" gh ["_law_tape_here","_law_hall_here"])(g:FnM P w K mg base "_law_draw" 1 2 kz)(b:FnM P w K mg base "_law_all_lines" 1 1 Kq):FnM P w K mg base "_law_rule" 2 2 Bi:=by
 refine aU D kI rfl (nN:=3) rfl (by decide) ?ar λN A outer s H E f hr=>⟨_,(mz' (aw 2 kI.nd (ah (bH (mc' aY (mc' aY (mc' aY (mc' aY (mc' aY (mc' aY mn'))))))) (mf' g (hr.mono (by decide)) (mc' (mv' 0) (mc' mh' mn')))))
   (mz' (bq (au (kQ hr.units) (mv' 2) aY (aI _)) (aa (ak (ap (mc' (mv' 2) mn')))) aA)
   (aa (ak (ap (mc' (mv' 2) (mc' (cZ di (by rfl) T.tuple iC (mc' (b8 (own:=["_law_lines"]) (fr:=["_law_tape_here","_law_hall_here"]) (ps:=[0,1]) (sc:=(ac gh)) (by exact⟨rfl,by decide +kernel,by decide +kernel,by decide +kernel,by decide +kernel⟩) (bx (fm (mf' b (hr.mono (by decide)) (mc' (mv' 1) mn')))) (λ_ _ _ _ _=>(al 0 (show ab2 ((["_law_lines"]:List Str)++(["_law_tape_here","_law_hall_here"]:List Str))from by decide +kernel))) (λ_ _ _ _ _=>cr) (λ_ _ _ _ _=>(mf' g (hr.mono (by decide)) (mc' (mv' 1) (mc' (av aW (by rfl) T.len cw (mc' (ah (mv' 2) mh') mn')) mn'))))) mn')) mn'))))))),?_⟩
 case ar=>rintro I S ⟨fd,c,h,rfl,_⟩;rfl
 rintro I S hl ⟨fd,c,h,rfl,ho,t,hc,k⟩;have n1:=ho.n1;have n4:=ho.n4;refine am (MSt.mk [some (.obj 0),some (.imm (.tuple [.tuple [.int h.a,.int h.b],.tuple (h.ss.map Srv.d),.bool h.mv])),none] [fd] 1) rfl ?_;walk_at"s";refine⟨fd,_,c,rfl,t,by omega,by decide,by decide,λr fd O Q t=>?_⟩;walk_at"x";have j:∀(q:Rule) (x:Str),atI [ahp "random",.str "two",.str "least",.str "quick",.str "turns",.str "told"] r=some (.str x)->q.d = .tuple [.str x]->q.Ok h->x ≠ "told" -> ∃d,atI [ahp "random",.str "two",.str "least",.str "quick",.str "turns",.str "told"] r=some d/\((∃x q,d = .str x/\x ≠ "told"/\Rule.d q = .tuple [.str x]/\q.Ok h)\/d = .str "told"):=λq x R J L Y=>⟨_,R,.inl ⟨x,q,rfl,Y,J,L⟩⟩;obtain⟨d,X,hd⟩:∃d,atI [ahp "random",.str "two",.str "least",.str "quick",.str "turns",.str "told"] r=some d/\((∃x q,d = .str x/\x ≠ "told"/\Rule.d q = .tuple [.str x]/\q.Ok h)\/d = .str "told"):=by
  rcases (show r=0\/r=1\/r=2\/r=3\/r=4\/r=5 by omega)with rfl|rfl|rfl|rfl|rfl|rfl
  .exact j .random "random" rfl rfl trivial (by decide +kernel)
  .exact j .two "two" rfl rfl trivial (by decide +kernel)
  .exact j .least "least" rfl rfl trivial (by decide +kernel)
  .exact j .quick "quick" rfl rfl trivial (by decide +kernel)
  .exact j .turns "turns" rfl rfl trivial (by decide +kernel)
  .exact⟨_,rfl,.inr rfl⟩
 refine jg X ?_;rcases hd with⟨x,q,rfl,U,eq,V⟩|rfl
 .walk_at"s";rw[decide_eq_false U];refine lB ?_;walk_at"s";rw[<-eq];exact k q fd V (t.mono (by omega))
 .walk_at"s";rw[decide_eq_true rfl];refine j5 ?_;walk_at"s";refine⟨h,rfl,ho,?_⟩;walk_at"x";walk_at"n";have W:(M3.allR h.rs).length≤2401:=gc (by rw[h.rsl];exact n4) ho.r6;refine gV (λi m=>∃a o ps,m=MSt.mk [a,some (.obj 0),some (.imm (.tuple [.tuple [.int h.a,.int h.b],.tuple (h.ss.map Srv.d),.bool h.mv]))] [o,natD ps] 2/\TapeD (c+1+i) o/\ps.length=i/\∀p∈ps,p<h.ss.length) ⟨none,fd,[],rfl,t,rfl,λ_ h=>by cases h⟩ ?_ ?_
  .rintro i d m e n ⟨a,o,ps,rfl,hf',hpl,hps⟩;obtain⟨l,el,rfl,Z⟩:=gmap e;walk_at"s";refine⟨o,_,_,rfl,hf',by omega,by rw[gE];omega,by rw[gE];omega,λp B u C v=>?_⟩;rw[gE]at C;walk_at"x";obtain⟨pn,rfl⟩:=ab3 u;refine⟨_,rfl,by rw[aan,aH];omega,_,B,ps++[pn],by rw[vm];rfl,v,by simp;omega,λp hp=>?_⟩;obtain z|z:=aaK.mp hp
   .exact hps p z
   .simp at z;subst z;omega
  .rintro m n ⟨a,o,ps,rfl,hf',hpl,hps⟩;rw[gE]at hf' hpl;walk_at"s";exact k (.told ps) o ⟨hpl,hps⟩ (hf'.mono (by omega))
theorem oU(T:Bl K mg)(D:DefM K mg "_law_coming" fE ["_law_hall_here","_law_rule_here"])(a:FnX P w K mg base "stands_coming" 8 2 IU):FnM P w K mg base "_law_coming" 9 2 Jt:=by
 refine aU D cW rfl (nN:=3) rfl (by decide) ?ar λq A outer s H E f hr=>⟨_,(mz' (aw 2 cW.nd (bH mn'))
   (mz' (E8 T.m_TooMany T.n_TooMany (λx pn b d k=>(aa (aw 2 cW.nd (Cy a k (hr.mono (by decide)) (mc' (mv' 0) (mc' (mv' 1) mn')))))) (λe x=>(aa (aw 2 cW.nd (bH mn')))))
   (aa (ak (mv' 2))))),?_⟩
 case ar=>rintro j g ⟨h,r,rfl,_⟩;rfl
 rintro j g u ⟨h,r,rfl,n,m,t⟩;refine am (MSt.mk [some (.imm h.d),some (.imm r.d),none] [] 0) rfl ?_;walk_at"s";walk_at"c";refine QX rfl ?_;walk_at"s";refine⟨h,r,rfl,n,λF G i C c o S=>?_,λF i C c=>?_⟩
 .walk_at"c";exact m F G i C c o S
 .refine⟨"TooMany",_,rfl,T.sub,?_⟩;walk_at"s";walk_at"c";exact t F i C c
theorem mI(T:Bl K mg)(D:DefM K mg "_law_closed" dq ["_law_hall_here","_law_rule_here","_law_coming_here"])(b:FnM P w K mg base "left_by_turn" 7 3 nr):FnM P w K mg base "_law_closed" 8 3 vG:=by
 refine aU D bX rfl (nN:=8) rfl (by decide) ?ar λcdv A outer s H E f hr=>⟨_,(mz' (aw 3 bX.nd (ap (mc' (cZ di (by rfl) T.tuple iC (mc' (b8 (own:=["_law_server"]) (fr:=[]) (ps:=[]) (sc:=(ac dq)) (by exact⟨rfl,by decide +kernel,by decide +kernel,by decide +kernel,by decide +kernel⟩) (bx (ah (mv' 0) mh')) (λ_ _ _ _ _=>(al 0 (show ab2 ((["_law_server"]:List Str)++([]:List Str))from by decide +kernel))) (λ_ _ _ _ _=>cr) (λ_ _ _ _ _=>mh')) mn')) (mc' mh' mn'))))
   (mz' (aw 4 bX.nd (u7 hr.units (mv' 3) iG))
   (mz' (aw 5 bX.nd (bH (mc' (mv' 3) mn')))
   (mz' (fy (au (kQ hr.units) (mv' 5) (bH mn') (aI _)) (aa (bQ (bx (mf' b (hr.mono (by decide)) (mc' (mv' 0) (mc' (mv' 1) (mc' (Ju PySem.F.slot_list_pop PySem.F.type_list_pop Mj (mv' 5)) mn'))))) (bo (n:=2) (af (al 6 bX.nd) (af (al 7 bX.nd) aK))) (mz' (bq (au (ii hr.units) (mv' 6) (mv' 2) (by with_unfolding_all rfl)) (aa (ak iG)) aA)
   (aa (bq (au (mH hr.units) (mv' 6) (mv' 4) (by with_unfolding_all rfl)) (mz' (im hr.units iG (mv' 4) (mv' 6))
   (aa (h9 (qJ ade adf gn (mv' 5) (mc' (mv' 6) mn'))))) aA))) aaL)) aaL)
   (aa (tX (ak (og (cv hr.units) (av (j9 rfl hr.units) (by rfl) T.sorted iE (mc' (mv' 4) mn')) (mv' 2) (aI _))))))))),?_⟩
 case ar=>rintro as Kc ⟨h,r,F,G,i,rfl,_⟩;rfl
 rintro as Kc hl ⟨h,r,F,G,i,rfl,v,C,g,hF,SG,k⟩;have ho:=v.ho;have hr:=v.hr;have n4:=ho.n4;have V:=iA ho r;refine am (MSt.mk [some (.imm (.tuple [.tuple [.int h.a,.int h.b],.tuple (h.ss.map Srv.d),.bool h.mv])),some (.imm r.d),some (.imm (.list (G.map ptD))),none,none,none,none,none] [] 0) rfl ?_;walk_at"s";refine bG (λi m=>∃a,m=MSt.mk [a] [natD (aam i 0)] 1) ⟨none,rfl⟩ ?_ ?_
 .rintro i d m e u ⟨a,rfl⟩ D1 hD1 hR1;have g:i<h.ss.length:=by
   have:=(Io.mp e).1;simpa using this
  walk_at"s";refine⟨_,rfl,by unfold natD;rw[gE,ach,aan];omega,hD1 _ ⟨some (.imm d),?_⟩⟩;rw[List.replicate_succ'];unfold natD;rw[aaF];rfl
 rintro m u ⟨a,rfl⟩;rw[gE];walk_at"x";refine Jo ?_;walk_at"s";refine⟨jc ho V,?_⟩;refine gm ?_;walk_at"x";walk_at"c";refine jN (λn m=>∃(M L:List Pt) (a6 R:Option L2.R),m=MSt.mk [some (.imm h.d),some (.imm r.d),some (.imm (.list (G.map ptD))),some (.imm (ptD (z0 h))),some (.at 0 []),some (.obj 1),a6,R] [[.dict (lfKV (knD M))],L.map ptD] 0/\Clo (scS h r) (z0 h) M L/\(∀y∈L,y∈M)/\n=2*(60-M.length)+L.length/\n≤119) 119 ⟨[z0 h],[z0 h],none,none,rfl,Clo.one,λy c=>c,rfl,Dl _⟩ ?_;rintro n m u ⟨M,L,a6,R,rfl,X,hL,U,hn9⟩;have lM:=X.le C g;have I:∀y∈M,St h r y.1 y.2:=λy c=>ml ho hr (x:=z0 h) V (X.rc y c);walk_at"s";refine x_ne (d1:=.list (L.map ptD)) (d2:=.list []) rfl rfl ((jv (i7 L)).ok (by decide)) (by decide +kernel) ?_;rcases List.eq_nil_or_concat L with rfl|⟨L,p,rfl⟩
 .rw[show(!aak (.list ([].map ptD)) (.list []))=false by decide +kernel];walk_at"s";walk_at"n";have O:=AI I X.nd (by omega);have kM:=L4 ho I;refine LP 0 4 (knD M) [1] (MSt.mk [some (.imm h.d),some (.imm r.d),some (.imm (.list (G.map ptD))),some (.imm (ptD (z0 h))),some (.imm (.dict (knD M))),some (.obj 0),none,none] [[]] 0) rfl rfl kM (Ie rfl rfl rfl rfl rfl rfl rfl rfl ⟨.inl rfl,.inl rfl,.inl rfl,.inl rfl,.inr ⟨rfl,.inr rfl⟩,.inl ⟨1,rfl,rfl⟩,.inl trivial,.inl trivial,trivial⟩) ?_;walk_at"s";refine Aw ?_;refine vx (by rw[kM,acR]) ?_;rw[KG];have eM:M.map ptD=(M.map λp=>(p,(0:Int))).map λp=>ptD p.1:=by rw[aaD];rfl
  rw[eM];refine⟨(po ho O).srt O,λds' p' o'=>?_⟩;obtain⟨W,S,rfl⟩:=(po ho O).srd O p' o';have e2:(W.map λp=>ptD p.1)=(W.map (·.1)).map ptD:=by rw[aaD];rfl
  rw[e2];have SF:∀y∈F,St h r y.1 y.2:=λy c=>ml ho hr (x:=z0 h) V (C.rc y c);have SW':SrF M (W.map (·.1)):=by
   refine⟨?_,?_⟩
   .have:=S.p.map (·.1);rwa[aaD,show((λx:Pt×Int=>x.1)∘λp:Pt=>(p,(0:Int)))=id from rfl,aeg]at this
   .rw[aev];exact S.o
  rw[SrF.uniq SF C.nd (by omega) (X.same C g) SG SW'];walk_at"s";have Y:=jv (i7 G);refine x_eq (d1:=.list (G.map ptD)) (d2:=.list (G.map ptD)) rfl rfl (Y.ok (by decide)) (Y.ok (by decide)) ?_;rw[D9 Y];walk_at"s";exact k
 .rw[List.concat_eq_append]at *;have hp:p∈M:=hL p (by simp);have lL9:L.length<119:=by rw[aap]at U;simp at U;omega
  have Sp:=I p hp;rw[show(!aak (.list ((L++[p]).map ptD)) (.list []))=true by cases L<;>rfl];walk_at"s";refine Wz (ds:=L.map ptD) (d:=ptD p) (by rw[aaF];rfl) ?_;walk_at"x";refine⟨h,r,p.1,p.2,rfl,v,Sp,λW S=>?_⟩;have XW:=(zl (l:=p.1) (t:=p.2) v Sp).1;have o:∀z,z∈W.map (·.1)↔z∈scS h r p:=λz=>(S.p.map (·.1)).mem_iff.trans IP;generalize hB:W.map (·.1)=B at o;have eB:B.length=W.length:=by rw[<-hB,gE]
  have wl:W.length<64:=by rw[S.p.length_eq];exact XW.n
  walk_at"n";unfold gC;walk_at"s";refine bG (λj m=>∃Q J:Option L2.R,m=MSt.mk [some (.imm h.d),some (.imm r.d),some (.imm (.list (G.map ptD))),some (.imm (ptD (z0 h))),some (.at 0 []),some (.obj 1),Q,J] [[.dict (lfKV (knD (adds M (B.take j))))],(L++(adds M (B.take j)).drop M.length).map ptD] 0) ⟨a6,R,?_⟩ ?_ ?_
  .show _=MSt.mk _ [_,(L++M.drop M.length).map ptD] 0;rw[ahL,aaV];rfl
  .rintro j d m ej hj ⟨Q,J,rfl⟩ D1 hD1 hR1;obtain⟨q,eq,rfl,hz⟩:=gmap ej;have Z:B[j]?=some q.1:=by rw[<-hB,aae,eq];rfl
   have et:adds M (B.take (j+1))=add1 (adds M (B.take j)) q.1:=by
    unfold adds;rw[abz,Z,ac8];rfl
   have lF:=(gj (F:=M) (xs:=B.take j)).2;rw[aaU]at lF;have Ry:=(X.rc p hp).next ((o q.1).mp (DL Z));have yG:q.1∈G:=SG.p.mem_iff.mpr (C.all g Ry);have Sa:∀y∈adds M (B.take j),St h r y.1 y.2:=λy c=>by
    rcases mem_adds.mp c with w|w
    .exact I y w
    .exact pc ho hr Sp ((o y).mp (abw w))
   have Sy:=pc ho hr Sp ((o q.1).mp (DL Z));have dr:=yO (M:=M) (xs:=B.take j) (y:=q.1);have lL:(L++(adds M (B.take j)).drop M.length).length≤L.length+64:=by rw[aap,adF];omega
   rw[et,dr]at hD1;generalize (adds M (B.take j)).drop M.length=N at *;generalize adds M (B.take j)=A at *;have kA:=L4 ho Sa;have ky:=jc ho Sy;walk_at"s"
   .rfl
   walk_at"s";refine x_in (d:=ptD q.1) (ds:=G.map ptD) rfl (.inl rfl) (tW _ _) (i7 G) (by decide) ?_;rw[yw,decide_eq_true yG];walk_at"s";rw[if_neg (by decide)];walk_at"s";refine QM (kvs:=knD A) ⟨rfl,rfl⟩ (by unfold oneK;rw[kA,show kyD (ptD q.1)=true from ky,aeQ,acR]) ?_;rw[yr,if_pos rfl];walk_at"s"
   by_cases c:q.1∈A
   .rw[decide_eq_true c,if_neg (show ¬(!true)=true from aaq)];rw[show add1 A q.1=A from if_pos c,if_pos c]at hD1;walk_at"s";walk_at"n";exact hD1 _ ⟨_,_,rfl⟩
   .rw[decide_eq_false c,if_pos (show(!false)=true from rfl)];rw[show add1 A q.1=A++[q.1]from if_neg c,if_neg c]at hD1;walk_at"x";refine on ?_;walk_at"s";refine⟨rfl,knD A,rfl,kA,ky,by unfold knD;rw[gE,aan];omega,?_⟩;rw[Jf c];walk_at"x";refine' uT (ds:=(L++N).map ptD) ?eb (by rw[aan,gE];omega) ?_
    case eb=>rfl
    walk_at"n";rw[<-acE,aaF (l₁:=L++N)]at hD1;exact hD1 _ ⟨_,_,rfl⟩
  .rintro m hm ⟨Q,J,rfl⟩;have lF:=gj (F:=M) (xs:=B);have X2:=X.next hp o;have lM2:=X2.le C g;have hL2:∀y∈L++(adds M B).drop M.length,y∈adds M B:=λy c=>by
    rcases aaK.mp c with q|q
    .exact mem_adds.mpr (.inl (hL y (acw _ q)))
    .exact agX q
   rw[gE,<-eB,aab];have lt:2*(60-(adds M B).length)+(L++(adds M B).drop M.length).length<n:=by
    rw[U,aap,aap,adF];simp;omega
   exact⟨_,lt,adds M B,_,Q,J,rfl,X2,hL2,rfl,aaj (aa0 lt) hn9⟩
theorem UY(T:Bl K mg){ff:Addr}{fd:ab6}(F:Fun K "law" "law" slaw ff fd)(U:FnM P w K mg base "_law_tape" 1 1 IY)(W:FnM P w K mg base "_law_hall" 4 2 za)(R:FnM P w K mg base "_law_rule" 2 2 Bi)(Y:FnM P w K mg base "_law_draw" 1 2 kz)(c:FnM P w K mg base "left_by_turns" 7 3 Av)(v:FnM P w K mg base "left_by_turn" 7 3 nr)(u:FnM P w K mg base "_law_plus" 2 2 O4)(Q:FnM P w K mg base "_law_times" 2 2 Ur)(O:FnM P w K mg base "_law_coming" 9 2 Jt)(g:FnM P w K mg base "_law_all_lines" 1 1 Kq)(I:FnM P w K mg base "_law_closed" 8 3 vG):FnOk P w K mg base CX0 10 ff fd ["_law_script"] (spOf ⟨K,w⟩ 1 DU):=by
 refine Me F fg rfl (nN:=16) rfl (by decide) λcdv A outer s H E f hr=>⟨_,(mz' (aw 1 fg.nd (mf' U (hr.mono (by decide)) (mc' (mv' 0) mn')))
   (mz' (aw 2 fg.nd (fm (bH (mc' (ap (mc' mh' mn')) (mc' (ap (mc' mh' mn')) (mc' (ap (mc' mh' (mc' mh' mn'))) (mc' (ap (mc' mh' (mc' mh' mn'))) (mc' (ap (mc' mh' (mc' mh' mn'))) (mc' (ap (mc' mh' (mc' mh' (mc' mh' mn')))) (mc' (ap (mc' mh' (mc' mh' (mc' mh' mn')))) (mc' (ap (mc' mh' (mc' mh' (mc' mh' (mc' mh' mn'))))) mn')))))))))))
   (mz' (bQ (cy (by rfl) T.range (mc' mh' mn')) (al 3 fg.nd) (mz' (aw 4 fg.nd (mf' W (hr.mono (by decide)) (mc' (mv' 1) (mc' (mv' 2) mn'))))
   (mz' (aw 5 fg.nd (mf' R (hr.mono (by decide)) (mc' (mv' 1) (mc' (mv' 4) mn'))))
   (mz' (aw 6 fg.nd (ae bh mh' (mf' Y (hr.mono (by decide)) (mc' (mv' 1) (mc' (ah (bH (mc' mh' (mc' mh' (mc' mh' (mc' mh' mn'))))) (ae sY (av aW (by rfl) T.len cw (mc' (ah (mv' 4) mh') mn')) mh')) mn')))))
   (mz' (cn (i:=7) fg.nd rfl (add rfl) oh)
   (mz' (bQ (bx (mf' c (hr.mono (by decide)) (mc' (mv' 4) (mc' (mv' 5) (mc' (ae sY (mv' 6) mh') mn'))))) (bo (n:=2) (af (al 8 fg.nd) (af (al 9 fg.nd) aK))) (aa (bQ (bx (mf' v (hr.mono (by decide)) (mc' (mv' 4) (mc' (mv' 5) (mc' (mv' 8) mn'))))) (bo (n:=2) (af (al 10 fg.nd) (af (al 11 fg.nd) aK))) (aa (im hr.units (mf' u (hr.mono (by decide)) (mc' (jS hr.units (mv' 7) (mc' (mv' 10) (mc' (ap (mc' mh' (mc' mh' mn'))) mn'))) (mc' (mf' Q (hr.mono (by decide)) (mc' (mv' 9) (mc' (mv' 11) mn'))) mn'))) (mv' 7) (mv' 10))) aaL)) aaL)
   (mz' (aw 12 fg.nd (mf' c (hr.mono (by decide)) (mc' (mv' 4) (mc' (mv' 5) (mc' (mv' 6) mn')))))
   (mz' (tX (bq (au (kQ hr.units) (av (lW hr.gd hr.u200) (by rfl) T.repr zp (mc' (mv' 12) mn')) (av (lW hr.gd hr.u200) (by rfl) T.repr zp (mc' (cZ di (by rfl) T.tuple iC (mc' (b8 (own:=["_law_stand"]) (fr:=["_law_sums"]) (ps:=[7]) (sc:=(ac slaw)) (by exact⟨rfl,by decide +kernel,by decide +kernel,by decide +kernel,by decide +kernel⟩) (bx (fm (av (j9 rfl hr.units) (by rfl) T.sorted iE (mc' (mv' 7) mn')))) (λ_ _ _ _ _=>(al 0 (show ab2 ((["_law_stand"]:List Str)++(["_law_sums"]:List Str))from by decide +kernel))) (λ_ _ _ _ _=>cr) (λ_ _ _ _ _=>(ap (mc' (mv' 0) (mc' (DH hr.units (mv' 1) (mv' 0)) mn'))))) mn')) mn')) (aI _)) (aa (ak iG)) aA))
   (mz' (aw 13 fg.nd (ap (mc' mh' (mc' mh' mn'))))
   (mz' (bQ (bx (mv' 12)) (bo (n:=2) (af (al 8 fg.nd) (af (al 9 fg.nd) aK))) (aa (aw 13 fg.nd (mf' u (hr.mono (by decide)) (mc' (mv' 13) (mc' (mv' 9) mn'))))) aaL)
   (mz' (cn (i:=14) fg.nd rfl (add rfl) (fm (mf' O (hr.mono (by decide)) (mc' (mv' 4) (mc' (mv' 5) mn')))))
   (mz' (aw 15 fg.nd (ae ay (av aW (by rfl) T.len cw (mc' (mf' g (hr.mono (by decide)) (mc' (mv' 4) mn')) mn')) (Ue (au (cv hr.units) (ah (mv' 5) mh') aY (aI _)) (av aW (by rfl) T.len cw (mc' (ah (mv' 4) mh') mn')) mh')))
   (mz' (bq (EW.pt (uK (au (kQ hr.units) (mv' 13) (ap (mc' mh' (mc' mh' mn'))) (aI _)) (uf (EW.pt (Bo (au (cv hr.units) (mv' 14) (bH mn') (aI _)) (uL (au ji (mv' 15) mh' (aI _)))))))) (aa (ak iG)) aA)
   (aa (bq (au (kQ hr.units) (mv' 14) (bH mn') (aI _)) (aa (bq (EW.pt (uK (au (kQ hr.units) (b8 (own:=["_law_stand","_law_share"]) (fr:=["_law_coming_here"]) (ps:=[14]) (sc:=(ac slaw)) (by exact⟨rfl,by decide +kernel,by decide +kernel,by decide +kernel,by decide +kernel⟩) (bx (mv' 12)) (λ_ _ _ _ _=>(bo (n:=2) (af (al 0 (show ab2 ((["_law_stand","_law_share"]:List Str)++(["_law_coming_here"]:List Str))from by decide +kernel)) (af (al 1 (show ab2 ((["_law_stand","_law_share"]:List Str)++(["_law_coming_here"]:List Str))from by decide +kernel)) aK)))) (λ_ _ _ _ _=>(v7 (au (ii hr.units) (mv' 0) (mv' 2) (by with_unfolding_all rfl)))) (λ_ _ _ _ _=>(mv' 0))) (bH mn') (aI _)) (uf (yl (sX (mf' I (hr.mono (by decide)) (mc' (mv' 4) (mc' (mv' 5) (mc' (mv' 14) mn'))))))))) (aa (ak iG)) aA)) aA)))))))))))))) aaL)
   (aa (ak iG))))),?_⟩
 rintro as Kc hl ⟨ns,rfl,hn,k⟩;refine am (MSt.mk [some (.imm (.list (ns.map .int))),none,none,none,none,none,none,none,none,none,none,none,none,none,none,none] [] 0) rfl ?_;walk_at"s";refine⟨ns,rfl,hn,λfd hf=>?_⟩;walk_at"n";walk_at"c";refine⟨by decide,by decide,?_⟩;refine bG (λi m=>∃(a3 a4 a5 a6 a7 a8 a9 x B a12 a13 a14 a15:Option L2.R) (fd:List dL) (os:List (List dL)),m=MSt.mk [some (.imm (.list (ns.map .int))),some (.obj 0),some (.imm (.list (menu28.map lnD))),a3,a4,a5,a6,a7,a8,a9,x,B,a12,a13,a14,a15] (fd::os) 0/\TapeD (3000*i) fd) ⟨none,none,none,none,none,none,none,none,none,none,none,none,none,fd,[],rfl,hf⟩ ?_ ?_
 .rintro i d m e hnp ⟨a3,a4,a5,a6,a7,a8,a9,x,B,a12,a13,a14,a15,fd,os,rfl,hf⟩ D1 hD1 hR1;obtain⟨hi,rfl⟩:=dg e;have hi2:i<2:=hi;walk_at"s";refine⟨fd,_,_,rfl,zH,hf,by omega,λh S fd ho hS hal hf=>?_⟩;have hal:=Gw _ hal;walk_at"n";refine wf [0] (MSt.mk [some (.imm (.list (ns.map .int))),some (.obj 0),some (.imm (.list (menu28.map lnD))),some (.imm (.int (0+(i:Int)))),some (.imm h.d),none,none,none,none,none,none,none,none,none,none,none] [fd] 0) (Ji rfl rfl rfl rfl rfl rfl ⟨rfl,⟨0,rfl,rfl⟩,rfl,rfl,rfl,trivial,trivial,trivial,trivial,trivial,trivial,trivial,trivial,trivial,trivial,trivial,trivial⟩) ?_;walk_at"x";refine⟨fd,_,h,rfl,ho,hf,by omega,λr fd hr hf=>?_⟩;walk_at"n";refine fH ?_;walk_at"x";have n1:=ho.n1;have n4:=ho.n4;refine bC (ds:=[.tuple [.int (h.a:Int),.int (h.b:Int)],.tuple (h.ss.map Srv.d),.bool h.mv]) (bg (j:=1) rfl) ?_;walk_at"s";rw[gE];obtain⟨tm,etm,t1,t8,t3,t4⟩:∃t:Nat,atI [abn 8,.int 8,.int 6,.int 2] ((h.ss.length:Int)-1)=some (.int (t:Int))/\1≤t/\t≤8/\(h.ss.length=3->t≤6)/\(h.ss.length=4->t≤2):=by
   rcases (show h.ss.length=1\/h.ss.length=2\/h.ss.length=3\/h.ss.length=4 by omega)with z|z|z|z<;>rw[z]
   .exact⟨8,rfl,by decide,by decide,by decide,by decide⟩
   .exact⟨8,rfl,by decide,by decide,by decide,by decide⟩
   .exact⟨6,rfl,by decide,by decide,by decide,by decide⟩
   .exact⟨2,rfl,by decide,by decide,by decide,by decide⟩
  refine jg etm ?_;walk_at"s";refine⟨fd,_,_,rfl,hf,by omega,by omega,by omega,λy fd hy0 hy1 hf=>?_⟩;obtain⟨n,rfl⟩:=ab3 hy0;have D:DuOk h r (n+1):=⟨ho,hr,hS.rest ho,by omega,hS.pow ho (by omega)⟩;have Dn:DuOk h r n:=⟨ho,hr,hS.rest ho,by omega,hS.pow ho (by omega)⟩;have D1':DuOk h r 1:=⟨ho,hr,hS.rest ho,by omega,hS.pow ho (by omega)⟩;have XN:=Je Dn ⟨hal,λz=>by have:=t3 z;omega,λz=>by have:=t4 z;omega⟩;have XW:=Je D ⟨hal,λz=>by have:=t3 z;omega,λz=>by have:=t4 z;omega⟩;have P0:=D.p0 (n+1);have B0:((botH h^(n+1):Nat):Int).natAbs<10^76:=by rw[aaS];exact aax D.b (by decide)
  have PN:=Dn.p0 n;have BN:((botH h^n:Nat):Int).natAbs<10^76:=by rw[aaS];exact aax Dn.b (by decide)
  have Pb:0<(botH h:Int):=by have:=iM ho;omega
  have Bb:((botH h:Nat):Int).natAbs<10^76:=by have:=D1'.b;rw[ahV]at this;rw[aaS];exact aax this (by decide)
  walk_at"n";refine IM ?_;rw[show(1:Int)+(n:Int)=((n+1:Nat):Int) by omega];walk_at"s";walk_at"n";refine zG (gm ?_);walk_at"x";rw[show(((n+1:Nat):Int))-1=(n:Int) by omega];refine⟨h,r,n,rfl,Dn,XN,λW0 s0=>?_⟩;walk_at"n";unfold gC;walk_at"s";refine bG (λi' m=>∃(a8 a9 x B:Option L2.R) (S:List (Pt×Int)),m=MSt.mk [some (.imm (.list (ns.map .int))),some (.obj 0),some (.imm (.list (menu28.map lnD))),some (.imm (.int (0+(i:Int)))),some (.imm h.d),some (.imm r.d),some (.imm (.int ((n+1:Nat):Int))),some (.at 1 []),a8,a9,x,B,none,none,none,none] [fd,[.dict (lfKV (shD ((botH h^(n+1):Nat):Int) S))]] 0/\SmS h r W0 i' S) ⟨none,none,none,none,[],rfl,⟨acy,(λ_ h=>by cases h),(λ_ h=>by cases h),λf=>rfl⟩⟩ ?_ ?_
  .rintro i' d m e hnp ⟨a8,a9,x,B,S,rfl,X⟩ D2 hD2 hR2;obtain⟨p,ep,rfl,hi'⟩:=gmap e;have mp:=s0.p.mem_iff.mp (DL ep);have Sp:=qj ho hr n p mp;have pp:=Bx ho r n p mp;have fW:FrOk (nfP p.2 ((botH h^n:Nat):Int)).1 (nfP p.2 ((botH h^n:Nat):Int)).2:=l5 PN (XN.v p mp) BN;walk_at"s"
   .rfl
   walk_at"s";refine⟨h,r,p.1.1,p.1.2,rfl,D1',Sp,λV sV=>?_⟩;have pV:V.Perm (lv h r p.1):=sV.p;have XV:=(zl (l:=p.1.1) (t:=p.1.2) D1' Sp).1;walk_at"n";unfold gC;walk_at"s";have bd:=λj=>X.bd (j:=j) D s0.p ep pV;have inn:=λj=>X.in (j:=j) pp D pV Sp D1';have frB:∀y:Int,y.natAbs<10^76->FrOk (nfP y ((botH h^(n+1):Nat):Int)).1 (nfP y ((botH h^(n+1):Nat):Int)).2:=λy hy=>l5 P0 hy B0;have eAdd:∀a b:Int,addF (nfP a ((botH h^(n+1):Nat):Int)).1 (nfP a ((botH h^(n+1):Nat):Int)).2 (nfP b ((botH h^(n+1):Nat):Int)).1 (nfP b ((botH h^(n+1):Nat):Int)).2=nf (a+b) ((botH h^(n+1):Nat):Int):=λa b=>by unfold addF;rw[na,u5 P0,<-na]
   have z0:afk [.int 0,.int 1]=frV ((botH h^(n+1):Nat):Int) 0:=by unfold frV;rw[na,vq P0];rfl
   refine bG (λj m=>∃x B:Option L2.R,m=MSt.mk [some (.imm (.list (ns.map .int))),some (.obj 0),some (.imm (.list (menu28.map lnD))),some (.imm (.int (0+(i:Int)))),some (.imm h.d),some (.imm r.d),some (.imm (.int ((n+1:Nat):Int))),some (.at 1 []),some (.imm (ptD p.1)),some (.imm (nf p.2 ((botH h^n:Nat):Int))),x,B,none,none,none,none] [fd,[.dict (lfKV (shD ((botH h^(n+1):Nat):Int) (adW p S (V.take j))))]] 0) ⟨x,B,rfl⟩ ?_ ?_
   .rintro j d m e hnp ⟨b10,b11,rfl⟩ D3 hD3 hR3;obtain⟨q,eq,rfl,hj⟩:=gmap e;have mq:=pV.mem_iff.mp (DL eq);have Sq:=XV.st q mq;have qp:=AW D p.1 q mq;obtain⟨i1,i2,i3⟩:=inn j;have bd1:=bd (j+1);have ln:=FW ho i1 i3;have nn:∀z∈adW p S (V.take j),0≤z.2:=λz hz=>Int.le_of_lt (i2 z hz);have gb:=um q.1 nn;have sb:=(fM nn).1;have bd0:=bd j;have DB:=D.b;rw[vc eq]at hD3;have kyS:kyA (shD ((botH h^(n+1):Nat):Int) (adW p S (V.take j)))=true:=Jr ho i3;have pq:0<p.2*q.2:=abx pp qp;rw[vc eq,jz]at bd1;have b1:(getA q.1 (adW p S (V.take j))).natAbs<10^76:=aax (show(getA q.1 (adW p S (V.take j))).natAbs<10^67 by omega) (by decide);have b2:(p.2*q.2).natAbs<10^76:=aax (show(p.2*q.2).natAbs<10^67 by omega) (by decide);have fV:FrOk (nfP q.2 (botH h:Int)).1 (nfP q.2 (botH h:Int)).2:=l5 Pb (XV.v q mq) Bb;have eMul:mulF (nfP p.2 ((botH h^n:Nat):Int)).1 (nfP p.2 ((botH h^n:Nat):Int)).2 (nfP q.2 (botH h:Int)).1 (nfP q.2 (botH h:Int)).2=nf (p.2*q.2) ((botH h^(n+1):Nat):Int):=by unfold mulF;rw[na,Dn.two,<-na]
    generalize adW p S (V.take j)=A at *;walk_at"s"
    .rfl
    walk_at"s";refine on ?_;walk_at"s";refine ue ?_;walk_at"s";refine⟨shD ((botH h^(n+1):Nat):Int) A,⟨rfl,rfl⟩,.inr kyS,?_⟩;walk_at"s";refine⟨shD ((botH h^(n+1):Nat):Int) A,ptD q.1,.tuple [.int 0,.int 1],rfl,⟨rfl,rfl⟩,by unfold oneK;rw[kyS,show kyD (ptD q.1)=true from jc ho Sq,aeQ,acR],?_⟩;rw[z0,show shD ((botH h^(n+1):Nat):Int) A=kvG ptD (frV ((botH h^(n+1):Nat):Int)) A from rfl,y3 fJ];walk_at"s";refine⟨_,_,_,_,rfl,fW,fV,?_⟩;rw[eMul];walk_at"x";refine⟨_,_,_,_,rfl,frB _ b1,frB _ b2,?_⟩;rw[eAdd];walk_at"x";refine⟨rfl,shD ((botH h^(n+1):Nat):Int) A,rfl,kyS,jc ho Sq,by unfold shD kvG;rw[gE,aan];omega,?_⟩;rw[show nf (getA q.1 A+p.2*q.2) ((botH h^(n+1):Nat):Int)=frV ((botH h^(n+1):Nat):Int) (getA q.1 A+p.2*q.2)from rfl,show shD ((botH h^(n+1):Nat):Int) A=kvG ptD (frV ((botH h^(n+1):Nat):Int)) A from rfl,II fJ];walk_at"n";exact hD3 _ ⟨_,_,rfl⟩
   .rintro m hm ⟨b10,b11,rfl⟩;rw[gE,aab];exact hD2 _ ⟨_,_,_,_,_,rfl,X.next ep pp D pV Sp D1'⟩
  .rintro m hm ⟨a8,a9,x,B,S,rfl,X⟩;rw[gE]at X;have pE:=X.end D s0.p;have kyS:kyA (shD ((botH h^(n+1):Nat):Int) S)=true:=Jr ho X.st;have XE:=XW.perm pE;have EE:=po ho XE;walk_at"x";refine⟨h,r,n+1,rfl,D,XW,λW1 s1=>?_⟩;have ft:=BC ho XW s1 P0 B0;obtain⟨ty,hty⟩:∃ty,(gC ((botH h^(n+1):Nat):Int) W1).shown=ty:=⟨_,rfl⟩;walk_at"x";refine LP 1 7 (shD ((botH h^(n+1):Nat):Int) S) [0] (MSt.mk [some (.imm (.list (ns.map .int))),some (.obj 0),some (.imm (.list (menu28.map lnD))),some (.imm (.int (0+(i:Int)))),some (.imm h.d),some (.imm r.d),some (.imm (.int ((n+1:Nat):Int))),some (.imm (.dict (shD ((botH h^(n+1):Nat):Int) S))),none,none,none,none,some (.imm (gC ((botH h^(n+1):Nat):Int) W1)),none,none,none] [fd] 0) rfl rfl kyS (Ie rfl rfl rfl rfl rfl rfl rfl rfl ⟨.inl rfl,.inl ⟨0,rfl,rfl⟩,.inl rfl,.inl rfl,.inl rfl,.inl rfl,.inl rfl,.inr ⟨rfl,.inr rfl⟩,.inl trivial,.inl trivial,.inl trivial,.inl trivial,.inl rfl,.inl trivial,.inl trivial,.inl trivial,trivial⟩) ?_;walk_at"s";refine zf ft rfl (by decide) (by decide) ?_;rw[hty];walk_at"s";refine Aw ?_;refine vx (by rw[kyS,acR]) ?_;rw[Oi];refine⟨EE.srt XE,λds' p o=>?_⟩;obtain⟨Z,s2,rfl⟩:=EE.srd XE p o;have e12:=(s2.perm pE).uniq XW s1;subst e12;have ln:Z.length<64:=by rw[s1.p.length_eq];exact XW.n
   walk_at"s";walk_at"n";refine bG (λj m=>∃a:Option L2.R,m=MSt.mk [a,some (.imm (.dict (shD ((botH h^(n+1):Nat):Int) S)))] [fd,(Z.take j).map λq=>.tuple [ptD q.1,nf q.2 ((botH h^(n+1):Nat):Int)]] 2) ⟨none,rfl⟩ ?_ ?_
   .rintro j d m e hnp ⟨a,rfl⟩ D3 hD3 hR3;obtain⟨q,eq,rfl,hj⟩:=gmap e;have mq:=s2.p.mem_iff.mp (DL eq);obtain⟨z,hz⟩:=acB mq;walk_at"s";refine⟨shD ((botH h^(n+1):Nat):Int) S,frV ((botH h^(n+1):Nat):Int) q.2,rfl,by unfold oneK;rw[kyS,show kyD (ptD q.1)=true from jc ho (X.st q mq),aeQ,acR],vn (f:=frV ((botH h^(n+1):Nat):Int)) fJ X.kd hz,?_⟩;walk_at"s";refine⟨_,rfl,by rw[aan,gE,aaU];omega,hD3 _ ⟨some (.imm (ptD q.1)),?_⟩⟩;rw[abl,eq,aaF];rfl
   rintro m hm ⟨a,rfl⟩;rw[gE,aab];walk_at"x";refine zf (d:=gC ((botH h^(n+1):Nat):Int) Z) ft rfl (by decide) (by decide) ?_;rw[hty];walk_at"s";rw[decide_eq_true (rfl:ty=ty)];refine j5 ?_;walk_at"s";have z0':afk [.int 0,.int 1]=nf 0 ((botH h^(n+1):Nat):Int):=by rw[na,vq P0];rfl
   have w0:∀z∈Z,0≤z.2:=λz hz=>qE ho D.h0 r (n+1) z (s1.p.mem_iff.mp hz);have sW:sumA Z=((botH h^(n+1):Nat):Int):=(j4 s1.p).trans (mi ho D.h0 r (n+1));have DB:=D.b;have frT:∀j,FrOk (nfP (sumA (Z.take j)) ((botH h^(n+1):Nat):Int)).1 (nfP (sumA (Z.take j)) ((botH h^(n+1):Nat):Int)).2:=λj=>by
    have a1:=k9 w0 j;have a2:=(fM (L:=Z.take j) λz hz=>w0 z (abw hz)).1;rw[sW]at a1;exact l5 P0 (aax (show(sumA (Z.take j)).natAbs<10^67 by omega) (by decide)) B0
   walk_at"n";rw[z0'];unfold gC;walk_at"s";refine bG (λj m=>∃a8 a9:Option L2.R,m=MSt.mk [some (.imm (.list (ns.map .int))),some (.obj 0),some (.imm (.list (menu28.map lnD))),some (.imm (.int (0+(i:Int)))),some (.imm h.d),some (.imm r.d),some (.imm (.int ((n+1:Nat):Int))),some (.imm (.dict (shD ((botH h^(n+1):Nat):Int) S))),a8,a9,none,none,some (.imm (gC ((botH h^(n+1):Nat):Int) Z)),some (.imm (nf (sumA (Z.take j)) ((botH h^(n+1):Nat):Int))),none,none] [fd] 0) ⟨none,none,rfl⟩ ?_ ?_
   .rintro j d m e hnp ⟨a8,a9,rfl⟩ D3 hD3 hR3;obtain⟨q,eq,rfl,hj⟩:=gmap e;have mq:=s1.p.mem_iff.mp (DL eq);walk_at"s"
    .rfl
    walk_at"s";refine⟨_,_,_,_,rfl,frT j,l5 P0 (XW.v q mq) B0,?_⟩;rw[show addF (nfP (sumA (Z.take j)) ((botH h^(n+1):Nat):Int)).1 (nfP (sumA (Z.take j)) ((botH h^(n+1):Nat):Int)).2 (nfP q.2 ((botH h^(n+1):Nat):Int)).1 (nfP q.2 ((botH h^(n+1):Nat):Int)).2=nf (sumA (Z.take (j+1))) ((botH h^(n+1):Nat):Int) by unfold addF;rw[na,u5 P0,<-na,qu eq]];walk_at"x";exact hD3 _ ⟨_,_,rfl⟩
   rintro m hm ⟨a8,a9,rfl⟩;rw[gE,aab,sW,show nf ((botH h^(n+1):Nat):Int) ((botH h^(n+1):Nat):Int) = .tuple [.int 1,.int 1] by rw[na,Fu P0];rfl];walk_at"n";refine zP ?_;refine x_JS (λm=>∃(G:List Pt),m=MSt.mk [some (.imm (.list (ns.map .int))),some (.obj 0),some (.imm (.list (menu28.map lnD))),some (.imm (.int (0+(i:Int)))),some (.imm h.d),some (.imm r.d),some (.imm (.int ((n+1:Nat):Int))),some (.imm (.dict (shD ((botH h^(n+1):Nat):Int) S))),a8,a9,none,none,some (.imm (gC ((botH h^(n+1):Nat):Int) Z)),some (.imm (.tuple [.int 1,.int 1])),some (.imm (.list (G.map ptD))),none] [fd] 0/\ComR h r G) (λN J=>?_) ?_
   .walk_at"s";refine⟨h,r,rfl,D1',λF G i' C c1 c2 SG=>?_,λF i' C c1=>?_⟩
    .walk_at"n";refine fH (J _ ⟨G,rfl,.inr ⟨F,i',C,c1,c2,SG⟩⟩)
    .walk_at"n";refine fH (J _ ⟨[],rfl,.inl ⟨rfl,aah c1 (zQ ho hr C.nd C.rc)⟩⟩)
   rintro _ ⟨G,rfl,hG⟩;walk_at"x";refine⟨h,rfl,ho,?_⟩;walk_at"x";refine x_J (λr' m=>r' = .imm (.int (r.many h:Int))/\m=MSt.mk [some (.imm (.list (ns.map .int))),some (.obj 0),some (.imm (.list (menu28.map lnD))),some (.imm (.int (0+(i:Int)))),some (.imm h.d),some (.imm r.d),some (.imm (.int ((n+1:Nat):Int))),some (.imm (.dict (shD ((botH h^(n+1):Nat):Int) S))),a8,a9,none,none,some (.imm (gC ((botH h^(n+1):Nat):Int) Z)),some (.imm (.tuple [.int 1,.int 1])),some (.imm (.list (G.map ptD))),none] [fd] 0) (λK' J=>?_) ?_
   .refine VE ?_;walk_at"s";obtain⟨tl,er⟩:=TX r;refine LZ er ?_;walk_at"s";rcases AV h r with⟨z1,z2⟩|⟨z1,z2⟩
    .rw[z1];walk_at"s";refine bC (ds:=[.tuple [.int (h.a:Int),.int (h.b:Int)],.tuple (h.ss.map Srv.d),.bool h.mv]) (bg (j:=1) rfl) ?_;walk_at"s";rw[gE,<-z2];exact J _ _ ⟨rfl,rfl⟩
    .rw[z1];walk_at"s";exact J _ _ ⟨by rw[z2];rfl,rfl⟩
   rintro _ _ ⟨rfl,rfl⟩;have aS:=gc (rs:=h.rs) (by rw[Hall.rsl];exact n4) ho.r6;have mS:r.many h≤4:=by rcases AV h r with z|z<;>omega
   rw[gE];refine bU (cN (aax (show(((M3.allR h.rs).length:Nat):Int).natAbs<3000 by omega) (by decide)) (aax (show((r.many h:Nat):Int).natAbs<10 by omega) (by decide))) ?_;rw[<-aaA];walk_at"s";refine x_ne (d1:=.tuple [.int 1,.int 1]) (d2:=.tuple [.int 1,.int 1]) rfl rfl (by decide +kernel) (by decide +kernel) ?_;rw[show(!aak (.tuple [.int 1,.int 1]) (.tuple [.int 1,.int 1]))=false by decide +kernel];walk_at"s";refine x_eq (d1:=.list (G.map ptD)) (d2:=.list []) rfl rfl ((jv (i7 G)).ok (by decide)) (by decide +kernel) ?_;rcases hG with⟨rfl,hm⟩|⟨F,i',C,c1,c2,SG⟩
   .rw[show aak (.list ([].map ptD)) (.list [])=true by decide +kernel];walk_at"s";rw[decide_eq_false (show ¬(((M3.allR h.rs).length*r.many h:Nat):Int)<61 by omega)];walk_at"s";refine x_ne (d1:=.list ([].map ptD)) (d2:=.list []) rfl rfl (by decide +kernel) (by decide +kernel) ?_;rw[show(!aak (.list ([].map ptD)) (.list []))=false by decide +kernel];walk_at"s";walk_at"n";exact hD1 _ ⟨_,_,_,_,_,_,_,_,_,_,_,_,_,fd,[],rfl,hf.mono (by omega)⟩
   .obtain⟨g0,gt,rfl⟩:∃g0 gt,G=g0::gt:=by
     cases G with
     |nil=>exact absurd (SG.p.mem_iff.mpr C.hd) abc
     |cons a b=>exact⟨a,b,rfl⟩
    rw[show aak (.list ((g0::gt).map ptD)) (.list [])=false from rfl];walk_at"s";refine x_ne (d1:=.list ((g0::gt).map ptD)) (d2:=.list []) rfl rfl ((jv (i7 _)).ok (by decide)) (by decide +kernel) ?_;rw[show(!aak (.list ((g0::gt).map ptD)) (.list []))=true from rfl];generalize g0::gt=G at *;walk_at"s";unfold gC;walk_at"s";refine bG (λj m=>∃a b:Option L2.R,m=MSt.mk [a,b,some (.imm (.list (G.map ptD)))] [fd,[]] 2) ⟨none,none,rfl⟩ ?_ ?_
    .rintro j d m e hnp ⟨a,b,rfl⟩ D3 hD3 hR3;obtain⟨q,eq,rfl,hj⟩:=gmap e;have mq:=s1.p.mem_iff.mp (DL eq);have yG:q.1∈G:=SG.p.mem_iff.mpr (C.all c1 (yj _ q mq));walk_at"s"
     .rfl
     walk_at"s";refine x_in (d:=ptD q.1) (ds:=G.map ptD) rfl (.inl rfl) (tW _ _) (i7 G) (by decide) ?_;rw[yw,decide_eq_true yG];walk_at"s";rw[if_neg (by decide)];walk_at"s";exact hD3 _ ⟨_,_,rfl⟩
    .rintro m hm ⟨a,b,rfl⟩;walk_at"x";refine x_ne (d1:=.list []) (d2:=.list []) rfl rfl (by decide +kernel) (by decide +kernel) ?_;rw[show(!aak (.list []) (.list []))=false by decide +kernel];walk_at"s";refine⟨h,r,F,G,i',rfl,D1',C,c1,c2,SG,?_⟩;walk_at"x";rw[if_neg (by decide)];walk_at"s";exact hD1 _ ⟨_,_,_,_,_,_,_,_,_,_,_,_,_,fd,[],rfl,hf.mono (by omega)⟩
 .rintro m hm ⟨a3,a4,a5,a6,a7,a8,a9,x,B,a12,a13,a14,a15,fd,os,rfl,hf⟩;walk_at"s";exact k
end
theorem ar_{u:List mT}{n:Nat}(a:u.length=n):u=(aaH n).map λi=>u.getD i .none:=af3 (by rw[a,gE,aa6]) λi b c=>by
 rw[aeH,List.getElem_range,aar,iO b];rfl
local macro_rules | `(tactic| walk_at "dm") => `(tactic| exact λf fd F => F.binds λ_ _ _ _ _ _ us hl => by rw [ar_ hl]; rfl)
theorem Sx{w:World}{K:Mt}{h:aaM}{mg:Str->Option mT}{fa:Addr}(X:K.In h)(G:h.Ns aao mg)(hfa:mg "law" = some (.ref fa))(o:DefK K "greatest_divisor" cz)(dfraction_of:DefK K "fraction_of" fY)(dtaken_off:DefK K "taken_off" iQ)(ddivided:DefK K "divided" oy)(dis_less:DefK K "is_less" mR)(Q:DefK K "on_one_bottom" cB)(z:DefK K "place_of_lines" dh)(I:DefK K "first_shortest" de)(dwait_at:DefK K "wait_at" ot)(N:DefK K "first_quickest" db)(dsent_to:DefK K "sent_to" mL)(dfirst_stand:DefK K "first_stand" f7)(dall_orders:DefK K "all_orders" fe)(dwith_more:DefK K "with_more" iJ)(dcome_to:DefK K "come_to" oo)(ddone_at:DefK K "done_at" m9)(dnext_shift:DefK K "next_shift" gL)(dsettled:DefK K "settled" oG)(dturn_behind:DefK K "turn_behind" fz)(dline_of:DefK K "line_of" nK)(dmoved_on:DefK K "moved_on" kL)(dmove_shares:DefK K "move_shares" dw)(t:DefK K "weights_behind" dm)(dtold_shares:DefK K "told_shares" dF)(Z:DefK K "left_by_turn" e9)(V:DefK K "stands_coming" dN)(U:DefK K "left_by_turns" dM)(d_law_tape:DefK K "_law_tape" iL)(d_law_draw:DefK K "_law_draw" iZ)(d_law_cut:DefK K "_law_cut" kq)(d_law_plus:DefK K "_law_plus" iU)(d_law_times:DefK K "_law_times" gU)(d_law_parts:DefK K "_law_parts" c9)(d_law_hall:DefK K "_law_hall" gu)(H:DefK K "_law_all_lines" ck)(d_law_rule:DefK K "_law_rule" gh)(d_law_coming:DefK K "_law_coming" fE)(d_law_closed:DefK K "_law_closed" dq)(dlaw:DefK K "law" slaw)(zlen:aat K aao "len" = some none)(zabs:aat K aao "abs" = some none)(zrange:aat K aao "range" = some none)(zlist:aat K aao "list" = some none)(ztuple:aat K aao "tuple" = some none)(zint:aat K aao "int" = some none)(zsum:aat K aao "sum" = some none)(zzip:aat K aao "zip" = some none)(zmin:aat K aao "min" = some none)(zmax:aat K aao "max" = some none)(zenumerate:aat K aao "enumerate" = some none)(zrepr:aat K aao "repr" = some none)(zsorted:aat K aao "sorted" = some none)(cWHOLE_TURN:ConK K "WHOLE_TURN" (.tuple (([1,1]:List Int).map .int)))(cMOST_STANDS:ConK K "MOST_STANDS" (.int 60))(eTooMany:ClsK K "TooMany")(iTooMany:IniK K "TooMany" ["word"])(fn_TooMany:aat K aao "TooMany" = some (some (.ref (clsA K "TooMany"))))(fsub:SubX K "TooMany" "TooMany") :
  ∃fd:ab6,(∀(s:oR) (v:mT),ahs s fd ⟨[v],[]⟩ [("_law_script",v)])/\∀base:aaM,K.In base->base.Ns aao mg->FnOk l.prog w K mg base CX0 10 fa fd ["_law_script"] (spOf ⟨K,w⟩ 1 DU):=by
 obtain⟨f,fd,a,F⟩:=dlaw.ex;have e:=hfa.symm.trans (aeL X G a);cases e;have T:Bl K mg:=⟨aba X G zlen,aba X G zabs,aba X G zrange,aba X G zlist,aba X G ztuple,aba X G zint,aba X G zsum,aba X G zzip,aba X G zmin,aba X G zmax,aba X G zenumerate,aba X G zrepr,aba X G zsorted,cWHOLE_TURN.m X G,cMOST_STANDS.m X G,eTooMany.m X G,iTooMany.m X G,fn_TooMany,fsub⟩;have D:=o.m (ps:=["one","other"]) X G (by walk_at"dm");have Dfraction_of:=dfraction_of.m (ps:=["top","bottom"]) X G (by walk_at"dm");have Dtaken_off:=dtaken_off.m (ps:=["one","other"]) X G (by walk_at"dm");have Ddivided:=ddivided.m (ps:=["one","other"]) X G (by walk_at"dm");have Dis_less:=dis_less.m (ps:=["one","other"]) X G (by walk_at"dm");have Y:=Q.m (ps:=["pairs"]) X G (by walk_at"dm");have L:=z.m (ps:=["hall","lines"]) X G (by walk_at"dm");have J:=I.m (ps:=["lines","order"]) X G (by walk_at"dm");have Dwait_at:=dwait_at.m (ps:=["hall","lines","line"]) X G (by walk_at"dm");have u:=N.m (ps:=["hall","lines","order"]) X G (by walk_at"dm");have Dsent_to:=dsent_to.m (ps:=["hall","rule","stand","order"]) X G (by walk_at"dm");have Dfirst_stand:=dfirst_stand.m (ps:=["hall"]) X G (by walk_at"dm");have Dall_orders:=dall_orders.m (ps:=["hall"]) X G (by walk_at"dm");have Dwith_more:=dwith_more.m (ps:=["lines","line","more"]) X G (by walk_at"dm");have Dcome_to:=dcome_to.m (ps:=["hall","lines","line"]) X G (by walk_at"dm");have Ddone_at:=ddone_at.m (ps:=["lines","line"]) X G (by walk_at"dm");have Dnext_shift:=dnext_shift.m (ps:=["hall","lines"]) X G (by walk_at"dm");have Dsettled:=dsettled.m (ps:=["hall","lines"]) X G (by walk_at"dm");have Dturn_behind:=dturn_behind.m (ps:=["hall","rule","turn"]) X G (by walk_at"dm");have Dline_of:=dline_of.m (ps:=["hall","rule","stand","move"]) X G (by walk_at"dm");have Dmoved_on:=dmoved_on.m (ps:=["hall","rule","stand","move"]) X G (by walk_at"dm");have Dmove_shares:=dmove_shares.m (ps:=["hall"]) X G (by walk_at"dm");have B:=t.m (ps:=["hall","rule","weights"]) X G (by walk_at"dm");have Dtold_shares:=dtold_shares.m (ps:=["weights","whole"]) X G (by walk_at"dm");have Dleft_by_turn:=Z.m (ps:=["hall","rule","stand"]) X G (by walk_at"dm");have O:=V.m (ps:=["hall","rule"]) X G (by walk_at"dm");have R:=U.m (ps:=["hall","rule","turns"]) X G (by walk_at"dm");have D_law_tape:=d_law_tape.m (ps:=["_law_script"]) X G (by walk_at"dm");have D_law_draw:=d_law_draw.m (ps:=["_law_tape_here","_law_many"]) X G (by walk_at"dm");have D_law_cut:=d_law_cut.m (ps:=["_law_top","_law_bottom"]) X G (by walk_at"dm");have D_law_plus:=d_law_plus.m (ps:=["_law_one","_law_other"]) X G (by walk_at"dm");have D_law_times:=d_law_times.m (ps:=["_law_one","_law_other"]) X G (by walk_at"dm");have D_law_parts:=d_law_parts.m (ps:=["_law_tape_here","_law_many"]) X G (by walk_at"dm");have D_law_hall:=d_law_hall.m (ps:=["_law_tape_here","_law_menu"]) X G (by walk_at"dm");have E:=H.m (ps:=["_law_hall_here"]) X G (by walk_at"dm");have D_law_rule:=d_law_rule.m (ps:=["_law_tape_here","_law_hall_here"]) X G (by walk_at"dm");have D_law_coming:=d_law_coming.m (ps:=["_law_hall_here","_law_rule_here"]) X G (by walk_at"dm");have D_law_closed:=d_law_closed.m (ps:=["_law_hall_here","_law_rule_here","_law_coming_here"]) X G (by walk_at"dm");refine⟨fd,λs v=>?_,λbase _ _=>?_⟩
 .obtain⟨oc,od,kV,doc,pm,an,cdv,ct,osl,rfl,lk,hcd⟩:=F.ex;exact .of_eq rfl
 .have Ggreatest_divisor:=iq (P:=l.prog) (w:=w) (base:=base) T D;have d:=oM (P:=l.prog) (w:=w) (base:=base) T Dfraction_of Ggreatest_divisor;have Gtaken_off:=ut (P:=l.prog) (w:=w) (base:=base) T Dtaken_off d;have Gdivided:=yB (P:=l.prog) (w:=w) (base:=base) T Ddivided d;have Gis_less:=xW (P:=l.prog) (w:=w) (base:=base) T Dis_less;have S:=k6 (P:=l.prog) (w:=w) (base:=base) T Y Ggreatest_divisor;have A:=jq (P:=l.prog) (w:=w) (base:=base) T L;have x:=jn (P:=l.prog) (w:=w) (base:=base) T J;have Gwait_at:=BG (P:=l.prog) (w:=w) (base:=base) T Dwait_at;have C:=js (P:=l.prog) (w:=w) (base:=base) T u Gwait_at Gis_less;have Gsent_to:=Ce (P:=l.prog) (w:=w) (base:=base) T Dsent_to x C A;have k:=m6 (P:=l.prog) (w:=w) (base:=base) T Dfirst_stand;have Gall_orders:=qr (P:=l.prog) (w:=w) (base:=base) T Dall_orders;have j:=ul (P:=l.prog) (w:=w) (base:=base) T Dwith_more;have Gcome_to:=yn (P:=l.prog) (w:=w) (base:=base) T Dcome_to j;have Gdone_at:=zc (P:=l.prog) (w:=w) (base:=base) T Ddone_at j;have Gnext_shift:=qH (P:=l.prog) (w:=w) (base:=base) T Dnext_shift;have Gsettled:=zF (P:=l.prog) (w:=w) (base:=base) T Dsettled Gnext_shift j;have Gturn_behind:=oY (P:=l.prog) (w:=w) (base:=base) T Dturn_behind;have Gline_of:=yz (P:=l.prog) (w:=w) (base:=base) T Dline_of Gsent_to;have Gmoved_on:=wJ (P:=l.prog) (w:=w) (base:=base) T Dmoved_on Gline_of Gcome_to Gturn_behind Gdone_at Gsettled;have Gmove_shares:=n9 (P:=l.prog) (w:=w) (base:=base) T Dmove_shares Gall_orders Gdivided Gtaken_off;have i:=jo (P:=l.prog) (w:=w) (base:=base) T B Gmove_shares S Gmoved_on;have m:=o7 (P:=l.prog) (w:=w) (base:=base) T Dtold_shares d;have b:=lr (P:=l.prog) (w:=w) (base:=base) T Dleft_by_turn i m;have n:=ic (P:=l.prog) (w:=w) (base:=base) T O k b;have W:=j3 (P:=l.prog) (w:=w) (base:=base) T R k i m;have G_law_tape:=s9 (P:=l.prog) (w:=w) (base:=base) T D_law_tape;have c:=rq (P:=l.prog) (w:=w) (base:=base) T D_law_draw;have q:=wQ (P:=l.prog) (w:=w) (base:=base) T D_law_cut;have G_law_plus:=uq (P:=l.prog) (w:=w) (base:=base) T D_law_plus q;have G_law_times:=p8 (P:=l.prog) (w:=w) (base:=base) T D_law_times q;have G_law_parts:=qM (P:=l.prog) (w:=w) (base:=base) T D_law_parts c q;have G_law_hall:=tf (P:=l.prog) (w:=w) (base:=base) T D_law_hall c G_law_parts;have g:=jr (P:=l.prog) (w:=w) (base:=base) T E;have G_law_rule:=sJ (P:=l.prog) (w:=w) (base:=base) T D_law_rule c g;have G_law_coming:=oU (P:=l.prog) (w:=w) (base:=base) T D_law_coming n;have G_law_closed:=mI (P:=l.prog) (w:=w) (base:=base) T D_law_closed b;exact UY T F G_law_tape G_law_hall G_law_rule c W b G_law_plus G_law_times G_law_coming g G_law_closed
theorem walk{q:aaB}{b:List Str}{X:(Str->Option mT)->aaM->Prop}{Y:World->aaM->Prop}{d:DefRec}{K:Params->Mt}(m:PyProof.Rows.importsNone q=true)(g:l.most=some 63)(c:d.params.defaults=[])
  (j:∀(w:World) (h:aaM),Y w h->(K w.params).In h)
  (F:∀(w:World) (mg:Str->Option mT) (e:Addr) (h:aaM),(K w.params).In h->h.Ns aao mg->mg d.name=some (.ref e) ->
   ∃fd:ab6,(∀(s:oR) (u:mT),ahs s fd ⟨[u],[]⟩ [("_law_script",u)])/\∀base:aaM,(K w.params).In base->base.Ns aao mg->FnOk l.prog w (K w.params) mg base CX0 10 e fd ["_law_script"] (spOf ⟨K w.params,w⟩ 1 DU)) :
  ah9 q b X Y l.row.toRowW d [] (λf vs=>ah4 f vs):=
 L2.M8 (n:=63) (k:=10) (x:= "_law_script") (CX:=λ_=>CX0) (sp:=λw=>spOf ⟨K w.params,w⟩ 1 DU) m g (by decide) c ⟨rfl,by decide,by decide,rfl⟩ j F
  (λw H a ns B A i=>⟨[.imm (.list (ns.map .int))],[],λr _=>r = .imm (.bool true),rfl,acy,.imm (w5 A i) .nil,⟨ns,rfl,B,rfl⟩,λr o v t k _ rr _=>by cases k;exact kl (show Den ⟨K w.params,w⟩ t (.bool true) v from rr)⟩) λ_ _ _ _ _ z=>z
end K
namespace PySem.W.Fast
def tw789146392897878908:=0
def tw2974115766515931707:=0
def tw4924459963917994025:=0
def tw10960173587424486822:=0
def tw10110653025977994559:=0
def tw18256070424901329742:=0
def tw4008745910236122240:=0
def tw4935722131677909947:=0
def tw13004494561333372462:=0
def tw13195509078161369302:=0
def tw15631416177787182538:=0
def tw8809031285779735909:=0
def tw17495999577476186661:=0
def tw5369618992982125240:=0
def tw5507174521041643728:=0
def tw447138751014515884:=0
def tw10618566026724958712:=0
def tw16299382509773420597:=0
def tw5013438676401287221:=0
def tw7083685297454959674:=0
def tw15247981165102725359:=0
def tw4272574950829496865:=0
def tw3534821864472730585:=0
def tw12622482987262250919:=0
def tw17602889637137623954:=0
def tw17929432788179668577:=0
def tw588955654691809358:=0
def tw10902146693516507758:=0
def tw3120830919258165056:=0
def tw17554148789123373954:=0
def tw10670245055921399052:=0
def tw2477352187133302322:=0
def tw9357146114051564004:=0
def tw13134404536133489334:=0
def tw8205716200110522575:=0
def tw12393840994529926594:=0
def tw2400836917179185173:=0
def tw11887236844710203259:=0
def tw14689616232118139104:=0
def tw3207711692215860166:=0
def tw12599979861434321845:=0
def tw16577092541450859331:=0
def tw8203572311448751814:=0
def tw11139907118872016983:=0
def tw4811900079755393447:=0
def tw5656518823669720538:=0
def tw12181036219760223092:=0
def tw2147193654816828038:=0
def tw5026572529510405776:=0
def tw7745991805633164605:=0
def tw15588464672684558061:=0
def tw10944053523159133548:=0
def tw14600782081938022643:=0
def tw11270162159234974392:=0
def tw1999016500417377137:=0
def tw3491158930187977960:=0
def tw6711220155998416077:=0
def tw2957666843642352312:=0
def tw7372897260581378850:=0
def tw5752522822264050140:=0
def tw17413829907682217778:=0
def tw6288424074152536446:=0
def tw11883587666939661854:=0
def tw11514037207998129986:=0
def tw285462281363847852:=0
def tw1844309350870014008:=0
def tw13435733571247749171:=0
def tw12052477697649549714:=0
def tw5859191638690853925:=0
def tw16646577637730376231:=0
def tw364997976073282252:=0
def tw8712661293903407296:=0
def tw6027471174750802618:=0
def tw14141778849761518468:=0
def tw14186520429136874353:=0
def tw965376787989538693:=0
def tw144663479836993400:=0
def tw249692124247526440:=0
def tw13683571941014404737:=0
def tw4729173236598401681:=0
def tw15773930891776089560:=0
def tw3860754421189456974:=0
def tw3644877169441459637:=0
def tw17952145210987965635:=0
def tw12846238737508047064:=0
def tw12193649221924425155:=0
def tw12889147259660993257:=0
def tw10028978079174697341:=0
def tw3572350958441761351:=0
def tw12950966436447671236:=0
def tw10585431625480106549:=0
def tw16647960554835285437:=0
def tw18371846397363838379:=0
def tw12816527692236136741:=0
def tw17104250214671689817:=0
def tw7050888620408749495:=0
def tw13305363637621392194:=0
def tw5787379297213856828:=0
def tw10242003529288929312:=0
def tw16119449017245340132:=0
def tw7230574485474848309:=0
def tw5501437773171839669:=0
def tw11707230220648699194:=0
def tw2891988908331881036:=0
def tw16123232990635344075:=0
def tw18367905800792904442:=0
def tw8650451159058406195:=0
def tw13413852324578523678:=0
def tw13372301226495651830:=0
def tw3814327757023700101:=0
def tw15996127095533226557:=0
def tw6122564944436435123:=0
def tw16697077622616876036:=0
def tw7345113857100945505:=0
def tw16139271344640971428:=0
def tw3395858856058267645:=0
def tw16573349342998125778:=0
def tw6441447515046422091:=0
def tw13958088358081789288:=0
def tw13765480591604050002:=0
def tw531292723758683519:=0
def tw337292701254134925:=0
def tw610965979162589730:=0
def tw4910483219702043953:=0
def tw11889487475370014308:=0
def tw73269062881619501:=0
def tw10358055693475378984:=0
def tw2543473008144342415:=0
def tw12689842512923079060:=0
def tw15212643535954458996:=0
def tw10360229753533793494:=0
def tw5906257351682367588:=0
def tw11355028900579122896:=0
def tw3904201774448872110:=0
def tw7745275262796027293:=0
def tw9715428681553526802:=0
def tw18368040213196526093:=0
def tw2982298464333113964:=0
def tw3271532880806775265:=0
def tw2368959163230876074:=0
def tw17086517206690319613:=0
def tw11862019542552765897:=0
def tw10411358558514843106:=0
def tw4275637529637566749:=0
def tw15078695248797405798:=0
def tw1171386628858957397:=0
def tw13148819821179754541:=0
def tw9281028156331903889:=0
def tw8423222368907123549:=0
def tw9799648995037040300:=0
def tw9667521480716651629:=0
def tw13233213398689250671:=0
def tw6863554433040149972:=0
def tw17725715462771246711:=0
def tw14242062577085855657:=0
def tw12069709376304712575:=0
def tw5729763405374928156:=0
def tw1060825399543137953:=0
def tw17561807870060162994:=0
def tw5932815200807719883:=0
def tw10802730160800315044:=0
def tw1526676871177581860:=0
def tw14991924395059455724:=0
def tw4304643183087060701:=0
def tw11779328808674533313:=0
def tw10886324492437840328:=0
def tw12225171312918404556:=0
def tw17941227570633399398:=0
def tw13205232745421301420:=0
def tw7248686806858798747:=0
def tw7660660803885528893:=0
def tw10904472385922822451:=0
def tw18019825356157534661:=0
def tw6266786700962118604:=0
def tw355251119744555013:=0
def tw6437978503080354894:=0
def tw3906599826319842194:=0
def tw15981018940671741105:=0
def tw17556182346183354359:=0
def tw18067205871881104107:=0
def tw8762544804325508779:=0
def tw4516517773935497740:=0
def tw17934492199519788289:=0
def tw13611684786714809917:=0
def tw6105325036483388006:=0
def tw18324167188854757155:=0
def tw2814168011401207902:=0
def tw13803331572677319473:=0
def tw10563067574398781102:=0
def tw6672451400797421122:=0
def tw12434557442693920141:=0
def tw7837423994255906110:=0
def tw2387392539426140458:=0
def tw14472414919778539242:=0
def tw15834135081770354355:=0
def tw5704093953098730004:=0
end PySem.W.Fast
open PySem PySem.W PyProof.Rows
local macro_rules | `(tactic| walk_at "dk") => `(tactic| (refine' L2.DefK.of ?a ?l ?c ?k; (case a => k_is); (case l => k_is); (case c => k_is); (case k => k_is)))
set_option maxRecDepth 100000 in
set_option maxHeartbeats 0 in
theorem PySem.Challenge.cw_shorterline_k28_whole_turn_behind_turn_holds : PySem.Challenge.rw_shorterline_k28_whole_turn_behind_turn.Holds := by
 w_on;o_law;k_head;(case hw=>w_witness2)
 k_fill
 refine K.walk (l:=PySem.Challenge.rw_shorterline_k28_whole_turn_behind_turn) ?hq rfl rfl (λw h Y=>PySem.W.kIn_of Y) ?F
 case hq=>kernel_rfl
 case F=>
  intro w mg fa h KX G hmg;refine' K.Sx KX G hmg ?dgreatest_divisor ?dfraction_of ?dtaken_off ?ddivided ?dis_less ?don_one_bottom ?dplace_of_lines ?dfirst_shortest ?dwait_at ?dfirst_quickest ?dsent_to ?dfirst_stand ?dall_orders ?dwith_more ?dcome_to ?ddone_at ?dnext_shift ?dsettled ?dturn_behind ?dline_of ?dmoved_on ?dmove_shares ?dweights_behind ?dtold_shares ?dleft_by_turn ?dstands_coming ?dleft_by_turns ?d_law_tape ?d_law_draw ?d_law_cut ?d_law_plus ?d_law_times ?d_law_parts ?d_law_hall ?d_law_all_lines ?d_law_rule ?d_law_coming ?d_law_closed ?dlaw ?zlen ?zabs ?zrange ?zlist ?ztuple ?zint ?zsum ?zzip ?zmin ?zmax ?zenumerate ?zrepr ?zsorted ?cWHOLE_TURN ?cMOST_STANDS ?eTooMany ?iTooMany ?fn_TooMany ?fsub
  (case dgreatest_divisor=>walk_at"dk")
  (case dfraction_of=>walk_at"dk")
  (case dtaken_off=>walk_at"dk")
  (case ddivided=>walk_at"dk")
  (case dis_less=>walk_at"dk")
  (case don_one_bottom=>walk_at"dk")
  (case dplace_of_lines=>walk_at"dk")
  (case dfirst_shortest=>walk_at"dk")
  (case dwait_at=>walk_at"dk")
  (case dfirst_quickest=>walk_at"dk")
  (case dsent_to=>walk_at"dk")
  (case dfirst_stand=>walk_at"dk")
  (case dall_orders=>walk_at"dk")
  (case dwith_more=>walk_at"dk")
  (case dcome_to=>walk_at"dk")
  (case ddone_at=>walk_at"dk")
  (case dnext_shift=>walk_at"dk")
  (case dsettled=>walk_at"dk")
  (case dturn_behind=>walk_at"dk")
  (case dline_of=>walk_at"dk")
  (case dmoved_on=>walk_at"dk")
  (case dmove_shares=>walk_at"dk")
  (case dweights_behind=>walk_at"dk")
  (case dtold_shares=>walk_at"dk")
  (case dleft_by_turn=>walk_at"dk")
  (case dstands_coming=>walk_at"dk")
  (case dleft_by_turns=>walk_at"dk")
  (case d_law_tape=>walk_at"dk")
  (case d_law_draw=>walk_at"dk")
  (case d_law_cut=>walk_at"dk")
  (case d_law_plus=>walk_at"dk")
  (case d_law_times=>walk_at"dk")
  (case d_law_parts=>walk_at"dk")
  (case d_law_hall=>walk_at"dk")
  (case d_law_all_lines=>walk_at"dk")
  (case d_law_rule=>walk_at"dk")
  (case d_law_coming=>walk_at"dk")
  (case d_law_closed=>walk_at"dk")
  (case dlaw=>walk_at"dk")
  (case zlen=>k_is)
  (case zabs=>k_is)
  (case zrange=>k_is)
  (case zlist=>k_is)
  (case ztuple=>k_is)
  (case zint=>k_is)
  (case zsum=>k_is)
  (case zzip=>k_is)
  (case zmin=>k_is)
  (case zmax=>k_is)
  (case zenumerate=>k_is)
  (case zrepr=>k_is)
  (case zsorted=>k_is)
  (case cWHOLE_TURN=>(refine' L2.ConK.ints ?a ?l ?i ?z;(case a=>k_is);(case l=>k_is);(case i=>rfl);(case z=>decide)))
  (case cMOST_STANDS=>(refine' L2.ConK.int ?a;(case a=>k_is)))
  (case eTooMany=>(refine' L2.ClsK.of ?a;(case a=>k_is)))
  (case iTooMany=>(refine' L2.IniK.of1 (qual:= "TooMany.__init__") (st:=K.f8) K.w9 rfl (by decide) (by decide) K.yQ ?xa ?xb ?xc ?xl ?xe ?xk ?xd ?xi ?xs ?xt ?xo ?xn;(case xa=>k_is);(case xb=>k_is);(case xc=>k_is);(case xl=>k_is);(case xe=>k_is);(case xk=>k_is);(case xd=>k_is);(case xi=>kernel_rfl);(case xs=>kernel_rfl);(case xt=>k_is);(case xo=>k_is);(case xn=>k_is)))
  (case fn_TooMany=>(refine' L2.ClsK.ns (L2.ClsK.of ?a);(case a=>k_is)))
  (case fsub=>(refine' L2.SubX.of ?a ?b ?c;(case a=>k_is);(case b=>k_is);(case c=>kts_exm)))