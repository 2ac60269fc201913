import PyProof.Rows.All
import Wide.All
import OpenK.AllK
import Wide.FinOn
import Lean
import PyProof.EqAt
import PyProof.EqKinds
import PyProof.TupleCall
import KE.KRevIter
import PyProof.FactsAll.range
import PyProof.P3In
import PyProof.ZipIter
import PyProof.TupleIter
import PyProof.WalkInts
import PyProof.SeqI3
import PyProof.EnumFor
import PyProof.EnumMake
import PyProof.ListMulRoad
import PyProof.Rows.SortRev
import PyProof.SumWalkG
import PyProof.StrWalks
import PyProof.StrCalls2
import PyProof.StrLawsTight
import KE.KIntText
import PyProof.StrBlockG
import PyProof.Rows.StrItems
import PyProof.StrLawsRepr
import PyProof.SliceStr2
import PyProof.StrBlockI
import PyProof.Rows.IntBool
import PyProof.Rows.FStr
import PyProof.FString
import PyProof.FactsAll.tuple
import KE.KSortTup
import PyProof.AutoListH
import PyProof.StrOps2
import PyProof.ListStr
import PyProof.DictRoadsH
import PyProof.Rows.TupTab
import PyProof.P3Eq
import PyProof.StationsW
import PyProof.RulesAs
import OpenK.KOwn
import KE.KTryMore
import PyProof.NsDelKeeps
import PyProof.ExcArgsOwn
import PyProof.ExcInit
import PyProof.InstStoreFacts
import PyProof.ListRange
import PyProof.TupleOfStr
import PyProof.CollectIter
import PyProof.DictItems
import PyProof.DictWalks
import PyProof.CollectWalk
import PyProof.AutoSeq1
import KE.RegKIsAll
import KE.RegKTryMore
import PySem.Challenge.RW_shorterline_k26_all_stands_that_come
set_option Elab.async false
set_option linter.all false
set_option maxRecDepth 100000
set_option bootstrap.genMatcherCode false
namespace Zz
theorem e11{α:Sort _}{p:α→Prop}{g:Prop}(h:∃a,p a)(k:∀a,p a→g):g:=h.elim λa h=>k a h
theorem e02{p q:Prop}{g:Prop}(h:p∧q)(k:p→q→g):g:=k  h.1 h.2
theorem e21{α β:Sort _}{p:α→β→Prop}{g:Prop}(h:∃a b,p a b)(k:∀a b,p a b→g):g:=h.elim λa h=>h.elim λb h=>k a b h
theorem e12{α:Sort _}{p q:α→Prop}{g:Prop}(h:∃a,p a∧q a)(k:∀a,p a→q a→g):g:=h.elim λa h=>k a h.1 h.2
theorem e03{p q r:Prop}{g:Prop}(h:p∧q∧r)(k:p→q→r→g):g:=k  h.1 h.2.1 h.2.2
theorem e31{α β γ:Sort _}{p:α→β→γ→Prop}{g:Prop}(h:∃a b c,p a b c)(k:∀a b c,p a b c→g):g:=h.elim λa h=>h.elim λb h=>h.elim λc h=>k a b c h
theorem e22{α β:Sort _}{p q:α→β→Prop}{g:Prop}(h:∃a b,p a b∧q a b)(k:∀a b,p a b→q a b→g):g:=h.elim λa h=>h.elim λb h=>k a b h.1 h.2
theorem e13{α:Sort _}{p q r:α→Prop}{g:Prop}(h:∃a,p a∧q a∧r a)(k:∀a,p a→q a→r a→g):g:=h.elim λa h=>k a h.1 h.2.1 h.2.2
theorem e04{p q r s:Prop}{g:Prop}(h:p∧q∧r∧s)(k:p→q→r→s→g):g:=k  h.1 h.2.1 h.2.2.1 h.2.2.2
theorem e41{α β γ δ:Sort _}{p:α→β→γ→δ→Prop}{g:Prop}(h:∃a b c d,p a b c d)(k:∀a b c d,p a b c d→g):g:=h.elim λa h=>h.elim λb h=>h.elim λc h=>h.elim λd h=>k a b c d h
theorem e32{α β γ:Sort _}{p q:α→β→γ→Prop}{g:Prop}(h:∃a b c,p a b c∧q a b c)(k:∀a b c,p a b c→q a b c→g):g:=h.elim λa h=>h.elim λb h=>h.elim λc h=>k a b c h.1 h.2
theorem e23{α β:Sort _}{p q r:α→β→Prop}{g:Prop}(h:∃a b,p a b∧q a b∧r a b)(k:∀a b,p a b→q a b→r a b→g):g:=h.elim λa h=>h.elim λb h=>k a b h.1 h.2.1 h.2.2
theorem e14{α:Sort _}{p q r s:α→Prop}{g:Prop}(h:∃a,p a∧q a∧r a∧s a)(k:∀a,p a→q a→r a→s a→g):g:=h.elim λa h=>k a h.1 h.2.1 h.2.2.1 h.2.2.2
theorem e05{p q r s t:Prop}{g:Prop}(h:p∧q∧r∧s∧t)(k:p→q→r→s→t→g):g:=k  h.1 h.2.1 h.2.2.1 h.2.2.2.1 h.2.2.2.2
theorem e51{α β γ δ ε:Sort _}{p:α→β→γ→δ→ε→Prop}{g:Prop}(h:∃a b c d e,p a b c d e)(k:∀a b c d e,p a b c d e→g):g:=h.elim λa h=>h.elim λb h=>h.elim λc h=>h.elim λd h=>h.elim λe h=>k a b c d e h
theorem e42{α β γ δ:Sort _}{p q:α→β→γ→δ→Prop}{g:Prop}(h:∃a b c d,p a b c d∧q a b c d)(k:∀a b c d,p a b c d→q a b c d→g):g:=h.elim λa h=>h.elim λb h=>h.elim λc h=>h.elim λd h=>k a b c d h.1 h.2
theorem e33{α β γ:Sort _}{p q r:α→β→γ→Prop}{g:Prop}(h:∃a b c,p a b c∧q a b c∧r a b c)(k:∀a b c,p a b c→q a b c→r a b c→g):g:=h.elim λa h=>h.elim λb h=>h.elim λc h=>k a b c h.1 h.2.1 h.2.2
theorem e24{α β:Sort _}{p q r s:α→β→Prop}{g:Prop}(h:∃a b,p a b∧q a b∧r a b∧s a b)(k:∀a b,p a b→q a b→r a b→s a b→g):g:=h.elim λa h=>h.elim λb h=>k a b h.1 h.2.1 h.2.2.1 h.2.2.2
theorem e15{α:Sort _}{p q r s t:α→Prop}{g:Prop}(h:∃a,p a∧q a∧r a∧s a∧t a)(k:∀a,p a→q a→r a→s a→t a→g):g:=h.elim λa h=>k a h.1 h.2.1 h.2.2.1 h.2.2.2.1 h.2.2.2.2
theorem e06{p q r s t u:Prop}{g:Prop}(h:p∧q∧r∧s∧t∧u)(k:p→q→r→s→t→u→g):g:=k  h.1 h.2.1 h.2.2.1 h.2.2.2.1 h.2.2.2.2.1 h.2.2.2.2.2
end Zz
local macro_rules
 |`(tactic|let $d:letDecl)=>do
  let D:=d.raw[0];let p:=D[0];let q:=p[1].getSepArgs
  if p.getKind !=``Lean.Parser.Term.anonymousCtor||q.size<2 then Lean.Macro.throwUnsupported
  let mut e:Lean.TSyntax `term:=⟨D[4]⟩
  if D[2].getNumArgs !=0 then e:=←`(($e : $(⟨D[2][0][1]⟩)))
  let T:=Array (Lean.TSyntax `tactic)
  let mut U:T:=#[]
  let mut cl:T:=#[]
  if e.raw.isIdent then cl:=#[←`(tactic|try clear $(⟨e.raw⟩))]
  let K:=Nat.min q.size 6
  for k in [0:K-1] do
   let N:=K-k
   let mut z:=cl
   for i in [0:N] do
    let c:=q[i]!
    if c.isIdent&&c.getId !=`rfl&&(i+1<N||N==q.size) then z:=z.push (←`(tactic|intro $(⟨c⟩):ident))
    else
     let y:=Lean.mkIdent (←Lean.Macro.addMacroScope (.mkSimple s!"x{i}"))
     z:=z.push (←`(tactic|intro $y:ident))
     if i+1==N&&N<q.size then
      let r:Lean.TSyntaxArray `term:=(q.extract i q.size).map (⟨·⟩)
      z:=z.push (←`(tactic|let ⟨$r,*⟩:=$y))
     else if c.getKind==``Lean.Parser.Term.anonymousCtor then z:=z.push (←`(tactic|let $(⟨c⟩):term:=$y))
     else if c.isIdent then z:=z.push (←`(tactic|rcases $y:ident with $(⟨c⟩):ident))
   for i in [0:N] do
    let s:=#[←`(tactic|refine $(Lean.mkIdent (.mkStr2 "Zz" s!"e{N-1-i}{i+1}")) $e ?_)]++z
    U:=U.push (←`(tactic|($[$s:tactic];*)))
  let rec cv:Nat->Lean.Syntax->Lean.MacroM (Lean.TSyntax `rcasesPat)
   |0,_=>Lean.Macro.throwUnsupported
   |n+1,c=>do
    if c.isIdent then `(rcasesPat|$(⟨c⟩):ident)
    else if c.getKind==``Lean.Parser.Term.anonymousCtor then
     let a:=←c[1].getSepArgs.mapM (cv n)
     `(rcasesPat|⟨$[$a],*⟩)
    else `(rcasesPat|_)
  let m←cv 9 p
  `(tactic|first $[|$U:tactic]*|rcases $e:term with $m:rcasesPat)
 |`(tactic|intro $a*)=>do
  let C:=λx:Lean.Syntax=>x.getKind==``Lean.Parser.Term.anonymousCtor||x.getId==`rfl
  if !a.any (C ·.raw) then Lean.Macro.throwUnsupported
  let mut z:Array (Lean.TSyntax `tactic):=#[]
  for x in a do
   if C x then
    let y:=Lean.mkIdent (←Lean.Macro.addMacroScope `y)
    z:=z.push (←`(tactic|intro $y:ident))
    z:=z.push (←if x.raw.isIdent then `(tactic|rcases $y:ident with $(⟨x⟩):ident) else `(tactic|let $x:term:=$y))
   else z:=z.push (←`(tactic|intro $x:term))
  `(tactic|($[$z:tactic];*))
local macro_rules |`(tactic|ext a)=>`(tactic|walk_at"a")|`(tactic|ext b)=>`(tactic|walk_at"b")|`(tactic|ext c)=>`(tactic|walk_at"c")|`(tactic|ext d)=>`(tactic|walk_at"d")|`(tactic|ext dk)=>`(tactic|walk_at"dk")|`(tactic|ext dm)=>`(tactic|walk_at"dm")|`(tactic|ext e)=>`(tactic|walk_at"e")|`(tactic|ext f)=>`(tactic|walk_at"f")|`(tactic|ext g)=>`(tactic|walk_at"g")|`(tactic|ext h)=>`(tactic|walk_at"h")|`(tactic|ext n)=>`(tactic|walk_at"n")|`(tactic|ext s)=>`(tactic|walk_at"s")|`(tactic|ext sc)=>`(tactic|walk_at"sc")|`(tactic|ext x)=>`(tactic|walk_at"x")
open PySem renaming wpAny_bind->aD,PyData->dL,Value->oR,Shared->Ad,wpAny_pure->Dl,starEach->OR,sizeLine->aaf,mainGlobals->aag,sizeLine_eq->aaj,Program->aaA,wpAny_setField_rec->aaC,bootBuiltins->aaL,foldedSetIterable->aaP,wpAny_field->aaQ,Heap->aaR,wpAny_callSpecial?_slot->aaU,wpAny_call_entry->aa0,Around->aa2,wpAny_newObj_type->aa3,attributeBase->aa5,wpAny_isOneOf_itemiter->abd,compareOp->abp,wpAny_holding->abu,backTo->abw,sysModules->abD,assignEach->abE,swapsWith->abH,Paired->abN,FuncData->abZ,DictEntry->ab3,mem_of_lookup->ab4,wpAny_mono->ab9,wpAny_standAt->aci,binaryOp->acp,rawInt->acq,IsItemIter->acy,Builtin->acE,wpAny_attempt->acK,wpAny_rule->acO,pyNext->acP,wpAny_Call_Name_kw->acQ,wpAny_seqItems->acS,wpAny_passesOwn->acX,setField->ac5,wpAny_dictEntries->ac6,swapsWithSole->ac9,swappedStores->ada,behindInMarks->adb,wpAny_isInstance->adi,wpAny_typeOf->adl,Keyword->adm,wpAny_dictEpoch->adt,standAt->adx,holding->ady,wpAny_loadPart_at->adz,keywordEach->adD,wpAny_setField->adE,codeAny_call_builtin->adG,codeAny_mono->adK,wpAny_comprehension_free->adX,ReadsAll->adY,wpAny_execs_nil->ad3,letOwnedTupleGo->ad4,assign->ad8,call_meets->aea,sliceBounds->aeg,wpAny_Call_method0_late->aeh,codeAny->ael,wpAny_forIn_list->aeG,NameKind->aeS,wpAny_updateSeq_pair->aeU,IsPair->ae6,wpAny_loadPart'->ae8,codeAny_builtin->afa,evalArgs_none->afd,Operator->afg,pyIter->afi,backToKw->afk,wpAny_newTuple->afp,isInstance->afq,isSubtype_stop->afr,tupleKind_room_in1->afu,wpAny_fieldsOf->afv,wpAny_binaryOp_repeat_ref->afy,wpAny_sequenceKey->afB,wpAny_letGo->afE,valueAt->afF,excClassObj->afI,wpAny_pyIter_slot->afK,wpAny_onRaise->afL,IsItemIterOut->afO,PassesOwn->afV,IntMulOk->afW,noFill_tuple_add->afY,setFlight->af6,wpAny_call->agc,concat_meets->age,IsPart->agf,typeIs_int->agh,typeOf->agi,wpAny_Call_method_late->agj,wpAny_Assign_Subscript->agn,wpAny_specialOf->agx,wpAny_updateSeq->agz,exec_Assign_Name_used->agA,wpAny_notOrdered_dict->agE,compEnvC->agI,wpAny_loadPart->agQ,tupleKind->agW,getItem->agX,callerA->agZ,relabel->ag0,onTheHeap->ag1,seq_tuple_add->aha,plainId_quiet->ahd,setItem->ahs,BindsTo->ahu,seqIndex_neg->ahv,call_meetsIn->ahz,noteFrame->ahL,seqSlot_of->ahR,specialOf->ahS,call->ah9
open List renaming length_map->gE,getElem?_eq_getElem->iO,getElem?_eq_some_iff->DL,mem_of_getElem?->GE,getElem?_map->aaa,mem_cons_self->aac,mem_cons_of_mem->aad,take_length->aae,mem_singleton->aah,replicate->aap,mem_cons->aaq,getD_eq_getElem?_getD->aas,length_append->aat,mem_map->aau,size_toArray->aay,getElem?_set_ne->aaz,range->aaB,map_cons->aaD,map_append->aaE,length_take->aaG,getElem?_append_left->aaH,length_cons->aaI,getElem?_set_self->aaM,map_map->aaN,append_nil->aaO,getElem?_append_right->aaS,getElem?_take->aaT,take_add_one->aaX,mem_append->aa4,length_set->aba,not_mem_nil->abf,length_range->abg,mem_append_right->abh,eq_nil_of_length_eq_zero->abj,nodup_cons->abk,getElem_mem->abl,mem_iff_getElem->abm,pairwise_iff_getElem->abK,all_eq_true->abV,mem_of_mem_take->abW,ext_getElem?->ab0,take_succ->ab2,length_replicate->ab8,lookup_cons->acb,Nodup->ach,getElem?_zipWith_eq_some->acs,append_assoc->act,getElem?_range->acB,sum_cons->acJ,all_cons->acL,foldl_cons->acY,range_succ->ac2,mem_flatMap->adf,nodup_nil->adh,length_zipIdx->adq,foldl_append->adA,mem_append_left->adB,getElem?_of_mem->adJ,all_map->adM,replicate_succ->adP,flatMap_append->adQ,getElem_set_ne->adR,forIn_cons->ad5,sum_append->ad6,set_eq_take_append_cons_drop->aek,map_nil->aer,zipWith->aex,pairwise_map->aey,length_filter_le->aeC,length_drop->aeF,filter_cons->aeM,lookup->aeR,length->aeT,map_id->aeW,nil_append->ae3,length_nil->ae9,filterMap_cons->afc,pairwise_cons->afl,map_replicate->aft,mem_or_eq_of_mem_set->afz,nodup_append->afC,any_cons->afM,eq_of_mem_replicate->afS,getElem?_replicate->afX,getElem_map->af8,pairwise_singleton->af9,any_eq_true->aga,of_mem_zip->agv,getElem_set_self->agB,contains_iff_mem->agG,getElem?_mapIdx->agN,getElem?_zipIdx->agS,getElem_zipIdx->ag5,map_eq_nil_iff->ag8,filter_append->ahr,ext_getElem->ahO,zipIdx_cons->ahQ,range'->ahV,foldl->ah8
open PySem.Heap renaming get?_push_of_some->AD,lt_size->aab,get?_push_size->aai,get?_update_other->aaV,get?_update_self->abi,SameBut->abo,size_push->abq,get?_none_of_le->aco,size_update->adL,get?_update_ne->adT,get?_push_cases->aeV,ExtBut->afD,get?_push_at->afJ,MadeExcOf->agR
open Nat renaming le_refl->Ge,lt_of_lt_of_le->aak,le_trans->aao,lt_of_le_of_lt->aax,ne_of_lt->aaK,le_of_lt->aa7,ne_of_gt->aa8,lt_trans->abc,zero_le->abv,gcd_pos_of_pos_right->abz,mul_le_mul->abG,lt_succ_self->abI,mul_comm->abU,mul_assoc->abX,dvd_trans->abY,le_add_right->ace,dvd_mul_left->acN,zero_add->ac3,mul_le_mul_right->ac4,gcd_dvd_right->ac7,lt_irrefl->ac8,zero_ne_add_one->ade,div_le_self->adr,pow_le_pow_right->adF,mul_pos->adI,lt_or_gt_of_ne->aeb,div_mul_cancel->aed,lt_succ_of_lt->aep,le_of_ble_eq_true->aeA,min_le_right->aeE,gcd_dvd_left->aeL,add_assoc->aeP,Coprime->ae0,le_max_left->ae5,le_of_dvd->afQ,gcd_le_right->af3,succ_mul->agl,gcd_comm->agt,pos_of_dvd_of_pos->agF,le_succ->agJ,log2_lt->agM,add_le_add_right->agT,mul_lt_mul_right->agU,add_left_cancel->ag7,mod_lt->ahl,mul_right_comm->ahp,gcd_zero_right->ahq,succ_pos->ahC,dvd_mul_right->ahF,dvd_refl->ahG,mul_one->ahW
open PySem.W renaming Frag->Io,nsIn->aal,mg_none_of->aaY,findIn->abt,keepIn->abP,fnOf->acG,kia_one->ac0,InstAt->adk,mroIn->adv,notCls->adH,mg_of->adZ,codeIn->aem,any_some->aeI,Looks->aeQ,looks_findIn->aeX,looks_clsIn->afe,callWith_K->afj,kitOne->afm,clsIn->afN,cellsFrom_some->agd,findObj->agy,looks_mroIn->ag4,excIn->ahc,hasDictIn->ahA,specialIn->ahB,handedIn->ahJ,OpenLaw->ahY,takesIn->ahZ,lookIn->ah7,exmOne->aic,kitAny->aid,WalkO->aie
open Option.some renaming inj->aam,injEq->ahw
open Bool renaming false_ne_true->aan,and_eq_true->aa1,eq_iff_iff->ab6,false_eq_true->adn,or_true->aet,beq_eq_decide_eq->aez,and_eq_true_iff->aeY,not_eq_true->af4,or_eq_true->agw,or_eq_false_iff->agK,and_true->ahf
open PySem.PyData renaming eqv->aar,depthAll->aaw,canLayAll0->aa9,hasDict_of_canLay->abe,int->abC,hasDictAll_of_canLayAll->acd,hasDictAll->acu,hasDict->acR,shownAll->ac1,eqvAll->adu,tuple->aes,shown->agk,str->ags,showableAll->ahj,noDict_hsm->ahx,canLay0->aia
open PySem.PassesOwn renaming never->aaF,leaving->ahI
open Int renaming natCast_mul->aaJ,toNat_natCast->aaW,natAbs_natCast->abx,ofNat_dvd_left->acg,mul_pos->acr,mul_left_comm->acv,eq_ofNat_of_zero_le->acw,natCast_add->acx,eq_of_mul_eq_mul_right->acT,mul_assoc->adc,mul_comm->adN,mul_ediv_cancel_left->ad2,emod_lt_of_pos->aee,natAbs_mul->aeu,natAbs_ediv_of_dvd->aev,mul_nonneg->aew,nonneg_of_mul_nonneg_left->ae1,emod_nonneg->afb,mul_one->afA,ofNat_lt->agu,natAbs_sub_le->ahD,le_trans->ahE,zero_mul->ahH,one_mul->ahX
open PySem.Value renaming ref->aaZ,none->abM,builtin->acn,type->ad7,bool->ah6,int->aih,str->aii
open PySem.F renaming slot_dict_itemiterator_next->aa6,slot_list_append->abA,type_list_append->abB,args_dict_itemiterator_next_1->ab7,entry_dict_itemiterator_next->acf,slot_tuple_index->acm,slot_dict_items_iter->acz,slot_dict_itemiterator_next->acM,type_tuple_index->add,attr_ValueError->adj,slot_enumerate_next->adw,plain_extend_loop->adU,args_tuple_add_2->adV,slot_dict_itemiterator_iter->ad1,entry_tuple_add->aef,plainAttrs_dict->aei,slot_dict_items->aej,slot_tuple_add->aen,slot_tuple_mul->aeq,slot_dict_get->aeB,args_dict_items_iter_1->aeK,entry_dict_items_iter->aeZ,slot_zip_next->ae7,slot_tuple_iterator_next->afo,slot_tuple_hash->afH,slot_list_extend->afT,type_list_extend->afU,plainAttrs_list->afZ,slot_list_index->af0,args_enumerate_next_1->af1,slot_tuple_rmul->af2,args_dict_get_3->af5,type_dict_items->af7,entry_enumerate_next->agm,entry_dict_get->ago,slot_int_rmul->agC,entry_bexc_ga->agD,args_bexc_ga->agP,entry_extend_loop->ag6
open Ne renaming symm->abb
open PyProof.Rows renaming slot_tuple_getitem->abn,callWith_type1->acF,envOfC->ad9,callWith_builtin1->aeD,seqObj->aeH,AllBare->aeN,assignInOrder_cons->afh,subscriptTail_builtinR->agg,sortedHeap->agq,IntsAre->agY,tupleItemsOf_->ahb,listUpdate_at->ahe
open Array renaming getElem?_eq_some_iff->abr,length_toList->acA,getElem?_toList->acV,getElem?_eq_getElem->acW,getElem?_eq_none->agp,append_assoc->ahg,find?_toList->ahh,forIn_toList->ahm,size_push->ah0
open PySem.Builtin.Dict_items renaming ownsTuple->aby,ownedTupleIsFree->abT,pairFromOwner->ab1,ownedTupleFields->ad0,isOneOf->afw
open PySem.Obj renaming data_mapFields->abF,mapSeq->aca,mapFields->acl,isFreed_of_fields->acU,cls_mapFields->ahy
open PySem.Builtin.Tuple renaming tupleHashOf->abJ,tupleExact->abQ,tupleItemsOf->adC,tupleIsExact->afn,tupleTooMany->afs
open PySem.Builtin.SmallTypes renaming nextOf->abL,ownedTupleIsFree->abR,ownedTupleHandOut->acD
open False renaming elim->abO
open Option renaming isSome_iff_exists->acj,map_some->acZ,isSome_map->afG,map_eq_some_iff->agr,getD_none->ahK,bind_some->ahU
open PySem.Str renaming ofString->ack,empty->ahN
open PySem.Calls renaming callWith_builtin->acH,Name_function_global->aff,evalArgs_plain->agH,spliced_cons->ahi,spliced_nil->aht
open PySem.Builtin.List renaming listLengthHint->acI,listTooLong->adW,listSameRef->afR
open Or renaming inr->adg,inl->agL
open PySem.SeqAt renaming canLay_of_shaped->ado,readOf->adp,shaped->aeo,EqAt->agb,readsAll_map->ahk,items_eqAt->ahP,eqAt_reads->ahT
open PySem.Builtin.Slice renaming slicePlaces->adO,sliceAdjust->afx
open True renaming intro->aec
open PySem.Builtin.ObjectAttr renaming storeInDict->aeJ
open PySem.NameKind renaming free->aeO,cell->aif
open PySem.Around renaming under_plainId->ae2
open ForInStep renaming yield->ae4
open PySem.Shared renaming TypeIs->afP
open PySem.Heap.SameBut renaming update->ag2
open PySem.EntryCells renaming newEntry->ag3
open PySem.Paired renaming length->ag9
open PySem.Code renaming quiet_builtin->ahn
open PySem.W.Looks renaming here->aho
open And renaming intro->ahM
open Sum renaming inl->ah1,inr->ah2
open Int.ofNat renaming inj->aig
namespace L2
open PySem PySem.Spec PyProof.Rows
variable{us:List oR}{H:Hp}{C a b:Addr}{o:HO}{h:aaR}{P:aaA}{w:World}{g':Array GenState}{i j t':Nat}{ch fp:List Addr}{N ps:List Str}{M:Model}{A:aa2}{E Q:oR->Ad->Prop}{v:V}{u:oR}{X:Cx}{c e tg:Expr}{pos:Pos}{pins:List (Addr×Obj)}{σ:St}{K:Io}{es:List Expr}{te:TE}{op:CmpOp}{body:List Stmt}{f:oR->oR->Sem oR}{r:R2}{g:Int->Int->Int}{kw:List (Str×oR)}{mg:Str->Option oR}{outer:List Env}{scope:Scope}
abbrev Key:=Sum Int Str
def vZ:Key->oR->Bool
 | .inl k,v=>Value.isInt k v
 | .inr x,v=>Value.isStrOf x v
def keyH(w:World):Key->Int
 | .inl k=>hashInt k
 | .inr x=>hashStr w x
theorem bF:∀{k:Key}{v:oR},vZ k v=true->(∃i t,k=ah1 i/\v=aih i t)\/(∃x t,k=ah2 x/\v=aii x t)
 | .inl i,v,h=>by
  let⟨t,e⟩:=oR.isInt_shape h;exact .inl ⟨i,t,rfl,e⟩
 | .inr x,v,h=>by
  let⟨t,e⟩:=oR.isStrOf_shape h;exact .inr ⟨x,t,rfl,e⟩
def Cr(i:Int)(t:Tok):vZ (.inl i) (.int i t)=true:=by simp[vZ,Value.isInt]
def yZ(x:Str)(t:Tok):vZ (.inr x) (.str x t)=true:=by simp[vZ,Value.isStrOf]
theorem QI(a b:Int):decide ((ah1 a:Key)=ah1 b)=(a==b):=by
 by_cases e:a=b
 .subst e;simp
 .simp_all
def Ud(a b:Str):decide ((ah2 a:Key)=ah2 b)=decide (a=b):=by simp
def Uc(a:Int)(b:Str):decide ((ah1 a:Key)=ah2 b)=false:=rfl
def Ue(a:Str)(b:Int):decide ((ah2 a:Key)=ah1 b)=false:=rfl
def cC(prog:aaA)(w:World):PySem.KeyKind prog w Key where
 is:=vZ
 hash:=keyH w
 inj:=λv a b ha hb=>by
  rcases bF ha with⟨i,t,rfl,rfl⟩|⟨x,t,rfl,rfl⟩
  .rcases bF hb with⟨j,u,rfl,e⟩|⟨y,u,rfl,e⟩
   .injection e with e1 _;rw[e1]
   .exact nomatch e
  .rcases bF hb with⟨j,u,rfl,e⟩|⟨y,u,rfl,e⟩
   .exact nomatch e
   .injection e with e1 _;rw[e1]
 byValue:=λk v h=>by
  rcases bF h with⟨i,t,rfl,rfl⟩|⟨x,t,rfl,rfl⟩<;>rfl
 pyHash:=λd h=>by
  rcases bF d with⟨i,t,rfl,rfl⟩|⟨x,t,rfl,rfl⟩
  .exact wpAny_pyHash_int h
  .exact wpAny_pyHash_str h
 eqBool:=λl d h=>by
  rcases bF l with⟨i,t,rfl,rfl⟩|⟨x,t,rfl,rfl⟩
  .rcases bF d with⟨j,u,rfl,rfl⟩|⟨y,u,rfl,rfl⟩
   .rw[QI]at h;exact wpAny_eqBool_int h
   .rw[Uc]at h;exact agb.int_str i t y u _ _ _ _ h
  .rcases bF d with⟨j,u,rfl,rfl⟩|⟨y,u,rfl,rfl⟩
   .rw[Ue]at h;exact agb.str_int x t j u _ _ _ _ h
   .rw[Ud]at h;exact wpAny_eqBool_str h
 «strs»:=λk x t v h=>by
  rcases bF h with⟨i,u,rfl,e⟩|⟨y,u,rfl,e⟩
  .exact nomatch e
  .injection e with e1 _
   subst e1
   cases v<;>rfl
def sw(prog:aaA)(w:World)(i:Int)(t:Tok):(cC prog w).is (.inl i) (.int i t)=true:=Cr i t
def tW(prog:aaA)(w:World)(x:Str)(t:Tok):(cC prog w).is (.inr x) (.str x t)=true:=yZ x t
inductive V where
 |non|bl (b:Bool)|int (i:Int)|str (x:Str)|byt (b:Array UInt8)|flt (b:UInt64)|ref (a:Addr)|ty (n:String)
 deriving DecidableEq
def RelV:V->oR->Prop
 | .non,u=>u=abM
 | .bl b,u=>u=ah6 b
 | .int i,u=>∃t,u=aih i t
 | .str x,u=>∃t,u=aii x t
 | .byt b,u=>∃t,u=oR.bytes b t
 | .flt b,u=>∃t,u=oR.float b t
 | .ref a,u=>u=aaZ a
 | .ty n,u=>u=ad7 n
abbrev Vals:List V->List oR->Prop:=abN RelV
def Vals.length{xs:List V}(r:Vals xs us):xs.length=us.length:=ag9 r
theorem Vals.get:∀{xs:List V}{us:List oR}{i:Nat}{x:V},Vals xs us->xs[i]?=some x->∃u,us[i]?=some u/\RelV x u
 |_,_,_,_,.nil,e=>by simp at e
 |_,_,0,_,.cons r _,e=>by simp at e;subst e;exact⟨_,rfl,r⟩
 |_,_,i+1,x,.cons _ t,e=>by
  let⟨u,k,d⟩:=Vals.get t ‹_›;exact⟨u,by simpa using k,d⟩
theorem Vals.set{x:V}{u:oR}(r:RelV x u):∀{xs:List V}{us:List oR} (i:Nat),Vals xs us->Vals (xs.set i x) (us.set i u)
 |_,_,_,.nil=>.nil
 |_,_,0,.cons _ t=>.cons r t
 |_,_,i+1,.cons q t=>.cons q (Vals.set r i t)
theorem Vals.append:∀{xs ys:List V}{us d:List oR},Vals xs us->Vals ys d->Vals (xs++ys) (us++d)
 |_,_,_,_,.nil,s=>s
 |_,_,_,_,.cons r t,s=>.cons r (Vals.append t s)
theorem Vals.take:∀{xs:List V}{us:List oR} (n:Nat),Vals xs us->Vals (xs.take n) (us.take n)
 |_,_,0,_=>.nil
 |_,_,_+1,.nil=>.nil
 |_,_,n+1,.cons r t=>.cons r (Vals.take n t)
theorem Vals.drop:∀{xs:List V}{us:List oR} (n:Nat),Vals xs us->Vals (xs.drop n) (us.drop n)
 |_,_,0,r=>r
 |_,_,_+1,.nil=>.nil
 |_,_,n+1,.cons _ t=>Vals.drop n t
theorem Vals.none_of:∀{xs:List V}{us:List oR}{i:Nat},Vals xs us->xs[i]?=none->us[i]?=none:=λ{xs us i} r e=>by
 have d:=r.length
 simp_all
def RelO:Option V->Option oR->Prop
 |some v,some u=>RelV v u
 |none,none=>True
 |_,_=>False
def KV{d:Type}:List (d×V)->List (d×oR)->Prop:=abN λ(p:d×V) (q:d×oR)=>p.1=q.1/\RelV p.2 q.2
def kV:Key->V
 | .inl i=>.int i
 | .inr x=>.str x
inductive HO where
 |lst (xs:List V)
 |tup (xs:List V)
 |dK (kvs:List (Key×V))|dT (kvs:List (List Key×V))
 |set (S:Int->Bool) (n:Nat)
 |ins (C dx:Addr) (fs:List (Str×V))
 |own (x:Addr)
 |xd (fs:List (Str×V))
 |met (f x:Addr)
 |rng (lo hi:Int)
 |frz (o:Obj) (u:HO)
 |tbl (ps:Array oR)
 |ext (φ:aaR->Prop)
abbrev Hp:=Addr->Option HO
def upd(H:Hp)(a:Addr)(o:HO):Hp:=λb=>if b=a then some o else H b
def ak:upd H a o a=some o:=by unfold upd;rw[if_pos rfl]
def ag(h:b≠a):upd H a o b=H b:=by unfold upd;rw[if_neg h]
theorem jf{u:HO}(h:H a=some o)(h':H b=some u)(d:o≠u):a≠b:=by
 intro e;subst e;rw[h]at h';exact d (aam h')
theorem bg(h:H a=some o)(h':H b=none):a≠b:=by grind
def PlainT(h:aaR)(a:Addr)(items:Array oR):Prop:=∃o,h.get? a=some o/\o.cls = .type "tuple"/\o.dict=none/\∃n,o.data = .seq items n
theorem PlainT.tup{items:Array oR}(x:PlainT h a items):IsTup h a items:=let ⟨o,e,c,_,d⟩:=x;⟨o,e,c,d⟩
def PlainT.new(h:aaR)(items:Array oR):PlainT (h.push {cls:=.type "tuple",data:=.seq items}) h.objs.size items:=⟨_,aai _ rfl,rfl,rfl,_,rfl⟩
section
variable (P:aaA) (w:World)
def ObjOk(H:Hp)(h:aaR)(a:Addr):HO->Prop
 | .lst l=>l.length≤aaf/\∃(d:List oR) (n:Nat),Vals l d/\h.get? a=some {cls:=.type "list",data:=.seq d.toArray n}
 | .tup l=>l.length≤aaf/\∃d:List oR,Vals l d/\PlainT h a d.toArray
 | .dK k=>k.length≤aaf/\(a==abD)=false/\∃vs,KV k vs/\h.DictOf (cC P w) a vs
 | .dT k=>k.length≤aaf/\(a==abD)=false/\∃l:List (List Key×Addr×oR),
   abN (λ(p:List Key×V) (q:List Key×Addr×oR)=>p.1=q.1/\H q.2.1=some (.tup (p.1.map kV))/\RelV p.2 q.2.2) k l/\
   ∃o es D,h.get? a=some o/\o.ExactDict/\o.data = .dict es D/\es.toList=l.map (entryOfKey (agW (cC P w)))/\(l.map (·.1)).Nodup
 | .set S n=>h.SetOf (intKind P w) a S n
 | .ins C dx fs=>H dx=some (.own a)/\fs.length≤1000/\dx≠a/\h.get? a=some (PySem.W.instObj C dx)/\
   ∃m,h.Ns1 dx m/\(∀f,RelO (fs.lookup f) (m f))/\PySem.Within m (fs.map (·.1))
 | .own _=>∃o,h.get? a=some o
 | .xd fs=>∃m,h.Ns1 a m/\∀f,RelO (fs.lookup f) (m f)
 | .rng B F=>∃t u v,h.get? a=some {cls:=.type "range",data:=.fields #[.int B t,.int F u,.int 1 v]}
 | .frz o u=>h.get? a=some o/\ObjOk H h a u
 | .tbl ps=>h.get? a=some {cls:=.none,data:=.fields ps}
 | .met f x=>h.get? a=some (PySem.W.methodObj (.ref f) (.ref x))
 | .ext s=>s h/\(∃o,h.get? a=some o)/\∀z y:aaR,s z->(∀o,z.get? a=some o->y.get? a=some o)->s y
def HOk(H:Hp)(h:aaR):Prop:=∀a o,H a=some o->ObjOk P w H h a o
end
section
variable {P:aaA}{w:World}{H g:Hp}{h h':aaR}{a:Addr}{o:HO}
theorem ObjOk.lt(x:ObjOk P w H h a o):a<h.objs.size:=by
 cases o with
 |lst d=>let⟨_,_,_,_,e⟩:=x;exact aab e
 |tup d=>let⟨_,_,_,p⟩:=x;exact p.tup.lt
 |dK k=>let⟨_,_,_,_,o,_,_,e,_⟩:=x;exact aab e
 |dT k=>let⟨_,_,_,_,o,_,_,e,_⟩:=x;exact aab e
 |set S n=>let⟨o,_,_,_,e,_⟩:=x;exact aab e
 |ins C dx fs=>let⟨_,_,_,e,_⟩:=x;exact aab e
 |own y=>let⟨_,e⟩:=x;exact aab e
 |xd fs=>let⟨_,⟨_,_,_,e,_⟩,_⟩:=x;exact aab e
 |rng l q=>let⟨_,_,_,e⟩:=x;exact aab e
 |frz ob u=>let⟨e,_⟩:=x;exact aab e
 |tbl ps=>exact aab (x)
 |met f y=>exact aab (x)
 |ext m=>let⟨_,⟨_,e⟩,_⟩:=x;exact aab e
theorem Paired.mapP{k β:Type}{F G:k->β->Prop}:∀{l:List k}{d:List β},abN F l d->(∀a b,F a b->G a b)->abN G l d
 |_,_,.nil,_=>.nil
 |_,_,.cons r t,f=>.cons (f _ _ r) (Paired.mapP t f)
theorem ObjOk.stay(x:ObjOk P w H h a o)(k:∀b u,(b=a\/H b=some (.own a))->h.get? b=some u->h'.get? b=some u)
  (ho:∀b,H b=some (.own a)->g b=some (.own a)) (F:∀b xs,H b=some (.tup xs)->g b=some (.tup xs)):ObjOk P w g h' a o:=by
 induction o with
 |lst xs=>let⟨z,m,n,r,e⟩:=x;exact⟨z,m,n,r,k _ _ (.inl rfl) e⟩
 |tup xs=>let⟨z,m,r,ob,e,c⟩:=x;exact⟨z,m,r,ob,k _ _ (.inl rfl) e,c⟩
 |dK D=>let⟨z,y,vs,r,ob,es,l,e,c⟩:=x;exact⟨z,y,vs,r,ob,es,l,k _ _ (.inl rfl) e,c⟩
 |dT D=>
  let⟨z,y,xs,r,ob,es,l,e,c⟩:=x;exact⟨z,y,xs,Paired.mapP r λp q z=>⟨z.1,F _ _ z.2.1,z.2.2⟩,ob,es,l,k _ _ (.inl rfl) e,c⟩
 |set S n=>let⟨ob,es,l,t,e,c⟩:=x;exact⟨ob,es,l,t,k _ _ (.inl rfl) e,c⟩
 |ins C dx fs=>
  let⟨d,z,ne,e,B,⟨s,es,l,I,c⟩,r⟩:=x;exact⟨ho _ d,z,ne,k _ _ (.inl rfl) e,B,⟨s,es,l,k _ _ (.inr d) I,c⟩,r⟩
 |own y=>let⟨ob,e⟩:=x;exact⟨ob,k _ _ (.inl rfl) e⟩
 |xd fs=>let⟨B,⟨s,es,l,e,c⟩,r⟩:=x;exact⟨B,⟨s,es,l,k _ _ (.inl rfl) e,c⟩,r⟩
 |rng L J=>let⟨t,u,v,e⟩:=x;exact⟨t,u,v,k _ _ (.inl rfl) e⟩
 |frz ob u G=>let⟨e,q⟩:=x;exact⟨k _ _ (.inl rfl) e,G q⟩
 |tbl ps=>
  have e:h.get? a=some {cls:=.none,data:=.fields ps}:=x;exact k a _ (.inl rfl) e
 |met f y=>
  have e:=x;exact k a _ (.inl rfl) e
 |ext O=>let⟨p,⟨o,e⟩,st⟩:=x;exact⟨st _ _ p λo q=>k _ _ (.inl rfl) q,⟨o,k _ _ (.inl rfl) e⟩,st⟩
def HOk.lt(x:HOk P w H h)(e:H a=some o):a<h.objs.size:=(x a o e).lt
theorem HOk.fresh(x:HOk P w H h)(e:h.objs.size≤a):H a=none:=by
 cases q:H a with
 |none=>rfl
 |some u=>exact absurd (aak (x.lt q) e) (ac8 _)
theorem HOk.kept(x:HOk P w H h)(k:∀b u,h.get? b=some u->h'.get? b=some u):HOk P w H h':=λa o e=>
 (x a o e).stay (λb u _ q=>k b u q) (λ_ q=>q) λ_ _ q=>q
theorem HOk.laid(x:HOk P w H h)(k:∀b u,h.get? b=some u->h'.get? b=some u)(hp:h.objs.size≤a)(new:ObjOk P w (upd H a o) h' a o):HOk P w (upd H a o) h':=λb u e=>by
 have d:=x.fresh hp
 by_cases hb:b=a
 .subst hb;rw[ak]at e;grind
 .rw[ag hb]at e;exact(x b u e).stay (λc v _ q=>k c v q) (λc q=>by rw[ag (bg q d)];exact q) λc l q=>by rw[ag (bg q d)];exact q
end
def Rd(H:Hp)(a:Addr)(u:HO):Prop:=H a=some u\/∃o,H a=some (.frz o u)
theorem Rd.ok{u:HO}(r:Rd H a u)(x:HOk P w H h):ObjOk P w H h a u:=by
 rcases r with r|⟨o,r⟩
 .exact x a u r
 .obtain⟨_,q⟩:=x a _ r;exact q
def Mut:Option HO->Prop
 |some (.lst _)=>True
 |some (.dK _)=>True
 |some (.dT _)=>True
 |some (.set _ _)=>True
 |some (.ins _ _ _)=>True
 |some (.ext _)=>True
 |_=>False
section
variable {P:aaA}{w:World}{H:Hp}{h h':aaR}{x e:Addr}{o:HO}
theorem HOk.write(ok:HOk P w H h)(p:Mut (H x))(t:e=x\/H e=some (.own x))(k:∀b u,b≠e->h.get? b=some u->h'.get? b=some u)(s:∃u,h'.get? e=some u)
  (new:ObjOk P w (upd H x o) h' x o):HOk P w (upd H x o) h':=λb u q=>by
 have n:∀c y,H c=some (.own y)->c≠x:=λc y r z=>by subst z;rw[r]at p;exact p
 have l:∀c m,H c=some (.tup m)->c≠x:=λc m r z=>by subst z;rw[r]at p;exact p
 by_cases hb:b=x
 .subst hb;rw[ak]at q;grind
 .rw[ag hb]at q
  by_cases d:b=e
  .have q':H b=some (.own x):=by
    rcases t with z|z
    .exact absurd (d.trans z) hb
    .rw[d];exact z
   rw[q]at q';cases q';let⟨v,B⟩:=s;exact⟨v,by rw[d];exact B⟩
  .refine(ok b u q).stay (λc v D r=>k c v ?_ r) (λc r=>by rw[ag (n c b r)];exact r) λc m r=>by rw[ag (l c m r)];exact r
   grind
end
structure Un(fs ex:List Addr)(H H':Hp)(h h':aaR):Prop where
 keep:∀b o,h.get? b=some o->H b=none->b∉fs->b∉ex->h'.get? b=some o
 slot:∀b o,h.get? b=some o->H b=none->b∈fs->b∉ex->∃sl,h'.get? b=some {o with slots:=sl}
 free:∀b o,h.get? b=some o->H b=none->b∉ex->H' b=none
 there:∀b o,h.get? b=some o->b∉ex->∃o',h'.get? b=some o'
 tups:∀b xs,H b=some (.tup xs)->H' b=some (.tup xs)
 frzs:∀b o u,H b=some (.frz o u)->H' b=some (.frz o u)
 tbls:∀b ps,H b=some (.tbl ps)->∃more,H' b=some (.tbl (ps++more))
section
variable {fs f ex d:List Addr}{H g i:Hp}{h c j h':aaR}{a x e:Addr}{o:HO}
def Un.any(u:Un fs ex H g h c){ob:Obj}(q:h.get? b=some ob)(n:H b=none)(k:b∉ex):∃s,c.get? b=some {ob with slots:=s}:=by
 by_cases hb:b∈fs
 .exact u.slot b ob q n hb k
 .exact⟨ob.slots,u.keep b ob q n hb k⟩
theorem Un.kept(k:∀b u,h.get? b=some u->h'.get? b=some u):Un fs ex H H h h':=
 ⟨λb ob q _ _ _=>k b ob q,λb ob q _ _ _=>⟨ob.slots,k b ob q⟩,λ_ _ _ n _=>n,λb ob q _=>⟨ob,k b ob q⟩,λ_ _ q=>q,λ_ _ _ q=>q,λ_ ps q=>⟨#[],by rw[q];simp⟩⟩
def Un.refl:Un fs ex H H h h:=Un.kept λ_ _ q=>q
theorem Un.laid(k:∀b u,h.get? b=some u->h'.get? b=some u)(hp:h.objs.size≤a)(l:H a=none):Un fs ex H (upd H a o) h h' where
 keep:=λb u q _ _ _=>k b u q
 slot:=λb u q _ _ _=>⟨u.slots,k b u q⟩
 free:=λb u q n _=>by rw[ag (aaK (aak (aab q) hp))];exact n
 there:=λb u q _=>⟨u,k b u q⟩
 tups:=λb m q=>by rw[ag (bg q l)];exact q
 frzs:=λb u m q=>by rw[ag (bg q l)];exact q
 tbls:=λb ps q=>⟨#[],by rw[ag (bg q l),q];simp⟩
theorem Un.write(p:Mut (H x))(B:e=x\/H e=some (.own x))(k:∀b u,b≠e->h.get? b=some u->h'.get? b=some u)(y:∃u,h'.get? e=some u):Un fs ex H (upd H x o) h h':=by
 have s:∀b,H b=none->b≠x:=λb n z=>by subst z;rw[n]at p;exact p
 have hb:∀b,H b=none->b≠e:=λb n z=>by
  simp_all
 have m:∀b u,H b=some u->¬Mut (some u)->b≠x:=λb u q D z=>by subst z;simp_all
 refine⟨λb u q n _ _=>k b u (hb b n) q,λb u q n _ _=>⟨u.slots,k b u (hb b n) q⟩,λb u q n _=>by rw[ag (s b n)];exact n,λb u q _=>?_,
  λb t q=>by rw[ag (m b _ q λz=>z)];exact q,λb u t q=>by rw[ag (m b _ q λz=>z)];exact q,λb ps q=>⟨#[],by rw[ag (m b _ q λz=>z),q];simp⟩⟩
 by_cases l:b=e
 .simp_all
 .exact⟨u,k b u l q⟩
end
def trk(h:aaR)(H:Hp):List Addr:=(aaB h.objs.size).filter λa=>(H a).isSome
def hidT(h:aaR)(H:Hp):aaR:=PySem.W.hideAll h (trk h H)
def Ck(h:aaR)(H:Hp):(hidT h H).objs.size=h.objs.size:=PySem.W.hideAll_size _ _
def FU{o:Obj}(e:h.get? b=some o)(n:H b=none):(hidT h H).get? b=some o:=
 PySem.W.hideAll_get _ e λd=>by
  have q:=(List.mem_filter.mp d).2;rw[n]at q;simp at q
theorem Jj{o:Obj}(e:(hidT h H).get? b=some o):h.get? b=some o/\H b=none:=by
 have d:=PySem.W.of_hideAll _ e;refine⟨d,?_⟩
 cases q:H b with
 |none=>rfl
 |some x=>
  have k:b∈trk h H:=List.mem_filter.mpr ⟨List.mem_range.mpr (aab d),by simp[q]⟩;have z:(hidT h H).get? b=none:=PySem.W.hideAll_none _ k
  grind
structure Mod(K:Io)(mg:Str->Option oR)(base:aaR):Prop where
 kin:K.In base
 glob:base.Ns aag mg
 blt:∃mb,base.Ns builtinsNs mb/\∀x:Str,x ≠ "__name__" -> mb x=aaL x
 nolimit:base.NoLimit
 sys:∃m,base.Ns abD m
inductive Ao where
 |L (a:Addr)|T (t:List (List Nat×Addr))
structure EB where
 np:Nat
 be:List Ao
 H:Hp
structure Cx where
 prog:aaA
 w:World
 K:Io
 mg:Str->Option oR
 base:aaR
 A:aa2
 N:List Str
 s₀:Ad
 H₀:Hp
 env:Env
 outer:List Env
 stack:List Env
 ex:List Addr
 fn:Str->Bool
 calm:Bool
 pn:List (Addr×Obj)
 xe:oR->Ad->Prop
 eb:EB:=⟨0,[],λ_=>none⟩
def frs(l:List Env):List Addr:=l.filterMap (·.frame)
abbrev Cx.fs(X:Cx):List Addr:=frs X.outer
def Vis(sc:Scope)(x:Str):Prop:=sc.names.lookup x=some .local\/sc.names.lookup x=some .cell\/sc.names.lookup x=some .free
def Loc(sc:Scope)(x:Str):Prop:=sc.names.lookup x=some .local\/sc.names.lookup x=some .cell
def Look(env:Env)(h:aaR)(m:Str->Option oR)(x:Str)(u:oR):Prop:=
 (env.kindOf x=some .local/\m x=some u)\/((env.kindOf x=some .cell\/env.kindOf x=some .free)/\∃c,env.cells.lookup x=some c/\h.IsCell c (some u))
structure Cx.Ok(X:Cx):Prop where
 mod:Mod X.K X.mg X.base
 kind:X.env.scope.kind = .function
 glob:X.env.globals=aag
 blt:X.env.builtins=builtinsNs
 above:X.s₀.heap.objs.size≤X.env.locals
 inj:∀x y c,X.env.cells.lookup x=some c->X.env.cells.lookup y=some c->x=y
 has:∀x,(X.env.kindOf x=some .cell\/X.env.kindOf x=some .free)->∃c,X.env.cells.lookup x=some c
 cab:∀x c,X.fn x=true->X.env.cells.lookup x=some c->X.s₀.heap.objs.size≤c
 hd:X.calm=true->X.A.handled=none
 frames:X.A.frames=some X.stack
 stk:X.stack=X.outer\/(X.stack=X.env::X.outer/\X.env.frame=some X.env.locals)
 exf:∀b∈X.ex,b≠X.env.locals/\∀x c,X.env.cells.lookup x=some c->c≠b
 bs:∀b o,X.base.get? b=some o->X.s₀.heap.get? b=some o/\X.H₀ b=none
 bsz:X.base.objs.size≤X.s₀.heap.objs.size
 noex:∀b o,X.base.get? b=some o->b∉X.ex
 exfs:∀b∈X.ex,b∉X.fs
 funs:X.s₀.heap.FunFrames X.base X.outer
 frf:∀b∈X.fs,X.H₀ b=none
structure Inv(X:Cx)(pins:List (Addr×Obj))(σ:List (Option V))(H:Hp)(s:Ad):Prop where
 ok:X.Ok
 os:s.os=X.s₀.os
 bare:aeN s.gens
 base:Un X.fs X.ex X.H₀ H X.s₀.heap s.heap
 loc:∃m,s.heap.Ns X.env.locals m/\∀(i:Nat) (x:Str) (v:V),X.N[i]?=some x->σ[i]?=some (some v)->Vis X.env.scope x->∃u,RelV v u/\Look X.env s.heap m x u
 cell:∀x c,X.env.cells.lookup x=some c->∃v,s.heap.IsCell c v
 free:H X.env.locals=none
 freeC:∀x c,X.env.cells.lookup x=some c->H c=none
 pin:∀p∈X.pn++pins,s.heap.get? p.1=some p.2/\H p.1=none/\p.1≠X.env.locals/\p.1∉X.fs/\∀v,p.2.data≠.cell v
 hok:HOk X.prog X.w H s.heap
 len:σ.length=X.N.length
section
variable {X:Cx}{f:List (Addr×Obj)}{g:List (Option V)}{H w:Hp}{s:Ad}{h':aaR}
theorem Cx.Ok.nofr(ok:X.Ok){o:Obj}(e:X.base.get? b=some o):b∉X.fs:=λhb=>by
 have:=(ok.funs.mem hb).1
 grind
theorem Inv.bs(I:Inv X f g H s):∀b o,X.base.get? b=some o->s.heap.get? b=some o/\H b=none:=λb o e=>
 ⟨I.base.keep b o (I.ok.bs b o e).1 (I.ok.bs b o e).2 (I.ok.nofr e) (I.ok.noex b o e),I.base.free b o (I.ok.bs b o e).1 (I.ok.bs b o e).2 (I.ok.noex b o e)⟩
theorem Inv.bk(I:Inv X f g H s):∀b o,X.base.get? b=some o->s.heap.get? b=some o:=λb o e=>(I.bs b o e).1
def Inv.mod(I:Inv X f g H s):Mod X.K X.mg X.base:=I.ok.mod
def Inv.kIn(I:Inv X f g H s):X.K.In s.heap:=I.ok.mod.kin.keeps I.bk
def Inv.lt(I:Inv X f g H s):X.env.locals<s.heap.objs.size:=let ⟨_,hn,_⟩:=I.loc;hn.lt
def Inv.sz(I:Inv X f g H s):X.s₀.heap.objs.size≤s.heap.objs.size:=aao I.ok.above (aa7 I.lt)
theorem Inv.nofs(I:Inv X f g H s)(h:s.heap.objs.size≤a):a∉X.fs:=λhb=>by
 let⟨_,o,ho,_⟩:=I.ok.funs.mem hb;exact absurd (aak (aab ho) (aao I.sz h)) (ac8 _)
theorem Inv.cne(I:Inv X f g H s):∀x c,X.env.cells.lookup x=some c->c≠X.env.locals:=λx c e z=>by
 let⟨v,o,ho,hd⟩:=I.cell x c e;let⟨m,⟨n,es,l,k,d,_⟩,_⟩:=I.loc
 grind
theorem Inv.funs(I:Inv X f g H s):s.heap.FunFrames X.base X.outer:=by
 have all:∀l,(∀b∈frs l,b∈X.fs)->X.s₀.heap.FunFrames X.base l->s.heap.FunFrames X.base l:=by
  intro l
  induction l with
  |nil=>intro _ _;trivial
  |cons env r q=>
   intro hs p;let⟨m,⟨L,o,k,n,ho,hd⟩,hr⟩:=p;have d:=hs L (by unfold frs;rw[afc,k];exact aac);let⟨t,e⟩:=I.base.slot L o ho (I.ok.frf L d) d λz=>I.ok.exfs L z d;exact⟨m,⟨L,_,k,n,e,hd⟩,q (λb hb=>hs b (by unfold frs;rw[afc,k];exact aad _ hb)) hr⟩
 exact all X.outer (λ_ hb=>hb) I.ok.funs
theorem Inv.stack(I:Inv X f g H s):s.heap.FunFrames X.base X.stack:=by
 rcases I.ok.stk with e|⟨e,d⟩
 .rw[e];exact I.funs
 .rw[e];let⟨m,k,_⟩:=I.loc;refine .cons (by rw[I.ok.kind];decide) d k ?_ I.funs;exact aco (aao I.ok.bsz I.ok.above)
theorem Inv.stkSub(I:Inv X f g H s):∀b∈frs X.stack,b∈X.env.locals::X.fs:=λb hb=>by
 rcases I.ok.stk with e|⟨e,d⟩
 .rw[e]at hb;exact aad _ hb
 .rw[e]at hb;unfold frs at hb;rw[afc,d]at hb;exact hb
theorem Inv.stkFree(I:Inv X f g H s):∀b∈frs X.stack,H b=none:=λb hb=>by
 rcases aaq.mp (I.stkSub b hb)with e|hb
 .rw[e];exact I.free
 .obtain⟨_,o,ho,_⟩:=I.ok.funs.mem hb;exact I.base.free b o ho (I.ok.frf b hb) λz=>I.ok.exfs b z hb
theorem Inv.step{d':Drawn}(I:Inv X f g H s)
  (B:∀b∈ch,(b∈X.ex\/X.s₀.heap.objs.size≤b)/\b≠X.env.locals/\(∀x c,X.env.cells.lookup x=some c->c≠b)/\∀p∈X.pn++f,p.1≠b)
  (keep:∀b o,b≠X.env.locals->b∉X.fs->b∉ch->s.heap.get? b=some o->H b=none->h'.get? b=some o)
  (slot:∀b o,b≠X.env.locals->b∈X.fs->b∉ch->s.heap.get? b=some o->H b=none->∃S,h'.get? b=some {o with slots:=S}) (free:∀b o,b∉ch->s.heap.get? b=some o->H b=none->w b=none)
  (there:∀b o,b∉ch->s.heap.get? b=some o->∃L,h'.get? b=some L)
  (tups:∀b xs,H b=some (.tup xs)->w b=some (.tup xs)) (frzs:∀b o u,H b=some (.frz o u)->w b=some (.frz o u)) (tbls:∀b ps,H b=some (.tbl ps)->∃more,w b=some (.tbl (ps++more)))
  (ns:∀m,s.heap.Ns X.env.locals m->h'.Ns X.env.locals m) (hok:HOk X.prog X.w w h') (V:aeN g') :
  Inv X f g w {s with heap:=h',gens:=g',drawn:=d',toks:=t' }:=by
 have J:∀b o,X.s₀.heap.get? b=some o->b≠X.env.locals:=λb o e=>aaK (aak (aab e) I.ok.above);have F:∀b o,X.s₀.heap.get? b=some o->b∉X.ex->b∉ch:=λb o e t hb=>by
  rcases (B b hb).1 with z|z
  .exact t z
  .exact absurd (aak (aab e) z) (ac8 _)
 have y:∀x c,X.env.cells.lookup x=some c->∀v,s.heap.IsCell c v->h'.IsCell c v:=by
  intro x c e v ⟨o,ho,hd⟩;have D:c∉ch:=λz=>(B c z).2.2.1 x c e rfl
  by_cases T:c∈X.fs
  .obtain⟨S,q⟩:=slot c o (I.cne x c e) T D ho (I.freeC x c e);exact⟨_,q,hd⟩
  .exact⟨o,keep c o (I.cne x c e) T D ho (I.freeC x c e),hd⟩
 refine⟨I.ok,I.os,V,⟨λb o e n hb t=>?_,λb o e n hb t=>?_,λb o e n t=>?_,λb o e t=>?_,λb xs e=>tups b xs (I.base.tups b xs e),λb o xs e=>frzs b o xs (I.base.frzs b o xs e),λb ps e=>?_⟩,?_,λx c e=>?_,?_,λx c e=>?_,λp hp=>?_,hok,I.len⟩
 .exact keep b o (J b o e) hb (F b o e t) (I.base.keep b o e n hb t) (I.base.free b o e n t)
 .obtain⟨S,G⟩:=I.base.slot b o e n hb t;let⟨R,O⟩:=slot b _ (J b o e) hb (F b o e t) G (I.base.free b o e n t);exact⟨R,O⟩
 .obtain⟨L,G⟩:=I.base.there b o e t;exact free b L (F b o e t) G (I.base.free b o e n t)
 .obtain⟨L,G⟩:=I.base.there b o e t;exact there b L (F b o e t) G
 .obtain⟨m1,G⟩:=I.base.tbls b ps e;let⟨m2,O⟩:=tbls b _ G;exact⟨m1++m2,by rw[O,ahg]⟩
 .obtain⟨m,hn,hl⟩:=I.loc;refine⟨m,ns m hn,λi x v G O U=>?_⟩;let⟨u,r,l⟩:=hl i x v G O U;refine⟨u,r,?_⟩;rcases l with l|⟨k,c,e,z⟩
  .exact .inl l
  .exact .inr ⟨k,c,e,y x c e _ z⟩
 .obtain⟨v,z⟩:=I.cell x c e;exact⟨v,y x c e v z⟩
 .obtain⟨m,⟨o,_,_,ho,_⟩,_⟩:=I.loc;exact free _ o (λz=>(B _ z).2.1 rfl) ho I.free
 .obtain⟨v,o,ho,hd⟩:=I.cell x c e;exact free c o (λz=>(B c z).2.2.1 x c e rfl) ho (I.freeC x c e)
 .obtain⟨e,n,ne,nf,d⟩:=I.pin p hp;have D:p.1∉ch:=λz=>(B p.1 z).2.2.2 p hp rfl;exact⟨keep p.1 p.2 ne nf D e n,free p.1 p.2 D e n,ne,nf,d⟩
theorem Inv.un(I:Inv X f g H s)(u:Un X.fs [] H w s.heap h')(hok:HOk X.prog X.w w h'):Inv X f g w {s with heap:=h',toks:=t' }:=by
 let⟨m,⟨o,es,B,ho,r⟩,_⟩:=id I.loc;let⟨D,q⟩:=u.any ho I.free (by simp);exact I.step (g':=s.gens) (d':=s.drawn) (ch:=[]) (λ_ z=>nomatch z) (λb o _ hb _ e n=>u.keep b o e n hb (by simp)) (λb o _ hb _ e n=>u.slot b o e n hb (by simp)) (λb o _ e n=>u.free b o e n (by simp)) (λb o _ e=>u.there b o e (by simp)) u.tups u.frzs u.tbls (λx t=>by
  let⟨y,k,l,d,p⟩:=t;rw[ho]at d;cases d;exact⟨_,k,l,q,p⟩) hok I.bare
theorem Inv.call{d':Drawn}(I:Inv X f g H s)(u:Un (frs X.stack) ch H w s.heap h')(hok:HOk X.prog X.w w h')(F:aeN g')
  (k:∀b∈ch,(b∈X.ex\/X.s₀.heap.objs.size≤b)/\b≠X.env.locals/\(∀x c,X.env.cells.lookup x=some c->c≠b)/\∀p∈X.pn++f,p.1≠b) :
  Inv X f g w {s with heap:=h',gens:=g',drawn:=d',toks:=t' }:=by
 let⟨m,⟨o,es,L,ho,r⟩,_⟩:=id I.loc;let⟨O,y⟩:=u.any ho I.free λz=>(k _ z).2.1 rfl;exact I.step k (λb o y hb d e n=>u.keep b o e n (λz=>(aaq.mp (I.stkSub b z)).elim y hb) d) (λb o _ _ d e n=>u.any e n d) (λb o d e n=>u.free b o e n d) (λb o d e=>u.there b o e d) u.tups u.frzs u.tbls (λG D=>by
  let⟨J,q,t,l,B⟩:=D;rw[ho]at l;cases l;exact⟨_,q,t,y,B⟩) hok F
theorem Inv.turned{d:Addr}(I:Inv X f g H s)(k:∀b o,b≠d->s.heap.get? b=some o->h'.get? b=some o)(G:H d=none)(y:d≠X.env.locals)
  (J:d∈X.ex\/X.s₀.heap.objs.size≤d) (B:∀x c,X.env.cells.lookup x=some c->c≠d) (D:∀p∈X.pn++f,p.1≠d):Inv X f g H {s with heap:=h',toks:=t' }:=by
 have t:∀b u,H b=some u->b≠d:=λb u e z=>by rw[z,G]at e;cases e
 refine I.step (g':=s.gens) (d':=s.drawn) (ch:=[d]) (λb hb=>?_) (λb o _ _ l e _=>k b o (λz=>l (by simp[z])) e) (λb o _ _ l e _=>⟨o.slots,k b o (λz=>l (by simp[z])) e⟩) (λ_ _ _ _ n=>n)
  (λb o l e=>⟨o,k b o (λz=>l (by simp[z])) e⟩) (λ_ _ e=>e) (λ_ _ _ e=>e) (λb ps e=>⟨#[],by rw[e];simp⟩) (λm F=>?_) (λb u e=>?_) I.bare
 .have e:=by simpa using hb
  subst e;exact⟨J,y,B,D⟩
 .obtain⟨o,es,ep,ho,r⟩:=F;exact⟨o,es,ep,k _ o (abb y) ho,r⟩
 .refine(I.hok b u e).stay (λc v l q=>k c v ?_ q) (λ_ q=>q) λ_ _ q=>q;rcases l with z|z
  .rw[z];exact t b u e
  .exact t c _ z
theorem Inv.tok(I:Inv X f g H s)(t:Nat):Inv X f g H {s with toks:=t}:=I.un (h':=s.heap) (t':=t) Un.refl I.hok
theorem Inv.kept(I:Inv X f g H s)(k:∀b u,s.heap.get? b=some u->h'.get? b=some u):Inv X f g H {s with heap:=h',toks:=t' }:=I.un (Un.kept k) (I.hok.kept k)
theorem Inv.laid(I:Inv X f g H s)(k:∀b u,s.heap.get? b=some u->h'.get? b=some u)(hp:s.heap.objs.size≤a)(new:ObjOk X.prog X.w (upd H a o) h' a o) :
  Inv X f g (upd H a o) {s with heap:=h',toks:=t' }:=I.un (Un.laid k hp (I.hok.fresh hp)) (I.hok.laid k hp new)
theorem Inv.write{x e:Addr}(I:Inv X f g H s)(m:Mut (H x))(l:e=x\/H e=some (.own x))(k:∀b u,b≠e->s.heap.get? b=some u->h'.get? b=some u)(d:∃u,h'.get? e=some u)
  (new:ObjOk X.prog X.w (upd H x o) h' x o):Inv X f g (upd H x o) {s with heap:=h',toks:=t' }:=I.un (Un.write m l k d) (I.hok.write m l k d new)
def Inv.pins_of{d:List (Addr×Obj)}(I:Inv X f g H s)(h:∀p∈d,s.heap.get? p.1=some p.2/\H p.1=none/\p.1≠X.env.locals/\p.1∉X.fs/\∀v,p.2.data≠.cell v):Inv X d g H s:=
 ⟨I.ok,I.os,I.bare,I.base,I.loc,I.cell,I.free,I.freeC,λp hp=>(aa4.mp hp).elim (λz=>I.pin p (adB _ z)) (h p),I.hok,I.len⟩
def o4(d:N.Nodup){x:Str}(a:N[i]?=some x)(b:N[j]?=some x):i=j:=by
 let⟨n,k⟩:=DL.mp a;let⟨m,l⟩:=DL.mp b;exact(List.getElem_inj d).mp (k.trans l.symm)
theorem p9{x:Str}{Q:Unit->Ad->Prop}(I:Inv X f g H s)(hN:X.N.Nodup)(T:X.N[i]?=some x)(D:Loc X.env.scope x)(r:RelV v u)
  (h:∀s',Inv X f (g.set i (some v)) H s'->(∃a,abo a s.heap s'.heap/\(a=X.env.locals\/X.env.cells.lookup x=some a))->Q () s') (hf:X.fn x=true\/X.env.scope.names.lookup x=some .local:=by first|exact .inl rfl|exact .inr rfl|assumption):wpAny M A (storeName X.env x u) Q E s:=by
 let⟨m,hn,hl⟩:=id I.loc;have S:(X.env.scope.kind == .class||(X.env.scope.kind == .module&&X.env.locals != X.env.globals))=false:=by rw[I.ok.kind];rfl
 have J:i<g.length:=by rw[I.len];exact(DL.mp T).1
 have cne:=I.cne;have t:∀{a:Addr}{h':aaR},(∃o,s.heap.get? a=some o/\H a=none)->abo a s.heap h'->HOk X.prog X.w H h':=λ{a h'} ha hs b ob e=>by
  let⟨_,_,F⟩:=ha;refine(I.hok b ob e).stay (λc V B q=>(hs.2 c ?_).trans q) (λ_ q=>q) λ_ _ q=>q;rintro rfl;rcases B with rfl|B
  .rw[F]at e;cases e
  .rw[F]at B;cases B
 rcases D with L|L
 .refine wpAny_storeName_local L hn (λh' Z hs=>?_) S;let⟨oL,_,_,hoL,_⟩:=id hn;refine h _ ⟨I.ok,I.os,I.bare,⟨λb o e n hb D=>?_,λb o e n hb D=>?_,I.base.free,λb o e D=>?_,I.base.tups,I.base.frzs,I.base.tbls⟩,⟨_,Z,λj y v' l G Y=>?_⟩,λy c e=>?_,I.free,I.freeC,λp hp=>?_,t ⟨oL,hoL,I.free⟩ hs,by simpa using I.len⟩ ⟨_,hs,.inl rfl⟩
  .exact(hs.2 b (aaK (aak (aab e) I.ok.above))).trans (I.base.keep b o e n hb D)
  .obtain⟨sl,l⟩:=I.base.slot b o e n hb D;exact⟨sl,(hs.2 b (aaK (aak (aab e) I.ok.above))).trans l⟩
  .obtain⟨o',l⟩:=I.base.there b o e D;exact⟨o',(hs.2 b (aaK (aak (aab e) I.ok.above))).trans l⟩
  .by_cases hj:j=i
   .subst hj;rw[T]at l;cases l;rw[aaM J]at G;cases G;exact⟨u,r,.inl ⟨L,by simp⟩⟩
   .rw[aaz (abb hj)]at G;let⟨u',r',q⟩:=hl j y v' l G Y;refine⟨u',r',?_⟩;rcases q with⟨k,e⟩|⟨k,c,e,z⟩
    .refine .inl ⟨k,?_⟩;have:y≠x:=λe=>hj (o4 hN l (e▸T));simp[this,e]
    .exact .inr ⟨k,c,e,z.sameBut hs (cne y c e)⟩
  .obtain⟨V,z⟩:=I.cell y c e;exact⟨V,z.sameBut hs (cne y c e)⟩
  .obtain⟨e,n,ne,nf,d⟩:=I.pin p hp;exact⟨(hs.2 p.1 ne).trans e,n,ne,nf,d⟩
 .have hfn:X.fn x=true:=by
   rcases hf with z|z
   .exact z
   .rw[z]at L;cases L
  let⟨c,B⟩:=I.ok.has x (.inl L);let⟨V,z⟩:=I.cell x c B;refine wpAny_storeName_cell I.ok.kind L B z (λh' O hs=>?_);let⟨oc,U,R⟩:=id z;refine h {s with heap:=h' } ⟨I.ok,I.os,I.bare,⟨λb o e n hb D=>?_,λb o e n hb D=>?_,I.base.free,λb o e D=>?_,I.base.tups,I.base.frzs,I.base.tbls⟩,⟨m,hn.sameBut hs (abb (cne x c B)),λj y v' l G Y=>?_⟩,λy W e=>?_,I.free,I.freeC,λp hp=>?_,t ⟨oc,U,I.freeC x c B⟩ hs,by simpa using I.len⟩ ⟨c,hs,.inr B⟩
  .exact(hs.2 b (aaK (aak (aab e) (I.ok.cab x c hfn B)))).trans (I.base.keep b o e n hb D)
  .obtain⟨sl,l⟩:=I.base.slot b o e n hb D;exact⟨sl,(hs.2 b (aaK (aak (aab e) (I.ok.cab x c hfn B)))).trans l⟩
  .obtain⟨o',l⟩:=I.base.there b o e D;exact⟨o',(hs.2 b (aaK (aak (aab e) (I.ok.cab x c hfn B)))).trans l⟩
  .by_cases hj:j=i
   .subst hj;rw[T]at l;cases l;rw[aaM J]at G;cases G;exact⟨u,r,.inr ⟨.inl L,c,B,O⟩⟩
   .rw[aaz (abb hj)]at G;let⟨u',r',q⟩:=hl j y v' l G Y;refine⟨u',r',?_⟩;rcases q with q|⟨k,W,e,z'⟩
    .exact .inl q
    .refine .inr ⟨k,W,e,z'.sameBut hs ?_⟩;rintro rfl;exact hj (o4 hN l (I.ok.inj _ _ _ e B▸T))
  .by_cases hcc:W=c
   .subst hcc;exact⟨_,O⟩
   .obtain⟨w2,z2⟩:=I.cell y W e;exact⟨w2,z2.sameBut hs hcc⟩
  .obtain⟨e,n,ne,nf,d⟩:=I.pin p hp;refine⟨(hs.2 p.1 ?_).trans e,n,ne,nf,d⟩;intro q;rw[q,U]at e;have q':oc=p.2:=aam e;exact d V (by rw[<-q'];exact R)
theorem ii{x:Str}{Q:Unit->Ad->Prop}(I:Inv X f g H s)(k:X.N.Nodup)(n:X.N[i]?=some x)(d:Loc X.env.scope x)(r:RelV v u)
  (h:∀s',Inv X f (g.set i (some v)) H s'->Q () s') (l:X.fn x=true\/X.env.scope.names.lookup x=some .local:=by first|exact .inl rfl|exact .inr rfl|assumption):wpAny M A (storeName X.env x u) Q E s:=
 p9 I k n d r (λs' m _=>h s' m) l
theorem Inv.call'{s':Ad}(I:Inv X f g H s)(ho:s'.os=s.os)(u:Un (frs X.stack) ch H w s.heap s'.heap)(hok:HOk X.prog X.w w s'.heap)(k:aeN s'.gens)
  (d:∀b∈ch,(b∈X.ex\/X.s₀.heap.objs.size≤b)/\b≠X.env.locals/\(∀x c,X.env.cells.lookup x=some c->c≠b)/\∀p∈X.pn++f,p.1≠b):Inv X f g w s':=by
 let⟨h',g',d',t',l⟩:=s';have e:=ho;subst e;exact I.call (g':=g') (t':=t') (d':=d') u hok k d
end
abbrev XK:=oR->Option Addr->Hp->Prop
abbrev St:=List (Option V)
abbrev VK:=V->Hp->Prop
abbrev TE:=St->Hp->VK->Prop
abbrev TT:=St->Hp->(Bool->Hp->Prop)->Prop
abbrev TA:=St->Hp->(List V->Hp->Prop)->Prop
structure Ends where
 nx:St->Hp->Prop
 rt:VK
 bk:St->Hp->Prop:=λ_ _=>False
 ct:St->Hp->Prop:=λ_ _=>False
abbrev TS:=Ends->St->Hp->Prop
def EP(X:Cx)(pins:List (Addr×Obj))(σ:St)(Q:VK)(u:oR)(s':Ad):Prop:=∃v d,Inv X pins σ d s'/\RelV v u/\Q v d
def TP(X:Cx)(pins:List (Addr×Obj))(σ:St)(Q:Bool->Hp->Prop)(b:Bool)(s':Ad):Prop:=∃d,Inv X pins σ d s'/\Q b d
def AP(X:Cx)(pins:List (Addr×Obj))(σ:St)(Q:List V->Hp->Prop)(us:List oR)(s':Ad):Prop:=∃vs d,Inv X pins σ d s'/\Vals vs us/\Q vs d
def SP(X:Cx)(pins:List (Addr×Obj))(D:Ends)(f:Flow)(s':Ad):Prop:=
 match f with
 | .next=>∃d k,Inv X pins d k s'/\D.nx d k
 | .brk=>∃d k,Inv X pins d k s'/\D.bk d k
 | .cont=>∃d k,Inv X pins d k s'/\D.ct d k
 | .ret u=>∃v d k,Inv X pins d k s'/\RelV v u/\D.rt v k
def PE(X:Cx)(e:Expr)(t:TE):Prop:=
 ∀(pins:List (Addr×Obj)) (s:Ad) (σ:St) (H:Hp) (Q:VK),Inv X pins σ H s->t σ H Q->wpAny (model X.prog X.w) X.A (eval e X.env) (EP X pins σ Q) X.xe s
def PT(X:Cx)(e:Expr)(t:TT):Prop:=
 ∀(pins:List (Addr×Obj)) (s:Ad) (σ:St) (H:Hp) (Q:Bool->Hp->Prop),Inv X pins σ H s->t σ H Q->wpAny (model X.prog X.w) X.A (isTrue e X.env (eval e X.env)) (TP X pins σ Q) X.xe s
def PW(X:Cx)(e:Expr)(t:TT):Prop:=
 ∀(d:Sem oR) (pins:List (Addr×Obj)) (s:Ad) (σ:St) (H:Hp) (Q:Bool->Hp->Prop),Inv X pins σ H s->t σ H Q->wpAny (model X.prog X.w) X.A (isTrue e X.env d) (TP X pins σ Q) X.xe s
def PW.pt{t:TT}(h:PW X e t):PT X e t:=h _
def PA(X:Cx)(es:List Expr)(t:TA):Prop:=
 ∀(pos:Pos) (pins:List (Addr×Obj)) (s:Ad) (σ:St) (H:Hp) (Q:List V->Hp->Prop),Inv X pins σ H s->t σ H Q->wpAny (model X.prog X.w) X.A (spliced (abw pos (OR es X.env))) (AP X pins σ Q) X.xe s
def PS(X:Cx)(st:Stmt)(t:TS):Prop:=
 ∀(pins:List (Addr×Obj)) (s:Ad) (σ:St) (H:Hp) (D:Ends),Inv X pins σ H s->t D σ H->wpAny (model X.prog X.w) X.A (exec st X.env) (SP X pins D) X.xe s
def PSs(X:Cx)(st:List Stmt)(t:TS):Prop:=
 ∀(pins:List (Addr×Obj)) (s:Ad) (σ:St) (H:Hp) (D:Ends),Inv X pins σ H s->t D σ H->wpAny (model X.prog X.w) X.A (execs st X.env) (SP X pins D) X.xe s
def thn{d:Type}{t:Sem d}{Q k:d->Ad->Prop}{s:Ad}(h:wpAny M A t Q E s)(l:∀a s,Q a s->k a s):wpAny M A t k E s:=ab9 h l λ_ _ x=>x
section
variable {X:Cx}
def tVar(i:Nat):TE:=λσ H Q=>∃v,σ[i]?=some (some v)/\Q v H
def tC(v:V):TE:=λ_ H Q=>Q v H
theorem yY{x:Str}(t:X.N[i]?=some x)(y:Vis X.env.scope x)(hd:(x==("__debug__" : Str))=false:=by decide)(p:(x==("__classdict__" : Str))=false:=by decide):PE X (.Name x pos) (tVar i):=by
 intro pins s σ H Q I h;let⟨v,e,h⟩:=h;let⟨m,B,D⟩:=I.loc;let⟨u,r,l⟩:=D i x v t e y;have k:EP X pins σ Q u s:=⟨v,H,I,r,h⟩;rcases l with⟨n,z⟩|⟨n,c,q,d⟩
 .exact wpAny_Name (wpAny_loadName_local I.ok.kind n B z k) hd
 .rcases n with n|n
  .exact wpAny_Name (wpAny_loadName_cell I.ok.kind n q d k) hd
  .exact wpAny_Name (wpAny_loadName_free I.ok.kind n q d k p) hd
theorem Ux{i j pos}:PE X (.Constant (.int i) j pos) (tC (.int i)):=λ_ _ _ H _ I h=>wpAny_Constant_int ⟨.int i,H,I.tok _,⟨_,rfl⟩,h⟩
theorem VZ{b j pos}:PE X (.Constant (.bool b) j pos) (tC (.bl b)):=λ_ _ _ H _ I h=>Constant_bool ⟨.bl b,H,I,rfl,h⟩
theorem OQ{j pos}:PE X (.Constant .none j pos) (tC .non):=λ_ _ _ H _ I h=>Constant_none ⟨.non,H,I,rfl,h⟩
theorem Pj{x j pos}:PE X (.Constant (.str x) j pos) (tC (.str x)):=λ_ _ _ H _ I h=>Calls.Constant_str ⟨.str x,H,I.tok _,⟨_,rfl⟩,h⟩
def Gl(X:Cx)(x:Str):Prop:=X.env.kindOf x=some .globalImplicit
theorem iG{s:Ad}{x:Str}(I:Inv X pins σ H s)(k:Gl X x)(d:X.mg x=some u)(h:Q u s)
  (hd:(x==("__debug__" : Str))=false:=by decide):wpAny (model X.prog X.w) X.A (eval (.Name x pos) X.env) Q E s:=
 aff I.ok.kind k (Calls.loadGlobal_global (by rw[I.ok.glob];exact I.mod.glob.keeps I.bk) d h) hd
theorem kI{s:Ad}{x:Str}(I:Inv X pins σ H s)(p:Gl X x)(n:X.mg x=none)(d:aaL x=some u)(h:Q u s)
  (l:x ≠ "__name__":=by decide) (hd:(x==("__debug__" : Str))=false:=by decide):wpAny (model X.prog X.w) X.A (eval (.Name x pos) X.env) Q E s:=by
 let⟨mb,m,k⟩:=I.mod.blt;exact aff I.ok.kind p (Calls.loadGlobal_builtin (by rw[I.ok.glob];exact I.mod.glob.keeps I.bk) n (by rw[I.ok.blt];exact m.keeps I.bk) ((k x l).trans d) h) hd
theorem JN{x:Str}(k:Gl X x)(d:X.mg x=some u)(r:RelV v u)(hd:(x==("__debug__" : Str))=false:=by decide):PE X (.Name x pos) (tC v):=
 λ_ _ _ H _ I h=>iG I k d ⟨v,H,I,r,h⟩ hd
theorem yL{x:Str}(m:Gl X x)(k:X.mg x=none)(d:aaL x=some u)(r:RelV v u)(l:x ≠ "__name__":=by decide)(hd:(x==("__debug__" : Str))=false:=by decide):PE X (.Name x pos) (tC v):=
 λ_ _ _ H _ I h=>kI I m k d ⟨v,H,I,r,h⟩ l hd
variable {a b:Expr}{k tb:TE}{pos:Pos}
def tB(t:TE):TT:=λσ H Q=>t σ H λx d=>∃c,x = .bl c/\Q c d
theorem QL{t:TE}(h:PE X e t)(m:∀l,isTrue e X.env l=(do let v <- l;adx e.pos;ady [v] (truthy v)):=by intro _;rfl):PT X e (tB t):=by
 intro pins s σ H Q I n;refine isTrue_plain (thn (h pins s σ H _ I n) λv s1 ⟨x,p,y,r1,z⟩=>?_) (m _);let⟨d,rfl,q⟩:=z;cases r1;exact wpAny_truthy_bool ⟨p,y,q⟩
variable {f g:TT}{rest:List Expr}
def tAnd(t u:TT):TT:=λσ H Q=>t σ H λc d=>if c=true then u σ d Q else Q false d
def tOr(t u:TT):TT:=λσ H Q=>t σ H λc d=>if c=true then Q true d else u σ d Q
def tNot(t:TT):TT:=λσ H Q=>t σ H λc d=>Q (!c) d
theorem J8(ha:PT X a f):PW X (.BoolOp .And [a] pos) f:=by
 intro d pins s σ H Q I h;refine isTrue_and (thn (ha pins s σ H Q I h) λc s1 e=>?_)
 cases c with
 |true=>exact isTrue_and_nil e
 |false=>exact e
theorem QB(ha:PT X a f):PW X (.BoolOp .Or [a] pos) f:=by
 intro d pins s σ H Q I h;refine isTrue_or (thn (ha pins s σ H Q I h) λc s1 e=>?_)
 cases c with
 |false=>exact isTrue_or_nil e
 |true=>exact e
theorem R9(ha:PT X a f)(hb:PW X (.BoolOp .And (b::rest) pos) g):PW X (.BoolOp .And (a::b::rest) pos) (tAnd f g):=by
 intro m pins s σ H Q I h;refine isTrue_and (thn (ha pins s σ H _ I h) λc s1 ⟨l,d,q⟩=>?_)
 cases c with
 |true=>exact hb m pins s1 σ l Q d q
 |false=>exact⟨l,d,q⟩
theorem Vj(ha:PT X a f)(hb:PW X (.BoolOp .Or (b::rest) pos) g):PW X (.BoolOp .Or (a::b::rest) pos) (tOr f g):=by
 intro m pins s σ H Q I h;refine isTrue_or (thn (ha pins s σ H _ I h) λc s1 ⟨l,d,q⟩=>?_)
 cases c with
 |true=>exact⟨l,d,q⟩
 |false=>exact hb m pins s1 σ l Q d q
theorem O6(ha:PT X a f):PT X (.UnaryOp .Not a pos) (tNot f):=by
 intro pins s σ H Q I h;exact isTrue_not (ha pins s σ H _ I h)
def tIf(t:TT)(k tb:TE):TE:=λσ H Q=>t σ H λc d=>if c=true then k σ d Q else tb σ d Q
theorem G9(n:PT X c f)(ha:PE X a k)(hb:PE X b tb):PE X (.IfExp c a b pos) (tIf f k tb):=by
 intro pins s σ H Q I h;refine wpAny_IfExp (thn (n pins s σ H _ I h) λd s1 ⟨l,m,q⟩=>?_)
 cases d with
 |true=>exact ha pins s1 σ l Q m q
 |false=>exact hb pins s1 σ l Q m q
end
def SqL(K:Io)(H:Hp)(a:Addr)(xs:List V):Prop:=
 Rd H a (.lst xs) \/
  ∃(o:Obj) (d:Array oR) (n:Nat),K.lookup a=some o/\o.cls = .type "list"/\o.dict=none/\o.data = .seq d n/\d.size≤aaf/\Vals xs d.toList
def SqT(K:Io)(H:Hp)(a:Addr)(xs:List V):Prop:=
 Rd H a (.tup xs) \/
  ∃(o:Obj) (d:Array oR) (n:Nat),K.lookup a=some o/\o.cls = .type "tuple"/\o.dict=none/\o.data = .seq d n/\d.size≤aaf/\Vals xs d.toList
def absV:oR->Option V
 | .none=>some .non
 | .bool b=>some (.bl b)
 | .int i _=>some (.int i)
 | .str x _=>some (.str x)
 | .bytes b _=>some (.byt b)
 | .float b _=>some (.flt b)
 | .ref a=>some (.ref a)
 | .type n=>some (.ty n)
 |_=>none
theorem RelV.abs{x:V}(r:RelV x u):absV u=some x:=by
 cases x with
 |non=>cases r;rfl
 |bl _=>cases r;rfl
 |int _=>let⟨t,rfl⟩:=r;rfl
 |str _=>let⟨t,rfl⟩:=r;rfl
 |byt _=>let⟨t,rfl⟩:=r;rfl
 |flt _=>let⟨t,rfl⟩:=r;rfl
 |ref _=>cases r;rfl
 |ty _=>cases r;rfl
def RelV.inj{x y:V}(r:RelV x u)(q:RelV y u):x=y:=aam (r.abs.symm.trans q.abs)
theorem Vals.inj:∀{xs ys:List V}{us:List oR},Vals xs us->Vals ys us->xs=ys
 |_,_,_,.nil,.nil=>rfl
 |_,_,_,.cons r t,.cons r' t'=>by rw[r.inj r',Vals.inj t t']
section
variable {X:Cx}{b:List (Addr×Obj)}{c:St}{H:Hp}{s:Ad}{a:Addr}{xs ys:List V}
def SqL.of(h:H a=some (.lst xs)):SqL K H a xs:=.inl (.inl h)
def SqT.of(h:H a=some (.tup xs)):SqT K H a xs:=.inl (.inl h)
theorem Inv.list(I:Inv X b c H s)(h:SqL X.K H a xs):∃d:List oR,Vals xs d/\PlainL s.heap a d.toArray/\xs.length≤aaf:=by
 rcases h with h|⟨o,d,n,k,l,hd,hs,m,r⟩
 .obtain⟨z,d,n,r,e⟩:=h.ok I.hok;exact⟨d,r,⟨_,n,e,rfl,rfl,rfl⟩,z⟩
 .refine⟨d.toList,r,⟨o,n,I.kIn a o k,l,hd,by simpa using hs⟩,?_⟩;have e:=r.length
  grind
theorem Inv.tuple(I:Inv X b c H s)(h:SqT X.K H a xs):∃d:List oR,Vals xs d/\IsTup s.heap a d.toArray/\xs.length≤aaf:=by
 rcases h with h|⟨o,d,n,k,l,hd,hs,m,r⟩
 .obtain⟨z,d,r,p⟩:=h.ok I.hok;exact⟨d,r,p.tup,z⟩
 .refine⟨d.toList,r,⟨o,I.kIn a o k,l,n,by simpa using hs⟩,?_⟩;have e:=r.length
  simp_all
theorem Inv.tupleP(I:Inv X b c H s)(h:SqT X.K H a xs):∃d:List oR,Vals xs d/\PlainT s.heap a d.toArray/\xs.length≤aaf:=by
 rcases h with h|⟨o,d,n,k,l,hd,hs,m,r⟩
 .obtain⟨z,d,r,p⟩:=h.ok I.hok;exact⟨d,r,p,z⟩
 .refine⟨d.toList,r,⟨o,I.kIn a o k,l,hd,n,by simpa using hs⟩,?_⟩;have e:=r.length
  simp_all
theorem Inv.list_inj(I:Inv X b c H s)(h:SqL X.K H a xs)(h':SqL X.K H a ys):xs=ys:=by
 let⟨p,r,⟨o,n,e,_,_,d⟩,_⟩:=I.list h;let⟨m,q,⟨x,t,l,_,_,k⟩,_⟩:=I.list h';rw[e]at l;cases l;rw[d]at k;injection k with d1 _
 have:=by simpa using congrArg Array.toList d1
 subst this;exact r.inj q
theorem Inv.tuple_inj(I:Inv X b c H s)(h:SqT X.K H a xs)(h':SqT X.K H a ys):xs=ys:=by
 let⟨p,r,⟨o,e,_,n,d⟩,_⟩:=I.tuple h;let⟨m,q,⟨x,l,_,t,k⟩,_⟩:=I.tuple h';rw[e]at l;cases l;rw[d]at k;injection k with d1 _
 have:=by simpa using congrArg Array.toList d1
 subst this;exact r.inj q
end
abbrev Cx.wish(X:Cx)(E:oR->Ad->Prop):Cx:={X with xe:=E}
abbrev Cx.nox(X:Cx):Cx:=X.wish λ_ _=>False
def Cx.Ok.wish(ok:X.Ok)(E:oR->Ad->Prop):(X.wish E).Ok:=
 ⟨ok.mod,ok.kind,ok.glob,ok.blt,ok.above,ok.inj,ok.has,ok.cab,ok.hd,ok.frames,ok.stk,ok.exf,ok.bs,ok.bsz,ok.noex,ok.exfs,ok.funs,ok.frf⟩
def Cx.Ok.unwish(ok:(X.wish E).Ok):X.Ok:=
 ⟨ok.mod,ok.kind,ok.glob,ok.blt,ok.above,ok.inj,ok.has,ok.cab,ok.hd,ok.frames,ok.stk,ok.exf,ok.bs,ok.bsz,ok.noex,ok.exfs,ok.funs,ok.frf⟩
section
variable {X:Cx}{p:List (Addr×Obj)}{a:St}{H:Hp}{s:Ad}{E:oR->Ad->Prop}
def Inv.wish(I:Inv X p a H s)(E:oR->Ad->Prop):Inv (X.wish E) p a H s:=⟨I.ok.wish E,I.os,I.bare,I.base,I.loc,I.cell,I.free,I.freeC,I.pin,I.hok,I.len⟩
def Inv.unwish(I:Inv (X.wish E) p a H s):Inv X p a H s:=⟨I.ok.unwish,I.os,I.bare,I.base,I.loc,I.cell,I.free,I.freeC,I.pin,I.hok,I.len⟩
theorem SP.unwish{D:Ends}{f:Flow}{s':Ad}(h:SP (X.wish E) p D f s'):SP X p D f s':=by
 cases f with
 |next=>let⟨d,k,I,q⟩:=h;exact⟨d,k,I.unwish,q⟩
 |brk=>let⟨d,k,I,q⟩:=h;exact⟨d,k,I.unwish,q⟩
 |cont=>let⟨d,k,I,q⟩:=h;exact⟨d,k,I.unwish,q⟩
 |ret u=>let⟨v,d,k,I,r,q⟩:=h;exact⟨v,d,k,I.unwish,r,q⟩
theorem PSs.nox{st:List Stmt}{t:TS}(h:PSs X.nox st t):PSs X st t:=λp s a H D I d=>
 ab9 (h p s a H D (I.wish _) d) (λ_ _ q=>q.unwish) λ_ _ z=>abO z
end
section
variable {X:Cx}{st:Stmt}{rest:List Stmt}{t u:TS}{e:Expr}{g:TE}{pos:Pos}
def WX:TS:=λD σ H=>D.nx σ H
def tSeq(t u:TS):TS:=λD σ H=>t {D with nx:=u D} σ H
theorem LQ:PSs X [] WX:=λ_ _ σ H _ I h=>ad3 ⟨σ,H,I,h⟩
theorem C5(l:PS X st t)(k:PSs X rest u):PSs X (st::rest) (tSeq t u):=by
 intro pins s σ H D I h;refine wpAny_execs_cons (thn (l pins s σ H {D with nx:=u D} I h) λf s1 q=>?_)
 cases f with
 |next=>
  let⟨d,n,m,q⟩:=q;exact k pins s1 d n D m q
 |ret v=>exact q
 |brk=>exact q
 |cont=>exact q
theorem B8(d:PS X st t):PSs X [st] t:=by
 intro pins s σ H D I h;refine wpAny_execs_cons (thn (d pins s σ H D I h) λf s1 q=>?_)
 cases f with
 |next=>exact ad3 q
 |ret v=>exact q
 |brk=>exact q
 |cont=>exact q
def Inv.quiet{s:Ad}(I:Inv X pins σ H s):interactive X.env=false:=by simp[interactive,I.ok.kind]
def VQ(g:TE):TS:=λD σ H=>g σ H λ_ d=>D.nx σ d
theorem KO(d:PE X e g)(hs:abH e none pos.line X.env=pure false:=by rfl):PS X (.Expr e pos) (VQ g):=by
 intro pins s σ H D I h;exact wpAny_Expr_any (thn (d pins s σ H _ I h)<|by intro v s1 ⟨x,l,k,r1,q⟩;exact⟨σ,l,k,q⟩) I.quiet hs
def tRet(g:TE):TS:=λD σ H=>g σ H D.rt
theorem QU(d:PE X e g):PS X (.Return (some e) pos) (tRet g):=by
 intro pins s σ H D I h;exact wpAny_Return_some (thn (d pins s σ H _ I h)<|by intro v s1 ⟨x,l,k,r1,q⟩;exact⟨x,σ,l,k,r1,q⟩)
def tIfS(c:TT)(t u:TS):TS:=λD σ H=>c σ H λb d=>if b=true then t D σ d else u D σ d
theorem WJ{a b:List Stmt}{l:TT}(n:PT X c l)(ha:PSs X a t)(hb:PSs X b u):PS X (.If c a b pos) (tIfS l t u):=by
 intro pins s σ H D I h;refine wpAny_If (thn (n pins s σ H _ I h) λd s1 ⟨k,m,q⟩=>?_)
 cases d with
 |true=>exact ha pins s1 σ k D m q
 |false=>exact hb pins s1 σ k D m q
def Uj:TS:=λ_ _ _=>False
theorem DH:PS X st Uj:=λ_ _ _ _ _ _ h=>h.elim
end
abbrev TG:=V->St->Hp->(St->Hp->Prop)->Prop
abbrev TGs:=List V->St->Hp->(St->Hp->Prop)->Prop
def PG(X:Cx)(d:Expr)(t:TG):Prop:=
 ∀(pins:List (Addr×Obj)) (s:Ad) (σ:St) (H:Hp) (v:V) (u:oR) (Q:St->Hp->Prop),Inv X pins σ H s->RelV v u->t v σ H Q ->
  wpAny (model X.prog X.w) X.A (ad8 d X.env u) (λ_ m=>∃k l,Inv X pins k l m/\Q k l) X.xe s
def PGs(X:Cx)(ts:List Expr)(t:TGs):Prop:=
 ∀(pins:List (Addr×Obj)) (s:Ad) (σ:St) (H:Hp) (vs:List V) (us:List oR) (Q:St->Hp->Prop),Inv X pins σ H s->Vals vs us->t vs σ H Q ->
  wpAny (model X.prog X.w) X.A (assignInOrder ((abE ts X.env).map (·.2)) us) (λ_ l=>∃d k,Inv X pins d k l/\Q d k) X.xe s
abbrev TSet:=V->V->V->Hp->(Hp->Prop)->Prop
def PSet(X:Cx)(t:TSet):Prop:=
 ∀(pins:List (Addr×Obj)) (s:Ad) (σ:St) (H:Hp) (o i v:V) (d k u:oR) (Q:Hp->Prop),Inv X pins σ H s->RelV o d->RelV i k->RelV v u->t o i v H Q ->
  wpAny (model X.prog X.w) X.A (ahs d k u) (λ_ m=>∃l,Inv X pins σ l m/\Q l) X.xe s
abbrev TIp:=V->V->Hp->VK->Prop
def PIp(X:Cx)(op:afg)(t:TIp):Prop:=
 ∀(pins:List (Addr×Obj)) (s:Ad) (σ:St) (H:Hp) (x y:V) (v u:oR) (Q:VK),Inv X pins σ H s->RelV x v->RelV y u->t x y H Q ->
  wpAny (model X.prog X.w) X.A (inplaceOp op v u) (EP X pins σ Q) X.xe s
section
variable {X:Cx}{pos:Pos}
def D9(i:Nat):TG:=λv σ H Q=>Q (σ.set i (some v)) H
theorem Jy{x:Str}(k:X.N.Nodup)(n:X.N[i]?=some x)(d:Loc X.env.scope x)(l:X.fn x=true\/X.env.scope.names.lookup x=some .local:=by first|exact .inl rfl|exact .inr rfl|assumption):PG X (.Name x pos) (D9 i):=by
 intro pins s σ H v u Q I r h;exact wpAny_assign_Name (ii I k n d r (λp m=>⟨_,H,m,h⟩) l)
def gNil:TGs:=λvs σ H Q=>vs=[]/\Q σ H
def WR(t:TG)(u:TGs):TGs:=λvs σ H Q=>∃v r,vs=v::r/\t v σ H λd k=>u r d k Q
theorem LH:PGs X [] gNil:=by
 intro pins s σ H vs us Q I r h;let⟨e,h⟩:=h;exact assignInOrder_nil ⟨σ,H,I,h⟩
theorem Gv{t:TG}{u:TGs}(p:PG X e t)(k:PGs X es u)
  (hs:(abE (e::es) X.env).map (·.2)=ad8 e X.env::(abE es X.env).map (·.2):=by rfl):PGs X (e::es) (WR t u):=by
 intro pins s σ H vs us Q I r h;let⟨v,x,l,h⟩:=h;subst l
 cases r with
 |cons r rr=>
  rw[hs];refine afh (thn (p pins s σ H _ _ _ I r h) λ_ s1 ⟨d,m,n,q⟩=>?_);exact k pins s1 d m _ _ Q n rr q
def gTup(K:Io)(n:Nat)(t:TGs):TG:=λv σ H Q=>∃a x,v = .ref a/\SqT K H a x/\x.length=n/\t x σ H Q
theorem RB{k:Nat}{t:TGs}{n:Nat}(z:X.calm=true)(h:PGs X es t)
  (D:(abE es X.env).length=n:=by rfl) (l:(abE es X.env).findIdx? (·.1)=none:=by rfl):PG X (.Tuple es k pos) (gTup X.K n t):=by
 intro pins s σ H v u Q I r d;let⟨a,G,q,x,J,d⟩:=d;subst q;cases r;let⟨m,B,y,O⟩:=I.tuple x;refine assign_Tuple_tuple (I.ok.hd z) y (by simp[D,<-J,B.length]) l λL p=>?_;have F:=I.kept (t':=s.toks) λb o e=>p b o (aaK (aab e)) e;exact h pins _ σ H G _ Q F ‹_› d
def gSub(to ti:TE)(t:TSet):TG:=λv σ H Q=>to σ H λo l=>ti σ l λi d=>t o i v d λk=>Q σ k
theorem QJ{o i:Expr}{to ti:TE}{t:TSet}(ho:PE X o to)(F:PE X i ti)(hs:PSet X t)
  (ha:∀v,ad8 (.Subscript o i pos) X.env v=(do
   let d <- ady [v] (eval o X.env)
   let k <- ady [v,d] (eval i X.env)
   adx pos
   ady [v,d,k] (ahs d k v)
   release [v,d,k] []):=by intro _;rfl):PG X (.Subscript o i pos) (gSub to ti t):=by
 intro pins s σ H v u Q I r h;rw[ha];refine aD (abu (thn (ho pins s σ H _ I h) λd s1 ⟨x,D,G,r1,J⟩=>?_));refine aD (abu (thn (F pins s1 σ D _ G J) λk s2 ⟨y,z,l,n,q⟩=>?_));refine aD (aci (aD (abu (thn (hs pins s2 σ z x y v d k u _ l r1 n r q) λ_ L ⟨B,m,p⟩=>?_))));exact wpAny_release ⟨σ,B,m,p⟩
def tAsg(te:TE)(g:TG):TS:=λD σ H=>te σ H λx d=>g x σ d D.nx
theorem II{g:TG}(d:PE X e te)(t:PG X tg g)(hs:ac9 [tg] e pos.line X.env=pure false:=by rfl)(k:ada [tg] e X.env=pure none:=by rfl)
  (n:(abE [tg] X.env).map (·.2)=[ad8 tg X.env]:=by rfl):PS X (.Assign [tg] e pos) (tAsg te g):=by
 intro pins s σ H D I h;refine wpAny_Assign_stores (thn (d pins s σ H _ I h) λv s1 ⟨x,l,m,r1,p⟩=>?_) hs k;rw[n];exact thn (t pins s1 σ l x v _ m r1 p) λ_ s2 q=>q
theorem Rf{x:Str}{p:Pos}(m:X.N.Nodup)(t:X.N[i]?=some x)(k:Loc X.env.scope x)(d:PE X e te)(hs:abH e (some (.Name x p)) pos.line X.env=pure false:=by rfl)(n:X.fn x=true\/X.env.scope.names.lookup x=some .local:=by first|exact .inl rfl|exact .inr rfl|assumption) :
  PS X (.Assign [.Name x p] e pos) (tAsg te (D9 i)):=by
 intro pins s σ H D I h;refine wpAny_Assign_Name (thn (d pins s σ H _ I h) λv s1 ⟨y,q,z,r1,B⟩=>?_) hs;exact ii z m t k r1 (λs2 l=>⟨_,q,l,B⟩) n
def tPar(i j:Nat)(t:TA):TS:=λD σ H=>t σ H λvs d=>∃v w,vs=[v,w]/\D.nx ((σ.set i (some v)).set j (some w)) d
theorem R8{x y:Str}{a b:Expr}{O:TA}{z n pt:Pos}{kt k2 pt2}(hc:X.calm=true)(L:X.N.Nodup)(hi:X.N[i]?=some x)(hj:X.N[j]?=some y)(t:i≠j)
  (J:X.env.scope.names.lookup x=some .local) (F:X.env.scope.names.lookup y=some .local) (ha:PA X [a,b] O)
  (S:ada [.Tuple [.Name x z,.Name y n] kt pt] (.Tuple [a,b] k2 pt2) X.env=pure (some [x,y]))
  (hs:ac9 [.Tuple [.Name x z,.Name y n] kt pt] (.Tuple [a,b] k2 pt2) pos.line X.env=pure false:=by rfl) :
  PS X (.Assign [.Tuple [.Name x z,.Name y n] kt pt] (.Tuple [a,b] k2 pt2) pos) (tPar i j O):=by
 intro pins s σ H D I h;rw[exec_Assign_arm];refine aD (aci ?_);rw[hs];refine aD (Dl ?_);rw[if_neg (by decide)];refine aD (Tuple_ (thn (ha _ pins s σ H _ I h) λus s1 ⟨vs,R,I1,r1,B⟩=>?_));let⟨v,w,V,B⟩:=B;subst V;let⟨k,d,rfl,W,m⟩:∃k d,us=[k,d]/\RelV v k/\RelV w d:=by
  cases r1 with
  | cons p q=>
   cases q with
   |cons p' Y=>
    cases Y;exact⟨_,_,rfl,p,p'⟩
 refine aa3 ?_ (by show 2≤aaf;decide);have T:Inv X pins σ R {s1 with heap:=s1.heap.push {cls:=.type "tuple",data:=.seq [k,d].toArray} }:=I1.kept (t':=s1.toks) λb o e=>AD _ e;rw[S];refine aD (Dl ?_);refine aD (acO (aD (unpackItems_tuple (items:=#[k,d]) (I.ok.hd hc) (IsTup.new s1.heap _) λh' l=>?_)));have U:=T.kept (h':=h') (t':=s1.toks) λb o e=>l b o (aaK (aab e)) e;show wpAny _ _ (assignInOrder [λv=>bindName X.env y v,λv=>bindName X.env x v] [d,k] >>= λ_=>pure Flow.next) _ _ _;refine aD (afh (wpAny_bindName (ii U L hj (.inl F) m (λs2 Z=>?_) (.inr F))));refine afh (wpAny_bindName (ii Z L hi (.inl J) W (λs3 G=>assignInOrder_nil (Dl ?_)) (.inr J)));rw[List.set_comm _ _ (abb t)]at G;exact⟨_,R,G,B⟩
def tAug(i:Nat)(te:TE)(ti:TIp):TS:=λD σ H=>∃x,σ[i]?=some (some x)/\te σ H λy k=>ti x y k λz d=>D.nx (σ.set i (some z)) d
theorem Ur{x:Str}{op:afg}{ti:TIp}{t:Pos}(V:X.N.Nodup)(F:X.N[i]?=some x)(B:Loc X.env.scope x)(G:PE X e te)(ho:PIp X op ti)(W:X.fn x=true\/X.env.scope.names.lookup x=some .local:=by first|exact .inl rfl|exact .inr rfl|assumption) :
  PS X (.AugAssign (.Name x t) op e pos) (tAug i te ti):=by
 intro pins s σ H D I h;let⟨v,O,h⟩:=h;let⟨m,S,T⟩:=I.loc;have vis:Vis X.env.scope x:=by rcases B with k|k;exact .inl k;exact .inr (.inl k)
 let⟨u,r,l⟩:=T i x v F O vis;refine wpAny_AugAssign_Name ?_;have go:wpAny (model X.prog X.w) X.A (eval e X.env) (λw q=>wpAny (model X.prog X.w) X.A (inplaceOp op u w) (λr p=>wpAny (model X.prog X.w) X.A (storeName X.env x r) (λ_=>SP X pins D .next) X.xe p) X.xe q) X.xe s:=by
  refine thn (G pins s σ H _ I h) λw s1 ⟨y,H1,I1,r1,q1⟩=>?_;refine thn (ho pins s1 σ H1 v y u w _ I1 r r1 q1) λz s2 ⟨zv,Y,J,R,U⟩=>?_;exact ii J V F B R (λs3 L=>⟨_,Y,L,U⟩) W
 rcases l with⟨d,Z⟩|⟨d,c,hc,n⟩
 .exact wpAny_loadName_local I.ok.kind d S Z go
 .rcases d with d|d
  .exact wpAny_loadName_cell I.ok.kind d hc n go
  .rcases B with k|k
   .have:X.env.scope.names.lookup x=some .free:=d;rw[k]at this;cases this
   .have:X.env.scope.names.lookup x=some .free:=d;rw[k]at this;cases this
end
section
variable {X:Cx}{pos:Pos}
def OG(c:TT)(tb:TS):TS:=λD σ H=>∃W:Nat->St->Hp->Prop,(∃m,W m σ H)/\∀m σ H,W m σ H ->
 c σ H λb n=>if b=true then ∃N:St->Hp->Prop,(∀d k,N d k->∃l,l<m/\W l d k)/\tb {D with nx:=N,ct:=N,bk:=D.nx} σ n else D.nx σ n
theorem GJ{J:TT}{tb:TS}(hp:afV (model X.prog X.w) X.A X.env X.xe)(V:PT X c J)(hb:PSs X body tb):PS X (.While c body [] pos) (OG J tb):=by
 intro pins s σ H D I h;let⟨W,⟨Y,U⟩,t⟩:=h;refine wpAny_While (codeAny_whileLoop (λn T=>∃m S,Inv X pins m S T/\W n m S) ?_ Y ⟨σ,H,I,U⟩);intro n s1 ⟨k,O,I1,Z⟩;refine acX hp (thn (V pins s1 k O _ I1 (t n k O Z)) λb s2 ⟨L,G,q⟩=>?_)
 cases b with
 | true=>
  let⟨N,R,q⟩:=q;rw[if_pos rfl];refine acX hp (thn (hb pins s2 k L _ G q) λf s3 p=>?_)
  cases f with
  |next=>
   let⟨d,l,x,z⟩:=p;let⟨y,F,B⟩:=R d l z;exact⟨y,F,d,l,x,B⟩
  |cont=>
   let⟨d,l,x,z⟩:=p;let⟨y,F,B⟩:=R d l z;exact⟨y,F,d,l,x,B⟩
  |brk=>exact p
  |ret v=>exact p
 |false=>
  exact ad3 ⟨k,L,G,q⟩
end
structure It where
 go:Nat->Hp->Prop
 yld:Nat->Hp->V->Hp->Prop
 stop:Nat->Hp->Prop
def FpOk(X:Cx)(pins:List (Addr×Obj))(H:Hp)(b:Addr):Prop:=
 H b=none/\b≠X.env.locals/\b∉X.fs/\(b∈X.ex\/X.s₀.heap.objs.size≤b)/\(∀x c,X.env.cells.lookup x=some c->c≠b)/\∀p∈X.pn++pins,p.1≠b
theorem Inv.fpOk{d:Hp}{s:Ad}(I:Inv X pins σ H s)(hb:s.heap.objs.size≤b)(k:d b=none):FpOk X pins d b:=by
 refine⟨k,aa8 (aak I.lt hb),I.nofs hb,.inr (aao I.sz hb),λx c e z=>?_,λp hp z=>?_⟩
 .obtain⟨v,q⟩:=I.cell x c e;exact absurd (aak q.lt (by simp_all)) (ac8 _)
 .exact absurd (aak (aab (I.pin p hp).1) (by simp_all)) (ac8 _)
structure Turn(P:aaA)(w:World)(K:Io)(tg:Expr)(J:It)(fp:List Addr)(it:Addr)(tn:Nat->aaR->Prop):Prop where
 mem:it∈fp
 obj:∀i h,tn i h->∀b∈fp,∃o,h.get? b=some o/\∀v,o.data≠.cell v
 keep:∀i h h',tn i h->(∀b∈fp,∀o,h.get? b=some o->h'.get? b=some o)->tn i h'
 item:∀(X:Cx),X.prog=P->X.w=w->X.K=K->X.calm=true->∀(i:Nat) (pins:List (Addr×Obj)) (s:Ad) (σ:St) (H:Hp) (E:oR->Ad->Prop),Inv X pins σ H s->(∀b∈fp,FpOk X pins H b)->tn i s.heap->J.go i H ->
  wpAny (model P w) X.A (acP (.ref it)) (λr s1=>∃u,r=some u/\
   wpAny (model P w) X.A (ad4 tg (.ref it) u) (λ_ s2=>∃x H',Inv X pins σ H' s2/\RelV x u/\J.yld i H x H'/\tn (i+1) s2.heap/\∀b∈fp,H' b=none) E s1) E s
 done:∀(X:Cx),X.prog=P->X.w=w->X.K=K->X.calm=true->∀(i:Nat) (pins:List (Addr×Obj)) (s:Ad) (σ:St) (H:Hp) (E:oR->Ad->Prop),Inv X pins σ H s->(∀b∈fp,FpOk X pins H b)->tn i s.heap->J.stop i H ->
  wpAny (model P w) X.A (acP (.ref it)) (λr s1=>r=none/\Inv X pins σ H s1) E s
 self:∀(A:aa2) (i:Nat) (s:Ad) (Q:oR->Ad->Prop) (E:oR->Ad->Prop),tn i s.heap->Q (.ref it) s->wpAny (model P w) A (afi (.ref it)) Q E s
abbrev TI:=St->Hp->(It->Hp->Prop)->Prop
def PIE(X:Cx)(pins:List (Addr×Obj))(σ:St)(tg:Expr)(R:It->Hp->Prop)(d:oR)(s2:Ad):Prop:=
 ∃(l:Addr) (fp:List Addr) (tn:Nat->aaR->Prop) (J:It) (k:Hp),d = .ref l/\Inv X pins σ k s2/\Turn X.prog X.w X.K tg J fp l tn/\tn 0 s2.heap/\(∀b∈fp,FpOk X pins k b)/\R J k
def PI(X:Cx)(tg d:Expr)(k:TI):Prop:=
 ∀(pins:List (Addr×Obj)) (s:Ad) (σ:St) (H:Hp) (R:It->Hp->Prop),Inv X pins σ H s->k σ H R ->
  wpAny (model X.prog X.w) X.A (eval d X.env) (λv s1=>wpAny (model X.prog X.w) X.A (afi v) (PIE X pins σ tg R) X.xe s1) X.xe s
theorem Lj{s:Ad}{k:Addr}{o:Obj}{n:String}{vs:Array oR}{Q:Unit->Ad->Prop}(ho:s.heap.get? k=some o)(l:o.cls = .type n)(hd:o.data = .fields vs)
  (m:["enumerate","zip","dict_itemiterator","dict_reverseitemiterator","odict_iterator","itertools.zip_longest","itertools.pairwise"].contains n=false) (d:Q () s):wpAny M A (ad4 tg (.ref k) u) Q E s:=by
 cases tg<;>first
  |exact Dl d
  | (cases u<;>first
    |exact Dl d
    | (refine aD (wpAny_load ho ?_)
       rw[l,hd];show wpAny M A (if _=true then _ else _) Q E s;rw[if_neg (by grind)];exact Dl d))
def Itl(K:Io)(a:Addr):It:=
 ⟨λi H=>∃d x,SqL K H a d/\d[i]?=some x,λi H x k=>k=H/\∀d,SqL K H a d->d[i]?=some x,λi H=>∃d,SqL K H a d/\d.length≤i⟩
def Itt(K:Io)(a:Addr):It:=
 ⟨λi H=>∃d x,SqT K H a d/\d[i]?=some x,λi H x k=>k=H/\∀d,SqT K H a d->d[i]?=some x,λi H=>∃d,SqT K H a d/\d.length≤i⟩
def Itr(lo:Int)(n:Nat):It:=⟨λi _=>i<n,λi H x d=>d=H/\x = .int (lo+i),λi _=>n≤i⟩
theorem zj(a l:Addr):Turn P w K tg (Itl K a) [l] l (λi h=>h.IsListIter l a i) where
 mem:=by simp
 obj:=λi h st b hb=>by
  have e:b=l:=by simpa using hb
  subst e;let⟨o,e,c,d⟩:=st;exact⟨o,e,λv z=>by rw[d]at z;cases z⟩
 keep:=λi h n st k=>st.at λo e=>k l (by simp) o e
 item:=by
  intro X S y R V i pins s σ H E I t st J;subst S y R;let⟨xs,x,q,L⟩:=J;let⟨O,B,p,Z⟩:=I.list q;let⟨u,hu,W⟩:=B.get L;let⟨F,U,f2,T,D,G⟩:=t l (by simp);refine wpAny_pyNext_list_item st p.isList (x:=u) (by simpa using hu) λn m sb=>?_;have I1:Inv X pins σ H {s with heap:=n }:=I.turned (t':=s.toks) (λb o hb e=>(sb.2 b hb).trans e) F U T D G;let⟨o,e,c,d⟩:=id m;exact⟨u,rfl,Lj (s:={s with heap:=n }) e c d (by decide) ⟨x,H,I1,W,⟨rfl,λys Y=>by rw[I.list_inj Y q];exact L⟩,m,λb hb=>(t b hb).1⟩⟩
 done:=by
  intro X S y R V i pins s σ H E I t st J;subst S y R;let⟨xs,q,L⟩:=J;let⟨O,B,p,Z⟩:=I.list q;let⟨F,U,f2,T,D,G⟩:=t l (by simp);have hl:=B.length;exact wpAny_pyNext_list_end (I.ok.hd V) st p.isList (by simp;omega) λn eb=>⟨rfl,I.turned (t':=s.toks) (λb o hb e=>eb b o hb e) F U T D G⟩
 self:=λ_ _ _ _ _ st h=>wpAny_pyIter_listiter st h
theorem wY(a l:Addr):Turn P w K tg (Itt K a) [l] l (λi h=>h.IsTupleIter l a i) where
 mem:=by simp
 obj:=λi h st b hb=>by
  have e:b=l:=by simpa using hb
  subst e;let⟨o,e,c,d⟩:=st;exact⟨o,e,λv z=>by rw[d]at z;cases z⟩
 keep:=λi h q st k=>st.at λo e=>k l (by simp) o e
 item:=by
  intro X S B R V i pins s σ H E I y st L;subst S B R;let⟨xs,x,t,O⟩:=L;let⟨m,D,p,Z⟩:=I.tuple t;let⟨u,hu,W⟩:=D.get O;let⟨G,U,f2,T,F,J⟩:=y l (by simp);refine wpAny_pyNext_tuple_item st (show s.heap.IsTuple a m.toArray from p) (x:=u) (by simpa using hu) λq n sb=>?_;have I1:Inv X pins σ H {s with heap:=q }:=I.turned (t':=s.toks) (λb o hb e=>(sb.2 b hb).trans e) G U T F J;let⟨o,e,c,d⟩:=id n;exact⟨u,rfl,Lj (s:={s with heap:=q }) e c d (by decide) ⟨x,H,I1,W,⟨rfl,λys Y=>by rw[I.tuple_inj Y t];exact O⟩,n,λb hb=>(y b hb).1⟩⟩
 done:=by
  intro X S B R V i pins s σ H E I y st L;subst S B R;let⟨xs,t,O⟩:=L;let⟨m,D,p,Z⟩:=I.tuple t;let⟨G,U,f2,T,F,J⟩:=y l (by simp);have hl:=D.length;exact wpAny_pyNext_tuple_end (I.ok.hd V) st (show s.heap.IsTuple a m.toArray from p) (by simp;omega) λq eb=>⟨rfl,I.turned (t':=s.toks) (λb o hb e=>eb b o hb e) G U T F J⟩
 self:=λ_ _ _ _ _ st h=>wpAny_pyIter_tupleiter st h
theorem wg(d:Addr)(lo:Int)(n:Nat):Turn P w K tg (Itr lo n) [d] d (λi h=>IsRangeIter h d (lo+(i:Nat)*1) ((n:Int)-(i:Nat)) 1) where
 mem:=by simp
 obj:=λi h st b hb=>by
  simp_all
 keep:=λi h m st k=>k d (by simp) _ st
 item:=by
  intro X G q F D i pins s σ H E I p st B;subst G q F;let⟨y,L,R,J,x,z⟩:=p d (by simp);have W:=Walks.range (prog:=X.prog) (w:=X.w) (I.ok.hd D) d lo 1 n;refine W.item i s _ _ B st λv m tk O l S=>?_;let⟨t,rfl⟩:=O;have T:Inv X pins σ H {s with heap:=m,toks:=tk}:=I.turned (λb o hb e=>S b o (by simpa using hb) e) y L J x z;refine⟨_,rfl,Lj (s:={s with heap:=m,toks:=tk}) (n:= "range_iterator") l rfl rfl (by decide) ⟨.int (lo+i),H,T,⟨t,?_⟩,⟨rfl,rfl⟩,l,λb hb=>(p b hb).1⟩⟩;rw[afA]
 done:=by
  intro X G q F D i pins s σ H E I p st B;subst G q F;let⟨y,L,R,J,x,z⟩:=p d (by simp);exact wpAny_pyNext_range_end (I.ok.hd D) st (by have:n≤i:=B;omega) λm eb=>⟨rfl,I.turned (t':=s.toks) (λb o hb e=>eb b o hb e) y L J x z⟩
 self:=λ_ _ _ _ _ st h=>wpAny_pyIter_rangeiter st h
section
variable {X:Cx}{tg:Expr}
theorem DF{s:Ad}{R:It->Hp->Prop}{lo d:Int}{t u v:Tok}{tk:Nat}(I:Inv X pins σ H s)(p : -(2^62)≤lo)(n:lo<2^62)(l : -(2^62)≤d)(m:d<2^62)
  (q:R (Itr lo (d-lo).toNat) H):wpAny (model X.prog X.w) X.A (afi (.ref s.heap.objs.size)) (PIE X pins σ tg R) E {s with heap:=s.heap.push {cls:=.type "range",data:=.fields #[.int lo t,.int d u,.int 1 v]},toks:=tk}:=by
 refine wpAny_pyIter_range (IsRange.new ..) (small_one p n l m) ?_;have k:Inv X pins σ H {s with heap:=s.heap.push {cls:=.type "range",data:=.fields #[.int lo t,.int d u,.int 1 v]},toks:=tk}:=I.kept λb o e=>AD _ e;refine⟨(s.heap.push {cls:=.type "range",data:=.fields #[.int lo t,.int d u,.int 1 v]}).objs.size,[(s.heap.push {cls:=.type "range",data:=.fields #[.int lo t,.int d u,.int 1 v]}).objs.size],_,_,H,rfl,
  k.kept (t':=tk) λb o e=>AD _ e,wg _ lo (d-lo).toNat,?_,λb hb=>?_,q⟩
 .have e1:lo+((0:Nat):Int)*1=lo:=by simp
  have x:(((d-lo).toNat):Int)-((0:Nat):Int)=acE.Range.rangeSize lo d 1:=by rw[rangeSize_one];split<;>omega
  rw[e1,x];exact aai _ rfl
 .have e:b=(s.heap.push {cls:=.type "range",data:=.fields #[.int lo t,.int d u,.int 1 v]}).objs.size:=by simpa using hb
  subst e;exact k.fpOk (Ge _) (k.hok.fresh (Ge _))
def VY(t:TA):TI:=λσ H R=>t σ H λvs d=>∃j:Int,vs=[.int j]/\-(2^62)≤j/\j<2^62/\R (Itr 0 j.toNat) d
theorem yN{a:Expr}{k:TA}{p:Pos}(n:Gl X "range")(l:X.mg "range" = none)(ha:PA X [a] k)(hs:OR [a] X.env=[(false,eval a X.env)]:=by rfl):PI X tg (.Call (.Name "range" p) [a] [] pos) (VY k):=by
 intro pins s σ H R I h;refine Call_ (kI I n l boot_range (acF (thn (ha pos pins s σ H _ I h) λus s1 ⟨vs,y,m,r1,d⟩=>?_) hs rfl));let⟨j,e,d,x,q⟩:=d;subst e
 cases r1 with
 |cons r rr=>
  cases rr;let⟨t,rfl⟩:=r;exact call_range_1 (DF m (by decide) (by decide) d x (by simpa))
def tFor(q:TI)(g:TG)(tb:TS):TS:=λD σ H=>q σ H λJ s=>∃W:Nat->Nat->St->Hp->Prop,(∃m,W 0 m σ s)/\∀i m σ H,W i m σ H ->
 (J.stop i H/\D.nx σ H)\/(J.go i H/\∃N:St->Hp->Prop,(∀k d,N k d->∃n,n<m/\W (i+1) n k d)/\∀x d,J.yld i H x d->g x σ d λl p=>tb {D with nx:=N,ct:=N,bk:=D.nx} l p)
def qq(fp:List Addr)(h:aaR):List (Addr×Obj):=fp.filterMap λb=>(h.get? b).map λo=>(b,o)
def gU{o:Obj}(hb:b∈fp)(e:h.get? b=some o):(b,o)∈qq fp h:=List.mem_filterMap.mpr ⟨b,hb,by rw[e];rfl⟩
theorem zU{p:Addr×Obj}(hp:p∈qq fp h):p.1∈fp/\h.get? p.1=some p.2:=by
 let⟨b,hb,e⟩:=List.mem_filterMap.mp hp
 cases q:h.get? b with
 |none=>rw[q]at e;cases e
 |some o=>
  rw[q]at e;have d:=aam e;subst d;exact⟨hb,q⟩
theorem Inv.pinned{s:Ad}(I:Inv X pins σ H s)(d:∀b∈fp,FpOk X pins H b)(ho:∀b∈fp,∃o,s.heap.get? b=some o/\∀v,o.data≠.cell v):Inv X (pins++qq fp s.heap) σ H s:=
 I.pins_of λp hp=>(aa4.mp hp).elim (λz=>I.pin p (abh _ z)) λz=>by
  let⟨hb,e⟩:=zU z;let⟨k,l,m,_⟩:=d p.1 hb;obtain _:=ho p.1 hb
  simp_all
def Inv.unpinned{d:List (Addr×Obj)}{s:Ad}(I:Inv X (pins++d) σ H s):Inv X pins σ H s:=I.pins_of λp hp=>I.pin p (abh _ (adB _ hp))
theorem TM{z:Expr}{wi:TI}{g:TG}{tb:TS}(hp:afV (model X.prog X.w) X.A X.env X.xe)(hc:X.calm=true)(hi:PI X tg z wi)(hg:PG X tg g)(hb:PSs X body tb)
  (hs:∀x,aaP z X.env x=pure x:=by intro _;rfl):PS X (.For tg z body [] pos) (tFor wi g tb):=by
 intro pins s σ H D I h;refine wpAny_For (thn (hi pins s σ H _ I h) λv s1 h1=>thn h1 λitv s2 h2=>?_) hs;let⟨it,fp,tn,J,H2,e,I2,T,st2,f2,W,⟨m0,w0⟩,U⟩:=h2;subst e;have p:∀{F:Hp},(∀b∈fp,F b=none)->∀b∈fp,FpOk X pins F b:=λhn b hb=>⟨hn b hb,(f2 b hb).2⟩;refine codeAny_forLoop_any (λn s'=>∃i q F,Inv X pins q F s'/\tn i s'.heap/\(∀b∈fp,F b=none)/\W i n q F) ?_ m0 ⟨0,σ,H2,I2,st2,λb hb=>(f2 b hb).1,w0⟩;intro n s3 ⟨i,y,V,I3,R,O,w3⟩;rcases U i n y V w3 with⟨stop,qn⟩|⟨go,N,hN,step⟩
 .refine acX hp (thn (T.done X rfl rfl rfl hc i pins s3 y V X.xe I3 (p O) R stop) λr s4 ⟨hr,I4⟩=>?_);subst hr;exact ad3 ⟨y,V,I4,qn⟩
 .refine acX hp (thn (T.item X rfl rfl rfl hc i pins s3 y V X.xe I3 (p O) R go) λr s4 ⟨u,hr,h4⟩=>?_);subst hr;refine acX hp (thn h4 λ_ s5 ⟨x,H5,I5,r5,y5,L,fr5⟩=>?_);have Z:=I5.pinned (p fr5) (T.obj _ _ L);refine acX hp (thn (hg _ s5 y H5 x u _ Z r5 (step x H5 y5)) λ_ s6 ⟨Y,H6,I6,q6⟩=>?_);refine acX hp (thn (hb _ s6 Y H6 _ I6 q6) λf s7 G=>?_);have l:∀{k:St}{B:Hp},Inv X (pins++qq fp s5.heap) k B s7->N k B->∃m,m<n/\∃i q F,Inv X pins q F s7/\tn i s7.heap/\(∀b∈fp,F b=none)/\W i m q F:=λ{k B} t S=>by
   let⟨m',hm,w7⟩:=hN k B S;refine⟨m',hm,i+1,k,B,t.unpinned,T.keep _ _ _ L λb hb o e=>(t.pin (b,o) (abh _ (abh _ (gU hb e)))).1,λb hb=>?_,w7⟩;let⟨o,e,d⟩:=T.obj _ _ L b hb;exact(t.pin (b,o) (abh _ (abh _ (gU hb e)))).2.1
  cases f with
  |next=>let⟨k,B,t,S⟩:=G;exact l t S
  |cont=>let⟨k,B,t,S⟩:=G;exact l t S
  |brk=>let⟨k,B,t,G⟩:=G;exact⟨k,B,t.unpinned,G⟩
  |ret v=>let⟨x7,k,B,t,r7,G⟩:=G;exact⟨x7,k,B,t.unpinned,r7,G⟩
end
abbrev R2:=V->V->Hp->VK->Prop
def OpR(X:Cx)(f:oR->oR->Sem oR)(r:R2):Prop:=
 ∀(pins:List (Addr×Obj)) (s:Ad) (σ:St) (H:Hp) (x y:V) (v u:oR) (Q:VK),Inv X pins σ H s->RelV x v->RelV y u->r x y H Q ->
  wpAny (model X.prog X.w) X.A (f v u) (EP X pins σ Q) X.xe s
def UnR(X:Cx)(f:oR->Sem oR)(r:V->Hp->VK->Prop):Prop:=
 ∀(pins:List (Addr×Obj)) (s:Ad) (σ:St) (H:Hp) (x:V) (v:oR) (Q:VK),Inv X pins σ H s->RelV x v->r x H Q ->
  wpAny (model X.prog X.w) X.A (f v) (EP X pins σ Q) X.xe s
def c7(X:Cx)(f:oR)(r:List V->Hp->VK->Prop):Prop:=
 ∀(pins:List (Addr×Obj)) (s:Ad) (σ:St) (H:Hp) (x:List V) (us:List oR) (Q:VK),Inv X pins σ H s->Vals x us->r x H Q ->
  wpAny (model X.prog X.w) X.A (call f us) (EP X pins σ Q) X.xe s
def tOp(r:R2)(t tb:TE):TE:=λσ H Q=>t σ H λx k=>tb σ k λy d=>r x y d Q
def tUn(r:V->Hp->VK->Prop)(t:TE):TE:=λσ H Q=>t σ H λx d=>r x d Q
def rI(C:Int->Int->Prop)(g:Int->Int->V):R2:=λx y H Q=>∃i j,x = .int i/\y = .int j/\C i j/\Q (g i j) H
def rI0(g:Int->Int->V):R2:=λx y H Q=>∃i j,x = .int i/\y = .int j/\Q (g i j) H
def rU(g:Int->V):V->Hp->VK->Prop:=λx H Q=>∃i,x = .int i/\Q (g i) H
section
variable {X:Cx}{a b c:Expr}{d tb e:TE}{pos:Pos}
def binT(ha:PE X a d)(hb:PE X b tb){s:Ad}{R:V->V->Hp->Prop}(I:Inv X pins σ H s)
  (h:d σ H λx n=>tb σ n λy k=>R x y k) 
  (q:∀v u s2 x y k,Inv X pins σ k s2->RelV x v->RelV y u->R x y k->wpAny (model X.prog X.w) X.A (f v u) Q X.xe s2) :
  wpAny (model X.prog X.w) X.A (eval a X.env) (λv l=>wpAny (model X.prog X.w) X.A (eval b X.env) (λu m=>wpAny (model X.prog X.w) X.A (f v u) Q X.xe m) X.xe l) X.xe s:=by
 refine thn (ha pins s σ H _ I h) λv s1 ⟨x,n,z,r1,B⟩=>?_;refine thn (hb pins s1 σ n _ z B) λu s2 ⟨y,k,p,t,D⟩=>?_;exact q v u s2 x y k p r1 t D
theorem V3{op:afg}(ho:OpR X (acp op) r)(ha:PE X a d)(hb:PE X b tb):PE X (.BinOp a op b pos) (tOp r d tb):=by
 intro pins s σ H Q I h;exact wpAny_BinOp (binT ha hb I h λv u s2 x y m k n l q=>ho pins s2 σ m x y v u Q k n l q)
theorem Vf{op:UnaryOp}{r:V->Hp->VK->Prop}(ho:UnR X (unaryOp op) r)(ha:PE X a d):PE X (.UnaryOp op a pos) (tUn r d):=by
 intro pins s σ H Q I h;exact UnaryOp_ (thn (ha pins s σ H _ I h)<|by intro v s1 ⟨x,l,k,r1,q⟩;exact ho pins s1 σ l x v Q k r1 q)
theorem opI{C:Int->Int->Prop}
  (k:∀(i j:Int) (t u:Tok) (s:Ad) (Q:oR->Ad->Prop) (E:oR->Ad->Prop),C i j->Q (.int (g i j) s.toks) {s with toks:=s.toks+1}->wpAny (model X.prog X.w) X.A (f (.int i t) (.int j u)) Q E s) :
  OpR X f (rI C λi j=>.int (g i j)):=by
 intro pins s σ H x y v u Q I n l h;let⟨i,j,rfl,rfl,m,q⟩:=h;let⟨t,rfl⟩:=n;let⟨t',rfl⟩:=l;exact k i j t t' s _ _ m ⟨.int _,H,I.tok _,⟨_,rfl⟩,q⟩
theorem opI0
  (k:∀(i j:Int) (t u:Tok) (s:Ad) (Q:oR->Ad->Prop) (E:oR->Ad->Prop),Q (.int (g i j) s.toks) {s with toks:=s.toks+1}->wpAny (model X.prog X.w) X.A (f (.int i t) (.int j u)) Q E s) :
  OpR X f (rI0 λi j=>.int (g i j)):=by
 intro pins s σ H x y v u Q I m l h;let⟨i,j,rfl,rfl,q⟩:=h;let⟨t,rfl⟩:=m;let⟨t',rfl⟩:=l;exact k i j t t' s _ _ ⟨.int _,H,I.tok _,⟨_,rfl⟩,q⟩
theorem opB0{g:Int->Int->Bool}
  (k:∀(i j:Int) (t u:Tok) (s:Ad) (Q:oR->Ad->Prop) (E:oR->Ad->Prop),Q (.bool (g i j)) s->wpAny (model X.prog X.w) X.A (f (.int i t) (.int j u)) Q E s) :
  OpR X f (rI0 λi j=>.bl (g i j)):=by
 intro pins s σ H x y v u Q I m l h;let⟨i,j,rfl,rfl,q⟩:=h;let⟨t,rfl⟩:=m;let⟨t',rfl⟩:=l;exact k i j t t' s _ _ ⟨.bl _,H,I,rfl,q⟩
def CPow(i j:Int):Prop:=0≤j/\j≤1000000/\i.natAbs<2^64
def CMul(i j:Int):Prop:=(-(2^64)<i/\i<2^64)\/(-(2^64)<j/\j<2^64)
def CMul.ok{i j:Int}(h:CMul i j):afW i j:=by
 rcases h with⟨l,k⟩|⟨l,k⟩
 .exact .of_left (intBits_le_64 l k)
 .exact .of_right (intBits_le_64 l k)
def RJ:OpR X (acp .Add) (rI0 λi j=>.int (i+j)):=opI0 λ_ _ _ _ _ _ _ q=>add_int q
def Ql:OpR X (acp .Mod) (rI (λ_ j=>0<j) λi j=>.int (i%j)):=opI λi j _ _ _ _ _ k q=>by
 exact mod_int' (by omega) (by rw[Int.fmod_eq_emod_of_nonneg i (by omega)];exact q)
def QK:OpR X (acp .Pow) (rI CPow λi j=>.int (i^j.toNat)):=opI λ_ _ _ _ _ _ _ k q=>pow_int_small k.1 k.2.1 k.2.2 q
theorem unI{f:oR->Sem oR}{g:Int->Int}
  (k:∀(i:Int) (t:Tok) (s:Ad) (Q:oR->Ad->Prop) (E:oR->Ad->Prop),Q (.int (g i) s.toks) {s with toks:=s.toks+1}->wpAny (model X.prog X.w) X.A (f (.int i t)) Q E s) :
  UnR X f (rU λi=>.int (g i)):=by
 intro pins s σ H x v Q I l h;let⟨i,rfl,q⟩:=h;let⟨t,rfl⟩:=l;exact k i t s _ _ ⟨.int _,H,I.tok _,⟨_,rfl⟩,q⟩
def Uq:UnR X (unaryOp .USub) (rU λi=>.int (-i)):=unI λ_ _ _ _ _ q=>neg_int q
end
def scal:V->V->Bool
 | .non,.non=>true | .non,.int _=>true | .int _,.non=>true | .non,.bl _=>true | .bl _,.non=>true | .non,.str _=>true | .str _,.non=>true
 | .int _,.int _=>true | .bl _,.bl _=>true | .str _,.str _=>true | .byt _,.byt _=>true
 | .int _,.str _=>true | .str _,.int _=>true | .bl _,.str _=>true | .str _,.bl _=>true
 |_,_=>false
def rEq:R2:=λx y H Q=>scal x y=true/\Q (.bl (decide (x=y))) H
def rNe:R2:=λx y H Q=>scal x y=true/\Q (.bl (!decide (x=y))) H
def y7{i j:Int}:decide (V.int i=V.int j)=(i==j):=by
 rw[ab6];simp
def Jg{i j:Bool}:decide (V.bl i=V.bl j)=(i==j):=by
 rw[ab6];simp
def ph{i j:Str}:decide (V.str i=V.str j)=(i==j):=by
 rw[ab6];simp
def yk{i j:Array UInt8}:decide (V.byt i=V.byt j)=(i.toList==j.toList):=by
 rw[ab6];simp
section
variable {X:Cx}{a b c:Expr}{d tb f:TE}{pos:Pos}
def bw{s:Ad}{Q:VK}{k k':Bool}(I:Inv X pins σ H s)(q:Q (.bl k) H)(e:k=k'):EP X pins σ Q (.bool k') s:=by
 subst e;exact⟨.bl k,H,I,rfl,q⟩
theorem UU:OpR X (abp .Eq) rEq:=by
 intro pins s σ H x y v u Q I l k h;let⟨hs,q⟩:=h
 cases x with
 |non=>
  cases l
  cases y with
  |non=>cases k;exact PySem.EqNone.eq_none_none (bw I q (by simp))
  |bl j=>cases k;exact PySem.EqNone.eq_none_bool (bw I q (by simp))
  |int j=>let⟨t',rfl⟩:=k;exact PySem.EqNone.eq_none_int (bw I q (by simp))
  |str j=>let⟨t',rfl⟩:=k;exact PySem.EqNone.eq_none_str (bw I q (by simp))
  |_=>exact absurd (show false=true from hs) aan
 |bl i=>
  cases l
  cases y with
  |non=>cases k;exact PySem.EqNone.eq_bool_none (bw I q (by simp))
  |bl j=>cases k;exact eq_bool (bw I q Jg)
  |str j=>let⟨t',rfl⟩:=k;exact PySem.EqMixed.eq_bool_str (bw I q (by simp))
  |_=>exact absurd (show false=true from hs) aan
 |int i=>
  let⟨t,rfl⟩:=l
  cases y with
  |non=>cases k;exact PySem.EqNone.eq_int_none (bw I q (by simp))
  |int j=>let⟨t',rfl⟩:=k;exact eq_int (bw I q y7)
  |str j=>let⟨t',rfl⟩:=k;exact PySem.EqMixed.eq_int_str (bw I q (by simp))
  |_=>exact absurd (show false=true from hs) aan
 |str i=>
  let⟨t,rfl⟩:=l
  cases y with
  |non=>cases k;exact PySem.EqNone.eq_str_none (bw I q (by simp))
  |bl j=>cases k;exact PySem.EqMixed.eq_str_bool (bw I q (by simp))
  |int j=>let⟨t',rfl⟩:=k;exact PySem.EqMixed.eq_str_int (bw I q (by simp))
  |str j=>let⟨t',rfl⟩:=k;exact eq_str (bw I q ph)
  |_=>exact absurd (show false=true from hs) aan
 |byt i=>
  let⟨t,rfl⟩:=l
  cases y with
  |byt j=>let⟨t',rfl⟩:=k;exact PySem.W.eq_bytes (bw I q yk)
  |_=>exact absurd (show false=true from hs) aan
 |_=>cases y<;>exact absurd (show false=true from hs) aan
theorem Vn:OpR X (abp .NotEq) rNe:=by
 intro pins s σ H x y v u Q I l k h;let⟨hs,q⟩:=h
 cases x with
 |non=>
  cases l
  cases y with
  |non=>cases k;exact PySem.EqNone.ne_none_none (bw I q (by rfl))
  |bl j=>cases k;exact PySem.EqNone.ne_none_bool (bw I q (by simp))
  |int j=>let⟨t',rfl⟩:=k;exact PySem.EqNone.ne_none_int (bw I q (by simp))
  |str j=>let⟨t',rfl⟩:=k;exact PySem.EqNone.ne_none_str (bw I q (by simp))
  |_=>exact absurd (show false=true from hs) aan
 |bl i=>
  cases l
  cases y with
  |non=>cases k;exact PySem.EqNone.ne_bool_none (bw I q (by simp))
  |bl j=>cases k;exact ne_bool (bw I q (congrArg not Jg))
  |str j=>let⟨t',rfl⟩:=k;exact PySem.EqMixed.ne_bool_str (bw I q (by simp))
  |_=>exact absurd (show false=true from hs) aan
 |int i=>
  let⟨t,rfl⟩:=l
  cases y with
  |non=>cases k;exact PySem.EqNone.ne_int_none (bw I q (by simp))
  |int j=>let⟨t',rfl⟩:=k;exact ne_int (bw I q (congrArg not y7))
  |str j=>let⟨t',rfl⟩:=k;exact PySem.EqMixed.ne_int_str (bw I q (by simp))
  |_=>exact absurd (show false=true from hs) aan
 |str i=>
  let⟨t,rfl⟩:=l
  cases y with
  |non=>cases k;exact PySem.EqNone.ne_str_none (bw I q (by simp))
  |bl j=>cases k;exact PySem.EqMixed.ne_str_bool (bw I q (by simp))
  |int j=>let⟨t',rfl⟩:=k;exact PySem.EqMixed.ne_str_int (bw I q (by simp))
  |str j=>let⟨t',rfl⟩:=k;exact ne_str (bw I q (congrArg not ph))
  |_=>exact absurd (show false=true from hs) aan
 |byt i=>
  let⟨t,rfl⟩:=l
  cases y with
  |byt j=>let⟨t',rfl⟩:=k;exact PySem.W.ne_bytes (bw I q (congrArg not yk))
  |_=>exact absurd (show false=true from hs) aan
 |_=>cases y<;>exact absurd (show false=true from hs) aan
def VC:OpR X (abp .Lt) (rI0 λi j=>.bl (decide (i<j))):=opB0 λ_ _ _ _ _ _ _ q=>lt_int q
def Wj:OpR X (abp .Gt) (rI0 λi j=>.bl (decide (j<i))):=opB0 λ_ _ _ _ _ _ _ q=>gt_int q
def U7:OpR X (abp .GtE) (rI0 λi j=>.bl (decide (j≤i))):=opB0 λ_ _ _ _ _ _ _ q=>ge_int q
theorem Ku:OpR X (abp .IsNot) (λx y H Q=>y = .non/\Q (.bl (!decide (x = .non))) H):=by
 intro pins s σ H x y v u Q I k l h;let⟨rfl,q⟩:=h;cases l;refine isnot_none_gen (bw I q ?_)
 cases x<;>first
  |(cases k;rfl)
  |(let⟨t,rfl⟩:=k;rfl)
def aK(b:Expr)(h:op≠.In:=by decide)(k:op≠.NotIn:=by decide):adb op b=false:=by
 have l:(op==CmpOp.In)=false:=by cases op<;>first|rfl|exact absurd rfl h
 have m:(op==CmpOp.NotIn)=false:=by cases op<;>first|rfl|exact absurd rfl k
 cases b<;>simp[adb,l,m]
theorem KJ(ho:OpR X (abp op) r)(ha:PE X a d)(hb:PE X b tb)(n:adb op b=false):PE X (.Compare a [op] [b] pos) (tOp r d tb):=by
 intro pins s σ H Q I h;exact wpAny_Compare1 (binT ha hb I h λv u s2 x y m k p l q=>ho pins s2 σ m x y v u Q k p l q) n
def P8(t:TE):TT:=λσ H Q=>t σ H λx l=>∃k,x = .bl k/\Q k l
theorem LJ(ho:OpR X (abp op) r)(ha:PE X a d)(hb:PE X b tb)(D:adb op b=false):PT X (.Compare a [op] [b] pos) (P8 (tOp r d tb)):=by
 intro pins s σ H Q I h;refine wpAny_isTrue_Compare1 (thn (ha pins s σ H _ I h) λv s1 ⟨x,G,J,r1,L⟩=>thn (hb pins s1 σ G _ J L) λu s2 ⟨y,B,l,p,q⟩=>
  thn (ho pins s2 σ B x y v u _ l r1 p q) λc O ⟨z,F,m,n,k,e,t⟩=>?_) D
 subst e;cases n;exact wpAny_truthy_bool ⟨F,m,t⟩
def md:(aaf:Nat)<2^63:=by  decide
theorem w9:OpR X (acp .Add) (λx y H Q=>∃i j,x = .str i/\y = .str j/\i.length+j.length≤aaf/\Q (.str (i++j)) H):=by
 intro pins s σ H x y v u Q I m k h;let⟨i,j,rfl,rfl,l,q⟩:=h;let⟨t,rfl⟩:=m;let⟨t',rfl⟩:=k;exact add_str (λt' tk=>⟨.str _,H,I.tok _,⟨_,rfl⟩,q⟩) l
theorem vV{x:V}(r:Vals [x] us):∃u,us=[u]/\RelV x u:=by
 cases r with
 |cons r1 k=>cases k;exact⟨_,rfl,r1⟩
theorem Fu:c7 X (.builtin "abs") (λxs H Q=>∃i,xs=[.int i]/\Q (.int (if i<0 then -i else i)) H):=by
 intro pins s σ H xs us Q I r h;let⟨i,rfl,q⟩:=h;let⟨u,rfl,t,rfl⟩:=vV r;exact call_abs_int λu tk=>⟨.int _,H,I.tok _,⟨_,rfl⟩,q⟩
theorem q9:c7 X (.type "int") (λxs H Q=>(∃i,xs=[.int i]/\Q (.int i) H)\/∃k,xs=[.bl k]/\Q (.int (if k then 1 else 0)) H):=by
 intro pins s σ H xs us Q I r h;rcases h with⟨i,rfl,q⟩|⟨k,rfl,q⟩
 .obtain⟨u,rfl,t,rfl⟩:=vV r;exact call_int_int ⟨.int i,H,I,⟨_,rfl⟩,q⟩
 .obtain⟨u,rfl,r1⟩:=vV r;cases r1;exact call_int_bool ⟨.int _,H,I.tok _,⟨_,rfl⟩,q⟩
end
theorem Ae{dx:Addr}{m:Str->Option oR}(n:h.Ns1 dx m):∃od,h.get? dx=some od/\∀name,ah7 name od=some (m name):=by
 let⟨o,es,x,ho,hd,p,_,s⟩:=n;refine⟨o,ho,λname=>?_⟩;have e:=s name;unfold nsFind findBy at e;rw[<-ahh]at e;unfold ah7;rw[hd];dsimp;split
 .rename_i y q;rw[q]at e;exact congrArg some e
 .rename_i q;rw[q]at e;have a:es.toList.any (·.refKey)=false:=by
   rw[List.any_eq_false];intro y k;let⟨z,t,d⟩:=p y (Array.mem_toList_iff.mp k);simp[ab3.refKey,d]
  have l:¬es.toList.any (·.refKey)=true:=by rw[a];exact aan
  rw[if_neg l];exact congrArg some e
def putF(f:Str)(v:V):List (Str×V)->List (Str×V)
 |[]=>[(f,v)]
 |(g,x)::r=>if g=f then(g,v)::r else(g,x)::putF f v r
theorem kU(f g:Str)(v:V):∀fs:List (Str×V),(putF f v fs).lookup g=if g=f then some v else fs.lookup g
 |[]=>by
  show aeR g [(f,v)]=_
  by_cases h:g=f
  .simp_all
  .have hb:=beq_eq_false_iff_ne.mpr h;simp only[aeR,hb,if_neg h]
 | (k,x)::r=>by
  have l:=kU f g v r;rw[show putF f v ((k,x)::r)=(if k=f then(k,v)::r else(k,x)::putF f v r)from rfl]
  by_cases d:k=f
  .rw[if_pos d]
   by_cases h:g=k
   .simp_all
   .have hb:(g==k)=false:=beq_eq_false_iff_ne.mpr h;simp only[aeR,hb,if_neg (λe:g=f=>h (e.trans d.symm))]
  .rw[if_neg d]
   by_cases h:g=k
   .simp_all
   .have hb:=beq_eq_false_iff_ne.mpr h;simp only[aeR,hb];exact l
theorem RelO.some_of{o:Option oR}(r:RelO (some v) o):∃u,o=some u/\RelV v u:=by
 cases o with
 |none=>exact(r).elim
 |some u=>exact⟨u,rfl,r⟩
theorem RelO.none_of{o:Option oR}(r:RelO none o):o=none:=by
 cases o with
 |none=>rfl
 |some u=>exact(r).elim
theorem Ai(r:RelV v u):ahJ u=true:=by
 cases v with
 |non=>cases (r);rfl
 |bl b=>cases (r);rfl
 |int i=>let⟨t,e⟩:=(r);cases e;rfl
 |str x=>let⟨t,e⟩:=(r);cases e;rfl
 |byt b=>let⟨t,e⟩:=(r);cases e;rfl
 |flt b=>let⟨t,e⟩:=(r);cases e;rfl
 |ref a=>cases (r);rfl
 |ty n=>cases (r);rfl
section
variable {X:Cx}{p:List (Addr×Obj)}{b:St}{H:Hp}{s:Ad}{a C dx:Addr}{fs:List (Str×V)}{f:Str}{v:V}{A:aa2}{E:oR->Ad->Prop}
def J7{prog:aaA}{env:Env}{f:Str}{s:Ad}(hb:aa5 e f env (eval e env)=eval e env)
  (h:wpAny (model prog w) A (eval e env) (λo d=>wpAny (model prog w) A (getAttr o f true) Q E d) E s):wpAny (model prog w) A (eval (.Attribute e f pos) env) Q E s:=
 Attribute_any_ h (by rw[arm_eval_Attribute,hb])
end
def InOp(X:Cx)(op:afg)(d:V->V->Hp->VK->Prop):Prop:=
 ∀(pins:List (Addr×Obj)) (s:Ad) (σ:St) (H:Hp) (x y:V) (u v:oR) (Q:VK),Inv X pins σ H s->RelV x u->RelV y v->d x y H Q->wpAny (model X.prog X.w) X.A (inplaceOp op u v) (EP X pins σ Q) X.xe s
section
variable {X:Cx}{o e a:Expr}{f:Str}{pos p b:Pos}{c d:TE}
def rAdd:V->V->Hp->VK->Prop:=λx y H Q=>∃i j,x = .int i/\y = .int j/\Q (.int (i+j)) H
theorem Qm:InOp X .Add rAdd:=by
 intro pins s σ H x y u v Q I l k ⟨i,j,rfl,rfl,q⟩;let⟨t,rfl⟩:=(l);let⟨t',rfl⟩:=(k);exact PyProof.Rows.iadd_int ⟨.int _,H,I.tok _,⟨_,rfl⟩,q⟩
end
structure Room(k:Nat)(A:aa2):Prop where
 hd:A.handled=none
 dp:A.depth+3*k+5<recursionLimit
 un:A.units+16*k+200<cLine
 gd:A.guards=some []
def Room.mono{k:Nat}(r:Room k A)(h:j≤k):Room j A:=⟨r.hd,by have:=r.dp;omega,by have:=r.un;omega,r.gd⟩
def Room.deeper{k:Nat}(r:Room (k+1) A)(env:Env):Room k (A.deeper env):=
 ⟨r.hd,by have:=r.dp;show A.depth+1+3*k+5<_;omega,by have:=r.un;show A.units+3+16*k+200<_;omega,r.gd⟩
def v7:(A.under (.builtin "type.__call__" ⟨.ref C::us,kw⟩)).depth=A.depth+1:=rfl
def w4:(A.under (.builtin "type.__call__" ⟨.ref C::us,kw⟩)).units=A.units+1:=rfl
def sK:(A.under (.builtin "type.__call__" ⟨.ref C::us,kw⟩)).guards=A.guards:=rfl
def Room.make{k:Nat}(r:Room (k+1) A)(C:Addr)(us:List oR)(kw:List (Str×oR)):Room k (A.under (.builtin "type.__call__" ⟨.ref C::us,kw⟩)):=
 ⟨r.hd,by have:=r.dp;rw[v7];omega,by have:=r.un;rw[w4];omega,by rw[sK];exact r.gd⟩
def Room.depth{k:Nat}(r:Room k A):A.depth<recursionLimit:=by have:=r.dp;omega
def Room.units{k:Nat}(r:Room k A):A.units+64<cLine:=by have:=r.un;omega
def tNil:TA:=λ_ H Q=>Q [] H
def M9(t:TE)(tr:TA):TA:=λσ H Q=>t σ H λx l=>tr σ l λk d=>Q (x::k) d
section
variable {X:Cx}{e:Expr}{es:List Expr}{a:TE}{t:TA}{pos:Pos}
theorem m6:PA X [] tNil:=λ_ _ _ _ H Q I h=>aht ⟨[],H,I,.nil,h⟩
theorem fu(ha:PE X e a)(hr:PA X es t)(hs:OR (e::es) X.env=(false,eval e X.env)::OR es X.env:=by rfl):PA X (e::es) (M9 a t):=by
 intro pos pins s σ H Q I h;rw[hs];show wpAny _ _ (spliced ((false,eval e X.env)::abw pos _)) _ _ s;refine ahi (thn (ha pins s σ H _ I h) λu s1 ⟨x,l,n,r1,q⟩=>?_);exact thn (hr pos pins s1 σ l _ n q)<|by intro us s2 ⟨p,k,d,m,y⟩;exact⟨x::p,k,d,.cons r1 m,y⟩
def tTup(t:TA):TE:=λσ H Q=>t σ H λx d=>x.length≤aaf/\∀p,d p=none->Q (.ref p) (upd d p (.tup x))
def tLst(t:TA):TE:=λσ H Q=>t σ H λx d=>x.length≤aaf/\∀p,d p=none->Q (.ref p) (upd d p (.lst x))
theorem Iz{x1}(h:PA X es t):PE X (.Tuple es x1 pos) (tTup t):=by
 intro pins s σ H Q I k;refine wpAny_Tuple_spliced (thn (h pos pins s σ H _ I k) λus s1 ⟨x,m,d,r,z,q⟩=>⟨by rw[<-r.length];exact z,?_⟩);have l:=d.hok.fresh (Ge _);refine⟨.ref s1.heap.objs.size,upd m s1.heap.objs.size _,d.laid (t':=s1.toks) (λb u e=>AD _ e) (Ge _) ?_,rfl,q _ l⟩;exact⟨z,us,r,⟨_,aai _ rfl,rfl,rfl,_,rfl⟩⟩
theorem Tw(h:PA X es t):PE X (.List es pos) (tLst t):=by
 intro pins s σ H Q I k;refine wpAny_List_spliced (thn (h pos pins s σ H _ I k) λus s1 ⟨x,m,d,r,z,q⟩=>⟨by rw[<-r.length];exact z,?_⟩);have l:=d.hok.fresh (Ge _);refine⟨.ref s1.heap.objs.size,upd m s1.heap.objs.size _,d.laid (t':=s1.toks) (λb u e=>AD _ e) (Ge _) ?_,rfl,q _ l⟩;exact⟨z,us,0,r,aai _ rfl⟩
end
abbrev Sp:=List V->Hp->VK->XK->Prop
abbrev CXT:=List Env->Hp->Ad->XK->oR->Ad->Prop
structure Env0(P:aaA)(w:World)(K:Io)(mg:Str->Option oR)(base:aaR)(A:aa2)(outer:List Env)(s:Ad)(H:Hp):Prop where
 frames:A.frames=some outer
 mod:Mod K mg base
 bs:∀b o,base.get? b=some o->s.heap.get? b=some o/\H b=none
 bsz:base.objs.size≤s.heap.objs.size
 funs:s.heap.FunFrames base outer
 frf:∀b∈frs outer,H b=none
 hok:HOk P w H s.heap
 bare:aeN s.gens
def CE(outer:List Env)(P:aaA)(w:World)(H:Hp)(s:Ad)(Q:VK)(u:oR)(s':Ad):Prop:=
 ∃v d,s'.os=s.os/\aeN s'.gens/\Un (frs outer) [] H d s.heap s'.heap/\HOk P w d s'.heap/\RelV v u/\Q v d
def CR(CX:CXT)(outer:List Env)(P:aaA)(w:World)(H:Hp)(s:Ad)(Q:VK)(E:XK)(r:Result)(s':Ad):Prop:=
 match r with
 | .ok (.ret u)=>CE outer P w H s Q u s'
 | .ok _=>False
 | .error e=>CX outer H s E e s'
structure FnOk(P:aaA)(w:World)(K:Io)(mg:Str->Option oR)(base:aaR)(CX:CXT)(k:Nat)(f:Addr)(fd:abZ)(ps:List Str)(sp:Sp):Prop where
 len:∀vs H Q E,sp vs H Q E->vs.length=ps.length
 run:∀(A:aa2) (outer:List Env) (s:Ad) (H:Hp) (args:Args) (us:List oR) (vs:List V) (Q:VK) (E:XK),Room k A->Env0 P w K mg base A outer s H->ahu s fd args (ps.zip us)->Vals vs us->sp vs H Q E ->
  ael (model P w) A (.call (.ref f) args) (CR CX outer P w H s Q E) s
def Env0.make{base:aaR}{s:Ad}(e:Env0 P w K mg base A outer s H)(C:Addr)(us:List oR)(kw:List (Str×oR)) :
  Env0 P w K mg base (A.under (.builtin "type.__call__" ⟨.ref C::us,kw⟩)) outer s H:=⟨by first|exact e.frames|(simpa[ pushEnvs]),e.mod,e.bs,e.bsz,e.funs,e.frf,e.hok,e.bare⟩
section
variable {X:Cx}{p:List (Addr×Obj)}{a:St}{H:Hp}{s s':Ad}
def Inv.env0(I:Inv X p a H s):Env0 X.prog X.w X.K X.mg X.base X.A X.stack s H:=
 ⟨I.ok.frames,I.ok.mod,I.bs,aao I.ok.bsz I.sz,I.stack,I.stkFree,I.hok,I.bare⟩
theorem Inv.after{Q:VK}(I:Inv X p a H s)(h:CE X.stack X.prog X.w H s Q u s'):EP X p a Q u s':=by
 let⟨v,m,os,bare,un,hok,r,q⟩:=h;let⟨l,g,d,t,k⟩:=s';obtain rfl:k=s.os:=os;exact⟨v,m,I.call (h':=l) (g':=g) (d':=d) (t':=t) un hok bare (λb z=>absurd z (by simp)),r,q⟩
end
def UA(sp:Sp)(d:List V)(E:XK)(t:TA):TE:=λσ H Q=>t σ H λvs k=>sp (vs++d) k Q E
def Binds(K:Io)(fd:abZ)(ps:List Str)(ds:List oR):Prop:=
 ∀(s:Ad) (us:List oR),K.In s.heap->(us++ds).length=ps.length->ahu s fd ⟨us,[]⟩ (ps.zip (us++ds))
def Binds.all{fd:abZ}(h:∀us:List oR,us.length=ps.length->bindArgs fd ⟨us,[]⟩=pure (ps.zip us)):Binds K fd ps []:=λs us _ d=>by
 rw[aaO]at d⊢;exact .of_eq (h us d)
def vI(CX:CXT)(X:Cx)(E:XK):Prop:=∀(pins:List (Addr×Obj)) (σ:St) (H:Hp) (s:Ad) (e:oR) (d:Ad),Inv X pins σ H s->CX X.stack H s E e d->X.xe e d
section
variable {X:Cx}{CX:CXT}{k:Nat}{f C:Addr}{fd:abZ}{ps:List Str}{sp:Sp}{d:List V}{ds:List oR}{E:XK}{x m:Str}{p pos a:Pos}{e o:Expr}{es:List Expr}{b:TE}{t:TA}
theorem TJ{s:Ad}{Q:VK}{vs:List V}(F:FnOk X.prog X.w X.K X.mg X.base CX k f fd ps sp)(hr:Room k X.A)(hb:Binds X.K fd ps ds)(hd:Vals d ds)(q:vI CX X E)
  (I:Inv X pins σ H s) (r:Vals vs us) (h:sp (vs++d) H Q E):wpAny (model X.prog X.w) X.A (call (.ref f) us) (EP X pins σ Q) X.xe s:=by
 have n:=r.append hd;have z:(us++ds).length=ps.length:=by rw[<-n.length];exact F.len _ _ _ _ h
 refine agc (adK (F.run X.A X.stack s H _ _ _ Q E hr I.env0 (hb s us I.kIn z) n h) λr B l=>?_)
 cases r with
 |error e=>exact q pins σ H s e B I l
 |ok y=>
  cases y with
  |ret u=>exact I.after l
  |next=>exact abO l
  |brk=>exact abO l
  |cont=>exact abO l
theorem Lg(F:FnOk X.prog X.w X.K X.mg X.base CX k f fd ps sp)(hr:Room k X.A)(D:Gl X x)(J:X.mg x=some (.ref f))(B:abP X.K (.ref f)=true)(hb:Binds X.K fd ps ds)(hd:Vals d ds)(G:vI CX X E)
  (ha:PA X (e::es) t) (n:(x==("__debug__" : Str))=false:=by decide) (z:OR (e::es) X.env=(false,eval e X.env)::OR es X.env:=by rfl) (l:(abw pos (OR es X.env)).any (·.1)=false:=by rfl) :
  PE X (.Call (.Name x p) (e::es) [] pos) (UA sp d E t):=by
 intro pins s σ H Q I h;refine acQ (iG I D J ?_ n);refine afj I.ok.mod.kin B (thn (ha pos pins s σ H _ I h) λus s1 ⟨vs,L,y,r,q⟩=>⟨y.kIn,?_⟩) z l;exact TJ F hr hb hd G y r q
end
structure FnScope(N P:List Str)(sc:Scope):Prop where
 kind:sc.kind = .function
 co:sc.isCoroutine=false
 gen:sc.isGenerator=false
 nd:N.Nodup
 pre:N.take P.length=P
 par:∀x∈P,sc.names.lookup x=some .local\/sc.names.lookup x=some .cell
 nofree:∀y∈sc.names,y.2≠.free
theorem qI{k:Str->Option aeS}{x:Str}:∀{binds:List (Str×oR)}{m:Str->Option oR},(∀v,(x,v)∉binds)->bindL k binds m x=m x
 |[],_,_=>rfl
 | (n,v)::r,m,h=>by
  unfold bindL;rw[qI λw d=>h w (aad _ d)];split
  .have:x≠n:=by rintro rfl;exact h v aac
   simp[this]
  .rfl
theorem qv{k:Str->Option aeS}{x:Str}:∀{binds:List (Str×oR)}{m:Str->Option oR},(∀v,(x,v)∉binds)->bindC k binds m x=m x
 |[],_,_=>rfl
 | (n,v)::r,m,h=>by
  unfold bindC;rw[qv λw d=>h w (aad _ d)];split
  .rfl
  .have:x≠n:=by rintro rfl;exact h v aac
   simp[this]
theorem qb{k:Str->Option aeS}{x:Str}{v:oR}:∀{P:List Str}{vs:List oR}{i:Nat}{m:Str->Option oR},P.Nodup->P[i]?=some x->vs[i]?=some v->k x=some .local ->
  bindL k (P.zip vs) m x=some v
 |[],_,_,_,_,h,_,_=>by simp at h
 |_::_,[],_,_,_,_,h,_=>by simp at h
 |p::P,w::vs,0,m,nd,h1,h2,hk=>by
  simp at h1 h2;subst h1;subst h2;show bindL k ((p,w)::P.zip vs) m p=_;unfold bindL;rw[qI λv d=>(abk.mp nd).1 (agv d).1,if_pos hk];simp
 |p::P,w::vs,i+1,m,nd,h1,h2,hk=>by
  unfold bindL;exact qb (abk.mp nd).2 ‹_› ‹_› hk
theorem rB{k:Str->Option aeS}{x:Str}{v:oR}:∀{P:List Str}{vs:List oR}{i:Nat}{m:Str->Option oR},P.Nodup->P[i]?=some x->vs[i]?=some v->k x≠some .local ->
  bindC k (P.zip vs) m x=some v
 |[],_,_,_,_,h,_,_=>by simp at h
 |_::_,[],_,_,_,_,h,_=>by simp at h
 |p::P,w::vs,0,m,nd,h1,h2,hk=>by
  simp at h1 h2;subst h1;subst h2;show bindC k (_::P.zip vs) m p=_;unfold bindC;rw[qv λv d=>(abk.mp nd).1 (agv d).1,if_neg hk];simp
 |p::P,w::vs,i+1,m,nd,h1,h2,hk=>by
  unfold bindC;exact rB (abk.mp nd).2 ‹_› ‹_› hk
def start(N:List Str)(vs:List V):St:=vs.map some++aap (N.length-vs.length) none
def cxOf(CX:CXT)(P:aaA)(w:World)(K:Io)(mg:Str->Option oR)(base:aaR)(N:List Str)(qual:Str)(scope:Scope)(f:Addr)(k:oR)(A:aa2)(outer:List Env)(s:Ad)(H:Hp)(E:XK):Cx where
 prog:=P
 w:=w
 K:=K
 mg:=mg
 base:=base
 A:=A.deeper (ad9 qual scope s.heap.objs.size f k)
 N:=N
 s₀:=s
 H₀:=H
 env:=ad9 qual scope s.heap.objs.size f k
 outer:=outer
 stack:=ad9 qual scope s.heap.objs.size f k::outer
 ex:=[]
 calm:=true
 fn:=λ_=>true
 pn:=[]
 xe:=λe l=>wpAny (model P w) (A.deeper (ad9 qual scope s.heap.objs.size f k)) (leaving (ad9 qual scope s.heap.objs.size f k) e) (λ_ d=>CX outer H s E e d) (λm d=>CX outer H s E m d) l
def vd{sc:Scope}{n:Nat}{x:Str}(h:sc.names.lookup x=some .cell):∃c,(cellsFrom n sc.names []).lookup x=some c:=by
 have q:=agd sc.names n [] (.inl h);exact acj.mp q
theorem zo{CX:CXT}{base:aaR}{qual:Str}{f:Addr}{G:oR}{s s1:Ad}{E:XK}{vs:List V}
  (S:FnScope N ps scope) (hd:A.handled=none) (l:Env0 P w K mg base A outer s H) (T:vs.length=ps.length) (r:Vals vs us)
  (x:InCallC s s.heap.objs.size (bindL (ad9 qual scope s.heap.objs.size f G).kindOf (ps.zip us) λ_=>none) (cellsFrom (s.heap.objs.size+1) scope.names []) (bindC (ad9 qual scope s.heap.objs.size f G).kindOf (ps.zip us) λ_=>none) s1) :
  Inv (cxOf CX P w K mg base N qual scope f G A outer s H E) [] (start N vs) H s1:=by
 have L:ps.length≤N.length:=by have:=congrArg aeT S.pre;rw[aaG]at this;omega
 let⟨F,tk,rfl,I⟩:=x.done;have m:∀b:Addr,b∉(cxOf CX P w K mg base N qual scope f G A outer s H E).ex:=λb z=>absurd (show b∈([]:List Addr)from z) (by simp);refine⟨⟨l.mod,S.kind,rfl,rfl,Ge _,λy z c F d=>?_,λy t=>?_,λy c _ h=>?_,λ_=>hd,aa2.frames_deeper l.frames,.inr ⟨rfl,rfl⟩,λb z=>absurd z (m b),l.bs,l.bsz,λb _ _=>m b,λb z=>absurd z (m b),l.funs,l.frf⟩,
  rfl,l.bare,Un.kept I,⟨_,x.toInCall.ns,λi y v F d R=>?_⟩,λy c h=>⟨_,x.cell y c h⟩,l.hok.fresh (Ge _),λy c h=>?_,λp hp=>absurd (show p∈([]:List (Addr×Obj))from hp) (by simp),l.hok.kept I,?_⟩
 .exact name_of_addr x.apart (ab4 F) (ab4 d)
 .rcases t with t|t
  .exact vd t
  .exact absurd rfl (S.nofree _ (ab4 t))
 .exact aa7 (x.above y c (ab4 h))
 .have D:i<vs.length:=by
   unfold start at d
   by_cases D:i<vs.length
   .exact D
   .rw[aaS (by simpa using D)]at d;rw[afX]at d
    split at d<;>cases d
  have ha:vs[i]?=some v:=by
   unfold start at d;rw[aaH (by simpa using D),aaa]at d
   cases e:vs[i]? with
   |none=>rw[e]at d;cases d
   |some a=>rw[e]at d;cases d;rfl
  let⟨u,J,O⟩:=r.get ha;have hp:ps[i]?=some y:=by
   rw[<-S.pre,List.getElem?_take_of_lt (by omega)];exact F
  have B:ps.Nodup:=by rw[<-S.pre];exact S.nd.sublist (List.take_sublist _ _)
  refine⟨u,O,?_⟩;rcases S.par y (GE hp)with k|k
  .exact .inl ⟨k,qb B hp J k⟩
  .obtain⟨c,e⟩:=vd (n:=s.heap.objs.size+1) k;refine .inr ⟨.inl k,c,e,?_⟩;have q:=x.cell y c e;rw[rB B hp J (by show scope.names.lookup y≠_;rw[k];decide)]at q;exact q
 .exact l.hok.fresh (aa7 (x.above y c (ab4 h)))
 .unfold start;show _=N.length;rw[aat,gE,ab8];omega
theorem T8{CX:CXT}{base:aaR}{k:Nat}{f:Addr}{name qual:Str}{p:Arguments}{dV kV L pm d ct oc:oR}{an od:Option Addr}
  {R:Array (Option oR)}{sp:Sp} (lk:K.lookup f=some ⟨oc,od,.func (acG name qual p body scope dV kV L pm an d ct),R⟩) (W:aem K d qual=true) (S:FnScope N ps scope)
  (len:∀vs H Q E,sp vs H Q E->vs.length=ps.length)
  (z:∀(A:aa2) (outer:List Env) (s:Ad) (H:Hp) (vs:List V) (Q:VK) (E:XK),Room k (A.deeper (ad9 qual scope s.heap.objs.size f d))->sp vs H Q E ->
   ∃t,PSs (cxOf CX P w K mg base N qual scope f d A outer s H E) body t/\t {nx:=λ_ m=>Q .non m,rt:=Q} (start N vs) H) :
  FnOk P w K mg base CX (k+1) f (acG name qual p body scope dV kV L pm an d ct) ps sp:=by
 refine⟨len,λA outer s H Y us vs Q E hr F hb r G=>?_⟩;have hl:=len _ _ _ _ G;have Z:K.In s.heap:=F.mod.kin.keeps λb o e=>(F.bs b o e).1;have O:s.heap.NoLimit:=F.mod.nolimit.keeps λb o e=>(F.bs b o e).1;have B:∀y∈ps.zip us,scope.names.lookup y.1=some .local\/(scope.names.lookup y.1=some .cell/\((cellsFrom (s.heap.objs.size+1) scope.names []).lookup y.1).isSome=true):=by
  intro⟨n,v⟩ hy;rcases S.par n (agv hy).1 with q|q
  .exact .inl q
  .exact .inr ⟨q,agd _ _ _ (.inl q)⟩
 refine codeAny_call_function hr.depth (Z _ _ lk) rfl S.co S.gen rfl (PySem.W.codeRec_of Z W) (hb _ _ _ _ ?_);refine wpAny_newFunctionEnv_cells S.kind B λenv he s1 x=>?_;subst he;refine⟨O.keeps x.toInCall.keep,codeAny_func ?_⟩;let⟨t,ht,hq⟩:=z A outer s H vs Q E (hr.deeper _) G;have I:Inv (cxOf CX P w K mg base N qual scope f d A outer s H E) [] (start N vs) H s1:=zo S hr.hd F hl r x;refine ab9 (ht [] s1 (start N vs) H _ I hq) (λfl T hs=>?_) λe T hs=>hs;have D:∀{l:St}{m:Hp}{v:V}{u:oR},Inv (cxOf CX P w K mg base N qual scope f d A outer s H E) [] l m T->RelV v u->Q v m->CE outer P w H s Q u T:=
  λ{l m v u} J U q=>⟨v,m,J.os,J.bare,J.base,J.hok,U,q⟩
 cases fl with
 |ret u=>
  let⟨v,l,m,J,U,q⟩:=hs;exact D J U q
 |next=>
  let⟨l,m,J,q⟩:=hs;exact D (v:=V.non) (u:=abM) J rfl q
 |brk=>
  let⟨_,_,_,q⟩:=hs;exact abO q
 |cont=>
  let⟨_,_,_,q⟩:=hs;exact abO q
section
variable {X:Cx}{x:Str}{p pos:Pos}{e:Expr}{es:List Expr}{t:TA}{id T:String}{r:List V->Hp->VK->Prop}
def tCB(r:List V->Hp->VK->Prop)(t:TA):TE:=λσ H Q=>t σ H λvs d=>r vs d Q
theorem iQ(z:c7 X (.builtin id) r)(q:Gl X x)(y:X.mg x=none)(m:aaL x=some (.builtin id))(ha:PA X (e::es) t)(n:x ≠ "__name__":=by decide)(k:(x==("__debug__" : Str))=false:=by decide)
  (l:OR (e::es) X.env=(false,eval e X.env)::OR es X.env:=by rfl) (d:(abw pos (OR es X.env)).any (·.1)=false:=by rfl):PE X (.Call (.Name x p) (e::es) [] pos) (tCB r t):=by
 intro pins s σ H Q I h;refine acQ (kI I q y m ?_ n k);exact aeD (thn (ha pos pins s σ H _ I h)<|by intro us s1 ⟨vs,B,D,r1,F⟩;exact z pins s1 σ B vs us Q D r1 F) l d
theorem AA(z:c7 X (.type T) r)(q:Gl X x)(y:X.mg x=none)(m:aaL x=some (.type T))(ha:PA X (e::es) t)(n:x ≠ "__name__":=by decide)(k:(x==("__debug__" : Str))=false:=by decide)
  (l:OR (e::es) X.env=(false,eval e X.env)::OR es X.env:=by rfl) (d:(abw pos (OR es X.env)).any (·.1)=false:=by rfl):PE X (.Call (.Name x p) (e::es) [] pos) (tCB r t):=by
 intro pins s σ H Q I h;refine acQ (kI I q y m ?_ n k);exact acF (thn (ha pos pins s σ H _ I h) λus s1 ⟨vs,B,D,r1,F⟩=>z pins s1 σ B vs us Q D r1 F) l d
end
end L2
namespace HT
open PySem PyProof.Rows
variable{Q:oR->Ad->Prop}{hi lo:Option Int}
section
variable {prog:aaA}{w:World}{A:aa2}{E:oR->Ad->Prop}{s:Ad}
theorem cat_tup{t b:Addr}{vs a:List oR}(r:IsTup s.heap t vs.toArray)(hb:IsTup s.heap b a.toArray)(p:vs≠[])
  (u:a=[]->Q (.ref t) s) (q:a≠[]->Q (.ref s.heap.objs.size) {s with heap:=s.heap.push {cls:=.type "tuple",data:=.seq (vs++a).toArray} })
  (hsz:vs.length+a.length≤aaf):wpAny (model prog w) A (acp .Add (.ref t) (.ref b)) Q E s:=by
 let⟨⟨cls,k,data,m⟩,ho,l,n,hd⟩:=id r;let⟨⟨o,d,j,c⟩,h,g,n2,f⟩:=id hb;simp only at l hd g f;subst l hd g f;have e:vs.toArray++a.toArray=(vs++a).toArray:=by simp
 by_cases i:a=[]
 .exact age ⟨_,ho,rfl⟩ ⟨_,h,rfl⟩ afY aha aen aef (adV _ _)
   (tuple_addW1 t b vs.toArray a.toArray n n2 k d m c (by simpa) (by simp[i])) ⟨ho,h,u i⟩
 .refine age ⟨_,ho,rfl⟩ ⟨_,h,rfl⟩ afY aha aen aef (adV _ _)
   (tuple_addW2 t b vs.toArray a.toArray n n2 k d m c (by simpa using p) (by simpa) ‹_›) ⟨ho,h,?_⟩
  rw[e];exact q i
def sIx(n d:Nat):Option Int->Nat
 |none=>d
 |some v=>if v<0 then(v+(n:Int)).toNat else min v.toNat n
def sIx_none(n d:Nat):sIx n d none=d:=rfl
def sIx_nat(n d k:Nat):sIx n d (some (k:Int))=min k n:=rfl
theorem SY(n d:Nat)(hd:d≤n)(o:Option Int):sIx n d o≤n:=by
 cases o with
 |none=>exact hd
 |some v=>
  show(if v<0 then(v+n).toNat else min v.toNat n)≤n
  by_cases h:v<0
  .grind
  .rw[if_neg h];exact aeE _ _
theorem xZ(v:Int)(n d:Nat):(if v<0 then max (v+(n:Int)) 0 else min v (n:Int))=((sIx n d (some v):Nat):Int):=by
 show _=(((if v<0 then(v+_).toNat else min v.toNat n):Nat):Int)
 grind
theorem wJ(lo hi:Option Int)(n:Nat):afx lo hi 1 (n:Int)=(((sIx n 0 lo:Nat):Int),((sIx n n hi:Nat):Int)):=by
 refine Prod.ext ?_ ?_
 .cases lo with
  |none=>rfl
  |some v=>exact xZ v n 0
 .cases hi with
  |none=>rfl
  |some v=>exact xZ v n n
theorem wz(i j:Nat):adO (i:Int) (j:Int) 1=j-i:=by
 unfold adO
 grind
theorem mE{v:oR}{o:Option Int}{Q:Option Int->Ad->Prop}(p:agf v o)(h:Q o s):wpAny (model prog w) A (acE.Slice.slicePartIndex v) Q E s:=by
 cases p with
 |none=>exact slicePart_none h
 |int i t=>exact slicePart_int h
def gm{c:Addr}{vl v:oR}{n:Nat}{Q:Int×Int×Nat->Ad->Prop}(hs:s.heap.IsSliceOf c vl v .none)(d:agf vl lo)(p:agf v hi)
  (h:Q (((sIx n 0 lo:Nat):Int),1,sIx n n hi-sIx n 0 lo) s):wpAny (model prog w) A (acE.Slice.sliceApplied (.ref c) (pure (n:Int))) Q E s:=by
 let⟨os,a,e,b⟩:=id hs;refine aD (aD (aaQ a b (x:=vl) rfl (aD (aaQ a b (x:=v) rfl (aD (aaQ a b (x:=.none) rfl (Dl ?_)))))));refine aD (slicePart_none ?_);refine aD (mE d (aD (mE p (aD (Dl ?_)))));show wpAny _ _ (match afx lo hi 1 (n:Int)with|(lo,hi)=>pure (lo,(1:Int),adO lo hi 1)) _ _ s;rw[wJ lo hi n];show wpAny _ _ (pure _) _ _ s;rw[wz];exact Dl h
def CQ(xs:Array oR)(i k:Nat):((aaB k).filterMap λ(m:Nat)=>xs[((i:Int)+(m:Int)*1).toNat]?).toArray=((xs.toList.drop i).take k).toArray:=by
 have e:(λ(m:Nat)=>xs[(i+(m:Int)*1).toNat]?)=λm=>xs[i+m]?:=by
  funext m
  have:(i+(m:Int)*1).toNat=i+m:=by omega
  rw[this]
 rw[e];have:=pick_run xs i k;rw[List.filterMap_map]at this;have a:(_∘λx=>i+x)=λm=>xs[i+m]?:=rfl;rw[a]at this;rw[this]
theorem getItem_tuple_cut{t g:Addr}{items:Array oR}{vl v:oR}(b:IsTup s.heap t items)(hs:s.heap.IsSliceOf g vl v .none)(j:agf vl lo)(p:agf v hi)
  (k:¬(sIx items.size 0 lo=0/\sIx items.size items.size hi=items.size))
  (h:Q (.ref s.heap.objs.size) {s with heap:=s.heap.push {cls:=.type "tuple",data:=.seq ((items.toList.drop (sIx items.size 0 lo)).take (sIx items.size items.size hi-sIx items.size 0 lo)).toArray} })
  (hsz:items.size≤aaf):wpAny (model prog w) A (agX (.ref t) (.ref g)) Q E s:=by
 have a:sizeOk (.seq ((items.toList.drop (sIx items.size 0 lo)).take (sIx items.size items.size hi-sIx items.size 0 lo)).toArray):=by
  show((items.toList.drop (sIx items.size 0 lo)).take (sIx items.size items.size hi-sIx items.size 0 lo)).toArray.size≤aaf;rw[aay,aaG,aeF,acA];omega
 have l:sIx items.size items.size hi≤items.size:=SY _ _ (Ge _) hi;let⟨os,c,e,i⟩:=id hs;have d:s.TypeIs (.ref g) "slice":=⟨os,c,e⟩;unfold agX
 try with_reducible refine abu ?_
 first|refine aD (Dl ?_)|skip
 refine aD (afB b.typeIs (by decide) ?_);refine aD (aaU (name:=ack "__getitem__") b.typeIs abn
  (aa0 abn b.typeIs entry_tuple_getitem ?_ (args_tuple_getitem _ _)))
 show wpAny _ _ (adC (.ref t) >>= _) _ _ s;refine aD (ahb b ?_);refine aD (adl d ?_);rw[if_pos (by decide)];refine aD (gm hs j p ?_);have f:¬((((sIx items.size 0 lo:Nat):Int)==0&&(1:Int)==1&&(sIx items.size items.size hi-sIx items.size 0 lo)==items.size)=true):=by
  grind
 show wpAny _ _ (if (((sIx items.size 0 lo:Nat):Int)==0&&(1:Int)==1&&(sIx items.size items.size hi-sIx items.size 0 lo)==items.size)=true then _ else _) _ _ s;rw[if_neg f,CQ]
 first
  |exact aD (m:=abQ _) (aa3 (Dl ⟨_,rfl,Dl h⟩) a)
  |exact aD (m:=abQ _) (aa3 (aD (Dl (Dl ⟨_,rfl,Dl h⟩))) a)
  |exact aD (aD (m:=abQ _) (aa3 (Dl (Dl ⟨_,rfl,Dl h⟩)) a))
  |exact aD (aD (m:=abQ _) (aa3 (Dl ⟨_,rfl,Dl h⟩) a))
end
end HT
namespace L2
open PySem PySem.Spec PyProof.Rows
variable{xs:List V}{n:Nat}{α:Type}{pins:List (Addr×Obj)}{σ:St}{H:Hp}{its its':List oR}
abbrev TO:=St->Hp->(Option Int->Hp->Prop)->Prop
def PO(X:Cx)(e:Option Expr)(t:TO):Prop:=
 ∀(pins:List (Addr×Obj)) (s:Ad) (σ:St) (H:Hp) (Q:Option Int->Hp->Prop),Inv X pins σ H s->t σ H Q ->
  wpAny (model X.prog X.w) X.A (evalPart e X.env) (λu b=>∃o a,Inv X pins σ a b/\agf u o/\Q o a) X.xe s
def Mh:TO:=λ_ H Q=>Q none H
def VV(t:TE):TO:=λσ H Q=>t σ H λx a=>∃i,x = .int i/\Q (some i) a
theorem jL{ns:List Int}:∀{u:List oR},Vals (ns.map V.int) u->agY u ns:=by
 induction ns with
 |nil=>intro u r;cases r;exact .nil
 | cons n ns i=>
  intro u r
  cases r with
  |cons r1 a=>
   let⟨t,e⟩:=r1;subst e;exact .cons n t (i a)
section
variable {X:Cx}{e:Expr}{d:TE}{lo c:Option Expr}{tl f:TO}{pos g:Pos}
theorem Mf:PO X none Mh:=by
 intro pins s σ H Q I h;exact Dl ⟨none,H,I,.none,h⟩
theorem Na(h:PE X e d):PO X (some e) (VV d):=by
 intro pins s σ H Q I a;refine thn (h pins s σ H _ I a) λu s1 ⟨x,k,b,r1,j⟩=>?_;let⟨i,rfl,q⟩:=j;let⟨t,rfl⟩:=r1;exact⟨some i,k,b,.int i t,q⟩
def SlR(X:Cx)(r:V->Option Int->Option Int->Hp->VK->Prop):Prop:=
 ∀(pins:List (Addr×Obj)) (s:Ad) (σ:St) (H:Hp) (x:V) (v vl a:oR) (lo c:Option Int) (b:Addr) (Q:VK),Inv X pins σ H s->RelV x v->s.heap.IsSliceOf b vl a .none->agf vl lo->agf a c->r x lo c H Q ->
  ∃T id,typeLookup (.type T) "__getitem__" = pure (some (.builtin id))/\s.TypeIs v T/\wpAny (model X.prog X.w) X.A (agX v (.ref b)) (EP X pins σ Q) X.xe s
def tSl(r:V->Option Int->Option Int->Hp->VK->Prop)(d:TE)(tl f:TO):TE:=λσ H Q=>d σ H λx h=>tl σ h λl a=>f σ a λu b=>r x l u b Q
theorem CN{r:V->Option Int->Option Int->Hp->VK->Prop}(hr:SlR X r)(E:PE X e d)(F:PO X lo tl)(A:PO X c f):PE X (.Subscript e (.Slice lo c none g) pos) (tSl r d tl f):=by
 intro pins s σ H Q I h;refine Subscript_ (thn (E pins s σ H _ I h) λv s1 ⟨x,D,G,r1,K⟩=>?_);refine wpAny_Slice (thn (F pins s1 σ D _ G K) λvl s2 ⟨l,z,k,J,w⟩=>thn (A pins s2 σ z _ k w) λi a ⟨u,j,m,p,y⟩=>?_);refine Dl ?_;have B:Inv X pins σ j {a with heap:=a.heap.push {cls:=.type "slice",data:=.fields #[vl,i,.none]} }:=m.kept (t':=a.toks) λb ob q=>AD _ q;let⟨T,id,o,C,t⟩:=hr pins {a with heap:=a.heap.push {cls:=.type "slice",data:=.fields #[vl,i,.none]} } σ j x v vl i l u a.heap.objs.size Q B r1 (aaR.IsSliceOf.new ..) J p y;exact tail_any C o t rfl
def cutV(xs:List V)(lo c:Option Int):List V:=(xs.drop (HT.sIx xs.length 0 lo)).take (HT.sIx xs.length xs.length c-HT.sIx xs.length 0 lo)
def lr(xs:List V)(lo c:Option Int):(cutV xs lo c).length≤xs.length:=by
 unfold cutV;rw[aaG,aeF];omega
def rSlT(K:Io):V->Option Int->Option Int->Hp->VK->Prop:=λx lo c H Q=>∃a xs,x = .ref a/\SqT K H a xs/\
 ¬(HT.sIx xs.length 0 lo=0/\HT.sIx xs.length xs.length c=xs.length)/\∀p,H p=none->Q (.ref p) (upd H p (.tup (cutV xs lo c)))
theorem T6:SlR X (rSlT X.K):=by
 intro pins s σ H x v vl u lo c w Q I o hs t p h;let⟨a,xs,rfl,m,l,q⟩:=h;cases o;let⟨its,r,k,j⟩:=I.tuple m;have i:its.toArray.size=xs.length:=by rw[aay];exact r.length.symm
 refine⟨"tuple",_,abn.lookup,k.typeIs,?_⟩;refine HT.getItem_tuple_cut k hs t p (by rw[i];exact l) ?_ (by rw[i];exact j);rw[i];refine⟨.ref s.heap.objs.size,_,I.laid (t':=s.toks) (λb ob q=>AD _ q) (Ge _) ?_,rfl,q _ (I.hok.fresh (Ge _))⟩;exact⟨aao (lr xs lo c) j,_,(r.drop _).take _,PlainT.new _ _⟩
def Wr(K:Io):R2:=λx y H Q=>∃a b xs h,x = .ref a/\y = .ref b/\SqT K H a xs/\SqT K H b h/\xs≠[]/\xs.length+h.length≤aaf/\
 (h=[]->Q (.ref a) H)/\(h≠[]->∀p,H p=none->Q (.ref p) (upd H p (.tup (xs++h))))
theorem Vals.nil_iff{u:List oR}(r:Vals xs u):u=[]↔xs=[]:=by
 cases r with
 |nil=>simp
 |cons _ _=>simp
theorem Og:OpR X (acp .Add) (Wr X.K):=by
 intro pins s σ H x y v u Q I o k h;let⟨a,b,xs,A,rfl,rfl,ha,hb,m,i,t,l⟩:=h;cases o;cases k;let⟨its,r1,p,_⟩:=I.tuple ha;let⟨j,r,g,_⟩:=I.tuple hb;refine HT.cat_tup p g (λz=>m (r1.nil_iff.mp z)) (λz=>⟨.ref a,H,I,rfl,t (r.nil_iff.mp z)⟩) (λz=>?_) (by rw[<-r1.length,<-r.length];exact i);refine⟨.ref s.heap.objs.size,_,I.laid (t':=s.toks) (λb ob q=>AD _ q) (Ge _) ?_,rfl,l (λw=>z (r.nil_iff.mpr w)) _ (I.hok.fresh (Ge _))⟩;exact⟨by rw[aat];exact i,_,r1.append r,PlainT.new _ _⟩
end
def ixN(n:Nat)(i:Int):Option Nat:=if 0≤i then(if i<n then some i.toNat else none)else if -(n:Int)≤i then some (i+n).toNat else none
def atI{α:Type}(xs:List α)(i:Int):Option α:=(ixN xs.length i).bind λj=>xs[j]?
theorem yM{i:Int}{j:Nat}(h:ixN n i=some j):seqIndex? i n=some j/\j<n/\-(n:Int)≤i/\i<n:=by
 unfold ixN at h
 by_cases h0:0≤i
 .rw[if_pos h0]at h
  by_cases a:i<n
  .rw[if_pos a]at h;have e:=aam h;exact⟨by rw[seqIndex_of h0 a,e],by omega,by omega,a⟩
  .simp_all
 .rw[if_neg h0]at h
  by_cases a : -(n:Int)≤i
  .rw[if_pos a]at h;have e:=aam h;exact⟨by rw[ahv (by omega) a,e],by omega,a,by omega⟩
  .simp_all
theorem sE{xs:List α}{i:Int}{v:α}(h:atI xs i=some v):∃j,seqIndex? i xs.length=some j/\xs[j]?=some v/\j<xs.length/\-(xs.length:Int)≤i/\i<xs.length:=by
 unfold atI at h
 cases e:ixN xs.length i with
 |none=>rw[e]at h;cases h
 |some j=>
  rw[e]at h;let⟨c,b,d,a⟩:=yM e;exact⟨j,c,h,b,d,a⟩
theorem aE{xs:List α}{j:Nat}{v:α}(h:xs[j]?=some v):atI xs (j:Int)=some v:=by
 have a:=(DL.mp h).1;have e:ixN xs.length j=some j:=by
  unfold ixN
  simp_all
 unfold atI;rw[e];exact h
def uq(b:Expr):Prop:=∀o i,subscripted b false o i=operate [o,i] (agX o i)
def IxR(X:Cx)(r:R2):Prop:=
 ∀(b a:Expr) (pins:List (Addr×Obj)) (s:Ad) (σ:St) (H:Hp) (x y:V) (v u:oR) (Q:VK),Inv X pins σ H s->RelV x v->RelV y u->r x y H Q ->
  subscripted a false v u=operate [v,u] (agX v u)->wpAny (model X.prog X.w) X.A (subscriptTail b a v u) (EP X pins σ Q) X.xe s
def MtR(X:Cx)(id:String)(r:V->List V->Hp->VK->Prop):Prop:=
 ∀(pins:List (Addr×Obj)) (s:Ad) (σ:St) (H:Hp) (x:V) (xs:List V) (v:oR) (u:List oR) (Q:VK),Inv X pins σ H s->RelV x v->Vals xs u->r x xs H Q ->
  wpAny (model X.prog X.w) X.A (call (.builtin id) (v::u)) (EP X pins σ Q) X.xe s
section
variable {X:Cx}{a b:Expr}{m tb:TE}{pos:Pos}
theorem UM{r:R2}(hr:IxR X r)(ha:PE X a m)(hb:PE X b tb)(hs:uq b):PE X (.Subscript a b pos) (tOp r m tb):=by
 intro pins s σ H Q I h;exact Subscript_ (binT ha hb I h λv u s2 x y d c f e q=>hr a b pins s2 σ d x y v u Q c f e q (hs _ _))
def rIxL(K:Io):R2:=λx y H Q=>∃p xs i v,x = .ref p/\y = .int i/\SqL K H p xs/\atI xs i=some v/\Q v H
def rIxT(K:Io):R2:=λx y H Q=>∃p xs i v,x = .ref p/\y = .int i/\SqT K H p xs/\atI xs i=some v/\Q v H
def rIxS:R2:=λx y H Q=>∃z i c,x = .str z/\y = .int i/\z.length≤aaf/\atI z.cps.toList i=some c/\Q (.str ⟨#[c]⟩) H
theorem JZ:IxR X (rIxL X.K):=by
 intro g d pins s σ H x y v u Q I F A h hs;let⟨p,xs,i,z,rfl,rfl,D,o,q⟩:=h;cases F;let⟨t,rfl⟩:=A;let⟨its,r,k,K⟩:=I.list D;let⟨j,c,E,J,B,G⟩:=sE o;let⟨w,l,e⟩:=r.get E;have C:=r.length;have L:=md;have f:EP X pins σ Q w s:=⟨z,H,I,e,q⟩
 by_cases h0:0≤i
 .have hj:i.toNat=j:=by
   rw[seqIndex_of h0 G]at c;exact aam c
  exact item_listR k.isList h0 (by omega) (by rw[hj];simpa using l) f hs
 .have hj:(i+(its.toArray.size:Int)).toNat=j:=by
   rw[ahv (by omega) B]at c;rw[aay,<-C];exact aam c
  exact agg (x:=w) k.isList.typeIs slot_list_getitem.lookup
   (wpAny_getItem_list_neg k.isList (by omega) (by simp_all) (by omega) (by rw[hj];simpa using l) ⟨rfl,f⟩) hs
theorem Uu:IxR X (rIxT X.K):=by
 intro e c pins s σ H x y v u Q I C l h hs;let⟨p,xs,i,z,rfl,rfl,A,k,q⟩:=h;cases C;let⟨t,rfl⟩:=l;let⟨its,r,g,F⟩:=I.tuple A;let⟨j,D,B,E,G,L⟩:=sE k;let⟨w,K,d⟩:=r.get B;have o:=r.length;have J:=md;have f:EP X pins σ Q w s:=⟨z,H,I,d,q⟩;exact agg g.typeIs slot_tuple_getitem.lookup
  (getItem_tuple g (by omega) (by omega) (by rw[aay,<-o];exact D) (by simpa) ⟨rfl,f⟩) hs
theorem Pk:IxR X rIxS:=by
 intro e d pins s σ H x y v u Q I w r h hs;let⟨z,i,c,rfl,rfl,D,g,q⟩:=h;let⟨t,rfl⟩:=w;let⟨F,rfl⟩:=r;let⟨j,f,p,C,l,A⟩:=sE g;have o:z.cps.toList.length=z.length:=by simp[Str.length]
 rw[o]at f l A;have E:=md;exact tail_any (typeIs_str s z t) slot_str_getitem.lookup (getItem_str (by
  have k:decide (i < -(2^63:Int))=false:=decide_eq_false (by omega);have B:decide (i≥2^63)=false:=decide_eq_false (by omega);rw[k,B,Bool.or_false]) (by rw[f];simpa using p) ⟨.str ⟨#[c]⟩,H,I.tok _,⟨_,rfl⟩,q⟩) hs
def v6(its:List oR)(n j:Nat)(u:oR):aca (·.setIfInBounds j u) {cls:=.type "list",data:=.seq its.toArray n}={cls:=.type "list",data:=.seq (its.set j u).toArray n}:=by
 simp[aca]
def Inv.lst{s:Ad}{p:Addr}(I:Inv X pins σ H s)(h:H p=some (.lst xs)) :
  ∃(its:List oR) (n:Nat),Vals xs its/\s.heap.get? p=some {cls:=.type "list",data:=.seq its.toArray n}/\xs.length≤aaf:=by
 let⟨z,its,n,r,e⟩:=I.hok p _ h;exact⟨its,n,r,e,z⟩
def Inv.lstUpd{s:Ad}{p:Addr}{ys:List V}{n':Nat}{f:Obj->Obj}(I:Inv X pins σ H s)(h:H p=some (.lst xs))
  (ho:s.heap.get? p=some {cls:=.type "list",data:=.seq its.toArray n}) (c:f {cls:=.type "list",data:=.seq its.toArray n}={cls:=.type "list",data:=.seq its'.toArray n' }) (r:Vals ys its') (d:ys.length≤aaf) (t:Nat) :
  Inv X pins σ (upd H p (.lst ys)) {s with heap:=s.heap.update p f,toks:=t}:=by
 have e:(s.heap.update p f).get? p=some {cls:=.type "list",data:=.seq its'.toArray n' }:=by
  rw[abi f ho (by rw[c]<;>rfl),c]
 refine I.write (by rw[h];trivial) (.inl rfl) (λb u hb q=>(aaV _ _ (abb hb)).trans q) ⟨_,e⟩ ?_;exact⟨d,its',n',r,e⟩
def U8:V->V->V->Hp->(Hp->Prop)->Prop:=λo i v H Q=>∃p xs k j,o = .ref p/\i = .int k/\H p=some (.lst xs)/\ixN xs.length k=some j/\Q (upd H p (.lst (xs.set j v)))
theorem Dj:PSet X U8:=by
 intro pins s σ H o i v A D u Q I z x g h;let⟨p,xs,k,j,rfl,rfl,hp,y,q⟩:=h;cases z;let⟨t,rfl⟩:=x;let⟨its,n,r,ho,f⟩:=I.lst hp;let⟨c,C,e,l⟩:=yM y;have w:=r.length;have B:=md;have d:=
  I.lstUpd hp ho (v6 its n j u) (r.set g j) (by rw[aba];exact f) s.toks
 by_cases h0:0≤k
 .have hk:k.toNat=j:=by
   rw[seqIndex_of h0 l]at c;exact aam c
  exact PySem.W.ki_setAt ho h0 (by omega) (by simp_all) (by rw[hk];exact⟨_,d,q⟩)
 .have hk:(k+(its.toArray.size:Int)).toNat=j:=by
   rw[ahv (by omega) e]at c;rw[aay,<-w];exact aam c
  exact PySem.W.ki_setBack ho (by omega) (by simp_all) (by omega) (by rw[hk];exact⟨_,d,q⟩)
theorem rg(lo c:Option Int)(n:Nat):(aeg lo c none n).1=((HT.sIx n 0 lo:Nat):Int)/\(aeg lo c none n).2.1=((HT.sIx n n c:Nat):Int)/\(aeg lo c none n).2.2=1:=by
 refine⟨?_,?_,rfl⟩
 .cases lo with
  |none=>simp[aeg,HT.sIx]
  |some i=>
   simp only[aeg,HT.sIx,ahK,show(1:Int)>0 by decide,if_true]
   by_cases h:i<0
   .simp only[h,if_true]<;>omega
   .simp only[h,if_false]<;>omega
 .cases c with
  |none=>simp[aeg,HT.sIx]
  |some i=>
   simp[aeg,HT.sIx,ahK,show(1:Int)>0 by decide,if_true]
   by_cases h:i<0
   .simp only[h,if_true]<;>omega
   .simp only[h,if_false]<;>omega
def oJ(its:List oR)(lo h:Option Int):slicePick its.toArray lo h none=((its.drop (HT.sIx its.length 0 lo)).take (HT.sIx its.length its.length h-HT.sIx its.length 0 lo)).toArray:=by
 let⟨d,c,e⟩:=rg lo h its.toArray.size;unfold slicePick;rw[d,c,e];simp only[sliceRange_one,pick_run]<;>rfl
def rSlL(K:Io):V->Option Int->Option Int->Hp->VK->Prop:=λx l h H Q=>∃a xs,x = .ref a/\SqL K H a xs/\∀p,H p=none->Q (.ref p) (upd H p (.lst (cutV xs l h)))
theorem N6:SlR X (rSlL X.K):=by
 intro pins s σ H x v vl k l i o Q I g hs j p h;let⟨a,xs,rfl,f,q⟩:=h;cases g;let⟨its,r,d,e⟩:=I.list f;have c:=r.length;refine⟨"list",_,slot_list_getitem.lookup,d.isList.typeIs,?_⟩;refine wpAny_getItem_list_slice d.isList hs j p .none (by simp) ?_ (by grind);rw[oJ,<-c];refine⟨.ref s.heap.objs.size,_,I.laid (t':=s.toks) (λb ob q=>AD _ q) (Ge _) ?_,rfl,q _ (I.hok.fresh (Ge _))⟩;exact⟨aao (lr xs l i) e,_,0,(r.drop _).take _,aai _ rfl⟩
theorem jP:c7 X (.builtin "len") (λxs H Q=>∃p ys,xs=[.ref p]/\(SqL X.K H p ys\/SqT X.K H p ys)/\Q (.int ys.length) H):=by
 intro pins s σ H xs f Q I r h;let⟨p,ys,rfl,d,q⟩:=h;let⟨u,rfl,e⟩:=vV r;cases e;have g:=md;rcases d with d|d
 .obtain⟨its,r',pl,hz⟩:=I.list d;have c:=r'.length;exact Calls.call_len_list pl.isList (by simp only[aay]<;>omega) ⟨.int ys.length,H,I.tok _,⟨s.toks+1,by rw[aay,c]⟩,q⟩
 .obtain⟨its,r',pl,hz⟩:=I.tuple d;have c:=r'.length;exact len_tuple pl (by simp only[aay]<;>omega) ⟨.int ys.length,H,I.tok _,⟨s.toks+1,by rw[aay,c]⟩,q⟩
theorem rj:c7 X (.builtin "len") (λxs H Q=>∃z,xs=[.str z]/\z.length≤aaf/\Q (.int z.length) H):=by
 intro pins s σ H xs d Q I r h;let⟨z,rfl,c,q⟩:=h;let⟨u,rfl,t,rfl⟩:=vV r;have e:=md;exact len_str (by omega) ⟨.int z.length,H,I.tok _,⟨_,rfl⟩,q⟩
theorem nh:c7 X (.type "tuple") (λxs H Q=>∃p ys,xs=[.ref p]/\((SqL X.K H p ys/\∀l,H l=none->Q (.ref l) (upd H l (.tup ys)))\/(SqT X.K H p ys/\Q (.ref p) H))):=by
 intro pins s σ H xs k Q I r h;let⟨p,ys,rfl,h⟩:=h;let⟨u,rfl,j⟩:=vV r;cases j;rcases h with⟨c,q⟩|⟨c,q⟩
 .obtain⟨its,r',pl,hz⟩:=I.list c;have d:=r'.length;refine call_tuple_list pl.isList (λi kp=>?_) (by simp_all);have f:=I.kept (t':=s.toks) kp;have g:=
   f.laid (t':=s.toks) (λb o e=>AD _ e) (Ge _) (show ObjOk X.prog X.w _ _ _ (.tup ys)from⟨hz,its,r',PlainT.new _ _⟩)
  exact⟨.ref i.objs.size,_,g,rfl,q _ (f.hok.fresh (Ge _))⟩
 .obtain⟨its,r',pl,hz⟩:=I.tuple c;exact call_tuple_same pl ⟨.ref p,H,I,rfl,q⟩
def tyV(K:Io)(T:String)(x:V)(H:Hp):Prop:=match x with
 | .str _=>T = "str"
 | .int _=>T = "int"
 | .ref p=>(T = "list"/\∃xs,SqL K H p xs)\/(T = "tuple"/\∃xs,SqT K H p xs) \/
   (T = "dict"/\((∃k,H p=some (.dK k))\/∃k,H p=some (.dT k)))\/(T = "set"/\∃S n,H p=some (.set S n))
 |_=>False
theorem IQ{s:Ad}{T:String}{x:V}{v:oR}(I:Inv X pins σ H s)(r:RelV x v)(ty:tyV X.K T x H) :
  s.TypeIs v T/\∀a,v = .ref a->∃ob,s.heap.get? a=some ob/\ob.dict=none:=by
 cases x with
 |str z=>
  let⟨t,rfl⟩:=r
  cases (show T = "str" from ty)
  exact⟨typeIs_str s z t,λ_ e=>nomatch e⟩
 |int i=>
  let⟨t,rfl⟩:=r
  cases (show T = "int" from ty)
  exact⟨agh s i t,λ_ e=>nomatch e⟩
 | ref p=>
  cases r;rcases ty with⟨rfl,xs,f⟩|⟨rfl,xs,f⟩|⟨rfl,h⟩|⟨rfl,S,n,h⟩
  .obtain⟨its,_,pl,_⟩:=I.list f;refine⟨pl.isList.typeIs,λa e=>?_⟩;cases e;let⟨o,n,e,c,hd,_⟩:=pl;exact⟨o,e,hd⟩
  .obtain⟨its,_,⟨o,e0,hc,hd,_⟩,_⟩:=I.tupleP f;refine⟨⟨o,e0,hc⟩,λa e=>?_⟩;cases e;exact⟨o,e0,hd⟩
  .have z:∃o,s.heap.get? p=some o/\o.ExactDict:=by
    rcases h with⟨k,h⟩|⟨k,h⟩
    .obtain⟨_,_,_,_,o,_,_,e,ex,_⟩:=I.hok p _ h;exact⟨o,e,ex⟩
    .obtain⟨_,_,_,_,o,_,_,e,ex,_⟩:=I.hok p _ h;exact⟨o,e,ex⟩
   let⟨o,e,ex⟩:=z;refine⟨⟨o,e,ex.1⟩,λa d=>?_⟩;cases d;exact⟨o,e,ex.2.1⟩
  .obtain⟨o,_,_,_,e,ex,_⟩:=I.hok p _ h;refine⟨⟨o,e,ex.1⟩,λa d=>?_⟩;cases d;exact⟨o,e,ex.2.1⟩
 |_=>exact abO ty
def tBM0(K:Io)(T:String)(r:V->List V->Hp->VK->Prop)(to:TE):TE:=λσ H Q=>to σ H λx c=>tyV K T x c/\r x [] c Q
def tBM(K:Io)(T:String)(r:V->List V->Hp->VK->Prop)(to:TE)(t:TA):TE:=λσ H Q=>to σ H λx c=>tyV K T x c/\t σ c λxs d=>r x xs d Q
variable {o e:Expr}{es:List Expr}{to:TE}{t:TA}{name:Str}{g d:Pos}{T id:String}{r:V->List V->Hp->VK->Prop}
theorem QP(p:PlainAttrs T)(slot:Slot T name id)(i:agi (.builtin id)=pure (.type "method_descriptor"))(l:MtR X id r)(ho:PE X o to)
  (c:aa5 o name X.env (eval o X.env)=eval o X.env:=by rfl) (f:(g.endLine==d.line)=true:=by rfl):PE X (.Call (.Attribute o name g) [] [] d) (tBM0 X.K T r to):=by
 intro pins s σ H Q I h;refine aeh c f (thn (ho pins s σ H _ I h) λv s1 ⟨x,q,j,r1,ty,w⟩=>?_);let⟨u,k⟩:=IQ j r1 ty;exact⟨T,id,p,slot,i,u,k,acH rfl (afd (l pins s1 σ q x [] v [] Q j r1 .nil w))⟩
theorem P6(q:PlainAttrs T)(slot:Slot T name id)(k:agi (.builtin id)=pure (.type "method_descriptor"))(C:MtR X id r)(ho:PE X o to)(ha:PA X (e::es) t)
  (f:aa5 o name X.env (eval o X.env)=eval o X.env:=by rfl)
  (i:((abw d (OR (e::es) X.env)).all (λx=>!x.1)&&(afk d (adD [] X.env)).all (λx=>x.1.isSome)
   && decide ((e::es).length+([]:List adm).length+(if ([]:List adm).isEmpty then 0 else 1)<30))=true:=by rfl)
  (c:(g.endLine==d.line)=true:=by rfl) (hs:OR (e::es) X.env=(false,eval e X.env)::OR es X.env:=by rfl) (j:(abw d (OR es X.env)).any (·.1)=false:=by rfl) :
  PE X (.Call (.Attribute o name g) (e::es) [] d) (tBM X.K T r to t):=by
 intro pins s σ H Q I h;refine agj f i c rfl (thn (ho pins s σ H _ I h) λv s1 ⟨x,D,p,r1,ty,F⟩=>?_);let⟨E,A⟩:=IQ p r1 ty;refine⟨T,id,q,slot,k,E,A,?_⟩;have l:=ha d pins s1 σ D _ p F;rw[hs]at l⊢;refine acH ‹_› (agH ?_);exact thn l<|by intro y s2 ⟨vs,B,u,w,z⟩;exact C pins s2 σ B x vs v y Q u r1 w z
end
def MtM(X:Cx)(id:String)(r:V->List V->Hp->VK->Prop):Prop:=
 ∀(pins:List (Addr×Obj)) (s:Ad) (σ:St) (H:Hp) (x:V) (xs:List V) (v:oR) (u:List oR) (Q:VK),Inv X pins σ H s->RelV x v->Vals xs u->r x xs H Q ->
  wpAny (model X.prog X.w) X.A (call (.builtin id) (v::u)) (EP X pins σ Q) X.xe s
theorem Vals.one:∀{x:V}{a:List oR},Vals [x] a->∃u,a=[u]/\RelV x u
 |_,_,.cons r .nil=>⟨_,rfl,r⟩
theorem Vals.two:∀{x y:V}{a:List oR},Vals [x,y] a->∃u v,a=[u,v]/\RelV x u/\RelV y v
 |_,_,_,.cons r (.cons q .nil)=>⟨_,_,rfl,r,q⟩
theorem Vals.rep{xs:List V}{u:List oR}(h:Vals xs u):∀k:Nat,Vals (aap k xs).flatten (aap k u).flatten
 |0=>.nil
 |k+1=>by
  exact Vals.append h (Vals.rep h k)
theorem kL(its:List oR):∀(k:Nat) (acc:List oR),
  ah8 (λb x=>b++x) acc.toArray (aap k its.toArray)=(acc++(aap k its).flatten).toArray
 |0,acc=>by simp
 | k+1,acc=>by
  have e:acc.toArray++its.toArray=(acc++its).toArray:=by simp
  have a:(acc++its)++(aap k its).flatten=acc++(aap (k+1) its).flatten:=by
   rw[adP,List.flatten_cons,act]
  rw[<-a,<-kL its k _,<-e,adP,acY]
section
variable {X:Cx}{p:List (Addr×Obj)}{a:St}{H:Hp}{s:Ad}{l b:Addr}{xs ys c:List V}
def Inv.lset{f:Array oR->Array oR}{t':Nat}(I:Inv X p a H s)(j:H l=some (.lst xs))
  (e:s.heap.get? l=some {cls:=.type "list",data:=.seq its.toArray n}) (d:f its.toArray=its'.toArray) (g:Vals ys its') (h:ys.length≤aaf) :
  Inv X p a (upd H l (.lst ys)) {s with heap:=s.heap.update l (aca f),toks:=t' }:=by
 have q:=PySem.IsL.update e f;rw[d]at q;refine I.write (by rw[j];exact trivial) (.inl rfl) (λk u hb i=>(aaV s.heap _ (abb hb)).trans i) ⟨_,q⟩ ?_;exact⟨h,its',_,g,q⟩
def Inv.lnew{t':Nat}(I:Inv X p a H s)(d:Vals ys its)(h:ys.length≤aaf) :
  Inv X p a (upd H s.heap.objs.size (.lst ys)) {s with heap:=s.heap.push {cls:=.type "list",data:=.seq its.toArray},toks:=t' }:=
 I.laid (λ_ _ q=>AD _ q) (Ge _) ⟨h,its,0,d,aai _ rfl⟩
def Inv.fresh(I:Inv X p a H s):H s.heap.objs.size=none:=I.hok.fresh (Ge _)
def Inv.lstM(I:Inv X p a H s)(h:H l=some (.lst xs)):xs.length≤aaf/\∃(its:List oR) (n:Nat),Vals xs its/\xs.length=its.length/\s.heap.get? l=some {cls:=.type "list",data:=.seq its.toArray n}:=by
 let⟨z,its,n,r,e⟩:=I.hok l _ h;exact⟨z,its,n,r,r.length,e⟩
def u3(h:n≤aaf):adW n=false:=by
 exact decide_eq_false (by omega)
end
section
variable {X:Cx}
def JE:V->List V->Hp->VK->Prop:=λx vs H Q=>∃l xs y,x = .ref l/\vs=[y]/\H l=some (.lst xs)/\xs.length<aaf/\Q .non (upd H l (.lst (xs++[y])))
theorem qx:MtM X "list.append" JE:=by
 intro pins s σ H x vs v g Q I d c h;let⟨l,xs,y,rfl,rfl,a,f,q⟩:=h;cases d;let⟨u,rfl,b⟩:=c.one;let⟨z,its,n,r,i,e⟩:=I.lstM a;refine aea F.slot_list_append ⟨_,e,rfl⟩ F.entry_list_append (F.args_list_append_2 _ _) (PySem.list_append l its.toArray n u (by grind)) ⟨e,?_⟩;refine⟨.non,_,I.lset (its':=its++[u]) a e (by simp) (r.append (.cons b .nil)) ?_,rfl,q⟩
 grind
def K7:V->List V->Hp->VK->Prop:=λx vs H Q=>∃l b xs z,x = .ref l/\vs=[.ref b]/\H l=some (.lst xs)/\H b=some (.lst z)/\xs.length+z.length≤aaf/\Q .non (upd H l (.lst (xs++z)))
theorem yy:MtM X "list.extend" K7:=by
 intro pins s σ H x vs v w Q I m j h;let⟨l,b,xs,B,rfl,rfl,d,p,t,q⟩:=h;cases m;let⟨u,rfl,f⟩:=j.one;cases f;let⟨z,its,n,r,A,e⟩:=I.lstM d;let⟨y,i,n2,g,k,o⟩:=I.lstM p;have c:its.toArray.size+i.toArray.size≤aaf:=by rw[aay,aay];omega
 have a:¬(!its.toArray.isEmpty&&adW (its.toArray.size+i.toArray.size))=true:=by
  rw[u3 c,Bool.and_false];exact aan
 refine aea F.slot_list_extend ⟨_,e,rfl⟩ F.entry_list_extend (F.args_list_extend_2 _ _)
  (AutoSeq1.list_extend_list_list_0 l its.toArray n b i.toArray n2 a (by grind) (by omega)) ⟨e,o,?_⟩
 refine⟨.non,_,I.lset (its':=its++i) d e (by simp) (r.append g) ?_,rfl,q⟩;rw[aat];omega
def rRep:R2:=λx y H Q=>∃l k xs,x = .ref l/\y = .int k/\H l=some (.lst xs)/\-(2^63)≤k/\k<2^63/\xs.length*k.toNat≤aaf/\
 ∀p,H p=none->Q (.ref p) (upd H p (.lst (aap k.toNat xs).flatten))
def CB(xs:List α)(k:Nat):(aap k xs).flatten.length=k*xs.length:=by simp
theorem QE:OpR X (acp .Mult) rRep:=by
 intro pins s σ H x y v u Q I E w h;let⟨l,k,xs,rfl,rfl,D,G,C,i,q⟩:=h;cases E;let⟨t,rfl⟩:=w;let⟨z,its,n,r,A,e⟩:=I.lstM D;have g:its.toArray.size*k.toNat≤aaf:=by rw[aay,<-A];exact i
 have d:¬its.toArray.size*k.toNat>(2^63-1)/8:=by
  have:(aaf:Nat)≤(2^63-1)/8:=by decide
  omega
 have f:¬(!acE.List.listFitsIndex k)=true:=by
  rw[fitsIndex_both G C];exact aan
 have b:¬adW (its.toArray.size*k.toNat)=true:=by
  rw[u3 g];exact aan
 have c:ah8 (λo j=>o++j) #[] (aap (if its.toArray.isEmpty=true then 0 else k.toNat) its.toArray)=(aap k.toNat its).flatten.toArray:=by
  have B:=λm=>by
   have:=kL its m [];rw[ae3]at this;exact this
  rw[B]
  cases its with
  |nil=>simp
  |cons a J=>rw[if_neg (by simp)]
 refine afy (T:= "list") (U:= "int") (by decide) ⟨_,e,rfl⟩ (λp=>agh p k t) noFill_list_mul F.fills_int_mul F.slot_int_rmul repeat_list F.slot_int_index.lookup
  (aea F.slot_int_rmul (agh s k t) F.entry_int_rmul (F.args_int_rmul_2 _ _) (int___rmul___int_list k t l its.toArray n)
   ⟨e,rfl,⟨_,e,rfl⟩,aea F.slot_list_mul ⟨_,e,rfl⟩ F.entry_list_mul (F.args_list_mul_2 _ _) (AutoListH.list___mul___list_int_3 l its.toArray n k t f d b) ⟨e,?_⟩⟩)
 rw[c];exact⟨.ref _,_,I.lnew (t':=s.toks) (r.rep k.toNat) (by rw[CB,abU];exact i),rfl,q _ I.fresh⟩
end
end L2
namespace Att
open PySem PySem.W PySem.Calls PyProof.Rows
theorem kz{P:Params}{h:aaR}:∀(ns:List Int) (vs:List oR),WellAll P h vs (ns.map WData.int)->agY vs ns:=by
 intro ns
 induction ns with
 |nil=>
  intro vs w;cases w;exact .nil
 | cons n ns i=>
  intro vs w
  cases w with
  |cons a b=>
   cases a;exact .cons _ _ (i _ b)
theorem B9{l:OpenLaw}{n:Nat}(k:l.most=some n){P:Params}{h:aaR}{args:List WData}{v:List oR}
  (b:l.row.toRowW.claim.pre args=true) (i:WellAll P h v args) :
  ∃a vs ns,v=[aaZ a]/\args=[WData.list (ns.map WData.int)]/\h.get? a=some {cls:=.type "list",data:=.seq vs.toArray}/\agY vs ns/\ns.length≤n:=by
 have f:WShape.hasAll [] args [.list .int]=true:=(pre_splitW b).1;have p:l.pre.holds [] {args:=args}=true:=(pre_splitW b).2;let⟨d,r,rfl,q,m⟩:=hasAllW_cons f;obtain rfl:=hasAllW_nil m;let⟨x,rfl,j⟩:=hasW_list q;let⟨ns,rfl⟩:=items_int j;have e:ns.length≤n:=by
  have g:=by
   have g:=(holds_andW p).1;rw[k]at g;omega
  have s:=condW_of g (w_not (w_lt w_lit (w_len_list (w_arg rfl))))
  simp_all
 cases i with
 |cons o w=>
  cases w
  cases o with
  |list ho c=>exact⟨_,_,ns,rfl,rfl,ho,kz ns _ c,e⟩
def AH(l:OpenLaw)(args:List WData):l.row.toRowW.claim.post args (.bool true) args=true:=
 postW_of
  rfl
  (w_eq_bool (w_res rfl) w_lit) rfl
def attach_call{l:OpenLaw}{n:Nat}{q:aaA}{b:List Str}{X:(Str->Option oR)->aaR->Prop}{y:World->aaR->Prop}{d:DefRec}
  (J:l.most=some n) (m:d.params.defaults=[])
  (call:∀(w:World) (s₀ s:Ad) (mg mb:Str->Option oR) (i:Addr) (o:Obj) (pm k c:oR) (a:Addr) (vs:List oR) (ns:List Int),
   Ground q b [] X w s₀ mg mb s.heap->y w s.heap ->
   s.heap.get? i=some o->o.data = .func (docDef d.name d.params d.body d.scope pm k c)->s.heap.CodeRec k d.name->mg d.name=some (.ref i) ->
   s.heap.get? a=some {cls:=.type "list",data:=.seq vs.toArray}->agY vs ns->ns.length≤n->s.gens = #[] ->
   ael (model l.prog w) agZ (.call (.ref i) ⟨[.ref a],[]⟩) (λr s'=>r = .ok (.ret (.bool true))/\OldK s.heap s'.heap/\s'.os=s.os/\aeN s'.gens) s) :
  WalkO q b X y l.row.toRowW d [] (λf vs=>ah9 f vs):=by
 intro w s₀ s mg mb G Y i o pm k c F kV ho hd p A t E v x M g z B u H;obtain rfl:F = .none:=Dflts.none A m;obtain rfl:kV = .none:=Dflts.noKw A;let⟨a,vs,ns,rfl,rfl,j,h,e⟩:=B9 J g u;refine enter_call (adK (call w s₀ s mg mb i o pm k c a vs ns G Y ho (fd_plain hd) p t j h e E) λr s' D=>?_);let⟨rfl,K,I,C⟩:=D;exact⟨.inl ⟨.bool true,.bool true,[],rfl,λ_=>rfl,.bool true,AH l _,λ_=>⟨List.Pairwise.nil,λ_ L=>(nomatch L)⟩⟩,K,I,C⟩
end Att
namespace L2
open PySem PySem.Spec PyProof.Rows
variable{P:MSt->Prop}{w:WS}{K:Kd}{mg:Str->Option oR}{a l:Addr}{fd:abZ}{ns:List Int}{i j n nN q:Nat}{X:Cx}{qual y:Str}{st:Stmt}{f:String->Bool}{N ps:List Str}{od:Option Addr}{A B:Prop}{env:Env}{scope:Scope}{c e elt t tg:Expr}{p pos pos':Pos}{ifs:List Expr}{tb:TS}{J:It}{fp:List Addr}{tn:Nat->aaR->Prop}{pins:List (Addr×Obj)}{σ σ':St}{H H' H0 H1 H2 Hb:Hp}{D:Ends}{E:oR->Ad->Prop}{Q:VK}{vs xs:List V}{ds ds':List dL}{v:V}{ao:Ao}{α α' α1 β:Al}{τ:List (List Nat×Addr)}{r:R}{o:WO}{op:CmpOp}{T:String}{sp:SpM}{ks:List Nat}{De:dJ}{g:WG}{gs:WGs}{m1:MSt}{wi:WI}{we:WE}{tt:WT}{ob:R->Option Int->Option Int->MSt->(R->Prop)->Prop}{hi lo:Option Expr}{wh wl:WO1}{as:List Ag}{Ko:Option Int->MSt->Prop}{Ks:Src->MSt->Prop}
theorem r9:∀{vs:List oR}{ns:List Int},agY vs ns->Vals (ns.map V.int) vs
 |_,_,.nil=>.nil
 |_,_,.cons n t h=>.cons ⟨t,rfl⟩ (r9 h)
def Only(H:Hp):Prop:=∀b,H b=none\/∃o xs,H b=some (.frz o (.lst xs))
theorem Gw{P:aaA}{w:World}{K:Io}{mb:Str->Option oR}{CX:CXT}{k:Nat}{fa:Addr}{x:Str}{sp:Sp}{C:Ad}{vs:List oR}
  (KX:K.In C.heap) (O:C.heap.Ns aag mg) (hb:C.heap.Ns builtinsNs mb) (hbb:∀x:Str,x ≠ "__name__" -> mb x=aaL x) (U:C.heap.NoLimit) (hsy:∃m,C.heap.Ns abD m) (hg:C.gens = #[])
  (ha:C.heap.get? a=some {cls:=.type "list",data:=.seq vs.toArray}) (hi:agY vs ns) (hl:ns.length≤aaf) (hr:Room k agZ)
  (F:∀base:aaR,K.In base->base.Ns aag mg->FnOk P w K mg base CX k fa fd [x] sp) (M:∀(s:Ad) (u:oR),ahu s fd ⟨[u],[]⟩ [(x,u)])
  (hsp:∀H:Hp,Only H->SqL K H a (ns.map V.int)->sp [.ref a] H (λv _=>v = .bl true) λ_ _ _=>False)
  (hCX:∀H e s',CX [] H C (λ_ _ _=>False) e s'->False) :
  ael (model P w) agZ (.call (.ref fa) ⟨[.ref a],[]⟩) (λr s'=>r = .ok (.ret (.bool true))/\OldK C.heap s'.heap/\s'.os=C.os/\aeN s'.gens) C:=by
 have rv:=r9 hi;have Z:=hi.length;have L:∀H:Hp,Only H->SqL K H a (ns.map V.int)->HOk P w H C.heap->(∀b,H b≠none->b=a)->(H a≠none->K.lookup a=none) ->
   ael (model P w) agZ (.call (.ref fa) ⟨[.ref a],[]⟩) (λr s'=>r = .ok (.ret (.bool true))/\OldK C.heap s'.heap/\s'.os=C.os/\aeN s'.gens) C:=by
  intro H hO hS hok hA hK;have G:∀{b:Addr}{o:Obj},C.heap.get? b=some o->H b=none->(hidT C.heap H).get? b=some o:=λe n=>FU e n;have noA:∀{b:Addr}{o:Obj}{W:Array ab3}{ep:Nat},C.heap.get? b=some o->o.data = .dict W ep->H b=none:=λ{b o W ep} e d=>by
   cases q:H b with
   |none=>rfl
   |some u=>
    have e':b=a:=hA b (by rw[q];simp);subst e';rw[ha]at e;cases e;have d':Data.seq vs.toArray _=Data.dict W ep:=d;cases d'
  have I:∀{b:Addr}{m:Str->Option oR},C.heap.Ns b m->(hidT C.heap H).Ns b m:=λ{b m} ⟨o,W,ep,e,d,r⟩=>⟨o,W,ep,G e (noA e d),d,r⟩;have S:K.In (hidT C.heap H):=λb o e=>G (KX b o e) (by
   cases q:H b with
   |none=>rfl
   |some u=>
    have e':b=a:=hA b (by rw[q];simp);subst e';rw[hK (by rw[q];simp)]at e;cases e)
  have hM:Mod K mg (hidT C.heap H):=⟨S,I O,⟨mb,I hb,hbb⟩,let ⟨mc,h1,h2⟩:=U;⟨mc,I h1,h2⟩,let ⟨m,h⟩:=hsy;⟨m,I h⟩⟩;have e0:Env0 P w K mg (hidT C.heap H) agZ [] C H:=⟨rfl,hM,λb o e=>Jj e,Nat.le_of_eq (Ck _ _),trivial,λb hb=>absurd (show b∈([]:List Addr)from hb) (by simp),hok,.of_eq hg⟩;refine adK ((F _ S (I O)).run agZ [] C H ⟨[.ref a],[]⟩ [.ref a] [.ref a] _ _ hr e0 (M C (.ref a)) (.cons rfl .nil) (hsp H hO hS)) λr s' h=>?_
  cases r with
  |error e=>exact(hCX H e s' h).elim
  | ok fl=>
   cases fl with
   |next=>exact abO h
   |brk=>exact abO h
   |cont=>exact abO h
   | ret u=>
    let⟨v,H',os,bare,un,Y,r',q⟩:=h;have q':v = .bl true:=q;subst q';obtain rfl:u=ah6 true:=r';refine⟨rfl,OldK.of_keep λb o e=>?_,os,bare⟩
    cases q:H b with
    |none=>exact un.keep b o e q (by intro z;exact absurd (show b∈([]:List Addr)from z) (by simp)) (by simp)
    |some u=>
     rcases hO b with z|⟨ob,xs,z⟩
     .rw[q]at z;cases z
     .have z2:=un.frzs b ob _ z;let⟨e1,_⟩:=hok b _ z;let⟨e2,_⟩:=Y b _ z2;rw[e]at e1;cases e1;exact e2
 cases hk:K.lookup a with
 |some o=>
  have e:=KX a o hk;rw[ha]at e;cases e;refine L (λ_=>none) (λ_=>.inl rfl) (.inr ⟨_,vs.toArray,_,hk,rfl,rfl,rfl,by rw[aay,Z];exact hl,by simpa using rv⟩) (λb u z=>by have R:(none:Option HO)=some u:=z;cases R) (λb z=>absurd rfl z) λz=>absurd rfl z
 | none=>
  refine L (λb=>if b=a then some (.frz {cls:=.type "list",data:=.seq vs.toArray} (.lst (ns.map V.int)))else none) (λb=>?_) (.inl (.inr ⟨{cls:=.type "list",data:=.seq vs.toArray},if_pos rfl⟩)) (λb u z=>?_) (λb z=>?_) λ_=>hk
  .by_cases hb:b=a
   .exact .inr ⟨_,_,if_pos hb⟩
   .exact .inl (if_neg hb)
  .by_cases hb:b=a
   .have R:=(if_pos hb).symm.trans z;cases R;subst hb;exact⟨ha,by rw[gE];exact hl,vs,_,rv,ha⟩
   .have R:=(if_neg hb).symm.trans z;cases R
  .by_cases hb:b=a
   .exact hb
   .exact absurd (if_neg hb) z
theorem Jr{l:ahY}{k:Nat}{q:aaA}{z:List Str}{XP:(Str->Option oR)->aaR->Prop}{Z:World->aaR->Prop}{d:DefRec}{K:Params->Io}{CX:World->CXT}{sp:World->Sp}{x:Str}
  (hq:importsNone q=true) (hn:l.most=some n) (R:n≤aaf) (O:d.params.defaults=[]) (hr:Room k agZ)
  (hY:∀(w:World) (h:aaR),Z w h->(K w.params).In h)
  (F:∀(w:World) (mg:Str->Option oR) (M:Addr) (h:aaR),(K w.params).In h->h.Ns aag mg->mg d.name=some (.ref M) ->
   ∃fd:abZ,(∀(s:Ad) (u:oR),ahu s fd ⟨[u],[]⟩ [(x,u)])/\
    ∀base:aaR,(K w.params).In base->base.Ns aag mg->FnOk l.prog w (K w.params) mg base (CX w) k M fd [x] (sp w))
  (U:∀(w:World) (H:Hp) (a:Addr) (ns:List Int),ns.length≤n->Only H->SqL (K w.params) H a (ns.map V.int)->sp w [.ref a] H (λv _=>v = .bl true) λ_ _ _=>False)
  (S:∀(w:World) (H:Hp) (s:Ad) (e:oR) (s':Ad),CX w [] H s (λ_ _ _=>False) e s'->False) :
  aie q z XP Z l.row.toRowW d [] (λf vs=>ah9 f vs):=by
 refine Att.attach_call hn O λw s₀ I mg mb M o pm cd doc a vs ns G Y ho hd hcd W L C b hg=>?_;have KX:=hY w _ Y;let⟨fd,hb,hF⟩:=F w mg M _ KX G.T.g W;exact Gw KX G.T.g G.T.b G.T.builtins G.T.nolimit (by let⟨m,h,_⟩:=(G.T.seer hq).mods;exact⟨m,h⟩) hg L C (aao b R) hr hF hb (λH hO hS=>U w H a ns b hO hS) λH e s'=>S w H I e s'
def gC(s:Stmt):Arguments:=match s with
 | .FunctionDef _ a _ _ _ _ _ _ _ _=>a
 |_=>{posonlyargs:=[],args:=[],vararg:=none,kwonlyargs:=[],kw_defaults:=[],kwarg:=none,defaults:=[]}
def bV(s:Stmt):List Stmt:=match s with
 | .FunctionDef _ _ b _ _ _ _ _ _ _=>b
 |_=>[]
def ac(s:Stmt):Scope:=match s with
 | .FunctionDef _ _ _ _ _ _ b _ _ _=>b
 |_=>{kind:=.function,names:=[],isGenerator:=false,isCoroutine:=false}
abbrev CX0:CXT:=λ_ _ _ _ _ _=>False
abbrev E0:XK:=λ_ _ _=>False
def WN:vI CX0 X E0:=λ_ _ _ _ _ _ _ h=>h.elim
structure Fun(K:Io)(x qual:Str)(st:Stmt)(f:Addr)(fd:abZ):Prop where
 ex:∃(oc:oR) (od:Option Addr) (kV doc pm:oR) (an:Option Addr) (cdv ct:oR) (osl:Array (Option oR)),
  fd=acG x qual (gC st) (bV st) (ac st) .none kV doc pm an cdv ct/\K.lookup f=some ⟨oc,od,.func fd,osl⟩/\aem K cdv qual=true
 kp:abP K (.ref f)=true
section
variable {P:aaA}{w:World}{K:Io}{mg:Str->Option oR}{base:aaR}
theorem Fun.ok{x:Str}{f:Addr}{k:Nat}{sp:Sp}(F:Fun K x qual st f fd)(S:FnScope N ps (ac st))(len:∀vs H Q E,sp vs H Q E->vs.length=ps.length)
  (d:∀(b:oR) (A:aa2) (outer:List Env) (s:Ad) (H:Hp) (vs:List V) (Q:VK) (E:XK),Room k (A.deeper (ad9 qual (ac st) s.heap.objs.size f b))->sp vs H Q E ->
   ∃t,PSs (cxOf CX0 P w K mg base N qual (ac st) f b A outer s H E).nox (bV st) t/\t {nx:=λ_ H'=>Q .non H',rt:=Q} (start N vs) H):FnOk P w K mg base CX0 (k+1) f fd ps sp:=by
 let⟨I,od,kV,z,pm,an,b,ct,G,rfl,C,m⟩:=F.ex;refine T8 C m S len λA outer s H vs Q E hr u=>?_;let⟨t,h,q⟩:=d b A outer s H vs Q E hr u;exact⟨t,h.nox,q⟩
theorem Fun.binds{x:Str}{f:Addr}(F:Fun K x qual st f fd)
  (h:∀(kV d pm:oR) (an:Option Addr) (b ct:oR) (u:List oR),u.length=ps.length->bindArgs (acG x qual (gC st) (bV st) (ac st) .none kV d pm an b ct) ⟨u,[]⟩=pure (ps.zip u)):Binds K fd ps []:=by
 let⟨s,od,kV,d,pm,an,b,ct,m,rfl,z,k⟩:=F.ex;exact .all (h kV d pm an b ct)
def yc{x:Str}{f:Addr}{m:oR}{an:Option Addr}{h:Array (Option oR)}{kV d pm b ct:oR}(l:K.lookup f=some ⟨m,od,.func (acG x qual (gC st) (bV st) (ac st) .none kV d pm an b ct),h⟩)
  (c:aem K b qual=true) (k:abP K (.ref f)=true):Fun K x qual st f (acG x qual (gC st) (bV st) (ac st) .none kV d pm an b ct):=⟨⟨m,od,kV,d,pm,an,b,ct,h,rfl,l,c⟩,k⟩
end
theorem iteF(h:B):if false=true then A else B:=by simp_all
theorem iteT(h:A):if true=true then A else B:=by simp_all
def bc(X:Cx)(scope:Scope)(cl:List (Str×Addr))(N:List Str)(s:Ad)(H:Hp)(C:Addr)(ex:List Addr):Cx where
 prog:=X.prog
 w:=X.w
 K:=X.K
 mg:=X.mg
 base:=X.base
 A:=X.A
 N:=N
 s₀:=s
 H₀:=H
 env:=agI scope cl C X.env
 outer:=X.stack
 stack:=X.stack
 ex:=ex
 fn:=λ_=>false
 calm:=X.calm
 eb:=X.eb
 pn:=[]
 xe:=λ_ _=>False
theorem js{env:Env}:∀{names:List (Str×aeS)}{acc:List (Str×Addr)},(∀y∈names,y.2 = .free->∃c,env.cells.lookup y.1=some c)->(∀x c,acc.lookup x=some c->env.cells.lookup x=some c) ->
  ∃cl,(forIn names acc λ(x:Str×aeS) (L:List (Str×Addr))=>if (x.2==aeO)=true then do let c <- cellOf env x.1;pure (ae4 ((x.1,c)::L))else pure (ae4 L):Sem (List (Str×Addr)))=pure cl/\
   (∀x c,cl.lookup x=some c->env.cells.lookup x=some c)/\(∀y∈names,y.2 = .free->∃c,cl.lookup y.1=some c)/\(∀x,(∃c,acc.lookup x=some c)->∃c,cl.lookup x=some c)
 |[],acc,_,ha=>⟨acc,rfl,ha,λy b=>absurd b (by simp),λ_ h=>h⟩
 | (n,k)::r,acc,h,ha=>by
  rw[ad5]
  by_cases G:k = .free
  .subst G;let⟨c,O⟩:=h (n,.free) aac rfl;have u:env.cells.lookup n=some c:=O;have M:cellOf env n=pure c:=by unfold cellOf;rw[u]
   let⟨cl,I,C,F,z⟩:=js (env:=env) (names:=r) (acc:=(n,c)::acc) (λy b=>h y (aad _ b)) (λx d s=>by
    rw[acb]at s
    cases hb:x==n with
    |true=>rw[hb]at s;cases s;rw[eq_of_beq hb];exact u
    |false=>rw[hb]at s;exact ha x d s)
   refine⟨cl,?_,C,λy b m=>?_,λx s=>z x ?_⟩
   .simp only[beq_self_eq_true,if_true,M,pure_bind];exact I
   .obtain rfl|b:=aaq.mp b
    .exact z n ⟨c,by rw[acb];simp⟩
    .exact F y b m
   .obtain⟨d,hd⟩:=s;rw[acb]
    cases hb:x==n with
    |true=>exact⟨c,rfl⟩
    |false=>exact⟨d,hd⟩
  .have hb:(k==aeO)=false:=by simpa using G
   let⟨cl,I,C,F,z⟩:=js (env:=env) (names:=r) (acc:=acc) (λy b=>h y (aad _ b)) ha;refine⟨cl,?_,C,λy b m=>?_,z⟩
   .simp only[hb,adn,if_false,pure_bind];exact I
   .obtain rfl|b:=aaq.mp b
    .exact absurd m G
    .exact F y b m
theorem gh(h:∀y∈scope.names,y.2 = .free->∃c,env.cells.lookup y.1=some c) :
  ∃cl,closureFor scope env=pure cl/\(∀x c,cl.lookup x=some c->env.cells.lookup x=some c)/\∀y∈scope.names,y.2 = .free->∃c,cl.lookup y.1=some c:=by
 let⟨cl,e,k,d,_⟩:=js (acc:=[]) h (λx c b=>by cases b);refine⟨cl,?_,k,d⟩;simp[closureFor]
 simp_all
def PTs(X:Cx)(ifs:List Expr)(t:TT):Prop:=
 ∀(pins:List (Addr×Obj)) (s:Ad) (σ:St) (H:Hp) (Q:Bool->Hp->Prop),Inv X pins σ H s->t σ H Q ->
  wpAny (model X.prog X.w) X.A (forIn ifs true λc r=>if r=true then do let ok <- isTrue c X.env (eval c X.env);pure (ae4 ok)else pure (ae4 r)) (TP X pins σ Q) X.xe s
def Nr:TT:=λ_ H Q=>Q true H
theorem Mi:PTs X [] Nr:=λ_ _ _ H _ I h=>wpAny_tests_nil ⟨H,I,h⟩
theorem Ki{t:TT}(b:PT X c t):PTs X [c] t:=λpins s σ H Q I h=>wpAny_tests_one (b pins s σ H Q I h)
def PB(X:Cx)(bd:Sem PUnit)(t:TS):Prop:=
 ∀(pins:List (Addr×Obj)) (s:Ad) (σ:St) (H:Hp) (D:Ends),Inv X pins σ H s->t D σ H->wpAny (model X.prog X.w) X.A bd (λ_ b=>∃σ' H',Inv X pins σ' H' b/\D.nx σ' H') X.xe s
def qi(J:It)(g:TG)(tb:TS):TS:=λD σ H=>∃W:Nat->Nat->St->Hp->Prop,(∃m,W 0 m σ H)/\∀i m σ H,W i m σ H ->
 (J.stop i H/\D.nx σ H)\/(J.go i H/\∃N:St->Hp->Prop,(∀σ' H',N σ' H'->∃d,d<m/\W (i+1) d σ' H')/\∀x H',J.yld i H x H'->g x σ H' λb H2=>tb {D with nx:=N,ct:=N,bk:=D.nx} b H2)
def tIfT(tt:TT)(tb:TS):TS:=λD σ H=>tt σ H λb H1=>if b=true then tb D σ H1 else D.nx σ H1
def wq(l:Addr)(b:TE):TS:=λD σ H=>b σ H λx H1=>∃xs,H1 l=some (.lst xs)/\xs.length<aaf/\D.nx σ (upd H1 l (.lst (xs++[x])))
theorem qW{gens:List Comprehension}{d:Nat}{G:Addr}{acc:oR}{ipos:Pos}{bd:Sem PUnit}{g:TG}{tt:TT}
  (L:compTurn (.ListComp elt gens scope pos) d (.ref G) acc X.env=(do
   adx ipos
   match <- acP (.ref G)with
   |none=>pure (.done .next)
   | some v=>
    ad4 tg (.ref G) v
    ad8 tg X.env v
    let mut ok:=true
    for c in ifs do
     if ok then ok <- isTrue c X.env (eval c X.env)
    if ok then bd
    again (.compLoop (.ListComp elt gens scope pos) d (.ref G) acc X.env)))
  (hx:X.xe=λ_ _=>False) (hc:X.calm=true) (T:Turn X.prog X.w X.K tg J fp G tn) (hg:PG X tg g) (ht:PTs X ifs tt) (hb:PB X bd tb)
  {s:Ad} (I:Inv X pins σ H s) (st:tn 0 s.heap) (f:∀b∈fp,FpOk X pins H b) (h:qi J g (tIfT tt tb) D σ H) :
  ael (model X.prog X.w) X.A (.compLoop (.ListComp elt gens scope pos) d (.ref G) acc X.env) (λr s'=>r = .ok .next/\∃σ' H',Inv X pins σ' H' s'/\D.nx σ' H') s:=by
 let⟨W,⟨m0,w0⟩,turn⟩:=h;have C:∀{H':Hp},(∀b∈fp,H' b=none)->∀b∈fp,FpOk X pins H' b:=λhn b hb=>⟨hn b hb,(f b hb).2⟩;have nox:∀{α:Type}{t:Sem α}{Q:α->Ad->Prop}{E:oR->Ad->Prop}{s:Ad},wpAny (model X.prog X.w) X.A t Q X.xe s->wpAny (model X.prog X.w) X.A t Q E s:=λh=>ab9 h (λ_ _ q=>q) λ_ _ z=>by
  rw[hx]at z;exact z.elim
 refine codeAny_loop rfl (λn s'=>∃i σ' H',Inv X pins σ' H' s'/\tn i s'.heap/\(∀b∈fp,H' b=none)/\W i n σ' H') ?_ m0 ⟨0,σ,H,I,st,λb hb=>(f b hb).1,w0⟩;intro n s3 ⟨i,F,H3,I3,U,R,w3⟩;show wpAny _ X.A ((compTurn (.ListComp elt gens scope pos) d (.ref G) acc X.env).onRaise (λx=>do ahL x X.env;theTreesLotGoes x)) _ _ s3;refine wpAny_noted ?_;rw[L];refine aD (m:=adx _) (aci (aD ?_));rcases turn i n F H3 w3 with⟨stop,qn⟩|⟨go,N,hN,step⟩
 .refine thn (T.done X rfl rfl rfl hc i pins s3 F H3 _ I3 (C R) U stop) λr s4 ⟨hr,I4⟩=>?_;subst hr;exact Dl ⟨rfl,F,H3,I4,qn⟩
 .refine thn (T.item X rfl rfl rfl hc i pins s3 F H3 _ I3 (C R) U go) λr s4 ⟨u,hr,h4⟩=>?_;subst hr;refine aD (thn h4 λ_ s5 ⟨x,H5,I5,r5,y5,M,fr5⟩=>?_);have I5':=I5.pinned (C fr5) (T.obj _ _ M);refine aD (nox (thn (hg _ s5 F H5 x u _ I5' r5 (step x H5 y5)) λ_ s6 ⟨S,H6,I6,q6⟩=>?_));refine aD (nox (thn (ht _ s6 S H6 _ I6 q6) λok s7 ⟨H7,I7,q7⟩=>?_));have V:∀{k:St}{O:Hp}{Y:Ad},Inv X (pins++qq fp s5.heap) k O Y->N k O->∃m,m<n/\∃i σ' H',Inv X pins σ' H' Y/\tn i Y.heap/\(∀b∈fp,H' b=none)/\W i m σ' H':=λ{k O Y} Z n8=>by
   let⟨m',hm,w8⟩:=hN k O n8;refine⟨m',hm,i+1,k,O,Z.unpinned,T.keep _ _ _ M λb hb o e=>(Z.pin (b,o) (abh _ (abh _ (gU hb e)))).1,λb hb=>?_,w8⟩;let⟨o,e,_⟩:=T.obj _ _ M b hb;exact(Z.pin (b,o) (abh _ (abh _ (gU hb e)))).2.1
  cases ok with
  |false=>
   rw[if_neg aan]at q7;exact Dl ⟨rfl,V I7 q7⟩
  |true=>
   rw[if_pos rfl]at q7;exact aD (nox (thn (hb _ s7 S H7 _ I7 q7)<|by intro _ Y ⟨k,O,Z,q8⟩;exact Dl ⟨rfl,V Z q8⟩))
theorem tj{b:TE}(d:PE X elt b):PB X (do let _ <- call (.builtin "list.append") [.ref l,<-eval elt X.env]) (wq l b):=by
 intro pins s σ H D I h;refine aD (thn (d pins s σ H _ I h) λu s1 ⟨x,H1,L,r1,xs,z,m,q⟩=>?_);refine aD (thn ?_ λ_ k F=>Dl F);exact thn (qx pins s1 σ H1 (.ref l) [x] _ [u] (λv H'=>v = .non/\D.nx σ H') L rfl (.cons r1 .nil) ⟨l,xs,x,rfl,rfl,z,m,rfl,q⟩)<|by intro v k ⟨_,H',G,_,_,C⟩;exact⟨σ,H',G,C⟩
theorem fw(env:Env)(x:Str):∀names:List (Str×aeS),(names.map λ(n,k)=>if (k==aeO&&env.scope.kind == .function&&env.kindOf n==some .cell)then(n,aif)else(n,k)).lookup x =
  (names.lookup x).map λk=>if (k==aeO&&env.scope.kind == .function&&env.kindOf x==some .cell)then aif else k
 |[]=>rfl
 | (n,k)::r=>by
  have b:=fw env x r;rw[aaD];dsimp only
  cases hx:x==n with
  |true=>
   have e:=eq_of_beq hx;subst e
   by_cases h:(k==aeO&&env.scope.kind == .function&&env.kindOf x==some .cell)=true
   .simp only[acb,hx,acZ,if_pos h]
   .simp only[acb,hx,acZ,if_neg h]
  |false=>
   split
   .simp only[acb,hx];exact b
   .simp only[acb,hx];exact b
def h7{x:Str}{k:aeS}:∀{names:List (Str×aeS)},names.lookup x=some k->(x,k)∈names:=λh=>ab4 h
theorem lJ{x:Str}(b:∀y∈scope.names,y.2≠.cell)(h:(ag0 scope env).names.lookup x=some .cell\/(ag0 scope env).names.lookup x=some .free):scope.names.lookup x=some .free:=by
 unfold ag0 at h;simp only[fw]at h
 cases e:scope.names.lookup x with
 |none=>rw[e]at h;rcases h with h|h<;>cases h
 |some k=>
  rw[e]at h;simp only[acZ]at h;have m:=b _ (h7 e)
  by_cases d:k = .free
  .rw[d]
  .simp_all
def qX{x:Str}(h:scope.names.lookup x=some .free):(ag0 scope env).names.lookup x=some .cell\/(ag0 scope env).names.lookup x=some .free:=by
 unfold ag0;simp only[fw,h,acZ];split
 .exact .inl rfl
 .exact .inr rfl
def il(own:List Str)(ps:List Nat)(σ:St):St:=own.map (λ_=>none)++ps.map λi=>(σ[i]?).join
structure b8(own fr:List Str)(scope sc:Scope):Prop where
 kind:scope.kind = .function
 nocell:∀y∈scope.names,y.2≠.cell
 names:∀y∈scope.names,y.2 = .local->scope.names.lookup y.1=some .local
 there:∀y∈scope.names,y.2 = .free->sc.names.lookup y.1=some .cell\/sc.names.lookup y.1=some .free
 fr:∀x∈fr,scope.names.lookup x=some .free
section
variable {X:Cx}{scope sc:Scope}{own fr:List Str}{ps:List Nat}
theorem lG{n:Expr}{rest:List Comprehension}{bdy:Env->oR->Sem PUnit}{g:TG}{tt:TT}{tb:Addr->TS}{cl:List (Str×Addr)}{R:oR->Addr->Result->Ad->Prop}
  (S:b8 own fr scope sc) (hsc:X.env.scope=sc) (hps:ps.map (λi=>X.N[i]?)=fr.map some) (hc:X.calm=true) (F:∀x c,cl.lookup x=some c->X.env.cells.lookup x=some c) (Z:∀y∈scope.names,y.2 = .free->∃c,cl.lookup y.1=some c)
  (hturn:∀env Y acc,compTurn (.ListComp elt (⟨tg,n,ifs,0⟩::rest) scope pos) 0 Y acc env=(do
   adx n.pos
   match <- acP Y with
   |none=>pure (.done .next)
   | some v=>
    ad4 tg Y v
    ad8 tg env v
    let mut ok:=true
    for c in ifs do
     if ok=true then ok <- isTrue c env (eval c env)
    if ok then bdy env acc
    again (.compLoop (.ListComp elt (⟨tg,n,ifs,0⟩::rest) scope pos) 0 Y acc env)))
  (hg:∀s H C ex,PG (bc X scope cl (own++fr) s H C ex) tg g) (ht:∀s H C ex,PTs (bc X scope cl (own++fr) s H C ex) ifs tt)
  (hb:∀s H C ex l,PB (bc X scope cl (own++fr) s H C ex) (bdy (agI scope cl C X.env) (.ref l)) (tb l))
  {s:Ad}{Y:Addr} (I:Inv X pins σ H s) (T:Turn X.prog X.w X.K tg J fp Y tn) (st:tn 0 s.heap) (f:∀b∈fp,FpOk X pins H b)
  (h:∀l,H l=none->qi J g (tIfT tt (tb l)) {nx:=λ_ H'=>Q (.ref l) H',rt:=λ_ _=>False} (il own ps σ) (upd H l (.lst [])))
  (hR:∀l C H' s',(∃m,s'.heap.Ns C m)->Inv X pins σ H' s'->FpOk X pins H' C->Q (.ref l) H'->R (.ref l) C (.ok .next) s') :
  wpAny (model X.prog X.w) X.A (newList []) (λacc s₃=>wpAny (model X.prog X.w) X.A (newFunctionEnv scope X.env.globals cl [] X.env.qual none .none (some X.env)) (λcenv s₄=>
   ael (model X.prog X.w) X.A (.compStart (.ListComp elt (⟨tg,n,ifs,0⟩::rest) scope pos) 0 (.ref Y) acc {cenv with scope:=ag0 scope X.env}) (R acc cenv.locals) s₄) E s₃) E s:=by
 refine aa3 (wpAny_newFunctionEnv S.nocell (by intro y hy;simp at hy) (λO M U=>?_) S.kind);have L:Inv X pins σ (upd H s.heap.objs.size (.lst [])) {s with heap:=s.heap.push {cls:=.type "list",data:=.seq ([]:List oR).toArray} }:=I.lnew (t':=s.toks) (ys:=[]) .nil (abv _);generalize hS3:({s with heap:=s.heap.push {cls:=.type "list",data:=.seq ([]:List oR).toArray} }:Ad)=G at L M U⊢;have hsz:G.heap.objs.size=s.heap.objs.size+1:=by rw[<-hS3];exact abq _ _
 have hl:H s.heap.objs.size=none:=I.hok.fresh (Ge _);have kept0:∀b o,s.heap.get? b=some o->G.heap.get? b=some o:=λb o e=>by rw[<-hS3];exact AD _ e
 have d:∀b o,G.heap.get? b=some o->O.get? b=some o:=λb o e=>U.extBut b o (aaK (aab e)) (AD _ e);have fpl:∀b∈fp,b<s.heap.objs.size:=λb hb=>by let⟨o,e,_⟩:=T.obj _ _ st b hb;exact aab e
 have fpH:∀b∈fp,(upd H s.heap.objs.size (.lst [])) b=none:=λb hb=>by rw[ag (aaK (fpl b hb))];exact(f b hb).1
 have fpS:∀b∈fp,b∉frs X.stack:=λb hb z=>by
  rcases aaq.mp (I.stkSub b z)with e|e
  .exact(f b hb).2.1 e
  .exact(f b hb).2.2.1 e
 have ok':(bc X scope cl (own++fr) G (upd H s.heap.objs.size (.lst [])) G.heap.objs.size fp).Ok:=by
  refine⟨I.ok.mod,S.kind,I.ok.glob,I.ok.blt,Ge _,λx y c h1 h2=>I.ok.inj x y c (F x c h1) (F y c h2),λx hx=>?_,λx c hf=>(by cases hf),I.ok.hd,I.ok.frames,.inl rfl,λb hb=>⟨?_,λx c hx=>(f b hb).2.2.2.2.1 x c (F x c hx)⟩,
   λb o e=>L.bs b o e,aao L.ok.bsz L.sz,λb o e hb=>?_,λb hb=>fpS b hb,L.stack,L.stkFree⟩
  .exact Z (x,.free) (h7 (lJ S.nocell hx)) rfl
  .exact aaK (aak (fpl b hb) (by rw[hsz];exact agJ _))
  .rcases (f b hb).2.2.2.1 with z|z
   .exact I.ok.noex b o e z
   .exact absurd (aak (aab (I.ok.bs b o e).1) z) (ac8 _)
 have I4:Inv (bc X scope cl (own++fr) G (upd H s.heap.objs.size (.lst [])) G.heap.objs.size fp) [] (il own ps σ) (upd H s.heap.objs.size (.lst [])) {G with heap:=O,toks:=G.toks+([]:List (Str×oR)).length}:=by
  refine⟨ok',rfl,L.bare,Un.kept d,⟨_,M,λi x v e1 W e3=>?_⟩,λx c e=>?_,L.hok.fresh (Ge _),λx c e=>L.freeC x c (F x c e),λp hp=>absurd (show p∈([]:List (Addr×Obj))from hp) (by simp),L.hok.kept d,?_⟩
  .have e1':(own++fr)[i]?=some x:=e1;unfold il at W
   by_cases hi:i<own.length
   .rw[aaH (by simpa using hi),aaa]at W
    cases q:own[i]? with
    |none=>rw[q]at W;cases W
    |some z=>rw[q]at W;cases W
   .rw[aaS (by simpa using hi),gE,aaa]at W;rw[aaS (by simpa using hi)]at e1'
    cases q:ps[i-own.length]? with
    |none=>rw[q]at W;cases W
    | some p=>
     rw[q]at W;have V:(σ[p]?).join=some v:=aam W;have hσ:σ[p]?=some (some v):=by
      cases z:σ[p]? with
      |none=>rw[z]at V;cases V
      |some w=>rw[z]at V;cases w with
       |none=>cases V
       |some w=>cases V;rfl
     have hN:X.N[p]?=some x:=by
      have z:=congrArg (λl=>l[i-own.length]?) hps;simp only[aaa,q,e1',acZ,ahw]at z;exact z
     have hx:x∈fr:=GE e1';have hfr:=S.fr x hx;have hsee:=S.there (x,.free) (h7 hfr) rfl;let⟨m,hn,hlk⟩:=L.loc;let⟨u,ru,lk⟩:=hlk p x v hN hσ (by rw[hsc];exact .inr hsee);refine⟨u,ru,.inr ⟨qX hfr,?_⟩⟩;rcases lk with⟨k,_⟩|⟨_,c,ec,z⟩
     .have k':X.env.scope.names.lookup x=some .local:=k;rw[hsc]at k';rcases hsee with q2|q2<;>(rw[k']at q2;cases q2)
     .obtain⟨c',ec'⟩:=Z (x,.free) (h7 hfr) rfl;have:=F x c' ec';rw[ec]at this;cases this;let⟨o,ho,hd⟩:=z;exact⟨c,ec',o,d _ _ ho,hd⟩
  .obtain⟨v,o,ho,hd⟩:=L.cell x c (F x c e);exact⟨v,o,d _ _ ho,hd⟩
  .show(il own ps σ).length=(own++fr).length;have:=congrArg aeT hps;rw[gE,gE]at this;unfold il;rw[aat,aat,gE,gE,this]
 have f4:∀b∈fp,FpOk (bc X scope cl (own++fr) G (upd H s.heap.objs.size (.lst [])) G.heap.objs.size fp) [] (upd H s.heap.objs.size (.lst [])) b:=λb hb=>
  ⟨fpH b hb,(ok'.exf b hb).1,fpS b hb,.inl hb,(ok'.exf b hb).2,λp hp=>absurd (show p∈([]:List (Addr×Obj))from hp) (by simp)⟩
 have st4:tn 0 O:=T.keep 0 _ _ st λb hb o e=>d b o (kept0 b o e);have loop:ael (model X.prog X.w) X.A (.compLoop (.ListComp elt (⟨tg,n,ifs,0⟩::rest) scope pos) 0 (.ref Y) (.ref s.heap.objs.size) (agI scope cl G.heap.objs.size X.env)) (R (.ref s.heap.objs.size) G.heap.objs.size) {G with heap:=O,toks:=G.toks+([]:List (Str×oR)).length}:=by
  refine adK (qW (X:=bc X scope cl (own++fr) G (upd H s.heap.objs.size (.lst [])) G.heap.objs.size fp) (hturn _ _ _) rfl hc T (hg _ _ _ _) (ht _ _ _ _) (hb _ _ _ _ _) I4 st4 f4 (h _ hl)) λr s' ⟨er,σ5,H5,I5,q5⟩=>?_;subst er;have I6:Inv X pins σ H5 s':=L.call' (s':=s') I5.os I5.base I5.hok I5.bare λb hb=>⟨(f b hb).2.2.2.1,(f b hb).2.1,(f b hb).2.2.2.2.1,(f b hb).2.2.2.2.2⟩;have hm:∃m,s'.heap.Ns G.heap.objs.size m:=let ⟨m,hn,_⟩:=I5.loc;⟨m,hn⟩;exact hR _ _ H5 s' hm I6 (L.fpOk (Ge _) I5.free) q5
 exact codeAny_compStart_list loop (T.self _ 0 _ _ _ st4 loop)
def Au(L:TI)(own:List Str)(ps:List Nat)(tl:Addr->It->TS):TE:=λσ H Q=>L σ H λJ H1=>∀l,H1 l=none->tl l J {nx:=λ_ H'=>Q (.ref l) H',rt:=λ_ _=>False} (il own ps σ) (upd H1 l (.lst []))
def tl1(g:TG)(tt:TT)(K:TE):Addr->It->TS:=λl J=>qi J g (tIfT tt (wq l K))
def tl2(g:TG)(tt:TT)(B:TI)(M:TG)(F:TT)(K:TE):Addr->It->TS:=λl J=>qi J g (tIfT tt λD σ H=>B σ H λb H1=>qi b M (tIfT F (wq l K)) D σ H1)
theorem GI{Y:Cx}{z b A j:Expr}{u t:List Expr}{B:TI}{M:TG}{F:TT}{K:TE}(hx:Y.xe=λ_ _=>False)(hc:Y.calm=true)(hi:PI Y A j B)(hg:PG Y A M)(ht:PTs Y t F)(O:PE Y elt K)
  (hs:∀x,aaP j Y.env x=pure x) :
  PB Y (do
   let x <- eval j Y.env
   adx j.pos
   let x <- aaP j Y.env x
   let _ <- runOwn (.compStart (.ListComp elt [⟨z,b,u,0⟩,⟨A,j,t,0⟩] scope pos) 1 (<- ady [x] (afi x)) (.ref l) Y.env) Y.env) (λD σ H=>B σ H λW H1=>qi W M (tIfT F (wq l K)) D σ H1):=by
 intro pins s σ H D I h;refine aD (thn (hi pins s σ H _ I h) λv s1 h1=>?_);refine aD (aci (aD (wpAny_of_eq (hs v) (aD (abu (thn h1 λR s2 h2=>?_))))));let⟨U,fp,tn,J,H2,e,S,T,C,Z,q⟩:=h2;subst e;have k:∀L,L=s2->ael (model Y.prog Y.w) Y.A (.compLoop (.ListComp elt [⟨z,b,u,0⟩,⟨A,j,t,0⟩] scope pos) 1 (.ref U) (.ref l) Y.env) (λr G=>match r with| .ok f=>wpAny (model Y.prog Y.w) Y.A (pure PUnit.unit) (λ_ G=>∃σ' H',Inv Y pins σ' H' G/\D.nx σ' H') Y.xe G | .error e=>cameBackBy (model Y.prog Y.w) Y.A Y.env Y.xe e G) L:=by
  rintro L rfl;refine adK (qW (X:=Y) (elt:=elt) (gens:=[⟨z,b,u,0⟩,⟨A,j,t,0⟩]) (scope:=scope) (pos:=pos) (d:=1) (acc:=.ref l) (ipos:=j.pos) (ifs:=t)
   (bd:=do let _ <- call (.builtin "list.append") [.ref l,<-eval elt Y.env]) rfl hx hc T hg ht (tj O) S C Z q) λr G ⟨V,hq⟩=>?_
  subst V;exact Dl hq
 refine aD (wpAny_runOwn ?_);show ael (model Y.prog Y.w) Y.A _ _ s2;refine codeAny_of_tree ?_;refine wpAny_notedAt ?_;unfold compStart;show wpAny _ _ (ask >>= _) _ _ s2;refine aD (m:=ask) (wpAny_askSetting (wpAny_ite ?_));split
 .first
   |exact aD (Dl (Dl (ahM rfl (k _ rfl))))
   |exact Dl (ahM rfl (k _ rfl))
 .first
   |exact aD (acO (aD (aci (aD (T.self _ 0 _ _ _ C (Dl (ahM rfl (k _ rfl))))))))
   |(refine aD (acO ?_);show wpAny _ _ (adx j.pos >>= _) _ _ s2;exact aD (aci (aD (T.self _ 0 _ _ _ C (Dl (ahM rfl (k _ rfl)))))))
theorem Inv.junk{s:Ad}{C:Addr}(I:Inv X pins σ H s)(f:FpOk X pins H C){h':aaR}(hs:abo C s.heap h'):Inv X pins σ H {s with heap:=h' }:=
 I.turned (t':=s.toks) (λb o ne e=>(hs.2 b ne).trans e) f.1 f.2.1 f.2.2.2.1 f.2.2.2.2.1 f.2.2.2.2.2
variable {elt tg n:Expr}{ifs:List Expr}{pos G N:Pos}{L:TI}{g:TG}{tt:TT}{K:TE}
def pG{s:Ad}(S:b8 own fr scope sc)(h:X.env.scope=sc)(I:Inv X pins σ H s):∀y∈scope.names,y.2 = .free->∃c,X.env.cells.lookup y.1=some c:=λy d b=>
 I.ok.has y.1 (by show X.env.scope.names.lookup y.1=_\/X.env.scope.names.lookup y.1=_;rw[h];exact S.there y d b)
theorem D8(S:b8 own fr scope sc)(hi:PI X tg n L)(Y:∀cl s H C ex,PG (bc X scope cl (own++fr) s H C ex) tg g)(ht:∀cl s H C ex,PTs (bc X scope cl (own++fr) s H C ex) ifs tt)
  (M:∀cl s H C ex,PE (bc X scope cl (own++fr) s H C ex) elt K) (b:X.env.scope=sc:=by rfl) (k:ps.map (λi=>X.N[i]?)=fr.map some:=by rfl) (hc:X.calm=true:=by rfl) (hs:∀x,aaP n X.env x=pure x:=by intro _;rfl) :
  PE X (.ListComp elt [⟨tg,n,ifs,0⟩] scope pos) (Au L own ps (tl1 g tt K)):=by
 intro pins s σ H Q I h;let⟨cl,ec,h1,h2⟩:=gh (pG S b I);refine adX (use:=none) rfl hs ec S.kind S.names (thn (hi pins s σ H _ I h) λv s1 q1=>thn q1 λO s2 Z=>?_);let⟨F,fp,tn,J,H2,e,R,T,d,W,q⟩:=Z;subst e;exact lG S b k hc h1 h2 (λenv F z=>compTurn_list elt tg n ifs scope pos F z env)
  (Y cl) (ht cl) (λs H C ex l=>tj (M cl s H C ex)) R T d W q λl C H' s' hm I' fk V=>by
   let⟨m,U⟩:=hm;exact⟨m,U,λh' u=>⟨.ref l,H',I'.junk fk u,rfl,V⟩⟩
theorem rQ{s':Ad}{C:Addr}{Q:St->Hp->Prop}(O:X.N.Nodup)(F:X.N[i]?=some y)(h:X.env.scope.names.lookup y=some .local)(R:∃m,s'.heap.Ns C m)(I:Inv X pins σ H' s')(u:FpOk X pins H' C)(q:Q (σ.set i (some (.ref l))) H') :
  wpAny (model X.prog X.w) X.A (ad8 (.Name y N) X.env (.ref l)) (λ_ s=>∃m,s.heap.Ns C m/\∀h',abo C s.heap h'->∃σ' b,Inv X pins σ' b {s with heap:=h' }/\Q σ' b) E s':=by
 let⟨m,M⟩:=R;refine wpAny_assign_Name (p9 I O F (.inl h) (v:=.ref l) rfl (λs d ⟨a,hs,ha⟩=>?_) (.inr h));have k:C≠a:=by
  rcases ha with ha|ha
  .rw[ha];exact u.2.1
  .exact λz=>u.2.2.2.2.1 _ _ ha z.symm
 exact⟨m,M.sameBut hs k,λh' x=>⟨_,H',d.junk u x,q⟩⟩
theorem F9(S:b8 own fr scope sc)(hN:X.N.Nodup)(R:X.N[i]?=some y)(d:X.env.scope.names.lookup y=some .local)(hi:PI X tg n L)(hg:∀cl s H C ex,PG (bc X scope cl (own++fr) s H C ex) tg g)(ht:∀cl s H C ex,PTs (bc X scope cl (own++fr) s H C ex) ifs tt)
  (he:∀cl s H C ex,PE (bc X scope cl (own++fr) s H C ex) elt K) (F:abH (.ListComp elt [⟨tg,n,ifs,0⟩] scope pos) (some (.Name y N)) G.line X.env=pure true:=by rfl)
  (b:X.env.scope=sc:=by rfl) (u:ps.map (λi=>X.N[i]?)=fr.map some:=by rfl) (hc:X.calm=true:=by rfl) (hs:∀x,aaP n X.env x=pure x:=by intro _;rfl) :
  PS X (.Assign [.Name y N] (.ListComp elt [⟨tg,n,ifs,0⟩] scope pos) G) (tAsg (Au L own ps (tl1 g tt K)) (D9 i)):=by
 intro pins s σ H D I h;let⟨cl,ec,h1,h2⟩:=gh (pG S b I);rw[show exec _ X.env=_ from agA _ _ _ _ F];refine aD (m:=adx _) (aci (aD ?_));refine aD (ab9 (adX rfl hs ec S.kind S.names (thn (hi pins s σ H _ I h) λv s1 q1=>thn q1 λitv s2 Z=>?_)) (λ_ U W=>Dl (Dl W)) λ_ _ e=>e);let⟨M,fp,tn,J,H2,e,O,T,k,Y,q⟩:=Z;subst e;exact lG (Q:=λv H'=>D.nx (σ.set i (some v)) H') (tb:=λl=>wq l K) S b u hc h1 h2 (λenv M z=>compTurn_list elt tg n ifs scope pos M z env)
  (hg cl) (ht cl) (λs H C ex l=>tj (he cl s H C ex)) O T k Y q λl C H' U hm I' fk V=>rQ hN R d hm I' fk V
variable {A j:Expr}{t:List Expr}{B:TI}{M:TG}{F:TT}
theorem lW(elt b n:Expr)(ifs:List Expr)(A j:Expr)(t:List Expr)(scope:Scope)(pos:Pos)(d acc:oR)(env:Env) :
  compTurn (.ListComp elt [⟨b,n,ifs,0⟩,⟨A,j,t,0⟩] scope pos) 0 d acc env=(do
   adx n.pos
   match <- acP d with
   |none=>pure (.done .next)
   | some v=>
    ad4 b d v
    ad8 b env v
    let mut ok:=true
    for c in ifs do
     if ok=true then ok <- isTrue c env (eval c env)
    if ok then
     (do
      let x <- eval j env
      adx j.pos
      let x <- aaP j env x
      let _ <- runOwn (.compStart (.ListComp elt [⟨b,n,ifs,0⟩,⟨A,j,t,0⟩] scope pos) 1 (<- ady [x] (afi x)) acc env) env)
    again (.compLoop (.ListComp elt [⟨b,n,ifs,0⟩,⟨A,j,t,0⟩] scope pos) 0 d acc env)):=by
 simp only[ bind_assoc];rfl
theorem F8(S:b8 own fr scope sc)(hN:X.N.Nodup)(hy:X.N[i]?=some y)(d:X.env.scope.names.lookup y=some .local)(hi:PI X tg n L)(hg:∀cl s H C ex,PG (bc X scope cl (own++fr) s H C ex) tg g)(ht:∀cl s H C ex,PTs (bc X scope cl (own++fr) s H C ex) ifs tt)
  (u:∀cl s H C ex,PI (bc X scope cl (own++fr) s H C ex) A j B) (W:∀cl s H C ex,PG (bc X scope cl (own++fr) s H C ex) A M) (U:∀cl s H C ex,PTs (bc X scope cl (own++fr) s H C ex) t F)
  (he:∀cl s H C ex,PE (bc X scope cl (own++fr) s H C ex) elt K) (Y:abH (.ListComp elt [⟨tg,n,ifs,0⟩,⟨A,j,t,0⟩] scope pos) (some (.Name y N)) G.line X.env=pure true:=by rfl)
  (b:X.env.scope=sc:=by rfl) (R:ps.map (λi=>X.N[i]?)=fr.map some:=by rfl) (hc:X.calm=true:=by rfl) (hs:∀x,aaP n X.env x=pure x:=by intro _;rfl)
  (z:∀cl C x,aaP j (agI scope cl C X.env) x=pure x:=by intro _ _ _;rfl) :
  PS X (.Assign [.Name y N] (.ListComp elt [⟨tg,n,ifs,0⟩,⟨A,j,t,0⟩] scope pos) G) (tAsg (Au L own ps (tl2 g tt B M F K)) (D9 i)):=by
 intro pins s σ H D I h;let⟨cl,ec,h1,h2⟩:=gh (pG S b I);rw[show exec _ X.env=_ from agA _ _ _ _ Y];refine aD (m:=adx _) (aci (aD ?_));refine aD (ab9 (adX (Q:=λ_ k=>SP X pins D .next k) rfl hs ec S.kind S.names (thn (hi pins s σ H _ I h) λv s1 q1=>thn q1 λitv s2 q2=>?_)) (λ_ k hq=>Dl (Dl hq)) λ_ _ e=>e);let⟨Z,fp,tn,J,H2,e,I2,T,O,f2,q⟩:=q2;subst e;exact lG (Q:=λv H'=>D.nx (σ.set i (some v)) H') S b R hc h1 h2 (λenv Z V=>lW elt tg n ifs A j t scope pos Z V env)
  (hg cl) (ht cl) (λs H C ex l=>GI rfl hc (u cl s H C ex) (W cl s H C ex) (U cl s H C ex) (he cl s H C ex) (z cl C)) I2 T O f2 q λl C H' k hm I' fk q'=>rQ hN hy d hm I' fk q'
end
def FzL(K:Io)(H:Hp)(a:Addr)(xs:List V):Prop:=
 (∃o,H a=some (.frz o (.lst xs))) \/
  ∃(o:Obj) (b:Array oR) (n:Nat),K.lookup a=some o/\o.cls = .type "list"/\o.dict=none/\o.data = .seq b n/\b.size≤aaf/\Vals xs b.toList
theorem FzL.sq{K:Io}(h:FzL K H a xs):SqL K H a xs:=by
 rcases h with⟨o,h⟩|h
 .exact .inl (.inr ⟨o,h⟩)
 .exact .inr h
structure Kd where
 K:Io
 w:World
instance:Coe Kd Io:=⟨Kd.K⟩
mutual
def dg(w:World):dL->Int
 | .int i=>hashInt i
 | .str x=>hashStr w x
 | .tuple ds=>reduceHash (abJ (iy w ds))
 |_=>0
def iy(w:World):List dL->List Int
 |[]=>[]
 |d::ds=>dg w d::iy w ds
end
mutual
def hkD:dL->Bool
 | .int _=>true
 | .str _=>true
 | .tuple ds=>hkA ds
 |_=>false
def hkA:List dL->Bool
 |[]=>true
 |d::ds=>hkD d&&hkA ds
end
def isKd(kvs:List (dL×dL)):Bool:=kvs.all λk=>match k.1 with| .int _=>true | .str _=>true|_=>false
def zW(kvs:List (dL×dL)):Prop:=isKd kvs=false/\(kvs.map (·.1)).Nodup/\∀k∈kvs.map (·.1),hkD k=true
def dXp(a:Addr)(es:List (Int×V×V))(h:aaR):Prop:=
 (a==abD)=false/\es.length≤aaf/\∃(o:Obj) (b:Array ab3) (c:Nat),h.get? a=some o/\o.ExactDict/\o.data = .dict b c/\
  abN (λ(e:Int×V×V) (d:ab3)=>d.hash=e.1/\RelV e.2.1 d.key/\RelV e.2.2 d.val) es b.toList
abbrev dX(a:Addr)(es:List (Int×V×V)):HO:=.ext (dXp a es)
def FzD(H:Hp)(a:Addr)(es:List (Int×V×V)):Prop:=∃o,H a=some (.frz o (dX a es))
def ClsN(K:Kd)(c:Str)(C:Addr):Prop:=aal K.K aag c=some (some (.ref C))
def Wm(K:Kd)(H:Hp)(a:Addr)(c:Str)(xs:List (Str×V)):Prop:=
 ∃(o:Obj) (u:HO) (C:Addr),H a=some (.frz o u)/\o.cls = .ref C/\(∃vs,o.data = .fields vs)/\ClsN K c C/\((o.dict=none/\xs=[])\/∃(dx:Addr) (b:Obj),o.dict=some dx/\H dx=some (.frz b (.xd xs)))
def keyD:Key->dL
 | .inl i=>.int i
 | .inr x=>.str x
def excC:List (dL×dL)->Option Str
 |(.none,.str c)::_=>some c
 |_=>none
mutual
def Den(K:Kd)(H:Hp):dL->V->Prop
 | .none,v=>v = .non
 | .bool b,v=>v = .bl b
 | .int i,v=>v = .int i
 | .str x,v=>v = .str x
 | .list ds,v=>∃a d,v = .ref a/\FzL K H a d/\DenAll K H ds d
 | .tuple ds,v=>∃a d,v = .ref a/\SqT K H a d/\DenAll K H ds d
 | .dict kvs,v=>∃a,v = .ref a/\((∃e,FzD H a e/\zW kvs/\DenKV K H kvs e)\/(∃e o,H a=some (.frz o (.dK e))/\DenKK K H kvs e)\/∃c d,excC kvs=some c/\Wm K H a c d/\DenXF K H kvs d)
def DenAll(K:Kd)(H:Hp):List dL->List V->Prop
 |[],xs=>xs=[]
 |d::ds,xs=>∃v vs,xs=v::vs/\Den K H d v/\DenAll K H ds vs
def DenKV(K:Kd)(H:Hp):List (dL×dL)->List (Int×V×V)->Prop
 |[],es=>es=[]
 |(k,d)::r,es=>∃u v vs,es=(dg K.w k,u,v)::vs/\Den K H k u/\Den K H d v/\DenKV K H r vs
def DenKK(K:Kd)(H:Hp):List (dL×dL)->List (Key×V)->Prop
 |[],es=>es=[]
 |(k,d)::r,es=>∃a v vs,es=(a,v)::vs/\(k=keyD a/\∀x∈vs,x.1≠a)/\Den K H d v/\DenKK K H r vs
def DenXF(K:Kd)(H:Hp):List (dL×dL)->List (Str×V)->Prop
 |[],xs=>xs=[]
 |(k,d)::r,xs=>match k with
  | .str f=>∃v vs,xs=(f,v)::vs/\Den K H d v/\DenXF K H r vs
  |_=>DenXF K H r xs
end
structure Pers(H H':Hp):Prop where
 tups:∀b xs,H b=some (.tup xs)->H' b=some (.tup xs)
 frzs:∀b o u,H b=some (.frz o u)->H' b=some (.frz o u)
theorem Pers.refl(H:Hp):Pers H H:=⟨λ_ _ e=>e,λ_ _ _ e=>e⟩
theorem Pers.trans(a:Pers H H1)(b:Pers H1 H2):Pers H H2:=⟨λc x e=>b.tups c x (a.tups c x e),λc o u e=>b.frzs c o u (a.frzs c o u e)⟩
section
variable {K:Kd}{H H':Hp}
theorem FzL.mono(p:Pers H H')(h:FzL K H a xs):FzL K H' a xs:=by
 rcases h with⟨o,h⟩|h
 .exact .inl ⟨o,p.frzs _ _ _ h⟩
 .exact .inr h
theorem SqT.mono(p:Pers H H')(h:SqT K H a xs):SqT K H' a xs:=by
 rcases h with(h|⟨o,h⟩)|h
 .exact .inl (.inl (p.tups _ _ h))
 .exact .inl (.inr ⟨o,p.frzs _ _ _ h⟩)
 .exact .inr h
mutual
theorem Den.mono(p:Pers H H'):∀{d:dL}{v:V},Den K H d v->Den K H' d v
 | .none,_,h=>h
 | .bool _,_,h=>h
 | .int _,_,h=>h
 | .str _,_,h=>h
 | .list ds,_,h=>by
  simp only[Den]at h⊢;let⟨a,x,e,f,g⟩:=h;exact⟨a,x,e,f.mono p,DenAll.mono p g⟩
 | .tuple ds,_,h=>by
  simp only[Den]at h⊢;let⟨a,x,e,f,g⟩:=h;exact⟨a,x,e,f.mono p,DenAll.mono p g⟩
 | .dict kvs,_,h=>by
  simp only[Den]at h⊢;let⟨a,e,h⟩:=h;refine⟨a,e,?_⟩;rcases h with⟨i,⟨o,f⟩,q,g⟩|⟨i,o,f,g⟩|⟨c,x,t,⟨o,u,C,s,m,j,r,b⟩,g⟩
  .exact .inl ⟨i,⟨o,p.frzs _ _ _ f⟩,q,DenKV.mono p g⟩
  .exact .inr (.inl ⟨i,o,p.frzs _ _ _ f,DenKK.mono p g⟩)
  .refine .inr <| .inr ⟨c,x,t,⟨o,u,C,p.frzs _ _ _ s,m,j,r,?_⟩,DenXF.mono p g⟩;rcases b with b|⟨dx,n,k,l⟩
   .exact .inl b
   .exact .inr ⟨dx,n,k,p.frzs _ _ _ l⟩
theorem DenAll.mono(p:Pers H H'):∀{ds:List dL}{xs:List V},DenAll K H ds xs->DenAll K H' ds xs
 |[],_,h=>h
 |d::ds,_,h=>by
  simp only[DenAll]at h⊢;let⟨v,vs,e,f,g⟩:=h;exact⟨v,vs,e,Den.mono p f,DenAll.mono p g⟩
theorem DenKV.mono(p:Pers H H'):∀{ds:List (dL×dL)}{xs:List (Int×V×V)},DenKV K H ds xs->DenKV K H' ds xs
 |[],_,h=>by simpa only[DenKV]using h
 |(k,d)::r,_,h=>by
  simp only[DenKV]at h⊢;let⟨u,v,vs,e,f,a,g⟩:=h;exact⟨u,v,vs,e,Den.mono p f,Den.mono p a,DenKV.mono p g⟩
theorem DenKK.mono(p:Pers H H'):∀{ds:List (dL×dL)}{xs:List (Key×V)},DenKK K H ds xs->DenKK K H' ds xs
 |[],_,h=>by simpa only[DenKK]using h
 |(k,d)::r,_,h=>by
  simp only[DenKK]at h⊢;let⟨u,v,vs,e,f,a,g⟩:=h;exact⟨u,v,vs,e,f,Den.mono p a,DenKK.mono p g⟩
theorem DenXF.mono(p:Pers H H'):∀{ds:List (dL×dL)}{xs:List (Str×V)},DenXF K H ds xs->DenXF K H' ds xs
 |[],_,h=>by simpa only[DenXF]using h
 |(.str f,d)::r,_,h=>by
  simp only[DenXF]at h⊢;let⟨v,vs,e,a,g⟩:=h;exact⟨v,vs,e,Den.mono p a,DenXF.mono p g⟩
 |(.none,d)::r,_,h=>by simp only[DenXF]at h⊢;exact DenXF.mono p h
 |(.bool _,d)::r,_,h=>by simp only[DenXF]at h⊢;exact DenXF.mono p h
 |(.int _,d)::r,_,h=>by simp only[DenXF]at h⊢;exact DenXF.mono p h
 |(.list _,d)::r,_,h=>by simp only[DenXF]at h⊢;exact DenXF.mono p h
 |(.tuple _,d)::r,_,h=>by simp only[DenXF]at h⊢;exact DenXF.mono p h
 |(.dict _,d)::r,_,h=>by simp only[DenXF]at h⊢;exact DenXF.mono p h
end
def DenAll.nil:DenAll K H [] []:=rfl
def DenAll.cons{d:dL}(h:Den K H d v)(t:DenAll K H ds vs):DenAll K H (d::ds) (v::vs):=by
   exact⟨v,vs,rfl,h,t⟩
theorem DenAll.paired:∀{ds:List dL}{xs:List V},DenAll K H ds xs->abN (Den K H) ds xs
 |[],_,h=>by simp[DenAll]at h;subst h;exact .nil
 |d::ds,_,h=>by
  let⟨v,vs,e,f,g⟩:=h;subst e;exact .cons f g.paired
theorem gv:∀{ds:List dL}{xs:List V},abN (Den K H) ds xs->DenAll K H ds xs
 |_,_,.nil=>DenAll.nil
 |_,_,.cons f t=>DenAll.cons f (gv t)
def DenAll.length(h:DenAll K H ds xs):ds.length=xs.length:=h.paired.length
theorem Paired.get'{d β:Type}{F:d->β->Prop}:∀{c:List d}{l:List β}{i:Nat}{a:d},abN F c l->c[i]?=some a->∃b,l[i]?=some b/\F a b
 |_,_,_,_,.nil,e=>by simp at e
 |_,_,0,_,.cons f _,e=>by simp at e;subst e;exact⟨_,rfl,f⟩
 |_,_,i+1,a,.cons _ t,e=>by
  let⟨b,g,h⟩:=Paired.get' t ‹_›;exact⟨b,by simpa using g,h⟩
def DenAll.get{d:dL}(h:DenAll K H ds xs)(e:ds[i]?=some d):∃v,xs[i]?=some v/\Den K H d v:=Paired.get' h.paired e
theorem Paired.get2{d β:Type}{F:d->β->Prop}:∀{c:List d}{l:List β}{i:Nat}{b:β},abN F c l->l[i]?=some b->∃a,c[i]?=some a/\F a b
 |_,_,_,_,.nil,e=>by simp at e
 |_,_,0,_,.cons f _,e=>by simp at e;subst e;exact⟨_,rfl,f⟩
 |_,_,i+1,b,.cons _ t,e=>by
  let⟨a,g,h⟩:=Paired.get2 t ‹_›;exact⟨a,by simpa using g,h⟩
def DenAll.get2(h:DenAll K H ds xs)(e:xs[i]?=some v):∃d,ds[i]?=some d/\Den K H d v:=Paired.get2 h.paired e
theorem Paired.append'{e β:Type}{F:e->β->Prop}:∀{a b:List e}{c d:List β},abN F a c->abN F b d->abN F (a++b) (c++d)
 |_,_,_,_,.nil,s=>s
 |_,_,_,_,.cons r t,s=>.cons r (Paired.append' t s)
def DenAll.append{es:List dL}{ys:List V}(h:DenAll K H ds xs)(g:DenAll K H es ys):DenAll K H (ds++es) (xs++ys):=gv (Paired.append' h.paired g.paired)
theorem Paired.set'{d β:Type}{F:d->β->Prop}{a:d}{b:β}(f:F a b):∀{l:List d}{c:List β} (i:Nat),abN F l c->abN F (l.set i a) (c.set i b)
 |_,_,_,.nil=>.nil
 |_,_,0,.cons _ t=>.cons f t
 |_,_,i+1,.cons q t=>.cons q (Paired.set' f i t)
def DenAll.set{d:dL}(h:DenAll K H ds xs)(f:Den K H d v)(i:Nat):DenAll K H (ds.set i d) (xs.set i v):=gv (Paired.set' f i h.paired)
theorem Paired.take'{b β:Type}{F:b->β->Prop}:∀{a:List b}{l:List β} (n:Nat),abN F a l->abN F (a.take n) (l.take n)
 |_,_,0,_=>.nil
 |_,_,_+1,.nil=>.nil
 |_,_,n+1,.cons r t=>.cons r (Paired.take' n t)
theorem Paired.drop'{b β:Type}{F:b->β->Prop}:∀{a:List b}{l:List β} (n:Nat),abN F a l->abN F (a.drop n) (l.drop n)
 |_,_,0,h=>h
 |_,_,_+1,.nil=>.nil
 |_,_,n+1,.cons _ t=>Paired.drop' n t
def DenAll.take(h:DenAll K H ds xs)(n:Nat):DenAll K H (ds.take n) (xs.take n):=gv (Paired.take' n h.paired)
def DenAll.drop(h:DenAll K H ds xs)(n:Nat):DenAll K H (ds.drop n) (xs.drop n):=gv (Paired.drop' n h.paired)
theorem DenAll.ints:∀ns:List Int,DenAll K H (ns.map .int) (ns.map V.int)
 |[]=>DenAll.nil
 |n::ns=>DenAll.cons rfl (DenAll.ints ns)
end
def fzOf:List (dL×dL)->Option dL
 |[(.none,.list ds)]=>some (.list ds)
 |[(.none,.dict es)]=>some (.dict es)
 |_=>none
mutual
def TAt(K:Kd)(H:Hp)(τ:List (List Nat×Addr))(p:List Nat):dL->V->Prop
 | .list ts,v=>∃a e,τ.lookup p=some a/\v = .ref a/\H a=some (.lst e)/\TAtL K H τ p 0 ts e
 | .dict kvs,v=>(∃d,fzOf kvs=some d/\Den K H d v) \/
   (fzOf kvs=none/\excC kvs=none/\∃a f,τ.lookup p=some a/\v = .ref a/\H a=some (dX a f)/\zW kvs/\TAtD K H τ p 0 kvs f) \/
   (fzOf kvs=none/\excC kvs=none/\∃a f,τ.lookup p=some a/\v = .ref a/\H a=some (.dK f)/\TAtK K H τ p 0 kvs f) \/
   ∃c a dx C e,excC kvs=some c/\τ.lookup p=some a/\v = .ref a/\H a=some (.ins C dx e)/\ClsN K c C/\TAtF K H τ p 0 kvs e
 | .none,v=>Den K H .none v
 | .bool b,v=>Den K H (.bool b) v
 | .int i,v=>Den K H (.int i) v
 | .str x,v=>Den K H (.str x) v
 | .tuple ds,v=>Den K H (.tuple ds) v
def TAtL(K:Kd)(H:Hp)(τ:List (List Nat×Addr))(p:List Nat)(i:Nat):List dL->List V->Prop
 |[],xs=>xs=[]
 |t::ts,xs=>∃v vs,xs=v::vs/\TAt K H τ (p++[i]) t v/\TAtL K H τ p (i+1) ts vs
def TAtD(K:Kd)(H:Hp)(τ:List (List Nat×Addr))(p:List Nat)(i:Nat):List (dL×dL)->List (Int×V×V)->Prop
 |[],es=>es=[]
 |(k,t)::r,es=>∃u v vs,es=(dg K.w k,u,v)::vs/\Den K H k u/\TAt K H τ (p++[i]) t v/\TAtD K H τ p (i+1) r vs
def TAtK(K:Kd)(H:Hp)(τ:List (List Nat×Addr))(p:List Nat)(i:Nat):List (dL×dL)->List (Key×V)->Prop
 |[],es=>es=[]
 |(k,t)::r,es=>∃a v vs,es=(a,v)::vs/\(k=keyD a/\∀x∈vs,x.1≠a)/\TAt K H τ (p++[i]) t v/\TAtK K H τ p (i+1) r vs
def TAtF(K:Kd)(H:Hp)(τ:List (List Nat×Addr))(p:List Nat)(i:Nat):List (dL×dL)->List (Str×V)->Prop
 |[],xs=>xs=[]
 |(k,t)::r,xs=>match k with
  | .str f=>∃v vs,xs=(f,v)::vs/\TAt K H τ (p++[i]) t v/\TAtF K H τ p (i+1) r vs
  | .none=>TAtF K H τ p (i+1) r xs
  |_=>False
end
theorem bu{β b:Type}[BEq β][LawfulBEq β]{l:List (β×b)}{p:β}{a:b}(h:l.lookup p=some a):a∈l.map (·.2):=by
 induction l with
 |nil=>cases h
 |cons x l i=>
  grind
section
variable {K:Kd}{H H':Hp}{τ:List (List Nat×Addr)}
mutual
theorem TAt.mono(f:Pers H H')(e:∀a∈τ.map (·.2),H' a=H a):∀{d:dL}{p:List Nat}{v:V},TAt K H τ p d v->TAt K H' τ p d v
 | .none,_,_,h=>by simp only[TAt]at h⊢;exact h.mono f
 | .bool _,_,_,h=>by simp only[TAt]at h⊢;exact h.mono f
 | .int _,_,_,h=>by simp only[TAt]at h⊢;exact h.mono f
 | .str _,_,_,h=>by simp only[TAt]at h⊢;exact h.mono f
 | .tuple _,_,_,h=>by simp only[TAt]at h⊢;exact h.mono f
 | .list ts,_,_,h=>by
  simp only[TAt]at h⊢;let⟨a,x,b,j,i,g⟩:=h;exact⟨a,x,b,j,(e a (bu b)).trans i,TAtL.mono f e g⟩
 | .dict kvs,_,_,h=>by
  simp only[TAt]at h⊢;rcases h with⟨d,b,h⟩|⟨z,l,a,m,b,j,i,k,g⟩|⟨z,l,a,m,b,j,i,g⟩|⟨c,a,dx,C,x,n,b,j,i,k,g⟩
  .exact .inl ⟨d,b,h.mono f⟩
  .exact .inr (.inl ⟨z,l,a,m,b,j,(e a (bu b)).trans i,k,TAtD.mono f e g⟩)
  .exact .inr (.inr (.inl ⟨z,l,a,m,b,j,(e a (bu b)).trans i,TAtK.mono f e g⟩))
  .exact .inr (.inr <| .inr ⟨c,a,dx,C,x,n,b,j,(e a (bu b)).trans i,k,TAtF.mono f e g⟩)
theorem TAtL.mono(b:Pers H H')(e:∀a∈τ.map (·.2),H' a=H a):∀{ds:List dL}{p:List Nat}{i:Nat}{xs:List V},TAtL K H τ p i ds xs->TAtL K H' τ p i ds xs
 |[],_,_,_,h=>by simpa only[TAtL]using h
 |t::ts,_,_,_,h=>by
  simp only[TAtL]at h⊢;let⟨v,vs,c,g,d⟩:=h;exact⟨v,vs,c,TAt.mono b e g,TAtL.mono b e d⟩
theorem TAtD.mono(b:Pers H H')(e:∀a∈τ.map (·.2),H' a=H a):∀{ds:List (dL×dL)}{p:List Nat}{i:Nat}{xs:List (Int×V×V)},TAtD K H τ p i ds xs->TAtD K H' τ p i ds xs
 |[],_,_,_,h=>by simpa only[TAtD]using h
 |(k,t)::r,_,_,_,h=>by
  simp only[TAtD]at h⊢;let⟨u,v,vs,c,f,g,d⟩:=h;exact⟨u,v,vs,c,f.mono b,TAt.mono b e g,TAtD.mono b e d⟩
theorem TAtK.mono(b:Pers H H')(e:∀a∈τ.map (·.2),H' a=H a):∀{ds:List (dL×dL)}{p:List Nat}{i:Nat}{xs:List (Key×V)},TAtK K H τ p i ds xs->TAtK K H' τ p i ds xs
 |[],_,_,_,h=>by simpa only[TAtK]using h
 |(k,t)::r,_,_,_,h=>by
  simp only[TAtK]at h⊢;let⟨u,v,vs,c,f,g,d⟩:=h;exact⟨u,v,vs,c,f,TAt.mono b e g,TAtK.mono b e d⟩
theorem TAtF.mono(b:Pers H H')(e:∀a∈τ.map (·.2),H' a=H a):∀{ds:List (dL×dL)}{p:List Nat}{i:Nat}{xs:List (Str×V)},TAtF K H τ p i ds xs->TAtF K H' τ p i ds xs
 |[],_,_,_,h=>by simpa only[TAtF]using h
 |(.str f,t)::r,_,_,_,h=>by
  simp only[TAtF]at h⊢;let⟨v,vs,c,g,j⟩:=h;exact⟨v,vs,c,TAt.mono b e g,TAtF.mono b e j⟩
 |(.none,d)::r,_,_,_,h=>by simp only[TAtF]at h⊢;exact TAtF.mono b e h
 |(.bool _,d)::r,_,_,_,h=>by simp only[TAtF]at h
 |(.int _,d)::r,_,_,_,h=>by simp only[TAtF]at h
 |(.list _,d)::r,_,_,_,h=>by simp only[TAtF]at h
 |(.tuple _,d)::r,_,_,_,h=>by simp only[TAtF]at h
 |(.dict _,d)::r,_,_,_,h=>by simp only[TAtF]at h
end
end
abbrev Cx.kd(X:Cx):Kd:=⟨X.K,X.w⟩
section
variable {X:Cx}{pins:List (Addr×Obj)}{σ:St}{H:Hp}{s:Ad}
mutual
theorem Den.reads(I:Inv X pins σ H s):∀{d:dL}{v:V}{u:oR},d.hasDict=false->Den X.kd H d v->RelV v u->∃as,Reads s.heap u d as
 | .none,v,u,_,h,r=>by simp only[Den]at h;subst h;cases r;exact⟨_,.none⟩
 | .bool b,v,u,nd,h,r=>by simp only[Den]at h;subst h;cases r;exact⟨_,.bool b⟩
 | .int i,v,u,nd,h,r=>by simp only[Den]at h;subst h;let⟨t,rfl⟩:=r;exact⟨_,.int i t⟩
 | .str x,v,u,nd,h,r=>by simp only[Den]at h;subst h;let⟨t,rfl⟩:=r;exact⟨_,.str x t⟩
 | .list ds,v,u,nd,h,r=>by
  simp only[Den]at h;let⟨a,p,rfl,f,g⟩:=h;cases r;let⟨j,k,⟨o,n,e,c,_,m⟩,_⟩:=I.list f.sq;let⟨as,l⟩:=DenAll.reads I (by simpa only[acR]using nd) g k;exact⟨_,.list e c m (by simpa using l)⟩
 | .tuple ds,v,u,nd,h,r=>by
  simp only[Den]at h;let⟨a,p,rfl,f,g⟩:=h;cases r;let⟨j,k,⟨o,e,c,n,m⟩,_⟩:=I.tuple f;let⟨as,l⟩:=DenAll.reads I (by simpa only[acR]using nd) g k;exact⟨_,.tuple e c m (by simpa using l)⟩
 | .dict _,v,u,nd,h,r=>by simp[acR]at nd
theorem DenAll.reads(I:Inv X pins σ H s):∀{ds:List dL}{xs:List V}{u:List oR},acu ds=false->DenAll X.kd H ds xs->Vals xs u->∃as,adY s.heap u ds as
 |[],xs,u,_,h,r=>by simp only[DenAll]at h;subst h;cases r;exact⟨_,.nil⟩
 | d::ds,xs,u,nd,h,r=>by
  simp only[acu,agK]at nd;simp only[DenAll]at h;let⟨v,vs,rfl,f,g⟩:=h
  cases r with
  |cons r1 a=>
   let⟨a1,c⟩:=Den.reads I nd.1 f r1;let⟨a2,b⟩:=DenAll.reads I nd.2 g a;exact⟨_,.cons c b⟩
end
theorem Inv.freeze(I:Inv X pins σ H s)(h:H a=some (.lst xs)):∃o,Inv X pins σ (upd H a (.frz o (.lst xs))) s:=by
 let⟨d,i,n,r,e⟩:=I.hok a _ h;refine⟨{cls:=.type "list",data:=.seq i.toArray n},I.un (h':=s.heap) (t':=s.toks) ⟨λb ob q _ _ _=>q,λb ob q _ _ _=>⟨ob.slots,q⟩,λb ob q z _=>?_,λb ob q _=>⟨ob,q⟩,λb y q=>?_,λb ob u q=>?_,λb p q=>⟨#[],?_⟩⟩ λb ob q=>?_⟩
 .rw[ag (abb (bg h z))];exact z
 .rw[ag (jf q h (by simp))];exact q
 .rw[ag (jf q h (by intro z;cases z))];exact q
 .rw[ag (jf q h (by simp)),q];simp
 .by_cases hb:b=a
  .subst hb;rw[ak]at q;cases q;exact⟨e,d,i,n,r,e⟩
  .rw[ag hb]at q;exact(I.hok b ob q).stay (λ_ _ _ z=>z) (λc z=>by rw[ag (jf z h (by simp))];exact z) λc y z=>by rw[ag (jf z h (by simp))];exact z
end
def Ic:Expr->Bool
 | .Starred ..=>true
 |_=>false
def aV{es:List Expr}(h:Ic e=false):OR (e::es) env=(false,eval e env)::OR es env:=by
 cases e<;>first|rfl|cases h
def cK(h:Ic e=false):OR [e] env=[(false,eval e env)]:=aV h
inductive R where
 |imm (d:dL)|obj (k:Nat)|new (ds:List dL)|at (k:Nat) (p:List Nat)|newT (t:dL)
structure MSt where
 vs:List (Option R)
 os:List (List dL)
 np:Nat
structure Kx extends Kd where
 eb:EB
instance:Coe Kx Kd:=⟨Kx.toKd⟩
abbrev Cx.kx(X:Cx):Kx:=⟨X.kd,X.eb⟩
abbrev Al:=List Ao
def Ao.ads:Ao->List Addr
 | .L a=>[a]
 | .T t=>t.map (·.2)
def ads(a:Al):List Addr:=a.flatMap Ao.ads
def jy(a β:Al):ads (a++β)=ads a++ads β:=by unfold ads;rw[adQ]
def Mu:HO->Bool
 | .tup _=>false
 | .frz _ _=>false
 |_=>true
def OwnAt(K:Kd)(H:Hp):Ao->List dL->Prop
 | .L a,ds=>∃x,H a=some (.lst x)/\DenAll K H ds x
 | .T τ,ds=>(∃t v,ds=[t]/\TAt K H τ [] t v/\∃a,τ.lookup []=some a/\v = .ref a)/\∀a∈τ.map (·.2),∃o,H a=some o/\Mu o=true
theorem OwnAt.mem(h:OwnAt K H ao ds)(ha:a∈ao.ads):∃o,H a=some o/\Mu o=true:=by
 cases ao with
 |L b=>cases aah.mp ha;let⟨x,e,_⟩:=h;exact⟨_,e,rfl⟩
 |T c=>exact h.2 a ha
theorem OwnAt.mono(h:OwnAt K H ao ds)(p:Pers H H')(e:∀a∈ao.ads,H' a=H a):OwnAt K H' ao ds:=by
 cases ao with
 |L b=>
  let⟨x,q,g⟩:=h;exact⟨x,(e b (aah.mpr rfl)).trans q,g.mono p⟩
 |T d=>
  let⟨⟨t,v,c,g,r⟩,m⟩:=h;exact⟨⟨t,v,c,g.mono p e,r⟩,λa ha=>by rw[e a ha];exact m a ha⟩
def RelS(K:Kd)(b:Al)(H:Hp):R->V->Prop
 | .imm d,v=>Den K H d v
 | .obj k,v=>∃a,b[k]?=some (.L a)/\v = .ref a
 | .at k p,v=>∃c a,b[k]?=some (.T c)/\c.lookup p=some a/\v = .ref a
 | .new _,_=>False
 | .newT _,_=>False
def RelR(K:Kd)(f:Al)(e H:Hp):R->V->Prop
 | .imm d,v=>Den K H d v
 | .obj k,v=>∃a,f[k]?=some (.L a)/\v = .ref a
 | .at k p,v=>∃c a,f[k]?=some (.T c)/\c.lookup p=some a/\v = .ref a
 | .new ds,v=>∃a x,v = .ref a/\e a=none/\H a=some (.lst x)/\DenAll K H ds x
 | .newT t,v=>∃c a,v = .ref a/\c.lookup []=some a/\(c.map (·.2)).Nodup/\(∀b∈c.map (·.2),e b=none)/\OwnAt K H (.T c) [t]
def Frm(a:Al)(H c:Hp):Prop:=∀b o,H b=some o->b∉ads a->c b=some o
theorem Frm.refl(a:Al)(H:Hp):Frm a H H:=λ_ _ e _=>e
theorem Frm.trans(a:Frm α H H1)(b:Frm α H1 H2):Frm α H H2:=λc o e n=>b c o (a c o e n) n
structure Ext(np:Nat)(α:Al)(H:Hp)(α':Al)(H':Hp):Prop where
 pre:α'.take np=α.take np
 frm:Frm α H H'
 new:∀a∈ads α',a∈ads α\/H a=none
 old:∀a∈ads α,∃o,H' a=some o
theorem Ext.trans{np:Nat}{c:Al}(x:Ext np α H α1 H1)(y:Ext np α1 H1 c H2):Ext np α H c H2:=by
 have out:∀b o,H b=some o->b∉ads α->b∉ads α1:=λb o e n hb=>by
  rcases x.new b hb with z|z
  .exact n z
  .grind
 refine⟨y.pre.trans x.pre,λb o e n=>y.frm b o (x.frm b o e n) (out b o e n),λa ha=>?_,λa ha=>?_⟩
 .rcases y.new a ha with z|z
  .exact x.new a z
  .cases q:H a with
   |none=>exact .inr rfl
   | some o=>
    by_cases h:a∈ads α
    .exact .inl h
    .have:=x.frm a o q h
     grind
 .obtain⟨o,e⟩:=x.old a ha
  by_cases h:a∈ads α1
  .exact y.old a h
  .exact⟨o,y.frm a o e h⟩
theorem Ext.nil{np:Nat}(x:Ext np α H α1 H1)(h:H1 a=none):H a=none:=by
 cases q:H a with
 |none=>rfl
 | some o=>
  by_cases b:a∈ads α
  .obtain⟨o',e⟩:=x.old a b
   grind
  .have:=x.frm a o q b
   grind
def Ext.less{np n1:Nat}(x:Ext n1 α H α' H')(h:np≤n1):Ext np α H α' H':=by
 refine⟨?_,x.frm,x.new,x.old⟩;have:=congrArg (List.take np) x.pre;rw[List.take_take,List.take_take,Nat.min_eq_left h]at this;omega
structure Rel(K:Kx)(α:Al)(m:MSt)(σ:St)(H:Hp):Prop where
 nd:(ads α).Nodup
 len:α.length=m.os.length
 own:∀(k:Nat) (ao:Ao) (ds:List dL),α[k]?=some ao->m.os[k]?=some ds->OwnAt K H ao ds
 vlen:σ.length=m.vs.length
 var:∀(i:Nat) (r:R),m.vs[i]?=some (some r)->∃v,σ[i]?=some (some v)/\RelS K α H r v
 npl:m.np≤α.length
 ebl:K.eb.np≤m.np
 ebx:Ext K.eb.np K.eb.be K.eb.H α H
section
variable {K:Kx}{α:Al}{m m':MSt}{σ:St}{H H0 H1 H':Hp}{r:R}{v:V}
theorem RelS.rr{K:Kd}(h:RelS K α H r v):RelR K α Hb H r v:=by
 cases r with
 |imm d=>exact h
 |obj k=>exact h
 | «at» k p=>exact h
 |new ds=>exact h.elim
 |newT t=>exact h.elim
theorem Rel.mem(R:Rel K α m σ H)(ha:a∈ads α):∃o,H a=some o/\Mu o=true:=by
 let⟨d,b,f⟩:=adf.mp ha;let⟨k,c,e⟩:=abm.mp b;have b:α[k]?=some d:=by rw[iO c,e]
 have h:m.os[k]?=some (m.os[k]'(by rw[<-R.len];exact c)):=iO _;exact(R.own k d _ b h).mem f
theorem Rel.out(R:Rel K α m σ H)(h:H a=none):a∉ads α:=λha=>by
 obtain _:=R.mem ha
 grind
theorem Rel.pers(R:Rel K α m σ H)(F:Frm α H H'):Pers H H' where
 tups:=λb x e=>F b _ e λha=>by let⟨y,q,z⟩:=R.mem ha;rw[e]at q;cases q;cases z
 frzs:=λb o u e=>F b _ e λha=>by let⟨y,q,z⟩:=R.mem ha;rw[e]at q;cases q;cases z
theorem Ext.of{np:Nat}(R:Rel K α m σ H')(F:Frm α H H'):Ext np α H α H':=
 ⟨rfl,F,λ_ h=>.inl h,λa ha=>let ⟨xs,q,_⟩:=R.mem ha;⟨_,q⟩⟩
theorem OwnAt.keep{K:Kd}(h:OwnAt K H1 ao ds)(p:Pers H1 H)(F:Frm α H1 H)(n:∀b∈ao.ads,b∉ads α):OwnAt K H ao ds:=
 h.mono p λa ha=>by
  let⟨o,e,_⟩:=h.mem ha;rw[e];exact F a o e (n a ha)
theorem RelR.keep(c:Rel K α m σ H0)(R:Rel K α m' σ H1)(F:Frm α H1 H)(h:RelR K α H0 H1 r v):RelR K α H0 H r v:=by
 cases r with
 |imm d=>exact Den.mono (R.pers F) h
 |obj k=>exact h
 | «at» k p=>exact h
 |new ds=>
  let⟨a,x,e,n,q,g⟩:=h;exact⟨a,x,e,n,F a _ q (c.out n),g.mono (R.pers F)⟩
 |newT t=>
  let⟨i,a,e,f,nd,n,g⟩:=h;exact⟨i,a,e,f,nd,n,g.keep (R.pers F) F λb hb=>c.out (n b hb)⟩
theorem RelR.base(R:Rel K α m σ H)(F:Frm α H0 H)(h:RelR K α H H' r v):RelR K α H0 H' r v:=by
 have old:∀a,H a=none->H0 a=none:=λa n=>by
  cases z:H0 a with
  |none=>rfl
  |some o=>
   have:=F a o z (R.out n)
   grind
 cases r with
 |imm d=>exact h
 |obj k=>exact h
 | «at» k p=>exact h
 |new ds=>
  let⟨a,x,e,n,q,g⟩:=h;exact⟨a,x,e,old a n,q,g⟩
 |newT t=>
  let⟨f,a,e,c,nd,n,g⟩:=h;exact⟨f,a,e,c,nd,λb hb=>old b (n b hb),g⟩
def chD:dL->Nat->Option dL
 | .list ts,i=>ts[i]?
 | .dict kvs,i=>match kvs[i]? with
  |some (.none,_)=>none
  |some (_,t)=>some t
  |none=>none
 |_,_=>none
def getT:dL->List Nat->Option dL
 |t,[]=>some t
 |t,i::p=>(chD t i).bind λa=>getT a p
def yv:dL->Option dL
 | .list _=>none
 | .dict k=>fzOf k
 |d=>some d
def jn:List dL->Option (List dL)
 |[]=>some []
 |t::ts=>match yv t,jn ts with|some d,some ds=>some (d::ds)|_,_=>none
def ndL(m:MSt)(k:Nat)(p:List Nat):Option (List dL):=match m.os[k]? with
 |some [t]=>match getT t p with
  |some (.list ts)=>jn ts
  |_=>none
 |_=>none
theorem j3{K:Kd}{p:List Nat}{t d:dL}(h:TAt K H τ p t v)(e:yv t=some d):Den K H d v:=by
 cases t with
 |list ts=>cases e
 | dict k=>
  have b:fzOf k=some d:=e;rcases h with _|⟨z,_⟩|⟨z,_⟩|⟨c,a,dx,C,x,f,_⟩
  .simp_all
  .simp_all
  .rw[b]at z;cases z
  .exfalso;unfold fzOf at b;unfold excC at f
   split at b<;>contradiction
 |none=>cases e;simpa only[TAt]using h
 |bool _=>cases e;simpa only[TAt]using h
 |int _=>cases e;simpa only[TAt]using h
 |str _=>cases e;simpa only[TAt]using h
 |tuple _=>cases e;simpa only[TAt]using h
theorem ng{K:Kd}{τ:List (List Nat×Addr)}{p:List Nat}:∀{ts ds:List dL}{i:Nat}{xs:List V},TAtL K H τ p i ts xs->jn ts=some ds->DenAll K H ds xs
 |[],ds,i,xs,h,e=>by
  cases e;subst h;rfl
 | t::ts,ds,i,xs,h,e=>by
  let⟨v,vs,rfl,g,b⟩:=h;simp[jn]at e
  cases q1:yv t with
  |none=>rw[q1]at e;cases e
  | some d=>
   cases q2:jn ts with
   |none=>rw[q1,q2]at e;cases e
   |some a=>
    rw[q1,q2]at e;cases e;exact DenAll.cons (j3 g q1) (ng b q2)
theorem TAtL.get{K:Kd}{τ:List (List Nat×Addr)}{p:List Nat}:∀{ts:List dL}{i j:Nat}{xs:List V}{t:dL},TAtL K H τ p i ts xs->ts[j]?=some t->∃v,xs[j]?=some v/\TAt K H τ (p++[i+j]) t v
 |[],_,_,_,_,_,e=>by simp at e
 |t::ts,i,0,xs,t',h,e=>by
  let⟨v,vs,rfl,g,_⟩:=h;simp at e;subst e;exact⟨v,rfl,g⟩
 |t::ts,i,j+1,xs,t',h,e=>by
  let⟨v,vs,rfl,_,b⟩:=h;let⟨c,a,d⟩:=TAtL.get b ‹_›;exact⟨c,by simpa using a,by rw[show i+(j+1)=i+1+j by omega];exact d⟩
theorem TAtD.get{K:Kd}{τ:List (List Nat×Addr)}{p:List Nat}:∀{ts:List (dL×dL)}{i j:Nat}{xs:List (Int×V×V)}{k t:dL},TAtD K H τ p i ts xs->ts[j]?=some (k,t)->∃u v,xs[j]?=some (dg K.w k,u,v)/\Den K H k u/\TAt K H τ (p++[i+j]) t v
 |[],_,_,_,_,_,_,e=>by simp at e
 |(k,t)::ts,i,0,xs,k',t',h,e=>by
  let⟨u,v,vs,rfl,g,f,_⟩:=h;simp at e;let⟨rfl,rfl⟩:=e;exact⟨u,v,rfl,g,f⟩
 |(k,t)::ts,i,j+1,xs,k',t',h,e=>by
  let⟨u,v,vs,rfl,_,_,l⟩:=h;let⟨d,b,a,c,n⟩:=TAtD.get l ‹_›;exact⟨d,b,by simpa using a,c,by rw[show i+(j+1)=i+1+j by omega];exact n⟩
theorem TAtK.get{K:Kd}{τ:List (List Nat×Addr)}{p:List Nat}:∀{ts:List (dL×dL)}{i j:Nat}{xs:List (Key×V)}{k t:dL},TAtK K H τ p i ts xs->ts[j]?=some (k,t)->∃v,TAt K H τ (p++[i+j]) t v
 |[],_,_,_,_,_,_,e=>by simp at e
 |(k,t)::ts,i,0,xs,k',t',h,e=>by
  let⟨u,v,vs,rfl,d,g,_⟩:=h;simp at e;let⟨rfl,rfl⟩:=e;exact⟨v,g⟩
 |(k,t)::ts,i,j+1,xs,k',t',h,e=>by
  let⟨u,v,vs,rfl,_,_,a⟩:=h;let⟨b,c⟩:=TAtK.get a ‹_›;exact⟨b,by rw[show i+_=i+1+j by omega];exact c⟩
theorem TAtF.get{K:Kd}{τ:List (List Nat×Addr)}{p:List Nat}:∀{ts:List (dL×dL)}{i j:Nat}{xs:List (Str×V)}{f:Str}{t:dL},TAtF K H τ p i ts xs->ts[j]?=some (.str f,t)->∃v,(f,v)∈xs/\TAt K H τ (p++[i+j]) t v
 |[],_,_,_,_,_,_,e=>by simp at e
 |(k,t)::ts,i,0,xs,f,t',h,e=>by
  simp_all
  let⟨v,vs,rfl,d,_⟩:=h;exact⟨v,aac,d⟩
 | (k,t)::ts,i,j+1,xs,f,t',h,e=>by
  have go:∀{y:List (Str×V)},TAtF K H τ p (i+1) ts y->∃v,(f,v)∈y/\TAt K H τ (p++[i+(j+1)]) t' v:=λ{y} g=>by
   let⟨b,a,c⟩:=TAtF.get (j:=j) g (by simpa using e);exact⟨b,a,by rw[show i+(j+1)=i+1+j by omega];exact c⟩
  cases k with
  |str l=>
   simp only[TAtF]at h;let⟨v,vs,rfl,_,g⟩:=h;let⟨b,a,c⟩:=go g;exact⟨b,aad _ a,c⟩
  |none=>simp only[TAtF]at h;exact go h
  |bool _=>simp only[TAtF]at h
  |int _=>simp only[TAtF]at h
  |list _=>simp only[TAtF]at h
  |tuple _=>simp only[TAtF]at h
  |dict _=>simp only[TAtF]at h
theorem TAtF.key{K:Kd}{p:List Nat}:∀{ts:List (dL×dL)}{i:Nat}{xs:List (Str×V)}{k t:dL},TAtF K H τ p i ts xs->(k,t)∈ts->k≠.none->∃f,k = .str f
 |[],_,_,_,_,_,e,_=>by simp at e
 | (k,t)::ts,i,xs,k',t',h,e,kn=>by
  cases k with
  |str a=>
   let⟨v,vs,rfl,_,g⟩:=h;rcases aaq.mp e with e|e
   .grind
   .exact g.key e kn
  |none=>
   simp only[TAtF]at h;rcases aaq.mp e with e|e
   .grind
   .exact h.key e kn
  |bool _=>simp[TAtF]at h
  |int _=>simp[TAtF]at h
  |list _=>simp only[TAtF]at h
  |tuple _=>simp only[TAtF]at h
  |dict _=>simp[TAtF]at h
theorem TAt.get{K:Kd}{τ:List (List Nat×Addr)}:∀{q p:List Nat}{t t':dL}{v:V},TAt K H τ p t v->getT t q=some t'->∃v',TAt K H τ (p++q) t' v'
 |[],p,t,t',v,h,e=>by cases e;exact⟨v,by rw[aaO];exact h⟩
 | i::q,p,t,t',v,h,e=>by
  simp only[getT]at e
  cases z:chD t i with
  |none=>rw[z]at e;cases e
  | some s=>
   rw[z]at e;have A:getT s q=some t':=e;have step:∃l,TAt K H τ (p++[i]) s l:=by
    cases t with
    |list ts=>
     simp only[TAt]at h;let⟨a,D,_,_,_,g⟩:=h;let⟨l,_,b⟩:=g.get (j:=i) z;exact⟨l,by rw[ac3]at b;exact b⟩
    | dict w=>
     simp only[chD]at z
     cases zi:w[i]? with
     |none=>rw[zi]at z;cases z
     | some B=>
      let⟨k,y⟩:=B;rw[zi]at z;have o:k≠.none:=λq=>by subst q;cases z
      have E:y=s:=by
       split at z<;>simp_all
      subst E;simp only[TAt]at h;rcases h with⟨d,n,_⟩|⟨_,_,a,F,_,_,_,_,g⟩|⟨_,_,a,F,_,_,_,g⟩|⟨c,a,dx,C,D,I,_,_,_,_,g⟩
      .exfalso;unfold fzOf at n
       split at n
       .cases i<;>simp at zi;exact o zi.1.symm
       .cases i<;>simp at zi;exact o zi.1.symm
       .cases n
      .obtain⟨u,l,_,_,b⟩:=g.get (j:=i) zi;exact⟨l,by rw[ac3]at b;exact b⟩
      .obtain⟨l,b⟩:=g.get (j:=i) zi;exact⟨l,by rw[ac3]at b;exact b⟩
      .obtain⟨f,rfl⟩:=g.key (GE zi) o;let⟨l,_,b⟩:=g.get (j:=i) zi;exact⟨l,by rw[ac3]at b;exact b⟩
    |none=>cases z
    |bool _=>cases z
    |int _=>cases z
    |str _=>cases z
    |tuple _=>cases z
   let⟨l,G⟩:=step;let⟨v',x⟩:=TAt.get G A;exact⟨v',by rw[act]at x;exact x⟩
def lsOf(m:MSt):R->Option (List dL)
 | .imm (.list ds)=>some ds
 | .obj k=>m.os[k]?
 | .new ds=>some ds
 | .at k p=>ndL m k p
 |_=>none
mutual
def eraT:dL->Option dL
 | .list ts=>(eraL ts).map .list
 | .dict k=>fzOf k
 | .none=>some .none
 | .bool b=>some (.bool b)
 | .int i=>some (.int i)
 | .str x=>some (.str x)
 | .tuple ds=>some (.tuple ds)
def eraL:List dL->Option (List dL)
 |[]=>some []
 |t::ts=>match eraT t,eraL ts with|some d,some ds=>some (d::ds)|_,_=>none
end
def ndT(m:MSt)(k:Nat)(p:List Nat):Option dL:=match m.os[k]? with
 |some [t]=>getT t p
 |_=>none
def asD(m:MSt):R->Option dL
 | .imm d=>some d
 | .obj k=>(m.os[k]?).map .list
 | .new ds=>some (.list ds)
 | .at k p=>match ndT m k p with
  |some (.list ts)=>(eraL ts).map .list
  |_=>none
 | .newT _=>none
theorem RelR.node(R:Rel K α m σ H){k:Nat}{p:List Nat}(h:RelR K α H0 H (.at k p) v){t:dL}(e:ndT m k p=some t):∃τ a v',α[k]?=some (.T τ)/\τ.lookup p=some a/\v = .ref a/\TAt K H τ p t v':=by
 let⟨τ,a,b,i,c⟩:=h;unfold ndT at e
 split at e
 .rename_i t0 e0;let⟨⟨l,j,d,g,_⟩,_⟩:=R.own k _ _ b e0;cases d;let⟨v',f⟩:=g.get e;exact⟨τ,a,v',b,i,c,by simpa using f⟩
 .cases e
theorem RelR.list(R:Rel K α m σ H)(h:RelR K α H0 H r v)(e:lsOf m r=some ds):∃a xs,v = .ref a/\SqL K H a xs/\DenAll K H ds xs:=by
 cases r with
 | imm d=>
  cases d with
  |list s=>
   cases e;have j:Den K H (.list ds) v:=h;let⟨a,xs,b,f,g⟩:=j;exact⟨a,xs,b,f.sq,g⟩
  |none=>cases e
  |bool _=>cases e
  |int _=>cases e
  |str _=>cases e
  |tuple _=>cases e
  |dict _=>cases e
 |obj k=>
  let⟨a,b,rfl⟩:=h;let⟨xs,q,g⟩:=R.own k _ ds b e;exact⟨a,xs,rfl,SqL.of q,g⟩
 |new s=>
  cases e;let⟨a,xs,b,n,q,g⟩:=h;exact⟨a,xs,b,SqL.of q,g⟩
 | «at» k p=>
  have c:ndL m k p=some ds:=e;let⟨ts,b,o⟩:∃ts,ndT m k p=some (.list ts)/\jn ts=some ds:=by
   unfold ndL at c;unfold ndT
   split at c
   .split at c
    .rename_i h0 _ ts h1;exact⟨ts,h1,c⟩
    .cases c
   .cases c
  let⟨w,a,u,_,l,rfl,g⟩:=RelR.node R h b;simp only[TAt]at g;let⟨t,xs,i,_,q,g⟩:=g;rw[l]at i;cases i;exact⟨a,xs,rfl,SqL.of q,ng g o⟩
 |newT _=>cases e
end
section
variable {X:Cx}{pins:List (Addr×Obj)}{σ:St}{H:Hp}{s:Ad}{τ:List (List Nat×Addr)}
mutual
theorem TAt.reads(I:Inv X pins σ H s):∀{t d:dL}{p:List Nat}{v:V}{u:oR},eraT t=some d->d.hasDict=false->TAt X.kd H τ p t v->RelV v u->∃as,Reads s.heap u d as
 | .none,d,p,v,u,e,nd,h,r=>by simp only[eraT]at e;cases e;simp only[TAt]at h;exact h.reads I nd r
 | .bool b,d,p,v,u,e,nd,h,r=>by simp only[eraT]at e;cases e;simp only[TAt]at h;exact h.reads I nd r
 | .int i,d,p,v,u,e,nd,h,r=>by simp only[eraT]at e;cases e;simp only[TAt]at h;exact h.reads I nd r
 | .str x,d,p,v,u,e,nd,h,r=>by simp only[eraT]at e;cases e;simp only[TAt]at h;exact h.reads I nd r
 | .tuple ds,d,p,v,u,e,nd,h,r=>by simp only[eraT]at e;cases e;simp only[TAt]at h;exact h.reads I nd r
 | .dict kvs,d,p,v,u,e,nd,h,r=>by
  simp only[eraT]at e;exact(j3 h (show yv (.dict kvs)=some d from e)).reads I nd r
 | .list ts,d,p,v,u,e,nd,h,r=>by
  simp only[eraT]at e
  cases q:eraL ts with
  |none=>rw[q]at e;cases e
  |some ds=>
   rw[q]at e;cases e;simp only[TAt]at h;let⟨a,w,_,rfl,f,g⟩:=h;cases r;let⟨j,l,⟨o,n,e,c,_,m⟩,_⟩:=I.list (SqL.of f);let⟨as,k⟩:=TAtL.reads I q (by simpa only[acR]using nd) g l;exact⟨_,.list e c m (by simpa using k)⟩
theorem TAtL.reads(I:Inv X pins σ H s):∀{ts ds:List dL}{p:List Nat}{i:Nat}{xs:List V}{u:List oR},eraL ts=some ds->acu ds=false->TAtL X.kd H τ p i ts xs->Vals xs u->∃as,adY s.heap u ds as
 |[],ds,p,i,xs,u,e,nd,h,r=>by
  simp only[eraL]at e;cases e;simp only[TAtL]at h;subst h
  cases r;exact⟨_,.nil⟩
 | t::ts,ds,p,i,xs,u,e,nd,h,r=>by
  simp only[eraL]at e
  cases q1:eraT t with
  |none=>rw[q1]at e;cases e
  | some d=>
   cases q2:eraL ts with
   |none=>rw[q1,q2]at e;cases e
   | some a=>
    rw[q1,q2]at e;cases e;simp only[acu,agK]at nd;simp only[TAtL]at h;let⟨v,vs,rfl,g,c⟩:=h
    cases r with
    |cons r1 f=>
     let⟨a1,j⟩:=TAt.reads I q1 nd.1 g r1;let⟨a2,b⟩:=TAtL.reads I q2 nd.2 c f;exact⟨_,.cons j b⟩
end
end
theorem RelR.reads{s:Ad}{m:MSt}{u:oR}{d:dL}(I:Inv X pins σ H s)(R:Rel X.kx α m σ' H)(h:RelR X.kd α H0 H r v)(i:RelV v u)(e:asD m r=some d)(nd:d.hasDict=false):∃as,Reads s.heap u d as:=by
 have l:∀{ds:List dL},lsOf m r=some ds->acu ds=false->∃as,Reads s.heap u (.list ds) as:=λ{ds} e nd=>by
  let⟨a,y,rfl,f,g⟩:=RelR.list R h e;cases i;let⟨z,i,⟨o,n,e,c,_,x⟩,_⟩:=I.list f;let⟨as,A⟩:=DenAll.reads I nd g i;exact⟨_,.list e c x (by simpa using A)⟩
 cases r with
 |imm F=>cases e;exact Den.reads I nd h i
 | obj k=>
  cases q:m.os[k]? with
  |none=>simp[asD,q]at e
  |some ds=>
   simp[asD,q]at e;subst e;exact l q ‹_›
 |new ds=>cases e;exact l rfl (by simpa only[acR]using nd)
 | «at» k p=>
  let⟨ts,ds,q,j,rfl⟩:∃ts ds,ndT m k p=some (.list ts)/\eraL ts=some ds/\d = .list ds:=by
   unfold asD at e;simp only at e
   split at e
   .rename_i ts q
    cases j:eraL ts with
    |none=>rw[j]at e;cases e
    |some ds=>rw[j]at e;cases e;exact⟨ts,ds,q,j,rfl⟩
   .cases e
  let⟨E,a,D,_,B,rfl,g⟩:=RelR.node R h q;have t:=g;simp only[TAt]at t;let⟨C,y,b,w,_⟩:=t;rw[B]at b;cases b;subst w;exact TAt.reads I (by simp only[eraT,j,Option.map]) nd g i
 |newT _=>cases e
abbrev WE:=MSt->(R->MSt->Prop)->Prop
abbrev WT:=MSt->(Bool->MSt->Prop)->Prop
abbrev WA:=MSt->(List R->MSt->Prop)->Prop
def tM(K:Kx)(w:WE):TE:=λd H Q=>∃b m e,Rel K b m d H/\w m e/\∀r c v a,e r c->c.np=m.np->Rel K b c d a->RelR K b H a r v->Frm b H a->Q v a
def tMT(K:Kx)(w:WT):TT:=λe H Q=>∃c m f,Rel K c m e H/\w m f/\∀b d a,f b d->d.np=m.np->Rel K c d e a->Frm c H a->Q b a
inductive RelRs(K:Kd)(α:Al)(Hb H:Hp):List R->List V->Prop where
 |nil:RelRs K α Hb H [] []
 |cons {r:R}{rs:List R}{v:V}{vs:List V}:RelR K α Hb H r v->RelRs K α Hb H rs vs->RelRs K α Hb H (r::rs) (v::vs)
def tMA(K:Kx)(w:WA):TA:=λd H Q=>∃b m e,Rel K b m d H/\w m e/\∀rs c vs a,e rs c->c.np=m.np->Rel K b c d a->RelRs K b H a rs vs->Frm b H a->Q vs a
theorem PE.wk{t t':TE}(h:PE X e t)(k:∀a H Q,t' a H Q->t a H Q):PE X e t':=λp s a H Q I q=>h p s a H Q I (k _ _ _ q)
theorem PT.wk{t t':TT}(h:PT X e t)(k:∀a H Q,t' a H Q->t a H Q):PT X e t':=λp s a H Q I q=>h p s a H Q I (k _ _ _ q)
theorem PW.wk{t t':TT}(h:PW X e t)(k:∀a H Q,t' a H Q->t a H Q):PW X e t':=λw p s a H Q I q=>h w p s a H Q I (k _ _ _ q)
theorem PA.wk{e:List Expr}{t t':TA}(h:PA X e t)(k:∀a H Q,t' a H Q->t a H Q):PA X e t':=λb p s a H Q I q=>h b p s a H Q I (k _ _ _ q)
theorem PS.wk{e:Stmt}{t t':TS}(h:PS X e t)(k:∀D a H,t' D a H->t D a H):PS X e t':=λp s a H D I q=>h p s a H D I (k _ _ _ q)
theorem PSs.wk{e:List Stmt}{t t':TS}(h:PSs X e t)(k:∀D a H,t' D a H->t D a H):PSs X e t':=λp s a H D I q=>h p s a H D I (k _ _ _ q)
abbrev ME(X:Cx)(e:Expr)(w:WE):Prop:=PE X e (tM X.kx w)
abbrev MT(X:Cx)(e:Expr)(w:WT):Prop:=PT X e (tMT X.kx w)
abbrev MW(X:Cx)(e:Expr)(w:WT):Prop:=PW X e (tMT X.kx w)
abbrev MA(X:Cx)(es:List Expr)(w:WA):Prop:=PA X es (tMA X.kx w)
section
variable {X:Cx}{a b c:Expr}{es:List Expr}{f g l:WE}{pos:Pos}
def wVar(i:Nat):WE:=λm K=>∃r,m.vs[i]?=some (some r)/\K r m
def wC(d:dL):WE:=λm K=>K (.imm d) m
theorem JW{t:TE}{w:WE}(h:PE X a t)(k:∀d m e H K Q,Rel X.kx d m e H->w m K->(∀r n v i,K r n->n.np=m.np->Rel X.kx d n e i->RelR X.kx d H i r v->Frm d H i->Q v i)->t e H Q):ME X a w:=
 h.wk<|by intro e H Q ⟨d,m,K,R,o,j⟩;exact k d m e H K Q R o j
theorem me_c{d:dL}(h:PE X a (tC v))(hd:∀(K:Kd) H,Den K H d v):ME X a (wC d):=
 JW h λk m j H n Q R i e=>e _ m v H i rfl R (hd _ _) (Frm.refl _ _)
def UG{i j pos}:ME X (.Constant (.int i) j pos) (wC (.int i)):=me_c Ux λ_ _=>by simp[Den]
def UJ{i j pos}:ME X (.Constant (.bool i) j pos) (wC (.bool i)):=me_c VZ λ_ _=>by simp[Den]
def QV{i j pos}:ME X (.Constant (.str i) j pos) (wC (.str i)):=me_c Pj λ_ _=>by simp[Den]
def Oy{j pos}:ME X (.Constant .none j pos) (wC .none):=me_c OQ λ_ _=>by simp[Den]
theorem Sk(h:PE X a (tVar i)):ME X a (wVar i):=
 JW h λq m p H K Q R n d=>by
  let⟨r,e,k⟩:=n;let⟨v,j,o⟩:=R.var i r e;exact⟨v,j,d r m v H k rfl R o.rr (Frm.refl _ _)⟩
theorem mv(i:Nat){x:Str}{pos:Pos}(d:X.N[i]?=some x:=by rfl)(e:Vis X.env.scope x:=by first|exact agL rfl|exact adg (agL rfl)|exact adg (adg rfl))(hd:(x==("__debug__" : Str))=false:=by decide)(h:(x==("__classdict__" : Str))=false:=by decide):ME X (.Name x pos) (wVar i):=Sk (yY d e hd h)
abbrev WO:=R->R->MSt->(R->Prop)->Prop
def rM(K:Kx)(o:WO):R2:=λx y H Q=>∃d m h k n r1 i j,Rel K d m h H/\RelR K d k H r1 x/\RelR K d n H i y/\o r1 i m j/\∀r v e,j r->Rel K d m h e->RelR K d H e r v->Frm d H e->Q v e
def wBin(o:WO)(f g:WE):WE:=λm K=>f m λr1 m1=>g m1 λd m2=>o r1 d m2 λr=>K r m2
theorem vc(h:tM X.kx (wBin o f g) σ H Q):tOp (rM X.kx o) (tM X.kx f) (tM X.kx g) σ H Q:=by
 let⟨e,m,K,s,u,n⟩:=h;refine⟨e,m,_,s,u,λr1 m1 x B w n1 d i t=>⟨e,m1,_,d,w,λA m2 y D z n2 R j q=>?_⟩⟩;refine⟨e,m2,σ,H,B,r1,A,_,R,i.keep s d q,j,z,λr v C k p rr F=>?_⟩;exact n r m2 v C k (n2.trans n1) p (rr.base R (t.trans q)) ((t.trans q).trans F)
def Oz{op:afg}(ho:OpR X (acp op) (rM X.kx o))(ha:ME X a f)(hb:ME X b g):ME X (.BinOp a op b pos) (wBin o f g):=(V3 ho ha hb).wk λ_ _ _ h=>vc h
def TU(ho:OpR X (abp op) (rM X.kx o))(ha:ME X a f)(hb:ME X b g)(d:adb op b=false):ME X (.Compare a [op] [b] pos) (wBin o f g):=(KJ ho ha hb d).wk λ_ _ _ h=>vc h
def onBl(P:Bool->Prop):R->Prop
 | .imm (.bool k)=>P k
 |_=>False
theorem Qv{K:Kx}{P:Bool->Prop}(rr:RelR K α Hb H r v)(h:onBl P r):∃b,r = .imm (.bool b)/\v = .bl b/\P b:=by
 cases r with
 |obj _=>exact h.elim
 |new _=>exact h.elim
 | «at» _ _=>exact h.elim
 |newT _=>exact h.elim
 | imm d=>
  cases d with
  |bool b=>
   have e:=rr;exact⟨b,rfl,e,h⟩
  |none=>exact h.elim
  |int _=>exact h.elim
  |str _=>exact h.elim
  |list _=>exact h.elim
  |tuple _=>exact h.elim
  |dict _=>exact h.elim
def wf(w:WE):WT:=λm K=>w m λr d=>onBl (λk=>K k d) r
theorem Ak{t:TE}{Q:Bool->Hp->Prop}{w:WE}(k:∀i,tM X.kx w σ H i->t σ H i)(h:tMT X.kx (wf w) σ H Q):P8 t σ H Q:=by
 let⟨o,m,K,n,j,d⟩:=h;refine k _ ⟨o,m,_,n,j,λr p v s e n1 R rr F=>?_⟩;let⟨b,u,q,e⟩:=Qv rr e;exact⟨b,q,d b p s e n1 R F⟩
def Su(ho:OpR X (abp op) (rM X.kx o))(ha:ME X a f)(hb:ME X b g)(d:adb op b=false):MT X (.Compare a [op] [b] pos) (wf (wBin o f g)):=(LJ ho ha hb d).wk λ_ _ _ h=>Ak (λ_=>vc) h
def Oo(ha:ME X a f)(d:∀w,isTrue a X.env w=(do let v <- w;adx a.pos;ady [v] (truthy v)):=by intro _;rfl):MT X a (wf f):=(QL ha d).wk λ_ _ _ h=>Ak (λ_ h=>h) h
end
section
variable {X:Cx}{a b c:Expr}{es:List Expr}{j y B:WE}{pos:Pos}
variable {l A:WT}{rest:List Expr}
def wAnd(t u:WT):WT:=λm K=>t m λc m1=>if c=true then u m1 K else K false m1
def wOr(t u:WT):WT:=λm K=>t m λc m1=>if c=true then K true m1 else u m1 K
def wNot(t:WT):WT:=λm K=>t m λc m1=>K (!c) m1
def Lh(ha:MT X a l):MW X (.BoolOp .And [a] pos) l:=J8 ha
def OO(ha:MT X a l):MW X (.BoolOp .Or [a] pos) l:=QB ha
theorem QY(ha:MT X a l)(hb:MW X (.BoolOp .And (b::rest) pos) A):MW X (.BoolOp .And (a::b::rest) pos) (wAnd l A):=(R9 ha hb).wk<|by
 intro r H Q ⟨e,m,K,g,h,f⟩;refine⟨e,m,_,g,h,λp m1 o k n1 R F=>?_⟩
 cases p with
 |true=>rw[if_pos rfl];exact⟨e,m1,K,R,k,λb2 m2 n i n2 d q=>f b2 m2 n i (n2.trans n1) d (F.trans q)⟩
 |false=>rw[if_neg aan];exact f _ m1 o k n1 R F
theorem VO(ha:MT X a l)(hb:MW X (.BoolOp .Or (b::rest) pos) A):MW X (.BoolOp .Or (a::b::rest) pos) (wOr l A):=(Vj ha hb).wk<|by
 intro r H Q ⟨e,m,K,g,h,f⟩;refine⟨e,m,_,g,h,λp m1 o k n1 R F=>?_⟩
 cases p with
 |true=>rw[if_pos rfl];exact f _ m1 o k n1 R F
 |false=>rw[if_neg aan];exact⟨e,m1,K,R,k,λb2 m2 n i n2 d q=>f b2 m2 n i (n2.trans n1) d (F.trans q)⟩
theorem QM(ha:MT X a l):MT X (.UnaryOp .Not a pos) (wNot l):=(O6 ha).wk<|by intro i H Q ⟨e,m,K,d,h,f⟩;exact
 ⟨e,m,_,d,h,λn m1 g k n1 R F=>f _ m1 g k n1 R F⟩
def tQ(b:Int):Den K H (.int b) (.int b):=rfl
def Lw(b:Str):Den K H (.str b) (.str b):=rfl
def wIfE(t:WT)(j y:WE):WE:=λm K=>t m λc m1=>if c=true then j m1 K else y m1 K
theorem Vx(q:MT X t l)(ha:ME X a j)(hb:ME X b y):ME X (.IfExp t a b pos) (wIfE l j y):=(G9 q ha hb).wk<|by
 intro u H Q ⟨g,m,K,p,o,f⟩;refine⟨g,m,_,p,o,λs m1 w k n1 R F=>?_⟩
 cases s with
 |true=>rw[if_pos rfl];exact⟨g,m1,K,R,k,λr m2 v i h n2 e d n=>f r m2 v i h (n2.trans n1) e (d.base R F) (F.trans n)⟩
 |false=>rw[if_neg aan];exact⟨g,m1,K,R,k,λr m2 v i h n2 e d n=>f r m2 v i h (n2.trans n1) e (d.base R F) (F.trans n)⟩
abbrev WU:=R->MSt->(R->Prop)->Prop
def uM(K:Kx)(o:WU):V->Hp->VK->Prop:=λx H Q=>∃d m f h r1 g,Rel K d m f H/\RelR K d h H r1 x/\o r1 m g/\∀r v e,g r->Rel K d m f e->RelR K d H e r v->Frm d H e->Q v e
def wUn(o:WU)(j:WE):WE:=λm K=>j m λr1 m1=>o r1 m1 λr=>K r m1
theorem Vk{op:UnaryOp}{o:WU}(ho:UnR X (unaryOp op) (uM X.kx o))(ha:ME X a j):ME X (.UnaryOp op a pos) (wUn o j):=(Vf ho ha).wk<|by intro q H Q ⟨g,m,K,n,i,f⟩;exact
 ⟨g,m,_,n,i,λr1 m1 x t p n1 R d h=>⟨g,m1,q,H,r1,_,R,d,p,λr v s k e rr F=>f r m1 v s k n1 e (rr.base R h) (h.trans F)⟩⟩
def tFz(t:TE):TE:=λe H Q=>t e H λv d=>Q v d\/∃a x,d a=some (.lst x)/\∀o,Q v (upd d a (.frz o (.lst x)))
theorem Vg{t:TE}(h:PE X a t):PE X a (tFz t):=by
 intro d s i H Q I q;refine thn (h d s i H _ I q) λu s1 ⟨v,k,g,r1,f⟩=>?_;rcases f with f|⟨p,x,e,f⟩
 .exact⟨v,k,g,r1,f⟩
 .obtain⟨o,I2⟩:=g.freeze e;exact⟨v,_,I2,r1,f o⟩
theorem Rel.at{K:Kx}{m:MSt}(R:Rel K α m σ H)(p:Pers H H')(e:∀a∈ads α,H' a=H a)(x:Frm α H H'):Rel K α m σ H':=by
 refine⟨R.nd,R.len,λk f ds g n=>?_,R.vlen,λi r h=>?_,R.npl,R.ebl,R.ebx.trans ⟨rfl,x,λ_ h=>.inl h,λa ha=>?_⟩⟩
 .exact(R.own k f ds g n).mono p λa ha=>e a (adf.mpr ⟨f,GE g,ha⟩)
 .obtain⟨v,ev,rv⟩:=R.var i r h;refine⟨v,ev,?_⟩
  cases r with
  |imm d=>exact Den.mono p rv
  |obj k=>exact rv
  | «at» k p=>exact rv
  |new ds=>exact rv
  |newT t=>exact rv
 .obtain⟨o,q,_⟩:=R.mem ha;exact⟨o,(e a ha).trans q⟩
theorem Rel.at'{K:Kx}{m:MSt}(R:Rel K α m σ H)(p:Pers H H')(e:∀a∈ads α,H' a=H a)(x:Ext K.eb.np K.eb.be K.eb.H α H'):Rel K α m σ H':=by
 refine⟨R.nd,R.len,λk f ds g n=>?_,R.vlen,λi r h=>?_,R.npl,R.ebl,x⟩
 .exact(R.own k f ds g n).mono p λa ha=>e a (adf.mpr ⟨f,GE g,ha⟩)
 .obtain⟨v,ev,rv⟩:=R.var i r h;refine⟨v,ev,?_⟩
  cases r with
  |imm d=>exact Den.mono p rv
  |obj k=>exact rv
  | «at» k p=>exact rv
  |new ds=>exact rv
  |newT t=>exact rv
theorem bo{a:Addr}{o:HO}(h:H a=none\/∃u,H a=some u/\Mu u=true):Pers H (upd H a o) where
 tups:=λb x e=>by
  rw[ag];exact e;rintro rfl;rcases h with h|⟨d,h,z⟩<;>(rw[e]at h;cases h)
  cases z
 frzs:=λb o u e=>by
  rw[ag];exact e;rintro rfl;rcases h with h|⟨d,h,z⟩<;>(rw[e]at h;cases h)
  cases z
def uG{a:Addr}{o:HO}(h:H a=some (.lst xs)):Pers H (upd H a o):=bo (.inr ⟨_,h,rfl⟩)
theorem cx{a:Addr}{o:HO}(h:H a=none):Frm α H (upd H a o):=λb ob e _=>by
 rw[ag (bg e h)];exact e
theorem Rel.lay{K:Kx}{m:MSt}{a:Addr}{o:HO}(R:Rel K α m σ H)(h:H a=none):Rel K α m σ (upd H a o):=
 R.at (bo (.inl h)) (λb hb=>ag λe=>R.out h (e▸hb)) (cx h)
def wImm(w:WE):WE:=λm K=>w m λr e=>match r with| .imm d=>K (.imm d) e | .new ds=>K (.imm (.list ds)) e|_=>False
theorem OZ(ha:ME X a j):ME X a (wImm j):=(Vg ha).wk<|by
 intro I H Q ⟨s,m,K,i,C,f⟩;refine⟨s,m,_,i,C,λr m1 v t k n1 R rr F=>?_⟩
 cases r with
 |imm d=>exact .inl (f _ m1 v t k n1 R rr F)
 |obj _=>exact k.elim
 | «at» _ _=>exact k.elim
 |newT _=>exact k.elim
 | new ds=>
  let⟨p,x,D,n,q,g⟩:=rr;refine .inr ⟨p,x,q,λo=>?_⟩;have z:Pers t (upd t p (.frz o (.lst x))):=uG q;have fr:Frm s H (upd t p (.frz o (.lst x))):=λb ob e u=>by
   rw[ag (bg e n)];exact F b ob e u
  have old:Ext X.kx.eb.np s H s _:=⟨rfl,fr,λ_ h=>.inl h,λb hb=>by
   have w:b≠p:=λe=>i.out n (e▸hb);rw[ag w];let⟨G,E,_⟩:=R.mem hb;exact⟨G,E⟩⟩
  refine f _ m1 v _ k n1 (R.at' z (λb hb=>ag λe=>i.out n (e▸hb)) (i.ebx.trans old)) (?_) λb ob e u=>?_
  .exact⟨p,x,D,.inl ⟨o,ak⟩,g.mono z⟩
  .rw[ag (bg e n)];exact F b ob e u
def wNil:WA:=λm K=>K [] m
def MJ(w:WE)(f:WA):WA:=λm K=>w m λr m1=>f m1 λrs m2=>K (r::rs) m2
theorem RelRs.base{K:Kx}{m:MSt}(d:Rel K α m σ H)(F:Frm α H0 H):∀{rs:List R}{vs:List V},RelRs K α H H' rs vs->RelRs K α H0 H' rs vs
 |_,_,.nil=>.nil
 |_,_,.cons h t=>.cons (h.base d F) (t.base d F)
variable {f:WA}
theorem Qt:MA X [] wNil:=(m6).wk<|by intro e H Q ⟨g,m,K,R,h,d⟩;exact d _ m _ H h rfl R .nil (Frm.refl _ _)
theorem Kh(ha:ME X a j)(hr:MA X es f)(hs:OR (a::es) X.env=(false,eval a X.env)::OR es X.env:=by first|exact aV rfl|rfl):MA X (a::es) (MJ j f):=(fu ha hr hs).wk<|by intro s H Q ⟨i,m,K,h,o,d⟩;exact
 ⟨i,m,_,h,o,λr m1 v t k n1 R rr F=>⟨i,m1,_,R,k,λrs m2 vs p q n2 g e n=>d _ m2 _ p q (n2.trans n1) g (.cons (rr.keep h R n) (e.base R F)) (F.trans n)⟩⟩
def gi:List R->Option (List dL)
 |[]=>some []
 | .imm d::rs=>(gi rs).map (d :: ·)
 |_::_=>none
theorem RelRs.imm{K:Kx}:∀{rs:List R}{vs:List V}{ds:List dL},RelRs K α H0 H rs vs->gi rs=some ds->DenAll K H ds vs
 |_,_,_,.nil,e=>by cases e;exact DenAll.nil
 |_,_,ds,.cons (r:=.imm d) (rs:=rs) h t,e=>by
  simp only[gi]at e
  cases q:gi rs with
  |none=>rw[q]at e;cases e
  |some g=>rw[q]at e;cases e;exact DenAll.cons h (t.imm q)
 |_,_,_,.cons (r:=.obj _) h t,e=>by cases e
 |_,_,_,.cons (r:=.new _) h t,e=>by cases e
 |_,_,_,.cons (r:=.at _ _) h t,e=>by cases e
 |_,_,_,.cons (r:=.newT _) h t,e=>by cases e
def ye(P:List dL->Prop):Option (List dL)->Prop
 |some ds=>ds.length≤aaf/\P ds
 |none=>False
def wTup(f:WA):WE:=λm K=>f m λrs d=>ye (λds=>K (.imm (.tuple ds)) d) (gi rs)
def wLst(f:WA):WE:=λm K=>f m λrs d=>ye (λds=>K (.new ds) d) (gi rs)
theorem Qp{x1}(h:MA X es f):ME X (.Tuple es x1 pos) (wTup f):=(Iz h).wk<|by
 intro r H Q ⟨o,m,K,n,i,d⟩;refine⟨o,m,_,n,i,λrs m1 vs s k n1 R rr F=>?_⟩
 cases e:gi rs with
 |none=>rw[e]at k;exact k.elim
 |some ds=>
  rw[e]at k;let⟨q,k⟩:=k;have g:=rr.imm e;refine⟨by rw[<-g.length];exact q,λp hp=>d _ m1 _ _ k n1 (R.lay hp) (?_) (F.trans (cx hp))⟩;exact⟨p,vs,rfl,SqT.of ak,g.mono (bo (.inl hp))⟩
theorem Pg(h:MA X es f):ME X (.List es pos) (wLst f):=(Tw h).wk<|by
 intro r H Q ⟨o,m,K,n,i,d⟩;refine⟨o,m,_,n,i,λrs m1 vs s k n1 R rr F=>?_⟩
 cases e:gi rs with
 |none=>rw[e]at k;exact k.elim
 |some ds=>
  rw[e]at k;let⟨q,k⟩:=k;have g:=rr.imm e;refine⟨by rw[<-g.length];exact q,λp hp=>d _ m1 _ _ k n1 (R.lay hp) ((RelR.base R F (⟨p,vs,rfl,hp,ak,g.mono (bo (.inl hp))⟩))) (F.trans (cx hp))⟩
abbrev WC:=List R->MSt->(R->Prop)->Prop
def cM(K:Kx)(o:WC):List V->Hp->VK->Prop:=λx H Q=>∃d m g i rs h,Rel K d m g H/\RelRs K d i H rs x/\o rs m h/\∀r v e,h r->Rel K d m g e->RelR K d H e r v->Frm d H e->Q v e
def wCB(o:WC)(f:WA):WE:=λm K=>f m λrs m1=>o rs m1 λr=>K r m1
theorem TQ{o:WC}(h:tM X.kx (wCB o f) σ H Q):tCB (cM X.kx o) (tMA X.kx f) σ H Q:=by
 let⟨i,m,K,q,p,d⟩:=h;exact⟨i,m,_,q,p,λrs m1 vs t k n1 R rr n=>⟨i,m1,σ,H,rs,_,R,rr,k,λr v s k e g F=>d r m1 v s k n1 e (g.base R n) (n.trans F)⟩⟩
theorem Gn{id:String}{x:Str}{o:WC}(q:c7 X (.builtin id) (cM X.kx o))(n:Gl X x)(m:X.mg x=none)(i:aaL x=some (.builtin id))(ha:MA X (a::es) f)(k:x ≠ "__name__":=by decide)(e:(x==("__debug__" : Str))=false:=by decide)
  (g:OR (a::es) X.env=(false,eval a X.env)::OR es X.env:=by first|exact aV rfl|rfl) (d:(abw pos (OR es X.env)).any (·.1)=false:=by rfl):ME X (.Call (.Name x p) (a::es) [] pos) (wCB o f):=(iQ q n m i ha k e g d).wk λ_ _ _ h=>TQ h
theorem BV{x:Str}{o:WC}(q:c7 X (.type T) (cM X.kx o))(n:Gl X x)(m:X.mg x=none)(i:aaL x=some (.type T))(ha:MA X (a::es) f)(k:x ≠ "__name__":=by decide)(e:(x==("__debug__" : Str))=false:=by decide)
  (g:OR (a::es) X.env=(false,eval a X.env)::OR es X.env:=by first|exact aV rfl|rfl) (d:(abw pos (OR es X.env)).any (·.1)=false:=by rfl):ME X (.Call (.Name x p) (a::es) [] pos) (wCB o f):=(AA q n m i ha k e g d).wk λ_ _ _ h=>TQ h
end
inductive Ag where
 |imm (d:dL)|own (ds:List dL)|tr (t:dL)
abbrev SpM:=List Ag->(R->List (List dL)->Prop)->Prop
inductive RelAs(K:Kd)(H:Hp):List Ag->List V->Al->Prop where
 |nil:RelAs K H [] [] []
 |imm {d:dL}{v:V}{as:List Ag}{vs:List V}{β:Al}:Den K H d v->RelAs K H as vs β->RelAs K H (.imm d::as) (v::vs) β
 |own {ds:List dL}{a:Addr}{as:List Ag}{vs:List V}{β:Al}:OwnAt K H (.L a) ds->RelAs K H as vs β->RelAs K H (.own ds::as) (.ref a::vs) (.L a::β)
 |tr {t:dL}{a:Addr}{τ:List (List Nat×Addr)}{as:List Ag}{vs:List V}{β:Al}:OwnAt K H (.T τ) [t]->τ.lookup []=some a->RelAs K H as vs β->RelAs K H (.tr t::as) (.ref a::vs) (.T τ::β)
theorem RelAs.length:∀{as:List Ag}{vs:List V}{β:Al},RelAs K H as vs β->as.length=vs.length
 |_,_,_,.nil=>rfl
 |_,_,_,.imm _ t=>by simp[t.length]
 |_,_,_,.own _ t=>by simp[t.length]
 |_,_,_,.tr _ _ t=>by simp[t.length]
structure qj(K:Kd)(H:Hp)(β:Al)(outs:List (List dL)):Prop where
 len:outs.length=β.length
 at_:∀(j:Nat) (ao:Ao) (ds:List dL),β[j]?=some ao->outs[j]?=some ds->OwnAt K H ao ds
def spOf(K:Kd)(n:Nat)(sp:SpM):Sp:=λvs H Q _=>∃c a d,c.length=n/\(ads a).Nodup/\RelAs K H c vs a/\sp c d/\∀r o v b,d r o->qj K b a o->RelR K a H b r v->Frm a H b->Q v b
theorem spOf.len{E:XK}(h:spOf K n sp vs H Q E):vs.length=n:=by
 let⟨c,b,d,a,_,r,_⟩:=h;rw[<-r.length];exact a
def fy(m:MSt):List R->Option (List Ag×List Nat)
 |[]=>some ([],[])
 | .imm d::rs=>match fy m rs with|some (as,ks)=>some (.imm d::as,ks)|none=>none
 | .obj k::rs=>match m.os[k]?,fy m rs with|some ds,some (as,ks)=>some (.own ds::as,k::ks)|_,_=>none
 | .at k []::rs=>match m.os[k]?,fy m rs with|some [t],some (as,ks)=>some (.tr t::as,k::ks)|_,_=>none
 |_::_=>none
def cr:List (List dL)->List Nat->List (List dL)->List (List dL)
 |os,k::ks,o::outs=>cr (os.set k o) ks outs
 |os,_,_=>os
def mapR(ks:List Nat):R->R
 | .imm d=>.imm d
 | .new ds=>.new ds
 | .obj j=>.obj (ks.getD j 0)
 | .at j p=>.at (ks.getD j 0) p
 | .newT t=>.newT t
def zm(sp:SpM)(w:WA):WE:=λm K=>w m λrs m1=>match fy m1 rs with
 |some (as,ks)=>ks.Nodup/\sp as λr o=>K (mapR ks r) {m1 with os:=cr m1.os ks o}
 |none=>False
theorem ji:∀(ks:List Nat) (os a:List (List dL)),(cr os ks a).length=os.length
 |[],_,_=>by simp[cr]
 |_::_,_,[]=>by simp[cr]
 |k::ks,os,o::a=>by simp[cr,ji ks]
theorem jv:∀(ks:List Nat) (os a:List (List dL)) (k:Nat),k∉ks->(cr os ks a)[k]?=os[k]?
 |[],_,_,_,_=>by simp[cr]
 |_::_,_,[],_,_=>by simp[cr]
 |k'::ks,os,o::a,k,h=>by
  rw[aaq]at h;rw[not_or]at h;show(cr _ ks a)[k]?=_;rw[jv ks _ _ k h.2,aaz (abb h.1)]
theorem qF:∀(ks:List Nat) (os a:List (List dL)) (j k:Nat) (ds:List dL),ks.Nodup->ks[j]?=some k->a[j]?=some ds->k<os.length->(cr os ks a)[k]?=some ds
 |[],_,_,_,_,_,_,h,_,_=>by simp at h
 |_::_,_,[],_,_,_,_,_,h,_=>by simp at h
 |k'::ks,os,o::a,0,k,ds,nd,h1,h2,hk=>by
  simp at h1 h2;subst h1;subst h2;show(cr _ ks a)[k']?=_;rw[jv ks _ _ k' (abk.mp nd).1,aaM hk]
 |k'::ks,os,o::a,j+1,k,ds,nd,h1,h2,hk=>by
  exact qF ks _ a j k ds (abk.mp nd).2 ‹_› ‹_› (by simpa)
def iJ(c:Al):(ads c).Nodup↔(∀ao∈c,ao.ads.Nodup)/\c.Pairwise λx y=>∀a∈x.ads,∀b∈y.ads,a≠b:=List.pairwise_flatMap
theorem gQ(nd:(ads α).Nodup){x y:Ao}(g:α[i]?=some x)(f:α[j]?=some y)(h:i≠j)(b:a∈x.ads)(c:a∈y.ads):False:=by
 have e:=((iJ α).mp nd).2;let⟨d,q⟩:=DL.mp g;let⟨p,k⟩:=DL.mp f;subst q k;rcases aeb h with l|l
 .exact abK.mp e i j d p l a b a c rfl
 .exact abK.mp e j i p d l a c a b rfl
def iY{x:Ao}(b:α[i]?=some x)(h:a∈x.ads):a∈ads α:=adf.mpr ⟨x,GE b,h⟩
theorem im(h:a∈ads α):∃(i:Nat) (x:Ao),α[i]?=some x/\a∈x.ads:=by
 let⟨d,f,c⟩:=adf.mp h;let⟨k,b,e⟩:=abm.mp f;exact⟨k,d,by rw[iO b,e],c⟩
section
variable {K:Kx}{c:Al}{m:MSt}{g:St}{H l f:Hp}
theorem gG(b:Rel K c m g H):∀{rs:List R}{vs:List V}{as:List Ag}{ks:List Nat},RelRs K c l H rs vs->fy m rs=some (as,ks)->∃β,RelAs K H as vs β/\abN (λ(k:Nat) (ao:Ao)=>c[k]?=some ao) ks β
 |_,_,_,_,.nil,e=>by cases e;exact⟨[],.nil,.nil⟩
 | _,_,as,ks,.cons (r:=.imm d) (rs:=rs) h t,e=>by
  simp only[fy]at e
  cases q:fy m rs with
  |none=>rw[q]at e;cases e
  |some p=>
   rw[q]at e;cases e;let⟨β,n,i⟩:=gG b t q;exact⟨β,.imm h n,i⟩
 | _,_,as,ks,.cons (r:=.obj k) (rs:=rs) h t,e=>by
  simp only[fy]at e
  cases q1:m.os[k]? with
  |none=>rw[q1]at e;cases e
  | some ds=>
   cases q:fy m rs with
   |none=>rw[q1,q]at e;cases e
   |some p=>
    let⟨s,o⟩:=p;rw[q1,q]at e;cases e;let⟨β,n,i⟩:=gG b t q;let⟨a,j,rfl⟩:=h;exact⟨.L a::β,.own (b.own k _ ds j q1) n,.cons j i⟩
 |_,_,as,ks,.cons (r:=.at k []) (rs:=rs) h t,e=>by
  simp only[fy]at e
  split at e
  .rename_i t' s o q1 q;cases e;let⟨β,n,i⟩:=gG b t q;let⟨v,a,j,u,rfl⟩:=h;exact⟨.T v::β,.tr (b.own k _ _ j q1) u n,.cons j i⟩
  .cases e
 |_,_,_,_,.cons (r:=.at _ (_::_)) h t,e=>by cases e
 |_,_,_,_,.cons (r:=.new _) h t,e=>by cases e
 |_,_,_,_,.cons (r:=.newT _) h t,e=>by cases e
theorem fe(nd:(ads c).Nodup)(h:ks.Nodup)(p:abN (λ(k:Nat) (ao:Ao)=>c[k]?=some ao) ks β):(ads β).Nodup:=by
 have one:=((iJ c).mp nd).1
 induction p with
 |nil=>exact adh
 | @cons k ao ks β e t ih=>
  have d:=ih (abk.mp h).2;rw[iJ]at d⊢;refine⟨λx n=>?_,afl.mpr ⟨λy q a ha b hb z=>?_,d.2⟩⟩
  .rcases aaq.mp n with rfl|n
   .exact one _ (GE e)
   .exact d.1 x n
  .subst z;let⟨j,w,u⟩:=abm.mp q;let⟨v,o,s⟩:=Paired.get2 t (i:=j) (b:=y) (by simp_all);have r:=Classical.byContradiction λne=>gQ nd e s ne ha hb;exact(abk.mp h).1 (r▸GE o)
theorem uI(R:Rel K c m g H){s:List (List dL)}(nd:ks.Nodup)(p:abN (λ(k:Nat) (ao:Ao)=>c[k]?=some ao) ks β)(O:qj K f β s)(F:Frm β H f) :
  Rel K c {m with os:=cr m.os ks s} g f/\Frm c H f:=by
 have sub:∀a∈ads β,∃k ao,k∈ks/\c[k]?=some ao/\a∈ao.ads:=λa ha=>by
  let⟨j,ao,C,x⟩:=im ha;let⟨T,u,G⟩:=Paired.get2 p C;exact⟨T,ao,GE u,G,x⟩
 have A:Frm c H f:=λb o e n=>F b o e λz=>by
  let⟨k,ao,_,G,x⟩:=sub b z;exact n (iY G x)
 have L:=R.pers A;have y:∀(k:Nat) (ao:Ao) (ds:List dL),c[k]?=some ao->(cr m.os ks s)[k]?=some ds->OwnAt K f ao ds:=λk ao ds u w=>by
  have D:k<m.os.length:=by rw[<-R.len];exact(DL.mp u).1
  by_cases x:k∈ks
  .obtain⟨j,hj,C⟩:=abm.mp x;have N:ks[j]?=some k:=by rw[iO hj,C]
   let⟨V,J,P⟩:=Paired.get' p N;rw[u]at P;cases P;have B:j<s.length:=by rw[O.len];exact(DL.mp J).1
   have Q:s[j]?=some s[j]:=iO B;rw[qF ks m.os s j k _ nd N Q D]at w;cases w;exact O.at_ j _ _ J Q
  .rw[jv ks _ _ k x]at w;have q:=R.own k ao ds u w;refine q.mono L λa ha=>?_;let⟨o,M,_⟩:=q.mem ha;rw[M];refine F a o M λz=>?_;let⟨W,U,I,S,E⟩:=sub a z;exact gQ R.nd u S (λz=>x (z▸I)) ha E
 refine⟨⟨R.nd,by show c.length=(cr m.os ks s).length;rw[ji];exact R.len,y,R.vlen,λi r h=>?_,R.npl,R.ebl,R.ebx.trans ⟨rfl,A,λ_ h=>.inl h,λa ha=>?_⟩⟩,A⟩
 .obtain⟨v,ev,rv⟩:=R.var i r h;refine⟨v,ev,?_⟩
  cases r with
  |imm d=>exact Den.mono L rv
  |obj k=>exact rv
  | «at» k p=>exact rv
  |new ds=>exact rv
  |newT t=>exact rv
 .obtain⟨k,ao,u,x⟩:=im ha;have D:k<(cr m.os ks s).length:=by rw[ji,<-R.len];exact(DL.mp u).1
  let⟨o,q,_⟩:=(y k ao _ u (iO D)).mem x;exact⟨o,q⟩
theorem u4{K:Kd}(p:abN (λ(k:Nat) (ao:Ao)=>c[k]?=some ao) ks β)(h:RelR K β H f r v):RelR K c H f (mapR ks r) v:=by
 have get:∀{j:Nat}{ao:Ao},β[j]?=some ao->c[ks.getD j 0]?=some ao:=λ{j ao} b=>by
  let⟨k,z,o⟩:=Paired.get2 p b
  simp_all
 cases r with
 |imm d=>exact h
 |new ds=>exact h
 |newT t=>exact h
 |obj j=>
  let⟨a,b,e⟩:=h;exact⟨a,get b,e⟩
 | «at» j q=>
  let⟨n,a,b,i,e⟩:=h;exact⟨n,a,get b,i,e⟩
end
section
variable {X:Cx}{a:Expr}{es:List Expr}{w:WA}{pos p:Pos}{k n:Nat}{f:Addr}{fd:abZ}{ps:List Str}{sp:SpM}{x:Str}{CX:CXT}
theorem LM{E:XK}(h:tM X.kx (zm sp w) σ H Q)(A:∀as K,sp as K->as.length=n):UA (spOf X.kd n sp) [] E (tMA X.kx w) σ H Q:=by
 let⟨z,m,K,u,t,j⟩:=h;refine⟨z,m,_,u,t,λrs m1 vs I c n1 R rr o=>?_⟩
 cases e:fy m1 rs with
 |none=>rw[e]at c;exact c.elim
 |some q=>
  let⟨as,G⟩:=q;rw[e]at c;let⟨nd,b⟩:=c;let⟨y,B,d⟩:=gG R rr e;refine⟨as,y,_,A _ _ b,fe R.nd nd d,by rw[aaO];exact B,b,λr s v D l O g F=>?_⟩;let⟨i,C⟩:=uI R nd d O F;exact j _ _ v D l n1 i ((u4 d g).base R o) (o.trans C)
theorem JJ{E:XK}(F:FnOk X.prog X.w X.K X.mg X.base CX k f fd ps (spOf X.kd n sp))(hr:Room k X.A)(l:Gl X x)(j:X.mg x=some (.ref f))(e:abP X.K (.ref f)=true)(hb:Binds X.K fd ps [])(g:vI CX X E)(i:∀as K,sp as K->as.length=n)
  (ha:MA X (a::es) w) (c:(x==("__debug__" : Str))=false:=by decide) (d:OR (a::es) X.env=(false,eval a X.env)::OR es X.env:=by first|exact aV rfl|rfl) (b:(abw pos (OR es X.env)).any (·.1)=false:=by rfl) :
  ME X (.Call (.Name x p) (a::es) [] pos) (zm sp w):=(Lg F hr l j e hb .nil g ha c d b).wk λ_ _ _ h=>LM h i
end
structure dJ where
 nx:MSt->Prop
 rt:R->MSt->Prop
 bk:MSt->Prop:=λ_=>False
 ct:MSt->Prop:=λ_=>False
abbrev WS:=dJ->MSt->Prop
theorem RelR.ext{np:Nat}{c:Al}(x:Ext np α H α1 H1)(h:RelR K c H1 H2 r v):RelR K c H H2 r v:=by
 cases r with
 |imm d=>exact h
 |obj k=>exact h
 | «at» k p=>exact h
 |new ds=>
  let⟨a,i,e,n,q,g⟩:=h;exact⟨a,i,e,x.nil n,q,g⟩
 |newT t=>
  let⟨j,a,e,f,nd,n,g⟩:=h;exact⟨j,a,e,f,nd,λb hb=>x.nil (n b hb),g⟩
structure EndsOk(K:Kx)(np:Nat)(α:Al)(H:Hp)(De:dJ)(D:Ends):Prop where
 nx:∀α' m' σ' H',De.nx m'->m'.np=np->Rel K α' m' σ' H'->Ext np α H α' H'->D.nx σ' H'
 rt:∀r α' m' σ' v H',De.rt r m'->m'.np=np->Rel K α' m' σ' H'->RelR K α' H H' r v->Ext np α H α' H'->D.rt v H'
 bk:∀α' m' σ' H',De.bk m'->m'.np=np->Rel K α' m' σ' H'->Ext np α H α' H'->D.bk σ' H'
 ct:∀α' m' σ' H',De.ct m'->m'.np=np->Rel K α' m' σ' H'->Ext np α H α' H'->D.ct σ' H'
theorem EndsOk.ext{K:Kx}{np:Nat}(h:EndsOk K np α H De D)(x:Ext np α H α1 H1):EndsOk K np α1 H1 De D where
 nx:=λa m b c k n R y=>h.nx a m b c k n R (x.trans y)
 rt:=λr a m b v c k n R rr y=>h.rt r a m b v c k n R (rr.ext x) (x.trans y)
 bk:=λa m b c k n R y=>h.bk a m b c k n R (x.trans y)
 ct:=λa m b c k n R y=>h.ct a m b c k n R (x.trans y)
def tMS(K:Kx)(w:WS):TS:=λD c H=>∃a m b,Rel K a m c H/\w b m/\EndsOk K m.np a H b D
abbrev MS(X:Cx)(st:Stmt)(w:WS):Prop:=PS X st (tMS X.kx w)
abbrev MSs(X:Cx)(st:List Stmt)(w:WS):Prop:=PSs X st (tMS X.kx w)
section
variable {X:Cx}{a b c e:Expr}{es:List Expr}{d f g i:WE}{pos:Pos}{st:Stmt}{rest:List Stmt}{w u:WS}
def JC:WS:=λD m=>D.nx m
def wSeq(w u:WS):WS:=λD m=>w {D with nx:=λh=>u D h } m
theorem Lq:MSs X [] JC:=(LQ).wk<|by intro D h H ⟨l,m,n,R,j,k⟩;exact k.nx l m h H j rfl R (.of R (Frm.refl _ _))
theorem C8(t:MS X st w)(r:MSs X rest u):MSs X (st::rest) (wSeq w u):=(C5 t r).wk<|by intro D x H ⟨o,m,s,l,j,k⟩;exact
 ⟨o,m,_,l,j,⟨λh p v z q n R y=>⟨h,p,s,R,q,by rw[n];exact k.ext y⟩,k.rt,k.bk,k.ct⟩⟩
theorem L6(j:MS X st w):MSs X [st] w:=(B8 j).wk λD k H h=>h
end
section
variable {X:Cx}{a b c e:Expr}{es:List Expr}{wa wb wc we:WE}{ws:WA}{wt:WT}{pos:Pos}{st:Stmt}{rest body body2:List Stmt}{w u:WS}
def wRet(we:WE):WS:=λD m=>we m λr d=>D.rt r d
theorem QX(h:ME X e we):MS X (.Return (some e) pos) (wRet we):=(QU h).wk<|by intro D j H ⟨d,m,o,g,f,k⟩;exact
 ⟨d,m,_,g,f,λr i v l q n R rr F=>k.rt r d i j v l q n R rr (.of R F)⟩
def Kl(we:WE):WS:=λD m=>we m λ_ d=>D.nx d
theorem K6(h:ME X e we)(hs:abH e none pos.line X.env=pure false:=by rfl):MS X (.Expr e pos) (Kl we):=(KO h hs).wk<|by intro D j H ⟨d,m,o,g,f,k⟩;exact
 ⟨d,m,_,g,f,λr i v l q n R rr F=>k.nx d i j l q n R (.of R F)⟩
def wIfS(t:WT)(w u:WS):WS:=λD m=>t m λc d=>if c=true then w D d else u D d
theorem VP(o:MT X t wt)(r:MSs X body w)(l:MSs X body2 u):MS X (.If t body body2 pos) (wIfS wt w u):=(WJ o r l).wk<|by
 intro D v H ⟨d,m,g,j,i,k⟩;refine⟨d,m,_,j,i,λp f s q n R F=>?_⟩;have h:EndsOk X.kx f.np d s g D:=by rw[n];exact k.ext (.of R F)
 cases p with
 |true=>rw[if_pos rfl]at q;exact iteT ⟨d,f,g,R,q,h⟩
 |false=>rw[if_neg aan]at q;exact iteF ⟨d,f,g,R,q,h⟩
def Jd:WS:=λ_ _=>False
theorem FB:MS X st Jd:=(DH).wk<|by intro D d H ⟨f,m,g,R,h,k⟩;exact h
def MSt.setV(m:MSt)(i:Nat)(r:R):MSt:={m with vs:=m.vs.set i (some r)}
def RenR(f:List Nat)(o:Option (Option R)):R->Prop
 | .imm d=>o=some (some (.imm d))
 | .obj k=>∃j,f[k]?=some j/\o=some (some (.obj j))
 | .at k p=>∃j,f[k]?=some j/\o=some (some (.at j p))
 | .new _=>False
 | .newT _=>False
structure Ren(ρ:List Nat)(m m2:MSt):Prop where
 nd:ρ.Nodup
 lt:∀k∈ρ,k<m.os.length
 pre:ρ.take m.np=aaB m.np
 npl:m.np≤ρ.length
 os:m2.os=ρ.map λk=>m.os.getD k []
 np:m2.np=m.np
 vl:m2.vs.length=m.vs.length
 vs:∀(j:Nat) (r:R),m2.vs[j]?=some (some r)->RenR ρ m.vs[j]? r
def upR(D:MSt->Prop)(m:MSt):Prop:=D m\/∃d m2,Ren d m m2/\D m2
def nA(i:Nat)(D:MSt->Prop)(m:MSt):R->Prop
 | .imm d=>upR D (m.setV i (.imm d))
 | .obj k=>upR D (m.setV i (.obj k))
 | .at k p=>upR D (m.setV i (.at k p))
 | .new ds=>upR D {vs:=m.vs.set i (some (.obj m.os.length)),os:=m.os++[ds],np:=m.np} \/
   ∃k,m.vs[i]?=some (some (.obj k))/\m.np≤k/\(∀j:Nat,j≠i->m.vs[j]?≠some (some (.obj k)))/\D {m with os:=m.os.set k ds}
 | .newT t=>upR D {vs:=m.vs.set i (some (.at m.os.length [])),os:=m.os++[[t]],np:=m.np}
theorem g9{d:Al}{n:Nat}(g:d.length=n):∀{f:List Nat},(∀k∈f,k<n)->abN (λ(k:Nat) (ao:Ao)=>d[k]?=some ao) f (f.map λk=>d.getD k (.L 0))
 |[],_=>.nil
 | k::f,h=>.cons (by
   have i:k<d.length:=by rw[g];exact h k aac
   show d[k]?=some (d.getD k _);rw[aas,iO i];rfl) (g9 g λj l=>h j (aad _ l))
theorem Ml{K:Kx}{m m2:MSt}{g:List Nat}(R:Rel K α m σ H)(N:Ren g m m2):∃y,Rel K y m2 σ H/\Ext m.np α H y H:=by
 have E:=g9 R.len N.lt;have get:∀(k:Nat) (f:Ao),(g.map λk=>α.getD k (.L 0))[k]?=some f->∃j:Nat,g[k]?=some j/\α[j]?=some f:=λk f z=>by
  let⟨j,S,M⟩:=Paired.get2 E z;exact⟨j,S,M⟩
 have i:∀(k j:Nat) (f:Ao),g[k]?=some j->α[j]?=some f->(g.map λk=>α.getD k (.L 0))[k]?=some f:=λk j f D A=>by
  let⟨I,P,G⟩:=Paired.get' E D;rw[A]at G;cases G;exact P
 have x:(g.map λk=>α.getD k (.L 0)).take m.np=α.take m.np:=by
  apply ab0;intro l;rw[aaT,aaT]
  by_cases n:l<m.np
  .rw[if_pos n,if_pos n];have:g[l]?=some l:=by
    have e:=congrArg (·[l]?) N.pre;simp only[aaT,if_pos n]at e;rw[e,acB n]
   have t:l<α.length:=aak n R.npl;rw[i l l α[l] this (iO t),iO t]
  .rw[if_neg n,if_neg n]
 have ext:Ext m.np α H (g.map λk=>α.getD k (.L 0)) H:=⟨x,Frm.refl _ _,λa ha=>by
  let⟨k,f,L,Q⟩:=im ha;let⟨j,_,T⟩:=get k f L;exact .inl (iY T Q),λa ha=>by
  let⟨o,q,_⟩:=R.mem ha;exact⟨_,q⟩⟩
 refine⟨g.map λk=>α.getD k (.L 0),⟨fe R.nd N.nd E,?_,λk f ds D A=>?_,?_,λj r z=>?_,?_,by rw[N.np];exact R.ebl,R.ebx.trans (ext.less R.ebl)⟩,ext⟩
 .rw[N.os,gE,gE]
 .obtain⟨j,q,qa⟩:=get k f D;rw[N.os,aaa,q]at A;have J:j<m.os.length:=N.lt j (GE q);have B:m.os.getD j []=ds:=aam A;refine R.own j f ds qa ?_;rw[<-B,aas,iO J];rfl
 .rw[N.vl];exact R.vlen
 .have h:=N.vs j r z
  cases r with
  |imm d=>exact R.var j (.imm d) h
  |new _=>exact h.elim
  |newT _=>exact h.elim
  |obj k=>
   let⟨s,q,h⟩:=h;let⟨v,C,a,F,e⟩:=R.var j (.obj s) h;exact⟨v,C,a,i k s _ q F,e⟩
  | «at» k p=>
   let⟨s,q,h⟩:=h;let⟨v,C,U,a,F,O,e⟩:=R.var j (.at s p) h;exact⟨v,C,U,a,i k s _ q F,O,e⟩
 .rw[N.np,gE];exact N.npl
def wSet(i:Nat)(we:WE):WS:=λD m=>we m λr d=>nA i D.nx d r
theorem cf{K:Kx}{m:MSt}(R:Rel K α m σ H)(h:RelS K α H r v):Rel K α (m.setV i r) (σ.set i (some v)) H:=by
 refine⟨R.nd,R.len,R.own,?_,λj g e=>?_,R.npl,R.ebl,R.ebx⟩
 .show(σ.set i _).length=(m.vs.set i _).length;rw[aba,aba];exact R.vlen
 .have e':(m.vs.set i (some r))[j]?=some _:=e
  by_cases d:i=j
  .subst d
   by_cases f:i<m.vs.length
   .rw[aaM f]at e';cases e';exact⟨v,aaM (by rw[R.vlen];exact f),h⟩
   .simp_all
  .rw[aaz d]at e'⊢;exact R.var j g e'
theorem oy{K:Kx}{m:MSt}(R:Rel K α m σ H)(G:∃C f,Rel K α C f H0)(F:Frm α H0 H)(nd:ao.ads.Nodup)(B:∀b∈ao.ads,H0 b=none)(g:OwnAt K H ao ds) :
  Rel K (α++[ao]) {m with os:=m.os++[ds]} σ H/\∀np,np≤α.length->Ext np α H0 (α++[ao]) H:=by
 let⟨C,f,n⟩:=G;have r:∀b∈ao.ads,b∉ads α:=λb hb=>n.out (B b hb);have one:ads [ao]=ao.ads:=by simp[ads]
 have ext:∀np,np≤α.length->Ext np α H0 (α++[ao]) H:=λnp s=>⟨by rw[List.take_append_of_le_length s],F,λa ha=>by
  rw[jy,one]at ha;rcases aa4.mp ha with z|z
  .exact .inl z
  .exact .inr (B a z),λa ha=>by
  let⟨o,q,_⟩:=R.mem ha;exact⟨_,q⟩⟩
 refine⟨⟨?_,by simp[R.len],λk a es i E=>?_,R.vlen,λj t z=>?_,by have:=R.npl;show m.np≤(α++[ao]).length;rw[aat];omega,R.ebl,n.ebx.trans (ext _ ?_)⟩,ext⟩
 .rw[jy,one];exact afC.mpr ⟨R.nd,nd,λx I y D e=>r y D (e▸I)⟩
 .have z2':(m.os++[ds])[k]?=some es:=E
  by_cases A:k<α.length
  .rw[aaH A]at i;rw[aaH (by rw[<-R.len];exact A)]at z2';exact R.own k a es i z2'
  .rw[aaS (by omega)]at i;rw[aaS (by rw[<-R.len];omega)]at z2';have h:k-α.length=0:=by
    have:=(DL.mp i).1;simp at this;omega
   rw[h]at i;rw[<-R.len,h]at z2'
   simp_all
 .obtain⟨v,ev,rv⟩:=R.var j t z;refine⟨v,ev,?_⟩
  cases t with
  |imm d=>exact rv
  |new _=>exact rv
  |newT _=>exact rv
  |obj k=>
   let⟨a,l,e⟩:=rv;exact⟨a,by rw[aaH (DL.mp l).1];exact l,e⟩
  | «at» k p=>
   let⟨J,a,l,e⟩:=rv;exact⟨J,a,by rw[aaH (DL.mp l).1];exact l,e⟩
 .exact aao R.ebl R.npl
theorem tJ{K:Kx}{m:MSt}{Q:St->Hp->Prop}{np:Nat}(f:Rel K α m σ H)(n:m.np=np)(F:Frm α H0 H)(h:RelR K α H0 H r v)(q:nA i P m r)
  (k:∀A D s C,P D->D.np=np->Rel K A D s C->Ext np α H0 A C->Q s C) (R0:∃m0 M,Rel K α m0 M H0):Q (σ.set i (some v)) H:=by
 have L:∀A D s C,upR P D->D.np=np->Rel K A D s C->Ext np α H0 A C->Q s C:=λA D s C q n R x=>by
  rcases q with q|⟨ρ,m2,N,q⟩
  .exact k A D s C q n R x
  .obtain⟨α2,R2,x2⟩:=Ml R N;rw[n]at x2;exact k α2 m2 s C q (N.np.trans n) R2 (x.trans x2)
 have G:np≤α.length:=by rw[<-n];exact f.npl
 cases r with
 |imm d=>exact L α _ _ H q n (cf f (r:=.imm d) h) (.of (cf (i:=i) f (r:=.imm d) h) F)
 |obj j=>exact L α _ _ H q n (cf f (r:=.obj j) h) (.of (cf (i:=i) f (r:=.obj j) h) F)
 | «at» j p=>exact L α _ _ H q n (cf f (r:=.at j p) h) (.of (cf (i:=i) f (r:=.at j p) h) F)
 |newT t=>
  let⟨V,p,rfl,J,nd,S,g⟩:=h;let⟨base,ext⟩:=oy f R0 F (ao:=.T V) nd S g;exact L (α++[.T V]) _ _ H q n (cf base (r:=.at m.os.length []) ⟨V,p,by rw[aaS (by rw[f.len];exact Ge _),<-f.len];simp,J,rfl⟩) (ext np G)
 | new ds=>
  let⟨p,xs,rfl,S,hp,g⟩:=h;have R0':=R0;let⟨m0,M,U⟩:=R0';have O:p∉ads α:=U.out S;rcases q with q|⟨j,e1,e2,e3,q⟩
  .
   let⟨base,ext⟩:=oy f R0 F (ao:=.L p) (by simp[Ao.ads]) (λb hb=>by cases aah.mp hb;exact S) ⟨xs,hp,g⟩;exact L (α++[.L p]) _ _ H q n (cf base (r:=.obj m.os.length) ⟨p,by rw[aaS (by rw[f.len];exact Ge _),<-f.len];simp,rfl⟩) (ext np G)
  .
   let⟨aj,T⟩:∃aj,α[j]?=some (.L aj):=by
    let⟨v,_,a,I,_⟩:=f.var i _ e1;exact⟨a,I⟩
   have Y:j<α.length:=(DL.mp T).1;have hi:i<m.vs.length:=(DL.mp e1).1;have ndS:(ads (α.set j (.L p))).Nodup:=by
    have z:=(iJ α).mp f.nd;rw[iJ];refine⟨λao ha=>?_,abK.mpr λi1 i2 h1 h2 hlt a ha b hb e=>?_⟩
    .rcases afz ha with y|y
     .exact z.1 ao y
     .subst y;simp[Ao.ads]
    .subst e;rw[aba]at h1 h2;have mem:∀(l:Nat) (B:l<α.length),a∈(α[l]).ads->a∈ads α:=λl B h=>iY (iO B) h
     by_cases E:j=i1
     .subst E;rw[agB]at ha;rw[adR (by exact aaK ‹_›)]at hb
      cases aah.mp ha
      exact O (mem i2 h2 hb)
     .rw[adR E]at ha
      by_cases c2:j=i2
      .subst c2;rw[agB]at hb
       cases aah.mp hb
       exact O (mem i1 h1 ha)
      .rw[adR c2]at hb;exact gQ f.nd (iO h1) (iO h2) (aaK hlt) ha hb
   have ext:Ext np α H0 (α.set j (.L p)) H:=by
    refine⟨?_,F,λa ha=>?_,λa ha=>?_⟩
    .apply ab0;intro l;rw[aaT,aaT]
     by_cases B:l<np
     .rw[if_pos B,if_pos B,aaz (by omega)]
     .rw[if_neg B,if_neg B]
    .obtain⟨l,ao,J,hm⟩:=im ha
     by_cases E:j=l
     .subst E;rw[aaM Y]at J;cases J
      cases aah.mp hm
      exact .inr S
     .rw[aaz E]at J;exact .inl (iY J hm)
    .obtain⟨o,q,_⟩:=f.mem ha;exact⟨_,q⟩
   have Rl':Rel K (α.set j (.L p)) {m with os:=m.os.set j ds} (σ.set i (some (.ref p))) H:=by
    refine⟨ndS,by simp[f.len],λk a es W z2=>?_,by rw[aba];exact f.vlen,λl Z z=>?_,by rw[aba];exact f.npl,f.ebl,U.ebx.trans (ext.less (by have:=f.ebl;omega))⟩
    .have z2':(m.os.set j ds)[k]?=some es:=z2
     by_cases E:j=k
     .subst E;rw[aaM Y]at W;rw[aaM (by rw[<-f.len];exact Y)]at z2'
      cases W;cases z2'
      exact⟨xs,hp,g⟩
     .rw[aaz E]at W z2';exact f.own k a es W z2'
    .have z':m.vs[l]?=some (some Z):=z
     by_cases B:i=l
     .subst B;rw[e1]at z';cases z';exact⟨.ref p,aaM (by rw[f.vlen];exact hi),p,aaM Y,rfl⟩
     .obtain⟨v,ev,rv⟩:=f.var l Z z';refine⟨v,by rw[aaz B];exact ev,?_⟩
      cases Z with
      |imm d=>exact rv
      |new _=>exact rv
      |newT _=>exact rv
      |obj k=>
       let⟨a,I,e⟩:=rv;refine⟨a,?_,e⟩;rw[aaz]
       .exact I
       .rintro rfl;exact e3 l (abb B) z'
      | «at» k p'=>
       let⟨V,a,I,e⟩:=rv;refine⟨V,a,?_,e⟩;rw[aaz]
       .exact I
       .rintro rfl;rw[T]at I;cases I
   exact k (α.set j (.L p)) _ _ H q n Rl' ext
theorem PJ{x:Str}(l:X.N.Nodup)(s:X.N[i]?=some x)(g:Loc X.env.scope x)(h:ME X e we)(hs:abH e (some (.Name x pos')) pos.line X.env=pure false:=by rfl)(o:X.fn x=true\/X.env.scope.names.lookup x=some .local:=by first|exact .inl rfl|exact .inr rfl|assumption) :
  MS X (.Assign [.Name x pos'] e pos) (wSet i we):=(Rf l s g h hs o).wk<|by intro D f H ⟨p,m,t,d,j,k⟩;exact
 ⟨p,m,_,d,j,λr y v z q n R rr F=>tJ R n F rr q k.nx ⟨m,f,d⟩⟩
abbrev WG:=dL->MSt->(MSt->Prop)->Prop
abbrev WGs:=List dL->MSt->(MSt->Prop)->Prop
def tMG(K:Kx)(g:WG):TG:=λv k H Q=>∃i m d j,Rel K i m k H/\Den K H d v/\g d m j/\∀h f,j h->h.np=m.np->Rel K i h f H->Q f H
def tMGs(K:Kx)(g:WGs):TGs:=λvs j H Q=>∃h m ds i,Rel K h m j H/\DenAll K H ds vs/\g ds m i/\∀f d,i f->f.np=m.np->Rel K h f d H->Q d H
theorem PG.wk{X:Cx}{e:Expr}{t t':TG}(h:PG X e t)(k:∀v d H Q,t' v d H Q->t v d H Q):PG X e t':=λp s d H v u Q I r q=>h p s d H v u Q I r (k _ _ _ _ q)
theorem PGs.wk{X:Cx}{e:List Expr}{t t':TGs}(h:PGs X e t)(k:∀v d H Q,t' v d H Q->t v d H Q):PGs X e t':=λp s d H v u Q I r q=>h p s d H v u Q I r (k _ _ _ _ q)
abbrev MG(X:Cx)(e:Expr)(g:WG):Prop:=PG X e (tMG X.kx g)
abbrev MGs(X:Cx)(es:List Expr)(g:WGs):Prop:=PGs X es (tMGs X.kx g)
def gM(i:Nat):WG:=λd m K=>K (m.setV i (.imm d))
def KM:WGs:=λds m K=>ds=[]/\K m
def ze(g:WG)(f:WGs):WGs:=λds m K=>match ds with|d::r=>g d m λh=>f r h K|[]=>False
def D7(n:Nat)(g:WGs):WG:=λd m K=>match d with| .tuple ds=>ds.length=n/\g ds m K|_=>False
theorem Lz{x:Str}(j:X.N.Nodup)(l:X.N[i]?=some x)(h:Loc X.env.scope x)(k:X.fn x=true\/X.env.scope.names.lookup x=some .local:=by first|exact .inl rfl|exact .inr rfl|assumption):MG X (.Name x pos) (gM i):=(Jy j l h k).wk λv n H Q ⟨o,m,d,K,R,hd,g,f⟩=>
 f _ _ g rfl (cf R hd)
theorem Lr:MGs X [] KM:=(LH).wk<|by
 intro v g H Q ⟨i,m,d,K,R,hd,h,f⟩;let⟨rfl,h⟩:=h;exact⟨hd,f m g h rfl R⟩
theorem CJ{e:Expr}{es:List Expr}(B:MG X e g)(p:MGs X es gs)
  (hs:(abE (e::es) X.env).map (·.2)=ad8 e X.env::(abE es X.env).map (·.2):=by rfl):MGs X (e::es) (ze g gs):=(Gv B p hs).wk<|by
 intro v C H Q ⟨l,m,ds,K,o,hd,j,f⟩
 cases ds with
 |nil=>exact j.elim
 |cons d r=>
  let⟨x,q,rfl,t,z⟩:=hd;exact⟨x,q,rfl,l,m,d,_,o,t,j,λs A k n R=>⟨l,s,r,_,R,z,k,λm2 h y n2 i=>f m2 h y (n2.trans n) i⟩⟩
theorem QQ{es:List Expr}{k:Nat}(h:MGs X es gs)(p:X.calm=true:=by rfl)
  (q:(abE es X.env).length=n:=by rfl) (l:(abE es X.env).findIdx? (·.1)=none:=by rfl):MG X (.Tuple es k pos) (D7 n gs):=(RB p h q l).wk<|by
 intro v r H Q ⟨o,m,d,K,R,hd,i,j⟩
 cases d with
 |tuple ds=>
  let⟨a,x,e,f,g⟩:=hd;exact⟨a,x,e,f,g.length.symm.trans i.1,o,m,ds,K,R,g,i.2,j⟩
 |none=>exact i.elim
 |bool _=>exact i.elim
 |int _=>exact i.elim
 |str _=>exact i.elim
 |list _=>exact i.elim
 |dict _=>exact i.elim
def c8(P:dL->Prop):R->Prop
 | .imm d=>P d
 |_=>False
theorem fc{K:Kx}{P:dL->Prop}(rr:RelR K α Hb H r v)(h:c8 P r):∃d,r = .imm d/\Den K H d v/\P d:=by
 cases r with
 |imm d=>exact⟨d,rfl,rr,h⟩
 |obj _=>exact h.elim
 |new _=>exact h.elim
 | «at» _ _=>exact h.elim
 |newT _=>exact h.elim
def wAsg(we:WE)(g:WG):WS:=λD m=>we m λr f=>c8 (λd=>g d f D.nx) r
theorem Ub(l:ME X e we)(s:MG X tg g)(hs:ac9 [tg] e pos.line X.env=pure false:=by rfl)(h:ada [tg] e X.env=pure none:=by rfl)
  (t:(abE [tg] X.env).map (·.2)=[ad8 tg X.env]:=by rfl):MS X (.Assign [tg] e pos) (wAsg we g):=(II l s hs h t).wk<|by
 intro D z H ⟨i,m,A,o,h,k⟩;refine⟨i,m,_,o,h,λr p v x q n f rr F=>?_⟩;let⟨d,B,hd,q⟩:=fc rr q;exact⟨i,p,d,_,f,hd,q,λm2 j y n2 R=>k.nx i m2 j x y (n2.trans n) R (.of R F)⟩
def wPar(i j:Nat)(ws:WA):WS:=λD m=>ws m λrs d=>match rs with|[.imm d1,.imm d2]=>D.nx ((d.setV i (.imm d1)).setV j (.imm d2))|_=>False
theorem Uh{x:Str}{l p pt:Pos}{kt k2 pt2}(A:X.N.Nodup)(I:X.N[i]?=some x)(G:X.N[j]?=some y)(f:i≠j)
  (z:X.env.scope.names.lookup x=some .local) (t:X.env.scope.names.lookup y=some .local) (ha:MA X [a,b] ws)
  (h:ada [.Tuple [.Name x l,.Name y p] kt pt] (.Tuple [a,b] k2 pt2) X.env=pure (some [x,y])) (E:X.calm=true:=by rfl)
  (hs:ac9 [.Tuple [.Name x l,.Name y p] kt pt] (.Tuple [a,b] k2 pt2) pos.line X.env=pure false:=by rfl) :
  MS X (.Assign [.Tuple [.Name x l,.Name y p] kt pt] (.Tuple [a,b] k2 pt2) pos) (wPar i j ws):=(R8 E A I G f z t ha h hs).wk<|by
 intro D L H ⟨o,m,B,r,h,k⟩;refine⟨o,m,_,r,h,λrs s vs K q n R rr F=>?_⟩;let⟨d,g,v,q⟩:∃d g,rs=[.imm d,.imm g]/\B.nx ((s.setV i (.imm d)).setV j (.imm g)):=by
  split at q
  .exact⟨_,_,rfl,q⟩
  .exact q.elim
 subst v
 cases rr with
 |cons J rr=>
  cases rr with
  |cons C rr=>
  cases rr;exact⟨_,_,rfl,k.nx o _ _ K q n (cf (cf R J) C) (.of R F)⟩
end
structure Src where
 ds:List dL
 own:Option Nat
structure Wks(K:Kd)(J:It)(ds:List dL)(C:Hp->Prop):Prop where
 stop:∀H,C H->J.stop ds.length H
 go:∀i H,i<ds.length->C H->J.go i H
 yld:∀i H x H',i<ds.length->C H->J.yld i H x H'->(∀b o,H b=some o->H' b=some o)/\∃d,ds[i]?=some d/\Den K H' d x
def ut(K:Kd)(d:Al)(H:Hp)(s:Src)(J:It):Prop:=
 match s.own with
 |none=>∃C:Hp->Prop,Wks K J s.ds C/\C H/\∀c b,C c->Pers c b->C b
 |some k=>∃a,d[k]?=some (.L a)/\Wks K J s.ds λH=>∃x,H a=some (.lst x)/\DenAll K H s.ds x
abbrev WI:=MSt->(Src->MSt->Prop)->Prop
def tMI(K:Kx)(w:WI):TI:=λd H R=>∃b m e,Rel K b m d H/\w m e/\∀s c J a,e s c->c.np=m.np->Rel K b c d a->Frm b H a->ut K b a s J->R J a
theorem PI.wk{t t':TI}(h:PI X tg e t)(k:∀a H Q,t' a H Q->t a H Q):PI X tg e t':=λp s a H Q I q=>h p s a H Q I (k _ _ _ q)
abbrev MI(X:Cx)(tg e:Expr)(w:WI):Prop:=PI X tg e (tMI X.kx w)
section
variable {X:Cx}{tg a b c e B:Expr}{es:List Expr}{N O Q E:WE}{G:WA}{M:WT}{pos:Pos}{st:Stmt}{rest A L:List Stmt}{w u:WS}
def iSeq(K:Io)(tl:TE):TI:=λg H R=>tl g H λx d=>∃a,x = .ref a/\(((∃f,SqL K d a f)/\R (Itl K a) d)\/((∃f,SqT K d a f)/\R (Itt K a) d))
theorem TW{l:Expr}{tl:TE}(k:PE X l tl):PI X tg l (iSeq X.K tl):=by
 intro f s m H R I h;refine thn (k f s m H _ I h) λv s1 ⟨x,i,d,r1,n⟩=>?_;let⟨a,e,q⟩:=n;subst e;cases r1;rcases q with⟨⟨j,g⟩,q⟩|⟨⟨j,g⟩,q⟩
 .obtain⟨its,rv,p,hz⟩:=d.list g;refine wpAny_pyIter_list p.isList ?_;refine⟨s1.heap.objs.size,[s1.heap.objs.size],_,_,i,rfl,d.kept (t':=s1.toks) λb o e=>AD _ e,zj a _,⟨_,aai _ rfl,rfl,rfl⟩,λb hb=>?_,q⟩;have e:=by simpa using hb
  subst e;exact d.fpOk (Ge _) (d.hok.fresh (Ge _))
 .obtain⟨its,rv,p,hz⟩:=d.tuple g;refine wpAny_pyIter_tuple (p) ?_;refine⟨s1.heap.objs.size,[s1.heap.objs.size],_,_,i,rfl,d.kept (t':=s1.toks) λb o e=>AD _ e,wY a _,⟨_,aai _ rfl,rfl,rfl⟩,λb hb=>?_,q⟩;have e:=by simpa using hb
  subst e;exact d.fpOk (Ge _) (d.hok.fresh (Ge _))
def srcR(m:MSt)(K:Src->MSt->Prop):R->Prop
 | .imm (.list ds)=>K ⟨ds,none⟩ m
 | .imm (.tuple ds)=>K ⟨ds,none⟩ m
 | .obj k=>∃ds,m.os[k]?=some ds/\K ⟨ds,some k⟩ m
 |_=>False
def Js(E:WE):WI:=λm K=>E m λr d=>srcR d K r
theorem wks_list{a:Addr}:Wks K (Itl K a) ds λH=>∃xs,SqL K H a xs/\DenAll K H ds xs where
 stop:=λH ⟨xs,q,g⟩=>⟨xs,q,by rw[g.length];exact Ge _⟩
 go:=λi H h ⟨xs,q,g⟩=>⟨xs,xs[i]'(by rw[<-g.length];exact h),q,iO _⟩
 yld:=λi H x k h ⟨xs,q,g⟩ y=>by
  let⟨e,y⟩:=y;subst e;let⟨d,j,f⟩:=g.get2 (y xs q);exact⟨λ_ _ z=>z,d,j,f⟩
theorem JF{a:Addr}:Wks K (Itt K a) ds λH=>∃xs,SqT K H a xs/\DenAll K H ds xs where
 stop:=λH ⟨xs,q,g⟩=>⟨xs,q,by rw[g.length];exact Ge _⟩
 go:=λi H h ⟨xs,q,g⟩=>⟨xs,xs[i]'(by rw[<-g.length];exact h),q,iO _⟩
 yld:=λi H x k h ⟨xs,q,g⟩ y=>by
  let⟨e,y⟩:=y;subst e;let⟨d,j,f⟩:=g.get2 (y xs q);exact⟨λ_ _ z=>z,d,j,f⟩
theorem Wks.imp{C f:Hp->Prop}(h:Wks K J ds C)(k:∀H,f H->C H):Wks K J ds f:=⟨λH c=>h.stop H (k H c),λi H d c=>h.go i H d (k H c),λi H x g d c=>h.yld i H x g d (k H c)⟩
theorem UD(y:ME X e E):MI X tg e (Js E):=(TW (tg:=tg) y).wk<|by
 intro T H S ⟨D,m,P,C,z,i⟩;refine⟨D,m,_,C,z,λr o v s k n R rr F=>?_⟩
 cases r with
 |new _=>exact k.elim
 | «at» _ _=>exact k.elim
 |newT _=>exact k.elim
 |obj j=>
  let⟨ds,I,k⟩:=k;let⟨p,t,rfl⟩:=rr;let⟨x,q,g⟩:=R.own j _ ds t I;exact⟨p,rfl,.inl ⟨⟨x,SqL.of q⟩,i _ o _ s k n R F ⟨p,t,wks_list.imp<|by intro H ⟨x,q,g⟩;exact⟨x,SqL.of q,g⟩⟩⟩⟩
 | imm d=>
  cases d with
  |list ds=>
   have h:=rr;simp only[Den]at h;let⟨p,x,rfl,f,g⟩:=h;refine⟨p,rfl,.inl ⟨⟨x,f.sq⟩,i _ o _ s k n R F ⟨λH=>∃x,FzL X.kx H p x/\DenAll X.kx H ds x,wks_list.imp λH ⟨x,q,g⟩=>⟨x,q.sq,g⟩,⟨x,f,g⟩,λK J ⟨x,q,g⟩ l=>⟨x,q.mono l,g.mono l⟩⟩⟩⟩
  |tuple ds=>
   have h:=rr;simp only[Den]at h;let⟨p,x,rfl,f,g⟩:=h;refine⟨p,rfl,.inr ⟨⟨x,f⟩,i _ o _ s k n R F ⟨λH=>∃x,SqT X.kx H p x/\DenAll X.kx H ds x,JF,⟨x,f,g⟩,λK J ⟨x,q,g⟩ l=>⟨x,q.mono l,g.mono l⟩⟩⟩⟩
  |none=>exact k.elim
  |bool _=>exact k.elim
  |int _=>exact k.elim
  |str _=>exact k.elim
  |dict _=>exact k.elim
def ik(lo:Int)(n:Nat):List dL:=(aaB n).map λ(i:Nat)=>abC (lo+(i:Int))
def aP(lo:Int)(n:Nat):(ik lo n).length=n:=by simp[ik]
def jH{lo:Int}(h:i<n):(ik lo n)[i]?=some (.int (lo+(i:Int))):=by simp[ik,h]
theorem yf{lo:Int}:Wks K (Itr lo n) (ik lo n) λ_=>True where
 stop:=λH _=>by rw[aP];exact Ge _
 go:=λi H h _=>by rw[aP]at h;exact h
 yld:=λi H x d h _ y=>by
  rw[aP]at h;let⟨e,y⟩:=y;subst e y;exact⟨λ_ _ z=>z,_,jH h,tQ _⟩
def Bq(G:WA):WI:=λm K=>G m λrs d=>match rs with|[.imm (.int j)]=>-(2^62)≤j/\j<2^62/\K ⟨ik 0 j.toNat,none⟩ d|_=>False
def aU{i:Int}(h:Den K H (.int i) v):v = .int i:=by simpa[Den]
theorem zh(t:Gl X "range")(v:X.mg "range" = none)(ha:MA X [a] G)(hs:OR [a] X.env=[(false,eval a X.env)]:=by first|exact cK rfl|rfl):MI X tg (.Call (.Name "range" p) [a] [] pos) (Bq G):=(yN t v ha hs).wk<|by
 intro z H y ⟨l,m,K,i,h,f⟩;refine⟨l,m,_,i,h,λrs d vs g k n R rr F=>?_⟩;let⟨j,s,q,r,o⟩:∃j:Int,rs=[.imm (.int j)]/\-(2^62)≤j/\j<2^62/\K ⟨ik 0 j.toNat,none⟩ d:=by
  split at k
  .exact⟨_,rfl,k⟩
  .exact k.elim
 subst s
 cases rr with
 |cons x rr=>
  cases rr;have e:=aU (show Den X.kx g _ _ from x);subst e;exact⟨j,rfl,q,r,f _ d _ g o n R F ⟨λ_=>True,yf,trivial,λ_ _ _ _=>trivial⟩⟩
def MSt.setN(m:MSt)(n:Nat):MSt:={m with np:=n}
def Src.np(s:Src)(m:MSt):Nat:=match s.own with|none=>m.np|some k=>max m.np (k+1)
def Src.ok(s:Src)(m:MSt):Prop:=match s.own with|none=>True|some k=>m.os[k]?=some s.ds
def jd(s:Src)(g:WG)(w:WS):WS:=λD m1=>∃P:Nat->MSt->Prop,P 0 (m1.setN (s.np m1))/\
 (∀(i:Nat) (d:dL) (m:MSt),s.ds[i]?=some d->m.np=s.np m1->P i m->s.ok m/\g d m λm2=>w {nx:=P (i+1),ct:=P (i+1),bk:=λf=>D.nx (f.setN m1.np),rt:=λr f=>D.rt r (f.setN m1.np)} m2)/\
 ∀m,m.np=s.np m1->P s.ds.length m->s.ok m/\D.nx (m.setN m1.np)
def wFor(d:WI)(g:WG)(w:WS):WS:=λD m=>d m λs m1=>jd s g w D m1
def Rel.setN{K:Kx}{m:MSt}(R:Rel K α m σ H)(h:n≤α.length)(d:K.eb.np≤n):Rel K α (m.setN n) σ H:=⟨R.nd,R.len,R.own,R.vlen,R.var,h,d,R.ebx⟩
theorem sy{K:Kx}{s:Src}{w:WS}(Rl:Rel K α m1 σ H)(Z:ut K α H s J)(h:jd s g w De m1)(k:EndsOk K m1.np α H De D)
  (hb:∀f t m F De' D',f.take (s.np m1)=α.take (s.np m1)->t.np=s.np m1->Rel K f t m F->w De' t->EndsOk K t.np f F De' D'->tb D' m F):qi J (tMG K g) tb D σ H:=by
 let⟨P,p0,turn,fin⟩:=h;have npk:s.np m1≤α.length:=by
  unfold Src.np;unfold ut at Z
  cases e:s.own with
  |none=>exact Rl.npl
  |some j=>
   rw[e]at Z;let⟨a,ea,_⟩:=Z;have:=(DL.mp ea).1;have:=Rl.npl;show max m1.np (j+1)≤α.length;omega
 have S:m1.np≤s.np m1:=by
  unfold Src.np;split
  .exact Ge _
  .exact ae5 _ _
 let⟨C,wk,hC⟩:∃C:Hp->Prop,Wks K J s.ds C/\∀f t m F,Rel K f t m F->Ext (s.np m1) α H f F->s.ok t->C F:=by
  unfold ut at Z
  cases e:s.own with
  |none=>
   rw[e]at Z;let⟨C,wk,c0,cm⟩:=Z;exact⟨C,wk,λf t m F _ x _=>cm H F c0 (Rl.pers x.frm)⟩
  | some j=>
   rw[e]at Z;let⟨a,ea,wk⟩:=Z;refine⟨_,wk,λf t m F U x ok=>?_⟩;have hj:j<s.np m1:=by unfold Src.np;rw[e];show j<max _ _;omega
   have ea':f[j]?=some (.L a):=by
    have:=congrArg (λl=>l[j]?) x.pre;simp only[aaT,if_pos hj]at this;rw[this];exact ea
   unfold Src.ok at ok;rw[e]at ok;exact U.own j _ s.ds ea' ok
 have back:∀{f:Al}{t:MSt}{m:St}{F:Hp},Rel K f t m F->t.np=s.np m1->Ext (s.np m1) α H f F->Rel K f (t.setN m1.np) m F:=λU n x=>U.setN (by
  have:=U.npl;rw[n]at this;exact aao ‹_› ‹_›) Rl.ebl
 refine⟨λi n m F=>n=s.ds.length-i/\i≤s.ds.length/\∃f t,P i t/\t.np=s.np m1/\Rel K f t m F/\Ext (s.np m1) α H f F,⟨s.ds.length,by simp,abv _,α,_,p0,rfl,Rl.setN npk (aao Rl.ebl S),.of Rl (Frm.refl _ _)⟩,?_⟩;intro i n m F ⟨rfl,hi,f,t,p,hn,U,x⟩
 by_cases W:i<s.ds.length
 .have hd:s.ds[i]?=some s.ds[i]:=iO W;let⟨ok,hg⟩:=turn i _ t hd hn p;have c:=hC f t m F U x ok;refine .inr ⟨wk.go i F W c,λσ2 V=>∃α2 m2,P (i+1) m2/\m2.np=s.np m1/\Rel K α2 m2 σ2 V/\Ext (s.np m1) α H α2 V,λσ2 V h2=>⟨s.ds.length-(i+1),by omega,rfl,W,h2⟩,λv V y=>?_⟩;let⟨Y,d,e1,e2⟩:=wk.yld i F v V W c y;rw[hd]at e1;cases e1;have F2:Frm f F V:=λb o z _=>Y b o z;have R2:Rel K f t m V:=U.at (U.pers F2) (λb hb=>by
   let⟨ys,z,_⟩:=U.mem hb;rw[z];exact Y b _ z) F2
  have x2:Ext (s.np m1) α H f V:=x.trans (.of R2 F2);refine⟨f,t,_,_,R2,e2,hg,λm3 σ3 q3 n3 R3=>hb f m3 σ3 V _ _ x2.pre (n3.trans hn) R3 q3 ?_⟩;have R:m3.np=s.np m1:=n3.trans hn;have x3:Ext m3.np α H f V:=by rw[R];exact x2
  refine⟨λI m4 T H4 q4 n4 R4 x4=>⟨I,m4,q4,n4.trans R,R4,?_⟩,λr I m4 T v4 H4 q4 n4 R4 rr x4=>?_,λI m4 T H4 q4 n4 R4 x4=>?_,λI m4 T H4 q4 n4 R4 x4=>⟨I,m4,q4,n4.trans R,R4,?_⟩⟩
  .rw[<-R];exact x3.trans x4
  .have x5:Ext (s.np m1) α H I H4:=by rw[<-R];exact x3.trans x4
   exact k.rt r I (m4.setN m1.np) T v4 H4 q4 rfl (back R4 (n4.trans R) x5) (rr.ext x3) (x5.less S)
  .have x5:Ext (s.np m1) α H I H4:=by rw[<-R];exact x3.trans x4
   exact k.nx I (m4.setN m1.np) T H4 q4 rfl (back R4 (n4.trans R) x5) (x5.less S)
  .rw[<-R];exact x3.trans x4
 .have e:i=s.ds.length:=by omega
  subst e;let⟨ok,q⟩:=fin t hn p;exact .inl ⟨wk.stop F (hC f t m F U x ok),k.nx f (t.setN m1.np) m F q rfl (back U hn x) (x.less S)⟩
theorem ON(z:MI X tg B wi)(p:MG X tg g)(hb:MSs X A w)(hp:afV (model X.prog X.w) X.A X.env X.xe)(v:X.calm=true:=by rfl)
  (hs:∀x,aaP B X.env x=pure x:=by intro _;rfl):MS X (.For tg B A [] pos) (wFor wi g w):=(TM hp v z p hb hs).wk<|by intro D K H ⟨o,m,P,j,i,k⟩;exact
 ⟨o,m,_,j,i,λs h J C q n R F r=>sy R r q (by rw[n];exact k.ext (.of R F)) λf h I C d S _ _ y l t=>⟨f,h,d,y,l,t⟩⟩
def zu(t:WT)(w:WS):WS:=λD f=>∃P:Nat->MSt->Prop,(∃n,P n f)/\∀n m,m.np=f.np->P n m->t m λc g=>if c=true then w {D with nx:=λm2=>∃d,d<n/\P d m2,ct:=λm2=>∃d,d<n/\P d m2,bk:=D.nx} g else D.nx g
theorem FT(Z:MT X t M)(hb:MSs X A w)(hp:afV (model X.prog X.w) X.A X.env X.xe):MS X (.While t A [] pos) (zu M w):=(GJ hp Z hb).wk<|by
 intro D σ H ⟨F,m,De,K,⟨P,⟨W,U⟩,s⟩,k⟩;refine⟨λn g i=>∃d f,P n f/\f.np=m.np/\Rel X.kx d f g i/\Ext m.np F H d i,⟨W,F,m,U,rfl,K,.of K (Frm.refl _ _)⟩,?_⟩;intro n I H1 ⟨j,m1,V,n1,S,T⟩;refine⟨j,m1,_,S,s n m1 n1 V,λbb m2 Y q n2 R2 F2=>?_⟩;have x:=T.trans (.of R2 F2);have C:m2.np=m.np:=n2.trans n1
 cases bb with
 |true=>
  refine iteT ⟨λp J=>∃h,h<n/\∃d f,P h f/\f.np=m.np/\Rel X.kx d f p J/\Ext m.np F H d J,by intro p J ⟨h,o,z⟩;exact⟨h,o,z⟩,j,m2,_,R2,q,?_⟩;rw[C];exact⟨λd f g i ⟨h,o,q⟩ l R y=>⟨h,o,d,f,q,l,R,x.trans y⟩,λr d f g v i q l R rr y=>k.rt r d f g v i q l R (rr.ext x) (x.trans y),λd f g i q l R y=>k.nx d f g i q l R (x.trans y),λd f g i ⟨h,o,q⟩ l R y=>⟨h,o,d,f,q,l,R,x.trans y⟩⟩
 |false=>
  exact iteF (k.nx j m2 I Y q C R2 x)
end
section
variable {K:Kx}{f:Al}{m:MSt}{j:St}{H:Hp}
theorem Rel.setW(R:Rel K f m j H)(ha:f[q]?=some ao)(w:Pers H H')(F:∀b,b∉ao.ads->H' b=H b)(g:OwnAt K H' ao ds'):Rel K f {m with os:=m.os.set q ds' } j H'/\Frm f H H':=by
 have s:Frm f H H':=λb o e A=>by rw[F b λz=>A (iY ha z)];exact e
 have l:∀(k:Nat) (a:Ao) u,f[k]?=some a->(m.os.set q ds')[k]?=some u->OwnAt K H' a u:=λk a u x n=>by
  by_cases c:q=k
  .subst c;rw[aaM (by rw[<-R.len];exact(DL.mp ha).1)]at n
   grind
  .rw[aaz c]at n;exact(R.own k a u x n).mono w λb hb=>F b λz=>gQ R.nd ha x c z hb
 refine⟨⟨R.nd,by simp[R.len],l,R.vlen,λi r h=>?_,R.npl,R.ebl,R.ebx.trans ⟨rfl,s,λ_ h=>.inl h,λa ha=>?_⟩⟩,s⟩
 .obtain⟨v,ev,rv⟩:=R.var i r h;refine⟨v,ev,?_⟩
  cases r with
  |imm d=>exact Den.mono w rv
  |obj k=>exact rv
  | «at» k p=>exact rv
  |new ds=>exact rv
  |newT t=>exact rv
 .obtain⟨k,ao,e1,hm⟩:=im ha;have y:k<(m.os.set q ds').length:=by rw[aba,<-R.len];exact(DL.mp e1).1
  let⟨o,q,_⟩:=(l k ao _ e1 (iO y)).mem hm;exact⟨o,q⟩
theorem Rel.setO{x:List V}(R:Rel K f m j H)(ha:f[q]?=some (.L l))(h:H l=some (.lst xs))(g:DenAll K H ds' x):Rel K f {m with os:=m.os.set q ds' } j (upd H l (.lst x))/\Frm f H (upd H l (.lst x)):=by
 have p:Pers H (upd H l (.lst x)):=uG h;exact R.setW ha p (λb hb=>ag λe=>hb (aah.mpr e)) ⟨x,ak,g.mono p⟩
end
def v3(own:List Str)(ps:List Nat)(vs:List (Option R)):List (Option R):=own.map (λ_=>none)++ps.map λi=>(vs[i]?).join
def jT(own:List Str)(ps:List Nat)(m:MSt):MSt:=⟨v3 own ps m.vs,m.os++[[]],m.os.length+1⟩
def wIfT(tt:WT)(w:WS):WS:=λD m=>tt m λb a=>if b=true then w D a else D.nx a
def wX(q:Nat)(w:WE):WS:=λD m=>w m λr a=>c8 (λd=>∃ds,a.os[q]?=some ds/\ds.length<aaf/\D.nx {a with os:=a.os.set q (ds++[d])}) r
def mL(w:WI)(own:List Str)(ps:List Nat)(g:WG)(tt:WT)(b:WE):WE:=λm K=>w m λs m1=>
 jd s g (wIfT tt (wX m1.os.length b)) {nx:=λa=>K (.new (a.os.getD m1.os.length [])) {m1 with os:=a.os.take m1.os.length},rt:=λ_ _=>False} (jT own ps m1)
def uW(c:WI)(own:List Str)(ps:List Nat)(g:WG)(tt:WT)(w:WI)(e:WG)(t:WT)(d:WE):WE:=λm K=>c m λs m1=>
 jd s g (wIfT tt λD m2=>w m2 λs2 b=>jd s2 e (wIfT t (wX m1.os.length d)) D b) {nx:=λa=>K (.new (a.os.getD m1.os.length [])) {m1 with os:=a.os.take m1.os.length},rt:=λ_ _=>False} (jT own ps m1)
def tm:WT:=λm K=>K true m
section
variable {K:Kx}
theorem zL{m:MSt}(ha:α[q]?=some (.L l))(c:Rel K α m σ H)(h:wX q we De m)(k:EndsOk K m.np α H De D):wq l (tM K we) D σ H:=by
 refine⟨α,m,_,c,h,λr j v p a n R rr F=>?_⟩;let⟨d,o,hd,ds,e,f,a⟩:=fc rr a;let⟨x,b,g⟩:=R.own q _ ds ha e;let⟨R2,i⟩:=R.setO ha b (g.append (DenAll.cons hd DenAll.nil));exact⟨x,b,by rw[<-g.length];exact f,k.nx α _ σ _ a n R2 (.of R2 (F.trans i))⟩
theorem yH{m:MSt}(d:Rel K α m σ H)(h:wIfT tt w De m)(k:EndsOk K m.np α H De D)
  (hb:∀a b,a.np=m.np->Rel K α a σ b->w De a->EndsOk K a.np α b De D->tb D σ b):tIfT (tMT K tt) tb D σ H:=by
 refine⟨α,m,_,d,h,λe a b q n R F=>?_⟩;have c:EndsOk K a.np α b De D:=by rw[n];exact k.ext (.of R F)
 cases e with
 |true=>rw[if_pos rfl]at q;exact iteT (hb a b n R q c)
 |false=>rw[if_neg aan]at q;exact iteF (c.nx α a σ b q rfl R (.of R (Frm.refl _ _)))
theorem x6{own:List Str}{ps:List Nat}{s:Src}{m:MSt}{Kc:R->MSt->Prop}(Rl:Rel K α m σ H)(n1:m1.np=m.np)(c:Rel K α m1 σ H1)(F1:Frm α H H1)(S:ut K α H1 s J)(M:H1 l=none)
  (h:jd s g w {nx:=λf=>Kc (.new (f.os.getD m1.os.length [])) {m1 with os:=f.os.take m1.os.length},rt:=λ_ _=>False} (jT own ps m1))
  (fin:∀r f v u,Kc r f->f.np=m.np->Rel K α f σ u->RelR K α H u r v->Frm α H u->Q v u)
  (hb:∀A f E u F Z,A[m1.os.length]?=some (.L l)->m1.os.length<f.np->Rel K A f E u->w F f->EndsOk K f.np A u F Z->tb Z E u) :
  qi J (tMG K g) tb {nx:=λ_ u=>Q (.ref l) u,rt:=λ_ _=>False} (il own ps σ) (upd H1 l (.lst [])):=by
 have pα:l∉ads α:=c.out M;have pe:Pers H1 (upd H1 l (.lst [])):=bo (.inl M);have B:α.length=m1.os.length:=c.len;have W:(α++[.L l])[m1.os.length]?=some (.L l):=by rw[aaS (by omega),<-B];simp
 have X:Rel K α m1 σ (upd H1 l (.lst [])):=c.lay M;let⟨Rm,extm⟩:=oy (ao:=.L l) (ds:=[]) X ⟨m1,σ,c⟩ (cx M) (by simp[Ao.ads]) (λb hb=>by cases aah.mp hb;exact M) ⟨[],ak,DenAll.nil⟩;have R0:Rel K (α++[.L l]) (jT own ps m1) (il own ps σ) (upd H1 l (.lst [])):=by
  refine⟨Rm.nd,by simp[jT,B],Rm.own,by simp[il,jT,v3],λi r z=>?_,by simp[jT,B],by have:=c.ebl;have:=c.npl;show K.eb.np≤m1.os.length+1;omega,Rm.ebx⟩;have D:(v3 own ps m1.vs)[i]?=some (some r):=z;unfold v3 at D
  by_cases hi:i<own.length
  .rw[aaH (by simpa using hi),aaa]at D
   cases q:own[i]? with
   |none=>rw[q]at D;cases D
   |some y=>rw[q]at D;cases D
  .rw[aaS (by simpa using hi),gE,aaa]at D
   cases q:ps[i-own.length]? with
   |none=>rw[q]at D;cases D
   | some p=>
    rw[q]at D;have U:(m1.vs[p]?).join=some r:=aam D;have hv:m1.vs[p]?=some (some r):=by
     cases y:m1.vs[p]? with
     |none=>rw[y]at U;cases U
     |some y'=>rw[y]at U;cases y' with
      |none=>cases U
      |some y'=>cases U;rfl
    let⟨v,ev,I⟩:=Rm.var p r hv;refine⟨v,?_,I⟩;unfold il;rw[aaS (by simpa using hi),gE,aaa,q];show some ((σ[p]?).join)=some (some v);rw[ev];rfl
 have hJ':ut K (α++[.L l]) (upd H1 l (.lst [])) s J:=by
  unfold ut at S⊢
  cases e:s.own with
  |none=>
   rw[e]at S;let⟨C,wk,c0,cm⟩:=S;exact⟨C,wk,cm _ _ c0 pe,cm⟩
  |some j=>
   rw[e]at S;let⟨a,ea,wk⟩:=S;exact⟨a,by rw[aaH (DL.mp ea).1];exact ea,wk⟩
 have V:m1.os.length<s.np (jT own ps m1):=by
  unfold Src.np;split
  .exact abI _
  .exact aak (abI _) (ae5 _ _)
 refine sy R0 hJ' h ⟨λA f E u q n N x=>?_,λ_ _ _ _ _ _ z=>z.elim,λ_ _ _ _ z=>z.elim,λ_ _ _ _ z=>z.elim⟩ λA f E u F Z hp hnp N h' k'=>hb A f E u F Z ?_ (by rw[hnp];exact V) N h' k'
 .
  have n':f.np=m1.os.length+1:=n;have x':Ext (m1.os.length+1) (α++[.L l]) (upd H1 l (.lst [])) A u:=x;have F':Frm α H1 u:=λb o e nb=>by
   have P:b≠l:=bg e M;refine x'.frm b o (by rw[ag P];exact e) λz=>?_;rw[jy]at z;rcases aa4.mp z with z|z
   .exact nb z
   .exact P (by simpa[ads,Ao.ads]using z)
  have pe':Pers H1 u:=c.pers F';have same:∀k,k<m1.os.length+1->A[k]?=(α++[.L l])[k]?:=λk T=>by
   have:=congrArg (λz=>z[k]?) x'.pre;simp only[aaT,if_pos T]at this;exact this
  have hlen':m1.os.length+1≤f.os.length:=by
   have:=N.npl;rw[n',N.len]at this;exact this
  have hq:m1.os.length<f.os.length:=by assumption
  have eq1:f.os[m1.os.length]?=some (f.os.getD m1.os.length []):=by
   rw[aas,iO hq];rfl
  let⟨xs,y1,y2⟩:=N.own m1.os.length (.L l) _ (by rw[same _ (abI _)];exact W) eq1;have G:∀(k:Nat) (a:Ao) (Y:List dL),α[k]?=some a->(f.os.take m1.os.length)[k]?=some Y->OwnAt K u a Y:=λk a Y z1 L=>by
   rw[aaT]at L;have T:k<m1.os.length:=by rw[<-B];exact(DL.mp z1).1
   rw[if_pos T]at L;exact N.own k a Y (by rw[same k (by omega),aaH (by omega)];exact z1) L
  have tl:(f.os.take m1.os.length).length=α.length:=by rw[aaG];omega
  have O:Ext K.eb.np α H1 α u:=⟨rfl,F',λ_ h=>.inl h,λa ha=>by
   let⟨k,ao,e1,hm⟩:=im ha;have T:k<(f.os.take m1.os.length).length:=by rw[tl];exact(DL.mp e1).1
   let⟨o,q,_⟩:=(G k ao _ e1 (iO T)).mem hm;exact⟨o,q⟩⟩
  refine fin _ _ (.ref l) u q n1 ⟨c.nd,tl.symm,G,c.vlen,λi r z=>?_,c.npl,c.ebl,c.ebx.trans O⟩ ?_ (F1.trans F')
  .obtain⟨v,ev,I⟩:=c.var i r z;refine⟨v,ev,?_⟩
   cases r with
   |imm d=>exact Den.mono pe' I
   |obj k=>exact I
   | «at» k p=>exact I
   |new ds=>exact I
   |newT t=>exact I
  .refine⟨l,xs,rfl,?_,y1,y2⟩
   cases z:H l with
   |none=>rfl
   |some o=>
    have:=F1 l o z pα;rw[M]at this;cases this
 .have:=congrArg (λz=>z[m1.os.length]?) hp;simp only[aaT,if_pos V]at this;rw[this];exact W
end
section
variable {X:Cx}{scope sc:Scope}{own fr:List Str}{ps:List Nat}{elt tg a j b:Expr}{ifs e:List Expr}{pos d u:Pos}{w o:WI}{g A:WG}{tt p:WT}{f:WE}
theorem uB(h:tM X.kx (mL w own ps g tt f) σ H Q):Au (tMI X.kx w) own ps (tl1 (tMG X.kx g) (tMT X.kx tt) (tM X.kx f)) σ H Q:=by
 let⟨r,m,K,i,n,c⟩:=h;refine⟨r,m,_,i,n,λs m1 J M k n1 R F v l y=>?_⟩;exact x6 i n1 R F v y k c λt I G N D O ha E C q B=>yH C q B λm2 L n2 R2 z x=>zL ha R2 z x
theorem CG(h:tM X.kx (uW w own ps g tt o A p f) σ H Q):Au (tMI X.kx w) own ps (tl2 (tMG X.kx g) (tMT X.kx tt) (tMI X.kx o) (tMG X.kx A) (tMT X.kx p) (tM X.kx f)) σ H Q:=by
 let⟨E,m,Kc,t,C,n⟩:=h;refine⟨E,m,_,t,C,λs m1 J H1 k n1 R F1 G l N=>?_⟩;refine x6 t n1 R F1 G N k n λi m' σ' H' T D' ha q R' D Y=>yH R' D Y λm2 H2 n2 R2 S K=>?_;refine⟨i,m2,_,R2,S,λs2 x J2 H3 P v y V r=>?_⟩;have O:m1.os.length<s2.np x:=by
  have:m1.os.length<x.np:=by rw[v,n2];exact q
  unfold Src.np;split
  .omega
  .exact aak this (ae5 _ _)
 refine sy y r P (by rw[v];exact K.ext (.of y V)) λI m4 M H4 F D4 c Z U L W=>yH U L W λm5 H5 n5 R5 h5 B=>zL ?_ R5 h5 B;have:=congrArg (λz=>z[m1.os.length]?) c;simp[aaT,if_pos O]at this;rw[this];exact ha
theorem GC(S:b8 own fr scope sc)(m:MI X tg a w)(r:∀cl s H C ex,MG (bc X scope cl (own++fr) s H C ex) tg g)(q:∀cl s H C ex,PTs (bc X scope cl (own++fr) s H C ex) ifs (tMT X.kx tt))
  (l:∀cl s H C ex,ME (bc X scope cl (own++fr) s H C ex) elt f) (c:X.env.scope=sc:=by rfl) (k:ps.map (λi=>X.N[i]?)=fr.map some:=by rfl) (n:X.calm=true:=by rfl) (hs:∀x,aaP a X.env x=pure x:=by intro _;rfl) :
  ME X (.ListComp elt [⟨tg,a,ifs,0⟩] scope pos) (mL w own ps g tt f):=(D8 S m r q l c k n hs).wk λ_ _ _ h=>uB h
theorem Jh:PTs X [] (tMT X.kx tm):=by intro c s i H Q I ⟨l,m,K,R,k,h⟩;exact Mi c s i H Q I (h true m H k rfl R (Frm.refl _ _))
def JH{t:WT}(h:MT X c t):PTs X [c] (tMT X.kx t):=Ki h
theorem Dw(S:b8 own fr scope sc)(G:X.N.Nodup)(K:X.N[i]?=some y)(c:X.env.scope.names.lookup y=some .local)(N:MI X tg a w)(O:∀cl s H C ex,MG (bc X scope cl (own++fr) s H C ex) tg g)(L:∀cl s H C ex,PTs (bc X scope cl (own++fr) s H C ex) ifs (tMT X.kx tt))
  (B:∀cl s H C ex,ME (bc X scope cl (own++fr) s H C ex) elt f) (t:abH (.ListComp elt [⟨tg,a,ifs,0⟩] scope pos) (some (.Name y u)) d.line X.env=pure true:=by rfl)
  (h:X.env.scope=sc:=by rfl) (l:ps.map (λi=>X.N[i]?)=fr.map some:=by rfl) (M:X.calm=true:=by rfl) (hs:∀x,aaP a X.env x=pure x:=by intro _;rfl) :
  MS X (.Assign [.Name y u] (.ListComp elt [⟨tg,a,ifs,0⟩] scope pos) d) (wSet i (mL w own ps g tt f)):=(F9 S G K c N O L B t h l M hs).wk λD E H ⟨J,m,P,z,I,k⟩=>
 uB ⟨J,m,_,z,I,λr Q v T q n R rr F=>tJ R n F rr q k.nx ⟨m,E,z⟩⟩
theorem Fg(S:b8 own fr scope sc)(U:X.N.Nodup)(K:X.N[i]?=some y)(h:X.env.scope.names.lookup y=some .local)(O:MI X tg a w)(L:∀cl s H C ex,MG (bc X scope cl (own++fr) s H C ex) tg g)(M:∀cl s H C ex,PTs (bc X scope cl (own++fr) s H C ex) ifs (tMT X.kx tt))
  (c:∀cl s H C ex,MI (bc X scope cl (own++fr) s H C ex) j b o) (E:∀cl s H C ex,MG (bc X scope cl (own++fr) s H C ex) j A) (B:∀cl s H C ex,PTs (bc X scope cl (own++fr) s H C ex) e (tMT X.kx p))
  (P:∀cl s H C ex,ME (bc X scope cl (own++fr) s H C ex) elt f) (G:abH (.ListComp elt [⟨tg,a,ifs,0⟩,⟨j,b,e,0⟩] scope pos) (some (.Name y u)) d.line X.env=pure true:=by rfl)
  (z:X.env.scope=sc:=by rfl) (t:ps.map (λi=>X.N[i]?)=fr.map some:=by rfl) (N:X.calm=true:=by rfl) (hs:∀x,aaP a X.env x=pure x:=by intro _;rfl)
  (l:∀cl C x,aaP b (agI scope cl C X.env) x=pure x:=by intro _ _ _;rfl) :
  MS X (.Assign [.Name y u] (.ListComp elt [⟨tg,a,ifs,0⟩,⟨j,b,e,0⟩] scope pos) d) (wSet i (uW w own ps g tt o A p f)):=(F8 S U K h O L M c E B P G z t N hs l).wk λD T H ⟨J,m,V,I,Q,k⟩=>
 CG ⟨J,m,_,I,Q,λr W v Y q n R rr F=>tJ R n F rr q k.nx ⟨m,T,I⟩⟩
end
def bt{i:Str}(h:Den K H (.str i) v):v = .str i:=by simpa[Den]
def jg{i:Bool}(h:Den K H (.bool i) v):v = .bl i:=by simpa[Den]
def jC(h:Den K H .none v):v = .non:=by simpa[Den]
def e8(i:Int):RelR K α Hb H (.imm (.int i)) (.int i):=rfl
def jV(i:Bool):RelR K α Hb H (.imm (.bool i)) (.bl i):=rfl
def ya(i:Str):RelR K α Hb H (.imm (.str i)) (.str i):=rfl
def qZ:RelR K α Hb H (.imm .none) .non:=rfl
def lR{d:dL}(h:Den K H d v):RelR K α Hb H (.imm d) v:=h
def bz(h:Den K H (.tuple ds) v):∃a xs,v = .ref a/\SqT K H a xs/\DenAll K H ds xs:=by simpa only[Den]
def df(f:SqT K H a xs)(g:DenAll K H ds xs):Den K H (.tuple ds) (.ref a):=by  exact⟨a,xs,rfl,f,g⟩
section
variable {X:Cx}
def oAdd:WO
 | .imm (.int i),.imm (.int j),_,K=>K (.imm (.int (i+j)))
 | .imm (.str x),.imm (.str y),_,K=>x.length+y.length≤aaf/\K (.imm (.str (x++y)))
 | .imm (.tuple a),.imm (.tuple b),_,K=>a.length+b.length≤aaf/\K (.imm (.tuple (a++b)))
 |r1,r2,m,K=>∃c d,lsOf m r1=some c/\lsOf m r2=some d/\c.length+d.length≤aaf/\K (.new (c++d))
theorem aY:OpR X (acp .Add) (rM X.kx oAdd):=by
 intro g s A H x y v u Q I L F ⟨α,m,σ,H0,H1,r1,r2,Kc,R,M,J,ho,f⟩;unfold oAdd at ho
 split at ho
 .rename_i _ _ i j;have E:=aU (show Den X.kx H (.int i) x from M);have N:=aU (show Den X.kx H (.int j) y from J);subst E N;exact RJ g s A H _ _ v u Q I L F ⟨i,j,rfl,rfl,f _ _ H ho R (e8 _) (Frm.refl _ _)⟩
 .rename_i _ _ i j;have E:=bt (show Den X.kx H (.str i) x from M);have N:=bt (show Den X.kx H (.str j) y from J);subst E N;exact w9 g s A H _ _ v u Q I L F ⟨i,j,rfl,rfl,ho.1,f _ _ H ho.2 R (ya _) (Frm.refl _ _)⟩
 .rename_i _ _ ds es;let⟨a,G,rfl,T,B⟩:=bz (show Den X.kx H (.tuple ds) x from M);let⟨b,P,rfl,S,C⟩:=bz (show Den X.kx H (.tuple es) y from J);let⟨V,ho⟩:=ho
  by_cases hx:G=[]
  .subst hx
   cases L;cases F
   let⟨o,r,p1,_⟩:=I.tuple T;let⟨c,t,p2,_⟩:=I.tuple S;cases r;let⟨⟨cls,W,D,Y⟩,d,K,n,hd⟩:=id p1;let⟨⟨O,w,z,q⟩,h,l,n2,k⟩:=id p2;simp only at K hd l k;subst K hd l k;have U:ds=[]:=by cases ds with|nil=>rfl|cons _ _=>have:=B.length;simp at this
   subst U;exact age ⟨_,d,rfl⟩ ⟨_,h,rfl⟩ afY aha aen aef (adV _ _)
    (tuple_addW0 a b _ c.toArray n n2 W w Y q (by simp)) ⟨d,h,⟨.ref b,H,I,rfl,f _ _ H ho R (show Den X.kx H (.tuple ([]++es)) (.ref b)from J) (Frm.refl _ _)⟩⟩
  .refine Og g s A H _ _ v u Q I L F ⟨a,b,G,P,rfl,rfl,T,S,hx,by rw[<-B.length,<-C.length];exact V,λe=>?_,λe p hp=>?_⟩
   .subst e;have U:es=[]:=by cases es with|nil=>rfl|cons _ _=>have:=C.length;simp at this
    subst U;exact f _ _ H (by rw[aaO]at ho;exact ho) R (lR M) (Frm.refl _ _)
   .exact f _ _ _ ho (R.lay hp) (lR<|df (SqT.of ak) ((B.append C).mono (bo (.inl hp)))) (cx hp)
 .obtain⟨ds,es,E,N,V,ho⟩:=ho;let⟨a,G,rfl,T,B⟩:=M.list R E;let⟨b,P,rfl,S,C⟩:=J.list R N
  cases L;cases F
  let⟨o,r,⟨⟨cls,W,D,Y⟩,n,d,K,hdd,hd⟩,_⟩:=I.list T;let⟨c,t,⟨⟨O,w,z,q⟩,n2,h,l,Z,k⟩,_⟩:=I.list S;simp only at K hd l k;subst K hd l k;have hzz:G.length+P.length≤aaf:=by rw[<-B.length,<-C.length];exact V
  refine age ⟨_,d,rfl⟩ ⟨_,h,rfl⟩ noFill_list_add seq_list_add PySem.F.slot_list_add PySem.F.entry_list_add (PySem.F.args_list_add_2 _ _) (list_addW a b o.toArray c.toArray n n2 W w Y q (by have:=r.length;have:=t.length;simp only[aay];omega)) ⟨d,h,?_⟩;have ea:o.toArray++c.toArray=(o++c).toArray:=by simp
  rw[ea];have hp:H s.heap.objs.size=none:=I.fresh;exact⟨.ref _,_,I.lnew (t':=s.toks) (r.append t) (by rw[aat];omega),rfl,f _ _ _ ho (R.lay hp) ⟨_,G++P,rfl,hp,ak,(B.append C).mono (bo (.inl hp))⟩ (cx hp)⟩
def oII(C:Int->Int->Prop)(g:Int->Int->Int):WO
 | .imm (.int i),.imm (.int j),_,K=>C i j/\K (.imm (.int (g i j)))
 |_,_,_,_=>False
def oIB(g:Int->Int->Bool):WO
 | .imm (.int i),.imm (.int j),_,K=>K (.imm (.bool (g i j)))
 |_,_,_,_=>False
theorem qB{f:oR->oR->Sem oR}{C:Int->Int->Prop}{g:Int->Int->Int}(h:OpR X f (rI C λi j=>.int (g i j))):OpR X f (rM X.kx (oII C g)):=by
 intro p s b H x y v u Q I d r ⟨n,m,q,t,w,r1,o,K,R,k,c,ho,a⟩;unfold oII at ho
 split at ho
 .rename_i _ _ i j;have e:=aU (show Den X.kx H _ x from k);have l:=aU (show Den X.kx H _ y from c);subst e l;exact h p s b H _ _ v u Q I d r ⟨i,j,rfl,rfl,ho.1,a _ _ H ho.2 R (e8 _) (Frm.refl _ _)⟩
 .simp_all
theorem BI{f:oR->oR->Sem oR}{g:Int->Int->Bool}(h:OpR X f (rI0 λi j=>.bl (g i j))):OpR X f (rM X.kx (oIB g)):=by
 intro p s b H x y v u Q I d r ⟨n,m,q,t,w,r1,o,K,R,k,c,ho,a⟩;unfold oIB at ho
 split at ho
 .rename_i _ _ i j;have e:=aU (show Den X.kx H _ x from k);have l:=aU (show Den X.kx H _ y from c);subst e l;exact h p s b H _ _ v u Q I d r ⟨i,j,rfl,rfl,a _ _ H ho R (jV _) (Frm.refl _ _)⟩
 .simp_all
def oSub:WO:=oII (λ_ _=>True) λi j=>i-j
theorem AV:OpR X (acp .Sub) (rM X.kx oSub):=qB (opI λ_ _ _ _ _ _ _ _ q=>sub_int q)
def oMul:WO:=oII afW λi j=>i*j
theorem ML:OpR X (acp .Mult) (rM X.kx oMul):=qB (opI λ_ _ _ _ _ _ _ h q=>mul_int q h)
def CFd(_ j:Int):Prop:=0<j/\j.natAbs.log2<9000
def TF:WO:=oII CFd λi j=>i/j
theorem dm:OpR X (acp .FloorDiv) (rM X.kx TF):=qB (opI λi j _ _ _ _ _ h q=>floordiv_int (by have:=h.1;omega) (by rw[Int.fdiv_eq_ediv_of_nonneg _ (by have:=h.1;omega)];exact q) (.inl (PyProof.noPylong_of_log2 h.2)))
def oMod:WO:=oII (λ_ j=>0<j) λi j=>i%j
def dh:OpR X (acp .Mod) (rM X.kx oMod):=qB Ql
def oPow:WO:=oII CPow λi j=>i^j.toNat
def Ls:OpR X (acp .Pow) (rM X.kx oPow):=qB QK
def oLt:WO:=oIB λi j=>decide (i<j)
def oGt:WO:=oIB λi j=>decide (j<i)
def oGe:WO:=oIB λi j=>decide (j≤i)
def gj:OpR X (abp .Lt) (rM X.kx oLt):=BI VC
def i5:OpR X (abp .Gt) (rM X.kx oGt):=BI Wj
def Sj:OpR X (abp .GtE) (rM X.kx oGe):=BI U7
def eqD(f:Bool->Bool):WO:=λr1 r m K=>match asD m r1,asD m r with
 |some d1,some d2=>aeo d1=true/\aeo d2=true/\K (.imm (.bool (f (aar d1 d2))))
 |_,_=>False
def eqS(f:Bool->Bool):WO:=λr1 r m K=>∃x y:Str,r1 = .imm (.str x)/\r = .imm (.str y)/\K (.imm (.bool (f (decide (x=y)))))
def eqSs(f:Bool->Bool):WO:=λr1 r m K=>∃x y:List Str,lsOf m r1=some (x.map .str)/\lsOf m r=some (y.map .str)/\x.length=y.length/\K (.imm (.bool (f (decide (x=y)))))
def oEq:WO:=λr1 r m K=>eqD id r1 r m K\/eqS id r1 r m K\/eqSs id r1 r m K
def oNe:WO:=λr1 r m K=>eqD (!·) r1 r m K\/eqS (!·) r1 r m K
theorem ix{K:Kd}{H:Hp}:∀{ns:List Str}{xs:List V},DenAll K H (ns.map .str) xs->xs=ns.map V.str
 |[],_,h=>by simpa only[ DenAll]
 |n::ns,_,h=>by
  let⟨v,vs,rfl,b,a⟩:=h;have e:=bt b;rw[e,ix a];rfl
theorem pj:∀{ns:List Str}{a:List oR}{j:Nat}{u:oR},Vals (ns.map V.str) a->a[j]?=some u->∃x t,ns[j]?=some x/\u = .str x t
 |[],_,_,_,.nil,e=>by simp at e
 |n::ns,_,0,_,.cons r _,e=>by
  simp at e;subst e;let⟨t,h⟩:=r;exact⟨n,t,rfl,h⟩
 |n::ns,_,j+1,u,.cons _ t,e=>by
  let⟨x,tk,c,b⟩:=pj t ‹_›;exact⟨x,tk,by simpa using c,b⟩
theorem ui(xs ys:List Str)(h:xs.length=ys.length):(aaB xs.length).all (λj=>decide (xs.getD j ahN=ys.getD j ahN))=decide (xs=ys):=by
 rw[ab6,abV,decide_eq_true_eq];constructor
 .intro q;apply ahO h;intro i b a;have:=q i (by simpa);rw[decide_eq_true_eq,aas,aas,iO b,iO a]at this;exact this
 .rintro rfl j _;exact decide_eq_true rfl
theorem Jw{s:Ad}{x y:V}{v u:oR}{m:MSt}{r1 h:R}{xs ys:List Str}(I:Inv X pins σ' H s)(g:Rel X.kx α m σ H)(O:RelR X.kx α H0 H r1 x)(M:RelR X.kx α H1 H h y)(N:RelV x v)(n:RelV y u)
  (E:lsOf m r1=some (xs.map .str)) (P:lsOf m h=some (ys.map .str)) (K:xs.length=ys.length) (Y:X.A.units+64<cLine):∃l b c i,v = .ref l/\u = .ref b/\s.heap.IsList l c/\s.heap.IsList b i/\c.size=xs.length/\i.size=xs.length/\
   ∀j (z:j<c.size) (J:j<i.size),agb X.A.in1 s c[j] i[j] (decide (xs.getD j ahN=ys.getD j ahN)):=by
 let⟨a,W,rfl,S,w⟩:=O.list g E;let⟨b,U,rfl,p,B⟩:=M.list g P;have T:=ix w;have q:=ix B;subst T q
 cases N;cases n
 let⟨c,r,D,_⟩:=I.list S;let⟨i,d,F,_⟩:=I.list p;have f:=r.length;have k:=d.length;rw[gE]at f k;refine⟨a,b,c.toArray,i.toArray,rfl,rfl,D.isList,F.isList,by simp[f],by simp[<-k,K],λj z J=>?_⟩;let⟨x,t,G,o⟩:=pj r (j:=j) (u:=c.toArray[j]) (by simp);let⟨y,L,Q,C⟩:=pj d (j:=j) (u:=i.toArray[j]) (by simp);rw[o,C,aas,aas,G,Q];have:=agb.str_str (A:=X.A.in1) (s:=s) x t y L;have e:(x==y)=decide (x=y):=by rw[aez]
 simp_all
theorem bW(j:X.A.units+64<cLine):OpR X (abp .Eq) (rM X.kx oEq):=by
 intro p s d H x y v u Q I c r ⟨A,m,C,D,E,r1,B,K,R,g,h,ho,f⟩;rcases ho with ho|⟨z,t,rfl,rfl,ho⟩|⟨n,k,e,a,i,ho⟩
 .unfold eqD at ho
  split at ho
  .rename_i d1 d2 e a;let⟨w,o⟩:=g.reads I R c e (abe _ (ado ho.1));let⟨bs,q⟩:=h.reads I R r a (abe _ (ado ho.2.1));exact eq_dataH o q ho.1 ho.2.1 j ⟨.bl _,H,I,rfl,f _ _ H ho.2.2 R (jV _) (Frm.refl _ _)⟩
  .exact ho.elim
 .have e:=bt (show Den X.kx H (.str z) x from g);have a:=bt (show Den X.kx H (.str t) y from h);subst e a;refine UU p s d H _ _ v u Q I c r ⟨rfl,?_⟩;rw[ph];exact f _ _ H ho R (jV _) (Frm.refl _ _)
 .obtain⟨l,b,its,its2,rfl,rfl,p1,p2,s1,s2,he⟩:=Jw I R g h c r e a i j;refine SeqAt.eq_listAt p1 p2 (s1.trans s2.symm) (by omega) he ?_;rw[s1,ui n k i];exact⟨.bl _,H,I,rfl,f _ _ H ho R (jV _) (Frm.refl _ _)⟩
theorem vP(d:X.A.units+64<cLine):OpR X (abp .NotEq) (rM X.kx oNe):=by
 intro p s a H x y v u Q I b r ⟨j,m,l,n,o,r1,k,K,R,c,h,ho,f⟩;rcases ho with ho|⟨z,t,rfl,rfl,ho⟩
 .unfold eqD at ho
  split at ho
  .rename_i d1 d2 e1 e;let⟨i,g⟩:=c.reads I R b e1 (abe _ (ado ho.1));let⟨bs,q⟩:=h.reads I R r e (abe _ (ado ho.2.1));exact ne_dataH g q ho.1 ho.2.1 d ⟨.bl _,H,I,rfl,f _ _ H ho.2.2 R (jV _) (Frm.refl _ _)⟩
  .simp_all
 .have e1:=bt (show Den X.kx H (.str z) x from c);have e:=bt (show Den X.kx H _ y from h);subst e1 e;refine Vn p s a H _ _ v u Q I b r ⟨rfl,?_⟩;rw[ph];exact f _ _ H ho R (jV _) (Frm.refl _ _)
def yu:R->Bool
 | .imm .none=>true
 |_=>false
def y3:WO:=λr1 r _ K=>r = .imm .none/\K (.imm (.bool (!yu r1)))
theorem w6(h:RelR K α Hb H r v):decide (v = .non)=yu r:=by
 cases r with
 |obj k=>let⟨a,_,rfl⟩:=h;rfl
 |new ds=>let⟨a,_,rfl,_⟩:=h;rfl
 | «at» k p=>let⟨f,a,_,_,rfl⟩:=h;rfl
 |newT t=>let⟨f,a,rfl,_⟩:=h;rfl
 |imm d=>
  cases d with
  |none=>have e:=jC (show Den K H .none v from h);subst e;rfl
  |bool b=>have e:=jg (show Den K H _ v from h);subst e;rfl
  |int b=>have e:=aU (show Den K H _ v from h);subst e;rfl
  |str b=>have e:=bt (show Den K H _ v from h);subst e;rfl
  |list ds=>have c:=h;let⟨a,_,rfl,_⟩:=c;rfl
  |tuple ds=>let⟨a,_,rfl,_⟩:=bz (h);rfl
  |dict g=>have c:=h;let⟨a,rfl,_⟩:=c;rfl
theorem v5:OpR X (abp .IsNot) (rM X.kx y3):=by
 intro p s a H x y v u Q I c r ⟨g,m,j,k,l,r1,i,K,R,d,h,ho,f⟩;let⟨e,ho⟩:=ho;subst e;have b:=jC (show Den X.kx H .none y from h);exact Ku p s a H _ _ v u Q I c r ⟨b,by rw[w6 d];exact f _ _ H ho R (jV _) (Frm.refl _ _)⟩
def uNeg:WU
 | .imm (.int i),_,K=>K (.imm (.int (-i)))
 |_,_,_=>False
theorem iA:UnR X (unaryOp .USub) (uM X.kx uNeg):=by
 intro p s a H x v Q I r ⟨b,m,c,d,r1,K,R,h,ho,f⟩;unfold uNeg at ho
 split at ho
 .rename_i _ i;have e:=aU (show Den X.kx H _ x from h);subst e;exact Uq p s a H _ v Q I r ⟨i,rfl,f _ _ H ho R (e8 _) (Frm.refl _ _)⟩
 .simp_all
def Am(m:MSt)(K:R->Prop):R->R->Prop
 | .imm (.tuple ds),.imm (.int i)=>∃d,atI ds i=some d/\K (.imm d)
 | .imm (.str x),.imm (.int i)=>∃c,x.length≤aaf/\atI x.cps.toList i=some c/\K (.imm (.str ⟨#[c]⟩))
 |r,.imm (.int i)=>∃ds d,lsOf m r=some ds/\atI ds i=some d/\K (.imm d)
 |_,_=>False
def qp:WO:=λr1 r m K=>Am m K r1 r
theorem zF{K:Kx}{i:Int}{d:dL}(g:DenAll K H ds xs)(e:atI ds i=some d):∃v,atI xs i=some v/\Den K H d v:=by
 unfold atI at e⊢;rw[<-g.length]
 cases q:ixN ds.length i with
 |none=>rw[q]at e;cases e
 |some j=>
  rw[q]at e;let⟨v,a,h⟩:=g.get (e);exact⟨v,a,h⟩
theorem LS:IxR X (rM X.kx qp):=by
 intro h b p s o H x y v u Q I D r ⟨M,m,N,O,P,r1,G,K,R,E,B,ho,n⟩ l;have j:Am m K r1 G:=ho;unfold Am at j
 split at j
 .rename_i ds i;let⟨d,e,k⟩:=j;let⟨a,A,rfl,f,g⟩:=bz (E);have q:=aU (show Den X.kx H (.int i) y from B);let⟨z,C,t⟩:=zF g e;exact Uu h b p s o H _ _ v u Q I D r ⟨a,A,i,z,rfl,q,f,C,n _ _ H k R (lR t) (Frm.refl _ _)⟩ l
 .rename_i w i;let⟨c,J,e,k⟩:=j;have F:=bt (show Den X.kx H (.str w) x from E);have q:=aU (show Den X.kx H (.int i) y from B);exact Pk h b p s o H _ _ v u Q I D r ⟨w,i,c,F,q,J,e,n _ _ H k R (ya _) (Frm.refl _ _)⟩ l
 .rename_i i _ _;let⟨ds,d,L,e,k⟩:=j;let⟨a,A,rfl,f,g⟩:=E.list R L;have q:=aU (show Den X.kx H (.int i) y from B);let⟨z,C,t⟩:=zF g e;exact JZ h b p s o H _ _ v u Q I D r ⟨a,A,i,z,rfl,q,f,C,n _ _ H k R (lR t) (Frm.refl _ _)⟩ l
 .exact j.elim
theorem UQ{a b:Expr}{c w:WE}(ha:ME X a c)(hb:ME X b w)(hs:uq b:=by intro _ _;rfl):ME X (.Subscript a b pos) (wBin qp c w):=(UM LS ha hb hs).wk λ_ _ _ h=>vc h
end
def qh(P:Int->Prop):R->Prop
 | .imm (.int i)=>P i
 |_=>False
def sk(P:Nat->Prop):R->Prop
 | .obj k=>P k
 |_=>False
def on1(P:R->Prop):List R->Prop
 |[r]=>P r
 |_=>False
section
variable {K:Kx}{b:Al}{c H:Hp}{r:R}{v:V}
theorem BQ{P:Int->Prop}(rr:RelR K b c H r v)(h:qh P r):∃i,r = .imm (.int i)/\v = .int i/\P i:=by
 unfold qh at h
 split at h
 .exact⟨_,rfl,aU (K:=K) (H:=H) rr,h⟩
 .simp_all
theorem uX{P:Nat->Prop}(rr:RelR K b c H r v)(h:sk P r):∃k a,r = .obj k/\b[k]?=some (.L a)/\v = .ref a/\P k:=by
 unfold sk at h
 split at h
 .obtain⟨a,e1,e2⟩:=rr;exact⟨_,a,rfl,e1,e2,h⟩
 .simp_all
theorem fg{P:R->Prop}{rs:List R}(rr:RelRs K b c H rs xs)(h:on1 P rs):∃r v,rs=[r]/\xs=[v]/\RelR K b c H r v/\P r:=by
 cases rr with
 |nil=>exact h.elim
 |cons a t=>
  cases t with
  |nil=>exact⟨_,_,rfl,rfl,a,h⟩
  |cons _ _=>exact h.elim
end
section
variable {X:Cx}{o a b c e:Expr}{es:List Expr}{A J L M B G:WE}{E:WA}{pos C y:Pos}
abbrev WM:=R->List R->MSt->(R->MSt->Prop)->Prop
def mM(K:Kx)(ob:WM):V->List V->Hp->VK->Prop:=λx j H Q=>∃d m h k l r rs i,Rel K d m h H/\RelR K d k H r x/\RelRs K d l H rs j/\ob r rs m i/\∀r g v f,i r g->g.np=m.np->Rel K d g h f->RelR K d H f r v->Frm d H f->Q v f
def wML(ob:WM)(A:WE)(E:WA):WE:=λm K=>A m λr m1=>(∃ds,lsOf m1 r=some ds)/\E m1 λrs m2=>ob r rs m2 K
theorem UL{ob:WM}(h:tM X.kx (wML ob A E) σ H Q):tBM X.K "list" (mM X.kx ob) (tM X.kx A) (tMA X.kx E) σ H Q:=by
 let⟨i,m,K,t,w,l⟩:=h;refine⟨i,m,_,t,w,λr m1 v N k n1 R rr u=>?_⟩;let⟨⟨ds,I⟩,k⟩:=k;let⟨a,D,rfl,f,g⟩:=rr.list R I;refine⟨.inl ⟨rfl,D,f⟩,i,m1,_,R,k,λrs m2 vs P z n2 d j s=>?_⟩;exact⟨i,m2,σ,H,N,r,rs,K,d,rr.keep t R s,j,z,λr x v O k n p q F=>l r x v O k (n.trans (n2.trans n1)) p (q.base d (u.trans s)) ((u.trans s).trans F)⟩
theorem Vh{name:Str}{id:String}{ob:WM}(slot:Slot "list" name id)(j:agi (.builtin id)=pure (.type "method_descriptor"))(k:MtM X id (mM X.kx ob))(ho:ME X o A)(ha:MA X (e::es) E)
  (g:aa5 o name X.env (eval o X.env)=eval o X.env:=by rfl)
  (i:((abw y (OR (e::es) X.env)).all (λx=>!x.1)&&(afk y (adD [] X.env)).all (λx=>x.1.isSome)
   && decide ((e::es).length+([]:List adm).length+(if ([]:List adm).isEmpty then 0 else 1)<30))=true:=by rfl)
  (f:(C.endLine==y.line)=true:=by rfl) (hs:OR (e::es) X.env=(false,eval e X.env)::OR es X.env:=by first|exact aV rfl|rfl) (d:(abw y (OR es X.env)).any (·.1)=false:=by rfl) :
  ME X (.Call (.Attribute o name C) (e::es) [] y) (wML ob A E):=(P6 afZ slot j k ho ha g i f hs d).wk λ_ _ _ h=>UL h
def yz:WM:=λr rs m K=>sk (λk=>on1 (c8 λd=>∃ds,m.os[k]?=some ds/\ds.length<aaf/\K (.imm .none) {m with os:=m.os.set k (ds++[d])}) rs) r
theorem cW:MtM X "list.append" (mM X.kx yz):=by
 intro p s i H x P v u Q I z w ⟨K,m,S,U,V,r,rs,O,R,D,h,ho,f⟩;let⟨k,a,rfl,j,rfl,ho⟩:=uX D ho;let⟨N,T,rfl,rfl,h,ho⟩:=fg h ho;let⟨d,rfl,hd,ds,n,t,ho⟩:=fc h ho;let⟨l,q,g⟩:=R.own _ _ ds j n;let⟨R2,F⟩:=R.setO j q (g.append (DenAll.cons hd DenAll.nil));exact qx p s i H _ _ v u Q I z w ⟨a,l,_,rfl,rfl,q,by rw[<-g.length];exact t,f _ _ _ _ ho rfl R2 qZ F⟩
def Kg(B A G:WE):WS:=λD m=>B m λg m1=>c8 (λd=>A m1 λh m2=>G m2 λr f=>sk (λk=>qh (λz=>∃ds j,f.os[k]?=some ds/\ixN ds.length z=some j/\D.nx {f with os:=f.os.set k (ds.set j d)}) r) h) g
theorem JQ{b i:Expr}(P:ME X e B)(ho:ME X b A)(Z:ME X i G)(hs:ac9 [.Subscript b i pos'] e pos.line X.env=pure false:=by rfl)(u:ada [.Subscript b i pos'] e X.env=pure none:=by rfl)
  (h1:(abE [.Subscript b i pos'] X.env).map (·.2)=[ad8 (.Subscript b i pos') X.env]:=by rfl) (ha:∀v,ad8 (.Subscript b i pos') X.env v=(do
   let f <- ady [v] (eval b X.env)
   let t <- ady [v,f] (eval i X.env)
   adx pos'
   ady [v,f,t] (ahs f t v)
   release [v,f,t] []):=by intro _;rfl):MS X (.Assign [.Subscript b i pos'] e pos) (Kg B A G):=(II P (QJ ho Z Dj ha) hs u h1).wk<|by
 intro D Y H ⟨s,m,De,S,u,k⟩;refine⟨s,m,_,S,u,λr m1 v H1 q n1 n rr F1=>?_⟩;let⟨d,er,hd,q⟩:=fc rr q;refine⟨s,m1,_,n,q,λro m2 f H2 W n2 h w O=>⟨s,m2,_,h,W,λri m3 t H3 l V R F K=>?_⟩⟩;let⟨kk,p,rfl,N,rfl,l⟩:=uX w l;let⟨z,rfl,rfl,ds,j,U,e2,l⟩:=BQ F l;let⟨T,q,g⟩:=R.own _ _ ds N U;have x:=(hd.mono (n.pers O)).mono (h.pers K);let⟨I,Q⟩:=R.setO N q (g.set x j);exact⟨p,T,z,j,rfl,rfl,q,by rw[<-g.length];exact e2,k.nx s _ Y _ l (V.trans (n2.trans n1)) I (.of I (((F1.trans O).trans K).trans Q))⟩
def lenR(m:MSt)(K:R->Prop):R->Prop
 | .imm (.str x)=>x.length≤aaf/\K (.imm (.int x.length))
 | .imm (.tuple ds)=>K (.imm (.int ds.length))
 |r=>∃ds,lsOf m r=some ds/\K (.imm (.int ds.length))
def oLen:WC:=λrs m K=>on1 (lenR m K) rs
theorem aW:c7 X (.builtin "len") (cM X.kx oLen):=by
 intro p s i H q u Q I k ⟨n,m,t,w,rs,K,R,h,ho,d⟩;let⟨r,v,rfl,rfl,l,ho⟩:=fg h ho;unfold lenR at ho
 split at ho
 .rename_i x _;have e:=bt (show Den X.kx H _ _ from l);subst e;exact rj p s i H _ u Q I k ⟨x,rfl,ho.1,d _ _ H ho.2 R (e8 _) (Frm.refl _ _)⟩
 .obtain⟨a,j,rfl,f,g⟩:=bz (l);exact jP p s i H _ u Q I k ⟨a,j,rfl,.inr f,by rw[<-g.length];exact d _ _ H ho R (e8 _) (Frm.refl _ _)⟩
 .obtain⟨ds,el,ho⟩:=ho;let⟨a,j,rfl,f,g⟩:=l.list R el;exact jP p s i H _ u Q I k ⟨a,j,rfl,.inl f,by rw[<-g.length];exact d _ _ H ho R (e8 _) (Frm.refl _ _)⟩
def oAbs:WC:=λrs m K=>on1 (qh λi=>K (.imm (.int (if i<0 then -i else i)))) rs
theorem rf:c7 X (.builtin "abs") (cM X.kx oAbs):=by
 intro p s d H x u Q I g ⟨k,m,l,n,rs,K,R,h,ho,f⟩;let⟨r,v,rfl,rfl,j,ho⟩:=fg h ho;let⟨i,rfl,rfl,ho⟩:=BQ j ho;exact Fu p s d H _ u Q I g ⟨i,rfl,f _ _ H ho R (e8 _) (Frm.refl _ _)⟩
def intR(K:R->Prop):R->Prop
 | .imm (.int i)=>K (.imm (.int i))
 | .imm (.bool b)=>K (.imm (.int (if b then 1 else 0)))
 |_=>False
def oInt:WC:=λrs m K=>on1 (intR K) rs
theorem qC:c7 X (.type "int") (cM X.kx oInt):=by
 intro p s d H x u Q I g ⟨k,m,l,n,rs,K,R,h,ho,f⟩;let⟨r,v,rfl,rfl,j,ho⟩:=fg h ho;unfold intR at ho
 split at ho
 .rename_i i _;have e:=aU (show Den X.kx H _ _ from j);subst e;exact q9 p s d H _ u Q I g (.inl ⟨i,rfl,f _ _ H ho R (e8 _) (Frm.refl _ _)⟩)
 .rename_i i _;have e:=jg (show Den X.kx H _ _ from j);subst e;exact q9 p s d H _ u Q I g (.inr ⟨i,rfl,f _ _ H ho R (e8 _) (Frm.refl _ _)⟩)
 .simp_all
def sqOf(m:MSt):R->Option (List dL)
 | .imm (.tuple ds)=>some ds
 |r=>lsOf m r
theorem RelR.seq{K:Kx}{m:MSt}(R:Rel K α m σ H)(h:RelR K α H0 H r v)(e:sqOf m r=some ds):∃a xs,v = .ref a/\(SqL K H a xs\/SqT K H a xs)/\DenAll K H ds xs:=by
 unfold sqOf at e
 split at e
 .cases e;let⟨a,d,e,f,g⟩:=bz (h);exact⟨a,d,e,.inr f,g⟩
 .obtain⟨a,d,e,f,g⟩:=h.list R e;exact⟨a,d,e,.inl f,g⟩
def Ij:WC:=λrs m K=>on1 (λr=>∃ds,sqOf m r=some ds/\K (.imm (.tuple ds))) rs
theorem f9:c7 X (.type "tuple") (cM X.kx Ij):=by
 intro p s j H x u Q I n ⟨t,m,w,z,rs,K,R,h,ho,d⟩;let⟨r,v,rfl,rfl,q,ho⟩:=fg h ho
 .obtain⟨ds,e,ho⟩:=ho;let⟨a,k,rfl,f,g⟩:=q.seq R e;refine nh p s j H _ u Q I n ⟨a,k,rfl,?_⟩;rcases f with f|f
  .exact .inl ⟨f,λl i=>d _ _ _ ho (R.lay i) (lR (df (SqT.of ak) (g.mono (bo (.inl i))))) (cx i)⟩
  .exact .inr ⟨f,d _ _ _ ho R (lR (df f g)) (Frm.refl _ _)⟩
def J3:WC:=λrs m K=>on1 (λr=>∃d,asD m r=some d/\d.showable=true/\d.hasDict=false/\d.shown.length≤aaf/\d.depth≤100/\K (.imm (.str d.shown))) rs
theorem ig(N:X.A.guards=some [])(hu:X.A.units+200<cLine):c7 X (.builtin "repr") (cM X.kx J3):=by
 intro p s K H Z W Q I P ⟨U,m,σ,H0,rs,Y,R,h,ho,F⟩;let⟨r,v,rfl,rfl,S,ho⟩:=fg h ho
 .obtain⟨d,e,hs,hnd,hz,hdp,ho⟩:=ho;let⟨u,rfl,O⟩:=P.one;let⟨T,q⟩:=S.reads I R O e hnd;have done:∀tk g f,_->EP X p K Q (.str d.shown g) {s with heap:=f,toks:=tk}:=λtk g f j=>⟨.str d.shown,H,I.kept (t':=tk) j,⟨_,rfl⟩,F _ _ H ho R (ya _) (Frm.refl _ _)⟩
  cases q with
  |none=>exact PySem.P.repr_of_none (done _ _ _ λ_ _ z=>z)
  |bool b=>
   have:=done (s.toks+1) s.toks s.heap λ_ _ z=>z;simp only[agk]at this;exact PySem.P.repr_of_bool (by cases b<;>exact this)
  |int i t=>
   refine PySem.P.repr_of_int (by simpa[dL.showable]using hs) ?_;have:=done (s.toks+1) s.toks s.heap λ_ _ z=>z;simp only[agk]at this;exact this
  |str x t=>
   have D:=by simpa only[agk]using hz
   refine PySem.P.repr_of_str ?_ D;have:=done (s.toks+1) s.toks s.heap λ_ _ z=>z;simp only[agk]at this;exact this
  |list l k n w=>exact repr_of_reads' (.list l k n w) hs (ahx hnd) N (by omega) (λ_ _ z=>z) (λf u tk j=>done tk u f j) hz
  |tuple l k n w=>exact repr_of_reads' (.tuple l k n w) hs (ahx hnd) N (by omega) (λ_ _ z=>z) (λf u tk j=>done tk u f j) hz
  |dict l k n w V=>simp[acR]at hnd
def sM(K:Kx)(o:R->Option Int->Option Int->MSt->(R->Prop)->Prop):V->Option Int->Option Int->Hp->VK->Prop:=λx l i H Q=>∃d m g j r h,Rel K d m g H/\RelR K d j H r x/\o r l i m h/\∀r v f,h r->Rel K d m g f->RelR K d H f r v->Frm d H f->Q v f
def cutD(xs:List dL)(lo h:Option Int):List dL:=(xs.drop (HT.sIx xs.length 0 lo)).take (HT.sIx xs.length xs.length h-HT.sIx xs.length 0 lo)
def xU(g:DenAll K H ds xs)(lo h:Option Int):DenAll K H (cutD ds lo h) (cutV xs lo h):=by
 unfold cutD cutV;rw[<-g.length];exact(g.drop _).take _
def U6:R->Option Int->Option Int->MSt->(R->Prop)->Prop:=λr l h m K=>∃ds,lsOf m r=some ds/\K (.new (cutD ds l h))
theorem FG:SlR X (sM X.kx U6):=by
 intro d s j H x v vl t l n F Q I z hs D u w;let⟨K,m,O,P,r,N,R,h,⟨ds,e,k⟩,i⟩:=w;let⟨a,q,rfl,f,g⟩:=h.list R e;exact N6 d s j H _ v vl t l n F Q I z hs D u ⟨a,q,rfl,f,λp hp=>i _ _ _ k (R.lay hp) ⟨p,_,rfl,hp,ak,(xU g l n).mono (bo (.inl hp))⟩ (cx hp)⟩
def WO1:=MSt->(Option Int->MSt->Prop)->Prop
def tMO(K:Kx)(w:WO1):TO:=λh H Q=>∃f m i,Rel K f m h H/\w m i/\∀r g d,i r g->g.np=m.np->Rel K f g h d->Frm f H d->Q r d
def t6:WO1:=λm K=>K none m
def KL(w:WE):WO1:=λm K=>w m λr d=>qh (λi=>K (some i) d) r
theorem PO.wk{X:Cx}{e:Option Expr}{t t':TO}(h:PO X e t)(k:∀d H Q,t' d H Q->t d H Q):PO X e t':=λp s d H Q I q=>h p s d H Q I (k _ _ _ q)
abbrev MO(X:Cx)(e:Option Expr)(w:WO1):Prop:=PO X e (tMO X.kx w)
theorem Ng:MO X none t6:=(Mf).wk<|by intro d H Q ⟨g,m,K,R,h,f⟩;exact f none m H h rfl R (Frm.refl _ _)
theorem JR(h:ME X e B):MO X (some e) (KL B):=(Na h).wk<|by
 intro n H Q ⟨j,m,K,g,d,f⟩;refine⟨j,m,_,g,d,λr m1 v l k n1 R rr F=>?_⟩;let⟨i,rfl,rfl,k⟩:=BQ rr k;exact⟨i,rfl,f _ m1 l k n1 R F⟩
def wSl(ob:R->Option Int->Option Int->MSt->(R->Prop)->Prop)(B:WE)(g w:WO1):WE:=λm K=>B m λr m1=>g m1 λl m2=>w m2 λu d=>ob r l u d λf=>K f d
theorem GH{O:Pos}(hr:SlR X (sM X.kx ob))(D:ME X e B)(T:MO X lo wl)(z:MO X hi wh):ME X (.Subscript e (.Slice lo hi none O) pos) (wSl ob B wl wh):=(CN hr D T z).wk<|by intro U H Q ⟨g,m,W,n,K,h⟩;exact
 ⟨g,m,_,n,K,λr m1 v H1 k n1 R rr s=>⟨g,m1,_,R,k,λl m2 Y t n2 f F=>⟨g,m2,_,f,t,λu q Z w P d p=>⟨g,q,U,H,r,_,d,(rr.keep n R F).keep n f p,w,λN S V x j i I=>h N q S V x (P.trans (n2.trans n1)) j (i.base d ((s.trans F).trans p)) (((s.trans F).trans p).trans I)⟩⟩⟩⟩
end
def agV:Nat->List Ag->List (Option R)
 |_,[]=>[]
 |k,.imm d::as=>some (.imm d)::agV k as
 |k,.own _::as=>some (.obj k)::agV (k+1) as
 |k,.tr _::as=>some (.at k [])::agV (k+1) as
def agO:List Ag->List (List dL)
 |[]=>[]
 | .imm _::as=>agO as
 | .own ds::as=>ds::agO as
 | .tr t::as=>[t]::agO as
def gl(n:Nat)(as:List Ag):MSt:=⟨agV 0 as++aap (n-as.length) none,agO as,(agO as).length⟩
def outR(m:MSt):R->R
 | .imm d=>.imm d
 | .new ds=>.new ds
 | .newT t=>.newT t
 | .obj k=>if k<m.np then .obj k else .new (m.os.getD k [])
 | .at k p=>if k<m.np then .at k p else match p,m.os[k]? with
  |[],some [t]=>.newT t
  |_,_=>.at k p
theorem dG:∀(k:Nat) (as:List Ag),(agV k as).length=as.length
 |_,[]=>rfl
 |k,.imm d::as=>by simp[agV,dG k as]
 |k,.own _::as=>by simp[agV,dG (k+1) as]
 |k,.tr _::as=>by simp[agV,dG (k+1) as]
section
variable {K:Kx}{H:Hp}
theorem RelAs.facts{K:Kd}:∀{as:List Ag}{vs:List V}{β:Al}{pre:Al},RelAs K H as vs β ->
  (agO as).length=β.length/\(∀(k:Nat) (ao:Ao) (ds:List dL),β[k]?=some ao->(agO as)[k]?=some ds->OwnAt K H ao ds)/\
   ∀(i:Nat) (r:R),(agV pre.length as)[i]?=some (some r)->∃v,vs[i]?=some v/\RelS K (pre++β) H r v
 |_,_,_,_,.nil=>⟨rfl,λk a ds h=>by simp at h,λi r h=>by simp[agV]at h⟩
 | _,_,β,pre,.imm (as:=as) hd t=>by
  let⟨g,d,f⟩:=t.facts (pre:=pre);refine⟨g,d,λi r h=>?_⟩
  cases i with
  |zero=>simp[agV]at h;subst h;exact⟨_,rfl,hd⟩
  |succ i=>
   let⟨v,e,q⟩:=f i r (by simpa[agV]using h);exact⟨v,by simpa using e,q⟩
 | _,_,_,pre,.own (a:=a) (β:=β) ha t=>by
  let⟨g,d,f⟩:=t.facts (pre:=pre++[.L a]);refine⟨by simp[agO,g],λk b ds z c=>?_,λi r h=>?_⟩
  .cases k with
   |zero=>simp[agO]at z c;subst z;subst c;exact ha
   |succ k=>exact d k b ds (by simpa using z) (by simpa[agO]using c)
  .cases i with
   |zero=>simp[agV]at h;subst h;exact⟨_,rfl,a,by simp,rfl⟩
   |succ i=>
    let⟨v,e,q⟩:=f i r (by simpa[agV]using h);refine⟨v,by simpa using e,?_⟩;rw[act]at q;exact q
 | _,_,_,pre,.tr (a:=a) (τ:=τ) (β:=β) ha el t=>by
  let⟨g,d,f⟩:=t.facts (pre:=pre++[.T τ]);refine⟨by simp[agO,g],λk b ds z c=>?_,λi r h=>?_⟩
  .cases k with
   |zero=>simp[agO]at z c;subst z;subst c;exact ha
   |succ k=>exact d k b ds (by simpa using z) (by simpa[agO]using c)
  .cases i with
   |zero=>simp[agV]at h;subst h;exact⟨_,rfl,τ,a,by simp,el,rfl⟩
   |succ i=>
    let⟨v,e,q⟩:=f i r (by simpa[agV]using h);refine⟨v,by simpa using e,?_⟩;rw[act]at q;exact q
theorem qw(l:N.length=nN)(k:n≤nN)(m:as.length=n)(nd:(ads β).Nodup)(a:RelAs K H as vs β)(hb:K.eb.np≤(agO as).length)(b:Ext K.eb.np K.eb.be K.eb.H β H):Rel K β (gl nN as) (start N vs) H:=by
 let⟨h,d,f⟩:=a.facts (pre:=[]);have g:=a.length;refine⟨nd,by rw[<-h];rfl,d,?_,λi r e=>?_,by rw[<-h];exact Ge _,hb,b⟩
 .unfold start gl;simp only[aat,gE,ab8,dG];omega
 .have e':(agV 0 as++aap (nN-as.length) none)[i]?=some (some r):=e
  by_cases j:i<as.length
  .rw[aaH (by rw[dG];exact j)]at e';let⟨v,c,q⟩:=f i r e';refine⟨v,?_,by simpa using q⟩;unfold start;rw[aaH (by rw[gE];omega),aaa,c];rfl
  .rw[aaS (by rw[dG];omega),afX]at e'
   split at e'<;>cases e'
theorem j4{m:MSt}(r:RelAs K H as vs β)(h:m.np=(agO as).length)(R:Rel K α' m σ' H')(x:Ext (agO as).length β H α' H'):qj K H' β (m.os.take m.np)/\Frm β H H'/\β=α'.take (agO as).length:=by
 let⟨d,f,g⟩:=r.facts (pre:=[]);have e:α'.take (agO as).length=β:=by rw[x.pre,d,aae]
 refine⟨⟨?_,λj a ds b z=>?_⟩,x.frm,e.symm⟩
 .have:=R.npl;rw[R.len]at this
  grind
 .rw[<-e,aaT]at b;rw[h,aaT]at z
  by_cases c:j<(agO as).length
  .rw[if_pos c]at b z;exact R.own j a ds b z
  .simp_all
theorem y8{m:MSt}(E:m.np=(agO as).length)(R:Rel K α' m σ' H')(x:Ext (agO as).length β H α' H')(l:β=α'.take (agO as).length)(rr:RelR K α' H H' r v)
  (ok:∀k p,r = .at k p->k<m.np\/(p=[]/\∃t,m.os[k]?=some [t])):RelR K β H H' (outR m r) v:=by
 have out:∀{k:Nat}{c:Ao},¬k<m.np->α'[k]?=some c->∀b∈c.ads,H b=none:=λ{k c} h e b hb=>by
  rcases x.new b (iY e hb)with z|z
  .exfalso;rw[l]at z;let⟨j,B,f,A⟩:=im z;rw[aaT]at f
   by_cases s:j<(agO as).length
   .rw[if_pos s]at f;exact gQ R.nd e f (by omega) hb A
   .rw[if_neg s]at f;cases f
  .exact z
 have i:∀{k:Nat}{c:Ao},k<m.np->α'[k]?=some c->β[k]?=some c:=λ{k c} h e=>by
  simp_all
 cases r with
 |imm d=>exact rr
 |new ds=>exact rr
 |newT t=>exact rr
 | obj k=>
  let⟨a,e,rfl⟩:=rr;unfold outR
  by_cases h:k<m.np
  .simp only[h,if_true];exact⟨a,i h e,rfl⟩
  .simp only[h,if_false];have n:k<m.os.length:=by rw[<-R.len];exact(DL.mp e).1
   have w:m.os[k]?=some (m.os.getD k []):=by rw[aas,iO n];rfl
   let⟨D,C,y⟩:=R.own k _ _ e w;exact⟨a,D,rfl,out h e a (aah.mpr rfl),C,y⟩
 | «at» k p=>
  let⟨u,a,e,o,rfl⟩:=rr;unfold outR
  by_cases h:k<m.np
  .simp only[h,if_true];exact⟨u,a,i h e,o,rfl⟩
  .simp only[h,if_false];rcases ok k p rfl with z|⟨rfl,t,q⟩
   .exact(h z).elim
   .rw[q];have g:=R.own k _ _ e q;exact⟨u,a,rfl,o,((iJ α').mp R.nd).1 _ (GE e),out h e,g⟩
def okR(m:MSt):R->Prop
 | .at k p=>k<m.np\/(p=[]/\∃t,m.os[k]?=some [t])
 |_=>True
theorem okR.at{m:MSt}(h:okR m r):∀k p,r = .at k p->k<m.np\/(p=[]/\∃t,m.os[k]?=some [t]):=λk p e=>by subst e;exact h
def retK(a:R->List (List dL)->Prop)(m:MSt):R->Prop
 | .at k p=>okR m (.at k p)/\a (outR m (.at k p)) (m.os.take m.np)
 | .imm d=>a (.imm d) (m.os.take m.np)
 | .new ds=>a (.new ds) (m.os.take m.np)
 | .obj k=>a (outR m (.obj k)) (m.os.take m.np)
 | .newT t=>a (.newT t) (m.os.take m.np)
theorem retK.ok{a:R->List (List dL)->Prop}{m:MSt}(h:retK a m r):okR m r/\a (outR m r) (m.os.take m.np):=by
 cases r with
 | «at» k p=>exact h
 |imm d=>exact⟨trivial,h⟩
 |new ds=>exact⟨trivial,h⟩
 |obj k=>exact⟨trivial,h⟩
 |newT t=>exact⟨trivial,h⟩
theorem fn_m{E:XK}(l:K.eb=⟨0,[],λ_=>none⟩)(h:spOf K n sp vs H Q E)(A:N.length=nN)(j:n≤nN)
  (s:∀as b,as.length=n->sp as b->w {nx:=λm=>b (.imm .none) (m.os.take m.np),rt:=λr m=>retK b m r} (gl nN as)):tMS K w {nx:=λ_ c=>Q .non c,rt:=Q} (start N vs) H:=by
 let⟨as,t,b,o,nd,i,g,f⟩:=h;have y:=qw A j o nd i (by rw[l];exact abv _) (by rw[l];exact⟨rfl,λ_ _ z=>(by cases z),λ_ _=>.inr rfl,λa ha=>(by cases ha)⟩);refine⟨t,gl nN as,_,y,s as b o g,⟨λe u k c q d R x=>?_,λr e u k v c q d R rr x=>?_,λ_ _ _ _ z=>z.elim,λ_ _ _ _ z=>z.elim⟩⟩
 .obtain⟨O,F,_⟩:=j4 i d R x;exact f _ _ .non c q O qZ F
 .obtain⟨O,F,eβ⟩:=j4 i d R x;have p:=retK.ok q;exact f _ _ v c p.2 O (y8 d R x eβ rr p.1.at) F
end
structure FnM(P:aaA)(w:World)(K:Io)(mg:Str->Option oR)(base:aaR)(x:Str)(k n:Nat)(sp:SpM):Prop where
 ex:∃(f:Addr) (fd:abZ) (ps:List Str),FnOk P w K mg base CX0 k f fd ps (spOf ⟨K,w⟩ n sp)/\mg x=some (.ref f)/\abP K (.ref f)=true/\Binds K fd ps []
 ar:∀as Kc,sp as Kc->as.length=n
structure DefM(K:Io)(mg:Str->Option oR)(x:Str)(st:Stmt)(ps:List Str):Prop where
 ex:∃(f:Addr) (fd:abZ),Fun K x x st f fd/\mg x=some (.ref f)/\Binds K fd ps []
theorem V6{P:aaA}{w:World}{K:Io}{base:aaR}{x:Str}{k:Nat}(D:DefM K mg x st ps)(S:FnScope N ps (ac st))(l:ps.length=n)(g:N.length=nN)(e:n≤nN)(ar:∀as b,sp as b->as.length=n)
  (a:∀(c:oR) (A:aa2) (outer:List Env) (s:Ad) (H:Hp) (E:XK) (f:Addr),Room k (A.deeper (ad9 x (ac st) s.heap.objs.size f c)) ->
   ∃d,MSs (cxOf CX0 P w K mg base N x (ac st) f c A outer s H E).nox (bV st) d/\∀as b,as.length=n->sp as b->d {nx:=λm=>b (.imm .none) (m.os.take m.np),rt:=λr m=>retK b m r} (gl nN as)) :
  FnM P w K mg base x (k+1) n sp:=by
 let⟨f,fd,F,j,hb⟩:=D.ex;refine⟨⟨f,fd,ps,F.ok S (λvs H Q E h=>by rw[l];exact h.len) (λc A outer s H vs Q E hr h=>?_),j,F.kp,hb⟩,ar⟩;let⟨d,o,i⟩:=a c A outer s H E f hr;exact⟨_,o,fn_m rfl h g e i⟩
section
variable {X:Cx}{a:Expr}{es:List Expr}{w:WA}{pos p:Pos}{k n:Nat}{sp:SpM}{x:Str}
theorem FQ(F:FnM X.prog X.w X.K X.mg X.base x k n sp)(hr:Room k X.A)(ha:MA X (a::es) w)(g:Gl X x:=by rfl)(b:(x==("__debug__" : Str))=false:=by decide)(c:OR (a::es) X.env=(false,eval a X.env)::OR es X.env:=by first|exact aV rfl|rfl)(h:(abw pos (OR es X.env)).any (·.1)=false:=by rfl) :
  ME X (.Call (.Name x p) (a::es) [] pos) (zm sp w):=by
 let⟨f,fd,i,G,e,d,hb⟩:=F.ex;exact JJ G hr g e d hb WN F.ar ha b c h
def Room.u200{k:Nat}{A:aa2}(r:Room k A):A.units+200<cLine:=by have:=r.un;omega
def cg:aaL "len" = some (.builtin "len"):=by rfl
def Ix:aaL "abs" = some (.builtin "abs"):=by rfl
def Tu:aaL "sum" = some (.builtin "sum"):=by rfl
def u8:aaL "max" = some (.builtin "max"):=by rfl
def Ph:aaL "min" = some (.builtin "min"):=by rfl
def o9:aaL "repr" = some (.builtin "repr"):=by rfl
def dw:aaL "isinstance" = some (.builtin "isinstance"):=by rfl
def K8:aaL "list" = some (.type "list"):=by rfl
def j6:aaL "tuple" = some (.type "tuple"):=by rfl
def Iu:aaL "int" = some (.type "int"):=by rfl
def qu:aaL "enumerate" = some (.type "enumerate"):=by rfl
end
section
variable {m:MSt}{K:R->MSt->Prop}{v:Bool->MSt->Prop}{H:List R->MSt->Prop}{f:R->Prop}{D:dJ}{E I M p J G:WE}{t:WA}{C L:WT}{w u:WS}{o:WO}{d:dL}{r r1 F:R}{i j:Int}{k:Nat}
theorem uf(h:w {D with nx:=λa=>u D a } m):wSeq w u D m:=h
def Qy(h:D.nx m):JC D m:=h
def Vz(h:E m λr1 m1=>I m1 λF m2=>o r1 F m2 λr=>K r m2):wBin o E I m K:=h
def Lp(e:m.vs[n]?=some (some r))(h:K r m):wVar n m K:=⟨r,e,h⟩
def x_c(h:K (.imm d) m):wC d m K:=h
def Wq(h:p m λr a=>D.rt r a):wRet p D m:=h
def PK(h:p m λ_ a=>D.nx a):Kl p D m:=h
def Wy(h:C m λc a=>if c=true then w D a else u D a):wIfS C w u D m:=h
def VE(h:C m λc a=>if c=true then E a K else I a K):wIfE C E I m K:=h
def Pi(h:p m λr a=>onBl (λk=>v k a) r):wf p m v:=h
def W4(h:C m λc m1=>if c=true then L m1 v else v false m1):wAnd C L m v:=h
def x_or(h:C m λc m1=>if c=true then v true m1 else L m1 v):wOr C L m v:=h
def Wz(h:C m λc m1=>v (!c) m1):wNot C m v:=h
def QT{P:Bool->Prop}{b:Bool}(h:P b):onBl P (.imm (.bool b)):=h
def LR{P:Int->Prop}(h:P i):qh P (.imm (.int i)):=h
def JA{P:Nat->Prop}(h:P k):sk P (.obj k):=h
def J4{P:dL->Prop}(h:P d):c8 P (.imm d):=h
def WZ{P:R->Prop}(h:P r):on1 P [r]:=h
theorem lw(h:A):if true=true then A else B:=by simp_all
theorem iq(h:B):if false=true then A else B:=by simp_all
theorem aG{c:Prop}[Decidable c](h:c->A)(a:¬c->B):if decide c=true then A else B:=by simp_all
def x_un{ob:WU}(h:E m λr1 m1=>ob r1 m1 λr=>K r m1):wUn ob E m K:=h
def Vq(h:f (.imm (.int (-i)))):uNeg (.imm (.int i)) m f:=h
def U3(h:p m λr a=>match r with| .imm d=>K (.imm d) a | .new ds=>K (.imm (.list ds)) a|_=>False):wImm p m K:=h
def V8(h:H [] m):wNil m H:=h
def RQ(h:p m λr m1=>t m1 λrs m2=>H (r::rs) m2):MJ p t m H:=h
def Wn(h:t m λrs a=>ye (λds=>K (.imm (.tuple ds)) a) (gi rs)):wTup t m K:=h
def Wg(h:t m λrs a=>ye (λds=>K (.new ds) a) (gi rs)):wLst t m K:=h
def VX{rs:List R}{P:List dL->Prop}(e:gi rs=some ds)(a:ds.length≤aaf)(h:P ds):ye P (gi rs):=by rw[e];exact⟨a,h⟩
def x_cb{a:WC}(h:t m λrs m1=>a rs m1 λr=>K r m1):wCB a t m K:=h
def Um(h:t m λrs m1=>match fy m1 rs with|some (as,ks)=>ks.Nodup/\sp as λr a=>K (mapR ks r) {m1 with os:=cr m1.os ks a}|none=>False):zm sp t m K:=h
def U9{rs:List R}{P:List Ag->List Nat->Prop}(e:fy m rs=some (as,ks))(a:ks.Nodup)(h:P as ks):match fy m rs with|some (as,ks)=>ks.Nodup/\P as ks|none=>False:=by rw[e];exact⟨a,h⟩
def D6(h:p m λr a=>nA n D.nx a r):wSet n p D m:=h
def d5(h:P (m.setV n (.imm d))):nA n P m (.imm d):=.inl h
theorem bQ(h:P {vs:=m.vs.set n (some (.obj m.os.length)),os:=m.os++[ds],np:=m.np}):nA n P m (.new ds):=.inl (.inl h)
def VM(h:p m λr a=>c8 (λd=>g d a D.nx) r):wAsg p g D m:=h
def UW{n':Nat}(h:t m λrs a=>match rs with|[.imm d1,.imm d2]=>D.nx ((a.setV n (.imm d1)).setV n' (.imm d2))|_=>False):wPar n n' t D m:=h
theorem Qu(h:p m λc m1=>c8 (λd=>J m1 λe m2=>G m2 λb a=>sk (λk=>qh (λz=>∃ds j,a.os[k]?=some ds/\ixN ds.length z=some j/\D.nx {a with os:=a.os.set k (ds.set j d)}) b) e) c):Kg p J G D m:=h
def V5{k:Nat}{z:Int}{P:List dL->Nat->Prop}(e:m.os[k]?=some ds)(a:ixN ds.length z=some n)(h:P ds n):∃ds j,m.os[k]?=some ds/\ixN ds.length z=some j/\P ds j:=⟨ds,n,e,a,h⟩
def x_ml{ob:WM}(h:J m λr m1=>(∃ds,lsOf m1 r=some ds)/\t m1 λrs m2=>ob r rs m2 K):wML ob J t m K:=h
def x_ls{P:Prop}(e:lsOf m r=some ds)(h:P):(∃ds,lsOf m r=some ds)/\P:=⟨⟨ds,e⟩,h⟩
theorem ie(e:m.os[k]?=some ds)(a:ds.length<aaf)(h:K (.imm .none) {m with os:=m.os.set k (ds++[d])}):yz (.obj k) [.imm d] m K:=⟨ds,e,a,h⟩
def Ow(h:f (.imm (.int (i+j)))):oAdd (.imm (.int i)) (.imm (.int j)) m f:=h
def lq{a b:List dL}(c:a.length+b.length≤aaf)(h:f (.imm (.tuple (a++b)))):oAdd (.imm (.tuple a)) (.imm (.tuple b)) m f:=⟨c,h⟩
def UB(h:f (.imm (.int (i-j)))):oSub (.imm (.int i)) (.imm (.int j)) m f:=⟨trivial,h⟩
def iW(a:CFd i j)(h:f (.imm (.int (i/j)))):TF (.imm (.int i)) (.imm (.int j)) m f:=⟨a,h⟩
def JV(a:0<j)(h:f (.imm (.int (i%j)))):oMod (.imm (.int i)) (.imm (.int j)) m f:=⟨a,h⟩
def Vw(a:CPow i j)(h:f (.imm (.int (i^j.toNat)))):oPow (.imm (.int i)) (.imm (.int j)) m f:=⟨a,h⟩
def x_lt(h:f (.imm (.bool (decide (i<j))))):oLt (.imm (.int i)) (.imm (.int j)) m f:=h
def x_gt(h:f (.imm (.bool (decide (j<i))))):oGt (.imm (.int i)) (.imm (.int j)) m f:=h
def x_ge(h:f (.imm (.bool (decide (j≤i))))):oGe (.imm (.int i)) (.imm (.int j)) m f:=h
def x_eq{b a:dL}(e:asD m r1=some b)(c:asD m F=some a)(s1:aeo b=true)(s2:aeo a=true)(h:f (.imm (.bool (aar b a)))):oEq r1 F m f:=by refine agL ?_;unfold eqD;rw[e,c];exact⟨s1,s2,h⟩
def x_ne{b a:dL}(e:asD m r1=some b)(c:asD m F=some a)(s1:aeo b=true)(s2:aeo a=true)(h:f (.imm (.bool (!aar b a)))):oNe r1 F m f:=by refine agL ?_;unfold eqD;rw[e,c];exact⟨s1,s2,h⟩
theorem UH(h:f (.imm (.bool (decide (i=j))))):oEq (.imm (.int i)) (.imm (.int j)) m f:=x_eq rfl rfl rfl rfl ‹_›
def V9(h:f (.imm (.bool (decide (i≠j))))):oNe (.imm (.int i)) (.imm (.int j)) m f:=x_ne rfl rfl rfl rfl (by simp[aar];rw[aez,<-decide_not];exact h)
def Vo{x:Str}(h:f (.imm (.bool (decide (x=y))))):oEq (.imm (.str x)) (.imm (.str y)) m f:=adg (agL ⟨x,y,rfl,rfl,h⟩)
def Wx{x:Str}(h:f (.imm (.bool (!decide (x=y))))):oNe (.imm (.str x)) (.imm (.str y)) m f:=adg ⟨x,y,rfl,rfl,h⟩
def GU(h:f (.imm (.bool (!yu r)))):y3 r (.imm .none) m f:=⟨rfl,h⟩
def aH(e:atI ds i=some d)(h:f (.imm d)):qp (.imm (.tuple ds)) (.imm (.int i)) m f:=⟨d,e,h⟩
def ub(e:atI ds i=some d)(h:f (.imm d)):qp (.imm (.list ds)) (.imm (.int i)) m f:=⟨ds,d,rfl,e,h⟩
def ju(a:m.os[k]?=some ds)(e:atI ds i=some d)(h:f (.imm d)):qp (.obj k) (.imm (.int i)) m f:=⟨ds,d,a,e,h⟩
def jt(e:atI ds i=some d)(h:f (.imm d)):qp (.new ds) (.imm (.int i)) m f:=⟨ds,d,rfl,e,h⟩
def VF{rs:List R}(h:on1 (lenR m f) rs):oLen rs m f:=h
def Tj(h:f (.imm (.int ds.length))):lenR m f (.imm (.tuple ds)):=h
def Qx(h:f (.imm (.int ds.length))):lenR m f (.imm (.list ds)):=⟨ds,rfl,h⟩
def P7(e:m.os[k]?=some ds)(h:f (.imm (.int ds.length))):lenR m f (.obj k):=⟨ds,e,h⟩
def Vy(h:f (.imm (.int (if i<0 then -i else i)))):oAbs [.imm (.int i)] m f:=h
def OM{b:Bool}(h:f (.imm (.int (if b then 1 else 0)))):oInt [.imm (.bool b)] m f:=h
def KZ(e:sqOf m r=some ds)(h:f (.imm (.tuple ds))):Ij [r] m f:=⟨ds,e,h⟩
def Tq(e:asD m r=some d)(a:d.showable=true)(g:d.hasDict=false)(b:d.shown.length≤aaf)(c:d.depth≤100)(h:f (.imm (.str d.shown))):J3 [r] m f:=⟨d,e,a,g,b,c,h⟩
def x_sl(h:p m λr m1=>wl m1 λl m2=>wh m2 λu a=>ob r l u a λb=>K b a):wSl ob p wl wh m K:=h
def GV(h:Ko none m):t6 m Ko:=h
def OJ(h:p m λr a=>qh (λi=>Ko (some i) a) r):KL p m Ko:=h
def x_gM(h:P (m.setV n (.imm d))):gM n d m P:=h
def Uv(h:P m):KM [] m P:=⟨rfl,h⟩
def Kq(h:g d m λa=>gs ds a P):ze g gs (d::ds) m P:=h
def Qb(e:ds.length=n)(h:gs ds m P):D7 n gs (.tuple ds) m P:=⟨e,h⟩
def UZ{G:WI}(h:G m λs m1=>jd s g w D m1):wFor G g w D m:=h
def OU(h:p m λr a=>srcR a Ks r):Js p m Ks:=h
def Uk(h:Ks ⟨ds,none⟩ m):srcR m Ks (.imm (.list ds)):=h
def Ot(h:Ks ⟨ds,none⟩ m):srcR m Ks (.imm (.tuple ds)):=h
def QG(e:m.os[k]?=some ds)(h:Ks ⟨ds,some k⟩ m):srcR m Ks (.obj k):=⟨ds,e,h⟩
def Rj(h:t m λrs a=>match rs with|[.imm (.int j)]=>-(2^62)≤j/\j<2^62/\Ks ⟨ik 0 j.toNat,none⟩ a|_=>False):Bq t m Ks:=h
def Vt(h:C m λb a=>if b=true then w D a else D.nx a):wIfT C w D m:=h
def FZ(h:v true m):tm m v:=h
theorem Uz(h:p m λr a=>c8 (λd=>∃ds,a.os[q]?=some ds/\ds.length<aaf/\D.nx {a with os:=a.os.set q (ds++[d])}) r):wX q p D m:=h
end
def ap{D:dJ}{m:MSt}(a:MSt)(e:m=a)(h:w D a):w D m:=e▸h
theorem VH{i j:Int}(h:(-18446744073709551616<i/\i<18446744073709551616)\/(-18446744073709551616<j/\j<18446744073709551616)):afW i j:=CMul.ok ‹_›
def cfd{i j:Int}(h0:0<j)(h:j<1152921504606846976):CFd i j:=⟨h0,by
 have:j.natAbs<2^60:=by omega
 have:=(agM (by omega)).mpr this;omega⟩
theorem k9:∀ns:List Int,aa9 (ns.map .int)=true
 |[]=>rfl
 |n::ns=>by simp[ aa9,aia,k9 ns]
theorem l8:∀ns:List Int,aaw (ns.map .int)≤1
 |[]=>abv 1
 |n::ns=>by
  have:=l8 ns;simp[aaw,dL.depth];omega
theorem Qj{a:Type}{xs:List a}{i:Int}(h0:0≤i)(b:i<xs.length):∃d,xs[i.toNat]?=some d/\atI xs i=some d:=by
 have h:i.toNat<xs.length:=by omega
 refine⟨xs[i.toNat],iO h,?_⟩;unfold atI ixN
 simp_all
theorem FE{i:Int}(h0:0≤i)(a:i<ns.length):∃x:Int,atI (ns.map abC) i=some (.int x):=by
 let⟨d,e,h⟩:=Qj (xs:=ns.map abC) h0 (by simp_all);rw[aaa]at e
 cases q:ns[i.toNat]? with
 |none=>rw[q]at e;cases e
 |some x=>rw[q]at e;cases e;exact⟨x,h⟩
section
variable {X:Cx}{tg a b c e:Expr}{es:List Expr}{j l y A w B:WE}{C:WA}{pos p g:Pos}
def dQ:List dL->Option (List Int)
 |[]=>some []
 | .int i::ds=>(dQ ds).map (i :: ·)
 |_::_=>none
theorem jE(h:dQ ds=some ns):ds=ns.map .int:=by
 induction ds generalizing ns with
 |nil=>cases h;rfl
 | cons d ds f=>
  cases d with
  |int i=>
   simp only[dQ]at h
   cases q:dQ ds with
   |none=>rw[q]at h;cases h
   |some m=>rw[q]at h;cases h;rw[f q];rfl
  |none=>cases h
  |bool _=>cases h
  |str _=>cases h
  |list _=>cases h
  |tuple _=>cases h
  |dict _=>cases h
theorem f7:∀ns:List Int,dQ (ns.map .int)=some ns
 |[]=>rfl
 |n::ns=>by simp[ dQ,f7 ns]
theorem fY{K:Kd}{H:Hp}:∀{ns:List Int}{xs:List V},DenAll K H (ns.map .int) xs->xs=ns.map V.int
 |[],_,h=>by simpa only[ DenAll]
 |n::ns,_,h=>by
  let⟨v,vs,rfl,f,d⟩:=h;have e:=aU f;rw[e,fY d];rfl
def tyN:dL->String
 | .none=> "NoneType"
 | .bool _=> "bool"
 | .int _=> "int"
 | .str _=> "str"
 | .list _=> "list"
 | .tuple _=> "tuple"
 | .dict _=> "dict"
def tyR:R->String
 | .imm d=>tyN d
 |_=> "list"
def ndR:R->Bool
 | .imm (.dict _)=>false
 | .at _ _=>false
 | .newT _=>false
 |_=>true
def IsT(T:String)(f:String->Bool):Prop:=∀(K:Io) (n:String),n∈["NoneType","bool","int","str","list","tuple"]->afm K (.type n) (.type T)=some (f n)
def SX(h:∀n∈["NoneType","bool","int","str","list","tuple"],(if ((ad7 n)==(ad7 T))=true then some true else if PySem.W.kitMeta T=true then(fastBuiltinMro n).map (·.contains (.type T))else none)=some (f n)):IsT T f:=λK n d=>by
 have:=h n d;exact this
def Fe:IsT "list" (λn=>n == "list"):=SX (by decide +kernel)
def rIsI(K:Kx)(T:String)(f:String->Bool):List V->Hp->VK->Prop:=λx H Q=>∃d m h i r v,Rel K d m h H/\RelR K d i H r v/\ndR r=true/\x=[v,.ty T]/\Q (.bl (f (tyR r))) H
theorem CF(J:IsT T f):c7 X (.builtin "isinstance") (rIsI X.kx T f):=by
 intro i s K H xs us Q I U ⟨α,m,σ,H0,r,v,R,h,E,ex,q⟩;subst ex;let⟨u,c,rfl,G,rc⟩:=U.two
 cases (show c=ad7 T from rc)
 have done:∀tk,EP X i K Q (.bool (f (tyR r))) {s with toks:=tk}:=λtk=>⟨.bl _,H,I.tok tk,rfl,q⟩;have lst:∀{a:Addr}{F:List V},v = .ref a->SqL X.kx H a F->tyR r = "list" -> wpAny (model X.prog X.w) X.A (call (.builtin "isinstance") [u,.type T]) (EP X i K Q) X.xe s:=λ{a F} W L Z=>by
  subst W
  cases (show u=aaZ a from G)
  let⟨M,_,⟨o,n,D,N,_⟩,_⟩:=I.list L;exact ac0 PySem.W.kitx_list I.kIn ⟨o,D,N⟩ (by rw[Z];exact J X.K "list" (by decide)) (λz=>nomatch z) done
 cases r with
 |obj k=>
  have Y:=h;let⟨a,P,rfl⟩:=Y;have S:k<m.os.length:=by rw[<-R.len];exact(DL.mp P).1
  let⟨F,D,_⟩:=R.own k _ _ P (iO S);exact lst rfl (SqL.of D) rfl
 |new ds=>let⟨a,F,rfl,_,D,_⟩:=h;exact lst rfl (SqL.of D) rfl
 | «at» _ _=>cases E
 |newT _=>cases E
 | imm d=>
  cases d with
  |none=>have e:=jC (show Den X.kx H .none v from h);subst e;cases (show u=abM from G);exact ac0 PySem.W.kitx_none I.kIn aec (J X.K "NoneType" (by decide)) (λz=>nomatch z) done
  |bool x=>have e:=jg (show Den X.kx H (.bool x) v from h);subst e;cases (show u=ah6 x from G);exact ac0 PySem.W.kitx_bool I.kIn aec (J X.K "bool" (by decide)) (λz=>nomatch z) done
  |int x=>have e:=aU (show Den X.kx H (.int x) v from h);subst e;let⟨t,q⟩:=(show ∃t,u=aih x t from G);cases q;exact ac0 PySem.W.kitx_int I.kIn aec (J X.K "int" (by decide)) (λz=>nomatch z) done
  |str x=>have e:=bt (show Den X.kx H (.str x) v from h);subst e;let⟨t,q⟩:=(show ∃t,u=aii x t from G);cases q;exact ac0 PySem.W.kitx_str I.kIn aec (J X.K "str" (by decide)) (λz=>nomatch z) done
  |list ds=>
   have O:Den X.kx H (.list ds) v:=h;simp only[Den]at O;let⟨a,F,e,L,_⟩:=O;exact lst e L.sq rfl
  |tuple ds=>
   let⟨a,F,rfl,L,_⟩:=bz (show Den X.kx H (.tuple ds) v from h)
   cases (show u=aaZ a from G)
   let⟨M,_,⟨o,D,N,_⟩,_⟩:=I.tuple L;exact ac0 PySem.W.kitx_tuple I.kIn ⟨o,D,N⟩ (J X.K "tuple" (by decide)) (λz=>nomatch z) done
  |dict es=>cases E
def wIsT(f:String->Bool)(w:WE):WE:=λm K=>w m λr d=>ndR r=true/\K (.imm (.bool (f (tyR r)))) d
theorem Sw{x:Str}(z:ME X e w)(L:IsT T f)(o:X.mg "isinstance" = none)(M:X.mg x=none)(G:aaL x=some (.type T))(d:Gl X "isinstance":=by rfl)(J:Gl X x:=by rfl)(I:x ≠ "__name__":=by decide)(hd:(x==("__debug__" : Str))=false:=by decide)
  (h:OR [e,.Name x g] X.env=(false,eval e X.env)::OR [.Name x g] X.env:=by rfl) (s:OR [.Name x g] X.env=(false,eval (.Name x g) X.env)::OR [] X.env:=by rfl) (i:(abw pos (OR [.Name x g] X.env)).any (·.1)=false:=by rfl) :
  ME X (.Call (.Name "isinstance" p) [e,.Name x g] [] pos) (wIsT f w):=(iQ (CF L) d o dw (fu z (fu (yL J M G (v:=.ty T) rfl I hd) m6 s) h) (by decide) rfl h i).wk<|by intro K H Q ⟨t,m,O,E,D,q⟩;exact
 ⟨t,m,_,E,D,λr u v N k n R rr F=>⟨t,u,K,H,r,v,R,rr,k.1,rfl,q _ u _ N k.2 n R (jV _) F⟩⟩
def Vm{m:MSt}{K:R->MSt->Prop}(h:w m λr d=>ndR r=true/\K (.imm (.bool (f (tyR r)))) d):wIsT f w m K:=h
def x_nd{P:Prop}(e:ndR r=true)(h:P):ndR r=true/\P:=⟨e,h⟩
end
theorem fq{D:dJ}(P:Nat->MSt->Prop)(p0:P 0 m1)
  (step:∀(i:Nat) (d:dL) (m:MSt),ds[i]?=some d->m.np=m1.np->P i m->g d m λm2=>w {nx:=P (i+1),ct:=P (i+1),bk:=λf=>D.nx (f.setN m1.np),rt:=λr f=>D.rt r (f.setN m1.np)} m2)
  (h:∀m,m.np=m1.np->P ds.length m->D.nx m):jd ⟨ds,none⟩ g w D m1:=by
 refine⟨P,p0,λi d m e n p=>⟨trivial,step i d m e n p⟩,λm n p=>⟨trivial,?_⟩⟩;have e:m.setN m1.np=m:=by
  let⟨a,b,c⟩:=m;have j:c=m1.np:=n;subst j;rfl
 rw[e];exact h m n p
theorem jk{k:Nat}{D:dJ}(P:Nat->MSt->Prop)(p0:P 0 (m1.setN (max m1.np (k+1))))
  (ok:∀i m,P i m->m.os[k]?=some ds)
  (step:∀(i:Nat) (d:dL) (m:MSt),ds[i]?=some d->m.np=max m1.np (k+1)->P i m->g d m λm2=>w {nx:=P (i+1),ct:=P (i+1),bk:=λa=>D.nx (a.setN m1.np),rt:=λr a=>D.rt r (a.setN m1.np)} m2)
  (f:∀m,m.np=max m1.np (k+1)->P ds.length m->D.nx (m.setN m1.np)):jd ⟨ds,some k⟩ g w D m1:=
 ⟨P,p0,λi d m e n p=>⟨ok i m p,step i d m e n p⟩,λm n p=>⟨ok _ m p,f m n p⟩⟩
def jm{t:WT}{D:dJ}{a:MSt}(P:Nat->MSt->Prop)(b:Nat)(p0:P b a)
  (step:∀n m,m.np=a.np->P n m->t m λc d=>if c=true then w {D with nx:=λm2=>∃n',n'<n/\P n' m2,ct:=λm2=>∃n',n'<n/\P n' m2,bk:=D.nx} d else D.nx d):zu t w D a:=⟨P,⟨b,p0⟩,step⟩
def Db(h:ds.length≤n):cutD ds none (some (n:Int))=ds:=by
 unfold cutD;rw[HT.sIx_none,HT.sIx_nat,Nat.min_eq_right h,Nat.sub_zero,List.drop_zero,aae]
theorem Ll{m:MSt}{K:R->MSt->Prop}{own:List Str}{ps:List Nat}(h:wi m λs m1=>jd s g (wIfT tt (wX m1.os.length we)) {nx:=λa=>K (.new (a.os.getD m1.os.length [])) {m1 with os:=a.os.take m1.os.length},rt:=λ_ _=>False} (jT own ps m1)):mL wi own ps g tt we m K:=h
def Km{m:MSt}{K:R->MSt->Prop}{w:WI}{own:List Str}{ps:List Nat}{a:WG}{t:WT}(h:wi m λs m1=>jd s g (wIfT tt λD m2=>w m2 λs2 c=>jd s2 a (wIfT t (wX m1.os.length we)) D c) {nx:=λb=>K (.new (b.os.getD m1.os.length [])) {m1 with os:=b.os.take m1.os.length},rt:=λ_ _=>False} (jT own ps m1)):uW wi own ps g tt w a t we m K:=h
theorem mh{k:Nat}{m:MSt}(a:m.vs[n]?=some (some (.obj k)))(c:m.np≤k)(b:∀j:Nat,j≠n->m.vs[j]?≠some (some (.obj k)))(h:P {m with os:=m.os.set k ds}):nA n P m (.new ds):=.inr ⟨k,a,c,b,h⟩
theorem bj{a:Type}{xs:List a}{k:Nat}{d x:a}(h:xs[k]?=some x):xs.getD k d=x:=by simp_all
theorem x_JS{m:MSt}{D:dJ}(b:MSt->Prop)(h:∀N:MSt->Prop,(∀a,b a->N a)->w {D with nx:=N} m)(J:∀a,b a->D.nx a):w D m:=h D.nx J
structure Fine(n k:Nat)(d:dL):Prop where
 sh:d.showable=true
 nd:d.hasDict=false
 ln:d.shown.length≤n
 dp:d.depth≤k
def Fine.mono{k n' k':Nat}{d:dL}(h:Fine n k d)(b:n≤n')(a:k≤k'):Fine n' k' d:=⟨h.sh,h.nd,aao h.ln b,aao h.dp a⟩
theorem xm{k:Nat}(h:n<2^k)(a:0<k):n.log2<k:=by
 by_cases h0:n=0
 .simp_all
 .rw[agM h0];exact h
def uR{i:Int}(h:i.natAbs<10^12):Fine 13 0 (.int i):=by
 refine⟨?_,rfl,dL.shown_int_le h,Ge _⟩;have:i.natAbs.log2<40:=xm (aak h (by decide)) (by decide);apply decide_eq_true;omega
theorem n6{n k:Nat}:∀{ds:List dL},(∀d∈ds,Fine n k d)->ahj ds=true/\acu ds=false/\((ac1 ds).map (·.length)).sum≤ds.length*n/\(ac1 ds).length=ds.length/\aaw ds≤k
 |[],_=>⟨rfl,rfl,by simp[ac1],rfl,by simp[aaw]⟩
 |d::ds,h=>by
  let⟨f,e,i,c,g⟩:=n6 λa b=>h a (aad _ b);have h0:=h d aac;refine⟨?_,?_,?_,?_,?_⟩
  .show(d.showable&&ahj ds)=true;rw[h0.sh,f];rfl
  .show(d.hasDict||acu ds)=false;rw[h0.nd,e];rfl
  .show(d.shown.length::(ac1 ds).map _).sum≤_;rw[acJ,aaI,agl];have:=h0.ln;omega
  .show(ac1 ds).length+1=_;rw[c];rfl
  .show max d.depth _≤k;have:=h0.dp;omega
theorem gW{k c:Nat}(h:∀d∈ds,Fine n k d)(b:ds.length≤c):Fine (c*(n+2)+3) (k+1) (.tuple ds):=by
 let⟨f,a,g,i,j⟩:=n6 h;refine⟨f,a,?_,?_⟩
 .show(tupleText _).length≤_;have:=tupleText_len_le (ac1 ds);have e:ds.length*(n+2)≤c*_:=ac4 _ b
  grind
 .show aaw ds+1≤_;omega
theorem yh{k c:Nat}(h:∀d∈ds,Fine n k d)(b:ds.length≤c):Fine (c*(n+2)+3) (k+1) (.list ds):=by
 let⟨f,a,g,i,j⟩:=n6 h;refine⟨f,a,?_,?_⟩
 .show(listText _).length≤_;have:=listText_len_le (ac1 ds);have e:ds.length*(n+2)≤c*_:=ac4 _ b
  grind
 .show aaw ds+1≤_;omega
structure Shp(k:Nat)(d:dL):Prop where
 cl:d.canLay0=true
 dp:d.depth≤k
def fW(i:Int):Shp 0 (.int i):=⟨rfl,Ge _⟩
theorem km{k:Nat}:∀{ds:List dL},(∀d∈ds,Shp k d)->aa9 ds=true/\aaw ds≤k
 |[],_=>⟨rfl,by simp[aaw]⟩
 |d::ds,h=>by
  let⟨c,e⟩:=km λa b=>h a (aad _ b);have h0:=h d aac;refine⟨?_,?_⟩
  .simp only[aa9];rw[h0.cl,c];rfl
  .show max d.depth _≤k;have:=h0.dp;omega
theorem yF{k:Nat}(h:∀d∈ds,Shp k d):Shp (k+1) (.tuple ds):=by
 let⟨a,b⟩:=km h;exact⟨by simp[aia];exact a,by show aaw ds+1≤_;omega⟩
def jI{m:MSt}{d:dL}{K:R->Prop}{k:Nat}(h:Fine n k d)(e:asD m r=some d)(b:n≤16777216)(a:k≤100)(c:K (.imm (.str d.shown))):J3 [r] m K:=Tq e h.sh h.nd (by rw[aaj];exact aao h.ln b) (aao h.dp a) c
theorem wy(b:Only H)(h:SqL K H a (ns.map V.int)):Den K H (.list (ns.map .int)) (.ref a):=by
 refine⟨a,_,rfl,?_,DenAll.ints _⟩;rcases h with(h|⟨o,h⟩)|h
 .rcases b a with z|_
  .grind
  .grind
 .exact .inl ⟨o,h⟩
 .exact .inr h
theorem Oh{P:aaA}{w:World}{K:Io}{base:aaR}{x:Str}{k:Nat}{f:Addr}(F:Fun K x x st f fd)(S:FnScope N ps (ac st))(j:ps.length=n)(g:N.length=nN)(e:n≤nN)
  (a:∀(c:oR) (A:aa2) (outer:List Env) (s:Ad) (H:Hp) (E:XK) (f:Addr),Room k (A.deeper (ad9 x (ac st) s.heap.objs.size f c)) ->
   ∃b,MSs (cxOf CX0 P w K mg base N x (ac st) f c A outer s H E).nox (bV st) b/\∀as d,as.length=n->sp as d->b {nx:=λm=>d (.imm .none) (m.os.take m.np),rt:=λr m=>retK d m r} (gl nN as)) :
  FnOk P w K mg base CX0 (k+1) f fd ps (spOf ⟨K,w⟩ n sp):=by
 refine F.ok S (λvs H Q E h=>by rw[j];exact h.len) (λc A outer s H vs Q E hr h=>?_);let⟨b,l,i⟩:=a c A outer s H E f hr;exact⟨_,l,fn_m rfl h g e i⟩
structure DefK(K:Io)(x:Str)(st:Stmt):Prop where
 ex:∃(f:Addr) (fd:abZ),aal K aag x=some (some (.ref f))/\Fun K x x st f fd
def DefK.of{K:Io}{x:Str}{f:Addr}{o kV d pm b ct:oR}{an:Option Addr}{s:Array (Option oR)}(a:aal K aag x=some (some (.ref f)))
  (l:K.lookup f=some ⟨o,od,.func (acG x x (gC st) (bV st) (ac st) .none kV d pm an b ct),s⟩) (c:aem K b x=true) (k:abP K (.ref f)=true):DefK K x st:=⟨f,_,a,yc l c k⟩
theorem DefK.m{K:Io}{h:aaR}{x:Str}(D:DefK K x st)(X:K.In h)(G:h.Ns aag mg)(b:∀(f:Addr) (fd:abZ),Fun K x x st f fd->Binds K fd ps []):DefM K mg x st ps:=by
 let⟨f,fd,a,F⟩:=D.ex;exact⟨f,fd,F,adZ X G a,b f fd F⟩
structure EE(X:Cx)(e:Expr)(w:WE):Prop where
 h:ME X e w
structure ET(X:Cx)(e:Expr)(w:WT):Prop where
 h:MT X e w
structure EW(X:Cx)(e:Expr)(w:WT):Prop where
 h:MW X e w
structure EA(X:Cx)(es:List Expr)(w:WA):Prop where
 h:MA X es w
structure ES(X:Cx)(st:Stmt)(w:WS):Prop where
 h:MS X st w
structure ESs(X:Cx)(st:List Stmt)(w:WS):Prop where
 h:MSs X st w
structure EI(X:Cx)(tg e:Expr)(w:WI):Prop where
 h:MI X tg e w
structure EG(X:Cx)(t:Expr)(w:WG):Prop where
 h:MG X t w
structure EGs(X:Cx)(ts:List Expr)(w:WGs):Prop where
 h:MGs X ts w
structure EO(X:Cx)(e:Option Expr)(w:WO1):Prop where
 h:MO X e w
structure ETs(X:Cx)(ifs:List Expr)(w:WT):Prop where
 h:PTs X ifs (tMT X.kx w)
def EW.pt{w:WT}(h:EW X e w):ET X e w:=⟨h.h.pt⟩
section
variable {X:Cx}{a b c:Expr}{es:List Expr}{w d e:WE}{pos:Pos}
def mh'{i j pos}:EE X (.Constant (.int i) j pos) (wC (.int i)):=⟨UG⟩
def kl{i j pos}:EE X (.Constant (.bool i) j pos) (wC (.bool i)):=⟨UJ⟩
def aC{i j pos}:EE X (.Constant (.str i) j pos) (wC (.str i)):=⟨QV⟩
def oO{j pos}:EE X (.Constant .none j pos) (wC .none):=⟨Oy⟩
theorem mv'(i:Nat){x:Str}{pos:Pos}(f:X.N[i]?=some x:=by rfl)(g:Vis X.env.scope x:=by first|exact agL rfl|exact adg (agL rfl)|exact adg (adg rfl))(hd:(x==("__debug__" : Str))=false:=by decide)(h:(x==("__classdict__" : Str))=false:=by decide):EE X (.Name x pos) (wVar i):=⟨mv i f g hd h⟩
def af{op:afg}(ho:OpR X (acp op) (rM X.kx o))(ha:EE X a w)(hb:EE X b d):EE X (.BinOp a op b pos) (wBin o w d):=⟨Oz ho ha.h hb.h⟩
def om(ho:OpR X (abp op) (rM X.kx o))(ha:EE X a w)(hb:EE X b d)(h:adb op b=false):EE X (.Compare a [op] [b] pos) (wBin o w d):=⟨TU ho ha.h hb.h h⟩
def av(ho:OpR X (abp op) (rM X.kx o))(ha:EE X a w)(hb:EE X b d)(h:adb op b=false):ET X (.Compare a [op] [b] pos) (wf (wBin o w d)):=⟨Su ho ha.h hb.h h⟩
def iK(ha:EE X a w)(h:∀f,isTrue a X.env f=(do let v <- f;adx a.pos;ady [v] (truthy v)):=by intro _;rfl):ET X a (wf w):=⟨Oo ha.h h⟩
end
section
variable {X:Cx}{a b c:Expr}{es:List Expr}{d f g:WE}{pos:Pos}
variable {w e:WT}{rest:List Expr}
def kh(ha:ET X a w):EW X (.BoolOp .And [a] pos) w:=⟨Lh ha.h⟩
def Jl(ha:ET X a w):EW X (.BoolOp .Or [a] pos) w:=⟨OO ha.h⟩
def jj(ha:ET X a w)(hb:EW X (.BoolOp .And (b::rest) pos) e):EW X (.BoolOp .And (a::b::rest) pos) (wAnd w e):=⟨QY ha.h hb.h⟩
def IG(ha:ET X a w)(hb:EW X (.BoolOp .Or (b::rest) pos) e):EW X (.BoolOp .Or (a::b::rest) pos) (wOr w e):=⟨VO ha.h hb.h⟩
def Ac(ha:ET X a w):ET X (.UnaryOp .Not a pos) (wNot w):=⟨QM ha.h⟩
def RF(h:ET X t w)(ha:EE X a d)(hb:EE X b f):EE X (.IfExp t a b pos) (wIfE w d f):=⟨Vx h.h ha.h hb.h⟩
def lH{op:UnaryOp}{o:WU}(ho:UnR X (unaryOp op) (uM X.kx o))(ha:EE X a d):EE X (.UnaryOp op a pos) (wUn o d):=⟨Vk ho ha.h⟩
def fU(ha:EE X a d):EE X a (wImm d):=⟨OZ ha.h⟩
end
section
variable {X:Cx}{a b c:Expr}{es:List Expr}{d e f:WE}{pos:Pos}
variable {g i:WT}{rest:List Expr}
variable {w:WA}
def mn'  : EA X [] wNil:=⟨Qt⟩
def mc'(ha:EE X a d)(hr:EA X es w)(hs:OR (a::es) X.env=(false,eval a X.env)::OR es X.env:=by first|exact aV rfl|rfl):EA X (a::es) (MJ d w):=⟨Kh ha.h hr.h hs⟩
def ai{x1}(h:EA X es w):EE X (.Tuple es x1 pos) (wTup w):=⟨Qp h.h⟩
def bZ(h:EA X es w):EE X (.List es pos) (wLst w):=⟨Pg h.h⟩
theorem au{id:String}{x:Str}{o:WC}(r:c7 X (.builtin id) (cM X.kx o))(q:Gl X x)(n:X.mg x=none)(l:aaL x=some (.builtin id))(ha:EA X (a::es) w)(m:x ≠ "__name__":=by decide)(j:(x==("__debug__" : Str))=false:=by decide)(k:OR (a::es) X.env=(false,eval a X.env)::OR es X.env:=by first|exact aV rfl|rfl)(h:(abw pos (OR es X.env)).any (·.1)=false:=by rfl):EE X (.Call (.Name x p) (a::es) [] pos) (wCB o w):=⟨Gn r q n l ha.h m j k h⟩
theorem dE{x:Str}{o:WC}(r:c7 X (.type T) (cM X.kx o))(q:Gl X x)(n:X.mg x=none)(l:aaL x=some (.type T))(ha:EA X (a::es) w)(m:x ≠ "__name__":=by decide)(j:(x==("__debug__" : Str))=false:=by decide)(k:OR (a::es) X.env=(false,eval a X.env)::OR es X.env:=by first|exact aV rfl|rfl)(h:(abw pos (OR es X.env)).any (·.1)=false:=by rfl):EE X (.Call (.Name x p) (a::es) [] pos) (wCB o w):=⟨BV r q n l ha.h m j k h⟩
end
section
variable {X:Cx}{a b c e:Expr}{es:List Expr}{d f g h:WE}{pos:Pos}{st:Stmt}{rest:List Stmt}{w u:WS}
def aw  : ESs X [] JC:=⟨Lq⟩
def mz'(i:ES X st w)(j:ESs X rest u):ESs X (st::rest) (wSeq w u):=⟨C8 i.h j.h⟩
def aa(i:ES X st w):ESs X [st] w:=⟨L6 i.h⟩
end
section
variable {X:Cx}{a b c e:Expr}{es:List Expr}{p q r f:WE}{m:WA}{o:WT}{pos:Pos}{st:Stmt}{rest l d:List Stmt}{w u:WS}
def al(h:EE X e f):ES X (.Return (some e) pos) (wRet f):=⟨QX h.h⟩
def cY(h:EE X e f)(hs:abH e none pos.line X.env=pure false:=by rfl):ES X (.Expr e pos) (Kl f):=⟨K6 h.h hs⟩
def bf(i:ET X t o)(h:ESs X l w)(g:ESs X d u):ES X (.If t l d pos) (wIfS o w u):=⟨VP i.h h.h g.h⟩
def y0  : ES X st Jd:=⟨FB⟩
theorem dj{x:Str}(j:X.N.Nodup)(n:X.N[i]?=some x)(g:Loc X.env.scope x)(h:EE X e f)(hs:abH e (some (.Name x pos')) pos.line X.env=pure false:=by rfl)(k:X.fn x=true\/X.env.scope.names.lookup x=some .local:=by first|exact .inl rfl|exact .inr rfl|assumption):ES X (.Assign [.Name x pos'] e pos) (wSet i f):=⟨PJ j n g h.h hs k⟩
theorem oH{x:Str}(g:X.N.Nodup)(k:X.N[i]?=some x)(h:Loc X.env.scope x)(j:X.fn x=true\/X.env.scope.names.lookup x=some .local:=by first|exact .inl rfl|exact .inr rfl|assumption):EG X (.Name x pos) (gM i):=⟨Lz g k h j⟩
def bh  : EGs X [] KM:=⟨Lr⟩
def ah{e:Expr}{es:List Expr}(h:EG X e g)(i:EGs X es gs)(hs:(abE (e::es) X.env).map (·.2)=ad8 e X.env::(abE es X.env).map (·.2):=by rfl):EGs X (e::es) (ze g gs):=⟨CJ h.h i.h hs⟩
theorem bv{es:List Expr}{k:Nat}(h:EGs X es gs)(j:X.calm=true:=by rfl)(i:(abE es X.env).length=n:=by rfl)(g:(abE es X.env).findIdx? (·.1)=none:=by rfl):EG X (.Tuple es k pos) (D7 n gs):=⟨QQ h.h j i g⟩
theorem cQ(h:EE X e f)(k:EG X tg g)(hs:ac9 [tg] e pos.line X.env=pure false:=by rfl)(j:ada [tg] e X.env=pure none:=by rfl)(i:(abE [tg] X.env).map (·.2)=[ad8 tg X.env]:=by rfl):ES X (.Assign [tg] e pos) (wAsg f g):=⟨Ub h.h k.h hs j i⟩
theorem lj{x:Str}{g h pt:Pos}{kt k2 pt2}(t:X.N.Nodup)(z:X.N[i]?=some x)(v:X.N[j]?=some y)(k:i≠j)(n:X.env.scope.names.lookup x=some .local)(A:X.env.scope.names.lookup y=some .local)(ha:EA X [a,b] m)(s:ada [.Tuple [.Name x g,.Name y h] kt pt] (.Tuple [a,b] k2 pt2) X.env=pure (some [x,y]))(B:X.calm=true:=by rfl)(hs:ac9 [.Tuple [.Name x g,.Name y h] kt pt] (.Tuple [a,b] k2 pt2) pos.line X.env=pure false:=by rfl):ES X (.Assign [.Tuple [.Name x g,.Name y h] kt pt] (.Tuple [a,b] k2 pt2) pos) (wPar i j m):=⟨Uh t z v k n A ha.h s B hs⟩
end
section
variable {X:Cx}{tg a b c e i:Expr}{es:List Expr}{l m n h:WE}{j:WA}{k:WT}{pos:Pos}{st:Stmt}{rest d f:List Stmt}{w u:WS}
def bI(g:EE X e h):EI X tg e (Js h):=⟨UD g.h⟩
theorem ce(o:Gl X "range")(g:X.mg "range" = none)(ha:EA X [a] j)(hs:OR [a] X.env=[(false,eval a X.env)]:=by first|exact cK rfl|rfl):EI X tg (.Call (.Name "range" p) [a] [] pos) (Bq j):=⟨zh o g ha.h hs⟩
theorem bJ(q:EI X tg i wi)(p:EG X tg g)(hb:ESs X d w)(hp:afV (model X.prog X.w) X.A X.env X.xe)(o:X.calm=true:=by rfl)(hs:∀x,aaP i X.env x=pure x:=by intro _;rfl):ES X (.For tg i d [] pos) (wFor wi g w):=⟨ON q.h p.h hb.h hp o hs⟩
def fJ(g:ET X t k)(hb:ESs X d w)(hp:afV (model X.prog X.w) X.A X.env X.xe):ES X (.While t d [] pos) (zu k w):=⟨FT g.h hb.h hp⟩
end
section
variable {X:Cx}{scope sc:Scope}{own fr:List Str}{ps:List Nat}{elt tg a f b:Expr}{ifs e:List Expr}{pos d p:Pos}{w k:WI}{g m:WG}{tt l:WT}{j:WE}
theorem cG(S:b8 own fr scope sc)(o:EI X tg a w)(t:∀cl s H C ex,EG (bc X scope cl (own++fr) s H C ex) tg g)(r:∀cl s H C ex,ETs (bc X scope cl (own++fr) s H C ex) ifs tt)(n:∀cl s H C ex,EE (bc X scope cl (own++fr) s H C ex) elt j)(h:X.env.scope=sc:=by rfl)(c:ps.map (λi=>X.N[i]?)=fr.map some:=by rfl)(q:X.calm=true:=by rfl)(hs:∀x,aaP a X.env x=pure x:=by intro _;rfl):EE X (.ListComp elt [⟨tg,a,ifs,0⟩] scope pos) (mL w own ps g tt j):=⟨GC S o.h (λcl s H C ex=>(t cl s H C ex).h) (λcl s H C ex=>(r cl s H C ex).h) (λcl s H C ex=>(n cl s H C ex).h) h c q hs⟩
def cZ  : ETs X [] tm:=⟨Jh⟩
def vj{t:WT}(h:ET X c t):ETs X [c] t:=⟨JH h.h⟩
theorem z9(S:b8 own fr scope sc)(r:X.N.Nodup)(t:X.N[i]?=some y)(c:X.env.scope.names.lookup y=some .local)(z:EI X tg a w)(A:∀cl s H C ex,EG (bc X scope cl (own++fr) s H C ex) tg g)(u:∀cl s H C ex,ETs (bc X scope cl (own++fr) s H C ex) ifs tt)(q:∀cl s H C ex,EE (bc X scope cl (own++fr) s H C ex) elt j)(o:abH (.ListComp elt [⟨tg,a,ifs,0⟩] scope pos) (some (.Name y p)) d.line X.env=pure true:=by rfl)(h:X.env.scope=sc:=by rfl)(n:ps.map (λi=>X.N[i]?)=fr.map some:=by rfl)(v:X.calm=true:=by rfl)(hs:∀x,aaP a X.env x=pure x:=by intro _;rfl):ES X (.Assign [.Name y p] (.ListComp elt [⟨tg,a,ifs,0⟩] scope pos) d) (wSet i (mL w own ps g tt j)):=⟨Dw S r t c z.h (λcl s H C ex=>(A cl s H C ex).h) (λcl s H C ex=>(u cl s H C ex).h) (λcl s H C ex=>(q cl s H C ex).h) o h n v hs⟩
theorem zO(S:b8 own fr scope sc)(z:X.N.Nodup)(A:X.N[i]?=some y)(c:X.env.scope.names.lookup y=some .local)(E:EI X tg a w)(F:∀cl s H C ex,EG (bc X scope cl (own++fr) s H C ex) tg g)(B:∀cl s H C ex,ETs (bc X scope cl (own++fr) s H C ex) ifs tt)(u:∀cl s H C ex,EI (bc X scope cl (own++fr) s H C ex) f b k)(o:∀cl s H C ex,EG (bc X scope cl (own++fr) s H C ex) f m)(n:∀cl s H C ex,ETs (bc X scope cl (own++fr) s H C ex) e l)(v:∀cl s H C ex,EE (bc X scope cl (own++fr) s H C ex) elt j)(t:abH (.ListComp elt [⟨tg,a,ifs,0⟩,⟨f,b,e,0⟩] scope pos) (some (.Name y p)) d.line X.env=pure true:=by rfl)(h:X.env.scope=sc:=by rfl)(q:ps.map (λi=>X.N[i]?)=fr.map some:=by rfl)(D:X.calm=true:=by rfl)(hs:∀x,aaP a X.env x=pure x:=by intro _;rfl)(r:∀cl C x,aaP b (agI scope cl C X.env) x=pure x:=by intro _ _ _;rfl):ES X (.Assign [.Name y p] (.ListComp elt [⟨tg,a,ifs,0⟩,⟨f,b,e,0⟩] scope pos) d) (wSet i (uW w own ps g tt k m l j)):=⟨Fg S z A c E.h (λcl s H C ex=>(F cl s H C ex).h) (λcl s H C ex=>(B cl s H C ex).h) (λcl s H C ex=>(u cl s H C ex).h) (λcl s H C ex=>(o cl s H C ex).h) (λcl s H C ex=>(n cl s H C ex).h) (λcl s H C ex=>(v cl s H C ex).h) t h q D hs r⟩
end
section
variable {X:Cx}
theorem ae{a b:Expr}{c w:WE}(ha:EE X a c)(hb:EE X b w)(hs:uq b:=by intro _ _;rfl):EE X (.Subscript a b pos) (wBin qp c w):=⟨UQ ha.h hb.h hs⟩
end
section
variable {X:Cx}{o a b c e:Expr}{es:List Expr}{g k l m w h:WE}{j:WA}{pos f d:Pos}
theorem iu{name:Str}{id:String}{ob:WM}(slot:Slot "list" name id)(r:agi (.builtin id)=pure (.type "method_descriptor"))(s:MtM X id (mM X.kx ob))(ho:EE X o g)(ha:EA X (e::es) j)(p:aa5 o name X.env (eval o X.env)=eval o X.env:=by rfl)(q:((abw d (OR (e::es) X.env)).all (λx=>!x.1)&&(afk d (adD [] X.env)).all (λx=>x.1.isSome)
   && decide ((e::es).length+([]:List adm).length+(if ([]:List adm).isEmpty then 0 else 1)<30))=true:=by rfl) (n:(f.endLine==d.line)=true:=by rfl) (hs:OR (e::es) X.env=(false,eval e X.env)::OR es X.env:=by first|exact aV rfl|rfl) (i:(abw d (OR es X.env)).any (·.1)=false:=by rfl):EE X (.Call (.Attribute o name f) (e::es) [] d) (wML ob g j):=⟨Vh slot r s ho.h ha.h p q n hs i⟩
theorem ol{b i:Expr}(n:EE X e w)(ho:EE X b g)(q:EE X i h)(hs:ac9 [.Subscript b i pos'] e pos.line X.env=pure false:=by rfl)(p:ada [.Subscript b i pos'] e X.env=pure none:=by rfl)(r:(abE [.Subscript b i pos'] X.env).map (·.2)=[ad8 (.Subscript b i pos') X.env]:=by rfl)(ha:∀v,ad8 (.Subscript b i pos') X.env v=(do
   let ov <- ady [v] (eval b X.env)
   let iv <- ady [v,ov] (eval i X.env)
   adx pos'
   ady [v,ov,iv] (ahs ov iv v)
   release [v,ov,iv] []):=by intro _;rfl):ES X (.Assign [.Subscript b i pos'] e pos) (Kg w g h):=⟨JQ n.h ho.h q.h hs p r ha⟩
def dq  : EO X none t6:=⟨Ng⟩
def dB(i:EE X e w):EO X (some e) (KL w):=⟨JR i.h⟩
def cN{p:Pos}(hr:SlR X (sM X.kx ob))(i:EE X e w)(n:EO X lo wl)(q:EO X hi wh):EE X (.Subscript e (.Slice lo hi none p) pos) (wSl ob w wl wh):=⟨GH hr i.h n.h q.h⟩
end
section
variable {X:Cx}{a:Expr}{es:List Expr}{w:WA}{pos p:Pos}{k n:Nat}{sp:SpM}{x:Str}
theorem mf'(F:FnM X.prog X.w X.K X.mg X.base x k n sp)(hr:Room k X.A)(ha:EA X (a::es) w)(d:Gl X x:=by rfl)(b:(x==("__debug__" : Str))=false:=by decide)(c:OR (a::es) X.env=(false,eval a X.env)::OR es X.env:=by first|exact aV rfl|rfl)(h:(abw pos (OR es X.env)).any (·.1)=false:=by rfl):EE X (.Call (.Name x p) (a::es) [] pos) (zm sp w):=⟨FQ F hr ha.h d b c h⟩
end
section
variable {X:Cx}{tg a b c e:Expr}{es:List Expr}{g h i j w k:WE}{l:WA}{pos p d:Pos}
theorem Jt{x:Str}(s:EE X e w)(t:IsT T f)(m:X.mg "isinstance" = none)(y:X.mg x=none)(u:aaL x=some (.type T))(o:Gl X "isinstance":=by rfl)(z:Gl X x:=by rfl)(v:x ≠ "__name__":=by decide)(hd:(x==("__debug__" : Str))=false:=by decide)(n:OR [e,.Name x d] X.env=(false,eval e X.env)::OR [.Name x d] X.env:=by rfl)(q:OR [.Name x d] X.env=(false,eval (.Name x d) X.env)::OR [] X.env:=by rfl)(r:(abw pos (OR [.Name x d] X.env)).any (·.1)=false:=by rfl):EE X (.Call (.Name "isinstance" p) [e,.Name x d] [] pos) (wIsT f w):=⟨Sw s.h t m y u o z v hd n q r⟩
end
theorem ba{P:aaA}{w:World}{K:Io}{base:aaR}{x:Str}{k:Nat}(D:DefM K mg x st ps)(S:FnScope N ps (ac st))(g:ps.length=n)(e:N.length=nN)(d:n≤nN)(ar:∀as a,sp as a->as.length=n)
  (h:∀(c:oR) (A:aa2) (outer:List Env) (s:Ad) (H:Hp) (E:XK) (f:Addr),Room k (A.deeper (ad9 x (ac st) s.heap.objs.size f c)) ->
   ∃b,ESs (cxOf CX0 P w K mg base N x (ac st) f c A outer s H E).nox (bV st) b/\∀as a,as.length=n->sp as a->b {nx:=λm=>a (.imm .none) (m.os.take m.np),rt:=λr m=>retK a m r} (gl nN as)) :
  FnM P w K mg base x (k+1) n sp:=V6 D S g e d ar λc A outer s H E f hr=>let ⟨b,h1,h2⟩:=h c A outer s H E f hr;⟨b,h1.h,h2⟩
theorem LP{P:aaA}{w:World}{K:Io}{base:aaR}{x:Str}{k:Nat}{f:Addr}(F:Fun K x x st f fd)(S:FnScope N ps (ac st))(g:ps.length=n)(e:N.length=nN)(d:n≤nN)
  (h:∀(c:oR) (A:aa2) (outer:List Env) (s:Ad) (H:Hp) (E:XK) (f:Addr),Room k (A.deeper (ad9 x (ac st) s.heap.objs.size f c)) ->
   ∃a,ESs (cxOf CX0 P w K mg base N x (ac st) f c A outer s H E).nox (bV st) a/\∀as b,as.length=n->sp as b->a {nx:=λm=>b (.imm .none) (m.os.take m.np),rt:=λr m=>retK b m r} (gl nN as)) :
  FnOk P w K mg base CX0 (k+1) f fd ps (spOf ⟨K,w⟩ n sp):=Oh F S g e d λc A outer s H E f hr=>let ⟨a,h1,h2⟩:=h c A outer s H E f hr;⟨a,h1.h,h2⟩
end L2
namespace HT
open PySem PySem.Spec PyProof.Rows
section
variable {prog:aaA}{w:World}{A:aa2}{E:oR->Ad->Prop}{s:Ad}
def cut_whole{t g:Addr}{items:Array oR}{vl v:oR}{lo f:Option Int}{Q:oR->Ad->Prop}(b:IsTup s.heap t items)(hs:s.heap.IsSliceOf g vl v .none)(k:agf vl lo)(p:agf v f)
  (i:sIx items.size 0 lo=0/\sIx items.size items.size f=items.size) (h:Q (.ref t) s):wpAny (model prog w) A (agX (.ref t) (.ref g)) Q E s:=by
 let⟨os,c,e,j⟩:=id hs;have d:s.TypeIs (.ref g) "slice":=⟨os,c,e⟩;unfold agX
 try with_reducible refine abu ?_
 refine aD (afB b.typeIs (by decide) (aD (aaU (name:=ack "__getitem__") b.typeIs abn (aa0 abn b.typeIs entry_tuple_getitem ?_ (args_tuple_getitem _ _)))));show wpAny _ _ (adC (.ref t) >>= _) _ _ s;refine aD (ahb b (aD (adl d ?_)));rw[if_pos (by decide)];refine aD (gm hs k p ?_);have a:(((sIx items.size 0 lo:Nat):Int)==0&&(1:Int)==1&&(sIx items.size items.size f-sIx items.size 0 lo)==items.size)=true:=by
  rw[i.1,i.2];simp
 show wpAny _ _ (if _=true then _ else _) _ _ s;rw[if_pos a];refine aD ?_;unfold afn;refine aD (adl b.typeIs (Dl ?_));rw[if_pos (by rfl)];exact aD (acO (Dl ⟨_,rfl,Dl h⟩))
end
end HT
namespace L2
open PySem PySem.Spec PyProof.Rows
variable{hi lo:Option Int}{Kr:R->Prop}{ds es:List dL}{K:R->MSt->Prop}{X:Cx}{pins:List (Addr×Obj)}{σ:St}{H:Hp}{h h':aaR}{t t1 t2:Bool}{a b i1 i2 it l l1 l2 z:Addr}{i n:Nat}{items its xs ys:Array oR}{Q:oR->Ad->Prop}{f:oR}{elts:List Expr}
section
variable {X:Cx}
def oCut:R->Option Int->Option Int->MSt->(R->Prop)->Prop:=λr lo hi m K=>(∃ds,lsOf m r=some ds/\K (.new (cutD ds lo hi)))\/∃ds,r = .imm (.tuple ds)/\K (.imm (.tuple (cutD ds lo hi)))
theorem f8:SlR X (sM X.kx oCut):=by
 intro pins s j H x v vl y lo hi B Q I u hs w q F;obtain⟨C,m,σ,G,r,E,R,h,k|⟨ds,rfl,k⟩,c⟩:=F
 .exact FG pins s j H x v vl y lo hi B Q I u hs w q ⟨C,m,σ,G,r,E,R,h,k,c⟩
 .obtain⟨a,xs,rfl,f,g⟩:=bz (h)
  by_cases o:HT.sIx xs.length 0 lo=0/\HT.sIx xs.length xs.length hi=xs.length
  .cases u;let⟨its,D,A,J⟩:=I.tuple f;have d:its.toArray.size=xs.length:=by rw[aay];exact D.length.symm
   refine⟨"tuple",_,abn.lookup,A.typeIs,?_⟩;refine HT.cut_whole A hs w q (by rw[d];exact o) ⟨.ref a,H,I,rfl,c _ _ H k R (lR (df f ?_)) (Frm.refl _ _)⟩;have e:cutD ds lo hi=ds:=by
    unfold cutD;rw[g.length,o.1,o.2,List.drop_zero,Nat.sub_zero,<-g.length,aae]
   rw[e];exact g
  .exact T6 pins s j H _ v vl y lo hi B Q I u hs w q ⟨a,xs,rfl,f,o,λp hp=>c _ _ _ k (R.lay hp) (lR (df (SqT.of ak) ((xU g lo hi).mono (bo (.inl hp))))) (cx hp)⟩
def Lm{m:MSt}{r:R}(e:lsOf m r=some ds)(h:Kr (.new (cutD ds lo hi))):oCut r lo hi m Kr:=.inl ⟨ds,e,h⟩
def Uf{m:MSt}(h:Kr (.imm (.tuple (cutD ds lo hi)))):oCut (.imm (.tuple ds)) lo hi m Kr:=.inr ⟨ds,rfl,h⟩
def ko(n:Nat):cutD ds none (some (n:Int))=ds.take n:=by
 unfold cutD;rw[HT.sIx_none,HT.sIx_nat];simp
theorem kM(n:Nat):cutD ds (some (n:Int)) none=ds.drop n:=by
 unfold cutD;rw[HT.sIx_none,HT.sIx_nat]
 by_cases h:n≤ds.length
 .rw[Nat.min_eq_left h];exact List.take_of_length_le (by simp)
 .rw[Nat.min_eq_right (by omega),List.drop_length,List.drop_eq_nil_of_le (by omega),List.take_nil]
def oIn(c:Bool):WO:=λr1 r m K=>∃d ds,asD m r1=some d/\(asD m r=some (.list ds)\/asD m r=some (.tuple ds))/\d.canLay0=true/\aa9 ds=true/\d.depth≤60/\K (.imm (.bool (if c then !ds.any (λy=>aar y d)else ds.any λy=>aar y d)))
theorem k8(L:X.A.units+64<cLine):OpR X (abp .NotIn) (rM X.kx (oIn true)):=by
 intro pins s o H x y v u Q I B r ⟨E,m,σ,J,M,r1,F,G,R,C,p,⟨d,ds,A,e,j,g,dp,ho⟩,k⟩;let⟨D,w⟩:=C.reads I R B A (abe _ j);have c:EP X pins o Q _ s:=⟨.bl _,H,I,rfl,k _ _ H ho R (jV _) (Frm.refl _ _)⟩;have q:X.A.units+1+min (aaw ds) d.depth<cLine:=by have:=aeE (aaw ds) d.depth;omega
 rcases e with e|e
 .obtain⟨bs,q2⟩:=p.reads I R r e (by simp[acR];exact acd _ g);exact SeqAt.notIn_list_reads q2 w g j q c
 .obtain⟨bs,q2⟩:=p.reads I R r e (by simp only[acR];exact acd _ g);exact SeqAt.notIn_tuple_reads q2 w g j q c
def x_in{m:MSt}{r1 r:R}{c:Bool}{d:dL}{k k':Nat}(g:asD m r1=some d)(j:asD m r=some (.list ds)\/asD m r=some (.tuple ds))(s1:Shp k d)(s2:∀y∈ds,Shp k' y)(e:k≤60)(h:Kr (.imm (.bool (if c then !ds.any (λy=>aar y d)else ds.any λy=>aar y d)))):oIn c r1 r m Kr:=
 ⟨d,ds,g,j,s1.cl,(km s2).1,aao s1.dp e,h⟩
def VN(P:List dL->Prop):R->Prop
 | .new ds=>P ds
 |_=>False
def zY:WM:=λr rs m K=>sk (λk=>on1 (VN λes=>∃ds,m.os[k]?=some ds/\ds.length+es.length≤aaf/\K (.imm .none) {m with os:=m.os.set k (ds++es)}) rs) r
theorem m8:MtM X "list.extend" (mM X.kx zY):=by
 intro pins s e H x xs v A Q I D B ⟨G,m,σ,M,N,r,rs,J,R,E,d,ho,c⟩;let⟨k,a,rfl,j,rfl,ho⟩:=uX E ho;let⟨w,L,rfl,rfl,d,ho⟩:=fg d ho
 cases w with
 |imm _=>exact ho.elim
 |obj _=>exact ho.elim
 | «at» _ _=>exact ho.elim
 |newT _=>exact ho.elim
 |new es=>
  let⟨ds,p,y,ho⟩:=ho;let⟨b,C,rfl,u,hb,o⟩:=d;let⟨ys,q,g⟩:=R.own _ _ ds j p;let⟨R2,F⟩:=R.setO j q (g.append o);exact yy pins s e H _ _ v A Q I D B ⟨a,b,ys,C,rfl,rfl,q,hb,by rw[<-g.length,<-o.length];exact y,c _ _ _ _ ho rfl R2 qZ F⟩
def Du{m:MSt}{k:Nat}(e:m.os[k]?=some ds)(c:ds.length+es.length≤aaf)(h:K (.imm .none) {m with os:=m.os.set k (ds++es)}):zY (.obj k) [.new es] m K:=⟨ds,e,c,h⟩
def Ip:WM:=λr rs m K=>on1 (c8 λd=>∃ds j,lsOf m r=some ds/\d.canLay0=true/\aa9 ds=true/\d.depth≤60/\(∃y,ds[j]?=some y/\aar y d=true)/\(∀(i:Nat) y,i<j->ds[i]?=some y->aar y d=false)/\K (.imm (.int (j:Nat))) m) rs
theorem AW(hu:X.A.units+64<cLine):MtM X "list.index" (mM X.kx Ip):=by
 intro pins s σ' H x xs v us Q I rx W ⟨α,m,σ,H0,H1,r,rs,Kc,R,h1,F,ho,E⟩;let⟨r2,v2,rfl,rfl,F,ho⟩:=fg F ho;let⟨d,rfl,hd,ds,j,el,M,G,dp,⟨y,O,eq⟩,L,ho⟩:=fc F ho;let⟨a,zs,rfl,f,g⟩:=h1.list R el;cases rx;let⟨u,rfl,V⟩:=W.one;let⟨bs,qd⟩:=Den.reads I (abe _ M) hd V;let⟨its,w,pl,Y⟩:=I.list f;let⟨o,n,A,S,c⟩:=pl;let⟨as,C⟩:=DenAll.reads I (acd _ G) g w;have hm:X.A.units+1+min (aaw ds) d.depth<cLine:=by have:=aeE (aaw ds) d.depth;omega
 have p:=ahk ds _ _ G C;have P:its.length=ds.length:=by rw[<-p,gE]
 have T:j<its.length:=by rw[P];exact(DL.mp O).1
 have U:∀(i:Nat) (hi:i<its.length) y,ds[i]?=some y->adp s.heap its[i]=y:=λi hi y e=>by
  rw[<-p,aaa,iO hi]at e;exact aam e
 let⟨cls,Z,N,sl⟩:=o;let⟨c,k⟩:=c;dsimp only at S k;subst S;subst k;have D:(j:Int)<2^63-1:=by
  have J:=Y;rw[aaj]at J;have:=w.length;omega
 refine aea af0 ⟨_,A,rfl⟩ PySem.F.entry_list_index (PySem.F.args_list_index_2 _ _)
  (SeqAt.list_indexAt a its.toArray _ Z sl u (λy=>aar (adp s.heap y) d) j (by simpa using T) D ?_ ?_) ⟨A,ahP (by simpa using C) qd G M hm,?_⟩
 .show aar (adp s.heap its[j]) d=true;rw[U j T y O];exact eq
 .intro i hi hlt;have q:i<its.length:=by simpa using hi
  show aar (adp s.heap its[i]) d=false;have B:i<ds.length:=by rw[<-P];exact q
  rw[U i q _ (iO B)];exact L i _ hlt (iO B)
 .exact⟨.int (j:Nat),H,I.tok _,⟨_,rfl⟩,E _ _ _ H ho rfl R (e8 _) (Frm.refl _ _)⟩
def NU{m:MSt}{r:R}{d y:dL}{j k k':Nat}(e:lsOf m r=some ds)(s1:Shp k d)(s2:∀y∈ds,Shp k' y)(g:k≤60)(o:ds[j]?=some y)(eq:aar y d=true)(c:∀(i:Nat) y,i<j->ds[i]?=some y->aar y d=false)(h:K (.imm (.int (j:Nat))) m):Ip r [.imm d] m K:=
 ⟨ds,j,e,s1.cl,(km s2).1,aao s1.dp g,⟨y,o,eq⟩,c,h⟩
end
theorem Inv.turneds{s:Ad}{t':Nat}{ch:List Addr}(I:Inv X pins σ H s)(k:∀b o,b∉ch->s.heap.get? b=some o->h'.get? b=some o)(j:∀b∈ch,FpOk X pins H b):Inv X pins σ H {s with heap:=h',toks:=t' }:=by
 have g:∀b u,H b=some u->b∉ch:=λb u e z=>by have:=(j b z).1;grind
 have w:=λz=>(j _ z).2.1 rfl;refine I.step (g':=s.gens) (d':=s.drawn) (λb hb=>?_) (λb o _ _ d e _=>k b o d e) (λb o _ _ d e _=>⟨o.slots,k b o d e⟩) (λ_ _ _ _ n=>n)
  (λb o d e=>⟨o,k b o d e⟩) (λ_ _ e=>e) (λ_ _ _ e=>e) (λb x e=>⟨#[],by rw[e];simp⟩) (λm p=>?_) (λb u e=>?_) I.bare
 .obtain⟨_,f1,_,f3,f4,f5⟩:=j b hb;exact⟨f3,f1,f4,f5⟩
 .obtain⟨o,es,ep,ho,r⟩:=p;exact⟨o,es,ep,k _ o w ho,r⟩
 .refine(I.hok b u e).stay (λc v d q=>k c v ?_ q) (λ_ q=>q) λ_ _ q=>q;rcases d with z|z
  .rw[z];exact g b u e
  .exact g c _ z
def SubI(t:Bool)(h:aaR)(i l:Addr)(k:Nat):Prop:=if t then h.IsTupleIter i l k else h.IsListIter i l k
def SubS(t:Bool)(h:aaR)(l:Addr)(its:Array oR):Prop:=if t then h.IsTuple l its else h.IsList l its
def SubI.ext{i:Addr}{k:Nat}(x:SubI t h i l k)(e:afD b h h')(n:i≠b):SubI t h' i l k:=by
 cases t
 .exact aaR.IsListIter.extBut (x) e n
 .exact aaR.IsTupleIter.extBut (x) e n
def SubI.obj{i:Addr}{k:Nat}(x:SubI t h i l k):∃o vs,h.get? i=some o/\o.data = .fields vs:=by
 cases t
 .obtain⟨o,e,_,d⟩:=(x);exact⟨o,_,e,d⟩
 .obtain⟨o,e,_,d⟩:=(x);exact⟨o,_,e,d⟩
def SubI.keep{i:Addr}{k:Nat}(x:SubI t h i l k)(e:∀o,h.get? i=some o->h'.get? i=some o):SubI t h' i l k:=by
 cases t
 .obtain⟨o,q,r⟩:=(x);exact⟨o,e o q,r⟩
 .obtain⟨o,q,r⟩:=(x);exact⟨o,e o q,r⟩
def SubS.keep(x:SubS t h l its)(e:∀o,h.get? l=some o->h'.get? l=some o):SubS t h' l its:=by
 cases t
 .obtain⟨o,q,r⟩:=(x);exact⟨o,e o q,r⟩
 .obtain⟨o,q,r⟩:=(x);exact⟨o,e o q,r⟩
def SubS.ext(x:SubS t h l its)(e:afD b h h')(n:l≠b):SubS t h' l its:=x.keep λo q=>e l o n q
section
variable {prog:aaA}{w:World}{A:aa2}{E:oR->Ad->Prop}{s:Ad}
theorem oU{c:Type}{Q:c->Ad->Prop}(d:A.handled=none)(h:∀h' e,(∀b o,s.heap.get? b=some o->h'.get? b=some o)->(∃o,h'.get? e=some o/\o.cls = .type "StopIteration")->E (.ref e) {s with heap:=h' }) :
  wpAny (model prog w) A (do raiseNew (<- newExc (.type "StopIteration") []):Sem c) Q E s:=by
 refine aD ?_;refine aD ?_;refine aa3 ?_ (by size_fits);refine aD (wpAny_of_eq (a:=abM) (by rfl) (aa3 ?_ (by size_fits)));refine aD (m:=handled) (wpAny_handled ?_);rw[d];refine aD (Dl (wpAny_throw (h _ _ (λb o q=>AD _ (AD _ q)) ⟨_,aai _ rfl,rfl⟩)))
def V7(c:s.heap.IsTupleIter it l i)(h:Q (.ref l) s):wpAny (model prog w) A (field (.ref it) 0) Q E s:=let ⟨_,ho,_,hd⟩:=c;aaQ ho hd (x:=.ref l) rfl h
def WF(c:s.heap.IsTupleIter it l i)(h:Q (.int i 0) s):wpAny (model prog w) A (field (.ref it) 1) Q E s:=let ⟨_,ho,_,hd⟩:=c;aaQ ho hd (x:=.int i 0) rfl h
def UY{Q:Option (Array oR)->Ad->Prop}(c:s.heap.IsTuple l items)(h:Q (some items) s):wpAny (model prog w) A (seqItems? (.ref l)) Q E s:=let ⟨_,ho,_,_,hd⟩:=c;acS ho hd h
theorem vk{Q:Option oR->Ad->Prop}(c:s.heap.IsTupleIter it l i)(j:s.heap.IsTuple l items)
  (hs:∀x,items[i]?=some x->∀h',h'.IsTupleIter it l (i+1)->abo it s.heap h'->Q (some x) {s with heap:=h' })
  (d:items[i]?=none->A.handled=none/\∀h' e,afD it s.heap h'->(∃o,h'.get? e=some o/\o.cls = .type "StopIteration")->E (.ref e) {s with heap:=h' }) :
  wpAny (model prog w) A (callSpecial? (.ref it) "__next__" []) Q E s:=by
 refine aaU (name:=ack "__next__") c.typeIs afo (aa0 afo c.typeIs F.entry_tuple_iterator_next ?_ (F.args_tuple_iterator_next_1 _))
 wp_walk using V7 c,WF c,UY j
 rcases id c with⟨o,ho,r,hd⟩;rw[aaW]
 cases q:items[i]? with
 | some x=>
  have new:(s.heap.update it (acl (·.setIfInBounds 1 (acq ((i:Int)+1))))).IsTupleIter it l (i+1):=by
   refine⟨_,abi _ ho (acU (abF hd _)),?_,?_⟩
   .exact(ahy ..).trans r
   .rw[abF hd];simp[acq]
  exact aD (m:=ac5 (.ref it) 1 _) (adE ho hd (by simp) (Dl ⟨x,rfl,hs x q _ new (ag2 ..)⟩))
 |none=>
  let⟨p,d⟩:=d q;refine aD (m:=rule _) (acO (aD (m:=ac5 (.ref it) 0 _) (adE ho hd (by simp) ?_)));exact oU (A:=A.in1) p λh' e k x=>d h' e (λb ob g z=>k b ob ((ag2 ..).extBut b ob g z)) x
theorem j9{x:oR}(c:SubI t s.heap it l i)(g:SubS t s.heap l items)(d:items[i]?=some x)
  (j:∀h',SubI t h' it l (i+1)->abo it s.heap h'->Q x {s with heap:=h' }):wpAny (model prog w) A (abL (.ref it)) Q E s:=by
 cases t with
 |false=>exact wpAny_nextOf_list_item (c) (g) d j
 |true=>exact aD (vk (c) (g) (λy e h' a b=>by rw[d]at e;cases e;exact Dl (j h' a b)) λno=>by rw[d]at no;cases no)
theorem uj(g:A.handled=none)(c:SubI t s.heap it l i)(m:SubS t s.heap l items)(d:items[i]?=none)
  (j:∀h' e,afD it s.heap h'->(∃o,h'.get? e=some o/\o.cls = .type "StopIteration")->E (.ref e) {s with heap:=h' }):wpAny (model prog w) A (abL (.ref it)) Q E s:=by
 cases t with
 |false=>exact wpAny_nextOf_list_end g (c) (m) d j
 |true=>exact aD (vk (c) (m) (λy k=>by rw[d]at k;cases k) λ_=>⟨g,j⟩)
structure Apart(z TI TO i1 i2 l1 l2:Addr):Prop where
 d:[z,TI,TO,i1,i2].Nodup
 m1:l1∉[z,TI,TO,i1,i2]
 m2:l2∉[z,TI,TO,i1,i2]
def Apart.old{TI TO:Addr}(D:Apart z TI TO i1 i2 l1 l2):ZipApart z TI TO i1 i2 l1 l2:=by
 let⟨d,m1,m2⟩:=D;simp at d m1 m2;let⟨⟨a1,a2,c,m⟩,⟨b1,b2,e⟩,⟨g,k⟩,j⟩:=d;exact⟨abb a1,abb a2,abb c,abb m,b1,b2,e,g,k,j,m1.1,m1.2.2.1,m1.2.2.2.1,m1.2.2.2.2,m2.1,m2.2.2.1,m2.2.2.2.1,m2.2.2.2.2⟩
structure GW(t1 t2:Bool)(z TI TO i1 i2 l1 l2:Addr)(k:Nat)(h:aaR):Prop where
 z:IsZip h z TI TO .none
 ti:ae6 h TI (.ref i1) (.ref i2)
 to:∃a b,ae6 h TO a b
 s1:SubI t1 h i1 l1 k
 s2:SubI t2 h i2 l2 k
def zf0{TI TO:Addr}(c:IsZip s.heap z TI TO f)(h:Q f s):wpAny (model prog w) A (field (.ref z) 0) Q E s:=aaQ c rfl (x:=f) rfl h
def zf2{TI TO:Addr}(c:IsZip s.heap z TI TO f)(h:Q (.bool false) s):wpAny (model prog w) A (field (.ref z) 2) Q E s:=aaQ c rfl (x:=.bool false) rfl h
def zf3{TI TO:Addr}(c:IsZip s.heap z TI TO f)(h:Q (.ref TI) s):wpAny (model prog w) A (field (.ref z) 3) Q E s:=aaQ c rfl (x:=.ref TI) rfl h
theorem GN{TI TO:Addr}{k:Nat}{x y:oR}{Q:Option oR->Ad->Prop}(D0:Apart z TI TO i1 i2 l1 l2)(Z:GW t1 t2 z TI TO i1 i2 l1 l2 k s.heap)
  (Y:SubS t1 s.heap l1 xs) (V:SubS t2 s.heap l2 ys) (hx:xs[k]?=some x) (hy:ys[k]?=some y)
  (hQ:∀h',IsZip h' z TI TO (acq s.heap.objs.size)->ae6 h' TO x y->SubI t1 h' i1 l1 (k+1)->SubI t2 h' i2 l2 (k+1)->ae6 h' s.heap.objs.size x y->h'.objs.size=s.heap.objs.size+1 ->
   (∀c o,c∉[z,TO,i1,i2]->s.heap.get? c=some o->h'.get? c=some o)->Q (some (.ref s.heap.objs.size)) {s with heap:=h' }):wpAny (model prog w) A (acP (.ref z)) Q E s:=by
 have D:=D0.old;let⟨I,U,⟨a,b,T⟩,h1,h2⟩:=Z;have hT:s.TypeIs (.ref z) "zip":=(⟨_,I,rfl⟩);unfold acP;refine aD (acK (aaU (name:=ack "__next__") hT ae7 (aa0 ae7 hT F.entry_zip_next ?_ (F.args_zip_next_1 _))));refine aD (m:=field (.ref z) 2) (zf2 I (aD (m:=field (.ref z) 3) (zf3 I (aD (acS U rfl ?_)))));refine aD (m:=abR (.ref z)) (aD (m:=field (.ref z) 0) (zf0 I (Dl ?_)));simp only[if_true];refine aD (acO (aD (aaQ I rfl (x:=.ref TO) rfl (aD (aaC I (by simp) λg1 B s1=>?_)))));replace B:IsZip g1 z TI TO .ellipsis:=B;refine aD ?_;simp only[ad5,List.forIn_nil,ahQ,List.zipIdx_nil];refine aD (aD (afL (aD (m:=abL (.ref i1)) ?_)));refine(j9 (h1.ext s1.extBut D.i1z) (Y.ext s1.extBut D.l1z) hx λg2 n1 s2=>Dl ?_);have u:ae6 g2 TO a b:=s2.extBut _ _ D.TOi1 (s1.extBut _ _ D.TOz T);refine aD (acS u rfl (aD (aeU u λg3 j G=>?_)));replace j:ae6 g3 TO x b:=j;refine aD (afE (Dl (aD (aD (afL ?_)))));refine aD (m:=abL (.ref i2)) (j9 (((h2.ext s1.extBut D.i2z).ext s2.extBut D.i12.symm).ext G.extBut D.TOi2.symm) (((V.ext s1.extBut D.l2z).ext s2.extBut D.l2i1).ext G.extBut D.l2TO) hy λg4 n2 O=>Dl ?_);have v:ae6 g4 TO x b:=O.extBut _ _ D.TOi2 j;refine aD (acS v rfl (aD (aeU v λg d P=>?_)));replace d:ae6 g TO x y:=d;refine aD (afE (Dl (Dl (aD (acS d rfl (aD (afp ?_)))))));have R:g.objs.size=s.heap.objs.size:=by rw[P.1,O.1,G.1,s2.1,s1.1]
 have L:IsZip g z TI TO .ellipsis:=P.extBut _ _ D.TOz.symm (O.extBut _ _ D.i2z.symm (G.extBut _ _ D.TOz.symm (s2.extBut _ _ D.i1z.symm B)));have k5:∀c o,c∉[z,TO,i1,i2]->s.heap.get? c=some o->g.get? c=some o:=λc o r e=>by
  simp only[aaq,abf,not_or,or_false]at r;exact P.extBut _ _ r.2.1 (O.extBut _ _ r.2.2.2 (G.extBut _ _ r.2.1 (s2.extBut _ _ r.2.2.1 (s1.extBut _ _ r.1 e))))
 have n15:SubI t1 g i1 l1 (k+1):=((n1.ext G.extBut D.TOi1.symm).ext O.extBut D.i12).ext P.extBut D.TOi1.symm;have n25:SubI t2 g i2 l2 (k+1):=n2.ext P.extBut D.TOi2.symm;have N:z<g.objs.size:=aab L;refine aD (m:=acD (.ref z) (.ref g.objs.size)) ?_;have hz6:IsZip (g.push {cls:=.type "tuple",data:=.seq #[x,y]}) z TI TO .ellipsis:=AD _ L;refine aD (m:=ac5 (.ref z) 0 _) (aaC hz6 (by simp) λg7 C W=>?_);replace C:IsZip g7 z TI TO (acq g.objs.size):=C;refine aaC C (by simp) λJ p s8=>?_;replace p:IsZip J z TI TO (acq g.objs.size):=p;have S:∀c o,c≠z->g.get? c=some o->J.get? c=some o:=λc o c1 e=>s8.extBut _ _ c1 (W.extBut _ _ c1 (AD _ e));have M:ae6 J g.objs.size x y:=s8.extBut _ _ (aa8 N) (W.extBut _ _ (aa8 N) (aai _ rfl));have z8:J.objs.size=g.objs.size+1:=by rw[s8.1,W.1,abq]
 rw[R]at p M z8;have fin:wpAny (model prog w) A (pure (some (aaZ g.objs.size))) Q E {s with heap:=J}:=by
  rw[R];exact Dl (hQ J p (S _ _ D.TOz d) (n15.keep λo e=>S _ o D.i1z e) (n25.keep λo e=>S _ o D.i2z e) M z8 λc o r e=>S c o (λq=>r (by simp[q])) (k5 c o r e))
 exact Dl ⟨_,rfl,fin⟩
theorem Jx{TI TO:Addr}{k:Nat}{Q:Option oR->Ad->Prop}(Y:A.handled=none)(D0:Apart z TI TO i1 i2 l1 l2)(Z:GW t1 t2 z TI TO i1 i2 l1 l2 k s.heap)
  (G:SubS t1 s.heap l1 xs) (P:SubS t2 s.heap l2 ys) (L:xs[k]?=none\/ys[k]?=none)
  (hQ:∀h',(∀c o,c∉[z,TO,i1,i2]->s.heap.get? c=some o->h'.get? c=some o)->Q none {s with heap:=h' }):wpAny (model prog w) A (acP (.ref z)) Q E s:=by
 have D:=D0.old;let⟨y,O,⟨a,b,N⟩,h1,h2⟩:=Z;have V:s.TypeIs (.ref z) "zip":=(⟨_,y,rfl⟩);have out:∀{c:Addr},c∉[z,TO,i1,i2]->c≠z/\c≠TO/\c≠i1/\c≠i2:=λu=>by simpa only[aaq,abf,not_or,or_false]using u
 have I:∀h' e,(∀c o,c∉[z,TO,i1,i2]->s.heap.get? c=some o->h'.get? c=some o)->(∃o,h'.get? e=some o/\o.cls = .type "StopIteration") ->
   wpAny (model prog w) A (do if <- afq (.ref e) (.type "StopIteration")then pure none else throw (.ref e):Sem (Option oR)) Q E {s with heap:=h' }:=λh' e hk ⟨o,ho,u⟩=>
  aD (adi (T:= "StopIteration") (b:=true) ⟨o,ho,u⟩ afr (Dl (hQ _ hk)))
 unfold acP;refine aD (acK (aaU (name:=ack "__next__") V ae7 (aa0 ae7 V F.entry_zip_next ?_ (F.args_zip_next_1 _))));refine aD (m:=field (.ref z) 2) (zf2 y (aD (m:=field (.ref z) 3) (zf3 y (aD (acS O rfl ?_)))));refine aD (m:=abR (.ref z)) (aD (m:=field (.ref z) 0) (zf0 y (Dl ?_)));simp only[if_true];refine aD (acO (aD (aaQ y rfl (x:=.ref TO) rfl (aD (aaC y (by simp) λg1 j s1=>?_)))));replace j:IsZip g1 z TI TO .ellipsis:=j;refine aD ?_;simp only[ad5,List.forIn_nil,ahQ,List.zipIdx_nil];refine aD (aD (afL (aD (m:=abL (.ref i1)) ?_)))
 cases hx:xs[k]? with
 |none=>
  refine(uj Y (h1.ext s1.extBut D.i1z) (G.ext s1.extBut D.l1z) hx λS e s2 M=>?_);let⟨U,d,g⟩:=M;have B:IsZip S z TI TO .ellipsis:=s2 _ _ D.i1z.symm j;have v:e≠z:=λq=>by subst q;rw[B]at d;cases d;simp at g
  refine aaC B (by simp) λW _ r=>I W e (λc o u q=>?_) ⟨U,r.extBut _ _ v d,g⟩;let⟨C,_,R,_⟩:=out u;exact r.extBut _ _ C (s2 _ _ R (s1.extBut _ _ C q))
 |some x=>
  have hy:ys[k]?=none:=by rcases L with q|q;rw[hx]at q;cases q;exact q
  refine(j9 (h1.ext s1.extBut D.i1z) (G.ext s1.extBut D.l1z) hx λS n1 s2=>Dl ?_);have p:ae6 S TO a b:=s2.extBut _ _ D.TOi1 (s1.extBut _ _ D.TOz N);refine aD (acS p rfl (aD (aeU p λW hTO3 r=>?_)));refine aD (afE (Dl (aD (aD (afL ?_)))));refine aD (m:=abL (.ref i2)) (uj Y (((h2.ext s1.extBut D.i2z).ext s2.extBut D.i12.symm).ext r.extBut D.TOi2.symm) (((P.ext s1.extBut D.l2z).ext s2.extBut D.l2i1).ext r.extBut D.l2TO) hy λg4 e s4 M=>?_);let⟨U,d,g⟩:=M;have J:IsZip g4 z TI TO .ellipsis:=s4 _ _ D.i2z.symm (r.extBut _ _ D.TOz.symm (s2.extBut _ _ D.i1z.symm j));have v:e≠z:=λq=>by subst q;rw[J]at d;cases d;simp at g
  refine aaC J (by simp) λg5 _ s5=>I g5 e (λc o u q=>?_) ⟨U,s5.extBut _ _ v d,g⟩;let⟨C,c2,R,c4⟩:=out u;exact s5.extBut _ _ C (s4 _ _ c4 (r.extBut _ _ c2 (s2.extBut _ _ R (s1.extBut _ _ C q))))
end
def zit(t:Bool):String:=if t then "tuple_iterator" else "list_iterator"
abbrev itO(t:Bool)(l:Addr):Obj:={cls:=.type (zit t),data:=.fields #[.ref l,.int 0 0]}
abbrev zA(t1:Bool)(h:aaR)(l1:Addr):aaR:=h.push (itO t1 l1)
abbrev zB(t1 t2:Bool)(h:aaR)(l1 l2:Addr):aaR:=(zA t1 h l1).push (itO t2 l2)
abbrev zC(t1 t2:Bool)(h:aaR)(l1 l2:Addr):aaR:=(zB t1 t2 h l1 l2).push {cls:=.type "tuple",data:=.seq #[.ref h.objs.size,.ref (zA t1 h l1).objs.size]}
abbrev zD(t1 t2:Bool)(h:aaR)(l1 l2:Addr):aaR:=(zC t1 t2 h l1 l2).push {cls:=.type "tuple",data:=.seq #[.none,.none]}
abbrev zE(t1 t2:Bool)(h:aaR)(l1 l2:Addr):aaR:=(zD t1 t2 h l1 l2).push {cls:=.type "zip",data:=.fields #[.none,.bool false,.bool false,.ref (zB t1 t2 h l1 l2).objs.size,.ref (zC t1 t2 h l1 l2).objs.size]}
def dF{prog:aaA}{w:World}{A:aa2}{E:oR->Ad->Prop}{s:Ad}(h:SubS t s.heap l its)
  (c:Q (.ref s.heap.objs.size) {s with heap:=s.heap.push (itO t l)}):wpAny (model prog w) A (afi (.ref l)) Q E s:=by
 cases t
 .exact wpAny_pyIter_list (h) c
 .exact wpAny_pyIter_tuple (h) c
theorem Kz(t1 t2:Bool)(l1 l2:Addr)(xs ys:Array oR) :
  Meets (acE.«zip.__new__» ⟨[.type "zip",.ref l1,.ref l2],[]⟩) (λ_ R s=>SubS t1 s.heap l1 xs/\SubS t2 s.heap l2 ys/\R (.ok (.ret (.ref (zD t1 t2 s.heap l1 l2).objs.size))) {s with heap:=zE t1 t2 s.heap l1 l2}):=
 .of_wp λprog w A R s h=>by
  rcases s with⟨hp,g,d,tk,os⟩;rcases h with⟨m,j,h⟩;have p:=sub_zip;have c:=m;have k:SubS t2 (Shared.heap ⟨hp.push (itO t1 l1),g,d,tk,os⟩) l2 ys:=j.keep λo e=>AD _ e
  wp_walk using dF c,dF k
  exact⟨_,rfl,h⟩
section
variable {prog:aaA}{w:World}{A:aa2}{E:oR->Ad->Prop}{s:Ad}
theorem D5(p:SubS t1 s.heap l1 xs)(k:SubS t2 s.heap l2 ys)
  (h:∀h',GW t1 t2 (s.heap.objs.size+4) (s.heap.objs.size+2) (s.heap.objs.size+3) s.heap.objs.size (s.heap.objs.size+1) l1 l2 0 h'->(∀c o,s.heap.get? c=some o->h'.get? c=some o)->Q (.ref (s.heap.objs.size+4)) {s with heap:=h' }):wpAny (model prog w) A (call (.type "zip") [.ref l1,.ref l2]) Q E s:=by
 refine callType_new F.called_zip (by decide) (F.typeCall_zip_2 _ _) (F.newCall_zip_2 _ _) (λobj=>F.args_object_init_3 obj _ _) F.entry_zip_new (Kz t1 t2 l1 l2 xs ys) ⟨p,k,?_⟩;have q:(zA t1 s.heap l1).objs.size=s.heap.objs.size+1:=abq ..;have m:(zB t1 t2 s.heap l1 l2).objs.size=s.heap.objs.size+2:=by rw[abq,q]
 have r:(zC t1 t2 s.heap l1 l2).objs.size=s.heap.objs.size+3:=by rw[abq,m]
 have v:(zD t1 t2 s.heap l1 l2).objs.size=s.heap.objs.size+4:=by rw[abq,r]
 have u:∀c o,(zD t1 t2 s.heap l1 l2).get? c=some o->(zE t1 t2 s.heap l1 l2).get? c=some o:=λc o e=>AD _ e;have d:∀c o,(zC t1 t2 s.heap l1 l2).get? c=some o->(zE t1 t2 s.heap l1 l2).get? c=some o:=λc o e=>u c o (AD _ e);have j:∀c o,(zB t1 t2 s.heap l1 l2).get? c=some o->(zE t1 t2 s.heap l1 l2).get? c=some o:=λc o e=>d c o (AD _ e);have g:∀c o,(zA t1 s.heap l1).get? c=some o->(zE t1 t2 s.heap l1 l2).get? c=some o:=λc o e=>j c o (AD _ e);have y:(zE t1 t2 s.heap l1 l2).get? (s.heap.objs.size+4)=some {cls:=.type "zip",data:=.fields #[.none,.bool false,.bool false,.ref (s.heap.objs.size+2),.ref (s.heap.objs.size+3)]}:=by
  rw[<-v,<-r,<-m];exact aai _ rfl
 have C:(zE t1 t2 s.heap l1 l2).get? (s.heap.objs.size+3)=some {cls:=.type "tuple",data:=.seq #[.none,.none]}:=by
  rw[<-r];exact u _ _ (aai _ rfl)
 have B:(zE t1 t2 s.heap l1 l2).get? (s.heap.objs.size+2)=some {cls:=.type "tuple",data:=.seq #[.ref s.heap.objs.size,.ref (s.heap.objs.size+1)]}:=by
  rw[<-m,<-q];exact d _ _ (aai _ rfl)
 have G:(zE t1 t2 s.heap l1 l2).get? (s.heap.objs.size+1)=some (itO t2 l2):=by
  rw[<-q];exact j _ _ (aai _ rfl)
 have D:(zE t1 t2 s.heap l1 l2).get? s.heap.objs.size=some (itO t1 l1):=g _ _ (aai _ rfl);have sub:∀{t:Bool}{i l:Addr},(zE t1 t2 s.heap l1 l2).get? i=some (itO t l)->SubI t (zE t1 t2 s.heap l1 l2) i l 0:=λ{t i l} e=>by
  cases t
  .exact⟨_,e,rfl,rfl⟩
  .exact⟨_,e,rfl,rfl⟩
 show _/\_;rw[v];exact⟨⟨_,y,rfl⟩,h _ ⟨y,B,⟨_,_,C⟩,sub D,sub G⟩ λc o x=>g c o (AD _ x)⟩
end
theorem zt{l1 l2:Nat}(c:l1<n)(e:l2<n):Apart (n+4) (n+2) (n+3) n (n+1) l1 l2 where
 d:=by
  simp
 m1:=by
  grind
 m2:=by
  grind
def SqB(t:Bool)(K:Io)(H:Hp)(a:Addr)(xs:List V):Prop:=if t then SqT K H a xs else SqL K H a xs
def Itz(t1 t2:Bool)(K:Io)(a b:Addr):It where
 go:=λi H=>∃xs ys x y,SqB t1 K H a xs/\SqB t2 K H b ys/\xs[i]?=some x/\ys[i]?=some y
 yld:=λi H v c=>∃T x y,v = .ref T/\H T=none/\c=upd H T (.tup [x,y])/\(∀xs,SqB t1 K H a xs->xs[i]?=some x)/\∀ys,SqB t2 K H b ys->ys[i]?=some y
 stop:=λi H=>∃xs ys,SqB t1 K H a xs/\SqB t2 K H b ys/\(xs.length≤i\/ys.length≤i)
theorem Inv.sqb{s:Ad}{xs:List V}(I:Inv X pins σ H s)(h:SqB t X.kx H a xs):∃its:List oR,Vals xs its/\SubS t s.heap a its.toArray/\xs.length≤aaf:=by
 cases t
 .obtain⟨its,r,p,z⟩:=I.list (h);exact⟨its,r,p.isList,z⟩
 .obtain⟨its,r,p,z⟩:=I.tuple (h);exact⟨its,r,p,z⟩
def Inv.sqb_inj{s:Ad}{xs ys:List V}(I:Inv X pins σ H s)(h:SqB t X.kx H a xs)(h':SqB t X.kx H a ys):xs=ys:=by
 cases t
 .exact I.list_inj (h) (h')
 .exact I.tuple_inj (h) (h')
theorem Gm{P:aaA}{w:World}{K:Io}{x1:Nat}{pos:Pos}{TI TO:Addr}(D:Apart z TI TO i1 i2 a b):Turn P w K (.Tuple elts x1 pos) (Itz t1 t2 K a b) [z,TI,TO,i1,i2] z (λi h=>GW t1 t2 z TI TO i1 i2 a b i h) where
 mem:=by simp
 obj:=λi h st c g=>by
  let⟨r,m,⟨u,v,j⟩,R,p⟩:=st;simp only[aaq,abf,or_false]at g;rcases g with rfl|rfl|rfl|rfl|rfl
  .exact⟨_,r,λv q=>by cases q⟩
  .exact⟨_,m,λv q=>by cases q⟩
  .exact⟨_,j,λv q=>by cases q⟩
  .obtain⟨o,vs,e,d⟩:=R.obj;exact⟨o,e,λv q=>by rw[d]at q;cases q⟩
  .obtain⟨o,vs,e,d⟩:=p.obj;exact⟨o,e,λv q=>by rw[d]at q;cases q⟩
 keep:=λi h h' st k=>by
  let⟨r,m,⟨u,v,j⟩,R,p⟩:=st;exact⟨k z (by simp) _ r,k TI (by simp) _ m,⟨u,v,k TO (by simp) _ j⟩,R.keep λo e=>k i1 (by simp) o e,p.keep λo e=>k i2 (by simp) o e⟩
 item:=by
  intro X hP hw Y g i pins s σ H E I S st U;subst hP hw Y;let⟨xs,ys,x,y,B,A,hx,hy⟩:=U;let⟨N,F,Z,_⟩:=I.sqb B;let⟨L,G,p2,_⟩:=I.sqb A;let⟨O,e1,ru1⟩:=F.get hx;let⟨M,e2,ru2⟩:=G.get hy;refine GN D st Z p2 (x:=O) (y:=M) (by simpa using e1) (by simpa using e2) λh' a1 a2 a3 a4 a5 a6 a7=>⟨.ref s.heap.objs.size,rfl,?_⟩;refine wpAny_letOwnedTupleGo_zip (s:={s with heap:=h' }) a1 λp b1 sb=>?_;have V:H s.heap.objs.size=none:=I.hok.fresh (Ge _);have T:∀c∈[z,TI,TO,i1,i2],c<s.heap.objs.size:=λc g=>by
   let⟨r,m,⟨u,v,j⟩,R,p⟩:=st;simp only[aaq,abf,or_false]at g;rcases g with rfl|rfl|rfl|rfl|rfl
   .exact aab r
   .exact aab m
   .exact aab j
   .obtain⟨o,vs,e,d⟩:=R.obj;exact aab e
   .obtain⟨o,vs,e,d⟩:=p.obj;exact aab e
  have W:∀c∈[z,TI,TO,i1,i2],c≠s.heap.objs.size:=λc g=>aaK (T c g);have C:=D.old;have J:∀c o,c≠z->h'.get? c=some o->p.get? c=some o:=λc o n e=>sb.extBut c o n e;have T2:ae6 p s.heap.objs.size O M:=J _ _ (abb (W z (by simp))) a5;have I0:Inv X pins σ (upd H s.heap.objs.size (.tup [x,y])) {s with heap:=s.heap.push {cls:=.type "tuple",data:=.seq #[O,M]},toks:=s.toks}:=
   I.laid (o:=.tup [x,y]) (λc o e=>AD _ e) (Ge _) ⟨by show 2≤aaf;rw[aaj];decide,[O,M],.cons ru1 (.cons ru2 .nil),PlainT.new _ _⟩
  have Il:Inv X pins σ (upd H s.heap.objs.size (.tup [x,y])) {s with heap:=p,toks:=s.toks}:=by
   refine Inv.turneds (s:={s with heap:=s.heap.push {cls:=.type "tuple",data:=.seq #[O,M]},toks:=s.toks}) (h':=p) (t':=s.toks) (ch:=[z,TI,TO,i1,i2]) I0 (λc o g e=>?_) λc g=>?_
   .rcases aeV e with⟨rfl,rfl⟩|e
    .exact T2
    .exact J c o (λq=>g (by simp[q])) (a7 c o (λq=>g (by simp only[aaq,abf,or_false]at q⊢;rcases q with q|q|q|q<;>simp[q])) e)
   .obtain⟨f0,f1⟩:=S c g;exact⟨by rw[ag (W c g)];exact f0,f1⟩
  refine⟨.ref s.heap.objs.size,upd H s.heap.objs.size (.tup [x,y]),Il,rfl,⟨_,x,y,rfl,V,rfl,λzs r=>by rw[I.sqb_inj r B];exact hx,λzs r=>by rw[I.sqb_inj r A];exact hy⟩,⟨b1,J _ _ C.TIz (a7 _ _ (by simp only[aaq,abf,or_false,not_or];exact⟨C.TIz,C.TITO,C.TIi1,C.TIi2⟩) st.ti),⟨_,_,J _ _ C.TOz a2⟩,a3.keep λo e=>J _ o C.i1z e,a4.keep λo e=>J _ o C.i2z e⟩,λc g=>?_⟩;rw[ag (W c g)];exact(S c g).1
 done:=by
  intro X hP hw Y g i pins s σ H E I S st U;subst hP hw Y;let⟨xs,ys,B,A,he⟩:=U;let⟨N,F,Z,_⟩:=I.sqb B;let⟨L,G,p2,_⟩:=I.sqb A;have l1:=F.length;have l2:=G.length;refine Jx (I.ok.hd g) D st Z p2 (by rcases he with q|q;(left;simp;omega);(right;simp;omega)) λh' hk=>⟨rfl,I.turneds (t':=s.toks) (ch:=[z,TI,TO,i1,i2]) (λc o g e=>hk c o (λq=>g (by simp only[aaq,abf,or_false]at q⊢;rcases q with q|q|q|q<;>simp[q])) e) S⟩
 self:=λ_ _ _ _ _ st h=>wpAny_pyIter_zip st.z h
section
variable {X:Cx}{j:List Expr}{B:Nat}{w:Pos}{a b:Expr}{A:WA}{p pos:Pos}
def iZip(K:Io)(d:TA):TI:=λσ H R=>d σ H λvs c=>∃t1 t2 l1 l2,vs=[.ref l1,.ref l2]/\(∃xs,SqB t1 K c l1 xs)/\(∃ys,SqB t2 K c l2 ys)/\R (Itz t1 t2 K l1 l2) c
def J5:aaL "zip" = some (.type "zip"):=by rfl
theorem RG{u:TA}(D:Gl X "zip")(O:X.mg "zip" = none)(ha:PA X [a,b] u)(hs:OR [a,b] X.env=[(false,eval a X.env),(false,eval b X.env)]:=by first|exact(aV rfl).trans (congrArg _ (cK rfl))|rfl)(g:OR [b] X.env=[(false,eval b X.env)]:=by first|exact cK rfl|rfl):PI X (.Tuple j B w) (.Call (.Name "zip" p) [a,b] [] pos) (iZip X.K u):=by
 intro pins s σ H T I h;refine Call_ (kI I D O J5 (acF (thn (ha pos pins s σ H _ I h) λS s1 ⟨vs,E,k,r1,R⟩=>?_) (by rw[hs,g]) (by rw[g];rfl)));let⟨t1,t2,l1,l2,e,⟨xs,P⟩,⟨ys,N⟩,q⟩:=R;subst e
 cases r1 with
 | cons r rr=>
  cases rr with
  | cons J rr=>
   cases rr;cases r;cases J;let⟨C,F,x,_⟩:=k.sqb P;let⟨v,M,y,_⟩:=k.sqb N;refine D5 x y λh' Z L=>?_;refine wpAny_pyIter_zip Z.z ?_;have lt:∀{t:Bool}{l:Addr}{its:Array oR},SubS t s1.heap l its->l<s1.heap.objs.size:=λ{t l its} p=>by
    cases t
    .obtain⟨o,e,_⟩:=(show s1.heap.IsList l its from p);exact aab e
    .obtain⟨o,e,_⟩:=(show s1.heap.IsTuple l its from p);exact aab e
   refine⟨s1.heap.objs.size+4,_,_,_,E,rfl,k.kept (t':=s1.toks) L,Gm (zt (lt x) (lt y)),Z,λc G=>?_,q⟩;have m:s1.heap.objs.size≤c:=by
    have d:=G;simp at d;rcases d with rfl|rfl|rfl|rfl|rfl<;>first|exact ace _ _|exact Ge _
   exact k.fpOk m (k.hok.fresh m)
def imS:R->Option (Bool×List dL)
 | .imm (.tuple ds)=>some (true,ds)
 | .imm (.list ds)=>some (false,ds)
 |_=>none
def zipD(ds es:List dL):List dL:=(ds.zip es).map λp=>.tuple [p.1,p.2]
def Jn(A:WA):WI:=λm K=>A m λrs c=>match rs with|[r1,r2]=>∃t1 ds t2 es,imS r1=some (t1,ds)/\imS r2=some (t2,es)/\K ⟨zipD ds es,none⟩ c|_=>False
theorem yr{K:Kd}{d:Al}{k:Hp}{r:R}{v:V}(h:RelR K d k H r v)(e:imS r=some (t,ds)):∃l xs,v = .ref l/\DenAll K H ds xs/\(SqB t K H l xs)/\∀c,Pers H c->SqB t K c l xs:=by
 unfold imS at e
 split at e
 .cases e;let⟨l,xs,e,f,g⟩:=bz (h);exact⟨l,xs,e,g,f,λc p=>f.mono p⟩
 .cases e;have h':=h;let⟨l,xs,e,f,g⟩:=h';exact⟨l,xs,e,g,f.sq,λc p=>(f.mono p).sq⟩
 .cases e
def fV(ds es:List dL):(zipD ds es).length=min ds.length es.length:=by simp[zipD]
theorem u9{d e:dL}(c:ds[i]?=some d)(g:es[i]?=some e):(zipD ds es)[i]?=some (.tuple [d,e]):=by
 unfold zipD;rw[aaa,(List.getElem?_zip_eq_some (z:=(d,e))).mpr ⟨c,g⟩];rfl
theorem wks_zip{K:Kd}:Wks K (Itz t1 t2 K l1 l2) (zipD ds es) λH=>∃xs ys,SqB t1 K H l1 xs/\SqB t2 K H l2 ys/\DenAll K H ds xs/\DenAll K H es ys where
 stop:=λH ⟨xs,ys,m,c,g,k⟩=>⟨xs,ys,m,c,by rw[fV,<-g.length,<-k.length];omega⟩
 go:=λi H hi ⟨xs,ys,m,c,g,k⟩=>by
  rw[fV]at hi;exact⟨xs,ys,xs[i]'(by rw[<-g.length];omega),ys[i]'(by rw[<-k.length];omega),m,c,iO _,iO _⟩
 yld:=λi H x L hi ⟨xs,ys,m,c,g,k⟩ y=>by
  let⟨T,u,v,rfl,F,rfl,C,I⟩:=y;let⟨d,J,D⟩:=g.get2 (C xs m);let⟨e,G,E⟩:=k.get2 (I ys c);have r:∀b o,H b=some o->upd H T (.tup [u,v]) b=some o:=λb o q=>by rw[ag (bg q F)];exact q
  have s:Pers H _:=⟨λb xs q=>r b _ q,λb o u q=>r b _ q⟩;refine⟨r,_,u9 J G,?_⟩;exact df (SqT.of ak) (DenAll.cons (D.mono s) (DenAll.cons (E.mono s) DenAll.nil))
theorem Rh(P:X.mg "zip" = none)(ha:MA X [a,b] A)(C:Gl X "zip":=by rfl)(hs:OR [a,b] X.env=[(false,eval a X.env),(false,eval b X.env)]:=by first|exact(aV rfl).trans (congrArg _ (cK rfl))|rfl)(q:OR [b] X.env=[(false,eval b X.env)]:=by first|exact cK rfl|rfl):MI X (.Tuple j B w) (.Call (.Name "zip" p) [a,b] [] pos) (Jn A):=(RG C P ha hs q).wk<|by
 intro σ H Y ⟨y,m,V,J,I,o⟩;refine⟨y,m,_,J,I,λrs M vs U k n R rr F=>?_⟩
 cases rr with
 |nil=>exact k.elim
 |cons S rr=>
  cases rr with
  |nil=>exact k.elim
  |cons O rr=>
  cases rr with
  |cons _ _=>exact k.elim
  |nil=>
  let⟨t1,ds,t2,es,L,T,k⟩:=k;let⟨l1,xs,rfl,D,x,G⟩:=yr S L;let⟨l2,ys,rfl,E,s,N⟩:=yr O T;refine⟨t1,t2,l1,l2,rfl,⟨xs,x⟩,⟨ys,s⟩,o _ M _ U k n R F ⟨λH=>∃xs ys,SqB t1 X.kx H l1 xs/\SqB t2 X.kx H l2 ys/\DenAll X.kx H ds xs/\DenAll X.kx H es ys/\(∀e,Pers H e->SqB t1 X.kx e l1 xs)/\∀e,Pers H e->SqB t2 X.kx e l2 ys,wks_zip.imp<|by intro H ⟨xs,ys,a,b,c,d,_⟩;exact⟨xs,ys,a,b,c,d⟩,⟨xs,ys,x,s,D,E,G,N⟩,by intro W v ⟨xs,ys,a,b,c,d,u,r⟩ g;exact⟨xs,ys,u v g,r v g,c.mono g,d.mono g,λe p=>u e (g.trans p),λe p=>r e (g.trans p)⟩⟩⟩
def WY{m:MSt}{c:Src->MSt->Prop}(h:A m λrs d=>match rs with|[r1,r2]=>∃t1 ds t2 es,imS r1=some (t1,ds)/\imS r2=some (t2,es)/\c ⟨zipD ds es,none⟩ d|_=>False):Jn A m c:=h
end
theorem LL{x:Nat}{c:Pos}{a b:Expr}{w:WA}{p pos:Pos}(e:X.mg "zip" = none)(ha:EA X [a,b] w)(g:Gl X "zip":=by rfl)(hs:OR [a,b] X.env=[(false,eval a X.env),(false,eval b X.env)]:=by first|exact(aV rfl).trans (congrArg _ (cK rfl))|rfl)(d:OR [b] X.env=[(false,eval b X.env)]:=by first|exact cK rfl|rfl):EI X (.Tuple elts x c) (.Call (.Name "zip" p) [a,b] [] pos) (Jn w):=⟨Rh e ha.h g hs d⟩
theorem gmap{c β:Type}{xs:List c}{y:β}{f:c->β}(h:(xs.map f)[i]?=some y):∃x,xs[i]?=some x/\y=f x/\i<xs.length:=by
 rw[aaa]at h
 cases q:xs[i]? with
 |none=>rw[q]at h;cases h
 |some x=>rw[q]at h;exact⟨x,rfl,(aam h).symm,(DL.mp q).1⟩
theorem cJ{lo:Int}{d:dL}(h:(ik lo n)[i]?=some d):i<n/\d = .int (lo+(i:Int)):=by
 have hi:=by
  have:=(DL.mp h).1;rwa[aP]at this
 rw[jH hi]at h;exact⟨hi,(aam h).symm⟩
def sf{k:Nat}{P:MSt->Prop}{m:MSt}(c:List Nat)(m2:MSt)(N:Ren c (m.setV n (.obj k)) m2)(h:P m2):nA n P m (.obj k):=.inr ⟨c,m2,N,h⟩
def wG{d:dL}{P:MSt->Prop}{m:MSt}(c:List Nat)(m2:MSt)(N:Ren c (m.setV n (.imm d)) m2)(h:P m2):nA n P m (.imm d):=.inr ⟨c,m2,N,h⟩
def RenO(c:List Nat)(o:Option R):Option R->Prop
 |none=>True
 |some r=>RenR c (some o) r
def RenVs(c:List Nat):List (Option R)->List (Option R)->Prop
 |o::os,q::qs=>RenO c o q/\RenVs c os qs
 |[],[]=>True
 |_,_=>False
theorem RenVs.len{c:List Nat}:∀{os q:List (Option R)},RenVs c os q->q.length=os.length
 |[],[],_=>rfl
 |_::_,_::_,h=>congrArg (· + 1) (RenVs.len h.2)
 |[],_::_,h=>h.elim
 |_::_,[],h=>h.elim
theorem RenVs.get{d:List Nat}:∀{os c:List (Option R)},RenVs d os c->∀(j:Nat) (r:R),c[j]?=some (some r)->RenR d os[j]? r
 |o::os,q::c,h,0,r,e=>by
  have g:=by simpa using e
  subst g;exact h.1
 |o::os,q::c,h,j+1,r,e=>by simpa using RenVs.get h.2 j r ‹_›
 |[],[],_,_,_,e=>by simp at e
 |[],_::_,h,_,_,_=>h.elim
 |_::_,[],h,_,_,_=>h.elim
def Bz{c:List Nat}{m m2:MSt}(nd:decide c.Nodup=true)(lt:(c.all λk=>Nat.blt k m.os.length)=true)(pre:c.take m.np=aaB m.np)(npl:Nat.ble m.np c.length=true)(os:m2.os=c.map λk=>m.os.getD k [])(np:m2.np=m.np)(vs:RenVs c m.vs m2.vs):Ren c m m2:=
 ⟨of_decide_eq_true nd,λk d=>Nat.blt_eq.mp (abV.mp lt k d),pre,aeA npl,os,np,vs.len,λj r e=>vs.get j r e⟩
def JT{d:dL}(h:(zipD ds es)[i]?=some d):∃a b,ds[i]?=some a/\es[i]?=some b/\d = .tuple [a,b]:=by
 let⟨p,e,rfl,_⟩:=gmap h;let⟨c,g⟩:=List.getElem?_zip_eq_some.mp e;exact⟨p.1,p.2,c,g,rfl⟩
end L2
namespace M3
def stepL(xs:List (List Nat))(r:Nat):List (List Nat):=xs.flatMap λa=>(aaB (r+1)).map λk=>a++[k]
def allL(rs:List Nat):List (List Nat):=rs.foldl stepL [[]]
def allR:List Nat->List (List Nat)
 |[]=>[[]]
 |r::rs=>(aaB (r+1)).flatMap λk=>(allR rs).map (k :: ·)
theorem qJ:∀(rs:List Nat) (xs:List (List Nat)),rs.foldl stepL xs=xs.flatMap λa=>(allR rs).map (a++·)
 |[],xs=>by
  simp[allR]
 |r::rs,xs=>by
  rw[acY,qJ rs];simp only[stepL,allR,List.flatMap_assoc,List.map_flatMap,List.flatMap_map,aaN]
  congr 1
  funext a
  congr 1
  funext k
  congr 1
  funext l
  simp
def allL_eq(rs:List Nat):allL rs=allR rs:=by
 unfold allL;rw[qJ];simp
theorem allR_len:∀{rs l:List Nat},l∈allR rs->l.length=rs.length
 |[],l,h=>by simp[allR]at h;subst h;rfl
 |r::rs,l,h=>by
  simp only[allR,adf,aau]at h;let⟨k,_,a,h,rfl⟩:=h;simp[allR_len h]
theorem stepL_length(xs:List (List Nat))(r:Nat):(stepL xs r).length=xs.length*(r+1):=by
 unfold stepL
 induction xs with
 |nil=>simp
 |cons a xs i=>
  grind
theorem uV:∀{rs:List Nat}{xs:List (List Nat)},(∀r∈rs,r≤6)->(rs.foldl stepL xs).length≤xs.length*7^rs.length
 |[],xs,_=>by simp
 |r::rs,xs,h=>by
  rw[acY];refine aao (uV λa b=>h a (aad _ b)) ?_;rw[stepL_length,aaI,Nat.pow_succ,abX,abU (7^rs.length)];refine Nat.mul_le_mul_left _ (ac4 _ ?_)
  simp_all
def fold_small{rs:List Nat}(a:rs.length≤4)(h:∀r∈rs,r≤6):(rs.foldl stepL [[]]).length≤2401:=by
 refine aao (uV h) ?_;have:7^rs.length≤7^4:=adF (by decide) a;simpa
def stepL_take{xs:List (List Nat)}{r j:Nat}{l:List Nat}(h:xs[j]?=some l):stepL (xs.take (j+1)) r=stepL (xs.take j) r++(aaB (r+1)).map λy=>l++[y]:=by
 unfold stepL;rw[aaX,h];simp
end M3
set_option maxHeartbeats 4100000
namespace K
open PySem L2
variable{h:Hall}{l:List Nat}
def C9:SpM:=λa K=>∃ns:List Int,a=[.imm (.list (ns.map .int))]/\ns.length≤63/\K (.imm (.bool true)) []
def frD(a b:Int):dL:=.tuple [.int a,.int b]
structure Srv where
 a:Nat
 b:Nat
 r:Nat
def Srv.d(s:Srv):dL:=.tuple [.tuple [.int s.a,.int s.b],.int s.r]
structure Srv.Ok(s:Srv):Prop where
 a1:1≤s.a
 a2:s.a<1000000
 b1:1≤s.b
 b2:s.b<1000000
 r1:1≤s.r
 r6:s.r≤6
structure Hall where
 a:Nat
 b:Nat
 ss:List Srv
 mv:Bool
def Hall.d(h:Hall):dL:=.tuple [.tuple [.int h.a,.int h.b],.tuple (h.ss.map Srv.d),.bool h.mv]
structure Hall.Ok(h:Hall):Prop where
 a1:1≤h.a
 a2:h.a<1000000
 b1:1≤h.b
 b2:h.b<1000000
 n1:1≤h.ss.length
 n4:h.ss.length≤4
 ok:∀s∈h.ss,s.Ok
def Hall.rs(h:Hall):List Nat:=h.ss.map Srv.r
def Hall.rsl(h:Hall):h.rs.length=h.ss.length:=by simp[Hall.rs]
def Hall.Ok.r6(o:h.Ok):∀r∈h.rs,r≤6:=λr hr=>by
 let⟨s,hs,rfl⟩:=aau.mp hr;exact(o.ok s hs).r6
def Hall.rs_get{i:Nat}{s:Srv}(e:h.ss[i]?=some s):h.rs[i]?=some s.r:=by simp[Hall.rs,e]
def prD(p:Nat×Nat):dL:=.tuple [.int (p.1:Int),.int (p.2:Int)]
def natD(l:List Nat):List dL:=l.map λ(k:Nat)=>.int (k:Int)
def lnD(l:List Nat):dL:=.tuple (natD l)
def aA(l:List Nat):(natD l).length=l.length:=by simp[natD]
def aI{i x:Nat}(h:l[i]?=some x):(natD l)[i]?=some (.int (x:Int)):=by simp[natD,h]
def vC(a b:List Nat):natD (a++b)=natD a++natD b:=by simp[natD]
def LW:SpM:=λa K=>∃h:Hall,a=[.imm h.d]/\h.Ok/\K (.new ((M3.allR h.rs).map lnD)) []
def AI{c:Nat}(b:l.length≤c)(h:∀x∈l,x≤1000):Fine (c*15+3) 1 (lnD l):=by
 refine gW (λd hd=>?_) (by simpa[natD]);simp[natD]at hd;let⟨x,a,rfl⟩:=hd;have:=h x a;exact uR (by omega)
def Cy(l:List Nat):Shp 1 (lnD l):=yF λd hd=>by
 simp[natD]at hd;let⟨x,a,rfl⟩:=hd;exact fW _
inductive Rule where
 |random|turns|two|least|quick
 |told (ps:List Nat)
def Rule.word:Rule->Str
 | .random=> "random" | .turns=> "turns" | .two=> "two" | .least=> "least" | .quick=> "quick" | .told _=> "told"
def Rule.d:Rule->dL
 | .told p=>.tuple [.str "told",lnD p]
 |r=>.tuple [.str r.word]
def Rule.Ok(h:Hall):Rule->Prop
 | .told a=>a.length=(M3.allR h.rs).length/\∀p∈a,p<h.ss.length
 |_=>True
def wn{rs:List Nat}(a:rs.length≤4)(h:∀r∈rs,r≤6):(M3.allR rs).length≤2401:=by
 rw[<-M3.allL_eq];exact M3.fold_small a h
def Lines(h:Hall)(l:List Nat):Prop:=l.length=h.ss.length/\∀(i:Nat) s x,h.ss[i]?=some s->l[i]?=some x->x≤s.r
theorem Lines.le(o:h.Ok)(k:Lines h l):∀x∈l,x≤6:=λx c=>by
 let⟨i,b,rfl⟩:=abm.mp c;have a:i<h.ss.length:=by rw[<-k.1];exact b
 have:=k.2 i _ _ (iO a) (iO b);have:=(o.ok _ (abl a)).r6;exact aao ‹_› ‹_›
end K
namespace M7
open M3
def placeF:Nat->List Nat->List Nat->Nat
 |acc,r::rs,x::l=>placeF (acc*(r+1)+x) rs l
 |acc,_,_=>acc
def cnt:List Nat->Nat
 |[]=>1
 |r::rs=>(r+1)*cnt rs
theorem allR_cnt:∀rs:List Nat,(allR rs).length=cnt rs
 |[]=>rfl
 | r::rs=>by
  have a:=allR_cnt rs;have:∀n:Nat,((aaB n).flatMap λk=>(allR rs).map (k :: ·)).length=n*cnt rs:=by
   intro n
   induction n with
   |zero=>simp
   |succ n i=>rw[ac2,adQ,aat,i];simp[a,agl]
  exact this _
theorem jh:∀{rs l:List Nat}{acc:Nat},l.length=rs.length->placeF acc rs l=acc*cnt rs+placeF 0 rs l
 |[],[],acc,_=>by simp[placeF,cnt]
 |r::rs,x::l,acc,h=>by
  have a:=by simpa using h
  simp only[placeF,cnt];rw[jh a,jh (acc:=0*_+x) a,Nat.add_mul,abX];simp[aeP]
 |[],_::_,_,h=>by simp at h
 |_::_,[],_,h=>by simp at h
def iB{r x:Nat}{rs l:List Nat}(h:l.length=rs.length):placeF 0 (r::rs) (x::l)=x*cnt rs+placeF 0 rs l:=by
 simp only[placeF];rw[jh h];simp
theorem zG{N:Nat}(f:Nat->List (List Nat))(a:∀k,(f k).length=N):∀(n k j:Nat),k<n->j<N->((aaB n).flatMap f)[k*N+j]?=(f k)[j]?
 |0,k,j,h,_=>by contradiction
 | n+1,k,j,h,hj=>by
  have c:((aaB n).flatMap f).length=n*N:=by
   clear h hj
   induction n with
   |zero=>simp
   |succ n i=>rw[ac2,adQ,aat,i];simp[a,agl]
  rw[ac2,adQ]
  by_cases b:k<n
  .have:k*N+j<n*N:=by
    have:=ac4 N (show k+1≤n by assumption)
    grind
   rw[aaH (by omega),zG f a n k j b hj]
  .have e:k=n:=by omega
   simp_all
def Fits:List Nat->List Nat->Prop
 |r::rs,x::l=>x≤r/\Fits rs l
 |[],[]=>True
 |_,_=>False
theorem Fits.len:∀{rs l:List Nat},Fits rs l->l.length=rs.length
 |[],[],_=>rfl
 |_::_,_::_,h=>congrArg (· + 1) h.2.len
 |[],_::_,h=>h.elim
 |_::_,[],h=>h.elim
theorem place_lt:∀{rs l:List Nat},Fits rs l->placeF 0 rs l<cnt rs
 |[],[],_=>by simp[placeF,cnt]
 |r::rs,x::l,h=>by
  rw[iB h.2.len,cnt];have:=place_lt h.2;have a:=ac4 (cnt rs) (by have:=h.1;omega)
  grind
 |[],_::_,h=>h.elim
 |_::_,[],h=>h.elim
theorem place_at:∀{rs l:List Nat},Fits rs l->(allR rs)[placeF 0 rs l]?=some l
 |[],[],_=>rfl
 |r::rs,x::l,h=>by
  rw[iB h.2.len];show((aaB _).flatMap λk=>(allR rs).map _)[_]?=_;rw[zG _ (λk=>by rw[gE,allR_cnt]) _ x _ (by have:=h.1;omega) (place_lt h.2),aaa,place_at h.2];rfl
 |[],_::_,h=>h.elim
 |_::_,[],h=>h.elim
theorem place_only:∀{rs:List Nat}{i:Nat}{l:List Nat},(allR rs)[i]?=some l->i=placeF 0 rs l
 |[],0,l,h=>by
  rfl
 |[],i+1,l,h=>by simp[allR]at h
 | r::rs,i,l,h=>by
  have b:=(DL.mp h).1;rw[allR_cnt,cnt]at b;have f:0<cnt rs:=Nat.pos_of_ne_zero λz=>by rw[z]at b;simp at b
  have c:i/cnt rs<r+1:=Nat.div_lt_of_lt_mul (by rw[abU];exact b);have g:=ahl i f;have e:i=i/cnt rs*cnt rs+i%cnt rs:=by rw[abU];exact(Nat.div_add_mod i (cnt rs)).symm
  have a:=zG (N:=cnt rs) (λk=>(allR rs).map (k :: ·)) (λk=>by rw[gE,allR_cnt]) (r+1) _ _ c g;rw[<-e]at a;have j:((aaB (r+1)).flatMap λk=>(allR rs).map (k :: ·))[i]?=some l:=h;rw[j,aaa]at a
  cases q:(allR rs)[i%cnt rs]? with
  |none=>rw[q]at a;cases a
  |some n=>
   rw[q]at a;have:l=(i/cnt rs)::n:=aam a;subst this;have d:=place_only q;have m:=allR_len (GE q);rw[iB m,<-d,abU];exact(Nat.div_add_mod i (cnt rs)).symm
def pick(lt:Nat->Nat->Bool):Nat->List Nat->Nat
 |b,[]=>b
 |b,k::ks=>pick lt (if lt k b then k else b) ks
theorem vN{lt:Nat->Nat->Bool}:∀{ks:List Nat}{b:Nat},pick lt b ks=b\/pick lt b ks∈ks
 |[],b=>.inl rfl
 | k::ks,b=>by
  simp only[pick];rcases vN with h|h
  .rw[h]
   by_cases q:lt k b=true
   .rw[if_pos q];exact .inr aac
   .rw[if_neg q];exact .inl rfl
  .exact .inr (aad _ h)
theorem pick_app{lt:Nat->Nat->Bool}:∀{ks:List Nat}{b k:Nat},pick lt b (ks++[k])=if lt k (pick lt b ks)then k else pick lt b ks
 |[],b,k=>rfl
 |j::ks,b,k=>by simp;exact pick_app
theorem placeF_take:∀{rs l:List Nat}{i acc r x:Nat},rs[i]?=some r->l[i]?=some x->placeF acc (rs.take (i+1)) (l.take (i+1))=placeF acc (rs.take i) (l.take i)*(r+1)+x
 |r0::rs,x0::l,0,acc,r,x,h1,h2=>by
  have e:=by simpa using h1
  have a:=by simpa using h2
  subst e a;rfl
 |r0::rs,x0::l,i+1,acc,r,x,h1,h2=>by
  simp;exact placeF_take ‹_› ‹_›
 |[],_,_,_,_,_,h1,_=>by simp at h1
 |_::_,[],_,_,_,_,_,h2=>by simp at h2
end M7
namespace K
open PySem L2 M7
variable{n:Nat}
def Hall.an(h:Hall)(k:Nat):Nat:=(h.ss.map Srv.a).getD k 0
def Hall.bn(h:Hall)(k:Nat):Nat:=(h.ss.map Srv.b).getD k 0
def bx(l:List Nat)(k b:Nat):Bool:=decide (l.getD k 0<l.getD b 0)
def bO(h:Hall)(l:List Nat)(k b:Nat):Bool:=decide ((l.getD k 0+1)*h.bn k*h.an b<(l.getD b 0+1)*h.bn b*h.an k)
def sent(h:Hall)(r:Rule)(l:List Nat)(t:Nat)(o:List Nat):Nat:=match r with
 | .random=>o.headD 0
 | .turns=>t
 | .two=>pick (bx l) (o.headD 0) (o.take 2)
 | .least=>pick (bx l) (o.headD 0) o
 | .quick=>pick (bO h l) (o.headD 0) o
 | .told p=>p.getD (placeF 0 h.rs l) 0
structure Ord(n:Nat)(o:List Nat):Prop where
 ne:o≠[]
 lt:∀k∈o,k<n
 le:o.length≤4
theorem Lines.fits{h:Hall}{l:List Nat}(k:Lines h l):Fits h.rs l:=by
 let⟨a,b⟩:=k;unfold Hall.rs;generalize h.ss=ss at a b
 induction ss generalizing l with
 |nil=>cases l with
  |nil=>trivial
  |cons _ _=>simp at a
 |cons s ss c=>cases l with
  |nil=>simp at a
  |cons x l=>exact⟨b 0 s x rfl rfl,c (by simpa using a) λi s x e d=>b (i+1) s x ‹_› ‹_›⟩
theorem getN{l:List Nat}{k:Nat}(a:l.length=n)(h:k<n):l[k]?=some (l.getD k 0):=by simp_all
def Hall.srv{h:Hall}{k:Nat}(a:k<h.ss.length):∃s,h.ss[k]?=some s/\h.an k=s.a/\h.bn k=s.b/\s∈h.ss:=by
 refine⟨h.ss[k],iO a,?_,?_,abl a⟩
 .exact bj (by rw[aaa,iO a];rfl)
 .exact bj (by rw[aaa,iO a];rfl)
def IE:SpM:=λe K=>∃a b c d:Nat,e=[.imm (frD a b),.imm (frD c d)]/\a<1000000000000/\b<1000000000000/\c<1000000000000/\d<1000000000000/\K (.imm (.bool (decide (a*d<c*b)))) []
def Cj:SpM:=λa K=>∃(h:Hall) (l:List Nat),a=[.imm h.d,.imm (lnD l)]/\h.Ok/\Lines h l/\K (.imm (.int (placeF 0 h.rs l:Nat))) []
def na:SpM:=λa K=>∃(l o:List Nat),a=[.imm (lnD l),.imm (lnD o)]/\Ord l.length o/\K (.imm (.int (pick (bx l) (o.headD 0) o:Nat))) []
def Je:SpM:=λa K=>∃(h:Hall) (l:List Nat) (k:Nat),a=[.imm h.d,.imm (lnD l),.imm (.int (k:Int))]/\h.Ok/\Lines h l/\k<h.ss.length/\K (.imm (frD ((l.getD k 0+1)*h.bn k:Nat) (h.an k:Nat))) []
def jp:SpM:=λa K=>∃(h:Hall) (l o:List Nat),a=[.imm h.d,.imm (lnD l),.imm (lnD o)]/\h.Ok/\Lines h l/\Ord h.ss.length o/\K (.imm (.int (pick (bO h l) (o.headD 0) o:Nat))) []
def stD(l:List Nat)(t:Nat):dL:=.tuple [lnD l,.int (t:Int)]
def kg:SpM:=λa K=>∃(h:Hall) (r:Rule) (l:List Nat) (t:Nat) (o:List Nat),a=[.imm h.d,.imm r.d,.imm (stD l t),.imm (lnD o)]/\h.Ok/\r.Ok h/\Lines h l/\Ord h.ss.length o/\K (.imm (.int (sent h r l t o:Nat))) []
theorem Ord.cons{o:List Nat}(h:Ord n o):∃k ks,o=k::ks/\k<n:=by
 cases o with
 |nil=>exact(h.ne rfl).elim
 |cons k ks=>exact⟨k,ks,rfl,h.lt k aac⟩
def gN{lt:Nat->Nat->Bool}{o:List Nat}(h:Ord n o)(i:Nat):pick lt (o.headD 0) (o.take i)<n:=by
 let⟨k,b,rfl,a⟩:=h.cons;rcases vN with e|e
 .rw[e];exact a
 .exact h.lt _ (abW e)
theorem uA:∀a b:List Nat,adu (natD a) (natD b)=decide (a=b)
 |[],[]=>by simp[natD,adu]
 |[],y::b=>by simp[natD,adu]
 |x::a,[]=>by simp[natD,adu]
 | x::a,y::b=>by
  have i:=uA a b;unfold natD at i;simp[natD,adu,aar,i]
  by_cases h:x=y
  .subst h;simp
  .have:¬_:=λz=>h (aig z)
   simp_all
def yB(a b:List Nat):aar (lnD a) (lnD b)=decide (a=b):=by
   exact uA a b
def Rule.tl:Rule->List dL
 | .told p=>[lnD p]
 |_=>[]
def Rule.dc(r:Rule):r.d = .tuple (.str r.word::r.tl):=by cases r<;>rfl
def J9{m:MSt}{K:R->Prop}{d x:dL}{ds:List dL}{i:Int}(e:d = .tuple ds)(h:atI ds i=some x)(k:K (.imm x)):qp (.imm d) (.imm (.int i)) m K:=by
 subst e;exact aH h k
end K
namespace L2
open PySem PySem.Spec PyProof.Rows
variable{t:Bool}{e it l:Addr}{items:Array oR}{Q:Option oR->Ad->Prop}{ns:List Int}{i:Nat}{ds:List dL}{Kr:R->Prop}{ob:WM}{K:R->MSt->Prop}
def kj{prog:aaA}{w:World}{A:aa2}(t:Bool)(c:A.handled=none)(I a:Addr)(b:a≠I)(items:Array oR):Walks prog w A I [I,a] [I] items.size (λi v=>items[i]?=some v) (λi h=>SubI t h I a i/\SubS t h a items):=by
 cases t
 .exact Walks.list c I a b items
 .exact Walks.tuple c I a b items
section
variable {prog:aaA}{w:World}{A:aa2}{E:oR->Ad->Prop}{s:Ad}
theorem oQ{Q:oR->Ad->Prop}(c:SubS t s.heap l items)
  (h:∀s2:Ad,s2={s with heap:=s.heap.push (itO t l)}->(SubI t s2.heap s.heap.objs.size l 0/\SubS t s2.heap l items)->(∀b∈[s.heap.objs.size,l],b<s2.heap.objs.size)->l≠s.heap.objs.size->Q (.ref s.heap.objs.size) s2):wpAny (model prog w) A (afi (.ref l)) Q E s:=by
 have a:l<s.heap.objs.size:=by
  cases t
  .obtain⟨_,e,_⟩:=(c);exact aab e
  .obtain⟨_,e,_⟩:=(c);exact aab e
 refine dF c (h _ rfl ⟨?_,c.keep λo e=>AD _ e⟩ (λb hb=>?_) (aaK a))
 .cases t
  .exact⟨_,aai _ rfl,rfl,rfl⟩
  .exact⟨_,aai _ rfl,rfl,rfl⟩
 .rw[abq];simp at hb;rcases hb with rfl|rfl
  .simp
  .exact aep a
theorem on{h':aaR}(h:∀b o,b∉[s.heap.objs.size]->(s.heap.push (itO t l)).get? b=some o->h'.get? b=some o):∀b o,s.heap.get? b=some o->h'.get? b=some o:=λb o e=>
 h b o (λa=>absurd (aab e) (by rw[aah.mp a];exact ac8 _)) (AD _ e)
theorem kq(h:agY items.toList ns):∀(i:Nat) (v:oR),items[i]?=some v->∃t,v = .int (ns.getD i 0) t:=λi v e=>h.int_at i v (by simpa)
end
section
variable {X:Cx}
def rMax(K:Io):List V->Hp->VK->Prop:=λa H Q=>∃t l ns,a=[.ref l]/\SqB t K H l (ns.map V.int)/\ns≠[]/\∀x,x∈ns->(∀y∈ns,y≤x)->Q (.int x) H
def u6{b:Nat}(hb:b≤ns.length-1)(h:ns≠[]):ns.getD b 0∈ns:=by
 have a:b<ns.length:=by
  have:ns.length≠0:=λz=>h (abj z);omega
 rw[bj (iO a)];simp
theorem qM(x:X.calm=true):c7 X (.builtin "max") (rMax X.K):=by
 intro p s G H F E Q I n ⟨t,l,ns,ex,w,c,q⟩;subst ex;let⟨u,rfl,g⟩:=n.one;cases g;let⟨a,r,B,_⟩:=I.sqb w;have f:=jL r;have o:a.length=ns.length:=by have:=r.length;rw[gE]at this;omega
 refine call_max_walk (oQ B λs2 e st b d=>?_);subst e;refine⟨s.heap.objs.size,[s.heap.objs.size,l],[s.heap.objs.size],a.toArray.size,λi v=>a.toArray[i]?=some v,λi h=>SubI t h s.heap.objs.size l i/\SubS t h l a.toArray,_,rfl,kj (A:=X.A.in1) t (I.ok.hd x) _ l d a.toArray,st,b,?_,CmpOf.ints_gt (λi=>ns.getD i 0) (kq f),λv D tk C m=>?_⟩
 .grind
 .obtain⟨tt,rfl⟩:=kq f _ v C;rw[aay,o]at *;let⟨b1,b2⟩:=PySem.argBest_gt (λi=>ns.getD i 0) (ns.length-1);refine⟨.int _,H,I.kept (t':=tk) (on m),⟨_,rfl⟩,q _ (u6 b1 c) λy k=>?_⟩;let⟨j,z,rfl⟩:=abm.mp k;have:=b2 j (by omega);rwa[bj (iO z)]at this
def rMin(K:Io):List V->Hp->VK->Prop:=λa H Q=>∃t l ns,a=[.ref l]/\SqB t K H l (ns.map V.int)/\ns≠[]/\∀x,x∈ns->(∀y∈ns,x≤y)->Q (.int x) H
theorem qf(x:X.calm=true):c7 X (.builtin "min") (rMin X.K):=by
 intro p s J H G F Q I n ⟨t,l,ns,ex,w,b,q⟩;subst ex;let⟨u,rfl,g⟩:=n.one;cases g;let⟨a,r,C,_⟩:=I.sqb w;have f:=jL r;have o:a.length=ns.length:=by have:=r.length;rw[gE]at this;omega
 refine call_min_walk (oQ C λs2 e st c d=>?_);subst e;refine⟨s.heap.objs.size,[s.heap.objs.size,l],[s.heap.objs.size],a.toArray.size,λi v=>a.toArray[i]?=some v,λi h=>SubI t h s.heap.objs.size l i/\SubS t h l a.toArray,_,rfl,kj (A:=X.A.in1) t (I.ok.hd x) _ l d a.toArray,st,c,?_,CmpOf.ints_lt (λi=>ns.getD i 0) (kq f),λv E tk D m=>?_⟩
 .have:ns.length≠0:=λz=>b (abj z);rw[aay];omega
 .obtain⟨tt,rfl⟩:=kq f _ v D;rw[aay,o]at *;let⟨b1,b2⟩:=PySem.argBest_lt (λi=>ns.getD i 0) (ns.length-1);refine⟨.int _,H,I.kept (t':=tk) (on m),⟨_,rfl⟩,q _ (u6 b1 b) λy k=>?_⟩;let⟨j,B,rfl⟩:=abm.mp k;have:=b2 j (by omega);rwa[bj (iO B)]at this
end
section
variable {prog:aaA}{w:World}{A:aa2}{E:oR->Ad->Prop}{s:Ad}
structure ux(t:Bool)(e it l:Addr)(k:Nat)(h:aaR):Prop where
 e:∃old,IsEnum h e it (k:Int) old
 s:SubI t h it l k
def Cz{x:oR}(Z:ux t e it l i s.heap)(V:SubS t s.heap l items)(X:items[i]?=some x)(h:e≠it)
  (W:∀h',IsEnumOut h' e it ((i:Int)+1) x s.heap.objs.size->SubI t h' it l (i+1)->ae6 h' s.heap.objs.size (.int i s.toks) x->h'.objs.size=s.heap.objs.size+1 ->
   (∀b o,b∉[e,it]->s.heap.get? b=some o->h'.get? b=some o)->Q (some (.ref s.heap.objs.size)) {s with heap:=h',toks:=s.toks+1}):wpAny (model prog w) A (acP (.ref e)) Q E s:=by
 let⟨⟨old,k⟩,I⟩:=Z;have S:s.TypeIs (.ref e) "enumerate":=(⟨_,k,rfl⟩);unfold acP;refine aD (acK (aaU (name:=ack "__next__") S adw (aa0 adw S agm ?_ (af1 _))));rcases s with⟨hp,g,d,tk,os⟩;refine aD (m:=field (.ref e) 2) (aaQ k rfl (x:=.ref it) rfl (aD (j9 I V X λf n1 s1=>?_)));replace s1:abo it hp f:=s1;have H:IsEnum f e it i old:=(s1.2 e h).trans k;show wpAny _ _ (field (.ref e) 3 >>= _) _ _ ⟨f,g,d,tk,os⟩;refine aD (aaQ H rfl (x:=acq i) rfl ?_);show wpAny _ _ (field (.ref e) 4 >>= _) _ _ ⟨f,g,d,tk,os⟩;refine aD (aaQ H rfl (x:=.none) rfl ?_);refine aD (m:=mkInt i) (wpAny_mkInt ?_);show wpAny _ _ (ac5 (.ref e) 3 (acq ((i:Int)+1)) >>= _) _ _ ⟨f,g,d,tk+1,os⟩;refine aD (aaC H (by simp) λv P s2=>?_);replace s2:abo e f v:=s2;replace P:IsEnum v e it ((i:Int)+1) old:=P;show wpAny _ _ (ac5 (.ref e) 4 .none >>= _) _ _ ⟨v,g,d,tk+1,os⟩;refine aD (aaC P (by simp) λa G j=>?_);replace j:abo e v a:=j;replace G:IsEnum a e it ((i:Int)+1) old:=G;refine aD (m:=newTuple [.int i tk,x]) (afp ?_);have B:IsEnum (a.push {cls:=.type "tuple",data:=.seq #[.int i tk,x]}) e it ((i:Int)+1) old:=AD _ G;have c:a.objs.size=hp.objs.size:=by rw[j.1,s2.1,s1.1]
 have y:e<hp.objs.size:=aab k;have R:(a.push {cls:=.type "tuple",data:=.seq #[.int i tk,x]}).get? hp.objs.size=some {cls:=.type "tuple",data:=.seq #[.int i tk,x]}:=by rw[<-c];exact aai _ rfl
 have U:(a.push {cls:=.type "tuple",data:=.seq #[.int i tk,x]}).objs.size=hp.objs.size+1:=by rw[abq,c]
 have T:∀b o,b∉[e,it]->hp.get? b=some o->(a.push {cls:=.type "tuple",data:=.seq #[.int i tk,x]}).get? b=some o:=λb o hb q=>by
  simp only[aaq,abf,not_or,or_false]at hb;exact AD _ (j.extBut b o hb.1 (s2.extBut b o hb.1 (s1.extBut b o hb.2 q)))
 have n4:SubI t (a.push {cls:=.type "tuple",data:=.seq #[.int i tk,x]}) it l (i+1):=((n1.ext s2.extBut (abb h)).ext j.extBut (abb h)).keep λo q=>AD _ q;generalize a.push {cls:=.type "tuple",data:=.seq #[.int i tk,x]}=L at B R U T n4;show wpAny _ _ (abR (.ref e) >>= _) _ _ ⟨L,g,d,tk+1,os⟩;rw[c];refine aD (m:=abR (.ref e)) (aD (m:=field (.ref e) 0) (aaQ B rfl (x:=.none) rfl (Dl ?_)));simp only[if_true];refine aD (acO (aD (aaQ B rfl (x:=old) rfl (aD (aaC B (by simp) λD N C=>?_)))));replace C:abo e L D:=C;replace N:IsEnum D e it ((i:Int)+1) x:=N;show wpAny _ _ (acD (.ref e) (.ref hp.objs.size) >>= _) _ _ ⟨D,g,d,tk+1,os⟩;refine aD (m:=acD (.ref e) (.ref hp.objs.size)) ?_;refine aD (m:=ac5 (.ref e) 0 _) (aaC N (by simp) λM J r=>?_);replace r:abo e D M:=r;replace J:IsEnumOut M e it ((i:Int)+1) x hp.objs.size:=J;refine aaC J (by simp) λp O u=>?_;replace u:abo e M p:=u;replace O:IsEnumOut p e it ((i:Int)+1) x hp.objs.size:=O;have F:∀b o,b≠e->L.get? b=some o->p.get? b=some o:=λb o n q=>u.extBut b o n (r.extBut b o n (C.extBut b o n q));refine aD (afE (Dl ⟨_,rfl,Dl (W p O (n4.keep λo q=>F _ o (abb h) q) (F _ _ (aa8 y) R) (by rw[u.1,r.1,C.1,U]) λb o hb q=>F b o (λz=>hb (by simp[z])) (T b o hb q))⟩))
def Fm(j:A.handled=none)(Z:ux t e it l i s.heap)(n:SubS t s.heap l items)(g:items[i]?=none)
  (p:∀f,afD it s.heap f->Q none {s with heap:=f}):wpAny (model prog w) A (acP (.ref e)) Q E s:=by
 let⟨⟨old,c⟩,b⟩:=Z;have d:s.TypeIs (.ref e) "enumerate":=(⟨_,c,rfl⟩);refine aD (acK (aaU d adw (aa0 adw d agm ?_ (af1 _))));refine aD (m:=field _ 2) (aaQ c rfl (x:=.ref it) rfl (aD (uj j b n g λq x h a=>?_)));let⟨o,ho,k⟩:=a;exact aD (adi ⟨o,ho,k⟩ afr (Dl (p _ h)))
end
open AutoSeq1 (wpAny_loadPart') in
set_option maxHeartbeats 1100000 in
def C6(t:Bool)(l:Addr)(items:Array oR) :
  Meets (acE.«enumerate.__new__» ⟨[.type "enumerate",.ref l],[]⟩) (λ_ R s=>SubS t s.heap l items/\
   R (.ok (.ret (.ref (s.heap.push (itO t l)).objs.size))) {s with heap:=(s.heap.push (itO t l)).push {cls:=.type "enumerate",data:=.fields #[.none,.bool false,.ref s.heap.objs.size,acq 0,.none,.none]} }):=
 .of_wp λprog w A R s h=>by
  rcases s with⟨hp,g,d,tk,os⟩;rcases h with⟨f,h⟩;have b:=sub_enumerate;have a:SubS t (Shared.heap ⟨hp,g,d,tk,os⟩) l items:=f
  wp_walk
  refine wpAny_stack_any λst=>?_;refine Dl ?_;split
  .rename_i c _ _ _ _ _
   cases c==ad7 "enumerate"
   .wp_walk using dF a
    exact⟨_,rfl,h⟩
   .wp_walk using dF a
    exact⟨_,rfl,h⟩
  .wp_walk using dF a
   exact⟨_,rfl,h⟩
section
variable {prog:aaA}{w:World}{A:aa2}{E:oR->Ad->Prop}{s:Ad}
def Aa{Q:oR->Ad->Prop}(f:SubS t s.heap l items)
  (h:∀h',ux t (s.heap.objs.size+1) s.heap.objs.size l 0 h'->(∀b o,s.heap.get? b=some o->h'.get? b=some o)->Q (.ref (s.heap.objs.size+1)) {s with heap:=h' }):wpAny (model prog w) A (call (.type "enumerate") [.ref l]) Q E s:=by
 refine callType_new F.called_enumerate (by decide) (F.typeCall_enumerate_1 _) (F.newCall_enumerate_1 _) (λobj=>F.args_object_init_2 obj _) F.entry_enumerate_new (C6 t l items) ⟨f,?_⟩;have c:(s.heap.push (itO t l)).objs.size=s.heap.objs.size+1:=abq ..;rw[c];have a:((s.heap.push (itO t l)).push {cls:=.type "enumerate",data:=.fields #[.none,.bool false,.ref s.heap.objs.size,acq 0,.none,.none]}).get? (s.heap.objs.size+1)=some {cls:=.type "enumerate",data:=.fields #[.none,.bool false,.ref s.heap.objs.size,acq 0,.none,.none]}:=by
  rw[<-c];exact aai _ rfl
 have d:((s.heap.push (itO t l)).push {cls:=.type "enumerate",data:=.fields #[.none,.bool false,.ref s.heap.objs.size,acq 0,.none,.none]}).get? s.heap.objs.size=some (itO t l):=AD _ (aai _ rfl);refine⟨⟨_,a,rfl⟩,h _ ⟨⟨.none,a⟩,?_⟩ λb o x=>AD _ (AD _ x)⟩;cases t
 .exact⟨_,d,rfl,rfl⟩
 .exact⟨_,d,rfl,rfl⟩
end
def Ite(t:Bool)(K:Io)(a:Addr):It where
 go:=λi H=>∃b x,SqB t K H a b/\b[i]?=some x
 yld:=λi H v c=>∃T x,v = .ref T/\H T=none/\c=upd H T (.tup [.int (i:Int),x])/\∀b,SqB t K H a b->b[i]?=some x
 stop:=λi H=>∃b,SqB t K H a b/\b.length≤i
def xV{P:aaA}{w:World}{K:Io}{m:List Expr}{x1:Nat}{pos:Pos}{a:Addr}(j:e≠it):Turn P w K (.Tuple m x1 pos) (Ite t K a) [e,it] e (λi h=>ux t e it a i h) where
 mem:=by simp
 obj:=λi h st c b=>by
  let⟨⟨old,g⟩,r⟩:=st;simp only[aaq,abf,or_false]at b;rcases b with rfl|rfl
  .exact⟨_,g,λv q=>by cases q⟩
  .obtain⟨o,vs,e,d⟩:=r.obj;exact⟨o,e,λv q=>by rw[d]at q;cases q⟩
 keep:=λi h h' st k=>by
  let⟨⟨old,g⟩,r⟩:=st;exact⟨⟨old,k e (by simp) _ g⟩,r.keep λo q=>k it (by simp) o q⟩
 item:=by
  intro X S O M b i f s R H E I A st F;subst S O M;let⟨Y,x,y,T⟩:=F;let⟨G,D,p,_⟩:=I.sqb y;let⟨u,eu,ru⟩:=D.get T;refine Cz st p (x:=u) (by simpa using eu) j λh' a1 a2 U a4 W=>⟨.ref s.heap.objs.size,rfl,?_⟩;refine wpAny_letOwnedTupleGo_enum (s:={s with heap:=h',toks:=s.toks+1}) a1 λB b1 sb=>?_;have J:H s.heap.objs.size=none:=I.hok.fresh (Ge _);have C:∀c∈[e,it],c<s.heap.objs.size:=λc b=>by
   let⟨⟨old,g⟩,r⟩:=st;simp only[aaq,abf,or_false]at b;rcases b with rfl|rfl
   .exact aab g
   .obtain⟨o,vs,e,d⟩:=r.obj;exact aab e
  have L:∀c∈[e,it],c≠s.heap.objs.size:=λc b=>aaK (C c b);have N:∀c o,c≠e->h'.get? c=some o->B.get? c=some o:=λc o n q=>sb.extBut c o n q;have Z:ae6 B s.heap.objs.size (.int i s.toks) u:=N _ _ (abb (L e (by simp))) U;have I0:Inv X f R (upd H s.heap.objs.size (.tup [.int (i:Int),x])) {s with heap:=s.heap.push {cls:=.type "tuple",data:=.seq #[.int i s.toks,u]},toks:=s.toks+1}:=
   I.laid (o:=.tup [.int (i:Int),x]) (λc o q=>AD _ q) (Ge _) ⟨by show 2≤aaf;rw[aaj];decide,[.int i s.toks,u],.cons ⟨_,rfl⟩ (.cons ru .nil),PlainT.new _ _⟩
  have Il:Inv X f R (upd H s.heap.objs.size (.tup [.int (i:Int),x])) {s with heap:=B,toks:=s.toks+1}:=by
   refine Inv.turneds (s:={s with heap:=s.heap.push {cls:=.type "tuple",data:=.seq #[.int i s.toks,u]},toks:=s.toks+1}) (h':=B) (t':=s.toks+1) (ch:=[e,it]) I0 (λc o b q=>?_) λc b=>?_
   .rcases aeV q with⟨rfl,rfl⟩|q
    .exact Z
    .exact N c o (λz=>b (by simp[z])) (W c o b q)
   .obtain⟨f0,f1⟩:=A c b;exact⟨by rw[ag (L c b)];exact f0,f1⟩
  refine⟨.ref s.heap.objs.size,upd H s.heap.objs.size (.tup [.int (i:Int),x]),Il,rfl,⟨_,x,rfl,J,rfl,λzs V=>by rw[I.sqb_inj V y];exact T⟩,⟨⟨u,?_⟩,a2.keep λo q=>N _ o (abb j) q⟩,λc b=>?_⟩
  .have:((i+1:Nat):Int)=(i:Int)+1:=by rfl
   rw[this];exact b1
  .rw[ag (L c b)];exact(A c b).1
 done:=by
  intro X S O M b i f s R H E I A st F;subst S O M;let⟨Y,y,g⟩:=F;let⟨G,D,p,_⟩:=I.sqb y;have l1:=D.length;exact Fm (I.ok.hd b) st p (by simp;omega) λh' hk=>⟨rfl,I.turneds (t':=s.toks) (ch:=[e,it]) (λc o b q=>hk c o (λz=>b (by simp[z])) q) A⟩
 self:=λ_ _ _ _ _ st h=>by let⟨⟨old,g⟩,_⟩:=st;exact wpAny_pyIter_enum g h
section
variable {X:Cx}{f:List Expr}{z:Nat}{j:Pos}{a:Expr}{w:WA}{p pos:Pos}
def VJ(K:Io)(d:TA):TI:=λc H R=>d c H λvs b=>∃t l,vs=[.ref l]/\(∃x,SqB t K b l x)/\R (Ite t K l) b
theorem KI{m:TA}(o:Gl X "enumerate")(C:X.mg "enumerate" = none)(ha:PA X [a] m)(hs:OR [a] X.env=[(false,eval a X.env)]:=by first|exact cK rfl|rfl):PI X (.Tuple f z j) (.Call (.Name "enumerate" p) [a] [] pos) (VJ X.K m):=by
 intro d s B H R I h;refine Call_ (kI I o C qu (acF (thn (ha pos d s B H _ I h) λL s1 ⟨vs,v,k,r1,E⟩=>?_) hs rfl));let⟨t,l,e,⟨G,D⟩,q⟩:=E;subst e
 cases r1 with
 | cons r rr=>
  cases rr;cases r;let⟨u,F,n,_⟩:=k.sqb D;refine Aa n λJ Z A=>?_;let⟨old,y⟩:=Z.e;refine wpAny_pyIter_enum y ⟨s1.heap.objs.size+1,_,_,_,v,rfl,k.kept (t':=s1.toks) A,xV (Nat.succ_ne_self _),Z,λc x=>?_,q⟩;have g:s1.heap.objs.size≤c:=by
   have b:=x;simp at b;rcases b with rfl|rfl<;>first|exact ace _ _|exact Ge _
  exact k.fpOk g (k.hok.fresh g)
def wR(ds:List dL):List dL:=zipD (ik 0 ds.length) ds
def AF(w:WA):WI:=λm K=>w m λrs b=>on1 (λr=>∃t ds,imS r=some (t,ds)/\K ⟨wR ds,none⟩ b) rs
def fm(ds:List dL):(wR ds).length=ds.length:=by unfold wR;rw[fV,aP];simp
def qQ{d:dL}(h:ds[i]?=some d):(wR ds)[i]?=some (.tuple [.int (i:Int),d]):=by
 have b:=(DL.mp h).1;have:=u9 (jH (lo:=0) b) h;rw[Int.zero_add]at this;exact this
theorem wks_enum{K:Kd}:Wks K (Ite t K l) (wR ds) λH=>∃xs,SqB t K H l xs/\DenAll K H ds xs where
 stop:=λH ⟨xs,q,g⟩=>⟨xs,q,by rw[fm,g.length];exact Ge _⟩
 go:=λi H h ⟨xs,q,g⟩=>by
  rw[fm]at h;exact⟨xs,xs[i]'(by rw[<-g.length];exact h),q,iO _⟩
 yld:=λi H x v h ⟨xs,q,g⟩ y=>by
  let⟨T,u,rfl,n,rfl,k⟩:=y;let⟨d,s,m⟩:=g.get2 (k xs q);have c:∀b o,H b=some o->upd H T (.tup [.int i,u]) b=some o:=λb o q=>by rw[ag (bg q n)];exact q
  have r:Pers H _:=⟨λb xs q=>c b _ q,λb o u q=>c b _ q⟩;exact⟨c,_,qQ s,df (SqT.of ak) (DenAll.cons (tQ _) (DenAll.cons (m.mono r) DenAll.nil))⟩
theorem Ju(G:X.mg "enumerate" = none)(ha:MA X [a] w)(D:Gl X "enumerate":=by rfl)(hs:OR [a] X.env=[(false,eval a X.env)]:=by first|exact cK rfl|rfl):MI X (.Tuple f z j) (.Call (.Name "enumerate" p) [a] [] pos) (AF w):=(KI D G ha hs).wk<|by
 intro O H N ⟨u,m,M,s,o,g⟩;refine⟨u,m,_,s,o,λrs A vs J k n R rr F=>?_⟩;let⟨r,v,rfl,rfl,I,t,ds,y,k⟩:=fg rr k;let⟨l,x,rfl,E,q,C⟩:=yr I y;refine⟨t,l,rfl,⟨x,q⟩,g _ A _ J k n R F ⟨λH=>∃x,SqB t X.kx H l x/\DenAll X.kx H ds x/\∀b,Pers H b->SqB t X.kx b l x,wks_enum.imp λH ⟨x,a,c,_⟩=>⟨x,a,c⟩,⟨x,q,E,C⟩,λL B ⟨x,a,c,h⟩ d=>⟨x,h B d,c.mono d,λb p=>h b (d.trans p)⟩⟩⟩
theorem F7(b:X.mg "enumerate" = none)(ha:EA X [a] w)(h:Gl X "enumerate":=by rfl)(hs:OR [a] X.env=[(false,eval a X.env)]:=by first|exact cK rfl|rfl):EI X (.Tuple f z j) (.Call (.Name "enumerate" p) [a] [] pos) (AF w):=⟨Ju b ha.h h hs⟩
def QF{m:MSt}{b:Src->MSt->Prop}(h:w m λrs c=>on1 (λr=>∃t ds,imS r=some (t,ds)/\b ⟨wR ds,none⟩ c) rs):AF w m b:=h
end
section
variable {X:Cx}
def OH:WC:=λrs m K=>on1 (λr=>∃ds ns,sqOf m r=some ds/\dQ ds=some ns/\ns≠[]/\∀x,x∈ns->(∀y∈ns,y≤x)->K (.imm (.int x))) rs
theorem gV(n:X.calm=true):c7 X (.builtin "max") (cM X.kx OH):=by
 intro p s c H C u Q I k ⟨z,m,D,E,rs,B,R,h,ho,d⟩;let⟨r,v,rfl,rfl,j,ds,ns,o,y,b,ho⟩:=fg h ho;let⟨a,A,rfl,f,g⟩:=j.seq R o;rw[jE y]at g;have q:=fY g;subst q;have go:=λx j w=>d _ _ H (ho x j w) R (e8 _) (Frm.refl _ _);rcases f with f|f
 .exact qM n p s c H _ u Q I k ⟨false,a,ns,rfl,f,b,go⟩
 .exact qM n p s c H _ u Q I k ⟨true,a,ns,rfl,f,b,go⟩
def uO{m:MSt}{r:R}(b:sqOf m r=some ds)(c:dQ ds=some ns)(a:ns≠[])(h:∀x,x∈ns->(∀y∈ns,y≤x)->Kr (.imm (.int x))):OH [r] m Kr:=⟨ds,ns,b,c,a,h⟩
def On:WC:=λrs m K=>on1 (λr=>∃ds ns,sqOf m r=some ds/\dQ ds=some ns/\ns≠[]/\∀x,x∈ns->(∀y∈ns,x≤y)->K (.imm (.int x))) rs
theorem xu(n:X.calm=true):c7 X (.builtin "min") (cM X.kx On):=by
 intro p s c H C u Q I k ⟨z,m,D,E,rs,B,R,h,ho,d⟩;let⟨r,v,rfl,rfl,j,ds,ns,o,y,b,ho⟩:=fg h ho;let⟨a,A,rfl,f,g⟩:=j.seq R o;rw[jE y]at g;have q:=fY g;subst q;have go:=λx j w=>d _ _ H (ho x j w) R (e8 _) (Frm.refl _ _);rcases f with f|f
 .exact qf n p s c H _ u Q I k ⟨false,a,ns,rfl,f,b,go⟩
 .exact qf n p s c H _ u Q I k ⟨true,a,ns,rfl,f,b,go⟩
def UE{m:MSt}{r:R}(b:sqOf m r=some ds)(c:dQ ds=some ns)(a:ns≠[])(h:∀x,x∈ns->(∀y∈ns,x≤y)->Kr (.imm (.int x))):On [r] m Kr:=⟨ds,ns,b,c,a,h⟩
end
open SeqAt in
open AutoSeq1 (wpAny_loadPart') in
theorem tU(l:Addr)(items:Array oR)(n:Nat)(u:Option Addr)(z:Array (Option oR))(x:oR)(e:oR->Bool)(j:Nat)(D:j<items.size)(k:e items[j]=true)(q:∀m (C:m<items.size),m<j->e items[m]=false) :
  Meets (acE.«tuple.index» ⟨[.ref l,x],[]⟩)
   (λA R s=>s.heap.get? l=some {cls:=.type "tuple",dict:=u,data:=.seq items n,slots:=z}/\(∀y,y∈items->EqAt A.in1 s y x (e y))/\R (.ok (.ret (.int j s.toks))) {s with toks:=s.toks+1}):=
 .of_wp λprog w A R s h=>by
  rcases s with⟨hp,g,d,tk,os⟩;rcases h with⟨v,r,h⟩
  (wp_walk using ae8 v)
  refine(show wpAny (model prog w) A.in1 (forIn ([:min items.size items.size]:Std.Legacy.Range) _ _) _ _ _ from ?_);simp only[Std.Legacy.Range.forIn_eq_forIn_range'];have B:ahV (0:Nat) (min items.size items.size) 1=ahV 0 items.size 1:=by rw[Nat.min_self]
  refine aeG _ (λrest (b:Option _×Unit) o=>b.1=none/\o=⟨hp,g,d,tk,os⟩/\∃i,i≤j/\rest=ahV i (items.size-i) 1) _ ?turn ?fin _ _ ?start
  case turn=>
   intro i rest b o ⟨hb,rfl,c,f,hr⟩;have a:c<items.size:=by omega
   have hs:items.size-c=(items.size-(c+1))+1:=by omega
   rw[hs,List.range'_succ]at hr;cases hr;rw[show items[i]?=some items[i]from acW a];refine aD (r items[i] (Array.getElem_mem a) prog w _ _ ?_)
   by_cases p:i=j
   .subst p;rw[k]
    wp_walk
    exact⟨_,rfl,h⟩
   .rw[q i a (by omega)]
    wp_walk
    exact⟨rfl,rfl,i+1,by omega,rfl⟩
  case fin=>
   intro⟨b1,b2⟩ o ⟨hb,rfl,c,f,hr⟩;have:=congrArg aeT hr;simp at this;omega
  case start=>
   refine⟨rfl,rfl,0,abv _,?_⟩;simp[Std.Legacy.Range.size]
section
variable {X:Cx}{o e:Expr}{es:List Expr}{w:WE}{l:WA}{b c:Pos}
def wMT(ob:WM)(w:WE)(l:WA):WE:=λm K=>w m λr m1=>(∃ds,r = .imm (.tuple ds))/\l m1 λrs m2=>ob r rs m2 K
theorem UK{name:Str}{id:String}(slot:Slot "tuple" name id)(z:agi (.builtin id)=pure (.type "method_descriptor"))(O:MtM X id (mM X.kx ob))(ho:ME X o w)(ha:MA X (e::es) l)
  (j:aa5 o name X.env (eval o X.env)=eval o X.env:=by rfl)
  (q:((abw c (OR (e::es) X.env)).all (λx=>!x.1)&&(afk c (adD [] X.env)).all (λx=>x.1.isSome)
   && decide ((e::es).length+([]:List adm).length+(if ([]:List adm).isEmpty then 0 else 1)<30))=true:=by rfl)
  (d:(b.endLine==c.line)=true:=by rfl) (hs:OR (e::es) X.env=(false,eval e X.env)::OR es X.env:=by first|exact aV rfl|rfl) (h:(abw c (OR es X.env)).any (·.1)=false:=by rfl) :
  ME X (.Call (.Attribute o name b) (e::es) [] c) (wMT ob w l):=(P6 PySem.F.plainAttrs_tuple slot z O ho ha j q d hs h).wk<|by
 intro N H Q ⟨s,m,L,D,G,y⟩;refine⟨s,m,_,D,G,λr m1 v P k n1 p rr E=>?_⟩;let⟨⟨ds,rfl⟩,k⟩:=k;let⟨a,M,rfl,f,g⟩:=bz (rr);refine⟨.inr (.inl ⟨rfl,M,f⟩),s,m1,_,p,k,λrs m2 vs T J n2 R u C=>?_⟩;exact⟨s,m2,N,H,P,.imm _,rs,L,R,rr.keep D p C,u,J,λr I v S k n A B F=>y r I v S k (n.trans (n2.trans n1)) A (B.base R (E.trans C)) ((E.trans C).trans F)⟩
theorem vg{name:Str}{id:String}(slot:Slot "tuple" name id)(g:agi (.builtin id)=pure (.type "method_descriptor"))(j:MtM X id (mM X.kx ob))(ho:EE X o w)(ha:EA X (e::es) l)
  (d:aa5 o name X.env (eval o X.env)=eval o X.env:=by rfl)
  (f:((abw c (OR (e::es) X.env)).all (λx=>!x.1)&&(afk c (adD [] X.env)).all (λx=>x.1.isSome)
   && decide ((e::es).length+([]:List adm).length+(if ([]:List adm).isEmpty then 0 else 1)<30))=true:=by rfl)
  (a:(b.endLine==c.line)=true:=by rfl) (hs:OR (e::es) X.env=(false,eval e X.env)::OR es X.env:=by first|exact aV rfl|rfl) (h:(abw c (OR es X.env)).any (·.1)=false:=by rfl) :
  EE X (.Call (.Attribute o name b) (e::es) [] c) (wMT ob w l):=⟨UK slot g j ho.h ha.h d f a hs h⟩
def x_mt{m:MSt}(h:w m λr m1=>(∃ds,r = .imm (.tuple ds))/\l m1 λrs m2=>ob r rs m2 K):wMT ob w l m K:=h
def x_ts{P:Prop}(h:P):(∃es,R.imm (.tuple ds) = .imm (.tuple es))/\P:=⟨⟨ds,rfl⟩,h⟩
def Br:WM:=λr rs m K=>on1 (c8 λd=>∃ds j,r = .imm (.tuple ds)/\d.canLay0=true/\aa9 ds=true/\d.depth≤60/\(∃y,ds[j]?=some y/\aar y d=true)/\(∀(i:Nat) y,i<j->ds[i]?=some y->aar y d=false)/\K (.imm (.int (j:Nat))) m) rs
theorem h8(hu:X.A.units+64<cLine):MtM X "tuple.index" (mM X.kx Br):=by
 intro R s σ' H x xs v us Q I rx Y ⟨α,m,σ,H0,H1,r,rs,Kc,V,h1,G,ho,E⟩;let⟨r2,v2,rfl,rfl,G,ho⟩:=fg G ho;let⟨d,rfl,hd,ds,j,rfl,M,J,dp,⟨y,O,eq⟩,L,ho⟩:=fc G ho;let⟨a,zs,rfl,f,g⟩:=bz (show Den X.kx H (.tuple ds) x from h1);cases rx;let⟨u,rfl,W⟩:=Y.one;let⟨bs,qd⟩:=Den.reads I (abe _ M) hd W;let⟨h,D,⟨o,z,S,F,n,k⟩,hz⟩:=I.tupleP f;let⟨as,B⟩:=DenAll.reads I (acd _ J) g D;have hm:X.A.units+1+min (aaw ds) d.depth<cLine:=by have:=aeE (aaw ds) d.depth;omega
 have p:=ahk ds _ _ J B;have P:h.length=ds.length:=by rw[<-p,gE]
 have T:j<h.length:=by rw[P];exact(DL.mp O).1
 have U:∀(i:Nat) (C:i<h.length) y,ds[i]?=some y->adp s.heap h[i]=y:=λi C y e=>by
  rw[<-p,aaa,iO C]at e;exact aam e
 let⟨cls,Z,N,sl⟩:=o;dsimp only at S k;subst S;subst k;refine aea acm ⟨_,z,rfl⟩ PySem.F.entry_tuple_index (PySem.F.args_tuple_index_2 _ _)
  (tU a h.toArray _ Z sl u (λy=>aar (adp s.heap y) d) j (by simpa using T) ?_ ?_) ⟨z,ahP (by simpa using B) qd J M hm,?_⟩
 .show aar (adp s.heap h[j]) d=true;rw[U j T y O];exact eq
 .intro i C hlt;have q:i<h.length:=by simpa using C
  show aar (adp s.heap h[i]) d=false;have A:i<ds.length:=by rw[<-P];exact q
  rw[U i q _ (iO A)];exact L i _ hlt (iO A)
 .exact⟨.int (j:Nat),H,I.tok _,⟨_,rfl⟩,E _ _ _ H ho rfl V (e8 _) (Frm.refl _ _)⟩
def j5{m:MSt}{d y:dL}{j k k':Nat}(s1:Shp k d)(s2:∀y∈ds,Shp k' y)(f:k≤60)(g:ds[j]?=some y)(eq:aar y d=true)(a:∀(i:Nat) y,i<j->ds[i]?=some y->aar y d=false)(h:K (.imm (.int (j:Nat))) m):Br (.imm (.tuple ds)) [.imm d] m K:=
 ⟨ds,j,rfl,s1.cl,(km s2).1,aao s1.dp f,⟨y,g,eq⟩,a,h⟩
end
def xz:fillsNumberSlot (.type "tuple") "mul" = pure false:=
 PySem.fillsNumberSlot_seq aeq.lookup rfl af2.lookup rfl
def Nh:seqRepeat? (.type "tuple")=pure (some (.builtin "tuple.__mul__")):=by
 unfold seqRepeat?;rw[ahR (name:= "__mul__") aeq.lookup rfl,ahR (name:= "__rmul__") af2.lookup rfl];rfl
def GM(a:Int)(t:Tok)(l:Addr)(items:Array oR)(n:Nat)(d:Option Addr)(b:Array (Option oR)) :
  Meets (acE.«int.__rmul__» ⟨[.int a t,.ref l],[]⟩) (λ_ R s=>s.heap.get? l=some {cls:=.type "tuple",dict:=d,data:=.seq items n,slots:=b}/\R (.ok (.ret oR.notImplemented)) s):=
 .of_wp λprog w A R s h=>by
  rcases h with⟨c,h⟩
  wp_walk
  exact⟨_,rfl,h⟩
open AutoSeq1 (wpAny_loadPart') in
theorem KU(l:Addr)(items:Array oR)(n:Nat)(B:Option Addr)(D:Array (Option oR))(k:Int)(t:Tok)(H:0≤k)(G:k<2^20)(F:items.size*k.toNat≤1000000) :
  Meets (acE.«tuple.__mul__» ⟨[.ref l,.int k t],[]⟩) (λ_ R s=>s.heap.get? l=some {cls:=.type "tuple",dict:=B,data:=.seq items n,slots:=D}/\
   if (items.isEmpty||k==1)=true then R (.ok (.ret (.ref l))) s else R (.ok (.ret (.ref s.heap.objs.size))) {s with heap:=s.heap.push {cls:=.type "tuple",data:=.seq ((aap k.toNat items).foldl (λb x=>b++x) #[])} }):=
 .of_wp λprog w A R s h=>by
  rcases s with⟨hp,g,d,tk,os⟩;rcases h with⟨p,h⟩
  (wp_walk using ae8 p)
  have z:(⟨hp,g,d,tk,os⟩:Ad).TypeIs (.ref l) "tuple":=(⟨_,p,rfl⟩);have o:IsTup (⟨hp,g,d,tk,os⟩:Ad).heap l items:=⟨_,p,rfl,n,rfl⟩;have E:((items.size:Nat):Int)*k≤1000000:=by
   have y:k=((k.toNat:Nat):Int):=by omega
   rw[y,<-aaJ];omega
  rw[if_neg (show ¬_ by simp only[decide_eq_true_eq,agw];omega)];refine aD (ahb o ?_)
  by_cases j:(items.isEmpty||k==1)=true
  .rw[if_pos j]at h⊢;refine aD ?_;unfold afn;refine aD (adl z (Dl ?_));rw[if_pos (by rfl)];exact aD (acO (Dl ⟨_,rfl,h⟩))
  .rw[if_neg j]at h⊢;have u:items.isEmpty=false:=by
    cases q:items.isEmpty with
    |false=>rfl
    |true=>rw[q]at j;exact(j rfl).elim
   by_cases r:k=0
   .subst r;show wpAny _ _ (if (decide ((0:Int)≤0)||items.isEmpty)=true then _ else _) _ _ _;rw[if_pos (by rfl)];exact aD (m:=abQ #[]) (aa3 (Dl ⟨_,rfl,h⟩) (by show(0:Nat)≤aaf;exact abv _))
   have v:(decide (k≤0)||items.isEmpty)=false:=by rw[u,decide_eq_false (by omega)];rfl
   have f:∀(m:Nat) (a:Array oR),(ah8 (λb x=>b++x) a (aap m items)).size=a.size+m*items.size:=by
    intro m
    induction m with
    |zero=>intro a;simp
    |succ m C=>intro a;rw[adP,acY,C,Array.size_append,agl];omega
   have c:((aap k.toNat items).foldl (λb x=>b++x) #[]).size≤aaf:=by
    rw[f,aaj,abU];simp;omega
   show wpAny _ _ (if (decide (k≤0)||items.isEmpty)=true then _ else _) _ _ _;rw[if_neg (by rw[v];exact aan)];show wpAny _ _ (if ((items.size:Nat):Int)*k>(2^63-1)/8 then _ else _) _ _ _;rw[if_neg (by omega)];show wpAny _ _ (if afs (((items.size:Nat):Int)*k)=true then _ else _) _ _ _;rw[if_neg (by unfold afs;rw[decide_eq_true_eq,aaj];omega)];exact aD (m:=abQ _) (aa3 (Dl ⟨_,rfl,h⟩) c)
section
variable {X:Cx}
def UR(K:Io):R2:=λx y H Q=>∃a b k,x = .ref a/\y = .int k/\SqT K H a b/\0≤k/\k<2^20/\b.length*k.toNat≤1000000/\
 if (b.isEmpty||k==1)=true then Q (.ref a) H else ∀p,H p=none->Q (.ref p) (upd H p (.tup (aap k.toNat b).flatten))
theorem Jv:OpR X (acp .Mult) (UR X.K):=by
 intro A s N H x y v u Q I J D h;let⟨a,d,k,rfl,rfl,F,L,G,E,q⟩:=h;cases J;let⟨t,rfl⟩:=D;let⟨c,r,⟨o,ho,j,hd,n,g⟩,M⟩:=I.tupleP F;let⟨cls,z,w,B⟩:=o;dsimp only at j g;subst j g;have m:d.length=c.length:=r.length;have p:c.toArray.isEmpty=d.isEmpty:=by
  cases c with
  |nil=>have:d=[]:=abj (by simpa using m);subst this;rfl
  |cons _ _=>cases d with
   |nil=>simp at m
   |cons _ _=>rfl
 have f:=by
  have:=kL c k.toNat [];omega
 refine afy (T:= "tuple") (U:= "int") (by decide) ⟨_,ho,rfl⟩ (λC=>agh C k t) xz PySem.F.fills_int_mul agC Nh PySem.F.slot_int_index.lookup
  (aea agC (agh s k t) PySem.F.entry_int_rmul (PySem.F.args_int_rmul_2 _ _) (GM k t a c.toArray n z B)
   ⟨ho,rfl,⟨_,ho,rfl⟩,aea aeq ⟨_,ho,rfl⟩ PySem.F.entry_tuple_mul (PySem.F.args_tuple_mul_2 _ _) (KU a c.toArray n z B k t L G (by rw[aay,<-m];exact E)) ⟨ho,?_⟩⟩)
 rw[p,f]
 by_cases j:(d.isEmpty||k==1)=true
 .rw[if_pos j]at q⊢;exact⟨.ref a,H,I,rfl,q⟩
 .rw[if_neg j]at q⊢;have hp:H s.heap.objs.size=none:=I.hok.fresh (Ge _);refine⟨.ref s.heap.objs.size,_,I.laid (t':=s.toks) (o:=.tup (aap k.toNat d).flatten) (λb ob e=>AD _ e) (Ge _) ⟨?_,_,r.rep k.toNat,PlainT.new _ _⟩,rfl,q _ hp⟩;rw[CB,abU,aaj];omega
def xY:WO
 | .imm (.int i),.imm (.int j),_,K=>afW i j/\K (.imm (.int (i*j)))
 | .imm (.tuple ds),.imm (.int k),_,K=>0≤k/\k<2^20/\ds.length*k.toNat≤1000000/\K (.imm (.tuple (aap k.toNat ds).flatten))
 | .new ds,.imm (.int k),_,K=>0≤k/\k<2^20/\ds.length*k.toNat≤1000000/\K (.new (aap k.toNat ds).flatten)
 |_,_,_,_=>False
theorem jx{K:Kd}{H:Hp}{ds:List dL}{xs:List V}(g:DenAll K H ds xs):∀k:Nat,DenAll K H (aap k ds).flatten (aap k xs).flatten
 |0=>by simp[ DenAll]
 |k+1=>by rw[ adP];exact g.append (jx g k)
theorem aF:OpR X (acp .Mult) (rM X.kx xY):=by
 intro b s d H x y v u Q I q r ⟨D,m,F,G,L,r1,M,E,R,w,o,ho,c⟩;unfold xY at ho
 split at ho
 .rename_i i j;exact ML b s d H x y v u Q I q r ⟨D,m,F,G,L,.imm (.int i),.imm (.int j),E,R,w,o,ho,c⟩
 .rename_i ds k;let⟨A,B,C,ho⟩:=ho;let⟨a,n,rfl,f,g⟩:=bz (show Den X.kx H (.tuple ds) x from w);have z:=aU (show Den X.kx H (.int k) y from o);subst z;refine Jv b s d H _ _ v u Q I q r ⟨a,n,k,rfl,rfl,f,A,B,by rw[<-g.length];exact C,?_⟩
  by_cases h:(n.isEmpty||k==1)=true
  .rw[if_pos h];refine c _ _ H ho R (lR (df f ?_)) (Frm.refl _ _);have e:(aap k.toNat ds).flatten=ds:=by
    rw[agw]at h;rcases h with h|h
    .have hx:n=[]:=List.isEmpty_iff.mp h;have hd:ds=[]:=abj (by rw[g.length,hx];rfl);subst hd;simp
    .simp_all
   rw[e];exact g
  .rw[if_neg h];exact λp hp=>c _ _ _ ho (R.lay hp) (lR (df (SqT.of ak) ((jx g k.toNat).mono (bo (.inl hp))))) (cx hp)
 .rename_i ds k;let⟨A,B,C,ho⟩:=ho;let⟨a,n,rfl,hb,J,g⟩:=w;have z:=aU (show Den X.kx H (.int k) y from o);subst z;refine QE b s d H _ _ v u Q I q r ⟨a,k,n,rfl,rfl,J,by omega,by omega,by rw[<-g.length,aaj];omega,λp hp=>?_⟩;exact c _ _ _ ho (R.lay hp) ⟨p,_,rfl,hp,ak,(jx g k.toNat).mono (bo (.inl hp))⟩ (cx hp)
 .exact ho.elim
def cX{m:MSt}{i j:Int}(a:afW i j)(h:Kr (.imm (.int (i*j)))):xY (.imm (.int i)) (.imm (.int j)) m Kr:=⟨a,h⟩
def IX{m:MSt}{k:Int}(a:0≤k)(c:k<2^20)(b:ds.length*k.toNat≤1000000)(h:Kr (.imm (.tuple (aap k.toNat ds).flatten))):xY (.imm (.tuple ds)) (.imm (.int k)) m Kr:=⟨a,c,b,h⟩
def O5{m:MSt}{k:Int}(a:0≤k)(c:k<2^20)(b:ds.length*k.toNat≤1000000)(h:Kr (.new (aap k.toNat ds).flatten)):xY (.new ds) (.imm (.int k)) m Kr:=⟨a,c,b,h⟩
end
end L2
namespace K
open PySem L2 M7
variable{l:List Nat}{h:Hall}{p:Nat×Nat}{r:Rule}{t:Nat}
inductive Mv where
 |come (o:List Nat)|done (k:Nat)|still
def Mv.d:Mv->dL
 | .come o=>.tuple [.str "come",lnD o]
 | .done k=>.tuple [.str "done",.int (k:Int)]
 | .still=>.tuple [.str "still"]
def Mv.Ok(h:Hall):Mv->Prop
 | .come o=>Ord h.ss.length o
 | .done k=>k<h.ss.length
 | .still=>True
inductive Wd where
 |taken|away|served|none
def Wd.s:Wd->Str
 | .taken=> "taken" | .away=> "away" | .served=> "served" | .none=> "none"
def Hall.rn(h:Hall)(k:Nat):Nat:=h.rs.getD k 0
def fE(h:Hall)(l:List Nat)(k:Nat):List Nat×Wd:=if l.getD k 0=h.rn k then(l,.away)else(l.set k (l.getD k 0+1),.taken)
def d6(l:List Nat)(k:Nat):List Nat×Wd:=if l.getD k 0=0 then(l,.none)else(l.set k (l.getD k 0-1),.served)
def idx(l:List Nat)(x:Nat):Nat:=l.findIdx (λy=>y==x)
def maxN(l:List Nat):Nat:=l.foldl max 0
def dM(h:Hall)(l:List Nat):Option (Nat×Nat):=if h.mv=true/\0∈l/\2≤maxN l then some (idx l (maxN l),idx l 0)else none
def cB(l:List Nat)(p:Nat×Nat):List Nat:=(l.set p.1 (l.getD p.1 0-1)).set p.2 ((l.set p.1 (l.getD p.1 0-1)).getD p.2 0+1)
def di(h:Hall):Nat->List Nat->List Nat
 |0,l=>l
 |n+1,l=>match dM h l with
  |none=>l
  |some p=>di h n (cB l p)
def d9(h:Hall)(l:List Nat):List Nat:=di h (l.count 0) l
theorem lz:∀(l:List Nat) (a:Nat),a≤l.foldl max a/\(∀x∈l,x≤l.foldl max a)/\(l.foldl max a=a\/l.foldl max a∈l)
 |[],a=>⟨Ge _,(λ_ h=>by cases h),.inl rfl⟩
 | y::l,a=>by
  let⟨c,d,e⟩:=lz l _;refine⟨aao (ae5 a y) c,λx b=>?_,?_⟩
  .rcases aaq.mp b with rfl|b
   .exact aao (Nat.le_max_right a x) c
   .exact d x b
  .grind
def sJ:∀x∈l,x≤maxN l:=(lz l 0).2.1
theorem iX(h:l≠[]):maxN l∈l:=by
 rcases (lz l 0).2.2 with e|e
 .cases l with
  |nil=>exact(h rfl).elim
  |cons x l=>
   have:x≤maxN (x::l):=sJ x aac;have a:maxN _=0:=e
   grind
 .exact e
theorem ic{x:Nat}(h:x∈l):l[idx l x]?=some x/\∀i y,i<idx l x->l[i]?=some y->y≠x:=by
 have a:idx l x<l.length:=List.findIdx_lt_length_of_exists ⟨x,h,by simp⟩;refine⟨?_,λi y b c e=>?_⟩
 .rw[iO a];have:=List.findIdx_getElem (w:=a);simp at this;exact congrArg some this
 .have:=List.not_of_lt_findIdx b
  grind
theorem ck(a b:Nat):aar (.int (a:Int)) (.int (b:Int))=decide (a=b):=by
 simp[aar]
 by_cases h:a=b
 .subst h;simp
 .have:¬_:=λz=>h (aig z)
  simp_all
def gf(l:List Nat):∀y∈natD l,Shp 0 y:=λy a=>by
 let⟨x,_,rfl⟩:=aau.mp a;exact fW _
def vM(l:List Nat)(k x:Nat):(natD l).set k (.int (x:Int))=natD (l.set k x):=by
 unfold natD;rw[List.map_set]
def jM:SpM:=λa K=>∃(l:List Nat) (k:Nat) (d:Int) (x:Nat),a=[.imm (lnD l),.imm (.int (k:Int)),.imm (.int d)]/\k<l.length/\l.length≤1000/\(l.getD k 0:Int)+d=(x:Int)/\K (.imm (lnD (l.set k x))) []
def lwD(p:List Nat×Wd):dL:=.tuple [lnD p.1,.str p.2.s]
def IB:SpM:=λa K=>∃(h:Hall) (l:List Nat) (k:Nat),a=[.imm h.d,.imm (lnD l),.imm (.int (k:Int))]/\h.Ok/\Lines h l/\k<h.ss.length/\K (.imm (lwD (fE h l k))) []
def Ia:SpM:=λa K=>∃(l:List Nat) (k:Nat),a=[.imm (lnD l),.imm (.int (k:Int))]/\k<l.length/\l.length≤1000/\K (.imm (lwD (d6 l k))) []
def optP:Option (Nat×Nat)->dL
 |none=>.none
 |some p=>.tuple [.int (p.1:Int),.int (p.2:Int)]
def zp:SpM:=λa K=>∃(h:Hall) (l:List Nat),a=[.imm h.d,.imm (lnD l)]/\l≠[]/\l.length≤1000/\K (.imm (optP (dM h l))) []
def qr:SpM:=λa K=>∃(h:Hall) (l:List Nat),a=[.imm h.d,.imm (lnD l)]/\l≠[]/\l.length≤1000/\K (.imm (lnD (d9 h l))) []
theorem ij(e:dM h l=some p):h.mv=true/\l[p.1]?=some (maxN l)/\2≤maxN l/\l[p.2]?=some 0/\p.1≠p.2:=by
 unfold dM at e
 split at e
 .rename_i q;let⟨d,b,c⟩:=q;have a:l≠[]:=λz=>by rw[z]at b;cases b
  have s1:=(ic (iX a)).1;have s:=(ic b).1
  grind
 .cases e
theorem jq(e:dM h l=some p):cB l p=(l.set p.1 (maxN l-1)).set p.2 1/\p.1<l.length/\p.2<l.length/\(cB l p).count 0+1=l.count 0/\(cB l p).length=l.length:=by
 let⟨h0,b,q,a,i⟩:=ij e;have d:=(DL.mp b).1;have f:=(DL.mp a).1;have j:l.getD p.1 0=maxN l:=bj b;have m:(l.set p.1 (maxN l-1)).getD p.2 0=0:=bj (by rw[aaz i];exact a);have g:cB l p=(l.set p.1 (maxN l-1)).set p.2 1:=by unfold cB;rw[j,m]
 have k:=by rw[iO d]at b;exact aam b
 have n:l[p.2]=0:=by rw[iO f]at a;exact aam a
 refine⟨g,d,f,?_,by rw[g,aba,aba]⟩;have u:0<l.count 0:=List.count_pos_iff.mpr (GE a);have c:p.2<(l.set p.1 (maxN l-1)).length:=by rw[aba];exact f
 have v:(l.set p.1 (maxN l-1))[p.2]=0:=by rw[adR i];exact n
 rw[g,List.count_set c,List.count_set d,v,k];have o:(maxN l==0)=false:=by simp;omega
 have s:(maxN l-1==0)=false:=by simp;omega
 simp_all
theorem jN(e:dM h l=none):∀n,di h n l=l
 |0=>rfl
 |n+1=>by simp[di,e]
def rH(h:Hall)(r:Rule)(t:Nat):Nat:=match r with
 | .turns=>(t+1)%h.ss.length
 |_=>t
def AG:SpM:=λa K=>∃(h:Hall) (r:Rule) (t:Nat),a=[.imm h.d,.imm r.d,.imm (.int (t:Int))]/\h.Ok/\K (.imm (.int (rH h r t:Nat))) []
def DE(h:Hall)(r:Rule)(l:List Nat)(t:Nat):Mv->dL
 | .come o=>.int (sent h r l t o:Nat)
 | .done k=>.int (k:Int)
 | .still=>.none
def uF:SpM:=λa K=>∃(h:Hall) (r:Rule) (l:List Nat) (t:Nat) (mv:Mv),a=[.imm h.d,.imm r.d,.imm (stD l t),.imm mv.d]/\h.Ok/\r.Ok h/\Lines h l/\mv.Ok h/\K (.imm (DE h r l t mv)) []
def cn(h:Hall)(r:Rule)(l:List Nat)(t:Nat):Mv->List Nat×Nat×Wd
 | .come o=>(d9 h (fE h l (sent h r l t o)).1,rH h r t,(fE h l (sent h r l t o)).2)
 | .done k=>(d9 h (d6 l k).1,t,(d6 l k).2)
 | .still=>(d9 h l,t,.none)
def mvD(p:List Nat×Nat×Wd):dL:=.tuple [stD p.1 p.2.1,.str p.2.2.s]
def xM:SpM:=λa K=>∃(h:Hall) (r:Rule) (l:List Nat) (t:Nat) (mv:Mv),a=[.imm h.d,.imm r.d,.imm (stD l t),.imm mv.d]/\h.Ok/\r.Ok h/\Lines h l/\mv.Ok h/\(r = .turns->t<h.ss.length)/\K (.imm (mvD (cn h r l t mv))) []
theorem tw{o:List Nat}(ho:h.Ok)(hr:r.Ok h)(e:Lines h l)(a:Ord h.ss.length o)(c:r = .turns->t<h.ss.length):sent h r l t o<h.ss.length:=by
 cases r with
 |random=>let⟨f,k,rfl,h0⟩:=a.cons;exact h0
 |turns=>exact c rfl
 |two=>exact gN a 2
 |least=>have:=gN (lt:=bx l) a o.length;rw[aae]at this;exact this
 |quick=>have:=gN (lt:=bO h l) a o.length;rw[aae]at this;exact this
 |told d=>
  have b:placeF 0 h.rs l<d.length:=by rw[hr.1,allR_cnt];exact place_lt e.fits
  exact hr.2 _ (GE (getN rfl b))
theorem Lines.set{k x:Nat}(a:Lines h l)(f:∀s,h.ss[k]?=some s->x≤s.r):Lines h (l.set k x):=by
 refine⟨by rw[aba];exact a.1,λi s y e c=>?_⟩
 by_cases b:k=i
 .subst b;have d:k<l.length:=by rw[a.1];exact(DL.mp e).1
  simp_all
 .rw[aaz b]at c;exact a.2 i s y e c
def Lines.at{k:Nat}(b:Lines h l)(a:k<h.ss.length):∃s,h.ss[k]?=some s/\l.getD k 0≤s.r/\h.rn k=s.r/\s∈h.ss:=by
 let⟨s,e,c,eb,hs⟩:=h.srv a;exact⟨s,e,b.2 k s _ e (getN b.1 a),bj (Hall.rs_get e),hs⟩
theorem wM{k:Nat}(a:Lines h l)(b:k<h.ss.length):Lines h (fE h l k).1:=by
 let⟨s,f,c,e,hs⟩:=a.at b;unfold fE;split
 .omega
 .refine a.set λg d=>?_
  grind
theorem xw{k:Nat}(a:Lines h l)(b:k<h.ss.length):Lines h (d6 l k).1:=by
 let⟨s,f,c,e,hs⟩:=a.at b;unfold d6;split
 .omega
 .refine a.set λg d=>?_
  grind
theorem i7{h:Hall}(ho:h.Ok):∀(n:Nat) (l:List Nat),Lines h l->Lines h (di h n l)
 |0,l,hL=>hL
 | n+1,l,hL=>by
  simp[di]
  cases e:dM h l with
  |none=>exact hL
  |some p=>
   let⟨c,d,i,j,b⟩:=jq e;let⟨f,m1,m2,m,g⟩:=ij e;refine i7 ho n _ ?_;rw[c];refine(hL.set λs a=>?_).set λs a=>(ho.ok s (GE a)).r1;have:=hL.2 p.1 s _ a m1;omega
def gw(ho:h.Ok)(a:Lines h l):Lines h (d9 h l):=i7 ho _ _ a
structure St(h:Hall)(r:Rule)(l:List Nat)(t:Nat):Prop where
 ln:Lines h l
 tn:r = .turns->t<h.ss.length
 ts:t<4
theorem Fb(ho:h.Ok)(hs:t<4)(a:r = .turns->t<h.ss.length):(r = .turns->rH h r t<h.ss.length)/\rH h r t<4:=by
 have n1:=ho.n1;have n4:=ho.n4
 cases r with
 |turns=>
  have:=ahl (t+1) (show h.ss.length>0 by assumption);exact⟨λ_=>this,by show(t+1)%h.ss.length<4;exact aak ‹_› ‹_›⟩
 |_=>exact⟨(λz=>by cases z),hs⟩
theorem o7(ho:h.Ok)(hr:r.Ok h)(S:St h r l t){mv:Mv}(a:mv.Ok h):St h r (cn h r l t mv).1 (cn h r l t mv).2.1:=by
 cases mv with
 |come o=>
  have:=Fb ho S.ts S.tn;exact⟨gw ho (wM S.ln (tw ho hr S.ln a S.tn)),this.1,this.2⟩
 |done k=>exact⟨gw ho (xw S.ln a),S.tn,S.ts⟩
 |still=>exact⟨gw ho S.ln,S.tn,S.ts⟩
def zer(h:Hall):List Nat:=aap h.ss.length 0
def nU(ho:h.Ok)(r:Rule):St h r (zer h) 0:=by
 refine⟨⟨by simp[zer],λi s x a e=>?_⟩,λ_=>ho.n1,by decide⟩;have:=by
  have:=GE e;exact(List.mem_replicate.mp this).2
 omega
def zT:SpM:=λa K=>∃h:Hall,a=[.imm h.d]/\h.Ok/\K (.imm (stD (zer h) 0)) []
def TapeD(c:Nat)(ds:List dL):Prop:=∃(ns:List Int) (p q:Int),ds=[.list (ns.map .int),.int p,.int q]/\ns.length≤63/\0≤p/\p≤c/\0≤q
theorem TapeD.mono{c a:Nat}{ds:List dL}(h:TapeD c ds)(i:c≤a):TapeD a ds:=by
 let⟨ns,p,q,e,f,b,g,d⟩:=h;exact⟨ns,p,q,e,f,b,by omega,d⟩
def IU:SpM:=λa K=>∃ns:List Int,a=[.imm (.list (ns.map .int))]/\ns.length≤63/\∀ds,TapeD 0 ds->K (.new ds) []
def lb:SpM:=λa K=>∃(ds:List dL) (m:Int) (c:Nat),a=[.own ds,.imm (.int m)]/\TapeD c ds/\c<1000000000/\0<m/\m<1099511627776/\∀(r:Int) (d:List dL),0≤r->r<m->TapeD (c+1) d->K (.imm (.int r)) [d]
def JO:SpM:=λc K=>∃a b:Nat,c=[.imm (.int a),.imm (.int b)]/\K (.imm (.int (a.gcd b:Nat))) []
def BC(m:List (List Nat)):Prop:=m≠[]/\m.length≤1000/\∀rs∈m,1≤rs.length/\rs.length≤4/\∀r∈rs,1≤r/\r≤6
def pH:SpM:=λa K=>∃(h:Hall) (l:List Nat),a=[.imm h.d,.imm (lnD l)]/\l≠[]/\l.length≤1000/\K (.imm (lnD (d9 h l))) []
theorem sumZ:∀l:List Nat,(l.map λ(x:Nat)=>(x:Int)).sum=((l.sum:Nat):Int)
 |[]=>rfl
 |x::l=>by rw[aaD,acJ,acJ,sumZ l,acx]
theorem Jc:∀{l:List Nat}{N:Nat},(∀x∈l,x≤N)->l.sum≤N*l.length
 |[],N,_=>abv _
 |x::l,N,h=>by
  have c:=h x aac;have b:=Jc λy a=>h y (aad _ a);rw[acJ,aaI,Nat.mul_succ];omega
theorem Cn:∀{l:List Nat}{x:Nat},x∈l->x≤l.sum
 |y::l,x,h=>by
  rw[acJ];obtain rfl|h:=aaq.mp h
  .simp
  .have:=Cn h;omega
def zN(l:List Nat):dQ (natD l)=some (l.map λ(x:Nat)=>(x:Int)):=by
 have:=f7 (l.map λ(x:Nat)=>x);rwa[aaN]at this
def cutN(b:Nat)(p:Nat):Nat×Nat:=(p/p.gcd b,b/p.gcd b)
theorem pC{b p:Nat}(d:1≤p)(i:p<1000000)(a:1≤b)(j:b<1000000):1≤(cutN b p).1/\(cutN b p).1<1000000/\1≤(cutN b p).2/\(cutN b p).2<1000000:=by
 have g:0<p.gcd b:=abz _ a;have c:p.gcd b≤b:=af3 _ a;have e:p.gcd b≤p:=Nat.gcd_le_left _ d;have f:=adr p (p.gcd b);have k:=adr b (p.gcd b);exact⟨Nat.div_pos e g,by show p/p.gcd b<1000000;exact aax ‹_› ‹_›,Nat.div_pos c g,by show b/p.gcd b<1000000;exact aax ‹_› ‹_›⟩
def uU{a:Type}(n:Nat)(x:a):(aap n [x]).flatten=aap n x:=by simp
def Dg(n x:Nat):aap n (abC (x:Int))=natD (aap n x):=by unfold natD;rw[aft]
def QW(p:Nat×Nat)(r:Nat):Srv:=⟨p.1,p.2,r⟩
def Fc{r:Nat}(h:1≤p.1/\p.1<1000000/\1≤p.2/\p.2<1000000)(hr:1≤r/\r≤6):(QW p r).Ok:=⟨h.1,h.2.1,h.2.2.1,h.2.2.2,hr.1,hr.2⟩
end K
namespace L2
open PySem PySem.Spec PyProof.Rows
variable{K:Io}
section
variable {prog:aaA}{w:World}{A:aa2}{E:oR->Ad->Prop}{s:Ad}
abbrev colH(h:aaR)(vs:List oR):aaR:=(h.push (aeH "list" #[] 0)).update h.objs.size (aca (·++vs.toArray))
def yI(h:aaR)(vs:List oR):(colH h vs).objs.size=h.objs.size+1:=(adL ..).trans (size_push' ..)
end
section
variable {X:Cx}{a:Expr}{es:List Expr}{w:WA}{pos p b c:Pos}
def VI(K:Io):List V->Hp->VK->Prop:=λx H Q=>∃(t:Bool) (l:Addr) (ns:List Int),x=[.ref l]/\SqB t K H l (ns.map V.int)/\Q (.int ns.sum) H
theorem ku(ns:List Int):∀n,n≤ns.length->preSum (λi=>ns.getD i 0) n=(ns.take n).sum
 |0,_=>by simp[preSum]
 |n+1,h=>by
  show preSum _ n+ns.getD n 0=_;have d:=by omega
  rw[ku ns n (by exact aa7 ‹_›),aaX,iO d,bj (iO d),ad6];simp
theorem qT(y:X.calm=true):c7 X (.builtin "sum") (VI X.K):=by
 intro j s F H E D Q I n ⟨t,l,ns,ex,x,q⟩;subst ex;let⟨u,rfl,k⟩:=n.one;cases k;let⟨d,r,B,_⟩:=I.sqb x;have z:=jL r;have o:d.length=ns.length:=by have:=r.length;grind
 refine call_sum_walkG (oQ B λs2 e st f g=>?_);subst e;refine⟨s.heap.objs.size,[s.heap.objs.size,l],[s.heap.objs.size],d.toArray.size,λi v=>d.toArray[i]?=some v,λi h=>SubI t h s.heap.objs.size l i/\SubS t h l d.toArray,λi=>ns.getD i 0,rfl,kj (A:=X.A.in1) t (I.ok.hd y) _ l g d.toArray,st,f,kq z,λC tk t' m=>?_⟩;have e:preSum (λi=>ns.getD i 0) d.toArray.size=ns.sum:=by
  rw[aay,o,ku ns ns.length (Ge _),aae]
 rw[e];exact⟨.int ns.sum,H,I.kept (t':=tk) (on m),⟨_,rfl⟩,q⟩
def Ol:WC:=λrs m K=>on1 (λr=>∃ds ns,sqOf m r=some ds/\dQ ds=some ns/\K (.imm (.int ns.sum))) rs
theorem vW(k:X.calm=true):c7 X (.builtin "sum") (cM X.kx Ol):=by
 intro d s e H z u Q I j ⟨t,m,A,B,rs,x,R,h,ho,i⟩;let⟨r,v,rfl,rfl,o,ds,ns,l,q,ho⟩:=fg h ho;let⟨a,y,rfl,f,g⟩:=o.seq R l;rw[jE q]at g;have n:=fY g;subst n;have go:=i _ _ H ho R (e8 _) (Frm.refl _ _);rcases f with f|f
 .exact qT k d s e H _ u Q I j ⟨false,a,ns,rfl,f,go⟩
 .exact qT k d s e H _ u Q I j ⟨true,a,ns,rfl,f,go⟩
def Oq{m:MSt}{r:R}{d:R->Prop}{ds:List dL}{ns:List Int}(e:sqOf m r=some ds)(f:dQ ds=some ns)(h:d (.imm (.int ns.sum))):Ol [r] m d:=⟨ds,ns,e,f,h⟩
theorem ip{K:Kd}{H:Hp}:∀ns:List Int,DenAll K H (ns.map .int) (ns.map V.int)
 |[]=>by simp[ DenAll]
 |n::ns=>by
  exact⟨.int n,_,rfl,by simp[Den],ip ns⟩
end
section
variable {X:Cx}{a:Expr}{es:List Expr}{w:WA}{pos p b c:Pos}
def lp:aaL "sorted" = some (.builtin "sorted"):=by rfl
end
structure ConM(K:Io)(mg:Str->Option oR)(x:Str)(d:dL):Prop where
 ex:∃(v:V) (u:oR),mg x=some u/\RelV v u/\∀(w:World) (H:Hp),Den ⟨K,w⟩ H d v
structure ConK(K:Io)(x:Str)(d:dL):Prop where
 ex:∃(v:V) (u:oR),aal K aag x=some (some u)/\RelV v u/\∀(w:World) (H:Hp),Den ⟨K,w⟩ H d v
def ConK.m{mg:Str->Option oR}{h:aaR}{x:Str}{d:dL}(D:ConK K x d)(X:K.In h)(G:h.Ns aag mg):ConM K mg x d:=by
 let⟨v,u,a,r,q⟩:=D.ex;exact⟨v,u,adZ X G a,r,q⟩
def ConK.int{x:Str}{z:Int}{t:Tok}(a:aal K aag x=some (some (.int z t))):ConK K x (.int z):=⟨.int z,_,a,⟨t,rfl⟩,λ_ H=>by simp[Den]⟩
section
variable {X:Cx}{a b o e:Expr}{es:List Expr}{w g:WE}{h:WA}{c f pos p:Pos}{tg:Expr}
theorem Qq{x:Str}{d:dL}(C:ConM X.K X.mg x d)(l:Gl X x)(hd:(x==("__debug__" : Str))=false:=by decide):ME X (.Name x pos) (wC d):=by
 let⟨v,u,k,r,q⟩:=C.ex;exact JW (JN l k r hd) λs m n H t Q R j i=>i _ m v H j rfl R (q _ _) (Frm.refl _ _)
theorem Bi{x:Str}{d:dL}(C:ConM X.K X.mg x d)(i:Gl X x)(hd:(x==("__debug__" : Str))=false:=by decide):EE X (.Name x pos) (wC d):=⟨Qq C i hd⟩
end
end L2
namespace L2
open PySem PySem.Spec PyProof.Rows
def intV:oR->Option Int
 | .int z _=>some z
 |_=>none
theorem mJ:∀{i:List oR}{a:List Int},i.map intV=a.map some->Vals (a.map V.int) i
 |[],[],_=>.nil
 |[],_::_,h=>by cases h
 |_::_,[],h=>by cases h
 |u::i,z::a,h=>by
  let⟨b,c⟩:=List.cons.inj h;refine .cons ?_ (mJ c)
  cases u<;>first|(cases b;exact⟨_,rfl⟩)|cases b
def ConK.ints{K:Io}{x:Str}{p:Addr}{b:Array oR}{n:Nat}{s:Array (Option oR)}{z:List Int}(a:aal K aag x=some (some (.ref p)))(l:K.lookup p=some ⟨.type "tuple",none,.seq b n,s⟩)(i:b.toList.map intV=z.map some)(h:b.size≤1000):ConK K x (.tuple (z.map .int)):=by
 refine⟨.ref p,_,a,rfl,λ_ H=>?_⟩;exact df (.inr ⟨_,b,n,l,rfl,rfl,rfl,by rw[aaj];omega,mJ i⟩) (ip z)
end L2
namespace L2
open PySem PySem.Spec PySem.W PyProof.Rows
def runC{b:Type}(n:Nat)(f:Nat->Nat->Bool):KasT b->Option b
 | .ret a=>some a
 | .ask i j k=>if i<n/\j<n then runC n f (k (f i j))else none
theorem zw{d:Type}{n:Nat}{f:Nat->Nat->Bool}{c:Nat->Nat->(Bool->Ad->Prop)->Ad->Prop}{s:Ad}(g:∀i j C,i<n->j<n->C (f i j) s->c i j C s){Q:d->Ad->Prop}:∀(t:KasT d) (a:d),runC n f t=some a->Q a s->t.kasWp c Q s
 | .ret b,a,e,q=>by
  have l:=aam e;subst l;exact q
 | .ask i j k,a,e,q=>by
  unfold runC at e
  split at e
  .rename_i h;exact g i j _ h.1 h.2 (zw g _ a e q)
  .cases e
section
variable {X:Cx}
theorem nr{K:Kd}{H:Hp}{ds:List dL}{xs:List V}(g:DenAll K H ds xs):∀p:List Nat,DenAll K H (p.map λi=>ds.getD i .none) (p.map λi=>xs.getD i .non)
 |[]=>by simp only[aer,DenAll]
 | i::p=>by
  simp only[aaD];refine⟨_,_,rfl,?_,nr g p⟩
  cases e:ds[i]? with
  |some d=>
   let⟨v,a,hd⟩:=g.get e;rw[bj e,bj a];exact hd
  |none=>
   have a:xs[i]?=none:=by rw[List.getElem?_eq_none_iff]at e⊢;rw[<-g.length];exact e
   rw[aas,aas,e,a];rfl
theorem lL{xs:List V}{a:List oR}(r:Vals xs a):∀p:List Nat,Vals (p.map λi=>xs.getD i .non) (p.map λi=>a.getD i .none)
 |[]=>.nil
 | i::p=>by
  rw[aaD,aaD];refine .cons ?_ (lL r p)
  cases e:xs[i]? with
  |some x=>
   let⟨u,b,h⟩:=r.get e;rw[bj e,bj b];exact h
  |none=>
   rw[aas,aas,e,r.none_of e];rfl
end
end L2
namespace K
open PySem L2 M7
def iE(n:Nat)(os:List (List Nat)):List (List Nat):=os.flatMap λa=>((aaB n).filter λl=>!a.contains l).map λl=>a++[l]
def ordK(n:Nat):Nat->List (List Nat)
 |0=>[[]]
 |k+1=>iE n (ordK n k)
def mH{n:Nat}{os:List (List Nat)}{j:Nat}{a:List Nat}(h:os[j]?=some a):iE n (os.take (j+1))=iE n (os.take j)++((aaB n).filter λl=>!a.contains l).map λl=>a++[l]:=by
 unfold iE;rw[aaX,h];simp
def cE:∀n≤4,∀k≤4,(ordK n k).length≤24/\∀a∈ordK n k,a.length≤4/\∀x∈a,x≤3:=by decide +kernel
def iw:∀n≤4,∀k≤3,∀j≤24,(iE n ((ordK n k).take j)).length≤24:=by decide +kernel
end K
namespace L2
open PySem PySem.Spec PyProof.Rows
variable{v y:V}{C u:oR}{P:aaA}{w:World}{H H':Hp}{kvs:List (dL×dL)}{xs:List (List Key×Addr×oR)}{a b e:Addr}{Q:Unit->Ad->Prop}{h h':aaR}{τ:List (List Nat×Addr)}{p ρ:List Nat}{kk:Key}{es vs:List (Key×V)}{i n:Nat}{t:dL}{K:Kd}{c:Str}{α:Al}{m2:MSt}{σ:St}{D:Ends}{ob:WM}{F:Addr->Prop}{To dct:Option Addr}{X:Cx}{pins:List (Addr×Obj)}{s':Ad}{E:oR->Ad->Prop}{mg:Str->Option oR}{N ps:List Str}{A:aa2}
section
variable {a:Type} [DecidableEq a]
def valV(kvs:List (a×V))(k:a):Option V:=(kvs.find? λd=>decide (d.1=k)).map (·.2)
def putK(kvs:List (a×V))(k:a)(v:V):List (a×V):=
 if (kvs.any λd=>decide (d.1=k))=true then kvs.map (λd=>if d.1=k then(d.1,v)else d)else kvs++[(k,v)]
theorem j8{p:a×V}{r:List (a×V)}{k:a}(e:p.1=k):valV (p::r) k=some p.2:=by simp[valV,e]
theorem ki{p:a×V}{r:List (a×V)}{k:a}(e:¬p.1=k):valV (p::r) k=valV r k:=by simp[valV,e]
theorem uY(k:a):∀kvs:List (a×V),(kvs.any λd=>decide (d.1=k))=(valV kvs k).isSome
 |[]=>rfl
 |p::r=>by
  rw[afM]
  by_cases e:p.1=k
  .simp[j8 e,decide_eq_true e]
  .rw[ki e,decide_eq_false e];exact uY k r
theorem k6(kvs:List (a×V))(k:a)(v:V):(putK kvs k v).length≤kvs.length+1:=by
 unfold putK
 grind
theorem RelO.isSome_eq{o:Option V}{u:Option oR}(r:RelO o u):o.isSome=u.isSome:=by
 cases o with
 |none=>cases u with
  |none=>rfl
  |some _=>exact(r).elim
 |some _=>cases u with
  |none=>exact(r).elim
  |some _=>rfl
theorem KV.val{kvs:List (a×V)}{vs:List (a×oR)}(r:KV kvs vs)(k:a):RelO (valV kvs k) (afF vs k):=by
 induction r with
 |nil=>exact aec
 | @cons p q ps qs h t ih=>
  let⟨d,f⟩:=h
  by_cases e:p.1=k
  .have e':=d.symm.trans e;have b:afF (q::qs) k=some q.2:=by simp[afF,e']
   rw[j8 e,b];exact f
  .have e':¬q.1=k:=λz=>e (d.trans z);have b:afF (q::qs) k=afF qs k:=by simp[afF,e']
   rw[ki e,b];exact ih
theorem KV.any{kvs:List (a×V)}{vs:List (a×oR)}(r:KV kvs vs)(k:a):(kvs.any λd=>decide (d.1=k))=vs.any λd=>decide (d.1=k):=by
 induction r with
 |nil=>rfl
 |cons h t f=>rw[afM,afM,f,h.1]
theorem KV.repl{kvs:List (a×V)}{vs:List (a×oR)}(r:KV kvs vs)(k:a)(j:RelV y u) :
  KV (kvs.map λd=>if d.1=k then(d.1,y)else d) (vs.map λd=>if d.1=k then(d.1,u)else d):=by
 induction r with
 |nil=>exact .nil
 | @cons p q ps qs h t ih=>
  rw[aaD,aaD];refine .cons ?_ ih;let⟨f,g⟩:=h
  by_cases e:p.1=k
  .rw[if_pos e,if_pos (f.symm.trans e)];exact⟨f,j⟩
  .rw[if_neg e,if_neg (λz=>e (f.trans z))];exact⟨f,g⟩
theorem KV.put{kvs:List (a×V)}{vs:List (a×oR)}(r:KV kvs vs)(k:a)(d:RelV y u):KV (putK kvs k y) (stored vs k u):=by
 unfold putK stored;rw[r.any k]
 by_cases e:(vs.any λf=>decide (f.1=k))=true
 .rw[if_pos e,if_pos e];exact r.repl k d
 .rw[if_neg e,if_neg e];exact Paired.snoc r ⟨rfl,d⟩
theorem KV.length{kvs:List (a×V)}{vs:List (a×oR)}(r:KV kvs vs):kvs.length=vs.length:=ag9 r
end
theorem Ah{k:Key}(r:RelV (kV k) u):(cC P w).is k u=true:=by
 cases k with
 |inl i=>let⟨t,e⟩:=(r);subst e;exact sw P w i t
 |inr x=>let⟨t,e⟩:=(r);subst e;exact tW P w x t
theorem qH{P:aaA}{w:World}:∀{ks:List Key}{d:List oR},Vals (ks.map kV) d->ItemsAre (cC P w) ks d
 |[],_,r=>by rw[aer]at r;cases r;exact .nil
 |k::ks,_,r=>by
  cases r with
  |cons h t=>exact .cons (Ah h) (qH t)
abbrev KT(H:Hp):List (List Key×V)->List (List Key×Addr×oR)->Prop:=abN λp q=>p.1=q.1/\H q.2.1=some (.tup (p.1.map kV))/\RelV p.2 q.2.2
theorem KT.val{kvs:List (List Key×V)}(r:KT H kvs xs)(k:List Key):RelO (valV kvs k) ((atKey xs k).map (·.2)):=by
 induction r with
 |nil=>exact aec
 | @cons p q ps qs h t ih=>
  let⟨d,_,f⟩:=h
  by_cases e:p.1=k
  .have e':=d.symm.trans e;have b:atKey (q::qs) k=some q.2:=by simp[atKey,e']
   rw[j8 e,b];exact f
  .have e':¬q.1=k:=λz=>e (d.trans z);have b:atKey (q::qs) k=atKey qs k:=by simp[atKey,e']
   rw[ki e,b];exact ih
theorem KT.repl{kvs:List (List Key×V)}(r:KT H kvs xs)(k:List Key)(j:RelV y u) :
  KT H (kvs.map λf=>if f.1=k then(f.1,y)else f) (xs.map (putAt k u)):=by
 induction r with
 |nil=>exact .nil
 | @cons p q ps qs h t ih=>
  rw[aaD];refine .cons ?_ ih;let⟨d,g,l⟩:=h;unfold putAt
  by_cases e:p.1=k
  .rw[if_pos e,if_pos (d.symm.trans e)];exact⟨d,g,j⟩
  .rw[if_neg e,if_neg (λz=>e (d.trans z))];exact⟨d,g,l⟩
theorem KT.put{kvs:List (List Key×V)}(r:KT H kvs xs)(k:List Key)(hb:H b=some (.tup (k.map kV)))(d:RelV y u) :
  KT H (putK kvs k y) (storedH xs k b u):=by
 have e:(kvs.any λf=>decide (f.1=k))=(atKey xs k).isSome:=by
  rw[uY,(r.val k).isSome_eq,afG]
 unfold putK storedH;rw[e]
 by_cases q:(atKey xs k).isSome=true
 .rw[if_pos q,if_pos q];exact r.repl k d
 .rw[if_neg q,if_neg q];exact Paired.snoc r ⟨rfl,hb,d⟩
def KT.keeps{kvs:List (List Key×V)}(r:KT H kvs xs)(d:∀b ys,H b=some (.tup ys)->H' b=some (.tup ys)):KT H' kvs xs:=
 Paired.mapP r λ_ _ z=>⟨z.1,d _ _ z.2.1,z.2.2⟩
section
variable {P:aaA}{w:World}{H:Hp}{h:aaR}{a:Addr}
def Rb{u:HO}(ok:HOk P w H h)(e:Rd H a u):ObjOk P w H h a u:=e.ok ok
def wF{kvs:List (Key×V)}(ok:HOk P w H h)(e:Rd H a (.dK kvs)):kvs.length≤aaf/\(a==abD)=false/\∃vs,KV kvs vs/\h.DictOf (cC P w) a vs:=
 Rb ok e
def WQ{kvs:List (Key×V)}(ok:HOk P w H h)(e:H a=some (.dK kvs)):kvs.length≤aaf/\(a==abD)=false/\∃vs,KV kvs vs/\h.DictOf (cC P w) a vs:=wF ok (.inl e)
theorem vv{ks:List Key}(ok:HOk P w H h)(e:H a=some (.tup (ks.map kV))):(agW (cC P w)).is h ks a:=by
 let⟨_,d,r,o,g,f,hd,n,j⟩:=(ok a _ e);exact⟨o,d.toArray,n,g,f,j,by simpa using qH r⟩
theorem MH{kvs:List (List Key×V)}(ok:HOk P w H h)(e:Rd H a (.dT kvs)):kvs.length≤aaf/\(a==abD)=false/\
  ∃xs,KT H kvs xs/\h.DictOfH (agW (cC P w)) a xs:=by
 let⟨z,y,xs,r,o,es,k,s,j,f,g,B⟩:=(Rb ok e);refine⟨z,y,xs,r,o,es,k,s,j,f,g,λx d=>?_,B⟩;have all:∀{l:List _}{m:List _},KT H l m->∀x∈m,(agW (cC P w)).is h x.1 x.2.1:=by
  intro l m q
  induction q with
  |nil=>intro x d;exact nomatch d
  | @cons p q ps qs hq t ih=>
   intro x d;rcases aaq.mp d with e|d
   .subst e;exact vv ok (by simp_all)
   .exact ih x d
 exact all r x d
def UI{kvs:List (List Key×V)}(ok:HOk P w H h)(e:H a=some (.dT kvs)):kvs.length≤aaf/\(a==abD)=false/\
  ∃xs,KT H kvs xs/\h.DictOfH (agW (cC P w)) a xs:=MH ok (.inl e)
end
def DGet(H:Hp)(a:Addr)(y:V)(r:Option V):Prop:=
 (∃kvs k,Rd H a (.dK kvs)/\y=kV k/\r=valV kvs k)\/∃kvs k b,Rd H a (.dT kvs)/\y = .ref b/\H b=some (.tup (k.map kV))/\r=valV kvs k
def DPut(H:Hp)(a:Addr)(y v:V)(H':Hp):Prop:=
 (∃kvs k,H a=some (.dK kvs)/\y=kV k/\kvs.length<aaf/\H'=upd H a (.dK (putK kvs k v))) \/
 ∃kvs k b,H a=some (.dT kvs)/\y = .ref b/\H b=some (.tup (k.map kV))/\kvs.length<aaf/\H'=upd H a (.dT (putK kvs k v))
theorem DPut.k{kvs:List (Key×V)}{k:Key}(e:H a=some (.dK kvs))(d:kvs.length<aaf):DPut H a (kV k) v (upd H a (.dK (putK kvs k v))):=.inl ⟨kvs,k,e,rfl,d,rfl⟩
section
variable {X:Cx}{p:List (Addr×Obj)}{d:St}{H:Hp}{s:Ad}{a:Addr}{y v:V}{u r:oR}{o:Option V}{A:aa2}{E:oR->Ad->Prop}
theorem Inv.big(I:Inv X p d H s):abD<s.heap.objs.size:=by
 have h:=(I.mod.glob.keeps I.bk).lt;exact abc (by decide) h
theorem d_in{Q:oR->Ad->Prop}(B:A.units+1<cLine)(I:Inv X p d H s)(g:DGet H a y o)(x:RelV y u)(h:∀s',Inv X p d H s'->Q (.bool o.isSome) s') :
  wpAny (model X.prog X.w) A (abp .In u (.ref a)) Q E s:=by
 rcases g with⟨kvs,k,e,j,l⟩|⟨kvs,k,b,e,j,eb,l⟩
 .subst j;let⟨z,hd,vs,f,m⟩:=wF I.hok e;refine wpAny_in_of (Ah x) hd m.mapOf ?_;rw[<-(f.val k).isSome_eq,<-l];exact h _ (I.tok _)
 .subst j;cases (x);let⟨z,hd,xs,f,m⟩:=MH I.hok e;refine wpAny_in_heap (afu B) (vv I.hok eb) hd m ?_;have q:=(f.val k).isSome_eq;rw[afG]at q;rw[<-q,<-l];exact h _ (I.tok _)
theorem JS{Q:oR->Ad->Prop}(B:A.units+1<cLine)(I:Inv X p d H s)(g:DGet H a y o)(x:RelV y u)(h:∀s',Inv X p d H s'->Q (.bool (!o.isSome)) s') :
  wpAny (model X.prog X.w) A (abp .NotIn u (.ref a)) Q E s:=by
 rcases g with⟨kvs,k,e,j,l⟩|⟨kvs,k,b,e,j,eb,l⟩
 .subst j;let⟨z,hd,vs,f,m⟩:=wF I.hok e;refine wpAny_notIn_of (Ah x) hd m.mapOf ?_;rw[<-(f.val k).isSome_eq,<-l];exact h _ (I.tok _)
 .subst j;cases (x);let⟨z,hd,xs,f,m⟩:=MH I.hok e;refine wpAny_notIn_heap (afu B) (vv I.hok eb) hd m ?_;have q:=(f.val k).isSome_eq;rw[afG]at q;rw[<-q,<-l];exact h _ (I.tok _)
theorem sX{t':Nat}{ob:HO}(I:Inv X p d H s)(m:Mut (H a))(hs:abo a s.heap h')(f:∃q,h'.get? a=some q)(new:ObjOk X.prog X.w (upd H a ob) h' a ob) :
  Inv X p d (upd H a ob) {s with heap:=h',toks:=t' }:=
 I.write m (.inl rfl) (λb q hb z=>(hs.2 b hb).trans z) f new
def Ui{kvs:List (Key×V)}{vs:List (Key×oR)}(z:kvs.length≤aaf)(hd:(a==abD)=false)(f:KV kvs vs)(g:h'.DictOf (cC P w) a vs) :
  ObjOk P w H' h' a (.dK kvs):=⟨z,hd,vs,f,g⟩
theorem yV(T:A.units+1<cLine)(I:Inv X p d H s)(g:DPut H a y v H')(M:RelV y u)(O:RelV v r)(h:∀s',Inv X p d H' s'->Q () s') :
  wpAny (model X.prog X.w) A (ahs (.ref a) u r) Q E s:=by
 rcases g with⟨kvs,k,e,J,l,G⟩|⟨kvs,k,b,e,J,eb,l,G⟩
 .subst J G;let⟨z,hd,vs,f,B⟩:=WQ I.hok e;have x:vs.length≤aaf:=by rw[<-f.length];exact z
  have L:(putK kvs k v).length≤aaf:=by have:=k6 kvs k v;exact aao ‹_› ‹_›
  refine wpAny_setItem_pairs (hsz:=x) (Ah M) B λh' j hs=>h _ ?_;have U:∃q,h'.get? a=some q:=let ⟨q,_,_,m,_⟩:=j;⟨q,m⟩;exact sX I (by rw[e];exact aec) hs U (Ui L hd (f.put k O) j)
 .subst J G;cases (M);let⟨z,hd,xs,f,B⟩:=UI I.hok e;have x:xs.length≤aaf:=by rw[<-ag9 f];exact z
  have L:(putK kvs k v).length≤aaf:=by have:=k6 kvs k v;exact aao ‹_› ‹_›
  refine wpAny_setItem_heap (hsz:=x) (afu T) (vv I.hok eb) B λh' j hs=>h _ ?_;let⟨q,es,Y,m,W,V,S,_,Z⟩:=j;refine sX I (by rw[e];exact aec) hs ⟨q,m⟩ ⟨L,hd,_,(f.put k eb O).keeps λc ys R=>?_,q,es,Y,m,W,V,S,Z⟩;rw[ag (jf R e (λz=>nomatch z))];exact R
end
def Vc(k ty g:TE):TS:=λD σ H=>g σ H λv l=>k σ l λx f=>ty σ f λy j=>∃a d,x = .ref a/\DPut j a y v d/\D.nx σ d
section
variable {X:Cx}{o i e b:Expr}{pos p t:Pos}{c ty d:TE}
theorem MD(B:X.A.units+1<cLine)(ho:PE X o c)(L:PE X i ty)(M:PE X b d)(hs:abH b (some (.Subscript o i p)) pos.line X.env=pure false) :
  PS X (.Assign [.Subscript o i p] b pos) (Vc c ty d):=by
 intro pins s σ H D I h;refine agn (thn (M pins s σ H _ I h) λr s1 ⟨v,J,S,l,T⟩=>thn (ho pins s1 σ J _ S T) λu s2 ⟨x,z,f,R,q⟩=>thn (L pins s2 σ z _ f q) λY U ⟨y,V,j,k,a,O,ex,g,m⟩=>?_) hs;subst ex;obtain rfl:u=aaZ a:=R;exact yV B j g k l λW G=>⟨σ,O,G,m⟩
end
def ou(h:aaR)(hb:abD<h.objs.size):ObjOk P w H (h.push {cls:=.type "dict",data:=.dict #[]}) h.objs.size (.dK []):=
 ⟨abv _,beq_eq_false_iff_ne.mpr (abb (aaK hb)),[],.nil,aaR.DictOf.new h⟩
def OY:TE:=λ_ H Q=>∀p,H p=none->Q (.ref p) (upd H p (.dK []))
section
variable {X:Cx}{pos:Pos}
theorem pe_dnewK:PE X (.Dict [] [] pos) OY:=λpins s σ H Q I h=>
 wpAny_Dict_empty ⟨.ref s.heap.objs.size,_,I.laid (t':=s.toks) (λ_ _ q=>AD _ q) (Ge _) (ou s.heap I.big),rfl,h _ (I.hok.fresh (Ge _))⟩
end
section
variable {K:Kd}{H H':Hp}{τ:List (List Nat×Addr)}
mutual
theorem TAt.monoP(j:Pers H H'):∀{d:dL}{p:List Nat}{v:V},(∀q a,τ.lookup (p++q)=some a->H' a=H a)->TAt K H τ p d v->TAt K H' τ p d v
 | .none,_,_,_,h=>by simp only[TAt]at h⊢;exact h.mono j
 | .bool _,_,_,_,h=>by simp only[TAt]at h⊢;exact h.mono j
 | .int _,_,_,_,h=>by simp only[TAt]at h⊢;exact h.mono j
 | .str _,_,_,_,h=>by simp only[TAt]at h⊢;exact h.mono j
 | .tuple _,_,_,_,h=>by simp only[TAt]at h⊢;exact h.mono j
 | .list ts,p,_,e,h=>by
  simp only[TAt]at h⊢;let⟨a,xs,f,m,l,g⟩:=h;exact⟨a,xs,f,m,(e [] a (by rw[aaO];exact f)).trans l,TAtL.monoP j (λi q a z=>e (i::q) a z) g⟩
 | .dict kvs,p,_,e,h=>by
  simp only[TAt]at h⊢;rcases h with⟨d,f,h⟩|⟨r,o,a,es,f,m,l,k,g⟩|⟨r,o,a,es,f,m,l,g⟩|⟨c,a,dx,C,xs,s,f,m,l,k,g⟩
  .exact .inl ⟨d,f,h.mono j⟩
  .exact .inr (.inl ⟨r,o,a,es,f,m,(e [] a (by rw[aaO];exact f)).trans l,k,TAtD.monoP j (λi q a z=>e (i::q) a z) g⟩)
  .exact .inr (.inr (.inl ⟨r,o,a,es,f,m,(e [] a (by rw[aaO];exact f)).trans l,TAtK.monoP j (λi q a z=>e (i::q) a z) g⟩))
  .exact .inr (.inr (.inr ⟨c,a,dx,C,xs,s,f,m,(e [] a (by rw[aaO];exact f)).trans l,k,TAtF.monoP j (λi q a z=>e (i::q) a z) g⟩))
theorem TAtL.monoP(d:Pers H H'):∀{ds:List dL}{p:List Nat}{i:Nat}{xs:List V},(∀i q a,τ.lookup (p++i::q)=some a->H' a=H a)->TAtL K H τ p i ds xs->TAtL K H' τ p i ds xs
 |[],_,_,_,_,h=>by simpa only[TAtL]using h
 |t::ts,p,i,_,e,h=>by
  simp only[TAtL]at h⊢;let⟨v,vs,f,g,j⟩:=h;exact⟨v,vs,f,TAt.monoP d (λq a z=>e i q a (by simpa using z)) g,TAtL.monoP d e j⟩
theorem TAtD.monoP(d:Pers H H'):∀{ds:List (dL×dL)}{p:List Nat}{i:Nat}{xs:List (Int×V×V)},(∀i q a,τ.lookup (p++i::q)=some a->H' a=H a)->TAtD K H τ p i ds xs->TAtD K H' τ p i ds xs
 |[],_,_,_,_,h=>by simpa only[TAtD]using h
 |(k,t)::r,p,i,_,e,h=>by
  simp only[TAtD]at h⊢;let⟨u,v,vs,f,l,g,j⟩:=h;exact⟨u,v,vs,f,l.mono d,TAt.monoP d (λq a z=>e i q a (by simpa using z)) g,TAtD.monoP d e j⟩
theorem TAtK.monoP(d:Pers H H'):∀{ds:List (dL×dL)}{p:List Nat}{i:Nat}{xs:List (Key×V)},(∀i q a,τ.lookup (p++i::q)=some a->H' a=H a)->TAtK K H τ p i ds xs->TAtK K H' τ p i ds xs
 |[],_,_,_,_,h=>by simpa only[TAtK]using h
 |(k,t)::r,p,i,_,e,h=>by
  simp only[TAtK]at h⊢;let⟨u,v,vs,f,l,g,j⟩:=h;exact⟨u,v,vs,f,l,TAt.monoP d (λq a z=>e i q a (by simpa using z)) g,TAtK.monoP d e j⟩
theorem TAtF.monoP(g:Pers H H'):∀{ds:List (dL×dL)}{p:List Nat}{i:Nat}{xs:List (Str×V)},(∀i q a,τ.lookup (p++i::q)=some a->H' a=H a)->TAtF K H τ p i ds xs->TAtF K H' τ p i ds xs
 |[],_,_,_,_,h=>by simpa only[TAtF]using h
 |(.str f,t)::r,p,i,_,e,h=>by
  simp only[TAtF]at h⊢;let⟨v,vs,k,j,l⟩:=h;exact⟨v,vs,k,TAt.monoP g (λq a z=>e i q a (by simpa using z)) j,TAtF.monoP g e l⟩
 |(.none,d)::r,_,_,_,e,h=>by simp only[TAtF]at h⊢;exact TAtF.monoP g e h
 |(.bool _,d)::r,_,_,_,_,h=>by simp only[TAtF]at h
 |(.int _,d)::r,_,_,_,_,h=>by simp only[TAtF]at h
 |(.list _,d)::r,_,_,_,_,h=>by simp only[TAtF]at h
 |(.tuple _,d)::r,_,_,_,_,h=>by simp only[TAtF]at h
 |(.dict _,d)::r,_,_,_,_,h=>by simp only[TAtF]at h
end
end
def setT:dL->List Nat->dL->dL
 |_,[],n=>n
 | .list ts,i::p,n=>.list (ts.set i (setT (ts.getD i .none) p n))
 | .dict kvs,i::p,n=>.dict (kvs.set i ((kvs.getD i (.none,.none)).1,setT (kvs.getD i (.none,.none)).2 p n))
 |t,_::_,_=>t
section
variable {K:Kd}{H b:Hp}{τ:List (List Nat×Addr)}{p q:List Nat}{P:List Nat}
theorem TAtL.setL(k:Pers H b){t':dL}:∀{ts:List dL}{i j:Nat}{xs:List V},TAtL K H τ p i ts xs->(∀v,xs[j]?=some v->TAt K b τ (p++[i+j]) t' v)->(∀l,l≠i+j->∀q a,τ.lookup (p++l::q)=some a->b a=H a)->TAtL K b τ p i (ts.set j t') xs
 |[],_,_,_,h,_,_=>by simpa only[List.set_nil,TAtL]using h
 | t::ts,i,0,xs,h,c,e=>by
  simp only[TAtL]at h;let⟨v,vs,rfl,_,g⟩:=h;refine⟨v,vs,rfl,c v rfl,?_⟩;clear c;have:∀{ts:List dL}{d:Nat}{vs:List V},i<d->TAtL K H τ p d ts vs->TAtL K b τ p d ts vs:=by
   intro ts
   induction ts with
   |nil=>intro d vs _ h;simpa only[TAtL]using h
   |cons t ts n=>
    intro d vs o h;simp only[TAtL]at h⊢;let⟨v,vs,rfl,f,g⟩:=h;exact⟨v,vs,rfl,TAt.monoP k (λq a z=>e d (by exact aa8 ‹_›) q a (by simpa using z)) f,n (by omega) g⟩
  exact this (abI i) g
 |t::ts,i,j+1,xs,h,c,e=>by
  simp only[TAtL]at h;let⟨v,vs,rfl,f,g⟩:=h;exact⟨v,vs,rfl,TAt.monoP k (λq a z=>e i (by simp) q a (by simpa using z)) f,TAtL.setL k g (λm z=>by rw[show i+1+j=i+(j+1) by omega];exact c m (by simpa using z)) λl o=>e l (by omega)⟩
theorem TAtK.rest(d:Pers H b){i:Nat}(e:∀l,l≠i->∀q a,τ.lookup (p++l::q)=some a->b a=H a):∀{ts:List (dL×dL)}{c:Nat}{vs:List (Key×V)},i<c->TAtK K H τ p c ts vs->TAtK K b τ p c ts vs
 |[],_,_,_,h=>by simpa[TAtK]
 |_::ts,c,vs,hl,h=>by
  let⟨k,v,vs,rfl,f,g,j⟩:=h;exact⟨k,v,vs,rfl,f,TAt.monoP d (λq a z=>e c (by exact aa8 ‹_›) q a (by simpa using z)) g,TAtK.rest d e (by omega) j⟩
theorem TAtK.setK(o:Pers H b){t':dL}:∀{ts:List (dL×dL)}{i j:Nat}{xs:List (Key×V)}{d m:dL},TAtK K H τ p i ts xs->ts[j]?=some (d,m)->(∀v,(∃kk,xs[j]?=some (kk,v))->TAt K b τ (p++[i+j]) t' v)->(∀l,l≠i+j->∀q a,τ.lookup (p++l::q)=some a->b a=H a)->TAtK K b τ p i (ts.set j (d,t')) xs
 |[],_,_,_,_,_,_,z,_,_=>by simp at z
 |(k,t)::ts,i,0,xs,d,m,h,z,c,e=>by
  simp at z;let⟨rfl,rfl⟩:=z;simp only[TAtK]at h;let⟨kk,v,vs,rfl,n,_,g⟩:=h;exact⟨kk,v,vs,rfl,n,c v ⟨kk,rfl⟩,TAtK.rest o e (abI i) g⟩
 |(k,t)::ts,i,j+1,xs,d,m,h,z,c,e=>by
  let⟨kk,v,vs,rfl,n,r,g⟩:=h;exact⟨kk,v,vs,rfl,n,TAt.monoP o (λq a z=>e i (by omega) q a (by simpa using z)) r,TAtK.setK o g (by simpa using z) (by intro s ⟨f,z⟩;rw[show i+1+j=i+(j+1) by omega];exact c s ⟨f,by simpa using z⟩) λl u=>e l (by omega)⟩
end
theorem vT(nd:(τ.map (·.2)).Nodup){q:List Nat}(c:τ.lookup p=some a)(h:τ.lookup q=some a):p=q:=by
 induction τ with
 |nil=>cases c
 | cons x τ i=>
  let⟨r,b⟩:=x;rw[aaD,abk]at nd;rw[acb]at c h
  by_cases d:p==r
  .rw[d]at c;cases c
   by_cases e:q==r
   .simp_all
   .simp only[af4]at e;rw[e]at h;exact(nd.1 (bu h)).elim
  .simp only[af4]at d;rw[d]at c
   by_cases e:q==r
   .rw[e]at h;cases h;exact(nd.1 (bu c)).elim
   .simp only[af4]at e;rw[e]at h;exact i nd.2 c h
def zd:dL->dL->Bool
 | .int a,.int b=>decide (a=b)
 | .str a,.str b=>decide (a=b)
 |_,_=>false
def qg(a b:Key):zd (keyD a) (keyD b)=decide (a=b):=by
 cases a<;>cases b<;>simp[keyD,zd]
def putD(k t:dL):List (dL×dL)->List (dL×dL)
 |[]=>[(k,t)]
 |(k',t')::r=>if zd k' k=true then(k',t)::r else(k',t')::putD k t r
def lfD:dL->dL
 | .list ds=>.dict [(.none,.list ds)]
 | .dict ds=>.dict [(.none,.dict ds)]
 |d=>d
theorem ug(h:isKd kvs=true):fzOf kvs=none/\excC kvs=none:=by
 cases kvs with
 |nil=>exact⟨rfl,rfl⟩
 |cons x r=>
  let⟨k,d⟩:=x
  cases k with
  |int _=>exact⟨rfl,rfl⟩
  |str _=>exact⟨rfl,rfl⟩
  |none=>simp[isKd]at h
  |bool _=>simp[isKd]at h
  |list _=>simp[isKd]at h
  |tuple _=>simp[isKd]at h
  |dict _=>simp[isKd]at h
section
variable {K:Kd}{H:Hp}{τ:List (List Nat×Addr)}{p:List Nat}
theorem TAtK.get':∀{ts:List (dL×dL)}{i j:Nat}{xs:List (Key×V)}{k t:dL},TAtK K H τ p i ts xs->ts[j]?=some (k,t)->∃kk v,xs[j]?=some (kk,v)/\k=keyD kk/\TAt K H τ (p++[i+j]) t v
 |[],_,_,_,_,_,_,e=>by simp at e
 |(k,t)::ts,i,0,xs,k',t',h,e=>by
  let⟨u,v,vs,rfl,f,g,_⟩:=h;simp at e;let⟨rfl,rfl⟩:=e;exact⟨u,v,rfl,f.1,g⟩
 |(k,t)::ts,i,j+1,xs,k',t',h,e=>by
  let⟨u,v,vs,rfl,_,_,b⟩:=h;let⟨kk,c,a,d,l⟩:=TAtK.get' (j:=j) b ‹_›;exact⟨kk,c,by simpa using a,d,by rw[show i+(j+1)=i+1+j by omega];exact l⟩
theorem TAtK.kd:∀{ts:List (dL×dL)}{i:Nat}{xs:List (Key×V)},TAtK K H τ p i ts xs->isKd ts=true
 |[],_,_,_=>rfl
 |_::ts,i,xs,h=>by
  let⟨u,v,vs,rfl,g,_,a⟩:=h;have:=a.kd;unfold isKd at this⊢;rw[acL,this,g.1]
  cases u<;>rfl
theorem TAtK.len:∀{ts:List (dL×dL)}{i:Nat}{xs:List (Key×V)},TAtK K H τ p i ts xs->ts.length=xs.length
 |[],_,_,h=>by simp[TAtK]at h;subst h;rfl
 |(k,t)::ts,i,xs,h=>by
  let⟨u,v,vs,rfl,a,_,g⟩:=h;simp[g.len]
theorem sd{u:Key}{w:V}(c:u≠kk):putK ((u,w)::vs) kk v=(u,w)::putK vs kk v:=by
 unfold putK
 grind
theorem qP{w:V}(h:∀x∈vs,x.1≠kk):putK ((kk,w)::vs) kk v=(kk,v)::vs:=by
 unfold putK;rw[afM,decide_eq_true (rfl),Bool.true_or,if_pos rfl,aaD,if_pos rfl]
 congr 1
 exact(List.map_congr_left λx a=>if_neg (h x a)).trans (aeW _)
def E8{x:Key×V}(h:x∈putK vs kk v):x.1=kk\/∃y∈vs,y.1=x.1:=by
 unfold putK at h
 split at h
 .obtain⟨y,h1,h2⟩:=aau.mp h;subst h2;refine .inr ⟨y,h1,?_⟩
  split<;>rfl
 .obtain h|h:=aa4.mp h
  .exact .inr ⟨x,h,rfl⟩
  .cases aah.mp h
   exact .inl rfl
theorem TAtK.put{t':dL}{v':V}(c:∀j,TAt K H τ (p++[j]) t' v'):∀{ts:List (dL×dL)}{i:Nat}{xs:List (Key×V)},TAtK K H τ p i ts xs->TAtK K H τ p i (putD (keyD kk) t' ts) (putK xs kk v')
 |[],i,xs,h=>by
  simp only[TAtK]at h;subst h;exact⟨kk,v',[],rfl,⟨rfl,λx a=>by cases a⟩,c i,rfl⟩
 | (k,t)::ts,i,xs,h=>by
  let⟨u,v,vs,rfl,g,f,b⟩:=h;let⟨rfl,g⟩:=g;simp only[putD,qg]
  by_cases e:u=kk
  .subst e;rw[if_pos (decide_eq_true rfl),qP g];simp only[TAtK];exact⟨u,v',vs,rfl,⟨rfl,g⟩,c i,b⟩
  .rw[if_neg (by simpa using e),sd e];simp only[TAtK];refine⟨u,v,_,rfl,⟨rfl,λx a=>?_⟩,f,b.put c⟩;rcases E8 a with z|⟨y,d,z⟩
   .rw[z];exact λw=>e w.symm
   .rw[<-z];exact g y d
theorem Cb{d:dL}(h:Den K H d v):TAt K H τ p (lfD d) v:=by
 cases d with
 |list ds=>simp[lfD];exact .inl ⟨_,rfl,h⟩
 |dict ds=>simp[lfD];exact .inl ⟨_,rfl,h⟩
 |none=>simpa[ TAt]
 |bool _=>simpa[lfD]
 |int _=>simpa[ TAt]
 |str _=>simpa[lfD]
 |tuple _=>simpa[ TAt]
theorem TAt.kd(h:TAt K H τ p (.dict kvs) v)(e:isKd kvs=true):∃a es,τ.lookup p=some a/\v = .ref a/\H a=some (.dK es)/\TAtK K H τ p 0 kvs es:=by
 obtain _:=ug e;rcases h with _|⟨_,_,b,es,d,f,c,k,g⟩|⟨_,_,b,es,d,f,c,g⟩|_
 .simp_all
 .rw[k.1]at e;cases e
 .exact⟨b,es,d,f,c,g⟩
 .simp_all
end
def okW:dL->List Nat->Bool
 |_,[]=>true
 | .list ts,i::q=>okW (ts.getD i .none) q
 | .dict kvs,i::q=>(isKd kvs||(excC kvs).isSome)&&okW (kvs.getD i (.none,.none)).2 q
 |_,_::_=>false
theorem Gq{k t':dL}(h:isKd kvs=true)(e:kvs[i]?=some (k,t)):isKd (kvs.set i (k,t'))=true:=by
 unfold isKd at h⊢;rw[abV]at h⊢;intro x a;rcases afz a with z|z
 .exact h x z
 .subst z;exact h (k,t) (GE e)
theorem TAtF.restF{K:Kd}{H c:Hp}{τ:List (List Nat×Addr)}{p:List Nat}(g:Pers H c){i:Nat}(e:∀l,l≠i->∀q a,τ.lookup (p++l::q)=some a->c a=H a):∀{ts:List (dL×dL)}{b:Nat}{vs:List (Str×V)},i<b->TAtF K H τ p b ts vs->TAtF K c τ p b ts vs
 |[],_,_,_,h=>by simpa only[TAtF]
 |(.str f,t)::ts,b,vs,hl,h=>by
  let⟨v,vs,rfl,j,k⟩:=h;exact⟨v,vs,rfl,TAt.monoP g (λq a z=>e b (by omega) q a (by simpa using z)) j,TAtF.restF g e (by omega) k⟩
 |(.none,d)::r,_,_,hl,h=>by simp only[TAtF];exact TAtF.restF g e (by omega) h
 |(.bool _,d)::r,_,_,_,h=>by simp[TAtF]at h
 |(.int _,d)::r,_,_,_,h=>by simp only[TAtF]at h
 |(.list _,d)::r,_,_,_,h=>by simp only[TAtF]at h
 |(.tuple _,d)::r,_,_,_,h=>by simp[TAtF]at h
 |(.dict _,d)::r,_,_,_,h=>by simp[TAtF]at h
theorem TAtF.setF{K:Kd}{H m:Hp}{τ:List (List Nat×Addr)}{p:List Nat}(g:Pers H m){t' u:dL}{w:Str}:∀{ts:List (dL×dL)}{i j:Nat}{xs:List (Str×V)},TAtF K H τ p i ts xs->ts[j]?=some (.str w,u)->(∀v,TAt K H τ (p++[i+j]) u v->TAt K m τ (p++[i+j]) t' v)->(∀l,l≠i+j->∀q a,τ.lookup (p++l::q)=some a->m a=H a)->TAtF K m τ p i (ts.set j (.str w,t')) xs
 |[],_,_,_,_,z,_,_=>by simp at z
 |(k,t)::ts,i,0,xs,h,z,c,e=>by
  simp at z;let⟨rfl,rfl⟩:=z;simp only[TAtF]at h;let⟨v,vs,rfl,o,s⟩:=h;simp only[List.set_cons_zero,TAtF];exact⟨v,vs,rfl,c v o,TAtF.restF g e (abI i) s⟩
 |(.str f,t)::ts,i,j+1,xs,h,z,c,e=>by
  simp only[TAtF]at h;let⟨v,vs,rfl,o,s⟩:=h;exact⟨v,vs,rfl,TAt.monoP g (λq a z=>e i (by omega) q a (by simpa using z)) o,TAtF.setF g s (by simpa using z) (λn b=>by rw[show i+1+j=i+(j+1) by omega]at b⊢;exact c n b) λl x=>e l (by omega)⟩
 |(.none,d)::ts,i,j+1,xs,h,z,c,e=>by
  simp only[TAtF]at h;simp only[List.set_cons_succ,TAtF];exact TAtF.setF g h (by simpa using z) (λn b=>by rw[show i+1+j=i+(j+1) by omega]at b⊢;exact c n b) λl x=>e l (by omega)
 |(.bool _,d)::r,_,_+1,_,h,_,_,_=>by simp only[TAtF]at h
 |(.int _,d)::r,_,_+1,_,h,_,_,_=>by simp only[TAtF]at h
 |(.list _,d)::r,_,_+1,_,h,_,_,_=>by simp only[TAtF]at h
 |(.tuple _,d)::r,_,_+1,_,h,_,_,_=>by simp only[TAtF]at h
 |(.dict _,d)::r,_,_+1,_,h,_,_,_=>by simp only[TAtF]at h
theorem TAt.ins(h:TAt K H τ p (.dict kvs) v)(e:excC kvs=some c):∃a dx C xs,τ.lookup p=some a/\v = .ref a/\H a=some (.ins C dx xs)/\ClsN K c C/\TAtF K H τ p 0 kvs xs:=by
 have b:fzOf kvs=none:=by
  unfold excC at e
  split at e
  .rfl
  .cases e
 simp only[TAt]at h
 grind
theorem Fi{x:dL×dL}{k:dL}(h:excC kvs=some c)(e:kvs[i]?=some (k,t))(a:k≠.none):excC (kvs.set i x)=some c:=by
 cases kvs with
 |nil=>cases h
 | cons y r=>
  cases i with
  |zero=>
   simp;unfold excC at h
   simp_all
  |succ i=>
   unfold excC at h⊢
   split at h
   .rename_i z;simp at z;let⟨rfl,rfl⟩:=z;exact h
   .cases h
theorem TAt.set{K:Kd}{H:Hp}{τ:List (List Nat×Addr)}(nd:(τ.map (·.2)).Nodup){a:Addr}{o:HO}{n:dL}(L:Pers H (upd H a o)):∀{q p:List Nat}{t J:dL}{v:V},TAt K H τ p t v->getT t q=some J->okW t q=true->τ.lookup (p++q)=some a->TAt K (upd H a o) τ (p++q) n (.ref a)->(∀u,TAt K H τ (p++q) J u->u = .ref a)->TAt K (upd H a o) τ p (setT t q n) v
 |[],p,t,J,v,h,e,_,_,hn,hu=>by
  cases e;rw[aaO]at hn hu;rw[hu v h];unfold setT;exact hn
 | i::q,p,t,J,v,h,e,ok,ea,hn,hu=>by
  have m:∀(r:List Nat) (b:Addr),τ.lookup r=some b->r≠p++i::q->(upd H a o) b=H b:=λr b z ne=>ag λeb=>by
   subst eb;exact ne (vT nd z ea)
  have G:τ.lookup ((p++[i])++q)=some a:=by simpa using ea
  have E:TAt K (upd H a o) τ ((p++[i])++q) n (.ref a):=by simpa using hn
  have F:∀u,TAt K H τ ((p++[i])++q) J u->u = .ref a:=λu z=>hu u (by simpa using z);simp only[getT]at e
  cases z:chD t i with
  |none=>rw[z]at e;cases e
  | some P=>
   rw[z]at e;have R:getT P q=some J:=e;have D:∀l,l≠0+i->∀r b,τ.lookup (p++l::r)=some b->(upd H a o) b=H b:=λl hl r b W=>m _ _ W λy=>by
    have:=List.append_cancel_left y;injection this with h1 _
    omega
   have self:∀b,τ.lookup p=some b->(upd H a o) b=H b:=λb W=>m _ _ W λy=>by
    have:=congrArg aeT y;simp at this
   cases t with
   |list ts=>
    have d:ts[i]?=some P:=z;have M:ts.getD i .none=P:=by rw[aas,d];rfl
    simp only[TAt]at h;let⟨b,Q,B,I,N,g⟩:=h;simp only[setT,M,TAt];refine⟨b,Q,B,I,(self b B).trans N,TAtL.setL L g (λY U=>?_) D⟩;let⟨v2,f,A⟩:=g.get (j:=i) d;rw[U]at f;cases f;rw[ac3]at A⊢;exact TAt.set nd L A R (by simp only[okW,M]at ok;exact ok) G E F
   | dict x=>
    simp only[chD]at z
    cases d:x[i]? with
    |none=>rw[d]at z;cases z
    |some kt=>
     let⟨k,O⟩:=kt;rw[d]at z;have X:k≠.none:=λw=>by subst w;cases z
     have I:O=P:=by split at z<;>simp_all
     subst I;have M:x.getD i (.none,.none)=(k,O):=by rw[aas,d];rfl
     simp only[okW,M,aa1,agw]at ok;rcases ok.1 with s|s
     .obtain⟨b,es,B,I,N,g⟩:=h.kd s;have S:isKd (x.set i (k,setT O q n))=true:=Gq s d;let⟨n1,n2⟩:=ug S;simp only[setT,M,TAt];refine .inr (.inr (.inl ⟨n1,n2,b,es,B,I,(self b B).trans N,TAtK.setK L g d (λY ⟨kk,U⟩=>?_) D⟩));let⟨kk2,v2,f,_,A⟩:=g.get' (j:=i) d;rw[U]at f;cases f;rw[ac3]at A⊢;exact TAt.set nd L A R ok.2 G E F
     .obtain⟨c,ec⟩:=acj.mp s;let⟨b,dx,C,Q,B,I,N,kc,g⟩:=h.ins ec;let⟨Z,rfl⟩:=g.key (GE d) X;have T:excC (x.set i (.str Z,setT O q n))=some c:=Fi ec d X;simp only[setT,M,TAt];refine .inr (.inr (.inr ⟨c,b,dx,C,Q,T,B,I,(self b B).trans N,kc,TAtF.setF L g d (λY A=>?_) D⟩));rw[ac3]at A⊢;exact TAt.set nd L A R ok.2 G E F
   |none=>cases z
   |bool _=>cases z
   |int _=>cases z
   |str _=>cases z
   |tuple _=>cases z
def onAt(P:Nat->List Nat->Prop):R->Prop
 | .at k p=>P k p
 |_=>False
def z7(P:dL->Prop):R->Prop
 | .imm (.int i)=>P (.int i)
 | .imm (.str x)=>P (.str x)
 |_=>False
section
variable {K:Kx}{b:Al}{c H:Hp}{r:R}{v:V}{m:MSt}{d:St}
theorem T5{P:Nat->List Nat->Prop}(rr:RelR K b c H r v)(h:onAt P r):∃k p τ a,r = .at k p/\b[k]?=some (.T τ)/\τ.lookup p=some a/\v = .ref a/\P k p:=by
 unfold onAt at h
 split at h
 .obtain⟨τ,a,e1,e2,e3⟩:=rr;exact⟨_,_,τ,a,rfl,e1,e2,e3,h⟩
 .simp_all
theorem SK{P:dL->Prop}(rr:RelR K b c H r v)(h:z7 P r):∃kk:Key,r = .imm (keyD kk)/\v=kV kk/\P (keyD kk):=by
 unfold z7 at h
 split at h
 .rename_i i;exact⟨.inl i,rfl,aU (show Den K H _ v from rr),h⟩
 .rename_i x;exact⟨.inr x,rfl,bt (show Den K H _ v from rr),h⟩
 .simp_all
theorem Rel.dict(R:Rel K b m d H){k:Nat}(f:b[k]?=some (.T τ))(o:τ.lookup p=some a)(e:m.os[k]?=some [t])(i:getT t p=some (.dict kvs))(h:isKd kvs=true) :
  ∃es,H a=some (.dK es)/\TAtK K H τ p 0 kvs es:=by
 let⟨⟨q,l,z,g,_⟩,_⟩:=R.own k _ _ f e;cases z;let⟨n,j⟩:=g.get i;obtain _:=j.kd h
 simp_all
end
section
variable {X:Cx}{o i e:Expr}{w f h:WE}{pos c:Pos}
def Se(m:MSt)(k:Nat)(p:List Nat)(y d:dL)(P:dL->Prop):Prop:=∃t a,m.os[k]?=some [t]/\getT t p=some (.dict a)/\isKd a=true/\okW t p=true/\a.length<aaf/\P (setT t p (.dict (putD y (lfD d) a)))
def Oa(h w f:WE):WS:=λD m=>h m λb m1=>c8 (λd=>w m1 λg m2=>f m2 λr a=>onAt (λk p=>z7 (λy=>Se a k p y d λt=>D.nx {a with os:=a.os.set k [t]}) r) g) b
theorem JG(hu:X.A.units+64<cLine)(he:ME X e h)(ho:ME X o w)(hi:ME X i f)(hs:abH e (some (.Subscript o i c)) pos.line X.env=pure false:=by rfl):MS X (.Assign [.Subscript o i c] e pos) (Oa h w f):=(MD (by omega) ho hi he hs).wk<|by
 intro D σ H ⟨s,m,De,Rl,hw,k⟩;refine⟨s,m,_,Rl,hw,λr m1 v H1 q n1 B rr F1=>?_⟩;let⟨d,er,hd,q⟩:=fc rr q;refine⟨s,m1,_,B,q,λro m2 ov H2 q2 n2 F L W=>⟨s,m2,_,F,q2,λri m3 iv A x n3 R P F3=>?_⟩⟩;let⟨kk,p,G,a,rfl,K,n,rfl,x⟩:=T5 L x;let⟨y,rfl,rfl,t,l,T,V,e5,e6,e7,x⟩:=SK P x;let⟨J,S,Z⟩:=R.dict K n T V e5;have N:Den X.kx A d v:=(hd.mono (B.pers W)).mono (F.pers F3);let⟨⟨t1,v0,z,g,a0,M,Q⟩,mu⟩:=R.own kk (.T G) _ K T;cases z;have I:Pers A (upd A a (.dK (putK J y v))):=bo (.inr ⟨_,S,rfl⟩);have nd:(G.map (·.2)).Nodup:=((iJ s).mp R.nd).1 (.T G) (GE K);have O:TAtK X.kx (upd A a (.dK (putK J y v))) G p 0 l J:=TAtK.monoP I (λi q b zb=>ag λeb=>by
  subst eb;have:=congrArg aeT (vT nd zb n);simp at this) Z
 have new:TAt X.kx (upd A a (.dK (putK J y v))) G p (.dict (putD (keyD y) (lfD d) l)) (.ref a):=by
  have Y:=O.put (kk:=y) (t':=lfD d) (v':=v) λj=>Cb (N.mono I);let⟨z1,z2⟩:=ug Y.kd;simp only[TAt];exact .inr (.inr (.inl ⟨z1,z2,a,_,n,rfl,ak,Y⟩))
 have all:=TAt.set nd I g V e6 (by rw[ae3];exact n) (by rw[ae3];exact new) λu C=>by
  rw[ae3]at C;let⟨a',es',E,eu,_⟩:=C.kd e5;rw[n]at E;cases E;exact eu
 let⟨U,F4⟩:=R.setW K I (ds':=[setT t p (.dict (putD (keyD y) (lfD d) l))]) (λb hb=>ag λeb=>hb (eb▸bu n)) ⟨⟨_,v0,rfl,all,a0,M,Q⟩,λb hb=>by
  by_cases eb:b=a
  .subst eb;exact⟨_,ak,rfl⟩
  .rw[ag eb];exact mu b hb⟩
 exact⟨a,_,rfl,DPut.k S (by rw[<-Z.len];exact e7),k.nx s _ σ _ x (n3.trans (n2.trans n1)) U (.of U (((F1.trans W).trans F3).trans F4))⟩
def lfKV(kvs:List (dL×dL)):List (dL×dL):=kvs.map λk=>(k.1,lfD k.2)
end
section
variable {m:MSt}{Q:R->MSt->Prop}{w a b:WE}{D:dJ}
def O8{P:Nat->List Nat->Prop}{k:Nat}(h:P k p):onAt P (.at k p):=h
def vm{P:dL->Prop}{x:Str}(h:P (.str x)):z7 P (.imm (.str x)):=h
theorem P9(h:b m λe m1=>c8 (λd=>w m1 λf m2=>a m2 λr c=>onAt (λk p=>z7 (λy=>Se c k p y d λt=>D.nx {c with os:=c.os.set k [t]}) r) f) e):Oa b w a D m:=h
theorem jb{P:MSt->Prop}(h:P {vs:=m.vs.set n (some (.at m.os.length [])),os:=m.os++[[t]],np:=m.np}):nA n P m (.newT t):=.inl h
end
section
variable {X:Cx}{o i e:Expr}{w a b:WE}{pos p:Pos}
def GF(c:X.A.units+64<cLine)(h:EE X e b)(ho:EE X o w)(d:EE X i a)(hs:abH e (some (.Subscript o i p)) pos.line X.env=pure false:=by rfl):ES X (.Assign [.Subscript o i p] e pos) (Oa b w a):=⟨JG c h.h ho.h d.h hs⟩
end
def isFz:HO->Bool
 | .lst _=>true
 | .dK _=>true
 | .ext _=>true
 |_=>false
section
variable {X:Cx}{p:List (Addr×Obj)}{d:St}{H:Hp}{s:Ad}
theorem Inv.freezeU{u:HO}(I:Inv X p d H s)(h:H a=some u)(f:isFz u=true):∃o,Inv X p d (upd H a (.frz o u)) s:=by
 have ok:=I.hok a u h;let⟨o,e⟩:∃o,s.heap.get? a=some o:=by
  cases u with
  |lst m=>let⟨_,i,n,_,e⟩:=ok;exact⟨_,e⟩
  |dK k=>let⟨_,_,vs,_,o,_,_,e,_⟩:=ok;exact⟨_,e⟩
  |ext j=>exact ok.2.1
  |_=>cases f
 have g:∀{b:Addr}{v:HO},H b=some v->v≠u->b≠a:=λq z=>jf q h z;refine⟨o,I.un (h':=s.heap) (t':=s.toks) ⟨λb ob q _ _ _=>q,λb ob q _ _ _=>⟨ob.slots,q⟩,λb ob q z _=>?_,λb ob q _=>⟨ob,q⟩,λb y q=>?_,λb ob v q=>?_,λb l q=>⟨#[],?_⟩⟩ λb ob q=>?_⟩
 .rw[ag (abb (bg h z))];exact z
 .rw[ag (g q (by intro z;subst z;cases f))];exact q
 .rw[ag (g q (by intro z;subst z;cases f))];exact q
 .rw[ag (g q (by intro z;subst z;cases f)),q];simp
 .have stay:∀{c:Addr}{v:HO},ObjOk X.prog X.w H s.heap c v->ObjOk X.prog X.w (upd H a (.frz o u)) s.heap c v:=λx=>x.stay (λ_ _ _ z=>z) (λc z=>by rw[ag (g z (by intro z;subst z;cases f))];exact z) λc y z=>by rw[ag (g z (by intro z;subst z;cases f))];exact z
  by_cases hb:b=a
  .subst hb;rw[ak]at q;cases q;exact⟨e,stay ok⟩
  .rw[ag hb]at q;exact stay (I.hok b ob q)
end
def tFrz(t:TS):TS:=λD b H=>∃a u,H a=some u/\isFz u=true/\∀o,t D b (upd H a (.frz o u))
section
variable {X:Cx}{st:Stmt}{w:WS}
theorem QC{t:TS}(h:PS X st t):PS X st (tFrz t):=by
 intro p s b H D I ⟨a,u,e,c,q⟩;let⟨o,d⟩:=I.freezeU e c;exact h p s b _ D d (q o)
theorem GG{K:Kx}{m:MSt}(R:Rel K α m σ H)(N:Ren ρ m m2):Rel K (ρ.map λk=>α.getD k (.L 0)) m2 σ H/\Ext m.np α H (ρ.map λk=>α.getD k (.L 0)) H:=by
 have A:=g9 R.len N.lt;have get:∀(k:Nat) (b:Ao),(ρ.map λk=>α.getD k (.L 0))[k]?=some b->∃j:Nat,ρ[k]?=some j/\α[j]?=some b:=λk b z=>by
  let⟨j,L,E⟩:=Paired.get2 A z;exact⟨j,L,E⟩
 have f:∀(k j:Nat) (b:Ao),ρ[k]?=some j->α[j]?=some b->(ρ.map λk=>α.getD k (.L 0))[k]?=some b:=λk j b x s=>by
  let⟨D,G,B⟩:=Paired.get' A x;rw[s]at B;cases B;exact G
 have i:(ρ.map λk=>α.getD k (.L 0)).take m.np=α.take m.np:=by
  apply ab0;intro l;rw[aaT,aaT]
  by_cases c:l<m.np
  .rw[if_pos c,if_pos c];have:ρ[l]?=some l:=by
    have e:=congrArg (·[l]?) N.pre;simp only[aaT,if_pos c]at e;rw[e,acB c]
   have g:l<α.length:=aak c R.npl;rw[f l l α[l] this (iO g),iO g]
  .rw[if_neg c,if_neg c]
 have ext:Ext m.np α H (ρ.map λk=>α.getD k (.L 0)) H:=⟨i,Frm.refl _ _,λa ha=>by
  let⟨k,b,C,I⟩:=im ha;let⟨j,_,M⟩:=get k b C;exact .inl (iY M I),λa ha=>by
  let⟨o,q,_⟩:=R.mem ha;exact⟨_,q⟩⟩
 refine⟨⟨fe R.nd N.nd A,?_,λk b ds x s=>?_,?_,λj r z=>?_,?_,by rw[N.np];exact R.ebl,R.ebx.trans (ext.less R.ebl)⟩,ext⟩
 .rw[N.os,gE,gE]
 .obtain⟨j,q,qa⟩:=get k b x;rw[N.os,aaa,q]at s;have J:j<m.os.length:=N.lt j (GE q);have t:m.os.getD j []=ds:=aam s;refine R.own j b ds qa ?_;rw[<-t,aas,iO J];rfl
 .rw[N.vl];exact R.vlen
 .have h:=N.vs j r z
  cases r with
  |imm d=>exact R.var j (.imm d) h
  |new _=>exact h.elim
  |newT _=>exact h.elim
  |obj k=>
   let⟨n,q,h⟩:=h;let⟨v,u,a,y,e⟩:=R.var j (.obj n) h;exact⟨v,u,a,f k n _ q y,e⟩
  | «at» k p=>
   let⟨n,q,h⟩:=h;let⟨v,u,O,a,y,F,e⟩:=R.var j (.at n p) h;exact⟨v,u,O,a,f k n _ q y,F,e⟩
 .rw[N.np,gE];exact N.npl
structure Fz(k:Nat)(dd:dL)(ρ:List Nat)(m m2:MSt):Prop where
 nd:ρ.Nodup
 lt:∀k∈ρ,k<m.os.length
 out:k∉ρ
 pre:ρ.take m.np=aaB m.np
 npl:m.np≤ρ.length
 npk:m.np≤k
 os:m2.os=ρ.map λk=>m.os.getD k []
 np:m2.np=m.np
 vl:m2.vs.length=m.vs.length
 vs:∀(j:Nat) (r:R),m2.vs[j]?=some (some r)->RenR ρ m.vs[j]? r\/(r = .imm dd/\(m.vs[j]?=some (some (.obj k))\/m.vs[j]?=some (some (.at k []))))
def Fz.ren{k:Nat}{d:dL}{b:List Nat}{m m2:MSt}(F:Fz k d b m m2):∃a,Ren b m a/\a.np=m2.np/\a.os=m2.os/\a.vs.length=m2.vs.length/\∀(j:Nat) (r:R),m2.vs[j]?=some (some r)->a.vs[j]?=some (some r)\/(r = .imm d/\(m.vs[j]?=some (some (.obj k))\/m.vs[j]?=some (some (.at k [])))):=by
 classical
 refine⟨{m2 with vs:=m2.vs.mapIdx λj o=>match o with|some r=>if RenR b m.vs[j]? r then some r else none|none=>none},⟨F.nd,F.lt,F.pre,F.npl,F.os,F.np,by rw[<-F.vl];simp,λj r z=>?_⟩,rfl,rfl,by simp,λj r z=>?_⟩
 .simp only[agN]at z
  cases q:m2.vs[j]? with
  |none=>rw[q]at z;cases z
  | some o=>
   rw[q]at z
   cases o with
   |none=>cases z
   |some c=>
    simp only[acZ,ahw]at z
    split at z
    .cases z;assumption
    .cases z
 .rcases F.vs j r z with h|h
  .left;simp only[agN,z,acZ,if_pos h]
  .exact .inr h
theorem sY{m:MSt}{q:dJ}{k:Nat}{A:dL}{ao:Ao}{u:HO}(c:Rel X.kx α m σ H)(P:EndsOk X.kx m.np α H q D)(F:Fz k A ρ m m2)(G:α[k]?=some ao)(I:a∈ao.ads)(C:H a=some u)(p:isFz u=true)(U:Mu u=true)
  (l:∀o,Pers H (upd H a (.frz o u))->Den X.kx (upd H a (.frz o u)) A (.ref a)) (name:∀(j:Nat) (v:V),(m.vs[j]?=some (some (.obj k))\/m.vs[j]?=some (some (.at k [])))->σ[j]?=some (some v)->v = .ref a) (K:w q m2):tFrz (tMS X.kx w) D σ H:=by
 let⟨W,N,d,f,t,g⟩:=F.ren;let⟨O,y⟩:=GG c N;refine⟨a,u,C,p,λo=>?_⟩;have B:Pers H (upd H a (.frz o u)):=bo (.inr ⟨u,C,U⟩);have s:a∈ads α:=iY G I;have out:a∉ads _:=λz=>by
  let⟨i,x,L,S⟩:=im z;let⟨j,T,Q⟩:=Paired.get2 (g9 c.len N.lt) L;exact gQ c.nd G Q (λz=>F.out (z▸GE T)) I S
 have E:Ext m.np α H (ρ.map λk=>α.getD k (.L 0)) (upd H a (.frz o u)):=⟨y.pre,λb ob e n=>by rw[ag (λz=>n (by rw[z];exact s))];exact e,y.new,λb hb=>by
  by_cases eb:b=a
  .subst eb;exact⟨_,ak⟩
  .rw[ag eb];exact y.old b hb⟩
 have R:=O.at' B (λb hb=>ag λz=>out (z▸hb)) (c.ebx.trans (E.less c.ebl));refine⟨_,m2,q,⟨R.nd,by rw[R.len,f],λk ao ds J M=>R.own k ao ds J (by rw[f];exact M),by rw[R.vlen,t],λj r z=>?_,by rw[<-d];exact R.npl,by rw[<-d];exact R.ebl,R.ebx⟩,K,by rw[F.np];exact P.ext E⟩;rcases g j r z with h|⟨rfl,h⟩
 .exact R.var j r h
 .obtain⟨v,ev⟩:∃v,σ[j]?=some (some v):=by
   rcases h with h|h
   .obtain⟨v,ev,_⟩:=c.var j _ h;exact⟨v,ev⟩
   .obtain⟨v,ev,_⟩:=c.var j _ h;exact⟨v,ev⟩
  refine⟨v,ev,?_⟩;rw[name j v h ev];exact l o B
def Ay(d:dL):yv (lfD d)=some d:=by cases d<;>rfl
theorem fzKK{K:Kd}{H:Hp}{τ:List (List Nat×Addr)}{p:List Nat}:∀{kvs:List (dL×dL)}{i:Nat}{es:List (Key×V)},TAtK K H τ p i (lfKV kvs) es->DenKK K H kvs es
 |[],_,_,h=>by simpa[ TAtK]
 |(k,d)::r,i,es,h=>by
  let⟨b,v,vs,rfl,a,g,c⟩:=h;exact⟨b,v,vs,rfl,a,j3 g (Ay d),fzKK c⟩
def wFzK(w:WS):WS:=λD m=>∃(k j:Nat) (a:List (dL×dL)) (b:List Nat) (m2:MSt),m.vs[j]?=some (some (.at k []))/\m.os[k]?=some [.dict (lfKV a)]/\isKd (lfKV a)=true/\Fz k (.dict a) b m m2/\w D m2
theorem Qg(h:MS X st w):MS X st (wFzK w):=(QC h).wk<|by
 intro D y H ⟨u,m,A,R,⟨k,q,t,x,m2,f,l,kd,F,d⟩,i⟩;let⟨v,z,B,a,c,e,rfl⟩:=R.var q _ f;let⟨s,n,g⟩:=R.dict c e l rfl kd;refine sY R i F c (bu e) n rfl rfl (λo p=>?_) (λj v b r=>?_) d
 .exact⟨a,rfl,.inr (.inl ⟨s,o,ak,(fzKK g).mono p⟩)⟩
 .rcases b with b|b
  .obtain⟨v',ev',a',ea',_⟩:=R.var j _ b
   grind
  .obtain⟨v',ev',τ',a',ea',el',rfl⟩:=R.var j _ b
   grind
def LZ(h:ES X st w):ES X st (wFzK w):=⟨Qg h.h⟩
end
def FzVs(k:Nat)(d:dL)(a:List Nat):List (Option R)->List (Option R)->Prop
 |o::os,q::qs=>(RenO a o q\/(q=some (.imm d)/\(o=some (.obj k)\/o=some (.at k []))))/\FzVs k d a os qs
 |[],[]=>True
 |_,_=>False
theorem FzVs.len{k:Nat}{d:dL}{a:List Nat}:∀{os q:List (Option R)},FzVs k d a os q->q.length=os.length
 |[],[],_=>rfl
 |_::_,_::_,h=>congrArg (· + 1) (FzVs.len h.2)
 |[],_::_,h=>h.elim
 |_::_,[],h=>h.elim
theorem FzVs.get{k:Nat}{d:dL}{b:List Nat}:∀{os a:List (Option R)},FzVs k d b os a->∀(j:Nat) (r:R),a[j]?=some (some r)->RenR b os[j]? r\/(r = .imm d/\(os[j]?=some (some (.obj k))\/os[j]?=some (some (.at k []))))
 |o::os,q::a,h,0,r,e=>by
  have c:=by simpa using e
  subst c;rcases h.1 with h|_
  .exact .inl h
  .simp_all
 |o::os,q::a,h,j+1,r,e=>by simpa using FzVs.get h.2 j r ‹_›
 |[],[],_,_,_,e=>by simp at e
 |[],_::_,h,_,_,_=>h.elim
 |_::_,[],h,_,_,_=>h.elim
theorem Uy{k:Nat}{d:dL}{m:MSt}(nd:decide ρ.Nodup=true)(lt:(ρ.all λk=>Nat.blt k m.os.length)=true)(out:(ρ.all λi=>i != k)=true)(pre:ρ.take m.np=aaB m.np)(npl:Nat.ble m.np ρ.length=true)(npk:Nat.ble m.np k=true)(os:m2.os=ρ.map λk=>m.os.getD k [])(np:m2.np=m.np)(vs:FzVs k d ρ m.vs m2.vs):Fz k d ρ m m2:=
 ⟨of_decide_eq_true nd,λk h=>Nat.blt_eq.mp (abV.mp lt k h),λz=>by simpa using abV.mp out k z,pre,aeA npl,aeA npk,os,np,vs.len,λj r e=>vs.get j r e⟩
def UT{w:WS}{D:dJ}{m:MSt}(k j:Nat)(kvs:List (dL×dL))(a:List Nat)(m2:MSt)(b:m.vs[j]?=some (some (.at k [])))(c:m.os[k]?=some [.dict (lfKV kvs)])(e:isKd (lfKV kvs)=true)(F:Fz k (.dict kvs) a m m2)(h:w D m2):wFzK w D m:=⟨k,j,kvs,a,m2,b,c,e,F,h⟩
noncomputable instance instDecPyData:DecidableEq dL:=λa b=>Classical.propDecidable (a=b)
mutual
def jQ:dL->Nat
 | .int _=>1
 | .str _=>1
 | .tuple ds=>fz ds+1
 |_=>0
def fz:List dL->Nat
 |[]=>0
 |d::ds=>jQ d+fz ds
end
def kyD(d:dL):Bool:=(match d with| .tuple _=>true|_=>false)&&(hkD d&&(d.canLay0&&decide (d.depth≤7)))
theorem je{d:dL}(h:kyD d=true):∃ds,d = .tuple ds/\hkA ds=true/\d.canLay0=true/\d.depth≤7:=by
 unfold kyD at h;rw[aa1,aa1,aa1,decide_eq_true_eq]at h
 cases d with
 |tuple ds=>exact⟨ds,rfl,by simpa[hkD]using h.2.1,h.2.2.1,h.2.2.2⟩
 |_=>simp at h
section
variable {w:World}{prog:aaA}
theorem qK(w:World):∀a b:List dL,iy w (a++b)=iy w a++iy w b
 |[],b=>by simp[iy]
 |d::a,b=>by simp[ iy,qK w a b]
theorem mj:∀a b:List dL,fz (a++b)=fz a+fz b
 |[],b=>by simp[fz]
 |d::a,b=>by simp[ fz,mj a b];omega
theorem tu:∀{ds:List dL}{d:dL},hkA ds=true->d∈ds->hkD d=true
 |x::ds,d,h,a=>by
  simp[hkA]at h;obtain rfl|a:=aaq.mp a
  .exact h.1
  .exact tu h.2 a
theorem jO{ds:List dL}{d:dL}(h:d∈ds):d.depth≤aaw ds:=by
 induction ds with
 |nil=>cases h
 |cons x ds i=>
  show _≤max x.depth _
  grind
mutual
theorem m7:∀(d:dL) {A:aa2}{E:oR->Ad->Prop}{s:Ad}{v:oR}{as:List Addr}{Q:Int->Ad->Prop},hkD d=true->Reads s.heap v d as->A.units+d.depth<cLine->Q (dg w d) {s with toks:=s.toks+jQ d}->wpAny (model prog w) A (pyHash v) Q E s
 | .int i,A,E,s,v,as,Q,_,r,_,h=>by
  cases r;exact wpAny_pyHash_int (by simpa only[dg,jQ]using h)
 | .str x,A,E,s,v,as,Q,_,r,_,h=>by
  cases r;exact wpAny_pyHash_str (by simpa only[dg,jQ]using h)
 | .tuple ds,A,E,s,v,as,Q,hk,r,hu,h=>by
  cases r with
  | @tuple a o vs n _ _ ho hc hd hr=>
   have g:s.TypeIs (.ref a) "tuple":=⟨o,ho,hc⟩;have k:A.units<cLine:=aax (ace _ _) hu;have sp:∀{P:Option oR->Ad->Prop},P (some (.builtin "tuple.__hash__")) s->wpAny (model prog w) A (ahS (.ref a) "__hash__") P E s:=λp=>agx g afH.lookup p;simp only[dg,jQ]at h;refine aD (m:=cRoomFor "hash" [.ref a]) (wpAny_cRoomFor_or (.inr k) (aD (m:=ahS _ _) (sp ?_)));rw[if_neg (show ¬(some (acn "tuple.__hash__")==some abM)=true by rw[beq_builtin_none];decide)];refine aD (m:=ahS _ _) (sp (aD (m:=callSpecialIfBoundUnlessNone? (.ref a) "__hash__" _) ?_));refine wpAny_callSpecialIfBoundUnlessNone?_slot g afH (aa0 afH g F.entry_tuple_hash (aD (m:=adC (.ref a)) (wpAny_tupleItemsOf ho hd ?_)) (F.args_tuple_hash_1 _));refine aD ?_;rw[<-ahm];refine aeG _
    (λrest (b:Array Int) j=>∃done left bs,ds=done++left/\adY s.heap rest left bs/\b.toList=iy w done/\j={s with toks:=s.toks+fz done})
    _ ?_ ?_ _ _ ⟨[],ds,_,rfl,hr,by simp[iy],by simp[fz]⟩
   .rintro x rest b j ⟨done,left,bs,hds,hl,hb,rfl⟩
    cases hl with
    | @cons _ _ d ds' as1 bs1 r1 r2=>
     have f:d∈ds:=by rw[hds];simp
     refine aD (uE ds d f (tu (by simpa only[hkD]using hk) f) (s:={s with toks:=s.toks+fz done}) r1 ?_ ?_)
     .have:=jO f;have e:(aes ds).depth=aaw ds+1:=rfl;show A.units+1+d.depth<cLine;omega
     .have fin:∃c l q,ds=c++l/\adY s.heap rest l q/\(b.push (dg w d)).toList=iy w c/\({s with toks:=s.toks+fz done+jQ d}:Ad)={s with toks:=s.toks+fz c }:=by
       refine⟨done++[d],ds',_,by rw[hds];simp,r2,?_,?_⟩
       .rw[Array.toList_push,hb,qK];simp[iy]
       .rw[mj,aeP];simp[fz]
      first
       |exact Dl fin
       |exact aD (Dl (Dl fin))
   .rintro b j ⟨done,left,bs,hds,hl,hb,rfl⟩;cases hl;rw[aaO]at hds;subst hds;change wpAny _ _ (retInt (abJ (b.toList:List Int))) _ _ _;rw[hb];refine wpAny_ret_mkInt ?_;show wpAny _ _ (if (decide (-(2:Int)^63≤abJ (iy w ds))&&decide (abJ (iy w ds)<2^63))=true then _ else _) Q E _;unfold reduceHash at h
    by_cases hr:(decide (-(2:Int)^63≤abJ (iy w ds))&&decide (abJ (iy w ds)<2^63))=true
    .rw[if_pos hr];rw[if_pos hr]at h;refine Dl ?_;simpa[aeP]using h
    .rw[if_neg hr];rw[if_neg hr]at h;refine aD (m:=rule _) (acO (Dl ?_));simpa[aeP]using h
 | .none,_,_,_,_,_,_,hk,_,_,_=>by simp only[hkD]at hk;cases hk
 | .bool _,_,_,_,_,_,_,hk,_,_,_=>by simp only[hkD]at hk;cases hk
 | .list _,_,_,_,_,_,_,hk,_,_,_=>by simp only[hkD]at hk;cases hk
 | .dict _,_,_,_,_,_,_,hk,_,_,_=>by simp only[hkD]at hk;cases hk
theorem uE:∀(ds:List dL) (d:dL),d∈ds->∀{A:aa2}{E:oR->Ad->Prop}{s:Ad}{v:oR}{as:List Addr}{Q:Int->Ad->Prop},hkD d=true->Reads s.heap v d as->A.units+d.depth<cLine->Q (dg w d) {s with toks:=s.toks+jQ d}->wpAny (model prog w) A (pyHash v) Q E s
 |x::ds,d,hm=>by
  intro c r b h;rcases aaq.mp hm with e|a
  .rw[e]at c r b h;exact m7 x c r b h
  .exact uE ds d a c r b h
end
mutual
theorem p6:∀(a b:dL),hkD a=true->hkD b=true->aar a b=decide (a=b)
 | .int i,b,_,hb=>by
  cases b with
  |int j=>
   show decide (i=j)=_
   by_cases h:i=j
   .subst h;rw[decide_eq_true rfl,decide_eq_true rfl]
   .rw[decide_eq_false h,decide_eq_false (λz=>h (by cases z;rfl))]
  |str _=>rw[decide_eq_false (λz=>by cases z)];rfl
  |tuple _=>rw[decide_eq_false (λz=>by cases z)];rfl
  |none=>simp only[hkD]at hb;cases hb
  |bool _=>simp only[hkD]at hb;cases hb
  |list _=>simp only[hkD]at hb;cases hb
  |dict _=>simp only[hkD]at hb;cases hb
 | .str i,b,_,hb=>by
  cases b with
  |str j=>
   show decide (i=j)=_
   by_cases h:i=j
   .subst h;rw[decide_eq_true rfl,decide_eq_true rfl]
   .rw[decide_eq_false h,decide_eq_false (λz=>h (by cases z;rfl))]
  |int _=>rw[decide_eq_false (λz=>by cases z)];rfl
  |tuple _=>rw[decide_eq_false (λz=>by cases z)];rfl
  |none=>simp only[hkD]at hb;cases hb
  |bool _=>simp only[hkD]at hb;cases hb
  |list _=>simp only[hkD]at hb;cases hb
  |dict _=>simp only[hkD]at hb;cases hb
 | .tuple ds,b,ha,hb=>by
  cases b with
  |tuple e=>
   simp only[aar];rw[yC ds e (by simpa only[hkD]using ha) (by simpa only[hkD]using hb)]
   by_cases h:ds=e
   .subst h;rw[decide_eq_true rfl,decide_eq_true rfl]
   .rw[decide_eq_false h,decide_eq_false (λz=>h (by cases z;rfl))]
  |int _=>rw[decide_eq_false (λz=>by cases z)];rfl
  |str _=>rw[decide_eq_false (λz=>by cases z)];rfl
  |none=>simp only[hkD]at hb;cases hb
  |bool _=>simp only[hkD]at hb;cases hb
  |list _=>simp only[hkD]at hb;cases hb
  |dict _=>simp only[hkD]at hb;cases hb
 | .none,_,ha,_=>by simp only[hkD]at ha;cases ha
 | .bool _,_,ha,_=>by simp only[hkD]at ha;cases ha
 | .list _,_,ha,_=>by simp only[hkD]at ha;cases ha
 | .dict _,_,ha,_=>by simp only[hkD]at ha;cases ha
theorem yC:∀(a b:List dL),hkA a=true->hkA b=true->adu a b=decide (a=b)
 |[],[],_,_=>by rw[decide_eq_true rfl];rfl
 |[],_::_,_,_=>by rw[decide_eq_false (λz=>by cases z)];rfl
 |_::_,[],_,_=>by rw[decide_eq_false (λz=>by cases z)];rfl
 | x::a,y::b,ha,hb=>by
  simp only[hkA,aa1]at ha hb;simp only[adu];rw[p6 x y ha.1 hb.1,yC a b ha.2 hb.2]
  by_cases h:x=y
  .by_cases h2:a=b
   .subst h h2;rw[decide_eq_true rfl,decide_eq_true rfl,decide_eq_true rfl];rfl
   .rw[decide_eq_false h2,Bool.and_false,decide_eq_false (λz=>h2 (by cases z;rfl))]
  .rw[decide_eq_false h,Bool.false_and,decide_eq_false (λz=>h (by cases z;rfl))]
end
mutual
theorem Reads.hkeep{h h':aaR}{d:Addr}{o:Obj}{es:Array ab3}{e:Nat}(ho:h.get? d=some o)(hd:o.data = .dict es e)(hs:abo d h h'):∀(k:dL) {v:oR}{as:List Addr},hkD k=true->Reads h v k as->Reads h' v k as
 | .int _,_,_,_,r=>by cases r;exact .int _ _
 | .str _,_,_,_,r=>by cases r;exact .str _ _
 | .tuple ds,_,_,hk,r=>by
  cases r with
  | @tuple a o' vs n _ _ h1 h2 h3 h4=>
   have b:a≠d:=by
    rintro rfl;rw[ho]at h1;cases h1;rw[hd]at h3;cases h3
   exact .tuple ((hs.2 a b).trans h1) h2 h3 (ReadsAll.hkeep ho hd hs ds (by simpa only[hkD]using hk) h4)
 | .none,_,_,hk,_=>by simp only[hkD]at hk;cases hk
 | .bool _,_,_,hk,_=>by simp only[hkD]at hk;cases hk
 | .list _,_,_,hk,_=>by simp only[hkD]at hk;cases hk
 | .dict _,_,_,hk,_=>by simp only[hkD]at hk;cases hk
theorem ReadsAll.hkeep{h h':aaR}{d:Addr}{o:Obj}{es:Array ab3}{e:Nat}(ho:h.get? d=some o)(hd:o.data = .dict es e)(hs:abo d h h'):∀(ks:List dL) {vs:List oR}{as:List Addr},hkA ks=true->adY h vs ks as->adY h' vs ks as
 |[],_,_,_,r=>by cases r;exact .nil
 |k::ks,_,_,hk,r=>by
  simp only[hkA,aa1]at hk
  cases r with
  |cons r1 a=>exact .cons (Reads.hkeep ho hd hs k hk.1 r1) (ReadsAll.hkeep ho hd hs ks hk.2 a)
end
mutual
theorem kQ:∀(d:dL) {A:aa2}{E:oR->Ad->Prop}{s:Ad}{v:oR}{as:List Addr}{n:Nat}{Q:Bool->Ad->Prop},hkD d=true->Reads s.heap v d as->d.depth≤n->Q true s->wpAny (model prog w) A (eqIsQuiet n v) Q E s
 | .int _,_,_,_,_,_,_,_,_,r,_,h=>by cases r;rw[eqIsQuiet_byValue _ rfl];exact Dl h
 | .str _,_,_,_,_,_,_,_,_,r,_,h=>by cases r;rw[eqIsQuiet_byValue _ rfl];exact Dl h
 | .tuple ds,A,E,s,v,as,n,Q,hk,r,hn,h=>by
  cases r with
  | @tuple a o vs nn _ _ ho hc hd hr=>
   have f:s.TypeIs (.ref a) "tuple":=⟨o,ho,hc⟩;have e:(aes ds).depth=aaw ds+1:=rfl
   cases n with
   |zero=>omega
   | succ n=>
    unfold eqIsQuiet;refine aD (m:=ahS _ _) (agx f F.slot_tuple_eq.lookup (aD (m:=afq (.ref a) (.type "tuple")) (adi f isSubtype_tuple_tuple ?_)));simp only[if_false,adn,Bool.not_true];refine aD (m:=seqItems? (.ref a)) (acS ho hd ?_);refine aD ?_;show wpAny _ _ (forIn vs _ _) _ _ s;rw[<-ahm];refine aeG _ (λrest r c=>r.1=none/\c=s/\∃left bs,(∀d∈left,d∈ds)/\adY s.heap rest left bs) _ ?_ ?_ _ _ ⟨rfl,rfl,ds,_,λ_ h=>h,hr⟩
    .rintro x rest r c ⟨hr',rfl,left,bs,hsub,hl⟩
     cases hl with
     | @cons _ _ d ds' as1 bs1 r1 r2=>
      have b:d∈ds:=hsub d aac;refine aD (qU ds d b (tu (by simpa only[hkD]using hk) b) r1 (by have:=jO b;omega) ?_);simp only[if_false,adn,Bool.not_true];exact Dl ⟨rfl,rfl,ds',_,λz g=>hsub z (aad _ g),r2⟩
    .rintro⟨r1,r2⟩ c ⟨hr',rfl,_⟩;simp only at hr';subst hr';exact Dl h
 | .none,_,_,_,_,_,_,_,hk,_,_,_=>by simp only[hkD]at hk;cases hk
 | .bool _,_,_,_,_,_,_,_,hk,_,_,_=>by simp only[hkD]at hk;cases hk
 | .list _,_,_,_,_,_,_,_,hk,_,_,_=>by simp only[hkD]at hk;cases hk
 | .dict _,_,_,_,_,_,_,_,hk,_,_,_=>by simp only[hkD]at hk;cases hk
theorem qU:∀(ds:List dL) (d:dL),d∈ds->∀{A:aa2}{E:oR->Ad->Prop}{s:Ad}{v:oR}{as:List Addr}{n:Nat}{Q:Bool->Ad->Prop},hkD d=true->Reads s.heap v d as->d.depth≤n->Q true s->wpAny (model prog w) A (eqIsQuiet n v) Q E s
 |x::ds,d,hm=>by
  intro a r c h;rcases aaq.mp hm with e|b
  .rw[e]at a r c;exact kQ x a r c h
  .exact qU ds d b a r c h
end
theorem lQ{d:dL}(h:kyD d=true):hkD d=true:=by
 let⟨ds,rfl,a,_⟩:=je h;simpa[hkD]
noncomputable def l6 (prog:aaA) (w:World):HeapKind prog w dL where
 is:=λh d a=>(∃c,Reads h (.ref a) d c)/\kyD d=true
 hash:=dg w
 draws:=jQ
 room:=λA=>A.units+20<cLine
 inj:=λ{h a x y} ⟨⟨c,r1⟩,g⟩ ⟨⟨bs,j⟩,i⟩=>by
  let⟨ds,rfl,_,l,_⟩:=je g;exact SeqAt.Reads.unique _ _ _ _ _ l r1 j
 keeps:=λ⟨⟨c,r⟩,k⟩ ho hd hs=>⟨⟨c,Reads.hkeep ho hd hs _ (lQ k) r⟩,k⟩
 pyHash:=λ{A E s k a Q} n ⟨⟨c,r⟩,f⟩ h=>by
  let⟨ds,e,_,_,hd⟩:=je f;exact m7 k (lQ f) r (by omega) h
 eqBool:=λ{A E s x y a b Q} n ⟨⟨c,r1⟩,g⟩ ⟨⟨bs,j⟩,i⟩ h=>by
  let⟨ds,q,_,o,p⟩:=je g;let⟨v,u,_,m,t⟩:=je i;refine ahT x y A s _ _ _ _ r1 j o m (by omega) prog w E Q ?_;rw[p6 x y (lQ g) (lQ i)];exact h
 quiet:=λ{A E s k a Q} ⟨⟨c,r⟩,f⟩ h=>by
  let⟨ds,e,_,_,hd⟩:=je f;exact kQ k (lQ f) r (by omega) h
end
def de(k:dL):List (dL×dL)->Option dL
 |[]=>none
 |(k',d)::r=>if aar k' k=true then some d else de k r
def putP(k d:dL):List (dL×dL)->List (dL×dL)
 |[]=>[(k,d)]
 |(k',d')::r=>if aar k' k=true then(k',d)::r else(k',d')::putP k d r
def kyA(kvs:List (dL×dL)):Bool:=kvs.all λk=>kyD k.1
def kdD:dL->Bool
 | .int _=>true
 | .str _=>true
 |_=>false
def oneK(kvs:List (dL×dL))(k:dL):Bool:=(isKd kvs&&kdD k)||(kyA kvs&&kyD k)
def oM(kvs:List (dL×dL)):isKd kvs=kvs.all λk=>kdD k.1:=rfl
theorem pJ{k:dL}(h:kdD k=true):∃kk:Key,k=keyD kk:=by
 cases k with
 |int i=>exact⟨.inl i,rfl⟩
 |str x=>exact⟨.inr x,rfl⟩
 |_=>cases h
def zl(a b:Key):aar (keyD a) (keyD b)=decide (a=b):=by
 cases a<;>cases b<;>simp[keyD,aar,aez]
def IsDc(K:Kd)(H:Hp)(a:Addr)(kvs:List (dL×dL)):Prop:=
 (∃e,Rd H a (.dK e)/\DenKK K H kvs e)\/∃e,Rd H a (dX a e)/\isKd kvs=false/\(kvs.map (·.1)).Nodup/\DenKV K H kvs e
section
variable {K:Kd}{H a:Hp}
theorem fzKV{τ:List (List Nat×Addr)}{p:List Nat}:∀{kvs:List (dL×dL)}{i:Nat}{es:List (Int×V×V)},TAtD K H τ p i (lfKV kvs) es->DenKV K H kvs es
 |[],_,_,h=>by simpa[lfKV]
 |(k,d)::r,i,es,h=>by
  let⟨u,v,vs,rfl,c,g,b⟩:=h;exact⟨u,v,vs,rfl,c,j3 g (Ay d),fzKV b⟩
theorem J6{τ:List (List Nat×Addr)}{p:List Nat}:∀{kvs:List (dL×dL)}{i:Nat}{es:List (Int×V×V)},DenKV K H kvs es->TAtD K H τ p i (lfKV kvs) es
 |[],_,_,h=>by simpa only[lfKV]
 |_::r,i,es,h=>by
  let⟨u,v,vs,rfl,c,g,b⟩:=h;exact⟨u,v,vs,rfl,c,Cb g,J6 b⟩
def fH(kvs:List (dL×dL)):(lfKV kvs).map (·.1)=kvs.map (·.1):=by
 unfold lfKV;rw[aaN];rfl
def jw(kvs:List (dL×dL)):isKd (lfKV kvs)=isKd kvs:=by
 unfold isKd lfKV;rw[adM];rfl
theorem ml(h:isKd kvs=true\/kyA kvs=true):fzOf kvs=none/\excC kvs=none:=by
 cases kvs with
 |nil=>exact⟨rfl,rfl⟩
 | cons x r=>
  let⟨k,d⟩:=x
  cases k with
  |none=>
   rcases h with h|h
   .simp[isKd]at h
   .simp[kyA,kyD]at h
  |int _=>exact⟨rfl,rfl⟩
  |str _=>exact⟨rfl,rfl⟩
  |bool _=>exact⟨rfl,rfl⟩
  |list _=>exact⟨rfl,rfl⟩
  |tuple _=>exact⟨rfl,rfl⟩
  |dict _=>exact⟨rfl,rfl⟩
end
def dcM(m:MSt)(kvs:List (dL×dL)):R->Prop
 | .imm (.dict es)=>es=kvs
 | .at k p=>p=[]/\m.os[k]?=some [.dict (lfKV kvs)]
 |_=>False
theorem RelR.dc{K:Kx}{m:MSt}{F:Hp}{r:R}(R:Rel K α m σ H)(h:RelR K α F H r v)(e:dcM m kvs r)(l:isKd kvs=true\/kyA kvs=true):∃a,v = .ref a/\IsDc K H a kvs:=by
 let⟨n1,n2⟩:=ml l
 cases r with
 | imm d=>
  cases d with
  |dict j=>
   have E:j=kvs:=e;subst E;have q:Den K H (.dict j) v:=h;simp only[Den]at q;let⟨a,rfl,q⟩:=q;refine⟨a,rfl,?_⟩;rcases q with⟨x,⟨o,f⟩,n,g⟩|⟨x,o,f,g⟩|⟨c,x,B,_⟩
   .exact .inr ⟨x,.inr ⟨o,f⟩,n.1,n.2.1,g⟩
   .exact .inl ⟨x,.inr ⟨o,f⟩,g⟩
   .rw[n2]at B;cases B
  |none=>exact e.elim
  |bool _=>exact e.elim
  |int _=>exact e.elim
  |str _=>exact e.elim
  |list _=>exact e.elim
  |tuple _=>exact e.elim
 | «at» k p=>
  let⟨rfl,G⟩:=e;let⟨M,a,i,A,rfl⟩:=h;let⟨⟨L,I,z,g,J,y,D⟩,_⟩:=R.own k _ _ i G;cases z;rw[A]at y;cases y;subst D;refine⟨a,rfl,?_⟩;have u:=ml (by
   rcases l with l|l
   .exact .inl (by rw[jw];exact l)
   .refine .inr ?_;unfold kyA lfKV at *;rw[adM];exact l)
  simp only[TAt]at g;rcases g with⟨d,i,_⟩|⟨_,_,b,j,i,s,t,n,g⟩|⟨_,_,b,j,i,s,t,g⟩|⟨c,b,dx,C,x,w,_⟩
  .rw[u.1]at i;cases i
  .cases s;rw[A]at i;exact .inr ⟨j,.inl t,by rw[<-jw];exact n.1,by rw[<-fH];exact n.2.1,fzKV g⟩
  .cases s;exact .inl ⟨j,.inl t,fzKK g⟩
  .rw[u.2]at w;cases w
 |obj _=>exact e.elim
 |new _=>exact e.elim
 |newT _=>exact e.elim
theorem DenKV.len{K:Kd}{H:Hp}:∀{kvs:List (dL×dL)}{es:List (Int×V×V)},DenKV K H kvs es->kvs.length=es.length
 |[],_,g=>by simp[DenKV]at g;subst g;rfl
 |_::r,_,g=>by
  let⟨u,v,vs,rfl,_,_,g⟩:=g;simp[DenKV.len g]
section
variable {X:Cx}{pins:List (Addr×Obj)}{σ:St}{H:Hp}{s:Ad}
abbrev PxV(K:Kd)(H:Hp):List (dL×dL)->List (dL×Addr×oR)->Prop:=abN λp q=>p.1=q.1/\Den K H p.1 (.ref q.2.1)/\∃v,Den K H p.2 v/\RelV v q.2.2
theorem PxV.keys{H:Hp}{xs:List (dL×Addr×oR)}(p:PxV K H kvs xs):xs.map (·.1)=kvs.map (·.1):=by
 induction p with
 |nil=>rfl
 |cons h t i=>rw[aaD,aaD,i,h.1]
theorem vp{k:dL}{u:V}(c:kyD k=true)(h:Den K H k u):∃b,u = .ref b:=by
 let⟨ds,rfl,_⟩:=je c;let⟨a,x,e,_⟩:=h;exact⟨a,e⟩
theorem yK{k:dL}(h:kyD k=true):k.hasDict=false:=by
 let⟨ds,rfl,_,a,_⟩:=je h;exact abe _ a
def Inv.ky(I:Inv X pins σ H s){k:dL}(a:kyD k=true)(h:Den X.kd H k (.ref b)):(l6 X.prog X.w).is s.heap k b:=⟨h.reads I (yK a) (rfl),a⟩
abbrev ExV(w:World):List (Int×V×V)->List (dL×Addr×oR)->Prop:=abN λe q=>e.1=dg w q.1/\e.2.1 = .ref q.2.1/\RelV e.2.2 q.2.2
theorem Inv.dcE(I:Inv X pins σ H s){es:List (Int×V×V)}(Q:Rd H a (dX a es))(g:DenKV X.kd H kvs es)(nd:(kvs.map (·.1)).Nodup)(f:kyA kvs=true):(a==abD)=false/\es.length≤aaf/\∃xs,s.heap.DictOfH (l6 X.prog X.w) a xs/\PxV X.kd H kvs xs/\ExV X.w es xs:=by
 let⟨⟨hs,D,o,c,R,S,P,N,E⟩,_⟩:=(show ObjOk X.prog X.w H s.heap a (dX a es)from Q.ok I.hok);have key:∀{kvs:List (dL×dL)}{es:List (Int×V×V)}{c:List ab3},kyA kvs=true->DenKV X.kd H kvs es->abN (λ(e:Int×V×V) (d:ab3)=>d.hash=e.1/\RelV e.2.1 d.key/\RelV e.2.2 d.val) es c->∃xs,c=xs.map (entryOfKey (l6 X.prog X.w))/\PxV X.kd H kvs xs/\ExV X.w es xs:=by
  intro kvs
  induction kvs with
  |nil=>
   intro es c _ g p;simp only[DenKV]at g;subst g;cases p;exact⟨[],rfl,.nil,.nil⟩
  | cons x r y=>
   intro es c f g p;let⟨k,d⟩:=x;rw[kyA,acL,aa1]at f;simp only[DenKV]at g;let⟨u,v,vs,rfl,A,F,J⟩:=g
   cases p with
   |cons L M=>
    rename_i O n;let⟨xs,w,j,l⟩:=y f.2 J M;let⟨b,rfl⟩:=vp f.1 A;let⟨G,K,B⟩:=L;let⟨z,C,m⟩:=O
    cases (show C=aaZ b from K)
    refine⟨(k,b,m)::xs,?_,.cons ⟨rfl,A,v,F,B⟩ j,.cons ⟨rfl,rfl,B⟩ l⟩;rw[aaD,<-w]
    congr 1
    show ab3.mk z (.ref b) m=⟨dg X.w k,.ref b,m⟩;rw[show z=dg X.w k from G]
 let⟨xs,w,j,l⟩:=key f g E;refine⟨hs,D,xs,⟨o,c,R,S,P,N,w,λx i=>?_,by rw[j.keys];exact nd⟩,j,l⟩;have all:∀{kvs:List (dL×dL)}{xs:List (dL×Addr×oR)},kyA kvs=true->PxV X.kd H kvs xs->∀x∈xs,(l6 X.prog X.w).is s.heap x.1 x.2.1:=by
  intro kvs xs f p
  induction p with
  |nil=>intro x i;cases i
  | @cons q x0 qs xs0 h t y=>
   rw[kyA,acL,aa1]at f;intro x i;obtain rfl|i:=aaq.mp i
   .rw[<-h.1];exact I.ky f.1 h.2.1
   .exact y f.2 x i
 exact all f j x i
theorem Inv.dc0(I:Inv X pins σ H s)(r:Rd H a (.dK [])):(a==abD)=false/\s.heap.DictOfH (l6 X.prog X.w) a []:=by
 let⟨_,hs,vs,k,f⟩:=wF I.hok r;cases k;let⟨o,e,b,g,c,i,d⟩:=f;refine⟨hs,o,e,b,g,c,i,?_,⟨(λx h=>absurd h (by simp)),adh⟩⟩;have j:e.toList=[]:=by
  let⟨_,hp,_⟩:=d;exact abj (by have:=hp.length;simpa)
 rw[j];rfl
theorem OT(g:DenKK K H kvs es)(a:kyA kvs=true):kvs=[]/\es=[]:=by
 cases kvs with
 |nil=>simp[DenKK]at g;exact⟨rfl,g⟩
 |cons x r=>
  let⟨k,d⟩:=x;let⟨b,v,vs,_,⟨e,_⟩,_⟩:=g;rw[kyA,acL,aa1]at a;have h:kyD k=true:=a.1;rw[e]at h
  cases b<;>cases h
theorem Inv.dcX(I:Inv X pins σ H s)(h:IsDc X.kd H a kvs)(b:kyA kvs=true):(a==abD)=false/\∃xs,s.heap.DictOfH (l6 X.prog X.w) a xs/\PxV X.kd H kvs xs:=by
 rcases h with⟨e,r,g⟩|⟨e,r,_,nd,g⟩
 .obtain⟨rfl,rfl⟩:=OT g b;let⟨hs,d⟩:=I.dc0 r;exact⟨hs,[],d,.nil⟩
 .obtain⟨hs,_,xs,d,p,_⟩:=I.dcE r g nd b;exact⟨hs,xs,d,p⟩
theorem PxV.val{xs:List (dL×Addr×oR)}{k:dL}(c:kyA kvs=true)(f:kyD k=true)(p:PxV K H kvs xs) :
  (de k kvs=none/\atKey xs k=none)\/∃d v q,de k kvs=some d/\atKey xs k=some q/\Den K H d v/\RelV v q.2:=by
 induction p with
 |nil=>exact(.inl ⟨rfl,rfl⟩)
 | @cons x q xs0 qs h t ih=>
  rw[kyA,acL,aa1]at c;let⟨i,d⟩:=x;let⟨m,n,v,j,l⟩:=h;have a:i=q.1:=m;have g:=p6 _ _ (lQ c.1) (lQ f);unfold de
  by_cases e:i=k
  .have b:atKey (q::qs) k=some q.2:=by simp[atKey,List.find?_cons,<-a,e]
   rw[g,decide_eq_true e,if_pos rfl];exact .inr ⟨d,v,q.2,rfl,b,j,l⟩
  .have b:atKey (q::qs) k=atKey qs k:=by simp[atKey,<-a,e]
   rw[g,decide_eq_false e,b];exact ih c.2
theorem DenKK.val(g:DenKK K H kvs es) :
  (de (keyD kk) kvs=none/\valV es kk=none)\/∃d v,de (keyD kk) kvs=some d/\valV es kk=some v/\Den K H d v:=by
 induction kvs generalizing es with
 |nil=>simp[DenKK]at g;subst g;exact .inl ⟨rfl,rfl⟩
 |cons x r i=>
  let⟨k,d⟩:=x;let⟨b,v,vs,rfl,⟨rfl,_⟩,a,c⟩:=g;unfold de;rw[zl]
  by_cases e:b=kk
  .rw[decide_eq_true e];exact .inr ⟨d,v,rfl,j8 e,a⟩
  .rw[decide_eq_false e,ki e];exact i c
def DGet.kr{H:Hp}{kvs:List (Key×V)}{k:Key}(e:Rd H a (.dK kvs)):DGet H a (kV k) (valV kvs k):=.inl ⟨kvs,k,e,rfl,rfl⟩
theorem oa{k:dL}(h:oneK kvs k=true):(isKd kvs=true/\kdD k=true)\/(kyA kvs=true/\kyD k=true):=by
 unfold oneK at h
 simp_all
theorem Inv.dcT(I:Inv X pins σ H s)(h:IsDc X.kd H a kvs):s.TypeIs (.ref a) "dict"/\∀b,aaZ a = .ref b->∃ob,s.heap.get? b=some ob/\ob.dict=none:=by
 rcases h with⟨c,r,g⟩|⟨c,r,_,nd,g⟩
 .obtain⟨_,hs,vs,kv,o,_,_,h1,h2,_⟩:=wF I.hok r;exact⟨⟨o,h1,h2.1⟩,λb e=>by cases e;exact⟨o,h1,h2.2.1⟩⟩
 .obtain⟨⟨hs,hz,o,ents,ep,h1,h2,h3,h4⟩,_⟩:=(r.ok I.hok);exact⟨⟨o,h1,h2.1⟩,λb e=>by cases e;exact⟨o,h1,h2.2.1⟩⟩
theorem BR(h:Den K H (keyD kk) y):y=kV kk:=by
 cases kk with
 |inl i=>exact aU h
 |inr x=>exact bt h
section
variable {a:Addr}{kvs:List (dL×dL)}{k:dL}{y z:V}{u c:oR}{A:aa2}{E:oR->Ad->Prop}
theorem L5{Q:oR->Ad->Prop}(J:A.units+64<cLine)(I:Inv X pins σ H s)(h:IsDc X.kd H a kvs)(ok:oneK kvs k=true)(n:Den X.kd H k y)(B:RelV y u)(x:RelV z c)
  (f:∀v w s',Inv X pins σ H s'->RelV v w->((∃d,de k kvs=some d/\Den X.kd H d v)\/(de k kvs=none/\v=z))->Q w s'):wpAny (model X.prog X.w) A (call (.builtin "dict.get") [.ref a,u,c]) Q E s:=by
 have t:=(I.dcT h).1;rcases oa ok with⟨l,o⟩|⟨l,o⟩
 .obtain⟨kk,rfl⟩:=pJ o;have D:=BR n;subst D;rcases h with⟨G,C,g⟩|⟨G,C,kd,nd,g⟩
  .obtain⟨z0,hd,vs,rel,dd⟩:=wF I.hok C;refine ahz aeB t ago (af5 _ _ _) (meets_dict_get_default (cC X.prog X.w) a (Ah B) hd c) ⟨_,dd.mapOf,?_⟩;have r:=rel.val kk;rcases g.val (kk:=kk)with⟨e,i⟩|⟨d,v,e,i,m⟩
   .rw[i]at r;have j:afF vs kk=none:=RelO.none_of r;show Q ((afF vs kk).getD c) _;rw[j];exact f z c _ (I.tok _) x (.inr ⟨e,rfl⟩)
   .rw[i]at r;let⟨w,j,F⟩:=RelO.some_of r;show Q ((afF vs kk).getD c) _;rw[j];exact f v w _ (I.tok _) F (.inl ⟨d,e,m⟩)
  .rw[l]at kd;cases kd
 .obtain⟨hs,xs,dd,p⟩:=I.dcX h l;let⟨b,rfl⟩:=vp o n
  cases (show u=aaZ b from B)
  refine ahz aeB t ago (af5 _ _ _) (meetsH_dict_get_default (l6 X.prog X.w) a b hs c) ⟨(by show A.units+1+20<cLine;omega),k,xs,I.ky o n,dd,?_⟩;rcases p.val l o with⟨e,i⟩|⟨d,v,q,e,i,m,j⟩
  .rw[i];exact f z c _ (I.tok _) x (.inr ⟨e,rfl⟩)
  .rw[i];exact f v q.2 _ (I.tok _) j (.inl ⟨d,e,m⟩)
theorem Vi{Q:oR->Ad->Prop}(D:A.units+64<cLine)(I:Inv X pins σ H s)(h:IsDc X.kd H a kvs)(ok:oneK kvs k=true)(m:Den X.kd H k y)(r:RelV y u)(n:Bool)
  (f:∀s',Inv X pins σ H s'->Q (.bool (if n=true then !(de k kvs).isSome else(de k kvs).isSome)) s'):wpAny (model X.prog X.w) A (abp (if n=true then .NotIn else .In) u (.ref a)) Q E s:=by
 rcases oa ok with⟨l,o⟩|⟨l,o⟩
 .obtain⟨kk,rfl⟩:=pJ o;have C:=BR m;subst C;rcases h with⟨x,w,g⟩|⟨x,w,kd,nd,g⟩
  .have e:(de (keyD kk) kvs).isSome=(valV x kk).isSome:=by
    rcases g.val (kk:=kk)with⟨i,j⟩|⟨d,v,i,j,B⟩
    .rw[i,j];rfl
    .rw[i,j];rfl
   cases n with
   |false=>exact d_in (by omega) I (DGet.kr w) r λs' t=>by rw[<-e];exact f s' t
   |true=>exact JS (by omega) I (DGet.kr w) r λs' t=>by rw[<-e];exact f s' t
  .rw[l]at kd;cases kd
 .obtain⟨hs,xs,dd,p⟩:=I.dcX h l;let⟨b,rfl⟩:=vp o m
  cases (show u=aaZ b from r)
  have e:(de k kvs).isSome=(atKey xs k).isSome:=by
   rcases p.val l o with⟨i,j⟩|⟨d,v,q,i,j,B,F⟩
   .rw[i,j];rfl
   .rw[i,j];rfl
  cases n with
  |false=>exact wpAny_in_heap (by show A.units+1+20<cLine;omega) (I.ky o m) hs dd (by rw[<-e];exact f _ (I.tok _))
  |true=>exact PyProof.Rows.wpAny_notIn_heap (knd:=l6 X.prog X.w) (by show A.units+1+20<cLine;omega) (I.ky o m) hs dd (by rw[<-e];exact f _ (I.tok _))
end
end
section
variable {X:Cx}{a:Expr}{w:WE}{pos:Pos}
def Jk:WE:=λm K=>K (.newT (.dict [])) m
theorem NA:ME X (.Dict [] [] pos) Jk:=pe_dnewK.wk<|by
 intro c H Q ⟨d,m,K,R,h,f⟩;intro p hp;refine f _ m _ _ h rfl (R.lay hp) ⟨[([],p)],p,rfl,rfl,by simp,λb hb=>by simp at hb;subst hb;exact hp,⟨⟨_,.ref p,rfl,?_,p,rfl,rfl⟩,λb hb=>by simp at hb;subst hb;exact⟨_,ak,rfl⟩⟩⟩ (cx hp);refine .inr (.inr (.inl ⟨rfl,rfl,p,[],rfl,rfl,ak,?_⟩));rfl
def uZ:EE X (.Dict [] [] pos) Jk:=⟨NA⟩
end
section
variable {m:MSt}{K:R->MSt->Prop}{w:WE}{P:dL->Prop}
def Ii(h:K (.newT (.dict [])) m):Jk m K:=h
end
section
variable {X:Cx}{o e:Expr}{w:WE}{b c:Pos}
def wML0(ob:WM)(w:WE):WE:=λm K=>w m λr m1=>(∃ds,lsOf m1 r=some ds)/\ob r [] m1 K
theorem Sf{name:Str}{id:String}(slot:Slot "list" name id)(i:agi (.builtin id)=pure (.type "method_descriptor"))(A:MtM X id (mM X.kx ob))(ho:ME X o w)
  (h:aa5 o name X.env (eval o X.env)=eval o X.env:=by rfl) (d:(b.endLine==c.line)=true:=by rfl):ME X (.Call (.Attribute o name b) [] [] c) (wML0 ob w):=
 (QP afZ slot i A ho h d).wk<|by
 intro t H Q ⟨q,m,K,x,u,p⟩;refine⟨q,m,_,x,u,λr m1 v B k n1 R rr s=>?_⟩;let⟨⟨ds,y⟩,k⟩:=k;let⟨a,C,rfl,f,g⟩:=rr.list R y;exact⟨.inl ⟨rfl,C,f⟩,q,m1,t,H,B,r,[],K,R,rr,.nil,k,λr z v D k n j l F=>p r z v D k (n.trans n1) j (l.base R s) (s.trans F)⟩
end
section
variable {X:Cx}{scope sc:Scope}{own fr:List Str}{ps:List Nat}{elt b o:Expr}{ifs:List Expr}{pos np l s p a c:Pos}{tt:WT}{d w:WE}{e:WI}{x y:Str}{i:Nat}
theorem Jz{name:Str}{id:String}(slot:Slot "list" name id)(g:agi (.builtin id)=pure (.type "method_descriptor"))(j:MtM X id (mM X.kx ob))(ho:EE X o w)
  (f:aa5 o name X.env (eval o X.env)=eval o X.env:=by rfl) (h:(a.endLine==c.line)=true:=by rfl):EE X (.Call (.Attribute o name a) [] [] c) (wML0 ob w):=⟨Sf slot g j ho.h f h⟩
end
section
variable {m:MSt}{Q:R->MSt->Prop}{w a:WE}{b:WI}{tt:WT}{own:List Str}{ps:List Nat}
def VD(h:w m λr m1=>(∃ds,lsOf m1 r=some ds)/\ob r [] m1 Q):wML0 ob w m Q:=h
end
section
variable {X:Cx}{o e g:Expr}{es:List Expr}{w:WE}{f:WA}{b c:Pos}
def Om(K:Kd)(to:TE)(t:TA):TE:=λl H Q=>to l H λx m=>∃a i,x = .ref a/\IsDc K m a i/\t l m λn j=>∃h k y z,n=[y,z]/\IsDc K j a h/\oneK h k=true/\Den K j k y/\∀v,((∃d,de k h=some d/\Den K j d v)\/(de k h=none/\v=z))->Q v j
theorem Fq{to:TE}{t:TA}(O:X.A.units+64<cLine)(ho:PE X o to)(ha:PA X (e::es) t)
  (i:aa5 o "get" X.env (eval o X.env)=eval o X.env:=by rfl)
  (j:((abw c (OR (e::es) X.env)).all (λx=>!x.1)&&(afk c (adD [] X.env)).all (λx=>x.1.isSome)
   && decide ((e::es).length+([]:List adm).length+(if ([]:List adm).isEmpty then 0 else 1)<30))=true:=by rfl)
  (d:(b.endLine==c.line)=true:=by rfl) (hs:OR (e::es) X.env=(false,eval e X.env)::OR es X.env:=by rfl) (l:(abw c (OR es X.env)).any (·.1)=false:=by rfl) :
  PE X (.Call (.Attribute o "get" b) (e::es) [] c) (Om X.kd to t):=by
 intro p s u H Q I h;refine agj i j d rfl (thn (ho p s u H _ I h) λv s1 ⟨x,P,B,r1,q⟩=>?_);let⟨a,A,rfl,dc0,q⟩:=q;cases (r1);let⟨R,L⟩:=B.dcT dc0;refine⟨"dict","dict.get",aei,aeB,PySem.F.type_dict_get,R,L,?_⟩;have n:=ha c p s1 u P _ B q;rw[hs]at n⊢;refine acH ‹_› (agH ?_);refine thn n λU s2 ⟨vs,M,C,r,K⟩=>?_;let⟨S,k,y,z,rfl,dc,ok,F,m⟩:=K
 cases r with
 | cons G r=>
  cases r with
  |cons E r=>
   cases r;exact L5 O C dc ok F G E λv V T N J D=>⟨v,M,N,J,m v D⟩
def yO(w:WE)(f:WA):WE:=λm K=>w m λr m1=>∃a,dcM m1 a r/\(isKd a=true\/kyA a=true)/\f m1 λrs m2=>∃d k z,rs=[.imm k,.imm z]/\dcM m2 d r/\oneK d k=true/\K (.imm ((de k d).getD z)) m2
theorem CK(N:X.A.units+64<cLine)(ho:ME X o w)(ha:MA X (e::es) f)
  (n:aa5 o "get" X.env (eval o X.env)=eval o X.env:=by rfl)
  (s:((abw c (OR (e::es) X.env)).all (λx=>!x.1)&&(afk c (adD [] X.env)).all (λx=>x.1.isSome)
   && decide ((e::es).length+([]:List adm).length+(if ([]:List adm).isEmpty then 0 else 1)<30))=true:=by rfl)
  (j:(b.endLine==c.line)=true:=by rfl) (hs:OR (e::es) X.env=(false,eval e X.env)::OR es X.env:=by first|exact aV rfl|rfl) (i:(abw c (OR es X.env)).any (·.1)=false:=by rfl) :
  ME X (.Call (.Attribute o "get" b) (e::es) [] c) (yO w f):=(Fq N ho ha n s j hs i).wk<|by
 intro V H Q ⟨B,m,U,A,C,y⟩;refine⟨B,m,_,A,C,λr m1 v W k n1 R rr O=>?_⟩;let⟨q,I,S,k⟩:=k;let⟨a,rfl,dc0⟩:=RelR.dc R rr I S;refine⟨a,q,rfl,dc0,B,m1,_,R,k,λrs m2 vs L u n2 p h F=>?_⟩;let⟨l,P,z,rfl,E,ok,u⟩:=u;have J:isKd l=true\/kyA l=true:=by
  rcases oa ok with z|z
  .exact .inl z.1
  .exact .inr z.1
 let⟨T,M,dc⟩:=RelR.dc p (rr.keep A R F) E J;cases M
 cases h with
 | cons G h=>
  cases h with
  |cons K h=>
   cases h;refine⟨l,P,_,_,rfl,dc,ok,G,λv D=>y _ m2 v L u (n2.trans n1) p ?_ (O.trans F)⟩;rcases D with⟨d,t,hd⟩|⟨t,rfl⟩
   .rw[t];exact hd
   .rw[t];exact K
def oInD(n:Bool):WO:=λr1 r m K=>c8 (λk=>∃a,dcM m a r/\oneK a k=true/\K (.imm (.bool (if n=true then !(de k a).isSome else(de k a).isSome)))) r1
theorem Jq(q:X.A.units+64<cLine)(n:Bool):OpR X (abp (if n=true then .NotIn else .In)) (rM X.kx (oInD n)):=by
 intro p s A H x y v u Q I t r ⟨D,m,G,J,L,r1,F,K,R,B,j,ho,d⟩;let⟨k,rfl,i,C,h,ok,ho⟩:=fc B ho;let⟨a,rfl,dc⟩:=RelR.dc R j h (by
  rcases oa ok with z|z
  .exact .inl z.1
  .exact .inr z.1)
 cases (r);exact Vi q I dc ok i t n λE l=>⟨.bl _,H,l,rfl,d _ _ H ho R (jV _) (Frm.refl _ _)⟩
def mD(h:X.A.units+64<cLine):OpR X (abp .NotIn) (rM X.kx (oInD true)):=Jq h true
theorem qe(j:X.A.units+64<cLine)(ho:EE X o w)(ha:EA X (e::es) f)
  (a:aa5 o "get" X.env (eval o X.env)=eval o X.env:=by rfl)
  (i:((abw c (OR (e::es) X.env)).all (λx=>!x.1)&&(afk c (adD [] X.env)).all (λx=>x.1.isSome)
   && decide ((e::es).length+([]:List adm).length+(if ([]:List adm).isEmpty then 0 else 1)<30))=true:=by rfl)
  (d:(b.endLine==c.line)=true:=by rfl) (hs:OR (e::es) X.env=(false,eval e X.env)::OR es X.env:=by first|exact aV rfl|rfl) (h:(abw c (OR es X.env)).any (·.1)=false:=by rfl) :
  EE X (.Call (.Attribute o "get" b) (e::es) [] c) (yO w f):=⟨CK j ho.h ha.h a i d hs h⟩
end
section
variable {X:Cx}{i:Expr}{a:WE}{w:WS}{b:List Stmt}{pos np:Pos}{x:Str}{c:Nat}
def AL{e:WA}{m:MSt}{Q:R->MSt->Prop}(h:a m λr m1=>∃d,dcM m1 d r/\(isKd d=true\/kyA d=true)/\e m1 λrs m2=>∃kvs k z,rs=[.imm k,.imm z]/\dcM m2 kvs r/\oneK kvs k=true/\Q (.imm ((de k kvs).getD z)) m2):yO a e m Q:=h
end
structure Stp(S:List Addr)(e:Addr)(To:Option Addr)(h h':aaR):Prop where
 same:∀b o,h.get? b=some o->b≠e->some b≠To->b∉S->h'.get? b=some o
 slot:∀b o,h.get? b=some o->b≠e->some b≠To->∃sl,h'.get? b=some {o with slots:=sl}
 there:∀b o,h.get? b=some o->∃o',h'.get? b=some o'
structure XF(F:Addr->Prop)(H:Hp)(h:aaR)(e:Addr)(C:oR)(dct:Option Addr):Prop where
 new:F e
 un:H e=none
 obj:∃oe vs,h.get? e=some oe/\oe.cls=C/\oe.dict=dct/\oe.data = .fields vs/\
  (vs[1]?=some .none\/∃T oT ts,vs[1]?=some (.ref T)/\F T/\T≠e/\H T=none/\h.get? T=some oT/\oT.data = .fields ts/\ts[3]?=some .none)
theorem zK(o:Obj)(f):(o.mapFields f).dict=o.dict:=by
 let⟨c,d,a,s⟩:=o
 cases a<;>rfl
section
variable {M:Model}{A:aa2}{E:oR->Ad->Prop}{s:Ad}{base:aaR}{env:Env}{outer:List Env}{L e:Addr}
theorem qt{l:Obj}{vs:Array oR}{c:oR}{d:Bool}(t:A.frames=some (env::outer))(C:s.heap.FunFrames base (env::outer))(H:env.frame=some L)
  (y:s.heap.get? e=some l) (hd:l.data = .fields vs) (hsz:1<vs.size)
  (h:∀(h':aaR) (T:Addr) (u:Obj) (ts:Array oR),Stp (frs (env::outer)) e none s.heap h'->h'.get? e=some (l.mapFields (·.setIfInBounds 1 (.ref T)))->s.heap.objs.size≤T->h'.get? T=some u->u.data = .fields ts->ts[3]?=some .none->T≠e->Q () {s with heap:=h' }) :
  wpAny M A (do let fr <- frameOf env;let p <- entryPlaceOf L d;let ne <- ag3 c fr .none (acq L) .none p;ac5 (.ref e) 1 ne) (λ_ s'=>wpAny M A (af6 (.ref e) none) Q E s') E s:=by
 have G:e∉frs (env::outer):=λI=>by
  rcases C.mem I with⟨_,o,ho,r⟩;rw[y]at ho;cases ho;exact r vs hd
 refine aD (wpAny_frameOf_fun t C H λa s1=>aD (wpAny_entryPlaceOf λp q=>?_));refine aD (m:=ag3 _ _ _ _ _ _) (aa3 ?_ (q.sizeOk5 _ _ _ _ _));have w:a.get? e=some l:=(s1.2.1 e G).trans y;generalize g:({cls:=.type "traceback",dict:=none,data:=.fields ([c,.ref L,.none,acq L,.none]++(if p.isEmpty then aap 6 abM else p)).toArray}:Obj)=j;have i:j.data = .fields ([c,.ref L,.none,acq L,.none]++(if p.isEmpty then aap 6 abM else p)).toArray:=by rw[<-g]
 have B:(a.push j).get? e=some l:=AD _ w;refine adE B hd hsz ?_;have ne:a.objs.size≠e:=aa8 (aab w);have D:=abF hd (·.setIfInBounds 1 (aaZ a.objs.size));have z:=abi (acl (·.setIfInBounds 1 (aaZ a.objs.size))) B (acU D);have v:((a.push j).update e (acl (·.setIfInBounds 1 (aaZ a.objs.size)))).get? a.objs.size=some j:=by
  rw[aaV _ _ (abb ne)];exact aai a (by rw[<-g];rfl)
 unfold af6;refine aD (aaQ z D (x:=.ref a.objs.size) (by simp[hsz]) ?_);rw[if_pos (show(aaZ a.objs.size != abM)=true by rfl)];have k:3<([c,.ref L,.none,acq L,.none]++(if p.isEmpty then aap 6 abM else p)).toArray.size:=by
  rw[aay,aat];simp only[aaI]<;>omega
 refine adE v i k (h _ a.objs.size _ _ ?_ ?_ ?_ (abi _ v (acU (abF i _))) (abF i _) (by simp[k]) ne)
 .have go:∀b o,b≠e->a.get? b=some o->(((a.push j).update e (acl (·.setIfInBounds 1 (aaZ a.objs.size)))).update a.objs.size (acl (·.setIfInBounds 3 ((none:Option Addr).elim abM λf=>acq f)))).get? b=some o:=λb o n hb=>by
   rw[aaV _ _ (aa8 (aab hb)),aaV _ _ (abb n)];exact AD j hb
  refine⟨λb o hb n _ F=>go b o n ((s1.2.1 b F).trans hb),λb o hb n _=>?_,λb o hb=>?_⟩
  .obtain⟨sl,hs⟩:=s1.2.2 b o hb;exact⟨sl,go b _ n hs⟩
  .by_cases n:b=e
   .subst n;exact⟨_,by rw[aaV _ _ ne];exact z⟩
   .obtain⟨sl,hs⟩:=s1.2.2 b o hb;exact⟨_,go b _ n hs⟩
 .rw[aaV _ _ ne];exact z
 .rw[s1.1];exact Ge _
theorem vK(u:A.frames=some (env::outer))(w:s.heap.FunFrames base (env::outer))(B:env.frame=some L)
  (x:XF F H s.heap e C dct) (hok:∀T,s.heap.objs.size≤T->H T=none/\F T)
  (h:∀h' N,(∀T,N=some T->F T/\H T=none)->Stp (frs (env::outer)) e N s.heap h'->XF F H h' e C dct->Q () {s with heap:=h' }) :
  wpAny M A (ahL (.ref e) env) (λ_ s'=>wpAny M A (af6 (.ref e) none) Q E s') E s:=by
 let⟨new,un,oe,vs,p,K,i,hd,S⟩:=x;have eS:e∉frs (env::outer):=λG=>by
  rcases w.mem G with⟨_,o,ho,d⟩;rw[p]at ho;cases ho;exact d vs hd
 have l:∀{c:Obj}{v:Array oR}{h':aaR}{T:Addr}{g:Obj}{ts:Array oR},c.cls=C->c.dict=dct->c.data = .fields v->1<v.size->h'.get? e=some (c.mapFields (·.setIfInBounds 1 (.ref T)))->s.heap.objs.size≤T->h'.get? T=some g->g.data = .fields ts->ts[3]?=some .none->T≠e->XF F H h' e C dct:=
  λ{c v h' T g ts} Y W U X a1 a2 j m k q=>⟨new,un,_,_,a1,by rw[ahy];exact Y,by rw[zK];exact W,abF U _,.inr ⟨T,g,ts,by simp[X],(hok T a2).2,q,(hok T a2).1,j,m,k⟩⟩
 unfold ahL;simp only[B];rcases S with f|⟨T,g,ts,f,nT,O,I,t,r,J⟩
 .refine aD (aaQ p hd f ?_);rw[if_neg (by decide)];refine qt u w B p hd (abr.mp f).1 λh' T g ts st a1 a2 j m k q=>?_;exact h h' none (λ_ z=>by cases z) st (l K i hd (abr.mp f).1 a1 a2 j m k q)
 .refine aD (aaQ p hd f ?_);rw[if_pos (show(aaZ T != abM)=true by simp)];refine aD (aaQ t r J ?_);rw[if_neg (show ¬((abM==acq L)=true) by simp[acq])];refine aD (adE t r (abr.mp J).1 ?_);have a:∀b,b≠T->(s.heap.update T (acl (·.setIfInBounds 3 abM))).get? b=s.heap.get? b:=λb hb=>aaV _ _ (abb hb);have TS:T∉frs (env::outer):=λG=>by
   rcases w.mem G with⟨_,o,ho,d⟩;rw[t]at ho;cases ho;exact d ts r
  have y:(s.heap.update T (acl (·.setIfInBounds 3 abM))).FunFrames base (env::outer):=w.of_keeps λb o hb d=>⟨o,(a b λz=>by subst z;rw[t]at hb;cases hb;exact d ts r).trans hb,rfl⟩;refine qt (s:={s with heap:=s.heap.update T (acl (·.setIfInBounds 3 abM))}) u y B ((a e (abb O)).trans p) hd (abr.mp f).1 λh' Z V R st a1 a2 j m k q=>?_;have D:s.heap.objs.size≤Z:=aao (Nat.le_of_eq (adL ..).symm) a2;refine h h' (some T) (λT0 z=>by cases z;exact⟨nT,I⟩) ⟨λb o hb ne n P=>?_,λb o hb ne n=>?_,λb o hb=>?_⟩ (l K i hd (abr.mp f).1 a1 D j m k q)
  .exact st.same b o ((a b λz=>n (by rw[z])).trans hb) ne (λz=>by cases z) P
  .exact st.slot b o ((a b λz=>n (by rw[z])).trans hb) ne (λz=>by cases z)
  .by_cases bT:b=T
   .subst bT;exact st.there b _ (abi _ t (acU (abF r _)))
   .exact st.there b o ((a b bT).trans hb)
end
theorem Inv.stepN{s:Ad}{g':Array GenState}{t':Nat}{d':Drawn}{ch:List Addr}(I:Inv X pins σ H s)
  (f:∀b∈ch,(b∈X.ex\/X.s₀.heap.get? b=none)/\b≠X.env.locals/\(∀x c,X.env.cells.lookup x=some c->c≠b)/\∀p∈X.pn++pins,p.1≠b)
  (keep:∀b o,b≠X.env.locals->b∉X.fs->b∉ch->s.heap.get? b=some o->H b=none->h'.get? b=some o)
  (slot:∀b o,b≠X.env.locals->b∈X.fs->b∉ch->s.heap.get? b=some o->H b=none->∃C,h'.get? b=some {o with slots:=C}) (free:∀b o,b∉ch->s.heap.get? b=some o->H b=none->H' b=none)
  (there:∀b o,b∉ch->s.heap.get? b=some o->∃y,h'.get? b=some y)
  (tups:∀b xs,H b=some (.tup xs)->H' b=some (.tup xs)) (frzs:∀b o u,H b=some (.frz o u)->H' b=some (.frz o u)) (tbls:∀b ps,H b=some (.tbl ps)->∃more,H' b=some (.tbl (ps++more)))
  (ns:∀m,s.heap.Ns X.env.locals m->h'.Ns X.env.locals m) (hok:HOk X.prog X.w H' h') (F:aeN g') :
  Inv X pins σ H' {s with heap:=h',gens:=g',drawn:=d',toks:=t' }:=by
 have w:∀b o,X.s₀.heap.get? b=some o->b≠X.env.locals:=λb o e=>aaK (aak (aab e) I.ok.above);have j:∀b o,X.s₀.heap.get? b=some o->b∉X.ex->b∉ch:=λb o e h hb=>by
  rcases (f b hb).1 with z|z
  .exact h z
  .rw[z]at e;cases e
 have a:∀x c,X.env.cells.lookup x=some c->∀v,s.heap.IsCell c v->h'.IsCell c v:=by
  intro x c e v ⟨o,ho,hd⟩;have g:c∉ch:=λz=>(f c z).2.2.1 x c e rfl
  by_cases D:c∈X.fs
  .obtain⟨C,q⟩:=slot c o (I.cne x c e) D g ho (I.freeC x c e);exact⟨_,q,hd⟩
  .exact⟨o,keep c o (I.cne x c e) D g ho (I.freeC x c e),hd⟩
 refine⟨I.ok,I.os,F,⟨λb o e n hb h=>?_,λb o e n hb h=>?_,λb o e n h=>?_,λb o e h=>?_,λb xs e=>tups b xs (I.base.tups b xs e),λb o xs e=>frzs b o xs (I.base.frzs b o xs e),λb ps e=>?_⟩,?_,λx c e=>?_,?_,λx c e=>?_,λp hp=>?_,hok,I.len⟩
 .exact keep b o (w b o e) hb (j b o e h) (I.base.keep b o e n hb h) (I.base.free b o e n h)
 .obtain⟨C,t⟩:=I.base.slot b o e n hb h;let⟨B,A⟩:=slot b _ (w b o e) hb (j b o e h) t (I.base.free b o e n h);exact⟨B,A⟩
 .obtain⟨y,t⟩:=I.base.there b o e h;exact free b y (j b o e h) t (I.base.free b o e n h)
 .obtain⟨y,t⟩:=I.base.there b o e h;exact there b y (j b o e h) t
 .obtain⟨m1,t⟩:=I.base.tbls b ps e;let⟨m2,A⟩:=tbls b _ t;exact⟨m1++m2,by rw[A,ahg]⟩
 .obtain⟨m,hn,hl⟩:=I.loc;refine⟨m,ns m hn,λi x v t A E=>?_⟩;let⟨u,r,l⟩:=hl i x v t A E;refine⟨u,r,?_⟩;rcases l with l|⟨k,c,e,z⟩
  .exact .inl l
  .exact .inr ⟨k,c,e,a x c e _ z⟩
 .obtain⟨v,z⟩:=I.cell x c e;exact⟨v,a x c e v z⟩
 .obtain⟨m,⟨o,_,_,ho,_⟩,_⟩:=I.loc;exact free _ o (λz=>(f _ z).2.1 rfl) ho I.free
 .obtain⟨v,o,ho,hd⟩:=I.cell x c e;exact free c o (λz=>(f c z).2.2.1 x c e rfl) ho (I.freeC x c e)
 .obtain⟨e,n,ne,nf,d⟩:=I.pin p hp;have g:p.1∉ch:=λz=>(f p.1 z).2.2.2 p hp rfl;exact⟨keep p.1 p.2 ne nf g e n,free p.1 p.2 g e n,ne,nf,d⟩
def Yg(X:Cx)(a:List (Addr×Obj))(b:Addr):Prop:=X.s₀.heap.get? b=none/\b≠X.env.locals/\(∀x c,X.env.cells.lookup x=some c->c≠b)/\∀p∈X.pn++a,p.1≠b
theorem Inv.yg{s:Ad}(I:Inv X pins σ H s)(h:X.ex=[])(hb:s.heap.get? b=none):Yg X pins b:=by
 refine⟨?_,λz=>?_,λx c e z=>?_,λp hp z=>?_⟩
 .cases q:X.s₀.heap.get? b with
  |none=>rfl
  |some o=>
   let⟨a,e⟩:=I.base.there b o q (by simp_all)
   grind
 .obtain⟨m,⟨o,es,ep,ho,_⟩,_⟩:=I.loc
  grind
 .obtain⟨v,o,ho,_⟩:=I.cell x c e
  grind
 .have:=(I.pin p hp).1
  grind
theorem Inv.noted{s:Ad}(I:Inv X pins σ H s)(B:X.stack=X.env::X.outer)(g:Yg X pins e)(C:H e=none)(A:∀T,To=some T->Yg X pins T/\H T=none)
  (st:Stp (frs (X.env::X.outer)) e To s.heap h'):Inv X pins σ H {s with heap:=h' }:=by
 have ch:∀b,b∉e::To.toList->b≠e/\some b≠To:=λb hb=>⟨λz=>hb (by rw[z];exact aac),λz=>hb (by rw[<-z];simp)⟩;have un:Un (frs X.stack) (e::To.toList) H H s.heap h':=⟨λb o q n nf a=>st.same b o q (ch b a).1 (ch b a).2 (by rw[<-B];exact nf),λb o q n nf a=>st.slot b o q (ch b a).1 (ch b a).2,λb o q n a=>n,λb o q a=>st.there b o q,λ_ _ q=>q,λ_ _ _ q=>q,λb F q=>⟨#[],by rw[q];simp⟩⟩;have f:∀b∈e::To.toList,(b∈X.ex\/X.s₀.heap.get? b=none)/\b≠X.env.locals/\(∀x c,X.env.cells.lookup x=some c->c≠b)/\∀p∈X.pn++pins,p.1≠b:=λb hb=>by
  rcases aaq.mp hb with z|z
  .subst z;exact⟨.inr g.1,g.2.1,g.2.2.1,g.2.2.2⟩
  .have:=(A b (by simpa using z)).1;exact⟨.inr this.1,this.2.1,this.2.2.1,this.2.2.2⟩
 have hok:HOk X.prog X.w H h':=λb u q=>by
  have out:∀c v,H c=some v->c≠e/\some c≠To/\c∉frs (X.env::X.outer):=λc v z=>by
   refine⟨λy=>(by rw[y,C]at z;cases z),λy=>?_,λy=>?_⟩
   .rw[(A c y.symm).2]at z;cases z
   .rw[<-B]at y;rw[I.stkFree c y]at z;cases z
  refine(I.hok b u q).stay (λc v h y=>?_) (λ_ y=>y) λ_ _ y=>y;rcases h with z|z
  .subst z;let⟨l,j,t⟩:=out c u q;exact st.same c v y l j t
  .obtain⟨l,j,t⟩:=out c _ z;exact st.same c v y l j t
 let⟨m,⟨o,J,M,ho,r⟩,_⟩:=id I.loc;let⟨G,k⟩:=un.any ho I.free λz=>(f _ z).2.1 rfl;exact I.stepN (g':=s.gens) (d':=s.drawn) (t':=s.toks) (ch:=e::To.toList) f (λb o k hb h q n=>un.keep b o q n (λz=>(aaq.mp (I.stkSub b z)).elim k hb) h) (λb o _ _ h q n=>un.any q n h) (λb o h q n=>un.free b o q n h) (λb o h q=>un.there b o q h) un.tups un.frzs un.tbls (λK E=>by
  let⟨L,i,w,d,D⟩:=E;rw[ho]at d;cases d;exact⟨_,i,w,k,D⟩) hok I.bare
def CXE(P:aaA)(w:World):CXT:=λouter H s E e a=>∃f C d c,e = .ref f/\a.os=s.os/\aeN a.gens/\Un (frs outer) [] H c s.heap a.heap/\HOk P w c a.heap/\XF (λb=>s.heap.get? b=none) c a.heap f C d/\E C d c
theorem XF.imp{d:Addr->Prop}(x:XF F H h e C dct)(k:∀b,F b->d b):XF d H h e C dct:=by
 let⟨n,u,i,vs,f,j,hd,g,t⟩:=x;refine⟨k _ n,u,i,vs,f,j,hd,g,?_⟩;rcases t with t|⟨T,o,ts,a,b,c⟩
 .exact .inl t
 .exact .inr ⟨T,o,ts,a,k _ b,c⟩
section
variable {P:aaA}{w:World}{K:Io}{mg:Str->Option oR}{base:aaR}{N:List Str}{qual:Str}{scope:Scope}{f:Addr}{c:oR}{A:aa2}{outer:List Env}{a:Ad}{d:Hp}{E:XK}
theorem FV{s:Ad}(I:Inv (cxOf (CXE P w) P w K mg base N qual scope f c A outer a d E) pins σ H s)(x:XF (Yg (cxOf (CXE P w) P w K mg base N qual scope f c A outer a d E) pins) H s.heap e C dct)(j:E C dct H) :
  (cxOf (CXE P w) P w K mg base N qual scope f c A outer a d E).xe (.ref e) s:=by
 refine aD (vK I.ok.frames I.stack rfl x (λT i=>⟨I.hok.fresh i,I.yg rfl (aco i)⟩) λl m h st k=>?_);have g:=I.noted rfl x.new x.un h st;exact⟨e,C,dct,H,rfl,g.os,g.bare,g.base,g.hok,k.imp λb z=>z.1,j⟩
end
theorem Inv.raised{s:Ad}{E:XK}{e:oR}(I:Inv X pins σ H s)(f:X.ex=[])(h:CXE X.prog X.w X.stack H s E e s'):∃c C d a,e = .ref c/\Inv X pins σ a s'/\XF (Yg X pins) a s'.heap c C d/\E C d a/\Un (frs X.stack) [] H a s.heap s'.heap:=by
 let⟨c,C,d,a,rfl,ho,i,un,hok,x,g⟩:=h;exact⟨c,C,d,a,rfl,I.call' ho un hok i (λb z=>by cases z),x.imp λb hb=>I.yg f hb,g,un⟩
def ExcD(K:Kd)(H e:Hp)(C:oR)(a:Option Addr)(d:dL):Prop:=∃c b k,d = .dict ((.none,.str c)::k)/\C = .ref b/\ClsN K c b/\((a=none/\k=[])\/∃dx x,a=some dx/\e dx=some (.xd x)/\H dx=none/\DenXF K e k x)
theorem ExcD.back{be:Al}{a:Hp}{d:dL}(h:ExcD K H H' C dct d)(x:Ext n be a α H):ExcD K a H' C dct d:=by
 let⟨c,i,k,f,m,b,z⟩:=h;refine⟨c,i,k,f,m,b,?_⟩;rcases z with z|⟨dx,p,g,l,r,j⟩
 .exact .inl z
 .refine .inr ⟨dx,p,g,l,?_,j⟩
  cases q:a dx with
  |none=>rfl
  | some o=>
   by_cases hb:dx∈ads be
   .obtain⟨o',e⟩:=x.old dx hb
    grind
   .have:=x.frm dx o q hb
    grind
structure XL(X:Cx)(Ex:dL->MSt->Prop):Prop where
 go:∀(pins:List (Addr×Obj)) (σ:St) (H H':Hp) (α:Al) (m:MSt) (d:dL) (s':Ad) (e:Addr) (C:oR) (dct:Option Addr),Rel X.kx α m σ H->Ex d m->Pers H H'->Ext 0 α H [] H'->Inv X pins σ H' s'->XF (Yg X pins) H' s'.heap e C dct->ExcD X.kd H H' C dct d->X.xe (.ref e) s'
 ex:X.ex=[]
theorem RelAs.mem:∀{as:List Ag}{vs:List V}{β:Al},RelAs K H as vs β->∀{a:Addr},a∈ads β->∃o,H a=some o
 |_,_,_,.nil,_,h=>by cases h
 |_,_,_,.imm _ t,_,h=>t.mem h
 |_,_,_,.own g t,a,h=>by
  rcases aa4.mp (h)with z|z
  .obtain⟨o,e,_⟩:=g.mem z;exact⟨o,e⟩
  .exact t.mem z
 |_,_,_,.tr g _ t,a,h=>by
  rcases aa4.mp (h)with z|z
  .obtain⟨o,e,_⟩:=g.mem z;exact⟨o,e⟩
  .exact t.mem z
abbrev SpX:=List Ag->(R->List (List dL)->Prop)->(dL->Prop)->Prop
def spOfX(K:Kd)(n:Nat)(sp:SpX):Sp:=λvs H Q E=>∃e b f g,e.length=n/\(ads b).Nodup/\RelAs K H e vs b/\sp e f g/\(∀r o v a,f r o->qj K a b o->RelR K b H a r v->Frm b H a->Q v a)/\∀d C c a,g d->ExcD K H a C c d->Ext 0 b H [] a->E C c a
theorem spOfX.len{sp:SpX}{vs:List V}{Q:VK}{E:XK}(h:spOfX K n sp vs H Q E):vs.length=n:=by
 let⟨c,b,d,e,a,_,r,_⟩:=h;rw[<-r.length];exact a
structure FnX(P:aaA)(w:World)(K:Io)(mg:Str->Option oR)(base:aaR)(x:Str)(k n:Nat)(sp:SpX):Prop where
 ex:∃(f:Addr) (fd:abZ) (ps:List Str),FnOk P w K mg base (CXE P w) k f fd ps (spOfX ⟨K,w⟩ n sp)/\mg x=some (.ref f)/\abP K (.ref f)=true/\Binds K fd ps []
 ar:∀as Kc Ke,sp as Kc Ke->as.length=n
abbrev Cx.wEb(X:Cx)(b:EB):Cx:={X with eb:=b}
section
variable {X:Cx}{p:List (Addr×Obj)}{a:St}{H:Hp}{s:Ad}{b:EB}
def Cx.Ok.wEb(ok:X.Ok)(b:EB):(X.wEb b).Ok:=⟨ok.mod,ok.kind,ok.glob,ok.blt,ok.above,ok.inj,ok.has,ok.cab,ok.hd,ok.frames,ok.stk,ok.exf,ok.bs,ok.bsz,ok.noex,ok.exfs,ok.funs,ok.frf⟩
def Cx.Ok.unEb(ok:(X.wEb b).Ok):X.Ok:=⟨ok.mod,ok.kind,ok.glob,ok.blt,ok.above,ok.inj,ok.has,ok.cab,ok.hd,ok.frames,ok.stk,ok.exf,ok.bs,ok.bsz,ok.noex,ok.exfs,ok.funs,ok.frf⟩
def Inv.wEb(I:Inv X p a H s)(b:EB):Inv (X.wEb b) p a H s:=⟨I.ok.wEb b,I.os,I.bare,I.base,I.loc,I.cell,I.free,I.freeC,I.pin,I.hok,I.len⟩
def Inv.unEb(I:Inv (X.wEb b) p a H s):Inv X p a H s:=⟨I.ok.unEb,I.os,I.bare,I.base,I.loc,I.cell,I.free,I.freeC,I.pin,I.hok,I.len⟩
theorem SP.unEb{f:Flow}(h:SP (X.wEb b) p D f s'):SP X p D f s':=by
 cases f with
 |next=>let⟨c,d,I,q⟩:=h;exact⟨c,d,I.unEb,q⟩
 |brk=>let⟨c,d,I,q⟩:=h;exact⟨c,d,I.unEb,q⟩
 |cont=>let⟨c,d,I,q⟩:=h;exact⟨c,d,I.unEb,q⟩
 |ret u=>let⟨v,c,d,I,r,q⟩:=h;exact⟨v,c,d,I.unEb,r,q⟩
theorem PSs.unEb{st:List Stmt}{t:TS}(h:PSs (X.wEb b) st t):PSs X st t:=λp s a H D I c=>ab9 (h p s a H D (I.wEb b) c) (λ_ _ q=>q.unEb) λ_ _ z=>z
end
theorem UF{K:Io}{base:aaR}{qual:Str}{scope:Scope}{f:Addr}{i:oR}{outer:List Env}{s:Ad}{E:XK}{np:Nat}{β:Al}{c:dL->Prop}(h:∀d C a b,c d->ExcD ⟨K,w⟩ H b C a d->Ext 0 β H [] b->E C a b) :
  XL ((cxOf (CXE P w) P w K mg base N qual scope f i A outer s H E).wEb ⟨np,β,H⟩) λd _=>c d:=
 ⟨λp n o b j m d l e C a R k _ g I x xd=>FV I.unEb x (h d C a b k (xd.back R.ebx) ((R.ebx.less (abv _)).trans g)),rfl⟩
theorem Vd{K:Kx}{nN:Nat}{w:WS}{as:List Ag}{vs:List V}{β:Al}{j:R->List (List dL)->Prop}{Q:VK}(l:K.eb=⟨(agO as).length,β,H⟩)(y:as.length=n)(nd:(ads β).Nodup)(c:RelAs K H as vs β)(f:∀r o v b,j r o->qj K b β o->RelR K β H b r v->Frm β H b->Q v b)(t:N.length=nN)(k:n≤nN)
  (s:w {nx:=λm=>j (.imm .none) (m.os.take m.np),rt:=λr m=>retK j m r} (gl nN as)):tMS K w {nx:=λ_ b=>Q .non b,rt:=Q} (start N vs) H:=by
 have A:=qw t k y nd c (by rw[l];exact Ge _) (by rw[l];exact⟨rfl,Frm.refl _ _,λ_ h=>.inl h,λa ha=>RelAs.mem c ha⟩);refine⟨β,gl nN as,_,A,s,⟨λg u i b q e d x=>?_,λr g u i v b q e d rr x=>?_,λ_ _ _ _ z=>z.elim,λ_ _ _ _ z=>z.elim⟩⟩
 .obtain⟨O,F,_⟩:=j4 c e d x;exact f _ _ .non b q O qZ F
 .obtain⟨O,F,eβ⟩:=j4 c e d x;have p:=retK.ok q;exact f _ _ v b p.2 O (y8 e d x eβ rr p.1.at) F
theorem Fun.okX{K:Io}{base:aaR}{x qual:Str}{st:Stmt}{f:Addr}{fd:abZ}{k:Nat}{sp:Sp}{CX:CXT}(F:Fun K x qual st f fd)(S:FnScope N ps (ac st))(len:∀vs H Q E,sp vs H Q E->vs.length=ps.length)
  (h:∀(c:oR) (A:aa2) (outer:List Env) (s:Ad) (H:Hp) (vs:List V) (Q:VK) (E:XK),Room k (A.deeper (ad9 qual (ac st) s.heap.objs.size f c))->sp vs H Q E ->
   ∃t,PSs (cxOf CX P w K mg base N qual (ac st) f c A outer s H E) (bV st) t/\t {nx:=λ_ e=>Q .non e,rt:=Q} (start N vs) H):FnOk P w K mg base CX (k+1) f fd ps sp:=by
 let⟨g,i,kV,d,pm,an,c,ct,o,rfl,l,a⟩:=F.ex;exact T8 l a S len λA outer s H vs Q E hr b=>h c A outer s H vs Q E hr b
theorem T7{K:Io}{base:aaR}{x:Str}{st:Stmt}{nN k:Nat}{sp:SpX}(D:DefM K mg x st ps)(S:FnScope N ps (ac st))(t:ps.length=n)(u:N.length=nN)(o:n≤nN)(ar:∀as e g,sp as e g->as.length=n)
  (a:∀(c:oR) (A:aa2) (outer:List Env) (s:Ad) (H:Hp) (E:XK) (f:Addr) (b:EB) (g:dL->Prop),Room k (A.deeper (ad9 x (ac st) s.heap.objs.size f c))->XL ((cxOf (CXE P w) P w K mg base N x (ac st) f c A outer s H E).wEb b) (λd _=>g d) ->
   ∃j,MSs ((cxOf (CXE P w) P w K mg base N x (ac st) f c A outer s H E).wEb b) (bV st) j/\∀as e,as.length=n->sp as e g->j {nx:=λm=>e (.imm .none) (m.os.take m.np),rt:=λr m=>retK e m r} (gl nN as)) :
  FnX P w K mg base x (k+1) n sp:=by
 let⟨f,fd,F,y,hb⟩:=D.ex;refine⟨⟨f,fd,ps,F.okX S (λvs H Q E h=>by rw[t];exact h.len) (λc A outer s H vs Q E hr h=>?_),y,F.kp,hb⟩,ar⟩;let⟨as,C,e,g,p,nd,q,l,i,z⟩:=h;let⟨j,B,v⟩:=a c A outer s H E f _ g hr (UF z);exact⟨_,PSs.unEb B,Vd rfl p nd q i u o (v as e p l)⟩
section
variable {X:Cx}{a:Expr}{es:List Expr}{w:WA}{pos p:Pos}{k n:Nat}{sp:SpX}{x:Str}{E:dL->MSt->Prop}
def Cw(sp:SpX)(E:dL->MSt->Prop)(w:WA):WE:=λm K=>w m λrs m1=>match fy m1 rs with
 |some (as,ks)=>ks.Nodup/\sp as (λr o=>K (mapR ks r) {m1 with os:=cr m1.os ks o}) λd=>E d m1
 |none=>False
theorem Fh(F:FnX X.prog X.w X.K X.mg X.base x k n sp)(hx:XL X E)(hr:Room k X.A)(ha:MA X (a::es) w)(hg:Gl X x:=by rfl)(Y:(x==("__debug__" : Str))=false:=by decide)(he:OR (a::es) X.env=(false,eval a X.env)::OR es X.env:=by first|exact aV rfl|rfl)(W:(abw pos (OR es X.env)).any (·.1)=false:=by rfl) :
  ME X (.Call (.Name x p) (a::es) [] pos) (Cw sp E w):=by
 let⟨f,fd,ps,G,U,hk,hb⟩:=F.ex;intro l s σ H Q I h;let⟨t,m,Kc,Rl,hw,Z⟩:=h;refine acQ (iG I hg U ?_ Y);refine afj (h₀:=X.base) I.ok.mod.kin hk (thn (ha pos l s σ H _ I ⟨t,m,_,Rl,hw,λrs m1 vs c y n1 R rr N=>(⟨m1,rs,y,n1,R,rr,N⟩:∃m1 rs,(match fy m1 rs with|some (as,ks)=>ks.Nodup/\sp as _ (λd=>E d m1)|none=>False)/\m1.np=m.np/\Rel X.kx t m1 σ c/\RelRs X.kx t H c rs vs/\Frm t H c)⟩) λM s1 ⟨vs,c,B,r,q⟩=>⟨B.kIn,?_⟩) he W;let⟨m1,rs,y,n1,R,rr,N⟩:=q
 cases e:fy m1 rs with
 |none=>rw[e]at y;exact y.elim
 | some q=>
  let⟨as,ks⟩:=q;rw[e]at y;let⟨nd,K⟩:=y;let⟨L,ra,P⟩:=gG R rr e;have hQ:spOfX X.kd n sp vs c (λv g=>Q v g) λC i g=>∃d,E d m1/\ExcD X.kd c g C i d/\Ext 0 L c [] g:=
   ⟨as,L,_,_,F.ar _ _ _ K,fe R.nd nd P,ra,K,λr outs v g V O S F=>by
    let⟨T,F2⟩:=uI R nd P O F;exact Z _ _ v g V n1 T ((u4 P S).base R N) (N.trans F2),λd C i g k xd J=>⟨d,k,xd,J⟩⟩
  have hl:M.length=ps.length:=by rw[<-r.length];exact G.len _ _ _ _ hQ
  refine agc (adK (G.run X.A X.stack s1 c ⟨M,[]⟩ M vs _ _ hr B.env0 (by have:=hb s1 M B.kIn (by rw[aaO];exact hl);rwa[aaO]at this) r hQ) λr s' A=>?_)
  cases r with
  | error e=>
   let⟨ea,C,i,g,rfl,I',x,⟨d,k,xd,J⟩,un⟩:=B.raised hx.ex A;have sub:∀a∈ads L,a∈ads t:=λa ha=>by
    let⟨j,ao,ej,U⟩:=im ha;let⟨k',_,e2⟩:=Paired.get2 P ej;exact iY e2 U
   refine hx.go l σ c g t m1 d s' ea C i R k ⟨un.tups,un.frzs⟩ ⟨rfl,λb o eb nb=>J.frm b o eb λz=>nb (sub b z),λa ha=>(by cases ha),λa ha=>?_⟩ I' x xd
   by_cases D:a∈ads L
   .exact J.old a D
   .obtain⟨o,eo,_⟩:=R.mem ha;exact⟨o,J.frm a o eo D⟩
  |ok fl=>
   cases fl with
   |ret u=>exact B.after A
   |next=>exact abO A
   |brk=>exact abO A
   |cont=>exact abO A
end
theorem ObjOk.there{o:HO}(x:ObjOk P w H h a o):∃ob,h.get? a=some ob:=by
 cases o with
 |lst b=>let⟨_,_,_,_,e⟩:=x;exact⟨_,e⟩
 |tup b=>let⟨_,_,_,o,e,_⟩:=x;exact⟨_,e⟩
 |dK k=>let⟨_,_,_,_,o,_,_,e,_⟩:=x;exact⟨_,e⟩
 |dT k=>let⟨_,_,_,_,o,_,_,e,_⟩:=x;exact⟨_,e⟩
 |set S n=>let⟨o,_,_,_,e,_⟩:=x;exact⟨_,e⟩
 |ins C dx fs=>let⟨_,_,_,e,_⟩:=x;exact⟨_,e⟩
 |own y=>let⟨_,e⟩:=x;exact⟨_,e⟩
 |xd fs=>let⟨_,⟨_,_,_,e,_⟩,_⟩:=x;exact⟨_,e⟩
 |rng l d=>let⟨_,_,_,e⟩:=x;exact⟨_,e⟩
 |frz ob u=>let⟨e,_⟩:=x;exact⟨_,e⟩
 |tbl p=>exact⟨_,(x)⟩
 |met f y=>exact⟨_,(x)⟩
 |ext c=>let⟨_,⟨_,e⟩,_⟩:=x;exact⟨_,e⟩
theorem HOk.nil(x:HOk P w H h)(e:h.get? a=none):H a=none:=by
 cases q:H a with
 |none=>rfl
 |some u=>
  let⟨ob,z⟩:=(x a u q).there
  grind
structure ClsX(K:Io)(mg:Str->Option oR)(x:Str)(C:Addr):Prop where
 mg:mg x=some (.ref C)
 ns:aal K aag x=some (some (.ref C))
 ok:ahc K C [.type "ValueError",.type "Exception",.type "BaseException",.type "object"] "ValueError.__new__" = true
section
variable {X:Cx}{f:List (Addr×Obj)}{g:St}{H:Hp}{s:Ad}
theorem Inv.track{a:Obj}(I:Inv X f g H s)(y:Yg X f e)(i:H e=none)(h:s.heap.get? e=some a):Inv X f g (upd H e (.frz a (.own 0))) s:=by
 have ne:∀b u,H b=some u->b≠e:=λb u q z=>by rw[z,i]at q;cases q
 have hok:HOk X.prog X.w (upd H e (.frz a (.own 0))) s.heap:=λb u q=>by
  by_cases hb:b=e
  .subst hb;rw[ak]at q;cases q;exact⟨h,a,h⟩
  .rw[ag hb]at q;exact(I.hok b u q).stay (λ_ _ _ z=>z) (λc z=>by rw[ag (ne c _ z)];exact z) λc k z=>by rw[ag (ne c _ z)];exact z
 refine I.stepN (h':=s.heap) (g':=s.gens) (d':=s.drawn) (t':=s.toks) (ch:=[e]) (λb hb=>?_) (λb o _ _ _ q _=>q) (λb o _ _ _ q _=>⟨o.slots,q⟩) (λb o j q n=>?_) (λb o _ q=>⟨o,q⟩) (λb x q=>?_) (λb o u q=>?_) (λb p q=>⟨#[],?_⟩) (λm d=>d) hok I.bare
 .cases aah.mp hb
  exact⟨.inr y.1,y.2.1,y.2.2.1,y.2.2.2⟩
 .rw[ag λz=>j (by rw[z];exact aah.mpr rfl)];exact n
 .rw[ag (ne b _ q)];exact q
 .rw[ag (ne b _ q)];exact q
 .rw[ag (ne b _ q),q];simp
theorem Inv.frzX{xs:List (Str×V)}(I:Inv X f g H s)(h:H a=some (.xd xs)):∃o,Inv X f g (upd H a (.frz o (.xd xs))) s:=by
 let⟨ob,e⟩:=(I.hok a _ h).there;refine⟨ob,I.un (h':=s.heap) (t':=s.toks) ⟨λb ob q _ _ _=>q,λb ob q _ _ _=>⟨ob.slots,q⟩,λb ob q z _=>?_,λb ob q _=>⟨ob,q⟩,λb y q=>?_,λb ob u q=>?_,λb p q=>⟨#[],?_⟩⟩ λb u q=>?_⟩
 .rw[ag (abb (bg h z))];exact z
 .rw[ag (jf q h (by simp))];exact q
 .rw[ag (jf q h (by intro z;cases z))];exact q
 .rw[ag (jf q h (by intro z;cases z)),q];simp
 .by_cases hb:b=a
  .subst hb;rw[ak]at q;cases q;exact⟨e,(I.hok b _ h).stay (λ_ _ _ z=>z) (λc z=>by rw[ag (jf z h (by intro z;cases z))];exact z) λc y z=>by rw[ag (jf z h (by simp))];exact z⟩
  .rw[ag hb]at q;exact(I.hok b u q).stay (λ_ _ _ z=>z) (λc z=>by rw[ag (jf z h (by intro z;cases z))];exact z) λc y z=>by rw[ag (jf z h (by simp))];exact z
theorem jc{M:Model}{x:Str}{pos:Pos}(I:Inv X f g H s)(R:X.N.Nodup)(G:X.N[i]?=some x)(L:X.env.scope.names.lookup x=some .local)
  (h:∀s',Inv X f (g.set i none) H s'->Q () s'):wpAny M A (do bindName X.env x .none;unbindBehindTheSuite X.env x pos) Q E s:=by
 let⟨m,O,P⟩:=id I.loc;have r:(X.env.scope.kind == .class||(X.env.scope.kind == .module&&X.env.locals != X.env.globals))=false:=by rw[I.ok.kind];rfl
 have l:∀b o,X.s₀.heap.get? b=some o->b≠X.env.locals:=λb o e=>aaK (aak (aab e) I.ok.above);refine wpAny_nameGoes_keeps L O r λS v C hs=>h _ ⟨I.ok,I.os,I.bare,⟨λb o e n hb t=>?_,λb o e n hb t=>?_,I.base.free,λb o e t=>?_,I.base.tups,I.base.frzs,I.base.tbls⟩,⟨_,C,λj y K a B F=>?_⟩,λy c e=>?_,I.free,I.freeC,λp hp=>?_,λb u q=>?_,by simpa using I.len⟩
 .exact(hs.2 b (l b o e)).trans (I.base.keep b o e n hb t)
 .obtain⟨sl,a⟩:=I.base.slot b o e n hb t;exact⟨sl,(hs.2 b (l b o e)).trans a⟩
 .obtain⟨o',a⟩:=I.base.there b o e t;exact⟨o',(hs.2 b (l b o e)).trans a⟩
 .by_cases hj:j=i
  .subst hj;rw[aaM (show j<g.length by rw[I.len];exact(DL.mp a).1)]at B;cases B
  .rw[aaz (abb hj)]at B;let⟨N,J,q⟩:=P j y K a B F;refine⟨N,J,?_⟩;rcases q with⟨k,e⟩|⟨k,c,e,z⟩
   .refine .inl ⟨k,?_⟩;have:y≠x:=λe=>hj (o4 R a (e▸G));simp[this,e]
   .exact .inr ⟨k,c,e,z.sameBut hs (I.cne y c e)⟩
 .obtain⟨D,z⟩:=I.cell y c e;exact⟨D,z.sameBut hs (I.cne y c e)⟩
 .obtain⟨e,n,ne,nf,d⟩:=I.pin p hp;exact⟨(hs.2 p.1 ne).trans e,n,ne,nf,d⟩
 .refine(I.hok b u q).stay (λc D w z=>(hs.2 c ?_).trans z) (λ_ z=>z) λ_ _ z=>z;rintro rfl;rcases w with rfl|w
  .rw[I.free]at q;cases q
  .rw[I.free]at w;cases w
end
abbrev Cx.tr(X:Cx)(xe:oR->Ad->Prop)(pn:List (Addr×Obj))(b:EB):Cx:={X with xe:=xe,pn:=pn,eb:=b}
abbrev Cx.sui(X:Cx)(e:Addr)(xe:oR->Ad->Prop):Cx:={X with A:=X.A.mark (some (.ref e)),calm:=false,xe:=xe}
section
variable {X:Cx}{c d:List (Addr×Obj)}{g:St}{H:Hp}{s:Ad}{xe:oR->Ad->Prop}{b:EB}{e:Addr}
theorem Inv.tr(I:Inv X c g H s):Inv (X.tr xe (X.pn++c) b) [] g H s:=
 ⟨⟨I.ok.mod,I.ok.kind,I.ok.glob,I.ok.blt,I.ok.above,I.ok.inj,I.ok.has,I.ok.cab,I.ok.hd,I.ok.frames,I.ok.stk,I.ok.exf,I.ok.bs,I.ok.bsz,I.ok.noex,I.ok.exfs,I.ok.funs,I.ok.frf⟩,I.os,I.bare,I.base,I.loc,I.cell,I.free,I.freeC,λp hp=>I.pin p (by rwa[aaO]at hp),I.hok,I.len⟩
theorem Inv.untr(I:Inv (X.tr xe (X.pn++c) b) d g H s):Inv X c g H s:=
 ⟨⟨I.ok.mod,I.ok.kind,I.ok.glob,I.ok.blt,I.ok.above,I.ok.inj,I.ok.has,I.ok.cab,I.ok.hd,I.ok.frames,I.ok.stk,I.ok.exf,I.ok.bs,I.ok.bsz,I.ok.noex,I.ok.exfs,I.ok.funs,I.ok.frf⟩,I.os,I.bare,I.base,I.loc,I.cell,I.free,I.freeC,λp hp=>I.pin p (adB _ hp),I.hok,I.len⟩
theorem Yg.untr(y:Yg (X.tr xe (X.pn++c) b) d a):Yg X c a:=⟨y.1,y.2.1,y.2.2.1,λp hp=>y.2.2.2 p (adB _ hp)⟩
theorem SP.untr{f:Flow}(h:SP (X.tr xe (X.pn++c) b) [] D f s'):SP X c D f s':=by
 cases f with
 |next=>let⟨a,i,I,q⟩:=h;exact⟨a,i,I.untr,q⟩
 |brk=>let⟨a,i,I,q⟩:=h;exact⟨a,i,I.untr,q⟩
 |cont=>let⟨a,i,I,q⟩:=h;exact⟨a,i,I.untr,q⟩
 |ret u=>let⟨v,a,i,I,r,q⟩:=h;exact⟨v,a,i,I.untr,r,q⟩
def Inv.sui(I:Inv X c g H s):Inv (X.sui e xe) c g H s:=
 ⟨⟨I.ok.mod,I.ok.kind,I.ok.glob,I.ok.blt,I.ok.above,I.ok.inj,I.ok.has,I.ok.cab,λz=>(by cases z),I.ok.frames,I.ok.stk,I.ok.exf,I.ok.bs,I.ok.bsz,I.ok.noex,I.ok.exfs,I.ok.funs,I.ok.frf⟩,I.os,I.bare,I.base,I.loc,I.cell,I.free,I.freeC,I.pin,I.hok,I.len⟩
def Inv.unsui(I:Inv (X.sui e xe) c g H s)(ok:X.Ok):Inv X c g H s:=⟨ok,I.os,I.bare,I.base,I.loc,I.cell,I.free,I.freeC,I.pin,I.hok,I.len⟩
end
def JB:Option R->Option R
 |some (.imm d)=>some (.imm d)
 |_=>none
def MSt.dropO(m:MSt):MSt:=⟨m.vs.map JB,[],0⟩
def MSt.unV(m:MSt)(i:Nat):MSt:={m with vs:=m.vs.set i none}
section
variable {K:Kx}{b:Al}{m:MSt}{a:St}{H c:Hp}
theorem Rel.drop(R:Rel K b m a H)(p:Pers H c)(h0:K.eb.np=0)(x:Ext 0 K.eb.be K.eb.H [] c):Rel K [] m.dropO a c:=by
 refine⟨adh,rfl,λk l ds z=>by simp at z,by show a.length=(m.vs.map JB).length;rw[gE];exact R.vlen,λi r z=>?_,Ge _,by rw[h0];exact Ge _,by rw[h0];exact x⟩;have f:(m.vs.map JB)[i]?=some _:=z;rw[aaa]at f
 cases q:m.vs[i]? with
 |none=>rw[q]at f;cases f
 | some o=>
  rw[q]at f;have e:=aam f
  cases o with
  |none=>cases e
  | some h=>
   cases h with
   |imm d=>
    cases e;let⟨v,g,j⟩:=R.var i _ q;exact⟨v,g,Den.mono p j⟩
   |obj _=>cases e
   | «at» _ _=>cases e
   |new _=>cases e
   |newT _=>cases e
theorem Rel.unV(R:Rel K b m a H)(i:Nat):Rel K b (m.unV i) (a.set i none) H:=by
 refine⟨R.nd,R.len,R.own,?_,λj r e=>?_,R.npl,R.ebl,R.ebx⟩
 .show(a.set i none).length=(m.vs.set i none).length;rw[aba,aba];exact R.vlen
 .have e':(m.vs.set i none)[j]?=some _:=e
  by_cases h:i=j
  .subst h
   by_cases d:i<m.vs.length
   .simp_all
   .simp_all
  .rw[aaz h]at e'⊢;exact R.var j r e'
theorem Rel.reEb{d:Kx}(R:Rel K b m a H)(e:d.toKd=K.toKd)(l:d.eb.np≤m.np)(f:Ext d.eb.np d.eb.be d.eb.H b H):Rel d b m a H:=
 ⟨R.nd,R.len,λk j ds g h=>by rw[e];exact R.own k j ds g h,R.vlen,λi r z=>by rw[e];exact R.var i r z,R.npl,l,f⟩
end
theorem Stp.mono{S a:List Addr}(x:Stp S e To h h')(k:∀b∈S,b∈a):Stp a e To h h':=⟨λb o q n1 n2 n=>x.same b o q n1 n2 λz=>n (k b z),x.slot,x.there⟩
theorem GL{M:Model}{s:Ad}(x:XF F H s.heap e C dct)
  (h:∀h' u,(∀T,u=some T->F T/\H T=none)->Stp [] e u s.heap h'->XF F H h' e C dct->Q () {s with heap:=h' }):wpAny M A (af6 (.ref e) none) Q E s:=by
 let⟨new,un,r,vs,i,t,c,hd,v⟩:=x;unfold af6;rcases v with d|⟨T,y,ts,d,m,k,g,p,j,w⟩
 .refine aD (aaQ i hd d ?_);rw[if_neg (by decide)];exact Dl (h s.heap none (λ_ z=>by cases z) ⟨λ_ _ q _ _ _=>q,λ_ o q _ _=>⟨o.slots,q⟩,λ_ o q=>⟨o,q⟩⟩ ⟨new,un,r,vs,i,t,c,hd,.inl d⟩)
 .refine aD (aaQ i hd d ?_);have sz:3<ts.size:=(abr.mp w).1;refine adE p j sz ?_;have a:∀b,b≠T->(s.heap.update T (acl (·.setIfInBounds 3 ((none:Option Addr).elim abM λf=>acq f)))).get? b=s.heap.get? b:=λb hb=>aaV _ _ (abb hb);have n:=abi (acl (·.setIfInBounds 3 ((none:Option Addr).elim abM λf=>acq f))) p (acU (abF j _));refine h _ (some T) (λB z=>by cases z;exact⟨m,g⟩) ⟨λb o q _ n2 _=>(a b λz=>n2 (by rw[z])).trans q,λb o q _ n2=>⟨o.slots,(a b λz=>n2 (by rw[z])).trans q⟩,λb o q=>?_⟩ ⟨new,un,r,vs,(a e (abb k)).trans i,t,c,hd,.inr ⟨T,_,_,d,m,k,g,n,abF j _,by simp[sz]⟩⟩
  by_cases l:b=T
  .subst l;exact⟨_,n⟩
  .exact⟨o,(a b l).trans q⟩
def SubX(K:Io)(b c:Str):Prop:=∃a C:Addr,aal K aag b=some (some (.ref a))/\aal K aag c=some (some (.ref C))/\aic K (.ref a) (.ref C)=some true
def wTry(K:Io)(i:Nat)(c:Str)(e:(dL->MSt->Prop)->WS)(w:WS):WS:=λD m=>m.np=0/\
 e (λd b=>∃a k,d = .dict ((.none,.str a)::k)/\SubX K a c/\w {nx:=λm2=>D.nx (m2.unV i),rt:=D.rt,bk:=λm2=>D.bk (m2.unV i),ct:=λm2=>D.ct (m2.unV i)} (b.dropO.setV i (.imm d))) D m
theorem Tf{Q A:List Stmt}{J:Stmt}{n:Str}{cp hp pos:Pos}{Cc:Addr}{wb:(dL->MSt->Prop)->WS}{ws:WS}(hm:X.mg c=some (.ref Cc))(hns:aal X.K aag c=some (some (.ref Cc)))(hN:X.N.Nodup)(hi:X.N[i]?=some n)(hk:X.env.scope.names.lookup n=some .local)
  (hb:∀(t:oR->Ad->Prop) (pn:List (Addr×Obj)) (b:EB) (Ex':dL->MSt->Prop),XL (X.tr t pn b) Ex'->MSs (X.tr t pn b) Q (wb Ex')) (hs:∀(e:Addr) (t:oR->Ad->Prop),MSs (X.sui e t) (J::A) ws)
  (hg:Gl X c:=by rfl) (hdb:(c==("__debug__" : Str))=false:=by decide) (hex:X.ex=[]:=by rfl) (hS:X.stack=X.env::X.outer:=by rfl) (hL:X.env.frame=some X.env.locals:=by rfl) :
  MS X (.Try Q [.ExceptHandler (some (.Name c cp)) (some n) (J::A) hp] [] [] pos) (wTry X.K i c wb ws):=by
 intro p s S H D I h;let⟨E,m,De,Rl,⟨np0,hw⟩,k⟩:=h;have O:X.kx.eb.np=0:=by have:=Rl.ebl;omega
 refine wpAny_Try_except ?_;generalize hxe:(λ(e:oR) (s₁:Ad)=>wpAny (model X.prog X.w) X.A (ahL e X.env) (λ_ s₂=>wpAny (model X.prog X.w) X.A (af6 e none) (λ_ s₃=>wpAny (model X.prog X.w) X.A (handleBy e X.env [.ExceptHandler (some (.Name c cp)) (some n) (J::A) hp]) (SP X p D) X.xe s₃) X.xe s₂) X.xe s₁)=t;have refl0:Ext 0 E H E H:=⟨rfl,Frm.refl _ _,λ_ h=>.inl h,λa ha=>(by let⟨o,eo,_⟩:=Rl.mem ha;exact⟨o,eo⟩)⟩;have back:∀{j:Al}{w:MSt}{g:St}{l:Hp},Rel (X.tr t (X.pn++p) ⟨0,E,H⟩).kx j w g l->Rel X.kx j w g l:=λ{j w g l} R=>R.reEb rfl (by rw[O];exact abv _) (by
  have e1:=Rl.ebx;rw[O]at e1⊢;exact e1.trans R.ebx)
 have k':EndsOk (X.tr t (X.pn++p) ⟨0,E,H⟩).kx m.np E H De D:=⟨λj w g l q n R x=>k.nx j w g l q n (back R) x,λr j w g v l q n R rr x=>k.rt r j w g v l q n (back R) rr x,λj w g l q n R x=>k.bk j w g l q n (back R) x,λj w g l q n R x=>k.ct j w g l q n (back R) x⟩;have Rl':Rel (X.tr t (X.pn++p) ⟨0,E,H⟩).kx E m S H:=Rl.reEb rfl (abv _) refl0;have xl:XL (X.tr t (X.pn++p) ⟨0,E,H⟩) (λd w=>∃W K,d = .dict ((.none,.str W)::K)/\SubX X.K W c/\ws {nx:=λm2=>De.nx (m2.unV i),rt:=De.rt,bk:=λm2=>De.bk (m2.unV i),ct:=λm2=>De.ct (m2.unV i)} (w.dropO.setV i (.imm d))):=by
  refine⟨λpins' L H1 N α1 m1 d s2 e C dct R1 hE pe xt I2 xf xd=>?_,hex⟩;show t (.ref e) s2;rw[<-hxe];have I3:Inv X p L N s2:=I2.untr;have xf3:XF (Yg X p) N s2.heap e C dct:=xf.imp λb y=>y.untr;let⟨W,K,rfl,⟨C',Cc',hn',hnc,hexm⟩,hws⟩:=hE;let⟨c2,Ca,kvs2,ed,rfl,hcl,hdct⟩:=xd;cases ed;obtain rfl:Cc'=Cc:=by rw[hns]at hnc;cases hnc;rfl
  obtain rfl:Ca=C':=by
   have:aal X.K aag W=some (some (.ref Ca)):=hcl;rw[hn']at this;cases this;rfl
  refine vK (base:=X.base) (by rw[<-hS];exact I3.ok.frames) (by rw[<-hS];exact I3.stack) hL xf3 (λT hT=>⟨I3.hok.fresh hT,I3.yg hex (aco hT)⟩) λh4 To hTo st P=>?_;have I4:Inv X p L N {s2 with heap:=h4}:=I3.noted hS xf3.new xf3.un hTo st;have LT:aeQ (model X.prog X.w) h4 (agi (.ref e)) (.ref Ca):=by
   let⟨V,vs,he,hc,_⟩:=P.obj;exact hc▸(aeQ.ld he).andThen .now
  refine wpAny_handleBy_cons (codeAny_handlers_test (iG (X:=X.sui e X.xe) (I4.sui) hg hm ?_ hdb)) (by intro z;cases z);refine(PySem.W.exm_one (M:=model X.prog X.w) I4.kIn LT hexm).here ?_;show ael _ _ _ _ _;refine codeAny_handlers_suite_as (GL P λh5 To5 hTo5 st5 F=>?_);have I5:Inv X p L N {s2 with heap:=h5}:=I4.noted (s:={s2 with heap:=h4}) hS P.new P.un hTo5 (st5.mono λb z=>by cases z);let⟨V,vs,he,hc,hdc,hdd,_⟩:=F.obj;let⟨B,I5',un3,pf3,Y,fld3⟩:∃B,Inv X p L B {s2 with heap:=h5}/\B e=none/\Pers N B/\(∀b o,H1 b=some o->N b=some o->B b=some o)/\∃U,((dct=none/\U=[])\/∃dx od,dct=some dx/\B dx=some (.frz od (.xd U)))/\DenXF X.kd N ((.none,.str W)::K) U/\∀b o,N b=some o->∃o',B b=some o':=by
   rcases hdct with⟨rfl,rfl⟩|⟨dx,U,rfl,G,hn1,hf⟩
   .exact⟨N,I5,F.un,Pers.refl _,λb o _ q=>q,[],.inl ⟨rfl,rfl⟩,by simp only[DenXF],λb o q=>⟨o,q⟩⟩
   .obtain⟨od,I6⟩:=I5.frzX G;have ned:e≠dx:=λz=>by rw[<-z,F.un]at G;cases G
    refine⟨_,I6,by rw[ag ned];exact F.un,⟨λb U q=>?_,λb o u q=>?_⟩,λb o q1 q2=>?_,U,.inr ⟨dx,od,rfl,ak⟩,by simp only[DenXF];exact hf,λb o q=>?_⟩
    .rw[ag λz=>(by rw[z,G]at q;cases q)];exact q
    .rw[ag λz=>(by rw[z,G]at q;cases q)];exact q
    .rw[ag λz=>(by rw[z,hn1]at q1;cases q1)];exact q2
    .by_cases hb:b=dx
     .exact⟨_,by rw[hb];exact ak⟩
     .exact⟨o,by rw[ag hb];exact q⟩
  let⟨U,hdict,hfl,hall⟩:=fld3;have I6:=I5'.track F.new un3 he;have ne3:∀b o,B b=some o->(upd B e (.frz V (.own 0))) b=some o:=λb o q=>by
   rw[ag λz=>by rw[z,un3]at q;cases q];exact q
  have pf:Pers N (upd B e (.frz V (.own 0))):=pf3.trans (bo (.inl un3));have xtf:Ext 0 α1 H1 [] (upd B e (.frz V (.own 0))):=⟨rfl,λb o q nb=>ne3 b o (Y b o q (xt.frm b o q nb)),λa ha=>(by cases ha),λa ha=>(let ⟨o,q⟩:=xt.old a ha;let ⟨o',q'⟩:=hall a o q;⟨o',ne3 a o' q'⟩)⟩;have x0:Ext 0 E H [] (upd B e (.frz V (.own 0))):=R1.ebx.trans xtf;have Rd:Rel X.kx [] m1.dropO L (upd B e (.frz V (.own 0))):=(back R1).drop (pe.trans pf) O (by
   have e1:=Rl.ebx;rw[O]at e1;exact e1.trans x0)
  have dn:Den X.kd (upd B e (.frz V (.own 0))) (.dict ((.none,.str W)::K)) (.ref e):=by
   simp only[Den];refine⟨e,rfl,.inr (.inr ⟨W,U,rfl,⟨V,.own 0,Ca,ak,hc,⟨vs,hdd⟩,hn',?_⟩,DenXF.mono pf hfl⟩)⟩;rcases hdict with⟨z1,z2⟩|⟨dx,od,z1,z2⟩
   .exact .inl ⟨hdc.trans z1,z2⟩
   .exact .inr ⟨dx,od,hdc.trans z1,ne3 dx _ z2⟩
  refine ii I6 hN hi (.inl hk) (v:=.ref e) (u:=.ref e) rfl (λs7 I7=>?_) (.inr hk);refine ab9 (hs e _ p s7 _ _ {nx:=λS H=>D.nx (S.set i none) H,rt:=D.rt,bk:=λS H=>D.bk (S.set i none) H,ct:=λS H=>D.ct (S.set i none) H} I7.sui ⟨[],_,_,cf (i:=i) (r:=.imm (.dict ((.none,.str W)::K))) Rd dn,hws,?_⟩) (λf s8 q=>?_) λx s8 q=>q
  .have zr:m.np=0:=np0;refine⟨λj w g l q n R x=>?_,λr j w g v l q n R rr x=>?_,λj w g l q n R x=>?_,λj w g l q n R x=>?_⟩
   .exact k.nx j (w.unV i) (g.set i none) l q (n.trans zr.symm) (R.unV i) (by rw[zr];exact x0.trans x)
   .exact k.rt r j w g v l q (n.trans zr.symm) R (rr.ext x0) (by rw[zr];exact x0.trans x)
   .exact k.bk j (w.unV i) (g.set i none) l q (n.trans zr.symm) (R.unV i) (by rw[zr];exact x0.trans x)
   .exact k.ct j (w.unV i) (g.set i none) l q (n.trans zr.symm) (R.unV i) (by rw[zr];exact x0.trans x)
  .cases f with
   |next=>
    let⟨g,l,Z,q⟩:=q;exact jc (Z.unsui I.ok) hN hi hk λs9 I9=>⟨g.set i none,l,I9,q⟩
   |brk=>
    let⟨g,l,Z,q⟩:=q;exact jc (Z.unsui I.ok) hN hi hk λs9 I9=>⟨g.set i none,l,I9,q⟩
   |cont=>
    let⟨g,l,Z,q⟩:=q;exact jc (Z.unsui I.ok) hN hi hk λs9 I9=>⟨g.set i none,l,I9,q⟩
   |ret u=>
    let⟨v,g,l,Z,r,q⟩:=q;exact jc (Z.unsui I.ok) hN hi hk λs9 I9=>⟨v,g.set i none,l,I9,r,q⟩
 have run:=hb t (X.pn++p) ⟨0,E,H⟩ _ xl [] s S H D I.tr ⟨E,m,De,Rl',hw,k'⟩;refine ab9 run (λf s1 q=>?_) (λe s1 q=>?_)
 .have q':=SP.untr q
  cases f with
  |next=>exact ad3 q'
  |brk=>exact q'
  |cont=>exact q'
  |ret u=>exact q'
 .exact q
end L2
namespace L2
open PySem PySem.Spec PyProof.Rows PySem.W
section
variable {prog:aaA}{w:World}{A:aa2}{E:oR->Ad->Prop}{s:Ad}{K:Frag}{x D:Addr}{ox:Obj}{o:Option Obj}
theorem zf{Q:Option oR->Ad->Prop}(X:K.In s.heap)(I:InstAt s.heap x ox D o)(b:findIn K (.ref D) "__getattribute__" = some (some (.builtin "BaseException.__getattribute__")))(p:findIn K (.ref D) "__getattr__" = some none)
  (m:findObj K D o "__class__" = some (.bind (.builtin "getset_descriptor.__get__") (.builtin "object.__class__"))) (r:mroIn K D (.type "BaseException")=some true) (n:mroIn K D (.type "object")=some true)
  (h:Q (some (.ref D)) {s with toks:=s.toks+1}):wpAny (model prog w) A (getAttr? (.ref x) "__class__") Q E s:=by
 let⟨u,g,d,t,os⟩:=s;have L:=I.type (M:=model prog w);have l:=looks_findIn (M:=model prog w) X b;have k:=looks_findIn (M:=model prog w) X p;unfold getAttr? getAttrBy?;unfold getAttrBy;refine aD (wpAny_mkText (aD (acK (abu (aD (L.at (aD (l.at ?_))))))));have v:=adj.ga.bind (.ref x);have a:(acn "BaseException.__getattribute__" == acn "object.__getattribute__")=false:=by decide +kernel
 have e:(ag1 (aaZ D)&&acn "BaseException.__getattribute__" == acn "object.__getattribute__")=false:=by rw[a];cases ag1 (aaZ D)<;>rfl
 dsimp only at L l k h⊢;rw[if_neg (by rw[e];exact aan)];unfold getAttrByItsOwn
 repeat (any_goals (first|assumption|with_reducible refine aD (L.at ?_)|with_reducible refine aD (k.at ?_)|wp_step))
 have i:=looks_mroIn (M:=model prog w) X r;have f:=looks_find (M:=model prog w) X I m;dsimp only at i f;have c:builtinKind "BaseException.__getattribute__" = some .slot:=by decide +kernel
 have j:splitId "BaseException.__getattribute__" = some ("BaseException","__getattribute__"):=by decide +kernel
 have q:=agP (.ref x) (.str "__class__" t);refine adG adj.ga.plain agD ?_;simp only[checkBuiltinCall,c,j];refine aD ?_;unfold afq
 repeat (first|assumption|with_reducible refine aD (L.at ?_)|with_reducible refine i.at ?_|with_reducible refine aD (i.at ?_)|with_reducible refine f.at ?_|with_reducible refine aD (f.at ?_)|wp_step)
 refine class_get (ox:=ox) (od:=o) X I n ?_
 repeat (first|assumption|wp_step)
end
end L2
namespace L2
open PySem PySem.Spec PyProof.Rows
variable{K:Io}{c:Str}{C:Addr}{X:Cx}{Cs:List Addr}{es:List Expr}
structure XCls(K:Io)(c:Str)(C:Addr):Prop where
 ns:aal K aag c=some (some (.ref C))
 ga:abt K (.ref C) "__getattribute__" = some (some (.builtin "BaseException.__getattribute__"))
 nk:abt K (.ref C) "__getattr__" = some none
 hd:ahA K C=true
 fd:abt K (.ref C) "__class__" = some (some (.builtin "object.__class__"))
 sp:ahB K (.builtin "object.__class__") "__get__" = some (some (.builtin "getset_descriptor.__get__"))
 tk:ahZ K (.builtin "object.__class__")=some true
 mr:adv K C (.type "object")=some true
 mb:adv K C (.type "BaseException")=some true
def XCls.cls(h:XCls K c C):(afN K C).isSome=true:=by
 let⟨b,a,_⟩:=aeI h.hd;rw[a];rfl
theorem vQ{x D:Addr}{ox:Obj}{o:Option Obj}(h:XCls K c D):PySem.W.KitX K (.ref x) (.ref D) (λh=>adk h x ox D o) where
 ty:=λ_ _ _ I=>I.type
 it:=λ_ _ X _=>by
  let⟨d,a⟩:=acj.mp h.cls;unfold afN at a
  split at a
  .rename_i c' d' cd' sl' ho;intro l j z p k q;unfold isType loadHead;exact aD (m:=loadPart _ _) (agQ (k _ _ (X _ _ ho)) (Dl q))
  .cases a
 ne:=λg t v i n y X b=>by
  let⟨d,a⟩:=acj.mp h.cls;refine Bool.eq_false_iff.mpr λsame=>?_;obtain rfl:D=t:=aaZ.inj (beq_iff_eq.mp same);unfold afN at a
  split at a
  .rename_i c' d' cd' sl' ho
   cases (X _ _ ho).symm.trans b
  .cases a
 ca:=λ{prog w A E Q s} X I k=>by
  have e:agy K D o "__class__" = some (.bind (.builtin "getset_descriptor.__get__") (.builtin "object.__class__")):=by
   let⟨r,f⟩:=acj.mp h.cls
   cases o with
   |some u=>exact PySem.W.findObj_data h.cls h.fd h.sp h.tk
   |none=>
   unfold agy;rw[f,ahU,h.fd,ahU];simp[h.sp,h.tk]
  exact zf X I h.ga h.nk e h.mb h.mr k
theorem u5{p:List (Addr×Obj)}{l:St}{H:Hp}{s:Ad}{v:V}{u:oR}{kvs:List (dL×dL)}(I:Inv X p l H s)(h:Den X.kd H (.dict ((.none,.str c)::kvs)) v)(r:RelV v u) :
  ∃e ox C b,u = .ref e/\aal X.K aag c=some (some (.ref C))/\adk s.heap e ox C b:=by
 simp only[Den]at h;let⟨e,rfl,h⟩:=h;cases (r);rcases h with⟨es,_,⟨_,_,a⟩,_⟩|⟨es,o,_,a⟩|⟨n,y,x,⟨o,w,C,t,g,⟨vs,k⟩,f,j⟩,_⟩
 .have:=a .none (by simp);cases this
 .simp only[DenKK]at a;let⟨q,_,_,_,⟨z,_⟩,_⟩:=a
  cases q<;>cases z
 .obtain rfl:n=c:=by cases x;rfl
  let⟨ho,_⟩:=(I.hok e _ t);have no:adH o=true:=by unfold adH;rw[k]
  rcases j with⟨d,_⟩|⟨dx,m,d,i⟩
  .exact⟨e,o,C,none,rfl,f,⟨ho,g,no,by rw[d];trivial⟩⟩
  .obtain⟨hd,_⟩:=(I.hok dx _ i);exact⟨e,o,C,some m,rfl,f,⟨ho,g,no,by rw[d];exact hd⟩⟩
def IsIn(K:Io)(c:Str)(a:oR)(b:Bool):Prop:=∃C,XCls K c C/\afm K (.ref C) a=some b
def rIsX(K:Kx)(cv:V)(a:oR):List V->Hp->VK->Prop:=λx H Q=>∃v c k b,x=[v,cv]/\Den K H (.dict ((.none,.str c)::k)) v/\IsIn K.K c a b/\Q (.bl b) H
theorem vw{cv:V}{a:oR}(k:∀u,RelV cv u->u=a):c7 X (.builtin "isinstance") (rIsX X.kx cv a):=by
 intro p s n H x m Q I i ⟨v,c,l,b,rfl,hd,⟨C,h,g⟩,q⟩
 cases i with
 | cons r1 r=>
  cases r with
  |cons r d=>
   cases d;obtain rfl:=k _ r;let⟨e,t,f,o,rfl,j,J⟩:=u5 I hd r1;obtain rfl:f=C:=by rw[h.ns]at j;grind
   exact ac0 (vQ h) I.kIn J g (λz=>nomatch z) λtk=>⟨.bl b,H,I.tok tk,rfl,q⟩
def wIsX(K:Io)(d:oR)(w:WE):WE:=λm a=>w m λr e=>∃c k b,r = .imm (.dict ((.none,.str c)::k))/\IsIn K c d b/\a (.imm (.bool b)) e
section
variable {X:Cx}{e:Expr}{w:WE}{p a pos:Pos}{x:Str}
theorem IW{cv:V}{i:oR}{tn:TE}(s:∀d H Q,Q cv H->tn d H Q){d:St}{H:Hp}{Q:VK}(h:tM X.kx (wIsX X.K i w) d H Q):tCB (rIsX X.kx cv i) (M9 (tM X.kx w) (M9 tn tNil)) d H Q:=by
 let⟨o,m,y,l,j,f⟩:=h;refine⟨o,m,_,l,j,λr q v u k n R rr F=>s _ _ _ ?_⟩;let⟨c,g,b,rfl,t,k⟩:=k;exact⟨v,c,g,b,rfl,rr,t,f _ q _ u k n R (jV _) F⟩
theorem Q9(k:ME X e w)(g:X.mg "isinstance" = none)(m:X.mg x=some (.ref C))(d:Gl X "isinstance":=by rfl)(l:Gl X x:=by rfl)(hd:(x==("__debug__" : Str))=false:=by decide)
  (b:OR [e,.Name x a] X.env=(false,eval e X.env)::OR [.Name x a] X.env:=by rfl) (i:OR [.Name x a] X.env=(false,eval (.Name x a) X.env)::OR [] X.env:=by rfl) (f:(abw pos (OR [.Name x a] X.env)).any (·.1)=false:=by rfl) :
  ME X (.Call (.Name "isinstance" p) [e,.Name x a] [] pos) (wIsX X.K (.ref C) w):=
 (iQ (vw (cv:=.ref C) λu r=>r) d g dw (fu k (fu (λj s n H Q I q=>iG I l m ⟨.ref C,H,I,rfl,q⟩ hd) m6 i) b) (by decide) rfl b f).wk λ_ _ _ h=>IW (λ_ _ _ q=>q) h
theorem L9{T:String}(j:ME X e w)(d:X.mg "isinstance" = none)(m:X.mg x=none)(k:aaL x=some (.type T))(f:Gl X "isinstance":=by rfl)(n:Gl X x:=by rfl)(l:x ≠ "__name__":=by decide)(hd:(x==("__debug__" : Str))=false:=by decide)
  (b:OR [e,.Name x a] X.env=(false,eval e X.env)::OR [.Name x a] X.env:=by rfl) (g:OR [.Name x a] X.env=(false,eval (.Name x a) X.env)::OR [] X.env:=by rfl) (i:(abw pos (OR [.Name x a] X.env)).any (·.1)=false:=by rfl) :
  ME X (.Call (.Name "isinstance" p) [e,.Name x a] [] pos) (wIsX X.K (.type T) w):=
 (iQ (vw (cv:=.ty T) λu r=>r) f d dw (fu j (fu (yL n m k (v:=.ty T) rfl l hd) m6 g) b) (by decide) rfl b i).wk λ_ _ _ h=>IW (λ_ _ _ q=>q) h
end
def IsIns(K:Io)(c:Str)(Cs:List Addr)(b:Bool):Prop:=∃C,XCls K c C/\aid K (.ref C) (Cs.map aaZ)=some b
def tNms(Cs:List Addr):TA:=λ_ H Q=>Q (Cs.map V.ref) H
section
variable {X:Cx}{e:Expr}{w:WE}{p pos a:Pos}
def RH:PA X [] (tNms []):=m6
def jl{x:Str}{b:Pos}(f:X.mg x=some (.ref C))(hr:PA X es (tNms Cs))(g:Gl X x:=by rfl)(hd:(x==("__debug__" : Str))=false:=by decide)(hs:OR (.Name x b::es) X.env=(false,eval (.Name x b) X.env)::OR es X.env:=by rfl):PA X (.Name x b::es) (tNms (C::Cs)):=
 (fu (λd s i H Q I q=>iG I g f ⟨.ref C,H,I,rfl,q⟩ hd) hr hs).wk λ_ _ _ h=>h
theorem uD:∀{Cs:List Addr}{u:List oR},Vals (Cs.map V.ref) u->u=Cs.map aaZ
 |[],_,h=>by cases h;rfl
 |C::Cs,_,h=>by
  cases h with
  |cons r t=>rw[r,uD t];rfl
def VG(K:Kx)(Cs:List Addr):List V->Hp->VK->Prop:=λx H Q=>∃v t c k b,x=[v,.ref t]/\H t=some (.tup (Cs.map V.ref))/\Den K H (.dict ((.none,.str c)::k)) v/\IsIns K.K c Cs b/\Q (.bl b) H
theorem yi:c7 X (.builtin "isinstance") (VG X.kx Cs):=by
 intro f s N H M L Q I l ⟨v,t,c,B,b,rfl,A,hd,⟨C,d,k⟩,q⟩
 cases l with
 | cons r1 r=>
  cases r with
  |cons r i=>
   cases i;cases (r);let⟨e,R,j,y,rfl,m,J⟩:=u5 I hd r1;obtain rfl:j=C:=by rw[d.ns]at m;grind
   let⟨_,x,rt,o,O,g,D,n,h⟩:=(I.hok t _ A);have u:=uD rt;subst u;let⟨F,G,E,P⟩:=o;dsimp at g h;subst g h;exact PySem.W.kia_tup (vQ d) I.kIn J ‹_› k (λz=>nomatch z) λtk=>⟨.bl b,H,I.tok tk,rfl,q⟩
def JD(K:Io)(Cs:List Addr)(w:WE):WE:=λm d=>w m λr f=>∃c k b,r = .imm (.dict ((.none,.str c)::k))/\IsIns K c Cs b/\d (.imm (.bool b)) f
theorem L4{x1}(s:ME X e w)(B:PA X es (tNms Cs))(E:Cs.length≤aaf)(j:X.mg "isinstance" = none)(d:Gl X "isinstance":=by rfl)
  (h:OR [e,.Tuple es x1 a] X.env=(false,eval e X.env)::OR [.Tuple es x1 a] X.env:=by rfl) (o:OR [.Tuple es x1 a] X.env=(false,eval (.Tuple es x1 a) X.env)::OR [] X.env:=by rfl) (g:(abw pos (OR [.Tuple es x1 a] X.env)).any (·.1)=false:=by rfl) :
  ME X (.Call (.Name "isinstance" p) [e,.Tuple es x1 a] [] pos) (JD X.K Cs w):=
 (iQ (yi) d j dw (fu s (fu (Iz B) m6 o) h) (by decide) rfl h g).wk<|by
 intro G H Q ⟨z,m,I,x,u,f⟩;refine⟨z,m,_,x,u,λr A v q k n R rr F=>⟨by rw[gE];exact E,λt i=>?_⟩⟩;let⟨c,l,b,rfl,D,k⟩:=k;have y:Pers q (upd q t (.tup (Cs.map V.ref))):=bo (.inl i);exact⟨v,t,c,l,b,rfl,ak,Den.mono y rr,D,f _ A _ _ k n (R.lay i) (jV _) (F.trans (cx i))⟩
end
section
variable {prog:aaA}{w:World}{A:aa2}{E:oR->Ad->Prop}{s:Ad}{K:Io}{x D:Addr}{ox:Obj}{o:Option Obj}{v:oR}{f:Str}
theorem AU{e:Bool}{Q:oR->Ad->Prop}(X:K.In s.heap)(I:adk s.heap x ox D o)(b:abt K (.ref D) "__getattribute__" = some (some (.builtin "BaseException.__getattribute__")))(u:abt K (.ref D) "__getattr__" = some none)
  (q:agy K D o f=some (.value v)) (z:adv K D (.type "BaseException")=some true) (r:ahJ v=true)
  (h:Q v {s with toks:=s.toks+1}):wpAny (model prog w) A (getAttr (.ref x) f e) Q E s:=by
 let⟨B,g,d,t,os⟩:=s;have L:=I.type (M:=model prog w);have p:=aeX (M:=model prog w) X b;have n:=aeX (M:=model prog w) X u;unfold getAttr getAttrBy;refine aD (wpAny_mkText (abu (aD (L.at (aD (p.at ?_))))));have F:=adj.ga.bind (.ref x);have a:(acn "BaseException.__getattribute__" == acn "object.__getattribute__")=false:=by decide +kernel
 have j:(ag1 (aaZ D)&&acn "BaseException.__getattribute__" == acn "object.__getattribute__")=false:=by rw[a];cases ag1 (aaZ D)<;>rfl
 dsimp only at L p n h⊢;rw[if_neg (by rw[j];exact aan)];unfold getAttrByItsOwn
 repeat (any_goals (first|assumption|with_reducible refine aD (L.at ?_)|with_reducible refine aD (n.at ?_)|wp_step))
 have ho:(e&&ag1 (acn "BaseException.__getattribute__"))=false:=by cases e<;>rfl
 rw[if_neg (by rw[ho];exact aan)]
 repeat (any_goals (first|wp_step|assumption))
 have l:=ag4 (M:=model prog w) X z;have k:=PySem.W.looks_find (M:=model prog w) X I q;dsimp only at l k;have i:builtinKind "BaseException.__getattribute__" = some .slot:=by decide +kernel
 have m:splitId "BaseException.__getattribute__" = some ("BaseException","__getattribute__"):=by decide +kernel
 have y:=agP (.ref x) (.str f t);refine adG adj.ga.plain agD ?_;simp only[checkBuiltinCall,i,m];refine aD ?_;unfold afq
 repeat (first|assumption|with_reducible refine aD (L.at ?_)|with_reducible refine l.at ?_|with_reducible refine aD (l.at ?_)|with_reducible refine k.at ?_|with_reducible refine aD (k.at ?_)|wp_step)
 exact(show wpAny _ _ (handedOut v) _ _ _ by rw[PySem.W.handedOut_of r];exact Dl h)
end
def fldD(f:Str):List (dL×dL)->Option dL
 |[]=>none
 |(k,d)::r=>match k with
  | .str g=>if g=f then some d else fldD f r
  |_=>fldD f r
theorem DenXF.get{K:Kd}{H:Hp}{f:Str}{d:dL}:∀{kvs:List (dL×dL)}{xs:List (Str×V)},DenXF K H kvs xs->fldD f kvs=some d->∃v,xs.lookup f=some v/\Den K H d v
 |[],_,_,e=>by cases e
 | (.str g,d0)::r,_,h,e=>by
  let⟨v,vs,rfl,k,a⟩:=h;simp only[fldD]at e
  split at e
  .simp_all
  .rename_i q;let⟨i,b,j⟩:=DenXF.get a e;have:(f==g)=false:=by simp;exact λz=>q z.symm
   exact⟨i,by simp only[aeR,this];exact b,j⟩
 |(.none,_)::r,_,h,e=>by simp only[DenXF]at h;exact DenXF.get h e
 |(.bool _,_)::r,_,h,e=>by simp only[DenXF]at h;exact DenXF.get h e
 |(.int _,_)::r,_,h,e=>by simp[DenXF]at h;exact DenXF.get h e
 |(.list _,_)::r,_,h,e=>by simp only[DenXF]at h;exact DenXF.get h e
 |(.tuple _,_)::r,_,h,e=>by simp only[DenXF]at h;exact DenXF.get h e
 |(.dict _,_)::r,_,h,e=>by simp only[DenXF]at h;exact DenXF.get h e
structure XAt(K:Io)(c f:Str):Prop where
 ex:∃C,XCls K c C/\abt K (.ref C) f=some none
def wXf(K:Io)(f:Str)(w:WE):WE:=λm a=>w m λr b=>∃c k d,r = .imm (.dict ((.none,.str c)::k))/\fldD f k=some d/\XAt K c f/\a (.imm d) b
theorem UO{e:Expr}{J:WE}{f:Str}{pos:Pos}(he:ME X e J)(hb:aa5 e f X.env (eval e X.env)=eval e X.env:=by rfl):ME X (.Attribute e f pos) (wXf X.K f J):=by
 intro p s O H Q I ⟨j,m,V,Rl,hw,y⟩;refine J7 hb (thn (he p s O H _ I ⟨j,m,_,Rl,hw,λr b v E k n R rr F=>(⟨r,b,k,n,R,rr,F⟩:∃r b,(∃c a d,r = .imm (.dict ((.none,.str c)::a))/\fldD f a=some d/\XAt X.K c f/\V (.imm d) b)/\b.np=m.np/\Rel X.kx j b O E/\RelR X.kx j H E r v/\Frm j H E)⟩) λu s1 ⟨v,l,t,T,r,b,⟨c,a,d,hr,Z,⟨C,g,A⟩,k⟩,n,R,rr,F⟩=>?_);subst hr;have h:Den X.kd l (.dict ((.none,.str c)::a)) v:=rr;simp only[Den]at h;let⟨e,rfl,h⟩:=h
 cases (show u=aaZ e from T)
 rcases h with⟨es,_,⟨_,_,q⟩,_⟩|⟨es,o,_,q⟩|⟨G,xs,ec,⟨o,w,S,f1,Y,⟨vs,W⟩,f3,U⟩,P⟩
 .have:=q .none (by simp);cases this
 .simp only[DenKK]at q;let⟨kk,_,_,_,⟨z,_⟩,_⟩:=q
  cases kk<;>cases z
 .obtain rfl:G=c:=by cases ec;rfl
  obtain rfl:S=C:=by
   have:=g.ns;rw[show aal X.K aag G=_ from f3]at this;cases this;rfl
  simp only[DenXF]at P;let⟨D,N,x⟩:=P.get Z;let⟨ho,_⟩:=(show ObjOk X.prog X.w l s1.heap e (.frz o w)from t.hok e _ f1);have no:adH o=true:=by unfold adH;rw[W]
  rcases U with⟨M,rfl⟩|⟨dx,od,M,d1⟩
  .cases N
  .obtain⟨hd,mA,hn,hr⟩:=(t.hok dx _ d1);let⟨od',i,B⟩:=Ae hn;rw[hd]at i;cases i;let⟨u1,hu,L⟩:=RelO.some_of (v:=D) (o:=mA f) (by rw[<-N];exact hr f);refine AU t.kIn ⟨ho,Y,no,by rw[M];exact hd⟩ g.ga g.nk (PySem.W.findObj_own g.hd A rfl (by rw[B,hu])) g.mb (Ai L) ?_;exact⟨D,l,t.tok _,L,y _ b D l k n R x F⟩
end L2
namespace L2
open PySem PySem.Spec PyProof.Rows
open Sem (wp)
variable{K:Io}{C fI:Addr}{mN:Str->Option oR}{Q:Unit->Ad->Prop}{P:aaA}{w:World}{xs:List (Str×V)}
def qY(K:Io)(C:Addr)(b:List oR)(n:String)(fI:Addr):Bool:=match K.lookup C with
 |some ⟨.type "type",_,.cls ci,si⟩=>(match ci.mro,si.toList with
  | .ref C0::tl,[_,_,_,_,some (.builtin nq),_]=>C0==C&&(nq==n&&(!ci.hasDel&&(ci.hasDict&&(PySem.W.tailIn K b tl&&(PySem.W.nsOkIn K ci.ns&&(aal K ci.ns "__init__" == some (some (.ref fI))))))))
  |_,_=>false)
 |_=>false
def ql{h:aaR}{g:List oR}{n:String}(X:K.In h)(q:qY K C g n fI=true) :
  ∃j N v q bs x sub t e u r p k i m mN,h.get? C=some (afI v q C N bs j true x sub t e u r p k i m n)/\h.Ns N mN/\mN "__init__" = some (.ref fI)/\OwnTail h g j:=by
 unfold qY at q
 split at q
 .rename_i u cd sl ho
  split at q
  .rename_i C0 j r p k i nq m hm hs;simp at q;let⟨rfl,rfl,b,f,D,hok,a⟩:=q;rcases cd with⟨v,bs,F,ns,A,hd,x,sub,t,e,z⟩;dsimp only at hm b f hok a;subst hm b f;have s:sl = #[r,p,k,i,some (.builtin nq),m]:=by
    let⟨l⟩:=sl;simp only at hs;rw[hs]
   subst s;have y:h.Ns ns (h.nsMap ns):=.of_isNs (PySem.W.isNs_of_in X hok);exact⟨j,ns,v,A,bs,x,sub,t,e,u,r,p,k,i,m,_,X _ _ ho,y,by
    let⟨o,H,I,E,G,_,B⟩:=y;unfold aal at a
    split at a
    .rename_i c d es' n' sl' lk;have:=X _ _ lk;rw[E]at this;cases this;cases G
     split at a
     .rename_i en he;rw[<-B];unfold nsFind findBy;rw[<-ahh,he];exact aam a
     .split at a<;>cases a
    .exact absurd a (by simp),PySem.W.tail_of_in X D⟩
  .cases q
 .cases q
section
variable {w:World}{prog:aaA}{E:oR->Ad->Prop}{A:aa2}{h:aaR}{g:Array GenState}{d:Drawn}{t:Nat}{os:OsState}
variable {q k:Str}{N C:Addr}{bs f a:List oR}{c:Bool}{s:List Str}{sub:List oR}{l:Bool}{j:Option Bool}{p:Option Addr}{u v y z D:Option oR}{B n i:String}
def wr(F:ExcBaseFacts B n i a)(T:OwnTail h a f){rest:List oR}{X:Obj}{Q:Fin->Ad->Prop}
  (O:h.get? C=some (afI k q C N bs f c s sub l j p u v y z D n)) (hn:h.Ns N mN) (hi:mN "__init__" = some (.ref fI)) (S:h.get? fI=some X) (V:X.cls = .type "function")
  (hq:∀h' e,agR h h' e (.ref C) rest->wpAny (model prog w) A (call (.ref fI) (.ref e::rest)) (λr s'=>r = .none/\Q (.done (.ret (.ref e))) s') E ⟨h',g,d,t,os⟩) (G:rest.length≤aaf):wpAny (model prog w) A (acE.«type.__call__» ⟨.ref C::rest,[]⟩) Q E ⟨h,g,d,t,os⟩:=by
 repeat (first|with_reducible refine wpAny_madeBy_exc O ?_|with_reducible refine adz O ?_|wp_step)
 refine codeAny_call_builtin_code (ahn _ F.quiet) (wpAny_check_new_subT F T O (codeAny_exc_new_subT F T O ?_ G));show wpAny _ _ _ _ _ _;generalize H:h.push {cls:=.type "tuple",data:=.seq rest.toArray}=R;have s1:R.objs.size=h.objs.size+1:=by rw[<-H,abq]
 have Z:∀b o,h.get? b=some o->R.get? b=some o:=λb o e=>by rw[<-H];exact AD _ e
 have t1:R.get? h.objs.size=some {cls:=.type "tuple",data:=.seq rest.toArray}:=by rw[<-H];exact afJ rfl rfl
 generalize M:R.push {cls:=.ref C,data:=.fields #[.ref h.objs.size,.none,.none,.none,.bool false,.none]}=I;have W:∀b o,R.get? b=some o->I.get? b=some o:=λb o e=>by rw[<-M];exact AD _ e
 have Y:I.get? (h.objs.size+1)=some {cls:=.ref C,data:=.fields #[.ref h.objs.size,.none,.none,.none,.bool false,.none]}:=by rw[<-M];exact afJ s1.symm rfl
 have L:∀b o,h.get? b=some o->I.get? b=some o:=λb o e=>W b o (Z b o e);have J:=L _ _ O;have U:I.Ns N mN:=hn.keeps L;have own:(aaZ C::f).contains (.ref C)=true:=by simp
 unfold afq
 repeat (first|with_reducible refine adz Y ?_|(with_reducible refine wpAny_isSubtype_exc J ?_;rw[own])|wp_step)
 refine(show wpAny _ _ (typeLookup (.ref C) _) _ _ _ from ?_);refine wpAny_typeLookup_tail J U (T.keeps L) F.mroIs F.init.lookup ?_;rw[hi];refine abu (aD (m:=bindSpecial _ _) ?_);refine aD (m:=agi _) (adl (T:= "function") ⟨_,L _ _ S,V⟩ ?_);rw[if_pos (by decide)];have mk:agR h I (h.objs.size+1) (.ref C) rest:=⟨L,aco (agJ _),h.objs.size,Y,aco (Ge _),W _ _ t1⟩;refine Dl (aD (ab9 (hq I _ mk) (λr s' hr=>?_) λ_ _ x=>x));let⟨rfl,hQ⟩:=hr
 wp_walk
 exact hQ
theorem U4(F:ExcBaseFacts B n i a)(T:OwnTail h a f){rest:List oR}{G:Obj}{Q:oR->Ad->Prop}
  (m:h.get? C=some (afI k q C N bs f c s sub l j p u v y z D n)) (H:h.Ns N mN) (J:mN "__init__" = some (.ref fI)) (o:h.get? fI=some G) (x:G.cls = .type "function")
  (I:∀h' e,agR h h' e (.ref C) rest->wpAny (model prog w) (A.under (.builtin "type.__call__" ⟨.ref C::rest,[]⟩)) (call (.ref fI) (.ref e::rest)) (λr s'=>r = .none/\Q (.ref e) s') E ⟨h',g,d,t,os⟩) (b:rest.length≤aaf):wpAny (model prog w) A (call (.ref C) rest) Q E ⟨h,g,d,t,os⟩:=by
 have M:=tc_lookup;have L:=tc_bind (.ref C);have ty:(⟨h,g,d,t,os⟩:Ad).TypeIs (.ref C) "type":=⟨_,m,rfl⟩;refine agc (codeAny_of_tree (?_))
 repeat (any_goals (first|with_reducible refine adz m ?_|assumption|wp_step))
 exact⟨rfl,codeAny_call_builtin_at (ahn _ (by decide +kernel)) entry_typeCall (wpAny_check_type_call_sub m (wr F T m H J o x I b))⟩
end
def vErr:List oR:=[.type "ValueError",.type "Exception",.type "BaseException",.type "object"]
def isRf:oR->Bool
 | .ref _=>true
 |_=>false
def overVE:List oR->Bool
 |[]=>false
 |v::r=>if isRf v then overVE r else(v::r)==vErr
theorem overVE.pass(self:oR):∀{l:List oR},overVE l=true->refuseLoop self "__setattr__" l=pure ()
 |[],e=>by cases e
 | v::r,e=>by
  unfold overVE at e
  split at e
  .rename_i hv
   cases v<;>first|cases hv|skip
   rw[refuseLoop_ref];exact overVE.pass self e
  .rw[beq_iff_eq.mp e];exact PySem.F.store_ValueError.passes self
def Qw(K:Io)(C:Addr):Bool:=(afN K C).any λc=>overVE c.mro&&c.hasDict
structure StoK(K:Io)(C:Addr)(f:Str):Prop where
 set:Qw K C=true
 sa:abt K (.ref C) "__setattr__" = some (some (.builtin "object.__setattr__"))
 no:abt K (.ref C) f=some none
 ob:adv K C (.type "object")=some true
section
variable {prog:aaA}{w:World}{A:aa2}{E:oR->Ad->Prop}{s:Ad}{K:Io}{x C:Addr}{ox:Obj}{f:Str}{v:oR}
theorem me{od:Option Obj}(X:K.In s.heap)(I:adk s.heap x ox C od)(S:StoK K C f)
  (h:wpAny (model prog w) A.in1 (acE.ObjectAttr.storeInOwnDict (.ref x) (.ref C) (.str f s.toks) f v false) (λa s'=>match a with| .done (.ret _)=>Q () s'|_=>False) E {s with toks:=s.toks+1}) :
  wpAny (model prog w) A (setAttr (.ref x) f v) Q E s:=by
 let⟨k,i,d⟩:=aeI S.set;let⟨ho,_⟩:=aeY.mp d;obtain b:=PySem.F.store_object;refine PySem.W.set_plain X I S.sa ?_;have sub:aeQ (model prog w) s.heap (afq (.ref x) (.type "object")) true:=I.type.andThen (ag4 X S.ob);refine adG b.slot.plain b.entry (@PySem.W.check_slot (model prog w) _ _ {s with toks:=s.toks+1} "object.__setattr__" "object" "__setattr__" (.ref x) [.str f s.toks,v] [] _ b.kind b.split sub (b.args (.ref x) (.str f s.toks) v) ?_);have g:aeQ (model prog w) s.heap (mroOf (.ref C)) k.mro:=(afe X i).andThen .now;have L:aeQ (model prog w) s.heap (acE.ObjectAttr.storeTaker? none) none:=.now;rw[PySem.W.osa_eq,refuse_eq];have e:adk ({s with toks:=s.toks+1}:Ad).heap x ox C od:=I;have j:K.In ({s with toks:=s.toks+1}:Ad).heap:=X;refine aD (aD (e.type.here (aD (aho g ?_))));rw[overVE.pass _ ho];refine Dl (aD (e.type.here (aD ((aeX j S.no).here (aD (aho L ?_))))));refine ab9 h (λa s' z=>?_) λ_ _ z=>z
 cases a with
 |done r=>
  cases r with
  |ret u=>exact z
  |next=>exact z.elim
  |brk=>exact z.elim
  |cont=>exact z.elim
 |again c=>exact z.elim
def Av(X:K.In s.heap)(S:StoK K C f)(d:s.heap.get? x=some ox)(q:ox.cls = .ref C)(u:adH ox=true)(hd:ox.dict=none)(a:∃vs,ox.data = .fields vs)
  (h:∀h' dx tk,s.heap.get? dx=none->dx≠x->h'.Ns1 dx (λy=>if y=f then some v else none)->h'.get? x=some {ox with dict:=some dx}->(∀b o,b≠x->s.heap.get? b=some o->h'.get? b=some o)->Q () {s with heap:=h',toks:=tk}) :
  wpAny (model prog w) A (setAttr (.ref x) f v) Q E s:=by
 have I:adk s.heap x ox C none:=⟨d,q,u,by rw[hd];trivial⟩;let⟨Y,r,l⟩:=aeI S.set;let⟨_,k⟩:=aeY.mp l;refine me X I S ?_;rcases ox with⟨V,O,U,c⟩;let⟨vs,a⟩:=a;dsimp only at q hd a;subst q hd a;have T:K.In ({s with toks:=s.toks+1}:Ad).heap:=X;refine aD (Dl (aD (aD (agQ (s:={s with toks:=s.toks+1}) d (aD ((afe T r).here ?_))))));rw[k];generalize hp:s.heap.push {cls:=.type "dict",data:=.dict #[]}=z;have D:z.get? x=some {cls:=.ref C,data:=.fields vs,slots:=c}:=by rw[<-hp];exact AD _ d
 have ns:x≠s.heap.objs.size:=aaK (aab d);refine aD (m:=alloc _) (wpAny_alloc' ?_);show wpAny _ _ _ _ _ {s with heap:=s.heap.push _,toks:=s.toks+1};rw[hp];refine aD (wpAny_update' D ?_);generalize n:z.update x (λo=>{o with dict:=some s.heap.objs.size})=g;have H:z.get? s.heap.objs.size=some {cls:=.type "dict",data:=.dict #[]}:=by rw[<-hp];exact afJ rfl rfl
 have R:g.get? s.heap.objs.size=some {cls:=.type "dict",data:=.dict #[]}:=by rw[<-n];exact(adT _ _ _ _ ns.symm).trans H
 have L:g.get? x=some {cls:=.ref C,dict:=some s.heap.objs.size,data:=.fields vs,slots:=c}:=by rw[<-n];exact abi _ D rfl
 have N:∀b o,b≠x->s.heap.get? b=some o->g.get? b=some o:=λb o hb e=>by rw[<-n,adT _ _ _ _ hb,<-hp];exact AD _ e
 have n2:g.Ns s.heap.objs.size (λ_=>none):=⟨_,#[],_,R,rfl,λe G=>absurd G (by simp),λ_=>rfl⟩;refine Dl ?_;show wpAny _ _ (aeJ s.heap.objs.size (.str f s.toks) f v) _ _ _;unfold aeJ acE.ObjectAttr.newKeyGuard;refine aD (Dl (aD (wpAny_nsSet1 (aaR.Ns1.of_empty n2) λM B F=>?_)));let⟨W,i,J,p,t,j⟩:=B.count (Within.cons f v Within.nil);have small:i.size≤aaf+1:=aao j (by simp only[aaI,ae9,aaj];exact ahC _);refine aD (wpAny_lookBehind p (by rw[t];exact pastItsLine_dict small) ?_);refine Dl (h M s.heap.objs.size _ (aco (Ge _)) ns.symm B ((F.2 x ns).trans L) λb o hb e=>(F.2 b (aaK (aab e))).trans (N b o hb e))
def zX{dx:Addr}{m:Str->Option oR}{ns:List Str}(X:K.In s.heap)(S:StoK K C f)(q:s.heap.get? x=some ox)(j:ox.cls = .ref C)(n:adH ox=true)(hd:ox.dict=some dx)(p:s.heap.Ns1 dx m)(r:Within m ns)(R:ns.length<1000)
  (h:∀h' tk,h'.Ns1 dx (λy=>if y=f then some v else m y)->(∀b,b≠dx->h'.get? b=s.heap.get? b)->Q () {s with heap:=h',toks:=tk}) :
  wpAny (model prog w) A (setAttr (.ref x) f v) Q E s:=by
 let⟨J,L,G,z,O⟩:=id p;have I:adk s.heap x ox C (some J):=⟨q,j,n,by rw[hd];exact z⟩;let⟨U,k,g⟩:=aeI S.set;let⟨_,d⟩:=aeY.mp g;refine me X I S ?_;rcases ox with⟨N,D,M,B⟩;dsimp only at j hd;subst j hd;have F:K.In ({s with toks:=s.toks+1}:Ad).heap:=X;refine aD (Dl (aD (aD (agQ (s:={s with toks:=s.toks+1}) q (aD ((afe F k).here ?_))))));rw[d];apply Dl (a:=some dx);refine aD (Dl (aD (wpAny_nsSet1 (s:={s with toks:=s.toks+1}) p λu o H=>?_)));let⟨T,e,t,i,l,c⟩:=o.count (Within.cons f v r);have small:e.size≤aaf+1:=aao c (by simp only[aaI,aaj];omega);refine aD (wpAny_lookBehind i (by rw[l];exact pastItsLine_dict small) ?_);refine Dl (h u _ o H.2)
end
def xo(e C:Addr)(d:Option Addr):HO:=.ext λh=>∃vs s,h.get? e=some {cls:=.ref C,dict:=d,data:=.fields vs,slots:=s}/\vs[1]?=some .none
section
variable {X:Cx}{p:List (Addr×Obj)}{i:St}{H:Hp}{s:Ad}{h':aaR}{e C dx:Addr}{A:aa2}{E:oR->Ad->Prop}
theorem Pc{b:Hp}{d:Option Addr}{vs:Array oR}{a:Array (Option oR)}(x:h'.get? e=some {cls:=.ref C,dict:=d,data:=.fields vs,slots:=a})(h:vs[1]?=some .none):ObjOk P w b h' e (xo e C d):=
 ⟨⟨vs,a,x,h⟩,⟨_,x⟩,by intro f c ⟨vs,a,z,q⟩ k;exact⟨vs,a,k _ z,q⟩⟩
def Mj{d:Option Addr}(k:HOk P w H s.heap)(x:H e=some (xo e C d)):∃vs a,s.heap.get? e=some {cls:=.ref C,dict:=d,data:=.fields vs,slots:=a}/\vs[1]?=some .none:=(k e _ x).1
theorem Inv.twoX{a d:HO}{t':Nat}(I:Inv X p i H s)(h:∃g,H e=some (.ext g))(nd:s.heap.get? dx=none)(ne:dx≠e)(k:∀b u,b≠e->s.heap.get? b=some u->h'.get? b=some u)(n1:ObjOk X.prog X.w (upd (upd H dx d) e a) h' e a)(n2:ObjOk X.prog X.w (upd (upd H dx d) e a) h' dx d) :
  Inv X p i (upd (upd H dx d) e a) {s with heap:=h',toks:=t' }:=by
 let⟨g,h⟩:=h;have hd:H dx=none:=I.hok.nil nd;have out:∀b u,H b=some u->b≠e->(upd (upd H dx d) e a) b=some u:=λb u q hb=>by
  rw[ag hb,ag λz=>by rw[z,hd]at q;cases q];exact q
 have f:∀b,H b=none->b≠e:=λb q z=>by rw[z,h]at q;cases q
 refine I.un ⟨λb o q n _ _=>k b o (f b n) q,λb o q n _ _=>⟨o.slots,k b o (f b n) q⟩,λb o q n _=>?_,λb o q _=>?_,λb xs q=>out b _ q λz=>(by rw[z,h]at q;cases q),λb o u q=>out b _ q λz=>(by rw[z,h]at q;cases q),λb m q=>⟨#[],?_⟩⟩ λb u q=>?_
 .rw[ag (f b n),ag λz=>by rw[z,nd]at q;cases q];exact n
 .by_cases hb:b=e
  .rw[hb];exact n1.there
  .exact⟨o,k b o hb q⟩
 .rw[out b _ q λz=>(by rw[z,h]at q;cases q)];simp
 .by_cases hb:b=e
  .rw[hb]at q⊢;rw[ak]at q;cases q;exact n1
  .by_cases hb2:b=dx
   .rw[hb2]at q⊢;rw[ag ne,ak]at q;cases q;exact n2
   .rw[ag hb,ag hb2]at q;refine(I.hok b u q).stay (λc v l z=>k c v ?_ z) (λc z=>out c _ z λy=>(by grind)) λc j z=>out c _ z λy=>(by rw[y,h]at z;cases z)
    grind
theorem Inv.oneX{a:Addr}{d:HO}{t':Nat}(I:Inv X p i H s)(h:H a=some (.xd xs))(k:∀b u,b≠a->s.heap.get? b=some u->h'.get? b=some u)(n1:ObjOk X.prog X.w (upd H a d) h' a d) :
  Inv X p i (upd H a d) {s with heap:=h',toks:=t' }:=by
 have f:∀b,H b=none->b≠a:=λb q z=>by rw[z,h]at q;cases q
 refine I.un ⟨λb o q n _ _=>k b o (f b n) q,λb o q n _ _=>⟨o.slots,k b o (f b n) q⟩,λb o q n _=>by rw[ag (f b n)];exact n,λb o q _=>?_,λb xs q=>by rw[ag λz=>(by rw[z,h]at q;cases q)];exact q,λb o u q=>by rw[ag λz=>(by grind)];exact q,λb j q=>⟨#[],by rw[ag λz=>(by rw[z,h]at q;cases q),q];simp⟩⟩ λb u q=>?_
 .by_cases hb:b=a
  .rw[hb];exact n1.there
  .exact⟨o,k b o hb q⟩
 .by_cases hb:b=a
  .rw[hb]at q⊢;rw[ak]at q;cases q;exact n1
  .rw[ag hb]at q;refine(I.hok b u q).stay (λc v l z=>k c v ?_ z) (λc z=>by rw[ag λy=>(by grind)];exact z) λc g z=>by rw[ag λy=>(by grind)];exact z
   grind
theorem SD(k:HOk P w H s.heap)(x:H dx=some (.xd xs)):∃m,s.heap.Ns1 dx m/\(∀f,RelO (xs.lookup f) (m f))/\Within m (xs.map (·.1)):=by
 let⟨m,n,r⟩:=k dx _ x;refine⟨m,n,r,λy h=>?_⟩;have:=r y
 cases q:xs.lookup y with
 |none=>
  rw[q]at this
  cases e:m y with
  |none=>exact absurd e h
  |some v=>rw[e]at this;exact this.elim
 |some v=>exact aau.mpr ⟨_,ab4 q,rfl⟩
def DU{f:Str}{y:V}{u:oR}(I:Inv X p i H s)(b:H e=some (xo e C none))(S:StoK X.K C f)(r:RelV y u)
  (h:∀dx s',H dx=none->dx≠e->Inv X p i (upd (upd H dx (.xd [(f,y)])) e (xo e C (some dx))) s'->Q () s'):wpAny (model X.prog X.w) A (setAttr (.ref e) f u) Q E s:=by
 let⟨vs,j,c,d⟩:=Mj I.hok b;refine Av I.kIn S c rfl rfl rfl ⟨vs,rfl⟩ λh' dx tk nd ne n a k=>h dx _ (I.hok.nil nd) ne ?_;refine I.twoX ⟨_,b⟩ nd ne k (Pc a d) ⟨_,n,λg=>?_⟩
 by_cases q:g=f
 .rw[if_pos q,q];simp;exact r
 .rw[if_neg q];have:(g==f)=false:=by simp[q]
  simp[aeR,this];trivial
theorem Dm{f:Str}{y:V}{u:oR}(I:Inv X p i H s)(a:H e=some (xo e C (some dx)))(hd:H dx=some (.xd xs))(S:StoK X.K C f)(o:xs.length<1000)(d:RelV y u)
  (h:∀s',Inv X p i (upd H dx (.xd (putF f y xs))) s'->Q () s'):wpAny (model X.prog X.w) A (setAttr (.ref e) f u) Q E s:=by
 let⟨vs,v,l,m⟩:=Mj I.hok a;let⟨t,n,r,j⟩:=SD I.hok hd;refine zX I.kIn S l rfl rfl rfl n j (by simp_all) λh' tk c k=>h _ ?_;refine I.oneX hd (λb q hb z=>(k b hb).trans z) ⟨_,c,λg=>?_⟩;rw[kU]
 by_cases q:g=f
 .rw[if_pos q,if_pos q];exact d
 .simp_all
end
def sXf(K:Io)(t c:TE)(f:Str):TS:=λD b H=>c b H λy d=>t b d λx a=>∃e C,x = .ref e/\StoK K C f/\
 ((a e=some (xo e C none)/\∀dx,a dx=none->dx≠e->D.nx b (upd (upd a dx (.xd [(f,y)])) e (xo e C (some dx)))) \/
  ∃dx xs,a e=some (xo e C (some dx))/\a dx=some (.xd xs)/\xs.length<1000/\D.nx b (upd a dx (.xd (putF f y xs))))
section
variable {X:Cx}{o v:Expr}{f:Str}{pos p:Pos}{t a:TE}
theorem VW(ha:PE X o t)(k:PE X v a)(hs:abH v (some (.Attribute o f p)) pos.line X.env=pure false):PS X (.Assign [.Attribute o f p] v pos) (sXf X.K t a f):=by
 intro b s d H D I h;refine plainObj_wpAny_Assign_Attribute (thn (k b s d H _ I h) λu s1 ⟨y,z,B,r,q⟩=>thn (ha b s1 d z _ B q) λl s2 ⟨x,E,j,A,e,C,ex,S,c⟩=>?_) hs;subst ex;obtain rfl:l=aaZ e:=A;rcases c with⟨g,c⟩|⟨dx,xs,g,hd,n,c⟩
 .exact DU j g S r λdx m nd ne i=>⟨d,_,i,c dx nd ne⟩
 .exact Dm j g hd S n r λm i=>⟨d,_,i,c⟩
end
def KQ(s:Stmt):List Stmt:=match s with
 | .ClassDef _ _ _ b _ _ _ _ _ _ _=>b
 |_=>[]
def spIni(K:Io)(fs:List Str):Sp:=λvs H Q _=>∃e C v,vs = .ref e::v/\v.length=fs.length/\H e=some (xo e C none)/\(∀f∈fs,StoK K C f)/\
 ∀dx a,H dx=none->dx≠e->a dx=some (.xd (fs.zip v))->a e=some (xo e C (some dx))->(∀b,b≠e->b≠dx->a b=H b)->Q .non a
theorem spIni.len{fs:List Str}{vs:List V}{H:Hp}{Q:VK}{E:XK}(h:spIni K fs vs H Q E):vs.length=("self" :: fs:List Str).length:=by
 let⟨e,C,v,rfl,a,_⟩:=h;simp[a]
def FnScope.vis{N ps:List Str}{sc:Scope}(S:FnScope N ps sc){x:Str}(h:x∈ps):Vis sc x:=(S.par x h).elim .inl λz=>.inr (.inl z)
section
variable {P:aaA}{w:World}{K:Io}{mg:Str->Option oR}{base:aaR}{qual:Str}{st:Stmt}{a:Addr}{fd:abZ}{f g:Str}{p c d j k l m n:Pos}
theorem ini1(F:Fun K "__init__" qual st a fd)(S:FnScope ["self",f] ["self",f] (ac st))(hb:bV st=[.Assign [.Attribute (.Name "self" p) f c] (.Name f d) j])(hd:(f==("__debug__" : Str))=false)(t:(f==("__classdict__" : Str))=false) :
  FnOk P w K mg base CX0 1 a fd ["self",f] (spIni K [f]):=by
 refine F.okX S (λvs H Q E h=>h.len) λu A outer s H vs Q E hr h=>?_;refine⟨_,by rw[hb];exact B8 (VW (yY (i:=0) rfl (S.vis (by simp))) (yY (i:=1) rfl (S.vis (by simp)) hd t) rfl),?_⟩;let⟨e,C,v,rfl,x,o,hs,q⟩:=h
 match v,x with
 |[y],_=>
  refine⟨y,rfl,.ref e,rfl,e,C,rfl,hs f (by simp),.inl ⟨o,λdx nd ne=>?_⟩⟩;exact q dx _ nd ne (by rw[ag ne,ak];rfl) ak λb z r=>by rw[ag z,ag r]
end
structure IniX(P:aaA)(w:World)(K:Io)(mg:Str->Option oR)(base:aaR)(x:Str)(fs:List Str):Prop where
 ex:∃(C fI:Addr) (fd:abZ) (oI:Obj),mg x=some (.ref C)/\aal K aag x=some (some (.ref C))/\qY K C vErr "ValueError.__new__" fI=true/\abP K (.ref C)=true/\K.lookup fI=some oI/\oI.cls = .type "function"/\
  FnOk P w K mg base CX0 1 fI fd ("self" :: fs) (spIni K fs)/\Binds K fd ("self" :: fs) []/\∀f∈fs,StoK K C f
def delH(H:Hp)(e:Addr):Hp:=λb=>if b=e then none else H b
section
variable {X:Cx}{pins:List (Addr×Obj)}{σ:St}{H:Hp}{s:Ad}{e:Addr}
theorem Inv.trackO{o:HO}(I:Inv X pins σ H s)(y:Yg X pins e)(a:H e=none)(new:ObjOk X.prog X.w (upd H e o) s.heap e o):Inv X pins σ (upd H e o) s:=by
 have ne:∀b u,H b=some u->b≠e:=λb u q z=>by rw[z,a]at q;cases q
 have hok:HOk X.prog X.w (upd H e o) s.heap:=λb u q=>by
  by_cases hb:b=e
  .subst hb;rw[ak]at q;grind
  .rw[ag hb]at q;exact(I.hok b u q).stay (λ_ _ _ z=>z) (λc z=>by rw[ag (ne c _ z)];exact z) λc f z=>by rw[ag (ne c _ z)];exact z
 refine I.stepN (h':=s.heap) (g':=s.gens) (d':=s.drawn) (t':=s.toks) (ch:=[e]) (λb hb=>?_) (λb o _ _ _ q _=>q) (λb o _ _ _ q _=>⟨o.slots,q⟩) (λb o d q n=>?_) (λb o _ q=>⟨o,q⟩) (λb xs q=>?_) (λb o u q=>?_) (λb p q=>⟨#[],?_⟩) (λm h=>h) hok I.bare
 .cases aah.mp hb
  exact⟨.inr y.1,y.2.1,y.2.2.1,y.2.2.2⟩
 .rw[ag λz=>d (by rw[z];exact aah.mpr rfl)];exact n
 .rw[ag (ne b _ q)];exact q
 .rw[ag (ne b _ q)];exact q
 .rw[ag (ne b _ q),q];simp
theorem Inv.untrack{a:aaR->Prop}(I:Inv X pins σ H s)(y:Yg X pins e)(d:H e=some (.ext a)):Inv X pins σ (delH H e) s:=by
 have out:∀b u,H b=some u->(∀a,u≠.ext a)->delH H e b=some u:=λb u q n=>by
  unfold delH
  grind
 have hok:HOk X.prog X.w (delH H e) s.heap:=λb u q=>by
  unfold delH at q
  split at q
  .cases q
  .exact(I.hok b u q).stay (λ_ _ _ z=>z) (λc z=>out c _ z λ_=>by intro y;cases y) λc f z=>out c _ z λ_=>by intro y;cases y
 refine I.stepN (h':=s.heap) (g':=s.gens) (d':=s.drawn) (t':=s.toks) (ch:=[e]) (λb hb=>?_) (λb o _ _ _ q _=>q) (λb o _ _ _ q _=>⟨o.slots,q⟩) (λb o g q n=>?_) (λb o _ q=>⟨o,q⟩) (λb xs q=>out b _ q λ_=>by intro y;cases y) (λb o u q=>out b _ q λ_=>by intro y;cases y) (λb p q=>⟨#[],?_⟩) (λm h=>h) hok I.bare
 .cases aah.mp hb
  exact⟨.inr y.1,y.2.1,y.2.2.1,y.2.2.2⟩
 .unfold delH;split
  .rfl
  .exact n
 .rw[out b _ q λ_=>by intro y;cases y];simp
structure MadeX(X:Cx)(pins:List (Addr×Obj))(σ:St)(H:Hp)(s':Ad)(e C dx:Addr)(xs:List (Str×V))(H':Hp):Prop where
 inv:Inv X pins σ H' s'
 xf:XF (Yg X pins) H' s'.heap e (.ref C) (some dx)
 raw:∃oe vs,s'.heap.get? e=some oe/\oe.cls = .ref C/\oe.data = .fields vs/\vs[1]?=some .none
 fld:H' dx=some (.xd xs)
 new:H dx=none
 old:∀b o,H b=some o->H' b=some o
 cls:∃nm q N bs bm sn sub ab col dd k0 k1 k2 k3 k5,s'.heap.get? C=some (afI nm q C N bs bm true sn sub ab col dd k0 k1 k2 k3 k5 "ValueError.__new__")/\OwnTail s'.heap vErr bm
theorem JK{x:Str}{fs:List Str}{a:List oR}{vs:List V}{Q:oR->Ad->Prop}{E:oR->Ad->Prop}(M:IniX X.prog X.w X.K X.mg X.base x fs)(A:aal X.K aag x=some (some (.ref C)))(hx:X.ex=[])(hr:Room 2 X.A)(I:Inv X pins σ H s)(r:Vals vs a)(hl:vs.length=fs.length)(hz:a.length≤aaf)
  (h:∀e dx i s',MadeX X pins σ H s' e C dx (fs.zip vs) i->Q (.ref e) s'):wpAny (model X.prog X.w) X.A (call (.ref C) a) Q E s:=by
 let⟨C0,fI,fd,oI,hm,f,hi,_,O,R,F,hb,G⟩:=M.ex;rw[A]at f;cases f;let⟨bm,N,Y,q,bs,sn,sub,U,k,W,k0,k1,S,Z,k5,mN,p,hN,c,T⟩:=ql I.kIn hi;let⟨hp,g,d,t,os⟩:=s;refine U4 PySem.F.excBase_ValueError T p hN c (I.kIn _ _ O) R (λl e n=>?_) hz;have I1:Inv X pins σ H ⟨l,g,d,t,os⟩:=I.kept (h':=l) (t':=t) n.keeps;have y:Yg X pins e:=I.yg hx n.new;have hu:H e=none:=I.hok.nil n.new;let⟨tt,he,_,_⟩:=n.there;have B:=I1.trackO (o:=xo e C none) y hu (Pc he rfl);have sp:spIni X.K fs (.ref e::vs) (upd H e (xo e C none)) (λv i=>v = .non/\∃dx,i dx=some (.xd (fs.zip vs))/\i e=some (xo e C (some dx))/\H dx=none/\∀b,b≠e->b≠dx->i b=H b) (λ_ _ _=>False):=
  ⟨e,C,vs,rfl,hl,ak,G,λdx i nd ne a1 a2 m=>⟨rfl,dx,a1,a2,by rw[ag ne]at nd;exact nd,λb l h2=>by rw[m b l h2,ag l]⟩⟩
 have r2:Vals (V.ref e::vs) (aaZ e::a):=.cons rfl r;have L:((aaZ e::a)++[]).length=("self" :: fs:List Str).length:=by rw[aaO,<-r2.length];exact F.len _ _ _ _ sp
 have bd:=hb _ (aaZ e::a) B.kIn L;rw[aaO]at bd;refine agc (adK (F.run _ X.stack _ _ ⟨aaZ e::a,[]⟩ (aaZ e::a) _ _ _ (hr.make C a []) (B.env0.make C a []) bd r2 sp) λr s' j=>?_)
 cases r with
 |error _=>exact abO j
 | ok fl=>
  cases fl with
  |next=>exact abO j
  |brk=>exact abO j
  |cont=>exact abO j
  | ret u=>
   let⟨v,i,D,rv,rfl,dx,a1,a2,m,a4⟩:=B.after j;let⟨vs',sl,e1,e2⟩:=Mj D.hok a2;have J:dx≠e:=λz=>by rw[z,a2]at a1;cases a1
   refine⟨rv,h e dx (delH i e) s' ⟨D.untrack y a2,⟨y,if_pos rfl,_,_,e1,rfl,rfl,rfl,.inl e2⟩,⟨_,_,e1,rfl,rfl,e2⟩,?_,m,λb o ho=>?_,?_⟩⟩
   .unfold delH;rw[if_neg J];exact a1
   .have b1:b≠e:=λz=>by rw[z,hu]at ho;cases ho
    have b2:b≠dx:=λz=>by rw[z,m]at ho;cases ho
    unfold delH;rw[if_neg b1,a4 b b1 b2];exact ho
   .obtain⟨bm,N,Y,q,bs,sn,sub,U,k,W,k0,k1,S,Z,k5,mN,p,hN,c,T⟩:=ql D.kIn hi;exact⟨Y,q,N,bs,bm,sn,sub,U,k,W,k0,k1,S,Z,k5,p,T⟩
end
section
variable {A:aa2}{M:Model}{E:oR->Ad->Prop}{env:Env}{s:Ad}
def Bo{x:Sem oR}{Q:Flow->Ad->Prop}(H:A.handled=none)
  (h:wpAny M A x (λv a=>∃e o vs C y q N bs i b u sub p f r D l m z k n,v = .ref e/\a.heap.get? e=some o/\o.cls = .ref C/\o.data = .fields vs/\vs[1]?=some .none/\a.heap.get? C=some (afI y q C N bs i b u sub p f r D l m z k n)/\i.contains (.type "BaseException")=true/\E (.ref e) a) E s):wpAny M A (raiseStmt env (some x) none) Q E s:=by
 unfold raiseStmt;refine aD (ab9 h (λv s1 J=>?_) λ_ _ x=>x);let⟨e,o,vs,C,y,q,N,bs,i,b,u,sub,p,f,r,D,l,m,z,k,n,rfl,j,B,g,F,t,d,I⟩:=J;let⟨O,R,L,G⟩:=o;dsimp only at B g;subst B g;have c:(aaZ C::i).contains (.type "BaseException")=true:=by rw[List.contains_cons,d,aet]
 repeat (first|with_reducible refine adz j ?_|with_reducible refine adz t ?_|(with_reducible refine wpAny_isSubtype_exc t ?_;rw[c])|with_reducible refine aD (aaQ j rfl F ?_)|wp_step)
 apply wpAny_raiseNew_none H I
end
def zipF:List Str->List dL->List (dL×dL)
 |f::fs,d::ds=>(.str f,d)::zipF fs ds
 |_,_=>[]
def DenAs(K:Kd)(H:Hp):List dL->List V->Prop
 |[],[]=>True
 |d::ds,v::vs=>Den K H d v/\DenAs K H ds vs
 |_,_=>False
theorem DenAs.len{K:Kd}{H:Hp}:∀{ds:List dL}{vs:List V},DenAs K H ds vs->ds.length=vs.length
 |[],[],_=>rfl
 |_::_,_::_,h=>by simp[DenAs.len h.2]
 |[],_::_,h=>h.elim
 |_::_,[],h=>h.elim
theorem DenAs.mono{K:Kd}{H a:Hp}(p:Pers H a):∀{ds:List dL}{vs:List V},DenAs K H ds vs->DenAs K a ds vs
 |[],[],_=>trivial
 |_::_,_::_,h=>⟨Den.mono p h.1,DenAs.mono p h.2⟩
 |[],_::_,h=>h.elim
 |_::_,[],h=>h.elim
theorem DenAs.fields{K:Kd}{H:Hp}:∀{fs:List Str}{ds:List dL}{vs:List V},DenAs K H ds vs->DenXF K H (zipF fs ds) (fs.zip vs)
 |[],_,_,_=>by simp[zipF,DenXF]
 |_::_,[],[],_=>by simp[zipF,DenXF]
 |f::fs,d::ds,v::vs,h=>by
  exact⟨v,_,rfl,h.1,DenAs.fields h.2⟩
 |_::_,[],_::_,h=>h.elim
 |_::_,_::_,[],h=>h.elim
theorem IL{K:Kx}{b:Al}{c H:Hp}:∀{ds:List dL}{vs:List V},RelRs K b c H (ds.map .imm) vs->DenAs K.toKd H ds vs
 |[],_,h=>by cases h;trivial
 |d::ds,_,h=>by
  cases h with
  |cons a t=>exact⟨a,IL t⟩
section
variable {X:Cx}{a:Expr}{es:List Expr}{w:WA}{pos c np:Pos}{x:Str}{fs:List Str}{E:dL->MSt->Prop}
def uv(x:Str)(fs:List Str)(E:dL->MSt->Prop)(w:WA):WS:=λD m=>w m λrs m1=>∃ds:List dL,rs=ds.map .imm/\ds.length=fs.length/\fs.length≤1000/\E (.dict ((.none,.str x)::zipF fs ds)) m1
def MadeX.pers{p:List (Addr×Obj)}{f:St}{H d:Hp}{s':Ad}{e dx:Addr}(M:MadeX X p f H s' e C dx xs d):Pers H d:=⟨λb xs q=>M.old b _ q,λb o u q=>M.old b _ q⟩
theorem zy(z:IniX X.prog X.w X.K X.mg X.base x fs)(B:XL X E)(hr:Room 2 X.A)(hc:X.calm=true)(ha:MA X (a::es) w)(O:Gl X x:=by rfl)(l:(x==("__debug__" : Str))=false:=by decide)
  (U:OR (a::es) X.env=(false,eval a X.env)::OR es X.env:=by first|exact aV rfl|rfl) (j:(abw c (OR es X.env)).any (·.1)=false:=by rfl) :
  MS X (.Raise (some (.Call (.Name x np) (a::es) [] c)) none pos) (uv x fs E w):=by
 intro p s u H D I h;let⟨g,m,De,Rl,V,k⟩:=h;let⟨C,fI,fd,oI,hm,d,hi,v,Z,hfc,F,hb,hst⟩:=id z.ex;rw[arm_exec_Raise];simp only[evalOpt,Option.map];refine aD (aci (Bo (I.ok.hd hc) (aD ?_)));have n:=ha c p s u H (λvs f=>∃m1 rs,_/\Rel X.kx g m1 u f/\RelRs X.kx g H f rs vs) I ⟨g,m,_,Rl,V,λrs m1 vs f kk n1 R rr F1=>⟨m1,rs,kk,R,rr⟩⟩;refine acQ (iG I O hm ?_ l);refine afj (h₀:=X.base) I.ok.mod.kin v (thn n λW s1 ⟨vs,f,A,r,m1,rs,⟨ds,i,Y,hz,hE⟩,R,rr⟩=>⟨A.kIn,?_⟩) U j;subst i;have y:=IL rr;have lv:vs.length=fs.length:=by rw[<-y.len];exact Y
 have lu:W.length≤aaf:=by rw[<-r.length,lv,aaj];omega
 refine JK z d B.ex hr A r lv lu λe dx H' L M=>aD (aci (Dl ?_));let⟨oe,os,z1,z2,z3,S⟩:=M.raw;let⟨nm,q,N,bs,bm,sn,sub,ab,t,dd,k0,k1,J,k3,k5,G,T⟩:=M.cls;refine⟨e,oe,os,C,nm,q,N,bs,bm,true,sn,sub,ab,t,dd,k0,k1,J,k3,k5,_,rfl,z1,z2,z3,S,G,T.hasType (by decide),?_⟩;exact B.go p u f H' g m1 _ L e (.ref C) (some dx) R hE M.pers ⟨rfl,λb o q _=>M.old b o q,λa ha=>(by cases ha),λa ha=>(by let⟨o,eo,_⟩:=R.mem ha;exact⟨o,M.old a o eo⟩)⟩ M.inv M.xf ⟨x,C,_,rfl,rfl,d,.inr ⟨dx,_,rfl,M.fld,M.new,(y.mono M.pers).fields⟩⟩
end
structure IniK(K:Io)(x:Str)(fs:List Str):Prop where
 ex:∃(C fI:Addr) (fd:abZ) (oI:Obj),aal K aag x=some (some (.ref C))/\qY K C vErr "ValueError.__new__" fI=true/\abP K (.ref C)=true/\K.lookup fI=some oI/\oI.cls = .type "function"/\
  (∀P w mg base,FnOk P w K mg base CX0 1 fI fd ("self" :: fs) (spIni K fs))/\Binds K fd ("self" :: fs) []/\∀f∈fs,StoK K C f
structure IniM(K:Io)(mg:Str->Option oR)(x:Str)(fs:List Str):Prop where
 x:∀{P:aaA}{w:World}{base:aaR},IniX P w K mg base x fs
theorem IniK.m{h:aaR}{mg:Str->Option oR}{x:Str}{fs:List Str}(k:IniK K x fs)(X:K.In h)(G:h.Ns aag mg):IniM K mg x fs:=⟨by
 let⟨C,fI,fd,o,a,b,c,d,e,f,g,i⟩:=k.ex;exact⟨C,fI,fd,o,adZ X G a,a,b,c,d,e,f _ _ _ _,g,i⟩⟩
section
variable {K:Io}{x qual:Str}{C e:Addr}{st:Stmt}{m kV d pm b ct:oR}{od o an:Option Addr}{j:ClassData}{p h:Array (Option oR)}{f g:Str}{q r t u v z A B:Pos}
theorem IniK.of1(S:FnScope ["self",f] ["self",f] (ac st))(hb:bV st=[.Assign [.Attribute (.Name "self" q) f r] (.Name f t) u])(hd:(f==("__debug__" : Str))=false)(H:(f==("__classdict__" : Str))=false)
  (bd:∀(kV d pm:oR) (an:Option Addr) (b ct:oR) (E:List oR),E.length=(["self",f]:List Str).length->bindArgs (acG "__init__" qual (gC st) (bV st) (ac st) .none kV d pm an b ct) ⟨E,[]⟩=pure ((["self",f]:List Str).zip E))
  (a:aal K aag x=some (some (.ref C))) (I:K.lookup C=some ⟨m,od,.cls j,p⟩) (n:aal K j.ns "__init__" = some (some (.ref e)))
  (l:K.lookup e=some ⟨.type "function",o,.func (acG "__init__" qual (gC st) (bV st) (ac st) .none kV d pm an b ct),h⟩) (c:aem K b qual=true) (k:abP K (.ref e)=true) (F:abP K (.ref C)=true)
  (i:qY K C vErr "ValueError.__new__" e=true) (s:Qw K C=true) (sa:abt K (.ref C) "__setattr__" = some (some (.builtin "object.__setattr__"))) (ob:adv K C (.type "object")=some true) (D:abt K (.ref C) f=some none):IniK K x [f]:=
 ⟨C,e,_,_,a,i,F,l,rfl,λP w mg base=>ini1 (yc l c k) S hb hd H,(yc l c k).binds bd,λy G=>by rw[aah.mp G];exact⟨s,sa,D,ob⟩⟩
end
end L2
set_option maxHeartbeats 1100000
namespace L2
open PySem PySem.Spec PyProof.Rows
open Sem (wp)
variable{Q:oR->Ad->Prop}{H:Hp}{a:Addr}{o:Obj}{es:List (V×V)}{w:World}{K:Kd}{kvs:List (dL×dL)}{P:List (dL×dL)->Prop}
structure EntAt(h:aaR)(d:Addr)(es:Array ab3)(ep:Nat):Prop where
 ex:∃o,h.get? d=some o/\o.ExactDict/\o.data = .dict es ep
section
variable {prog:aaA}{w:World}{A:aa2}{E:oR->Ad->Prop}{s:Ad}{f d:Addr}{es:Array ab3}{i l:Nat}{ok p:oR}
def qV{Q:String->Ad->Prop}(b:s.TypeIs (.ref f) "dict_itemiterator")(h:Q "dict_itemiterator" s):wpAny (model prog w) A (typeNameOfWhole (.ref f)) Q E s:=wpAny_typeNameOfWhole_itemiter b h
def wx{j n:Nat}{k v:oR}(h:acy s.heap f d j n l ok p)
  (O:∀h',afO h' f d j n l k v s.heap.objs.size->h'.get? s.heap.objs.size=some {cls:=.type "tuple",data:=.seq #[k,v]}->h'.objs.size=s.heap.objs.size+1 ->
   (∀b o,b≠f->s.heap.get? b=some o->h'.get? b=some o)->Q (.ref s.heap.objs.size) {s with heap:=h' }):wpAny (model prog w) A (ab1 (.ref f) 6 k v) Q E s:=by
 have lt:f<s.heap.objs.size:=aab h;rcases s with⟨hp,g,M,tk,os⟩;refine aD (m:=newTuple [k,v]) (afp ?_);have z0:(hp.push {cls:=.type "tuple",data:=.seq #[k,v]}).objs.size=hp.objs.size+1:=abq ..;have D:(hp.push {cls:=.type "tuple",data:=.seq #[k,v]}).get? hp.objs.size=some {cls:=.type "tuple",data:=.seq #[k,v]}:=aai _ rfl;have z:∀b o,hp.get? b=some o->(hp.push {cls:=.type "tuple",data:=.seq #[k,v]}).get? b=some o:=λb o q=>AD _ q;have e:acy (hp.push {cls:=.type "tuple",data:=.seq #[k,v]}) f d j n l ok p:=z _ _ h;show wpAny _ _ (abT (.ref f) >>= _) _ _ ⟨hp.push {cls:=.type "tuple",data:=.seq #[k,v]},g,M,tk,os⟩;generalize hp.push {cls:=.type "tuple",data:=.seq #[k,v]}=G at z0 D z e;refine aD (m:=abT (.ref f)) ?_;refine aD (m:=field (.ref f) 0) (aaQ e rfl (x:=.none) rfl (Dl ?_));refine aD (m:=field (.ref f) 6) (aaQ e rfl (x:=ok) rfl (aD (m:=field (.ref f) 7) (aaQ e rfl (x:=p) rfl ?_)));refine aD (m:=ac5 (.ref f) 6 k) (aaC e (by simp) λS i1 s1=>?_);have u:acy S f d j n l k p:=i1;refine aD (m:=ac5 (.ref f) 7 v) (aaC u (by simp) λJ i2 s2=>?_);have B:acy J f d j n l k v:=i2;refine aD (m:=ac5 (.ref f) 0 (acq hp.objs.size)) (aaC B (by simp) λL i3 C=>?_);have y:afO L f d j n l k v hp.objs.size:=i3;refine aD (m:=ac5 (.ref f) 1 (.bool false)) (aaC y (by simp) λr N I=>?_);have t:afO r f d j n l k v hp.objs.size:=N;have F:∀b o,b≠f->G.get? b=some o->r.get? b=some o:=λb o c q=>I.extBut b o c (C.extBut b o c (s2.extBut b o c (s1.extBut b o c q)));have R:r.objs.size=G.objs.size:=by rw[I.1,C.1,s2.1,s1.1]
 exact aD (m:=letGo _ _) (afE (Dl (O r t (F _ _ (aa8 lt) D) (R.trans z0) λb o c q=>F b o c (z b o q))))
def qE{Q:Option oR->Ad->Prop}(h:acy s.heap f d i es.size l ok p)(x:EntAt s.heap d es l)(I:i<es.size)
  (J:∀h',afO h' f d (i+1) es.size l es[i].key es[i].val s.heap.objs.size->h'.get? s.heap.objs.size=some {cls:=.type "tuple",data:=.seq #[es[i].key,es[i].val]}->h'.objs.size=s.heap.objs.size+1 ->
   (∀b o,b≠f->s.heap.get? b=some o->h'.get? b=some o)->Q (some (.ref s.heap.objs.size)) {s with heap:=h' }):wpAny (model prog w) A (acP (.ref f)) Q E s:=by
 let⟨L,k,y,n⟩:=x.ex;have c:s.TypeIs (.ref f) "dict_itemiterator":=(⟨_,h,rfl⟩);have own:aby "dict_itemiterator" = true:=by decide
 unfold acP;refine aD (acK (aaU (name:=ack "__next__") c aa6 (aa0 aa6 c acf ?_ (ab7 _))))
 wp_walk using qV c,afv h rfl,ac6 k n,adt k n,abd c
 have F:(if (i:Int)<0 then none else es[((i:Nat):Int).toNat]?)=some es[i]:=by
  rw[if_neg (by omega),aaW,acW I]
 rw[F];rcases s with⟨hp,g,u,tk,os⟩;refine aD ?_;refine aD (qV c (Dl ?_));refine aD (m:=afw _ _) (abd c ?_);show wpAny _ _ (ac5 (.ref f) 3 (acq ((i:Int)+1)) >>= _) _ _ _;refine aD (aaC h (by simp) λj C s1=>?_);replace s1:abo f hp j:=s1;have e:acy j f d (i+1) es.size l ok p:=by
  have q:((i+1:Nat):Int)=(i:Int)+1:=rfl;unfold acy;rw[q];simpa[acq]using C
 have T:afP ⟨j,g,u,tk,os⟩ (.ref f) "dict_itemiterator":=(⟨_,e,rfl⟩);refine aD (abu (aD (abd T (aD (abd T ?_)))));show wpAny _ _ (ab1 (.ref f) 6 es[i].key es[i].val) _ _ ⟨j,g,u,tk,os⟩;have D:j.objs.size=hp.objs.size:=s1.1;refine wx e λB v t z G=>?_;rw[D]at v t z⊢;exact Dl ⟨_,rfl,Dl (J B v t z λb o r q=>G b o r (s1.extBut b o r q))⟩
def qy{Q:Option oR->Ad->Prop}(t:A.handled=none)(h:acy s.heap f d i es.size l ok p)(k:EntAt s.heap d es l)(B:es.size≤i)
  (C:∀h',(∀b o,b≠f->s.heap.get? b=some o->h'.get? b=some o)->Q none {s with heap:=h' }):wpAny (model prog w) A (acP (.ref f)) Q E s:=by
 let⟨G,g,n,j⟩:=k.ex;have c:s.TypeIs (.ref f) "dict_itemiterator":=(⟨_,h,rfl⟩);have own:aby "dict_itemiterator" = true:=by decide
 unfold acP;refine aD (acK (aaU (name:=ack "__next__") c aa6 (aa0 aa6 c acf ?_ (ab7 _))))
 wp_walk using qV c,afv h rfl,ac6 g j,adt g j,abd c
 have v:(if (i:Int)<0 then none else es[((i:Nat):Int).toNat]?)=none:=by
  rw[if_neg (by omega),aaW,agp B]
 rw[v];refine aD (aD (qV c (Dl ?_)));refine aD (m:=ac5 (.ref f) 2 .none) (aaC h (by simp) λI F s1=>?_);refine oU t λr e x ⟨y,u,D⟩=>?_;exact aD (adi (T:= "StopIteration") (b:=true) ⟨y,u,D⟩ afr (Dl (C r λb o z q=>x b o (s1.extBut b o z q))))
theorem EntAt.keep{h h':aaR}(x:EntAt h d es l)(k:∀o,h.get? d=some o->h'.get? d=some o):EntAt h' d es l:=let ⟨o,a,b,c⟩:=x.ex;⟨o,k o a,b,c⟩
theorem EntAt.ty(x:EntAt s.heap d es l):s.TypeIs (.ref d) "dict":=let ⟨o,a,b,_⟩:=x.ex;⟨o,a,b.1⟩
def m9(hd:(d==abD)=false)(b:EntAt s.heap d es l)(h:Q (.ref s.heap.objs.size) {s with heap:=s.heap.push {cls:=.type "dict_items",data:=.fields #[.ref d]} }):wpAny (model prog w) A (call (.builtin "dict.items") [.ref d]) Q E s:=by
 refine ahz (S:=λ_ R s=>EntAt s.heap d es l/\R (.ok (.ret (.ref s.heap.objs.size))) {s with heap:=s.heap.push {cls:=.type "dict_items",data:=.fields #[.ref d]} }) aej b.ty PySem.F.entry_dict_items (PySem.F.args_dict_items_1 _) (.of_wp λA R s ⟨c,h⟩=>?_) ⟨b,h⟩;refine aD (aD (agE c.ty ?_));refine Dl ?_;refine aD ?_;unfold acE.Dict.showsAll;rw[hd];exact Dl (aD (aa3 (Dl ⟨_,rfl,h⟩)))
def wm{v:Addr}(e:s.heap.get? v=some {cls:=.type "dict_items",data:=.fields #[.ref d]})(j:EntAt s.heap d es l)
  (m:∀h',acy h' s.heap.objs.size d 0 es.size l .none .none->(∀b o,s.heap.get? b=some o->h'.get? b=some o)->Q (.ref s.heap.objs.size) {s with heap:=h' }):wpAny (model prog w) A (afi (.ref v)) Q E s:=by
 let⟨n,h,k,c⟩:=j.ex;have g:s.TypeIs (.ref v) "dict_items":=(⟨_,e,rfl⟩);have own:aby "dict_itemiterator" = true:=by decide
 refine afK g acz (aa0 acz g aeZ ?_ (aeK _));refine aD (Dl (aD (aD (aaQ e rfl (x:=.ref d) rfl (Dl (aD (aD (ac6 h c (aD (adt h c ?_))))))))));simp only[own,if_true];refine aa3 (Dl ⟨_,rfl,"dict_itemiterator",_,⟨_,aai _ rfl,rfl⟩,acM.lookup,?_⟩) (by simp only[sizeOk,ad0,aay,aat,aaI,ae9,aaj];decide);exact m _ (aai _ rfl) λb o q=>AD _ q
end
def DcE(H:Hp)(a:Addr)(o:Obj)(es:List (V×V)):Prop:=(∃x,H a=some (.frz o (dX a x))/\es=x.map (·.2))\/∃x,H a=some (.frz o (.dK x))/\es=x.map λp=>(kV p.1,p.2)
def DcE.mono{b:Hp}(p:Pers H b)(h:DcE H a o es):DcE b a o es:=by
 rcases h with⟨x,e,q⟩|⟨x,e,q⟩
 .exact .inl ⟨x,p.frzs _ _ _ e,q⟩
 .exact .inr ⟨x,p.frzs _ _ _ e,q⟩
section
variable {X:Cx}{p:List (Addr×Obj)}{b:St}{H:Hp}{s:Ad}
def K9{P:aaA}{kk:Key}{u:oR}(e:(cC P w).is kk u=true):RelV (kV kk) u:=by
 rcases bF e with⟨i,t,rfl,rfl⟩|⟨x,t,rfl,rfl⟩
 .exact⟨t,rfl⟩
 .exact⟨t,rfl⟩
theorem Inv.dce(I:Inv X p b H s)(h:DcE H a o es):(a==abD)=false/\∃c f,s.heap.get? a=some o/\o.ExactDict/\o.data = .dict c f/\abN (λ(e:V×V) (d:ab3)=>RelV e.1 d.key/\RelV e.2 d.val) es c.toList:=by
 rcases h with⟨x,e,rfl⟩|⟨x,e,rfl⟩
 .obtain⟨ho,⟨hs,hz,o',c,f,h1,h2,h3,h4⟩,_⟩:=(I.hok a _ e);rw[ho]at h1;cases h1;refine⟨hs,c,f,ho,h2,h3,?_⟩;clear e hz;generalize c.toList=l at h4;rename_i z;clear z
  induction h4 with
  |nil=>exact .nil
  |cons q _ i=>exact .cons q.2 i
 .obtain⟨ho,hz,hs,vs,kv,o',c,f,h1,h2,h3,h4,h5,h6⟩:=(I.hok a _ e);rw[ho]at h1;cases h1;refine⟨hs,c,f,ho,h2,h3,?_⟩;generalize c.toList=l at h5;clear h6 h4 h3 h2 hz e
  induction kv generalizing l with
  |nil=>cases h5;exact .nil
  | cons q _ i=>
   cases h5 with
   |cons g k j=>
    rw[aaD];refine .cons ⟨?_,?_⟩ (i _ j)
    .rw[<-q.1]at g;exact K9 g
    .rw[k];exact q.2
end
def Itm(a:Addr)(o:Obj)(es:List (V×V)):It where
 go:=λi H=>DcE H a o es/\i<es.length
 yld:=λi H v b=>∃T p,v = .ref T/\H T=none/\b=upd H T (.tup [p.1,p.2])/\es[i]?=some p
 stop:=λi H=>DcE H a o es/\es.length≤i
theorem Paired.at{b β:Type}{R:b->β->Prop}:∀{xs:List b}{ys:List β}{i:Nat}{y:β},abN R xs ys->ys[i]?=some y->∃x,xs[i]?=some x/\R x y
 |_,_,i,y,.nil,e=>by simp at e
 |_,_,0,y,.cons h _,e=>by simp at e;subst e;exact⟨_,rfl,h⟩
 |_,_,i+1,y,.cons _ t,e=>by
  let⟨x,d,c⟩:=Paired.at t ‹_›;exact⟨x,by simpa using d,c⟩
def FH:entryFor table "dict_itemiterator.__iter__" = some acE.«dict_keyiterator.__iter__»:=entryFor_alias (id':= "dict_keyiterator.__iter__") rfl (by rfl) (by decide +kernel) rfl
def Aw{prog:aaA}{A:aa2}{E:oR->Ad->Prop}{s:Ad}{b d:Addr}{i n e:Nat}{ok f:oR}(st:acy s.heap b d i n e ok f)(h:Q (.ref b) s):wpAny (model prog w) A (afi (.ref b)) Q E s:=by
 have c:s.TypeIs (.ref b) "dict_itemiterator":=⟨_,st,rfl⟩;refine afK c ad1 (aa0 ad1 c FH ?_ (PySem.F.args_dict_itemiterator_iter_1 _));refine Dl ⟨_,rfl,"dict_itemiterator",_,c,acM.lookup,?_⟩;exact h
theorem v9{P:aaA}{K:Io}{m:List Expr}{T:Nat}{pos:Pos}{f:Addr}{e:Array ab3}{S:Nat}(ho:o.data = .dict e S):Turn P w K (.Tuple m T pos) (Itm a o es) [f] f (λi h=>∃ok g,acy h f a i e.size S ok g) where
 mem:=by simp
 obj:=λi h st c b=>by
  let⟨ok,g,A⟩:=st
  cases aah.mp b
  exact⟨_,A,λv q=>by cases q⟩
 keep:=λi h h' st k=>by
  let⟨ok,g,A⟩:=st;exact⟨ok,g,k f (by simp) _ A⟩
 item:=by
  intro X O B M b i d s F H E I u st D;subst O B M;let⟨ok,g,st⟩:=st;let⟨dc,hi⟩:=D;let⟨_,j,C,G,L,r,t⟩:=I.dce dc;rw[ho]at r;cases r;have V:es.length=e.size:=by have:=t.length;simpa using this
  have l:i<e.size:=by omega
  let⟨p,Z,W,Y⟩:=Paired.at t (i:=i) (y:=e[i]) (by simp[l]);refine qE st ⟨o,G,L,ho⟩ l λh' a1 a2 a3 a4=>⟨.ref s.heap.objs.size,rfl,?_⟩;refine wpAny_letOwnedTupleGo_items (s:={s with heap:=h' }) a1 λx b1 sb=>?_;have J:H s.heap.objs.size=none:=I.hok.fresh (Ge _);have N:f≠s.heap.objs.size:=aaK (aab st);have R:∀c o,c≠f->h'.get? c=some o->x.get? c=some o:=λc o n q=>sb.extBut c o n q;have T2:x.get? s.heap.objs.size=some {cls:=.type "tuple",data:=.seq #[e[i].key,e[i].val]}:=R _ _ (abb N) a2;have I0:Inv X d F (upd H s.heap.objs.size (.tup [p.1,p.2])) {s with heap:=s.heap.push {cls:=.type "tuple",data:=.seq #[e[i].key,e[i].val]},toks:=s.toks}:=
   I.laid (o:=.tup [p.1,p.2]) (λc o q=>AD _ q) (Ge _) ⟨by show 2≤aaf;rw[aaj];decide,[e[i].key,e[i].val],.cons W (.cons Y .nil),PlainT.new _ _⟩
  have Il:Inv X d F (upd H s.heap.objs.size (.tup [p.1,p.2])) {s with heap:=x,toks:=s.toks}:=by
   refine Inv.turneds (s:={s with heap:=s.heap.push {cls:=.type "tuple",data:=.seq #[e[i].key,e[i].val]},toks:=s.toks}) (h':=x) (t':=s.toks) (ch:=[f]) I0 (λc o b q=>?_) λc b=>?_
   .have hc':c≠f:=λz=>b (by simp[z]);rcases aeV q with⟨rfl,rfl⟩|q
    .exact T2
    .exact R c o hc' (a4 c o hc' q)
   .obtain⟨f0,f1⟩:=u c b
    cases aah.mp b
    exact⟨by rw[ag N];exact f0,f1⟩
  refine⟨.ref s.heap.objs.size,upd H s.heap.objs.size (.tup [p.1,p.2]),Il,rfl,⟨_,p,rfl,J,rfl,Z⟩,⟨_,_,b1⟩,λc b=>?_⟩
  cases aah.mp b
  rw[ag N];exact(u _ b).1
 done:=by
  intro X O B M b i d s F H E I u st D;subst O B M;let⟨ok,g,st⟩:=st;let⟨dc,hi⟩:=D;let⟨_,j,C,G,L,r,t⟩:=I.dce dc;rw[ho]at r;cases r;have V:es.length=e.size:=by have:=t.length;simpa using this
  exact qy (I.ok.hd b) st ⟨o,G,L,ho⟩ (by omega) λh' U=>⟨rfl,I.turneds (t':=s.toks) (ch:=[f]) (λc o b q=>U c o (λz=>b (by simp[z])) q) u⟩
 self:=λ_ _ _ _ _ st h=>by
  let⟨ok,g,st⟩:=st;exact Aw st h
theorem AM{K:Kd}{H:Hp}:∀{kvs:List (dL×dL)}{xs:List (Int×V×V)},DenKV K H kvs xs->abN (λ(p:dL×dL) (e:V×V)=>Den K H p.1 e.1/\Den K H p.2 e.2) kvs (xs.map (·.2))
 |[],_,h=>by simp[DenKV]at h;subst h;exact .nil
 |_::r,_,h=>by
  let⟨u,v,vs,rfl,c,b,d⟩:=h;exact .cons ⟨c,b⟩ (AM d)
theorem CC{K:Kd}{H:Hp}:∀{kvs:List (dL×dL)}{xs:List (Key×V)},DenKK K H kvs xs->abN (λ(p:dL×dL) (e:V×V)=>Den K H p.1 e.1/\Den K H p.2 e.2) kvs (xs.map λp=>(kV p.1,p.2))
 |[],_,h=>by simp[DenKK]at h;subst h;exact .nil
 |(k,d)::r,_,h=>by
  let⟨c,v,vs,rfl,⟨rfl,_⟩,b,f⟩:=h;refine .cons ⟨?_,b⟩ (CC f)
  cases c with
  |inl i=>exact tQ i
  |inr x=>exact Lw x
abbrev PDc(K:Kd)(H:Hp):List (dL×dL)->List (V×V)->Prop:=abN λp e=>Den K H p.1 e.1/\Den K H p.2 e.2
theorem PDc.mono{b:Hp}(p:Pers H b)(h:PDc K H kvs es):PDc K b kvs es:=by
 induction h with
 |nil=>exact .nil
 |cons h _ i=>exact .cons ⟨h.1.mono p,h.2.mono p⟩ i
theorem Sx{v:V}(h:Den K H (.dict kvs) v)(b:isKd kvs=true\/kyA kvs=true):∃a o es,v = .ref a/\DcE H a o es/\PDc K H kvs es:=by
 obtain _:=ml b;let⟨a,rfl,h⟩:=h;rcases h with⟨x,⟨o,f⟩,k,g⟩|⟨x,o,f,g⟩|⟨c,x,e,_⟩
 .exact⟨a,o,_,rfl,.inl ⟨x,f,rfl⟩,AM g⟩
 .exact⟨a,o,_,rfl,.inr ⟨x,f,rfl⟩,CC g⟩
 .grind
def cq(kvs:List (dL×dL)):List dL:=kvs.map λp=>.tuple [p.1,p.2]
theorem Paired.at1{b β:Type}{R:b->β->Prop}:∀{xs:List b}{ys:List β}{i:Nat}{x:b},abN R xs ys->xs[i]?=some x->∃y,ys[i]?=some y/\R x y
 |_,_,i,y,.nil,e=>by simp at e
 |_,_,0,y,.cons h _,e=>by simp at e;subst e;exact⟨_,rfl,h⟩
 |_,_,i+1,y,.cons _ t,e=>by
  let⟨x,d,c⟩:=Paired.at1 t ‹_›;exact⟨x,by simpa using d,c⟩
def y9:Wks K (Itm a o es) (cq kvs) λH=>DcE H a o es/\PDc K H kvs es where
 stop:=λH ⟨q,g⟩=>⟨q,by unfold cq;rw[gE,g.length];exact Ge _⟩
 go:=λi H h ⟨q,g⟩=>⟨q,by unfold cq at h;rw[gE,g.length]at h;exact h⟩
 yld:=λi H x n h ⟨q,g⟩ y=>by
  let⟨T,u,rfl,j,rfl,e⟩:=y;let⟨p,l,k,f⟩:=Paired.at g e;have c:∀b o,H b=some o->upd H T (.tup [u.1,u.2]) b=some o:=λb o q=>by rw[ag (bg q j)];exact q
  have d:Pers H _:=⟨λb m q=>c b _ q,λb o u q=>c b _ q⟩;exact⟨c,.tuple [p.1,p.2],by unfold cq;rw[aaa,l];rfl,df (SqT.of ak) (DenAll.cons (k.mono d) (DenAll.cons (f.mono d) DenAll.nil))⟩
section
variable {X:Cx}{tg o:Expr}{i:List Expr}{j:Nat}{t:Pos}{w:WE}{f g:Pos}
def Ua(to:TE):TI:=λc H R=>to c H λx b=>∃a o es,x = .ref a/\DcE b a o es/\R (Itm a o es) b
theorem FJ{to:TE}(ho:PE X o to)(k:aa5 o "items" X.env (eval o X.env)=eval o X.env:=by rfl)(d:(f.endLine==g.line)=true:=by rfl):PI X (.Tuple i j t) (.Call (.Attribute o "items" f) [] [] g) (Ua to):=by
 intro p s C H R I h;refine aeh k d (thn (ho p s C H _ I h) λv s1 ⟨x,D,n,r1,G⟩=>?_);let⟨a,ob,es,rfl,dc,q⟩:=G;cases r1;let⟨hs,l,F,r,u,A,L⟩:=n.dce dc;have y:EntAt s1.heap a l F:=⟨ob,r,u,A⟩;refine⟨"dict","dict.items",aei,aej,af7,⟨ob,r,u.1⟩,λb e=>by cases e;exact⟨ob,r,u.2.1⟩,acH rfl (afd (m9 hs y ?_))⟩;have z:∀b o,s1.heap.get? b=some o->(s1.heap.push {cls:=.type "dict_items",data:=.fields #[.ref a]}).get? b=some o:=λb o q=>AD _ q;refine wm (aai _ rfl) (y.keep λo=>z _ o) λJ Z B=>?_;have m:s1.heap.objs.size≤(s1.heap.push {cls:=.type "dict_items",data:=.fields #[.ref a]}).objs.size:=by rw[abq];exact agJ _
 refine⟨_,[_],_,_,D,rfl,n.kept (t':=s1.toks) λb o q=>B b o (z b o q),v9 A,⟨_,_,Z⟩,λc E=>?_,q⟩
 cases aah.mp E
 exact n.fpOk m (n.hok.fresh m)
def onDc(P:List (dL×dL)->Prop):R->Prop
 | .imm (.dict kvs)=>(isKd kvs||kyA kvs)=true/\P kvs
 |_=>False
theorem Po{b:Al}{l:Hp}{r:R}{v:V}(h:RelR K b l H r v)(k:onDc P r):∃kvs a o es,v = .ref a/\DcE H a o es/\PDc K H kvs es/\P kvs:=by
 cases r with
 | imm d=>
  cases d with
  |dict kvs=>
   let⟨p,m⟩:=k;let⟨a,o,es,c,n,e⟩:=Sx (h) (by simp_all);exact⟨kvs,a,o,es,c,n,e,m⟩
  |none=>exact k.elim
  |bool _=>exact k.elim
  |int _=>exact k.elim
  |str _=>exact k.elim
  |list _=>exact k.elim
  |tuple _=>exact k.elim
 |_=>exact k.elim
def um(w:WE):WI:=λm K=>w m λr b=>onDc (λkvs=>K ⟨cq kvs,none⟩ b) r
theorem Gh(ho:ME X o w)(b:aa5 o "items" X.env (eval o X.env)=eval o X.env:=by rfl)(h:(f.endLine==g.line)=true:=by rfl):MI X (.Tuple i j t) (.Call (.Attribute o "items" f) [] [] g) (um w):=(FJ ho b h).wk<|by
 intro D H C ⟨l,m,B,e,d,c⟩;refine⟨l,m,_,e,d,λr q v u k n R rr F=>?_⟩;let⟨kvs,a,ob,es,rfl,dc,s,k⟩:=Po rr k;exact⟨a,ob,es,rfl,dc,c _ q _ u k n R F ⟨_,y9,⟨dc,s⟩,by intro z A ⟨x,y⟩ p;exact⟨x.mono p,y.mono p⟩⟩⟩
theorem x8(ho:EE X o w)(h:aa5 o "items" X.env (eval o X.env)=eval o X.env:=by rfl)(b:(f.endLine==g.line)=true:=by rfl):EI X (.Tuple i j t) (.Call (.Attribute o "items" f) [] [] g) (um w):=⟨Gh ho.h h b⟩
def LG{m:MSt}{b:Src->MSt->Prop}(h:w m λr c=>onDc (λkvs=>b ⟨cq kvs,none⟩ c) r):um w m b:=h
def Iq(b:(isKd kvs||kyA kvs)=true)(h:P kvs):onDc P (.imm (.dict kvs)):=⟨b,h⟩
end
noncomputable def putX (k:dL) (b:Addr) (r:oR):List (dL×Addr×oR)->List (dL×Addr×oR)
 |[]=>[(k,b,r)]
 |x::xs=>if x.1=k then(x.1,x.2.1,r)::xs else x::putX k b r xs
theorem vo{k:dL}{r:oR}:∀{xs:List (dL×Addr×oR)},k∉xs.map (·.1)->xs.map (putAt k r)=xs
 |[],_=>rfl
 |x::xs,h=>by
  rw[aaD,aaq,not_or]at h;rw[aaD,vo h.2];unfold putAt;rw[if_neg (λz=>h.1 z.symm)]
theorem ls{k:dL}{b:Addr}{r:oR}:∀{xs:List (dL×Addr×oR)},(xs.map (·.1)).Nodup->storedH xs k b r=putX k b r xs
 |[],_=>rfl
 | x::xs,h=>by
  rw[aaD,abk]at h
  by_cases e:x.1=k
  .have a:atKey (x::xs) k=some x.2:=by simp[atKey,e]
   rw[storedH_old a,aaD,vo (by rw[<-e];exact h.1)];unfold putX putAt;rw[if_pos e,if_pos e]
  .have a:atKey (x::xs) k=atKey xs k:=by simp[atKey,e]
   have i:=ls (k:=k) (b:=b) (r:=r) h.2;unfold putX;rw[if_neg e,<-i];unfold storedH;rw[a];split
   .rw[aaD];unfold putAt;rw[if_neg e]
   .rfl
noncomputable def putE (w:World) (k:dL) (y v:V):List (dL×dL)->List (Int×V×V)->List (Int×V×V)
 |(k',_)::r,e::es=>if k'=k then(e.1,e.2.1,v)::es else e::putE w k y v r es
 |_,_=>[(dg w k,y,v)]
def BH{k d k' d':dL}{r:List (dL×dL)}(h:kyD k'=true)(b:kyD k=true):putP k d ((k',d')::r)=if k'=k then(k',d)::r else(k',d')::putP k d r:=by
 show(if aar k' k=true then _ else _)=_;rw[p6 _ _ (lQ h) (lQ b)];simp
theorem vn(w:World)(k:dL)(y v:V):∀(kvs:List (dL×dL)) (es:List (Int×V×V)),kvs.length=es.length->(putE w k y v kvs es).length≤es.length+1
 |[],[],_=>Ge _
 |_::r,e::es,h=>by
  unfold putE;split
  .simp
  .rw[aaI,aaI];have:=vn w k y v r es (by simpa using h);omega
 |[],_::_,h=>by simp at h
 |_::_,[],h=>by simp at h
theorem uC{K:Kd}{H:Hp}{k d:dL}{y v:V}(h:kyD k=true)(c:Den K H k y)(b:Den K H d v):∀{kvs:List (dL×dL)}{es:List (Int×V×V)},kyA kvs=true->DenKV K H kvs es->DenKV K H (putP k d kvs) (putE K.w k y v kvs es)
 |[],es,_,g=>by
  subst g;show DenKV K H [(k,d)] [(dg K.w k,y,v)];simp only[DenKV];exact⟨y,v,[],rfl,c,b,rfl⟩
 |(k',d')::r,es,ha,g=>by
  rw[kyA,acL,aa1]at ha;let⟨u,l,vs,rfl,f,j,i⟩:=g;rw[BH ha.1 h];unfold putE
  by_cases e:k'=k
  .rw[if_pos e,if_pos e];simp only[DenKV];exact⟨u,v,vs,rfl,f,b,i⟩
  .rw[if_neg e,if_neg e];simp only[DenKV];exact⟨u,l,_,rfl,f,j,uC h c b ha.2 i⟩
theorem JY{k:dL}{b:Addr}{v:V}{r:oR}(e:RelV v r):∀{kvs:List (dL×dL)}{es:List (Int×V×V)}{xs:List (dL×Addr×oR)},xs.map (·.1)=kvs.map (·.1)->ExV w es xs->ExV w (putE w k (.ref b) v kvs es) (putX k b r xs):=by
 intro kvs
 induction kvs with
 |nil=>
  intro es xs d ex;have:=by simpa using d
  subst this;exact .cons ⟨rfl,rfl,e⟩ .nil
 | cons q kvs i=>
  intro es xs d ex;let⟨f,g⟩:=q
  cases ex with
  |nil=>simp at d
  |cons h t=>
   simp at d;unfold putE putX
   by_cases c:f=k
   .rw[if_pos c,if_pos (d.1.trans c)];exact .cons ⟨h.1,h.2.1,e⟩ t
   .rw[if_neg c,if_neg (λz=>c (d.1.symm.trans z))];exact .cons h (i d.2 t)
def DxM(K:Kd)(H:Hp)(a:Addr)(kvs:List (dL×dL))(es:List (Int×V×V)):Prop:=
 DenKV K H kvs es/\(kvs.map (·.1)).Nodup/\kyA kvs=true/\((H a=some (dX a es)/\kvs≠[])\/(H a=some (.dK [])/\kvs=[]))
section
variable {X:Cx}{c:List (Addr×Obj)}{f:St}{H:Hp}{s:Ad}{a:Addr}{kvs:List (dL×dL)}{es:List (Int×V×V)}{k d:dL}{y v:V}{u r:oR}{A:aa2}{E:oR->Ad->Prop}
def DxM.is(I:Inv X c f H s)(h:DxM X.kd H a kvs es):(a==abD)=false/\∃xs,s.heap.DictOfH (l6 X.prog X.w) a xs/\PxV X.kd H kvs xs/\ExV X.w es xs:=by
 obtain⟨g,nd,ky,⟨q,_⟩|⟨q,rfl⟩⟩:=h
 .obtain⟨hs,_,xs,dd,p,e⟩:=I.dcE (.inl q) g nd ky;exact⟨hs,xs,dd,p,e⟩
 .obtain⟨hs,dd⟩:=I.dc0 (.inl q);subst g;exact⟨hs,[],dd,.nil,.nil⟩
theorem BF{Q:Unit->Ad->Prop}(J:A.units+20<cLine)(I:Inv X c f H s)(h:DxM X.kd H a kvs es)(n:kyD k=true)(m:Den X.kd H k y)(B:RelV y u)(C:RelV v r)(V:kvs.length<aaf)
  (j:∀s',Inv X c f (upd H a (dX a (putE X.w k y v kvs es))) s'->Q () s'):wpAny (model X.prog X.w) A (dictSet a u r) Q E s:=by
 let⟨hs,x,D,p,ex⟩:=h.is I;let⟨b,rfl⟩:=vp n m;cases (B);have le:es.length=kvs.length:=h.1.len.symm;have U:x.length=kvs.length:=by have:=congrArg aeT p.keys;simpa using this
 refine wpAny_dictSet_heap (knd:=l6 X.prog X.w) J (I.ky n m) D (λT g i=>j _ ?_) (by omega);rw[ls (by rw[p.keys];exact h.2.1)]at g;let⟨o,e,M,l,G,z,t,O,S⟩:=g;have R:Mut (H a):=by
  rcases h.2.2.2 with⟨q,_⟩|⟨q,_⟩
  .rw[q];exact trivial
  .rw[q];exact trivial
 refine sX I R i ⟨o,l⟩ ⟨⟨hs,?_,o,e,M,l,G,z,?_⟩,⟨o,l⟩,λha hb F N=>?_⟩
 .have:=vn X.w k (.ref b) v kvs es le.symm;omega
 .rw[t];have:=JY (w:=X.w) (k:=k) (b:=b) C p.keys ex;generalize putE X.w k (.ref b) v kvs es=Y at this;generalize putX k b r x=W at this;clear t O S
  induction this with
  |nil=>exact .nil
  |cons q _ L=>exact .cons ⟨q.1.symm,by rw[q.2.1];rfl,q.2.2⟩ L
 .obtain⟨z1,z2,o',ents',ep',z3,z4⟩:=F;exact⟨z1,z2,o',ents',ep',N o' z3,z4⟩
theorem vY{Q:Unit->Ad->Prop}(t:A.units+64<cLine)(I:Inv X c f H s)(h:DxM X.kd H a kvs es)(j:kyD k=true)(g:Den X.kd H k y)(i:RelV y u)(l:RelV v r)(n:kvs.length<aaf)
  (e:∀s',Inv X c f (upd H a (dX a (putE X.w k y v kvs es))) s'->Q () s'):wpAny (model X.prog X.w) A (ahs (.ref a) u r) Q E s:=by
 let⟨hs,x,b,q,ex⟩:=h.is I;refine abu ?_;refine aD (afB b.typeIs (by decide) ?_);refine aD (aaU b.typeIs slot_dict_setitem (aa0 slot_dict_setitem b.typeIs entry_dict_setitem ?_ (args_dict_setitem _ _ _)));refine aD (agE b.typeIs ?_);refine aD (m:=dictSet a u r) (BF (by grind) I h j g i l n λs' p=>Dl ⟨.none,rfl,Dl (e s' p)⟩)
end
def TZ(K:Kd)(e ty t:TE):TS:=λD b H=>t b H λv f=>e b f λx d=>ty b d λy c=>∃a kvs es k,x = .ref a/\DxM K c a kvs es/\kyD k=true/\Den K c k y/\kvs.length<aaf/\D.nx b (upd c a (dX a (putE K.w k y v kvs es)))
section
variable {X:Cx}{o i e:Expr}{B t A:WE}{pos f:Pos}{G ty E:TE}
theorem Ft(z:X.A.units+64<cLine)(ho:PE X o G)(J:PE X i ty)(L:PE X e E)(hs:abH e (some (.Subscript o i f)) pos.line X.env=pure false):PS X (.Assign [.Subscript o i f] e pos) (TZ X.kd G ty E):=by
 intro p s b H D I h;refine agn (thn (L p s b H _ I h) λr s1 ⟨v,F,O,l,R⟩=>thn (ho p s1 b F _ O R) λu s2 ⟨x,n,c,N,q⟩=>thn (J p s2 b n _ c q) λV S ⟨y,T,d,j,a,kvs,es,k,ex,dx,ky,g,M,m⟩=>?_) hs;subst ex;obtain rfl:u=aaZ a:=N;exact vY z d dx ky g j l M λU C=>⟨b,_,C,m⟩
theorem lB{k d:dL}(b:kyD k=true):∀{kvs:List (dL×dL)},kyA kvs=true->(putP k d kvs).map (·.1)=if k∈kvs.map (·.1)then kvs.map (·.1)else kvs.map (·.1)++[k]
 |[],_=>rfl
 | (k',d')::r,h=>by
  rw[kyA,acL,aa1]at h;rw[BH h.1 b]
  by_cases e:k'=k
  .rw[if_pos e,if_pos (by simp[e])];rfl
  .rw[if_neg e,aaD,lB b h.2]
   by_cases c:k∈r.map (·.1)
   .rw[if_pos c,if_pos (by simp[c])];rfl
   .rw[if_neg c,if_neg (by simp only[aaD,aaq,not_or];exact⟨λz=>e z.symm,c⟩)];rfl
def v8{k d:dL}(g:kyD k=true)(h:kyA kvs=true)(nd:(kvs.map (·.1)).Nodup):((putP k d kvs).map (·.1)).Nodup:=by
 rw[lB g h];split
 .omega
 .rename_i c;exact afC.mpr ⟨nd,by simp,λa ha b hb=>by simp at hb;subst hb;exact λz=>c (z▸ha)⟩
theorem vG{k d:dL}(b:kyD k=true)(h:kyA kvs=true):kyA (putP k d kvs)=true:=by
 have e:∀l:List _,kyA l=(l.map _).all kyD:=λl=>by unfold kyA;rw[adM];rfl
 rw[e,lB b h];rw[e]at h;split
 .exact h
 .rw[List.all_append,h];simp[b]
theorem JX(k d:dL)(kvs:List (dL×dL)):putP k d kvs≠[]:=by
 cases kvs with
 |nil=>intro h;cases h
 |cons x r=>
  show(if _ then _ else _)≠_
  split<;>simp
theorem Gu(h:kyA kvs=true)(n:kvs≠[]):isKd kvs=false:=by
 cases kvs with
 |nil=>exact(n rfl).elim
 |cons x r=>
  let⟨k,d⟩:=x;rw[kyA,acL,aa1]at h;let⟨ds,rfl,_⟩:=je h.1;rfl
def iM(h:kyA kvs=true)(n:kvs≠[])(nd:(kvs.map (·.1)).Nodup):zW kvs:=
 ⟨Gu h n,nd,λk b=>by
  let⟨x,c,rfl⟩:=aau.mp b;exact lQ (abV.mp h x c)⟩
def BZ(A B t:WE):WS:=λD m=>A m λc m1=>c8 (λd=>B m1 λg m2=>t m2 λr b=>onAt (λk p=>c8 (λy=>p=[]/\∃kvs,b.os[k]?=some [.dict (lfKV kvs)]/\kyA kvs=true/\kyD y=true/\kvs.length<aaf/\D.nx {b with os:=b.os.set k [.dict (lfKV (putP y d kvs))]}) r) g) c
def AE(kvs:List (dL×dL)):kyA (lfKV kvs)=kyA kvs:=by
 unfold kyA lfKV;rw[adM];rfl
theorem Rel.dx{K:Kx}{l:Al}{m:MSt}{s:St}{k:Nat}{τ:List (List Nat×Addr)}(R:Rel K l m s H)(q:l[k]?=some (.T τ))(x:τ.lookup []=some a)(p:m.os[k]?=some [.dict (lfKV kvs)])(ky:kyA kvs=true):∃es,DxM K H a kvs es:=by
 let⟨⟨I,y,z,g,D,r,v⟩,_⟩:=R.own k (.T τ) _ q p;cases z;let⟨n1,n2⟩:=ml (.inr (by rw[AE];exact ky));rcases g with⟨d,h,_⟩|⟨_,_,b,es,h,u,j,n,g⟩|⟨_,_,b,es,h,u,j,g⟩|⟨c,b,dx,C,F,z0,_⟩
 .rw[n1]at h;cases h
 .rw[x]at h;cases h;exact⟨es,fzKV g,by rw[<-fH];exact n.2.1,ky,.inl ⟨j,λz=>by subst z;exact absurd n.1 (by decide)⟩⟩
 .simp_all
  let⟨rfl,rfl⟩:=OT (fzKK g) ky;exact⟨[],by simp only[DenKV],adh,rfl,.inr ⟨j,rfl⟩⟩
 .grind
theorem Gf(hu:X.A.units+64<cLine)(he:ME X e A)(ho:ME X o B)(hi:ME X i t)(hs:abH e (some (.Subscript o i f)) pos.line X.env=pure false:=by rfl):MS X (.Assign [.Subscript o i f] e pos) (BZ A B t):=(Ft hu ho hi he hs).wk<|by
 intro D σ H ⟨C,m,De,Rl,hw,k⟩;refine⟨C,m,_,Rl,hw,λr m1 v H1 q n1 l rr F1=>?_⟩;let⟨d,er,hd,q⟩:=fc rr q;refine⟨C,m1,_,l,q,λro m2 ov H2 q2 n2 s L W=>⟨C,m2,_,s,q2,λri m3 Z j h n3 R N Y=>?_⟩⟩;let⟨kk,p,τ,a,rfl,J,x,rfl,h⟩:=T5 L h;let⟨y,rfl,U,rfl,kvs,T,ky,c,hl,h⟩:=fc N h;let⟨es,dx⟩:=R.dx J x T ky;have M:Den X.kx j d v:=(hd.mono (l.pers W)).mono (s.pers Y);let⟨⟨t1,v0,z,g,a0,n,S⟩,mu⟩:=R.own kk (.T τ) _ J T;cases z;let⟨u0,O,I⟩:∃u,j a=some u/\Mu u=true:=by
  rcases dx.2.2.2 with⟨q,_⟩|⟨q,_⟩
  .exact⟨_,q,rfl⟩
  .exact⟨_,q,rfl⟩
 have F:Pers j (upd j a (dX a (putE X.w y Z v kvs es))):=bo (.inr ⟨u0,O,I⟩);have ok:=iM (kvs:=putP y d kvs) (vG c ky) (JX y d kvs) (v8 c ky dx.2.1);have new:TAt X.kx (upd j a (dX a (putE X.w y Z v kvs es))) τ [] (.dict (lfKV (putP y d kvs))) (.ref a):=by
  let⟨z1,z2⟩:=ml (.inr (by rw[AE];exact vG c ky):isKd (lfKV (putP y d kvs))=true\/kyA (lfKV (putP y d kvs))=true);simp only[TAt];refine .inr (.inl ⟨z1,z2,a,_,x,rfl,ak,⟨by rw[jw];exact ok.1,by rw[fH];exact ok.2.1,by rw[fH];exact ok.2.2⟩,J6 ?_⟩);exact uC c (U.mono F) (M.mono F) ky (DenKV.mono F dx.1)
 rw[x]at n;cases n;subst S;let⟨V,F4⟩:=R.setW J F (ds':=[.dict (lfKV (putP y d kvs))]) (λb hb=>ag λeb=>hb (eb▸bu x)) ⟨⟨_,.ref a,rfl,new,a,x,rfl⟩,λb hb=>by
  by_cases eb:b=a
  .subst eb;exact⟨_,ak,rfl⟩
  .rw[ag eb];exact mu b hb⟩
 exact⟨a,kvs,es,y,rfl,dx,c,U,hl,k.nx C _ σ _ h (n3.trans (n2.trans n1)) V (.of V (((F1.trans W).trans Y).trans F4))⟩
def ll(b:X.A.units+64<cLine)(h:EE X e A)(ho:EE X o B)(c:EE X i t)(hs:abH e (some (.Subscript o i f)) pos.line X.env=pure false:=by rfl):ES X (.Assign [.Subscript o i f] e pos) (BZ A B t):=⟨Gf b h.h ho.h c.h hs⟩
def tz{D:dJ}{m:MSt}(h:A m λc m1=>c8 (λd=>B m1 λg m2=>t m2 λr b=>onAt (λk p=>c8 (λy=>p=[]/\∃kvs,b.os[k]?=some [.dict (lfKV kvs)]/\kyA kvs=true/\kyD y=true/\kvs.length<aaf/\D.nx {b with os:=b.os.set k [.dict (lfKV (putP y d kvs))]}) r) g) c):BZ A B t D m:=h
def wFzX(w:WS):WS:=λD m=>∃(k j:Nat) (kvs:List (dL×dL)) (b:List Nat) (m2:MSt),m.vs[j]?=some (some (.at k []))/\m.os[k]?=some [.dict (lfKV kvs)]/\kyA kvs=true/\Fz k (.dict kvs) b m m2/\w D m2
theorem Qe{st:Stmt}{w:WS}(h:MS X st w):MS X st (wFzX w):=(QC h).wk<|by
 intro D u H ⟨z,m,J,R,⟨k,x,kvs,C,m2,r,s,ky,F,g⟩,l⟩;let⟨v,I,L,a,c,d,rfl⟩:=R.var x _ r;let⟨es,dx⟩:=R.dx c d s ky;have n:∀(j:Nat) (v:V),(m.vs[j]?=some (some (.obj k))\/m.vs[j]?=some (some (.at k [])))->u[j]?=some (some v)->v = .ref a:=λj v b y=>by
  rcases b with b|b
  .obtain⟨v',ev',a',ea',_⟩:=R.var j _ b;rw[c]at ea';cases ea'
  .obtain⟨v',ev',τ',a',ea',el',rfl⟩:=R.var j _ b
   grind
 rcases dx.2.2.2 with⟨q,ne⟩|⟨q,rfl⟩
 .refine sY R l F c (bu d) q rfl rfl (λo p=>?_) n g;simp only[Den];exact⟨a,rfl,.inl ⟨es,⟨o,ak⟩,iM ky ne dx.2.1,DenKV.mono p dx.1⟩⟩
 .refine sY R l F c (bu d) q rfl rfl (λo p=>?_) n g;simp only[Den];exact⟨a,rfl,.inr (.inl ⟨[],o,ak,by simp only[DenKK]⟩)⟩
def LB{st:Stmt}{w:WS}(h:ES X st w):ES X st (wFzX w):=⟨Qe h.h⟩
def UV{w:WS}{D:dJ}{m:MSt}(k j:Nat)(kvs:List (dL×dL))(b:List Nat)(m2:MSt)(d:m.vs[j]?=some (some (.at k [])))(g:m.os[k]?=some [.dict (lfKV kvs)])(c:kyA kvs=true)(F:Fz k (.dict kvs) b m m2)(h:w D m2):wFzX w D m:=⟨k,j,kvs,b,m2,d,g,c,F,h⟩
def O4(K:Kd)(tk E:TE):TE:=λc H Q=>∀p,H p=none->tk c (upd H p (.dK [])) λy d=>E c d λv b=>b p=some (.dK [])/\∃k,kyD k=true/\Den K b k y/\∀ob,Q (.ref p) (upd b p (.frz ob (dX p [(dg K.w k,y,v)])))
theorem H9{tk E:TE}(T:X.A.units+64<cLine)(D:PE X i tk)(l:PE X e E):PE X (.Dict [some i] [e] pos) (O4 X.kd tk E):=by
 intro p s d H Q I q;have J:=I.hok.fresh (Ge s.heap.objs.size);have O:=I.laid (o:=.dK []) (h':=s.heap.push {cls:=.type "dict",data:=.dict #[]}) (t':=s.toks) (λ_ _ q=>AD _ q) (Ge _) (ou s.heap I.big);refine wpAny_Dict_any rfl rfl (by simp) (show 1≤15 by decide) (pairTrees_cons_walk (thn (D p _ d _ _ O (q _ J)) λu s1 ⟨y,N,j,C,R⟩=>thn (l p s1 d N _ j R) λr s2 ⟨v,g,m,F,x,k,ky,z,L⟩=>pairTrees_nil_walk ?_));unfold storeAll;rw[ad5];refine aD (aD (BF (kvs:=[]) (es:=[]) (by omega) m ⟨by simp only[DenKV],adh,rfl,.inr ⟨x,rfl⟩⟩ ky z C F (by rw[aaj];decide) λS M=>Dl ?_));let⟨ob,h⟩:=M.freezeU ak rfl;have n:upd (upd g s.heap.objs.size (dX s.heap.objs.size (putE X.w k y v [] []))) s.heap.objs.size (.frz ob (dX s.heap.objs.size (putE X.w k y v [] [])))=upd g s.heap.objs.size (.frz ob (dX s.heap.objs.size [(dg X.w k,y,v)])):=by
  funext b
  by_cases c:b=s.heap.objs.size
  .subst c;rw[ak,ak];rfl
  .rw[ag c,ag c,ag c]
 rw[n]at h;exact Dl ⟨.ref s.heap.objs.size,_,h,rfl,L ob⟩
def zc(wk c:WE):WE:=λm K=>wk m λb m1=>c8 (λk=>c m1 λr m2=>c8 (λd=>kyD k=true/\K (.imm (.dict [(k,d)])) m2) r) b
theorem Fv(U:X.A.units+64<cLine)(S:ME X i t)(O:ME X e A):ME X (.Dict [some i] [e] pos) (zc t A):=(H9 U S O).wk<|by
 intro σ H Q ⟨g,m,Z,q,N,D⟩;intro p hp;refine⟨g,m,_,q.lay hp,N,λW m1 y H1 u n1 l r M=>?_⟩;let⟨k,rfl,F,u⟩:=fc r u;refine⟨g,m1,_,l,u,λY m2 v j x n2 R s I=>?_⟩;let⟨d,rfl,hd,kd,x⟩:=fc s x;have c:p∉ads g:=q.out hp;have J:j p=some (.dK []):=I p _ (M p _ ak c) c;have n:Den X.kx j k y:=F.mono (l.pers I);refine⟨J,k,kd,n,λob=>?_⟩;have C:Pers j (upd j p (.frz ob (dX p [(dg X.w k,y,v)]))):=bo (.inr ⟨_,J,rfl⟩);have fr:Frm g H (upd j p (.frz ob (dX p [(dg X.w k,y,v)]))):=λb o eb L=>by
  have ne:b≠p:=bg eb hp;rw[ag ne];exact I b o (M b o (by rw[ag ne];exact eb) L) L
 have old:Ext X.kx.eb.np g H g (upd j p (.frz ob (dX p [(dg X.w k,y,v)]))):=⟨rfl,fr,λ_ h=>.inl h,λb hb=>by
  have z:b≠p:=λe=>c (e▸hb);rw[ag z];let⟨V,T,_⟩:=R.mem hb;exact⟨V,T⟩⟩
 refine D _ m2 _ _ x (n2.trans n1) (R.at' C (λb hb=>ag λe=>c (e▸hb)) (q.ebx.trans old)) (show Den X.kx _ (.dict [(k,d)]) (.ref p)from ?_) fr;simp only[Den];refine⟨p,rfl,.inl ⟨_,⟨ob,ak⟩,iM (by simp[kyA,kd]) (by simp) (by simp),?_⟩⟩;simp only[DenKV];exact⟨y,v,[],rfl,n.mono C,hd.mono C,rfl⟩
def yq(h:X.A.units+64<cLine)(b:EE X i t)(c:EE X e A):EE X (.Dict [some i] [e] pos) (zc t A):=⟨Fv h b.h c.h⟩
def NR{m:MSt}{K:R->MSt->Prop}(h:t m λb m1=>c8 (λk=>A m1 λr m2=>c8 (λd=>kyD k=true/\K (.imm (.dict [(k,d)])) m2) r) b):zc t A m K:=h
def Cf{a b:dL}(ha:kdD a=true)(hb:kdD b=true):zd a b=aar a b:=by
 let⟨c,rfl⟩:=pJ ha;let⟨k,rfl⟩:=pJ hb;rw[zl,qg]
theorem yE{y d:dL}(b:kdD y=true):∀{kvs:List (dL×dL)},isKd kvs=true->putD y (lfD d) (lfKV kvs)=lfKV (putP y d kvs)
 |[],_=>rfl
 |(k',d')::r,h=>by
  rw[oM,acL,aa1]at h;have c:=yE (d:=d) b (by rw[oM];exact h.2);show(if zd k' y=true then _ else _)=lfKV (if aar k' y=true then _ else _);rw[Cf h.1 b];split
  .rfl
  .show _::putD y _ (lfKV r)=_;rw[c];rfl
end
end L2
namespace K
open PySem L2 M7
variable{a b t:Int}{S n q:Nat}{h:Hall}{r:Rule}{L:List Pr}
def Bg(h:a.natAbs<10^160):acE.Int.intBits a≤540:=intBits_le_iff.mpr (abc h (by decide))
def gn(ha:a.natAbs<10^160)(hb:b.natAbs<10^160):afW a b:=afW.of_le (Bg ha) (Bg hb) (by decide)
theorem cfdB{i:Int}{g:Nat}(h0:0<g)(h:g<10^160):CFd i (g:Int):=⟨by omega,by
 rw[abx];have:=(agM (by exact aa8 ‹_›)).mpr (abc h (show 10^160<2^540 by decide));omega⟩
def nfP(t b:Int):Int×Int:=if b<0 then((-t)/((t.natAbs.gcd b.natAbs:Nat):Int),(-b)/((t.natAbs.gcd b.natAbs:Nat):Int))else(t/((t.natAbs.gcd b.natAbs:Nat):Int),b/((t.natAbs.gcd b.natAbs:Nat):Int))
def nf(t b:Int):dL:=.tuple [.int (nfP t b).1,.int (nfP t b).2]
def Df:SpM:=λc K=>∃t b:Int,c=[.imm (.int t),.imm (.int b)]/\b≠0/\t.natAbs<10^160/\b.natAbs<10^160/\K (.imm (nf t b)) []
structure FrOk(a b:Int):Prop where
 ha:a.natAbs<10^76
 hb:b.natAbs<10^76
 hp:0<b
def frT(a b:Int):dL:=.tuple [.int a,.int b]
def Rg(f:Int->Int->Int->Int->dL):SpM:=λe K=>∃a b c d:Int,e=[.imm (frT a b),.imm (frT c d)]/\FrOk a b/\FrOk c d/\K (.imm (f a b c d)) []
def addF(a b c d:Int):dL:=nf (a*d+c*b) (b*d)
def subF(a b c d:Int):dL:=nf (a*d-c*b) (b*d)
def Uo:SpM:=λe K=>∃a b c d:Int,e=[.imm (frT a b),.imm (frT c d)]/\FrOk a b/\FrOk c d/\c≠0/\K (.imm (nf (a*d) (b*c))) []
theorem i9(ha:a.natAbs<10^76)(hb:b.natAbs<10^76):(a*b).natAbs<10^152:=by
 rw[aeu];have h:=Nat.mul_lt_mul'' ha hb;omega
def yR(h:n<10^152):n<10^160:=abc h (by decide)
def up45(h:n<10^76):n<10^160:=abc h (by decide)
theorem Qh(ha:a.natAbs<10^152)(hb:b.natAbs<10^152):(a+b).natAbs<10^160:=by
 have h:=Int.natAbs_add_le a b;omega
theorem Tz(ha:a.natAbs<10^152)(hb:b.natAbs<10^152):(a-b).natAbs<10^160:=by
 have h:=ahD a b;omega
def BG(ha:0<a)(hb:0<b):a*b≠0:=Int.ne_of_gt (acr ha hb)
def O9:SpM:=Rg addF
def Qi:SpM:=Rg subF
section
variable {d:Type} [e:DecidableEq d]
def addA(a:d)(x:Int):List (d×Int)->List (d×Int)
 |[]=>[(a,x)]
 |p::r=>if p.1=a then(p.1,p.2+x)::r else p::addA a x r
def getA(a:d):List (d×Int)->Int
 |[]=>0
 |p::r=>if p.1=a then p.2 else getA a r
def kvA(enc:d->dL)(L:List (d×Int)):List (dL×dL):=L.map λp=>(enc p.1,.int p.2)
theorem ur{enc:d->dL}(f:∀a b,aar (enc a) (enc b)=decide (a=b))(a:d):∀L:List (d×Int),(de (enc a) (kvA enc L)).getD (.int 0) = .int (getA a L)
 |[]=>rfl
 |p::r=>by
  show(if aar _ _=true then some _ else de _ (kvA enc r)).getD _ = .int (if p.1=a then p.2 else getA a r);rw[f]
  by_cases c:p.1=a
  .rw[if_pos c,if_pos (decide_eq_true c)];rfl
  .rw[if_neg c,if_neg (by rw[decide_eq_false c];decide)];exact ur f a r
theorem zn{enc:d->dL}(f:∀a b,aar (enc a) (enc b)=decide (a=b))(a:d)(x:Int):∀L:List (d×Int),putP (enc a) (.int (getA a L+x)) (kvA enc L)=kvA enc (addA a x L)
 |[]=>by show [(enc a,abC (0+x))]=_;rw[Int.zero_add];rfl
 |p::r=>by
  show(if aar _ _=true then(enc p.1,abC ((if p.1=a then p.2 else getA a r)+x))::kvA enc r else _::putP _ (.int ((if p.1=a then p.2 else getA a r)+x)) (kvA enc r))=kvA enc (if p.1=a then _::r else p::addA a x r);rw[f]
  by_cases c:p.1=a
  .rw[if_pos c,if_pos c,if_pos (decide_eq_true c)];rfl
  .rw[if_neg c,if_neg c,if_neg (by rw[decide_eq_false c];decide),zn f a x r];rfl
theorem oj(a:d)(x:Int):∀L:List (d×Int),(addA a x L).length≤L.length+1
 |[]=>Ge _
 | p::r=>by
  unfold addA;split
  .simp
  .have:=oj a x r
   grind
end
abbrev Pt:=List Nat×Nat
def ptD(p:Pt):dL:=stD p.1 p.2
theorem vy:∀{a b:List Nat},natD a=natD b->a=b
 |[],[],_=>rfl
 |x::a,y::b,h=>by
  simp[natD]at h;rw[show x=y by omega,vy h.2]
 |[],_::_,h=>nomatch h
 |_::_,[],h=>nomatch h
theorem JP(p:Pt):hkD (ptD p)=true:=by
 have c:∀l:List Nat,hkA (natD l)=true:=λl=>by
  induction l with
  |nil=>rfl
  |cons x l i=>show(hkD _&&hkA (natD l))=true;rw[i];rfl
 show(hkD _&&_)=true;rw[show hkD (lnD p.1)=true from c p.1];rfl
theorem mF(p q:Pt):aar (ptD p) (ptD q)=decide (p=q):=by
 rw[p6 _ _ (JP p) (JP q)];refine decide_eq_decide.mpr ⟨λh=>?_,λh=>by rw[h]⟩;have c:=by injection h
 simp at c;have d:=by have:=c.1;injection this
 exact Prod.ext (vy d) (by omega)
instance decWd:DecidableEq Wd:=λa b=>by cases a<;>cases b<;>first|exact isTrue rfl|exact isFalse (λh=>nomatch h)
def Ja(p q:Wd):aar (.str p.s) (.str q.s)=decide (p=q):=by cases p<;>cases q<;>decide
def wdD(w:Wd):dL:=.str w.s
abbrev Ms:=List (Mv×Int)
def msD(M:Ms):List dL:=M.map λp=>.tuple [p.1.d,.int p.2]
def goW1(h:Hall)(r:Rule)(p:Pt)(w:Int)(q:Mv×Int)(x:List (Pt×Int)×List (Wd×Int)):List (Pt×Int)×List (Wd×Int):=
 (addA ((cn h r p.1 p.2 q.1).1,(cn h r p.1 p.2 q.1).2.1) (w*q.2) x.1,addA (cn h r p.1 p.2 q.1).2.2 (w*q.2) x.2)
def goW(h:Hall)(r:Rule)(M:Ms)(x:List (Pt×Int)×List (Wd×Int))(p:Pt×Int):List (Pt×Int)×List (Wd×Int):=M.foldl (λx q=>goW1 h r p.1 p.2 q x) x
theorem rG{l:List Nat}{t:Nat}(ho:h.Ok)(S:St h r l t):kyD (stD l t)=true:=by
 have f:=JP (l,t);have lay:∀l:List Nat,aa9 (natD l)=true:=λl=>by
  have:=k9 (l.map λ(x:Nat)=>(x:Int));rwa[aaN]at this
 have g:∀l:List Nat,aaw (natD l)≤1:=λl=>by
  have:=l8 (l.map λ(x:Nat)=>(x:Int));rwa[aaN]at this
 unfold kyD;rw[show hkD (stD l t)=true from f];have c:(stD l t).canLay0=true:=by
  show aa9 [lnD l,.int (t:Int)]=true;simp only[aa9,aa1];exact⟨lay l,rfl,trivial⟩
 rw[c];have d:(stD l t).depth≤7:=by
  show max (aaw (natD l)+1) (max (abC (t:Int)).depth 0)+1≤7;have e:(abC (t:Int)).depth=0:=rfl
  grind
 rw[decide_eq_true d];rfl
def wtD(W:List (Pt×Int)):dL:=.dict (kvA ptD W)
def FX(ho:h.Ok){W:List (Pt×Int)}(c:∀p∈W,St h r p.1.1 p.1.2):kyA (kvA ptD W)=true:=by
 unfold kyA kvA;rw[adM,abV];exact λp hp=>rG ho (c p hp)
theorem og{c:Type}[DecidableEq c]{a:c}{x:Int}:∀{L:List (c×Int)}{p:c×Int},p∈addA a x L->p.1=a\/∃q∈L,q.1=p.1
 |[],p,h=>by rw[aah.mp h];exact .inl rfl
 | q::r,p,h=>by
  unfold addA at h
  split at h
  .rename_i e
   cases h with
   |head=>exact .inl e
   |tail _ h=>exact .inr ⟨p,aad _ h,rfl⟩
  .cases h with
   |head=>exact .inr ⟨_,aac,rfl⟩
   |tail _ h=>
    rcases og h with e|⟨f,d,e⟩
    .exact .inl e
    .exact .inr ⟨f,aad _ d,e⟩
abbrev Pr:=dL×Int×Nat
def prsD(L:List Pr):List dL:=L.map λp=>.tuple [p.1,.tuple [.int p.2.1,.int (p.2.2:Int)]]
def botL(L:List Pr):Nat:=L.foldl (λm p=>m.lcm p.2.2) 1
def onB(L:List Pr):List dL:=L.map λp=>.tuple [p.1,.int (p.2.1*(((botL L/p.2.2:Nat)):Int))]
def Bj(L:List Pr)(p:Pr):botL (L++[p])=(botL L).lcm p.2.2:=by
 unfold botL;simp
theorem vf{B:Nat}:∀{L:List Pr},(∀p∈L,p.2.2 ∣ B)->botL L ∣ B:=by
 intro L;have key:∀(L:List Pr) m,m ∣ B->(∀p∈L,p.2.2 ∣ B)->L.foldl (λm p=>m.lcm p.2.2) m ∣ B:=by
  intro L
  induction L with
  |nil=>intro m c _;exact c
  |cons p L i=>intro m c h;exact i _ (Nat.lcm_dvd c (h p aac)) λq d=>h q (aad _ d)
 exact λh=>key L 1 (Nat.one_dvd _) h
theorem CY(h:∀p∈L,1≤p.2.2):1≤botL L:=by
 have key:∀(L:List Pr) m,1≤m->(∀p∈L,1≤p.2.2)->1≤L.foldl (λm p=>m.lcm p.2.2) m:=by
  intro L
  induction L with
  |nil=>intro m c _;exact c
  |cons p L i=>intro m c h;exact i _ (Nat.lcm_pos c (h p aac)) λq d=>h q (aad _ d)
 exact key L 1 (Ge _) h
structure BtOk(L:List Pr)(B:Nat):Prop where
 n:L.length≤100
 d:∀p∈L,1≤p.2.2/\p.2.2 ∣ B/\p.2.1.natAbs<10^76
 b0:1≤B
 b:B<10^76
def vJ:SpM:=λc K=>∃(L:List Pr) (B:Nat),c=[.imm (.list (prsD L))]/\BtOk L B/\K (.imm (.tuple [.list (onB L),.int (botL L:Int)])) []
def BtOk.pre{B:Nat}(h:BtOk L B)(i:Nat):1≤botL (L.take i)/\botL (L.take i)<10^76:=by
 have c:∀p∈L.take i,p∈L:=λp hp=>abW hp;refine⟨CY λp hp=>(h.d p (c p hp)).1,aax (afQ h.b0 (vf λp hp=>(h.d p (c p hp)).2.1)) h.b⟩
def L7(m b:Nat)(hb:1≤b):m.lcm b=m*(b/m.gcd b):=by
 exact Nat.mul_div_assoc _ (ac7 m b)
def vx:SpM:=λc K=>∃(t:Int) (b:Nat),c=[.imm (.int t),.imm (.int (b:Int))]/\0<b/\t.natAbs<10^160/\b<10^160/\K (.imm (nf t (b:Int))) []
theorem DB(ha:0<a)(hb:0<b):∃n:Nat,a*b=(n:Int)/\0<n:=by
 have h:=acr ha hb;exact⟨(a*b).toNat,by omega,by omega⟩
def qc(hb:0<b):0<(nfP t b).2/\(nfP t b).2≤b/\(nfP t b).1.natAbs≤t.natAbs:=by
 have c:((t.natAbs.gcd b.natAbs):Int) ∣ b:=acg.mpr (ac7 _ _);have g:((t.natAbs.gcd b.natAbs):Int) ∣ t:=acg.mpr (aeL _ _);unfold nfP;rw[if_neg (by omega)];refine⟨Int.ediv_pos_of_pos_of_dvd hb (by simp) c,Int.ediv_le_self _ (by omega),?_⟩;rw[aev g];exact adr _ _
def cj(h:Hall):Int×Int:=nfP ((h.a:Int)*1) ((h.b:Int)*((ordK h.ss.length h.ss.length).length:Int))
def restF(h:Hall):Nat->Int×Int
 |0=>nfP (1*(h.b:Int)-(h.a:Int)*1) (1*(h.b:Int))
 |k+1=>match h.ss[k]? with
  |some s=>nfP ((restF h k).1*(s.b:Int)-(s.a:Int)*(restF h k).2) ((restF h k).2*(s.b:Int))
  |none=>restF h k
theorem t8(ho:h.Ok)(f:0<(ordK h.ss.length h.ss.length).length):FrOk (cj h).1 (cj h).2:=by
 have a2:=ho.a2;have b1:=ho.b1;have b2:=ho.b2;have n:=(cE h.ss.length ho.n4 h.ss.length ho.n4).1;have hb:0<h.b*((ordK h.ss.length h.ss.length).length:Int):=acr (by omega) (by omega);let⟨c,d,e⟩:=qc hb;have g:h.b*((ordK h.ss.length h.ss.length).length:Int)≤1000000*24:=Int.mul_le_mul (by omega) (by omega) (by simp) (by decide);unfold cj;exact⟨aax e (by omega),by omega,c⟩
theorem d4{h:Hall}(ho:h.Ok):∀k,k≤h.ss.length->0<(restF h k).2/\(restF h k).2≤1000000^(k+1)/\(restF h k).1.natAbs≤(k+1)*1000000^(k+1)
 |0,_=>by
  have a2:=ho.a2;have b1:=ho.b1;have b2:=ho.b2;let⟨d,f,c⟩:=qc (t:=1*(h.b:Int)-(h.a:Int)*1) (b:=1*(h.b:Int)) (by omega);unfold restF;exact⟨d,by omega,aao c (by omega)⟩
 | k+1,hk=>by
  let⟨i1,i2,i3⟩:=d4 ho k (by exact aa7 ‹_›);have j:h.ss[k]?=some h.ss[k]:=iO (by assumption);have s:=ho.ok h.ss[k] (abl _);have sa:=s.a2;have l:=s.b2;have g:=s.b1;have hb:0<(restF h k).2*(h.ss[k].b:Int):=acr i1 (by omega);let⟨d,f,c⟩:=qc (t:=(restF h k).1*(h.ss[k].b:Int)-(h.ss[k].a:Int)*(restF h k).2) hb;unfold restF;rw[j];refine⟨d,ahE f ?_,aao c (aao (ahD _ _) ?_)⟩
  .rw[Int.pow_succ];exact Int.mul_le_mul i2 (by omega) (by simp) (by omega)
  .rw[aeu,aeu,abx,abx,Nat.pow_succ 1000000 (k+1)];have m:(restF h k).1.natAbs*h.ss[k].b≤(k+1)*1000000^(k+1)*1000000:=abG i3 (by exact aa7 ‹_›);have i:h.ss[k].a*(restF h k).2.natAbs≤1000000*1000000^(k+1):=abG (by exact aa7 ‹_›) (by
    have e:((1000000^(k+1):Nat):Int)=(1000000:Int)^(k+1):=by rw[Int.natCast_pow];rfl
    omega)
   rw[abU 1000000 (1000000^(k+1))]at i;rw[show(k+1+1)*(1000000^(k+1)*1000000)=(k+1)*1000000^(k+1)*1000000+1000000^(k+1)*1000000 by rw[Nat.add_mul (k+1) 1,Nat.one_mul,abX]];omega
def ue(ho:h.Ok){k:Nat}(c:k≤h.ss.length):FrOk (restF h k).1 (restF h k).2:=by
 let⟨i1,i2,i3⟩:=d4 ho k c;have n4:=ho.n4;have e:1000000^(k+1)≤1000000^5:=adF (by decide) (by omega);have f:1000000^(k+1)=((1000000^(k+1):Nat):Int):=by rw[Int.natCast_pow];rfl
 have d:(k+1)*1000000^(k+1)≤5*1000000^5:=abG (by omega) e;have p:5*1000000^5<10^76:=by decide
 refine⟨aax i3 (aax d p),?_,i1⟩;omega
def prF(d:dL)(p:Int×Int):Pr:=(d,p.1,p.2.toNat)
def Fw(h:Hall)(k:Nat):List Pr:=(h.ss.take k).zipIdx.map λq=>((Mv.done q.2).d,(q.1.a:Int),q.1.b)
def shrL(h:Hall):List Pr:=(ordK h.ss.length h.ss.length).map (λo=>prF (Mv.come o).d (cj h))++Fw h h.ss.length++if 0<(restF h h.ss.length).1 then [prF Mv.still.d (restF h h.ss.length)]else []
def vO:SpM:=λc K=>∃h:Hall,c=[.imm h.d]/\h.Ok/\K (.new (prsD (shrL h))) []
def Iy:SpM:=λc K=>∃h:Hall,c=[.imm h.d]/\h.Ok/\K (.new ((ordK h.ss.length h.ss.length).map lnD)) []
def gg:∀n≤4,0<(ordK n n).length:=by decide +kernel
def iI(h:Hall):List dL:=(ordK h.ss.length h.ss.length).map λo=>.tuple [(Mv.come o).d,nf ((h.a:Int)*1) ((h.b:Int)*((ordK h.ss.length h.ss.length).length:Int))]
def jW(h:Hall)(k:Nat):List dL:=(aaB k).map λi=>.tuple [(Mv.done i).d,.tuple [.int ((h.ss.getD i ⟨0,0,0⟩).a:Int),.int ((h.ss.getD i ⟨0,0,0⟩).b:Int)]]
def rsD(h:Hall)(k:Nat):dL:=.tuple [.int (restF h k).1,.int (restF h k).2]
def vX(h:Hall)(k:Nat):jW h (k+1)=jW h k++[.tuple [(Mv.done k).d,.tuple [.int ((h.ss.getD k ⟨0,0,0⟩).a:Int),.int ((h.ss.getD k ⟨0,0,0⟩).b:Int)]]]:=by
 unfold jW;rw[ac2,aaE];rfl
def z6(a b:List Pr):prsD (a++b)=prsD a++prsD b:=by unfold prsD;rw[aaE]
theorem UX{d:dL}{p:Int×Int}(hp:0<p.2):prsD [prF d p]=[.tuple [d,.tuple [.int p.1,.int p.2]]]:=by
 show [aes [d,.tuple [.int p.1,.int p.2.toNat]]]=_
 grind
def Nu(ho:h.Ok):prsD ((ordK h.ss.length h.ss.length).map λo=>prF (Mv.come o).d (cj h))=iI h:=by
 unfold prsD iI;rw[aaN];rfl
theorem Jo(h:Hall):prsD (Fw h h.ss.length)=jW h h.ss.length:=by
 unfold prsD Fw jW;rw[ aaN];refine ab0 λi=>?_;rw[aaa,aaa,agS]
 by_cases c:i<h.ss.length
 .simp_all
 .simp_all
def SE(ho:h.Ok):prsD (shrL h)=iI h++jW h h.ss.length++if 0<(restF h h.ss.length).1 then [.tuple [Mv.still.d,rsD h h.ss.length]]else []:=by
 unfold shrL;rw[z6,z6,Nu ho,Jo]
 congr 1
 split
 .exact UX (d4 ho h.ss.length (Ge _)).1
 .rfl
def DW{i:Nat}{s:Srv}(e:h.ss[i]?=some s):rsD h (i+1)=subF (restF h i).1 (restF h i).2 (s.a:Int) (s.b:Int):=by
 unfold rsD;rw[restF,e];rfl
def shrM(h:Hall):List (Mv×Int×Nat):=(ordK h.ss.length h.ss.length).map (λo=>(Mv.come o,(cj h).1,(cj h).2.toNat))++(h.ss.zipIdx.map λq=>(Mv.done q.2,(q.1.a:Int),q.1.b))++if 0<(restF h h.ss.length).1 then [(Mv.still,(restF h h.ss.length).1,(restF h h.ss.length).2.toNat)]else []
def mi(h:Hall):shrL h=(shrM h).map λq=>(q.1.d,q.2):=by
 unfold shrL shrM Fw;rw[aaE,aaE,aaN,aaN,aae]
 split<;>rfl
def botH(h:Hall):Nat:=botL (shrL h)
def msL(h:Hall):Ms:=(shrM h).map λq=>(q.1,q.2.1*((botH h/q.2.2:Nat):Int))
def PC(h:Hall):onB (shrL h)=msD (msL h):=by
 unfold onB msD msL botH;rw[mi,aaN,aaN];rfl
def vh:∀n≤4,1≤n->∀o∈ordK n n,o≠[]/\o.length≤4/\∀k∈o,k<n:=by decide +kernel
def j7{q:Mv×Int×Nat}(c:q∈shrM h):(∃o∈ordK h.ss.length h.ss.length,q=(Mv.come o,(cj h).1,(cj h).2.toNat))\/(∃i,∃d:i<h.ss.length,q=(Mv.done i,(h.ss[i].a:Int),h.ss[i].b))\/q=(Mv.still,(restF h h.ss.length).1,(restF h h.ss.length).2.toNat):=by
 obtain c|c:=aa4.mp c
 .obtain c|c:=aa4.mp c
  .obtain⟨o,ho,rfl⟩:=aau.mp c;exact .inl ⟨o,ho,rfl⟩
  .obtain⟨z,hz,rfl⟩:=aau.mp c;let⟨i,d,e⟩:=abm.mp hz;rw[adq]at d;refine .inr (.inl ⟨i,d,?_⟩);rw[ag5]at e;rw[<-e];simp
 .split at c
  .exact .inr (.inr (aah.mp c))
  .cases c
def M6(ho:h.Ok):∀q∈shrM h,q.1.Ok h:=λq e=>by
 rcases j7 e with⟨o,d,rfl⟩|⟨i,c,rfl⟩|rfl
 .obtain⟨h1,h2,h3⟩:=vh h.ss.length ho.n4 ho.n1 o d;exact⟨h1,h3,h2⟩
 .exact c
 .exact trivial
theorem oh(hb:0<b):(nfP t b).2.toNat ∣ b.toNat:=by
 have d:((t.natAbs.gcd b.natAbs:Nat):Int) ∣ b:=acg.mpr (ac7 _ _);let⟨c,f⟩:=d;have i:0<t.natAbs.gcd b.natAbs:=abz _ (by omega);unfold nfP;generalize k:t.natAbs.gcd b.natAbs=g at *;have e:b/g=c:=by rw[f];exact ad2 _ (by omega)
 have j:0<c:=by
  rcases Int.lt_trichotomy c 0 with z|z|z
  .have:=Int.mul_neg_of_pos_of_neg (show(0:Int)<(g:Int) by omega) z;omega
  .simp_all
  .exact z
 refine⟨g,?_⟩
 grind
def bP:List Srv->Nat
 |[]=>1
 |s::r=>s.b*bP r
theorem uu:∀(l:List Srv) (s:Srv),bP (l++[s])=bP l*s.b
 |[],s=>by show s.b*1=1*s.b;simp
 |x::l,s=>by show x.b*bP (l++[s])=x.b*bP l*s.b;rw[uu l s,abX]
theorem IP:∀{l:List Srv}{s:Srv},s∈l->s.b ∣ bP l
 |x::l,s,h=>by
  cases h with
  |head=>exact ahF _ _
  |tail _ h=>exact abY (IP h) (acN _ _)
theorem Gg:∀{l:List Srv},(∀s∈l,s.Ok)->1≤bP l/\bP l≤1000000^l.length
 |[],_=>⟨Ge 1,Ge 1⟩
 |x::l,h=>by
  let⟨d,c⟩:=Gg λs hs=>h s (aad _ hs);have xo:=h x aac;have b1:=xo.b1;have b2:=xo.b2;refine⟨adI b1 d,?_⟩;show x.b*bP l≤1000000^_;rw[ abU];exact abG c (by exact aa7 ‹_›)
theorem vE{h:Hall}(ho:h.Ok):∀k,k≤h.ss.length->(restF h k).2.toNat ∣ h.b*bP (h.ss.take k)
 |0,_=>by
  have b1:=ho.b1;have:=oh (t:=1*(h.b:Int)-(h.a:Int)*1) (b:=1*(h.b:Int)) (by omega);rw[show(1*(h.b:Int)).toNat=h.b by simp]at this;show(nfP _ _).2.toNat ∣ h.b*1;rw[ahW];exact this
 | k+1,hk=>by
  have i:=vE ho k (by omega);have i1:=(d4 ho k (by omega)).1;have e:h.ss[k]?=some h.ss[k]:=iO (by omega);have c:=ho.ok h.ss[k] (abl _);have s:=c.b1;have hb:0<(restF h k).2*(h.ss[k].b:Int):=acr i1 (by omega);have d:=oh (t:=(restF h k).1*(h.ss[k].b:Int)-(h.ss[k].a:Int)*(restF h k).2) hb;have f:((restF h k).2*(h.ss[k].b:Int)).toNat=(restF h k).2.toNat*h.ss[k].b:=by
   grind
  rw[f]at d;rw[restF,e,ab2,e];show(nfP _ _).2.toNat ∣ h.b*bP (h.ss.take k++[h.ss[k]]);rw[uu,<-abX];exact abY d (Nat.mul_dvd_mul i (ahG _))
theorem uJ(ho:h.Ok):BtOk (shrL h) ((ordK h.ss.length h.ss.length).length*(h.b*bP h.ss)):=by
 have n4:=ho.n4;have b1:=ho.b1;have b2:=ho.b2;have a2:=ho.a2;have j:=(cE h.ss.length ho.n4 h.ss.length ho.n4).1;have c:=gg h.ss.length ho.n4;let⟨m,g⟩:=Gg ho.ok;have f:bP h.ss≤1000000^4:=aao g (adF (by decide) n4);refine⟨?_,?_,adI c (adI b1 m),?_⟩
 .rw[mi,gE];unfold shrM;rw[aat,aat,gE,gE,adq]
  split<;>simp only[aaI,ae9]<;>omega
 .intro p hp;rw[mi]at hp;let⟨q,s,rfl⟩:=aau.mp hp;rcases j7 s with⟨o,u,rfl⟩|⟨i,l,rfl⟩|rfl
  .have e:=t8 ho c;have hb:0<(h.b:Int)*((ordK h.ss.length h.ss.length).length:Int):=acr (by omega) (by omega);have d:=oh (t:=(h.a:Int)*1) hb;rw[show((h.b:Int)*((ordK h.ss.length h.ss.length).length:Int)).toNat=h.b*(ordK h.ss.length h.ss.length).length by rw[<-aaJ,aaW]]at d;refine⟨by have:=e.hp;show 1≤(cj h).2.toNat;omega,?_,e.ha⟩;rw[abU h.b,]at d;exact abY d (by rw[<-abX];exact ahF _ _)
  .have so:=ho.ok h.ss[i] (abl _);have sa:=so.a2;refine⟨so.b1,abY (IP (abl l)) (abY (acN _ _) (acN _ _)),?_⟩;show((h.ss[i].a:Nat):Int).natAbs<10^76;omega
  .have e:=ue ho (k:=h.ss.length) (Ge _);have d:=vE ho h.ss.length (Ge _);rw[aae]at d;exact⟨by have:=e.hp;show 1≤(restF h h.ss.length).2.toNat;omega,abY d (acN _ _),e.ha⟩
 .have m1:h.b*bP h.ss≤1000000*1000000^4:=abG (by exact aa7 ‹_›) f;have m2:=abG j m1;exact aax m2 (by decide)
theorem FI(ho:h.Ok):(msL h).length≤29/\∀q∈msL h,q.1.Ok h/\q.2.natAbs<10^160:=by
 have n4:=ho.n4;have i:=(cE h.ss.length ho.n4 h.ss.length ho.n4).1;have B:=uJ ho;have g:botH h<10^76:=by have:=B.pre (shrL h).length;rw[aae]at this;exact this.2
 constructor
 .unfold msL shrM;rw[gE,aat,aat,gE,gE,adq]
  grind
 .intro q hq;let⟨z,c,rfl⟩:=aau.mp hq;have d:=B.d (z.1.d,z.2) (by rw[mi];exact aau.mpr ⟨z,c,rfl⟩);refine⟨M6 ho z c,?_⟩;have e:=d.2.2;have f:(((botH h/z.2.2:Nat):Int)).natAbs<10^76:=by rw[abx];exact aax (adr _ _) g
  exact yR (i9 e f)
def kO(L:List (Wd×Int)):isKd (kvA wdD L)=true:=by
 unfold kvA;rw[oM,adM];exact abV.mpr λ_ _=>rfl
def rq:SpM:=λc K=>∃(h:Hall) (r:Rule) (W:List (Pt×Int)),c=[.imm h.d,.imm r.d,.imm (wtD W)]/\h.Ok/\r.Ok h/\(∀p∈W,St h r p.1.1 p.1.2/\p.2.natAbs<10^160)/\W.length≤100000/\K (.imm (.tuple [wtD (W.foldl (goW h r (msL h)) ([],[])).1,.dict (kvA wdD (W.foldl (goW h r (msL h)) ([],[])).2),.int (botH h:Int)])) []
structure GoOk(h:Hall)(r:Rule)(n:Nat)(x:List (Pt×Int)×List (Wd×Int)):Prop where
 st:∀p∈x.1,St h r p.1.1 p.1.2
 n1:x.1.length≤n
 n2:x.2.length≤n
def GoOk.next{x:List (Pt×Int)×List (Wd×Int)}(ho:h.Ok)(hr:r.Ok h)(X:GoOk h r n x){p:Pt}(hp:St h r p.1 p.2)(w:Int){q:Mv×Int}(g:q.1.Ok h):GoOk h r (n+1) (goW1 h r p w q x):=by
 refine⟨λz d=>?_,aao (oj _ _ _) (agT X.n1 1),aao (oj _ _ _) (agT X.n2 1)⟩;rcases og d with e|⟨f,c,e⟩
 .rw[e];exact o7 ho hr hp g
 .rw[<-e];exact X.st f c
def vq:SpM:=λc K=>∃h:Hall,c=[.imm h.d]/\h.Ok/\K (.imm (stD (zer h) 0)) []
def Ib:SpM:=λc K=>∃n:Nat,c=[.imm (.int (n:Int))]/\n≤4/\K (.new ((ordK n n).map lnD)) []
def fB(hb:0<b):(nfP t b).1*b=t*(nfP t b).2:=by
 have j:((t.natAbs.gcd b.natAbs):Int) ∣ b:=acg.mpr (ac7 _ _);have e:((t.natAbs.gcd b.natAbs):Int) ∣ t:=acg.mpr (aeL _ _);have k:0<t.natAbs.gcd b.natAbs:=abz _ (by omega);unfold nfP;rw[if_neg (by omega)];generalize t.natAbs.gcd b.natAbs=g at *;let⟨x,c⟩:=e;let⟨y,d⟩:=j;have f:t/g=x:=by rw[c];exact ad2 _ (by omega)
 have i:b/g=y:=by rw[d];exact ad2 _ (by omega)
 rw[f,i,c,d];simp[adN,acv]
def vF(D:Nat)(n:Int)(d:Nat):Int:=n*((D/d:Nat):Int)
def n9{D d:Nat}{n:Int}(hd:d ∣ D)(e:n*b=t*(d:Int)):vF D n d*b=t*(D:Int):=by
 have c:D=d*((D/d:Nat):Int):=by rw[<-aaJ,Nat.mul_div_cancel' hd]
 calc n*_*b=(n*b)*((D/d:Nat)):=by simp only[adN,acv,adc]
  _=t*_:=by rw[e,c];simp only[ adc]
theorem pi{p:Pr}(hp:p∈L):p.2.2 ∣ botL L:=by
 have keep:∀(L:List Pr) (m:Nat),m ∣ L.foldl (λm p=>m.lcm p.2.2) m:=by
  intro L
  induction L with
  |nil=>intro m;exact ahG _
  |cons x L i=>intro m;exact abY (Nat.dvd_lcm_left _ _) (i _)
 have key:∀(L:List Pr) m,p∈L->p.2.2 ∣ L.foldl (λm p=>m.lcm p.2.2) m:=by
  intro L
  induction L with
  |nil=>intro m h;cases h
  |cons x L i=>
   intro m h
   cases h with
   |head=>exact abY (Nat.dvd_lcm_right _ _) (keep _ _)
   |tail _ h=>exact i _ h
 exact key L 1 hp
def tT(h:Hall):Nat->Int
 |0=>(h.b:Int)-(h.a:Int)
 |k+1=>match h.ss[k]? with
  |some s=>tT h k*(s.b:Int)-(s.a:Int)*((h.b*bP (h.ss.take k):Nat):Int)
  |none=>tT h k
def AY{k:Nat}(c:k<h.ss.length):bP (h.ss.take (k+1))=bP (h.ss.take k)*h.ss[k].b:=by
 rw[ab2,iO c];exact uu _ _
theorem ia{h:Hall}(ho:h.Ok):∀k,k≤h.ss.length->(restF h k).1*((h.b*bP (h.ss.take k):Nat):Int)=tT h k*(restF h k).2
 |0,_=>by
  have b1:=ho.b1;have:=fB (t:=1*(h.b:Int)-(h.a:Int)*1) (b:=1*(h.b:Int)) (by omega);rw[restF,tT];show _*((h.b*1:Nat):Int)=_;rw[ahW];rw[ahX,afA]at this;rw[ahX,afA];exact this
 |k+1,hk=>by
  have i:=ia ho k (by omega);have i1:=(d4 ho k (by omega)).1;have f:h.ss[k]?=some h.ss[k]:=iO (by omega);have d:=ho.ok h.ss[k] (abl _);have s:=d.b1;have hb:0<(restF h k).2*(h.ss[k].b:Int):=acr i1 (by omega);have c:=fB (t:=(restF h k).1*(h.ss[k].b:Int)-(h.ss[k].a:Int)*(restF h k).2) hb;rw[restF,tT,f,AY (by omega)];show(nfP _ _).1*_=(tT h k*(h.ss[k].b:Int)-(h.ss[k].a:Int)*_)*(nfP _ _).2;generalize nfP ((restF h k).1*(h.ss[k].b:Int)-(h.ss[k].a:Int)*(restF h k).2) ((restF h k).2*(h.ss[k].b:Int))=z at *;rw[<-abX,aaJ (h.b*bP (h.ss.take k))];generalize ((h.b*bP (h.ss.take k):Nat):Int)=P at *;generalize (h.ss[k].b:Int)=B at *;generalize (h.ss[k].a:Int)=S at *;generalize (restF h k).1=r1 at *;generalize (restF h k).2=e at *;generalize tT h k=T at *;refine Int.eq_of_mul_eq_mul_left (a:=e) (by omega) ?_
  grind
def dnS(h:Hall)(D:Nat):Nat->Int
 |0=>0
 |k+1=>match h.ss[k]? with
  |some s=>dnS h D k+vF D (s.a:Int) s.b
  |none=>dnS h D k
theorem jo{h:Hall}(ho:h.Ok){D:Nat}{C:Int}(f:C*(h.b:Int)=(h.a:Int)*(D:Int))(e:∀s∈h.ss,s.b ∣ D):∀k,k≤h.ss.length->((D:Int)-C-dnS h D k)*((h.b*bP (h.ss.take k):Nat):Int)=tT h k*(D:Int)
 |0,_=>by
  rw[dnS,tT];show _*((h.b*1:Nat):Int)=_;rw[ahW,Int.sub_zero,Int.sub_mul,Int.sub_mul,f,adN (D:Int)]
 |k+1,hk=>by
  have i:=jo ho f e k (by exact aa7 ‹_›);have g:h.ss[k]?=some h.ss[k]:=iO (by assumption);have c:=n9 (D:=D) (d:=h.ss[k].b) (t:=(h.ss[k].a:Int)) (e _ (abl _)) rfl;rw[dnS,tT,g,AY (by assumption)]
  grind
theorem OA(h:Hall)(D:Nat):((h.ss.zipIdx.map λq=>((q.1.a:Int)*((D/q.1.b:Nat):Int))).sum)=dnS h D h.ss.length:=by
 have key:∀k,k≤h.ss.length->(((h.ss.take k).map λs=>((s.a:Int)*((D/s.b:Nat):Int))).sum)=dnS h D k:=by
  intro k
  induction k with
  |zero=>intro _;rfl
  |succ k d=>
   intro f;have c:h.ss[k]?=some h.ss[k]:=iO _;rw[dnS,c,ab2,c,aaE,ad6,d (by omega)];rfl
 have e:=key h.ss.length (Ge _);rw[aae]at e;rw[<-e]
 congr 1
 refine ab0 λi=>?_;rw[aaa,aaa,agS]
 cases h.ss[i]?<;>rfl
theorem se{d:Type}(c:Int):∀l:List d,(l.map λ_=>c).sum=(l.length:Int)*c
 |[]=>by simp
 |x::l=>by rw[aaD,acJ,se c l,aaI];grind
theorem Uw(ho:h.Ok)(h0:0≤(restF h h.ss.length).1):((msL h).map (·.2)).sum=(botH h:Int):=by
 have b1:=ho.b1;have p:=gg h.ss.length ho.n4;have B:=uJ ho;have bp:1≤botH h:=by have:=B.pre (shrL h).length;rw[aae]at this;exact this.1
 have m:∀o∈ordK h.ss.length h.ss.length,prF (Mv.come o).d (cj h)∈shrL h:=λo g=>by
  unfold shrL;exact aa4.mpr (.inl (aa4.mpr (.inl (aau.mpr ⟨o,g,rfl⟩))))
 have e:(cj h).2.toNat ∣ botH h:=by
  let⟨o,g⟩:=List.exists_mem_of_length_pos p;exact pi (m o g)
 have f:0<(h.b:Int)*((ordK h.ss.length h.ss.length).length:Int):=acr (by omega) (by omega);have w:=t8 ho p;have j:vF (botH h) (cj h).1 (cj h).2.toNat*((h.b:Int)*((ordK h.ss.length h.ss.length).length:Int))=(h.a:Int)*1*(botH h:Int):=by
  refine n9 e ?_;rw[show(((cj h).2.toNat:Nat):Int)=(cj h).2 by have:=w.hp;rfl];exact fB f
 have v:(((ordK h.ss.length h.ss.length).length:Int)*vF (botH h) (cj h).1 (cj h).2.toNat)*(h.b:Int)=(h.a:Int)*(botH h:Int):=by
  rw[afA]at j;rw[<-j];simp only[adN,acv,adc]
 have x:∀s∈h.ss,s.b ∣ botH h:=λs hs=>by
  let⟨i,y,rfl⟩:=abm.mp hs;have:((Mv.done i).d,(h.ss[i].a:Int),h.ss[i].b)∈shrL h:=by
   rw[mi];refine aau.mpr ⟨(Mv.done i,(h.ss[i].a:Int),h.ss[i].b),?_,rfl⟩;unfold shrM;refine aa4.mpr (.inl (aa4.mpr (.inr (aau.mpr ⟨(h.ss[i],i),?_,rfl⟩))));exact abm.mpr ⟨i,by rw[adq];exact y,by rw[ag5,ac3]⟩
  exact pi this
 have l:=jo ho v x h.ss.length (Ge _);have rc:=ia ho h.ss.length (Ge _);let⟨E,_⟩:=Gg ho.ok;rw[aae]at l rc;have P:0<((h.b*bP h.ss:Nat):Int):=by have:=adI b1 E;omega
 have C:((msL h).map (·.2)).sum=((ordK h.ss.length h.ss.length).length:Int)*vF (botH h) (cj h).1 (cj h).2.toNat+dnS h (botH h) h.ss.length+if 0<(restF h h.ss.length).1 then vF (botH h) (restF h h.ss.length).1 (restF h h.ss.length).2.toNat else 0:=by
  unfold msL shrM;rw[aaN,aaE,aaE,ad6,ad6,aaN,aaN]
  congr 1
  .congr 1
   .exact se (vF (botH h) (cj h).1 (cj h).2.toNat) (ordK h.ss.length h.ss.length)
   .exact OA h (botH h)
  .split
   .simp[vF]
   .rfl
 rw[C];have F:=(d4 ho h.ss.length (Ge _)).1
 by_cases c:0<(restF h h.ss.length).1
 .rw[if_pos c];have d:(restF h h.ss.length).2.toNat ∣ botH h:=by
   have:prF Mv.still.d (restF h h.ss.length)∈shrL h:=by
    unfold shrL;rw[if_pos c];exact aa4.mpr (.inr (aah.mpr rfl))
   exact pi this
  have A:=n9 (D:=botH h) (n:=(restF h h.ss.length).1) (t:=tT h h.ss.length) (b:=((h.b*bP h.ss:Nat):Int)) d (by rw[rc,show(((restF h h.ss.length).2.toNat:Nat):Int)=(restF h h.ss.length).2 by omega]);have:=acT (a:=((h.b*bP h.ss:Nat):Int)) (by omega) (A.trans l.symm);omega
 .rw[if_neg c];have k:(restF h h.ss.length).1=0:=by omega
  rw[k,ahH]at rc;have u:tT h h.ss.length=0:=by
   rcases Int.mul_eq_zero.mp rc.symm with z|z
   .exact z
   .omega
  rw[u,ahH]at l;rcases Int.mul_eq_zero.mp l with z|z
  .omega
  .omega
def sumA{c:Type}(L:List (c×Int)):Int:=(L.map (·.2)).sum
theorem oN{c:Type}[DecidableEq c](a:c)(x:Int):∀L:List (c×Int),sumA (addA a x L)=sumA L+x
 |[]=>by show x+0=0+x;simp
 |p::r=>by
  have i:=oN a x r;unfold addA;split
  .show p.2+x+sumA r=p.2+sumA r+x;omega
  .show p.2+sumA _=p.2+sumA r+x;omega
theorem sx{c:Type}[DecidableEq c]{a:c}{x:Int}(d:0≤x):∀{L:List (c×Int)},(∀p∈L,0≤p.2)->∀p∈addA a x L,0≤p.2
 |[],_,p,hp=>by rw[aah.mp hp];exact d
 | q::r,h,p,hp=>by
  have f:=h q aac;unfold addA at hp
  split at hp
  .cases hp with
   |head=>show 0≤q.2+x;omega
   |tail _ hp=>exact h p (aad _ hp)
  .cases hp with
   |head=>exact f
   |tail _ hp=>exact sx d (λz e=>h z (aad _ e)) p hp
theorem BA{h:Hall}{r:Rule}{p:Pt}{w:Int}:∀{M:Ms}{x:List (Pt×Int)×List (Wd×Int)},sumA (M.foldl (λx q=>goW1 h r p w q x) x).1=sumA x.1+w*(M.map (·.2)).sum/\sumA (M.foldl (λx q=>goW1 h r p w q x) x).2=sumA x.2+w*(M.map (·.2)).sum
 |[],x=>by constructor<;>(show sumA _=sumA _+w*0;rw[Int.mul_zero,Int.add_zero];rfl)
 |q::M,x=>by
  let⟨i1,i2⟩:=BA (r:=r);rw[acY,i1,i2];unfold goW1;rw[oN,oN,aaD,acJ,Int.mul_add]
  grind
theorem IA{h:Hall}{r:Rule}:∀{W:List (Pt×Int)}{x:List (Pt×Int)×List (Wd×Int)},sumA (W.foldl (goW h r (msL h)) x).1=sumA x.1+sumA W*((msL h).map (·.2)).sum/\sumA (W.foldl (goW h r (msL h)) x).2=sumA x.2+sumA W*((msL h).map (·.2)).sum
 |[],x=>by constructor<;>(show sumA _=sumA _+0*_;rw[ahH,Int.add_zero];rfl)
 |p::W,x=>by
  let⟨i1,i2⟩:=IA (W:=W);let⟨c,j⟩:=BA (h:=h) (r:=r) (x:=x);rw[acY,i1,i2];rw[show goW h r (msL h) x p=(msL h).foldl _ x from rfl,c,j];rw[show sumA (p::W)=p.2+sumA W from rfl,Int.add_mul];omega
theorem Ve(ho:h.Ok)(h0:0≤(restF h h.ss.length).1):∀q∈msL h,0≤q.2:=λq d=>by
 let⟨z,c,rfl⟩:=aau.mp d;refine aew ?_ (Int.natCast_nonneg _);rcases j7 c with⟨o,f,rfl⟩|⟨i,e,rfl⟩|rfl
 .show 0≤(cj h).1;unfold cj nfP
  grind
 .simp
 .omega
theorem Ut{h:Hall}{r:Rule}{M:Ms}(d:∀q∈M,0≤q.2){p:Pt}{w:Int}(c:0≤w):∀{N:Ms}{x:List (Pt×Int)×List (Wd×Int)},(∀q∈N,q∈M)->(∀z∈x.1,0≤z.2)/\(∀z∈x.2,0≤z.2)->(∀z∈(N.foldl (λx q=>goW1 h r p w q x) x).1,0≤z.2)/\∀z∈(N.foldl (λx q=>goW1 h r p w q x) x).2,0≤z.2
 |[],x,_,hx=>hx
 |q::N,x,hN,hx=>Ut d c (N:=N) (λz e=>hN z (aad _ e)) ⟨sx (aew c (d q (hN q aac))) hx.1,sx (aew c (d q (hN q aac))) hx.2⟩
theorem Ie{h:Hall}(ho:h.Ok)(h0:0≤(restF h h.ss.length).1)(r:Rule):∀{W:List (Pt×Int)}{x:List (Pt×Int)×List (Wd×Int)},(∀z∈W,0≤z.2)->(∀z∈x.1,0≤z.2)/\(∀z∈x.2,0≤z.2)->(∀z∈(W.foldl (goW h r (msL h)) x).1,0≤z.2)/\∀z∈(W.foldl (goW h r (msL h)) x).2,0≤z.2
 |[],x,_,hx=>hx
 |p::W,x,hW,hx=>Ie ho h0 r (W:=W) (λz c=>hW z (aad _ c)) (Ut (Ve ho h0) (hW p aac) (λ_ h=>h) hx)
theorem zQ{c:Type}:∀{L:List (c×Int)},(∀p∈L,0≤p.2)->0≤sumA L/\∀p∈L,p.2≤sumA L
 |[],_=>⟨Int.le_refl _,λ_ h=>(by cases h)⟩
 |q::L,h=>by
  let⟨i1,i2⟩:=zQ λp hp=>h p (aad _ hp);have d:=h q aac;have e:sumA (q::L)=q.2+sumA L:=rfl
  grind
theorem p7{c:Type}[DecidableEq c]{a:c}{x:Int}:∀{L:List (c×Int)},(L.map (·.1)).Nodup->((addA a x L).map (·.1)).Nodup
 |[],_=>by simp[addA]
 | q::r,h=>by
  rw[aaD,abk]at h;unfold addA;split
  .exact abk.mpr ⟨h.1,h.2⟩
  .rename_i ne;refine abk.mpr ⟨λg=>?_,p7 h.2⟩;let⟨z,i,e⟩:=aau.mp g;rcases og i with d|⟨y,f,d⟩
   .exact ne (e.symm.trans d)
   .exact h.1 (aau.mpr ⟨y,f,d.trans e⟩)
theorem Bv{h:Hall}{r:Rule}:∀{W:List (Pt×Int)}{x:List (Pt×Int)×List (Wd×Int)},(x.1.map (·.1)).Nodup->((W.foldl (goW h r (msL h)) x).1.map (·.1)).Nodup
 |[],x,c=>c
 | p::W,x,c=>by
  have key:∀(M:Ms) x,(x.1.map (·.1)).Nodup->((M.foldl (λx q=>goW1 h r p.1 p.2 q x) x).1.map (·.1)).Nodup:=by
   intro M
   induction M with
   |nil=>intro x c;exact c
   |cons q M i=>intro x c;exact i _ (p7 c)
  exact Bv (W:=W) (key _ x c)
def pI(hb:0<b):ae0 (nfP t b).1.natAbs (nfP t b).2.natAbs:=by
 have c:0<t.natAbs.gcd b.natAbs:=abz _ (by omega);have d:((t.natAbs.gcd b.natAbs):Int) ∣ b:=acg.mpr (ac7 _ _);have g:((t.natAbs.gcd b.natAbs):Int) ∣ t:=acg.mpr (aeL _ _);unfold nfP;rw[if_neg (by omega)];rw[aev g,aev d];exact Nat.coprime_div_gcd_div_gcd c
def tf{p q:Int}(c:ae0 p.natAbs q.natAbs)(e:p*b=a*q):q.natAbs ∣ b.natAbs:=by
 have d:p.natAbs*b.natAbs=a.natAbs*q.natAbs:=by rw[<-aeu,<-aeu,e]
 have:q.natAbs ∣ b.natAbs*p.natAbs:=by rw[abU,d];exact acN _ _
 exact ae0.dvd_of_dvd_mul_right c.symm this
def Ug{p q f d:Int}(l:0<q)(k:0<d)(c:ae0 p.natAbs q.natAbs)(i:ae0 f.natAbs d.natAbs)(e:p*d=f*q):(p,q)=(f,d):=by
 have g:=tf c e;have j:=tf i e.symm;have eq:q=d:=by
  have:=Nat.dvd_antisymm g j;omega
 subst eq;rw[acT (by omega) e]
def DG{t' c:Int}(hb:0<b)(d:0<c)(e:t*c=t'*b):nfP t b=nfP t' c:=by
 refine Ug (qc hb).1 (qc d).1 (pI hb) (pI d) ?_;have g:=fB (t:=t) hb;have i:=fB (t:=t') d;have f:=BG hb d;refine acT f ?_
 calc (nfP t b).1*(nfP t' c).2*_=((nfP t b).1*b)*((nfP t' c).2*c):=by simp only[ acv,adc]
  _=t*c*((nfP t b).2*(nfP t' c).2):=by rw[g];simp only[adN,acv,adc]
  _=(t'*(nfP t' c).2)*((nfP t b).2*b):=by rw[e];simp[adN,acv,adc]
  _=(nfP t' c).1*(nfP t b).2*_:=by rw[<-i];simp[adN,acv,adc]
def QR(v D:Int):nf v D=frT (nfP v D).1 (nfP v D).2:=rfl
structure OfS(h:Hall)(S:Nat):Prop where
 s1:1≤S
 s2:S≤9700
 hb:h.b ∣ S
 hs:∀s∈h.ss,s.b ∣ S
 le:(h.a:Int)*((S/h.b:Nat):Int)+dnS h S h.ss.length≤(S:Int)
def OfS.lf(ho:h.Ok)(O:OfS h S):((S:Int)-(h.a:Int)*((S/h.b:Nat):Int)-dnS h S h.ss.length)*((h.b*bP h.ss:Nat):Int)=tT h h.ss.length*(S:Int):=by
 have c:(h.a*((S/h.b:Nat):Int))*h.b=h.a*S:=by
  rw[adc,<-aaJ,aed O.hb]
 have:=jo ho c O.hs h.ss.length (Ge _);rwa[aae]at this
theorem OfS.bp(ho:h.Ok)(O:OfS h S):0<((h.b*bP h.ss:Nat):Int):=by
 have b1:=ho.b1;have:=adI (show 0<h.b by assumption) ((Gg ho.ok).1);omega
theorem OfS.rest(ho:h.Ok)(O:OfS h S):0≤(restF h h.ss.length).1:=by
 have d:=O.lf ho;have e:=ia ho h.ss.length (Ge _);rw[aae]at e;have p:=O.bp ho;have s1:=O.s1;have le:=O.le;have f:=(d4 ho h.ss.length (Ge _)).1;have c:=by
  have q:0≤tT h h.ss.length*S:=by rw[<-d];exact aew (by omega) (by omega)
  exact ae1 q (by omega)
 have q:0≤(restF h h.ss.length).1*((h.b*bP h.ss:Nat)):=by rw[e];exact aew c (by omega)
 exact ae1 q p
theorem yd(ho:h.Ok):∀k,k≤h.ss.length->ae0 (restF h k).1.natAbs (restF h k).2.natAbs
 |0,_=>by
  have b1:=ho.b1;exact pI (by omega)
 |k+1,hk=>by
  have i1:=(d4 ho k (by exact aa7 ‹_›)).1;have e:h.ss[k]?=some h.ss[k]:=iO _;have s:=(ho.ok h.ss[k] (abl _)).b1;rw[restF,e];exact pI (acr i1 (by omega))
theorem OfS.restd(ho:h.Ok)(O:OfS h S):(restF h h.ss.length).2.toNat ∣ S:=by
 have d:=O.lf ho;have f:=ia ho h.ss.length (Ge _);rw[aae]at f;have p:=O.bp ho;have g:=(d4 ho h.ss.length (Ge _)).1;have c:=yd ho h.ss.length (Ge _);generalize i:S-_*_-dnS h S h.ss.length=X at d;have e:(restF h h.ss.length).1*S=X*(restF h h.ss.length).2:=by
  refine acT (a:=((h.b*bP h.ss:Nat))) (by omega) ?_
  grind
 have:=tf c e;rwa[show(restF h h.ss.length).2.toNat=(restF h h.ss.length).2.natAbs by omega]
theorem OfS.bot(ho:h.Ok)(O:OfS h S):botH h ∣ (ordK h.ss.length h.ss.length).length*S:=by
 have b1:=ho.b1;have g:=gg h.ss.length ho.n4;refine vf λp hp=>?_;rw[mi]at hp;let⟨q,e,rfl⟩:=aau.mp hp;rcases j7 e with⟨o,f,rfl⟩|⟨i,c,rfl⟩|rfl
 .have d:=oh (t:=h.a*1) (b:=h.b*((ordK h.ss.length h.ss.length).length)) (acr (by omega) (by omega));rw[show((h.b:Int)*_).toNat=h.b*(ordK h.ss.length h.ss.length).length by rw[<-aaJ,aaW]]at d;refine abY d ?_;rw[abU];exact Nat.mul_dvd_mul (ahG _) O.hb
 .exact abY (O.hs _ (abl c)) (acN _ _)
 .exact abY (O.restd ho) (acN _ _)
def Jp(ho:h.Ok):1≤botH h:=by have:=(uJ ho).pre (shrL h).length;rw[aae]at this;exact this.1
theorem OfS.small(ho:h.Ok)(O:OfS h S):botH h≤232800:=by
 have p:=gg h.ss.length ho.n4;have c:=(cE h.ss.length ho.n4 h.ss.length ho.n4).1;have:=afQ (adI p O.s1) (O.bot ho);have m:=abG c O.s2;exact aao ‹_› ‹_›
def OfS.pow(ho:h.Ok)(O:OfS h S)(c:n≤12):botH h^n<10^66:=by
 have e:=Nat.pow_le_pow_left (O.small ho) n;have d:232800^n≤232800^12:=adF (by decide) c;omega
def srvS(S q r:Nat):Srv:=QW (cutN S q) r
def zk(S p0:Nat)(c rs:List Nat)(mv:Bool):Hall:=⟨(cutN S p0).1,(cutN S p0).2,aex (srvS S) c rs,mv⟩
theorem fC(c:1≤S):(cutN S q).2 ∣ S/\(cutN S q).1*(S/(cutN S q).2)=q:=by
 unfold cutN;have g:q.gcd S ∣ S:=ac7 _ _;refine⟨Nat.div_dvd_of_dvd g,?_⟩;rw[Nat.div_div_self g (by exact aa8 ‹_›)];exact aed (aeL _ _)
theorem uw{S p0:Nat}{c rs:List Nat}{mv:Bool}(d:1≤S)(f:c.length=rs.length):∀k,k≤c.length->dnS (zk S p0 c rs mv) S k=((c.take k).sum:Int)
 |0,_=>rfl
 |k+1,hk=>by
  have i:=uw (p0:=p0) (mv:=mv) d f k (by exact aa7 ‹_›);have e:c[k]?=some c[k]:=iO _;have g:rs[k]?=some rs[k]:=iO _;have j:(zk S p0 c rs mv).ss[k]?=some _:=acs.mpr ⟨_,_,e,g,rfl⟩;rw[dnS,j,i,aaX,e,ad6];show _+((cutN S c[k]).1:Int)*((S/(cutN S c[k]).2:Nat):Int)=_;rw[<-aaJ,(fC d).2];rfl
theorem Fy{p0:Nat}{c rs:List Nat}{mv:Bool}(s1:1≤S)(s2:S≤9700)(d:c.length=rs.length)(hs:p0+c.sum≤S):OfS (zk S p0 c rs mv) S:=by
 have e:(zk S p0 c rs mv).ss.length=c.length:=by show(aex _ c rs).length=_;grind
 refine⟨s1,s2,(fC s1).1,λs hs=>?_,?_⟩
 .obtain⟨i,hi⟩:=adJ hs;let⟨q,r,_,_,rfl⟩:=acs.mp hi;exact(fC s1).1
 .rw[e,uw s1 d _ (Ge _),aae];show((cutN S p0).1:Int)*((S/(cutN S p0).2:Nat))+_≤_;rw[<-aaJ,(fC s1).2];omega
def T9(c:1≤S):nf (q:Int) (S:Int)=prD (cutN S q):=rfl
theorem Qk{p:Nat}(e:1≤S):((cutN S p).1*(cutN S q).2<(cutN S q).1*(cutN S p).2)↔p<q:=by
 have d:=fC (q:=p) e;have c:=fC (q:=q) e;have f:0<(cutN S p).2:=agF d.1 (by omega);have i:0<(cutN S q).2:=agF c.1 (by omega);have g:=by
  have z:=congrArg (· * (cutN S p).2) d.2;rwa[abX,aed d.1]at z
 have j:=by
  have z:=congrArg (· * (cutN S q).2) c.2;rwa[abX,aed c.1]at z
 have key:∀a b:Nat,a<b↔a*S<b*S:=λa b=>(agU (by omega)).symm;rw[key];rw[show(cutN S p).1*(cutN S q).2*S=p*_ by rw[ahp,g,abX],show(cutN S q).1*(cutN S p).2*S=q*_ by rw[ahp,j,abX,abU (cutN S q).2]];exact agU (adI f i)
theorem mf:∀{l:List Nat}{n q:Nat},n=l.length->(∀x∈l,q≤x)->(aap n q).sum≤l.sum
 |[],n,q,h,_=>by subst h;exact Ge _
 |x::l,n,q,h,hm=>by
  have i:=mf rfl λy c=>hm y (aad _ c);have:=hm x aac
  grind
def uH:SpM:=λe K=>∃(fd:List dL) (c n:Nat),e=[.own fd,.imm (.int (n:Int))]/\TapeD c fd/\c<900000000/\n≤4/\∀(d:List Nat) (S:Nat) (f:List dL),d.length=n+1->(∀p∈d,1≤p/\p≤1600)->1≤S->S≤9700->d.sum≤S->TapeD (c+10) f->K (.new ((d.map (cutN S)).map prD)) [f]
def Ba:SpM:=λd K=>∃(fd:List dL) (c:Nat) (m:List (List Nat)),d=[.own fd,.imm (.list (m.map lnD))]/\BC m/\TapeD c fd/\c<800000000/\∀(h:Hall) (S:Nat) (f:List dL),h.Ok->OfS h S->TapeD (c+20) f->K (.imm h.d) [f]
end K
namespace L2
open PySem PySem.Spec PyProof.Rows
section
variable {X:Cx}
def QH{m:MSt}{r:R}{n:Bool}{k:dL}{kvs:List (dL×dL)}{K:R->Prop}(e:dcM m kvs r)(a:oneK kvs k=true)(h:K (.imm (.bool (if n=true then !(de k kvs).isSome else(de k kvs).isSome)))):oInD n (.imm k) r m K:=⟨kvs,e,a,h⟩
def cb{ds:List dL}{g:WG}{w:WS}{D:dJ}{m1:MSt}(P:Nat->MSt->Prop)(p0:P 0 m1)
  (step:∀(i:Nat) (d:dL) (m:MSt),ds[i]?=some d->m.np=m1.np->P i m->∀b:dJ,(∀a,P (i+1) a->b.nx a)->(∀r a,D.rt r (a.setN m1.np)->b.rt r a)->g d m λm2=>w b m2)
  (f:∀m,m.np=m1.np->P ds.length m->D.nx m):jd ⟨ds,none⟩ g w D m1:=fq P p0 (λi d m e n p=>step i d m e n p _ (λ_ z=>z) λ_ _ z=>z) f
theorem am{e:Expr}{w:WE}{pos p:Pos}{x:Str}(i:Nat)(b:X.N.Nodup)(h:EE X e w)(d:X.N[i]?=some x:=by rfl)(a:Loc X.env.scope x:=by exact agL rfl)(hs:abH e (some (.Name x p)) pos.line X.env=pure false:=by rfl)(c:X.fn x=true\/X.env.scope.names.lookup x=some .local:=by first|exact .inl rfl|exact .inr rfl|assumption):ES X (.Assign [.Name x p] e pos) (wSet i w):=dj b d a h hs c
theorem ay{pos:Pos}{x:Str}(i:Nat)(a:X.N.Nodup)(c:X.N[i]?=some x:=by rfl)(h:Loc X.env.scope x:=by exact agL rfl)(b:X.fn x=true\/X.env.scope.names.lookup x=some .local:=by first|exact .inl rfl|exact .inr rfl|assumption):EG X (.Name x pos) (gM i):=oH a c h b
end
end L2
namespace K
open PySem L2 M7
variable{h:Hall}
def qk:SpM:=jp
def AC:SpM:=λa K=>∃(fd:List dL) (c:Nat) (h:Hall),a=[.own fd,.imm h.d]/\h.Ok/\TapeD c fd/\c<800000000/\∀(r:Rule) (f:List dL),r.Ok h->TapeD (c+2410) f->K (.imm r.d) [f]
def vt:SpM:=λa K=>∃(h:Hall) (r:Rule) (l:List Nat) (t:Nat) (o:List Nat),a=[.imm h.d,.imm r.d,.imm (stD l t),.imm (lnD o)]/\h.Ok/\r.Ok h/\St h r l t/\Ord h.ss.length o/\K (.imm (mvD (cn h r l t (.come o)))) []
def behD(h:Hall)(r:Rule)(l:List Nat)(t:Nat)(q:Mv×Int×Nat):dL:=.tuple [ptD ((cn h r l t q.1).1,(cn h r l t q.1).2.1),wdD (cn h r l t q.1).2.2,frT q.2.1 (q.2.2:Int)]
def IM:SpM:=λa K=>∃(h:Hall) (r:Rule) (l:List Nat) (t:Nat),a=[.imm h.d,.imm r.d,.imm (stD l t)]/\h.Ok/\r.Ok h/\St h r l t/\K (.new ((shrM h).map (behD h r l t))) []
def cmM(h:Hall):List (Mv×Int×Nat):=(ordK h.ss.length h.ss.length).map λo=>(Mv.come o,(cj h).1,(cj h).2.toNat)
def dnM(h:Hall):List (Mv×Int×Nat):=h.ss.zipIdx.map λq=>(Mv.done q.2,(q.1.a:Int),q.1.b)
theorem NG{i:Nat}{s:Srv}(e:h.ss[i]?=some s):(dnM h)[i]?=some (Mv.done i,(s.a:Int),s.b):=by
 unfold dnM
 simp_all
def Sg(ho:h.Ok):nf (h.a:Int) (((h.b*(ordK h.ss.length h.ss.length).length:Nat)):Int)=frT (cj h).1 (((cj h).2.toNat:Nat):Int):=by
 have hp:=(t8 ho (gg h.ss.length ho.n4)).hp;rw[show(((cj h).2.toNat))=(cj h).2 by rfl,QR];unfold cj;simp
structure RL(h:Hall)(i:Nat)(x:Int×Int):Prop where
 e:x.1*(restF h i).2=(restF h i).1*x.2
 f:FrOk x.1 x.2
 g:0<i->x=restF h i
theorem RL.zero(ho:h.Ok):RL h 0 ((h.b:Int)-(h.a:Int),(h.b:Int)):=by
 have b1:=ho.b1;have b2:=ho.b2;have a2:=ho.a2;have c:=fB (t:=1*h.b-h.a*1) (b:=1*h.b) (by omega);have a:(restF h 0).1*_=_*(restF h 0).2:=c;rw[ahX,afA]at a;refine⟨a.symm,⟨?_,?_,?_⟩,λz=>by contradiction⟩
 .omega
 .grind
 .grind
theorem RL.succ(ho:h.Ok){i:Nat}{x:Int×Int}{s:Srv}(X:RL h i x)(es:h.ss[i]?=some s):RL h (i+1) (nfP (x.1*(s.b:Int) + -(s.a:Int)*x.2) (x.2*(s.b:Int))):=by
 have f:=(DL.mp es).1;have a:=ho.ok s (GE es);have d:=a.b1;have r:=(d4 ho i (by exact aa7 ‹_›)).1;have b:=X.f.hp;have e:nfP (x.1*s.b + -(s.a:Int)*x.2) (x.2*s.b)=restF h (i+1):=by
  rw[restF,es];refine DG (acr b (by omega)) (acr r (by omega)) ?_;have c:=X.e
  grind
 rw[e];exact⟨rfl,ue ho (by assumption),λ_=>rfl⟩
structure DuOk(h:Hall)(r:Rule)(n:Nat):Prop where
 ho:h.Ok
 hr:r.Ok h
 h0:0≤(restF h h.ss.length).1
 le:n≤12
 b:botH h^n<10^66
theorem yX{i:Int}(h:i.natAbs<10^100):Fine 101 0 (.int i):=by
 have s:=by
  have e:=PySem.int_text_length_le10 (by decide) h;show(ack (toString i)).length≤101;rw[PySem.ofString_length];exact e
 refine⟨?_,rfl,s,Ge _⟩;have:i.natAbs.log2<400\/i.natAbs=0:=by
  by_cases z:i.natAbs=0
  .exact .inr z
  .exact .inl ((agM z).mpr (abc h (by decide)))
 show decide _=true;rcases this with h|h
 .grind
 .rw[h];decide
end K
namespace L2
open PySem PySem.W PyProof.Rows
variable{i j n:Nat}{p:Array Nat}
structure TotF(n:Nat)(f:Nat->Nat->Bool):Prop where
 tr:∀a b c,a<n->b<n->c<n->f a b=true->f b c=true->f a c=true
 tot:∀a b,a<n->b<n->a≠b->f a b=true\/f b a=true
theorem fx{b β:Type}{n:Nat}{f:Nat->Nat->Bool}(g:b->KasT β):∀t:KasT b,runC n f (t.bind g)=(runC n f t).bind λa=>runC n f (g a)
 | .ret a=>rfl
 | .ask i j k=>by
  show(if i<n/\j<n then runC n f _ else none)=(if i<n/\j<n then runC n f _ else none).bind _
  by_cases h:i<n/\j<n
  .rw[if_pos h,if_pos h];exact fx g _
  .rw[if_neg h,if_neg h];rfl
def iU{a:Type}{f:Nat->Nat->Bool}{k:Bool->KasT a}(b:i<n)(h:j<n):runC n f (.ask i j k)=runC n f (k (f i j)):=if_pos ⟨b,h⟩
structure PermA(n:Nat)(p:Array Nat):Prop where
 sz:p.size=n
 pm:p.toList.Perm (aaB n)
abbrev pA(p:Array Nat)(k:Nat):Nat:=p.getD k 0
theorem d7{k:Nat}(h:k<p.size):p[k]?=some (pA p k):=by simp_all
def PermA.lt(h:PermA n p){k:Nat}(a:k<n):pA p k<n:=by
 have e:=d7 (by rw[h.sz];exact a);have:pA p k∈p.toList:=by
  rw[Array.mem_toList_iff];exact Array.mem_of_getElem? e
 exact List.mem_range.mp (h.pm.mem_iff.mp this)
def PermA.inj(h:PermA n p)(d:i<n)(b:j<n)(e:pA p i=pA p j):i=j:=by
 have nd:=h.pm.nodup_iff.mpr List.nodup_range;have f:p.toList[i]?=some (pA p i):=by rw[acV];exact d7 (by rw[h.sz];exact d)
 have g:p.toList[j]?=some (pA p j):=by rw[acV];exact d7 (by rw[h.sz];exact b)
 have l:i<p.toList.length:=by rw[acA,h.sz];exact d
 have a:j<p.toList.length:=by rw[acA,h.sz];exact b
 rw[iO l]at f;rw[iO a]at g;have c:p.toList[i]=p.toList[j]:=by rw[aam f,aam g,e]
 have k:=abK.mp nd;rcases Nat.lt_trichotomy i j with z|z|z
 .exact absurd c (k i j l a z)
 .exact z
 .exact absurd c.symm (k j i a l z)
def AscA(f:Nat->Nat->Bool)(p:Array Nat)(k:Nat):Prop:=∀i j,i<j->j<k->f (pA p i) (pA p j)=true
def DscA(f:Nat->Nat->Bool)(p:Array Nat)(k:Nat):Prop:=∀i j,i<j->j<k->f (pA p j) (pA p i)=true
section
variable {n:Nat}{f:Nat->Nat->Bool} (T:TotF n f)
include T
theorem TotF.no(h:PermA n p)(c:i<n)(b:j<n)(a:i≠j)(e:f (pA p i) (pA p j)=false):f (pA p j) (pA p i)=true:=by
 rcases T.tot _ _ (h.lt c) (h.lt b) (λz=>a (h.inj c b z))with z|z
 .simp_all
 .exact z
theorem DI(h:PermA n p){k:Nat}(g:1≤k)(c:k<n)(a:AscA f p k)(e:f (pA p (k-1)) (pA p k)=true):AscA f p (k+1):=λi j b d=>by
 by_cases z:j=k
 .subst z
  by_cases y:i=j-1
  .rw[y];exact e
  .exact T.tr _ _ _ (h.lt (by omega)) (h.lt (by omega)) (h.lt c) (a i _ (by omega) (by omega)) e
 .exact a i j b (by omega)
theorem su{p:Array Nat}(h:PermA n p):∀(u k:Nat),1≤k->k+u≤n->AscA f p k->∃m,runC n f (kas_asc p u k)=some m/\k≤m/\m≤k+u/\AscA f p m/\(m<k+u->f (pA p m) (pA p (m-1))=true)
 |0,k,_,_,a=>⟨k,rfl,Ge _,Ge _,a,λz=>by omega⟩
 | u+1,k,h1,hk,a=>by
  unfold kas_asc;rw[iU (h.lt (k:=k) (by omega)) (h.lt (k:=k-1) (by omega))]
  cases e:f (p.getD k 0) _ with
  |true=>
   exact⟨k,rfl,Ge _,by simp,a,λ_=>e⟩
  |false=>
   have d:=T.no h (i:=k) (j:=k-1) (by omega) (by omega) (by omega) e;let⟨m,r,m1,m2,b,c⟩:=su h u (k+1) (by exact ahC _) (by omega) (DI T h h1 (by omega) a d);exact⟨m,r,by exact aa7 ‹_›,by omega,b,λz=>c (by omega)⟩
theorem vH{p:Array Nat}(h:PermA n p):∀(u k:Nat),1≤k->k+u≤n->DscA f p k->∃m,runC n f (kas_desc u p k 0)=some (p,m,0)/\k≤m/\m≤k+u/\DscA f p m
 |0,k,_,_,a=>⟨k,rfl,Ge _,Ge _,a⟩
 | u+1,k,h1,hk,a=>by
  unfold kas_desc;rw[iU (h.lt (k:=k) (by omega)) (h.lt (k:=k-1) (by omega))]
  cases e:f (p.getD k 0) (p.getD (k-1) 0)with
  | true=>
   have g:DscA f p (k+1):=λi j b l=>by
    by_cases z:j=k
    .subst z
     by_cases y:i=j-1
     .rw[y];exact e
     .exact T.tr _ _ _ (h.lt (by omega)) (h.lt (by omega)) (h.lt (by omega)) e (a i (j-1) (by omega) (by omega))
    .exact a i j b (by omega)
   let⟨m,r,m1,m2,c⟩:=vH h u (k+1) (by omega) (by omega) g;exact⟨m,r,by omega,by omega,c⟩
  |false=>
   rw[if_neg (by decide),iU (h.lt (k:=k-1) (by omega)) (h.lt (k:=k) (by omega))];have d:=T.no h (i:=k) (j:=k-1) (by omega) (by omega) (by omega) e;rw[d,if_pos rfl];exact⟨k,rfl,Ge _,by omega,a⟩
theorem Fj(h:PermA n p)(i j:Nat):PermA n (kas_rev p i j):=by
 refine⟨by rw[kas_rev_size];exact h.sz,?_⟩;exact((mirror_perm p i j _).toList).trans h.pm
theorem IC(h:PermA n p){m:Nat}(b:m≤n){k:Nat}(c:k<n):pA (kas_rev p 0 m) k=if k<m then pA p (m-1-k)else pA p k:=by
 have e:=getElem?_mirror_all (i:=0) (j:=m) (by rw[h.sz];exact b) k;have a:(kas_rev p 0 m)[k]?=some _:=d7 (by rw[kas_rev_size,h.sz];exact c);unfold kas_rev at a⊢;rw[e]at a
 by_cases z:k<m
 .rw[if_pos ⟨abv _,z⟩,ac3,d7 (by rw[h.sz];omega)]at a;rw[if_pos z];exact(aam a).symm
 .rw[if_neg (λy=>z y.2),d7 (by rw[h.sz];omega)]at a;rw[if_neg z];exact(aam a).symm
theorem FW(h:PermA n p){m:Nat}(q:1≤m)(e:m≤n)(a:DscA f p m):∃b c,runC n f (kas_tail3 m n p)=some (b,c)/\PermA n c/\m≤b/\b≤n/\AscA f c b:=by
 have d:=Fj T h 0 m;have g:AscA f _ m:=λi j o l=>by
  rw[IC T h e (by omega),IC T h e (by exact aak ‹_› ‹_›),if_pos (by omega),if_pos l];exact a _ _ (by omega) (by omega)
 let⟨b,r,m1,m2,k,_⟩:=su T d (n-m) m q (by omega) g;refine⟨b,kas_rev p 0 m,?_,d,m1,by omega,k⟩;unfold kas_tail3;rw[fx,r];rfl
theorem zJ(h:PermA n p)(D:1≤n):∃a b,runC n f (kas_count n p)=some (a,b)/\PermA n b/\1≤a/\a≤n/\AscA f b a:=by
 let⟨m,r,m1,m2,c,u⟩:=su T h (n-1) 1 (Ge _) (by omega) (λi j d A=>by omega);unfold kas_count;rw[fx,r];show ∃a b,runC n f (if (m==n)=true then .ret (m,p)else _)=some (a,b)/\_
 by_cases z:m=n
 .rw[if_pos (by rw[z];exact beq_self_eq_true n)];exact⟨m,p,rfl,h,m1,by omega,c⟩
 .rw[if_neg (λy=>z (eq_of_beq y))]
  by_cases y:m>1
  .rw[if_pos y,iU (h.lt (k:=0) (by assumption)) (h.lt (k:=m-1) (by omega))];have e:=c 0 (m-1) (by omega) (by omega);rw[e,if_pos rfl];exact⟨m,p,rfl,h,m1,by omega,c⟩
  .rw[if_neg y];have q:m=1:=by omega
   subst q;have v:DscA f p 2:=λi j d A=>by
    have w:i=0:=by omega
    have s:j=1:=by omega
    rw[w,s];exact u (by omega)
   let⟨k,g,B,C,x⟩:=vH T h (n-2) 2 (by exact ahC _) (by omega) v;let⟨a,b,l,o,a1,a2,t⟩:=FW T h (m:=k) (by exact aa7 ‹_›) (by omega) x;refine⟨a,b,?_,o,by omega,a2,t⟩;unfold kas_descPart;rw[fx,g];show runC n f (if (0:Nat)>0 then _ else kas_tail3 k n p)=_;rw[if_neg (by decide)];exact l
theorem lg{p:Array Nat}(h:PermA n p){k:Nat}(b:k<n)(a:AscA f p k):∀(u l r:Nat),l≤r->r≤k->r-l≤u->(∀i,i<l->f (pA p i) (pA p k)=true)->(∀i,r≤i->i<k->f (pA p k) (pA p i)=true)->∃m,runC n f (kas_place p k u l r)=some m/\m≤k/\(∀i,i<m->f (pA p i) (pA p k)=true)/\∀i,m≤i->i<k->f (pA p k) (pA p i)=true
 |0,l,r,hl,hr,hu,b1,b2=>⟨l,rfl,by exact aao ‹_› ‹_›,b1,λi d=>b2 i (by omega)⟩
 | u+1,l,r,hl,hr,hu,b1,b2=>by
  unfold kas_place
  by_cases z:l≥r
  .rw[if_pos z];exact⟨l,rfl,by exact aao ‹_› ‹_›,b1,λi d=>b2 i (by exact aao ‹_› ‹_›)⟩
  .rw[if_neg z,iU (h.lt b) (h.lt (k:=(l+r)/2) (by omega))]
   cases e:f (p.getD k 0) (p.getD ((l+r)/2) 0)with
   | true=>
    rw[if_pos rfl];exact lg h b a u l ((l+r)/2) (by omega) (by omega) (by omega) b1 λi d c=>by
     by_cases y:i=(l+r)/2
     .rw[y];exact e
     .exact T.tr _ _ _ (h.lt b) (h.lt (k:=(l+r)/2) (by omega)) (h.lt (by omega)) e (a _ _ (by omega) c)
   | false=>
    have g:=T.no h (i:=k) (j:=(l+r)/2) b (by omega) (by omega) e;exact lg h b a u ((l+r)/2+1) r (by omega) hr (by omega) (λi d=>by
     by_cases y:i=(l+r)/2
     .rw[y];exact g
     .exact T.tr _ _ _ (h.lt (by omega)) (h.lt (k:=(l+r)/2) (by omega)) (h.lt b) (a _ _ (by omega) (by omega)) g) b2
theorem Jf(h:PermA n p){k l:Nat}(b:k<n)(d:l≤k)(c:i<n):pA (bubble p k (k-l)) i=if i=l then pA p k else if l<i/\i≤k then pA p (i-1)else pA p i:=by
 have e:=getElem?_bubble (xs:=p) (src:=k) (by rw[h.sz];exact b) (k-l) (by simp) i;have a:(bubble p k (k-l))[i]?=some _:=d7 (by rw[bubble_size,h.sz];exact c);rw[e,show k-(k-l)=l by omega]at a
 by_cases z:i=l
 .rw[if_pos z,d7 (by rw[h.sz];exact b)]at a;rw[if_pos z];exact(aam a).symm
 .rw[if_neg z]at a⊢
  by_cases y:l<i/\i≤k
  .rw[if_pos y,d7 (by rw[h.sz];omega)]at a;rw[if_pos y];exact(aam a).symm
  .rw[if_neg y,d7 (by rw[h.sz];omega)]at a;rw[if_neg y];exact(aam a).symm
theorem zH:∀(u:Nat) {p:Array Nat}{k:Nat},PermA n p->k+u=n->AscA f p k->∃c,runC n f (kas_bin u p k)=some c/\PermA n c/\AscA f c n
 |0,p,k,h,hk,a=>⟨p,rfl,h,by rw[<-hk];exact a⟩
 | u+1,p,k,h,hk,a=>by
  let⟨l,r,d,b1,b2⟩:=lg T h (k:=k) (by omega) a k 0 k (by exact abv _) (Ge _) (by exact Ge _) (λi s=>by contradiction) (λi s q=>by omega);unfold kas_bin;rw[fx,r];have m:PermA n (bubble p k (k-l)):=⟨by rw[bubble_size];exact h.sz,((bubble_perm p k (k-l)).toList).trans h.pm⟩;refine zH u m (by omega) λi j b t=>?_;rw[Jf T h (by omega) d (by omega),Jf T h (by omega) d (by omega)]
  by_cases o:i=l
  .grind
  .rw[if_neg o]
   by_cases e:j=l
   .rw[if_pos e,if_neg (by omega)];exact b1 _ (by omega)
   .rw[if_neg e]
    by_cases g:l<i/\i≤k
    .rw[if_pos g,if_pos (by omega)];exact a _ _ (by omega) (by omega)
    .rw[if_neg g]
     by_cases z:l<j/\j≤k
     .rw[if_pos z];exact a _ _ (by omega) (by omega)
     .rw[if_neg z];exact a _ _ b (by omega)
theorem Dh(c:1≤n):∃p,runC n f (kas_sort n)=some p/\PermA n p/\AscA f p n:=by
 have h0:PermA n (List.toArray (aaB n)):=⟨by simp,by simp⟩;let⟨m,p,r,h,m1,m2,a⟩:=zJ T h0 c;unfold kas_sort;rw[fx,r];show ∃b,runC n f _=some b/\_
 by_cases z:m<n
 .rw[if_pos z,show max m 1=m by omega];exact zH T _ h (by omega) a
 .rw[if_neg z];have:m=n:=by omega
  subst this;exact⟨p,rfl,h,a⟩
end
end L2
namespace L2
open PySem PySem.Spec PySem.W PyProof.Rows
def LtAt(A:aa2)(s:Ad)(x y:oR)(b:Bool):Prop:=
 ∀(prog:aaA) (w:World) (E:oR->Ad->Prop) (Q:oR->Ad->Prop),Q (.bool b) s->wpAny (model prog w) A (richCompare .Lt x y) Q E s
def yw(A:aa2)(s:Ad)(f r:Bool):List (oR×oR)->Prop
 |[]=>r=f
 |p::ps=>∃e,agb A s p.1 p.2 e/\((e=true->yw A s f r ps)/\(e=false->LtAt A s p.1 p.2 r))
theorem l7(l b:Addr)(xs ys:Array oR)(n m:Nat)(g j:Option Addr)(s1 s2:Array (Option oR))(r:Bool) :
  Meets (acE.«tuple.__lt__» ⟨[.ref l,.ref b],[]⟩)
   (λA R s=>s.heap.get? l=some {cls:=.type "tuple",dict:=g,data:=.seq xs n,slots:=s1}/\s.heap.get? b=some {cls:=.type "tuple",dict:=j,data:=.seq ys m,slots:=s2}/\yw A.in1 s (decide (xs.size<ys.size)) r (xs.toList.zip ys.toList)/\R (.ok (.ret (.bool r))) s):=
 .of_wp λprog w A R s h=>by
  let⟨k,i,hp,hr⟩:=h;have sub:=AutoSeq1.sub_tuple_tuple
  wp_walk using ae8 k,ae8 i,aeG _ (λrest z a=>z.1=none/\a=s/\yw A.in1 s (decide (xs.size<ys.size)) r rest) _
  case turn=>
   intro⟨u,v⟩ rest z a ⟨d,rfl,e,f,p,o⟩;refine aD (f prog w _ _ ?_)
   cases e with
   |true=>exact Dl ⟨rfl,rfl,p rfl⟩
   |false=>
    refine aD (acO (aD (o rfl prog w _ _ ?_)))
    wp_walk
    exact⟨_,rfl,hr⟩
  case fin=>
   intro⟨z,u⟩ a ⟨d,rfl,e⟩;have c:z=none:=d;subst c
   wp_walk
   refine⟨_,rfl,?_⟩;rw[e]at hr;exact hr
  case h=>exact⟨rfl,rfl,hp⟩
mutual
def ltD:dL->dL->Bool
 | .int a,.int b=>decide (a<b)
 | .tuple xs,.tuple ys=>ltDs xs ys
 |_,_=>false
def ltDs:List dL->List dL->Bool
 |x::xs,y::ys=>if aar x y=true then ltDs xs ys else ltD x y
 |[],_::_=>true
 |_,_=>false
end
mutual
def smD:dL->dL->Bool
 | .int _,.int _=>true
 | .tuple xs,.tuple ys=>smDs xs ys
 |_,_=>false
def smDs:List dL->List dL->Bool
 |[],[]=>true
 |x::xs,y::ys=>smD x y&&smDs xs ys
 |_,_=>false
end
mutual
theorem BU:∀{x y:dL},smD x y=true->x.canLay0=true/\y.canLay0=true
 | .int _,.int _,_=>⟨rfl,rfl⟩
 | .tuple xs,.tuple ys,h=>by
  simp only[smD]at h;have:=Bw h;exact⟨this.1,this.2⟩
theorem Bw:∀{xs ys:List dL},smDs xs ys=true->aa9 xs=true/\aa9 ys=true
 |[],[],_=>⟨rfl,rfl⟩
 |x::xs,y::ys,h=>by
  simp only[smDs,aa1]at h;have a:=BU h.1;have b:=Bw h.2;exact⟨by simp only[aa9,a.1,b.1,Bool.and_self],by simp only[aa9,a.2,b.2,Bool.and_self]⟩
end
def LtUp(k:Nat):Prop:=∀(x y:dL) (A:aa2) (s:Ad) (u v:oR) (a bs:List Addr),x.depth≤k->Reads s.heap u x a->Reads s.heap v y bs->smD x y=true->A.units+x.depth<cLine->LtAt A s u v (ltD x y)
theorem kH{k:Nat}(I:LtUp k)(A:aa2)(s:Ad):∀(xs ys:List dL) (u vs:List oR) (as bs:List Addr),aaw xs≤k->adY s.heap u xs as->adY s.heap vs ys bs->smDs xs ys=true->A.units+aaw xs<cLine->u.length=vs.length/\yw A s false (ltDs xs ys) (u.zip vs)
 | [],ys,u,vs,as,bs,hk,r1,r2,h,hu=>by
  cases ys with
  |cons y ys=>exact absurd h (by simp only[smDs];decide)
  |nil=>
   cases r1;cases r2;exact⟨rfl,rfl⟩
 | x::xs,ys,u,vs,as,bs,hk,r1,r2,h,hu=>by
  cases ys with
  |nil=>exact absurd h (by simp only[smDs];decide)
  | cons y ys=>
   simp only[smDs,aa1]at h
   cases r1 with
   | cons a1 a2=>
    cases r2 with
    |cons b1 b2=>
     have a:max x.depth _≤k:=hk;have dp:A.units+max x.depth _<cLine:=hu;have l:=BU h.1;let⟨c,b⟩:=kH I A s xs ys _ _ _ _ (by omega) a2 b2 h.2 (by omega);refine⟨by rw[aaI,aaI,c],aar x y,ahT x y A s _ _ _ _ a1 b1 l.1 l.2 (by have:=Nat.min_le_left x.depth y.depth;omega),λe=>?_,λe=>?_⟩
     .rw[ltDs,if_pos e];exact b
     .rw[ltDs,if_neg (by rw[e];decide)];exact I x y A s _ _ _ _ (by omega) a1 b1 h.1 (by omega)
theorem uz:∀k,LtUp k
 | 0,x,y,A,s,u,v,as,bs,hk,r1,r2,h,hu=>by
  cases x with
  | int a=>
   cases y with
   |int b=>
    cases r1;cases r2;exact λprog w E Q h=>wpAny_lt_int h
   |_=>exact absurd h (by simp only[smD];decide)
  |tuple c=>exact absurd hk (by show ¬aaw c+1≤0;contradiction)
  |_=>exact absurd h (by simp only[smD];decide)
 | k+1,x,y,A,s,u,v,as,bs,hk,r1,r2,h,hu=>by
  cases x with
  | int a=>
   cases y with
   |int b=>
    cases r1;cases r2;exact λprog w E Q h=>wpAny_lt_int h
   |_=>exact absurd h (by simp only[smD];decide)
  | tuple c=>
   cases y with
   | tuple q=>
    simp only[smD]at h
    cases r1 with
    | tuple r i G M=>
     cases r2 with
     |tuple D C t J=>
      rename_i l o vs n m N d P;let⟨cls,K,j,R⟩:=o;let⟨B,g,f,e⟩:=N;dsimp only at i G C t;subst i G C t;have H:aaw c+1≤k+1:=hk;have dp:A.units+(aaw c+1)<cLine:=hu;let⟨O,I⟩:=kH (uz k) A.in1 s c q vs.toList d.toList _ _ (by omega) M J h (show A.units+1+aaw c<cLine by omega);rw[acA,acA]at O;intro prog w E Q L;refine richCompare_meets_room (op:=.Lt) ⟨_,r,rfl⟩ ⟨_,D,rfl⟩ F.slot_tuple_lt F.entry_tuple_lt (F.args_tuple_lt_2 _ _) (l7 l m vs d n P K g R e (ltDs c q)) ⟨r,D,?_,⟨(λz=>nomatch z),L⟩⟩ (by omega);rw[decide_eq_false (p:=_) (by omega)];exact I
   |_=>exact absurd h (by simp only[smD];decide)
  |_=>exact absurd h (by simp only[smD];decide)
end L2
namespace L2
open PySem PySem.Spec PyProof.Rows
variable{n:Nat}{T v:Addr}{b:Bool}{o:Obj}{Q:Option oR->Ad->Prop}{P:Addr->aaR->Nat->oR->Prop}
section
variable {prog:aaA}{w:World}{A:aa2}{E:oR->Ad->Prop}{s:Ad}{it d:Addr}{es:Array ab3}{i ep:Nat}{ok ov:oR}
def l4(h:aaR)(it d:Addr)(i n ep:Nat)(k v:oR)(T:Addr)(b:Bool):Prop:=h.get? it=some {cls:=.type "dict_itemiterator",data:=.fields #[acq T,.bool b,.ref d,.int i 0,.int n 0,.int ep 0,k,v]}
def OI{a:Addr}{Q:Option Obj->Ad->Prop}(h:Q (s.heap.get? a) s):wpAny (model prog w) A (loadIfAlive a) Q E s:=λ_ _ _=>h
theorem N9{j:Nat}{Q:Bool->Ad->Prop}(h:l4 s.heap it d j n ep ok ov T b)(g:s.heap.get? T=some o)
  (a:∀h',l4 h' it d j n ep ok ov T true->h'.objs.size=s.heap.objs.size->(∀c o,c≠it->s.heap.get? c=some o->h'.get? c=some o)->Q false {s with heap:=h' }):wpAny (model prog w) A (abT (.ref it)) Q E s:=by
 refine aD (aaQ h rfl (x:=acq T) rfl ?_);refine aD (OI ?_);rw[show((T:Int)).toNat=T by rfl,g];refine aD (aaQ h rfl (x:=.bool b) rfl ?_)
 cases b with
 |true=>exact Dl (a s.heap h rfl λc o _ q=>q)
 |false=>
  refine aD (aaC h (by simp) λe i1 s1=>?_);exact Dl (a e i1 s1.1 λc o f q=>s1.extBut c o f q)
def Fx{j:Nat}{k v:oR}{Q:oR->Ad->Prop}(h:l4 s.heap it d j n ep ok ov T b)(f:s.heap.get? T=some o)
  (g:∀h',l4 h' it d j n ep ok ov T true->h'.get? s.heap.objs.size=some {cls:=.type "tuple",data:=.seq #[k,v]}->h'.objs.size=s.heap.objs.size+1 ->
   (∀c o,c≠it->s.heap.get? c=some o->h'.get? c=some o)->Q (.ref s.heap.objs.size) {s with heap:=h' }):wpAny (model prog w) A (ab1 (.ref it) 6 k v) Q E s:=by
 have lt:=aab h;have p:∀c o,s.heap.get? c=some o->(s.heap.push {cls:=.type "tuple",data:=.seq #[k,v]}).get? c=some o:=λc o q=>AD _ q;refine aD (m:=abT _) (N9 (p _ _ h) (p _ _ f) λh' a1 a2 a=>?_);refine Dl (g h' a1 (a _ _ (aa8 lt) (aai _ rfl)) (a2.trans (abq ..)) λc o e q=>a c o e (p c o q))
def C7(h:l4 s.heap it d i es.size ep ok ov T b)(l:s.heap.get? T=some o)(H:T≠it)(D:EntAt s.heap d es ep)(C:i<es.size)
  (G:∀h',l4 h' it d (i+1) es.size ep ok ov T true->h'.get? s.heap.objs.size=some {cls:=.type "tuple",data:=.seq #[es[i].key,es[i].val]}->h'.objs.size=s.heap.objs.size+1 ->
   (∀c o,c≠it->s.heap.get? c=some o->h'.get? c=some o)->Q (some (.ref s.heap.objs.size)) {s with heap:=h' }):wpAny (model prog w) A (acP (.ref it)) Q E s:=by
 let⟨L,k,I,f⟩:=D.ex;have a:s.TypeIs (.ref it) "dict_itemiterator":=(⟨_,h,rfl⟩);have own:aby "dict_itemiterator" = true:=by decide
 unfold acP;refine aD (acK (aaU (name:=ack "__next__") a aa6 (aa0 aa6 a acf ?_ (ab7 _))))
 wp_walk using qV a,afv h rfl,ac6 k f,adt k f,abd a
 have B:(if (i:Int)<0 then none else es[((i:Nat):Int).toNat]?)=some es[i]:=by
  rw[if_neg (by omega),aaW,acW C]
 rw[B];rcases s with⟨hp,g,p,tk,os⟩;refine aD ?_;refine aD (qV a (Dl ?_));refine aD (m:=afw _ _) (abd a ?_);show wpAny _ _ (ac5 (.ref it) 3 (acq ((i:Int)+1)) >>= _) _ _ _;refine aD (aaC h (by simp) λe F s1=>?_);replace s1:abo it hp e:=s1;have j:l4 e it d (i+1) es.size ep ok ov T b:=by
  have q:((i+1:Nat):Int)=(i:Int)+1:=rfl;unfold l4;rw[q];simpa[acq]using F
 have u:afP ⟨e,g,p,tk,os⟩ (.ref it) "dict_itemiterator":=(⟨_,j,rfl⟩);refine aD (abu (aD (abd u (aD (abd u ?_)))));show wpAny _ _ (ab1 (.ref it) 6 es[i].key es[i].val) _ _ ⟨e,g,p,tk,os⟩;have y:e.objs.size=hp.objs.size:=s1.1;refine Fx (s:=⟨e,g,p,tk,os⟩) j (s1.extBut T o H l) λJ K t z x=>?_;rw[y]at t z⊢;exact Dl ⟨_,rfl,Dl (G J K t z λc o r q=>x c o r (s1.extBut c o r q))⟩
def FM(p:A.handled=none)(h:l4 s.heap it d i es.size ep ok ov T b)(j:EntAt s.heap d es ep)(z:es.size≤i)
  (B:∀h',(∀c o,c≠it->s.heap.get? c=some o->h'.get? c=some o)->Q none {s with heap:=h' }):wpAny (model prog w) A (acP (.ref it)) Q E s:=by
 let⟨F,f,k,g⟩:=j.ex;have a:s.TypeIs (.ref it) "dict_itemiterator":=(⟨_,h,rfl⟩);have own:aby "dict_itemiterator" = true:=by decide
 unfold acP;refine aD (acK (aaU (name:=ack "__next__") a aa6 (aa0 aa6 a acf ?_ (ab7 _))))
 wp_walk using qV a,afv h rfl,ac6 f g,adt f g,abd a
 have t:(if (i:Int)<0 then none else es[((i:Nat):Int).toNat]?)=none:=by
  rw[if_neg (by omega),aaW,agp z]
 rw[t];refine aD (aD (qV a (Dl ?_)));refine aD (m:=ac5 (.ref it) 2 .none) (aaC h (by simp) λG D s1=>?_);refine oU p λl e x ⟨y,r,C⟩=>?_;exact aD (adi (T:= "StopIteration") (b:=true) ⟨y,r,C⟩ afr (Dl (B l λc o u q=>x c o (s1.extBut c o u q))))
structure Nx(prog:aaA)(w:World)(A:aa2)(S it:Addr)(n:Nat)(St:Nat->aaR->Prop)(P:aaR->Nat->oR->Prop):Prop where
 item:∀(i:Nat) (s:Ad) (Q:Option oR->Ad->Prop) (E:oR->Ad->Prop),i<n->St i s.heap->(∃o,s.heap.get? S=some o)->(∀h' v,St (i+1) h'->P h' i v->(∀c o,c≠it->s.heap.get? c=some o->h'.get? c=some o)->Q (some v) {s with heap:=h' })->wpAny (model prog w) A (acP (.ref it)) Q E s
 done:∀(s:Ad) (Q:Option oR->Ad->Prop) (E:oR->Ad->Prop),St n s.heap->(∀h',(∀c o,c≠it->s.heap.get? c=some o->h'.get? c=some o)->Q none {s with heap:=h' })->wpAny (model prog w) A (acP (.ref it)) Q E s
 keep:∀i h h',St i h->h'.objs.size=h.objs.size->(∀c o,c≠S->h.get? c=some o->h'.get? c=some o)->St i h'
 more:∀h h' i v,P h i v->(∀c o,c≠S->c≠it->h.get? c=some o->h'.get? c=some o)->P h' i v
def lP(h:aaR)(S:Addr)(acc:Array oR)(c:Nat):Prop:=h.get? S=some {cls:=.type "list",data:=.seq acc c}
theorem ve{S it:Addr}{n:Nat}{St:Nat->aaR->Prop}{P:aaR->Nat->oR->Prop}{R:Result->Ad->Prop}{r:oR}(N:Nx prog w A.in1 S it n St P)(ne:S≠it)(F:n≤aaf):∀(k i:Nat) (s:Ad) (acc:Array oR) (c:Nat),n-i=k->i≤n->St i s.heap->lP s.heap S acc c->acc.size=i->(∀j v,acc[j]?=some v->P s.heap j v) ->
  (∀h' a J,(∀b o,b≠it->b≠S->s.heap.get? b=some o->h'.get? b=some o)->lP h' S a J->a.size=n->(∀j v,a[j]?=some v->P h' j v)->R (.ok (.ret r)) {s with heap:=h' })->ael (model prog w) A (.builtin "list.extend.loop" ⟨[.ref S,.ref it,r],[]⟩) R s
 |0,i,s,acc,c,hk,hi,st,hl,ha,hp,fin=>by
  have e:i=n:=by omega
  subst e;refine afa ag6 ((ae2 adU _).symm▸?_);refine aD (m:=acP (.ref it)) (N.done s _ _ st λh' kp=>Dl (fin h' acc c (λb o x _ q=>kp b o x q) (kp S _ ne hl) ha λj v e=>N.more _ _ _ _ (hp j v e) λc o _ g q=>kp c o g q))
 | k+1,i,s,acc,c,hk,hi,st,hl,ha,hp,fin=>by
  refine afa ag6 ((ae2 adU _).symm▸?_);refine aD (m:=acP (.ref it)) (N.item i s _ _ (by omega) st ⟨_,hl⟩ λh' v t C kp=>?_);have h:lP h' S acc c:=kp S _ ne hl;refine aD (m:=updateSeq S (·.push v)) (agz (s:={s with heap:=h' }) h rfl (Dl ⟨ahd adU _,?_⟩) (by rw[ha];exact aao ‹_› ‹_›) (by show(acc.push v).size≤aaf+1;rw[ah0,ha];omega));have l:∀b o,b≠S->h'.get? b=some o->(h'.update S (aca (·.push v))).get? b=some o:=λb o x q=>(aaV _ _ (abb x)).trans q;have p:∀j u,(acc.push v)[j]?=some u->P (h'.update S (aca (·.push v))) j u:=λj u e=>by
   rw[Array.getElem?_push]at e
   split at e
   .rename_i z;rw[ha]at z;subst z;rw[<-aam e];exact N.more _ _ _ _ C λc o g _ q=>l c o g q
   .exact N.more _ _ _ _ (hp j u e) λc o g K q=>l c o g (kp c o K q)
  refine ve N ne F k (i+1) _ (acc.push v) _ (by omega) (by omega) (N.keep _ _ _ t (adL ..) l) (abi _ h rfl) (by rw[ah0,ha]) p λG f I B H D y=>fin G f I (λb o n1 n2 q=>B b o n1 n2 (l b o n2 (kp b o n1 q))) H D y
end
section
variable {prog:aaA}{w:World}{A:aa2}{E:oR->Ad->Prop}{s:Ad}{f d S:Addr}{es:Array ab3}{i g:Nat}{ok r:oR}
def StI(S f d:Addr)(es:Array ab3)(g:Nat)(i:Nat)(h:aaR):Prop:=EntAt h d es g/\h.objs.size=f+1+i/\((∃ok r,acy h f d i es.size g ok r)\/∃k v T b o,l4 h f d i es.size g k v T b/\h.get? T=some o/\T≠f/\T≠S)
def PrI(S f:Addr)(es:Array ab3)(h:aaR)(i:Nat)(v:oR):Prop:=S<f/\v = .ref (f+1+i)/\∃a:i<es.size,h.get? (f+1+i)=some {cls:=.type "tuple",data:=.seq #[es[i].key,es[i].val]}
def zP(f:Addr)(i:Nat):f+1+i≠f:=aa8 (aak (abI f) (ace _ i))
def yD{S f:Addr}(h:S<f)(i:Nat):f+1+i≠S:=aa8 (abc h (aak (abI f) (ace _ i)))
theorem GQ(D:A.handled=none)(n1:S<f)(n2:S≠d)(C:f≠d):Nx prog w A S f es.size (StI S f d es g) (PrI S f es) where
 item:=by
  intro i s Q E m ⟨c,z,st⟩ ⟨G,H⟩ u;rcases st with⟨ok,r,st⟩|⟨k,v,T,b,o,st,B,x,y⟩
  .refine qE st c m λp a1 a2 t j=>?_;rw[z]at a1 a2 t⊢;exact u p _ ⟨c.keep λo q=>j d o (abb C) q,t,.inr ⟨_,_,_,false,_,a1,a2,(zP f i),(yD n1 i)⟩⟩ ⟨n1,rfl,m,a2⟩ j
  .refine C7 st B x c m λp a1 a2 t j=>?_;rw[z]at a2 t⊢;exact u p _ ⟨c.keep λo q=>j d o (abb C) q,t,.inr ⟨_,_,_,true,o,a1,j T o x B,x,y⟩⟩ ⟨n1,rfl,m,a2⟩ j
 done:=by
  intro s Q E ⟨c,z,st⟩ u;rcases st with⟨ok,r,st⟩|⟨k,v,T,b,o,st,_⟩
  .exact qy D st c (Ge _) u
  .exact FM D st c (Ge _) u
 keep:=by
  intro i h p ⟨c,z,st⟩ F k;refine⟨c.keep λo q=>k d o (abb n2) q,F.trans z,?_⟩;rcases st with⟨ok,r,st⟩|⟨a,v,T,b,o,st,B,x,y⟩
  .exact .inl ⟨ok,r,k f _ (aa8 n1) st⟩
  .exact .inr ⟨a,v,T,b,o,k f _ (aa8 n1) st,k T o y B,x,y⟩
 more:=by intro h p i v ⟨l,e,m,q⟩ k;exact⟨l,e,m,k _ _ (yD n1 i) (zP f i) q⟩
def yU{Q:oR->Ad->Prop}(c:s.heap.get? v=some {cls:=.type "dict_items",data:=.fields #[.ref d]})(j:EntAt s.heap d es g)
  (l:∀h',acy h' s.heap.objs.size d 0 es.size g .none .none->h'.objs.size=s.heap.objs.size+1->(∀b o,s.heap.get? b=some o->h'.get? b=some o)->Q (.ref s.heap.objs.size) {s with heap:=h' }):wpAny (model prog w) A (afi (.ref v)) Q E s:=by
 let⟨m,h,k,a⟩:=j.ex;have e:s.TypeIs (.ref v) "dict_items":=(⟨_,c,rfl⟩);have own:aby "dict_itemiterator" = true:=by decide
 refine afK e acz (aa0 acz e aeZ ?_ (aeK _));refine aD (Dl (aD (aD (aaQ c rfl (x:=.ref d) rfl (Dl (aD (aD (ac6 h a (aD (adt h a ?_))))))))));simp only[own,if_true];refine aa3 (Dl ⟨_,rfl,"dict_itemiterator",_,⟨_,aai _ rfl,rfl⟩,acM.lookup,?_⟩) (by simp only[sizeOk,ad0,aay,aat,aaI,ae9,aaj];decide);exact l _ (aai _ rfl) (abq ..) λb o q=>AD _ q
def zM:typeLookup (.type "dict_items") "__len__" = pure (some (.builtin "dict_items.__len__")):=by rfl
theorem wN{Q:Bool->Ad->Prop}(a:s.TypeIs (.ref v) "dict_items")(h:Q false s):wpAny (model prog w) A (acI (.ref v)) Q E s:=by
 rw[acI];refine aD (agx a zM ?_);have sp:splitId "dict_items.__len__" = some ("dict_items","__len__"):=by decide +kernel
 dsimp only;rw[sp];dsimp only;refine aD (adi (b:=true) a (by rw[isSubtype_type];kernel_rfl) ?_);rw[if_neg (by decide)];rw[if_pos (by decide +kernel)];exact aD (adl a (Dl h))
def RM{c:Nat}{Q:Unit->Ad->Prop}(e:lP s.heap S #[] c)(h:∀h' j,lP h' S #[] j->h'.objs.size=s.heap.objs.size->(∀b o,b≠S->s.heap.get? b=some o->h'.get? b=some o)->Q () {s with heap:=h' }):wpAny (model prog w) A (acE.List.listTouch (.ref S)) Q E s:=by
 refine aD (agz e rfl ?_ (by simp) (by trivial));have l:lP (s.heap.update S (aca (·.push .none))) S (#[].push .none) _:=abi _ e rfl;refine agz l rfl ?_ (by show(1:Nat)≤aaf;rw[aaj];decide) (by trivial);have k:lP ((s.heap.update S (aca (·.push .none))).update S (aca (·.pop))) S #[] _:=abi _ l rfl;exact h _ _ k ((adL ..).trans (adL ..)) λb o a q=>(aaV _ _ (abb a)).trans ((aaV _ _ (abb a)).trans q)
def Di{T:String}{c:Nat}{St:Addr->Nat->aaR->Prop}{R:Result->Ad->Prop}(y:s.TypeIs (.ref v) T)(a:T = "dict_items" \/ T = "dict")(K:S≠v)(U:lP s.heap S #[] c)(O:n≤aaf)
  (h:∀(s:Ad) (Q:Bool->Ad->Prop) (E:oR->Ad->Prop),s.TypeIs (.ref v) T->Q false s->wpAny (model prog w) A.in1 (acI (.ref v)) Q E s)
  (k:∀(Q:oR->Ad->Prop) (E:oR->Ad->Prop),(∀h' f,f≠S->Nx prog w A.in1 S f n (St f) (P f)->St f 0 h'->(∀b o,s.heap.get? b=some o->h'.get? b=some o)->s.heap.get? f=none->Q (.ref f) {s with heap:=h' })->wpAny (model prog w) A.in1 (afi (.ref v)) Q E s)
  (l:∀f h' (acc:Array oR) c',(∀b o,b≠S->s.heap.get? b=some o->h'.get? b=some o)->lP h' S acc c'->acc.size=n->(∀j u,acc[j]?=some u->P f h' j u)->R (.ok (.ret (.ref S))) {s with heap:=h' }):ael (model prog w) A (.builtin "list.__iadd__" ⟨[.ref S,.ref v],[]⟩) R s:=by
 refine afa F.entry_list_iadd ((ae2 F.plain_list_iadd _).symm▸?_);show wpAny _ A.in1 (acE.List.listExtendWith (.ref S) (.ref v) (.ref S)) _ _ _;refine aD ?_;refine adl y ?_;have Y:afR (.ref S) (.ref v)=false:=by simp[afR,K]
 rw[Y,if_neg (by rcases a with rfl|rfl<;>decide)];refine aD (k _ _ λC f ni N st t M=>?_);have p:afP {s with heap:=C} (.ref v) T:=by
  let⟨o,Z,D⟩:=y;exact⟨o,t _ _ Z,D⟩
 refine aD (abu (h _ _ _ p ?_));dsimp only;rw[if_pos (by rcases a with rfl|rfl<;>decide)];refine aD (acO (aD (RM (s:={s with heap:=C}) (t _ _ U) λh2 J W m x=>?_)));refine Dl ⟨ahd adU _,ve N (abb ni) O n 0 _ #[] J rfl (abv _) (N.keep _ _ _ st m x) W rfl (λj u e=>by simp at e) λL acc G I V X H=>l f L acc G (λb o B q=>I b o (λz=>by rw[z,M]at q;cases q) B (x b o B (t b o q))) V X H⟩
def xy{T:String}{St:Addr->Nat->aaR->Prop}{Q:List oR->Ad->Prop}(B:s.TypeIs (.ref v) T)(e:T = "dict_items" \/ T = "dict")(D:n≤aaf)
  (c:∀(s:Ad) (Q:Bool->Ad->Prop) (E:oR->Ad->Prop),s.TypeIs (.ref v) T->Q false s->wpAny (model prog w) A.in1 (acI (.ref v)) Q E s)
  (a:∀(s1:Ad) (Q:oR->Ad->Prop) (E:oR->Ad->Prop),(∀b o,s.heap.get? b=some o->s1.heap.get? b=some o)->(∃o,s1.heap.get? s.heap.objs.size=some o)->(∀h' f,f≠s.heap.objs.size->Nx prog w A.in1 s.heap.objs.size f n (St f) (P f)->St f 0 h'->(∀b o,s1.heap.get? b=some o->h'.get? b=some o)->s1.heap.get? f=none->Q (.ref f) {s1 with heap:=h' })->wpAny (model prog w) A.in1 (afi (.ref v)) Q E s1)
  (x:∀f h' (acc:Array oR),(∀b o,s.heap.get? b=some o->h'.get? b=some o)->s.heap.objs.size<h'.objs.size->acc.size=n->(∀j u,acc[j]?=some u->P f h' j u)->Q acc.toList {s with heap:=h' }):wpAny (model prog w) A (collect (.ref v)) Q E s:=by
 have new:lP _ s.heap.objs.size #[] 0:=aai _ rfl;have y:∀b o,s.heap.get? b=some o->(s.heap.push {cls:=.type "list",data:=.seq #[]}).get? b=some o:=λb o q=>AD _ q;have C:s.heap.objs.size≠v:=by
  let⟨o,q,_⟩:=B;exact aa8 (aab q)
 have t:afP {s with heap:=s.heap.push {cls:=.type "list",data:=.seq #[]} } (.ref v) T:=by
  let⟨o,H,G⟩:=B;exact⟨o,y _ _ H,G⟩
 refine aD (m:=runValue _) (wpAny_runValue (afa F.entry_proto_collect (aD (m:=newList []) (aa3 (Dl ⟨ahd F.plain_list_iadd _,?_⟩)))));refine Di t e C new D c (λQ E h=>a {s with heap:=s.heap.push {cls:=.type "list",data:=.seq #[]} } Q E y ⟨_,new⟩ h) λf h' acc I k l z p=>?_;refine aD (m:=load s.heap.objs.size) (wpAny_load l ?_);exact Dl (x f h' acc (λb o q=>k b o (aaK (aab q)) (y b o q)) (aab l) z p)
end
end L2
namespace L2
open PySem PySem.Spec PySem.W PyProof.Rows
variable{ds:List dL}{n:Nat}{B b:Addr}{g:Nat->HO}{o:Expr}{apos cpos p0 pos:Pos}{wo:WE}
section
variable {prog:aaA}{w:World}{A:aa2}{E:oR->Ad->Prop}{s:Ad}
def Md(h h':aaR):Prop:=∀b o,h.get? b=some o->o.cls = .type "tuple" -> h'.get? b=some o
theorem uL{h h':aaR}{k:Nat}(K:Md h h')(I:∀x y u as,x.depth≤k->smD x y=true->Reads h u x as->∃bs,Reads h' u x bs):∀(xs ys:List dL) us as,aaw xs≤k->smDs xs ys=true->adY h us xs as->∃bs,adY h' us xs bs
 |[],ys,us,as,_,_,r=>by cases r;exact⟨[],.nil⟩
 | x::xs,ys,us,as,hk,sm,r=>by
  cases ys with
  |nil=>exact absurd sm (by simp only[smDs];decide)
  | cons y ys=>
   simp[smDs]at sm;have a:max x.depth _≤k:=hk
   cases r with
   |cons r1 c=>
    let⟨b1,q⟩:=I x y _ _ (by omega) sm.1 r1;let⟨b2,d⟩:=uL K I xs ys _ _ (by omega) sm.2 c;exact⟨_,.cons q d⟩
theorem za{h h':aaR}(K:Md h h'):∀(k:Nat) (x y:dL) (u:oR) (as:List Addr),x.depth≤k->smD x y=true->Reads h u x as->∃bs,Reads h' u x bs
 |k,.int a,y,u,as,_,_,r=>by cases r;exact⟨_,.int _ _⟩
 |0,.tuple xs,y,u,as,hk,_,_=>absurd hk (by show ¬aaw xs+1≤0;contradiction)
 | k+1,.tuple xs,y,u,as,hk,sm,r=>by
  cases y with
  | tuple d=>
   have f:aaw xs+1≤k+1:=hk
   cases r with
   |tuple e c q z=>
    let⟨bs,i⟩:=uL K (za K k) xs d _ _ (by omega) sm z;exact⟨_,.tuple (K _ _ e c) c q i⟩
  |_=>exact absurd sm (by simp only[smD];decide)
 |k,.none,y,u,as,_,sm,_=>absurd sm (by simp only[smD];decide)
 |k,.bool _,y,u,as,_,sm,_=>absurd sm (by simp only[smD];decide)
 |k,.str _,y,u,as,_,sm,_=>absurd sm (by simp only[smD];decide)
 |k,.list _,y,u,as,_,sm,_=>absurd sm (by simp only[smD];decide)
 |k,.dict _,y,u,as,_,sm,_=>absurd sm (by simp only[smD];decide)
theorem yx{f r:Bool}{Q:Bool->Ad->Prop}(q:Q r s):∀(ps:List (oR×oR)) (i:Nat),yw A s f r ps->KatLex prog w A false f Q ps i s
 |[],i,h=>kat_nil (by have a:=h;rw[<-a];exact q)
 |p::ps,i,⟨e,he,h1,h2⟩=>by
  refine kat_cons (he prog w _ _ ?_)
  cases e with
  |true=>exact kat_yes (yx q ps _ (h1 rfl))
  |false=>exact kat_no (kat_one _ _ (h2 rfl prog w _ _ q))
def RdL(h:aaR):List oR->List dL->Prop
 |[],[]=>True
 |v::vs,d::ds=>(∃a,Reads h v d a)/\RdL h vs ds
 |_,_=>False
theorem RdL.len{h:aaR}:∀{vs:List oR}{ds:List dL},RdL h vs ds->vs.length=ds.length
 |[],[],_=>rfl
 |v::vs,d::ds,t=>by rw[aaI,aaI,RdL.len t.2]
 |[],_::_,t=>t.elim
 |_::_,[],t=>t.elim
theorem RdL.get{h:aaR}:∀{vs:List oR}{ds:List dL}{i:Nat},RdL h vs ds->i<vs.length->∃as,Reads h (vs.getD i .none) (ds.getD i .none) as
 |[],[],_,_,z=>by simp at z
 |v::vs,d::ds,0,t,_=>t.1
 |v::vs,d::ds,i+1,t,z=>by
  rw[List.getD_cons_succ];exact RdL.get t.2 (by simp_all)
 |[],_::_,_,t,_=>(t.elim)
 |_::_,[],_,t,_=>(t.elim)
def tt1:dL->Bool
 | .tuple (.tuple _::_)=>true
 |_=>false
theorem BW{h:aaR}:∀{vs:List oR}{ds:List dL},RdL h vs ds->(∀d∈ds,tt1 d=true)->∃fs,KatTups h vs fs/\fs.length=vs.length/\∀v∈fs,∃b o,v = .ref b/\h.get? b=some o/\o.cls = .type "tuple"
 |[],[],_,_=>⟨[],.nil,rfl,λ_ h=>by cases h⟩
 | v::vs,d::ds,⟨⟨as,r⟩,t⟩,hd=>by
  let⟨fs,m,p,F⟩:=BW t λx f=>hd x (aad _ f);have j:=hd d aac;let⟨y,k,rfl⟩:∃y k,d = .tuple (.tuple y::k):=by
   unfold tt1 at j
   split at j
   .exact⟨_,_,rfl⟩
   .cases j
  cases r with
  | tuple e c q z=>
   rename_i a o i n;generalize D:i.toList=L at z
   cases z with
   | cons r1 I=>
    rename_i u J C bs;have l:i[0]?=some u:=by
     rw[<-acV,D];rfl
    cases r1 with
    |tuple H G M K=>
     refine⟨_::fs,.cons e c q l m,by rw[aaI,aaI,p],λx f=>?_⟩;exact(aaq.mp f).elim (λz=>by subst z;exact⟨_,_,rfl,H,G⟩) (F x)
 |[],_::_,t,_=>t.elim
 |_::_,[],t,_=>t.elim
theorem RdL.keep{h h':aaR}(K:Md h h'):∀{vs:List oR}{ds:List dL},(∀d∈ds,smD d d=true)->RdL h vs ds->RdL h' vs ds
 |[],[],_,_=>trivial
 |v::vs,d::ds,hs,⟨⟨as,r⟩,t⟩=>⟨za K d.depth d d v as (Ge _) (hs d aac) r,RdL.keep K (λx a=>hs x (aad _ a)) t⟩
 |[],_::_,_,t=>t.elim
 |_::_,[],_,t=>t.elim
structure SrtOk(ds:List dL):Prop where
 n:ds.length<64
 sm:∀x∈ds,∀y∈ds,smD x y=true
 tt:∀x∈ds,tt1 x=true
 dp:∀x∈ds,x.depth≤7
theorem SJ{u v:oR}{x y:dL}{as bs:List Addr}{Q:Bool->Ad->Prop}(r1:Reads s.heap u x as)(r:Reads s.heap v y bs)(sm:smD x y=true)(d:tt1 x=true)(t:tt1 y=true)(l:A.units+x.depth<cLine)(h:Q (ltD x y) s):wpAny (model prog w) A (keyLt' (tuples' false) u v) Q E s:=by
 let⟨a1,b1,rfl⟩:∃a b,x = .tuple (.tuple a::b):=by
  unfold tt1 at d
  split at d
  .exact⟨_,_,rfl⟩
  .cases d
 let⟨a2,b2,rfl⟩:∃a b,y = .tuple (.tuple a::b):=by
  unfold tt1 at t
  split at t
  .exact⟨_,_,rfl⟩
  .cases t
 cases r1 with
 | tuple e c q z=>
  cases r with
  |tuple m C k j=>
   have f:A.units+(aaw _+1)<cLine:=l;let⟨D,p⟩:=kH (uz _) A s _ _ _ _ _ _ (Ge _) z j sm (by exact aa7 ‹_›);have i:Q (ltDs (.tuple a1::b1) _) s:=h;refine kat_lt e q m k (yx i _ 0 ?_)
   grind
def ordP(ds:List dL)(p:List Nat):Prop:=p.Perm (aaB ds.length)/\∀i j,i<j->j<ds.length->ltD (ds.getD (p.getD i 0) .none) (ds.getD (p.getD j 0) .none)=true
theorem po{a:Addr}{vs:List oR}{P:PySem.Fin->Ad->Prop}(ho:s.heap.get? a=some (aeH "list" vs.toArray n))(hr:RdL s.heap vs ds)(ok:SrtOk ds)(V:TotF ds.length λi j=>ltD (ds.getD i .none) (ds.getD j .none))(hu:A.units+7<cLine)
  (h:∀p:List Nat,ordP ds p->P (.done (.ret .none)) {s with heap:=agq s.heap a vs (p.map λi=>vs.getD i .none).toArray}):wpAny (model prog w) A
  (acE.«list.sort» ⟨[.ref a],[]⟩) P E s:=by
 have f:=hr.len;have W:=ok.n;rw[list_sort_plain];have x:(s.heap.update a (aca λ_=>#[])).get? a=some (aeH "list" #[] _):=get?_update_seq ho λ_=>#[];have l:(((s.heap.update a (aca λ_=>#[])).push (aeH "tuple" vs.toArray 0)).push (aeH "list" #[] 0)).get? a=some (aeH "list" #[] _):=AD _ (AD _ x);refine aD (listItems_at ho rfl (aD (ahe ho rfl (aD (seqEpoch_at x rfl (aD (m:=newTuple _) (afp (aD (m:=newList _) (wpAny_newList (abu ?_))))))))));have r6:RdL (((s.heap.update a (aca λ_=>#[])).push (aeH "tuple" vs.toArray 0)).push (aeH "list" #[] 0)) vs ds:=hr.keep (λb o e c=>by
  have hb:b≠a:=λz=>by
   rw[z,ho]at e;have Z:o.cls=ad7 "list":=by rw[<-aam e]
   rw[Z]at c;exact absurd c (by decide)
  refine AD _ (AD _ ?_);rw[adT _ _ _ _ hb];exact e) λd hd=>ok.sm d hd d hd
 generalize U:((s.heap.update a (aca λ_=>#[])).push (aeH "tuple" vs.toArray 0)).push (aeH "list" #[] 0)=F at l r6;have sH:agq s.heap a vs=λout=>agq s.heap a vs out:=rfl;change wpAny _ A _ P E ({s with heap:=F}:Ad);dsimp only;have hsz:(vs.toArray:Array oR).size=vs.length:=aay
 by_cases J:(vs.toArray:Array oR).size<2
 .rw[if_pos J,if_pos J];refine aD (Dl ?_);rw[StateT.run_pure];refine aD (Dl ?_);dsimp only;refine aD (seqEpoch_at l rfl ?_);refine aD (ahe l rfl ?_ (hsz2:=by rw[Array.size_map];show(pairsOf vs).size≤_;rw[pairsOf_size,aaj];omega));simp only[if_false,adn,bne_self_eq_false];refine Dl ?_;have t:=h (aaB ds.length) ⟨List.Perm.refl _,λi j y D=>by omega⟩;have eo:((aaB ds.length).map λi=>vs.getD i .none).toArray=(arrOf (SortSt.mk' general' (vs.toArray.zip vs.toArray) #[] 7 none)).map (·.2):=by
   show _=(vs.toArray.zip vs.toArray).map (·.2);apply Array.toList_inj.mp;rw[Array.toList_map,Array.toList_zip];refine ab0 λi=>?_
   by_cases H:i<vs.length
   .simp[acB,H,<-f]
   .simp[acB,H,<-f]
  rw[eo]at t;unfold agq at t;rw[U]at t;exact t
 .rw[if_neg J,if_neg J];let⟨q,eq,R,aq⟩:=Dh V (by omega);let⟨fs,k1,k2,X⟩:=BW r6 ok.tt;refine aD (kat_kind (s:={s with heap:=F}) (T:=.type "tuple") k1 (by omega) (λv hv=>?_) rfl ?_)
  .obtain⟨b,o,rfl,I,c1⟩:=X v hv;exact λA' Q' E' u kk q=>adl ⟨o,kk _ _ I,c1⟩ q
  rw[show(ad7 "tuple" != ad7 "tuple")=false by decide];refine aD (ab9 (kat_run (ks:=vs) (Q:=λr u=>q.size=vs.length/\arrOf r=q.map (kas_item (vs.toArray.zip vs.toArray))/\failedOf r=none/\u={s with heap:=F})
   (G:=λS u=>S=q/\u={s with heap:=F}) rfl (by omega) (by omega) (λS r u M N O Y=>by let⟨rfl,rfl⟩:=Y;exact⟨M,N,O,rfl⟩) ?_) ?_ λ_ _ e=>e)
  rotate_left
  .rintro⟨⟨⟩,r⟩ u ⟨M,N,O,rfl⟩;dsimp only;rw[kat_snds rfl N];refine aD (seqEpoch_at l rfl ?_);refine aD (ahe l rfl ?_ (hsz2:=by simp;rw[M,aaj];omega));rw[O];simp only[if_false,adn,bne_self_eq_false];have t:=h q.toList ⟨R.pm,λi j y D=>by
    have I:∀k,k<ds.length->q.toList.getD k 0=pA q k:=λk hk=>by
     rw[aas,acV,d7 (by rw[R.sz];exact hk)];rfl
    rw[I i (by omega),I j D];exact aq i j y D⟩
   unfold agq at t;rw[U]at t;exact Dl t
  .rw[f];refine zw (λi j C H D hC=>?_) _ q eq ⟨rfl,rfl⟩;have K:i<ds.length:=H;have L:j<ds.length:=D;let⟨as,r1⟩:=r6.get (i:=i) (by omega);let⟨bs,r2⟩:=r6.get (i:=j) (by omega);have m1:ds.getD i .none∈ds:=by rw[bj (iO K)];exact abl _
   have m2:ds.getD j .none∈ds:=by rw[bj (iO L)];exact abl _
   exact SJ (s:={s with heap:=F}) r1 r2 (ok.sm _ m1 _ m2) (ok.tt _ m1) (ok.tt _ m2) (by have:=ok.dp _ m1;omega) hC
end
section
variable {prog:aaA}{w:World}{A:aa2}{E:oR->Ad->Prop}{s:Ad}
theorem mI{v:oR}{C:aaR->List oR->Prop}{Q:oR->Ad->Prop}(ok:SrtOk ds)(l:TotF ds.length λi j=>ltD (ds.getD i .none) (ds.getD j .none))(D:A.units+10<cLine)
  (c:∀(P:List oR->Ad->Prop) (E:oR->Ad->Prop),(∀h' vs,(∀b o,s.heap.get? b=some o->h'.get? b=some o)->RdL h' vs ds->C h' vs->P vs {s with heap:=h' })->wpAny (model prog w) A.in1 (collect v) P E s)
  (h:∀(a f:aaR) (vs:List oR) (p:List Nat) (L:Addr) (e:Nat),(∀b o,s.heap.get? b=some o->a.get? b=some o)->C a vs->RdL a vs ds->(∀b o,a.get? b=some o->f.get? b=some o)->L=a.objs.size->f.get? L=some (aeH "list" (p.map λi=>vs.getD i .none).toArray e)->ordP ds p->Q (.ref L) {s with heap:=f}) :
  wpAny (model prog w) A (call (.builtin "sorted") [v]) Q E s:=by
 refine Calls.call_function_entry kind_sorted plain_sorted entry_sorted (args:=_) (args_sorted1 v) ?_;refine aD (m:=checkCount "sorted" 1 1 _) (Dl (aD (c _ _ λa vs x r1 u=>aD (m:=newList vs) (wpAny_newList ?_ (hsz:=by rw[r1.len,aaj];have:=ok.n;omega)))));have at1:(a.push (aeH "list" vs.toArray 0)).get? a.objs.size=some (aeH "list" vs.toArray 0):=aai _ rfl;have k:∀b o,a.get? b=some o->(a.push (aeH "list" vs.toArray 0)).get? b=some o:=λb o q=>AD _ q;have y:=r1.keep (λb o q _=>k b o q) λd hd=>ok.sm d hd d hd;refine aD (m:=ady _ _) (abu (ab9 (aa0 slot_list_sort ⟨_,at1,rfl⟩ entry_list_sort (po at1 y ok l (show A.units+1+1+7<cLine by exact aa7 ‹_›) λp hp=>⟨_,rfl,?_⟩) (args_list_sort _)) (λF r (q:Q (.ref a.objs.size) r)=>Dl ⟨_,rfl,q⟩) λ_ _ z=>z));let⟨e,t⟩:=sortedHeap_at at1;exact h a _ vs p _ e x u r1 (λb o q=>by
  have lt:b<a.objs.size:=aab q;rw[sortedHeap_old (aaK lt) (by rw[size_push'];exact aep lt)];exact k b o q) rfl t hp
end
theorem y4(h:aaR):h.get? h.objs.size=none:=by
 cases e:h.get? h.objs.size with
 |none=>rfl
 |some o=>exact(ac8 _ (aab e)).elim
def updR(H:Hp)(B:Addr)(g:Nat->HO):Nat->Hp
 |0=>H
 |n+1=>upd (updR H B g n) (B+n) (g n)
theorem i8{H:Hp}{B:Addr}{g:Nat->HO}{b:Addr}:∀{n:Nat},(∀j,j<n->b≠B+j)->updR H B g n b=H b
 |0,_=>rfl
 |n+1,h=>by
  show upd _ _ _ b=_;rw[ag (h n (abI n))];exact i8 λj a=>h j (aep a)
theorem uk{H:Hp}{B:Addr}{g:Nat->HO}{j:Nat}:∀{n:Nat},j<n->updR H B g n (B+j)=some (g j)
 |0,h=>absurd h (Nat.not_lt_zero _)
 |n+1,h=>by
  by_cases e:j=n
  .subst e;exact ak
  .show upd _ _ _ _=_;rw[ag (λz=>e (ag7 z))];exact uk (by omega)
section
variable {X:Cx}{pins:List (Addr×Obj)}{σ:List (Option V)}{H:Hp}{s:Ad}{h':aaR}
def DM(h:b<B):updR H B g n b=H b:=i8 λj _=>aaK (aak h (ace _ _))
def du{o:HO}(fr:∀j,H (B+j)=none)(h:H b=some o):updR H B g n b=some o:=by
 rw[i8 λj _ z=>by rw[z,fr j]at h;cases h];exact h
def Inv.laidR{t':Nat}(I:Inv X pins σ H s)(k:∀b u,s.heap.get? b=some u->h'.get? b=some u)(hp:s.heap.objs.size≤B)(new:∀j,j<n->ObjOk X.prog X.w (updR H B g n) h' (B+j) (g j)) :
  Inv X pins σ (updR H B g n) {s with heap:=h',toks:=t' }:=by
 have fr:∀j,H (B+j)=none:=λj=>I.hok.fresh (aao hp (ace _ _));refine I.un ⟨λb u q _ _ _=>k b u q,λb u q _ _ _=>⟨u.slots,k b u q⟩,λb u q n _=>?_,λb u q _=>⟨u,k b u q⟩,λb x q=>du fr q,λb u x q=>du fr q,λb p q=>⟨#[],?_⟩⟩ λb u e=>?_
 .rw[DM (aak (aab q) hp)];exact n
 .rw[du fr q];simp
 .by_cases hb:∃j,j<n/\b=B+j
  .obtain⟨j,h,rfl⟩:=hb;rw[uk h]at e;rw[<-aam e];exact new j h
  .rw[i8 λj h z=>hb ⟨j,h,z⟩]at e;exact(I.hok b u e).stay (λc v _ q=>k c v q) (λc q=>du fr q) λc x q=>du fr q
theorem yA{p:List Nat}(h:ordP ds p):(p.map λi=>ds.getD i .none).Perm ds/\(p.map λi=>ds.getD i .none).Pairwise λa b=>ltD a b=true:=by
 have k:p.length=ds.length:=by rw[h.1.length_eq,abg]
 constructor
 .have e:(aaB ds.length).map (λi=>ds.getD i .none)=ds:=ab0 λi=>by
   by_cases c:i<ds.length
   .simp_all
   .simp_all
  have:=h.1.map λi=>ds.getD i .none;rwa[e]at this
 .refine abK.mpr λi j c f d=>?_;rw[gE]at c f;rw[af8,af8];have:=h.2 i j d (by omega);rwa[bj (iO c),bj (iO f)]at this
theorem zx(I:Inv X pins σ H s):∀{ds:List dL}{xs:List V}{u:List oR},(∀d∈ds,d.canLay0=true)->DenAll X.kx H ds xs->Vals xs u->RdL s.heap u ds
 |[],xs,u,_,g,r=>by
  subst g;cases r;trivial
 |d::ds,xs,u,hl,g,r=>by
  let⟨x,f,rfl,c,e⟩:=g
  cases r with
  |cons h t=>exact⟨Den.reads I (abe _ (hl d aac)) c h,zx I (λx a=>hl x (aad _ a)) e t⟩
def SrtOk.lay(ok:SrtOk ds):∀d∈ds,d.canLay0=true:=λd hd=>(BU (ok.sm d hd d hd)).1
structure SrtT(ds:List dL):Prop where
 ok:SrtOk ds
 tot:TotF ds.length λi j=>ltD (ds.getD i .none) (ds.getD j .none)
def srtR(ds:List dL)(K:List dL->Prop):Prop:=SrtT ds/\∀d:List dL,d.Perm ds->d.Pairwise (λa b=>ltD a b=true)->K d
theorem yp:∀{xs:List V}{a:List oR},xs.length=a.length->(∀(j:Nat) (x:V) (u:oR),xs[j]?=some x->a[j]?=some u->RelV x u)->Vals xs a
 |[],[],_,_=>.nil
 |x::xs,u::a,hl,h=>.cons (h 0 x u rfl rfl) (yp (by simpa using hl) λj x u e c=>h (j+1) x u ‹_› ‹_›)
 |[],_::_,hl,_=>(ade _ hl).elim
 |_::_,[],hl,_=>(ade _ hl.symm).elim
theorem rm{K:Kd}{H:Hp}:∀{ds:List dL}{xs:List V},ds.length=xs.length->(∀(j:Nat) (d:dL) (x:V),ds[j]?=some d->xs[j]?=some x->Den K H d x)->DenAll K H ds xs
 |[],[],_,_=>by simp[DenAll]
 |d::ds,x::xs,hl,h=>by
  exact⟨x,xs,rfl,h 0 d x rfl rfl,rm (by simpa using hl) λj d x e a=>h (j+1) d x ‹_› ‹_›⟩
 |[],_::_,hl,_=>(ade _ hl).elim
 |_::_,[],hl,_=>(ade _ hl.symm).elim
theorem Cq{H:Hp}(fr:∀j,H (B+j)=none)(n:Nat):Pers H (updR H B g n):=⟨λb x q=>du fr q,λb o u q=>du fr q⟩
def itmG(es:List (V×V))(j:Nat):HO:=.tup [(es.getD j (.non,.non)).1,(es.getD j (.non,.non)).2]
def sj(B:Addr)(n:Nat):List V:=(aaB n).map λj=>.ref (B+j)
theorem p8{K:Kd}{H:Hp}{kvs:List (dL×dL)}{es:List (V×V)}(fr:∀j,H (B+j)=none)(k:PDc K H kvs es):DenAll K (updR H B (itmG es) es.length) (cq kvs) (sj B es.length):=by
 have f:=Cq (g:=itmG es) fr es.length;refine rm (by unfold cq sj;rw[gE,gE,abg,k.length]) λj d x e c=>?_;unfold cq at e;rw[aaa]at e;let⟨p,q,rfl⟩:=agr.mp e;let⟨h,i,m,r⟩:=Paired.at1 k q;have l:=(DL.mp i).1;unfold sj at c;rw[aaa,acB l]at c;have a:=aam c;subst a;have t:itmG es j = .tup [h.1,h.2]:=by unfold itmG;rw[bj i]
 exact df (SqT.of ((uk l).trans (by rw[t]))) (DenAll.cons (m.mono f) (DenAll.cons (r.mono f) DenAll.nil))
def OW(K:Kd)(to:TE):TE:=λσ H Q=>to σ H λx c=>∃a o f k,x = .ref a/\DcE c a o f/\PDc K c k f/\SrtT (cq k)/\∀(d:List dL) (B:Addr) (g:Nat->HO) (n:Nat) (L:Addr) (e:List V),d.Perm (cq k)->d.Pairwise (λa b=>ltD a b=true)->(∀j,c (B+j)=none)->updR c B g n L=none->DenAll K (upd (updR c B g n) L (.lst e)) d e->Q (.ref L) (upd (updR c B g n) L (.lst e))
theorem CZ{to:TE}(hc:X.calm=true)(hu:X.A.units+64<cLine)(hg:Gl X "sorted")(hm:X.mg "sorted" = none)(ho:PE X o to)(A:aa5 o "items" X.env (eval o X.env)=eval o X.env:=by rfl)(t:(apos.endLine==cpos.line)=true:=by rfl)
  (O:OR [.Call (.Attribute o "items" apos) [] [] cpos] X.env=[(false,eval (.Call (.Attribute o "items" apos) [] [] cpos) X.env)]:=by rfl):PE X (.Call (.Name "sorted" p0) [.Call (.Attribute o "items" apos) [] [] cpos] [] pos) (OW X.kx to):=by
 intro pins s σ H Q I h;refine acQ (kI I hg hm lp ?_);refine aeD ?_ O rfl;rw[O];refine ahi ?_;refine aeh A t (thn (ho pins s σ H _ I h) λv s1 ⟨x,T,I1,r1,q1⟩=>?_);let⟨a,ob,m,kvs,rfl,dc,pd,st,q⟩:=q1;cases r1;let⟨R,c,V,W,g2,g3,g4⟩:=I1.dce dc;have he:EntAt s1.heap a c V:=⟨ob,W,g2,g3⟩;refine⟨"dict","dict.items",aei,aej,af7,⟨ob,W,g2.1⟩,λb e=>by cases e;exact⟨ob,W,g2.2.1⟩,acH rfl (afd (m9 R he ?_))⟩;refine aht ?_;have kv:∀b o,s1.heap.get? b=some o->(s1.heap.push {cls:=.type "dict_items",data:=.fields #[.ref a]}).get? b=some o:=λb o q=>AD _ q;have hl:m.length=c.size:=by have:=g4.length;simpa using this
 have hil:(cq kvs).length=m.length:=by unfold cq;rw[gE,pd.length]
 have hn:=st.ok.n;have S:Inv X pins σ T {s1 with heap:=s1.heap.push {cls:=.type "dict_items",data:=.fields #[.ref a]} }:=I1.kept (t':=s1.toks) kv;have r:(s1.heap.push {cls:=.type "dict_items",data:=.fields #[.ref a]}).get? s1.heap.objs.size=some {cls:=.type "dict_items",data:=.fields #[.ref a]}:=aai _ rfl;have M:EntAt (s1.heap.push {cls:=.type "dict_items",data:=.fields #[.ref a]}) a c V:=he.keep λo q=>kv _ _ q;have la:a<s1.heap.objs.size:=aab W;generalize hS2:({s1 with heap:=s1.heap.push {cls:=.type "dict_items",data:=.fields #[.ref a]} }:Ad)=s2 at S⊢;have hh2:s2.heap=s1.heap.push {cls:=.type "dict_items",data:=.fields #[.ref a]}:=by rw[<-hS2]
 rw[<-hh2]at r M;have lv:s1.heap.objs.size<s2.heap.objs.size:=aab r;have lay:∀(h':aaR) (d:Addr),(∀b o,s2.heap.get? b=some o->h'.get? b=some o)->s2.heap.objs.size≤d+1->(∀j (w:j<c.size),h'.get? (d+1+j)=some {cls:=.type "tuple",data:=.seq #[c[j].key,c[j].val]})->Inv X pins σ (updR T (d+1) (itmG m) m.length) {s2 with heap:=h' }:=λh' d k z tp=>by
  refine S.laidR (t':=s2.toks) k z λj w=>?_;let⟨ev,D,Y,F⟩:=Paired.at g4 (i:=j) (y:=c[j]) (by simp[show j<c.size by omega]);have eg:itmG m j = .tup [ev.1,ev.2]:=by unfold itmG;rw[bj D]
  rw[eg];exact⟨by show 2≤aaf;rw[aaj];decide,[c[j].key,c[j].val],.cons Y (.cons F .nil),⟨_,tp j (by omega),rfl,rfl,_,rfl⟩⟩
 have K:∀(d:Addr) (f:Array oR),f.size=c.size->(∀(j:Nat) u,f[j]?=some u->u = .ref (d+1+j))->Vals (sj (d+1) m.length) f.toList:=λd f az ar=>yp (by have z1:f.toList.length=f.size:=acA;unfold sj;rw[gE,abg,z1,az,hl]) λj x u D Y=>by
  unfold sj at D;rw[aaa]at D;let⟨j',F,rfl⟩:=agr.mp D;have G:j<m.length:=by have:=(DL.mp F).1;rwa[abg]at this
  rw[acB G]at F;rw[acV]at Y;rw[ar j u Y,aam F];exact rfl
 have fr:∀(d:Addr),s2.heap.objs.size≤d+1->∀j,T (d+1+j)=none:=λd z j=>S.hok.fresh (aao z (ace _ _));refine mI (s:=s2) (C:=λh vs=>∃d:Addr,s2.heap.objs.size≤d+1/\(∀j (w:j<c.size),h.get? (d+1+j)=some {cls:=.type "tuple",data:=.seq #[c[j].key,c[j].val]})/\Vals (sj (d+1) m.length) vs) st.ok st.tot (by omega) (λP E hP=>?_) ?_
 .refine xy (St:=λd=>StI s2.heap.objs.size d a c V) (P:=λd=>PrI s2.heap.objs.size d c) (n:=c.size) ⟨_,r,rfl⟩ (.inl rfl) (by rw[aaj];omega) (λs3 Q3 E3 hT q=>wN hT q) (λs3 Q3 E3 k0 ⟨oS,hS⟩ hq=>?_) λd h' f k zz az pz=>?_
  .have lS:s2.heap.objs.size<s3.heap.objs.size:=aab hS;have J:EntAt s3.heap a c V:=M.keep λo q=>k0 _ _ q;refine yU (k0 _ _ r) J λh' Z sz hk=>hq h' _ (aa8 lS) (GQ (S.ok.hd hc) lS (aa8 (abc la lv)) (aa8 (abc la (abc lv lS)))) ⟨J.keep λo q=>hk _ _ q,sz,.inl ⟨_,_,Z⟩⟩ hk (y4 _)
  .obtain⟨l,z',tp',ar'⟩:∃l:Addr,s2.heap.objs.size≤l+1/\(∀j (w:j<c.size),h'.get? (l+1+j)=some {cls:=.type "tuple",data:=.seq #[c[j].key,c[j].val]})/\∀(j:Nat) u,f[j]?=some u->u = .ref (l+1+j):=by
    by_cases e0:c.size=0
    .exact⟨s2.heap.objs.size,agJ _,λj w=>by omega,λj u e=>by have:=(abr.mp e).1;omega⟩
    .have get:∀j,j<c.size->∃u,f[j]?=some u:=λj w=>⟨_,acW (show j<f.size by omega)⟩;let⟨u0,D⟩:=get 0 (by omega);have l0:=(pz 0 u0 D).1;refine⟨d,aa7 (aep l0),λj w=>?_,λj u e=>(pz j u e).2.1⟩;let⟨u,e⟩:=get j w;let⟨_,_,G,q⟩:=pz j u e;exact q
   have U:=K l f az ar';have I':=lay h' l k z' tp';exact hP h' f.toList k (zx I' st.ok.lay (p8 (fr l z') pd) U) ⟨l,z',tp',U⟩
 .rintro h1 h2 vs p L e k1 ⟨d,z,tp,U⟩ r1 k2 hL hl2 hp;subst hL;have I3:=lay h1 d k1 z tp;have N:updR T (d+1) (itmG m) m.length h1.objs.size=none:=I3.hok.fresh (Ge _);let⟨o1,o2⟩:=yA hp;have hpl:p.length=c.size:=by have:=hp.1.length_eq;rw[abg]at this;omega
  exact⟨.ref h1.objs.size,_,I3.laid (t':=s2.toks) k2 (Ge _) (show ObjOk X.prog X.w _ _ _ (.lst (p.map λi=>(sj (d+1) m.length).getD i .non))from⟨by rw[gE,aaj];omega,_,e,lL U p,by rw[hl2]⟩),rfl,q _ _ _ _ _ _ o1 o2 (fr d z) N ((nr (p8 (fr d z) pd) p).mono (bo (.inl N)))⟩
theorem yl{H:Hp}(fr:∀j,H (B+j)=none)(h:updR H B g n b=none):H b=none:=by
 cases e:H b with
 |none=>rfl
 |some o=>rw[du fr e]at h;cases h
theorem Rel.layR{K:Kx}{a:Al}{m:MSt}{σ:St}{H:Hp}{B:Addr}{g:Nat->HO}(R:Rel K a m σ H)(fr:∀j,H (B+j)=none):∀n,Rel K a m σ (updR H B g n)
 |0=>R
 |n+1=>(Rel.layR R fr n).lay (by rw[i8 λj h z=>aa8 h (ag7 z)];exact fr n)
theorem Dq{a:Al}{H:Hp}(fr:∀j,H (B+j)=none)(n:Nat):Frm a H (updR H B g n):=λb o e _=>du fr e
def ym(wo:WE):WE:=λm K=>wo m λr a=>onDc (λk=>srtR (cq k) λd=>K (.new d) a) r
theorem Gc(u:X.A.units+64<cLine)(J:X.mg "sorted" = none)(ho:ME X o wo)(w:X.calm=true:=by rfl)(t:Gl X "sorted":=by rfl)(c:aa5 o "items" X.env (eval o X.env)=eval o X.env:=by rfl)(h:(apos.endLine==cpos.line)=true:=by rfl)
  (e:OR [.Call (.Attribute o "items" apos) [] [] cpos] X.env=[(false,eval (.Call (.Attribute o "items" apos) [] [] cpos) X.env)]:=by rfl):ME X (.Call (.Name "sorted" p0) [.Call (.Attribute o "items" apos) [] [] cpos] [] pos) (ym wo):=(CZ w u t J ho c h e).wk<|by
 intro σ H Q ⟨q,m,M,D,C,f⟩;refine⟨q,m,_,D,C,λr E v N k n R rr F=>?_⟩;let⟨l,a,ob,z,rfl,dc,K,st,k⟩:=Po rr k;refine⟨a,ob,z,l,rfl,dc,K,st,λj B g p L x A G fr d i=>?_⟩;have I:=Rel.layR (g:=g) R fr p;have y:=F.trans (Dq (g:=g) fr p);exact f _ E _ _ (k j A G) n (I.lay d) (RelR.base R F (⟨L,x,rfl,yl fr d,ak,i⟩)) (y.trans (cx d))
theorem BX(e:X.A.units+64<cLine)(d:X.mg "sorted" = none)(ho:EE X o wo)(i:X.calm=true:=by rfl)(f:Gl X "sorted":=by rfl)(h:aa5 o "items" X.env (eval o X.env)=eval o X.env:=by rfl)(a:(apos.endLine==cpos.line)=true:=by rfl)
  (c:OR [.Call (.Attribute o "items" apos) [] [] cpos] X.env=[(false,eval (.Call (.Attribute o "items" apos) [] [] cpos) X.env)]:=by rfl):EE X (.Call (.Name "sorted" p0) [.Call (.Attribute o "items" apos) [] [] cpos] [] pos) (ym wo):=⟨Gc e d ho.h i f h a c⟩
def Gj{m:MSt}{K:R->MSt->Prop}(h:wo m λr a=>onDc (λkvs=>srtR (cq kvs) λds'=>K (.new ds') a) r):ym wo m K:=h
end
end L2
namespace K
open PySem L2 M7
variable{p q y:Pt}{a b:Pt×Int}{enc:Pt×Int->dL}{h:Hall}{r:Rule}
def lexN:List Nat->List Nat->Bool
 |x::xs,y::ys=>if x=y then lexN xs ys else decide (x<y)
 |_,_=>false
def ltP(p q:Pt):Bool:=if p.1=q.1 then decide (p.2<q.2)else lexN p.1 q.1
theorem vD:∀a:List Nat,lexN a a=false
 |[]=>rfl
 |x::xs=>by show(if x=x then lexN xs xs else _)=false;rw[if_pos rfl];exact vD xs
theorem yW:∀{a b c:List Nat},a.length=b.length->b.length=c.length->lexN a b=true->lexN b c=true->lexN a c=true
 |[],[],_,_,_,h,_=>by cases h
 | x::a,y::b,z::c,h1,h2,h,h'=>by
  have f:(if x=y then lexN a b else decide _)=true:=h;have d:(if y=z then lexN b c else decide _)=true:=h';show(if x=z then lexN a c else decide _)=true
  by_cases g:x=y
  .subst g;rw[if_pos rfl]at f
   by_cases e:x=z
   .rw[if_pos e]at d⊢;exact yW (by simpa using h1) (by simpa using h2) f d
   .rw[if_neg e]at d⊢;exact d
  .grind
theorem u7:∀{a b:List Nat},a.length=b.length->a≠b->lexN a b=true\/lexN b a=true
 |[],[],_,h=>(h rfl).elim
 | x::a,y::b,hl,h=>by
  show(if x=y then lexN a b else decide _)=true\/(if y=x then lexN b a else decide _)=true
  by_cases e:x=y
  .subst e;rw[if_pos rfl,if_pos rfl];exact u7 (by simpa using hl) λz=>h (by rw[z])
  .rw[if_neg e,if_neg (abb e)];rcases aeb e with z|z
   .exact .inl (decide_eq_true z)
   .exact .inr (decide_eq_true z)
theorem IY{r:Pt}(g:p.1.length=q.1.length)(f:q.1.length=r.1.length)(a:ltP p q=true)(b:ltP q r=true):ltP p r=true:=by
 unfold ltP at *
 by_cases e:p.1=q.1
 .rw[if_pos e]at a;rw[e]
  by_cases c:q.1=r.1
  .grind
  .rw[if_neg c]at b⊢;exact b
 .rw[if_neg e]at a
  by_cases c:q.1=r.1
  .rw[<-c,if_neg e];exact a
  .rw[if_neg c]at b;have t:=yW g f a b
   by_cases d:p.1=r.1
   .rw[d,vD]at t;cases t
   .rw[if_neg d];exact t
def Me(c:p.1.length=q.1.length)(h:p≠q):ltP p q=true\/ltP q p=true:=by
 unfold ltP
 by_cases e:p.1=q.1
 .rw[if_pos e,if_pos e.symm];have:=λz=>h (Prod.ext e z);rcases aeb this with z|z
  .exact .inl (decide_eq_true z)
  .exact .inr (decide_eq_true z)
 .rw[if_neg e,if_neg (abb e)];exact u7 c e
theorem oY(p:Pt):ltP p p=false:=by unfold ltP;simp_all
theorem xJ:∀{a b:List Nat},a.length=b.length->ltDs (natD a) (natD b)=lexN a b
 |[],[],_=>rfl
 |x::a,y::b,h=>by
  show(if aar _ _=true then ltDs (natD a) (natD b)else decide _)=if x=y then lexN a b else decide _;rw[ck,xJ (by simpa using h)];simp
theorem yn(h:p.1.length=q.1.length):ltD (ptD p) (ptD q)=ltP p q:=by
 show(if aar _ _=true then(if aar _ _=true then ltDs [] []else decide _)else ltDs _ _)=_;rw[yB,ck,xJ h];unfold ltP
 by_cases e:p.1=q.1
 .rw[if_pos e,if_pos (decide_eq_true e)]
  by_cases c:p.2=q.2
  .rw[if_pos (decide_eq_true c)];exact(decide_eq_false (by omega)).symm
  .simp_all
 .simp_all
def itD(f:Int->dL)(p:Pt×Int):dL:=.tuple [ptD p.1,f p.2]
def Sd{f:Int->dL}{p q:Pt×Int}(h:p.1.1.length=q.1.1.length)(c:p.1≠q.1):ltD (itD f p) (itD f q)=ltP p.1 q.1:=by
 show(if aar _ _=true then _ else ltD _ _)=_;rw[mF,if_neg (by rw[decide_eq_false c];decide),yn h]
theorem sg{f:Type}{lt:f->f->Bool}(i:∀a,lt a a=false):∀{l m:List f},l.Perm m->l.Pairwise (λa b=>lt a b=true)->m.Pairwise (λa b=>lt a b=true)->(∀a∈l,∀b∈l,lt a b=true->lt b a=false)->l=m
 |[],m,p,_,_,_=>p.nil_eq
 | a::l,m,p,h1,h2,asy=>by
  cases m with
  |nil=>exact(ade _ p.length_eq.symm).elim
  | cons b m=>
   have c:=afl.mp h1;have d:=afl.mp h2;have e:a=b:=by
    have hb:=p.mem_iff.mpr aac;have ha:=p.mem_iff.mp aac;rcases aaq.mp hb with z|z
    .exact z.symm
    .rcases aaq.mp ha with y|y
     .exact y
     .have l1:=c.1 b z;have j:=d.1 a y;rw[asy a aac b hb l1]at j
      grind
   subst e;rw[sg i (List.Perm.cons_inv p) c.2 d.2 λx g y k=>asy x (aad _ g) y (aad _ k)]
theorem qm{i β:Type}{f:i->β}{z l:List β}(p:z.Perm l):∀{m:List i},z=m.map f->∃g:List i,g.Perm m/\l=g.map f:=by
 induction p with
 |nil=>intro m e;exact⟨m,.refl _,e⟩
 | cons a p o=>
  intro m e
  cases m with
  |nil=>cases e
  |cons b m=>
   injection e with d c
   let⟨g,s,n⟩:=o c;exact⟨b::g,s.cons b,by rw[aaD,d,n]⟩
 | swap a b l=>
  intro m e
  cases m with
  |nil=>cases e
  | cons x m=>
   cases m with
   |nil=>cases e
   |cons y m=>
    injection e with d c
    injection c with c e3
    exact⟨y::x::m,.swap _ _ _,by rw[aaD,aaD,d,c,e3]⟩
 |trans w v k j=>
  intro m e;let⟨m1,t,d⟩:=k e;let⟨m2,u,c⟩:=j d;exact⟨m2,u.trans t,c⟩
def MF(D:Int)(W:List (Pt×Int)):dL:=.tuple (W.map λq=>.tuple [ptD q.1,nf q.2 D])
structure Srd(W W':List (Pt×Int)):Prop where
 p:W'.Perm W
 o:W'.Pairwise λa b=>ltP a.1 b.1=true
structure WOk(h:Hall)(r:Rule)(W:List (Pt×Int)):Prop where
 st:∀p∈W,St h r p.1.1 p.1.2
 kd:(W.map (·.1)).Nodup
 n:W.length<64
 v:∀p∈W,p.2.natAbs<10^76
section
variable {h:Hall}{r:Rule}{W:List (Pt×Int)}
def WOk.ln(X:WOk h r W)(ha:a∈W)(hb:b∈W):a.1.1.length=b.1.1.length:=((X.st a ha).ln.1).trans ((X.st b hb).ln.1).symm
theorem Ik{i j:Nat}(nd:(W.map (·.1)).Nodup)(c:W[i]?=some a)(d:W[j]?=some b)(h:i≠j):a.1≠b.1:=by
 have key:∀{i j:Nat}{a b:Pt×Int},W[i]?=some a->W[j]?=some b->i<j->a.1≠b.1:=λ{i j a b} c d f=>by
  let⟨k,l⟩:=DL.mp c;let⟨g,eb⟩:=DL.mp d;have:=abK.mp nd i j (by simp_all) (by simp_all) f
  simp_all
 rcases aeb h with z|z
 .exact key c d z
 .exact λe=>key d c z e.symm
theorem uo(nd:(W.map (·.1)).Nodup)(ha:a∈W)(hb:b∈W)(e:a.1=b.1):a=b:=by
 let⟨i,f⟩:=adJ ha;let⟨j,d⟩:∃j,W[j]?=some b:=adJ hb
 by_cases c:i=j
 .simp_all
 .exact(Ik nd f d c e).elim
theorem Srd.uniq{A B:List (Pt×Int)}(X:WOk h r W)(a:Srd W A)(b:Srd W B):A=B:=
 sg (lt:=λa b=>ltP a.1 b.1) (λa=>oY _) (a.p.trans b.p.symm) a.o b.o λx d y f l=>by
  have c:=a.p.mem_iff.mp d;have m:=a.p.mem_iff.mp f
  cases e:ltP y.1 x.1 with
  |false=>rfl
  |true=>
   have t:=IY (X.ln c m) (X.ln m c) l e;rw[oY]at t;cases t
structure EncP(W:List (Pt×Int))(enc:Pt×Int->dL):Prop where
 lt:∀a∈W,∀b∈W,a.1≠b.1->ltD (enc a) (enc b)=ltP a.1 b.1
 ir:∀a,ltD (enc a) (enc a)=false
 sm:∀a∈W,∀b∈W,smD (enc a) (enc b)=true
 tt:∀a,tt1 (enc a)=true
 dp:∀a∈W,(enc a).depth≤7
theorem EncP.srt(X:WOk h r W)(E:EncP W enc):SrtT (W.map enc):=by
 have get:∀i,i<W.length->∃a,W[i]?=some a/\a∈W/\(W.map enc).getD i .none=enc a:=λi B=>by
  have e:=iO B;exact⟨_,e,GE e,bj (by rw[aaa,e];rfl)⟩
 refine⟨⟨by rw[gE];exact X.n,λx f y v=>?_,λx f=>?_,λx f=>?_⟩,⟨λa b c ha hb u=>?_,λa b ha hb ne=>?_⟩⟩
 .obtain⟨a,ha,rfl⟩:=aau.mp f;let⟨b,hb,rfl⟩:∃b,b∈W/\enc b=y:=aau.mp v;exact E.sm a ha b hb
 .obtain⟨a,ha,rfl⟩:=aau.mp f;exact E.tt a
 .obtain⟨a,ha,rfl⟩:=aau.mp f;exact E.dp a ha
 .rw[gE]at ha hb u;let⟨x,ex,d,o⟩:=get a ha;let⟨y,s,m,k⟩:=get b hb;let⟨z,C,g,A⟩:=get c u;rw[o,k,A];intro j l;have n1:x.1≠y.1:=λe=>by rw[uo X.kd d m e,E.ir]at j;cases j
  have n2:y.1≠z.1:=λe=>by rw[uo X.kd m g e,E.ir]at l;cases l
  rw[E.lt x d y m n1]at j;rw[E.lt y m z g n2]at l;have t:=IY (X.ln d m) (X.ln m g) j l;have w:x.1≠z.1:=λe=>by rw[e,oY]at t;cases t
  rw[E.lt x d z g w];exact t
 .rw[gE]at ha hb;let⟨x,ex,d,o⟩:=get a ha;let⟨y,s,m,k⟩:=get b hb;rw[o,k];have n:=Ik X.kd ex s ne;rw[E.lt x d y m n,E.lt y m x d (abb n)];exact Me (X.ln d m) n
def EncP.srd(X:WOk h r W)(E:EncP W enc){ds':List dL}(p:ds'.Perm (W.map enc))(o:ds'.Pairwise λa b=>ltD a b=true):∃c,Srd W c/\ds'=c.map enc:=by
 let⟨c,d,e⟩:=qm p.symm rfl;refine⟨c,⟨d,?_⟩,e⟩;rw[e]at o;refine(aey.mp o).imp_of_mem λ{a b} ha hb l=>?_;have m:=d.mem_iff.mp ha;have mb:=d.mem_iff.mp hb;have n:a.1≠b.1:=λe=>by rw[uo X.kd m mb e,E.ir]at l;cases l
 rwa[E.lt a m b mb n]at l
theorem Bf:∀{a b:List Nat},a.length=b.length->smDs (natD a) (natD b)=true
 |[],[],_=>rfl
 |x::a,y::b,e=>by
  show(true&&smDs (natD a) (natD b))=true;rw[Bf (by simpa using e)];rfl
def UC(e:p.1.length=q.1.length):smD (ptD p) (ptD q)=true:=by
 show(smDs _ _&&(true&&true))=true;rw[Bf e];rfl
def tZ{l:List Nat}{t:Nat}(ho:h.Ok)(S:St h r l t):Fine 200 2 (stD l t):=by
 have n4:=ho.n4;have g:=S.ln.1;have ts:=S.ts;refine(gW (n:=63) (k:=1) (λd hd=>?_) (Ge 2)).mono (by decide) (by decide);rcases aaq.mp hd with e|e
 .rw[e];exact AI (c:=4) (by omega) λx f=>by
   have:=S.ln.le ho x f;omega
 .rw[aah.mp e];exact(uR (by omega)).mono (by decide) (by decide)
theorem uT(ho:h.Ok)(X:WOk h r W):EncP W λp=>ptD p.1:=
 ⟨λa ha b hb _=>yn (X.ln ha hb),λa=>by rw[yn rfl];exact oY _,λa ha b hb=>UC (X.ln ha hb),λa=>rfl,λa ha=>aao (tZ ho (X.st a ha)).dp (by decide)⟩
theorem Ou(ho:h.Ok)(X:WOk h r W):EncP W (itD .int):=by
 refine⟨λa ha b hb n=>Sd (X.ln ha hb) n,λa=>?_,λa ha b hb=>?_,λa=>rfl,λa ha=>?_⟩
 .show(if aar (ptD a.1) _=true then(if aar (.int a.2) _=true then false else decide _)else _)=false;rw[mF,if_pos (decide_eq_true rfl),decide_eq_false (Int.lt_irrefl a.2)]
  split<;>rfl
 .show(smD _ (ptD b.1)&&_)=true;rw[UC (X.ln ha hb)];rfl
 .refine aao (gW (n:=200) (k:=2) (c:=2) (ds:=[ptD a.1,.int a.2]) (λd hd=>?_) (Ge 2)).dp (by decide);rcases aaq.mp hd with e|e
  .rw[e];exact tZ ho (X.st a ha)
  .rw[aah.mp e];exact(yX (abc (X.v a ha) (by decide))).mono (by decide) (by decide)
def Gi(W:List (Pt×Int)):cq (kvA ptD W)=W.map (itD .int):=by
 unfold cq kvA itD;rw[aaN];rfl
end
def lv(h:Hall)(r:Rule)(p:Pt):List (Pt×Int):=([(p,(1:Int))].foldl (goW h r (msL h)) ([],[])).1
theorem Qf{h:Hall}{r:Rule}(ho:h.Ok)(hr:r.Ok h){p:Pt}(hp:St h r p.1 p.2)(w:Int):∀{M:Ms}{n:Nat}{x:List (Pt×Int)×List (Wd×Int)},(∀q∈M,q.1.Ok h)->GoOk h r n x->GoOk h r (n+M.length) (M.foldl (λx q=>goW1 h r p w q x) x)
 |[],n,x,_,X=>X
 |q::M,n,x,hM,X=>by
  have:=Qf ho hr hp w (λz c=>hM z (aad _ c)) (X.next ho hr hp w (hM q aac));rw[aaI,Nat.add_comm M.length 1,<-aeP];exact this
theorem Qc{l:List Nat}{t:Nat}(D:DuOk h r 1)(S:St h r l t):WOk h r (lv h r (l,t))/\∀p∈lv h r (l,t),0≤p.2/\p.2≤(botH h:Int):=by
 let⟨i,m⟩:=FI D.ho;have G:=Qf D.ho D.hr (p:=(l,t)) S 1 (M:=msL h) (n:=0) (x:=([],[])) (λq g=>(m q g).1) ⟨λ_ hp=>(by cases hp),Ge _,Ge _⟩;have c:=(Ie D.ho D.h0 r (W:=[((l,t),(1:Int))]) (x:=([],[])) (λz f=>by rw[aah.mp f];show(0:Int)≤1;decide) ⟨λ_ hp=>(by cases hp),λ_ hp=>(by cases hp)⟩).1;have sm:=(IA (h:=h) (r:=r) (W:=[((l,t),(1:Int))]) (x:=([],[]))).1;have e:=Uw D.ho D.h0;have le:=(zQ c).2;rw[sm,e]at le;have d:∀p∈lv h r (l,t),p.2≤(botH h:Int):=λp hp=>by
  refine ahE (le p hp) (Int.le_of_eq ?_);show(0:Int)+(1+0)*(botH h:Int)=_;simp
 have b:botH h<10^66:=by have:=D.b;rwa[Nat.pow_one]at this
 refine⟨⟨G.st,Bv (by simp),?_,λp hp=>?_⟩,λp hp=>⟨c p hp,d p hp⟩⟩
 .have:=G.n1;exact aax this (by omega)
 .have h1:=c p hp
  grind
def IZ:SpM:=λd K=>∃(h:Hall) (r:Rule) (W:List (Pt×Int)) (D:Nat),d=[.imm (wtD W),.imm (.int (D:Int))]/\h.Ok/\WOk h r W/\0<D/\D<10^76/\∀c,Srd W c->K (.imm (MF (D:Int) c)) []
def Af:SpM:=λc K=>∃(h:Hall) (r:Rule) (l:List Nat) (t:Nat),c=[.imm h.d,.imm r.d,.imm (stD l t)]/\DuOk h r 1/\St h r l t/\∀W,Srd (lv h r (l,t)) W->K (.imm (MF (botH h:Int) W)) []
section
variable {α:Type} [DecidableEq α] {sc:α->List α}{x0:α}{i:Nat}
def add1(F:List α)(x:α):List α:=if x∈F then F else F++[x]
def adds(F xs:List α):List α:=xs.foldl add1 F
inductive Rch(sc:α->List α)(x0:α):α->Prop
 |here:Rch sc x0 x0
 |next {y z:α}:Rch sc x0 y->z∈sc y->Rch sc x0 z
theorem DJ{F:List α}{x y:α}:y∈add1 F x↔y∈F\/y=x:=by
 unfold add1;split
 .simp_all
 .simp
theorem JI{F:List α}{x:α}(h:F.Nodup):(add1 F x).Nodup:=by
 unfold add1;split
 .exact h
 .rename_i n;exact afC.mpr ⟨h,af9 _ _,λa ha b hb e=>n (by rw[<-aah.mp hb,<-e];exact ha)⟩
theorem CW{F:List α}{x:α}(h:i<F.length):(add1 F x)[i]?=F[i]?:=by
 unfold add1;split
 .rfl
 .exact aaH h
theorem uy{F:List α}{x:α}:F.length≤(add1 F x).length/\(add1 F x).length≤F.length+1:=by
 unfold add1;split
 .simp
 .simp
theorem mem_adds{y:α}:∀{xs F:List α},y∈adds F xs↔y∈F\/y∈xs
 |[],F=>⟨.inl,λh=>h.elim id λq=>absurd q abf⟩
 |x::xs,F=>by
  rw[show adds F (x::xs)=adds _ xs from rfl,mem_adds,DJ,aaq,or_assoc]
theorem yb:∀{xs F:List α},F.Nodup->(adds F xs).Nodup
 |[],_,h=>h
 |x::xs,F,h=>yb (xs:=xs) (JI h)
theorem iP:∀{xs F:List α},F.length≤(adds F xs).length/\(adds F xs).length≤F.length+xs.length
 |[],F=>⟨Ge _,Ge _⟩
 |x::xs,F=>by
  have a:=iP (xs:=xs) (F:=add1 F x);have b:=uy (F:=F) (x:=x);rw[show adds F (x::xs)=adds _ xs from rfl,aaI];omega
theorem uQ:∀{xs F:List α},i<F.length->(adds F xs)[i]?=F[i]?
 |[],_,_=>rfl
 |x::xs,F,h=>by
  rw[show adds F (x::xs)=adds _ xs from rfl,uQ (aak h uy.1),CW h]
structure Cmg(sc:α->List α)(x0:α)(F:List α)(i:Nat):Prop where
 nd:F.Nodup
 rc:∀y∈F,Rch sc x0 y
 hd:x0∈F
 cl:∀(j:Nat) (y:α),j<i->F[j]?=some y->∀z∈sc y,z∈F
theorem Cmg.one:Cmg sc x0 [x0] 0:=⟨af9 _ _,λy c=>by rw[aah.mp c];exact .here,aah.mpr rfl,λj _ h=>absurd h (Nat.not_lt_zero j)⟩
variable {F G:List α}
theorem Cmg.next(C:Cmg sc x0 F i){y:α}{xs:List α}(e:F[i]?=some y)(f:∀z,z∈xs↔z∈sc y):Cmg sc x0 (adds F xs) (i+1):=by
 have l:=(DL.mp e).1;have g:=C.rc y (GE e);refine⟨yb C.nd,λz c=>?_,mem_adds.mpr (.inl C.hd),λj u k d z c=>?_⟩
 .rcases mem_adds.mp c with q|q
  .exact C.rc z q
  .exact g.next ((f z).mp q)
 .rw[uQ (by exact aak ‹_› ‹_›)]at d
  by_cases w:j=i
  .rw[w,e]at d;cases d;exact mem_adds.mpr (.inr ((f z).mpr c))
  .exact mem_adds.mpr (.inl (C.cl j u (by omega) d z c))
theorem Cmg.all(C:Cmg sc x0 F i)(h:F.length≤i):∀{y:α},Rch sc x0 y->y∈F:=by
 intro y r
 induction r with
 |here=>exact C.hd
 |next r c d=>
  let⟨j,f,e⟩:=List.getElem_of_mem d;exact C.cl j _ (by exact aak ‹_› ‹_›) (DL.mpr ⟨f,e⟩) _ c
theorem Cmg.same{k:Nat}(C:Cmg sc x0 F i)(h:F.length≤i)(D:Cmg sc x0 G k)(g:G.length≤k):F.Perm G:=(List.perm_ext_iff_of_nodup C.nd D.nd).mpr λa=>⟨λq=>D.all g (C.rc a q),λq=>C.all h (D.rc a q)⟩
theorem yQ:∀{F G:List α},F.Nodup->(∀x∈F,x∈G)->F.length≤G.length
 |[],_,_,_=>abv _
 |x::F,G,n,h=>by
  let⟨n1,n2⟩:=abk.mp n;have d:=h x aac;have a:=yQ (G:=G.erase x) n2 λy c=>(List.mem_erase_of_ne λe=>n1 (by simp_all)).mpr (h y (aad x c))
  grind
theorem Cmg.more{k:Nat}(C:Cmg sc x0 F i)(D:Cmg sc x0 G k)(g:G.length≤k):F.length≤G.length:=yQ C.nd λa q=>D.all g (C.rc a q)
end
def scS(h:Hall)(r:Rule)(p:Pt):List Pt:=(shrM h).map λq=>((cn h r p.1 p.2 q.1).1,(cn h r p.1 p.2 q.1).2.1)
theorem uK{c:Type}[DecidableEq c]{a y:c}{x:Int}:∀{W:List (c×Int)},y∈(addA a x W).map (·.1)↔y∈W.map (·.1)\/y=a
 |[]=>by
  show y∈[a]↔_;simp
 |p::W=>by
  unfold addA;split
  .rename_i e;exact⟨.inl,λh=>h.elim id λq=>by rw[q,<-e];exact aac⟩
  .show y∈p.1::(addA a x W).map (·.1)↔y∈p.1::W.map _\/y=a;rw[aaq,aaq,uK,or_assoc]
theorem Oi:y∈(lv h r p).map (·.1)↔y∈scS h r p:=by
 have key:∀(M:Ms) x,y∈(M.foldl (λx q=>goW1 h r p 1 q x) x).1.map (·.1)↔y∈x.1.map (·.1)\/y∈M.map λq=>((cn h r p.1 p.2 q.1).1,(cn h r p.1 p.2 q.1).2.1):=by
  intro M
  induction M with
  |nil=>intro x;exact⟨.inl,λh=>h.elim id λq=>absurd q abf⟩
  |cons q M i=>
   intro x;rw[acY,i,aaD,aaq,<-or_assoc];unfold goW1;rw[uK]
 have:=key (msL h) ([],[]);unfold lv scS;rw[show([(p,(1:Int))].foldl _ ([],[]))=(msL h).foldl (λx q=>goW1 h r p 1 q x) ([],[])from rfl,this];unfold msL;rw[aaN];exact⟨λh=>h.elim (λq=>absurd q abf) id,.inr⟩
theorem rF(ho:h.Ok)(hr:r.Ok h)(S:St h r p.1 p.2)(c:y∈scS h r p):St h r y.1 y.2:=by
 let⟨q,f,e⟩:=aau.mp c;let⟨_,m⟩:=FI ho;have d:_∈msL h:=aau.mpr ⟨q,f,rfl⟩;rw[<-e];exact o7 ho hr S (m _ d).1
theorem l9(ho:h.Ok)(hr:r.Ok h){x:Pt}(S:St h r x.1 x.2)(R:Rch (scS h r) x y):St h r y.1 y.2:=by
 induction R with
 |here=>exact S
 |next _ c i=>exact rF ho hr i c
end K
namespace L2
open PySem PySem.Spec PyProof.Rows
variable{K:Io}{h:aaR}{vs:List oR}{ds:List dL}{sp:SpX}{c f:Str}{wb:(dL->MSt->Prop)->WS}{C:Addr}{Cs:List Addr}{mg:Str->Option oR}{b:Bool}
section
variable {X:Cx}{i:Nat}{x:Str}{e:Expr}{w:WE}{op:afg}{p pos:Pos}{f:Int->Int->Int}
def Jm(X:Cx)(op:afg)(f:Int->Int->Int):Prop:=PIp X op λx y H Q=>∃i j,x = .int i/\y = .int j/\Q (.int (f i j)) H
def Oj:Jm X .Add (· + ·):=Qm
def wAug(i:Nat)(w:WE)(f:Int->Int->Int):WS:=λD m=>∃a:Int,m.vs[i]?=some (some (.imm (.int a)))/\w m λr d=>∃b:Int,r = .imm (.int b)/\D.nx (d.setV i (.imm (.int (f a b))))
theorem PH(z:X.N.Nodup)(I:X.N[i]?=some x)(s:ME X e w)(d:Jm X op f)(g:X.env.scope.names.lookup x=some .local:=by rfl):MS X (.AugAssign (.Name x p) op e pos) (wAug i w f):=(Ur z I (.inl g) s d (.inr g)).wk<|by
 intro D L H ⟨l,m,M,j,⟨a,A,u⟩,k⟩;let⟨v,t,E⟩:=j.var i _ A;have B:=E;refine⟨v,t,l,m,_,j,u,λr N y o ⟨b,G,q⟩ n R rr F=>?_⟩;subst G;have J:=rr;have R2:=cf (i:=i) (r:=.imm (.int (f a b))) R (show Den X.kx.toKd o (.int (f a b)) (.int (f a b)) by simp only[Den]);exact⟨a,b,B,J,k.nx l _ _ o q n R2 (.of R2 F)⟩
theorem Kj(i:Nat)(j:X.N.Nodup)(d:EE X e w)(a:Jm X op f)(k:X.N[i]?=some x:=by rfl)(g:X.env.scope.names.lookup x=some .local:=by rfl):ES X (.AugAssign (.Name x p) op e pos) (wAug i w f):=⟨PH j k d.h a g⟩
def W5{D:dJ}{m:MSt}(a:Int)(g:m.vs[i]?=some (some (.imm (.int a))))(h:w m λr d=>∃b:Int,r = .imm (.int b)/\D.nx (d.setV i (.imm (.int (f a b))))):wAug i w f D m:=⟨a,g,h⟩
end
section
variable {X:Cx}{i e:Expr}{w a:WE}{pos:Pos}
def Vp(K:Kd)(tk t:TE):TE:=λg H Q=>∀p,H p=none->tk g (upd H p (.dK [])) λy j=>t g j λv d=>d p=some (.dK [])/\∃k,kyD k=true/\Den K d k y/\Q (.ref p) (upd d p (dX p [(dg K.w k,y,v)]))
def KH{tk t:TE}(L:X.A.units+64<cLine)(B:PE X i tk)(z:PE X e t):PE X (.Dict [some i] [e] pos) (Vp X.kd tk t):=by
 intro p s d H Q I q;have E:=I.laid (h':=s.heap.push {cls:=.type "dict",data:=.dict #[]}) (t':=s.toks) (λ_ _ q=>AD _ q) (Ge _) (ou s.heap I.big);refine wpAny_Dict_any rfl rfl (by simp) (show 1≤15 by decide) (pairTrees_cons_walk (thn (B p _ d _ _ E (q _ (I.hok.fresh (Ge _)))) λu s1 ⟨y,x,g,m,F⟩=>thn (z p s1 d x _ g F) λr s2 ⟨v,J,j,n,A,k,ky,l,o⟩=>pairTrees_nil_walk ?_));unfold storeAll;rw[ad5];exact aD (aD (BF (kvs:=[]) (es:=[]) (by omega) j ⟨by simp[DenKV],adh,rfl,.inr ⟨A,rfl⟩⟩ ky l m n (by rw[aaj];decide) λG D=>Dl (Dl ⟨.ref s.heap.objs.size,_,D,rfl,o⟩)))
def KG(wk j:WE):WE:=λm K=>wk m λg m1=>c8 (λk=>j m1 λr m2=>c8 (λd=>kyD k=true/\K (.newT (.dict (lfKV [(k,d)]))) m2) r) g
def M8(T:X.A.units+64<cLine)(N:ME X i w)(M:ME X e a):ME X (.Dict [some i] [e] pos) (KG w a):=(KH T N M).wk<|by
 intro Z H Q ⟨j,m,Y,r,L,B⟩;intro p hp;refine⟨j,m,_,r.lay hp,L,λV m1 y H1 u n1 n s J=>?_⟩;let⟨k,rfl,D,u⟩:=fc s u;refine⟨j,m1,_,n,u,λW m2 v l x n2 R t F=>?_⟩;let⟨d,rfl,hd,kd,x⟩:=fc t x;have g:p∉ads j:=r.out hp;have G:l p=some (.dK []):=F p _ (J p _ ak g) g;have q:Den X.kx l k y:=D.mono (n.pers F);refine⟨G,k,kd,q,?_⟩;have A:Pers l (upd l p (dX p [(dg X.w k,y,v)])):=bo (.inr ⟨_,G,rfl⟩);have fr:Frm j H (upd l p (dX p [(dg X.w k,y,v)])):=λb o eb I=>by
  have ne:b≠p:=bg eb hp;rw[ag ne];exact F b o (J b o (by rw[ag ne];exact eb) I) I
 have old:Ext X.kx.eb.np j H j (upd l p (dX p [(dg X.w k,y,v)])):=⟨rfl,fr,λ_ h=>.inl h,λb hb=>by
  have z:b≠p:=λe=>g (e▸hb);rw[ag z];let⟨U,S,_⟩:=R.mem hb;exact⟨U,S⟩⟩
 refine B _ m2 _ _ x (n2.trans n1) (R.at' A (λb hb=>ag λe=>g (e▸hb)) (r.ebx.trans old)) ⟨[([],p)],p,rfl,rfl,by simp,λb hb=>by simp at hb;subst hb;exact hp,⟨⟨_,.ref p,rfl,?_,p,rfl,rfl⟩,λb hb=>by simp at hb;subst hb;exact⟨_,ak,rfl⟩⟩⟩ fr;have E:kyA [(k,d)]=true:=by simp[kyA,kd]
 have ok:=iM (kvs:=[(k,d)]) E (by simp) (by simp);let⟨P,O⟩:=ml (.inr (by rw[AE];exact E):isKd (lfKV [(k,d)])=true\/kyA (lfKV [(k,d)])=true);simp only[TAt];refine .inr (.inl ⟨P,O,p,_,rfl,rfl,ak,⟨by rw[jw];exact ok.1,by rw[fH];exact ok.2.1,by rw[fH];exact ok.2.2⟩,J6 ?_⟩);simp only[DenKV];exact⟨y,v,[],rfl,q.mono A,hd.mono A,rfl⟩
def vz(d:X.A.units+64<cLine)(g:EE X i w)(j:EE X e a):EE X (.Dict [some i] [e] pos) (KG w a):=⟨M8 d g.h j.h⟩
def Im{m:MSt}{K:R->MSt->Prop}(h:w m λg m1=>c8 (λk=>a m1 λr m2=>c8 (λd=>kyD k=true/\K (.newT (.dict (lfKV [(k,d)]))) m2) r) g):KG w a m K:=h
end
section
variable {X:Cx}
def IJ:WC:=λrs m K=>on1 (λr=>∃ds,lsOf m r=some ds/\srtR ds λd=>K (.new d)) rs
def vi{b:Addr}{o:Obj}(e:h.get? b=some o):(colH h vs).get? b=some o:=by
 rw[adT _ _ _ _ (aaK (aab e))];exact AD _ e
theorem lm(hu:X.A.units+64<cLine):c7 X (.builtin "sorted") (cM X.kx IJ):=by
 intro t s T H xs Y Q I M ⟨W,m,σ,H0,rs,Z,R,h,ho,k⟩;let⟨r,v,rfl,rfl,n,ds,x,st,ho⟩:=fg h ho;let⟨l,y,rfl,f,g⟩:=n.list R x;let⟨u,rfl,A⟩:=M.one;cases A;let⟨j,d,U,J⟩:=I.list f;have hl:=d.length;have i:=g.length;have hn:=st.ok.n;refine mI (C:=λh vs=>s.heap.objs.size<h.objs.size/\Vals y vs) st.ok st.tot (by omega) (λP E V=>collect_list U.isList (V _ j (λ_ _=>vi) (zx (I.kept (t':=s.toks) λ_ _=>vi) st.ok.lay g d) ⟨Nat.lt_of_lt_of_eq (abI _) (yI s.heap j).symm,d⟩) (by rw[aaj];omega)) λn h2 vs p L e F w r1 G S i hp=>?_;let⟨z,B⟩:=w;subst S;have a:=I.hok.fresh (aa7 z);have D:=by have:=hp.1.length_eq;rwa[abg]at this
 let⟨N,O⟩:=yA hp;refine⟨.ref n.objs.size,_,I.laid (t':=s.toks) (λb o q=>G b o (F b o q)) (aa7 z) (show ObjOk X.prog X.w _ _ _ (.lst _)from⟨by rw[gE,aaj];omega,_,e,lL B p,by rw[i]⟩),rfl,?_⟩;exact k _ _ _ (ho _ N O) (R.lay a) ⟨_,_,rfl,a,ak,(nr g p).mono (bo (.inl a))⟩ (cx a)
def xW{m:MSt}{r:R}{a:R->Prop}(e:lsOf m r=some ds)(h:srtR ds λds'=>a (.new ds')):IJ [r] m a:=⟨ds,e,h⟩
end
section
variable {X:Cx}
def yP{prog:aaA}{w:World}{A:aa2}{E:oR->Ad->Prop}{s:Ad}{Q:oR->Ad->Prop}{l:Addr}{i:Array oR}{n:Nat}(e:s.heap.get? l=some {cls:=.type "list",data:=.seq i n})(hsz:i.size≤aaf)(h:Q .none {s with heap:=s.heap.update l (aca λ_=>#[])}):wpAny (model prog w) A (call (.builtin "list.clear") [.ref l]) Q E s:=by
 have m:=@PySem.AutoSeq1.list_clear_list_0 l i n hsz;have tl:s.TypeIs (.ref l) "list":=⟨_,e,rfl⟩;have a:=agc (adG F.slot_list_clear.plain F.entry_list_clear (F.slot_list_clear.check _ _ _ _ _ _ _ _ tl (F.args_list_clear_1 _) (m prog w A (wants Q E) s ⟨e,h⟩)));omega
def Ig:WM:=λr rs m K=>sk (λk=>∃ds:List dL,rs=[]/\m.os[k]?=some ds/\K (.imm .none) {m with os:=m.os.set k []}) r
theorem yT:MtM X "list.clear" (mM X.kx Ig):=by
 intro p s w H x J v D Q I u l ⟨A,m,M,N,O,r,rs,E,R,y,t,ho,d⟩;let⟨k,a,rfl,i,rfl,ds,rfl,j,ho⟩:=uX y ho;cases t;cases u;cases l;let⟨B,q,g⟩:=R.own _ _ ds i j;let⟨R2,F⟩:=R.setO i q DenAll.nil;let⟨z,o,n,G,L,e⟩:=I.lstM q;exact yP e (by simp_all) ⟨.non,_,I.lset (its':=[]) q e rfl .nil (abv _),rfl,d _ _ _ _ ho rfl R2 qZ F⟩
def JM{m:MSt}{k:Nat}{K:R->MSt->Prop}(e:m.os[k]?=some ds)(h:K (.imm .none) {m with os:=m.os.set k []}):Ig (.obj k) [] m K:=⟨ds,rfl,e,h⟩
end
def clsA(K:Io)(c:Str):Addr:=match aal K aag c with|some (some (.ref C))=>C|_=>0
section
variable {X:Cx}{a e:Expr}{es:List Expr}{j:WA}{w:WE}{pos p d g np t:Pos}{k n:Nat}{x:Str}{E:dL->MSt->Prop}
theorem x9(F:FnX X.prog X.w X.K X.mg X.base x k n sp)(o:XL X E)(hr:Room k X.A)(ha:EA X (a::es) j)(q:Gl X x:=by rfl)(l:(x==("__debug__" : Str))=false:=by decide)(m:OR (a::es) X.env=(false,eval a X.env)::OR es X.env:=by first|exact aV rfl|rfl)(i:(abw pos (OR es X.env)).any (·.1)=false:=by rfl) :
  EE X (.Call (.Name x p) (a::es) [] pos) (Cw sp E j):=⟨Fh F o hr ha.h q l m i⟩
theorem JL{q s:List Stmt}{o:Stmt}{i:Nat}{y:Str}{B hp:Pos}{D:Addr}{v:WS}(z:ClsX X.K X.mg c D)(A:X.N.Nodup)(H:X.N[i]?=some y)(F:X.env.scope.names.lookup y=some .local)
  (hb:∀(l:oR->Ad->Prop) (pn:List (Addr×Obj)) (b:EB) (m:dL->MSt->Prop),XL (X.tr l pn b) m->ESs (X.tr l pn b) q (wb m)) (hs:∀(e:Addr) (l:oR->Ad->Prop),ESs (X.sui e l) (o::s) v)
  (J:Gl X c:=by rfl) (u:(c==("__debug__" : Str))=false:=by decide) (r:X.ex=[]:=by rfl) (G:X.stack=X.env::X.outer:=by rfl) (I:X.env.frame=some X.env.locals:=by rfl) :
  ES X (.Try q [.ExceptHandler (some (.Name c B)) (some y) (o::s) hp] [] [] pos) (wTry X.K i c wb v):=⟨Tf z.mg z.ns A H F (λl pn b m h=>(hb l pn b m h).h) (λe l=>(hs e l).h) J u r G I⟩
theorem L8(r:EE X e w)(i:X.mg "isinstance" = none)(u:X.mg x=some (.ref C))(m:Gl X "isinstance":=by rfl)(v:Gl X x:=by rfl)(hd:(x==("__debug__" : Str))=false:=by decide)
  (s:X.K=K:=by rfl) (l:OR [e,.Name x d] X.env=(false,eval e X.env)::OR [.Name x d] X.env:=by rfl) (o:OR [.Name x d] X.env=(false,eval (.Name x d) X.env)::OR [] X.env:=by rfl) (q:(abw pos (OR [.Name x d] X.env)).any (·.1)=false:=by rfl) :
  EE X (.Call (.Name "isinstance" p) [e,.Name x d] [] pos) (wIsX K (.ref C) w):=by subst s;exact⟨Q9 r.h i u m v hd l o q⟩
theorem E9{T:String}(r:EE X e w)(i:X.mg "isinstance" = none)(y:X.mg x=none)(s:aaL x=some (.type T))(m:Gl X "isinstance":=by rfl)(z:Gl X x:=by rfl)(u:x ≠ "__name__":=by decide)(hd:(x==("__debug__" : Str))=false:=by decide)
  (v:X.K=K:=by rfl) (l:OR [e,.Name x d] X.env=(false,eval e X.env)::OR [.Name x d] X.env:=by rfl) (o:OR [.Name x d] X.env=(false,eval (.Name x d) X.env)::OR [] X.env:=by rfl) (q:(abw pos (OR [.Name x d] X.env)).any (·.1)=false:=by rfl) :
  EE X (.Call (.Name "isinstance" p) [e,.Name x d] [] pos) (wIsX K (.type T) w):=by subst v;exact⟨L9 r.h i y s m z u hd l o q⟩
theorem FY{x1}(r:EE X e w)(s:PA X es (tNms Cs))(v:Cs.length≤aaf)(i:X.mg "isinstance" = none)(m:Gl X "isinstance":=by rfl)
  (u:X.K=K:=by rfl) (l:OR [e,.Tuple es x1 t] X.env=(false,eval e X.env)::OR [.Tuple es x1 t] X.env:=by rfl) (o:OR [.Tuple es x1 t] X.env=(false,eval (.Tuple es x1 t) X.env)::OR [] X.env:=by rfl) (q:(abw pos (OR [.Tuple es x1 t] X.env)).any (·.1)=false:=by rfl) :
  EE X (.Call (.Name "isinstance" p) [e,.Tuple es x1 t] [] pos) (JD K Cs w):=by subst u;exact⟨L4 r.h s v i m l o q⟩
theorem wj{fs:List Str}(q:IniX X.prog X.w X.K X.mg X.base x fs)(o:XL X E)(hr:Room 2 X.A)(s:X.calm=true)(ha:EA X (a::es) j)(r:Gl X x:=by rfl)(l:(x==("__debug__" : Str))=false:=by decide)
  (m:OR (a::es) X.env=(false,eval a X.env)::OR es X.env:=by first|exact aV rfl|rfl) (i:(abw g (OR es X.env)).any (·.1)=false:=by rfl) :
  ES X (.Raise (some (.Call (.Name x np) (a::es) [] g)) none pos) (uv x fs E j):=⟨zy q o hr s ha.h r l m i⟩
theorem QZ(i:EE X e w)(l:X.K=K:=by rfl)(hb:aa5 e f X.env (eval e X.env)=eval e X.env:=by rfl):EE X (.Attribute e f pos) (wXf K f w):=by subst l;exact⟨UO i.h hb⟩
end
def Ji{P:aaA}{w:World}{base:aaR}{x:Str}{st:Stmt}{N ps:List Str}{n nN k:Nat}(D:DefM K mg x st ps)(S:FnScope N ps (ac st))(o:ps.length=n)(q:N.length=nN)(l:n≤nN)(ar:∀as i g,sp as i g->as.length=n)
  (e:∀(a:oR) (A:aa2) (outer:List Env) (s:Ad) (H:Hp) (E:XK) (f:Addr) (b:EB) (g:dL->Prop),Room k (A.deeper (ad9 x (ac st) s.heap.objs.size f a))->XL ((cxOf (CXE P w) P w K mg base N x (ac st) f a A outer s H E).wEb b) (λd _=>g d) ->
   ∃j,ESs ((cxOf (CXE P w) P w K mg base N x (ac st) f a A outer s H E).wEb b) (bV st) j/\∀as i,as.length=n->sp as i g->j {nx:=λm=>i (.imm .none) (m.os.take m.np),rt:=λr m=>retK i m r} (gl nN as)) :
  FnX P w K mg base x (k+1) n sp:=T7 D S o q l ar λa A outer s H E f b g hr p=>let ⟨j,h1,h2⟩:=e a A outer s H E f b g hr p;⟨j,h1.h,h2⟩
section
variable {m:MSt}{Q:R->MSt->Prop}{g:WA}{D:dJ}{E:dL->MSt->Prop}{w:WE}
theorem NH(h:g m λrs m1=>match fy m1 rs with|some (as,ks)=>ks.Nodup/\sp as (λr o=>Q (mapR ks r) {m1 with os:=cr m1.os ks o}) (λd=>E d m1)|none=>False):Cw sp E g m Q:=h
def OL{m1:MSt}{rs:List R}{as:List Ag}{ks:List Nat}{P:List Ag->List Nat->Prop}(e:fy m1 rs=some (as,ks))(nd:ks.Nodup)(h:P as ks):(match fy m1 rs with|some (as,ks)=>ks.Nodup/\P as ks|none=>False):=by rw[e];exact⟨nd,h⟩
theorem Wf{i:Nat}{j:WS}(e:m.np=0)(h:wb (λd k=>∃a kvs,d = .dict ((.none,.str a)::kvs)/\SubX K a c/\j {nx:=λm2=>D.nx (m2.unV i),rt:=D.rt,bk:=λm2=>D.bk (m2.unV i),ct:=λm2=>D.ct (m2.unV i)} (k.dropO.setV i (.imm d))) D m):wTry K i c wb j D m:=⟨e,h⟩
def Vv{a:oR}(h:w m λr d=>∃c kvs b,r = .imm (.dict ((.none,.str c)::kvs))/\IsIn K c a b/\Q (.imm (.bool b)) d):wIsX K a w m Q:=h
def Qr(h:w m λr a=>∃c kvs b,r = .imm (.dict ((.none,.str c)::kvs))/\IsIns K c Cs b/\Q (.imm (.bool b)) a):JD K Cs w m Q:=h
def FC{x:Str}{fs:List Str}(h:g m λrs m1=>∃ds:List dL,rs=ds.map .imm/\ds.length=fs.length/\fs.length≤1000/\E (.dict ((.none,.str x)::zipF fs ds)) m1):uv x fs E g D m:=h
def O7{rs:List R}{fs:List Str}{P:List dL->Prop}(ds:List dL)(e:rs=ds.map .imm)(l:ds.length=fs.length)(z:fs.length≤1000)(h:P ds):∃ds:List dL,rs=ds.map .imm/\ds.length=fs.length/\fs.length≤1000/\P ds:=⟨ds,e,l,z,h⟩
def x_xf(h:w m λr a=>∃c kvs d,r = .imm (.dict ((.none,.str c)::kvs))/\fldD f kvs=some d/\XAt K c f/\Q (.imm d) a):wXf K f w m Q:=h
def U5{kvs:List (dL×dL)}{d:dL}{P:dL->Prop}(e:fldD f kvs=some d)(a:XAt K c f)(h:P d):∃i k j,R.imm (.dict ((.none,.str c)::kvs)) = .imm (.dict ((.none,.str i)::k))/\fldD f k=some j/\XAt K i f/\P j:=⟨c,kvs,d,rfl,e,a,h⟩
end
def fv(h:aal K aag c=some (some (.ref C))):clsA K c=C:=by unfold clsA;rw[h]
structure ClsK(K:Io)(c:Str):Prop where
 ns:aal K aag c=some (some (.ref (clsA K c)))
def ClsK.of(a:aal K aag c=some (some (.ref C))):ClsK K c:=⟨by rw[fv a];exact a⟩
def ClsK.m(k:ClsK K c)(X:K.In h)(G:h.Ns aag mg):mg c=some (.ref (clsA K c)):=adZ X G k.ns
structure ExcK(K:Io)(c:Str):Prop where
 ns:aal K aag c=some (some (.ref (clsA K c)))
 ok:ahc K (clsA K c) [.type "ValueError",.type "Exception",.type "BaseException",.type "object"] "ValueError.__new__" = true
def ExcK.of(a:aal K aag c=some (some (.ref C)))(b:ahc K C [.type "ValueError",.type "Exception",.type "BaseException",.type "object"] "ValueError.__new__" = true):ExcK K c:=⟨by rw[fv a];exact a,by rw[fv a];exact b⟩
def ExcK.x(k:ExcK K c)(X:K.In h)(G:h.Ns aag mg):ClsX K mg c (clsA K c):=⟨adZ X G k.ns,k.ns,k.ok⟩
def SubX.of{g:Str}{d:Addr}(a:aal K aag g=some (some (.ref d)))(b:aal K aag c=some (some (.ref C)))(e:aic K (.ref d) (.ref C)=some true):SubX K g c:=⟨d,C,a,b,e⟩
def XCls.of(a:aal K aag c=some (some (.ref C)))(b:abt K (.ref C) "__getattribute__" = some (some (.builtin "BaseException.__getattribute__")))(b2:abt K (.ref C) "__getattr__" = some none)(d:ahA K C=true)(e:abt K (.ref C) "__class__" = some (some (.builtin "object.__class__")))
  (f:ahB K (.builtin "object.__class__") "__get__" = some (some (.builtin "getset_descriptor.__get__"))) (g:ahZ K (.builtin "object.__class__")=some true) (h:adv K C (.type "object")=some true) (i:adv K C (.type "BaseException")=some true):XCls K c (clsA K c):=by
 rw[fv a];exact⟨a,b,b2,d,e,f,g,h,i⟩
def IsIn.own{g:Str}{d:Addr}(x:XCls K c (clsA K c))(a:aal K aag c=some (some (.ref C)))(a2:aal K aag g=some (some (.ref d)))(e:afm K (.ref C) (.ref d)=some b):IsIn K c (.ref (clsA K g)) b:=⟨_,x,by rw[fv a,fv a2];exact e⟩
def IsIn.ty{T:String}(x:XCls K c (clsA K c))(a:aal K aag c=some (some (.ref C)))(e:afm K (.ref C) (.type T)=some b):IsIn K c (.type T) b:=⟨_,x,by rw[fv a];exact e⟩
inductive Nms(K:Io):List Str->List Addr->List oR->Prop where
 |nil:Nms K [] [] []
 |cons {c:Str}{C:Addr}{cs:List Str}{Cs:List Addr}{vs:List oR}:aal K aag c=some (some (.ref C))->Nms K cs Cs vs->Nms K (c::cs) (C::Cs) (.ref C::vs)
theorem Nms.eq:∀{d:List Str}{Cs:List Addr}{vs:List oR},Nms K d Cs vs->d.map (clsA K)=Cs/\vs=Cs.map aaZ
 |_,_,_,.nil=>⟨rfl,rfl⟩
 |_,_,_,.cons a t=>by
  let⟨e,g⟩:=t.eq;rw[aaD,fv a,e,g];exact⟨rfl,rfl⟩
def IsIns.of{d:List Str}(x:XCls K c (clsA K c))(a:aal K aag c=some (some (.ref C)))(n:Nms K d Cs vs)(e:aid K (.ref C) vs=some b):IsIns K c (d.map (clsA K)) b:=by
 let⟨g,i⟩:=n.eq;exact⟨_,x,by rw[fv a,g,<-i];exact e⟩
def XAt.of(x:XCls K c (clsA K c))(a:aal K aag c=some (some (.ref C)))(b:abt K (.ref C) f=some none):XAt K c f:=⟨_,x,by rw[fv a];exact b⟩
end L2
namespace K
open PySem L2
variable{h:Hall}{r:Rule}{F G:List Pt}{l:ahY}
local macro_rules | `(tactic| walk_at"1") => `(tactic| first
 |(with_reducible first|apply uf|apply Vz)|((with_reducible refine' Lp ?xe ?_);(case xe=>rfl))|(with_reducible first|apply x_c|apply Pi|apply QT|apply LR|apply JA|apply J4|apply WZ|apply Ow|apply UB|apply x_lt|apply x_le|apply x_gt|apply x_ge|apply UH|apply V9|apply Vo|apply Wx|apply Vm)|((with_reducible refine' x_nd ?xe ?_);(case xe=>first|rfl|assumption))|(with_reducible first|apply x_rev|apply x_min|apply x_max)|((with_reducible refine' WY ?_))|(with_reducible first|apply QF|apply x_mt|apply x_ts)
 |((with_reducible refine' aH ?xe ?_);(case xe=>rfl))|((with_reducible refine' ju ?xf ?xe ?_);(case xf=>rfl);(case xe=>rfl))|((with_reducible refine' ub ?xe ?_);(case xe=>rfl))|((with_reducible refine' jt ?xe ?_);(case xe=>rfl))
 |((with_reducible refine' JV ?xe ?_);(case xe=>omega))|((with_reducible refine' iW ?xe ?_);(case xe=>exact cfd (by omega) (by omega)))|((with_reducible refine' cX ?xe ?_);(case xe=>exact VH (by omega)))|((with_reducible refine' Vw ?xe ?_);(case xe=>exact⟨by decide,by decide,by decide⟩))
 |(with_reducible first|apply D6|apply d5|apply x_bindO|apply Wq|apply Wy|apply Qy|apply Qu)|((with_reducible refine' V5 ?xe ?xf ?_);(case xe=>rfl);(case xf=>rfl))
 |(with_reducible first|apply W4|apply x_or|apply Wz|apply x_andV|apply x_orV|apply x_notV|apply RQ|apply V8|apply x_cb|apply Um)|((with_reducible refine' U9 ?xe ?xf ?_);(case xe=>rfl);(case xf=>decide))
 |(with_reducible first|apply Wn|apply Wg)|((with_reducible refine' VX ?xe ?xf ?_);(case xe=>rfl);(case xf=>exact of_decide_eq_true rfl))|(with_reducible first|apply U3|apply x_dix|apply O8|apply vm|apply P9|apply x_disp|apply x_pNil|apply x_pCons|apply jb|apply x_bindA)|((with_reducible refine' x_dgot ?xa ?xb ?xc ?xd ?xe ?_);(case xa=>rfl);(case xb=>rfl);(case xc=>rfl);(case xd=>rfl);(case xe=>rfl))|((with_reducible refine' x_dgotN ?xa ?xb ?xc ?xd ?xe ?_);(case xa=>rfl);(case xb=>rfl);(case xc=>rfl);(case xd=>rfl);(case xe=>rfl))|((with_reducible refine' x_dputs ?xa ?xb ?xc ?xd ?xe ?xf ?_);(case xa=>rfl);(case xb=>rfl);(case xc=>rfl);(case xd=>rfl);(case xe=>exact of_decide_eq_true rfl);(case xf=>rfl))|((with_reducible refine' x_onPairs ?xa ?xb ?xc ?xd ?_);(case xa=>rfl);(case xb=>rfl);(case xc=>exact of_decide_eq_true rfl);(case xd=>rfl))
 |with_reducible apply NH|((with_reducible refine' OL ?xe ?xf ?_);(case xe=>rfl);(case xf=>decide))|(with_reducible first|apply x_raise|apply FC|apply x_excI|apply x_excP|apply x_xf|apply Vv|apply Qr)|((with_reducible refine' x_rz ?xe ?_);(case xe=>exact of_decide_eq_true rfl))
 |((with_reducible refine' x_onAgs ?xa ?xb ?_);(case xa=>rfl);(case xb=>decide))|(with_reducible first|apply x_tupR|apply x_dixD|apply x_immT|apply x_fsC|apply x_fsN|apply x_trI|apply x_trN|apply x_trT|apply x_fldI)|((with_reducible refine' x_fgot ?xa ?xb ?xc ?xd ?xe ?_);(case xa=>rfl);(case xb=>rfl);(case xc=>rfl);(case xd=>rfl);(case xe=>rfl))|((with_reducible refine' x_fgotN ?xa ?xb ?xc ?xd ?xe ?_);(case xa=>rfl);(case xb=>rfl);(case xc=>rfl);(case xd=>rfl);(case xe=>rfl))|with_reducible apply x_meth|((with_reducible refine' x_insR ?xa ?xb ?xc ?_);(case xa=>rfl);(case xb=>rfl);(case xc=>rfl))|with_reducible apply x_make|((with_reducible refine' x_onImms ?xa ?_);(case xa=>rfl))|(with_reducible first|apply x_reps|apply x_dputT|apply x_empt|apply x_dispT|apply VD)|((with_reducible refine' x_onPairsT ?xa ?xb ?xc ?_);(case xa=>rfl);(case xb=>rfl);(case xc=>exact of_decide_eq_true rfl))
 |(with_reducible first|apply x_un|apply Vq|apply Vy|apply x_intI|apply OM|apply VF|apply Tj|apply Qx)|((with_reducible refine' P7 ?xe ?_);(case xe=>rfl))|(with_reducible first|apply x_lenN|apply VM|apply UW|apply PK|apply x_retN|apply x_chain|apply x_ml)|((with_reducible refine' x_ls ?xe ?_);(case xe=>rfl))
 |(with_reducible first|apply x_isN|apply x_isB|apply GU|apply x_gM|apply Uv|apply Kq|apply Qb)
 |((with_reducible refine' Lm ?xe ?_);(case xe=>rfl))|with_reducible apply Uf|((with_reducible refine' x_list ?xe ?_);(case xe=>rfl))|((with_reducible refine' KZ ?xe ?_);(case xe=>rfl))|(with_reducible first|apply x_listR|apply x_sl|apply GV|apply OJ|apply UZ|apply OU|apply Uk|apply Ot)|((with_reducible refine' QG ?xe ?_);(case xe=>rfl))|(with_reducible first|apply Rj|apply x_rng2|apply Ll|apply Km|apply Vt|apply FZ|apply Uz|apply lw)|with_reducible apply iq)
local macro_rules | `(tactic| walk_at"s") => `(tactic| repeat walk_at"1")
local macro_rules | `(tactic| walk_at"n") => `(tactic| first | dsimp only [mapR, cr, List.set, MSt.setV, MSt.setN, List.take, List.length, List.append, jT, v3, Nat.reduceAdd, List.getD_cons_succ, List.getD_cons_zero, List.nil_append, List.cons_append, setT, lfD] | dsimp only [mapR, cr, List.set, MSt.setV, MSt.setN, List.take, List.length, List.append, jT, v3, Nat.reduceAdd, List.getD_cons_succ, List.getD_cons_zero, List.nil_append, List.cons_append] | skip)
local macro_rules | `(tactic| walk_at "sc") => `(tactic| exact ⟨rfl, rfl, rfl, by decide +kernel, rfl, by decide +kernel, by decide +kernel⟩)
local macro_rules | `(tactic| walk_at"x") => `(tactic| (walk_at"n"; walk_at"s"))
local macro_rules | `(tactic| walk_at "a") => `(tactic| (walk_at"s";refine aG (λz=>absurd z (by decide +kernel)) (λ_=>?_);walk_at"s";refine aG (λz=>absurd z (by decide +kernel)) (λ_=>?_);walk_at"s"))
local macro_rules | `(tactic| walk_at "b") => `(tactic| (refine aG (λz=>absurd z (by decide +kernel)) (λ_=>?_);walk_at"s";refine aG (λ_=>?_) (λz=>(z rfl).elim);walk_at"s"))
local macro_rules | `(tactic| walk_at "c") => `(tactic| (refine aG (λz=>absurd z (by decide +kernel)) (λ_=>?_)))
local macro_rules | `(tactic| walk_at "d") => `(tactic| (refine bQ ?_;walk_at"x"))
local macro_rules | `(tactic| walk_at "e") => `(tactic| (refine⟨by omega,by omega,?_⟩))
local macro_rules | `(tactic| walk_at "f") => `(tactic| (refine aG (λ_=>?_) (λz=>(z rfl).elim)))
local macro_rules | `(tactic| walk_at "g") => `(tactic| (dsimp only[Srv.d];walk_at"s"))
local macro_rules | `(tactic| walk_at "h") => `(tactic| (walk_at"n";refine d5 ?_;walk_at"x"))
def top(i:Nat):Stmt:=PySem.Challenge.pw_shorterline_k26_all_stands_that_come.main.body.getD i (.Pass ⟨0,0,0,0⟩)
abbrev cR:Stmt:=top 10
abbrev gJ:Stmt:=top 11
abbrev jG:Stmt:=top 12
abbrev ot:Stmt:=top 13
abbrev pK:Stmt:=top 14
abbrev c6:Stmt:=top 15
abbrev d8:Stmt:=top 18
abbrev dU:Stmt:=top 20
abbrev ow:Stmt:=top 21
abbrev dH:Stmt:=top 22
abbrev o8:Stmt:=top 23
abbrev gF:Stmt:=top 25
abbrev fQ:Stmt:=top 26
abbrev jJ:Stmt:=top 27
abbrev nH:Stmt:=top 28
abbrev oi:Stmt:=top 29
abbrev iC:Stmt:=top 30
abbrev oZ:Stmt:=top 31
abbrev gI:Stmt:=top 32
abbrev oq:Stmt:=top 33
abbrev lh:Stmt:=top 34
abbrev e9:Stmt:=top 37
abbrev dI:Stmt:=top 38
abbrev fb:Stmt:=top 39
abbrev gc:Stmt:=top 40
abbrev ft:Stmt:=top 41
abbrev jz:Stmt:=top 43
abbrev jK:Stmt:=top 44
abbrev k7:Stmt:=top 45
abbrev jB:Stmt:=top 46
abbrev dW:Stmt:=top 47
abbrev ib:Stmt:=top 48
abbrev cF:Stmt:=top 49
abbrev h9:Stmt:=top 50
abbrev fi:Stmt:=top 51
abbrev fZ:Stmt:=top 52
abbrev jD:Stmt:=top 53
abbrev jF:Stmt:=top 54
abbrev gu:Stmt:=top 55
abbrev iz:Stmt:=top 56
abbrev gq:Stmt:=top 57
abbrev fX:Stmt:=top 58
abbrev gL:Stmt:=top 59
abbrev jA:Stmt:=top 60
abbrev slaw:Stmt:=top 61
structure Bl(K:Io)(mg:Str->Option oR):Prop where
 len:mg "len" = none
 abs:mg "abs" = none
 range:mg "range" = none
 list:mg "list" = none
 tuple:mg "tuple" = none
 int:mg "int" = none
 sum:mg "sum" = none
 zip:mg "zip" = none
 min:mg "min" = none
 max:mg "max" = none
 enumerate:mg "enumerate" = none
 repr:mg "repr" = none
 sorted:mg "sorted" = none
 isinstance:mg "isinstance" = none
 ValueError:mg "ValueError" = none
 c_WHOLE_TURN:ConM K mg "WHOLE_TURN" (.tuple (([1,1]:List Int).map .int))
 c_MOST_STANDS:ConM K mg "MOST_STANDS" (.int 60)
 m_LineError:mg "LineError" = some (.ref (clsA K "LineError"))
 x_LineError:ClsX K mg "LineError" (clsA K "LineError")
 m_TooMany:mg "TooMany" = some (.ref (clsA K "TooMany"))
 m_NoBest:mg "NoBest" = some (.ref (clsA K "NoBest"))
 m_NoFraction:mg "NoFraction" = some (.ref (clsA K "NoFraction"))
 m_NoHall:mg "NoHall" = some (.ref (clsA K "NoHall"))
 m_NoNever:mg "NoNever" = some (.ref (clsA K "NoNever"))
 m_NoShares:mg "NoShares" = some (.ref (clsA K "NoShares"))
 m_NoText:mg "NoText" = some (.ref (clsA K "NoText"))
 i_TooMany:IniM K mg "TooMany" ["word"]
 sub:SubX K "TooMany" "LineError"
 i1:IsIn K "TooMany" (.ref (clsA K "TooMany")) true
 i2:IsIn K "TooMany" (.type "ValueError") true
 a1:XAt K "TooMany" "word"
 i3:IsIns K "TooMany" ((["NoBest","NoFraction","NoHall","NoNever","NoShares","NoText"]:List Str).map (clsA K)) false
def fj:FnScope ["one","other"] ["one","other"] (ac cR):=by ext sc
def fM:FnScope ["top","bottom","divisor"] ["top","bottom"] (ac gJ):=by ext sc
def sG:FnScope ["one","other"] ["one","other"] (ac jG):=by ext sc
def yt:FnScope ["one","other"] ["one","other"] (ac ot):=by ext sc
def Ce:FnScope ["one","other"] ["one","other"] (ac pK):=by ext sc
def bX:FnScope ["pairs","bottom","thing","fraction"] ["pairs"] (ac c6):=by ext sc
def bR:FnScope ["hall","lines","place","many","server"] ["hall","lines"] (ac d8):=by ext sc
def cw:FnScope ["lines","order","best","line"] ["lines","order"] (ac dU):=by ext sc
def kZ:FnScope ["hall","lines","line","top","bottom"] ["hall","lines","line"] (ac ow):=by ext sc
def bA:FnScope ["hall","lines","order","best","least","line","wait"] ["hall","lines","order"] (ac dH):=by ext sc
def iZ:FnScope ["hall","rule","stand","order","lines","turn","word"] ["hall","rule","stand","order"] (ac o8):=by ext sc
def nR:FnScope ["hall"] ["hall"] (ac gF):=by ext sc
def db:FnScope ["hall","many","orders","place"] ["hall"] (ac fQ):=by ext sc
def sU:FnScope ["lines","line","more"] ["lines","line","more"] (ac jJ):=by ext sc
def Bx:FnScope ["hall","lines","line"] ["hall","lines","line"] (ac nH):=by ext sc
def Bt:FnScope ["lines","line"] ["lines","line"] (ac oi):=by ext sc
def rJ:FnScope ["hall","lines"] ["hall","lines"] (ac iC):=by ext sc
def iL:FnScope ["hall","lines","shift"] ["hall","lines"] (ac oZ):=by ext sc
def pg:FnScope ["hall","rule","turn"] ["hall","rule","turn"] (ac gI):=by ext sc
def yj:FnScope ["hall","rule","stand","move"] ["hall","rule","stand","move"] (ac oq):=by ext sc
def bU:FnScope ["hall","rule","stand","move","lines","turn","word","line"] ["hall","rule","stand","move"] (ac lh):=by ext sc
def bi:FnScope ["hall","come","servers","moved","orders","each","shares","rest","line","server"] ["hall"] (ac e9):=by ext sc
def aL:FnScope ["hall","rule","weights","moves","whole","stands","words","stand","weight","move","share","behind","word"] ["hall","rule","weights"] (ac dI):=by ext sc
def oW:FnScope ["weights","whole"] ["weights","whole"] (ac fb):=by ext sc
def c5:FnScope ["hall","rule","stand","stands","words","whole"] ["hall","rule","stand"] (ac gc):=by ext sc
def bq:FnScope ["hall","rule","found","known","at","behind","stand","share"] ["hall","rule"] (ac ft):=by ext sc
def tF:FnScope ["_law_script"] ["_law_script"] (ac jz):=by ext sc
def cy:FnScope ["_law_tape_here","_law_many","_law_found","_law_at","_law_cell","_law_mixed"] ["_law_tape_here","_law_many"] (ac jK):=by ext sc
def jr:FnScope ["_law_top","_law_bottom","_law_one","_law_other"] ["_law_top","_law_bottom"] (ac k7):=by ext sc
def ul:FnScope ["_law_one","_law_other"] ["_law_one","_law_other"] (ac jB):=by ext sc
def fh:FnScope ["_law_tape_here","_law_many","_law_most","_law_parts_here","_law_rest"] ["_law_tape_here","_law_many"] (ac dW):=by ext sc
def bG:FnScope ["_law_tape_here","_law_menu","_law_rooms","_law_shares","_law_speeds","_law_slowest","_law_speed","_law_servers"] ["_law_tape_here","_law_menu"] (ac ib):=by ext sc
def br:FnScope ["_law_hall_here","_law_found","_law_speed","_law_room","_law_longer","_law_lines"] ["_law_hall_here"] (ac cF):=by ext sc
def kJ:FnScope ["_law_tape_here","_law_hall_here","_law_word"] ["_law_tape_here","_law_hall_here"] (ac h9):=by ext sc
def cc:FnScope ["_law_many","_law_found","_law_turn","_law_longer","_law_order"] ["_law_many"] (ac fi):=by ext sc
def bH:FnScope ["_law_hall_here","_law_lines","_law_order","_law_best","_law_k","_law_one","_law_other","_law_mine"] ["_law_hall_here","_law_lines","_law_order"] (ac fZ):=by ext sc
def b9:FnScope ["_law_hall_here","_law_rule_here","_law_stand","_law_order","_law_lines","_law_turn","_law_some","_law_best","_law_k"] ["_law_hall_here","_law_rule_here","_law_stand","_law_order"] (ac jD):=by ext sc
def sW:FnScope ["_law_lines","_law_k","_law_many"] ["_law_lines","_law_k","_law_many"] (ac jF):=by ext sc
def fT:FnScope ["_law_hall_here","_law_lines"] ["_law_hall_here","_law_lines"] (ac gu):=by ext sc
def c9:FnScope ["_law_hall_here","_law_rule_here","_law_stand","_law_order","_law_lines","_law_turn","_law_k"] ["_law_hall_here","_law_rule_here","_law_stand","_law_order"] (ac iz):=by ext sc
def aM:FnScope ["_law_hall_here","_law_rule_here","_law_stand","_law_lines","_law_turn","_law_orders_here","_law_found","_law_order","_law_later","_law_word","_law_rest","_law_k","_law_speed","_law_less"] ["_law_hall_here","_law_rule_here","_law_stand"] (ac gq):=by ext sc
def qL:FnScope ["_law_hall_here"] ["_law_hall_here"] (ac fX):=by ext sc
def bC:FnScope ["_law_hall_here","_law_rule_here","_law_found","_law_known","_law_at","_law_later","_law_word","_law_share"] ["_law_hall_here","_law_rule_here"] (ac gL):=by ext sc
def cz:FnScope ["_law_hall_here","_law_rule_here","_law_told_here","e","_law_others"] ["_law_hall_here","_law_rule_here"] (ac jA):=by ext sc
def jZ:FnScope ["_law_script","_law_tape_here","_law_small","_law_bound","_law_k","_law_hall_here","_law_rule_here","_law_found","_law_due","_law_told_here"] ["_law_script"] (ac slaw):=by ext sc
abbrev gH:Stmt:=(KQ (top 4)).getD 0 (.Pass ⟨0,0,0,0⟩)
def xv:FnScope ["self","word"] ["self","word"] (ac gH):=⟨rfl,rfl,rfl,by decide +kernel,rfl,by decide +kernel,by decide +kernel⟩
def y6:∀(kV d pm:oR) (an:Option Addr) (c ct:oR) (u:List oR),u.length=(["self","word"]:List Str).length->bindArgs (acG "__init__" "TooMany.__init__" (gC gH) (bV gH) (ac gH) .none kV d pm an c ct) ⟨u,[]⟩=pure ((["self","word"]:List Str).zip u):=λ_ _ _ _ _ _ u a=>match u,a with|[_,_],_=>rfl
def zq{k:Nat}{ds:List dL}{g:WG}{w:WS}{D:dJ}{m1:MSt}(P:Nat->MSt->Prop)(p0:P 0 (m1.setN (max m1.np (k+1))))(ok:∀i m,P i m->m.os[k]?=some ds)
  (step:∀(i:Nat) (d:dL) (m:MSt),ds[i]?=some d->m.np=max m1.np (k+1)->P i m->∀b:dJ,(∀a,P (i+1) a->b.nx a)->g d m λm2=>w b m2)
  (f:∀m,m.np=max m1.np (k+1)->P ds.length m->D.nx (m.setN m1.np)):jd ⟨ds,some k⟩ g w D m1:=jk P p0 ok (λi d m e n p=>step i d m e n p _ λ_ z=>z) f
def du25{S:Nat}(ho:h.Ok)(hr:r.Ok h)(O:OfS h S):DuOk h r 1:=⟨ho,hr,O.rest ho,by decide,O.pow ho (by decide)⟩
def knD(F:List Pt):List (dL×dL):=F.map λp=>(ptD p,.bool true)
def z0(h:Hall):Pt:=(zer h,0)
def IK:SpM:=λa K=>∃(h:Hall) (r:Rule),a=[.imm h.d,.imm r.d]/\h.Ok/\r.Ok h/\∀(F:List Pt) (i:Nat),Cmg (scS h r) (z0 h) F i->(F.length≤i\/100≤F.length)->F.length<200->K (.new (F.map ptD)) []
theorem yo{p:Pt}:(de (ptD p) (knD F)).isSome=decide (p∈F):=by
 induction F with
 |nil=>rfl
 |cons q F i=>
  show(if aar (ptD q) (ptD p)=true then some (dL.bool true)else de (ptD p) (knD F)).isSome=_;rw[mF]
  by_cases e:q=p
  .rw[if_pos (decide_eq_true e),e];exact(decide_eq_true aac).symm
  .rw[if_neg (by rw[decide_eq_false e];exact aan),i,ab6,decide_eq_true_iff,decide_eq_true_iff,aaq];exact⟨.inr,λq=>q.elim (λw=>absurd w.symm e) id⟩
theorem Iw{p:Pt}(h:p∉F):putP (ptD p) (.bool true) (knD F)=knD (F++[p]):=by
 induction F with
 |nil=>rfl
 |cons q F i=>
  let⟨n1,n2⟩:=not_or.mp λw=>h (aaq.mpr w);show(if aar (ptD q) (ptD p)=true then _ else _::putP (ptD p) (.bool true) (knD F))=_;rw[mF,if_neg (by rw[decide_eq_false λe=>n1 e.symm];exact aan),i n2];rfl
def Qz(ho:h.Ok)(S:∀p∈F,St h r p.1 p.2):kyA (knD F)=true:=by
 unfold kyA knD;rw[adM,abV];exact λp hp=>rG ho (S p hp)
def Ul:dL:=.dict [(.none,.str "TooMany"),(.str "word",.str "stands")]
structure SrF(F G:List Pt):Prop where
 p:G.Perm F
 o:G.Pairwise λa b=>ltP a b=true
def Jb:SpX:=λa K E=>∃(h:Hall) (r:Rule),a=[.imm h.d,.imm r.d]/\DuOk h r 1/\(∀(F G:List Pt) (i:Nat),Cmg (scS h r) (z0 h) F i->F.length≤i->F.length<61->SrF F G->K (.new (G.map ptD)) [])/\∀(F:List Pt) (i:Nat),Cmg (scS h r) (z0 h) F i->60<F.length->E Ul
def Cg(S:∀p∈F,St h r p.1 p.2)(nd:F.Nodup)(n:F.length<64):WOk h r (F.map λp=>(p,(0:Int))):=by
 refine⟨λp hp=>?_,?_,by rwa[gE],λp hp=>?_⟩
 .obtain⟨q,hq,rfl⟩:=aau.mp hp;exact S q hq
 .rwa[aaN,show((λx:Pt×Int=>x.1)∘λp:Pt=>(p,(0:Int)))=id from rfl,aeW]
 .obtain⟨q,hq,rfl⟩:=aau.mp hp;show(0:Int).natAbs<10^76;decide
def manyD:dL:=.tuple [.str "many",.str "stands"]
def BO:SpM:=λa K=>∃(h:Hall) (r:Rule),a=[.imm h.d,.imm r.d]/\DuOk h r 1/\(∀(F G:List Pt) (i:Nat),Cmg (scS h r) (z0 h) F i->F.length≤i->F.length<61->SrF F G->K (.new (G.map ptD)) [])/\∀(F:List Pt) (i:Nat),Cmg (scS h r) (z0 h) F i->60<F.length->K (.imm manyD) []
def oo:aaL "ValueError" = some (.type "ValueError"):=rfl
def small26:List (List Nat):=[[1],[6],[2,2],[3,1],[6,4],[1,2,1],[2,3,2],[1,1,1,1],[2,1,1,1],[3,2,3],[6,6]]
def bound26:List (List Nat):=[[4,3,2],[3,3,3],[5,4],[1,4,5],[5,5],[2,6,2]]
def wZ:BC small26:=by
 refine⟨by decide,by decide,?_⟩;decide
def wQ:BC bound26:=by
 refine⟨by decide,by decide,?_⟩;decide
def JU{q:Int}(h0:0≤q)(a:q<4):∃(r:Rule) (x:Str),atI [ags "random",.str "turns",.str "two",.str "random"] q=some (.str x)/\r.d = .tuple [.str x]/\r.Ok h:=by
 rcases (show q=0\/q=1\/q=2\/q=3 by omega)with z|z|z|z<;>rw[z]
 .exact⟨.random,"random",rfl,rfl,trivial⟩
 .exact⟨.turns,"turns",rfl,rfl,trivial⟩
 .exact⟨.two,"two",rfl,rfl,trivial⟩
 .exact⟨.random,"random",rfl,rfl,trivial⟩
def SrF.srd(s:SrF F G):Srd (F.map λp=>(p,(0:Int))) (G.map λp=>(p,(0:Int))):=⟨s.p.map _,by rw[aey];exact s.o⟩
def SrF.uniq{d c:List Pt}(S:∀p∈F,St h r p.1 p.2)(nd:F.Nodup)(n:F.length<64)(e:d.Perm F)(a:SrF F G)(b:SrF d c):c=G:=by
 have f:SrF F c:=⟨b.p.trans e,b.o⟩;have q:=congrArg (List.map (·.1)) (f.srd.uniq (Cg S nd n) a.srd);rwa[aaN,aaN,show((λx:Pt×Int=>x.1)∘λp:Pt=>(p,(0:Int)))=id from rfl,aeW,aeW]at q
def DQ(ho:h.Ok)(S:∀p∈F,St h r p.1 p.2)(n:F.length<64)(s:SrF F G):Fine 20000 4 (.list (G.map ptD)):=by
 refine Fine.mono (n':=20000) (k':=4) (yh (n:=200) (k:=2) (c:=64) (λd hd=>?_) (by rw[gE,s.p.length_eq];omega)) (by decide) (by decide);let⟨p,hp,rfl⟩:=aau.mp hd;exact tZ ho (S p (s.p.mem_iff.mp hp))
def r8:Fine 1000 2 manyD:=Fine.mono (n':=1000) (k':=2) (gW (n:=100) (k:=1) (c:=2) (λd hd=>by
 simp only[aaq,abf,or_false]at hd;rcases hd with rfl|rfl
 .exact⟨rfl,rfl,by decide +kernel,by decide +kernel⟩
 .exact⟨rfl,rfl,by decide +kernel,by decide +kernel⟩) (by decide)) (by decide) (by decide)
section
variable {P:aaA}{w:World}{K:Io}{mg:Str->Option oR}{base:aaR}
def ja(T:Bl K mg)(D:DefM K mg "greatest_divisor" cR ["one","other"]):FnM P w K mg base "greatest_divisor" 1 2 JO:=by
 refine ba D fj rfl (nN:=2) rfl (by decide) ?ar λg A outer s H E f hr=>⟨_,(mz' (fJ (av (vP hr.units) (mv' 1) mh' (aK _)) (aa (lj (i:=0) (j:=1) fj.nd rfl rfl (by decide) rfl rfl (mc' (mv' 1) (mc' (af dh (mv' 0) (mv' 1)) mn')) rfl)) aaF)
   (aa (al (mv' 0)))),?_⟩
 case ar=>intro e o ⟨a,b,rfl,_⟩;rfl
 intro e o u ⟨a,b,rfl,k⟩;refine ap (MSt.mk [some (.imm (.int a)),some (.imm (.int b))] [] 0) rfl ?_;ext s;refine jm (λn m=>∃x y:Nat,m=MSt.mk [some (.imm (.int x)),some (.imm (.int y))] [] 0/\x.gcd y=a.gcd b/\n=y) b ⟨a,b,rfl,rfl,rfl⟩ ?_;intro n m t ⟨x,y,rfl,c,rfl⟩;ext s;refine aG (λd=>?_) (λq=>?_)
 .have hy:0<n:=by omega
  ext s;have p:=ahl x hy;exact⟨x%n,p,n,x%n,rfl,by rw[agt,<-Nat.gcd_rec,agt,c],rfl⟩
 .have hy0:n=0:=by omega
  subst hy0;rw[ahq]at c;ext s;rw[c];exact k
theorem pc(T:Bl K mg)(D:DefM K mg "fraction_of" gJ ["top","bottom"])(c:FnM P w K mg base "greatest_divisor" 1 2 JO):FnM P w K mg base "fraction_of" 2 2 Df:=by
 refine ba D fM rfl (nN:=3) rfl (by decide) ?ar λn A outer s H E f hr=>⟨_,(mz' (bf (av (bW hr.units) (mv' 1) mh' (aK _)) (aa y0) aw)
   (mz' (bf (av gj (mv' 1) mh' (aK _)) (aa (lj (i:=0) (j:=1) fM.nd rfl rfl (by decide) rfl rfl (mc' (lH iA (mv' 0)) (mc' (lH iA (mv' 1)) mn')) rfl)) aw)
   (mz' (am 2 fM.nd (mf' c (hr.mono (by decide)) (mc' (au rf (by rfl) T.abs Ix (mc' (mv' 0) mn')) (mc' (mv' 1) mn'))))
   (aa (al (ai (mc' (af dm (mv' 0) (mv' 2)) (mc' (af dm (mv' 1) (mv' 2)) mn')))))))),?_⟩
 case ar=>intro m o ⟨a,b,rfl,_⟩;rfl
 intro m o p ⟨t,b,rfl,hb,q,e,k⟩;refine ap (MSt.mk [some (.imm (.int t)),some (.imm (.int b)),none] [] 0) rfl ?_;have g:0<t.natAbs.gcd b.natAbs:=abz _ (by omega);have d:t.natAbs.gcd b.natAbs<10^160:=aax (af3 _ (by omega)) e;unfold nf nfP at k;ext s;refine aG (λz=>absurd z hb) (λ_=>?_);ext s;refine aG (λz=>?_) (λz=>?_)
 .rw[if_pos z]at k;ext s;refine⟨t.natAbs,b.natAbs,by rw[show(if -t<0 then - -t else -t)=(t.natAbs:Int) by split<;>omega,show -b=(b.natAbs:Int) by omega],?_⟩;ext h;refine iW (cfdB g d) ?_;ext s;refine iW (cfdB g d) ?_;ext s;exact k
 .rw[if_neg z]at k;ext s;refine⟨t.natAbs,b.natAbs,by rw[show(if t<0 then -t else t)=(t.natAbs:Int) by split<;>omega,show(b.natAbs:Int)=b by omega],?_⟩;ext h;refine iW (cfdB g d) ?_;ext s;refine iW (cfdB g d) ?_;ext s;exact k
def ua(T:Bl K mg)(D:DefM K mg "taken_off" jG ["one","other"])(e:FnM P w K mg base "fraction_of" 2 2 Df):FnM P w K mg base "taken_off" 3 2 Qi:=by
 refine ba D sG rfl (nN:=2) rfl (by decide) ?ar λm A outer s H E f hr=>⟨_,(aa (al (mf' e (hr.mono (by decide)) (mc' (af AV (af aF (ae (mv' 0) mh') (ae (mv' 1) mh')) (af aF (ae (mv' 1) mh') (ae (mv' 0) mh'))) (mc' (af aF (ae (mv' 0) mh') (ae (mv' 1) mh')) mn'))))),?_⟩
 case ar=>intro j n ⟨a,b,c,d,rfl,_⟩;rfl
 intro j n o ⟨a,b,c,d,rfl,i,g,k⟩;refine ap (MSt.mk [some (.imm (.tuple [.int a,.int b])),some (.imm (.tuple [.int c,.int d]))] [] 0) rfl ?_;ext s;refine cX (gn (up45 i.ha) (up45 g.hb)) ?_;ext s;refine cX (gn (up45 g.ha) (up45 i.hb)) ?_;ext s;refine cX (gn (up45 i.hb) (up45 g.hb)) ?_;ext s;refine⟨_,_,rfl,BG i.hp g.hp,Tz (i9 i.ha g.hb) (i9 g.ha i.hb),yR (i9 i.hb g.hb),?_⟩;ext n;exact k
def Ap(T:Bl K mg)(D:DefM K mg "divided" ot ["one","other"])(e:FnM P w K mg base "fraction_of" 2 2 Df):FnM P w K mg base "divided" 3 2 Uo:=by
 refine ba D yt rfl (nN:=2) rfl (by decide) ?ar λm A outer s H E f hr=>⟨_,(aa (al (mf' e (hr.mono (by decide)) (mc' (af aF (ae (mv' 0) mh') (ae (mv' 1) mh')) (mc' (af aF (ae (mv' 0) mh') (ae (mv' 1) mh')) mn'))))),?_⟩
 case ar=>intro j n ⟨a,b,c,d,rfl,_⟩;rfl
 intro j n p ⟨a,b,c,d,rfl,g,i,o,k⟩;refine ap (MSt.mk [some (.imm (.tuple [.int a,.int b])),some (.imm (.tuple [.int c,.int d]))] [] 0) rfl ?_;ext s;refine cX (gn (up45 g.ha) (up45 i.hb)) ?_;ext s;refine cX (gn (up45 g.hb) (up45 i.ha)) ?_;ext s;refine⟨_,_,rfl,Int.mul_ne_zero (Int.ne_of_gt g.hp) o,yR (i9 g.ha i.hb),yR (i9 g.hb i.ha),?_⟩;ext n;exact k
def Bu(T:Bl K mg)(D:DefM K mg "is_less" pK ["one","other"]):FnM P w K mg base "is_less" 1 2 IE:=by
 refine ba D Ce rfl (nN:=2) rfl (by decide) ?ar λi A outer s H E f hr=>⟨_,(aa (al (om gj (af aF (ae (mv' 0) mh') (ae (mv' 1) mh')) (af aF (ae (mv' 1) mh') (ae (mv' 0) mh')) (aK _)))),?_⟩
 case ar=>intro g j ⟨a,b,c,d,rfl,_⟩;rfl
 intro g j m ⟨a,b,c,d,rfl,ha,hb,n,hd,k⟩;refine ap (MSt.mk [some (.imm (.tuple [.int a,.int b])),some (.imm (.tuple [.int c,.int d]))] [] 0) rfl ?_;ext s;have e:decide ((a:Int)*(d:Int)<(c:Int)*(b:Int))=decide (a*d<c*b):=by
  rw[<-aaJ,<-aaJ];exact decide_eq_decide.mpr agu
 rw[e];exact k
def lM(T:Bl K mg)(D:DefM K mg "on_one_bottom" c6 ["pairs"])(c:FnM P w K mg base "greatest_divisor" 1 2 JO):FnM P w K mg base "on_one_bottom" 2 1 vJ:=by
 refine ba D bX rfl (nN:=4) rfl (by decide) ?ar λI A outer s H E f hr=>⟨_,(mz' (dj (i:=1) bX.nd rfl (adg rfl) mh')
   (mz' (bJ (bI (mv' 0)) (bv (n:=2) (ah (ay 2 bX.nd) (ah (ay 3 bX.nd) bh))) (aa (dj (i:=1) bX.nd rfl (adg rfl) (af aF (mv' 1) (af dm (ae (mv' 3) mh') (mf' c (hr.mono (by decide)) (mc' (mv' 1) (mc' (ae (mv' 3) mh') mn'))))))) aaF)
   (aa (al (ai (mc' (fU (cG (own:=["thing","fraction"]) (fr:=["bottom"]) (ps:=[1]) (sc:=(ac c6)) (by exact⟨rfl,by decide +kernel,by decide +kernel,by decide +kernel,by decide +kernel⟩) (bI (mv' 0)) (λ_ _ _ _ _=>(bv (n:=2) (ah (ay 0 (show ach ((["thing","fraction"]:List Str)++(["bottom"]:List Str))from by decide +kernel)) (ah (ay 1 (show ach ((["thing","fraction"]:List Str)++(["bottom"]:List Str))from by decide +kernel)) bh)))) (λ_ _ _ _ _=>cZ) (λ_ _ _ _ _=>(ai (mc' (mv' 0) (mc' (af aF (ae (mv' 1) mh') (af dm (mv' 2) (ae (mv' 1) mh'))) mn')))))) (mc' (mv' 1) mn'))))))),?_⟩
 case ar=>intro C t ⟨L,B,rfl,_⟩;rfl
 intro C t O ⟨L,B,rfl,g,k⟩;refine ap (MSt.mk [some (.imm (.list (prsD L))),none,none,none] [] 0) rfl ?_;ext s;refine cb (λi m=>∃a b:Option L2.R,m=MSt.mk [some (.imm (.list (prsD L))),some (.imm (.int (botL (L.take i):Int))),a,b] [] 0) ⟨none,none,rfl⟩ ?_ ?_
 .rintro i d m e hnp ⟨a,b,rfl⟩ D1 hD1 hR1;let⟨p,j,rfl,x⟩:=gmap e;have hp:=g.d p (GE j);have hb:=g.pre i;ext s
  .rfl
  ext s;refine⟨botL (L.take i),p.2.2,rfl,?_⟩;have u:0<(botL (L.take i)).gcd p.2.2:=abz _ hp.1;have v:(botL (L.take i)).gcd p.2.2≤botL (L.take i):=Nat.gcd_le_left _ hb.1;have q:p.2.2<10^76:=aax (afQ g.b0 hp.2.1) g.b;ext x;refine iW (cfdB u (aax v (abc hb.2 (by decide)))) ?_;rw[<-Int.natCast_ediv];refine cX (gn (by rw[abx];exact abc hb.2 (by decide)) (by rw[abx];exact aax (adr _ _) (abc q (by decide)))) ?_;have y:botL (L.take (i+1))=botL (L.take i)*(p.2.2/(botL (L.take i)).gcd p.2.2):=by
   rw[ab2,j,<-L7 _ _ hp.1];exact Bj _ _
  ext s;refine hD1 _ (show ∃a b:Option L2.R,_=MSt.mk [some (.imm (.list (prsD L))),some (.imm (.int (botL (L.take (i+1)):Int))),a,b] [] 0 from⟨some (.imm p.1),some (.imm (.tuple [.int p.2.1,.int (p.2.2:Int)])),?_⟩);rw[y,aaJ];rfl
 .rintro m hnp ⟨a,b,rfl⟩;have z:L.take (prsD L).length=L:=by unfold prsD;rw[gE];exact aae
  have M:1≤botL L/\botL L<10^76:=by have:=g.pre L.length;rwa[aae]at this
  rw[z];ext s;refine cb (λi m=>∃a b:Option L2.R,m=MSt.mk [a,b,some (.imm (.int (botL L:Int)))] [(onB L).take i] 1) ⟨none,none,rfl⟩ ?_ ?_
  .rintro i d m e hnp ⟨a,b,rfl⟩ D1 hD1 hR1;let⟨p,j,rfl,x⟩:=gmap e;have hp:=g.d p (GE j);have N:=g.n;have q:p.2.2<10^76:=aax (afQ g.b0 hp.2.1) g.b;ext s
   .rfl
   ext s;refine iW (cfdB hp.1 (abc q (by decide))) ?_;rw[<-Int.natCast_ediv];refine cX (gn (abc hp.2.2 (by decide)) (by rw[abx];exact aax (adr _ _) (abc M.2 (by decide)))) ?_;ext x;refine⟨_,rfl,by rw[aaG,aaj];omega,hD1 _ ⟨some (.imm p.1),some (.imm (.tuple [.int p.2.1,.int (p.2.2:Int)])),?_⟩⟩;have J:(onB L)[i]?=some (.tuple [p.1,.int (p.2.1*((botL L/p.2.2:Nat):Int))]):=by unfold onB;rw[aaa,j];rfl
   rw[ab2,J];rfl
  .rintro m hnp ⟨a,b,rfl⟩;have o:(onB L).take (prsD L).length=onB L:=by
    have:(prsD L).length=(onB L).length:=by unfold prsD onB;rw[gE,gE]
    rw[this];exact aae
   rw[o];ext x;exact k
theorem jX(T:Bl K mg)(D:DefM K mg "place_of_lines" d8 ["hall","lines"]):FnM P w K mg base "place_of_lines" 1 2 Cj:=by
 refine ba D bR rfl (nN:=5) rfl (by decide) ?ar λq A outer s H E f hr=>⟨_,(mz' (am 2 bR.nd mh')
   (mz' (bJ (LL T.zip (mc' (mv' 1) (mc' (ae (mv' 0) mh') mn'))) (bv (n:=2) (ah (ay 3 bR.nd) (ah (ay 4 bR.nd) bh))) (aa (am 2 bR.nd (af aY (af aF (mv' 2) (af aY (ae (mv' 4) mh') mh')) (mv' 3)))) aaF)
   (aa (al (mv' 2))))),?_⟩
 case ar=>intro p t ⟨h,l,rfl,_⟩;rfl
 intro p t v ⟨h,l,rfl,ho,j,k⟩;refine ap (MSt.mk [some (.imm (.tuple [.tuple [.int h.a,.int h.b],.tuple (h.ss.map Srv.d),.bool h.mv])),some (.imm (.tuple (natD l))),none,none,none] [] 0) rfl ?_;ext s;refine⟨true,_,true,_,rfl,rfl,?_⟩;refine fq (λi m=>∃a b,m=MSt.mk [some (.imm (.tuple [.tuple [.int h.a,.int h.b],.tuple (h.ss.map Srv.d),.bool h.mv])),some (.imm (.tuple (natD l))),some (.imm (.int (M7.placeF 0 (h.rs.take i) (l.take i):Nat))),a,b] [] 0) ⟨none,none,rfl⟩ ?_ ?_
 .rintro i d m e n ⟨a,b,rfl⟩;let⟨a1,b1,c,g,rfl⟩:=JT e;let⟨x,ex,rfl,z⟩:=gmap c;let⟨s,o,rfl,y⟩:=gmap g;have r6:=(ho.ok s (GE o)).r6;rw[M7.placeF_take (Hall.rs_get o) ex];ext g
  .rfl
  ext s;generalize M7.placeF 0 (h.rs.take i) (l.take i)=P;have u:(P:Int)*((s.r:Int)+1)+(x:Int)=((P*(s.r+1)+x:Nat):Int):=by
   rw[acx,aaJ,acx];rfl
  rw[u];exact⟨_,_,rfl⟩
 .rintro m n ⟨a,b,rfl⟩;have c:min (natD l).length (h.ss.map Srv.d).length=l.length:=by rw[aA,gE];have:=j.1;omega
  rw[fV,c];have g:h.rs.take l.length=h.rs:=by rw[j.1,<-h.rsl];exact aae
  rw[g,aae];ext s;exact k
theorem jU(T:Bl K mg)(D:DefM K mg "first_shortest" dU ["lines","order"]):FnM P w K mg base "first_shortest" 1 2 na:=by
 refine ba D cw rfl (nN:=4) rfl (by decide) ?ar λt A outer s H E f hr=>⟨_,(mz' (am 2 cw.nd (ae (mv' 1) mh'))
   (mz' (bJ (bI (mv' 1)) (ay 3 cw.nd) (aa (bf (av gj (ae (mv' 0) (mv' 3)) (ae (mv' 0) (mv' 2)) (aK _)) (aa (am 2 cw.nd (mv' 3))) aw)) aaF)
   (aa (al (mv' 2))))),?_⟩
 case ar=>intro q u ⟨l,o,rfl,_⟩;rfl
 intro q u y ⟨l,o,rfl,g,k⟩;let⟨c,os,rfl,h0⟩:=g.cons;refine ap (MSt.mk [some (.imm (.tuple (natD l))),some (.imm (.tuple (natD (c::os)))),none,none] [] 0) rfl ?_;ext s;refine aH (aE (j:=0) (aI rfl)) ?_;ext s;refine fq (λi m=>∃a,m=MSt.mk [some (.imm (.tuple (natD l))),some (.imm (.tuple (natD (c::os)))),some (.imm (.int (M7.pick (bx l) c ((c::os).take i):Nat))),a] [] 0) ⟨none,rfl⟩ ?_ ?_
 .rintro i d m e n ⟨a,rfl⟩;let⟨j,p,rfl,z⟩:=gmap e;have x:=g.lt j (GE p);have hb:M7.pick (bx l) c ((c::os).take i)<l.length:=gN g i;have v:(c::os).take (i+1)=(c::os).take i++[j]:=by rw[aaX,p];rfl
  rw[v,M7.pick_app];generalize M7.pick (bx l) c ((c::os).take i)=b at hb;ext s;refine aH (aE (aI (getN rfl x))) ?_;ext s;refine aH (aE (aI (getN rfl hb))) ?_;ext s;refine aG (λh=>?_) (λh=>?_)
  .ext s;rw[if_pos (show bx l j b=true from decide_eq_true (by omega))];exact⟨_,rfl⟩
  .ext s;rw[if_neg (show ¬bx l j b=true by unfold bx;rw[decide_eq_true_eq];omega)];exact⟨_,rfl⟩
 .rintro m n ⟨a,rfl⟩;rw[aA,aae];ext s;exact k
theorem AK(T:Bl K mg)(D:DefM K mg "wait_at" ow ["hall","lines","line"]):FnM P w K mg base "wait_at" 1 3 Je:=by
 refine ba D kZ rfl (nN:=5) rfl (by decide) ?ar λc A outer s H E f hr=>⟨_,(mz' (cQ (ae (ae (ae (mv' 0) mh') (mv' 2)) mh') (bv (n:=2) (ah (ay 3 kZ.nd) (ah (ay 4 kZ.nd) bh))))
   (aa (al (ai (mc' (af aF (af aY (ae (mv' 1) (mv' 2)) mh') (mv' 4)) (mc' (mv' 3) mn')))))),?_⟩
 case ar=>intro b g ⟨h,l,j,rfl,_⟩;rfl
 intro b g t ⟨h,l,j,rfl,ho,i,a,k⟩;let⟨s,q,p,eb,hs⟩:=h.srv a;have m:=ho.ok s hs;have b2:=m.b2;rw[p,eb]at k;have o:=getN i.1 a;refine ap (MSt.mk [some (.imm (.tuple [.tuple [.int h.a,.int h.b],.tuple (h.ss.map Srv.d),.bool h.mv])),some (.imm (.tuple (natD l))),some (.imm (.int (j:Int))),none,none] [] 0) rfl ?_;ext s;refine aH (d:=s.d) (aE (by rw[aaa,q];rfl)) ?_;ext g
 .rfl
 ext s;refine aH (aE (aI o)) ?_;ext s;have e:(((l.getD j 0:Nat):Int)+1)*(s.b:Int)=(((l.getD j 0+1)*s.b:Nat):Int):=by
  rw[aaJ,acx];rfl
 rw[e];exact k
theorem jR(T:Bl K mg)(D:DefM K mg "first_quickest" dH ["hall","lines","order"])(c:FnM P w K mg base "wait_at" 1 3 Je)(p:FnM P w K mg base "is_less" 1 2 IE):FnM P w K mg base "first_quickest" 2 3 jp:=by
 refine ba D bA rfl (nN:=7) rfl (by decide) ?ar λL A outer s H E f hr=>⟨_,(mz' (am 3 bA.nd (ae (mv' 2) mh'))
   (mz' (am 4 bA.nd (mf' c (hr.mono (by decide)) (mc' (mv' 0) (mc' (mv' 1) (mc' (mv' 3) mn')))))
   (mz' (bJ (bI (mv' 2)) (ay 5 bA.nd) (mz' (am 6 bA.nd (mf' c (hr.mono (by decide)) (mc' (mv' 0) (mc' (mv' 1) (mc' (mv' 5) mn')))))
   (aa (bf (iK (mf' p (hr.mono (by decide)) (mc' (mv' 6) (mc' (mv' 4) mn')))) (aa (lj (i:=3) (j:=4) bA.nd rfl rfl (by decide) rfl rfl (mc' (mv' 5) (mc' (mv' 6) mn')) rfl)) aw))) aaF)
   (aa (al (mv' 3)))))),?_⟩
 case ar=>intro J B ⟨h,l,o,rfl,_⟩;rfl
 intro J B S ⟨h,l,o,rfl,ho,u,v,k⟩;let⟨g,os,rfl,h0⟩:=v.cons;have z:∀j,j<h.ss.length->(l.getD j 0+1)*h.bn j<1000000000000/\h.an j<1000000000000:=λj t=>by
  let⟨s,Q,N,eb,hs⟩:=h.srv t;have y:=ho.ok s hs;have R:=u.le ho _ (GE (getN u.1 t));rw[N,eb];have:=y.a2;have:(l.getD j 0+1)*s.b≤7*1000000:=abG (by omega) (by have:=y.b2;omega);omega
 refine ap (MSt.mk [some (.imm h.d),some (.imm (.tuple (natD l))),some (.imm (.tuple (natD (g::os)))),none,none,none,none] [] 0) rfl ?_;ext s;refine aH (aE (j:=0) (aI rfl)) ?_;ext s;refine⟨h,l,g,rfl,ho,u,h0,?_⟩;ext x;refine fq (λi m=>∃a b,m=MSt.mk [some (.imm h.d),some (.imm (.tuple (natD l))),some (.imm (.tuple (natD (g::os)))),some (.imm (.int (M7.pick (bO h l) g ((g::os).take i):Nat))),some (.imm (frD ((l.getD (M7.pick (bO h l) g ((g::os).take i)) 0+1)*h.bn (M7.pick (bO h l) g ((g::os).take i)):Nat) (h.an (M7.pick (bO h l) g ((g::os).take i)):Nat))),a,b] [] 0) ⟨none,none,rfl⟩ ?_ ?_
 .rintro i d m e n ⟨a,b,rfl⟩;let⟨j,x,rfl,O⟩:=gmap e;have t:=v.lt j (GE x);have hb:M7.pick (bO h l) g ((g::os).take i)<h.ss.length:=gN v i;have M:(g::os).take (i+1)=(g::os).take i++[j]:=by rw[aaX,x];rfl
  rw[M,M7.pick_app];generalize M7.pick (bO h l) g ((g::os).take i)=b at hb;ext s;refine⟨h,l,j,rfl,ho,u,t,?_⟩;ext x;let⟨b1,b2⟩:=z j t;let⟨C,I⟩:=z b hb;refine⟨_,_,_,_,rfl,b1,b2,C,I,?_⟩;ext x;refine aG (λq=>?_) (λq=>?_)
  .ext s;rw[if_pos (show bO h l j b=true from decide_eq_true q)];exact⟨_,_,rfl⟩
  .ext s;rw[if_neg (show ¬bO h l j b=true by unfold bO;rw[decide_eq_true_eq];exact q)];exact⟨_,_,rfl⟩
 .rintro m n ⟨a,b,rfl⟩;rw[aA,aae];ext s;exact k
theorem Bh(T:Bl K mg)(D:DefM K mg "sent_to" o8 ["hall","rule","stand","order"])(a:FnM P w K mg base "first_shortest" 1 2 na)(c:FnM P w K mg base "first_quickest" 2 3 jp)(b:FnM P w K mg base "place_of_lines" 1 2 Cj):FnM P w K mg base "sent_to" 3 4 kg:=by
 refine ba D iZ rfl (nN:=7) rfl (by decide) ?ar λB A outer s H E f hr=>⟨_,(mz' (cQ (mv' 2) (bv (n:=2) (ah (ay 4 iZ.nd) (ah (ay 5 iZ.nd) bh))))
   (mz' (am 6 iZ.nd (ae (mv' 1) mh'))
   (mz' (bf (av (bW hr.units) (mv' 6) aC (aK _)) (aa (al (ae (mv' 3) mh'))) aw)
   (mz' (bf (av (bW hr.units) (mv' 6) aC (aK _)) (aa (al (mv' 5))) aw)
   (mz' (bf (av (bW hr.units) (mv' 6) aC (aK _)) (aa (al (mf' a (hr.mono (by decide)) (mc' (mv' 4) (mc' (fU (cN f8 (mv' 3) dq (dB mh'))) mn'))))) aw)
   (mz' (bf (av (bW hr.units) (mv' 6) aC (aK _)) (aa (al (mf' a (hr.mono (by decide)) (mc' (mv' 4) (mc' (mv' 3) mn'))))) aw)
   (mz' (bf (av (bW hr.units) (mv' 6) aC (aK _)) (aa (al (mf' c (hr.mono (by decide)) (mc' (mv' 0) (mc' (mv' 4) (mc' (mv' 3) mn')))))) aw)
   (aa (al (ae (ae (mv' 1) mh') (mf' b (hr.mono (by decide)) (mc' (mv' 0) (mc' (mv' 4) mn'))))))))))))),?_⟩
 case ar=>intro x C ⟨h,r,l,t,o,rfl,_⟩;rfl
 intro x C I ⟨h,r,l,t,o,rfl,ho,m,i,g,k⟩;have p:=i.1;have d:Ord l.length o:=by rw[p];exact g
 cases r with
 |random=>
  refine ap (MSt.mk [some (.imm h.d),some (.imm (.tuple [.str "random"])),some (.imm (.tuple [lnD l,.int (t:Int)])),some (.imm (.tuple (natD o))),none,none,none] [] 0) rfl ?_;ext s
  .rfl
  ext s;ext f;let⟨v,os,rfl,h0⟩:=g.cons;ext s;refine aH (aE (j:=0) (aI rfl)) ?_;ext s;exact k
 |turns=>
  refine ap (MSt.mk [some (.imm h.d),some (.imm (.tuple [.str "turns"])),some (.imm (.tuple [lnD l,.int (t:Int)])),some (.imm (.tuple (natD o))),none,none,none] [] 0) rfl ?_;ext s
  .rfl
  ext s;ext b;exact k
 | two=>
  refine ap (MSt.mk [some (.imm h.d),some (.imm (.tuple [.str "two"])),some (.imm (.tuple [lnD l,.int (t:Int)])),some (.imm (.tuple (natD o))),none,none,none] [] 0) rfl ?_;ext s
  .rfl
  ext a;ext f;ext s;have e:cutD (natD o) none (some 2)=natD (o.take 2):=by
   rw[show(2:Int)=((2:Nat):Int)from rfl,ko];simp[natD]
  rw[e];let⟨v,os,rfl,h0⟩:=g.cons;refine⟨l,(v::os).take 2,rfl,⟨by simp,λk y=>d.lt k (abW y),by rw[aaG];omega⟩,?_⟩;ext n;exact k
 |least=>
  refine ap (MSt.mk [some (.imm h.d),some (.imm (.tuple [.str "least"])),some (.imm (.tuple [lnD l,.int (t:Int)])),some (.imm (.tuple (natD o))),none,none,none] [] 0) rfl ?_;ext s
  .rfl
  ext a;ext b;refine⟨l,o,rfl,d,?_⟩;ext n;exact k
 |quick=>
  refine ap (MSt.mk [some (.imm h.d),some (.imm (.tuple [.str "quick"])),some (.imm (.tuple [lnD l,.int (t:Int)])),some (.imm (.tuple (natD o))),none,none,none] [] 0) rfl ?_;ext s
  .rfl
  ext a;ext c;ext s;ext b;refine⟨h,l,o,rfl,ho,i,g,?_⟩;ext n;exact k
 |told u=>
  refine ap (MSt.mk [some (.imm h.d),some (.imm (.tuple [.str "told",.tuple (natD u)])),some (.imm (.tuple [lnD l,.int (t:Int)])),some (.imm (.tuple (natD o))),none,none,none] [] 0) rfl ?_;ext s
  .rfl
  ext a;ext c;ext a;refine⟨h,l,rfl,ho,i,?_⟩;ext n;have q:M7.placeF 0 h.rs l<u.length:=by rw[m.1,M7.allR_cnt];exact M7.place_lt i.fits
  refine aH (aE (aI (getN rfl q))) ?_;exact k
theorem oA(T:Bl K mg)(D:DefM K mg "first_stand" gF ["hall"]):FnM P w K mg base "first_stand" 1 1 zT:=by
 refine ba D nR rfl (nN:=1) rfl (by decide) ?ar λc A outer s H E f hr=>⟨_,(aa (al (ai (mc' (af aF (ai (mc' mh' mn')) (au aW (by rfl) T.len cg (mc' (ae (mv' 0) mh') mn'))) (mc' mh' mn'))))),?_⟩
 case ar=>intro a b ⟨h,rfl,_⟩;rfl
 intro a b d ⟨h,rfl,ho,k⟩;have n1:=ho.n1;have n4:=ho.n4;refine ap (MSt.mk [some (.imm (.tuple [.tuple [.int h.a,.int h.b],.tuple (h.ss.map Srv.d),.bool h.mv]))] [] 0) rfl ?_;ext s;rw[gE];refine IX (by omega) (by omega) (by simp;omega) ?_;ext s;have e:(aap ((h.ss.length:Nat):Int).toNat [abC 0]).flatten=natD (zer h):=by
  rw[aaW];simp[zer,natD]
 rw[e];exact k
theorem qR(T:Bl K mg)(D:DefM K mg "all_orders" fQ ["hall"]):FnM P w K mg base "all_orders" 1 1 Iy:=by
 refine ba D db rfl (nN:=4) rfl (by decide) ?ar λU A outer s H E f hr=>⟨_,(mz' (dj (i:=1) db.nd rfl (adg rfl) (au aW (by rfl) T.len cg (mc' (ae (mv' 0) mh') mn')))
   (mz' (am 2 db.nd (bZ (mc' (ai mn') mn')))
   (mz' (bJ (ce (by rfl) T.range (mc' (mv' 1) mn')) (ay 3 db.nd) (aa (zO (i:=2) (own:=["ahead","line"]) (fr:=["many"]) (ps:=[1]) (sc:=(ac fQ)) (by exact⟨rfl,by decide +kernel,by decide +kernel,by decide +kernel,by decide +kernel⟩) db.nd rfl rfl (bI (mv' 2)) (λ_ _ _ _ _=>(ay 0 (show ach ((["ahead","line"]:List Str)++(["many"]:List Str))from by decide +kernel))) (λ_ _ _ _ _=>cZ) (λ_ _ _ _ _=>(ce (by rfl) T.range (mc' (mv' 2) mn'))) (λ_ _ _ _ _=>(ay 1 (show ach ((["ahead","line"]:List Str)++(["many"]:List Str))from by decide +kernel))) (λ_ _ _ _ _=>(vj (av (k8 hr.units) (mv' 1) (mv' 0) (by with_unfolding_all rfl)))) (λ_ _ _ _ _=>(af aY (mv' 0) (ai (mc' (mv' 1) mn')))))) aaF)
   (aa (al (mv' 2)))))),?_⟩
 case ar=>intro O V ⟨h,rfl,_⟩;rfl
 intro O V Z ⟨h,rfl,ho,k⟩;have n1:=ho.n1;have n4:=ho.n4;refine ap (MSt.mk [some (.imm (.tuple [.tuple [.int h.a,.int h.b],.tuple (h.ss.map Srv.d),.bool h.mv])),none,none,none] [] 0) rfl ?_;ext s;ext d;rw[gE];ext e;rw[aaW];refine fq (λi m=>∃a,m=MSt.mk [some (.imm (.tuple [.tuple [.int h.a,.int h.b],.tuple (h.ss.map Srv.d),.bool h.mv])),some (.imm (.int (h.ss.length:Nat))),some (.obj 0),a] [(ordK h.ss.length i).map lnD] 0) ⟨none,rfl⟩ ?_ ?_
 .rintro i d m e n ⟨a,rfl⟩;let⟨hi,rfl⟩:=cJ e;let⟨v,o⟩:=cE h.ss.length n4 i (by omega);have t:=iw h.ss.length n4 i (by omega);rw[show ordK h.ss.length (i+1)=iE h.ss.length (ordK h.ss.length i)from rfl];generalize ordK h.ss.length i=os at v o t;ext s;ext n;refine jk (λz m=>∃b c,m=MSt.mk [b,c,some (.imm (.int (h.ss.length:Nat)))] [os.map lnD,(iE h.ss.length (os.take z)).map lnD] 2) ⟨none,none,rfl⟩ ?_ ?_ ?_
  .rintro z m ⟨b,c,rfl⟩;rfl
  .rintro z d m ez nz ⟨b,c,rfl⟩;let⟨l,J,rfl,Y⟩:=gmap ez;let⟨S,W⟩:=o l (GE J);have R:=(DL.mp J).1;have L:=t z (by omega);ext s;ext e;rw[aaW];let⟨G,p⟩:∃G:Nat->List (List Nat),G=λy=>iE h.ss.length (os.take z)++((aaB y).filter λq=>!l.contains q).map λq=>l++[q]:=⟨_,rfl⟩;have B:G 0=iE h.ss.length (os.take z):=by rw[p];simp
   have u:G h.ss.length=iE h.ss.length (os.take (z+1)):=by rw[p,mH J]
   have g:∀y,G (y+1)=G y++([y].filter λq=>!l.contains q).map λq=>l++[q]:=λy=>by
    rw[p];show _++((aaB (y+1)).filter _).map _=_;rw[ac2,ahr,aaE,act]
   have C:∀y,y≤4->(G y).length≤28:=λy Q=>by
    rw[p];dsimp only;rw[aat,gE];have:=aeC (λq=>!l.contains q) (aaB y);rw[abg]at this;omega
   clear p;rw[<-B];refine cb (λy m=>∃c,m=MSt.mk [some (.imm (lnD l)),c,some (.imm (.int (h.ss.length:Nat)))] [os.map lnD,(G y).map lnD] 2) ⟨c,rfl⟩ ?_ ?_
   .rintro y d m ey ny ⟨c,rfl⟩ D1 hD1 hR1;let⟨Q,rfl⟩:=cJ ey;rw[show(0:Int)+(y:Int)=((y:Nat):Int) by omega];have M:=C y (by omega);have I:(natD l).any (λx=>aar x (.int (y:Int)))=l.contains y:=by
     rw[ab6,aga,agG];constructor
     .rintro⟨x,hx,ex⟩;let⟨w,N,rfl⟩:=aau.mp hx;rw[ck]at ex;rw[<-of_decide_eq_true ex];exact N
     .intro hm;exact⟨_,aau.mpr ⟨y,hm,rfl⟩,by rw[ck];exact decide_eq_true rfl⟩
    ext s;refine x_in (d:=.int (y:Int)) (ds:=natD l) rfl (.inr rfl) (fW _) (gf l) (by decide) ?_;ext s;rw[I]
    cases hc:l.contains y with
    |true=>
     refine iq ?_;ext s;refine hD1 _ ⟨some (.imm (.int (y:Int))),?_⟩;rw[g,show([y].filter λq=>!l.contains q)=[] by rw[aeM,hc];rfl,aer,aaO];rfl
    |false=>
     refine lw ?_;ext s;refine lq (by rw[aaj,aA];simp;omega) ?_;ext s;refine⟨_,rfl,by rw[aaj,gE];omega,hD1 _ ⟨some (.imm (.int (y:Int))),?_⟩⟩;rw[g,show([y].filter λq=>!l.contains q)=[y] by rw[aeM,hc];rfl,aaE];simp[lnD,natD,MSt.setV]
   .rintro m ny ⟨c,rfl⟩;rw[aP,u];ext s;exact⟨_,_,rfl⟩
  .rintro m nz ⟨b,c,rfl⟩;rw[gE,aae];ext n;refine mh (k:=0) rfl (Ge _) (λj X=>?_) ⟨_,rfl⟩
   match j with
   |0|1|3=>exact λz=>by cases z
   |2=>exact(X rfl).elim
   |n+4=>exact λz=>by cases z
 .rintro m n ⟨a,rfl⟩;rw[aP];ext s;exact k
theorem t7(T:Bl K mg)(D:DefM K mg "with_more" jJ ["lines","line","more"]):FnM P w K mg base "with_more" 1 3 jM:=by
 refine ba D sU rfl (nN:=3) rfl (by decide) ?ar λg A outer s H E f hr=>⟨_,(aa (al (af aY (af aY (cN f8 (mv' 0) dq (dB (mv' 1))) (ai (mc' (af aY (ae (mv' 0) (mv' 1)) (mv' 2)) mn'))) (cN f8 (mv' 0) (dB (af aY (mv' 1) mh')) dq)))),?_⟩
 case ar=>intro b i ⟨l,j,d,x,rfl,_⟩;rfl
 intro b i n ⟨l,j,d,x,rfl,a,c,m,k⟩;refine ap (MSt.mk [some (.imm (.tuple (natD l))),some (.imm (.int (j:Int))),some (.imm (.int d))] [] 0) rfl ?_;ext s;refine aH (aE (aI (getN rfl a))) ?_;ext s;rw[m,ko];refine lq (by rw[aaj,aaG,aA];simp;omega) ?_;ext s;rw[show(j:Int)+1=((j+1:Nat):Int)from rfl,kM];refine lq (by rw[aaj,aat,aaG,aeF,aA];simp;omega) ?_;ext s;have e:(natD l).take j++[.int (x:Int)]++(natD l).drop (j+1)=natD (l.set j x):=by
  rw[<-vM,aek,if_pos (by rw[aA];exact a)];simp
 rw[e];exact k
theorem yJ(T:Bl K mg)(D:DefM K mg "come_to" nH ["hall","lines","line"])(a:FnM P w K mg base "with_more" 1 3 jM):FnM P w K mg base "come_to" 2 3 IB:=by
 refine ba D Bx rfl (nN:=3) rfl (by decide) ?ar λn A outer s H E f hr=>⟨_,(mz' (bf (av (bW hr.units) (ae (mv' 1) (mv' 2)) (ae (ae (ae (mv' 0) mh') (mv' 2)) mh') (aK _)) (aa (al (ai (mc' (mv' 1) (mc' aC mn'))))) aw)
   (aa (al (ai (mc' (mf' a (hr.mono (by decide)) (mc' (mv' 1) (mc' (mv' 2) (mc' mh' mn')))) (mc' aC mn')))))),?_⟩
 case ar=>intro m o ⟨h,l,j,rfl,_⟩;rfl
 intro m o q ⟨h,l,j,rfl,ho,p,g,k⟩;have b:=p.1;have n4:=ho.n4;let⟨s,i,t,eb,hs⟩:=h.srv g;have c:h.rn j=s.r:=bj (Hall.rs_get i);refine ap (MSt.mk [some (.imm (.tuple [.tuple [.int h.a,.int h.b],.tuple (h.ss.map Srv.d),.bool h.mv])),some (.imm (.tuple (natD l))),some (.imm (.int (j:Int)))] [] 0) rfl ?_;ext s;refine aH (aE (aI (getN b g))) ?_;ext s;refine aH (d:=s.d) (aE (by rw[aaa,i];rfl)) ?_;ext g;refine aG (λz=>?_) (λz=>?_)
 .ext s;have e:fE h l j=(l,.away):=if_pos (by rw[c];omega);rw[e]at k;exact k
 .ext s;refine⟨l,j,1,l.getD j 0+1,rfl,by omega,by omega,rfl,?_⟩;ext x;have e:fE h l j=(l.set j (l.getD j 0+1),.taken):=if_neg (by rw[c];omega);rw[e]at k;exact k
theorem BJ(T:Bl K mg)(D:DefM K mg "done_at" oi ["lines","line"])(a:FnM P w K mg base "with_more" 1 3 jM):FnM P w K mg base "done_at" 2 2 Ia:=by
 refine ba D Bt rfl (nN:=2) rfl (by decide) ?ar λg A outer s H E f hr=>⟨_,(mz' (bf (av (bW hr.units) (ae (mv' 0) (mv' 1)) mh' (aK _)) (aa (al (ai (mc' (mv' 0) (mc' aC mn'))))) aw)
   (aa (al (ai (mc' (mf' a (hr.mono (by decide)) (mc' (mv' 0) (mc' (mv' 1) (mc' (lH iA mh') mn')))) (mc' aC mn')))))),?_⟩
 case ar=>intro d i ⟨l,j,rfl,_⟩;rfl
 intro d i m ⟨l,j,rfl,c,b,k⟩;refine ap (MSt.mk [some (.imm (.tuple (natD l))),some (.imm (.int (j:Int)))] [] 0) rfl ?_;ext s;refine aH (aE (aI (getN rfl c))) ?_;ext s;refine aG (λz=>?_) (λz=>?_)
 .ext s;have e:d6 l j=(l,.none):=if_pos (by omega);rw[e]at k;exact k
 .ext s;refine⟨l,j,-1,l.getD j 0-1,rfl,c,b,by omega,?_⟩;ext x;have e:d6 l j=(l.set j (l.getD j 0-1),.served):=if_neg (by omega);rw[e]at k;exact k
theorem qz(T:Bl K mg)(D:DefM K mg "next_shift" iC ["hall","lines"]):FnM P w K mg base "next_shift" 1 2 zp:=by
 refine ba D rJ rfl (nN:=2) rfl (by decide) ?ar λI A outer s H E f hr=>⟨_,(mz' (bf (EW.pt (IG (Ac (iK (ae (mv' 0) mh'))) (IG (av (k8 hr.units) mh' (mv' 1) (by with_unfolding_all rfl)) (Jl (av gj (au (gV rfl) (by rfl) T.max u8 (mc' (mv' 1) mn')) mh' (aK _)))))) (aa (al oO)) aw)
   (aa (al (ai (mc' (vg acm add (h8 hr.units) (mv' 1) (mc' (au (gV rfl) (by rfl) T.max u8 (mc' (mv' 1) mn')) mn')) (mc' (vg acm add (h8 hr.units) (mv' 1) (mc' mh' mn')) mn')))))),?_⟩
 case ar=>intro B J ⟨h,l,rfl,_⟩;rfl
 intro B J M ⟨h,l,rfl,o,C,k⟩;have b:dQ (natD l)=some (l.map λ(x:Nat)=>(x:Int)):=by
  have:=f7 (l.map λ(x:Nat)=>(x:Int));rwa[aaN]at this
 have g:(l.map λ(x:Nat)=>(x:Int))≠[]:=λz=>o (ag8.mp z);have c:∀x:Int,x∈(l.map λ(x:Nat)=>(x:Int))->(∀y∈(l.map λ(x:Nat)=>(x:Int)),y≤x)->x=(maxN l:Int):=λx m a=>by
  let⟨n,L,rfl⟩:=aau.mp m;have O:=sJ n L;have N:=a (maxN l:Int) (aau.mpr ⟨maxN l,iX o,rfl⟩);omega
 have t:(natD l).any (λy=>aar y (.int 0))=decide (0∈l):=by
  rw[ab6];rw[aga,decide_eq_true_eq];constructor
  .rintro⟨y,a,e⟩;let⟨x,m,rfl⟩:=aau.mp a;have u:=ck x 0;rw[show((0:Nat):Int)=0 from rfl,e]at u;have:x=0:=of_decide_eq_true u.symm;rw[<-this];exact m
  .intro h0;exact⟨.int 0,aau.mpr ⟨0,h0,rfl⟩,ck 0 0⟩
 refine ap (MSt.mk [some (.imm (.tuple [.tuple [.int h.a,.int h.b],.tuple (h.ss.map Srv.d),.bool h.mv])),some (.imm (.tuple (natD l)))] [] 0) rfl ?_;ext s
 cases hmv:h.mv with
 |false=>
  refine lw ?_;ext s;have e:dM h l=none:=if_neg (by rw[hmv];exact λz=>by cases z.1);rw[e]at k;exact k
 | true=>
  refine iq ?_;ext s;refine x_in (d:=.int 0) (ds:=natD l) rfl (.inr rfl) (fW 0) (gf l) (by decide) ?_;ext s;rw[t]
  by_cases h0:0∈l
  .rw[decide_eq_true h0];refine iq ?_;ext s;refine uO rfl b g λx m a=>?_;rw[c x m a];ext s;refine aG (λz=>?_) (λz=>?_)
   .ext s;have e:dM h l=none:=if_neg (λq=>by have:=q.2.2;omega);rw[e]at k;exact k
   .ext s;refine uO rfl b g λx m a=>?_;rw[c x m a];have s1:=ic (iX o);have v:=ic h0;ext s;refine j5 (j:=idx l (maxN l)) (k':=0) (fW _) (gf l) (by decide) (aI s1.1) (by rw[ck];exact decide_eq_true rfl) (λi y p a=>?_) ?_
    .obtain⟨z,ez,rfl,_⟩:=gmap a;rw[ck];exact decide_eq_false (s1.2 i z p ez)
    ext s;refine j5 (j:=idx l 0) (k':=0) (fW _) (gf l) (by decide) (aI v.1) (ck 0 0) (λi y p a=>?_) ?_
    .obtain⟨z',ez,rfl,_⟩:=gmap a;have:=ck z' 0;rw[show((0:Nat):Int)=0 from rfl]at this;rw[this];exact decide_eq_false (v.2 i z' p ez)
    ext s;have e:dM h l=some (idx l (maxN l),idx l 0):=if_pos ⟨hmv,h0,by omega⟩;rw[e]at k;exact k
  .rw[decide_eq_false h0];refine lw ?_;ext s;have e:dM h l=none:=if_neg (λq=>h0 q.2.1);rw[e]at k;exact k
theorem Bc(T:Bl K mg)(D:DefM K mg "settled" oZ ["hall","lines"])(a:FnM P w K mg base "next_shift" 1 2 zp)(b:FnM P w K mg base "with_more" 1 3 jM):FnM P w K mg base "settled" 2 2 qr:=by
 refine ba D iL rfl (nN:=3) rfl (by decide) ?ar λI A outer s H E f hr=>⟨_,(mz' (am 2 iL.nd (mf' a (hr.mono (by decide)) (mc' (mv' 0) (mc' (mv' 1) mn'))))
   (mz' (fJ (av v5 (mv' 2) oO (aK _)) (mz' (am 1 iL.nd (mf' b (hr.mono (by decide)) (mc' (mf' b (hr.mono (by decide)) (mc' (mv' 1) (mc' (ae (mv' 2) mh') (mc' (lH iA mh') mn')))) (mc' (ae (mv' 2) mh') (mc' mh' mn')))))
   (aa (am 2 iL.nd (mf' a (hr.mono (by decide)) (mc' (mv' 0) (mc' (mv' 1) mn')))))) aaF)
   (aa (al (mv' 1))))),?_⟩
 case ar=>intro C u ⟨h,l,rfl,_⟩;rfl
 intro C u Q ⟨h,l,rfl,o,i,k⟩;refine ap (MSt.mk [some (.imm h.d),some (.imm (lnD l)),none] [] 0) rfl ?_;ext s;refine⟨h,l,rfl,o,i,?_⟩;ext x;refine jm (λn m=>∃c:List Nat,m=MSt.mk [some (.imm h.d),some (.imm (lnD c)),some (.imm (optP (dM h c)))] [] 0/\n=c.count 0/\di h n c=d9 h l/\c≠[]/\c.length≤1000) (l.count 0) ⟨l,rfl,rfl,rfl,o,i⟩ ?_;intro n m O ⟨c,rfl,rfl,hs,q,j⟩;ext s
 cases e:dM h c with
 |none=>
  refine iq ?_;ext s;rw[jN e]at hs;rw[<-hs]at k;exact k
 | some p=>
  refine lw ?_;let⟨B,y,J,x,d⟩:=jq e;let⟨N,m1,m2,t,v⟩:=ij e;have L:c.getD p.1 0=maxN c:=bj m1;have M:(c.set p.1 (maxN c-1)).getD p.2 0=0:=bj (by rw[aaz v];exact t);dsimp only[optP];ext s;refine⟨c,p.1,-1,maxN c-1,rfl,y,j,by omega,?_⟩;ext x;refine⟨c.set p.1 (maxN c-1),p.2,1,1,rfl,by rw[aba];exact J,by rw[aba];exact j,by omega,?_⟩;rw[<-B];ext x;have g:cB c p≠[]:=λz=>by
   rw[z]at d;exact q (abj d.symm)
  refine⟨h,cB c p,rfl,g,by omega,?_⟩;ext x;refine⟨(cB c p).count 0,by omega,cB c p,rfl,rfl,?_,g,by omega⟩;rw[<-hs,<-x];show _=di h ((cB c p).count 0+1) c;simp only[di,e]
theorem o5(T:Bl K mg)(D:DefM K mg "turn_behind" gI ["hall","rule","turn"]):FnM P w K mg base "turn_behind" 1 3 AG:=by
 refine ba D pg rfl (nN:=3) rfl (by decide) ?ar λc A outer s H E f hr=>⟨_,(mz' (bf (av (bW hr.units) (ae (mv' 1) mh') aC (aK _)) (aa (al (af dh (af aY (mv' 2) mh') (au aW (by rfl) T.len cg (mc' (ae (mv' 0) mh') mn'))))) aw)
   (aa (al (mv' 2)))),?_⟩
 case ar=>intro a b ⟨h,r,t,rfl,_⟩;rfl
 intro a b d ⟨h,r,t,rfl,ho,k⟩;have n1:=ho.n1;refine ap (MSt.mk [some (.imm (.tuple [.tuple [.int h.a,.int h.b],.tuple (h.ss.map Srv.d),.bool h.mv])),some (.imm r.d),some (.imm (.int (t:Int)))] [] 0) rfl ?_;ext s;refine J9 r.dc (aE (j:=0) rfl) ?_;ext s;refine aG (λz=>?_) (λz=>?_)
 .have hr:r = .turns:=by cases r<;>first|rfl|exact absurd z (by decide +kernel)|exact absurd (show("told" : Str) = "turns" from z) (by decide +kernel)
  subst hr;ext s;refine JV (by rw[gE];omega) ?_;rw[gE];exact k
 .ext s;have e:rH h r t=t:=by cases r<;>first|rfl|exact absurd rfl z
  rw[e]at k;exact k
theorem zg(T:Bl K mg)(D:DefM K mg "line_of" oq ["hall","rule","stand","move"])(a:FnM P w K mg base "sent_to" 3 4 kg):FnM P w K mg base "line_of" 4 4 uF:=by
 refine ba D yj rfl (nN:=4) rfl (by decide) ?ar λd A outer s H E f hr=>⟨_,(mz' (bf (av (bW hr.units) (ae (mv' 3) mh') aC (aK _)) (aa (al (mf' a (hr.mono (by decide)) (mc' (mv' 0) (mc' (mv' 1) (mc' (mv' 2) (mc' (ae (mv' 3) mh') mn'))))))) aw)
   (mz' (bf (av (bW hr.units) (ae (mv' 3) mh') aC (aK _)) (aa (al (ae (mv' 3) mh'))) aw)
   (aa (al oO)))),?_⟩
 case ar=>intro c e ⟨h,r,l,t,mv,rfl,_⟩;rfl
 intro c e m ⟨h,r,l,t,mv,rfl,ho,b,g,i,k⟩
 cases mv with
 |come o=>
  refine ap (MSt.mk [some (.imm h.d),some (.imm r.d),some (.imm (stD l t)),some (.imm (.tuple [.str "come",lnD o]))] [] 0) rfl ?_;ext s;ext f;ext s;refine⟨h,r,l,t,o,rfl,ho,b,g,i,?_⟩;ext n;exact k
 |done j=>
  refine ap (MSt.mk [some (.imm h.d),some (.imm r.d),some (.imm (stD l t)),some (.imm (.tuple [.str "done",.int (j:Int)]))] [] 0) rfl ?_;ext s;ext b;exact k
 |still=>
  refine ap (MSt.mk [some (.imm h.d),some (.imm r.d),some (.imm (stD l t)),some (.imm (.tuple [.str "still"]))] [] 0) rfl ?_;ext a;exact k
theorem w5(T:Bl K mg)(D:DefM K mg "moved_on" lh ["hall","rule","stand","move"])(d:FnM P w K mg base "line_of" 4 4 uF)(b:FnM P w K mg base "come_to" 2 3 IB)(a:FnM P w K mg base "turn_behind" 1 3 AG)(c:FnM P w K mg base "done_at" 2 2 Ia)(g:FnM P w K mg base "settled" 2 2 qr):FnM P w K mg base "moved_on" 5 4 xM:=by
 refine ba D bU rfl (nN:=8) rfl (by decide) ?ar λC A outer s H E f hr=>⟨_,(mz' (cQ (mv' 2) (bv (n:=2) (ah (ay 4 bU.nd) (ah (ay 5 bU.nd) bh))))
   (mz' (am 6 bU.nd aC)
   (mz' (am 7 bU.nd (mf' d (hr.mono (by decide)) (mc' (mv' 0) (mc' (mv' 1) (mc' (mv' 2) (mc' (mv' 3) mn'))))))
   (mz' (bf (av (bW hr.units) (ae (mv' 3) mh') aC (aK _)) (mz' (cQ (mf' b (hr.mono (by decide)) (mc' (mv' 0) (mc' (mv' 4) (mc' (mv' 7) mn')))) (bv (n:=2) (ah (ay 4 bU.nd) (ah (ay 6 bU.nd) bh))))
   (aa (am 5 bU.nd (mf' a (hr.mono (by decide)) (mc' (mv' 0) (mc' (mv' 1) (mc' (mv' 5) mn'))))))) (aa (bf (av (bW hr.units) (ae (mv' 3) mh') aC (aK _)) (aa (cQ (mf' c (hr.mono (by decide)) (mc' (mv' 4) (mc' (mv' 7) mn'))) (bv (n:=2) (ah (ay 4 bU.nd) (ah (ay 6 bU.nd) bh))))) aw)))
   (aa (al (ai (mc' (ai (mc' (mf' g (hr.mono (by decide)) (mc' (mv' 0) (mc' (mv' 4) mn'))) (mc' (mv' 5) mn'))) (mc' (mv' 6) mn'))))))))),?_⟩
 case ar=>intro B x ⟨h,r,l,t,mv,rfl,_⟩;rfl
 intro B x I ⟨h,r,l,t,mv,rfl,ho,m,p,q,y,k⟩;have v:=p.1;have n1:=ho.n1;have n4:=ho.n4;have ne:∀u:List Nat,u.length=l.length->u≠[]:=λu e z=>by rw[z]at e;simp at e;omega
 cases mv with
 |come o=>
  refine ap (MSt.mk [some (.imm h.d),some (.imm r.d),some (.imm (.tuple [lnD l,.int (t:Int)])),some (.imm (.tuple [.str "come",lnD o])),none,none,none,none] [] 0) rfl ?_;ext s
  .rfl
  ext s;refine⟨h,r,l,t,.come o,rfl,ho,m,p,q,?_⟩;dsimp only[DE];ext x;ext f;ext s;refine⟨h,l,sent h r l t o,rfl,ho,p,tw ho m p q y,?_⟩;ext n;dsimp only[lwD];ext s
  .rfl
  ext s;refine⟨h,r,t,rfl,ho,?_⟩;ext x;have i:(fE h l (sent h r l t o)).1.length=l.length:=by unfold fE;split<;>simp
  refine⟨h,_,rfl,ne _ i,by omega,?_⟩;ext x;exact k
 |done j=>
  refine ap (MSt.mk [some (.imm h.d),some (.imm r.d),some (.imm (.tuple [lnD l,.int (t:Int)])),some (.imm (.tuple [.str "done",.int (j:Int)])),none,none,none,none] [] 0) rfl ?_;ext s
  .rfl
  ext s;refine⟨h,r,l,t,.done j,rfl,ho,m,p,q,?_⟩;dsimp only[DE];ext x;ext b;refine⟨l,j,rfl,by rw[v];exact q,by omega,?_⟩;ext n;dsimp only[lwD];ext s
  .rfl
  ext s;have i:(d6 l j).1.length=l.length:=by unfold d6;split<;>simp
  refine⟨h,_,rfl,ne _ i,by omega,?_⟩;ext x;exact k
 |still=>
  refine ap (MSt.mk [some (.imm h.d),some (.imm r.d),some (.imm (.tuple [lnD l,.int (t:Int)])),some (.imm (.tuple [.str "still"])),none,none,none,none] [] 0) rfl ?_;ext s
  .rfl
  ext s;refine⟨h,r,l,t,.still,rfl,ho,m,p,q,?_⟩;dsimp only[DE];ext x;ext c;ext s;ext c;ext s;refine⟨h,l,rfl,ne _ rfl,by omega,?_⟩;ext x;exact k
theorem nu(T:Bl K mg)(D:DefM K mg "move_shares" e9 ["hall"])(g:FnM P w K mg base "all_orders" 1 1 Iy)(p:FnM P w K mg base "divided" 3 2 Uo)(c:FnM P w K mg base "taken_off" 3 2 Qi):FnM P w K mg base "move_shares" 4 1 vO:=by
 refine ba D bi rfl (nN:=10) rfl (by decide) ?ar λR A outer s H E f hr=>⟨_,(mz' (cQ (mv' 0) (bv (n:=3) (ah (ay 1 bi.nd) (ah (ay 2 bi.nd) (ah (ay 3 bi.nd) bh)))))
   (mz' (am 4 bi.nd (mf' g (hr.mono (by decide)) (mc' (mv' 0) mn')))
   (mz' (dj (i:=5) bi.nd rfl (adg rfl) (mf' p (hr.mono (by decide)) (mc' (mv' 1) (mc' (ai (mc' (au aW (by rfl) T.len cg (mc' (mv' 4) mn')) (mc' mh' mn'))) mn'))))
   (mz' (z9 (i:=6) (own:=["order"]) (fr:=["each"]) (ps:=[5]) (sc:=(ac e9)) (by exact⟨rfl,by decide +kernel,by decide +kernel,by decide +kernel,by decide +kernel⟩) bi.nd rfl rfl (bI (mv' 4)) (λ_ _ _ _ _=>(ay 0 (show ach ((["order"]:List Str)++(["each"]:List Str))from by decide +kernel))) (λ_ _ _ _ _=>cZ) (λ_ _ _ _ _=>(ai (mc' (ai (mc' aC (mc' (mv' 0) mn'))) (mc' (mv' 1) mn')))))
   (mz' (am 7 bi.nd (mf' c (hr.mono (by decide)) (mc' (Bi T.c_WHOLE_TURN (by rfl)) (mc' (mv' 1) mn'))))
   (mz' (bJ (F7 T.enumerate (mc' (mv' 2) mn')) (bv (n:=2) (ah (ay 8 bi.nd) (ah (ay 9 bi.nd) bh))) (mz' (cY (iu abA abB cW (mv' 6) (mc' (ai (mc' (ai (mc' aC (mc' (mv' 8) mn'))) (mc' (ae (mv' 9) mh') mn'))) mn')))
   (aa (am 7 bi.nd (mf' c (hr.mono (by decide)) (mc' (mv' 7) (mc' (ae (mv' 9) mh') mn')))))) aaF)
   (mz' (bf (av i5 (ae (mv' 7) mh') mh' (aK _)) (aa (cY (iu abA abB cW (mv' 6) (mc' (ai (mc' (ai (mc' aC mn')) (mc' (mv' 7) mn'))) mn')))) aw)
   (aa (al (mv' 6)))))))))),?_⟩
 case ar=>intro Q L ⟨h,rfl,_⟩;rfl
 intro Q L X ⟨h,rfl,ho,k⟩;have a1:=ho.a1;have a2:=ho.a2;have b1:=ho.b1;have b2:=ho.b2;have n4:=ho.n4;have C:=(cE h.ss.length ho.n4 h.ss.length ho.n4).1;have Y:=gg h.ss.length ho.n4;refine ap (MSt.mk [some (.imm (.tuple [.tuple [.int h.a,.int h.b],.tuple (h.ss.map Srv.d),.bool h.mv])),none,none,none,none,none,none,none,none,none] [] 0) rfl ?_;ext s
 .rfl
 ext s;refine⟨h,rfl,ho,?_⟩;ext n;ext d;refine⟨(h.a:Int),(h.b:Int),(((ordK h.ss.length h.ss.length).map lnD).length:Int),1,rfl,⟨by omega,by omega,by omega⟩,⟨by rw[gE];omega,by decide,by decide⟩,by rw[gE];omega,?_⟩;ext x;rw[gE];refine jk (λi m=>∃a,m=MSt.mk [a,some (.imm (nf ((h.a:Int)*1) ((h.b:Int)*((ordK h.ss.length h.ss.length).length:Int))))] [(ordK h.ss.length h.ss.length).map lnD,(iI h).take i] 2) ⟨none,rfl⟩ ?_ ?_ ?_
 .rintro i m ⟨a,rfl⟩;rfl
 .rintro i d m e hnp ⟨a,rfl⟩;let⟨o,S,rfl,B⟩:=gmap e;ext s;have W:(iI h)[i]?=some (.tuple [(Mv.come o).d,nf ((h.a:Int)*1) ((h.b:Int)*((ordK h.ss.length h.ss.length).length:Int))]):=by unfold iI;rw[aaa,S];rfl
  refine⟨_,rfl,by rw[aaG,aaj];omega,some (.imm (lnD o)),?_⟩;rw[ab2,W];rfl
 .rintro m hnp ⟨a,rfl⟩;have N:(iI h).take ((ordK h.ss.length h.ss.length).map lnD).length=iI h:=by
   have:((ordK h.ss.length h.ss.length).map lnD).length=(iI h).length:=by unfold iI;rw[gE,gE]
   rw[this];exact aae
  rw[N];ext n;ext d;refine⟨1,1,(h.a:Int),(h.b:Int),rfl,⟨by decide,by decide,by decide⟩,⟨by omega,by omega,by omega⟩,?_⟩;ext h;refine⟨true,h.ss.map Srv.d,rfl,?_⟩;refine cb (λi m=>∃a b,m=MSt.mk [some (.imm (.tuple [.tuple [.int h.a,.int h.b],.tuple (h.ss.map Srv.d),.bool h.mv])),some (.imm (.tuple [.int h.a,.int h.b])),some (.imm (.tuple (h.ss.map Srv.d))),some (.imm (.bool h.mv)),some (.obj 0),some (.imm (nf ((h.a:Int)*1) ((h.b:Int)*((ordK h.ss.length h.ss.length).length:Int)))),some (.obj 1),some (.imm (rsD h i)),a,b] [(ordK h.ss.length h.ss.length).map lnD,iI h++jW h i] 0) ⟨none,none,?_⟩ ?_ ?_
  .rw[show jW h 0=[]from rfl,aaO];rfl
  .rintro i d m e hnp ⟨a,b,rfl⟩ D1 hD1 hR1;have B:i<h.ss.length:=by
    have:=(DL.mp e).1;rw[fm,gE]at this;exact this
   have x:h.ss[i]?=some h.ss[i]:=iO B;have I:d = .tuple [.int (i:Int),Srv.d h.ss[i]]:=by
    have:=qQ (ds:=h.ss.map Srv.d) (i:=i) (d:=Srv.d h.ss[i]) (by rw[aaa,x];rfl);rw[this]at e;exact(aam e).symm
   subst I;have u:=ho.ok h.ss[i] (abl _);have sa:=u.a2;have V:=u.b2;have y:=u.b1;have O:=ue ho (k:=i) (by omega);have ln:(jW h i).length=i:=by unfold jW;rw[gE,abg]
   have U:(iI h).length≤24:=by unfold iI;rw[gE];exact C
   generalize J:h.ss[i]=M at *;let⟨v,q,t⟩:=M;ext s
   .rfl
   ext s;refine aH (ds:=[.tuple [.int (v:Int),.int (q:Int)],.int (t:Int)]) (aE (j:=0) rfl) ?_;ext s;refine⟨_,rfl,?_⟩;refine⟨by rw[aaj,aat];omega,?_⟩;ext x;refine aH (ds:=[.tuple [.int (v:Int),.int (q:Int)],.int (t:Int)]) (aE (j:=0) rfl) ?_;ext s;refine⟨(restF h i).1,(restF h i).2,(v:Int),(q:Int),rfl,O,⟨by simp only at sa;omega,by simp only at V;omega,by simp only at y;omega⟩,?_⟩;rw[<-DW (s:=⟨v,q,t⟩) x];ext n;refine d5 ?_;ext n;refine hD1 _ ⟨some (.imm (.int (i:Int))),some (.imm (Srv.d ⟨v,q,t⟩)),?_⟩;rw[vX,bj x,act];rfl
  .rintro m hnp ⟨a,b,rfl⟩;rw[fm,gE];ext s;refine aH (ds:=[.int (restF h h.ss.length).1,.int (restF h h.ss.length).2]) (aE (j:=0) rfl) ?_;ext s;have ln:(jW h h.ss.length).length=h.ss.length:=by unfold jW;rw[gE,abg]
   have U:(iI h).length≤24:=by unfold iI;rw[gE];exact C
   rw[SE ho]at k;refine aG (λz=>?_) (λz=>?_)
   .rw[if_pos z]at k;ext s;refine⟨_,rfl,?_⟩;refine⟨by rw[aaj,aat];omega,?_⟩;ext x;exact k
   .rw[if_neg z,aaO]at k;ext s;exact k
theorem jY(T:Bl K mg)(D:DefM K mg "weights_behind" dI ["hall","rule","weights"])(o:FnM P w K mg base "move_shares" 4 1 vO)(g:FnM P w K mg base "on_one_bottom" 2 1 vJ)(u:FnM P w K mg base "moved_on" 5 4 xM):FnM P w K mg base "weights_behind" 6 3 rq:=by
 refine ba D aL rfl (nN:=13) rfl (by decide) ?ar λcdv A outer s H E f hr=>⟨_,(mz' (cQ (mf' g (hr.mono (by decide)) (mc' (fU (mf' o (hr.mono (by decide)) (mc' (mv' 0) mn'))) mn')) (bv (n:=2) (ah (ay 3 aL.nd) (ah (ay 4 aL.nd) bh))))
   (mz' (am 5 aL.nd uZ)
   (mz' (am 6 aL.nd uZ)
   (mz' (bJ (x8 (mv' 2)) (bv (n:=2) (ah (ay 7 aL.nd) (ah (ay 8 aL.nd) bh))) (aa (bJ (bI (mv' 3)) (bv (n:=2) (ah (ay 9 aL.nd) (ah (ay 10 aL.nd) bh))) (mz' (cQ (mf' u (hr.mono (by decide)) (mc' (mv' 0) (mc' (mv' 1) (mc' (mv' 7) (mc' (mv' 9) mn'))))) (bv (n:=2) (ah (ay 11 aL.nd) (ah (ay 12 aL.nd) bh))))
   (mz' (ll hr.units (af aY (qe hr.units (mv' 5) (mc' (mv' 11) (mc' mh' mn'))) (af aF (mv' 8) (mv' 10))) (mv' 5) (mv' 11))
   (aa (GF hr.units (af aY (qe hr.units (mv' 6) (mc' (mv' 12) (mc' mh' mn'))) (af aF (mv' 8) (mv' 10))) (mv' 6) (mv' 12))))) aaF)) aaF)
   (aa (LB (LZ (al (ai (mc' (mv' 5) (mc' (mv' 6) (mc' (mv' 4) mn')))))))))))),?_⟩
 case ar=>intro as Kc ⟨h,r,W,rfl,_⟩;rfl
 intro as Kc hl ⟨h,r,W,rfl,ho,B,hW,hWl,k⟩;have hB:=uJ ho;let⟨mn,mo⟩:=FI ho;refine ap (MSt.mk [some (.imm h.d),some (.imm r.d),some (.imm (wtD W)),none,none,none,none,none,none,none,none,none,none] [] 0) rfl ?_;ext s;refine⟨h,rfl,ho,?_⟩;ext x;refine⟨shrL h,_,rfl,hB,?_⟩;rw[PC];ext x
 .rfl
 ext s;refine Ii (jb ?_);ext n;refine uf (D6 (Ii (jb ?_)));ext n;refine uf ?_;ext s;refine LG ?_;ext s;refine Iq (by rw[FX ho λp hp=>(hW p hp).1,aet]) ?_;refine cb (λi m=>∃a b c d e f:Option L2.R,m=MSt.mk [some (.imm h.d),some (.imm r.d),some (.imm (wtD W)),some (.imm (.list (msD (msL h)))),some (.imm (.int (botH h:Int))),some (.at 0 []),some (.at 1 []),a,b,c,d,e,f] [[.dict (lfKV (kvA ptD ((W.take i).foldl (goW h r (msL h)) ([],[])).1))],[.dict (lfKV (kvA wdD ((W.take i).foldl (goW h r (msL h)) ([],[])).2))]] 0/\GoOk h r (29*i) ((W.take i).foldl (goW h r (msL h)) ([],[]))) ⟨none,none,none,none,none,none,rfl,⟨λ_ hp=>(by cases hp),Ge _,Ge _⟩⟩ ?_ ?_
 .rintro i d m e hnp ⟨a1,a2,a3,a4,a5,a6,rfl,G0⟩ D1 hD1 hR1;let⟨I,ep,rfl,hi⟩:∃I:Pt×Int,W[i]?=some I/\.tuple [ptD I.1,.int I.2]=d/\i<W.length:=by
   have J:(cq (kvA ptD W))[i]?=some d:=e;unfold cq kvA at J;rw[aaN,aaa]at J
   cases q:W[i]? with
   |none=>rw[q]at J;cases J
   |some I=>
    rw[q]at J;exact⟨I,rfl,aam J,(DL.mp q).1⟩
  let⟨⟨l,t⟩,y⟩:=I;let⟨U,S⟩:=hW _ (GE ep);have v:(W.take (i+1)).foldl (goW h r (msL h)) ([],[])=goW h r (msL h) ((W.take i).foldl (goW h r (msL h)) ([],[])) ((l,t),y):=by
   rw[ab2,ep,adA];rfl
  generalize hx0:(W.take i).foldl (goW h r (msL h)) ([],[])=M at *;ext s
  .rfl
  ext s;refine cb (λj m=>∃c d e f:Option L2.R,m=MSt.mk [some (.imm h.d),some (.imm r.d),some (.imm (wtD W)),some (.imm (.list (msD (msL h)))),some (.imm (.int (botH h:Int))),some (.at 0 []),some (.at 1 []),some (.imm (ptD (l,t))),some (.imm (.int y)),c,d,e,f] [[.dict (lfKV (kvA ptD (((msL h).take j).foldl (λx q=>goW1 h r (l,t) y q x) M).1))],[.dict (lfKV (kvA wdD (((msL h).take j).foldl (λx q=>goW1 h r (l,t) y q x) M).2))]] 0/\GoOk h r (29*i+j) (((msL h).take j).foldl (λx q=>goW1 h r (l,t) y q x) M)) ⟨a3,a4,a5,a6,rfl,G0⟩ ?_ ?_
  .rintro j d m ej hnj ⟨b3,b4,b5,b6,rfl,G1⟩ D2 hD2 hR2;let⟨q,eq,rfl,hj⟩:=gmap ej;have N:=mo q (GE eq);have z:((msL h).take (j+1)).foldl (λx q=>goW1 h r (l,t) y q x) M=goW1 h r (l,t) y q (((msL h).take j).foldl (λx q=>goW1 h r (l,t) y q x) M):=by
    rw[ab2,eq,adA];rfl
   have X:=G1.next ho B U y N.1;rw[z]at hD2;generalize ((msL h).take j).foldl (λx q=>goW1 h r (l,t) y q x) M=L at *;ext s
   .rfl
   ext s;refine⟨h,r,l,t,q.1,rfl,ho,B,U.ln,N.1,U.tn,?_⟩;ext n;rw[show mvD (cn h r l t q.1) = .tuple [ptD ((cn h r l t q.1).1,(cn h r l t q.1).2.1),wdD (cn h r l t q.1).2.2]from rfl];unfold goW1 at X hD2;have O:=o7 ho B U N.1;generalize cn h r l t q.1=mm at *;let⟨Y,V,Q⟩:=mm;dsimp only at O X hD2⊢;ext s
   .rfl
   ext s;refine tz ?_;ext s;ext n;have C:=FX ho G1.st;have R:=rG ho O;have m1:=G1.n1;have m2:=G1.n2;refine AL ?_;ext s;refine⟨kvA ptD L.1,⟨rfl,rfl⟩,.inr C,?_⟩;ext s;refine⟨kvA ptD L.1,ptD (Y,V),.int 0,rfl,⟨rfl,rfl⟩,by unfold oneK;rw[C,show kyD (ptD (Y,V))=true from R,ahf,aet],?_⟩;rw[ur mF];ext s;refine cX (gn S N.2) ?_;ext s;refine⟨rfl,kvA ptD L.1,rfl,C,R,by unfold kvA;rw[gE,aaj];omega,?_⟩;rw[zn mF];ext x;refine AL ?_;ext s;refine⟨kvA wdD L.2,⟨rfl,rfl⟩,.inl (kO _),?_⟩;ext s;refine⟨kvA wdD L.2,wdD Q,.int 0,rfl,⟨rfl,rfl⟩,by unfold oneK;rw[kO];rfl,?_⟩;rw[ur (enc:=wdD) Ja];ext s;refine cX (gn S N.2) ?_;ext s;refine vm (x:=Q.s) ?_;refine⟨_,lfKV (kvA wdD L.2),rfl,rfl,by rw[jw];exact kO _,rfl,by unfold lfKV kvA;rw[gE,gE,aaj];omega,?_⟩;rw[show ags Q.s=wdD Q from rfl,yE (by rfl) (kO _),zn (enc:=wdD) Ja];exact hD2 _ ⟨some (.imm q.1.d),some (.imm (.int q.2)),some (.imm (ptD (Y,V))),some (.imm (wdD Q)),rfl,X⟩
  .rintro m hnj ⟨b3,b4,b5,b6,rfl,G1⟩;have el:(msD (msL h)).length=(msL h).length:=by unfold msD;rw[gE]
   have ef:(msL h).take (msD (msL h)).length=msL h:=by rw[el];exact aae
   rw[ef]at G1;rw[ef];refine hD1 _ (show ∃a b c d e f:Option L2.R,_ from⟨some (.imm (ptD (l,t))),some (.imm (.int y)),b3,b4,b5,b6,?_,?_⟩)
   .rw[v];rfl
   .rw[v];refine⟨G1.st,aao G1.n1 ?_,aao G1.n2 ?_⟩<;>rw[el]<;>omega
 .rintro m hnp ⟨a1,a2,a3,a4,a5,a6,rfl,G0⟩;have Z:W.take (cq (kvA ptD W)).length=W:=by unfold cq kvA;rw[gE,gE];exact aae
  rw[Z];rw[Z]at G0;refine UV 0 5 (kvA ptD (W.foldl (goW h r (msL h)) ([],[])).1) [1] (MSt.mk [some (.imm h.d),some (.imm r.d),some (.imm (wtD W)),some (.imm (.list (msD (msL h)))),some (.imm (.int (botH h:Int))),some (.imm (wtD (W.foldl (goW h r (msL h)) ([],[])).1)),some (.at 0 []),none,none,none,none,none,none] [[.dict (lfKV (kvA wdD (W.foldl (goW h r (msL h)) ([],[])).2))]] 0) rfl rfl (FX ho G0.st) ?_ ?_
  .exact Uy rfl rfl rfl rfl rfl rfl rfl rfl ⟨.inl rfl,.inl rfl,.inl rfl,.inl rfl,.inl rfl,.inr ⟨rfl,.inr rfl⟩,.inl ⟨1,rfl,rfl⟩,.inl trivial,.inl trivial,.inl trivial,.inl trivial,.inl trivial,.inl trivial,trivial⟩
  refine UT 0 6 (kvA wdD (W.foldl (goW h r (msL h)) ([],[])).2) [] (MSt.mk [some (.imm h.d),some (.imm r.d),some (.imm (wtD W)),some (.imm (.list (msD (msL h)))),some (.imm (.int (botH h:Int))),some (.imm (wtD (W.foldl (goW h r (msL h)) ([],[])).1)),some (.imm (.dict (kvA wdD (W.foldl (goW h r (msL h)) ([],[])).2))),none,none,none,none,none,none] [] 0) rfl rfl (by rw[jw];exact kO _) ?_ ?_
  .exact Uy rfl rfl rfl rfl rfl rfl rfl rfl ⟨.inl rfl,.inl rfl,.inl rfl,.inl rfl,.inl rfl,.inl rfl,.inr ⟨rfl,.inr rfl⟩,.inl trivial,.inl trivial,.inl trivial,.inl trivial,.inl trivial,.inl trivial,trivial⟩
  ext s;exact k
theorem nG(T:Bl K mg)(D:DefM K mg "told_shares" fb ["weights","whole"])(c:FnM P w K mg base "fraction_of" 2 2 Df):FnM P w K mg base "told_shares" 3 2 IZ:=by
 refine ba D oW rfl (nN:=2) rfl (by decide) ?ar λv A outer s H E f hr=>⟨_,(aa (al (dE f9 (by rfl) T.tuple j6 (mc' (cG (own:=["stand","weight"]) (fr:=["whole"]) (ps:=[1]) (sc:=(ac fb)) (by exact⟨rfl,by decide +kernel,by decide +kernel,by decide +kernel,by decide +kernel⟩) (bI (fU (BX hr.units T.sorted (mv' 0)))) (λ_ _ _ _ _=>(bv (n:=2) (ah (ay 0 (show ach ((["stand","weight"]:List Str)++(["whole"]:List Str))from by decide +kernel)) (ah (ay 1 (show ach ((["stand","weight"]:List Str)++(["whole"]:List Str))from by decide +kernel)) bh)))) (λ_ _ _ _ _=>cZ) (λ_ _ _ _ _=>(ai (mc' (mv' 0) (mc' (mf' c (hr.mono (by decide)) (mc' (mv' 1) (mc' (mv' 2) mn'))) mn'))))) mn')))),?_⟩
 case ar=>intro t x ⟨h,r,W,D,rfl,_⟩;rfl
 intro t x B ⟨h,r,W,D,rfl,ho,X,z,j,k⟩;refine ap (MSt.mk [some (.imm (wtD W)),some (.imm (.int (D:Int)))] [] 0) rfl ?_;ext s;refine Gj ?_;ext s;have E:=Ou ho X;refine Iq (by rw[FX ho X.st,aet]) ?_;rw[Gi];refine⟨E.srt X,λy p o=>?_⟩;let⟨g,s,rfl⟩:=E.srd X p o;have ln:g.length<64:=by rw[s.p.length_eq];exact X.n
 ext s;ext n;refine cb (λi m=>∃a b:Option L2.R,m=MSt.mk [a,b,some (.imm (.int (D:Int)))] [(g.take i).map λq=>.tuple [ptD q.1,nf q.2 (D:Int)]] 1) ⟨none,none,rfl⟩ ?_ ?_
 .rintro i d m e hnp ⟨a,b,rfl⟩ D1 hD1 hR1;let⟨q,eq,rfl,C⟩:=gmap e;have u:=s.p.mem_iff.mp (GE eq);show D7 2 _ (.tuple [ptD q.1,.int q.2]) _ _;ext s
  .rfl
  ext s;refine⟨q.2,(D:Int),rfl,by omega,abc (X.v q u) (by decide),by rw[abx];exact abc j (by decide),?_⟩;ext x;refine⟨_,rfl,by rw[aaj,gE,aaG];omega,hD1 _ ⟨some (.imm (ptD q.1)),some (.imm (.int q.2)),?_⟩⟩;rw[aaX,eq,aaE];rfl
 .rintro m hnp ⟨a,b,rfl⟩;rw[gE,aae];ext s;exact k g s
theorem l5(T:Bl K mg)(D:DefM K mg "left_by_turn" gc ["hall","rule","stand"])(a:FnM P w K mg base "weights_behind" 6 3 rq)(c:FnM P w K mg base "told_shares" 3 2 IZ):FnM P w K mg base "left_by_turn" 7 3 Af:=by
 refine ba D c5 rfl (nN:=6) rfl (by decide) ?ar λg A outer s H E f hr=>⟨_,(mz' (cQ (mf' a (hr.mono (by decide)) (mc' (mv' 0) (mc' (mv' 1) (mc' (yq hr.units (mv' 2) mh') mn')))) (bv (n:=3) (ah (ay 3 c5.nd) (ah (ay 4 c5.nd) (ah (ay 5 c5.nd) bh)))))
   (aa (al (mf' c (hr.mono (by decide)) (mc' (mv' 3) (mc' (mv' 5) mn')))))),?_⟩
 case ar=>intro e i ⟨h,r,l,t,rfl,_⟩;rfl
 intro e i j ⟨h,r,l,t,rfl,d,S,k⟩;have ho:=d.ho;have b:botH h<10^66:=by have:=d.b;rwa[Nat.pow_one]at this
 refine ap (MSt.mk [some (.imm h.d),some (.imm r.d),some (.imm (stD l t)),none,none,none] [] 0) rfl ?_;ext s;refine NR ?_;ext s;refine⟨rG ho S,?_⟩;ext s;refine⟨h,r,[((l,t),1)],rfl,ho,d.hr,λp hp=>?_,by show 1≤100000;decide,?_⟩
 .rw[show p=_ from aah.mp hp];exact⟨S,by show(1:Int).natAbs<10^160;decide⟩
 ext x
 .rfl
 ext s;refine⟨h,r,lv h r (l,t),botH h,rfl,ho,(Qc d S).1,Jp ho,abc b (by decide),λW s=>?_⟩;ext x;exact k W s
theorem i6(T:Bl K mg)(D:DefM K mg "stands_coming" ft ["hall","rule"])(c:FnM P w K mg base "first_stand" 1 1 zT)(a:FnM P w K mg base "left_by_turn" 7 3 Af):FnX P w K mg base "stands_coming" 8 2 Jb:=by
 refine Ji D bq rfl (nN:=8) rfl (by decide) ?ar λcdv A outer s H E f b Ke hr hx=>⟨_,(mz' (am 2 bq.nd (bZ (mc' (mf' c (hr.mono (by decide)) (mc' (mv' 0) mn')) mn')))
   (mz' (am 3 bq.nd (vz hr.units (ae (mv' 2) mh') kl))
   (mz' (am 4 bq.nd mh')
   (mz' (fJ (av gj (mv' 4) (au aW (by rfl) T.len cg (mc' (mv' 2) mn')) (aK _)) (mz' (am 5 bq.nd (mf' a (hr.mono (by decide)) (mc' (mv' 0) (mc' (mv' 1) (mc' (ae (mv' 2) (mv' 4)) mn')))))
   (mz' (bJ (bI (mv' 5)) (bv (n:=2) (ah (ay 6 bq.nd) (ah (ay 7 bq.nd) bh))) (aa (bf (av (mD hr.units) (mv' 6) (mv' 3) (by with_unfolding_all rfl)) (mz' (ll hr.units kl (mv' 3) (mv' 6))
   (aa (cY (iu abA abB cW (mv' 2) (mc' (mv' 6) mn'))))) aw)) ahI)
   (mz' (bf (av i5 (au aW (by rfl) T.len cg (mc' (mv' 2) mn')) (Bi T.c_MOST_STANDS (by rfl)) (aK _)) (aa (wj T.i_TooMany.x hx (hr.mono (by decide)) rfl (mc' aC mn'))) aw)
   (aa (Kj 4 bq.nd mh' Oj))))) ahI)
   (aa (al (au (lm hr.units) (by rfl) T.sorted lp (mc' (mv' 2) mn')))))))),?_⟩
 case ar=>intro as X Ke ⟨h,r,rfl,_⟩;rfl
 intro as X hl ⟨h,r,rfl,v,k1,U⟩;have ho:=v.ho;have hr:=v.hr;have g:=nU ho r;refine ap (MSt.mk [some (.imm h.d),some (.imm r.d),none,none,none,none,none,none] [] 0) rfl ?_;ext s;refine⟨h,rfl,ho,?_⟩;ext x;ext d;refine Im ?_;ext s;refine⟨rG ho g,?_⟩;refine jb ?_;ext x;refine jm (λn m=>∃(F:List Pt) (i:Nat) (M I B:Option L2.R),m=MSt.mk [some (.imm h.d),some (.imm r.d),some (.obj 0),some (.at 1 []),some (.imm (.int (i:Int))),M,I,B] [F.map ptD,[.dict (lfKV (knD F))]] 0/\Cmg (scS h r) (z0 h) F i/\n=100-i/\i≤F.length/\F.length≤60) 100 ⟨[z0 h],0,none,none,none,rfl,Cmg.one,rfl,abv _,Nat.le_of_sub_eq_zero rfl⟩ ?_;intro n m hnp ⟨F,i,M,I,B,rfl,C,hn,hi,hF⟩;ext s;rw[gE];refine aG (λZ=>?_) (λZ=>?_)
 .obtain⟨p,ep⟩:∃p,F[i]?=some p:=⟨_,iO (by omega)⟩;have Sp:=l9 ho hr (x:=z0 h) g (C.rc p (GE ep));ext s;refine' ju (d:=ptD p) (ds:=F.map ptD) ?xf ?xe ?_
  case xf=>rfl
  case xe=>exact aE (by rw[aaa,ep];rfl)
  ext s;refine⟨h,r,p.1,p.2,rfl,v,Sp,λW S=>?_⟩;have XW:=(Qc (l:=p.1) (t:=p.2) v Sp).1;have wl:W.length<64:=by rw[S.p.length_eq];exact XW.n
  have k:∀z,z∈W.map (·.1)↔z∈scS h r p:=λz=>(S.p.map (·.1)).mem_iff.trans Oi;generalize N:W.map (·.1)=L at k;have Y:L.length=W.length:=by rw[<-N,gE]
  ext n;unfold MF;ext s;refine cb (λj m=>∃o u:Option L2.R,m=MSt.mk [some (.imm h.d),some (.imm r.d),some (.obj 0),some (.at 1 []),some (.imm (.int (i:Int))),some (.imm (.tuple (W.map λq=>.tuple [ptD q.1,nf q.2 (botH h:Int)]))),o,u] [(adds F (L.take j)).map ptD,[.dict (lfKV (knD (adds F (L.take j))))]] 0) ⟨I,B,rfl⟩ ?_ ?_
  .rintro j d m ej hj ⟨o,u,rfl⟩ D1 hD1 hR1;let⟨q,eq,rfl,hz⟩:=gmap ej;have Q:L[j]?=some q.1:=by rw[<-N,aaa,eq];rfl
   have et:adds F (L.take (j+1))=add1 (adds F (L.take j)) q.1:=by
    unfold adds;rw[ab2,Q,adA];rfl
   have O:=(iP (F:=F) (xs:=L.take j)).2;rw[aaG]at O;have Sa:∀y∈adds F (L.take j),St h r y.1 y.2:=λy e=>by
    rcases mem_adds.mp e with w|w
    .exact l9 ho hr (x:=z0 h) g (C.rc y w)
    .exact rF ho hr Sp ((k y).mp (abW w))
   have V:=rF ho hr Sp ((k q.1).mp (GE Q));rw[et]at hD1;generalize adds F (L.take j)=G at *;have J:=Qz ho Sa;have ky:=rG ho V;ext s
   .rfl
   ext s;refine QH (kvs:=knD G) ⟨rfl,rfl⟩ (by unfold oneK;rw[J,show kyD (ptD q.1)=true from ky,ahf,aet]) ?_;rw[yo,if_pos rfl];ext s
   by_cases e:q.1∈G
   .rw[decide_eq_true e,if_neg (show ¬(!true)=true from aan)];rw[show add1 G q.1=G from if_pos e]at hD1;ext s;ext n;exact hD1 _ ⟨_,_,rfl⟩
   .rw[decide_eq_false e,if_pos (show(!false)=true from rfl)];rw[show add1 G q.1=G++[q.1]from if_neg e]at hD1;ext x;refine tz ?_;ext s;refine⟨rfl,knD G,rfl,J,ky,by unfold knD;rw[gE,aaj];omega,?_⟩;rw[Iw e];ext x;refine' ie (ds:=G.map ptD) ?eb (by rw[aaj,gE];omega) ?_
    case eb=>rfl
    ext n;rw[aaE]at hD1;exact hD1 _ ⟨_,_,rfl⟩
  .rintro m hm ⟨o,u,rfl⟩;have O:=iP (F:=F) (xs:=L);rw[gE,<-Y,aae];have R:=C.next ep k;ext s;rw[gE];refine aG (λz2=>?_) (λz2=>?_)
   .ext s;refine O7 [.str "stands"] rfl rfl (by decide) ?_;exact U _ _ R (by omega)
   .ext s;refine W5 (i:Int) rfl ?_;ext s;exact⟨1,rfl,100-(i+1),by omega,adds F L,i+1,_,o,u,rfl,R,rfl,by omega,by omega⟩
 .ext s;refine xW (ds:=F.map ptD) rfl ?_;have SF:∀y∈F,St h r y.1 y.2:=λy e=>l9 ho hr (x:=z0 h) g (C.rc y e);have XF:=Cg SF C.nd (by omega);have eF:F.map ptD=(F.map λp=>(p,(0:Int))).map λp=>ptD p.1:=by rw[aaN];rfl
  rw[eF];refine⟨(uT ho XF).srt XF,λds' p' o'=>?_⟩;let⟨W,S,rfl⟩:=(uT ho XF).srd XF p' o';ext s;have e2:(W.map λp=>ptD p.1)=(W.map (·.1)).map ptD:=by rw[aaN];rfl
  rw[e2];refine k1 F (W.map (·.1)) i C (by omega) (by omega) ⟨?_,?_⟩
  .have:=S.p.map (·.1);rwa[aaN,show((λx:Pt×Int=>x.1)∘λp:Pt=>(p,(0:Int)))=id from rfl,aeW]at this
  .rw[aey];exact S.o
def sD(T:Bl K mg)(D:DefM K mg "_law_tape" jz ["_law_script"]):FnM P w K mg base "_law_tape" 1 1 IU:=by
 refine ba D tF rfl (nN:=1) rfl (by decide) ?ar λc A outer s H E f hr=>⟨_,(aa (al (bZ (mc' (fU (cN f8 (mv' 0) dq (dB mh'))) (mc' mh' (mc' mh' mn')))))),?_⟩
 case ar=>intro b d ⟨ns,rfl,_⟩;rfl
 intro b d g ⟨ns,rfl,a,k⟩;refine ap (MSt.mk [some (.imm (.list (ns.map .int)))] [] 0) rfl ?_;ext s;have e:cutD (ns.map abC) none (some 63)=ns.map .int:=Db (n:=63) (by rw[gE];exact a);rw[e];exact k _ ⟨ns,0,0,rfl,a,by omega,by omega,by omega⟩
def sF(T:Bl K mg)(D:DefM K mg "_law_draw" jK ["_law_tape_here","_law_many"]):FnM P w K mg base "_law_draw" 1 2 lb:=by
 refine ba D cy rfl (nN:=6) rfl (by decide) ?ar λC A outer s H E f hr=>⟨_,(mz' (bf (av i5 (ae (mv' 0) mh') mh' (aK _)) (mz' (am 2 cy.nd (af dh (ae (mv' 0) mh') (mv' 1)))
   (mz' (ol (af dm (ae (mv' 0) mh') (mv' 1)) (mv' 0) mh')
   (aa (al (mv' 2))))) aw)
   (mz' (am 3 cy.nd (ae (mv' 0) mh'))
   (mz' (ol (af aY (mv' 3) mh') (mv' 0) mh')
   (mz' (am 4 cy.nd mh')
   (mz' (bf (av i5 (au aW (by rfl) T.len cg (mc' (ae (mv' 0) mh') mn')) mh' (aK _)) (aa (am 4 cy.nd (ae (ae (mv' 0) mh') (af dh (mv' 3) (au aW (by rfl) T.len cg (mc' (ae (mv' 0) mh') mn')))))) aw)
   (mz' (bf (EW.pt (jj (av Sj (mv' 4) (af Ls mh' mh') (aK _)) (kh (av gj (mv' 3) (au aW (by rfl) T.len cg (mc' (ae (mv' 0) mh') mn')) (aK _))))) (mz' (ol (af dm (mv' 4) (mv' 1)) (mv' 0) mh')
   (aa (al (af dh (mv' 4) (mv' 1))))) aw)
   (mz' (am 5 cy.nd (af dh (af aF (af aY (af aY (af aY (af dh (mv' 4) mh') (af aF (af aF mh' (mv' 3)) (mv' 3))) (af aF mh' (mv' 3))) mh') mh') mh'))
   (mz' (am 5 cy.nd (af dh (af aY (af aY (af aF (mv' 5) (mv' 5)) (af aF mh' (mv' 5))) (mv' 3)) mh'))
   (aa (al (af dh (af dm (af dh (af aF (mv' 5) mh') mh') mh') (mv' 1)))))))))))),?_⟩
 case ar=>intro z u ⟨ds,m,c,rfl,_⟩;rfl
 intro z u L ⟨ds,m,c,rfl,⟨ns,p,q,rfl,v,t,hp,j⟩,M,e,I,k⟩;refine ap (MSt.mk [some (.obj 0),some (.imm (.int m)),none,none,none,none] [[.list (ns.map .int),.int p,.int q]] 1) rfl ?_;ext s;refine aG (λh=>?_) (λh=>?_)
 .ext s;exact k _ _ (afb _ (by omega)) (aee _ e) ⟨ns,p,q/m,rfl,v,t,by omega,Int.ediv_nonneg j (by omega)⟩
 .ext s;have d:∀x:Int,0≤x->x<m->∀g:Int,0≤g->u (.imm (.int x)) [[.list (ns.map .int),.int (p+1),.int g]]:=λx b o g B=>k _ _ b o ⟨ns,p+1,g,rfl,v,by omega,by omega,B⟩;have a:∀y:Int,0≤y/7%m/\y/7%m<m:=λy=>⟨afb _ (by omega),aee _ e⟩;refine aG (λb=>?_) (λb=>?_)
  .ext s;have n:(0:Int)<((List.map abC ns).length:Int):=by simpa using b
   let⟨x,J⟩:=FE (ns:=ns) (i:=p%((List.map abC ns).length:Int)) (afb _ (by omega)) (by have:=aee p n;simp only[gE]at this⊢;exact this);refine ub J ?_;ext s;refine aG (λb=>?_) (λb=>?_)
   .ext s;refine aG (λo=>?_) (λo=>?_)
    .ext s;exact d _ (afb _ (by omega)) (aee _ e) _ (Int.ediv_nonneg (ahE (by decide) b) (by omega))
    .ext s;exact d _ (a _).1 (a _).2 _ j
   .ext s;exact d _ (a _).1 (a _).2 _ j
  .ext s;refine aG (λb=>?_) (λb=>?_)
   .exact absurd b (by decide)
   .ext s;exact d _ (a _).1 (a _).2 _ j
def xj(T:Bl K mg)(D:DefM K mg "_law_cut" k7 ["_law_top","_law_bottom"]):FnM P w K mg base "_law_cut" 1 2 vx:=by
 refine ba D jr rfl (nN:=4) rfl (by decide) ?ar λz A outer s H E f hr=>⟨_,(mz' (lj (i:=2) (j:=3) jr.nd rfl rfl (by decide) rfl rfl (mc' (au rf (by rfl) T.abs Ix (mc' (mv' 0) mn')) (mc' (mv' 1) mn')) rfl)
   (mz' (fJ (av i5 (mv' 3) mh' (aK _)) (aa (lj (i:=2) (j:=3) jr.nd rfl rfl (by decide) rfl rfl (mc' (mv' 3) (mc' (af dh (mv' 2) (mv' 3)) mn')) rfl)) aaF)
   (aa (al (ai (mc' (af dm (mv' 0) (mv' 2)) (mc' (af dm (mv' 1) (mv' 2)) mn'))))))),?_⟩
 case ar=>intro u B ⟨a,b,rfl,_⟩;rfl
 intro u B L ⟨t,b,rfl,g,M,hb,k⟩;refine ap (MSt.mk [some (.imm (.int t)),some (.imm (.int b)),none,none] [] 0) rfl ?_;ext s;rw[show(if t<0 then -t else t)=(t.natAbs:Int) by split<;>omega];refine jm (λn m=>∃x y:Nat,m=MSt.mk [some (.imm (.int t)),some (.imm (.int b)),some (.imm (.int x)),some (.imm (.int y))] [] 0/\x.gcd y=t.natAbs.gcd b/\n=y) b ⟨t.natAbs,b,rfl,rfl,rfl⟩ ?_;intro n m J ⟨x,y,rfl,c,rfl⟩;ext s;refine aG (λq=>?_) (λI=>?_)
 .ext s;have v:0<n:=by omega
  have C:=ahl x v;exact⟨x%n,C,n,x%n,rfl,by rw[agt,<-Nat.gcd_rec,agt,c],rfl⟩
 .have hy0:n=0:=by omega
  subst hy0;rw[ahq]at c;have p:0<x:=by rw[c];exact abz _ g
  have o:x≤b:=by rw[c];exact af3 _ g
  ext s;rw[c];have d:t.natAbs.gcd b<10^160:=by rw[<-c];exact aax o hb
  have e:0<t.natAbs.gcd b:=by rw[<-c];exact p
  refine iW (cfdB e d) ?_;ext s;refine iW (cfdB e d) ?_;ext s;unfold nf nfP at k;rw[if_neg (by omega),abx]at k;exact k
def uc(T:Bl K mg)(D:DefM K mg "_law_plus" jB ["_law_one","_law_other"])(e:FnM P w K mg base "_law_cut" 1 2 vx):FnM P w K mg base "_law_plus" 2 2 O9:=by
 refine ba D ul rfl (nN:=2) rfl (by decide) ?ar λn A outer s H E f hr=>⟨_,(aa (al (mf' e (hr.mono (by decide)) (mc' (af aY (af aF (ae (mv' 0) mh') (ae (mv' 1) mh')) (af aF (ae (mv' 1) mh') (ae (mv' 0) mh'))) (mc' (af aF (ae (mv' 0) mh') (ae (mv' 1) mh')) mn'))))),?_⟩
 case ar=>intro m o ⟨a,b,c,d,rfl,_⟩;rfl
 intro m o q ⟨a,b,c,d,rfl,i,g,k⟩;refine ap (MSt.mk [some (.imm (.tuple [.int a,.int b])),some (.imm (.tuple [.int c,.int d]))] [] 0) rfl ?_;ext s;refine cX (gn (up45 i.ha) (up45 g.hb)) ?_;ext s;refine cX (gn (up45 g.ha) (up45 i.hb)) ?_;ext s;refine cX (gn (up45 i.hb) (up45 g.hb)) ?_;ext s;let⟨p,eb,j⟩:=DB i.hp g.hp;rw[eb];refine⟨_,p,rfl,j,Qh (i9 i.ha g.hb) (i9 g.ha i.hb),(by have:=i9 i.hb g.hb;rw[eb,abx]at this;exact yR this),?_⟩;ext n;rw[<-eb];exact k
theorem rb(T:Bl K mg)(D:DefM K mg "_law_parts" dW ["_law_tape_here","_law_many"])(b:FnM P w K mg base "_law_draw" 1 2 lb)(j:FnM P w K mg base "_law_cut" 1 2 vx):FnM P w K mg base "_law_parts" 3 2 uH:=by
 refine ba D fh rfl (nN:=5) rfl (by decide) ?ar λcdv A outer s H E f hr=>⟨_,(mz' (dj (i:=2) fh.nd rfl (adg rfl) (ae (bZ (mc' mh' (mc' mh' (mc' mh' (mc' mh' mn'))))) (mf' b (hr.mono (by decide)) (mc' (mv' 0) (mc' mh' mn')))))
   (mz' (dj (i:=3) fh.nd rfl (adg rfl) (cG (own:=["_law_k"]) (fr:=["_law_tape_here","_law_most"]) (ps:=[0,2]) (sc:=(ac dW)) (by exact⟨rfl,by decide +kernel,by decide +kernel,by decide +kernel,by decide +kernel⟩) (ce (by rfl) T.range (mc' (af aY (mv' 1) mh') mn')) (λ_ _ _ _ _=>(ay 0 (show ach ((["_law_k"]:List Str)++(["_law_tape_here","_law_most"]:List Str))from by decide +kernel))) (λ_ _ _ _ _=>cZ) (λ_ _ _ _ _=>(af aY mh' (mf' b (hr.mono (by decide)) (mc' (mv' 1) (mc' (mv' 2) mn')))))))
   (mz' (dj (i:=4) fh.nd rfl (adg rfl) (ae (bZ (mc' mh' (mc' (af aY mh' (mf' b (hr.mono (by decide)) (mc' (mv' 0) (mc' (mv' 2) mn')))) (mc' (mf' b (hr.mono (by decide)) (mc' (mv' 0) (mc' mh' mn'))) mn')))) (mf' b (hr.mono (by decide)) (mc' (mv' 0) (mc' mh' mn')))))
   (aa (al (cG (own:=["_law_part"]) (fr:=["_law_parts_here","_law_rest"]) (ps:=[3,4]) (sc:=(ac dW)) (by exact⟨rfl,by decide +kernel,by decide +kernel,by decide +kernel,by decide +kernel⟩) (bI (mv' 3)) (λ_ _ _ _ _=>(ay 0 (show ach ((["_law_part"]:List Str)++(["_law_parts_here","_law_rest"]:List Str))from by decide +kernel))) (λ_ _ _ _ _=>cZ) (λ_ _ _ _ _=>(mf' j (hr.mono (by decide)) (mc' (mv' 0) (mc' (af aY (au (vW rfl) (by rfl) T.sum Tu (mc' (mv' 1) mn')) (mv' 2)) mn')))))))))),?_⟩
 case ar=>intro V Kc ⟨fd,c,n,rfl,_⟩;rfl
 intro V Kc hl ⟨fd,c,n,rfl,g,hc,hn,k⟩;refine ap (MSt.mk [some (.obj 0),some (.imm (.int (n:Int))),none,none,none] [fd] 1) rfl ?_;ext s;refine⟨fd,_,_,rfl,g,by omega,by decide,by decide,λi fd W U g=>?_⟩;ext n;let⟨y,O,mo1,Y⟩:∃y:Nat,atI [abC 9,abC 3,abC 40,abC 1600] i=some (.int (y:Int))/\1≤y/\y≤1600:=by
  rcases (show i=0\/i=1\/i=2\/i=3 by omega)with z|z|z|z<;>rw[z]
  .exact⟨9,rfl,by decide,by decide⟩
  .exact⟨3,rfl,by decide,by decide⟩
  .exact⟨40,rfl,by decide,by decide⟩
  .exact⟨1600,rfl,by decide,by decide⟩
 ext s;refine jt O ?_;ext s;ext e;rw[show((n:Int)+1).toNat=n+1 by omega];ext n;refine cb (λz m=>∃(a:Option L2.R) (B:List dL) (ps:List Nat),m=MSt.mk [a,some (.obj 0),some (.imm (.int (y:Int)))] [B,natD ps] 2/\TapeD (c+1+z) B/\ps.length=z/\∀p∈ps,1≤p/\p≤1600) ⟨none,fd,[],rfl,g,rfl,λ_ h=>by cases h⟩ ?_ ?_
 .rintro z d m e Z ⟨a,fd,ps,rfl,g,t,o⟩ D1 hD1 hR1;let⟨hi,rfl⟩:=cJ e;ext s;refine⟨fd,_,_,rfl,g,by omega,by omega,by omega,λq fd v L g=>?_⟩;ext n;let⟨X,rfl⟩:=acw v;ext s;refine⟨_,rfl,by rw[aaj,aA];omega,hD1 _ ⟨some (.imm (.int (0+(z:Int)))),fd,ps++[1+X],by rw[vC];rfl,g,by rw[aat,t];rfl,λx C=>?_⟩⟩;obtain C|C:=aa4.mp C
  .exact o x C
  .rw[aah.mp C];omega
 intro m hm ⟨a,fd,ps,rfl,g,t,o⟩;rw[aP]at g t;ext n;refine bQ ?_;ext n;refine ap (MSt.mk [some (.obj 0),some (.imm (.int (n:Int))),some (.imm (.int (y:Int))),some (.obj 1),none] [fd,natD ps] 1) rfl ?_;ext s;refine⟨fd,_,_,rfl,g,by omega,by omega,by omega,λN fd v L g=>?_⟩;ext n;let⟨N,rfl⟩:=acw v;ext s;refine⟨fd,_,_,rfl,g,by omega,by omega,by omega,λM fd J hr1 g=>?_⟩;ext n;let⟨M,rfl⟩:=acw J;ext s;refine⟨fd,_,_,rfl,g,by omega,by omega,by omega,λI fd hs0 hs1 g=>?_⟩;ext n;let⟨u,Q,re4⟩:∃u:Nat,atI [abC 0,abC (1+(N:Int)),abC (M:Int)] I=some (.int (u:Int))/\u≤1601:=by
  rcases (show I=0\/I=1\/I=2 by omega)with z|z|z<;>rw[z]
  .exact⟨0,rfl,by decide⟩
  .exact⟨1+N,by rw[acx];rfl,by omega⟩
  .exact⟨M,rfl,by omega⟩
 ext s;refine jt Q ?_;ext s;have S:=Jc λp hp=>(o p hp).2;ext n;refine zq (λz m=>∃a,m=MSt.mk [a,some (.obj 1),some (.imm (.int (u:Int)))] [fd,natD ps,((ps.take z).map (cutN (ps.sum+u))).map prD] 3) ⟨none,rfl⟩ ?_ ?_ ?_
 .rintro z m ⟨a,rfl⟩;rfl
 .rintro z d m ez nz ⟨a,rfl⟩ D2 hD2;let⟨p,R,rfl,Z⟩:=gmap ez;have hp:=o p (GE R);have hp2:=Cn (GE R);ext s;refine Oq rfl (zN ps) ?_;rw[sumZ];ext s;refine⟨(p:Int),ps.sum+u,by rw[acx],by omega,aax (show((p:Nat):Int).natAbs≤1600 by omega) (by decide),aax (show ps.sum+u≤100000 by omega) (by decide),?_⟩;rw[T9 (by omega)];ext x;refine⟨_,rfl,by rw[aaj,gE,gE,aaG];omega,hD2 _ ⟨some (.imm (.int (p:Int))),?_⟩⟩;rw[aaX,R,aaE,aaE];rfl
 .rintro m hm ⟨a,rfl⟩;rw[aA,aae];ext s;exact k ps (ps.sum+u) fd t o (by have:=List.length_pos_iff.mp (show 0<ps.length by omega);cases ps with|nil=>exact(this rfl).elim|cons x ps=>have:=o x aac;simp only[acJ];omega) (by omega) (by omega) (g.mono (by omega))
theorem t9(T:Bl K mg)(D:DefM K mg "_law_hall" ib ["_law_tape_here","_law_menu"])(g:FnM P w K mg base "_law_draw" 1 2 lb)(u:FnM P w K mg base "_law_parts" 3 2 uH):FnM P w K mg base "_law_hall" 4 2 Ba:=by
 refine ba D bG rfl (nN:=8) rfl (by decide) ?ar λcdv A outer s H E f hr=>⟨_,(mz' (dj (i:=2) bG.nd rfl (adg rfl) (ae (mv' 1) (mf' g (hr.mono (by decide)) (mc' (mv' 0) (mc' (au aW (by rfl) T.len cg (mc' (mv' 1) mn')) mn')))))
   (mz' (am 3 bG.nd (mf' u (hr.mono (by decide)) (mc' (mv' 0) (mc' (au aW (by rfl) T.len cg (mc' (mv' 2) mn')) mn'))))
   (mz' (dj (i:=4) bG.nd rfl (adg rfl) (cN f8 (mv' 3) (dB mh') dq))
   (mz' (bf (av (bW hr.units) (mf' g (hr.mono (by decide)) (mc' (mv' 0) (mc' mh' mn'))) mh' (aK _)) (mz' (dj (i:=2) bG.nd rfl (adg rfl) (af aF (cN f8 (mv' 2) dq (dB mh')) (au aW (by rfl) T.len cg (mc' (mv' 2) mn'))))
   (mz' (am 5 bG.nd (ae (mv' 4) mh'))
   (mz' (bJ (bI (mv' 4)) (ay 6 bG.nd) (aa (bf (av gj (af aF (ae (mv' 6) mh') (ae (mv' 5) mh')) (af aF (ae (mv' 5) mh') (ae (mv' 6) mh')) (aK _)) (aa (am 5 bG.nd (mv' 6))) aw)) aaF)
   (aa (dj (i:=4) bG.nd rfl (adg rfl) (af aF (bZ (mc' (mv' 5) mn')) (au aW (by rfl) T.len cg (mc' (mv' 2) mn')))))))) aw)
   (mz' (am 7 bG.nd (dE f9 (by rfl) T.tuple j6 (mc' (cG (own:=["_law_k"]) (fr:=["_law_speeds","_law_rooms"]) (ps:=[4,2]) (sc:=(ac ib)) (by exact⟨rfl,by decide +kernel,by decide +kernel,by decide +kernel,by decide +kernel⟩) (ce (by rfl) T.range (mc' (au aW (by rfl) T.len cg (mc' (mv' 2) mn')) mn')) (λ_ _ _ _ _=>(ay 0 (show ach ((["_law_k"]:List Str)++(["_law_speeds","_law_rooms"]:List Str))from by decide +kernel))) (λ_ _ _ _ _=>cZ) (λ_ _ _ _ _=>(ai (mc' (ae (mv' 1) (mv' 0)) (mc' (ae (mv' 2) (mv' 0)) mn'))))) mn')))
   (aa (al (ai (mc' (ae (mv' 3) mh') (mc' (mv' 7) (mc' (om (bW hr.units) (mf' g (hr.mono (by decide)) (mc' (mv' 0) (mc' mh' mn'))) mh' (aK _)) mn'))))))))))),?_⟩
 case ar=>intro as Kc ⟨fd,c,Q,rfl,_⟩;rfl
 intro as Kc hl ⟨fd,c,Q,rfl,⟨hne,hml,hms⟩,I,hc,k⟩;have hm0:0<Q.length:=List.length_pos_iff.mpr hne;refine ap (MSt.mk [some (.obj 0),some (.imm (.list (Q.map lnD))),none,none,none,none,none,none] [fd] 1) rfl ?_;ext s;rw[gE];refine⟨fd,_,_,rfl,I,by omega,by omega,by omega,λi fd hi0 hi1 I=>?_⟩;let⟨i,rfl⟩:=acw hi0;let⟨rs,X⟩:∃rs,Q[i]?=some rs:=⟨_,iO (show i<Q.length by omega)⟩;let⟨r1,r4,hr⟩:=hms rs (GE X);ext n;refine ub (d:=lnD rs) (aE (by rw[aaa,X];rfl)) ?_;ext s;dsimp only[lnD];ext s;rw[aA];refine⟨fd,_,rs.length,rfl,I,by omega,r4,λns S fd V hps C hS2 hSs I=>?_⟩;ext n;ext d;refine bQ ?_;let⟨B,sp,rfl⟩:∃B sp,ns=B::sp:=by
  cases ns with
  |nil=>simp at V
  |cons B sp=>exact⟨B,sp,rfl⟩
 have W:sp.length=rs.length:=by simpa using V
 have h0:=hps B aac;have M:∀p∈sp,1≤p/\p≤1600:=λp hp=>hps p (aad _ hp);have Y:cutD (((B::sp).map (cutN S)).map prD) (some 1) none=(sp.map (cutN S)).map prD:=by
  rw[show(1:Int)=((1:Nat):Int)from rfl,kM];rfl
 rw[Y];ext n;refine uf ?_;refine x_JS (λm=>∃(t:List Nat) (o:List Nat) (a b:Option L2.R) (fd':List dL),m=MSt.mk [some (.obj 0),some (.imm (.list (Q.map lnD))),some (.imm (.tuple (natD t))),some (.obj 1),some (.obj 2),a,b,none] [fd',((B::sp).map (cutN S)).map prD,(o.map (cutN S)).map prD] 1/\TapeD (c+12) fd'/\t.length=rs.length/\o.length=rs.length/\(∀r∈t,1≤r/\r≤6)/\(∀p∈o,1≤p/\p≤1600)/\o.sum≤sp.sum) (λN J=>?_) ?_
 .ext s;refine⟨fd,_,_,rfl,I,by omega,by omega,by omega,λq1 fd hq0 hq1 I=>?_⟩;ext x;refine aG (λz=>?_) (λz=>?_)
  .ext s;let⟨L,rt,rfl⟩:∃L rt,rs=L::rt:=by
    cases rs with
    |nil=>simp at r1
    |cons L rt=>exact⟨L,rt,rfl⟩
   let⟨v,st,rfl⟩:∃v st,sp=v::st:=by
    cases sp with
    |nil=>simp at W
    |cons v st=>exact⟨v,st,rfl⟩
   have ec1:cutD (natD (L::rt)) none (some 1)=[.int (L:Int)]:=by
    rw[show(1:Int)=((1:Nat):Int)from rfl,ko];rfl
   rw[ec1,aA];generalize hn:(L::rt).length=n at *;refine IX (by omega) (by omega) (by simp;omega) ?_;rw[aaW,uU,Dg];ext s;refine ju (d:=prD (cutN S v)) rfl (show atI (((v::st).map (cutN S)).map prD) 0=some (prD (cutN S v))from aE (j:=0) (xs:=((v::st).map (cutN S)).map prD) rfl) ?_;ext s;refine zq (λz m=>∃(q:Nat) (b:Option dL),m=MSt.mk [some (.obj 0),some (.imm (.list (Q.map lnD))),some (.imm (.tuple (natD (aap n L)))),some (.obj 1),some (.obj 2),some (.imm (prD (cutN S q))),b.map L2.R.imm,none] [fd,((B::v::st).map (cutN S)).map prD,((v::st).map (cutN S)).map prD] 3/\q∈v::st/\∀x∈(v::st).take z,q≤x) ?_ ?_ ?_ ?_
   .exact⟨v,none,rfl,aac,λ_ h=>by cases h⟩
   .rintro z m ⟨q,b,rfl,_⟩;rfl
   .rintro z d m ez nz ⟨q,b,rfl,hq,hmn⟩ D2 hD2;let⟨p',ep',rfl,hz⟩:=gmap ez;let⟨p,U,rfl,hz'⟩:=gmap ep';have b1:=M p (GE U);have b2:=M q hq;have c1:=pC (b:=S) (p:=p) b1.1 (by omega) C (by omega);have c2:=pC (b:=S) (p:=q) b2.1 (by omega) C (by omega);have lt:=Qk (S:=S) (p:=p) (q:=q) C;have tk:∀y,(∀x∈(v::st).take z,y≤x)->y≤p->∀x∈(v::st).take (z+1),y≤x:=λy h1 h2 x O=>by
     rw[aaX,U]at O;obtain O|O:=aa4.mp O
     .exact h1 x O
     .rw[aah.mp O];exact h2
    dsimp only[prD];ext s;refine aG (λz=>?_) (λz=>?_)
    .ext s;have hlt:=lt.mp (agu.mp (by rw[aaJ,aaJ];exact z));exact hD2 _ ⟨p,some (prD (cutN S p)),rfl,GE U,tk p (λx O=>aao (aa7 hlt) (hmn x O)) (Ge _)⟩
    .ext s;refine hD2 _ ⟨q,some (prD (cutN S p)),rfl,hq,tk q hmn (Nat.le_of_not_lt λy=>z ?_)⟩;have:=agu.mpr (lt.mpr y);rwa[aaJ,aaJ]at this
   .rintro m hm ⟨q,b,rfl,hq,hmn⟩;rw[gE,gE,aae]at hmn;ext s;rw[aA,ab8];refine O5 (by omega) (by omega) (by simp;omega) ?_;rw[aaW,uU];refine mh (k:=2) rfl (show 1≤2 by decide) (λj hj=>?_) (J _ ⟨aap n L,aap n q,some (.imm (prD (cutN S q))),b.map L2.R.imm,fd,by rw[aft,aft];rfl,I.mono (by omega),by rw[ab8],by rw[ab8],λr R=>?_,λp hp=>?_,?_⟩)
    .match j with
     |0|1|2|3|5|7=>exact λz=>by cases z
     |6=>cases b with
      |none=>exact λz=>by cases z
      |some b=>exact λz=>by cases z
     |4=>exact(hj rfl).elim
     |n+8=>exact λz=>by cases z
    .rw[afS R];exact hr L aac
    .rw[afS hp];exact M q hq
    .exact mf (by omega) hmn
  .ext s;exact J _ ⟨rs,sp,none,none,fd,rfl,I.mono (by omega),rfl,W,hr,M,Ge _⟩
 intro _ ⟨t,o,a,b,fd,rfl,I,hrl,hsl',R,Z,hsum⟩;ext x;rw[aA];ext e;rw[aaW];ext n;refine cb (λz m=>∃a,m=MSt.mk [a,some (.obj 2),some (.imm (.tuple (natD t)))] [fd,((B::sp).map (cutN S)).map prD,(o.map (cutN S)).map prD,((aex (srvS S) o t).take z).map Srv.d] 4) ⟨none,rfl⟩ ?_ ?_
 .rintro z d m e hz ⟨a,rfl⟩ D1 hD1 hR1;let⟨hi,rfl⟩:=cJ e;let⟨r,er⟩:∃r,t[z]?=some r:=⟨_,iO (by omega)⟩;let⟨p,U⟩:∃p,o[z]?=some p:=⟨_,iO (by omega)⟩;rw[show(0:Int)+(z:Int)=((z:Nat):Int) by omega];ext s;refine ju (d:=prD (cutN S p)) rfl (aE (by rw[aaa,aaa,U];rfl)) ?_;ext s;refine aH (aE (aI er)) ?_;ext s;refine⟨_,rfl,by rw[aaj,gE,aaG];omega,hD1 _ ⟨some (.imm (.int (z:Int))),?_⟩⟩;rw[aaX,acs.mpr ⟨p,r,U,er,rfl⟩,aaE];rfl
 .rintro m hm ⟨a',rfl⟩;have ezl:(aex (srvS S) o t).length=t.length:=by rw[List.length_zipWith];omega
  rw[aP,<-ezl,aae];ext s;refine ju (d:=prD (cutN S B)) rfl (show atI (((B::sp).map (cutN S)).map prD) 0=some (prD (cutN S B))from aE (j:=0) (xs:=((B::sp).map (cutN S)).map prD) rfl) ?_;ext s;refine⟨fd,_,_,rfl,I,by omega,by omega,by omega,λq fd hq0 hq1 I=>?_⟩;ext x;have c0:=pC (b:=S) (p:=B) h0.1 (by omega) C (by omega);rw[acJ]at hSs;refine k (zk S B o t (decide (q=0))) S fd ⟨c0.1,c0.2.1,c0.2.2.1,c0.2.2.2,by show 1≤(aex (srvS S) o t).length;omega,by show(aex (srvS S) o t).length≤4;omega,λs hs=>?_⟩ (Fy C hS2 (by omega) (by omega)) (I.mono (by omega));let⟨i,hi⟩:=adJ hs;let⟨p,r,e1,e2,rfl⟩:=acs.mp hi;have hp:=Z p (GE e1);exact Fc (pC (b:=S) (p:=p) hp.1 (by omega) C (by omega)) (R r (GE e2))
theorem jS(T:Bl K mg)(D:DefM K mg "_law_all_lines" cF ["_law_hall_here"]):FnM P w K mg base "_law_all_lines" 1 1 LW:=by
 refine ba D br rfl (nN:=6) rfl (by decide) ?ar λJ A outer s H E f hr=>⟨_,(mz' (am 1 br.nd (bZ (mc' (ai mn') mn')))
   (mz' (bJ (bI (ae (mv' 0) mh')) (bv (n:=2) (ah (ay 2 br.nd) (ah (ay 3 br.nd) bh))) (mz' (am 4 br.nd (bZ mn'))
   (mz' (bJ (bI (mv' 1)) (oH (i:=5) br.nd rfl (adg rfl)) (aa (cY (iu afT afU m8 (mv' 4) (mc' (cG (own:=["_law_many"]) (fr:=["_law_lines"]) (ps:=[5]) (sc:=(ac cF)) (by exact⟨rfl,by decide +kernel,by decide +kernel,by decide +kernel,by decide +kernel⟩) (ce (by rfl) T.range (mc' (af aY (mv' 3) mh') mn')) (λ_ _ _ _ _=>(ay 0 (show ach ((["_law_many"]:List Str)++(["_law_lines"]:List Str))from by decide +kernel))) (λ_ _ _ _ _=>cZ) (λ_ _ _ _ _=>(af aY (mv' 1) (ai (mc' (mv' 0) mn'))))) mn')))) aaF)
   (aa (am 1 br.nd (mv' 4))))) aaF)
   (aa (al (mv' 1))))),?_⟩
 case ar=>intro B L ⟨h,rfl,_⟩;rfl
 intro B L O ⟨h,rfl,ho,k⟩;refine ap (MSt.mk [some (.imm (.tuple [.tuple [.int h.a,.int h.b],.tuple (h.ss.map Srv.d),.bool h.mv])),none,none,none,none,none] [] 0) rfl ?_;ext s;ext d;refine fq (λi m=>∃a b c,m=MSt.mk [some (.imm (.tuple [.tuple [.int h.a,.int h.b],.tuple (h.ss.map Srv.d),.bool h.mv])),some (.obj 0),a,b,none,c] [(((h.rs.take i).foldl M3.stepL [[]]).map lnD)] 0) ⟨none,none,none,rfl⟩ ?_ ?_
 .rintro i d m e n ⟨a,b,c,rfl⟩;let⟨s,u,rfl,R⟩:=gmap e;have r1:=(ho.ok s (GE u)).r1;have r6:=(ho.ok s (GE u)).r6;have M:=h.rsl;generalize g:(h.rs.take i).foldl M3.stepL [[]]=p;have q:∀a∈p,a.length≤4:=by
   intro a ha;rw[<-g]at ha;have:=M3.allR_len (by rw[<-M3.allL_eq];exact ha);rw[this,aaG];have:=ho.n4;omega
  have C:p.length≤2401:=by
   rw[<-g];exact M3.fold_small (by rw[aaG];have:=ho.n4;omega) (λr hr=>ho.r6 r (abW hr))
  have o:((h.rs.take (i+1)).foldl M3.stepL [[]])=M3.stepL p s.r:=by
   rw[aaX,Hall.rs_get u,adA,g];rfl
  rw[o];ext g
  .rfl
  ext s;ext d;refine jk (λi m=>∃a,m=MSt.mk [some (.imm (.tuple [.tuple [.int h.a,.int h.b],.tuple (h.ss.map Srv.d),.bool h.mv])),some (.obj 0),some (.imm (.tuple [.int s.a,.int s.b])),some (.imm (.int s.r)),some (.obj 1),a] [p.map lnD,(M3.stepL (p.take i) s.r).map lnD] 1) ⟨c,rfl⟩ ?_ ?_ ?_
  .rintro j m ⟨a,rfl⟩;rfl
  .rintro j d m ej nj ⟨a,rfl⟩;let⟨l,x,rfl,Q⟩:=gmap ej;have I:=q l (GE x);ext s;ext e;have N:((s.r:Int)+1).toNat=s.r+1:=by omega
   rw[N];ext n;refine cb (λz m=>∃b,m=MSt.mk [b,some (.imm (lnD l))] [p.map lnD,(M3.stepL (p.take j) s.r).map lnD,((aaB z).map λy=>l++[y]).map lnD] 3) ⟨none,rfl⟩ ?_ ?_
   .rintro z dz m ez nz ⟨b,rfl⟩ D1 hD1 hR1;let⟨v,rfl⟩:=cJ ez;ext s;refine lq (by rw[aaj,aA];simp;omega) ?_;ext s;refine⟨_,rfl,by rw[aaj];simp;omega,hD1 _ ⟨some (.imm (.int (0+(z:Int)))),?_⟩⟩;have t:((aaB (z+1)).map λy=>l++[y]).map lnD=((aaB z).map λy=>l++[y]).map lnD++[.tuple (natD l++[.int (0+(z:Int))])]:=by
     rw[ac2];simp[lnD,natD]
    rw[t];rfl
   .rintro m n ⟨b,rfl⟩;rw[aP];ext s;have v:((M3.stepL (p.take j) s.r).map lnD).length+(((aaB (s.r+1)).map λy=>l++[y]).map lnD).length≤aaf:=by
     rw[aaj,gE,gE,gE,abg,M3.stepL_length,aaG];have:min j p.length*(s.r+1)≤2401*7:=abG (by omega) (by omega);omega
    refine' Du (ds:=(M3.stepL (p.take j) s.r).map lnD) ?eb v ?_
    case eb=>rfl
    have t:(M3.stepL (p.take (j+1)) s.r).map lnD=(M3.stepL (p.take j) s.r).map lnD++((aaB (s.r+1)).map λy=>l++[y]).map lnD:=by
     rw[M3.stepL_take x,aaE]
    rw[t];exact⟨_,rfl⟩
  .rintro m n ⟨a,rfl⟩;rw[gE,aae];ext n;refine D6 ?_;refine Lp rfl ?_;refine sf [1] (MSt.mk [some (.imm (.tuple [.tuple [.int h.a,.int h.b],.tuple (h.ss.map Srv.d),.bool h.mv])),some (.obj 0),some (.imm (.tuple [.int s.a,.int s.b])),some (.imm (.int s.r)),none,none] [(M3.stepL p s.r).map lnD] 0) (Bz rfl rfl rfl rfl rfl rfl ⟨rfl,⟨1,rfl,rfl⟩,rfl,rfl,trivial,trivial,trivial⟩) ⟨_,_,_,rfl⟩
 .rintro m n ⟨a,b,c,rfl⟩;rw[gE,<-h.rsl,aae,show h.rs.foldl M3.stepL [[]]=M3.allL h.rs from rfl,M3.allL_eq];ext s;exact k
theorem uh(T:Bl K mg)(D:DefM K mg "_law_rule" h9 ["_law_tape_here","_law_hall_here"])(g:FnM P w K mg base "_law_draw" 1 2 lb)(b:FnM P w K mg base "_law_all_lines" 1 1 LW):FnM P w K mg base "_law_rule" 2 2 AC:=by
 refine ba D kJ rfl (nN:=3) rfl (by decide) ?ar λS A outer s H E f hr=>⟨_,(mz' (am 2 kJ.nd (ae (bZ (mc' aC (mc' aC (mc' aC (mc' aC (mc' aC (mc' aC mn'))))))) (mf' g (hr.mono (by decide)) (mc' (mv' 0) (mc' mh' mn')))))
   (mz' (bf (av (vP hr.units) (mv' 2) aC (aK _)) (aa (al (ai (mc' (mv' 2) mn')))) aw)
   (aa (al (ai (mc' (mv' 2) (mc' (dE f9 (by rfl) T.tuple j6 (mc' (cG (own:=["_law_lines"]) (fr:=["_law_tape_here","_law_hall_here"]) (ps:=[0,1]) (sc:=(ac h9)) (by exact⟨rfl,by decide +kernel,by decide +kernel,by decide +kernel,by decide +kernel⟩) (bI (fU (mf' b (hr.mono (by decide)) (mc' (mv' 1) mn')))) (λ_ _ _ _ _=>(ay 0 (show ach ((["_law_lines"]:List Str)++(["_law_tape_here","_law_hall_here"]:List Str))from by decide +kernel))) (λ_ _ _ _ _=>cZ) (λ_ _ _ _ _=>(mf' g (hr.mono (by decide)) (mc' (mv' 1) (mc' (au aW (by rfl) T.len cg (mc' (ae (mv' 2) mh') mn')) mn'))))) mn')) mn'))))))),?_⟩
 case ar=>intro Q N ⟨fd,c,h,rfl,_⟩;rfl
 intro Q N Z ⟨fd,c,h,rfl,ho,t,X,k⟩;have n1:=ho.n1;have n4:=ho.n4;refine ap (MSt.mk [some (.obj 0),some (.imm (.tuple [.tuple [.int h.a,.int h.b],.tuple (h.ss.map Srv.d),.bool h.mv])),none] [fd] 1) rfl ?_;ext s;refine⟨fd,_,c,rfl,t,by omega,by decide,by decide,λr fd J U t=>?_⟩;ext x;have j:∀(q:Rule) (x:Str),atI [ags "random",.str "two",.str "least",.str "quick",.str "turns",.str "told"] r=some (.str x)->q.d = .tuple [.str x]->q.Ok h->x ≠ "told" -> ∃d,atI [ags "random",.str "two",.str "least",.str "quick",.str "turns",.str "told"] r=some d/\((∃x q,d = .str x/\x ≠ "told"/\Rule.d q = .tuple [.str x]/\q.Ok h)\/d = .str "told"):=λq x R W I O=>⟨_,R,.inl ⟨x,q,rfl,O,W,I⟩⟩;let⟨d,C,hd⟩:∃d,atI [ags "random",.str "two",.str "least",.str "quick",.str "turns",.str "told"] r=some d/\((∃x q,d = .str x/\x ≠ "told"/\Rule.d q = .tuple [.str x]/\q.Ok h)\/d = .str "told"):=by
  rcases (show r=0\/r=1\/r=2\/r=3\/r=4\/r=5 by omega)with rfl|rfl|rfl|rfl|rfl|rfl
  .exact j .random "random" rfl rfl trivial (by decide +kernel)
  .exact j .two "two" rfl rfl trivial (by decide +kernel)
  .exact j .least "least" rfl rfl trivial (by decide +kernel)
  .exact j .quick "quick" rfl rfl trivial (by decide +kernel)
  .exact j .turns "turns" rfl rfl trivial (by decide +kernel)
  .exact⟨_,rfl,.inr rfl⟩
 refine jt C ?_;rcases hd with⟨x,q,rfl,V,eq,L⟩|rfl
 .ext s;rw[decide_eq_false V];refine lw ?_;ext s;rw[<-eq];exact k q fd L (t.mono (by omega))
 .ext s;rw[decide_eq_true rfl];refine iq ?_;ext s;refine⟨h,rfl,ho,?_⟩;ext x;ext n;have M:(M3.allR h.rs).length≤2401:=wn (by rw[h.rsl];exact n4) ho.r6;refine fq (λi m=>∃a o ps,m=MSt.mk [a,some (.obj 0),some (.imm (.tuple [.tuple [.int h.a,.int h.b],.tuple (h.ss.map Srv.d),.bool h.mv]))] [o,natD ps] 2/\TapeD (c+1+i) o/\ps.length=i/\∀p∈ps,p<h.ss.length) ⟨none,fd,[],rfl,t,rfl,λ_ h=>by cases h⟩ ?_ ?_
  .rintro i d m e n ⟨a,o,ps,rfl,hf',hpl,hps⟩;let⟨l,el,rfl,Y⟩:=gmap e;ext s;refine⟨o,_,_,rfl,hf',by omega,by rw[gE];omega,by rw[gE];omega,λp v B y u=>?_⟩;rw[gE]at y;ext x;let⟨pn,rfl⟩:=acw B;refine⟨_,rfl,by rw[aaj,aA];omega,_,v,ps++[pn],by rw[vC];rfl,u,by simp;omega,λp hp=>?_⟩;obtain z|z:=aa4.mp hp
   .exact hps p z
   .simp at z;subst z;omega
  .rintro m n ⟨a,o,ps,rfl,hf',hpl,hps⟩;rw[gE]at hf' hpl;ext s;exact k (.told ps) o ⟨hpl,hps⟩ (hf'.mono (by omega))
theorem o6(T:Bl K mg)(D:DefM K mg "_law_orders" fi ["_law_many"]):FnM P w K mg base "_law_orders" 1 1 Ib:=by
 refine ba D cc rfl (nN:=5) rfl (by decide) ?ar λM A outer s H E f hr=>⟨_,(mz' (am 1 cc.nd (bZ (mc' (ai mn') mn')))
   (mz' (bJ (ce (by rfl) T.range (mc' (mv' 0) mn')) (ay 2 cc.nd) (mz' (am 3 cc.nd (bZ mn'))
   (mz' (bJ (bI (mv' 1)) (oH (i:=4) cc.nd rfl (adg rfl)) (aa (cY (iu afT afU m8 (mv' 3) (mc' (cG (own:=["_law_k"]) (fr:=["_law_order"]) (ps:=[4]) (sc:=(ac fi)) (by exact⟨rfl,by decide +kernel,by decide +kernel,by decide +kernel,by decide +kernel⟩) (ce (by rfl) T.range (mc' (mv' 0) mn')) (λ_ _ _ _ _=>(ay 0 (show ach ((["_law_k"]:List Str)++(["_law_order"]:List Str))from by decide +kernel))) (λ_ _ _ _ _=>(vj (av (k8 hr.units) (mv' 0) (mv' 1) (by with_unfolding_all rfl)))) (λ_ _ _ _ _=>(af aY (mv' 1) (ai (mc' (mv' 0) mn'))))) mn')))) aaF)
   (aa (am 1 cc.nd (mv' 3))))) aaF)
   (aa (al (mv' 1))))),?_⟩
 case ar=>intro I N ⟨n,rfl,_⟩;rfl
 intro I N S ⟨n,rfl,n4,k⟩;refine ap (MSt.mk [some (.imm (.int (n:Int))),none,none,none,none] [] 0) rfl ?_;ext s;ext d;ext e;rw[aaW];refine fq (λi m=>∃a b,m=MSt.mk [some (.imm (.int (n:Int))),some (.obj 0),a,none,b] [(ordK n i).map lnD] 0) ⟨none,none,rfl⟩ ?_ ?_
 .rintro i d m e hnp ⟨a,b,rfl⟩;let⟨U,rfl⟩:=cJ e;let⟨o,g⟩:=cE n n4 i (by omega);have j:=iw n n4 i (by omega);rw[show ordK n (i+1)=iE n (ordK n i)from rfl];generalize ordK n i=os at o g j;ext s;ext d;refine jk (λz m=>∃c d,m=MSt.mk [some (.imm (.int (n:Int))),some (.obj 0),c,some (.obj 1),d] [os.map lnD,(iE n (os.take z)).map lnD] 1) ⟨_,_,rfl⟩ ?_ ?_ ?_
  .rintro z m ⟨c,d,rfl⟩;rfl
  .rintro z d m ez nz ⟨c,d',rfl⟩;let⟨l,u,rfl,R⟩:=gmap ez;let⟨L,O⟩:=g l (GE u);have J:=(DL.mp u).1;have v:=j z (by omega);ext s;ext e;rw[aaW];ext n;refine fq (λy m=>∃c,m=MSt.mk [c,some (.imm (lnD l))] [os.map lnD,(iE n (os.take z)).map lnD,(((aaB y).filter λq=>!l.contains q).map λq=>l++[q]).map lnD] 3) ⟨none,rfl⟩ ?_ ?_
   .rintro y d m ey ny ⟨c,rfl⟩;let⟨Q,rfl⟩:=cJ ey;rw[show(0:Int)+(y:Int)=((y:Nat):Int) by omega];have p:(natD l).any (λx=>aar x (.int (y:Int)))=l.contains y:=by
     rw[ab6,aga];rw[agG];constructor
     .rintro⟨x,hx,ex⟩;let⟨w,C,rfl⟩:=aau.mp hx;rw[ck]at ex;rw[<-of_decide_eq_true ex];exact C
     .intro hm;exact⟨_,aau.mpr ⟨y,hm,rfl⟩,by rw[ck];exact decide_eq_true rfl⟩
    have B:(((aaB y).filter λq=>!l.contains q).map λq=>l++[q]).length≤4:=by
     rw[gE];have:=aeC (λq=>!l.contains q) (aaB y);rw[abg]at this;omega
    ext s;refine x_in (d:=.int (y:Int)) (ds:=natD l) rfl (.inr rfl) (fW _) (gf l) (by decide) ?_;ext s;rw[p];rw[ac2,ahr,aaE,aaE]
    cases hc:l.contains y with
    |true=>
     refine iq ?_;ext s;refine⟨some (.imm (.int (y:Int))),?_⟩;rw[show([y].filter λq=>!l.contains q)=[] by rw[aeM,hc];rfl,aer,aer,aaO];rfl
    |false=>
     refine lw ?_;ext s;refine lq (by rw[aaj,aA];simp;omega) ?_;ext s;refine⟨_,rfl,by rw[aaj,gE];omega,some (.imm (.int (y:Int))),?_⟩;rw[show([y].filter λq=>!l.contains q)=[y] by rw[aeM,hc];rfl];simp[lnD,natD,MSt.setV]
   .rintro m ny ⟨c,rfl⟩;rw[aP];ext x;have t:=mH (n:=n) u;refine⟨_,rfl,by show((iE n (os.take z)).map lnD).length+((((aaB n).filter λq=>!l.contains q).map λq=>l++[q]).map lnD).length≤aaf;rw[aaj,gE,gE,gE];have:=aeC (λq=>!l.contains q) (aaB n);rw[abg]at this;omega,?_⟩;rw[t,aaE];exact⟨_,_,rfl⟩
  .rintro m nz ⟨c,d',rfl⟩;rw[gE,aae];ext n;refine D6 (Lp rfl (sf [1] (MSt.mk [some (.imm (.int (n:Int))),some (.obj 0),none,none,none] [(iE n os).map lnD] 0) (Bz rfl rfl rfl rfl rfl rfl ⟨rfl,⟨1,rfl,rfl⟩,trivial,trivial,trivial,trivial⟩) ⟨_,_,rfl⟩))
 .rintro m hnp ⟨a,b,rfl⟩;rw[aP];ext s;exact k
theorem lZ(T:Bl K mg)(D:DefM K mg "_law_soonest" fZ ["_law_hall_here","_law_lines","_law_order"]):FnM P w K mg base "_law_soonest" 1 3 qk:=by
 refine ba D bH rfl (nN:=8) rfl (by decide) ?ar λO A outer s H E f hr=>⟨_,(mz' (am 3 bH.nd (ae (mv' 2) mh'))
   (mz' (bJ (bI (mv' 2)) (ay 4 bH.nd) (mz' (am 5 bH.nd (ae (ae (ae (mv' 0) mh') (mv' 4)) mh'))
   (mz' (am 6 bH.nd (ae (ae (ae (mv' 0) mh') (mv' 3)) mh'))
   (mz' (am 7 bH.nd (af aF (af aF (af aY (ae (mv' 1) (mv' 4)) mh') (ae (mv' 5) mh')) (ae (mv' 6) mh')))
   (aa (bf (av gj (mv' 7) (af aF (af aF (af aY (ae (mv' 1) (mv' 3)) mh') (ae (mv' 6) mh')) (ae (mv' 5) mh')) (aK _)) (aa (am 3 bH.nd (mv' 4))) aw))))) aaF)
   (aa (al (mv' 3))))),?_⟩
 case ar=>intro N Q ⟨h,l,o,rfl,_⟩;rfl
 intro N Q W ⟨h,l,o,rfl,ho,u,y,k⟩;let⟨p,os,rfl,h0⟩:=y.cons;refine ap (MSt.mk [some (.imm (.tuple [.tuple [.int h.a,.int h.b],.tuple (h.ss.map Srv.d),.bool h.mv])),some (.imm (.tuple (natD l))),some (.imm (.tuple (natD (p::os)))),none,none,none,none,none] [] 0) rfl ?_;ext s;refine aH (aE (j:=0) (aI rfl)) ?_;ext s;refine cb (λi m=>∃a b c d,m=MSt.mk [some (.imm (.tuple [.tuple [.int h.a,.int h.b],.tuple (h.ss.map Srv.d),.bool h.mv])),some (.imm (.tuple (natD l))),some (.imm (.tuple (natD (p::os)))),some (.imm (.int (M7.pick (bO h l) p ((p::os).take i):Nat))),a,b,c,d] [] 0) ⟨none,none,none,none,rfl⟩ ?_ ?_
 .rintro i d m e n ⟨a,b,c,d',rfl⟩ D1 hD1 hR1;let⟨j,L,rfl,hi⟩:=gmap e;have J:=y.lt j (GE L);have hb:M7.pick (bO h l) p ((p::os).take i)<h.ss.length:=gN y i;have R:(p::os).take (i+1)=(p::os).take i++[j]:=by rw[aaX,L];rfl
  rw[R,M7.pick_app]at hD1;generalize M7.pick (bO h l) p ((p::os).take i)=b at hb hD1⊢;let⟨s,U,S,eb,hs⟩:=h.srv J;let⟨g,x,B,I,C⟩:=h.srv hb;have M:=ho.ok s hs;have v:=ho.ok g C;have q1:=M.a2;have X:=M.b2;have Y:=v.a2;have V:=v.b2;have l1:=u.le ho _ (GE (getN u.1 J));have Z:=u.le ho _ (GE (getN u.1 hb));have m1:(l.getD j 0+1)*s.b≤7*1000000:=abG (by omega) (by omega);have m2:(l.getD b 0+1)*g.b≤7*1000000:=abG (by omega) (by omega);ext s;refine aH (d:=s.d) (aE (by rw[aaa,U];rfl)) ?_;ext g;refine aH (d:=g.d) (aE (by rw[aaa,x];rfl)) ?_;ext g;refine aH (aE (aI (getN u.1 J))) ?_;ext s;refine aH (aE (aI (getN u.1 hb))) ?_;ext s;have eq:bO h l j b=decide ((l.getD j 0+1)*s.b*g.a<(l.getD b 0+1)*g.b*s.a):=by unfold bO;rw[S,eb,B,I]
  have t:(((l.getD j 0:Int)+1)*(s.b:Int)*(g.a:Int)<((l.getD b 0:Int)+1)*(g.b:Int)*(s.a:Int))↔((l.getD j 0+1)*s.b*g.a<(l.getD b 0+1)*g.b*s.a):=by
   rw[show((l.getD j 0:Int)+1)*(s.b:Int)*(g.a:Int)=(((l.getD j 0+1)*s.b*g.a:Nat):Int) by rw[aaJ,aaJ,acx];rfl,show((l.getD b 0:Int)+1)*(g.b:Int)*(s.a:Int)=(((l.getD b 0+1)*g.b*s.a:Nat):Int) by rw[aaJ,aaJ,acx];rfl];exact agu
  refine aG (λq=>?_) (λq=>?_)
  .ext s;rw[if_pos (show bO h l j b=true by rw[eq];exact decide_eq_true (t.mp q))]at hD1;exact hD1 _ ⟨_,_,_,_,rfl⟩
  .ext s;rw[if_neg (show ¬bO h l j b=true by rw[eq,decide_eq_true_eq];exact λz=>q (t.mpr z))]at hD1;exact hD1 _ ⟨_,_,_,_,rfl⟩
 .rintro m n ⟨a,b,c,d,rfl⟩;rw[aA,aae];ext s;exact k
theorem ud(T:Bl K mg)(D:DefM K mg "_law_sent" jD ["_law_hall_here","_law_rule_here","_law_stand","_law_order"])(c:FnM P w K mg base "_law_all_lines" 1 1 LW)(p:FnM P w K mg base "_law_soonest" 1 3 qk):FnM P w K mg base "_law_sent" 2 4 kg:=by
 refine ba D b9 rfl (nN:=9) rfl (by decide) ?ar λW A outer s H E f hr=>⟨_,(mz' (cQ (mv' 2) (bv (n:=2) (ah (ay 4 b9.nd) (ah (ay 5 b9.nd) bh))))
   (mz' (bf (av (bW hr.units) (ae (mv' 1) mh') aC (aK _)) (aa (al (ae (mv' 3) mh'))) aw)
   (mz' (bf (av (bW hr.units) (ae (mv' 1) mh') aC (aK _)) (aa (al (mv' 5))) aw)
   (mz' (bf (av (bW hr.units) (ae (mv' 1) mh') aC (aK _)) (aa (al (ae (ae (mv' 1) mh') (iu af0 PySem.F.type_list_index (AW hr.units) (mf' c (hr.mono (by decide)) (mc' (mv' 0) mn')) (mc' (mv' 4) mn'))))) aw)
   (mz' (bf (av (bW hr.units) (ae (mv' 1) mh') aC (aK _)) (aa (al (mf' p (hr.mono (by decide)) (mc' (mv' 0) (mc' (mv' 4) (mc' (mv' 3) mn')))))) aw)
   (mz' (am 6 b9.nd (mv' 3))
   (mz' (bf (av (bW hr.units) (ae (mv' 1) mh') aC (aK _)) (aa (am 6 b9.nd (cN f8 (mv' 3) dq (dB mh')))) aw)
   (mz' (am 7 b9.nd (ae (mv' 6) mh'))
   (mz' (bJ (bI (mv' 6)) (ay 8 b9.nd) (aa (bf (av gj (ae (mv' 4) (mv' 8)) (ae (mv' 4) (mv' 7)) (aK _)) (aa (am 7 b9.nd (mv' 8))) aw)) aaF)
   (aa (al (mv' 7)))))))))))),?_⟩
 case ar=>intro U R ⟨h,r,l,t,o,rfl,_⟩;rfl
 intro U R X ⟨h,r,l,t,o,rfl,ho,I,C,B,k⟩;have L:=C.1;have u:Ord l.length o:=by rw[L];exact B
 cases r with
 |random=>
  refine ap (MSt.mk [some (.imm h.d),some (.imm (.tuple [.str "random"])),some (.imm (.tuple [lnD l,.int (t:Int)])),some (.imm (.tuple (natD o))),none,none,none,none,none] [] 0) rfl ?_;ext s
  .rfl
  ext s;ext f;let⟨g,os,rfl,h0⟩:=B.cons;ext s;refine aH (aE (j:=0) (aI rfl)) ?_;ext s;exact k
 |turns=>
  refine ap (MSt.mk [some (.imm h.d),some (.imm (.tuple [.str "turns"])),some (.imm (.tuple [lnD l,.int (t:Int)])),some (.imm (.tuple (natD o))),none,none,none,none,none] [] 0) rfl ?_;ext s
  .rfl
  ext s;ext b;exact k
 | told Q=>
  refine ap (MSt.mk [some (.imm h.d),some (.imm (.tuple [.str "told",.tuple (natD Q)])),some (.imm (.tuple [lnD l,.int (t:Int)])),some (.imm (.tuple (natD o))),none,none,none,none,none] [] 0) rfl ?_;ext s
  .rfl
  ext a;ext f;ext s;refine⟨h,rfl,ho,?_⟩;ext x;have hp:=M7.place_at C.fits;refine NU (k':=1) (j:=M7.placeF 0 h.rs l) (y:=lnD l) rfl (Cy l) (λy J=>?_) (by decide) (by rw[aaa,hp];rfl) (by rw[yB];exact decide_eq_true rfl) (λi y S J=>?_) ?_
  .obtain⟨l',_,rfl⟩:=aau.mp J;exact Cy l'
  .obtain⟨l',el,rfl,_⟩:=gmap J;rw[yB];refine decide_eq_false λz=>?_;subst z;have:=M7.place_only el;omega
  .ext n;have M:M7.placeF 0 h.rs l<Q.length:=by rw[I.1,M7.allR_cnt];exact M7.place_lt C.fits
   refine aH (aE (aI (getN rfl M))) ?_;exact k
 |quick=>
  refine ap (MSt.mk [some (.imm h.d),some (.imm (.tuple [.str "quick"])),some (.imm (.tuple [lnD l,.int (t:Int)])),some (.imm (.tuple (natD o))),none,none,none,none,none] [] 0) rfl ?_;ext s
  .rfl
  ext a;ext b;refine⟨h,l,o,rfl,ho,C,B,?_⟩;ext n;exact k
 | least=>
  refine ap (MSt.mk [some (.imm h.d),some (.imm (.tuple [.str "least"])),some (.imm (.tuple [lnD l,.int (t:Int)])),some (.imm (.tuple (natD o))),none,none,none,none,none] [] 0) rfl ?_;ext s
  .rfl
  ext a;ext c;ext s;ext c;ext s;ext c;let⟨g,os,rfl,h0⟩:=u.cons;have x:=u;ext s;dsimp only[lnD];refine aH (aE (j:=0) (aI rfl)) ?_;ext s;refine cb (λi m=>∃a,m=MSt.mk [some (.imm h.d),some (.imm (.tuple [.str "least"])),some (.imm (.tuple [lnD l,.int (t:Int)])),some (.imm (.tuple (natD (g::os)))),some (.imm (.tuple (natD l))),some (.imm (.int (t:Int))),some (.imm (.tuple (natD (g::os)))),some (.imm (.int (M7.pick (bx l) g ((g::os).take i):Nat))),a] [] 0) ⟨none,rfl⟩ ?_ ?_
  .rintro i d m e n ⟨a,rfl⟩ D1 hD1 hR1;let⟨j,v,rfl,S⟩:=gmap e;have O:=x.lt j (GE v);have hb:M7.pick (bx l) g ((g::os).take i)<l.length:=gN x i;have N:(g::os).take (i+1)=(g::os).take i++[j]:=by rw[aaX,v];rfl
   rw[N,M7.pick_app]at hD1;generalize M7.pick (bx l) g ((g::os).take i)=b at hb hD1⊢;ext s;refine aH (aE (aI (getN rfl O))) ?_;ext s;refine aH (aE (aI (getN rfl hb))) ?_;ext s;refine aG (λh=>?_) (λh=>?_)
   .ext s;rw[if_pos (show bx l j b=true from decide_eq_true (by omega))]at hD1;exact hD1 _ ⟨_,rfl⟩
   .ext s;rw[if_neg (show ¬bx l j b=true by unfold bx;rw[decide_eq_true_eq];omega)]at hD1;exact hD1 _ ⟨_,rfl⟩
  .rintro m n ⟨a,rfl⟩;rw[aA,aae];ext s;exact k
 | two=>
  refine ap (MSt.mk [some (.imm h.d),some (.imm (.tuple [.str "two"])),some (.imm (.tuple [lnD l,.int (t:Int)])),some (.imm (.tuple (natD o))),none,none,none,none,none] [] 0) rfl ?_;ext s
  .rfl
  ext a;ext c;ext s;ext b;have e:cutD (natD o) none (some 2)=natD (o.take 2):=by
   rw[show(2:Int)=((2:Nat):Int)from rfl,ko];simp[natD]
  rw[e];let⟨g,os,rfl,h0⟩:=B.cons;have x:Ord l.length (g::os.take 1):=⟨by simp,λk V=>u.lt k (abW (i:=2) V),by rw[aaI,aaG];omega⟩;replace k:R (.imm (.int (M7.pick (bx l) g (g::os.take 1):Nat))) []:=k;ext n;generalize os.take 1=q at *;refine aH (aE (j:=0) (aI rfl)) ?_;ext s;refine cb (λi m=>∃a,m=MSt.mk [some (.imm h.d),some (.imm (.tuple [.str "two"])),some (.imm (.tuple [lnD l,.int (t:Int)])),some (.imm (.tuple (natD (g::os)))),some (.imm (.tuple (natD l))),some (.imm (.int (t:Int))),some (.imm (.tuple (natD (g::q)))),some (.imm (.int (M7.pick (bx l) g ((g::q).take i):Nat))),a] [] 0) ⟨none,rfl⟩ ?_ ?_
  .rintro i d m e n ⟨a,rfl⟩ D1 hD1 hR1;let⟨j,v,rfl,S⟩:=gmap e;have O:=x.lt j (GE v);have hb:M7.pick (bx l) g ((g::q).take i)<l.length:=gN x i;have N:(g::q).take (i+1)=(g::q).take i++[j]:=by rw[aaX,v];rfl
   rw[N,M7.pick_app]at hD1;generalize M7.pick (bx l) g ((g::q).take i)=b at hb hD1⊢;ext s;refine aH (aE (aI (getN rfl O))) ?_;ext s;refine aH (aE (aI (getN rfl hb))) ?_;ext s;refine aG (λh=>?_) (λh=>?_)
   .ext s;rw[if_pos (show bx l j b=true from decide_eq_true (by omega))]at hD1;exact hD1 _ ⟨_,rfl⟩
   .ext s;rw[if_neg (show ¬bx l j b=true by unfold bx;rw[decide_eq_true_eq];omega)]at hD1;exact hD1 _ ⟨_,rfl⟩
  .rintro m n ⟨a,rfl⟩;rw[aA,aae];ext s;exact k
theorem tq(T:Bl K mg)(D:DefM K mg "_law_more" jF ["_law_lines","_law_k","_law_many"]):FnM P w K mg base "_law_more" 1 3 jM:=by
 refine ba D sW rfl (nN:=3) rfl (by decide) ?ar λg A outer s H E f hr=>⟨_,(aa (al (af aY (af aY (cN f8 (mv' 0) dq (dB (mv' 1))) (ai (mc' (af aY (ae (mv' 0) (mv' 1)) (mv' 2)) mn'))) (cN f8 (mv' 0) (dB (af aY (mv' 1) mh')) dq)))),?_⟩
 case ar=>intro b i ⟨l,j,d,x,rfl,_⟩;rfl
 intro b i n ⟨l,j,d,x,rfl,a,c,m,k⟩;refine ap (MSt.mk [some (.imm (.tuple (natD l))),some (.imm (.int (j:Int))),some (.imm (.int d))] [] 0) rfl ?_;ext s;refine aH (aE (aI (getN rfl a))) ?_;ext s;rw[m,ko];refine lq (by rw[aaj,aaG,aA];simp;omega) ?_;ext s;rw[show(j:Int)+1=((j+1:Nat):Int)from rfl,kM];refine lq (by rw[aaj,aat,aaG,aeF,aA];simp;omega) ?_;ext s;have e:(natD l).take j++[.int (x:Int)]++(natD l).drop (j+1)=natD (l.set j x):=by
  rw[<-vM,aek,if_pos (by rw[aA];exact a)];simp
 rw[e];exact k
theorem pk(T:Bl K mg)(D:DefM K mg "_law_evened" gu ["_law_hall_here","_law_lines"])(b:FnM P w K mg base "_law_more" 1 3 jM):FnM P w K mg base "_law_evened" 2 2 pH:=by
 refine ba D fT rfl (nN:=2) rfl (by decide) ?ar λcdv A outer s H E f hr=>⟨_,(mz' (fJ (EW.pt (jj (iK (ae (mv' 0) mh')) (jj (av (bW hr.units) (au (xu rfl) (by rfl) T.min Ph (mc' (mv' 1) mn')) mh' (aK _)) (kh (av i5 (au (gV rfl) (by rfl) T.max u8 (mc' (mv' 1) mn')) mh' (aK _)))))) (mz' (am 1 fT.nd (mf' b (hr.mono (by decide)) (mc' (mv' 1) (mc' (vg acm add (h8 hr.units) (mv' 1) (mc' (au (gV rfl) (by rfl) T.max u8 (mc' (mv' 1) mn')) mn')) (mc' (lH iA mh') mn')))))
   (aa (am 1 fT.nd (mf' b (hr.mono (by decide)) (mc' (mv' 1) (mc' (vg acm add (h8 hr.units) (mv' 1) (mc' mh' mn')) (mc' mh' mn'))))))) aaF)
   (aa (al (mv' 1)))),?_⟩
 case ar=>intro Z U ⟨h,l,rfl,_⟩;rfl
 intro Z U hl ⟨h,l,rfl,Q,M,k⟩;refine ap (MSt.mk [some (.imm (.tuple [.tuple [.int h.a,.int h.b],.tuple (h.ss.map Srv.d),.bool h.mv])),some (.imm (.tuple (natD l)))] [] 0) rfl ?_;refine uf ?_;refine jm (λn m=>∃a:List Nat,m=MSt.mk [some (.imm (.tuple [.tuple [.int h.a,.int h.b],.tuple (h.ss.map Srv.d),.bool h.mv])),some (.imm (.tuple (natD a)))] [] 0/\n=a.count 0/\di h n a=d9 h l/\a≠[]/\a.length≤1000) (l.count 0) ⟨l,rfl,rfl,rfl,Q,M⟩ ?_;intro n m L ⟨a,rfl,rfl,hs,g,O⟩;have d:dQ (natD a)=some (a.map λ(x:Nat)=>(x:Int)):=by
  have:=f7 (a.map λ(x:Nat)=>(x:Int));rwa[aaN]at this
 have o:(a.map λ(x:Nat)=>(x:Int))≠[]:=λz=>g (ag8.mp z);have t:∀x:Int,x∈(a.map λ(x:Nat)=>(x:Int))->(∀y∈(a.map λ(x:Nat)=>(x:Int)),y≤x)->x=(maxN a:Int):=λx p c=>by
  let⟨n,L,rfl⟩:=aau.mp p;have h1:=sJ n L;have h2:=c (maxN a:Int) (aau.mpr ⟨maxN a,iX g,rfl⟩);omega
 have B:∀x:Int,x∈(a.map λ(x:Nat)=>(x:Int))->(∀y∈(a.map λ(x:Nat)=>(x:Int)),x≤y)->(x=0↔0∈a):=λx p c=>by
  let⟨n,L,rfl⟩:=aau.mp p;constructor
  .intro z;have:n=0:=by omega
   rw[<-this];exact L
  .intro z;have:=c ((0:Nat):Int) (aau.mpr ⟨0,z,rfl⟩);omega
 have done:dM h a=none->U (.imm (lnD a)) []:=λe=>by
  rw[jN e]at hs;rw[<-hs]at k;exact k
 ext s
 cases hmv:h.mv with
 |false=>
  ext s;exact done (if_neg (by rw[hmv];exact λz=>by cases z.1))
 | true=>
  ext s;refine UE rfl d o λx p c=>?_;have C:=B x p c;ext s;refine aG (λz=>?_) (λz=>?_)
  .have h0:0∈a:=C.mp z;ext s;refine uO rfl d o λx p c=>?_;rw[t x p c];ext s;refine aG (λz=>?_) (λz=>?_)
   .have e:dM h a=some (idx a (maxN a),idx a 0):=if_pos ⟨hmv,h0,by omega⟩;let⟨Y,R,l2,hc,u⟩:=jq e;let⟨m0,m1,m2,S,V⟩:=ij e;dsimp only at Y R l2 m1 S V;have s1:=ic (iX g);have s0:=ic h0;have g1:a.getD (idx a (maxN a)) 0=maxN a:=bj m1;have X:(a.set (idx a (maxN a)) (maxN a-1))[idx a 0]?=some 0:=by rw[aaz V];exact S
    have g2:(a.set (idx a (maxN a)) (maxN a-1)).getD (idx a 0) 0=0:=bj X;have n1:∀(i y:Nat),i<idx a 0->(a.set (idx a (maxN a)) (maxN a-1))[i]?=some y->y≠0:=λi y J c=>by
     by_cases W:idx a (maxN a)=i
     .rw[<-W,aaM R]at c;have:=aam c;omega
     .rw[aaz W]at c;exact s0.2 i y J c
    ext s;refine uO rfl d o λx p c=>?_;rw[t x p c];ext s;refine j5 (j:=idx a (maxN a)) (k':=0) (fW _) (gf a) (by decide) (aI s1.1) (by rw[ck];exact decide_eq_true rfl) (λi y J c=>?_) ?_
    .obtain⟨z,ez,rfl,_⟩:=gmap c;rw[ck];exact decide_eq_false (s1.2 i z J ez)
    ext s;refine⟨a,idx a (maxN a),-1,maxN a-1,rfl,R,O,by omega,?_⟩;generalize N:a.set (idx a (maxN a)) (maxN a-1)=v at *;ext n;dsimp only[lnD];ext s;refine j5 (j:=idx a 0) (k':=0) (fW _) (gf v) (by decide) (aI X) (ck 0 0) (λi y J c=>?_) ?_
    .obtain⟨z',ez,rfl,_⟩:=gmap c;have:=ck z' 0;rw[show((0:Nat):Int)=0 from rfl]at this;rw[this];exact decide_eq_false (n1 i z' J ez)
    ext s;have hl3:v.length=a.length:=by rw[<-N,aba]
    refine⟨v,idx a 0,1,1,rfl,by omega,by omega,by omega,?_⟩;rw[<-Y];ext x;have I:cB a (idx a (maxN a),idx a 0)≠[]:=λz=>by
     rw[z]at u;exact g (abj u.symm)
    refine⟨(cB a (idx a (maxN a),idx a 0)).count 0,by omega,cB a (idx a (maxN a),idx a 0),rfl,rfl,?_,I,by omega⟩;rw[<-hs,<-hc];show _=di h ((cB a (idx a (maxN a),idx a 0)).count 0+1) a;simp only[di,e]
   .ext s;exact done (if_neg λq=>by have:=q.2.2;omega)
  .ext s;exact done (if_neg λq=>z (C.mpr q.2.1))
theorem rh(T:Bl K mg)(D:DefM K mg "_law_asked" iz ["_law_hall_here","_law_rule_here","_law_stand","_law_order"])(c:FnM P w K mg base "_law_sent" 2 4 kg)(a:FnM P w K mg base "_law_evened" 2 2 pH)(b:FnM P w K mg base "_law_more" 1 3 jM):FnM P w K mg base "_law_asked" 3 4 vt:=by
 refine ba D c9 rfl (nN:=7) rfl (by decide) ?ar λL A outer s H E f hr=>⟨_,(mz' (cQ (mv' 2) (bv (n:=2) (ah (ay 4 c9.nd) (ah (ay 5 c9.nd) bh))))
   (mz' (am 6 c9.nd (mf' c (hr.mono (by decide)) (mc' (mv' 0) (mc' (mv' 1) (mc' (mv' 2) (mc' (mv' 3) mn'))))))
   (mz' (bf (av (bW hr.units) (ae (mv' 1) mh') aC (aK _)) (aa (am 5 c9.nd (af dh (af aY (mv' 5) mh') (au aW (by rfl) T.len cg (mc' (mv' 4) mn'))))) aw)
   (mz' (bf (av (bW hr.units) (ae (mv' 4) (mv' 6)) (ae (ae (ae (mv' 0) mh') (mv' 6)) mh') (aK _)) (aa (al (ai (mc' (ai (mc' (mf' a (hr.mono (by decide)) (mc' (mv' 0) (mc' (mv' 4) mn'))) (mc' (mv' 5) mn'))) (mc' aC mn'))))) aw)
   (aa (al (ai (mc' (ai (mc' (mf' a (hr.mono (by decide)) (mc' (mv' 0) (mc' (mf' b (hr.mono (by decide)) (mc' (mv' 4) (mc' (mv' 6) (mc' mh' mn')))) mn'))) (mc' (mv' 5) mn'))) (mc' aC mn'))))))))),?_⟩
 case ar=>intro I M ⟨h,r,l,t,o,rfl,_⟩;rfl
 intro I M S ⟨h,r,l,t,o,rfl,ho,g,y,u,k⟩;have q:=y.ln;have i:=q.1;have n1:=ho.n1;have n4:=ho.n4;have ne:∀p:List Nat,p.length=l.length->p≠[]:=λp e z=>by rw[z]at e;simp at e;omega
 refine ap (MSt.mk [some (.imm (.tuple [.tuple [.int h.a,.int h.b],.tuple (h.ss.map Srv.d),.bool h.mv])),some (.imm r.d),some (.imm (.tuple [lnD l,.int (t:Int)])),some (.imm (lnD o)),none,none,none] [] 0) rfl ?_;ext s
 .rfl
 ext s;refine⟨h,r,l,t,o,rfl,ho,g,q,u,?_⟩;have v:=tw ho g q u y.tn;have O:∀(r:Rule),rH h r t=if r.word = "turns" then(t+1)%h.ss.length else t:=by
  intro r
  cases r with
  |turns=>exact(if_pos rfl).symm
  |told R=>exact(if_neg (show ¬("told" : Str) = "turns" by decide +kernel)).symm
  |_=>exact(if_neg (by decide +kernel)).symm
 rw[show mvD (cn h r l t (.come o)) = .tuple [.tuple [lnD (d9 h (fE h l (sent h r l t o)).1),.int (rH h r t:Nat)],.str (fE h l (sent h r l t o)).2.s]from rfl]at k;generalize sent h r l t o=j at *;let⟨s,B,U,eb,hs⟩:=h.srv v;have x:h.rn j=s.r:=bj (Hall.rs_get B);ext n;refine d5 ?_;ext n;refine uf ?_;refine x_JS (λm=>m=MSt.mk [some (.imm (.tuple [.tuple [.int h.a,.int h.b],.tuple (h.ss.map Srv.d),.bool h.mv])),some (.imm r.d),some (.imm (.tuple [lnD l,.int (t:Int)])),some (.imm (lnD o)),some (.imm (lnD l)),some (.imm (.int (rH h r t:Nat))),some (.imm (.int (j:Int)))] [] 0) (λN J=>?_) ?_
 .rw[O r]at J;have Q:∃ds,r.d = .tuple (.str r.word::ds):=by cases r<;>exact⟨_,rfl⟩
  let⟨ds,C⟩:=Q;rw[C]at J⊢;ext s;refine aH (aE (j:=0) (xs:=.str r.word::ds) rfl) ?_;ext s;refine aG (λz=>?_) (λz=>?_)
  .rw[if_pos z]at J;dsimp only[lnD]at J⊢;ext s;rw[aA,i];refine JV (by omega) ?_;refine d5 ?_;exact J _ rfl
  .rw[if_neg z]at J;ext s;exact J _ rfl
 rintro _ rfl;dsimp only[lnD];ext s;refine aH (aE (aI (getN i v))) ?_;ext s;refine aH (d:=s.d) (aE (by rw[aaa,B];rfl)) ?_;ext g;refine aG (λz=>?_) (λz=>?_)
 .have e:fE h l j=(l,.away):=if_pos (by rw[x];omega);rw[e]at k;ext s;refine⟨h,l,rfl,ne l rfl,by omega,?_⟩;ext x;exact k
 .have e:fE h l j=(l.set j (l.getD j 0+1),.taken):=if_neg (by rw[x];omega);rw[e]at k;ext s;refine⟨l,j,1,l.getD j 0+1,rfl,by omega,by omega,rfl,?_⟩;ext x;refine⟨h,_,rfl,ne _ (by simp),by simp;omega,?_⟩;ext x;exact k
theorem oz(T:Bl K mg)(D:DefM K mg "_law_behind" gq ["_law_hall_here","_law_rule_here","_law_stand"])(p:FnM P w K mg base "_law_orders" 1 1 Ib)(q:FnM P w K mg base "_law_asked" 3 4 vt)(B:FnM P w K mg base "_law_cut" 1 2 vx)(v:FnM P w K mg base "_law_plus" 2 2 O9)(u:FnM P w K mg base "_law_more" 1 3 jM)(g:FnM P w K mg base "_law_evened" 2 2 pH):FnM P w K mg base "_law_behind" 4 3 IM:=by
 refine ba D aM rfl (nN:=14) rfl (by decide) ?ar λcdv A outer s H E f hr=>⟨_,(mz' (cQ (mv' 2) (bv (n:=2) (ah (ay 3 aM.nd) (ah (ay 4 aM.nd) bh))))
   (mz' (am 5 aM.nd (mf' p (hr.mono (by decide)) (mc' (au aW (by rfl) T.len cg (mc' (mv' 3) mn')) mn')))
   (mz' (am 6 aM.nd (bZ mn'))
   (mz' (bJ (bI (mv' 5)) (ay 7 aM.nd) (mz' (cQ (mf' q (hr.mono (by decide)) (mc' (mv' 0) (mc' (mv' 1) (mc' (mv' 2) (mc' (mv' 7) mn'))))) (bv (n:=2) (ah (ay 8 aM.nd) (ah (ay 9 aM.nd) bh))))
   (aa (cY (iu abA abB cW (mv' 6) (mc' (ai (mc' (mv' 8) (mc' (mv' 9) (mc' (mf' B (hr.mono (by decide)) (mc' (ae (ae (mv' 0) mh') mh') (mc' (af aF (ae (ae (mv' 0) mh') mh') (au aW (by rfl) T.len cg (mc' (mv' 5) mn'))) mn'))) mn')))) mn'))))) aaF)
   (mz' (am 10 aM.nd (ai (mc' (af AV (ae (ae (mv' 0) mh') mh') (ae (ae (mv' 0) mh') mh')) (mc' (ae (ae (mv' 0) mh') mh') mn'))))
   (mz' (bJ (ce (by rfl) T.range (mc' (au aW (by rfl) T.len cg (mc' (mv' 3) mn')) mn')) (ay 11 aM.nd) (mz' (am 12 aM.nd (ae (ae (ae (mv' 0) mh') (mv' 11)) mh'))
   (mz' (am 10 aM.nd (mf' v (hr.mono (by decide)) (mc' (mv' 10) (mc' (ai (mc' (lH iA (ae (mv' 12) mh')) (mc' (ae (mv' 12) mh') mn'))) mn'))))
   (mz' (am 9 aM.nd (ae (bZ (mc' aC (mc' aC mn'))) (dE qC (by rfl) T.int Iu (mc' (om i5 (ae (mv' 3) (mv' 11)) mh' (aK _)) mn'))))
   (mz' (am 13 aM.nd (mf' u (hr.mono (by decide)) (mc' (mv' 3) (mc' (mv' 11) (mc' (lH iA (dE qC (by rfl) T.int Iu (mc' (om i5 (ae (mv' 3) (mv' 11)) mh' (aK _)) mn'))) mn')))))
   (aa (cY (iu abA abB cW (mv' 6) (mc' (ai (mc' (ai (mc' (mf' g (hr.mono (by decide)) (mc' (mv' 0) (mc' (mv' 13) mn'))) (mc' (mv' 4) mn'))) (mc' (mv' 9) (mc' (mv' 12) mn')))) mn')))))))) aaF)
   (mz' (bf (av i5 (ae (mv' 10) mh') mh' (aK _)) (aa (cY (iu abA abB cW (mv' 6) (mc' (ai (mc' (ai (mc' (mf' g (hr.mono (by decide)) (mc' (mv' 0) (mc' (mv' 3) mn'))) (mc' (mv' 4) mn'))) (mc' aC (mc' (mv' 10) mn')))) mn')))) aw)
   (aa (al (mv' 6)))))))))),?_⟩
 case ar=>intro as Y ⟨h,r,l,t,rfl,_⟩;rfl
 intro as Y hl ⟨h,r,l,t,rfl,ho,L,Q,k⟩;have Z:=Q.ln;have y:=Z.1;have n1:=ho.n1;have n4:=ho.n4;have b1:=ho.b1;have b2:=ho.b2;have a2:=ho.a2;have U:=(cE h.ss.length ho.n4 h.ss.length ho.n4).1;have pO:=gg h.ss.length ho.n4;have ne:∀M:List Nat,M.length=l.length->M≠[]:=λM e z=>by rw[z]at e;simp at e;omega
 refine ap (MSt.mk [some (.imm (.tuple [.tuple [.int h.a,.int h.b],.tuple (h.ss.map Srv.d),.bool h.mv])),some (.imm r.d),some (.imm (.tuple [.tuple (natD l),.int (t:Int)])),none,none,none,none,none,none,none,none,none,none,none] [] 0) rfl ?_;ext s
 .rfl
 ext s;rw[aA,y];refine⟨h.ss.length,rfl,n4,?_⟩;ext n;ext d;ext d;have nC:(cmM h).length≤24:=by unfold cmM;rw[gE];exact U
 have nD:(dnM h).length=h.ss.length:=by unfold dnM;rw[gE,adq]
 refine jk (λi m=>∃a b c,m=MSt.mk [some (.imm (.tuple [.tuple [.int h.a,.int h.b],.tuple (h.ss.map Srv.d),.bool h.mv])),some (.imm r.d),some (.imm (.tuple [.tuple (natD l),.int (t:Int)])),some (.imm (.tuple (natD l))),some (.imm (.int (t:Int))),some (.obj 0),some (.obj 1),a,b,c,none,none,none,none] [(ordK h.ss.length h.ss.length).map lnD,((cmM h).take i).map (behD h r l t)] 1) ⟨none,none,none,rfl⟩ ?_ ?_ ?_
 .rintro i m ⟨a,b,c,rfl⟩;rfl
 .rintro i d m e C ⟨a,b,c,rfl⟩;let⟨o,V,rfl,hi⟩:=gmap e;let⟨q1,q2,q3⟩:=vh h.ss.length n4 n1 o (GE V);ext s;refine⟨h,r,l,t,o,rfl,ho,L,Q,⟨q1,q3,q2⟩,?_⟩;ext n;have ec:(cmM h)[i]?=some (Mv.come o,(cj h).1,(cj h).2.toNat):=by unfold cmM;rw[aaa,V];rfl
  rw[aaX,ec,aaE];have I:mvD (cn h r l t (.come o)) = .tuple [ptD ((cn h r l t (.come o)).1,(cn h r l t (.come o)).2.1),wdD (cn h r l t (.come o)).2.2]:=rfl;rw[I];ext s
  .rfl
  ext s;rw[gE];refine⟨(h.a:Int),h.b*(ordK h.ss.length h.ss.length).length,by rw[aaJ],adI (by omega) pO,?_,?_,?_⟩
  .exact aax (show((h.a:Int)).natAbs≤1000000 by omega) (by decide)
  .exact aax (abG (show h.b≤1000000 by omega) U) (by decide)
  rw[Sg ho];ext x;refine' ie (ds:=((cmM h).take i).map (behD h r l t)) ?eb (by rw[aaj,gE,aaG];omega) ?_
  case eb=>rfl
  exact⟨_,_,_,rfl⟩
 intro m C ⟨a,b,c,rfl⟩;have eL:((ordK h.ss.length h.ss.length).map lnD).length=(cmM h).length:=by unfold cmM;rw[gE,gE]
 rw[eL,aae];ext s;rw[aA];ext e;rw[aaW];refine cb (λi m=>∃(a b c d e f:Option L2.R) (x:Int×Int),m=MSt.mk [some (.imm (.tuple [.tuple [.int h.a,.int h.b],.tuple (h.ss.map Srv.d),.bool h.mv])),some (.imm r.d),some (.imm (.tuple [.tuple (natD l),.int (t:Int)])),some (.imm (.tuple (natD l))),some (.imm (.int (t:Int))),some (.obj 0),some (.obj 1),a,b,c,some (.imm (frT x.1 x.2)),d,e,f] [(ordK h.ss.length h.ss.length).map lnD,(cmM h).map (behD h r l t)++((dnM h).take i).map (behD h r l t)] 0/\RL h i x) ⟨a,b,c,none,none,none,_,by rw[List.take_zero,aer,aaO];rfl,RL.zero ho⟩ ?_ ?_
 .rintro i d m e C ⟨a,b,c,d1,d2,d3,x,rfl,X⟩ D1 hD1 hR1;let⟨hi,rfl⟩:=cJ e;rw[show(0:Int)+(i:Int)=((i:Nat):Int) by omega];let⟨s,O,ea,eb,hs⟩:=h.srv (show i<h.ss.length by omega);have N:=ho.ok s hs;have sa:=N.a2;have sb:=N.b2;have sb1:=N.b1;have R:=X.succ ho O;have eg:=NG O;rw[aaX,eg,aaE,<-act]at hD1;have sz:((cmM h).map (behD h r l t)++((dnM h).take i).map (behD h r l t)).length<100:=by rw[aat,gE,gE,aaG];omega
  ext s;refine aH (d:=s.d) (aE (by rw[aaa,O];rfl)) ?_;ext g;refine⟨x.1,x.2,-(s.a:Int),(s.b:Int),rfl,X.f,⟨?_,?_,by omega⟩,?_⟩
  .exact aax (show(-(s.a:Int)).natAbs≤1000000 by omega) (by decide)
  .exact aax (show((s.b:Int)).natAbs≤1000000 by omega) (by decide)
  unfold addF;rw[QR];ext h;refine aH (aE (aI (getN y (show i<h.ss.length by omega)))) ?_;ext s
  by_cases J:l.getD i 0=0
  .have ed:d6 l i=(l,.none):=if_pos J;have el:l.set i (l.getD i 0)=l:=ab0 λj=>by
    by_cases S:i=j
    .subst S;rw[aaM (by omega),getN y (show i<h.ss.length by omega)]
    .rw[aaz S]
   rw[J];ext s;refine aH (aE (aI (getN y (show i<h.ss.length by omega)))) ?_;rw[J];ext s;refine⟨l,i,0,l.getD i 0,rfl,by omega,by omega,by omega,?_⟩;rw[el];ext x;refine⟨h,l,rfl,ne l rfl,by omega,?_⟩;ext x;refine' ie (ds:=(cmM h).map (behD h r l t)++((dnM h).take i).map (behD h r l t)) ?eb (by rw[aaj];omega) ?_
   case eb=>rfl
   have I:behD h r l t (Mv.done i,(s.a:Int),s.b) = .tuple [.tuple [lnD (d9 h l),.int (t:Int)],.str "none",.tuple [.int (s.a:Int),.int (s.b:Int)]]:=by
    show aes [ptD (d9 h (d6 l i).1,t),wdD (d6 l i).2,.tuple [.int (s.a:Int),.int (s.b:Int)]]=_;rw[ed];rfl
   rw[show(some (Mv.done i,(s.a:Int),s.b)).toList.map (behD h r l t)=[behD h r l t (Mv.done i,(s.a:Int),s.b)]from rfl,I]at hD1;exact hD1 _ ⟨a,b,_,_,_,_,_,rfl,R⟩
  .have ed:d6 l i=(l.set i (l.getD i 0-1),.served):=if_neg J;ext s;rw[show(if decide ((l.getD i 0:Int)>0)=true then(1:Int)else 0)=1 from if_pos (decide_eq_true (by omega))];refine jt (d:=.str "served") rfl ?_;ext s;refine aH (aE (aI (getN y (show i<h.ss.length by omega)))) ?_;ext s;rw[show(if decide ((l.getD i 0:Int)>0)=true then(1:Int)else 0)=1 from if_pos (decide_eq_true (by omega))];refine⟨l,i,-1,l.getD i 0-1,rfl,by omega,by omega,by omega,?_⟩;ext x;refine⟨h,_,rfl,ne _ (by simp),by simp;omega,?_⟩;ext x;refine' ie (ds:=(cmM h).map (behD h r l t)++((dnM h).take i).map (behD h r l t)) ?eb (by rw[aaj];omega) ?_
   case eb=>rfl
   have I:behD h r l t (Mv.done i,(s.a:Int),s.b) = .tuple [.tuple [lnD (d9 h (l.set i (l.getD i 0-1))),.int (t:Int)],.str "served",.tuple [.int (s.a:Int),.int (s.b:Int)]]:=by
    show aes [ptD (d9 h (d6 l i).1,t),wdD (d6 l i).2,.tuple [.int (s.a:Int),.int (s.b:Int)]]=_;rw[ed];rfl
   rw[show(some (Mv.done i,(s.a:Int),s.b)).toList.map (behD h r l t)=[behD h r l t (Mv.done i,(s.a:Int),s.b)]from rfl,I]at hD1;exact hD1 _ ⟨a,b,_,_,_,_,_,rfl,R⟩
 intro m C ⟨a,b,c,d1,d2,d3,x,rfl,X⟩;rw[aP,y,<-nD,aae];rw[aP,y]at X;have ex:=X.g (by omega);subst ex;have W:(shrM h).map (behD h r l t)=(cmM h).map (behD h r l t)++(dnM h).map (behD h r l t)++if 0<(restF h h.ss.length).1 then [behD h r l t (Mv.still,(restF h h.ss.length).1,(restF h h.ss.length).2.toNat)]else []:=by
  unfold shrM cmM dnM;rw[aaE,aaE]
  congr 1
  split<;>rfl
 rw[W]at k;unfold frT;ext s;refine aG (λz=>?_) (λz=>?_)
 .rw[if_pos z]at k;ext s;refine⟨h,l,rfl,ne l rfl,by omega,?_⟩;ext x;refine' ie (ds:=(cmM h).map (behD h r l t)++(dnM h).map (behD h r l t)) ?eb (by rw[aaj,aat,gE,gE];omega) ?_
  case eb=>rfl
  ext x;have er:behD h r l t (Mv.still,(restF h h.ss.length).1,(restF h h.ss.length).2.toNat) = .tuple [.tuple [lnD (d9 h l),.int (t:Int)],.str "none",.tuple [.int (restF h h.ss.length).1,.int (restF h h.ss.length).2]]:=by
   have:=(d4 ho h.ss.length (Ge _)).1;show aes [ptD (d9 h l,t),.str "none",.tuple [.int (restF h h.ss.length).1,.int (((restF h h.ss.length).2.toNat:Nat):Int)]]=_;rw[show(((restF h h.ss.length).2.toNat:Nat):Int)=(restF h h.ss.length).2 by omega];rfl
  rw[er]at k;exact k
 .rw[if_neg z,aaO]at k;ext s;exact k
theorem qG(T:Bl K mg)(D:DefM K mg "_law_first" fX ["_law_hall_here"]):FnM P w K mg base "_law_first" 1 1 vq:=by
 refine ba D qL rfl (nN:=1) rfl (by decide) ?ar λc A outer s H E f hr=>⟨_,(aa (al (ai (mc' (dE f9 (by rfl) T.tuple j6 (mc' (cG (own:=["_law_server"]) (fr:=[]) (ps:=[]) (sc:=(ac fX)) (by exact⟨rfl,by decide +kernel,by decide +kernel,by decide +kernel,by decide +kernel⟩) (bI (ae (mv' 0) mh')) (λ_ _ _ _ _=>(ay 0 (show ach ((["_law_server"]:List Str)++([]:List Str))from by decide +kernel))) (λ_ _ _ _ _=>cZ) (λ_ _ _ _ _=>mh')) mn')) (mc' mh' mn'))))),?_⟩
 case ar=>intro b g ⟨h,rfl,_⟩;rfl
 intro b g j ⟨h,rfl,ho,k⟩;have n4:=ho.n4;refine ap (MSt.mk [some (.imm (.tuple [.tuple [.int h.a,.int h.b],.tuple (h.ss.map Srv.d),.bool h.mv]))] [] 0) rfl ?_;ext s;refine fq (λi m=>∃a,m=MSt.mk [a] [natD (aap i 0)] 1) ⟨none,rfl⟩ ?_ ?_
 .rintro i d m e hnp ⟨a,rfl⟩;have n:i<h.ss.length:=by
   have:=(DL.mp e).1;simpa using this
  ext s;refine⟨_,rfl,by unfold natD;rw[gE,ab8,aaj];omega,some (.imm d),?_⟩;rw[List.replicate_succ'];unfold natD;rw[aaE];rfl
 .rintro m hnp ⟨a,rfl⟩;rw[gE];ext x;exact k
theorem oG(T:Bl K mg)(D:DefM K mg "_law_coming" gL ["_law_hall_here","_law_rule_here"])(b:FnM P w K mg base "_law_first" 1 1 vq)(a:FnM P w K mg base "_law_behind" 4 3 IM):FnM P w K mg base "_law_coming" 5 2 IK:=by
 refine ba D bC rfl (nN:=8) rfl (by decide) ?ar λN A outer s H E f hr=>⟨_,(mz' (am 2 bC.nd (bZ (mc' (mf' b (hr.mono (by decide)) (mc' (mv' 0) mn')) mn')))
   (mz' (am 3 bC.nd (vz hr.units (ae (mv' 2) mh') kl))
   (mz' (am 4 bC.nd mh')
   (mz' (fJ (EW.pt (jj (av gj (mv' 4) (au aW (by rfl) T.len cg (mc' (mv' 2) mn')) (aK _)) (kh (av gj (au aW (by rfl) T.len cg (mc' (mv' 2) mn')) mh' (aK _))))) (mz' (bJ (bI (fU (mf' a (hr.mono (by decide)) (mc' (mv' 0) (mc' (mv' 1) (mc' (ae (mv' 2) (mv' 4)) mn')))))) (bv (n:=3) (ah (ay 5 bC.nd) (ah (ay 6 bC.nd) (ah (ay 7 bC.nd) bh)))) (aa (bf (av (mD hr.units) (mv' 5) (mv' 3) (by with_unfolding_all rfl)) (mz' (ll hr.units kl (mv' 3) (mv' 5))
   (aa (cY (iu abA abB cW (mv' 2) (mc' (mv' 5) mn'))))) aw)) aaF)
   (aa (am 4 bC.nd (af aY (mv' 4) mh')))) aaF)
   (aa (al (mv' 2))))))),?_⟩
 case ar=>intro L Q ⟨h,r,rfl,_⟩;rfl
 intro L Q hl ⟨h,r,rfl,ho,hr,k⟩;have S:=nU ho r;refine ap (MSt.mk [some (.imm h.d),some (.imm r.d),none,none,none,none,none,none] [] 0) rfl ?_;ext s;refine⟨h,rfl,ho,?_⟩;ext x;ext d;refine Im ?_;ext s;refine⟨rG ho S,?_⟩;refine jb ?_;ext x;refine jm (λn m=>∃(F:List Pt) (i:Nat) (u t v:Option L2.R),m=MSt.mk [some (.imm h.d),some (.imm r.d),some (.obj 0),some (.at 1 []),some (.imm (.int (i:Int))),u,t,v] [F.map ptD,[.dict (lfKV (knD F))]] 0/\Cmg (scS h r) (z0 h) F i/\n=100-i/\i≤F.length/\F.length<130) 100 ⟨[z0 h],0,none,none,none,rfl,Cmg.one,rfl,abv _,Nat.lt_of_sub_eq_succ rfl⟩ ?_;intro n m W ⟨F,i,u,t,v,rfl,C,hn,hi,hF⟩;ext s;rw[gE];refine aG (λU=>?_) (λU=>?_)
 .ext s;rw[gE];refine aG (λO=>?_) (λO=>?_)
  .obtain⟨p,ep⟩:∃p,F[i]?=some p:=⟨_,iO (by omega)⟩;have Sp:=l9 ho hr (x:=z0 h) S (C.rc p (GE ep));ext s;refine' ju (d:=ptD p) (ds:=F.map ptD) ?xf ?xe ?_
   case xf=>rfl
   case xe=>exact aE (by rw[aaa,ep];rfl)
   ext s;refine⟨h,r,p.1,p.2,rfl,ho,hr,Sp,?_⟩;ext x;have mn:=(FI ho).1;have Y:(scS h r p).length=(msL h).length:=by unfold scS msL;rw[gE,gE]
   refine cb (λj m=>∃g o e:Option L2.R,m=MSt.mk [some (.imm h.d),some (.imm r.d),some (.obj 0),some (.at 1 []),some (.imm (.int (i:Int))),g,o,e] [(adds F ((scS h r p).take j)).map ptD,[.dict (lfKV (knD (adds F ((scS h r p).take j))))]] 0) ⟨u,t,v,rfl⟩ ?_ ?_
   .rintro j d m ej hj ⟨g,o,e,rfl⟩ D1 hD1 hR1;let⟨q,eq,rfl,Z⟩:=gmap ej;have I:(scS h r p)[j]?=some ((cn h r p.1 p.2 q.1).1,(cn h r p.1 p.2 q.1).2.1):=by unfold scS;rw[aaa,eq];rfl
    have V:adds F ((scS h r p).take (j+1))=add1 (adds F ((scS h r p).take j)) ((cn h r p.1 p.2 q.1).1,(cn h r p.1 p.2 q.1).2.1):=by
     unfold adds;rw[ab2,I,adA];rfl
    have B:=(iP (F:=F) (xs:=(scS h r p).take j)).2;rw[aaG]at B;have R:∀y∈adds F ((scS h r p).take j),St h r y.1 y.2:=λy c=>by
     rcases mem_adds.mp c with w|w
     .exact l9 ho hr (x:=z0 h) S (C.rc y w)
     .exact rF ho hr Sp (abW w)
    have M:=rF ho hr Sp (GE I);rw[show behD h r p.1 p.2 q = .tuple [ptD ((cn h r p.1 p.2 q.1).1,(cn h r p.1 p.2 q.1).2.1),wdD (cn h r p.1 p.2 q.1).2.2,frT q.2.1 (q.2.2:Int)]from rfl];rw[V]at hD1;generalize adds F ((scS h r p).take j)=G at *;generalize ((cn h r p.1 p.2 q.1).1,(cn h r p.1 p.2 q.1).2.1)=y at *;have J:=Qz ho R;have ky:=rG ho M;ext s
    .rfl
    ext s;refine QH (kvs:=knD G) ⟨rfl,rfl⟩ (by unfold oneK;rw[J,show kyD (ptD y)=true from ky,ahf,aet]) ?_;rw[yo,if_pos rfl];ext s
    by_cases c:y∈G
    .rw[decide_eq_true c,if_neg (show ¬(!true)=true from aan)];rw[show add1 G y=G from if_pos c]at hD1;ext s;ext n;exact hD1 _ ⟨_,_,_,rfl⟩
    .rw[decide_eq_false c,if_pos (show(!false)=true from rfl)];rw[show add1 G y=G++[y]from if_neg c]at hD1;ext x;refine tz ?_;ext s;refine⟨rfl,knD G,rfl,J,ky,by unfold knD;rw[gE,aaj];omega,?_⟩;rw[Iw c];ext x;refine' ie (ds:=G.map ptD) ?eb (by rw[aaj,gE];omega) ?_
     case eb=>rfl
     ext n;rw[aaE]at hD1;exact hD1 _ ⟨_,_,_,rfl⟩
   .rintro m hm ⟨g,o,e,rfl⟩;have X:((shrM h).map (behD h r p.1 p.2)).length=(scS h r p).length:=by unfold scS;rw[gE,gE]
    have B:=iP (F:=F) (xs:=scS h r p);rw[X,aae];ext s;refine⟨100-(i+1),by omega,adds F (scS h r p),i+1,g,o,e,?_,C.next ep λz=>Iff.rfl,rfl,by omega,by omega⟩;rfl
  .ext s;exact k F i C (.inr (by omega)) (by omega)
 .ext s;exact k F i C (.inl (by omega)) (by omega)
theorem t5(T:Bl K mg)(D:DefM K mg "_law_told" jA ["_law_hall_here","_law_rule_here"])(a:FnX P w K mg base "stands_coming" 8 2 Jb):FnM P w K mg base "_law_told" 9 2 BO:=by
 refine ba D cz rfl (nN:=5) rfl (by decide) ?ar λn A outer s H E f hr=>⟨_,(mz' (am 2 cz.nd oO)
   (mz' (JL (i:=3) T.x_LineError cz.nd rfl rfl (λx pn b o q=>(aa (am 2 cz.nd (x9 a q (hr.mono (by decide)) (mc' (mv' 0) (mc' (mv' 1) mn')))))) (λe x=>(mz' (am 4 cz.nd (FY (K:=K) (mv' 3) (jl T.m_NoBest (jl T.m_NoFraction (jl T.m_NoHall (jl T.m_NoNever (jl T.m_NoShares (jl T.m_NoText RH)))))) (of_decide_eq_true rfl) T.isinstance))
   (mz' (am 2 cz.nd aC)
   (aa (bf (EW.pt (jj (iK (L8 (K:=K) (mv' 3) T.isinstance T.m_TooMany)) (jj (iK (E9 (K:=K) (mv' 3) T.isinstance T.ValueError oo)) (kh (Ac (iK (mv' 4))))))) (aa (am 2 cz.nd (ai (mc' aC (mc' (QZ (K:=K) (mv' 3)) mn'))))) aw))))))
   (aa (al (mv' 2))))),?_⟩
 case ar=>intro j p ⟨h,r,rfl,_⟩;rfl
 intro j p v ⟨h,r,rfl,u,k,m⟩;refine ap (MSt.mk [some (.imm h.d),some (.imm r.d),none,none,none] [] 0) rfl ?_;ext s;refine Wf rfl ?_;ext s;refine⟨h,r,rfl,u,λF G i C g t S=>?_,λF i C g=>?_⟩
 .ext d;exact k F G i C g t S
 .refine⟨"TooMany",_,rfl,T.sub,?_⟩;ext s;refine⟨"TooMany",_,false,rfl,T.i3,?_⟩;ext s;refine⟨"TooMany",_,true,rfl,T.i1,?_⟩;ext s;refine⟨"TooMany",_,true,rfl,T.i2,?_⟩;ext s;rw[if_pos (c:=(!false)=true) rfl];ext s;refine U5 (d:=.str "stands") rfl T.a1 ?_;ext s;exact m F i C g
theorem VT(T:Bl K mg){ff:Addr}{fd:abZ}(F:Fun K "law" "law" slaw ff fd)(t:FnM P w K mg base "_law_tape" 1 1 IU)(g:FnM P w K mg base "_law_hall" 4 2 Ba)(u:FnM P w K mg base "_law_rule" 2 2 AC)(b:FnM P w K mg base "_law_draw" 1 2 lb)(j:FnM P w K mg base "_law_coming" 5 2 IK)(a:FnM P w K mg base "_law_told" 9 2 BO):FnOk P w K mg base CX0 10 ff fd ["_law_script"] (spOf ⟨K,w⟩ 1 C9):=by
 refine LP F jZ rfl (nN:=10) rfl (by decide) λcdv A outer s H E f hr=>⟨_,(mz' (am 1 jZ.nd (mf' t (hr.mono (by decide)) (mc' (mv' 0) mn')))
   (mz' (am 2 jZ.nd (fU (bZ (mc' (ai (mc' mh' mn')) (mc' (ai (mc' mh' mn')) (mc' (ai (mc' mh' (mc' mh' mn'))) (mc' (ai (mc' mh' (mc' mh' mn'))) (mc' (ai (mc' mh' (mc' mh' mn'))) (mc' (ai (mc' mh' (mc' mh' (mc' mh' mn')))) (mc' (ai (mc' mh' (mc' mh' (mc' mh' mn')))) (mc' (ai (mc' mh' (mc' mh' (mc' mh' (mc' mh' mn'))))) (mc' (ai (mc' mh' (mc' mh' (mc' mh' (mc' mh' mn'))))) (mc' (ai (mc' mh' (mc' mh' (mc' mh' mn')))) (mc' (ai (mc' mh' (mc' mh' mn'))) mn'))))))))))))))
   (mz' (am 3 jZ.nd (fU (bZ (mc' (ai (mc' mh' (mc' mh' (mc' mh' mn')))) (mc' (ai (mc' mh' (mc' mh' (mc' mh' mn')))) (mc' (ai (mc' mh' (mc' mh' mn'))) (mc' (ai (mc' mh' (mc' mh' (mc' mh' mn')))) (mc' (ai (mc' mh' (mc' mh' mn'))) (mc' (ai (mc' mh' (mc' mh' (mc' mh' mn')))) mn')))))))))
   (mz' (bJ (ce (by rfl) T.range (mc' mh' mn')) (ay 4 jZ.nd) (mz' (am 5 jZ.nd (mf' g (hr.mono (by decide)) (mc' (mv' 1) (mc' (mv' 2) mn'))))
   (mz' (am 6 jZ.nd (mf' u (hr.mono (by decide)) (mc' (mv' 1) (mc' (mv' 5) mn'))))
   (mz' (bf (av (bW hr.units) (mf' b (hr.mono (by decide)) (mc' (mv' 1) (mc' mh' mn'))) mh' (aK _)) (mz' (am 5 jZ.nd (mf' g (hr.mono (by decide)) (mc' (mv' 1) (mc' (mv' 3) mn'))))
   (aa (am 6 jZ.nd (ai (mc' (ae (bZ (mc' aC (mc' aC (mc' aC (mc' aC mn'))))) (mf' b (hr.mono (by decide)) (mc' (mv' 1) (mc' mh' mn')))) mn'))))) aw)
   (mz' (am 7 jZ.nd (mf' j (hr.mono (by decide)) (mc' (mv' 5) (mc' (mv' 6) mn'))))
   (mz' (am 8 jZ.nd (RF (av gj (au aW (by rfl) T.len cg (mc' (mv' 7) mn')) mh' (aK _)) (au (lm hr.units) (by rfl) T.sorted lp (mc' (mv' 7) mn')) (ai (mc' aC (mc' aC mn')))))
   (mz' (am 9 jZ.nd (mf' a (hr.mono (by decide)) (mc' (mv' 5) (mc' (mv' 6) mn'))))
   (mz' (bf (av (vP hr.units) (au (ig hr.gd hr.u200) (by rfl) T.repr o9 (mc' (mv' 9) mn')) (au (ig hr.gd hr.u200) (by rfl) T.repr o9 (mc' (mv' 8) mn')) (aK _)) (aa (al kl)) aw)
   (aa (bf (iK (Jt (mv' 9) Fe T.isinstance T.list K8)) (mz' (cY (Jz PySem.F.slot_list_clear PySem.F.type_list_clear yT (mv' 9)))
   (aa (bf (av (vP hr.units) (au (ig hr.gd hr.u200) (by rfl) T.repr o9 (mc' (mf' a (hr.mono (by decide)) (mc' (mv' 5) (mc' (mv' 6) mn'))) mn')) (au (ig hr.gd hr.u200) (by rfl) T.repr o9 (mc' (mv' 8) mn')) (aK _)) (aa (al kl)) aw))) aw))))))))) aaF)
   (aa (al kl)))))),?_⟩
 intro as Kc hl ⟨ns,rfl,hn,k⟩;refine ap (MSt.mk [some (.imm (.list (ns.map .int))),none,none,none,none,none,none,none,none,none] [] 0) rfl ?_;ext s;refine⟨ns,rfl,hn,λfd o=>?_⟩;ext n;ext d;refine⟨by decide,by decide,?_⟩;refine cb (λi m=>∃(a4 Z a6 a7 a8 a9:Option L2.R) (fd:List dL) (os:List (List dL)),m=MSt.mk [some (.imm (.list (ns.map .int))),some (.obj 0),some (.imm (.list (small26.map lnD))),some (.imm (.list (bound26.map lnD))),a4,Z,a6,a7,a8,a9] (fd::os) 0/\TapeD (3000*i) fd) ⟨none,none,none,none,none,none,fd,[],rfl,o⟩ ?_ ?_
 .rintro i d m e hnp ⟨a4,Z,a6,a7,a8,a9,fd,os,rfl,o⟩ D1 hD1 hR1;let⟨hi,rfl⟩:=cJ e;have hi2:i<2:=hi;ext s;refine⟨fd,_,_,rfl,wZ,o,by omega,λh S fd ho L o=>?_⟩;ext n;refine wG [0] (MSt.mk [some (.imm (.list (ns.map .int))),some (.obj 0),some (.imm (.list (small26.map lnD))),some (.imm (.list (bound26.map lnD))),some (.imm (.int (0+(i:Int)))),some (.imm h.d),none,none,none,none] [fd] 0) (Bz rfl rfl rfl rfl rfl rfl ⟨rfl,⟨0,rfl,rfl⟩,rfl,rfl,rfl,rfl,trivial,trivial,trivial,trivial,trivial⟩) ?_;ext x;refine⟨fd,_,h,rfl,ho,o,by omega,λr fd hr o=>?_⟩;ext n;refine d5 ?_;ext n;refine uf ?_;refine x_JS (λm=>∃(h:Hall) (S:Nat) (r:Rule) (fd:List dL),h.Ok/\OfS h S/\r.Ok h/\TapeD (3000*i+2460) fd/\m=MSt.mk [some (.imm (.list (ns.map .int))),some (.obj 0),some (.imm (.list (small26.map lnD))),some (.imm (.list (bound26.map lnD))),some (.imm (.int (0+(i:Int)))),some (.imm h.d),some (.imm r.d),none,none,none] [fd] 0) (λN J=>?_) ?_
  .ext s;refine⟨fd,_,_,rfl,o,by omega,by decide,by decide,λq fd Q U o=>?_⟩;ext x;refine aG (λ_=>?_) (λ_=>?_)
   .ext s;refine⟨fd,_,_,rfl,wQ,o,by omega,λh S fd ho L o=>?_⟩;ext h;refine⟨fd,_,_,rfl,o,by omega,by decide,by decide,λq fd Q U o=>?_⟩;let⟨r,x,ex,er,hr⟩:=JU (h:=h) Q U;ext x;refine jt ex ?_;ext s;refine J _ ⟨h,S,r,fd,ho,L,hr,o.mono (by omega),?_⟩;rw[er];rfl
   .ext s;exact J _ ⟨h,S,r,fd,ho,L,hr,o.mono (by omega),rfl⟩
  clear ho hr L o;intro _ ⟨h,S,r,fd,ho,L,hr,o,rfl⟩;have D:=du25 ho hr L;ext x;refine⟨h,r,rfl,ho,hr,λF n C hC hF=>?_⟩;ext n;ext d;have S0:=nU ho r;have V:∀y∈F,St h r y.1 y.2:=λy hy=>l9 ho hr (x:=z0 h) S0 (C.rc y hy);refine VE ?_;ext s;rw[gE]
  by_cases z:F.length<61
  .rw[decide_eq_true (show(F.length:Int)<61 by omega)];have B:F.length≤n:=by omega
   ext s;refine xW (ds:=F.map ptD) rfl ?_;have XF:=Cg V C.nd (by omega);have eF:F.map ptD=(F.map λp=>(p,(0:Int))).map λp=>ptD p.1:=by rw[aaN];rfl
   rw[eF];refine⟨(uT ho XF).srt XF,λds' p' o'=>?_⟩;let⟨W,SW,rfl⟩:=(uT ho XF).srd XF p' o';have e2:(W.map λp=>ptD p.1)=(W.map (·.1)).map ptD:=by rw[aaN];rfl
   have X:SrF F (W.map (·.1)):=by
    refine⟨?_,by rw[aey];exact SW.o⟩;have:=SW.p.map (·.1);rwa[aaN,show((λx:Pt×Int=>x.1)∘λp:Pt=>(p,(0:Int)))=id from rfl,aeW]at this
   rw[e2];generalize W.map (·.1)=G at X;have Y:=DQ ho V (by omega) X;let⟨M,v⟩:∃M,(dL.list (G.map ptD)).shown=M:=⟨_,rfl⟩;rw[<-eF];ext d;refine⟨h,r,rfl,D,λF2 G2 n2 I O h2 S2=>?_,λF2 n2 I O=>absurd (I.more C B) (by omega)⟩;obtain rfl:G2=G:=X.uniq V C.nd (by omega) (I.same O C B) S2;ext n;ext d;refine jI Y rfl (by decide) (by decide) ?_;rw[v];ext s;refine jI Y rfl (by decide) (by decide) ?_;rw[v];ext s;rw[decide_eq_true (rfl:M=M)];refine iq ?_;ext s;rw[if_pos (c:=(tyR (R.obj 3) == "list")=true) rfl];ext s;refine JM rfl ?_;ext x;refine⟨h,r,rfl,D,λF3 G3 n3 C3 h3 h4 S3=>?_,λF3 n3 C3 h3=>absurd (C3.more C B) (by omega)⟩;obtain rfl:G3=G2:=X.uniq V C.nd (by omega) (C3.same h3 C B) S3;ext x;refine jI Y rfl (by decide) (by decide) ?_;rw[v];ext s;refine jI Y rfl (by decide) (by decide) ?_;rw[v];ext s;rw[decide_eq_true (rfl:M=M)];refine iq ?_;ext s;exact hD1 _ ⟨_,_,_,_,_,_,fd,_,rfl,o.mono (by omega)⟩
  .rw[decide_eq_false (show ¬(F.length:Int)<61 by omega)];ext s;refine⟨h,r,rfl,D,λF2 G2 n2 I O h2 S2=>absurd (C.more I O) (by omega),λF2 n2 I O=>?_⟩;ext h;refine jI r8 rfl (by decide) (by decide) ?_;ext s;refine jI r8 rfl (by decide) (by decide) ?_;ext s;rw[decide_eq_true (rfl:manyD.shown=manyD.shown)];refine iq ?_;ext s;rw[if_neg (c:=(tyR (R.imm manyD) == "list")=true) (by decide +kernel)];ext s;exact hD1 _ ⟨_,_,_,_,_,_,fd,_,rfl,o.mono (by omega)⟩
 .rintro m n ⟨a4,Z,a6,a7,a8,a9,fd,os,rfl,o⟩;ext s;exact k
end
def ar_{u:List oR}{n:Nat}(b:u.length=n):u=(aaB n).map λi=>u.getD i .none:=ahO (by rw[b,gE,abg]) λi a c=>by
 rw[af8,List.getElem_range,aas,iO a];rfl
local macro_rules | `(tactic| walk_at "dm") => `(tactic| exact λf fd F => F.binds λ_ _ _ _ _ _ us hl => by rw [ar_ hl]; rfl)
theorem SU{w:World}{K:Io}{h:aaR}{mg:Str->Option oR}{fa:Addr}(X:K.In h)(G:h.Ns aag mg)(hfa:mg "law" = some (.ref fa))(k:DefK K "greatest_divisor" cR)(dfraction_of:DefK K "fraction_of" gJ)(dtaken_off:DefK K "taken_off" jG)(ddivided:DefK K "divided" ot)(dis_less:DefK K "is_less" pK)(N:DefK K "on_one_bottom" c6)(u:DefK K "place_of_lines" d8)(A:DefK K "first_shortest" dU)(dwait_at:DefK K "wait_at" ow)(I:DefK K "first_quickest" dH)(dsent_to:DefK K "sent_to" o8)(dfirst_stand:DefK K "first_stand" gF)(dall_orders:DefK K "all_orders" fQ)(dwith_more:DefK K "with_more" jJ)(dcome_to:DefK K "come_to" nH)(ddone_at:DefK K "done_at" oi)(dnext_shift:DefK K "next_shift" iC)(dsettled:DefK K "settled" oZ)(dturn_behind:DefK K "turn_behind" gI)(dline_of:DefK K "line_of" oq)(dmoved_on:DefK K "moved_on" lh)(dmove_shares:DefK K "move_shares" e9)(C:DefK K "weights_behind" dI)(dtold_shares:DefK K "told_shares" fb)(V:DefK K "left_by_turn" gc)(L:DefK K "stands_coming" ft)(d_law_tape:DefK K "_law_tape" jz)(d_law_draw:DefK K "_law_draw" jK)(d_law_cut:DefK K "_law_cut" k7)(d_law_plus:DefK K "_law_plus" jB)(d_law_parts:DefK K "_law_parts" dW)(d_law_hall:DefK K "_law_hall" ib)(t:DefK K "_law_all_lines" cF)(d_law_rule:DefK K "_law_rule" h9)(d_law_orders:DefK K "_law_orders" fi)(W:DefK K "_law_soonest" fZ)(d_law_sent:DefK K "_law_sent" jD)(d_law_more:DefK K "_law_more" jF)(d_law_evened:DefK K "_law_evened" gu)(d_law_asked:DefK K "_law_asked" iz)(d_law_behind:DefK K "_law_behind" gq)(d_law_first:DefK K "_law_first" fX)(d_law_coming:DefK K "_law_coming" gL)(d_law_told:DefK K "_law_told" jA)(dlaw:DefK K "law" slaw)(zlen:aal K aag "len" = some none)(zabs:aal K aag "abs" = some none)(zrange:aal K aag "range" = some none)(zlist:aal K aag "list" = some none)(ztuple:aal K aag "tuple" = some none)(zint:aal K aag "int" = some none)(zsum:aal K aag "sum" = some none)(zzip:aal K aag "zip" = some none)(zmin:aal K aag "min" = some none)(zmax:aal K aag "max" = some none)(zenumerate:aal K aag "enumerate" = some none)(zrepr:aal K aag "repr" = some none)(zsorted:aal K aag "sorted" = some none)(zisinstance:aal K aag "isinstance" = some none)(zValueError:aal K aag "ValueError" = some none)(cWHOLE_TURN:ConK K "WHOLE_TURN" (.tuple (([1,1]:List Int).map .int)))(cMOST_STANDS:ConK K "MOST_STANDS" (.int 60))(J:ExcK K "LineError")(eTooMany:ClsK K "TooMany")(eNoBest:ClsK K "NoBest")(eNoFraction:ClsK K "NoFraction")(eNoHall:ClsK K "NoHall")(eNoNever:ClsK K "NoNever")(eNoShares:ClsK K "NoShares")(eNoText:ClsK K "NoText")(iTooMany:IniK K "TooMany" ["word"])(fsub:SubX K "TooMany" "LineError")(fi1:IsIn K "TooMany" (.ref (clsA K "TooMany")) true)(fi2:IsIn K "TooMany" (.type "ValueError") true)(fa1:XAt K "TooMany" "word")(fi3:IsIns K "TooMany" ((["NoBest","NoFraction","NoHall","NoNever","NoShares","NoText"]:List Str).map (clsA K)) false) :
  ∃fd:abZ,(∀(s:Ad) (v:oR),ahu s fd ⟨[v],[]⟩ [("_law_script",v)])/\∀base:aaR,K.In base->base.Ns aag mg->FnOk l.prog w K mg base CX0 10 fa fd ["_law_script"] (spOf ⟨K,w⟩ 1 C9):=by
 let⟨f,fd,a,F⟩:=dlaw.ex;have e:=hfa.symm.trans (adZ X G a);cases e;have T:Bl K mg:=⟨aaY X G zlen,aaY X G zabs,aaY X G zrange,aaY X G zlist,aaY X G ztuple,aaY X G zint,aaY X G zsum,aaY X G zzip,aaY X G zmin,aaY X G zmax,aaY X G zenumerate,aaY X G zrepr,aaY X G zsorted,aaY X G zisinstance,aaY X G zValueError,cWHOLE_TURN.m X G,cMOST_STANDS.m X G,(J.x X G).mg,J.x X G,eTooMany.m X G,eNoBest.m X G,eNoFraction.m X G,eNoHall.m X G,eNoNever.m X G,eNoShares.m X G,eNoText.m X G,iTooMany.m X G,fsub,fi1,fi2,fa1,fi3⟩;have D:=k.m (ps:=["one","other"]) X G (by ext dm);have Dfraction_of:=dfraction_of.m (ps:=["top","bottom"]) X G (by ext dm);have Dtaken_off:=dtaken_off.m (ps:=["one","other"]) X G (by ext dm);have Ddivided:=ddivided.m (ps:=["one","other"]) X G (by ext dm);have Dis_less:=dis_less.m (ps:=["one","other"]) X G (by ext dm);have M:=N.m (ps:=["pairs"]) X G (by ext dm);have y:=u.m (ps:=["hall","lines"]) X G (by ext dm);have o:=A.m (ps:=["lines","order"]) X G (by ext dm);have Dwait_at:=dwait_at.m (ps:=["hall","lines","line"]) X G (by ext dm);have B:=I.m (ps:=["hall","lines","order"]) X G (by ext dm);have Dsent_to:=dsent_to.m (ps:=["hall","rule","stand","order"]) X G (by ext dm);have Dfirst_stand:=dfirst_stand.m (ps:=["hall"]) X G (by ext dm);have Dall_orders:=dall_orders.m (ps:=["hall"]) X G (by ext dm);have Dwith_more:=dwith_more.m (ps:=["lines","line","more"]) X G (by ext dm);have Dcome_to:=dcome_to.m (ps:=["hall","lines","line"]) X G (by ext dm);have Ddone_at:=ddone_at.m (ps:=["lines","line"]) X G (by ext dm);have Dnext_shift:=dnext_shift.m (ps:=["hall","lines"]) X G (by ext dm);have Dsettled:=dsettled.m (ps:=["hall","lines"]) X G (by ext dm);have Dturn_behind:=dturn_behind.m (ps:=["hall","rule","turn"]) X G (by ext dm);have Dline_of:=dline_of.m (ps:=["hall","rule","stand","move"]) X G (by ext dm);have Dmoved_on:=dmoved_on.m (ps:=["hall","rule","stand","move"]) X G (by ext dm);have Z:=dmove_shares.m (ps:=["hall"]) X G (by ext dm);have H:=C.m (ps:=["hall","rule","weights"]) X G (by ext dm);have Dtold_shares:=dtold_shares.m (ps:=["weights","whole"]) X G (by ext dm);have R:=V.m (ps:=["hall","rule","stand"]) X G (by ext dm);have O:=L.m (ps:=["hall","rule"]) X G (by ext dm);have D_law_tape:=d_law_tape.m (ps:=["_law_script"]) X G (by ext dm);have D_law_draw:=d_law_draw.m (ps:=["_law_tape_here","_law_many"]) X G (by ext dm);have D_law_cut:=d_law_cut.m (ps:=["_law_top","_law_bottom"]) X G (by ext dm);have D_law_plus:=d_law_plus.m (ps:=["_law_one","_law_other"]) X G (by ext dm);have D_law_parts:=d_law_parts.m (ps:=["_law_tape_here","_law_many"]) X G (by ext dm);have D_law_hall:=d_law_hall.m (ps:=["_law_tape_here","_law_menu"]) X G (by ext dm);have z:=t.m (ps:=["_law_hall_here"]) X G (by ext dm);have D_law_rule:=d_law_rule.m (ps:=["_law_tape_here","_law_hall_here"]) X G (by ext dm);have D_law_orders:=d_law_orders.m (ps:=["_law_many"]) X G (by ext dm);have U:=W.m (ps:=["_law_hall_here","_law_lines","_law_order"]) X G (by ext dm);have D_law_sent:=d_law_sent.m (ps:=["_law_hall_here","_law_rule_here","_law_stand","_law_order"]) X G (by ext dm);have D_law_more:=d_law_more.m (ps:=["_law_lines","_law_k","_law_many"]) X G (by ext dm);have D_law_evened:=d_law_evened.m (ps:=["_law_hall_here","_law_lines"]) X G (by ext dm);have D_law_asked:=d_law_asked.m (ps:=["_law_hall_here","_law_rule_here","_law_stand","_law_order"]) X G (by ext dm);have D_law_behind:=d_law_behind.m (ps:=["_law_hall_here","_law_rule_here","_law_stand"]) X G (by ext dm);have D_law_first:=d_law_first.m (ps:=["_law_hall_here"]) X G (by ext dm);have D_law_coming:=d_law_coming.m (ps:=["_law_hall_here","_law_rule_here"]) X G (by ext dm);have D_law_told:=d_law_told.m (ps:=["_law_hall_here","_law_rule_here"]) X G (by ext dm);refine⟨fd,λs v=>?_,λbase _ _=>?_⟩
 .obtain⟨oc,od,kV,doc,pm,an,cdv,ct,osl,rfl,lk,hcd⟩:=F.ex;exact .of_eq rfl
 .have Ggreatest_divisor:=ja (P:=l.prog) (w:=w) (base:=base) T D;have c:=pc (P:=l.prog) (w:=w) (base:=base) T Dfraction_of Ggreatest_divisor;have Gtaken_off:=ua (P:=l.prog) (w:=w) (base:=base) T Dtaken_off c;have Gdivided:=Ap (P:=l.prog) (w:=w) (base:=base) T Ddivided c;have Gis_less:=Bu (P:=l.prog) (w:=w) (base:=base) T Dis_less;have Q:=lM (P:=l.prog) (w:=w) (base:=base) T M Ggreatest_divisor;have x:=jX (P:=l.prog) (w:=w) (base:=base) T y;have p:=jU (P:=l.prog) (w:=w) (base:=base) T o;have Gwait_at:=AK (P:=l.prog) (w:=w) (base:=base) T Dwait_at;have q:=jR (P:=l.prog) (w:=w) (base:=base) T B Gwait_at Gis_less;have Gsent_to:=Bh (P:=l.prog) (w:=w) (base:=base) T Dsent_to p q x;have Gfirst_stand:=oA (P:=l.prog) (w:=w) (base:=base) T Dfirst_stand;have Gall_orders:=qR (P:=l.prog) (w:=w) (base:=base) T Dall_orders;have i:=t7 (P:=l.prog) (w:=w) (base:=base) T Dwith_more;have Gcome_to:=yJ (P:=l.prog) (w:=w) (base:=base) T Dcome_to i;have Gdone_at:=BJ (P:=l.prog) (w:=w) (base:=base) T Ddone_at i;have Gnext_shift:=qz (P:=l.prog) (w:=w) (base:=base) T Dnext_shift;have Gsettled:=Bc (P:=l.prog) (w:=w) (base:=base) T Dsettled Gnext_shift i;have Gturn_behind:=o5 (P:=l.prog) (w:=w) (base:=base) T Dturn_behind;have Gline_of:=zg (P:=l.prog) (w:=w) (base:=base) T Dline_of Gsent_to;have Gmoved_on:=w5 (P:=l.prog) (w:=w) (base:=base) T Dmoved_on Gline_of Gcome_to Gturn_behind Gdone_at Gsettled;have Gmove_shares:=nu (P:=l.prog) (w:=w) (base:=base) T Z Gall_orders Gdivided Gtaken_off;have E:=jY (P:=l.prog) (w:=w) (base:=base) T H Gmove_shares Q Gmoved_on;have Gtold_shares:=nG (P:=l.prog) (w:=w) (base:=base) T Dtold_shares c;have Y:=l5 (P:=l.prog) (w:=w) (base:=base) T R E Gtold_shares;have n:=i6 (P:=l.prog) (w:=w) (base:=base) T O Gfirst_stand Y;have G_law_tape:=sD (P:=l.prog) (w:=w) (base:=base) T D_law_tape;have b:=sF (P:=l.prog) (w:=w) (base:=base) T D_law_draw;have m:=xj (P:=l.prog) (w:=w) (base:=base) T D_law_cut;have G_law_plus:=uc (P:=l.prog) (w:=w) (base:=base) T D_law_plus m;have G_law_parts:=rb (P:=l.prog) (w:=w) (base:=base) T D_law_parts b m;have G_law_hall:=t9 (P:=l.prog) (w:=w) (base:=base) T D_law_hall b G_law_parts;have d:=jS (P:=l.prog) (w:=w) (base:=base) T z;have G_law_rule:=uh (P:=l.prog) (w:=w) (base:=base) T D_law_rule b d;have G_law_orders:=o6 (P:=l.prog) (w:=w) (base:=base) T D_law_orders;have S:=lZ (P:=l.prog) (w:=w) (base:=base) T U;have G_law_sent:=ud (P:=l.prog) (w:=w) (base:=base) T D_law_sent d S;have g:=tq (P:=l.prog) (w:=w) (base:=base) T D_law_more;have j:=pk (P:=l.prog) (w:=w) (base:=base) T D_law_evened g;have G_law_asked:=rh (P:=l.prog) (w:=w) (base:=base) T D_law_asked G_law_sent j g;have G_law_behind:=oz (P:=l.prog) (w:=w) (base:=base) T D_law_behind G_law_orders G_law_asked m G_law_plus g j;have G_law_first:=qG (P:=l.prog) (w:=w) (base:=base) T D_law_first;have G_law_coming:=oG (P:=l.prog) (w:=w) (base:=base) T D_law_coming G_law_first G_law_behind;have G_law_told:=t5 (P:=l.prog) (w:=w) (base:=base) T D_law_told n;exact VT T F G_law_tape G_law_hall G_law_rule b G_law_coming G_law_told
theorem walk{q:aaA}{b:List Str}{X:(Str->Option oR)->aaR->Prop}{Y:World->aaR->Prop}{d:DefRec}{K:Params->Io}(p:PyProof.Rows.importsNone q=true)(j:l.most=some 63)(c:d.params.defaults=[])
  (y:∀(w:World) (h:aaR),Y w h->(K w.params).In h)
  (F:∀(w:World) (mg:Str->Option oR) (e:Addr) (h:aaR),(K w.params).In h->h.Ns aag mg->mg d.name=some (.ref e) ->
   ∃fd:abZ,(∀(s:Ad) (u:oR),ahu s fd ⟨[u],[]⟩ [("_law_script",u)])/\∀base:aaR,(K w.params).In base->base.Ns aag mg->FnOk l.prog w (K w.params) mg base CX0 10 e fd ["_law_script"] (spOf ⟨K w.params,w⟩ 1 C9)) :
  aie q b X Y l.row.toRowW d [] (λf vs=>ah9 f vs):=
 L2.Jr (n:=63) (k:=10) (x:= "_law_script") (CX:=λ_=>CX0) (sp:=λw=>spOf ⟨K w.params,w⟩ 1 C9) p j (by decide) c ⟨rfl,by decide,by decide,rfl⟩ y F
  (λw H a ns m g i=>⟨[.imm (.list (ns.map .int))],[],λr _=>r = .imm (.bool true),rfl,adh,.imm (wy g i) .nil,⟨ns,rfl,m,rfl⟩,λr o v t k _ rr _=>by cases k;exact jg (show Den ⟨K w.params,w⟩ t (.bool true) v from rr)⟩) λ_ _ _ _ _ z=>z
end K
namespace PySem.W.Fast
def tw12430393477854787158:=0
def tw4252480249309590407:=0
def tw4386669382162139991:=0
def tw9642166096818957355:=0
def tw1096731854388397870:=0
def tw17580531267087661598:=0
def tw4049349554390147658:=0
def tw16665227931418937633:=0
def tw5710301676557574711:=0
def tw9866915736784088825:=0
def tw13116942818062845431:=0
def tw4670385255846761205:=0
def tw17109346426723481070:=0
def tw8186985098616594871:=0
def tw1259831282257140359:=0
def tw16819643256650465735:=0
def tw3667233427145323584:=0
def tw15805942570875379433:=0
def tw6025643318283152671:=0
def tw11437449826706956040:=0
def tw16491369317784076326:=0
def tw2262470413061930900:=0
def tw16994101710109366625:=0
def tw6397529310374542326:=0
def tw13712195298993266722:=0
def tw5049772273090785282:=0
def tw14417379756155360625:=0
def tw8646826853948794185:=0
def tw12605554465733330580:=0
def tw17326842987111543803:=0
def tw7437771662397368048:=0
def tw15588911244037558736:=0
def tw10890186062374241657:=0
def tw16907477788372655407:=0
def tw3676307045513387437:=0
def tw16462582521984418869:=0
def tw2658421095192500013:=0
def tw17743008281534574866:=0
def tw15457863641413012165:=0
def tw9430449021770543086:=0
def tw872960917819130709:=0
def tw5297110219103661468:=0
def tw6307327197689436214:=0
def tw7192518179497960174:=0
def tw12568739009459764393:=0
def tw15034255995722702411:=0
def tw8546124042468997820:=0
def tw6912239330250246555:=0
def tw11098940439275754579:=0
def tw10333656550661085864:=0
def tw10761534514718403905:=0
def tw5346549913889406963:=0
def tw2958358648231739702:=0
def tw5122743314333654059:=0
def tw13150128229482198065:=0
def tw5301961011001174438:=0
def tw4562816738685307247:=0
def tw7323632065982543380:=0
def tw1353563510090031135:=0
def tw11020951452724323095:=0
def tw18442681891921521726:=0
def tw11402885483293907385:=0
def tw602811424867012750:=0
def tw14049586715133326204:=0
def tw10328622552767202959:=0
def tw12356580250471493140:=0
def tw16611307861780612794:=0
def tw11109757218177654951:=0
def tw10596655385603954943:=0
def tw11363985923936846850:=0
def tw9009490761391929759:=0
def tw5323956614114219530:=0
def tw8060701654839447782:=0
def tw3310263913829403797:=0
def tw2916593348407332336:=0
def tw6466782992708296215:=0
def tw3945981546684639443:=0
def tw13670230421704459698:=0
def tw11518423793281009474:=0
def tw11931932450938866258:=0
def tw14876585294138058898:=0
def tw5554571938288083493:=0
def tw11467890154286833188:=0
def tw6395721737999556957:=0
def tw17898885520748583020:=0
def tw4741280581607287902:=0
def tw12902358975913952836:=0
def tw46325868387631478:=0
def tw7542063518893499493:=0
def tw9834174241542932872:=0
def tw228473009944583238:=0
def tw13174409920469779440:=0
def tw1564394031819500919:=0
def tw3508504395097645431:=0
def tw3371404558379238566:=0
def tw15274173970072746225:=0
def tw12632540047367949260:=0
def tw15830968032110186597:=0
def tw10007874142922466220:=0
def tw8310572608305279220:=0
def tw6441914243694040591:=0
def tw6628316655242236814:=0
def tw12758882074738656320:=0
def tw11264279353860456539:=0
def tw13039243609074351896:=0
def tw4810822630923948858:=0
def tw13028793120299686665:=0
def tw11128035860731829400:=0
def tw5195430175160272397:=0
def tw9920781513836356130:=0
def tw6842702612677289206:=0
def tw15106561734844662085:=0
def tw5918061395496255080:=0
def tw18319201134115147159:=0
def tw13722196674271575364:=0
def tw6533250652781251105:=0
def tw11590550581630185150:=0
def tw2261724752979530709:=0
def tw2425137195367722215:=0
def tw15201106463407921759:=0
def tw13626030752308222196:=0
def tw1825355245603945871:=0
def tw4609538581290939333:=0
def tw2957514523015452960:=0
def tw1181801696601015321:=0
def tw3251544964537301059:=0
def tw15452656989833687489:=0
def tw6193985578992561694:=0
def tw14749482160232592221:=0
def tw10556035761962749516:=0
def tw9169116335578392081:=0
def tw10766859604263452181:=0
def tw6433995858785254280:=0
def tw2350135357296925717:=0
def tw5097621628535278985:=0
def tw1673741440359297759:=0
def tw12154173104465328303:=0
def tw2645833985844991788:=0
def tw3055808337394195832:=0
def tw2321449816145209477:=0
def tw377984549470264743:=0
def tw11249270804585956554:=0
def tw1596223805840814654:=0
def tw14243548293630167756:=0
def tw385436023595087679:=0
def tw12383734495482433453:=0
def tw18048452471831474546:=0
def tw13972355375392962186:=0
def tw17130874771701524556:=0
def tw16763194279583455003:=0
def tw5454222220536423242:=0
def tw1971823244489341875:=0
def tw7888156147524530783:=0
def tw15492885077046698965:=0
def tw5969646900766515714:=0
def tw14960912274374209505:=0
def tw14027194093175684775:=0
def tw11843197243336860184:=0
def tw5037590120704272539:=0
def tw2146403477296900267:=0
def tw13826924432883507279:=0
def tw11113007263253085776:=0
def tw13807631412187815447:=0
def tw8892439189385066304:=0
def tw5233019069958041066:=0
def tw12292789285856739509:=0
def tw2971886541419517611:=0
def tw7553312764598060959:=0
def tw1907602661208625506:=0
def tw1325901214865960514:=0
def tw15415423703604636308:=0
def tw18427919729268905742:=0
def tw472763869258657075:=0
def tw15787838862829418447:=0
def tw18365170299335895703:=0
def tw16948761325897322062:=0
def tw18085741968652579648:=0
def tw10383948692349719682:=0
def tw351346891685644184:=0
def tw7222775425498867258:=0
def tw2566067699794939603:=0
def tw4080646479614360310:=0
def tw17091190051653838466:=0
def tw12545272323612617196:=0
def tw12994411675655353714:=0
def tw9746929569065738969:=0
def tw990707082290619749:=0
def tw14652304798497765416:=0
def tw7258897751221240722:=0
def tw13200014478016138814:=0
def tw334845845118610105:=0
def tw4612928114997766741:=0
def tw15999760239376269785:=0
def tw6533797235998802503:=0
def tw6942458939762391667:=0
def tw9309979915454597233:=0
def tw8396633782920327120:=0
def tw11610668676055431279:=0
def tw11595883351472627889:=0
def tw10550733374797171671:=0
def tw10105392840931632038:=0
def tw15291306695291460566:=0
def tw13196584325914685142:=0
def tw8995033745825362362:=0
def tw9362478723643964118:=0
def tw10377030499351139587:=0
def tw17343902697323003313:=0
def tw17243826200452348880:=0
def tw11610491283883449792:=0
def tw10829414640205773441:=0
def tw6322878188429214262:=0
def tw14899928096911327016:=0
def tw1002076287064937420:=0
def tw17468326841597230226:=0
def tw591419867371877065:=0
def tw18076378182190149894:=0
def tw16054062868767096554:=0
def tw10338942279600782021:=0
def tw318328030080874508:=0
def tw12768085956304651921:=0
def tw15642931324545138797:=0
def tw4461255495193240113:=0
def tw9217199482938215736:=0
def tw11804782966053139883:=0
def tw15112676501364153758:=0
def tw10890846669731941155:=0
def tw4167723094812576279:=0
def tw3136652421779241441:=0
def tw10572531914855779574:=0
def tw7123834619374737824:=0
def tw4817120082704768378:=0
def tw4772690224767839829:=0
def tw17736431575940946287:=0
def tw10420509873590420647:=0
def tw4645997487870614422:=0
def tw4917559346846889453:=0
def tw16728574402385256582:=0
def tw5844563824250821105:=0
def tw6342638200492169575:=0
def tw4750507498022542410:=0
def tw10404762813118923804:=0
def tw10449033300260744363:=0
def tw17975858640565783458:=0
def tw10456689100546796112:=0
def tw9422778794298759575:=0
def tw12830708707570966171:=0
def tw6869514296852170950:=0
def tw8342354174668010652:=0
def tw15334101776958819999:=0
def tw18324575597587923861:=0
def tw8212995400613706932:=0
def tw15443974648791081473:=0
def tw8225170040321251778:=0
def tw6673257757991586601:=0
def tw2203427395158204651:=0
def tw7001471049949721995:=0
def tw1046471912304961014:=0
def tw2279678897286323081:=0
def tw15122174879412908452:=0
def tw2031451210549239602:=0
def tw2252304527896985478:=0
def tw8150898155672676792:=0
def tw15380901285420014229:=0
def tw11093131727765341411:=0
def tw1642967288752347267:=0
def tw6602656543610602582:=0
def tw12556699331193075106:=0
def tw7068785748642508524:=0
def tw9529215782551115442:=0
def tw5892893150668577473:=0
def tw2395175326586331152:=0
def tw13290078617933160479:=0
def tw14279427419412559287:=0
def tw15785640813259473215:=0
def tw7664632630563933868:=0
def tw10866694824155668093:=0
def tw5492684324846167979:=0
def tw7659326153235982938:=0
def tw3114847322769810332:=0
def tw7820770970871943309:=0
def tw549726243993791726:=0
def tw4329351492757439367:=0
def tw3416348210564737697:=0
def tw13124361206434324576:=0
def tw16341886921794201835:=0
def tw15760157774748305838:=0
def tw16431259540090995527:=0
def tw3479791696295914697:=0
def tw2585850421355089031:=0
def tw4454508827625897968:=0
def tw5887408070025409902:=0
def tw11935014684533221566:=0
def tw8774701712851025801:=0
end PySem.W.Fast
open PySem PySem.W PyProof.Rows
local macro_rules | `(tactic| walk_at "dk") => `(tactic| (refine' L2.DefK.of ?a ?l ?c ?k; (case a => k_is); (case l => k_is); (case c => k_is); (case k => k_is)))
set_option maxRecDepth 100000 in
set_option maxHeartbeats 0 in
theorem PySem.Challenge.cw_shorterline_k26_all_stands_that_come_holds : PySem.Challenge.rw_shorterline_k26_all_stands_that_come.Holds := by
 w_on;o_law;k_head;(case hw=>w_witness2)
 k_fill
 refine K.walk (l:=PySem.Challenge.rw_shorterline_k26_all_stands_that_come) ?hq rfl rfl (λw h Y=>PySem.W.kIn_of Y) ?F
 case hq=>kernel_rfl
 case F=>
  intro w mg fa h KX G hmg;refine' K.SU KX G hmg ?dgreatest_divisor ?dfraction_of ?dtaken_off ?ddivided ?dis_less ?don_one_bottom ?dplace_of_lines ?dfirst_shortest ?dwait_at ?dfirst_quickest ?dsent_to ?dfirst_stand ?dall_orders ?dwith_more ?dcome_to ?ddone_at ?dnext_shift ?dsettled ?dturn_behind ?dline_of ?dmoved_on ?dmove_shares ?dweights_behind ?dtold_shares ?dleft_by_turn ?dstands_coming ?d_law_tape ?d_law_draw ?d_law_cut ?d_law_plus ?d_law_parts ?d_law_hall ?d_law_all_lines ?d_law_rule ?d_law_orders ?d_law_soonest ?d_law_sent ?d_law_more ?d_law_evened ?d_law_asked ?d_law_behind ?d_law_first ?d_law_coming ?d_law_told ?dlaw ?zlen ?zabs ?zrange ?zlist ?ztuple ?zint ?zsum ?zzip ?zmin ?zmax ?zenumerate ?zrepr ?zsorted ?zisinstance ?zValueError ?cWHOLE_TURN ?cMOST_STANDS ?eLineError ?eTooMany ?eNoBest ?eNoFraction ?eNoHall ?eNoNever ?eNoShares ?eNoText ?iTooMany ?fsub ?fi1 ?fi2 ?fa1 ?fi3
  (case dgreatest_divisor=>ext dk)
  (case dfraction_of=>ext dk)
  (case dtaken_off=>ext dk)
  (case ddivided=>ext dk)
  (case dis_less=>ext dk)
  (case don_one_bottom=>ext dk)
  (case dplace_of_lines=>ext dk)
  (case dfirst_shortest=>ext dk)
  (case dwait_at=>ext dk)
  (case dfirst_quickest=>ext dk)
  (case dsent_to=>ext dk)
  (case dfirst_stand=>ext dk)
  (case dall_orders=>ext dk)
  (case dwith_more=>ext dk)
  (case dcome_to=>ext dk)
  (case ddone_at=>ext dk)
  (case dnext_shift=>ext dk)
  (case dsettled=>ext dk)
  (case dturn_behind=>ext dk)
  (case dline_of=>ext dk)
  (case dmoved_on=>ext dk)
  (case dmove_shares=>ext dk)
  (case dweights_behind=>ext dk)
  (case dtold_shares=>ext dk)
  (case dleft_by_turn=>ext dk)
  (case dstands_coming=>ext dk)
  (case d_law_tape=>ext dk)
  (case d_law_draw=>ext dk)
  (case d_law_cut=>ext dk)
  (case d_law_plus=>ext dk)
  (case d_law_parts=>ext dk)
  (case d_law_hall=>ext dk)
  (case d_law_all_lines=>ext dk)
  (case d_law_rule=>ext dk)
  (case d_law_orders=>ext dk)
  (case d_law_soonest=>ext dk)
  (case d_law_sent=>ext dk)
  (case d_law_more=>ext dk)
  (case d_law_evened=>ext dk)
  (case d_law_asked=>ext dk)
  (case d_law_behind=>ext dk)
  (case d_law_first=>ext dk)
  (case d_law_coming=>ext dk)
  (case d_law_told=>ext dk)
  (case dlaw=>ext dk)
  (case zlen=>k_is)
  (case zabs=>k_is)
  (case zrange=>k_is)
  (case zlist=>k_is)
  (case ztuple=>k_is)
  (case zint=>k_is)
  (case zsum=>k_is)
  (case zzip=>k_is)
  (case zmin=>k_is)
  (case zmax=>k_is)
  (case zenumerate=>k_is)
  (case zrepr=>k_is)
  (case zsorted=>k_is)
  (case zisinstance=>k_is)
  (case zValueError=>k_is)
  (case cWHOLE_TURN=>(refine' L2.ConK.ints ?a ?l ?i ?z;(case a=>k_is);(case l=>k_is);(case i=>rfl);(case z=>decide)))
  (case cMOST_STANDS=>(refine' L2.ConK.int ?a;(case a=>k_is)))
  (case eLineError=>(refine' L2.ExcK.of ?a ?b;(case a=>k_is);(case b=>k_exc)))
  (case eTooMany=>(refine' L2.ClsK.of ?a;(case a=>k_is)))
  (case eNoBest=>(refine' L2.ClsK.of ?a;(case a=>k_is)))
  (case eNoFraction=>(refine' L2.ClsK.of ?a;(case a=>k_is)))
  (case eNoHall=>(refine' L2.ClsK.of ?a;(case a=>k_is)))
  (case eNoNever=>(refine' L2.ClsK.of ?a;(case a=>k_is)))
  (case eNoShares=>(refine' L2.ClsK.of ?a;(case a=>k_is)))
  (case eNoText=>(refine' L2.ClsK.of ?a;(case a=>k_is)))
  (case iTooMany=>(refine' L2.IniK.of1 (qual:= "TooMany.__init__") (st:=K.gH) K.xv rfl (by decide) (by decide) K.y6 ?xa ?xb ?xc ?xl ?xe ?xk ?xd ?xi ?xs ?xt ?xo ?xn;(case xa=>k_is);(case xb=>k_is);(case xc=>k_is);(case xl=>k_is);(case xe=>k_is);(case xk=>k_is);(case xd=>k_is);(case xi=>kernel_rfl);(case xs=>kernel_rfl);(case xt=>k_is);(case xo=>k_is);(case xn=>k_is)))
  (case fsub=>(refine' L2.SubX.of ?a ?b ?c;(case a=>k_is);(case b=>k_is);(case c=>kts_exm)))
  (case fi1=>(refine' L2.IsIn.own (L2.XCls.of ?xa ?xb ?xc ?xd ?xe ?xf ?xg ?xh ?xi) ?xp ?xq ?xr;(case xa=>k_is);(case xb=>k_is);(case xc=>k_is);(case xd=>k_is);(case xe=>k_is);(case xf=>k_is);(case xg=>k_is);(case xh=>k_is);(case xi=>k_is);(case xp=>k_is);(case xq=>k_is);(case xr=>kit_is)))
  (case fi2=>(refine' L2.IsIn.ty (L2.XCls.of ?xa ?xb ?xc ?xd ?xe ?xf ?xg ?xh ?xi) ?xp ?xr;(case xa=>k_is);(case xb=>k_is);(case xc=>k_is);(case xd=>k_is);(case xe=>k_is);(case xf=>k_is);(case xg=>k_is);(case xh=>k_is);(case xi=>k_is);(case xp=>k_is);(case xr=>kit_is)))
  (case fa1=>(refine' L2.XAt.of (L2.XCls.of ?xa ?xb ?xc ?xd ?xe ?xf ?xg ?xh ?xi) ?xp ?xq;(case xa=>k_is);(case xb=>k_is);(case xc=>k_is);(case xd=>k_is);(case xe=>k_is);(case xf=>k_is);(case xg=>k_is);(case xh=>k_is);(case xi=>k_is);(case xp=>k_is);(case xq=>k_is)))
  (case fi3=>(refine' L2.IsIns.of (L2.XCls.of ?xa ?xb ?xc ?xd ?xe ?xf ?xg ?xh ?xi) ?xp (.cons ?xq1 (.cons ?xq2 (.cons ?xq3 (.cons ?xq4 (.cons ?xq5 (.cons ?xq6 .nil)))))) ?xr;(case xa=>k_is);(case xb=>k_is);(case xc=>k_is);(case xd=>k_is);(case xe=>k_is);(case xf=>k_is);(case xg=>k_is);(case xh=>k_is);(case xi=>k_is);(case xp=>k_is);(case xq1=>k_is);(case xq2=>k_is);(case xq3=>k_is);(case xq4=>k_is);(case xq5=>k_is);(case xq6=>k_is);(case xr=>kit_is)))