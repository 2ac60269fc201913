import PyProof.Rows.All
import Wide.All
import OpenK.AllK
import Wide.FinOn
import Lean
import PyProof.EqAt
import PyProof.EqKinds
import PyProof.TupleCall
import KE.KRevIter
import PyProof.FactsAll.range
import PyProof.P3In
import PyProof.ZipIter
import PyProof.TupleIter
import PyProof.AutoListH
import PyProof.WalkInts
import PyProof.SeqI3
import PyProof.EnumFor
import PyProof.EnumMake
import PyProof.ListMulRoad
import PyProof.Rows.SortRev
import PyProof.SumWalkG
import PyProof.StrWalks
import PyProof.StrCalls2
import PyProof.StrLawsTight
import KE.KIntText
import PyProof.StrBlockG
import PyProof.Rows.StrItems
import PyProof.SliceStr2
import PyProof.StrBlockI
import PyProof.Rows.IntBool
import PyProof.StrOps2
import PyProof.ListStr
import PyProof.DictRoadsH
import PyProof.Rows.TupTab
import PyProof.P3Eq
import PyProof.StationsW
import PyProof.RulesAs
import OpenK.KOwn
import KE.KTryMore
import PyProof.NsDelKeeps
import PyProof.ExcArgsOwn
import PyProof.ExcInit
import PyProof.InstStoreFacts
import PyProof.ListRange
import PyProof.TupleOfStr
import PyProof.CollectIter
import PyProof.DictItems
import PyProof.DictWalks
import PyProof.StrLawsRepr
import PyProof.Rows.FStr
import PyProof.FString
import PyProof.FactsAll.tuple
import KE.KSortTup
import PyProof.CollectWalk
import PyProof.AutoSeq1
import PyProof.DictTruth
import KE.RegKIsAll
import KE.RegKTryMore
import PySem.Challenge.RW_shorterline_k56_standings
set_option Elab.async false
set_option linter.all false
set_option maxRecDepth 100000
local macro_rules|`(tactic|omega)=>`(tactic|first|lia|omega +splitNatSub)
namespace Zz
theorem e1_1{α:Sort _}{p:α→Prop}{g:Prop}(h:∃a,p a)(k:∀a,p a→g):g:=h.elim λa h=>k a h
theorem e0_2{p q:Prop}{g:Prop}(h:p∧q)(k:p→q→g):g:=k  h.1 h.2
theorem e2_1{α β:Sort _}{p:α→β→Prop}{g:Prop}(h:∃a b,p a b)(k:∀a b,p a b→g):g:=h.elim λa h=>h.elim λb h=>k a b h
theorem e1_2{α:Sort _}{p q:α→Prop}{g:Prop}(h:∃a,p a∧q a)(k:∀a,p a→q a→g):g:=h.elim λa h=>k a h.1 h.2
theorem e0_3{p q r:Prop}{g:Prop}(h:p∧q∧r)(k:p→q→r→g):g:=k  h.1 h.2.1 h.2.2
theorem e3_1{α β γ:Sort _}{p:α→β→γ→Prop}{g:Prop}(h:∃a b c,p a b c)(k:∀a b c,p a b c→g):g:=h.elim λa h=>h.elim λb h=>h.elim λc h=>k a b c h
theorem e2_2{α β:Sort _}{p q:α→β→Prop}{g:Prop}(h:∃a b,p a b∧q a b)(k:∀a b,p a b→q a b→g):g:=h.elim λa h=>h.elim λb h=>k a b h.1 h.2
theorem e1_3{α:Sort _}{p q r:α→Prop}{g:Prop}(h:∃a,p a∧q a∧r a)(k:∀a,p a→q a→r a→g):g:=h.elim λa h=>k a h.1 h.2.1 h.2.2
theorem e0_4{p q r s:Prop}{g:Prop}(h:p∧q∧r∧s)(k:p→q→r→s→g):g:=k  h.1 h.2.1 h.2.2.1 h.2.2.2
theorem e4_1{α β γ δ:Sort _}{p:α→β→γ→δ→Prop}{g:Prop}(h:∃a b c d,p a b c d)(k:∀a b c d,p a b c d→g):g:=h.elim λa h=>h.elim λb h=>h.elim λc h=>h.elim λd h=>k a b c d h
theorem e3_2{α β γ:Sort _}{p q:α→β→γ→Prop}{g:Prop}(h:∃a b c,p a b c∧q a b c)(k:∀a b c,p a b c→q a b c→g):g:=h.elim λa h=>h.elim λb h=>h.elim λc h=>k a b c h.1 h.2
theorem e2_3{α β:Sort _}{p q r:α→β→Prop}{g:Prop}(h:∃a b,p a b∧q a b∧r a b)(k:∀a b,p a b→q a b→r a b→g):g:=h.elim λa h=>h.elim λb h=>k a b h.1 h.2.1 h.2.2
theorem e1_4{α:Sort _}{p q r s:α→Prop}{g:Prop}(h:∃a,p a∧q a∧r a∧s a)(k:∀a,p a→q a→r a→s a→g):g:=h.elim λa h=>k a h.1 h.2.1 h.2.2.1 h.2.2.2
theorem e0_5{p q r s t:Prop}{g:Prop}(h:p∧q∧r∧s∧t)(k:p→q→r→s→t→g):g:=k  h.1 h.2.1 h.2.2.1 h.2.2.2.1 h.2.2.2.2
theorem i2_1{α β:Sort _}{p:α→β→Prop}(a:α)(b:β)(h0:p a b):∃a b,p a b:=⟨a,b,h0⟩
theorem i1_2{α:Sort _}{p q:α→Prop}(a:α)(h0:p a)(h1:q a):∃a,p a∧q a:=⟨a,h0,h1⟩
theorem i0_3{p q r:Prop}(h0:p)(h1:q)(h2:r):p∧q∧r:=⟨h0,h1,h2⟩
theorem i3_1{α β γ:Sort _}{p:α→β→γ→Prop}(a:α)(b:β)(c:γ)(h0:p a b c):∃a b c,p a b c:=⟨a,b,c,h0⟩
theorem i2_2{α β:Sort _}{p q:α→β→Prop}(a:α)(b:β)(h0:p a b)(h1:q a b):∃a b,p a b∧q a b:=⟨a,b,h0,h1⟩
theorem i1_3{α:Sort _}{p q r:α→Prop}(a:α)(h0:p a)(h1:q a)(h2:r a):∃a,p a∧q a∧r a:=⟨a,h0,h1,h2⟩
theorem i0_4{p q r s:Prop}(h0:p)(h1:q)(h2:r)(h3:s):p∧q∧r∧s:=⟨h0,h1,h2,h3⟩
theorem i4_1{α β γ δ:Sort _}{p:α→β→γ→δ→Prop}(a:α)(b:β)(c:γ)(d:δ)(h0:p a b c d):∃a b c d,p a b c d:=⟨a,b,c,d,h0⟩
theorem i3_2{α β γ:Sort _}{p q:α→β→γ→Prop}(a:α)(b:β)(c:γ)(h0:p a b c)(h1:q a b c):∃a b c,p a b c∧q a b c:=⟨a,b,c,h0,h1⟩
theorem i2_3{α β:Sort _}{p q r:α→β→Prop}(a:α)(b:β)(h0:p a b)(h1:q a b)(h2:r a b):∃a b,p a b∧q a b∧r a b:=⟨a,b,h0,h1,h2⟩
theorem i1_4{α:Sort _}{p q r s:α→Prop}(a:α)(h0:p a)(h1:q a)(h2:r a)(h3:s a):∃a,p a∧q a∧r a∧s a:=⟨a,h0,h1,h2,h3⟩
theorem i0_5{p q r s t:Prop}(h0:p)(h1:q)(h2:r)(h3:s)(h4:t):p∧q∧r∧s∧t:=⟨h0,h1,h2,h3,h4⟩
end Zz
local macro_rules
 |`(tactic|let $d:letDecl)=>do
  let D:=d.raw[0];let p:=D[0];let q:=p[1].getSepArgs
  if p.getKind !=``Lean.Parser.Term.anonymousCtor||q.size<2 then Lean.Macro.throwUnsupported
  let mut e:Lean.TSyntax `term:=⟨D[4]⟩
  if D[2].getNumArgs !=0 then e:=←`(($e : $(⟨D[2][0][1]⟩)))
  let T:=Array (Lean.TSyntax `tactic)
  let mut U:T:=#[]
  let mut cl:T:=#[]
  if e.raw.isIdent then cl:=#[←`(tactic|try clear $(⟨e.raw⟩))]
  let K:=Nat.min q.size 5
  for k in [0:K-1] do
   let N:=K-k
   let mut z:=cl
   for i in [0:N] do
    let c:=q[i]!
    if c.isIdent&&c.getId !=`rfl&&(i+1<N||N==q.size) then z:=z.push (←`(tactic|intro $(⟨c⟩):ident))
    else
     let y:=Lean.mkIdent (←Lean.Macro.addMacroScope (.mkSimple s!"x{i}"))
     z:=z.push (←`(tactic|intro $y:ident))
     if i+1==N&&N<q.size then
      let r:Lean.TSyntaxArray `term:=(q.extract i q.size).map (⟨·⟩)
      z:=z.push (←`(tactic|let ⟨$r,*⟩:=$y))
     else if c.getKind==``Lean.Parser.Term.anonymousCtor then z:=z.push (←`(tactic|let $(⟨c⟩):term:=$y))
     else if c.isIdent then z:=z.push (←`(tactic|rcases $y:ident with $(⟨c⟩):ident))
   for i in [0:N] do
    let s:=#[←`(tactic|refine $(Lean.mkIdent (.mkStr2 "Zz" s!"e{N-1-i}_{i+1}")) $e ?_)]++z
    U:=U.push (←`(tactic|($[$s:tactic];*)))
  let rec cv:Nat->Lean.Syntax->Lean.MacroM (Lean.TSyntax `rcasesPat)
   |0,_=>Lean.Macro.throwUnsupported
   |n+1,c=>do
    if c.isIdent then `(rcasesPat|$(⟨c⟩):ident)
    else if c.getKind==``Lean.Parser.Term.anonymousCtor then
     let a:=←c[1].getSepArgs.mapM (cv n)
     `(rcasesPat|⟨$[$a],*⟩)
    else `(rcasesPat|_)
  let m←cv 9 p
  `(tactic|first $[|$U:tactic]*|rcases $e:term with $m:rcasesPat)
 |`(tactic|intro $a*)=>do
  let C:=λx:Lean.Syntax=>x.getKind==``Lean.Parser.Term.anonymousCtor||x.getId==`rfl
  if !a.any (C ·.raw) then Lean.Macro.throwUnsupported
  let mut z:Array (Lean.TSyntax `tactic):=#[]
  for x in a do
   if C x then
    let y:=Lean.mkIdent (←Lean.Macro.addMacroScope `y)
    z:=z.push (←`(tactic|intro $y:ident))
    z:=z.push (←if x.raw.isIdent then `(tactic|rcases $y:ident with $(⟨x⟩):ident) else `(tactic|let $x:term:=$y))
   else z:=z.push (←`(tactic|intro $x:term))
  `(tactic|($[$z:tactic];*))
 |`(tactic|exact ⟨$a,*⟩)=>do
  let q:=a.getElems;let n:=q.size
  if n<3||5<n then Lean.Macro.throwUnsupported
  let mut U:Array (Lean.TSyntax `tactic):=#[]
  for i in [0:n] do U:=U.push (←`(tactic|exact $(Lean.mkIdent (.mkStr2 "Zz" s!"i{n-1-i}_{i+1}")) $q*))
  `(tactic|first $[|$U:tactic]*|exact (⟨$a,*⟩))
 |`(tactic|refine ⟨$a,*⟩)=>do
  let q:=a.getElems;let n:=q.size
  if n<3||5<n then Lean.Macro.throwUnsupported
  let mut U:Array (Lean.TSyntax `tactic):=#[]
  for i in [0:n] do U:=U.push (←`(tactic|refine $(Lean.mkIdent (.mkStr2 "Zz" s!"i{n-1-i}_{i+1}")) $q*))
  `(tactic|first $[|$U:tactic]*|refine (⟨$a,*⟩))
local macro_rules |`(tactic|ext a)=>`(tactic|walk_at"a")|`(tactic|ext b)=>`(tactic|walk_at"b")|`(tactic|ext c)=>`(tactic|walk_at"c")|`(tactic|ext d)=>`(tactic|walk_at"d")|`(tactic|ext dk)=>`(tactic|walk_at"dk")|`(tactic|ext dm)=>`(tactic|walk_at"dm")|`(tactic|ext n)=>`(tactic|walk_at"n")|`(tactic|ext s)=>`(tactic|walk_at"s")|`(tactic|ext sc)=>`(tactic|walk_at"sc")|`(tactic|ext x)=>`(tactic|walk_at"x")
open PySem renaming PyData->aD,wpAny_bind->gT,Value->mT,Shared->AD,wpAny_pure->Io,starEach->aac,sizeLine_eq->aae,sizeLine->aai,mainGlobals->aav,Program->aaF,foldedSetIterable->aaQ,Heap->aaW,wpAny_setField_rec->aaY,wpAny_callSpecial?_slot->aa0,bootBuiltins->aa2,Around->aa4,wpAny_isOneOf_itemiter->abb,wpAny_call_entry->abc,wpAny_newObj_type->abe,compareOp->abh,backTo->abk,attributeBase->abr,sysModules->abu,swapsWith->abA,wpAny_field->abD,wpAny_rule->abI,Paired->abL,assignEach->abT,keywordEach->abV,wpAny_holding->abZ,FuncData->ab3,DictEntry->ab8,wpAny_mono->ace,binaryOp->aco,mem_of_lookup->acu,wpAny_Call_Name_kw->acA,wpAny_seqItems->acE,wpAny_passesOwn->acF,standAt->acH,Builtin->acI,wpAny_dictEntries->acM,behindInMarks->acP,pyNext->acU,backToKw->acW,wpAny_typeOf->acY,Keyword->acZ,IsItemIter->ac6,codeAny_builtin->adb,wpAny_standAt->adc,wpAny_attempt->add,holding->adr,wpAny_isInstance->adu,swapsWithSole->adE,swappedStores->adF,bindArgs->adG,wpAny_comprehension_free->adJ,ReadsAll->adK,setField->adL,letOwnedTupleGo->adU,codeAny->adV,wpAny_dictEpoch->adY,call_meets->ad0,tupleKind_room_in1->ad1,sliceBounds->ad4,codeAny_mono->ad7,getMethod->aen,wpAny_forIn_list->aer,getItem->aev,NameKind->aeA,wpAny_updateSeq_pair->aeC,wpAny_execs_nil->aeG,wpAny_specialOf->aeM,wpAny_loadPart'->aeN,valueAt->aeT,Operator->aeZ,rawInt->ae6,wpAny_fieldsOf->ae8,wpAny_binaryOp_repeat_ref->aff,wpAny_truthy_bool->afk,wpAny_sequenceKey->afm,slot_list_getitem->afn,wpAny_letGo->afp,assign->aft,wpAny_getItem_list_slice->afv,IsPair->afy,wpAny_onRaise->afz,wpAny_newList->afB,IsItemIterOut->afD,PassesOwn->afG,noFill_tuple_add->afH,Within->afS,pyIter->afU,concat_meets->afX,IsPart->afY,typeIs_int->af0,wpAny_Call_method_late->af1,wpAny_Assign_Subscript->af3,wpAny_ret_mkInt->agb,wpAny_updateSeq->agc,exec_Assign_Name_used->agf,wpAny_notOrdered_dict->agk,callWith->ago,subscripted->agp,compEnvC->agr,wpAny_newTuple->agt,isSubtype_stop->agu,tupleKind->agy,callerA->agz,relabel->agA,seq_tuple_add->agK,plainId_quiet->agP,IntMulOk->ag1,BindsTo->ag3,newList->ag6,call_meetsIn->ahb,slicePick->ahf,seqSlot_of->ahk,specialOf->ahm,call->ahD
open List renaming length_map->iO,getElem?_eq_getElem->lD,getElem?_eq_some_iff->Ad,mem_of_getElem?->GT,mem_cons_of_mem->LD,mem_cons_self->aaa,mem_singleton->aab,mem_cons->aaf,getElem?_map->aah,length_append->aaj,map_cons->aak,replicate->aal,mem_map->aap,map_append->aaq,getD_eq_getElem?_getD->aar,take_length->aau,length_take->aaw,range->aaz,length_cons->aaA,getElem?_append_left->aaC,mem_append_right->aaI,size_toArray->aaJ,getElem?_append_right->aaL,Nodup->aaM,append_nil->aaN,getElem?_take->aaO,getElem?_set_ne->aaP,take_add_one->aaR,mem_append->aaT,append_assoc->aaU,length_range->aaV,getElem?_set_self->aaX,lookup_cons->aa3,eq_nil_of_length_eq_zero->aa6,map_map->aa9,nodup_cons->aba,not_mem_nil->abd,nil_append->abf,length_set->abg,length_filter_le->abn,all_eq_true->abz,mem_append_left->abB,nodup_nil->abE,mem_iff_getElem->abW,getElem?_of_mem->abX,all_cons->ab0,ext_getElem?->ab5,getElem?_range->ab9,range_succ->aca,mem_flatMap->ach,mem_of_mem_take->acp,pairwise_singleton->acr,replicate_succ->acv,filter_cons->acy,pairwise_cons->acD,nodup_append->acK,sum_cons->acQ,map_congr_left->acS,take_of_length_le->ac3,map_nil->ac5,length_replicate->adf,take_append_drop->adh,reverse_cons->adl,length->adn,cons_append->adv,pairwise_iff_getElem->adx,drop_eq_getElem_cons->ady,filterMap_cons->adz,flatMap_append->adA,getElem_set_ne->adB,eq_of_mem_replicate->adP,mem_filter->adT,length_nil->adW,getElem?_replicate->ad2,set_eq_take_append_cons_drop->ad5,all_map->aeg,length_singleton->aem,length_drop->aep,getElem_mem->aeq,any_eq_true->aeu,any_cons->aex,lookup->aez,foldl_cons->aeH,forIn_cons->aeJ,mem_range->aeX,filter_append->afd,mem_or_eq_of_mem_set->afg,reverse_perm->afs,of_mem_zip->af9,getElem_set_self->agg,getElem?_eq_none->agj,contains_iff_mem->agn,getElem?_mapIdx->agv,take->agB,length_reverse->agE,reverse_append->agG,map_eq_nil_iff->agI,filterMap_map->agR,set_cons_zero->agX,set_cons_succ->agY,map_replicate->ag0,flatten_cons->ag4,foldl_append->ahc,ext_getElem->ahh,zipIdx_cons->ahj,isEmpty_iff->ahl,map_id->ahr,range'->ahs,foldl->ahC
open PySem.Heap renaming get?_push_of_some->Ld,get?_push_size->aan,lt_size->aao,size_push->abC,SameBut->ab2,get?_update_other->ac0,get?_update_self->adg,size_update->aes,ExtBut->ags
open Nat renaming le_refl->Mt,le_trans->aas,lt_of_lt_of_le->aat,ne_of_lt->aa1,zero_le->abm,ne_of_gt->abv,mul_le_mul->abx,lt_succ_self->aby,le_of_lt->abP,min_le_right->acf,le_add_right->acx,zero_add->acJ,mul_le_mul_right->acL,lt_irrefl->acO,mul_comm->ac1,succ_mul->adt,zero_ne_add_one->adD,add_assoc->adO,lt_trans->aeb,lt_succ_of_lt->aed,lt_of_succ_lt->aeh,le_of_ble_eq_true->aek,le_max_left->aeK,le_succ->afl,gcd_pos_of_pos_right->afF,le_of_eq->afV,add_left_cancel->agH,min_self->ag9,mul_add->aht,mod_lt->ahE
open PySem.W renaming Frag->aad,nsIn->aaG,mg_none_of->aaZ,fnOf->abj,findIn->abo,emptyDict->abK,keepIn->abM,instObj->acs,plainGet->acV,kia_one->ac9,hasDictIn->adk,codeIn->ado,plainOver->ad6,plainGet_of->aeQ,isFn->aeR,lookIn->ae1,callWith_K->ae2,mg_of->afx,cellsFrom_some->afW,takerIn->af7,makesIn->af8,methodCall_KW->age,handedIn->ahd,OpenLaw->ahu,WalkO->ahF
open PySem.PyData renaming eqv->aag,depthAll->aax,hasDict_of_canLay->aa5,hasDictAll_of_canLayAll->abp,canLayAll0->abt,tuple->abQ,int->abU,hasDict->ab4,hasDictAll->acq,str->ac7,shownAll->ada,canLay0->ae3,list->afo,shown->af2,showableAll->agT,noDict_hsm->ag8
open Bool renaming false_ne_true->aam,and_eq_true->aaS,eq_iff_iff->abF,false_eq_true->acg,and_true->ade,or_true->aej,or_eq_false_iff->aeB,not_eq_true->afJ,or_eq_true->aga,beq_eq_decide_eq->agh
open Option.some renaming inj->aaB,injEq->ag7
open PySem.PassesOwn renaming never->aaD
open PyProof.Rows renaming wpS_bind->aaE,pendingOf->aaH,wpS_pure->aaK,slot_tuple_getitem->abl,SortSt->abq,wpS_forRange->abw,wpS_mono->ab7,seqObj->acX,callWith_type1->adj,envOfC->ad8,callWith_builtin1->aeo,wpS_modify->aet,IntsAre->aeS,wpS_get->aeV,assignInOrder_cons->ae0,failedOf->afb,AllBare->afj,listUpdate_at->afA,SortKind->afO,wpS_lift->afP,subscriptTail_builtinR->afZ,sortedHeap->af6,gallopOf->agw,tupleItemsOf_->agM,subscriptTail->agN,Subscript_->agS,listItems_at->aha
open PySem.F renaming slot_dict_itemiterator_next->aa7,args_dict_itemiterator_next_1->acb,entry_dict_itemiterator_next->aci,slot_tuple_index->acl,slot_list_append->acm,type_list_append->acn,type_tuple_index->acR,plain_extend_loop->adC,args_tuple_add_2->adH,slot_list_extend->adQ,type_list_extend->adR,entry_tuple_add->ad3,slot_tuple_add->ad9,slot_tuple_mul->aee,slot_dict_get->ael,slot_zip_next->aeL,slot_dict_items_iter->aeP,slot_tuple_iterator_next->ae5,slot_dict_getitem->afh,slot_tuple_hash->afr,slot_list_index->afI,slot_tuple_rmul->afK,args_dict_get_3->afL,plainAttrs_dict->afM,slot_dict_items->afN,entry_dict_get->af4,slot_int_rmul->agi,entry_extend_loop->agF
open Int renaming toNat_natCast->aa8,eq_ofNat_of_zero_le->abY,emod_lt_of_pos->ac8,natCast_mul->adX,emod_nonneg->adZ,le_trans->aei,le_refl->aeF,natCast_add->aeO,ediv_nonneg->agd,toNat->agC
open PySem.Value renaming ref->abi,type->adm,none->afR,int->agx,bool->ahz,str->ahH
open PySem.Builtin.Tuple renaming tupleHashOf->abG,tupleExact->abN,tupleItemsOf->adp,tupleIsExact->ae4,tupleTooMany->ae7
open PySem.Builtin.SmallTypes renaming nextOf->abH,ownedTupleIsFree->adM
open Array renaming length_toList->abJ,getElem?_eq_getElem->acd,toList_append->acT,getElem?_toList->adi,toList_push->aef,mem_toList_iff->aey,toList_extract->aeE,toList_setIfInBounds->afc,toList->afT,getElem?_eq_none->af5,mem_of_getElem?->agm,forIn_toList->agZ,toList_zip->aho,toList_inj->ahp,toList_map->ahq,size_push->ahv
open PySem.Builtin.Dict_items renaming ownedTupleIsFree->abO,ownsTuple->abR,pairFromOwner->ab6,isOneOf->ae9
open Ne renaming symm->ab1
open PySem.Str renaming ofString->acj,empty->aeW
open PySem.SeqAt renaming shaped->ack,canLay_of_shaped->ac2,readOf->ac4,EqAt->afQ,readsAll_map->agU,items_eqAt->ahi,eqAt_reads->ahn
open False renaming elim->act
open PySem.Builtin.List renaming listLengthHint->acw,listTooLong->adI,listSameRef->adN,listExtendWith->aeU
open True renaming intro->acz
open PySem.Obj renaming mapSeq->acB,data_mapFields->agW
open Option renaming map_some->acG,map_eq_some_iff->aec,isSome_map->afq,isSome_iff_exists->afu,getD_none->ahe
open Or renaming inr->adq,inl->afw
open PySem.Builtin.Slice renaming slicePlaces->adw,sliceAdjust->afe
open PySem.Calls renaming callWith_builtin->aea,Name_function_global->aeY,call_function_entry->afi,evalArgs_plain->agq,spliced_cons->agQ,spliced_nil->ag2
open PySem.NameKind renaming free->aew,cell->ahG
open PySem.Around renaming under_plainId->aeD
open ForInStep renaming yield->aeI
open PyProof.Rows.SortSt renaming mk'->afa
open List.cons renaming inj->afC
open PySem.Shared renaming TypeIs->afE
open PySem.Heap.SameBut renaming update->agD
open PySem.Paired renaming length->agJ
open List.Pairwise renaming nil->ag5
open And renaming intro->ahg
open Sum renaming inl->ahw,inr->ahx
open Prod renaming ext->ahA
namespace L2
open PySem PySem.Spec PyProof.Rows
variable{us:List mT}{H:Hp}{C a b:Addr}{o:HO}{h:aaW}{P:aaF}{w:World}{g':Array GenState}{i j t':Nat}{ch fp:List Addr}{N ps:List Str}{x:Str}{M:Model}{A:aa4}{E Q:mT->AD->Prop}{v:V}{u:mT}{X:Cx}{c e tg:Expr}{pos:Pos}{pins:List (Addr×Obj)}{σ:St}{K:aad}{es:List Expr}{te:TE}{op:CmpOp}{body:List Stmt}{f:mT->mT->Sem mT}{r:R2}{g:Int->Int->Int}{mA mg:Str->Option mT}{pl:Sem Bool}{kw:List (Str×mT)}{outer:List Env}{vs:List V}{scope:Scope}
abbrev Key:=Sum Int Str
def xV:Key->mT->Bool
 | .inl k,v=>Value.isInt k v
 | .inr x,v=>Value.isStrOf x v
def keyH(w:World):Key->Int
 | .inl k=>hashInt k
 | .inr x=>hashStr w x
theorem bX:∀{k:Key}{v:mT},xV k v=true->(∃i t,k=ahw i/\v=agx i t)\/(∃x t,k=ahx x/\v=ahH x t)
 | .inl i,v,h=>by
  let⟨t,e⟩:=mT.isInt_shape h;exact .inl ⟨i,t,rfl,e⟩
 | .inr x,v,h=>by
  let⟨t,e⟩:=mT.isStrOf_shape h;exact .inr ⟨x,t,rfl,e⟩
def BZ(i:Int)(t:Tok):xV (.inl i) (.int i t)=true:=by simp[xV,Value.isInt]
def BM(x:Str)(t:Tok):xV (.inr x) (.str x t)=true:=by simp[xV,Value.isStrOf]
theorem QB(a b:Int):decide ((ahw a:Key)=ahw b)=(a==b):=by
 by_cases e:a=b
 .subst e;simp
 .simp_all
def Qc(a b:Str):decide ((ahx a:Key)=ahx b)=decide (a=b):=by simp
def RF(a:Int)(b:Str):decide ((ahw a:Key)=ahx b)=false:=rfl
def QT(a:Str)(b:Int):decide ((ahx a:Key)=ahw b)=false:=rfl
def cp(prog:aaF)(w:World):PySem.KeyKind prog w Key where
 is:=xV
 hash:=keyH w
 inj:=λv a b n l=>by
  rcases bX n with⟨i,t,rfl,rfl⟩|⟨x,t,rfl,rfl⟩
  .rcases bX l with⟨j,u,rfl,e⟩|⟨y,u,rfl,e⟩
   .injection e with e1 _;rw[e1]
   .exact nomatch e
  .rcases bX l with⟨j,u,rfl,e⟩|⟨y,u,rfl,e⟩
   .exact nomatch e
   .injection e with e1 _;rw[e1]
 byValue:=λk v h=>by
  rcases bX h with⟨i,t,rfl,rfl⟩|⟨x,t,rfl,rfl⟩<;>rfl
 pyHash:=λd h=>by
  rcases bX d with⟨i,t,rfl,rfl⟩|⟨x,t,rfl,rfl⟩
  .exact wpAny_pyHash_int h
  .exact wpAny_pyHash_str h
 eqBool:=λm d h=>by
  rcases bX m with⟨i,t,rfl,rfl⟩|⟨x,t,rfl,rfl⟩
  .rcases bX d with⟨j,u,rfl,rfl⟩|⟨y,u,rfl,rfl⟩
   .rw[QB]at h;exact wpAny_eqBool_int h
   .rw[RF]at h;exact afQ.int_str i t y u _ _ _ _ h
  .rcases bX d with⟨j,u,rfl,rfl⟩|⟨y,u,rfl,rfl⟩
   .rw[QT]at h;exact afQ.str_int x t j u _ _ _ _ h
   .rw[Qc]at h;exact wpAny_eqBool_str h
 «strs»:=λk x t v h=>by
  rcases bX h with⟨i,u,rfl,e⟩|⟨y,u,rfl,e⟩
  .exact nomatch e
  .injection e with e1 _
   subst e1
   cases v<;>rfl
def uU(prog:aaF)(w:World)(i:Int)(t:Tok):(cp prog w).is (.inl i) (.int i t)=true:=BZ i t
def uK(prog:aaF)(w:World)(x:Str)(t:Tok):(cp prog w).is (.inr x) (.str x t)=true:=BM x t
inductive V where
 |non|bl (b:Bool)|int (i:Int)|str (x:Str)|byt (b:Array UInt8)|flt (b:UInt64)|ref (a:Addr)|ty (n:String)
 deriving DecidableEq
def RelV:V->mT->Prop
 | .non,u=>u=afR
 | .bl b,u=>u=ahz b
 | .int i,u=>∃t,u=agx i t
 | .str x,u=>∃t,u=ahH x t
 | .byt b,u=>∃t,u=mT.bytes b t
 | .flt b,u=>∃t,u=mT.float b t
 | .ref a,u=>u=abi a
 | .ty n,u=>u=adm n
abbrev Vals:List V->List mT->Prop:=abL RelV
def Vals.length{xs:List V}(r:Vals xs us):xs.length=us.length:=agJ r
theorem Vals.get:∀{xs:List V}{us:List mT}{i:Nat}{x:V},Vals xs us->xs[i]?=some x->∃u,us[i]?=some u/\RelV x u
 |_,_,_,_,.nil,e=>by simp at e
 |_,_,0,_,.cons r _,e=>by simp at e;subst e;exact⟨_,rfl,r⟩
 |_,_,i+1,x,.cons _ t,e=>by
  let⟨u,k,d⟩:=Vals.get t ‹_›;exact⟨u,by simpa using k,d⟩
theorem Vals.append:∀{xs ys:List V}{us d:List mT},Vals xs us->Vals ys d->Vals (xs++ys) (us++d)
 |_,_,_,_,.nil,s=>s
 |_,_,_,_,.cons r t,s=>.cons r (Vals.append t s)
theorem Vals.take:∀{xs:List V}{us:List mT} (n:Nat),Vals xs us->Vals (xs.take n) (us.take n)
 |_,_,0,_=>.nil
 |_,_,_+1,.nil=>.nil
 |_,_,n+1,.cons r t=>.cons r (Vals.take n t)
theorem Vals.drop:∀{xs:List V}{us:List mT} (n:Nat),Vals xs us->Vals (xs.drop n) (us.drop n)
 |_,_,0,r=>r
 |_,_,_+1,.nil=>.nil
 |_,_,n+1,.cons _ t=>Vals.drop n t
theorem Vals.none_of:∀{xs:List V}{us:List mT}{i:Nat},Vals xs us->xs[i]?=none->us[i]?=none:=λ{xs us i} r e=>by
 have d:=r.length
 simp_all
def RelO:Option V->Option mT->Prop
 |some v,some u=>RelV v u
 |none,none=>True
 |_,_=>False
def KV{d:Type}:List (d×V)->List (d×mT)->Prop:=abL λ(p:d×V) (q:d×mT)=>p.1=q.1/\RelV p.2 q.2
def kV:Key->V
 | .inl i=>.int i
 | .inr x=>.str x
inductive HO where
 |lst (xs:List V)
 |tup (xs:List V)
 |dK (kvs:List (Key×V))|dT (kvs:List (List Key×V))
 |set (S:Int->Bool) (n:Nat)
 |ins (C dx:Addr) (fs:List (Str×V))
 |own (x:Addr)
 |xd (fs:List (Str×V))
 |met (f x:Addr)
 |rng (lo hi:Int)
 |frz (o:Obj) (u:HO)
 |tbl (ps:Array mT)
 |ext (φ:aaW->Prop)
abbrev Hp:=Addr->Option HO
def upd(H:Hp)(a:Addr)(o:HO):Hp:=λb=>if b=a then some o else H b
def ay:upd H a o a=some o:=by unfold upd;rw[if_pos rfl]
def av(h:b≠a):upd H a o b=H b:=by unfold upd;rw[if_neg h]
theorem vi{u:HO}(h:H a=some o)(h':H b=some u)(d:o≠u):a≠b:=by
 intro e;subst e;rw[h]at h';exact d (aaB h')
theorem bq(h:H a=some o)(h':H b=none):a≠b:=by grind
def PlainT(h:aaW)(a:Addr)(items:Array mT):Prop:=∃o,h.get? a=some o/\o.cls = .type "tuple"/\o.dict=none/\∃n,o.data = .seq items n
theorem PlainT.tup{items:Array mT}(x:PlainT h a items):IsTup h a items:=let ⟨o,e,c,_,d⟩:=x;⟨o,e,c,d⟩
def PlainT.new(h:aaW)(items:Array mT):PlainT (h.push {cls:=.type "tuple",data:=.seq items}) h.objs.size items:=⟨_,aan _ rfl,rfl,rfl,_,rfl⟩
section
variable (P:aaF) (w:World)
def ObjOk(H:Hp)(h:aaW)(a:Addr):HO->Prop
 | .lst l=>l.length≤aai/\∃(d:List mT) (n:Nat),Vals l d/\h.get? a=some {cls:=.type "list",data:=.seq d.toArray n}
 | .tup l=>l.length≤aai/\∃d:List mT,Vals l d/\PlainT h a d.toArray
 | .dK k=>k.length≤aai/\(a==abu)=false/\∃vs,KV k vs/\h.DictOf (cp P w) a vs
 | .dT k=>k.length≤aai/\(a==abu)=false/\∃l:List (List Key×Addr×mT),
   abL (λ(p:List Key×V) (q:List Key×Addr×mT)=>p.1=q.1/\H q.2.1=some (.tup (p.1.map kV))/\RelV p.2 q.2.2) k l/\
   ∃o es D,h.get? a=some o/\o.ExactDict/\o.data = .dict es D/\es.toList=l.map (entryOfKey (agy (cp P w)))/\(l.map (·.1)).Nodup
 | .set S n=>h.SetOf (intKind P w) a S n
 | .ins C dx fs=>H dx=some (.own a)/\fs.length≤1000/\dx≠a/\h.get? a=some (acs C dx)/\
   ∃mA,h.Ns1 dx mA/\(∀f,RelO (fs.lookup f) (mA f))/\afS mA (fs.map (·.1))
 | .own _=>∃o,h.get? a=some o
 | .xd fs=>∃mA,h.Ns1 a mA/\∀f,RelO (fs.lookup f) (mA f)
 | .rng B z=>∃t u v,h.get? a=some {cls:=.type "range",data:=.fields #[.int B t,.int z u,.int 1 v]}
 | .frz o u=>h.get? a=some o/\ObjOk H h a u
 | .tbl ps=>h.get? a=some {cls:=.none,data:=.fields ps}
 | .met f x=>h.get? a=some (PySem.W.methodObj (.ref f) (.ref x))
 | .ext m=>m h/\(∃o,h.get? a=some o)/\∀s y:aaW,m s->(∀o,s.get? a=some o->y.get? a=some o)->m y
def HOk(H:Hp)(h:aaW):Prop:=∀a o,H a=some o->ObjOk P w H h a o
end
section
variable {P:aaF}{w:World}{H g:Hp}{h h':aaW}{a:Addr}{o:HO}
theorem ObjOk.lt(x:ObjOk P w H h a o):a<h.objs.size:=by
 cases o with
 |lst d=>let⟨_,_,_,_,e⟩:=x;exact aao e
 |tup d=>let⟨_,_,_,p⟩:=x;exact p.tup.lt
 |dK k=>let⟨_,_,_,_,o,_,_,e,_⟩:=x;exact aao e
 |dT k=>let⟨_,_,_,_,o,_,_,e,_⟩:=x;exact aao e
 |set S n=>let⟨o,_,_,_,e,_⟩:=x;exact aao e
 |ins C dx fs=>let⟨_,_,_,e,_⟩:=x;exact aao e
 |own y=>let⟨_,e⟩:=x;exact aao e
 |xd fs=>let⟨_,⟨_,_,_,e,_⟩,_⟩:=x;exact aao e
 |rng s q=>let⟨_,_,_,e⟩:=x;exact aao e
 |frz l u=>let⟨e,_⟩:=x;exact aao e
 |tbl ps=>exact aao (x)
 |met f y=>exact aao (x)
 |ext m=>let⟨_,⟨_,e⟩,_⟩:=x;exact aao e
theorem Paired.mapP{k β:Type}{F G:k->β->Prop}:∀{d:List k}{l:List β},abL F d l->(∀a b,F a b->G a b)->abL G d l
 |_,_,.nil,_=>.nil
 |_,_,.cons r t,f=>.cons (f _ _ r) (Paired.mapP t f)
theorem ObjOk.stay(x:ObjOk P w H h a o)(k:∀b u,(b=a\/H b=some (.own a))->h.get? b=some u->h'.get? b=some u)
  (J:∀b,H b=some (.own a)->g b=some (.own a)) (I:∀b xs,H b=some (.tup xs)->g b=some (.tup xs)):ObjOk P w g h' a o:=by
 induction o with
 |lst xs=>let⟨z,s,n,r,e⟩:=x;exact⟨z,s,n,r,k _ _ (.inl rfl) e⟩
 |tup xs=>let⟨z,s,r,l,e,c⟩:=x;exact⟨z,s,r,l,k _ _ (.inl rfl) e,c⟩
 |dK D=>let⟨z,y,vs,r,l,es,m,e,c⟩:=x;exact⟨z,y,vs,r,l,es,m,k _ _ (.inl rfl) e,c⟩
 |dT D=>
  let⟨z,y,xs,r,l,es,m,e,c⟩:=x;exact⟨z,y,xs,Paired.mapP r λp q z=>⟨z.1,I _ _ z.2.1,z.2.2⟩,l,es,m,k _ _ (.inl rfl) e,c⟩
 |set S n=>let⟨l,es,m,t,e,c⟩:=x;exact⟨l,es,m,t,k _ _ (.inl rfl) e,c⟩
 |ins C dx fs=>
  let⟨d,z,ne,e,mA,⟨B,es,m,L,c⟩,r⟩:=x;exact⟨J _ d,z,ne,k _ _ (.inl rfl) e,mA,⟨B,es,m,k _ _ (.inr d) L,c⟩,r⟩
 |own y=>let⟨l,e⟩:=x;exact⟨l,k _ _ (.inl rfl) e⟩
 |xd fs=>let⟨mA,⟨B,es,m,e,c⟩,r⟩:=x;exact⟨mA,⟨B,es,m,k _ _ (.inl rfl) e,c⟩,r⟩
 |rng T R=>let⟨t,u,v,e⟩:=x;exact⟨t,u,v,k _ _ (.inl rfl) e⟩
 |frz l u G=>let⟨e,q⟩:=x;exact⟨k _ _ (.inl rfl) e,G q⟩
 |tbl ps=>
  have e:h.get? a=some {cls:=.none,data:=.fields ps}:=x;exact k a _ (.inl rfl) e
 |met f y=>
  have e:=x;exact k a _ (.inl rfl) e
 |ext O=>let⟨p,⟨o,e⟩,F⟩:=x;exact⟨F _ _ p λo q=>k _ _ (.inl rfl) q,⟨o,k _ _ (.inl rfl) e⟩,F⟩
def HOk.lt(x:HOk P w H h)(e:H a=some o):a<h.objs.size:=(x a o e).lt
theorem HOk.fresh(x:HOk P w H h)(e:h.objs.size≤a):H a=none:=by
 cases q:H a with
 |none=>rfl
 |some u=>exact absurd (aat (x.lt q) e) (acO _)
theorem HOk.kept(x:HOk P w H h)(k:∀b u,h.get? b=some u->h'.get? b=some u):HOk P w H h':=λa o e=>
 (x a o e).stay (λb u _ q=>k b u q) (λ_ q=>q) λ_ _ q=>q
theorem HOk.laid(x:HOk P w H h)(k:∀b u,h.get? b=some u->h'.get? b=some u)(m:h.objs.size≤a)(new:ObjOk P w (upd H a o) h' a o):HOk P w (upd H a o) h':=λb u e=>by
 have d:=x.fresh m
 by_cases l:b=a
 .subst l;rw[ay]at e;grind
 .rw[av l]at e;exact(x b u e).stay (λc v _ q=>k c v q) (λc q=>by rw[av (bq q d)];exact q) λc n q=>by rw[av (bq q d)];exact q
end
def Rd(H:Hp)(a:Addr)(u:HO):Prop:=H a=some u\/∃o,H a=some (.frz o u)
theorem Rd.ok{u:HO}(r:Rd H a u)(x:HOk P w H h):ObjOk P w H h a u:=by
 rcases r with r|⟨o,r⟩
 .exact x a u r
 .obtain⟨_,q⟩:=x a _ r;exact q
def Mut:Option HO->Prop
 |some (.lst _)=>True
 |some (.dK _)=>True
 |some (.dT _)=>True
 |some (.set _ _)=>True
 |some (.ins _ _ _)=>True
 |some (.ext _)=>True
 |_=>False
section
variable {P:aaF}{w:World}{H:Hp}{h h':aaW}{x e:Addr}{o:HO}
theorem HOk.write(ok:HOk P w H h)(mu:Mut (H x))(B:e=x\/H e=some (.own x))(k:∀b u,b≠e->h.get? b=some u->h'.get? b=some u)(p:∃u,h'.get? e=some u)
  (new:ObjOk P w (upd H x o) h' x o):HOk P w (upd H x o) h':=λb u q=>by
 have n:∀c y,H c=some (.own y)->c≠x:=λc y r z=>by subst z;rw[r]at mu;exact mu
 have l:∀c m,H c=some (.tup m)->c≠x:=λc m r z=>by subst z;rw[r]at mu;exact mu
 by_cases s:b=x
 .subst s;rw[ay]at q;grind
 .rw[av s]at q
  by_cases d:b=e
  .have q':H b=some (.own x):=by
    rcases B with z|z
    .exact absurd (d.trans z) s
    .rw[d];exact z
   rw[q]at q';cases q';let⟨v,t⟩:=p;exact⟨v,by rw[d];exact t⟩
  .refine(ok b u q).stay (λc v D r=>k c v ?_ r) (λc r=>by rw[av (n c b r)];exact r) λc m r=>by rw[av (l c m r)];exact r
   grind
end
structure Un(fs ex:List Addr)(H H':Hp)(h h':aaW):Prop where
 keep:∀b o,h.get? b=some o->H b=none->b∉fs->b∉ex->h'.get? b=some o
 slot:∀b o,h.get? b=some o->H b=none->b∈fs->b∉ex->∃sl,h'.get? b=some {o with slots:=sl}
 free:∀b o,h.get? b=some o->H b=none->b∉ex->H' b=none
 there:∀b o,h.get? b=some o->b∉ex->∃o',h'.get? b=some o'
 tups:∀b xs,H b=some (.tup xs)->H' b=some (.tup xs)
 frzs:∀b o u,H b=some (.frz o u)->H' b=some (.frz o u)
 tbls:∀b ps,H b=some (.tbl ps)->∃more,H' b=some (.tbl (ps++more))
section
variable {fs f ex d:List Addr}{H g i:Hp}{h c j h':aaW}{a x e:Addr}{o:HO}
def Un.any(u:Un fs ex H g h c){k:Obj}(q:h.get? b=some k)(n:H b=none)(m:b∉ex):∃sl,c.get? b=some {k with slots:=sl}:=by
 by_cases l:b∈fs
 .exact u.slot b k q n l m
 .exact⟨k.slots,u.keep b k q n l m⟩
theorem Un.kept(k:∀b u,h.get? b=some u->h'.get? b=some u):Un fs ex H H h h':=
 ⟨λb l q _ _ _=>k b l q,λb l q _ _ _=>⟨l.slots,k b l q⟩,λ_ _ _ n _=>n,λb l q _=>⟨l,k b l q⟩,λ_ _ q=>q,λ_ _ _ q=>q,λ_ ps q=>⟨#[],by rw[q];simp⟩⟩
def Un.refl:Un fs ex H H h h:=Un.kept λ_ _ q=>q
theorem Un.laid(k:∀b u,h.get? b=some u->h'.get? b=some u)(m:h.objs.size≤a)(l:H a=none):Un fs ex H (upd H a o) h h' where
 keep:=λb u q _ _ _=>k b u q
 slot:=λb u q _ _ _=>⟨u.slots,k b u q⟩
 free:=λb u q n _=>by rw[av (aa1 (aat (aao q) m))];exact n
 there:=λb u q _=>⟨u,k b u q⟩
 tups:=λb p q=>by rw[av (bq q l)];exact q
 frzs:=λb u p q=>by rw[av (bq q l)];exact q
 tbls:=λb ps q=>⟨#[],by rw[av (bq q l),q];simp⟩
theorem Un.write(mu:Mut (H x))(B:e=x\/H e=some (.own x))(k:∀b u,b≠e->h.get? b=some u->h'.get? b=some u)(t:∃u,h'.get? e=some u):Un fs ex H (upd H x o) h h':=by
 have s:∀b,H b=none->b≠x:=λb n z=>by subst z;rw[n]at mu;exact mu
 have p:∀b,H b=none->b≠e:=λb n z=>by
  simp_all
 have l:∀b u,H b=some u->¬Mut (some u)->b≠x:=λb u q D z=>by subst z;simp_all
 refine⟨λb u q n _ _=>k b u (p b n) q,λb u q n _ _=>⟨u.slots,k b u (p b n) q⟩,λb u q n _=>by rw[av (s b n)];exact n,λb u q _=>?_,
  λb y q=>by rw[av (l b _ q λz=>z)];exact q,λb u y q=>by rw[av (l b _ q λz=>z)];exact q,λb ps q=>⟨#[],by rw[av (l b _ q λz=>z),q];simp⟩⟩
 by_cases m:b=e
 .simp_all
 .exact⟨u,k b u m q⟩
end
def trk(h:aaW)(H:Hp):List Addr:=(aaz h.objs.size).filter λa=>(H a).isSome
def hidT(h:aaW)(H:Hp):aaW:=PySem.W.hideAll h (trk h H)
def y7(h:aaW)(H:Hp):(hidT h H).objs.size=h.objs.size:=PySem.W.hideAll_size _ _
def Gw{o:Obj}(e:h.get? b=some o)(n:H b=none):(hidT h H).get? b=some o:=
 PySem.W.hideAll_get _ e λd=>by
  have q:=(adT.mp d).2;rw[n]at q;simp at q
theorem JY{o:Obj}(e:(hidT h H).get? b=some o):h.get? b=some o/\H b=none:=by
 have d:=PySem.W.of_hideAll _ e;refine⟨d,?_⟩
 cases q:H b with
 |none=>rfl
 |some x=>
  have k:b∈trk h H:=adT.mpr ⟨aeX.mpr (aao d),by simp[q]⟩;have z:(hidT h H).get? b=none:=PySem.W.hideAll_none _ k
  grind
structure Mod(K:aad)(mg:Str->Option mT)(base:aaW):Prop where
 kin:K.In base
 glob:base.Ns aav mg
 blt:∃mb,base.Ns builtinsNs mb/\∀x:Str,x ≠ "__name__" -> mb x=aa2 x
 nolimit:base.NoLimit
 sys:∃m,base.Ns abu m
inductive Ao where
 |L (a:Addr)|T (t:List (List Nat×Addr))
structure EB where
 np:Nat
 be:List Ao
 H:Hp
structure Cx where
 prog:aaF
 w:World
 K:aad
 mg:Str->Option mT
 base:aaW
 A:aa4
 N:List Str
 s₀:AD
 H₀:Hp
 env:Env
 outer:List Env
 stack:List Env
 ex:List Addr
 fn:Str->Bool
 calm:Bool
 pn:List (Addr×Obj)
 xe:mT->AD->Prop
 eb:EB:=⟨0,[],λ_=>none⟩
def frs(l:List Env):List Addr:=l.filterMap (·.frame)
abbrev Cx.fs(X:Cx):List Addr:=frs X.outer
def Vis(sc:Scope)(x:Str):Prop:=sc.names.lookup x=some .local\/sc.names.lookup x=some .cell\/sc.names.lookup x=some .free
def Loc(sc:Scope)(x:Str):Prop:=sc.names.lookup x=some .local\/sc.names.lookup x=some .cell
def Look(env:Env)(h:aaW)(m:Str->Option mT)(x:Str)(u:mT):Prop:=
 (env.kindOf x=some .local/\m x=some u)\/((env.kindOf x=some .cell\/env.kindOf x=some .free)/\∃c,env.cells.lookup x=some c/\h.IsCell c (some u))
structure Cx.Ok(X:Cx):Prop where
 mod:Mod X.K X.mg X.base
 kind:X.env.scope.kind = .function
 glob:X.env.globals=aav
 blt:X.env.builtins=builtinsNs
 above:X.s₀.heap.objs.size≤X.env.locals
 inj:∀x y c,X.env.cells.lookup x=some c->X.env.cells.lookup y=some c->x=y
 has:∀x,(X.env.kindOf x=some .cell\/X.env.kindOf x=some .free)->∃c,X.env.cells.lookup x=some c
 cab:∀x c,X.fn x=true->X.env.cells.lookup x=some c->X.s₀.heap.objs.size≤c
 hd:X.calm=true->X.A.handled=none
 frames:X.A.frames=some X.stack
 stk:X.stack=X.outer\/(X.stack=X.env::X.outer/\X.env.frame=some X.env.locals)
 exf:∀b∈X.ex,b≠X.env.locals/\∀x c,X.env.cells.lookup x=some c->c≠b
 bs:∀b o,X.base.get? b=some o->X.s₀.heap.get? b=some o/\X.H₀ b=none
 bsz:X.base.objs.size≤X.s₀.heap.objs.size
 noex:∀b o,X.base.get? b=some o->b∉X.ex
 exfs:∀b∈X.ex,b∉X.fs
 funs:X.s₀.heap.FunFrames X.base X.outer
 frf:∀b∈X.fs,X.H₀ b=none
structure Inv(X:Cx)(pins:List (Addr×Obj))(σ:List (Option V))(H:Hp)(s:AD):Prop where
 ok:X.Ok
 os:s.os=X.s₀.os
 bare:afj s.gens
 base:Un X.fs X.ex X.H₀ H X.s₀.heap s.heap
 loc:∃m,s.heap.Ns X.env.locals m/\∀(i:Nat) (x:Str) (v:V),X.N[i]?=some x->σ[i]?=some (some v)->Vis X.env.scope x->∃u,RelV v u/\Look X.env s.heap m x u
 cell:∀x c,X.env.cells.lookup x=some c->∃v,s.heap.IsCell c v
 free:H X.env.locals=none
 freeC:∀x c,X.env.cells.lookup x=some c->H c=none
 pin:∀p∈X.pn++pins,s.heap.get? p.1=some p.2/\H p.1=none/\p.1≠X.env.locals/\p.1∉X.fs/\∀v,p.2.data≠.cell v
 hok:HOk X.prog X.w H s.heap
 len:σ.length=X.N.length
section
variable {X:Cx}{f:List (Addr×Obj)}{g:List (Option V)}{H w:Hp}{s:AD}{h':aaW}
theorem Cx.Ok.nofr(ok:X.Ok){o:Obj}(e:X.base.get? b=some o):b∉X.fs:=λd=>by
 have:=(ok.funs.mem d).1
 grind
theorem Inv.bs(I:Inv X f g H s):∀b o,X.base.get? b=some o->s.heap.get? b=some o/\H b=none:=λb o e=>
 ⟨I.base.keep b o (I.ok.bs b o e).1 (I.ok.bs b o e).2 (I.ok.nofr e) (I.ok.noex b o e),I.base.free b o (I.ok.bs b o e).1 (I.ok.bs b o e).2 (I.ok.noex b o e)⟩
theorem Inv.bk(I:Inv X f g H s):∀b o,X.base.get? b=some o->s.heap.get? b=some o:=λb o e=>(I.bs b o e).1
def Inv.mod(I:Inv X f g H s):Mod X.K X.mg X.base:=I.ok.mod
def Inv.kIn(I:Inv X f g H s):X.K.In s.heap:=I.ok.mod.kin.keeps I.bk
def Inv.lt(I:Inv X f g H s):X.env.locals<s.heap.objs.size:=let ⟨_,hn,_⟩:=I.loc;hn.lt
def Inv.sz(I:Inv X f g H s):X.s₀.heap.objs.size≤s.heap.objs.size:=aas I.ok.above (abP I.lt)
theorem Inv.nofs(I:Inv X f g H s)(h:s.heap.objs.size≤a):a∉X.fs:=λd=>by
 let⟨_,o,k,_⟩:=I.ok.funs.mem d;exact absurd (aat (aao k) (aas I.sz h)) (acO _)
theorem Inv.cne(I:Inv X f g H s):∀x c,X.env.cells.lookup x=some c->c≠X.env.locals:=λx c e z=>by
 let⟨v,o,l,hd⟩:=I.cell x c e;let⟨m,⟨n,es,p,k,d,_⟩,_⟩:=I.loc
 grind
theorem Inv.funs(I:Inv X f g H s):s.heap.FunFrames X.base X.outer:=by
 have all:∀l,(∀b∈frs l,b∈X.fs)->X.s₀.heap.FunFrames X.base l->s.heap.FunFrames X.base l:=by
  intro l
  induction l with
  |nil=>intro _ _;trivial
  |cons env r q=>
   intro n y;let⟨hk,⟨L,o,m,p,B,hd⟩,t⟩:=y;have k:=n L (by unfold frs;rw[adz,m];exact aaa);let⟨D,e⟩:=I.base.slot L o B (I.ok.frf L k) k λz=>I.ok.exfs L z k;exact⟨hk,⟨L,_,m,p,e,hd⟩,q (λb d=>n b (by unfold frs;rw[adz,m];exact LD _ d)) t⟩
 exact all X.outer (λ_ d=>d) I.ok.funs
theorem Inv.stack(I:Inv X f g H s):s.heap.FunFrames X.base X.stack:=by
 rcases I.ok.stk with e|⟨e,k⟩
 .rw[e];exact I.funs
 .rw[e];let⟨m,d,_⟩:=I.loc;refine .cons (by rw[I.ok.kind];decide) k d ?_ I.funs;exact aaW.get?_none_of_le (aas I.ok.bsz I.ok.above)
theorem Inv.stkSub(I:Inv X f g H s):∀b∈frs X.stack,b∈X.env.locals::X.fs:=λb d=>by
 rcases I.ok.stk with e|⟨e,k⟩
 .rw[e]at d;exact LD _ d
 .rw[e]at d;unfold frs at d;rw[adz,k]at d;exact d
theorem Inv.stkFree(I:Inv X f g H s):∀b∈frs X.stack,H b=none:=λb d=>by
 rcases aaf.mp (I.stkSub b d)with e|d
 .rw[e];exact I.free
 .obtain⟨_,o,ho,_⟩:=I.ok.funs.mem d;exact I.base.free b o ho (I.ok.frf b d) λz=>I.ok.exfs b z d
theorem Inv.step{d':Drawn}(I:Inv X f g H s)
  (y:∀b∈ch,(b∈X.ex\/X.s₀.heap.objs.size≤b)/\b≠X.env.locals/\(∀x c,X.env.cells.lookup x=some c->c≠b)/\∀p∈X.pn++f,p.1≠b)
  (keep:∀b o,b≠X.env.locals->b∉X.fs->b∉ch->s.heap.get? b=some o->H b=none->h'.get? b=some o)
  (slot:∀b o,b≠X.env.locals->b∈X.fs->b∉ch->s.heap.get? b=some o->H b=none->∃sl,h'.get? b=some {o with slots:=sl}) (free:∀b o,b∉ch->s.heap.get? b=some o->H b=none->w b=none)
  (there:∀b o,b∉ch->s.heap.get? b=some o->∃O,h'.get? b=some O)
  (tups:∀b xs,H b=some (.tup xs)->w b=some (.tup xs)) (frzs:∀b o u,H b=some (.frz o u)->w b=some (.frz o u)) (tbls:∀b ps,H b=some (.tbl ps)->∃more,w b=some (.tbl (ps++more)))
  (ns:∀m,s.heap.Ns X.env.locals m->h'.Ns X.env.locals m) (hok:HOk X.prog X.w w h') (Y:afj g') :
  Inv X f g w {s with heap:=h',gens:=g',drawn:=d',toks:=t' }:=by
 have S:∀b o,X.s₀.heap.get? b=some o->b≠X.env.locals:=λb o e=>aa1 (aat (aao e) I.ok.above);have G:∀b o,X.s₀.heap.get? b=some o->b∉X.ex->b∉ch:=λb o e t J=>by
  rcases (y b J).1 with z|z
  .exact t z
  .exact absurd (aat (aao e) z) (acO _)
 have D:∀x c,X.env.cells.lookup x=some c->∀v,s.heap.IsCell c v->h'.IsCell c v:=by
  intro x c e v ⟨o,L,hd⟩;have B:c∉ch:=λz=>(y c z).2.2.1 x c e rfl
  by_cases V:c∈X.fs
  .obtain⟨sl,q⟩:=slot c o (I.cne x c e) V B L (I.freeC x c e);exact⟨_,q,hd⟩
  .exact⟨o,keep c o (I.cne x c e) V B L (I.freeC x c e),hd⟩
 refine⟨I.ok,I.os,Y,⟨λb o e n J t=>?_,λb o e n J t=>?_,λb o e n t=>?_,λb o e t=>?_,λb xs e=>tups b xs (I.base.tups b xs e),λb o xs e=>frzs b o xs (I.base.frzs b o xs e),λb ps e=>?_⟩,?_,λx c e=>?_,?_,λx c e=>?_,λp U=>?_,hok,I.len⟩
 .exact keep b o (S b o e) J (G b o e t) (I.base.keep b o e n J t) (I.base.free b o e n t)
 .obtain⟨sl,F⟩:=I.base.slot b o e n J t;let⟨T,R⟩:=slot b _ (S b o e) J (G b o e t) F (I.base.free b o e n t);exact⟨T,R⟩
 .obtain⟨O,F⟩:=I.base.there b o e t;exact free b O (G b o e t) F (I.base.free b o e n t)
 .obtain⟨O,F⟩:=I.base.there b o e t;exact there b O (G b o e t) F
 .obtain⟨m1,F⟩:=I.base.tbls b ps e;let⟨m2,R⟩:=tbls b _ F;exact⟨m1++m2,by rw[R,Array.append_assoc]⟩
 .obtain⟨m,hn,hl⟩:=I.loc;refine⟨m,ns m hn,λi x v F R W=>?_⟩;let⟨u,r,l⟩:=hl i x v F R W;refine⟨u,r,?_⟩;rcases l with l|⟨k,c,e,z⟩
  .exact .inl l
  .exact .inr ⟨k,c,e,D x c e _ z⟩
 .obtain⟨v,z⟩:=I.cell x c e;exact⟨v,D x c e v z⟩
 .obtain⟨m,⟨o,_,_,L,_⟩,_⟩:=I.loc;exact free _ o (λz=>(y _ z).2.1 rfl) L I.free
 .obtain⟨v,o,L,hd⟩:=I.cell x c e;exact free c o (λz=>(y c z).2.2.1 x c e rfl) L (I.freeC x c e)
 .obtain⟨e,n,ne,nf,d⟩:=I.pin p U;have B:p.1∉ch:=λz=>(y p.1 z).2.2.2 p U rfl;exact⟨keep p.1 p.2 ne nf B e n,free p.1 p.2 B e n,ne,nf,d⟩
theorem Inv.un(I:Inv X f g H s)(u:Un X.fs [] H w s.heap h')(hok:HOk X.prog X.w w h'):Inv X f g w {s with heap:=h',toks:=t' }:=by
 let⟨m,⟨o,es,D,q,r⟩,_⟩:=id I.loc;let⟨F,y⟩:=u.any q I.free (by simp);exact I.step (g':=s.gens) (d':=s.drawn) (ch:=[]) (λ_ z=>nomatch z) (λb o _ k _ e n=>u.keep b o e n k (by simp)) (λb o _ k _ e n=>u.slot b o e n k (by simp)) (λb o _ e n=>u.free b o e n (by simp)) (λb o _ e=>u.there b o e (by simp)) u.tups u.frzs u.tbls (λG B=>by
  let⟨J,l,p,d,t⟩:=B;rw[q]at d;cases d;exact⟨_,l,p,y,t⟩) hok I.bare
theorem Inv.call{d':Drawn}(I:Inv X f g H s)(u:Un (frs X.stack) ch H w s.heap h')(hok:HOk X.prog X.w w h')(J:afj g')
  (k:∀b∈ch,(b∈X.ex\/X.s₀.heap.objs.size≤b)/\b≠X.env.locals/\(∀x c,X.env.cells.lookup x=some c->c≠b)/\∀p∈X.pn++f,p.1≠b) :
  Inv X f g w {s with heap:=h',gens:=g',drawn:=d',toks:=t' }:=by
 let⟨m,⟨o,es,S,B,r⟩,_⟩:=id I.loc;let⟨L,q⟩:=u.any B I.free λz=>(k _ z).2.1 rfl;exact I.step k (λb o q G d e n=>u.keep b o e n (λz=>(aaf.mp (I.stkSub b z)).elim q G) d) (λb o _ _ d e n=>u.any e n d) (λb o d e n=>u.free b o e n d) (λb o d e=>u.there b o e d) u.tups u.frzs u.tbls (λO D=>by
  let⟨R,t,y,l,F⟩:=D;rw[B]at l;cases l;exact⟨_,t,y,q,F⟩) hok J
theorem Inv.turned{d:Addr}(I:Inv X f g H s)(k:∀b o,b≠d->s.heap.get? b=some o->h'.get? b=some o)(F:H d=none)(y:d≠X.env.locals)
  (J:d∈X.ex\/X.s₀.heap.objs.size≤d) (L:∀x c,X.env.cells.lookup x=some c->c≠d) (D:∀p∈X.pn++f,p.1≠d):Inv X f g H {s with heap:=h',toks:=t' }:=by
 have t:∀b u,H b=some u->b≠d:=λb u e z=>by rw[z,F]at e;cases e
 refine I.step (g':=s.gens) (d':=s.drawn) (ch:=[d]) (λb G=>?_) (λb o _ _ l e _=>k b o (λz=>l (by simp[z])) e) (λb o _ _ l e _=>⟨o.slots,k b o (λz=>l (by simp[z])) e⟩) (λ_ _ _ _ n=>n)
  (λb o l e=>⟨o,k b o (λz=>l (by simp[z])) e⟩) (λ_ _ e=>e) (λ_ _ _ e=>e) (λb ps e=>⟨#[],by rw[e];simp⟩) (λm B=>?_) (λb u e=>?_) I.bare
 .have e:=by simpa using G
  subst e;exact⟨J,y,L,D⟩
 .obtain⟨o,es,ep,ho,r⟩:=B;exact⟨o,es,ep,k _ o (ab1 y) ho,r⟩
 .refine(I.hok b u e).stay (λc v l q=>k c v ?_ q) (λ_ q=>q) λ_ _ q=>q;rcases l with z|z
  .rw[z];exact t b u e
  .exact t c _ z
theorem Inv.tok(I:Inv X f g H s)(t:Nat):Inv X f g H {s with toks:=t}:=I.un (h':=s.heap) (t':=t) Un.refl I.hok
theorem Inv.kept(I:Inv X f g H s)(k:∀b u,s.heap.get? b=some u->h'.get? b=some u):Inv X f g H {s with heap:=h',toks:=t' }:=I.un (Un.kept k) (I.hok.kept k)
theorem Inv.laid(I:Inv X f g H s)(k:∀b u,s.heap.get? b=some u->h'.get? b=some u)(d:s.heap.objs.size≤a)(new:ObjOk X.prog X.w (upd H a o) h' a o) :
  Inv X f g (upd H a o) {s with heap:=h',toks:=t' }:=I.un (Un.laid k d (I.hok.fresh d)) (I.hok.laid k d new)
theorem Inv.write{x e:Addr}(I:Inv X f g H s)(mu:Mut (H x))(l:e=x\/H e=some (.own x))(k:∀b u,b≠e->s.heap.get? b=some u->h'.get? b=some u)(d:∃u,h'.get? e=some u)
  (new:ObjOk X.prog X.w (upd H x o) h' x o):Inv X f g (upd H x o) {s with heap:=h',toks:=t' }:=I.un (Un.write mu l k d) (I.hok.write mu l k d new)
def Inv.pins_of{d:List (Addr×Obj)}(I:Inv X f g H s)(h:∀p∈d,s.heap.get? p.1=some p.2/\H p.1=none/\p.1≠X.env.locals/\p.1∉X.fs/\∀v,p.2.data≠.cell v):Inv X d g H s:=
 ⟨I.ok,I.os,I.bare,I.base,I.loc,I.cell,I.free,I.freeC,λp k=>(aaT.mp k).elim (λz=>I.pin p (abB _ z)) (h p),I.hok,I.len⟩
def xt(d:N.Nodup)(a:N[i]?=some x)(b:N[j]?=some x):i=j:=by
 let⟨n,l⟩:=Ad.mp a;let⟨m,k⟩:=Ad.mp b;exact(List.getElem_inj d).mp (l.trans k.symm)
theorem uj{Q:Unit->AD->Prop}(I:Inv X f g H s)(hN:X.N.Nodup)(V:X.N[i]?=some x)(F:Loc X.env.scope x)(r:RelV v u)
  (h:∀s',Inv X f (g.set i (some v)) H s'->(∃a,ab2 a s.heap s'.heap/\(a=X.env.locals\/X.env.cells.lookup x=some a))->Q () s') (hf:X.fn x=true\/X.env.scope.names.lookup x=some .local:=by first|exact .inl rfl|exact .inr rfl|assumption):wpAny M A (storeName X.env x u) Q E s:=by
 let⟨m,hn,hl⟩:=id I.loc;have T:(X.env.scope.kind == .class||(X.env.scope.kind == .module&&X.env.locals != X.env.globals))=false:=by rw[I.ok.kind];rfl
 have L:i<g.length:=by rw[I.len];exact(Ad.mp V).1
 have cne:=I.cne;have B:∀{a:Addr}{h':aaW},(∃o,s.heap.get? a=some o/\H a=none)->ab2 a s.heap h'->HOk X.prog X.w H h':=λ{a h'} ha l b ob e=>by
  let⟨_,_,G⟩:=ha;refine(I.hok b ob e).stay (λc Y D q=>(l.2 c ?_).trans q) (λ_ q=>q) λ_ _ q=>q;rintro rfl;rcases D with rfl|D
  .rw[G]at e;cases e
  .rw[G]at D;cases D
 rcases F with hk|hk
 .refine wpAny_storeName_local hk hn (λh' hn' l=>?_) T;let⟨oL,_,_,hoL,_⟩:=id hn;refine h _ ⟨I.ok,I.os,I.bare,⟨λb o e n O F=>?_,λb o e n O F=>?_,I.base.free,λb o e F=>?_,I.base.tups,I.base.frzs,I.base.tbls⟩,⟨_,hn',λj y v' t J Z=>?_⟩,λy c e=>?_,I.free,I.freeC,λp hp=>?_,B ⟨oL,hoL,I.free⟩ l,by simpa using I.len⟩ ⟨_,l,.inl rfl⟩
  .exact(l.2 b (aa1 (aat (aao e) I.ok.above))).trans (I.base.keep b o e n O F)
  .obtain⟨sl,t⟩:=I.base.slot b o e n O F;exact⟨sl,(l.2 b (aa1 (aat (aao e) I.ok.above))).trans t⟩
  .obtain⟨o',t⟩:=I.base.there b o e F;exact⟨o',(l.2 b (aa1 (aat (aao e) I.ok.above))).trans t⟩
  .by_cases hj:j=i
   .subst hj;rw[V]at t;cases t;rw[aaX L]at J;cases J;exact⟨u,r,.inl ⟨hk,by simp⟩⟩
   .rw[aaP (ab1 hj)]at J;let⟨u',r',q⟩:=hl j y v' t J Z;refine⟨u',r',?_⟩;rcases q with⟨k,e⟩|⟨k,c,e,z⟩
    .refine .inl ⟨k,?_⟩;have:y≠x:=λe=>hj (xt hN t (e▸V));simp[this,e]
    .exact .inr ⟨k,c,e,z.sameBut l (cne y c e)⟩
  .obtain⟨Y,z⟩:=I.cell y c e;exact⟨Y,z.sameBut l (cne y c e)⟩
  .obtain⟨e,n,ne,nf,d⟩:=I.pin p hp;exact⟨(l.2 p.1 ne).trans e,n,ne,nf,d⟩
 .have hfn:X.fn x=true:=by
   rcases hf with z|z
   .exact z
   .rw[z]at hk;cases hk
  let⟨c,D⟩:=I.ok.has x (.inl hk);let⟨Y,z⟩:=I.cell x c D;refine wpAny_storeName_cell I.ok.kind hk D z (λh' U l=>?_);let⟨oc,S,R⟩:=id z;refine h {s with heap:=h' } ⟨I.ok,I.os,I.bare,⟨λb o e n O F=>?_,λb o e n O F=>?_,I.base.free,λb o e F=>?_,I.base.tups,I.base.frzs,I.base.tbls⟩,⟨m,hn.sameBut l (ab1 (cne x c D)),λj y v' t J Z=>?_⟩,λy W e=>?_,I.free,I.freeC,λp hp=>?_,B ⟨oc,S,I.freeC x c D⟩ l,by simpa using I.len⟩ ⟨c,l,.inr D⟩
  .exact(l.2 b (aa1 (aat (aao e) (I.ok.cab x c hfn D)))).trans (I.base.keep b o e n O F)
  .obtain⟨sl,t⟩:=I.base.slot b o e n O F;exact⟨sl,(l.2 b (aa1 (aat (aao e) (I.ok.cab x c hfn D)))).trans t⟩
  .obtain⟨o',t⟩:=I.base.there b o e F;exact⟨o',(l.2 b (aa1 (aat (aao e) (I.ok.cab x c hfn D)))).trans t⟩
  .by_cases hj:j=i
   .subst hj;rw[V]at t;cases t;rw[aaX L]at J;cases J;exact⟨u,r,.inr ⟨.inl hk,c,D,U⟩⟩
   .rw[aaP (ab1 hj)]at J;let⟨u',r',q⟩:=hl j y v' t J Z;refine⟨u',r',?_⟩;rcases q with q|⟨k,W,e,z'⟩
    .exact .inl q
    .refine .inr ⟨k,W,e,z'.sameBut l ?_⟩;rintro rfl;exact hj (xt hN t (I.ok.inj _ _ _ e D▸V))
  .by_cases hcc:W=c
   .subst hcc;exact⟨_,U⟩
   .obtain⟨w2,z2⟩:=I.cell y W e;exact⟨w2,z2.sameBut l hcc⟩
  .obtain⟨e,n,ne,nf,d⟩:=I.pin p hp;refine⟨(l.2 p.1 ?_).trans e,n,ne,nf,d⟩;intro q;rw[q,S]at e;have q':oc=p.2:=aaB e;exact d Y (by rw[<-q'];exact R)
theorem i7{Q:Unit->AD->Prop}(I:Inv X f g H s)(d:X.N.Nodup)(k:X.N[i]?=some x)(l:Loc X.env.scope x)(r:RelV v u)
  (h:∀s',Inv X f (g.set i (some v)) H s'->Q () s') (m:X.fn x=true\/X.env.scope.names.lookup x=some .local:=by first|exact .inl rfl|exact .inr rfl|assumption):wpAny M A (storeName X.env x u) Q E s:=
 uj I d k l r (λs' n _=>h s' n) m
theorem Inv.call'{s':AD}(I:Inv X f g H s)(l:s'.os=s.os)(u:Un (frs X.stack) ch H w s.heap s'.heap)(hok:HOk X.prog X.w w s'.heap)(k:afj s'.gens)
  (d:∀b∈ch,(b∈X.ex\/X.s₀.heap.objs.size≤b)/\b≠X.env.locals/\(∀x c,X.env.cells.lookup x=some c->c≠b)/\∀p∈X.pn++f,p.1≠b):Inv X f g w s':=by
 let⟨h',g',d',t',m⟩:=s';have e:=l;subst e;exact I.call (g':=g') (t':=t') (d':=d') u hok k d
end
abbrev XK:=mT->Option Addr->Hp->Prop
abbrev St:=List (Option V)
abbrev VK:=V->Hp->Prop
abbrev TE:=St->Hp->VK->Prop
abbrev TT:=St->Hp->(Bool->Hp->Prop)->Prop
abbrev TA:=St->Hp->(List V->Hp->Prop)->Prop
structure Ends where
 nx:St->Hp->Prop
 rt:VK
 bk:St->Hp->Prop:=λ_ _=>False
 ct:St->Hp->Prop:=λ_ _=>False
abbrev TS:=Ends->St->Hp->Prop
def EP(X:Cx)(pins:List (Addr×Obj))(σ:St)(Q:VK)(u:mT)(s':AD):Prop:=∃v d,Inv X pins σ d s'/\RelV v u/\Q v d
def TP(X:Cx)(pins:List (Addr×Obj))(σ:St)(Q:Bool->Hp->Prop)(b:Bool)(s':AD):Prop:=∃d,Inv X pins σ d s'/\Q b d
def AP(X:Cx)(pins:List (Addr×Obj))(σ:St)(Q:List V->Hp->Prop)(us:List mT)(s':AD):Prop:=∃vs d,Inv X pins σ d s'/\Vals vs us/\Q vs d
def SP(X:Cx)(pins:List (Addr×Obj))(D:Ends)(f:Flow)(s':AD):Prop:=
 match f with
 | .next=>∃d k,Inv X pins d k s'/\D.nx d k
 | .brk=>∃d k,Inv X pins d k s'/\D.bk d k
 | .cont=>∃d k,Inv X pins d k s'/\D.ct d k
 | .ret u=>∃v d k,Inv X pins d k s'/\RelV v u/\D.rt v k
def PE(X:Cx)(e:Expr)(t:TE):Prop:=
 ∀(pins:List (Addr×Obj)) (s:AD) (σ:St) (H:Hp) (Q:VK),Inv X pins σ H s->t σ H Q->wpAny (model X.prog X.w) X.A (eval e X.env) (EP X pins σ Q) X.xe s
def PT(X:Cx)(e:Expr)(t:TT):Prop:=
 ∀(pins:List (Addr×Obj)) (s:AD) (σ:St) (H:Hp) (Q:Bool->Hp->Prop),Inv X pins σ H s->t σ H Q->wpAny (model X.prog X.w) X.A (isTrue e X.env (eval e X.env)) (TP X pins σ Q) X.xe s
def PW(X:Cx)(e:Expr)(t:TT):Prop:=
 ∀(d:Sem mT) (pins:List (Addr×Obj)) (s:AD) (σ:St) (H:Hp) (Q:Bool->Hp->Prop),Inv X pins σ H s->t σ H Q->wpAny (model X.prog X.w) X.A (isTrue e X.env d) (TP X pins σ Q) X.xe s
def PW.pt{t:TT}(h:PW X e t):PT X e t:=h _
def PA(X:Cx)(es:List Expr)(t:TA):Prop:=
 ∀(pos:Pos) (pins:List (Addr×Obj)) (s:AD) (σ:St) (H:Hp) (Q:List V->Hp->Prop),Inv X pins σ H s->t σ H Q->wpAny (model X.prog X.w) X.A (spliced (abk pos (aac es X.env))) (AP X pins σ Q) X.xe s
def PS(X:Cx)(st:Stmt)(t:TS):Prop:=
 ∀(pins:List (Addr×Obj)) (s:AD) (σ:St) (H:Hp) (D:Ends),Inv X pins σ H s->t D σ H->wpAny (model X.prog X.w) X.A (exec st X.env) (SP X pins D) X.xe s
def PSs(X:Cx)(st:List Stmt)(t:TS):Prop:=
 ∀(pins:List (Addr×Obj)) (s:AD) (σ:St) (H:Hp) (D:Ends),Inv X pins σ H s->t D σ H->wpAny (model X.prog X.w) X.A (execs st X.env) (SP X pins D) X.xe s
theorem thn{k:Type}{t:Sem k}{Q d:k->AD->Prop}{s:AD}(h:wpAny M A t Q E s)(l:∀a s,Q a s->d a s):wpAny M A t d E s:=ace h l λ_ _ x=>x
section
variable {X:Cx}
def tVar(i:Nat):TE:=λσ H Q=>∃v,σ[i]?=some (some v)/\Q v H
def tC(v:V):TE:=λ_ H Q=>Q v H
theorem Ip(y:X.N[i]?=some x)(q:Vis X.env.scope x)(hd:(x==("__debug__" : Str))=false:=by decide)(n:(x==("__classdict__" : Str))=false:=by decide):PE X (.Name x pos) (tVar i):=by
 intro pins s σ H Q I h;let⟨v,e,h⟩:=h;let⟨m,t,B⟩:=I.loc;let⟨u,r,l⟩:=B i x v y e q;have k:EP X pins σ Q u s:=⟨v,H,I,r,h⟩;rcases l with⟨hk,z⟩|⟨hk,c,p,d⟩
 .exact wpAny_Name (wpAny_loadName_local I.ok.kind hk t z k) hd
 .rcases hk with hk|hk
  .exact wpAny_Name (wpAny_loadName_cell I.ok.kind hk p d k) hd
  .exact wpAny_Name (wpAny_loadName_free I.ok.kind hk p d k n) hd
theorem PQ{i j pos}:PE X (.Constant (.int i) j pos) (tC (.int i)):=λ_ _ _ H _ I h=>wpAny_Constant_int ⟨.int i,H,I.tok _,⟨_,rfl⟩,h⟩
theorem UB{b j pos}:PE X (.Constant (.bool b) j pos) (tC (.bl b)):=λ_ _ _ H _ I h=>Constant_bool ⟨.bl b,H,I,rfl,h⟩
theorem Qo{j pos}:PE X (.Constant .none j pos) (tC .non):=λ_ _ _ H _ I h=>Constant_none ⟨.non,H,I,rfl,h⟩
theorem Ph{x j pos}:PE X (.Constant (.str x) j pos) (tC (.str x)):=λ_ _ _ H _ I h=>Calls.Constant_str ⟨.str x,H,I.tok _,⟨_,rfl⟩,h⟩
def Gl(X:Cx)(x:Str):Prop:=X.env.kindOf x=some .globalImplicit
theorem vo{s:AD}(I:Inv X pins σ H s)(d:Gl X x)(k:X.mg x=some u)(h:Q u s)
  (hd:(x==("__debug__" : Str))=false:=by decide):wpAny (model X.prog X.w) X.A (eval (.Name x pos) X.env) Q E s:=
 aeY I.ok.kind d (Calls.loadGlobal_global (by rw[I.ok.glob];exact I.mod.glob.keeps I.bk) k h) hd
theorem oh{s:AD}(I:Inv X pins σ H s)(p:Gl X x)(k:X.mg x=none)(d:aa2 x=some u)(h:Q u s)
  (l:x ≠ "__name__":=by decide) (hd:(x==("__debug__" : Str))=false:=by decide):wpAny (model X.prog X.w) X.A (eval (.Name x pos) X.env) Q E s:=by
 let⟨mb,m,n⟩:=I.mod.blt;exact aeY I.ok.kind p (Calls.loadGlobal_builtin (by rw[I.ok.glob];exact I.mod.glob.keeps I.bk) k (by rw[I.ok.blt];exact m.keeps I.bk) ((n x l).trans d) h) hd
theorem Nu(d:Gl X x)(k:X.mg x=some u)(r:RelV v u)(hd:(x==("__debug__" : Str))=false:=by decide):PE X (.Name x pos) (tC v):=
 λ_ _ _ H _ I h=>vo I d k ⟨v,H,I,r,h⟩ hd
theorem Nh(m:Gl X x)(k:X.mg x=none)(d:aa2 x=some u)(r:RelV v u)(l:x ≠ "__name__":=by decide)(hd:(x==("__debug__" : Str))=false:=by decide):PE X (.Name x pos) (tC v):=
 λ_ _ _ H _ I h=>oh I m k d ⟨v,H,I,r,h⟩ l hd
variable {a b:Expr}{ta tb:TE}{pos:Pos}
def tB(t:TE):TT:=λσ H Q=>t σ H λx d=>∃c,x = .bl c/\Q c d
theorem QY{t:TE}(h:PE X e t)(p:∀k,isTrue e X.env k=(do let v <- k;acH e.pos;adr [v] (truthy v)):=by intro _;rfl):PT X e (tB t):=by
 intro pins s σ H Q I n;refine isTrue_plain (thn (h pins s σ H _ I n) λv s1 ⟨x,y,l,r1,m⟩=>?_) (p _);let⟨d,rfl,q⟩:=m;cases r1;exact afk ⟨y,l,q⟩
variable {f g:TT}{rest:List Expr}
def tAnd(t u:TT):TT:=λσ H Q=>t σ H λc d=>if c=true then u σ d Q else Q false d
def tOr(t u:TT):TT:=λσ H Q=>t σ H λc d=>if c=true then Q true d else u σ d Q
def tNot(t:TT):TT:=λσ H Q=>t σ H λc d=>Q (!c) d
theorem JA(d:PT X a f):PW X (.BoolOp .And [a] pos) f:=by
 intro k pins s σ H Q I h;refine isTrue_and (thn (d pins s σ H Q I h) λc s1 e=>?_)
 cases c with
 |true=>exact isTrue_and_nil e
 |false=>exact e
theorem RG(d:PT X a f):PW X (.BoolOp .Or [a] pos) f:=by
 intro k pins s σ H Q I h;refine isTrue_or (thn (d pins s σ H Q I h) λc s1 e=>?_)
 cases c with
 |false=>exact isTrue_or_nil e
 |true=>exact e
theorem OI(m:PT X a f)(l:PW X (.BoolOp .And (b::rest) pos) g):PW X (.BoolOp .And (a::b::rest) pos) (tAnd f g):=by
 intro n pins s σ H Q I h;refine isTrue_and (thn (m pins s σ H _ I h) λc s1 ⟨k,d,q⟩=>?_)
 cases c with
 |true=>exact l n pins s1 σ k Q d q
 |false=>exact⟨k,d,q⟩
theorem Vm(m:PT X a f)(l:PW X (.BoolOp .Or (b::rest) pos) g):PW X (.BoolOp .Or (a::b::rest) pos) (tOr f g):=by
 intro n pins s σ H Q I h;refine isTrue_or (thn (m pins s σ H _ I h) λc s1 ⟨k,d,q⟩=>?_)
 cases c with
 |true=>exact⟨k,d,q⟩
 |false=>exact l n pins s1 σ k Q d q
theorem Sf(d:PT X a f):PT X (.UnaryOp .Not a pos) (tNot f):=by
 intro pins s σ H Q I h;exact isTrue_not (d pins s σ H _ I h)
def tOrV(ta tb:TE):TE:=λσ H Q=>ta σ H λx d=>∃c,x = .bl c/\if c=true then Q (.bl true) d else tb σ d Q
theorem Rf{op}{t:TE}(h:PE X a t):PE X (.BoolOp op [a] pos) t:=λpins s σ H Q I d=>BoolOp_one (h pins s σ H Q I d)
theorem UG(m:PE X a ta)(l:PE X (.BoolOp .Or (b::rest) pos) tb):PE X (.BoolOp .Or (a::b::rest) pos) (tOrV ta tb):=by
 intro pins s σ H Q I h;refine BoolOp_or (thn (m pins s σ H _ I h) λv s1 ⟨x,k,d,r1,q⟩=>?_);let⟨c,rfl,q⟩:=q;cases r1;refine afk ?_
 cases c with
 |false=>exact l pins s1 σ k Q d q
 |true=>exact⟨.bl true,k,d,rfl,q⟩
def tIf(t:TT)(ta tb:TE):TE:=λσ H Q=>t σ H λc d=>if c=true then ta σ d Q else tb σ d Q
theorem C6(m:PT X c f)(p:PE X a ta)(n:PE X b tb):PE X (.IfExp c a b pos) (tIf f ta tb):=by
 intro pins s σ H Q I h;refine wpAny_IfExp (thn (m pins s σ H _ I h) λd s1 ⟨l,k,q⟩=>?_)
 cases d with
 |true=>exact p pins s1 σ l Q k q
 |false=>exact n pins s1 σ l Q k q
end
def SqL(K:aad)(H:Hp)(a:Addr)(xs:List V):Prop:=
 Rd H a (.lst xs) \/
  ∃(o:Obj) (d:Array mT) (n:Nat),K.lookup a=some o/\o.cls = .type "list"/\o.dict=none/\o.data = .seq d n/\d.size≤aai/\Vals xs d.toList
def SqT(K:aad)(H:Hp)(a:Addr)(xs:List V):Prop:=
 Rd H a (.tup xs) \/
  ∃(o:Obj) (d:Array mT) (n:Nat),K.lookup a=some o/\o.cls = .type "tuple"/\o.dict=none/\o.data = .seq d n/\d.size≤aai/\Vals xs d.toList
def absV:mT->Option V
 | .none=>some .non
 | .bool b=>some (.bl b)
 | .int i _=>some (.int i)
 | .str x _=>some (.str x)
 | .bytes b _=>some (.byt b)
 | .float b _=>some (.flt b)
 | .ref a=>some (.ref a)
 | .type n=>some (.ty n)
 |_=>none
theorem RelV.abs{x:V}(r:RelV x u):absV u=some x:=by
 cases x with
 |non=>cases r;rfl
 |bl _=>cases r;rfl
 |int _=>let⟨t,rfl⟩:=r;rfl
 |str _=>let⟨t,rfl⟩:=r;rfl
 |byt _=>let⟨t,rfl⟩:=r;rfl
 |flt _=>let⟨t,rfl⟩:=r;rfl
 |ref _=>cases r;rfl
 |ty _=>cases r;rfl
def RelV.inj{x y:V}(r:RelV x u)(q:RelV y u):x=y:=aaB (r.abs.symm.trans q.abs)
theorem Vals.inj:∀{xs ys:List V}{us:List mT},Vals xs us->Vals ys us->xs=ys
 |_,_,_,.nil,.nil=>rfl
 |_,_,_,.cons r t,.cons r' t'=>by rw[r.inj r',Vals.inj t t']
section
variable {X:Cx}{b:List (Addr×Obj)}{c:St}{H:Hp}{s:AD}{a:Addr}{xs ys:List V}
def SqL.of(h:H a=some (.lst xs)):SqL K H a xs:=.inl (.inl h)
def SqT.of(h:H a=some (.tup xs)):SqT K H a xs:=.inl (.inl h)
theorem Inv.list(I:Inv X b c H s)(h:SqL X.K H a xs):∃d:List mT,Vals xs d/\PlainL s.heap a d.toArray/\xs.length≤aai:=by
 rcases h with h|⟨o,d,n,hk,l,hd,k,m,r⟩
 .obtain⟨z,d,n,r,e⟩:=h.ok I.hok;exact⟨d,r,⟨_,n,e,rfl,rfl,rfl⟩,z⟩
 .refine⟨d.toList,r,⟨o,n,I.kIn a o hk,l,hd,by simpa using k⟩,?_⟩;have e:=r.length
  grind
theorem Inv.tuple(I:Inv X b c H s)(h:SqT X.K H a xs):∃d:List mT,Vals xs d/\IsTup s.heap a d.toArray/\xs.length≤aai:=by
 rcases h with h|⟨o,d,n,hk,l,hd,k,m,r⟩
 .obtain⟨z,d,r,p⟩:=h.ok I.hok;exact⟨d,r,p.tup,z⟩
 .refine⟨d.toList,r,⟨o,I.kIn a o hk,l,n,by simpa using k⟩,?_⟩;have e:=r.length
  simp_all
theorem Inv.tupleP(I:Inv X b c H s)(h:SqT X.K H a xs):∃d:List mT,Vals xs d/\PlainT s.heap a d.toArray/\xs.length≤aai:=by
 rcases h with h|⟨o,d,n,hk,l,hd,k,m,r⟩
 .obtain⟨z,d,r,p⟩:=h.ok I.hok;exact⟨d,r,p,z⟩
 .refine⟨d.toList,r,⟨o,I.kIn a o hk,l,hd,n,by simpa using k⟩,?_⟩;have e:=r.length
  simp_all
theorem Inv.list_inj(I:Inv X b c H s)(h:SqL X.K H a xs)(h':SqL X.K H a ys):xs=ys:=by
 let⟨p,r,⟨o,n,e,_,_,d⟩,_⟩:=I.list h;let⟨m,q,⟨y,t,k,_,_,l⟩,_⟩:=I.list h';rw[e]at k;cases k;rw[d]at l;injection l with d1 _
 have:=by simpa using congrArg afT d1
 subst this;exact r.inj q
theorem Inv.tuple_inj(I:Inv X b c H s)(h:SqT X.K H a xs)(h':SqT X.K H a ys):xs=ys:=by
 let⟨p,r,⟨o,e,_,n,d⟩,_⟩:=I.tuple h;let⟨m,q,⟨y,k,_,t,l⟩,_⟩:=I.tuple h';rw[e]at k;cases k;rw[d]at l;injection l with d1 _
 have:=by simpa using congrArg afT d1
 subst this;exact r.inj q
end
abbrev Cx.wish(X:Cx)(E:mT->AD->Prop):Cx:={X with xe:=E}
abbrev Cx.nox(X:Cx):Cx:=X.wish λ_ _=>False
def Cx.Ok.wish(ok:X.Ok)(E:mT->AD->Prop):(X.wish E).Ok:=
 ⟨ok.mod,ok.kind,ok.glob,ok.blt,ok.above,ok.inj,ok.has,ok.cab,ok.hd,ok.frames,ok.stk,ok.exf,ok.bs,ok.bsz,ok.noex,ok.exfs,ok.funs,ok.frf⟩
def Cx.Ok.unwish(ok:(X.wish E).Ok):X.Ok:=
 ⟨ok.mod,ok.kind,ok.glob,ok.blt,ok.above,ok.inj,ok.has,ok.cab,ok.hd,ok.frames,ok.stk,ok.exf,ok.bs,ok.bsz,ok.noex,ok.exfs,ok.funs,ok.frf⟩
section
variable {X:Cx}{p:List (Addr×Obj)}{a:St}{H:Hp}{s:AD}{E:mT->AD->Prop}
def Inv.wish(I:Inv X p a H s)(E:mT->AD->Prop):Inv (X.wish E) p a H s:=⟨I.ok.wish E,I.os,I.bare,I.base,I.loc,I.cell,I.free,I.freeC,I.pin,I.hok,I.len⟩
def Inv.unwish(I:Inv (X.wish E) p a H s):Inv X p a H s:=⟨I.ok.unwish,I.os,I.bare,I.base,I.loc,I.cell,I.free,I.freeC,I.pin,I.hok,I.len⟩
theorem SP.unwish{D:Ends}{f:Flow}{s':AD}(h:SP (X.wish E) p D f s'):SP X p D f s':=by
 cases f with
 |next=>let⟨d,k,I,q⟩:=h;exact⟨d,k,I.unwish,q⟩
 |brk=>let⟨d,k,I,q⟩:=h;exact⟨d,k,I.unwish,q⟩
 |cont=>let⟨d,k,I,q⟩:=h;exact⟨d,k,I.unwish,q⟩
 |ret u=>let⟨v,d,k,I,r,q⟩:=h;exact⟨v,d,k,I.unwish,r,q⟩
theorem PSs.nox{st:List Stmt}{t:TS}(h:PSs X.nox st t):PSs X st t:=λp s a H D I d=>
 ace (h p s a H D (I.wish _) d) (λ_ _ q=>q.unwish) λ_ _ z=>act z
end
section
variable {X:Cx}{st:Stmt}{rest:List Stmt}{t u:TS}{e:Expr}{g:TE}{pos:Pos}
def Vd:TS:=λD σ H=>D.nx σ H
def tSeq(t u:TS):TS:=λD σ H=>t {D with nx:=u D} σ H
theorem JS:PSs X [] Vd:=λ_ _ σ H _ I h=>aeG ⟨σ,H,I,h⟩
theorem xo(n:PS X st t)(l:PSs X rest u):PSs X (st::rest) (tSeq t u):=by
 intro pins s σ H D I h;refine wpAny_execs_cons (thn (n pins s σ H {D with nx:=u D} I h) λf s1 q=>?_)
 cases f with
 |next=>
  let⟨d,k,m,q⟩:=q;exact l pins s1 d k D m q
 |ret v=>exact q
 |brk=>exact q
 |cont=>exact q
theorem KI(d:PS X st t):PSs X [st] t:=by
 intro pins s σ H D I h;refine wpAny_execs_cons (thn (d pins s σ H D I h) λf s1 q=>?_)
 cases f with
 |next=>exact aeG q
 |ret v=>exact q
 |brk=>exact q
 |cont=>exact q
def Inv.quiet{s:AD}(I:Inv X pins σ H s):interactive X.env=false:=by simp[interactive,I.ok.kind]
def UW(g:TE):TS:=λD σ H=>g σ H λ_ d=>D.nx σ d
theorem Og(m:PE X e g)(k:abA e none pos.line X.env=pure false:=by rfl):PS X (.Expr e pos) (UW g):=by
 intro pins s σ H D I h;exact wpAny_Expr_any (thn (m pins s σ H _ I h)<|by intro v s1 ⟨x,l,d,r1,q⟩;exact⟨σ,l,d,q⟩) I.quiet k
def tRet(g:TE):TS:=λD σ H=>g σ H D.rt
theorem OO(l:PE X e g):PS X (.Return (some e) pos) (tRet g):=by
 intro pins s σ H D I h;exact wpAny_Return_some (thn (l pins s σ H _ I h)<|by intro v s1 ⟨x,k,d,r1,q⟩;exact⟨x,σ,k,d,r1,q⟩)
def tIfS(c:TT)(t u:TS):TS:=λD σ H=>c σ H λb d=>if b=true then t D σ d else u D σ d
theorem UZ{a b:List Stmt}{m:TT}(y:PT X c m)(p:PSs X a t)(n:PSs X b u):PS X (.If c a b pos) (tIfS m t u):=by
 intro pins s σ H D I h;refine wpAny_If (thn (y pins s σ H _ I h) λd s1 ⟨k,l,q⟩=>?_)
 cases d with
 |true=>exact p pins s1 σ k D l q
 |false=>exact n pins s1 σ k D l q
def Qw:TS:=λ_ _ _=>False
theorem FI:PS X st Qw:=λ_ _ _ _ _ _ h=>h.elim
end
abbrev TG:=V->St->Hp->(St->Hp->Prop)->Prop
abbrev TGs:=List V->St->Hp->(St->Hp->Prop)->Prop
def PG(X:Cx)(d:Expr)(t:TG):Prop:=
 ∀(pins:List (Addr×Obj)) (s:AD) (σ:St) (H:Hp) (v:V) (u:mT) (Q:St->Hp->Prop),Inv X pins σ H s->RelV v u->t v σ H Q ->
  wpAny (model X.prog X.w) X.A (aft d X.env u) (λ_ m=>∃k l,Inv X pins k l m/\Q k l) X.xe s
def PGs(X:Cx)(ts:List Expr)(t:TGs):Prop:=
 ∀(pins:List (Addr×Obj)) (s:AD) (σ:St) (H:Hp) (vs:List V) (us:List mT) (Q:St->Hp->Prop),Inv X pins σ H s->Vals vs us->t vs σ H Q ->
  wpAny (model X.prog X.w) X.A (assignInOrder ((abT ts X.env).map (·.2)) us) (λ_ l=>∃d k,Inv X pins d k l/\Q d k) X.xe s
abbrev TIp:=V->V->Hp->VK->Prop
def PIp(X:Cx)(op:aeZ)(t:TIp):Prop:=
 ∀(pins:List (Addr×Obj)) (s:AD) (σ:St) (H:Hp) (x y:V) (v u:mT) (Q:VK),Inv X pins σ H s->RelV x v->RelV y u->t x y H Q ->
  wpAny (model X.prog X.w) X.A (inplaceOp op v u) (EP X pins σ Q) X.xe s
section
variable {X:Cx}{pos:Pos}
def Ef(i:Nat):TG:=λv σ H Q=>Q (σ.set i (some v)) H
theorem Jw(d:X.N.Nodup)(k:X.N[i]?=some x)(l:Loc X.env.scope x)(m:X.fn x=true\/X.env.scope.names.lookup x=some .local:=by first|exact .inl rfl|exact .inr rfl|assumption):PG X (.Name x pos) (Ef i):=by
 intro pins s σ H v u Q I r h;exact wpAny_assign_Name (i7 I d k l r (λp n=>⟨_,H,n,h⟩) m)
def gNil:TGs:=λvs σ H Q=>vs=[]/\Q σ H
def Vj(t:TG)(u:TGs):TGs:=λvs σ H Q=>∃v r,vs=v::r/\t v σ H λd k=>u r d k Q
theorem NU:PGs X [] gNil:=by
 intro pins s σ H vs us Q I r h;let⟨e,h⟩:=h;exact assignInOrder_nil ⟨σ,H,I,h⟩
theorem Gj{t:TG}{u:TGs}(l:PG X e t)(m:PGs X es u)
  (p:(abT (e::es) X.env).map (·.2)=aft e X.env::(abT es X.env).map (·.2):=by rfl):PGs X (e::es) (Vj t u):=by
 intro pins s σ H vs us Q I r h;let⟨v,z,y,h⟩:=h;subst y
 cases r with
 |cons r rr=>
  rw[p];refine ae0 (thn (l pins s σ H _ _ _ I r h) λ_ s1 ⟨d,k,n,q⟩=>?_);exact m pins s1 d k _ _ Q n rr q
def gTup(K:aad)(n:Nat)(t:TGs):TG:=λv σ H Q=>∃a d,v = .ref a/\SqT K H a d/\d.length=n/\t d σ H Q
theorem SG{k:Nat}{t:TGs}{n:Nat}(G:X.calm=true)(h:PGs X es t)
  (y:(abT es X.env).length=n:=by rfl) (d:(abT es X.env).findIdx? (·.1)=none:=by rfl):PG X (.Tuple es k pos) (gTup X.K n t):=by
 intro pins s σ H v u Q I r l;let⟨a,B,L,m,F,l⟩:=l;subst L;cases r;let⟨z,p,J,R⟩:=I.tuple m;refine assign_Tuple_tuple (I.ok.hd G) J (by simp[y,<-F,p.length]) d λO q=>?_;have D:=I.kept (t':=s.toks) λb o e=>q b o (aa1 (aao e)) e;exact h pins _ σ H B _ Q D ‹_› l
def tAsg(te:TE)(g:TG):TS:=λD σ H=>te σ H λx d=>g x σ d D.nx
theorem Qj{g:TG}(y:PE X e te)(m:PG X tg g)(n:adE [tg] e pos.line X.env=pure false:=by rfl)(t:adF [tg] e X.env=pure none:=by rfl)
  (k:(abT [tg] X.env).map (·.2)=[aft tg X.env]:=by rfl):PS X (.Assign [tg] e pos) (tAsg te g):=by
 intro pins s σ H D I h;refine wpAny_Assign_stores (thn (y pins s σ H _ I h) λv s1 ⟨x,d,l,r1,p⟩=>?_) n t;rw[k];exact thn (m pins s1 σ d x v _ l r1 p) λ_ s2 q=>q
theorem SD{p:Pos}(n:X.N.Nodup)(d:X.N[i]?=some x)(k:Loc X.env.scope x)(F:PE X e te)(t:abA e (some (.Name x p)) pos.line X.env=pure false:=by rfl)(B:X.fn x=true\/X.env.scope.names.lookup x=some .local:=by first|exact .inl rfl|exact .inr rfl|assumption) :
  PS X (.Assign [.Name x p] e pos) (tAsg te (Ef i)):=by
 intro pins s σ H D I h;refine wpAny_Assign_Name (thn (F pins s σ H _ I h) λv s1 ⟨y,l,q,r1,z⟩=>?_) t;exact i7 q n d k r1 (λs2 m=>⟨_,l,m,z⟩) B
def tPar(i j:Nat)(ta:TA):TS:=λD σ H=>ta σ H λvs d=>∃v w,vs=[v,w]/\D.nx ((σ.set i (some v)).set j (some w)) d
theorem Sd{y:Str}{a b:Expr}{ta:TA}{z m pt:Pos}{kt k2 pt2}(hc:X.calm=true)(J:X.N.Nodup)(hi:X.N[i]?=some x)(hj:X.N[j]?=some y)(l:i≠j)
  (F:X.env.scope.names.lookup x=some .local) (G:X.env.scope.names.lookup y=some .local) (S:PA X [a,b] ta)
  (Y:adF [.Tuple [.Name x z,.Name y m] kt pt] (.Tuple [a,b] k2 pt2) X.env=pure (some [x,y]))
  (V:adE [.Tuple [.Name x z,.Name y m] kt pt] (.Tuple [a,b] k2 pt2) pos.line X.env=pure false:=by rfl) :
  PS X (.Assign [.Tuple [.Name x z,.Name y m] kt pt] (.Tuple [a,b] k2 pt2) pos) (tPar i j ta):=by
 intro pins s σ H D I h;rw[exec_Assign_arm];refine gT (adc ?_);rw[V];refine gT (Io ?_);rw[if_neg (by decide)];refine gT (Tuple_ (thn (S _ pins s σ H _ I h) λus s1 ⟨vs,O,U,r1,t⟩=>?_));let⟨v,w,Z,t⟩:=t;subst Z;let⟨d,k,rfl,rv,n⟩:∃d k,us=[d,k]/\RelV v d/\RelV w k:=by
  cases r1 with
  | cons p q=>
   cases q with
   |cons p' q'=>
    cases q';exact⟨_,_,rfl,p,p'⟩
 refine abe ?_ (by show 2≤aai;decide);have T:Inv X pins σ O {s1 with heap:=s1.heap.push {cls:=.type "tuple",data:=.seq [d,k].toArray} }:=U.kept (t':=s1.toks) λb o e=>Ld _ e;rw[Y];refine gT (Io ?_);refine gT (abI (gT (unpackItems_tuple (items:=#[d,k]) (I.ok.hd hc) (IsTup.new s1.heap _) λh' B=>?_)));have W:=T.kept (h':=h') (t':=s1.toks) λb o e=>B b o (aa1 (aao e)) e;show wpAny _ _ (assignInOrder [λv=>bindName X.env y v,λv=>bindName X.env x v] [k,d] >>= λ_=>pure Flow.next) _ _ _;refine gT (ae0 (wpAny_bindName (i7 W J hj (.inl G) n (λs2 R=>?_) (.inr G))));refine ae0 (wpAny_bindName (i7 R J hi (.inl F) rv (λs3 L=>assignInOrder_nil (Io ?_)) (.inr F)));rw[List.set_comm _ _ (ab1 l)]at L;exact⟨_,O,L,t⟩
def tAug(i:Nat)(te:TE)(ti:TIp):TS:=λD σ H=>∃x,σ[i]?=some (some x)/\te σ H λy k=>ti x y k λz d=>D.nx (σ.set i (some z)) d
theorem RE{op:aeZ}{ti:TIp}{q:Pos}(L:X.N.Nodup)(F:X.N[i]?=some x)(t:Loc X.env.scope x)(V:PE X e te)(ho:PIp X op ti)(hf:X.fn x=true\/X.env.scope.names.lookup x=some .local:=by first|exact .inl rfl|exact .inr rfl|assumption) :
  PS X (.AugAssign (.Name x q) op e pos) (tAug i te ti):=by
 intro pins s σ H D I h;let⟨v,U,h⟩:=h;let⟨m,G,hl⟩:=I.loc;have B:Vis X.env.scope x:=by rcases t with k|k;exact .inl k;exact .inr (.inl k)
 let⟨u,r,l⟩:=hl i x v F U B;refine wpAny_AugAssign_Name ?_;have go:wpAny (model X.prog X.w) X.A (eval e X.env) (λw p=>wpAny (model X.prog X.w) X.A (inplaceOp op u w) (λr n=>wpAny (model X.prog X.w) X.A (storeName X.env x r) (λ_=>SP X pins D .next) X.xe n) X.xe p) X.xe s:=by
  refine thn (V pins s σ H _ I h) λw s1 ⟨y,Y,O,r1,S⟩=>?_;refine thn (ho pins s1 σ Y v y u w _ O r r1 S) λz s2 ⟨zv,T,J,r2,Z⟩=>?_;exact i7 J L F t r2 (λs3 R=>⟨_,T,R,Z⟩) hf
 rcases l with⟨hk,W⟩|⟨hk,c,hc,d⟩
 .exact wpAny_loadName_local I.ok.kind hk G W go
 .rcases hk with hk|hk
  .exact wpAny_loadName_cell I.ok.kind hk hc d go
  .rcases t with k|k
   .have:X.env.scope.names.lookup x=some .free:=hk;rw[k]at this;cases this
   .have:X.env.scope.names.lookup x=some .free:=hk;rw[k]at this;cases this
end
section
variable {X:Cx}{pos:Pos}
def OL(c:TT)(tb:TS):TS:=λD σ H=>∃W:Nat->St->Hp->Prop,(∃m,W m σ H)/\∀m σ H,W m σ H ->
 c σ H λb l=>if b=true then ∃N:St->Hp->Prop,(∀d k,N d k->∃n,n<m/\W n d k)/\tb {D with nx:=N,ct:=N,bk:=D.nx} σ l else D.nx σ l
theorem Dj{U:TT}{tb:TS}(O:afG (model X.prog X.w) X.A X.env X.xe)(hc:PT X c U)(hb:PSs X body tb):PS X (.While c body [] pos) (OL U tb):=by
 intro pins s σ H D I h;let⟨W,⟨Y,w0⟩,t⟩:=h;refine wpAny_While (codeAny_whileLoop (λn Z=>∃l J,Inv X pins l J Z/\W n l J) ?_ Y ⟨σ,H,I,w0⟩);intro n s1 ⟨k,T,V,w1⟩;refine acF O (thn (hc pins s1 k T _ V (t n k T w1)) λb s2 ⟨L,R,q⟩=>?_)
 cases b with
 | true=>
  let⟨N,S,q⟩:=q;rw[if_pos rfl];refine acF O (thn (hb pins s2 k L _ R q) λf s3 p=>?_)
  cases f with
  |next=>
   let⟨d,m,z,y⟩:=p;let⟨G,F,B⟩:=S d m y;exact⟨G,F,d,m,z,B⟩
  |cont=>
   let⟨d,m,z,y⟩:=p;let⟨G,F,B⟩:=S d m y;exact⟨G,F,d,m,z,B⟩
  |brk=>exact p
  |ret v=>exact p
 |false=>
  exact aeG ⟨k,L,R,q⟩
end
structure It where
 go:Nat->Hp->Prop
 yld:Nat->Hp->V->Hp->Prop
 stop:Nat->Hp->Prop
def FpOk(X:Cx)(pins:List (Addr×Obj))(H:Hp)(b:Addr):Prop:=
 H b=none/\b≠X.env.locals/\b∉X.fs/\(b∈X.ex\/X.s₀.heap.objs.size≤b)/\(∀x c,X.env.cells.lookup x=some c->c≠b)/\∀p∈X.pn++pins,p.1≠b
theorem Inv.fpOk{k:Hp}{s:AD}(I:Inv X pins σ H s)(d:s.heap.objs.size≤b)(l:k b=none):FpOk X pins k b:=by
 refine⟨l,abv (aat I.lt d),I.nofs d,.inr (aas I.sz d),λx c e z=>?_,λp m z=>?_⟩
 .obtain⟨v,q⟩:=I.cell x c e;exact absurd (aat q.lt (by simp_all)) (acO _)
 .exact absurd (aat (aao (I.pin p m).1) (by simp_all)) (acO _)
structure Turn(P:aaF)(w:World)(K:aad)(tg:Expr)(J:It)(fp:List Addr)(it:Addr)(tn:Nat->aaW->Prop):Prop where
 mem:it∈fp
 obj:∀i h,tn i h->∀b∈fp,∃o,h.get? b=some o/\∀v,o.data≠.cell v
 keep:∀i h h',tn i h->(∀b∈fp,∀o,h.get? b=some o->h'.get? b=some o)->tn i h'
 item:∀(X:Cx),X.prog=P->X.w=w->X.K=K->X.calm=true->∀(i:Nat) (pins:List (Addr×Obj)) (s:AD) (σ:St) (H:Hp) (E:mT->AD->Prop),Inv X pins σ H s->(∀b∈fp,FpOk X pins H b)->tn i s.heap->J.go i H ->
  wpAny (model P w) X.A (acU (.ref it)) (λr s1=>∃u,r=some u/\
   wpAny (model P w) X.A (adU tg (.ref it) u) (λ_ s2=>∃x H',Inv X pins σ H' s2/\RelV x u/\J.yld i H x H'/\tn (i+1) s2.heap/\∀b∈fp,H' b=none) E s1) E s
 done:∀(X:Cx),X.prog=P->X.w=w->X.K=K->X.calm=true->∀(i:Nat) (pins:List (Addr×Obj)) (s:AD) (σ:St) (H:Hp) (E:mT->AD->Prop),Inv X pins σ H s->(∀b∈fp,FpOk X pins H b)->tn i s.heap->J.stop i H ->
  wpAny (model P w) X.A (acU (.ref it)) (λr s1=>r=none/\Inv X pins σ H s1) E s
 self:∀(A:aa4) (i:Nat) (s:AD) (Q:mT->AD->Prop) (E:mT->AD->Prop),tn i s.heap->Q (.ref it) s->wpAny (model P w) A (afU (.ref it)) Q E s
abbrev TI:=St->Hp->(It->Hp->Prop)->Prop
def PIE(X:Cx)(pins:List (Addr×Obj))(σ:St)(tg:Expr)(R:It->Hp->Prop)(k:mT)(s2:AD):Prop:=
 ∃(l:Addr) (fp:List Addr) (tn:Nat->aaW->Prop) (J:It) (d:Hp),k = .ref l/\Inv X pins σ d s2/\Turn X.prog X.w X.K tg J fp l tn/\tn 0 s2.heap/\(∀b∈fp,FpOk X pins d b)/\R J d
def PI(X:Cx)(tg d:Expr)(k:TI):Prop:=
 ∀(pins:List (Addr×Obj)) (s:AD) (σ:St) (H:Hp) (R:It->Hp->Prop),Inv X pins σ H s->k σ H R ->
  wpAny (model X.prog X.w) X.A (eval d X.env) (λv s1=>wpAny (model X.prog X.w) X.A (afU v) (PIE X pins σ tg R) X.xe s1) X.xe s
theorem KG{s:AD}{k:Addr}{o:Obj}{n:String}{vs:Array mT}{Q:Unit->AD->Prop}(m:s.heap.get? k=some o)(l:o.cls = .type n)(hd:o.data = .fields vs)
  (p:["enumerate","zip","dict_itemiterator","dict_reverseitemiterator","odict_iterator","itertools.zip_longest","itertools.pairwise"].contains n=false) (d:Q () s):wpAny M A (adU tg (.ref k) u) Q E s:=by
 cases tg<;>first
  |exact Io d
  | (cases u<;>first
    |exact Io d
    | (refine gT (wpAny_load m ?_)
       rw[l,hd];show wpAny M A (if _=true then _ else _) Q E s;rw[if_neg (by grind)];exact Io d))
def Itl(K:aad)(a:Addr):It:=
 ⟨λi H=>∃d x,SqL K H a d/\d[i]?=some x,λi H x k=>k=H/\∀d,SqL K H a d->d[i]?=some x,λi H=>∃d,SqL K H a d/\d.length≤i⟩
def Itt(K:aad)(a:Addr):It:=
 ⟨λi H=>∃d x,SqT K H a d/\d[i]?=some x,λi H x k=>k=H/\∀d,SqT K H a d->d[i]?=some x,λi H=>∃d,SqT K H a d/\d.length≤i⟩
def Itr(l:Int)(n:Nat):It:=⟨λi _=>i<n,λi H x d=>d=H/\x = .int (l+i),λi _=>n≤i⟩
theorem yF(a n:Addr):Turn P w K tg (Itl K a) [n] n (λi h=>h.IsListIter n a i) where
 mem:=by simp
 obj:=λi h l b m=>by
  have e:b=n:=by simpa using m
  subst e;let⟨o,e,c,d⟩:=l;exact⟨o,e,λv z=>by rw[d]at z;cases z⟩
 keep:=λi h y l k=>l.at λo e=>k n (by simp) o e
 item:=by
  intro X L J R Y i pins s σ H E I B l V;subst L J R;let⟨Z,x,t,F⟩:=V;let⟨G,T,p,hz⟩:=I.list t;let⟨u,hu,ru⟩:=T.get F;let⟨D,W,f2,S,O,U⟩:=B n (by simp);refine wpAny_pyNext_list_item l p.isList (x:=u) (by simpa using hu) λy q sb=>?_;have I1:Inv X pins σ H {s with heap:=y }:=I.turned (t':=s.toks) (λb o m e=>(sb.2 b m).trans e) D W S O U;let⟨o,e,c,d⟩:=id q;exact⟨u,rfl,KG (s:={s with heap:=y }) e c d (by decide) ⟨x,H,I1,ru,⟨rfl,λys hy=>by rw[I.list_inj hy t];exact F⟩,q,λb m=>(B b m).1⟩⟩
 done:=by
  intro X L J R Y i pins s σ H E I B l V;subst L J R;let⟨Z,t,F⟩:=V;let⟨G,T,p,hz⟩:=I.list t;let⟨D,W,f2,S,O,U⟩:=B n (by simp);have hl:=T.length;exact wpAny_pyNext_list_end (I.ok.hd Y) l p.isList (by simp;omega) λy eb=>⟨rfl,I.turned (t':=s.toks) (λb o m e=>eb b o m e) D W S O U⟩
 self:=λ_ _ _ _ _ l h=>wpAny_pyIter_listiter l h
theorem ym(a q:Addr):Turn P w K tg (Itt K a) [q] q (λi h=>h.IsTupleIter q a i) where
 mem:=by simp
 obj:=λi h l b n=>by
  have e:b=q:=by simpa using n
  subst e;let⟨o,e,c,d⟩:=l;exact⟨o,e,λv z=>by rw[d]at z;cases z⟩
 keep:=λi h B l k=>l.at λo e=>k q (by simp) o e
 item:=by
  intro X L J R Y i pins s σ H E I D l V;subst L J R;let⟨Z,x,y,G⟩:=V;let⟨m,T,p,hz⟩:=I.tuple y;let⟨u,hu,ru⟩:=T.get G;let⟨F,W,f2,S,O,U⟩:=D q (by simp);refine wpAny_pyNext_tuple_item l (show s.heap.IsTuple a m.toArray from p) (x:=u) (by simpa using hu) λB t sb=>?_;have I1:Inv X pins σ H {s with heap:=B }:=I.turned (t':=s.toks) (λb o n e=>(sb.2 b n).trans e) F W S O U;let⟨o,e,c,d⟩:=id t;exact⟨u,rfl,KG (s:={s with heap:=B }) e c d (by decide) ⟨x,H,I1,ru,⟨rfl,λys hy=>by rw[I.tuple_inj hy y];exact G⟩,t,λb n=>(D b n).1⟩⟩
 done:=by
  intro X L J R Y i pins s σ H E I D l V;subst L J R;let⟨Z,y,G⟩:=V;let⟨m,T,p,hz⟩:=I.tuple y;let⟨F,W,f2,S,O,U⟩:=D q (by simp);have hl:=T.length;exact wpAny_pyNext_tuple_end (I.ok.hd Y) l (show s.heap.IsTuple a m.toArray from p) (by simp;omega) λB eb=>⟨rfl,I.turned (t':=s.toks) (λb o n e=>eb b o n e) F W S O U⟩
 self:=λ_ _ _ _ _ l h=>wpAny_pyIter_tupleiter l h
theorem xU(l:Addr)(y:Int)(n:Nat):Turn P w K tg (Itr y n) [l] l (λi h=>IsRangeIter h l (y+(i:Nat)*1) ((n:Int)-(i:Nat)) 1) where
 mem:=by simp
 obj:=λi h d b m=>by
  simp_all
 keep:=λi h q d k=>k l (by simp) _ d
 item:=by
  intro X G F J S i pins s σ H E I z d R;subst G F J;let⟨B,T,Z,L,D,O⟩:=z l (by simp);have W:=Walks.range (prog:=X.prog) (w:=X.w) (I.ok.hd S) l y 1 n;refine W.item i s _ _ R d λv q U V p kk=>?_;let⟨t,rfl⟩:=V;have Y:Inv X pins σ H {s with heap:=q,toks:=U}:=I.turned (λb o m e=>kk b o (by simpa using m) e) B T L D O;refine⟨_,rfl,KG (s:={s with heap:=q,toks:=U}) (n:= "range_iterator") p rfl rfl (by decide) ⟨.int (y+i),H,Y,⟨t,?_⟩,⟨rfl,rfl⟩,p,λb m=>(z b m).1⟩⟩;rw[Int.mul_one]
 done:=by
  intro X G F J S i pins s σ H E I z d R;subst G F J;let⟨B,T,Z,L,D,O⟩:=z l (by simp);exact wpAny_pyNext_range_end (I.ok.hd S) d (by have:n≤i:=R;omega) λq eb=>⟨rfl,I.turned (t':=s.toks) (λb o m e=>eb b o m e) B T L D O⟩
 self:=λ_ _ _ _ _ d h=>wpAny_pyIter_rangeiter d h
section
variable {X:Cx}{tg:Expr}
theorem C5{s:AD}{R:It->Hp->Prop}{l d:Int}{t u v:Tok}{m:Nat}(I:Inv X pins σ H s)(B : -(2^62)≤l)(p:l<2^62)(z : -(2^62)≤d)(D:d<2^62)
  (q:R (Itr l (d-l).toNat) H):wpAny (model X.prog X.w) X.A (afU (.ref s.heap.objs.size)) (PIE X pins σ tg R) E {s with heap:=s.heap.push {cls:=.type "range",data:=.fields #[.int l t,.int d u,.int 1 v]},toks:=m}:=by
 refine wpAny_pyIter_range (IsRange.new ..) (small_one B p z D) ?_;have k:Inv X pins σ H {s with heap:=s.heap.push {cls:=.type "range",data:=.fields #[.int l t,.int d u,.int 1 v]},toks:=m}:=I.kept λb o e=>Ld _ e;refine⟨(s.heap.push {cls:=.type "range",data:=.fields #[.int l t,.int d u,.int 1 v]}).objs.size,[(s.heap.push {cls:=.type "range",data:=.fields #[.int l t,.int d u,.int 1 v]}).objs.size],_,_,H,rfl,
  k.kept (t':=m) λb o e=>Ld _ e,xU _ l (d-l).toNat,?_,λb n=>?_,q⟩
 .have e1:l+((0:Nat):Int)*1=l:=by simp
  have y:(((d-l).toNat):Int)-((0:Nat):Int)=acI.Range.rangeSize l d 1:=by rw[rangeSize_one];split<;>omega
  rw[e1,y];exact aan _ rfl
 .have e:b=(s.heap.push {cls:=.type "range",data:=.fields #[.int l t,.int d u,.int 1 v]}).objs.size:=by simpa using n
  subst e;exact k.fpOk (Mt _) (k.hok.fresh (Mt _))
def Ux(ta:TA):TI:=λσ H R=>ta σ H λvs d=>∃j:Int,vs=[.int j]/\-(2^62)≤j/\j<2^62/\R (Itr 0 j.toNat) d
theorem Ai{a:Expr}{ta:TA}{p:Pos}(y:Gl X "range")(k:X.mg "range" = none)(l:PA X [a] ta)(z:aac [a] X.env=[(false,eval a X.env)]:=by rfl):PI X tg (.Call (.Name "range" p) [a] [] pos) (Ux ta):=by
 intro pins s σ H R I h;refine Call_ (oh I y k boot_range (adj (thn (l pos pins s σ H _ I h) λus s1 ⟨vs,B,n,r1,d⟩=>?_) z rfl));let⟨j,e,d,m,q⟩:=d;subst e
 cases r1 with
 |cons r rr=>
  cases rr;let⟨t,rfl⟩:=r;exact call_range_1 (C5 n (by decide) (by decide) d m (by simpa))
def tFor(s:TI)(g:TG)(tb:TS):TS:=λD σ H=>s σ H λJ q=>∃W:Nat->Nat->St->Hp->Prop,(∃m,W 0 m σ q)/\∀i m σ H,W i m σ H ->
 (J.stop i H/\D.nx σ H)\/(J.go i H/\∃N:St->Hp->Prop,(∀d k,N d k->∃n,n<m/\W (i+1) n d k)/\∀x k,J.yld i H x k->g x σ k λl p=>tb {D with nx:=N,ct:=N,bk:=D.nx} l p)
def uh(fp:List Addr)(h:aaW):List (Addr×Obj):=fp.filterMap λb=>(h.get? b).map λo=>(b,o)
def gU{o:Obj}(d:b∈fp)(e:h.get? b=some o):(b,o)∈uh fp h:=List.mem_filterMap.mpr ⟨b,d,by rw[e];rfl⟩
theorem zj{p:Addr×Obj}(k:p∈uh fp h):p.1∈fp/\h.get? p.1=some p.2:=by
 let⟨b,l,e⟩:=List.mem_filterMap.mp k
 cases q:h.get? b with
 |none=>rw[q]at e;cases e
 |some o=>
  rw[q]at e;have d:=aaB e;subst d;exact⟨l,q⟩
theorem Inv.pinned{s:AD}(I:Inv X pins σ H s)(l:∀b∈fp,FpOk X pins H b)(m:∀b∈fp,∃o,s.heap.get? b=some o/\∀v,o.data≠.cell v):Inv X (pins++uh fp s.heap) σ H s:=
 I.pins_of λp k=>(aaT.mp k).elim (λz=>I.pin p (aaI _ z)) λz=>by
  let⟨d,e⟩:=zj z;let⟨n,t,q,_⟩:=l p.1 d;obtain _:=m p.1 d
  simp_all
def Inv.unpinned{pl:List (Addr×Obj)}{s:AD}(I:Inv X (pins++pl) σ H s):Inv X pins σ H s:=I.pins_of λp d=>I.pin p (aaI _ (abB _ d))
theorem Ub{B:Expr}{wi:TI}{g:TG}{tb:TS}(R:afG (model X.prog X.w) X.A X.env X.xe)(hc:X.calm=true)(hi:PI X tg B wi)(hg:PG X tg g)(q:PSs X body tb)
  (hs:∀x,aaQ B X.env x=pure x:=by intro _;rfl):PS X (.For tg B body [] pos) (tFor wi g tb):=by
 intro pins s σ H D I h;refine wpAny_For (thn (hi pins s σ H _ I h) λv s1 h1=>thn h1 λitv s2 h2=>?_) hs;let⟨it,fp,tn,J,H2,e,I2,T,st2,f2,W,⟨m0,w0⟩,Y⟩:=h2;subst e;have t:∀{G:Hp},(∀b∈fp,G b=none)->∀b∈fp,FpOk X pins G b:=λhn b q=>⟨hn b q,(f2 b q).2⟩;refine codeAny_forLoop_any (λn s'=>∃i z G,Inv X pins z G s'/\tn i s'.heap/\(∀b∈fp,G b=none)/\W i n z G) ?_ m0 ⟨0,σ,H2,I2,st2,λb q=>(f2 b q).1,w0⟩;intro n s3 ⟨i,F,Z,I3,S,V,w3⟩;rcases Y i n F Z w3 with⟨stop,qn⟩|⟨go,N,hN,step⟩
 .refine acF R (thn (T.done X rfl rfl rfl hc i pins s3 F Z X.xe I3 (t V) S stop) λr s4 ⟨hr,I4⟩=>?_);subst hr;exact aeG ⟨F,Z,I4,qn⟩
 .refine acF R (thn (T.item X rfl rfl rfl hc i pins s3 F Z X.xe I3 (t V) S go) λr s4 ⟨u,hr,h4⟩=>?_);subst hr;refine acF R (thn h4 λ_ s5 ⟨x,H5,I5,r5,y5,O,fr5⟩=>?_);have I5':=I5.pinned (t fr5) (T.obj _ _ O);refine acF R (thn (hg _ s5 F H5 x u _ I5' r5 (step x H5 y5)) λ_ s6 ⟨σ6,H6,I6,q6⟩=>?_);refine acF R (thn (q _ s6 σ6 H6 _ I6 q6) λf s7 L=>?_);have p:∀{k:St}{l:Hp},Inv X (pins++uh fp s5.heap) k l s7->N k l->∃m,m<n/\∃i z G,Inv X pins z G s7/\tn i s7.heap/\(∀b∈fp,G b=none)/\W i m z G:=λ{k l} y U=>by
   let⟨m',hm,w7⟩:=hN k l U;refine⟨m',hm,i+1,k,l,y.unpinned,T.keep _ _ _ O λb q o e=>(y.pin (b,o) (aaI _ (aaI _ (gU q e)))).1,λb q=>?_,w7⟩;let⟨o,e,d⟩:=T.obj _ _ O b q;exact(y.pin (b,o) (aaI _ (aaI _ (gU q e)))).2.1
  cases f with
  |next=>let⟨k,l,y,U⟩:=L;exact p y U
  |cont=>let⟨k,l,y,U⟩:=L;exact p y U
  |brk=>let⟨k,l,y,L⟩:=L;exact⟨k,l,y.unpinned,L⟩
  |ret v=>let⟨x7,k,l,y,r7,L⟩:=L;exact⟨x7,k,l,y.unpinned,r7,L⟩
end
abbrev R2:=V->V->Hp->VK->Prop
def OpR(X:Cx)(f:mT->mT->Sem mT)(r:R2):Prop:=
 ∀(pins:List (Addr×Obj)) (s:AD) (σ:St) (H:Hp) (x y:V) (v u:mT) (Q:VK),Inv X pins σ H s->RelV x v->RelV y u->r x y H Q ->
  wpAny (model X.prog X.w) X.A (f v u) (EP X pins σ Q) X.xe s
def UnR(X:Cx)(f:mT->Sem mT)(r:V->Hp->VK->Prop):Prop:=
 ∀(pins:List (Addr×Obj)) (s:AD) (σ:St) (H:Hp) (x:V) (v:mT) (Q:VK),Inv X pins σ H s->RelV x v->r x H Q ->
  wpAny (model X.prog X.w) X.A (f v) (EP X pins σ Q) X.xe s
def dM(X:Cx)(f:mT)(r:List V->Hp->VK->Prop):Prop:=
 ∀(pins:List (Addr×Obj)) (s:AD) (σ:St) (H:Hp) (d:List V) (us:List mT) (Q:VK),Inv X pins σ H s->Vals d us->r d H Q ->
  wpAny (model X.prog X.w) X.A (call f us) (EP X pins σ Q) X.xe s
def tOp(r:R2)(ta tb:TE):TE:=λσ H Q=>ta σ H λx k=>tb σ k λy d=>r x y d Q
def tUn(r:V->Hp->VK->Prop)(ta:TE):TE:=λσ H Q=>ta σ H λx d=>r x d Q
def rI(C:Int->Int->Prop)(g:Int->Int->V):R2:=λx y H Q=>∃i j,x = .int i/\y = .int j/\C i j/\Q (g i j) H
def rI0(g:Int->Int->V):R2:=λx y H Q=>∃i j,x = .int i/\y = .int j/\Q (g i j) H
def rU(g:Int->V):V->Hp->VK->Prop:=λx H Q=>∃i,x = .int i/\Q (g i) H
section
variable {X:Cx}{a b c:Expr}{ta tb d:TE}{pos:Pos}
def binT(q:PE X a ta)(p:PE X b tb){s:AD}{R:V->V->Hp->Prop}(I:Inv X pins σ H s)
  (h:ta σ H λx n=>tb σ n λy k=>R x y k) 
  (G:∀v u s2 x y k,Inv X pins σ k s2->RelV x v->RelV y u->R x y k->wpAny (model X.prog X.w) X.A (f v u) Q X.xe s2) :
  wpAny (model X.prog X.w) X.A (eval a X.env) (λv m=>wpAny (model X.prog X.w) X.A (eval b X.env) (λu l=>wpAny (model X.prog X.w) X.A (f v u) Q X.xe l) X.xe m) X.xe s:=by
 refine thn (q pins s σ H _ I h) λv s1 ⟨x,n,B,r1,F⟩=>?_;refine thn (p pins s1 σ n _ B F) λu s2 ⟨y,k,z,D,t⟩=>?_;exact G v u s2 x y k z r1 D t
theorem Uk{op:aeZ}(z:OpR X (aco op) r)(l:PE X a ta)(k:PE X b tb):PE X (.BinOp a op b pos) (tOp r ta tb):=by
 intro pins s σ H Q I h;exact wpAny_BinOp (binT l k I h λv u s2 x y n m t p q=>z pins s2 σ n x y v u Q m t p q)
theorem VD{op:UnaryOp}{r:V->Hp->VK->Prop}(m:UnR X (unaryOp op) r)(l:PE X a ta):PE X (.UnaryOp op a pos) (tUn r ta):=by
 intro pins s σ H Q I h;exact UnaryOp_ (thn (l pins s σ H _ I h)<|by intro v s1 ⟨x,n,k,r1,q⟩;exact m pins s1 σ n x v Q k r1 q)
theorem opI{C:Int->Int->Prop}
  (k:∀(i j:Int) (t u:Tok) (s:AD) (Q:mT->AD->Prop) (E:mT->AD->Prop),C i j->Q (.int (g i j) s.toks) {s with toks:=s.toks+1}->wpAny (model X.prog X.w) X.A (f (.int i t) (.int j u)) Q E s) :
  OpR X f (rI C λi j=>.int (g i j)):=by
 intro pins s σ H x y v u Q I n l h;let⟨i,j,rfl,rfl,m,q⟩:=h;let⟨t,rfl⟩:=n;let⟨t',rfl⟩:=l;exact k i j t t' s _ _ m ⟨.int _,H,I.tok _,⟨_,rfl⟩,q⟩
theorem opI0
  (k:∀(i j:Int) (t u:Tok) (s:AD) (Q:mT->AD->Prop) (E:mT->AD->Prop),Q (.int (g i j) s.toks) {s with toks:=s.toks+1}->wpAny (model X.prog X.w) X.A (f (.int i t) (.int j u)) Q E s) :
  OpR X f (rI0 λi j=>.int (g i j)):=by
 intro pins s σ H x y v u Q I m l h;let⟨i,j,rfl,rfl,q⟩:=h;let⟨t,rfl⟩:=m;let⟨t',rfl⟩:=l;exact k i j t t' s _ _ ⟨.int _,H,I.tok _,⟨_,rfl⟩,q⟩
theorem opB0{g:Int->Int->Bool}
  (k:∀(i j:Int) (t u:Tok) (s:AD) (Q:mT->AD->Prop) (E:mT->AD->Prop),Q (.bool (g i j)) s->wpAny (model X.prog X.w) X.A (f (.int i t) (.int j u)) Q E s) :
  OpR X f (rI0 λi j=>.bl (g i j)):=by
 intro pins s σ H x y v u Q I m l h;let⟨i,j,rfl,rfl,q⟩:=h;let⟨t,rfl⟩:=m;let⟨t',rfl⟩:=l;exact k i j t t' s _ _ ⟨.bl _,H,I,rfl,q⟩
def CPow(i j:Int):Prop:=0≤j/\j≤1000000/\i.natAbs<2^64
def CMul(i j:Int):Prop:=(-(2^64)<i/\i<2^64)\/(-(2^64)<j/\j<2^64)
def CMul.ok{i j:Int}(h:CMul i j):ag1 i j:=by
 rcases h with⟨k,l⟩|⟨k,l⟩
 .exact .of_left (intBits_le_64 k l)
 .exact .of_right (intBits_le_64 k l)
def TJ:OpR X (aco .Add) (rI0 λi j=>.int (i+j)):=opI0 λ_ _ _ _ _ _ _ q=>add_int q
theorem T6:OpR X (aco .Mod) (rI (λ_ j=>0<j) λi j=>.int (i%j)):=opI λi j _ _ _ _ _ k q=>by
 exact mod_int' (by omega) (by rw[Int.fmod_eq_emod_of_nonneg i (by omega)];exact q)
def Oz:OpR X (aco .Pow) (rI CPow λi j=>.int (i^j.toNat)):=opI λ_ _ _ _ _ _ _ k q=>pow_int_small k.1 k.2.1 k.2.2 q
theorem unI{f:mT->Sem mT}{g:Int->Int}
  (k:∀(i:Int) (t:Tok) (s:AD) (Q:mT->AD->Prop) (E:mT->AD->Prop),Q (.int (g i) s.toks) {s with toks:=s.toks+1}->wpAny (model X.prog X.w) X.A (f (.int i t)) Q E s) :
  UnR X f (rU λi=>.int (g i)):=by
 intro pins s σ H x v Q I l h;let⟨i,rfl,q⟩:=h;let⟨t,rfl⟩:=l;exact k i t s _ _ ⟨.int _,H,I.tok _,⟨_,rfl⟩,q⟩
def Qk:UnR X (unaryOp .USub) (rU λi=>.int (-i)):=unI λ_ _ _ _ _ q=>neg_int q
end
def scal:V->V->Bool
 | .non,.non=>true | .non,.int _=>true | .int _,.non=>true | .non,.bl _=>true | .bl _,.non=>true | .non,.str _=>true | .str _,.non=>true
 | .int _,.int _=>true | .bl _,.bl _=>true | .str _,.str _=>true | .byt _,.byt _=>true
 | .int _,.str _=>true | .str _,.int _=>true | .bl _,.str _=>true | .str _,.bl _=>true
 |_,_=>false
def rEq:R2:=λx y H Q=>scal x y=true/\Q (.bl (decide (x=y))) H
def rNe:R2:=λx y H Q=>scal x y=true/\Q (.bl (!decide (x=y))) H
def Bm{i j:Int}:decide (V.int i=V.int j)=(i==j):=by
 rw[abF];simp
def IQ{i j:Bool}:decide (V.bl i=V.bl j)=(i==j):=by
 rw[abF];simp
def qj{i j:Str}:decide (V.str i=V.str j)=(i==j):=by
 rw[abF];simp
def zu{i j:Array UInt8}:decide (V.byt i=V.byt j)=(i.toList==j.toList):=by
 rw[abF];simp
section
variable {X:Cx}{a b c:Expr}{ta tb d:TE}{pos:Pos}
def bG{s:AD}{Q:VK}{k k':Bool}(I:Inv X pins σ H s)(q:Q (.bl k) H)(e:k=k'):EP X pins σ Q (.bool k') s:=by
 subst e;exact⟨.bl k,H,I,rfl,q⟩
theorem U4:OpR X (abh .Eq) rEq:=by
 intro pins s σ H x y v u Q I m k h;let⟨l,q⟩:=h
 cases x with
 |non=>
  cases m
  cases y with
  |non=>cases k;exact PySem.EqNone.eq_none_none (bG I q (by simp))
  |bl j=>cases k;exact PySem.EqNone.eq_none_bool (bG I q (by simp))
  |int j=>let⟨t',rfl⟩:=k;exact PySem.EqNone.eq_none_int (bG I q (by simp))
  |str j=>let⟨t',rfl⟩:=k;exact PySem.EqNone.eq_none_str (bG I q (by simp))
  |_=>exact absurd (show false=true from l) aam
 |bl i=>
  cases m
  cases y with
  |non=>cases k;exact PySem.EqNone.eq_bool_none (bG I q (by simp))
  |bl j=>cases k;exact eq_bool (bG I q IQ)
  |str j=>let⟨t',rfl⟩:=k;exact PySem.EqMixed.eq_bool_str (bG I q (by simp))
  |_=>exact absurd (show false=true from l) aam
 |int i=>
  let⟨t,rfl⟩:=m
  cases y with
  |non=>cases k;exact PySem.EqNone.eq_int_none (bG I q (by simp))
  |int j=>let⟨t',rfl⟩:=k;exact eq_int (bG I q Bm)
  |str j=>let⟨t',rfl⟩:=k;exact PySem.EqMixed.eq_int_str (bG I q (by simp))
  |_=>exact absurd (show false=true from l) aam
 |str i=>
  let⟨t,rfl⟩:=m
  cases y with
  |non=>cases k;exact PySem.EqNone.eq_str_none (bG I q (by simp))
  |bl j=>cases k;exact PySem.EqMixed.eq_str_bool (bG I q (by simp))
  |int j=>let⟨t',rfl⟩:=k;exact PySem.EqMixed.eq_str_int (bG I q (by simp))
  |str j=>let⟨t',rfl⟩:=k;exact eq_str (bG I q qj)
  |_=>exact absurd (show false=true from l) aam
 |byt i=>
  let⟨t,rfl⟩:=m
  cases y with
  |byt j=>let⟨t',rfl⟩:=k;exact PySem.W.eq_bytes (bG I q zu)
  |_=>exact absurd (show false=true from l) aam
 |_=>cases y<;>exact absurd (show false=true from l) aam
theorem UD:OpR X (abh .NotEq) rNe:=by
 intro pins s σ H x y v u Q I m k h;let⟨l,q⟩:=h
 cases x with
 |non=>
  cases m
  cases y with
  |non=>cases k;exact PySem.EqNone.ne_none_none (bG I q (by rfl))
  |bl j=>cases k;exact PySem.EqNone.ne_none_bool (bG I q (by simp))
  |int j=>let⟨t',rfl⟩:=k;exact PySem.EqNone.ne_none_int (bG I q (by simp))
  |str j=>let⟨t',rfl⟩:=k;exact PySem.EqNone.ne_none_str (bG I q (by simp))
  |_=>exact absurd (show false=true from l) aam
 |bl i=>
  cases m
  cases y with
  |non=>cases k;exact PySem.EqNone.ne_bool_none (bG I q (by simp))
  |bl j=>cases k;exact ne_bool (bG I q (congrArg not IQ))
  |str j=>let⟨t',rfl⟩:=k;exact PySem.EqMixed.ne_bool_str (bG I q (by simp))
  |_=>exact absurd (show false=true from l) aam
 |int i=>
  let⟨t,rfl⟩:=m
  cases y with
  |non=>cases k;exact PySem.EqNone.ne_int_none (bG I q (by simp))
  |int j=>let⟨t',rfl⟩:=k;exact ne_int (bG I q (congrArg not Bm))
  |str j=>let⟨t',rfl⟩:=k;exact PySem.EqMixed.ne_int_str (bG I q (by simp))
  |_=>exact absurd (show false=true from l) aam
 |str i=>
  let⟨t,rfl⟩:=m
  cases y with
  |non=>cases k;exact PySem.EqNone.ne_str_none (bG I q (by simp))
  |bl j=>cases k;exact PySem.EqMixed.ne_str_bool (bG I q (by simp))
  |int j=>let⟨t',rfl⟩:=k;exact PySem.EqMixed.ne_str_int (bG I q (by simp))
  |str j=>let⟨t',rfl⟩:=k;exact ne_str (bG I q (congrArg not qj))
  |_=>exact absurd (show false=true from l) aam
 |byt i=>
  let⟨t,rfl⟩:=m
  cases y with
  |byt j=>let⟨t',rfl⟩:=k;exact PySem.W.ne_bytes (bG I q (congrArg not zu))
  |_=>exact absurd (show false=true from l) aam
 |_=>cases y<;>exact absurd (show false=true from l) aam
def UA:OpR X (abh .Lt) (rI0 λi j=>.bl (decide (i<j))):=opB0 λ_ _ _ _ _ _ _ q=>lt_int q
def UC:OpR X (abh .LtE) (rI0 λi j=>.bl (decide (i≤j))):=opB0 λ_ _ _ _ _ _ _ q=>le_int q
def Vf:OpR X (abh .Gt) (rI0 λi j=>.bl (decide (j<i))):=opB0 λ_ _ _ _ _ _ _ q=>gt_int q
def Ur:OpR X (abh .GtE) (rI0 λi j=>.bl (decide (j≤i))):=opB0 λ_ _ _ _ _ _ _ q=>ge_int q
theorem Oa:OpR X (abh .IsNot) (λx y H Q=>y = .non/\Q (.bl (!decide (x = .non))) H):=by
 intro pins s σ H x y v u Q I k l h;let⟨rfl,q⟩:=h;cases l;refine isnot_none_gen (bG I q ?_)
 cases x<;>first
  |(cases k;rfl)
  |(let⟨t,rfl⟩:=k;rfl)
def aB(b:Expr)(h:op≠.In:=by decide)(m:op≠.NotIn:=by decide):acP op b=false:=by
 have l:(op==CmpOp.In)=false:=by cases op<;>first|rfl|exact absurd rfl h
 have k:(op==CmpOp.NotIn)=false:=by cases op<;>first|rfl|exact absurd rfl m
 cases b<;>simp[acP,l,k]
theorem Jr(B:OpR X (abh op) r)(l:PE X a ta)(k:PE X b tb)(p:acP op b=false):PE X (.Compare a [op] [b] pos) (tOp r ta tb):=by
 intro pins s σ H Q I h;exact wpAny_Compare1 (binT l k I h λv u s2 x y n m z t q=>B pins s2 σ n x y v u Q m z t q) p
def P6(t:TE):TT:=λσ H Q=>t σ H λx l=>∃k,x = .bl k/\Q k l
theorem Lc(R:OpR X (abh op) r)(n:PE X a ta)(m:PE X b tb)(G:acP op b=false):PT X (.Compare a [op] [b] pos) (P6 (tOp r ta tb)):=by
 intro pins s σ H Q I h;refine wpAny_isTrue_Compare1 (thn (n pins s σ H _ I h) λv s1 ⟨x,J,q,r1,D⟩=>thn (m pins s1 σ J _ q D) λu s2 ⟨y,F,p,S,L⟩=>
  thn (R pins s2 σ F x y v u _ p r1 S L) λc T ⟨z,l,B,t,k,e,O⟩=>?_) G
 subst e;cases t;exact afk ⟨l,B,O⟩
def t6:(aai:Nat)<2^63:=by  decide
theorem xZ:OpR X (aco .Add) (λx y H Q=>∃i j,x = .str i/\y = .str j/\i.length+j.length≤aai/\Q (.str (i++j)) H):=by
 intro pins s σ H x y v u Q I m l h;let⟨i,j,rfl,rfl,k,q⟩:=h;let⟨t,rfl⟩:=m;let⟨t',rfl⟩:=l;exact add_str (λt' n=>⟨.str _,H,I.tok _,⟨_,rfl⟩,q⟩) k
theorem zg{x:V}(r:Vals [x] us):∃u,us=[u]/\RelV x u:=by
 cases r with
 |cons r1 k=>cases k;exact⟨_,rfl,r1⟩
theorem Vk{x y:V}(r:Vals [x,y] us):∃u k,us=[u,k]/\RelV x u/\RelV y k:=by
 cases r with
 |cons r1 m=>
  cases m with
  |cons l n=>cases n;exact⟨_,_,rfl,r1,l⟩
theorem zJ(m:X.calm=true):dM X (.builtin "max") (λxs H Q=>∃i j,xs=[.int i,.int j]/\Q (.int (if j>i then j else i)) H):=by
 intro pins s σ H xs us Q I r h;let⟨i,j,rfl,q⟩:=h;let⟨u,n,rfl,⟨t,rfl⟩,⟨t',rfl⟩⟩:=Vk r;refine max_two_ints (I.ok.hd m) λp y k=>⟨_,H,I.kept k,?_,q⟩
 by_cases l:j>i
 .rw[if_pos l,if_pos l];exact⟨_,rfl⟩
 .rw[if_neg l,if_neg l];exact⟨_,rfl⟩
theorem sN:dM X (.type "int") (λxs H Q=>(∃i,xs=[.int i]/\Q (.int i) H)\/∃k,xs=[.bl k]/\Q (.int (if k then 1 else 0)) H):=by
 intro pins s σ H xs us Q I r h;rcases h with⟨i,rfl,q⟩|⟨k,rfl,q⟩
 .obtain⟨u,rfl,t,rfl⟩:=zg r;exact call_int_int ⟨.int i,H,I,⟨_,rfl⟩,q⟩
 .obtain⟨u,rfl,r1⟩:=zg r;cases r1;exact call_int_bool ⟨.int _,H,I.tok _,⟨_,rfl⟩,q⟩
end
structure ObjM(h:aaW)(x dx C:Addr)(mA:Str->Option mT):Prop where
 obj:h.get? x=some (acs C dx)
 ns:h.Ns1 dx mA
 ne:dx≠x
theorem Ap{dx:Addr}(n:h.Ns1 dx mA):∃k,h.get? dx=some k/\∀name,ae1 name k=some (mA name):=by
 let⟨o,es,B,s,hd,hk,_,p⟩:=n;refine⟨o,s,λname=>?_⟩;have e:=p name;unfold nsFind findBy at e;rw[<-Array.find?_toList]at e;unfold ae1;rw[hd];dsimp;split
 .rename_i y q;rw[q]at e;exact congrArg some e
 .rename_i q;rw[q]at e;have a:es.toList.any (·.refKey)=false:=by
   rw[List.any_eq_false];intro y l;let⟨z,t,d⟩:=hk y (aey.mp l);simp[ab8.refKey,d]
  have m:¬es.toList.any (·.refKey)=true:=by rw[a];exact aam
  rw[if_neg m];exact congrArg some e
def ObjM.look{x dx:Addr}(I:ObjM h x dx C mA):∃d,PySem.W.InstAt h x (acs C dx) C (some d)/\∀name,ae1 name d=some (mA name):=
 let ⟨d,ho,hl⟩:=Ap I.ns
 ⟨d,⟨I.obj,rfl,rfl,ho⟩,hl⟩
section
variable {prog:aaF}{w:World}{A:aa4}{E:mT->AD->Prop}{s:AD}{K:aad}{x dx C f:Addr}{m:Str->Option mT}{name:Str}{v:mT}
def JD{d:Bool}(X:K.In s.heap)(I:ObjM s.heap x dx C m)(n:acV K C name=true)(t:adk K C=true)
  (q:abo K (.ref C) name=some none) (l:m name=some v) (k:ahd v=true) (h:Q v {s with toks:=s.toks+1}) :
  wpAny (model prog w) A (getAttr (.ref x) name d) Q E s:=by
 let⟨y,J,p⟩:=I.look;exact PySem.W.get_value X J (aeQ n).1 (PySem.W.findObj_own t q rfl (by rw[p,l])) k h
def C7{Q:mT×List mT->AD->Prop}(X:K.In s.heap)(I:ObjM s.heap x dx C m)(d:acV K C name=true)
  (q:abo K (.ref C) name=some (some (.ref f))) (p:aeR K (.ref f)=true) (k:m name=none) (h:Q (.ref f,[.ref x]) s) :
  wpAny (model prog w) A (aen (.ref x) name pl) Q E s:=by
 let⟨l,J,n⟩:=I.look;exact PySem.W.method_fn X J (aeQ d).1 (aeQ d).2 q (beq_iff_eq.mp p) (by show(ae1 name l).map (·.isSome)=some false;rw[n,k];rfl) h
theorem K7{ns:List Str}{Q:Unit->AD->Prop}(X:K.In s.heap)(I:ObjM s.heap x dx C m)
  (z:abo K (.ref C) "__setattr__" = some (some (.builtin "object.__setattr__"))) (L:ad6 K C=true) (D:af7 K C name=some none) (G:adk K C=true)
  (F:afS m ns) (hsz:ns.length≤aai)
  (h:∀h',ObjM h' x dx C (λy=>if y=name then some v else m y)->ab2 dx s.heap h'->Q () {s with heap:=h',toks:=s.toks+2}) :
  wpAny (model prog w) A (setAttr (.ref x) name v) Q E s:=by
 let⟨S,J,T⟩:=I.look;refine PySem.W.set_plain X J z (PySem.W.osa_open (s:={s with toks:=s.toks+1}) (r:=none) X J L D λb=>?_);let⟨U,R,q⟩:=PySem.W.any_some G;have t:s.heap.get? x=some ⟨.ref C,some dx,.plain,#[]⟩:=I.obj;refine gT (Io (gT (gT (wpAny_loadPart t (gT (PySem.W.Looks.here (s:={s with toks:=s.toks+1}) (PySem.W.looks_clsIn X R) ?_))))));rw[q];refine Io (a:=some dx) (gT (Io (gT ?_)));refine wpAny_nsSet1 (s:={s with toks:=s.toks+1}) I.ns λh' k d=>?_;let⟨V,O,B,l,n,p⟩:=k.count (afS.cons name v F);refine gT (wpAny_lookBehind l (by rw[n];exact pastItsLine_dict (aas p (by rw[aaA];omega))) ?_);exact Io (h _ ⟨(d.2 _ (ab1 I.ne)).trans I.obj,k,I.ne⟩ d)
theorem Di{R:Result->AD->Prop}{vs:List mT}(X:K.In s.heap)(k:af8 K C=true)
  (l:abo K (.ref C) "__init__" = some (some (.ref f))) (n:PySem.W.typeIn K (.ref f)=some (.type "function"))
  (h:adV (model prog w) (A.under (.builtin "type.__call__" ⟨.ref C::vs,kw⟩)) (.call (.ref f) ⟨.ref (s.heap.objs.size+1)::vs,kw⟩) (PySem.W.InitBack (s.heap.objs.size+1) R)
   {s with heap:=(s.heap.push abK).push (acs C s.heap.objs.size)}) :
  adV (model prog w) A (.call (.ref C) ⟨vs,kw⟩) R s:=by
 let⟨p,g,d,t,os⟩:=s;exact PySem.W.make_core (PySem.W.makes_of X k) (PySem.W.looks_findIn X l) (λself=>PySem.W.bind_fn X self n) (.inl rfl) h
end
def putF(f:Str)(v:V):List (Str×V)->List (Str×V)
 |[]=>[(f,v)]
 |(g,x)::r=>if g=f then(g,v)::r else(g,x)::putF f v r
theorem n9(f g:Str)(v:V):∀fs:List (Str×V),(putF f v fs).lookup g=if g=f then some v else fs.lookup g
 |[]=>by
  show aez g [(f,v)]=_
  by_cases h:g=f
  .simp_all
  .have hb:=beq_eq_false_iff_ne.mpr h;simp only[aez,hb,if_neg h]
 | (k,x)::r=>by
  have d:=n9 f g v r;rw[show putF f v ((k,x)::r)=(if k=f then(k,v)::r else(k,x)::putF f v r)from rfl]
  by_cases hk:k=f
  .rw[if_pos hk]
   by_cases h:g=k
   .simp_all
   .have hb:(g==k)=false:=beq_eq_false_iff_ne.mpr h;simp only[aez,hb,if_neg (λe:g=f=>h (e.trans hk.symm))]
  .rw[if_neg hk]
   by_cases h:g=k
   .simp_all
   .have hb:=beq_eq_false_iff_ne.mpr h;simp only[aez,hb];exact d
theorem nq(f:Str)(v:V):∀fs:List (Str×V),f∈(putF f v fs).map (·.1)/\∀g,g∈fs.map (·.1)->g∈(putF f v fs).map (·.1)
 |[]=>⟨by simp[putF],λg h=>by simp at h⟩
 | (k,x)::r=>by
  let⟨l,d⟩:=nq f v r;rw[show putF f v ((k,x)::r)=(if k=f then(k,v)::r else(k,x)::putF f v r)from rfl]
  by_cases hk:k=f
  .rw[if_pos hk];subst hk;exact⟨by simp,λg h=>by simpa using h⟩
  .rw[if_neg hk];refine⟨?_,λg h=>?_⟩
   .rw[aak];exact LD _ l
   .rw[aak]at h⊢;rcases aaf.mp h with e|e
    .exact aaf.mpr (.inl e)
    .exact LD _ (d g e)
theorem lC(f:Str)(v:V):∀fs:List (Str×V),(putF f v fs).length≤fs.length+1
 |[]=>by simp[putF]
 |(k,x)::r=>by
  have d:=lC f v r;rw[show putF f v ((k,x)::r)=(if k=f then(k,v)::r else(k,x)::putF f v r)from rfl]
  by_cases hk:k=f
  .rw[if_pos hk,aaA,aaA];omega
  .rw[if_neg hk,aaA,aaA];omega
theorem RelO.some_of{o:Option mT}(r:RelO (some v) o):∃u,o=some u/\RelV v u:=by
 cases o with
 |none=>exact(r).elim
 |some u=>exact⟨u,rfl,r⟩
theorem RelO.none_of{o:Option mT}(r:RelO none o):o=none:=by
 cases o with
 |none=>rfl
 |some u=>exact(r).elim
theorem BG(r:RelV v u):ahd u=true:=by
 cases v with
 |non=>cases (r);rfl
 |bl b=>cases (r);rfl
 |int i=>let⟨t,e⟩:=(r);cases e;rfl
 |str x=>let⟨t,e⟩:=(r);cases e;rfl
 |byt b=>let⟨t,e⟩:=(r);cases e;rfl
 |flt b=>let⟨t,e⟩:=(r);cases e;rfl
 |ref a=>cases (r);rfl
 |ty n=>cases (r);rfl
section
variable {P:aaF}{w:World}{H c:Hp}{h h':aaW}{a C dx:Addr}{fs b:List (Str×V)}
theorem uD(hok:HOk P w H h)(e:H a=some (.ins C dx fs)):∃mA,ObjM h a dx C mA/\(∀f,RelO (fs.lookup f) (mA f))/\afS mA (fs.map (·.1))/\fs.length≤1000/\H dx=some (.own a):=by
 let⟨d,z,ne,k,mA,n,r,q⟩:=(show ObjOk P w H h a (.ins C dx fs)from hok a _ e);exact⟨mA,⟨k,n,ne⟩,r,q,z,d⟩
end
structure Cls(K:aad)(C:Addr):Prop where
 pg:acV K C aeW=true
 hd:adk K C=true
 po:ad6 K C=true
 sa:abo K (.ref C) "__setattr__" = some (some (.builtin "object.__setattr__"))
def Cls.get(c:Cls K C)(f:Str):acV K C f=true:=c.pg
def NoAttr(K:aad)(C:Addr)(f:Str):Prop:=abo K (.ref C) f=some none
def NoAttr.taker{f:Str}(n:NoAttr K C f):af7 K C f=some none:=by
 unfold af7;rw[show abo K (.ref C) f=some none from n];rfl
structure Meth(K:aad)(C:Addr)(m:Str)(f:Addr):Prop where
 at_:abo K (.ref C) m=some (some (.ref f))
 fn:aeR K (.ref f)=true
 kp:abM K (.ref f)=true
section
variable {X:Cx}{p:List (Addr×Obj)}{d:St}{H:Hp}{s:AD}{a C dx:Addr}{fs:List (Str×V)}{f:Str}{v:V}{A:aa4}{E:mT->AD->Prop}
theorem x9{b:Bool}(I:Inv X p d H s)(e:H a=some (.ins C dx fs))(c:Cls X.K C)(n:NoAttr X.K C f)(l:fs.lookup f=some v)
  (h:∀u s',Inv X p d H s'->RelV v u->Q u s'):wpAny (model X.prog X.w) A (getAttr (.ref a) f b) Q E s:=by
 let⟨mA,O,r,_,_,_⟩:=uD I.hok e;let⟨u,m,k⟩:=RelO.some_of (v:=v) (o:=mA f) (by rw[<-l];exact r f);exact JD I.kIn O (c.get f) c.hd n m (BG k) (h u _ (I.tok _) k)
theorem o5{m:Str}{g:Addr}{Q:mT×List mT->AD->Prop}(I:Inv X p d H s)(e:H a=some (.ins C dx fs))(c:Cls X.K C)(k:Meth X.K C m g)(l:fs.lookup m=none)
  (h:Q (.ref g,[.ref a]) s):wpAny (model X.prog X.w) A (aen (.ref a) m pl) Q E s:=by
 let⟨mA,O,r,_,_,_⟩:=uD I.hok e;have n:mA m=none:=RelO.none_of (by rw[<-l];exact r m);exact C7 I.kIn O (c.get m) k.at_ k.fn n h
theorem x6{y:V}{Q:Unit->AD->Prop}(I:Inv X p d H s)(e:H a=some (.ins C dx fs))(c:Cls X.K C)(n:NoAttr X.K C f)(L:fs.length<1000)(G:RelV y u)
  (h:∀s',Inv X p d (upd H a (.ins C dx (putF f y fs))) s'->Q () s'):wpAny (model X.prog X.w) A (setAttr (.ref a) f u) Q E s:=by
 let⟨mA,O,r,l,_,m⟩:=uD I.hok e;have D:(fs.map (·.1)).length≤aai:=by rw[iO,aae];omega
 refine K7 I.kIn O c.sa c.po n.taker c.hd l D λB k F=>h _ ?_;have hd:∃o,B.get? dx=some o:=let ⟨o,_,_,e',_⟩:=k.ns;⟨o,e'⟩;refine I.write (x:=a) (e:=dx) (by rw[e];exact acz) (.inr m) (λb q t z=>(F.2 b t).trans z) hd ?_;refine⟨by rw[av O.ne];exact m,?_,O.ne,k.obj,_,k.ns,λg=>?_,λg J=>?_⟩
 .have:=lC f y fs;omega
 .show RelO ((putF f y fs).lookup g) (if g=f then some u else mA g);rw[n9]
  by_cases q:g=f
  .rw[if_pos q,if_pos q];exact G
  .rw[if_neg q,if_neg q];exact r g
 .by_cases q:g=f
  .rw[q];exact(nq f y fs).1
  .refine(nq f y fs).2 g (l g λz=>J ?_);show(if g=f then some u else mA g)=none;rw[if_neg q];exact z
theorem Inv.made(I:Inv X p d H s):Inv X p d (upd (upd H s.heap.objs.size (.own (s.heap.objs.size+1))) (s.heap.objs.size+1) (.ins C s.heap.objs.size []))
  {s with heap:=(s.heap.push abK).push (acs C s.heap.objs.size)}:=by
 have k:(s.heap.push abK).get? s.heap.objs.size=some abK:=aan s.heap rfl;have z:((s.heap.push abK).push (acs C s.heap.objs.size)).get? (s.heap.objs.size+1)=some (acs C s.heap.objs.size):=by
  have:=aan (s.heap.push abK) (o:=acs C s.heap.objs.size) rfl;rwa[abC]at this
 have n:(s.heap.push abK).Ns s.heap.objs.size (λ_=>none):=⟨abK,#[],_,k,rfl,(λe t=>absurd t (by simp)),λ_=>rfl⟩;have m:=I.laid (a:=s.heap.objs.size) (o:=.own (s.heap.objs.size+1)) (h':=s.heap.push abK) (t':=s.toks) (λb u q=>Ld _ q) (Mt _) ⟨_,k⟩;refine m.laid (a:=s.heap.objs.size+1) (o:=.ins C s.heap.objs.size []) (t':=s.toks) (λb u q=>Ld _ q) (afV (abC _ _)) ?_;have ne:s.heap.objs.size≠s.heap.objs.size+1:=aa1 (aby _);refine⟨by rw[av ne,ay],abm _,ne,z,λ_=>none,(aaW.Ns1.of_empty n).at λo q=>Ld _ q,λ_=>acz,λy l=>absurd rfl l⟩
def MD{prog:aaF}{env:Env}{f:Str}{s:AD}(l:abr e f env (eval e env)=eval e env)
  (h:wpAny (model prog w) A (eval e env) (λo k=>wpAny (model prog w) A (getAttr o f true) Q E k) E s):wpAny (model prog w) A (eval (.Attribute e f pos) env) Q E s:=
 Attribute_any_ h (by rw[arm_eval_Attribute,l])
end
def tFld(K:aad)(ta:TE)(f:Str):TE:=λσ H Q=>ta σ H λx d=>∃a C dx fs v,x = .ref a/\d a=some (.ins C dx fs)/\Cls K C/\NoAttr K C f/\fs.lookup f=some v/\Q v d
def sFld(K:aad)(ta t:TE)(f:Str):TS:=λD σ H=>t σ H λy k=>ta σ k λx d=>∃a C dx fs,x = .ref a/\d a=some (.ins C dx fs)/\Cls K C/\NoAttr K C f/\fs.length<1000/\
 D.nx σ (upd d a (.ins C dx (putF f y fs)))
def InOp(X:Cx)(op:aeZ)(d:V->V->Hp->VK->Prop):Prop:=
 ∀(pins:List (Addr×Obj)) (s:AD) (σ:St) (H:Hp) (x y:V) (u v:mT) (Q:VK),Inv X pins σ H s->RelV x u->RelV y v->d x y H Q->wpAny (model X.prog X.w) X.A (inplaceOp op u v) (EP X pins σ Q) X.xe s
section
variable {X:Cx}{o e b:Expr}{f:Str}{pos p d:Pos}{ta g:TE}
theorem TW(y:PE X e ta)(k:abr e f X.env (eval e X.env)=eval e X.env):PE X (.Attribute e f pos) (tFld X.K ta f):=by
 intro pins s σ H Q I h;refine MD k (thn (y pins s σ H _ I h) λu s1 ⟨x,z,t,F,a,C,dx,fs,v,ex,B,c,n,l,q⟩=>?_);subst ex;obtain rfl:u=abi a:=F;exact x9 t B c n l λG s2 m D=>⟨v,z,m,D,q⟩
theorem Su(t:PE X o ta)(k:PE X b g)(F:abA b (some (.Attribute o f p)) pos.line X.env=pure false):PS X (.Assign [.Attribute o f p] b pos) (sFld X.K ta g f):=by
 intro pins s σ H D I h;refine plainObj_wpAny_Assign_Attribute (thn (k pins s σ H _ I h) λu s1 ⟨y,L,B,J,q⟩=>thn (t pins s1 σ L _ B q) λm s2 ⟨x,U,z,S,a,C,dx,fs,ex,O,c,n,l,R⟩=>?_) F;subst ex;obtain rfl:m=abi a:=S;exact x6 z O c n l J λT G=>⟨σ,_,G,R⟩
def rAdd:V->V->Hp->VK->Prop:=λx y H Q=>∃i j,x = .int i/\y = .int j/\Q (.int (i+j)) H
def rSub:V->V->Hp->VK->Prop:=λx y H Q=>∃i j,x = .int i/\y = .int j/\Q (.int (i-j)) H
theorem SF:InOp X .Add rAdd:=by
 intro pins s σ H x y u v Q I k l ⟨i,j,rfl,rfl,q⟩;let⟨t,rfl⟩:=(k);let⟨t',rfl⟩:=(l);exact PyProof.Rows.iadd_int ⟨.int _,H,I.tok _,⟨_,rfl⟩,q⟩
theorem RH:InOp X .Sub rSub:=by
 intro pins s σ H x y u v Q I k l ⟨i,j,rfl,rfl,q⟩;let⟨t,rfl⟩:=(show ∃t,u=agx i t from k);let⟨t',rfl⟩:=(show ∃t',v=agx j t' from l);exact PyProof.Rows.isub_int ⟨.int (i-j),H,I.tok _,⟨_,rfl⟩,q⟩
end
structure Room(k:Nat)(A:aa4):Prop where
 hd:A.handled=none
 dp:A.depth+3*k+5<recursionLimit
 un:A.units+16*k+200<cLine
 gd:A.guards=some []
theorem Room.mono{k:Nat}(r:Room k A)(h:j≤k):Room j A:=⟨r.hd,by have:=r.dp;omega,by have:=r.un;omega,r.gd⟩
theorem Room.deeper{k:Nat}(r:Room (k+1) A)(env:Env):Room k (A.deeper env):=
 ⟨r.hd,by have:=r.dp;show A.depth+1+3*k+5<_;omega,by have:=r.un;show A.units+3+16*k+200<_;omega,r.gd⟩
def xR:(A.under (.builtin "type.__call__" ⟨.ref C::us,kw⟩)).depth=A.depth+1:=rfl
def yg:(A.under (.builtin "type.__call__" ⟨.ref C::us,kw⟩)).units=A.units+1:=rfl
def uu:(A.under (.builtin "type.__call__" ⟨.ref C::us,kw⟩)).guards=A.guards:=rfl
theorem Room.make{k:Nat}(r:Room (k+1) A)(C:Addr)(us:List mT)(kw:List (Str×mT)):Room k (A.under (.builtin "type.__call__" ⟨.ref C::us,kw⟩)):=
 ⟨r.hd,by have:=r.dp;rw[xR];omega,by have:=r.un;rw[yg];omega,by rw[uu];exact r.gd⟩
theorem Room.depth{k:Nat}(r:Room k A):A.depth<recursionLimit:=by have:=r.dp;omega
theorem Room.units{k:Nat}(r:Room k A):A.units+64<cLine:=by have:=r.un;omega
def tNil:TA:=λ_ H Q=>Q [] H
def VI(ta:TE)(tr:TA):TA:=λσ H Q=>ta σ H λx l=>tr σ l λk d=>Q (x::k) d
section
variable {X:Cx}{e:Expr}{es:List Expr}{a:TE}{t:TA}{pos:Pos}
theorem GQ:PA X [] tNil:=λ_ _ _ _ H Q I h=>ag2 ⟨[],H,I,.nil,h⟩
theorem uX(l:PE X e a)(d:PA X es t)(y:aac (e::es) X.env=(false,eval e X.env)::aac es X.env:=by rfl):PA X (e::es) (VI a t):=by
 intro pos pins s σ H Q I h;rw[y];show wpAny _ _ (spliced ((false,eval e X.env)::abk pos _)) _ _ s;refine agQ (thn (l pins s σ H _ I h) λu s1 ⟨x,m,p,r1,z⟩=>?_);exact thn (d pos pins s1 σ m _ p z)<|by intro us s2 ⟨k,B,n,D,q⟩;exact⟨x::k,B,n,.cons r1 D,q⟩
def tTup(t:TA):TE:=λσ H Q=>t σ H λd k=>d.length≤aai/\∀p,k p=none->Q (.ref p) (upd k p (.tup d))
def tLst(t:TA):TE:=λσ H Q=>t σ H λd k=>d.length≤aai/\∀p,k p=none->Q (.ref p) (upd k p (.lst d))
theorem Qr{x1}(h:PA X es t):PE X (.Tuple es x1 pos) (tTup t):=by
 intro pins s σ H Q I k;refine wpAny_Tuple_spliced (thn (h pos pins s σ H _ I k) λus s1 ⟨n,l,d,r,z,q⟩=>⟨by rw[<-r.length];exact z,?_⟩);have m:=d.hok.fresh (Mt _);refine⟨.ref s1.heap.objs.size,upd l s1.heap.objs.size _,d.laid (t':=s1.toks) (λb u e=>Ld _ e) (Mt _) ?_,rfl,q _ m⟩;exact⟨z,us,r,⟨_,aan _ rfl,rfl,rfl,_,rfl⟩⟩
theorem Sv(h:PA X es t):PE X (.List es pos) (tLst t):=by
 intro pins s σ H Q I k;refine wpAny_List_spliced (thn (h pos pins s σ H _ I k) λus s1 ⟨n,l,d,r,z,q⟩=>⟨by rw[<-r.length];exact z,?_⟩);have m:=d.hok.fresh (Mt _);refine⟨.ref s1.heap.objs.size,upd l s1.heap.objs.size _,d.laid (t':=s1.toks) (λb u e=>Ld _ e) (Mt _) ?_,rfl,q _ m⟩;exact⟨z,us,0,r,aan _ rfl⟩
end
abbrev Sp:=List V->Hp->VK->XK->Prop
abbrev CXT:=List Env->Hp->AD->XK->mT->AD->Prop
structure Env0(P:aaF)(w:World)(K:aad)(mg:Str->Option mT)(base:aaW)(A:aa4)(outer:List Env)(s:AD)(H:Hp):Prop where
 frames:A.frames=some outer
 mod:Mod K mg base
 bs:∀b o,base.get? b=some o->s.heap.get? b=some o/\H b=none
 bsz:base.objs.size≤s.heap.objs.size
 funs:s.heap.FunFrames base outer
 frf:∀b∈frs outer,H b=none
 hok:HOk P w H s.heap
 bare:afj s.gens
def CE(outer:List Env)(P:aaF)(w:World)(H:Hp)(s:AD)(Q:VK)(u:mT)(s':AD):Prop:=
 ∃v d,s'.os=s.os/\afj s'.gens/\Un (frs outer) [] H d s.heap s'.heap/\HOk P w d s'.heap/\RelV v u/\Q v d
def CR(CX:CXT)(outer:List Env)(P:aaF)(w:World)(H:Hp)(s:AD)(Q:VK)(E:XK)(r:Result)(s':AD):Prop:=
 match r with
 | .ok (.ret u)=>CE outer P w H s Q u s'
 | .ok _=>False
 | .error e=>CX outer H s E e s'
structure FnOk(P:aaF)(w:World)(K:aad)(mg:Str->Option mT)(base:aaW)(CX:CXT)(k:Nat)(f:Addr)(fd:ab3)(ps:List Str)(sp:Sp):Prop where
 len:∀vs H Q E,sp vs H Q E->vs.length=ps.length
 run:∀(A:aa4) (outer:List Env) (s:AD) (H:Hp) (args:Args) (us:List mT) (vs:List V) (Q:VK) (E:XK),Room k A->Env0 P w K mg base A outer s H->ag3 s fd args (ps.zip us)->Vals vs us->sp vs H Q E ->
  adV (model P w) A (.call (.ref f) args) (CR CX outer P w H s Q E) s
def Env0.make{base:aaW}{s:AD}(e:Env0 P w K mg base A outer s H)(C:Addr)(us:List mT)(kw:List (Str×mT)) :
  Env0 P w K mg base (A.under (.builtin "type.__call__" ⟨.ref C::us,kw⟩)) outer s H:=⟨by first|exact e.frames|(simpa[ pushEnvs]),e.mod,e.bs,e.bsz,e.funs,e.frf,e.hok,e.bare⟩
section
variable {X:Cx}{p:List (Addr×Obj)}{a:St}{H:Hp}{s s':AD}
def Inv.env0(I:Inv X p a H s):Env0 X.prog X.w X.K X.mg X.base X.A X.stack s H:=
 ⟨I.ok.frames,I.ok.mod,I.bs,aas I.ok.bsz I.sz,I.stack,I.stkFree,I.hok,I.bare⟩
theorem Inv.after{Q:VK}(I:Inv X p a H s)(h:CE X.stack X.prog X.w H s Q u s'):EP X p a Q u s':=by
 let⟨v,l,os,bare,un,hok,r,q⟩:=h;let⟨m,g,d,t,k⟩:=s';obtain rfl:k=s.os:=os;exact⟨v,l,I.call (h':=m) (g':=g) (d':=d) (t':=t) un hok bare (λb z=>absurd z (by simp)),r,q⟩
end
def QG(sp:Sp)(d:List V)(E:XK)(t:TA):TE:=λσ H Q=>t σ H λvs k=>sp (vs++d) k Q E
def J7(C:Addr)(m:Str)(sp:Sp)(d:List V)(E:XK)(ta:TE)(t:TA):TE:=λσ H Q=>ta σ H λx k=>∃a dx fs,x = .ref a/\k a=some (.ins C dx fs)/\fs.lookup m=none/\
 t σ k λvs l=>sp (x::(vs++d)) l Q E
def QH(C:Addr)(sp:Sp)(k:List V)(E:XK)(t:TA):TE:=λσ H Q=>t σ H λvs d=>∀x dx,d x=none->d dx=none->dx≠x ->
 sp (.ref x::(vs++k)) (upd (upd d dx (.own x)) x (.ins C dx [])) (λv l=>v = .non/\Q (.ref x) l) E
def Binds(K:aad)(fd:ab3)(ps:List Str)(ds:List mT):Prop:=
 ∀(s:AD) (us:List mT),K.In s.heap->(us++ds).length=ps.length->ag3 s fd ⟨us,[]⟩ (ps.zip (us++ds))
def Binds.all{fd:ab3}(h:∀us:List mT,us.length=ps.length->adG fd ⟨us,[]⟩=pure (ps.zip us)):Binds K fd ps []:=λs us _ d=>by
 rw[aaN]at d⊢;exact .of_eq (h us d)
def j9(CX:CXT)(X:Cx)(E:XK):Prop:=∀(pins:List (Addr×Obj)) (σ:St) (H:Hp) (s:AD) (e:mT) (d:AD),Inv X pins σ H s->CX X.stack H s E e d->X.xe e d
section
variable {X:Cx}{CX:CXT}{k:Nat}{f C:Addr}{fd:ab3}{ps:List Str}{sp:Sp}{dvs:List V}{ds:List mT}{E:XK}{x m:Str}{p pos apos:Pos}{e o:Expr}{es:List Expr}{ta:TE}{t:TA}
theorem yX{s:AD}{Q:VK}(F:FnOk X.prog X.w X.K X.mg X.base CX k f fd ps sp)(z:Room k X.A)(y:Binds X.K fd ps ds)(hd:Vals dvs ds)(q:j9 CX X E)
  (I:Inv X pins σ H s) (r:Vals vs us) (h:sp (vs++dvs) H Q E):wpAny (model X.prog X.w) X.A (call (.ref f) us) (EP X pins σ Q) X.xe s:=by
 have l:=r.append hd;have n:(us++ds).length=ps.length:=by rw[<-l.length];exact F.len _ _ _ _ h
 refine wpAny_call (ad7 (F.run X.A X.stack s H _ _ _ Q E z I.env0 (y s us I.kIn n) l h) λr B d=>?_)
 cases r with
 |error e=>exact q pins σ H s e B I d
 |ok fl=>
  cases fl with
  |ret u=>exact I.after d
  |next=>exact act d
  |brk=>exact act d
  |cont=>exact act d
theorem M9(F:FnOk X.prog X.w X.K X.mg X.base CX k f fd ps sp)(J:Room k X.A)(L:Gl X x)(G:X.mg x=some (.ref f))(hk:abM X.K (.ref f)=true)(z:Binds X.K fd ps ds)(hd:Vals dvs ds)(y:j9 CX X E)
  (B:PA X (e::es) t) (d:(x==("__debug__" : Str))=false:=by decide) (D:aac (e::es) X.env=(false,eval e X.env)::aac es X.env:=by rfl) (l:(abk pos (aac es X.env)).any (·.1)=false:=by rfl) :
  PE X (.Call (.Name x p) (e::es) [] pos) (QG sp dvs E t):=by
 intro pins s σ H Q I h;refine acA (vo I L G ?_ d);refine ae2 I.ok.mod.kin hk (thn (B pos pins s σ H _ I h) λus s1 ⟨vs,O,n,r,q⟩=>⟨n.kIn,?_⟩) D l;exact yX F J z hd y n r q
theorem Oi(O:PE X o ta)(c:Cls X.K C)(B:Meth X.K C m f)(F:FnOk X.prog X.w X.K X.mg X.base CX k f fd ps sp)(R:Room k X.A)(G:Binds X.K fd ps ds)(hd:Vals dvs ds)(D:j9 CX X E)(J:PA X (e::es) t)
  (d:aac (e::es) X.env=(false,eval e X.env)::aac es X.env:=by rfl) (n:(abk pos (aac es X.env)).any (·.1)=false:=by rfl)
  (L:eval (.Call (.Attribute o m apos) (e::es) [] pos) X.env=(do
   let ov <- eval o X.env
   acH apos.atName
   let (f,first) <- adr [ov] (aen ov m pl)
   ago pos f first (abk pos (aac (e::es) X.env)) (acW pos (abV [] X.env))):=by rfl) :
  PE X (.Call (.Attribute o m apos) (e::es) [] pos) (J7 C m sp dvs E ta t):=by
 intro pins s σ H Q I h;refine age (pl:=pl) (thn (O pins s σ H _ I h) λu s1 ⟨x,S,z,V,a,dx,fs,ex,T,l,q⟩=>?_) L;subst ex;obtain rfl:u=abi a:=V;refine o5 z T c B l ?_;refine ae2 (first:=[.ref a]) (h₀:=X.base) I.ok.mod.kin B.kp (thn (J pos pins s1 σ S _ z q) λus s2 ⟨vs,W,y,r,U⟩=>⟨y.kIn,?_⟩) d n;exact yX (us:=.ref a::us) (vs:=.ref a::vs) F R G hd D y (.cons rfl r) U
theorem DQ(D:PE X o ta)(c:Cls X.K C)(n:Meth X.K C m f)(F:FnOk X.prog X.w X.K X.mg X.base CX k f fd ps sp)(G:Room k X.A)(z:Binds X.K fd ps ds)(hd:Vals dvs ds)(y:j9 CX X E)
  (B:eval (.Call (.Attribute o m apos) [] [] pos) X.env=(do
   let ov <- eval o X.env
   acH apos.atName
   let (f,first) <- adr [ov] (aen ov m pl)
   ago pos f first (abk pos (aac [] X.env)) (acW pos (abV [] X.env))):=by rfl) :
  PE X (.Call (.Attribute o m apos) [] [] pos) (J7 C m sp dvs E ta tNil):=by
 intro pins s σ H Q I h;refine age (pl:=pl) (thn (D pins s σ H _ I h) λu s1 ⟨x,O,d,L,a,dx,fs,ex,J,l,q⟩=>?_) B;subst ex;obtain rfl:u=abi a:=L;refine o5 d J c n l ?_;exact PySem.W.callWith_K0 (first:=[.ref a]) d.kIn n.kp (yX (us:=[.ref a]) (vs:=[.ref a]) F G z hd y d (.cons rfl .nil) q)
structure Mk(K:aad)(C f:Addr):Prop where
 makes:af8 K C=true
 init:abo K (.ref C) "__init__" = some (some (.ref f))
 fn:aeR K (.ref f)=true
 kp:abM K (.ref C)=true
theorem DF{s:AD}{Q:VK}(M:Mk X.K C f)(F:FnOk X.prog X.w X.K X.mg X.base CX k f fd ps sp)(R:Room (k+1) X.A)(z:Binds X.K fd ps ds)(hd:Vals dvs ds)
  (y:j9 CX X E) (I:Inv X pins σ H s) (r:Vals vs us)
  (h:∀x dx,H x=none->H dx=none->dx≠x->sp (.ref x::(vs++dvs)) (upd (upd H dx (.own x)) x (.ins C dx [])) (λv J=>v = .non/\Q (.ref x) J) E) :
  wpAny (model X.prog X.w) X.A (call (.ref C) us) (EP X pins σ Q) X.xe s:=by
 have n:=h (s.heap.objs.size+1) s.heap.objs.size (I.hok.fresh (afl _)) (I.hok.fresh (Mt _)) (aa1 (aby _));have l:=Inv.made (C:=C) I;have q:Vals (V.ref (s.heap.objs.size+1)::(vs++dvs)) (abi (s.heap.objs.size+1)::(us++ds)):=.cons rfl (r.append hd);have T:(abi (s.heap.objs.size+1)::us++ds).length=ps.length:=by
  have e:=q.length;rw[F.len _ _ _ _ n]at e;exact e.symm
 refine wpAny_call (Di (f:=f) I.kIn M.makes M.init (beq_iff_eq.mp M.fn) (ad7 (F.run _ X.stack _ _ ⟨abi (s.heap.objs.size+1)::us,[]⟩ (abi (s.heap.objs.size+1)::(us++ds)) _ _ E (R.make C us [])
  (l.env0.make C us []) (z _ (abi (s.heap.objs.size+1)::us) l.kIn T) q n) λr L d=>?_))
 cases r with
 |error e=>exact y pins σ _ _ e L l d
 | ok fl=>
  cases fl with
  |ret u=>
   let⟨v,D,G,O,B,S⟩:=l.after d;subst B;exact⟨O,⟨V.ref (s.heap.objs.size+1),D,G,rfl,S⟩⟩
  |next=>exact act d
  |brk=>exact act d
  |cont=>exact act d
theorem KO(M:Mk X.K C f)(F:FnOk X.prog X.w X.K X.mg X.base CX k f fd ps sp)(J:Room (k+1) X.A)(L:Gl X x)(G:X.mg x=some (.ref C))(z:Binds X.K fd ps ds)(hd:Vals dvs ds)(y:j9 CX X E)
  (B:PA X (e::es) t) (d:(x==("__debug__" : Str))=false:=by decide) (D:aac (e::es) X.env=(false,eval e X.env)::aac es X.env:=by rfl) (l:(abk pos (aac es X.env)).any (·.1)=false:=by rfl) :
  PE X (.Call (.Name x p) (e::es) [] pos) (QH C sp dvs E t):=by
 intro pins s σ H Q I h;refine acA (vo I L G ?_ d);refine ae2 (h₀:=X.base) I.ok.mod.kin M.kp (thn (B pos pins s σ H _ I h) λus s1 ⟨vs,O,n,r,q⟩=>⟨n.kIn,?_⟩) D l;exact DF M F J z hd y n r q
end
structure aq(N P:List Str)(sc:Scope):Prop where
 kind:sc.kind = .function
 co:sc.isCoroutine=false
 gen:sc.isGenerator=false
 nd:N.Nodup
 pre:N.take P.length=P
 par:∀x∈P,sc.names.lookup x=some .local\/sc.names.lookup x=some .cell
 nofree:∀y∈sc.names,y.2≠.free
theorem sy{k:Str->Option aeA}{x:Str}:∀{binds:List (Str×mT)}{m:Str->Option mT},(∀v,(x,v)∉binds)->bindL k binds m x=m x
 |[],_,_=>rfl
 | (n,v)::r,m,h=>by
  unfold bindL;rw[sy λw d=>h w (LD _ d)];split
  .have:x≠n:=by rintro rfl;exact h v aaa
   simp[this]
  .rfl
theorem r9{k:Str->Option aeA}{x:Str}:∀{binds:List (Str×mT)}{m:Str->Option mT},(∀v,(x,v)∉binds)->bindC k binds m x=m x
 |[],_,_=>rfl
 | (n,v)::r,m,h=>by
  unfold bindC;rw[r9 λw d=>h w (LD _ d)];split
  .rfl
  .have:x≠n:=by rintro rfl;exact h v aaa
   simp[this]
theorem sd{k:Str->Option aeA}{x:Str}{v:mT}:∀{P:List Str}{vs:List mT}{i:Nat}{m:Str->Option mT},P.Nodup->P[i]?=some x->vs[i]?=some v->k x=some .local ->
  bindL k (P.zip vs) m x=some v
 |[],_,_,_,_,h,_,_=>by simp at h
 |_::_,[],_,_,_,_,h,_=>by simp at h
 |p::P,w::vs,0,m,nd,h1,h2,hk=>by
  simp at h1 h2;subst h1;subst h2;show bindL k ((p,w)::P.zip vs) m p=_;unfold bindL;rw[sy λv d=>(aba.mp nd).1 (af9 d).1,if_pos hk];simp
 |p::P,w::vs,i+1,m,nd,h1,h2,hk=>by
  unfold bindL;exact sd (aba.mp nd).2 ‹_› ‹_› hk
theorem rH{k:Str->Option aeA}{x:Str}{v:mT}:∀{P:List Str}{vs:List mT}{i:Nat}{m:Str->Option mT},P.Nodup->P[i]?=some x->vs[i]?=some v->k x≠some .local ->
  bindC k (P.zip vs) m x=some v
 |[],_,_,_,_,h,_,_=>by simp at h
 |_::_,[],_,_,_,_,h,_=>by simp at h
 |p::P,w::vs,0,m,nd,h1,h2,hk=>by
  simp at h1 h2;subst h1;subst h2;show bindC k (_::P.zip vs) m p=_;unfold bindC;rw[r9 λv d=>(aba.mp nd).1 (af9 d).1,if_neg hk];simp
 |p::P,w::vs,i+1,m,nd,h1,h2,hk=>by
  unfold bindC;exact rH (aba.mp nd).2 ‹_› ‹_› hk
def start(N:List Str)(vs:List V):St:=vs.map some++aal (N.length-vs.length) none
def cxOf(CX:CXT)(P:aaF)(w:World)(K:aad)(mg:Str->Option mT)(base:aaW)(N:List Str)(q:Str)(scope:Scope)(f:Addr)(k:mT)(A:aa4)(outer:List Env)(s:AD)(H:Hp)(E:XK):Cx where
 prog:=P
 w:=w
 K:=K
 mg:=mg
 base:=base
 A:=A.deeper (ad8 q scope s.heap.objs.size f k)
 N:=N
 s₀:=s
 H₀:=H
 env:=ad8 q scope s.heap.objs.size f k
 outer:=outer
 stack:=ad8 q scope s.heap.objs.size f k::outer
 ex:=[]
 calm:=true
 fn:=λ_=>true
 pn:=[]
 xe:=λe m=>wpAny (model P w) (A.deeper (ad8 q scope s.heap.objs.size f k)) (leaving (ad8 q scope s.heap.objs.size f k) e) (λ_ d=>CX outer H s E e d) (λl d=>CX outer H s E l d) m
def v8{sc:Scope}{n:Nat}(h:sc.names.lookup x=some .cell):∃c,(cellsFrom n sc.names []).lookup x=some c:=by
 have q:=afW sc.names n [] (.inl h);exact afu.mp q
theorem Bi{CX:CXT}{base:aaW}{d:Str}{f:Addr}{J:mT}{s s1:AD}{E:XK}
  (S:aq N ps scope) (hd:A.handled=none) (m:Env0 P w K mg base A outer s H) (V:vs.length=ps.length) (r:Vals vs us)
  (x:InCallC s s.heap.objs.size (bindL (ad8 d scope s.heap.objs.size f J).kindOf (ps.zip us) λ_=>none) (cellsFrom (s.heap.objs.size+1) scope.names []) (bindC (ad8 d scope s.heap.objs.size f J).kindOf (ps.zip us) λ_=>none) s1) :
  Inv (cxOf CX P w K mg base N d scope f J A outer s H E) [] (start N vs) H s1:=by
 have T:ps.length≤N.length:=by have:=congrArg adn S.pre;rw[aaw]at this;omega
 let⟨I,W,rfl,hk⟩:=x.done;have t:∀b:Addr,b∉(cxOf CX P w K mg base N d scope f J A outer s H E).ex:=λb z=>absurd (show b∈([]:List Addr)from z) (by simp);refine⟨⟨m.mod,S.kind,rfl,rfl,Mt _,λy z c I l=>?_,λy B=>?_,λy c _ h=>?_,λ_=>hd,aa4.frames_deeper m.frames,.inr ⟨rfl,rfl⟩,λb z=>absurd z (t b),m.bs,m.bsz,λb _ _=>t b,λb z=>absurd z (t b),m.funs,m.frf⟩,
  rfl,m.bare,Un.kept hk,⟨_,x.toInCall.ns,λi y v I l U=>?_⟩,λy c h=>⟨_,x.cell y c h⟩,m.hok.fresh (Mt _),λy c h=>?_,λp F=>absurd (show p∈([]:List (Addr×Obj))from F) (by simp),m.hok.kept hk,?_⟩
 .exact name_of_addr x.apart (acu I) (acu l)
 .rcases B with B|B
  .exact v8 B
  .exact absurd rfl (S.nofree _ (acu B))
 .exact abP (x.above y c (acu h))
 .have G:i<vs.length:=by
   unfold start at l
   by_cases G:i<vs.length
   .exact G
   .rw[aaL (by simpa using G)]at l;rw[ad2]at l
    split at l<;>cases l
  have O:vs[i]?=some v:=by
   unfold start at l;rw[aaC (by simpa using G),aah]at l
   cases e:vs[i]? with
   |none=>rw[e]at l;cases l
   |some a=>rw[e]at l;cases l;rfl
  let⟨u,L,R⟩:=r.get O;have F:ps[i]?=some y:=by
   rw[<-S.pre,List.getElem?_take_of_lt (by omega)];exact I
  have D:ps.Nodup:=by rw[<-S.pre];exact S.nd.sublist (List.take_sublist _ _)
  refine⟨u,R,?_⟩;rcases S.par y (GT F)with k|k
  .exact .inl ⟨k,sd D F L k⟩
  .obtain⟨c,e⟩:=v8 (n:=s.heap.objs.size+1) k;refine .inr ⟨.inl k,c,e,?_⟩;have q:=x.cell y c e;rw[rH D F L (by show scope.names.lookup y≠_;rw[k];decide)]at q;exact q
 .exact m.hok.fresh (abP (x.above y c (acu h)))
 .unfold start;show _=N.length;rw[aaj,iO,adf];omega
theorem U9{CX:CXT}{base:aaW}{k:Nat}{f:Addr}{name d:Str}{p:Arguments}{dV kV L pm l ct oc:mT}{an od:Option Addr}
  {W:Array (Option mT)}{sp:Sp} (lk:K.lookup f=some ⟨oc,od,.func (abj name d p body scope dV kV L pm an l ct),W⟩) (hcd:ado K l d=true) (S:aq N ps scope)
  (len:∀vs H Q E,sp vs H Q E->vs.length=ps.length)
  (B:∀(A:aa4) (outer:List Env) (s:AD) (H:Hp) (vs:List V) (Q:VK) (E:XK),Room k (A.deeper (ad8 d scope s.heap.objs.size f l))->sp vs H Q E ->
   ∃t,PSs (cxOf CX P w K mg base N d scope f l A outer s H E) body t/\t {nx:=λ_ z=>Q .non z,rt:=Q} (start N vs) H) :
  FnOk P w K mg base CX (k+1) f (abj name d p body scope dV kV L pm an l ct) ps sp:=by
 refine⟨len,λA outer s H args us vs Q E U G hb r O=>?_⟩;have hl:=len _ _ _ _ O;have KX:K.In s.heap:=G.mod.kin.keeps λb o e=>(G.bs b o e).1;have Y:s.heap.NoLimit:=G.mod.nolimit.keeps λb o e=>(G.bs b o e).1;have D:∀y∈ps.zip us,scope.names.lookup y.1=some .local\/(scope.names.lookup y.1=some .cell/\((cellsFrom (s.heap.objs.size+1) scope.names []).lookup y.1).isSome=true):=by
  intro⟨n,v⟩ hy;rcases S.par n (af9 hy).1 with q|q
  .exact .inl q
  .exact .inr ⟨q,afW _ _ _ (.inl q)⟩
 refine codeAny_call_function U.depth (KX _ _ lk) rfl S.co S.gen rfl (PySem.W.codeRec_of KX hcd) (hb _ _ _ _ ?_);refine wpAny_newFunctionEnv_cells S.kind D λenv he s1 x=>?_;subst he;refine⟨Y.keeps x.toInCall.keep,codeAny_func ?_⟩;let⟨t,ht,hq⟩:=B A outer s H vs Q E (U.deeper _) O;have I:Inv (cxOf CX P w K mg base N d scope f l A outer s H E) [] (start N vs) H s1:=Bi S U.hd G hl r x;refine ace (ht [] s1 (start N vs) H _ I hq) (λfl T F=>?_) λe T F=>F;have R:∀{m:St}{z:Hp}{v:V}{u:mT},Inv (cxOf CX P w K mg base N d scope f l A outer s H E) [] m z T->RelV v u->Q v z->CE outer P w H s Q u T:=
  λ{m z v u} J Z q=>⟨v,z,J.os,J.bare,J.base,J.hok,Z,q⟩
 cases fl with
 |ret u=>
  let⟨v,m,z,J,Z,q⟩:=F;exact R J Z q
 |next=>
  let⟨m,z,J,q⟩:=F;exact R (v:=V.non) (u:=afR) J rfl q
 |brk=>
  let⟨_,_,_,q⟩:=F;exact act q
 |cont=>
  let⟨_,_,_,q⟩:=F;exact act q
section
variable {X:Cx}{x:Str}{p pos:Pos}{e:Expr}{es:List Expr}{t:TA}{id T:String}{r:List V->Hp->VK->Prop}
def tCB(r:List V->Hp->VK->Prop)(t:TA):TE:=λσ H Q=>t σ H λvs d=>r vs d Q
theorem v5(G:dM X (.builtin id) r)(F:Gl X x)(B:X.mg x=none)(l:aa2 x=some (.builtin id))(n:PA X (e::es) t)(m:x ≠ "__name__":=by decide)(d:(x==("__debug__" : Str))=false:=by decide)
  (z:aac (e::es) X.env=(false,eval e X.env)::aac es X.env:=by rfl) (k:(abk pos (aac es X.env)).any (·.1)=false:=by rfl):PE X (.Call (.Name x p) (e::es) [] pos) (tCB r t):=by
 intro pins s σ H Q I h;refine acA (oh I F B l ?_ m d);exact aeo (thn (n pos pins s σ H _ I h)<|by intro us s1 ⟨vs,D,q,r1,y⟩;exact G pins s1 σ D vs us Q q r1 y) z k
theorem yW(G:dM X (.type T) r)(F:Gl X x)(B:X.mg x=none)(l:aa2 x=some (.type T))(n:PA X (e::es) t)(m:x ≠ "__name__":=by decide)(d:(x==("__debug__" : Str))=false:=by decide)
  (z:aac (e::es) X.env=(false,eval e X.env)::aac es X.env:=by rfl) (k:(abk pos (aac es X.env)).any (·.1)=false:=by rfl):PE X (.Call (.Name x p) (e::es) [] pos) (tCB r t):=by
 intro pins s σ H Q I h;refine acA (oh I F B l ?_ m d);exact adj (thn (n pos pins s σ H _ I h) λus s1 ⟨vs,D,q,r1,y⟩=>G pins s1 σ D vs us Q q r1 y) z k
end
end L2
namespace HT
open PySem PyProof.Rows
variable{Q:mT->AD->Prop}{hi lo:Option Int}
section
variable {prog:aaF}{w:World}{A:aa4}{E:mT->AD->Prop}{s:AD}
theorem cat_tup{t b:Addr}{vs a:List mT}(v:IsTup s.heap t vs.toArray)(r:IsTup s.heap b a.toArray)(q:vs≠[])
  (x:a=[]->Q (.ref t) s) (u:a≠[]->Q (.ref s.heap.objs.size) {s with heap:=s.heap.push {cls:=.type "tuple",data:=.seq (vs++a).toArray} })
  (hsz:vs.length+a.length≤aai):wpAny (model prog w) A (aco .Add (.ref t) (.ref b)) Q E s:=by
 let⟨⟨cls,l,data,m⟩,i,o,n,hd⟩:=id v;let⟨⟨p,g,j,c⟩,h,f,n2,d⟩:=id r;simp only at o hd f d;subst o hd f d;have e:vs.toArray++a.toArray=(vs++a).toArray:=by simp
 by_cases k:a=[]
 .exact afX ⟨_,i,rfl⟩ ⟨_,h,rfl⟩ afH agK ad9 ad3 (adH _ _)
   (tuple_addW1 t b vs.toArray a.toArray n n2 l g m c (by simpa) (by simp[k])) ⟨i,h,x k⟩
 .refine afX ⟨_,i,rfl⟩ ⟨_,h,rfl⟩ afH agK ad9 ad3 (adH _ _)
   (tuple_addW2 t b vs.toArray a.toArray n n2 l g m c (by simpa using q) (by simpa) ‹_›) ⟨i,h,?_⟩
  rw[e];exact u k
def sIx(n d:Nat):Option Int->Nat
 |none=>d
 |some v=>if v<0 then(v+(n:Int)).toNat else min v.toNat n
def sIx_none(n d:Nat):sIx n d none=d:=rfl
def sIx_nat(n d k:Nat):sIx n d (some (k:Int))=min k n:=rfl
theorem SW(n d:Nat)(hd:d≤n)(o:Option Int):sIx n d o≤n:=by
 cases o with
 |none=>exact hd
 |some v=>
  show(if v<0 then(v+n).toNat else min v.toNat n)≤n
  by_cases h:v<0
  .grind
  .rw[if_neg h];exact acf _ _
theorem Am(v:Int)(n d:Nat):(if v<0 then max (v+(n:Int)) 0 else min v (n:Int))=((sIx n d (some v):Nat):Int):=by
 show _=(((if v<0 then(v+_).toNat else min v.toNat n):Nat):Int)
 grind
theorem x8(lo hi:Option Int)(n:Nat):afe lo hi 1 (n:Int)=(((sIx n 0 lo:Nat):Int),((sIx n n hi:Nat):Int)):=by
 refine ahA ?_ ?_
 .cases lo with
  |none=>rfl
  |some v=>exact Am v n 0
 .cases hi with
  |none=>rfl
  |some v=>exact Am v n n
theorem yr(i j:Nat):adw (i:Int) (j:Int) 1=j-i:=by
 unfold adw
 grind
theorem pf{v:mT}{o:Option Int}{Q:Option Int->AD->Prop}(p:afY v o)(h:Q o s):wpAny (model prog w) A (acI.Slice.slicePartIndex v) Q E s:=by
 cases p with
 |none=>exact slicePart_none h
 |int i t=>exact slicePart_int h
def ga{sl:Addr}{vl v:mT}{n:Nat}{Q:Int×Int×Nat->AD->Prop}(c:s.heap.IsSliceOf sl vl v .none)(pl:afY vl lo)(p:afY v hi)
  (h:Q (((sIx n 0 lo:Nat):Int),1,sIx n n hi-sIx n 0 lo) s):wpAny (model prog w) A (acI.Slice.sliceApplied (.ref sl) (pure (n:Int))) Q E s:=by
 let⟨os,a,d,b⟩:=id c;refine gT (gT (abD a b (x:=vl) rfl (gT (abD a b (x:=v) rfl (gT (abD a b (x:=.none) rfl (Io ?_)))))));refine gT (slicePart_none ?_);refine gT (pf pl (gT (pf p (gT (Io ?_)))));show wpAny _ _ (match afe lo hi 1 (n:Int)with|(lo,hi)=>pure (lo,(1:Int),adw lo hi 1)) _ _ s;rw[x8 lo hi n];show wpAny _ _ (pure _) _ _ s;rw[yr];exact Io h
theorem D7(xs:Array mT)(i k:Nat):((aaz k).filterMap λ(m:Nat)=>xs[((i:Int)+(m:Int)*1).toNat]?).toArray=((xs.toList.drop i).take k).toArray:=by
 have e:(λ(m:Nat)=>xs[(i+(m:Int)*1).toNat]?)=λm=>xs[i+m]?:=by
  funext m
  have:(i+(m:Int)*1).toNat=i+m:=by omega
  rw[this]
 rw[e];have:=pick_run xs i k;rw[agR]at this;have a:(_∘λx=>i+x)=λm=>xs[i+m]?:=rfl;rw[a]at this;rw[this]
theorem getItem_tuple_cut{t sl:Addr}{items:Array mT}{vl v:mT}(b:IsTup s.heap t items)(g:s.heap.IsSliceOf sl vl v .none)(pl:afY vl lo)(p:afY v hi)
  (j:¬(sIx items.size 0 lo=0/\sIx items.size items.size hi=items.size))
  (h:Q (.ref s.heap.objs.size) {s with heap:=s.heap.push {cls:=.type "tuple",data:=.seq ((items.toList.drop (sIx items.size 0 lo)).take (sIx items.size items.size hi-sIx items.size 0 lo)).toArray} })
  (hsz:items.size≤aai):wpAny (model prog w) A (aev (.ref t) (.ref sl)) Q E s:=by
 have a:sizeOk (.seq ((items.toList.drop (sIx items.size 0 lo)).take (sIx items.size items.size hi-sIx items.size 0 lo)).toArray):=by
  show((items.toList.drop (sIx items.size 0 lo)).take (sIx items.size items.size hi-sIx items.size 0 lo)).toArray.size≤aai;rw[aaJ,aaw,aep,abJ];omega
 have k:sIx items.size items.size hi≤items.size:=SW _ _ (Mt _) hi;let⟨os,c,e,i⟩:=id g;have f:s.TypeIs (.ref sl) "slice":=⟨os,c,e⟩;unfold aev
 try with_reducible refine abZ ?_
 first|refine gT (Io ?_)|skip
 refine gT (afm b.typeIs (by decide) ?_);refine gT (aa0 (name:=acj "__getitem__") b.typeIs abl
  (abc abl b.typeIs entry_tuple_getitem ?_ (args_tuple_getitem _ _)))
 show wpAny _ _ (adp (.ref t) >>= _) _ _ s;refine gT (agM b ?_);refine gT (acY f ?_);rw[if_pos (by decide)];refine gT (ga g pl p ?_);have d:¬((((sIx items.size 0 lo:Nat):Int)==0&&(1:Int)==1&&(sIx items.size items.size hi-sIx items.size 0 lo)==items.size)=true):=by
  grind
 show wpAny _ _ (if (((sIx items.size 0 lo:Nat):Int)==0&&(1:Int)==1&&(sIx items.size items.size hi-sIx items.size 0 lo)==items.size)=true then _ else _) _ _ s;rw[if_neg d,D7]
 first
  |exact gT (m:=abN _) (abe (Io ⟨_,rfl,Io h⟩) a)
  |exact gT (m:=abN _) (abe (gT (Io (Io ⟨_,rfl,Io h⟩))) a)
  |exact gT (gT (m:=abN _) (abe (Io (Io ⟨_,rfl,Io h⟩)) a))
  |exact gT (gT (m:=abN _) (abe (Io ⟨_,rfl,Io h⟩) a))
end
end HT
namespace L2
open PySem PySem.Spec PyProof.Rows
variable{n:Nat}{α:Type}{its:List mT}
abbrev TO:=St->Hp->(Option Int->Hp->Prop)->Prop
def PO(X:Cx)(e:Option Expr)(t:TO):Prop:=
 ∀(p:List (Addr×Obj)) (s:AD) (a:St) (H:Hp) (Q:Option Int->Hp->Prop),Inv X p a H s->t a H Q ->
  wpAny (model X.prog X.w) X.A (evalPart e X.env) (λu c=>∃o b,Inv X p a b c/\afY u o/\Q o b) X.xe s
def KB:TO:=λ_ H Q=>Q none H
def VF(t:TE):TO:=λa H Q=>t a H λx b=>∃i,x = .int i/\Q (some i) b
theorem fx{ns:List Int}:∀{us:List mT},Vals (ns.map V.int) us->aeS us ns:=by
 induction ns with
 |nil=>intro us r;cases r;exact .nil
 | cons n ns i=>
  intro us r
  cases r with
  |cons r1 a=>
   let⟨t,e⟩:=r1;subst e;exact .cons n t (i a)
section
variable {X:Cx}{e:Expr}{f:TE}{c d:Option Expr}{tl g:TO}{pos j:Pos}
def Kl:PO X none KB:=by
 intro p s a H Q I h;exact Io ⟨none,H,I,.none,h⟩
def L6(h:PE X e f):PO X (some e) (VF f):=by
 intro p s b H Q I l;refine thn (h p s b H _ I l) λu s1 ⟨x,m,a,r1,k⟩=>?_;let⟨i,rfl,q⟩:=k;let⟨t,rfl⟩:=r1;exact⟨some i,m,a,.int i t,q⟩
def SlR(X:Cx)(r:V->Option Int->Option Int->Hp->VK->Prop):Prop:=
 ∀(p:List (Addr×Obj)) (s:AD) (a:St) (H:Hp) (x:V) (v vl h:mT) (c d:Option Int) (b:Addr) (Q:VK),Inv X p a H s->RelV x v->s.heap.IsSliceOf b vl h .none->afY vl c->afY h d->r x c d H Q ->
  ∃T id,typeLookup (.type T) "__getitem__" = pure (some (.builtin id))/\s.TypeIs v T/\wpAny (model X.prog X.w) X.A (aev v (.ref b)) (EP X p a Q) X.xe s
def tSl(r:V->Option Int->Option Int->Hp->VK->Prop)(f:TE)(tl g:TO):TE:=λa H Q=>f a H λx i=>tl a i λl h=>g a h λu b=>r x l u b Q
def CZ{r:V->Option Int->Option Int->Hp->VK->Prop}(B:SlR X r)(A:PE X e f)(D:PO X c tl)(O:PO X d g):PE X (.Subscript e (.Slice c d none j) pos) (tSl r f tl g):=by
 intro p s i H Q I h;refine agS (thn (A p s i H _ I h) λv s1 ⟨x,L,o,r1,y⟩=>?_);refine wpAny_Slice (thn (D p s1 i L _ o y) λvl s2 ⟨l,z,J,K,M⟩=>thn (O p s2 i z _ J M) λk a ⟨u,m,t,G,N⟩=>?_);refine Io ?_;have F:Inv X p i m {a with heap:=a.heap.push {cls:=.type "slice",data:=.fields #[vl,k,.none]} }:=t.kept (t':=a.toks) λb P q=>Ld _ q;let⟨T,id,C,w,E⟩:=B p {a with heap:=a.heap.push {cls:=.type "slice",data:=.fields #[vl,k,.none]} } i m x v vl k l u a.heap.objs.size Q F r1 (aaW.IsSliceOf.new ..) K G N;exact tail_any w C E rfl
def cutV(xs:List V)(c d:Option Int):List V:=(xs.drop (HT.sIx xs.length 0 c)).take (HT.sIx xs.length xs.length d-HT.sIx xs.length 0 c)
theorem mx(xs:List V)(c d:Option Int):(cutV xs c d).length≤xs.length:=by
 unfold cutV;rw[aaw,aep];omega
def rSlT(K:aad):V->Option Int->Option Int->Hp->VK->Prop:=λx c d H Q=>∃a b,x = .ref a/\SqT K H a b/\
 ¬(HT.sIx b.length 0 c=0/\HT.sIx b.length b.length d=b.length)/\∀p,H p=none->Q (.ref p) (upd H p (.tup (cutV b c d)))
theorem TX:SlR X (rSlT X.K):=by
 intro p s A H x v vl B c d D Q I z u w t h;let⟨a,k,rfl,o,y,q⟩:=h;cases z;let⟨its,r,l,m⟩:=I.tuple o;have i:its.toArray.size=k.length:=by rw[aaJ];exact r.length.symm
 refine⟨"tuple",_,abl.lookup,l.typeIs,?_⟩;refine HT.getItem_tuple_cut l u w t (by rw[i];exact y) ?_ (by rw[i];exact m);rw[i];refine⟨.ref s.heap.objs.size,_,I.laid (t':=s.toks) (λb C q=>Ld _ q) (Mt _) ?_,rfl,q _ (I.hok.fresh (Mt _))⟩;exact⟨aas (mx k c d) m,_,(r.drop _).take _,PlainT.new _ _⟩
def UO(K:aad):R2:=λx y H Q=>∃a b i h,x = .ref a/\y = .ref b/\SqT K H a i/\SqT K H b h/\i≠[]/\i.length+h.length≤aai/\
 (h=[]->Q (.ref a) H)/\(h≠[]->∀p,H p=none->Q (.ref p) (upd H p (.tup (i++h))))
theorem Vals.nil_iff{xs:List V}{us:List mT}(r:Vals xs us):us=[]↔xs=[]:=by
 cases r with
 |nil=>simp
 |cons _ _=>simp
theorem L5:OpR X (aco .Add) (UO X.K):=by
 intro p s F H x y v u Q I D B h;let⟨a,b,G,E,rfl,rfl,o,m,l,i,t,C⟩:=h;cases D;cases B;let⟨its,r1,A,_⟩:=I.tuple o;let⟨k,r,j,_⟩:=I.tuple m;refine HT.cat_tup A j (λz=>l (r1.nil_iff.mp z)) (λz=>⟨.ref a,H,I,rfl,t (r.nil_iff.mp z)⟩) (λz=>?_) (by rw[<-r1.length,<-r.length];exact i);refine⟨.ref s.heap.objs.size,_,I.laid (t':=s.toks) (λb J q=>Ld _ q) (Mt _) ?_,rfl,C (λw=>z (r.nil_iff.mpr w)) _ (I.hok.fresh (Mt _))⟩;exact⟨by rw[aaj];exact i,_,r1.append r,PlainT.new _ _⟩
end
def ixN(n:Nat)(i:Int):Option Nat:=if 0≤i then(if i<n then some i.toNat else none)else if -(n:Int)≤i then some (i+n).toNat else none
def atI{α:Type}(xs:List α)(i:Int):Option α:=(ixN xs.length i).bind λj=>xs[j]?
theorem LU{i:Int}{j:Nat}(h:ixN n i=some j):seqIndex? i n=some j/\j<n/\-(n:Int)≤i/\i<n:=by
 unfold ixN at h
 by_cases b:0≤i
 .rw[if_pos b]at h
  by_cases a:i<n
  .rw[if_pos a]at h;have e:=aaB h;exact⟨by rw[seqIndex_of b a,e],by omega,by omega,a⟩
  .simp_all
 .rw[if_neg b]at h
  by_cases a : -(n:Int)≤i
  .rw[if_pos a]at h;have e:=aaB h;exact⟨by rw[seqIndex_neg (by omega) a,e],by omega,a,by omega⟩
  .simp_all
theorem vp{xs:List α}{i:Int}{v:α}(h:atI xs i=some v):∃j,seqIndex? i xs.length=some j/\xs[j]?=some v/\j<xs.length/\-(xs.length:Int)≤i/\i<xs.length:=by
 unfold atI at h
 cases e:ixN xs.length i with
 |none=>rw[e]at h;cases h
 |some j=>
  rw[e]at h;let⟨d,b,a,c⟩:=LU e;exact⟨j,d,h,b,a,c⟩
theorem bh{xs:List α}{j:Nat}{v:α}(h:xs[j]?=some v):atI xs (j:Int)=some v:=by
 have a:=(Ad.mp h).1;have e:ixN xs.length j=some j:=by
  unfold ixN
  simp_all
 unfold atI;rw[e];exact h
def nG(b:Expr):Prop:=∀o i,agp b false o i=operate [o,i] (aev o i)
def IxR(X:Cx)(r:R2):Prop:=
 ∀(b a:Expr) (p:List (Addr×Obj)) (s:AD) (c:St) (H:Hp) (x y:V) (v u:mT) (Q:VK),Inv X p c H s->RelV x v->RelV y u->r x y H Q ->
  agp a false v u=operate [v,u] (aev v u)->wpAny (model X.prog X.w) X.A (agN b a v u) (EP X p c Q) X.xe s
def MtR(X:Cx)(id:String)(r:V->List V->Hp->VK->Prop):Prop:=
 ∀(p:List (Addr×Obj)) (s:AD) (a:St) (H:Hp) (x:V) (b:List V) (v:mT) (u:List mT) (Q:VK),Inv X p a H s->RelV x v->Vals b u->r x b H Q ->
  wpAny (model X.prog X.w) X.A (call (.builtin id) (v::u)) (EP X p a Q) X.xe s
section
variable {X:Cx}{a b:Expr}{ta tb:TE}{pos:Pos}
def T7{r:R2}(e:IxR X r)(f:PE X a ta)(d:PE X b tb)(j:nG b):PE X (.Subscript a b pos) (tOp r ta tb):=by
 intro p s c H Q I h;exact agS (binT f d I h λv u s2 x y l i k g q=>e a b p s2 c l x y v u Q i k g q (j _ _))
def rIxL(K:aad):R2:=λx y H Q=>∃p c i v,x = .ref p/\y = .int i/\SqL K H p c/\atI c i=some v/\Q v H
def rIxT(K:aad):R2:=λx y H Q=>∃p c i v,x = .ref p/\y = .int i/\SqT K H p c/\atI c i=some v/\Q v H
def rIxS:R2:=λx y H Q=>∃z i c,x = .str z/\y = .int i/\z.length≤aai/\atI z.cps.toList i=some c/\Q (.str ⟨#[c]⟩) H
theorem yP:IxR X (rIxL X.K):=by
 intro l k c s C H x y v u Q I K G h m;let⟨p,N,i,z,rfl,rfl,B,F,q⟩:=h;cases K;let⟨t,rfl⟩:=G;let⟨its,r,g,O⟩:=I.list B;let⟨j,d,D,P,L,E⟩:=vp F;let⟨w,o,e⟩:=r.get D;have J:=r.length;have M:=t6;have f:EP X c C Q w s:=⟨z,H,I,e,q⟩
 by_cases A:0≤i
 .have hj:i.toNat=j:=by
   rw[seqIndex_of A E]at d;exact aaB d
  exact item_listR g.isList A (by omega) (by rw[hj];simpa using o) f m
 .have hj:(i+(its.toArray.size:Int)).toNat=j:=by
   rw[seqIndex_neg (by omega) L]at d;rw[aaJ,<-J];exact aaB d
  exact afZ (x:=w) g.isList.typeIs afn.lookup
   (wpAny_getItem_list_neg g.isList (by omega) (by simp_all) (by omega) (by rw[hj];simpa using o) ⟨rfl,f⟩) m
theorem Ql:IxR X (rIxT X.K):=by
 intro g e c s m H x y v u Q I F C h A;let⟨p,J,i,z,rfl,rfl,l,B,q⟩:=h;cases F;let⟨t,rfl⟩:=C;let⟨its,r,k,K⟩:=I.tuple l;let⟨j,D,o,M,O,L⟩:=vp B;let⟨w,N,d⟩:=r.get o;have E:=r.length;have G:=t6;have f:EP X c m Q w s:=⟨z,H,I,d,q⟩;exact afZ k.typeIs slot_tuple_getitem.lookup
  (getItem_tuple k (by omega) (by omega) (by rw[aaJ,<-E];exact D) (by simpa) ⟨rfl,f⟩) A
theorem Tq:IxR X rIxS:=by
 intro e d p s E H x y v u Q I B w h k;let⟨z,i,c,rfl,rfl,F,o,q⟩:=h;let⟨t,rfl⟩:=B;let⟨J,rfl⟩:=w;let⟨j,f,g,G,C,l⟩:=vp o;have A:z.cps.toList.length=z.length:=by simp[Str.length]
 rw[A]at f C l;have D:=t6;exact tail_any (typeIs_str s z t) slot_str_getitem.lookup (getItem_str (by
  have r:decide (i < -(2^63:Int))=false:=decide_eq_false (by omega);have m:decide (i≥2^63)=false:=decide_eq_false (by omega);rw[r,m,Bool.or_false]) (by rw[f];simpa using g) ⟨.str ⟨#[c]⟩,H,I.tok _,⟨_,rfl⟩,q⟩) k
theorem sI(l c:Option Int)(n:Nat):(ad4 l c none n).1=((HT.sIx n 0 l:Nat):Int)/\(ad4 l c none n).2.1=((HT.sIx n n c:Nat):Int)/\(ad4 l c none n).2.2=1:=by
 refine⟨?_,?_,rfl⟩
 .cases l with
  |none=>simp[ad4,HT.sIx]
  |some i=>
   simp only[ad4,HT.sIx,ahe,show(1:Int)>0 by decide,if_true]
   by_cases h:i<0
   .simp only[h,if_true]<;>omega
   .simp only[h,if_false]<;>omega
 .cases c with
  |none=>simp[ad4,HT.sIx]
  |some i=>
   simp[ad4,HT.sIx,ahe,show(1:Int)>0 by decide,if_true]
   by_cases h:i<0
   .simp only[h,if_true]<;>omega
   .simp only[h,if_false]<;>omega
def qI(its:List mT)(l h:Option Int):ahf its.toArray l h none=((its.drop (HT.sIx its.length 0 l)).take (HT.sIx its.length its.length h-HT.sIx its.length 0 l)).toArray:=by
 let⟨c,e,d⟩:=sI l h its.toArray.size;unfold ahf;rw[c,e,d];simp only[sliceRange_one,pick_run]<;>rfl
def rSlL(K:aad):V->Option Int->Option Int->Hp->VK->Prop:=λx l h H Q=>∃a c,x = .ref a/\SqL K H a c/\∀p,H p=none->Q (.ref p) (upd H p (.lst (cutV c l h)))
theorem Mq:SlR X (rSlL X.K):=by
 intro p s t H x v vl u m l y Q I o i j f h;let⟨a,g,rfl,e,q⟩:=h;cases o;let⟨its,r,d,k⟩:=I.list e;have c:=r.length;refine⟨"list",_,afn.lookup,d.isList.typeIs,?_⟩;refine afv d.isList i j f .none (by simp) ?_ (by grind);rw[qI,<-c];refine⟨.ref s.heap.objs.size,_,I.laid (t':=s.toks) (λb w q=>Ld _ q) (Mt _) ?_,rfl,q _ (I.hok.fresh (Mt _))⟩;exact⟨aas (mx g m l) k,_,0,(r.drop _).take _,aan _ rfl⟩
theorem kl:dM X (.builtin "len") (λxs H Q=>∃p ys,xs=[.ref p]/\(SqL X.K H p ys\/SqT X.K H p ys)/\Q (.int ys.length) H):=by
 intro e s j H xs g Q I r h;let⟨p,ys,rfl,d,q⟩:=h;let⟨u,rfl,f⟩:=zg r;cases f;have i:=t6;rcases d with d|d
 .obtain⟨its,r',pl,hz⟩:=I.list d;have c:=r'.length;exact Calls.call_len_list pl.isList (by simp only[aaJ]<;>omega) ⟨.int ys.length,H,I.tok _,⟨s.toks+1,by rw[aaJ,c]⟩,q⟩
 .obtain⟨its,r',pl,hz⟩:=I.tuple d;have c:=r'.length;exact len_tuple pl (by simp only[aaJ]<;>omega) ⟨.int ys.length,H,I.tok _,⟨s.toks+1,by rw[aaJ,c]⟩,q⟩
theorem sg:dM X (.builtin "len") (λxs H Q=>∃z,xs=[.str z]/\z.length≤aai/\Q (.int z.length) H):=by
 intro p s e H xs c Q I r h;let⟨z,rfl,f,q⟩:=h;let⟨u,rfl,t,rfl⟩:=zg r;have d:=t6;exact len_str (by omega) ⟨.int z.length,H,I.tok _,⟨_,rfl⟩,q⟩
theorem qP:dM X (.type "tuple") (λxs H Q=>∃p ys,xs=[.ref p]/\((SqL X.K H p ys/\∀l,H l=none->Q (.ref l) (upd H l (.tup ys)))\/(SqT X.K H p ys/\Q (.ref p) H))):=by
 intro g s t H xs m Q I r h;let⟨p,ys,rfl,h⟩:=h;let⟨u,rfl,k⟩:=zg r;cases k;rcases h with⟨c,q⟩|⟨c,q⟩
 .obtain⟨its,r',pl,hz⟩:=I.list c;have d:=r'.length;refine call_tuple_list pl.isList (λj kp=>?_) (by simp_all);have f:=I.kept (t':=s.toks) kp;have i:=
   f.laid (t':=s.toks) (λb o e=>Ld _ e) (Mt _) (show ObjOk X.prog X.w _ _ _ (.tup ys)from⟨hz,its,r',PlainT.new _ _⟩)
  exact⟨.ref j.objs.size,_,i,rfl,q _ (f.hok.fresh (Mt _))⟩
 .obtain⟨its,r',pl,hz⟩:=I.tuple c;exact call_tuple_same pl ⟨.ref p,H,I,rfl,q⟩
def tyV(K:aad)(T:String)(x:V)(H:Hp):Prop:=match x with
 | .str _=>T = "str"
 | .int _=>T = "int"
 | .ref p=>(T = "list"/\∃c,SqL K H p c)\/(T = "tuple"/\∃c,SqT K H p c) \/
   (T = "dict"/\((∃k,H p=some (.dK k))\/∃k,H p=some (.dT k)))\/(T = "set"/\∃S n,H p=some (.set S n))
 |_=>False
theorem Qi{d:List (Addr×Obj)}{j:St}{H:Hp}{s:AD}{T:String}{x:V}{v:mT}(I:Inv X d j H s)(r:RelV x v)(ty:tyV X.K T x H) :
  s.TypeIs v T/\∀a,v = .ref a->∃g,s.heap.get? a=some g/\g.dict=none:=by
 cases x with
 |str z=>
  let⟨t,rfl⟩:=r
  cases (show T = "str" from ty)
  exact⟨typeIs_str s z t,λ_ e=>nomatch e⟩
 |int i=>
  let⟨t,rfl⟩:=r
  cases (show T = "int" from ty)
  exact⟨af0 s i t,λ_ e=>nomatch e⟩
 | ref p=>
  cases r;rcases ty with⟨rfl,l,h⟩|⟨rfl,l,h⟩|⟨rfl,hk⟩|⟨rfl,S,n,hk⟩
  .obtain⟨its,_,pl,_⟩:=I.list h;refine⟨pl.isList.typeIs,λa e=>?_⟩;cases e;let⟨o,n,e,c,hd,_⟩:=pl;exact⟨o,e,hd⟩
  .obtain⟨its,_,⟨o,e0,hc,hd,_⟩,_⟩:=I.tupleP h;refine⟨⟨o,e0,hc⟩,λa e=>?_⟩;cases e;exact⟨o,e0,hd⟩
  .have z:∃o,s.heap.get? p=some o/\o.ExactDict:=by
    rcases hk with⟨k,hk⟩|⟨k,hk⟩
    .obtain⟨_,_,_,_,o,_,_,e,ex,_⟩:=I.hok p _ hk;exact⟨o,e,ex⟩
    .obtain⟨_,_,_,_,o,_,_,e,ex,_⟩:=I.hok p _ hk;exact⟨o,e,ex⟩
   let⟨o,e,ex⟩:=z;refine⟨⟨o,e,ex.1⟩,λa f=>?_⟩;cases f;exact⟨o,e,ex.2.1⟩
  .obtain⟨o,_,_,_,e,ex,_⟩:=I.hok p _ hk;refine⟨⟨o,e,ex.1⟩,λa f=>?_⟩;cases f;exact⟨o,e,ex.2.1⟩
 |_=>exact act ty
def tBM(K:aad)(T:String)(r:V->List V->Hp->VK->Prop)(to:TE)(t:TA):TE:=λc H Q=>to c H λx d=>tyV K T x d/\t c d λe f=>r x e f Q
variable {o e:Expr}{es:List Expr}{to:TE}{t:TA}{name:Str}{f d:Pos}{T id:String}{r:V->List V->Hp->VK->Prop}
theorem Sw(w:PlainAttrs T)(slot:Slot T name id)(l:typeOf (.builtin id)=pure (.type "method_descriptor"))(E:MtR X id r)(K:PE X o to)(y:PA X (e::es) t)
  (c:abr o name X.env (eval o X.env)=eval o X.env:=by rfl)
  (i:((abk d (aac (e::es) X.env)).all (λx=>!x.1)&&(acW d (abV [] X.env)).all (λx=>x.1.isSome)
   && decide ((e::es).length+([]:List acZ).length+(if ([]:List acZ).isEmpty then 0 else 1)<30))=true:=by rfl)
  (g:(f.endLine==d.line)=true:=by rfl) (B:aac (e::es) X.env=(false,eval e X.env)::aac es X.env:=by rfl) (j:(abk d (aac es X.env)).any (·.1)=false:=by rfl) :
  PE X (.Call (.Attribute o name f) (e::es) [] d) (tBM X.K T r to t):=by
 intro p s k H Q I h;refine af1 c i g rfl (thn (K p s k H _ I h) λv s1 ⟨x,F,m,r1,ty,C⟩=>?_);let⟨G,z⟩:=Qi m r1 ty;refine⟨T,id,w,slot,l,G,z,?_⟩;have q:=y d p s1 k F _ m C;rw[B]at q⊢;refine aea ‹_› (agq ?_);exact thn q<|by intro u s2 ⟨vs,D,A,L,J⟩;exact E p s2 k D x vs v u Q A r1 L J
end
def MtM(X:Cx)(id:String)(r:V->List V->Hp->VK->Prop):Prop:=
 ∀(p:List (Addr×Obj)) (s:AD) (a:St) (H:Hp) (x:V) (b:List V) (v:mT) (u:List mT) (Q:VK),Inv X p a H s->RelV x v->Vals b u->r x b H Q ->
  wpAny (model X.prog X.w) X.A (call (.builtin id) (v::u)) (EP X p a Q) X.xe s
theorem Vals.one:∀{x:V}{us:List mT},Vals [x] us->∃u,us=[u]/\RelV x u
 |_,_,.cons r .nil=>⟨_,rfl,r⟩
theorem Vals.two:∀{x y:V}{us:List mT},Vals [x,y] us->∃u v,us=[u,v]/\RelV x u/\RelV y v
 |_,_,_,.cons r (.cons q .nil)=>⟨_,_,rfl,r,q⟩
theorem Vals.rep{xs:List V}{us:List mT}(h:Vals xs us):∀k:Nat,Vals (aal k xs).flatten (aal k us).flatten
 |0=>.nil
 |k+1=>by
  exact Vals.append h (Vals.rep h k)
theorem l5(its:List mT):∀(k:Nat) (acc:List mT),
  ahC (λx a=>x++a) acc.toArray (aal k its.toArray)=(acc++(aal k its).flatten).toArray
 |0,acc=>by simp
 | k+1,acc=>by
  have e:acc.toArray++its.toArray=(acc++its).toArray:=by simp
  have b:(acc++its)++(aal k its).flatten=acc++(aal (k+1) its).flatten:=by
   rw[acv,ag4,aaU]
  rw[<-b,<-l5 its k _,<-e,acv,aeH]
section
variable {X:Cx}{p:List (Addr×Obj)}{a:St}{H:Hp}{s:AD}{l b:Addr}{xs ys zs:List V}
def Inv.lset{its':List mT}{f:Array mT->Array mT}{t':Nat}(I:Inv X p a H s)(j:H l=some (.lst xs))
  (e:s.heap.get? l=some {cls:=.type "list",data:=.seq its.toArray n}) (i:f its.toArray=its'.toArray) (h:Vals ys its') (g:ys.length≤aai) :
  Inv X p a (upd H l (.lst ys)) {s with heap:=s.heap.update l (acB f),toks:=t' }:=by
 have q:=PySem.IsL.update e f;rw[i]at q;refine I.write (by rw[j];exact trivial) (.inl rfl) (λk u d c=>(ac0 s.heap _ (ab1 d)).trans c) ⟨_,q⟩ ?_;exact⟨g,its',_,h,q⟩
def Inv.lnew{t':Nat}(I:Inv X p a H s)(h:Vals ys its)(c:ys.length≤aai) :
  Inv X p a (upd H s.heap.objs.size (.lst ys)) {s with heap:=s.heap.push {cls:=.type "list",data:=.seq its.toArray},toks:=t' }:=
 I.laid (λ_ _ q=>Ld _ q) (Mt _) ⟨c,its,0,h,aan _ rfl⟩
def Inv.fresh(I:Inv X p a H s):H s.heap.objs.size=none:=I.hok.fresh (Mt _)
def Inv.lstM(I:Inv X p a H s)(h:H l=some (.lst xs)):xs.length≤aai/\∃(its:List mT) (n:Nat),Vals xs its/\xs.length=its.length/\s.heap.get? l=some {cls:=.type "list",data:=.seq its.toArray n}:=by
 let⟨z,its,n,r,e⟩:=I.hok l _ h;exact⟨z,its,n,r,r.length,e⟩
theorem w6(h:n≤aai):adI n=false:=by
 exact decide_eq_false (by omega)
end
section
variable {X:Cx}
def KQ:V->List V->Hp->VK->Prop:=λx vs H Q=>∃l a y,x = .ref l/\vs=[y]/\H l=some (.lst a)/\a.length<aai/\Q .non (upd H l (.lst (a++[y])))
theorem lM:MtM X "list.append" KQ:=by
 intro p s g H x vs v f Q I d b h;let⟨l,i,y,rfl,rfl,a,j,q⟩:=h;cases d;let⟨u,rfl,c⟩:=b.one;let⟨z,its,n,r,k,e⟩:=I.lstM a;refine ad0 F.slot_list_append ⟨_,e,rfl⟩ F.entry_list_append (F.args_list_append_2 _ _) (PySem.list_append l its.toArray n u (by grind)) ⟨e,?_⟩;refine⟨.non,_,I.lset (its':=its++[u]) a e (by simp) (r.append (.cons c .nil)) ?_,rfl,q⟩
 grind
def Md:V->List V->Hp->VK->Prop:=λx vs H Q=>∃l b a z,x = .ref l/\vs=[.ref b]/\H l=some (.lst a)/\H b=some (.lst z)/\a.length+z.length≤aai/\Q .non (upd H l (.lst (a++z)))
theorem Ba:MtM X "list.extend" Md:=by
 intro p s y H x vs v w Q I o j h;let⟨l,b,A,B,rfl,rfl,d,f,C,q⟩:=h;cases o;let⟨u,rfl,m⟩:=j.one;cases m;let⟨z,its,n,r,E,e⟩:=I.lstM d;let⟨D,i,n2,t,k,g⟩:=I.lstM f;have c:its.toArray.size+i.toArray.size≤aai:=by rw[aaJ,aaJ];omega
 have a:¬(!its.toArray.isEmpty&&adI (its.toArray.size+i.toArray.size))=true:=by
  rw[w6 c,Bool.and_false];exact aam
 refine ad0 F.slot_list_extend ⟨_,e,rfl⟩ F.entry_list_extend (F.args_list_extend_2 _ _)
  (AutoSeq1.list_extend_list_list_0 l its.toArray n b i.toArray n2 a (by grind) (by omega)) ⟨e,g,?_⟩
 refine⟨.non,_,I.lset (its':=its++i) d e (by simp) (r.append t) ?_,rfl,q⟩;rw[aaj];omega
def rRep:R2:=λx y H Q=>∃l k a,x = .ref l/\y = .int k/\H l=some (.lst a)/\-(2^63)≤k/\k<2^63/\a.length*k.toNat≤aai/\
 ∀p,H p=none->Q (.ref p) (upd H p (.lst (aal k.toNat a).flatten))
def z9(xs:List α)(k:Nat):(aal k xs).flatten.length=k*xs.length:=by simp
theorem Ug:OpR X (aco .Mult) rRep:=by
 intro p s K H x y v u Q I J C h;let⟨l,k,M,rfl,rfl,A,D,w,i,q⟩:=h;cases J;let⟨t,rfl⟩:=C;let⟨z,its,n,r,E,e⟩:=I.lstM A;have c:its.toArray.size*k.toNat≤aai:=by rw[aaJ,<-E];exact i
 have f:¬its.toArray.size*k.toNat>(2^63-1)/8:=by
  have:(aai:Nat)≤(2^63-1)/8:=by decide
  omega
 have d:¬(!acI.List.listFitsIndex k)=true:=by
  rw[fitsIndex_both D w];exact aam
 have b:¬adI (its.toArray.size*k.toNat)=true:=by
  rw[w6 c];exact aam
 have g:ahC (λj G=>j++G) #[] (aal (if its.toArray.isEmpty=true then 0 else k.toNat) its.toArray)=(aal k.toNat its).flatten.toArray:=by
  have o:=λm=>by
   have:=l5 its m [];rw[abf]at this;exact this
  rw[o]
  cases its with
  |nil=>simp
  |cons a L=>rw[if_neg (by simp)]
 refine aff (T:= "list") (U:= "int") (by decide) ⟨_,e,rfl⟩ (λB=>af0 B k t) noFill_list_mul F.fills_int_mul F.slot_int_rmul repeat_list F.slot_int_index.lookup
  (ad0 F.slot_int_rmul (af0 s k t) F.entry_int_rmul (F.args_int_rmul_2 _ _) (int___rmul___int_list k t l its.toArray n)
   ⟨e,rfl,⟨_,e,rfl⟩,ad0 F.slot_list_mul ⟨_,e,rfl⟩ F.entry_list_mul (F.args_list_mul_2 _ _) (AutoListH.list___mul___list_int_3 l its.toArray n k t d f b) ⟨e,?_⟩⟩)
 rw[g];exact⟨.ref _,_,I.lnew (t':=s.toks) (r.rep k.toNat) (by rw[z9,ac1];exact i),rfl,q _ I.fresh⟩
end
end L2
namespace Att
open PySem PySem.W PySem.Calls PyProof.Rows
theorem lu{P:Params}{h:aaW}:∀(ns:List Int) (vs:List mT),WellAll P h vs (ns.map WData.int)->aeS vs ns:=by
 intro ns
 induction ns with
 |nil=>
  intro vs w;cases w;exact .nil
 | cons n ns i=>
  intro vs w
  cases w with
  |cons a b=>
   cases a;exact .cons _ _ (i _ b)
theorem BH{l:OpenLaw}{n:Nat}(j:l.most=some n){P:Params}{h:aaW}{args:List WData}{v:List mT}
  (b:l.row.toRowW.claim.pre args=true) (i:WellAll P h v args) :
  ∃a vs ns,v=[abi a]/\args=[WData.list (ns.map WData.int)]/\h.get? a=some {cls:=.type "list",data:=.seq vs.toArray}/\aeS vs ns/\ns.length≤n:=by
 have f:WShape.hasAll [] args [.list .int]=true:=(pre_splitW b).1;have p:l.pre.holds [] {args:=args}=true:=(pre_splitW b).2;let⟨d,r,rfl,o,k⟩:=hasAllW_cons f;obtain rfl:=hasAllW_nil k;let⟨x,rfl,m⟩:=hasW_list o;let⟨ns,rfl⟩:=items_int m;have e:ns.length≤n:=by
  have g:=by
   have g:=(holds_andW p).1;rw[j]at g;omega
  have t:=condW_of g (w_not (w_lt w_lit (w_len_list (w_arg rfl))))
  simp_all
 cases i with
 |cons q w=>
  cases w
  cases q with
  |list s c=>exact⟨_,_,ns,rfl,rfl,s,lu ns _ c,e⟩
def B7(l:OpenLaw)(args:List WData):l.row.toRowW.claim.post args (.bool true) args=true:=
 postW_of
  rfl
  (w_eq_bool (w_res rfl) w_lit) rfl
def attach_call{l:OpenLaw}{n:Nat}{q:aaF}{b:List Str}{X:(Str->Option mT)->aaW->Prop}{A:World->aaW->Prop}{d:DefRec}
  (B:l.most=some n) (p:d.params.defaults=[])
  (call:∀(w:World) (s₀ s:AD) (mg mb:Str->Option mT) (g:Addr) (o:Obj) (pm k c:mT) (a:Addr) (vs:List mT) (ns:List Int),
   Ground q b [] X w s₀ mg mb s.heap->A w s.heap ->
   s.heap.get? g=some o->o.data = .func (docDef d.name d.params d.body d.scope pm k c)->s.heap.CodeRec k d.name->mg d.name=some (.ref g) ->
   s.heap.get? a=some {cls:=.type "list",data:=.seq vs.toArray}->aeS vs ns->ns.length≤n->s.gens = #[] ->
   adV (model l.prog w) agz (.call (.ref g) ⟨[.ref a],[]⟩) (λr s'=>r = .ok (.ret (.bool true))/\OldK s.heap s'.heap/\s'.os=s.os/\afj s'.gens) s) :
  WalkO q b X A l.row.toRowW d [] (λf vs=>ahD f vs):=by
 intro w s₀ s mg mb G Y g o pm k c C kV K hd u y m I z x N i v H t D;obtain rfl:C = .none:=Dflts.none y p;obtain rfl:kV = .none:=Dflts.noKw y;let⟨a,vs,ns,rfl,rfl,j,h,e⟩:=BH B i t;refine enter_call (ad7 (call w s₀ s mg mb g o pm k c a vs ns G Y K (fd_plain hd) u m j h e I) λr s' L=>?_);let⟨rfl,E,M,J⟩:=L;exact⟨.inl ⟨.bool true,.bool true,[],rfl,λ_=>rfl,.bool true,B7 l _,λ_=>⟨ag5,λ_ F=>(nomatch F)⟩⟩,E,M,J⟩
end Att
namespace L2
open PySem PySem.Spec PyProof.Rows
variable{P:MSt->Prop}{w:WS}{K:Kd}{mg:Str->Option mT}{a l:Addr}{fd:ab3}{qual x y:Str}{ns:List Int}{i j n nN q:Nat}{X:Cx}{st:Stmt}{f:String->Bool}{N ps:List Str}{od:Option Addr}{A B:Prop}{env:Env}{scope:Scope}{c e elt t tg:Expr}{p pos:Pos}{ifs:List Expr}{tb:TS}{J:It}{fp:List Addr}{tn:Nat->aaW->Prop}{pins:List (Addr×Obj)}{σ σ':St}{H H' H0 H1 H2 Hb:Hp}{D:Ends}{E:mT->AD->Prop}{Q:VK}{vs xs:List V}{b ds ds':List aD}{v:V}{ao:Ao}{α α' α1 β:Al}{τ:List (List Nat×Addr)}{r:R}{o:WO}{op:CmpOp}{T:String}{sp:SpM}{ks:List Nat}{De:dm}{g:WG}{gs:WGs}{m1:MSt}{ob:R->Option Int->Option Int->MSt->(R->Prop)->Prop}{hi lo:Option Expr}{as:List Ag}{Ks:Src->MSt->Prop}
theorem mq:∀{vs:List mT}{ns:List Int},aeS vs ns->Vals (ns.map V.int) vs
 |_,_,.nil=>.nil
 |_,_,.cons n t h=>.cons ⟨t,rfl⟩ (mq h)
def Only(H:Hp):Prop:=∀b,H b=none\/∃o xs,H b=some (.frz o (.lst xs))
theorem FY{P:aaF}{w:World}{K:aad}{mb:Str->Option mT}{CX:CXT}{k:Nat}{fa:Addr}{sp:Sp}{C:AD}{vs:List mT}
  (KX:K.In C.heap) (U:C.heap.Ns aav mg) (I:C.heap.Ns builtinsNs mb) (hbb:∀x:Str,x ≠ "__name__" -> mb x=aa2 x) (R:C.heap.NoLimit) (hsy:∃m,C.heap.Ns abu m) (hg:C.gens = #[])
  (ha:C.heap.get? a=some {cls:=.type "list",data:=.seq vs.toArray}) (hi:aeS vs ns) (hl:ns.length≤aai) (hr:Room k agz)
  (F:∀base:aaW,K.In base->base.Ns aav mg->FnOk P w K mg base CX k fa fd [x] sp) (O:∀(s:AD) (u:mT),ag3 s fd ⟨[u],[]⟩ [(x,u)])
  (hsp:∀H:Hp,Only H->SqL K H a (ns.map V.int)->sp [.ref a] H (λv _=>v = .bl true) λ_ _ _=>False)
  (hCX:∀H e s',CX [] H C (λ_ _ _=>False) e s'->False) :
  adV (model P w) agz (.call (.ref fa) ⟨[.ref a],[]⟩) (λr s'=>r = .ok (.ret (.bool true))/\OldK C.heap s'.heap/\s'.os=C.os/\afj s'.gens) C:=by
 have rv:=mq hi;have Z:=hi.length;have M:∀H:Hp,Only H->SqL K H a (ns.map V.int)->HOk P w H C.heap->(∀b,H b≠none->b=a)->(H a≠none->K.lookup a=none) ->
   adV (model P w) agz (.call (.ref fa) ⟨[.ref a],[]⟩) (λr s'=>r = .ok (.ret (.bool true))/\OldK C.heap s'.heap/\s'.os=C.os/\afj s'.gens) C:=by
  intro H hO hS hok hA hK;have G:∀{b:Addr}{o:Obj},C.heap.get? b=some o->H b=none->(hidT C.heap H).get? b=some o:=λe n=>Gw e n;have noA:∀{b:Addr}{o:Obj}{S:Array ab8}{W:Nat},C.heap.get? b=some o->o.data = .dict S W->H b=none:=λ{b o S W} e d=>by
   cases q:H b with
   |none=>rfl
   |some u=>
    have e':b=a:=hA b (by rw[q];simp);subst e';rw[ha]at e;cases e;have d':Data.seq vs.toArray _=Data.dict S W:=d;cases d'
  have L:∀{b:Addr}{m:Str->Option mT},C.heap.Ns b m->(hidT C.heap H).Ns b m:=λ{b m} ⟨o,S,W,e,d,r⟩=>⟨o,S,W,G e (noA e d),d,r⟩;have Y:K.In (hidT C.heap H):=λb o e=>G (KX b o e) (by
   cases q:H b with
   |none=>rfl
   |some u=>
    have e':b=a:=hA b (by rw[q];simp);subst e';rw[hK (by rw[q];simp)]at e;cases e)
  have hM:Mod K mg (hidT C.heap H):=⟨Y,L U,⟨mb,L I,hbb⟩,let ⟨mc,h1,h2⟩:=R;⟨mc,L h1,h2⟩,let ⟨m,h⟩:=hsy;⟨m,L h⟩⟩;have e0:Env0 P w K mg (hidT C.heap H) agz [] C H:=⟨rfl,hM,λb o e=>JY e,afV (y7 _ _),trivial,λb I=>absurd (show b∈([]:List Addr)from I) (by simp),hok,.of_eq hg⟩;refine ad7 ((F _ Y (L U)).run agz [] C H ⟨[.ref a],[]⟩ [.ref a] [.ref a] _ _ hr e0 (O C (.ref a)) (.cons rfl .nil) (hsp H hO hS)) λr s' h=>?_
  cases r with
  |error e=>exact(hCX H e s' h).elim
  | ok fl=>
   cases fl with
   |next=>exact act h
   |brk=>exact act h
   |cont=>exact act h
   | ret u=>
    let⟨v,H',os,bare,un,hok',r',q⟩:=h;have q':v = .bl true:=q;subst q';obtain rfl:u=ahz true:=r';refine⟨rfl,OldK.of_keep λb o e=>?_,os,bare⟩
    cases q:H b with
    |none=>exact un.keep b o e q (by intro z;exact absurd (show b∈([]:List Addr)from z) (by simp)) (by simp)
    |some u=>
     rcases hO b with z|⟨ob,xs,z⟩
     .rw[q]at z;cases z
     .have z2:=un.frzs b ob _ z;let⟨e1,_⟩:=hok b _ z;let⟨e2,_⟩:=hok' b _ z2;rw[e]at e1;cases e1;exact e2
 cases hk:K.lookup a with
 |some o=>
  have e:=KX a o hk;rw[ha]at e;cases e;refine M (λ_=>none) (λ_=>.inl rfl) (.inr ⟨_,vs.toArray,_,hk,rfl,rfl,rfl,by rw[aaJ,Z];exact hl,by simpa using rv⟩) (λb u z=>by have z':(none:Option HO)=some u:=z;cases z') (λb z=>absurd rfl z) λz=>absurd rfl z
 | none=>
  refine M (λb=>if b=a then some (.frz {cls:=.type "list",data:=.seq vs.toArray} (.lst (ns.map V.int)))else none) (λb=>?_) (.inl (.inr ⟨{cls:=.type "list",data:=.seq vs.toArray},if_pos rfl⟩)) (λb u z=>?_) (λb z=>?_) λ_=>hk
  .by_cases I:b=a
   .exact .inr ⟨_,_,if_pos I⟩
   .exact .inl (if_neg I)
  .by_cases I:b=a
   .have z':=(if_pos I).symm.trans z;cases z';subst I;exact⟨ha,by rw[iO];exact hl,vs,_,rv,ha⟩
   .have z':=(if_neg I).symm.trans z;cases z'
  .by_cases I:b=a
   .exact I
   .exact absurd (if_neg I) z
theorem JI{l:ahu}{k:Nat}{q:aaF}{C:List Str}{XP:(Str->Option mT)->aaW->Prop}{YP:World->aaW->Prop}{d:DefRec}{K:Params->aad}{CX:World->CXT}{sp:World->Sp}
  (hq:importsNone q=true) (hn:l.most=some n) (Z:n≤aai) (U:d.params.defaults=[]) (hr:Room k agz)
  (hY:∀(w:World) (h:aaW),YP w h->(K w.params).In h)
  (F:∀(w:World) (mg:Str->Option mT) (O:Addr) (h:aaW),(K w.params).In h->h.Ns aav mg->mg d.name=some (.ref O) ->
   ∃fd:ab3,(∀(s:AD) (u:mT),ag3 s fd ⟨[u],[]⟩ [(x,u)])/\
    ∀base:aaW,(K w.params).In base->base.Ns aav mg->FnOk l.prog w (K w.params) mg base (CX w) k O fd [x] (sp w))
  (S:∀(w:World) (H:Hp) (a:Addr) (ns:List Int),ns.length≤n->Only H->SqL (K w.params) H a (ns.map V.int)->sp w [.ref a] H (λv _=>v = .bl true) λ_ _ _=>False)
  (W:∀(w:World) (H:Hp) (s:AD) (e:mT) (s':AD),CX w [] H s (λ_ _ _=>False) e s'->False) :
  ahF q C XP YP l.row.toRowW d [] (λf vs=>ahD f vs):=by
 refine Att.attach_call hn U λw s₀ M mg mb O o pm cd doc a vs ns G Y ho hd hcd R L I z hg=>?_;have KX:=hY w _ Y;let⟨fd,hb,hF⟩:=F w mg O _ KX G.T.g R;exact FY KX G.T.g G.T.b G.T.builtins G.T.nolimit (by let⟨m,h,_⟩:=(G.T.seer hq).mods;exact⟨m,h⟩) hg L I (aas z Z) hr hF hb (λH hO hS=>S w H a ns z hO hS) λH e s'=>W w H M e s'
def cx(s:Stmt):Arguments:=match s with
 | .FunctionDef _ a _ _ _ _ _ _ _ _=>a
 |_=>{posonlyargs:=[],args:=[],vararg:=none,kwonlyargs:=[],kw_defaults:=[],kwarg:=none,defaults:=[]}
def bH(s:Stmt):List Stmt:=match s with
 | .FunctionDef _ _ b _ _ _ _ _ _ _=>b
 |_=>[]
def ab(s:Stmt):Scope:=match s with
 | .FunctionDef _ _ _ _ _ _ d _ _ _=>d
 |_=>{kind:=.function,names:=[],isGenerator:=false,isCoroutine:=false}
abbrev CX0:CXT:=λ_ _ _ _ _ _=>False
abbrev E0:XK:=λ_ _ _=>False
def DT:j9 CX0 X E0:=λ_ _ _ _ _ _ _ h=>h.elim
structure Fun(K:aad)(x qual:Str)(st:Stmt)(f:Addr)(fd:ab3):Prop where
 ex:∃(oc:mT) (od:Option Addr) (kV doc pm:mT) (an:Option Addr) (cdv ct:mT) (osl:Array (Option mT)),
  fd=abj x qual (cx st) (bH st) (ab st) .none kV doc pm an cdv ct/\K.lookup f=some ⟨oc,od,.func fd,osl⟩/\ado K cdv qual=true
 kp:abM K (.ref f)=true
section
variable {P:aaF}{w:World}{K:aad}{mg:Str->Option mT}{base:aaW}
theorem Fun.ok{f:Addr}{k:Nat}{sp:Sp}(F:Fun K x qual st f fd)(S:aq N ps (ab st))(len:∀vs H Q E,sp vs H Q E->vs.length=ps.length)
  (m:∀(d:mT) (A:aa4) (outer:List Env) (s:AD) (H:Hp) (vs:List V) (Q:VK) (E:XK),Room k (A.deeper (ad8 qual (ab st) s.heap.objs.size f d))->sp vs H Q E ->
   ∃t,PSs (cxOf CX0 P w K mg base N qual (ab st) f d A outer s H E).nox (bH st) t/\t {nx:=λ_ H'=>Q .non H',rt:=Q} (start N vs) H):FnOk P w K mg base CX0 (k+1) f fd ps sp:=by
 let⟨M,od,kV,L,pm,an,d,ct,I,rfl,C,u⟩:=F.ex;refine U9 C u S len λA outer s H vs Q E G z=>?_;let⟨t,h,q⟩:=m d A outer s H vs Q E G z;exact⟨t,h.nox,q⟩
theorem Fun.binds{f:Addr}(F:Fun K x qual st f fd)
  (h:∀(kV k pm:mT) (an:Option Addr) (d ct:mT) (us:List mT),us.length=ps.length->adG (abj x qual (cx st) (bH st) (ab st) .none kV k pm an d ct) ⟨us,[]⟩=pure (ps.zip us)):Binds K fd ps []:=by
 let⟨z,od,kV,k,pm,an,d,ct,s,rfl,u,m⟩:=F.ex;exact .all (h kV k pm an d ct)
def ua{f:Addr}{s:mT}{an:Option Addr}{m:Array (Option mT)}{kV h pm d ct:mT}(l:K.lookup f=some ⟨s,od,.func (abj x qual (cx st) (bH st) (ab st) .none kV h pm an d ct),m⟩)
  (c:ado K d qual=true) (k:abM K (.ref f)=true):Fun K x qual st f (abj x qual (cx st) (bH st) (ab st) .none kV h pm an d ct):=⟨⟨s,od,kV,h,pm,an,d,ct,m,rfl,l,c⟩,k⟩
end
theorem iteF(h:B):if false=true then A else B:=by simp_all
theorem iteT(h:A):if true=true then A else B:=by simp_all
def aQ(X:Cx)(scope:Scope)(cl:List (Str×Addr))(N:List Str)(s:AD)(H:Hp)(C:Addr)(ex:List Addr):Cx where
 prog:=X.prog
 w:=X.w
 K:=X.K
 mg:=X.mg
 base:=X.base
 A:=X.A
 N:=N
 s₀:=s
 H₀:=H
 env:=agr scope cl C X.env
 outer:=X.stack
 stack:=X.stack
 ex:=ex
 fn:=λ_=>false
 calm:=X.calm
 eb:=X.eb
 pn:=[]
 xe:=λ_ _=>False
theorem j3{env:Env}:∀{names:List (Str×aeA)}{acc:List (Str×Addr)},(∀y∈names,y.2 = .free->∃c,env.cells.lookup y.1=some c)->(∀x c,acc.lookup x=some c->env.cells.lookup x=some c) ->
  ∃cl,(forIn names acc λ(x:Str×aeA) (L:List (Str×Addr))=>if (x.2==aew)=true then do let c <- cellOf env x.1;pure (aeI ((x.1,c)::L))else pure (aeI L):Sem (List (Str×Addr)))=pure cl/\
   (∀x c,cl.lookup x=some c->env.cells.lookup x=some c)/\(∀y∈names,y.2 = .free->∃c,cl.lookup y.1=some c)/\(∀x,(∃c,acc.lookup x=some c)->∃c,cl.lookup x=some c)
 |[],acc,_,ha=>⟨acc,rfl,ha,λy m=>absurd m (by simp),λ_ h=>h⟩
 | (n,k)::r,acc,h,ha=>by
  rw[aeJ]
  by_cases hk:k = .free
  .subst hk;let⟨c,M⟩:=h (n,.free) aaa rfl;have z:env.cells.lookup n=some c:=M;have O:cellOf env n=pure c:=by unfold cellOf;rw[z]
   let⟨cl,I,G,F,C⟩:=j3 (env:=env) (names:=r) (acc:=(n,c)::acc) (λy m=>h y (LD _ m)) (λx d u=>by
    rw[aa3]at u
    cases hb:x==n with
    |true=>rw[hb]at u;cases u;rw[eq_of_beq hb];exact z
    |false=>rw[hb]at u;exact ha x d u)
   refine⟨cl,?_,G,λy m s=>?_,λx u=>C x ?_⟩
   .simp only[beq_self_eq_true,if_true,O,pure_bind];exact I
   .obtain rfl|m:=aaf.mp m
    .exact C n ⟨c,by rw[aa3];simp⟩
    .exact F y m s
   .obtain⟨d,hd⟩:=u;rw[aa3]
    cases hb:x==n with
    |true=>exact⟨c,rfl⟩
    |false=>exact⟨d,hd⟩
  .have hb:(k==aew)=false:=by simpa using hk
   let⟨cl,I,G,F,C⟩:=j3 (env:=env) (names:=r) (acc:=acc) (λy m=>h y (LD _ m)) ha;refine⟨cl,?_,G,λy m s=>?_,C⟩
   .simp only[hb,acg,if_false,pure_bind];exact I
   .obtain rfl|m:=aaf.mp m
    .exact absurd s hk
    .exact F y m s
theorem fQ(h:∀y∈scope.names,y.2 = .free->∃c,env.cells.lookup y.1=some c) :
  ∃cl,closureFor scope env=pure cl/\(∀x c,cl.lookup x=some c->env.cells.lookup x=some c)/\∀y∈scope.names,y.2 = .free->∃c,cl.lookup y.1=some c:=by
 let⟨cl,e,m,k,_⟩:=j3 (acc:=[]) h (λx c d=>by cases d);refine⟨cl,?_,m,k⟩;simp[closureFor]
 simp_all
def PTs(X:Cx)(ifs:List Expr)(t:TT):Prop:=
 ∀(pins:List (Addr×Obj)) (s:AD) (σ:St) (H:Hp) (Q:Bool->Hp->Prop),Inv X pins σ H s->t σ H Q ->
  wpAny (model X.prog X.w) X.A (forIn ifs true λc r=>if r=true then do let ok <- isTrue c X.env (eval c X.env);pure (aeI ok)else pure (aeI r)) (TP X pins σ Q) X.xe s
def LC:TT:=λ_ H Q=>Q true H
theorem Oj:PTs X [] LC:=λ_ _ _ H _ I h=>wpAny_tests_nil ⟨H,I,h⟩
theorem JT{t:TT}(d:PT X c t):PTs X [c] t:=λpins s σ H Q I h=>wpAny_tests_one (d pins s σ H Q I h)
def PB(X:Cx)(bd:Sem PUnit)(t:TS):Prop:=
 ∀(pins:List (Addr×Obj)) (s:AD) (σ:St) (H:Hp) (D:Ends),Inv X pins σ H s->t D σ H->wpAny (model X.prog X.w) X.A bd (λ_ d=>∃σ' H',Inv X pins σ' H' d/\D.nx σ' H') X.xe s
def ud(J:It)(g:TG)(tb:TS):TS:=λD σ H=>∃W:Nat->Nat->St->Hp->Prop,(∃m,W 0 m σ H)/\∀i m σ H,W i m σ H ->
 (J.stop i H/\D.nx σ H)\/(J.go i H/\∃N:St->Hp->Prop,(∀σ' H',N σ' H'->∃h,h<m/\W (i+1) h σ' H')/\∀x H',J.yld i H x H'->g x σ H' λd H2=>tb {D with nx:=N,ct:=N,bk:=D.nx} d H2)
def tIfT(tt:TT)(tb:TS):TS:=λD σ H=>tt σ H λb H1=>if b=true then tb D σ H1 else D.nx σ H1
def yw(l:Addr)(d:TE):TS:=λD σ H=>d σ H λx H1=>∃xs,H1 l=some (.lst xs)/\xs.length<aai/\D.nx σ (upd H1 l (.lst (xs++[x])))
theorem ui{gens:List Comprehension}{d:Nat}{O:Addr}{acc:mT}{ipos:Pos}{bd:Sem PUnit}{g:TG}{tt:TT}
  (M:compTurn (.ListComp elt gens scope pos) d (.ref O) acc X.env=(do
   acH ipos
   match <- acU (.ref O)with
   |none=>pure (.done .next)
   | some v=>
    adU tg (.ref O) v
    aft tg X.env v
    let mut ok:=true
    for c in ifs do
     if ok then ok <- isTrue c X.env (eval c X.env)
    if ok then bd
    again (.compLoop (.ListComp elt gens scope pos) d (.ref O) acc X.env)))
  (hx:X.xe=λ_ _=>False) (hc:X.calm=true) (T:Turn X.prog X.w X.K tg J fp O tn) (hg:PG X tg g) (ht:PTs X ifs tt) (C:PB X bd tb)
  {s:AD} (I:Inv X pins σ H s) (st:tn 0 s.heap) (f:∀b∈fp,FpOk X pins H b) (h:ud J g (tIfT tt tb) D σ H) :
  adV (model X.prog X.w) X.A (.compLoop (.ListComp elt gens scope pos) d (.ref O) acc X.env) (λr s'=>r = .ok .next/\∃σ' H',Inv X pins σ' H' s'/\D.nx σ' H') s:=by
 let⟨W,⟨m0,w0⟩,turn⟩:=h;have F:∀{H':Hp},(∀b∈fp,H' b=none)->∀b∈fp,FpOk X pins H' b:=λhn b C=>⟨hn b C,(f b C).2⟩;have nox:∀{α:Type}{t:Sem α}{Q:α->AD->Prop}{E:mT->AD->Prop}{s:AD},wpAny (model X.prog X.w) X.A t Q X.xe s->wpAny (model X.prog X.w) X.A t Q E s:=λh=>ace h (λ_ _ q=>q) λ_ _ z=>by
  rw[hx]at z;exact z.elim
 refine codeAny_loop rfl (λn s'=>∃i σ' H',Inv X pins σ' H' s'/\tn i s'.heap/\(∀b∈fp,H' b=none)/\W i n σ' H') ?_ m0 ⟨0,σ,H,I,st,λb C=>(f b C).1,w0⟩;intro n s3 ⟨i,G,H3,I3,S,Y,w3⟩;show wpAny _ X.A ((compTurn (.ListComp elt gens scope pos) d (.ref O) acc X.env).onRaise (λx=>do noteFrame x X.env;theTreesLotGoes x)) _ _ s3;refine wpAny_noted ?_;rw[M];refine gT (m:=acH _) (adc (gT ?_));rcases turn i n G H3 w3 with⟨stop,qn⟩|⟨go,N,hN,step⟩
 .refine thn (T.done X rfl rfl rfl hc i pins s3 G H3 _ I3 (F Y) S stop) λr s4 ⟨hr,I4⟩=>?_;subst hr;exact Io ⟨rfl,G,H3,I4,qn⟩
 .refine thn (T.item X rfl rfl rfl hc i pins s3 G H3 _ I3 (F Y) S go) λr s4 ⟨u,hr,h4⟩=>?_;subst hr;refine gT (thn h4 λ_ s5 ⟨x,H5,I5,r5,y5,L,fr5⟩=>?_);have I5':=I5.pinned (F fr5) (T.obj _ _ L);refine gT (nox (thn (hg _ s5 G H5 x u _ I5' r5 (step x H5 y5)) λ_ s6 ⟨U,H6,I6,q6⟩=>?_));refine gT (nox (thn (ht _ s6 U H6 _ I6 q6) λok s7 ⟨H7,I7,q7⟩=>?_));have V:∀{k:St}{R:Hp}{s8:AD},Inv X (pins++uh fp s5.heap) k R s8->N k R->∃m,m<n/\∃i σ' H',Inv X pins σ' H' s8/\tn i s8.heap/\(∀b∈fp,H' b=none)/\W i m σ' H':=λ{k R s8} Z n8=>by
   let⟨m',hm,w8⟩:=hN k R n8;refine⟨m',hm,i+1,k,R,Z.unpinned,T.keep _ _ _ L λb C o e=>(Z.pin (b,o) (aaI _ (aaI _ (gU C e)))).1,λb C=>?_,w8⟩;let⟨o,e,_⟩:=T.obj _ _ L b C;exact(Z.pin (b,o) (aaI _ (aaI _ (gU C e)))).2.1
  cases ok with
  |false=>
   rw[if_neg aam]at q7;exact Io ⟨rfl,V I7 q7⟩
  |true=>
   rw[if_pos rfl]at q7;exact gT (nox (thn (C _ s7 U H7 _ I7 q7)<|by intro _ s8 ⟨k,R,Z,q8⟩;exact Io ⟨rfl,V Z q8⟩))
theorem uz{d:TE}(C:PE X elt d):PB X (do let _ <- call (.builtin "list.append") [.ref l,<-eval elt X.env]) (yw l d):=by
 intro pins s σ H D I h;refine gT (thn (C pins s σ H _ I h) λu s1 ⟨x,H1,m,r1,xs,M,z,q⟩=>?_);refine gT (thn ?_ λ_ F k=>Io k);exact thn (lM pins s1 σ H1 (.ref l) [x] _ [u] (λv H'=>v = .non/\D.nx σ H') m rfl (.cons r1 .nil) ⟨l,xs,x,rfl,rfl,M,z,rfl,q⟩)<|by intro v F ⟨_,H',L,_,_,G⟩;exact⟨σ,H',L,G⟩
theorem fc(env:Env)(x:Str):∀names:List (Str×aeA),(names.map λ(n,k)=>if (k==aew&&env.scope.kind == .function&&env.kindOf n==some .cell)then(n,ahG)else(n,k)).lookup x =
  (names.lookup x).map λk=>if (k==aew&&env.scope.kind == .function&&env.kindOf x==some .cell)then ahG else k
 |[]=>rfl
 | (n,k)::r=>by
  have d:=fc env x r;rw[aak];dsimp only
  cases hx:x==n with
  |true=>
   have e:=eq_of_beq hx;subst e
   by_cases h:(k==aew&&env.scope.kind == .function&&env.kindOf x==some .cell)=true
   .simp only[aa3,hx,acG,if_pos h]
   .simp only[aa3,hx,acG,if_neg h]
  |false=>
   split
   .simp only[aa3,hx];exact d
   .simp only[aa3,hx];exact d
def ic{k:aeA}:∀{names:List (Str×aeA)},names.lookup x=some k->(x,k)∈names:=λh=>acu h
theorem nr(d:∀y∈scope.names,y.2≠.cell)(h:(agA scope env).names.lookup x=some .cell\/(agA scope env).names.lookup x=some .free):scope.names.lookup x=some .free:=by
 unfold agA at h;simp only[fc]at h
 cases e:scope.names.lookup x with
 |none=>rw[e]at h;rcases h with h|h<;>cases h
 |some k=>
  rw[e]at h;simp only[acG]at h;have hk:=d _ (ic e)
  by_cases m:k = .free
  .rw[m]
  .simp_all
def sV(h:scope.names.lookup x=some .free):(agA scope env).names.lookup x=some .cell\/(agA scope env).names.lookup x=some .free:=by
 unfold agA;simp only[fc,h,acG];split
 .exact .inl rfl
 .exact .inr rfl
def ir(own:List Str)(ps:List Nat)(σ:St):St:=own.map (λ_=>none)++ps.map λi=>(σ[i]?).join
structure ck(own fr:List Str)(scope sc:Scope):Prop where
 kind:scope.kind = .function
 nocell:∀y∈scope.names,y.2≠.cell
 names:∀y∈scope.names,y.2 = .local->scope.names.lookup y.1=some .local
 there:∀y∈scope.names,y.2 = .free->sc.names.lookup y.1=some .cell\/sc.names.lookup y.1=some .free
 fr:∀x∈fr,scope.names.lookup x=some .free
section
variable {X:Cx}{scope sc:Scope}{own fr:List Str}{ps:List Nat}
theorem nQ{n:Expr}{rest:List Comprehension}{bdy:Env->mT->Sem PUnit}{g:TG}{tt:TT}{tb:Addr->TS}{cl:List (Str×Addr)}{R:mT->Addr->Result->AD->Prop}
  (S:ck own fr scope sc) (hsc:X.env.scope=sc) (hps:ps.map (λi=>X.N[i]?)=fr.map some) (hc:X.calm=true) (G:∀x c,cl.lookup x=some c->X.env.cells.lookup x=some c) (hcl2:∀y∈scope.names,y.2 = .free->∃c,cl.lookup y.1=some c)
  (hturn:∀env it acc,compTurn (.ListComp elt (⟨tg,n,ifs,0⟩::rest) scope pos) 0 it acc env=(do
   acH n.pos
   match <- acU it with
   |none=>pure (.done .next)
   | some v=>
    adU tg it v
    aft tg env v
    let mut ok:=true
    for c in ifs do
     if ok=true then ok <- isTrue c env (eval c env)
    if ok then bdy env acc
    again (.compLoop (.ListComp elt (⟨tg,n,ifs,0⟩::rest) scope pos) 0 it acc env)))
  (hg:∀s H C ex,PG (aQ X scope cl (own++fr) s H C ex) tg g) (ht:∀s H C ex,PTs (aQ X scope cl (own++fr) s H C ex) ifs tt)
  (d:∀s H C ex l,PB (aQ X scope cl (own++fr) s H C ex) (bdy (agr scope cl C X.env) (.ref l)) (tb l))
  {s:AD}{it:Addr} (I:Inv X pins σ H s) (T:Turn X.prog X.w X.K tg J fp it tn) (st:tn 0 s.heap) (f:∀b∈fp,FpOk X pins H b)
  (h:∀l,H l=none->ud J g (tIfT tt (tb l)) {nx:=λ_ H'=>Q (.ref l) H',rt:=λ_ _=>False} (ir own ps σ) (upd H l (.lst [])))
  (hR:∀l C H' s',(∃m,s'.heap.Ns C m)->Inv X pins σ H' s'->FpOk X pins H' C->Q (.ref l) H'->R (.ref l) C (.ok .next) s') :
  wpAny (model X.prog X.w) X.A (ag6 []) (λacc s₃=>wpAny (model X.prog X.w) X.A (newFunctionEnv scope X.env.globals cl [] X.env.qual none .none (some X.env)) (λZ s₄=>
   adV (model X.prog X.w) X.A (.compStart (.ListComp elt (⟨tg,n,ifs,0⟩::rest) scope pos) 0 (.ref it) acc {Z with scope:=agA scope X.env}) (R acc Z.locals) s₄) E s₃) E s:=by
 refine abe (wpAny_newFunctionEnv S.nocell (by intro y hy;simp at hy) (λV U O=>?_) S.kind);have M:Inv X pins σ (upd H s.heap.objs.size (.lst [])) {s with heap:=s.heap.push {cls:=.type "list",data:=.seq ([]:List mT).toArray} }:=I.lnew (t':=s.toks) (ys:=[]) .nil (abm _);generalize hS3:({s with heap:=s.heap.push {cls:=.type "list",data:=.seq ([]:List mT).toArray} }:AD)=L at M U O⊢;have hsz:L.heap.objs.size=s.heap.objs.size+1:=by rw[<-hS3];exact abC _ _
 have hl:H s.heap.objs.size=none:=I.hok.fresh (Mt _);have kept0:∀b o,s.heap.get? b=some o->L.heap.get? b=some o:=λb o e=>by rw[<-hS3];exact Ld _ e
 have F:∀b o,L.heap.get? b=some o->V.get? b=some o:=λb o e=>O.extBut b o (aa1 (aao e)) (Ld _ e);have fpl:∀b∈fp,b<s.heap.objs.size:=λb d=>by let⟨o,e,_⟩:=T.obj _ _ st b d;exact aao e
 have fpH:∀b∈fp,(upd H s.heap.objs.size (.lst [])) b=none:=λb d=>by rw[av (aa1 (fpl b d))];exact(f b d).1
 have fpS:∀b∈fp,b∉frs X.stack:=λb d z=>by
  rcases aaf.mp (I.stkSub b z)with e|e
  .exact(f b d).2.1 e
  .exact(f b d).2.2.1 e
 have ok':(aQ X scope cl (own++fr) L (upd H s.heap.objs.size (.lst [])) L.heap.objs.size fp).Ok:=by
  refine⟨I.ok.mod,S.kind,I.ok.glob,I.ok.blt,Mt _,λx y c h1 h2=>I.ok.inj x y c (G x c h1) (G y c h2),λx hx=>?_,λx c hf=>(by cases hf),I.ok.hd,I.ok.frames,.inl rfl,λb d=>⟨?_,λx c hx=>(f b d).2.2.2.2.1 x c (G x c hx)⟩,
   λb o e=>M.bs b o e,aas M.ok.bsz M.sz,λb o e d=>?_,λb d=>fpS b d,M.stack,M.stkFree⟩
  .exact hcl2 (x,.free) (ic (nr S.nocell hx)) rfl
  .exact aa1 (aat (fpl b d) (by rw[hsz];exact afl _))
  .rcases (f b d).2.2.2.1 with z|z
   .exact I.ok.noex b o e z
   .exact absurd (aat (aao (I.ok.bs b o e).1) z) (acO _)
 have I4:Inv (aQ X scope cl (own++fr) L (upd H s.heap.objs.size (.lst [])) L.heap.objs.size fp) [] (ir own ps σ) (upd H s.heap.objs.size (.lst [])) {L with heap:=V,toks:=L.toks+([]:List (Str×mT)).length}:=by
  refine⟨ok',rfl,M.bare,Un.kept F,⟨_,U,λi x v e1 W e3=>?_⟩,λx c e=>?_,M.hok.fresh (Mt _),λx c e=>M.freeC x c (G x c e),λp hp=>absurd (show p∈([]:List (Addr×Obj))from hp) (by simp),M.hok.kept F,?_⟩
  .have e1':(own++fr)[i]?=some x:=e1;unfold ir at W
   by_cases hi:i<own.length
   .rw[aaC (by simpa using hi),aah]at W
    cases q:own[i]? with
    |none=>rw[q]at W;cases W
    |some z=>rw[q]at W;cases W
   .rw[aaL (by simpa using hi),iO,aah]at W;rw[aaL (by simpa using hi)]at e1'
    cases q:ps[i-own.length]? with
    |none=>rw[q]at W;cases W
    | some p=>
     rw[q]at W;have Y:(σ[p]?).join=some v:=aaB W;have hσ:σ[p]?=some (some v):=by
      cases z:σ[p]? with
      |none=>rw[z]at Y;cases Y
      |some w=>rw[z]at Y;cases w with
       |none=>cases Y
       |some w=>cases Y;rfl
     have hN:X.N[p]?=some x:=by
      have z:=congrArg (λl=>l[i-own.length]?) hps;simp only[aah,q,e1',acG,ag7]at z;exact z
     have hx:x∈fr:=GT e1';have hfr:=S.fr x hx;have hsee:=S.there (x,.free) (ic hfr) rfl;let⟨m,hn,hlk⟩:=M.loc;let⟨u,ru,lk⟩:=hlk p x v hN hσ (by rw[hsc];exact .inr hsee);refine⟨u,ru,.inr ⟨sV hfr,?_⟩⟩;rcases lk with⟨k,_⟩|⟨_,c,ec,z⟩
     .have k':X.env.scope.names.lookup x=some .local:=k;rw[hsc]at k';rcases hsee with q2|q2<;>(rw[k']at q2;cases q2)
     .obtain⟨c',ec'⟩:=hcl2 (x,.free) (ic hfr) rfl;have:=G x c' ec';rw[ec]at this;cases this;let⟨o,ho,hd⟩:=z;exact⟨c,ec',o,F _ _ ho,hd⟩
  .obtain⟨v,o,ho,hd⟩:=M.cell x c (G x c e);exact⟨v,o,F _ _ ho,hd⟩
  .show(ir own ps σ).length=(own++fr).length;have:=congrArg adn hps;rw[iO,iO]at this;unfold ir;rw[aaj,aaj,iO,iO,this]
 have f4:∀b∈fp,FpOk (aQ X scope cl (own++fr) L (upd H s.heap.objs.size (.lst [])) L.heap.objs.size fp) [] (upd H s.heap.objs.size (.lst [])) b:=λb d=>
  ⟨fpH b d,(ok'.exf b d).1,fpS b d,.inl d,(ok'.exf b d).2,λp hp=>absurd (show p∈([]:List (Addr×Obj))from hp) (by simp)⟩
 have st4:tn 0 V:=T.keep 0 _ _ st λb d o e=>F b o (kept0 b o e);have loop:adV (model X.prog X.w) X.A (.compLoop (.ListComp elt (⟨tg,n,ifs,0⟩::rest) scope pos) 0 (.ref it) (.ref s.heap.objs.size) (agr scope cl L.heap.objs.size X.env)) (R (.ref s.heap.objs.size) L.heap.objs.size) {L with heap:=V,toks:=L.toks+([]:List (Str×mT)).length}:=by
  refine ad7 (ui (X:=aQ X scope cl (own++fr) L (upd H s.heap.objs.size (.lst [])) L.heap.objs.size fp) (hturn _ _ _) rfl hc T (hg _ _ _ _) (ht _ _ _ _) (d _ _ _ _ _) I4 st4 f4 (h _ hl)) λr s' ⟨er,σ5,H5,I5,q5⟩=>?_;subst er;have I6:Inv X pins σ H5 s':=M.call' (s':=s') I5.os I5.base I5.hok I5.bare λb d=>⟨(f b d).2.2.2.1,(f b d).2.1,(f b d).2.2.2.2.1,(f b d).2.2.2.2.2⟩;have hm:∃m,s'.heap.Ns L.heap.objs.size m:=let ⟨m,hn,_⟩:=I5.loc;⟨m,hn⟩;exact hR _ _ H5 s' hm I6 (M.fpOk (Mt _) I5.free) q5
 exact codeAny_compStart_list loop (T.self _ 0 _ _ _ st4 loop)
def z6(L:TI)(own:List Str)(ps:List Nat)(tl:Addr->It->TS):TE:=λσ H Q=>L σ H λJ H1=>∀l,H1 l=none->tl l J {nx:=λ_ H'=>Q (.ref l) H',rt:=λ_ _=>False} (ir own ps σ) (upd H1 l (.lst []))
def tl1(g:TG)(tt:TT)(K:TE):Addr->It->TS:=λl J=>ud J g (tIfT tt (yw l K))
def tl2(g:TG)(tt:TT)(B:TI)(M:TG)(F:TT)(K:TE):Addr->It->TS:=λl J=>ud J g (tIfT tt λD σ H=>B σ H λd H1=>ud d M (tIfT F (yw l K)) D σ H1)
theorem GA{Y:Cx}{C k A j:Expr}{z t:List Expr}{B:TI}{M:TG}{F:TT}{K:TE}(S:Y.xe=λ_ _=>False)(hc:Y.calm=true)(hi:PI Y A j B)(hg:PG Y A M)(Z:PTs Y t F)(he:PE Y elt K)
  (W:∀x,aaQ j Y.env x=pure x) :
  PB Y (do
   let x <- eval j Y.env
   acH j.pos
   let x <- aaQ j Y.env x
   let _ <- runOwn (.compStart (.ListComp elt [⟨C,k,z,0⟩,⟨A,j,t,0⟩] scope pos) 1 (<- adr [x] (afU x)) (.ref l) Y.env) Y.env) (λD σ H=>B σ H λJ2 H1=>ud J2 M (tIfT F (yw l K)) D σ H1):=by
 intro pins s σ H D I h;refine gT (thn (hi pins s σ H _ I h) λv s1 h1=>?_);refine gT (adc (gT (wpAny_of_eq (W v) (gT (abZ (thn h1 λitv s2 U=>?_))))));let⟨it,fp,tn,J,H2,e,V,T,G,f2,q⟩:=U;subst e;have u:∀O,O=s2->adV (model Y.prog Y.w) Y.A (.compLoop (.ListComp elt [⟨C,k,z,0⟩,⟨A,j,t,0⟩] scope pos) 1 (.ref it) (.ref l) Y.env) (λr L=>match r with| .ok f=>wpAny (model Y.prog Y.w) Y.A (pure PUnit.unit) (λ_ L=>∃σ' H',Inv Y pins σ' H' L/\D.nx σ' H') Y.xe L | .error e=>cameBackBy (model Y.prog Y.w) Y.A Y.env Y.xe e L) O:=by
  rintro O rfl;refine ad7 (ui (X:=Y) (elt:=elt) (gens:=[⟨C,k,z,0⟩,⟨A,j,t,0⟩]) (scope:=scope) (pos:=pos) (d:=1) (acc:=.ref l) (ipos:=j.pos) (ifs:=t)
   (bd:=do let _ <- call (.builtin "list.append") [.ref l,<-eval elt Y.env]) rfl S hc T hg Z (uz he) V G f2 q) λr L ⟨er,R⟩=>?_
  subst er;exact Io R
 refine gT (wpAny_runOwn ?_);show adV (model Y.prog Y.w) Y.A _ _ s2;refine codeAny_of_tree ?_;refine wpAny_notedAt ?_;unfold compStart;show wpAny _ _ (ask >>= _) _ _ s2;refine gT (m:=ask) (wpAny_askSetting (wpAny_ite ?_));split
 .first
   |exact gT (Io (Io (ahg rfl (u _ rfl))))
   |exact Io (ahg rfl (u _ rfl))
 .first
   |exact gT (abI (gT (adc (gT (T.self _ 0 _ _ _ G (Io (ahg rfl (u _ rfl))))))))
   |(refine gT (abI ?_);show wpAny _ _ (acH j.pos >>= _) _ _ s2;exact gT (adc (gT (T.self _ 0 _ _ _ G (Io (ahg rfl (u _ rfl)))))))
theorem Inv.junk{s:AD}{C:Addr}(I:Inv X pins σ H s)(f:FpOk X pins H C){h':aaW}(h:ab2 C s.heap h'):Inv X pins σ H {s with heap:=h' }:=
 I.turned (t':=s.toks) (λb o ne e=>(h.2 b ne).trans e) f.1 f.2.1 f.2.2.2.1 f.2.2.2.2.1 f.2.2.2.2.2
variable {elt tg n:Expr}{ifs:List Expr}{pos G N:Pos}{L:TI}{g:TG}{tt:TT}{K:TE}
def qQ{s:AD}(S:ck own fr scope sc)(h:X.env.scope=sc)(I:Inv X pins σ H s):∀y∈scope.names,y.2 = .free->∃c,X.env.cells.lookup y.1=some c:=λy d hk=>
 I.ok.has y.1 (by show X.env.scope.names.lookup y.1=_\/X.env.scope.names.lookup y.1=_;rw[h];exact S.there y d hk)
theorem Gn(S:ck own fr scope sc)(hi:PI X tg n L)(hg:∀cl s H C ex,PG (aQ X scope cl (own++fr) s H C ex) tg g)(Y:∀cl s H C ex,PTs (aQ X scope cl (own++fr) s H C ex) ifs tt)
  (he:∀cl s H C ex,PE (aQ X scope cl (own++fr) s H C ex) elt K) (d:X.env.scope=sc:=by rfl) (u:ps.map (λi=>X.N[i]?)=fr.map some:=by rfl) (hc:X.calm=true:=by rfl) (W:∀x,aaQ n X.env x=pure x:=by intro _;rfl) :
  PE X (.ListComp elt [⟨tg,n,ifs,0⟩] scope pos) (z6 L own ps (tl1 g tt K)):=by
 intro pins s σ H Q I h;let⟨cl,R,h1,U⟩:=fQ (qQ S d I);refine adJ (use:=none) rfl W R S.kind S.names (thn (hi pins s σ H _ I h) λv s1 Z=>thn Z λitv s2 q2=>?_);let⟨M,fp,tn,J,H2,e,V,T,k,f2,q⟩:=q2;subst e;exact nQ S d u hc h1 U (λenv M z=>compTurn_list elt tg n ifs scope pos M z env)
  (hg cl) (Y cl) (λs H C ex l=>uz (he cl s H C ex)) V T k f2 q λl C H' s' hm I' fk q'=>by
   let⟨m,O⟩:=hm;exact⟨m,O,λh' F=>⟨.ref l,H',I'.junk fk F,rfl,q'⟩⟩
theorem rm{s':AD}{C:Addr}{Q:St->Hp->Prop}(U:X.N.Nodup)(S:X.N[i]?=some y)(k:X.env.scope.names.lookup y=some .local)(W:∃m,s'.heap.Ns C m)(I:Inv X pins σ H' s')(O:FpOk X pins H' C)(q:Q (σ.set i (some (.ref l))) H') :
  wpAny (model X.prog X.w) X.A (aft (.Name y N) X.env (.ref l)) (λ_ s=>∃m,s.heap.Ns C m/\∀h',ab2 C s.heap h'->∃σ' d,Inv X pins σ' d {s with heap:=h' }/\Q σ' d) E s':=by
 let⟨m,R⟩:=W;refine wpAny_assign_Name (uj I U S (.inl k) (v:=.ref l) rfl (λs u ⟨a,V,h⟩=>?_) (.inr k));have F:C≠a:=by
  rcases h with h|h
  .rw[h];exact O.2.1
  .exact λz=>O.2.2.2.2.1 _ _ h z.symm
 exact⟨m,R.sameBut V F,λh' M=>⟨_,H',u.junk O M,q⟩⟩
theorem FU(S:ck own fr scope sc)(hN:X.N.Nodup)(hy:X.N[i]?=some y)(M:X.env.scope.names.lookup y=some .local)(hi:PI X tg n L)(hg:∀cl s H C ex,PG (aQ X scope cl (own++fr) s H C ex) tg g)(V:∀cl s H C ex,PTs (aQ X scope cl (own++fr) s H C ex) ifs tt)
  (Y:∀cl s H C ex,PE (aQ X scope cl (own++fr) s H C ex) elt K) (F:abA (.ListComp elt [⟨tg,n,ifs,0⟩] scope pos) (some (.Name y N)) G.line X.env=pure true:=by rfl)
  (d:X.env.scope=sc:=by rfl) (u:ps.map (λi=>X.N[i]?)=fr.map some:=by rfl) (hc:X.calm=true:=by rfl) (hs:∀x,aaQ n X.env x=pure x:=by intro _;rfl) :
  PS X (.Assign [.Name y N] (.ListComp elt [⟨tg,n,ifs,0⟩] scope pos) G) (tAsg (z6 L own ps (tl1 g tt K)) (Ef i)):=by
 intro pins s σ H D I h;let⟨cl,R,h1,U⟩:=fQ (qQ S d I);rw[show exec _ X.env=_ from agf _ _ _ _ F];refine gT (m:=acH _) (adc (gT ?_));refine gT (ace (adJ rfl hs R S.kind S.names (thn (hi pins s σ H _ I h) λv s1 W=>thn W λitv s2 q2=>?_)) (λ_ Z hq=>Io (Io hq)) λ_ _ e=>e);let⟨O,fp,tn,J,H2,e,I2,T,k,f2,q⟩:=q2;subst e;exact nQ (Q:=λv H'=>D.nx (σ.set i (some v)) H') (tb:=λl=>yw l K) S d u hc h1 U (λenv O z=>compTurn_list elt tg n ifs scope pos O z env)
  (hg cl) (V cl) (λs H C ex l=>uz (Y cl s H C ex)) I2 T k f2 q λl C H' Z hm I' fk q'=>rm hN hy M hm I' fk q'
variable {A j:Expr}{t:List Expr}{B:TI}{M:TG}{F:TT}
theorem oz(elt d n:Expr)(ifs:List Expr)(A j:Expr)(t:List Expr)(scope:Scope)(pos:Pos)(h acc:mT)(env:Env) :
  compTurn (.ListComp elt [⟨d,n,ifs,0⟩,⟨A,j,t,0⟩] scope pos) 0 h acc env=(do
   acH n.pos
   match <- acU h with
   |none=>pure (.done .next)
   | some v=>
    adU d h v
    aft d env v
    let mut ok:=true
    for c in ifs do
     if ok=true then ok <- isTrue c env (eval c env)
    if ok then
     (do
      let x <- eval j env
      acH j.pos
      let x <- aaQ j env x
      let _ <- runOwn (.compStart (.ListComp elt [⟨d,n,ifs,0⟩,⟨A,j,t,0⟩] scope pos) 1 (<- adr [x] (afU x)) acc env) env)
    again (.compLoop (.ListComp elt [⟨d,n,ifs,0⟩,⟨A,j,t,0⟩] scope pos) 0 h acc env)):=by
 simp only[ bind_assoc];rfl
theorem EF(S:ck own fr scope sc)(hN:X.N.Nodup)(hy:X.N[i]?=some y)(W:X.env.scope.names.lookup y=some .local)(hi:PI X tg n L)(hg:∀cl s H C ex,PG (aQ X scope cl (own++fr) s H C ex) tg g)(ht:∀cl s H C ex,PTs (aQ X scope cl (own++fr) s H C ex) ifs tt)
  (hi2:∀cl s H C ex,PI (aQ X scope cl (own++fr) s H C ex) A j B) (V:∀cl s H C ex,PG (aQ X scope cl (own++fr) s H C ex) A M) (Y:∀cl s H C ex,PTs (aQ X scope cl (own++fr) s H C ex) t F)
  (he:∀cl s H C ex,PE (aQ X scope cl (own++fr) s H C ex) elt K) (U:abA (.ListComp elt [⟨tg,n,ifs,0⟩,⟨A,j,t,0⟩] scope pos) (some (.Name y N)) G.line X.env=pure true:=by rfl)
  (d:X.env.scope=sc:=by rfl) (z:ps.map (λi=>X.N[i]?)=fr.map some:=by rfl) (hc:X.calm=true:=by rfl) (hs:∀x,aaQ n X.env x=pure x:=by intro _;rfl)
  (k:∀cl C x,aaQ j (agr scope cl C X.env) x=pure x:=by intro _ _ _;rfl) :
  PS X (.Assign [.Name y N] (.ListComp elt [⟨tg,n,ifs,0⟩,⟨A,j,t,0⟩] scope pos) G) (tAsg (z6 L own ps (tl2 g tt B M F K)) (Ef i)):=by
 intro pins s σ H D I h;let⟨cl,ec,h1,h2⟩:=fQ (qQ S d I);rw[show exec _ X.env=_ from agf _ _ _ _ U];refine gT (m:=acH _) (adc (gT ?_));refine gT (ace (adJ (Q:=λ_ O=>SP X pins D .next O) rfl hs ec S.kind S.names (thn (hi pins s σ H _ I h) λv s1 q1=>thn q1 λitv s2 q2=>?_)) (λ_ O hq=>Io (Io hq)) λ_ _ e=>e);let⟨Z,fp,tn,J,H2,e,I2,T,u,f2,q⟩:=q2;subst e;exact nQ (Q:=λv H'=>D.nx (σ.set i (some v)) H') S d z hc h1 h2 (λenv Z R=>oz elt tg n ifs A j t scope pos Z R env)
  (hg cl) (ht cl) (λs H C ex l=>GA rfl hc (hi2 cl s H C ex) (V cl s H C ex) (Y cl s H C ex) (he cl s H C ex) (k cl C)) I2 T u f2 q λl C H' O hm I' fk q'=>rm hN hy W hm I' fk q'
end
def FzL(K:aad)(H:Hp)(a:Addr)(xs:List V):Prop:=
 (∃o,H a=some (.frz o (.lst xs))) \/
  ∃(o:Obj) (d:Array mT) (n:Nat),K.lookup a=some o/\o.cls = .type "list"/\o.dict=none/\o.data = .seq d n/\d.size≤aai/\Vals xs d.toList
theorem FzL.sq{K:aad}(h:FzL K H a xs):SqL K H a xs:=by
 rcases h with⟨o,h⟩|h
 .exact .inl (.inr ⟨o,h⟩)
 .exact .inr h
structure Kd where
 K:aad
 w:World
instance:Coe Kd aad:=⟨Kd.K⟩
mutual
def fi(w:World):aD->Int
 | .int i=>hashInt i
 | .str x=>hashStr w x
 | .tuple ds=>reduceHash (abG (iU w ds))
 |_=>0
def iU(w:World):List aD->List Int
 |[]=>[]
 |d::ds=>fi w d::iU w ds
end
mutual
def hkD:aD->Bool
 | .int _=>true
 | .str _=>true
 | .tuple ds=>hkA ds
 |_=>false
def hkA:List aD->Bool
 |[]=>true
 |d::ds=>hkD d&&hkA ds
end
def isKd(kvs:List (aD×aD)):Bool:=kvs.all λk=>match k.1 with| .int _=>true | .str _=>true|_=>false
def BF(kvs:List (aD×aD)):Prop:=isKd kvs=false/\(kvs.map (·.1)).Nodup/\∀k∈kvs.map (·.1),hkD k=true
def dXp(a:Addr)(es:List (Int×V×V))(h:aaW):Prop:=
 (a==abu)=false/\es.length≤aai/\∃(o:Obj) (b:Array ab8) (c:Nat),h.get? a=some o/\o.ExactDict/\o.data = .dict b c/\
  abL (λ(e:Int×V×V) (d:ab8)=>d.hash=e.1/\RelV e.2.1 d.key/\RelV e.2.2 d.val) es b.toList
abbrev dX(a:Addr)(es:List (Int×V×V)):HO:=.ext (dXp a es)
def FzD(H:Hp)(a:Addr)(es:List (Int×V×V)):Prop:=∃o,H a=some (.frz o (dX a es))
def ClsN(K:Kd)(c:Str)(C:Addr):Prop:=aaG K.K aav c=some (some (.ref C))
def Uu(K:Kd)(H:Hp)(a:Addr)(c:Str)(xs:List (Str×V)):Prop:=
 ∃(o:Obj) (u:HO) (C:Addr),H a=some (.frz o u)/\o.cls = .ref C/\(∃vs,o.data = .fields vs)/\ClsN K c C/\((o.dict=none/\xs=[])\/∃(dx:Addr) (b:Obj),o.dict=some dx/\H dx=some (.frz b (.xd xs)))
def keyD:Key->aD
 | .inl i=>.int i
 | .inr x=>.str x
def excC:List (aD×aD)->Option Str
 |(.none,.str c)::_=>some c
 |_=>none
mutual
def Den(K:Kd)(H:Hp):aD->V->Prop
 | .none,v=>v = .non
 | .bool b,v=>v = .bl b
 | .int i,v=>v = .int i
 | .str x,v=>v = .str x
 | .list ds,v=>∃a d,v = .ref a/\FzL K H a d/\DenAll K H ds d
 | .tuple ds,v=>∃a d,v = .ref a/\SqT K H a d/\DenAll K H ds d
 | .dict kvs,v=>∃a,v = .ref a/\((∃e,FzD H a e/\BF kvs/\DenKV K H kvs e)\/(∃e o,H a=some (.frz o (.dK e))/\DenKK K H kvs e)\/∃c d,excC kvs=some c/\Uu K H a c d/\DenXF K H kvs d)
def DenAll(K:Kd)(H:Hp):List aD->List V->Prop
 |[],xs=>xs=[]
 |d::ds,xs=>∃v vs,xs=v::vs/\Den K H d v/\DenAll K H ds vs
def DenKV(K:Kd)(H:Hp):List (aD×aD)->List (Int×V×V)->Prop
 |[],es=>es=[]
 |(k,d)::r,es=>∃u v vs,es=(fi K.w k,u,v)::vs/\Den K H k u/\Den K H d v/\DenKV K H r vs
def DenKK(K:Kd)(H:Hp):List (aD×aD)->List (Key×V)->Prop
 |[],es=>es=[]
 |(k,d)::r,es=>∃a v vs,es=(a,v)::vs/\(k=keyD a/\∀x∈vs,x.1≠a)/\Den K H d v/\DenKK K H r vs
def DenXF(K:Kd)(H:Hp):List (aD×aD)->List (Str×V)->Prop
 |[],xs=>xs=[]
 |(k,d)::r,xs=>match k with
  | .str f=>∃v vs,xs=(f,v)::vs/\Den K H d v/\DenXF K H r vs
  |_=>DenXF K H r xs
end
structure Pers(H H':Hp):Prop where
 tups:∀b xs,H b=some (.tup xs)->H' b=some (.tup xs)
 frzs:∀b o u,H b=some (.frz o u)->H' b=some (.frz o u)
theorem Pers.trans(a:Pers H H1)(b:Pers H1 H2):Pers H H2:=⟨λc x e=>b.tups c x (a.tups c x e),λc o u e=>b.frzs c o u (a.frzs c o u e)⟩
section
variable {K:Kd}{H H':Hp}
theorem FzL.mono(p:Pers H H')(h:FzL K H a xs):FzL K H' a xs:=by
 rcases h with⟨o,h⟩|h
 .exact .inl ⟨o,p.frzs _ _ _ h⟩
 .exact .inr h
theorem SqT.mono(p:Pers H H')(h:SqT K H a xs):SqT K H' a xs:=by
 rcases h with(h|⟨o,h⟩)|h
 .exact .inl (.inl (p.tups _ _ h))
 .exact .inl (.inr ⟨o,p.frzs _ _ _ h⟩)
 .exact .inr h
mutual
theorem Den.mono(p:Pers H H'):∀{d:aD}{v:V},Den K H d v->Den K H' d v
 | .none,_,h=>h
 | .bool _,_,h=>h
 | .int _,_,h=>h
 | .str _,_,h=>h
 | .list ds,_,h=>by
  simp only[Den]at h⊢;let⟨a,x,e,f,g⟩:=h;exact⟨a,x,e,f.mono p,DenAll.mono p g⟩
 | .tuple ds,_,h=>by
  simp only[Den]at h⊢;let⟨a,x,e,f,g⟩:=h;exact⟨a,x,e,f.mono p,DenAll.mono p g⟩
 | .dict kvs,_,h=>by
  simp only[Den]at h⊢;let⟨a,e,h⟩:=h;refine⟨a,e,?_⟩;rcases h with⟨b,⟨o,f⟩,s,g⟩|⟨b,o,f,g⟩|⟨c,x,k,⟨o,u,C,t,r,j,l,i⟩,g⟩
  .exact .inl ⟨b,⟨o,p.frzs _ _ _ f⟩,s,DenKV.mono p g⟩
  .exact .inr (.inl ⟨b,o,p.frzs _ _ _ f,DenKK.mono p g⟩)
  .refine .inr <| .inr ⟨c,x,k,⟨o,u,C,p.frzs _ _ _ t,r,j,l,?_⟩,DenXF.mono p g⟩;rcases i with i|⟨dx,m,q,n⟩
   .exact .inl i
   .exact .inr ⟨dx,m,q,p.frzs _ _ _ n⟩
theorem DenAll.mono(p:Pers H H'):∀{ds:List aD}{xs:List V},DenAll K H ds xs->DenAll K H' ds xs
 |[],_,h=>h
 |d::ds,_,h=>by
  simp only[DenAll]at h⊢;let⟨v,vs,e,f,g⟩:=h;exact⟨v,vs,e,Den.mono p f,DenAll.mono p g⟩
theorem DenKV.mono(p:Pers H H'):∀{ds:List (aD×aD)}{xs:List (Int×V×V)},DenKV K H ds xs->DenKV K H' ds xs
 |[],_,h=>by simpa only[DenKV]using h
 |(k,d)::r,_,h=>by
  simp only[DenKV]at h⊢;let⟨u,v,vs,e,f,a,g⟩:=h;exact⟨u,v,vs,e,Den.mono p f,Den.mono p a,DenKV.mono p g⟩
theorem DenKK.mono(p:Pers H H'):∀{ds:List (aD×aD)}{xs:List (Key×V)},DenKK K H ds xs->DenKK K H' ds xs
 |[],_,h=>by simpa only[DenKK]using h
 |(k,d)::r,_,h=>by
  simp only[DenKK]at h⊢;let⟨u,v,vs,e,f,a,g⟩:=h;exact⟨u,v,vs,e,f,Den.mono p a,DenKK.mono p g⟩
theorem DenXF.mono(p:Pers H H'):∀{ds:List (aD×aD)}{xs:List (Str×V)},DenXF K H ds xs->DenXF K H' ds xs
 |[],_,h=>by simpa only[DenXF]using h
 |(.str f,d)::r,_,h=>by
  simp only[DenXF]at h⊢;let⟨v,vs,e,a,g⟩:=h;exact⟨v,vs,e,Den.mono p a,DenXF.mono p g⟩
 |(.none,d)::r,_,h=>by simp only[DenXF]at h⊢;exact DenXF.mono p h
 |(.bool _,d)::r,_,h=>by simp only[DenXF]at h⊢;exact DenXF.mono p h
 |(.int _,d)::r,_,h=>by simp only[DenXF]at h⊢;exact DenXF.mono p h
 |(.list _,d)::r,_,h=>by simp only[DenXF]at h⊢;exact DenXF.mono p h
 |(.tuple _,d)::r,_,h=>by simp only[DenXF]at h⊢;exact DenXF.mono p h
 |(.dict _,d)::r,_,h=>by simp only[DenXF]at h⊢;exact DenXF.mono p h
end
def DenAll.nil:DenAll K H [] []:=rfl
def DenAll.cons{d:aD}(h:Den K H d v)(t:DenAll K H ds vs):DenAll K H (d::ds) (v::vs):=by
   exact⟨v,vs,rfl,h,t⟩
theorem DenAll.paired:∀{ds:List aD}{xs:List V},DenAll K H ds xs->abL (Den K H) ds xs
 |[],_,h=>by simp[DenAll]at h;subst h;exact .nil
 |d::ds,_,h=>by
  let⟨v,vs,e,f,g⟩:=h;subst e;exact .cons f g.paired
theorem js:∀{ds:List aD}{xs:List V},abL (Den K H) ds xs->DenAll K H ds xs
 |_,_,.nil=>DenAll.nil
 |_,_,.cons f t=>DenAll.cons f (js t)
def DenAll.length(h:DenAll K H ds xs):ds.length=xs.length:=h.paired.length
theorem Paired.get'{d β:Type}{F:d->β->Prop}:∀{l:List d}{c:List β}{i:Nat}{a:d},abL F l c->l[i]?=some a->∃b,c[i]?=some b/\F a b
 |_,_,_,_,.nil,e=>by simp at e
 |_,_,0,_,.cons f _,e=>by simp at e;subst e;exact⟨_,rfl,f⟩
 |_,_,i+1,a,.cons _ t,e=>by
  let⟨b,h,g⟩:=Paired.get' t ‹_›;exact⟨b,by simpa using h,g⟩
def DenAll.get{d:aD}(h:DenAll K H ds xs)(e:ds[i]?=some d):∃v,xs[i]?=some v/\Den K H d v:=Paired.get' h.paired e
theorem Paired.get2{d β:Type}{F:d->β->Prop}:∀{l:List d}{c:List β}{i:Nat}{b:β},abL F l c->c[i]?=some b->∃a,l[i]?=some a/\F a b
 |_,_,_,_,.nil,e=>by simp at e
 |_,_,0,_,.cons f _,e=>by simp at e;subst e;exact⟨_,rfl,f⟩
 |_,_,i+1,b,.cons _ t,e=>by
  let⟨a,h,g⟩:=Paired.get2 t ‹_›;exact⟨a,by simpa using h,g⟩
def DenAll.get2(h:DenAll K H ds xs)(e:xs[i]?=some v):∃d,ds[i]?=some d/\Den K H d v:=Paired.get2 h.paired e
theorem Paired.append'{e β:Type}{F:e->β->Prop}:∀{a b:List e}{c d:List β},abL F a c->abL F b d->abL F (a++b) (c++d)
 |_,_,_,_,.nil,s=>s
 |_,_,_,_,.cons r t,s=>.cons r (Paired.append' t s)
def DenAll.append{es:List aD}{ys:List V}(h:DenAll K H ds xs)(g:DenAll K H es ys):DenAll K H (ds++es) (xs++ys):=js (Paired.append' h.paired g.paired)
theorem Paired.take'{b β:Type}{F:b->β->Prop}:∀{a:List b}{l:List β} (n:Nat),abL F a l->abL F (a.take n) (l.take n)
 |_,_,0,_=>.nil
 |_,_,_+1,.nil=>.nil
 |_,_,n+1,.cons r t=>.cons r (Paired.take' n t)
theorem Paired.drop'{b β:Type}{F:b->β->Prop}:∀{a:List b}{l:List β} (n:Nat),abL F a l->abL F (a.drop n) (l.drop n)
 |_,_,0,h=>h
 |_,_,_+1,.nil=>.nil
 |_,_,n+1,.cons _ t=>Paired.drop' n t
def DenAll.take(h:DenAll K H ds xs)(n:Nat):DenAll K H (ds.take n) (xs.take n):=js (Paired.take' n h.paired)
def DenAll.drop(h:DenAll K H ds xs)(n:Nat):DenAll K H (ds.drop n) (xs.drop n):=js (Paired.drop' n h.paired)
theorem DenAll.ints:∀ns:List Int,DenAll K H (ns.map .int) (ns.map V.int)
 |[]=>DenAll.nil
 |n::ns=>DenAll.cons rfl (DenAll.ints ns)
end
def fzOf:List (aD×aD)->Option aD
 |[(.none,.list ds)]=>some (.list ds)
 |[(.none,.dict es)]=>some (.dict es)
 |_=>none
mutual
def TAt(K:Kd)(H:Hp)(τ:List (List Nat×Addr))(p:List Nat):aD->V->Prop
 | .list ts,v=>∃a f,τ.lookup p=some a/\v = .ref a/\H a=some (.lst f)/\TAtL K H τ p 0 ts f
 | .dict kvs,v=>(∃d,fzOf kvs=some d/\Den K H d v) \/
   (fzOf kvs=none/\excC kvs=none/\∃a e,τ.lookup p=some a/\v = .ref a/\H a=some (dX a e)/\BF kvs/\TAtD K H τ p 0 kvs e) \/
   (fzOf kvs=none/\excC kvs=none/\∃a e,τ.lookup p=some a/\v = .ref a/\H a=some (.dK e)/\TAtK K H τ p 0 kvs e) \/
   ∃c a dx C f,excC kvs=some c/\τ.lookup p=some a/\v = .ref a/\H a=some (.ins C dx f)/\ClsN K c C/\TAtF K H τ p 0 kvs f
 | .none,v=>Den K H .none v
 | .bool b,v=>Den K H (.bool b) v
 | .int i,v=>Den K H (.int i) v
 | .str x,v=>Den K H (.str x) v
 | .tuple ds,v=>Den K H (.tuple ds) v
def TAtL(K:Kd)(H:Hp)(τ:List (List Nat×Addr))(p:List Nat)(i:Nat):List aD->List V->Prop
 |[],xs=>xs=[]
 |t::ts,xs=>∃v vs,xs=v::vs/\TAt K H τ (p++[i]) t v/\TAtL K H τ p (i+1) ts vs
def TAtD(K:Kd)(H:Hp)(τ:List (List Nat×Addr))(p:List Nat)(i:Nat):List (aD×aD)->List (Int×V×V)->Prop
 |[],es=>es=[]
 |(k,t)::r,es=>∃u v vs,es=(fi K.w k,u,v)::vs/\Den K H k u/\TAt K H τ (p++[i]) t v/\TAtD K H τ p (i+1) r vs
def TAtK(K:Kd)(H:Hp)(τ:List (List Nat×Addr))(p:List Nat)(i:Nat):List (aD×aD)->List (Key×V)->Prop
 |[],es=>es=[]
 |(k,t)::r,es=>∃a v vs,es=(a,v)::vs/\(k=keyD a/\∀x∈vs,x.1≠a)/\TAt K H τ (p++[i]) t v/\TAtK K H τ p (i+1) r vs
def TAtF(K:Kd)(H:Hp)(τ:List (List Nat×Addr))(p:List Nat)(i:Nat):List (aD×aD)->List (Str×V)->Prop
 |[],xs=>xs=[]
 |(k,t)::r,xs=>match k with
  | .str f=>∃v vs,xs=(f,v)::vs/\TAt K H τ (p++[i]) t v/\TAtF K H τ p (i+1) r vs
  | .none=>TAtF K H τ p (i+1) r xs
  |_=>False
end
theorem bC{β b:Type}[BEq β][LawfulBEq β]{l:List (β×b)}{p:β}{a:b}(h:l.lookup p=some a):a∈l.map (·.2):=by
 induction l with
 |nil=>cases h
 |cons x l i=>
  grind
section
variable {K:Kd}{H H':Hp}{τ:List (List Nat×Addr)}
mutual
theorem TAt.mono(f:Pers H H')(e:∀a∈τ.map (·.2),H' a=H a):∀{d:aD}{p:List Nat}{v:V},TAt K H τ p d v->TAt K H' τ p d v
 | .none,_,_,h=>by simp only[TAt]at h⊢;exact h.mono f
 | .bool _,_,_,h=>by simp only[TAt]at h⊢;exact h.mono f
 | .int _,_,_,h=>by simp only[TAt]at h⊢;exact h.mono f
 | .str _,_,_,h=>by simp only[TAt]at h⊢;exact h.mono f
 | .tuple _,_,_,h=>by simp only[TAt]at h⊢;exact h.mono f
 | .list ts,_,_,h=>by
  simp only[TAt]at h⊢;let⟨a,x,b,j,i,g⟩:=h;exact⟨a,x,b,j,(e a (bC b)).trans i,TAtL.mono f e g⟩
 | .dict kvs,_,_,h=>by
  simp only[TAt]at h⊢;rcases h with⟨d,b,h⟩|⟨l,z,a,m,b,j,i,k,g⟩|⟨l,z,a,m,b,j,i,g⟩|⟨c,a,dx,C,x,n,b,j,i,k,g⟩
  .exact .inl ⟨d,b,h.mono f⟩
  .exact .inr (.inl ⟨l,z,a,m,b,j,(e a (bC b)).trans i,k,TAtD.mono f e g⟩)
  .exact .inr (.inr (.inl ⟨l,z,a,m,b,j,(e a (bC b)).trans i,TAtK.mono f e g⟩))
  .exact .inr (.inr <| .inr ⟨c,a,dx,C,x,n,b,j,(e a (bC b)).trans i,k,TAtF.mono f e g⟩)
theorem TAtL.mono(b:Pers H H')(e:∀a∈τ.map (·.2),H' a=H a):∀{ds:List aD}{p:List Nat}{i:Nat}{xs:List V},TAtL K H τ p i ds xs->TAtL K H' τ p i ds xs
 |[],_,_,_,h=>by simpa only[TAtL]using h
 |t::ts,_,_,_,h=>by
  simp only[TAtL]at h⊢;let⟨v,vs,d,c,g⟩:=h;exact⟨v,vs,d,TAt.mono b e c,TAtL.mono b e g⟩
theorem TAtD.mono(b:Pers H H')(e:∀a∈τ.map (·.2),H' a=H a):∀{ds:List (aD×aD)}{p:List Nat}{i:Nat}{xs:List (Int×V×V)},TAtD K H τ p i ds xs->TAtD K H' τ p i ds xs
 |[],_,_,_,h=>by simpa only[TAtD]using h
 |(k,t)::r,_,_,_,h=>by
  simp only[TAtD]at h⊢;let⟨u,v,vs,f,d,c,g⟩:=h;exact⟨u,v,vs,f,d.mono b,TAt.mono b e c,TAtD.mono b e g⟩
theorem TAtK.mono(b:Pers H H')(e:∀a∈τ.map (·.2),H' a=H a):∀{ds:List (aD×aD)}{p:List Nat}{i:Nat}{xs:List (Key×V)},TAtK K H τ p i ds xs->TAtK K H' τ p i ds xs
 |[],_,_,_,h=>by simpa only[TAtK]using h
 |(k,t)::r,_,_,_,h=>by
  simp only[TAtK]at h⊢;let⟨u,v,vs,f,d,c,g⟩:=h;exact⟨u,v,vs,f,d,TAt.mono b e c,TAtK.mono b e g⟩
theorem TAtF.mono(b:Pers H H')(e:∀a∈τ.map (·.2),H' a=H a):∀{ds:List (aD×aD)}{p:List Nat}{i:Nat}{xs:List (Str×V)},TAtF K H τ p i ds xs->TAtF K H' τ p i ds xs
 |[],_,_,_,h=>by simpa only[TAtF]using h
 |(.str f,t)::r,_,_,_,h=>by
  simp only[TAtF]at h⊢;let⟨v,vs,j,c,g⟩:=h;exact⟨v,vs,j,TAt.mono b e c,TAtF.mono b e g⟩
 |(.none,d)::r,_,_,_,h=>by simp only[TAtF]at h⊢;exact TAtF.mono b e h
 |(.bool _,d)::r,_,_,_,h=>by simp only[TAtF]at h
 |(.int _,d)::r,_,_,_,h=>by simp only[TAtF]at h
 |(.list _,d)::r,_,_,_,h=>by simp only[TAtF]at h
 |(.tuple _,d)::r,_,_,_,h=>by simp only[TAtF]at h
 |(.dict _,d)::r,_,_,_,h=>by simp only[TAtF]at h
end
end
abbrev Cx.kd(X:Cx):Kd:=⟨X.K,X.w⟩
section
variable {X:Cx}{pins:List (Addr×Obj)}{σ:St}{H:Hp}{s:AD}
mutual
theorem Den.reads(I:Inv X pins σ H s):∀{d:aD}{v:V}{u:mT},d.hasDict=false->Den X.kd H d v->RelV v u->∃as,Reads s.heap u d as
 | .none,v,u,_,h,r=>by simp only[Den]at h;subst h;cases r;exact⟨_,.none⟩
 | .bool b,v,u,nd,h,r=>by simp only[Den]at h;subst h;cases r;exact⟨_,.bool b⟩
 | .int i,v,u,nd,h,r=>by simp only[Den]at h;subst h;let⟨t,rfl⟩:=r;exact⟨_,.int i t⟩
 | .str x,v,u,nd,h,r=>by simp only[Den]at h;subst h;let⟨t,rfl⟩:=r;exact⟨_,.str x t⟩
 | .list ds,v,u,nd,h,r=>by
  simp only[Den]at h;let⟨a,p,rfl,f,g⟩:=h;cases r;let⟨k,j,⟨o,n,e,c,_,l⟩,_⟩:=I.list f.sq;let⟨as,m⟩:=DenAll.reads I (by simpa only[ab4]using nd) g j;exact⟨_,.list e c l (by simpa using m)⟩
 | .tuple ds,v,u,nd,h,r=>by
  simp only[Den]at h;let⟨a,p,rfl,f,g⟩:=h;cases r;let⟨k,j,⟨o,e,c,n,l⟩,_⟩:=I.tuple f;let⟨as,m⟩:=DenAll.reads I (by simpa only[ab4]using nd) g j;exact⟨_,.tuple e c l (by simpa using m)⟩
 | .dict _,v,u,nd,h,r=>by simp[ab4]at nd
theorem DenAll.reads(I:Inv X pins σ H s):∀{ds:List aD}{xs:List V}{us:List mT},acq ds=false->DenAll X.kd H ds xs->Vals xs us->∃as,adK s.heap us ds as
 |[],xs,us,_,h,r=>by simp only[DenAll]at h;subst h;cases r;exact⟨_,.nil⟩
 | d::ds,xs,us,nd,h,r=>by
  simp only[acq,aeB]at nd;simp only[DenAll]at h;let⟨v,vs,rfl,f,g⟩:=h
  cases r with
  |cons r1 c=>
   let⟨a1,a⟩:=Den.reads I nd.1 f r1;let⟨a2,b⟩:=DenAll.reads I nd.2 g c;exact⟨_,.cons a b⟩
end
theorem Inv.freeze(I:Inv X pins σ H s)(h:H a=some (.lst xs)):∃o,Inv X pins σ (upd H a (.frz o (.lst xs))) s:=by
 let⟨f,i,n,r,e⟩:=I.hok a _ h;refine⟨{cls:=.type "list",data:=.seq i.toArray n},I.un (h':=s.heap) (t':=s.toks) ⟨λb d q _ _ _=>q,λb d q _ _ _=>⟨d.slots,q⟩,λb d q z _=>?_,λb d q _=>⟨d,q⟩,λb y q=>?_,λb d u q=>?_,λb p q=>⟨#[],?_⟩⟩ λb d q=>?_⟩
 .rw[av (ab1 (bq h z))];exact z
 .rw[av (vi q h (by simp))];exact q
 .rw[av (vi q h (by intro z;cases z))];exact q
 .rw[av (vi q h (by simp)),q];simp
 .by_cases hb:b=a
  .subst hb;rw[ay]at q;cases q;exact⟨e,f,i,n,r,e⟩
  .rw[av hb]at q;exact(I.hok b d q).stay (λ_ _ _ z=>z) (λc z=>by rw[av (vi z h (by simp))];exact z) λc y z=>by rw[av (vi z h (by simp))];exact z
end
def Iw:Expr->Bool
 | .Starred ..=>true
 |_=>false
def aG{es:List Expr}(h:Iw e=false):aac (e::es) env=(false,eval e env)::aac es env:=by
 cases e<;>first|rfl|cases h
def d5(h:Iw e=false):aac [e] env=[(false,eval e env)]:=aG h
inductive R where
 |imm (d:aD)|obj (k:Nat)|new (ds:List aD)|at (k:Nat) (p:List Nat)|newT (t:aD)
structure MSt where
 vs:List (Option R)
 os:List (List aD)
 np:Nat
structure Kx extends Kd where
 eb:EB
instance:Coe Kx Kd:=⟨Kx.toKd⟩
abbrev Cx.kx(X:Cx):Kx:=⟨X.kd,X.eb⟩
abbrev Al:=List Ao
def Ao.ads:Ao->List Addr
 | .L a=>[a]
 | .T t=>t.map (·.2)
def ads(a:Al):List Addr:=a.flatMap Ao.ads
def jN(a β:Al):ads (a++β)=ads a++ads β:=by unfold ads;rw[adA]
def Mu:HO->Bool
 | .tup _=>false
 | .frz _ _=>false
 |_=>true
def OwnAt(K:Kd)(H:Hp):Ao->List aD->Prop
 | .L a,ds=>∃x,H a=some (.lst x)/\DenAll K H ds x
 | .T τ,ds=>(∃t v,ds=[t]/\TAt K H τ [] t v/\∃a,τ.lookup []=some a/\v = .ref a)/\∀a∈τ.map (·.2),∃o,H a=some o/\Mu o=true
theorem OwnAt.mem(h:OwnAt K H ao ds)(c:a∈ao.ads):∃o,H a=some o/\Mu o=true:=by
 cases ao with
 |L b=>cases aab.mp c;let⟨x,e,_⟩:=h;exact⟨_,e,rfl⟩
 |T d=>exact h.2 a c
theorem OwnAt.mono(h:OwnAt K H ao ds)(p:Pers H H')(e:∀a∈ao.ads,H' a=H a):OwnAt K H' ao ds:=by
 cases ao with
 |L b=>
  let⟨x,q,g⟩:=h;exact⟨x,(e b (aab.mpr rfl)).trans q,g.mono p⟩
 |T f=>
  let⟨⟨t,v,d,g,r⟩,m⟩:=h;exact⟨⟨t,v,d,g.mono p e,r⟩,λa c=>by rw[e a c];exact m a c⟩
def RelS(K:Kd)(b:Al)(H:Hp):R->V->Prop
 | .imm d,v=>Den K H d v
 | .obj k,v=>∃a,b[k]?=some (.L a)/\v = .ref a
 | .at k p,v=>∃c a,b[k]?=some (.T c)/\c.lookup p=some a/\v = .ref a
 | .new _,_=>False
 | .newT _,_=>False
def RelR(K:Kd)(e:Al)(f H:Hp):R->V->Prop
 | .imm d,v=>Den K H d v
 | .obj k,v=>∃a,e[k]?=some (.L a)/\v = .ref a
 | .at k p,v=>∃c a,e[k]?=some (.T c)/\c.lookup p=some a/\v = .ref a
 | .new ds,v=>∃a x,v = .ref a/\f a=none/\H a=some (.lst x)/\DenAll K H ds x
 | .newT t,v=>∃c a,v = .ref a/\c.lookup []=some a/\(c.map (·.2)).Nodup/\(∀b∈c.map (·.2),f b=none)/\OwnAt K H (.T c) [t]
def Frm(a:Al)(H c:Hp):Prop:=∀b o,H b=some o->b∉ads a->c b=some o
theorem Frm.refl(a:Al)(H:Hp):Frm a H H:=λ_ _ e _=>e
theorem Frm.trans(a:Frm α H H1)(b:Frm α H1 H2):Frm α H H2:=λc o e n=>b c o (a c o e n) n
structure Ext(np:Nat)(α:Al)(H:Hp)(α':Al)(H':Hp):Prop where
 pre:α'.take np=α.take np
 frm:Frm α H H'
 new:∀a∈ads α',a∈ads α\/H a=none
 old:∀a∈ads α,∃o,H' a=some o
theorem Ext.trans{np:Nat}{c:Al}(x:Ext np α H α1 H1)(y:Ext np α1 H1 c H2):Ext np α H c H2:=by
 have out:∀b o,H b=some o->b∉ads α->b∉ads α1:=λb o e n f=>by
  rcases x.new b f with z|z
  .exact n z
  .grind
 refine⟨y.pre.trans x.pre,λb o e n=>y.frm b o (x.frm b o e n) (out b o e n),λa d=>?_,λa d=>?_⟩
 .rcases y.new a d with z|z
  .exact x.new a z
  .cases q:H a with
   |none=>exact .inr rfl
   | some o=>
    by_cases h:a∈ads α
    .exact .inl h
    .have:=x.frm a o q h
     grind
 .obtain⟨o,e⟩:=x.old a d
  by_cases h:a∈ads α1
  .exact y.old a h
  .exact⟨o,y.frm a o e h⟩
theorem Ext.nil{np:Nat}(x:Ext np α H α1 H1)(h:H1 a=none):H a=none:=by
 cases q:H a with
 |none=>rfl
 | some o=>
  by_cases b:a∈ads α
  .obtain⟨o',e⟩:=x.old a b
   grind
  .have:=x.frm a o q b
   grind
theorem Ext.less{np n1:Nat}(x:Ext n1 α H α' H')(h:np≤n1):Ext np α H α' H':=by
 refine⟨?_,x.frm,x.new,x.old⟩;have:=congrArg (agB np) x.pre;rw[List.take_take,List.take_take,Nat.min_eq_left h]at this;omega
structure Rel(K:Kx)(α:Al)(m:MSt)(σ:St)(H:Hp):Prop where
 nd:(ads α).Nodup
 len:α.length=m.os.length
 own:∀(k:Nat) (ao:Ao) (ds:List aD),α[k]?=some ao->m.os[k]?=some ds->OwnAt K H ao ds
 vlen:σ.length=m.vs.length
 var:∀(i:Nat) (r:R),m.vs[i]?=some (some r)->∃v,σ[i]?=some (some v)/\RelS K α H r v
 npl:m.np≤α.length
 ebl:K.eb.np≤m.np
 ebx:Ext K.eb.np K.eb.be K.eb.H α H
section
variable {K:Kx}{α:Al}{m m':MSt}{σ:St}{H H0 H1 H':Hp}{r:R}{v:V}
theorem RelS.rr{K:Kd}(h:RelS K α H r v):RelR K α Hb H r v:=by
 cases r with
 |imm d=>exact h
 |obj k=>exact h
 | «at» k p=>exact h
 |new ds=>exact h.elim
 |newT t=>exact h.elim
theorem Rel.mem(R:Rel K α m σ H)(f:a∈ads α):∃o,H a=some o/\Mu o=true:=by
 let⟨c,b,d⟩:=ach.mp f;let⟨k,hk,e⟩:=abW.mp b;have b:α[k]?=some c:=by rw[lD hk,e]
 have h:m.os[k]?=some (m.os[k]'(by rw[<-R.len];exact hk)):=lD _;exact(R.own k c _ b h).mem d
theorem Rel.out(R:Rel K α m σ H)(h:H a=none):a∉ads α:=λb=>by
 obtain _:=R.mem b
 grind
theorem Rel.pers(R:Rel K α m σ H)(F:Frm α H H'):Pers H H' where
 tups:=λb x e=>F b _ e λh=>by let⟨y,q,z⟩:=R.mem h;rw[e]at q;cases q;cases z
 frzs:=λb o u e=>F b _ e λh=>by let⟨y,q,z⟩:=R.mem h;rw[e]at q;cases q;cases z
theorem Ext.of{np:Nat}(R:Rel K α m σ H')(F:Frm α H H'):Ext np α H α H':=
 ⟨rfl,F,λ_ h=>.inl h,λa b=>let ⟨xs,q,_⟩:=R.mem b;⟨_,q⟩⟩
theorem OwnAt.keep{K:Kd}(h:OwnAt K H1 ao ds)(p:Pers H1 H)(F:Frm α H1 H)(n:∀b∈ao.ads,b∉ads α):OwnAt K H ao ds:=
 h.mono p λa c=>by
  let⟨o,e,_⟩:=h.mem c;rw[e];exact F a o e (n a c)
theorem RelR.keep(c:Rel K α m σ H0)(R:Rel K α m' σ H1)(F:Frm α H1 H)(h:RelR K α H0 H1 r v):RelR K α H0 H r v:=by
 cases r with
 |imm d=>exact Den.mono (R.pers F) h
 |obj k=>exact h
 | «at» k p=>exact h
 |new ds=>
  let⟨a,x,e,n,q,g⟩:=h;exact⟨a,x,e,n,F a _ q (c.out n),g.mono (R.pers F)⟩
 |newT t=>
  let⟨j,a,e,i,nd,n,g⟩:=h;exact⟨j,a,e,i,nd,n,g.keep (R.pers F) F λb f=>c.out (n b f)⟩
theorem RelR.base(R:Rel K α m σ H)(F:Frm α H0 H)(h:RelR K α H H' r v):RelR K α H0 H' r v:=by
 have old:∀a,H a=none->H0 a=none:=λa n=>by
  cases z:H0 a with
  |none=>rfl
  |some o=>
   have:=F a o z (R.out n)
   grind
 cases r with
 |imm d=>exact h
 |obj k=>exact h
 | «at» k p=>exact h
 |new ds=>
  let⟨a,x,e,n,q,g⟩:=h;exact⟨a,x,e,old a n,q,g⟩
 |newT t=>
  let⟨i,a,e,f,nd,n,g⟩:=h;exact⟨i,a,e,f,nd,λb c=>old b (n b c),g⟩
def chD:aD->Nat->Option aD
 | .list ts,i=>ts[i]?
 | .dict kvs,i=>match kvs[i]? with
  |some (.none,_)=>none
  |some (_,t)=>some t
  |none=>none
 |_,_=>none
def getT:aD->List Nat->Option aD
 |t,[]=>some t
 |t,i::p=>(chD t i).bind λa=>getT a p
def iG:aD->Option aD
 | .list _=>none
 | .dict k=>fzOf k
 |d=>some d
def dj:List aD->Option (List aD)
 |[]=>some []
 |t::ts=>match iG t,dj ts with|some d,some ds=>some (d::ds)|_,_=>none
def ndL(m:MSt)(k:Nat)(p:List Nat):Option (List aD):=match m.os[k]? with
 |some [t]=>match getT t p with
  |some (.list ts)=>dj ts
  |_=>none
 |_=>none
theorem i8{K:Kd}{p:List Nat}{t d:aD}(h:TAt K H τ p t v)(e:iG t=some d):Den K H d v:=by
 cases t with
 |list ts=>cases e
 | dict k=>
  have b:fzOf k=some d:=e;rcases h with _|⟨z,_⟩|⟨z,_⟩|⟨c,a,dx,C,x,f,_⟩
  .simp_all
  .simp_all
  .rw[b]at z;cases z
  .exfalso;unfold fzOf at b;unfold excC at f
   split at b<;>contradiction
 |none=>cases e;simpa only[TAt]using h
 |bool _=>cases e;simpa only[TAt]using h
 |int _=>cases e;simpa only[TAt]using h
 |str _=>cases e;simpa only[TAt]using h
 |tuple _=>cases e;simpa only[TAt]using h
theorem jw{K:Kd}{τ:List (List Nat×Addr)}{p:List Nat}:∀{ts ds:List aD}{i:Nat}{xs:List V},TAtL K H τ p i ts xs->dj ts=some ds->DenAll K H ds xs
 |[],ds,i,xs,h,e=>by
  cases e;subst h;rfl
 | t::ts,ds,i,xs,h,e=>by
  let⟨v,vs,rfl,a,g⟩:=h;simp[dj]at e
  cases q1:iG t with
  |none=>rw[q1]at e;cases e
  | some d=>
   cases q2:dj ts with
   |none=>rw[q1,q2]at e;cases e
   |some b=>
    rw[q1,q2]at e;cases e;exact DenAll.cons (i8 a q1) (jw g q2)
theorem TAtL.get{K:Kd}{τ:List (List Nat×Addr)}{p:List Nat}:∀{ts:List aD}{i j:Nat}{xs:List V}{t:aD},TAtL K H τ p i ts xs->ts[j]?=some t->∃v,xs[j]?=some v/\TAt K H τ (p++[i+j]) t v
 |[],_,_,_,_,_,e=>by simp at e
 |t::ts,i,0,xs,t',h,e=>by
  let⟨v,vs,rfl,b,_⟩:=h;simp at e;subst e;exact⟨v,rfl,b⟩
 |t::ts,i,j+1,xs,t',h,e=>by
  let⟨v,vs,rfl,_,g⟩:=h;let⟨a,d,c⟩:=TAtL.get g ‹_›;exact⟨a,by simpa using d,by rw[show i+(j+1)=i+1+j by omega];exact c⟩
theorem TAtD.get{K:Kd}{τ:List (List Nat×Addr)}{p:List Nat}:∀{ts:List (aD×aD)}{i j:Nat}{xs:List (Int×V×V)}{k t:aD},TAtD K H τ p i ts xs->ts[j]?=some (k,t)->∃u v,xs[j]?=some (fi K.w k,u,v)/\Den K H k u/\TAt K H τ (p++[i+j]) t v
 |[],_,_,_,_,_,_,e=>by simp at e
 |(k,t)::ts,i,0,xs,k',t',h,e=>by
  let⟨u,v,vs,rfl,f,d,_⟩:=h;simp at e;let⟨rfl,rfl⟩:=e;exact⟨u,v,rfl,f,d⟩
 |(k,t)::ts,i,j+1,xs,k',t',h,e=>by
  let⟨u,v,vs,rfl,_,_,g⟩:=h;let⟨n,l,c,a,b⟩:=TAtD.get g ‹_›;exact⟨n,l,by simpa using c,a,by rw[show i+(j+1)=i+1+j by omega];exact b⟩
theorem TAtK.get{K:Kd}{τ:List (List Nat×Addr)}{p:List Nat}:∀{ts:List (aD×aD)}{i j:Nat}{xs:List (Key×V)}{k t:aD},TAtK K H τ p i ts xs->ts[j]?=some (k,t)->∃v,TAt K H τ (p++[i+j]) t v
 |[],_,_,_,_,_,_,e=>by simp at e
 |(k,t)::ts,i,0,xs,k',t',h,e=>by
  let⟨u,v,vs,rfl,d,c,_⟩:=h;simp at e;let⟨rfl,rfl⟩:=e;exact⟨v,c⟩
 |(k,t)::ts,i,j+1,xs,k',t',h,e=>by
  let⟨u,v,vs,rfl,_,_,g⟩:=h;let⟨b,a⟩:=TAtK.get g ‹_›;exact⟨b,by rw[show i+_=i+1+j by omega];exact a⟩
theorem TAtF.get{K:Kd}{τ:List (List Nat×Addr)}{p:List Nat}:∀{ts:List (aD×aD)}{i j:Nat}{xs:List (Str×V)}{f:Str}{t:aD},TAtF K H τ p i ts xs->ts[j]?=some (.str f,t)->∃v,(f,v)∈xs/\TAt K H τ (p++[i+j]) t v
 |[],_,_,_,_,_,_,e=>by simp at e
 |(k,t)::ts,i,0,xs,f,t',h,e=>by
  simp_all
  let⟨v,vs,rfl,d,_⟩:=h;exact⟨v,aaa,d⟩
 | (k,t)::ts,i,j+1,xs,f,t',h,e=>by
  have go:∀{y:List (Str×V)},TAtF K H τ p (i+1) ts y->∃v,(f,v)∈y/\TAt K H τ (p++[i+(j+1)]) t' v:=λ{y} g=>by
   let⟨c,b,a⟩:=TAtF.get (j:=j) g (by simpa using e);exact⟨c,b,by rw[show i+(j+1)=i+1+j by omega];exact a⟩
  cases k with
  |str l=>
   simp only[TAtF]at h;let⟨v,vs,rfl,_,g⟩:=h;let⟨c,b,a⟩:=go g;exact⟨c,LD _ b,a⟩
  |none=>simp only[TAtF]at h;exact go h
  |bool _=>simp only[TAtF]at h
  |int _=>simp only[TAtF]at h
  |list _=>simp only[TAtF]at h
  |tuple _=>simp only[TAtF]at h
  |dict _=>simp only[TAtF]at h
theorem TAtF.key{K:Kd}{p:List Nat}:∀{ts:List (aD×aD)}{i:Nat}{xs:List (Str×V)}{k t:aD},TAtF K H τ p i ts xs->(k,t)∈ts->k≠.none->∃f,k = .str f
 |[],_,_,_,_,_,e,_=>by simp at e
 | (k,t)::ts,i,xs,k',t',h,e,kn=>by
  cases k with
  |str a=>
   let⟨v,vs,rfl,_,g⟩:=h;rcases aaf.mp e with e|e
   .grind
   .exact g.key e kn
  |none=>
   simp only[TAtF]at h;rcases aaf.mp e with e|e
   .grind
   .exact h.key e kn
  |bool _=>simp[TAtF]at h
  |int _=>simp[TAtF]at h
  |list _=>simp only[TAtF]at h
  |tuple _=>simp only[TAtF]at h
  |dict _=>simp[TAtF]at h
theorem TAt.get{K:Kd}{τ:List (List Nat×Addr)}:∀{q p:List Nat}{t t':aD}{v:V},TAt K H τ p t v->getT t q=some t'->∃v',TAt K H τ (p++q) t' v'
 |[],p,t,t',v,h,e=>by cases e;exact⟨v,by rw[aaN];exact h⟩
 | i::q,p,t,t',v,h,e=>by
  simp only[getT]at e
  cases z:chD t i with
  |none=>rw[z]at e;cases e
  | some n=>
   rw[z]at e;have D:getT n q=some t':=e;have step:∃l,TAt K H τ (p++[i]) n l:=by
    cases t with
    |list ts=>
     simp only[TAt]at h;let⟨a,A,_,_,_,g⟩:=h;let⟨l,_,b⟩:=g.get (j:=i) z;exact⟨l,by rw[acJ]at b;exact b⟩
    | dict o=>
     simp only[chD]at z
     cases zi:o[i]? with
     |none=>rw[zi]at z;cases z
     | some y=>
      let⟨k,G⟩:=y;rw[zi]at z;have s:k≠.none:=λq=>by subst q;cases z
      have F:G=n:=by
       split at z<;>simp_all
      subst F;simp only[TAt]at h;rcases h with⟨d,w,_⟩|⟨_,_,a,E,_,_,_,_,g⟩|⟨_,_,a,E,_,_,_,g⟩|⟨c,a,dx,C,A,I,_,_,_,_,g⟩
      .exfalso;unfold fzOf at w
       split at w
       .cases i<;>simp at zi;exact s zi.1.symm
       .cases i<;>simp at zi;exact s zi.1.symm
       .cases w
      .obtain⟨u,l,_,_,b⟩:=g.get (j:=i) zi;exact⟨l,by rw[acJ]at b;exact b⟩
      .obtain⟨l,b⟩:=g.get (j:=i) zi;exact⟨l,by rw[acJ]at b;exact b⟩
      .obtain⟨f,rfl⟩:=g.key (GT zi) s;let⟨l,_,b⟩:=g.get (j:=i) zi;exact⟨l,by rw[acJ]at b;exact b⟩
    |none=>cases z
    |bool _=>cases z
    |int _=>cases z
    |str _=>cases z
    |tuple _=>cases z
   let⟨l,B⟩:=step;let⟨v',x⟩:=TAt.get B D;exact⟨v',by rw[aaU]at x;exact x⟩
def lsOf(m:MSt):R->Option (List aD)
 | .imm (.list ds)=>some ds
 | .obj k=>m.os[k]?
 | .new ds=>some ds
 | .at k p=>ndL m k p
 |_=>none
mutual
def eraT:aD->Option aD
 | .list ts=>(eraL ts).map .list
 | .dict k=>fzOf k
 | .none=>some .none
 | .bool b=>some (.bool b)
 | .int i=>some (.int i)
 | .str x=>some (.str x)
 | .tuple ds=>some (.tuple ds)
def eraL:List aD->Option (List aD)
 |[]=>some []
 |t::ts=>match eraT t,eraL ts with|some d,some ds=>some (d::ds)|_,_=>none
end
def ndT(m:MSt)(k:Nat)(p:List Nat):Option aD:=match m.os[k]? with
 |some [t]=>getT t p
 |_=>none
def asD(m:MSt):R->Option aD
 | .imm d=>some d
 | .obj k=>(m.os[k]?).map .list
 | .new ds=>some (.list ds)
 | .at k p=>match ndT m k p with
  |some (.list ts)=>(eraL ts).map .list
  |_=>none
 | .newT _=>none
theorem RelR.node(R:Rel K α m σ H){k:Nat}{p:List Nat}(h:RelR K α H0 H (.at k p) v){t:aD}(e:ndT m k p=some t):∃τ a v',α[k]?=some (.T τ)/\τ.lookup p=some a/\v = .ref a/\TAt K H τ p t v':=by
 let⟨τ,a,b,f,c⟩:=h;unfold ndT at e
 split at e
 .rename_i t0 e0;let⟨⟨j,l,d,g,_⟩,_⟩:=R.own k _ _ b e0;cases d;let⟨v',i⟩:=g.get e;exact⟨τ,a,v',b,f,c,by simpa using i⟩
 .cases e
theorem RelR.list(R:Rel K α m σ H)(h:RelR K α H0 H r v)(e:lsOf m r=some ds):∃a xs,v = .ref a/\SqL K H a xs/\DenAll K H ds xs:=by
 cases r with
 | imm d=>
  cases d with
  |list l=>
   cases e;have j:Den K H (.list ds) v:=h;let⟨a,xs,b,f,g⟩:=j;exact⟨a,xs,b,f.sq,g⟩
  |none=>cases e
  |bool _=>cases e
  |int _=>cases e
  |str _=>cases e
  |tuple _=>cases e
  |dict _=>cases e
 |obj k=>
  let⟨a,b,rfl⟩:=h;let⟨xs,q,g⟩:=R.own k _ ds b e;exact⟨a,xs,rfl,SqL.of q,g⟩
 |new l=>
  cases e;let⟨a,xs,b,n,q,g⟩:=h;exact⟨a,xs,b,SqL.of q,g⟩
 | «at» k p=>
  have c:ndL m k p=some ds:=e;let⟨ts,b,o⟩:∃ts,ndT m k p=some (.list ts)/\dj ts=some ds:=by
   unfold ndL at c;unfold ndT
   split at c
   .split at c
    .rename_i h0 _ ts h1;exact⟨ts,h1,c⟩
    .cases c
   .cases c
  let⟨u,a,w,_,s,rfl,g⟩:=RelR.node R h b;simp only[TAt]at g;let⟨t,xs,i,_,q,g⟩:=g;rw[s]at i;cases i;exact⟨a,xs,rfl,SqL.of q,jw g o⟩
 |newT _=>cases e
end
section
variable {X:Cx}{pins:List (Addr×Obj)}{σ:St}{H:Hp}{s:AD}{τ:List (List Nat×Addr)}
mutual
theorem TAt.reads(I:Inv X pins σ H s):∀{t d:aD}{p:List Nat}{v:V}{u:mT},eraT t=some d->d.hasDict=false->TAt X.kd H τ p t v->RelV v u->∃as,Reads s.heap u d as
 | .none,d,p,v,u,e,nd,h,r=>by simp only[eraT]at e;cases e;simp only[TAt]at h;exact h.reads I nd r
 | .bool b,d,p,v,u,e,nd,h,r=>by simp only[eraT]at e;cases e;simp only[TAt]at h;exact h.reads I nd r
 | .int i,d,p,v,u,e,nd,h,r=>by simp only[eraT]at e;cases e;simp only[TAt]at h;exact h.reads I nd r
 | .str x,d,p,v,u,e,nd,h,r=>by simp only[eraT]at e;cases e;simp only[TAt]at h;exact h.reads I nd r
 | .tuple ds,d,p,v,u,e,nd,h,r=>by simp only[eraT]at e;cases e;simp only[TAt]at h;exact h.reads I nd r
 | .dict kvs,d,p,v,u,e,nd,h,r=>by
  simp only[eraT]at e;exact(i8 h (show iG (.dict kvs)=some d from e)).reads I nd r
 | .list ts,d,p,v,u,e,nd,h,r=>by
  simp only[eraT]at e
  cases q:eraL ts with
  |none=>rw[q]at e;cases e
  |some ds=>
   rw[q]at e;cases e;simp only[TAt]at h;let⟨a,w,_,rfl,f,g⟩:=h;cases r;let⟨k,j,⟨o,n,e,c,_,m⟩,_⟩:=I.list (SqL.of f);let⟨as,l⟩:=TAtL.reads I q (by simpa only[ab4]using nd) g j;exact⟨_,.list e c m (by simpa using l)⟩
theorem TAtL.reads(I:Inv X pins σ H s):∀{ts ds:List aD}{p:List Nat}{i:Nat}{xs:List V}{us:List mT},eraL ts=some ds->acq ds=false->TAtL X.kd H τ p i ts xs->Vals xs us->∃as,adK s.heap us ds as
 |[],ds,p,i,xs,us,e,nd,h,r=>by
  simp only[eraL]at e;cases e;simp only[TAtL]at h;subst h
  cases r;exact⟨_,.nil⟩
 | t::ts,ds,p,i,xs,us,e,nd,h,r=>by
  simp only[eraL]at e
  cases q1:eraT t with
  |none=>rw[q1]at e;cases e
  | some d=>
   cases q2:eraL ts with
   |none=>rw[q1,q2]at e;cases e
   | some f=>
    rw[q1,q2]at e;cases e;simp only[acq,aeB]at nd;simp only[TAtL]at h;let⟨v,vs,rfl,a,g⟩:=h
    cases r with
    |cons r1 j=>
     let⟨a1,b⟩:=TAt.reads I q1 nd.1 a r1;let⟨a2,c⟩:=TAtL.reads I q2 nd.2 g j;exact⟨_,.cons b c⟩
end
end
theorem RelR.reads{s:AD}{m:MSt}{u:mT}{d:aD}(I:Inv X pins σ H s)(R:Rel X.kx α m σ' H)(h:RelR X.kd α H0 H r v)(b:RelV v u)(e:asD m r=some d)(nd:d.hasDict=false):∃as,Reads s.heap u d as:=by
 have l:∀{ds:List aD},lsOf m r=some ds->acq ds=false->∃as,Reads s.heap u (.list ds) as:=λ{ds} e nd=>by
  let⟨a,y,rfl,f,g⟩:=RelR.list R h e;cases b;let⟨x,b,⟨o,n,e,c,_,A⟩,_⟩:=I.list f;let⟨as,z⟩:=DenAll.reads I nd g b;exact⟨_,.list e c A (by simpa using z)⟩
 cases r with
 |imm D=>cases e;exact Den.reads I nd h b
 | obj k=>
  cases q:m.os[k]? with
  |none=>simp[asD,q]at e
  |some ds=>
   simp[asD,q]at e;subst e;exact l q ‹_›
 |new ds=>cases e;exact l rfl (by simpa only[ab4]using nd)
 | «at» k p=>
  let⟨ts,ds,q,j,rfl⟩:∃ts ds,ndT m k p=some (.list ts)/\eraL ts=some ds/\d = .list ds:=by
   unfold asD at e;simp only at e
   split at e
   .rename_i ts q
    cases j:eraL ts with
    |none=>rw[j]at e;cases e
    |some ds=>rw[j]at e;cases e;exact⟨ts,ds,q,j,rfl⟩
   .cases e
  let⟨E,a,F,_,B,rfl,g⟩:=RelR.node R h q;have t:=g;simp only[TAt]at t;let⟨C,y,i,w,_⟩:=t;rw[B]at i;cases i;subst w;exact TAt.reads I (by simp only[eraT,j,Option.map]) nd g b
 |newT _=>cases e
abbrev WE:=MSt->(R->MSt->Prop)->Prop
abbrev WT:=MSt->(Bool->MSt->Prop)->Prop
abbrev WA:=MSt->(List R->MSt->Prop)->Prop
def tM(K:Kx)(w:WE):TE:=λd H Q=>∃a m e,Rel K a m d H/\w m e/\∀r c v b,e r c->c.np=m.np->Rel K a c d b->RelR K a H b r v->Frm a H b->Q v b
def tMT(K:Kx)(w:WT):TT:=λe H Q=>∃a m f,Rel K a m e H/\w m f/\∀b d c,f b d->d.np=m.np->Rel K a d e c->Frm a H c->Q b c
inductive RelRs(K:Kd)(α:Al)(Hb H:Hp):List R->List V->Prop where
 |nil:RelRs K α Hb H [] []
 |cons {r:R}{rs:List R}{v:V}{vs:List V}:RelR K α Hb H r v->RelRs K α Hb H rs vs->RelRs K α Hb H (r::rs) (v::vs)
def tMA(K:Kx)(w:WA):TA:=λd H Q=>∃a m e,Rel K a m d H/\w m e/\∀rs c vs b,e rs c->c.np=m.np->Rel K a c d b->RelRs K a H b rs vs->Frm a H b->Q vs b
theorem PE.wk{t t':TE}(h:PE X e t)(k:∀a H Q,t' a H Q->t a H Q):PE X e t':=λp s a H Q I q=>h p s a H Q I (k _ _ _ q)
theorem PT.wk{t t':TT}(h:PT X e t)(k:∀a H Q,t' a H Q->t a H Q):PT X e t':=λp s a H Q I q=>h p s a H Q I (k _ _ _ q)
theorem PW.wk{t t':TT}(h:PW X e t)(k:∀a H Q,t' a H Q->t a H Q):PW X e t':=λw p s a H Q I q=>h w p s a H Q I (k _ _ _ q)
theorem PA.wk{e:List Expr}{t t':TA}(h:PA X e t)(k:∀a H Q,t' a H Q->t a H Q):PA X e t':=λb p s a H Q I q=>h b p s a H Q I (k _ _ _ q)
theorem PS.wk{e:Stmt}{t t':TS}(h:PS X e t)(k:∀D a H,t' D a H->t D a H):PS X e t':=λp s a H D I q=>h p s a H D I (k _ _ _ q)
theorem PSs.wk{e:List Stmt}{t t':TS}(h:PSs X e t)(k:∀D a H,t' D a H->t D a H):PSs X e t':=λp s a H D I q=>h p s a H D I (k _ _ _ q)
abbrev ME(X:Cx)(e:Expr)(w:WE):Prop:=PE X e (tM X.kx w)
abbrev MT(X:Cx)(e:Expr)(w:WT):Prop:=PT X e (tMT X.kx w)
abbrev MW(X:Cx)(e:Expr)(w:WT):Prop:=PW X e (tMT X.kx w)
abbrev MA(X:Cx)(es:List Expr)(w:WA):Prop:=PA X es (tMA X.kx w)
section
variable {X:Cx}{a b c:Expr}{es:List Expr}{f g l:WE}{pos:Pos}
def wVar(i:Nat):WE:=λm K=>∃r,m.vs[i]?=some (some r)/\K r m
abbrev wC(d:aD):WE:=λm K=>K (.imm d) m
theorem LG{t:TE}{w:WE}(h:PE X a t)(k:∀d m e H K Q,Rel X.kx d m e H->w m K->(∀r j v i,K r j->j.np=m.np->Rel X.kx d j e i->RelR X.kx d H i r v->Frm d H i->Q v i)->t e H Q):ME X a w:=
 h.wk<|by intro e H Q ⟨d,m,K,R,o,n⟩;exact k d m e H K Q R o n
theorem me_c{d:aD}(h:PE X a (tC v))(hd:∀(K:Kd) H,Den K H d v):ME X a (wC d):=
 LG h λj m k H n Q R i e=>e _ m v H i rfl R (hd _ _) (Frm.refl _ _)
def Tw{i j pos}:ME X (.Constant (.int i) j pos) (wC (.int i)):=me_c PQ λ_ _=>by simp[Den]
def Vx{i j pos}:ME X (.Constant (.bool i) j pos) (wC (.bool i)):=me_c UB λ_ _=>by simp[Den]
def TM{i j pos}:ME X (.Constant (.str i) j pos) (wC (.str i)):=me_c Ph λ_ _=>by simp[Den]
def Qp{j pos}:ME X (.Constant .none j pos) (wC .none):=me_c Qo λ_ _=>by simp[Den]
theorem Tx(h:PE X a (tVar i)):ME X a (wVar i):=
 LG h λp m q H K Q R n d=>by
  let⟨r,e,k⟩:=n;let⟨v,o,j⟩:=R.var i r e;exact⟨v,o,d r m v H k rfl R j.rr (Frm.refl _ _)⟩
def mv(i:Nat){pos:Pos}(e:X.N[i]?=some x:=by rfl)(d:Vis X.env.scope x:=by first|exact afw rfl|exact adq (afw rfl)|exact adq (adq rfl))(hd:(x==("__debug__" : Str))=false:=by decide)(h:(x==("__classdict__" : Str))=false:=by decide):ME X (.Name x pos) (wVar i):=Tx (Ip e d hd h)
abbrev WO:=R->R->MSt->(R->Prop)->Prop
def rM(K:Kx)(o:WO):R2:=λx y H Q=>∃d m i k n r1 h j,Rel K d m i H/\RelR K d k H r1 x/\RelR K d n H h y/\o r1 h m j/\∀r v e,j r->Rel K d m i e->RelR K d H e r v->Frm d H e->Q v e
abbrev wBin(o:WO)(f g:WE):WE:=λm K=>f m λr1 m1=>g m1 λd m2=>o r1 d m2 λr=>K r m2
theorem rj(h:tM X.kx (wBin o f g) σ H Q):tOp (rM X.kx o) (tM X.kx f) (tM X.kx g) σ H Q:=by
 let⟨n,m,K,s,w,e⟩:=h;refine⟨n,m,_,s,w,λr1 m1 x z k1 n1 d i t=>⟨n,m1,_,d,k1,λA m2 y B k2 n2 R j p=>?_⟩⟩;refine⟨n,m2,σ,H,z,r1,A,_,R,i.keep s d p,j,k2,λr v u k q rr F=>?_⟩;exact e r m2 v u k (n2.trans n1) q (rr.base R (t.trans p)) ((t.trans p).trans F)
def PF{op:aeZ}(i:OpR X (aco op) (rM X.kx o))(e:ME X a f)(d:ME X b g):ME X (.BinOp a op b pos) (wBin o f g):=(Uk i e d).wk λ_ _ _ h=>rj h
def O5(j:OpR X (abh op) (rM X.kx o))(i:ME X a f)(e:ME X b g)(d:acP op b=false):ME X (.Compare a [op] [b] pos) (wBin o f g):=(Jr j i e d).wk λ_ _ _ h=>rj h
abbrev onBl(P:Bool->Prop):R->Prop
 | .imm (.bool k)=>P k
 |_=>False
theorem Iy{K:Kx}{P:Bool->Prop}(rr:RelR K α Hb H r v)(h:onBl P r):∃b,r = .imm (.bool b)/\v = .bl b/\P b:=by
 cases r with
 |obj _=>exact h.elim
 |new _=>exact h.elim
 | «at» _ _=>exact h.elim
 |newT _=>exact h.elim
 | imm d=>
  cases d with
  |bool b=>
   have e:=rr;exact⟨b,rfl,e,h⟩
  |none=>exact h.elim
  |int _=>exact h.elim
  |str _=>exact h.elim
  |list _=>exact h.elim
  |tuple _=>exact h.elim
  |dict _=>exact h.elim
abbrev BR(w:WE):WT:=λm K=>w m λr d=>onBl (λk=>K k d) r
theorem Af{t:TE}{Q:Bool->Hp->Prop}{w:WE}(k:∀i,tM X.kx w σ H i->t σ H i)(h:tMT X.kx (BR w) σ H Q):P6 t σ H Q:=by
 let⟨q,m,K,j,p,d⟩:=h;refine k _ ⟨q,m,_,j,p,λr s v o e n1 R rr F=>?_⟩;let⟨b,u,n,e⟩:=Iy rr e;exact⟨b,n,d b s o e n1 R F⟩
def Qy(j:OpR X (abh op) (rM X.kx o))(i:ME X a f)(e:ME X b g)(d:acP op b=false):MT X (.Compare a [op] [b] pos) (BR (wBin o f g)):=(Lc j i e d).wk λ_ _ _ h=>Af (λ_=>rj) h
def Rh(e:ME X a f)(d:∀w,isTrue a X.env w=(do let v <- w;acH a.pos;adr [v] (truthy v)):=by intro _;rfl):MT X a (BR f):=(QY e d).wk λ_ _ _ h=>Af (λ_ h=>h) h
end
section
variable {X:Cx}{a b c:Expr}{es:List Expr}{j y B:WE}{pos:Pos}
variable {l A:WT}{rest:List Expr}
abbrev wAnd(t u:WT):WT:=λm K=>t m λc m1=>if c=true then u m1 K else K false m1
abbrev wOr(t u:WT):WT:=λm K=>t m λc m1=>if c=true then K true m1 else u m1 K
abbrev wNot(t:WT):WT:=λm K=>t m λc m1=>K (!c) m1
def KH(h:MT X a l):MW X (.BoolOp .And [a] pos) l:=JA h
def TU(h:MT X a l):MW X (.BoolOp .Or [a] pos) l:=RG h
theorem R8(i:MT X a l)(h:MW X (.BoolOp .And (b::rest) pos) A):MW X (.BoolOp .And (a::b::rest) pos) (wAnd l A):=(OI i h).wk<|by
 intro s H Q ⟨e,m,K,g,o,f⟩;refine⟨e,m,_,g,o,λr m1 p k n1 R F=>?_⟩
 cases r with
 |true=>rw[if_pos rfl];exact⟨e,m1,K,R,k,λb2 m2 n k2 n2 d q=>f b2 m2 n k2 (n2.trans n1) d (F.trans q)⟩
 |false=>rw[if_neg aam];exact f _ m1 p k n1 R F
theorem UV(i:MT X a l)(h:MW X (.BoolOp .Or (b::rest) pos) A):MW X (.BoolOp .Or (a::b::rest) pos) (wOr l A):=(Vm i h).wk<|by
 intro s H Q ⟨e,m,K,g,o,f⟩;refine⟨e,m,_,g,o,λr m1 p k n1 R F=>?_⟩
 cases r with
 |true=>rw[if_pos rfl];exact f _ m1 p k n1 R F
 |false=>rw[if_neg aam];exact⟨e,m1,K,R,k,λb2 m2 n k2 n2 d q=>f b2 m2 n k2 (n2.trans n1) d (F.trans q)⟩
theorem OG(g:MT X a l):MT X (.UnaryOp .Not a pos) (wNot l):=(Sf g).wk<|by intro o H Q ⟨d,m,K,e,h,f⟩;exact
 ⟨d,m,_,e,h,λn m1 i k n1 R F=>f _ m1 i k n1 R F⟩
abbrev wOrV(j y:WE):WE:=λm K=>j m λr m1=>onBl (λc=>if c=true then K (.imm (.bool true)) m1 else y m1 K) r
def Oy(b:Bool):Den K H (.bool b) (.bl b):=rfl
def yJ(b:Int):Den K H (.int b) (.int b):=rfl
def Jf(b:Str):Den K H (.str b) (.str b):=rfl
def Pp{op}(h:ME X a j):ME X (.BoolOp op [a] pos) j:=Rf h
theorem Vp(q:ME X a j)(p:ME X (.BoolOp .Or (b::rest) pos) y):ME X (.BoolOp .Or (a::b::rest) pos) (wOrV j y):=(UG q p).wk<|by
 intro C H Q ⟨i,m,x,o,w,f⟩;refine⟨i,m,_,o,w,λr m1 v h k n1 R rr F=>?_⟩;let⟨n,t,s,d⟩:=Iy rr k;subst t s;refine⟨n,rfl,?_⟩
 cases n with
 |true=>rw[if_pos rfl]at d⊢;exact f _ m1 _ h d n1 R (Oy (K:=X.kx) (H:=h) _) F
 |false=>rw[if_neg aam]at d⊢;exact⟨i,m1,x,R,d,λr m2 v u k2 n2 e g z=>f r m2 v u k2 (n2.trans n1) e (g.base R F) (F.trans z)⟩
def wIfE(t:WT)(j y:WE):WE:=λm K=>t m λc m1=>if c=true then j m1 K else y m1 K
theorem Va(q:MT X t l)(p:ME X a j)(o:ME X b y):ME X (.IfExp t a b pos) (wIfE l j y):=(C6 q p o).wk<|by
 intro w H Q ⟨h,m,K,n,s,f⟩;refine⟨h,m,_,n,s,λu m1 x k n1 R F=>?_⟩
 cases u with
 |true=>rw[if_pos rfl];exact⟨h,m1,K,R,k,λr m2 v g k2 n2 d e i=>f r m2 v g k2 (n2.trans n1) d (e.base R F) (F.trans i)⟩
 |false=>rw[if_neg aam];exact⟨h,m1,K,R,k,λr m2 v g k2 n2 d e i=>f r m2 v g k2 (n2.trans n1) d (e.base R F) (F.trans i)⟩
abbrev WU:=R->MSt->(R->Prop)->Prop
def uM(K:Kx)(o:WU):V->Hp->VK->Prop:=λx H Q=>∃d m f h r1 g,Rel K d m f H/\RelR K d h H r1 x/\o r1 m g/\∀r v e,g r->Rel K d m f e->RelR K d H e r v->Frm d H e->Q v e
abbrev wUn(o:WU)(j:WE):WE:=λm K=>j m λr1 m1=>o r1 m1 λr=>K r m1
theorem UK{op:UnaryOp}{o:WU}(t:UnR X (unaryOp op) (uM X.kx o))(p:ME X a j):ME X (.UnaryOp op a pos) (wUn o j):=(VD t p).wk<|by intro n H Q ⟨g,m,K,i,s,f⟩;exact
 ⟨g,m,_,i,s,λr1 m1 x u k1 n1 R d h=>⟨g,m1,n,H,r1,_,R,d,k1,λr v q k e rr F=>f r m1 v q k n1 e (rr.base R h) (h.trans F)⟩⟩
def tFz(t:TE):TE:=λe H Q=>t e H λv d=>Q v d\/∃a x,d a=some (.lst x)/\∀o,Q v (upd d a (.frz o (.lst x)))
theorem VE{t:TE}(h:PE X a t):PE X a (tFz t):=by
 intro f s i H Q I q;refine thn (h f s i H _ I q) λu s1 ⟨v,k,g,r1,d⟩=>?_;rcases d with d|⟨p,x,e,d⟩
 .exact⟨v,k,g,r1,d⟩
 .obtain⟨o,I2⟩:=g.freeze e;exact⟨v,_,I2,r1,d o⟩
theorem Rel.at{K:Kx}{m:MSt}(R:Rel K α m σ H)(p:Pers H H')(e:∀a∈ads α,H' a=H a)(x:Frm α H H'):Rel K α m σ H':=by
 refine⟨R.nd,R.len,λk g ds n s=>?_,R.vlen,λi r h=>?_,R.npl,R.ebl,R.ebx.trans ⟨rfl,x,λ_ h=>.inl h,λa f=>?_⟩⟩
 .exact(R.own k g ds n s).mono p λa f=>e a (ach.mpr ⟨g,GT n,f⟩)
 .obtain⟨v,ev,rv⟩:=R.var i r h;refine⟨v,ev,?_⟩
  cases r with
  |imm d=>exact Den.mono p rv
  |obj k=>exact rv
  | «at» k p=>exact rv
  |new ds=>exact rv
  |newT t=>exact rv
 .obtain⟨o,q,_⟩:=R.mem f;exact⟨o,(e a f).trans q⟩
theorem Rel.at'{K:Kx}{m:MSt}(R:Rel K α m σ H)(p:Pers H H')(e:∀a∈ads α,H' a=H a)(x:Ext K.eb.np K.eb.be K.eb.H α H'):Rel K α m σ H':=by
 refine⟨R.nd,R.len,λk f ds g o=>?_,R.vlen,λi r h=>?_,R.npl,R.ebl,x⟩
 .exact(R.own k f ds g o).mono p λa n=>e a (ach.mpr ⟨f,GT g,n⟩)
 .obtain⟨v,ev,rv⟩:=R.var i r h;refine⟨v,ev,?_⟩
  cases r with
  |imm d=>exact Den.mono p rv
  |obj k=>exact rv
  | «at» k p=>exact rv
  |new ds=>exact rv
  |newT t=>exact rv
theorem bm{a:Addr}{o:HO}(h:H a=none\/∃u,H a=some u/\Mu u=true):Pers H (upd H a o) where
 tups:=λb x e=>by
  rw[av];exact e;rintro rfl;rcases h with h|⟨d,h,z⟩<;>(rw[e]at h;cases h)
  cases z
 frzs:=λb o u e=>by
  rw[av];exact e;rintro rfl;rcases h with h|⟨d,h,z⟩<;>(rw[e]at h;cases h)
  cases z
def w9{a:Addr}{o:HO}(h:H a=some (.lst xs)):Pers H (upd H a o):=bm (.inr ⟨_,h,rfl⟩)
theorem cC{a:Addr}{o:HO}(h:H a=none):Frm α H (upd H a o):=λb d e _=>by
 rw[av (bq e h)];exact e
theorem Rel.lay{K:Kx}{m:MSt}{a:Addr}{o:HO}(R:Rel K α m σ H)(h:H a=none):Rel K α m σ (upd H a o):=
 R.at (bm (.inl h)) (λb d=>av λe=>R.out h (e▸d)) (cC h)
abbrev wImm(w:WE):WE:=λm K=>w m λr e=>match r with| .imm d=>K (.imm d) e | .new ds=>K (.imm (.list ds)) e|_=>False
theorem Uh(D:ME X a j):ME X a (wImm j):=(VE D).wk<|by
 intro K H Q ⟨u,m,L,i,I,f⟩;refine⟨u,m,_,i,I,λr m1 v t k n1 R rr F=>?_⟩
 cases r with
 |imm d=>exact .inl (f _ m1 v t k n1 R rr F)
 |obj _=>exact k.elim
 | «at» _ _=>exact k.elim
 |newT _=>exact k.elim
 | new ds=>
  let⟨p,x,E,n,q,g⟩:=rr;refine .inr ⟨p,x,q,λo=>?_⟩;have C:Pers t (upd t p (.frz o (.lst x))):=w9 q;have fr:Frm u H (upd t p (.frz o (.lst x))):=λb z e nb=>by
   rw[av (bq e n)];exact F b z e nb
  have old:Ext X.kx.eb.np u H u _:=⟨rfl,fr,λ_ h=>.inl h,λb s=>by
   have w:b≠p:=λe=>i.out n (e▸s);rw[av w];let⟨J,G,_⟩:=R.mem s;exact⟨J,G⟩⟩
  refine f _ m1 v _ k n1 (R.at' C (λb s=>av λe=>i.out n (e▸s)) (i.ebx.trans old)) (?_) λb z e nb=>?_
  .exact⟨p,x,E,.inl ⟨o,ay⟩,g.mono C⟩
  .rw[av (bq e n)];exact F b z e nb
abbrev wNil:WA:=λm K=>K [] m
abbrev Re(w:WE)(f:WA):WA:=λm K=>w m λr m1=>f m1 λrs m2=>K (r::rs) m2
theorem RelRs.base{K:Kx}{m:MSt}(d:Rel K α m σ H)(F:Frm α H0 H):∀{rs:List R}{vs:List V},RelRs K α H H' rs vs->RelRs K α H0 H' rs vs
 |_,_,.nil=>.nil
 |_,_,.cons h t=>.cons (h.base d F) (t.base d F)
variable {f:WA}
theorem TZ:MA X [] wNil:=(GQ).wk<|by intro g H Q ⟨e,m,K,R,h,d⟩;exact d _ m _ H h rfl R .nil (Frm.refl _ _)
theorem Jn(p:ME X a j)(o:MA X es f)(q:aac (a::es) X.env=(false,eval a X.env)::aac es X.env:=by first|exact aG rfl|rfl):MA X (a::es) (Re j f):=(uX p o q).wk<|by intro u H Q ⟨i,m,K,h,t,g⟩;exact
 ⟨i,m,_,h,t,λr m1 v w k n1 R rr n=>⟨i,m1,_,R,k,λrs m2 vs s k2 n2 e d F=>g _ m2 _ s k2 (n2.trans n1) e (.cons (rr.keep h R F) (d.base R n)) (n.trans F)⟩⟩
def iq:List R->Option (List aD)
 |[]=>some []
 | .imm d::rs=>(iq rs).map (d :: ·)
 |_::_=>none
theorem RelRs.imm{K:Kx}:∀{rs:List R}{vs:List V}{ds:List aD},RelRs K α H0 H rs vs->iq rs=some ds->DenAll K H ds vs
 |_,_,_,.nil,e=>by cases e;exact DenAll.nil
 |_,_,ds,.cons (r:=.imm d) (rs:=rs) h t,e=>by
  simp only[iq]at e
  cases q:iq rs with
  |none=>rw[q]at e;cases e
  |some g=>rw[q]at e;cases e;exact DenAll.cons h (t.imm q)
 |_,_,_,.cons (r:=.obj _) h t,e=>by cases e
 |_,_,_,.cons (r:=.new _) h t,e=>by cases e
 |_,_,_,.cons (r:=.at _ _) h t,e=>by cases e
 |_,_,_,.cons (r:=.newT _) h t,e=>by cases e
def Jx(P:List aD->Prop):Option (List aD)->Prop
 |some ds=>ds.length≤aai/\P ds
 |none=>False
abbrev wTup(f:WA):WE:=λm K=>f m λrs d=>Jx (λds=>K (.imm (.tuple ds)) d) (iq rs)
abbrev wLst(f:WA):WE:=λm K=>f m λrs d=>Jx (λds=>K (.new ds) d) (iq rs)
theorem OU{x1}(h:MA X es f):ME X (.Tuple es x1 pos) (wTup f):=(Qr h).wk<|by
 intro s H Q ⟨r,m,K,n,q,d⟩;refine⟨r,m,_,n,q,λrs m1 vs t k n1 R rr F=>?_⟩
 cases e:iq rs with
 |none=>rw[e]at k;exact k.elim
 |some ds=>
  rw[e]at k;let⟨o,k⟩:=k;have g:=rr.imm e;refine⟨by rw[<-g.length];exact o,λp i=>d _ m1 _ _ k n1 (R.lay i) (?_) (F.trans (cC i))⟩;exact⟨p,vs,rfl,SqT.of ay,g.mono (bm (.inl i))⟩
theorem T5(h:MA X es f):ME X (.List es pos) (wLst f):=(Sv h).wk<|by
 intro s H Q ⟨r,m,K,n,q,i⟩;refine⟨r,m,_,n,q,λrs m1 vs t k n1 R rr F=>?_⟩
 cases e:iq rs with
 |none=>rw[e]at k;exact k.elim
 |some ds=>
  rw[e]at k;let⟨o,k⟩:=k;have g:=rr.imm e;refine⟨by rw[<-g.length];exact o,λp d=>i _ m1 _ _ k n1 (R.lay d) ((RelR.base R F (⟨p,vs,rfl,d,ay,g.mono (bm (.inl d))⟩))) (F.trans (cC d))⟩
abbrev WC:=List R->MSt->(R->Prop)->Prop
def cM(K:Kx)(o:WC):List V->Hp->VK->Prop:=λx H Q=>∃d m g i rs h,Rel K d m g H/\RelRs K d i H rs x/\o rs m h/\∀r v e,h r->Rel K d m g e->RelR K d H e r v->Frm d H e->Q v e
abbrev wCB(o:WC)(f:WA):WE:=λm K=>f m λrs m1=>o rs m1 λr=>K r m1
theorem Ng{o:WC}(h:tM X.kx (wCB o f) σ H Q):tCB (cM X.kx o) (tMA X.kx f) σ H Q:=by
 let⟨i,m,K,p,s,e⟩:=h;exact⟨i,m,_,p,s,λrs m1 vs t k n1 R rr n=>⟨i,m1,σ,H,rs,_,R,rr,k,λr v q k g d F=>e r m1 v q k n1 g (d.base R n) (n.trans F)⟩⟩
theorem DA{id:String}{o:WC}(m:dM X (.builtin id) (cM X.kx o))(i:Gl X x)(k:X.mg x=none)(g:aa2 x=some (.builtin id))(q:MA X (a::es) f)(n:x ≠ "__name__":=by decide)(d:(x==("__debug__" : Str))=false:=by decide)
  (r:aac (a::es) X.env=(false,eval a X.env)::aac es X.env:=by first|exact aG rfl|rfl) (e:(abk pos (aac es X.env)).any (·.1)=false:=by rfl):ME X (.Call (.Name x p) (a::es) [] pos) (wCB o f):=(v5 m i k g q n d r e).wk λ_ _ _ h=>Ng h
theorem Ce{o:WC}(m:dM X (.type T) (cM X.kx o))(i:Gl X x)(k:X.mg x=none)(g:aa2 x=some (.type T))(q:MA X (a::es) f)(n:x ≠ "__name__":=by decide)(d:(x==("__debug__" : Str))=false:=by decide)
  (r:aac (a::es) X.env=(false,eval a X.env)::aac es X.env:=by first|exact aG rfl|rfl) (e:(abk pos (aac es X.env)).any (·.1)=false:=by rfl):ME X (.Call (.Name x p) (a::es) [] pos) (wCB o f):=(yW m i k g q n d r e).wk λ_ _ _ h=>Ng h
end
inductive Ag where
 |imm (d:aD)|own (ds:List aD)|tr (t:aD)
abbrev SpM:=List Ag->(R->List (List aD)->Prop)->Prop
inductive RelAs(K:Kd)(H:Hp):List Ag->List V->Al->Prop where
 |nil:RelAs K H [] [] []
 |imm {d:aD}{v:V}{as:List Ag}{vs:List V}{β:Al}:Den K H d v->RelAs K H as vs β->RelAs K H (.imm d::as) (v::vs) β
 |own {ds:List aD}{a:Addr}{as:List Ag}{vs:List V}{β:Al}:OwnAt K H (.L a) ds->RelAs K H as vs β->RelAs K H (.own ds::as) (.ref a::vs) (.L a::β)
 |tr {t:aD}{a:Addr}{τ:List (List Nat×Addr)}{as:List Ag}{vs:List V}{β:Al}:OwnAt K H (.T τ) [t]->τ.lookup []=some a->RelAs K H as vs β->RelAs K H (.tr t::as) (.ref a::vs) (.T τ::β)
theorem RelAs.length:∀{as:List Ag}{vs:List V}{β:Al},RelAs K H as vs β->as.length=vs.length
 |_,_,_,.nil=>rfl
 |_,_,_,.imm _ t=>by simp[t.length]
 |_,_,_,.own _ t=>by simp[t.length]
 |_,_,_,.tr _ _ t=>by simp[t.length]
structure Bj(K:Kd)(H:Hp)(β:Al)(outs:List (List aD)):Prop where
 len:outs.length=β.length
 at_:∀(j:Nat) (ao:Ao) (ds:List aD),β[j]?=some ao->outs[j]?=some ds->OwnAt K H ao ds
def spOf(K:Kd)(n:Nat)(sp:SpM):Sp:=λvs H Q _=>∃c a d,c.length=n/\(ads a).Nodup/\RelAs K H c vs a/\sp c d/\∀r o v b,d r o->Bj K b a o->RelR K a H b r v->Frm a H b->Q v b
theorem spOf.len{E:XK}(h:spOf K n sp vs H Q E):vs.length=n:=by
 let⟨c,b,d,a,_,r,_⟩:=h;rw[<-r.length];exact a
def iQ(m:MSt):List R->Option (List Ag×List Nat)
 |[]=>some ([],[])
 | .imm d::rs=>match iQ m rs with|some (as,ks)=>some (.imm d::as,ks)|none=>none
 | .obj k::rs=>match m.os[k]?,iQ m rs with|some ds,some (as,ks)=>some (.own ds::as,k::ks)|_,_=>none
 | .at k []::rs=>match m.os[k]?,iQ m rs with|some [t],some (as,ks)=>some (.tr t::as,k::ks)|_,_=>none
 |_::_=>none
def cR:List (List aD)->List Nat->List (List aD)->List (List aD)
 |os,k::ks,o::outs=>cR (os.set k o) ks outs
 |os,_,_=>os
def mapR(ks:List Nat):R->R
 | .imm d=>.imm d
 | .new ds=>.new ds
 | .obj j=>.obj (ks.getD j 0)
 | .at j p=>.at (ks.getD j 0) p
 | .newT t=>.newT t
def Bf(sp:SpM)(w:WA):WE:=λm K=>w m λrs m1=>match iQ m1 rs with
 |some (as,ks)=>ks.Nodup/\sp as λr o=>K (mapR ks r) {m1 with os:=cR m1.os ks o}
 |none=>False
theorem ju:∀(ks:List Nat) (os a:List (List aD)),(cR os ks a).length=os.length
 |[],_,_=>by simp[cR]
 |_::_,_,[]=>by simp[cR]
 |k::ks,os,o::a=>by simp[cR,ju ks]
theorem jR:∀(ks:List Nat) (os a:List (List aD)) (k:Nat),k∉ks->(cR os ks a)[k]?=os[k]?
 |[],_,_,_,_=>by simp[cR]
 |_::_,_,[],_,_=>by simp[cR]
 |k'::ks,os,o::a,k,h=>by
  rw[aaf]at h;rw[not_or]at h;show(cR _ ks a)[k]?=_;rw[jR ks _ _ k h.2,aaP (ab1 h.1)]
theorem um:∀(ks:List Nat) (os a:List (List aD)) (j k:Nat) (ds:List aD),ks.Nodup->ks[j]?=some k->a[j]?=some ds->k<os.length->(cR os ks a)[k]?=some ds
 |[],_,_,_,_,_,_,h,_,_=>by simp at h
 |_::_,_,[],_,_,_,_,_,h,_=>by simp at h
 |k'::ks,os,o::a,0,k,ds,nd,h1,h2,hk=>by
  simp at h1 h2;subst h1;subst h2;show(cR _ ks a)[k']?=_;rw[jR ks _ _ k' (aba.mp nd).1,aaX hk]
 |k'::ks,os,o::a,j+1,k,ds,nd,h1,h2,hk=>by
  exact um ks _ a j k ds (aba.mp nd).2 ‹_› ‹_› (by simpa)
def fY(c:Al):(ads c).Nodup↔(∀ao∈c,ao.ads.Nodup)/\c.Pairwise λx y=>∀a∈x.ads,∀b∈y.ads,a≠b:=List.pairwise_flatMap
theorem gL(nd:(ads α).Nodup){x y:Ao}(g:α[i]?=some x)(f:α[j]?=some y)(h:i≠j)(b:a∈x.ads)(d:a∈y.ads):False:=by
 have e:=((fY α).mp nd).2;let⟨p,k⟩:=Ad.mp g;let⟨c,q⟩:=Ad.mp f;subst k q;rcases Nat.lt_or_gt_of_ne h with l|l
 .exact adx.mp e i j p c l a b a d rfl
 .exact adx.mp e j i c p l a d a b rfl
def ki{x:Ao}(b:α[i]?=some x)(h:a∈x.ads):a∈ads α:=ach.mpr ⟨x,GT b,h⟩
theorem jn(h:a∈ads α):∃(i:Nat) (x:Ao),α[i]?=some x/\a∈x.ads:=by
 let⟨b,d,c⟩:=ach.mp h;let⟨k,hk,e⟩:=abW.mp d;exact⟨k,b,by rw[lD hk,e],c⟩
section
variable {K:Kx}{c:Al}{m:MSt}{g:St}{H l f:Hp}
theorem gq(b:Rel K c m g H):∀{rs:List R}{vs:List V}{as:List Ag}{ks:List Nat},RelRs K c l H rs vs->iQ m rs=some (as,ks)->∃β,RelAs K H as vs β/\abL (λ(k:Nat) (ao:Ao)=>c[k]?=some ao) ks β
 |_,_,_,_,.nil,e=>by cases e;exact⟨[],.nil,.nil⟩
 | _,_,as,ks,.cons (r:=.imm d) (rs:=rs) h t,e=>by
  simp only[iQ]at e
  cases q:iQ m rs with
  |none=>rw[q]at e;cases e
  |some p=>
   rw[q]at e;cases e;let⟨β,j,i⟩:=gq b t q;exact⟨β,.imm h j,i⟩
 | _,_,as,ks,.cons (r:=.obj k) (rs:=rs) h t,e=>by
  simp only[iQ]at e
  cases q1:m.os[k]? with
  |none=>rw[q1]at e;cases e
  | some ds=>
   cases q:iQ m rs with
   |none=>rw[q1,q]at e;cases e
   |some p=>
    let⟨s,o⟩:=p;rw[q1,q]at e;cases e;let⟨β,j,i⟩:=gq b t q;let⟨a,n,rfl⟩:=h;exact⟨.L a::β,.own (b.own k _ ds n q1) j,.cons n i⟩
 |_,_,as,ks,.cons (r:=.at k []) (rs:=rs) h t,e=>by
  simp only[iQ]at e
  split at e
  .rename_i t' s o q1 q;cases e;let⟨β,j,i⟩:=gq b t q;let⟨v,a,n,u,rfl⟩:=h;exact⟨.T v::β,.tr (b.own k _ _ n q1) u j,.cons n i⟩
  .cases e
 |_,_,_,_,.cons (r:=.at _ (_::_)) h t,e=>by cases e
 |_,_,_,_,.cons (r:=.new _) h t,e=>by cases e
 |_,_,_,_,.cons (r:=.newT _) h t,e=>by cases e
theorem d9(nd:(ads c).Nodup)(h:ks.Nodup)(p:abL (λ(k:Nat) (ao:Ao)=>c[k]?=some ao) ks β):(ads β).Nodup:=by
 have one:=((fY c).mp nd).1
 induction p with
 |nil=>exact abE
 | @cons k ao ks β e t ih=>
  have d:=ih (aba.mp h).2;rw[fY]at d⊢;refine⟨λx n=>?_,acD.mpr ⟨λy s a r b o z=>?_,d.2⟩⟩
  .rcases aaf.mp n with rfl|n
   .exact one _ (GT e)
   .exact d.1 x n
  .subst z;let⟨j,A,ej⟩:=abW.mp s;let⟨w,v,u⟩:=Paired.get2 t (i:=j) (b:=y) (by simp_all);have q:=Classical.byContradiction λne=>gL nd e u ne r o;exact(aba.mp h).1 (q▸GT v)
theorem xw(R:Rel K c m g H){s:List (List aD)}(nd:ks.Nodup)(p:abL (λ(k:Nat) (ao:Ao)=>c[k]?=some ao) ks β)(O:Bj K f β s)(F:Frm β H f) :
  Rel K c {m with os:=cR m.os ks s} g f/\Frm c H f:=by
 have C:∀a∈ads β,∃k ao,k∈ks/\c[k]?=some ao/\a∈ao.ads:=λa B=>by
  let⟨j,ao,ej,w⟩:=jn B;let⟨U,u,E⟩:=Paired.get2 p ej;exact⟨U,ao,GT u,E,w⟩
 have A:Frm c H f:=λb o e n=>F b o e λz=>by
  let⟨k,ao,_,E,w⟩:=C b z;exact n (ki E w)
 have P:=R.pers A;have y:∀(k:Nat) (ao:Ao) (ds:List aD),c[k]?=some ao->(cR m.os ks s)[k]?=some ds->OwnAt K f ao ds:=λk ao ds u x=>by
  have hk:k<m.os.length:=by rw[<-R.len];exact(Ad.mp u).1
  by_cases w:k∈ks
  .obtain⟨j,hj,ej⟩:=abW.mp w;have J:ks[j]?=some k:=by rw[lD hj,ej]
   let⟨V,M,Q⟩:=Paired.get' p J;rw[u]at Q;cases Q;have I:j<s.length:=by rw[O.len];exact(Ad.mp M).1
   have L:s[j]?=some s[j]:=lD I;rw[um ks m.os s j k _ nd J L hk]at x;cases x;exact O.at_ j _ _ M L
  .rw[jR ks _ _ k w]at x;have q:=R.own k ao ds u x;refine q.mono P λa B=>?_;let⟨o,N,_⟩:=q.mem B;rw[N];refine F a o N λz=>?_;let⟨k2,T,G,S,D⟩:=C a z;exact gL R.nd u S (λz=>w (z▸G)) B D
 refine⟨⟨R.nd,by show c.length=(cR m.os ks s).length;rw[ju];exact R.len,y,R.vlen,λi r h=>?_,R.npl,R.ebl,R.ebx.trans ⟨rfl,A,λ_ h=>.inl h,λa B=>?_⟩⟩,A⟩
 .obtain⟨v,ev,rv⟩:=R.var i r h;refine⟨v,ev,?_⟩
  cases r with
  |imm d=>exact Den.mono P rv
  |obj k=>exact rv
  | «at» k p=>exact rv
  |new ds=>exact rv
  |newT t=>exact rv
 .obtain⟨k,ao,u,w⟩:=jn B;have hk:k<(cR m.os ks s).length:=by rw[ju,<-R.len];exact(Ad.mp u).1
  let⟨o,q,_⟩:=(y k ao _ u (lD hk)).mem w;exact⟨o,q⟩
theorem vM{K:Kd}(p:abL (λ(k:Nat) (ao:Ao)=>c[k]?=some ao) ks β)(h:RelR K β H f r v):RelR K c H f (mapR ks r) v:=by
 have get:∀{j:Nat}{ao:Ao},β[j]?=some ao->c[ks.getD j 0]?=some ao:=λ{j ao} b=>by
  let⟨k,o,z⟩:=Paired.get2 p b
  simp_all
 cases r with
 |imm d=>exact h
 |new ds=>exact h
 |newT t=>exact h
 |obj j=>
  let⟨a,b,e⟩:=h;exact⟨a,get b,e⟩
 | «at» j q=>
  let⟨n,a,b,i,e⟩:=h;exact⟨n,a,get b,i,e⟩
end
section
variable {X:Cx}{a:Expr}{es:List Expr}{w:WA}{pos p:Pos}{k n:Nat}{f:Addr}{fd:ab3}{ps:List Str}{sp:SpM}{x:Str}{CX:CXT}
theorem L7{E:XK}(h:tM X.kx (Bf sp w) σ H Q)(u:∀as K,sp as K->as.length=n):QG (spOf X.kd n sp) [] E (tMA X.kx w) σ H Q:=by
 let⟨A,m,K,t,z,j⟩:=h;refine⟨A,m,_,t,z,λrs m1 vs I c n1 R rr s=>?_⟩
 cases e:iQ m1 rs with
 |none=>rw[e]at c;exact c.elim
 |some q=>
  let⟨as,G⟩:=q;rw[e]at c;let⟨nd,b⟩:=c;let⟨D,C,g⟩:=gq R rr e;refine⟨as,D,_,u _ _ b,d9 R.nd nd g,by rw[aaN];exact C,b,λr o v y d O l F=>?_⟩;let⟨i,B⟩:=xw R nd g O F;exact j _ _ v y d n1 i ((vM g l).base R s) (s.trans B)
theorem NH{E:XK}(F:FnOk X.prog X.w X.K X.mg X.base CX k f fd ps (spOf X.kd n sp))(l:Room k X.A)(d:Gl X x)(e:X.mg x=some (.ref f))(hk:abM X.K (.ref f)=true)(j:Binds X.K fd ps [])(g:j9 CX X E)(i:∀as K,sp as K->as.length=n)
  (m:MA X (a::es) w) (b:(x==("__debug__" : Str))=false:=by decide) (o:aac (a::es) X.env=(false,eval a X.env)::aac es X.env:=by first|exact aG rfl|rfl) (c:(abk pos (aac es X.env)).any (·.1)=false:=by rfl) :
  ME X (.Call (.Name x p) (a::es) [] pos) (Bf sp w):=(M9 F l d e hk j .nil g m b o c).wk λ_ _ _ h=>L7 h i
end
structure dm where
 nx:MSt->Prop
 rt:R->MSt->Prop
 bk:MSt->Prop:=λ_=>False
 ct:MSt->Prop:=λ_=>False
abbrev WS:=dm->MSt->Prop
theorem RelR.ext{np:Nat}{c:Al}(x:Ext np α H α1 H1)(h:RelR K c H1 H2 r v):RelR K c H H2 r v:=by
 cases r with
 |imm d=>exact h
 |obj k=>exact h
 | «at» k p=>exact h
 |new ds=>
  let⟨a,i,e,n,q,g⟩:=h;exact⟨a,i,e,x.nil n,q,g⟩
 |newT t=>
  let⟨l,a,e,j,nd,n,g⟩:=h;exact⟨l,a,e,j,nd,λb f=>x.nil (n b f),g⟩
structure EndsOk(K:Kx)(np:Nat)(α:Al)(H:Hp)(De:dm)(D:Ends):Prop where
 nx:∀α' m' σ' H',De.nx m'->m'.np=np->Rel K α' m' σ' H'->Ext np α H α' H'->D.nx σ' H'
 rt:∀r α' m' σ' v H',De.rt r m'->m'.np=np->Rel K α' m' σ' H'->RelR K α' H H' r v->Ext np α H α' H'->D.rt v H'
 bk:∀α' m' σ' H',De.bk m'->m'.np=np->Rel K α' m' σ' H'->Ext np α H α' H'->D.bk σ' H'
 ct:∀α' m' σ' H',De.ct m'->m'.np=np->Rel K α' m' σ' H'->Ext np α H α' H'->D.ct σ' H'
theorem EndsOk.ext{K:Kx}{np:Nat}(h:EndsOk K np α H De D)(x:Ext np α H α1 H1):EndsOk K np α1 H1 De D where
 nx:=λb m a c k n R y=>h.nx b m a c k n R (x.trans y)
 rt:=λr b m a v c k n R rr y=>h.rt r b m a v c k n R (rr.ext x) (x.trans y)
 bk:=λb m a c k n R y=>h.bk b m a c k n R (x.trans y)
 ct:=λb m a c k n R y=>h.ct b m a c k n R (x.trans y)
def tMS(K:Kx)(w:WS):TS:=λD c H=>∃a m b,Rel K a m c H/\w b m/\EndsOk K m.np a H b D
abbrev MS(X:Cx)(st:Stmt)(w:WS):Prop:=PS X st (tMS X.kx w)
abbrev MSs(X:Cx)(st:List Stmt)(w:WS):Prop:=PSs X st (tMS X.kx w)
section
variable {X:Cx}{a b c e:Expr}{es:List Expr}{d f g i:WE}{pos:Pos}{st:Stmt}{rest:List Stmt}{w u:WS}
abbrev R9:WS:=λD m=>D.nx m
abbrev wSeq(w u:WS):WS:=λD m=>w {D with nx:=λh=>u D h } m
theorem JN:MSs X [] R9:=(JS).wk<|by intro D j H ⟨h,m,n,R,l,k⟩;exact k.nx h m j H l rfl R (.of R (Frm.refl _ _))
theorem CY(s:MS X st w)(o:MSs X rest u):MSs X (st::rest) (wSeq w u):=(xo s o).wk<|by intro D x H ⟨t,m,r,j,p,k⟩;exact
 ⟨t,m,_,j,p,⟨λh v l z q n R y=>⟨h,v,r,R,q,by rw[n];exact k.ext y⟩,k.rt,k.bk,k.ct⟩⟩
theorem K6(j:MS X st w):MSs X [st] w:=(KI j).wk λD k H h=>h
end
section
variable {X:Cx}{a b c e:Expr}{es:List Expr}{wa wb wc we:WE}{ws:WA}{wt:WT}{pos:Pos}{st:Stmt}{rest body body2:List Stmt}{w u:WS}
abbrev wRet(we:WE):WS:=λD m=>we m λr d=>D.rt r d
theorem QJ(j:ME X e we):MS X (.Return (some e) pos) (wRet we):=(OO j).wk<|by intro D g H ⟨d,m,o,f,i,k⟩;exact
 ⟨d,m,_,f,i,λr l v h q n R rr F=>k.rt r d l g v h q n R rr (.of R F)⟩
abbrev RQ(we:WE):WS:=λD m=>we m λ_ d=>D.nx d
theorem Mz(l:ME X e we)(h:abA e none pos.line X.env=pure false:=by rfl):MS X (.Expr e pos) (RQ we):=(Og l h).wk<|by intro D g H ⟨d,m,p,f,j,k⟩;exact
 ⟨d,m,_,f,j,λr o v i q n R rr F=>k.nx d o g i q n R (.of R F)⟩
abbrev wIfS(t:WT)(w u:WS):WS:=λD m=>t m λc d=>if c=true then w D d else u D d
theorem UX(o:MT X t wt)(r:MSs X body w)(j:MSs X body2 u):MS X (.If t body body2 pos) (wIfS wt w u):=(UZ o r j).wk<|by
 intro D v H ⟨d,m,f,i,p,k⟩;refine⟨d,m,_,i,p,λs g l q n R F=>?_⟩;have h:EndsOk X.kx g.np d l f D:=by rw[n];exact k.ext (.of R F)
 cases s with
 |true=>rw[if_pos rfl]at q;exact iteT ⟨d,g,f,R,q,h⟩
 |false=>rw[if_neg aam]at q;exact iteF ⟨d,g,f,R,q,h⟩
def IK:WS:=λ_ _=>False
theorem Gq:MS X st IK:=(FI).wk<|by intro D f H ⟨d,m,g,R,h,k⟩;exact h
def MSt.setV(m:MSt)(i:Nat)(r:R):MSt:={m with vs:=m.vs.set i (some r)}
def RenR(f:List Nat)(o:Option (Option R)):R->Prop
 | .imm d=>o=some (some (.imm d))
 | .obj k=>∃j,f[k]?=some j/\o=some (some (.obj j))
 | .at k p=>∃j,f[k]?=some j/\o=some (some (.at j p))
 | .new _=>False
 | .newT _=>False
structure Ren(ρ:List Nat)(m m2:MSt):Prop where
 nd:ρ.Nodup
 lt:∀k∈ρ,k<m.os.length
 pre:ρ.take m.np=aaz m.np
 npl:m.np≤ρ.length
 os:m2.os=ρ.map λk=>m.os.getD k []
 np:m2.np=m.np
 vl:m2.vs.length=m.vs.length
 vs:∀(j:Nat) (r:R),m2.vs[j]?=some (some r)->RenR ρ m.vs[j]? r
def upR(D:MSt->Prop)(m:MSt):Prop:=D m\/∃d m2,Ren d m m2/\D m2
def sU(i:Nat)(D:MSt->Prop)(m:MSt):R->Prop
 | .imm d=>upR D (m.setV i (.imm d))
 | .obj k=>upR D (m.setV i (.obj k))
 | .at k p=>upR D (m.setV i (.at k p))
 | .new ds=>upR D {vs:=m.vs.set i (some (.obj m.os.length)),os:=m.os++[ds],np:=m.np} \/
   ∃k,m.vs[i]?=some (some (.obj k))/\m.np≤k/\(∀j:Nat,j≠i->m.vs[j]?≠some (some (.obj k)))/\D {m with os:=m.os.set k ds}
 | .newT t=>upR D {vs:=m.vs.set i (some (.at m.os.length [])),os:=m.os++[[t]],np:=m.np}
theorem gJ{d:Al}{n:Nat}(g:d.length=n):∀{f:List Nat},(∀k∈f,k<n)->abL (λ(k:Nat) (ao:Ao)=>d[k]?=some ao) f (f.map λk=>d.getD k (.L 0))
 |[],_=>.nil
 | k::f,h=>.cons (by
   have hk:k<d.length:=by rw[g];exact h k aaa
   show d[k]?=some (d.getD k _);rw[aar,lD hk];rfl) (gJ g λj i=>h j (LD _ i))
theorem JR{K:Kx}{m m2:MSt}{g:List Nat}(R:Rel K α m σ H)(N:Ren g m m2):∃s,Rel K s m2 σ H/\Ext m.np α H s H:=by
 have E:=gJ R.len N.lt;have get:∀(k:Nat) (f:Ao),(g.map λk=>α.getD k (.L 0))[k]?=some f->∃j:Nat,g[k]?=some j/\α[j]?=some f:=λk f z=>by
  let⟨j,U,J⟩:=Paired.get2 E z;exact⟨j,U,J⟩
 have n:∀(k j:Nat) (f:Ao),g[k]?=some j->α[j]?=some f->(g.map λk=>α.getD k (.L 0))[k]?=some f:=λk j f G A=>by
  let⟨P,V,I⟩:=Paired.get' E G;rw[A]at I;cases I;exact V
 have t:(g.map λk=>α.getD k (.L 0)).take m.np=α.take m.np:=by
  apply ab5;intro l;rw[aaO,aaO]
  by_cases i:l<m.np
  .rw[if_pos i,if_pos i];have:g[l]?=some l:=by
    have e:=congrArg (·[l]?) N.pre;simp only[aaO,if_pos i]at e;rw[e,ab9 i]
   have y:l<α.length:=aat i R.npl;rw[n l l α[l] this (lD y),lD y]
  .rw[if_neg i,if_neg i]
 have ext:Ext m.np α H (g.map λk=>α.getD k (.L 0)) H:=⟨t,Frm.refl _ _,λa F=>by
  let⟨k,f,L,M⟩:=jn F;let⟨j,_,T⟩:=get k f L;exact .inl (ki T M),λa F=>by
  let⟨o,q,_⟩:=R.mem F;exact⟨_,q⟩⟩
 refine⟨g.map λk=>α.getD k (.L 0),⟨d9 R.nd N.nd E,?_,λk f ds G A=>?_,?_,λj r z=>?_,?_,by rw[N.np];exact R.ebl,R.ebx.trans (ext.less R.ebl)⟩,ext⟩
 .rw[N.os,iO,iO]
 .obtain⟨j,q,qa⟩:=get k f G;rw[N.os,aah,q]at A;have O:j<m.os.length:=N.lt j (GT q);have C:m.os.getD j []=ds:=aaB A;refine R.own j f ds qa ?_;rw[<-C,aar,lD O];rfl
 .rw[N.vl];exact R.vlen
 .have h:=N.vs j r z
  cases r with
  |imm d=>exact R.var j (.imm d) h
  |new _=>exact h.elim
  |newT _=>exact h.elim
  |obj k=>
   let⟨x,q,h⟩:=h;let⟨v,B,a,D,e⟩:=R.var j (.obj x) h;exact⟨v,B,a,n k x _ q D,e⟩
  | «at» k p=>
   let⟨x,q,h⟩:=h;let⟨v,B,S,a,D,Q,e⟩:=R.var j (.at x p) h;exact⟨v,B,S,a,n k x _ q D,Q,e⟩
 .rw[N.np,iO];exact N.npl
abbrev wSet(i:Nat)(we:WE):WS:=λD m=>we m λr d=>sU i D.nx d r
theorem cy{K:Kx}{m:MSt}(R:Rel K α m σ H)(h:RelS K α H r v):Rel K α (m.setV i r) (σ.set i (some v)) H:=by
 refine⟨R.nd,R.len,R.own,?_,λj g e=>?_,R.npl,R.ebl,R.ebx⟩
 .show(σ.set i _).length=(m.vs.set i _).length;rw[abg,abg];exact R.vlen
 .have e':(m.vs.set i (some r))[j]?=some _:=e
  by_cases d:i=j
  .subst d
   by_cases f:i<m.vs.length
   .rw[aaX f]at e';cases e';exact⟨v,aaX (by rw[R.vlen];exact f),h⟩
   .simp_all
  .rw[aaP d]at e'⊢;exact R.var j g e'
theorem qz{K:Kx}{m:MSt}(R:Rel K α m σ H)(E:∃C i,Rel K α C i H0)(F:Frm α H0 H)(nd:ao.ads.Nodup)(A:∀b∈ao.ads,H0 b=none)(g:OwnAt K H ao ds) :
  Rel K (α++[ao]) {m with os:=m.os++[ds]} σ H/\∀np,np≤α.length->Ext np α H0 (α++[ao]) H:=by
 let⟨C,i,h⟩:=E;have s:∀b∈ao.ads,b∉ads α:=λb G=>h.out (A b G);have one:ads [ao]=ao.ads:=by simp[ads]
 have ext:∀np,np≤α.length->Ext np α H0 (α++[ao]) H:=λnp t=>⟨by rw[List.take_append_of_le_length t],F,λa r=>by
  rw[jN,one]at r;rcases aaT.mp r with z|z
  .exact .inl z
  .exact .inr (A a z),λa r=>by
  let⟨o,q,_⟩:=R.mem r;exact⟨_,q⟩⟩
 refine⟨⟨?_,by simp[R.len],λk a es f J=>?_,R.vlen,λj B z=>?_,by have:=R.npl;show m.np≤(α++[ao]).length;rw[aaj];omega,R.ebl,h.ebx.trans (ext _ ?_)⟩,ext⟩
 .rw[jN,one];exact acK.mpr ⟨R.nd,nd,λx D y I e=>s y I (e▸D)⟩
 .have z2':(m.os++[ds])[k]?=some es:=J
  by_cases hk:k<α.length
  .rw[aaC hk]at f;rw[aaC (by rw[<-R.len];exact hk)]at z2';exact R.own k a es f z2'
  .rw[aaL (by omega)]at f;rw[aaL (by rw[<-R.len];omega)]at z2';have n:k-α.length=0:=by
    have:=(Ad.mp f).1;simp at this;omega
   rw[n]at f;rw[<-R.len,n]at z2'
   simp_all
 .obtain⟨v,ev,rv⟩:=R.var j B z;refine⟨v,ev,?_⟩
  cases B with
  |imm d=>exact rv
  |new _=>exact rv
  |newT _=>exact rv
  |obj k=>
   let⟨a,l,e⟩:=rv;exact⟨a,by rw[aaC (Ad.mp l).1];exact l,e⟩
  | «at» k p=>
   let⟨L,a,l,e⟩:=rv;exact⟨L,a,by rw[aaC (Ad.mp l).1];exact l,e⟩
 .exact aas R.ebl R.npl
theorem u8{K:Kx}{m:MSt}{Q:St->Hp->Prop}{np:Nat}(f:Rel K α m σ H)(n:m.np=np)(F:Frm α H0 H)(h:RelR K α H0 H r v)(q:sU i P m r)
  (k:∀A E s D,P E->E.np=np->Rel K A E s D->Ext np α H0 A D->Q s D) (R0:∃m0 V,Rel K α m0 V H0):Q (σ.set i (some v)) H:=by
 have up:∀A E s D,upR P E->E.np=np->Rel K A E s D->Ext np α H0 A D->Q s D:=λA E s D q n R x=>by
  rcases q with q|⟨ρ,m2,N,q⟩
  .exact k A E s D q n R x
  .obtain⟨α2,R2,x2⟩:=JR R N;rw[n]at x2;exact k α2 m2 s D q (N.np.trans n) R2 (x.trans x2)
 have J:np≤α.length:=by rw[<-n];exact f.npl
 cases r with
 |imm d=>exact up α _ _ H q n (cy f (r:=.imm d) h) (.of (cy (i:=i) f (r:=.imm d) h) F)
 |obj j=>exact up α _ _ H q n (cy f (r:=.obj j) h) (.of (cy (i:=i) f (r:=.obj j) h) F)
 | «at» j p=>exact up α _ _ H q n (cy f (r:=.at j p) h) (.of (cy (i:=i) f (r:=.at j p) h) F)
 |newT t=>
  let⟨W,p,rfl,M,nd,S,g⟩:=h;let⟨base,ext⟩:=qz f R0 F (ao:=.T W) nd S g;exact up (α++[.T W]) _ _ H q n (cy base (r:=.at m.os.length []) ⟨W,p,by rw[aaL (by rw[f.len];exact Mt _),<-f.len];simp,M,rfl⟩) (ext np J)
 | new ds=>
  let⟨p,xs,rfl,S,hp,g⟩:=h;have R0':=R0;let⟨m0,V,T⟩:=R0';have O:p∉ads α:=T.out S;rcases q with q|⟨j,e1,e2,e3,q⟩
  .
   let⟨base,ext⟩:=qz f R0 F (ao:=.L p) (by simp[Ao.ads]) (λb G=>by cases aab.mp G;exact S) ⟨xs,hp,g⟩;exact up (α++[.L p]) _ _ H q n (cy base (r:=.obj m.os.length) ⟨p,by rw[aaL (by rw[f.len];exact Mt _),<-f.len];simp,rfl⟩) (ext np J)
  .
   let⟨aj,U⟩:∃aj,α[j]?=some (.L aj):=by
    let⟨v,_,a,L,_⟩:=f.var i _ e1;exact⟨a,L⟩
   have Z:j<α.length:=(Ad.mp U).1;have hi:i<m.vs.length:=(Ad.mp e1).1;have ndS:(ads (α.set j (.L p))).Nodup:=by
    have z:=(fY α).mp f.nd;rw[fY];refine⟨λao B=>?_,adx.mpr λi1 i2 h1 h2 hlt a B b G e=>?_⟩
    .rcases afg B with y|y
     .exact z.1 ao y
     .subst y;simp[Ao.ads]
    .subst e;rw[abg]at h1 h2;have mem:∀(l:Nat) (C:l<α.length),a∈(α[l]).ads->a∈ads α:=λl C h=>ki (lD C) h
     by_cases I:j=i1
     .subst I;rw[agg]at B;rw[adB (by exact aa1 ‹_›)]at G
      cases aab.mp B
      exact O (mem i2 h2 G)
     .rw[adB I]at B
      by_cases c2:j=i2
      .subst c2;rw[agg]at G
       cases aab.mp G
       exact O (mem i1 h1 B)
      .rw[adB c2]at G;exact gL f.nd (lD h1) (lD h2) (aa1 hlt) B G
   have ext:Ext np α H0 (α.set j (.L p)) H:=by
    refine⟨?_,F,λa B=>?_,λa B=>?_⟩
    .apply ab5;intro l;rw[aaO,aaO]
     by_cases C:l<np
     .rw[if_pos C,if_pos C,aaP (by omega)]
     .rw[if_neg C,if_neg C]
    .obtain⟨l,ao,M,hm⟩:=jn B
     by_cases I:j=l
     .subst I;rw[aaX Z]at M;cases M
      cases aab.mp hm
      exact .inr S
     .rw[aaP I]at M;exact .inl (ki M hm)
    .obtain⟨o,q,_⟩:=f.mem B;exact⟨_,q⟩
   have Rl':Rel K (α.set j (.L p)) {m with os:=m.os.set j ds} (σ.set i (some (.ref p))) H:=by
    refine⟨ndS,by simp[f.len],λk a es Y z2=>?_,by rw[abg];exact f.vlen,λl r' z=>?_,by rw[abg];exact f.npl,f.ebl,T.ebx.trans (ext.less (by have:=f.ebl;omega))⟩
    .have z2':(m.os.set j ds)[k]?=some es:=z2
     by_cases I:j=k
     .subst I;rw[aaX Z]at Y;rw[aaX (by rw[<-f.len];exact Z)]at z2'
      cases Y;cases z2'
      exact⟨xs,hp,g⟩
     .rw[aaP I]at Y z2';exact f.own k a es Y z2'
    .have z':m.vs[l]?=some (some r'):=z
     by_cases C:i=l
     .subst C;rw[e1]at z';cases z';exact⟨.ref p,aaX (by rw[f.vlen];exact hi),p,aaX Z,rfl⟩
     .obtain⟨v,ev,rv⟩:=f.var l r' z';refine⟨v,by rw[aaP C];exact ev,?_⟩
      cases r' with
      |imm d=>exact rv
      |new _=>exact rv
      |newT _=>exact rv
      |obj k=>
       let⟨a,L,e⟩:=rv;refine⟨a,?_,e⟩;rw[aaP]
       .exact L
       .rintro rfl;exact e3 l (ab1 C) z'
      | «at» k p'=>
       let⟨W,a,L,e⟩:=rv;refine⟨W,a,?_,e⟩;rw[aaP]
       .exact L
       .rintro rfl;rw[U]at L;cases L
   exact k (α.set j (.L p)) _ _ H q n Rl' ext
theorem Ui{p:Pos}(j:X.N.Nodup)(h:X.N[i]?=some x)(f:Loc X.env.scope x)(y:ME X e we)(o:abA e (some (.Name x p)) pos.line X.env=pure false:=by rfl)(t:X.fn x=true\/X.env.scope.names.lookup x=some .local:=by first|exact .inl rfl|exact .inr rfl|assumption) :
  MS X (.Assign [.Name x p] e pos) (wSet i we):=(SD j h f y o t).wk<|by intro D g H ⟨l,m,B,d,s,k⟩;exact
 ⟨l,m,_,d,s,λr A v z q n R rr F=>u8 R n F rr q k.nx ⟨m,g,d⟩⟩
abbrev WG:=aD->MSt->(MSt->Prop)->Prop
abbrev WGs:=List aD->MSt->(MSt->Prop)->Prop
def tMG(K:Kx)(g:WG):TG:=λv k H Q=>∃i m d j,Rel K i m k H/\Den K H d v/\g d m j/\∀h f,j h->h.np=m.np->Rel K i h f H->Q f H
def tMGs(K:Kx)(g:WGs):TGs:=λvs j H Q=>∃h m ds i,Rel K h m j H/\DenAll K H ds vs/\g ds m i/\∀f d,i f->f.np=m.np->Rel K h f d H->Q d H
theorem PG.wk{X:Cx}{e:Expr}{t t':TG}(h:PG X e t)(k:∀v d H Q,t' v d H Q->t v d H Q):PG X e t':=λp s d H v u Q I r q=>h p s d H v u Q I r (k _ _ _ _ q)
theorem PGs.wk{X:Cx}{e:List Expr}{t t':TGs}(h:PGs X e t)(k:∀v d H Q,t' v d H Q->t v d H Q):PGs X e t':=λp s d H v u Q I r q=>h p s d H v u Q I r (k _ _ _ _ q)
abbrev MG(X:Cx)(e:Expr)(g:WG):Prop:=PG X e (tMG X.kx g)
abbrev MGs(X:Cx)(es:List Expr)(g:WGs):Prop:=PGs X es (tMGs X.kx g)
abbrev gM(i:Nat):WG:=λd m K=>K (m.setV i (.imm d))
def K8:WGs:=λds m K=>ds=[]/\K m
abbrev BI(g:WG)(f:WGs):WGs:=λds m K=>match ds with|d::r=>g d m λh=>f r h K|[]=>False
def JX(n:Nat)(g:WGs):WG:=λd m K=>match d with| .tuple ds=>ds.length=n/\g ds m K|_=>False
theorem Lr(h:X.N.Nodup)(g:X.N[i]?=some x)(j:Loc X.env.scope x)(l:X.fn x=true\/X.env.scope.names.lookup x=some .local:=by first|exact .inl rfl|exact .inr rfl|assumption):MG X (.Name x pos) (gM i):=(Jw h g j l).wk λv o H Q ⟨n,m,d,K,R,hd,k,f⟩=>
 f _ _ k rfl (cy R hd)
theorem Kz:MGs X [] K8:=(NU).wk<|by
 intro v g H Q ⟨i,m,d,K,R,hd,h,f⟩;let⟨rfl,h⟩:=h;exact⟨hd,f m g h rfl R⟩
theorem CU{e:Expr}{es:List Expr}(s:MG X e g)(t:MGs X es gs)
  (y:(abT (e::es) X.env).map (·.2)=aft e X.env::(abT es X.env).map (·.2):=by rfl):MGs X (e::es) (BI g gs):=(Gj s t y).wk<|by
 intro v C H Q ⟨j,m,ds,K,o,hd,l,i⟩
 cases ds with
 |nil=>exact l.elim
 |cons d r=>
  let⟨x,z,rfl,p,A⟩:=hd;exact⟨x,z,rfl,j,m,d,_,o,p,l,λB q k n R=>⟨j,B,r,_,R,A,k,λm2 h k2 n2 f=>i m2 h k2 (n2.trans n) f⟩⟩
theorem Rj{es:List Expr}{k:Nat}(h:MGs X es gs)(q:X.calm=true:=by rfl)
  (o:(abT es X.env).length=n:=by rfl) (j:(abT es X.env).findIdx? (·.1)=none:=by rfl):MG X (.Tuple es k pos) (JX n gs):=(SG q h o j).wk<|by
 intro v r H Q ⟨p,m,d,K,R,hd,i,l⟩
 cases d with
 |tuple ds=>
  let⟨a,x,e,f,g⟩:=hd;exact⟨a,x,e,f,g.length.symm.trans i.1,p,m,ds,K,R,g,i.2,l⟩
 |none=>exact i.elim
 |bool _=>exact i.elim
 |int _=>exact i.elim
 |str _=>exact i.elim
 |list _=>exact i.elim
 |dict _=>exact i.elim
abbrev i6(P:aD->Prop):R->Prop
 | .imm d=>P d
 |_=>False
theorem fq{K:Kx}{P:aD->Prop}(rr:RelR K α Hb H r v)(h:i6 P r):∃d,r = .imm d/\Den K H d v/\P d:=by
 cases r with
 |imm d=>exact⟨d,rfl,rr,h⟩
 |obj _=>exact h.elim
 |new _=>exact h.elim
 | «at» _ _=>exact h.elim
 |newT _=>exact h.elim
abbrev wAsg(we:WE)(g:WG):WS:=λD m=>we m λr f=>i6 (λd=>g d f D.nx) r
theorem Qe(z:ME X e we)(s:MG X tg g)(t:adE [tg] e pos.line X.env=pure false:=by rfl)(h:adF [tg] e X.env=pure none:=by rfl)
  (o:(abT [tg] X.env).map (·.2)=[aft tg X.env]:=by rfl):MS X (.Assign [tg] e pos) (wAsg we g):=(Qj z s t h o).wk<|by
 intro D A H ⟨f,m,C,l,h,k⟩;refine⟨f,m,_,l,h,λr y v x q n j rr F=>?_⟩;let⟨d,B,hd,q⟩:=fq rr q;exact⟨f,y,d,_,j,hd,q,λm2 i p n2 R=>k.nx f m2 i x p (n2.trans n) R (.of R F)⟩
def wPar(i j:Nat)(ws:WA):WS:=λD m=>ws m λrs d=>match rs with|[.imm d1,.imm d2]=>D.nx ((d.setV i (.imm d1)).setV j (.imm d2))|_=>False
theorem Qf{f p pt:Pos}{kt k2 pt2}(z:X.N.Nodup)(I:X.N[i]?=some x)(G:X.N[j]?=some y)(h:i≠j)
  (r:X.env.scope.names.lookup x=some .local) (v:X.env.scope.names.lookup y=some .local) (s:MA X [a,b] ws)
  (d:adF [.Tuple [.Name x f,.Name y p] kt pt] (.Tuple [a,b] k2 pt2) X.env=pure (some [x,y])) (K:X.calm=true:=by rfl)
  (A:adE [.Tuple [.Name x f,.Name y p] kt pt] (.Tuple [a,b] k2 pt2) pos.line X.env=pure false:=by rfl) :
  MS X (.Assign [.Tuple [.Name x f,.Name y p] kt pt] (.Tuple [a,b] k2 pt2) pos) (wPar i j ws):=(Sd K z I G h r v s d A).wk<|by
 intro D M H ⟨l,m,E,o,d,k⟩;refine⟨l,m,_,o,d,λrs L vs B q n R rr F=>?_⟩;let⟨d1,g,C,q⟩:∃d1 g,rs=[.imm d1,.imm g]/\E.nx ((L.setV i (.imm d1)).setV j (.imm g)):=by
  split at q
  .exact⟨_,_,rfl,q⟩
  .exact q.elim
 subst C
 cases rr with
 |cons J rr=>
  cases rr with
  |cons t rr=>
  cases rr;exact⟨_,_,rfl,k.nx l _ _ B q n (cy (cy R J) t) (.of R F)⟩
end
structure Src where
 ds:List aD
 own:Option (Nat×List aD)
structure Wks(K:Kd)(J:It)(ds:List aD)(C:Hp->Prop):Prop where
 stop:∀H,C H->J.stop ds.length H
 go:∀i H,i<ds.length->C H->J.go i H
 yld:∀i H x H',i<ds.length->C H->J.yld i H x H'->(∀b o,H b=some o->H' b=some o)/\∃d,ds[i]?=some d/\Den K H' d x
def vh(K:Kd)(d:Al)(H:Hp)(s:Src)(J:It):Prop:=
 match s.own with
 |none=>∃C:Hp->Prop,Wks K J s.ds C/\C H/\∀b c,C b->Pers b c->C c
 |some k=>∃a,d[k.1]?=some (.L a)/\Wks K J s.ds λH=>∃x,H a=some (.lst x)/\DenAll K H k.2 x
abbrev WI:=MSt->(Src->MSt->Prop)->Prop
def tMI(K:Kx)(w:WI):TI:=λd H R=>∃a m e,Rel K a m d H/\w m e/\∀s c J b,e s c->c.np=m.np->Rel K a c d b->Frm a H b->vh K a b s J->R J b
theorem PI.wk{t t':TI}(h:PI X tg e t)(k:∀a H Q,t' a H Q->t a H Q):PI X tg e t':=λp s a H Q I q=>h p s a H Q I (k _ _ _ q)
abbrev MI(X:Cx)(tg e:Expr)(w:WI):Prop:=PI X tg e (tMI X.kx w)
section
variable {X:Cx}{tg a b c e B:Expr}{es:List Expr}{N O Q E:WE}{G:WA}{M:WT}{pos:Pos}{st:Stmt}{rest A L:List Stmt}{w u:WS}
def iSeq(K:aad)(tl:TE):TI:=λg H R=>tl g H λx d=>∃a,x = .ref a/\(((∃f,SqL K d a f)/\R (Itl K a) d)\/((∃f,SqT K d a f)/\R (Itt K a) d))
theorem O6{l:Expr}{tl:TE}(r:PE X l tl):PI X tg l (iSeq X.K tl):=by
 intro f s k H R I h;refine thn (r f s k H _ I h) λv s1 ⟨x,j,d,r1,n⟩=>?_;let⟨a,e,q⟩:=n;subst e;cases r1;rcases q with⟨⟨m,g⟩,q⟩|⟨⟨m,g⟩,q⟩
 .obtain⟨its,rv,p,hz⟩:=d.list g;refine wpAny_pyIter_list p.isList ?_;refine⟨s1.heap.objs.size,[s1.heap.objs.size],_,_,j,rfl,d.kept (t':=s1.toks) λb o e=>Ld _ e,yF a _,⟨_,aan _ rfl,rfl,rfl⟩,λb i=>?_,q⟩;have e:=by simpa using i
  subst e;exact d.fpOk (Mt _) (d.hok.fresh (Mt _))
 .obtain⟨its,rv,p,hz⟩:=d.tuple g;refine wpAny_pyIter_tuple (p) ?_;refine⟨s1.heap.objs.size,[s1.heap.objs.size],_,_,j,rfl,d.kept (t':=s1.toks) λb o e=>Ld _ e,ym a _,⟨_,aan _ rfl,rfl,rfl⟩,λb i=>?_,q⟩;have e:=by simpa using i
  subst e;exact d.fpOk (Mt _) (d.hok.fresh (Mt _))
def srcR(m:MSt)(K:Src->MSt->Prop):R->Prop
 | .imm (.list ds)=>K ⟨ds,none⟩ m
 | .imm (.tuple ds)=>K ⟨ds,none⟩ m
 | .obj k=>∃ds,m.os[k]?=some ds/\K ⟨ds,some (k,ds)⟩ m
 |_=>False
abbrev O9(E:WE):WI:=λm K=>E m λr d=>srcR d K r
theorem wks_list{a:Addr}:Wks K (Itl K a) ds λH=>∃xs,SqL K H a xs/\DenAll K H ds xs where
 stop:=λH ⟨xs,q,g⟩=>⟨xs,q,by rw[g.length];exact Mt _⟩
 go:=λi H h ⟨xs,q,g⟩=>⟨xs,xs[i]'(by rw[<-g.length];exact h),q,lD _⟩
 yld:=λi H x k h ⟨xs,q,g⟩ y=>by
  let⟨e,y⟩:=y;subst e;let⟨d,j,f⟩:=g.get2 (y xs q);exact⟨λ_ _ z=>z,d,j,f⟩
theorem JL{a:Addr}:Wks K (Itt K a) ds λH=>∃xs,SqT K H a xs/\DenAll K H ds xs where
 stop:=λH ⟨xs,q,g⟩=>⟨xs,q,by rw[g.length];exact Mt _⟩
 go:=λi H h ⟨xs,q,g⟩=>⟨xs,xs[i]'(by rw[<-g.length];exact h),q,lD _⟩
 yld:=λi H x k h ⟨xs,q,g⟩ y=>by
  let⟨e,y⟩:=y;subst e;let⟨d,j,f⟩:=g.get2 (y xs q);exact⟨λ_ _ z=>z,d,j,f⟩
theorem Wks.imp{C f:Hp->Prop}(h:Wks K J ds C)(k:∀H,f H->C H):Wks K J ds f:=⟨λH c=>h.stop H (k H c),λi H d c=>h.go i H d (k H c),λi H x g d c=>h.yld i H x g d (k H c)⟩
theorem O3(D:ME X e E):MI X tg e (O9 E):=(O6 (tg:=tg) D).wk<|by
 intro P H T ⟨K,m,S,y,C,i⟩;refine⟨K,m,_,y,C,λr s v o k n R rr F=>?_⟩
 cases r with
 |new _=>exact k.elim
 | «at» _ _=>exact k.elim
 |newT _=>exact k.elim
 |obj j=>
  let⟨ds,I,k⟩:=k;let⟨p,t,rfl⟩:=rr;let⟨x,q,g⟩:=R.own j _ ds t I;exact⟨p,rfl,.inl ⟨⟨x,SqL.of q⟩,i _ s _ o k n R F ⟨p,t,wks_list.imp<|by intro H ⟨x,q,g⟩;exact⟨x,SqL.of q,g⟩⟩⟩⟩
 | imm d=>
  cases d with
  |list ds=>
   have h:=rr;simp only[Den]at h;let⟨p,x,rfl,f,g⟩:=h;refine⟨p,rfl,.inl ⟨⟨x,f.sq⟩,i _ s _ o k n R F ⟨λH=>∃x,FzL X.kx H p x/\DenAll X.kx H ds x,wks_list.imp λH ⟨x,q,g⟩=>⟨x,q.sq,g⟩,⟨x,f,g⟩,λJ z ⟨x,q,g⟩ l=>⟨x,q.mono l,g.mono l⟩⟩⟩⟩
  |tuple ds=>
   have h:=rr;simp only[Den]at h;let⟨p,x,rfl,f,g⟩:=h;refine⟨p,rfl,.inr ⟨⟨x,f⟩,i _ s _ o k n R F ⟨λH=>∃x,SqT X.kx H p x/\DenAll X.kx H ds x,JL,⟨x,f,g⟩,λJ z ⟨x,q,g⟩ l=>⟨x,q.mono l,g.mono l⟩⟩⟩⟩
  |none=>exact k.elim
  |bool _=>exact k.elim
  |int _=>exact k.elim
  |str _=>exact k.elim
  |dict _=>exact k.elim
def j7(l:Int)(n:Nat):List aD:=(aaz n).map λ(i:Nat)=>abU (l+(i:Int))
def aV(l:Int)(n:Nat):(j7 l n).length=n:=by simp[j7]
def pQ{l:Int}(h:i<n):(j7 l n)[i]?=some (.int (l+(i:Int))):=by simp[j7,h]
theorem B5{l:Int}:Wks K (Itr l n) (j7 l n) λ_=>True where
 stop:=λH _=>by rw[aV];exact Mt _
 go:=λi H h _=>by rw[aV]at h;exact h
 yld:=λi H x d h _ y=>by
  rw[aV]at h;let⟨e,y⟩:=y;subst e y;exact⟨λ_ _ z=>z,_,pQ h,yJ _⟩
abbrev IL(G:WA):WI:=λm K=>G m λrs d=>match rs with|[.imm (.int j)]=>-(2^62)≤j/\j<2^62/\K ⟨j7 0 j.toNat,none⟩ d|_=>False
def aF{i:Int}(h:Den K H (.int i) v):v = .int i:=by simpa[Den]
theorem Au(x:Gl X "range")(s:X.mg "range" = none)(l:MA X [a] G)(o:aac [a] X.env=[(false,eval a X.env)]:=by first|exact d5 rfl|rfl):MI X tg (.Call (.Name "range" p) [a] [] pos) (IL G):=(Ai x s l o).wk<|by
 intro y H z ⟨v,m,K,h,r,f⟩;refine⟨v,m,_,h,r,λrs g vs d k n R rr F=>?_⟩;let⟨j,q,k1,k2,i⟩:∃j:Int,rs=[.imm (.int j)]/\-(2^62)≤j/\j<2^62/\K ⟨j7 0 j.toNat,none⟩ g:=by
  split at k
  .exact⟨_,rfl,k⟩
  .exact k.elim
 subst q
 cases rr with
 |cons t rr=>
  cases rr;have e:=aF (show Den X.kx d _ _ from t);subst e;exact⟨j,rfl,k1,k2,f _ g _ d i n R F ⟨λ_=>True,B5,trivial,λ_ _ _ _=>trivial⟩⟩
def MSt.setN(m:MSt)(n:Nat):MSt:={m with np:=n}
def Src.np(s:Src)(m:MSt):Nat:=match s.own with|none=>m.np|some k=>max m.np (k.1+1)
def Src.ok(s:Src)(m:MSt):Prop:=match s.own with|none=>True|some k=>m.os[k.1]?=some k.2
def mf(s:Src)(g:WG)(w:WS):WS:=λD m1=>∃P:Nat->MSt->Prop,P 0 (m1.setN (s.np m1))/\
 (∀(i:Nat) (d:aD) (m:MSt),s.ds[i]?=some d->m.np=s.np m1->P i m->s.ok m/\g d m λm2=>w {nx:=P (i+1),ct:=P (i+1),bk:=λf=>D.nx (f.setN m1.np),rt:=λr f=>D.rt r (f.setN m1.np)} m2)/\
 ∀m,m.np=s.np m1->P s.ds.length m->s.ok m/\D.nx (m.setN m1.np)
abbrev wFor(d:WI)(g:WG)(w:WS):WS:=λD m=>d m λs m1=>mf s g w D m1
def Rel.setN{K:Kx}{m:MSt}(R:Rel K α m σ H)(h:n≤α.length)(d:K.eb.np≤n):Rel K α (m.setN n) σ H:=⟨R.nd,R.len,R.own,R.vlen,R.var,h,d,R.ebx⟩
theorem vx{K:Kx}{s:Src}{w:WS}(Rl:Rel K α m1 σ H)(Z:vh K α H s J)(h:mf s g w De m1)(k:EndsOk K m1.np α H De D)
  (hb:∀f F m t De' D',f.take (s.np m1)=α.take (s.np m1)->F.np=s.np m1->Rel K f F m t->w De' F->EndsOk K F.np f t De' D'->tb D' m t):ud J (tMG K g) tb D σ H:=by
 let⟨P,p0,turn,fin⟩:=h;have npk:s.np m1≤α.length:=by
  unfold Src.np;unfold vh at Z
  cases e:s.own with
  |none=>exact Rl.npl
  |some j=>
   rw[e]at Z;let⟨a,ea,_⟩:=Z;have:=(Ad.mp ea).1;have:=Rl.npl;show max m1.np (j.1+1)≤α.length;omega
 have S:m1.np≤s.np m1:=by
  unfold Src.np;split
  .exact Mt _
  .exact aeK _ _
 let⟨C,wk,hC⟩:∃C:Hp->Prop,Wks K J s.ds C/\∀f F m t,Rel K f F m t->Ext (s.np m1) α H f t->s.ok F->C t:=by
  unfold vh at Z
  cases e:s.own with
  |none=>
   rw[e]at Z;let⟨C,wk,c0,cm⟩:=Z;exact⟨C,wk,λf F m t _ x _=>cm H t c0 (Rl.pers x.frm)⟩
  | some j=>
   rw[e]at Z;let⟨a,ea,wk⟩:=Z;refine⟨_,wk,λf F m t T x ok=>?_⟩;have hj:j.1<s.np m1:=by unfold Src.np;rw[e];show j.1<max _ _;omega
   have ea':f[j.1]?=some (.L a):=by
    have:=congrArg (λl=>l[j.1]?) x.pre;simp only[aaO,if_pos hj]at this;rw[this];exact ea
   unfold Src.ok at ok;rw[e]at ok;exact T.own j.1 _ j.2 ea' ok
 have U:∀{f:Al}{F:MSt}{m:St}{t:Hp},Rel K f F m t->F.np=s.np m1->Ext (s.np m1) α H f t->Rel K f (F.setN m1.np) m t:=λT n x=>T.setN (by
  have:=T.npl;rw[n]at this;exact aas ‹_› ‹_›) Rl.ebl
 refine⟨λi n m t=>n=s.ds.length-i/\i≤s.ds.length/\∃f F,P i F/\F.np=s.np m1/\Rel K f F m t/\Ext (s.np m1) α H f t,⟨s.ds.length,by simp,abm _,α,_,p0,rfl,Rl.setN npk (aas Rl.ebl S),.of Rl (Frm.refl _ _)⟩,?_⟩;intro i n m t ⟨rfl,hi,f,F,p,hn,T,x⟩
 by_cases Y:i<s.ds.length
 .have hd:s.ds[i]?=some s.ds[i]:=lD Y;let⟨ok,hg⟩:=turn i _ F hd hn p;have c:=hC f F m t T x ok;refine .inr ⟨wk.go i t Y c,λσ2 W=>∃α2 m2,P (i+1) m2/\m2.np=s.np m1/\Rel K α2 m2 σ2 W/\Ext (s.np m1) α H α2 W,λσ2 W h2=>⟨s.ds.length-(i+1),by omega,rfl,Y,h2⟩,λv W y=>?_⟩;let⟨grow,d,e1,e2⟩:=wk.yld i t v W Y c y;rw[hd]at e1;cases e1;have F2:Frm f t W:=λb o z _=>grow b o z;have R2:Rel K f F m W:=T.at (T.pers F2) (λb hb=>by
   let⟨ys,z,_⟩:=T.mem hb;rw[z];exact grow b _ z) F2
  have x2:Ext (s.np m1) α H f W:=x.trans (.of R2 F2);refine⟨f,F,_,_,R2,e2,hg,λm3 σ3 q3 n3 R3=>hb f m3 σ3 W _ _ x2.pre (n3.trans hn) R3 q3 ?_⟩;have I:m3.np=s.np m1:=n3.trans hn;have x3:Ext m3.np α H f W:=by rw[I];exact x2
  refine⟨λR m4 V H4 q4 n4 R4 x4=>⟨R,m4,q4,n4.trans I,R4,?_⟩,λr R m4 V v4 H4 q4 n4 R4 rr x4=>?_,λR m4 V H4 q4 n4 R4 x4=>?_,λR m4 V H4 q4 n4 R4 x4=>⟨R,m4,q4,n4.trans I,R4,?_⟩⟩
  .rw[<-I];exact x3.trans x4
  .have x5:Ext (s.np m1) α H R H4:=by rw[<-I];exact x3.trans x4
   exact k.rt r R (m4.setN m1.np) V v4 H4 q4 rfl (U R4 (n4.trans I) x5) (rr.ext x3) (x5.less S)
  .have x5:Ext (s.np m1) α H R H4:=by rw[<-I];exact x3.trans x4
   exact k.nx R (m4.setN m1.np) V H4 q4 rfl (U R4 (n4.trans I) x5) (x5.less S)
  .rw[<-I];exact x3.trans x4
 .have e:i=s.ds.length:=by omega
  subst e;let⟨ok,q⟩:=fin F hn p;exact .inl ⟨wk.stop t (hC f F m t T x ok),k.nx f (F.setN m1.np) m t q rfl (U T hn x) (x.less S)⟩
theorem SU{i:WI}(l:MI X tg B i)(z:MG X tg g)(t:MSs X A w)(r:afG (model X.prog X.w) X.A X.env X.xe)(I:X.calm=true:=by rfl)
  (C:∀x,aaQ B X.env x=pure x:=by intro _;rfl):MS X (.For tg B A [] pos) (wFor i g w):=(Ub r I l z t C).wk<|by intro D U H ⟨y,m,V,j,S,k⟩;exact
 ⟨y,m,_,j,S,λs h J K q n R F v=>vx R v q (by rw[n];exact k.ext (.of R F)) λd h o K f W _ _ p P T=>⟨d,h,f,p,P,T⟩⟩
def v9(t:WT)(w:WS):WS:=λD g=>∃P:Nat->MSt->Prop,(∃n,P n g)/\∀n m,m.np=g.np->P n m->t m λc f=>if c=true then w {D with nx:=λm2=>∃d,d<n/\P d m2,ct:=λm2=>∃d,d<n/\P d m2,bk:=D.nx} f else D.nx f
theorem F7(T:MT X t M)(S:MSs X A w)(Y:afG (model X.prog X.w) X.A X.env X.xe):MS X (.While t A [] pos) (v9 M w):=(Dj Y T S).wk<|by
 intro D σ H ⟨I,m,De,J,⟨P,⟨V,p0⟩,l⟩,k⟩;refine⟨λn f i=>∃d g,P n g/\g.np=m.np/\Rel X.kx d g f i/\Ext m.np I H d i,⟨V,I,m,p0,rfl,J,.of J (Frm.refl _ _)⟩,?_⟩;intro n C H1 ⟨j,m1,Z,n1,W,K⟩;refine⟨j,m1,_,W,l n m1 n1 Z,λbb m2 U q n2 R2 F2=>?_⟩;have x:=K.trans (.of R2 F2);have p:m2.np=m.np:=n2.trans n1
 cases bb with
 |true=>
  refine iteT ⟨λo F=>∃h,h<n/\∃d g,P h g/\g.np=m.np/\Rel X.kx d g o F/\Ext m.np I H d F,by intro o F ⟨h,s,z⟩;exact⟨h,s,z⟩,j,m2,_,R2,q,?_⟩;rw[p];exact⟨λd g f i ⟨h,s,q⟩ nn R y=>⟨h,s,d,g,q,nn,R,x.trans y⟩,λr d g f v i q nn R rr y=>k.rt r d g f v i q nn R (rr.ext x) (x.trans y),λd g f i q nn R y=>k.nx d g f i q nn R (x.trans y),λd g f i ⟨h,s,q⟩ nn R y=>⟨h,s,d,g,q,nn,R,x.trans y⟩⟩
 |false=>
  exact iteF (k.nx j m2 C U q p R2 x)
end
section
variable {K:Kx}{f:Al}{m:MSt}{j:St}{H:Hp}
theorem Rel.setW(R:Rel K f m j H)(s:f[q]?=some ao)(y:Pers H H')(F:∀b,b∉ao.ads->H' b=H b)(g:OwnAt K H' ao ds'):Rel K f {m with os:=m.os.set q ds' } j H'/\Frm f H H':=by
 have u:Frm f H H':=λb o e nb=>by rw[F b λz=>nb (ki s z)];exact e
 have l:∀(k:Nat) (a:Ao) w,f[k]?=some a->(m.os.set q ds')[k]?=some w->OwnAt K H' a w:=λk a w x n=>by
  by_cases c:q=k
  .subst c;rw[aaX (by rw[<-R.len];exact(Ad.mp s).1)]at n
   grind
  .rw[aaP c]at n;exact(R.own k a w x n).mono y λb A=>F b λz=>gL R.nd s x c z A
 refine⟨⟨R.nd,by simp[R.len],l,R.vlen,λi r h=>?_,R.npl,R.ebl,R.ebx.trans ⟨rfl,u,λ_ h=>.inl h,λa s=>?_⟩⟩,u⟩
 .obtain⟨v,ev,rv⟩:=R.var i r h;refine⟨v,ev,?_⟩
  cases r with
  |imm d=>exact Den.mono y rv
  |obj k=>exact rv
  | «at» k p=>exact rv
  |new ds=>exact rv
  |newT t=>exact rv
 .obtain⟨k,ao,e1,hm⟩:=jn s;have hk:k<(m.os.set q ds').length:=by rw[abg,<-R.len];exact(Ad.mp e1).1
  let⟨o,q,_⟩:=(l k ao _ e1 (lD hk)).mem hm;exact⟨o,q⟩
theorem Rel.setO{x:List V}(R:Rel K f m j H)(a:f[q]?=some (.L l))(c:H l=some (.lst xs))(g:DenAll K H ds' x):Rel K f {m with os:=m.os.set q ds' } j (upd H l (.lst x))/\Frm f H (upd H l (.lst x)):=by
 have p:Pers H (upd H l (.lst x)):=w9 c;exact R.setW a p (λb h=>av λe=>h (aab.mpr e)) ⟨x,ay,g.mono p⟩
end
def yn(own:List Str)(ps:List Nat)(vs:List (Option R)):List (Option R):=own.map (λ_=>none)++ps.map λi=>(vs[i]?).join
def oi(own:List Str)(ps:List Nat)(m:MSt):MSt:=⟨yn own ps m.vs,m.os++[[]],m.os.length+1⟩
abbrev wIfT(tt:WT)(w:WS):WS:=λD m=>tt m λb a=>if b=true then w D a else D.nx a
abbrev Ku(q:Nat)(w:WE):WS:=λD m=>w m λr a=>i6 (λd=>∃ds,a.os[q]?=some ds/\ds.length<aai/\D.nx {a with os:=a.os.set q (ds++[d])}) r
abbrev rQ(b:WI)(own:List Str)(ps:List Nat)(g:WG)(tt:WT)(w:WE):WE:=λm K=>b m λs m1=>
 mf s g (wIfT tt (Ku m1.os.length w)) {nx:=λa=>K (.new (a.os.getD m1.os.length [])) {m1 with os:=a.os.take m1.os.length},rt:=λ_ _=>False} (oi own ps m1)
abbrev Ah(c:WI)(own:List Str)(ps:List Nat)(g:WG)(tt:WT)(w:WI)(b:WG)(t:WT)(e:WE):WE:=λm K=>c m λs m1=>
 mf s g (wIfT tt λD m2=>w m2 λs2 d=>mf s2 b (wIfT t (Ku m1.os.length e)) D d) {nx:=λa=>K (.new (a.os.getD m1.os.length [])) {m1 with os:=a.os.take m1.os.length},rt:=λ_ _=>False} (oi own ps m1)
abbrev yH:WT:=λm K=>K true m
section
variable {K:Kx}
theorem AE{w:WE}{m:MSt}(c:α[q]?=some (.L l))(e:Rel K α m σ H)(h:Ku q w De m)(k:EndsOk K m.np α H De D):yw l (tM K w) D σ H:=by
 refine⟨α,m,_,e,h,λr s v o a n R rr F=>?_⟩;let⟨d,p,hd,ds,j,i,a⟩:=fq rr a;let⟨x,b,g⟩:=R.own q _ ds c j;let⟨R2,f⟩:=R.setO c b (g.append (DenAll.cons hd DenAll.nil));exact⟨x,b,by rw[<-g.length];exact i,k.nx α _ σ _ a n R2 (.of R2 (F.trans f))⟩
theorem y8{tt:WT}{m:MSt}(d:Rel K α m σ H)(h:wIfT tt w De m)(k:EndsOk K m.np α H De D)
  (e:∀a b,a.np=m.np->Rel K α a σ b->w De a->EndsOk K a.np α b De D->tb D σ b):tIfT (tMT K tt) tb D σ H:=by
 refine⟨α,m,_,d,h,λf a b q n R F=>?_⟩;have c:EndsOk K a.np α b De D:=by rw[n];exact k.ext (.of R F)
 cases f with
 |true=>rw[if_pos rfl]at q;exact iteT (e a b n R q c)
 |false=>rw[if_neg aam]at q;exact iteF (c.nx α a σ b q rfl R (.of R (Frm.refl _ _)))
theorem AG{own:List Str}{ps:List Nat}{s:Src}{m:MSt}{Kc:R->MSt->Prop}(Rl:Rel K α m σ H)(n1:m1.np=m.np)(c:Rel K α m1 σ H1)(F1:Frm α H H1)(S:vh K α H1 s J)(M:H1 l=none)
  (h:mf s g w {nx:=λf=>Kc (.new (f.os.getD m1.os.length [])) {m1 with os:=f.os.take m1.os.length},rt:=λ_ _=>False} (oi own ps m1))
  (fin:∀r f v u,Kc r f->f.np=m.np->Rel K α f σ u->RelR K α H u r v->Frm α H u->Q v u)
  (hb:∀A f D u F Z,A[m1.os.length]?=some (.L l)->m1.os.length<f.np->Rel K A f D u->w F f->EndsOk K f.np A u F Z->tb Z D u) :
  ud J (tMG K g) tb {nx:=λ_ u=>Q (.ref l) u,rt:=λ_ _=>False} (ir own ps σ) (upd H1 l (.lst [])):=by
 have pα:l∉ads α:=c.out M;have pe:Pers H1 (upd H1 l (.lst [])):=bm (.inl M);have B:α.length=m1.os.length:=c.len;have W:(α++[.L l])[m1.os.length]?=some (.L l):=by rw[aaL (by omega),<-B];simp
 have X:Rel K α m1 σ (upd H1 l (.lst [])):=c.lay M;let⟨Rm,extm⟩:=qz (ao:=.L l) (ds:=[]) X ⟨m1,σ,c⟩ (cC M) (by simp[Ao.ads]) (λb hb=>by cases aab.mp hb;exact M) ⟨[],ay,DenAll.nil⟩;have R0:Rel K (α++[.L l]) (oi own ps m1) (ir own ps σ) (upd H1 l (.lst [])):=by
  refine⟨Rm.nd,by simp[oi,B],Rm.own,by simp[ir,oi,yn],λi r z=>?_,by simp[oi,B],by have:=c.ebl;have:=c.npl;show K.eb.np≤m1.os.length+1;omega,Rm.ebx⟩;have E:(yn own ps m1.vs)[i]?=some (some r):=z;unfold yn at E
  by_cases hi:i<own.length
  .rw[aaC (by simpa using hi),aah]at E
   cases q:own[i]? with
   |none=>rw[q]at E;cases E
   |some y=>rw[q]at E;cases E
  .rw[aaL (by simpa using hi),iO,aah]at E
   cases q:ps[i-own.length]? with
   |none=>rw[q]at E;cases E
   | some p=>
    rw[q]at E;have V:(m1.vs[p]?).join=some r:=aaB E;have hv:m1.vs[p]?=some (some r):=by
     cases y:m1.vs[p]? with
     |none=>rw[y]at V;cases V
     |some y'=>rw[y]at V;cases y' with
      |none=>cases V
      |some y'=>cases V;rfl
    let⟨v,ev,N⟩:=Rm.var p r hv;refine⟨v,?_,N⟩;unfold ir;rw[aaL (by simpa using hi),iO,aah,q];show some ((σ[p]?).join)=some (some v);rw[ev];rfl
 have hJ':vh K (α++[.L l]) (upd H1 l (.lst [])) s J:=by
  unfold vh at S⊢
  cases e:s.own with
  |none=>
   rw[e]at S;let⟨C,wk,c0,cm⟩:=S;exact⟨C,wk,cm _ _ c0 pe,cm⟩
  |some j=>
   rw[e]at S;let⟨a,ea,wk⟩:=S;exact⟨a,by rw[aaC (Ad.mp ea).1];exact ea,wk⟩
 have T:m1.os.length<s.np (oi own ps m1):=by
  unfold Src.np;split
  .exact aby _
  .exact aat (aby _) (aeK _ _)
 refine vx R0 hJ' h ⟨λA f D u q n O x=>?_,λ_ _ _ _ _ _ z=>z.elim,λ_ _ _ _ z=>z.elim,λ_ _ _ _ z=>z.elim⟩ λA f D u F Z hp hnp O h' k'=>hb A f D u F Z ?_ (by rw[hnp];exact T) O h' k'
 .
  have n':f.np=m1.os.length+1:=n;have x':Ext (m1.os.length+1) (α++[.L l]) (upd H1 l (.lst [])) A u:=x;have F':Frm α H1 u:=λb o e nb=>by
   have U:b≠l:=bq e M;refine x'.frm b o (by rw[av U];exact e) λz=>?_;rw[jN]at z;rcases aaT.mp z with z|z
   .exact nb z
   .exact U (by simpa[ads,Ao.ads]using z)
  have pe':Pers H1 u:=c.pers F';have I:∀k,k<m1.os.length+1->A[k]?=(α++[.L l])[k]?:=λk hk=>by
   have:=congrArg (λz=>z[k]?) x'.pre;simp only[aaO,if_pos hk]at this;exact this
  have hlen':m1.os.length+1≤f.os.length:=by
   have:=O.npl;rw[n',O.len]at this;exact this
  have hq:m1.os.length<f.os.length:=by assumption
  have eq1:f.os[m1.os.length]?=some (f.os.getD m1.os.length []):=by
   rw[aar,lD hq];rfl
  let⟨xs,y1,y2⟩:=O.own m1.os.length (.L l) _ (by rw[I _ (aby _)];exact W) eq1;have G:∀(k:Nat) (a:Ao) (Y:List aD),α[k]?=some a->(f.os.take m1.os.length)[k]?=some Y->OwnAt K u a Y:=λk a Y z1 L=>by
   rw[aaO]at L;have hk:k<m1.os.length:=by rw[<-B];exact(Ad.mp z1).1
   rw[if_pos hk]at L;exact O.own k a Y (by rw[I k (by omega),aaC (by omega)];exact z1) L
  have tl:(f.os.take m1.os.length).length=α.length:=by rw[aaw];omega
  have P:Ext K.eb.np α H1 α u:=⟨rfl,F',λ_ h=>.inl h,λa ha=>by
   let⟨k,ao,e1,hm⟩:=jn ha;have hk:k<(f.os.take m1.os.length).length:=by rw[tl];exact(Ad.mp e1).1
   let⟨o,q,_⟩:=(G k ao _ e1 (lD hk)).mem hm;exact⟨o,q⟩⟩
  refine fin _ _ (.ref l) u q n1 ⟨c.nd,tl.symm,G,c.vlen,λi r z=>?_,c.npl,c.ebl,c.ebx.trans P⟩ ?_ (F1.trans F')
  .obtain⟨v,ev,N⟩:=c.var i r z;refine⟨v,ev,?_⟩
   cases r with
   |imm d=>exact Den.mono pe' N
   |obj k=>exact N
   | «at» k p=>exact N
   |new ds=>exact N
   |newT t=>exact N
  .refine⟨l,xs,rfl,?_,y1,y2⟩
   cases z:H l with
   |none=>rfl
   |some o=>
    have:=F1 l o z pα;rw[M]at this;cases this
 .have:=congrArg (λz=>z[m1.os.length]?) hp;simp only[aaO,if_pos T]at this;rw[this];exact W
end
section
variable {X:Cx}{scope sc:Scope}{own fr:List Str}{ps:List Nat}{elt tg a j b:Expr}{ifs e:List Expr}{pos d u:Pos}{w o:WI}{g A:WG}{tt p:WT}{f:WE}
theorem vO(h:tM X.kx (rQ w own ps g tt f) σ H Q):z6 (tMI X.kx w) own ps (tl1 (tMG X.kx g) (tMT X.kx tt) (tM X.kx f)) σ H Q:=by
 let⟨D,m,L,i,z,c⟩:=h;refine⟨D,m,_,i,z,λs m1 J M k n1 R G C l E=>?_⟩;exact AG i n1 R G C E k c λx N n I F O t r q y B=>y8 q y B λm2 K n2 R2 v k2=>AE t R2 v k2
theorem Fj(h:tM X.kx (Ah w own ps g tt o A p f) σ H Q):z6 (tMI X.kx w) own ps (tl2 (tMG X.kx g) (tMT X.kx tt) (tMI X.kx o) (tMG X.kx A) (tMT X.kx p) (tM X.kx f)) σ H Q:=by
 let⟨α,m,Kc,t,K,r⟩:=h;refine⟨α,m,_,t,K,λs m1 J H1 k n1 R F1 W l hl=>?_⟩;refine AG t n1 R F1 W hl k r λi m' D H' De' D' F c E I O=>y8 E I O λm2 H2 n2 R2 G k2=>?_;refine⟨i,m2,_,R2,G,λs2 y J2 H3 Z v x Y n=>?_⟩;have B:m1.os.length<s2.np y:=by
  have:m1.os.length<y.np:=by rw[v,n2];exact c
  unfold Src.np;split
  .omega
  .exact aat this (aeK _ _)
 refine vx x n Z (by rw[v];exact k2.ext (.of x Y)) λV m4 P H4 L D4 q S U h4 T=>y8 U h4 T λm5 H5 n5 M N C=>AE ?_ M N C;have:=congrArg (λz=>z[m1.os.length]?) q;simp[aaO,if_pos B]at this;rw[this];exact F
theorem Fv(S:ck own fr scope sc)(m:MI X tg a w)(l:∀cl s H C ex,MG (aQ X scope cl (own++fr) s H C ex) tg g)(r:∀cl s H C ex,PTs (aQ X scope cl (own++fr) s H C ex) ifs (tMT X.kx tt))
  (t:∀cl s H C ex,ME (aQ X scope cl (own++fr) s H C ex) elt f) (k:X.env.scope=sc:=by rfl) (c:ps.map (λi=>X.N[i]?)=fr.map some:=by rfl) (n:X.calm=true:=by rfl) (q:∀x,aaQ a X.env x=pure x:=by intro _;rfl) :
  ME X (.ListComp elt [⟨tg,a,ifs,0⟩] scope pos) (rQ w own ps g tt f):=(Gn S m l r t k c n q).wk λ_ _ _ h=>vO h
theorem JP:PTs X [] (tMT X.kx yH):=by intro c s i H Q I ⟨l,m,K,R,k,h⟩;exact Oj c s i H Q I (h true m H k rfl R (Frm.refl _ _))
def Oh{t:WT}(h:MT X c t):PTs X [c] (tMT X.kx t):=JT h
theorem CW(S:ck own fr scope sc)(I:X.N.Nodup)(G:X.N[i]?=some y)(h:X.env.scope.names.lookup y=some .local)(B:MI X tg a w)(J:∀cl s H C ex,MG (aQ X scope cl (own++fr) s H C ex) tg g)(N:∀cl s H C ex,PTs (aQ X scope cl (own++fr) s H C ex) ifs (tMT X.kx tt))
  (P:∀cl s H C ex,ME (aQ X scope cl (own++fr) s H C ex) elt f) (l:abA (.ListComp elt [⟨tg,a,ifs,0⟩] scope pos) (some (.Name y u)) d.line X.env=pure true:=by rfl)
  (t:X.env.scope=sc:=by rfl) (c:ps.map (λi=>X.N[i]?)=fr.map some:=by rfl) (M:X.calm=true:=by rfl) (L:∀x,aaQ a X.env x=pure x:=by intro _;rfl) :
  MS X (.Assign [.Name y u] (.ListComp elt [⟨tg,a,ifs,0⟩] scope pos) d) (wSet i (rQ w own ps g tt f)):=(FU S I G h B J N P l t c M L).wk λD E H ⟨K,m,U,z,O,k⟩=>
 vO ⟨K,m,_,z,O,λr T v Q q n R rr F=>u8 R n F rr q k.nx ⟨m,E,z⟩⟩
theorem DE(S:ck own fr scope sc)(O:X.N.Nodup)(N:X.N[i]?=some y)(B:X.env.scope.names.lookup y=some .local)(T:MI X tg a w)(L:∀cl s H C ex,MG (aQ X scope cl (own++fr) s H C ex) tg g)(I:∀cl s H C ex,PTs (aQ X scope cl (own++fr) s H C ex) ifs (tMT X.kx tt))
  (hi2:∀cl s H C ex,MI (aQ X scope cl (own++fr) s H C ex) j b o) (z:∀cl s H C ex,MG (aQ X scope cl (own++fr) s H C ex) j A) (E:∀cl s H C ex,PTs (aQ X scope cl (own++fr) s H C ex) e (tMT X.kx p))
  (J:∀cl s H C ex,ME (aQ X scope cl (own++fr) s H C ex) elt f) (t:abA (.ListComp elt [⟨tg,a,ifs,0⟩,⟨j,b,e,0⟩] scope pos) (some (.Name y u)) d.line X.env=pure true:=by rfl)
  (l:X.env.scope=sc:=by rfl) (c:ps.map (λi=>X.N[i]?)=fr.map some:=by rfl) (U:X.calm=true:=by rfl) (P:∀x,aaQ a X.env x=pure x:=by intro _;rfl)
  (h:∀cl C x,aaQ b (agr scope cl C X.env) x=pure x:=by intro _ _ _;rfl) :
  MS X (.Assign [.Name y u] (.ListComp elt [⟨tg,a,ifs,0⟩,⟨j,b,e,0⟩] scope pos) d) (wSet i (Ah w own ps g tt o A p f)):=(EF S O N B T L I hi2 z E J t l c U P h).wk λD M H ⟨K,m,W,G,Q,k⟩=>
 Fj ⟨K,m,_,G,Q,λr Y v V q n R rr F=>u8 R n F rr q k.nx ⟨m,M,G⟩⟩
end
def bu{i:Str}(h:Den K H (.str i) v):v = .str i:=by simpa[Den]
def jk{i:Bool}(h:Den K H (.bool i) v):v = .bl i:=by simpa[Den]
def jE(h:Den K H .none v):v = .non:=by simpa[Den]
def dI(i:Int):RelR K α Hb H (.imm (.int i)) (.int i):=rfl
def lW(i:Bool):RelR K α Hb H (.imm (.bool i)) (.bl i):=rfl
def Aq(i:Str):RelR K α Hb H (.imm (.str i)) (.str i):=rfl
def vZ:RelR K α Hb H (.imm .none) .non:=rfl
def oT{d:aD}(h:Den K H d v):RelR K α Hb H (.imm d) v:=h
def bQ(h:Den K H (.tuple ds) v):∃a xs,v = .ref a/\SqT K H a xs/\DenAll K H ds xs:=by simpa only[Den]
def e8(f:SqT K H a xs)(g:DenAll K H ds xs):Den K H (.tuple ds) (.ref a):=by  exact⟨a,xs,rfl,f,g⟩
section
variable {X:Cx}
def oAdd:WO
 | .imm (.int i),.imm (.int j),_,K=>K (.imm (.int (i+j)))
 | .imm (.str x),.imm (.str y),_,K=>x.length+y.length≤aai/\K (.imm (.str (x++y)))
 | .imm (.tuple a),.imm (.tuple b),_,K=>a.length+b.length≤aai/\K (.imm (.tuple (a++b)))
 |r1,r2,m,K=>∃c d,lsOf m r1=some c/\lsOf m r2=some d/\c.length+d.length≤aai/\K (.new (c++d))
theorem aE:OpR X (aco .Add) (rM X.kx oAdd):=by
 intro k s w H x y v u Q I P M ⟨α,m,σ,H0,H1,r1,r2,Kc,R,N,J,h,f⟩;unfold oAdd at h
 split at h
 .rename_i _ _ i j;have L:=aF (show Den X.kx H (.int i) x from N);have K:=aF (show Den X.kx H (.int j) y from J);subst L K;exact TJ k s w H _ _ v u Q I P M ⟨i,j,rfl,rfl,f _ _ H h R (dI _) (Frm.refl _ _)⟩
 .rename_i _ _ i j;have L:=bu (show Den X.kx H (.str i) x from N);have K:=bu (show Den X.kx H (.str j) y from J);subst L K;exact xZ k s w H _ _ v u Q I P M ⟨i,j,rfl,rfl,h.1,f _ _ H h.2 R (Aq _) (Frm.refl _ _)⟩
 .rename_i _ _ ds es;let⟨a,F,rfl,V,E⟩:=bQ (show Den X.kx H (.tuple ds) x from N);let⟨b,T,rfl,U,D⟩:=bQ (show Den X.kx H (.tuple es) y from J);let⟨hz,h⟩:=h
  by_cases hx:F=[]
  .subst hx
   cases P;cases M
   let⟨q,r,p1,_⟩:=I.tuple V;let⟨c,z,p2,_⟩:=I.tuple U;cases r;let⟨⟨W,Y,G,sl⟩,l,O,n,hd⟩:=id p1;let⟨⟨S,C,B,A⟩,d,o,n2,g⟩:=id p2;simp only at O hd o g;subst O hd o g;have Z:ds=[]:=by cases ds with|nil=>rfl|cons _ _=>have:=E.length;simp at this
   subst Z;exact afX ⟨_,l,rfl⟩ ⟨_,d,rfl⟩ afH agK ad9 ad3 (adH _ _)
    (tuple_addW0 a b _ c.toArray n n2 Y C sl A (by simp)) ⟨l,d,⟨.ref b,H,I,rfl,f _ _ H h R (show Den X.kx H (.tuple ([]++es)) (.ref b)from J) (Frm.refl _ _)⟩⟩
  .refine L5 k s w H _ _ v u Q I P M ⟨a,b,F,T,rfl,rfl,V,U,hx,by rw[<-E.length,<-D.length];exact hz,λe=>?_,λe p t=>?_⟩
   .subst e;have Z:es=[]:=by cases es with|nil=>rfl|cons _ _=>have:=D.length;simp at this
    subst Z;exact f _ _ H (by rw[aaN]at h;exact h) R (oT N) (Frm.refl _ _)
   .exact f _ _ _ h (R.lay t) (oT<|e8 (SqT.of ay) ((E.append D).mono (bm (.inl t)))) (cC t)
 .obtain⟨ds,es,L,K,hz,h⟩:=h;let⟨a,F,rfl,V,E⟩:=N.list R L;let⟨b,T,rfl,U,D⟩:=J.list R K
  cases P;cases M
  let⟨q,r,⟨⟨W,Y,G,sl⟩,n,l,O,hdd,hd⟩,_⟩:=I.list V;let⟨c,z,⟨⟨S,C,B,A⟩,n2,d,o,hdd2,g⟩,_⟩:=I.list U;simp only at O hd o g;subst O hd o g;have hzz:F.length+T.length≤aai:=by rw[<-E.length,<-D.length];exact hz
  refine afX ⟨_,l,rfl⟩ ⟨_,d,rfl⟩ noFill_list_add seq_list_add PySem.F.slot_list_add PySem.F.entry_list_add (PySem.F.args_list_add_2 _ _) (list_addW a b q.toArray c.toArray n n2 Y C sl A (by have:=r.length;have:=z.length;simp only[aaJ];omega)) ⟨l,d,?_⟩;have ea:q.toArray++c.toArray=(q++c).toArray:=by simp
  rw[ea];have t:H s.heap.objs.size=none:=I.fresh;exact⟨.ref _,_,I.lnew (t':=s.toks) (r.append z) (by rw[aaj];omega),rfl,f _ _ _ h (R.lay t) ⟨_,F++T,rfl,t,ay,(E.append D).mono (bm (.inl t))⟩ (cC t)⟩
def oII(C:Int->Int->Prop)(g:Int->Int->Int):WO
 | .imm (.int i),.imm (.int j),_,K=>C i j/\K (.imm (.int (g i j)))
 |_,_,_,_=>False
def oIB(g:Int->Int->Bool):WO
 | .imm (.int i),.imm (.int j),_,K=>K (.imm (.bool (g i j)))
 |_,_,_,_=>False
theorem rG{f:mT->mT->Sem mT}{C:Int->Int->Prop}{g:Int->Int->Int}(h:OpR X f (rI C λi j=>.int (g i j))):OpR X f (rM X.kx (oII C g)):=by
 intro p s b H x y v u Q I n r ⟨w,m,o,q,t,r1,z,K,R,l,d,a,c⟩;unfold oII at a
 split at a
 .rename_i _ _ i j;have k:=aF (show Den X.kx H _ x from l);have e:=aF (show Den X.kx H _ y from d);subst k e;exact h p s b H _ _ v u Q I n r ⟨i,j,rfl,rfl,a.1,c _ _ H a.2 R (dI _) (Frm.refl _ _)⟩
 .simp_all
theorem xH{f:mT->mT->Sem mT}{g:Int->Int->Bool}(h:OpR X f (rI0 λi j=>.bl (g i j))):OpR X f (rM X.kx (oIB g)):=by
 intro p s a H x y v u Q I n r ⟨w,m,o,q,t,r1,z,K,R,l,d,c,b⟩;unfold oIB at c
 split at c
 .rename_i _ _ i j;have k:=aF (show Den X.kx H _ x from l);have e:=aF (show Den X.kx H _ y from d);subst k e;exact h p s a H _ _ v u Q I n r ⟨i,j,rfl,rfl,b _ _ H c R (lW _) (Frm.refl _ _)⟩
 .simp_all
def oSub:WO:=oII (λ_ _=>True) λi j=>i-j
theorem y3:OpR X (aco .Sub) (rM X.kx oSub):=rG (opI λ_ _ _ _ _ _ _ _ q=>sub_int q)
def oMul:WO:=oII ag1 λi j=>i*j
theorem Oo:OpR X (aco .Mult) (rM X.kx oMul):=rG (opI λ_ _ _ _ _ _ _ h q=>mul_int q h)
def CFd(_ j:Int):Prop:=0<j/\j.natAbs.log2<9000
def QL:WO:=oII CFd λi j=>i/j
theorem gW:OpR X (aco .FloorDiv) (rM X.kx QL):=rG (opI λi j _ _ _ _ _ h q=>floordiv_int (by have:=h.1;omega) (by rw[Int.fdiv_eq_ediv_of_nonneg _ (by have:=h.1;omega)];exact q) (.inl (PyProof.noPylong_of_log2 h.2)))
def oMod:WO:=oII (λ_ j=>0<j) λi j=>i%j
def fX:OpR X (aco .Mod) (rM X.kx oMod):=rG T6
def oPow:WO:=oII CPow λi j=>i^j.toNat
def N9:OpR X (aco .Pow) (rM X.kx oPow):=rG Oz
def oLt:WO:=oIB λi j=>decide (i<j)
def oLe:WO:=oIB λi j=>decide (i≤j)
def oGt:WO:=oIB λi j=>decide (j<i)
def oGe:WO:=oIB λi j=>decide (j≤i)
def gC:OpR X (abh .Lt) (rM X.kx oLt):=xH UA
def IM:OpR X (abh .LtE) (rM X.kx oLe):=xH UC
def mQ:OpR X (abh .Gt) (rM X.kx oGt):=xH Vf
def Jb:OpR X (abh .GtE) (rM X.kx oGe):=xH Ur
def eqD(f:Bool->Bool):WO:=λr1 r m K=>match asD m r1,asD m r with
 |some d1,some d2=>ack d1=true/\ack d2=true/\K (.imm (.bool (f (aag d1 d2))))
 |_,_=>False
def eqS(f:Bool->Bool):WO:=λr1 r m K=>∃x y:Str,r1 = .imm (.str x)/\r = .imm (.str y)/\K (.imm (.bool (f (decide (x=y)))))
def eqSs(f:Bool->Bool):WO:=λr1 r m K=>∃x y:List Str,lsOf m r1=some (x.map .str)/\lsOf m r=some (y.map .str)/\x.length=y.length/\K (.imm (.bool (f (decide (x=y)))))
def oEq:WO:=λr1 r m K=>eqD id r1 r m K\/eqS id r1 r m K\/eqSs id r1 r m K
def oNe:WO:=λr1 r m K=>eqD (!·) r1 r m K\/eqS (!·) r1 r m K
theorem iR{K:Kd}{H:Hp}:∀{ns:List Str}{xs:List V},DenAll K H (ns.map .str) xs->xs=ns.map V.str
 |[],_,h=>by simpa only[ DenAll]
 |n::ns,_,h=>by
  let⟨v,vs,rfl,b,a⟩:=h;have e:=bu b;rw[e,iR a];rfl
theorem p6:∀{ns:List Str}{us:List mT}{j:Nat}{u:mT},Vals (ns.map V.str) us->us[j]?=some u->∃x t,ns[j]?=some x/\u = .str x t
 |[],_,_,_,.nil,e=>by simp at e
 |n::ns,_,0,_,.cons r _,e=>by
  simp at e;subst e;let⟨t,h⟩:=r;exact⟨n,t,rfl,h⟩
 |n::ns,_,j+1,u,.cons _ t,e=>by
  let⟨x,b,c,a⟩:=p6 t ‹_›;exact⟨x,b,by simpa using c,a⟩
theorem uI(xs ys:List Str)(h:xs.length=ys.length):(aaz xs.length).all (λj=>decide (xs.getD j aeW=ys.getD j aeW))=decide (xs=ys):=by
 rw[abF,abz,decide_eq_true_eq];constructor
 .intro q;apply ahh h;intro i b a;have:=q i (by simpa);rw[decide_eq_true_eq,aar,aar,lD b,lD a]at this;exact this
 .rintro rfl j _;exact decide_eq_true rfl
theorem KL{s:AD}{x y:V}{v u:mT}{m:MSt}{r1 r2:R}{xs ys:List Str}(I:Inv X pins σ' H s)(f:Rel X.kx α m σ H)(O:RelR X.kx α H0 H r1 x)(n:RelR X.kx α H1 H r2 y)(S:RelV x v)(w:RelV y u)
  (p:lsOf m r1=some (xs.map .str)) (J:lsOf m r2=some (ys.map .str)) (B:xs.length=ys.length) (W:X.A.units+64<cLine):∃l b c i,v = .ref l/\u = .ref b/\s.heap.IsList l c/\s.heap.IsList b i/\c.size=xs.length/\i.size=xs.length/\
   ∀j (E:j<c.size) (L:j<i.size),afQ X.A.in1 s c[j] i[j] (decide (xs.getD j aeW=ys.getD j aeW)):=by
 let⟨a,U,rfl,C,z⟩:=O.list f p;let⟨b,T,rfl,P,k⟩:=n.list f J;have q:=iR z;have Q:=iR k;subst q Q
 cases S;cases w
 let⟨c,r,M,_⟩:=I.list C;let⟨i,d,F,_⟩:=I.list P;have h:=r.length;have g:=d.length;rw[iO]at h g;refine⟨a,b,c.toArray,i.toArray,rfl,rfl,M.isList,F.isList,by simp[h],by simp[<-g,B],λj E L=>?_⟩;let⟨x,t,K,D⟩:=p6 r (j:=j) (u:=c.toArray[j]) (by simp);let⟨y,N,o,G⟩:=p6 d (j:=j) (u:=i.toArray[j]) (by simp);rw[D,G,aar,aar,K,o];have:=afQ.str_str (A:=X.A.in1) (s:=s) x t y N;have e:(x==y)=decide (x=y):=by rw[agh]
 simp_all
theorem bF(k:X.A.units+64<cLine):OpR X (abh .Eq) (rM X.kx oEq):=by
 intro p s c H x y v u Q I i r ⟨D,m,A,B,C,r1,F,K,R,g,d,h,f⟩;rcases h with h|⟨z,t,rfl,rfl,h⟩|⟨o,n,a,e,j,h⟩
 .unfold eqD at h
  split at h
  .rename_i d1 d2 a e;let⟨E,q⟩:=g.reads I R i a (aa5 _ (ac2 h.1));let⟨bs,w⟩:=d.reads I R r e (aa5 _ (ac2 h.2.1));exact eq_dataH q w h.1 h.2.1 k ⟨.bl _,H,I,rfl,f _ _ H h.2.2 R (lW _) (Frm.refl _ _)⟩
  .exact h.elim
 .have a:=bu (show Den X.kx H (.str z) x from g);have e:=bu (show Den X.kx H (.str t) y from d);subst a e;refine U4 p s c H _ _ v u Q I i r ⟨rfl,?_⟩;rw[qj];exact f _ _ H h R (lW _) (Frm.refl _ _)
 .obtain⟨l,b,its,its2,rfl,rfl,p1,p2,s1,s2,he⟩:=KL I R g d i r a e j k;refine SeqAt.eq_listAt p1 p2 (s1.trans s2.symm) (by omega) he ?_;rw[s1,uI o n j];exact⟨.bl _,H,I,rfl,f _ _ H h R (lW _) (Frm.refl _ _)⟩
theorem gA(i:X.A.units+64<cLine):OpR X (abh .NotEq) (rM X.kx oNe):=by
 intro p s a H x y v u Q I d r ⟨n,m,j,k,l,r1,w,K,R,c,b,h,f⟩;rcases h with h|⟨z,t,rfl,rfl,h⟩
 .unfold eqD at h
  split at h
  .rename_i d1 d2 e1 e;let⟨o,q⟩:=c.reads I R d e1 (aa5 _ (ac2 h.1));let⟨bs,g⟩:=b.reads I R r e (aa5 _ (ac2 h.2.1));exact ne_dataH q g h.1 h.2.1 i ⟨.bl _,H,I,rfl,f _ _ H h.2.2 R (lW _) (Frm.refl _ _)⟩
  .simp_all
 .have e1:=bu (show Den X.kx H (.str z) x from c);have e:=bu (show Den X.kx H _ y from b);subst e1 e;refine UD p s a H _ _ v u Q I d r ⟨rfl,?_⟩;rw[qj];exact f _ _ H h R (lW _) (Frm.refl _ _)
def isNone:R->Bool
 | .imm .none=>true
 |_=>false
def zl:WO:=λr1 r _ K=>r = .imm .none/\K (.imm (.bool (!isNone r1)))
theorem xQ(h:RelR K α Hb H r v):decide (v = .non)=isNone r:=by
 cases r with
 |obj k=>let⟨a,_,rfl⟩:=h;rfl
 |new ds=>let⟨a,_,rfl,_⟩:=h;rfl
 | «at» k p=>let⟨f,a,_,_,rfl⟩:=h;rfl
 |newT t=>let⟨f,a,rfl,_⟩:=h;rfl
 |imm d=>
  cases d with
  |none=>have e:=jE (show Den K H .none v from h);subst e;rfl
  |bool b=>have e:=jk (show Den K H _ v from h);subst e;rfl
  |int b=>have e:=aF (show Den K H _ v from h);subst e;rfl
  |str b=>have e:=bu (show Den K H _ v from h);subst e;rfl
  |list ds=>have c:=h;let⟨a,_,rfl,_⟩:=c;rfl
  |tuple ds=>let⟨a,_,rfl,_⟩:=bQ (h);rfl
  |dict g=>have c:=h;let⟨a,rfl,_⟩:=c;rfl
theorem j1:OpR X (abh .IsNot) (rM X.kx zl):=by
 intro p s a H x y v u Q I g r ⟨l,m,i,j,k,r1,n,K,R,d,b,h,f⟩;let⟨e,h⟩:=h;subst e;have c:=jE (show Den X.kx H .none y from b);exact Oa p s a H _ _ v u Q I g r ⟨c,by rw[xQ d];exact f _ _ H h R (lW _) (Frm.refl _ _)⟩
def uNeg:WU
 | .imm (.int i),_,K=>K (.imm (.int (-i)))
 |_,_,_=>False
theorem jA:UnR X (unaryOp .USub) (uM X.kx uNeg):=by
 intro p s a H x v Q I r ⟨g,m,c,d,r1,K,R,b,h,f⟩;unfold uNeg at h
 split at h
 .rename_i _ i;have e:=aF (show Den X.kx H _ x from b);subst e;exact Qk p s a H _ v Q I r ⟨i,rfl,f _ _ H h R (dI _) (Frm.refl _ _)⟩
 .simp_all
def Bu(m:MSt)(K:R->Prop):R->R->Prop
 | .imm (.tuple ds),.imm (.int i)=>∃d,atI ds i=some d/\K (.imm d)
 | .imm (.str x),.imm (.int i)=>∃c,x.length≤aai/\atI x.cps.toList i=some c/\K (.imm (.str ⟨#[c]⟩))
 |r,.imm (.int i)=>∃ds d,lsOf m r=some ds/\atI ds i=some d/\K (.imm d)
 |_,_=>False
def oa:WO:=λr1 r m K=>Bu m K r1 r
theorem y9{K:Kx}{i:Int}{d:aD}(g:DenAll K H ds xs)(e:atI ds i=some d):∃v,atI xs i=some v/\Den K H d v:=by
 unfold atI at e⊢;rw[<-g.length]
 cases q:ixN ds.length i with
 |none=>rw[q]at e;cases e
 |some j=>
  rw[q]at e;let⟨v,h,a⟩:=g.get (e);exact⟨v,h,a⟩
theorem JG:IxR X (rM X.kx oa):=by
 intro h b p s n H x y v u Q I E C ⟨S,m,N,O,P,r1,M,K,R,D,A,L,o⟩ l;have j:Bu m K r1 M:=L;unfold Bu at j
 split at j
 .rename_i ds i;let⟨d,e,k⟩:=j;let⟨a,r,rfl,f,g⟩:=bQ (D);have q:=aF (show Den X.kx H (.int i) y from A);let⟨z,t,B⟩:=y9 g e;exact Ql h b p s n H _ _ v u Q I E C ⟨a,r,i,z,rfl,q,f,t,o _ _ H k R (oT B) (Frm.refl _ _)⟩ l
 .rename_i w i;let⟨c,F,e,k⟩:=j;have G:=bu (show Den X.kx H (.str w) x from D);have q:=aF (show Den X.kx H (.int i) y from A);exact Tq h b p s n H _ _ v u Q I E C ⟨w,i,c,G,q,F,e,o _ _ H k R (Aq _) (Frm.refl _ _)⟩ l
 .rename_i i _ _;let⟨ds,d,J,e,k⟩:=j;let⟨a,r,rfl,f,g⟩:=D.list R J;have q:=aF (show Den X.kx H (.int i) y from A);let⟨z,t,B⟩:=y9 g e;exact yP h b p s n H _ _ v u Q I E C ⟨a,r,i,z,rfl,q,f,t,o _ _ H k R (oT B) (Frm.refl _ _)⟩ l
 .exact j.elim
theorem Vz{a b:Expr}{c w:WE}(e:ME X a c)(d:ME X b w)(f:nG b:=by intro _ _;rfl):ME X (.Subscript a b pos) (wBin oa c w):=(T7 JG e d f).wk λ_ _ _ h=>rj h
end
abbrev CN(P:Int->Prop):R->Prop
 | .imm (.int i)=>P i
 |_=>False
abbrev F9(P:Nat->Prop):R->Prop
 | .obj k=>P k
 |_=>False
abbrev on1(P:R->Prop):List R->Prop
 |[r]=>P r
 |_=>False
section
variable {K:Kx}{b:Al}{c H:Hp}{r:R}{v:V}
theorem I9{P:Int->Prop}(rr:RelR K b c H r v)(h:CN P r):∃i,r = .imm (.int i)/\v = .int i/\P i:=by
 unfold CN at h
 split at h
 .exact⟨_,rfl,aF (K:=K) (H:=H) rr,h⟩
 .simp_all
theorem GN{P:Nat->Prop}(rr:RelR K b c H r v)(h:F9 P r):∃k a,r = .obj k/\b[k]?=some (.L a)/\v = .ref a/\P k:=by
 unfold F9 at h
 split at h
 .obtain⟨a,e1,e2⟩:=rr;exact⟨_,a,rfl,e1,e2,h⟩
 .simp_all
theorem ef{P:R->Prop}{rs:List R}(rr:RelRs K b c H rs xs)(h:on1 P rs):∃r v,rs=[r]/\xs=[v]/\RelR K b c H r v/\P r:=by
 cases rr with
 |nil=>exact h.elim
 |cons a t=>
  cases t with
  |nil=>exact⟨_,_,rfl,rfl,a,h⟩
  |cons _ _=>exact h.elim
end
section
variable {X:Cx}{o a b c e:Expr}{es:List Expr}{A D E G B J:WE}{C:WA}{pos y j:Pos}
abbrev WM:=R->List R->MSt->(R->MSt->Prop)->Prop
def mM(K:Kx)(p:WM):V->List V->Hp->VK->Prop:=λx k H Q=>∃d m h l n r rs i,Rel K d m h H/\RelR K d l H r x/\RelRs K d n H rs k/\p r rs m i/\∀r g v f,i r g->g.np=m.np->Rel K d g h f->RelR K d H f r v->Frm d H f->Q v f
abbrev wML(d:WM)(A:WE)(C:WA):WE:=λm K=>A m λr m1=>(∃ds,lsOf m1 r=some ds)/\C m1 λrs m2=>d r rs m2 K
theorem Um{w:WM}(h:tM X.kx (wML w A C) σ H Q):tBM X.K "list" (mM X.kx w) (tM X.kx A) (tMA X.kx C) σ H Q:=by
 let⟨q,m,L,u,K,l⟩:=h;refine⟨q,m,_,u,K,λr m1 v M k n1 R rr x=>?_⟩;let⟨⟨ds,N⟩,k⟩:=k;let⟨a,z,rfl,f,g⟩:=rr.list R N;refine⟨.inl ⟨rfl,z,f⟩,q,m1,_,R,k,λrs m2 vs P k2 n2 d p s=>?_⟩;exact⟨q,m2,σ,H,M,r,rs,L,d,rr.keep u R s,p,k2,λr O v I k n t i F=>l r O v I k (n.trans (n2.trans n1)) t (i.base d (x.trans s)) ((x.trans s).trans F)⟩
theorem Uz{name:Str}{id:String}{l:WM}(slot:Slot "list" name id)(k:typeOf (.builtin id)=pure (.type "method_descriptor"))(m:MtM X id (mM X.kx l))(q:ME X o A)(p:MA X (e::es) C)
  (g:abr o name X.env (eval o X.env)=eval o X.env:=by rfl)
  (i:((abk j (aac (e::es) X.env)).all (λx=>!x.1)&&(acW j (abV [] X.env)).all (λx=>x.1.isSome)
   && decide ((e::es).length+([]:List acZ).length+(if ([]:List acZ).isEmpty then 0 else 1)<30))=true:=by rfl)
  (f:(y.endLine==j.line)=true:=by rfl) (n:aac (e::es) X.env=(false,eval e X.env)::aac es X.env:=by first|exact aG rfl|rfl) (d:(abk j (aac es X.env)).any (·.1)=false:=by rfl) :
  ME X (.Call (.Attribute o name y) (e::es) [] j) (wML l A C):=(Sw PySem.F.plainAttrs_list slot k m q p g i f n d).wk λ_ _ _ h=>Um h
def Cg:WM:=λr rs m K=>F9 (λk=>on1 (i6 λd=>∃ds,m.os[k]?=some ds/\ds.length<aai/\K (.imm .none) {m with os:=m.os.set k (ds++[d])}) rs) r
theorem jG:MtM X "list.append" (mM X.kx Cg):=by
 intro p s f H x O v u Q I M F ⟨V,m,N,S,U,r,rs,T,R,K,i,h,l⟩;let⟨k,a,rfl,n,rfl,h⟩:=GN K h;let⟨W,P,rfl,rfl,i,h⟩:=ef i h;let⟨d,rfl,hd,ds,z,w,h⟩:=fq i h;let⟨t,q,g⟩:=R.own _ _ ds n z;let⟨R2,L⟩:=R.setO n q (g.append (DenAll.cons hd DenAll.nil));exact lM p s f H _ _ v u Q I M F ⟨a,t,_,rfl,rfl,q,by rw[<-g.length];exact w,l _ _ _ _ h rfl R2 vZ L⟩
def lenR(m:MSt)(K:R->Prop):R->Prop
 | .imm (.str x)=>x.length≤aai/\K (.imm (.int x.length))
 | .imm (.tuple ds)=>K (.imm (.int ds.length))
 |r=>∃ds,lsOf m r=some ds/\K (.imm (.int ds.length))
abbrev oLen:WC:=λrs m K=>on1 (lenR m K) rs
theorem ca:dM X (.builtin "len") (cM X.kx oLen):=by
 intro p s i H w u Q I n ⟨F,m,t,z,rs,K,R,h,d,k⟩;let⟨r,v,rfl,rfl,q,d⟩:=ef h d;unfold lenR at d
 split at d
 .rename_i x _;have e:=bu (show Den X.kx H _ _ from q);subst e;exact sg p s i H _ u Q I n ⟨x,rfl,d.1,k _ _ H d.2 R (dI _) (Frm.refl _ _)⟩
 .obtain⟨a,l,rfl,f,g⟩:=bQ (q);exact kl p s i H _ u Q I n ⟨a,l,rfl,.inr f,by rw[<-g.length];exact k _ _ H d R (dI _) (Frm.refl _ _)⟩
 .obtain⟨ds,el,d⟩:=d;let⟨a,l,rfl,f,g⟩:=q.list R el;exact kl p s i H _ u Q I n ⟨a,l,rfl,.inl f,by rw[<-g.length];exact k _ _ H d R (dI _) (Frm.refl _ _)⟩
abbrev intR(K:R->Prop):R->Prop
 | .imm (.int i)=>K (.imm (.int i))
 | .imm (.bool b)=>K (.imm (.int (if b then 1 else 0)))
 |_=>False
abbrev oInt:WC:=λrs m K=>on1 (intR K) rs
theorem jg:dM X (.type "int") (cM X.kx oInt):=by
 intro p s f H x u Q I k ⟨t,m,n,q,rs,K,R,h,d,g⟩;let⟨r,v,rfl,rfl,l,d⟩:=ef h d;unfold intR at d
 split at d
 .rename_i i _;have e:=aF (show Den X.kx H _ _ from l);subst e;exact sN p s f H _ u Q I k (.inl ⟨i,rfl,g _ _ H d R (dI _) (Frm.refl _ _)⟩)
 .rename_i i _;have e:=jk (show Den X.kx H _ _ from l);subst e;exact sN p s f H _ u Q I k (.inr ⟨i,rfl,g _ _ H d R (dI _) (Frm.refl _ _)⟩)
 .simp_all
def sqOf(m:MSt):R->Option (List aD)
 | .imm (.tuple ds)=>some ds
 |r=>lsOf m r
theorem RelR.seq{K:Kx}{m:MSt}(R:Rel K α m σ H)(h:RelR K α H0 H r v)(e:sqOf m r=some ds):∃a xs,v = .ref a/\(SqL K H a xs\/SqT K H a xs)/\DenAll K H ds xs:=by
 unfold sqOf at e
 split at e
 .cases e;let⟨a,d,e,f,g⟩:=bQ (h);exact⟨a,d,e,.inr f,g⟩
 .obtain⟨a,d,e,f,g⟩:=h.list R e;exact⟨a,d,e,.inl f,g⟩
def IG:WC:=λrs m K=>on1 (λr=>∃ds,sqOf m r=some ds/\K (.imm (.tuple ds))) rs
theorem cP:dM X (.type "tuple") (cM X.kx IG):=by
 intro p s k H z u Q I t ⟨L,m,x,F,rs,K,R,h,d,i⟩;let⟨r,v,rfl,rfl,w,d⟩:=ef h d
 .obtain⟨ds,e,d⟩:=d;let⟨a,q,rfl,f,g⟩:=w.seq R e;refine qP p s k H _ u Q I t ⟨a,q,rfl,?_⟩;rcases f with f|f
  .exact .inl ⟨f,λl n=>i _ _ _ d (R.lay n) (oT (e8 (SqT.of ay) (g.mono (bm (.inl n))))) (cC n)⟩
  .exact .inr ⟨f,i _ _ _ d R (oT (e8 f g)) (Frm.refl _ _)⟩
def Ol:WC:=λrs m K=>on1 (λr=>∃d,asD m r=some d/\d.showable=true/\d.hasDict=false/\d.shown.length≤aai/\d.depth≤100/\K (.imm (.str d.shown))) rs
theorem cQ(O:X.A.guards=some [])(hu:X.A.units+200<cLine):dM X (.builtin "repr") (cM X.kx Ol):=by
 intro p s L H W U Q I P ⟨α,m,V,Y,rs,Z,R,h,l,N⟩;let⟨r,v,rfl,rfl,S,l⟩:=ef h l
 .obtain⟨d,e,hs,hnd,hz,hdp,l⟩:=l;let⟨u,rfl,T⟩:=P.one;let⟨as,q⟩:=S.reads I R T e hnd;have done:∀f k g,_->EP X p L Q (.str d.shown k) {s with heap:=g,toks:=f}:=λf k g hk=>⟨.str d.shown,H,I.kept (t':=f) hk,⟨_,rfl⟩,N _ _ H l R (Aq _) (Frm.refl _ _)⟩
  cases q with
  |none=>exact PySem.P.repr_of_none (done _ _ _ λ_ _ z=>z)
  |bool b=>
   have:=done (s.toks+1) s.toks s.heap λ_ _ z=>z;simp only[af2]at this;exact PySem.P.repr_of_bool (by cases b<;>exact this)
  |int i t=>
   refine PySem.P.repr_of_int (by simpa[aD.showable]using hs) ?_;have:=done (s.toks+1) s.toks s.heap λ_ _ z=>z;simp only[af2]at this;exact this
  |str x t=>
   have M:=by simpa only[af2]using hz
   refine PySem.P.repr_of_str ?_ M;have:=done (s.toks+1) s.toks s.heap λ_ _ z=>z;simp only[af2]at this;exact this
  |list n F K w=>exact repr_of_reads' (.list n F K w) hs (ag8 hnd) O (by omega) (λ_ _ z=>z) (λg u f hk=>done f u g hk) hz
  |tuple n F K w=>exact repr_of_reads' (.tuple n F K w) hs (ag8 hnd) O (by omega) (λ_ _ z=>z) (λg u f hk=>done f u g hk) hz
  |dict n F K w z5=>simp[ab4]at hnd
def sM(K:Kx)(o:R->Option Int->Option Int->MSt->(R->Prop)->Prop):V->Option Int->Option Int->Hp->VK->Prop:=λx l i H Q=>∃d m g k r h,Rel K d m g H/\RelR K d k H r x/\o r l i m h/\∀r v f,h r->Rel K d m g f->RelR K d H f r v->Frm d H f->Q v f
def cutD(xs:List aD)(l h:Option Int):List aD:=(xs.drop (HT.sIx xs.length 0 l)).take (HT.sIx xs.length xs.length h-HT.sIx xs.length 0 l)
def Bt(g:DenAll K H ds xs)(l h:Option Int):DenAll K H (cutD ds l h) (cutV xs l h):=by
 unfold cutD cutV;rw[<-g.length];exact(g.drop _).take _
def Uo:R->Option Int->Option Int->MSt->(R->Prop)->Prop:=λr l h m K=>∃ds,lsOf m r=some ds/\K (.new (cutD ds l h))
theorem CC:SlR X (sM X.kx Uo):=by
 intro d s l H x v vl L t q M Q I N F K z w;let⟨T,m,O,P,r,S,R,h,⟨ds,e,k⟩,n⟩:=w;let⟨a,u,rfl,f,g⟩:=h.list R e;exact Mq d s l H _ v vl L t q M Q I N F K z ⟨a,u,rfl,f,λp i=>n _ _ _ k (R.lay i) ⟨p,_,rfl,i,ay,(Bt g t q).mono (bm (.inl i))⟩ (cC i)⟩
def WO1:=MSt->(Option Int->MSt->Prop)->Prop
def tMO(K:Kx)(w:WO1):TO:=λh H Q=>∃d m i,Rel K d m h H/\w m i/\∀r g f,i r g->g.np=m.np->Rel K d g h f->Frm d H f->Q r f
abbrev yy:WO1:=λm K=>K none m
abbrev Sn(w:WE):WO1:=λm K=>w m λr d=>CN (λi=>K (some i) d) r
theorem PO.wk{X:Cx}{e:Option Expr}{t t':TO}(h:PO X e t)(k:∀d H Q,t' d H Q->t d H Q):PO X e t':=λp s d H Q I q=>h p s d H Q I (k _ _ _ q)
abbrev MO(X:Cx)(e:Option Expr)(w:WO1):Prop:=PO X e (tMO X.kx w)
theorem Kj:MO X none yy:=(Kl).wk<|by intro g H Q ⟨d,m,K,R,h,f⟩;exact f none m H h rfl R (Frm.refl _ _)
theorem KM(g:ME X e B):MO X (some e) (Sn B):=(L6 g).wk<|by
 intro p H Q ⟨n,m,K,d,h,f⟩;refine⟨n,m,_,d,h,λr m1 v l k n1 R rr F=>?_⟩;let⟨i,rfl,rfl,k⟩:=I9 rr k;exact⟨i,rfl,f _ m1 l k n1 R F⟩
abbrev wSl(g:R->Option Int->Option Int->MSt->(R->Prop)->Prop)(B:WE)(w wh:WO1):WE:=λm K=>B m λr m1=>w m1 λl m2=>wh m2 λu d=>g r l u d λf=>K f d
theorem CF{w wh:WO1}{S:Pos}(M:SlR X (sM X.kx ob))(K:ME X e B)(N:MO X lo w)(U:MO X hi wh):ME X (.Subscript e (.Slice lo hi none S) pos) (wSl ob B w wh):=(CZ M K N U).wk<|by intro O H Q ⟨g,m,Kc,h,T,i⟩;exact
 ⟨g,m,_,h,T,λr m1 v H1 k n1 R rr s=>⟨g,m1,_,R,k,λl m2 Z k2 n2 d q=>⟨g,m2,_,d,k2,λu t Y z x f F=>⟨g,t,O,H,r,_,f,(rr.keep h R q).keep h d F,z,λP W I L p n V=>i P t W I L (x.trans (n2.trans n1)) p (n.base f ((s.trans q).trans F)) (((s.trans q).trans F).trans V)⟩⟩⟩⟩
end
def agV:Nat->List Ag->List (Option R)
 |_,[]=>[]
 |k,.imm d::as=>some (.imm d)::agV k as
 |k,.own _::as=>some (.obj k)::agV (k+1) as
 |k,.tr _::as=>some (.at k [])::agV (k+1) as
def agO:List Ag->List (List aD)
 |[]=>[]
 | .imm _::as=>agO as
 | .own ds::as=>ds::agO as
 | .tr t::as=>[t]::agO as
def d7(n:Nat)(as:List Ag):MSt:=⟨agV 0 as++aal (n-as.length) none,agO as,(agO as).length⟩
def outR(m:MSt):R->R
 | .imm d=>.imm d
 | .new ds=>.new ds
 | .newT t=>.newT t
 | .obj k=>if k<m.np then .obj k else .new (m.os.getD k [])
 | .at k p=>if k<m.np then .at k p else match p,m.os[k]? with
  |[],some [t]=>.newT t
  |_,_=>.at k p
theorem dB:∀(k:Nat) (as:List Ag),(agV k as).length=as.length
 |_,[]=>rfl
 |k,.imm d::as=>by simp[agV,dB k as]
 |k,.own _::as=>by simp[agV,dB (k+1) as]
 |k,.tr _::as=>by simp[agV,dB (k+1) as]
section
variable {K:Kx}{H:Hp}
theorem RelAs.facts{K:Kd}:∀{as:List Ag}{vs:List V}{β:Al}{pre:Al},RelAs K H as vs β ->
  (agO as).length=β.length/\(∀(k:Nat) (ao:Ao) (ds:List aD),β[k]?=some ao->(agO as)[k]?=some ds->OwnAt K H ao ds)/\
   ∀(i:Nat) (r:R),(agV pre.length as)[i]?=some (some r)->∃v,vs[i]?=some v/\RelS K (pre++β) H r v
 |_,_,_,_,.nil=>⟨rfl,λk a ds h=>by simp at h,λi r h=>by simp[agV]at h⟩
 | _,_,β,pre,.imm (as:=as) hd t=>by
  let⟨f,g,d⟩:=t.facts (pre:=pre);refine⟨f,g,λi r h=>?_⟩
  cases i with
  |zero=>simp[agV]at h;subst h;exact⟨_,rfl,hd⟩
  |succ i=>
   let⟨v,e,q⟩:=d i r (by simpa[agV]using h);exact⟨v,by simpa using e,q⟩
 | _,_,_,pre,.own (a:=a) (β:=β) ha t=>by
  let⟨f,g,d⟩:=t.facts (pre:=pre++[.L a]);refine⟨by simp[agO,f],λk b ds c z=>?_,λi r h=>?_⟩
  .cases k with
   |zero=>simp[agO]at c z;subst c;subst z;exact ha
   |succ k=>exact g k b ds (by simpa using c) (by simpa[agO]using z)
  .cases i with
   |zero=>simp[agV]at h;subst h;exact⟨_,rfl,a,by simp,rfl⟩
   |succ i=>
    let⟨v,e,q⟩:=d i r (by simpa[agV]using h);refine⟨v,by simpa using e,?_⟩;rw[aaU]at q;exact q
 | _,_,_,pre,.tr (a:=a) (τ:=τ) (β:=β) ha el t=>by
  let⟨f,g,d⟩:=t.facts (pre:=pre++[.T τ]);refine⟨by simp[agO,f],λk b ds c z=>?_,λi r h=>?_⟩
  .cases k with
   |zero=>simp[agO]at c z;subst c;subst z;exact ha
   |succ k=>exact g k b ds (by simpa using c) (by simpa[agO]using z)
  .cases i with
   |zero=>simp[agV]at h;subst h;exact⟨_,rfl,τ,a,by simp,el,rfl⟩
   |succ i=>
    let⟨v,e,q⟩:=d i r (by simpa[agV]using h);refine⟨v,by simpa using e,?_⟩;rw[aaU]at q;exact q
theorem sG(m:N.length=nN)(f:n≤nN)(o:as.length=n)(nd:(ads β).Nodup)(a:RelAs K H as vs β)(g:K.eb.np≤(agO as).length)(c:Ext K.eb.np K.eb.be K.eb.H β H):Rel K β (d7 nN as) (start N vs) H:=by
 let⟨h,l,d⟩:=a.facts (pre:=[]);have j:=a.length;refine⟨nd,by rw[<-h];rfl,l,?_,λi r e=>?_,by rw[<-h];exact Mt _,g,c⟩
 .unfold start d7;simp only[aaj,iO,adf,dB];omega
 .have e':(agV 0 as++aal (nN-as.length) none)[i]?=some (some r):=e
  by_cases b:i<as.length
  .rw[aaC (by rw[dB];exact b)]at e';let⟨v,k,q⟩:=d i r e';refine⟨v,?_,by simpa using q⟩;unfold start;rw[aaC (by rw[iO];omega),aah,k];rfl
  .rw[aaL (by rw[dB];omega),ad2]at e'
   split at e'<;>cases e'
theorem p8{m:MSt}(r:RelAs K H as vs β)(d:m.np=(agO as).length)(R:Rel K α' m σ' H')(x:Ext (agO as).length β H α' H'):Bj K H' β (m.os.take m.np)/\Frm β H H'/\β=α'.take (agO as).length:=by
 let⟨h,g,f⟩:=r.facts (pre:=[]);have e:α'.take (agO as).length=β:=by rw[x.pre,h,aau]
 refine⟨⟨?_,λj a ds b z=>?_⟩,x.frm,e.symm⟩
 .have:=R.npl;rw[R.len]at this
  grind
 .rw[<-e,aaO]at b;rw[d,aaO]at z
  by_cases c:j<(agO as).length
  .rw[if_pos c]at b z;exact R.own j a ds b z
  .simp_all
theorem Lg{m:MSt}(D:m.np=(agO as).length)(R:Rel K α' m σ' H')(x:Ext (agO as).length β H α' H')(f:β=α'.take (agO as).length)(rr:RelR K α' H H' r v)
  (ok:∀k p,r = .at k p->k<m.np\/(p=[]/\∃t,m.os[k]?=some [t])):RelR K β H H' (outR m r) v:=by
 have out:∀{k:Nat}{c:Ao},¬k<m.np->α'[k]?=some c->∀b∈c.ads,H b=none:=λ{k c} hk e b n=>by
  rcases x.new b (ki e n)with z|z
  .exfalso;rw[f]at z;let⟨j,A,ej,u⟩:=jn z;rw[aaO]at ej
   by_cases l:j<(agO as).length
   .rw[if_pos l]at ej;exact gL R.nd e ej (by omega) n u
   .rw[if_neg l]at ej;cases ej
  .exact z
 have i:∀{k:Nat}{c:Ao},k<m.np->α'[k]?=some c->β[k]?=some c:=λ{k c} hk e=>by
  simp_all
 cases r with
 |imm d=>exact rr
 |new ds=>exact rr
 |newT t=>exact rr
 | obj k=>
  let⟨a,e,rfl⟩:=rr;unfold outR
  by_cases hk:k<m.np
  .simp only[hk,if_true];exact⟨a,i hk e,rfl⟩
  .simp only[hk,if_false];have h:k<m.os.length:=by rw[<-R.len];exact(Ad.mp e).1
   have w:m.os[k]?=some (m.os.getD k []):=by rw[aar,lD h];rfl
   let⟨y,C,B⟩:=R.own k _ _ e w;exact⟨a,y,rfl,out hk e a (aab.mpr rfl),C,B⟩
 | «at» k p=>
  let⟨s,a,e,q,rfl⟩:=rr;unfold outR
  by_cases hk:k<m.np
  .simp only[hk,if_true];exact⟨s,a,i hk e,q,rfl⟩
  .simp only[hk,if_false];rcases ok k p rfl with z|⟨rfl,t,o⟩
   .exact(hk z).elim
   .rw[o];have g:=R.own k _ _ e o;exact⟨s,a,rfl,q,((fY α').mp R.nd).1 _ (GT e),out hk e,g⟩
def okR(m:MSt):R->Prop
 | .at k p=>k<m.np\/(p=[]/\∃t,m.os[k]?=some [t])
 |_=>True
theorem okR.at{m:MSt}(h:okR m r):∀k p,r = .at k p->k<m.np\/(p=[]/\∃t,m.os[k]?=some [t]):=λk p e=>by subst e;exact h
def retK(a:R->List (List aD)->Prop)(m:MSt):R->Prop
 | .at k p=>okR m (.at k p)/\a (outR m (.at k p)) (m.os.take m.np)
 | .imm d=>a (.imm d) (m.os.take m.np)
 | .new ds=>a (.new ds) (m.os.take m.np)
 | .obj k=>a (outR m (.obj k)) (m.os.take m.np)
 | .newT t=>a (.newT t) (m.os.take m.np)
theorem retK.ok{a:R->List (List aD)->Prop}{m:MSt}(h:retK a m r):okR m r/\a (outR m r) (m.os.take m.np):=by
 cases r with
 | «at» k p=>exact h
 |imm d=>exact⟨trivial,h⟩
 |new ds=>exact⟨trivial,h⟩
 |obj k=>exact⟨trivial,h⟩
 |newT t=>exact⟨trivial,h⟩
theorem fn_m{E:XK}(l:K.eb=⟨0,[],λ_=>none⟩)(h:spOf K n sp vs H Q E)(u:N.length=nN)(g:n≤nN)
  (y:∀as c,as.length=n->sp as c->w {nx:=λm=>c (.imm .none) (m.os.take m.np),rt:=λr m=>retK c m r} (d7 nN as)):tMS K w {nx:=λ_ b=>Q .non b,rt:=Q} (start N vs) H:=by
 let⟨as,A,c,p,nd,k,j,f⟩:=h;have s:=sG u g p nd k (by rw[l];exact abm _) (by rw[l];exact⟨rfl,λ_ _ z=>(by cases z),λ_ _=>.inr rfl,λa t=>(by cases t)⟩);refine⟨A,d7 nN as,_,s,y as c p j,⟨λi B e b q d R x=>?_,λr i B e v b q d R rr x=>?_,λ_ _ _ _ z=>z.elim,λ_ _ _ _ z=>z.elim⟩⟩
 .obtain⟨O,F,_⟩:=p8 k d R x;exact f _ _ .non b q O vZ F
 .obtain⟨O,F,eβ⟩:=p8 k d R x;have o:=retK.ok q;exact f _ _ v b o.2 O (Lg d R x eβ rr o.1.at) F
end
structure FnM(P:aaF)(w:World)(K:aad)(mg:Str->Option mT)(base:aaW)(x:Str)(k n:Nat)(sp:SpM):Prop where
 ex:∃(f:Addr) (fd:ab3) (ps:List Str),FnOk P w K mg base CX0 k f fd ps (spOf ⟨K,w⟩ n sp)/\mg x=some (.ref f)/\abM K (.ref f)=true/\Binds K fd ps []
 ar:∀as Kc,sp as Kc->as.length=n
structure DefM(K:aad)(mg:Str->Option mT)(x:Str)(st:Stmt)(ps:List Str):Prop where
 ex:∃(f:Addr) (fd:ab3),Fun K x x st f fd/\mg x=some (.ref f)/\Binds K fd ps []
theorem UU{P:aaF}{w:World}{K:aad}{base:aaW}{k:Nat}(D:DefM K mg x st ps)(S:aq N ps (ab st))(i:ps.length=n)(q:N.length=nN)(d:n≤nN)(ar:∀as b,sp as b->as.length=n)
  (a:∀(c:mT) (A:aa4) (outer:List Env) (s:AD) (H:Hp) (E:XK) (f:Addr),Room k (A.deeper (ad8 x (ab st) s.heap.objs.size f c)) ->
   ∃e,MSs (cxOf CX0 P w K mg base N x (ab st) f c A outer s H E).nox (bH st) e/\∀as b,as.length=n->sp as b->e {nx:=λm=>b (.imm .none) (m.os.take m.np),rt:=λr m=>retK b m r} (d7 nN as)) :
  FnM P w K mg base x (k+1) n sp:=by
 let⟨f,fd,F,g,j⟩:=D.ex;refine⟨⟨f,fd,ps,F.ok S (λvs H Q E h=>by rw[i];exact h.len) (λc A outer s H vs Q E l h=>?_),g,F.kp,j⟩,ar⟩;let⟨e,o,p⟩:=a c A outer s H E f l;exact⟨_,o,fn_m rfl h q d p⟩
section
variable {X:Cx}{a:Expr}{es:List Expr}{w:WA}{pos p:Pos}{k n:Nat}{sp:SpM}{x:Str}
theorem Cw(F:FnM X.prog X.w X.K X.mg X.base x k n sp)(e:Room k X.A)(g:MA X (a::es) w)(c:Gl X x:=by rfl)(h:(x==("__debug__" : Str))=false:=by decide)(j:aac (a::es) X.env=(false,eval a X.env)::aac es X.env:=by first|exact aG rfl|rfl)(b:(abk pos (aac es X.env)).any (·.1)=false:=by rfl) :
  ME X (.Call (.Name x p) (a::es) [] pos) (Bf sp w):=by
 let⟨f,fd,l,G,d,hk,i⟩:=F.ex;exact NH G e c d hk i DT F.ar g h j b
theorem Room.u200{k:Nat}{A:aa4}(r:Room k A):A.units+200<cLine:=by have:=r.un;omega
def d6:aa2 "len" = some (.builtin "len"):=by rfl
def rJ:aa2 "sum" = some (.builtin "sum"):=by rfl
def o7:aa2 "max" = some (.builtin "max"):=by rfl
def gw:aa2 "repr" = some (.builtin "repr"):=by rfl
def ql:aa2 "isinstance" = some (.builtin "isinstance"):=by rfl
def eF:aa2 "tuple" = some (.type "tuple"):=by rfl
def wG:aa2 "int" = some (.type "int"):=by rfl
end
section
variable {m:MSt}{K:R->MSt->Prop}{v:Bool->MSt->Prop}{z:List R->MSt->Prop}{f:R->Prop}{D:dm}{q s C t E F:WE}{l:WA}{p G:WT}{w u:WS}{o:WO}{d:aD}{r r1 r2:R}{i j:Int}{k:Nat}
theorem qO(h:w {D with nx:=λa=>u D a } m):wSeq w u D m:=h
def yz(e:m.vs[n]?=some (some r))(h:K r m):wVar n m K:=⟨r,e,h⟩
def QF(h:p m λc a=>if c=true then w D a else u D a):wIfS p w u D m:=h
def uB(h:p m λc a=>if c=true then q a K else s a K):wIfE p q s m K:=h
def vX{P:Bool->Prop}{b:Bool}(h:P b):onBl P (.imm (.bool b)):=h
theorem jb(h:A):if true=true then A else B:=by simp_all
theorem ji(h:B):if false=true then A else B:=by simp_all
theorem bg{c:Prop}[Decidable c](h:c->A)(a:¬c->B):if decide c=true then A else B:=by simp_all
def VG(h:f (.imm (.int (-i)))):uNeg (.imm (.int i)) m f:=h
def UH{rs:List R}{P:List aD->Prop}(e:iq rs=some ds)(a:ds.length≤aai)(h:P ds):Jx P (iq rs):=by rw[e];exact⟨a,h⟩
def QK(h:l m λrs m1=>match iQ m1 rs with|some (as,ks)=>ks.Nodup/\sp as λr a=>K (mapR ks r) {m1 with os:=cR m1.os ks a}|none=>False):Bf sp l m K:=h
def Vi{rs:List R}{P:List Ag->List Nat->Prop}(e:iQ m rs=some (as,ks))(a:ks.Nodup)(h:P as ks):match iQ m rs with|some (as,ks)=>ks.Nodup/\P as ks|none=>False:=by rw[e];exact⟨a,h⟩
def Js(h:t m λr a=>sU n D.nx a r):wSet n t D m:=h
def ls(h:P (m.setV n (.imm d))):sU n P m (.imm d):=.inl h
theorem cF(h:P {vs:=m.vs.set n (some (.obj m.os.length)),os:=m.os++[ds],np:=m.np}):sU n P m (.new ds):=.inl (.inl h)
def UE{a:Nat}(h:l m λrs b=>match rs with|[.imm d1,.imm d2]=>D.nx ((b.setV n (.imm d1)).setV a (.imm d2))|_=>False):wPar n a l D m:=h
def x_ls{P:Prop}(e:lsOf m r=some ds)(h:P):(∃ds,lsOf m r=some ds)/\P:=⟨⟨ds,e⟩,h⟩
theorem kO(e:m.os[k]?=some ds)(a:ds.length<aai)(h:K (.imm .none) {m with os:=m.os.set k (ds++[d])}):Cg (.obj k) [.imm d] m K:=⟨ds,e,a,h⟩
def Qb(h:f (.imm (.int (i+j)))):oAdd (.imm (.int i)) (.imm (.int j)) m f:=h
def ip{a:List aD}(c:a.length+b.length≤aai)(h:f (.imm (.tuple (a++b)))):oAdd (.imm (.tuple a)) (.imm (.tuple b)) m f:=⟨c,h⟩
def zo{a:List aD}(c:a.length+b.length≤aai)(h:f (.new (a++b))):oAdd (.new a) (.new b) m f:=⟨a,b,rfl,rfl,c,h⟩
def Jj{a:List aD}(e:m.os[k]?=some a)(c:a.length+b.length≤aai)(h:f (.new (a++b))):oAdd (.obj k) (.new b) m f:=⟨a,b,e,rfl,c,h⟩
def Rg(h:f (.imm (.int (i-j)))):oSub (.imm (.int i)) (.imm (.int j)) m f:=⟨trivial,h⟩
def Se(a:CFd i j)(h:f (.imm (.int (i/j)))):QL (.imm (.int i)) (.imm (.int j)) m f:=⟨a,h⟩
def JJ(a:0<j)(h:f (.imm (.int (i%j)))):oMod (.imm (.int i)) (.imm (.int j)) m f:=⟨a,h⟩
def VA(a:CPow i j)(h:f (.imm (.int (i^j.toNat)))):oPow (.imm (.int i)) (.imm (.int j)) m f:=⟨a,h⟩
def x_lt(h:f (.imm (.bool (decide (i<j))))):oLt (.imm (.int i)) (.imm (.int j)) m f:=h
def x_le(h:f (.imm (.bool (decide (i≤j))))):oLe (.imm (.int i)) (.imm (.int j)) m f:=h
def x_gt(h:f (.imm (.bool (decide (j<i))))):oGt (.imm (.int i)) (.imm (.int j)) m f:=h
def x_ge(h:f (.imm (.bool (decide (j≤i))))):oGe (.imm (.int i)) (.imm (.int j)) m f:=h
def x_eq{d1 d2:aD}(a:asD m r1=some d1)(e:asD m r2=some d2)(s1:ack d1=true)(s2:ack d2=true)(h:f (.imm (.bool (aag d1 d2)))):oEq r1 r2 m f:=by refine afw ?_;unfold eqD;rw[a,e];exact⟨s1,s2,h⟩
def x_ne{d1 d2:aD}(a:asD m r1=some d1)(e:asD m r2=some d2)(s1:ack d1=true)(s2:ack d2=true)(h:f (.imm (.bool (!aag d1 d2)))):oNe r1 r2 m f:=by refine afw ?_;unfold eqD;rw[a,e];exact⟨s1,s2,h⟩
theorem Ut(h:f (.imm (.bool (decide (i=j))))):oEq (.imm (.int i)) (.imm (.int j)) m f:=x_eq rfl rfl rfl rfl ‹_›
def UJ(h:f (.imm (.bool (decide (x=y))))):oEq (.imm (.str x)) (.imm (.str y)) m f:=adq (afw ⟨x,y,rfl,rfl,h⟩)
def Uy(h:f (.imm (.bool (!decide (x=y))))):oNe (.imm (.str x)) (.imm (.str y)) m f:=adq ⟨x,y,rfl,rfl,h⟩
def Gz(h:f (.imm (.bool (!isNone r)))):zl r (.imm .none) m f:=⟨rfl,h⟩
def ba(e:atI ds i=some d)(h:f (.imm d)):oa (.imm (.tuple ds)) (.imm (.int i)) m f:=⟨d,e,h⟩
def AU(e:atI ds i=some d)(h:f (.imm d)):oa (.imm (.list ds)) (.imm (.int i)) m f:=⟨ds,d,rfl,e,h⟩
def jT(a:m.os[k]?=some ds)(e:atI ds i=some d)(h:f (.imm d)):oa (.obj k) (.imm (.int i)) m f:=⟨ds,d,a,e,h⟩
def uC(e:atI ds i=some d)(h:f (.imm d)):oa (.new ds) (.imm (.int i)) m f:=⟨ds,d,rfl,e,h⟩
def P8(h:f (.imm (.int ds.length))):lenR m f (.imm (.tuple ds)):=h
def Q9(h:f (.imm (.int ds.length))):lenR m f (.imm (.list ds)):=⟨ds,rfl,h⟩
def Pq(h:f (.imm (.int ds.length))):lenR m f (.new ds):=⟨ds,rfl,h⟩
def Jp(e:sqOf m r=some ds)(h:f (.imm (.tuple ds))):IG [r] m f:=⟨ds,e,h⟩
def Pf(e:asD m r=some d)(c:d.showable=true)(g:d.hasDict=false)(b:d.shown.length≤aai)(a:d.depth≤100)(h:f (.imm (.str d.shown))):Ol [r] m f:=⟨d,e,c,g,b,a,h⟩
def x_gM(h:P (m.setV n (.imm d))):gM n d m P:=h
def zU(h:P m):K8 [] m P:=⟨rfl,h⟩
def og(h:g d m λa=>gs ds a P):BI g gs (d::ds) m P:=h
def OJ(e:ds.length=n)(h:gs ds m P):JX n gs (.tuple ds) m P:=⟨e,h⟩
def QU(h:Ks ⟨ds,none⟩ m):srcR m Ks (.imm (.list ds)):=h
def Uf(h:Ks ⟨ds,none⟩ m):srcR m Ks (.imm (.tuple ds)):=h
def QX(e:m.os[k]?=some ds)(h:Ks ⟨ds,some (k,ds)⟩ m):srcR m Ks (.obj k):=⟨ds,e,h⟩
end
def ap{D:dm}{m:MSt}(a:MSt)(e:m=a)(h:w D a):w D m:=e▸h
theorem UF{i j:Int}(h:(-18446744073709551616<i/\i<18446744073709551616)\/(-18446744073709551616<j/\j<18446744073709551616)):ag1 i j:=CMul.ok ‹_›
theorem cfd{i j:Int}(h:0<j)(a:j<1152921504606846976):CFd i j:=⟨h,by
 have:j.natAbs<2^60:=by omega
 have:=(Nat.log2_lt (by omega)).mpr this;omega⟩
theorem mH:∀ns:List Int,abt (ns.map .int)=true
 |[]=>rfl
 |n::ns=>by simp[ abt,ae3,mH ns]
theorem pF:∀ns:List Int,aax (ns.map .int)≤1
 |[]=>abm 1
 |n::ns=>by
  have:=pF ns;simp[aax,PyData.depth];omega
theorem ve(ns:List Int):ack (.list (ns.map .int))=true:=by
 have h:=pF ns;have a:(afo (ns.map .int)).depth≤64:=by simp only[PyData.depth];omega
 have b:(afo (ns.map .int)).canLay0=true:=by simp only[ae3,mH]
 unfold ack;rw[b,decide_eq_true a];rfl
theorem Ig{a:Type}{xs:List a}{i:Int}(c:0≤i)(b:i<xs.length):∃d,xs[i.toNat]?=some d/\atI xs i=some d:=by
 have h:i.toNat<xs.length:=by omega
 refine⟨xs[i.toNat],lD h,?_⟩;unfold atI ixN
 simp_all
theorem DN{i:Int}(a:0≤i)(b:i<ns.length):∃x:Int,atI (ns.map abU) i=some (.int x):=by
 let⟨d,e,h⟩:=Ig (xs:=ns.map abU) a (by simp_all);rw[aah]at e
 cases q:ns[i.toNat]? with
 |none=>rw[q]at e;cases e
 |some x=>rw[q]at e;cases e;exact⟨x,h⟩
section
variable {X:Cx}{tg a b c e:Expr}{es:List Expr}{l y A B w C:WE}{D:WA}{pos p j:Pos}
def db:List aD->Option (List Int)
 |[]=>some []
 | .int i::ds=>(db ds).map (i :: ·)
 |_::_=>none
theorem h7(h:db ds=some ns):ds=ns.map .int:=by
 induction ds generalizing ns with
 |nil=>cases h;rfl
 | cons d ds f=>
  cases d with
  |int i=>
   simp only[db]at h
   cases q:db ds with
   |none=>rw[q]at h;cases h
   |some m=>rw[q]at h;cases h;rw[f q];rfl
  |none=>cases h
  |bool _=>cases h
  |str _=>cases h
  |list _=>cases h
  |tuple _=>cases h
  |dict _=>cases h
theorem dW:∀ns:List Int,db (ns.map .int)=some ns
 |[]=>rfl
 |n::ns=>by simp[ db,dW ns]
theorem dE{K:Kd}{H:Hp}:∀{ns:List Int}{xs:List V},DenAll K H (ns.map .int) xs->xs=ns.map V.int
 |[],_,h=>by simpa only[ DenAll]
 |n::ns,_,h=>by
  let⟨v,vs,rfl,f,d⟩:=h;have e:=aF f;rw[e,dE d];rfl
def oSum:WC:=λrs m K=>on1 (λr=>∃ds ns,lsOf m r=some ds/\db ds=some ns/\K (.imm (.int ns.sum))) rs
theorem zf(S:X.calm=true):dM X (.builtin "sum") (cM X.kx oSum):=by
 intro q s E H x Y Q I K ⟨α,m,Z,H0,rs,Kc,R,h,o,n⟩;let⟨r,v,rfl,rfl,M,ds,ns,T,V,o⟩:=ef h o;let⟨a,W,rfl,f,g⟩:=M.list R T;rw[h7 V]at g;have L:=dE g;subst L;let⟨u,rfl,P⟩:=K.one;cases P;let⟨i,k,F,_⟩:=I.list f;have t:=fx k;have d:AllInts i.toArray:=t.allInts;let⟨x,ex⟩:=d.items;have O:s.heap.IsList a (intItems x):=by rw[<-ex];exact F.isList
 refine sum_intListG (I.ok.hd S) O λh' U t' hk=>?_;have G:preSum (numAt x) x.size=ns.sum:=by
  have J:(numsOf i).sum=ns.sum:=by rw[t.numsOf]
  rw[<-J];have z:=congrArg afT ex;have N:i=(intItems x).toList:=by simpa using z
  rw[N,nums_intItems,preSum_eq,ac3 (by simp)]
 rw[G];exact⟨.int ns.sum,H,I.kept (t':=U) hk,⟨_,rfl⟩,n _ _ H o R (dI _) (Frm.refl _ _)⟩
def tyN:aD->String
 | .none=> "NoneType"
 | .bool _=> "bool"
 | .int _=> "int"
 | .str _=> "str"
 | .list _=> "list"
 | .tuple _=> "tuple"
 | .dict _=> "dict"
def tyR:R->String
 | .imm d=>tyN d
 |_=> "list"
def ndR:R->Bool
 | .imm (.dict _)=>false
 | .at _ _=>false
 | .newT _=>false
 |_=>true
def IsT(T:String)(f:String->Bool):Prop:=∀(K:aad) (n:String),n∈["NoneType","bool","int","str","list","tuple"]->PySem.W.kitOne K (.type n) (.type T)=some (f n)
def PC(h:∀n∈["NoneType","bool","int","str","list","tuple"],(if ((adm n)==(adm T))=true then some true else if PySem.W.kitMeta T=true then(fastBuiltinMro n).map (·.contains (.type T))else none)=some (f n)):IsT T f:=λK n d=>by
 have:=h n d;exact this
def yQ:IsT "tuple" (λn=>n == "tuple"):=PC (by decide +kernel)
def rIsI(K:Kx)(T:String)(f:String->Bool):List V->Hp->VK->Prop:=λx H Q=>∃d m g h r v,Rel K d m g H/\RelR K d h H r v/\ndR r=true/\x=[v,.ty T]/\Q (.bl (f (tyR r))) H
theorem E9(J:IsT T f):dM X (.builtin "isinstance") (rIsI X.kx T f):=by
 intro g s K H xs us Q I rv ⟨α,m,σ,H0,r,v,R,h,E,ex,q⟩;subst ex;let⟨u,c,rfl,G,Y⟩:=rv.two
 cases (show c=adm T from Y)
 have done:∀O,EP X g K Q (.bool (f (tyR r))) {s with toks:=O}:=λO=>⟨.bl _,H,I.tok O,rfl,q⟩;have lst:∀{a:Addr}{F:List V},v = .ref a->SqL X.kx H a F->tyR r = "list" -> wpAny (model X.prog X.w) X.A (call (.builtin "isinstance") [u,.type T]) (EP X g K Q) X.xe s:=λ{a F} U L W=>by
  subst U
  cases (show u=abi a from G)
  let⟨M,_,⟨o,n,i,N,_⟩,_⟩:=I.list L;exact ac9 PySem.W.kitx_list I.kIn ⟨o,i,N⟩ (by rw[W];exact J X.K "list" (by decide)) (λz=>nomatch z) done
 cases r with
 |obj k=>
  have Z:=h;let⟨a,S,rfl⟩:=Z;have hk:k<m.os.length:=by rw[<-R.len];exact(Ad.mp S).1
  let⟨F,i,_⟩:=R.own k _ _ S (lD hk);exact lst rfl (SqL.of i) rfl
 |new ds=>let⟨a,F,rfl,_,i,_⟩:=h;exact lst rfl (SqL.of i) rfl
 | «at» _ _=>cases E
 |newT _=>cases E
 | imm d=>
  cases d with
  |none=>have e:=jE (show Den X.kx H .none v from h);subst e;cases (show u=afR from G);exact ac9 PySem.W.kitx_none I.kIn acz (J X.K "NoneType" (by decide)) (λz=>nomatch z) done
  |bool x=>have e:=jk (show Den X.kx H (.bool x) v from h);subst e;cases (show u=ahz x from G);exact ac9 PySem.W.kitx_bool I.kIn acz (J X.K "bool" (by decide)) (λz=>nomatch z) done
  |int x=>have e:=aF (show Den X.kx H (.int x) v from h);subst e;let⟨t,q⟩:=(show ∃t,u=agx x t from G);cases q;exact ac9 PySem.W.kitx_int I.kIn acz (J X.K "int" (by decide)) (λz=>nomatch z) done
  |str x=>have e:=bu (show Den X.kx H (.str x) v from h);subst e;let⟨t,q⟩:=(show ∃t,u=ahH x t from G);cases q;exact ac9 PySem.W.kitx_str I.kIn acz (J X.K "str" (by decide)) (λz=>nomatch z) done
  |list ds=>
   have P:Den X.kx H (.list ds) v:=h;simp only[Den]at P;let⟨a,F,e,L,_⟩:=P;exact lst e L.sq rfl
  |tuple ds=>
   let⟨a,F,rfl,L,_⟩:=bQ (show Den X.kx H (.tuple ds) v from h)
   cases (show u=abi a from G)
   let⟨M,_,⟨o,i,N,_⟩,_⟩:=I.tuple L;exact ac9 PySem.W.kitx_tuple I.kIn ⟨o,i,N⟩ (J X.K "tuple" (by decide)) (λz=>nomatch z) done
  |dict es=>cases E
abbrev wIsT(f:String->Bool)(w:WE):WE:=λm K=>w m λr d=>ndR r=true/\K (.imm (.bool (f (tyR r)))) d
theorem S9(K:ME X e w)(N:IsT T f)(q:X.mg "isinstance" = none)(L:X.mg x=none)(u:aa2 x=some (.type T))(d:Gl X "isinstance":=by rfl)(M:Gl X x:=by rfl)(E:x ≠ "__name__":=by decide)(hd:(x==("__debug__" : Str))=false:=by decide)
  (h:aac [e,.Name x j] X.env=(false,eval e X.env)::aac [.Name x j] X.env:=by rfl) (g:aac [.Name x j] X.env=(false,eval (.Name x j) X.env)::aac [] X.env:=by rfl) (o:(abk pos (aac [.Name x j] X.env)).any (·.1)=false:=by rfl) :
  ME X (.Call (.Name "isinstance" p) [e,.Name x j] [] pos) (wIsT f w):=(v5 (E9 N) d q ql (uX K (uX (Nh M L u (v:=.ty T) rfl E hd) GQ g) h) (by decide) rfl h o).wk<|by intro G H Q ⟨s,m,O,z,J,i⟩;exact
 ⟨s,m,_,z,J,λr t v I k n R rr F=>⟨s,t,G,H,r,v,R,rr,k.1,rfl,i _ t _ I k.2 n R (lW _) F⟩⟩
def x_nd{P:Prop}(e:ndR r=true)(h:P):ndR r=true/\P:=⟨e,h⟩
end
theorem gy{D:dm}(P:Nat->MSt->Prop)(p0:P 0 m1)
  (step:∀(i:Nat) (d:aD) (m:MSt),ds[i]?=some d->m.np=m1.np->P i m->g d m λm2=>w {nx:=P (i+1),ct:=P (i+1),bk:=λh=>D.nx (h.setN m1.np),rt:=λr h=>D.rt r (h.setN m1.np)} m2)
  (f:∀m,m.np=m1.np->P ds.length m->D.nx m):mf ⟨ds,none⟩ g w D m1:=by
 refine⟨P,p0,λi d m e n p=>⟨trivial,step i d m e n p⟩,λm n p=>⟨trivial,?_⟩⟩;have e:m.setN m1.np=m:=by
  let⟨a,b,c⟩:=m;have j:c=m1.np:=n;subst j;rfl
 rw[e];exact f m n p
theorem jM{k:Nat}{a:List aD}{D:dm}(P:Nat->MSt->Prop)(p0:P 0 (m1.setN (max m1.np (k+1))))
  (ok:∀i m,P i m->m.os[k]?=some a)
  (step:∀(i:Nat) (d:aD) (m:MSt),ds[i]?=some d->m.np=max m1.np (k+1)->P i m->g d m λm2=>w {nx:=P (i+1),ct:=P (i+1),bk:=λb=>D.nx (b.setN m1.np),rt:=λr b=>D.rt r (b.setN m1.np)} m2)
  (f:∀m,m.np=max m1.np (k+1)->P ds.length m->D.nx (m.setN m1.np)):mf ⟨ds,some (k,a)⟩ g w D m1:=
 ⟨P,p0,λi d m e n p=>⟨ok i m p,step i d m e n p⟩,λm n p=>⟨ok _ m p,f m n p⟩⟩
theorem iI{t:WT}{D:dm}{b:MSt}(P:Nat->MSt->Prop)(e:Nat)(p0:P e b)
  (step:∀n m,m.np=b.np->P n m->t m λc d=>if c=true then w {D with nx:=λm2=>∃a,a<n/\P a m2,ct:=λm2=>∃a,a<n/\P a m2,bk:=D.nx} d else D.nx d):v9 t w D b:=⟨P,⟨e,p0⟩,step⟩
def Fy(h:ds.length≤n):cutD ds none (some (n:Int))=ds:=by
 unfold cutD;rw[HT.sIx_none,HT.sIx_nat,Nat.min_eq_right h,Nat.sub_zero,List.drop_zero,aau]
theorem Jm{k:Nat}(h:k<n):ixN n (k:Int)=some k:=by
 unfold ixN;rw[if_pos (by omega),if_pos (by omega)];simp
theorem gN{k:Nat}{m:MSt}(b:m.vs[n]?=some (some (.obj k)))(c:m.np≤k)(a:∀j:Nat,j≠n->m.vs[j]?≠some (some (.obj k)))(h:P {m with os:=m.os.set k ds}):sU n P m (.new ds):=.inr ⟨k,b,c,a,h⟩
theorem bO{a:Type}{xs:List a}{k:Nat}{d x:a}(h:xs[k]?=some x):xs.getD k d=x:=by simp_all
def x_J{w:WE}{m:MSt}{K:R->MSt->Prop}(b:R->MSt->Prop)(h:∀c:R->MSt->Prop,(∀r a,b r a->c r a)->w m c)(J:∀r a,b r a->K r a):w m K:=h K J
def x_JT{w:WT}{m:MSt}{K:Bool->MSt->Prop}(b:Bool->MSt->Prop)(h:∀c:Bool->MSt->Prop,(∀r a,b r a->c r a)->w m c)(J:∀r a,b r a->K r a):w m K:=h K J
theorem x_JS{m:MSt}{D:dm}(b:MSt->Prop)(h:∀N:MSt->Prop,(∀a,b a->N a)->w {D with nx:=N} m)(J:∀a,b a->D.nx a):w D m:=h D.nx J
structure Fine(n k:Nat)(d:aD):Prop where
 sh:d.showable=true
 nd:d.hasDict=false
 ln:d.shown.length≤n
 dp:d.depth≤k
def Fine.mono{k a k':Nat}{d:aD}(h:Fine n k d)(b:n≤a)(hk:k≤k'):Fine a k' d:=⟨h.sh,h.nd,aas h.ln b,aas h.dp hk⟩
def zn(b:Bool):Fine 5 0 (.bool b):=⟨rfl,rfl,by cases b<;>decide,Mt _⟩
theorem yb{k:Nat}(h:n<2^k)(hk:0<k):n.log2<k:=by
 by_cases a:n=0
 .simp_all
 .rw[Nat.log2_lt a];exact h
theorem qx{i:Int}(h:i.natAbs<10^12):Fine 13 0 (.int i):=by
 refine⟨?_,rfl,aD.shown_int_le h,Mt _⟩;have:i.natAbs.log2<40:=yb (aat h (by decide)) (by decide);apply decide_eq_true;omega
theorem xu{n k:Nat}:∀{ds:List aD},(∀d∈ds,Fine n k d)->agT ds=true/\acq ds=false/\((ada ds).map (·.length)).sum≤ds.length*n/\(ada ds).length=ds.length/\aax ds≤k
 |[],_=>⟨rfl,rfl,by simp[ada],rfl,by simp[aax]⟩
 |d::ds,h=>by
  let⟨g,e,i,f,j⟩:=xu λb c=>h b (LD _ c);have a:=h d aaa;refine⟨?_,?_,?_,?_,?_⟩
  .show(d.showable&&agT ds)=true;rw[a.sh,g];rfl
  .show(d.hasDict||acq ds)=false;rw[a.nd,e];rfl
  .show(d.shown.length::(ada ds).map _).sum≤_;rw[acQ,aaA,adt];have:=a.ln;omega
  .show(ada ds).length+1=_;rw[f];rfl
  .show max d.depth _≤k;have:=a.dp;omega
theorem dA{k c:Nat}(h:∀d∈ds,Fine n k d)(f:ds.length≤c):Fine (c*(n+2)+3) (k+1) (.tuple ds):=by
 let⟨a,b,g,i,j⟩:=xu h;refine⟨a,b,?_,?_⟩
 .show(tupleText _).length≤_;have:=tupleText_len_le (ada ds);have e:ds.length*(n+2)≤c*_:=acL _ f
  grind
 .show aax ds+1≤_;omega
structure Shp(k:Nat)(d:aD):Prop where
 cl:d.canLay0=true
 dp:d.depth≤k
def Shp.mono{k k':Nat}{d:aD}(h:Shp k d)(hk:k≤k'):Shp k' d:=⟨h.cl,aas h.dp hk⟩
def Shp.ok{k:Nat}{d:aD}(h:Shp k d)(hk:k≤64):ack d=true:=by
 unfold ack;rw[h.cl,decide_eq_true (aas h.dp hk)];rfl
def FJ:Shp 0 .none:=⟨rfl,Mt _⟩
def ci(i:Int):Shp 0 (.int i):=⟨rfl,Mt _⟩
theorem jX{k:Nat}:∀{ds:List aD},(∀d∈ds,Shp k d)->abt ds=true/\aax ds≤k
 |[],_=>⟨rfl,by simp[aax]⟩
 |d::ds,h=>by
  let⟨b,f⟩:=jX λc e=>h c (LD _ e);have a:=h d aaa;refine⟨?_,?_⟩
  .simp only[abt];rw[a.cl,b];rfl
  .show max d.depth _≤k;have:=a.dp;omega
theorem bc{k:Nat}(h:∀d∈ds,Shp k d):Shp (k+1) (.tuple ds):=by
 let⟨a,b⟩:=jX h;exact⟨by simp[ae3];exact a,by show aax ds+1≤_;omega⟩
theorem vE{k:Nat}(h:∀d∈ds,Shp k d):Shp (k+1) (.list ds):=by
 let⟨a,b⟩:=jX h;exact⟨by simp only[ae3];exact a,by show aax ds+1≤_;omega⟩
def fe{m:MSt}{d:aD}{K:R->Prop}{k:Nat}(h:Fine n k d)(e:asD m r=some d)(a:n≤16777216)(hk:k≤100)(b:K (.imm (.str d.shown))):Ol [r] m K:=Pf e h.sh h.nd (by rw[aae];exact aas h.ln a) (aas h.dp hk) b
theorem ye(b:Only H)(h:SqL K H a (ns.map V.int)):Den K H (.list (ns.map .int)) (.ref a):=by
 refine⟨a,_,rfl,?_,DenAll.ints _⟩;rcases h with(h|⟨o,h⟩)|h
 .rcases b a with z|_
  .grind
  .grind
 .exact .inl ⟨o,h⟩
 .exact .inr h
theorem OA{P:aaF}{w:World}{K:aad}{base:aaW}{k:Nat}{f:Addr}(F:Fun K x x st f fd)(S:aq N ps (ab st))(g:ps.length=n)(o:N.length=nN)(b:n≤nN)
  (a:∀(c:mT) (A:aa4) (outer:List Env) (s:AD) (H:Hp) (E:XK) (f:Addr),Room k (A.deeper (ad8 x (ab st) s.heap.objs.size f c)) ->
   ∃d,MSs (cxOf CX0 P w K mg base N x (ab st) f c A outer s H E).nox (bH st) d/\∀as e,as.length=n->sp as e->d {nx:=λm=>e (.imm .none) (m.os.take m.np),rt:=λr m=>retK e m r} (d7 nN as)) :
  FnOk P w K mg base CX0 (k+1) f fd ps (spOf ⟨K,w⟩ n sp):=by
 refine F.ok S (λvs H Q E h=>by rw[g];exact h.len) (λc A outer s H vs Q E i h=>?_);let⟨d,j,l⟩:=a c A outer s H E f i;exact⟨_,j,fn_m rfl h o b l⟩
structure DefK(K:aad)(x:Str)(st:Stmt):Prop where
 ex:∃(f:Addr) (fd:ab3),aaG K aav x=some (some (.ref f))/\Fun K x x st f fd
def DefK.of{K:aad}{f:Addr}{o kV d pm b ct:mT}{an:Option Addr}{sl:Array (Option mT)}(a:aaG K aav x=some (some (.ref f)))
  (l:K.lookup f=some ⟨o,od,.func (abj x x (cx st) (bH st) (ab st) .none kV d pm an b ct),sl⟩) (c:ado K b x=true) (k:abM K (.ref f)=true):DefK K x st:=⟨f,_,a,ua l c k⟩
theorem DefK.m{K:aad}{h:aaW}(D:DefK K x st)(X:K.In h)(G:h.Ns aav mg)(b:∀(f:Addr) (fd:ab3),Fun K x x st f fd->Binds K fd ps []):DefM K mg x st ps:=by
 let⟨f,fd,a,F⟩:=D.ex;exact⟨f,fd,F,afx X G a,b f fd F⟩
structure EE(X:Cx)(e:Expr)(w:WE):Prop where
 h:ME X e w
structure ET(X:Cx)(e:Expr)(w:WT):Prop where
 h:MT X e w
structure EW(X:Cx)(e:Expr)(w:WT):Prop where
 h:MW X e w
structure EA(X:Cx)(es:List Expr)(w:WA):Prop where
 h:MA X es w
structure ES(X:Cx)(st:Stmt)(w:WS):Prop where
 h:MS X st w
structure ESs(X:Cx)(st:List Stmt)(w:WS):Prop where
 h:MSs X st w
structure EI(X:Cx)(tg e:Expr)(w:WI):Prop where
 h:MI X tg e w
structure EG(X:Cx)(t:Expr)(w:WG):Prop where
 h:MG X t w
structure EGs(X:Cx)(ts:List Expr)(w:WGs):Prop where
 h:MGs X ts w
structure EO(X:Cx)(e:Option Expr)(w:WO1):Prop where
 h:MO X e w
structure ETs(X:Cx)(ifs:List Expr)(w:WT):Prop where
 h:PTs X ifs (tMT X.kx w)
def EW.pt{w:WT}(h:EW X e w):ET X e w:=⟨h.h.pt⟩
section
variable {X:Cx}{a b c:Expr}{es:List Expr}{w d e:WE}{pos:Pos}
def mh'{i j pos}:EE X (.Constant (.int i) j pos) (wC (.int i)):=⟨Tw⟩
def lj{i j pos}:EE X (.Constant (.bool i) j pos) (wC (.bool i)):=⟨Vx⟩
def ai{i j pos}:EE X (.Constant (.str i) j pos) (wC (.str i)):=⟨TM⟩
def e9{j pos}:EE X (.Constant .none j pos) (wC .none):=⟨Qp⟩
theorem mv'(i:Nat){pos:Pos}(g:X.N[i]?=some x:=by rfl)(f:Vis X.env.scope x:=by first|exact afw rfl|exact adq (afw rfl)|exact adq (adq rfl))(hd:(x==("__debug__" : Str))=false:=by decide)(h:(x==("__classdict__" : Str))=false:=by decide):EE X (.Name x pos) (wVar i):=⟨mv i g f hd h⟩
def af{op:aeZ}(g:OpR X (aco op) (rM X.kx o))(f:EE X a w)(h:EE X b d):EE X (.BinOp a op b pos) (wBin o w d):=⟨PF g f.h h.h⟩
def df(i:OpR X (abh op) (rM X.kx o))(g:EE X a w)(h:EE X b d)(f:acP op b=false):EE X (.Compare a [op] [b] pos) (wBin o w d):=⟨O5 i g.h h.h f⟩
def am(i:OpR X (abh op) (rM X.kx o))(g:EE X a w)(h:EE X b d)(f:acP op b=false):ET X (.Compare a [op] [b] pos) (BR (wBin o w d)):=⟨Qy i g.h h.h f⟩
def dh(g:EE X a w)(h:∀f,isTrue a X.env f=(do let v <- f;acH a.pos;adr [v] (truthy v)):=by intro _;rfl):ET X a (BR w):=⟨Rh g.h h⟩
end
section
variable {X:Cx}{a b c:Expr}{es:List Expr}{d e g:WE}{pos:Pos}
variable {w f:WT}{rest:List Expr}
def h8(h:ET X a w):EW X (.BoolOp .And [a] pos) w:=⟨KH h.h⟩
def jv(h:ET X a w):EW X (.BoolOp .Or [a] pos) w:=⟨TU h.h⟩
def iW(i:ET X a w)(h:EW X (.BoolOp .And (b::rest) pos) f):EW X (.BoolOp .And (a::b::rest) pos) (wAnd w f):=⟨R8 i.h h.h⟩
def mF(i:ET X a w)(h:EW X (.BoolOp .Or (b::rest) pos) f):EW X (.BoolOp .Or (a::b::rest) pos) (wOr w f):=⟨UV i.h h.h⟩
def qM(h:ET X a w):ET X (.UnaryOp .Not a pos) (wNot w):=⟨OG h.h⟩
def Kg{op}(h:EE X a d):EE X (.BoolOp op [a] pos) d:=⟨Pp h.h⟩
def Tz(i:EE X a d)(h:EE X (.BoolOp .Or (b::rest) pos) e):EE X (.BoolOp .Or (a::b::rest) pos) (wOrV d e):=⟨Vp i.h h.h⟩
def sF(i:ET X t w)(j:EE X a d)(h:EE X b e):EE X (.IfExp t a b pos) (wIfE w d e):=⟨Va i.h j.h h.h⟩
def o4{op:UnaryOp}{o:WU}(i:UnR X (unaryOp op) (uM X.kx o))(h:EE X a d):EE X (.UnaryOp op a pos) (wUn o d):=⟨UK i h.h⟩
def cE(h:EE X a d):EE X a (wImm d):=⟨Uh h.h⟩
end
section
variable {X:Cx}{a b c:Expr}{es:List Expr}{d e f:WE}{pos:Pos}
variable {g i:WT}{rest:List Expr}
variable {w:WA}
def mn'  : EA X [] wNil:=⟨TZ⟩
def mc'(j:EE X a d)(h:EA X es w)(k:aac (a::es) X.env=(false,eval a X.env)::aac es X.env:=by first|exact aG rfl|rfl):EA X (a::es) (Re d w):=⟨Jn j.h h.h k⟩
def ah{x1}(h:EA X es w):EE X (.Tuple es x1 pos) (wTup w):=⟨OU h.h⟩
def bJ(h:EA X es w):EE X (.List es pos) (wLst w):=⟨T5 h.h⟩
theorem aC{id:String}{o:WC}(n:dM X (.builtin id) (cM X.kx o))(l:Gl X x)(m:X.mg x=none)(k:aa2 x=some (.builtin id))(r:EA X (a::es) w)(q:x ≠ "__name__":=by decide)(h:(x==("__debug__" : Str))=false:=by decide)(s:aac (a::es) X.env=(false,eval a X.env)::aac es X.env:=by first|exact aG rfl|rfl)(j:(abk pos (aac es X.env)).any (·.1)=false:=by rfl):EE X (.Call (.Name x p) (a::es) [] pos) (wCB o w):=⟨DA n l m k r.h q h s j⟩
theorem b5{o:WC}(n:dM X (.type T) (cM X.kx o))(l:Gl X x)(m:X.mg x=none)(k:aa2 x=some (.type T))(r:EA X (a::es) w)(q:x ≠ "__name__":=by decide)(h:(x==("__debug__" : Str))=false:=by decide)(s:aac (a::es) X.env=(false,eval a X.env)::aac es X.env:=by first|exact aG rfl|rfl)(j:(abk pos (aac es X.env)).any (·.1)=false:=by rfl):EE X (.Call (.Name x p) (a::es) [] pos) (wCB o w):=⟨Ce n l m k r.h q h s j⟩
end
section
variable {X:Cx}{a b c e:Expr}{es:List Expr}{d f g h:WE}{pos:Pos}{st:Stmt}{rest:List Stmt}{w u:WS}
def aA  : ESs X [] R9:=⟨JN⟩
def mz'(i:ES X st w)(j:ESs X rest u):ESs X (st::rest) (wSeq w u):=⟨CY i.h j.h⟩
def aa(i:ES X st w):ESs X [st] w:=⟨K6 i.h⟩
end
section
variable {X:Cx}{a b c e:Expr}{es:List Expr}{p q r f:WE}{m:WA}{o:WT}{pos:Pos}{st:Stmt}{rest l d:List Stmt}{w u:WS}
def ag(h:EE X e f):ES X (.Return (some e) pos) (wRet f):=⟨QJ h.h⟩
def cU(h:EE X e f)(g:abA e none pos.line X.env=pure false:=by rfl):ES X (.Expr e pos) (RQ f):=⟨Mz h.h g⟩
def aU(i:ET X t o)(g:ESs X l w)(h:ESs X d u):ES X (.If t l d pos) (wIfS o w u):=⟨UX i.h g.h h.h⟩
def yO  : ES X st IK:=⟨Gq⟩
theorem rf{g:Pos}(h:X.N.Nodup)(k:X.N[i]?=some x)(n:Loc X.env.scope x)(t:EE X e f)(s:abA e (some (.Name x g)) pos.line X.env=pure false:=by rfl)(j:X.fn x=true\/X.env.scope.names.lookup x=some .local:=by first|exact .inl rfl|exact .inr rfl|assumption):ES X (.Assign [.Name x g] e pos) (wSet i f):=⟨Ui h k n t.h s j⟩
theorem jd(h:X.N.Nodup)(j:X.N[i]?=some x)(k:Loc X.env.scope x)(g:X.fn x=true\/X.env.scope.names.lookup x=some .local:=by first|exact .inl rfl|exact .inr rfl|assumption):EG X (.Name x pos) (gM i):=⟨Lr h j k g⟩
def aM  : EGs X [] K8:=⟨Kz⟩
def ac{e:Expr}{es:List Expr}(i:EG X e g)(j:EGs X es gs)(h:(abT (e::es) X.env).map (·.2)=aft e X.env::(abT es X.env).map (·.2):=by rfl):EGs X (e::es) (BI g gs):=⟨CU i.h j.h h⟩
theorem bj{es:List Expr}{k:Nat}(h:EGs X es gs)(i:X.calm=true:=by rfl)(j:(abT es X.env).length=n:=by rfl)(g:(abT es X.env).findIdx? (·.1)=none:=by rfl):EG X (.Tuple es k pos) (JX n gs):=⟨Rj h.h i j g⟩
theorem cB(k:EE X e f)(h:EG X tg g)(j:adE [tg] e pos.line X.env=pure false:=by rfl)(i:adF [tg] e X.env=pure none:=by rfl)(n:(abT [tg] X.env).map (·.2)=[aft tg X.env]:=by rfl):ES X (.Assign [tg] e pos) (wAsg f g):=⟨Qe k.h h.h j i n⟩
theorem jF{g k pt:Pos}{kt k2 pt2}(s:X.N.Nodup)(v:X.N[i]?=some x)(t:X.N[j]?=some y)(h:i≠j)(z:X.env.scope.names.lookup x=some .local)(n:X.env.scope.names.lookup y=some .local)(C:EA X [a,b] m)(D:adF [.Tuple [.Name x g,.Name y k] kt pt] (.Tuple [a,b] k2 pt2) X.env=pure (some [x,y]))(A:X.calm=true:=by rfl)(B:adE [.Tuple [.Name x g,.Name y k] kt pt] (.Tuple [a,b] k2 pt2) pos.line X.env=pure false:=by rfl):ES X (.Assign [.Tuple [.Name x g,.Name y k] kt pt] (.Tuple [a,b] k2 pt2) pos) (wPar i j m):=⟨Qf s v t h z n C.h D A B⟩
end
section
variable {X:Cx}{tg a b c e i:Expr}{es:List Expr}{l m n h:WE}{j:WA}{k:WT}{pos:Pos}{st:Stmt}{rest d f:List Stmt}{w u:WS}
def aY(g:EE X e h):EI X tg e (O9 h):=⟨O3 g.h⟩
theorem cg(g:Gl X "range")(q:X.mg "range" = none)(o:EA X [a] j)(r:aac [a] X.env=[(false,eval a X.env)]:=by first|exact d5 rfl|rfl):EI X tg (.Call (.Name "range" p) [a] [] pos) (IL j):=⟨Au g q o.h r⟩
theorem b6{o:WI}(r:EI X tg i o)(q:EG X tg g)(p:ESs X d w)(v:afG (model X.prog X.w) X.A X.env X.xe)(s:X.calm=true:=by rfl)(t:∀x,aaQ i X.env x=pure x:=by intro _;rfl):ES X (.For tg i d [] pos) (wFor o g w):=⟨SU r.h q.h p.h v s t⟩
def dH(o:ET X t k)(g:ESs X d w)(p:afG (model X.prog X.w) X.A X.env X.xe):ES X (.While t d [] pos) (v9 k w):=⟨F7 o.h g.h p⟩
end
section
variable {X:Cx}{scope sc:Scope}{own fr:List Str}{ps:List Nat}{elt tg a f b:Expr}{ifs e:List Expr}{pos d p:Pos}{w k:WI}{g m:WG}{tt l:WT}{j:WE}
theorem bo(S:ck own fr scope sc)(o:EI X tg a w)(n:∀cl s H C ex,EG (aQ X scope cl (own++fr) s H C ex) tg g)(t:∀cl s H C ex,ETs (aQ X scope cl (own++fr) s H C ex) ifs tt)(u:∀cl s H C ex,EE (aQ X scope cl (own++fr) s H C ex) elt j)(c:X.env.scope=sc:=by rfl)(h:ps.map (λi=>X.N[i]?)=fr.map some:=by rfl)(q:X.calm=true:=by rfl)(r:∀x,aaQ a X.env x=pure x:=by intro _;rfl):EE X (.ListComp elt [⟨tg,a,ifs,0⟩] scope pos) (rQ w own ps g tt j):=⟨Fv S o.h (λcl s H C ex=>(n cl s H C ex).h) (λcl s H C ex=>(t cl s H C ex).h) (λcl s H C ex=>(u cl s H C ex).h) c h q r⟩
def bv  : ETs X [] yH:=⟨JP⟩
def jq{t:WT}(h:ET X c t):ETs X [c] t:=⟨Oh h.h⟩
theorem jt(S:ck own fr scope sc)(t:X.N.Nodup)(r:X.N[i]?=some y)(h:X.env.scope.names.lookup y=some .local)(q:EI X tg a w)(u:∀cl s H C ex,EG (aQ X scope cl (own++fr) s H C ex) tg g)(A:∀cl s H C ex,ETs (aQ X scope cl (own++fr) s H C ex) ifs tt)(B:∀cl s H C ex,EE (aQ X scope cl (own++fr) s H C ex) elt j)(n:abA (.ListComp elt [⟨tg,a,ifs,0⟩] scope pos) (some (.Name y p)) d.line X.env=pure true:=by rfl)(o:X.env.scope=sc:=by rfl)(c:ps.map (λi=>X.N[i]?)=fr.map some:=by rfl)(z:X.calm=true:=by rfl)(v:∀x,aaQ a X.env x=pure x:=by intro _;rfl):ES X (.Assign [.Name y p] (.ListComp elt [⟨tg,a,ifs,0⟩] scope pos) d) (wSet i (rQ w own ps g tt j)):=⟨CW S t r h q.h (λcl s H C ex=>(u cl s H C ex).h) (λcl s H C ex=>(A cl s H C ex).h) (λcl s H C ex=>(B cl s H C ex).h) n o c z v⟩
theorem ue(S:ck own fr scope sc)(z:X.N.Nodup)(v:X.N[i]?=some y)(c:X.env.scope.names.lookup y=some .local)(u:EI X tg a w)(A:∀cl s H C ex,EG (aQ X scope cl (own++fr) s H C ex) tg g)(E:∀cl s H C ex,ETs (aQ X scope cl (own++fr) s H C ex) ifs tt)(hi2:∀cl s H C ex,EI (aQ X scope cl (own++fr) s H C ex) f b k)(r:∀cl s H C ex,EG (aQ X scope cl (own++fr) s H C ex) f m)(n:∀cl s H C ex,ETs (aQ X scope cl (own++fr) s H C ex) e l)(F:∀cl s H C ex,EE (aQ X scope cl (own++fr) s H C ex) elt j)(q:abA (.ListComp elt [⟨tg,a,ifs,0⟩,⟨f,b,e,0⟩] scope pos) (some (.Name y p)) d.line X.env=pure true:=by rfl)(t:X.env.scope=sc:=by rfl)(o:ps.map (λi=>X.N[i]?)=fr.map some:=by rfl)(D:X.calm=true:=by rfl)(B:∀x,aaQ a X.env x=pure x:=by intro _;rfl)(h:∀cl C x,aaQ b (agr scope cl C X.env) x=pure x:=by intro _ _ _;rfl):ES X (.Assign [.Name y p] (.ListComp elt [⟨tg,a,ifs,0⟩,⟨f,b,e,0⟩] scope pos) d) (wSet i (Ah w own ps g tt k m l j)):=⟨DE S z v c u.h (λcl s H C ex=>(A cl s H C ex).h) (λcl s H C ex=>(E cl s H C ex).h) (λcl s H C ex=>(hi2 cl s H C ex).h) (λcl s H C ex=>(r cl s H C ex).h) (λcl s H C ex=>(n cl s H C ex).h) (λcl s H C ex=>(F cl s H C ex).h) q t o D B h⟩
end
section
variable {X:Cx}
theorem ae{a b:Expr}{c w:WE}(d:EE X a c)(h:EE X b w)(e:nG b:=by intro _ _;rfl):EE X (.Subscript a b pos) (wBin oa c w):=⟨Vz d.h h.h e⟩
end
section
variable {X:Cx}{o a b c e:Expr}{es:List Expr}{g i j k w l:WE}{h:WA}{pos f d:Pos}
theorem jo{name:Str}{id:String}{s:WM}(slot:Slot "list" name id)(r:typeOf (.builtin id)=pure (.type "method_descriptor"))(t:MtM X id (mM X.kx s))(y:EE X o g)(v:EA X (e::es) h)(p:abr o name X.env (eval o X.env)=eval o X.env:=by rfl)(q:((abk d (aac (e::es) X.env)).all (λx=>!x.1)&&(acW d (abV [] X.env)).all (λx=>x.1.isSome)
   && decide ((e::es).length+([]:List acZ).length+(if ([]:List acZ).isEmpty then 0 else 1)<30))=true:=by rfl) (n:(f.endLine==d.line)=true:=by rfl) (u:aac (e::es) X.env=(false,eval e X.env)::aac es X.env:=by first|exact aG rfl|rfl) (m:(abk d (aac es X.env)).any (·.1)=false:=by rfl):EE X (.Call (.Attribute o name f) (e::es) [] d) (wML s g h):=⟨Uz slot r t y.h v.h p q n u m⟩
def cW  : EO X none yy:=⟨Kj⟩
def cu(m:EE X e w):EO X (some e) (Sn w):=⟨KM m.h⟩
def cc{m wh:WO1}{q:Pos}(n:SlR X (sM X.kx ob))(r:EE X e w)(p:EO X lo m)(s:EO X hi wh):EE X (.Subscript e (.Slice lo hi none q) pos) (wSl ob w m wh):=⟨CF n r.h p.h s.h⟩
end
section
variable {X:Cx}{a:Expr}{es:List Expr}{w:WA}{pos p:Pos}{k n:Nat}{sp:SpM}{x:Str}
theorem mf'(F:FnM X.prog X.w X.K X.mg X.base x k n sp)(d:Room k X.A)(e:EA X (a::es) w)(c:Gl X x:=by rfl)(h:(x==("__debug__" : Str))=false:=by decide)(f:aac (a::es) X.env=(false,eval a X.env)::aac es X.env:=by first|exact aG rfl|rfl)(b:(abk pos (aac es X.env)).any (·.1)=false:=by rfl):EE X (.Call (.Name x p) (a::es) [] pos) (Bf sp w):=⟨Cw F d e.h c h f b⟩
end
section
variable {X:Cx}{tg a b c e:Expr}{es:List Expr}{g h i j w k:WE}{l:WA}{pos p d:Pos}
theorem Ls(z:EE X e w)(y:IsT T f)(r:X.mg "isinstance" = none)(t:X.mg x=none)(s:aa2 x=some (.type T))(m:Gl X "isinstance":=by rfl)(u:Gl X x:=by rfl)(v:x ≠ "__name__":=by decide)(hd:(x==("__debug__" : Str))=false:=by decide)(q:aac [e,.Name x d] X.env=(false,eval e X.env)::aac [.Name x d] X.env:=by rfl)(n:aac [.Name x d] X.env=(false,eval (.Name x d) X.env)::aac [] X.env:=by rfl)(o:(abk pos (aac [.Name x d] X.env)).any (·.1)=false:=by rfl):EE X (.Call (.Name "isinstance" p) [e,.Name x d] [] pos) (wIsT f w):=⟨S9 z.h y r t s m u v hd q n o⟩
end
theorem bf{P:aaF}{w:World}{K:aad}{base:aaW}{k:Nat}(D:DefM K mg x st ps)(S:aq N ps (ab st))(e:ps.length=n)(i:N.length=nN)(d:n≤nN)(ar:∀as a,sp as a->as.length=n)
  (h:∀(c:mT) (A:aa4) (outer:List Env) (s:AD) (H:Hp) (E:XK) (f:Addr),Room k (A.deeper (ad8 x (ab st) s.heap.objs.size f c)) ->
   ∃b,ESs (cxOf CX0 P w K mg base N x (ab st) f c A outer s H E).nox (bH st) b/\∀as a,as.length=n->sp as a->b {nx:=λm=>a (.imm .none) (m.os.take m.np),rt:=λr m=>retK a m r} (d7 nN as)) :
  FnM P w K mg base x (k+1) n sp:=UU D S e i d ar λc A outer s H E f g=>let ⟨b,h1,h2⟩:=h c A outer s H E f g;⟨b,h1.h,h2⟩
theorem Mx{P:aaF}{w:World}{K:aad}{base:aaW}{k:Nat}{f:Addr}(F:Fun K x x st f fd)(S:aq N ps (ab st))(e:ps.length=n)(i:N.length=nN)(b:n≤nN)
  (h:∀(c:mT) (A:aa4) (outer:List Env) (s:AD) (H:Hp) (E:XK) (f:Addr),Room k (A.deeper (ad8 x (ab st) s.heap.objs.size f c)) ->
   ∃a,ESs (cxOf CX0 P w K mg base N x (ab st) f c A outer s H E).nox (bH st) a/\∀as d,as.length=n->sp as d->a {nx:=λm=>d (.imm .none) (m.os.take m.np),rt:=λr m=>retK d m r} (d7 nN as)) :
  FnOk P w K mg base CX0 (k+1) f fd ps (spOf ⟨K,w⟩ n sp):=OA F S e i b λc A outer s H E f g=>let ⟨a,h1,h2⟩:=h c A outer s H E f g;⟨a,h1.h,h2⟩
end L2
namespace HT
open PySem PySem.Spec PyProof.Rows
section
variable {prog:aaF}{w:World}{A:aa4}{E:mT->AD->Prop}{s:AD}
def cut_whole{t sl:Addr}{items:Array mT}{vl v:mT}{l d:Option Int}{Q:mT->AD->Prop}(b:IsTup s.heap t items)(g:s.heap.IsSliceOf sl vl v .none)(pl:afY vl l)(p:afY v d)
  (i:sIx items.size 0 l=0/\sIx items.size items.size d=items.size) (h:Q (.ref t) s):wpAny (model prog w) A (aev (.ref t) (.ref sl)) Q E s:=by
 let⟨os,c,e,j⟩:=id g;have f:s.TypeIs (.ref sl) "slice":=⟨os,c,e⟩;unfold aev
 try with_reducible refine abZ ?_
 refine gT (afm b.typeIs (by decide) (gT (aa0 (name:=acj "__getitem__") b.typeIs abl (abc abl b.typeIs entry_tuple_getitem ?_ (args_tuple_getitem _ _)))));show wpAny _ _ (adp (.ref t) >>= _) _ _ s;refine gT (agM b (gT (acY f ?_)));rw[if_pos (by decide)];refine gT (ga g pl p ?_);have a:(((sIx items.size 0 l:Nat):Int)==0&&(1:Int)==1&&(sIx items.size items.size d-sIx items.size 0 l)==items.size)=true:=by
  rw[i.1,i.2];simp
 show wpAny _ _ (if _=true then _ else _) _ _ s;rw[if_pos a];refine gT ?_;unfold ae4;refine gT (acY b.typeIs (Io ?_));rw[if_pos (by rfl)];exact gT (abI (Io ⟨_,rfl,Io h⟩))
end
end HT
namespace L2
open PySem PySem.Spec PyProof.Rows
variable{hi lo:Option Int}{Kr:R->Prop}{ds es:List aD}{K:R->MSt->Prop}{X:Cx}{pins:List (Addr×Obj)}{σ:St}{H:Hp}{h h':aaW}{t t1 t2:Bool}{a b i1 i2 it l l1 l2 z:Addr}{i n:Nat}{items its xs ys:Array mT}{α:Type}{Q:mT->AD->Prop}{f:mT}{elts:List Expr}
section
variable {X:Cx}
def oCut:R->Option Int->Option Int->MSt->(R->Prop)->Prop:=λr lo hi m K=>(∃ds,lsOf m r=some ds/\K (.new (cutD ds lo hi)))\/∃ds,r = .imm (.tuple ds)/\K (.imm (.tuple (cutD ds lo hi)))
theorem di:SlR X (sM X.kx oCut):=by
 intro pins s d H x v vl C lo hi D Q I A u w q E;obtain⟨α,m,σ,F,r,G,R,h,k|⟨ds,rfl,k⟩,c⟩:=E
 .exact CC pins s d H x v vl C lo hi D Q I A u w q ⟨α,m,σ,F,r,G,R,h,k,c⟩
 .obtain⟨a,xs,rfl,f,g⟩:=bQ (h)
  by_cases o:HT.sIx xs.length 0 lo=0/\HT.sIx xs.length xs.length hi=xs.length
  .cases A;let⟨its,J,B,L⟩:=I.tuple f;have j:its.toArray.size=xs.length:=by rw[aaJ];exact J.length.symm
   refine⟨"tuple",_,abl.lookup,B.typeIs,?_⟩;refine HT.cut_whole B u w q (by rw[j];exact o) ⟨.ref a,H,I,rfl,c _ _ H k R (oT (e8 f ?_)) (Frm.refl _ _)⟩;have e:cutD ds lo hi=ds:=by
    unfold cutD;rw[g.length,o.1,o.2,List.drop_zero,Nat.sub_zero,<-g.length,aau]
   rw[e];exact g
  .exact TX pins s d H _ v vl C lo hi D Q I A u w q ⟨a,xs,rfl,f,o,λp y=>c _ _ _ k (R.lay y) (oT (e8 (SqT.of ay) ((Bt g lo hi).mono (bm (.inl y))))) (cC y)⟩
def Mi{m:MSt}{r:R}(e:lsOf m r=some ds)(h:Kr (.new (cutD ds lo hi))):oCut r lo hi m Kr:=.inl ⟨ds,e,h⟩
def QO{m:MSt}(h:Kr (.imm (.tuple (cutD ds lo hi)))):oCut (.imm (.tuple ds)) lo hi m Kr:=.inr ⟨ds,rfl,h⟩
def uq(n:Nat):cutD ds none (some (n:Int))=ds.take n:=by
 unfold cutD;rw[HT.sIx_none,HT.sIx_nat];simp
theorem jc(n:Nat):cutD ds (some (n:Int)) none=ds.drop n:=by
 unfold cutD;rw[HT.sIx_none,HT.sIx_nat]
 by_cases h:n≤ds.length
 .rw[Nat.min_eq_left h];exact ac3 (by simp)
 .rw[Nat.min_eq_right (by omega),List.drop_length,List.drop_eq_nil_of_le (by omega),List.take_nil]
def oIn(c:Bool):WO:=λr1 r m K=>∃d ds,asD m r1=some d/\(asD m r=some (.list ds)\/asD m r=some (.tuple ds))/\d.canLay0=true/\abt ds=true/\d.depth≤60/\K (.imm (.bool (if c then !ds.any (λy=>aag y d)else ds.any λy=>aag y d)))
theorem Pc(J:X.A.units+64<cLine):OpR X (abh .In) (rM X.kx (oIn false)):=by
 intro pins s j H x y v u Q I C w ⟨α,m,σ,E,G,r1,M,F,R,B,p,⟨d,ds,A,e,k,g,dp,D⟩,o⟩;let⟨L,q⟩:=B.reads I R C A (aa5 _ k);have c:EP X pins j Q (.bool (ds.any λy=>aag y d)) s:=⟨.bl _,H,I,rfl,o _ _ H D R (lW _) (Frm.refl _ _)⟩;have r:X.A.units+1+min (aax ds) d.depth<cLine:=by have:=acf (aax ds) d.depth;omega
 rcases e with e|e
 .obtain⟨bs,q2⟩:=p.reads I R w e (by simp only[ab4];exact abp _ g);exact SeqAt.in_list_reads q2 q g k r c
 .obtain⟨bs,q2⟩:=p.reads I R w e (by simp only[ab4];exact abp _ g);exact SeqAt.in_tuple_reads q2 q g k r c
theorem jj(J:X.A.units+64<cLine):OpR X (abh .NotIn) (rM X.kx (oIn true)):=by
 intro pins s j H x y v u Q I C w ⟨α,m,σ,E,G,r1,M,F,R,B,p,⟨d,ds,A,e,k,g,dp,D⟩,o⟩;let⟨L,q⟩:=B.reads I R C A (aa5 _ k);have c:EP X pins j Q _ s:=⟨.bl _,H,I,rfl,o _ _ H D R (lW _) (Frm.refl _ _)⟩;have r:X.A.units+1+min (aax ds) d.depth<cLine:=by have:=acf (aax ds) d.depth;omega
 rcases e with e|e
 .obtain⟨bs,q2⟩:=p.reads I R w e (by simp[ab4];exact abp _ g);exact SeqAt.notIn_list_reads q2 q g k r c
 .obtain⟨bs,q2⟩:=p.reads I R w e (by simp only[ab4];exact abp _ g);exact SeqAt.notIn_tuple_reads q2 q g k r c
def x_in{m:MSt}{r1 r2:R}{c:Bool}{d:aD}{k k':Nat}(e:asD m r1=some d)(g:asD m r2=some (.list ds)\/asD m r2=some (.tuple ds))(s1:Shp k d)(s2:∀y∈ds,Shp k' y)(hk:k≤60)(h:Kr (.imm (.bool (if c then !ds.any (λy=>aag y d)else ds.any λy=>aag y d)))):oIn c r1 r2 m Kr:=
 ⟨d,ds,e,g,s1.cl,(jX s2).1,aas s1.dp hk,h⟩
abbrev oMax:WC:=λrs _ K=>match rs with|[.imm (.int i),.imm (.int j)]=>K (.imm (.int (if j>i then j else i)))|_=>False
theorem yG(o:X.calm=true):dM X (.builtin "max") (cM X.kx oMax):=by
 intro pins s c H xs u Q I r ⟨α,m,σ,p,rs,q,R,h,e,d⟩
 match rs,h,e with
 |[.imm (.int i),.imm (.int j)],.cons h1 (.cons h2 .nil),e=>
  have k:=aF (show Den X.kx H (.int i) _ from h1);have g:=aF (show Den X.kx H (.int j) _ from h2);subst k g;exact zJ o pins s c H _ u Q I r ⟨i,j,rfl,d _ _ H e R (dI _) (Frm.refl _ _)⟩
def UI(P:List aD->Prop):R->Prop
 | .new ds=>P ds
 |_=>False
def BV:WM:=λr rs m K=>F9 (λk=>on1 (UI λes=>∃ds,m.os[k]?=some ds/\ds.length+es.length≤aai/\K (.imm .none) {m with os:=m.os.set k (ds++es)}) rs) r
theorem jP:MtM X "list.extend" (mM X.kx BV):=by
 intro pins s d H x xs v u Q I E C ⟨α,m,σ,M,O,r,rs,N,R,D,e,c,j⟩;let⟨k,a,rfl,p,rfl,c⟩:=GN D c;let⟨J,L,rfl,rfl,e,c⟩:=ef e c
 cases J with
 |imm _=>exact c.elim
 |obj _=>exact c.elim
 | «at» _ _=>exact c.elim
 |newT _=>exact c.elim
 |new es=>
  let⟨ds,B,A,c⟩:=c;let⟨b,y,rfl,G,w,o⟩:=e;let⟨ys,q,g⟩:=R.own _ _ ds p B;let⟨R2,F⟩:=R.setO p q (g.append o);exact Ba pins s d H _ _ v u Q I E C ⟨a,b,ys,y,rfl,rfl,q,w,by rw[<-g.length,<-o.length];exact A,j _ _ _ _ c rfl R2 vZ F⟩
def qF{m:MSt}{k:Nat}(e:m.os[k]?=some ds)(c:ds.length+es.length≤aai)(h:K (.imm .none) {m with os:=m.os.set k (ds++es)}):BV (.obj k) [.new es] m K:=⟨ds,e,c,h⟩
def GY:WM:=λr rs m K=>on1 (i6 λd=>∃ds j,lsOf m r=some ds/\d.canLay0=true/\abt ds=true/\d.depth≤60/\(∃y,ds[j]?=some y/\aag y d=true)/\(∀(i:Nat) y,i<j->ds[i]?=some y->aag y d=false)/\K (.imm (.int (j:Nat))) m) rs
theorem BA(hu:X.A.units+64<cLine):MtM X "list.index" (mM X.kx GY):=by
 intro pins s W H x xs v us Q I rx rv ⟨α,m,σ,H0,H1,r,rs,Kc,R,h1,D,C,G⟩;let⟨r2,v2,rfl,rfl,D,C⟩:=ef D C;let⟨d,rfl,hd,ds,j,el,N,L,dp,⟨y,S,eq⟩,J,C⟩:=fq D C;let⟨a,zs,rfl,f,g⟩:=h1.list R el;cases rx;let⟨u,rfl,ru⟩:=rv.one;let⟨bs,V⟩:=Den.reads I (aa5 _ N) hd ru;let⟨its,q,pl,hz⟩:=I.list f;let⟨o,n,A,U,k⟩:=pl;let⟨as,B⟩:=DenAll.reads I (abp _ L) g q;have hm:X.A.units+1+min (aax ds) d.depth<cLine:=by have:=acf (aax ds) d.depth;omega
 have p:=agU ds _ _ L B;have T:its.length=ds.length:=by rw[<-p,iO]
 have P:j<its.length:=by rw[T];exact(Ad.mp S).1
 have O:∀(i:Nat) (hi:i<its.length) y,ds[i]?=some y->ac4 s.heap its[i]=y:=λi hi y e=>by
  rw[<-p,aah,lD hi]at e;exact aaB e
 let⟨Y,Z,M,sl⟩:=o;let⟨k,c⟩:=k;dsimp only at U c;subst U;subst c;have F:(j:Int)<2^63-1:=by
  have E:=hz;rw[aae]at E;have:=q.length;omega
 refine ad0 afI ⟨_,A,rfl⟩ PySem.F.entry_list_index (PySem.F.args_list_index_2 _ _)
  (SeqAt.list_indexAt a its.toArray _ Z sl u (λy=>aag (ac4 s.heap y) d) j (by simpa using P) F ?_ ?_) ⟨A,ahi (by simpa using B) V L N hm,?_⟩
 .show aag (ac4 s.heap its[j]) d=true;rw[O j P y S];exact eq
 .intro i hi hlt;have w:i<its.length:=by simpa using hi
  show aag (ac4 s.heap its[i]) d=false;have hi2:i<ds.length:=by rw[<-T];exact w
  rw[O i w _ (lD hi2)];exact J i _ hlt (lD hi2)
 .exact⟨.int (j:Nat),H,I.tok _,⟨_,rfl⟩,G _ _ _ H C rfl R (dI _) (Frm.refl _ _)⟩
def Jg{m:MSt}{r:R}{d y:aD}{j k k':Nat}(e:lsOf m r=some ds)(s1:Shp k d)(s2:∀y∈ds,Shp k' y)(hk:k≤60)(g:ds[j]?=some y)(eq:aag y d=true)(c:∀(i:Nat) y,i<j->ds[i]?=some y->aag y d=false)(h:K (.imm (.int (j:Nat))) m):GY r [.imm d] m K:=
 ⟨ds,j,e,s1.cl,(jX s2).1,aas s1.dp hk,⟨y,g,eq⟩,c,h⟩
end
theorem Inv.turneds{s:AD}{t':Nat}{ch:List Addr}(I:Inv X pins σ H s)(k:∀b o,b∉ch->s.heap.get? b=some o->h'.get? b=some o)(j:∀b∈ch,FpOk X pins H b):Inv X pins σ H {s with heap:=h',toks:=t' }:=by
 have g:∀b u,H b=some u->b∉ch:=λb u e z=>by have:=(j b z).1;grind
 have x:=λz=>(j _ z).2.1 rfl;refine I.step (g':=s.gens) (d':=s.drawn) (λb w=>?_) (λb o _ _ d e _=>k b o d e) (λb o _ _ d e _=>⟨o.slots,k b o d e⟩) (λ_ _ _ _ n=>n)
  (λb o d e=>⟨o,k b o d e⟩) (λ_ _ e=>e) (λ_ _ _ e=>e) (λb y e=>⟨#[],by rw[e];simp⟩) (λm p=>?_) (λb u e=>?_) I.bare
 .obtain⟨_,f1,_,f3,f4,f5⟩:=j b w;exact⟨f3,f1,f4,f5⟩
 .obtain⟨o,es,ep,ho,r⟩:=p;exact⟨o,es,ep,k _ o x ho,r⟩
 .refine(I.hok b u e).stay (λc v d q=>k c v ?_ q) (λ_ q=>q) λ_ _ q=>q;rcases d with z|z
  .rw[z];exact g b u e
  .exact g c _ z
def SubI(t:Bool)(h:aaW)(i l:Addr)(k:Nat):Prop:=if t then h.IsTupleIter i l k else h.IsListIter i l k
def SubS(t:Bool)(h:aaW)(l:Addr)(its:Array mT):Prop:=if t then h.IsTuple l its else h.IsList l its
def SubI.ext{i:Addr}{k:Nat}(x:SubI t h i l k)(e:ags b h h')(n:i≠b):SubI t h' i l k:=by
 cases t
 .exact aaW.IsListIter.extBut (x) e n
 .exact aaW.IsTupleIter.extBut (x) e n
def SubI.obj{i:Addr}{k:Nat}(x:SubI t h i l k):∃o vs,h.get? i=some o/\o.data = .fields vs:=by
 cases t
 .obtain⟨o,e,_,d⟩:=(x);exact⟨o,_,e,d⟩
 .obtain⟨o,e,_,d⟩:=(x);exact⟨o,_,e,d⟩
def SubI.keep{i:Addr}{k:Nat}(x:SubI t h i l k)(e:∀o,h.get? i=some o->h'.get? i=some o):SubI t h' i l k:=by
 cases t
 .obtain⟨o,q,r⟩:=(x);exact⟨o,e o q,r⟩
 .obtain⟨o,q,r⟩:=(x);exact⟨o,e o q,r⟩
def SubS.keep(x:SubS t h l its)(e:∀o,h.get? l=some o->h'.get? l=some o):SubS t h' l its:=by
 cases t
 .obtain⟨o,q,r⟩:=(x);exact⟨o,e o q,r⟩
 .obtain⟨o,q,r⟩:=(x);exact⟨o,e o q,r⟩
def SubS.ext(x:SubS t h l its)(e:ags b h h')(n:l≠b):SubS t h' l its:=x.keep λo q=>e l o n q
section
variable {prog:aaF}{w:World}{A:aa4}{E:mT->AD->Prop}{s:AD}
theorem qV{Q:α->AD->Prop}(c:A.handled=none)(h:∀h' e,(∀b o,s.heap.get? b=some o->h'.get? b=some o)->(∃o,h'.get? e=some o/\o.cls = .type "StopIteration")->E (.ref e) {s with heap:=h' }) :
  wpAny (model prog w) A (do raiseNew (<- newExc (.type "StopIteration") []):Sem α) Q E s:=by
 refine gT ?_;refine gT ?_;refine abe ?_ (by size_fits);refine gT (wpAny_of_eq (a:=afR) (by rfl) (abe ?_ (by size_fits)));refine gT (m:=handled) (wpAny_handled ?_);rw[c];refine gT (Io (wpAny_throw (h _ _ (λb o q=>Ld _ (Ld _ q)) ⟨_,aan _ rfl,rfl⟩)))
def Vh(c:s.heap.IsTupleIter it l i)(h:Q (.ref l) s):wpAny (model prog w) A (field (.ref it) 0) Q E s:=let ⟨_,ho,_,hd⟩:=c;abD ho hd (x:=.ref l) rfl h
def U3(c:s.heap.IsTupleIter it l i)(h:Q (.int i 0) s):wpAny (model prog w) A (field (.ref it) 1) Q E s:=let ⟨_,ho,_,hd⟩:=c;abD ho hd (x:=.int i 0) rfl h
def UT{Q:Option (Array mT)->AD->Prop}(c:s.heap.IsTuple l items)(h:Q (some items) s):wpAny (model prog w) A (seqItems? (.ref l)) Q E s:=let ⟨_,ho,_,_,hd⟩:=c;acE ho hd h
theorem vz{Q:Option mT->AD->Prop}(c:s.heap.IsTupleIter it l i)(u:s.heap.IsTuple l items)
  (p:∀x,items[i]?=some x->∀h',h'.IsTupleIter it l (i+1)->ab2 it s.heap h'->Q (some x) {s with heap:=h' })
  (d:items[i]?=none->A.handled=none/\∀h' e,ags it s.heap h'->(∃o,h'.get? e=some o/\o.cls = .type "StopIteration")->E (.ref e) {s with heap:=h' }) :
  wpAny (model prog w) A (callSpecial? (.ref it) "__next__" []) Q E s:=by
 refine aa0 (name:=acj "__next__") c.typeIs ae5 (abc ae5 c.typeIs F.entry_tuple_iterator_next ?_ (F.args_tuple_iterator_next_1 _))
 wp_walk using Vh c,U3 c,UT u
 rcases id c with⟨o,g,v,hd⟩;rw[aa8]
 cases q:items[i]? with
 | some x=>
  have new:(s.heap.update it (Obj.mapFields (·.setIfInBounds 1 (ae6 ((i:Int)+1))))).IsTupleIter it l (i+1):=by
   refine⟨_,adg _ g (Obj.isFreed_of_fields (agW hd _)),?_,?_⟩
   .exact(Obj.cls_mapFields ..).trans v
   .rw[agW hd];simp[ae6]
  exact gT (m:=adL (.ref it) 1 _) (wpAny_setField g hd (by simp) (Io ⟨x,rfl,p x q _ new (agD ..)⟩))
 |none=>
  let⟨r,d⟩:=d q;refine gT (m:=rule _) (abI (gT (m:=adL (.ref it) 0 _) (wpAny_setField g hd (by simp) ?_)));exact qV (A:=A.in1) r λh' e k x=>d h' e (λb j nb z=>k b j ((agD ..).extBut b j nb z)) x
theorem qE{x:mT}(c:SubI t s.heap it l i)(g:SubS t s.heap l items)(d:items[i]?=some x)
  (k:∀h',SubI t h' it l (i+1)->ab2 it s.heap h'->Q x {s with heap:=h' }):wpAny (model prog w) A (abH (.ref it)) Q E s:=by
 cases t with
 |false=>exact wpAny_nextOf_list_item (c) (g) d k
 |true=>exact gT (vz (c) (g) (λy e h' a b=>by rw[d]at e;cases e;exact Io (k h' a b)) λj=>by rw[d]at j;cases j)
theorem AH(m:A.handled=none)(c:SubI t s.heap it l i)(k:SubS t s.heap l items)(d:items[i]?=none)
  (j:∀h' e,ags it s.heap h'->(∃o,h'.get? e=some o/\o.cls = .type "StopIteration")->E (.ref e) {s with heap:=h' }):wpAny (model prog w) A (abH (.ref it)) Q E s:=by
 cases t with
 |false=>exact wpAny_nextOf_list_end m (c) (k) d j
 |true=>exact gT (vz (c) (k) (λy g=>by rw[d]at g;cases g) λ_=>⟨m,j⟩)
structure Apart(z TI TO i1 i2 l1 l2:Addr):Prop where
 d:[z,TI,TO,i1,i2].Nodup
 m1:l1∉[z,TI,TO,i1,i2]
 m2:l2∉[z,TI,TO,i1,i2]
def Apart.old{TI TO:Addr}(D:Apart z TI TO i1 i2 l1 l2):ZipApart z TI TO i1 i2 l1 l2:=by
 let⟨d,m1,m2⟩:=D;simp at d m1 m2;let⟨⟨a1,a2,c,e⟩,⟨b1,b2,g⟩,⟨k,j⟩,d1⟩:=d;exact⟨ab1 a1,ab1 a2,ab1 c,ab1 e,b1,b2,g,k,j,d1,m1.1,m1.2.2.1,m1.2.2.2.1,m1.2.2.2.2,m2.1,m2.2.2.1,m2.2.2.2.1,m2.2.2.2.2⟩
structure Gh(t1 t2:Bool)(z TI TO i1 i2 l1 l2:Addr)(k:Nat)(h:aaW):Prop where
 z:IsZip h z TI TO .none
 ti:afy h TI (.ref i1) (.ref i2)
 to:∃a b,afy h TO a b
 s1:SubI t1 h i1 l1 k
 s2:SubI t2 h i2 l2 k
def zf0{TI TO:Addr}(c:IsZip s.heap z TI TO f)(h:Q f s):wpAny (model prog w) A (field (.ref z) 0) Q E s:=abD c rfl (x:=f) rfl h
def zf2{TI TO:Addr}(c:IsZip s.heap z TI TO f)(h:Q (.bool false) s):wpAny (model prog w) A (field (.ref z) 2) Q E s:=abD c rfl (x:=.bool false) rfl h
def zf3{TI TO:Addr}(c:IsZip s.heap z TI TO f)(h:Q (.ref TI) s):wpAny (model prog w) A (field (.ref z) 3) Q E s:=abD c rfl (x:=.ref TI) rfl h
theorem GG{TI TO:Addr}{k:Nat}{x y:mT}{Q:Option mT->AD->Prop}(D0:Apart z TI TO i1 i2 l1 l2)(Z:Gh t1 t2 z TI TO i1 i2 l1 l2 k s.heap)
  (hl1:SubS t1 s.heap l1 xs) (hl2:SubS t2 s.heap l2 ys) (hx:xs[k]?=some x) (hy:ys[k]?=some y)
  (hQ:∀h',IsZip h' z TI TO (ae6 s.heap.objs.size)->afy h' TO x y->SubI t1 h' i1 l1 (k+1)->SubI t2 h' i2 l2 (k+1)->afy h' s.heap.objs.size x y->h'.objs.size=s.heap.objs.size+1 ->
   (∀c o,c∉[z,TO,i1,i2]->s.heap.get? c=some o->h'.get? c=some o)->Q (some (.ref s.heap.objs.size)) {s with heap:=h' }):wpAny (model prog w) A (acU (.ref z)) Q E s:=by
 have D:=D0.old;let⟨I,hTI,⟨a,b,T⟩,h1,h2⟩:=Z;have hT:s.TypeIs (.ref z) "zip":=(⟨_,I,rfl⟩);unfold acU;refine gT (add (aa0 (name:=acj "__next__") hT aeL (abc aeL hT F.entry_zip_next ?_ (F.args_zip_next_1 _))));refine gT (m:=field (.ref z) 2) (zf2 I (gT (m:=field (.ref z) 3) (zf3 I (gT (acE hTI rfl ?_)))));refine gT (m:=adM (.ref z)) (gT (m:=field (.ref z) 0) (zf0 I (Io ?_)));simp only[if_true];refine gT (abI (gT (abD I rfl (x:=.ref TO) rfl (gT (aaY I (by simp) λg1 B s1=>?_)))));replace B:IsZip g1 z TI TO .ellipsis:=B;refine gT ?_;simp only[aeJ,List.forIn_nil,ahj,List.zipIdx_nil];refine gT (gT (afz (gT (m:=abH (.ref i1)) ?_)));refine(qE (h1.ext s1.extBut D.i1z) (hl1.ext s1.extBut D.l1z) hx λg2 n1 s2=>Io ?_);have u:afy g2 TO a b:=s2.extBut _ _ D.TOi1 (s1.extBut _ _ D.TOz T);refine gT (acE u rfl (gT (aeC u λg3 j G=>?_)));replace j:afy g3 TO x b:=j;refine gT (afp (Io (gT (gT (afz ?_)))));refine gT (m:=abH (.ref i2)) (qE (((h2.ext s1.extBut D.i2z).ext s2.extBut D.i12.symm).ext G.extBut D.TOi2.symm) (((hl2.ext s1.extBut D.l2z).ext s2.extBut D.l2i1).ext G.extBut D.l2TO) hy λg4 n2 R=>Io ?_);have v:afy g4 TO x b:=R.extBut _ _ D.TOi2 j;refine gT (acE v rfl (gT (aeC v λg d M=>?_)));replace d:afy g TO x y:=d;refine gT (afp (Io (Io (gT (acE d rfl (gT (agt ?_)))))));have P:g.objs.size=s.heap.objs.size:=by rw[M.1,R.1,G.1,s2.1,s1.1]
 have N:IsZip g z TI TO .ellipsis:=M.extBut _ _ D.TOz.symm (R.extBut _ _ D.i2z.symm (G.extBut _ _ D.TOz.symm (s2.extBut _ _ D.i1z.symm B)));have k5:∀c o,c∉[z,TO,i1,i2]->s.heap.get? c=some o->g.get? c=some o:=λc o r e=>by
  simp only[aaf,abd,not_or,or_false]at r;exact M.extBut _ _ r.2.1 (R.extBut _ _ r.2.2.2 (G.extBut _ _ r.2.1 (s2.extBut _ _ r.2.2.1 (s1.extBut _ _ r.1 e))))
 have n15:SubI t1 g i1 l1 (k+1):=((n1.ext G.extBut D.TOi1.symm).ext R.extBut D.i12).ext M.extBut D.TOi1.symm;have W:SubI t2 g i2 l2 (k+1):=n2.ext M.extBut D.TOi2.symm;have L:z<g.objs.size:=aao N;refine gT (m:=acI.SmallTypes.ownedTupleHandOut (.ref z) (.ref g.objs.size)) ?_;have S:IsZip (g.push {cls:=.type "tuple",data:=.seq #[x,y]}) z TI TO .ellipsis:=Ld _ N;refine gT (m:=adL (.ref z) 0 _) (aaY S (by simp) λg7 C U=>?_);replace C:IsZip g7 z TI TO (ae6 g.objs.size):=C;refine aaY C (by simp) λJ p V=>?_;replace p:IsZip J z TI TO (ae6 g.objs.size):=p;have up:∀c o,c≠z->g.get? c=some o->J.get? c=some o:=λc o c1 e=>V.extBut _ _ c1 (U.extBut _ _ c1 (Ld _ e));have O:afy J g.objs.size x y:=V.extBut _ _ (abv L) (U.extBut _ _ (abv L) (aan _ rfl));have z8:J.objs.size=g.objs.size+1:=by rw[V.1,U.1,abC]
 rw[P]at p O z8;have Y:wpAny (model prog w) A (pure (some (abi g.objs.size))) Q E {s with heap:=J}:=by
  rw[P];exact Io (hQ J p (up _ _ D.TOz d) (n15.keep λo e=>up _ o D.i1z e) (W.keep λo e=>up _ o D.i2z e) O z8 λc o r e=>up c o (λq=>r (by simp[q])) (k5 c o r e))
 exact Io ⟨_,rfl,Y⟩
theorem JQ{TI TO:Addr}{k:Nat}{Q:Option mT->AD->Prop}(W:A.handled=none)(D0:Apart z TI TO i1 i2 l1 l2)(Z:Gh t1 t2 z TI TO i1 i2 l1 l2 k s.heap)
  (J:SubS t1 s.heap l1 xs) (S:SubS t2 s.heap l2 ys) (L:xs[k]?=none\/ys[k]?=none)
  (hQ:∀h',(∀c o,c∉[z,TO,i1,i2]->s.heap.get? c=some o->h'.get? c=some o)->Q none {s with heap:=h' }):wpAny (model prog w) A (acU (.ref z)) Q E s:=by
 have D:=D0.old;let⟨y,U,⟨a,b,P⟩,h1,h2⟩:=Z;have Y:s.TypeIs (.ref z) "zip":=(⟨_,y,rfl⟩);have out:∀{c:Addr},c∉[z,TO,i1,i2]->c≠z/\c≠TO/\c≠i1/\c≠i2:=λv=>by simpa only[aaf,abd,not_or,or_false]using v
 have I:∀h' e,(∀c o,c∉[z,TO,i1,i2]->s.heap.get? c=some o->h'.get? c=some o)->(∃o,h'.get? e=some o/\o.cls = .type "StopIteration") ->
   wpAny (model prog w) A (do if <- isInstance (.ref e) (.type "StopIteration")then pure none else throw (.ref e):Sem (Option mT)) Q E {s with heap:=h' }:=λh' e hk ⟨o,ho,v⟩=>
  gT (adu (T:= "StopIteration") (b:=true) ⟨o,ho,v⟩ agu (Io (hQ _ hk)))
 unfold acU;refine gT (add (aa0 (name:=acj "__next__") Y aeL (abc aeL Y F.entry_zip_next ?_ (F.args_zip_next_1 _))));refine gT (m:=field (.ref z) 2) (zf2 y (gT (m:=field (.ref z) 3) (zf3 y (gT (acE U rfl ?_)))));refine gT (m:=adM (.ref z)) (gT (m:=field (.ref z) 0) (zf0 y (Io ?_)));simp only[if_true];refine gT (abI (gT (abD y rfl (x:=.ref TO) rfl (gT (aaY y (by simp) λg1 j s1=>?_)))));replace j:IsZip g1 z TI TO .ellipsis:=j;refine gT ?_;simp only[aeJ,List.forIn_nil,ahj,List.zipIdx_nil];refine gT (gT (afz (gT (m:=abH (.ref i1)) ?_)))
 cases hx:xs[k]? with
 |none=>
  refine(AH W (h1.ext s1.extBut D.i1z) (J.ext s1.extBut D.l1z) hx λN e s2 R=>?_);let⟨M,d,g⟩:=R;have B:IsZip N z TI TO .ellipsis:=s2 _ _ D.i1z.symm j;have u:e≠z:=λq=>by subst q;rw[B]at d;cases d;simp at g
  refine aaY B (by simp) λg3 _ r=>I g3 e (λc o v q=>?_) ⟨M,r.extBut _ _ u d,g⟩;let⟨C,_,O,_⟩:=out v;exact r.extBut _ _ C (s2 _ _ O (s1.extBut _ _ C q))
 |some x=>
  have hy:ys[k]?=none:=by rcases L with q|q;rw[hx]at q;cases q;exact q
  refine(qE (h1.ext s1.extBut D.i1z) (J.ext s1.extBut D.l1z) hx λN n1 s2=>Io ?_);have p:afy N TO a b:=s2.extBut _ _ D.TOi1 (s1.extBut _ _ D.TOz P);refine gT (acE p rfl (gT (aeC p λg3 hTO3 r=>?_)));refine gT (afp (Io (gT (gT (afz ?_)))));refine gT (m:=abH (.ref i2)) (AH W (((h2.ext s1.extBut D.i2z).ext s2.extBut D.i12.symm).ext r.extBut D.TOi2.symm) (((S.ext s1.extBut D.l2z).ext s2.extBut D.l2i1).ext r.extBut D.l2TO) hy λg4 e s4 R=>?_);let⟨M,d,g⟩:=R;have G:IsZip g4 z TI TO .ellipsis:=s4 _ _ D.i2z.symm (r.extBut _ _ D.TOz.symm (s2.extBut _ _ D.i1z.symm j));have u:e≠z:=λq=>by subst q;rw[G]at d;cases d;simp at g
  refine aaY G (by simp) λg5 _ V=>I g5 e (λc o v q=>?_) ⟨M,V.extBut _ _ u d,g⟩;let⟨C,c2,O,c4⟩:=out v;exact V.extBut _ _ C (s4 _ _ c4 (r.extBut _ _ c2 (s2.extBut _ _ O (s1.extBut _ _ C q))))
end
def zit(t:Bool):String:=if t then "tuple_iterator" else "list_iterator"
abbrev itO(t:Bool)(l:Addr):Obj:={cls:=.type (zit t),data:=.fields #[.ref l,.int 0 0]}
abbrev zA(t1:Bool)(h:aaW)(l1:Addr):aaW:=h.push (itO t1 l1)
abbrev zB(t1 t2:Bool)(h:aaW)(l1 l2:Addr):aaW:=(zA t1 h l1).push (itO t2 l2)
abbrev zC(t1 t2:Bool)(h:aaW)(l1 l2:Addr):aaW:=(zB t1 t2 h l1 l2).push {cls:=.type "tuple",data:=.seq #[.ref h.objs.size,.ref (zA t1 h l1).objs.size]}
abbrev zD(t1 t2:Bool)(h:aaW)(l1 l2:Addr):aaW:=(zC t1 t2 h l1 l2).push {cls:=.type "tuple",data:=.seq #[.none,.none]}
abbrev zE(t1 t2:Bool)(h:aaW)(l1 l2:Addr):aaW:=(zD t1 t2 h l1 l2).push {cls:=.type "zip",data:=.fields #[.none,.bool false,.bool false,.ref (zB t1 t2 h l1 l2).objs.size,.ref (zC t1 t2 h l1 l2).objs.size]}
def jO{prog:aaF}{w:World}{A:aa4}{E:mT->AD->Prop}{s:AD}(h:SubS t s.heap l its)
  (c:Q (.ref s.heap.objs.size) {s with heap:=s.heap.push (itO t l)}):wpAny (model prog w) A (afU (.ref l)) Q E s:=by
 cases t
 .exact wpAny_pyIter_list (h) c
 .exact wpAny_pyIter_tuple (h) c
theorem L9(t1 t2:Bool)(l1 l2:Addr)(xs ys:Array mT) :
  Meets (acI.«zip.__new__» ⟨[.type "zip",.ref l1,.ref l2],[]⟩) (λ_ R s=>SubS t1 s.heap l1 xs/\SubS t2 s.heap l2 ys/\R (.ok (.ret (.ref (zD t1 t2 s.heap l1 l2).objs.size))) {s with heap:=zE t1 t2 s.heap l1 l2}):=
 .of_wp λprog w A R s h=>by
  rcases s with⟨q,g,d,r,os⟩;rcases h with⟨c,j,h⟩;have p:=sub_zip;have k:=c;have m:SubS t2 (Shared.heap ⟨q.push (itO t1 l1),g,d,r,os⟩) l2 ys:=j.keep λo e=>Ld _ e
  wp_walk using jO k,jO m
  exact⟨_,rfl,h⟩
section
variable {prog:aaF}{w:World}{A:aa4}{E:mT->AD->Prop}{s:AD}
theorem CG(r:SubS t1 s.heap l1 xs)(q:SubS t2 s.heap l2 ys)
  (h:∀h',Gh t1 t2 (s.heap.objs.size+4) (s.heap.objs.size+2) (s.heap.objs.size+3) s.heap.objs.size (s.heap.objs.size+1) l1 l2 0 h'->(∀c o,s.heap.get? c=some o->h'.get? c=some o)->Q (.ref (s.heap.objs.size+4)) {s with heap:=h' }):wpAny (model prog w) A (call (.type "zip") [.ref l1,.ref l2]) Q E s:=by
 refine callType_new F.called_zip (by decide) (F.typeCall_zip_2 _ _) (F.newCall_zip_2 _ _) (λobj=>F.args_object_init_3 obj _ _) F.entry_zip_new (L9 t1 t2 l1 l2 xs ys) ⟨r,q,?_⟩;have m:(zA t1 s.heap l1).objs.size=s.heap.objs.size+1:=abC ..;have p:(zB t1 t2 s.heap l1 l2).objs.size=s.heap.objs.size+2:=by rw[abC,m]
 have v:(zC t1 t2 s.heap l1 l2).objs.size=s.heap.objs.size+3:=by rw[abC,p]
 have B:(zD t1 t2 s.heap l1 l2).objs.size=s.heap.objs.size+4:=by rw[abC,v]
 have u:∀c o,(zD t1 t2 s.heap l1 l2).get? c=some o->(zE t1 t2 s.heap l1 l2).get? c=some o:=λc o e=>Ld _ e;have g:∀c o,(zC t1 t2 s.heap l1 l2).get? c=some o->(zE t1 t2 s.heap l1 l2).get? c=some o:=λc o e=>u c o (Ld _ e);have k:∀c o,(zB t1 t2 s.heap l1 l2).get? c=some o->(zE t1 t2 s.heap l1 l2).get? c=some o:=λc o e=>g c o (Ld _ e);have d:∀c o,(zA t1 s.heap l1).get? c=some o->(zE t1 t2 s.heap l1 l2).get? c=some o:=λc o e=>k c o (Ld _ e);have y:(zE t1 t2 s.heap l1 l2).get? (s.heap.objs.size+4)=some {cls:=.type "zip",data:=.fields #[.none,.bool false,.bool false,.ref (s.heap.objs.size+2),.ref (s.heap.objs.size+3)]}:=by
  rw[<-B,<-v,<-p];exact aan _ rfl
 have C:(zE t1 t2 s.heap l1 l2).get? (s.heap.objs.size+3)=some {cls:=.type "tuple",data:=.seq #[.none,.none]}:=by
  rw[<-v];exact u _ _ (aan _ rfl)
 have G:(zE t1 t2 s.heap l1 l2).get? (s.heap.objs.size+2)=some {cls:=.type "tuple",data:=.seq #[.ref s.heap.objs.size,.ref (s.heap.objs.size+1)]}:=by
  rw[<-p,<-m];exact g _ _ (aan _ rfl)
 have D:(zE t1 t2 s.heap l1 l2).get? (s.heap.objs.size+1)=some (itO t2 l2):=by
  rw[<-m];exact k _ _ (aan _ rfl)
 have I:(zE t1 t2 s.heap l1 l2).get? s.heap.objs.size=some (itO t1 l1):=d _ _ (aan _ rfl);have j:∀{t:Bool}{i l:Addr},(zE t1 t2 s.heap l1 l2).get? i=some (itO t l)->SubI t (zE t1 t2 s.heap l1 l2) i l 0:=λ{t i l} e=>by
  cases t
  .exact⟨_,e,rfl,rfl⟩
  .exact⟨_,e,rfl,rfl⟩
 show _/\_;rw[B];exact⟨⟨_,y,rfl⟩,h _ ⟨y,G,⟨_,_,C⟩,j I,j D⟩ λc o x=>d c o (Ld _ x)⟩
end
theorem yR{l1 l2:Nat}(c:l1<n)(e:l2<n):Apart (n+4) (n+2) (n+3) n (n+1) l1 l2 where
 d:=by
  simp
 m1:=by
  grind
 m2:=by
  grind
def SqB(t:Bool)(K:aad)(H:Hp)(a:Addr)(xs:List V):Prop:=if t then SqT K H a xs else SqL K H a xs
def Itz(t1 t2:Bool)(K:aad)(a b:Addr):It where
 go:=λi H=>∃xs ys x y,SqB t1 K H a xs/\SqB t2 K H b ys/\xs[i]?=some x/\ys[i]?=some y
 yld:=λi H v c=>∃T x y,v = .ref T/\H T=none/\c=upd H T (.tup [x,y])/\(∀xs,SqB t1 K H a xs->xs[i]?=some x)/\∀ys,SqB t2 K H b ys->ys[i]?=some y
 stop:=λi H=>∃xs ys,SqB t1 K H a xs/\SqB t2 K H b ys/\(xs.length≤i\/ys.length≤i)
theorem Inv.sqb{s:AD}{xs:List V}(I:Inv X pins σ H s)(h:SqB t X.kx H a xs):∃its:List mT,Vals xs its/\SubS t s.heap a its.toArray/\xs.length≤aai:=by
 cases t
 .obtain⟨its,r,p,z⟩:=I.list (h);exact⟨its,r,p.isList,z⟩
 .obtain⟨its,r,p,z⟩:=I.tuple (h);exact⟨its,r,p,z⟩
def Inv.sqb_inj{s:AD}{xs ys:List V}(I:Inv X pins σ H s)(h:SqB t X.kx H a xs)(h':SqB t X.kx H a ys):xs=ys:=by
 cases t
 .exact I.list_inj (h) (h')
 .exact I.tuple_inj (h) (h')
theorem Gm{P:aaF}{w:World}{K:aad}{x1:Nat}{pos:Pos}{TI TO:Addr}(D:Apart z TI TO i1 i2 a b):Turn P w K (.Tuple elts x1 pos) (Itz t1 t2 K a b) [z,TI,TO,i1,i2] z (λi h=>Gh t1 t2 z TI TO i1 i2 a b i h) where
 mem:=by simp
 obj:=λi h m c g=>by
  let⟨A,j,⟨u,v,p⟩,O,r⟩:=m;simp only[aaf,abd,or_false]at g;rcases g with rfl|rfl|rfl|rfl|rfl
  .exact⟨_,A,λv q=>by cases q⟩
  .exact⟨_,j,λv q=>by cases q⟩
  .exact⟨_,p,λv q=>by cases q⟩
  .obtain⟨o,vs,e,d⟩:=O.obj;exact⟨o,e,λv q=>by rw[d]at q;cases q⟩
  .obtain⟨o,vs,e,d⟩:=r.obj;exact⟨o,e,λv q=>by rw[d]at q;cases q⟩
 keep:=λi h h' m k=>by
  let⟨A,j,⟨u,v,p⟩,O,r⟩:=m;exact⟨k z (by simp) _ A,k TI (by simp) _ j,⟨u,v,k TO (by simp) _ p⟩,O.keep λo e=>k i1 (by simp) o e,r.keep λo e=>k i2 (by simp) o e⟩
 item:=by
  intro X hP hw U g i pins s σ H E I S m W;subst hP hw U;let⟨xs,ys,x,y,C,B,hx,hy⟩:=W;let⟨N,G,p1,_⟩:=I.sqb C;let⟨R,J,p2,_⟩:=I.sqb B;let⟨L,e1,ru1⟩:=G.get hx;let⟨M,e2,Y⟩:=J.get hy;refine GG D m p1 p2 (x:=L) (y:=M) (by simpa using e1) (by simpa using e2) λh' a1 a2 a3 a4 a5 a6 a7=>⟨.ref s.heap.objs.size,rfl,?_⟩;refine wpAny_letOwnedTupleGo_zip (s:={s with heap:=h' }) a1 λr b1 sb=>?_;have V:H s.heap.objs.size=none:=I.hok.fresh (Mt _);have T:∀c∈[z,TI,TO,i1,i2],c<s.heap.objs.size:=λc g=>by
   let⟨A,j,⟨u,v,p⟩,O,r⟩:=m;simp only[aaf,abd,or_false]at g;rcases g with rfl|rfl|rfl|rfl|rfl
   .exact aao A
   .exact aao j
   .exact aao p
   .obtain⟨o,vs,e,d⟩:=O.obj;exact aao e
   .obtain⟨o,vs,e,d⟩:=r.obj;exact aao e
  have Z:∀c∈[z,TI,TO,i1,i2],c≠s.heap.objs.size:=λc g=>aa1 (T c g);have F:=D.old;have up:∀c o,c≠z->h'.get? c=some o->r.get? c=some o:=λc o n e=>sb.extBut c o n e;have T2:afy r s.heap.objs.size L M:=up _ _ (ab1 (Z z (by simp))) a5;have I0:Inv X pins σ (upd H s.heap.objs.size (.tup [x,y])) {s with heap:=s.heap.push {cls:=.type "tuple",data:=.seq #[L,M]},toks:=s.toks}:=
   I.laid (o:=.tup [x,y]) (λc o e=>Ld _ e) (Mt _) ⟨by show 2≤aai;rw[aae];decide,[L,M],.cons ru1 (.cons Y .nil),PlainT.new _ _⟩
  have Il:Inv X pins σ (upd H s.heap.objs.size (.tup [x,y])) {s with heap:=r,toks:=s.toks}:=by
   refine Inv.turneds (s:={s with heap:=s.heap.push {cls:=.type "tuple",data:=.seq #[L,M]},toks:=s.toks}) (h':=r) (t':=s.toks) (ch:=[z,TI,TO,i1,i2]) I0 (λc o g e=>?_) λc g=>?_
   .rcases aaW.get?_push_cases e with⟨rfl,rfl⟩|e
    .exact T2
    .exact up c o (λq=>g (by simp[q])) (a7 c o (λq=>g (by simp only[aaf,abd,or_false]at q⊢;rcases q with q|q|q|q<;>simp[q])) e)
   .obtain⟨f0,f1⟩:=S c g;exact⟨by rw[av (Z c g)];exact f0,f1⟩
  refine⟨.ref s.heap.objs.size,upd H s.heap.objs.size (.tup [x,y]),Il,rfl,⟨_,x,y,rfl,V,rfl,λzs A=>by rw[I.sqb_inj A C];exact hx,λzs A=>by rw[I.sqb_inj A B];exact hy⟩,⟨b1,up _ _ F.TIz (a7 _ _ (by simp only[aaf,abd,or_false,not_or];exact⟨F.TIz,F.TITO,F.TIi1,F.TIi2⟩) m.ti),⟨_,_,up _ _ F.TOz a2⟩,a3.keep λo e=>up _ o F.i1z e,a4.keep λo e=>up _ o F.i2z e⟩,λc g=>?_⟩;rw[av (Z c g)];exact(S c g).1
 done:=by
  intro X hP hw U g i pins s σ H E I S m W;subst hP hw U;let⟨xs,ys,C,B,he⟩:=W;let⟨N,G,p1,_⟩:=I.sqb C;let⟨R,J,p2,_⟩:=I.sqb B;have l1:=G.length;have l2:=J.length;refine JQ (I.ok.hd g) D m p1 p2 (by rcases he with q|q;(left;simp;omega);(right;simp;omega)) λh' hk=>⟨rfl,I.turneds (t':=s.toks) (ch:=[z,TI,TO,i1,i2]) (λc o g e=>hk c o (λq=>g (by simp only[aaf,abd,or_false]at q⊢;rcases q with q|q|q|q<;>simp[q])) e) S⟩
 self:=λ_ _ _ _ _ m h=>wpAny_pyIter_zip m.z h
section
variable {X:Cx}{j:List Expr}{B:Nat}{w:Pos}{a b:Expr}{A:WA}{p pos:Pos}
def iZip(K:aad)(ta:TA):TI:=λσ H R=>ta σ H λvs c=>∃t1 t2 l1 l2,vs=[.ref l1,.ref l2]/\(∃xs,SqB t1 K c l1 xs)/\(∃ys,SqB t2 K c l2 ys)/\R (Itz t1 t2 K l1 l2) c
def Jq:aa2 "zip" = some (.type "zip"):=by rfl
theorem SY{ta:TA}(J:Gl X "zip")(G:X.mg "zip" = none)(M:PA X [a,b] ta)(N:aac [a,b] X.env=[(false,eval a X.env),(false,eval b X.env)]:=by first|exact(aG rfl).trans (congrArg _ (d5 rfl))|rfl)(d:aac [b] X.env=[(false,eval b X.env)]:=by first|exact d5 rfl|rfl):PI X (.Tuple j B w) (.Call (.Name "zip" p) [a,b] [] pos) (iZip X.K ta):=by
 intro pins s σ H T I h;refine Call_ (oh I J G Jq (adj (thn (M pos pins s σ H _ I h) λS s1 ⟨vs,O,k,r1,F⟩=>?_) (by rw[N,d]) (by rw[d];rfl)));let⟨t1,t2,l1,l2,e,⟨xs,P⟩,⟨ys,D⟩,q⟩:=F;subst e
 cases r1 with
 | cons r rr=>
  cases rr with
  | cons L rr=>
   cases rr;cases r;cases L;let⟨v,C,x,_⟩:=k.sqb P;let⟨y,E,u,_⟩:=k.sqb D;refine CG x u λh' Z hk=>?_;refine wpAny_pyIter_zip Z.z ?_;have lt:∀{t:Bool}{l:Addr}{its:Array mT},SubS t s1.heap l its->l<s1.heap.objs.size:=λ{t l its} p=>by
    cases t
    .obtain⟨o,e,_⟩:=(show s1.heap.IsList l its from p);exact aao e
    .obtain⟨o,e,_⟩:=(show s1.heap.IsTuple l its from p);exact aao e
   refine⟨s1.heap.objs.size+4,_,_,_,O,rfl,k.kept (t':=s1.toks) hk,Gm (yR (lt x) (lt u)),Z,λc R=>?_,q⟩;have g:s1.heap.objs.size≤c:=by
    have m:=R;simp at m;rcases m with rfl|rfl|rfl|rfl|rfl<;>first|exact acx _ _|exact Mt _
   exact k.fpOk g (k.hok.fresh g)
def imS:R->Option (Bool×List aD)
 | .imm (.tuple ds)=>some (true,ds)
 | .imm (.list ds)=>some (false,ds)
 |_=>none
def zipD(ds es:List aD):List aD:=(ds.zip es).map λp=>.tuple [p.1,p.2]
abbrev Sj(A:WA):WI:=λm K=>A m λrs c=>match rs with|[r1,r2]=>∃t1 ds t2 es,imS r1=some (t1,ds)/\imS r2=some (t2,es)/\K ⟨zipD ds es,none⟩ c|_=>False
theorem IW{K:Kd}{α:Al}{d:Hp}{r:R}{v:V}(h:RelR K α d H r v)(e:imS r=some (t,ds)):∃l xs,v = .ref l/\DenAll K H ds xs/\(SqB t K H l xs)/\∀c,Pers H c->SqB t K c l xs:=by
 unfold imS at e
 split at e
 .cases e;let⟨l,xs,e,f,g⟩:=bQ (h);exact⟨l,xs,e,g,f,λc p=>f.mono p⟩
 .cases e;have h':=h;let⟨l,xs,e,f,g⟩:=h';exact⟨l,xs,e,g,f.sq,λc p=>(f.mono p).sq⟩
 .cases e
def dJ(ds es:List aD):(zipD ds es).length=min ds.length es.length:=by simp[zipD]
theorem Dt{d e:aD}(c:ds[i]?=some d)(g:es[i]?=some e):(zipD ds es)[i]?=some (.tuple [d,e]):=by
 unfold zipD;rw[aah,(List.getElem?_zip_eq_some (z:=(d,e))).mpr ⟨c,g⟩];rfl
theorem wks_zip{K:Kd}:Wks K (Itz t1 t2 K l1 l2) (zipD ds es) λH=>∃xs ys,SqB t1 K H l1 xs/\SqB t2 K H l2 ys/\DenAll K H ds xs/\DenAll K H es ys where
 stop:=λH ⟨xs,ys,c,m,k,g⟩=>⟨xs,ys,c,m,by rw[dJ,<-k.length,<-g.length];omega⟩
 go:=λi H hi ⟨xs,ys,c,m,k,g⟩=>by
  rw[dJ]at hi;exact⟨xs,ys,xs[i]'(by rw[<-k.length];omega),ys[i]'(by rw[<-g.length];omega),c,m,lD _,lD _⟩
 yld:=λi H x I hi ⟨xs,ys,c,m,k,g⟩ y=>by
  let⟨T,u,v,rfl,F,rfl,E,D⟩:=y;let⟨d,G,k1⟩:=k.get2 (E xs c);let⟨e,C,k2⟩:=g.get2 (D ys m);have r:∀b o,H b=some o->upd H T (.tup [u,v]) b=some o:=λb o q=>by rw[av (bq q F)];exact q
  have s:Pers H _:=⟨λb xs q=>r b _ q,λb o u q=>r b _ q⟩;refine⟨r,_,Dt G C,?_⟩;exact e8 (SqT.of ay) (DenAll.cons (k1.mono s) (DenAll.cons (k2.mono s) DenAll.nil))
theorem Qm(I:X.mg "zip" = none)(N:MA X [a,b] A)(L:Gl X "zip":=by rfl)(P:aac [a,b] X.env=[(false,eval a X.env),(false,eval b X.env)]:=by first|exact(aG rfl).trans (congrArg _ (d5 rfl))|rfl)(o:aac [b] X.env=[(false,eval b X.env)]:=by first|exact d5 rfl|rfl):MI X (.Tuple j B w) (.Call (.Name "zip" p) [a,b] [] pos) (Sj A):=(SY L I N P o).wk<|by
 intro σ H Z ⟨α,m,Y,y,S,q⟩;refine⟨α,m,_,y,S,λrs M vs E k n R rr F=>?_⟩
 cases rr with
 |nil=>exact k.elim
 |cons V rr=>
  cases rr with
  |nil=>exact k.elim
  |cons D rr=>
  cases rr with
  |cons _ _=>exact k.elim
  |nil=>
  let⟨t1,ds,t2,es,G,T,k⟩:=k;let⟨l1,xs,rfl,J,s,U⟩:=IW V G;let⟨l2,ys,rfl,C,x,O⟩:=IW D T;refine⟨t1,t2,l1,l2,rfl,⟨xs,s⟩,⟨ys,x⟩,q _ M _ E k n R F ⟨λH=>∃xs ys,SqB t1 X.kx H l1 xs/\SqB t2 X.kx H l2 ys/\DenAll X.kx H ds xs/\DenAll X.kx H es ys/\(∀e,Pers H e->SqB t1 X.kx e l1 xs)/\∀e,Pers H e->SqB t2 X.kx e l2 ys,wks_zip.imp<|by intro H ⟨xs,ys,a,b,c,d,_⟩;exact⟨xs,ys,a,b,c,d⟩,⟨xs,ys,s,x,J,C,U,O⟩,by intro W u ⟨xs,ys,a,b,c,d,r,v⟩ g;exact⟨xs,ys,r u g,v u g,c.mono g,d.mono g,λe p=>r e (g.trans p),λe p=>v e (g.trans p)⟩⟩⟩
end
theorem uR{x:Nat}{c:Pos}{a b:Expr}{w:WA}{p pos:Pos}(e:X.mg "zip" = none)(k:EA X [a,b] w)(g:Gl X "zip":=by rfl)(j:aac [a,b] X.env=[(false,eval a X.env),(false,eval b X.env)]:=by first|exact(aG rfl).trans (congrArg _ (d5 rfl))|rfl)(d:aac [b] X.env=[(false,eval b X.env)]:=by first|exact d5 rfl|rfl):EI X (.Tuple elts x c) (.Call (.Name "zip" p) [a,b] [] pos) (Sj w):=⟨Qm e k.h g j d⟩
def cY{β:Type}{xs:List α}{x:α}(f:α->β)(h:xs[i]?=some x):(xs.take (i+1)).map f=(xs.take i).map f++[f x]:=by
 rw[aaR,h,aaq];rfl
theorem gmap{β:Type}{xs:List α}{y:β}{f:α->β}(h:(xs.map f)[i]?=some y):∃x,xs[i]?=some x/\y=f x/\i<xs.length:=by
 rw[aah]at h
 cases q:xs[i]? with
 |none=>rw[q]at h;cases h
 |some x=>rw[q]at h;exact⟨x,rfl,(aaB h).symm,(Ad.mp q).1⟩
theorem c6{lo:Int}{d:aD}(h:(j7 lo n)[i]?=some d):i<n/\d = .int (lo+(i:Int)):=by
 have hi:=by
  have:=(Ad.mp h).1;rwa[aV]at this
 rw[pQ hi]at h;exact⟨hi,(aaB h).symm⟩
def mz{k:Nat}{P:MSt->Prop}{m:MSt}(c:List Nat)(m2:MSt)(N:Ren c (m.setV n (.obj k)) m2)(h:P m2):sU n P m (.obj k):=.inr ⟨c,m2,N,h⟩
def RenO(c:List Nat)(o:Option R):Option R->Prop
 |none=>True
 |some r=>RenR c (some o) r
def RenVs(c:List Nat):List (Option R)->List (Option R)->Prop
 |o::os,q::qs=>RenO c o q/\RenVs c os qs
 |[],[]=>True
 |_,_=>False
theorem RenVs.len{c:List Nat}:∀{os q:List (Option R)},RenVs c os q->q.length=os.length
 |[],[],_=>rfl
 |_::_,_::_,h=>congrArg (· + 1) (RenVs.len h.2)
 |[],_::_,h=>h.elim
 |_::_,[],h=>h.elim
theorem RenVs.get{d:List Nat}:∀{os c:List (Option R)},RenVs d os c->∀(j:Nat) (r:R),c[j]?=some (some r)->RenR d os[j]? r
 |o::os,q::c,h,0,r,e=>by
  have g:=by simpa using e
  subst g;exact h.1
 |o::os,q::c,h,j+1,r,e=>by simpa using RenVs.get h.2 j r ‹_›
 |[],[],_,_,_,e=>by simp at e
 |[],_::_,h,_,_,_=>h.elim
 |_::_,[],h,_,_,_=>h.elim
def zF{c:List Nat}{m m2:MSt}(nd:decide c.Nodup=true)(lt:(c.all λk=>Nat.blt k m.os.length)=true)(pre:c.take m.np=aaz m.np)(npl:Nat.ble m.np c.length=true)(os:m2.os=c.map λk=>m.os.getD k [])(np:m2.np=m.np)(vs:RenVs c m.vs m2.vs):Ren c m m2:=
 ⟨of_decide_eq_true nd,λk hk=>Nat.blt_eq.mp (abz.mp lt k hk),pre,aek npl,os,np,vs.len,λj r e=>vs.get j r e⟩
def vf{d:aD}(h:(zipD ds es)[i]?=some d):∃a b,ds[i]?=some a/\es[i]?=some b/\d = .tuple [a,b]:=by
 let⟨p,g,rfl,_⟩:=gmap h;let⟨e,c⟩:=List.getElem?_zip_eq_some.mp g;exact⟨p.1,p.2,e,c,rfl⟩
end L2
namespace M3
def stepL(xs:List (List Nat))(r:Nat):List (List Nat):=xs.flatMap λa=>(aaz (r+1)).map λk=>a++[k]
def allL(rs:List Nat):List (List Nat):=rs.foldl stepL [[]]
def allR:List Nat->List (List Nat)
 |[]=>[[]]
 |r::rs=>(aaz (r+1)).flatMap λk=>(allR rs).map (k :: ·)
theorem uc:∀(rs:List Nat) (xs:List (List Nat)),rs.foldl stepL xs=xs.flatMap λa=>(allR rs).map (a++·)
 |[],xs=>by
  simp[allR]
 |r::rs,xs=>by
  rw[aeH,uc rs];simp only[stepL,allR,List.flatMap_assoc,List.map_flatMap,List.flatMap_map,aa9]
  congr 1
  funext a
  congr 1
  funext k
  congr 1
  funext l
  simp
def allL_eq(rs:List Nat):allL rs=allR rs:=by
 unfold allL;rw[uc];simp
theorem allR_len:∀{rs l:List Nat},l∈allR rs->l.length=rs.length
 |[],l,h=>by simp[allR]at h;subst h;rfl
 |r::rs,l,h=>by
  simp only[allR,ach,aap]at h;let⟨k,_,a,h,rfl⟩:=h;simp[allR_len h]
theorem stepL_length(xs:List (List Nat))(r:Nat):(stepL xs r).length=xs.length*(r+1):=by
 unfold stepL
 induction xs with
 |nil=>simp
 |cons a xs i=>
  grind
theorem vK:∀{rs:List Nat}{xs:List (List Nat)},(∀r∈rs,r≤6)->(rs.foldl stepL xs).length≤xs.length*7^rs.length
 |[],xs,_=>by simp
 |r::rs,xs,h=>by
  rw[aeH];refine aas (vK λa b=>h a (LD _ b)) ?_;rw[stepL_length,aaA,Nat.pow_succ,Nat.mul_assoc,ac1 (7^rs.length)];refine Nat.mul_le_mul_left _ (acL _ ?_)
  simp_all
def fold_small{rs:List Nat}(a:rs.length≤4)(h:∀r∈rs,r≤6):(rs.foldl stepL [[]]).length≤2401:=by
 refine aas (vK h) ?_;have:7^rs.length≤7^4:=Nat.pow_le_pow_right (by decide) a;simpa
def stepL_take{xs:List (List Nat)}{r j:Nat}{l:List Nat}(h:xs[j]?=some l):stepL (xs.take (j+1)) r=stepL (xs.take j) r++(aaz (r+1)).map λy=>l++[y]:=by
 unfold stepL;rw[aaR,h];simp
end M3
set_option maxHeartbeats 4100000
namespace K
open PySem L2
variable{h:Hall}
def CP:SpM:=λa K=>∃ns:List Int,a=[.imm (.list (ns.map .int))]/\ns.length≤63/\K (.imm (.bool true)) []
def frD(a b:Int):aD:=.tuple [.int a,.int b]
def LQ:SpM:=λc K=>∃a b:Nat,c=[.imm (.int a),.imm (.int b)]/\a<1000000000/\0<b/\b<1000000000/\K (.imm (frD (a/a.gcd b:Nat) (b/a.gcd b:Nat))) []
structure Srv where
 a:Nat
 b:Nat
 r:Nat
def Srv.d(s:Srv):aD:=.tuple [.tuple [.int s.a,.int s.b],.int s.r]
structure Srv.Ok(s:Srv):Prop where
 a1:1≤s.a
 a2:s.a<1000000
 b1:1≤s.b
 b2:s.b<1000000
 r1:1≤s.r
 r6:s.r≤6
structure Hall where
 a:Nat
 b:Nat
 ss:List Srv
 mv:Bool
def Hall.d(h:Hall):aD:=.tuple [.tuple [.int h.a,.int h.b],.tuple (h.ss.map Srv.d),.bool h.mv]
structure Hall.Ok(h:Hall):Prop where
 a1:1≤h.a
 a2:h.a<1000000
 b1:1≤h.b
 b2:h.b<1000000
 n1:1≤h.ss.length
 n4:h.ss.length≤4
 ok:∀s∈h.ss,s.Ok
def Hall.rs(h:Hall):List Nat:=h.ss.map Srv.r
def Hall.rsl(h:Hall):h.rs.length=h.ss.length:=by simp[Hall.rs]
def Hall.Ok.r6(o:h.Ok):∀r∈h.rs,r≤6:=λr b=>by
 let⟨s,a,rfl⟩:=aap.mp b;exact(o.ok s a).r6
def Hall.rs_get{i:Nat}{s:Srv}(e:h.ss[i]?=some s):h.rs[i]?=some s.r:=by simp[Hall.rs,e]
def prD(p:Nat×Nat):aD:=.tuple [.int (p.1:Int),.int (p.2:Int)]
def natD(l:List Nat):List aD:=l.map λ(k:Nat)=>.int (k:Int)
def lnD(l:List Nat):aD:=.tuple (natD l)
def bi(l:List Nat):(natD l).length=l.length:=by simp[natD]
def bt{l:List Nat}{i x:Nat}(h:l[i]?=some x):(natD l)[i]?=some (.int (x:Int)):=by simp[natD,h]
theorem vQ{a b:Nat}(e:a<1000000000)(f:b<1000000000):Fine 33 1 (frD a b):=by
 refine dA (n:=13) (k:=0) (c:=2) (λd hd=>?_) (by simp);simp at hd;rcases hd with rfl|rfl
 .exact qx (by omega)
 .exact qx (by omega)
theorem Srv.Ok.fine{s:Srv}(o:s.Ok):Fine 73 2 s.d:=by
 refine dA (n:=33) (k:=1) (c:=2) (λd hd=>?_) (by simp);simp at hd;rcases hd with rfl|rfl
 .exact vQ (by have:=o.a2;omega) (by have:=o.b2;omega)
 .have:=o.r6;exact(qx (by omega)).mono (by decide) (by decide)
def Hall.Ok.fine(o:h.Ok):Fine 1000 4 h.d:=by
 have a:Fine 303 3 (.tuple (h.ss.map Srv.d)):=(dA (n:=73) (k:=2) (c:=4) (λd hd=>by
  let⟨s,b,rfl⟩:=aap.mp hd;exact(o.ok s b).fine) (by rw[iO];exact o.n4)).mono (by decide) (by decide)
 refine(dA (n:=303) (k:=3) (c:=3) (λd hd=>?_) (by simp)).mono (by decide) (by decide);simp at hd;rcases hd with rfl|rfl|rfl
 .exact(vQ (by have:=o.a2;omega) (by have:=o.b2;omega)).mono (by decide) (by decide)
 .exact a
 .exact(zn _).mono (by decide) (by decide)
inductive Rule where
 |random|turns|two|least|quick
 |told (ps:List Nat)
def Rule.word:Rule->Str
 | .random=> "random" | .turns=> "turns" | .two=> "two" | .least=> "least" | .quick=> "quick" | .told _=> "told"
def Rule.d:Rule->aD
 | .told p=>.tuple [.str "told",lnD p]
 |r=>.tuple [.str r.word]
def Rule.Ok(h:Hall):Rule->Prop
 | .told a=>a.length=(M3.allR h.rs).length/\∀p∈a,p<h.ss.length
 |_=>True
def Lines(h:Hall)(l:List Nat):Prop:=l.length=h.ss.length/\∀(i:Nat) s x,h.ss[i]?=some s->l[i]?=some x->x≤s.r
theorem Lines.le{l:List Nat}(o:h.Ok)(k:Lines h l):∀x∈l,x≤6:=λx c=>by
 let⟨i,b,rfl⟩:=abW.mp c;have a:i<h.ss.length:=by rw[<-k.1];exact b
 have:=k.2 i _ _ (lD a) (lD b);have:=(o.ok _ (aeq a)).r6;exact aas ‹_› ‹_›
section
variable {h:Hall}{m:MSt}{K:L2.R->Prop}
def x_h1(q:K (.imm (.tuple (h.ss.map Srv.d)))):oa (.imm h.d) (.imm (.int 1)) m K:=⟨_,rfl,q⟩
def x_h2(q:K (.imm (.bool h.mv))):oa (.imm h.d) (.imm (.int 2)) m K:=⟨_,rfl,q⟩
end
end K
namespace L2
open PySem PySem.Spec PyProof.Rows
variable{v y:V}{u:mT}{P prog:aaF}{w:World}{H H':Hp}{kvs:List (aD×aD)}{xs:List (List Key×Addr×mT)}{a l:Addr}{Q:mT->AD->Prop}{h':aaW}{pos:Pos}{X:Cx}{ks:List (Option Expr)}{vs:List mT}{trs:List (TE×TE)}{values:List Expr}{τ:List (List Nat×Addr)}{p:List Nat}{kk:Key}{t t':aD}{j n:Nat}{wv:WE}{ws:List (WE×WE)}{K:List (R×R)->MSt->Prop}{items:Array mT}{ns:List Int}{Kr:R->Prop}{ds:List aD}{x:Str}
section
variable {a:Type} [DecidableEq a]
def valV(kvs:List (a×V))(k:a):Option V:=(kvs.find? λb=>decide (b.1=k)).map (·.2)
def putK(kvs:List (a×V))(k:a)(v:V):List (a×V):=
 if (kvs.any λb=>decide (b.1=k))=true then kvs.map (λb=>if b.1=k then(b.1,v)else b)else kvs++[(k,v)]
theorem dt{p:a×V}{r:List (a×V)}{k:a}(e:p.1=k):valV (p::r) k=some p.2:=by simp[valV,e]
theorem du{p:a×V}{r:List (a×V)}{k:a}(e:¬p.1=k):valV (p::r) k=valV r k:=by simp[valV,e]
theorem qc(k:a):∀kvs:List (a×V),(kvs.any λb=>decide (b.1=k))=(valV kvs k).isSome
 |[]=>rfl
 |p::r=>by
  rw[aex]
  by_cases e:p.1=k
  .simp[dt e,decide_eq_true e]
  .rw[du e,decide_eq_false e];exact qc k r
theorem tW(k j:a)(y:V):∀kvs:List (a×V),valV kvs k=none->valV (kvs++[(k,y)]) j=if j=k then some y else valV kvs j
 |[],_=>by
  by_cases e:k=j
  .rw[if_pos e.symm];exact dt (p:=(k,y)) e
  .rw[if_neg (λz=>e z.symm)];exact du (p:=(k,y)) e
 |p::r,hn=>by
  rw[adv];have hk:¬p.1=k:=λz=>by rw[dt z]at hn;cases hn
  rw[du hk]at hn;have i:=tW k j y r hn
  by_cases e:p.1=j
  .rw[dt e,dt e,if_neg (λz=>hk (e.trans z))]
  .rw[du e,du e,i]
theorem ix(kvs:List (a×V))(k:a)(v:V):(putK kvs k v).length≤kvs.length+1:=by
 unfold putK
 grind
theorem CQ{kvs:List (a×V)}{k:a}(v:V)(h:valV kvs k=none):putK kvs k v=kvs++[(k,v)]:=by
 unfold putK;rw[qc,h];exact if_neg (by decide)
theorem RelO.isSome_eq{o:Option V}{u:Option mT}(r:RelO o u):o.isSome=u.isSome:=by
 cases o with
 |none=>cases u with
  |none=>rfl
  |some _=>exact(r).elim
 |some _=>cases u with
  |none=>exact(r).elim
  |some _=>rfl
theorem KV.val{kvs:List (a×V)}{vs:List (a×mT)}(r:KV kvs vs)(k:a):RelO (valV kvs k) (aeT vs k):=by
 induction r with
 |nil=>exact acz
 | @cons p q ps qs h t ih=>
  let⟨c,d⟩:=h
  by_cases e:p.1=k
  .have e':=c.symm.trans e;have b:aeT (q::qs) k=some q.2:=by simp[aeT,e']
   rw[dt e,b];exact d
  .have e':¬q.1=k:=λz=>e (c.trans z);have b:aeT (q::qs) k=aeT qs k:=by simp[aeT,e']
   rw[du e,b];exact ih
theorem KV.any{kvs:List (a×V)}{vs:List (a×mT)}(r:KV kvs vs)(k:a):(kvs.any λb=>decide (b.1=k))=vs.any λb=>decide (b.1=k):=by
 induction r with
 |nil=>rfl
 |cons h t i=>rw[aex,aex,i,h.1]
theorem KV.repl{kvs:List (a×V)}{vs:List (a×mT)}(r:KV kvs vs)(k:a)(d:RelV y u) :
  KV (kvs.map λb=>if b.1=k then(b.1,y)else b) (vs.map λb=>if b.1=k then(b.1,u)else b):=by
 induction r with
 |nil=>exact .nil
 | @cons p q ps qs h t ih=>
  rw[aak,aak];refine .cons ?_ ih;let⟨c,f⟩:=h
  by_cases e:p.1=k
  .rw[if_pos e,if_pos (c.symm.trans e)];exact⟨c,d⟩
  .rw[if_neg e,if_neg (λz=>e (c.trans z))];exact⟨c,f⟩
theorem KV.put{kvs:List (a×V)}{vs:List (a×mT)}(r:KV kvs vs)(k:a)(b:RelV y u):KV (putK kvs k y) (stored vs k u):=by
 unfold putK stored;rw[r.any k]
 by_cases e:(vs.any λc=>decide (c.1=k))=true
 .rw[if_pos e,if_pos e];exact r.repl k b
 .rw[if_neg e,if_neg e];exact Paired.snoc r ⟨rfl,b⟩
theorem KV.length{kvs:List (a×V)}{vs:List (a×mT)}(r:KV kvs vs):kvs.length=vs.length:=agJ r
end
theorem vm{k:Key}(r:RelV (kV k) u):(cp P w).is k u=true:=by
 cases k with
 |inl i=>let⟨t,e⟩:=(r);subst e;exact uU P w i t
 |inr x=>let⟨t,e⟩:=(r);subst e;exact uK P w x t
theorem sj{P:aaF}{w:World}:∀{ks:List Key}{us:List mT},Vals (ks.map kV) us->ItemsAre (cp P w) ks us
 |[],_,r=>by rw[ac5]at r;cases r;exact .nil
 |k::ks,_,r=>by
  cases r with
  |cons h t=>exact .cons (vm h) (sj t)
abbrev KT(H:Hp):List (List Key×V)->List (List Key×Addr×mT)->Prop:=abL λp q=>p.1=q.1/\H q.2.1=some (.tup (p.1.map kV))/\RelV p.2 q.2.2
theorem KT.val{kvs:List (List Key×V)}(r:KT H kvs xs)(k:List Key):RelO (valV kvs k) ((atKey xs k).map (·.2)):=by
 induction r with
 |nil=>exact acz
 | @cons p q ps qs h t ih=>
  let⟨c,_,d⟩:=h
  by_cases e:p.1=k
  .have e':=c.symm.trans e;have b:atKey (q::qs) k=some q.2:=by simp[atKey,e']
   rw[dt e,b];exact d
  .have e':¬q.1=k:=λz=>e (c.trans z);have b:atKey (q::qs) k=atKey qs k:=by simp[atKey,e']
   rw[du e,b];exact ih
theorem KT.repl{kvs:List (List Key×V)}(r:KT H kvs xs)(k:List Key)(g:RelV y u) :
  KT H (kvs.map λc=>if c.1=k then(c.1,y)else c) (xs.map (putAt k u)):=by
 induction r with
 |nil=>exact .nil
 | @cons p q ps qs h t ih=>
  rw[aak];refine .cons ?_ ih;let⟨b,d,f⟩:=h;unfold putAt
  by_cases e:p.1=k
  .rw[if_pos e,if_pos (b.symm.trans e)];exact⟨b,d,g⟩
  .rw[if_neg e,if_neg (λz=>e (b.trans z))];exact⟨b,d,f⟩
def KT.put{kvs:List (List Key×V)}(r:KT H kvs xs)(k:List Key){b:Addr}(h:H b=some (.tup (k.map kV)))(c:RelV y u) :
  KT H (putK kvs k y) (storedH xs k b u):=by
 have e:(kvs.any λd=>decide (d.1=k))=(atKey xs k).isSome:=by
  rw[qc,(r.val k).isSome_eq,afq]
 unfold putK storedH;rw[e]
 by_cases q:(atKey xs k).isSome=true
 .rw[if_pos q,if_pos q];exact r.repl k c
 .rw[if_neg q,if_neg q];exact Paired.snoc r ⟨rfl,h,c⟩
def KT.keeps{kvs:List (List Key×V)}(r:KT H kvs xs)(h:∀b ys,H b=some (.tup ys)->H' b=some (.tup ys)):KT H' kvs xs:=
 Paired.mapP r λ_ _ z=>⟨z.1,h _ _ z.2.1,z.2.2⟩
section
variable {P:aaF}{w:World}{H:Hp}{h:aaW}{a:Addr}
def P9{u:HO}(ok:HOk P w H h)(e:Rd H a u):ObjOk P w H h a u:=e.ok ok
def ou{kvs:List (Key×V)}(ok:HOk P w H h)(e:Rd H a (.dK kvs)):kvs.length≤aai/\(a==abu)=false/\∃vs,KV kvs vs/\h.DictOf (cp P w) a vs:=
 P9 ok e
def Qq{kvs:List (Key×V)}(ok:HOk P w H h)(e:H a=some (.dK kvs)):kvs.length≤aai/\(a==abu)=false/\∃vs,KV kvs vs/\h.DictOf (cp P w) a vs:=ou ok (.inl e)
theorem sn{ks:List Key}(ok:HOk P w H h)(e:H a=some (.tup (ks.map kV))):(agy (cp P w)).is h ks a:=by
 let⟨_,i,r,o,b,d,hd,n,c⟩:=(ok a _ e);exact⟨o,i.toArray,n,b,d,c,by simpa using sj r⟩
theorem y6{kvs:List (List Key×V)}(ok:HOk P w H h)(e:Rd H a (.dT kvs)):kvs.length≤aai/\(a==abu)=false/\
  ∃xs,KT H kvs xs/\h.DictOfH (agy (cp P w)) a xs:=by
 let⟨z,y,xs,r,o,d,g,k,c,i,s,f⟩:=(P9 ok e);refine⟨z,y,xs,r,o,d,g,k,c,i,s,λx b=>?_,f⟩;have all:∀{l:List _}{m:List _},KT H l m->∀x∈m,(agy (cp P w)).is h x.1 x.2.1:=by
  intro l m q
  induction q with
  |nil=>intro x b;exact nomatch b
  | @cons p q ps qs hq t ih=>
   intro x b;rcases aaf.mp b with e|b
   .subst e;exact sn ok (by simp_all)
   .exact ih x b
 exact all r x b
def Uq{kvs:List (List Key×V)}(ok:HOk P w H h)(e:H a=some (.dT kvs)):kvs.length≤aai/\(a==abu)=false/\
  ∃xs,KT H kvs xs/\h.DictOfH (agy (cp P w)) a xs:=y6 ok (.inl e)
end
def DGet(H:Hp)(a:Addr)(y:V)(r:Option V):Prop:=
 (∃kvs k,Rd H a (.dK kvs)/\y=kV k/\r=valV kvs k)\/∃kvs k b,Rd H a (.dT kvs)/\y = .ref b/\H b=some (.tup (k.map kV))/\r=valV kvs k
def DPut(H:Hp)(a:Addr)(y v:V)(H':Hp):Prop:=
 (∃kvs k,H a=some (.dK kvs)/\y=kV k/\kvs.length<aai/\H'=upd H a (.dK (putK kvs k v))) \/
 ∃kvs k b,H a=some (.dT kvs)/\y = .ref b/\H b=some (.tup (k.map kV))/\kvs.length<aai/\H'=upd H a (.dT (putK kvs k v))
theorem DGet.k{kvs:List (Key×V)}{k:Key}(e:H a=some (.dK kvs)):DGet H a (kV k) (valV kvs k):=.inl ⟨kvs,k,.inl e,rfl,rfl⟩
theorem DPut.k{kvs:List (Key×V)}{k:Key}(e:H a=some (.dK kvs))(h:kvs.length<aai):DPut H a (kV k) v (upd H a (.dK (putK kvs k v))):=.inl ⟨kvs,k,e,rfl,h,rfl⟩
section
variable {X:Cx}{d:List (Addr×Obj)}{f:St}{H:Hp}{s:AD}{a:Addr}{y v:V}{u r:mT}{o:Option V}{A:aa4}{E:mT->AD->Prop}
def Inv.big(I:Inv X d f H s):abu<s.heap.objs.size:=by
 have h:=(I.mod.glob.keeps I.bk).lt;exact aeb (by decide) h
theorem tz(J:A.units+1<cLine)(I:Inv X d f H s)(g:DGet H a y (some v))(F:RelV y u)(h:∀m s',Inv X d f H s'->RelV v m->Q m s') :
  wpAny (model X.prog X.w) A (aev (.ref a) u) Q E s:=by
 rcases g with⟨kvs,k,e,q,l⟩|⟨kvs,k,b,e,q,eb,l⟩
 .subst q;let⟨z,hd,vs,c,C⟩:=ou I.hok e;let⟨m,D,i⟩:=RelO.some_of (v:=v) (o:=aeT vs k) (by rw[l];exact c.val k);exact wpAny_getItem_of (vm F) C.mapOf D (h m _ (I.tok _) i)
 .subst q
  cases (show u=abi b from F)
  let⟨z,hd,xs,c,C⟩:=y6 I.hok e;let⟨m,D,i⟩:=RelO.some_of (v:=v) (o:=(atKey xs k).map (·.2)) (by rw[l];exact c.val k);let⟨p,G,B⟩:=aec.mp D;refine wpAny_getItem_heap (ad1 J) (sn I.hok eb) C G ?_;rw[B];exact h m _ (I.tok _) i
theorem d_in(C:A.units+1<cLine)(I:Inv X d f H s)(g:DGet H a y o)(B:RelV y u)(h:∀s',Inv X d f H s'->Q (.bool o.isSome) s') :
  wpAny (model X.prog X.w) A (abh .In u (.ref a)) Q E s:=by
 rcases g with⟨kvs,k,e,i,l⟩|⟨kvs,k,b,e,i,eb,l⟩
 .subst i;let⟨z,hd,vs,c,m⟩:=ou I.hok e;refine wpAny_in_of (vm B) hd m.mapOf ?_;rw[<-(c.val k).isSome_eq,<-l];exact h _ (I.tok _)
 .subst i;cases (B);let⟨z,hd,xs,c,m⟩:=y6 I.hok e;refine wpAny_in_heap (ad1 C) (sn I.hok eb) hd m ?_;have q:=(c.val k).isSome_eq;rw[afq]at q;rw[<-q,<-l];exact h _ (I.tok _)
theorem My(C:A.units+1<cLine)(I:Inv X d f H s)(g:DGet H a y o)(B:RelV y u)(h:∀s',Inv X d f H s'->Q (.bool (!o.isSome)) s') :
  wpAny (model X.prog X.w) A (abh .NotIn u (.ref a)) Q E s:=by
 rcases g with⟨kvs,k,e,i,l⟩|⟨kvs,k,b,e,i,eb,l⟩
 .subst i;let⟨z,hd,vs,c,m⟩:=ou I.hok e;refine wpAny_notIn_of (vm B) hd m.mapOf ?_;rw[<-(c.val k).isSome_eq,<-l];exact h _ (I.tok _)
 .subst i;cases (B);let⟨z,hd,xs,c,m⟩:=y6 I.hok e;refine wpAny_notIn_heap (ad1 C) (sn I.hok eb) hd m ?_;have q:=(c.val k).isSome_eq;rw[afq]at q;rw[<-q,<-l];exact h _ (I.tok _)
def qe{t':Nat}{c:HO}(I:Inv X d f H s)(mu:Mut (H a))(e:ab2 a s.heap h')(g:∃q,h'.get? a=some q)(new:ObjOk X.prog X.w (upd H a c) h' a c) :
  Inv X d f (upd H a c) {s with heap:=h',toks:=t' }:=
 I.write mu (.inl rfl) (λb q h z=>(e.2 b h).trans z) g new
def IX{kvs:List (Key×V)}{vs:List (Key×mT)}(z:kvs.length≤aai)(hd:(a==abu)=false)(b:KV kvs vs)(c:h'.DictOf (cp P w) a vs) :
  ObjOk P w H' h' a (.dK kvs):=⟨z,hd,vs,b,c⟩
theorem y4{Q:Unit->AD->Prop}(Z:A.units+1<cLine)(I:Inv X d f H s)(g:DPut H a y v H')(N:RelV y u)(O:RelV v r)(h:∀s',Inv X d f H' s'->Q () s') :
  wpAny (model X.prog X.w) A (setItem (.ref a) u r) Q E s:=by
 rcases g with⟨kvs,k,e,F,l,G⟩|⟨kvs,k,b,e,F,eb,l,G⟩
 .subst F G;let⟨z,hd,vs,i,C⟩:=Qq I.hok e;have D:vs.length≤aai:=by rw[<-i.length];exact z
  have J:(putK kvs k v).length≤aai:=by have:=ix kvs k v;exact aas ‹_› ‹_›
  refine wpAny_setItem_pairs (hsz:=D) (vm N) C λh' m L=>h _ ?_;have U:∃q,h'.get? a=some q:=let ⟨q,_,_,B,_⟩:=m;⟨q,B⟩;exact qe I (by rw[e];exact acz) L U (IX J hd (i.put k O) m)
 .subst F G;cases (N);let⟨z,hd,xs,i,C⟩:=Uq I.hok e;have D:xs.length≤aai:=by rw[<-agJ i];exact z
  have J:(putK kvs k v).length≤aai:=by have:=ix kvs k v;exact aas ‹_› ‹_›
  refine wpAny_setItem_heap (hsz:=D) (ad1 Z) (sn I.hok eb) C λh' m L=>h _ ?_;let⟨q,S,V,B,R,Y,W,_,T⟩:=m;refine qe I (by rw[e];exact acz) L ⟨q,B⟩ ⟨J,hd,_,(i.put k eb O).keeps λc ys M=>?_,q,S,V,B,R,Y,W,T⟩;rw[av (vi M e (λz=>nomatch z))];exact M
end
def NoSl(i:Expr):Prop:=∀o b,agp i false o b=operate [o,b] (aev o b)
theorem zd{A:aa4}{E:mT->AD->Prop}{s:AD}{env:Env}{c b:Expr}{T id:String}
  (C:typeLookup (.type T) "__getitem__" = pure (some (.builtin id))) (B:NoSl b)
  (h:wpAny (model prog w) A (eval c env) (λo g=>wpAny (model prog w) A (eval b env) (λi d=>d.TypeIs o T/\wpAny (model prog w) A (aev o i) Q E d) E g) E s) :
  wpAny (model prog w) A (eval (.Subscript c b pos) env) Q E s:=by
 refine agS (ace h (λo g q=>ace q (λi d e=>?_) λ_ _ x=>x) λ_ _ x=>x);let⟨z,e⟩:=e;unfold agN;refine gT ?_;rw[getitemInPython_of_ne z.not_modules];refine gT (aeM z C ?_);have k:wpAny (model prog w) A (agp b false o i) (λr f=>wpAny (model prog w) A (letTemporaryGo c o r >>= λ_=>pure r) Q E f) E d:=by
  rw[B o i];exact wpAny_operating (ace e (λr f m=>gT (wpAny_letTemporaryGo (Io m))) λ_ _ x=>x)
 first
  |exact Io (gT k)
  |exact gT (Io (gT k))
  |exact gT k
theorem uJ{c:List (Addr×Obj)}{d:St}{s:AD}{o:Option V}(I:Inv X c d H s)(g:DGet H a y o):s.TypeIs (.ref a) "dict":=by
 rcases g with⟨kvs,k,e,_,_⟩|⟨kvs,k,b,e,_,_,_⟩
 .obtain⟨_,_,vs,_,dd⟩:=ou I.hok e;exact dd.typeIs
 .obtain⟨_,_,xs,_,dd⟩:=y6 I.hok e;exact dd.typeIs
def U5(d ty:TE):TE:=λb H Q=>d b H λx e=>ty b e λy c=>∃a v,x = .ref a/\DGet c a y (some v)/\Q v c
def U8(d ty f:TE):TS:=λD b H=>f b H λv h=>d b h λx g=>ty b g λy e=>∃a c,x = .ref a/\DPut e a y v c/\D.nx b c
section
variable {X:Cx}{o i e b:Expr}{pos p c:Pos}{t ty d:TE}
theorem Lq(L:X.A.units+1<cLine)(M:PE X o t)(D:PE X i ty)(z:NoSl i):PE X (.Subscript o i pos) (U5 t ty):=by
 intro f s k H Q I h;refine zd afh.lookup z (thn (M f s k H _ I h) λu s1 ⟨x,F,q,J,B⟩=>thn (D f s1 k F _ q B) λR s2 ⟨y,C,m,E,a,v,ex,g,G⟩=>?_);subst ex;obtain rfl:u=abi a:=J;exact⟨uJ m g,tz L m g E λO N A r=>⟨v,C,A,r,G⟩⟩
theorem Ju(U:X.A.units+1<cLine)(E:PE X o t)(N:PE X i ty)(F:PE X b d)(L:abA b (some (.Subscript o i p)) pos.line X.env=pure false) :
  PS X (.Assign [.Subscript o i p] b pos) (U8 t ty d):=by
 intro f s k H D I h;refine af3 (thn (F f s k H _ I h) λr s1 ⟨v,O,m,M,z⟩=>thn (E f s1 k O _ m z) λu s2 ⟨x,A,J,T,R⟩=>thn (N f s2 k A _ J R) λY W ⟨y,V,q,C,a,B,ex,g,S⟩=>?_) L;subst ex;obtain rfl:u=abi a:=T;exact y4 U q g C M λZ G=>⟨k,B,G,S⟩
end
def qH(h:aaW)(b:abu<h.objs.size):ObjOk P w H (h.push {cls:=.type "dict",data:=.dict #[]}) h.objs.size (.dK []):=
 ⟨abm _,beq_eq_false_iff_ne.mpr (ab1 (aa1 b)),[],.nil,aaW.DictOf.new h⟩
def O8:TE:=λ_ H Q=>∀p,H p=none->Q (.ref p) (upd H p (.dK []))
section
variable {X:Cx}{pos:Pos}
theorem pe_dnewK:PE X (.Dict [] [] pos) O8:=λb s c H Q I h=>
 wpAny_Dict_empty ⟨.ref s.heap.objs.size,_,I.laid (t':=s.toks) (λ_ _ q=>Ld _ q) (Mt _) (qH s.heap I.big),rfl,h _ (I.hok.fresh (Mt _))⟩
end
def vJ:List (TE×TE)->St->Hp->(List (V×V)->Hp->Prop)->Prop
 |[],_,H,Q=>Q [] H
 |(tk,tv)::r,σ,H,Q=>tk σ H λx e=>tv σ e λy c=>vJ r σ c λd b=>Q ((x,y)::d) b
abbrev VV:List (V×V)->List (mT×mT)->Prop:=abL λp q=>RelV p.1 q.1/\RelV p.2 q.2
def PPs(X:Cx)(pos:Pos)(keys:List (Option Expr))(values:List Expr)(trs:List (TE×TE)):Prop:=
 ∀(b:List (Addr×Obj)) (s:AD) (c:St) (H:Hp) (Q:List (V×V)->Hp->Prop),Inv X b c H s->vJ trs c H Q ->
  wpAny (model X.prog X.w) X.A (evalPairs (pairTrees keys values X.env pos)) (λvs e=>∃d H',Inv X b c H' e/\VV d vs/\Q d H') X.xe s
theorem Lm:PPs X pos [] [] []:=λb s c H Q I h=>pairTrees_nil_walk ⟨[],H,I,.nil,h⟩
theorem D5{k v:Expr}{vs:List Expr}{e d:TE}(hk:PE X k e)(f:PE X v d)(B:PPs X pos ks vs trs) :
  PPs X pos (some k::ks) (v::vs) ((e,d)::trs):=λb s c H Q I h=>
 pairTrees_cons_walk (thn (hk b s c H _ I h) λu s1 ⟨x,D,m,G,q⟩=>thn (f b s1 c D _ m q) λL s2 ⟨y,z,i,C,E⟩=>
  thn (B b s2 c z _ i E)<|by intro ws J ⟨A,g,o,r,F⟩;exact⟨(x,y)::A,g,o,.cons ⟨G,C⟩ r,F⟩)
def kg(kvs more:List (Key×V)):List (Key×V):=more.foldl (λb k=>putK b k.1 k.2) kvs
theorem KV.merge:∀{more:List (Key×V)}{rs:List (Key×mT)}{kvs:List (Key×V)}{vs:List (Key×mT)},KV more rs->KV kvs vs->KV (kg kvs more) (merged vs rs):=by
 intro more rs kvs vs r;unfold KV at r
 induction r generalizing kvs vs with
 |nil=>intro q;exact q
 | @cons p q ps qs h t ih=>
  intro b;have e:KV (putK kvs p.1 p.2) (stored vs q.1 q.2):=by
   have:=b.put p.1 h.2;rw[<-h.1];exact this
  exact ih e
theorem iZ:∀(more kvs:List (Key×V)),(kg kvs more).length≤kvs.length+more.length
 |[],kvs=>by show kvs.length≤kvs.length+0;omega
 |p::r,kvs=>by
  have h:=iZ r (putK kvs p.1 p.2);have b:=ix kvs p.1 p.2;show(kg (putK kvs p.1 p.2) r).length≤_;rw[aaA];omega
theorem ph{P:aaF}{w:World}:∀{kvs:List (Key×V)}{ws:List (mT×mT)},VV (kvs.map λk=>(kV k.1,k.2)) ws->∃rs,Carries (cp P w) ws rs/\KV kvs rs
 |[],_,r=>by rw[ac5]at r;cases r;exact⟨[],acz,.nil⟩
 | p::kvs,_,r=>by
  rw[aak]at r
  cases r with
  | @cons a b as bs h t=>
   let⟨rs,c,q⟩:=ph (P:=P) (w:=w) t;let⟨b1,b2⟩:=b;exact⟨(p.1,b2)::rs,⟨vm h.1,rfl,c⟩,.cons ⟨rfl,h.2⟩ q⟩
def Vc(trs:List (TE×TE)):TE:=λc H Q=>∀p,H p=none->vJ trs c (upd H p (.dK [])) λd b=>b p=some (.dK [])/\∃kvs:List (Key×V),d=kvs.map (λk=>(kV k.1,k.2))/\kvs.length≤15/\Q (.ref p) (upd b p (.dK (kg [] kvs)))
theorem MZ{keys:List (Option Expr)}(h:PPs X pos keys values trs)(b:keys.all (·.isSome)=true)(G:keys.length=values.length)(E:keys≠[])
  (g:keys.length≤15):PE X (.Dict keys values pos) (Vc trs):=by
 intro d s L H Q I q;have k:=I.hok.fresh (Mt s.heap.objs.size);have m:=I.laid (a:=s.heap.objs.size) (o:=.dK []) (h':=s.heap.push {cls:=.type "dict",data:=.dict #[]}) (t':=s.toks) (λ_ _ q=>Ld _ q) (Mt _) (qH s.heap I.big);refine wpAny_Dict_walk (knd:=cp X.prog X.w) b G E g (thn (h d _ L _ _ m (q _ k)) λws s2 ⟨U,S,i,r,e,kvs,D,T,R⟩=>?_);subst D;let⟨rs,c,F⟩:=ph (P:=X.prog) (w:=X.w) r;let⟨z,hd,J,N,A⟩:=Qq i.hok e;cases N;refine⟨rs,c,A,λh' f M=>⟨.ref s.heap.objs.size,_,?_,rfl,R⟩⟩;have B:(kg [] kvs).length≤aai:=by
  have O:=iZ kvs [];rw[adW]at O;rw[aae];omega
 have C:∃q,h'.get? s.heap.objs.size=some q:=let ⟨q,_,_,hq,_⟩:=f;⟨q,hq⟩;exact qe i (by rw[e];exact acz) M C (IX B hd (F.merge .nil) f)
section
variable {K:Kd}{H H':Hp}{τ:List (List Nat×Addr)}
mutual
theorem TAt.monoP(f:Pers H H'):∀{d:aD}{p:List Nat}{v:V},(∀q a,τ.lookup (p++q)=some a->H' a=H a)->TAt K H τ p d v->TAt K H' τ p d v
 | .none,_,_,_,h=>by simp only[TAt]at h⊢;exact h.mono f
 | .bool _,_,_,_,h=>by simp only[TAt]at h⊢;exact h.mono f
 | .int _,_,_,_,h=>by simp only[TAt]at h⊢;exact h.mono f
 | .str _,_,_,_,h=>by simp only[TAt]at h⊢;exact h.mono f
 | .tuple _,_,_,_,h=>by simp only[TAt]at h⊢;exact h.mono f
 | .list ts,p,_,e,h=>by
  simp only[TAt]at h⊢;let⟨a,xs,b,o,m,g⟩:=h;exact⟨a,xs,b,o,(e [] a (by rw[aaN];exact b)).trans m,TAtL.monoP f (λi q a z=>e (i::q) a z) g⟩
 | .dict kvs,p,_,e,h=>by
  simp only[TAt]at h⊢;rcases h with⟨d,b,h⟩|⟨r,A,a,s,b,o,m,k,g⟩|⟨r,A,a,s,b,o,m,g⟩|⟨c,a,dx,C,xs,B,b,o,m,k,g⟩
  .exact .inl ⟨d,b,h.mono f⟩
  .exact .inr (.inl ⟨r,A,a,s,b,o,(e [] a (by rw[aaN];exact b)).trans m,k,TAtD.monoP f (λi q a z=>e (i::q) a z) g⟩)
  .exact .inr (.inr (.inl ⟨r,A,a,s,b,o,(e [] a (by rw[aaN];exact b)).trans m,TAtK.monoP f (λi q a z=>e (i::q) a z) g⟩))
  .exact .inr (.inr (.inr ⟨c,a,dx,C,xs,B,b,o,(e [] a (by rw[aaN];exact b)).trans m,k,TAtF.monoP f (λi q a z=>e (i::q) a z) g⟩))
theorem TAtL.monoP(b:Pers H H'):∀{ds:List aD}{p:List Nat}{i:Nat}{xs:List V},(∀i q a,τ.lookup (p++i::q)=some a->H' a=H a)->TAtL K H τ p i ds xs->TAtL K H' τ p i ds xs
 |[],_,_,_,_,h=>by simpa only[TAtL]using h
 |t::ts,p,i,_,e,h=>by
  simp only[TAtL]at h⊢;let⟨v,vs,d,c,g⟩:=h;exact⟨v,vs,d,TAt.monoP b (λq a z=>e i q a (by simpa using z)) c,TAtL.monoP b e g⟩
theorem TAtD.monoP(b:Pers H H'):∀{ds:List (aD×aD)}{p:List Nat}{i:Nat}{xs:List (Int×V×V)},(∀i q a,τ.lookup (p++i::q)=some a->H' a=H a)->TAtD K H τ p i ds xs->TAtD K H' τ p i ds xs
 |[],_,_,_,_,h=>by simpa only[TAtD]using h
 |(k,t)::r,p,i,_,e,h=>by
  simp only[TAtD]at h⊢;let⟨u,v,vs,f,d,c,g⟩:=h;exact⟨u,v,vs,f,d.mono b,TAt.monoP b (λq a z=>e i q a (by simpa using z)) c,TAtD.monoP b e g⟩
theorem TAtK.monoP(b:Pers H H'):∀{ds:List (aD×aD)}{p:List Nat}{i:Nat}{xs:List (Key×V)},(∀i q a,τ.lookup (p++i::q)=some a->H' a=H a)->TAtK K H τ p i ds xs->TAtK K H' τ p i ds xs
 |[],_,_,_,_,h=>by simpa only[TAtK]using h
 |(k,t)::r,p,i,_,e,h=>by
  simp only[TAtK]at h⊢;let⟨u,v,vs,f,d,c,g⟩:=h;exact⟨u,v,vs,f,d,TAt.monoP b (λq a z=>e i q a (by simpa using z)) c,TAtK.monoP b e g⟩
theorem TAtF.monoP(b:Pers H H'):∀{ds:List (aD×aD)}{p:List Nat}{i:Nat}{xs:List (Str×V)},(∀i q a,τ.lookup (p++i::q)=some a->H' a=H a)->TAtF K H τ p i ds xs->TAtF K H' τ p i ds xs
 |[],_,_,_,_,h=>by simpa only[TAtF]using h
 |(.str f,t)::r,p,i,_,e,h=>by
  simp only[TAtF]at h⊢;let⟨v,vs,k,c,g⟩:=h;exact⟨v,vs,k,TAt.monoP b (λq a z=>e i q a (by simpa using z)) c,TAtF.monoP b e g⟩
 |(.none,d)::r,_,_,_,e,h=>by simp only[TAtF]at h⊢;exact TAtF.monoP b e h
 |(.bool _,d)::r,_,_,_,_,h=>by simp only[TAtF]at h
 |(.int _,d)::r,_,_,_,_,h=>by simp only[TAtF]at h
 |(.list _,d)::r,_,_,_,_,h=>by simp only[TAtF]at h
 |(.tuple _,d)::r,_,_,_,_,h=>by simp only[TAtF]at h
 |(.dict _,d)::r,_,_,_,_,h=>by simp only[TAtF]at h
end
end
def setT:aD->List Nat->aD->aD
 |_,[],n=>n
 | .list ts,i::p,n=>.list (ts.set i (setT (ts.getD i .none) p n))
 | .dict kvs,i::p,n=>.dict (kvs.set i ((kvs.getD i (.none,.none)).1,setT (kvs.getD i (.none,.none)).2 p n))
 |t,_::_,_=>t
section
variable {K:Kd}{H b:Hp}{τ:List (List Nat×Addr)}{p q:List Nat}{P:List Nat}
theorem TAtL.setL(k:Pers H b){t':aD}:∀{ts:List aD}{i j:Nat}{xs:List V},TAtL K H τ p i ts xs->(∀v,xs[j]?=some v->TAt K b τ (p++[i+j]) t' v)->(∀l,l≠i+j->∀q a,τ.lookup (p++l::q)=some a->b a=H a)->TAtL K b τ p i (ts.set j t') xs
 |[],_,_,_,h,_,_=>by simpa only[List.set_nil,TAtL]using h
 | t::ts,i,0,xs,h,c,e=>by
  simp only[TAtL]at h;let⟨v,vs,rfl,_,g⟩:=h;refine⟨v,vs,rfl,c v rfl,?_⟩;clear c;have:∀{ts:List aD}{d:Nat}{vs:List V},i<d->TAtL K H τ p d ts vs->TAtL K b τ p d ts vs:=by
   intro ts
   induction ts with
   |nil=>intro d vs _ h;simpa only[TAtL]using h
   |cons t ts n=>
    intro d vs o h;simp only[TAtL]at h⊢;let⟨v,vs,rfl,f,g⟩:=h;exact⟨v,vs,rfl,TAt.monoP k (λq a z=>e d (by exact abv ‹_›) q a (by simpa using z)) f,n (by omega) g⟩
  exact this (aby i) g
 |t::ts,i,j+1,xs,h,c,e=>by
  simp only[TAtL]at h;let⟨v,vs,rfl,f,g⟩:=h;exact⟨v,vs,rfl,TAt.monoP k (λq a z=>e i (by simp) q a (by simpa using z)) f,TAtL.setL k g (λm z=>by rw[show i+1+j=i+(j+1) by omega];exact c m (by simpa using z)) λl o=>e l (by omega)⟩
theorem TAtK.rest(d:Pers H b){i:Nat}(e:∀l,l≠i->∀q a,τ.lookup (p++l::q)=some a->b a=H a):∀{ts:List (aD×aD)}{c:Nat}{vs:List (Key×V)},i<c->TAtK K H τ p c ts vs->TAtK K b τ p c ts vs
 |[],_,_,_,h=>by simpa[TAtK]
 |_::ts,c,vs,hl,h=>by
  let⟨k,v,vs,rfl,g,j,f⟩:=h;exact⟨k,v,vs,rfl,g,TAt.monoP d (λq a z=>e c (by exact abv ‹_›) q a (by simpa using z)) j,TAtK.rest d e (by omega) f⟩
theorem TAtK.setK(f:Pers H b){t':aD}:∀{ts:List (aD×aD)}{i j:Nat}{xs:List (Key×V)}{d n:aD},TAtK K H τ p i ts xs->ts[j]?=some (d,n)->(∀v,(∃kk,xs[j]?=some (kk,v))->TAt K b τ (p++[i+j]) t' v)->(∀l,l≠i+j->∀q a,τ.lookup (p++l::q)=some a->b a=H a)->TAtK K b τ p i (ts.set j (d,t')) xs
 |[],_,_,_,_,_,_,z,_,_=>by simp at z
 |(k,t)::ts,i,0,xs,d,n,h,z,c,e=>by
  simp at z;let⟨rfl,rfl⟩:=z;simp only[TAtK]at h;let⟨kk,v,vs,rfl,m,_,g⟩:=h;exact⟨kk,v,vs,rfl,m,c v ⟨kk,rfl⟩,TAtK.rest f e (aby i) g⟩
 |(k,t)::ts,i,j+1,xs,d,n,h,z,c,e=>by
  let⟨kk,v,vs,rfl,m,r,g⟩:=h;exact⟨kk,v,vs,rfl,m,TAt.monoP f (λq a z=>e i (by omega) q a (by simpa using z)) r,TAtK.setK f g (by simpa using z) (by intro s ⟨o,z⟩;rw[show i+1+j=i+(j+1) by omega];exact c s ⟨o,by simpa using z⟩) λl u=>e l (by omega)⟩
end
theorem vP(nd:(τ.map (·.2)).Nodup){q:List Nat}(c:τ.lookup p=some a)(h:τ.lookup q=some a):p=q:=by
 induction τ with
 |nil=>cases c
 | cons x τ i=>
  let⟨r,b⟩:=x;rw[aak,aba]at nd;rw[aa3]at c h
  by_cases d:p==r
  .rw[d]at c;cases c
   by_cases e:q==r
   .simp_all
   .simp only[afJ]at e;rw[e]at h;exact(nd.1 (bC h)).elim
  .simp only[afJ]at d;rw[d]at c
   by_cases e:q==r
   .rw[e]at h;cases h;exact(nd.1 (bC c)).elim
   .simp only[afJ]at e;rw[e]at h;exact i nd.2 c h
def m8:aD->aD->Bool
 | .int a,.int b=>decide (a=b)
 | .str a,.str b=>decide (a=b)
 |_,_=>false
def nu(a b:Key):m8 (keyD a) (keyD b)=decide (a=b):=by
 cases a<;>cases b<;>simp[keyD,m8]
def oI(k:aD):Nat->List (aD×aD)->Option (Nat×aD)
 |_,[]=>none
 |i,(k',t)::r=>if m8 k' k=true then some (i,t)else oI k (i+1) r
def putD(k t:aD):List (aD×aD)->List (aD×aD)
 |[]=>[(k,t)]
 |(k',t')::r=>if m8 k' k=true then(k',t)::r else(k',t')::putD k t r
def lfD:aD->aD
 | .list ds=>.dict [(.none,.list ds)]
 | .dict ds=>.dict [(.none,.dict ds)]
 |d=>d
theorem qJ(h:isKd kvs=true):fzOf kvs=none/\excC kvs=none:=by
 cases kvs with
 |nil=>exact⟨rfl,rfl⟩
 |cons x r=>
  let⟨k,d⟩:=x
  cases k with
  |int _=>exact⟨rfl,rfl⟩
  |str _=>exact⟨rfl,rfl⟩
  |none=>simp[isKd]at h
  |bool _=>simp[isKd]at h
  |list _=>simp[isKd]at h
  |tuple _=>simp[isKd]at h
  |dict _=>simp[isKd]at h
section
variable {K:Kd}{H:Hp}{τ:List (List Nat×Addr)}{p:List Nat}
theorem TAtK.get':∀{ts:List (aD×aD)}{i j:Nat}{xs:List (Key×V)}{k t:aD},TAtK K H τ p i ts xs->ts[j]?=some (k,t)->∃kk v,xs[j]?=some (kk,v)/\k=keyD kk/\TAt K H τ (p++[i+j]) t v
 |[],_,_,_,_,_,_,e=>by simp at e
 |(k,t)::ts,i,0,xs,k',t',h,e=>by
  let⟨u,v,vs,rfl,c,b,_⟩:=h;simp at e;let⟨rfl,rfl⟩:=e;exact⟨u,v,rfl,c.1,b⟩
 |(k,t)::ts,i,j+1,xs,k',t',h,e=>by
  let⟨u,v,vs,rfl,_,_,g⟩:=h;let⟨kk,a,l,d,f⟩:=TAtK.get' (j:=j) g ‹_›;exact⟨kk,a,by simpa using l,d,by rw[show i+(j+1)=i+1+j by omega];exact f⟩
theorem TAtK.kd:∀{ts:List (aD×aD)}{i:Nat}{xs:List (Key×V)},TAtK K H τ p i ts xs->isKd ts=true
 |[],_,_,_=>rfl
 |_::ts,i,xs,h=>by
  let⟨u,v,vs,rfl,g,_,a⟩:=h;have:=a.kd;unfold isKd at this⊢;rw[ab0,this,g.1]
  cases u<;>rfl
theorem TAtK.len:∀{ts:List (aD×aD)}{i:Nat}{xs:List (Key×V)},TAtK K H τ p i ts xs->ts.length=xs.length
 |[],_,_,h=>by simp[TAtK]at h;subst h;rfl
 |(k,t)::ts,i,xs,h=>by
  let⟨u,v,vs,rfl,a,_,g⟩:=h;simp[g.len]
theorem TAtK.look{kk:Key}:∀{ts:List (aD×aD)}{i j:Nat}{xs:List (Key×V)}{t:aD},TAtK K H τ p i ts xs->oI (keyD kk) i ts=some (j,t)->∃v,valV xs kk=some v/\TAt K H τ (p++[j]) t v
 |[],_,_,_,_,_,e=>by cases e
 |(k,t)::ts,i,j,xs,t',h,e=>by
  simp only[TAtK]at h;let⟨u,v,vs,rfl,d,b,g⟩:=h;let⟨rfl,_⟩:=d;simp only[oI,nu]at e
  by_cases c:u=kk
  .rw[if_pos (decide_eq_true c)]at e;cases e;exact⟨v,dt (p:=(u,v)) c,b⟩
  .rw[if_neg (by simpa using c)]at e;let⟨a,l,f⟩:=TAtK.look g e;exact⟨a,by rw[du (p:=(u,v)) c];exact l,f⟩
theorem se{u:Key}{w:V}{vs:List (Key×V)}(c:u≠kk):putK ((u,w)::vs) kk v=(u,w)::putK vs kk v:=by
 unfold putK
 grind
theorem ul{w:V}{vs:List (Key×V)}(h:∀x∈vs,x.1≠kk):putK ((kk,w)::vs) kk v=(kk,v)::vs:=by
 unfold putK;rw[aex,decide_eq_true (rfl),Bool.true_or,if_pos rfl,aak,if_pos rfl]
 congr 1
 exact(acS λx a=>if_neg (h x a)).trans (ahr _)
def D9{vs:List (Key×V)}{x:Key×V}(h:x∈putK vs kk v):x.1=kk\/∃y∈vs,y.1=x.1:=by
 unfold putK at h
 split at h
 .obtain⟨y,h1,h2⟩:=aap.mp h;subst h2;refine .inr ⟨y,h1,?_⟩
  split<;>rfl
 .obtain h|h:=aaT.mp h
  .exact .inr ⟨x,h,rfl⟩
  .cases aab.mp h
   exact .inl rfl
theorem TAtK.put{v':V}(c:∀j,TAt K H τ (p++[j]) t' v'):∀{ts:List (aD×aD)}{i:Nat}{xs:List (Key×V)},TAtK K H τ p i ts xs->TAtK K H τ p i (putD (keyD kk) t' ts) (putK xs kk v')
 |[],i,xs,h=>by
  simp only[TAtK]at h;subst h;exact⟨kk,v',[],rfl,⟨rfl,λx a=>by cases a⟩,c i,rfl⟩
 | (k,t)::ts,i,xs,h=>by
  let⟨u,v,vs,rfl,g,d,b⟩:=h;let⟨rfl,g⟩:=g;simp only[putD,nu]
  by_cases e:u=kk
  .subst e;rw[if_pos (decide_eq_true rfl),ul g];simp only[TAtK];exact⟨u,v',vs,rfl,⟨rfl,g⟩,c i,b⟩
  .rw[if_neg (by simpa using e),se e];simp only[TAtK];refine⟨u,v,_,rfl,⟨rfl,λx a=>?_⟩,d,b.put c⟩;rcases D9 a with z|⟨y,f,z⟩
   .rw[z];exact λw=>e w.symm
   .rw[<-z];exact g y f
theorem mZ{d:aD}(h:Den K H d v):TAt K H τ p (lfD d) v:=by
 cases d with
 |list ds=>simp[lfD];exact .inl ⟨_,rfl,h⟩
 |dict ds=>simp[lfD];exact .inl ⟨_,rfl,h⟩
 |none=>simpa[ TAt]
 |bool _=>simpa[lfD]
 |int _=>simpa[ TAt]
 |str _=>simpa[lfD]
 |tuple _=>simpa[ TAt]
theorem TAt.kd(h:TAt K H τ p (.dict kvs) v)(e:isKd kvs=true):∃a es,τ.lookup p=some a/\v = .ref a/\H a=some (.dK es)/\TAtK K H τ p 0 kvs es:=by
 obtain _:=qJ e;rcases h with _|⟨_,_,b,es,f,d,c,k,g⟩|⟨_,_,b,es,f,d,c,g⟩|_
 .simp_all
 .rw[k.1]at e;cases e
 .exact⟨b,es,f,d,c,g⟩
 .simp_all
theorem TAt.node(h:TAt K H τ p t v)(e:iG t=none):∃a,τ.lookup p=some a/\v = .ref a:=by
 cases t with
 |list ts=>
  simp only[TAt]at h;let⟨a,x,f,i,_⟩:=h;exact⟨a,f,i⟩
 |dict k=>
  have l:fzOf k=none:=e;simp only[TAt]at h;rcases h with⟨d,f,_⟩|⟨_,_,b,m,f,i,j,n,g⟩|⟨_,_,b,m,f,i,j,g⟩|⟨c,b,dx,C,x,o,f,i,j,n,g⟩
  .rw[l]at f;cases f
  .exact⟨b,f,i⟩
  .exact⟨b,f,i⟩
  .exact⟨b,f,i⟩
 |none=>cases e
 |bool _=>cases e
 |int _=>cases e
 |str _=>cases e
 |tuple _=>cases e
end
def okW:aD->List Nat->Bool
 |_,[]=>true
 | .list ts,i::q=>okW (ts.getD i .none) q
 | .dict kvs,i::q=>(isKd kvs||(excC kvs).isSome)&&okW (kvs.getD i (.none,.none)).2 q
 |_,_::_=>false
theorem CI{i:Nat}{k:aD}(h:isKd kvs=true)(e:kvs[i]?=some (k,t)):isKd (kvs.set i (k,t'))=true:=by
 unfold isKd at h⊢;rw[abz]at h⊢;intro x a;rcases afg a with z|z
 .exact h x z
 .subst z;exact h (k,t) (GT e)
theorem TAtF.restF{K:Kd}{H g:Hp}{τ:List (List Nat×Addr)}{p:List Nat}(c:Pers H g){i:Nat}(e:∀l,l≠i->∀q a,τ.lookup (p++l::q)=some a->g a=H a):∀{ts:List (aD×aD)}{b:Nat}{vs:List (Str×V)},i<b->TAtF K H τ p b ts vs->TAtF K g τ p b ts vs
 |[],_,_,_,h=>by simpa only[TAtF]
 |(.str f,t)::ts,b,vs,hl,h=>by
  let⟨v,vs,rfl,k,j⟩:=h;exact⟨v,vs,rfl,TAt.monoP c (λq a z=>e b (by omega) q a (by simpa using z)) k,TAtF.restF c e (by omega) j⟩
 |(.none,d)::r,_,_,hl,h=>by simp only[TAtF];exact TAtF.restF c e (by omega) h
 |(.bool _,d)::r,_,_,_,h=>by simp[TAtF]at h
 |(.int _,d)::r,_,_,_,h=>by simp only[TAtF]at h
 |(.list _,d)::r,_,_,_,h=>by simp only[TAtF]at h
 |(.tuple _,d)::r,_,_,_,h=>by simp[TAtF]at h
 |(.dict _,d)::r,_,_,_,h=>by simp[TAtF]at h
theorem TAtF.setF{K:Kd}{H g:Hp}{τ:List (List Nat×Addr)}{p:List Nat}(m:Pers H g){t' w:aD}{u:Str}:∀{ts:List (aD×aD)}{i j:Nat}{xs:List (Str×V)},TAtF K H τ p i ts xs->ts[j]?=some (.str u,w)->(∀v,TAt K H τ (p++[i+j]) w v->TAt K g τ (p++[i+j]) t' v)->(∀l,l≠i+j->∀q a,τ.lookup (p++l::q)=some a->g a=H a)->TAtF K g τ p i (ts.set j (.str u,t')) xs
 |[],_,_,_,_,z,_,_=>by simp at z
 |(k,t)::ts,i,0,xs,h,z,c,e=>by
  simp at z;let⟨rfl,rfl⟩:=z;simp only[TAtF]at h;let⟨v,vs,rfl,o,n⟩:=h;simp only[agX,TAtF];exact⟨v,vs,rfl,c v o,TAtF.restF m e (aby i) n⟩
 |(.str f,t)::ts,i,j+1,xs,h,z,c,e=>by
  simp only[TAtF]at h;let⟨v,vs,rfl,o,n⟩:=h;exact⟨v,vs,rfl,TAt.monoP m (λq a z=>e i (by omega) q a (by simpa using z)) o,TAtF.setF m n (by simpa using z) (λs b=>by rw[show i+1+j=i+(j+1) by omega]at b⊢;exact c s b) λl x=>e l (by omega)⟩
 |(.none,d)::ts,i,j+1,xs,h,z,c,e=>by
  simp only[TAtF]at h;simp only[agY,TAtF];exact TAtF.setF m h (by simpa using z) (λs b=>by rw[show i+1+j=i+(j+1) by omega]at b⊢;exact c s b) λl x=>e l (by omega)
 |(.bool _,d)::r,_,_+1,_,h,_,_,_=>by simp only[TAtF]at h
 |(.int _,d)::r,_,_+1,_,h,_,_,_=>by simp only[TAtF]at h
 |(.list _,d)::r,_,_+1,_,h,_,_,_=>by simp only[TAtF]at h
 |(.tuple _,d)::r,_,_+1,_,h,_,_,_=>by simp only[TAtF]at h
 |(.dict _,d)::r,_,_+1,_,h,_,_,_=>by simp only[TAtF]at h
theorem TAt.ins{K:Kd}{c:Str}(h:TAt K H τ p (.dict kvs) v)(e:excC kvs=some c):∃a dx C xs,τ.lookup p=some a/\v = .ref a/\H a=some (.ins C dx xs)/\ClsN K c C/\TAtF K H τ p 0 kvs xs:=by
 have b:fzOf kvs=none:=by
  unfold excC at e
  split at e
  .rfl
  .cases e
 simp only[TAt]at h
 grind
theorem DU{i:Nat}{x:aD×aD}{c:Str}{k:aD}(h:excC kvs=some c)(e:kvs[i]?=some (k,t))(a:k≠.none):excC (kvs.set i x)=some c:=by
 cases kvs with
 |nil=>cases h
 | cons y r=>
  cases i with
  |zero=>
   simp;unfold excC at h
   simp_all
  |succ i=>
   unfold excC at h⊢
   split at h
   .rename_i z;simp at z;let⟨rfl,rfl⟩:=z;exact h
   .cases h
theorem TAt.set{K:Kd}{H:Hp}{τ:List (List Nat×Addr)}(nd:(τ.map (·.2)).Nodup){a:Addr}{o:HO}{n:aD}(L:Pers H (upd H a o)):∀{q p:List Nat}{t J:aD}{v:V},TAt K H τ p t v->getT t q=some J->okW t q=true->τ.lookup (p++q)=some a->TAt K (upd H a o) τ (p++q) n (.ref a)->(∀u,TAt K H τ (p++q) J u->u = .ref a)->TAt K (upd H a o) τ p (setT t q n) v
 |[],p,t,J,v,h,e,_,_,hn,hu=>by
  cases e;rw[aaN]at hn hu;rw[hu v h];unfold setT;exact hn
 | i::q,p,t,J,v,h,e,ok,ea,hn,hu=>by
  have m:∀(r:List Nat) (b:Addr),τ.lookup r=some b->r≠p++i::q->(upd H a o) b=H b:=λr b z ne=>av λeb=>by
   subst eb;exact ne (vP nd z ea)
  have G:τ.lookup ((p++[i])++q)=some a:=by simpa using ea
  have E:TAt K (upd H a o) τ ((p++[i])++q) n (.ref a):=by simpa using hn
  have D:∀u,TAt K H τ ((p++[i])++q) J u->u = .ref a:=λu z=>hu u (by simpa using z);simp only[getT]at e
  cases z:chD t i with
  |none=>rw[z]at e;cases e
  | some P=>
   rw[z]at e;have R:getT P q=some J:=e;have F:∀l,l≠0+i->∀r b,τ.lookup (p++l::r)=some b->(upd H a o) b=H b:=λl hl r b U=>m _ _ U λy=>by
    have:=List.append_cancel_left y;injection this with h1 _
    omega
   have self:∀b,τ.lookup p=some b->(upd H a o) b=H b:=λb U=>m _ _ U λy=>by
    have:=congrArg adn y;simp at this
   cases t with
   |list ts=>
    have d:ts[i]?=some P:=z;have M:ts.getD i .none=P:=by rw[aar,d];rfl
    simp only[TAt]at h;let⟨b,Q,B,I,N,g⟩:=h;simp only[setT,M,TAt];refine⟨b,Q,B,I,(self b B).trans N,TAtL.setL L g (λY S=>?_) F⟩;let⟨v2,f,A⟩:=g.get (j:=i) d;rw[S]at f;cases f;rw[acJ]at A⊢;exact TAt.set nd L A R (by simp only[okW,M]at ok;exact ok) G E D
   | dict x=>
    simp only[chD]at z
    cases d:x[i]? with
    |none=>rw[d]at z;cases z
    |some kt=>
     let⟨k,O⟩:=kt;rw[d]at z;have X:k≠.none:=λw=>by subst w;cases z
     have I:O=P:=by split at z<;>simp_all
     subst I;have M:x.getD i (.none,.none)=(k,O):=by rw[aar,d];rfl
     simp only[okW,M,aaS,aga]at ok;rcases ok.1 with s|s
     .obtain⟨b,es,B,I,N,g⟩:=h.kd s;have T:isKd (x.set i (k,setT O q n))=true:=CI s d;let⟨n1,n2⟩:=qJ T;simp only[setT,M,TAt];refine .inr (.inr (.inl ⟨n1,n2,b,es,B,I,(self b B).trans N,TAtK.setK L g d (λY ⟨kk,S⟩=>?_) F⟩));let⟨Z,v2,f,_,A⟩:=g.get' (j:=i) d;rw[S]at f;cases f;rw[acJ]at A⊢;exact TAt.set nd L A R ok.2 G E D
     .obtain⟨c,ec⟩:=afu.mp s;let⟨b,dx,C,Q,B,I,N,kc,g⟩:=h.ins ec;let⟨f0,rfl⟩:=g.key (GT d) X;have W:excC (x.set i (.str f0,setT O q n))=some c:=DU ec d X;simp only[setT,M,TAt];refine .inr (.inr (.inr ⟨c,b,dx,C,Q,W,B,I,(self b B).trans N,kc,TAtF.setF L g d (λY A=>?_) F⟩));rw[acJ]at A⊢;exact TAt.set nd L A R ok.2 G E D
   |none=>cases z
   |bool _=>cases z
   |int _=>cases z
   |str _=>cases z
   |tuple _=>cases z
abbrev onAt(P:Nat->List Nat->Prop):R->Prop
 | .at k p=>P k p
 |_=>False
abbrev Gu(P:aD->Prop):R->Prop
 | .imm (.int i)=>P (.int i)
 | .imm (.str x)=>P (.str x)
 |_=>False
def f9(k:Nat)(p:List Nat)(j:Nat)(t:aD):R:=match iG t with
 |some d=>.imm d
 |none=>.at k (p++[j])
section
variable {K:Kx}{b:Al}{c H:Hp}{r:R}{v:V}{m:MSt}{f:St}
theorem yf{P:Nat->List Nat->Prop}(rr:RelR K b c H r v)(h:onAt P r):∃k p τ a,r = .at k p/\b[k]?=some (.T τ)/\τ.lookup p=some a/\v = .ref a/\P k p:=by
 unfold onAt at h
 split at h
 .obtain⟨τ,a,e1,e2,e3⟩:=rr;exact⟨_,_,τ,a,rfl,e1,e2,e3,h⟩
 .simp_all
theorem GW{P:aD->Prop}(rr:RelR K b c H r v)(h:Gu P r):∃kk:Key,r = .imm (keyD kk)/\v=kV kk/\P (keyD kk):=by
 unfold Gu at h
 split at h
 .rename_i i;exact⟨.inl i,rfl,aF (show Den K H _ v from rr),h⟩
 .rename_i x;exact⟨.inr x,rfl,bu (show Den K H _ v from rr),h⟩
 .simp_all
theorem Rel.dict(R:Rel K b m f H){k:Nat}(i:b[k]?=some (.T τ))(o:τ.lookup p=some a)(e:m.os[k]?=some [t])(d:getT t p=some (.dict kvs))(h:isKd kvs=true) :
  ∃es,H a=some (.dK es)/\TAtK K H τ p 0 kvs es:=by
 let⟨⟨l,n,z,g,_⟩,_⟩:=R.own k _ _ i e;cases z;let⟨q,j⟩:=g.get d;obtain _:=j.kd h
 simp_all
theorem j2(R:Rel K b m f H){k:Nat}(l:b[k]?=some (.T τ))(h:TAt K H τ (p++[j]) t v):RelR K b c H (f9 k p j t) v:=by
 unfold f9
 cases e:iG t with
 |some d=>exact i8 h e
 |none=>
  let⟨a,i,g⟩:=h.node e;exact⟨τ,a,l,i,g⟩
end
section
variable {X:Cx}{o i e:Expr}{wo wi we:WE}{pos pos':Pos}
def dGot(m:MSt)(k:Nat)(p:List Nat)(y:aD)(K:R->Prop):Prop:=∃t a j b,m.os[k]?=some [t]/\getT t p=some (.dict a)/\isKd a=true/\oI y 0 a=some (j,b)/\K (f9 k p j b)
def RJ(m:MSt)(k:Nat)(p:List Nat)(y d:aD)(P:aD->Prop):Prop:=∃t a,m.os[k]?=some [t]/\getT t p=some (.dict a)/\isKd a=true/\okW t p=true/\a.length<aai/\P (setT t p (.dict (putD y (lfD d) a)))
abbrev wDIx(wo wi:WE):WE:=λm K=>wo m λb m1=>wi m1 λa m2=>onAt (λk p=>Gu (λy=>dGot m2 k p y λr=>K r m2) a) b
theorem QW(V:X.A.units+64<cLine)(G:ME X o wo)(B:ME X i wi)(w:NoSl i:=by intro _ _;rfl):ME X (.Subscript o i pos) (wDIx wo wi):=(Lq (by omega) G B w).wk<|by
 intro J H Q ⟨g,m,P,n,y,f⟩;refine⟨g,m,_,n,y,λO m1 L T k1 n1 b r I=>⟨g,m1,_,b,k1,λK m2 N x k2 n2 R c F=>?_⟩⟩;let⟨k,p,W,a,rfl,d,z,rfl,k2⟩:=yf r k2;let⟨U,rfl,rfl,t,C,j,S,l,E,u,A,k2⟩:=GW c k2;let⟨M,D,q⟩:=R.dict d z l E u;let⟨v,s,h⟩:=q.look A;refine⟨a,v,rfl,by rw[<-s];exact DGet.k D,f _ m2 v x k2 (n2.trans n1) R ?_ (I.trans F)⟩;exact j2 R d h
abbrev Ue(we wo wi:WE):WS:=λD m=>we m λr m1=>i6 (λd=>wo m1 λc m2=>wi m2 λb a=>onAt (λk p=>Gu (λy=>RJ a k p y d λt=>D.nx {a with os:=a.os.set k [t]}) b) c) r
theorem Jv(hu:X.A.units+64<cLine)(he:ME X e we)(ho:ME X o wo)(hi:ME X i wi)(hs:abA e (some (.Subscript o i pos')) pos.line X.env=pure false:=by rfl):MS X (.Assign [.Subscript o i pos'] e pos) (Ue we wo wi):=(Ju (by omega) ho hi he hs).wk<|by
 intro D σ H ⟨w,m,De,Z,hw,k⟩;refine⟨w,m,_,Z,hw,λr m1 v H1 q n1 n rr F1=>?_⟩;let⟨d,er,hd,q⟩:=fq rr q;refine⟨w,m1,_,n,q,λro m2 ov H2 q2 n2 A I Y=>⟨w,m2,_,A,q2,λri m3 iv h B n3 R J W=>?_⟩⟩;let⟨kk,p,x,a,rfl,E,f,rfl,B⟩:=yf I B;let⟨y,rfl,rfl,t,c,O,P,T,e6,e7,B⟩:=GW J B;let⟨C,V,S⟩:=R.dict E f O P T;have M:Den X.kx h d v:=(hd.mono (n.pers Y)).mono (A.pers W);let⟨⟨t1,v0,z,g,a0,N,G⟩,mu⟩:=R.own kk (.T x) _ E O;cases z;have F:Pers h (upd h a (.dK (putK C y v))):=bm (.inr ⟨_,V,rfl⟩);have nd:(x.map (·.2)).Nodup:=((fY w).mp R.nd).1 (.T x) (GT E);have L:TAtK X.kx (upd h a (.dK (putK C y v))) x p 0 c C:=TAtK.monoP F (λi q b zb=>av λeb=>by
  subst eb;have:=congrArg adn (vP nd zb f);simp at this) S
 have new:TAt X.kx (upd h a (.dK (putK C y v))) x p (.dict (putD (keyD y) (lfD d) c)) (.ref a):=by
  have Q:=L.put (kk:=y) (t':=lfD d) (v':=v) λj=>mZ (M.mono F);let⟨z1,z2⟩:=qJ Q.kd;simp only[TAt];exact .inr (.inr (.inl ⟨z1,z2,a,_,f,rfl,ay,Q⟩))
 have all:=TAt.set nd F g P e6 (by rw[abf];exact f) (by rw[abf];exact new) λu l=>by
  rw[abf]at l;let⟨a',es',s,eu,_⟩:=l.kd T;rw[f]at s;cases s;exact eu
 let⟨U,F4⟩:=R.setW E F (ds':=[setT t p (.dict (putD (keyD y) (lfD d) c))]) (λb K=>av λeb=>K (eb▸bC f)) ⟨⟨_,v0,rfl,all,a0,N,G⟩,λb K=>by
  by_cases eb:b=a
  .subst eb;exact⟨_,ay,rfl⟩
  .rw[av eb];exact mu b K⟩
 exact⟨a,_,rfl,DPut.k V (by rw[<-S.len];exact e7),k.nx w _ σ _ B (n3.trans (n2.trans n1)) U (.of U (((F1.trans Y).trans W).trans F4))⟩
def o9:List (WE×WE)->MSt->(List (R×R)->MSt->Prop)->Prop
 |[],m,K=>K [] m
 |(wk,wv)::r,m,K=>wk m λc m1=>wv m1 λb m2=>o9 r m2 λp a=>K ((c,b)::p) a
inductive RelPs(K:Kd)(α:Al)(Hb H:Hp):List (R×R)->List (V×V)->Prop where
 |nil:RelPs K α Hb H [] []
 |cons {r1 r2:R}{rs:List (R×R)}{v1 v2:V}{vs:List (V×V)}:RelR K α Hb H r1 v1->RelR K α Hb H r2 v2->RelPs K α Hb H rs vs->RelPs K α Hb H ((r1,r2)::rs) ((v1,v2)::vs)
theorem RelPs.base{K:Kx}{a:Al}{m:MSt}{d:St}{c:Hp}(b:Rel K a m d H)(F:Frm a c H):∀{rs:List (R×R)}{vs:List (V×V)},RelPs K a H H' rs vs->RelPs K a c H' rs vs
 |_,_,.nil=>.nil
 |_,_,.cons h1 h2 t=>.cons (h1.base b F) (h2.base b F) (t.base b F)
theorem wg{K:Kx}:∀{s:List (WE×WE)}{c:Al}{m:MSt}{d:St}{H:Hp}{g:List (R×R)->MSt->Prop}{Q:List (V×V)->Hp->Prop},Rel K c m d H->o9 s m g ->
  (∀ps k vs f,g ps k->k.np=m.np->Rel K c k d f->RelPs K c H f ps vs->Frm c H f->Q vs f)->vJ (s.map λw=>(tM K w.1,tM K w.2)) d H Q
 |[],c,m,d,H,g,Q,Rl,h,fin=>fin _ m _ H h rfl Rl .nil (Frm.refl _ _)
 | (wk,wv)::r,c,m,d,H,g,Q,Rl,h,fin=>
  ⟨c,m,_,Rl,h,λr1 m1 z B k1 n1 a l F=>⟨c,m1,_,a,k1,λC m2 A y k2 n2 b j p=>
   wg b k2 λps x vs t v u q rs n=>fin _ x _ t v (u.trans (n2.trans n1)) q
    (.cons ((l.keep Rl a p).keep Rl b n) ((j.keep a b n).base a F) (rs.base b (F.trans p))) ((F.trans p).trans n)⟩⟩
def kj:List (R×R)->Option (List (aD×aD))
 |[]=>some []
 |(.imm (.int i),.imm d)::r=>(kj r).map ((.int i,d) :: ·)
 |(.imm (.str x),.imm d)::r=>(kj r).map ((.str x,d) :: ·)
 |_::_=>none
def lfKV(kvs:List (aD×aD)):List (aD×aD):=kvs.map λk=>(k.1,lfD k.2)
def ug:List (aD×aD)->Bool
 |[]=>true
 |(k,_)::r=>r.all (λa=>!m8 a.1 k)&&ug r
theorem zO{K:Kx}{s:Al}{u:Hp}{ps:List (R×R)}{vs:List (V×V)}(h:RelPs K s u H ps vs):∀{kvs:List (aD×aD)}{i:Nat},kj ps=some kvs->ug kvs=true->∃es:List (Key×V),vs=es.map (λk=>(kV k.1,k.2))/\TAtK K H τ p i (lfKV kvs) es/\∀kk,(kvs.all λk=>!m8 k.1 (keyD kk))=true->∀x∈es,x.1≠kk:=by
 induction h with
 |nil=>intro kvs i e _;cases e;exact⟨[],rfl,by simp[lfKV,TAtK],λ_ _ _ h=>by cases h⟩
 | @cons r1 r2 rs v1 v2 vs h1 h2 t ih=>
  intro kvs i e n;have go:∀(kk:Key) (d:aD),r1 = .imm (keyD kk)->r2 = .imm d->(kj rs).map ((keyD kk,d) :: ·)=some kvs->∃es:List (Key×V),(v1,v2)::vs=es.map (λk=>(kV k.1,k.2))/\TAtK K H τ p i (lfKV kvs) es/\∀kk,(kvs.all λk=>!m8 k.1 (keyD kk))=true->∀x∈es,x.1≠kk:=by
   clear e;intro kk d l f e;subst l f
   cases q:kj rs with
   |none=>rw[q]at e;cases e
   | some a=>
    rw[q]at e;cases e;simp only[ug,aaS]at n;let⟨es,m,g,un⟩:=ih (i:=i+1) q n.2;have c:v1=kV kk:=by
     cases kk with
     |inl i=>exact aF (show Den K H (.int i) v1 from h1)
     |inr x=>exact bu (show Den K H (.str x) v1 from h1)
    subst c;refine⟨(kk,v2)::es,by rw[aak,<-m],?_,λj hk x b=>?_⟩
    .simp only[lfKV,aak,TAtK];exact⟨kk,v2,es,rfl,⟨rfl,un kk n.1⟩,mZ h2,g⟩
    .rw[ab0,aaS,nu]at hk;rcases aaf.mp b with z|z
     .subst z;simpa using hk.1
     .exact un j hk.2 x z
  unfold kj at e
  split at e
  .rename_i z;cases z
  .rename_i i' d r z;cases z;exact go (.inl i') d rfl rfl e
  .rename_i x d r z;cases z;exact go (.inr x) d rfl rfl e
  .cases e
theorem sk:∀{more kvs:List (Key×V)},(more.map (·.1)).Nodup->(∀x∈more,valV kvs x.1=none)->kg kvs more=kvs++more
 |[],kvs,_,_=>(aaN _).symm
 | (k,v)::more,kvs,nd,h=>by
  show kg (putK kvs k v) more=_;rw[aak,aba]at nd;rw[CQ v (h (k,v) aaa),sk nd.2 λx a=>?_,aaU]
  .rfl
  .rw[tW _ _ _ _ (h (k,v) aaa),if_neg]
   .exact h x (LD _ a)
   .exact λz=>nd.1 (z▸List.mem_map_of_mem a)
theorem TAtK.nodup{K:Kd}:∀{ts:List (aD×aD)}{i:Nat}{xs:List (Key×V)},TAtK K H τ p i ts xs->(xs.map (·.1)).Nodup
 |[],_,_,h=>by simp only[TAtK]at h;subst h;exact abE
 |(k,t)::ts,i,xs,h=>by
  simp only[TAtK]at h;let⟨u,v,vs,rfl,g,_,b⟩:=h;rw[aak];rw[aba];refine⟨λz=>?_,b.nodup⟩;let⟨x,c,a⟩:=aap.mp z;exact g.2 x c a
def Bq(P:List (aD×aD)->Prop):Option (List (aD×aD))->Prop
 |some k=>ug k=true/\k.length≤15/\P (lfKV k)
 |none=>False
abbrev QR(w:List (WE×WE)):WE:=λm K=>o9 w m λp a=>Bq (λk=>K (.newT (.dict k)) a) (kj p)
def MPs(X:Cx)(pos:Pos)(keys:List (Option Expr))(v:List Expr)(a:List (WE×WE)):Prop:=PPs X pos keys v (a.map λw=>(tM X.kx w.1,tM X.kx w.2))
def JO:MPs X pos [] [] []:=Lm
def Fe{k v:Expr}{vs:List Expr}{wk:WE}(hk:ME X k wk)(h:ME X v wv)(a:MPs X pos ks vs ws):MPs X pos (some k::ks) (v::vs) ((wk,wv)::ws):=D5 hk h a
theorem JV{keys:List (Option Expr)}(h:MPs X pos keys values ws)(f:keys.all (·.isSome)=true:=by rfl)(u:keys.length=values.length:=by rfl)(I:keys≠[]:=by exact λz=>by cases z)(r:keys.length≤15:=by decide):ME X (.Dict keys values pos) (QR ws):=
 (MZ h f u I r).wk<|by
 intro O H Q ⟨l,m,P,n,D,t⟩;intro p k;refine wg (n.lay k) D λE m1 vs j k1 n1 R y F=>?_
 cases e:kj E with
 |none=>rw[e]at k1;exact k1.elim
 | some kvs=>
  rw[e]at k1;let⟨L,u,k1⟩:=k1;have a:p∉ads l:=n.out k;have v:j p=some (.dK []):=F p _ ay a;let⟨d,K,g,_⟩:=zO (τ:=[([],p)]) (p:=[]) (i:=0) y e L;refine⟨v,d,K,by rw[<-g.len];simpa[lfKV]using u,?_⟩;have N:kg [] d=d:=by
   have:=sk (more:=d) (kvs:=[]) g.nodup λx _=>rfl;rwa[abf]at this
  rw[N];have w:Pers j (upd j p (.dK d)):=bm (.inr ⟨_,v,rfl⟩);have fr:Frm l H (upd j p (.dK d)):=λb G eb nb=>by
   have ne:b≠p:=bq eb k;rw[av ne];exact F b G (by rw[av ne];exact eb) nb
  have old:Ext X.kx.eb.np l H l (upd j p (.dK d)):=⟨rfl,fr,λ_ h=>.inl h,λb c=>by
   have s:b≠p:=λe=>a (e▸c);rw[av s];let⟨M,C,_⟩:=R.mem c;exact⟨M,C⟩⟩
  refine t _ m1 _ _ k1 n1 (R.at' w (λb c=>av λe=>a (e▸c)) (n.ebx.trans old)) ⟨[([],p)],p,rfl,rfl,by simp,λb c=>by simp at c;subst c;exact k,⟨⟨_,.ref p,rfl,?_,p,rfl,rfl⟩,λb c=>by simp at c;subst c;exact⟨_,ay,rfl⟩⟩⟩ fr;let⟨A,J⟩:=qJ g.kd;simp only[TAt];refine .inr (.inr (.inl ⟨A,J,p,d,rfl,rfl,ay,TAtK.monoP w (λi q b B=>?_) g⟩));simp[aez]at B
end
section
variable {m:MSt}{Q:R->MSt->Prop}{w f g:WE}{D:dm}
def T9{k:Nat}{y d:aD}{K:R->Prop}(c:m.os[k]?=some [t])(b:getT t p=some (.dict kvs))(e:isKd kvs=true)(i:oI y 0 kvs=some (j,t'))(a:iG t'=some d)(h:K (.imm d)) :
  dGot m k p y K:=⟨t,kvs,j,t',c,b,e,i,by unfold f9;rw[a];exact h⟩
theorem wD{y t t':aD}:∀{kvs:List (aD×aD)}{i j:Nat},oI y i kvs=some (i+j,t')->∃k',m8 k' y=true/\putD y t kvs=kvs.set j (k',t)
 |[],_,_,e=>by cases e
 | (k',t0)::r,i,j,e=>by
  simp only[oI]at e
  by_cases c:m8 k' y=true
  .rw[if_pos c]at e;have:i=i+j:=by simpa using congrArg (Option.map (·.1)) e
   obtain rfl:j=0:=by omega
   exact⟨k',c,by simp only[putD,if_pos c,agX]⟩
  .rw[if_neg c]at e
   cases j with
   | zero=>
    exfalso;have b:∀{kvs:List (aD×aD)}{i j:Nat}{a:aD},oI y i kvs=some (j,a)->i≤j:=by
     intro kvs
     induction kvs with
     |nil=>intro i j a e;cases e
     |cons x r d=>
      intro i j a e;let⟨k1,l⟩:=x;simp only[oI]at e
      split at e
      .cases e;exact Mt _
      .have:=d e;omega
    have:=b e;omega
   |succ j=>
    let⟨k2,h,k⟩:=wD (t:=t) (i:=i+1) (j:=j) (by rw[e];congr 2;omega);exact⟨k2,h,by simp only[putD,if_neg c,agY,k]⟩
def FG{a b:aD}(h:m8 a b=true):a=b:=by
 unfold m8 at h
 split at h
 .rw[of_decide_eq_true h]
 .rw[of_decide_eq_true h]
 .cases h
theorem Nr{k:Nat}{y d:aD}{P:aD->Prop}(l:m.os[k]?=some [t])(c:getT t p=some (.dict kvs))(e:isKd kvs=true)(o:okW t p=true)(b:kvs.length<aai)(q:oI y 0 kvs=some (j,t'))(h:P (setT t p (.dict (kvs.set j (y,lfD d))))) :
  RJ m k p y d P:=by
 let⟨r,n,a⟩:=wD (t:=lfD d) (i:=0) (j:=j) (by rw[q,acJ]);rw[FG n]at a;exact⟨t,kvs,l,c,e,o,b,by rw[a];exact h⟩
def SV(h:K [] m):o9 [] m K:=h
def Jl{wk:WE}{r:List (WE×WE)}(h:wk m λc m1=>wv m1 λb m2=>o9 r m2 λps a=>K ((c,b)::ps) a):o9 ((wk,wv)::r) m K:=h
def zy{P:List (aD×aD)->Prop}{o:Option (List (aD×aD))}{k:List (aD×aD)}(e:o=some kvs)(c:ug kvs=true)(b:kvs.length≤15)(a:lfKV kvs=k)(h:P k):Bq P o:=by subst e;subst a;exact⟨c,b,h⟩
theorem qW{P:MSt->Prop}(h:P {vs:=m.vs.set n (some (.at m.os.length [])),os:=m.os++[[t]],np:=m.np}):sU n P m (.newT t):=.inl h
end
section
variable {X:Cx}{o i e:Expr}{wo wi we:WE}{pos pos':Pos}
theorem gG(b:X.A.units+64<cLine)(h:EE X o wo)(a:EE X i wi)(c:NoSl i:=by intro _ _;rfl):EE X (.Subscript o i pos) (wDIx wo wi):=⟨QW b h.h a.h c⟩
def qp(d:X.A.units+64<cLine)(c:EE X e we)(h:EE X o wo)(a:EE X i wi)(b:abA e (some (.Subscript o i pos')) pos.line X.env=pure false:=by rfl):ES X (.Assign [.Subscript o i pos'] e pos) (Ue we wo wi):=⟨Jv d c.h h.h a.h b⟩
structure EPs(X:Cx)(pos:Pos)(keys:List (Option Expr))(values:List Expr)(ws:List (WE×WE)):Prop where
 h:MPs X pos keys values ws
def CK:EPs X pos [] [] []:=⟨JO⟩
def my{k v:Expr}{vs:List Expr}{wk:WE}(hk:EE X k wk)(h:EE X v wv)(a:EPs X pos ks vs ws):EPs X pos (some k::ks) (v::vs) ((wk,wv)::ws):=⟨Fe hk.h h.h a.h⟩
def D8{keys:List (Option Expr)}(h:EPs X pos keys values ws)(a:keys.all (·.isSome)=true:=by rfl)(c:keys.length=values.length:=by rfl)(d:keys≠[]:=by exact λz=>by cases z)(b:keys.length≤15:=by decide):EE X (.Dict keys values pos) (QR ws):=⟨JV h.h a c d b⟩
end
def t9{A:aa4}(t:Bool)(c:A.handled=none)(I a:Addr)(b:a≠I)(items:Array mT):Walks prog w A I [I,a] [I] items.size (λi v=>items[i]?=some v) (λi h=>SubI t h I a i/\SubS t h a items):=by
 cases t
 .exact Walks.list c I a b items
 .exact Walks.tuple c I a b items
section
variable {prog:aaF}{w:World}{A:aa4}{E:mT->AD->Prop}{s:AD}
theorem xv{t:Bool}(c:SubS t s.heap l items)
  (h:∀s2:AD,s2={s with heap:=s.heap.push (itO t l)}->(SubI t s2.heap s.heap.objs.size l 0/\SubS t s2.heap l items)->(∀b∈[s.heap.objs.size,l],b<s2.heap.objs.size)->l≠s.heap.objs.size->Q (.ref s.heap.objs.size) s2):wpAny (model prog w) A (afU (.ref l)) Q E s:=by
 have a:l<s.heap.objs.size:=by
  cases t
  .obtain⟨_,e,_⟩:=(c);exact aao e
  .obtain⟨_,e,_⟩:=(c);exact aao e
 refine jO c (h _ rfl ⟨?_,c.keep λo e=>Ld _ e⟩ (λb d=>?_) (aa1 a))
 .cases t
  .exact⟨_,aan _ rfl,rfl,rfl⟩
  .exact⟨_,aan _ rfl,rfl,rfl⟩
 .rw[abC];simp at d;rcases d with rfl|rfl
  .simp
  .exact aed a
def w4{t:Bool}(hk:∀b o,b∉[s.heap.objs.size]->(s.heap.push (itO t l)).get? b=some o->h'.get? b=some o):∀b o,s.heap.get? b=some o->h'.get? b=some o:=λb o e=>
 hk b o (λh=>absurd (aao e) (by rw[aab.mp h];exact acO _)) (Ld _ e)
def u6(h:aeS items.toList ns):∀(i:Nat) (v:mT),items[i]?=some v->∃t,v = .int (ns.getD i 0) t:=λi v e=>h.int_at i v (by simpa)
end
section
variable {X:Cx}
def rMax(K:aad):List V->Hp->VK->Prop:=λa H Q=>∃t l ns,a=[.ref l]/\SqB t K H l (ns.map V.int)/\ns≠[]/\∀x,x∈ns->(∀y∈ns,y≤x)->Q (.int x) H
theorem Fx{b:Nat}(c:b≤ns.length-1)(h:ns≠[]):ns.getD b 0∈ns:=by
 have a:b<ns.length:=by
  have:ns.length≠0:=λz=>h (aa6 z);omega
 rw[bO (lD a)];simp
theorem su(C:X.calm=true):dM X (.builtin "max") (rMax X.K):=by
 intro p s F H G E Q I w ⟨t,l,ns,ex,g,d,q⟩;subst ex;let⟨u,rfl,B⟩:=w.one;cases B;let⟨a,r,n,_⟩:=I.sqb g;have f:=fx r;have z:a.length=ns.length:=by have:=r.length;rw[iO]at this;omega
 refine call_max_walk (xv n λs2 e k b c=>?_);subst e;refine⟨s.heap.objs.size,[s.heap.objs.size,l],[s.heap.objs.size],a.toArray.size,λi v=>a.toArray[i]?=some v,λi h=>SubI t h s.heap.objs.size l i/\SubS t h l a.toArray,_,rfl,t9 (A:=X.A.in1) t (I.ok.hd C) _ l c a.toArray,k,b,?_,CmpOf.ints_gt (λi=>ns.getD i 0) (u6 f),λv J D o hk=>?_⟩
 .grind
 .obtain⟨tt,rfl⟩:=u6 f _ v o;rw[aaJ,z]at *;let⟨b1,b2⟩:=PySem.argBest_gt (λi=>ns.getD i 0) (ns.length-1);refine⟨.int _,H,I.kept (t':=D) (w4 hk),⟨_,rfl⟩,q _ (Fx b1 d) λy m=>?_⟩;let⟨j,x,rfl⟩:=abW.mp m;have:=b2 j (by omega);rwa[bO (lD x)]at this
end
section
variable {X:Cx}
def QE:WC:=λrs m K=>on1 (λr=>∃ds ns,sqOf m r=some ds/\db ds=some ns/\ns≠[]/\∀x,x∈ns->(∀y∈ns,y≤x)->K (.imm (.int x))) rs
theorem fy(k:X.calm=true):dM X (.builtin "max") (cM X.kx QE):=by
 intro p s b H w u Q I j ⟨A,m,t,z,rs,K,R,h,i,d⟩;let⟨r,v,rfl,rfl,e,ds,ns,n,o,c,i⟩:=ef h i;let⟨a,y,rfl,f,g⟩:=e.seq R n;rw[h7 o]at g;have q:=dE g;subst q;have go:=λx e l=>d _ _ H (i x e l) R (dI _) (Frm.refl _ _);rcases f with f|f
 .exact su k p s b H _ u Q I j ⟨false,a,ns,rfl,f,c,go⟩
 .exact su k p s b H _ u Q I j ⟨true,a,ns,rfl,f,c,go⟩
def rE{m:MSt}{r:R}(b:sqOf m r=some ds)(e:db ds=some ns)(a:ns≠[])(h:∀x,x∈ns->(∀y∈ns,y≤x)->Kr (.imm (.int x))):QE [r] m Kr:=⟨ds,ns,b,e,a,h⟩
end
open SeqAt in
open AutoSeq1 (wpAny_loadPart') in
theorem u7(l:Addr)(items:Array mT)(n:Nat)(u:Option Addr)(sl:Array (Option mT))(x:mT)(e:mT->Bool)(j:Nat)(F:j<items.size)(q:e items[j]=true)(p:∀m (E:m<items.size),m<j->e items[m]=false) :
  Meets (acI.«tuple.index» ⟨[.ref l,x],[]⟩)
   (λA R s=>s.heap.get? l=some {cls:=.type "tuple",dict:=u,data:=.seq items n,slots:=sl}/\(∀y,y∈items->EqAt A.in1 s y x (e y))/\R (.ok (.ret (.int j s.toks))) {s with toks:=s.toks+1}):=
 .of_wp λprog w A R s h=>by
  rcases s with⟨z,g,d,C,os⟩;rcases h with⟨B,v,h⟩
  (wp_walk using aeN B)
  refine(show wpAny (model prog w) A.in1 (forIn ([:min items.size items.size]:Std.Legacy.Range) _ _) _ _ _ from ?_);simp only[Std.Legacy.Range.forIn_eq_forIn_range'];have D:ahs (0:Nat) (min items.size items.size) 1=ahs 0 items.size 1:=by rw[ag9]
  refine aer _ (λrest (b:Option _×Unit) o=>b.1=none/\o=⟨z,g,d,C,os⟩/\∃i,i≤j/\rest=ahs i (items.size-i) 1) _ ?turn ?fin _ _ ?start
  case turn=>
   intro i rest b o ⟨r,rfl,c,hi0,f⟩;have a:c<items.size:=by omega
   have t:items.size-c=(items.size-(c+1))+1:=by omega
   rw[t,List.range'_succ]at f;cases f;rw[show items[i]?=some items[i]from acd a];refine gT (v items[i] (Array.getElem_mem a) prog w _ _ ?_)
   by_cases k:i=j
   .subst k;rw[q]
    wp_walk
    exact⟨_,rfl,h⟩
   .rw[p i a (by omega)]
    wp_walk
    exact⟨rfl,rfl,i+1,by omega,rfl⟩
  case fin=>
   intro⟨b1,b2⟩ o ⟨r,rfl,c,hi0,f⟩;have:=congrArg adn f;simp at this;omega
  case start=>
   refine⟨rfl,rfl,0,abm _,?_⟩;simp[Std.Legacy.Range.size]
section
variable {X:Cx}{o e:Expr}{es:List Expr}{w:WE}{l:WA}{b c:Pos}
abbrev wMT(a:WM)(w:WE)(l:WA):WE:=λm K=>w m λr m1=>(∃ds,r = .imm (.tuple ds))/\l m1 λrs m2=>a r rs m2 K
theorem Vn{name:Str}{id:String}{C:WM}(slot:Slot "tuple" name id)(t:typeOf (.builtin id)=pure (.type "method_descriptor"))(N:MtM X id (mM X.kx C))(P:ME X o w)(I:MA X (e::es) l)
  (d:abr o name X.env (eval o X.env)=eval o X.env:=by rfl)
  (j:((abk c (aac (e::es) X.env)).all (λx=>!x.1)&&(acW c (abV [] X.env)).all (λx=>x.1.isSome)
   && decide ((e::es).length+([]:List acZ).length+(if ([]:List acZ).isEmpty then 0 else 1)<30))=true:=by rfl)
  (i:(b.endLine==c.line)=true:=by rfl) (J:aac (e::es) X.env=(false,eval e X.env)::aac es X.env:=by first|exact aG rfl|rfl) (h:(abk c (aac es X.env)).any (·.1)=false:=by rfl) :
  ME X (.Call (.Attribute o name b) (e::es) [] c) (wMT C w l):=(Sw PySem.F.plainAttrs_tuple slot t N P I d j i J h).wk<|by
 intro E H Q ⟨y,m,M,B,L,s⟩;refine⟨y,m,_,B,L,λr m1 v O k n1 p rr D=>?_⟩;let⟨⟨ds,rfl⟩,k⟩:=k;let⟨a,G,rfl,f,g⟩:=bQ (rr);refine⟨.inr (.inl ⟨rfl,G,f⟩),y,m1,_,p,k,λrs m2 vs T k2 n2 R u z=>?_⟩;exact⟨y,m2,E,H,O,.imm _,rs,M,R,rr.keep B p z,u,k2,λr S v K k n A q F=>s r S v K k (n.trans (n2.trans n1)) A (q.base R (D.trans z)) ((D.trans z).trans F)⟩
theorem vH{name:Str}{id:String}{i:WM}(slot:Slot "tuple" name id)(g:typeOf (.builtin id)=pure (.type "method_descriptor"))(j:MtM X id (mM X.kx i))(n:EE X o w)(m:EA X (e::es) l)
  (d:abr o name X.env (eval o X.env)=eval o X.env:=by rfl)
  (f:((abk c (aac (e::es) X.env)).all (λx=>!x.1)&&(acW c (abV [] X.env)).all (λx=>x.1.isSome)
   && decide ((e::es).length+([]:List acZ).length+(if ([]:List acZ).isEmpty then 0 else 1)<30))=true:=by rfl)
  (a:(b.endLine==c.line)=true:=by rfl) (k:aac (e::es) X.env=(false,eval e X.env)::aac es X.env:=by first|exact aG rfl|rfl) (h:(abk c (aac es X.env)).any (·.1)=false:=by rfl) :
  EE X (.Call (.Attribute o name b) (e::es) [] c) (wMT i w l):=⟨Vn slot g j n.h m.h d f a k h⟩
def x_ts{P:Prop}(h:P):(∃es,R.imm (.tuple ds) = .imm (.tuple es))/\P:=⟨⟨ds,rfl⟩,h⟩
def Bg:WM:=λr rs m K=>on1 (i6 λd=>∃ds j,r = .imm (.tuple ds)/\d.canLay0=true/\abt ds=true/\d.depth≤60/\(∃y,ds[j]?=some y/\aag y d=true)/\(∀(i:Nat) y,i<j->ds[i]?=some y->aag y d=false)/\K (.imm (.int (j:Nat))) m) rs
theorem gH(hu:X.A.units+64<cLine):MtM X "tuple.index" (mM X.kx Bg):=by
 intro N s V H x xs v us Q I rx Z ⟨α,m,σ,H0,H1,r,rs,Kc,U,h1,C,A,E⟩;let⟨r2,v2,rfl,rfl,C,A⟩:=ef C A;let⟨d,rfl,hd,ds,j,rfl,L,J,dp,⟨y,P,eq⟩,F,A⟩:=fq C A;let⟨a,zs,rfl,f,g⟩:=bQ (show Den X.kx H (.tuple ds) x from h1);cases rx;let⟨u,rfl,ru⟩:=Z.one;let⟨bs,T⟩:=Den.reads I (aa5 _ L) hd ru;let⟨h,D,⟨o,t,S,G,n,k⟩,hz⟩:=I.tupleP f;let⟨as,z⟩:=DenAll.reads I (abp _ J) g D;have hm:X.A.units+1+min (aax ds) d.depth<cLine:=by have:=acf (aax ds) d.depth;omega
 have p:=agU ds _ _ J z;have R:h.length=ds.length:=by rw[<-p,iO]
 have O:j<h.length:=by rw[R];exact(Ad.mp P).1
 have M:∀(i:Nat) (B:i<h.length) y,ds[i]?=some y->ac4 s.heap h[i]=y:=λi B y e=>by
  rw[<-p,aah,lD B]at e;exact aaB e
 let⟨W,Y,K,sl⟩:=o;dsimp only at S k;subst S;subst k;refine ad0 acl ⟨_,t,rfl⟩ PySem.F.entry_tuple_index (PySem.F.args_tuple_index_2 _ _)
  (u7 a h.toArray _ Y sl u (λy=>aag (ac4 s.heap y) d) j (by simpa using O) ?_ ?_) ⟨t,ahi (by simpa using z) T J L hm,?_⟩
 .show aag (ac4 s.heap h[j]) d=true;rw[M j O y P];exact eq
 .intro i B hlt;have q:i<h.length:=by simpa using B
  show aag (ac4 s.heap h[i]) d=false;have hi2:i<ds.length:=by rw[<-R];exact q
  rw[M i q _ (lD hi2)];exact F i _ hlt (lD hi2)
 .exact⟨.int (j:Nat),H,I.tok _,⟨_,rfl⟩,E _ _ _ H A rfl U (dI _) (Frm.refl _ _)⟩
def kQ{m:MSt}{d y:aD}{k k':Nat}{K:R->MSt->Prop}(s1:Shp k d)(s2:∀y∈ds,Shp k' y)(hk:k≤60)(f:ds[j]?=some y)(eq:aag y d=true)(a:∀(i:Nat) y,i<j->ds[i]?=some y->aag y d=false)(h:K (.imm (.int (j:Nat))) m):Bg (.imm (.tuple ds)) [.imm d] m K:=
 ⟨ds,j,rfl,s1.cl,(jX s2).1,aas s1.dp hk,⟨y,f,eq⟩,a,h⟩
end
def yo:fillsNumberSlot (.type "tuple") "mul" = pure false:=
 PySem.fillsNumberSlot_seq aee.lookup rfl afK.lookup rfl
def JZ:seqRepeat? (.type "tuple")=pure (some (.builtin "tuple.__mul__")):=by
 unfold seqRepeat?;rw[ahk (name:= "__mul__") aee.lookup rfl,ahk (name:= "__rmul__") afK.lookup rfl];rfl
theorem DM(a:Int)(t:Tok)(l:Addr)(items:Array mT)(n:Nat)(d:Option Addr)(sl:Array (Option mT)) :
  Meets (acI.«int.__rmul__» ⟨[.int a t,.ref l],[]⟩) (λ_ R s=>s.heap.get? l=some {cls:=.type "tuple",dict:=d,data:=.seq items n,slots:=sl}/\R (.ok (.ret mT.notImplemented)) s):=
 .of_wp λprog w A R s h=>by
  rcases h with⟨b,h⟩
  wp_walk
  exact⟨_,rfl,h⟩
open AutoSeq1 (wpAny_loadPart') in
theorem J3(l:Addr)(items:Array mT)(n:Nat)(y:Option Addr)(sl:Array (Option mT))(k:Int)(t:Tok)(G:0≤k)(E:k<2^20)(F:items.size*k.toNat≤1000000) :
  Meets (acI.«tuple.__mul__» ⟨[.ref l,.int k t],[]⟩) (λ_ R s=>s.heap.get? l=some {cls:=.type "tuple",dict:=y,data:=.seq items n,slots:=sl}/\
   if (items.isEmpty||k==1)=true then R (.ok (.ret (.ref l))) s else R (.ok (.ret (.ref s.heap.objs.size))) {s with heap:=s.heap.push {cls:=.type "tuple",data:=.seq ((aal k.toNat items).foldl (λx e=>x++e) #[])} }):=
 .of_wp λprog w A R s h=>by
  rcases s with⟨p,g,d,r,os⟩;rcases h with⟨i,h⟩
  (wp_walk using aeN i)
  have C:(⟨p,g,d,r,os⟩:AD).TypeIs (.ref l) "tuple":=(⟨_,i,rfl⟩);have o:IsTup (⟨p,g,d,r,os⟩:AD).heap l items:=⟨_,i,rfl,n,rfl⟩;have D:((items.size:Nat):Int)*k≤1000000:=by
   have u:k=((k.toNat:Nat):Int):=by omega
   rw[u,<-adX];omega
  rw[if_neg (show ¬_ by simp only[decide_eq_true_eq,aga];omega)];refine gT (agM o ?_)
  by_cases f:(items.isEmpty||k==1)=true
  .rw[if_pos f]at h⊢;refine gT ?_;unfold ae4;refine gT (acY C (Io ?_));rw[if_pos (by rfl)];exact gT (abI (Io ⟨_,rfl,h⟩))
  .rw[if_neg f]at h⊢;have z:items.isEmpty=false:=by
    cases q:items.isEmpty with
    |false=>rfl
    |true=>rw[q]at f;exact(f rfl).elim
   by_cases j:k=0
   .subst j;show wpAny _ _ (if (decide ((0:Int)≤0)||items.isEmpty)=true then _ else _) _ _ _;rw[if_pos (by rfl)];exact gT (m:=abN #[]) (abe (Io ⟨_,rfl,h⟩) (by show(0:Nat)≤aai;exact abm _))
   have B:(decide (k≤0)||items.isEmpty)=false:=by rw[z,decide_eq_false (by omega)];rfl
   have c:∀(m:Nat) (a:Array mT),(ahC (λx e=>x++e) a (aal m items)).size=a.size+m*items.size:=by
    intro m
    induction m with
    |zero=>intro a;simp
    |succ m v=>intro a;rw[acv,aeH,v,Array.size_append,adt];omega
   have b:((aal k.toNat items).foldl (λx e=>x++e) #[]).size≤aai:=by
    rw[c,aae,ac1];simp;omega
   show wpAny _ _ (if (decide (k≤0)||items.isEmpty)=true then _ else _) _ _ _;rw[if_neg (by rw[B];exact aam)];show wpAny _ _ (if ((items.size:Nat):Int)*k>(2^63-1)/8 then _ else _) _ _ _;rw[if_neg (by omega)];show wpAny _ _ (if ae7 (((items.size:Nat):Int)*k)=true then _ else _) _ _ _;rw[if_neg (by unfold ae7;rw[decide_eq_true_eq,aae];omega)];exact gT (m:=abN _) (abe (Io ⟨_,rfl,h⟩) b)
section
variable {X:Cx}
def UY(K:aad):R2:=λx y H Q=>∃a b k,x = .ref a/\y = .int k/\SqT K H a b/\0≤k/\k<2^20/\b.length*k.toNat≤1000000/\
 if (b.isEmpty||k==1)=true then Q (.ref a) H else ∀p,H p=none->Q (.ref p) (upd H p (.tup (aal k.toNat b).flatten))
theorem Lj:OpR X (aco .Mult) (UY X.K):=by
 intro z s N H x y v u Q I L J h;let⟨a,c,k,rfl,rfl,B,K,D,E,q⟩:=h;cases L;let⟨t,rfl⟩:=J;let⟨i,r,⟨o,j,f,hd,n,d⟩,M⟩:=I.tupleP B;let⟨C,w,p,A⟩:=o;dsimp only at f d;subst f d;have l:c.length=i.length:=r.length;have m:i.toArray.isEmpty=c.isEmpty:=by
  cases i with
  |nil=>have:c=[]:=aa6 (by simpa using l);subst this;rfl
  |cons _ _=>cases c with
   |nil=>simp at l
   |cons _ _=>rfl
 have g:=by
  have:=l5 i k.toNat [];omega
 refine aff (T:= "tuple") (U:= "int") (by decide) ⟨_,j,rfl⟩ (λF=>af0 F k t) yo PySem.F.fills_int_mul agi JZ PySem.F.slot_int_index.lookup
  (ad0 agi (af0 s k t) PySem.F.entry_int_rmul (PySem.F.args_int_rmul_2 _ _) (DM k t a i.toArray n w A)
   ⟨j,rfl,⟨_,j,rfl⟩,ad0 aee ⟨_,j,rfl⟩ PySem.F.entry_tuple_mul (PySem.F.args_tuple_mul_2 _ _) (J3 a i.toArray n w A k t K D (by rw[aaJ,<-l];exact E)) ⟨j,?_⟩⟩)
 rw[m,g]
 by_cases f:(c.isEmpty||k==1)=true
 .rw[if_pos f]at q⊢;exact⟨.ref a,H,I,rfl,q⟩
 .rw[if_neg f]at q⊢;have G:H s.heap.objs.size=none:=I.hok.fresh (Mt _);refine⟨.ref s.heap.objs.size,_,I.laid (t':=s.toks) (o:=.tup (aal k.toNat c).flatten) (λb O e=>Ld _ e) (Mt _) ⟨?_,_,r.rep k.toNat,PlainT.new _ _⟩,rfl,q _ G⟩;rw[z9,ac1,aae];omega
def Aa:WO
 | .imm (.int i),.imm (.int j),_,K=>ag1 i j/\K (.imm (.int (i*j)))
 | .imm (.tuple ds),.imm (.int k),_,K=>0≤k/\k<2^20/\ds.length*k.toNat≤1000000/\K (.imm (.tuple (aal k.toNat ds).flatten))
 | .new ds,.imm (.int k),_,K=>0≤k/\k<2^20/\ds.length*k.toNat≤1000000/\K (.new (aal k.toNat ds).flatten)
 |_,_,_,_=>False
theorem jH{K:Kd}{H:Hp}{ds:List aD}{xs:List V}(g:DenAll K H ds xs):∀k:Nat,DenAll K H (aal k ds).flatten (aal k xs).flatten
 |0=>by simp[ DenAll]
 |k+1=>by rw[ acv];exact g.append (jH g k)
theorem bM:OpR X (aco .Mult) (rM X.kx Aa):=by
 intro b s l H x y v u Q I z t ⟨F,m,B,C,E,r1,J,K,R,w,q,h,c⟩;unfold Aa at h
 split at h
 .rename_i i j;exact Oo b s l H x y v u Q I z t ⟨F,m,B,C,E,.imm (.int i),.imm (.int j),K,R,w,q,h,c⟩
 .rename_i ds k;let⟨k1,k2,A,h⟩:=h;let⟨a,o,rfl,f,g⟩:=bQ (show Den X.kx H (.tuple ds) x from w);have r:=aF (show Den X.kx H (.int k) y from q);subst r;refine Lj b s l H _ _ v u Q I z t ⟨a,o,k,rfl,rfl,f,k1,k2,by rw[<-g.length];exact A,?_⟩
  by_cases n:(o.isEmpty||k==1)=true
  .rw[if_pos n];refine c _ _ H h R (oT (e8 f ?_)) (Frm.refl _ _);have e:(aal k.toNat ds).flatten=ds:=by
    rw[aga]at n;rcases n with n|n
    .have hx:o=[]:=ahl.mp n;have hd:ds=[]:=aa6 (by rw[g.length,hx];rfl);subst hd;simp
    .simp_all
   rw[e];exact g
  .rw[if_neg n];exact λp d=>c _ _ _ h (R.lay d) (oT (e8 (SqT.of ay) ((jH g k.toNat).mono (bm (.inl d))))) (cC d)
 .rename_i ds k;let⟨k1,k2,A,h⟩:=h;let⟨a,o,rfl,G,D,g⟩:=w;have r:=aF (show Den X.kx H (.int k) y from q);subst r;refine Ug b s l H _ _ v u Q I z t ⟨a,k,o,rfl,rfl,D,by omega,by omega,by rw[<-g.length,aae];omega,λp d=>?_⟩;exact c _ _ _ h (R.lay d) ⟨p,_,rfl,d,ay,(jH g k.toNat).mono (bm (.inl d))⟩ (cC d)
 .exact h.elim
def JW{m:MSt}{i j:Int}(a:ag1 i j)(h:Kr (.imm (.int (i*j)))):Aa (.imm (.int i)) (.imm (.int j)) m Kr:=⟨a,h⟩
def Ay{m:MSt}{k:Int}(b:0≤k)(c:k<2^20)(a:ds.length*k.toNat≤1000000)(h:Kr (.imm (.tuple (aal k.toNat ds).flatten))):Aa (.imm (.tuple ds)) (.imm (.int k)) m Kr:=⟨b,c,a,h⟩
def SE{m:MSt}{k:Int}(b:0≤k)(c:k<2^20)(a:ds.length*k.toNat≤1000000)(h:Kr (.new (aal k.toNat ds).flatten)):Aa (.new ds) (.imm (.int k)) m Kr:=⟨b,c,a,h⟩
end
section
variable {prog:aaF}{w:World}{A:aa4}{E:mT->AD->Prop}{s:AD}
abbrev colH(h:aaW)(vs:List mT):aaW:=(h.push (acX "list" #[] 0)).update h.objs.size (acB (·++vs.toArray))
abbrev srtH(h:aaW)(vs:List mT):aaW:=(colH h vs).push (acX "list" vs.toArray 0)
def sK(h:aaW)(vs:List mT):(colH h vs).objs.size=h.objs.size+1:=(aes ..).trans (size_push' ..)
def Kh(h:aaW)(vs:List mT):(srtH h vs).get? (h.objs.size+1)=some (acX "list" vs.toArray 0):=by
 have e:(srtH h vs).get? (colH h vs).objs.size=some (acX "list" vs.toArray 0):=aan _ rfl;rwa[sK]at e
theorem Lu{d:Addr}{o:Obj}{P:PySem.Fin->AD->Prop}(hd:s.heap.get? d=some (acX "list" #[] 0))(a:s.heap.get? l=some o)(c:o.cls = .type "tuple")(b:o.data = .seq vs.toArray n)(hsz:vs.length≤aai)
  (h:P (.done (.ret (.ref d))) {s with heap:=s.heap.update d (acB (·++vs.toArray))}):wpAny (model prog w) A (aeU (.ref d) (.ref l) (.ref d)) P E s:=by
 have fits:(#[]++vs.toArray:Array mT).size≤aai+1:=by simp;omega
 refine gT (m:=typeOf (.ref l)) (acY (T:= "tuple") ⟨o,a,c⟩ ?_);rw[if_pos (show(adN (abi d) (abi l)||_||adm "tuple" == adm "tuple")=true from Bool.or_eq_true_iff.mpr (.inr rfl))];refine gT (aha a b (gT (aha (xs:=#[]) (n:=0) hd rfl ?_)));rw[if_neg (show ¬_ by simp)];exact gT (afA (xs:=#[]) (n:=0) hd rfl (Io h) (abm _) fits)
theorem uA{Q:List mT->AD->Prop}(b:s.heap.IsTuple l vs.toArray)
  (h:Q vs {s with heap:=colH s.heap vs}) (hsz:vs.length≤aai):wpAny (model prog w) A (collect (.ref l)) Q E s:=by
 let⟨o,d,c,nn,hd⟩:=id b;have new:(s.heap.push (acX "list" #[] 0)).get? s.heap.objs.size=some (acX "list" #[] 0):=aan _ rfl;have a:(colH s.heap vs).get? s.heap.objs.size=some _:=get?_update_seq new (·++vs.toArray);have all:((#[]:Array mT)++vs.toArray).toList=vs:=by simp
 refine gT (m:=runValue _) (wpAny_runValue (adb entry_proto_collect' (gT (m:=ag6 []) (afB (Io ⟨Code.quiet_builtin _ (by decide +kernel),adb entry_list_iadd' ?_⟩)))));refine Lu (s:={s with heap:=s.heap.push (acX "list" #[] 0)}) new (Ld _ d) c hd hsz (gT (m:=load s.heap.objs.size) (wpAny_load a ?_));exact Io (all.symm▸h)
theorem wm{k:List (Str×mT)}(a:s.heap.IsTuple l vs.toArray\/s.heap.IsList l vs.toArray)(hsz:vs.length≤aai)
  (h:wpAny (model prog w) A (call (.builtin "list.sort") [.ref (s.heap.objs.size+1)] k) (λ_ s'=>Q (.ref (s.heap.objs.size+1)) s') E {s with heap:=srtH s.heap vs}) :
  wpAny (model prog w) A (acI.«sorted» ⟨[.ref l],k⟩) (λf s'=>∃v,f = .done (.ret v)/\Q v s') E s:=by
 have c:∀{P:List mT->AD->Prop},P vs {s with heap:=colH s.heap vs}->wpAny (model prog w) A (collect (.ref l)) P E s:=λp=>a.elim (λt=>uA t p hsz) λt=>collect_list t p hsz;refine gT (m:=checkCount "sorted" 1 1 _) (Io (gT (c (gT (m:=ag6 vs) (afB ?_)))));have e:(Shared.heap {s with heap:=colH s.heap vs}).objs.size=s.heap.objs.size+1:=sK ..;rw[e];exact gT (m:=adr _ _) (abZ (ace h (λ_ s' q=>Io ⟨_,rfl,q⟩) λ_ _ z=>z))
theorem oA{b:Bool}(c:s.heap.IsTuple l vs.toArray)(d:aeS vs ns)(a:vs.length<64)
  (h:∀(out:Array mT) (n:List Int),aeS out.toList n->n.Perm ns->Ordered b n->Q (.ref (s.heap.objs.size+1)) {s with heap:=sortedAll s.heap vs out}):wpAny (model prog w) A (call (.builtin "sorted") [.ref l] [(acj "reverse",.bool b)]) Q E s:=by
 have at1:=Kh s.heap vs;refine call_function_entry_kw kind_sorted plain_sorted entry_sorted (args_sorted_rev _ _) (wm (A:=A.in1) (.inl c) (by rw[aae];omega) ?_);exact wpAny_call_entry_kw slot_list_sort ⟨_,at1,rfl⟩ entry_list_sort (list_sort_tree_rev at1 d a λout n p q r=>⟨_,rfl,h out n p q r⟩) (args_list_sort_rev _ _)
end
section
variable {X:Cx}{a:Expr}{es:List Expr}{w:WA}{pos p b c:Pos}
def Ul(K:aad):List V->Hp->VK->Prop:=λx H Q=>∃(t:Bool) (l:Addr) (ns:List Int),x=[.ref l]/\SqB t K H l (ns.map V.int)/\Q (.int ns.sum) H
theorem lU(ns:List Int):∀n,n≤ns.length->preSum (λi=>ns.getD i 0) n=(ns.take n).sum
 |0,_=>by simp[preSum]
 |n+1,h=>by
  show preSum _ n+ns.getD n 0=_;have d:=by omega
  rw[lU ns n (by exact abP ‹_›),aaR,lD d,bO (lD d),List.sum_append];simp
theorem s9(B:X.calm=true):dM X (.builtin "sum") (Ul X.K):=by
 intro j s E H F D Q I o ⟨t,l,ns,ex,k,q⟩;subst ex;let⟨u,rfl,z⟩:=o.one;cases z;let⟨d,r,n,_⟩:=I.sqb k;have x:=fx r;have y:d.length=ns.length:=by have:=r.length;grind
 refine call_sum_walkG (xv n λs2 e m f g=>?_);subst e;refine⟨s.heap.objs.size,[s.heap.objs.size,l],[s.heap.objs.size],d.toArray.size,λi v=>d.toArray[i]?=some v,λi h=>SubI t h s.heap.objs.size l i/\SubS t h l d.toArray,λi=>ns.getD i 0,rfl,t9 (A:=X.A.in1) t (I.ok.hd B) _ l g d.toArray,m,f,u6 x,λG C t' hk=>?_⟩;have e:preSum (λi=>ns.getD i 0) d.toArray.size=ns.sum:=by
  rw[aaJ,y,lU ns ns.length (Mt _),aau]
 rw[e];exact⟨.int ns.sum,H,I.kept (t':=C) (w4 hk),⟨_,rfl⟩,q⟩
def SX:WC:=λrs m K=>on1 (λr=>∃ds ns,sqOf m r=some ds/\db ds=some ns/\K (.imm (.int ns.sum))) rs
theorem gY(l:X.calm=true):dM X (.builtin "sum") (cM X.kx SX):=by
 intro d s e H z u Q I k ⟨B,m,x,A,rs,K,R,h,j,i⟩;let⟨r,v,rfl,rfl,t,ds,ns,n,o,j⟩:=ef h j;let⟨a,y,rfl,f,g⟩:=t.seq R n;rw[h7 o]at g;have q:=dE g;subst q;have go:=i _ _ H j R (dI _) (Frm.refl _ _);rcases f with f|f
 .exact s9 l d s e H _ u Q I k ⟨false,a,ns,rfl,f,go⟩
 .exact s9 l d s e H _ u Q I k ⟨true,a,ns,rfl,f,go⟩
def wx{m:MSt}{r:R}(d:sqOf m r=some ds)(e:db ds=some ns)(h:Kr (.imm (.int ns.sum))):SX [r] m Kr:=⟨ds,ns,d,e,h⟩
def zx(X:Cx)(f:mT)(k:List (Str×mT))(r:List V->Hp->VK->Prop):Prop:=
 ∀(d:List (Addr×Obj)) (s:AD) (e:St) (H:Hp) (x:List V) (u:List mT) (Q:VK),Inv X d e H s->Vals x u->r x H Q ->
  wpAny (model X.prog X.w) X.A (call f u k) (EP X d e Q) X.xe s
def IJ:WC:=λrs m K=>on1 (λr=>∃ds ns,sqOf m r=some ds/\db ds=some ns/\ns.length<64/\∀n:List Int,n.Perm ns->n.Pairwise (· ≥ ·)->K (.new (n.map .int))) rs
theorem il{K:Kd}{H:Hp}:∀ns:List Int,DenAll K H (ns.map .int) (ns.map V.int)
 |[]=>by simp[ DenAll]
 |n::ns=>by
  exact⟨.int n,_,rfl,by simp[Den],il ns⟩
theorem nU:zx X (.builtin "sorted") [(acj "reverse",.bool true)] (cM X.kx IJ):=by
 intro k s q H O M Q I E ⟨T,m,N,P,rs,S,R,h,y,t⟩;let⟨r,v,rfl,rfl,J,ds,ns,B,C,G,y⟩:=ef h y;let⟨l,L,rfl,f,g⟩:=J.seq R B;rw[h7 C]at g;have F:=dE g;subst F;let⟨u,rfl,K⟩:=E.one;cases K;have go:∀(i:List mT),Vals (ns.map V.int) i->∀(out:Array mT) (n:List Int),aeS out.toList n->n.Perm ns->Ordered true n->EP X k q Q (.ref (s.heap.objs.size+1)) {s with heap:=sortedAll s.heap i out}:=by
  intro i d out n a1 a2 o;let⟨e,D⟩:=sortedAll_at s.heap i out;have j:H (s.heap.objs.size+1)=none:=I.hok.fresh (afl _);have z:Vals (n.map V.int) out.toList:=mq a1;have A:(n.map V.int).length≤aai:=by rw[iO,a2.length_eq,aae];omega
  refine⟨.ref (s.heap.objs.size+1),_,I.laid (t':=s.toks) (λ_ _=>sortedAll_old) (afl _) (show ObjOk X.prog X.w _ _ _ (.lst (n.map V.int))from⟨A,out.toList,e,z,by rw[D]⟩),rfl,?_⟩;exact t _ _ _ (y n a2 o) (R.lay j) ⟨_,_,rfl,j,ay,il n⟩ (cC j)
 rcases f with f|f
 .obtain⟨i,d,pl,_⟩:=I.list f;have x:=d.length;rw[iO]at x;exact sorted_ints_rev pl.isList (fx d) (by omega) λout n a1 a2 o=>go i d out n a1 a2 o
 .obtain⟨i,d,pl,_⟩:=I.tuple f;have x:=d.length;rw[iO]at x;exact oA pl (fx d) (by omega) λout n a1 a2 o=>go i d out n a1 a2 o
def BW{m:MSt}{r:R}(f:sqOf m r=some ds)(e:db ds=some ns)(d:ns.length<64)(h:∀n:List Int,n.Perm ns->n.Pairwise (· ≥ ·)->Kr (.new (n.map .int))):IJ [r] m Kr:=⟨ds,ns,f,e,d,h⟩
theorem AF{id:String}{k:Str}{o:WC}(A:zx X (.builtin id) [(k,.bool true)] (cM X.kx o))(z:Gl X x)(v:X.mg x=none)(i:aa2 x=some (.builtin id))(m:MA X (a::es) w)(l:x ≠ "__name__":=by decide)(e:(x==("__debug__" : Str))=false:=by decide)
  (t:aac (a::es) X.env=(false,eval a X.env)::aac es X.env:=by first|exact aG rfl|rfl) (f:(abk pos (aac (a::es) X.env)).any (·.1)=false:=by rfl):ME X (.Call (.Name x p) (a::es) [⟨some k,.Constant (.bool true) j b,c⟩] pos) (wCB o w):=by
 intro d s g H Q I h;have q:=Ng h;refine acA (oh I z v i ?_ l e);refine callWith_kw (thn (m pos d s g H _ I q) λu s1 ⟨vs,y,n,r1,r⟩=>?_) (by rw[t];rfl) f rfl rfl;refine kws_cons (Constant_bool (kws_nil ?_));exact A d s1 g y vs u Q n r1 r
end
section
variable {X:Cx}{a:Expr}{es:List Expr}{w:WA}{pos p b c:Pos}
theorem oZ{id:String}{k:Str}{o:WC}(i:zx X (.builtin id) [(k,.bool true)] (cM X.kx o))(f:Gl X x)(g:X.mg x=none)(e:aa2 x=some (.builtin id))(m:EA X (a::es) w)(l:x ≠ "__name__":=by decide)(h:(x==("__debug__" : Str))=false:=by decide)
  (n:aac (a::es) X.env=(false,eval a X.env)::aac es X.env:=by first|exact aG rfl|rfl) (d:(abk pos (aac (a::es) X.env)).any (·.1)=false:=by rfl):EE X (.Call (.Name x p) (a::es) [⟨some k,.Constant (.bool true) j b,c⟩] pos) (wCB o w):=⟨AF i f g e m.h l h n d⟩
def lm:aa2 "sorted" = some (.builtin "sorted"):=by rfl
end
structure ConM(K:aad)(mg:Str->Option mT)(x:Str)(d:aD):Prop where
 ex:∃(v:V) (u:mT),mg x=some u/\RelV v u/\∀(w:World) (H:Hp),Den ⟨K,w⟩ H d v
structure ConK(K:aad)(x:Str)(d:aD):Prop where
 ex:∃(v:V) (u:mT),aaG K aav x=some (some u)/\RelV v u/\∀(w:World) (H:Hp),Den ⟨K,w⟩ H d v
theorem ConK.m{K:aad}{mg:Str->Option mT}{h:aaW}{d:aD}(D:ConK K x d)(X:K.In h)(G:h.Ns aav mg):ConM K mg x d:=by
 let⟨v,u,a,r,q⟩:=D.ex;exact⟨v,u,afx X G a,r,q⟩
def strV:mT->Option Str
 | .str z _=>some z
 |_=>none
theorem sJ:∀{i:List mT}{zs:List Str},i.map strV=zs.map some->Vals (zs.map V.str) i
 |[],[],_=>.nil
 |[],_::_,h=>by cases h
 |_::_,[],h=>by cases h
 |u::i,z::zs,h=>by
  let⟨a,b⟩:=afC h;refine .cons ?_ (sJ b)
  cases u<;>first|(cases a;exact⟨_,rfl⟩)|cases a
theorem im{K:Kd}{H:Hp}:∀zs:List Str,DenAll K H (zs.map .str) (zs.map V.str)
 |[]=>by simp only[ac5,DenAll]
 |z::zs=>by
  simp only[aak,DenAll];exact⟨.str z,_,rfl,by simp only[Den],im zs⟩
theorem ConK.strs{K:aad}{p:Addr}{b:Array mT}{sl:Array (Option mT)}{zs:List Str}(a:aaG K aav x=some (some (.ref p)))(l:K.lookup p=some ⟨.type "tuple",none,.seq b n,sl⟩)(i:b.toList.map strV=zs.map some)(h:b.size≤1000):ConK K x (.tuple (zs.map .str)):=by
 refine⟨.ref p,_,a,rfl,λ_ H=>?_⟩;exact e8 (.inr ⟨_,b,n,l,rfl,rfl,rfl,by rw[aae];omega,sJ i⟩) (im zs)
section
variable {X:Cx}{a b o e:Expr}{es:List Expr}{w g:WE}{h:WA}{c f pos p:Pos}{tg:Expr}
theorem Qu{d:aD}(C:ConM X.K X.mg x d)(j:Gl X x)(hd:(x==("__debug__" : Str))=false:=by decide):ME X (.Name x pos) (wC d):=by
 let⟨v,u,k,r,q⟩:=C.ex;exact LG (Nu j k r hd) λn m s H K Q R l i=>i _ m v H l rfl R (q _ _) (Frm.refl _ _)
theorem ze{d:aD}(C:ConM X.K X.mg x d)(i:Gl X x)(hd:(x==("__debug__" : Str))=false:=by decide):EE X (.Name x pos) (wC d):=⟨Qu C i hd⟩
end
end L2
namespace HT
open PySem PySem.Spec PyProof.Rows
section
variable {prog:aaF}{w:World}{A:aa4}{E:mT->AD->Prop}{s:AD}
theorem rev_items(xs:Array mT):((aaz xs.size).filterMap λ(m:Nat)=>xs[((xs.size:Int)-1+(m:Int) * -1).toNat]?)=xs.toList.reverse:=by
 apply ab5;intro i;have b:∀k,k≤xs.size->((aaz k).filterMap λ(m:Nat)=>xs[((xs.size:Int)-1+(m:Int) * -1).toNat]?)=(aaz k).map λm=>xs.getD (xs.size-1-m) .none:=by
  intro k
  induction k with
  |zero=>intro _;rfl
  | succ k d=>
   intro hk;rw[aca,List.filterMap_append,aaq,d (by omega)];have e:((xs.size:Int)-1+(k:Int) * -1).toNat=xs.size-1-k:=by omega
   have h:xs.size-1-k<xs.size:=by omega
   have c:(List.filterMap (λ(m:Nat)=>xs[((xs.size:Int)-1+(m:Int) * -1).toNat]?) [k])=[xs.getD (xs.size-1-k) .none]:=by
    rw[adz,e,acd h];simp[h]
   rw[c];rfl
 rw[b xs.size (Mt _)]
 by_cases a:i<xs.size
 .rw[aah,ab9 a,List.getElem?_reverse (by simpa using a)];have h:xs.size-1-i<xs.size:=by omega
  simp[h]
 .rw[agj (by simp;omega),agj (by simp;omega)]
end
end HT
namespace L2
open PySem PySem.Spec PyProof.Rows
variable{i:Int}{j:Nat}{p3 p4:Pos}{a:Addr}{α:Al}{m2:MSt}{σ:St}{H:Hp}{ρ:List Nat}{ds ts:List aD}{kvs:List (aD×aD)}{K:Kd}{xs:List (aD×Addr×mT)}{es:List (Key×V)}{Q:mT->AD->Prop}
section
variable {X:Cx}{a b e st:Expr}{c w:WE}{pos p:Pos}
theorem v7:∀{xs:List V}{us:List mT},Vals xs us->Vals xs.reverse us.reverse
 |_,_,.nil=>.nil
 |_,_,.cons r rs=>by
  rw[adl];rw[adl];exact(v7 rs).append (.cons r .nil)
theorem BP{K:Kd}{H:Hp}:∀{ds:List aD}{xs:List V},DenAll K H ds xs->DenAll K H ds.reverse xs.reverse
 |[],xs,h=>by
  have:xs=[]:=by simpa only[DenAll]using h
  subst this;simp only[List.reverse_nil,DenAll]
 |d::ds,xs,h=>by
  simp only[DenAll]at h;let⟨v,vs,rfl,g,f⟩:=h;rw[adl];rw[adl];exact(BP f).append (by simp only[DenAll];exact⟨v,[],rfl,g,rfl⟩)
end
section
variable {X:Cx}{a b e st:Expr}{d c:WE}{pos l:Pos}
theorem GC(xs:Array mT):ahf xs none none (some (-1))=xs.toList.reverse.toArray:=by
 unfold ahf
 congr 1
 rw[<-HT.rev_items xs];show(sliceRange ((xs.size:Int)-1) (-1) (-1)).filterMap _=_;unfold sliceRange;rw[if_neg (by decide)];have e:(if ((xs.size:Int)-1) > -1 then(((xs.size:Int)-1) - -1 - -1-1)/(- -1)else 0).toNat=xs.size:=by
  by_cases h:((xs.size:Int)-1) > -1
  .rw[if_pos h,show(- -1:Int)=1 from rfl,Int.ediv_one];omega
  .rw[if_neg h];omega
 simp only[e,agR]
 congr 1
 funext m
 show xs[((xs.size:Int)-1 + -1*(m:Int)).toNat]?=_;rw[Int.mul_comm]
def Vq(K:aad)(t ts:TE):TE:=λσ H Q=>t σ H λx g=>ts σ g λy f=>∃p xs,x = .ref p/\y = .int (-1)/\SqL K f p xs/\∀q,f q=none->Q (.ref q) (upd f q (.lst xs.reverse))
theorem LR{C ts:TE}(N:PE X e C)(m:PE X (.UnaryOp .USub (.Constant (.int i) j p3) p4) ts):PE X (.Subscript e (.Slice none none (some (.UnaryOp .USub (.Constant (.int i) j p3) p4)) l) pos) (Vq X.K C ts):=by
 intro f s σ H Q I h;refine agS (thn (N f s σ H _ I h) λv s1 ⟨x,R,F,r1,L⟩=>?_);refine wpAny_Slice ?_;rw[evalPart_none];refine Io (a:=_) (Io ?_);rw[evalPart_some];refine thn (m f s1 σ R _ F L) λvs g ⟨y,u,J,G,S⟩=>?_;let⟨p,xs,rfl,rfl,P,q⟩:=S;cases r1;let⟨t,rfl⟩:=G;have n:Inv X f σ u {g with heap:=g.heap.push {cls:=.type "slice",data:=.fields #[.none,.none,.int (-1) t]} }:=J.kept (t':=g.toks) λb T q=>Ld _ q;let⟨k,D,B,M⟩:=n.list P;have z:=D.length;have r:u {g with heap:=g.heap.push {cls:=.type "slice",data:=.fields #[.none,.none,.int (-1) t]} }.heap.objs.size=none:=n.hok.fresh (Mt _);have O:=afv (prog:=X.prog) (w:=X.w) (A:=X.A) (E:=X.xe) (Q:=EP X f σ Q) (s:={g with heap:=g.heap.push {cls:=.type "slice",data:=.fields #[.none,.none,.int (-1) t]} }) (sl:=g.heap.objs.size) B.isList ⟨_,aan _ rfl,rfl,rfl⟩ .none .none (.int (-1) t) (by decide) (by
  rw[GC];exact⟨.ref _,_,n.laid (t':=g.toks) (o:=.lst xs.reverse) (λ_ _=>Ld _) (Mt _) ⟨by rw[agE];exact M,k.reverse,0,v7 D,aan _ rfl⟩,rfl,q _ r⟩) (by rw[aaJ];omega)
 show wpAny (model X.prog X.w) X.A (agN e (.Slice none none (some (.UnaryOp .USub (.Constant (.int i) j p3) p4)) l) (.ref p) (.ref g.heap.objs.size)) (EP X f σ Q) X.xe {g with heap:=g.heap.push {cls:=.type "slice",data:=.fields #[.none,.none,.int (-1) t]} };exact tail_any (ops:=[.ref p,.ref g.heap.objs.size]) B.isList.typeIs afn.lookup O (by with_unfolding_all rfl)
abbrev Ud(d c:WE):WE:=λm K=>d m λr m1=>c m1 λf m2=>∃ds,lsOf m2 r=some ds/\f = .imm (.int (-1))/\K (.new ds.reverse) m2
theorem Ji(A:ME X e d)(s:ME X (.UnaryOp .USub (.Constant (.int i) j p3) p4) c):ME X (.Subscript e (.Slice none none (some (.UnaryOp .USub (.Constant (.int i) j p3) p4)) l) pos) (Ud d c):=(LR A s).wk<|by
 intro σ H Q ⟨α,m,C,t,x,o⟩;refine⟨α,m,_,t,x,λr m1 v D k n1 h rr w=>⟨α,m1,_,h,k,λE m2 y u k2 n2 R p F=>?_⟩⟩;let⟨ds,B,rfl,k2⟩:=k2;let⟨a,xs,rfl,f,g⟩:=(rr.keep t h F).list R B;have z:=aF (show Den X.kx u (.int (-1)) y from p);subst z;refine⟨a,xs,rfl,rfl,f,λq n=>?_⟩;exact o _ m2 _ _ k2 (n2.trans n1) (R.lay n) ((show RelR X.kx.toKd α u _ (.new ds.reverse) (.ref q)from⟨q,_,rfl,n,ay,(BP g).mono (bm (.inl n))⟩).base R (w.trans F)) ((w.trans F).trans (cC n))
def Df(f:EE X e d)(h:EE X (.UnaryOp .USub (.Constant (.int i) j p3) p4) c):EE X (.Subscript e (.Slice none none (some (.UnaryOp .USub (.Constant (.int i) j p3) p4)) l) pos) (Ud d c):=⟨Ji f.h h.h⟩
end
def isFz:HO->Bool
 | .lst _=>true
 | .dK _=>true
 | .ext _=>true
 |_=>false
section
variable {X:Cx}{p:List (Addr×Obj)}{d:St}{H:Hp}{s:AD}
theorem Inv.freezeU{u:HO}(I:Inv X p d H s)(h:H a=some u)(g:isFz u=true):∃o,Inv X p d (upd H a (.frz o u)) s:=by
 have ok:=I.hok a u h;let⟨o,e⟩:∃o,s.heap.get? a=some o:=by
  cases u with
  |lst xs=>let⟨_,m,n,_,e⟩:=ok;exact⟨_,e⟩
  |dK kvs=>let⟨_,_,vs,_,o,_,_,e,_⟩:=ok;exact⟨_,e⟩
  |ext t=>exact ok.2.1
  |_=>cases g
 have k:∀{b:Addr}{v:HO},H b=some v->v≠u->b≠a:=λq z=>vi q h z;refine⟨o,I.un (h':=s.heap) (t':=s.toks) ⟨λb f q _ _ _=>q,λb f q _ _ _=>⟨f.slots,q⟩,λb f q z _=>?_,λb f q _=>⟨f,q⟩,λb y q=>?_,λb f v q=>?_,λb r q=>⟨#[],?_⟩⟩ λb f q=>?_⟩
 .rw[av (ab1 (bq h z))];exact z
 .rw[av (k q (by intro z;subst z;cases g))];exact q
 .rw[av (k q (by intro z;subst z;cases g))];exact q
 .rw[av (k q (by intro z;subst z;cases g)),q];simp
 .have stay:∀{c:Addr}{v:HO},ObjOk X.prog X.w H s.heap c v->ObjOk X.prog X.w (upd H a (.frz o u)) s.heap c v:=λx=>x.stay (λ_ _ _ z=>z) (λc z=>by rw[av (k z (by intro z;subst z;cases g))];exact z) λc y z=>by rw[av (k z (by intro z;subst z;cases g))];exact z
  by_cases l:b=a
  .subst l;rw[ay]at q;cases q;exact⟨e,stay ok⟩
  .rw[av l]at q;exact stay (I.hok b f q)
end
def tFrz(t:TS):TS:=λD σ H=>∃a u,H a=some u/\isFz u=true/\∀o,t D σ (upd H a (.frz o u))
section
variable {X:Cx}{st:Stmt}{w:WS}
theorem QC{t:TS}(h:PS X st t):PS X st (tFrz t):=by
 intro p s σ H D I ⟨a,u,e,b,q⟩;let⟨o,c⟩:=I.freezeU e b;exact h p s σ _ D c (q o)
theorem Ga{K:Kx}{m:MSt}(R:Rel K α m σ H)(N:Ren ρ m m2):Rel K (ρ.map λk=>α.getD k (.L 0)) m2 σ H/\Ext m.np α H (ρ.map λk=>α.getD k (.L 0)) H:=by
 have C:=gJ R.len N.lt;have get:∀(k:Nat) (b:Ao),(ρ.map λk=>α.getD k (.L 0))[k]?=some b->∃j:Nat,ρ[k]?=some j/\α[j]?=some b:=λk b z=>by
  let⟨j,M,E⟩:=Paired.get2 C z;exact⟨j,M,E⟩
 have f:∀(k j:Nat) (b:Ao),ρ[k]?=some j->α[j]?=some b->(ρ.map λk=>α.getD k (.L 0))[k]?=some b:=λk j b x t=>by
  let⟨L,O,D⟩:=Paired.get' C x;rw[t]at D;cases D;exact O
 have g:(ρ.map λk=>α.getD k (.L 0)).take m.np=α.take m.np:=by
  apply ab5;intro l;rw[aaO,aaO]
  by_cases c:l<m.np
  .rw[if_pos c,if_pos c];have:ρ[l]?=some l:=by
    have e:=congrArg (·[l]?) N.pre;simp only[aaO,if_pos c]at e;rw[e,ab9 c]
   have s:l<α.length:=aat c R.npl;rw[f l l α[l] this (lD s),lD s]
  .rw[if_neg c,if_neg c]
 have ext:Ext m.np α H (ρ.map λk=>α.getD k (.L 0)) H:=⟨g,Frm.refl _ _,λa u=>by
  let⟨k,b,G,I⟩:=jn u;let⟨j,_,F⟩:=get k b G;exact .inl (ki F I),λa u=>by
  let⟨o,q,_⟩:=R.mem u;exact⟨_,q⟩⟩
 refine⟨⟨d9 R.nd N.nd C,?_,λk b ds x t=>?_,?_,λj r z=>?_,?_,by rw[N.np];exact R.ebl,R.ebx.trans (ext.less R.ebl)⟩,ext⟩
 .rw[N.os,iO,iO]
 .obtain⟨j,q,qa⟩:=get k b x;rw[N.os,aah,q]at t;have J:j<m.os.length:=N.lt j (GT q);have A:m.os.getD j []=ds:=aaB t;refine R.own j b ds qa ?_;rw[<-A,aar,lD J];rfl
 .rw[N.vl];exact R.vlen
 .have h:=N.vs j r z
  cases r with
  |imm d=>exact R.var j (.imm d) h
  |new _=>exact h.elim
  |newT _=>exact h.elim
  |obj k=>
   let⟨n,q,h⟩:=h;let⟨v,y,a,B,e⟩:=R.var j (.obj n) h;exact⟨v,y,a,f k n _ q B,e⟩
  | «at» k p=>
   let⟨n,q,h⟩:=h;let⟨v,y,S,a,B,P,e⟩:=R.var j (.at n p) h;exact⟨v,y,S,a,f k n _ q B,P,e⟩
 .rw[N.np,iO];exact N.npl
structure Fz(k:Nat)(dd:aD)(ρ:List Nat)(m m2:MSt):Prop where
 nd:ρ.Nodup
 lt:∀k∈ρ,k<m.os.length
 out:k∉ρ
 pre:ρ.take m.np=aaz m.np
 npl:m.np≤ρ.length
 npk:m.np≤k
 os:m2.os=ρ.map λk=>m.os.getD k []
 np:m2.np=m.np
 vl:m2.vs.length=m.vs.length
 vs:∀(j:Nat) (r:R),m2.vs[j]?=some (some r)->RenR ρ m.vs[j]? r\/(r = .imm dd/\(m.vs[j]?=some (some (.obj k))\/m.vs[j]?=some (some (.at k []))))
def Fz.ren{k:Nat}{d:aD}{ρ:List Nat}{m m2:MSt}(F:Fz k d ρ m m2):∃b,Ren ρ m b/\b.np=m2.np/\b.os=m2.os/\b.vs.length=m2.vs.length/\∀(j:Nat) (r:R),m2.vs[j]?=some (some r)->b.vs[j]?=some (some r)\/(r = .imm d/\(m.vs[j]?=some (some (.obj k))\/m.vs[j]?=some (some (.at k [])))):=by
 classical
 refine⟨{m2 with vs:=m2.vs.mapIdx λj o=>match o with|some r=>if RenR ρ m.vs[j]? r then some r else none|none=>none},⟨F.nd,F.lt,F.pre,F.npl,F.os,F.np,by rw[<-F.vl];simp,λj r z=>?_⟩,rfl,rfl,by simp,λj r z=>?_⟩
 .simp only[agv]at z
  cases q:m2.vs[j]? with
  |none=>rw[q]at z;cases z
  | some o=>
   rw[q]at z
   cases o with
   |none=>cases z
   |some c=>
    simp only[acG,ag7]at z
    split at z
    .cases z;assumption
    .cases z
 .rcases F.vs j r z with h|h
  .left;simp only[agv,z,acG,if_pos h]
  .exact .inr h
theorem ur{m:MSt}{g:dm}{D:Ends}{k:Nat}{B:aD}{ao:Ao}{u:HO}(c:Rel X.kx α m σ H)(P:EndsOk X.kx m.np α H g D)(F:Fz k B ρ m m2)(E:α[k]?=some ao)(C:a∈ao.ads)(J:H a=some u)(A:isFz u=true)(mu:Mu u=true)
  (s:∀o,Pers H (upd H a (.frz o u))->Den X.kx (upd H a (.frz o u)) B (.ref a)) (name:∀(j:Nat) (v:V),(m.vs[j]?=some (some (.obj k))\/m.vs[j]?=some (some (.at k [])))->σ[j]?=some (some v)->v = .ref a) (T:w g m2):tFrz (tMS X.kx w) D σ H:=by
 let⟨m3,N,d,f,l,p⟩:=F.ren;let⟨M,t⟩:=Ga c N;refine⟨a,u,J,A,λo=>?_⟩;have G:Pers H (upd H a (.frz o u)):=bm (.inr ⟨u,J,mu⟩);have y:a∈ads α:=ki E C;have out:a∉ads _:=λz=>by
  let⟨i,x,O,U⟩:=jn z;let⟨j,Y,L⟩:=Paired.get2 (gJ c.len N.lt) O;exact gL c.nd E L (λz=>F.out (z▸GT Y)) C U
 have I:Ext m.np α H (ρ.map λk=>α.getD k (.L 0)) (upd H a (.frz o u)):=⟨t.pre,λb Z e n=>by rw[av (λz=>n (by rw[z];exact y))];exact e,t.new,λb q=>by
  by_cases eb:b=a
  .subst eb;exact⟨_,ay⟩
  .rw[av eb];exact t.old b q⟩
 have R:=M.at' G (λb q=>av λz=>out (z▸q)) (c.ebx.trans (I.less c.ebl));refine⟨_,m2,g,⟨R.nd,by rw[R.len,f],λk ao ds S W=>R.own k ao ds S (by rw[f];exact W),by rw[R.vlen,l],λj r z=>?_,by rw[<-d];exact R.npl,by rw[<-d];exact R.ebl,R.ebx⟩,T,by rw[F.np];exact P.ext I⟩;rcases p j r z with h|⟨rfl,h⟩
 .exact R.var j r h
 .obtain⟨v,ev⟩:∃v,σ[j]?=some (some v):=by
   rcases h with h|h
   .obtain⟨v,ev,_⟩:=c.var j _ h;exact⟨v,ev⟩
   .obtain⟨v,ev,_⟩:=c.var j _ h;exact⟨v,ev⟩
  refine⟨v,ev,?_⟩;rw[name j v h ev];exact s o G
def wFzL(w:WS):WS:=λD m=>∃(k j:Nat) (ds:List aD) (ρ:List Nat) (m2:MSt),m.vs[j]?=some (some (.obj k))/\m.os[k]?=some ds/\Fz k (.list ds) ρ m m2/\w D m2
theorem Ox(h:MS X st w):MS X st (wFzL w):=(QC h).wk<|by
 intro D σ H ⟨α,m,s,R,⟨k,l,ds,ρ,m2,ej,p,F,n⟩,f⟩;let⟨v,r,a,e,rfl⟩:=R.var l _ ej;let⟨xs,d,g⟩:=R.own k _ _ e p;refine ur R f F e (aab.mpr rfl) d rfl rfl (λo q=>?_) (λj v b c=>?_) n
 .simp only[Den];exact⟨a,xs,rfl,.inl ⟨o,ay⟩,g.mono q⟩
 .rcases b with b|b
  .obtain⟨v',ev',a',ea',rfl⟩:=R.var j _ b;rw[e]at ea';cases ea';rw[c]at ev';cases ev';rfl
  .obtain⟨v',ev',τ,a',ea',_⟩:=R.var j _ b;rw[e]at ea';cases ea'
def AA(d:aD):iG (lfD d)=some d:=by cases d<;>rfl
theorem fzKK{K:Kd}{H:Hp}{τ:List (List Nat×Addr)}{p:List Nat}:∀{kvs:List (aD×aD)}{i:Nat}{es:List (Key×V)},TAtK K H τ p i (lfKV kvs) es->DenKK K H kvs es
 |[],_,_,h=>by simpa[ TAtK]
 |(k,d)::r,i,es,h=>by
  let⟨e,v,vs,rfl,g,c,b⟩:=h;exact⟨e,v,vs,rfl,g,i8 c (AA d),fzKK b⟩
def NQ(h:ES X st w):ES X st (wFzL w):=⟨Ox h.h⟩
end
def FzVs(k:Nat)(d:aD)(ρ:List Nat):List (Option R)->List (Option R)->Prop
 |o::os,q::qs=>(RenO ρ o q\/(q=some (.imm d)/\(o=some (.obj k)\/o=some (.at k []))))/\FzVs k d ρ os qs
 |[],[]=>True
 |_,_=>False
theorem FzVs.len{k:Nat}{d:aD}{ρ:List Nat}:∀{os q:List (Option R)},FzVs k d ρ os q->q.length=os.length
 |[],[],_=>rfl
 |_::_,_::_,h=>congrArg (· + 1) (FzVs.len h.2)
 |[],_::_,h=>h.elim
 |_::_,[],h=>h.elim
theorem FzVs.get{k:Nat}{d:aD}{ρ:List Nat}:∀{os b:List (Option R)},FzVs k d ρ os b->∀(j:Nat) (r:R),b[j]?=some (some r)->RenR ρ os[j]? r\/(r = .imm d/\(os[j]?=some (some (.obj k))\/os[j]?=some (some (.at k []))))
 |o::os,q::b,h,0,r,e=>by
  have c:=by simpa using e
  subst c;rcases h.1 with h|_
  .exact .inl h
  .simp_all
 |o::os,q::b,h,j+1,r,e=>by simpa using FzVs.get h.2 j r ‹_›
 |[],[],_,_,_,e=>by simp at e
 |[],_::_,h,_,_,_=>h.elim
 |_::_,[],h,_,_,_=>h.elim
theorem LJ{k:Nat}{d:aD}{m:MSt}(nd:decide ρ.Nodup=true)(lt:(ρ.all λk=>Nat.blt k m.os.length)=true)(out:(ρ.all λi=>i != k)=true)(pre:ρ.take m.np=aaz m.np)(npl:Nat.ble m.np ρ.length=true)(npk:Nat.ble m.np k=true)(os:m2.os=ρ.map λk=>m.os.getD k [])(np:m2.np=m.np)(vs:FzVs k d ρ m.vs m2.vs):Fz k d ρ m m2:=
 ⟨of_decide_eq_true nd,λk hk=>Nat.blt_eq.mp (abz.mp lt k hk),λz=>by simpa using abz.mp out k z,pre,aek npl,aek npk,os,np,vs.len,λj r e=>vs.get j r e⟩
def UR{w:WS}{D:dm}{m:MSt}(k j:Nat)(ds:List aD)(ρ:List Nat)(m2:MSt)(b:m.vs[j]?=some (some (.obj k)))(e:m.os[k]?=some ds)(F:Fz k (.list ds) ρ m m2)(h:w D m2):wFzL w D m:=⟨k,j,ds,ρ,m2,b,e,F,h⟩
noncomputable instance instDecPyData:DecidableEq aD:=λa b=>Classical.propDecidable (a=b)
mutual
def kb:aD->Nat
 | .int _=>1
 | .str _=>1
 | .tuple ds=>fv ds+1
 |_=>0
def fv:List aD->Nat
 |[]=>0
 |d::ds=>kb d+fv ds
end
def kyD(d:aD):Bool:=(match d with| .tuple _=>true|_=>false)&&(hkD d&&(d.canLay0&&decide (d.depth≤7)))
theorem iw{d:aD}(h:kyD d=true):∃ds,d = .tuple ds/\hkA ds=true/\d.canLay0=true/\d.depth≤7:=by
 unfold kyD at h;rw[aaS,aaS,aaS,decide_eq_true_eq]at h
 cases d with
 |tuple ds=>exact⟨ds,rfl,by simpa[hkD]using h.2.1,h.2.2.1,h.2.2.2⟩
 |_=>simp at h
section
variable {w:World}{prog:aaF}
theorem tq(w:World):∀a b:List aD,iU w (a++b)=iU w a++iU w b
 |[],b=>by simp[iU]
 |d::a,b=>by simp[ iU,tq w a b]
theorem pc:∀a b:List aD,fv (a++b)=fv a+fv b
 |[],b=>by simp[fv]
 |d::a,b=>by simp[ fv,pc a b];omega
theorem va:∀{ds:List aD}{d:aD},hkA ds=true->d∈ds->hkD d=true
 |x::ds,d,h,a=>by
  simp[hkA]at h;obtain rfl|a:=aaf.mp a
  .exact h.1
  .exact va h.2 a
theorem j8{d:aD}(h:d∈ds):d.depth≤aax ds:=by
 induction ds with
 |nil=>cases h
 |cons x ds i=>
  show _≤max x.depth _
  grind
mutual
theorem pC:∀(d:aD) {A:aa4}{E:mT->AD->Prop}{s:AD}{v:mT}{as:List Addr}{Q:Int->AD->Prop},hkD d=true->Reads s.heap v d as->A.units+d.depth<cLine->Q (fi w d) {s with toks:=s.toks+kb d}->wpAny (model prog w) A (pyHash v) Q E s
 | .int i,A,E,s,v,as,Q,_,r,_,h=>by
  cases r;exact wpAny_pyHash_int (by simpa only[fi,kb]using h)
 | .str x,A,E,s,v,as,Q,_,r,_,h=>by
  cases r;exact wpAny_pyHash_str (by simpa only[fi,kb]using h)
 | .tuple ds,A,E,s,v,as,Q,hk,r,hu,h=>by
  cases r with
  | @tuple a o vs n _ _ ho hc hd f=>
   have k:s.TypeIs (.ref a) "tuple":=⟨o,ho,hc⟩;have j:A.units<cLine:=Nat.lt_of_le_of_lt (acx _ _) hu;have u:∀{P:Option mT->AD->Prop},P (some (.builtin "tuple.__hash__")) s->wpAny (model prog w) A (ahm (.ref a) "__hash__") P E s:=λp=>aeM k afr.lookup p;simp only[fi,kb]at h;refine gT (m:=cRoomFor "hash" [.ref a]) (wpAny_cRoomFor_or (.inr j) (gT (m:=ahm _ _) (u ?_)));rw[if_neg (show ¬(some (mT.builtin "tuple.__hash__")==some afR)=true by rw[beq_builtin_none];decide)];refine gT (m:=ahm _ _) (u (gT (m:=callSpecialIfBoundUnlessNone? (.ref a) "__hash__" _) ?_));refine wpAny_callSpecialIfBoundUnlessNone?_slot k afr (abc afr k F.entry_tuple_hash (gT (m:=adp (.ref a)) (wpAny_tupleItemsOf ho hd ?_)) (F.args_tuple_hash_1 _));refine gT ?_;rw[<-agZ];refine aer _
    (λrest (b:Array Int) t=>∃done left bs,ds=done++left/\adK s.heap rest left bs/\b.toList=iU w done/\t={s with toks:=s.toks+fv done})
    _ ?_ ?_ _ _ ⟨[],ds,_,rfl,f,by simp[iU],by simp[fv]⟩
   .rintro x rest b t ⟨done,left,bs,hds,hl,hb,rfl⟩
    cases hl with
    | @cons _ _ d ds' as1 bs1 r1 r2=>
     have g:d∈ds:=by rw[hds];simp
     refine gT (xJ ds d g (va (by simpa only[hkD]using hk) g) (s:={s with toks:=s.toks+fv done}) r1 ?_ ?_)
     .have:=j8 g;have e:(abQ ds).depth=aax ds+1:=rfl;show A.units+1+d.depth<cLine;omega
     .have fin:∃c l q,ds=c++l/\adK s.heap rest l q/\(b.push (fi w d)).toList=iU w c/\({s with toks:=s.toks+fv done+kb d}:AD)={s with toks:=s.toks+fv c }:=by
       refine⟨done++[d],ds',_,by rw[hds];simp,r2,?_,?_⟩
       .rw[aef,hb,tq];simp[iU]
       .rw[pc,adO];simp[fv]
      first
       |exact Io fin
       |exact gT (Io (Io fin))
   .rintro b t ⟨done,left,bs,hds,hl,hb,rfl⟩;cases hl;rw[aaN]at hds;subst hds;change wpAny _ _ (retInt (abG (b.toList:List Int))) _ _ _;rw[hb];refine agb ?_;show wpAny _ _ (if (decide (-(2:Int)^63≤abG (iU w ds))&&decide (abG (iU w ds)<2^63))=true then _ else _) Q E _;unfold reduceHash at h
    by_cases f:(decide (-(2:Int)^63≤abG (iU w ds))&&decide (abG (iU w ds)<2^63))=true
    .rw[if_pos f];rw[if_pos f]at h;refine Io ?_;simpa[adO]using h
    .rw[if_neg f];rw[if_neg f]at h;refine gT (m:=rule _) (abI (Io ?_));simpa[adO]using h
 | .none,_,_,_,_,_,_,hk,_,_,_=>by simp only[hkD]at hk;cases hk
 | .bool _,_,_,_,_,_,_,hk,_,_,_=>by simp only[hkD]at hk;cases hk
 | .list _,_,_,_,_,_,_,hk,_,_,_=>by simp only[hkD]at hk;cases hk
 | .dict _,_,_,_,_,_,_,hk,_,_,_=>by simp only[hkD]at hk;cases hk
theorem xJ:∀(ds:List aD) (d:aD),d∈ds->∀{A:aa4}{E:mT->AD->Prop}{s:AD}{v:mT}{as:List Addr}{Q:Int->AD->Prop},hkD d=true->Reads s.heap v d as->A.units+d.depth<cLine->Q (fi w d) {s with toks:=s.toks+kb d}->wpAny (model prog w) A (pyHash v) Q E s
 |x::ds,d,hm=>by
  intro hk r b h;rcases aaf.mp hm with e|a
  .rw[e]at hk r b h;exact pC x hk r b h
  .exact xJ ds d a hk r b h
end
mutual
theorem tj:∀(a b:aD),hkD a=true->hkD b=true->aag a b=decide (a=b)
 | .int i,b,_,hb=>by
  cases b with
  |int j=>
   show decide (i=j)=_
   by_cases h:i=j
   .subst h;rw[decide_eq_true rfl,decide_eq_true rfl]
   .rw[decide_eq_false h,decide_eq_false (λz=>h (by cases z;rfl))]
  |str _=>rw[decide_eq_false (λz=>by cases z)];rfl
  |tuple _=>rw[decide_eq_false (λz=>by cases z)];rfl
  |none=>simp only[hkD]at hb;cases hb
  |bool _=>simp only[hkD]at hb;cases hb
  |list _=>simp only[hkD]at hb;cases hb
  |dict _=>simp only[hkD]at hb;cases hb
 | .str i,b,_,hb=>by
  cases b with
  |str j=>
   show decide (i=j)=_
   by_cases h:i=j
   .subst h;rw[decide_eq_true rfl,decide_eq_true rfl]
   .rw[decide_eq_false h,decide_eq_false (λz=>h (by cases z;rfl))]
  |int _=>rw[decide_eq_false (λz=>by cases z)];rfl
  |tuple _=>rw[decide_eq_false (λz=>by cases z)];rfl
  |none=>simp only[hkD]at hb;cases hb
  |bool _=>simp only[hkD]at hb;cases hb
  |list _=>simp only[hkD]at hb;cases hb
  |dict _=>simp only[hkD]at hb;cases hb
 | .tuple ds,b,ha,hb=>by
  cases b with
  |tuple e=>
   simp only[aag];rw[AI ds e (by simpa only[hkD]using ha) (by simpa only[hkD]using hb)]
   by_cases h:ds=e
   .subst h;rw[decide_eq_true rfl,decide_eq_true rfl]
   .rw[decide_eq_false h,decide_eq_false (λz=>h (by cases z;rfl))]
  |int _=>rw[decide_eq_false (λz=>by cases z)];rfl
  |str _=>rw[decide_eq_false (λz=>by cases z)];rfl
  |none=>simp only[hkD]at hb;cases hb
  |bool _=>simp only[hkD]at hb;cases hb
  |list _=>simp only[hkD]at hb;cases hb
  |dict _=>simp only[hkD]at hb;cases hb
 | .none,_,ha,_=>by simp only[hkD]at ha;cases ha
 | .bool _,_,ha,_=>by simp only[hkD]at ha;cases ha
 | .list _,_,ha,_=>by simp only[hkD]at ha;cases ha
 | .dict _,_,ha,_=>by simp only[hkD]at ha;cases ha
theorem AI:∀(a b:List aD),hkA a=true->hkA b=true->PyData.eqvAll a b=decide (a=b)
 |[],[],_,_=>by rw[decide_eq_true rfl];rfl
 |[],_::_,_,_=>by rw[decide_eq_false (λz=>by cases z)];rfl
 |_::_,[],_,_=>by rw[decide_eq_false (λz=>by cases z)];rfl
 | x::a,y::b,ha,hb=>by
  simp only[hkA,aaS]at ha hb;simp only[PyData.eqvAll];rw[tj x y ha.1 hb.1,AI a b ha.2 hb.2]
  by_cases h:x=y
  .by_cases h2:a=b
   .subst h h2;rw[decide_eq_true rfl,decide_eq_true rfl,decide_eq_true rfl];rfl
   .rw[decide_eq_false h2,Bool.and_false,decide_eq_false (λz=>h2 (by cases z;rfl))]
  .rw[decide_eq_false h,Bool.false_and,decide_eq_false (λz=>h (by cases z;rfl))]
end
mutual
theorem Reads.hkeep{h h':aaW}{d:Addr}{o:Obj}{es:Array ab8}{f:Nat}(e:h.get? d=some o)(hd:o.data = .dict es f)(c:ab2 d h h'):∀(k:aD) {v:mT}{as:List Addr},hkD k=true->Reads h v k as->Reads h' v k as
 | .int _,_,_,_,r=>by cases r;exact .int _ _
 | .str _,_,_,_,r=>by cases r;exact .str _ _
 | .tuple ds,_,_,hk,r=>by
  cases r with
  | @tuple a o' vs n _ _ h1 h2 h3 h4=>
   have b:a≠d:=by
    rintro rfl;rw[e]at h1;cases h1;rw[hd]at h3;cases h3
   exact .tuple ((c.2 a b).trans h1) h2 h3 (ReadsAll.hkeep e hd c ds (by simpa only[hkD]using hk) h4)
 | .none,_,_,hk,_=>by simp only[hkD]at hk;cases hk
 | .bool _,_,_,hk,_=>by simp only[hkD]at hk;cases hk
 | .list _,_,_,hk,_=>by simp only[hkD]at hk;cases hk
 | .dict _,_,_,hk,_=>by simp only[hkD]at hk;cases hk
theorem ReadsAll.hkeep{h h':aaW}{d:Addr}{o:Obj}{es:Array ab8}{e:Nat}(b:h.get? d=some o)(hd:o.data = .dict es e)(a:ab2 d h h'):∀(ks:List aD) {vs:List mT}{as:List Addr},hkA ks=true->adK h vs ks as->adK h' vs ks as
 |[],_,_,_,r=>by cases r;exact .nil
 |k::ks,_,_,hk,r=>by
  simp only[hkA,aaS]at hk
  cases r with
  |cons r1 c=>exact .cons (Reads.hkeep b hd a k hk.1 r1) (ReadsAll.hkeep b hd a ks hk.2 c)
end
mutual
theorem l8:∀(d:aD) {A:aa4}{E:mT->AD->Prop}{s:AD}{v:mT}{as:List Addr}{n:Nat}{Q:Bool->AD->Prop},hkD d=true->Reads s.heap v d as->d.depth≤n->Q true s->wpAny (model prog w) A (eqIsQuiet n v) Q E s
 | .int _,_,_,_,_,_,_,_,_,r,_,h=>by cases r;rw[eqIsQuiet_byValue _ rfl];exact Io h
 | .str _,_,_,_,_,_,_,_,_,r,_,h=>by cases r;rw[eqIsQuiet_byValue _ rfl];exact Io h
 | .tuple ds,A,E,s,v,as,n,Q,hk,r,hn,h=>by
  cases r with
  | @tuple a o vs nn _ _ ho hc hd hr=>
   have f:s.TypeIs (.ref a) "tuple":=⟨o,ho,hc⟩;have e:(abQ ds).depth=aax ds+1:=rfl
   cases n with
   |zero=>omega
   | succ n=>
    unfold eqIsQuiet;refine gT (m:=ahm _ _) (aeM f F.slot_tuple_eq.lookup (gT (m:=isInstance (.ref a) (.type "tuple")) (adu f isSubtype_tuple_tuple ?_)));simp only[if_false,acg,Bool.not_true];refine gT (m:=seqItems? (.ref a)) (acE ho hd ?_);refine gT ?_;show wpAny _ _ (forIn vs _ _) _ _ s;rw[<-agZ];refine aer _ (λrest r c=>r.1=none/\c=s/\∃left bs,(∀d∈left,d∈ds)/\adK s.heap rest left bs) _ ?_ ?_ _ _ ⟨rfl,rfl,ds,_,λ_ h=>h,hr⟩
    .rintro x rest r c ⟨hr',rfl,left,bs,hsub,hl⟩
     cases hl with
     | @cons _ _ d ds' as1 bs1 r1 r2=>
      have b:d∈ds:=hsub d aaa;refine gT (tm ds d b (va (by simpa only[hkD]using hk) b) r1 (by have:=j8 b;omega) ?_);simp only[if_false,acg,Bool.not_true];exact Io ⟨rfl,rfl,ds',_,λz g=>hsub z (LD _ g),r2⟩
    .rintro⟨r1,r2⟩ c ⟨hr',rfl,_⟩;simp only at hr';subst hr';exact Io h
 | .none,_,_,_,_,_,_,_,hk,_,_,_=>by simp only[hkD]at hk;cases hk
 | .bool _,_,_,_,_,_,_,_,hk,_,_,_=>by simp only[hkD]at hk;cases hk
 | .list _,_,_,_,_,_,_,_,hk,_,_,_=>by simp only[hkD]at hk;cases hk
 | .dict _,_,_,_,_,_,_,_,hk,_,_,_=>by simp only[hkD]at hk;cases hk
theorem tm:∀(ds:List aD) (d:aD),d∈ds->∀{A:aa4}{E:mT->AD->Prop}{s:AD}{v:mT}{as:List Addr}{n:Nat}{Q:Bool->AD->Prop},hkD d=true->Reads s.heap v d as->d.depth≤n->Q true s->wpAny (model prog w) A (eqIsQuiet n v) Q E s
 |x::ds,d,hm=>by
  intro hk r b h;rcases aaf.mp hm with e|a
  .rw[e]at hk r b;exact l8 x hk r b h
  .exact tm ds d a hk r b h
end
theorem oU{d:aD}(h:kyD d=true):hkD d=true:=by
 let⟨ds,rfl,a,_⟩:=iw h;simpa[hkD]
noncomputable def mD (prog:aaF) (w:World):HeapKind prog w aD where
 is:=λh d a=>(∃c,Reads h (.ref a) d c)/\kyD d=true
 hash:=fi w
 draws:=kb
 room:=λA=>A.units+20<cLine
 inj:=λ{h a x y} ⟨⟨c,r1⟩,k1⟩ ⟨⟨bs,f⟩,k2⟩=>by
  let⟨ds,rfl,_,i,_⟩:=iw k1;exact SeqAt.Reads.unique _ _ _ _ _ i r1 f
 keeps:=λ⟨⟨c,r⟩,k⟩ n hd g=>⟨⟨c,Reads.hkeep n hd g _ (oU k) r⟩,k⟩
 pyHash:=λ{A E s k a Q} m ⟨⟨c,r⟩,hk⟩ h=>by
  let⟨ds,e,_,_,hd⟩:=iw hk;exact pC k (oU hk) r (by omega) h
 eqBool:=λ{A E s x y a b Q} m ⟨⟨c,r1⟩,k1⟩ ⟨⟨bs,f⟩,k2⟩ h=>by
  let⟨ds,q,_,j,d1⟩:=iw k1;let⟨o,p,_,l,t⟩:=iw k2;refine ahn x y A s _ _ _ _ r1 f j l (by omega) prog w E Q ?_;rw[tj x y (oU k1) (oU k2)];exact h
 quiet:=λ{A E s k a Q} ⟨⟨c,r⟩,hk⟩ h=>by
  let⟨ds,e,_,_,hd⟩:=iw hk;exact l8 k (oU hk) r (by omega) h
end
def c9(k:aD):List (aD×aD)->Option aD
 |[]=>none
 |(k',d)::r=>if aag k' k=true then some d else c9 k r
def putP(k d:aD):List (aD×aD)->List (aD×aD)
 |[]=>[(k,d)]
 |(k',d')::r=>if aag k' k=true then(k',d)::r else(k',d')::putP k d r
def kyA(kvs:List (aD×aD)):Bool:=kvs.all λk=>kyD k.1
def kdD:aD->Bool
 | .int _=>true
 | .str _=>true
 |_=>false
def oneK(kvs:List (aD×aD))(k:aD):Bool:=(isKd kvs&&kdD k)||(kyA kvs&&kyD k)
theorem uV{k:aD}(h:kdD k=true):∃kk:Key,k=keyD kk:=by
 cases k with
 |int i=>exact⟨.inl i,rfl⟩
 |str x=>exact⟨.inr x,rfl⟩
 |_=>cases h
def LM(a b:Key):aag (keyD a) (keyD b)=decide (a=b):=by
 cases a<;>cases b<;>simp[keyD,aag,agh]
def IsDc(K:Kd)(H:Hp)(a:Addr)(kvs:List (aD×aD)):Prop:=
 (∃e,Rd H a (.dK e)/\DenKK K H kvs e)\/∃e,Rd H a (dX a e)/\isKd kvs=false/\(kvs.map (·.1)).Nodup/\DenKV K H kvs e
section
variable {K:Kd}{H a:Hp}
theorem fzKV{τ:List (List Nat×Addr)}{p:List Nat}:∀{kvs:List (aD×aD)}{i:Nat}{es:List (Int×V×V)},TAtD K H τ p i (lfKV kvs) es->DenKV K H kvs es
 |[],_,_,h=>by simpa[lfKV]
 |(k,d)::r,i,es,h=>by
  let⟨u,v,vs,rfl,c,b,g⟩:=h;exact⟨u,v,vs,rfl,c,i8 b (AA d),fzKV g⟩
theorem MY{τ:List (List Nat×Addr)}{p:List Nat}:∀{kvs:List (aD×aD)}{i:Nat}{es:List (Int×V×V)},DenKV K H kvs es->TAtD K H τ p i (lfKV kvs) es
 |[],_,_,h=>by simpa only[lfKV]
 |_::r,i,es,h=>by
  let⟨u,v,vs,rfl,c,b,g⟩:=h;exact⟨u,v,vs,rfl,c,mZ b,MY g⟩
def fG(kvs:List (aD×aD)):(lfKV kvs).map (·.1)=kvs.map (·.1):=by
 unfold lfKV;rw[aa9];rfl
def re(kvs:List (aD×aD)):isKd (lfKV kvs)=isKd kvs:=by
 unfold isKd lfKV;rw[aeg];rfl
theorem pH(h:isKd kvs=true\/kyA kvs=true):fzOf kvs=none/\excC kvs=none:=by
 cases kvs with
 |nil=>exact⟨rfl,rfl⟩
 | cons x r=>
  let⟨k,d⟩:=x
  cases k with
  |none=>
   rcases h with h|h
   .simp[isKd]at h
   .simp[kyA,kyD]at h
  |int _=>exact⟨rfl,rfl⟩
  |str _=>exact⟨rfl,rfl⟩
  |bool _=>exact⟨rfl,rfl⟩
  |list _=>exact⟨rfl,rfl⟩
  |tuple _=>exact⟨rfl,rfl⟩
  |dict _=>exact⟨rfl,rfl⟩
end
def dcM(m:MSt)(kvs:List (aD×aD)):R->Prop
 | .imm (.dict es)=>es=kvs
 | .at k p=>p=p/\ndT m k p=some (.dict (lfKV kvs))
 |_=>False
theorem RelR.dc{K:Kx}{m:MSt}{A:Hp}{r:R}{v:V}(R:Rel K α m σ H)(h:RelR K α A H r v)(e:dcM m kvs r)(hk:isKd kvs=true\/kyA kvs=true):∃a,v = .ref a/\IsDc K H a kvs:=by
 let⟨n1,n2⟩:=pH hk
 cases r with
 | imm d=>
  cases d with
  |dict j=>
   have z:j=kvs:=e;subst z;have n:Den K H (.dict j) v:=h;simp only[Den]at n;let⟨a,rfl,n⟩:=n;refine⟨a,rfl,?_⟩;rcases n with⟨x,⟨o,f⟩,l,g⟩|⟨x,o,f,g⟩|⟨c,x,t,_⟩
   .exact .inr ⟨x,.inr ⟨o,f⟩,l.1,l.2.1,g⟩
   .exact .inl ⟨x,.inr ⟨o,f⟩,g⟩
   .rw[n2]at t;cases t
  |none=>exact e.elim
  |bool _=>exact e.elim
  |int _=>exact e.elim
  |str _=>exact e.elim
  |list _=>exact e.elim
  |tuple _=>exact e.elim
 | «at» k p=>
  let⟨D,a,B,_,w,rfl,g⟩:=RelR.node R h e.2;refine⟨a,rfl,?_⟩;have s:=pH (by
   rcases hk with hk|hk
   .exact .inl (by rw[re];exact hk)
   .refine .inr ?_;unfold kyA lfKV at *;rw[aeg];exact hk)
  simp only[TAt]at g;rcases g with⟨d,i,_⟩|⟨_,_,b,j,i,y,q,l,g⟩|⟨_,_,b,j,i,y,q,g⟩|⟨c,b,dx,C,x,u,_⟩
  .rw[s.1]at i;cases i
  .rw[w]at i;cases i;exact .inr ⟨j,.inl q,by rw[<-re];exact l.1,by rw[<-fG];exact l.2.1,fzKV g⟩
  .rw[w]at i;cases i;exact .inl ⟨j,.inl q,fzKK g⟩
  .rw[s.2]at u;cases u
 |obj _=>exact e.elim
 |new _=>exact e.elim
 |newT _=>exact e.elim
theorem DenKV.len{K:Kd}{H:Hp}:∀{kvs:List (aD×aD)}{es:List (Int×V×V)},DenKV K H kvs es->kvs.length=es.length
 |[],_,g=>by simp[DenKV]at g;subst g;rfl
 |_::r,_,g=>by
  let⟨u,v,vs,rfl,_,_,g⟩:=g;simp[DenKV.len g]
theorem DenKK.len{K:Kd}{H:Hp}:∀{kvs:List (aD×aD)}{es:List (Key×V)},DenKK K H kvs es->kvs.length=es.length
 |[],_,g=>by simp only[DenKK]at g;subst g;rfl
 |(k,d)::r,_,g=>by
  simp only[DenKK]at g;let⟨u,v,vs,rfl,_,_,g⟩:=g;simp[DenKK.len g]
section
variable {X:Cx}{pins:List (Addr×Obj)}{σ:St}{H:Hp}{s:AD}
abbrev PxV(K:Kd)(H:Hp):List (aD×aD)->List (aD×Addr×mT)->Prop:=abL λp q=>p.1=q.1/\Den K H p.1 (.ref q.2.1)/\∃v,Den K H p.2 v/\RelV v q.2.2
theorem PxV.keys{H:Hp}(p:PxV K H kvs xs):xs.map (·.1)=kvs.map (·.1):=by
 induction p with
 |nil=>rfl
 |cons h t i=>rw[aak,aak,i,h.1]
theorem rq{k:aD}{u:V}(hk:kyD k=true)(h:Den K H k u):∃b,u = .ref b:=by
 let⟨ds,rfl,_⟩:=iw hk;let⟨a,x,e,_⟩:=h;exact⟨a,e⟩
theorem Bw{k:aD}(hk:kyD k=true):k.hasDict=false:=by
 let⟨ds,rfl,_,h,_⟩:=iw hk;exact aa5 _ h
def Inv.ky(I:Inv X pins σ H s){k:aD}{b:Addr}(hk:kyD k=true)(h:Den X.kd H k (.ref b)):(mD X.prog X.w).is s.heap k b:=⟨h.reads I (Bw hk) (rfl),hk⟩
abbrev ExV(w:World):List (Int×V×V)->List (aD×Addr×mT)->Prop:=abL λe q=>e.1=fi w q.1/\e.2.1 = .ref q.2.1/\RelV e.2.2 q.2.2
theorem Inv.dcE(I:Inv X pins σ H s){es:List (Int×V×V)}(K:Rd H a (dX a es))(g:DenKV X.kd H kvs es)(nd:(kvs.map (·.1)).Nodup)(hk:kyA kvs=true):(a==abu)=false/\es.length≤aai/\∃xs,s.heap.DictOfH (mD X.prog X.w) a xs/\PxV X.kd H kvs xs/\ExV X.w es xs:=by
 let⟨⟨P,G,o,c,J,S,F,Q,N⟩,_⟩:=(show ObjOk X.prog X.w H s.heap a (dX a es)from K.ok I.hok);have key:∀{kvs:List (aD×aD)}{es:List (Int×V×V)}{c:List ab8},kyA kvs=true->DenKV X.kd H kvs es->abL (λ(e:Int×V×V) (d:ab8)=>d.hash=e.1/\RelV e.2.1 d.key/\RelV e.2.2 d.val) es c->∃xs,c=xs.map (entryOfKey (mD X.prog X.w))/\PxV X.kd H kvs xs/\ExV X.w es xs:=by
  intro kvs
  induction kvs with
  |nil=>
   intro es c _ g p;simp only[DenKV]at g;subst g;cases p;exact⟨[],rfl,.nil,.nil⟩
  | cons x r m=>
   intro es c hk g p;let⟨k,d⟩:=x;rw[kyA,ab0,aaS]at hk;simp only[DenKV]at g;let⟨u,v,vs,rfl,A,M,B⟩:=g
   cases p with
   |cons R O=>
    rename_i L n;let⟨xs,w,i,j⟩:=m hk.2 B O;let⟨b,rfl⟩:=rq hk.1 A;let⟨E,D,y⟩:=R;let⟨z,C,l⟩:=L
    cases (show C=abi b from D)
    refine⟨(k,b,l)::xs,?_,.cons ⟨rfl,A,v,M,y⟩ i,.cons ⟨rfl,rfl,y⟩ j⟩;rw[aak,<-w]
    congr 1
    show ab8.mk z (.ref b) l=⟨fi X.w k,.ref b,l⟩;rw[show z=fi X.w k from E]
 let⟨xs,w,i,j⟩:=key hk g N;refine⟨P,G,xs,⟨o,c,J,S,F,Q,w,λx f=>?_,by rw[i.keys];exact nd⟩,i,j⟩;have all:∀{kvs:List (aD×aD)}{xs:List (aD×Addr×mT)},kyA kvs=true->PxV X.kd H kvs xs->∀x∈xs,(mD X.prog X.w).is s.heap x.1 x.2.1:=by
  intro kvs xs hk p
  induction p with
  |nil=>intro x f;cases f
  | @cons q x0 qs xs0 h t m=>
   rw[kyA,ab0,aaS]at hk;intro x f;obtain rfl|f:=aaf.mp f
   .rw[<-h.1];exact I.ky hk.1 h.2.1
   .exact m hk.2 x f
 exact all hk i x f
theorem Inv.dc0(I:Inv X pins σ H s)(r:Rd H a (.dK [])):(a==abu)=false/\s.heap.DictOfH (mD X.prog X.w) a []:=by
 let⟨_,b,vs,l,f⟩:=ou I.hok r;cases l;let⟨o,e,m,h,g,c,i⟩:=f;refine⟨b,o,e,m,h,g,c,?_,⟨(λx d=>absurd d (by simp)),abE⟩⟩;have j:e.toList=[]:=by
  let⟨_,k,_⟩:=i;exact aa6 (by have:=k.length;simpa)
 rw[j];rfl
theorem OH(g:DenKK K H kvs es)(hk:kyA kvs=true):kvs=[]/\es=[]:=by
 cases kvs with
 |nil=>simp[DenKK]at g;exact⟨rfl,g⟩
 |cons x r=>
  let⟨k,d⟩:=x;let⟨a,v,vs,_,⟨e,_⟩,_⟩:=g;rw[kyA,ab0,aaS]at hk;have h:kyD k=true:=hk.1;rw[e]at h
  cases a<;>cases h
def Inv.dcX(I:Inv X pins σ H s)(h:IsDc X.kd H a kvs)(hk:kyA kvs=true):(a==abu)=false/\∃xs,s.heap.DictOfH (mD X.prog X.w) a xs/\PxV X.kd H kvs xs:=by
 rcases h with⟨e,r,g⟩|⟨e,r,_,nd,g⟩
 .obtain⟨rfl,rfl⟩:=OH g hk;let⟨b,d⟩:=I.dc0 r;exact⟨b,[],d,.nil⟩
 .obtain⟨b,_,xs,d,p,_⟩:=I.dcE r g nd hk;exact⟨b,xs,d,p⟩
theorem PxV.val{k:aD}(hk:kyA kvs=true)(c:kyD k=true)(p:PxV K H kvs xs) :
  (c9 k kvs=none/\atKey xs k=none)\/∃d v q,c9 k kvs=some d/\atKey xs k=some q/\Den K H d v/\RelV v q.2:=by
 induction p with
 |nil=>exact(.inl ⟨rfl,rfl⟩)
 | @cons x q xs0 qs h t ih=>
  rw[kyA,ab0,aaS]at hk;let⟨g,d⟩:=x;let⟨l,m,v,i,j⟩:=h;have a:g=q.1:=l;have f:=tj _ _ (oU hk.1) (oU c);unfold c9
  by_cases e:g=k
  .have b:atKey (q::qs) k=some q.2:=by simp[atKey,List.find?_cons,<-a,e]
   rw[f,decide_eq_true e,if_pos rfl];exact .inr ⟨d,v,q.2,rfl,b,i,j⟩
  .have b:atKey (q::qs) k=atKey qs k:=by simp[atKey,<-a,e]
   rw[f,decide_eq_false e,b];exact ih hk.2
theorem DenKK.val{kk:Key}(g:DenKK K H kvs es) :
  (c9 (keyD kk) kvs=none/\valV es kk=none)\/∃d v,c9 (keyD kk) kvs=some d/\valV es kk=some v/\Den K H d v:=by
 induction kvs generalizing es with
 |nil=>simp[DenKK]at g;subst g;exact .inl ⟨rfl,rfl⟩
 |cons x r i=>
  let⟨k,d⟩:=x;let⟨a,v,vs,rfl,⟨rfl,_⟩,c,b⟩:=g;unfold c9;rw[LM]
  by_cases e:a=kk
  .rw[decide_eq_true e];exact .inr ⟨d,v,rfl,dt e,c⟩
  .rw[decide_eq_false e,du e];exact i b
def DGet.kr{H:Hp}{kvs:List (Key×V)}{k:Key}(e:Rd H a (.dK kvs)):DGet H a (kV k) (valV kvs k):=.inl ⟨kvs,k,e,rfl,rfl⟩
theorem jJ{k:aD}(h:oneK kvs k=true):(isKd kvs=true/\kdD k=true)\/(kyA kvs=true/\kyD k=true):=by
 unfold oneK at h
 simp_all
def Inv.dcT(I:Inv X pins σ H s)(h:IsDc X.kd H a kvs):s.TypeIs (.ref a) "dict"/\∀b,abi a = .ref b->∃c,s.heap.get? b=some c/\c.dict=none:=by
 rcases h with⟨d,r,g⟩|⟨d,r,_,nd,g⟩
 .obtain⟨_,hs,vs,kv,o,_,_,h1,h2,_⟩:=ou I.hok r;exact⟨⟨o,h1,h2.1⟩,λb e=>by cases e;exact⟨o,h1,h2.2.1⟩⟩
 .obtain⟨⟨hs,hz,o,ents,ep,h1,h2,h3,h4⟩,_⟩:=(r.ok I.hok);exact⟨⟨o,h1,h2.1⟩,λb e=>by cases e;exact⟨o,h1,h2.2.1⟩⟩
theorem vv{kk:Key}{y:V}(h:Den K H (keyD kk) y):y=kV kk:=by
 cases kk with
 |inl i=>exact aF h
 |inr x=>exact bu h
section
variable {a:Addr}{kvs:List (aD×aD)}{k:aD}{y z:V}{u c:mT}{A:aa4}{E:mT->AD->Prop}
theorem Ot(G:A.units+64<cLine)(I:Inv X pins σ H s)(h:IsDc X.kd H a kvs)(ok:oneK kvs k=true)(hk:Den X.kd H k y)(t:RelV y u)(x:RelV z c)
  (f:∀v w s',Inv X pins σ H s'->RelV v w->((∃d,c9 k kvs=some d/\Den X.kd H d v)\/(c9 k kvs=none/\v=z))->Q w s'):wpAny (model X.prog X.w) A (call (.builtin "dict.get") [.ref a,u,c]) Q E s:=by
 have n:=(I.dcT h).1;rcases jJ ok with⟨l,o⟩|⟨l,o⟩
 .obtain⟨kk,rfl⟩:=uV o;have C:=vv hk;subst C;rcases h with⟨F,B,g⟩|⟨F,B,kd,nd,g⟩
  .obtain⟨z0,hd,vs,rel,dd⟩:=ou I.hok B;refine ahb ael n af4 (afL _ _ _) (meets_dict_get_default (cp X.prog X.w) a (vm t) hd c) ⟨_,dd.mapOf,?_⟩;have r:=rel.val kk;rcases g.val (kk:=kk)with⟨e,i⟩|⟨d,v,e,i,m⟩
   .rw[i]at r;have j:aeT vs kk=none:=RelO.none_of r;show Q ((aeT vs kk).getD c) _;rw[j];exact f z c _ (I.tok _) x (.inr ⟨e,rfl⟩)
   .rw[i]at r;let⟨w,j,D⟩:=RelO.some_of r;show Q ((aeT vs kk).getD c) _;rw[j];exact f v w _ (I.tok _) D (.inl ⟨d,e,m⟩)
  .rw[l]at kd;cases kd
 .obtain⟨hs,xs,dd,p⟩:=I.dcX h l;let⟨b,rfl⟩:=rq o hk
  cases (show u=abi b from t)
  refine ahb ael n af4 (afL _ _ _) (meetsH_dict_get_default (mD X.prog X.w) a b hs c) ⟨(by show A.units+1+20<cLine;omega),k,xs,I.ky o hk,dd,?_⟩;rcases p.val l o with⟨e,i⟩|⟨d,v,q,e,i,m,j⟩
  .rw[i];exact f z c _ (I.tok _) x (.inr ⟨e,rfl⟩)
  .rw[i];exact f v q.2 _ (I.tok _) j (.inl ⟨d,e,m⟩)
theorem VH(D:A.units+64<cLine)(I:Inv X pins σ H s)(h:IsDc X.kd H a kvs)(ok:oneK kvs k=true)(hk:Den X.kd H k y)(r:RelV y u)(n:Bool)
  (f:∀s',Inv X pins σ H s'->Q (.bool (if n=true then !(c9 k kvs).isSome else(c9 k kvs).isSome)) s'):wpAny (model X.prog X.w) A (abh (if n=true then .NotIn else .In) u (.ref a)) Q E s:=by
 rcases jJ ok with⟨l,o⟩|⟨l,o⟩
 .obtain⟨kk,rfl⟩:=uV o;have B:=vv hk;subst B;rcases h with⟨w,t,g⟩|⟨w,t,kd,nd,g⟩
  .have e:(c9 (keyD kk) kvs).isSome=(valV w kk).isSome:=by
    rcases g.val (kk:=kk)with⟨i,j⟩|⟨d,v,i,j,x⟩
    .rw[i,j];rfl
    .rw[i,j];rfl
   cases n with
   |false=>exact d_in (by omega) I (DGet.kr t) r λs' m=>by rw[<-e];exact f s' m
   |true=>exact My (by omega) I (DGet.kr t) r λs' m=>by rw[<-e];exact f s' m
  .rw[l]at kd;cases kd
 .obtain⟨hs,xs,dd,p⟩:=I.dcX h l;let⟨b,rfl⟩:=rq o hk
  cases (show u=abi b from r)
  have e:(c9 k kvs).isSome=(atKey xs k).isSome:=by
   rcases p.val l o with⟨i,j⟩|⟨d,v,q,i,j,x,C⟩
   .rw[i,j];rfl
   .rw[i,j];rfl
  cases n with
  |false=>exact wpAny_in_heap (by show A.units+1+20<cLine;omega) (I.ky o hk) hs dd (by rw[<-e];exact f _ (I.tok _))
  |true=>exact PyProof.Rows.wpAny_notIn_heap (knd:=mD X.prog X.w) (by show A.units+1+20<cLine;omega) (I.ky o hk) hs dd (by rw[<-e];exact f _ (I.tok _))
theorem yp{d:aD}(G:A.units+64<cLine)(I:Inv X pins σ H s)(h:IsDc X.kd H a kvs)(ok:oneK kvs k=true)(hk:Den X.kd H k y)(t:RelV y u)(j:c9 k kvs=some d)
  (i:∀v w s',Inv X pins σ H s'->RelV v w->Den X.kd H d v->Q w s'):wpAny (model X.prog X.w) A (aev (.ref a) u) Q E s:=by
 rcases jJ ok with⟨l,o⟩|⟨l,o⟩
 .obtain⟨kk,rfl⟩:=uV o;have B:=vv hk;subst B;rcases h with⟨x,n,g⟩|⟨x,n,kd,nd,g⟩
  .rcases g.val (kk:=kk)with⟨e,f⟩|⟨C,v,e,f,m⟩
   .rw[j]at e;cases e
   .rw[j]at e;cases e;exact tz (by omega) I (by rw[<-f];exact DGet.kr n) t λw s' D r=>i v w s' D r m
  .rw[l]at kd;cases kd
 .obtain⟨hs,xs,dd,p⟩:=I.dcX h l;let⟨b,rfl⟩:=rq o hk
  cases (show u=abi b from t)
  rcases p.val l o with⟨e,f⟩|⟨C,v,q,e,f,m,F⟩
  .rw[j]at e;cases e
  .rw[j]at e;cases e;exact wpAny_getItem_heap (knd:=mD X.prog X.w) (by show A.units+1+20<cLine;omega) (I.ky o hk) dd f (i v q.2 _ (I.tok _) F m)
end
end
section
variable {X:Cx}{a:Expr}{w:WE}{pos:Pos}
abbrev Tu:WE:=λm K=>K (.newT (.dict [])) m
theorem J8:ME X (.Dict [] [] pos) Tu:=pe_dnewK.wk<|by
 intro g H Q ⟨e,m,K,R,d,f⟩;intro p c;refine f _ m _ _ d rfl (R.lay c) ⟨[([],p)],p,rfl,rfl,by simp,λb h=>by simp at h;subst h;exact c,⟨⟨_,.ref p,rfl,?_,p,rfl,rfl⟩,λb h=>by simp at h;subst h;exact⟨_,ay,rfl⟩⟩⟩ (cC c);refine .inr (.inr (.inl ⟨rfl,rfl,p,[],rfl,rfl,ay,?_⟩));rfl
def wX:EE X (.Dict [] [] pos) Tu:=⟨J8⟩
end
section
variable {K:Kd}{H:Hp}{τ:List (List Nat×Addr)}{p:List Nat}
theorem j5:∀{ds:List aD}{i:Nat}{xs:List V},DenAll K H ds xs->TAtL K H τ p i (ds.map lfD) xs
 |[],_,_,h=>by simpa only[ac5,TAtL,DenAll]using h
 |d::ds,i,_,h=>by
  simp only[DenAll]at h;let⟨v,vs,rfl,b,a⟩:=h;simp only[aak,TAtL];exact⟨v,vs,rfl,mZ b,j5 a⟩
end
section
variable {K:Kx}{c:Al}{m:MSt}{d:St}{H:Hp}{k:Nat}{p:List Nat}{τ:List (List Nat×Addr)}{a:Addr}{t:aD}{ts ds:List aD}
theorem Rel.listN(R:Rel K c m d H)(n:c[k]?=some (.T τ))(l:τ.lookup p=some a)(f:m.os[k]?=some [t])(j:getT t p=some (.list ts)):∃xs,H a=some (.lst xs)/\TAtL K H τ p 0 ts xs:=by
 let⟨⟨o,v,z,g,_⟩,_⟩:=R.own k (.T τ) _ n f;cases z;let⟨q,b⟩:=g.get j;rw[abf]at b;simp only[TAt]at b;let⟨r,xs,e,_,i,h⟩:=b;rw[l]at e;cases e;exact⟨xs,i,h⟩
theorem Rel.setLs{xs x:List V}{ds':List aD}(R:Rel K c m d H)(l:c[k]?=some (.T τ))(f:τ.lookup p=some a)(q:m.os[k]?=some [t])(y:getT t p=some (.list ts))(ok:okW t p=true)(r:H a=some (.lst xs))(g':DenAll K H ds' x) :
  Rel K c {m with os:=m.os.set k [setT t p (.list (ds'.map lfD))]} d (upd H a (.lst x))/\Frm c H (upd H a (.lst x)):=by
 let⟨⟨B,v,z,g,s,n,j⟩,mu⟩:=R.own k (.T τ) _ l q;cases z;have o:Pers H (upd H a (.lst x)):=bm (.inr ⟨_,r,rfl⟩);have nd:(τ.map (·.2)).Nodup:=((fY c).mp R.nd).1 (.T τ) (GT l);have new:TAt K (upd H a (.lst x)) τ p (.list (ds'.map lfD)) (.ref a):=by
  simp only[TAt];exact⟨a,x,f,rfl,ay,j5 (g'.mono o)⟩
 have all:TAt K (upd H a (.lst x)) τ [] (setT t p (.list (ds'.map lfD))) v:=TAt.set nd o g y ok (by rw[abf];exact f) (by rw[abf];exact new) λu h=>by
  rw[abf]at h;simp only[TAt]at h;let⟨A,_,e,w,_⟩:=h;rw[f]at e;cases e;exact w
 exact R.setW l o (ds':=[setT t p (.list (ds'.map lfD))]) (λb i=>av λeb=>i (eb▸bC f)) ⟨⟨_,v,rfl,all,s,n,j⟩,λb i=>by
  by_cases eb:b=a
  .subst eb;exact⟨_,ay,rfl⟩
  .rw[av eb];exact mu b i⟩
end
section
variable {X:Cx}{o e:Expr}{n:WE}{c l:Pos}
def Uw(m:MSt)(k:Nat)(p:List Nat)(P:List aD->(List aD->MSt)->Prop):Prop:=∃t ts ds,m.os[k]?=some [t]/\getT t p=some (.list ts)/\dj ts=some ds/\okW t p=true/\P ds λd=>{m with os:=m.os.set k [setT t p (.list (d.map lfD))]}
def qg:WM:=λr rs m K=>onAt (λk p=>on1 (i6 λd=>Uw m k p λds f=>ds.length<aai/\K (.imm .none) (f (ds++[d]))) rs) r
theorem yj:MtM X "list.append" (mM X.kx qg):=by
 intro b s f H x M v B Q I K E ⟨T,m,L,O,S,r,rs,P,R,F,i,h,j⟩;let⟨k,p,U,a,rfl,y,w,rfl,h⟩:=yf F h;let⟨V,N,rfl,rfl,i,h⟩:=ef i h;let⟨d,rfl,hd,t,ts,ds,u,z,C,ok,D,h⟩:=fq i h;let⟨A,q,J⟩:=R.listN y w u z;have g:=jw J C;let⟨R2,G⟩:=R.setLs y w u z ok q (g.append (DenAll.cons hd DenAll.nil));exact lM b s f H _ _ v B Q I K E ⟨a,A,_,rfl,rfl,q,by rw[<-g.length];exact D,j _ _ _ _ h rfl R2 vZ G⟩
def wJ:WO:=λr1 r m K=>onAt (λk p=>CN (λi=>∃t ts j a,m.os[k]?=some [t]/\getT t p=some (.list ts)/\ixN ts.length i=some j/\ts[j]?=some a/\K (f9 k p j a)) r) r1
theorem TAtL.get'{K:Kd}{H:Hp}{τ:List (List Nat×Addr)}{p:List Nat}:∀{ts:List aD}{i j:Nat}{xs:List V}{t:aD},TAtL K H τ p i ts xs->ts[j]?=some t->∃v,xs[j]?=some v/\TAt K H τ (p++[i+j]) t v
 |[],_,_,_,_,_,e=>by simp at e
 |t::ts,i,0,_,_,h,e=>by
  simp only[TAtL]at h;let⟨v,vs,rfl,d,_⟩:=h;simp at e;subst e;exact⟨v,rfl,d⟩
 |t::ts,i,j+1,_,_,h,e=>by
  simp only[TAtL]at h;let⟨v,vs,rfl,_,a⟩:=h;let⟨w,b,z⟩:=TAtL.get' a (j:=j) (by simpa using e);exact⟨w,by simpa using b,by rw[show i+(j+1)=i+1+j by omega];exact z⟩
theorem TAtL.len{K:Kd}{H:Hp}{τ:List (List Nat×Addr)}{p:List Nat}:∀{ts:List aD}{i:Nat}{xs:List V},TAtL K H τ p i ts xs->ts.length=xs.length
 |[],_,_,h=>by simp only[TAtL]at h;subst h;rfl
 |t::ts,i,_,h=>by
  simp only[TAtL]at h;let⟨v,vs,rfl,_,a⟩:=h;simp[TAtL.len a]
theorem GF:IxR X (rM X.kx wJ):=by
 intro d b f s z H x y v u Q I P M ⟨Y,m,S,T,W,r1,r2,U,R,N,G,r,A⟩ h;let⟨k,p,Z,a,rfl,B,K,rfl,r⟩:=yf N r;let⟨i,rfl,rfl,t,ts,j,V,D,O,J,L,r⟩:=I9 G r;let⟨E,q,g⟩:=R.listN B K D O;let⟨w,F,C⟩:=g.get' L;rw[acJ]at C;refine yP d b f s z H _ _ v u Q I P M ⟨a,E,i,w,rfl,rfl,SqL.of q,?_,A _ _ H r R (j2 R B C) (Frm.refl _ _)⟩ h;unfold atI;rw[<-g.len,J];exact F
def Ou{a b:Expr}{d w:WE}{pos:Pos}(g:ME X a d)(f:ME X b w)(i:nG b:=by intro _ _;rfl):ME X (.Subscript a b pos) (wBin wJ d w):=(T7 GF g f i).wk λ_ _ _ h=>rj h
end
def Gf{a:Hp}(old:∀b o,H b=some o->a b=some o):Pers H a:=⟨λb x q=>old b _ q,λb o u q=>old b _ q⟩
section
variable {K:Kd}{H:Hp}{τ τ':List (List Nat×Addr)}{w:List Nat}
mutual
theorem TAt.shift(e:∀q a,τ.lookup q=some a->τ'.lookup (w++q)=some a):∀{t:aD}{p:List Nat}{v:V},TAt K H τ p t v->TAt K H τ' (w++p) t v
 | .none,_,_,h=>by simp only[TAt]at h⊢;exact h
 | .bool _,_,_,h=>by simp only[TAt]at h⊢;exact h
 | .int _,_,_,h=>by simp only[TAt]at h⊢;exact h
 | .str _,_,_,h=>by simp only[TAt]at h⊢;exact h
 | .tuple _,_,_,h=>by simp only[TAt]at h⊢;exact h
 | .list ts,p,_,h=>by
  simp only[TAt]at h⊢;let⟨a,x,b,i,f,g⟩:=h;exact⟨a,x,e _ _ b,i,f,TAtL.shift e g⟩
 | .dict kvs,p,_,h=>by
  simp only[TAt]at h⊢;rcases h with⟨d,b,h⟩|⟨j,z,a,l,b,i,f,k,g⟩|⟨j,z,a,l,b,i,f,g⟩|⟨c,a,dx,C,x,m,b,i,f,k,g⟩
  .exact .inl ⟨d,b,h⟩
  .exact .inr (.inl ⟨j,z,a,l,e _ _ b,i,f,k,TAtD.shift e g⟩)
  .exact .inr (.inr (.inl ⟨j,z,a,l,e _ _ b,i,f,TAtK.shift e g⟩))
  .exact .inr (.inr (.inr ⟨c,a,dx,C,x,m,e _ _ b,i,f,k,TAtF.shift e g⟩))
theorem TAtL.shift(e:∀q a,τ.lookup q=some a->τ'.lookup (w++q)=some a):∀{ts:List aD}{p:List Nat}{i:Nat}{xs:List V},TAtL K H τ p i ts xs->TAtL K H τ' (w++p) i ts xs
 |[],_,_,_,h=>by simpa only[TAtL]using h
 |t::ts,p,i,_,h=>by
  simp only[TAtL]at h⊢;let⟨v,vs,c,b,g⟩:=h;exact⟨v,vs,c,by rw[aaU];exact TAt.shift e b,TAtL.shift e g⟩
theorem TAtD.shift(e:∀q a,τ.lookup q=some a->τ'.lookup (w++q)=some a):∀{ts:List (aD×aD)}{p:List Nat}{i:Nat}{xs:List (Int×V×V)},TAtD K H τ p i ts xs->TAtD K H τ' (w++p) i ts xs
 |[],_,_,_,h=>by simpa only[TAtD]using h
 |(k,t)::ts,p,i,_,h=>by
  simp only[TAtD]at h⊢;let⟨u,v,vs,d,c,b,g⟩:=h;exact⟨u,v,vs,d,c,by rw[aaU];exact TAt.shift e b,TAtD.shift e g⟩
theorem TAtK.shift(e:∀q a,τ.lookup q=some a->τ'.lookup (w++q)=some a):∀{ts:List (aD×aD)}{p:List Nat}{i:Nat}{xs:List (Key×V)},TAtK K H τ p i ts xs->TAtK K H τ' (w++p) i ts xs
 |[],_,_,_,h=>by simpa only[TAtK]using h
 |(k,t)::ts,p,i,_,h=>by
  simp only[TAtK]at h⊢;let⟨u,v,vs,d,c,b,g⟩:=h;exact⟨u,v,vs,d,c,by rw[aaU];exact TAt.shift e b,TAtK.shift e g⟩
theorem TAtF.shift(e:∀q a,τ.lookup q=some a->τ'.lookup (w++q)=some a):∀{ts:List (aD×aD)}{p:List Nat}{i:Nat}{xs:List (Str×V)},TAtF K H τ p i ts xs->TAtF K H τ' (w++p) i ts xs
 |[],_,_,_,h=>by simpa only[TAtF]using h
 |(.str f,t)::ts,p,i,_,h=>by
  simp only[TAtF]at h⊢;let⟨v,vs,c,b,g⟩:=h;exact⟨v,vs,c,by rw[aaU];exact TAt.shift e b,TAtF.shift e g⟩
 |(.none,d)::r,_,_,_,h=>by simp only[TAtF]at h⊢;exact TAtF.shift e h
 |(.bool _,d)::r,_,_,_,h=>by simp only[TAtF]at h
 |(.int _,d)::r,_,_,_,h=>by simp only[TAtF]at h
 |(.list _,d)::r,_,_,_,h=>by simp only[TAtF]at h
 |(.tuple _,d)::r,_,_,_,h=>by simp only[TAtF]at h
 |(.dict _,d)::r,_,_,_,h=>by simp only[TAtF]at h
end
end
def trR:R->Option aD
 | .imm d=>some (lfD d)
 | .new ds=>some (.list (ds.map lfD))
 | .newT t=>some t
 |_=>none
def allA:List (List (List Nat×Addr))->List Addr
 |[]=>[]
 |τ::τs=>τ.map (·.2)++allA τs
theorem P7{c:Hp}{r:R}{v:V}(h:RelR K α c H r v):∃τ:List (List Nat×Addr),(∀t,trR r=some t->TAt K H τ [] t v)/\(τ.map (·.2)).Nodup/\(∀a∈τ.map (·.2),∃o,H a=some o/\Mu o=true)/\∀a∈τ.map (·.2),c a=none:=by
 cases r with
 |imm d=>exact⟨[],λt e=>(by cases e;exact mZ h),abE,λ_ z=>(by simp at z),λ_ z=>(by simp at z)⟩
 |new ds=>
  let⟨a,x,rfl,n,q,g⟩:=h;refine⟨[([],a)],λt e=>?_,by simp,λb z=>?_,λb z=>?_⟩
  .cases e;simp only[TAt];exact⟨a,x,rfl,rfl,q,j5 g⟩
  .simp at z;subst z;exact⟨_,q,rfl⟩
  .simp at z;subst z;exact n
 |newT t=>
  let⟨τ,a,rfl,j,nd,n,⟨l,m,z,g,k,f,i⟩,mu⟩:=h;cases z;rw[j]at f;cases f;subst i;exact⟨τ,λt e=>(by cases e;exact g),nd,mu,n⟩
 |obj _=>exact⟨[],λt e=>(by cases e),abE,λ_ z=>(by simp at z),λ_ z=>(by simp at z)⟩
 | «at» _ _=>exact⟨[],λt e=>(by cases e),abE,λ_ z=>(by simp at z),λ_ z=>(by simp at z)⟩
def km(i:Nat):List (List (List Nat×Addr))->List (List Nat×Addr)
 |[]=>[]
 |τ::τs=>τ.map (λq=>(i::q.1,q.2))++km (i+1) τs
theorem fE:∀(i:Nat) (τs:List (List (List Nat×Addr))),(km i τs).map (·.2)=allA τs
 |_,[]=>rfl
 |i,τ::τs=>by rw[km,aaq,fE,aa9];rfl
theorem xj{i:Nat}{q:List Nat}:∀τ:List (List Nat×Addr),(τ.map λa=>(i::a.1,a.2)).lookup (i::q)=τ.lookup q
 |[]=>rfl
 |(r,b)::τ=>by
  rw[aak,aa3,aa3,xj τ];have:((i::q)==(i::r))=(q==r):=by simp
  rw[this]
theorem k7{i j:Nat}{q:List Nat}(h:j≠i):∀τ:List (List Nat×Addr),(τ.map λa=>(i::a.1,a.2)).lookup (j::q)=none
 |[]=>rfl
 |(r,b)::τ=>by
  rw[aak,aa3,k7 h τ];have:((j::q)==(i::r))=false:=by simp[h]
  rw[this]
theorem xp{β c:Type}[BEq β]{a b:List (β×c)}{k:β}:(a++b).lookup k=(a.lookup k).or (b.lookup k):=by
 induction a with
 |nil=>simp
 |cons x a i=>
  let⟨d,v⟩:=x;rw[adv,aa3,aa3,i]
  split<;>simp
theorem pq:∀{τs:List (List (List Nat×Addr))}{i j:Nat}{τ:List (List Nat×Addr)}{q:List Nat}{a:Addr},τs[j]?=some τ->τ.lookup q=some a->(km i τs).lookup ((i+j)::q)=some a
 |[],_,_,_,_,_,e,_=>by simp at e
 |τ0::τs,i,0,τ,q,a,e,h=>by
  simp at e;subst e;rw[km,xp,Nat.add_zero,xj,h];rfl
 |τ0::τs,i,j+1,τ,q,a,e,h=>by
  rw[km,xp,k7 (by omega)];have:=pq (i:=i+1) (j:=j) (τs:=τs) (by simpa using e) h;rw[show i+1+j=i+(j+1) by omega]at this;rw[this];rfl
section
variable {X:Cx}{scope sc:Scope}{own fr:List Str}{ps:List Nat}{elt c o:Expr}{ifs:List Expr}{pos np l s p d e:Pos}{tt:WT}{w f:WE}{g:WI}{x y:Str}{i:Nat}
def uQ{a b:Expr}{j h:WE}{pos:Pos}(m:EE X a j)(k:EE X b h)(n:nG b:=by intro _ _;rfl):EE X (.Subscript a b pos) (wBin wJ j h):=⟨Ou m.h k.h n⟩
end
def lQ{X:Cx}:MtM X "list.append" (mM X.kx qg):=yj
section
variable {m:MSt}{Q:R->MSt->Prop}{w a:WE}{b:WI}{tt:WT}{own:List Str}{ps:List Nat}
def tw{k:Nat}{p:List Nat}{t d:aD}(g:m.os[k]?=some [t])(f:getT t p=some (.list ts))(e:dj ts=some ds)(i:okW t p=true)(c:ds.length<aai)(h:Q (.imm .none) {m with os:=m.os.set k [setT t p (.list ((ds++[d]).map lfD))]}):qg (.at k p) [.imm d] m Q:=⟨t,ts,ds,g,f,e,i,c,h⟩
def uw{k:Nat}{p:List Nat}{t t':aD}{K:R->Prop}(d:m.os[k]?=some [t])(c:getT t p=some (.list ts))(e:ixN ts.length i=some j)(f:ts[j]?=some t')(h:K (f9 k p j t')):wJ (.at k p) (.imm (.int i)) m K:=⟨t,ts,j,t',d,c,e,f,h⟩
end
section
variable {X:Cx}{o e g:Expr}{es:List Expr}{w:WE}{f:WA}{b c:Pos}
def Qt(K:Kd)(to:TE)(t:TA):TE:=λl H Q=>to l H λx m=>∃a i,x = .ref a/\IsDc K m a i/\t l m λn j=>∃h k y z,n=[y,z]/\IsDc K j a h/\oneK h k=true/\Den K j k y/\∀v,((∃d,c9 k h=some d/\Den K j d v)\/(c9 k h=none/\v=z))->Q v j
theorem D6{to:TE}{t:TA}(T:X.A.units+64<cLine)(U:PE X o to)(D:PA X (e::es) t)
  (d:abr o "get" X.env (eval o X.env)=eval o X.env:=by rfl)
  (j:((abk c (aac (e::es) X.env)).all (λx=>!x.1)&&(acW c (abV [] X.env)).all (λx=>x.1.isSome)
   && decide ((e::es).length+([]:List acZ).length+(if ([]:List acZ).isEmpty then 0 else 1)<30))=true:=by rfl)
  (i:(b.endLine==c.line)=true:=by rfl) (G:aac (e::es) X.env=(false,eval e X.env)::aac es X.env:=by rfl) (l:(abk c (aac es X.env)).any (·.1)=false:=by rfl) :
  PE X (.Call (.Attribute o "get" b) (e::es) [] c) (Qt X.kd to t):=by
 intro p s n H Q I h;refine af1 d j i rfl (thn (U p s n H _ I h) λv s1 ⟨x,O,A,r1,q⟩=>?_);let⟨a,u,rfl,dc0,q⟩:=q;cases (r1);let⟨P,E⟩:=A.dcT dc0;refine⟨"dict","dict.get",afM,ael,PySem.F.type_dict_get,P,E,?_⟩;have B:=D c p s1 n O _ A q;rw[G]at B⊢;refine aea ‹_› (agq ?_);refine thn B λV s2 ⟨vs,J,F,r,S⟩=>?_;let⟨M,k,y,z,rfl,dc,ok,hk,m⟩:=S
 cases r with
 | cons N r=>
  cases r with
  |cons K r=>
   cases r;exact Ot T F dc ok hk N K λv W Y R L C=>⟨v,J,R,L,m v C⟩
abbrev IC(w:WE)(f:WA):WE:=λm K=>w m λr m1=>∃a,dcM m1 a r/\(isKd a=true\/kyA a=true)/\f m1 λrs m2=>∃d k z,rs=[.imm k,.imm z]/\dcM m2 d r/\oneK d k=true/\K (.imm ((c9 k d).getD z)) m2
theorem Dm(P:X.A.units+64<cLine)(S:ME X o w)(C:MA X (e::es) f)
  (l:abr o "get" X.env (eval o X.env)=eval o X.env:=by rfl)
  (q:((abk c (aac (e::es) X.env)).all (λx=>!x.1)&&(acW c (abV [] X.env)).all (λx=>x.1.isSome)
   && decide ((e::es).length+([]:List acZ).length+(if ([]:List acZ).isEmpty then 0 else 1)<30))=true:=by rfl)
  (n:(b.endLine==c.line)=true:=by rfl) (E:aac (e::es) X.env=(false,eval e X.env)::aac es X.env:=by first|exact aG rfl|rfl) (i:(abk c (aac es X.env)).any (·.1)=false:=by rfl) :
  ME X (.Call (.Attribute o "get" b) (e::es) [] c) (IC w f):=(D6 P S C l q n E i).wk<|by
 intro U H Q ⟨A,m,W,y,J,t⟩;refine⟨A,m,_,y,J,λr m1 v Y k n1 R rr T=>?_⟩;let⟨p,G,O,k⟩:=k;let⟨a,rfl,dc0⟩:=RelR.dc R rr G O;refine⟨a,p,rfl,dc0,A,m1,_,R,k,λrs m2 vs I k2 n2 s h F=>?_⟩;let⟨j,N,z,rfl,L,ok,k2⟩:=k2;have hk:isKd j=true\/kyA j=true:=by
  rcases jJ ok with z|z
  .exact .inl z.1
  .exact .inr z.1
 let⟨V,M,dc⟩:=RelR.dc s (rr.keep y R F) L hk;cases M
 cases h with
 | cons D h=>
  cases h with
  |cons K h=>
   cases h;refine⟨j,N,_,_,rfl,dc,ok,D,λv B=>t _ m2 v I k2 (n2.trans n1) s ?_ (T.trans F)⟩;rcases B with⟨d,u,hd⟩|⟨u,rfl⟩
   .rw[u];exact hd
   .rw[u];exact K
def oInD(n:Bool):WO:=λr1 r m K=>i6 (λk=>∃a,dcM m a r/\oneK a k=true/\K (.imm (.bool (if n=true then !(c9 k a).isSome else(c9 k a).isSome)))) r1
theorem JU(C:X.A.units+64<cLine)(n:Bool):OpR X (abh (if n=true then .NotIn else .In)) (rM X.kx (oInD n)):=by
 intro p s i H x y v u Q I B r ⟨J,m,D,E,G,r1,L,K,R,t,j,h,d⟩;let⟨k,rfl,hk,q,l,ok,h⟩:=fq t h;let⟨a,rfl,dc⟩:=RelR.dc R j l (by
  rcases jJ ok with z|z
  .exact .inl z.1
  .exact .inr z.1)
 cases (r);exact VH C I dc ok hk B n λF A=>⟨.bl _,H,A,rfl,d _ _ H h R (lW _) (Frm.refl _ _)⟩
def oX(h:X.A.units+64<cLine):OpR X (abh .NotIn) (rM X.kx (oInD true)):=JU h true
theorem B9(k:X.A.units+64<cLine)(m:EE X o w)(l:EA X (e::es) f)
  (d:abr o "get" X.env (eval o X.env)=eval o X.env:=by rfl)
  (i:((abk c (aac (e::es) X.env)).all (λx=>!x.1)&&(acW c (abV [] X.env)).all (λx=>x.1.isSome)
   && decide ((e::es).length+([]:List acZ).length+(if ([]:List acZ).isEmpty then 0 else 1)<30))=true:=by rfl)
  (a:(b.endLine==c.line)=true:=by rfl) (j:aac (e::es) X.env=(false,eval e X.env)::aac es X.env:=by first|exact aG rfl|rfl) (h:(abk c (aac es X.env)).any (·.1)=false:=by rfl) :
  EE X (.Call (.Attribute o "get" b) (e::es) [] c) (IC w f):=⟨Dm k m.h l.h d i a j h⟩
end
def onTr(P:aD->Prop)(r:R):Prop:=match trR r with
 |some t=>P t
 |none=>False
end L2
namespace L2
open PySem PySem.Spec PyProof.Rows
open Sem (wp)
variable{H:Hp}{p:List Nat}{t:aD}{kvs:List (aD×aD)}{c qual:Str}{K:aad}{C:Addr}{st:Stmt}{N ps:List Str}{od:Option Addr}{sl:Array (Option mT)}{mg:Str->Option mT}{n nN:Nat}{pl:Sem Bool}{ts:List (Str×aD)}{xs:List (Str×V)}{τs:List (List (List Nat×Addr))}{sp:SpI}{ds:List aD}{P:aD->Prop}
def iJ(s:Stmt):List Stmt:=match s with
 | .ClassDef _ _ _ b _ _ _ _ _ _ _=>b
 |_=>[]
def fdAt(f:Str):Nat->List (aD×aD)->Option (Nat×aD)
 |_,[]=>none
 |i,(.str g,t)::r=>if decide (g=f)=true then some (i,t)else fdAt f (i+1) r
 |i,(.none,_)::r=>fdAt f (i+1) r
 |i,(.bool _,_)::r=>fdAt f (i+1) r
 |i,(.int _,_)::r=>fdAt f (i+1) r
 |i,(.list _,_)::r=>fdAt f (i+1) r
 |i,(.tuple _,_)::r=>fdAt f (i+1) r
 |i,(.dict _,_)::r=>fdAt f (i+1) r
section
variable {K:Kd}{H:Hp}{τ:List (List Nat×Addr)}{p:List Nat}{f:Str}
theorem TAtF.look:∀{ts:List (aD×aD)}{i j:Nat}{xs:List (Str×V)}{t:aD},TAtF K H τ p i ts xs->fdAt f i ts=some (j,t)->∃v,xs.lookup f=some v/\TAt K H τ (p++[j]) t v
 |[],_,_,_,_,_,e=>by cases e
 | (.str g,t)::ts,i,j,xs,t',h,e=>by
  simp only[TAtF]at h;let⟨v,vs,rfl,k,a⟩:=h;simp only[fdAt]at e
  by_cases c:g=f
  .rw[if_pos (decide_eq_true c)]at e;cases e;subst c;exact⟨v,by simp[aez],k⟩
  .rw[if_neg (by simpa using c)]at e;let⟨b,m,l⟩:=TAtF.look a e;refine⟨b,?_,l⟩;rw[aa3];have:(f==g)=false:=by simp only[beq_eq_false_iff_ne,ne_eq];exact λz=>c z.symm
   rw[this];exact m
 |(.none,d)::r,i,j,xs,t',h,e=>by simp only[TAtF]at h;simp only[fdAt]at e;exact TAtF.look h e
 |(.bool _,d)::r,_,_,_,_,h,_=>by simp only[TAtF]at h
 |(.int _,d)::r,_,_,_,_,h,_=>by simp only[TAtF]at h
 |(.list _,d)::r,_,_,_,_,h,_=>by simp only[TAtF]at h
 |(.tuple _,d)::r,_,_,_,_,h,_=>by simp only[TAtF]at h
 |(.dict _,d)::r,_,_,_,_,h,_=>by simp only[TAtF]at h
theorem TAtF.noF:∀{ts:List (aD×aD)}{i:Nat}{xs:List (Str×V)},TAtF K H τ p i ts xs->fdAt f i ts=none->xs.lookup f=none
 |[],_,_,h,_=>by simp only[TAtF]at h;subst h;rfl
 | (.str g,t)::ts,i,xs,h,e=>by
  simp only[TAtF]at h;let⟨v,vs,rfl,b,a⟩:=h;simp only[fdAt]at e
  by_cases c:g=f
  .rw[if_pos (decide_eq_true c)]at e;cases e
  .rw[if_neg (by simpa using c)]at e;rw[aa3];have:(f==g)=false:=by simp only[beq_eq_false_iff_ne,ne_eq];exact λz=>c z.symm
   rw[this];exact TAtF.noF a e
 |(.none,d)::r,i,xs,h,e=>by simp only[TAtF]at h;simp only[fdAt]at e;exact TAtF.noF h e
 |(.bool _,d)::r,_,_,h,_=>by simp only[TAtF]at h
 |(.int _,d)::r,_,_,h,_=>by simp only[TAtF]at h
 |(.list _,d)::r,_,_,h,_=>by simp only[TAtF]at h
 |(.tuple _,d)::r,_,_,h,_=>by simp only[TAtF]at h
 |(.dict _,d)::r,_,_,h,_=>by simp only[TAtF]at h
end
def Rel.insN{K:Kx}{d:Al}{m:MSt}{i:St}(R:Rel K d m i H){k:Nat}{τ:List (List Nat×Addr)}{a:Addr}(o:d[k]?=some (.T τ))(l:τ.lookup p=some a)(f:m.os[k]?=some [t])(s:getT t p=some (.dict kvs))(j:excC kvs=some c) :
  ∃dx C xs,H a=some (.ins C dx xs)/\ClsN K c C/\TAtF K H τ p 0 kvs xs:=by
 let⟨⟨v,w,z,g,_⟩,_⟩:=R.own k (.T τ) _ o f;cases z;let⟨x,b⟩:=g.get s;rw[abf]at b;let⟨u,dx,C,xs,e,_,r,q,h⟩:=b.ins j;rw[l]at e;cases e;exact⟨dx,C,xs,r,q,h⟩
structure InsF(K:aad)(c f:Str):Prop where
 ex:∃C,aaG K aav c=some (some (.ref C))/\Cls K C/\NoAttr K C f
def InsF.of{f:Str}(a:aaG K aav c=some (some (.ref C)))(b1:acV K C aeW=true)(b2:adk K C=true)(e:ad6 K C=true)(b:abo K (.ref C) "__setattr__" = some (some (.builtin "object.__setattr__")))(d:abo K (.ref C) f=some none):InsF K c f:=⟨C,a,⟨b1,b2,e,b⟩,d⟩
def fGot(m:MSt)(c:Str)(k:Nat)(p:List Nat)(f:Str)(K:R->Prop):Prop:=∃t kvs j a,m.os[k]?=some [t]/\getT t p=some (.dict kvs)/\excC kvs=some c/\fdAt f 0 kvs=some (j,a)/\K (f9 k p j a)
abbrev wFld(c f:Str)(w:WE):WE:=λm K=>w m λr m1=>onAt (λk p=>fGot m1 c k p f λr=>K r m1) r
section
variable {X:Cx}{o:Expr}{w:WE}{pos:Pos}{c f:Str}
theorem QM(C:InsF X.K c f)(O:ME X o w)(s:abr o f X.env (eval o X.env)=eval o X.env:=by rfl):ME X (.Attribute o f pos) (wFld c f w):=(TW O s).wk<|by
 intro T H Q ⟨J,m,U,i,A,b⟩;refine⟨J,m,_,i,A,λr m1 v G q n1 R rr S=>?_⟩;let⟨k,p,W,a,rfl,e,D,rfl,t,kvs,j,V,h,I,y,E,q⟩:=yf rr q;let⟨dx,d,xs,B,M,g⟩:=R.insN e D h I y;let⟨z,l,cl,F⟩:=C.ex;have x:d=z:=by
  have:=M.symm.trans l;simpa using this
 subst x;let⟨v,u,L⟩:=g.look E;exact⟨a,d,dx,xs,v,rfl,B,cl,F,u,b _ m1 v G q n1 R (j2 R e L) S⟩
theorem cn(C:InsF X.K c f)(a:EE X o w)(h:abr o f X.env (eval o X.env)=eval o X.env:=by rfl):EE X (.Attribute o f pos) (wFld c f w):=⟨QM C a.h h⟩
end
structure gf(P:aaF)(w:World)(K:aad)(mg:Str->Option mT)(base:aaW)(c m:Str)(k n:Nat)(sp:SpM):Prop where
 ex:∃(C f:Addr) (fd:ab3) (ps:List Str),FnOk P w K mg base CX0 k f fd ps (spOf ⟨K,w⟩ n sp)/\aaG K aav c=some (some (.ref C))/\Cls K C/\Meth K C m f/\Binds K fd ps []
 ar:∀as Kc,sp as Kc->as.length=n
structure MthD(K:aad)(c m qual:Str)(st:Stmt)(ps:List Str):Prop where
 ex:∃(C f:Addr) (fd:ab3),Fun K m qual st f fd/\aaG K aav c=some (some (.ref C))/\Cls K C/\Meth K C m f/\Binds K fd ps []
def MthD.of{m:Str}{f:Addr}{o kV g pm b ct:mT}{an:Option Addr}(i:∀(kV g pm:mT) (an:Option Addr) (b ct:mT) (us:List mT),us.length=ps.length->adG (abj m qual (cx st) (bH st) (ab st) .none kV g pm an b ct) ⟨us,[]⟩=pure (ps.zip us))
  (a:aaG K aav c=some (some (.ref C))) (b1:acV K C aeW=true) (b2:adk K C=true) (h:ad6 K C=true) (j:abo K (.ref C) "__setattr__" = some (some (.builtin "object.__setattr__")))
  (d:abo K (.ref C) m=some (some (.ref f))) (l:K.lookup f=some ⟨o,od,.func (abj m qual (cx st) (bH st) (ab st) .none kV g pm an b ct),sl⟩) (e:ado K b qual=true) (k:abM K (.ref f)=true) (fn:aeR K (.ref f)=true):MthD K c m qual st ps:=
 ⟨C,f,_,ua l e k,a,⟨b1,b2,h,j⟩,⟨d,fn,k⟩,(ua l e k).binds i⟩
theorem jW{P:aaF}{w:World}{base:aaW}{m:Str}{k:Nat}{sp:SpM}(D:MthD K c m qual st ps)(S:aq N ps (ab st))(j:ps.length=n)(v:N.length=nN)(g:n≤nN)(ar:∀as e,sp as e->as.length=n)
  (d:∀(b:mT) (A:aa4) (outer:List Env) (s:AD) (H:Hp) (E:XK) (f:Addr),Room k (A.deeper (ad8 qual (ab st) s.heap.objs.size f b)) ->
   ∃i,ESs (cxOf CX0 P w K mg base N qual (ab st) f b A outer s H E).nox (bH st) i/\∀as e,as.length=n->sp as e->i {nx:=λm=>e (.imm .none) (m.os.take m.np),rt:=λr m=>retK e m r} (d7 nN as)) :
  gf P w K mg base c m (k+1) n sp:=by
 let⟨C,f,fd,F,a,cl,q,u⟩:=D.ex;refine⟨⟨C,f,fd,ps,F.ok S (λvs H Q E h=>by rw[j];exact h.len) (λb A outer s H vs Q E o h=>?_),a,cl,q,u⟩,ar⟩;let⟨i,x,l⟩:=d b A outer s H E f o;exact⟨_,x.h,fn_m (K:=(cxOf CX0 P w K mg base N qual (ab st) f b A outer s H E).nox.kx) rfl h v g l⟩
def insR(m:MSt)(c f:Str)(r:R)(P:Prop):Prop:=∃k kvs,r = .at k []/\m.os[k]?=some [.dict kvs]/\excC kvs=some c/\fdAt f 0 kvs=none/\P
def Si(P:List Ag->List Nat->Prop)(o:Option (List Ag×List Nat)):Prop:=∃a k,o=some (a,k)/\P a k
abbrev yI(c f:Str)(sp:SpM)(w:WE)(d:WA):WE:=λm K=>w m λa m1=>insR m1 c f a (d m1 λrs m2=>Si (λb k=>k.Nodup/\sp b λr o=>K (mapR k r) {m2 with os:=cR m2.os k o}) (iQ m2 (a::rs)))
section
variable {X:Cx}{o a:Expr}{es:List Expr}{w:WE}{d:WA}{pos b:Pos}{c f:Str}{k n:Nat}{sp:SpM}{E:XK}{i:St}{H:Hp}{Q:VK}{C:Addr}
theorem Cb(h:tM X.kx (yI c f sp w d) i H Q)(hC:aaG X.K aav c=some (some (.ref C)))(W:∀as L,sp as L->as.length=n):J7 C f (spOf X.kd n sp) [] E (tM X.kx w) (tMA X.kx d) i H Q:=by
 let⟨l,m,L,V,hw,x⟩:=h;refine⟨l,m,_,V,hw,λro m1 v H1 q n1 j rr D=>?_⟩;let⟨T,kvs,rfl,U,e5,e6,q⟩:=q;let⟨τ,a,J,I,rfl⟩:=id rr;let⟨dx,Z,xs,hH,hc,g⟩:=j.insN J I U (p:=[]) rfl e5;have Y:Z=C:=by
  have:=hc.symm.trans hC;simpa using this
 subst Y;refine⟨a,dx,xs,rfl,hH,g.noF e6,l,m1,_,j,q,λrs m2 vs G q2 n2 R y S=>?_⟩
 .obtain⟨as,ks,e,nd,hsp⟩:=q2;have B:RelRs X.kx l H (G) (.at T []::rs) (.ref a::vs):=.cons (show RelR X.kx l H G (.at T []) (.ref a)from⟨τ,a,J,I,rfl⟩) (y.base j D);let⟨β,ra,u⟩:=gq R B e;refine⟨as,β,_,W _ _ hsp,d9 R.nd nd u,by rw[aaN];exact ra,hsp,λr M v H' s O z F=>?_⟩;let⟨A,F3⟩:=xw R nd u O F;exact x _ _ v H' s (n2.trans n1) A ((vM u z).base R (D.trans S)) ((D.trans S).trans F3)
theorem N6(F:gf X.prog X.w X.K X.mg X.base c f k n sp)(m:Room k X.A)(v:ME X o w)(q:MA X (a::es) d)
  (e:aac (a::es) X.env=(false,eval a X.env)::aac es X.env:=by first|exact aG rfl|rfl) (j:(abk pos (aac es X.env)).any (·.1)=false:=by rfl)
  (u:eval (.Call (.Attribute o f b) (a::es) [] pos) X.env=(do
   let ov <- eval o X.env
   acH b.atName
   let (f,first) <- adr [ov] (aen ov f pl)
   ago pos f first (abk pos (aac (a::es) X.env)) (acW pos (abV [] X.env))):=by rfl):ME X (.Call (.Attribute o f b) (a::es) [] pos) (yI c f sp w d):=by
 let⟨C,g,fd,ps,G,s,cl,r,l⟩:=F.ex;exact(Oi (E:=E0) (pl:=pl) v cl r G m l .nil DT q e j u).wk λ_ _ _ h=>Cb h s F.ar
theorem Cy(F:gf X.prog X.w X.K X.mg X.base c f k n sp)(O:Room k X.A)(U:ME X o w)
  (D:eval (.Call (.Attribute o f b) [] [] pos) X.env=(do
   let ov <- eval o X.env
   acH b.atName
   let (f,first) <- adr [ov] (aen ov f pl)
   ago pos f first (abk pos (aac [] X.env)) (acW pos (abV [] X.env))):=by rfl):ME X (.Call (.Attribute o f b) [] [] pos) (yI c f sp w wNil):=by
 let⟨C,g,fd,ps,G,B,cl,S,z⟩:=F.ex;refine(DQ (E:=E0) (pl:=pl) U cl S G O z .nil DT D).wk λi H Q h=>?_;let⟨T,m,M,y,I,j⟩:=Cb (E:=E0) h B F.ar;refine⟨T,m,M,y,I,λr m1 v u q n1 s rr V=>?_⟩;let⟨a,dx,fs,L,J,x,A,m2,W,R,l,e⟩:=j r m1 v u q n1 s rr V;exact⟨a,dx,fs,L,J,x,e [] m2 [] u l rfl R .nil (Frm.refl _ _)⟩
theorem ig(F:gf X.prog X.w X.K X.mg X.base c f k n sp)(j:Room k X.A)(m:EE X o w)(l:EA X (a::es) d)
  (h:aac (a::es) X.env=(false,eval a X.env)::aac es X.env:=by first|exact aG rfl|rfl) (e:(abk pos (aac es X.env)).any (·.1)=false:=by rfl)
  (g:eval (.Call (.Attribute o f b) (a::es) [] pos) X.env=(do
   let ov <- eval o X.env
   acH b.atName
   let (f,first) <- adr [ov] (aen ov f pl)
   ago pos f first (abk pos (aac (a::es) X.env)) (acW pos (abV [] X.env))):=by rfl):EE X (.Call (.Attribute o f b) (a::es) [] pos) (yI c f sp w d):=⟨N6 (pl:=pl) F j m.h l.h h e g⟩
def t8(F:gf X.prog X.w X.K X.mg X.base c f k n sp)(h:Room k X.A)(e:EE X o w)
  (g:eval (.Call (.Attribute o f b) [] [] pos) X.env=(do
   let ov <- eval o X.env
   acH b.atName
   let (f,first) <- adr [ov] (aen ov f pl)
   ago pos f first (abk pos (aac [] X.env)) (acW pos (abV [] X.env))):=by rfl):EE X (.Call (.Attribute o f b) [] [] pos) (yI c f sp w wNil):=⟨Cy (pl:=pl) F h e.h g⟩
end
inductive FsOk(K:Kd)(H:Hp):List (Str×aD)->List (Str×V)->List (List (List Nat×Addr))->Prop where
 |nil:FsOk K H [] [] []
 |cons {f:Str}{t:aD}{v:V}{τ:List (List Nat×Addr)}{ts:List (Str×aD)}{xs:List (Str×V)}{τs:List (List (List Nat×Addr))}:TAt K H τ [] t v->(∀a∈τ.map (·.2),∃o,H a=some o/\Mu o=true)->FsOk K H ts xs τs->FsOk K H ((f,t)::ts) ((f,v)::xs) (τ::τs)
theorem FsOk.snoc{K:Kd}{H:Hp}{f:Str}{t:aD}{v:V}{τ:List (List Nat×Addr)}(h:TAt K H τ [] t v)(d:∀a∈τ.map (·.2),∃o,H a=some o/\Mu o=true):∀{ts:List (Str×aD)}{xs:List (Str×V)}{τs:List (List (List Nat×Addr))},FsOk K H ts xs τs->FsOk K H (ts++[(f,t)]) (xs++[(f,v)]) (τs++[τ])
 |_,_,_,.nil=>FsOk.cons h d .nil
 |_,_,_,.cons (f:=g) a b c=>FsOk.cons (f:=g) a b (FsOk.snoc h d c)
theorem FsOk.mono{K:Kd}{f:Hp}(g:Pers H f)(h:FsOk K H ts xs τs):(∀a∈allA τs,f a=H a)->FsOk K f ts xs τs:=by
 induction h with
 |nil=>intro _;exact .nil
 |cons a b c i=>
  intro e;exact .cons (TAt.mono g (λx d=>e x (abB _ d)) a) (λx d=>by rw[e x (abB _ d)];exact b x d) (i λx d=>e x (aaI _ d))
theorem FsOk.names{K:Kd}:∀{ts:List (Str×aD)}{xs:List (Str×V)}{τs:List (List (List Nat×Addr))},FsOk K H ts xs τs->xs.map (·.1)=ts.map (·.1)
 |_,_,_,.nil=>rfl
 |_,_,_,.cons _ _ c=>by rw[aak,aak,c.names]
theorem FsOk.mu{K:Kd}:∀{ts:List (Str×aD)}{xs:List (Str×V)}{τs:List (List (List Nat×Addr))},FsOk K H ts xs τs->∀a∈allA τs,∃o,H a=some o/\Mu o=true
 |_,_,_,.nil,a,ha=>by cases ha
 |_,_,_,.cons _ b c,a,ha=>by
  rcases aaT.mp ha with z|z
  .exact b a z
  .exact c.mu a z
theorem lw:∀(τs:List (List (List Nat×Addr))) (τ:List (List Nat×Addr)),allA (τs++[τ])=allA τs++τ.map (·.2)
 |[],τ=>by simp[allA]
 |σ::τs,τ=>by rw[adv,allA,allA,lw τs,aaU]
def insT(c:Str)(ts:List (Str×aD)):aD:=.dict ((.none,.str c)::ts.map λf=>(.str f.1,f.2))
theorem FsOk.at{K:Kd}{τ':List (List Nat×Addr)}(h:FsOk K H ts xs τs):∀{i:Nat},(∀(j:Nat) (τ:List (List Nat×Addr)) (q:List Nat) (a:Addr),τs[j]?=some τ->τ.lookup q=some a->τ'.lookup ((i+j)::q)=some a)->TAtF K H τ' [] i (ts.map λd=>(.str d.1,d.2)) xs:=by
 induction h with
 |nil=>intro i _;simp only[ac5,TAtF]
 | @cons f t v τ ts xs τs a b c ih=>
  intro i l;simp only[aak,TAtF];refine⟨v,xs,rfl,?_,ih λj τ q a k g=>?_⟩
  .have:=TAt.shift (τ':=τ') (w:=[i]) (λq a e=>l 0 τ q a rfl e) a;simpa using this
  .rw[show i+1+j=i+(j+1) by omega];exact l (j+1) τ q a (by simpa using k) g
theorem wf{f:Str}{v:V}:∀{xs:List (Str×V)},f∉xs.map (·.1)->putF f v xs=xs++[(f,v)]
 |[],_=>rfl
 |(g,x)::r,h=>by
  rw[aak,aaf,not_or]at h;rw[show putF f v ((g,x)::r)=(if g=f then(g,v)::r else(g,x)::putF f v r)from rfl,if_neg (λz=>h.1 z.symm),wf h.2];rfl
def DI(K:aad):List (Str×TE)->TS->TS
 |[],w=>w
 |(f,tv)::r,w=>tSeq (sFld K (tVar 0) tv f) (DI K r w)
def wFs:List (Str×WE)->MSt->(List (Str×aD)->MSt->Prop)->Prop
 |[],m,K=>K [] m
 |(f,we)::r,m,K=>we m λa m1=>onTr (λt=>wFs r m1 λts m2=>K ((f,t)::ts) m2) a
abbrev SpI:=List aD->(aD->Prop)->Prop
def l7(n:Nat)(ds:List aD):MSt:=⟨none::(ds.map λd=>some (.imm d))++aal (n-(ds.length+1)) none,[],0⟩
def Jy(c:Str)(nN:Nat)(fs:List (Str×WE))(w:WS)(ds:List aD)(a:aD->Prop):Prop:=
 wFs fs (l7 nN ds) λts _=>w {nx:=λm=>∃t,m.os[0]?=some [t]/\a t,rt:=λ_ _=>False} (d7 nN (.tr (insT c ts)::ds.map .imm))
def spIn(K:Kd)(c:Str)(n:Nat)(sp:SpI):Sp:=λvs H Q _=>∃a C dx ds v f,vs = .ref a::v/\ds.length=n/\H a=some (.ins C dx [])/\ClsN K c C/\DenAll K H ds v/\sp ds f/\
 ∀t d e,f t->d.lookup []=some a->(d.map (·.2)).Nodup->(∀b∈d.map (·.2),b=a\/H b=none)->OwnAt K e (.T d) [t]->(∀b o,H b=some o->b≠a->e b=some o)->Q .non e
theorem spIn.len{K:Kd}{vs:List V}{Q:VK}{E:XK}(h:spIn K c n sp vs H Q E):vs.length=n+1:=by
 let⟨a,C,dx,ds,v,d,rfl,b,_,_,hd,_⟩:=h;rw[aaA,<-hd.length,b]
structure EIn(X:Cx)(c:Str)(body:List Stmt)(fs:List (Str×WE))(w:WS):Prop where
 h:PSs X body (DI X.K (fs.map λfw=>(fw.1,tM X.kx fw.2)) (tMS X.kx w))
 all:∀f∈fs.map (·.1),InsF X.K c f
section
variable {X:Cx}{c f:Str}{b:List Stmt}{fs:List (Str×WE)}{w:WS}{a:WE}{e:Expr}{p d pos:Pos}
def Dg(h:ESs X b w):EIn X c b [] w:=⟨h.h,λ_ z=>by cases z⟩
theorem iE(I:InsF X.K c f)(o:EE X e a)(j:EIn X c b fs w)(l:X.N[0]?=some ("self" : Str):=by rfl)(k:Vis X.env.scope "self":=by first|exact afw rfl|exact adq (afw rfl)|exact adq (adq rfl))(m:abA e (some (.Attribute (.Name "self" p) f d)) pos.line X.env=pure false:=by rfl):EIn X c (.Assign [.Attribute (.Name "self" p) f d] e pos::b) ((f,a)::fs) w:=
 ⟨xo (Su (Ip (i:=0) l k) o.h m) j.h,λg h=>by
  rcases aaf.mp h with rfl|h
  .exact I
  .exact j.all g h⟩
end
theorem JF{K:Kx}{m:MSt}{f:St}{g:Hp}(o:K.eb=⟨0,[],λ_=>none⟩)(l:Pers H g)(R:Rel K [] m f H):Rel K [] m f g:=by
 refine⟨R.nd,R.len,λk q ds z=>by simp at z,R.vlen,λi r z=>?_,R.npl,R.ebl,by rw[o];exact⟨rfl,λ_ _ z=>(by cases z),λ_ _=>.inr rfl,λa h=>(by cases h)⟩⟩;let⟨v,j,b⟩:=R.var i r z;refine⟨v,j,?_⟩
 cases r with
 |imm d=>exact Den.mono l b
 |obj k=>let⟨a,e,_⟩:=b;simp at e
 | «at» k p=>let⟨s,a,e,_⟩:=b;simp at e
 |new ds=>exact b
 |newT t=>exact b
theorem o8{K:Kd}{H:Hp}:∀{ds:List aD}{vs:List V},DenAll K H ds vs->RelAs K H (ds.map .imm) vs []
 |[],_,h=>by simp only[DenAll]at h;subst h;exact .nil
 |d::ds,_,h=>by
  simp only[DenAll]at h;let⟨v,vs,rfl,f,g⟩:=h;exact .imm f (o8 g)
theorem wj:∀ds:List aD,agO (ds.map .imm)=[]
 |[]=>rfl
 |d::ds=>by simp only[aak,agO,wj ds]
theorem QZ{X:Cx}{fs:List (Str×WE)}{w:WS}{vs:List V}{Q:VK}{E:XK}(he:X.kx.eb=⟨0,[],λ_=>none⟩)(hN:N.length=nN)(hle:n+1≤nN)(all:∀f∈fs.map (·.1),InsF X.K c f)(nd:(fs.map (·.1)).Nodup)(h9:fs.length<900)
  (h:spIn X.kd c n sp vs H Q E) (hw:∀ds T,ds.length=n->sp ds T->Jy c nN fs w ds T):DI X.K (fs.map λfw=>(fw.1,tM X.kx fw.2)) (tMS X.kx w) {nx:=λ_ W=>Q .non W,rt:=Q} (start N vs) H:=by
 let⟨a,C,dx,ds,l,T,rfl,hl,G,hc,hd,hsp,fin⟩:=h;have hw0:=hw ds T hl hsp;have hvl:ds.length=l.length:=hd.length;have σ0:(start N (.ref a::l))[0]?=some (some (.ref a)):=rfl;have R0:Rel X.kx [] (l7 nN ds) (start N (.ref a::l)) H:=by
  refine⟨abE,rfl,λk ao es z=>by simp at z,?_,λi r z=>?_,Mt _,by rw[he];exact Mt _,by rw[he];exact⟨rfl,λ_ _ z=>(by cases z),λ_ _=>.inr rfl,λa G=>(by cases G)⟩⟩
  .simp[start,l7];omega
  .cases i with
   |zero=>simp[l7]at z
   | succ i=>
    have L:((ds.map λd=>some (R.imm d))++aal (nN-(ds.length+1)) none)[i]?=some (some r):=by simpa[l7]using z
    by_cases hi:i<ds.length
    .rw[aaC (by rw[iO];exact hi),aah]at L
     cases q:ds[i]? with
     |none=>rw[q]at L;cases L
     |some d=>
      rw[q]at L;cases L;let⟨v,ev,gv⟩:=hd.get q;refine⟨v,?_,gv⟩;show(some (V.ref a)::l.map some++aal (N.length-(l.length+1)) none)[i+1]?=_;rw[adv,List.getElem?_cons_succ,aaC (by rw[iO];omega),aah,ev];rfl
    .rw[aaL (by rw[iO];omega),ad2]at L
     split at L<;>cases L
 have go:∀(J:List (Str×WE)) (m:MSt) (B:Hp) (done:List (Str×aD)) (xs:List (Str×V)) (τs:List (List (List Nat×Addr))),(∀f∈J.map (·.1),InsF X.K c f)->(done.map (·.1)++J.map (·.1)).Nodup->done.length+J.length<900 ->
   Rel X.kx [] m (start N (.ref a::l)) B->B a=some (.ins C dx xs)->FsOk X.kd B done xs τs->(allA τs).Nodup->(∀b∈allA τs,H b=none)->(∀b o,H b=some o->b≠a->B b=some o) ->
   wFs J m (λts _=>w {nx:=λm=>∃t,m.os[0]?=some [t]/\T t,rt:=λ_ _=>False} (d7 nN (.tr (insT c (done++ts))::ds.map .imm))) ->
   DI X.K (J.map λfw=>(fw.1,tM X.kx fw.2)) (tMS X.kx w) {nx:=λ_ W=>Q .non W,rt:=Q} (start N (.ref a::l)) B:=by
  intro J
  induction J with
  | nil=>
   intro m B done xs τs _ _ _ Rl A I D fr old hk;have hk':w {nx:=λm=>∃t,m.os[0]?=some [t]/\T t,rt:=λ_ _=>False} (d7 nN (.tr (insT c done)::ds.map .imm)):=by
    have hk2:w {nx:=λm=>∃t,m.os[0]?=some [t]/\T t,rt:=λ_ _=>False} (d7 nN (.tr (insT c (done++[]))::ds.map .imm)):=hk;rwa[aaN]at hk2
   have an:a∉allA τs:=λz=>by have:=fr a z;rw[G]at this;cases this
   have pe:Pers H B:=⟨λb xs e=>old b _ e λz=>(by rw[z,G]at e;cases e),λb o u e=>old b _ e λz=>(by rw[z,G]at e;cases e)⟩;have ow:OwnAt X.kx B (.T (([],a)::km 1 τs)) [insT c done]:=by
    refine⟨⟨_,.ref a,rfl,?_,a,rfl,rfl⟩,λb s=>?_⟩
    .unfold insT;simp only[TAt];refine .inr (.inr (.inr ⟨c,a,dx,C,xs,rfl,rfl,rfl,A,hc,?_⟩));simp only[TAtF];refine I.at λj τ q b e1 e2=>?_;rw[aa3];have:(((0+1+j)::q)==([]:List Nat))=false:=rfl;rw[this];exact pq (i:=1) e1 e2
    .rw[aak,fE]at s;obtain rfl|s:=aaf.mp s
     .exact⟨_,A,rfl⟩
     .exact I.mu b s
   have ra:RelAs X.kx B (.tr (insT c done)::ds.map .imm) (.ref a::l) [.T (([],a)::km 1 τs)]:=.tr ow rfl (o8 (hd.mono pe));have ndβ:(ads [Ao.T (([],a)::km 1 τs)]).Nodup:=by
    have:ads [Ao.T (([],a)::km 1 τs)]=a::allA τs:=by simp[ads,Ao.ads,fE]
    rw[this,aba];exact⟨an,D⟩
   have agl:(agO (.tr (insT c done)::ds.map .imm)).length=1:=by simp only[agO,wj,aaA,adW]
   have R1:=sG (K:=X.kx) (N:=N) (n:=n+1) hN hle (by simp[hl]) ndβ ra (by rw[he];exact abm _) (by rw[he];exact⟨rfl,λ_ _ z=>(by cases z),λ_ _=>.inr rfl,λa G=>(by cases G)⟩);refine⟨_,_,_,R1,hk',⟨λα' m' σ' W q hn R' x=>?_,λr α' m' σ' v W q _ _ _ _=>q.elim,λ_ _ _ _ z=>z.elim,λ_ _ _ _ z=>z.elim⟩⟩;let⟨O,F,_⟩:=p8 ra hn R' x;let⟨t,Z,kt⟩:=q;have hn1:m'.np=1:=hn.trans agl;refine fin t (([],a)::km 1 τs) W kt rfl (by rw[aak,fE,aba];exact⟨an,D⟩) (λb s=>?_) (O.at_ 0 _ _ rfl (by rw[hn1,aaO,if_pos (by decide)];exact Z)) λb o eb nb=>?_
   .rw[aak,fE]at s;obtain rfl|s:=aaf.mp s
    .exact .inl rfl
    .exact .inr (fr b s)
   .refine F b o (old b o eb nb) λz=>?_;have:ads [Ao.T (([],a)::km 1 τs)]=a::allA τs:=by simp[ads,Ao.ads,fE]
    rw[this]at z;rcases aaf.mp z with z|z
    .exact nb z
    .rw[fr b z]at eb;cases eb
  | cons g J ih=>
   let⟨f,we⟩:=g;intro m B done xs τs al S hz Rl A I D fr old hk;refine⟨[],m,_,Rl,hk,λr m1 v H1 q n1 Rl1 rr F1=>?_⟩;unfold onTr at q
   cases Z:trR r with
   |none=>rw[Z]at q;exact q.elim
   | some t=>
    rw[Z]at q;let⟨τ,t1,t2,t3,t4⟩:=P7 rr;have up:∀b o,B b=some o->H1 b=some o:=λb o e=>F1 b o e (by simp[ads]);have hH1:=up a _ A;let⟨C0,hn,cl,na⟩:=(al f (by simp)).ex;have ec:C=C0:=by
     have:=hc.symm.trans hn;simpa using this
    subst ec;have fn:f∉xs.map (·.1):=by
     rw[I.names];intro z;rw[aak,acK]at S;exact S.2.2 f z f aaa rfl
    have xl:xs.length=done.length:=by have:=congrArg adn I.names;simpa using this
    refine⟨.ref a,σ0,a,C,dx,xs,rfl,hH1,cl,na,by rw[xl];omega,?_⟩;rw[wf fn];have U:Pers H1 (upd H1 a (.ins C dx (xs++[(f,v)]))):=bm (.inr ⟨_,hH1,rfl⟩);have pec:Pers B H1:=⟨λb xs e=>up b _ e,λb o u e=>up b _ e⟩;have an:a∉allA τs:=λz=>by have:=fr a z;rw[G]at this;cases this
    have M:a∉τ.map (·.2):=λz=>by have:=t4 a z;rw[A]at this;cases this
    have Y:∀b,B b=none->H b=none:=λb q=>by
     cases z:H b with
     |none=>rfl
     |some o=>
      have ne:b≠a:=λy=>by rw[y,A]at q;cases q
      have:=old b o z ne;rw[q]at this;cases this
    refine ih m1 _ (done++[(f,t)]) (xs++[(f,v)]) (τs++[τ]) (λg hg=>al g (LD _ hg)) ?_ ?_ (JF he U Rl1) ay ?_ ?_ ?_ ?_ ?_
    .rw[aaq,aaU];exact S
    .rw[aaj];simp at hz⊢;omega
    .refine FsOk.snoc (TAt.mono U (λb s=>av (λ(z:b=a)=>M (z▸s))) (t1 t Z)) (λb s=>by rw[av (λ(z:b=a)=>M (z▸s))];exact t3 b s) ?_;refine FsOk.mono (pec.trans U) I (λb s=>?_);rw[av (λ(z:b=a)=>an (z▸s))];let⟨o,q,_⟩:=I.mu b s;rw[q];exact up b o q
    .rw[lw,acK];refine⟨D,t2,λb s b' hb' z=>?_⟩;subst z;let⟨o,q,_⟩:=I.mu b s;rw[t4 b hb']at q;cases q
    .intro b s;rw[lw]at s;rcases aaT.mp s with z|z
     .exact fr b z
     .exact Y b (t4 b z)
    .intro b o eb nb;rw[av nb];exact up b o (old b o eb nb)
    .have:=q;simp only[aaU,adv,abf]at this⊢;exact this
 exact go fs (l7 nN ds) H [] [] [] all (by simpa using nd) (by simpa using h9) R0 G .nil abE (λ_ z=>by cases z) (λ_ _ e _=>e) hw0
structure AQ(P:aaF)(w:World)(K:aad)(mg:Str->Option mT)(base:aaW)(c:Str)(k n:Nat)(sp:SpI):Prop where
 ex:∃(C f:Addr) (fd:ab3) (ps:List Str),Mk K C f/\FnOk P w K mg base CX0 k f fd ps (spIn ⟨K,w⟩ c n sp)/\aaG K aav c=some (some (.ref C))/\mg c=some (.ref C)/\Binds K fd ps []
 ar:∀ds Kc,sp ds Kc->ds.length=n
structure IniD(K:aad)(mg:Str->Option mT)(c qual:Str)(st:Stmt)(ps:List Str):Prop where
 ex:∃(C f:Addr) (fd:ab3),Fun K "__init__" qual st f fd/\Mk K C f/\aaG K aav c=some (some (.ref C))/\mg c=some (.ref C)/\Binds K fd ps []
structure IniDK(K:aad)(c qual:Str)(st:Stmt)(ps:List Str):Prop where
 ex:∃(C f:Addr) (fd:ab3),Fun K "__init__" qual st f fd/\Mk K C f/\aaG K aav c=some (some (.ref C))/\Binds K fd ps []
def IniDK.of{f:Addr}{o kV g pm b ct:mT}{an:Option Addr}(h:∀(kV g pm:mT) (an:Option Addr) (b ct:mT) (us:List mT),us.length=ps.length->adG (abj "__init__" qual (cx st) (bH st) (ab st) .none kV g pm an b ct) ⟨us,[]⟩=pure (ps.zip us))
  (a:aaG K aav c=some (some (.ref C))) (d:abo K (.ref C) "__init__" = some (some (.ref f))) (l:K.lookup f=some ⟨o,od,.func (abj "__init__" qual (cx st) (bH st) (ab st) .none kV g pm an b ct),sl⟩) (e:ado K b qual=true) (k:abM K (.ref f)=true) (fn:aeR K (.ref f)=true) (m:af8 K C=true) (i:abM K (.ref C)=true):IniDK K c qual st ps:=
 ⟨C,f,_,ua l e k,⟨m,d,fn,i⟩,a,(ua l e k).binds h⟩
theorem IniDK.m{h:aaW}(D:IniDK K c qual st ps)(X:K.In h)(G:h.Ns aav mg):IniD K mg c qual st ps:=by
 let⟨C,f,fd,F,M,a,b⟩:=D.ex;exact⟨C,f,fd,F,M,a,afx X G a,b⟩
theorem Mf{P:aaF}{w:World}{base:aaW}{k:Nat}(D:IniD K mg c qual st ps)(S:aq N ps (ab st))(o:ps.length=n+1)(v:N.length=nN)(g:n+1≤nN)(ar:∀ds e,sp ds e->ds.length=n)
  (d:∀(b:mT) (A:aa4) (outer:List Env) (s:AD) (H:Hp) (E:XK) (f:Addr),Room k (A.deeper (ad8 qual (ab st) s.heap.objs.size f b)) ->
   ∃fs i,EIn (cxOf CX0 P w K mg base N qual (ab st) f b A outer s H E).nox c (bH st) fs i/\(decide (fs.map (·.1)).Nodup=true/\fs.length<900)/\∀ds e,ds.length=n->sp ds e->Jy c nN fs i ds e) :
  AQ P w K mg base c (k+1) n sp:=by
 let⟨C,f,fd,F,M,a,m,q⟩:=D.ex;refine⟨⟨C,f,fd,ps,M,F.ok S (λvs H Q E h=>by rw[o];exact h.len) (λb A outer s H vs Q E r h=>?_),a,m,q⟩,ar⟩;let⟨fs,i,l,j,u⟩:=d b A outer s H E f r;exact⟨_,l.h,QZ (X:=(cxOf CX0 P w K mg base N qual (ab st) f b A outer s H E).nox) rfl v g l.all (of_decide_eq_true j.1) j.2 h u⟩
def m6:List R->Option (List aD)
 |[]=>some []
 | .imm d::rs=>(m6 rs).map (d :: ·)
 |_::_=>none
def w5(P:List aD->Prop)(rs:List R):Prop:=match m6 rs with
 |some ds=>P ds
 |none=>False
abbrev M6(sp:SpI)(w:WA):WE:=λm K=>w m λrs m1=>w5 (λds=>sp ds λt=>K (.newT t) m1) rs
theorem wN{K:Kd}{a:Al}{b H:Hp}:∀{rs:List R}{vs:List V}{ds:List aD},RelRs K a b H rs vs->m6 rs=some ds->DenAll K H ds vs
 |_,_,ds,.nil,e=>by cases e;exact DenAll.nil
 | _,_,ds,.cons (r:=.imm d) (rs:=rs) h t,e=>by
  simp only[m6]at e
  cases q:m6 rs with
  |none=>rw[q]at e;cases e
  |some f=>
   rw[q]at e;cases e;exact DenAll.cons h (wN t q)
 |_,_,_,.cons (r:=.obj _) _ _,e=>by cases e
 |_,_,_,.cons (r:=.at _ _) _ _,e=>by cases e
 |_,_,_,.cons (r:=.new _) _ _,e=>by cases e
 |_,_,_,.cons (r:=.newT _) _ _,e=>by cases e
section
variable {X:Cx}{a:Expr}{es:List Expr}{w:WA}{p pos:Pos}{c:Str}{k n:Nat}{sp:SpI}{E:XK}{d:St}{H:Hp}{Q:VK}{C:Addr}
theorem K9(h:tM X.kx (M6 sp w) d H Q)(S:aaG X.K aav c=some (some (.ref C)))(M:∀ds G,sp ds G->ds.length=n):QH C (spIn X.kd c n sp) [] E (tMA X.kx w) d H Q:=by
 let⟨r,m,G,L,T,D⟩:=h;refine⟨r,m,_,L,T,λrs m1 vs f q n1 R rr I x dx s v ne=>?_⟩;unfold w5 at q
 cases e:m6 rs with
 |none=>rw[e]at q;exact q.elim
 | some ds=>
  rw[e]at q;have hd:=wN rr e;have up:∀b o,f b=some o->(upd (upd f dx (.own x)) x (.ins C dx [])) b=some o:=λb o eb=>by
   have b1:b≠x:=λz=>by rw[z,s]at eb;cases eb
   have b2:b≠dx:=λz=>by rw[z,v]at eb;cases eb
   rw[av b1,av b2];exact eb
  have g:∀b,f b=none->H b=none:=λb q=>by
   cases z:H b with
   |none=>rfl
   |some o=>
    by_cases j:b∈ads r
    .obtain⟨o,q2,_⟩:=R.mem j;rw[q]at q2;cases q2
    .have:=I b o z j;rw[q]at this;cases this
  have B:Pers f (upd (upd f dx (.own x)) x (.ins C dx [])):=⟨λb xs e=>up b _ e,λb o u e=>up b _ e⟩;refine⟨x,C,dx,ds,vs,_,by rw[aaN],M _ _ q,ay,S,hd.mono B,q,λt Z l W V U J Y O=>⟨rfl,?_⟩⟩;have i:∀b o,f b=some o->l b=some o:=λb o eb=>O b o (up b o eb) λz=>by rw[z,s]at eb;cases eb
  have F:Frm r f l:=λb o eb _=>i b o eb;have A:Rel X.kx r m1 d l:=R.at (Gf i) (λb j=>by let⟨o,q,_⟩:=R.mem j;rw[q];exact i b o q) F;refine D _ m1 (.ref x) l W n1 A ⟨Z,x,rfl,V,U,λb j=>?_,Y⟩ (I.trans F);rcases J b j with rfl|z
  .exact g _ s
  .refine g b ?_
   cases y:f b with
   |none=>rfl
   |some o=>rw[up b o y]at z;cases z
theorem JH(F:AQ X.prog X.w X.K X.mg X.base c k n sp)(o:Room (k+1) X.A)(i:MA X (a::es) w)(q:Gl X c:=by rfl)(b:(c==("__debug__" : Str))=false:=by decide)(l:aac (a::es) X.env=(false,eval a X.env)::aac es X.env:=by first|exact aG rfl|rfl)(e:(abk pos (aac es X.env)).any (·.1)=false:=by rfl):ME X (.Call (.Name c p) (a::es) [] pos) (M6 sp w):=by
 let⟨C,f,fd,ps,M,G,j,m,g⟩:=F.ex;exact(KO (E:=E0) M G o q m g .nil DT i b l e).wk λ_ _ _ h=>K9 h j F.ar
theorem Db(F:AQ X.prog X.w X.K X.mg X.base c k n sp)(f:Room (k+1) X.A)(g:EA X (a::es) w)(e:Gl X c:=by rfl)(h:(c==("__debug__" : Str))=false:=by decide)(i:aac (a::es) X.env=(false,eval a X.env)::aac es X.env:=by first|exact aG rfl|rfl)(b:(abk pos (aac es X.env)).any (·.1)=false:=by rfl):EE X (.Call (.Name c p) (a::es) [] pos) (M6 sp w):=⟨JH F f g.h e h i b⟩
end
section
variable {m:MSt}{Q:R->MSt->Prop}{a:WE}{b:WA}{c f:Str}{sp:SpM}{s:SpI}
def RM{k j:Nat}{t' d:aD}{K:R->Prop}(l:m.os[k]?=some [t])(i:getT t p=some (.dict kvs))(e:excC kvs=some c)(o:fdAt f 0 kvs=some (j,t'))(g:iG t'=some d)(h:K (.imm d)):fGot m c k p f K:=⟨t,kvs,j,t',l,i,e,o,by unfold f9;rw[g];exact h⟩
def vk{k j:Nat}{t':aD}{K:R->Prop}(i:m.os[k]?=some [t])(g:getT t p=some (.dict kvs))(e:excC kvs=some c)(l:fdAt f 0 kvs=some (j,t'))(d:iG t'=none)(h:K (.at k (p++[j]))):fGot m c k p f K:=⟨t,kvs,j,t',i,g,e,l,by unfold f9;rw[d];exact h⟩
def yZ{p:List Ag->List Nat->Prop}{as:List Ag}{ks:List Nat}{o:Option (List Ag×List Nat)}(e:o=some (as,ks))(nd:ks.Nodup)(h:p as ks):Si (λas ks=>ks.Nodup/\p as ks) o:=⟨as,ks,e,nd,h⟩
def TQ{k:Nat}{P:Prop}(g:m.os[k]?=some [.dict kvs])(d:excC kvs=some c)(e:fdAt f 0 kvs=none)(h:P):insR m c f (.at k []) P:=⟨k,kvs,rfl,g,d,e,h⟩
def Du{P:List aD->Prop}{rs:List R}(e:m6 rs=some ds)(h:P ds):w5 P rs:=by unfold w5;rw[e];exact h
def Lh{fs:List (Str×WE)}{w:WS}{g:aD->Prop}(d:MSt)(e:d=l7 nN ds)(h:wFs fs d λts _=>w {nx:=λm=>∃t,m.os[0]?=some [t]/\g t,rt:=λ_ _=>False} (d7 nN (.tr (insT c ts)::ds.map .imm))):Jy c nN fs w ds g:=by subst e;exact h
def VC{r:List (Str×WE)}{w:WE}{K:List (Str×aD)->MSt->Prop}(h:w m λd m1=>onTr (λt=>wFs r m1 λts m2=>K ((f,t)::ts) m2) d):wFs ((f,w)::r) m K:=h
def Vv{K:List (Str×aD)->MSt->Prop}(h:K [] m):wFs [] m K:=h
def U7{d:aD}(h:P (lfD d)):onTr P (.imm d):=h
def Vo(h:P (.list (ds.map lfD))):onTr P (.new ds):=h
def UL(h:P t):onTr P (.newT t):=h
end
def UQ(K:Kd)(to ti:TE):TE:=λe H Q=>to e H λx f=>ti e f λy b=>∃a kvs k d,x = .ref a/\IsDc K b a kvs/\oneK kvs k=true/\Den K b k y/\c9 k kvs=some d/\∀v,Den K b d v->Q v b
section
variable {X:Cx}{o i:Expr}{w b:WE}{pos:Pos}{to ti:TE}
theorem LW(J:X.A.units+64<cLine)(L:PE X o to)(z:PE X i ti)(l:NoSl i):PE X (.Subscript o i pos) (UQ X.kd to ti):=by
 intro e s f H Q I h;refine zd afh.lookup l (thn (L e s f H _ I h) λu s1 ⟨x,B,j,G,q⟩=>thn (z e s1 f B _ j q) λR s2 ⟨y,m,g,A,a,kvs,k,d,ex,dc,ok,hk,F,E⟩=>?_);subst ex;obtain rfl:u=abi a:=G;exact⟨(g.dcT dc).1,yp J g dc ok hk A F λv M O D r hd=>⟨v,m,D,r,E v hd⟩⟩
abbrev QV(w b:WE):WE:=λm K=>w m λa m1=>b m1 λr m2=>i6 (λk=>∃kvs d,dcM m2 kvs a/\oneK kvs k=true/\c9 k kvs=some d/\K (.imm d) m2) r
theorem MQ(A:X.A.units+64<cLine)(B:ME X o w)(x:ME X i b)(l:NoSl i:=by intro _ _;rfl):ME X (.Subscript o i pos) (QV w b):=(LW A B x l).wk<|by
 intro E H Q ⟨j,m,M,h,s,f⟩;refine⟨j,m,_,h,s,λL m1 I O k1 n1 e r D=>⟨j,m1,_,e,k1,λG m2 J q k2 n2 R g F=>?_⟩⟩;let⟨k,rfl,hk,kvs,d,u,ok,y,k2⟩:=fq g k2;let⟨a,rfl,dc⟩:=RelR.dc R (r.keep h e F) u (by
  rcases jJ ok with z|z
  .exact .inl z.1
  .exact .inr z.1)
 exact⟨a,kvs,k,d,rfl,dc,ok,hk,y,λv hd=>f _ m2 v q k2 (n2.trans n1) R hd (D.trans F)⟩
theorem wq(d:X.A.units+64<cLine)(h:EE X o w)(a:EE X i b)(e:NoSl i:=by intro _ _;rfl):EE X (.Subscript o i pos) (QV w b):=⟨MQ d h.h a.h e⟩
end
end L2
set_option maxHeartbeats 1100000
namespace L2
open PySem PySem.Spec PyProof.Rows
open Sem (wp)
variable{Q:Option mT->AD->Prop}{kvs:List (aD×aD)}{w:WS}
structure EntAt(h:aaW)(d:Addr)(es:Array ab8)(ep:Nat):Prop where
 ex:∃o,h.get? d=some o/\o.ExactDict/\o.data = .dict es ep
section
variable {prog:aaF}{w:World}{A:aa4}{E:mT->AD->Prop}{s:AD}{f d:Addr}{es:Array ab8}{i l:Nat}{ok p:mT}
def si{Q:String->AD->Prop}(a:s.TypeIs (.ref f) "dict_itemiterator")(h:Q "dict_itemiterator" s):wpAny (model prog w) A (typeNameOfWhole (.ref f)) Q E s:=wpAny_typeNameOfWhole_itemiter a h
def xP{j n:Nat}{k v:mT}{Q:mT->AD->Prop}(c:ac6 s.heap f d j n l ok p)
  (I:∀h',afD h' f d j n l k v s.heap.objs.size->h'.get? s.heap.objs.size=some {cls:=.type "tuple",data:=.seq #[k,v]}->h'.objs.size=s.heap.objs.size+1 ->
   (∀b o,b≠f->s.heap.get? b=some o->h'.get? b=some o)->Q (.ref s.heap.objs.size) {s with heap:=h' }):wpAny (model prog w) A (ab6 (.ref f) 6 k v) Q E s:=by
 have lt:f<s.heap.objs.size:=aao c;rcases s with⟨h,g,K,P,os⟩;refine gT (m:=newTuple [k,v]) (agt ?_);have F:(h.push {cls:=.type "tuple",data:=.seq #[k,v]}).objs.size=h.objs.size+1:=abC ..;have C:(h.push {cls:=.type "tuple",data:=.seq #[k,v]}).get? h.objs.size=some {cls:=.type "tuple",data:=.seq #[k,v]}:=aan _ rfl;have z:∀b o,h.get? b=some o->(h.push {cls:=.type "tuple",data:=.seq #[k,v]}).get? b=some o:=λb o q=>Ld _ q;have a:ac6 (h.push {cls:=.type "tuple",data:=.seq #[k,v]}) f d j n l ok p:=z _ _ c;show wpAny _ _ (abO (.ref f) >>= _) _ _ ⟨h.push {cls:=.type "tuple",data:=.seq #[k,v]},g,K,P,os⟩;generalize h.push {cls:=.type "tuple",data:=.seq #[k,v]}=D at F C z a;refine gT (m:=abO (.ref f)) ?_;refine gT (m:=field (.ref f) 0) (abD a rfl (x:=.none) rfl (Io ?_));refine gT (m:=field (.ref f) 6) (abD a rfl (x:=ok) rfl (gT (m:=field (.ref f) 7) (abD a rfl (x:=p) rfl ?_)));refine gT (m:=adL (.ref f) 6 k) (aaY a (by simp) λJ M s1=>?_);have t:ac6 J f d j n l k p:=M;refine gT (m:=adL (.ref f) 7 v) (aaY t (by simp) λN R s2=>?_);have y:ac6 N f d j n l k v:=R;refine gT (m:=adL (.ref f) 0 (ae6 h.objs.size)) (aaY y (by simp) λO L B=>?_);have r:afD O f d j n l k v h.objs.size:=L;refine gT (m:=adL (.ref f) 1 (.bool false)) (aaY r (by simp) λe S G=>?_);have u:afD e f d j n l k v h.objs.size:=S;have up:∀b o,b≠f->D.get? b=some o->e.get? b=some o:=λb o nb q=>G.extBut b o nb (B.extBut b o nb (s2.extBut b o nb (s1.extBut b o nb q)));have H:e.objs.size=D.objs.size:=by rw[G.1,B.1,s2.1,s1.1]
 exact gT (m:=letGo _ _) (afp (Io (I e u (up _ _ (abv lt) C) (H.trans F) λb o nb q=>up b o nb (z b o q))))
theorem zP(h:ac6 s.heap f d i es.size l ok p)(D:EntAt s.heap d es l)(G:i<es.size)
  (C:∀h',afD h' f d (i+1) es.size l es[i].key es[i].val s.heap.objs.size->h'.get? s.heap.objs.size=some {cls:=.type "tuple",data:=.seq #[es[i].key,es[i].val]}->h'.objs.size=s.heap.objs.size+1 ->
   (∀b o,b≠f->s.heap.get? b=some o->h'.get? b=some o)->Q (some (.ref s.heap.objs.size)) {s with heap:=h' }):wpAny (model prog w) A (acU (.ref f)) Q E s:=by
 let⟨I,k,H,c⟩:=D.ex;have a:s.TypeIs (.ref f) "dict_itemiterator":=(⟨_,h,rfl⟩);have own:abR "dict_itemiterator" = true:=by decide
 unfold acU;refine gT (add (aa0 (name:=acj "__next__") a aa7 (abc aa7 a aci ?_ (acb _))))
 wp_walk using si a,ae8 h rfl,acM k c,adY k c,abb a
 have x:(if (i:Int)<0 then none else es[((i:Nat):Int).toNat]?)=some es[i]:=by
  rw[if_neg (by omega),aa8,acd G]
 rw[x];rcases s with⟨u,g,r,v,os⟩;refine gT ?_;refine gT (si a (Io ?_));refine gT (m:=ae9 _ _) (abb a ?_);show wpAny _ _ (adL (.ref f) 3 (ae6 ((i:Int)+1)) >>= _) _ _ _;refine gT (aaY h (by simp) λj F s1=>?_);replace s1:ab2 f u j:=s1;have e:ac6 j f d (i+1) es.size l ok p:=by
  have q:((i+1:Nat):Int)=(i:Int)+1:=rfl;unfold ac6;rw[q];simpa[ae6]using F
 have T:afE ⟨j,g,r,v,os⟩ (.ref f) "dict_itemiterator":=(⟨_,e,rfl⟩);refine gT (abZ (gT (abb T (gT (abb T ?_)))));show wpAny _ _ (ab6 (.ref f) 6 es[i].key es[i].val) _ _ ⟨j,g,r,v,os⟩;have y:j.objs.size=u.objs.size:=s1.1;refine xP e λB n t z k2=>?_;rw[y]at n t z⊢;exact Io ⟨_,rfl,Io (C B n t z λb o nb q=>k2 b o nb (s1.extBut b o nb q))⟩
theorem zr(y:A.handled=none)(h:ac6 s.heap f d i es.size l ok p)(z:EntAt s.heap d es l)(j:es.size≤i)
  (v:∀h',(∀b o,b≠f->s.heap.get? b=some o->h'.get? b=some o)->Q none {s with heap:=h' }):wpAny (model prog w) A (acU (.ref f)) Q E s:=by
 let⟨B,g,k,c⟩:=z.ex;have a:s.TypeIs (.ref f) "dict_itemiterator":=(⟨_,h,rfl⟩);have own:abR "dict_itemiterator" = true:=by decide
 unfold acU;refine gT (add (aa0 (name:=acj "__next__") a aa7 (abc aa7 a aci ?_ (acb _))))
 wp_walk using si a,ae8 h rfl,acM g c,adY g c,abb a
 have n:(if (i:Int)<0 then none else es[((i:Nat):Int).toNat]?)=none:=by
  rw[if_neg (by omega),aa8,af5 j]
 rw[n];refine gT (gT (si a (Io ?_)));refine gT (m:=adL (.ref f) 2 .none) (aaY h (by simp) λD C s1=>?_);refine qV y λt e k2 ⟨r,x,u⟩=>?_;exact gT (adu (T:= "StopIteration") (b:=true) ⟨r,x,u⟩ agu (Io (v t λb o nb q=>k2 b o (s1.extBut b o nb q))))
def EntAt.keep{h h':aaW}(x:EntAt h d es l)(k:∀o,h.get? d=some o->h'.get? d=some o):EntAt h' d es l:=let ⟨o,a,b,c⟩:=x.ex;⟨o,k o a,b,c⟩
def EntAt.ty(x:EntAt s.heap d es l):s.TypeIs (.ref d) "dict":=let ⟨o,a,b,_⟩:=x.ex;⟨o,a,b.1⟩
def yu{Q:mT->AD->Prop}(hd:(d==abu)=false)(a:EntAt s.heap d es l)(h:Q (.ref s.heap.objs.size) {s with heap:=s.heap.push {cls:=.type "dict_items",data:=.fields #[.ref d]} }):wpAny (model prog w) A (call (.builtin "dict.items") [.ref d]) Q E s:=by
 refine ahb (S:=λ_ R s=>EntAt s.heap d es l/\R (.ok (.ret (.ref s.heap.objs.size))) {s with heap:=s.heap.push {cls:=.type "dict_items",data:=.fields #[.ref d]} }) afN a.ty PySem.F.entry_dict_items (PySem.F.args_dict_items_1 _) (.of_wp λA R s ⟨b,h⟩=>?_) ⟨a,h⟩;refine gT (gT (agk b.ty ?_));refine Io ?_;refine gT ?_;unfold acI.Dict.showsAll;rw[hd];exact Io (gT (abe (Io ⟨_,rfl,h⟩)))
end
section
variable {X:Cx}{p:List (Addr×Obj)}{a:St}{H:Hp}{s:AD}
def JM{P:aaF}{w:World}{kk:Key}{u:mT}(e:(cp P w).is kk u=true):RelV (kV kk) u:=by
 rcases bX e with⟨i,t,rfl,rfl⟩|⟨x,t,rfl,rfl⟩
 .exact⟨t,rfl⟩
 .exact⟨t,rfl⟩
end
theorem Paired.at{a β:Type}{R:a->β->Prop}:∀{xs:List a}{ys:List β}{i:Nat}{y:β},abL R xs ys->ys[i]?=some y->∃x,xs[i]?=some x/\R x y
 |_,_,i,y,.nil,e=>by simp at e
 |_,_,0,y,.cons h _,e=>by simp at e;subst e;exact⟨_,rfl,h⟩
 |_,_,i+1,y,.cons _ t,e=>by
  let⟨x,b,c⟩:=Paired.at t ‹_›;exact⟨x,by simpa using b,c⟩
theorem Bo{K:Kd}{H:Hp}:∀{kvs:List (aD×aD)}{xs:List (Int×V×V)},DenKV K H kvs xs->abL (λ(p:aD×aD) (e:V×V)=>Den K H p.1 e.1/\Den K H p.2 e.2) kvs (xs.map (·.2))
 |[],_,h=>by simp[DenKV]at h;subst h;exact .nil
 |_::r,_,h=>by
  let⟨u,v,vs,rfl,c,b,a⟩:=h;exact .cons ⟨c,b⟩ (Bo a)
theorem zX{K:Kd}{H:Hp}:∀{kvs:List (aD×aD)}{xs:List (Key×V)},DenKK K H kvs xs->abL (λ(p:aD×aD) (e:V×V)=>Den K H p.1 e.1/\Den K H p.2 e.2) kvs (xs.map λp=>(kV p.1,p.2))
 |[],_,h=>by simp[DenKK]at h;subst h;exact .nil
 |(k,d)::r,_,h=>by
  let⟨c,v,vs,rfl,⟨rfl,_⟩,b,a⟩:=h;refine .cons ⟨?_,b⟩ (zX a)
  cases c with
  |inl i=>exact yJ i
  |inr x=>exact Jf x
abbrev PDc(K:Kd)(H:Hp):List (aD×aD)->List (V×V)->Prop:=abL λp e=>Den K H p.1 e.1/\Den K H p.2 e.2
def gm(kvs:List (aD×aD)):List aD:=kvs.map λp=>.tuple [p.1,p.2]
theorem Paired.at1{a β:Type}{R:a->β->Prop}:∀{xs:List a}{ys:List β}{i:Nat}{x:a},abL R xs ys->xs[i]?=some x->∃y,ys[i]?=some y/\R x y
 |_,_,i,y,.nil,e=>by simp at e
 |_,_,0,y,.cons h _,e=>by simp at e;subst e;exact⟨_,rfl,h⟩
 |_,_,i+1,y,.cons _ t,e=>by
  let⟨x,b,c⟩:=Paired.at1 t ‹_›;exact⟨x,by simpa using b,c⟩
noncomputable def putX (k:aD) (b:Addr) (r:mT):List (aD×Addr×mT)->List (aD×Addr×mT)
 |[]=>[(k,b,r)]
 |x::xs=>if x.1=k then(x.1,x.2.1,r)::xs else x::putX k b r xs
theorem wZ{k:aD}{r:mT}:∀{xs:List (aD×Addr×mT)},k∉xs.map (·.1)->xs.map (putAt k r)=xs
 |[],_=>rfl
 |x::xs,h=>by
  rw[aak,aaf,not_or]at h;rw[aak,wZ h.2];unfold putAt;rw[if_neg (λz=>h.1 z.symm)]
theorem lH{k:aD}{b:Addr}{r:mT}:∀{xs:List (aD×Addr×mT)},(xs.map (·.1)).Nodup->storedH xs k b r=putX k b r xs
 |[],_=>rfl
 | x::xs,h=>by
  rw[aak,aba]at h
  by_cases e:x.1=k
  .have a:atKey (x::xs) k=some x.2:=by simp[atKey,e]
   rw[storedH_old a,aak,wZ (by rw[<-e];exact h.1)];unfold putX putAt;rw[if_pos e,if_pos e]
  .have a:atKey (x::xs) k=atKey xs k:=by simp[atKey,e]
   have i:=lH (k:=k) (b:=b) (r:=r) h.2;unfold putX;rw[if_neg e,<-i];unfold storedH;rw[a];split
   .rw[aak];unfold putAt;rw[if_neg e]
   .rfl
noncomputable def putE (w:World) (k:aD) (y v:V):List (aD×aD)->List (Int×V×V)->List (Int×V×V)
 |(k',_)::r,e::es=>if k'=k then(e.1,e.2.1,v)::es else e::putE w k y v r es
 |_,_=>[(fi w k,y,v)]
def zc{k d k' d':aD}{r:List (aD×aD)}(h:kyD k'=true)(hk:kyD k=true):putP k d ((k',d')::r)=if k'=k then(k',d)::r else(k',d')::putP k d r:=by
 show(if aag k' k=true then _ else _)=_;rw[tj _ _ (oU h) (oU hk)];simp
theorem wd(w:World)(k:aD)(y v:V):∀(kvs:List (aD×aD)) (es:List (Int×V×V)),kvs.length=es.length->(putE w k y v kvs es).length≤es.length+1
 |[],[],_=>Mt _
 |_::r,e::es,h=>by
  unfold putE;split
  .simp
  .rw[aaA,aaA];have:=wd w k y v r es (by simpa using h);omega
 |[],_::_,h=>by simp at h
 |_::_,[],h=>by simp at h
theorem vG{K:Kd}{H:Hp}{k d:aD}{y v:V}(hk:kyD k=true)(dk:Den K H k y)(a:Den K H d v):∀{kvs:List (aD×aD)}{es:List (Int×V×V)},kyA kvs=true->DenKV K H kvs es->DenKV K H (putP k d kvs) (putE K.w k y v kvs es)
 |[],es,_,g=>by
  subst g;show DenKV K H [(k,d)] [(fi K.w k,y,v)];simp only[DenKV];exact⟨y,v,[],rfl,dk,a,rfl⟩
 |(k',d')::r,es,ha,g=>by
  rw[kyA,ab0,aaS]at ha;let⟨u,h,vs,rfl,b,f,c⟩:=g;rw[zc ha.1 hk];unfold putE
  by_cases e:k'=k
  .rw[if_pos e,if_pos e];simp only[DenKV];exact⟨u,v,vs,rfl,b,a,c⟩
  .rw[if_neg e,if_neg e];simp only[DenKV];exact⟨u,h,_,rfl,b,f,vG hk dk a ha.2 c⟩
theorem J1{w:World}{k:aD}{b:Addr}{v:V}{r:mT}(a:RelV v r):∀{kvs:List (aD×aD)}{es:List (Int×V×V)}{xs:List (aD×Addr×mT)},xs.map (·.1)=kvs.map (·.1)->ExV w es xs->ExV w (putE w k (.ref b) v kvs es) (putX k b r xs):=by
 intro kvs
 induction kvs with
 |nil=>
  intro es xs hk ex;have:=by simpa using hk
  subst this;exact .cons ⟨rfl,rfl,a⟩ .nil
 | cons q kvs i=>
  intro es xs hk ex;let⟨d,e⟩:=q
  cases ex with
  |nil=>simp at hk
  |cons h t=>
   simp at hk;unfold putE putX
   by_cases c:d=k
   .rw[if_pos c,if_pos (hk.1.trans c)];exact .cons ⟨h.1,h.2.1,a⟩ t
   .rw[if_neg c,if_neg (λz=>c (hk.1.symm.trans z))];exact .cons h (i hk.2 t)
def DxM(K:Kd)(H:Hp)(a:Addr)(kvs:List (aD×aD))(es:List (Int×V×V)):Prop:=
 DenKV K H kvs es/\(kvs.map (·.1)).Nodup/\kyA kvs=true/\((H a=some (dX a es)/\kvs≠[])\/(H a=some (.dK [])/\kvs=[]))
section
variable {X:Cx}{c:List (Addr×Obj)}{f:St}{H:Hp}{s:AD}{a:Addr}{kvs:List (aD×aD)}{es:List (Int×V×V)}{k d:aD}{y v:V}{u r:mT}{A:aa4}{E:mT->AD->Prop}
def DxM.is(I:Inv X c f H s)(h:DxM X.kd H a kvs es):(a==abu)=false/\∃xs,s.heap.DictOfH (mD X.prog X.w) a xs/\PxV X.kd H kvs xs/\ExV X.w es xs:=by
 obtain⟨g,nd,ky,⟨q,_⟩|⟨q,rfl⟩⟩:=h
 .obtain⟨hs,_,xs,dd,p,e⟩:=I.dcE (.inl q) g nd ky;exact⟨hs,xs,dd,p,e⟩
 .obtain⟨hs,dd⟩:=I.dc0 (.inl q);subst g;exact⟨hs,[],dd,.nil,.nil⟩
theorem II{Q:Unit->AD->Prop}(N:A.units+20<cLine)(I:Inv X c f H s)(h:DxM X.kd H a kvs es)(hk:kyD k=true)(dk:Den X.kd H k y)(L:RelV y u)(J:RelV v r)(U:kvs.length<aai)
  (j:∀s',Inv X c f (upd H a (dX a (putE X.w k y v kvs es))) s'->Q () s'):wpAny (model X.prog X.w) A (dictSet a u r) Q E s:=by
 let⟨B,x,C,p,ex⟩:=h.is I;let⟨b,rfl⟩:=rq hk dk;cases (L);have le:es.length=kvs.length:=h.1.len.symm;have R:x.length=kvs.length:=by have:=congrArg adn p.keys;simpa using this
 refine wpAny_dictSet_heap (knd:=mD X.prog X.w) N (I.ky hk dk) C (λS g i=>j _ ?_) (by omega);rw[lH (by rw[p.keys];exact h.2.1)]at g;let⟨o,e,F,l,n,K,m,D,z⟩:=g;have mu:Mut (H a):=by
  rcases h.2.2.2 with⟨q,_⟩|⟨q,_⟩
  .rw[q];exact trivial
  .rw[q];exact trivial
 refine qe I mu i ⟨o,l⟩ ⟨⟨B,?_,o,e,F,l,n,K,?_⟩,⟨o,l⟩,λP O G M=>?_⟩
 .have:=wd X.w k (.ref b) v kvs es le.symm;omega
 .rw[m];have:=J1 (w:=X.w) (k:=k) (b:=b) J p.keys ex;generalize putE X.w k (.ref b) v kvs es=V at this;generalize putX k b r x=T at this;clear m D z
  induction this with
  |nil=>exact .nil
  |cons q _ t=>exact .cons ⟨q.1.symm,by rw[q.2.1];rfl,q.2.2⟩ t
 .obtain⟨z1,z2,o',ents',ep',z3,z4⟩:=G;exact⟨z1,z2,o',ents',ep',M o' z3,z4⟩
theorem yk{Q:Unit->AD->Prop}(o:A.units+64<cLine)(I:Inv X c f H s)(h:DxM X.kd H a kvs es)(hk:kyD k=true)(dk:Den X.kd H k y)(j:RelV y u)(g:RelV v r)(i:kvs.length<aai)
  (e:∀s',Inv X c f (upd H a (dX a (putE X.w k y v kvs es))) s'->Q () s'):wpAny (model X.prog X.w) A (setItem (.ref a) u r) Q E s:=by
 let⟨n,x,b,p,ex⟩:=h.is I;refine abZ ?_;refine gT (afm b.typeIs (by decide) ?_);refine gT (aa0 b.typeIs slot_dict_setitem (abc slot_dict_setitem b.typeIs entry_dict_setitem ?_ (args_dict_setitem _ _ _)));refine gT (agk b.typeIs ?_);refine gT (m:=dictSet a u r) (II (by grind) I h hk dk j g i λs' l=>Io ⟨.none,rfl,Io (e s' l)⟩)
end
def Sg(K:Kd)(t ty d:TE):TS:=λD b H=>d b H λv g=>t b g λx f=>ty b f λy c=>∃a kvs e k,x = .ref a/\DxM K c a kvs e/\kyD k=true/\Den K c k y/\kvs.length<aai/\D.nx b (upd c a (dX a (putE K.w k y v kvs e)))
section
variable {X:Cx}{o i e:Expr}{A B E:WE}{pos f:Pos}{G ty J:TE}
theorem DH(P:X.A.units+64<cLine)(m:PE X o G)(K:PE X i ty)(n:PE X e J)(C:abA e (some (.Subscript o i f)) pos.line X.env=pure false):PS X (.Assign [.Subscript o i f] e pos) (Sg X.kd G ty J):=by
 intro p s b H D I h;refine af3 (thn (n p s b H _ I h) λr s1 ⟨v,L,c,F,q⟩=>thn (m p s1 b L _ c q) λu s2 ⟨x,g,z,O,M⟩=>thn (K p s2 b g _ z M) λU S ⟨y,R,d,j,a,kvs,T,k,ex,dx,ky,dk,l,N⟩=>?_) C;subst ex;obtain rfl:u=abi a:=O;exact yk P d dx ky dk j F l λV t=>⟨b,_,t,N⟩
theorem l9{k d:aD}(hk:kyD k=true):∀{kvs:List (aD×aD)},kyA kvs=true->(putP k d kvs).map (·.1)=if k∈kvs.map (·.1)then kvs.map (·.1)else kvs.map (·.1)++[k]
 |[],_=>rfl
 | (k',d')::r,h=>by
  rw[kyA,ab0,aaS]at h;rw[zc h.1 hk]
  by_cases e:k'=k
  .rw[if_pos e,if_pos (by simp[e])];rfl
  .rw[if_neg e,aak,l9 hk h.2]
   by_cases c:k∈r.map (·.1)
   .rw[if_pos c,if_pos (by simp[c])];rfl
   .rw[if_neg c,if_neg (by simp only[aak,aaf,not_or];exact⟨λz=>e z.symm,c⟩)];rfl
theorem yd{k d:aD}(hk:kyD k=true)(h:kyA kvs=true)(nd:(kvs.map (·.1)).Nodup):((putP k d kvs).map (·.1)).Nodup:=by
 rw[l9 hk h];split
 .omega
 .rename_i c;exact acK.mpr ⟨nd,by simp,λa j b g=>by simp at g;subst g;exact λz=>c (z▸j)⟩
theorem xI{k d:aD}(hk:kyD k=true)(h:kyA kvs=true):kyA (putP k d kvs)=true:=by
 have e:∀l:List _,kyA l=(l.map _).all kyD:=λl=>by unfold kyA;rw[aeg];rfl
 rw[e,l9 hk h];rw[e]at h;split
 .exact h
 .rw[List.all_append,h];simp[hk]
theorem J5(k d:aD)(kvs:List (aD×aD)):putP k d kvs≠[]:=by
 cases kvs with
 |nil=>intro h;cases h
 |cons x r=>
  show(if _ then _ else _)≠_
  split<;>simp
theorem CB(h:kyA kvs=true)(n:kvs≠[]):isKd kvs=false:=by
 cases kvs with
 |nil=>exact(n rfl).elim
 |cons x r=>
  let⟨k,d⟩:=x;rw[kyA,ab0,aaS]at h;let⟨ds,rfl,_⟩:=iw h.1;rfl
def k6(h:kyA kvs=true)(n:kvs≠[])(nd:(kvs.map (·.1)).Nodup):BF kvs:=
 ⟨CB h n,nd,λk hk=>by
  let⟨x,a,rfl⟩:=aap.mp hk;exact oU (abz.mp h x a)⟩
abbrev IY(E A B:WE):WS:=λD m=>E m λr m1=>i6 (λd=>A m1 λc m2=>B m2 λb a=>onAt (λk p=>i6 (λy=>∃t kvs,a.os[k]?=some [t]/\getT t p=some (.dict (lfKV kvs))/\okW t p=true/\kyA kvs=true/\kyD y=true/\kvs.length<aai/\D.nx {a with os:=a.os.set k [setT t p (.dict (lfKV (putP y d kvs)))]}) b) c) r
def vA(kvs:List (aD×aD)):kyA (lfKV kvs)=kyA kvs:=by
 unfold kyA lfKV;rw[aeg];rfl
theorem Rel.dx{K:Kx}{n:Al}{m:MSt}{r:St}{H:Hp}{k:Nat}{τ:List (List Nat×Addr)}{a:Addr}{p:List Nat}{t:aD}(R:Rel K n m r H)(v:n[k]?=some (.T τ))(u:τ.lookup p=some a)(q:m.os[k]?=some [t])(s:getT t p=some (.dict (lfKV kvs)))(ky:kyA kvs=true):∃es,DxM K H a kvs es:=by
 let⟨⟨F,I,z,g,_⟩,_⟩:=R.own k (.T τ) _ v q;cases z;let⟨D,g⟩:=g.get s;rw[abf]at g;let⟨n1,n2⟩:=pH (.inr (by rw[vA];exact ky));rcases g with⟨d,h,_⟩|⟨_,_,b,es,h,x,j,l,g⟩|⟨_,_,b,es,h,x,j,g⟩|⟨c,b,dx,C,y,L,_⟩
 .rw[n1]at h;cases h
 .rw[u]at h;cases h;exact⟨es,fzKV g,by rw[<-fG];exact l.2.1,ky,.inl ⟨j,λz=>by subst z;exact absurd l.1 (by decide)⟩⟩
 .simp_all
  let⟨rfl,rfl⟩:=OH (fzKK g) ky;exact⟨[],by simp only[DenKV],abE,rfl,.inr ⟨j,rfl⟩⟩
 .grind
theorem Dh(hu:X.A.units+64<cLine)(he:ME X e E)(ho:ME X o A)(hi:ME X i B)(hs:abA e (some (.Subscript o i f)) pos.line X.env=pure false:=by rfl):MS X (.Assign [.Subscript o i f] e pos) (IY E A B):=(DH hu ho hi he hs).wk<|by
 intro D σ H ⟨K,m,De,Rl,hw,k⟩;refine⟨K,m,_,Rl,hw,λr m1 v H1 q n1 F rr F1=>?_⟩;let⟨d,er,hd,q⟩:=fq rr q;refine⟨K,m1,_,F,q,λro m2 ov H2 q2 n2 M T F2=>⟨K,m2,_,M,q2,λri m3 U n N n3 R V F3=>?_⟩⟩;let⟨kk,p,L,a,rfl,O,x,rfl,N⟩:=yf T N;let⟨y,rfl,hy,t,kvs,e3,et,okw,ky,h,hl,N⟩:=fq V N;let⟨s,dx⟩:=R.dx O x e3 et ky;have hd3:Den X.kx n d v:=(hd.mono (F.pers F2)).mono (M.pers F3);let⟨⟨t1,v0,z,g,a0,ea0,S⟩,mu⟩:=R.own kk (.T L) _ O e3;cases z;let⟨u0,P,mu0⟩:∃u,n a=some u/\Mu u=true:=by
  rcases dx.2.2.2 with⟨q,_⟩|⟨q,_⟩
  .exact⟨_,q,rfl⟩
  .exact⟨_,q,rfl⟩
 have I:Pers n (upd n a (dX a (putE X.w y U v kvs s))):=bm (.inr ⟨u0,P,mu0⟩);have ok:=k6 (kvs:=putP y d kvs) (xI h ky) (J5 y d kvs) (yd h ky dx.2.1);have nd:(L.map (·.2)).Nodup:=((fY K).mp R.nd).1 (.T L) (GT O);have new:TAt X.kx (upd n a (dX a (putE X.w y U v kvs s))) L p (.dict (lfKV (putP y d kvs))) (.ref a):=by
  let⟨Y,z2⟩:=pH (.inr (by rw[vA];exact xI h ky):isKd (lfKV (putP y d kvs))=true\/kyA (lfKV (putP y d kvs))=true);simp only[TAt];refine .inr (.inl ⟨Y,z2,a,_,x,rfl,ay,⟨by rw[re];exact ok.1,by rw[fG];exact ok.2.1,by rw[fG];exact ok.2.2⟩,MY ?_⟩);exact vG h (hy.mono I) (hd3.mono I) ky (DenKV.mono I dx.1)
 have all:TAt X.kx (upd n a (dX a (putE X.w y U v kvs s))) L [] (setT t p (.dict (lfKV (putP y d kvs)))) v0:=TAt.set nd I g et okw (by rw[abf];exact x) (by rw[abf];exact new) λu l=>by
  let⟨Y,z2⟩:=pH (.inr (by rw[vA];exact ky):isKd (lfKV kvs)=true\/kyA (lfKV kvs)=true);rw[abf]at l;simp only[TAt]at l;rcases l with⟨d,j,_⟩|⟨_,_,b,s,j,Z,_⟩|⟨_,_,b,s,j,Z,_⟩|⟨c,b,dx,C,xs,y0,_⟩
  .rw[Y]at j;cases j
  .rw[x]at j;cases j;exact Z
  .rw[x]at j;cases j;exact Z
  .rw[z2]at y0;cases y0
 let⟨R4,F4⟩:=R.setW O I (ds':=[setT t p (.dict (lfKV (putP y d kvs)))]) (λb W=>av λeb=>W (eb▸bC x)) ⟨⟨_,v0,rfl,all,a0,ea0,S⟩,λb W=>by
  by_cases eb:b=a
  .subst eb;exact⟨_,ay,rfl⟩
  .rw[av eb];exact mu b W⟩
 exact⟨a,kvs,s,y,rfl,dx,h,hy,hl,k.nx K _ σ _ N (n3.trans (n2.trans n1)) R4 (.of R4 (((F1.trans F2).trans F3).trans F4))⟩
def mi(d:X.A.units+64<cLine)(c:EE X e E)(h:EE X o A)(a:EE X i B)(b:abA e (some (.Subscript o i f)) pos.line X.env=pure false:=by rfl):ES X (.Assign [.Subscript o i f] e pos) (IY E A B):=⟨Dh d c.h h.h a.h b⟩
def wFzX(w:WS):WS:=λD m=>∃(k j:Nat) (kvs:List (aD×aD)) (a:List Nat) (m2:MSt),m.vs[j]?=some (some (.at k []))/\m.os[k]?=some [.dict (lfKV kvs)]/\kyA kvs=true/\Fz k (.dict kvs) a m m2/\w D m2
theorem SN{st:Stmt}(h:MS X st w):MS X st (wFzX w):=(QC h).wk<|by
 intro D s H ⟨K,m,C,R,⟨k,u,kvs,I,m2,ej,y,ky,F,l⟩,g⟩;let⟨v,z,L,a,c,d,rfl⟩:=R.var u _ ej;let⟨t,dx⟩:=R.dx c d y (p:=[]) rfl ky;have n:∀(j:Nat) (v:V),(m.vs[j]?=some (some (.obj k))\/m.vs[j]?=some (some (.at k [])))->s[j]?=some (some v)->v = .ref a:=λj v b x=>by
  rcases b with b|b
  .obtain⟨v',ev',a',ea',_⟩:=R.var j _ b;rw[c]at ea';cases ea'
  .obtain⟨v',ev',τ',a',ea',el',rfl⟩:=R.var j _ b
   grind
 rcases dx.2.2.2 with⟨q,ne⟩|⟨q,rfl⟩
 .refine ur R g F c (bC d) q rfl rfl (λo r=>?_) n l;simp only[Den];exact⟨a,rfl,.inl ⟨t,⟨o,ay⟩,k6 ky ne dx.2.1,DenKV.mono r dx.1⟩⟩
 .refine ur R g F c (bC d) q rfl rfl (λo r=>?_) n l;simp only[Den];exact⟨a,rfl,.inr (.inl ⟨[],o,ay,by simp only[DenKK]⟩)⟩
def MX{st:Stmt}(h:ES X st w):ES X st (wFzX w):=⟨SN h.h⟩
def Ua{D:dm}{m:MSt}(k j:Nat)(kvs:List (aD×aD))(a:List Nat)(m2:MSt)(d:m.vs[j]?=some (some (.at k [])))(c:m.os[k]?=some [.dict (lfKV kvs)])(b:kyA kvs=true)(F:Fz k (.dict kvs) a m m2)(h:w D m2):wFzX w D m:=⟨k,j,kvs,a,m2,d,c,b,F,h⟩
end
section
variable {X:Cx}
def Sy{m:MSt}{r2:R}{n:Bool}{k:aD}{K:R->Prop}(e:dcM m kvs r2)(a:oneK kvs k=true)(h:K (.imm (.bool (if n=true then !(c9 k kvs).isSome else(c9 k kvs).isSome)))):oInD n (.imm k) r2 m K:=⟨kvs,e,a,h⟩
def bx{ds:List aD}{g:WG}{D:dm}{m1:MSt}(P:Nat->MSt->Prop)(p0:P 0 m1)
  (step:∀(i:Nat) (d:aD) (m:MSt),ds[i]?=some d->m.np=m1.np->P i m->∀b:dm,(∀a,P (i+1) a->b.nx a)->(∀r a,D.rt r (a.setN m1.np)->b.rt r a)->g d m λm2=>w b m2)
  (f:∀m,m.np=m1.np->P ds.length m->D.nx m):mf ⟨ds,none⟩ g w D m1:=gy P p0 (λi d m e n p=>step i d m e n p _ (λ_ z=>z) λ_ _ z=>z) f
theorem au{e:Expr}{a:WE}{pos p:Pos}{x:Str}(i:Nat)(h:X.N.Nodup)(g:EE X e a)(b:X.N[i]?=some x:=by rfl)(c:Loc X.env.scope x:=by exact afw rfl)(d:abA e (some (.Name x p)) pos.line X.env=pure false:=by rfl)(f:X.fn x=true\/X.env.scope.names.lookup x=some .local:=by first|exact .inl rfl|exact .inr rfl|assumption):ES X (.Assign [.Name x p] e pos) (wSet i a):=rf h b c g d f
theorem ak{pos:Pos}{x:Str}(i:Nat)(h:X.N.Nodup)(b:X.N[i]?=some x:=by rfl)(c:Loc X.env.scope x:=by exact afw rfl)(a:X.fn x=true\/X.env.scope.names.lookup x=some .local:=by first|exact .inl rfl|exact .inr rfl|assumption):EG X (.Name x pos) (gM i):=jd h b c a
end
end L2
namespace L2
open PySem
def n6{k:Nat}{ds a:List aD}{g:WG}{w:WS}{D:dm}{m1:MSt}(P:Nat->MSt->Prop)(p0:P 0 (m1.setN (max m1.np (k+1))))(ok:∀i m,P i m->m.os[k]?=some a)(step:∀(i:Nat) (d:aD) (m:MSt),ds[i]?=some d->m.np=max m1.np (k+1)->P i m->∀c:dm,(∀b,P (i+1) b->c.nx b)->(∀r b,D.rt r (b.setN m1.np)->c.rt r b)->g d m λm2=>w c m2)(f:∀m,m.np=max m1.np (k+1)->P ds.length m->D.nx (m.setN m1.np)):mf ⟨ds,some (k,a)⟩ g w D m1:=jM P p0 ok (λi d m e n p=>step i d m e n p _ (λ_ z=>z) λ_ _ z=>z) f
def C9{t:WT}{w:WS}{D:dm}{d:MSt}(P:Nat->MSt->Prop)(g:Nat)(p0:P g d)(step:∀n m,m.np=d.np->P n m->∀(f:dm) (E:MSt->Prop),(∀b a,b<n->P b a->f.nx a)->(∀r a,D.rt r a->f.rt r a)->(∀a,D.nx a->E a)->t m λc a=>if c=true then w f a else E a):v9 t w D d:=iI P g p0 λn m e p=>step n m e p _ _ (λb _ l q=>⟨b,l,q⟩) (λ_ _ z=>z) λ_ z=>z
end L2
namespace M7
open M3
def placeF:Nat->List Nat->List Nat->Nat
 |acc,r::rs,x::l=>placeF (acc*(r+1)+x) rs l
 |acc,_,_=>acc
def cnt:List Nat->Nat
 |[]=>1
 |r::rs=>(r+1)*cnt rs
theorem allR_cnt:∀rs:List Nat,(allR rs).length=cnt rs
 |[]=>rfl
 | r::rs=>by
  have a:=allR_cnt rs;have:∀n:Nat,((aaz n).flatMap λk=>(allR rs).map (k :: ·)).length=n*cnt rs:=by
   intro n
   induction n with
   |zero=>simp
   |succ n i=>rw[aca,adA,aaj,i];simp[a,adt]
  exact this _
theorem jK:∀{rs l:List Nat}{acc:Nat},l.length=rs.length->placeF acc rs l=acc*cnt rs+placeF 0 rs l
 |[],[],acc,_=>by simp[placeF,cnt]
 |r::rs,x::l,acc,h=>by
  have a:=by simpa using h
  simp only[placeF,cnt];rw[jK a,jK (acc:=0*_+x) a,Nat.add_mul,Nat.mul_assoc];simp[adO]
 |[],_::_,_,h=>by simp at h
 |_::_,[],_,h=>by simp at h
def iK{r x:Nat}{rs l:List Nat}(h:l.length=rs.length):placeF 0 (r::rs) (x::l)=x*cnt rs+placeF 0 rs l:=by
 simp only[placeF];rw[jK h];simp
theorem zK{N:Nat}(f:Nat->List (List Nat))(a:∀k,(f k).length=N):∀(n k j:Nat),k<n->j<N->((aaz n).flatMap f)[k*N+j]?=(f k)[j]?
 |0,k,j,h,_=>by contradiction
 | n+1,k,j,h,hj=>by
  have b:((aaz n).flatMap f).length=n*N:=by
   clear h hj
   induction n with
   |zero=>simp
   |succ n i=>rw[aca,adA,aaj,i];simp[a,adt]
  rw[aca,adA]
  by_cases hk:k<n
  .have:k*N+j<n*N:=by
    have:=acL N (show k+1≤n by assumption)
    grind
   rw[aaC (by omega),zK f a n k j hk hj]
  .have e:k=n:=by omega
   simp_all
def Fits:List Nat->List Nat->Prop
 |r::rs,x::l=>x≤r/\Fits rs l
 |[],[]=>True
 |_,_=>False
theorem Fits.len:∀{rs l:List Nat},Fits rs l->l.length=rs.length
 |[],[],_=>rfl
 |_::_,_::_,h=>congrArg (· + 1) h.2.len
 |[],_::_,h=>h.elim
 |_::_,[],h=>h.elim
theorem place_lt:∀{rs l:List Nat},Fits rs l->placeF 0 rs l<cnt rs
 |[],[],_=>by simp[placeF,cnt]
 |r::rs,x::l,h=>by
  rw[iK h.2.len,cnt];have:=place_lt h.2;have a:=acL (cnt rs) (by have:=h.1;omega)
  grind
 |[],_::_,h=>h.elim
 |_::_,[],h=>h.elim
theorem place_at:∀{rs l:List Nat},Fits rs l->(allR rs)[placeF 0 rs l]?=some l
 |[],[],_=>rfl
 |r::rs,x::l,h=>by
  rw[iK h.2.len];show((aaz _).flatMap λk=>(allR rs).map _)[_]?=_;rw[zK _ (λk=>by rw[iO,allR_cnt]) _ x _ (by have:=h.1;omega) (place_lt h.2),aah,place_at h.2];rfl
 |[],_::_,h=>h.elim
 |_::_,[],h=>h.elim
theorem place_only:∀{rs:List Nat}{i:Nat}{l:List Nat},(allR rs)[i]?=some l->i=placeF 0 rs l
 |[],0,l,h=>by
  rfl
 |[],i+1,l,h=>by simp[allR]at h
 | r::rs,i,l,h=>by
  have b:=(Ad.mp h).1;rw[allR_cnt,cnt]at b;have c:0<cnt rs:=Nat.pos_of_ne_zero λz=>by rw[z]at b;simp at b
  have hk:i/cnt rs<r+1:=Nat.div_lt_of_lt_mul (by rw[ac1];exact b);have f:=ahE i c;have e:i=i/cnt rs*cnt rs+i%cnt rs:=by rw[ac1];exact(Nat.div_add_mod i (cnt rs)).symm
  have a:=zK (N:=cnt rs) (λk=>(allR rs).map (k :: ·)) (λk=>by rw[iO,allR_cnt]) (r+1) _ _ hk f;rw[<-e]at a;have g:((aaz (r+1)).flatMap λk=>(allR rs).map (k :: ·))[i]?=some l:=h;rw[g,aah]at a
  cases q:(allR rs)[i%cnt rs]? with
  |none=>rw[q]at a;cases a
  |some m=>
   rw[q]at a;have:l=(i/cnt rs)::m:=aaB a;subst this;have j:=place_only q;have d:=allR_len (GT q);rw[iK d,<-j,ac1];exact(Nat.div_add_mod i (cnt rs)).symm
def pick(lt:Nat->Nat->Bool):Nat->List Nat->Nat
 |b,[]=>b
 |b,k::ks=>pick lt (if lt k b then k else b) ks
def pick_self{lt:Nat->Nat->Bool}{k:Nat}{ks:List Nat}(h:lt k k=false):pick lt k (k::ks)=pick lt k ks:=by
 simp[pick,h]
theorem v3{lt:Nat->Nat->Bool}:∀{ks:List Nat}{b:Nat},pick lt b ks=b\/pick lt b ks∈ks
 |[],b=>.inl rfl
 | k::ks,b=>by
  simp only[pick];rcases v3 with h|h
  .rw[h]
   by_cases q:lt k b=true
   .rw[if_pos q];exact .inr aaa
   .rw[if_neg q];exact .inl rfl
  .exact .inr (LD _ h)
theorem pick_app{lt:Nat->Nat->Bool}:∀{ks:List Nat}{b k:Nat},pick lt b (ks++[k])=if lt k (pick lt b ks)then k else pick lt b ks
 |[],b,k=>rfl
 |j::ks,b,k=>by simp;exact pick_app
theorem placeF_take:∀{rs l:List Nat}{i acc r x:Nat},rs[i]?=some r->l[i]?=some x->placeF acc (rs.take (i+1)) (l.take (i+1))=placeF acc (rs.take i) (l.take i)*(r+1)+x
 |r0::rs,x0::l,0,acc,r,x,h1,h2=>by
  have a:=by simpa using h1
  have e:=by simpa using h2
  subst a e;rfl
 |r0::rs,x0::l,i+1,acc,r,x,h1,h2=>by
  simp;exact placeF_take ‹_› ‹_›
 |[],_,_,_,_,_,h1,_=>by simp at h1
 |_::_,[],_,_,_,_,_,h2=>by simp at h2
end M7
namespace K
open PySem L2 M7
variable{h:Hall}{l o:List Nat}{n t:Nat}{r:Rule}
def Hall.an(h:Hall)(k:Nat):Nat:=(h.ss.map Srv.a).getD k 0
def Hall.bn(h:Hall)(k:Nat):Nat:=(h.ss.map Srv.b).getD k 0
def cG(l:List Nat)(k b:Nat):Bool:=decide (l.getD k 0<l.getD b 0)
def cK(h:Hall)(l:List Nat)(k b:Nat):Bool:=decide ((l.getD k 0+1)*h.bn k*h.an b<(l.getD b 0+1)*h.bn b*h.an k)
def sent(h:Hall)(r:Rule)(l:List Nat)(t:Nat)(o:List Nat):Nat:=match r with
 | .random=>o.headD 0
 | .turns=>t
 | .two=>pick (cG l) (o.headD 0) (o.take 2)
 | .least=>pick (cG l) (o.headD 0) o
 | .quick=>pick (cK h l) (o.headD 0) o
 | .told p=>p.getD (placeF 0 h.rs l) 0
structure Ord(n:Nat)(o:List Nat):Prop where
 ne:o≠[]
 lt:∀k∈o,k<n
 le:o.length≤4
theorem Lines.fits(k:Lines h l):Fits h.rs l:=by
 let⟨k1,k2⟩:=k;unfold Hall.rs;generalize h.ss=ss at k1 k2
 induction ss generalizing l with
 |nil=>cases l with
  |nil=>trivial
  |cons _ _=>simp at k1
 |cons s ss a=>cases l with
  |nil=>simp at k1
  |cons x l=>exact⟨k2 0 s x rfl rfl,a (by simpa using k1) λi s x e b=>k2 (i+1) s x ‹_› ‹_›⟩
theorem getN{k:Nat}(a:l.length=n)(hk:k<n):l[k]?=some (l.getD k 0):=by simp_all
def Hall.srv{k:Nat}(hk:k<h.ss.length):∃s,h.ss[k]?=some s/\h.an k=s.a/\h.bn k=s.b/\s∈h.ss:=by
 refine⟨h.ss[k],lD hk,?_,?_,aeq hk⟩
 .exact bO (by rw[aah,lD hk];rfl)
 .exact bO (by rw[aah,lD hk];rfl)
def GU:SpM:=λe K=>∃a b c d:Nat,e=[.imm (frD a b),.imm (frD c d)]/\a<1000000000000/\b<1000000000000/\c<1000000000000/\d<1000000000000/\K (.imm (.bool (decide (a*d<c*b)))) []
def Cf:SpM:=λa K=>∃(h:Hall) (l:List Nat),a=[.imm h.d,.imm (lnD l)]/\h.Ok/\Lines h l/\K (.imm (.int (placeF 0 h.rs l:Nat))) []
def pJ:SpM:=λa K=>∃(l o:List Nat),a=[.imm (lnD l),.imm (lnD o)]/\Ord l.length o/\K (.imm (.int (pick (cG l) (o.headD 0) o:Nat))) []
def Im:SpM:=λa K=>∃(h:Hall) (l:List Nat) (k:Nat),a=[.imm h.d,.imm (lnD l),.imm (.int (k:Int))]/\h.Ok/\Lines h l/\k<h.ss.length/\K (.imm (frD ((l.getD k 0+1)*h.bn k:Nat) (h.an k:Nat))) []
def oY:SpM:=λa K=>∃(h:Hall) (l o:List Nat),a=[.imm h.d,.imm (lnD l),.imm (lnD o)]/\h.Ok/\Lines h l/\Ord h.ss.length o/\K (.imm (.int (pick (cK h l) (o.headD 0) o:Nat))) []
def stD(l:List Nat)(t:Nat):aD:=.tuple [lnD l,.int (t:Int)]
def xi:SpM:=λa K=>∃(h:Hall) (r:Rule) (l:List Nat) (t:Nat) (o:List Nat),a=[.imm h.d,.imm r.d,.imm (stD l t),.imm (lnD o)]/\h.Ok/\r.Ok h/\Lines h l/\Ord h.ss.length o/\K (.imm (.int (sent h r l t o:Nat))) []
theorem Ord.cons(h:Ord n o):∃k ks,o=k::ks/\k<n:=by
 cases o with
 |nil=>exact(h.ne rfl).elim
 |cons k ks=>exact⟨k,ks,rfl,h.lt k aaa⟩
def k9{lt:Nat->Nat->Bool}(h:Ord n o)(i:Nat):pick lt (o.headD 0) (o.take i)<n:=by
 let⟨k,a,rfl,hk⟩:=h.cons;rcases v3 with e|e
 .rw[e];exact hk
 .exact h.lt _ (acp e)
def Rule.tl:Rule->List aD
 | .told p=>[lnD p]
 |_=>[]
def Rule.dc(r:Rule):r.d = .tuple (.str r.word::r.tl):=by cases r<;>rfl
def NG{m:MSt}{K:R->Prop}{d x:aD}{ds:List aD}{i:Int}(e:d = .tuple ds)(h:atI ds i=some x)(k:K (.imm x)):oa (.imm d) (.imm (.int i)) m K:=by
 subst e;exact ba h k
inductive Mv where
 |come (o:List Nat)|done (k:Nat)|still
def Mv.d:Mv->aD
 | .come o=>.tuple [.str "come",lnD o]
 | .done k=>.tuple [.str "done",.int (k:Int)]
 | .still=>.tuple [.str "still"]
def Mv.Ok(h:Hall):Mv->Prop
 | .come o=>Ord h.ss.length o
 | .done k=>k<h.ss.length
 | .still=>True
inductive Wd where
 |taken|away|served|none
def Wd.s:Wd->Str
 | .taken=> "taken" | .away=> "away" | .served=> "served" | .none=> "none"
def Hall.rn(h:Hall)(k:Nat):Nat:=h.rs.getD k 0
def c7(h:Hall)(l:List Nat)(k:Nat):List Nat×Wd:=if l.getD k 0=h.rn k then(l,.away)else(l.set k (l.getD k 0+1),.taken)
def dF(l:List Nat)(k:Nat):List Nat×Wd:=if l.getD k 0=0 then(l,.none)else(l.set k (l.getD k 0-1),.served)
def idx(l:List Nat)(x:Nat):Nat:=l.findIdx (λy=>y==x)
def maxN(l:List Nat):Nat:=l.foldl max 0
def dN(h:Hall)(l:List Nat):Option (Nat×Nat):=if h.mv=true/\0∈l/\2≤maxN l then some (idx l (maxN l),idx l 0)else none
def cI(l:List Nat)(p:Nat×Nat):List Nat:=(l.set p.1 (l.getD p.1 0-1)).set p.2 ((l.set p.1 (l.getD p.1 0-1)).getD p.2 0+1)
def dg(h:Hall):Nat->List Nat->List Nat
 |0,l=>l
 |n+1,l=>match dN h l with
  |none=>l
  |some p=>dg h n (cI l p)
def gi(h:Hall)(l:List Nat):List Nat:=dg h (l.count 0) l
theorem lr:∀(l:List Nat) (a:Nat),a≤l.foldl max a/\(∀x∈l,x≤l.foldl max a)/\(l.foldl max a=a\/l.foldl max a∈l)
 |[],a=>⟨Mt _,(λ_ h=>by cases h),.inl rfl⟩
 | y::l,a=>by
  let⟨c,d,e⟩:=lr l _;refine⟨aas (aeK a y) c,λx b=>?_,?_⟩
  .rcases aaf.mp b with rfl|b
   .exact aas (Nat.le_max_right a x) c
   .exact d x b
  .grind
def vg:∀x∈l,x≤maxN l:=(lr l 0).2.1
theorem iY(h:l≠[]):maxN l∈l:=by
 rcases (lr l 0).2.2 with e|e
 .cases l with
  |nil=>exact(h rfl).elim
  |cons x l=>
   have:x≤maxN (x::l):=vg x aaa;have a:maxN _=0:=e
   grind
 .exact e
theorem ie{x:Nat}(h:x∈l):l[idx l x]?=some x/\∀i y,i<idx l x->l[i]?=some y->y≠x:=by
 have a:idx l x<l.length:=List.findIdx_lt_length_of_exists ⟨x,h,by simp⟩;refine⟨?_,λi y b c e=>?_⟩
 .rw[lD a];have:=List.findIdx_getElem (w:=a);simp at this;exact congrArg some this
 .have:=List.not_of_lt_findIdx b
  grind
theorem cq(a b:Nat):aag (.int (a:Int)) (.int (b:Int))=decide (a=b):=by
 simp[aag]
 by_cases h:a=b
 .subst h;simp
 .have:¬_:=λz=>h (Int.ofNat.inj z)
  simp_all
def bV(l:List Nat):∀y∈natD l,Shp 0 y:=λy a=>by
 let⟨x,_,rfl⟩:=aap.mp a;exact ci _
def xy(l:List Nat)(k x:Nat):(natD l).set k (.int (x:Int))=natD (l.set k x):=by
 unfold natD;rw[List.map_set]
def pk:SpM:=λa K=>∃(l:List Nat) (k:Nat) (d:Int) (x:Nat),a=[.imm (lnD l),.imm (.int (k:Int)),.imm (.int d)]/\k<l.length/\l.length≤1000/\(l.getD k 0:Int)+d=(x:Int)/\K (.imm (lnD (l.set k x))) []
def lwD(p:List Nat×Wd):aD:=.tuple [lnD p.1,.str p.2.s]
def IR:SpM:=λa K=>∃(h:Hall) (l:List Nat) (k:Nat),a=[.imm h.d,.imm (lnD l),.imm (.int (k:Int))]/\h.Ok/\Lines h l/\k<h.ss.length/\K (.imm (lwD (c7 h l k))) []
def Jc:SpM:=λa K=>∃(l:List Nat) (k:Nat),a=[.imm (lnD l),.imm (.int (k:Int))]/\k<l.length/\l.length≤1000/\K (.imm (lwD (dF l k))) []
def optP:Option (Nat×Nat)->aD
 |none=>.none
 |some p=>.tuple [.int (p.1:Int),.int (p.2:Int)]
def zk:SpM:=λa K=>∃(h:Hall) (l:List Nat),a=[.imm h.d,.imm (lnD l)]/\l≠[]/\l.length≤1000/\K (.imm (optP (dN h l))) []
def sx:SpM:=λa K=>∃(h:Hall) (l:List Nat),a=[.imm h.d,.imm (lnD l)]/\l≠[]/\l.length≤1000/\K (.imm (lnD (gi h l))) []
theorem gQ{p:Nat×Nat}(e:dN h l=some p):h.mv=true/\l[p.1]?=some (maxN l)/\2≤maxN l/\l[p.2]?=some 0/\p.1≠p.2:=by
 unfold dN at e
 split at e
 .rename_i q;let⟨c,b,d⟩:=q;have a:l≠[]:=λz=>by rw[z]at b;cases b
  have s1:=(ie (iY a)).1;have s:=(ie b).1
  grind
 .cases e
theorem jS{p:Nat×Nat}(e:dN h l=some p):cI l p=(l.set p.1 (maxN l-1)).set p.2 1/\p.1<l.length/\p.2<l.length/\(cI l p).count 0+1=l.count 0/\(cI l p).length=l.length:=by
 let⟨w,b,s,a,i⟩:=gQ e;have g:=(Ad.mp b).1;have f:=(Ad.mp a).1;have q:l.getD p.1 0=maxN l:=bO b;have j:(l.set p.1 (maxN l-1)).getD p.2 0=0:=bO (by rw[aaP i];exact a);have c:cI l p=(l.set p.1 (maxN l-1)).set p.2 1:=by unfold cI;rw[q,j]
 have k:=by rw[lD g]at b;exact aaB b
 have m:l[p.2]=0:=by rw[lD f]at a;exact aaB a
 refine⟨c,g,f,?_,by rw[c,abg,abg]⟩;have u:0<l.count 0:=List.count_pos_iff.mpr (GT a);have d:p.2<(l.set p.1 (maxN l-1)).length:=by rw[abg];exact f
 have v:(l.set p.1 (maxN l-1))[p.2]=0:=by rw[adB i];exact m
 rw[c,List.count_set d,List.count_set g,v,k];have d1:(maxN l==0)=false:=by simp;omega
 have x:(maxN l-1==0)=false:=by simp;omega
 simp_all
theorem kh(e:dN h l=none):∀n,dg h n l=l
 |0=>rfl
 |n+1=>by simp[dg,e]
def yL(h:Hall)(r:Rule)(t:Nat):Nat:=match r with
 | .turns=>(t+1)%h.ss.length
 |_=>t
def Cq:SpM:=λa K=>∃(h:Hall) (r:Rule) (t:Nat),a=[.imm h.d,.imm r.d,.imm (.int (t:Int))]/\h.Ok/\K (.imm (.int (yL h r t:Nat))) []
def Fc(h:Hall)(r:Rule)(l:List Nat)(t:Nat):Mv->aD
 | .come o=>.int (sent h r l t o:Nat)
 | .done k=>.int (k:Int)
 | .still=>.none
def wn:SpM:=λa K=>∃(h:Hall) (r:Rule) (l:List Nat) (t:Nat) (mv:Mv),a=[.imm h.d,.imm r.d,.imm (stD l t),.imm mv.d]/\h.Ok/\r.Ok h/\Lines h l/\mv.Ok h/\K (.imm (Fc h r l t mv)) []
def ku(h:Hall)(r:Rule)(l:List Nat)(t:Nat):Mv->List Nat×Nat×Wd
 | .come o=>(gi h (c7 h l (sent h r l t o)).1,yL h r t,(c7 h l (sent h r l t o)).2)
 | .done k=>(gi h (dF l k).1,t,(dF l k).2)
 | .still=>(gi h l,t,.none)
def mvD(p:List Nat×Nat×Wd):aD:=.tuple [stD p.1 p.2.1,.str p.2.2.s]
def zt:SpM:=λa K=>∃(h:Hall) (r:Rule) (l:List Nat) (t:Nat) (mv:Mv),a=[.imm h.d,.imm r.d,.imm (stD l t),.imm mv.d]/\h.Ok/\r.Ok h/\Lines h l/\mv.Ok h/\(r = .turns->t<h.ss.length)/\K (.imm (mvD (ku h r l t mv))) []
theorem u5(g:h.Ok)(c:r.Ok h)(f:Lines h l)(a:Ord h.ss.length o)(d:r = .turns->t<h.ss.length):sent h r l t o<h.ss.length:=by
 cases r with
 |random=>let⟨k,k1,rfl,e⟩:=a.cons;exact e
 |turns=>exact d rfl
 |two=>exact k9 a 2
 |least=>have:=k9 (lt:=cG l) a o.length;rw[aau]at this;exact this
 |quick=>have:=k9 (lt:=cK h l) a o.length;rw[aau]at this;exact this
 |told p=>
  have b:placeF 0 h.rs l<p.length:=by rw[c.1,allR_cnt];exact place_lt f.fits
  exact c.2 _ (GT (getN rfl b))
theorem Lines.set{k x:Nat}(a:Lines h l)(f:∀s,h.ss[k]?=some s->x≤s.r):Lines h (l.set k x):=by
 refine⟨by rw[abg];exact a.1,λi s y c e=>?_⟩
 by_cases b:k=i
 .subst b;have d:k<l.length:=by rw[a.1];exact(Ad.mp c).1
  simp_all
 .rw[aaP b]at e;exact a.2 i s y c e
def Lines.at{k:Nat}(a:Lines h l)(hk:k<h.ss.length):∃s,h.ss[k]?=some s/\l.getD k 0≤s.r/\h.rn k=s.r/\s∈h.ss:=by
 let⟨s,e,c,eb,b⟩:=h.srv hk;exact⟨s,e,a.2 k s _ e (getN a.1 hk),bO (Hall.rs_get e),b⟩
theorem yh{k:Nat}(a:Lines h l)(hk:k<h.ss.length):Lines h (c7 h l k).1:=by
 let⟨s,d,b,f,c⟩:=a.at hk;unfold c7;split
 .omega
 .refine a.set λg e=>?_
  grind
theorem yx{k:Nat}(a:Lines h l)(hk:k<h.ss.length):Lines h (dF l k).1:=by
 let⟨s,d,b,f,c⟩:=a.at hk;unfold dF;split
 .omega
 .refine a.set λg e=>?_
  grind
theorem i5{h:Hall}(c:h.Ok):∀(n:Nat) (l:List Nat),Lines h l->Lines h (dg h n l)
 |0,l,hL=>hL
 | n+1,l,hL=>by
  simp[dg]
  cases e:dN h l with
  |none=>exact hL
  |some p=>
   let⟨d,f,g,i,b⟩:=jS e;let⟨j,m1,m2,m,k⟩:=gQ e;refine i5 c n _ ?_;rw[d];refine(hL.set λs a=>?_).set λs a=>(c.ok s (GT a)).r1;have:=hL.2 p.1 s _ a m1;omega
def gF(b:h.Ok)(a:Lines h l):Lines h (gi h l):=i5 b _ _ a
structure St(h:Hall)(r:Rule)(l:List Nat)(t:Nat):Prop where
 ln:Lines h l
 tn:r = .turns->t<h.ss.length
 ts:t<4
theorem FQ(a:h.Ok)(b:t<4)(c:r = .turns->t<h.ss.length):(r = .turns->yL h r t<h.ss.length)/\yL h r t<4:=by
 have n1:=a.n1;have n4:=a.n4
 cases r with
 |turns=>
  have:=ahE (t+1) (show h.ss.length>0 by assumption);exact⟨λ_=>this,by show(t+1)%h.ss.length<4;exact aat ‹_› ‹_›⟩
 |_=>exact⟨(λz=>by cases z),b⟩
theorem jh(a:h.Ok)(c:r.Ok h)(S:St h r l t){mv:Mv}(b:mv.Ok h):St h r (ku h r l t mv).1 (ku h r l t mv).2.1:=by
 cases mv with
 |come o=>
  have:=FQ a S.ts S.tn;exact⟨gF a (yh S.ln (u5 a c S.ln b S.tn)),this.1,this.2⟩
 |done k=>exact⟨gF a (yx S.ln b),S.tn,S.ts⟩
 |still=>exact⟨gF a S.ln,S.tn,S.ts⟩
def zer(h:Hall):List Nat:=aal h.ss.length 0
theorem gZ(a:h.Ok)(r:Rule):St h r (zer h) 0:=by
 refine⟨⟨by simp[zer],λi s x b e=>?_⟩,λ_=>a.n1,by decide⟩;have:=by
  have:=GT e;exact(List.mem_replicate.mp this).2
 omega
def Ae:SpM:=λa K=>∃h:Hall,a=[.imm h.d]/\h.Ok/\K (.imm (stD (zer h) 0)) []
def Cz{k:Nat}{d:aD}(h:Shp k d):aag d d=true:=PySem.SeqAt.eqv_refl d h.cl
end K
namespace M8
def ins(x:Nat):List Nat->List Nat
 |[]=>[x]
 |y::l=>if y≤x then x::y::l else y::ins x l
def srt:List Nat->List Nat
 |[]=>[]
 |x::l=>ins x (srt l)
def Fall(l:List Nat):Prop:=l.Pairwise (· ≥ ·)
theorem rh(x:Nat):∀l,(ins x l).Perm (x::l)
 |[]=>.refl _
 |y::l=>by
  unfold ins;split
  .exact .refl _
  .exact((rh x l).cons y).trans (.swap x y l)
theorem wM{x:Nat}:∀{l},Fall l->Fall (ins x l)
 |[],_=>acr _ _
 | y::l,h=>by
  unfold ins;rcases acD.mp h with⟨b,c⟩;split
  .rename_i hy;refine acD.mpr ⟨λz a=>?_,h⟩;obtain rfl|a:=aaf.mp a
   .exact hy
   .have:=b z a;show z≤x;omega
  .rename_i hy;refine acD.mpr ⟨λz a=>?_,wM c⟩;rcases aaf.mp ((rh x l).mem_iff.mp a)with rfl|a
   .show z≤y;omega
   .exact b z a
theorem kJ:∀l,(srt l).Perm l
 |[]=>.refl _
 |x::l=>(rh x (srt l)).trans ((kJ l).cons x)
theorem qw:∀l,Fall (srt l)
 |[]=>ag5
 |_::l=>wM (qw l)
theorem xh:∀{a b:List Nat},Fall a->Fall b->a.Perm b->a=b
 |[],b,_,_,p=>(List.nil_perm.mp p).symm
 |x::a,[],_,_,p=>by simpa using p.length_eq
 | x::a,y::b,ha,hb,p=>by
  let⟨a1,a2⟩:=acD.mp ha;let⟨b1,b2⟩:=acD.mp hb;have h:x=y:=by
   have d:x≤y:=by
    rcases aaf.mp (p.mem_iff.mp aaa)with e|e
    .omega
    .exact b1 x e
   have c:y≤x:=by
    rcases aaf.mp (p.mem_iff.mpr (aaa (a:=y)))with e|e
    .omega
    .exact a1 y e
   omega
  subst h;rw[xh a2 b2 (List.Perm.cons_inv p)]
def wm{a l:List Nat}(h:Fall a)(p:a.Perm l):srt l=a:=xh (qw l) h ((kJ l).trans p.symm)
def PJ{l:List Nat}(h:Fall l):srt l=l:=wm h (.refl _)
end M8
namespace K
open PySem L2 M7
variable{ps:List (Nat×Nat)}
def KU(ns:List Int)(p q:Int):aD:=.dict [(.str "script",.dict [(.none,.list (ns.map .int))]),(.str "turn",.int p),(.str "left",.int q)]
def TapeK(c:Nat)(t:aD):Prop:=∃(ns:List Int) (p q:Int),t=KU ns p q/\ns.length≤63/\0≤p/\p≤c/\0≤q
theorem TapeK.mono{c c':Nat}{t:aD}(h:TapeK c t)(g:c≤c'):TapeK c' t:=by
 let⟨ns,p,q,e,a,b,f,d⟩:=h;exact⟨ns,p,q,e,a,b,by omega,d⟩
def Cr:SpM:=λa K=>∃ns:List Int,a=[.imm (.list (ns.map .int))]/\ns.length≤63/\∀t,TapeK 0 t->K (.newT t) []
def m9:SpM:=λb K=>∃(t:aD) (m:Int) (c:Nat),b=[.tr t,.imm (.int m)]/\TapeK c t/\c<1000000000/\0<m/\m<1099511627776/\∀(r:Int) (a:aD),0≤r->r<m->TapeK (c+1) a->K (.imm (.int r)) [[a]]
def qC:SpM:=λa K=>∃rs:List Nat,a=[.imm (.list (rs.map λ(r:Nat)=>.int (r:Int)))]/\rs.length≤4/\(∀r∈rs,r≤6)/\K (.new ((M3.allR rs).map lnD)) []
def SvK(ps:List (Nat×Nat)):Prop:=1≤ps.length/\ps.length≤4/\∀p∈ps,1≤p.1/\p.1≤3/\1≤p.2/\p.2≤4
def br(ps:List (Nat×Nat)):List Nat:=ps.map λp=>p.2
def jB(ps:List (Nat×Nat)):List (Nat×Nat):=ps.map λp=>(p.1,max 1 (p.2-1))
def FV(h:SvK ps):SvK (jB ps):=by
 refine⟨by simpa[jB]using h.1,by simpa[jB]using h.2.1,λp b=>?_⟩;let⟨q,a,rfl⟩:=aap.mp b;have:=h.2.2 q a;exact⟨this.1,this.2.1,by show 1≤max 1 (q.2-1);omega,by show max 1 (q.2-1)≤4;omega⟩
theorem Av:∀{rs:List Nat},(∀r∈rs,r≤1)->M7.cnt rs≤2^rs.length
 |[],_=>Mt _
 |r::rs,h=>by
  have c:=h r aaa;have b:=Av (rs:=rs) λx a=>h x (LD _ a);show(r+1)*M7.cnt rs≤2^(rs.length+1);rw[Nat.pow_succ,ac1];exact abx b (by omega)
theorem lh:∀{ps:List (Nat×Nat)},(∀p∈ps,1≤p.2)->(br (jB ps)).sum≤(br ps).sum/\((∃p∈ps,2≤p.2)->(br (jB ps)).sum<(br ps).sum)
 |[],_=>⟨Mt _,by intro⟨p,b,_⟩;cases b⟩
 |p::ps,h=>by
  have i:=lh (ps:=ps) λx c=>h x (LD _ c);have b:=h p aaa;have d:(br (jB (p::ps))).sum=max 1 (p.2-1)+(br (jB ps)).sum:=by simp[br,jB]
  have e:(br (p::ps)).sum=p.2+(br ps).sum:=by simp[br]
  rw[d,e];refine⟨by have:=i.1;omega,λ⟨q,a,f⟩=>?_⟩;obtain rfl|a:=aaf.mp a
  .have:=i.1;omega
  .have:=i.2 ⟨q,a,f⟩;omega
def SvK.six(h:SvK ps):(br ps).length≤4/\∀r∈br ps,r≤6:=by
 refine⟨by simpa[br]using h.2.1,λr b=>?_⟩;let⟨p,a,rfl⟩:=aap.mp b;have:=(h.2.2 p a).2.2.2;omega
def SvK.rep(h:SvK ps){p:Nat×Nat}(d:p∈ps){n:Nat}(b:1≤n)(c:n≤4):SvK (aal n p):=
 ⟨by rw[adf];exact b,by rw[adf];exact c,λq a=>by rw[adP a];exact h.2.2 p d⟩
theorem zN{a:Type}(n:Nat)(x:a):(aal n [x]).flatten=aal n x:=by
 induction n with
 |zero=>rfl
 |succ n i=>rw[acv,ag4,i,acv];rfl
def Ko(p:Nat×Nat):aD:=.int (p.2:Int)
def topD(p:Nat×Nat):aD:=.int (p.1:Int)
def Uc(p:Nat×Nat):aD:=prD (p.1,max 1 (p.2-1))
def r8(ps:List (Nat×Nat)):ps.map Ko=(br ps).map λ(r:Nat)=>.int (r:Int):=by rw[br,aa9];rfl
def yC(ps:List (Nat×Nat)):ps.map Uc=(jB ps).map prD:=by rw[jB,aa9];rfl
def srvK(wh:Nat)(p:Nat×Nat):Srv:=⟨p.1/p.1.gcd wh,wh/p.1.gcd wh,p.2⟩
theorem qX{p wh:Nat}(c:1≤p)(d:p<1000000)(h:1≤wh)(e:wh<1000000):1≤p/p.gcd wh/\p/p.gcd wh<1000000/\1≤wh/p.gcd wh/\wh/p.gcd wh<1000000:=by
 have g:0<p.gcd wh:=afF _ h;have a:p.gcd wh≤wh:=Nat.gcd_le_right _ h;have b:p.gcd wh≤p:=Nat.gcd_le_left _ c;have d1:=Nat.div_le_self p (p.gcd wh);have f:=Nat.div_le_self wh (p.gcd wh);exact⟨Nat.div_pos b g,by omega,Nat.div_pos a g,by omega⟩
def uL(ps:List (Nat×Nat)):List Nat:=ps.map λp=>p.1
def DG(ps:List (Nat×Nat)):ps.map topD=natD (uL ps):=by rw[uL,natD,aa9];rfl
theorem v6:∀{ps:List (Nat×Nat)},(∀p∈ps,p.1≤3)->(uL ps).sum≤3*ps.length
 |[],_=>Mt _
 |p::ps,h=>by
  have i:=v6 (ps:=ps) λx a=>h x (LD _ a);have:=h p aaa;simp only[uL,aak,acQ,aaA]at i⊢;omega
theorem sumK:∀l:List Nat,(l.map λ(x:Nat)=>(x:Int)).sum=((l.sum:Nat):Int)
 |[]=>rfl
 |x::l=>by rw[aak,acQ,acQ,sumK l,aeO]
def yT(l:List Nat):db (natD l)=some (l.map λ(k:Nat)=>(k:Int)):=by unfold natD;rw[show(l.map λ(k:Nat)=>abU (k:Int))=(l.map λ(k:Nat)=>(k:Int)).map .int by rw[aa9];rfl,dW]
def Dw{a:Type}(n:Nat)(x:a):(aal n [x]).flatten=aal n x:=by simp
def FZ(n x:Nat):aal n (abU (x:Int))=natD (aal n x):=by unfold natD;rw[ag0]
end K
namespace L2
open PySem PySem.Spec PySem.W PyProof.Rows
section
variable {X:Cx}
theorem vY{K:Kd}{H:Hp}{ds:List aD}{xs:List V}(g:DenAll K H ds xs):∀p:List Nat,DenAll K H (p.map λi=>ds.getD i .none) (p.map λi=>xs.getD i .non)
 |[]=>by simp only[ac5,DenAll]
 | i::p=>by
  simp only[aak];refine⟨_,_,rfl,?_,vY g p⟩
  cases e:ds[i]? with
  |some d=>
   let⟨v,a,hd⟩:=g.get e;rw[bO e,bO a];exact hd
  |none=>
   have a:xs[i]?=none:=by rw[List.getElem?_eq_none_iff]at e⊢;rw[<-g.length];exact e
   rw[aar,aar,e,a];rfl
theorem t5{xs:List V}{us:List mT}(r:Vals xs us):∀p:List Nat,Vals (p.map λi=>xs.getD i .non) (p.map λi=>us.getD i .none)
 |[]=>.nil
 | i::p=>by
  rw[aak,aak];refine .cons ?_ (t5 r p)
  cases e:xs[i]? with
  |some x=>
   let⟨u,a,h⟩:=r.get e;rw[bO e,bO a];exact h
  |none=>
   rw[aar,aar,e,r.none_of e];rfl
end
end L2
namespace K
open PySem L2 M7
def gh(n:Nat)(os:List (List Nat)):List (List Nat):=os.flatMap λa=>((aaz n).filter λl=>!a.contains l).map λl=>a++[l]
def ordK(n:Nat):Nat->List (List Nat)
 |0=>[[]]
 |k+1=>gh n (ordK n k)
def pp{n:Nat}{os:List (List Nat)}{j:Nat}{a:List Nat}(h:os[j]?=some a):gh n (os.take (j+1))=gh n (os.take j)++((aaz n).filter λl=>!a.contains l).map λl=>a++[l]:=by
 unfold gh;rw[aaR,h];simp
def g9:∀n≤4,∀k≤4,(ordK n k).length≤24/\∀a∈ordK n k,a.length≤4/\∀x∈a,x≤3:=by decide +kernel
def ik:∀n≤4,∀k≤3,∀j≤24,(gh n ((ordK n k).take j)).length≤24:=by decide +kernel
abbrev Pt:=List Nat×Nat
def ptD(p:Pt):aD:=stD p.1 p.2
theorem vI:∀{a b:List Nat},natD a=natD b->a=b
 |[],[],_=>rfl
 |x::a,y::b,h=>by
  simp[natD]at h;rw[show x=y by omega,vI h.2]
 |[],_::_,h=>nomatch h
 |_::_,[],h=>nomatch h
theorem PP(p:Pt):hkD (ptD p)=true:=by
 have n:∀l:List Nat,hkA (natD l)=true:=λl=>by
  induction l with
  |nil=>rfl
  |cons x l i=>show(hkD _&&hkA (natD l))=true;rw[i];rfl
 show(hkD _&&_)=true;rw[show hkD (lnD p.1)=true from n p.1];rfl
def OY(p q:Pt):aag (ptD p) (ptD q)=decide (p=q):=by
 rw[tj _ _ (PP p) (PP q)];refine decide_eq_decide.mpr ⟨λh=>?_,λh=>by rw[h]⟩;have a:=by injection h
 simp at a;have b:=by have:=a.1;injection this
 exact ahA (vI b) (by omega)
instance decWd:DecidableEq Wd:=λa b=>by cases a<;>cases b<;>first|exact isTrue rfl|exact isFalse (λh=>nomatch h)
def Ja:SpM:=λa K=>∃h:Hall,a=[.imm h.d]/\h.Ok/\K (.new ((ordK h.ss.length h.ss.length).map lnD)) []
def Fu:∀n≤4,1≤n->∀o∈ordK n n,o≠[]/\o.length≤4/\∀k∈o,k<n:=by decide +kernel
def gI(l:List Nat):db (natD l)=some (l.map λ(x:Nat)=>(x:Int)):=by
 have:=dW (l.map λ(x:Nat)=>(x:Int));rwa[aa9]at this
theorem lq:∀l:List Nat,(l.map λ(x:Nat)=>(x:Int)).sum=(l.sum:Int)
 |[]=>rfl
 |x::l=>by rw[aak,acQ];rw[acQ,lq l];rfl
theorem l6{e:Type}[DecidableEq e]:∀{l m:List e},l.Nodup->(∀x∈l,x∈m)->l.length≤m.length
 |[],_,_,_=>abm _
 | a::l,m,h,hs=>by
  rw[aba]at h;have d:=hs a aaa;have i:=l6 (l:=l) (m:=m.erase a) h.2 λx c=>by
   have b:x≠a:=λz=>h.1 (z▸c);exact(List.mem_erase_of_ne b).mpr (hs x (LD _ c))
  have:=List.length_erase_of_mem d;have:=List.length_pos_of_mem d;rw[aaA];omega
theorem kU:∀{rs l:List Nat},M7.Fits rs l->l∈M3.allR rs
 |[],[],_=>aab.mpr rfl
 |r::rs,x::l,h=>by
  have a:x≤r:=h.1;exact ach.mpr ⟨x,aeX.mpr (by omega),aap.mpr ⟨l,kU h.2,rfl⟩⟩
 |[],_::_,h=>h.elim
 |_::_,[],h=>h.elim
end K
namespace L2
open PySem PySem.Spec PySem.W PyProof.Rows
def LtAt(A:aa4)(s:AD)(x y:mT)(b:Bool):Prop:=
 ∀(prog:aaF) (w:World) (E:mT->AD->Prop) (Q:mT->AD->Prop),Q (.bool b) s->wpAny (model prog w) A (richCompare .Lt x y) Q E s
def zm(A:aa4)(s:AD)(f r:Bool):List (mT×mT)->Prop
 |[]=>r=f
 |p::ps=>∃e,afQ A s p.1 p.2 e/\((e=true->zm A s f r ps)/\(e=false->LtAt A s p.1 p.2 r))
theorem oo(l b:Addr)(xs ys:Array mT)(n m:Nat)(d1 d2:Option Addr)(s1 s2:Array (Option mT))(r:Bool) :
  Meets (acI.«tuple.__lt__» ⟨[.ref l,.ref b],[]⟩)
   (λA R s=>s.heap.get? l=some {cls:=.type "tuple",dict:=d1,data:=.seq xs n,slots:=s1}/\s.heap.get? b=some {cls:=.type "tuple",dict:=d2,data:=.seq ys m,slots:=s2}/\zm A.in1 s (decide (xs.size<ys.size)) r (xs.toList.zip ys.toList)/\R (.ok (.ret (.bool r))) s):=
 .of_wp λprog w A R s h=>by
  let⟨g,k,p,d⟩:=h;have i:=AutoSeq1.sub_tuple_tuple
  wp_walk using aeN g,aeN k,aer _ (λrest z c=>z.1=none/\c=s/\zm A.in1 s (decide (xs.size<ys.size)) r rest) _
  case turn=>
   intro⟨u,v⟩ rest z c ⟨f,rfl,e,o,q,j⟩;refine gT (o prog w _ _ ?_)
   cases e with
   |true=>exact Io ⟨rfl,rfl,q rfl⟩
   |false=>
    refine gT (abI (gT (j rfl prog w _ _ ?_)))
    wp_walk
    exact⟨_,rfl,d⟩
  case fin=>
   intro⟨z,u⟩ c ⟨f,rfl,e⟩;have a:z=none:=f;subst a
   wp_walk
   refine⟨_,rfl,?_⟩;rw[e]at d;exact d
  case h=>exact⟨rfl,rfl,p⟩
mutual
def ltD:aD->aD->Bool
 | .int a,.int b=>decide (a<b)
 | .tuple xs,.tuple ys=>ltDs xs ys
 |_,_=>false
def ltDs:List aD->List aD->Bool
 |x::xs,y::ys=>if aag x y=true then ltDs xs ys else ltD x y
 |[],_::_=>true
 |_,_=>false
end
mutual
def smD:aD->aD->Bool
 | .int _,.int _=>true
 | .tuple xs,.tuple ys=>smDs xs ys
 |_,_=>false
def smDs:List aD->List aD->Bool
 |[],[]=>true
 |x::xs,y::ys=>smD x y&&smDs xs ys
 |_,_=>false
end
mutual
theorem BJ:∀{x y:aD},smD x y=true->x.canLay0=true/\y.canLay0=true
 | .int _,.int _,_=>⟨rfl,rfl⟩
 | .tuple xs,.tuple ys,h=>by
  simp only[smD]at h;have:=yK h;exact⟨this.1,this.2⟩
theorem yK:∀{xs ys:List aD},smDs xs ys=true->abt xs=true/\abt ys=true
 |[],[],_=>⟨rfl,rfl⟩
 |x::xs,y::ys,h=>by
  simp only[smDs,aaS]at h;have a:=BJ h.1;have b:=yK h.2;exact⟨by simp only[abt,a.1,b.1,Bool.and_self],by simp only[abt,a.2,b.2,Bool.and_self]⟩
end
def LtUp(k:Nat):Prop:=∀(x y:aD) (A:aa4) (s:AD) (u v:mT) (a bs:List Addr),x.depth≤k->Reads s.heap u x a->Reads s.heap v y bs->smD x y=true->A.units+x.depth<cLine->LtAt A s u v (ltD x y)
theorem mX{k:Nat}(I:LtUp k)(A:aa4)(s:AD):∀(xs ys:List aD) (us vs:List mT) (as bs:List Addr),aax xs≤k->adK s.heap us xs as->adK s.heap vs ys bs->smDs xs ys=true->A.units+aax xs<cLine->us.length=vs.length/\zm A s false (ltDs xs ys) (us.zip vs)
 | [],ys,us,vs,as,bs,hk,r1,r2,h,hu=>by
  cases ys with
  |cons y ys=>exact absurd h (by simp only[smDs];decide)
  |nil=>
   cases r1;cases r2;exact⟨rfl,rfl⟩
 | x::xs,ys,us,vs,as,bs,hk,r1,r2,h,hu=>by
  cases ys with
  |nil=>exact absurd h (by simp only[smDs];decide)
  | cons y ys=>
   simp only[smDs,aaS]at h
   cases r1 with
   | cons a1 a2=>
    cases r2 with
    |cons b1 b2=>
     have a:max x.depth _≤k:=hk;have dp:A.units+max x.depth _<cLine:=hu;have ly:=BJ h.1;let⟨b,l⟩:=mX I A s xs ys _ _ _ _ (by omega) a2 b2 h.2 (by omega);refine⟨by rw[aaA,aaA,b],aag x y,ahn x y A s _ _ _ _ a1 b1 ly.1 ly.2 (by have:=Nat.min_le_left x.depth y.depth;omega),λe=>?_,λe=>?_⟩
     .rw[ltDs,if_pos e];exact l
     .rw[ltDs,if_neg (by rw[e];decide)];exact I x y A s _ _ _ _ (by omega) a1 b1 h.1 (by omega)
theorem wF:∀k,LtUp k
 | 0,x,y,A,s,u,v,as,bs,hk,r1,r2,h,hu=>by
  cases x with
  | int a=>
   cases y with
   |int b=>
    cases r1;cases r2;exact λprog w E Q h=>wpAny_lt_int h
   |_=>exact absurd h (by simp only[smD];decide)
  |tuple c=>exact absurd hk (by show ¬aax c+1≤0;contradiction)
  |_=>exact absurd h (by simp only[smD];decide)
 | k+1,x,y,A,s,u,v,as,bs,hk,r1,r2,h,hu=>by
  cases x with
  | int a=>
   cases y with
   |int b=>
    cases r1;cases r2;exact λprog w E Q h=>wpAny_lt_int h
   |_=>exact absurd h (by simp only[smD];decide)
  | tuple c=>
   cases y with
   | tuple i=>
    simp only[smD]at h
    cases r1 with
    | tuple C r t I=>
     cases r2 with
     |tuple B G D P=>
      rename_i l o vs n m L d H;let⟨J,M,j,R⟩:=o;let⟨q,g,f,e⟩:=L;dsimp only at r t G D;subst r t G D;have O:aax c+1≤k+1:=hk;have dp:A.units+(aax c+1)<cLine:=hu;let⟨S,K⟩:=mX (wF k) A.in1 s c i vs.toList d.toList _ _ (by omega) I P h (show A.units+1+aax c<cLine by omega);rw[abJ,abJ]at S;intro prog w E Q N;refine richCompare_meets_room (op:=.Lt) ⟨_,C,rfl⟩ ⟨_,B,rfl⟩ F.slot_tuple_lt F.entry_tuple_lt (F.args_tuple_lt_2 _ _) (oo l m vs d n H M g R e (ltDs c i)) ⟨C,B,?_,⟨(λz=>nomatch z),N⟩⟩ (by omega);rw[decide_eq_false (p:=_) (by omega)];exact K
   |_=>exact absurd h (by simp only[smD];decide)
  |_=>exact absurd h (by simp only[smD];decide)
end L2
namespace L2
open PySem PySem.Spec PyProof.Rows
variable{n:Nat}{T v:Addr}{b:Bool}{o:Obj}{Q:Option mT->AD->Prop}{P:Addr->aaW->Nat->mT->Prop}
section
variable {prog:aaF}{w:World}{A:aa4}{E:mT->AD->Prop}{s:AD}{it d:Addr}{es:Array ab8}{i ep:Nat}{ok ov:mT}
def oG(h:aaW)(it d:Addr)(i n ep:Nat)(k v:mT)(T:Addr)(b:Bool):Prop:=h.get? it=some {cls:=.type "dict_itemiterator",data:=.fields #[ae6 T,.bool b,.ref d,.int i 0,.int n 0,.int ep 0,k,v]}
def QQ{a:Addr}{Q:Option Obj->AD->Prop}(h:Q (s.heap.get? a) s):wpAny (model prog w) A (loadIfAlive a) Q E s:=λ_ _ _=>h
theorem Jo{j:Nat}{Q:Bool->AD->Prop}(h:oG s.heap it d j n ep ok ov T b)(g:s.heap.get? T=some o)
  (a:∀h',oG h' it d j n ep ok ov T true->h'.objs.size=s.heap.objs.size->(∀c o,c≠it->s.heap.get? c=some o->h'.get? c=some o)->Q false {s with heap:=h' }):wpAny (model prog w) A (abO (.ref it)) Q E s:=by
 refine gT (abD h rfl (x:=ae6 T) rfl ?_);refine gT (QQ ?_);rw[show((T:Int)).toNat=T by rfl,g];refine gT (abD h rfl (x:=.bool b) rfl ?_)
 cases b with
 |true=>exact Io (a s.heap h rfl λc o _ q=>q)
 |false=>
  refine gT (aaY h (by simp) λf k s1=>?_);exact Io (a f k s1.1 λc o e q=>s1.extBut c o e q)
def FX{j:Nat}{k v:mT}{Q:mT->AD->Prop}(h:oG s.heap it d j n ep ok ov T b)(f:s.heap.get? T=some o)
  (e:∀h',oG h' it d j n ep ok ov T true->h'.get? s.heap.objs.size=some {cls:=.type "tuple",data:=.seq #[k,v]}->h'.objs.size=s.heap.objs.size+1 ->
   (∀c o,c≠it->s.heap.get? c=some o->h'.get? c=some o)->Q (.ref s.heap.objs.size) {s with heap:=h' }):wpAny (model prog w) A (ab6 (.ref it) 6 k v) Q E s:=by
 have lt:=aao h;have push:∀c o,s.heap.get? c=some o->(s.heap.push {cls:=.type "tuple",data:=.seq #[k,v]}).get? c=some o:=λc o q=>Ld _ q;refine gT (m:=abO _) (Jo (push _ _ h) (push _ _ f) λh' a1 a2 a=>?_);refine Io (e h' a1 (a _ _ (abv lt) (aan _ rfl)) (a2.trans (abC ..)) λc o g q=>a c o g (push c o q))
theorem DW(h:oG s.heap it d i es.size ep ok ov T b)(p:s.heap.get? T=some o)(G:T≠it)(F:EntAt s.heap d es ep)(K:i<es.size)
  (I:∀h',oG h' it d (i+1) es.size ep ok ov T true->h'.get? s.heap.objs.size=some {cls:=.type "tuple",data:=.seq #[es[i].key,es[i].val]}->h'.objs.size=s.heap.objs.size+1 ->
   (∀c o,c≠it->s.heap.get? c=some o->h'.get? c=some o)->Q (some (.ref s.heap.objs.size)) {s with heap:=h' }):wpAny (model prog w) A (acU (.ref it)) Q E s:=by
 let⟨M,k,L,j⟩:=F.ex;have a:s.TypeIs (.ref it) "dict_itemiterator":=(⟨_,h,rfl⟩);have own:abR "dict_itemiterator" = true:=by decide
 unfold acU;refine gT (add (aa0 (name:=acj "__next__") a aa7 (abc aa7 a aci ?_ (acb _))))
 wp_walk using si a,ae8 h rfl,acM k j,adY k j,abb a
 have B:(if (i:Int)<0 then none else es[((i:Nat):Int).toNat]?)=some es[i]:=by
  rw[if_neg (by omega),aa8,acd K]
 rw[B];rcases s with⟨r,g,l,t,os⟩;refine gT ?_;refine gT (si a (Io ?_));refine gT (m:=ae9 _ _) (abb a ?_);show wpAny _ _ (adL (.ref it) 3 (ae6 ((i:Int)+1)) >>= _) _ _ _;refine gT (aaY h (by simp) λe D s1=>?_);replace s1:ab2 it r e:=s1;have f:oG e it d (i+1) es.size ep ok ov T b:=by
  have q:((i+1:Nat):Int)=(i:Int)+1:=rfl;unfold oG;rw[q];simpa[ae6]using D
 have y:afE ⟨e,g,l,t,os⟩ (.ref it) "dict_itemiterator":=(⟨_,f,rfl⟩);refine gT (abZ (gT (abb y (gT (abb y ?_)))));show wpAny _ _ (ab6 (.ref it) 6 es[i].key es[i].val) _ _ ⟨e,g,l,t,os⟩;have H:e.objs.size=r.objs.size:=s1.1;refine FX (s:=⟨e,g,l,t,os⟩) f (s1.extBut T o G p) λC J u z k2=>?_;rw[H]at u z⊢;exact Io ⟨_,rfl,Io (I C J u z λc o x q=>k2 c o x (s1.extBut c o x q))⟩
theorem Gc(z:A.handled=none)(h:oG s.heap it d i es.size ep ok ov T b)(B:EntAt s.heap d es ep)(j:es.size≤i)
  (x:∀h',(∀c o,c≠it->s.heap.get? c=some o->h'.get? c=some o)->Q none {s with heap:=h' }):wpAny (model prog w) A (acU (.ref it)) Q E s:=by
 let⟨C,g,k,f⟩:=B.ex;have a:s.TypeIs (.ref it) "dict_itemiterator":=(⟨_,h,rfl⟩);have own:abR "dict_itemiterator" = true:=by decide
 unfold acU;refine gT (add (aa0 (name:=acj "__next__") a aa7 (abc aa7 a aci ?_ (acb _))))
 wp_walk using si a,ae8 h rfl,acM g f,adY g f,abb a
 have l:(if (i:Int)<0 then none else es[((i:Nat):Int).toNat]?)=none:=by
  rw[if_neg (by omega),aa8,af5 j]
 rw[l];refine gT (gT (si a (Io ?_)));refine gT (m:=adL (.ref it) 2 .none) (aaY h (by simp) λF D s1=>?_);refine qV z λr e k2 ⟨p,y,t⟩=>?_;exact gT (adu (T:= "StopIteration") (b:=true) ⟨p,y,t⟩ agu (Io (x r λc o u q=>k2 c o (s1.extBut c o u q))))
structure Nx(prog:aaF)(w:World)(A:aa4)(S it:Addr)(n:Nat)(St:Nat->aaW->Prop)(P:aaW->Nat->mT->Prop):Prop where
 item:∀(i:Nat) (s:AD) (Q:Option mT->AD->Prop) (E:mT->AD->Prop),i<n->St i s.heap->(∃o,s.heap.get? S=some o)->(∀h' v,St (i+1) h'->P h' i v->(∀c o,c≠it->s.heap.get? c=some o->h'.get? c=some o)->Q (some v) {s with heap:=h' })->wpAny (model prog w) A (acU (.ref it)) Q E s
 done:∀(s:AD) (Q:Option mT->AD->Prop) (E:mT->AD->Prop),St n s.heap->(∀h',(∀c o,c≠it->s.heap.get? c=some o->h'.get? c=some o)->Q none {s with heap:=h' })->wpAny (model prog w) A (acU (.ref it)) Q E s
 keep:∀i h h',St i h->h'.objs.size=h.objs.size->(∀c o,c≠S->h.get? c=some o->h'.get? c=some o)->St i h'
 more:∀h h' i v,P h i v->(∀c o,c≠S->c≠it->h.get? c=some o->h'.get? c=some o)->P h' i v
def oy(h:aaW)(S:Addr)(acc:Array mT)(c:Nat):Prop:=h.get? S=some {cls:=.type "list",data:=.seq acc c}
theorem vV{S it:Addr}{n:Nat}{St:Nat->aaW->Prop}{P:aaW->Nat->mT->Prop}{R:Result->AD->Prop}{r:mT}(N:Nx prog w A.in1 S it n St P)(ne:S≠it)(t:n≤aai):∀(k i:Nat) (s:AD) (acc:Array mT) (c:Nat),n-i=k->i≤n->St i s.heap->oy s.heap S acc c->acc.size=i->(∀j v,acc[j]?=some v->P s.heap j v) ->
  (∀h' a c',(∀b o,b≠it->b≠S->s.heap.get? b=some o->h'.get? b=some o)->oy h' S a c'->a.size=n->(∀j v,a[j]?=some v->P h' j v)->R (.ok (.ret r)) {s with heap:=h' })->adV (model prog w) A (.builtin "list.extend.loop" ⟨[.ref S,.ref it,r],[]⟩) R s
 |0,i,s,acc,c,hk,hi,st,hl,ha,hp,fin=>by
  have e:i=n:=by omega
  subst e;refine adb agF ((aeD adC _).symm▸?_);refine gT (m:=acU (.ref it)) (N.done s _ _ st λh' kp=>Io (fin h' acc c (λb o nb _ q=>kp b o nb q) (kp S _ ne hl) ha λj v e=>N.more _ _ _ _ (hp j v e) λc o _ f q=>kp c o f q))
 | k+1,i,s,acc,c,hk,hi,st,hl,ha,hp,fin=>by
  refine adb agF ((aeD adC _).symm▸?_);refine gT (m:=acU (.ref it)) (N.item i s _ _ (by omega) st ⟨_,hl⟩ λh' v p F kp=>?_);have h:oy h' S acc c:=kp S _ ne hl;refine gT (m:=updateSeq S (·.push v)) (agc (s:={s with heap:=h' }) h rfl (Io ⟨agP adC _,?_⟩) (by rw[ha];exact aas ‹_› ‹_›) (by show(acc.push v).size≤aai+1;rw[ahv,ha];omega));have up:∀b o,b≠S->h'.get? b=some o->(h'.update S (acB (·.push v))).get? b=some o:=λb o nb q=>(ac0 _ _ (ab1 nb)).trans q;have l:∀j u,(acc.push v)[j]?=some u->P (h'.update S (acB (·.push v))) j u:=λj u e=>by
   rw[Array.getElem?_push]at e
   split at e
   .rename_i z;rw[ha]at z;subst z;rw[<-aaB e];exact N.more _ _ _ _ F λc o f _ q=>up c o f q
   .exact N.more _ _ _ _ (hp j u e) λc o f B q=>up c o f (kp c o B q)
  refine vV N ne t k (i+1) _ (acc.push v) _ (by omega) (by omega) (N.keep _ _ _ p (aes ..) up) (adg _ h rfl) (by rw[ahv,ha]) l λy g G k2 C D x=>fin y g G (λb o n1 n2 q=>k2 b o n1 n2 (up b o n2 (kp b o n1 q))) C D x
end
section
variable {prog:aaF}{w:World}{A:aa4}{E:mT->AD->Prop}{s:AD}{f d S:Addr}{es:Array ab8}{i g:Nat}{ok r:mT}
def StI(S f d:Addr)(es:Array ab8)(g:Nat)(i:Nat)(h:aaW):Prop:=EntAt h d es g/\h.objs.size=f+1+i/\((∃ok r,ac6 h f d i es.size g ok r)\/∃k v T b o,oG h f d i es.size g k v T b/\h.get? T=some o/\T≠f/\T≠S)
def PrI(S f:Addr)(es:Array ab8)(h:aaW)(i:Nat)(v:mT):Prop:=S<f/\v = .ref (f+1+i)/\∃a:i<es.size,h.get? (f+1+i)=some {cls:=.type "tuple",data:=.seq #[es[i].key,es[i].val]}
def BC(f:Addr)(i:Nat):f+1+i≠f:=abv (aat (aby f) (acx _ i))
def yM{S f:Addr}(h:S<f)(i:Nat):f+1+i≠S:=abv (aeb h (aat (aby f) (acx _ i)))
theorem F8(F:A.handled=none)(n1:S<f)(n2:S≠d)(D:f≠d):Nx prog w A S f es.size (StI S f d es g) (PrI S f es) where
 item:=by
  intro i s Q E p ⟨j,z,c⟩ ⟨H,I⟩ u;rcases c with⟨ok,r,c⟩|⟨k,v,T,b,o,c,B,x,C⟩
  .refine zP c j p λt a1 a2 y m=>?_;rw[z]at a1 a2 y⊢;exact u t _ ⟨j.keep λo q=>m d o (ab1 D) q,y,.inr ⟨_,_,_,false,_,a1,a2,(BC f i),(yM n1 i)⟩⟩ ⟨n1,rfl,p,a2⟩ m
  .refine DW c B x j p λt a1 a2 y m=>?_;rw[z]at a2 y⊢;exact u t _ ⟨j.keep λo q=>m d o (ab1 D) q,y,.inr ⟨_,_,_,true,o,a1,m T o x B,x,C⟩⟩ ⟨n1,rfl,p,a2⟩ m
 done:=by
  intro s Q E ⟨j,z,c⟩ u;rcases c with⟨ok,r,c⟩|⟨k,v,T,b,o,c,_⟩
  .exact zr F c j (Mt _) u
  .exact Gc F c j (Mt _) u
 keep:=by
  intro i h t ⟨j,z,c⟩ G k;refine⟨j.keep λo q=>k d o (ab1 n2) q,G.trans z,?_⟩;rcases c with⟨ok,r,c⟩|⟨a,v,T,b,o,c,B,x,C⟩
  .exact .inl ⟨ok,r,k f _ (abv n1) c⟩
  .exact .inr ⟨a,v,T,b,o,k f _ (abv n1) c,k T o C B,x,C⟩
 more:=by intro h t i v ⟨l,e,p,q⟩ k;exact⟨l,e,p,k _ _ (yM n1 i) (BC f i) q⟩
def zp{Q:mT->AD->Prop}(c:s.heap.get? v=some {cls:=.type "dict_items",data:=.fields #[.ref d]})(l:EntAt s.heap d es g)
  (k:∀h',ac6 h' s.heap.objs.size d 0 es.size g .none .none->h'.objs.size=s.heap.objs.size+1->(∀b o,s.heap.get? b=some o->h'.get? b=some o)->Q (.ref s.heap.objs.size) {s with heap:=h' }):wpAny (model prog w) A (afU (.ref v)) Q E s:=by
 let⟨m,a,j,h⟩:=l.ex;have e:s.TypeIs (.ref v) "dict_items":=(⟨_,c,rfl⟩);have own:abR "dict_itemiterator" = true:=by decide
 refine wpAny_pyIter_slot e aeP (abc aeP e PySem.F.entry_dict_items_iter ?_ (PySem.F.args_dict_items_iter_1 _));refine gT (Io (gT (gT (abD c rfl (x:=.ref d) rfl (Io (gT (gT (acM a h (gT (adY a h ?_))))))))));simp only[own,if_true];refine abe (Io ⟨_,rfl,"dict_itemiterator",_,⟨_,aan _ rfl,rfl⟩,PySem.F.slot_dict_itemiterator_next.lookup,?_⟩) (by simp only[sizeOk,acI.Dict_items.ownedTupleFields,aaJ,aaj,aaA,adW,aae];decide);exact k _ (aan _ rfl) (abC ..) λb o q=>Ld _ q
def yD:typeLookup (.type "dict_items") "__len__" = pure (some (.builtin "dict_items.__len__")):=by rfl
theorem yv{Q:Bool->AD->Prop}(a:s.TypeIs (.ref v) "dict_items")(h:Q false s):wpAny (model prog w) A (acw (.ref v)) Q E s:=by
 rw[acw];refine gT (aeM a yD ?_);have c:splitId "dict_items.__len__" = some ("dict_items","__len__"):=by decide +kernel
 dsimp only;rw[c];dsimp only;refine gT (adu (b:=true) a (by rw[isSubtype_type];kernel_rfl) ?_);rw[if_neg (by decide)];rw[if_pos (by decide +kernel)];exact gT (acY a (Io h))
def Qh{c:Nat}{Q:Unit->AD->Prop}(a:oy s.heap S #[] c)(h:∀h' c',oy h' S #[] c'->h'.objs.size=s.heap.objs.size->(∀b o,b≠S->s.heap.get? b=some o->h'.get? b=some o)->Q () {s with heap:=h' }):wpAny (model prog w) A (acI.List.listTouch (.ref S)) Q E s:=by
 refine gT (agc a rfl ?_ (by simp) (by trivial));have l:oy (s.heap.update S (acB (·.push .none))) S (#[].push .none) _:=adg _ a rfl;refine agc l rfl ?_ (by show(1:Nat)≤aai;rw[aae];decide) (by trivial);have e:oy ((s.heap.update S (acB (·.push .none))).update S (acB (·.pop))) S #[] _:=adg _ l rfl;exact h _ _ e ((aes ..).trans (aes ..)) λb o nb q=>(ac0 _ _ (ab1 nb)).trans ((ac0 _ _ (ab1 nb)).trans q)
def DJ{T:String}{c:Nat}{St:Addr->Nat->aaW->Prop}{R:Result->AD->Prop}(t:s.TypeIs (.ref v) T)(h:T = "dict_items" \/ T = "dict")(y:S≠v)(I:oy s.heap S #[] c)(B:n≤aai)
  (k:∀(s:AD) (Q:Bool->AD->Prop) (E:mT->AD->Prop),s.TypeIs (.ref v) T->Q false s->wpAny (model prog w) A.in1 (acw (.ref v)) Q E s)
  (a:∀(Q:mT->AD->Prop) (E:mT->AD->Prop),(∀h' f,f≠S->Nx prog w A.in1 S f n (St f) (P f)->St f 0 h'->(∀b o,s.heap.get? b=some o->h'.get? b=some o)->s.heap.get? f=none->Q (.ref f) {s with heap:=h' })->wpAny (model prog w) A.in1 (afU (.ref v)) Q E s)
  (p:∀f h' (acc:Array mT) c',(∀b o,b≠S->s.heap.get? b=some o->h'.get? b=some o)->oy h' S acc c'->acc.size=n->(∀j u,acc[j]?=some u->P f h' j u)->R (.ok (.ret (.ref S))) {s with heap:=h' }):adV (model prog w) A (.builtin "list.__iadd__" ⟨[.ref S,.ref v],[]⟩) R s:=by
 refine adb F.entry_list_iadd ((aeD F.plain_list_iadd _).symm▸?_);show wpAny _ A.in1 (aeU (.ref S) (.ref v) (.ref S)) _ _ _;refine gT ?_;refine acY t ?_;have V:adN (.ref S) (.ref v)=false:=by simp[adN,y]
 rw[V,if_neg (by rcases h with rfl|rfl<;>decide)];refine gT (a _ _ λx f M N L k1 nn=>?_);have m:afE {s with heap:=x} (.ref v) T:=by
  let⟨o,H,W⟩:=t;exact⟨o,k1 _ _ H,W⟩
 refine gT (abZ (k _ _ _ m ?_));dsimp only;rw[if_pos (by rcases h with rfl|rfl<;>decide)];refine gT (abI (gT (Qh (s:={s with heap:=x}) (k1 _ _ I) λY J O l k2=>?_)));refine Io ⟨agP adC _,vV N (ab1 M) B n 0 _ #[] J rfl (abm _) (N.keep _ _ _ L l k2) O rfl (λj u e=>by simp at e) λU acc C G K X D=>p f U acc C (λb o nb q=>G b o (λz=>by rw[z,nn]at q;cases q) nb (k2 b o nb (k1 b o q))) K X D⟩
def yi{T:String}{St:Addr->Nat->aaW->Prop}{Q:List mT->AD->Prop}(B:s.TypeIs (.ref v) T)(x:T = "dict_items" \/ T = "dict")(D:n≤aai)
  (c:∀(s:AD) (Q:Bool->AD->Prop) (E:mT->AD->Prop),s.TypeIs (.ref v) T->Q false s->wpAny (model prog w) A.in1 (acw (.ref v)) Q E s)
  (a:∀(s1:AD) (Q:mT->AD->Prop) (E:mT->AD->Prop),(∀b o,s.heap.get? b=some o->s1.heap.get? b=some o)->(∃o,s1.heap.get? s.heap.objs.size=some o)->(∀h' f,f≠s.heap.objs.size->Nx prog w A.in1 s.heap.objs.size f n (St f) (P f)->St f 0 h'->(∀b o,s1.heap.get? b=some o->h'.get? b=some o)->s1.heap.get? f=none->Q (.ref f) {s1 with heap:=h' })->wpAny (model prog w) A.in1 (afU (.ref v)) Q E s1)
  (t:∀f h' (acc:Array mT),(∀b o,s.heap.get? b=some o->h'.get? b=some o)->s.heap.objs.size<h'.objs.size->acc.size=n->(∀j u,acc[j]?=some u->P f h' j u)->Q acc.toList {s with heap:=h' }):wpAny (model prog w) A (collect (.ref v)) Q E s:=by
 have new:oy _ s.heap.objs.size #[] 0:=aan _ rfl;have y:∀b o,s.heap.get? b=some o->(s.heap.push {cls:=.type "list",data:=.seq #[]}).get? b=some o:=λb o q=>Ld _ q;have C:s.heap.objs.size≠v:=by
  let⟨o,q,_⟩:=B;exact abv (aao q)
 have e:afE {s with heap:=s.heap.push {cls:=.type "list",data:=.seq #[]} } (.ref v) T:=by
  let⟨o,G,H⟩:=B;exact⟨o,y _ _ G,H⟩
 refine gT (m:=runValue _) (wpAny_runValue (adb F.entry_proto_collect (gT (m:=ag6 []) (abe (Io ⟨agP F.plain_list_iadd _,?_⟩)))));refine DJ e x C new D c (λQ E h=>a {s with heap:=s.heap.push {cls:=.type "list",data:=.seq #[]} } Q E y ⟨_,new⟩ h) λf h' acc I k l z p=>?_;refine gT (m:=load s.heap.objs.size) (wpAny_load l ?_);exact Io (t f h' acc (λb o q=>k b o (aa1 (aao q)) (y b o q)) (aao l) z p)
end
end L2
namespace L2
open PySem PySem.Spec PySem.W PyProof.Rows
variable{a arr:Array Keyed}{i j lo n:Nat}{x:Keyed}{st':abq}{Q:Array Keyed->abq->Prop}{vs:List mT}{ds:List aD}{B b:Addr}{g:Nat->HO}{kvs:List (aD×aD)}{es:List (V×V)}{o:Expr}{apos cpos p0 pos:Pos}
def gal:=sortPriv% PySem.Builtin.gallop
abbrev pK(a:Array Keyed)(i:Nat):Keyed:=a.getD i (.none,.none)
theorem u4(h:i<a.size):a[i]?=some (pK a i):=by simp_all
def U6(h:i<a.size):a.toList.drop i=pK a i::a.toList.drop (i+1):=by
 rw[ady (by simpa using h)];simp[h]
def OrcW(prog:aaF)(w:World)(A:aa4)(s:AD)(d:afO)(c:List Keyed):Prop:=∀x∈c,∀y∈c,∀C:Bool->AD->Prop,(∀b,C b s)->wpAny (model prog w) A (keyLt' d x.1 y.1) C (λ_ _=>False) s
def setG(st:abq)(m:Nat):abq:=afa (kindOf st) (arrOf st) (aaH st) m (afb st)
def sMG:=sortPriv% PySem.Builtin.setMinGallop
def mLo:=sortPriv% PySem.Builtin.mergeLo
def mHi:=sortPriv% PySem.Builtin.mergeHi
section
variable {prog:aaF}{w:World}{A:aa4}{E:mT->AD->Prop}{s:AD}{g β:Type}{Q:β->abq->Prop}{st:abq}
def bI{c:Prop}[Decidable c]{p q:StateT abq Sem β}(h:c->wpS (model prog w) A E s p Q st)(d:¬c->wpS (model prog w) A E s q Q st):wpS (model prog w) A E s (if c then p else q) Q st:=by
 by_cases z:c
 .rw[if_pos z];exact h z
 .rw[if_neg z];exact d z
def dQ{f:Keyed->StateT abq Sem β}(c:i<arr.size)(h:wpS (model prog w) A E s (f (pK arr i)) Q st):wpS (model prog w) A E s (elem' arr i >>= f) Q st:=by
 rw[elem'_eq,u4 c];exact aaE (aaK h)
def vF{m c:Nat}{f:Unit->StateT abq Sem β}(h:wpS (model prog w) A E s (f ()) Q (setG st c)):wpS (model prog w) A E s (sMG c >>= f) Q (setG st m):=aaE (aet h)
def C8{M:Model}{A:aa4}{E:mT->AD->Prop}{s:AD}{c:Type}{x:c}{Q:PUnit->c->Prop}{st:c}(h:Q ⟨⟩ x):wpS M A E s (set x:StateT c Sem PUnit) Q st:=by
 unfold wpS;rw[StateT.run_set];exact Io ⟨rfl,h⟩
variable {e:afO}{d:List Keyed} (O:OrcW prog w A s e d)
include O
theorem zT{y:Keyed}{Q:Option Bool->abq->Prop}(hk:kindOf st=e)(f:x∈d)(c:y∈d)(h:∀b,Q (some b) st):wpS (model prog w) A E s (lt' x y) Q st:=by
 rw[lt'_eq];refine aaE (aeV ?_);rw[hk];refine aaE (afP (add (ace (O x f y c _ λb=>?_) (λ_ _ q=>q) λ_ _ q=>q.elim)));exact⟨rfl,aaK (h b)⟩
theorem Jz{y:Keyed}{f:Option Bool->StateT abq Sem β}(hk:kindOf st=e)(k:x∈d)(c:y∈d)(h:∀b,wpS (model prog w) A E s (f (some b)) Q st):wpS (model prog w) A E s (lt' x y >>= f) Q st:=aaE (zT O hk k c h)
theorem pj{left:Bool}{key:Keyed}{base p:Nat}{f:Option Nat->StateT abq Sem β}(hk:kindOf st=e)(u:key∈d)(G:p<n)(J:base+n≤arr.size)(H:∀x∈arr.toList,x∈d)(h:∀k,k≤n->wpS (model prog w) A E s (f (some k)) Q st):wpS (model prog w) A E s (gal left key arr base n p >>= f) Q st:=by
 have B:∀i,i<n->∀(v:Option Bool->abq->Prop),(∀b,v (some b) st)->wpS (model prog w) A E s (elem' arr (base+i) >>= λx=>if left=true then lt' x key else lt' key x >>= λr=>pure (r.map λx=>!x)) v st:=λi t v q=>by
  have m:=H _ (aey.mpr (agm (u4 (a:=arr) (i:=base+i) (by omega))));refine dQ (by omega) ?_
  cases left with
  |true=>exact zT O hk m u q
  |false=>exact Jz O hk u m λb=>aaK (q !b)
 apply aaE;apply aaE;refine B p G _ λb=>?_;dsimp only;cases b
 case' false=>
  rw[if_neg (by decide)];refine aaE (ab7 (abw (I:=λi c st'=>st=st'/\∃l o,c=(none,l,o)/\l≤p/\l<o) (Q:=λc st'=>st=st'/\∃l o,c=(none,l,o)/\l≤p/\l<o) ?_ (λ_ _ q=>q) ⟨rfl,0,1,rfl,by omega,by omega⟩) ?_)
 case' true=>
  rw[if_pos rfl];refine aaE (ab7 (abw (I:=λi c st'=>st=st'/\∃l o,c=(none,l,o)/\p+l<n/\l<o) (Q:=λc st'=>st=st'/\∃l o,c=(none,l,o)/\p+l<n/\l<o) ?_ (λ_ _ q=>q) ⟨rfl,0,1,rfl,by omega,by omega⟩) ?_)
 any_goals
  intro i c st' _ t ⟨rfl,l,o,rfl,D,C⟩;dsimp only;refine bI (λz=>aaK ⟨rfl,l,o,rfl,D,C⟩) λz=>?_;apply aaE;refine B _ (by omega) _ λb=>?_
  cases b<;>exact aaK ⟨rfl,_,_,rfl,by omega,by omega⟩
 all_goals
  intro c st' ⟨rfl,l,o,rfl,D,C⟩;dsimp only;refine aaE (ab7 (abw (I:=λi c st'=>st=st'/\∃lo t,c=(none,lo,t)/\lo≤t/\t≤n) (Q:=λc st'=>st=st'/\∃lo t,c=(none,lo,t)/\lo≤t/\t≤n) ?_ (λ_ _ q=>q) ⟨rfl,_,_,rfl,by omega,by omega⟩) ?_)
  .rintro i c st' _ t ⟨rfl,lo,hi',rfl,y,F⟩;dsimp only;refine bI (λz=>aaK ⟨rfl,_,_,rfl,y,F⟩) λz=>?_;apply aaE;refine B _ (by omega) _ λb=>?_;cases b
   .exact aaK ⟨rfl,_,_,rfl,by omega,by omega⟩
   .exact aaK ⟨rfl,_,_,rfl,by omega,by omega⟩
  intro c st' ⟨rfl,lo,t,rfl,y,F⟩;exact aaK (h _ (by omega))
end
def Mg(tot out c r:List Keyed):Prop:=(out++(c++r)).Perm tot
section
variable {tot out r a xs:List Keyed}
def Mg.sym(h:Mg tot out r a):Mg tot out a r:=(List.perm_append_comm.append_left _).trans h
def Mg.app(h:Mg tot out (xs++r) a):Mg tot (out++xs) r a:=by
 unfold Mg at h⊢;simpa only[aaU]using h
end
def memK(h:i<a.size):pK a i∈a.toList:=aey.mpr (agm (u4 h))
abbrev ta(a:Array Keyed)(n:Nat):List Keyed:=(a.toList.take n).reverse
section
variable {a b out:Array Keyed}{c d k:Nat}{tot r:List Keyed}
def Mg.push(h:Mg tot out.toList (a.toList.drop c) r)(e:c<a.size):Mg tot (out.push (pK a c)).toList (a.toList.drop (c+1)) r:=by
 rw[U6 e]at h;rw[aef];exact Mg.app (xs:=[_]) h
def Mg.ext(h:Mg tot out.toList (a.toList.drop c) r):Mg tot (out++a.extract c (c+k)).toList (a.toList.drop (c+k)) r:=by
 rw[acT,show(a.extract c (c+k)).toList=(a.toList.drop c).take k by simp];refine Mg.app ?_;rw[<-List.drop_drop,adh];exact h
theorem Mg.done(h:Mg tot out.toList (a.toList.drop c) (b.toList.drop d)):(out++a.extract c a.size++b.extract d b.size).toList.Perm tot:=by
 have e:∀(a:Array Keyed) i,(a.extract i a.size).toList=a.toList.drop i:=λa i=>by simp[ac3]
 rw[acT,acT,e,e,aaU];exact h
def Mg.pushH(h:Mg tot out.toList (ta a (c+1)) r)(f:c<a.size):Mg tot (out.push (pK a c)).toList (ta a c) r:=by
 have e:ta a (c+1)=pK a c::ta a c:=by
  show(agB (c+1) a.toList).reverse=_;rw[List.take_succ_eq_append_getElem (by simpa using f),agG];simp[f]
 rw[e]at h;rw[aef];exact Mg.app (xs:=[_]) h
theorem Mg.extH(h:Mg tot out.toList (ta a c) r)(hk:k≤c):Mg tot (out++(a.extract k c).reverse).toList (ta a k) r:=by
 have e:ta a c=(a.extract k c).reverse.toList++ta a k:=by
  rw[Array.toList_reverse,<-agG,aeE];show _=(agB k _++agB (c-k) _).reverse;rw[<-List.take_add,show k+(c-k)=c by omega]
 rw[acT];rw[e]at h;exact Mg.app h
def Mg.doneH(h:Mg tot out.toList (ta a c) (ta b d)):(a.extract 0 c++b.extract 0 d++out.reverse).toList.Perm tot:=by
 have:=(afs _).trans h.sym;simpa using this
end
structure Two(prog:aaF)(w:World)(A:aa4)(s:AD)(κ:afO)(it:List Keyed)(a b:Array Keyed)(st:abq):Prop where
 o:OrcW prog w A s κ it
 ma:∀x∈a.toList,x∈it
 mb:∀x∈b.toList,x∈it
 hk:kindOf st=κ
def SJ{τ:Type}(st:abq)(P:τ->Prop)(c:Option (Array Keyed)×τ)(st':abq):Prop:=c.1=none/\(∃m,st'=setG st m)/\P c.2
def SK{τ:Type}(tot:List Keyed)(st:abq)(P:τ->Prop)(c:Option (Array Keyed)×τ)(st':abq):Prop:=(∃m,st'=setG st m)/\((c.1=none/\P c.2)\/∃x,c.1=some x/\x.toList.Perm tot)
def SO{τ:Type}(tot:List Keyed)(st:abq)(P d:τ->Prop)(r:ForInStep (Option (Array Keyed)×τ))(st':abq):Prop:=∃c,(r = .done c/\SK tot st P c st')\/(r = .yield c/\SJ st d c st')
section
variable {prog:aaF}{w:World}{A:aa4}{E:mT->AD->Prop}{s:AD}{τ t:Type}{tot:List Keyed}{st:abq}{P l:τ->Prop}{c:τ}{m:Nat}
def cX{x:Array Keyed}(h:x.toList.Perm tot):wpS (model prog w) A E s (pure (.done (some x,c))) (SO tot st P l) (setG st m):=aaK ⟨_,.inl ⟨rfl,⟨m,rfl⟩,.inr ⟨x,rfl,h⟩⟩⟩
def jZ(h:P c):wpS (model prog w) A E s (pure (.done (none,c))) (SO tot st P l) (setG st m):=aaK ⟨_,.inl ⟨rfl,⟨m,rfl⟩,.inl ⟨rfl,h⟩⟩⟩
def xO(h:l c):wpS (model prog w) A E s (pure (.yield (none,c))) (SO tot st P l) (setG st m):=aaK ⟨_,.inr ⟨rfl,rfl,⟨m,rfl⟩,h⟩⟩
def Lp(tot:List Keyed)(a b:Array Keyed)(N:Nat)(c:Array Keyed×Nat×Nat×t):Prop:=Mg tot c.1.toList (a.toList.drop c.2.1) (b.toList.drop c.2.2.1)/\c.2.1+1<a.size/\c.2.2.1<b.size/\N≤c.2.1+c.2.2.1
def Hq(tot:List Keyed)(a b:Array Keyed)(N:Nat)(c:Nat×Nat×Array Keyed×t):Prop:=Mg tot c.2.2.1.toList (ta a c.1) (ta b c.2.1)/\0<c.1/\1<c.2.1/\c.1≤a.size/\c.2.1≤b.size/\N+c.1+c.2.1≤a.size+b.size
abbrev MgS:=Option (Array Keyed)×Array Keyed×Nat×Nat×Nat×Nat×Nat
def lo2(a b out:Array Keyed)(f g n x y:Nat):StateT abq Sem (ForInStep MgS):=do
 let v <- elem' a f
 if (f+1+1==a.size)=true then pure (.done (some (out.push v++b.extract g b.size++a.extract (f+1) a.size),out.push v,f+1,g,n,x,y))
 else if (decide (x<7)&&decide (y<7))=true then pure (.done (none,out.push v,f+1,g,n,x,y))
 else pure (.yield (none,out.push v,f+1,g,n,x,y))
def lo1(a b out:Array Keyed)(f g n x y:Nat):StateT abq Sem (ForInStep MgS):=do
 let v <- elem' b g
 if (g+1==b.size)=true then pure (.done (some (out.push v++a.extract f a.size++b.extract (g+1) b.size),out.push v,f,g+1,n,x,y))
 else do
  let u <- elem' a f
  let some k <- gal true u b (g+1) (b.size-(g+1)) 0|return .done (some (out.push v++a.extract f a.size++b.extract (g+1) b.size),out.push v,f,g+1,n,x,y)
  if k>0 then
   if (g+1+k==b.size)=true then pure (.done (some (out.push v++b.extract (g+1) (g+1+k)++a.extract f a.size++b.extract (g+1+k) b.size),out.push v++b.extract (g+1) (g+1+k),f,g+1+k,n,x,k))
   else lo2 a b (out.push v++b.extract (g+1) (g+1+k)) f (g+1+k) n x k
  else lo2 a b (out.push v) f (g+1) n x k
def loI(a b out:Array Keyed)(f g n x y:Nat):StateT abq Sem (ForInStep (Option (Array Keyed)×Array Keyed×Nat×Nat×Nat×Nat)):=do
 let u <- elem' b g
 let v <- elem' a f
 let some z <- lt' u v|return .done (some (out++a.extract f a.size++b.extract g b.size),out,f,g,x,y)
 if z=true then do
  let v <- elem' b g
  if (g+1==b.size)=true then pure (.done (some (out.push v++a.extract f a.size++b.extract (g+1) b.size),out.push v,f,g+1,0,y+1))
  else if y+1≥n then pure (.done (none,out.push v,f,g+1,0,y+1))
  else pure (.yield (none,out.push v,f,g+1,0,y+1))
 else do
  let v <- elem' a f
  if (f+1+1==a.size)=true then pure (.done (some (out.push v++b.extract g b.size++a.extract (f+1) a.size),out.push v,f+1,g,x+1,0))
  else if x+1≥n then pure (.done (none,out.push v,f+1,g,x+1,0))
  else pure (.yield (none,out.push v,f+1,g,x+1,0))
def lo0(a b out:Array Keyed)(f g n x y:Nat):StateT abq Sem (ForInStep MgS):=do
 sMG n
 let u <- elem' b g
 let some k <- gal false u a f (a.size-f) 0|return .done (some (out++a.extract f a.size++b.extract g b.size),out,f,g,n,x,y)
 if k>0 then
  if (f+k+1==a.size)=true then pure (.done (some (out++a.extract f (f+k)++b.extract g b.size++a.extract (f+k) a.size),out++a.extract f (f+k),f+k,g,n,k,y))
  else if (f+k==a.size)=true then pure (.done (some (out++a.extract f (f+k)++a.extract (f+k) a.size++b.extract g b.size),out++a.extract f (f+k),f+k,g,n,k,y))
  else lo1 a b (out++a.extract f (f+k)) (f+k) g n k y
 else lo1 a b out f g n k y
variable {a b out:Array Keyed}{f g n x y N:Nat}
theorem Ac(M:Mg tot out.toList (a.toList.drop f) (b.toList.drop g))(p:f+1<a.size)(q:g<b.size)(h:N≤f+g):wpS (model prog w) A E s (lo2 a b out f g n x y) (SO tot st (Lp tot a b N) (Lp tot a b N)) (setG st m):=by
 have p0:f<a.size:=aeh p;have d:=M.push p0;refine dQ p0 (bI (λz=>cX d.sym.done) λz=>?_);simp only[beq_iff_eq]at z;exact bI (λ_=>jZ ⟨d,by show f+1+1<_;omega,q,by show N≤f+1+g;omega⟩) λ_=>xO ⟨d,by show f+1+1<_;omega,q,by show N≤f+1+g;omega⟩
variable {o:afO}{p:List Keyed}
theorem zL(T:Two prog w A s o p a b st)(M:Mg tot out.toList (a.toList.drop f) (b.toList.drop g))(d:f+1<a.size)(h:g<b.size)(r:N≤f+g):wpS (model prog w) A E s (lo1 a b out f g n x y) (SO tot st (Lp tot a b N) (Lp tot a b N)) (setG st m):=by
 have p0:f<a.size:=aeh d;have e:=(M.sym.push h).sym;refine dQ h (bI (λz=>cX e.done) λz=>?_);simp only[beq_iff_eq]at z;refine dQ p0 (pj T.o T.hk (T.ma _ (memK p0)) (by omega) (by omega) T.mb λk k1=>bI (λc=>?_) λc=>Ac e d (by omega) (by omega));have q:=(e.sym.ext (k:=k)).sym;refine bI (λz=>cX q.done) λz=>Ac q d ?_ (by omega);simp only[beq_iff_eq]at z;omega
theorem LH(T:Two prog w A s o p a b st){c:Array Keyed×Nat×Nat×Nat×Nat}(J:SJ st (Lp tot a b (N+j)) (none,c) st'):wpS (model prog w) A E s (loI a b c.1 c.2.1 c.2.2.1 n c.2.2.2.1 c.2.2.2.2) (SO tot st (Lp tot a b (N+1)) (Lp tot a b (N+(j+1)))) st':=by
 let⟨out,f,g,x,y⟩:=c;let⟨_,⟨m,rfl⟩,M,h,d,k⟩:=J;dsimp only at M h d k;have p0:f<a.size:=aeh h;refine dQ d (dQ p0 (Jz T.o T.hk (T.mb _ (memK d)) (T.ma _ (memK p0)) λe=>?_));cases e
 .have M':=M.push p0;refine dQ p0 (bI (λz=>cX M'.sym.done) λz=>?_);simp only[beq_iff_eq]at z;exact bI (λ_=>jZ ⟨M',by show f+1+1<_;omega,d,by show N+1≤f+1+g;omega⟩) λ_=>xO ⟨M',by show f+1+1<_;omega,d,by show N+(j+1)≤f+1+g;omega⟩
 .have M':=(M.sym.push d).sym;refine dQ d (bI (λz=>cX M'.done) λz=>?_);simp only[beq_iff_eq]at z;exact bI (λ_=>jZ ⟨M',h,by show g+1<_;omega,by show N+1≤f+(g+1);omega⟩) λ_=>xO ⟨M',h,by show g+1<_;omega,by show N+(j+1)≤f+(g+1);omega⟩
theorem KZ(T:Two prog w A s o p a b st){c:Array Keyed×Nat×Nat×Nat×Nat×Nat}{v:Nat}{d:Prop}[Decidable d](J:SJ st (Lp tot a b N) (none,c) st'):wpS (model prog w) A E s (if d then lo0 a b c.1 c.2.1 c.2.2.1 n c.2.2.2.2.1 c.2.2.2.2.2 else lo0 a b c.1 c.2.1 c.2.2.1 v c.2.2.2.2.1 c.2.2.2.2.2) (SO tot st (Lp tot a b N) (Lp tot a b N)) st':=by
 let⟨out,f,g,C,x,y⟩:=c;let⟨_,⟨m,rfl⟩,M,h,e,u⟩:=J;dsimp only at M h e u;have p0:f<a.size:=aeh h;dsimp only;refine bI (λ_=>?_) λ_=>?_
 all_goals
  refine vF (dQ e (pj T.o T.hk (T.mb _ (memK e)) (by omega) (by omega) T.ma λk k1=>bI (λc=>?_) λc=>zL T M h e u));have q:=M.ext (k:=k);refine bI (λz=>cX q.sym.done) λz=>bI (λr=>cX q.done) λr=>?_;simp only[beq_iff_eq]at z r;exact zL T q (by omega) e (by omega)
theorem O7(T:Two prog w A s o p a b st)(M:Mg tot [] a.toList b.toList)(C:0<a.size)(u:0<b.size)(h:∀r m,r.toList.Perm tot->Q r (setG st m)):wpS (model prog w) A E s (mLo a b) Q st:=by
 have v:Mg tot (#[]:Array Keyed).toList (a.toList.drop 0) (b.toList.drop 0):=M;have d:=(v.sym.push u).sym;apply aaE;refine afP (abI ⟨rfl,?_⟩);dsimp only;refine dQ u ?_;refine bI (λz=>aaK (h _ (agw st) d.done)) λz=>bI (λk=>aaK (h _ (agw st) d.sym.done)) λk=>?_;simp only[beq_iff_eq]at z k;refine aaE (aeV (aaE (ab7 (abw (I:=λi c st'=>SJ st (Lp tot a b (i+1)) c st') (Q:=λc st'=>(∃m,st'=setG st m)/\∃r,c.fst=some r/\r.toList.Perm tot) (λi c st' _ _ J=>?_) (λc st' J=>by have:=J.2.2.2;omega) ⟨rfl,⟨agw st,rfl⟩,d,show 0+1<a.size by omega,show 1<b.size by omega,Mt 1⟩) λc st' J=>?_)))
 rotate_left
 .obtain⟨⟨m,rfl⟩,r,e,R⟩:=J;rw[e];exact aaK (h _ _ R)
 refine aaE (ab7 (abw (I:=λj c st'=>SJ st (Lp tot a b (i+1+j)) c st') (Q:=SK tot st (Lp tot a b (i+1+1))) (λj c st' _ _ J=>ab7 (LH T ⟨rfl,J.2⟩) λr st' h=>by obtain⟨c,⟨rfl,h⟩|⟨rfl,h⟩⟩:=h<;>exact h) (λc st' J=>⟨J.2.1,.inl ⟨J.1,J.2.2.1,J.2.2.2.1,J.2.2.2.2.1,by have:=J.2.2.2;omega⟩⟩) ⟨rfl,J.2⟩) λc st' J=>J.2.elim (λq=>?_) λq=>?_)
 rotate_left
 .obtain⟨r,e,R⟩:=q;rw[e];exact aaK ⟨J.1,_,rfl,R⟩
 rw[q.1];apply aaE;refine afP (abI ⟨rfl,?_⟩);refine aaE (ab7 (abw (I:=λ_ c st'=>SJ st (Lp tot a b (i+1+1)) c st') (Q:=SK tot st (Lp tot a b (i+1+1))) (λj c st' _ _ J=>ab7 (KZ T ⟨rfl,J.2⟩) λr st' h=>by obtain⟨c,⟨rfl,h⟩|⟨rfl,h⟩⟩:=h<;>exact h) (λc st' J=>⟨J.2.1,.inl ⟨J.1,J.2.2⟩⟩) ⟨rfl,J.1,q.2⟩) λc st' J=>J.2.elim (λq=>?_) λq=>?_)
 rotate_left
 .obtain⟨r,e,R⟩:=q;rw[e];exact aaK ⟨J.1,_,rfl,R⟩
 rw[q.1];let⟨⟨m,rfl⟩,_⟩:=J;exact vF (aaK ⟨rfl,⟨_,rfl⟩,q.2⟩)
end
abbrev MhS:=Option (Array Keyed)×Nat×Nat×Array Keyed×Nat×Nat×Nat
def hi2(a b out:Array Keyed)(c nb n x y:Nat):StateT abq Sem (ForInStep MhS):=do
 let v <- elem' a (c-1)
 if (c-1==0)=true then pure (.done (some (a.extract 0 (c-1)++b.extract 0 nb++(out.push v).reverse),c-1,nb,out.push v,n,x,y))
 else if (decide (x<7)&&decide (y<7))=true then pure (.done (none,c-1,nb,out.push v,n,x,y))
 else pure (.yield (none,c-1,nb,out.push v,n,x,y))
def hi1(a b out:Array Keyed)(c nb n x y:Nat):StateT abq Sem (ForInStep MhS):=do
 let v <- elem' b (nb-1)
 if (nb-1==1)=true then pure (.done (some (b.extract 0 (nb-1)++a.extract 0 c++(out.push v).reverse),c,nb-1,out.push v,n,x,y))
 else do
  let u <- elem' a (c-1)
  let some k <- gal true u b 0 (nb-1) (nb-1-1)|return .done (some (a.extract 0 c++b.extract 0 (nb-1)++(out.push v).reverse),c,nb-1,out.push v,n,x,y)
  if nb-1-k>0 then
   if (k==1)=true then pure (.done (some (b.extract 0 k++a.extract 0 c++(out.push v++(b.extract k (nb-1)).reverse).reverse),c,k,out.push v++(b.extract k (nb-1)).reverse,n,x,nb-1-k))
   else if (k==0)=true then pure (.done (some (a.extract 0 c++b.extract 0 k++(out.push v++(b.extract k (nb-1)).reverse).reverse),c,k,out.push v++(b.extract k (nb-1)).reverse,n,x,nb-1-k))
   else hi2 a b (out.push v++(b.extract k (nb-1)).reverse) c k n x (nb-1-k)
  else hi2 a b (out.push v) c (nb-1) n x (nb-1-k)
def hiI(a b out:Array Keyed)(c nb n x y:Nat):StateT abq Sem (ForInStep (Option (Array Keyed)×Nat×Nat×Array Keyed×Nat×Nat)):=do
 let u <- elem' b (nb-1)
 let v <- elem' a (c-1)
 let some z <- lt' u v|return .done (some (a.extract 0 c++b.extract 0 nb++out.reverse),c,nb,out,x,y)
 if z=true then do
  let v <- elem' a (c-1)
  if (c-1==0)=true then pure (.done (some (a.extract 0 (c-1)++b.extract 0 nb++(out.push v).reverse),c-1,nb,out.push v,x+1,0))
  else if x+1≥n then pure (.done (none,c-1,nb,out.push v,x+1,0))
  else pure (.yield (none,c-1,nb,out.push v,x+1,0))
 else do
  let v <- elem' b (nb-1)
  if (nb-1==1)=true then pure (.done (some (b.extract 0 (nb-1)++a.extract 0 c++(out.push v).reverse),c,nb-1,out.push v,0,y+1))
  else if y+1≥n then pure (.done (none,c,nb-1,out.push v,0,y+1))
  else pure (.yield (none,c,nb-1,out.push v,0,y+1))
def hi0(a b out:Array Keyed)(c nb n x y:Nat):StateT abq Sem (ForInStep MhS):=do
 sMG n
 let u <- elem' b (nb-1)
 let some k <- gal false u a 0 c (c-1)|return .done (some (a.extract 0 c++b.extract 0 nb++out.reverse),c,nb,out,n,x,y)
 if c-k>0 then
  if (k==0)=true then pure (.done (some (a.extract 0 k++b.extract 0 nb++(out++(a.extract k c).reverse).reverse),k,nb,out++(a.extract k c).reverse,n,c-k,y))
  else hi1 a b (out++(a.extract k c).reverse) k nb n (c-k) y
 else hi1 a b out c nb n (c-k) y
section
variable {prog:aaF}{w:World}{A:aa4}{E:mT->AD->Prop}{s:AD}{tot:List Keyed}{st:abq}{m:Nat}{a b out:Array Keyed}{f nb n x y N:Nat}
theorem AY(M:Mg tot out.toList (ta a (f+1)) (ta b nb))(p:f<a.size)(q:1<nb)(e:nb≤b.size)(h:N+f+nb≤a.size+b.size):wpS (model prog w) A E s (hi2 a b out (f+1) nb n x y) (SO tot st (Hq tot a b N) (Hq tot a b N)) (setG st m):=by
 have c:=M.pushH p;refine dQ p (bI (λz=>cX c.doneH) λz=>?_);have d:0<f:=by simp only[beq_iff_eq]at z;omega
 exact bI (λ_=>jZ ⟨c,d,q,abP p,e,h⟩) λ_=>xO ⟨c,d,q,abP p,e,h⟩
variable {g:afO}{l:List Keyed}
theorem Ab(T:Two prog w A s g l a b st)(M:Mg tot out.toList (ta a (f+1)) (ta b (nb+1)))(p:f<a.size)(r:nb<b.size)(v:0<nb)(D:N+f+nb≤a.size+b.size):wpS (model prog w) A E s (hi1 a b out (f+1) (nb+1) n x y) (SO tot st (Hq tot a b N) (Hq tot a b N)) (setG st m):=by
 have d:=(M.sym.pushH r).sym;refine dQ r (bI (λz=>cX d.sym.doneH) λz=>?_);have q:1<nb:=by
  have t:¬(nb==1)=true:=z;simp only[beq_iff_eq]at t;omega
 refine dQ p (pj T.o T.hk (T.ma _ (memK p)) (by omega) (by omega) T.mb λk k1=>bI (λc=>?_) λc=>?_)
 .have M3:=(d.sym.extH (k:=k) k1).sym;refine bI (λz=>cX M3.sym.doneH) λz=>bI (λh=>cX M3.doneH) λh=>AY M3 p ?_ (by omega) (by omega);simp only[beq_iff_eq]at z h;omega
 .have e:k=nb:=by
   have C:¬nb-k>0:=c;have u:k≤nb:=k1;omega
  subst e;exact AY d p q (by omega) (by omega)
theorem Nq(T:Two prog w A s g l a b st){c:Nat×Nat×Array Keyed×Nat×Nat}(J:SJ st (Hq tot a b (N+j)) (none,c) st'):wpS (model prog w) A E s (hiI a b c.2.2.1 c.1 c.2.1 n c.2.2.2.1 c.2.2.2.2) (SO tot st (Hq tot a b (N+1)) (Hq tot a b (N+(j+1)))) st':=by
 let⟨u,t,out,x,y⟩:=c;let⟨_,⟨m,rfl⟩,M,h,k,d,p,v⟩:=J;dsimp only at M h k d p v;let⟨f,rfl⟩:∃n,u=n+1:=⟨u-1,by omega⟩;let⟨nb,rfl⟩:∃n,t=n+1:=⟨t-1,by omega⟩;refine dQ (i:=nb) p (dQ (i:=f) d (Jz T.o T.hk (T.mb _ (memK p)) (T.ma _ (memK d)) λe=>?_));cases e
 .have M':=(M.sym.pushH p).sym;refine dQ (i:=nb) p (bI (λz=>cX M'.sym.doneH) λz=>?_);have q:1<nb:=by
   have r:¬(nb==1)=true:=z;simp only[beq_iff_eq]at r;omega
  exact bI (λ_=>jZ ⟨M',h,q,d,abP p,show N+1+(f+1)+nb≤_ by omega⟩) λ_=>xO ⟨M',h,q,d,abP p,show N+(j+1)+(f+1)+nb≤_ by omega⟩
 .have M':=M.pushH d;refine dQ (i:=f) d (bI (λz=>cX M'.doneH) λz=>?_);have q:0<f:=by
   have r:¬(f==0)=true:=z;simp only[beq_iff_eq]at r;omega
  exact bI (λ_=>jZ ⟨M',q,k,abP d,p,show N+1+f+(nb+1)≤_ by omega⟩) λ_=>xO ⟨M',q,k,abP d,p,show N+(j+1)+f+(nb+1)≤_ by omega⟩
theorem Jh(T:Two prog w A s g l a b st){c:Nat×Nat×Array Keyed×Nat×Nat×Nat}{r:Nat}{d:Prop}[Decidable d](J:SJ st (Hq tot a b N) (none,c) st'):wpS (model prog w) A E s (if d then hi0 a b c.2.2.1 c.1 c.2.1 n c.2.2.2.2.1 c.2.2.2.2.2 else hi0 a b c.2.2.1 c.1 c.2.1 r c.2.2.2.2.1 c.2.2.2.2.2) (SO tot st (Hq tot a b N) (Hq tot a b N)) st':=by
 let⟨q,h,out,F,x,y⟩:=c;let⟨_,⟨m,rfl⟩,M,t,u,v,p,C⟩:=J;dsimp only at M t u v p C;let⟨f,rfl⟩:∃n,q=n+1:=⟨q-1,by omega⟩;let⟨nb,rfl⟩:∃n,h=n+1:=⟨h-1,by omega⟩;dsimp only;refine bI (λ_=>?_) λ_=>?_
 all_goals
  refine vF (dQ (i:=nb) p (pj T.o T.hk (T.mb _ (memK p)) (by omega) (by omega) T.ma λk k1=>bI (λc=>?_) λc=>?_))
  .have M1:=M.extH (k:=k) k1;refine bI (λz=>cX M1.doneH) λz=>?_;let⟨D,rfl⟩:∃n,k=n+1:=⟨k-1,by simp only[beq_iff_eq]at z;omega⟩;exact Ab T M1 (by omega) p (by omega) (by omega)
  .have e:k=f+1:=by omega
   subst e;exact Ab T M (by omega) p (by omega) (by omega)
theorem OX(T:Two prog w A s g l a b st)(M:Mg tot [] a.toList b.toList)(D:0<a.size)(C:0<b.size)(h:∀r m,r.toList.Perm tot->Q r (setG st m)):wpS (model prog w) A E s (mHi a b) Q st:=by
 let⟨d,t⟩:∃n,a.size=n+1:=⟨a.size-1,by omega⟩;have u:∀c:Array Keyed,ta c c.size=c.toList.reverse:=λc=>by simp[ta,ac3]
 have v:Mg tot (#[]:Array Keyed).toList (ta a (d+1)) (ta b b.size):=by
  rw[<-t,u,u];exact((afs _).append (afs _)).trans M
 have k:=v.pushH (by omega);apply aaE;refine afP (abI ⟨rfl,?_⟩);dsimp only;rw[t];refine dQ (i:=d+1-1) (by omega) ?_;refine bI (λz=>aaK (h _ (agw st) k.doneH)) λz=>bI (λp=>aaK (h _ (agw st) k.sym.doneH)) λp=>?_;simp only[beq_iff_eq]at z p;refine aaE (aeV (aaE (ab7 (abw (I:=λi c st'=>SJ st (Hq tot a b (i+1)) c st') (Q:=λc st'=>(∃m,st'=setG st m)/\∃r,c.fst=some r/\r.toList.Perm tot) (λi c st' _ _ J=>?_) (λc st' J=>by have:=J.2.2.2;omega) ⟨rfl,⟨agw st,rfl⟩,k,show 0<d by omega,show 1<b.size by omega,show d≤a.size by omega,Mt _,show 0+1+d+b.size≤_ by omega⟩) λc st' J=>?_)))
 rotate_left
 .obtain⟨⟨m,rfl⟩,r,e,R⟩:=J;rw[e];exact aaK (h _ _ R)
 refine aaE (ab7 (abw (I:=λj c st'=>SJ st (Hq tot a b (i+1+j)) c st') (Q:=SK tot st (Hq tot a b (i+1+1))) (λj c st' _ _ J=>ab7 (Nq T ⟨rfl,J.2⟩) λr st' h=>by obtain⟨c,⟨rfl,h⟩|⟨rfl,h⟩⟩:=h<;>exact h) (λc st' J=>⟨J.2.1,.inl ⟨J.1,J.2.2.1,J.2.2.2.1,J.2.2.2.2.1,J.2.2.2.2.2.1,J.2.2.2.2.2.2.1,by have:=J.2.2.2;omega⟩⟩) ⟨rfl,J.2⟩) λc st' J=>J.2.elim (λq=>?_) λq=>?_)
 rotate_left
 .obtain⟨r,e,R⟩:=q;rw[e];exact aaK ⟨J.1,_,rfl,R⟩
 rw[q.1];apply aaE;refine afP (abI ⟨rfl,?_⟩);refine aaE (ab7 (abw (I:=λ_ c st'=>SJ st (Hq tot a b (i+1+1)) c st') (Q:=SK tot st (Hq tot a b (i+1+1))) (λj c st' _ _ J=>ab7 (Jh T ⟨rfl,J.2⟩) λr st' h=>by obtain⟨c,⟨rfl,h⟩|⟨rfl,h⟩⟩:=h<;>exact h) (λc st' J=>⟨J.2.1,.inl ⟨J.1,J.2.2⟩⟩) ⟨rfl,J.1,q.2⟩) λc st' J=>J.2.elim (λq=>?_) λq=>?_)
 rotate_left
 .obtain⟨r,e,R⟩:=q;rw[e];exact aaK ⟨J.1,_,rfl,R⟩
 rw[q.1];let⟨⟨m,rfl⟩,_⟩:=J;exact vF (aaK ⟨rfl,⟨_,rfl⟩,q.2⟩)
end
def wr(sa:Nat)(l:List (Keyed×Nat))(a:Array Keyed):Array Keyed:=l.foldl (λa x=>a.setIfInBounds (sa+x.2) x.1) a
theorem Bp(sa:Nat):∀(l:List Keyed) (k:Nat) (a:Array Keyed),sa+k+l.length≤a.size->(wr sa (l.zipIdx k) a).toList=a.toList.take (sa+k)++l++a.toList.drop (sa+k+l.length)
 |[],k,a,h=>by simp[wr]
 |x::l,k,a,h=>by
  have c:sa+k+(l.length+1)≤a.size:=h;have e:=Bp sa l (k+1) (a.setIfInBounds (sa+k) x) (by simp;omega);show(wr sa (l.zipIdx (k+1)) (a.setIfInBounds (sa+k) x)).toList=_;rw[e,afc,List.drop_set_of_lt (by omega),<-adO,List.take_succ,List.take_set_of_le (Mt _),aaX (by simp;omega),aaA];simp[Nat.add_comm,Nat.add_left_comm]
theorem J4{r:Array Keyed}{h:Nat}(c:lo≤h)(f:h≤a.size)(p:r.toList.Perm (a.extract lo h).toList):(wr lo r.toList.zipIdx a).toList.Perm a.toList:=by
 have n:r.toList.length=h-lo:=by rw[p.length_eq];simp;omega
 have e:=Bp lo r.toList 0 a (by omega);rw[Nat.add_zero,n,show lo+(h-lo)=h by omega]at e;have d:a.toList=a.toList.take lo++(a.extract lo h).toList++a.toList.drop h:=by
  rw[aeE];show _=_++agB (h-lo) (List.drop lo _)++_;rw[show a.toList.drop h=(a.toList.drop lo).drop (h-lo) by rw[List.drop_drop,show lo+(h-lo)=h by omega],aaU,adh,adh]
 rw[e]
 conv=>rhs;rw[d]
 exact(p.append_left _).append_right _
def JK(h:x∈(a.extract i j).toList):x∈a.toList:=by
 rw[aeE]at h;exact List.mem_of_mem_drop (acp h)
def Ch:Nat->List (Nat×Nat×Nat)->Nat->Prop
 |lo,[],hi=>lo=hi
 |lo,p::rs,hi=>p.1=lo/\0<p.2.1/\Ch (lo+p.2.1) rs hi
theorem Ch.le:∀{l:List (Nat×Nat×Nat)}{lo c:Nat},Ch lo l c->lo+l.length≤c
 |[],lo,c,h=>by rw[show lo=c from h];exact Mt _
 |p::l,lo,c,h=>by have:=Ch.le h.2.2;have:=h.2.1;rw[aaA];omega
theorem Ch.app:∀{l k:List (Nat×Nat×Nat)}{lo c:Nat},Ch lo (l++k) c->∃m,Ch lo l m/\Ch m k c
 |[],k,lo,c,h=>⟨lo,rfl,h⟩
 |p::l,k,lo,c,h=>by
  let⟨m,e,d⟩:=Ch.app h.2.2;exact⟨m,⟨h.1,h.2.1,e⟩,d⟩
theorem Ch.cat:∀{l k:List (Nat×Nat×Nat)}{lo m c:Nat},Ch lo l m->Ch m k c->Ch lo (l++k) c
 |[],k,lo,m,c,h,h2=>by rw[show lo=m from h];exact h2
 |p::l,k,lo,m,c,h,h2=>⟨h.1,h.2.1,Ch.cat h.2.2 h2⟩
theorem Ch.mod{f:Nat×Nat×Nat->Nat×Nat×Nat}(d:∀x,(f x).1=x.1/\(f x).2.1=x.2.1):∀{l:List (Nat×Nat×Nat)}{k lo c:Nat},Ch lo l c->Ch lo (l.modify k f) c
 |[],k,lo,c,h=>by rw[List.modify_nil];exact h
 |p::l,0,lo,c,h=>by
  rw[List.modify_zero_cons];unfold Ch;rw[(d p).1,(d p).2];exact h
 |p::l,k+1,lo,c,h=>by
  rw[List.modify_succ_cons];exact⟨h.1,h.2.1,Ch.mod d h.2.2⟩
def Ch.push{p:Array (Nat×Nat×Nat)}(h:Ch 0 p.toList lo)(c:0<n):Ch 0 (p.push (lo,n,0)).toList (lo+n):=by
 rw[aef];exact Ch.cat h ⟨rfl,c,rfl⟩
structure SI(κ:afO)(it:List Keyed)(st:abq):Prop where
 pm:(arrOf st).toList.Perm it
 kd:kindOf st=κ
 fl:afb st=none
section
variable {prog:aaF}{w:World}{A:aa4}{E:mT->AD->Prop}{s:AD}{β:Type}{st:abq}
variable {d:afO}{a:List Keyed}
def SI.al(S:SI d a st):∀x∈(arrOf st).toList,x∈a:=λ_ h=>S.pm.mem_iff.mp h
def SI.sz(S:SI d a st):(arrOf st).size=a.length:=by simpa using S.pm.length_eq
variable (O:OrcW prog w A s d a)
include O
theorem Cp{C:Nat}{Q:Bool->abq->Prop}(S:SI d a st)(N:Ch 0 (aaH st).toList C)(hh:C≤(arrOf st).size)(G:i+1<(aaH st).size)
  (h:∀st',SI d a st'->Ch 0 (aaH st').toList C->(aaH st').size+1=(aaH st).size->Q true st'):wpS (model prog w) A E s (mergeAt' i) Q st:=by
 have Z:i+1<(aaH st).toList.length:=by simpa using G
 let⟨t,p,q,F,e,H⟩:∃t p q F,(aaH st).toList=t++p::q::F/\t.length=i:=
  ⟨(aaH st).toList.take i,_,_,(aaH st).toList.drop (i+2),by rw[<-ady (i:=i+1) Z,<-ady (i:=i) (by omega),adh],by rw[aaw];omega⟩
 let⟨sa,c,v⟩:=p;let⟨sb,nb,D⟩:=q;rw[e]at N;let⟨m,V,rfl,n1,rfl,n2,I⟩:=N.app;have le:=I.le;dsimp only at n1 n2 I le;apply aaE;refine aeV ?_;have Y:(aaH st)[i]?=some (sa,c,v):=by rw[<-adi,e,<-H];simp
 have U:(aaH st)[i+1]?=some (sa+c,nb,D):=by rw[<-adi,e,<-H];simp
 have l:∀f m,f.toList.Perm (arrOf st).toList->Q true (afa (kindOf st) f (((aaH st).setIfInBounds i (sa,c+nb,v)).eraseIdxIfInBounds (i+1)) m (afb st)):=λf m o=>by
  have L:(((aaH st).setIfInBounds i (sa,c+nb,v)).eraseIdxIfInBounds (i+1)).toList=t++(sa,c+nb,v)::F:=by
   rw[Array.toList_eraseIdxIfInBounds,afc,e,<-H,List.set_append_right _ _ (Mt _),Nat.sub_self,List.eraseIdx_append_of_length_le (by omega),show t.length+1-t.length=1 by omega];rfl
  refine h _ ⟨o.trans S.pm,S.kd,S.fl⟩ ?_ ?_
  .show Ch 0 (afT _) C;rw[L];exact Ch.cat V ⟨rfl,Nat.add_pos_left n1 _,by rw[<-adO];exact I⟩
  .show Array.size _+1=_;rw[<-abJ,L,<-abJ,e,aaj,aaj];rfl
 have P:∀u,u<(arrOf st).size->pK (arrOf st) u∈a:=λu hu=>S.al _ (memK hu);rw[Y,U];dsimp only;apply aaE;refine C8 ?_;refine dQ (arr:=arrOf st) (i:=sa+c) (by omega) ?_;refine pj (arr:=arrOf st) (base:=sa) O S.kd (P _ (by omega)) n1 (by omega) S.al λk k1=>?_;refine bI (λz=>aaK (l _ _ (.refl _))) λz=>?_;simp only[beq_iff_eq]at z;rw[show sa+k+(c-k)-1=sa+c-1 by omega];refine dQ (arr:=arrOf st) (i:=sa+c-1) (by omega) ?_;refine pj (arr:=arrOf st) (base:=sa+c) O S.kd (P _ (by omega)) (by omega) (by omega) S.al λy m1=>?_;refine bI (λz=>aaK (l _ _ (.refl _))) λW=>?_;simp only[beq_iff_eq]at W;have K:∀(r:Array Keyed) m,r.toList.Perm (((arrOf st).extract (sa+k) (sa+c)).toList++((arrOf st).extract (sa+c) (sa+c+y)).toList)->Q true (afa (kindOf st) (wr (sa+k) r.toList.zipIdx (arrOf st)) (((aaH st).setIfInBounds i (sa,c+nb,v)).eraseIdxIfInBounds (i+1)) m (afb st)):=λr m R=>by
  rw[<-acT,Array.extract_append_extract,show min (sa+k) (sa+c)=sa+k by omega,show max (sa+c) (sa+c+y)=sa+c+y by omega]at R;exact l _ _ (J4 (by omega) (by omega) R)
 have X:(afb st).isNone=true:=by rw[S.fl];rfl
 have J:0<((arrOf st).extract (sa+k) (sa+c)).size:=by simp;omega
 have M:0<((arrOf st).extract (sa+c) (sa+c+y)).size:=by simp;omega
 have al:∀{i j},∀x∈((arrOf st).extract i j).toList,x∈a:=λx T=>S.al x (JK T);refine bI (λ_=>aaE (O7 ⟨O,al,al,by exact S.kd⟩ (.refl _) J M λr m R=>?_)) λ_=>aaE (OX ⟨O,al,al,by exact S.kd⟩ (.refl _) J M λr m R=>?_)
 all_goals
  refine aaE (aet (aaE (aeV (aaK ?_))));show Q ((afb st).isNone) _;rw[X];exact K r m R
theorem AM{Q:β->abq->Prop}{f:Option Bool->StateT abq Sem β}(S:SI d a st)(c:i<(arrOf st).size)(e:j<(arrOf st).size)(h:∀b,wpS (model prog w) A E s (f (some b)) Q st):wpS (model prog w) A E s (ltAt' i j >>= f) Q st:=by
 rw[ltAt'_eq];refine aaE (aaE (aeV ?_));exact dQ c (dQ e (zT O S.kd (S.al _ (memK c)) (S.al _ (memK e)) h))
omit O in
theorem sW{Q:β->abq->Prop}{f:Unit->StateT abq Sem β}(S:SI d a st)(h:∀st',SI d a st'->aaH st'=aaH st->wpS (model prog w) A E s (f ()) Q st'):wpS (model prog w) A E s (reverseSlice' i j >>= f) Q st:=by
 rw[reverseSlice'_eq];refine aaE (aet (h _ ⟨(mirror_perm _ i j _).toList.trans S.pm,S.kd,S.fl⟩ rfl))
theorem Kq{e:Nat}{Q:Option Nat->abq->Prop}(S:SI d a st)(M:1≤e)(N:lo+e≤a.length)
  (h:∀m st',1≤m->m≤e->SI d a st'->aaH st'=aaH st->Q (some m) st'):wpS (model prog w) A E s (countRun' lo e) Q st:=by
 have p:∀{n:Nat}{k:abq} (t:SI d a k) (n1:1≤n) (n2:n≤e) {H:_->abq->Prop},(∀m,1≤m->m≤e->H (none,m) k)->wpS (model prog w) A E s (forIn [n:e] ((none,n):Option (Option Nat)×Nat) λ_ c=>do
   let z <- ltAt' (lo+c.2) (lo+c.2-1)
   match z with
    |some b=>if b=true then pure (.done (none,c.2))else pure (.yield (none,c.2+1))
    |_=>pure (.done (some none,c.2))) H k:=λ{n k} t n1 n2 {H} q=>by
  refine ab7 (abw (I:=λi c st'=>st'=k/\c=(none,i)/\i≤e/\1≤i) (Q:=λc st'=>st'=k/\∃n,c=(none,n)/\1≤n/\n≤e) ?_ ?_ ⟨rfl,rfl,n2,n1⟩) ?_
  .rintro i c st' hi hi2 ⟨rfl,rfl,_,_⟩;have:=t.sz;refine AM O t (by dsimp only;omega) (by dsimp only;omega) λb=>?_;cases b
   .exact aaK ⟨rfl,rfl,hi2,by omega⟩
   .exact aaK ⟨rfl,i,rfl,by omega,by omega⟩
  .rintro c st' ⟨rfl,rfl,_,_⟩;exact⟨rfl,_,rfl,by omega,by omega⟩
  .rintro c st' ⟨rfl,n,rfl,n1,n2⟩;exact q n n1 n2
 rw[countRun'_eq];refine aaE (p S (Mt 1) M λn n1 n2=>?_);dsimp only;refine bI (λy=>aaK (h n _ n1 n2 S rfl)) λy=>?_;simp only[beq_iff_eq]at y;refine bI (λL=>?_) λL=>?_
 any_goals
  have:=S.sz;refine AM O S (by omega) (by omega) λb=>?_;cases b
  rotate_left
  exact aaK (h n _ n1 n2 S rfl);refine bI (λz=>absurd z (by decide)) λ_=>sW S λk t K=>?_
 rotate_left
 have t:=S;have K:aaH st=aaH st:=rfl
 all_goals
  apply aaE;refine afP (abI ⟨rfl,?_⟩);refine aaE (ab7 (abw (I:=λi c f=>(SI d a f/\aaH f=aaH st)/\∃q,c=(none,i,q)/\i≤e) (Q:=λc f=>(SI d a f/\aaH f=aaH st)/\∃n q,c=(none,n,q)/\1≤n/\n≤e) ?_ ?_ ⟨⟨t,K⟩,0,rfl,by omega⟩) ?_)
  .rintro i c f hi hi2 ⟨⟨l,r⟩,q,rfl,_⟩;dsimp only;have:=l.sz;refine AM O l (by omega) (by omega) λb=>?_;cases b
   .refine bI (λz=>absurd z (by decide)) λ_=>AM O l (by omega) (by omega) λb=>?_;cases b
    .exact aaK ⟨⟨l,r⟩,_,rfl,hi2⟩
    .exact aaK ⟨⟨l,r⟩,_,_,rfl,by omega,by omega⟩
   .exact bI (λ_=>bI (λ_=>sW l λF D v=>aaK ⟨⟨D,v.trans r⟩,_,rfl,hi2⟩) λ_=>aaK ⟨⟨l,r⟩,_,rfl,hi2⟩) λz=>absurd rfl z
  .rintro c f ⟨h2,q,rfl,_⟩;exact⟨h2,_,_,rfl,by omega,by omega⟩
  intro c f ⟨⟨l,r⟩,P,q,rfl,J,n4⟩;exact bI (λ_=>sW l λF D v=>sW D λG u C=>aaE (p u J n4 λm m1 m2=>aaK (h m _ m1 m2 u (C.trans (v.trans r))))) λ_=>sW l λG u C=>aaE (p u J n4 λm m1 m2=>aaK (h m _ m1 m2 u (C.trans r)))
theorem JE{ok:Nat}{Q:Bool->abq->Prop}(S:SI d a st)(m:lo+n≤a.length)(h:∀st',SI d a st'->aaH st'=aaH st->Q true st'):wpS (model prog w) A E s (binarySort' lo n ok) Q st:=by
 rw[binarySort'_eq];refine aaE (ab7 (abw (I:=λk c st'=>c=(none,())/\SI d a st'/\aaH st'=aaH st) (Q:=λc st'=>c=(none,())/\SI d a st'/\aaH st'=aaH st) ?_ (λ_ _ q=>q) ⟨rfl,S,rfl⟩) ?_)
 .rintro k c st1 hk hk2 ⟨rfl,S1,e1⟩;have:=S1.sz;dsimp only;refine aaE (ab7 (abw (I:=λi c st'=>st'=st1/\∃l r,c=(none,l,r)/\l≤r/\r≤k) (Q:=λc st'=>st'=st1/\∃l r,c=(none,l,r)/\l≤r/\r≤k) ?_ (λ_ _ q=>q) ⟨rfl,0,k,rfl,by omega,by omega⟩) ?_)
  .rintro i c st' _ hi ⟨rfl,l,r,rfl,e,f⟩;dsimp only;refine bI (λz=>aaK ⟨rfl,l,r,rfl,e,f⟩) λz=>?_;refine AM O S1 (by omega) (by omega) λb=>?_
   cases b<;>exact aaK ⟨rfl,_,_,rfl,by omega,by omega⟩
  intro c st' ⟨rfl,l,r,rfl,e,f⟩;dsimp only;rw[moveDown'_eq];exact aaE (aet (aaK ⟨rfl,⟨(bubble_perm _ _ _).toList.trans S1.pm,S1.kd,S1.fl⟩,e1⟩))
 .rintro c st' ⟨rfl,S1,e1⟩;exact aaK (h _ S1 e1)
theorem L8{Q:Unit->abq->Prop}(S:SI d a st)(K:aaH st = #[])(h:∀st',SI d a st'->Q () st'):wpS (model prog w) A E s sortRuns' Q st:=by
 rw[sortRuns'_eq];refine aaE (aeV ?_);dsimp only;rw[S.sz];refine aaE (ab7 (abw (I:=λi c st'=>∃lo,c=(none,lo)/\SI d a st'/\lo≤a.length/\Ch 0 (aaH st').toList lo) (Q:=λc st'=>∃lo,c=(none,lo)/\SI d a st'/\lo≤a.length/\Ch 0 (aaH st').toList lo) ?_ (λ_ _ q=>q) ⟨0,rfl,S,abm _,by rw[K];exact rfl⟩) ?_)
 .rintro i c st' _ hi ⟨lo,rfl,k,F,C⟩;dsimp only;refine bI (λz=>aaK ⟨_,rfl,k,F,C⟩) λz=>?_;refine aaE (Kq O k (by omega) (by omega) λm G m1 m2 l y=>?_);rw[<-y]at C;dsimp only;refine bI (λu=>?_) λu=>?_;apply aaE;refine afP (abI ⟨rfl,?_⟩);refine aaE (JE O l (by omega) λf D v=>?_);rw[<-v]at C;have r:1≤min (a.length-lo) (minRun' a.length a.length 0):=by omega
  have t:min (a.length-lo) (minRun' a.length a.length 0)≤a.length-lo:=by omega
  clear l y m1 m2 u v
  revert r t
  generalize min (a.length-lo) (minRun' a.length a.length 0)=m;intro m1 m2;rw[if_neg (by decide)]
  rename SI d a f=>l
  rotate_left
  all_goals
   refine aaE (aeV ?_)
   cases eb:(aaH _).back? with
   |none=>exact aaE (aet (aaK ⟨_,rfl,⟨l.pm,l.kd,l.fl⟩,by omega,C.push m1⟩))
   | some p=>
    let⟨s1,L,P⟩:=p;refine aaE (ab7 (abw (I:=λi c f=>c=(none,())/\SI d a f/\Ch 0 (aaH f).toList lo) (Q:=λc f=>c=(none,())/\SI d a f/\Ch 0 (aaH f).toList lo) ?_ (λ_ _ h=>h) ⟨rfl,l,C⟩) ?_)
    .rintro j c f _ _ ⟨rfl,S3,C3⟩;refine aaE (aeV ?_)
     cases e:(if (aaH f).size>1 then(aaH f)[(aaH f).size-2]? else none)with
     |none=>exact aaK ⟨rfl,S3,C3⟩
     | some q=>
      have R:(aaH f).size>1:=by
       by_cases z:(aaH f).size>1
       .exact z
       .rw[if_neg z]at e;cases e
      refine bI (λ_=>aaK ⟨rfl,S3,C3⟩) λ_=>?_;have:=S3.sz;exact aaE (Cp O S3 C3 (by omega) (by omega) λM N H _=>aaK ⟨rfl,N,H⟩)
    .rintro c f ⟨rfl,S3,C3⟩;refine aaE (aet (aaE (aet (aaK ⟨_,rfl,⟨S3.pm,S3.kd,S3.fl⟩,by omega,Ch.push ?_ m1⟩))));show Ch 0 (Array.modify _ _ _).toList lo;rw[Array.toList_modify];refine Ch.mod ?_ C3;exact λ_=>⟨rfl,rfl⟩
 intro c st' ⟨lo,rfl,k,F,C⟩;dsimp only;refine aaE (ab7 (abw (I:=λi c st'=>c=(none,())/\SI d a st'/\Ch 0 (aaH st').toList lo) (Q:=λc st'=>c=(none,())/\SI d a st'/\Ch 0 (aaH st').toList lo) ?_ (λ_ _ h=>h) ⟨rfl,k,C⟩) ?_)
 .rintro i c st' _ hi ⟨rfl,k,C⟩;refine aaE (aeV ?_);refine bI (λz=>aaK ⟨rfl,k,C⟩) λz=>?_;have:=k.sz;exact aaE (Cp O k C (by omega) (by split<;>(try split)<;>omega) λf D J n2=>aaK ⟨rfl,D,J⟩)
 intro c st' ⟨rfl,k,C⟩;exact aaK (h _ k)
end
section
variable {prog:aaF}{w:World}{A:aa4}{E:mT->AD->Prop}{s:AD}
def Km(h h':aaW):Prop:=∀b o,h.get? b=some o->o.cls = .type "tuple" -> h'.get? b=some o
theorem vN{h h':aaW}{k:Nat}(K:Km h h')(I:∀x y u as,x.depth≤k->smD x y=true->Reads h u x as->∃bs,Reads h' u x bs):∀(xs ys:List aD) us as,aax xs≤k->smDs xs ys=true->adK h us xs as->∃bs,adK h' us xs bs
 |[],ys,us,as,_,_,r=>by cases r;exact⟨[],.nil⟩
 | x::xs,ys,us,as,hk,sm,r=>by
  cases ys with
  |nil=>exact absurd sm (by simp only[smDs];decide)
  | cons y ys=>
   simp[smDs]at sm;have c:max x.depth _≤k:=hk
   cases r with
   |cons r1 e=>
    let⟨b1,d⟩:=I x y _ _ (by omega) sm.1 r1;let⟨b2,q⟩:=vN K I xs ys _ _ (by omega) sm.2 e;exact⟨_,.cons d q⟩
theorem yE{h h':aaW}(K:Km h h'):∀(k:Nat) (x y:aD) (u:mT) (as:List Addr),x.depth≤k->smD x y=true->Reads h u x as->∃bs,Reads h' u x bs
 |k,.int a,y,u,as,_,_,r=>by cases r;exact⟨_,.int _ _⟩
 |0,.tuple xs,y,u,as,hk,_,_=>absurd hk (by show ¬aax xs+1≤0;contradiction)
 | k+1,.tuple xs,y,u,as,hk,sm,r=>by
  cases y with
  | tuple d=>
   have f:aax xs+1≤k+1:=hk
   cases r with
   |tuple e c q z=>
    let⟨bs,l⟩:=vN K (yE K k) xs d _ _ (by omega) sm z;exact⟨_,.tuple (K _ _ e c) c q l⟩
  |_=>exact absurd sm (by simp only[smD];decide)
 |k,.none,y,u,as,_,sm,_=>absurd sm (by simp only[smD];decide)
 |k,.bool _,y,u,as,_,sm,_=>absurd sm (by simp only[smD];decide)
 |k,.str _,y,u,as,_,sm,_=>absurd sm (by simp only[smD];decide)
 |k,.list _,y,u,as,_,sm,_=>absurd sm (by simp only[smD];decide)
 |k,.dict _,y,u,as,_,sm,_=>absurd sm (by simp only[smD];decide)
theorem zW{f r:Bool}{Q:Bool->AD->Prop}(q:Q r s):∀(ps:List (mT×mT)) (i:Nat),zm A s f r ps->KatLex prog w A false f Q ps i s
 |[],i,h=>kat_nil (by have c:=h;rw[<-c];exact q)
 |p::ps,i,⟨e,he,h1,h2⟩=>by
  refine kat_cons (he prog w _ _ ?_)
  cases e with
  |true=>exact kat_yes (zW q ps _ (h1 rfl))
  |false=>exact kat_no (kat_one _ _ (h2 rfl prog w _ _ q))
def RdL(h:aaW):List mT->List aD->Prop
 |[],[]=>True
 |v::vs,d::ds=>(∃c,Reads h v d c)/\RdL h vs ds
 |_,_=>False
theorem RdL.len{h:aaW}:∀{vs:List mT}{ds:List aD},RdL h vs ds->vs.length=ds.length
 |[],[],_=>rfl
 |v::vs,d::ds,t=>by rw[aaA,aaA,RdL.len t.2]
 |[],_::_,t=>t.elim
 |_::_,[],t=>t.elim
theorem RdL.get{h:aaW}:∀{vs:List mT}{ds:List aD}{i:Nat},RdL h vs ds->i<vs.length->∃as,Reads h (vs.getD i .none) (ds.getD i .none) as
 |[],[],_,_,z=>by simp at z
 |v::vs,d::ds,0,t,_=>t.1
 |v::vs,d::ds,i+1,t,z=>by
  rw[List.getD_cons_succ];exact RdL.get t.2 (by simp_all)
 |[],_::_,_,t,_=>(t.elim)
 |_::_,[],_,t,_=>(t.elim)
def tt1:aD->Bool
 | .tuple (.tuple _::_)=>true
 |_=>false
theorem BQ{h:aaW}:∀{vs:List mT}{ds:List aD},RdL h vs ds->(∀d∈ds,tt1 d=true)->∃fs,KatTups h vs fs/\fs.length=vs.length/\∀v∈fs,∃b o,v = .ref b/\h.get? b=some o/\o.cls = .type "tuple"
 |[],[],_,_=>⟨[],.nil,rfl,λ_ h=>by cases h⟩
 | v::vs,d::ds,⟨⟨as,r⟩,t⟩,hd=>by
  let⟨fs,k1,k2,p⟩:=BQ t λx k=>hd x (LD _ k);have l:=hd d aaa;let⟨y,m,rfl⟩:∃y m,d = .tuple (.tuple y::m):=by
   unfold tt1 at l
   split at l
   .exact⟨_,_,rfl⟩
   .cases l
  cases r with
  | tuple e c q z=>
   rename_i a o f n;generalize G:f.toList=L at z
   cases z with
   | cons r1 M=>
    rename_i u I F bs;have C:f[0]?=some u:=by
     rw[<-adi,G];rfl
    cases r1 with
    |tuple D H K J=>
     refine⟨_::fs,.cons e c q C k1,by rw[aaA,aaA,k2],λx k=>?_⟩;exact(aaf.mp k).elim (λz=>by subst z;exact⟨_,_,rfl,D,H⟩) (p x)
 |[],_::_,t,_=>t.elim
 |_::_,[],t,_=>t.elim
theorem RdL.keep{h h':aaW}(K:Km h h'):∀{vs:List mT}{ds:List aD},(∀d∈ds,smD d d=true)->RdL h vs ds->RdL h' vs ds
 |[],[],_,_=>trivial
 |v::vs,d::ds,hs,⟨⟨as,r⟩,t⟩=>⟨yE K d.depth d d v as (Mt _) (hs d aaa) r,RdL.keep K (λx c=>hs x (LD _ c)) t⟩
 |[],_::_,_,t=>t.elim
 |_::_,[],_,t=>t.elim
structure SrtOk(ds:List aD):Prop where
 n:ds.length<100000
 sm:∀x∈ds,∀y∈ds,smD x y=true
 tt:∀x∈ds,tt1 x=true
 dp:∀x∈ds,x.depth≤7
theorem PK{u v:mT}{x y:aD}{as bs:List Addr}{Q:Bool->AD->Prop}(r1:Reads s.heap u x as)(r2:Reads s.heap v y bs)(sm:smD x y=true)(d:tt1 x=true)(t:tt1 y=true)(r:A.units+x.depth<cLine)(h:Q (ltD x y) s):wpAny (model prog w) A (keyLt' (tuples' false) u v) Q E s:=by
 let⟨a1,b1,rfl⟩:∃a b,x = .tuple (.tuple a::b):=by
  unfold tt1 at d
  split at d
  .exact⟨_,_,rfl⟩
  .cases d
 let⟨a2,b2,rfl⟩:∃a b,y = .tuple (.tuple a::b):=by
  unfold tt1 at t
  split at t
  .exact⟨_,_,rfl⟩
  .cases t
 cases r1 with
 | tuple e c q z=>
  cases r2 with
  |tuple l F p m=>
   have f:A.units+(aax _+1)<cLine:=r;let⟨D,C⟩:=mX (wF _) A s _ _ _ _ _ _ (Mt _) z m sm (by exact abP ‹_›);have k:Q (ltDs (.tuple a1::b1) _) s:=h;refine kat_lt e q l p (zW k _ 0 ?_)
   grind
def ordP(ds:List aD)(p:List Nat):Prop:=p.Perm (aaz ds.length)
theorem LS{t β:Type}{f:β->t}{l m:List t}(h:l.Perm m):∀{r:List β},m=r.map f->∃q:List β,q.Perm r/\l=q.map f:=by
 induction h with
 |nil=>exact λ{r} e=>⟨r,.refl _,e⟩
 | cons x _ v=>
  intro r e
  cases r with
  |nil=>cases e
  |cons y r=>
   let⟨k,d⟩:=afC e;let⟨q,p,c⟩:=v d;exact⟨y::q,p.cons _,by rw[k,c];rfl⟩
 | swap x y l=>
  intro r e
  match r,e with
  |a::b::r,e=>
   let⟨k,d⟩:=afC e;let⟨c,z⟩:=afC d;exact⟨b::a::r,.swap _ _ _,by rw[k,c,z];rfl⟩
 |trans _ _ C F=>
  intro r e;let⟨q,p,d⟩:=F e;let⟨D,u,c⟩:=C d;exact⟨D,u.trans p,c⟩
theorem JC(r6:RdL s.heap vs ds)(ok:SrtOk ds)(z:A.units+7<cLine) :
  wpAny (model prog w) A ((sortRuns').run (afa (tuples' false) (vs.toArray.zip vs.toArray) #[] 7 none)) (λr s'=>∃q:List Nat,ordP ds q/\(arrOf r.2).map (·.2)=(q.map λi=>vs.getD i .none).toArray/\q.length=vs.length/\afb r.2=none/\s'=s) E s:=by
 have h:=r6.len;have k:(vs.toArray.zip vs.toArray).toList=(aaz ds.length).map λi=>(vs.getD i .none,vs.getD i .none):=by
  rw[aho];refine ab5 λi=>?_;rw[aah,List.zip,List.getElem?_zipWith]
  by_cases f:i<vs.length
  .simp[f,<-h]
  .simp[f,<-h]
 have m:∀i,i<ds.length->ds.getD i .none∈ds:=λi f=>by rw[bO (lD f)];exact aeq _
 have O:OrcW prog w A s (tuples' false) (vs.toArray.zip vs.toArray).toList:=λx t y u C q=>by
  rw[k]at t u;let⟨i,f,rfl⟩:=aap.mp t;let⟨j,l,rfl⟩:=aap.mp u;rw[aeX]at f l;let⟨D,r1⟩:=r6.get (i:=i) (by omega);let⟨bs,v⟩:=r6.get (i:=j) (by omega);exact PK r1 v (ok.sm _ (m i f) _ (m j l)) (ok.tt _ (m i f)) (ok.tt _ (m j l)) (by have:=ok.dp _ (m i f);omega) (q _)
 have W:=L8 (E:=E) (Q:=λ_ st'=>∃q:List Nat,ordP ds q/\(arrOf st').map (·.2)=(q.map λi=>vs.getD i .none).toArray/\q.length=vs.length/\afb st'=none) O (st:=afa (tuples' false) (vs.toArray.zip vs.toArray) #[] 7 none) ⟨.refl _,rfl,rfl⟩ rfl λst' S=>by
  let⟨q,p,e⟩:=LS S.pm k;refine⟨q,p,?_,by rw[p.length_eq,aaV,h],S.fl⟩;apply ahp.mp;rw[ahq,e,aa9];rfl
 unfold wpS at W;exact ace W (λr s' ⟨e,q,a,b,c,d⟩=>⟨q,a,b,c,d,e⟩) λ_ _ e=>e
theorem qU{a:Addr}{P:PySem.Fin->AD->Prop}(u:s.heap.get? a=some (acX "list" vs.toArray n))(C:RdL s.heap vs ds)(ok:SrtOk ds)(Z:True)(W:A.units+7<cLine)
  (h:∀p:List Nat,ordP ds p->P (.done (.ret .none)) {s with heap:=af6 s.heap a vs (p.map λi=>vs.getD i .none).toArray}):wpAny (model prog w) A
  (acI.«list.sort» ⟨[.ref a],[]⟩) P E s:=by
 have k:=C.len;have J:=ok.n;rw[list_sort_plain];have r:(s.heap.update a (acB λ_=>#[])).get? a=some (acX "list" #[] _):=get?_update_seq u λ_=>#[];have f:(((s.heap.update a (acB λ_=>#[])).push (acX "tuple" vs.toArray 0)).push (acX "list" #[] 0)).get? a=some (acX "list" #[] _):=Ld _ (Ld _ r);refine gT (aha u rfl (gT (afA u rfl (gT (seqEpoch_at r rfl (gT (m:=newTuple _) (agt (gT (m:=ag6 _) (afB (abZ ?_))))))))));have r6:RdL (((s.heap.update a (acB λ_=>#[])).push (acX "tuple" vs.toArray 0)).push (acX "list" #[] 0)) vs ds:=C.keep (λb o e c=>by
  have N:b≠a:=λz=>by
   rw[z,u]at e;have G:o.cls=adm "list":=by rw[<-aaB e]
   rw[G]at c;exact absurd c (by decide)
  refine Ld _ (Ld _ ?_);rw[aaW.get?_update_ne _ _ _ _ N];exact e) λd hd=>ok.sm d hd d hd
 generalize D:((s.heap.update a (acB λ_=>#[])).push (acX "tuple" vs.toArray 0)).push (acX "list" #[] 0)=y at f r6;have sH:af6 s.heap a vs=λout=>af6 s.heap a vs out:=rfl;change wpAny _ A _ P E ({s with heap:=y}:AD);dsimp only;have L:(vs.toArray:Array mT).size=vs.length:=aaJ
 by_cases t:(vs.toArray:Array mT).size<2
 .rw[if_pos t,if_pos t];refine gT (Io ?_);rw[StateT.run_pure];refine gT (Io ?_);dsimp only;refine gT (seqEpoch_at f rfl ?_);refine gT (afA f rfl ?_ (hsz2:=by rw[Array.size_map];show(pairsOf vs).size≤_;rw[pairsOf_size,aae];omega));simp only[if_false,acg,bne_self_eq_false];refine Io ?_;have l:=h (aaz ds.length) (List.Perm.refl _);have U:((aaz ds.length).map λi=>vs.getD i .none).toArray=(arrOf (afa general' (vs.toArray.zip vs.toArray) #[] 7 none)).map (·.2):=by
   show _=(vs.toArray.zip vs.toArray).map (·.2);apply ahp.mp;rw[ahq,aho];refine ab5 λi=>?_
   by_cases F:i<vs.length
   .simp[ab9,F,<-k]
   .simp[ab9,F,<-k]
  rw[U]at l;unfold af6 at l;rw[D]at l;exact l
 .rw[if_neg t,if_neg t];let⟨fs,k1,k2,H⟩:=BQ r6 ok.tt;refine gT (kat_kind (s:={s with heap:=y}) (T:=.type "tuple") k1 (by omega) (λv M=>?_) rfl ?_)
  .obtain⟨b,o,rfl,e1,c1⟩:=H v M;exact λY Q' X I K q=>acY ⟨o,K _ _ e1,c1⟩ q
  rw[show(adm "tuple" != adm "tuple")=false by decide];refine gT (ace (JC (s:={s with heap:=y}) r6 ok W) ?_ λ_ _ e=>e);rintro⟨⟨⟩,st'⟩ I ⟨q,R,S,O,V,rfl⟩;dsimp only;rw[S];refine gT (seqEpoch_at f rfl ?_);refine gT (afA f rfl ?_ (hsz2:=by simp;rw[O,aae];omega));rw[V];simp only[if_false,acg,bne_self_eq_false];have l:=h q R;unfold af6 at l;rw[D]at l;exact Io l
end
section
variable {prog:aaF}{w:World}{A:aa4}{E:mT->AD->Prop}{s:AD}
theorem yq{v:mT}{C:aaW->List mT->Prop}{Q:mT->AD->Prop}(ok:SrtOk ds)(y:True)(F:A.units+10<cLine)
  (k:∀(P:List mT->AD->Prop) (E:mT->AD->Prop),(∀h' vs,(∀b o,s.heap.get? b=some o->h'.get? b=some o)->RdL h' vs ds->C h' vs->P vs {s with heap:=h' })->wpAny (model prog w) A.in1 (collect v) P E s)
  (h:∀(c f:aaW) (vs:List mT) (p:List Nat) (L:Addr) (e:Nat),(∀b o,s.heap.get? b=some o->c.get? b=some o)->C c vs->RdL c vs ds->(∀b o,c.get? b=some o->f.get? b=some o)->L=c.objs.size->f.get? L=some (acX "list" (p.map λi=>vs.getD i .none).toArray e)->ordP ds p->Q (.ref L) {s with heap:=f}) :
  wpAny (model prog w) A (call (.builtin "sorted") [v]) Q E s:=by
 refine afi kind_sorted plain_sorted entry_sorted (args:=_) (args_sorted1 v) ?_;refine gT (m:=checkCount "sorted" 1 1 _) (Io (gT (k _ _ λc vs k1 r1 l=>gT (m:=ag6 vs) (afB ?_ (hsz:=by rw[r1.len,aae];have:=ok.n;omega)))));have at1:(c.push (acX "list" vs.toArray 0)).get? c.objs.size=some (acX "list" vs.toArray 0):=aan _ rfl;have k2:∀b o,c.get? b=some o->(c.push (acX "list" vs.toArray 0)).get? b=some o:=λb o q=>Ld _ q;have D:=r1.keep (λb o q _=>k2 b o q) λd hd=>ok.sm d hd d hd;refine gT (m:=adr _ _) (abZ (ace (abc slot_list_sort ⟨_,at1,rfl⟩ entry_list_sort (qU at1 D ok y (show A.units+1+1+7<cLine by exact abP ‹_›) λp u=>⟨_,rfl,?_⟩) (args_list_sort _)) (λG t (q:Q (.ref c.objs.size) t)=>Io ⟨_,rfl,q⟩) λ_ _ z=>z));let⟨e,r⟩:=sortedHeap_at at1;exact h c _ vs p _ e k1 l r1 (λb o q=>by
  have lt:b<c.objs.size:=aao q;rw[sortedHeap_old (aa1 lt) (by rw[size_push'];exact aed lt)];exact k2 b o q) rfl r u
end
theorem BU(h:aaW):h.get? h.objs.size=none:=by
 cases e:h.get? h.objs.size with
 |none=>rfl
 |some o=>exact(acO _ (aao e)).elim
def updR(H:Hp)(B:Addr)(g:Nat->HO):Nat->Hp
 |0=>H
 |n+1=>upd (updR H B g n) (B+n) (g n)
theorem jp{H:Hp}{B:Addr}{g:Nat->HO}{b:Addr}:∀{n:Nat},(∀j,j<n->b≠B+j)->updR H B g n b=H b
 |0,_=>rfl
 |n+1,h=>by
  show upd _ _ _ b=_;rw[av (h n (aby n))];exact jp λj c=>h j (aed c)
theorem uy{H:Hp}{B:Addr}{g:Nat->HO}{j:Nat}:∀{n:Nat},j<n->updR H B g n (B+j)=some (g j)
 |0,h=>absurd h (Nat.not_lt_zero _)
 |n+1,h=>by
  by_cases e:j=n
  .subst e;exact ay
  .show upd _ _ _ _=_;rw[av (λz=>e (agH z))];exact uy (by omega)
section
variable {X:Cx}{pins:List (Addr×Obj)}{σ:List (Option V)}{H:Hp}{s:AD}{h':aaW}
def Dq(h:b<B):updR H B g n b=H b:=jp λj _=>aa1 (aat h (acx _ _))
def dn{o:HO}(fr:∀j,H (B+j)=none)(h:H b=some o):updR H B g n b=some o:=by
 rw[jp λj _ z=>by rw[z,fr j]at h;cases h];exact h
def Inv.laidR{t':Nat}(I:Inv X pins σ H s)(k:∀b u,s.heap.get? b=some u->h'.get? b=some u)(d:s.heap.objs.size≤B)(new:∀j,j<n->ObjOk X.prog X.w (updR H B g n) h' (B+j) (g j)) :
  Inv X pins σ (updR H B g n) {s with heap:=h',toks:=t' }:=by
 have fr:∀j,H (B+j)=none:=λj=>I.hok.fresh (aas d (acx _ _));refine I.un ⟨λb u q _ _ _=>k b u q,λb u q _ _ _=>⟨u.slots,k b u q⟩,λb u q n _=>?_,λb u q _=>⟨u,k b u q⟩,λb f q=>dn fr q,λb u f q=>dn fr q,λb p q=>⟨#[],?_⟩⟩ λb u e=>?_
 .rw[Dq (aat (aao q) d)];exact n
 .rw[dn fr q];simp
 .by_cases hb:∃j,j<n/\b=B+j
  .obtain⟨j,h,rfl⟩:=hb;rw[uy h]at e;rw[<-aaB e];exact new j h
  .rw[jp λj h z=>hb ⟨j,h,z⟩]at e;exact(I.hok b u e).stay (λc v _ q=>k c v q) (λc q=>dn fr q) λc f q=>dn fr q
theorem Mh{p:List Nat}(h:ordP ds p):(p.map λi=>ds.getD i .none).Perm ds/\True:=by
 have e:(aaz ds.length).map (λi=>ds.getD i .none)=ds:=ab5 λi=>by
  by_cases c:i<ds.length
  .simp_all
  .simp_all
 have:=h.map λi=>ds.getD i .none;rw[e]at this;exact⟨this,trivial⟩
theorem Ix(I:Inv X pins σ H s):∀{ds:List aD}{xs:List V}{us:List mT},(∀d∈ds,d.canLay0=true)->DenAll X.kx H ds xs->Vals xs us->RdL s.heap us ds
 |[],xs,us,_,g,r=>by
  subst g;cases r;trivial
 |d::ds,xs,us,hl,g,r=>by
  let⟨x,e,rfl,k,f⟩:=g
  cases r with
  |cons h t=>exact⟨Den.reads I (aa5 _ (hl d aaa)) k h,Ix I (λx c=>hl x (LD _ c)) f t⟩
def SrtOk.lay(ok:SrtOk ds):∀d∈ds,d.canLay0=true:=λd hd=>(BJ (ok.sm d hd d hd)).1
structure SrtT(ds:List aD):Prop where
 ok:SrtOk ds
 tot:True
def srtR(ds:List aD)(K:List aD->Prop):Prop:=SrtT ds/\∀d:List aD,d.Perm ds->True->K d
theorem Bv:∀{xs:List V}{us:List mT},xs.length=us.length->(∀(j:Nat) (x:V) (u:mT),xs[j]?=some x->us[j]?=some u->RelV x u)->Vals xs us
 |[],[],_,_=>.nil
 |x::xs,u::us,hl,h=>.cons (h 0 x u rfl rfl) (Bv (by simpa using hl) λj x u c e=>h (j+1) x u ‹_› ‹_›)
 |[],_::_,hl,_=>(adD _ hl).elim
 |_::_,[],hl,_=>(adD _ hl.symm).elim
theorem sY{K:Kd}{H:Hp}:∀{ds:List aD}{xs:List V},ds.length=xs.length->(∀(j:Nat) (d:aD) (x:V),ds[j]?=some d->xs[j]?=some x->Den K H d x)->DenAll K H ds xs
 |[],[],_,_=>by simp[DenAll]
 |d::ds,x::xs,hl,h=>by
  exact⟨x,xs,rfl,h 0 d x rfl rfl,sY (by simpa using hl) λj d x c e=>h (j+1) d x ‹_› ‹_›⟩
 |[],_::_,hl,_=>(adD _ hl).elim
 |_::_,[],hl,_=>(adD _ hl.symm).elim
theorem zG{H:Hp}(fr:∀j,H (B+j)=none)(n:Nat):Pers H (updR H B g n):=⟨λb c q=>dn fr q,λb o u q=>dn fr q⟩
def itmG(es:List (V×V))(j:Nat):HO:=.tup [(es.getD j (.non,.non)).1,(es.getD j (.non,.non)).2]
def tQ(B:Addr)(n:Nat):List V:=(aaz n).map λj=>.ref (B+j)
theorem sw{K:Kd}{H:Hp}(fr:∀j,H (B+j)=none)(q:PDc K H kvs es):DenAll K (updR H B (itmG es) es.length) (gm kvs) (tQ B es.length):=by
 have m:=zG (g:=itmG es) fr es.length;refine sY (by unfold gm tQ;rw[iO,iO,aaV,q.length]) λj d x f c=>?_;unfold gm at f;rw[aah]at f;let⟨p,r,rfl⟩:=aec.mp f;let⟨k,l,d1,u⟩:=Paired.at1 q r;have h:=(Ad.mp l).1;unfold tQ at c;rw[aah,ab9 h]at c;have e:=aaB c;subst e;have t:itmG es j = .tup [k.1,k.2]:=by unfold itmG;rw[bO l]
 exact e8 (SqT.of ((uy h).trans (by rw[t]))) (DenAll.cons (d1.mono m) (DenAll.cons (u.mono m) DenAll.nil))
def DcR(H:Hp)(a:Addr)(es:List (V×V)):Prop:=(∃c,Rd H a (dX a c)/\es=c.map (·.2))\/∃c,Rd H a (.dK c)/\es=c.map λp=>(kV p.1,p.2)
theorem Inv.dcr{X:Cx}{pins:List (Addr×Obj)}{σ:St}{H:Hp}{s:AD}(I:Inv X pins σ H s){a:Addr}(h:DcR H a es):(a==abu)=false/\∃o c f,s.heap.get? a=some o/\o.ExactDict/\o.data = .dict c f/\abL (λ(e:V×V) (d:ab8)=>RelV e.1 d.key/\RelV e.2 d.val) es c.toList:=by
 rcases h with⟨m,e,rfl⟩|⟨m,e,rfl⟩
 .obtain⟨⟨hs,hz,o,c,f,h1,h2,h3,h4⟩,_⟩:=(show ObjOk X.prog X.w H s.heap a (dX a m)from e.ok I.hok);refine⟨hs,o,c,f,h1,h2,h3,?_⟩;clear e hz;generalize c.toList=l at h4;rename_i z;clear z
  induction h4 with
  |nil=>exact .nil
  |cons q _ k=>exact .cons q.2 k
 .obtain⟨hz,hs,vs,kv,o,c,f,h1,h2,h3,h4,h5,h6⟩:=ou I.hok e;refine⟨hs,o,c,f,h1,h2,h3,?_⟩;generalize c.toList=l at h5;clear h6 h4 h3 h2 hz e
  induction kv generalizing l with
  |nil=>cases h5;exact .nil
  | cons q _ k=>
   cases h5 with
   |cons p r t=>
    rw[aak];refine .cons ⟨?_,?_⟩ (k _ t)
    .rw[<-q.1]at p;exact JM p
    .rw[r];exact q.2
theorem IsDc.dcr{K:Kd}{H:Hp}{a:Addr}(h:IsDc K H a kvs):∃es,DcR H a es/\PDc K H kvs es:=by
 rcases h with⟨es,r,g⟩|⟨es,r,_,_,g⟩
 .exact⟨_,.inr ⟨es,r,rfl⟩,zX g⟩
 .exact⟨_,.inl ⟨es,r,rfl⟩,Bo g⟩
def O4(K:Kd)(to:TE):TE:=λσ H Q=>to σ H λx c=>∃a es kvs,x = .ref a/\DcR c a es/\PDc K c kvs es/\SrtT (gm kvs)/\∀(d:List aD) (B:Addr) (g:Nat->HO) (n:Nat) (L:Addr) (e:List V),d.Perm (gm kvs)->True->(∀j,c (B+j)=none)->updR c B g n L=none->DenAll K (upd (updR c B g n) L (.lst e)) d e->Q (.ref L) (upd (updR c B g n) L (.lst e))
theorem Fg{to:TE}(hc:X.calm=true)(hu:X.A.units+64<cLine)(hg:Gl X "sorted")(hm:X.mg "sorted" = none)(ho:PE X o to)(w:abr o "items" X.env (eval o X.env)=eval o X.env:=by rfl)(A:(apos.endLine==cpos.line)=true:=by rfl)
  (F:aac [.Call (.Attribute o "items" apos) [] [] cpos] X.env=[(false,eval (.Call (.Attribute o "items" apos) [] [] cpos) X.env)]:=by rfl):PE X (.Call (.Name "sorted" p0) [.Call (.Attribute o "items" apos) [] [] cpos] [] pos) (O4 X.kx to):=by
 intro pins s σ H Q I h;refine acA (oh I hg hm lm ?_);refine aeo ?_ F rfl;rw[F];refine agQ ?_;refine wpAny_Call_method0_late w A (thn (ho pins s σ H _ I h) λv s1 ⟨x,T,I1,r1,q1⟩=>?_);let⟨a,es,kvs,rfl,dc,pd,W,q⟩:=q1;cases r1;let⟨N,ob,c,U,V,g2,g3,g4⟩:=I1.dcr dc;have he:EntAt s1.heap a c U:=⟨ob,V,g2,g3⟩;refine⟨"dict","dict.items",afM,afN,PySem.F.type_dict_items,⟨ob,V,g2.1⟩,λb e=>by cases e;exact⟨ob,V,g2.2.1⟩,aea rfl (PySem.evalArgs_none (yu N he ?_))⟩;refine ag2 ?_;have kv:∀b o,s1.heap.get? b=some o->(s1.heap.push {cls:=.type "dict_items",data:=.fields #[.ref a]}).get? b=some o:=λb o q=>Ld _ q;have hl:es.length=c.size:=by have:=g4.length;simpa using this
 have hil:(gm kvs).length=es.length:=by unfold gm;rw[iO,pd.length]
 have hn:=W.ok.n;have S:Inv X pins σ T {s1 with heap:=s1.heap.push {cls:=.type "dict_items",data:=.fields #[.ref a]} }:=I1.kept (t':=s1.toks) kv;have m:(s1.heap.push {cls:=.type "dict_items",data:=.fields #[.ref a]}).get? s1.heap.objs.size=some {cls:=.type "dict_items",data:=.fields #[.ref a]}:=aan _ rfl;have J:EntAt (s1.heap.push {cls:=.type "dict_items",data:=.fields #[.ref a]}) a c U:=he.keep λo q=>kv _ _ q;have la:a<s1.heap.objs.size:=aao V;generalize hS2:({s1 with heap:=s1.heap.push {cls:=.type "dict_items",data:=.fields #[.ref a]} }:AD)=s2 at S⊢;have hh2:s2.heap=s1.heap.push {cls:=.type "dict_items",data:=.fields #[.ref a]}:=by rw[<-hS2]
 rw[<-hh2]at m J;have lv:s1.heap.objs.size<s2.heap.objs.size:=aao m;have lay:∀(h':aaW) (d:Addr),(∀b o,s2.heap.get? b=some o->h'.get? b=some o)->s2.heap.objs.size≤d+1->(∀j (t:j<c.size),h'.get? (d+1+j)=some {cls:=.type "tuple",data:=.seq #[c[j].key,c[j].val]})->Inv X pins σ (updR T (d+1) (itmG es) es.length) {s2 with heap:=h' }:=λh' d k z tp=>by
  refine S.laidR (t':=s2.toks) k z λj t=>?_;let⟨ev,r,Y,D⟩:=Paired.at g4 (i:=j) (y:=c[j]) (by simp[show j<c.size by omega]);have eg:itmG es j = .tup [ev.1,ev.2]:=by unfold itmG;rw[bO r]
  rw[eg];exact⟨by show 2≤aai;rw[aae];decide,[c[j].key,c[j].val],.cons Y (.cons D .nil),⟨_,tp j (by omega),rfl,rfl,_,rfl⟩⟩
 have G:∀(d:Addr) (f:Array mT),f.size=c.size->(∀(j:Nat) u,f[j]?=some u->u = .ref (d+1+j))->Vals (tQ (d+1) es.length) f.toList:=λd f az ar=>Bv (by have z1:f.toList.length=f.size:=abJ;unfold tQ;rw[iO,aaV,z1,az,hl]) λj x u r Y=>by
  unfold tQ at r;rw[aah]at r;let⟨j',D,rfl⟩:=aec.mp r;have O:j<es.length:=by have:=(Ad.mp D).1;rwa[aaV]at this
  rw[ab9 O]at D;rw[adi]at Y;rw[ar j u Y,aaB D];exact rfl
 have fr:∀(d:Addr),s2.heap.objs.size≤d+1->∀j,T (d+1+j)=none:=λd z j=>S.hok.fresh (aas z (acx _ _));refine yq (s:=s2) (C:=λh vs=>∃d:Addr,s2.heap.objs.size≤d+1/\(∀j (t:j<c.size),h.get? (d+1+j)=some {cls:=.type "tuple",data:=.seq #[c[j].key,c[j].val]})/\Vals (tQ (d+1) es.length) vs) W.ok W.tot (by omega) (λP E hP=>?_) ?_
 .refine yi (St:=λd=>StI s2.heap.objs.size d a c U) (P:=λd=>PrI s2.heap.objs.size d c) (n:=c.size) ⟨_,m,rfl⟩ (.inl rfl) (by rw[aae];omega) (λs3 Q3 E3 hT q=>yv hT q) (λs3 Q3 E3 k0 ⟨oS,hS⟩ hq=>?_) λd h' f k zz az pz=>?_
  .have lS:s2.heap.objs.size<s3.heap.objs.size:=aao hS;have K:EntAt s3.heap a c U:=J.keep λo q=>k0 _ _ q;refine zp (k0 _ _ m) K λh' Z sz hk=>hq h' _ (abv lS) (F8 (S.ok.hd hc) lS (abv (aeb la lv)) (abv (aeb la (aeb lv lS)))) ⟨K.keep λo q=>hk _ _ q,sz,.inl ⟨_,_,Z⟩⟩ hk (BU _)
  .obtain⟨l,z',tp',ar'⟩:∃l:Addr,s2.heap.objs.size≤l+1/\(∀j (t:j<c.size),h'.get? (l+1+j)=some {cls:=.type "tuple",data:=.seq #[c[j].key,c[j].val]})/\∀(j:Nat) u,f[j]?=some u->u = .ref (l+1+j):=by
    by_cases e0:c.size=0
    .exact⟨s2.heap.objs.size,afl _,λj t=>by omega,λj u e=>by have:=(Array.getElem?_eq_some_iff.mp e).1;omega⟩
    .have get:∀j,j<c.size->∃u,f[j]?=some u:=λj t=>⟨_,acd (show j<f.size by omega)⟩;let⟨u0,r⟩:=get 0 (by omega);have l0:=(pz 0 u0 r).1;refine⟨d,abP (aed l0),λj t=>?_,λj u e=>(pz j u e).2.1⟩;let⟨u,e⟩:=get j t;let⟨_,_,O,q⟩:=pz j u e;exact q
   have R:=G l f az ar';have I':=lay h' l k z' tp';exact hP h' f.toList k (Ix I' W.ok.lay (sw (fr l z') pd) R) ⟨l,z',tp',R⟩
 .rintro h1 h2 vs p L e k1 ⟨d,z,tp,R⟩ r1 k2 hL hl2 hp;subst hL;have I3:=lay h1 d k1 z tp;have M:updR T (d+1) (itmG es) es.length h1.objs.size=none:=I3.hok.fresh (Mt _);let⟨o1,o2⟩:=Mh hp;have hpl:p.length=c.size:=by have:=List.Perm.length_eq hp;rw[aaV]at this;omega
  exact⟨.ref h1.objs.size,_,I3.laid (t':=s2.toks) k2 (Mt _) (show ObjOk X.prog X.w _ _ _ (.lst (p.map λi=>(tQ (d+1) es.length).getD i .non))from⟨by rw[iO,aae];omega,_,e,t5 R p,by rw[hl2]⟩),rfl,q _ _ _ _ _ _ o1 o2 (fr d z) M ((vY (sw (fr d z) pd) p).mono (bm (.inl M)))⟩
theorem yY{H:Hp}(fr:∀j,H (B+j)=none)(h:updR H B g n b=none):H b=none:=by
 cases e:H b with
 |none=>rfl
 |some o=>rw[dn fr e]at h;cases h
theorem Rel.layR{K:Kx}{c:Al}{m:MSt}{σ:St}{H:Hp}{B:Addr}{g:Nat->HO}(R:Rel K c m σ H)(fr:∀j,H (B+j)=none):∀n,Rel K c m σ (updR H B g n)
 |0=>R
 |n+1=>(Rel.layR R fr n).lay (by rw[jp λj h z=>abv h (agH z)];exact fr n)
theorem FC{c:Al}{H:Hp}(fr:∀j,H (B+j)=none)(n:Nat):Frm c H (updR H B g n):=λb o e _=>dn fr e
abbrev Ik(w:WE):WE:=λm K=>w m λr c=>∃kvs,dcM c kvs r/\(isKd kvs=true\/kyA kvs=true)/\srtR (gm kvs) λd=>K (.new d) c
theorem Fq{w:WE}(M:X.A.units+64<cLine)(C:X.mg "sorted" = none)(N:ME X o w)(K:X.calm=true:=by rfl)(I:Gl X "sorted":=by rfl)(h:abr o "items" X.env (eval o X.env)=eval o X.env:=by rfl)(c:(apos.endLine==cpos.line)=true:=by rfl)
  (p:aac [.Call (.Attribute o "items" apos) [] [] cpos] X.env=[(false,eval (.Call (.Attribute o "items" apos) [] [] cpos) X.env)]:=by rfl):ME X (.Call (.Name "sorted" p0) [.Call (.Attribute o "items" apos) [] [] cpos] [] pos) (Ik w):=(Fg K M I C N h c p).wk<|by
 intro σ H Q ⟨G,m,T,t,A,l⟩;refine⟨G,m,_,t,A,λr O v S k n R rr F=>?_⟩;let⟨kvs,dk,hk,z,k⟩:=k;let⟨a,rfl,dc⟩:=rr.dc R dk hk;let⟨es,dc,J⟩:=dc.dcr;refine⟨a,es,kvs,rfl,dc,J,z,λe B g q L u E y fr d f=>?_⟩;have D:=Rel.layR (g:=g) R fr q;have P:=F.trans (FC (g:=g) fr q);exact l _ O _ _ (k e E y) n (D.lay d) (RelR.base R F (⟨L,u,rfl,yY fr d,ay,f⟩)) (P.trans (cC d))
theorem Cn{w:WE}(l:X.A.units+64<cLine)(e:X.mg "sorted" = none)(m:EE X o w)(k:X.calm=true:=by rfl)(f:Gl X "sorted":=by rfl)(c:abr o "items" X.env (eval o X.env)=eval o X.env:=by rfl)(h:(apos.endLine==cpos.line)=true:=by rfl)
  (d:aac [.Call (.Attribute o "items" apos) [] [] cpos] X.env=[(false,eval (.Call (.Attribute o "items" apos) [] [] cpos) X.env)]:=by rfl):EE X (.Call (.Name "sorted" p0) [.Call (.Attribute o "items" apos) [] [] cpos] [] pos) (Ik w):=⟨Fq l e m.h k f c h d⟩
end
end L2
namespace L2
open PySem PySem.Spec PyProof.Rows
section
variable {X:Cx}{i:Nat}{x:Str}{e:Expr}{w:WE}{op:aeZ}{p pos:Pos}{f:Int->Int->Int}
def Gy(X:Cx)(op:aeZ)(f:Int->Int->Int):Prop:=PIp X op λx y H Q=>∃i j,x = .int i/\y = .int j/\Q (.int (f i j)) H
def GJ:Gy X .Add (· + ·):=SF
def Sx:Gy X .Sub (· - ·):=RH
def wAug(i:Nat)(w:WE)(f:Int->Int->Int):WS:=λD m=>∃a:Int,m.vs[i]?=some (some (.imm (.int a)))/\w m λr c=>∃b:Int,r = .imm (.int b)/\D.nx (c.setV i (.imm (.int (f a b))))
theorem Tj(A:X.N.Nodup)(t:X.N[i]?=some x)(E:ME X e w)(h:Gy X op f)(d:X.env.scope.names.lookup x=some .local:=by rfl):MS X (.AugAssign (.Name x p) op e pos) (wAug i w f):=(RE A t (.inl d) E h (.inr d)).wk<|by
 intro D G H ⟨g,m,J,c,⟨a,z,C⟩,k⟩;let⟨v,u,o⟩:=c.var i _ z;have s:=o;refine⟨v,u,g,m,_,c,C,λr I y j ⟨b,B,q⟩ n R rr F=>?_⟩;subst B;have l:=rr;have R2:=cy (i:=i) (r:=.imm (.int (f a b))) R (show Den X.kx.toKd j (.int (f a b)) (.int (f a b)) by simp only[Den]);exact⟨a,b,s,l,k.nx g _ _ j q n R2 (.of R2 F)⟩
theorem ut(i:Nat)(a:X.N.Nodup)(d:EE X e w)(h:Gy X op f)(b:X.N[i]?=some x:=by rfl)(c:X.env.scope.names.lookup x=some .local:=by rfl):ES X (.AugAssign (.Name x p) op e pos) (wAug i w f):=⟨Tj a b d.h h c⟩
def Jt{D:dm}{m:MSt}(a:Int)(d:m.vs[i]?=some (some (.imm (.int a))))(h:w m λr c=>∃b:Int,r = .imm (.int b)/\D.nx (c.setV i (.imm (.int (f a b))))):wAug i w f D m:=⟨a,d,h⟩
end
section
variable {X:Cx}{i e:Expr}{w a:WE}{pos:Pos}
def Ve(K:Kd)(t d:TE):TE:=λc H Q=>∀p,H p=none->t c (upd H p (.dK [])) λy f=>d c f λv b=>b p=some (.dK [])/\∃k,kyD k=true/\Den K b k y/\Q (.ref p) (upd b p (dX p [(fi K.w k,y,v)]))
theorem MH{c t:TE}(C:X.A.units+64<cLine)(hk:PE X i c)(m:PE X e t):PE X (.Dict [some i] [e] pos) (Ve X.kd c t):=by
 intro p s b H Q I q;have d:=I.laid (h':=s.heap.push {cls:=.type "dict",data:=.dict #[]}) (t':=s.toks) (λ_ _ q=>Ld _ q) (Mt _) (qH s.heap I.big);refine wpAny_Dict_any rfl rfl (by simp) (show 1≤15 by decide) (pairTrees_cons_walk (thn (hk p _ b _ _ d (q _ (I.hok.fresh (Mt _)))) λu s1 ⟨y,x,n,j,h⟩=>thn (m p s1 b x _ n h) λr s2 ⟨v,A,f,o,g,k,ky,dk,z⟩=>pairTrees_nil_walk ?_));unfold storeAll;rw[aeJ];exact gT (gT (II (kvs:=[]) (es:=[]) (by omega) f ⟨by simp[DenKV],abE,rfl,.inr ⟨g,rfl⟩⟩ ky dk j o (by rw[aae];decide) λB l=>Io (Io ⟨.ref s.heap.objs.size,_,l,rfl,z⟩)))
abbrev Sk(wk c:WE):WE:=λm K=>wk m λb m1=>i6 (λk=>c m1 λr m2=>i6 (λd=>kyD k=true/\K (.newT (.dict (lfKV [(k,d)]))) m2) r) b
def Je(L:X.A.units+64<cLine)(hk:ME X i w)(E:ME X e a):ME X (.Dict [some i] [e] pos) (Sk w a):=(MH L hk E).wk<|by
 intro N H Q ⟨j,m,O,r,J,t⟩;intro p q;refine⟨j,m,_,r.lay q,J,λS m1 y T k1 n1 l x D=>?_⟩;let⟨k,rfl,u,k1⟩:=fq x k1;refine⟨j,m1,_,l,k1,λP m2 v g k2 n2 R z F=>?_⟩;let⟨d,rfl,hd,kd,k2⟩:=fq z k2;have c:p∉ads j:=r.out q;have C:g p=some (.dK []):=F p _ (D p _ ay c) c;have n:Den X.kx g k y:=u.mono (l.pers F);refine⟨C,k,kd,n,?_⟩;have A:Pers g (upd g p (dX p [(fi X.w k,y,v)])):=bm (.inr ⟨_,C,rfl⟩);have fr:Frm j H (upd g p (dX p [(fi X.w k,y,v)])):=λb o eb nb=>by
  have ne:b≠p:=bq eb q;rw[av ne];exact F b o (D b o (by rw[av ne];exact eb) nb) nb
 have old:Ext X.kx.eb.np j H j (upd g p (dX p [(fi X.w k,y,v)])):=⟨rfl,fr,λ_ h=>.inl h,λb f=>by
  have s:b≠p:=λe=>c (e▸f);rw[av s];let⟨M,I,_⟩:=R.mem f;exact⟨M,I⟩⟩
 refine t _ m2 _ _ k2 (n2.trans n1) (R.at' A (λb f=>av λe=>c (e▸f)) (r.ebx.trans old)) ⟨[([],p)],p,rfl,rfl,by simp,λb f=>by simp at f;subst f;exact q,⟨⟨_,.ref p,rfl,?_,p,rfl,rfl⟩,λb f=>by simp at f;subst f;exact⟨_,ay,rfl⟩⟩⟩ fr;have B:kyA [(k,d)]=true:=by simp[kyA,kd]
 have ok:=k6 (kvs:=[(k,d)]) B (by simp) (by simp);let⟨G,K⟩:=pH (.inr (by rw[vA];exact B):isKd (lfKV [(k,d)])=true\/kyA (lfKV [(k,d)])=true);simp only[TAt];refine .inr (.inl ⟨G,K,p,_,rfl,rfl,ay,⟨by rw[re];exact ok.1,by rw[fG];exact ok.2.1,by rw[fG];exact ok.2.2⟩,MY ?_⟩);simp only[DenKV];exact⟨y,v,[],rfl,n.mono A,hd.mono A,rfl⟩
def Gi(b:X.A.units+64<cLine)(hk:EE X i w)(h:EE X e a):EE X (.Dict [some i] [e] pos) (Sk w a):=⟨Je b hk.h h.h⟩
end
end L2
namespace K
open PySem L2 M7 M8
variable{h:Hall}{L:List (Pk×Int)}{a:Pk}{r1 r2:Rule}{t:Tr}{α:Type}{q:Nat}
def alk(h:Hall):Bool:=(h.ss.map Srv.d).all λd=>aag d ((h.ss.map Srv.d).getD 0 .none)
def cA(h:Hall)(l:List Nat):List Nat:=if alk h=true then srt l else l
def xY(h:Hall)(l:List Nat):(cA h l).Perm l:=by
 unfold cA;split
 .exact kJ l
 .exact .refl _
def jl(h:Hall)(l:List Nat):cA h (cA h l)=cA h l:=by
 unfold cA;split
 .exact PJ (qw l)
 .rfl
theorem zR(a:alk h=true){s t:Srv}(c:s∈h.ss)(f:t∈h.ss):s.r=t.r:=by
 have one:∀s∈h.ss,aag s.d ((h.ss.map Srv.d).getD 0 .none)=true:=λs c=>abz.mp a _ (aap.mpr ⟨s,c,rfl⟩);let⟨d,ss,e⟩:∃d ss,h.ss=d::ss:=by
  cases e:h.ss with
  |nil=>rw[e]at c;cases c
  |cons a b=>exact⟨a,b,rfl⟩
 have key:∀s∈h.ss,s.r=d.r:=λs c=>by
  have:=one s c;rw[e]at this;have q:(aag (.tuple [.int s.a,.int s.b]) (.tuple [.int d.a,.int d.b])&&(aag (.int (s.r:Int)) (.int (d.r:Int))&&true))=true:=this;simp only[ade,aaS]at q;rw[cq]at q;exact of_decide_eq_true q.2
 rw[key s c,key t f]
theorem mI{l:List Nat}(L:Lines h l):Lines h (cA h l):=by
 unfold cA;split
 .rename_i a;have p:=(kJ l);refine⟨p.length_eq.trans L.1,λi s x f e=>?_⟩;have d:=p.mem_iff.mp (GT e);let⟨j,c⟩:∃j,l[j]?=some _:=abX d;have b:j<h.ss.length:=by rw[<-L.1];exact(Ad.mp c).1
  have:=L.2 j _ x (lD b) c;rw[zR a (GT f) (aeq b)];exact this
 .exact L
theorem wQ{l:List Nat}{ns:List Int}(f:ns.Perm (l.map λ(k:Nat)=>(k:Int)))(j:ns.Pairwise (· ≥ ·)):ns=(srt l).map λ(k:Nat)=>(k:Int):=by
 have d:∀x∈ns,((x.toNat:Nat):Int)=x:=λx c=>by
  let⟨k,_,rfl⟩:=aap.mp (f.mem_iff.mp c);rfl
 have o:(ns.map agC).map (λ(k:Nat)=>(k:Int))=ns:=by
  rw[aa9]
  conv=>rhs;rw[<-ahr ns]
  exact acS λx c=>d x c
 have p:(ns.map agC).Perm l:=by
  have:=f.map agC;rw[aa9]at this;have n:(l.map (agC∘λ(k:Nat)=>(k:Int)))=l:=by
   (conv=>rhs;rw[<-ahr l])
   exact acS λx _=>rfl
  rwa[n]at this
 have m:Fall (ns.map agC):=by
  unfold Fall;rw[List.pairwise_map];refine j.imp_of_mem λ{a b} i g e=>?_;have:=d a i;have:=d b g;show b.toNat≤a.toNat;have:b≤a:=e;omega
 rw[wm m p,o]
def t7(l:List Nat):natD l=(l.map λ(k:Nat)=>(k:Int)).map .int:=by unfold natD;rw[aa9];rfl
def kst(h:Hall)(r:Rule)(l:List Nat)(m:Mv):List Nat×Wd:=(cA h (ku h r l 0 m).1,(ku h r l 0 m).2.2)
def aw(w:Wd):Int:=if w = .away then 1 else 0
abbrev Tr:=List Nat×List Nat×Int
def bth(h:Hall)(r1 r2:Rule)(t:Tr)(m:Mv):Tr:=((kst h r1 t.1 m).1,(kst h r2 t.2.1 m).1,t.2.2+aw (kst h r2 t.2.1 m).2-aw (kst h r1 t.1 m).2)
def bad(t:Tr):Bool:=decide (t.2.2<0)||decide (((t.2.1.sum:Nat):Int)+t.2.2<((t.1.sum:Nat):Int))
def mvs(h:Hall):List Mv:=(ordK h.ss.length h.ss.length).map Mv.come++(aaz h.ss.length).map Mv.done++[.still]
theorem zq(b:h.Ok):∀m∈mvs h,m.Ok h:=λm c=>by
 rcases aaT.mp c with q|q
 .obtain q|q:=aaT.mp q
  .obtain⟨o,ho',rfl⟩:=aap.mp q;let⟨f,e,d⟩:=Fu _ b.n4 b.n1 o ho';exact⟨f,d,e⟩
  .obtain⟨k,hk,rfl⟩:=aap.mp q;exact aeX.mp hk
 .rw[aab.mp q];exact trivial
inductive RcT(h:Hall)(r1 r2:Rule):Tr->Prop
 |here:RcT h r1 r2 (zer h,zer h,0)
 |next {t:Tr}{m:Mv}:RcT h r1 r2 t->m∈mvs h->RcT h r1 r2 (bth h r1 r2 t m)
structure Nvr(h:Hall)(r1 r2:Rule)(P:List Tr):Prop where
 b0:(zer h,zer h,0)∈P
 nb:∀t∈P,bad t=false
 cl:∀t∈P,∀m∈mvs h,∃u∈P,u.1=(bth h r1 r2 t m).1/\u.2.1=(bth h r1 r2 t m).2.1/\u.2.2≤(bth h r1 r2 t m).2.2
def trD(t:Tr):aD:=.tuple [lnD t.1,lnD t.2.1,.int t.2.2]
structure TrOk(h:Hall)(t:Tr):Prop where
 x:Lines h t.1
 y:Lines h t.2.1
 kx:cA h t.1=t.1
 ky:cA h t.2.1=t.2.1
 d0:0≤t.2.2
 d1:t.2.2<10^15
abbrev Pk:=List Nat×List Nat
def pkD(p:Pk):aD:=.tuple [lnD p.1,lnD p.2]
def ldD(L:List (Pk×Int)):List (aD×aD):=L.map λq=>(pkD q.1,.int q.2)
def ng(a b:List Nat):aag (lnD a) (lnD b)=decide (a=b):=by
 have:=OY (a,0) (b,0);have e:aag (ptD (a,0)) (ptD (b,0))=aag (lnD a) (lnD b):=by
  show(aag (lnD a) (lnD b)&&(aag (.int 0) (.int 0)&&true))=_;rw[show aag (.int 0) (.int 0)=true from rfl,Bool.true_and,ade]
 rw[<-e,this];simp
def Ir(p q:Pk):aag (pkD p) (pkD q)=decide (p=q):=by
 show(aag (lnD p.1) (lnD q.1)&&(aag (lnD p.2) (lnD q.2)&&true))=_;rw[ng,ng,ade,abF];simp[Prod.ext_iff]
def setL(a:Pk)(v:Int):List (Pk×Int)->List (Pk×Int)
 |[]=>[(a,v)]
 |q::L=>if q.1=a then(q.1,v)::L else q::setL a v L
theorem Bh(a:Pk)(v:Int):∀L:List (Pk×Int),putP (pkD a) (.int v) (ldD L)=ldD (setL a v L)
 |[]=>rfl
 |q::L=>by
  show(if aag (pkD q.1) (pkD a)=true then _ else _::putP (pkD a) (.int v) (ldD L))=ldD (if q.1=a then(q.1,v)::L else q::setL a v L);rw[Ir]
  by_cases e:q.1=a
  .rw[if_pos (decide_eq_true e),if_pos e];rfl
  .rw[if_neg (by rw[decide_eq_false e];exact aam),if_neg e,Bh a v L];rfl
theorem fV{a:Pk}{v:Int}:∀{L:List (Pk×Int)}{p:Pk×Int},p∈setL a v L->p=(a,v)\/p∈L
 |[],p,h=>.inl (aab.mp h)
 | q::L,p,h=>by
  unfold setL at h
  split at h
  .rename_i e;rcases aaf.mp h with z|z
   .rw[z,e];exact .inl rfl
   .exact .inr (LD _ z)
  .rcases aaf.mp h with z|z
   .rw[z];exact .inr aaa
   .exact(fV z).imp id λy=>LD _ y
theorem Gg{p:Pk}(c:h.Ok)(f:Lines h p.1)(b:Lines h p.2):kyD (pkD p)=true:=by
 have n:∀l:List Nat,hkA (natD l)=true:=λl=>by
  induction l with
  |nil=>rfl
  |cons x l i=>show(hkD _&&hkA (natD l))=true;rw[i];rfl
 have s:=bc (k:=1) (ds:=[lnD p.1,lnD p.2]) λd hd=>by
  rcases aaf.mp hd with e|e
  .rw[e];exact bc (bV _)
  .rw[aab.mp e];exact bc (bV _)
 have hk:hkD (pkD p)=true:=by
  show(hkD (lnD p.1)&&(hkD (lnD p.2)&&true))=true;rw[show hkD (lnD p.1)=true from n p.1,show hkD (lnD p.2)=true from n p.2];rfl
 unfold kyD;rw[hk,show(pkD p).canLay0=true from s.cl,decide_eq_true (show(pkD p).depth≤7 from aas s.dp (by decide))];rfl
def E8(c:h.Ok)(X:∀p∈L,Lines h p.1.1/\Lines h p.1.2):kyA (ldD L)=true:=by
 unfold kyA ldD;rw[aeg,abz];exact λp b=>Gg c (X p b).1 (X p b).2
def fz:cA h (zer h)=zer h:=List.perm_replicate.mp (xY h (zer h))
def lkL(a:Pk):List (Pk×Int)->Option Int
 |[]=>none
 |q::L=>if q.1=a then some q.2 else lkL a L
theorem DB(a:Pk):∀L:List (Pk×Int),c9 (pkD a) (ldD L)=(lkL a L).map .int
 |[]=>rfl
 |q::L=>by
  show(if aag (pkD q.1) (pkD a)=true then some (abU q.2)else c9 (pkD a) (ldD L))=(if q.1=a then some q.2 else lkL a L).map .int;rw[Ir]
  by_cases e:q.1=a
  .rw[if_pos (decide_eq_true e),if_pos e];rfl
  .rw[if_neg (by rw[decide_eq_false e];exact aam),if_neg e];exact DB a L
def smL(L:List (Pk×Int)):Nat:=(L.map λq=>q.2.toNat).sum
theorem sX{a:Pk}{v:Int}:∀{L:List (Pk×Int)},lkL a L=none->setL a v L=L++[(a,v)]
 |[],_=>rfl
 |q::L,h=>by
  unfold lkL at h;unfold setL
  split at h
  .cases h
  .rename_i e;rw[if_neg e,sX h];rfl
theorem tX{a:Pk}{v w:Int}:∀{L:List (Pk×Int)},lkL a L=some w->smL (setL a v L)+w.toNat=smL L+v.toNat/\(setL a v L).length=L.length/\(setL a v L).map (·.1)=L.map (·.1)
 |q::L,h=>by
  unfold lkL at h;unfold setL
  split at h
  .rename_i e;cases h;rw[if_pos e];refine⟨?_,rfl,rfl⟩;simp only[smL,aak,acQ];omega
  .rename_i e;let⟨d,b,c⟩:=tX (v:=v) h;rw[if_neg e];refine⟨?_,by simp[b],by simp[c]⟩;simp only[smL,aak,acQ]at d⊢;omega
theorem Iu{a:Pk}:∀{L:List (Pk×Int)},lkL a L=none->a∉L.map (·.1)
 |[],_,h=>by cases h
 | q::L,e,h=>by
  unfold lkL at e
  split at e
  .cases e
  .rename_i n;rcases aaf.mp h with z|z
   .exact n z.symm
   .exact Iu e z
theorem u3{a:Pk}{w:Int}:∀{L:List (Pk×Int)},lkL a L=some w->(a,w)∈L
 |q::L,e=>by
  unfold lkL at e
  split at e
  .rename_i n;cases e;rw[<-n];exact aaa
  .exact LD _ (u3 e)
structure DkOk(h:Hall)(L:List (Pk×Int)):Prop where
 nd:(L.map (·.1)).Nodup
 ln:∀p∈L,Lines h p.1.1/\Lines h p.1.2
 nn:∀p∈L,0≤p.2
 kp:∀p∈L,cA h p.1.1=p.1.1/\cA h p.1.2=p.1.2
def kL(h:Hall):List (List Nat):=(M3.allR h.rs).filter λl=>decide (cA h l=l)
def nP(h:Hall):Nat:=(kL h).length*(kL h).length
def MF{a:Nat}(z:(M3.allR h.rs).length≤a):nP h≤a*a:=by
 have l:(kL h).length≤a:=aas (abn _ _) z;exact abx l l
theorem DkOk.len(D:DkOk h L):L.length≤nP h:=by
 have:=l6 D.nd (m:=(kL h).flatMap λl=>(kL h).map λk=>(l,k)) λy d=>by
  let⟨p,c,rfl⟩:=aap.mp d;exact ach.mpr ⟨p.1.1,adT.mpr ⟨kU (D.ln p c).1.fits,decide_eq_true (D.kp p c).1⟩,aap.mpr ⟨p.1.2,adT.mpr ⟨kU (D.ln p c).2.fits,decide_eq_true (D.kp p c).2⟩,rfl⟩⟩
 rw[iO]at this;refine aas this (afV ?_);unfold nP;generalize kL h=A;have:∀B:List (List Nat),(B.flatMap λl=>A.map λk=>(l,k)).length=B.length*A.length:=λB=>by
  induction B with
  |nil=>simp
  |cons b B i=>rw[List.flatMap_cons,aaj,i,iO,aaA,adt,Nat.add_comm]
 exact this A
def pot(h:Hall)(M:Nat)(L:List (Pk×Int)):Nat:=smL L+(nP h-L.length)*(M+2)
theorem DkOk.put{M:Nat}{v:Int}(D:DkOk h L)(n:Lines h a.1)(l:Lines h a.2)(g:cA h a.1=a.1/\cA h a.2=a.2)(j:0≤v)(C:v≤(M:Int)+1)(d:v<(lkL a L).getD (v+1)):DkOk h (setL a v L)/\pot h M (setL a v L)+1≤pot h M L/\((setL a v L).length=L.length->∃w,(a,w)∈L/\v<w)/\L.length≤(setL a v L).length:=by
 cases e:lkL a L with
 | none=>
  have s:=sX (v:=v) e;have o:DkOk h (L++[(a,v)]):=by
   refine⟨?_,λp b=>?_,λp b=>?_,λp b=>?_⟩
   .rw[aaq];exact acK.mpr ⟨D.nd,acr _ _,λx f y r z=>Iu e (by have:=z.trans (aab.mp r);rw[show x=a from this]at f;exact f)⟩
   .rcases aaT.mp b with z|z
    .exact D.ln p z
    .rw[aab.mp z];exact⟨n,l⟩
   .rcases aaT.mp b with z|z
    .exact D.nn p z
    .rw[aab.mp z];exact j
   .rcases aaT.mp b with z|z
    .exact D.kp p z
    .rw[aab.mp z];exact g
  have le:=o.len;rw[s];refine⟨o,?_,λz=>?_,by simp⟩
  .rw[aaj]at le;have A:L.length+1≤nP h:=le;unfold pot;rw[aaj,show smL (L++[(a,v)])=smL L+v.toNat by simp[smL]];let⟨k,hk⟩:∃k,nP h=L.length+1+k:=⟨nP h-(L.length+1),by omega⟩;rw[hk,show L.length+1+k-(L.length+[(a,v)].length)=k by simp,show L.length+1+k-L.length=k+1 by omega,adt];omega
  .simp at z
 | some w=>
  rw[e]at d;have c:v<w:=d;let⟨E,i,u⟩:=tX (v:=v) e;have m:=u3 e;have B:=D.nn _ m;refine⟨⟨by rw[u];exact D.nd,λp b=>?_,λp b=>?_,λp b=>?_⟩,?_,λ_=>⟨w,m,c⟩,afV i.symm⟩
  .rcases fV b with z|z
   .rw[z];exact⟨n,l⟩
   .exact D.ln p z
  .rcases fV b with z|z
   .rw[z];exact j
   .exact D.nn p z
  .rcases fV b with z|z
   .rw[z];exact g
   .exact D.kp p z
  .unfold pot;rw[i];dsimp only at B;omega
def tU(d:h.Ok)(b:r1.Ok h)(c:r2.Ok h)(n1:r1≠.turns)(n2:r2≠.turns){m:Mv}(R:Lines h t.1/\Lines h t.2.1)(e:m∈mvs h):Lines h (bth h r1 r2 t m).1/\Lines h (bth h r1 r2 t m).2.1:=by
 have o:=zq d _ e;exact⟨mI (jh d b (t:=0) ⟨R.1,λz=>(n1 z).elim,by decide⟩ o).ln,mI (jh d c (t:=0) ⟨R.2,λz=>(n2 z).elim,by decide⟩ o).ln⟩
theorem je(c:h.Ok)(b:r1.Ok h)(d:r2.Ok h)(n1:r1≠.turns)(n2:r2≠.turns)(R:RcT h r1 r2 t):Lines h t.1/\Lines h t.2.1:=by
 induction R with
 |here=>exact⟨(gZ c r1).ln,(gZ c r1).ln⟩
 |next _ e i=>exact tU c b d n1 n2 i e
theorem GH{m:Mv}:(bth h r1 r2 t m).2.2≤t.2.2+1:=by
 unfold bth aw;dsimp only
 split<;>split<;>omega
def Iz(b:bad t=false):0≤t.2.2:=by
 unfold bad at b;simp at b;exact b.1
def ldT(L:List (Pk×Int)):List Tr:=L.map λp=>(p.1.1,p.1.2,p.2)
theorem OT(D:DkOk h L)(V:∀p∈L,p.2≤1000000):∀t∈ldT L,TrOk h t:=λt c=>by
 let⟨p,b,rfl⟩:=aap.mp c;have v:=V p b;exact⟨(D.ln p b).1,(D.ln p b).2,(D.kp p b).1,(D.kp p b).2,D.nn p b,show p.2<10^15 by omega⟩
theorem G6:∀{L:List (Pk×Int)},(L.map (·.1)).Nodup->∀p∈L,lkL p.1 L=some p.2
 |q::L,nd,p,b=>by
  rw[aak,aba]at nd;unfold lkL;rcases aaf.mp b with rfl|b
  .rw[if_pos rfl]
  .rw[if_neg λz=>nd.1 (by rw[z];exact aap.mpr ⟨p,b,rfl⟩)];exact G6 nd.2 p b
def stT(h:Hall):Tr:=(zer h,zer h,0)
def wlk(h:Hall)(r1 r2:Rule)(R:List Mv):Tr:=R.foldl (bth h r1 r2) (stT h)
def RunK(h:Hall)(R:List Mv):Prop:=∀m∈R,m∈mvs h
section
variable {h:Hall}{r1 r2:Rule}{R:List Mv}{m:Mv}{t u:Tr}{L:List (Pk×Int)}
def fI:wlk h r1 r2 (R++[m])=bth h r1 r2 (wlk h r1 r2 R) m:=by unfold wlk;rw[ahc];rfl
def RunK.snoc(k:RunK h R)(c:m∈mvs h):RunK h (R++[m]):=λx b=>by
 rcases aaT.mp b with z|z
 .exact k x z
 .rwa[aab.mp z]
def RunK.cut(k:RunK h (R++[m])):RunK h R/\m∈mvs h:=⟨λx b=>k x (abB _ b),k m (aaI _ aaa)⟩
structure LeT(u t:Tr):Prop where
 x:u.1=t.1
 y:u.2.1=t.2.1
 d:u.2.2≤t.2.2
def LeT.refl(t:Tr):LeT t t:=⟨rfl,rfl,aeF _⟩
def LeT.trans{v:Tr}(a:LeT u t)(b:LeT t v):LeT u v:=⟨a.x.trans b.x,a.y.trans b.y,aei a.d b.d⟩
theorem LeT.bth(a:LeT u t):LeT (bth h r1 r2 u m) (bth h r1 r2 t m):=by
 unfold K.bth;have:=a.d;refine⟨by rw[a.x],by rw[a.y],?_⟩;dsimp only;rw[a.x,a.y];omega
theorem LeT.good(a:LeT u t)(b:bad u=false):bad t=false:=by
 have:=a.d;unfold bad at b⊢;rw[a.x,a.y]at b;simp only[aeB,decide_eq_false_iff_not]at b⊢;omega
def p9:bad (stT h)=false:=by
 unfold bad stT;simp
def Cv(L:List (Pk×Int))(t:Tr):Prop:=∃p∈L,LeT (p.1.1,p.1.2,p.2) t
def Cv.le(c:Cv L u)(a:LeT u t):Cv L t:=let ⟨p,hp,b⟩:=c;⟨p,hp,b.trans a⟩
theorem kM{a:Pk}{v:Int}:∀L:List (Pk×Int),(a,v)∈setL a v L
 |[]=>aaa
 |q::L=>by
  unfold setL;split
  .rename_i e;rw[<-e];exact aaa
  .exact LD _ (kM L)
theorem sv{a:Pk}{v:Int}{p:Pk×Int}(n:p.1≠a):∀{L:List (Pk×Int)},p∈L->p∈setL a v L
 | q::L,b=>by
  unfold setL;rcases aaf.mp b with rfl|b
  .rw[if_neg n];exact aaa
  .split
   .exact LD _ b
   .exact LD _ (sv n b)
theorem Cv.set{v:Int}(c:Cv L t)(D:DkOk h L)(f:v<(lkL a L).getD (v+1)):Cv (setL a v L) t:=by
 let⟨p,g,b⟩:=c
 by_cases e:p.1=a
 .have el:=G6 D.nd p g;rw[e]at el;rw[el]at f;have f:v<p.2:=f;refine⟨(a,v),kM L,?_⟩;have d:p.2≤t.2.2:=b.d;subst e;exact⟨b.x,b.y,show v≤t.2.2 by omega⟩
 .exact⟨p,sv e g,b⟩
def T8{w:Int}(e:lkL a L=some w)(b:w≤t.2.2)(c:a=(t.1,t.2.1)):Cv L t:=⟨_,u3 e,by subst c;exact⟨rfl,rfl,b⟩⟩
def Min(h:Hall)(r1 r2:Rule)(n:Nat):Prop:=∀R,RunK h R->R.length<n->bad (wlk h r1 r2 R)=false
def yl(h:Hall)(r1 r2:Rule):Prop:=∀R,RunK h R->bad (wlk h r1 r2 R)=false
theorem IE(k:RunK h R):RcT h r1 r2 (wlk h r1 r2 R):=by
 have go:∀(R:List Mv) (t:Tr),RunK h R->RcT h r1 r2 t->RcT h r1 r2 (R.foldl (bth h r1 r2) t):=λR=>by
  induction R with
  |nil=>exact λt _ q=>q
  |cons m R i=>exact λt k q=>i _ (λx b=>k x (LD _ b)) (.next q (k m aaa))
 exact go R _ k .here
theorem Da(R:List Mv):cA h (wlk h r1 r2 R).1=(wlk h r1 r2 R).1/\cA h (wlk h r1 r2 R).2.1=(wlk h r1 r2 R).2.1:=by
 have go:∀(R:List Mv) (t:Tr),cA h t.1=t.1/\cA h t.2.1=t.2.1->cA h (R.foldl (bth h r1 r2) t).1=(R.foldl (bth h r1 r2) t).1/\cA h (R.foldl (bth h r1 r2) t).2.1=(R.foldl (bth h r1 r2) t).2.1:=λR=>by
  induction R with
  |nil=>exact λt q=>q
  |cons m R i=>exact λt q=>i _ ⟨jl h _,jl h _⟩
 exact go R _ ⟨fz,fz⟩
def Cl(h:Hall)(r1 r2:Rule)(L:List (Pk×Int))(t:Tr):Prop:=∀m∈mvs h,bad (bth h r1 r2 t m)=false/\Cv L (bth h r1 r2 t m)
def Cl.run{t:Tr}(c:Cl h r1 r2 L t)(a:LeT t (wlk h r1 r2 R))(e:m∈mvs h):bad (wlk h r1 r2 (R++[m]))=false/\Cv L (wlk h r1 r2 (R++[m])):=by
 let⟨b,d⟩:=c m e;rw[fI];exact⟨a.bth.good b,d.le a.bth⟩
structure Lv(h:Hall)(r1 r2:Rule)(q:Nat)(L:List (Pk×Int))(ln:List Tr):Prop where
 a:∀R,RunK h R->R.length≤q->bad (wlk h r1 r2 R)=false/\Cv L (wlk h r1 r2 R)
 ex:∀p∈L,(p.1.1,p.1.2,p.2)∈ln\/Cl h r1 r2 L (p.1.1,p.1.2,p.2)
 ln:∀t∈ln,∃R,RunK h R/\R.length=q/\wlk h r1 r2 R=t
def Lv.zero:Lv h r1 r2 0 [((zer h,zer h),0)] [stT h] where
 a:=λR _ l=>by
  rw[aa6 (Nat.le_zero.mp l)];exact⟨p9,_,aaa,.refl _⟩
 ex:=λp c=>.inl (by rw[aab.mp c];exact aaa)
 ln:=λt b=>⟨[],λ_ z=>(by cases z),rfl,(aab.mp b).symm⟩
theorem vc:∀{R:List α},R≠[]->∃b m,R=b++[m]:=λ{R} h=>⟨R.dropLast,R.getLast h,(List.dropLast_concat_getLast h).symm⟩
theorem Lv.all(X:Lv h r1 r2 q L []):∀n R,R.length=n->RunK h R->bad (wlk h r1 r2 R)=false/\Cv L (wlk h r1 r2 R)
 |0,R,l,k=>X.a R k (by omega)
 |n+1,R,l,k=>by
  let⟨e,m,rfl⟩:=vc (R:=R) (λz=>by rw[z]at l;cases l);let⟨d,c⟩:=k.cut;let⟨_,p,f,b⟩:=X.all n e (by simpa using l) d;exact((X.ex p f).resolve_left (λz=>by cases z)).run b c
theorem Lv.sound(X:Lv h r1 r2 q L []):yl h r1 r2:=λR k=>(X.all _ R rfl k).1
structure Lw(h:Hall)(r1 r2:Rule)(q:Nat)(L0:List (Pk×Int))(ln:List Tr)(L:List (Pk×Int))(F:List Tr)(i j:Nat):Prop where
 v:Lv h r1 r2 q L0 ln
 dk:DkOk h L
 up:∀t,Cv L0 t->Cv L t
 nw:∀p∈L,p∈L0\/(p.1.1,p.1.2,p.2)∈F
 fr:∀t∈F,∃R,RunK h R/\R.length=q+1/\wlk h r1 r2 R=t
 cl:∀i' t,i'<i->ln[i']?=some t->Cl h r1 r2 L t
 cj:∀j' t m,j'<j->ln[i]?=some t->(mvs h)[j']?=some m->bad (bth h r1 r2 t m)=false/\Cv L (bth h r1 r2 t m)
theorem Lw.zero{ln:List Tr}(X:Lv h r1 r2 q L ln)(D:DkOk h L):Lw h r1 r2 q L ln L [] 0 0:=⟨X,D,λ_ z=>z,λ_ z=>.inl z,λ_ z=>(by cases z),λi t z=>(by cases z),λj t m z=>(by cases z)⟩
section
variable {q i j:Nat}{d:List (Pk×Int)}{ln F:List Tr}
theorem Lw.next(X:Lw h r1 r2 q d ln L F i (mvs h).length):Lw h r1 r2 q d ln L F (i+1) 0:={X with
 cl:=λb t k e=>by
  by_cases z:b<i
  .exact X.cl b t z e
  .have:b=i:=by omega
   subst this;intro m f;let⟨g,c⟩:=abX f;exact X.cj g t m (Ad.mp c).1 e c
 cj:=λ_ _ _ z=>(by cases z)}
def Lw.at(X:Lw h r1 r2 q d ln L F i j)(c:ln[i]?=some t)(b:m∈mvs h):(∃R,RunK h R/\R.length=q+1/\wlk h r1 r2 R=bth h r1 r2 t m):=by
 let⟨R,k,l,e⟩:=X.v.ln t (GT c);exact⟨R++[m],k.snoc b,by simp[l],by rw[fI,e]⟩
theorem Lw.bad(X:Lw h r1 r2 q d ln L F i j)(n:ln[i]?=some t)(c:m∈mvs h)(b:bad (bth h r1 r2 t m)=true):(∃R,RunK h R/\R.length=q+1/\bad (wlk h r1 r2 R)=true)/\Min h r1 r2 (q+1):=by
 let⟨R,k,l,e⟩:=X.at n c;exact⟨⟨R,k,l,by rw[e];exact b⟩,λf g o=>(X.v.a f g (by omega)).1⟩
theorem Lw.step{L':List (Pk×Int)}{F':List Tr}(X:Lw h r1 r2 q d ln L F i j)(o:ln[i]?=some t)(r:(mvs h)[j]?=some m)(b:K.bad (bth h r1 r2 t m)=false)(dk:DkOk h L')(up:∀u,Cv L u->Cv L' u)(c:Cv L' (bth h r1 r2 t m))(nw:∀p∈L',p∈L\/(p.1.1,p.1.2,p.2)∈F')(y:∀u∈F,u∈F')(fr:∀u∈F',u∈F\/u=bth h r1 r2 t m):Lw h r1 r2 q d ln L' F' i (j+1) where
 v:=X.v
 dk:=dk
 up:=λu z=>up u (X.up u z)
 nw:=λp w=>(nw p w).elim (λz=>(X.nw p z).imp id (y _)) .inr
 fr:=λu A=>(fr u A).elim (X.fr u) λz=>by rw[z];exact X.at o (GT r)
 cl:=λx g s e l f=>(X.cl x g s e l f).imp id (up _)
 cj:=λn g l B e k=>by
  by_cases z:n<j
  .exact(X.cj n g l z e k).imp id (up _)
  .have:n=j:=by omega
   subst this;rw[o]at e;rw[r]at k
   cases e;cases k
   exact⟨b,c⟩
def Lw.end(X:Lw h r1 r2 q d ln L F ln.length 0):Lv h r1 r2 (q+1) L F where
 a:=λR k l=>by
  by_cases z:R.length≤q
  .exact(X.v.a R k z).imp id (X.up _)
  .obtain⟨R0,m,rfl⟩:=vc (R:=R) (λn=>by rw[n]at z;simp at z);let⟨r,o⟩:=k.cut;let⟨_,p,f,b⟩:=X.v.a R0 r (by simpa using l);have C:Cl h r1 r2 L (p.1.1,p.1.2,p.2):=by
    rcases X.v.ex p f with z|z
    .obtain⟨i',e⟩:=abX z;exact X.cl i' _ (Ad.mp e).1 e
    .exact λg c=>(z g c).imp id (X.up _)
   exact C.run b o
 ex:=λp f=>by
  rcases X.nw p f with z|z
  .rcases X.v.ex p z with y|y
   .obtain⟨i',e⟩:=abX y;exact .inr (X.cl i' _ (Ad.mp e).1 e)
   .exact .inr λg c=>(y g c).imp id (X.up _)
  .exact .inl z
 ln:=X.fr
end
end
abbrev Wy:=Option (Nat×Mv)
def CvD(T:List Tr)(P:List (List Mv))(d:Nat)(u:Tr):Prop:=∃(j:Nat) (p:List Mv) (t:Tr),P[j]?=some p/\T[j]?=some t/\p.length≤d/\LeT t u
def dw{l m:List α}{x:α}{k:Nat}(e:l[k]?=some x):(l++m)[k]?=some x:=by rw[aaC (Ad.mp e).1];exact e
section
variable {h:Hall}{r1 r2:Rule}{L L':List (Pk×Int)}{T:List Tr}{Y:List Wy}{P:List (List Mv)}{C i j:Nat}{m:Mv}{p:List Mv}{t u:Tr}
theorem CvD.le{d d':Nat}(c:CvD T P d u)(hd:d≤d')(a:LeT u t):CvD T P d' t:=let ⟨j,p,x,e1,e2,e3,b⟩:=c;⟨j,p,x,e1,e2,aas e3 hd,b.trans a⟩
theorem CvD.snoc{d:Nat}{x:Tr}{y:List Mv}(c:CvD T P d u):CvD (T++[x]) (P++[y]) d u:=let ⟨j,p,t,e1,e2,e3,b⟩:=c;⟨j,p,t,dw e1,dw e2,e3,b⟩
structure Qv(h:Hall)(r1 r2:Rule)(C:Nat)(L:List (Pk×Int))(T:List Tr)(Y:List Wy)(P:List (List Mv))(i j:Nat):Prop where
 dk:DkOk h L
 lt:T.length=P.length
 ly:Y.length=P.length
 tr:∀(k:Nat) (p:List Mv),P[k]?=some p->RunK h p/\T[k]?=some (wlk h r1 r2 p)
 wy:∀(k:Nat) (p:List Mv),P[k]?=some p->(p=[]/\Y[k]?=some none)\/∃(a:Nat) (m:Mv) (q:List Mv),a<k/\P[a]?=some q/\p=q++[m]/\Y[k]?=some (some (a,m))
 mo:∀(k l:Nat) (p q:List Mv),P[k]?=some p->P[l]?=some q->k≤l->p.length≤q.length
 cv:∀t∈T,Cv L t
 dl:∀x∈L,(x.1.1,x.1.2,x.2)∈T
 gd:∀t∈T,bad t=false
 p0:P[0]?=some []
 vt:∀t∈T,t.2.2≤(L.length:Int)
 pt:T.length+pot h (nP h) L≤C
 ex:∀(k:Nat) (p:List Mv) (m:Mv),k<i->P[k]?=some p->m∈mvs h->bad (wlk h r1 r2 (p++[m]))=false/\CvD T P (p.length+1) (wlk h r1 r2 (p++[m]))
 ej:∀(k:Nat) (p:List Mv) (m:Mv),k<j->P[i]?=some p->(mvs h)[k]?=some m->bad (wlk h r1 r2 (p++[m]))=false/\CvD T P (p.length+1) (wlk h r1 r2 (p++[m]))
 dp:∀(k:Nat) (p q:List Mv),P[i]?=some p->P[k]?=some q->q.length≤p.length+1
theorem Qv.zero(d:h.Ok):Qv h r1 r2 (1+pot h (nP h) [((zer h,zer h),0)]) [((zer h,zer h),0)] [stT h] [none] [[]] 0 0:=by
 have one:∀{α:Type}{x y:α}{k:Nat},[x][k]?=some y->y=x/\k=0:=λ{α x y k} e=>by
  cases k with
  |zero=>cases e;exact⟨rfl,rfl⟩
  |succ k=>simp at e
 exact {
  dk:=⟨acr _ _,λp b=>by rw[aab.mp b];exact⟨(gZ d r1).ln,(gZ d r1).ln⟩,λp b=>by rw[aab.mp b];exact aeF _,λp b=>by rw[aab.mp b];exact⟨fz,fz⟩⟩
  lt:=rfl
  ly:=rfl
  tr:=λk p e=>by let⟨rfl,rfl⟩:=one e;exact⟨(λ_ z=>(by cases z)),rfl⟩
  wy:=λk p e=>by let⟨rfl,rfl⟩:=one e;exact .inl ⟨rfl,rfl⟩
  mo:=λk l p q g f _=>by let⟨rfl,_⟩:=one g;exact abm _
  cv:=λt c=>⟨_,aaa,by rw[aab.mp c];exact .refl _⟩
  dl:=λx n=>by rw[aab.mp n];exact aaa
  gd:=λt c=>by rw[aab.mp c];exact p9
  p0:=rfl
  vt:=λt c=>by rw[aab.mp c];exact(by decide:(0:Int)≤1)
  pt:=Mt _
  ex:=λk p m z=>(by cases z)
  ej:=λk p m z=>(by cases z)
  dp:=λk p q g f=>by let⟨rfl,_⟩:=one f;exact abm _}
def Qv.here(X:Qv h r1 r2 C L T Y P i j)(b:T[i]?=some t):∃p,P[i]?=some p/\RunK h p/\t=wlk h r1 r2 p:=by
 have d:i<P.length:=by rw[<-X.lt];exact(Ad.mp b).1
 have c:=lD d;let⟨k,e⟩:=X.tr i _ c;rw[b]at e;exact⟨_,c,k,aaB e⟩
theorem Qv.runs(X:Qv h r1 r2 C L T Y P i j){N:Nat}(g:∀k q,P[k]?=some q->q.length<N->k<i):∀n R,R.length=n->n≤N->RunK h R->bad (wlk h r1 r2 R)=false/\CvD T P n (wlk h r1 r2 R)
 |0,R,l,_,_=>by
  rw[aa6 l];exact⟨p9,0,[],_,X.p0,(X.tr 0 [] X.p0).2,Mt _,.refl _⟩
 |n+1,R,l,hn,k=>by
  let⟨c,m,rfl⟩:=vc (R:=R) (λz=>by rw[z]at l;cases l);let⟨s,r⟩:=k.cut;let⟨_,a,q,t,e,o,v,b⟩:=X.runs g n c (by simpa using l) (by omega) s;let⟨x,y⟩:=X.ex a q m (g a q e (by omega)) e r;have f:=(X.tr a q e).2;rw[o]at f;cases f;have d:LeT (wlk h r1 r2 (q++[m])) (wlk h r1 r2 (c++[m])):=by rw[fI,fI];exact b.bth
  exact⟨d.good x,y.le (by omega) d⟩
theorem Qv.min(X:Qv h r1 r2 C L T Y P i j)(b:P[i]?=some p):Min h r1 r2 (p.length+1):=λR k l=>(X.runs (N:=p.length) (λk q e z=>by
 rcases Nat.lt_or_ge k i with y|y
 .exact y
 .have:=X.mo i k p q b e y;omega) _ R rfl (by omega) k).1
theorem Qv.done(X:Qv h r1 r2 C L T Y P i j)(b:T.length≤i){R:List Mv}(k:RunK h R):bad (wlk h r1 r2 R)=false/\CvD T P R.length (wlk h r1 r2 R):=X.runs (N:=R.length) (λk q e _=>by
 have:=(Ad.mp e).1;have:=X.lt;omega) _ R rfl (Mt _) k
theorem Qv.next(X:Qv h r1 r2 C L T Y P i (mvs h).length):Qv h r1 r2 C L T Y P (i+1) 0:={X with
 ex:=λk p m hk e b=>by
  by_cases z:k<i
  .exact X.ex k p m z e b
  .have:k=i:=by omega
   subst this;let⟨l,c⟩:=abX b;exact X.ej l p m (Ad.mp c).1 e c
 ej:=λ_ _ _ z=>(by cases z)
 dp:=λk p q f n=>by
  have g:i<P.length:=by have:=(Ad.mp f).1;omega
  have d:=lD g;have:=X.dp k _ q d n;have:=X.mo i (i+1) _ p d f (by omega);omega}
theorem Qv.old(X:Qv h r1 r2 C L T Y P i j)(n:P[i]?=some p)(v:(mvs h)[j]?=some m)(b:bad (wlk h r1 r2 (p++[m]))=false)(c:Cv L (wlk h r1 r2 (p++[m]))):Qv h r1 r2 C L T Y P i (j+1):={X with
 ej:=λk o s hk e d=>by
  by_cases z:k<j
  .exact X.ej k o s z e d
  .have:k=j:=by omega
   subst this;rw[n]at e;rw[v]at d
   cases e;cases d
   let⟨x,r,a⟩:=c;let⟨l,g⟩:=abX (X.dl x r);have f:l<P.length:=by rw[<-X.lt];exact(Ad.mp g).1
   exact⟨b,l,_,_,lD f,g,X.dp l p _ n (lD f),a⟩}
theorem dq{l:List α}{x y:α}{k:Nat}(e:(l++[x])[k]?=some y):l[k]?=some y\/(k=l.length/\y=x):=by
 rw[List.getElem?_append]at e
 split at e
 .exact .inl e
 .have hk:=(Ad.mp e).1;simp at hk;have:k=l.length:=by omega
  subst this;simp at e;exact .inr ⟨rfl,e.symm⟩
def qh{l:List α}{x:α}:(l++[x])[l.length]?=some x:=by simp
theorem Qv.new(X:Qv h r1 r2 C L T Y P i j)(Q:h.Ok)(B:r1.Ok h)(y:r2.Ok h)(n1:r1≠.turns)(n2:r2≠.turns)(f:P[i]?=some p)(H:(mvs h)[j]?=some m)(r:u=wlk h r1 r2 (p++[m]))(b:bad u=false)(G:u.2.2<(lkL (u.1,u.2.1) L).getD (u.2.2+1)):Qv h r1 r2 C (setL (u.1,u.2.1) u.2.2 L) (T++[u]) (Y++[some (i,m)]) (P++[p++[m]]) i (j+1):=by
 have J:=GT H;let⟨kp,R⟩:=X.tr i p f;have kr:=kp.snoc J;have A:=je Q B y n1 n2 (IE (r1:=r1) (r2:=r2) kr);have K:=Da (h:=h) (r1:=r1) (r2:=r2) (p++[m]);rw[<-r]at A K;have N:=Iz b;have U:u.2.2≤(L.length:Int)+1:=by
  rw[r,fI];exact aei GH (Int.add_le_add_right (X.vt _ (GT R)) 1)
 have S:=X.dk.len;let⟨D,pt,q,le⟩:=X.dk.put (M:=nP h) (a:=(u.1,u.2.1)) A.1 A.2 K N (by omega) G;have O:u.2.2≤((setL (u.1,u.2.1) u.2.2 L).length:Int):=by
  by_cases e:(setL (u.1,u.2.1) u.2.2 L).length=L.length
  .obtain⟨w,hw,vw⟩:=q e;have:=X.vt _ (X.dl _ hw);dsimp only at this;omega
  .omega
 have I:i<P.length:=(Ad.mp f).1;exact {
  dk:=D
  lt:=by rw[aaj,aaj,X.lt];rfl
  ly:=by rw[aaj,aaj,X.ly];rfl
  tr:=λk q e=>by
   rcases dq e with e|⟨rfl,rfl⟩
   .exact(X.tr k q e).imp id dw
   .exact⟨kr,by rw[<-X.lt,<-r];exact qh⟩
  wy:=λk q e=>by
   rcases dq e with e|⟨rfl,rfl⟩
   .rcases X.wy k q e with⟨z1,z2⟩|⟨a,o,n,z1,z2,z3,z4⟩
    .exact .inl ⟨z1,dw z2⟩
    .exact .inr ⟨a,o,n,z1,dw z2,z3,dw z4⟩
   .exact .inr ⟨i,m,p,I,dw f,rfl,by rw[<-X.ly];exact qh⟩
  mo:=λk l q n d c F=>by
   rcases dq d with d|⟨rfl,rfl⟩
   .rcases dq c with c|⟨rfl,rfl⟩
    .exact X.mo k l q n d c F
    .have:=X.dp k p q f d;rw[aaj];exact this
   .rcases dq c with c|⟨rfl,rfl⟩
    .have:=(Ad.mp c).1;omega
    .exact Mt _
  cv:=λt g=>by
   rcases aaT.mp g with z|z
   .exact(X.cv t z).set X.dk G
   .rw[aab.mp z];exact⟨_,kM L,.refl _⟩
  dl:=λx s=>by
   rcases fV s with rfl|s
   .exact aaI _ aaa
   .exact abB _ (X.dl x s)
  gd:=λt g=>by
   rcases aaT.mp g with z|z
   .exact X.gd t z
   .rw[aab.mp z];exact b
  p0:=dw X.p0
  vt:=λt g=>by
   rcases aaT.mp g with z|z
   .have:=X.vt t z;omega
   .rw[aab.mp z];exact O
  pt:=by rw[aaj,aem];have:=X.pt;omega
  ex:=λk q o hk e E=>by
   rcases dq e with e|⟨rfl,rfl⟩
   .exact(X.ex k q o hk e E).imp id .snoc
   .omega
  ej:=λk q o hk e v=>by
   rcases dq e with e|⟨z,rfl⟩
   .by_cases z:k<j
    .exact(X.ej k q o z e v).imp id .snoc
    .have:k=j:=by omega
     subst this;rw[f]at e;rw[H]at v
     cases e;cases v
     rw[<-r];exact⟨b,P.length,p++[m],u,qh,by rw[<-X.lt];exact qh,by simp,.refl _⟩
   .omega
  dp:=λk q n d c=>by
   rcases dq d with d|⟨z,rfl⟩
   .rw[f]at d;cases d;rcases dq c with c|⟨rfl,rfl⟩
    .exact X.dp k p n f c
    .simp
   .omega}
theorem Qv.dep(X:Qv h r1 r2 C L T Y P i j):∀(k:Nat) (p:List Mv),P[k]?=some p->p.length≤k:=λk=>by
 induction k using Nat.strongRecOn with
 |ind k b=>
  intro p e;rcases X.wy k p e with⟨rfl,_⟩|⟨a,m,q,l,c,rfl,_⟩
  .exact abm _
  .have:=b a l q c;rw[aaj];simp only[aem];omega
theorem Qv.nvr(X:Qv h r1 r2 C L T Y P i j)(F:T.length≤i){Z:List Tr}(s:Z.Perm (ldT L)):Nvr h r1 r2 Z:=by
 have g:∀{t:Tr},t∈Z->∃x∈L,t=(x.1.1,x.1.2,x.2):=λ{t} f=>by
  let⟨x,d,e⟩:=aap.mp (s.mem_iff.mp f);exact⟨x,d,e.symm⟩
 have n:∀{x:Pk×Int},x∈L->(x.1.1,x.1.2,x.2)∈Z:=λ{x} d=>s.mem_iff.mpr (aap.mpr ⟨x,d,rfl⟩);refine⟨?_,λt f=>?_,λt f m A=>?_⟩
 .obtain⟨x,d,b⟩:=X.cv (stT h) (GT (X.tr 0 [] X.p0).2);have G:=X.dk.nn x d;have D:x.2≤0:=b.d;have:(x.1.1,x.1.2,x.2)=(zer h,zer h,(0:Int)):=ahA b.x (ahA b.y (show x.2=0 by omega));rw[<-this];exact n d
 .obtain⟨x,d,rfl⟩:=g f;exact X.gd _ (X.dl x d)
 .obtain⟨x,d,rfl⟩:=g f;let⟨k,o⟩:=abX (X.dl x d);have hk:=(Ad.mp o).1;have v:=lD (show k<P.length by rw[<-X.lt];exact hk);have r:=(X.tr k _ v).2;rw[o]at r;have:=(X.ex k _ m (by omega) v A).2;rw[fI,<-aaB r]at this;let⟨l,q,B,E,z,_,b⟩:=this;let⟨y,w,c⟩:=X.cv B (GT z);exact⟨_,n w,c.x.trans b.x,c.y.trans b.y,aei c.d b.d⟩
end
end K
namespace L2
open PySem PySem.Spec PyProof.Rows
variable{es:Array ab8}{Q:mT->AD->Prop}{kvs:List (aD×aD)}
section
variable {prog:aaF}{w:World}{A:aa4}{E:mT->AD->Prop}{s:AD}
theorem yB{d:Addr}{o:Obj}{a:Nat}(hd:(d==abu)=false)(e:s.heap.get? d=some o)(c:o.ExactDict)(q:o.data = .dict es a)(b:(es.size:Int)<2^63)(h:∀t n,Q (.int es.size t) {s with toks:=n}):wpAny (model prog w) A (acI.«len» ⟨[.ref d],[]⟩) (λf s'=>∃r,f = .done (.ret r)/\Q r s') E s:=by
 have ty:s.TypeIs (.ref d) "dict":=⟨o,e,c.1⟩;unfold acI.«len»;apply gT (m:=oneArg "len" _);refine Io ?_;apply gT (m:=callSpecial? (.ref d) "__len__");refine aa0 (name:= "__len__") ty F.slot_dict_len ?_;refine abc F.slot_dict_len ty F.entry_dict_len ?_ (F.args_dict_len_1 _);apply gT (m:=dictSize d)
 delta dictSize
 refine gT ?_;refine acM e q ?_;refine Io ?_;apply gT (m:=acI.Dict.pendingCount d);refine wpAny_pendingCount_other hd ?_;refine agb ?_;rw[show((es.size:Nat):Int)+((0:Nat):Int)=((es.size:Nat):Int) by omega]
 try dsimp only
 apply gT (m:=adr [_] (asIndex _));refine abZ (Io ?_);refine gT (afp ?_)
 try dsimp only
 rw[if_neg (by omega),if_neg (by omega)];exact agb (h _ _)
theorem xq{d:Addr}{o:Obj}{b:Nat}(hd:(d==abu)=false)(e:s.heap.get? d=some o)(c:o.ExactDict)(q:o.data = .dict es b)(a:(es.size:Int)<2^63)(h:∀t n,Q (.int es.size t) {s with toks:=n}):wpAny (model prog w) A (call (.builtin "len") [.ref d]) Q E s:=afi kind_len plain_len entry_len (args_len1 _) (yB hd e c q a h)
end
section
variable {X:Cx}{p:List (Addr×Obj)}{b:St}{H:Hp}{s:AD}
theorem Uj{A:aa4}{E:mT->AD->Prop}{a:Addr}(I:Inv X p b H s)(h:IsDc X.kd H a kvs)(f:∀t s',Inv X p b H s'->Q (.int kvs.length t) s'):wpAny (model X.prog X.w) A (call (.builtin "len") [.ref a]) Q E s:=by
 rcases h with⟨es,r,g⟩|⟨es,r,kd,nd,g⟩
 .obtain⟨hz,hs,vs,kv,dd⟩:=ou I.hok r;let⟨o,c,u,j,k,i,_,d,_⟩:=dd;have l:=d.length;have v:=kv.length;have q:=g.len;rw[abJ]at l;have e:c.size=kvs.length:=by omega
  rw[aae]at hz;refine xq hs j k i (by omega) λt n=>?_;rw[e];exact f t _ (I.tok _)
 .obtain⟨⟨hs,hz,o,c,u,j,k,i,d⟩,_⟩:=(show ObjOk X.prog X.w H s.heap a (dX a es)from r.ok I.hok);have l:=d.length;have q:=g.len;have m:es.length=c.size:=by rw[<-abJ];exact d.length
  have e:c.size=kvs.length:=by omega
  rw[aae]at hz;refine xq hs j k i (by omega) λt n=>?_;rw[e];exact f t _ (I.tok _)
def QP:WC:=λrs m K=>on1 (λr=>∃kvs:List (aD×aD),dcM m kvs r/\(isKd kvs||kyA kvs)=true/\K (.imm (.int kvs.length))) rs
theorem pP:dM X (.builtin "len") (cM X.kx QP):=by
 intro p s d H x l Q I e ⟨q,m,b,n,rs,K,R,h,c,f⟩;let⟨r,v,rfl,rfl,g,kvs,hd,hk,c⟩:=ef h c;let⟨a,rfl,i⟩:=g.dc R hd (by simpa using hk);let⟨u,rfl,k⟩:=e.one;cases k;exact Uj I i λt o j=>⟨.int kvs.length,H,j,⟨t,rfl⟩,f _ _ H c R (dI _) (Frm.refl _ _)⟩
def Bz{m:MSt}{r:R}{K:R->Prop}(a:dcM m kvs r)(c:(isKd kvs||kyA kvs)=true)(h:K (.imm (.int kvs.length))):QP [r] m K:=⟨kvs,a,c,h⟩
end
end L2
namespace K
open PySem L2
variable{Kr:L2.R->Prop}{r:Rule}{os:List Nat}{h:Hall}{M a b:Nat}{L:List (Pk×Int)}{Rr:Tr->Prop}{l:ahu}
local macro_rules | `(tactic| walk_at"1") => `(tactic| first
 |((with_reducible refine' yz ?xe ?_);(case xe=>rfl))|(with_reducible first        |apply x_h0|apply x_h1|apply x_h2|apply Qb|apply Rg|apply x_lt|apply x_le|apply x_gt|apply x_ge     |apply Ut|apply x_neI|apply UJ|apply Uy )|((with_reducible refine' x_nd ?xe ?_);(case xe=>first|rfl|assumption))  |(with_reducible first   |apply x_ts)
 |((with_reducible refine' ba ?xe ?_);(case xe=>rfl))|((with_reducible refine' jT ?xf ?xe ?_);(case xf=>rfl);(case xe=>rfl))|((with_reducible refine' AU ?xe ?_);(case xe=>rfl))|((with_reducible refine' uC ?xe ?_);(case xe=>rfl))
 |((with_reducible refine' JJ ?xe ?_);(case xe=>omega))|((with_reducible refine' Se ?xe ?_);(case xe=>exact cfd (by omega) (by omega)))|((with_reducible refine' JW ?xe ?_);(case xe=>exact UF (by omega)))|((with_reducible refine' VA ?xe ?_);(case xe=>exact⟨by decide,by decide,by decide⟩))
 |(with_reducible first  |apply ls|apply x_bindO    )|((with_reducible refine' x_put ?xe ?xf ?_);(case xe=>rfl);(case xf=>rfl))
 |with_reducible apply QK|((with_reducible refine' Vi ?xe ?xf ?_);(case xe=>rfl);(case xf=>decide))
 |((with_reducible refine' UH ?xe ?xf ?_);(case xe=>rfl);(case xf=>exact of_decide_eq_true rfl))|(with_reducible first       |apply SV|apply Jl|apply qW|apply x_bindA)|((with_reducible refine' T9 ?xa ?xb ?xc ?xd ?xe ?_);(case xa=>rfl);(case xb=>rfl);(case xc=>rfl);(case xd=>rfl);(case xe=>rfl))|((with_reducible refine' x_dgotN ?xa ?xb ?xc ?xd ?xe ?_);(case xa=>rfl);(case xb=>rfl);(case xc=>rfl);(case xd=>rfl);(case xe=>rfl))|((with_reducible refine' Nr ?xa ?xb ?xc ?xd ?xe ?xf ?_);(case xa=>rfl);(case xb=>rfl);(case xc=>rfl);(case xd=>rfl);(case xe=>exact of_decide_eq_true rfl);(case xf=>rfl))|((with_reducible refine' zy ?xa ?xb ?xc ?xd ?_);(case xa=>rfl);(case xb=>rfl);(case xc=>exact of_decide_eq_true rfl);(case xd=>rfl))
 |((with_reducible refine' x_agsX ?xe ?xf ?_);(case xe=>rfl);(case xf=>decide))  |((with_reducible refine' x_rz ?xe ?_);(case xe=>exact of_decide_eq_true rfl))
 |((with_reducible refine' yZ ?xa ?xb ?_);(case xa=>rfl);(case xb=>decide))|(with_reducible first    |apply VC|apply Vv|apply U7|apply Vo|apply UL    )|((with_reducible refine' RM ?xa ?xb ?xc ?xd ?xe ?_);(case xa=>rfl);(case xb=>rfl);(case xc=>rfl);(case xd=>rfl);(case xe=>rfl))|((with_reducible refine' vk ?xa ?xb ?xc ?xd ?xe ?_);(case xa=>rfl);(case xb=>rfl);(case xc=>rfl);(case xd=>rfl);(case xe=>rfl))  |((with_reducible refine' TQ ?xa ?xb ?xc ?_);(case xa=>rfl);(case xb=>rfl);(case xc=>rfl))  |((with_reducible refine' Du ?xa ?_);(case xa=>rfl))  |((with_reducible refine' x_onPairsT ?xa ?xb ?xc ?_);(case xa=>rfl);(case xb=>rfl);(case xc=>exact of_decide_eq_true rfl))
 |(with_reducible first  |apply VG     |apply P8|apply Q9)|((with_reducible refine' x_lenO ?xe ?_);(case xe=>rfl))|(with_reducible first|apply Pq  |apply UE    )|((with_reducible refine' x_ls ?xe ?_);(case xe=>rfl))
 |(with_reducible first|apply x_isN|apply x_isB|apply Gz  |apply zU  |apply OJ)
 |((with_reducible refine' Mi ?xe ?_);(case xe=>rfl))|with_reducible apply QO|((with_reducible refine' x_list ?xe ?_);(case xe=>rfl))|((with_reducible refine' Jp ?xe ?_);(case xe=>rfl))|(with_reducible first       |apply QU|apply Uf)|((with_reducible refine' QX ?xe ?_);(case xe=>rfl))|(with_reducible first        |apply jb)|with_reducible apply ji)
local macro_rules | `(tactic| walk_at"s") => `(tactic| ((repeat walk_at"1"); try (with_reducible conv => whnf)))
local macro_rules | `(tactic| walk_at"n") => `(tactic| first | dsimp only [mapR, cR, List.set, MSt.setV, MSt.setN, List.take, List.length, List.append, oi, yn, Nat.reduceAdd, List.getD_cons_succ, List.getD_cons_zero, List.nil_append, List.cons_append, setT, lfD] | dsimp only [mapR, cR, List.set, MSt.setV, MSt.setN, List.take, List.length, List.append, oi, yn, Nat.reduceAdd, List.getD_cons_succ, List.getD_cons_zero, List.nil_append, List.cons_append] | skip)
local macro_rules | `(tactic| walk_at "sc") => `(tactic| exact ⟨rfl, rfl, rfl, by decide +kernel, rfl, by decide +kernel, by decide +kernel⟩)
local macro_rules | `(tactic| walk_at"x") => `(tactic| (walk_at"n"; walk_at"s"))
local macro_rules | `(tactic| walk_at "a") => `(tactic| (refine bg (λz=>absurd z (by decide +kernel)) (λ_=>?_);walk_at"s";refine bg (λz=>absurd z (by decide +kernel)) (λ_=>?_);walk_at"s"))
local macro_rules | `(tactic| walk_at "b") => `(tactic| (refine bg (λz=>absurd z (by decide +kernel)) (λ_=>?_);walk_at"s";refine bg (λ_=>?_) (λz=>(z rfl).elim);walk_at"s"))
local macro_rules | `(tactic| walk_at "c") => `(tactic| (walk_at"s";refine cF ?_;walk_at"x"))
local macro_rules | `(tactic| walk_at "d") => `(tactic| (walk_at"s";rw[if_pos (by decide +kernel)];walk_at"s"))
def top(i:Nat):Stmt:=PySem.Challenge.pw_shorterline_k56_standings.main.body.getD i (.Pass ⟨0,0,0,0⟩)
abbrev qb:Stmt:=top 4
abbrev lc:Stmt:=top 6
abbrev d3:Stmt:=top 7
abbrev d4:Stmt:=top 9
abbrev qm:Stmt:=top 10
abbrev dG:Stmt:=top 11
abbrev qT:Stmt:=top 12
abbrev gj:Stmt:=top 14
abbrev fZ:Stmt:=top 15
abbrev fj:Stmt:=top 16
abbrev jL:Stmt:=top 17
abbrev qL:Stmt:=top 18
abbrev qt:Stmt:=top 19
abbrev iM:Stmt:=top 20
abbrev qB:Stmt:=top 21
abbrev gl:Stmt:=top 22
abbrev qK:Stmt:=top 23
abbrev mh:Stmt:=top 24
abbrev iC:Stmt:=top 26
abbrev fJ:Stmt:=top 27
abbrev f8:Stmt:=top 28
abbrev jD:Stmt:=top 29
abbrev fg:Stmt:=top 30
abbrev lg:Stmt:=top 31
abbrev bw:Stmt:=(iJ (top 34)).getD 1 (.Pass ⟨0,0,0,0⟩)
abbrev aH:Stmt:=(iJ (top 34)).getD 2 (.Pass ⟨0,0,0,0⟩)
abbrev c8:Stmt:=(iJ (top 34)).getD 3 (.Pass ⟨0,0,0,0⟩)
abbrev cf:Stmt:=(iJ (top 34)).getD 4 (.Pass ⟨0,0,0,0⟩)
abbrev bz:Stmt:=(iJ (top 34)).getD 5 (.Pass ⟨0,0,0,0⟩)
abbrev b9:Stmt:=(iJ (top 34)).getD 6 (.Pass ⟨0,0,0,0⟩)
abbrev bP:Stmt:=(iJ (top 34)).getD 0 (.Pass ⟨0,0,0,0⟩)
abbrev gz:Stmt:=top 35
abbrev fC:Stmt:=top 36
abbrev jY:Stmt:=top 38
abbrev jC:Stmt:=top 39
abbrev j6:Stmt:=top 40
abbrev c5:Stmt:=top 42
abbrev cw:Stmt:=top 41
abbrev g6:Stmt:=top 43
abbrev lJ:Stmt:=top 44
abbrev jz:Stmt:=top 45
abbrev ii:Stmt:=top 46
abbrev da:Stmt:=top 47
abbrev jy:Stmt:=top 48
abbrev gn:Stmt:=top 49
abbrev gg:Stmt:=top 50
abbrev iX:Stmt:=top 51
abbrev bZ:Stmt:=top 52
abbrev slaw:Stmt:=top 53
structure Bl(K:aad)(mg:Str->Option mT):Prop where
 len:mg "len" = none
 abs:mg "abs" = none
 range:mg "range" = none
 list:mg "list" = none
 tuple:mg "tuple" = none
 int:mg "int" = none
 sum:mg "sum" = none
 max:mg "max" = none
 min:mg "min" = none
 isinstance:mg "isinstance" = none
 bool:mg "bool" = none
 sorted:mg "sorted" = none
 zip:mg "zip" = none
 enumerate:mg "enumerate" = none
 repr:mg "repr" = none
 c_STANDING_WORDS:ConM K mg "STANDING_WORDS" (.tuple [.str "random",.str "two",.str "least",.str "quick"])
 f_Search_hall:InsF K "Search" "hall"
 f_Search_rules:InsF K "Search" "rules"
 f_Search_moves:InsF K "Search" "moves"
 f_Search_steps:InsF K "Search" "steps"
 f_Search_leads:InsF K "Search" "leads"
 f_Search_triples:InsF K "Search" "triples"
 f_Search_ways:InsF K "Search" "ways"
def Ca:aq ["one","other"] ["one","other"] (ab qb):=by ext sc
def jx:aq ["hall","servers","server"] ["hall"] (ab lc):=by ext sc
def cb:aq ["hall","lines","place","many","server"] ["hall","lines"] (ab d3):=by ext sc
def cz:aq ["lines","order","best","line"] ["lines","order"] (ab d4):=by ext sc
def nR:aq ["hall","lines","line","top","bottom"] ["hall","lines","line"] (ab qm):=by ext sc
def bU:aq ["hall","lines","order","best","least","line","wait"] ["hall","lines","order"] (ab dG):=by ext sc
def jm:aq ["hall","rule","stand","order","lines","turn","word"] ["hall","rule","stand","order"] (ab qT):=by ext sc
def qZ:aq ["hall"] ["hall"] (ab gj):=by ext sc
def de:aq ["hall","many","orders","place"] ["hall"] (ab fZ):=by ext sc
def mY:aq ["hall","dones"] ["hall"] (ab fj):=by ext sc
def uT:aq ["lines","line","more"] ["lines","line","more"] (ab jL):=by ext sc
def zw:aq ["hall","lines","line"] ["hall","lines","line"] (ab qL):=by ext sc
def zh:aq ["lines","line"] ["lines","line"] (ab qt):=by ext sc
def tJ:aq ["hall","lines"] ["hall","lines"] (ab iM):=by ext sc
def jr:aq ["hall","lines","shift"] ["hall","lines"] (ab qB):=by ext sc
def qG:aq ["hall","rule","turn"] ["hall","rule","turn"] (ab gl):=by ext sc
def Cu:aq ["hall","rule","stand","move"] ["hall","rule","stand","move"] (ab qK):=by ext sc
def ce:aq ["hall","rule","stand","move","lines","turn","word","line"] ["hall","rule","stand","move"] (ab mh):=by ext sc
def ub:aq ["hall","lines"] ["hall","lines"] (ab iC):=by ext sc
def oj:aq ["one","other"] ["one","other"] (ab fJ):=by ext sc
def iu:aq ["hall","void"] ["hall"] (ab f8):=by ext sc
def iL:aq ["hall","rule","lines","move","stand","word"] ["hall","rule","lines","move"] (ab jD):=by ext sc
def bA:aq ["one_step","other_step","lead","x","one_away","y","other_away"] ["one_step","other_step","lead"] (ab fg):=by ext sc
def ij:aq ["triple","x","y","lead"] ["triple"] (ab lg):=by ext sc
def fu:aq ["self","side","lines","rule"] ["self","side","lines"] (ab bw):=by ext sc
def aP:aq ["self","triple","x","y","lead","one_steps","other_steps"] ["self","triple"] (ab aH):=by ext sc
def d8:aq ["self","triple","ahead","move","x","y","lead"] ["self","triple","ahead","move"] (ab c8):=by ext sc
def cZ:aq ["self","at","moves","move"] ["self","at"] (ab cf):=by ext sc
def bp:aq ["self","at","behind","move","triple"] ["self"] (ab bz):=by ext sc
def ox:aq ["self"] ["self"] (ab b9):=by ext sc
def j4:aq ["self","hall","one","other"] ["self","hall","one","other"] (ab bP):=by ext sc
def f7:aq ["hall","one","other","search","run"] ["hall","one","other"] (ab gz):=by ext sc
def md:aq ["hall","pairs"] ["hall"] (ab fC):=by ext sc
def uF:aq ["_law_script"] ["_law_script"] (ab jY):=by ext sc
def cN:aq ["_law_tape_here","_law_many","_law_found","_law_turn","_law_cell","_law_mixed"] ["_law_tape_here","_law_many"] (ab jC):=by ext sc
def iz:aq ["_law_top","_law_bottom","_law_one","_law_other"] ["_law_top","_law_bottom"] (ab j6):=by ext sc
def bT:aq ["_law_rooms","_law_found","_law_room","_law_longer","_law_lines"] ["_law_rooms"] (ab c5):=by ext sc
def b8:aq ["_law_tape_here","_law_most","_law_many","_law_servers","_law_come","_law_whole","_law_speeds"] ["_law_tape_here","_law_most"] (ab cw):=by ext sc
def bW:aq ["_law_hall_here","_law_rule","_law_lines","_law_order","_law_rooms","_law_found","_law_rest","_law_k","_law_one","_law_other","_law_mine","_law_theirs"] ["_law_hall_here","_law_rule","_law_lines","_law_order"] (ab g6):=by ext sc
def yt:aq ["_law_lines","_law_k","_law_more"] ["_law_lines","_law_k","_law_more"] (ab lJ):=by ext sc
def b7:aq ["_law_hall_here","_law_rule","_law_lines","_law_move","_law_word","_law_k","_law_longest","_law_void"] ["_law_hall_here","_law_rule","_law_lines","_law_move"] (ab jz):=by ext sc
def k8:aq ["_law_hall_here","_law_lines","_law_alike"] ["_law_hall_here","_law_lines"] (ab ii):=by ext sc
def cr:aq ["_law_hall_here","_law_orders","_law_turn","_law_longer","_law_order","_law_found"] ["_law_hall_here"] (ab da):=by ext sc
def dU:aq ["_law_hall_here","_law_one","_law_other","_law_triple","_law_move","_law_x","_law_first","_law_y","_law_second"] ["_law_hall_here","_law_one","_law_other","_law_triple","_law_move"] (ab jy):=by ext sc
def qf:aq ["_law_triple"] ["_law_triple"] (ab gn):=by ext sc
def aK:aq ["_law_hall_here","_law_one","_law_other","_law_most","_law_void","_law_known","_law_line","_law_length","_law_fresh","_law_triple","_law_move","_law_x","_law_y","_law_more"] ["_law_hall_here","_law_one","_law_other","_law_most"] (ab gg):=by ext sc
def gu:aq ["_law_tape_here","_law_top","_law_whole"] ["_law_tape_here"] (ab iX):=by ext sc
def aI:aq ["_law_tape_here","_law_hall_here","_law_words","_law_pairs","_law_one","_law_told","_law_turn","_law_at","_law_found"] ["_law_tape_here"] (ab bZ):=by ext sc
def ol:aq ["_law_script","_law_tape_here","_law_k","_law_hall_here","_law_due","_law_one","_law_other","_law_found","_law_former","_law_turn"] ["_law_script"] (ab slaw):=by ext sc
def kq:∀(kV d pm:mT) (an:Option Addr) (c ct:mT) (us:List mT),us.length=(["self","side","lines"]:List Str).length->adG (abj "steps_of" "Search.steps_of" (cx bw) (bH bw) (ab bw) .none kV d pm an c ct) ⟨us,[]⟩=pure ((["self","side","lines"]:List Str).zip us):=λ_ _ _ _ _ _ us e=>match us,e with|[_,_,_],_=>rfl
def gc:∀(kV d pm:mT) (an:Option Addr) (c ct:mT) (us:List mT),us.length=(["self","triple"]:List Str).length->adG (abj "triples_behind" "Search.triples_behind" (cx aH) (bH aH) (ab aH) .none kV d pm an c ct) ⟨us,[]⟩=pure ((["self","triple"]:List Str).zip us):=λ_ _ _ _ _ _ us e=>match us,e with|[_,_],_=>rfl
def ux:∀(kV d pm:mT) (an:Option Addr) (c ct:mT) (us:List mT),us.length=(["self","triple","ahead","move"]:List Str).length->adG (abj "met" "Search.met" (cx c8) (bH c8) (ab c8) .none kV d pm an c ct) ⟨us,[]⟩=pure ((["self","triple","ahead","move"]:List Str).zip us):=λ_ _ _ _ _ _ us e=>match us,e with|[_,_,_,_],_=>rfl
def oJ:∀(kV d pm:mT) (an:Option Addr) (c ct:mT) (us:List mT),us.length=(["self","at"]:List Str).length->adG (abj "run_to" "Search.run_to" (cx cf) (bH cf) (ab cf) .none kV d pm an c ct) ⟨us,[]⟩=pure ((["self","at"]:List Str).zip us):=λ_ _ _ _ _ _ us e=>match us,e with|[_,_],_=>rfl
def jV:∀(kV d pm:mT) (an:Option Addr) (c ct:mT) (us:List mT),us.length=(["self"]:List Str).length->adG (abj "worse_run" "Search.worse_run" (cx bz) (bH bz) (ab bz) .none kV d pm an c ct) ⟨us,[]⟩=pure ((["self"]:List Str).zip us):=λ_ _ _ _ _ _ us e=>match us,e with|[_],_=>rfl
def rg:∀(kV d pm:mT) (an:Option Addr) (c ct:mT) (us:List mT),us.length=(["self"]:List Str).length->adG (abj "paper" "Search.paper" (cx b9) (bH b9) (ab b9) .none kV d pm an c ct) ⟨us,[]⟩=pure ((["self"]:List Str).zip us):=λ_ _ _ _ _ _ us e=>match us,e with|[_],_=>rfl
def kI:∀(kV d pm:mT) (an:Option Addr) (c ct:mT) (us:List mT),us.length=(["self","hall","one","other"]:List Str).length->adG (abj "__init__" "Search.__init__" (cx bP) (bH bP) (ab bP) .none kV d pm an c ct) ⟨us,[]⟩=pure ((["self","hall","one","other"]:List Str).zip us):=λ_ _ _ _ _ _ us e=>match us,e with|[_,_,_,_],_=>rfl
def Ie:SpM:=λc K=>∃h:Hall,c=[.imm h.d]/\h.Ok/\K (.imm (.bool (alk h))) []
def qo:SpM:=λc K=>∃(h:Hall) (l:List Nat),c=[.imm h.d,.imm (lnD l)]/\h.Ok/\l.length≤4/\K (.imm (lnD (cA h l))) []
def qr:SpM:=λc K=>∃h:Hall,c=[.imm h.d]/\h.Ok/\K (.new ((mvs h).map Mv.d)) []
def prD'(P:List Tr):aD:=.tuple (P.map trD)
def GZ:SpM:=λd K=>∃r1 c:Rule,d=[.imm r1.d,.imm c.d]/\r1≠.turns/\c≠.turns/\K (.imm .none) []
def GI:SpM:=λc K=>∃h:Hall,c=[.imm h.d]/\h.Ok/\K (.imm (trD (zer h,zer h,0))) []
def ksD(p:List Nat×Wd):aD:=.tuple [lnD p.1,.bool (decide (p.2 = .away))]
def Qz:SpM:=λc K=>∃(h:Hall) (r:Rule) (l:List Nat) (m:Mv),c=[.imm h.d,.imm r.d,.imm (lnD l),.imm m.d]/\h.Ok/\r.Ok h/\r≠.turns/\Lines h l/\m.Ok h/\K (.imm (ksD (kst h r l m))) []
def PH:SpM:=λc K=>∃(p q:List Nat×Wd) (d:Int),c=[.imm (ksD p),.imm (ksD q),.imm (.int d)]/\K (.imm (trD (p.1,q.1,d+aw q.2-aw p.2))) []
def G9:SpM:=λc K=>∃t:Tr,c=[.imm (trD t)]/\K (.imm (.bool (decide (((t.2.1.sum:Nat):Int)+t.2.2<((t.1.sum:Nat):Int))))) []
def qY{d x:aD}{tl:List aD}{m:MSt}(e:d = .tuple (x::tl))(h:Kr (.imm x)):oa (.imm d) (.imm (.int 0)) m Kr:=by
 subst e;exact ba (bh (j:=0) rfl) h
def IU(r:Rule):∃tl,r.d = .tuple (.str r.word::tl):=by cases r<;>exact⟨_,rfl⟩
theorem yV(h:r≠.turns):decide (r.word = "turns")=false:=by
 cases r with
 |turns=>exact(h rfl).elim
 |told p=>exact(show decide (("told" : Str) = "turns")=false by decide +kernel)
 |random=>decide +kernel
 |two=>decide +kernel
 |least=>decide +kernel
 |quick=>decide +kernel
def J6{m:MSt}{k:Nat}{a b:List aD}(e:m.os[k]?=some b)(c:a.length+b.length≤aai)(h:Kr (.new (a++b))):oAdd (.new a) (.obj k) m Kr:=⟨a,b,rfl,e,c,h⟩
def FE(w:Wd):decide (w.s = "away")=decide (w = .away):=by cases w<;>decide +kernel
def Qg(h:Hall):(mvs h).map Mv.d=(ordK h.ss.length h.ss.length).map (λo=>(Mv.come o).d)++(aaz h.ss.length).map (λk=>(Mv.done k).d)++[.tuple [.str "still"]]:=by
 unfold mvs;rw[aaq,aaq,aa9,aa9];rfl
def Ci:SpM:=λc K=>∃t:Tr,c=[.imm (trD t)]/\K (.imm (.bool (bad t))) []
def Cc:SpM:=λc K=>∃(h:Hall) (r:Rule) (l:List Nat) (o:List Nat),c=[.imm h.d,.imm r.d,.imm (lnD l),.imm (lnD o)]/\h.Ok/\r.Ok h/\r≠.turns/\Lines h l/\Ord h.ss.length o/\K (.imm (.int (sent h r l 0 o:Nat))) []
def GM:SpM:=λc K=>∃(h:Hall) (r:Rule) (l:List Nat) (m:Mv),c=[.imm h.d,.imm r.d,.imm (lnD l),.imm m.d]/\h.Ok/\r.Ok h/\r≠.turns/\Lines h l/\m.Ok h/\K (.imm (lwD ((ku h r l 0 m).1,(ku h r l 0 m).2.2))) []
def Ii:SpM:=λd K=>∃(h:Hall) (r1 c:Rule) (t:Tr) (m:Mv),d=[.imm h.d,.imm r1.d,.imm c.d,.imm (trD t),.imm m.d]/\h.Ok/\r1.Ok h/\c.Ok h/\r1≠.turns/\c≠.turns/\Lines h t.1/\Lines h t.2.1/\m.Ok h/\K (.imm (trD (bth h r1 c t m))) []
def Rk:Rule->Prop
 | .two=>True
 | .least=>True
 | .quick=>True
 |_=>False
def rsO(r:Rule)(os:List Nat):List Nat:=match r with
 | .two=>os.take 1
 |_=>os
def ltO(h:Hall)(l:List Nat)(r:Rule):Nat->Nat->Bool:=match r with
 | .quick=>cK h l
 |_=>cG l
def yU{x:Nat}(h:x∈rsO r os):x∈os:=by
 cases r<;>first|exact h|exact acp h
theorem Vg{l:List Nat}{o:Nat}(c:Rk r):sent h r l 0 (o::os)=M7.pick (ltO h l r) o (rsO r os):=by
 cases r with
 |two=>exact M7.pick_self (lt:=cG l) (k:=o) (ks:=os.take 1) (by unfold cG;simp)
 |least=>exact M7.pick_self (lt:=cG l) (k:=o) (ks:=os) (by unfold cG;simp)
 |quick=>exact M7.pick_self (lt:=cK h l) (k:=o) (ks:=os) (by unfold cK;simp)
 |random=>exact c.elim
 |turns=>exact c.elim
 |told _=>exact c.elim
theorem vC{lt:Nat->Nat->Bool}{n:Nat}:∀{ks:List Nat}{b:Nat},b<n->(∀k∈ks,k<n)->M7.pick lt b ks<n
 |[],b,hb,_=>hb
 |k::ks,b,hb,h=>by
  show M7.pick lt (if lt k b then k else b) ks<n;refine vC ?_ λz c=>h z (LD _ c);split
  .exact h k aaa
  .exact hb
def qR:SpM:=λd K=>∃(h:Hall) (r1 c:Rule) (mo:Nat),d=[.imm h.d,.imm r1.d,.imm c.d,.imm (.int (mo:Int))]/\h.Ok/\(M3.allR h.rs).length≤64/\r1.Ok h/\c.Ok h/\r1≠.turns/\c≠.turns/\mo≤400/\(∀n:Nat,(∃R,RunK h R/\R.length=n/\bad (wlk h r1 c R)=true)->Min h r1 c n->K (.imm (.tuple [.str "worse",.int (n:Int)])) [])/\(∀k,yl h r1 c->K (.imm (.tuple [.str "never",.dict k])) [])/\((∃L,DkOk h L/\mo<L.length)->K (.imm .none) [])
def mea(h:Hall)(M:Nat)(L:List (Pk×Int))(e:Bool):Nat:=smL L+(nP h-L.length)*(M+(nP h-L.length)+2)+(if e=true then 0 else 1)
theorem Dn{u:Nat}{L':List (Pk×Int)}(m:L.length≤L'.length)(le:L'.length≤nP h)(p:pot h M L'+u≤pot h M L):(u=0->mea h (if L'.length=L.length then M else M+1) L' true<mea h M L false)/\(0<u->mea h (if L'.length=L.length then M else M+1) L' false<mea h M L false):=by
 unfold pot at p;unfold mea;generalize smL L=S at *;generalize smL L'=f at *;generalize hk:nP h-L.length=k at *;generalize d:nP h-L'.length=c at *;have g:c≤k:=by omega
 have key:f+c*((if L'.length=L.length then M else M+1)+c+2)+u≤S+k*(M+k+2):=by
  by_cases z:L'.length=L.length
  .rw[if_pos z];have:c=k:=by omega
   subst this;have e:∀a b:Nat,c*(a+c+b)=c*(a+b)+c*c:=λa b=>by rw[<-aht];congr 1;omega
   rw[e M 2];omega
  .rw[if_neg z];have k1:c+1≤k:=by omega
   have j:c*(M+1+c+2)=c*(M+2)+c*(c+1):=by rw[<-aht];congr 1;omega
   have n:k*(M+k+2)=k*(M+2)+k*k:=by rw[<-aht];congr 1;omega
   have i:c*(c+1)≤k*k:=abx g k1;omega
 constructor
 .intro z;simp only[if_true,acg,if_false];omega
 .intro z;simp only[if_false,acg];omega
def uG{k:Nat}{ds:List aD}{g:WG}{w:WS}{D:dm}{m1:MSt}(P:Nat->MSt->Prop)(p0:P 0 (m1.setN (max m1.np (k+1))))(ok:∀i m,P i m->m.os[k]?=some ds)(step:∀(i:Nat) (d:aD) (m:MSt),ds[i]?=some d->m.np=max m1.np (k+1)->P i m->∀j:dm,(∀c,P (i+1) c->j.nx c)->(∀r c,D.rt r (c.setN m1.np)->j.rt r c)->g d m λm2=>w j m2)(f:∀m,m.np=max m1.np (k+1)->P ds.length m->D.nx (m.setN m1.np)):mf ⟨ds,some (k,ds)⟩ g w D m1:=jM P p0 ok (λi d m e n p=>step i d m e n p _ (λ_ z=>z) λ_ _ z=>z) f
def bnd(M:Nat)(c L:List (Pk×Int)):Nat:=if L.length=c.length then M else M+1
structure TnOk(h:Hall)(Rr:Tr->Prop)(M:Nat)(L0 L:List (Pk×Int))(F:List Tr):Prop where
 dk:DkOk h L
 ll:L0.length≤L.length
 vl:∀p∈L,p.2≤(bnd M L0 L:Int)
 fr:∀t∈F,Rr t/\0≤t.2.2/\t.2.2≤(bnd M L0 L:Int)
 pt:pot h M L+F.length≤pot h M L0
theorem TnOk.put{f:List (Pk×Int)}{F:List Tr}{B:Tr}(T:TnOk h Rr M f L F)(n:Lines h B.1)(m:Lines h B.2.1)(k:cA h B.1=B.1/\cA h B.2.1=B.2.1)(R:Rr B)(g:0≤B.2.2)(j:B.2.2≤(M:Int)+1)(i:B.2.2<(lkL (B.1,B.2.1) L).getD (B.2.2+1)):TnOk h Rr M f (setL (B.1,B.2.1) B.2.2 L) (F++[B]):=by
 let⟨D,p,q,le⟩:=T.dk.put (M:=M) (a:=(B.1,B.2.1)) n m k g j i;have ll:=T.ll;have pt:=T.pt;have up:bnd M f L≤bnd M f (setL (B.1,B.2.1) B.2.2 L):=by
  unfold bnd
  split<;>split<;>omega
 have v:B.2.2≤(bnd M f (setL (B.1,B.2.1) B.2.2 L):Int):=by
  by_cases e:(setL (B.1,B.2.1) B.2.2 L).length=L.length
  .obtain⟨w,hw,vw⟩:=q e;have:=T.vl _ hw;dsimp only at this;omega
  .have:bnd M f (setL (B.1,B.2.1) B.2.2 L)=M+1:=if_neg (by omega);omega
 refine⟨D,by omega,λx d=>?_,λx d=>?_,by rw[aaj,aem];omega⟩
 .rcases fV d with rfl|d
  .exact v
  .have:=T.vl x d;omega
 .rcases aaT.mp d with d|d
  .obtain⟨a,b,c⟩:=T.fr x d;exact⟨a,b,by omega⟩
  .rw[aab.mp d];exact⟨R,g,v⟩
def TnOk.zero(D:DkOk h L)(V:∀p∈L,p.2≤(M:Int)):TnOk h Rr M L L []:=⟨D,Mt _,λp c=>by rw[show bnd M L L=M from if_pos rfl];exact V p c,λ_ z=>(by cases z),Mt _⟩
theorem Ic{M:Nat}:∀{L:List (Pk×Int)},(∀p∈L,p.2≤(M:Int))->smL L≤L.length*M
 |[],_=>abm _
 |q::L,h=>by
  have e:=Ic λp c=>h p (LD _ c);have d:=h q aaa;show q.2.toNat+smL L≤(L.length+1)*M;rw[adt];omega
theorem QI(D:DkOk h L)(V:∀p∈L,p.2≤(M:Int))(a:(M3.allR h.rs).length≤64)(c:L.length≤400)(m:M≤L.length):pot h M L≤2000000:=by
 have n:nP h≤4096:=MF a;have s:=Ic V;have m1:L.length*M≤400*400:=abx c (by omega);have m2:(nP h-L.length)*(M+2)≤4096*402:=abx (by omega) (by omega);unfold pot;omega
def Pj(t:Tr):Shp 2 (trD t):=bc λd hd=>by
 obtain rfl|hd:=aaf.mp hd
 .exact bc (bV _)
 .obtain rfl|hd:=aaf.mp hd
  .exact bc (bV _)
  .rw[aab.mp hd];exact(ci _).mono (by decide)
def NR(ln:List Tr):ack (.list (ln.map trD))=true:=(vE λd hd=>by
 let⟨t,_,rfl⟩:=aap.mp hd;exact Pj t).ok (by decide)
def Ki(ln:List Tr):aag (.list (ln.map trD)) (.list [])=ln.isEmpty:=by cases ln<;>rfl
def vD:SpM:=λe K=>∃(t:aD) (c mo:Nat),e=[.tr t,.imm (.int (mo:Int))]/\TapeK c t/\c<800000000/\2≤mo/\∀(h:Hall) (d:aD),h.Ok->(M3.allR h.rs).length≤mo->TapeK (c+20) d->K (.imm h.d) [[d]]
theorem SvK.tail{p:Nat×Nat}{ps:List (Nat×Nat)}{mo:Nat}(h:SvK (p::ps))(g:∀r∈br (p::ps),r≤1)(i:2≤mo)(e:mo<(M3.allR (br (p::ps))).length):SvK ps/\(br (jB ps)).sum<(br (p::ps)).sum:=by
 rw[M7.allR_cnt]at e;have d:=Av g;have l:(br (p::ps)).length=ps.length+1:=by simp[br]
 have j:=h.2.2 p aaa;have f:=h.2.1;rw[aaA]at f;refine⟨⟨?_,by omega,λq c=>h.2.2 q (LD _ c)⟩,?_⟩
 .cases ps with
  |nil=>rw[l]at d;simp at d;omega
  |cons q ps=>simp
 .have:=(lh (ps:=ps) λq c=>(h.2.2 q (LD _ c)).2.2.1).1;have k:(br (p::ps)).sum=p.2+(br ps).sum:=by simp[br]
  omega
theorem BX(c:h.Ok):1≤(mvs h).length/\(mvs h).length≤1000:=by
 have n1:=c.n1;have n4:=c.n4;unfold mvs;rw[aaj,aaj,iO,iO,aaV];generalize h.ss.length=n at *;have:(ordK n n).length≤24:=by
  rcases (show n=1\/n=2\/n=3\/n=4 by omega)with rfl|rfl|rfl|rfl<;>decide
 simp;omega
def wyD:Wy->aD
 |none=>.tuple [.int (-1),.none]
 |some (a,m)=>.tuple [.int (a:Int),m.d]
def rl(r1 r2:Rule)(s:Nat):Rule:=if s=0 then r1 else r2
abbrev Ck:=Nat×List Nat
def skD(p:Ck):aD:=.tuple [.int (p.1:Int),lnD p.2]
def stv(h:Hall)(r1 r2:Rule)(p:Ck):List aD:=(mvs h).map λm=>ksD (kst h (rl r1 r2 p.1) p.2 m)
def jU(h:Hall)(r1 r2:Rule)(C:List Ck):List (aD×aD):=C.map λp=>(skD p,.list (stv h r1 r2 p))
structure CaOk(h:Hall)(C:List Ck):Prop where
 nd:C.Nodup
 ok:∀p∈C,p.1<2/\Lines h p.2
theorem CaOk.len{C:List Ck}(X:CaOk h C):C.length≤2*(M3.allR h.rs).length:=by
 have:=l6 X.nd (m:=(M3.allR h.rs).map (λl=>(0,l))++(M3.allR h.rs).map (λl=>(1,l))) λp c=>by
  let⟨d,q⟩:=X.ok p c;have m:=kU q.fits;rcases (show p.1=0\/p.1=1 by omega)with e|e
  .exact abB _ (aap.mpr ⟨p.2,m,by rw[<-e]⟩)
  .exact aaI _ (aap.mpr ⟨p.2,m,by rw[<-e]⟩)
 rw[aaj,iO,iO]at this;omega
def Jd(p q:Ck):aag (skD p) (skD q)=decide (p=q):=by
 show(aag (.int _) (.int _)&&(aag (lnD p.2) (lnD q.2)&&true))=_;rw[ng,ade,cq,abF];simp[Prod.ext_iff]
theorem st_look{h:Hall}{r1 r2:Rule}{p:Ck}:∀{C:List Ck},c9 (skD p) (jU h r1 r2 C)=if p∈C then some (.list (stv h r1 r2 p))else none
 |[]=>rfl
 | q::C=>by
  show(if aag (skD q) (skD p)=true then some (afo (stv h r1 r2 q))else c9 (skD p) (jU h r1 r2 C))=_;rw[Jd]
  by_cases e:q=p
  .rw[if_pos (decide_eq_true e),if_pos (by rw[e];exact aaa),e]
  .rw[if_neg (by rw[decide_eq_false e];exact aam),st_look]
   by_cases c:p∈C
   .rw[if_pos c,if_pos (LD _ c)]
   .rw[if_neg c,if_neg λz=>(aaf.mp z).elim (λz=>e z.symm) c]
theorem Iq{h:Hall}{r1 r2:Rule}{p:Ck}:∀{C:List Ck},p∉C->putP (skD p) (.list (stv h r1 r2 p)) (jU h r1 r2 C)=jU h r1 r2 (C++[p])
 |[],_=>rfl
 |q::C,n=>by
  let⟨n1,n2⟩:=not_or.mp λw=>n (aaf.mpr w);show(if aag (skD q) (skD p)=true then _ else _::putP (skD p) _ (jU h r1 r2 C))=_;rw[Jd,if_neg (by rw[decide_eq_false λe=>n1 e.symm];exact aam),Iq n2];rfl
theorem JB{h:Hall}{s:Nat}{l:List Nat}:kyD (skD (s,l))=true:=by
 have n:∀l:List Nat,hkA (natD l)=true:=λl=>by
  induction l with
  |nil=>rfl
  |cons x l i=>show(hkD _&&hkA (natD l))=true;rw[i];rfl
 have q:=bc (k:=1) (ds:=[.int (s:Int),lnD l]) λd hd=>by
  rcases aaf.mp hd with e|e
  .rw[e];exact(ci _).mono (by decide)
  .rw[aab.mp e];exact bc (bV _)
 have hk:hkD (skD (s,l))=true:=by
  show(true&&(hkD (lnD l)&&true))=true;rw[show hkD (lnD l)=true from n l];rfl
 unfold kyD;rw[hk,show(skD (s,l)).canLay0=true from q.cl,decide_eq_true (show(skD (s,l)).depth≤7 from aas q.dp (by decide))];rfl
def J9{r1 r2:Rule}(C:List Ck):kyA (jU h r1 r2 C)=true:=by
 unfold kyA jU;rw[aeg,abz];exact λp _=>JB (h:=h)
theorem zH{kvs:List (aD×aD)}(h:kyA kvs=true):iG (.dict (lfKV kvs))=none:=by
 cases kvs with
 |nil=>rfl
 |cons q kvs=>
  let⟨k,d⟩:=q;rw[kyA,ab0,aaS]at h;let⟨ds,rfl,_⟩:=iw h.1;rfl
def scQ(h:Hall)(r1 r2:Rule)(C:List Ck)(L:List (Pk×Int))(T:List Tr)(Y:List Wy):aD:=insT "Search" [("hall",h.d),("rules",.tuple [r1.d,r2.d]),("moves",.dict [(.none,.list ((mvs h).map Mv.d))]),("steps",.dict (lfKV (jU h r1 r2 C))),("leads",.dict (lfKV (ldD L))),("triples",.list (T.map trD)),("ways",.list (Y.map wyD))]
theorem m7(T:List Tr):dj (T.map trD)=some (T.map trD):=by
 induction T with
 |nil=>rfl
 |cons x l i=>show(match iG (trD x),dj (l.map trD)with|some d,some ds=>some (d::ds)|_,_=>none)=_;rw[i];rfl
theorem yA(y:Wy):iG (wyD y)=some (wyD y):=by rcases y with _|⟨a,m⟩<;>rfl
theorem tx(Y:List Wy):dj (Y.map wyD)=some (Y.map wyD):=by
 induction Y with
 |nil=>rfl
 |cons x l i=>show(match iG (wyD x),dj (l.map wyD)with|some d,some ds=>some (d::ds)|_,_=>none)=_;rw[i,yA];rfl
def UM(T:List Tr):(T.map trD).map lfD=T.map trD:=by
 rw[aa9];exact acS λx _=>rfl
theorem Uv(Y:List Wy):(Y.map wyD).map lfD=Y.map wyD:=by
 rw[aa9];exact acS λy _=>by rcases y with _|⟨a,m⟩<;>rfl
structure GoodR(h:Hall)(r1 r2:Rule):Prop where
 o:h.Ok
 k1:r1.Ok h
 k2:r2.Ok h
 n1:r1≠.turns
 n2:r2≠.turns
theorem GoodR.rl{r1 r2:Rule}(G:GoodR h r1 r2)(s:Nat):(rl r1 r2 s).Ok h/\rl r1 r2 s≠.turns:=by
 unfold K.rl;split
 .exact⟨G.k1,G.n1⟩
 .exact⟨G.k2,G.n2⟩
def tZ:SpM:=λe K=>∃(h:Hall) (r1 c:Rule) (C:List Ck) (L:List (Pk×Int)) (T:List Tr) (Y:List Wy) (s:Nat) (l:List Nat),e=[.tr (scQ h r1 c C L T Y),.imm (.int (s:Int)),.imm (lnD l)]/\GoodR h r1 c/\(M3.allR h.rs).length≤400/\CaOk h C/\s<2/\Lines h l/\∀d,CaOk h d->K (.imm (.list (stv h r1 c (s,l)))) [[scQ h r1 c d L T Y]]
def IZ:SpM:=λe K=>∃(h:Hall) (r1 c:Rule) (C:List Ck) (L:List (Pk×Int)) (T:List Tr) (Y:List Wy) (t:Tr),e=[.tr (scQ h r1 c C L T Y),.imm (trD t)]/\GoodR h r1 c/\(M3.allR h.rs).length≤400/\CaOk h C/\Lines h t.1/\Lines h t.2.1/\∀d,CaOk h d->K (.new ((mvs h).map λm=>trD (bth h r1 c t m))) [[scQ h r1 c d L T Y]]
def KJ:SpM:=λe K=>∃(h:Hall) (r1 c:Rule) (C:List Ck) (L:List (Pk×Int)) (T:List Tr) (Y:List Wy) (t:Tr) (y:Wy) (a:Int) (d:aD),e=[.tr (scQ h r1 c C L T Y),.imm (trD t),.imm (.int a),.imm d]/\wyD y = .tuple [.int a,d]/\h.Ok/\(∀p∈L,Lines h p.1.1/\Lines h p.1.2)/\Lines h t.1/\Lines h t.2.1/\L.length≤200000/\T.length≤200000/\Y.length≤200000/\(t.2.2<(lkL (t.1,t.2.1) L).getD (t.2.2+1)->K (.imm .none) [[scQ h r1 c C (setL (t.1,t.2.1) t.2.2 L) (T++[t]) (Y++[y])]])/\(∀w,lkL (t.1,t.2.1) L=some w->w≤t.2.2->K (.imm .none) [[scQ h r1 c C L T Y]])
structure WyOk(Y:List Wy)(P:List (List Mv)):Prop where
 ly:Y.length=P.length
 wy:∀(k:Nat) (p:List Mv),P[k]?=some p->(p=[]/\Y[k]?=some none)\/∃(a:Nat) (m:Mv) (q:List Mv),a<k/\P[a]?=some q/\p=q++[m]/\Y[k]?=some (some (a,m))
def B6:SpM:=λd K=>∃(h:Hall) (r1 c:Rule) (C:List Ck) (L:List (Pk×Int)) (T:List Tr) (Y:List Wy) (P:List (List Mv)) (i:Nat) (p:List Mv),d=[.tr (scQ h r1 c C L T Y),.imm (.int (i:Int))]/\WyOk Y P/\Y.length≤200000/\P[i]?=some p/\K (.imm (.tuple (p.map Mv.d))) [[scQ h r1 c C L T Y]]
def AK:SpM:=λe K=>∃(h:Hall) (r1 c:Rule),e=[.tr (scQ h r1 c [] [((zer h,zer h),0)] [stT h] [none])]/\GoodR h r1 c/\(M3.allR h.rs).length≤400/\nP h*(nP h+2)≤190000/\(∀(R:List Mv) (C:List Ck) (d:List (Pk×Int)) (T:List Tr) (Y:List Wy),RunK h R->bad (wlk h r1 c R)=true->Min h r1 c R.length->R.length≤200000->K (.imm (.tuple (R.map Mv.d))) [[scQ h r1 c C d T Y]])/\(∀(C:List Ck) (d:List (Pk×Int)) (T:List Tr) (Y:List Wy),yl h r1 c->DkOk h d->(∀Z:List Tr,Z.Perm (ldT d)->Nvr h r1 c Z/\∀t∈Z,TrOk h t)->K (.imm .none) [[scQ h r1 c C d T Y]])
def AC:SpM:=λd K=>∃(h:Hall) (r1 c:Rule) (C:List Ck) (L:List (Pk×Int)) (T:List Tr) (Y:List Wy),d=[.tr (scQ h r1 c C L T Y)]/\h.Ok/\DkOk h L/\L.length<100000/\∀Z:List Tr,Z.Perm (ldT L)->K (.imm (prD' Z)) [[scQ h r1 c C L T Y]]
def Ak:SpI:=λds K=>∃(h:Hall) (r1 c:Rule),ds=[h.d,r1.d,c.d]/\h.Ok/\K (scQ h r1 c [] [((zer h,zer h),0)] [stT h] [none])
def B8:SpM:=λd K=>∃(h:Hall) (r1 c:Rule),d=[.imm h.d,.imm r1.d,.imm c.d]/\GoodR h r1 c/\(M3.allR h.rs).length≤400/\nP h*(nP h+2)≤190000/\(∀R:List Mv,RunK h R->bad (wlk h r1 c R)=true->Min h r1 c R.length->R.length≤200000->K (.imm (.tuple [.str "worse",.tuple (R.map Mv.d)])) [])/\(∀Z:List Tr,yl h r1 c->Nvr h r1 c Z->(∀t∈Z,TrOk h t)->Z.length≤100000->K (.imm (.tuple [.str "never",prD' Z])) [])
section
variable {h:Hall}{r1 r2:Rule}{C:List Ck}{L:List (Pk×Int)}{T:List Tr}{Y:List Wy}{m:MSt}{k:Nat}{P:L2.R->Prop}
def qv(e:m.os[k]?=some [scQ h r1 r2 C L T Y])(ky:kyA (ldD L)=true)(c:P (.at k [5])):fGot m "Search" k [] "leads" P:=vk e rfl rfl rfl (zH ky) c
def vq(e:m.os[k]?=some [scQ h r1 r2 C L T Y])(c:P (.at k [4])):fGot m "Search" k [] "steps" P:=vk e rfl rfl rfl (zH (J9 (h:=h) C)) c
end
def xr{k:Nat}{p:List Nat}{j:Nat}(y:Wy):f9 k p j (wyD y) = .imm (wyD y):=by unfold f9;rw[yA]
def z7{c:Type}{l:List c}{f:c->aD}{j:Nat}{x:c}(e:l[j]?=some x):ixN (l.map f).length (j:Int)=some j/\(l.map f)[j]?=some (f x):=⟨Jm (by rw[iO];exact(Ad.mp e).1),by rw[aah,e];rfl⟩
theorem qq:∀{a b:List Nat},a.length=b.length->smDs (natD a) (natD b)=true
 |[],[],_=>rfl
 |x::a,y::b,e=>by
  show(true&&smDs (natD a) (natD b))=true;rw[qq (by simpa using e)];rfl
theorem zQ{j β:Type}{f:j->β}{z l:List β}(p:z.Perm l):∀{m:List j},z=m.map f->∃g:List j,g.Perm m/\l=g.map f:=by
 induction p with
 |nil=>intro m e;exact⟨m,.refl _,e⟩
 | cons a p o=>
  intro m e
  cases m with
  |nil=>cases e
  |cons b m=>
   injection e with d c
   let⟨g,n,s⟩:=o c;exact⟨b::g,n.cons b,by rw[aak,d,s]⟩
 | swap a b l=>
  intro m e
  cases m with
  |nil=>cases e
  | cons x m=>
   cases m with
   |nil=>cases e
   |cons y m=>
    injection e with d c
    injection c with c e3
    exact⟨y::x::m,.swap _ _ _,by rw[aak,aak,d,c,e3]⟩
 |trans u v k i=>
  intro m e;let⟨m1,t,d⟩:=k e;let⟨m2,q,c⟩:=i d;exact⟨m2,q.trans t,c⟩
def itL(q:Pk×Int):aD:=.tuple [pkD q.1,.int q.2]
def IP(L:List (Pk×Int)):gm (ldD L)=L.map itL:=by unfold gm ldD;rw[aa9];rfl
theorem Qx(D:DkOk h L)(n:L.length<100000):SrtT (gm (ldD L)):=by
 rw[IP];refine⟨⟨by rw[iO];exact n,λx c y f=>?_,λx c=>?_,λx c=>?_⟩,trivial⟩
 .obtain⟨a,ha,rfl⟩:=aap.mp c;let⟨b,e,rfl⟩:∃b,b∈L/\itL b=y:=aap.mp f;show((smDs (natD a.1.1) (natD b.1.1)&&(smDs (natD a.1.2) (natD b.1.2)&&true))&&(true&&true))=true;rw[qq ((D.ln a ha).1.1.trans (D.ln b e).1.1.symm),qq ((D.ln a ha).2.1.trans (D.ln b e).2.1.symm)];rfl
 .obtain⟨a,ha,rfl⟩:=aap.mp c;rfl
 .obtain⟨a,ha,rfl⟩:=aap.mp c;exact aas (bc (k:=2) (ds:=[pkD a.1,.int a.2]) λd hd=>by
   obtain rfl|hd:=aaf.mp hd
   .exact bc λd hd=>by
     obtain rfl|hd:=aaf.mp hd
     .exact bc (bV _)
     .rw[aab.mp hd];exact bc (bV _)
   .rw[aab.mp hd];exact(ci _).mono (by decide)).dp (by decide)
def wrd(n:Nat):Str:=if n=0 then "random" else if n=1 then "two" else if n=2 then "least" else "quick"
def rlN(n:Nat):Rule:=if n=0 then .random else if n=1 then .two else if n=2 then .least else .quick
def o6(n:Nat):(rlN n).Ok h/\rlN n≠.turns/\(rlN n).d = .tuple [.str (wrd n)]:=by
 unfold rlN wrd;split
 .exact⟨trivial,(nofun),rfl⟩
 .split
  .exact⟨trivial,(nofun),rfl⟩
  .split<;>exact⟨trivial,(nofun),rfl⟩
open Classical in
noncomputable def sdW (h:Hall) (a b:Nat):Str:=if yl h (rlN a) (rlN b)then "never" else "worse"
def prs:List (Nat×Nat):=[(0,1),(0,2),(0,3),(1,0),(1,2),(1,3),(2,0),(2,1),(2,3),(3,0),(3,1),(3,2)]
noncomputable def stgD (h:Hall):aD:=.tuple (prs.map λp=>.tuple [.str (wrd p.1),.str (wrd p.2),.str (sdW h p.1 p.2)])
def iy:SpM:=λc K=>∃h:Hall,c=[.imm h.d]/\h.Ok/\(M3.allR h.rs).length≤64/\nP h*(nP h+2)≤190000/\K (.imm (stgD h)) []
def Br:SpM:=λe K=>∃(t:aD) (c:Nat),e=[.tr t]/\TapeK c t/\c<800000000/\∀(h:Hall) (d:aD),h.Ok->(M3.allR h.rs).length≤64->nP h≤400->TapeK (c+10) d->K (.imm h.d) [[d]]
def wz:SpM:=λe K=>∃(t:aD) (c:Nat),e=[.tr t]/\TapeK c t/\c<700000000/\∀d:aD,K (.imm (.bool true)) [[d]]
theorem Fi{wh p:Nat}{b:Bool}(m:1≤p)(j:p≤3)(n:p≤wh)(i:wh<1000):let h:Hall:=⟨1/(1:Nat).gcd wh,wh/(1:Nat).gcd wh,aal 3 (srvK wh (p,3)),b⟩;h.Ok/\(M3.allR h.rs).length≤64/\nP h≤400:=by
 have c:=qX (p:=1) (wh:=wh) (by omega) (by omega) (by omega) (by omega);have f:=qX (p:=p) (wh:=wh) (by omega) (by omega) (by omega) (by omega);have g:Hall.rs ⟨1/(1:Nat).gcd wh,wh/(1:Nat).gcd wh,aal 3 (srvK wh (p,3)),b⟩=[3,3,3]:=rfl;refine⟨⟨c.1,c.2.1,c.2.2.1,c.2.2.2,show 1≤3 by decide,show 3≤4 by decide,λs e=>?_⟩,by rw[g];decide +kernel,?_⟩
 .rw[adP e];exact⟨f.1,f.2.1,f.2.2.1,f.2.2.2,by show 1≤3;decide,by show 3≤6;decide⟩
 .have key:(kL ⟨1/(1:Nat).gcd wh,wh/(1:Nat).gcd wh,aal 3 (srvK wh (p,3)),b⟩).length≤20:=by
   have a:alk ⟨1/(1:Nat).gcd wh,wh/(1:Nat).gcd wh,aal 3 (srvK wh (p,3)),b⟩=true:=by
    unfold alk;refine abz.mpr λd hd=>?_;let⟨s,e,rfl⟩:=aap.mp hd;rw[adP e];exact Cz (bc (k:=1) λd hd=>by
     simp only[aaf,abd,or_false]at hd;rcases hd with rfl|rfl
     .exact bc (k:=0) λd hd=>by
       simp only[aaf,abd,or_false]at hd;rcases hd with rfl|rfl<;>exact ci _
     .exact(ci _).mono (by decide))
   unfold kL cA;rw[g,a];simp only[if_true];decide +kernel
  exact abx key key
def flt(i j:Nat):List (Nat×Nat):=prs.filter λp=>decide (p.1<i\/(p.1=i/\p.2<j))
def p7:∀i<4,∀j<4,flt i (j+1)=flt i j++(if i=j then []else [(i,j)])/\(decide (wrd i=wrd j)=decide (i=j)):=by decide +kernel
def BO:∀i<4,flt i 4=flt (i+1) 0:=by decide +kernel
def prD2(p:Nat×Nat):aD:=.tuple [.str (wrd p.1),.str (wrd p.2)]
theorem o3{i:Nat}{d:aD}(e:([.str "random",.str "two",.str "least",.str "quick"]:List aD)[i]?=some d):i<4/\d = .str (wrd i):=by
 have c:i<4:=(Ad.mp e).1;refine⟨c,?_⟩;rcases (show i=0\/i=1\/i=2\/i=3 by omega)with rfl|rfl|rfl|rfl<;>exact(aaB e).symm
def nh(S:yl h (rlN a) (rlN b)):sdW h a b = "never":=if_pos S
def lG{R:List Mv}(k:RunK h R)(x:bad (wlk h (rlN a) (rlN b) R)=true):sdW h a b = "worse":=if_neg λS=>by rw[S R k]at x;cases x
def inn(i j:Nat):List (Nat×Nat):=((aaz j).filter λk=>decide (k≠i)).map λk=>(i,k)
def CA:∀i<4,∀j<4,inn i (j+1)=inn i j++(if i=j then []else [(i,j)]):=by decide +kernel
def Jk:∀i<4,flt (i+1) 0=flt i 0++inn i 4:=by decide +kernel
def xz:Fine 1000 3 (.list (prs.map prD2)):=⟨by decide +kernel,by decide +kernel,by decide +kernel,by decide +kernel⟩
def uE{s:Str}(h:s∈(["random","two","least","quick","never","worse"]:List Str)):Fine 90 1 (.str s):=by
 refine⟨rfl,rfl,?_,abm _⟩;simp only[aaf,abd,or_false]at h;rcases h with rfl|rfl|rfl|rfl|rfl|rfl<;>decide +kernel
def GL(n:Nat):wrd n∈(["random","two","least","quick","never","worse"]:List Str):=by
 unfold wrd;split
 .exact aaa
 .split
  .exact LD _ aaa
  .split
   .exact LD _ (LD _ aaa)
   .exact LD _ (LD _ (LD _ aaa))
def Ij:sdW h a b∈(["random","two","least","quick","never","worse"]:List Str):=by
 unfold sdW
 split<;>decide +kernel
noncomputable def triD (h:Hall) (p:Nat×Nat):aD:=.tuple [.str (wrd p.1),.str (wrd p.2),.str (sdW h p.1 p.2)]
def jf(p:Nat×Nat):Fine 1000 2 (triD h p):=(dA (n:=90) (k:=1) (c:=3) (λd hd=>by
 simp only[aaf,abd,or_false]at hd;rcases hd with rfl|rfl|rfl
 .exact uE (GL _)
 .exact uE (GL _)
 .exact uE Ij) (by exact Mt 3)).mono (by decide) (by decide)
theorem zY{h:Hall}:∀l:List (Nat×Nat),((l.map λp=>ac7 (sdW h p.1 p.2)).any λy=>aag y .none)=false
 |[]=>rfl
 |p::l=>by
  rw[aak,aex,zY l,Bool.or_false];rfl
section
variable {P:aaF}{w:World}{K:aad}{mg:Str->Option mT}{base:aaW}
theorem zM(T:Bl K mg)(D:DefM K mg "is_less" qb ["one","other"]):FnM P w K mg base "is_less" 1 2 GU:=by
 refine bf D Ca rfl (nN:=2) rfl (by decide) ?ar λi A outer s H E f o=>⟨_,(aa (ag (df gC (af bM (ae (mv' 0) mh') (ae (mv' 1) mh')) (af bM (ae (mv' 1) mh') (ae (mv' 0) mh')) (aB _)))),?_⟩
 case ar=>intro j g ⟨a,b,c,d,rfl,_⟩;rfl
 intro j g p ⟨a,b,c,d,rfl,n,m,q,hd,k⟩;refine ap (MSt.mk [some (.imm (.tuple [.int a,.int b])),some (.imm (.tuple [.int c,.int d]))] [] 0) rfl ?_;ext s;have e:decide ((a:Int)*(d:Int)<(c:Int)*(b:Int))=decide (a*d<c*b):=by
  rw[<-adX,<-adX];exact decide_eq_decide.mpr Int.ofNat_lt
 rw[e];exact k
theorem xT(T:Bl K mg)(D:DefM K mg "is_alike" lc ["hall"]):FnM P w K mg base "is_alike" 1 1 Ie:=by
 refine bf D jx rfl (nN:=3) rfl (by decide) ?ar λF A outer s H E f C=>⟨_,(mz' (au 1 jx.nd (ae (mv' 0) mh'))
   (mz' (b6 (aY (mv' 1)) (ak 2 jx.nd) (aa (aU (am (gA C.units) (mv' 2) (ae (mv' 1) mh') (aB _)) (aa (ag lj)) aA)) aaD)
   (aa (ag lj)))),?_⟩
 case ar=>intro J z ⟨h,rfl,_⟩;rfl
 intro J z N ⟨h,rfl,I,k⟩;have n1:=I.n1;refine ap (MSt.mk [some (.imm (.tuple [.tuple [.int h.a,.int h.b],.tuple (h.ss.map Srv.d),.bool h.mv])),none,none] [] 0) rfl ?_;ext s;have sh:∀d∈h.ss.map Srv.d,Shp 2 d:=λd hd=>by
  let⟨s,_,rfl⟩:=aap.mp hd;exact bc (k:=1) λd hd=>by
   simp at hd;rcases hd with rfl|rfl
   .exact bc (k:=0) λd hd=>by
     simp at hd;rcases hd with rfl|rfl<;>exact ci _
   .exact(ci _).mono (by decide)
 have v:(h.ss.map Srv.d).length=h.ss.length:=iO ..;unfold alk at k;generalize h.ss.map Srv.d=ss at *;let⟨c,x,y⟩:=Ig (xs:=ss) (i:=0) (by decide) (by omega);have G:ss.getD 0 .none=c:=by rw[aar];have:ss[0]?=some c:=x;rw[this];rfl
 rw[G]at k;refine gy (λi m=>∃u,m=MSt.mk [some (.imm (.tuple [.tuple [.int h.a,.int h.b],.tuple ss,.bool h.mv])),some (.imm (.tuple ss)),u] [] 0/\∀(j:Nat) s,j<i->ss[j]?=some s->aag s c=true) ⟨none,rfl,λj s g=>by omega⟩ ?_ ?_
 .rintro i s m e n ⟨u,rfl,hp⟩;ext s;refine' ba (d:=c) ?ea ?_
  case ea=>exact y
  refine x_ne rfl rfl ((sh s (GT e)).ok (by decide)) ((sh c (GT x)).ok (by decide)) ?_;ext s
  cases q:aag s c with
  |false=>
   refine jb ?_;ext s;have:(ss.all λs=>aag s c)=false:=List.all_eq_false.mpr ⟨s,GT e,by rw[q];exact aam⟩;rw[this]at k;exact k
  |true=>
   refine ji ?_;ext s;refine⟨_,rfl,λj t g o=>?_⟩
   by_cases p:j=i
   .subst p;rw[e]at o;cases o;exact q
   .exact hp j t (by omega) o
 .rintro m n ⟨u,rfl,hp⟩;ext s;have:(ss.all λs=>aag s c)=true:=abz.mpr λs B=>by
   let⟨j,g,ej⟩:=abW.mp B;exact hp j s g (by rw[lD g,ej])
  rw[this]at k;exact k
theorem ko(T:Bl K mg)(D:DefM K mg "place_of_lines" d3 ["hall","lines"]):FnM P w K mg base "place_of_lines" 1 2 Cf:=by
 refine bf D cb rfl (nN:=5) rfl (by decide) ?ar λt A outer s H E f B=>⟨_,(mz' (au 2 cb.nd mh')
   (mz' (b6 (uR T.zip (mc' (mv' 1) (mc' (ae (mv' 0) mh') mn'))) (bj (n:=2) (ac (ak 3 cb.nd) (ac (ak 4 cb.nd) aM))) (aa (au 2 cb.nd (af aE (af bM (mv' 2) (af aE (ae (mv' 4) mh') mh')) (mv' 3)))) aaD)
   (aa (ag (mv' 2))))),?_⟩
 case ar=>intro v q ⟨h,l,rfl,_⟩;rfl
 intro v q C ⟨h,l,rfl,u,j,k⟩;refine ap (MSt.mk [some (.imm h.d),some (.imm (.tuple (natD l))),none,none,none] [] 0) rfl ?_;ext s;refine⟨true,_,true,_,rfl,rfl,?_⟩;refine gy (λi m=>∃a b,m=MSt.mk [some (.imm h.d),some (.imm (.tuple (natD l))),some (.imm (.int (M7.placeF 0 (h.rs.take i) (l.take i):Nat))),a,b] [] 0) ⟨none,none,rfl⟩ ?_ ?_
 .rintro i d m e n ⟨a,b,rfl⟩;let⟨a1,b1,g,c,rfl⟩:=vf e;let⟨x,ex,rfl,z⟩:=gmap g;let⟨s,o,rfl,y⟩:=gmap c;have r6:=(u.ok s (GT o)).r6;rw[M7.placeF_take (Hall.rs_get o) ex];dsimp only[Srv.d];ext s
  .rfl
  ext s;generalize M7.placeF 0 (h.rs.take i) (l.take i)=P;have p:(P:Int)*((s.r:Int)+1)+(x:Int)=((P*(s.r+1)+x:Nat):Int):=by
   rw[aeO,adX,aeO];rfl
  rw[p];exact⟨_,_,rfl⟩
 .rintro m n ⟨a,b,rfl⟩;have g:min (natD l).length (h.ss.map Srv.d).length=l.length:=by rw[bi,iO];have:=j.1;omega
  rw[dJ,g];have c:h.rs.take l.length=h.rs:=by rw[j.1,<-h.rsl];exact aau
  rw[c,aau];ext s;exact k
theorem kz(T:Bl K mg)(D:DefM K mg "first_shortest" d4 ["lines","order"]):FnM P w K mg base "first_shortest" 1 2 pJ:=by
 refine bf D cz rfl (nN:=4) rfl (by decide) ?ar λv A outer s H E f B=>⟨_,(mz' (au 2 cz.nd (ae (mv' 1) mh'))
   (mz' (b6 (aY (mv' 1)) (ak 3 cz.nd) (aa (aU (am gC (ae (mv' 0) (mv' 3)) (ae (mv' 0) (mv' 2)) (aB _)) (aa (au 2 cz.nd (mv' 3))) aA)) aaD)
   (aa (ag (mv' 2))))),?_⟩
 case ar=>intro x t ⟨l,o,rfl,_⟩;rfl
 intro x t C ⟨l,o,rfl,g,k⟩;let⟨c,os,rfl,z⟩:=g.cons;refine ap (MSt.mk [some (.imm (.tuple (natD l))),some (.imm (.tuple (natD (c::os)))),none,none] [] 0) rfl ?_;ext s;refine ba (bh (j:=0) (bt rfl)) ?_;ext s;refine gy (λi m=>∃a,m=MSt.mk [some (.imm (.tuple (natD l))),some (.imm (.tuple (natD (c::os)))),some (.imm (.int (M7.pick (cG l) c ((c::os).take i):Nat))),a] [] 0) ⟨none,rfl⟩ ?_ ?_
 .rintro i d m e n ⟨a,rfl⟩;let⟨j,ej,rfl,y⟩:=gmap e;have u:=g.lt j (GT ej);have p:M7.pick (cG l) c ((c::os).take i)<l.length:=k9 g i;have q:(c::os).take (i+1)=(c::os).take i++[j]:=by rw[aaR,ej];rfl
  rw[q,M7.pick_app];generalize M7.pick (cG l) c ((c::os).take i)=b at p;ext s;refine ba (bh (bt (getN rfl u))) ?_;ext s;refine ba (bh (bt (getN rfl p))) ?_;ext s;refine bg (λh=>?_) (λh=>?_)
  .ext s;rw[if_pos (show cG l j b=true from decide_eq_true (by omega))];exact⟨_,rfl⟩
  .ext s;rw[if_neg (show ¬cG l j b=true by unfold cG;rw[decide_eq_true_eq];omega)];exact⟨_,rfl⟩
 .rintro m n ⟨a,rfl⟩;rw[bi,aau];ext s;exact k
theorem yN(T:Bl K mg)(D:DefM K mg "wait_at" qm ["hall","lines","line"]):FnM P w K mg base "wait_at" 1 3 Im:=by
 refine bf D nR rfl (nN:=5) rfl (by decide) ?ar λt A outer s H E f y=>⟨_,(mz' (cB (ae (ae (ae (mv' 0) mh') (mv' 2)) mh') (bj (n:=2) (ac (ak 3 nR.nd) (ac (ak 4 nR.nd) aM))))
   (aa (ag (ah (mc' (af bM (af aE (ae (mv' 1) (mv' 2)) mh') (mv' 4)) (mc' (mv' 3) mn')))))),?_⟩
 case ar=>intro x p ⟨h,l,j,rfl,_⟩;rfl
 intro x p z ⟨h,l,j,rfl,v,g,c,k⟩;let⟨s,m,q,eb,i⟩:=h.srv c;have o:=v.ok s i;have b2:=o.b2;rw[q,eb]at k;have u:=getN g.1 c;refine ap (MSt.mk [some (.imm h.d),some (.imm (.tuple (natD l))),some (.imm (.int (j:Int))),none,none] [] 0) rfl ?_;ext s;refine ba (d:=s.d) (bh (by rw[aah,m];rfl)) ?_;dsimp only[Srv.d];ext s
 .rfl
 ext s;refine ba (bh (bt u)) ?_;ext s;have e:(((l.getD j 0:Nat):Int)+1)*(s.b:Int)=(((l.getD j 0+1)*s.b:Nat):Int):=by
  rw[adX,aeO];rfl
 rw[e];exact k
theorem kH(T:Bl K mg)(D:DefM K mg "first_quickest" dG ["hall","lines","order"])(G:FnM P w K mg base "wait_at" 1 3 Im)(g:FnM P w K mg base "is_less" 1 2 GU):FnM P w K mg base "first_quickest" 2 3 oY:=by
 refine bf D bU rfl (nN:=7) rfl (by decide) ?ar λO A outer s H E f v=>⟨_,(mz' (au 3 bU.nd (ae (mv' 2) mh'))
   (mz' (au 4 bU.nd (mf' G (v.mono (by decide)) (mc' (mv' 0) (mc' (mv' 1) (mc' (mv' 3) mn')))))
   (mz' (b6 (aY (mv' 2)) (ak 5 bU.nd) (mz' (au 6 bU.nd (mf' G (v.mono (by decide)) (mc' (mv' 0) (mc' (mv' 1) (mc' (mv' 5) mn')))))
   (aa (aU (dh (mf' g (v.mono (by decide)) (mc' (mv' 6) (mc' (mv' 4) mn')))) (aa (jF (i:=3) (j:=4) bU.nd rfl rfl (by decide) rfl rfl (mc' (mv' 5) (mc' (mv' 6) mn')) rfl)) aA))) aaD)
   (aa (ag (mv' 3)))))),?_⟩
 case ar=>intro S R ⟨h,l,o,rfl,_⟩;rfl
 intro S R V ⟨h,l,o,rfl,u,t,x,k⟩;let⟨c,os,rfl,J⟩:=x.cons;have B:∀j,j<h.ss.length->(l.getD j 0+1)*h.bn j<1000000000000/\h.an j<1000000000000:=λj p=>by
  let⟨s,U,N,eb,Q⟩:=h.srv p;have y:=u.ok s Q;have W:=t.le u _ (GT (getN t.1 p));rw[N,eb];have:=y.a2;have:(l.getD j 0+1)*s.b≤7*1000000:=abx (by omega) (by have:=y.b2;omega);omega
 refine ap (MSt.mk [some (.imm h.d),some (.imm (.tuple (natD l))),some (.imm (.tuple (natD (c::os)))),none,none,none,none] [] 0) rfl ?_;ext s;refine ba (bh (j:=0) (bt rfl)) ?_;ext s;refine⟨h,l,c,rfl,u,t,J,?_⟩;ext x;refine gy (λi m=>∃a b,m=MSt.mk [some (.imm h.d),some (.imm (.tuple (natD l))),some (.imm (.tuple (natD (c::os)))),some (.imm (.int (M7.pick (cK h l) c ((c::os).take i):Nat))),some (.imm (frD ((l.getD (M7.pick (cK h l) c ((c::os).take i)) 0+1)*h.bn (M7.pick (cK h l) c ((c::os).take i)):Nat) (h.an (M7.pick (cK h l) c ((c::os).take i)):Nat))),a,b] [] 0) ⟨none,none,rfl⟩ ?_ ?_
 .rintro i d m e n ⟨a,b,rfl⟩;let⟨j,ej,rfl,X⟩:=gmap e;have p:=x.lt j (GT ej);have z:M7.pick (cK h l) c ((c::os).take i)<h.ss.length:=k9 x i;have I:(c::os).take (i+1)=(c::os).take i++[j]:=by rw[aaR,ej];rfl
  rw[I,M7.pick_app];generalize M7.pick (cK h l) c ((c::os).take i)=b at z;ext s;refine⟨h,l,j,rfl,u,t,p,?_⟩;ext x;let⟨b1,b2⟩:=B j p;let⟨C,F⟩:=B b z;refine⟨_,_,_,_,rfl,b1,b2,C,F,?_⟩;ext x;refine bg (λq=>?_) (λq=>?_)
  .ext s;rw[if_pos (show cK h l j b=true from decide_eq_true q)];exact⟨_,_,rfl⟩
  .ext s;rw[if_neg (show ¬cK h l j b=true by unfold cK;rw[decide_eq_true_eq];exact q)];exact⟨_,_,rfl⟩
 .rintro m n ⟨a,b,rfl⟩;rw[bi,aau];ext s;exact k
theorem za(T:Bl K mg)(D:DefM K mg "sent_to" qT ["hall","rule","stand","order"])(G:FnM P w K mg base "first_shortest" 1 2 pJ)(d:FnM P w K mg base "first_quickest" 2 3 oY)(c:FnM P w K mg base "place_of_lines" 1 2 Cf):FnM P w K mg base "sent_to" 3 4 xi:=by
 refine bf D jm rfl (nN:=7) rfl (by decide) ?ar λI A outer s H E f g=>⟨_,(mz' (cB (mv' 2) (bj (n:=2) (ac (ak 4 jm.nd) (ac (ak 5 jm.nd) aM))))
   (mz' (au 6 jm.nd (ae (mv' 1) mh'))
   (mz' (aU (am (bF g.units) (mv' 6) ai (aB _)) (aa (ag (ae (mv' 3) mh'))) aA)
   (mz' (aU (am (bF g.units) (mv' 6) ai (aB _)) (aa (ag (mv' 5))) aA)
   (mz' (aU (am (bF g.units) (mv' 6) ai (aB _)) (aa (ag (mf' G (g.mono (by decide)) (mc' (mv' 4) (mc' (cE (cc di (mv' 3) cW (cu mh'))) mn'))))) aA)
   (mz' (aU (am (bF g.units) (mv' 6) ai (aB _)) (aa (ag (mf' G (g.mono (by decide)) (mc' (mv' 4) (mc' (mv' 3) mn'))))) aA)
   (mz' (aU (am (bF g.units) (mv' 6) ai (aB _)) (aa (ag (mf' d (g.mono (by decide)) (mc' (mv' 0) (mc' (mv' 4) (mc' (mv' 3) mn')))))) aA)
   (aa (ag (ae (ae (mv' 1) mh') (mf' c (g.mono (by decide)) (mc' (mv' 0) (mc' (mv' 4) mn'))))))))))))),?_⟩
 case ar=>intro J C ⟨h,r,l,t,o,rfl,_⟩;rfl
 intro J C N ⟨h,r,l,t,o,rfl,B,v,m,p,k⟩;have u:=m.1;have i:Ord l.length o:=by rw[u];exact p
 cases r with
 |random=>
  refine ap (MSt.mk [some (.imm h.d),some (.imm (.tuple [.str "random"])),some (.imm (.tuple [lnD l,.int (t:Int)])),some (.imm (.tuple (natD o))),none,none,none] [] 0) rfl ?_;ext s
  .rfl
  ext s;refine bg (λ_=>?_) (λz=>(z rfl).elim);let⟨x,os,rfl,F⟩:=p.cons;ext s;refine ba (bh (j:=0) (bt rfl)) ?_;ext s;exact k
 |turns=>
  refine ap (MSt.mk [some (.imm h.d),some (.imm (.tuple [.str "turns"])),some (.imm (.tuple [lnD l,.int (t:Int)])),some (.imm (.tuple (natD o))),none,none,none] [] 0) rfl ?_;ext s
  .rfl
  ext s;ext b;exact k
 | two=>
  refine ap (MSt.mk [some (.imm h.d),some (.imm (.tuple [.str "two"])),some (.imm (.tuple [lnD l,.int (t:Int)])),some (.imm (.tuple (natD o))),none,none,none] [] 0) rfl ?_;ext s
  .rfl
  ext s;ext a;refine bg (λ_=>?_) (λz=>(z rfl).elim);ext s;have e:cutD (natD o) none (some 2)=natD (o.take 2):=by
   rw[show(2:Int)=((2:Nat):Int)from rfl,uq];simp[natD]
  rw[e];let⟨x,os,rfl,F⟩:=p.cons;refine⟨l,(x::os).take 2,rfl,⟨by simp,λk hk=>i.lt k (acp hk),by rw[aaw];omega⟩,?_⟩;ext n;exact k
 |least=>
  refine ap (MSt.mk [some (.imm h.d),some (.imm (.tuple [.str "least"])),some (.imm (.tuple [lnD l,.int (t:Int)])),some (.imm (.tuple (natD o))),none,none,none] [] 0) rfl ?_;ext s
  .rfl
  ext s;ext a;ext b;refine⟨l,o,rfl,i,?_⟩;ext n;exact k
 |quick=>
  refine ap (MSt.mk [some (.imm h.d),some (.imm (.tuple [.str "quick"])),some (.imm (.tuple [lnD l,.int (t:Int)])),some (.imm (.tuple (natD o))),none,none,none] [] 0) rfl ?_;ext s
  .rfl
  ext s;ext a;ext a;refine bg (λ_=>?_) (λz=>(z rfl).elim);ext s;refine⟨h,l,o,rfl,B,m,p,?_⟩;ext n;exact k
 |told y=>
  refine ap (MSt.mk [some (.imm h.d),some (.imm (.tuple [.str "told",.tuple (natD y)])),some (.imm (.tuple [lnD l,.int (t:Int)])),some (.imm (.tuple (natD o))),none,none,none] [] 0) rfl ?_;ext s
  .rfl
  ext s;ext a;ext a;refine bg (λz=>absurd z (by decide +kernel)) (λ_=>?_);ext s;refine⟨h,l,rfl,B,m,?_⟩;ext n;have q:M7.placeF 0 h.rs l<y.length:=by rw[v.1,M7.allR_cnt];exact M7.place_lt m.fits
  refine ba (bh (bt (getN rfl q))) ?_;exact k
theorem qi(T:Bl K mg)(D:DefM K mg "first_stand" gj ["hall"]):FnM P w K mg base "first_stand" 1 1 Ae:=by
 refine bf D qZ rfl (nN:=1) rfl (by decide) ?ar λg A outer s H E f j=>⟨_,(aa (ag (ah (mc' (af bM (ah (mc' mh' mn')) (aC ca (by rfl) T.len d6 (mc' (ae (mv' 0) mh') mn'))) (mc' mh' mn'))))),?_⟩
 case ar=>intro i d ⟨h,rfl,_⟩;rfl
 intro i d m ⟨h,rfl,c,k⟩;have n1:=c.n1;have n4:=c.n4;refine ap (MSt.mk [some (.imm h.d)] [] 0) rfl ?_;ext s;rw[iO];refine Ay (by omega) (by omega) (by simp;omega) ?_;ext s;have e:(aal ((h.ss.length:Nat):Int).toNat [abU 0]).flatten=natD (zer h):=by
  rw[aa8];simp[zer,natD]
 rw[e];exact k
theorem uf(T:Bl K mg)(D:DefM K mg "all_orders" fZ ["hall"]):FnM P w K mg base "all_orders" 1 1 Ja:=by
 refine bf D de rfl (nN:=4) rfl (by decide) ?ar λY A outer s H E f X=>⟨_,(mz' (rf (i:=1) de.nd rfl (adq rfl) (aC ca (by rfl) T.len d6 (mc' (ae (mv' 0) mh') mn')))
   (mz' (au 2 de.nd (bJ (mc' (ah mn') mn')))
   (mz' (b6 (cg (by rfl) T.range (mc' (mv' 1) mn')) (ak 3 de.nd) (aa (ue (i:=2) (own:=["ahead","line"]) (fr:=["many"]) (ps:=[1]) (sc:=(ab fZ)) (by exact⟨rfl,by decide +kernel,by decide +kernel,by decide +kernel,by decide +kernel⟩) de.nd rfl rfl (aY (mv' 2)) (λ_ _ _ _ _=>(ak 0 (show aaM ((["ahead","line"]:List Str)++(["many"]:List Str))from by decide +kernel))) (λ_ _ _ _ _=>bv) (λ_ _ _ _ _=>(cg (by rfl) T.range (mc' (mv' 2) mn'))) (λ_ _ _ _ _=>(ak 1 (show aaM ((["ahead","line"]:List Str)++(["many"]:List Str))from by decide +kernel))) (λ_ _ _ _ _=>(jq (am (jj X.units) (mv' 1) (mv' 0) (by with_unfolding_all rfl)))) (λ_ _ _ _ _=>(af aE (mv' 0) (ah (mc' (mv' 1) mn')))))) aaD)
   (aa (ag (mv' 2)))))),?_⟩
 case ar=>intro as V ⟨h,rfl,_⟩;rfl
 intro as V hl ⟨h,rfl,O,k⟩;have n1:=O.n1;have n4:=O.n4;refine ap (MSt.mk [some (.imm h.d),none,none,none] [] 0) rfl ?_;ext c;rw[iO];refine⟨by omega,by omega,?_⟩;rw[aa8];refine gy (λi m=>∃a,m=MSt.mk [some (.imm h.d),some (.imm (.int (h.ss.length:Nat))),some (.obj 0),a] [(ordK h.ss.length i).map lnD] 0) ⟨none,rfl⟩ ?_ ?_
 .rintro i d m e n ⟨a,rfl⟩;let⟨hi,rfl⟩:=c6 e;let⟨C,p⟩:=g9 h.ss.length n4 i (by omega);have o:=ik h.ss.length n4 i (by omega);rw[show ordK h.ss.length (i+1)=gh h.ss.length (ordK h.ss.length i)from rfl];generalize ordK h.ss.length i=os at C p o;ext s;ext n;refine jM (λz m=>∃b c,m=MSt.mk [b,c,some (.imm (.int (h.ss.length:Nat)))] [os.map lnD,(gh h.ss.length (os.take z)).map lnD] 2) ⟨none,none,rfl⟩ ?_ ?_ ?_
  .rintro z m ⟨b,c,rfl⟩;rfl
  .rintro z d m ez nz ⟨b,c,rfl⟩;let⟨l,F,rfl,hz⟩:=gmap ez;let⟨S,Z⟩:=p l (GT F);have Q:=(Ad.mp F).1;have J:=o z (by omega);ext s;refine⟨by omega,by omega,?_⟩;rw[aa8];let⟨G,g⟩:∃G:Nat->List (List Nat),G=λy=>gh h.ss.length (os.take z)++((aaz y).filter λq=>!l.contains q).map λq=>l++[q]:=⟨_,rfl⟩;have B:G 0=gh h.ss.length (os.take z):=by rw[g];simp
   have v:G h.ss.length=gh h.ss.length (os.take (z+1)):=by rw[g,pp F]
   have t:∀y,G (y+1)=G y++([y].filter λq=>!l.contains q).map λq=>l++[q]:=λy=>by
    rw[g];show _++((aaz (y+1)).filter _).map _=_;rw[aca,afd,aaq,aaU]
   have u:∀y,y≤4->(G y).length≤28:=λy R=>by
    rw[g];dsimp only;rw[aaj,iO];have:=abn (λq=>!l.contains q) (aaz y);rw[aaV]at this;omega
   clear g;rw[<-B];refine bx (λy m=>∃c,m=MSt.mk [some (.imm (lnD l)),c,some (.imm (.int (h.ss.length:Nat)))] [os.map lnD,(G y).map lnD] 2) ⟨c,rfl⟩ ?_ ?_
   .rintro y d m ey ny ⟨c,rfl⟩ D1 hD1 hR1;let⟨R,rfl⟩:=c6 ey;rw[show(0:Int)+(y:Int)=((y:Nat):Int) by omega];have N:=u y (by omega);have I:(natD l).any (λx=>aag x (.int (y:Int)))=l.contains y:=by
     rw[abF,aeu,agn];constructor
     .rintro⟨x,hx,ex⟩;let⟨w,U,rfl⟩:=aap.mp hx;rw[cq]at ex;rw[<-of_decide_eq_true ex];exact U
     .intro hm;exact⟨_,aap.mpr ⟨y,hm,rfl⟩,by rw[cq];exact decide_eq_true rfl⟩
    ext s;refine x_in (d:=.int (y:Int)) (ds:=natD l) rfl (.inr rfl) (ci _) (bV l) (by decide) ?_;ext s;rw[I]
    cases hc:l.contains y with
    |true=>
     refine ji ?_;ext s;refine hD1 _ ⟨some (.imm (.int (y:Int))),?_⟩;rw[t,show([y].filter λq=>!l.contains q)=[] by rw[acy,hc];rfl,ac5,aaN];rfl
    |false=>
     refine jb ?_;ext s;refine ip (by rw[aae,bi];simp;omega) ?_;ext s;refine⟨_,rfl,by rw[aae,iO];omega,hD1 _ ⟨some (.imm (.int (y:Int))),?_⟩⟩;rw[t,show([y].filter λq=>!l.contains q)=[y] by rw[acy,hc];rfl,aaq];simp[lnD,natD,MSt.setV]
   .rintro m ny ⟨c,rfl⟩;rw[aV,v];ext s;exact⟨_,_,rfl⟩
  .rintro m nz ⟨b,c,rfl⟩;rw[iO,aau];ext n;refine gN (k:=0) rfl (Mt _) (λj W=>?_) ⟨_,rfl⟩
   match j with
   |0|1|3=>exact λz=>by cases z
   |2=>exact(W rfl).elim
   |n+4=>exact λz=>by cases z
 .rintro m n ⟨a,rfl⟩;rw[aV];ext s;exact k
theorem vn(T:Bl K mg)(D:DefM K mg "all_moves" fj ["hall"])(G:FnM P w K mg base "all_orders" 1 1 Ja):FnM P w K mg base "all_moves" 2 1 qr:=by
 refine bf D mY rfl (nN:=2) rfl (by decide) ?ar λt A outer s H E f p=>⟨_,(mz' (jt (i:=1) (own:=["line"]) (fr:=[]) (ps:=[]) (sc:=(ab fj)) (by exact⟨rfl,by decide +kernel,by decide +kernel,by decide +kernel,by decide +kernel⟩) mY.nd rfl rfl (cg (by rfl) T.range (mc' (aC ca (by rfl) T.len d6 (mc' (ae (mv' 0) mh') mn')) mn')) (λ_ _ _ _ _=>(ak 0 (show aaM ((["line"]:List Str)++([]:List Str))from by decide +kernel))) (λ_ _ _ _ _=>bv) (λ_ _ _ _ _=>(ah (mc' ai (mc' (mv' 0) mn')))))
   (aa (ag (af aE (af aE (bo (own:=["order"]) (fr:=[]) (ps:=[]) (sc:=(ab fj)) (by exact⟨rfl,by decide +kernel,by decide +kernel,by decide +kernel,by decide +kernel⟩) (aY (cE (mf' G (p.mono (by decide)) (mc' (mv' 0) mn')))) (λ_ _ _ _ _=>(ak 0 (show aaM ((["order"]:List Str)++([]:List Str))from by decide +kernel))) (λ_ _ _ _ _=>bv) (λ_ _ _ _ _=>(ah (mc' ai (mc' (mv' 0) mn'))))) (mv' 1)) (bJ (mc' (ah (mc' ai mn')) mn')))))),?_⟩
 case ar=>intro u j ⟨h,rfl,_⟩;rfl
 intro u j x ⟨h,rfl,g,k⟩;have n4:=g.n4;have v:(ordK h.ss.length h.ss.length).length≤24:=(g9 _ n4 _ n4).1;refine ap (MSt.mk [some (.imm h.d),none] [] 0) rfl ?_;ext s;refine⟨by rw[iO];omega,by rw[iO];omega,?_⟩;rw[iO,aa8];refine bx (λi m=>∃a:Option L2.R,m=MSt.mk [a] [(aaz i).map λk=>(Mv.done k).d] 1) ⟨none,rfl⟩ ?_ ?_
 .rintro i d m e c ⟨a,rfl⟩ D1 hD1 hR1;let⟨n,rfl⟩:=c6 e;ext s;refine⟨_,rfl,by rw[aae,iO,aaV];omega,hD1 _ ⟨some (.imm (.int (0+(i:Int)))),?_⟩⟩;rw[aca,aaq,show(0:Int)+(i:Int)=((i:Nat):Int) by omega];rfl
 intro m c ⟨a,rfl⟩;rw[aV];ext n;refine cF ?_;ext x;refine⟨h,rfl,g,?_⟩;ext x;refine bx (λi m=>∃a:Option L2.R,m=MSt.mk [a] [(aaz h.ss.length).map λk=>(Mv.done k).d,((ordK h.ss.length h.ss.length).take i).map λo=>(Mv.come o).d] 2) ⟨none,rfl⟩ ?_ ?_
 .rintro i d m e c ⟨a,rfl⟩ D1 hD1 hR1;let⟨o,q,rfl,n⟩:=gmap e;ext s;refine⟨_,rfl,by rw[aae,iO,aaw];omega,hD1 _ ⟨some (.imm (lnD o)),?_⟩⟩;rw[aaR,q,aaq];rfl
 intro m c ⟨a,rfl⟩;rw[iO,aau];ext x;refine J6 (a:=(ordK h.ss.length h.ss.length).map λo=>(Mv.come o).d) (b:=(aaz h.ss.length).map λk=>(Mv.done k).d) rfl (by rw[iO,iO,aaV,aae];omega) ?_;ext s;refine zo (by rw[aaj,iO,iO,aaV,aae];simp;omega) ?_;rw[Qg]at k;ext s;exact k
theorem vd(T:Bl K mg)(D:DefM K mg "with_more" jL ["lines","line","more"]):FnM P w K mg base "with_more" 1 3 pk:=by
 refine bf D uT rfl (nN:=3) rfl (by decide) ?ar λn A outer s H E f p=>⟨_,(aa (ag (af aE (af aE (cc di (mv' 0) cW (cu (mv' 1))) (ah (mc' (af aE (ae (mv' 0) (mv' 1)) (mv' 2)) mn'))) (cc di (mv' 0) (cu (af aE (mv' 1) mh')) cW)))),?_⟩
 case ar=>intro o m ⟨l,j,d,x,rfl,_⟩;rfl
 intro o m q ⟨l,j,d,x,rfl,c,i,g,k⟩;refine ap (MSt.mk [some (.imm (.tuple (natD l))),some (.imm (.int (j:Int))),some (.imm (.int d))] [] 0) rfl ?_;ext s;refine ba (bh (bt (getN rfl c))) ?_;ext s;rw[g,uq];refine ip (by rw[aae,aaw,bi];simp;omega) ?_;ext s;rw[show(j:Int)+1=((j+1:Nat):Int)from rfl,jc];refine ip (by rw[aae,aaj,aaw,aep,bi];simp;omega) ?_;ext s;have e:(natD l).take j++[.int (x:Int)]++(natD l).drop (j+1)=natD (l.set j x):=by
  rw[<-xy,ad5,if_pos (by rw[bi];exact c)];simp
 rw[e];exact k
theorem AB(T:Bl K mg)(D:DefM K mg "come_to" qL ["hall","lines","line"])(G:FnM P w K mg base "with_more" 1 3 pk):FnM P w K mg base "come_to" 2 3 IR:=by
 refine bf D zw rfl (nN:=3) rfl (by decide) ?ar λq A outer s H E f n=>⟨_,(mz' (aU (am (bF n.units) (ae (mv' 1) (mv' 2)) (ae (ae (ae (mv' 0) mh') (mv' 2)) mh') (aB _)) (aa (ag (ah (mc' (mv' 1) (mc' ai mn'))))) aA)
   (aa (ag (ah (mc' (mf' G (n.mono (by decide)) (mc' (mv' 1) (mc' (mv' 2) (mc' mh' mn')))) (mc' ai mn')))))),?_⟩
 case ar=>intro u p ⟨h,l,j,rfl,_⟩;rfl
 intro u p y ⟨h,l,j,rfl,t,o,m,k⟩;have c:=o.1;have n4:=t.n4;let⟨s,g,x,eb,v⟩:=h.srv m;have i:h.rn j=s.r:=bO (Hall.rs_get g);refine ap (MSt.mk [some (.imm h.d),some (.imm (.tuple (natD l))),some (.imm (.int (j:Int)))] [] 0) rfl ?_;ext s;refine ba (bh (bt (getN c m))) ?_;ext s;refine ba (d:=s.d) (bh (by rw[aah,g];rfl)) ?_;dsimp only[Srv.d];ext s;refine bg (λz=>?_) (λz=>?_)
 .ext s;have e:c7 h l j=(l,.away):=if_pos (by rw[i];omega);rw[e]at k;exact k
 .ext s;refine⟨l,j,1,l.getD j 0+1,rfl,by omega,by omega,rfl,?_⟩;ext x;have e:c7 h l j=(l.set j (l.getD j 0+1),.taken):=if_neg (by rw[i];omega);rw[e]at k;exact k
theorem Bx(T:Bl K mg)(D:DefM K mg "done_at" qt ["lines","line"])(G:FnM P w K mg base "with_more" 1 3 pk):FnM P w K mg base "done_at" 2 2 Jc:=by
 refine bf D zh rfl (nN:=2) rfl (by decide) ?ar λm A outer s H E f g=>⟨_,(mz' (aU (am (bF g.units) (ae (mv' 0) (mv' 1)) mh' (aB _)) (aa (ag (ah (mc' (mv' 0) (mc' ai mn'))))) aA)
   (aa (ag (ah (mc' (mf' G (g.mono (by decide)) (mc' (mv' 0) (mc' (mv' 1) (mc' (o4 jA mh') mn')))) (mc' ai mn')))))),?_⟩
 case ar=>intro n i ⟨l,j,rfl,_⟩;rfl
 intro n i o ⟨l,j,rfl,d,c,k⟩;refine ap (MSt.mk [some (.imm (.tuple (natD l))),some (.imm (.int (j:Int)))] [] 0) rfl ?_;ext s;refine ba (bh (bt (getN rfl d))) ?_;ext s;refine bg (λz=>?_) (λz=>?_)
 .ext s;have e:dF l j=(l,.none):=if_pos (by omega);rw[e]at k;exact k
 .ext s;refine⟨l,j,-1,l.getD j 0-1,rfl,d,c,by omega,?_⟩;ext x;have e:dF l j=(l.set j (l.getD j 0-1),.served):=if_neg (by omega);rw[e]at k;exact k
theorem tu(T:Bl K mg)(D:DefM K mg "next_shift" iM ["hall","lines"]):FnM P w K mg base "next_shift" 1 2 zk:=by
 refine bf D tJ rfl (nN:=2) rfl (by decide) ?ar λO A outer s H E f B=>⟨_,(mz' (aU (EW.pt (mF (qM (dh (ae (mv' 0) mh'))) (mF (am (jj B.units) mh' (mv' 1) (by with_unfolding_all rfl)) (jv (am gC (aC (fy rfl) (by rfl) T.max o7 (mc' (mv' 1) mn')) mh' (aB _)))))) (aa (ag e9)) aA)
   (aa (ag (ah (mc' (vH acl acR (gH B.units) (mv' 1) (mc' (aC (fy rfl) (by rfl) T.max o7 (mc' (mv' 1) mn')) mn')) (mc' (vH acl acR (gH B.units) (mv' 1) (mc' mh' mn')) mn')))))),?_⟩
 case ar=>intro Q N ⟨h,l,rfl,_⟩;rfl
 intro Q N U ⟨h,l,rfl,u,J,k⟩;have g:db (natD l)=some (l.map λ(x:Nat)=>(x:Int)):=by
  have:=dW (l.map λ(x:Nat)=>(x:Int));rwa[aa9]at this
 have o:(l.map λ(x:Nat)=>(x:Int))≠[]:=λz=>u (agI.mp z);have m:∀x:Int,x∈(l.map λ(x:Nat)=>(x:Int))->(∀y∈(l.map λ(x:Nat)=>(x:Int)),y≤x)->x=(maxN l:Int):=λx p c=>by
  let⟨n,I,rfl⟩:=aap.mp p;have S:=vg n I;have R:=c (maxN l:Int) (aap.mpr ⟨maxN l,iY u,rfl⟩);omega
 have C:(natD l).any (λy=>aag y (.int 0))=decide (0∈l):=by
  rw[abF];rw[aeu,decide_eq_true_eq];constructor
  .rintro⟨y,c,e⟩;let⟨x,p,rfl⟩:=aap.mp c;have F:=cq x 0;rw[show((0:Nat):Int)=0 from rfl,e]at F;have:x=0:=of_decide_eq_true F.symm;rw[<-this];exact p
  .intro t;exact⟨.int 0,aap.mpr ⟨0,t,rfl⟩,cq 0 0⟩
 refine ap (MSt.mk [some (.imm h.d),some (.imm (.tuple (natD l)))] [] 0) rfl ?_;ext s
 cases hmv:h.mv with
 |false=>
  refine jb ?_;ext s;have e:dN h l=none:=if_neg (by rw[hmv];exact λz=>by cases z.1);rw[e]at k;exact k
 | true=>
  refine ji ?_;ext s;refine x_in (d:=.int 0) (ds:=natD l) rfl (.inr rfl) (ci 0) (bV l) (by decide) ?_;ext s;rw[C]
  by_cases t:0∈l
  .rw[decide_eq_true t];refine ji ?_;ext s;refine rE rfl g o λx p c=>?_;rw[m x p c];ext s;refine bg (λz=>?_) (λz=>?_)
   .ext s;have e:dN h l=none:=if_neg (λq=>by have:=q.2.2;omega);rw[e]at k;exact k
   .ext s;refine rE rfl g o λx p c=>?_;rw[m x p c];have s1:=ie (iY u);have G:=ie t;ext s;refine kQ (j:=idx l (maxN l)) (k':=0) (ci _) (bV l) (by decide) (bt s1.1) (by rw[cq];exact decide_eq_true rfl) (λi y v c=>?_) ?_
    .obtain⟨z,ez,rfl,_⟩:=gmap c;rw[cq];exact decide_eq_false (s1.2 i z v ez)
    ext s;refine kQ (j:=idx l 0) (k':=0) (ci _) (bV l) (by decide) (bt G.1) (cq 0 0) (λi y v c=>?_) ?_
    .obtain⟨z',ez,rfl,_⟩:=gmap c;have:=cq z' 0;rw[show((0:Nat):Int)=0 from rfl]at this;rw[this];exact decide_eq_false (G.2 i z' v ez)
    ext s;have e:dN h l=some (idx l (maxN l),idx l 0):=if_pos ⟨hmv,t,by omega⟩;rw[e]at k;exact k
  .rw[decide_eq_false t];refine jb ?_;ext s;have e:dN h l=none:=if_neg (λq=>t q.2.1);rw[e]at k;exact k
theorem Bc(T:Bl K mg)(D:DefM K mg "settled" qB ["hall","lines"])(G:FnM P w K mg base "next_shift" 1 2 zk)(c:FnM P w K mg base "with_more" 1 3 pk):FnM P w K mg base "settled" 2 2 sx:=by
 refine bf D jr rfl (nN:=3) rfl (by decide) ?ar λy A outer s H E f u=>⟨_,(mz' (au 2 jr.nd (mf' G (u.mono (by decide)) (mc' (mv' 0) (mc' (mv' 1) mn'))))
   (mz' (dH (am j1 (mv' 2) e9 (aB _)) (mz' (au 1 jr.nd (mf' c (u.mono (by decide)) (mc' (mf' c (u.mono (by decide)) (mc' (mv' 1) (mc' (ae (mv' 2) mh') (mc' (o4 jA mh') mn')))) (mc' (ae (mv' 2) mh') (mc' mh' mn')))))
   (aa (au 2 jr.nd (mf' G (u.mono (by decide)) (mc' (mv' 0) (mc' (mv' 1) mn')))))) aaD)
   (aa (ag (mv' 1))))),?_⟩
 case ar=>intro O C ⟨h,l,rfl,_⟩;rfl
 intro O C V ⟨h,l,rfl,o,j,k⟩;refine ap (MSt.mk [some (.imm h.d),some (.imm (lnD l)),none] [] 0) rfl ?_;ext s;refine⟨h,l,rfl,o,j,?_⟩;ext x;refine iI (λn m=>∃d:List Nat,m=MSt.mk [some (.imm h.d),some (.imm (lnD d)),some (.imm (optP (dN h d)))] [] 0/\n=d.count 0/\dg h n d=gi h l/\d≠[]/\d.length≤1000) (l.count 0) ⟨l,rfl,rfl,rfl,o,j⟩ ?_;intro n m Q ⟨d,rfl,rfl,v,t,q⟩;ext s
 cases e:dN h d with
 |none=>
  refine ji ?_;ext s;rw[kh e]at v;rw[<-v]at k;exact k
 | some p=>
  refine jb ?_;let⟨x,J,I,N,g⟩:=jS e;let⟨S,m1,m2,F,B⟩:=gQ e;have U:d.getD p.1 0=maxN d:=bO m1;have R:(d.set p.1 (maxN d-1)).getD p.2 0=0:=bO (by rw[aaP B];exact F);dsimp only[optP];ext s;refine⟨d,p.1,-1,maxN d-1,rfl,J,q,by omega,?_⟩;ext x;refine⟨d.set p.1 (maxN d-1),p.2,1,1,rfl,by rw[abg];exact I,by rw[abg];exact q,by omega,?_⟩;rw[<-x];ext x;have i:cI d p≠[]:=λz=>by
   rw[z]at g;exact t (aa6 g.symm)
  refine⟨h,cI d p,rfl,i,by omega,?_⟩;ext x;refine⟨(cI d p).count 0,by omega,cI d p,rfl,rfl,?_,i,by omega⟩;rw[<-v,<-N];show _=dg h ((cI d p).count 0+1) d;simp only[dg,e]
theorem qk(T:Bl K mg)(D:DefM K mg "turn_behind" gl ["hall","rule","turn"]):FnM P w K mg base "turn_behind" 1 3 Cq:=by
 refine bf D qG rfl (nN:=3) rfl (by decide) ?ar λg A outer s H E f c=>⟨_,(mz' (aU (am (bF c.units) (ae (mv' 1) mh') ai (aB _)) (aa (ag (af fX (af aE (mv' 2) mh') (aC ca (by rfl) T.len d6 (mc' (ae (mv' 0) mh') mn'))))) aA)
   (aa (ag (mv' 2)))),?_⟩
 case ar=>intro m d ⟨h,r,t,rfl,_⟩;rfl
 intro m d n ⟨h,r,t,rfl,i,k⟩;have n1:=i.n1;refine ap (MSt.mk [some (.imm h.d),some (.imm r.d),some (.imm (.int (t:Int)))] [] 0) rfl ?_;ext s;refine NG r.dc (bh (j:=0) rfl) ?_;ext s;refine bg (λz=>?_) (λz=>?_)
 .have c:r = .turns:=by cases r<;>first|rfl|exact absurd z (by decide +kernel)|exact absurd (show("told" : Str) = "turns" from z) (by decide +kernel)
  subst c;ext s;refine JJ (by rw[iO];omega) ?_;rw[iO];exact k
 .ext s;have e:yL h r t=t:=by cases r<;>first|rfl|exact absurd rfl z
  rw[e]at k;exact k
theorem AV(T:Bl K mg)(D:DefM K mg "line_of" qK ["hall","rule","stand","move"])(G:FnM P w K mg base "sent_to" 3 4 xi):FnM P w K mg base "line_of" 4 4 wn:=by
 refine bf D Cu rfl (nN:=4) rfl (by decide) ?ar λm A outer s H E f c=>⟨_,(mz' (aU (am (bF c.units) (ae (mv' 3) mh') ai (aB _)) (aa (ag (mf' G (c.mono (by decide)) (mc' (mv' 0) (mc' (mv' 1) (mc' (mv' 2) (mc' (ae (mv' 3) mh') mn'))))))) aA)
   (mz' (aU (am (bF c.units) (ae (mv' 3) mh') ai (aB _)) (aa (ag (ae (mv' 3) mh'))) aA)
   (aa (ag e9)))),?_⟩
 case ar=>intro p g ⟨h,r,l,t,mv,rfl,_⟩;rfl
 intro p g q ⟨h,r,l,t,mv,rfl,n,d,e,i,k⟩
 cases mv with
 |come o=>
  refine ap (MSt.mk [some (.imm h.d),some (.imm r.d),some (.imm (stD l t)),some (.imm (.tuple [.str "come",lnD o]))] [] 0) rfl ?_;ext s;refine bg (λ_=>?_) (λz=>(z rfl).elim);ext s;refine⟨h,r,l,t,o,rfl,n,d,e,i,?_⟩;ext n;exact k
 |done j=>
  refine ap (MSt.mk [some (.imm h.d),some (.imm r.d),some (.imm (stD l t)),some (.imm (.tuple [.str "done",.int (j:Int)]))] [] 0) rfl ?_;ext s;ext b;exact k
 |still=>
  refine ap (MSt.mk [some (.imm h.d),some (.imm r.d),some (.imm (stD l t)),some (.imm (.tuple [.str "still"]))] [] 0) rfl ?_;ext s;ext a;exact k
theorem ya(T:Bl K mg)(D:DefM K mg "moved_on" mh ["hall","rule","stand","move"])(i:FnM P w K mg base "line_of" 4 4 wn)(c:FnM P w K mg base "come_to" 2 3 IR)(G:FnM P w K mg base "turn_behind" 1 3 Cq)(d:FnM P w K mg base "done_at" 2 2 Jc)(g:FnM P w K mg base "settled" 2 2 sx):FnM P w K mg base "moved_on" 5 4 zt:=by
 refine bf D ce rfl (nN:=8) rfl (by decide) ?ar λF A outer s H E f u=>⟨_,(mz' (cB (mv' 2) (bj (n:=2) (ac (ak 4 ce.nd) (ac (ak 5 ce.nd) aM))))
   (mz' (au 6 ce.nd ai)
   (mz' (au 7 ce.nd (mf' i (u.mono (by decide)) (mc' (mv' 0) (mc' (mv' 1) (mc' (mv' 2) (mc' (mv' 3) mn'))))))
   (mz' (aU (am (bF u.units) (ae (mv' 3) mh') ai (aB _)) (mz' (cB (mf' c (u.mono (by decide)) (mc' (mv' 0) (mc' (mv' 4) (mc' (mv' 7) mn')))) (bj (n:=2) (ac (ak 4 ce.nd) (ac (ak 6 ce.nd) aM))))
   (aa (au 5 ce.nd (mf' G (u.mono (by decide)) (mc' (mv' 0) (mc' (mv' 1) (mc' (mv' 5) mn'))))))) (aa (aU (am (bF u.units) (ae (mv' 3) mh') ai (aB _)) (aa (cB (mf' d (u.mono (by decide)) (mc' (mv' 4) (mc' (mv' 7) mn'))) (bj (n:=2) (ac (ak 4 ce.nd) (ac (ak 6 ce.nd) aM))))) aA)))
   (aa (ag (ah (mc' (ah (mc' (mf' g (u.mono (by decide)) (mc' (mv' 0) (mc' (mv' 4) mn'))) (mc' (mv' 5) mn'))) (mc' (mv' 6) mn'))))))))),?_⟩
 case ar=>intro J I ⟨h,r,l,t,mv,rfl,_⟩;rfl
 intro J I N ⟨h,r,l,t,mv,rfl,q,p,v,x,C,k⟩;have y:=v.1;have n1:=q.n1;have n4:=q.n4;have ne:∀B:List Nat,B.length=l.length->B≠[]:=λB e z=>by rw[z]at e;simp at e;omega
 cases mv with
 |come o=>
  refine ap (MSt.mk [some (.imm h.d),some (.imm r.d),some (.imm (.tuple [lnD l,.int (t:Int)])),some (.imm (.tuple [.str "come",lnD o])),none,none,none,none] [] 0) rfl ?_;ext s
  .rfl
  ext s;refine⟨h,r,l,t,.come o,rfl,q,p,v,x,?_⟩;dsimp only[Fc];ext x;refine bg (λ_=>?_) (λz=>(z rfl).elim);ext s;refine⟨h,l,sent h r l t o,rfl,q,v,u5 q p v x C,?_⟩;ext n;dsimp only[lwD];ext s
  .rfl
  ext s;refine⟨h,r,t,rfl,q,?_⟩;ext x;have m:(c7 h l (sent h r l t o)).1.length=l.length:=by unfold c7;split<;>simp
  refine⟨h,_,rfl,ne _ m,by omega,?_⟩;ext x;exact k
 |done j=>
  refine ap (MSt.mk [some (.imm h.d),some (.imm r.d),some (.imm (.tuple [lnD l,.int (t:Int)])),some (.imm (.tuple [.str "done",.int (j:Int)])),none,none,none,none] [] 0) rfl ?_;ext s
  .rfl
  ext s;refine⟨h,r,l,t,.done j,rfl,q,p,v,x,?_⟩;dsimp only[Fc];ext x;ext b;refine⟨l,j,rfl,by rw[y];exact x,by omega,?_⟩;ext n;dsimp only[lwD];ext s
  .rfl
  ext s;have m:(dF l j).1.length=l.length:=by unfold dF;split<;>simp
  refine⟨h,_,rfl,ne _ m,by omega,?_⟩;ext x;exact k
 |still=>
  refine ap (MSt.mk [some (.imm h.d),some (.imm r.d),some (.imm (.tuple [lnD l,.int (t:Int)])),some (.imm (.tuple [.str "still"])),none,none,none,none] [] 0) rfl ?_;ext s
  .rfl
  ext s;refine⟨h,r,l,t,.still,rfl,q,p,v,x,?_⟩;dsimp only[Fc];ext x;ext a;refine⟨h,l,rfl,ne _ rfl,by omega,?_⟩;ext x;exact k
theorem sD(T:Bl K mg)(D:DefM K mg "kept_lines" iC ["hall","lines"])(G:FnM P w K mg base "is_alike" 1 1 Ie):FnM P w K mg base "kept_lines" 2 2 qo:=by
 refine bf D ub rfl (nN:=2) rfl (by decide) ?ar λm A outer s H E f j=>⟨_,(mz' (aU (dh (mf' G (j.mono (by decide)) (mc' (mv' 0) mn'))) (aa (ag (b5 cP (by rfl) T.tuple eF (mc' (oZ nU (by rfl) T.sorted lm (mc' (mv' 1) mn')) mn')))) aA)
   (aa (ag (mv' 1)))),?_⟩
 case ar=>intro p g ⟨h,l,rfl,_⟩;rfl
 intro p g t ⟨h,l,rfl,o,d,k⟩;refine ap (MSt.mk [some (.imm h.d),some (.imm (.tuple (natD l)))] [] 0) rfl ?_;ext s;refine⟨h,rfl,o,?_⟩;ext n;unfold cA at k
 cases q:alk h with
 |true=>
  rw[q,if_pos rfl]at k;ext s;refine BW rfl (gI l) (by rw[iO];omega) λn i c=>?_;have e:=wQ i c;subst e;rw[<-t7];ext s;exact k
 |false=>
  rw[q,if_neg aam]at k;ext s;exact k
def oO(T:Bl K mg)(D:DefM K mg "refuse_turns" fJ ["one","other"]):FnM P w K mg base "refuse_turns" 1 2 GZ:=by
 refine bf D oj rfl (nN:=2) rfl (by decide) ?ar λn A outer s H E f d=>⟨_,(aa (aU (EW.pt (mF (am (bF d.units) (ae (mv' 0) mh') ai (aB _)) (jv (am (bF d.units) (ae (mv' 1) mh') ai (aB _))))) (aa yO) aA)),?_⟩
 case ar=>intro o j ⟨r1,c,rfl,_⟩;rfl
 intro o j q ⟨r1,c,rfl,m,e,k⟩;refine ap (MSt.mk [some (.imm r1.d),some (.imm c.d)] [] 0) rfl ?_;ext s;let⟨p,i⟩:=IU r1;let⟨t,g⟩:=IU c;refine qY i ?_;ext s;rw[yV m];ext s;refine qY g ?_;ext s;rw[yV e];ext s;exact k
theorem ot(T:Bl K mg)(D:DefM K mg "first_triple" f8 ["hall"])(G:FnM P w K mg base "first_stand" 1 1 Ae):FnM P w K mg base "first_triple" 2 1 GI:=by
 refine bf D iu rfl (nN:=2) rfl (by decide) ?ar λd A outer s H E f c=>⟨_,(mz' (au 1 iu.nd (ae (mf' G (c.mono (by decide)) (mc' (mv' 0) mn')) mh'))
   (aa (ag (ah (mc' (mv' 1) (mc' (mv' 1) (mc' mh' mn'))))))),?_⟩
 case ar=>intro g i ⟨h,rfl,_⟩;rfl
 intro g i j ⟨h,rfl,e,k⟩;refine ap (MSt.mk [some (.imm h.d),none] [] 0) rfl ?_;ext s;refine⟨h,rfl,e,?_⟩;ext x;refine qY (tl:=[.int 0]) rfl ?_;ext s;exact k
theorem uO(T:Bl K mg)(D:DefM K mg "kept_step" jD ["hall","rule","lines","move"])(c:FnM P w K mg base "moved_on" 5 4 zt)(G:FnM P w K mg base "kept_lines" 2 2 qo):FnM P w K mg base "kept_step" 6 4 Qz:=by
 refine bf D iL rfl (nN:=6) rfl (by decide) ?ar λo A outer s H E f d=>⟨_,(mz' (cB (mf' c (d.mono (by decide)) (mc' (mv' 0) (mc' (mv' 1) (mc' (ah (mc' (mv' 2) (mc' mh' mn'))) (mc' (mv' 3) mn'))))) (bj (n:=2) (ac (ak 4 iL.nd) (ac (ak 5 iL.nd) aM))))
   (aa (ag (ah (mc' (mf' G (d.mono (by decide)) (mc' (mv' 0) (mc' (ae (mv' 4) mh') mn'))) (mc' (df (bF d.units) (mv' 5) ai (aB _)) mn')))))),?_⟩
 case ar=>intro p q ⟨h,r,l,m,rfl,_⟩;rfl
 intro p q v ⟨h,r,l,m,rfl,e,d,j,i,g,k⟩;have n4:=e.n4;have S:=jh e d (t:=0) ⟨i,λz=>(j z).elim,by decide⟩ g;have u:=S.ln.1;refine ap (MSt.mk [some (.imm h.d),some (.imm r.d),some (.imm (lnD l)),some (.imm m.d),none,none] [] 0) rfl ?_;ext s;refine⟨h,r,l,0,m,rfl,e,d,i,g,λz=>(j z).elim,?_⟩;ext n;unfold mvD;ext s
 .rfl
 ext s;refine qY (tl:=[.int ((ku h r l 0 m).2.1:Int)]) rfl ?_;ext s;refine⟨h,_,rfl,e,by omega,?_⟩;ext x;rw[FE];exact k
theorem kZ(T:Bl K mg)(D:DefM K mg "triple_behind" fg ["one_step","other_step","lead"]):FnM P w K mg base "triple_behind" 1 3 PH:=by
 refine bf D bA rfl (nN:=7) rfl (by decide) ?ar λi A outer s H E f m=>⟨_,(mz' (cB (mv' 0) (bj (n:=2) (ac (ak 3 bA.nd) (ac (ak 4 bA.nd) aM))))
   (mz' (cB (mv' 1) (bj (n:=2) (ac (ak 5 bA.nd) (ac (ak 6 bA.nd) aM))))
   (mz' (aU (EW.pt (iW (dh (mv' 6)) (h8 (qM (dh (mv' 4)))))) (aa (ut 2 bA.nd mh' GJ)) aA)
   (mz' (aU (EW.pt (iW (dh (mv' 4)) (h8 (qM (dh (mv' 6)))))) (aa (ut 2 bA.nd mh' Sx)) aA)
   (aa (ag (ah (mc' (mv' 3) (mc' (mv' 5) (mc' (mv' 2) mn')))))))))),?_⟩
 case ar=>intro j g ⟨p,q,d,rfl,_⟩;rfl
 intro j g o ⟨p,q,d,rfl,k⟩;unfold aw at k;refine ap (MSt.mk [some (.imm (.tuple [lnD p.1,.bool (decide (p.2 = .away))])),some (.imm (.tuple [lnD q.1,.bool (decide (q.2 = .away))])),some (.imm (.int d)),none,none,none,none] [] 0) rfl ?_;ext s
 .rfl
 ext s
 .rfl
 ext s
 by_cases e:p.2 = .away<;>by_cases c:q.2 = .away
 .rw[if_pos e,if_pos c,show d+1-1=d by omega]at k;rw[decide_eq_true e,decide_eq_true c];ext s;rw[if_neg (by decide)];ext s;rw[if_neg (by decide)];ext s;exact k
 .rw[if_pos e,if_neg c,show d+0-1=d-1 by omega]at k;rw[decide_eq_true e,decide_eq_false c];ext s;rw[if_pos (by decide)];refine Jt d rfl ?_;ext s;refine⟨1,rfl,?_⟩;ext x;exact k
 .rw[if_neg e,if_pos c,show d+1-0=d+1 by omega]at k;rw[decide_eq_false e,decide_eq_true c];ext s;rw[if_pos (by decide)];refine Jt d rfl ?_;ext s;refine⟨1,rfl,?_⟩;ext s;exact k
 .rw[if_neg e,if_neg c,show d+0-0=d by omega]at k;rw[decide_eq_false e,decide_eq_false c];ext s;exact k
def xW(T:Bl K mg)(D:DefM K mg "is_worse" lg ["triple"]):FnM P w K mg base "is_worse" 1 1 G9:=by
 refine bf D ij rfl (nN:=4) rfl (by decide) ?ar λc A outer s H E f i=>⟨_,(mz' (cB (mv' 0) (bj (n:=3) (ac (ak 1 ij.nd) (ac (ak 2 ij.nd) (ac (ak 3 ij.nd) aM)))))
   (aa (ag (df mQ (aC (gY rfl) (by rfl) T.sum rJ (mc' (mv' 1) mn')) (af aE (aC (gY rfl) (by rfl) T.sum rJ (mc' (mv' 2) mn')) (mv' 3)) (aB _))))),?_⟩
 case ar=>intro d e ⟨t,rfl,_⟩;rfl
 intro d e g ⟨t,rfl,k⟩;refine ap (MSt.mk [some (.imm (.tuple [lnD t.1,lnD t.2.1,.int t.2.2])),none,none,none] [] 0) rfl ?_;ext s
 .rfl
 ext s;refine wx rfl (gI t.1) ?_;rw[lq];ext s;refine wx rfl (gI t.2.1) ?_;rw[lq];ext s;exact k
theorem jI(T:Bl K mg)(D:MthD K "Search" "steps_of" "Search.steps_of" bw ["self","side","lines"])(j:FnM P w K mg base "kept_step" 6 4 Qz):gf P w K mg base "Search" "steps_of" 7 3 tZ:=by
 refine jW D fu rfl (nN:=4) rfl (by decide) ?ar λO A outer s H E f o=>⟨_,(mz' (aU (am (oX o.units) (ah (mc' (mv' 1) (mc' (mv' 2) mn'))) (cn T.f_Search_steps (mv' 0)) (by with_unfolding_all rfl)) (mz' (rf (i:=3) fu.nd rfl (adq rfl) (ae (cn T.f_Search_rules (mv' 0)) (mv' 1)))
   (aa (mi o.units (cE (bo (own:=["move"]) (fr:=["self","rule","lines"]) (ps:=[0,3,2]) (sc:=(ab bw)) (by exact⟨rfl,by decide +kernel,by decide +kernel,by decide +kernel,by decide +kernel⟩) (aY (cn T.f_Search_moves (mv' 0))) (λ_ _ _ _ _=>(ak 0 (show aaM ((["move"]:List Str)++(["self","rule","lines"]:List Str))from by decide +kernel))) (λ_ _ _ _ _=>bv) (λ_ _ _ _ _=>(mf' j (o.mono (by decide)) (mc' (cn T.f_Search_hall (mv' 1)) (mc' (mv' 2) (mc' (mv' 3) (mc' (mv' 0) mn')))))))) (cn T.f_Search_steps (mv' 0)) (ah (mc' (mv' 1) (mc' (mv' 2) mn')))))) aA)
   (aa (ag (wq o.units (cn T.f_Search_steps (mv' 0)) (ah (mc' (mv' 1) (mc' (mv' 2) mn'))))))),?_⟩
 case ar=>intro Q I ⟨h,r1,g,C,L,T,Y,s,l,rfl,_⟩;rfl
 intro Q I V ⟨h,r1,g,C,L,T,Y,s,l,rfl,G,S,X,s2,q,k⟩;have v:∀C,oneK (jU h r1 g C) (skD (s,l))=true:=λC=>by unfold oneK;rw[J9 (h:=h) C,JB (h:=h),ade,aej]
 refine ap (MSt.mk [some (.at 0 []),some (.imm (.int (s:Int))),some (.imm (lnD l)),none] [[scQ h r1 g C L T Y]] 1) rfl ?_;refine qO ?_;refine x_JS (λm=>∃(a:Option L2.R) (n:List Ck),m=MSt.mk [some (.at 0 []),some (.imm (.int (s:Int))),some (.imm (lnD l)),a] [[scQ h r1 g n L T Y]] 1/\CaOk h n/\(s,l)∈n) (λN t=>?_) ?_
 .ext s;refine vq rfl (Sy (k:=skD (s,l)) (kvs:=jU h r1 g C) ⟨rfl,rfl⟩ (v C) ?_);rw[st_look]
  by_cases c:(s,l)∈C
  .rw[if_pos c];refine vX (b:=false) ?_;ext s;exact t _ ⟨_,C,rfl,X,c⟩
  .rw[if_neg c];refine vX (b:=true) ?_;ext s;refine ba (d:=(rl r1 g s).d) (by rcases (show s=0\/s=1 by omega)with rfl|rfl<;>rfl) ?_;ext s;ext n;refine bx (λi m=>∃a:Option L2.R,m=MSt.mk [a,some (.at 0 []),some (.imm (rl r1 g s).d),some (.imm (lnD l))] [[scQ h r1 g C L T Y],(stv h r1 g (s,l)).take i] 2) ⟨none,rfl⟩ ?_ ?_
   .rintro i d m e hnp ⟨a,rfl⟩ D1 hD1 hR1;let⟨mv,u,rfl,U⟩:=gmap e;ext s;refine⟨h,_,l,mv,rfl,G.o,(G.rl s).1,(G.rl s).2,q,zq G.o mv (GT u),?_⟩;ext x;have R:=(BX G.o).2;refine⟨_,rfl,by unfold stv;rw[aaw,iO,aae];omega,hD1 _ ⟨some (.imm mv.d),?_⟩⟩;rw[aaR,show(stv h r1 g (s,l))[i]?=some (ksD (kst h (rl r1 g s) l mv)) by unfold stv;rw[aah,u];rfl];rfl
   .rintro m hnp ⟨a,rfl⟩;ext x;refine vq rfl ?_;ext s;have W:=X.len;refine⟨_,jU h r1 g C,rfl,rfl,rfl,J9 (h:=h) C,JB (h:=h),by unfold jU;rw[iO,aae];omega,?_⟩;ext n;rw[show afo ([[scQ h r1 g C L T Y],(stv h r1 g (s,l)).take ((mvs h).map Mv.d).length].getD 1 []) = .list ((stv h r1 g (s,l)).take ((mvs h).map Mv.d).length)from rfl,show afo ((stv h r1 g (s,l)).take ((mvs h).map Mv.d).length) = .list (stv h r1 g (s,l)) by rw[show((mvs h).map Mv.d).length=(stv h r1 g (s,l)).length by unfold stv;rw[iO,iO],aau],show abQ [.int (s:Int),lnD l]=skD (s,l)from rfl,Iq c];refine t _ ⟨some (.imm (rl r1 g s).d),C++[(s,l)],rfl,⟨?_,λp J=>?_⟩,aaI _ aaa⟩
    .exact acK.mpr ⟨X.nd,acr _ _,λx B y F z=>c (by rw[aab.mp F]at z;rw[<-z];exact B)⟩
    .rcases aaT.mp J with z|z
     .exact X.ok p z
     .rw[aab.mp z];exact⟨s2,q⟩
 .rintro m ⟨a,n,rfl,X',c⟩;ext s;refine vq rfl ?_;ext s;refine⟨jU h r1 g n,.list (stv h r1 g (s,l)),⟨rfl,rfl⟩,v n,st_look.trans (if_pos c),?_⟩;ext s;exact k n X'
theorem fU(T:Bl K mg)(D:MthD K "Search" "triples_behind" "Search.triples_behind" aH ["self","triple"])(c:gf P w K mg base "Search" "steps_of" 7 3 tZ)(g:FnM P w K mg base "triple_behind" 1 3 PH):gf P w K mg base "Search" "triples_behind" 8 2 IZ:=by
 refine jW D aP rfl (nN:=7) rfl (by decide) ?ar λI A outer s H E f p=>⟨_,(mz' (cB (mv' 1) (bj (n:=3) (ac (ak 2 aP.nd) (ac (ak 3 aP.nd) (ac (jd (i:=4) aP.nd rfl (adq rfl)) aM)))))
   (mz' (au 5 aP.nd (ig c (p.mono (by decide)) (mv' 0) (mc' mh' (mc' (mv' 2) mn'))))
   (mz' (au 6 aP.nd (ig c (p.mono (by decide)) (mv' 0) (mc' mh' (mc' (mv' 3) mn'))))
   (aa (ag (bo (own:=["one_step","other_step"]) (fr:=["lead"]) (ps:=[4]) (sc:=(ab aH)) (by exact⟨rfl,by decide +kernel,by decide +kernel,by decide +kernel,by decide +kernel⟩) (uR T.zip (mc' (mv' 5) (mc' (mv' 6) mn'))) (λ_ _ _ _ _=>(bj (n:=2) (ac (ak 0 (show aaM ((["one_step","other_step"]:List Str)++(["lead"]:List Str))from by decide +kernel)) (ac (ak 1 (show aaM ((["one_step","other_step"]:List Str)++(["lead"]:List Str))from by decide +kernel)) aM)))) (λ_ _ _ _ _=>bv) (λ_ _ _ _ _=>(mf' g (p.mono (by decide)) (mc' (mv' 0) (mc' (mv' 1) (mc' (mv' 2) mn'))))))))))),?_⟩
 case ar=>intro R O ⟨h,r1,j,C,L,T,Y,t,rfl,_⟩;rfl
 intro R O V ⟨h,r1,j,C,L,T,Y,t,rfl,G,q,X,x,ly,k⟩;refine ap (MSt.mk [some (.at 0 []),some (.imm (.tuple [lnD t.1,lnD t.2.1,.int t.2.2])),none,none,none,none,none] [[scQ h r1 j C L T Y]] 1) rfl ?_;ext s
 .rfl
 ext s;refine⟨h,r1,j,C,L,T,Y,0,t.1,rfl,G,q,X,by decide,x,λy J=>?_⟩;ext x;refine⟨h,r1,j,y,L,T,Y,1,t.2.1,rfl,G,q,J,by decide,ly,λu B=>?_⟩;ext x;refine⟨false,_,false,_,rfl,rfl,?_⟩;refine bx (λi m=>∃a b:Option L2.R,m=MSt.mk [a,b,some (.imm (.int t.2.2))] [[scQ h r1 j u L T Y],((mvs h).map λm=>trD (bth h r1 j t m)).take i] 2) ⟨none,none,rfl⟩ ?_ ?_
 .rintro i d m e hnp ⟨a,b,rfl⟩ D1 hD1 hR1;let⟨S,W,z,N,rfl⟩:=vf e;let⟨mv,v,rfl,Z⟩:=gmap z;let⟨mv',o,rfl,Q⟩:=gmap N;rw[v]at o;cases o;ext s
  .rfl
  ext s;refine⟨_,_,t.2.2,rfl,?_⟩;ext x;have U:=(BX G.o).2;refine⟨_,rfl,by rw[aaw,iO,aae];omega,hD1 _ ⟨some (.imm (ksD (kst h (rl r1 j 0) t.1 mv))),some (.imm (ksD (kst h (rl r1 j 1) t.2.1 mv))),?_⟩⟩;rw[aaR,aah,v];rfl
 .rintro m hnp ⟨a,b,rfl⟩;ext x;have F:(zipD (stv h r1 j (0,t.1)) (stv h r1 j (1,t.2.1))).length=((mvs h).map λm=>trD (bth h r1 j t m)).length:=by unfold stv;rw[dJ,iO,iO,iO];exact ag9 _
  rw[F,aau];exact k u B
theorem sf(T:Bl K mg)(D:MthD K "Search" "met" "Search.met" c8 ["self","triple","ahead","move"]):gf P w K mg base "Search" "met" 1 4 KJ:=by
 refine jW D d8 rfl (nN:=7) rfl (by decide) ?ar λR A outer s H E f o=>⟨_,(mz' (cB (mv' 1) (bj (n:=3) (ac (ak 4 d8.nd) (ac (ak 5 d8.nd) (ac (ak 6 d8.nd) aM)))))
   (aa (aU (EW.pt (mF (am (oX o.units) (ah (mc' (mv' 4) (mc' (mv' 5) mn'))) (cn T.f_Search_leads (mv' 0)) (by with_unfolding_all rfl)) (jv (am gC (mv' 6) (wq o.units (cn T.f_Search_leads (mv' 0)) (ah (mc' (mv' 4) (mc' (mv' 5) mn')))) (aB _))))) (mz' (mi o.units (mv' 6) (cn T.f_Search_leads (mv' 0)) (ah (mc' (mv' 4) (mc' (mv' 5) mn'))))
   (mz' (cU (jo acm acn lQ (cn T.f_Search_triples (mv' 0)) (mc' (mv' 1) mn')))
   (aa (cU (jo acm acn lQ (cn T.f_Search_ways (mv' 0)) (mc' (ah (mc' (mv' 2) (mc' (mv' 3) mn'))) mn')))))) aA))),?_⟩
 case ar=>intro S J ⟨h,r1,i,C,L,T,Y,t,y,a,d,rfl,_⟩;rfl
 intro S J Z ⟨h,r1,i,C,L,T,Y,t,y,a,d,rfl,Q,x,B,F,ly,W,X,V,k1,k2⟩;have g:kyA (ldD L)=true:=E8 x B;have v:kyD (pkD (t.1,t.2.1))=true:=Gg x F ly;have u:oneK (ldD L) (pkD (t.1,t.2.1))=true:=by unfold oneK;rw[g,v,ade,aej]
 refine ap (MSt.mk [some (.at 0 []),some (.imm (.tuple [lnD t.1,lnD t.2.1,.int t.2.2])),some (.imm (.int a)),some (.imm d),none,none,none] [[scQ h r1 i C L T Y]] 1) rfl ?_;refine qO ?_;ext s
 .rfl
 refine og (x_gM (og (x_gM (og (x_gM (zU ?_))))));ext n;refine QF ?_;refine x_JT (λc m=>m=MSt.mk [some (.at 0 []),some (.imm (.tuple [lnD t.1,lnD t.2.1,.int t.2.2])),some (.imm (.int a)),some (.imm d),some (.imm (lnD t.1)),some (.imm (lnD t.2.1)),some (.imm (.int t.2.2))] [[scQ h r1 i C L T Y]] 1/\(c=true->t.2.2<(lkL (t.1,t.2.1) L).getD (t.2.2+1))/\(c=false->∃w,lkL (t.1,t.2.1) L=some w/\w≤t.2.2)) (λU q=>?_) ?_
 .ext x;refine qv rfl g (Sy (k:=pkD (t.1,t.2.1)) (kvs:=ldD L) ⟨rfl,rfl⟩ u ?_);rw[DB]
  cases e:lkL (t.1,t.2.1) L with
  |none=>
   refine vX (b:=true) ?_;exact q _ _ ⟨rfl,λ_=>by rw[e];exact(show t.2.2<t.2.2+1 by omega),λz=>by cases z⟩
  |some w=>
   refine vX (b:=false) ?_;ext s;refine qv rfl g ?_;ext s;refine⟨ldD L,.int w,⟨rfl,rfl⟩,u,(DB (t.1,t.2.1) L).trans (by rw[e];rfl),?_⟩;ext s;refine q _ _ ⟨rfl,λz=>by rw[e];exact of_decide_eq_true z,λz=>⟨w,e,?_⟩⟩;have:=of_decide_eq_false z;omega
 .rintro c m ⟨rfl,h1,h2⟩
  cases c with
  |false=>
   let⟨w,O,G⟩:=h2 rfl;ext s;exact k2 w O G
  | true=>
   ext s;refine qv rfl g ?_;ext s;refine⟨_,ldD L,rfl,rfl,rfl,g,v,by unfold ldD;rw[iO,aae];omega,?_⟩;rw[show abQ [lnD t.1,lnD t.2.1]=pkD (t.1,t.2.1)from rfl,Bh];ext n;have l1:setT (scQ h r1 i C L T Y) [5] (.dict (lfKV (ldD (setL (t.1,t.2.1) t.2.2 L))))=scQ h r1 i C (setL (t.1,t.2.1) t.2.2 L) T Y:=rfl;generalize setL (t.1,t.2.1) t.2.2 L=j at *;ext s;refine⟨⟨_,m7 T⟩,?_⟩;ext s;refine tw (p:=[6]) (m:=MSt.mk _ [[scQ h r1 i C j T Y]] 1) rfl rfl (m7 T) rfl (by rw[iO,aae];omega) ?_;have I:setT (scQ h r1 i C j T Y) [6] (.list ((T.map trD++[trD t]).map lfD))=scQ h r1 i C j (T++[t]) Y:=by
    rw[show T.map trD++[trD t]=(T++[t]).map trD by rw[aaq];rfl,UM];rfl
   ext n;rw[show abQ [lnD t.1,lnD t.2.1,.int t.2.2]=trD t from rfl,I];ext s;refine⟨⟨_,tx Y⟩,?_⟩;ext s;refine tw (p:=[7]) rfl rfl (tx Y) rfl (by rw[iO,aae];omega) ?_;have N:setT (scQ h r1 i C j (T++[t]) Y) [7] (.list ((Y.map wyD++[wyD y]).map lfD))=scQ h r1 i C j (T++[t]) (Y++[y]):=by
    rw[show Y.map wyD++[wyD y]=(Y++[y]).map wyD by rw[aaq];rfl,Uv];rfl
   rw[<-Q,N];ext s;exact k1 (h1 rfl)
theorem nH(T:Bl K mg)(D:MthD K "Search" "run_to" "Search.run_to" cf ["self","at"]):gf P w K mg base "Search" "run_to" 1 2 B6:=by
 refine jW D cZ rfl (nN:=4) rfl (by decide) ?ar λx A outer s H E f N=>⟨_,(mz' (au 2 cZ.nd (bJ mn'))
   (mz' (dH (am Jb (ae (uQ (cn T.f_Search_ways (mv' 0)) (mv' 1)) mh') mh' (aB _)) (mz' (cB (uQ (cn T.f_Search_ways (mv' 0)) (mv' 1)) (bj (n:=2) (ac (ak 1 cZ.nd) (ac (ak 3 cZ.nd) aM))))
   (aa (cU (jo acm acn jG (mv' 2) (mc' (mv' 3) mn'))))) aaD)
   (aa (ag (b5 cP (by rfl) T.tuple eF (mc' (Df (mv' 2) (o4 jA mh')) mn')))))),?_⟩
 case ar=>intro F u ⟨h,r1,c,C,L,T,Y,P,i,p,rfl,_⟩;rfl
 intro F u O ⟨h,r1,c,C,L,T,Y,P,i,p,rfl,W,I,g,k⟩;refine ap (MSt.mk [some (.at 0 []),some (.imm (.int (i:Int))),none,none] [[scQ h r1 c C L T Y]] 1) rfl ?_;ext c;refine iI (λn m=>∃(a:Option L2.R) (q s:List Mv),m=MSt.mk [some (.at 0 []),some (.imm (.int (n:Int))),some (.obj 1),a] [[scQ h r1 c C L T Y],s.reverse.map Mv.d] 1/\P[n]?=some q/\p=q++s/\s.length+n≤i) i ⟨none,p,[],rfl,g,(aaN p).symm,by rw[adW];omega⟩ ?_;intro n m t ⟨a,q,s,rfl,eq,d,G⟩;have J:i<Y.length:=by rw[W.ly];exact(Ad.mp g).1
 let⟨y,e⟩:∃y,Y[n]?=some y:=⟨_,lD (show n<Y.length by omega)⟩;let⟨j,o⟩:=z7 (f:=wyD) e;ext s;refine uw (p:=[7]) rfl rfl j o ?_;rw[xr];rcases W.wy n q eq with⟨rfl,z⟩|⟨b,mv,v,B,eb,rfl,z⟩
 .rw[e]at z;cases z;rw[show wyD none = .tuple [.int (-1),.none]from rfl];ext s;rw[if_neg (by decide)];ext s;refine⟨_,rfl,rfl,?_⟩;ext s;rw[<-List.map_reverse,List.reverse_reverse,show s=p from d.symm];exact k
 .rw[e]at z;cases z;rw[show wyD (some (b,mv)) = .tuple [.int (b:Int),mv.d]from rfl];ext s;rw[if_pos (decide_eq_true (by omega))];ext s;refine uw (p:=[7]) rfl rfl j o ?_;rw[xr,show wyD (some (b,mv)) = .tuple [.int (b:Int),mv.d]from rfl];ext s
  .rfl
  ext s;refine' kO (ds:=s.reverse.map Mv.d) ?eb (by rw[aae,iO,agE];omega) ?_
  case eb=>rfl
  refine⟨b,B,some (.imm mv.d),v,mv::s,?_,eb,by rw[d,aaU];rfl,by rw[aaA];omega⟩;rw[adl,aaq];rfl
theorem ja(T:Bl K mg)(D:MthD K "Search" "worse_run" "Search.worse_run" bz ["self"])(g:gf P w K mg base "Search" "triples_behind" 8 2 IZ)(q:FnM P w K mg base "is_worse" 1 1 G9)(k:gf P w K mg base "Search" "run_to" 1 2 B6)(o:gf P w K mg base "Search" "met" 1 4 KJ):gf P w K mg base "Search" "worse_run" 9 1 AK:=by
 refine jW D bp rfl (nN:=5) rfl (by decide) ?ar λcdv A outer s H E f O=>⟨_,(mz' (au 1 bp.nd mh')
   (mz' (dH (am gC (mv' 1) (aC ca (by rfl) T.len d6 (mc' (cn T.f_Search_triples (mv' 0)) mn')) (aB _)) (mz' (au 2 bp.nd (cE (ig g (O.mono (by decide)) (mv' 0) (mc' (uQ (cn T.f_Search_triples (mv' 0)) (mv' 1)) mn'))))
   (mz' (b6 (uR T.zip (mc' (cn T.f_Search_moves (mv' 0)) (mc' (mv' 2) mn'))) (bj (n:=2) (ac (ak 3 bp.nd) (ac (ak 4 bp.nd) aM))) (mz' (aU (EW.pt (mF (am gC (ae (mv' 4) mh') mh' (aB _)) (jv (dh (mf' q (O.mono (by decide)) (mc' (mv' 4) mn')))))) (aa (ag (af aE (ig k (O.mono (by decide)) (mv' 0) (mc' (mv' 1) mn')) (ah (mc' (mv' 3) mn'))))) aA)
   (aa (cU (ig o (O.mono (by decide)) (mv' 0) (mc' (mv' 4) (mc' (mv' 1) (mc' (mv' 3) mn'))))))) aaD)
   (aa (ut 1 bp.nd mh' GJ)))) aaD)
   (aa (ag e9)))),?_⟩
 case ar=>intro as Kc ⟨h,r1,r2,rfl,_⟩;rfl
 intro as Kc hl ⟨h,r1,r2,rfl,G,a4,hp,k1,k2⟩;refine ap (MSt.mk [some (.at 0 []),none,none,none,none] [[scQ h r1 r2 [] [((zer h,zer h),0)] [stT h] [none]]] 1) rfl ?_;ext s;have C0:1+pot h (nP h) [((zer h,zer h),0)]≤190001:=by
  unfold pot smL;have:(nP h-1)*(nP h+2)≤nP h*(nP h+2):=acL _ (Nat.sub_le _ _);simp;omega
 refine iI (λn m=>∃(i:Nat) (a b c:Option L2.R) (C:List Ck) (L:List (Pk×Int)) (T:List Tr) (Y:List Wy) (P:List (List Mv)),m=MSt.mk [some (.at 0 []),some (.imm (.int (i:Int))),a,b,c] [[scQ h r1 r2 C L T Y]] 1/\CaOk h C/\Qv h r1 r2 (1+pot h (nP h) [((zer h,zer h),0)]) L T Y P i 0/\n=190001-i) _ ⟨0,none,none,none,[],_,_,_,_,rfl,⟨abE,λ_ z=>by cases z⟩,Qv.zero G.o,rfl⟩ ?_;intro n m B ⟨i,a,b,c,C,L,T,Y,P,rfl,X,V,hn⟩;have nT:=V.pt;have nPb:nP h≤190000:=aas (Nat.le_mul_of_pos_right _ (Nat.succ_pos _)) hp;ext s;refine⟨T.map trD,m7 T,?_⟩;rw[iO];ext s;refine bg (λz=>?_) (λz=>?_)
 .have hi:i<T.length:=by omega
  let⟨t,S⟩:∃t,T[i]?=some t:=⟨_,lD hi⟩;let⟨p,v,kp,rfl⟩:=V.here S;have Q:=je G.o G.k1 G.k2 G.n1 G.n2 (IE (r1:=r1) (r2:=r2) kp);let⟨i1,i2⟩:=z7 (f:=trD) S;ext s;refine uw (p:=[6]) rfl rfl i1 i2 ?_;rw[show ∀j,f9 0 [6] j (trD (wlk h r1 r2 p)) = .imm (trD (wlk h r1 r2 p))from λ_=>rfl];ext s;refine⟨h,r1,r2,C,L,T,Y,wlk h r1 r2 p,rfl,G,a4,X,Q.1,Q.2,λy X1=>?_⟩;ext x;refine⟨false,_,false,_,rfl,rfl,?_⟩;refine bx (λj m=>∃(b c:Option L2.R) (L:List (Pk×Int)) (T:List Tr) (Y:List Wy) (P:List (List Mv)),m=MSt.mk [some (.at 0 []),some (.imm (.int (i:Int))),some (.imm (.list ((mvs h).map λm=>trD (bth h r1 r2 (wlk h r1 r2 p) m)))),b,c] [[scQ h r1 r2 y L T Y]] 1/\Qv h r1 r2 (1+pot h (nP h) [((zer h,zer h),0)]) L T Y P i j/\P[i]?=some p) ⟨b,c,L,T,Y,P,rfl,V,v⟩ ?_ ?_
  .clear V v i1 i2 S hi z nT;intro j d m e B ⟨b,c,L,T,Y,P,rfl,V,v⟩ D1 I U;let⟨x1,x2,e1,e2,rfl⟩:=vf e;let⟨mv,J,rfl,hj⟩:=gmap e1;let⟨mv',F,rfl,hj'⟩:=gmap e2;rw[J]at F;cases F;have N:=(fI (h:=h) (r1:=r1) (r2:=r2) (R:=p) (m:=mv)).symm;have LB:=tU G.o G.k1 G.k2 G.n1 G.n2 Q (GT J);generalize bth h r1 r2 (wlk h r1 r2 p) mv=u at *;have nT:=V.pt;have nY:=V.ly;have nP:=V.lt;have nL:=V.dk.len;ext s
   .rfl
   refine og (x_gM (og (x_gM (zU ?_))));ext n;refine qO (QF ?_);refine x_JT (λc m=>c=bad u/\m=MSt.mk [some (.at 0 []),some (.imm (.int (i:Int))),some (.imm (.list ((mvs h).map λm=>trD (bth h r1 r2 (wlk h r1 r2 p) m)))),some (.imm mv.d),some (.imm (trD u))] [[scQ h r1 r2 y L T Y]] 1) (λK' hK=>?_) ?_
   .rw[show trD u = .tuple [lnD u.1,lnD u.2.1,.int u.2.2]from rfl];ext s;refine bg (λz=>?_) (λz=>?_)
    .exact hK _ _ ⟨by unfold bad;rw[decide_eq_true z];rfl,rfl⟩
    .ext s;refine⟨u,rfl,?_⟩;ext x;exact hK _ _ ⟨by unfold bad;rw[decide_eq_false z];rfl,rfl⟩
   .rintro c m ⟨rfl,rfl⟩
    cases hb:bad u with
    |true=>
     ext s;refine⟨h,r1,r2,y,L,T,Y,P,i,p,rfl,⟨V.ly,V.wy⟩,by omega,v,?_⟩;ext x;have dp:=V.dep i p v;have iP:=(Ad.mp v).1;refine ip (by rw[iO,aae];show p.length+1≤_;omega) ?_;have W:=k1 (p++[mv]) y L T Y (kp.snoc (GT J)) (by rw[<-N];exact hb) (by rw[aaj];exact V.min v) (by rw[aaj];show p.length+1≤_;omega);rw[aaq]at W;exact U _ _ W
    |false=>
     ext s;refine⟨h,r1,r2,y,L,T,Y,u,some (i,mv),(i:Int),mv.d,rfl,rfl,G.o,V.dk.ln,LB.1,LB.2,by omega,by omega,by omega,λhv=>?_,λw ew hw=>?_⟩
     .ext x;exact I _ ⟨_,_,_,_,_,_,rfl,V.new G.o G.k1 G.k2 G.n1 G.n2 v J N hb hv,dw v⟩
     .ext x;exact I _ ⟨_,_,_,_,_,_,rfl,V.old v J (by rw[<-N];exact hb) (by rw[<-N];exact T8 ew hw rfl),v⟩
  .rintro m B ⟨b,c,L,T,Y,P,rfl,V,v⟩;ext n;refine Jt (i:Int) rfl ?_;ext s;refine⟨1,rfl,?_⟩;ext n;have e0:(zipD ((mvs h).map Mv.d) ((mvs h).map λm=>trD (bth h r1 r2 (wlk h r1 r2 p) m))).length=(mvs h).length:=by rw[dJ,iO,iO];exact ag9 _
   rw[e0]at V;have iP:=(Ad.mp v).1;have n1:=V.pt;have n2:=V.lt;exact⟨190001-(i+1),by omega,i+1,_,b,c,y,L,T,Y,P,rfl,X1,V.next,rfl⟩
 .ext s;refine k2 C L T Y (λR kR=>(V.done (by omega) kR).1) V.dk λZ pZ=>⟨V.nvr (by omega) pZ,λt ht=>OT V.dk (λx hx=>?_) t (pZ.mem_iff.mp ht)⟩;have v1:=V.vt _ (V.dl x hx);have v2:=V.dk.len;dsimp only at v1;omega
theorem oH(T:Bl K mg)(D:MthD K "Search" "paper" "Search.paper" b9 ["self"]):gf P w K mg base "Search" "paper" 1 1 AC:=by
 refine jW D ox rfl (nN:=1) rfl (by decide) ?ar λy A outer s H E f x=>⟨_,(aa (ag (b5 cP (by rfl) T.tuple eF (mc' (bo (own:=["x","y","lead"]) (fr:=[]) (ps:=[]) (sc:=(ab b9)) (by exact⟨rfl,by decide +kernel,by decide +kernel,by decide +kernel,by decide +kernel⟩) (aY (cE (Cn x.units T.sorted (cn T.f_Search_leads (mv' 0))))) (λ_ _ _ _ _=>(bj (n:=2) (ac (bj (n:=2) (ac (ak 0 (show aaM ((["x","y","lead"]:List Str)++([]:List Str))from by decide +kernel)) (ac (ak 1 (show aaM ((["x","y","lead"]:List Str)++([]:List Str))from by decide +kernel)) aM))) (ac (ak 2 (show aaM ((["x","y","lead"]:List Str)++([]:List Str))from by decide +kernel)) aM)))) (λ_ _ _ _ _=>bv) (λ_ _ _ _ _=>(ah (mc' (mv' 0) (mc' (mv' 1) (mc' (mv' 2) mn')))))) mn')))),?_⟩
 case ar=>intro B v ⟨h,r1,j,C,L,T,Y,rfl,_⟩;rfl
 intro B v J ⟨h,r1,j,C,L,T,Y,rfl,z,D,n,k⟩;have g:kyA (ldD L)=true:=E8 z D.ln;refine ap (MSt.mk [some (.at 0 [])] [[scQ h r1 j C L T Y]] 1) rfl ?_;ext s;refine qv rfl g ⟨ldD L,⟨rfl,rfl⟩,.inr g,Qx D n,λu t G=>?_⟩;rw[IP]at t;let⟨o,p,rfl⟩:=zQ t.symm rfl;ext s;refine bx (λi m=>∃a b c:Option L2.R,m=MSt.mk [a,b,c] [[scQ h r1 j C L T Y],(ldT (o.take i)).map trD] 2) ⟨none,none,none,rfl⟩ ?_ ?_
 .rintro i d m e hnp ⟨a,b,c,rfl⟩ D1 hD1 hR1;let⟨q,eq,rfl,I⟩:=gmap e;unfold itL pkD;ext s
  .rfl
  ext s
  .rfl
  ext s;ext n;have F:o.length<100000:=by rw[p.length_eq];exact n
  refine⟨_,rfl,by unfold ldT;rw[iO,iO,aaw,aae];omega,hD1 _ ⟨some (.imm (lnD q.1.1)),some (.imm (lnD q.1.2)),some (.imm (.int q.2)),?_⟩⟩;rw[aaR,eq];unfold ldT;rw[aaq,aaq];rfl
 .rintro m hnp ⟨a,b,c,rfl⟩;ext s;rw[iO,aau];exact k _ (p.map _)
theorem jQ(T:Bl K mg)(D:IniD K mg "Search" "Search.__init__" bP ["self","hall","one","other"])(d:FnM P w K mg base "all_moves" 2 1 qr)(G:FnM P w K mg base "first_triple" 2 1 GI)(c:gf P w K mg base "Search" "met" 1 4 KJ):AQ P w K mg base "Search" 3 3 Ak:=by
 refine Mf D j4 rfl (nN:=4) rfl (by decide) ?ar λn A outer s H E f g=>⟨_,_,(iE T.f_Search_hall (mv' 1) (iE T.f_Search_rules (ah (mc' (mv' 2) (mc' (mv' 3) mn'))) (iE T.f_Search_moves (cE (mf' d (g.mono (by decide)) (mc' (mv' 1) mn'))) (iE T.f_Search_steps wX (iE T.f_Search_leads wX (iE T.f_Search_triples (bJ mn') (iE T.f_Search_ways (bJ mn') (Dg (aa (cU (ig c (g.mono (by decide)) (mv' 0) (mc' (mf' G (g.mono (by decide)) (mc' (mv' 1) mn')) (mc' (o4 jA mh') (mc' e9 mn')))))))))))))),⟨by rfl,by decide⟩,?_⟩
 case ar=>intro ds o ⟨h,r1,i,rfl,_⟩;rfl
 intro ds o q ⟨h,r1,i,rfl,e,k⟩;refine Lh (MSt.mk [none,some (.imm h.d),some (.imm r1.d),some (.imm i.d)] [] 0) rfl ?_;ext s;refine⟨h,rfl,e,?_⟩;ext x;refine⟨h,rfl,e,?_⟩;ext x;have j:=(gZ e r1).ln;refine⟨h,r1,i,[],[],[],[],stT h,none,-1,.none,rfl,rfl,e,(λ_ z=>by cases z),j,j,by decide,by decide,by decide,λp=>?_,λw m=>by cases m⟩;ext x;exact⟨_,rfl,k⟩
theorem qy(T:Bl K mg)(D:DefM K mg "never_worse" gz ["hall","one","other"])(i:FnM P w K mg base "refuse_turns" 1 2 GZ)(e:AQ P w K mg base "Search" 3 3 Ak)(d:gf P w K mg base "Search" "worse_run" 9 1 AK)(g:gf P w K mg base "Search" "paper" 1 1 AC):FnM P w K mg base "never_worse" 10 3 B8:=by
 refine bf D f7 rfl (nN:=5) rfl (by decide) ?ar λF A outer s H E f k=>⟨_,(mz' (cU (mf' i (k.mono (by decide)) (mc' (mv' 1) (mc' (mv' 2) mn'))))
   (mz' (au 3 f7.nd (Db e (k.mono (by decide)) (mc' (mv' 0) (mc' (mv' 1) (mc' (mv' 2) mn')))))
   (mz' (au 4 f7.nd (t8 d (k.mono (by decide)) (mv' 3)))
   (mz' (aU (am j1 (mv' 4) e9 (aB _)) (aa (ag (ah (mc' ai (mc' (mv' 4) mn'))))) aA)
   (aa (ag (ah (mc' ai (mc' (t8 g (k.mono (by decide)) (mv' 3)) mn'))))))))),?_⟩
 case ar=>intro J v ⟨h,r1,j,rfl,_⟩;rfl
 intro J v N ⟨h,r1,j,rfl,G,u,B,k1,k2⟩;refine ap (MSt.mk [some (.imm h.d),some (.imm r1.d),some (.imm j.d),none,none] [] 0) rfl ?_;ext s;refine⟨r1,j,rfl,G.n1,G.n2,?_⟩;ext x;refine⟨h,r1,j,rfl,G.o,?_⟩;ext s;ext n;refine yZ rfl (by decide) ?_;refine⟨h,r1,j,rfl,G,u,B,λR C n q Y y I t x=>?_,λC n q Y S D Z=>?_⟩
 .ext x;rw[if_pos (c:=(!isNone (L2.R.imm (.tuple (R.map Mv.d))))=true) rfl];ext s;exact k1 R y I t x
 .ext x;rw[if_neg (by decide)];ext s;have l:n.length<100000:=by
   have:=D.len;have:nP h≤435:=by
    refine Nat.le_of_not_lt λz=>?_;have:436*438≤nP h*(nP h+2):=abx z (by omega);omega
   omega
  refine⟨h,r1,j,C,n,q,Y,rfl,G.o,D,l,λm p=>?_⟩;ext x;have o:=p.length_eq;unfold ldT at o;rw[iO]at o;exact k2 m S (Z m p).1 (Z m p).2 (by omega)
theorem uv(T:Bl K mg)(D:DefM K mg "standings" fC ["hall"])(G:FnM P w K mg base "never_worse" 10 3 B8):FnM P w K mg base "standings" 11 1 iy:=by
 refine bf D md rfl (nN:=2) rfl (by decide) ?ar λF A outer s H E f q=>⟨_,(mz' (ue (i:=1) (own:=["one","other"]) (fr:=[]) (ps:=[]) (sc:=(ab fC)) (by exact⟨rfl,by decide +kernel,by decide +kernel,by decide +kernel,by decide +kernel⟩) md.nd rfl rfl (aY (ze T.c_STANDING_WORDS (by rfl))) (λ_ _ _ _ _=>(ak 0 (show aaM ((["one","other"]:List Str)++([]:List Str))from by decide +kernel))) (λ_ _ _ _ _=>bv) (λ_ _ _ _ _=>(aY (ze T.c_STANDING_WORDS (by rfl)))) (λ_ _ _ _ _=>(ak 1 (show aaM ((["one","other"]:List Str)++([]:List Str))from by decide +kernel))) (λ_ _ _ _ _=>(jq (am (gA q.units) (mv' 0) (mv' 1) (aB _)))) (λ_ _ _ _ _=>(ah (mc' (mv' 0) (mc' (mv' 1) mn')))))
   (aa (ag (b5 cP (by rfl) T.tuple eF (mc' (bo (own:=["one","other"]) (fr:=["hall"]) (ps:=[0]) (sc:=(ab fC)) (by exact⟨rfl,by decide +kernel,by decide +kernel,by decide +kernel,by decide +kernel⟩) (aY (mv' 1)) (λ_ _ _ _ _=>(bj (n:=2) (ac (ak 0 (show aaM ((["one","other"]:List Str)++(["hall"]:List Str))from by decide +kernel)) (ac (ak 1 (show aaM ((["one","other"]:List Str)++(["hall"]:List Str))from by decide +kernel)) aM)))) (λ_ _ _ _ _=>bv) (λ_ _ _ _ _=>(ah (mc' (mv' 0) (mc' (mv' 1) (mc' (ae (mf' G (q.mono (by decide)) (mc' (mv' 2) (mc' (ah (mc' (mv' 0) mn')) (mc' (ah (mc' (mv' 1) mn')) mn')))) mh') mn')))))) mn'))))),?_⟩
 case ar=>intro O u ⟨h,rfl,_⟩;rfl
 intro O u X ⟨h,rfl,N,B,z,k⟩;refine ap (MSt.mk [some (.imm h.d),none] [] 0) rfl ?_;ext s;have fl:∀i j,(flt i j).length≤12:=λi j=>abn _ prs;refine bx (λi m=>∃a b:Option L2.R,m=MSt.mk [a,b] [(flt i 0).map prD2] 1) ⟨none,none,rfl⟩ ?_ ?_
 .rintro i d m e g ⟨a,b,rfl⟩ D1 hD1 hR1;let⟨o,rfl⟩:=o3 e;ext s;refine bx (λj m=>∃b:Option L2.R,m=MSt.mk [some (.imm (.str (wrd i))),b] [(flt i j).map prD2] 1) ⟨b,rfl⟩ ?_ ?_
  .rintro j d m e g ⟨b,rfl⟩ D2 hD2 hR2;let⟨y,rfl⟩:=o3 e;let⟨fs,t⟩:=p7 i o j y;have C:=fl i j;rw[fs]at hD2;ext s;rw[t]
   by_cases c:i=j
   .rw[if_pos c,aaN]at hD2;rw[decide_eq_true c,if_neg (by decide)];ext s;exact hD2 _ ⟨_,rfl⟩
   .rw[if_neg c]at hD2;rw[decide_eq_false c,if_pos (show(!false)=true from rfl)];ext s;refine⟨_,rfl,by rw[iO,aae];omega,hD2 _ ⟨some (.imm (.str (wrd j))),?_⟩⟩;rw[aaq];rfl
  .rintro m g ⟨b,rfl⟩;refine hD1 _ ⟨some (.imm (.str (wrd i))),b,?_⟩;rw[show flt i ([ac7 "random",.str "two",.str "least",.str "quick"]:List aD).length=flt i 4 from rfl,BO i o]
 intro m g ⟨a,b,rfl⟩;rw[show flt ([ac7 "random",.str "two",.str "least",.str "quick"]:List aD).length 0=prs by decide +kernel];ext n;refine cF ?_;ext x;have nb:∀p∈prs,p.1<4/\p.2<4:=by decide
 refine uG (λn m=>∃a b:Option L2.R,m=MSt.mk [a,b,some (.imm h.d)] [prs.map prD2,(prs.take n).map λp=>.tuple [.str (wrd p.1),.str (wrd p.2),.str (sdW h p.1 p.2)]] 2) ⟨none,none,rfl⟩ ?_ ?_ ?_
 .rintro n m ⟨a,b,rfl⟩;rfl
 .rintro n d m e g ⟨a,b,rfl⟩ D1 hD1 hR1;let⟨p,v,rfl,U⟩:=gmap e;let⟨k1,n1,d1⟩:=o6 (h:=h) p.1;let⟨k2,n2,J⟩:=o6 (h:=h) p.2;have Q:(prs.take n).length≤12:=by rw[aaw];exact acf _ _
  rw[aaR,v,aaq]at hD1;unfold prD2;ext s
  .rfl
  ext s;refine⟨h,rlN p.1,rlN p.2,by rw[d1,J],⟨N,k1,k2,n1,n2⟩,by omega,z,λR x I V W=>?_,λZ S _ _ _=>?_⟩
  .ext x;refine⟨_,rfl,by rw[iO,aae];omega,hD1 _ ⟨some (.imm (.str (wrd p.1))),some (.imm (.str (wrd p.2))),?_⟩⟩;show _=MSt.mk _ [_,_++[.tuple [_,_,.str (sdW h p.1 p.2)]]] 2;rw[lG x I];rfl
  .ext x;refine⟨_,rfl,by rw[iO,aae];omega,hD1 _ ⟨some (.imm (.str (wrd p.1))),some (.imm (.str (wrd p.2))),?_⟩⟩;show _=MSt.mk _ [_,_++[.tuple [_,_,.str (sdW h p.1 p.2)]]] 2;rw[nh S];rfl
 intro m g ⟨a,b,rfl⟩;ext s;exact k
theorem uY(T:Bl K mg)(D:DefM K mg "_law_tape" jY ["_law_script"]):FnM P w K mg base "_law_tape" 1 1 Cr:=by
 refine bf D uF rfl (nN:=1) rfl (by decide) ?ar λd A outer s H E f j=>⟨_,(aa (ag (D8 (my ai (cE (cc di (mv' 0) cW (cu mh'))) (my ai mh' (my ai mh' CK)))))),?_⟩
 case ar=>intro g i ⟨ns,rfl,_⟩;rfl
 intro g i m ⟨ns,rfl,c,k⟩;refine ap (MSt.mk [some (.imm (.list (ns.map .int)))] [] 0) rfl ?_;ext s;have e:cutD (ns.map abU) none (some 63)=ns.map .int:=Fy (n:=63) (by rw[iO];exact c);rw[e];exact k _ ⟨ns,0,0,rfl,c,by omega,by omega,by omega⟩
theorem uo(T:Bl K mg)(D:DefM K mg "_law_draw" jC ["_law_tape_here","_law_many"]):FnM P w K mg base "_law_draw" 1 2 m9:=by
 refine bf D cN rfl (nN:=6) rfl (by decide) ?ar λN A outer s H E f g=>⟨_,(mz' (aU (am mQ (gG g.units (mv' 0) ai) mh' (aB _)) (mz' (au 2 cN.nd (af fX (gG g.units (mv' 0) ai) (mv' 1)))
   (mz' (qp g.units (af gW (gG g.units (mv' 0) ai) (mv' 1)) (mv' 0) ai)
   (aa (ag (mv' 2))))) aA)
   (mz' (au 3 cN.nd (gG g.units (mv' 0) ai))
   (mz' (qp g.units (af aE (mv' 3) mh') (mv' 0) ai)
   (mz' (au 4 cN.nd (af bM mh' (mv' 3)))
   (mz' (aU (am (gA g.units) (gG g.units (mv' 0) ai) (bJ mn') (aB _)) (aa (au 4 cN.nd (ae (gG g.units (mv' 0) ai) (af fX (mv' 3) (aC ca (by rfl) T.len d6 (mc' (gG g.units (mv' 0) ai) mn')))))) aA)
   (mz' (aU (EW.pt (iW (am Jb (mv' 4) (af N9 mh' mh') (aB _)) (h8 (am gC (mv' 3) (aC ca (by rfl) T.len d6 (mc' (gG g.units (mv' 0) ai) mn')) (aB _))))) (mz' (qp g.units (af gW (mv' 4) (mv' 1)) (mv' 0) ai)
   (aa (ag (af fX (mv' 4) (mv' 1))))) aA)
   (mz' (au 5 cN.nd (af fX (af bM (af aE (af aE (af fX (mv' 4) mh') (af bM mh' (mv' 3))) mh') mh') mh'))
   (mz' (au 5 cN.nd (af fX (af bM (af aE (af aE (af gW (mv' 5) mh') (af bM mh' (mv' 3))) mh') mh') mh'))
   (aa (ag (af fX (af gW (mv' 5) mh') (mv' 1)))))))))))),?_⟩
 case ar=>intro O F ⟨ds,m,c,rfl,_⟩;rfl
 intro O F R ⟨ds,m,c,rfl,⟨ns,p,q,rfl,C,z,Q,o⟩,S,j,I,k⟩;refine ap (MSt.mk [some (.at 0 []),some (.imm (.int m)),none,none,none,none] [[KU ns p q]] 1) rfl ?_;ext s;refine bg (λh=>?_) (λh=>?_)
 .ext s;exact k _ _ (adZ _ (by omega)) (ac8 _ j) ⟨ns,p,q/m,rfl,C,z,by omega,agd o (by omega)⟩
 .ext s;have e:∀x:Int,0≤x->x<m->∀v:Int,0≤v->F (.imm (.int x)) [[KU ns (p+1) v]]:=λx n u v J=>k _ _ n u ⟨ns,p+1,v,rfl,C,by omega,by omega,J⟩;have d:∀y:Int,0≤y/64%m/\y/64%m<m:=λy=>⟨adZ _ (by omega),ac8 _ j⟩
  cases ns with
  | nil=>
   refine x_ne rfl rfl rfl rfl ?_;ext s;refine ji ?_;ext s;refine bg (λn=>?_) (λn=>?_)
   .ext s;refine bg (λu=>?_) (λu=>?_)
    .ext s;exact e _ (adZ _ (by omega)) (ac8 _ j) _ (agd (aei (by decide) n) (by omega))
    .ext s;exact e _ (d _).1 (d _).2 _ o
   .ext s;exact e _ (d _).1 (d _).2 _ o
  | cons B ns=>
   refine x_ne rfl rfl (ve _) rfl ?_;ext s;refine jb ?_;ext s;have t:(0:Int)<((List.map abU (B::ns)).length:Int):=by simp only[iO,aaA];omega
   refine JJ t ?_;let⟨x,G⟩:=DN (ns:=B::ns) (i:=p%((List.map abU (B::ns)).length:Int)) (adZ _ (by omega)) (by have:=ac8 p t;simp only[iO]at this⊢;exact this);refine AU G ?_;ext s;refine bg (λn=>?_) (λn=>?_)
   .ext s;refine bg (λu=>?_) (λu=>?_)
    .ext s;exact e _ (adZ _ (by omega)) (ac8 _ j) _ (agd (aei (by decide) n) (by omega))
    .ext s;exact e _ (d _).1 (d _).2 _ o
   .ext s;exact e _ (d _).1 (d _).2 _ o
theorem u9(T:Bl K mg)(D:DefM K mg "_law_frac" j6 ["_law_top","_law_bottom"]):FnM P w K mg base "_law_frac" 1 2 LQ:=by
 refine bf D iz rfl (nN:=4) rfl (by decide) ?ar λB A outer s H E f I=>⟨_,(mz' (jF (i:=2) (j:=3) iz.nd rfl rfl (by decide) rfl rfl (mc' (mv' 0) (mc' (mv' 1) mn')) rfl)
   (mz' (dH (am mQ (mv' 3) mh' (aB _)) (aa (jF (i:=2) (j:=3) iz.nd rfl rfl (by decide) rfl rfl (mc' (mv' 3) (mc' (af fX (mv' 2) (mv' 3)) mn')) rfl)) aaD)
   (aa (ag (ah (mc' (af gW (mv' 0) (mv' 2)) (mc' (af gW (mv' 1) (mv' 2)) mn'))))))),?_⟩
 case ar=>intro C z ⟨a,b,rfl,_⟩;rfl
 intro C z J ⟨a,b,rfl,p,e,o,k⟩;refine ap (MSt.mk [some (.imm (.int a)),some (.imm (.int b)),none,none] [] 0) rfl ?_;ext s;refine iI (λn m=>∃x y:Nat,m=MSt.mk [some (.imm (.int a)),some (.imm (.int b)),some (.imm (.int x)),some (.imm (.int y))] [] 0/\x.gcd y=a.gcd b/\x<1000000000/\y<1000000000/\n=y) b ⟨a,b,rfl,rfl,p,o,rfl⟩ ?_;intro n m F ⟨x,y,rfl,c,t,d,rfl⟩;ext s;refine bg (λg=>?_) (λG=>?_)
 .ext s;have u:0<n:=by omega
  have q:=ahE x u;exact⟨x%n,q,n,x%n,rfl,by rw[Nat.gcd_comm,<-Nat.gcd_rec,Nat.gcd_comm,c],d,by omega,rfl⟩
 .have hy0:n=0:=by omega
  subst hy0;rw[Nat.gcd_zero_right]at c;have v:0<x:=by rw[c];exact afF _ e
  ext s;ext s;rw[c];exact k
theorem kG(T:Bl K mg)(D:DefM K mg "_law_all_lines" c5 ["_law_rooms"]):FnM P w K mg base "_law_all_lines" 1 1 qC:=by
 refine bf D bT rfl (nN:=5) rfl (by decide) ?ar λN A outer s H E f C=>⟨_,(mz' (au 1 bT.nd (bJ (mc' (ah mn') mn')))
   (mz' (b6 (aY (mv' 0)) (ak 2 bT.nd) (mz' (au 3 bT.nd (bJ mn'))
   (mz' (b6 (aY (mv' 1)) (jd (i:=4) bT.nd rfl (adq rfl)) (aa (cU (jo adQ adR jP (mv' 3) (mc' (bo (own:=["_law_k"]) (fr:=["_law_lines"]) (ps:=[4]) (sc:=(ab c5)) (by exact⟨rfl,by decide +kernel,by decide +kernel,by decide +kernel,by decide +kernel⟩) (cg (by rfl) T.range (mc' (af aE (mv' 2) mh') mn')) (λ_ _ _ _ _=>(ak 0 (show aaM ((["_law_k"]:List Str)++(["_law_lines"]:List Str))from by decide +kernel))) (λ_ _ _ _ _=>bv) (λ_ _ _ _ _=>(af aE (mv' 1) (ah (mc' (mv' 0) mn'))))) mn')))) aaD)
   (aa (au 1 bT.nd (mv' 3))))) aaD)
   (aa (ag (mv' 1))))),?_⟩
 case ar=>intro Q I ⟨rs,rfl,_⟩;rfl
 intro Q I U ⟨rs,rfl,V,v,k⟩;refine ap (MSt.mk [some (.imm (.list (rs.map λ(r:Nat)=>.int (r:Int)))),none,none,none,none] [] 0) rfl ?_;ext c;refine gy (λi m=>∃a c,m=MSt.mk [some (.imm (.list (rs.map λ(r:Nat)=>.int (r:Int)))),some (.obj 0),a,none,c] [(((rs.take i).foldl M3.stepL [[]]).map lnD)] 0) ⟨none,none,rfl⟩ ?_ ?_
 .rintro i d m e n ⟨a,c,rfl⟩;let⟨r,x,rfl,S⟩:=gmap e;have r6:=v r (GT x);generalize g:(rs.take i).foldl M3.stepL [[]]=p;have t:∀a∈p,a.length≤4:=by
   intro a u;rw[<-g]at u;have:=M3.allR_len (by rw[<-M3.allL_eq];exact u);rw[this,aaw];omega
  have O:p.length≤2401:=by
   rw[<-g];exact M3.fold_small (by rw[aaw];omega) (λr C=>v r (acp C))
  have o:((rs.take (i+1)).foldl M3.stepL [[]])=M3.stepL p r:=by
   rw[aaR,x,ahc,g];rfl
  rw[o];ext c;refine jM (λi m=>∃a,m=MSt.mk [some (.imm (.list (rs.map λ(r:Nat)=>.int (r:Int)))),some (.obj 0),some (.imm (.int r)),some (.obj 1),a] [p.map lnD,(M3.stepL (p.take i) r).map lnD] 1) ⟨c,rfl⟩ ?_ ?_ ?_
  .rintro j m ⟨a,rfl⟩;rfl
  .rintro j d m ej nj ⟨a,rfl⟩;let⟨l,F,rfl,R⟩:=gmap ej;have G:=t l (GT F);ext s;refine⟨by omega,by omega,?_⟩;have J:((r:Int)+1).toNat=r+1:=by omega
   rw[J];ext n;refine gy (λz m=>∃b,m=MSt.mk [b,some (.imm (lnD l))] [p.map lnD,(M3.stepL (p.take j) r).map lnD,((aaz z).map λy=>l++[y]).map lnD] 3) ⟨none,rfl⟩ ?_ ?_
   .rintro z dz m ez nz ⟨b,rfl⟩;let⟨B,rfl⟩:=c6 ez;ext s;refine ip (by rw[aae,bi];simp;omega) ?_;ext s;refine⟨_,rfl,by rw[aae];simp;omega,some (.imm (.int (0+(z:Int)))),?_⟩;have q:((aaz (z+1)).map λy=>l++[y]).map lnD=((aaz z).map λy=>l++[y]).map lnD++[.tuple (natD l++[.int (0+(z:Int))])]:=by
     rw[aca];simp[lnD,natD]
    rw[q];rfl
   .rintro m n ⟨b,rfl⟩;rw[aV];ext s;have B:((M3.stepL (p.take j) r).map lnD).length+(((aaz (r+1)).map λy=>l++[y]).map lnD).length≤aai:=by
     rw[aae,iO,iO,iO,aaV,M3.stepL_length,aaw];have:min j p.length*(r+1)≤2401*7:=abx (by omega) (by omega);omega
    refine' qF (ds:=(M3.stepL (p.take j) r).map lnD) ?eb B ?_
    case eb=>rfl
    have q:(M3.stepL (p.take (j+1)) r).map lnD=(M3.stepL (p.take j) r).map lnD++((aaz (r+1)).map λy=>l++[y]).map lnD:=by
     rw[M3.stepL_take F,aaq]
    rw[q];exact⟨_,rfl⟩
  .rintro m n ⟨a,rfl⟩;rw[iO,aau];ext n;refine Js ?_;refine yz rfl ?_;refine mz [1] (MSt.mk [some (.imm (.list (rs.map λ(r:Nat)=>.int (r:Int)))),some (.obj 0),some (.imm (.int r)),none,none] [(M3.stepL p r).map lnD] 0) (zF rfl rfl rfl rfl rfl rfl ⟨rfl,⟨1,rfl,rfl⟩,rfl,trivial,trivial,trivial⟩) ⟨_,_,rfl⟩
 .rintro m n ⟨a,c,rfl⟩;rw[iO,aau,show rs.foldl M3.stepL [[]]=M3.allL rs from rfl,M3.allL_eq];ext s;exact k
theorem uW(T:Bl K mg)(D:DefM K mg "_law_hall" cw ["_law_tape_here","_law_most"])(G:FnM P w K mg base "_law_draw" 1 2 m9)(v:FnM P w K mg base "_law_frac" 1 2 LQ)(u:FnM P w K mg base "_law_all_lines" 1 1 qC):FnM P w K mg base "_law_hall" 3 2 vD:=by
 refine bf D b8 rfl (nN:=7) rfl (by decide) ?ar λcdv A outer s H E f B=>⟨_,(mz' (au 2 b8.nd (ae (bJ (mc' mh' (mc' mh' (mc' mh' (mc' mh' (mc' mh' (mc' mh' (mc' mh' (mc' mh' mn'))))))))) (mf' G (B.mono (by decide)) (mc' (mv' 0) (mc' mh' mn')))))
   (mz' (jt (i:=3) (own:=["_law_k"]) (fr:=["_law_tape_here"]) (ps:=[0]) (sc:=(ab cw)) (by exact⟨rfl,by decide +kernel,by decide +kernel,by decide +kernel,by decide +kernel⟩) b8.nd rfl rfl (cg (by rfl) T.range (mc' (mv' 2) mn')) (λ_ _ _ _ _=>(ak 0 (show aaM ((["_law_k"]:List Str)++(["_law_tape_here"]:List Str))from by decide +kernel))) (λ_ _ _ _ _=>bv) (λ_ _ _ _ _=>(ah (mc' (af aE mh' (mf' G (B.mono (by decide)) (mc' (mv' 1) (mc' mh' mn')))) (mc' (af aE mh' (mf' G (B.mono (by decide)) (mc' (mv' 1) (mc' mh' mn')))) mn')))))
   (mz' (aU (am (bF B.units) (mf' G (B.mono (by decide)) (mc' (mv' 0) (mc' mh' mn'))) mh' (aB _)) (aa (au 3 b8.nd (af bM (bJ (mc' (ae (mv' 3) mh') mn')) (mv' 2)))) aA)
   (mz' (dH (am mQ (aC ca (by rfl) T.len d6 (mc' (mf' u (B.mono (by decide)) (mc' (cE (bo (own:=["_law_top","_law_room"]) (fr:=[]) (ps:=[]) (sc:=(ab cw)) (by exact⟨rfl,by decide +kernel,by decide +kernel,by decide +kernel,by decide +kernel⟩) (aY (mv' 3)) (λ_ _ _ _ _=>(bj (n:=2) (ac (ak 0 (show aaM ((["_law_top","_law_room"]:List Str)++([]:List Str))from by decide +kernel)) (ac (ak 1 (show aaM ((["_law_top","_law_room"]:List Str)++([]:List Str))from by decide +kernel)) aM)))) (λ_ _ _ _ _=>bv) (λ_ _ _ _ _=>(mv' 1)))) mn')) mn')) (mv' 1) (aB _)) (mz' (aU (am (bF B.units) (aC (fy rfl) (by rfl) T.max o7 (mc' (bo (own:=["_law_top","_law_room"]) (fr:=[]) (ps:=[]) (sc:=(ab cw)) (by exact⟨rfl,by decide +kernel,by decide +kernel,by decide +kernel,by decide +kernel⟩) (aY (mv' 3)) (λ_ _ _ _ _=>(bj (n:=2) (ac (ak 0 (show aaM ((["_law_top","_law_room"]:List Str)++([]:List Str))from by decide +kernel)) (ac (ak 1 (show aaM ((["_law_top","_law_room"]:List Str)++([]:List Str))from by decide +kernel)) aM)))) (λ_ _ _ _ _=>bv) (λ_ _ _ _ _=>(mv' 1))) mn')) mh' (aB _)) (aa (au 3 b8.nd (cc di (mv' 3) (cu mh') cW))) aA)
   (aa (jt (i:=3) (own:=["_law_top","_law_room"]) (fr:=[]) (ps:=[]) (sc:=(ab cw)) (by exact⟨rfl,by decide +kernel,by decide +kernel,by decide +kernel,by decide +kernel⟩) b8.nd rfl rfl (aY (mv' 3)) (λ_ _ _ _ _=>(bj (n:=2) (ac (ak 0 (show aaM ((["_law_top","_law_room"]:List Str)++([]:List Str))from by decide +kernel)) (ac (ak 1 (show aaM ((["_law_top","_law_room"]:List Str)++([]:List Str))from by decide +kernel)) aM)))) (λ_ _ _ _ _=>bv) (λ_ _ _ _ _=>(ah (mc' (mv' 0) (mc' (aC (yG rfl) (by rfl) T.max o7 (mc' mh' (mc' (af y3 (mv' 1) mh') mn'))) mn'))))))) aaD)
   (mz' (au 4 b8.nd (af aE mh' (mf' G (B.mono (by decide)) (mc' (mv' 0) (mc' mh' mn')))))
   (mz' (rf (i:=5) b8.nd rfl (adq rfl) (af aE (af aE (mv' 4) (aC (zf rfl) (by rfl) T.sum rJ (mc' (bo (own:=["_law_top","_law_room"]) (fr:=[]) (ps:=[]) (sc:=(ab cw)) (by exact⟨rfl,by decide +kernel,by decide +kernel,by decide +kernel,by decide +kernel⟩) (aY (mv' 3)) (λ_ _ _ _ _=>(bj (n:=2) (ac (ak 0 (show aaM ((["_law_top","_law_room"]:List Str)++([]:List Str))from by decide +kernel)) (ac (ak 1 (show aaM ((["_law_top","_law_room"]:List Str)++([]:List Str))from by decide +kernel)) aM)))) (λ_ _ _ _ _=>bv) (λ_ _ _ _ _=>(mv' 0))) mn'))) (ae (bJ (mc' mh' (mc' mh' (mc' mh' (mc' mh' (mc' mh' mn')))))) (mf' G (B.mono (by decide)) (mc' (mv' 0) (mc' mh' mn'))))))
   (mz' (au 6 b8.nd (b5 cP (by rfl) T.tuple eF (mc' (bo (own:=["_law_top","_law_room"]) (fr:=["_law_whole"]) (ps:=[5]) (sc:=(ab cw)) (by exact⟨rfl,by decide +kernel,by decide +kernel,by decide +kernel,by decide +kernel⟩) (aY (mv' 3)) (λ_ _ _ _ _=>(bj (n:=2) (ac (ak 0 (show aaM ((["_law_top","_law_room"]:List Str)++(["_law_whole"]:List Str))from by decide +kernel)) (ac (ak 1 (show aaM ((["_law_top","_law_room"]:List Str)++(["_law_whole"]:List Str))from by decide +kernel)) aM)))) (λ_ _ _ _ _=>bv) (λ_ _ _ _ _=>(ah (mc' (mf' v (B.mono (by decide)) (mc' (mv' 0) (mc' (mv' 2) mn'))) (mc' (mv' 1) mn'))))) mn')))
   (aa (ag (ah (mc' (mf' v (B.mono (by decide)) (mc' (mv' 4) (mc' (mv' 5) mn'))) (mc' (mv' 6) (mc' (df (bF B.units) (mf' G (B.mono (by decide)) (mc' (mv' 0) (mc' mh' mn'))) mh' (aB _)) mn'))))))))))))),?_⟩
 case ar=>intro as Kc ⟨t,c,mo,rfl,_⟩;rfl
 intro as Kc hl ⟨t,c,mo,rfl,y,hc,hmo,k⟩;refine ap (MSt.mk [some (.at 0 []),some (.imm (.int (mo:Int))),none,none,none,none,none] [[t]] 1) rfl ?_;ext s;refine⟨t,_,_,rfl,y,by omega,by omega,by omega,λq t I V y=>?_⟩;let⟨n,hn1,hn4,en⟩:∃n:Nat,1≤n/\n≤4/\atI [abU 2,.int 2,.int 3,.int 1,.int 2,.int 3,.int 2,.int 4] q=some (.int (n:Int)):=by
  have:q=0\/q=1\/q=2\/q=3\/q=4\/q=5\/q=6\/q=7:=by omega
  rcases this with rfl|rfl|rfl|rfl|rfl|rfl|rfl|rfl
  .exact⟨2,by decide,by decide,rfl⟩
  .exact⟨2,by decide,by decide,rfl⟩
  .exact⟨3,by decide,by decide,rfl⟩
  .exact⟨1,by decide,by decide,rfl⟩
  .exact⟨2,by decide,by decide,rfl⟩
  .exact⟨3,by decide,by decide,rfl⟩
  .exact⟨2,by decide,by decide,rfl⟩
  .exact⟨4,by decide,by decide,rfl⟩
 ext n;refine uC en ?_;ext s;refine⟨by omega,by omega,?_⟩;rw[aa8];ext n;refine bx (λi m=>∃a t ps,m=MSt.mk [a,some (.at 0 [])] [[t],ps.map prD] 2/\TapeK (c+1+2*i) t/\ps.length=i/\∀p∈ps,1≤p.1/\p.1≤3/\1≤p.2/\p.2≤4) ⟨none,t,[],rfl,y,rfl,λ_ h=>by cases h⟩ ?_ ?_
 .rintro i d m e W ⟨a,t,ps,rfl,y,R,U⟩ D1 hD1 hR1;let⟨hi,rfl⟩:=c6 e;ext s;refine⟨t,_,c+1+2*i,rfl,y,by omega,by omega,by omega,λY t I V y=>?_⟩;ext x;refine⟨t,_,c+1+2*i+1,rfl,y,by omega,by omega,by omega,λq2 t hq2 hq3 y=>?_⟩;ext x;let⟨Y,rfl⟩:=abY I;let⟨q2,rfl⟩:=abY hq2;refine⟨_,rfl,by rw[aae,iO];omega,hD1 _ ⟨some (.imm (.int (0+(i:Int)))),t,ps++[(1+Y,1+q2)],?_,y.mono (by omega),by simp[R],λp F=>?_⟩⟩
  .rw[aaq];rfl
  .obtain h|h:=aaT.mp F
   .exact U p h
   .cases aab.mp h
    exact⟨by show 1≤1+Y;omega,by show 1+Y≤3;omega,by show 1≤1+q2;omega,by show 1+q2≤4;omega⟩
 intro m W ⟨a,t,ps,rfl,y,R,U⟩;rw[aV]at R;have y:=y.mono (c':=c+9) (by rw[aV];omega);have o:SvK ps:=⟨by omega,by omega,U⟩;ext n;refine cF ?_;ext n;refine qO ?_;refine x_JS (λm=>∃ps t,m=MSt.mk [some (.at 0 []),some (.imm (.int (mo:Int))),some (.imm (.int (n:Int))),some (.obj 1),none,none,none] [[t],ps.map prD] 1/\TapeK (c+10) t/\SvK ps) (λN J=>?_) ?_
 .ext s;refine⟨t,_,_,rfl,y,by omega,by omega,by omega,λY t I V y=>?_⟩;ext x;refine bg (λz=>?_) (λz=>?_)
  .obtain⟨p0,g,rfl⟩:∃p0 g,ps=p0::g:=by
    cases ps with
    |nil=>simp at R;omega
    |cons p0 sp=>exact⟨p0,sp,rfl⟩
   ext s;refine jT (d:=prD p0) rfl (show atI ((p0::g).map prD) 0=some (prD p0)from bh (j:=0) (xs:=(p0::g).map prD) rfl) ?_;ext s;refine SE (by omega) (by omega) (by simp;omega) ?_;rw[aa8,zN];refine gN (k:=1) rfl (show 1≤1 by decide) (λj Z=>?_) (J _ ⟨aal n p0,t,by rw[ag0];rfl,y,o.rep aaa hn1 hn4⟩)
   match j with
   |0|1|2|4|5|6=>exact λz=>by cases z
   |3=>exact(Z rfl).elim
   |n+7=>exact λz=>by cases z
  .ext s;exact J _ ⟨ps,t,rfl,y,o⟩
 clear o R U y;intro _ ⟨ps,t,rfl,y,o⟩;refine qO ?_;refine C9 (λz m=>∃ps,m=MSt.mk [some (.at 0 []),some (.imm (.int (mo:Int))),some (.imm (.int (n:Int))),some (.obj 1),none,none,none] [[t],ps.map prD] 1/\SvK ps/\z=(br ps).sum) _ ⟨ps,rfl,o,rfl⟩ ?_;clear o;intro z m W ⟨ps,rfl,o,rfl⟩ D0 E0 hD0 hR0 hE0;ext s;let⟨s1,s4,_⟩:=id o;refine n6 (λi m=>∃a b,m=MSt.mk [a,b] [[t],ps.map prD,(ps.take i).map Ko] 3) ⟨none,none,rfl⟩ ?_ ?_ ?_
 .rintro i m ⟨a,b,rfl⟩;rfl
 .rintro i d m e hnp2 ⟨a,b,rfl⟩ D1 hD1 hR1;let⟨p,C,rfl,hi⟩:=gmap e;have F:=o.2.2 p (GT C);rw[cY _ C]at hD1;dsimp only[prD];ext s
  .rfl
  ext s;exact⟨_,rfl,by rw[aae,iO,aaw];omega,hD1 _ ⟨some (.imm (.int (p.1:Int))),some (.imm (.int (p.2:Int))),rfl⟩⟩
 intro m hm ⟨a,b,rfl⟩;rw[iO,aau,r8];ext x;refine⟨br ps,rfl,o.six.1,o.six.2,?_⟩;ext x;rw[iO];refine bg (λhb=>?_) (λhb=>?_)
 .have hb':mo<(M3.allR (br ps)).length:=by omega
  refine qO ?_;refine x_JS (λm=>∃g,m=MSt.mk [some (.at 0 []),some (.imm (.int (mo:Int))),some (.imm (.int (n:Int))),some (.obj 1),none,none,none] [[t],g.map prD] 1/\SvK g/\(br (jB g)).sum<(br ps).sum) (λN J=>?_) ?_
  .ext s;refine n6 (λi m=>∃a b,m=MSt.mk [a,b] [[t],ps.map prD,(ps.take i).map Ko] 3) ⟨none,none,rfl⟩ ?_ ?_ ?_
   .rintro i m ⟨a,b,rfl⟩;rfl
   .rintro i d m e hnp2 ⟨a,b,rfl⟩ D1 hD1 hR1;let⟨p,C,rfl,hi⟩:=gmap e;have F:=o.2.2 p (GT C);rw[cY _ C]at hD1;dsimp only[prD];ext s
    .rfl
    ext s;exact⟨_,rfl,by rw[aae,iO,aaw];omega,hD1 _ ⟨some (.imm (.int (p.1:Int))),some (.imm (.int (p.2:Int))),rfl⟩⟩
   intro m hm ⟨a,b,rfl⟩;rw[iO,aau,r8];ext x;refine rE rfl (yT (br ps)) (λz=>?_) λx hx hx2=>?_
   .have:=congrArg adn z;rw[iO,br,iO,adW]at this;omega
   ext s;refine bg (λz=>?_) (λz=>?_)
   .ext s;have h1:∀r∈br ps,r≤1:=λr B=>by
     have:=hx2 (r:Int) (aap.mpr ⟨r,B,rfl⟩);omega
    let⟨p,g,rfl⟩:∃p g,ps=p::g:=by
     cases ps with
     |nil=>simp at s1
     |cons p g=>exact⟨p,g,rfl⟩
    let⟨sv',dec⟩:=o.tail h1 hmo hb';rw[show cutD ((p::g).map prD) (some 1) none=g.map prD from(jc 1)];refine gN (k:=1) rfl (show 1≤1 by decide) (λj Z=>?_) (J _ ⟨g,rfl,sv',dec⟩)
    match j with
    |0|1|2|4|5|6=>exact λz=>by cases z
    |3=>exact(Z rfl).elim
    |n+7=>exact λz=>by cases z
   .ext s;refine J _ ⟨ps,rfl,o,?_⟩;let⟨r,B,er⟩:=aap.mp hx;let⟨p2,hp2,e2⟩:=aap.mp B;have:=(o.2.2 p2 hp2).2.2.1;exact(lh (ps:=ps) λp F=>(o.2.2 p F).2.2.1).2 ⟨p2,hp2,by omega⟩
  intro _ ⟨g,rfl,O,X⟩;have s4':=O.2.1;ext s;refine n6 (λi m=>∃a b,m=MSt.mk [a,b] [[t],g.map prD,(g.take i).map Uc] 3) ⟨none,none,rfl⟩ ?_ ?_ ?_
  .rintro i m ⟨a,b,rfl⟩;rfl
  .rintro i d m e hnp2 ⟨a,b,rfl⟩ D1 hD1 hR1;let⟨p,C,rfl,hi⟩:=gmap e;have F:=O.2.2 p (GT C);rw[cY _ C]at hD1;dsimp only[prD];ext s
   .rfl
   ext s;have em:(if (p.2:Int)-1>1 then(p.2:Int)-1 else 1)=((max 1 (p.2-1):Nat):Int):=by
    split<;>omega
   rw[em];exact⟨_,rfl,by rw[aae,iO,aaw];omega,hD1 _ ⟨some (.imm (.int (p.1:Int))),some (.imm (.int (p.2:Int))),rfl⟩⟩
  intro m hm ⟨a,b,rfl⟩;rw[iO,aau,yC];ext n;refine gN (k:=1) rfl (show 1≤1 by decide) (λj Z=>?_) (hD0 _ _ X ⟨jB g,rfl,FV O,rfl⟩)
  match j with
  |0|1|2|4|5|6=>exact λz=>by cases z
  |3=>exact(Z rfl).elim
  |n+7=>exact λz=>by cases z
 .refine hE0 _ ?_;ext s;refine⟨t,_,_,rfl,y,by omega,by omega,by omega,λQ t hc0 hc1 y=>?_⟩;let⟨Q,rfl⟩:=abY hc0;ext x;refine n6 (λi m=>∃a b,m=MSt.mk [a,b] [[t],ps.map prD,(ps.take i).map topD] 3) ⟨none,none,rfl⟩ ?_ ?_ ?_
  .rintro i m ⟨a,b,rfl⟩;rfl
  .rintro i d m e hnp2 ⟨a,b,rfl⟩ D1 hD1 hR1;let⟨p,C,rfl,hi⟩:=gmap e;have F:=o.2.2 p (GT C);rw[cY _ C]at hD1;dsimp only[prD];ext s
   .rfl
   ext s;exact⟨_,rfl,by rw[aae,iO,aaw];omega,hD1 _ ⟨some (.imm (.int (p.1:Int))),some (.imm (.int (p.2:Int))),rfl⟩⟩
  intro m hm ⟨a,b,rfl⟩;rw[iO,aau,DG];ext x;refine⟨_,_,rfl,yT (uL ps),?_⟩;rw[sumK];have hsum:(uL ps).sum≤12:=by
   have:=v6 (ps:=ps) λp F=>(o.2.2 p F).2.1;omega
  generalize (uL ps).sum=S at hsum;ext s;refine⟨t,_,_,rfl,y,by omega,by omega,by omega,λq t I V y=>?_⟩;let⟨mr,hmr,emr⟩:∃mr:Nat,mr≤40/\atI [abU 0,.int 0,.int 1,.int 7,.int 40] q=some (.int (mr:Int)):=by
   have:q=0\/q=1\/q=2\/q=3\/q=4:=by omega
   rcases this with rfl|rfl|rfl|rfl|rfl
   .exact⟨0,by decide,rfl⟩
   .exact⟨0,by decide,rfl⟩
   .exact⟨1,by decide,rfl⟩
   .exact⟨7,by decide,rfl⟩
   .exact⟨40,by decide,rfl⟩
  ext n;refine uC emr ?_;ext s;let⟨wh,ewh,hw1,hw2⟩:∃wh:Nat,(1+(Q:Int)+(S:Int)+(mr:Int))=(wh:Int)/\1≤wh/\wh<1000:=⟨1+Q+S+mr,by omega,by omega,by omega⟩;rw[ewh];ext x;refine n6 (λi m=>∃a b,m=MSt.mk [a,b,some (.imm (.int (wh:Int)))] [[t],ps.map prD,(ps.take i).map λp=>(srvK wh p).d] 3) ⟨none,none,rfl⟩ ?_ ?_ ?_
  .rintro i m ⟨a,b,rfl⟩;rfl
  .rintro i d m e hnp2 ⟨a,b,rfl⟩ D1 hD1 hR1;let⟨p,C,rfl,hi⟩:=gmap e;have F:=o.2.2 p (GT C);rw[cY _ C]at hD1;dsimp only[prD];ext s
   .rfl
   ext s;refine⟨p.1,wh,rfl,by omega,by omega,by omega,?_⟩;ext x;exact⟨_,rfl,by rw[aae,iO,aaw];omega,hD1 _ ⟨some (.imm (.int (p.1:Int))),some (.imm (.int (p.2:Int))),rfl⟩⟩
  intro m hm ⟨a,b,rfl⟩;rw[iO,aau];ext x;refine⟨1+Q,wh,rfl,by omega,by omega,by omega,?_⟩;ext x;refine⟨t,_,_,rfl,y,by omega,by omega,by omega,λq t I V y=>?_⟩;ext x;have f1:=qX (p:=1+Q) (wh:=wh) (by omega) (by omega) hw1 (by omega);have hk:=k ⟨(1+Q)/(1+Q).gcd wh,wh/(1+Q).gcd wh,ps.map (srvK wh),decide (q=0)⟩ t ⟨f1.1,f1.2.1,f1.2.2.1,f1.2.2.2,by rw[iO];exact s1,by rw[iO];exact s4,λs hs=>?_⟩ (by
   rw[show Hall.rs ⟨(1+Q)/(1+Q).gcd wh,wh/(1+Q).gcd wh,ps.map (srvK wh),decide (q=0)⟩=br ps by unfold Hall.rs br;rw[aa9];rfl];omega) (y.mono (by omega))
  .unfold Hall.d at hk;rw[aa9]at hk;exact hk
  .obtain⟨p,F,rfl⟩:=aap.mp hs;have h:=o.2.2 p F;have f2:=qX (p:=p.1) (wh:=wh) (by omega) (by omega) hw1 (by omega);exact⟨f2.1,f2.2.1,f2.2.2.1,f2.2.2.2,h.2.2.1,by show p.2≤6;omega⟩
theorem uZ(T:Bl K mg)(D:DefM K mg "_law_sent" g6 ["_law_hall_here","_law_rule","_law_lines","_law_order"])(G:FnM P w K mg base "_law_all_lines" 1 1 qC):FnM P w K mg base "_law_sent" 2 4 Cc:=by
 refine bf D bW rfl (nN:=12) rfl (by decide) ?ar λcdv A outer s H E f p=>⟨_,(mz' (aU (am (bF p.units) (ae (mv' 1) mh') ai (aB _)) (aa (ag (ae (mv' 3) mh'))) aA)
   (mz' (aU (am (bF p.units) (ae (mv' 1) mh') ai (aB _)) (mz' (jt (i:=4) (own:=["_law_speed","_law_room"]) (fr:=[]) (ps:=[]) (sc:=(ab g6)) (by exact⟨rfl,by decide +kernel,by decide +kernel,by decide +kernel,by decide +kernel⟩) bW.nd rfl rfl (aY (ae (mv' 0) mh')) (λ_ _ _ _ _=>(bj (n:=2) (ac (ak 0 (show aaM ((["_law_speed","_law_room"]:List Str)++([]:List Str))from by decide +kernel)) (ac (ak 1 (show aaM ((["_law_speed","_law_room"]:List Str)++([]:List Str))from by decide +kernel)) aM)))) (λ_ _ _ _ _=>bv) (λ_ _ _ _ _=>(mv' 1)))
   (aa (NQ (ag (ae (ae (mv' 1) mh') (jo afI PySem.F.type_list_index (BA p.units) (mf' G (p.mono (by decide)) (mc' (mv' 4) mn')) (mc' (mv' 2) mn'))))))) aA)
   (mz' (au 5 bW.nd (ae (mv' 3) mh'))
   (mz' (au 6 bW.nd (sF (am (bF p.units) (ae (mv' 1) mh') ai (aB _)) (cc di (mv' 3) (cu mh') (cu mh')) (cc di (mv' 3) (cu mh') cW)))
   (mz' (b6 (aY (mv' 6)) (ak 7 bW.nd) (mz' (jF (i:=8) (j:=9) bW.nd rfl rfl (by decide) rfl rfl (mc' (ae (mv' 2) (mv' 7)) (mc' (ae (mv' 2) (mv' 5)) mn')) rfl)
   (mz' (aU (am (bF p.units) (ae (mv' 1) mh') ai (aB _)) (mz' (jF (i:=10) (j:=11) bW.nd rfl rfl (by decide) rfl rfl (mc' (ae (ae (ae (mv' 0) mh') (mv' 7)) mh') (mc' (ae (ae (ae (mv' 0) mh') (mv' 5)) mh') mn')) rfl)
   (mz' (au 8 bW.nd (af bM (af bM (af aE (mv' 8) mh') (ae (mv' 10) mh')) (ae (mv' 11) mh')))
   (aa (au 9 bW.nd (af bM (af bM (af aE (mv' 9) mh') (ae (mv' 11) mh')) (ae (mv' 10) mh')))))) aA)
   (aa (aU (am gC (mv' 8) (mv' 9) (aB _)) (aa (au 5 bW.nd (mv' 7))) aA)))) aaD)
   (aa (ag (mv' 5)))))))),?_⟩
 case ar=>intro as Kc ⟨h,r,l,o,rfl,_⟩;rfl
 intro as Kc hl ⟨h,r,l,o,rfl,C,p,nt,F,hO,k⟩;have n4:=C.n4;have O:=F.1;let⟨c,os,rfl,h0⟩:=hO.cons;have kind:r = .random\/(∃ps,r = .told ps)\/Rk r:=by
  cases r with
  |turns=>exact(nt rfl).elim
  |random=>exact .inl rfl
  |told ps=>exact .inr (.inl ⟨ps,rfl⟩)
  |two=>exact .inr (.inr trivial)
  |least=>exact .inr (.inr trivial)
  |quick=>exact .inr (.inr trivial)
 rcases kind with rfl|⟨ps,rfl⟩|t
 .refine ap (MSt.mk [some (.imm h.d),some (.imm (.tuple [.str "random"])),some (.imm (.tuple (natD l))),some (.imm (.tuple (natD (c::os)))),none,none,none,none,none,none,none,none] [] 0) rfl ?_;ext d;refine ba (ds:=natD (c::os)) (bh (j:=0) rfl) ?_;ext s;exact k
 .refine ap (MSt.mk [some (.imm h.d),some (.imm (.tuple [.str "told",.tuple (natD ps)])),some (.imm (.tuple (natD l))),some (.imm (.tuple (natD (c::os)))),none,none,none,none,none,none,none,none] [] 0) rfl ?_;ext s;rw[if_neg (hnc:=by decide +kernel)];ext d;refine bx (λi m=>∃a b:Option L2.R,m=MSt.mk [a,b] [(h.rs.take i).map λ(r:Nat)=>.int (r:Int)] 1) ⟨none,none,rfl⟩ ?_ ?_
  .rintro i d m e u ⟨a,b,rfl⟩ D1 hD1 hR1;let⟨s,V,rfl,hi⟩:=gmap e;have g:h.rs[i]?=some s.r:=by unfold Hall.rs;rw[aah,V];rfl
   dsimp only[Srv.d];ext s
   .rfl
   ext s;refine⟨_,rfl,by rw[aae,iO,aaw,Hall.rsl];omega,hD1 _ ⟨some (.imm (.tuple [.int s.a,.int s.b])),some (.imm (.int (s.r:Int))),?_⟩⟩;rw[aaR,g,aaq];rfl
  intro m u ⟨a,b,rfl⟩;rw[iO,<-Hall.rsl,aau];ext x;refine cF ?_;ext n;refine UR 0 4 (h.rs.map λ(r:Nat)=>.int (r:Int)) [] (MSt.mk [some (.imm h.d),some (.imm (.tuple [.str "told",.tuple (natD ps)])),some (.imm (.tuple (natD l))),some (.imm (.tuple (natD (c::os)))),some (.imm (.list (h.rs.map λ(r:Nat)=>.int (r:Int)))),none,none,none,none,none,none,none] [] 0) rfl rfl (LJ rfl rfl rfl rfl rfl rfl rfl rfl ⟨.inl rfl,.inl rfl,.inl rfl,.inl rfl,.inr ⟨rfl,.inl rfl⟩,.inl trivial,.inl trivial,.inl trivial,.inl trivial,.inl trivial,.inl trivial,.inl trivial,trivial⟩) ?_;ext s;refine⟨h.rs,rfl,by rw[Hall.rsl];exact n4,C.r6,?_⟩;ext x;have hp:=M7.place_at F.fits;refine Jg (k':=1) (j:=M7.placeF 0 h.rs l) (y:=lnD l) rfl (bc (bV l)) (λy hy=>?_) (by decide) (by rw[aah,hp];rfl) (by rw[show abQ (natD l)=lnD l from rfl,ng];exact decide_eq_true rfl) (λi y hi hy=>?_) ?_
  .obtain⟨l',_,rfl⟩:=aap.mp hy;exact bc (bV l')
  .obtain⟨l',el,rfl,_⟩:=gmap hy;rw[show abQ (natD l)=lnD l from rfl,ng];refine decide_eq_false λz=>?_;subst z;have:=M7.place_only el;omega
  .ext n;have R:M7.placeF 0 h.rs l<ps.length:=by rw[p.1,M7.allR_cnt];exact M7.place_lt F.fits
   refine ba (bh (bt (getN rfl R))) ?_;ext s;exact k
 .have ed:r.d = .tuple [.str r.word]:=by cases r<;>first|rfl|exact t.elim
  have n1:decide (r.word = "random")=false:=by cases r<;>first|exact t.elim|decide +kernel
  have n2:decide (r.word = "told")=false:=by cases r<;>first|exact t.elim|decide +kernel
  rw[ed];refine ap (MSt.mk [some (.imm h.d),some (.imm (.tuple [.str r.word])),some (.imm (.tuple (natD l))),some (.imm (.tuple (natD (c::os)))),none,none,none,none,none,none,none,none] [] 0) rfl ?_;ext s;rw[n1];ext s;rw[n2];ext s;refine ba (ds:=natD (c::os)) (bh (j:=0) rfl) ?_;ext s;refine x_J (λr' m=>r' = .imm (.tuple (natD (rsO r os)))/\m=MSt.mk [some (.imm h.d),some (.imm (.tuple [.str r.word])),some (.imm (.tuple (natD l))),some (.imm (.tuple (natD (c::os)))),none,some (.imm (.int (c:Int))),none,none,none,none,none,none] [] 0) (λK' J=>?_) ?_
  .refine uB ?_;ext x;refine bg (λz=>?_) (λz=>?_)
   .have g:r = .two:=by cases r<;>first|rfl|exact t.elim|exact absurd z (by decide +kernel)
    subst g;ext s;rw[show cutD (natD (c::os)) (some 1) (some 2)=natD (os.take 1) by cases os<;>rfl];exact J _ _ ⟨rfl,rfl⟩
   .have g:rsO r os=os:=by cases r<;>first|rfl|exact t.elim|exact absurd rfl z
    ext s;rw[show cutD (natD (c::os)) (some 1) none=natD os by rw[show(1:Int)=((1:Nat):Int)from rfl,jc];rfl];exact J _ _ ⟨by rw[g],rfl⟩
  intro _ _ ⟨rfl,rfl⟩;ext n;refine ls ?_;ext x;refine bx (λi m=>∃S a8 X x v:Option L2.R,m=MSt.mk [some (.imm h.d),some (.imm (.tuple [.str r.word])),some (.imm (.tuple (natD l))),some (.imm (.tuple (natD (c::os)))),none,some (.imm (.int (M7.pick (ltO h l r) c ((rsO r os).take i):Nat))),some (.imm (.tuple (natD (rsO r os)))),S,a8,X,x,v] [] 0) ⟨none,none,none,none,none,rfl⟩ ?_ ?_
  .rintro i d m e u ⟨S,a8,X,x,v,rfl⟩ D1 hD1 hR1;let⟨j,ej,rfl,hi⟩:=gmap e;have mj:=GT ej;have Y:j<h.ss.length:=hO.lt j (LD _ (yU mj));have Q:M7.pick (ltO h l r) c ((rsO r os).take i)<h.ss.length:=vC h0 λz W=>hO.lt z (LD _ (yU (acp W)));have et:(rsO r os).take (i+1)=(rsO r os).take i++[j]:=by rw[aaR,ej];rfl
   rw[et,M7.pick_app]at hD1;generalize M7.pick (ltO h l r) c ((rsO r os).take i)=b at Q hD1⊢;ext s;refine ba (bh (bt (getN O Y))) ?_;ext s;refine ba (bh (bt (getN O Q))) ?_;ext s;let⟨s,V,ea,eb,hs⟩:=h.srv Y;let⟨N,U,Z,eb',hs'⟩:=h.srv Q;have so:=C.ok s hs;have I:=C.ok N hs';have b1:=F.le C _ (GT (getN O Y));have b2:=F.le C _ (GT (getN O Q));refine bg (λz=>?_) (λz=>?_)
   .have g:r = .quick:=by cases r<;>first|rfl|exact t.elim|exact absurd z (by decide +kernel)
    subst g;have a2:=so.a2;have c2:=so.b2;have a2':=I.a2;have c2':=I.b2;have up:∀{z:Nat},z<10^30->z<10^160:=λW=>aeb W (by decide);have m1:(l.getD j 0+1)*s.b≤7*1000000:=abx (by omega) (by omega);have m2:(l.getD b 0+1)*N.b≤7*1000000:=abx (by omega) (by omega);ext s;refine ba (d:=s.d) (bh (by rw[aah,V];rfl)) ?_;dsimp only[Srv.d];ext s;refine ba (d:=N.d) (bh (by rw[aah,U];rfl)) ?_;dsimp only[Srv.d];ext s;have g:ltO h l Rule.quick j b=decide ((((l.getD j 0:Nat):Int)+1)*(s.b:Int)*(N.a:Int)<(((l.getD b 0:Nat):Int)+1)*(N.b:Int)*(s.a:Int)):=by
     show decide ((l.getD j 0+1)*h.bn j*h.an b<(l.getD b 0+1)*h.bn b*h.an j)=_;rw[eb,Z,eb',ea];refine decide_eq_decide.mpr ⟨λq=>?_,λq=>?_⟩
     .exact_mod_cast q
     .exact_mod_cast q
    rw[g]at hD1;refine bg (λB=>?_) (λB=>?_)
    .rw[decide_eq_true B,if_pos rfl]at hD1;ext s;exact hD1 _ ⟨_,_,_,_,_,rfl⟩
    .rw[decide_eq_false B,if_neg (by decide)]at hD1;ext s;exact hD1 _ ⟨_,_,_,_,_,rfl⟩
   .have g:ltO h l r j b=decide (((l.getD j 0:Nat):Int)<((l.getD b 0:Nat):Int)):=by
     cases r with
     |quick=>exact absurd rfl z
     |two=>exact decide_eq_decide.mpr (by omega)
     |least=>exact decide_eq_decide.mpr (by omega)
     |_=>exact t.elim
    rw[g]at hD1;ext s;refine bg (λB=>?_) (λB=>?_)
    .rw[decide_eq_true B,if_pos rfl]at hD1;ext s;exact hD1 _ ⟨_,_,_,_,_,rfl⟩
    .rw[decide_eq_false B,if_neg (by decide)]at hD1;ext s;exact hD1 _ ⟨_,_,_,_,_,rfl⟩
  .rintro m u ⟨S,a8,X,x,v,rfl⟩;rw[bi,aau];ext s;rw[<-Vg t]at *;exact k
theorem yc(T:Bl K mg)(D:DefM K mg "_law_put" lJ ["_law_lines","_law_k","_law_more"]):FnM P w K mg base "_law_put" 1 3 pk:=by
 refine bf D yt rfl (nN:=3) rfl (by decide) ?ar λn A outer s H E f p=>⟨_,(aa (ag (af aE (af aE (cc di (mv' 0) cW (cu (mv' 1))) (ah (mc' (af aE (ae (mv' 0) (mv' 1)) (mv' 2)) mn'))) (cc di (mv' 0) (cu (af aE (mv' 1) mh')) cW)))),?_⟩
 case ar=>intro o m ⟨l,j,d,x,rfl,_⟩;rfl
 intro o m q ⟨l,j,d,x,rfl,c,i,g,k⟩;refine ap (MSt.mk [some (.imm (.tuple (natD l))),some (.imm (.int (j:Int))),some (.imm (.int d))] [] 0) rfl ?_;ext s;refine ba (bh (bt (getN rfl c))) ?_;ext s;rw[g,uq];refine ip (by rw[aae,aaw,bi];simp;omega) ?_;ext s;rw[show(j:Int)+1=((j+1:Nat):Int)from rfl,jc];refine ip (by rw[aae,aaj,aaw,aep,bi];simp;omega) ?_;ext s;have e:(natD l).take j++[.int (x:Int)]++(natD l).drop (j+1)=natD (l.set j x):=by
  rw[<-xy,ad5,if_pos (by rw[bi];exact c)];simp
 rw[e];exact k
theorem vj(T:Bl K mg)(D:DefM K mg "_law_step" jz ["_law_hall_here","_law_rule","_law_lines","_law_move"])(g:FnM P w K mg base "_law_sent" 2 4 Cc)(G:FnM P w K mg base "_law_put" 1 3 pk):FnM P w K mg base "_law_step" 4 4 GM:=by
 refine bf D b7 rfl (nN:=8) rfl (by decide) ?ar λcdv A outer s H E f p=>⟨_,(mz' (au 4 b7.nd ai)
   (mz' (aU (am (bF p.units) (ae (mv' 3) mh') ai (aB _)) (mz' (au 5 b7.nd (mf' g (p.mono (by decide)) (mc' (mv' 0) (mc' (mv' 1) (mc' (mv' 2) (mc' (ae (mv' 3) mh') mn'))))))
   (mz' (au 4 b7.nd (sF (am (bF p.units) (ae (mv' 2) (mv' 5)) (ae (ae (ae (mv' 0) mh') (mv' 5)) mh') (aB _)) ai ai))
   (aa (au 2 b7.nd (mf' G (p.mono (by decide)) (mc' (mv' 2) (mc' (mv' 5) (mc' (b5 jg (by rfl) T.int wG (mc' (df (bF p.units) (mv' 4) ai (aB _)) mn')) mn')))))))) (aa (aU (EW.pt (iW (am (bF p.units) (ae (mv' 3) mh') ai (aB _)) (h8 (am mQ (ae (mv' 2) (ae (mv' 3) mh')) mh' (aB _))))) (mz' (au 4 b7.nd ai)
   (aa (au 2 b7.nd (mf' G (p.mono (by decide)) (mc' (mv' 2) (mc' (ae (mv' 3) mh') (mc' (o4 jA mh') mn'))))))) aA)))
   (mz' (dH (EW.pt (iW (dh (ae (mv' 0) mh')) (iW (am (Pc p.units) mh' (mv' 2) (by with_unfolding_all rfl)) (h8 (am mQ (aC (fy rfl) (by rfl) T.max o7 (mc' (mv' 2) mn')) mh' (aB _)))))) (mz' (jF (i:=6) (j:=7) b7.nd rfl rfl (by decide) rfl rfl (mc' (vH acl acR (gH p.units) (mv' 2) (mc' (aC (fy rfl) (by rfl) T.max o7 (mc' (mv' 2) mn')) mn')) (mc' (vH acl acR (gH p.units) (mv' 2) (mc' mh' mn')) mn')) rfl)
   (aa (au 2 b7.nd (mf' G (p.mono (by decide)) (mc' (mf' G (p.mono (by decide)) (mc' (mv' 2) (mc' (mv' 6) (mc' (o4 jA mh') mn')))) (mc' (mv' 7) (mc' mh' mn'))))))) aaD)
   (aa (ag (ah (mc' (mv' 2) (mc' (mv' 4) mn')))))))),?_⟩
 case ar=>intro as Kc ⟨h,r,l,m,rfl,_⟩;rfl
 intro as Kc hl ⟨h,r,l,mv,rfl,Z,p,n1,L1,V,k⟩;have n4:=Z.n4;have ln1:=Z.n1;have l4:=L1.1;refine ap (MSt.mk [some (.imm h.d),some (.imm r.d),some (.imm (.tuple (natD l))),some (.imm mv.d),none,none,none,none] [] 0) rfl ?_;refine qO ?_;refine x_JS (λm=>m=MSt.mk [some (.imm h.d),some (.imm r.d),some (.imm (.tuple (natD l))),some (.imm mv.d),some (.imm (.str "none")),none,none,none] [] 0) (λN J=>?_) ?_
 .ext s;exact J _ rfl
 rintro _ rfl;ext n;refine qO ?_;refine x_JS (λm=>∃(C:List Nat) (w:Wd) (a5:Option L2.R),m=MSt.mk [some (.imm h.d),some (.imm r.d),some (.imm (.tuple (natD C))),some (.imm mv.d),some (.imm (.str w.s)),a5,none,none] [] 0/\C.length=l.length/\((ku h r l 0 mv).1,(ku h r l 0 mv).2.2)=(gi h C,w)) (λN J=>?_) ?_
 .cases mv with
  | come o=>
   have hj:=u5 Z p L1 V (t:=0) λz=>(n1 z).elim;have Sr:=Z.ok;let⟨s,S⟩:∃s,h.ss[sent h r l 0 o]?=some s:=⟨_,lD hj⟩;have rn:h.rn (sent h r l 0 o)=s.r:=by
    unfold Hall.rn Hall.rs;rw[aar,aah,S];rfl
   let⟨x,ex⟩:∃x,l[sent h r l 0 o]?=some x:=⟨_,lD (by omega)⟩;have F:l.getD (sent h r l 0 o) 0=x:=bO ex;dsimp only[Mv.d];ext d;refine⟨h,r,l,o,rfl,Z,p,n1,L1,V,?_⟩;ext x;refine x_J (λr' m=>r' = .imm (.str (c7 h l (sent h r l 0 o)).2.s)/\m=MSt.mk [some (.imm h.d),some (.imm r.d),some (.imm (.tuple (natD l))),some (.imm (.tuple [.str "come",lnD o])),some (.imm (.str "none")),some (.imm (.int (sent h r l 0 o:Nat))),none,none] [] 0) (λK' J'=>?_) ?_
   .refine uB ?_;ext x;refine ba (bh (bt ex)) ?_;ext s;refine ba (ds:=h.ss.map Srv.d) (d:=s.d) (bh (by rw[aah,S];rfl)) ?_;dsimp only[Srv.d];ext s;refine bg (λz=>?_) (λz=>?_)
    .ext s;exact J' _ _ ⟨by unfold c7;rw[F,rn,if_pos (by omega)];rfl,rfl⟩
    .ext s;exact J' _ _ ⟨by unfold c7;rw[F,rn,if_neg (by omega)];rfl,rfl⟩
   intro _ _ ⟨rfl,rfl⟩;ext n;refine ls ?_;ext x;have em:((ku h r l 0 (.come o)).1,(ku h r l 0 (.come o)).2.2)=(gi h (c7 h l (sent h r l 0 o)).1,(c7 h l (sent h r l 0 o)).2):=rfl;rw[em]at J
   by_cases z:x=s.r
   .have ec:c7 h l (sent h r l 0 o)=(l,.away):=by unfold c7;rw[F,rn,if_pos z]
    have el:l.set (sent h r l 0 o) x=l:=by
     apply ab5;intro i;rw[List.getElem?_set];split
     .rename_i q;rw[<-q,ex,if_pos (by omega)]
     .rfl
    rw[ec]at J⊢;refine⟨l,_,_,x,rfl,by omega,by omega,by rw[F,show(if decide (Wd.away.s = "taken")=true then(1:Int)else 0)=0 by decide +kernel];omega,?_⟩;rw[el];ext n;exact ls (J _ ⟨l,.away,_,rfl,rfl,rfl⟩)
   .have ec:c7 h l (sent h r l 0 o)=(l.set (sent h r l 0 o) (x+1),.taken):=by unfold c7;rw[F,rn,if_neg z]
    rw[ec]at J⊢;refine⟨l,_,_,x+1,rfl,by omega,by omega,by rw[F,show(if decide (Wd.taken.s = "taken")=true then(1:Int)else 0)=1 by decide +kernel];omega,?_⟩;ext n;exact ls (J _ ⟨_,.taken,_,rfl,by rw[abg],rfl⟩)
  |done j=>
   have hj:j<h.ss.length:=V;let⟨x,ex⟩:∃x,l[j]?=some x:=⟨_,lD (by omega)⟩;have F:l.getD j 0=x:=bO ex;dsimp only[Mv.d];ext s;rw[if_neg (hnc:=by decide +kernel)];ext d;refine ba (bh (bt ex)) ?_;ext s;refine bg (λz=>?_) (λz=>?_)
   .ext s;refine⟨l,j,-1,x-1,rfl,by omega,by omega,by omega,?_⟩;ext x;refine J _ ⟨l.set j (x-1),.served,none,rfl,by rw[abg],?_⟩;show(gi h (dF l j).1,(dF l j).2)=_;unfold dF;rw[F,if_neg (by omega)]
   .ext s;refine J _ ⟨l,.none,none,rfl,rfl,?_⟩;show(gi h (dF l j).1,(dF l j).2)=_;unfold dF;rw[F,if_pos (by omega)]
  |still=>
   dsimp only[Mv.d];ext s;rw[if_neg (hnc:=by decide +kernel)];ext s;rw[if_neg (hnc:=by decide +kernel)];ext s;exact J _ ⟨l,.none,none,rfl,rfl,rfl⟩
 intro _ ⟨C,w,a5,rfl,Y,ek⟩;have hne:C≠[]:=λz=>by rw[z]at Y;simp at Y;omega
 have hl4:C.length≤1000:=by omega
 ext n;refine qO ?_;refine iI (λn m=>∃(c:List Nat) (a6 a7:Option L2.R),m=MSt.mk [some (.imm h.d),some (.imm r.d),some (.imm (.tuple (natD c))),some (.imm mv.d),some (.imm (.str w.s)),a5,a6,a7] [] 0/\n=c.count 0/\dg h n c=gi h C/\c≠[]/\c.length≤1000) (C.count 0) ⟨C,none,none,rfl,rfl,rfl,hne,hl4⟩ ?_;intro n m hn ⟨c,a6,a7,rfl,rfl,hs,u,hl'⟩;have v:db (natD c)=some (c.map λ(x:Nat)=>(x:Int)):=by
  have:=dW (c.map λ(x:Nat)=>(x:Int));rwa[aa9]at this
 have Q:(c.map λ(x:Nat)=>(x:Int))≠[]:=λz=>u (agI.mp z);have I:∀x:Int,x∈(c.map λ(x:Nat)=>(x:Int))->(∀y∈(c.map λ(x:Nat)=>(x:Int)),y≤x)->x=(maxN c:Int):=λx R B=>by
  let⟨n,hn,rfl⟩:=aap.mp R;have h1:=vg n hn;have h2:=B (maxN c:Int) (aap.mpr ⟨maxN c,iY u,rfl⟩);omega
 have done:dN h c=none->Kc (.imm (lwD (c,w))) []:=λe=>by
  rw[kh e]at hs;rw[ek,<-hs]at k;exact k
 have hin:(natD c).any (λx=>aag x (.int 0))=decide (0∈c):=by
  rw[abF,aeu,decide_eq_true_iff];constructor
  .rintro⟨x,R,ex⟩;let⟨w,hw,e0⟩:=aap.mp R;rw[<-e0,show(abU 0)=abU ((0:Nat):Int)from rfl,cq]at ex;rw[<-of_decide_eq_true ex];exact hw
  .intro V;exact⟨_,aap.mpr ⟨0,V,rfl⟩,by decide⟩
 ext s
 cases hmv:h.mv with
 |false=>
  ext s;exact done (if_neg (by rw[hmv];exact λz=>by cases z.1))
 | true=>
  ext s;refine x_in (d:=.int 0) (ds:=natD c) rfl (.inr rfl) (ci 0) (bV c) (by decide) ?_;rw[hin]
  by_cases X:0∈c
  .rw[decide_eq_true X,show(if false=true then !true else true)=true from rfl];ext s;refine rE rfl v Q λx R B=>?_;rw[I x R B];ext s;refine bg (λz=>?_) (λz=>?_)
   .have e:dN h c=some (idx c (maxN c),idx c 0):=if_pos ⟨hmv,X,by omega⟩;let⟨S,W,l2,hc,O⟩:=jS e;let⟨m0,m1,m2,m3,m4⟩:=gQ e;dsimp only at S W l2 m1 m3 m4;have s1:=ie (iY u);have s0:=ie X;have g1:c.getD (idx c (maxN c)) 0=maxN c:=bO m1;have n0:(c.set (idx c (maxN c)) (maxN c-1))[idx c 0]?=some 0:=by rw[aaP m4];exact m3
    have g2:(c.set (idx c (maxN c)) (maxN c-1)).getD (idx c 0) 0=0:=bO n0;ext s;refine rE rfl v Q λx R B=>?_;rw[I x R B];ext s;refine kQ (j:=idx c (maxN c)) (k':=0) (ci _) (bV c) (by decide) (bt s1.1) (by rw[cq];exact decide_eq_true rfl) (λi y hi B=>?_) ?_
    .obtain⟨z,ez,rfl,_⟩:=gmap B;rw[cq];exact decide_eq_false (s1.2 i z hi ez)
    ext s;refine kQ (j:=idx c 0) (k':=0) (ci _) (bV c) (by decide) (bt s0.1) (cq 0 0) (λi y hi B=>?_) ?_
    .obtain⟨z',ez,rfl,_⟩:=gmap B;have:=cq z' 0;rw[show((0:Nat):Int)=0 from rfl]at this;rw[this];exact decide_eq_false (s0.2 i z' hi ez)
    ext s;refine⟨c,idx c (maxN c),-1,maxN c-1,rfl,W,hl',by omega,?_⟩;generalize hl2:c.set (idx c (maxN c)) (maxN c-1)=U at *;ext n;dsimp only[lnD];ext s;have hl3:U.length=c.length:=by rw[<-hl2,abg]
    refine⟨U,idx c 0,1,1,rfl,by omega,by omega,by omega,?_⟩;rw[<-S];ext x;have hne2:cI c (idx c (maxN c),idx c 0)≠[]:=λz=>by
     rw[z]at O;exact u (aa6 O.symm)
    refine⟨(cI c (idx c (maxN c),idx c 0)).count 0,by omega,cI c (idx c (maxN c),idx c 0),_,_,rfl,rfl,?_,hne2,by omega⟩;rw[<-hs,<-hc];show _=dg h ((cI c (idx c (maxN c),idx c 0)).count 0+1) c;simp only[dg,e]
   .ext s;exact done (if_neg λq=>by have:=q.2.2;omega)
  .rw[decide_eq_false X,show(if false=true then !false else false)=false from rfl];ext s;exact done (if_neg λq=>X q.2.1)
theorem vy(T:Bl K mg)(D:DefM K mg "_law_kept" ii ["_law_hall_here","_law_lines"]):FnM P w K mg base "_law_kept" 1 2 qo:=by
 refine bf D k8 rfl (nN:=3) rfl (by decide) ?ar λJ A outer s H E f t=>⟨_,(mz' (au 2 k8.nd (df (bF t.units) (bo (own:=["_law_server"]) (fr:=["_law_hall_here"]) (ps:=[0]) (sc:=(ab ii)) (by exact⟨rfl,by decide +kernel,by decide +kernel,by decide +kernel,by decide +kernel⟩) (aY (ae (mv' 0) mh')) (λ_ _ _ _ _=>(ak 0 (show aaM ((["_law_server"]:List Str)++(["_law_hall_here"]:List Str))from by decide +kernel))) (λ_ _ _ _ _=>(jq (am (gA t.units) (mv' 0) (ae (ae (mv' 1) mh') mh') (aB _)))) (λ_ _ _ _ _=>(mv' 0))) (bJ mn') (aB _)))
   (aa (ag (sF (dh (mv' 2)) (b5 cP (by rfl) T.tuple eF (mc' (oZ nU (by rfl) T.sorted lm (mc' (mv' 1) mn')) mn')) (mv' 1))))),?_⟩
 case ar=>intro N C ⟨h,l,rfl,_⟩;rfl
 intro N C R ⟨h,l,rfl,u,z,k⟩;have n4:=u.n4;refine ap (MSt.mk [some (.imm h.d),some (.imm (.tuple (natD l))),none] [] 0) rfl ?_;ext s;have key:∀d0:aD,(h.ss.map Srv.d).getD 0 .none=d0->(aag (.list ((h.ss.map Srv.d).filter λd=>!aag d d0)) (.list []))=alk h:=λd0 n=>by
  unfold alk;rw[n];generalize h.ss.map Srv.d=L
  induction L with
  |nil=>rfl
  |cons x L v=>
   rw[acy,ab0]
   cases aag x d0 with
   |true=>simpa using v
   |false=>rfl
 let⟨c,ss,p⟩:∃c ss,h.ss=c::ss:=by
  cases e:h.ss with
  |nil=>have:=u.n1;rw[e]at this;exact absurd this (by decide)
  |cons a b=>exact⟨a,b,rfl⟩
 have n:(h.ss.map Srv.d).getD 0 .none=c.d:=by rw[p];rfl
 have o:∀s:Srv,Shp 2 s.d:=λs=>bc (k:=1) λd hd=>by
  simp only[aaf,abd,or_false]at hd;rcases hd with rfl|rfl
  .exact bc (k:=0) λd hd=>by
    simp only[aaf,abd,or_false]at hd;rcases hd with rfl|rfl<;>exact ci _
  .exact(ci _).mono (by decide)
 refine bx (λi m=>∃a:Option L2.R,m=MSt.mk [a,some (.imm h.d)] [((h.ss.map Srv.d).take i).filter λd=>!aag d c.d] 1) ⟨none,rfl⟩ ?_ ?_
 .rintro i d m e g ⟨a,rfl⟩ D1 hD1 hR1;let⟨s,O,rfl,Q⟩:=gmap e;rw[aaR,e,afd]at hD1;have B:=abn (λd=>!aag d c.d) ((h.ss.map Srv.d).take i);rw[aaw,iO]at B;ext s;refine ba (ds:=h.ss.map Srv.d) (d:=c.d) (bh (j:=0) (by rw[p];rfl)) ?_;ext s;refine x_ne (d1:=s.d) (d2:=c.d) rfl rfl ((o s).ok (by decide)) ((o c).ok (by decide)) ?_;ext s
  cases ec:aag s.d c.d with
  |true=>
   refine ji ?_;ext s;refine hD1 _ ⟨some (.imm s.d),?_⟩;rw[show((some s.d).toList.filter λd=>!aag d c.d)=[] by show [s.d].filter _=[];rw[acy,ec];rfl,aaN];rfl
  |false=>
   refine jb ?_;ext s;refine⟨_,rfl,by rw[aae];omega,hD1 _ ⟨some (.imm s.d),?_⟩⟩;rw[show((some s.d).toList.filter λd=>!aag d c.d)=[s.d] by show [s.d].filter _=_;rw[acy,ec];rfl];rfl
 intro m g ⟨a,rfl⟩;rw[aau];ext x;have F:Shp 3 (.list ((h.ss.map Srv.d).filter λd=>!aag d c.d)):=vE λd hd=>by
  let⟨s,_,rfl⟩:=aap.mp (adT.mp hd).1;exact o s
 refine x_eq (d1:=.list ((h.ss.map Srv.d).filter λd=>!aag d c.d)) (d2:=.list []) rfl rfl (F.ok (by decide)) (by decide +kernel) ?_;rw[key _ n];ext s;unfold cA at k;refine uB ?_;ext s
 cases q:alk h with
 |true=>
  rw[q,if_pos rfl]at k;ext s;refine BW (ds:=natD l) rfl (gI l) (by rw[iO];omega) λG I y=>?_;have e:=wQ I y;subst e;rw[<-t7];ext s;exact k
 |false=>
  rw[q,if_neg aam]at k;ext s;exact k
theorem rF(T:Bl K mg)(D:DefM K mg "_law_moves" da ["_law_hall_here"]):FnM P w K mg base "_law_moves" 1 1 qr:=by
 refine bf D cr rfl (nN:=6) rfl (by decide) ?ar λcdv A outer s H E f hr=>⟨_,(mz' (au 1 cr.nd (bJ (mc' (ah mn') mn')))
   (mz' (b6 (aY (ae (mv' 0) mh')) (ak 2 cr.nd) (mz' (au 3 cr.nd (bJ mn'))
   (mz' (b6 (aY (mv' 1)) (jd (i:=4) cr.nd rfl (adq rfl)) (aa (cU (jo adQ adR jP (mv' 3) (mc' (bo (own:=["_law_k"]) (fr:=["_law_order"]) (ps:=[4]) (sc:=(ab da)) (by exact⟨rfl,by decide +kernel,by decide +kernel,by decide +kernel,by decide +kernel⟩) (cg (by rfl) T.range (mc' (aC ca (by rfl) T.len d6 (mc' (ae (mv' 0) mh') mn')) mn')) (λ_ _ _ _ _=>(ak 0 (show aaM ((["_law_k"]:List Str)++(["_law_order"]:List Str))from by decide +kernel))) (λ_ _ _ _ _=>(jq (am (jj hr.units) (mv' 0) (mv' 1) (by with_unfolding_all rfl)))) (λ_ _ _ _ _=>(af aE (mv' 1) (ah (mc' (mv' 0) mn'))))) mn')))) aaD)
   (aa (au 1 cr.nd (mv' 3))))) aaD)
   (mz' (au 5 cr.nd (af aE (bo (own:=["_law_order"]) (fr:=[]) (ps:=[]) (sc:=(ab da)) (by exact⟨rfl,by decide +kernel,by decide +kernel,by decide +kernel,by decide +kernel⟩) (aY (mv' 1)) (λ_ _ _ _ _=>(ak 0 (show aaM ((["_law_order"]:List Str)++([]:List Str))from by decide +kernel))) (λ_ _ _ _ _=>bv) (λ_ _ _ _ _=>(ah (mc' ai (mc' (mv' 0) mn'))))) (bo (own:=["_law_k"]) (fr:=[]) (ps:=[]) (sc:=(ab da)) (by exact⟨rfl,by decide +kernel,by decide +kernel,by decide +kernel,by decide +kernel⟩) (cg (by rfl) T.range (mc' (aC ca (by rfl) T.len d6 (mc' (ae (mv' 0) mh') mn')) mn')) (λ_ _ _ _ _=>(ak 0 (show aaM ((["_law_k"]:List Str)++([]:List Str))from by decide +kernel))) (λ_ _ _ _ _=>bv) (λ_ _ _ _ _=>(ah (mc' ai (mc' (mv' 0) mn')))))))
   (aa (ag (af aE (mv' 5) (bJ (mc' (ah (mc' ai mn')) mn')))))))),?_⟩
 case ar=>intro as Z ⟨h,rfl,_⟩;rfl
 intro as Z hl ⟨h,rfl,Q,k⟩;have n1:=Q.n1;have n4:=Q.n4;have no:(ordK h.ss.length h.ss.length).length≤24:=(g9 _ n4 _ n4).1;refine ap (MSt.mk [some (.imm h.d),none,none,none,none,none] [] 0) rfl ?_;ext c;refine bx (λi m=>∃a c:Option L2.R,m=MSt.mk [some (.imm h.d),some (.obj 0),a,none,c,none] [(ordK h.ss.length i).map lnD] 0) ⟨none,none,rfl⟩ ?_ ?_
 .rintro i d m e n ⟨a,c,rfl⟩ D1 hD1 hR1;let⟨s,X,rfl,O⟩:=gmap e;have hi':=(Ad.mp X).1;let⟨hk1,B⟩:=g9 h.ss.length n4 i (by omega);have v:=ik h.ss.length n4 i (by omega);rw[show ordK h.ss.length (i+1)=gh h.ss.length (ordK h.ss.length i)from rfl]at hD1;generalize ordK h.ss.length i=os at *;ext c;refine jM (λz m=>∃b:Option L2.R,m=MSt.mk [some (.imm h.d),some (.obj 0),some (.imm s.d),some (.obj 1),b,none] [os.map lnD,(gh h.ss.length (os.take z)).map lnD] 1) ⟨c,rfl⟩ ?_ ?_ ?_
  .rintro z m ⟨b,rfl⟩;rfl
  .rintro z d m ez nz ⟨b,rfl⟩;let⟨l,F,rfl,hz⟩:=gmap ez;let⟨V,hl3⟩:=B l (GT F);have S:=(Ad.mp F).1;have J:=v z (by omega);ext s;rw[iO];refine⟨by omega,by omega,?_⟩;rw[aa8];let⟨G,p⟩:∃G:Nat->List (List Nat),G=λy=>((aaz y).filter λq=>!l.contains q).map λq=>l++[q]:=⟨_,rfl⟩;have u:gh h.ss.length (os.take z)++G h.ss.length=gh h.ss.length (os.take (z+1)):=by rw[p,pp F]
   have C:G 0=[]:=by rw[p];rfl
   have t:∀y,G (y+1)=G y++([y].filter λq=>!l.contains q).map λq=>l++[q]:=λy=>by
    rw[p];show((aaz (y+1)).filter _).map _=_;rw[aca,afd,aaq]
   have j:∀y,y≤4->(G y).length≤4:=λy U=>by
    rw[p];dsimp only;rw[iO];have:=abn (λq=>!l.contains q) (aaz y);rw[aaV]at this;omega
   clear p;ext n;refine bx (λy m=>∃c:Option L2.R,m=MSt.mk [c,some (.imm (lnD l))] [os.map lnD,(gh h.ss.length (os.take z)).map lnD,(G y).map lnD] 3) ⟨none,by rw[C];rfl⟩ ?_ ?_
   .rintro y d m ey ny ⟨c,rfl⟩ D2 hD2 hR2;let⟨U,rfl⟩:=c6 ey;rw[show(0:Int)+(y:Int)=((y:Nat):Int) by omega];have N:=j y (by omega);have I:(natD l).any (λx=>aag x (.int (y:Int)))=l.contains y:=by
     rw[abF,aeu,agn];constructor
     .rintro⟨x,hx,ex⟩;let⟨w,Y,W⟩:=aap.mp hx;rw[<-W,cq]at ex;rw[<-of_decide_eq_true ex];exact Y
     .intro hm;exact⟨_,aap.mpr ⟨y,hm,rfl⟩,by rw[cq];exact decide_eq_true rfl⟩
    ext s;refine x_in (d:=.int (y:Int)) (ds:=natD l) rfl (.inr rfl) (ci _) (bV l) (by decide) ?_;ext s;rw[I]
    cases hc:l.contains y with
    |true=>
     refine ji ?_;ext s;refine hD2 _ ⟨some (.imm (.int (y:Int))),?_⟩;rw[t,show([y].filter λq=>!l.contains q)=[] by rw[acy,hc];rfl,ac5,aaN];rfl
    |false=>
     refine jb ?_;ext s;refine ip (by rw[aae,bi];simp;omega) ?_;ext s;refine⟨_,rfl,by rw[aae,iO];omega,hD2 _ ⟨some (.imm (.int (y:Int))),?_⟩⟩;rw[t,show([y].filter λq=>!l.contains q)=[y] by rw[acy,hc];rfl,aaq];simp[lnD,natD,MSt.setV]
   .rintro m ny ⟨c,rfl⟩;rw[aV];have hg:=j h.ss.length n4;ext s;refine' qF (ds:=(gh h.ss.length (os.take z)).map lnD) ?eb (by rw[aae,iO];show _+((G h.ss.length).map lnD).length≤_;rw[iO];omega) ?_
    case eb=>rfl
    rw[<-u,aaq];exact⟨_,rfl⟩
  .rintro m nz ⟨b,rfl⟩;rw[iO,aau];ext n;refine Js ?_;refine yz rfl ?_;exact mz [1] (MSt.mk [some (.imm h.d),some (.obj 0),some (.imm s.d),none,none,none] [(gh h.ss.length os).map lnD] 0) (zF rfl rfl rfl rfl rfl rfl ⟨rfl,⟨1,rfl,rfl⟩,rfl,trivial,trivial,trivial,trivial⟩) (hD1 _ ⟨_,_,rfl⟩)
 intro m n ⟨a,c,rfl⟩;rw[iO];ext x;refine jM (λi m=>∃a:Option L2.R,m=MSt.mk [a] [(ordK h.ss.length h.ss.length).map lnD,((ordK h.ss.length h.ss.length).take i).map λo=>(Mv.come o).d] 2) ⟨none,rfl⟩ ?_ ?_ ?_
 .rintro i m ⟨a,rfl⟩;rfl
 .rintro i d m e g ⟨a,rfl⟩;let⟨o,eo,rfl,O⟩:=gmap e;ext s;refine⟨_,rfl,by rw[aae,iO,aaw];omega,some (.imm (lnD o)),?_⟩;rw[aaR,eo,aaq];rfl
 intro m g ⟨a',rfl⟩;rw[iO,aau];ext x;refine⟨by rw[iO];omega,by rw[iO];omega,?_⟩;rw[iO,aa8];refine bx (λi m=>∃a:Option L2.R,m=MSt.mk [a] [(ordK h.ss.length h.ss.length).map lnD,(aaz i).map λk=>(Mv.done k).d] 2) ⟨none,rfl⟩ ?_ ?_
 .rintro i d m e g ⟨a,rfl⟩ D1 hD1 hR1;let⟨O,rfl⟩:=c6 e;ext s;refine⟨_,rfl,by rw[aae,iO,aaV];omega,hD1 _ ⟨some (.imm (.int (0+(i:Int)))),?_⟩⟩;rw[aca,aaq,show(0:Int)+(i:Int)=((i:Nat):Int) by omega];rfl
 intro m g ⟨R,rfl⟩;rw[aV];ext x;refine zo (a:=(ordK h.ss.length h.ss.length).map λo=>(Mv.come o).d) (b:=(aaz h.ss.length).map λk=>(Mv.done k).d) (by rw[iO,iO,aaV,aae];omega) ?_;ext c;refine Jj (k:=1) (a:=(ordK h.ss.length h.ss.length).map (λo=>(Mv.come o).d)++(aaz h.ss.length).map λk=>(Mv.done k).d) rfl (by rw[aaj,iO,iO,aaV,aae];simp;omega) ?_;rw[Qg]at k;ext s;exact k
theorem uH(T:Bl K mg)(D:DefM K mg "_law_both" jy ["_law_hall_here","_law_one","_law_other","_law_triple","_law_move"])(G:FnM P w K mg base "_law_step" 4 4 GM)(c:FnM P w K mg base "_law_kept" 1 2 qo):FnM P w K mg base "_law_both" 5 5 Ii:=by
 refine bf D dU rfl (nN:=9) rfl (by decide) ?ar λv A outer s H E f g=>⟨_,(mz' (cB (mf' G (g.mono (by decide)) (mc' (mv' 0) (mc' (mv' 1) (mc' (ae (mv' 3) mh') (mc' (mv' 4) mn'))))) (bj (n:=2) (ac (ak 5 dU.nd) (ac (ak 6 dU.nd) aM))))
   (mz' (cB (mf' G (g.mono (by decide)) (mc' (mv' 0) (mc' (mv' 2) (mc' (ae (mv' 3) mh') (mc' (mv' 4) mn'))))) (bj (n:=2) (ac (ak 7 dU.nd) (ac (ak 8 dU.nd) aM))))
   (aa (ag (ah (mc' (mf' c (g.mono (by decide)) (mc' (mv' 0) (mc' (mv' 5) mn'))) (mc' (mf' c (g.mono (by decide)) (mc' (mv' 0) (mc' (mv' 7) mn'))) (mc' (af y3 (af aE (ae (mv' 3) mh') (b5 jg (by rfl) T.int wG (mc' (df (bF g.units) (mv' 8) ai (aB _)) mn'))) (b5 jg (by rfl) T.int wG (mc' (df (bF g.units) (mv' 6) ai (aB _)) mn'))) mn')))))))),?_⟩
 case ar=>intro y B ⟨h,r1,q,t,m,rfl,_⟩;rfl
 intro y B C ⟨h,r1,q,t,m,rfl,d,i,o,n1,n2,u,j,p,k⟩;have n4:=d.n4;have x:=jh d i (t:=0) ⟨u,λz=>(n1 z).elim,by decide⟩ p;have S:=jh d o (t:=0) ⟨j,λz=>(n2 z).elim,by decide⟩ p;refine ap (MSt.mk [some (.imm h.d),some (.imm r1.d),some (.imm q.d),some (.imm (.tuple [lnD t.1,lnD t.2.1,.int t.2.2])),some (.imm m.d),none,none,none,none] [] 0) rfl ?_;ext s;refine⟨h,r1,t.1,m,rfl,d,i,n1,u,p,?_⟩;ext n;unfold lwD;ext s
 .rfl
 ext s;refine⟨h,q,t.2.1,m,rfl,d,o,n2,j,p,?_⟩;ext n;unfold lwD;ext s
 .rfl
 ext s;refine⟨h,_,rfl,d,by have:=x.ln.1;omega,?_⟩;ext x;refine⟨h,_,rfl,d,by have:=S.ln.1;omega,?_⟩;ext x;have e:∀w:Wd,(if decide (w.s = "away")=true then(1:Int)else 0)=aw w:=λw=>by cases w<;>decide +kernel
 rw[e,e];exact k
def q9(T:Bl K mg)(D:DefM K mg "_law_is_bad" gn ["_law_triple"]):FnM P w K mg base "_law_is_bad" 1 1 Ci:=by
 refine bf D qf rfl (nN:=1) rfl (by decide) ?ar λc A outer s H E f i=>⟨_,(aa (ag (Tz (df gC (ae (mv' 0) mh') mh' (aB _)) (Kg (df mQ (aC (gY rfl) (by rfl) T.sum rJ (mc' (ae (mv' 0) mh') mn')) (af aE (aC (gY rfl) (by rfl) T.sum rJ (mc' (ae (mv' 0) mh') mn')) (ae (mv' 0) mh')) (aB _)))))),?_⟩
 case ar=>intro d e ⟨t,rfl,_⟩;rfl
 intro d e g ⟨t,rfl,k⟩;refine ap (MSt.mk [some (.imm (.tuple [lnD t.1,lnD t.2.1,.int t.2.2]))] [] 0) rfl ?_;ext s;unfold bad at k;refine bg (λz=>?_) (λz=>?_)
 .rw[decide_eq_true z,Bool.true_or]at k;ext s;exact k
 .rw[decide_eq_false z,Bool.false_or]at k;ext s;refine wx rfl (gI t.1) ?_;rw[lq];ext s;refine wx rfl (gI t.2.1) ?_;rw[lq];ext s;exact k
theorem qu(T:Bl K mg)(D:DefM K mg "_law_search" gg ["_law_hall_here","_law_one","_law_other","_law_most"])(k:FnM P w K mg base "_law_moves" 1 1 qr)(o:FnM P w K mg base "_law_both" 5 5 Ii)(G:FnM P w K mg base "_law_is_bad" 1 1 Ci):FnM P w K mg base "_law_search" 6 4 qR:=by
 refine bf D aK rfl (nN:=14) rfl (by decide) ?ar λcdv A outer s H E f Q=>⟨_,(mz' (au 4 aK.nd (af bM (ah (mc' mh' mn')) (aC ca (by rfl) T.len d6 (mc' (ae (mv' 0) mh') mn'))))
   (mz' (au 5 aK.nd (Gi Q.units (ah (mc' (mv' 4) (mc' (mv' 4) mn'))) mh'))
   (mz' (au 6 aK.nd (bJ (mc' (ah (mc' (mv' 4) (mc' (mv' 4) (mc' mh' mn')))) mn')))
   (mz' (au 7 aK.nd mh')
   (mz' (dH (EW.pt (iW (am (gA Q.units) (mv' 6) (bJ mn') (aB _)) (h8 (am IM (aC pP (by rfl) T.len d6 (mc' (mv' 5) mn')) (mv' 3) (aB _))))) (mz' (au 7 aK.nd (af aE (mv' 7) mh'))
   (mz' (au 8 aK.nd (bJ mn'))
   (mz' (b6 (aY (mv' 6)) (ak 9 aK.nd) (aa (b6 (aY (cE (mf' k (Q.mono (by decide)) (mc' (mv' 0) mn')))) (ak 10 aK.nd) (mz' (cB (mf' o (Q.mono (by decide)) (mc' (mv' 0) (mc' (mv' 1) (mc' (mv' 2) (mc' (mv' 9) (mc' (mv' 10) mn')))))) (bj (n:=3) (ac (ak 11 aK.nd) (ac (ak 12 aK.nd) (ac (ak 13 aK.nd) aM)))))
   (mz' (aU (dh (mf' G (Q.mono (by decide)) (mc' (ah (mc' (mv' 11) (mc' (mv' 12) (mc' (mv' 13) mn')))) mn'))) (aa (ag (ah (mc' ai (mc' (mv' 7) mn'))))) aA)
   (aa (aU (am gC (mv' 13) (B9 Q.units (mv' 5) (mc' (ah (mc' (mv' 11) (mc' (mv' 12) mn'))) (mc' (af aE (mv' 13) mh') mn'))) (aB _)) (mz' (mi Q.units (mv' 13) (mv' 5) (ah (mc' (mv' 11) (mc' (mv' 12) mn'))))
   (aa (cU (jo acm acn jG (mv' 8) (mc' (ah (mc' (mv' 11) (mc' (mv' 12) (mc' (mv' 13) mn')))) mn'))))) aA)))) aaD)) aaD)
   (aa (au 6 aK.nd (mv' 8)))))) aaD)
   (aa (MX (ag (sF (am IM (aC pP (by rfl) T.len d6 (mc' (mv' 5) mn')) (mv' 3) (aB _)) (ah (mc' ai (mc' (mv' 5) mn'))) e9))))))))),?_⟩
 case ar=>intro as Kc ⟨h,r1,g,mo,rfl,_⟩;rfl
 intro as Kc hl ⟨h,r1,g,mo,rfl,y,h12,U,S,n1,n2,hmo,k1,k2,k3⟩;have n4:=y.n4;have lz:=(gZ y r1).ln;refine ap (MSt.mk [some (.imm h.d),some (.imm r1.d),some (.imm g.d),some (.imm (.int (mo:Int))),none,none,none,none,none,none,none,none,none,none] [] 0) rfl ?_;ext s;rw[iO];refine Ay (by omega) (by omega) (by simp;omega) ?_;rw[show(abQ (aal (h.ss.length:Int).toNat [abU 0]).flatten)=lnD (zer h) by
  rw[aa8,Dw];exact congrArg _ (FZ _ 0)]
 ext x;refine⟨Gg (p:=(zer h,zer h)) y lz lz,?_⟩;refine qW ?_;ext x;refine cF ?_;ext x;have D0:DkOk h [((zer h,zer h),0)]:=⟨acr _ _,λp v=>by rw[aab.mp v];exact⟨lz,lz⟩,λp v=>by rw[aab.mp v];exact aeF _,λp v=>by rw[aab.mp v];exact⟨fz,fz⟩⟩;refine iI (λn m=>∃(L:List (Pk×Int)) (ln:List Tr) (M:Nat) (q:Nat),m=MSt.mk [some (.imm h.d),some (.imm r1.d),some (.imm g.d),some (.imm (.int (mo:Int))),some (.imm (lnD (zer h))),some (.at 0 []),some (.obj 1),some (.imm (.int (q:Int))),none,none,none,none,none,none] [[.dict (lfKV (ldD L))],ln.map trD] 0/\DkOk h L/\(∀p∈L,p.2≤(M:Int))/\M≤L.length/\(∀t∈ln,RcT h r1 g t/\0≤t.2.2/\t.2.2≤(M:Int))/\n=mea h M L ln.isEmpty/\Lv h r1 g q L ln) _ ⟨[((zer h,zer h),0)],[(zer h,zer h,0)],0,0,rfl,D0,(λp v=>by rw[aab.mp v];exact aeF _),abm _,(λt ht=>by rw[aab.mp ht];exact⟨.here,aeF _,aeF _⟩),rfl,Lv.zero⟩ ?_;intro n m X ⟨L,ln,M,q,rfl,D,V,hM,hln,hn,LV⟩;have C:kyA (ldD L)=true:=E8 y D.ln;ext s;refine x_ne (d1:=.list (ln.map trD)) (d2:=.list []) rfl rfl (NR ln) (by decide +kernel) ?_;rw[Ki]
 cases hE:ln.isEmpty with
 |true=>
  ext s;rw[if_neg (show ¬(!true)=true from aam)];ext s;ext n;refine Ua 0 5 (ldD L) [] (MSt.mk [some (.imm h.d),some (.imm r1.d),some (.imm g.d),some (.imm (.int (mo:Int))),none,some (.imm (.dict (ldD L))),none,none,none,none,none,none,none,none] [] 0) rfl rfl C (LJ rfl rfl rfl rfl rfl rfl rfl rfl ⟨.inl rfl,.inl rfl,.inl rfl,.inl rfl,.inl trivial,.inr ⟨rfl,.inr rfl⟩,.inl trivial,.inl trivial,.inl trivial,.inl trivial,.inl trivial,.inl trivial,.inl trivial,.inl trivial,trivial⟩) ?_;ext s;refine uB ?_;ext s;refine Bz (kvs:=ldD L) (show _=_ from rfl) (by rw[C,aej]) ?_;ext s;refine bg (λO=>?_) (λO=>?_)
  .have en:ln=[]:=ahl.mp hE;subst en;ext s;exact k2 _ LV.sound
  .ext s;exact k3 ⟨L,D,by unfold ldD at O;rw[iO]at O;omega⟩
 | false=>
  ext s;rw[if_pos (show(!false)=true by rfl)];ext s;refine Bz (kvs:=ldD L) (show _/\_ from⟨rfl,rfl⟩) (by rw[C,aej]) ?_;ext s;refine bg (λz=>?_) (λz=>?_)
  .ext c;have T0:TnOk h (RcT h r1 g) M L L []:=TnOk.zero D V;refine uG (λi m=>∃(a b c d e:Option L2.R) (L':List (Pk×Int)) (F:List Tr),m=MSt.mk [some (.imm h.d),some (.imm r1.d),some (.imm g.d),some (.imm (.int (mo:Int))),some (.imm (lnD (zer h))),some (.at 0 []),some (.obj 1),some (.imm (.int ((q:Int)+1))),some (.obj 2),a,b,c,d,e] [[.dict (lfKV (ldD L'))],ln.map trD,F.map trD] 2/\TnOk h (RcT h r1 g) M L L' F/\Lw h r1 g q L ln L' F i 0) ⟨none,none,none,none,none,L,[],rfl,T0,.zero LV D⟩ ?_ ?_ ?_
   .rintro i m ⟨a,b,c,d,e,L',F,rfl,_⟩;rfl
   .rintro i d m ei X ⟨a,b,c,d,e,L1,F1,rfl,T1,W1⟩ D1 hD1 hR1;let⟨t,et,rfl,hi⟩:=gmap ei;let⟨Rt,t0,tM⟩:=hln t (GT et);have Lt:=je y U S n1 n2 Rt;ext s;refine⟨h,rfl,y,?_⟩;ext x;refine bx (λi' m=>∃(b c d e:Option L2.R) (L':List (Pk×Int)) (F:List Tr),m=MSt.mk [some (.imm h.d),some (.imm r1.d),some (.imm g.d),some (.imm (.int (mo:Int))),some (.imm (lnD (zer h))),some (.at 0 []),some (.obj 1),some (.imm (.int ((q:Int)+1))),some (.obj 2),some (.imm (trD t)),b,c,d,e] [[.dict (lfKV (ldD L'))],ln.map trD,F.map trD] 2/\TnOk h (RcT h r1 g) M L L' F/\Lw h r1 g q L ln L' F i i') ⟨b,c,d,e,L1,F1,rfl,T1,W1⟩ ?_ ?_
    .clear T1 hD1 W1;intro j x m ej Z ⟨b,c,d,e,J,F2,rfl,N,W2⟩ D2 Y hR2;let⟨mv,em,rfl,hi'⟩:=gmap ej;have mm:=GT em;have om:=zq y mv mm;ext s;refine⟨h,r1,g,t,mv,rfl,y,U,S,n1,n2,Lt.1,Lt.2,om,?_⟩;have RB:=RcT.next Rt mm;have LB:=je y U S n1 n2 RB;have vB:(bth h r1 g t mv).2.2≤(M:Int)+1:=aei GH (by omega);have kB:cA h (bth h r1 g t mv).1=(bth h r1 g t mv).1/\cA h (bth h r1 g t mv).2.1=(bth h r1 g t mv).2.1:=⟨jl h _,jl h _⟩;have st:=λL' F'=>W2.step (L':=L') (F':=F') et em;have bd:=W2.bad et mm;generalize bth h r1 g t mv=B at *;rw[show trD B = .tuple [lnD B.1,lnD B.2.1,.int B.2.2]from rfl];ext x
     .rfl
     ext s;refine⟨B,rfl,?_⟩;have I:kyA (ldD J)=true:=E8 y N.dk.ln;have kt:kyD (pkD (B.1,B.2.1))=true:=Gg y LB.1 LB.2
     cases hb:bad B with
     |true=>
      ext x;exact hR2 _ _ (hR1 _ _ (k1 _ (bd hb).1 (bd hb).2))
     | false=>
      ext x;refine⟨ldD J,⟨rfl,rfl⟩,.inr I,?_⟩;ext s;refine⟨ldD J,pkD (B.1,B.2.1),.int (B.2.2+1),rfl,(show _/\_ from⟨rfl,rfl⟩),by unfold oneK;rw[I,show kyD (pkD (B.1,B.2.1))=true from kt,ade,aej],?_⟩;rw[DB,show((lkL (B.1,B.2.1) J).map abU).getD (.int (B.2.2+1)) = .int ((lkL (B.1,B.2.1) J).getD (B.2.2+1)) by cases lkL (B.1,B.2.1) J<;>rfl];ext s;refine bg (λR=>?_) (λR=>?_)
      .have T3:=N.put LB.1 LB.2 kB RB (Iz hb) vB R;have p1:=QI D V h12 (by unfold ldD at z;rw[iO]at z;omega) hM;have p2:=N.pt;have p3:=N.dk.len;have p4:nP h≤4096:=MF h12;ext s;refine⟨_,ldD J,rfl,rfl,rfl,I,kt,by unfold ldD;rw[iO,aae];omega,?_⟩;rw[show abQ [lnD B.1,lnD B.2.1]=pkD (B.1,B.2.1)from rfl,Bh];ext x;refine' kO (ds:=F2.map trD) ?eb (by rw[aae,iO];omega) ?_
       case eb=>rfl
       ext n;rw[show F2.map trD++[abQ [lnD B.1,lnD B.2.1,.int B.2.2]]=(F2++[B]).map trD by rw[aaq];rfl];exact Y _ ⟨_,_,_,_,_,_,rfl,T3,st _ _ hb T3.dk (λu z=>z.set N.dk R) ⟨_,kM _,.refl _⟩ (λp v=>(fV v).elim (λz=>.inr (by rw[z];exact aaI _ aaa)) .inl) (λu W=>abB _ W) λu W=>(aaT.mp W).imp id aab.mp⟩
      .ext s;refine Y _ ⟨_,_,_,_,_,_,rfl,N,st _ _ hb N.dk (λu z=>z) ?_ (λp v=>.inl v) (λu W=>W) λu W=>.inl W⟩
       cases e:lkL (B.1,B.2.1) J with
       |none=>rw[e]at R;exact(R (show B.2.2<B.2.2+1 by omega)).elim
       |some w=>rw[e]at R;exact T8 e (Int.not_lt.mp R) rfl
    .rintro m Z ⟨b,c,d,e,J,F2,rfl,N,W2⟩;rw[iO]at W2;exact hD1 _ ⟨_,_,_,_,_,J,F2,rfl,N,W2.next⟩
   .rintro m X ⟨a,b,c,d,e,L',F,rfl,T1,W1⟩;ext n;have Tb:=Dn (u:=F.length) T1.ll T1.dk.len T1.pt;refine Js (yz rfl (mz [0,2] (MSt.mk [some (.imm h.d),some (.imm r1.d),some (.imm g.d),some (.imm (.int (mo:Int))),some (.imm (lnD (zer h))),some (.at 0 []),some (.obj 1),some (.imm (.int ((q:Int)+1))),none,none,none,none,none,none] [[.dict (lfKV (ldD L'))],F.map trD] 0) (zF rfl rfl rfl rfl rfl rfl ⟨rfl,rfl,rfl,rfl,rfl,⟨0,rfl,rfl⟩,⟨2,rfl,rfl⟩,rfl,trivial,trivial,trivial,trivial,trivial,trivial,trivial⟩) ⟨_,?_,L',F,bnd M L L',q+1,rfl,T1.dk,T1.vl,?_,T1.fr,rfl,by rw[iO]at W1;exact W1.end⟩))
    .rw[hn,hE]
     cases F with
     |nil=>exact Tb.1 rfl
     |cons x F=>exact Tb.2 (Nat.succ_pos _)
    .have:=T1.ll;unfold bnd
     split<;>omega
  .ext s;ext n;refine Ua 0 5 (ldD L) [] (MSt.mk [some (.imm h.d),some (.imm r1.d),some (.imm g.d),some (.imm (.int (mo:Int))),none,some (.imm (.dict (ldD L))),none,none,none,none,none,none,none,none] [] 0) rfl rfl C (LJ rfl rfl rfl rfl rfl rfl rfl rfl ⟨.inl rfl,.inl rfl,.inl rfl,.inl rfl,.inl trivial,.inr ⟨rfl,.inr rfl⟩,.inl trivial,.inl trivial,.inl trivial,.inl trivial,.inl trivial,.inl trivial,.inl trivial,.inl trivial,trivial⟩) ?_;ext s;refine uB ?_;ext s;refine Bz (kvs:=ldD L) (show _=_ from rfl) (by rw[C,aej]) ?_;ext s;refine bg (λO=>(z O).elim) (λO=>?_);ext s;exact k3 ⟨L,D,by unfold ldD at O;rw[iO]at O;omega⟩
theorem uk(T:Bl K mg)(D:DefM K mg "_law_great" iX ["_law_tape_here"])(G:FnM P w K mg base "_law_draw" 1 2 m9)(d:FnM P w K mg base "_law_frac" 1 2 LQ):FnM P w K mg base "_law_great" 3 1 Br:=by
 refine bf D gu rfl (nN:=3) rfl (by decide) ?ar λI A outer s H E f g=>⟨_,(mz' (au 1 gu.nd (af aE mh' (mf' G (g.mono (by decide)) (mc' (mv' 0) (mc' mh' mn')))))
   (mz' (au 2 gu.nd (af aE (af aE mh' (af bM mh' (mv' 1))) (mf' G (g.mono (by decide)) (mc' (mv' 0) (mc' mh' mn')))))
   (aa (ag (ah (mc' (mf' d (g.mono (by decide)) (mc' mh' (mc' (mv' 2) mn'))) (mc' (af bM (ah (mc' (ah (mc' (mf' d (g.mono (by decide)) (mc' (mv' 1) (mc' (mv' 2) mn'))) (mc' mh' mn'))) mn')) mh') (mc' (df (bF g.units) (mf' G (g.mono (by decide)) (mc' (mv' 0) (mc' mh' mn'))) mh' (aB _)) mn')))))))),?_⟩
 case ar=>intro O y ⟨t,c,rfl,_⟩;rfl
 intro O y Q ⟨t,c,rfl,e,R,k⟩;refine ap (MSt.mk [some (.at 0 []),none,none] [[t]] 1) rfl ?_;ext s;refine⟨t,_,_,rfl,e,by omega,by decide,by decide,λq t i x e=>?_⟩;let⟨q,rfl⟩:=abY i;ext x;refine⟨t,_,_,rfl,e,by omega,by decide,by decide,λm t j o e=>?_⟩;let⟨m,rfl⟩:=abY j;let⟨wh,n,J,z⟩:∃wh:Nat,(1+3*(1+(q:Int))+(m:Int))=(wh:Int)/\1+q≤wh/\wh<1000:=⟨1+3*(1+q)+m,by omega,by omega,by omega⟩;ext x;rw[n];refine⟨1,wh,rfl,by omega,by omega,by omega,?_⟩;ext x;refine⟨1+q,wh,by rw[show(1+(q:Int))=((1+q:Nat):Int) by omega],by omega,by omega,by omega,?_⟩;ext x;refine Ay (by decide) (by decide) (show 1*3≤1000000 by decide) ?_;ext s;refine⟨t,_,_,rfl,e,by omega,by decide,by decide,λF t v N e=>?_⟩;ext x;let⟨C,u,B⟩:=Fi (wh:=wh) (p:=1+q) (b:=decide (F=0)) (by omega) (by omega) J z;exact k _ t C u B (e.mono (by omega))
theorem i9(T:Bl K mg)(D:DefM K mg "_law_great_right" bZ ["_law_tape_here"])(g:FnM P w K mg base "_law_great" 3 1 Br)(v:FnM P w K mg base "standings" 11 1 iy)(o:FnM P w K mg base "_law_draw" 1 2 m9)(G:FnM P w K mg base "_law_search" 6 4 qR):FnM P w K mg base "_law_great_right" 12 1 wz:=by
 refine bf D aI rfl (nN:=9) rfl (by decide) ?ar λcdv A outer s H E f B=>⟨_,(mz' (au 1 aI.nd (mf' g (B.mono (by decide)) (mc' (mv' 0) mn')))
   (mz' (au 2 aI.nd (cE (bJ (mc' ai (mc' ai (mc' ai (mc' ai mn')))))))
   (mz' (au 3 aI.nd (bJ mn'))
   (mz' (b6 (aY (mv' 2)) (jd (i:=4) aI.nd rfl (adq rfl)) (aa (cU (jo adQ adR jP (mv' 3) (mc' (bo (own:=["_law_other"]) (fr:=["_law_one"]) (ps:=[4]) (sc:=(ab bZ)) (by exact⟨rfl,by decide +kernel,by decide +kernel,by decide +kernel,by decide +kernel⟩) (aY (mv' 2)) (λ_ _ _ _ _=>(ak 0 (show aaM ((["_law_other"]:List Str)++(["_law_one"]:List Str))from by decide +kernel))) (λ_ _ _ _ _=>(jq (am (gA B.units) (mv' 0) (mv' 1) (aB _)))) (λ_ _ _ _ _=>(ah (mc' (mv' 1) (mc' (mv' 0) mn'))))) mn')))) aaD)
   (mz' (au 5 aI.nd (mf' v (B.mono (by decide)) (mc' (mv' 1) mn')))
   (mz' (aU (EW.pt (mF (qM (dh (Ls (mv' 5) yQ T.isinstance T.tuple eF))) (jv (am (gA B.units) (aC (cQ B.gd B.u200) (by rfl) T.repr gw (mc' (bo (own:=["_law_triple"]) (fr:=[]) (ps:=[]) (sc:=(ab bZ)) (by exact⟨rfl,by decide +kernel,by decide +kernel,by decide +kernel,by decide +kernel⟩) (aY (mv' 5)) (λ_ _ _ _ _=>(ak 0 (show aaM ((["_law_triple"]:List Str)++([]:List Str))from by decide +kernel))) (λ_ _ _ _ _=>bv) (λ_ _ _ _ _=>(cE (cc di (mv' 0) cW (cu mh'))))) mn')) (aC (cQ B.gd B.u200) (by rfl) T.repr gw (mc' (mv' 3) mn')) (aB _))))) (aa (ag lj)) aA)
   (mz' (b6 (cg (by rfl) T.range (mc' mh' mn')) (ak 6 aI.nd) (mz' (au 7 aI.nd (mf' o (B.mono (by decide)) (mc' (mv' 0) (mc' mh' mn'))))
   (mz' (au 8 aI.nd (mf' G (B.mono (by decide)) (mc' (mv' 1) (mc' (cE (cc di (ae (mv' 3) (mv' 7)) cW (cu mh'))) (mc' (cE (cc di (ae (mv' 3) (mv' 7)) (cu mh') cW)) (mc' mh' mn'))))))
   (aa (aU (am (gA B.units) (aC (cQ B.gd B.u200) (by rfl) T.repr gw (mc' (ae (mv' 5) (mv' 7)) mn')) (aC (cQ B.gd B.u200) (by rfl) T.repr gw (mc' (af aE (ae (mv' 3) (mv' 7)) (ah (mc' (ae (mv' 8) mh') mn'))) mn')) (aB _)) (aa (ag lj)) aA)))) aaD)
   (aa (ag lj))))))))),?_⟩
 case ar=>intro as Kc ⟨t,c,rfl,_⟩;rfl
 intro as Kc hl ⟨t,c,rfl,C,hc,k⟩;refine ap (MSt.mk [some (.at 0 []),none,none,none,none,none,none,none,none] [[t]] 1) rfl ?_;ext s;refine⟨t,c,rfl,C,by omega,λh t Y J h4 C=>?_⟩;ext n;let⟨N,hc0,C⟩:∃N,N<750000000/\TapeK N t:=⟨c+10,by omega,C⟩;ext c;have fl:∀i j,(flt i j).length≤12:=λi j=>abn _ prs;refine bx (λi m=>∃a:Option L2.R,m=MSt.mk [some (.at 0 []),some (.imm h.d),some (.imm (.list [.str "random",.str "two",.str "least",.str "quick"])),some (.obj 1),a,none,none,none,none] [[t],(flt i 0).map prD2] 1) ⟨none,rfl⟩ ?_ ?_
 .rintro i d m e y ⟨a,rfl⟩ D1 hD1 hR1;let⟨V,rfl⟩:=o3 e;ext s;refine bx (λj m=>∃b:Option L2.R,m=MSt.mk [b,some (.imm (.str (wrd i)))] [[t],(flt i 0).map prD2,(inn i j).map prD2] 3) ⟨none,rfl⟩ ?_ ?_
  .rintro j d m e y ⟨b,rfl⟩ D2 hD2 hR2;let⟨X,rfl⟩:=o3 e;have fs:=CA i V j X;have ws:=(p7 j X i V).2;have li:(inn i j).length≤4:=by unfold inn;rw[iO];exact aas (abn _ _) (by rw[aaV];omega)
   rw[fs]at hD2;ext s;rw[ws]
   by_cases c:i=j
   .rw[if_pos c,aaN]at hD2;rw[decide_eq_true c.symm,if_neg (by decide)];ext s;exact hD2 _ ⟨_,rfl⟩
   .rw[if_neg c]at hD2;rw[decide_eq_false (λz=>c z.symm),if_pos (show(!false)=true from rfl)];ext s;refine⟨_,rfl,by rw[iO,aae];omega,hD2 _ ⟨some (.imm (.str (wrd j))),?_⟩⟩;rw[aaq];rfl
  intro m y ⟨b,rfl⟩;ext s;have l4:(inn i 4).length≤4:=by unfold inn;rw[iO];exact aas (abn _ _) (by decide)
  refine qF (ds:=(flt i 0).map prD2) (es:=(inn i 4).map prD2) rfl (by rw[iO,iO,aae];have:=fl i 0;omega) ?_;ext s;refine hD1 _ ⟨some (.imm (.str (wrd i))),?_⟩;rw[Jk i V,aaq];rfl
 intro m y ⟨a,rfl⟩;rw[show flt ([ac7 "random",.str "two",.str "least",.str "quick"]:List aD).length 0=prs by decide +kernel];ext s;have nb:∀a:Nat,a≤400->a*(a+2)≤190000:=λa z=>aas (abx z (show a+2≤402 by omega)) (by decide);refine⟨h,rfl,Y,J,nb _ h4,?_⟩;ext x;rw[if_neg (show ¬(!(λn:String=>n == "tuple") (tyR (L2.R.imm (stgD h))))=true by show ¬(!(("tuple" : String) == "tuple"))=true;decide)];unfold stgD;ext s;refine bx (λn m=>∃b:Option L2.R,m=MSt.mk [b] [[t],prs.map prD2,(prs.take n).map prD2] 3) ⟨none,rfl⟩ ?_ ?_
 .rintro n d m e y ⟨b,rfl⟩ D2 hD2 hR2;let⟨p,O,rfl,W⟩:=gmap e;have l12:(prs.take n).length≤12:=by rw[aaw];exact acf _ _
  ext s;refine⟨_,rfl,by rw[iO,aae];omega,hD2 _ ⟨some (.imm (triD h p)),?_⟩⟩;rw[aaR,O,aaq];rfl
 intro m y ⟨b,rfl⟩;rw[iO,aau];ext x;refine fe xz rfl (by decide) (by decide) ?_;ext s;refine fe xz rfl (by decide) (by decide) ?_;ext s;rw[if_neg (c:=(!decide (_=_))=true) (by rw[decide_eq_true rfl];decide)];ext s;refine⟨by decide,by decide,?_⟩;refine bx (λn m=>∃(a b c e:Option L2.R) (t:aD),m=MSt.mk [some (.at 0 []),some (.imm h.d),some (.imm (.list [.str "random",.str "two",.str "least",.str "quick"])),some (.obj 1),a,some (.imm (.tuple (prs.map (triD h)))),b,c,e] [[t],prs.map prD2] 1/\TapeK (N+n) t) ⟨a,none,none,none,t,rfl,C⟩ ?_ ?_
 .rintro n d m e y ⟨a,b,c,u,t,rfl,C⟩ D1 hD1 hR1;let⟨W,rfl⟩:=c6 e;have hn2:n<2:=W;ext s;refine⟨t,_,_,rfl,C,by omega,by decide,by decide,λq t U hq1 C=>?_⟩;let⟨q,rfl⟩:=abY U;let⟨p,O⟩:∃p,prs[q]?=some p:=⟨_,lD (show q<12 by omega)⟩;have Q:atI (prs.map prD2) (q:Int)=some (.tuple [.str (wrd p.1),.str (wrd p.2)]):=bh (by rw[aah,O];rfl);have Z:atI (prs.map (triD h)) (q:Int)=some (triD h p):=bh (by rw[aah,O];rfl);ext x;let⟨k1,n1,d1⟩:=o6 (h:=h) p.1;let⟨k2,n2,d2⟩:=o6 (h:=h) p.2;let⟨I,F⟩:∃I,I=(triD h p).shown:=⟨_,rfl⟩;refine jT rfl Q ?_;ext s;refine jT rfl Q ?_;ext s;refine⟨h,rlN p.1,rlN p.2,400,by rw[d1,d2];rfl,Y,J,k1,k2,n1,n2,by decide,λln ⟨R,kR,lR,bR⟩ mn=>?_,λkvs S=>?_,λ⟨L,DL,l⟩=>?_⟩
  .ext x;refine ba Z ?_;ext s;refine' fe (jf p) ?ea (by decide) (by decide) ?_
   case ea=>rfl
   rw[<-F];ext s;refine jT rfl Q ?_;ext s;refine ip (show 2+1≤_ by decide) ?_;ext s;rw[show abQ ([ac7 (wrd p.1),.str (wrd p.2)]++(λx=>ac7 "worse" :: x) [])=triD h p by unfold triD;rw[lG kR bR];rfl];refine' fe (jf p) ?ea (by decide) (by decide) ?_
   case ea=>rfl
   rw[<-F];ext s;rw[if_neg (c:=(!decide (I=I))=true) (by rw[decide_eq_true rfl];decide)];ext s;exact hD1 _ ⟨_,_,_,_,t,rfl,C.mono (by omega)⟩
  .ext x;refine ba Z ?_;ext s;refine' fe (jf p) ?ea (by decide) (by decide) ?_
   case ea=>rfl
   rw[<-F];ext s;refine jT rfl Q ?_;ext s;refine ip (show 2+1≤_ by decide) ?_;ext s;rw[show abQ ([ac7 (wrd p.1),.str (wrd p.2)]++(λx=>ac7 "never" :: x) [])=triD h p by unfold triD;rw[nh S];rfl];refine' fe (jf p) ?ea (by decide) (by decide) ?_
   case ea=>rfl
   rw[<-F];ext s;rw[if_neg (c:=(!decide (I=I))=true) (by rw[decide_eq_true rfl];decide)];ext s;exact hD1 _ ⟨_,_,_,_,t,rfl,C.mono (by omega)⟩
  .have:=DL.len;omega
 .rintro m y ⟨a,b,c,u,t,rfl,C⟩;ext s;exact k _
theorem Vy(T:Bl K mg){ff:Addr}{fd:ab3}(F:Fun K "law" "law" slaw ff fd)(I:FnM P w K mg base "_law_tape" 1 1 Cr)(D:FnM P w K mg base "_law_draw" 1 2 m9)(G:FnM P w K mg base "_law_great_right" 12 1 wz)(C:FnM P w K mg base "_law_hall" 3 2 vD)(o:FnM P w K mg base "_law_search" 6 4 qR)(J:FnM P w K mg base "standings" 11 1 iy):FnOk P w K mg base CX0 13 ff fd ["_law_script"] (spOf ⟨K,w⟩ 1 CP):=by
 refine Mx F ol rfl (nN:=10) rfl (by decide) λcdv A outer s H E f B=>⟨_,(mz' (au 1 ol.nd (mf' I (B.mono (by decide)) (mc' (mv' 0) mn')))
   (mz' (aU (am (bF B.units) (mf' D (B.mono (by decide)) (mc' (mv' 1) (mc' mh' mn'))) mh' (aB _)) (aa (ag (mf' G (B.mono (by decide)) (mc' (mv' 1) mn')))) aA)
   (mz' (b6 (cg (by rfl) T.range (mc' mh' mn')) (ak 2 ol.nd) (mz' (au 3 ol.nd (mf' C (B.mono (by decide)) (mc' (mv' 1) (mc' mh' mn'))))
   (mz' (au 4 ol.nd (bJ mn'))
   (mz' (b6 (aY (cE (bJ (mc' ai (mc' ai (mc' ai (mc' ai mn'))))))) (ak 5 ol.nd) (aa (b6 (aY (cE (bJ (mc' ai (mc' ai (mc' ai (mc' ai mn'))))))) (ak 6 ol.nd) (aa (aU (am (gA B.units) (mv' 5) (mv' 6) (aB _)) (mz' (au 7 ol.nd (mf' o (B.mono (by decide)) (mc' (mv' 3) (mc' (ah (mc' (mv' 5) mn')) (mc' (ah (mc' (mv' 6) mn')) (mc' mh' mn'))))))
   (aa (cU (jo acm acn jG (mv' 4) (mc' (ah (mc' (mv' 5) (mc' (mv' 6) (mc' (sF (am j1 (mv' 7) e9 (aB _)) (ae (mv' 7) mh') e9) mn')))) mn'))))) aA)) aaD)) aaD)
   (mz' (au 8 ol.nd (aC (cQ B.gd B.u200) (by rfl) T.repr gw (mc' (mv' 3) mn')))
   (aa (aU (am (jj B.units) e9 (bo (own:=["_law_triple"]) (fr:=[]) (ps:=[]) (sc:=(ab slaw)) (by exact⟨rfl,by decide +kernel,by decide +kernel,by decide +kernel,by decide +kernel⟩) (aY (mv' 4)) (λ_ _ _ _ _=>(ak 0 (show aaM ((["_law_triple"]:List Str)++([]:List Str))from by decide +kernel))) (λ_ _ _ _ _=>bv) (λ_ _ _ _ _=>(ae (mv' 0) mh'))) (by with_unfolding_all rfl)) (aa (b6 (cg (by rfl) T.range (mc' (af aE mh' (b5 jg (by rfl) T.int wG (mc' (df gC (aC ca (by rfl) T.len d6 (mc' (ae (mv' 3) mh') mn')) mh' (aB _)) mn'))) mn')) (ak 9 ol.nd) (aa (aU (EW.pt (mF (am (gA B.units) (aC (cQ B.gd B.u200) (by rfl) T.repr gw (mc' (mf' J (B.mono (by decide)) (mc' (mv' 3) mn')) mn')) (aC (cQ B.gd B.u200) (by rfl) T.repr gw (mc' (b5 cP (by rfl) T.tuple eF (mc' (mv' 4) mn')) mn')) (aB _)) (jv (am (gA B.units) (aC (cQ B.gd B.u200) (by rfl) T.repr gw (mc' (mv' 3) mn')) (mv' 8) (aB _))))) (aa (ag lj)) aA)) aaD)) aA)))))) aaD)
   (aa (ag lj))))),?_⟩
 intro as Kc hl ⟨ns,rfl,hn,k⟩;refine ap (MSt.mk [some (.imm (.list (ns.map .int))),none,none,none,none,none,none,none,none,none] [] 0) rfl ?_;ext s;refine⟨ns,rfl,hn,λt O=>?_⟩;ext n;refine qW ?_;ext x;refine⟨t,_,_,rfl,O,by omega,by decide,by decide,λq t hq0 hq1 O=>?_⟩;ext x;refine bg (λz=>?_) (λz=>?_)
 .ext s;refine⟨t,_,rfl,O,by omega,λt'=>?_⟩;ext x;exact k
 ext s;refine⟨by decide,by decide,?_⟩;refine bx (λi m=>∃(a b c d e f g u:Option L2.R) (t:aD) (os:List (List aD)),m=MSt.mk [some (.imm (.list (ns.map .int))),some (.at 0 []),a,b,c,d,e,f,g,u] ([t]::os) 0/\(i=0->TapeK 1000 t/\os=[])) ⟨none,none,none,none,none,none,none,none,t,[],rfl,λ_=>⟨O.mono (by omega),rfl⟩⟩ ?_ ?_
 .rintro i d m e v ⟨a,b,c,d,e',f,g,u,t,os,rfl,h0⟩ D1 hD1 hR1;let⟨hi,rfl⟩:=c6 e;have hi0:i=0:=Nat.lt_one_iff.mp hi;let⟨O,rfl⟩:=h0 hi0;ext s;refine⟨t,_,9,rfl,O,by omega,by decide,λh t X h9 O=>?_⟩;ext x;refine cF ?_;ext x;have fl:∀i j,(flt i j).length≤12:=λi j=>abn _ prs;have n81:nP h≤81:=MF h9;refine bx (λp m=>∃a b c:Option L2.R,m=MSt.mk [some (.imm (.list (ns.map .int))),some (.at 0 []),some (.imm (.int (0+(i:Int)))),some (.imm h.d),some (.obj 1),a,b,c,g,u] [[t],(flt p 0).map (triD h)] 0) ⟨d,e',f,rfl⟩ ?_ ?_
  .rintro p d m e v ⟨a,b,c,rfl⟩ D2 hD2 hR2;let⟨hp,rfl⟩:=o3 e;ext s;refine bx (λq m=>∃b c:Option L2.R,m=MSt.mk [some (.imm (.list (ns.map .int))),some (.at 0 []),some (.imm (.int (0+(i:Int)))),some (.imm h.d),some (.obj 1),some (.imm (.str (wrd p))),b,c,g,u] [[t],(flt p q).map (triD h)] 0) ⟨b,c,rfl⟩ ?_ ?_
   .rintro q d m e v ⟨b,c,rfl⟩ D3 hD3 hR3;let⟨hq,rfl⟩:=o3 e;let⟨fs,ws⟩:=p7 p hp q hq;have fl':=fl p q;let⟨k1,n1,d1⟩:=o6 (h:=h) p;let⟨k2,n2,d2⟩:=o6 (h:=h) q;rw[fs]at hD3;ext s;rw[ws]
    by_cases Z:p=q
    .rw[if_pos Z,aaN]at hD3;rw[decide_eq_true Z,if_neg (by decide)];ext s;exact hD3 _ ⟨_,_,rfl⟩
    .rw[if_neg Z]at hD3;rw[decide_eq_false Z,if_pos (show(!false)=true from rfl)];ext s;refine⟨h,rlN p,rlN q,100,by rw[d1,d2];rfl,X,by omega,k1,k2,n1,n2,by decide,λln ⟨R,kR,lR,bR⟩ mn=>?_,λQ S=>?_,λ⟨L,DL,l⟩=>?_⟩
     .ext x;refine uB ?_;ext s;rw[if_pos (c:=(!isNone (L2.R.imm (.tuple [.str "worse",.int (ln:Int)])))=true) rfl];ext s;refine' kO (ds:=(flt p q).map (triD h)) ?eb (by rw[aae,iO];omega) ?_
      case eb=>rfl
      ext n;refine hD3 _ ⟨some (.imm (.str (wrd q))),some (.imm (.tuple [.str "worse",.int (ln:Int)])),?_⟩;rw[aaq];show _=MSt.mk _ [_,_++[.tuple [_,_,.str (sdW h p q)]]] 0;rw[lG kR bR]
     .ext x;refine uB ?_;ext s;rw[if_pos (c:=(!isNone (L2.R.imm (.tuple [.str "never",.dict Q])))=true) rfl];ext s;refine' kO (ds:=(flt p q).map (triD h)) ?eb (by rw[aae,iO];omega) ?_
      case eb=>rfl
      ext n;refine hD3 _ ⟨some (.imm (.str (wrd q))),some (.imm (.tuple [.str "never",.dict Q])),?_⟩;rw[aaq];show _=MSt.mk _ [_,_++[.tuple [_,_,.str (sdW h p q)]]] 0;rw[nh S]
     .have:=DL.len;omega
   .rintro m v ⟨b,c,rfl⟩;refine hD2 _ ⟨some (.imm (.str (wrd p))),b,c,?_⟩;rw[show flt p ([ac7 "random",.str "two",.str "least",.str "quick"]:List aD).length=flt p 4 from rfl,BO p hp]
  intro m v ⟨a,b,c,rfl⟩;rw[show flt ([ac7 "random",.str "two",.str "least",.str "quick"]:List aD).length 0=prs by decide +kernel];ext s;refine fe X.fine rfl (by decide) (by decide) ?_;ext x;refine uG (λn m=>∃x:Option L2.R,m=MSt.mk [x] [[t],prs.map (triD h),(prs.take n).map λp=>.str (sdW h p.1 p.2)] 3) ⟨none,rfl⟩ ?_ ?_ ?_
  .rintro n m ⟨x,rfl⟩;rfl
  .rintro n d m e v ⟨x,rfl⟩ D2 hD2 hR2;let⟨p,ep,rfl,hn⟩:=gmap e;have l12:(prs.take n).length≤12:=by rw[aaw];exact acf _ _
   rw[aaR,ep,aaq]at hD2;unfold triD;ext s;refine⟨_,rfl,by rw[iO,aae];omega,hD2 _ ⟨some (.imm (triD h p)),rfl⟩⟩
  intro m v ⟨x,rfl⟩;rw[iO,aau];ext n;have s1:∀w:Str,w∈(["random","two","least","quick","never","worse"]:List Str)->Shp 0 (.str w):=λw hw=>⟨by
   simp only[aaf,abd,or_false]at hw;rcases hw with rfl|rfl|rfl|rfl|rfl|rfl<;>decide +kernel,Mt _⟩
  refine' x_in (d:=.none) (ds:=prs.map λp=>.str (sdW h p.1 p.2)) ?ea (.inl ?eb) FJ (k':=0) (λy hy=>by let⟨p,_,rfl⟩:=aap.mp hy;exact s1 _ Ij) (by decide) ?_
  case ea=>rfl
  case eb=>rfl
  rw[zY prs];ext s;rw[if_pos (show(if true=true then !false else false)=true from rfl)];ext s;ext s;let⟨N,eN,N0,N2⟩:∃N:Int,(1+if decide ((((h.ss.map Srv.d).length:Nat):Int)<3)=true then(1:Int)else 0)=N/\0≤N/\N≤2:=⟨_,rfl,by split<;>decide,by split<;>decide⟩;rw[eN];refine⟨by omega,by omega,?_⟩;have hp2:nP h*(nP h+2)≤190000:=aas (abx n81 (show nP h+2≤83 by omega)) (by decide);have hf:Fine 100000 3 (.tuple (prs.map (triD h))):=(dA (n:=1000) (k:=2) (c:=12) (λd hd=>by
   let⟨p,_,rfl⟩:=aap.mp hd;exact jf p) (by rw[iO];decide)).mono (by decide) (by decide)
  let⟨W,V⟩:∃W,W=(abQ (prs.map (triD h))).shown:=⟨_,rfl⟩;refine bx (λn m=>∃u:Option L2.R,m=MSt.mk [some (.imm (.list (ns.map .int))),some (.at 0 []),some (.imm (.int (0+(i:Int)))),some (.imm h.d),some (.obj 1),a,b,c,some (.imm (.str h.d.shown)),u] [[t],prs.map (triD h)] 0) ⟨u,rfl⟩ ?_ ?_
  .rintro n d m e v ⟨u,rfl⟩ D2 hD2 hR2;ext s;refine⟨h,rfl,X,by omega,hp2,?_⟩;ext x;refine' fe (d:=.tuple (prs.map (triD h))) hf ?ea (by decide) (by decide) ?_
   case ea=>rfl
   rw[<-V];ext s;refine' fe (d:=.tuple (prs.map (triD h))) hf ?eb (by decide) (by decide) ?_
   case eb=>rfl
   rw[<-V];ext s;rw[if_neg (c:=(!decide (W=W))=true) (by rw[decide_eq_true rfl];decide)];let⟨Y,U⟩:∃Y,Y=h.d.shown:=⟨_,rfl⟩;refine yz rfl ?_;refine' fe (d:=h.d) X.fine ?ec (by decide) (by decide) ?_
   case ec=>rfl
   rw[<-U];ext s;rw[if_neg (c:=(!decide (Y=Y))=true) (by rw[decide_eq_true rfl];decide)];ext s;rw[U];exact hD2 _ ⟨_,rfl⟩
  .rintro m v ⟨u,rfl⟩;exact hD1 _ ⟨_,_,_,_,_,_,_,_,t,_,rfl,λz=>absurd z (Nat.succ_ne_zero _)⟩
 .rintro m v ⟨a,b,c,d,e',f,g,u,t,os,rfl,_⟩;ext s;exact k
end
def ar_{us:List mT}{n:Nat}(c:us.length=n):us=(aaz n).map λi=>us.getD i .none:=ahh (by rw[c,iO,aaV]) λi d e=>by
 rw[List.getElem_map,List.getElem_range,aar,lD d];rfl
local macro_rules | `(tactic| walk_at "dm") => `(tactic| exact λf fd F => F.binds λ_ _ _ _ _ _ us hl => by rw [ar_ hl]; rfl)
theorem OZ{w:World}{K:aad}{h:aaW}{mg:Str->Option mT}{fa:Addr}(X:K.In h)(G:h.Ns aav mg)(hfa:mg "law" = some (.ref fa))(dis_less:DefK K "is_less" qb)(dis_alike:DefK K "is_alike" lc)(E:DefK K "place_of_lines" d3)(I:DefK K "first_shortest" d4)(dwait_at:DefK K "wait_at" qm)(C:DefK K "first_quickest" dG)(dsent_to:DefK K "sent_to" qT)(dfirst_stand:DefK K "first_stand" gj)(dall_orders:DefK K "all_orders" fZ)(dall_moves:DefK K "all_moves" fj)(dwith_more:DefK K "with_more" jL)(dcome_to:DefK K "come_to" qL)(ddone_at:DefK K "done_at" qt)(dnext_shift:DefK K "next_shift" iM)(dsettled:DefK K "settled" qB)(dturn_behind:DefK K "turn_behind" gl)(dline_of:DefK K "line_of" qK)(dmoved_on:DefK K "moved_on" mh)(dkept_lines:DefK K "kept_lines" iC)(drefuse_turns:DefK K "refuse_turns" fJ)(dfirst_triple:DefK K "first_triple" f8)(dkept_step:DefK K "kept_step" jD)(dtriple_behind:DefK K "triple_behind" fg)(dis_worse:DefK K "is_worse" lg)(t:MthD K "Search" "steps_of" "Search.steps_of" bw ["self","side","lines"])(g:MthD K "Search" "triples_behind" "Search.triples_behind" aH ["self","triple"])(dSearch_met:MthD K "Search" "met" "Search.met" c8 ["self","triple","ahead","move"])(V:MthD K "Search" "run_to" "Search.run_to" cf ["self","at"])(o:MthD K "Search" "worse_run" "Search.worse_run" bz ["self"])(dSearch_paper:MthD K "Search" "paper" "Search.paper" b9 ["self"])(x:IniDK K "Search" "Search.__init__" bP ["self","hall","one","other"])(dnever_worse:DefK K "never_worse" gz)(dstandings:DefK K "standings" fC)(d_law_tape:DefK K "_law_tape" jY)(d_law_draw:DefK K "_law_draw" jC)(d_law_frac:DefK K "_law_frac" j6)(N:DefK K "_law_all_lines" c5)(d_law_hall:DefK K "_law_hall" cw)(d_law_sent:DefK K "_law_sent" g6)(d_law_put:DefK K "_law_put" lJ)(d_law_step:DefK K "_law_step" jz)(d_law_kept:DefK K "_law_kept" ii)(d_law_moves:DefK K "_law_moves" da)(d_law_both:DefK K "_law_both" jy)(d_law_is_bad:DefK K "_law_is_bad" gn)(d_law_search:DefK K "_law_search" gg)(d_law_great:DefK K "_law_great" iX)(p:DefK K "_law_great_right" bZ)(dlaw:DefK K "law" slaw)(zlen:aaG K aav "len" = some none)(zabs:aaG K aav "abs" = some none)(zrange:aaG K aav "range" = some none)(zlist:aaG K aav "list" = some none)(ztuple:aaG K aav "tuple" = some none)(zint:aaG K aav "int" = some none)(zsum:aaG K aav "sum" = some none)(zmax:aaG K aav "max" = some none)(zmin:aaG K aav "min" = some none)(zisinstance:aaG K aav "isinstance" = some none)(zbool:aaG K aav "bool" = some none)(zsorted:aaG K aav "sorted" = some none)(zzip:aaG K aav "zip" = some none)(zenumerate:aaG K aav "enumerate" = some none)(zrepr:aaG K aav "repr" = some none)(P:ConK K "STANDING_WORDS" (.tuple [.str "random",.str "two",.str "least",.str "quick"]))   (W:InsF K "Search" "hall")(Q:InsF K "Search" "rules")(J:InsF K "Search" "moves")(A:InsF K "Search" "steps")(H:InsF K "Search" "leads")(m:InsF K "Search" "triples")(Z:InsF K "Search" "ways") :
  ∃fd:ab3,(∀(s:AD) (v:mT),ag3 s fd ⟨[v],[]⟩ [("_law_script",v)])/\∀base:aaW,K.In base->base.Ns aav mg->FnOk l.prog w K mg base CX0 13 fa fd ["_law_script"] (spOf ⟨K,w⟩ 1 CP):=by
 let⟨f,fd,a,F⟩:=dlaw.ex;have e:=hfa.symm.trans (afx X G a);cases e;have T:Bl K mg:=⟨aaZ X G zlen,aaZ X G zabs,aaZ X G zrange,aaZ X G zlist,aaZ X G ztuple,aaZ X G zint,aaZ X G zsum,aaZ X G zmax,aaZ X G zmin,aaZ X G zisinstance,aaZ X G zbool,aaZ X G zsorted,aaZ X G zzip,aaZ X G zenumerate,aaZ X G zrepr,P.m X G,W,Q,J,A,H,m,Z⟩;refine⟨fd,λs v=>?_,λbase _ _=>?_⟩
 .obtain⟨oc,od,kV,doc,pm,an,cdv,ct,osl,rfl,lk,hcd⟩:=F.ex;exact .of_eq rfl
 .have Gis_less:=@zM l.prog w K mg base T (dis_less.m X G (by ext dm));have Gis_alike:=@xT l.prog w K mg base T (dis_alike.m X G (by ext dm));have O:=@ko l.prog w K mg base T (E.m X G (by ext dm));have B:=@kz l.prog w K mg base T (I.m X G (by ext dm));have Gwait_at:=@yN l.prog w K mg base T (dwait_at.m X G (by ext dm));have D:=@kH l.prog w K mg base T (C.m X G (by ext dm)) Gwait_at Gis_less;have Gsent_to:=@za l.prog w K mg base T (dsent_to.m X G (by ext dm)) B D O;have Gfirst_stand:=@qi l.prog w K mg base T (dfirst_stand.m X G (by ext dm));have Gall_orders:=@uf l.prog w K mg base T (dall_orders.m X G (by ext dm));have Gall_moves:=@vn l.prog w K mg base T (dall_moves.m X G (by ext dm)) Gall_orders;have j:=@vd l.prog w K mg base T (dwith_more.m X G (by ext dm));have Gcome_to:=@AB l.prog w K mg base T (dcome_to.m X G (by ext dm)) j;have Gdone_at:=@Bx l.prog w K mg base T (ddone_at.m X G (by ext dm)) j;have Gnext_shift:=@tu l.prog w K mg base T (dnext_shift.m X G (by ext dm));have Gsettled:=@Bc l.prog w K mg base T (dsettled.m X G (by ext dm)) Gnext_shift j;have Gturn_behind:=@qk l.prog w K mg base T (dturn_behind.m X G (by ext dm));have Gline_of:=@AV l.prog w K mg base T (dline_of.m X G (by ext dm)) Gsent_to;have Gmoved_on:=@ya l.prog w K mg base T (dmoved_on.m X G (by ext dm)) Gline_of Gcome_to Gturn_behind Gdone_at Gsettled;have Gkept_lines:=@sD l.prog w K mg base T (dkept_lines.m X G (by ext dm)) Gis_alike;have Grefuse_turns:=@oO l.prog w K mg base T (drefuse_turns.m X G (by ext dm));have Gfirst_triple:=@ot l.prog w K mg base T (dfirst_triple.m X G (by ext dm)) Gfirst_stand;have Gkept_step:=@uO l.prog w K mg base T (dkept_step.m X G (by ext dm)) Gmoved_on Gkept_lines;have U:=@kZ l.prog w K mg base T (dtriple_behind.m X G (by ext dm));have Gis_worse:=@xW l.prog w K mg base T (dis_worse.m X G (by ext dm));have z:=@jI l.prog w K mg base T t Gkept_step;have d:=@fU l.prog w K mg base T g z U;have u:=@sf l.prog w K mg base T dSearch_met;have Y:=@nH l.prog w K mg base T V;have n:=@ja l.prog w K mg base T o d Gis_worse Y u;have GSearch_paper:=@oH l.prog w K mg base T dSearch_paper;have y:=@jQ l.prog w K mg base T (x.m X G) Gall_moves Gfirst_triple u;have Gnever_worse:=@qy l.prog w K mg base T (dnever_worse.m X G (by ext dm)) Grefuse_turns y n GSearch_paper;have R:=@uv l.prog w K mg base T (dstandings.m X G (by ext dm)) Gnever_worse;have G_law_tape:=@uY l.prog w K mg base T (d_law_tape.m X G (by ext dm));have c:=@uo l.prog w K mg base T (d_law_draw.m X G (by ext dm));have S:=@u9 l.prog w K mg base T (d_law_frac.m X G (by ext dm));have i:=@kG l.prog w K mg base T (N.m X G (by ext dm));have G_law_hall:=@uW l.prog w K mg base T (d_law_hall.m X G (by ext dm)) c S i;have G_law_sent:=@uZ l.prog w K mg base T (d_law_sent.m X G (by ext dm)) i;have G_law_put:=@yc l.prog w K mg base T (d_law_put.m X G (by ext dm));have G_law_step:=@vj l.prog w K mg base T (d_law_step.m X G (by ext dm)) G_law_sent G_law_put;have G_law_kept:=@vy l.prog w K mg base T (d_law_kept.m X G (by ext dm));have G_law_moves:=@rF l.prog w K mg base T (d_law_moves.m X G (by ext dm));have G_law_both:=@uH l.prog w K mg base T (d_law_both.m X G (by ext dm)) G_law_step G_law_kept;have G_law_is_bad:=@q9 l.prog w K mg base T (d_law_is_bad.m X G (by ext dm));have k:=@qu l.prog w K mg base T (d_law_search.m X G (by ext dm)) G_law_moves G_law_both G_law_is_bad;have G_law_great:=@uk l.prog w K mg base T (d_law_great.m X G (by ext dm)) c S;have q:=@i9 l.prog w K mg base T (p.m X G (by ext dm)) G_law_great R c k;exact Vy T F G_law_tape c q G_law_hall k R
theorem walk{q:aaF}{c:List Str}{X:(Str->Option mT)->aaW->Prop}{Y:World->aaW->Prop}{d:DefRec}{K:Params->aad}(i:PyProof.Rows.importsNone q=true)(j:l.most=some 63)(e:d.params.defaults=[])
  (p:∀(w:World) (h:aaW),Y w h->(K w.params).In h)
  (F:∀(w:World) (mg:Str->Option mT) (g:Addr) (h:aaW),(K w.params).In h->h.Ns aav mg->mg d.name=some (.ref g) ->
   ∃fd:ab3,(∀(s:AD) (u:mT),ag3 s fd ⟨[u],[]⟩ [("_law_script",u)])/\∀base:aaW,(K w.params).In base->base.Ns aav mg->FnOk l.prog w (K w.params) mg base CX0 13 g fd ["_law_script"] (spOf ⟨K w.params,w⟩ 1 CP)) :
  ahF q c X Y l.row.toRowW d [] (λf vs=>ahD f vs):=
 L2.JI (n:=63) (k:=13) (x:= "_law_script") (CX:=λ_=>CX0) (sp:=λw=>spOf ⟨K w.params,w⟩ 1 CP) i j (by decide) e ⟨rfl,by decide,by decide,rfl⟩ p F
  (λw H a ns y A m=>⟨[.imm (.list (ns.map .int))],[],λr _=>r = .imm (.bool true),rfl,abE,.imm (ye A m) .nil,⟨ns,rfl,y,rfl⟩,λr o v t k _ rr _=>by cases k;exact jk (show Den ⟨K w.params,w⟩ t (.bool true) v from rr)⟩) λ_ _ _ _ _ z=>z
end K
namespace PySem.W.Fast
def tw16353076388586902319:=0
def tw14458001743368645817:=0
def tw895681234437127708:=0
def tw18123640020755345836:=0
def tw930268334499239909:=0
def tw14820143461083970703:=0
def tw510369830162755397:=0
def tw17814016348648812442:=0
def tw15711413470130783710:=0
def tw1963621725668742729:=0
def tw9247018483407196366:=0
def tw1613695831710237525:=0
def tw7768442811793741608:=0
def tw1637768482999110397:=0
def tw12173566350614347837:=0
def tw13795057800008301630:=0
def tw8669901718200088519:=0
def tw16596641079140271914:=0
def tw8073646678227086116:=0
def tw9927148100311134516:=0
def tw10347458896326912086:=0
def tw6182522528930587186:=0
def tw6868185265471340538:=0
def tw14333569685780334700:=0
def tw18176520659442410417:=0
def tw12649331007451818534:=0
def tw17359705973394091165:=0
def tw1301703319776735214:=0
def tw6830474382620030527:=0
def tw8563508896099880111:=0
def tw7604898141563366921:=0
def tw30446926952357014:=0
def tw6153040140276425002:=0
def tw7851487800337073475:=0
def tw12764381883486622398:=0
def tw14898413084527909549:=0
def tw11213511169239710336:=0
def tw11779669127951793213:=0
def tw9887568787706919162:=0
def tw12445333656466895089:=0
def tw7469452097923017326:=0
def tw5544692496371960075:=0
def tw4971729400333067727:=0
def tw16730532099895159720:=0
def tw9143249343909861507:=0
def tw7392303007680724391:=0
def tw18331237285085235700:=0
def tw12101907373882176423:=0
def tw7078166310493920893:=0
def tw10785234817210067922:=0
def tw9221694731566079232:=0
def tw15867506041970459311:=0
def tw11380384568875316393:=0
def tw17906460356756532426:=0
def tw1037734615710645056:=0
def tw5464767385780839332:=0
def tw14481517195296898574:=0
def tw1671208248136758977:=0
def tw12752648799213688094:=0
def tw11164866014443322791:=0
def tw6151040834517622569:=0
def tw10494400573866452117:=0
def tw842646587294599867:=0
def tw14667975292054894831:=0
def tw9268966050752489166:=0
def tw13042533720086736293:=0
def tw8063469614983109549:=0
def tw1049481271262930876:=0
def tw131473074770614048:=0
def tw14873854644503703812:=0
def tw10997406381682181940:=0
def tw719510187558801314:=0
def tw1064958641835723747:=0
def tw1295655376153153481:=0
def tw8037693948363583374:=0
def tw10907557099183953971:=0
def tw14669660793776287784:=0
def tw1187802839303389600:=0
def tw2454650686221199299:=0
def tw7937535544411756289:=0
def tw8115047621171809538:=0
def tw16683872964370337668:=0
def tw13714749802862237162:=0
def tw10970903338402287803:=0
def tw7320677888363542985:=0
def tw8455577564129458639:=0
def tw7429057472806518295:=0
def tw14439373026703641660:=0
def tw12782336017361370242:=0
def tw10051654681210016526:=0
def tw6184080084898074525:=0
def tw14604393008143232708:=0
def tw9960407745938098057:=0
def tw12535575192512221398:=0
def tw11394257704591871416:=0
def tw18270744052057270361:=0
def tw12456971803608652015:=0
def tw8756158381906727887:=0
def tw14510560970858019959:=0
def tw9606023145743608218:=0
def tw10330557007374511168:=0
def tw8538097408915387139:=0
def tw11743933838007200598:=0
def tw17792695222182568424:=0
def tw12294150182800402762:=0
def tw15129661028567136518:=0
def tw14892073172209340720:=0
def tw14704203231214138294:=0
def tw4058725165493114687:=0
def tw4568242893682801678:=0
def tw1261612425503180914:=0
def tw12683752524066101895:=0
def tw6050278633385448373:=0
def tw11621395903419112100:=0
def tw2426261791825159407:=0
def tw6167412284227634766:=0
def tw18158837064180899971:=0
def tw11372453759287333696:=0
def tw2278431669639815589:=0
def tw9239798405689358870:=0
def tw12204869500989877573:=0
def tw13854187175586209989:=0
def tw12550116636437835059:=0
def tw7043062540454688618:=0
def tw16902605810101913206:=0
def tw11564333690980249693:=0
def tw15712316557804721330:=0
def tw10496142194639817046:=0
def tw8027547217855582695:=0
def tw16029047965112834906:=0
def tw7335920507186017269:=0
def tw12280460227734797393:=0
def tw10315417860015238057:=0
def tw14944155430862416025:=0
def tw15571991032976477276:=0
def tw6455871590570010794:=0
def tw9516196477908142675:=0
def tw5025026135501812087:=0
def tw655337589330785662:=0
def tw12026039987671068921:=0
def tw11862688320713347354:=0
def tw1340046918536791428:=0
def tw6270634176346870005:=0
def tw15983833845282926591:=0
def tw3462093141548230466:=0
def tw946496249023264332:=0
def tw12921043045937148701:=0
def tw6410915837146449059:=0
def tw8278095813387753502:=0
def tw15336208261258904144:=0
def tw16063916093015000369:=0
def tw16434408151392346889:=0
def tw11830299288529424199:=0
def tw4688443435896351949:=0
def tw10737998895499536447:=0
def tw10473652524621741240:=0
def tw15367445337382533092:=0
def tw15328519337997943812:=0
def tw2699697509775396814:=0
def tw9701180644902938517:=0
def tw14547648739590811046:=0
def tw7156401454691144989:=0
def tw8368367020951555619:=0
def tw11337778045129889031:=0
def tw12966360172239122567:=0
def tw12514097224527508478:=0
def tw133975300391547135:=0
def tw11457024653763462671:=0
def tw9576818246328766431:=0
def tw3443678927500725461:=0
def tw9686622223221645192:=0
def tw9424209494451454520:=0
def tw9948471276783708772:=0
def tw13998284384495325107:=0
def tw5559217725268689849:=0
def tw17762994412644485441:=0
def tw6859046397479844541:=0
def tw17545796904758431687:=0
def tw8922802310025204797:=0
def tw1702243252468080936:=0
def tw16819322067729215696:=0
def tw10488376802727592001:=0
def tw17838023808134728784:=0
def tw3781049103768047249:=0
def tw10849794909800460054:=0
def tw3232713416409805678:=0
def tw1866361494340934799:=0
def tw1025499581158121167:=0
def tw6078517720618159345:=0
def tw1156071827202927094:=0
def tw4024491046611305535:=0
def tw18147208855298353846:=0
def tw16660420999578332578:=0
def tw16229329193511298633:=0
def tw18236537685841445659:=0
def tw17710228799791266514:=0
def tw6731848861982598879:=0
def tw14465839709648935864:=0
def tw963949388737823518:=0
def tw17117288887364550470:=0
def tw16060782433089515070:=0
def tw13195680204196739439:=0
def tw17964929989681582370:=0
def tw2649306311382017339:=0
def tw193133094229498275:=0
def tw3908310499994100560:=0
def tw10332738510289420678:=0
def tw524876225430807926:=0
def tw12572421774912606103:=0
def tw12935299360215056301:=0
def tw5642169275059585111:=0
def tw906096095710950688:=0
def tw1457547779857686956:=0
def tw11263926810243334153:=0
def tw1558070100832155108:=0
def tw942015184930929492:=0
def tw14363987664380103450:=0
def tw11589005390072368180:=0
def tw11173060313991966767:=0
def tw5794025404046947368:=0
def tw2004502035946528806:=0
def tw7905774163245506517:=0
def tw215902111093678224:=0
def tw9409163793191571485:=0
def tw13055874801071080936:=0
def tw5087450445353904841:=0
def tw7274955899723148336:=0
def tw4049698642397257208:=0
def tw3966300445656030040:=0
def tw8189012908731540044:=0
def tw14370410726965155299:=0
def tw4877545361274253450:=0
def tw18173412403721718932:=0
def tw8355091570310008480:=0
def tw17244647458093020483:=0
def tw8210688873014157429:=0
def tw642638170731828494:=0
def tw16545061422799421335:=0
def tw15367900987232556055:=0
end PySem.W.Fast
open PySem PySem.W PyProof.Rows
local macro_rules | `(tactic| walk_at "dk") => `(tactic| (refine' L2.DefK.of ?a ?l ?c ?k; (case a => k_is); (case l => k_is); (case c => k_is); (case k => k_is)))
set_option maxRecDepth 100000 in
set_option maxHeartbeats 0 in
theorem PySem.Challenge.cw_shorterline_k56_standings_holds : PySem.Challenge.rw_shorterline_k56_standings.Holds := by
 w_on;o_law;k_head;(case hw=>w_witness2)
 k_fill
 refine K.walk (l:=PySem.Challenge.rw_shorterline_k56_standings) ?hq rfl rfl (λw h Y=>PySem.W.kIn_of Y) ?F
 case hq=>kernel_rfl
 case F=>
  intro w mg fa h KX G hmg;refine' K.OZ KX G hmg ?_ ?_ ?_ ?_ ?_ ?_ ?_ ?_ ?_ ?_ ?_ ?_ ?_ ?_ ?_ ?_ ?_ ?_ ?_ ?_ ?_ ?_ ?_ ?_ ?_ ?_ ?_ ?_ ?_ ?_ ?_ ?_ ?_ ?_ ?_ ?_ ?_ ?_ ?_ ?_ ?_ ?_ ?_ ?_ ?_ ?_ ?_ ?_ ?_ ?_ ?_ ?_ ?_ ?_ ?_ ?_ ?_ ?_ ?_ ?_ ?_ ?_ ?_ ?_ ?_ ?_ ?_ ?_ ?_ ?_ ?_ ?_
  iterate 24 · ext dk
  .refine' L2.MthD.of K.kq ?xa ?xb ?xc ?xd ?xe ?xf ?xl ?xg ?xk ?xn;(case xa=>k_is);(case xb=>k_is);(case xc=>k_is);(case xd=>k_is);(case xe=>k_is);(case xf=>k_is);(case xl=>k_is);(case xg=>k_is);(case xk=>k_is);(case xn=>k_is)
  .refine' L2.MthD.of K.gc ?xa ?xb ?xc ?xd ?xe ?xf ?xl ?xg ?xk ?xn;(case xa=>k_is);(case xb=>k_is);(case xc=>k_is);(case xd=>k_is);(case xe=>k_is);(case xf=>k_is);(case xl=>k_is);(case xg=>k_is);(case xk=>k_is);(case xn=>k_is)
  .refine' L2.MthD.of K.ux ?xa ?xb ?xc ?xd ?xe ?xf ?xl ?xg ?xk ?xn;(case xa=>k_is);(case xb=>k_is);(case xc=>k_is);(case xd=>k_is);(case xe=>k_is);(case xf=>k_is);(case xl=>k_is);(case xg=>k_is);(case xk=>k_is);(case xn=>k_is)
  .refine' L2.MthD.of K.oJ ?xa ?xb ?xc ?xd ?xe ?xf ?xl ?xg ?xk ?xn;(case xa=>k_is);(case xb=>k_is);(case xc=>k_is);(case xd=>k_is);(case xe=>k_is);(case xf=>k_is);(case xl=>k_is);(case xg=>k_is);(case xk=>k_is);(case xn=>k_is)
  .refine' L2.MthD.of K.jV ?xa ?xb ?xc ?xd ?xe ?xf ?xl ?xg ?xk ?xn;(case xa=>k_is);(case xb=>k_is);(case xc=>k_is);(case xd=>k_is);(case xe=>k_is);(case xf=>k_is);(case xl=>k_is);(case xg=>k_is);(case xk=>k_is);(case xn=>k_is)
  .refine' L2.MthD.of K.rg ?xa ?xb ?xc ?xd ?xe ?xf ?xl ?xg ?xk ?xn;(case xa=>k_is);(case xb=>k_is);(case xc=>k_is);(case xd=>k_is);(case xe=>k_is);(case xf=>k_is);(case xl=>k_is);(case xg=>k_is);(case xk=>k_is);(case xn=>k_is)
  .refine' L2.IniDK.of K.kI ?xa ?xd ?xl ?xe ?xk ?xf ?xm ?xc;(case xa=>k_is);(case xd=>k_is);(case xl=>k_is);(case xe=>k_is);(case xk=>k_is);(case xf=>k_is);(case xm=>k_is);(case xc=>k_is)
  iterate 18 · ext dk
  iterate 15 · k_is
  .refine' L2.ConK.strs (zs:=["random","two","least","quick"]) ?a ?l ?i ?z;(case a=>k_is);(case l=>k_is);(case i=>rfl);(case z=>decide)
  iterate 7 · refine' L2.InsF.of ?xa ?xb ?xc ?xd ?xe ?xf;(case xa=>k_is);(case xb=>k_is);(case xc=>k_is);(case xd=>k_is);(case xe=>k_is);(case xf=>k_is)