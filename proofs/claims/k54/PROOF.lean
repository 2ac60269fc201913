import PyProof.Rows.All
import Wide.All
import OpenK.AllK
import Wide.FinOn
import Lean
import PyProof.EqAt
import PyProof.EqKinds
import PyProof.TupleCall
import KE.KRevIter
import PyProof.FactsAll.range
import PyProof.P3In
import PyProof.ZipIter
import PyProof.TupleIter
import PyProof.WalkInts
import PyProof.SeqI3
import PyProof.EnumFor
import PyProof.EnumMake
import PyProof.ListMulRoad
import PyProof.Rows.SortRev
import PyProof.SumWalkG
import PyProof.StrWalks
import PyProof.StrCalls2
import PyProof.StrLawsTight
import KE.KIntText
import PyProof.StrBlockG
import PyProof.Rows.StrItems
import PyProof.StrLawsRepr
import PyProof.SliceStr2
import PyProof.StrBlockI
import PyProof.Rows.IntBool
import PyProof.Rows.FStr
import PyProof.FString
import PyProof.FactsAll.tuple
import KE.KSortTup
import PyProof.AutoListH
import PyProof.StrOps2
import PyProof.ListStr
import PyProof.DictRoadsH
import PyProof.Rows.TupTab
import PyProof.P3Eq
import PyProof.StationsW
import PyProof.RulesAs
import OpenK.KOwn
import KE.KTryMore
import PyProof.NsDelKeeps
import PyProof.ExcArgsOwn
import PyProof.ExcInit
import PyProof.InstStoreFacts
import PyProof.ListRange
import PyProof.TupleOfStr
import PyProof.CollectIter
import PyProof.DictItems
import PyProof.DictWalks
import PyProof.CollectWalk
import PyProof.AutoSeq1
import PyProof.DictTruth
import KE.RegKIsAll
import KE.RegKTryMore
import PySem.Challenge.RW_shorterline_k54_never_or_a_shortest_run
set_option Elab.async false
set_option linter.all false
set_option bootstrap.genMatcherCode false
set_option maxRecDepth 100000
namespace Zz
theorem e1_1{α:Sort _}{p:α→Prop}{g:Prop}(h:∃a,p a)(k:∀a,p a→g):g:=h.elim λa h=>k a h
theorem e0_2{p q:Prop}{g:Prop}(h:p∧q)(k:p→q→g):g:=k  h.1 h.2
theorem e2_1{α β:Sort _}{p:α→β→Prop}{g:Prop}(h:∃a b,p a b)(k:∀a b,p a b→g):g:=h.elim λa h=>h.elim λb h=>k a b h
theorem e1_2{α:Sort _}{p q:α→Prop}{g:Prop}(h:∃a,p a∧q a)(k:∀a,p a→q a→g):g:=h.elim λa h=>k a h.1 h.2
theorem e0_3{p q r:Prop}{g:Prop}(h:p∧q∧r)(k:p→q→r→g):g:=k  h.1 h.2.1 h.2.2
theorem e3_1{α β γ:Sort _}{p:α→β→γ→Prop}{g:Prop}(h:∃a b c,p a b c)(k:∀a b c,p a b c→g):g:=h.elim λa h=>h.elim λb h=>h.elim λc h=>k a b c h
theorem e2_2{α β:Sort _}{p q:α→β→Prop}{g:Prop}(h:∃a b,p a b∧q a b)(k:∀a b,p a b→q a b→g):g:=h.elim λa h=>h.elim λb h=>k a b h.1 h.2
theorem e1_3{α:Sort _}{p q r:α→Prop}{g:Prop}(h:∃a,p a∧q a∧r a)(k:∀a,p a→q a→r a→g):g:=h.elim λa h=>k a h.1 h.2.1 h.2.2
theorem e0_4{p q r s:Prop}{g:Prop}(h:p∧q∧r∧s)(k:p→q→r→s→g):g:=k  h.1 h.2.1 h.2.2.1 h.2.2.2
theorem e4_1{α β γ δ:Sort _}{p:α→β→γ→δ→Prop}{g:Prop}(h:∃a b c d,p a b c d)(k:∀a b c d,p a b c d→g):g:=h.elim λa h=>h.elim λb h=>h.elim λc h=>h.elim λd h=>k a b c d h
theorem e3_2{α β γ:Sort _}{p q:α→β→γ→Prop}{g:Prop}(h:∃a b c,p a b c∧q a b c)(k:∀a b c,p a b c→q a b c→g):g:=h.elim λa h=>h.elim λb h=>h.elim λc h=>k a b c h.1 h.2
theorem e2_3{α β:Sort _}{p q r:α→β→Prop}{g:Prop}(h:∃a b,p a b∧q a b∧r a b)(k:∀a b,p a b→q a b→r a b→g):g:=h.elim λa h=>h.elim λb h=>k a b h.1 h.2.1 h.2.2
theorem e1_4{α:Sort _}{p q r s:α→Prop}{g:Prop}(h:∃a,p a∧q a∧r a∧s a)(k:∀a,p a→q a→r a→s a→g):g:=h.elim λa h=>k a h.1 h.2.1 h.2.2.1 h.2.2.2
theorem e0_5{p q r s t:Prop}{g:Prop}(h:p∧q∧r∧s∧t)(k:p→q→r→s→t→g):g:=k  h.1 h.2.1 h.2.2.1 h.2.2.2.1 h.2.2.2.2
theorem i2_1{α β:Sort _}{p:α→β→Prop}(a:α)(b:β)(h0:p a b):∃a b,p a b:=⟨a,b,h0⟩
theorem i1_2{α:Sort _}{p q:α→Prop}(a:α)(h0:p a)(h1:q a):∃a,p a∧q a:=⟨a,h0,h1⟩
theorem i0_3{p q r:Prop}(h0:p)(h1:q)(h2:r):p∧q∧r:=⟨h0,h1,h2⟩
theorem i3_1{α β γ:Sort _}{p:α→β→γ→Prop}(a:α)(b:β)(c:γ)(h0:p a b c):∃a b c,p a b c:=⟨a,b,c,h0⟩
theorem i2_2{α β:Sort _}{p q:α→β→Prop}(a:α)(b:β)(h0:p a b)(h1:q a b):∃a b,p a b∧q a b:=⟨a,b,h0,h1⟩
theorem i1_3{α:Sort _}{p q r:α→Prop}(a:α)(h0:p a)(h1:q a)(h2:r a):∃a,p a∧q a∧r a:=⟨a,h0,h1,h2⟩
theorem i0_4{p q r s:Prop}(h0:p)(h1:q)(h2:r)(h3:s):p∧q∧r∧s:=⟨h0,h1,h2,h3⟩
theorem i4_1{α β γ δ:Sort _}{p:α→β→γ→δ→Prop}(a:α)(b:β)(c:γ)(d:δ)(h0:p a b c d):∃a b c d,p a b c d:=⟨a,b,c,d,h0⟩
theorem i3_2{α β γ:Sort _}{p q:α→β→γ→Prop}(a:α)(b:β)(c:γ)(h0:p a b c)(h1:q a b c):∃a b c,p a b c∧q a b c:=⟨a,b,c,h0,h1⟩
theorem i2_3{α β:Sort _}{p q r:α→β→Prop}(a:α)(b:β)(h0:p a b)(h1:q a b)(h2:r a b):∃a b,p a b∧q a b∧r a b:=⟨a,b,h0,h1,h2⟩
theorem i1_4{α:Sort _}{p q r s:α→Prop}(a:α)(h0:p a)(h1:q a)(h2:r a)(h3:s a):∃a,p a∧q a∧r a∧s a:=⟨a,h0,h1,h2,h3⟩
theorem i0_5{p q r s t:Prop}(h0:p)(h1:q)(h2:r)(h3:s)(h4:t):p∧q∧r∧s∧t:=⟨h0,h1,h2,h3,h4⟩
end Zz
local macro_rules
 |`(tactic|let $d:letDecl)=>do
  let D:=d.raw[0];let p:=D[0];let q:=p[1].getSepArgs
  if p.getKind !=``Lean.Parser.Term.anonymousCtor||q.size<2 then Lean.Macro.throwUnsupported
  let mut e:Lean.TSyntax `term:=⟨D[4]⟩
  if D[2].getNumArgs !=0 then e:=←`(($e : $(⟨D[2][0][1]⟩)))
  let T:=Array (Lean.TSyntax `tactic)
  let mut U:T:=#[]
  let mut cl:T:=#[]
  if e.raw.isIdent then cl:=#[←`(tactic|try clear $(⟨e.raw⟩))]
  let K:=Nat.min q.size 5
  for k in [0:K-1] do
   let N:=K-k
   let mut z:=cl
   for i in [0:N] do
    let c:=q[i]!
    if c.isIdent&&c.getId !=`rfl&&(i+1<N||N==q.size) then z:=z.push (←`(tactic|intro $(⟨c⟩):ident))
    else
     let y:=Lean.mkIdent (←Lean.Macro.addMacroScope (.mkSimple s!"x{i}"))
     z:=z.push (←`(tactic|intro $y:ident))
     if i+1==N&&N<q.size then
      let r:Lean.TSyntaxArray `term:=(q.extract i q.size).map (⟨·⟩)
      z:=z.push (←`(tactic|let ⟨$r,*⟩:=$y))
     else if c.getKind==``Lean.Parser.Term.anonymousCtor then z:=z.push (←`(tactic|let $(⟨c⟩):term:=$y))
     else if c.isIdent then z:=z.push (←`(tactic|rcases $y:ident with $(⟨c⟩):ident))
   for i in [0:N] do
    let s:=#[←`(tactic|refine $(Lean.mkIdent (.mkStr2 "Zz" s!"e{N-1-i}_{i+1}")) $e ?_)]++z
    U:=U.push (←`(tactic|($[$s:tactic];*)))
  let rec cv:Nat->Lean.Syntax->Lean.MacroM (Lean.TSyntax `rcasesPat)
   |0,_=>Lean.Macro.throwUnsupported
   |n+1,c=>do
    if c.isIdent then `(rcasesPat|$(⟨c⟩):ident)
    else if c.getKind==``Lean.Parser.Term.anonymousCtor then
     let a:=←c[1].getSepArgs.mapM (cv n)
     `(rcasesPat|⟨$[$a],*⟩)
    else `(rcasesPat|_)
  let m←cv 9 p
  `(tactic|first $[|$U:tactic]*|rcases $e:term with $m:rcasesPat)
 |`(tactic|intro $a*)=>do
  let C:=λx:Lean.Syntax=>x.getKind==``Lean.Parser.Term.anonymousCtor||x.getId==`rfl
  if !a.any (C ·.raw) then Lean.Macro.throwUnsupported
  let mut z:Array (Lean.TSyntax `tactic):=#[]
  for x in a do
   if C x then
    let y:=Lean.mkIdent (←Lean.Macro.addMacroScope `y)
    z:=z.push (←`(tactic|intro $y:ident))
    z:=z.push (←if x.raw.isIdent then `(tactic|rcases $y:ident with $(⟨x⟩):ident) else `(tactic|let $x:term:=$y))
   else z:=z.push (←`(tactic|intro $x:term))
  `(tactic|($[$z:tactic];*))
 |`(tactic|exact ⟨$a,*⟩)=>do
  let q:=a.getElems;let n:=q.size
  if n<3||5<n then Lean.Macro.throwUnsupported
  let mut U:Array (Lean.TSyntax `tactic):=#[]
  for i in [0:n] do U:=U.push (←`(tactic|exact $(Lean.mkIdent (.mkStr2 "Zz" s!"i{n-1-i}_{i+1}")) $q*))
  `(tactic|first $[|$U:tactic]*|exact (⟨$a,*⟩))
 |`(tactic|refine ⟨$a,*⟩)=>do
  let q:=a.getElems;let n:=q.size
  if n<3||5<n then Lean.Macro.throwUnsupported
  let mut U:Array (Lean.TSyntax `tactic):=#[]
  for i in [0:n] do U:=U.push (←`(tactic|refine $(Lean.mkIdent (.mkStr2 "Zz" s!"i{n-1-i}_{i+1}")) $q*))
  `(tactic|first $[|$U:tactic]*|refine (⟨$a,*⟩))
local macro_rules |`(tactic|ext a)=>`(tactic|walk_at"a")|`(tactic|ext b)=>`(tactic|walk_at"b")|`(tactic|ext c)=>`(tactic|walk_at"c")|`(tactic|ext d)=>`(tactic|walk_at"d")|`(tactic|ext dk)=>`(tactic|walk_at"dk")|`(tactic|ext dm)=>`(tactic|walk_at"dm")|`(tactic|ext e)=>`(tactic|walk_at"e")|`(tactic|ext f)=>`(tactic|walk_at"f")|`(tactic|ext g)=>`(tactic|walk_at"g")|`(tactic|ext h)=>`(tactic|walk_at"h")|`(tactic|ext n)=>`(tactic|walk_at"n")|`(tactic|ext s)=>`(tactic|walk_at"s")|`(tactic|ext sc)=>`(tactic|walk_at"sc")|`(tactic|ext x)=>`(tactic|walk_at"x")
open PySem renaming PyData->aD,wpAny_bind->gT,Value->Ad,Shared->Io,wpAny_pure->Ld,starEach->aac,sizeLine_eq->aak,sizeLine->aal,mainGlobals->aaA,Program->aaK,foldedSetIterable->aaQ,Heap->aaT,bootBuiltins->aaU,wpAny_setField_rec->aaV,wpAny_callSpecial?_slot->aaZ,compareOp->aa8,wpAny_isOneOf_itemiter->aba,wpAny_call_entry->abb,wpAny_newObj_type->abc,Around->abf,backTo->abj,attributeBase->abo,sysModules->abr,swapsWith->abx,wpAny_field->abA,Paired->abK,assignEach->abQ,keywordEach->abR,wpAny_holding->abU,FuncData->abX,DictEntry->ab0,binaryOp->acd,mem_of_lookup->ack,wpAny_mono->acq,wpAny_Call_Name_kw->acs,wpAny_seqItems->acv,wpAny_passesOwn->acx,standAt->acA,Builtin->acB,wpAny_dictEntries->acF,wpAny_rule->acI,behindInMarks->acJ,pyNext->acP,backToKw->acR,wpAny_typeOf->acV,Keyword->acW,IsItemIter->ac1,codeAny_builtin->ac6,wpAny_standAt->ac7,wpAny_truthy_bool->adb,holding->adj,wpAny_isInstance->adm,swapsWithSole->adz,swappedStores->adA,bindArgs->adB,wpAny_comprehension_free->adE,ReadsAll->adF,setField->adG,wpAny_attempt->adH,letOwnedTupleGo->adK,codeAny->adL,wpAny_dictEpoch->adO,call_meets->adQ,tupleKind_room_in1->adT,sliceBounds->adW,codeAny_mono->adZ,getMethod->aed,wpAny_forIn_list->aeg,getItem->aei,NameKind->ael,wpAny_updateSeq_pair->aeo,wpAny_execs_nil->aer,wpAny_loadPart'->aex,wpAny_specialOf->aey,valueAt->aeF,Operator->aeJ,rawInt->aeR,wpAny_fieldsOf->aeT,wpAny_binaryOp_repeat_ref->aeX,wpAny_sequenceKey->ae3,slot_list_getitem->ae4,wpAny_letGo->ae6,assign->ae9,wpAny_getItem_list_slice->afb,IsPair->afd,wpAny_onRaise->afe,wpAny_newList->afh,IsItemIterOut->afk,PassesOwn->afo,noFill_tuple_add->afp,Within->afy,pyIter->afz,concat_meets->afC,IsPart->afD,typeIs_int->afF,wpAny_Call_method_late->afG,wpAny_Assign_Subscript->afJ,wpAny_ret_mkInt->afT,wpAny_updateSeq->afU,exec_Assign_Name_used->afX,wpAny_notOrdered_dict->af1,callWith->af3,subscripted->af4,compEnvC->af6,wpAny_newTuple->af8,isSubtype_stop->af9,tupleKind->agc,callerA->agd,relabel->age,seq_tuple_add->agn,plainId_quiet->agr,IntMulOk->agD,BindsTo->agF,newList->agI,call_meetsIn->agP,slicePick->agW,seqSlot_of->ag1,specialOf->ag3,call->ahh
open List renaming length_map->iO,getElem?_eq_getElem->lD,getElem?_eq_some_iff->AD,mem_of_getElem?->GT,mem_singleton->aaa,mem_cons_self->aae,mem_cons_of_mem->aaf,mem_cons->aah,getElem?_map->aai,mem_map->aam,length_append->aan,map_cons->aao,replicate->aar,getD_eq_getElem?_getD->aat,take_length->aau,range->aax,length_cons->aaB,length_take->aaC,map_append->aaD,getElem?_append_left->aaF,mem_append->aaG,mem_append_right->aaH,size_toArray->aaI,take_add_one->aaJ,getElem?_append_right->aaM,getElem?_take->aaO,getElem?_set_ne->aaP,Nodup->aaS,length_range->aaW,append_nil->aaY,lookup_cons->aa1,getElem?_set_self->aa2,eq_nil_of_length_eq_zero->aa4,append_assoc->aa6,nodup_cons->aa7,map_map->aa9,nil_append->abd,length_set->abe,getElem?_of_mem->abq,mem_append_left->aby,nodup_nil->abB,all_eq_true->abD,not_mem_nil->abE,pairwise_iff_getElem->abG,mem_iff_getElem->abT,all_cons->abV,getElem?_range->ab1,range_succ->ab2,mem_flatMap->ab6,mem_of_mem_take->ace,ext_getElem?->acg,pairwise_singleton->ach,replicate_succ->acl,filter_cons->acp,pairwise_cons->acu,nodup_append->acD,sum_cons->acK,map_congr_left->acO,any_eq_true->acT,length_replicate->ac8,reverse_cons->ade,length->adg,getElem_mem->adn,cons_append->ado,map_nil->adp,getElem_map->adq,filterMap_cons->adt,flatMap_append->adu,getElem_set_ne->adw,length_nil->adN,getElem?_replicate->adU,set_eq_take_append_cons_drop->adX,all_map->ad7,length_singleton->aeb,length_filter_le->aec,length_drop->aef,lookup->aek,foldl_cons->aes,forIn_cons->aeu,mem_range->aeH,filter_append->aeV,mem_or_eq_of_mem_set->aeY,any_cons->afi,take_of_length_le->afI,mem_filter->afO,of_mem_zip->afR,getElem_set_self->afY,getElem?_eq_none->af0,contains_iff_mem->af2,getElem?_mapIdx->aga,length_reverse->agh,map_eq_nil_iff->agk,filterMap_map->agt,set_cons_zero->agy,set_cons_succ->agz,map_replicate->agA,flatten_cons->agG,foldl_append->agS,ext_getElem->agY,zipIdx_cons->ag0,isEmpty_iff->ag2,range'->ag5,map_id->ag6,foldl->ahg
open PySem.Heap renaming get?_push_of_some->LD,get?_push_size->aap,lt_size->aaq,size_push->abz,SameBut->abW,get?_update_other->acX,get?_update_self->ada,size_update->aeh,ExtBut->af7
open Nat renaming le_refl->aab,lt_of_lt_of_le->aav,le_trans->aaw,ne_of_lt->aa0,zero_le->abh,ne_of_gt->abt,lt_succ_self->abv,mul_le_mul->abC,zero_add->acm,le_add_right->aco,le_of_lt->acz,mul_le_mul_right->acE,lt_irrefl->acH,mul_comm->acY,min_le_right->adk,succ_mul->adl,zero_ne_add_one->ady,lt_succ_of_lt->ad3,lt_trans->ad5,le_of_ble_eq_true->ad9,le_max_left->aev,lt_or_gt_of_ne->aeN,le_succ->ae2,add_assoc->aff,gcd_pos_of_pos_right->afj,le_of_eq->afA,succ_pos->afM,add_left_cancel->agj,min_self->agM,lt_trichotomy->agQ,mul_add->ag7,mod_lt->ahi
open PySem.PyData renaming eqv->aad,depthAll->aay,hasDict_of_canLay->aa3,hasDictAll_of_canLayAll->abn,canLayAll0->abp,int->abu,tuple->abw,hasDict->abY,hasDictAll->acf,shownAll->ac5,str->adR,canLay0->aeO,list->ae5,shown->afH,showableAll->agv,noDict_hsm->agK
open PySem.W renaming Frag->aag,nsIn->aaL,mg_none_of->aaX,fnOf->abi,findIn->abm,emptyDict->abJ,keepIn->abL,instObj->aci,plainGet->acQ,kia_one->ac4,hasDictIn->add,codeIn->adh,plainOver->adY,plainGet_of->aeB,isFn->aeC,lookIn->aeL,callWith_K->aeM,cellsFrom_some->afB,takerIn->afP,makesIn->afQ,methodCall_KW->afW,mg_of->agq,handedIn->agT,OpenLaw->ag8,WalkO->ahj
open Bool renaming false_ne_true->aaj,and_eq_true->aaR,eq_iff_iff->abl,false_eq_true->ab5,and_true->acb,or_true->ac2,beq_eq_decide_eq->ac9,or_eq_false_iff->aen,not_eq_true->afs,or_eq_true->afS
open Option.some renaming inj->aas,injEq->agJ
open PySem.PassesOwn renaming never->aaE
open Int renaming toNat_natCast->aaN,eq_ofNat_of_zero_le->acU,emod_lt_of_pos->ac3,natCast_mul->adM,emod_nonneg->adP,le_trans->ad8,le_refl->aeq,natCast_add->aez,ediv_nonneg->afV,toNat->agf
open PySem.F renaming slot_dict_itemiterator_next->aa5,args_dict_itemiterator_next_1->ab3,entry_dict_itemiterator_next->ab7,slot_tuple_index->aca,type_tuple_index->acL,slot_list_append->acM,type_list_append->acN,plain_extend_loop->adx,args_tuple_add_2->adC,entry_tuple_add->adV,slot_tuple_add->ad1,slot_tuple_mul->ad4,slot_dict_get->aea,slot_zip_next->aew,slot_dict_items_iter->aeA,slot_tuple_iterator_next->aeQ,slot_dict_getitem->aeZ,slot_tuple_hash->ae8,slot_list_extend->afm,type_list_extend->afn,slot_list_index->afq,slot_tuple_rmul->afr,args_dict_get_3->aft,plainAttrs_dict->afu,slot_dict_items->afv,entry_dict_get->afK,slot_int_rmul->afZ,entry_extend_loop->agi
open PySem.Value renaming ref->abg,type->adf,none->afx,int->agb,bool->ahe,str->ahl
open PyProof.Rows renaming slot_tuple_getitem->abk,seqObj->acS,callWith_type1->adc,envOfC->ad0,callWith_builtin1->aee,IntsAre->aeD,assignInOrder_cons->aeK,AllBare->ae1,listUpdate_at->afg,subscriptTail_builtinR->afE,sortedHeap->afN,tupleItemsOf_->ago,subscriptTail->agp,Subscript_->agu,listItems_at->agN
open PySem.Builtin.Tuple renaming tupleHashOf->abF,tupleExact->abM,tupleItemsOf->adi,tupleIsExact->aeP,tupleTooMany->aeS
open PySem.Builtin.SmallTypes renaming nextOf->abH,ownedTupleIsFree->adI
open Array renaming length_toList->abI,getElem?_eq_getElem->ab4,getElem?_toList->acw,getElem?_eq_none->afL,forIn_toList->agB,toList->agC,size_push->ag9
open PySem.Builtin.Dict_items renaming ownedTupleIsFree->abN,ownsTuple->abP,pairFromOwner->abZ,isOneOf->aeU
open Ne renaming symm->abO
open PySem.Str renaming ofString->ab8,empty->aeG
open PySem.SeqAt renaming shaped->ab9,canLay_of_shaped->acZ,readOf->ac0,EqAt->afw,readsAll_map->agw,items_eqAt->agZ,eqAt_reads->ag4
open False renaming elim->acj
open PySem.Builtin.List renaming listLengthHint->acn,listTooLong->adD,listSameRef->adJ,listExtendWith->aeE
open True renaming intro->acr
open PySem.Obj renaming mapSeq->act,data_mapFields->agx
open Option renaming map_some->acy,map_eq_some_iff->ad6,isSome_map->ae7,isSome_iff_exists->afa,getD_none->agU
open PySem.Builtin.Slice renaming slicePlaces->adr,sliceAdjust->aeW
open Or renaming inr->adv,inl->afc
open PySem.Calls renaming callWith_builtin->ad2,Name_function_global->aeI,call_function_entry->ae0,evalArgs_plain->af5,spliced_cons->ags,spliced_nil->agE
open PySem.NameKind renaming free->aej,cell->ahk
open Prod renaming ext->aem,ext_iff->agR
open PySem.Around renaming under_plainId->aep
open ForInStep renaming yield->aet
open PySem.Shared renaming TypeIs->afl
open PySem.Heap.SameBut renaming update->agg
open PySem.Paired renaming length->agm
open List.Pairwise renaming nil->agH
open And renaming intro->agX
open Sum renaming inl->aha,inr->ahb
namespace L2
open PySem PySem.Spec PyProof.Rows
variable{us:List Ad}{H:Hp}{C a b:Addr}{o:HO}{h:aaT}{P:aaK}{w:World}{g':Array GenState}{i j t':Nat}{ch fp:List Addr}{N ps:List Str}{x:Str}{M:Model}{A:abf}{E Q:Ad->Io->Prop}{v:V}{u:Ad}{X:Cx}{c e tg:Expr}{pos:Pos}{pins:List (Addr×Obj)}{σ:St}{K:aag}{es:List Expr}{te:TE}{op:CmpOp}{body:List Stmt}{f:Ad->Ad->Sem Ad}{r:R2}{g:Int->Int->Int}{mA mg:Str->Option Ad}{pl:Sem Bool}{kw:List (Str×Ad)}{outer:List Env}{vs:List V}{scope:Scope}
abbrev Key:=Sum Int Str
def yo:Key->Ad->Bool
 | .inl k,v=>Value.isInt k v
 | .inr x,v=>Value.isStrOf x v
def keyH(w:World):Key->Int
 | .inl k=>hashInt k
 | .inr x=>hashStr w x
theorem b8:∀{k:Key}{v:Ad},yo k v=true->(∃i t,k=aha i/\v=agb i t)\/(∃x t,k=ahb x/\v=ahl x t)
 | .inl i,v,h=>by
  let⟨t,e⟩:=Ad.isInt_shape h;exact .inl ⟨i,t,rfl,e⟩
 | .inr x,v,h=>by
  let⟨t,e⟩:=Ad.isStrOf_shape h;exact .inr ⟨x,t,rfl,e⟩
def yX(i:Int)(t:Tok):yo (.inl i) (.int i t)=true:=by simp[yo,Value.isInt]
def yV(x:Str)(t:Tok):yo (.inr x) (.str x t)=true:=by simp[yo,Value.isStrOf]
theorem QW(a b:Int):decide ((aha a:Key)=aha b)=(a==b):=by
 by_cases e:a=b
 .subst e;simp
 .simp_all
def T8(a b:Str):decide ((ahb a:Key)=ahb b)=decide (a=b):=by simp
def QM(a:Int)(b:Str):decide ((aha a:Key)=ahb b)=false:=rfl
def Qh(a:Str)(b:Int):decide ((ahb a:Key)=aha b)=false:=rfl
def cy(prog:aaK)(w:World):PySem.KeyKind prog w Key where
 is:=yo
 hash:=keyH w
 inj:=λv a b n l=>by
  rcases b8 n with⟨i,t,rfl,rfl⟩|⟨x,t,rfl,rfl⟩
  .rcases b8 l with⟨j,u,rfl,e⟩|⟨y,u,rfl,e⟩
   .injection e with e1 _;rw[e1]
   .exact nomatch e
  .rcases b8 l with⟨j,u,rfl,e⟩|⟨y,u,rfl,e⟩
   .exact nomatch e
   .injection e with e1 _;rw[e1]
 byValue:=λk v h=>by
  rcases b8 h with⟨i,t,rfl,rfl⟩|⟨x,t,rfl,rfl⟩<;>rfl
 pyHash:=λd h=>by
  rcases b8 d with⟨i,t,rfl,rfl⟩|⟨x,t,rfl,rfl⟩
  .exact wpAny_pyHash_int h
  .exact wpAny_pyHash_str h
 eqBool:=λm d h=>by
  rcases b8 m with⟨i,t,rfl,rfl⟩|⟨x,t,rfl,rfl⟩
  .rcases b8 d with⟨j,u,rfl,rfl⟩|⟨y,u,rfl,rfl⟩
   .rw[QW]at h;exact wpAny_eqBool_int h
   .rw[QM]at h;exact afw.int_str i t y u _ _ _ _ h
  .rcases b8 d with⟨j,u,rfl,rfl⟩|⟨y,u,rfl,rfl⟩
   .rw[Qh]at h;exact afw.str_int x t j u _ _ _ _ h
   .rw[T8]at h;exact wpAny_eqBool_str h
 «strs»:=λk x t v h=>by
  rcases b8 h with⟨i,u,rfl,e⟩|⟨y,u,rfl,e⟩
  .exact nomatch e
  .injection e with e1 _
   subst e1
   cases v<;>rfl
def ve(prog:aaK)(w:World)(i:Int)(t:Tok):(cy prog w).is (.inl i) (.int i t)=true:=yX i t
def vy(prog:aaK)(w:World)(x:Str)(t:Tok):(cy prog w).is (.inr x) (.str x t)=true:=yV x t
inductive V where
 |non|bl (b:Bool)|int (i:Int)|str (x:Str)|byt (b:Array UInt8)|flt (b:UInt64)|ref (a:Addr)|ty (n:String)
 deriving DecidableEq
def RelV:V->Ad->Prop
 | .non,u=>u=afx
 | .bl b,u=>u=ahe b
 | .int i,u=>∃t,u=agb i t
 | .str x,u=>∃t,u=ahl x t
 | .byt b,u=>∃t,u=Ad.bytes b t
 | .flt b,u=>∃t,u=Ad.float b t
 | .ref a,u=>u=abg a
 | .ty n,u=>u=adf n
abbrev Vals:List V->List Ad->Prop:=abK RelV
def Vals.length{xs:List V}(r:Vals xs us):xs.length=us.length:=agm r
theorem Vals.get:∀{xs:List V}{us:List Ad}{i:Nat}{x:V},Vals xs us->xs[i]?=some x->∃u,us[i]?=some u/\RelV x u
 |_,_,_,_,.nil,e=>by simp at e
 |_,_,0,_,.cons r _,e=>by simp at e;subst e;exact⟨_,rfl,r⟩
 |_,_,i+1,x,.cons _ t,e=>by
  let⟨u,d,k⟩:=Vals.get t ‹_›;exact⟨u,by simpa using d,k⟩
theorem Vals.append:∀{xs ys:List V}{us d:List Ad},Vals xs us->Vals ys d->Vals (xs++ys) (us++d)
 |_,_,_,_,.nil,s=>s
 |_,_,_,_,.cons r t,s=>.cons r (Vals.append t s)
theorem Vals.take:∀{xs:List V}{us:List Ad} (n:Nat),Vals xs us->Vals (xs.take n) (us.take n)
 |_,_,0,_=>.nil
 |_,_,_+1,.nil=>.nil
 |_,_,n+1,.cons r t=>.cons r (Vals.take n t)
theorem Vals.drop:∀{xs:List V}{us:List Ad} (n:Nat),Vals xs us->Vals (xs.drop n) (us.drop n)
 |_,_,0,r=>r
 |_,_,_+1,.nil=>.nil
 |_,_,n+1,.cons _ t=>Vals.drop n t
theorem Vals.none_of:∀{xs:List V}{us:List Ad}{i:Nat},Vals xs us->xs[i]?=none->us[i]?=none:=λ{xs us i} r e=>by
 have d:=r.length
 simp_all
def RelO:Option V->Option Ad->Prop
 |some v,some u=>RelV v u
 |none,none=>True
 |_,_=>False
def KV{d:Type}:List (d×V)->List (d×Ad)->Prop:=abK λ(p:d×V) (q:d×Ad)=>p.1=q.1/\RelV p.2 q.2
def kV:Key->V
 | .inl i=>.int i
 | .inr x=>.str x
inductive HO where
 |lst (xs:List V)
 |tup (xs:List V)
 |dK (kvs:List (Key×V))|dT (kvs:List (List Key×V))
 |set (S:Int->Bool) (n:Nat)
 |ins (C dx:Addr) (fs:List (Str×V))
 |own (x:Addr)
 |xd (fs:List (Str×V))
 |met (f x:Addr)
 |rng (lo hi:Int)
 |frz (o:Obj) (u:HO)
 |tbl (ps:Array Ad)
 |ext (φ:aaT->Prop)
abbrev Hp:=Addr->Option HO
def upd(H:Hp)(a:Addr)(o:HO):Hp:=λb=>if b=a then some o else H b
def aE:upd H a o a=some o:=by unfold upd;rw[if_pos rfl]
def aB(h:b≠a):upd H a o b=H b:=by unfold upd;rw[if_neg h]
theorem vj{u:HO}(h:H a=some o)(h':H b=some u)(d:o≠u):a≠b:=by
 intro e;subst e;rw[h]at h';exact d (aas h')
theorem bv(h:H a=some o)(h':H b=none):a≠b:=by grind
def PlainT(h:aaT)(a:Addr)(items:Array Ad):Prop:=∃o,h.get? a=some o/\o.cls = .type "tuple"/\o.dict=none/\∃n,o.data = .seq items n
theorem PlainT.tup{items:Array Ad}(x:PlainT h a items):IsTup h a items:=let ⟨o,e,c,_,d⟩:=x;⟨o,e,c,d⟩
def PlainT.new(h:aaT)(items:Array Ad):PlainT (h.push {cls:=.type "tuple",data:=.seq items}) h.objs.size items:=⟨_,aap _ rfl,rfl,rfl,_,rfl⟩
section
variable (P:aaK) (w:World)
def ObjOk(H:Hp)(h:aaT)(a:Addr):HO->Prop
 | .lst l=>l.length≤aal/\∃(d:List Ad) (n:Nat),Vals l d/\h.get? a=some {cls:=.type "list",data:=.seq d.toArray n}
 | .tup l=>l.length≤aal/\∃d:List Ad,Vals l d/\PlainT h a d.toArray
 | .dK k=>k.length≤aal/\(a==abr)=false/\∃vs,KV k vs/\h.DictOf (cy P w) a vs
 | .dT k=>k.length≤aal/\(a==abr)=false/\∃l:List (List Key×Addr×Ad),
   abK (λ(p:List Key×V) (q:List Key×Addr×Ad)=>p.1=q.1/\H q.2.1=some (.tup (p.1.map kV))/\RelV p.2 q.2.2) k l/\
   ∃o es z,h.get? a=some o/\o.ExactDict/\o.data = .dict es z/\es.toList=l.map (entryOfKey (agc (cy P w)))/\(l.map (·.1)).Nodup
 | .set S n=>h.SetOf (intKind P w) a S n
 | .ins C dx fs=>H dx=some (.own a)/\fs.length≤1000/\dx≠a/\h.get? a=some (aci C dx)/\
   ∃mA,h.Ns1 dx mA/\(∀f,RelO (fs.lookup f) (mA f))/\afy mA (fs.map (·.1))
 | .own _=>∃o,h.get? a=some o
 | .xd fs=>∃mA,h.Ns1 a mA/\∀f,RelO (fs.lookup f) (mA f)
 | .rng D B=>∃t u v,h.get? a=some {cls:=.type "range",data:=.fields #[.int D t,.int B u,.int 1 v]}
 | .frz o u=>h.get? a=some o/\ObjOk H h a u
 | .tbl ps=>h.get? a=some {cls:=.none,data:=.fields ps}
 | .met f x=>h.get? a=some (PySem.W.methodObj (.ref f) (.ref x))
 | .ext m=>m h/\(∃o,h.get? a=some o)/\∀s y:aaT,m s->(∀o,s.get? a=some o->y.get? a=some o)->m y
def HOk(H:Hp)(h:aaT):Prop:=∀a o,H a=some o->ObjOk P w H h a o
end
section
variable {P:aaK}{w:World}{H g:Hp}{h h':aaT}{a:Addr}{o:HO}
theorem ObjOk.lt(x:ObjOk P w H h a o):a<h.objs.size:=by
 cases o with
 |lst d=>let⟨_,_,_,_,e⟩:=x;exact aaq e
 |tup d=>let⟨_,_,_,p⟩:=x;exact p.tup.lt
 |dK k=>let⟨_,_,_,_,o,_,_,e,_⟩:=x;exact aaq e
 |dT k=>let⟨_,_,_,_,o,_,_,e,_⟩:=x;exact aaq e
 |set S n=>let⟨o,_,_,_,e,_⟩:=x;exact aaq e
 |ins C dx fs=>let⟨_,_,_,e,_⟩:=x;exact aaq e
 |own y=>let⟨_,e⟩:=x;exact aaq e
 |xd fs=>let⟨_,⟨_,_,_,e,_⟩,_⟩:=x;exact aaq e
 |rng q l=>let⟨_,_,_,e⟩:=x;exact aaq e
 |frz m u=>let⟨e,_⟩:=x;exact aaq e
 |tbl ps=>exact aaq (x)
 |met f y=>exact aaq (x)
 |ext s=>let⟨_,⟨_,e⟩,_⟩:=x;exact aaq e
theorem Paired.mapP{k β:Type}{F G:k->β->Prop}:∀{d:List k}{l:List β},abK F d l->(∀a b,F a b->G a b)->abK G d l
 |_,_,.nil,_=>.nil
 |_,_,.cons r t,f=>.cons (f _ _ r) (Paired.mapP t f)
theorem ObjOk.stay(x:ObjOk P w H h a o)(k:∀b u,(b=a\/H b=some (.own a))->h.get? b=some u->h'.get? b=some u)
  (I:∀b,H b=some (.own a)->g b=some (.own a)) (G:∀b xs,H b=some (.tup xs)->g b=some (.tup xs)):ObjOk P w g h' a o:=by
 induction o with
 |lst xs=>let⟨z,s,n,r,e⟩:=x;exact⟨z,s,n,r,k _ _ (.inl rfl) e⟩
 |tup xs=>let⟨z,s,r,l,e,c⟩:=x;exact⟨z,s,r,l,k _ _ (.inl rfl) e,c⟩
 |dK D=>let⟨z,y,vs,r,l,es,m,e,c⟩:=x;exact⟨z,y,vs,r,l,es,m,k _ _ (.inl rfl) e,c⟩
 |dT D=>
  let⟨z,y,xs,r,l,es,m,e,c⟩:=x;exact⟨z,y,xs,Paired.mapP r λp q z=>⟨z.1,G _ _ z.2.1,z.2.2⟩,l,es,m,k _ _ (.inl rfl) e,c⟩
 |set S n=>let⟨l,es,m,t,e,c⟩:=x;exact⟨l,es,m,t,k _ _ (.inl rfl) e,c⟩
 |ins C dx fs=>
  let⟨d,z,ne,e,mA,⟨B,es,m,L,c⟩,r⟩:=x;exact⟨I _ d,z,ne,k _ _ (.inl rfl) e,mA,⟨B,es,m,k _ _ (.inr d) L,c⟩,r⟩
 |own y=>let⟨l,e⟩:=x;exact⟨l,k _ _ (.inl rfl) e⟩
 |xd fs=>let⟨mA,⟨B,es,m,e,c⟩,r⟩:=x;exact⟨mA,⟨B,es,m,k _ _ (.inl rfl) e,c⟩,r⟩
 |rng R O=>let⟨t,u,v,e⟩:=x;exact⟨t,u,v,k _ _ (.inl rfl) e⟩
 |frz l u J=>let⟨e,q⟩:=x;exact⟨k _ _ (.inl rfl) e,J q⟩
 |tbl ps=>
  have e:h.get? a=some {cls:=.none,data:=.fields ps}:=x;exact k a _ (.inl rfl) e
 |met f y=>
  have e:=x;exact k a _ (.inl rfl) e
 |ext T=>let⟨p,⟨o,e⟩,F⟩:=x;exact⟨F _ _ p λo q=>k _ _ (.inl rfl) q,⟨o,k _ _ (.inl rfl) e⟩,F⟩
def HOk.lt(x:HOk P w H h)(e:H a=some o):a<h.objs.size:=(x a o e).lt
theorem HOk.fresh(x:HOk P w H h)(e:h.objs.size≤a):H a=none:=by
 cases q:H a with
 |none=>rfl
 |some u=>exact absurd (aav (x.lt q) e) (acH _)
theorem HOk.kept(x:HOk P w H h)(k:∀b u,h.get? b=some u->h'.get? b=some u):HOk P w H h':=λa o e=>
 (x a o e).stay (λb u _ q=>k b u q) (λ_ q=>q) λ_ _ q=>q
theorem HOk.laid(x:HOk P w H h)(k:∀b u,h.get? b=some u->h'.get? b=some u)(m:h.objs.size≤a)(new:ObjOk P w (upd H a o) h' a o):HOk P w (upd H a o) h':=λb u e=>by
 have l:=x.fresh m
 by_cases d:b=a
 .subst d;rw[aE]at e;grind
 .rw[aB d]at e;exact(x b u e).stay (λc v _ q=>k c v q) (λc q=>by rw[aB (bv q l)];exact q) λc n q=>by rw[aB (bv q l)];exact q
end
def Rd(H:Hp)(a:Addr)(u:HO):Prop:=H a=some u\/∃o,H a=some (.frz o u)
theorem Rd.ok{u:HO}(r:Rd H a u)(x:HOk P w H h):ObjOk P w H h a u:=by
 rcases r with r|⟨o,r⟩
 .exact x a u r
 .obtain⟨_,q⟩:=x a _ r;exact q
def Mut:Option HO->Prop
 |some (.lst _)=>True
 |some (.dK _)=>True
 |some (.dT _)=>True
 |some (.set _ _)=>True
 |some (.ins _ _ _)=>True
 |some (.ext _)=>True
 |_=>False
section
variable {P:aaK}{w:World}{H:Hp}{h h':aaT}{x e:Addr}{o:HO}
theorem HOk.write(ok:HOk P w H h)(mu:Mut (H x))(B:e=x\/H e=some (.own x))(k:∀b u,b≠e->h.get? b=some u->h'.get? b=some u)(s:∃u,h'.get? e=some u)
  (new:ObjOk P w (upd H x o) h' x o):HOk P w (upd H x o) h':=λb u q=>by
 have n:∀c y,H c=some (.own y)->c≠x:=λc y r z=>by subst z;rw[r]at mu;exact mu
 have l:∀c m,H c=some (.tup m)->c≠x:=λc m r z=>by subst z;rw[r]at mu;exact mu
 by_cases p:b=x
 .subst p;rw[aE]at q;grind
 .rw[aB p]at q
  by_cases d:b=e
  .have q':H b=some (.own x):=by
    rcases B with z|z
    .exact absurd (d.trans z) p
    .rw[d];exact z
   rw[q]at q';cases q';let⟨v,t⟩:=s;exact⟨v,by rw[d];exact t⟩
  .refine(ok b u q).stay (λc v D r=>k c v ?_ r) (λc r=>by rw[aB (n c b r)];exact r) λc m r=>by rw[aB (l c m r)];exact r
   grind
end
structure Un(fs ex:List Addr)(H H':Hp)(h h':aaT):Prop where
 keep:∀b o,h.get? b=some o->H b=none->b∉fs->b∉ex->h'.get? b=some o
 slot:∀b o,h.get? b=some o->H b=none->b∈fs->b∉ex->∃sl,h'.get? b=some {o with slots:=sl}
 free:∀b o,h.get? b=some o->H b=none->b∉ex->H' b=none
 there:∀b o,h.get? b=some o->b∉ex->∃o',h'.get? b=some o'
 tups:∀b xs,H b=some (.tup xs)->H' b=some (.tup xs)
 frzs:∀b o u,H b=some (.frz o u)->H' b=some (.frz o u)
 tbls:∀b ps,H b=some (.tbl ps)->∃more,H' b=some (.tbl (ps++more))
section
variable {fs f ex d:List Addr}{H g i:Hp}{h c j h':aaT}{a x e:Addr}{o:HO}
def Un.any(u:Un fs ex H g h c){k:Obj}(q:h.get? b=some k)(n:H b=none)(l:b∉ex):∃sl,c.get? b=some {k with slots:=sl}:=by
 by_cases m:b∈fs
 .exact u.slot b k q n m l
 .exact⟨k.slots,u.keep b k q n m l⟩
theorem Un.kept(k:∀b u,h.get? b=some u->h'.get? b=some u):Un fs ex H H h h':=
 ⟨λb l q _ _ _=>k b l q,λb l q _ _ _=>⟨l.slots,k b l q⟩,λ_ _ _ n _=>n,λb l q _=>⟨l,k b l q⟩,λ_ _ q=>q,λ_ _ _ q=>q,λ_ ps q=>⟨#[],by rw[q];simp⟩⟩
def Un.refl:Un fs ex H H h h:=Un.kept λ_ _ q=>q
theorem Un.laid(k:∀b u,h.get? b=some u->h'.get? b=some u)(m:h.objs.size≤a)(l:H a=none):Un fs ex H (upd H a o) h h' where
 keep:=λb u q _ _ _=>k b u q
 slot:=λb u q _ _ _=>⟨u.slots,k b u q⟩
 free:=λb u q n _=>by rw[aB (aa0 (aav (aaq q) m))];exact n
 there:=λb u q _=>⟨u,k b u q⟩
 tups:=λb p q=>by rw[aB (bv q l)];exact q
 frzs:=λb u p q=>by rw[aB (bv q l)];exact q
 tbls:=λb ps q=>⟨#[],by rw[aB (bv q l),q];simp⟩
theorem Un.write(mu:Mut (H x))(B:e=x\/H e=some (.own x))(k:∀b u,b≠e->h.get? b=some u->h'.get? b=some u)(t:∃u,h'.get? e=some u):Un fs ex H (upd H x o) h h':=by
 have s:∀b,H b=none->b≠x:=λb n z=>by subst z;rw[n]at mu;exact mu
 have p:∀b,H b=none->b≠e:=λb n z=>by
  simp_all
 have l:∀b u,H b=some u->¬Mut (some u)->b≠x:=λb u q D z=>by subst z;simp_all
 refine⟨λb u q n _ _=>k b u (p b n) q,λb u q n _ _=>⟨u.slots,k b u (p b n) q⟩,λb u q n _=>by rw[aB (s b n)];exact n,λb u q _=>?_,
  λb y q=>by rw[aB (l b _ q λz=>z)];exact q,λb u y q=>by rw[aB (l b _ q λz=>z)];exact q,λb ps q=>⟨#[],by rw[aB (l b _ q λz=>z),q];simp⟩⟩
 by_cases m:b=e
 .simp_all
 .exact⟨u,k b u m q⟩
end
def trk(h:aaT)(H:Hp):List Addr:=(aax h.objs.size).filter λa=>(H a).isSome
def hidT(h:aaT)(H:Hp):aaT:=PySem.W.hideAll h (trk h H)
def BH(h:aaT)(H:Hp):(hidT h H).objs.size=h.objs.size:=PySem.W.hideAll_size _ _
def Dg{o:Obj}(e:h.get? b=some o)(n:H b=none):(hidT h H).get? b=some o:=
 PySem.W.hideAll_get _ e λd=>by
  have q:=(afO.mp d).2;rw[n]at q;simp at q
theorem MD{o:Obj}(e:(hidT h H).get? b=some o):h.get? b=some o/\H b=none:=by
 have d:=PySem.W.of_hideAll _ e;refine⟨d,?_⟩
 cases q:H b with
 |none=>rfl
 |some x=>
  have k:b∈trk h H:=afO.mpr ⟨aeH.mpr (aaq d),by simp[q]⟩;have z:(hidT h H).get? b=none:=PySem.W.hideAll_none _ k
  grind
structure Mod(K:aag)(mg:Str->Option Ad)(base:aaT):Prop where
 kin:K.In base
 glob:base.Ns aaA mg
 blt:∃mb,base.Ns builtinsNs mb/\∀x:Str,x ≠ "__name__" -> mb x=aaU x
 nolimit:base.NoLimit
 sys:∃m,base.Ns abr m
inductive Ao where
 |L (a:Addr)|T (t:List (List Nat×Addr))
structure EB where
 np:Nat
 be:List Ao
 H:Hp
structure Cx where
 prog:aaK
 w:World
 K:aag
 mg:Str->Option Ad
 base:aaT
 A:abf
 N:List Str
 s₀:Io
 H₀:Hp
 env:Env
 outer:List Env
 stack:List Env
 ex:List Addr
 fn:Str->Bool
 calm:Bool
 pn:List (Addr×Obj)
 xe:Ad->Io->Prop
 eb:EB:=⟨0,[],λ_=>none⟩
def frs(l:List Env):List Addr:=l.filterMap (·.frame)
abbrev Cx.fs(X:Cx):List Addr:=frs X.outer
def Vis(sc:Scope)(x:Str):Prop:=sc.names.lookup x=some .local\/sc.names.lookup x=some .cell\/sc.names.lookup x=some .free
def Loc(sc:Scope)(x:Str):Prop:=sc.names.lookup x=some .local\/sc.names.lookup x=some .cell
def Look(env:Env)(h:aaT)(m:Str->Option Ad)(x:Str)(u:Ad):Prop:=
 (env.kindOf x=some .local/\m x=some u)\/((env.kindOf x=some .cell\/env.kindOf x=some .free)/\∃c,env.cells.lookup x=some c/\h.IsCell c (some u))
structure Cx.Ok(X:Cx):Prop where
 mod:Mod X.K X.mg X.base
 kind:X.env.scope.kind = .function
 glob:X.env.globals=aaA
 blt:X.env.builtins=builtinsNs
 above:X.s₀.heap.objs.size≤X.env.locals
 inj:∀x y c,X.env.cells.lookup x=some c->X.env.cells.lookup y=some c->x=y
 has:∀x,(X.env.kindOf x=some .cell\/X.env.kindOf x=some .free)->∃c,X.env.cells.lookup x=some c
 cab:∀x c,X.fn x=true->X.env.cells.lookup x=some c->X.s₀.heap.objs.size≤c
 hd:X.calm=true->X.A.handled=none
 frames:X.A.frames=some X.stack
 stk:X.stack=X.outer\/(X.stack=X.env::X.outer/\X.env.frame=some X.env.locals)
 exf:∀b∈X.ex,b≠X.env.locals/\∀x c,X.env.cells.lookup x=some c->c≠b
 bs:∀b o,X.base.get? b=some o->X.s₀.heap.get? b=some o/\X.H₀ b=none
 bsz:X.base.objs.size≤X.s₀.heap.objs.size
 noex:∀b o,X.base.get? b=some o->b∉X.ex
 exfs:∀b∈X.ex,b∉X.fs
 funs:X.s₀.heap.FunFrames X.base X.outer
 frf:∀b∈X.fs,X.H₀ b=none
structure Inv(X:Cx)(pins:List (Addr×Obj))(σ:List (Option V))(H:Hp)(s:Io):Prop where
 ok:X.Ok
 os:s.os=X.s₀.os
 bare:ae1 s.gens
 base:Un X.fs X.ex X.H₀ H X.s₀.heap s.heap
 loc:∃m,s.heap.Ns X.env.locals m/\∀(i:Nat) (x:Str) (v:V),X.N[i]?=some x->σ[i]?=some (some v)->Vis X.env.scope x->∃u,RelV v u/\Look X.env s.heap m x u
 cell:∀x c,X.env.cells.lookup x=some c->∃v,s.heap.IsCell c v
 free:H X.env.locals=none
 freeC:∀x c,X.env.cells.lookup x=some c->H c=none
 pin:∀p∈X.pn++pins,s.heap.get? p.1=some p.2/\H p.1=none/\p.1≠X.env.locals/\p.1∉X.fs/\∀v,p.2.data≠.cell v
 hok:HOk X.prog X.w H s.heap
 len:σ.length=X.N.length
section
variable {X:Cx}{f:List (Addr×Obj)}{g:List (Option V)}{H w:Hp}{s:Io}{h':aaT}
theorem Cx.Ok.nofr(ok:X.Ok){o:Obj}(e:X.base.get? b=some o):b∉X.fs:=λd=>by
 have:=(ok.funs.mem d).1
 grind
theorem Inv.bs(I:Inv X f g H s):∀b o,X.base.get? b=some o->s.heap.get? b=some o/\H b=none:=λb o e=>
 ⟨I.base.keep b o (I.ok.bs b o e).1 (I.ok.bs b o e).2 (I.ok.nofr e) (I.ok.noex b o e),I.base.free b o (I.ok.bs b o e).1 (I.ok.bs b o e).2 (I.ok.noex b o e)⟩
theorem Inv.bk(I:Inv X f g H s):∀b o,X.base.get? b=some o->s.heap.get? b=some o:=λb o e=>(I.bs b o e).1
def Inv.mod(I:Inv X f g H s):Mod X.K X.mg X.base:=I.ok.mod
def Inv.kIn(I:Inv X f g H s):X.K.In s.heap:=I.ok.mod.kin.keeps I.bk
def Inv.lt(I:Inv X f g H s):X.env.locals<s.heap.objs.size:=let ⟨_,hn,_⟩:=I.loc;hn.lt
def Inv.sz(I:Inv X f g H s):X.s₀.heap.objs.size≤s.heap.objs.size:=aaw I.ok.above (acz I.lt)
theorem Inv.nofs(I:Inv X f g H s)(h:s.heap.objs.size≤a):a∉X.fs:=λd=>by
 let⟨_,o,k,_⟩:=I.ok.funs.mem d;exact absurd (aav (aaq k) (aaw I.sz h)) (acH _)
theorem Inv.cne(I:Inv X f g H s):∀x c,X.env.cells.lookup x=some c->c≠X.env.locals:=λx c e z=>by
 let⟨v,o,p,hd⟩:=I.cell x c e;let⟨m,⟨n,es,l,k,d,_⟩,_⟩:=I.loc
 grind
theorem Inv.funs(I:Inv X f g H s):s.heap.FunFrames X.base X.outer:=by
 have all:∀l,(∀b∈frs l,b∈X.fs)->X.s₀.heap.FunFrames X.base l->s.heap.FunFrames X.base l:=by
  intro l
  induction l with
  |nil=>intro _ _;trivial
  |cons env r q=>
   intro n t;let⟨B,⟨L,o,k,D,y,hd⟩,p⟩:=t;have m:=n L (by unfold frs;rw[adt,k];exact aae);let⟨F,e⟩:=I.base.slot L o y (I.ok.frf L m) m λz=>I.ok.exfs L z m;exact⟨B,⟨L,_,k,D,e,hd⟩,q (λb d=>n b (by unfold frs;rw[adt,k];exact aaf _ d)) p⟩
 exact all X.outer (λ_ d=>d) I.ok.funs
theorem Inv.stack(I:Inv X f g H s):s.heap.FunFrames X.base X.stack:=by
 rcases I.ok.stk with e|⟨e,d⟩
 .rw[e];exact I.funs
 .rw[e];let⟨m,k,_⟩:=I.loc;refine .cons (by rw[I.ok.kind];decide) d k ?_ I.funs;exact aaT.get?_none_of_le (aaw I.ok.bsz I.ok.above)
theorem Inv.stkSub(I:Inv X f g H s):∀b∈frs X.stack,b∈X.env.locals::X.fs:=λb d=>by
 rcases I.ok.stk with e|⟨e,k⟩
 .rw[e]at d;exact aaf _ d
 .rw[e]at d;unfold frs at d;rw[adt,k]at d;exact d
theorem Inv.stkFree(I:Inv X f g H s):∀b∈frs X.stack,H b=none:=λb d=>by
 rcases aah.mp (I.stkSub b d)with e|d
 .rw[e];exact I.free
 .obtain⟨_,o,ho,_⟩:=I.ok.funs.mem d;exact I.base.free b o ho (I.ok.frf b d) λz=>I.ok.exfs b z d
theorem Inv.step{d':Drawn}(I:Inv X f g H s)
  (B:∀b∈ch,(b∈X.ex\/X.s₀.heap.objs.size≤b)/\b≠X.env.locals/\(∀x c,X.env.cells.lookup x=some c->c≠b)/\∀p∈X.pn++f,p.1≠b)
  (keep:∀b o,b≠X.env.locals->b∉X.fs->b∉ch->s.heap.get? b=some o->H b=none->h'.get? b=some o)
  (slot:∀b o,b≠X.env.locals->b∈X.fs->b∉ch->s.heap.get? b=some o->H b=none->∃sl,h'.get? b=some {o with slots:=sl}) (free:∀b o,b∉ch->s.heap.get? b=some o->H b=none->w b=none)
  (there:∀b o,b∉ch->s.heap.get? b=some o->∃S,h'.get? b=some S)
  (tups:∀b xs,H b=some (.tup xs)->w b=some (.tup xs)) (frzs:∀b o u,H b=some (.frz o u)->w b=some (.frz o u)) (tbls:∀b ps,H b=some (.tbl ps)->∃more,w b=some (.tbl (ps++more)))
  (ns:∀m,s.heap.Ns X.env.locals m->h'.Ns X.env.locals m) (hok:HOk X.prog X.w w h') (W:ae1 g') :
  Inv X f g w {s with heap:=h',gens:=g',drawn:=d',toks:=t' }:=by
 have O:∀b o,X.s₀.heap.get? b=some o->b≠X.env.locals:=λb o e=>aa0 (aav (aaq e) I.ok.above);have F:∀b o,X.s₀.heap.get? b=some o->b∉X.ex->b∉ch:=λb o e t J=>by
  rcases (B b J).1 with z|z
  .exact t z
  .exact absurd (aav (aaq e) z) (acH _)
 have y:∀x c,X.env.cells.lookup x=some c->∀v,s.heap.IsCell c v->h'.IsCell c v:=by
  intro x c e v ⟨o,L,hd⟩;have D:c∉ch:=λz=>(B c z).2.2.1 x c e rfl
  by_cases U:c∈X.fs
  .obtain⟨sl,q⟩:=slot c o (I.cne x c e) U D L (I.freeC x c e);exact⟨_,q,hd⟩
  .exact⟨o,keep c o (I.cne x c e) U D L (I.freeC x c e),hd⟩
 refine⟨I.ok,I.os,W,⟨λb o e n J t=>?_,λb o e n J t=>?_,λb o e n t=>?_,λb o e t=>?_,λb xs e=>tups b xs (I.base.tups b xs e),λb o xs e=>frzs b o xs (I.base.frzs b o xs e),λb ps e=>?_⟩,?_,λx c e=>?_,?_,λx c e=>?_,λp V=>?_,hok,I.len⟩
 .exact keep b o (O b o e) J (F b o e t) (I.base.keep b o e n J t) (I.base.free b o e n t)
 .obtain⟨sl,G⟩:=I.base.slot b o e n J t;let⟨T,R⟩:=slot b _ (O b o e) J (F b o e t) G (I.base.free b o e n t);exact⟨T,R⟩
 .obtain⟨S,G⟩:=I.base.there b o e t;exact free b S (F b o e t) G (I.base.free b o e n t)
 .obtain⟨S,G⟩:=I.base.there b o e t;exact there b S (F b o e t) G
 .obtain⟨m1,G⟩:=I.base.tbls b ps e;let⟨m2,R⟩:=tbls b _ G;exact⟨m1++m2,by rw[R,Array.append_assoc]⟩
 .obtain⟨m,hn,hl⟩:=I.loc;refine⟨m,ns m hn,λi x v G R Y=>?_⟩;let⟨u,r,l⟩:=hl i x v G R Y;refine⟨u,r,?_⟩;rcases l with l|⟨k,c,e,z⟩
  .exact .inl l
  .exact .inr ⟨k,c,e,y x c e _ z⟩
 .obtain⟨v,z⟩:=I.cell x c e;exact⟨v,y x c e v z⟩
 .obtain⟨m,⟨o,_,_,L,_⟩,_⟩:=I.loc;exact free _ o (λz=>(B _ z).2.1 rfl) L I.free
 .obtain⟨v,o,L,hd⟩:=I.cell x c e;exact free c o (λz=>(B c z).2.2.1 x c e rfl) L (I.freeC x c e)
 .obtain⟨e,n,ne,nf,d⟩:=I.pin p V;have D:p.1∉ch:=λz=>(B p.1 z).2.2.2 p V rfl;exact⟨keep p.1 p.2 ne nf D e n,free p.1 p.2 D e n,ne,nf,d⟩
theorem Inv.un(I:Inv X f g H s)(u:Un X.fs [] H w s.heap h')(hok:HOk X.prog X.w w h'):Inv X f g w {s with heap:=h',toks:=t' }:=by
 let⟨m,⟨o,es,G,q,r⟩,_⟩:=id I.loc;let⟨F,B⟩:=u.any q I.free (by simp);exact I.step (g':=s.gens) (d':=s.drawn) (ch:=[]) (λ_ z=>nomatch z) (λb o _ k _ e n=>u.keep b o e n k (by simp)) (λb o _ k _ e n=>u.slot b o e n k (by simp)) (λb o _ e n=>u.free b o e n (by simp)) (λb o _ e=>u.there b o e (by simp)) u.tups u.frzs u.tbls (λD y=>by
  let⟨J,p,l,d,t⟩:=y;rw[q]at d;cases d;exact⟨_,p,l,B,t⟩) hok I.bare
theorem Inv.call{d':Drawn}(I:Inv X f g H s)(u:Un (frs X.stack) ch H w s.heap h')(hok:HOk X.prog X.w w h')(D:ae1 g')
  (k:∀b∈ch,(b∈X.ex\/X.s₀.heap.objs.size≤b)/\b≠X.env.locals/\(∀x c,X.env.cells.lookup x=some c->c≠b)/\∀p∈X.pn++f,p.1≠b) :
  Inv X f g w {s with heap:=h',gens:=g',drawn:=d',toks:=t' }:=by
 let⟨m,⟨o,es,L,B,r⟩,_⟩:=id I.loc;let⟨S,y⟩:=u.any B I.free λz=>(k _ z).2.1 rfl;exact I.step k (λb o y G d e n=>u.keep b o e n (λz=>(aah.mp (I.stkSub b z)).elim y G) d) (λb o _ _ d e n=>u.any e n d) (λb o d e n=>u.free b o e n d) (λb o d e=>u.there b o e d) u.tups u.frzs u.tbls (λO F=>by
  let⟨R,t,q,l,J⟩:=F;rw[B]at l;cases l;exact⟨_,t,q,y,J⟩) hok D
theorem Inv.turned{d:Addr}(I:Inv X f g H s)(k:∀b o,b≠d->s.heap.get? b=some o->h'.get? b=some o)(J:H d=none)(y:d≠X.env.locals)
  (B:d∈X.ex\/X.s₀.heap.objs.size≤d) (D:∀x c,X.env.cells.lookup x=some c->c≠d) (L:∀p∈X.pn++f,p.1≠d):Inv X f g H {s with heap:=h',toks:=t' }:=by
 have t:∀b u,H b=some u->b≠d:=λb u e z=>by rw[z,J]at e;cases e
 refine I.step (g':=s.gens) (d':=s.drawn) (ch:=[d]) (λb G=>?_) (λb o _ _ l e _=>k b o (λz=>l (by simp[z])) e) (λb o _ _ l e _=>⟨o.slots,k b o (λz=>l (by simp[z])) e⟩) (λ_ _ _ _ n=>n)
  (λb o l e=>⟨o,k b o (λz=>l (by simp[z])) e⟩) (λ_ _ e=>e) (λ_ _ _ e=>e) (λb ps e=>⟨#[],by rw[e];simp⟩) (λm F=>?_) (λb u e=>?_) I.bare
 .have e:=by simpa using G
  subst e;exact⟨B,y,D,L⟩
 .obtain⟨o,es,ep,ho,r⟩:=F;exact⟨o,es,ep,k _ o (abO y) ho,r⟩
 .refine(I.hok b u e).stay (λc v l q=>k c v ?_ q) (λ_ q=>q) λ_ _ q=>q;rcases l with z|z
  .rw[z];exact t b u e
  .exact t c _ z
theorem Inv.tok(I:Inv X f g H s)(t:Nat):Inv X f g H {s with toks:=t}:=I.un (h':=s.heap) (t':=t) Un.refl I.hok
theorem Inv.kept(I:Inv X f g H s)(k:∀b u,s.heap.get? b=some u->h'.get? b=some u):Inv X f g H {s with heap:=h',toks:=t' }:=I.un (Un.kept k) (I.hok.kept k)
theorem Inv.laid(I:Inv X f g H s)(k:∀b u,s.heap.get? b=some u->h'.get? b=some u)(d:s.heap.objs.size≤a)(new:ObjOk X.prog X.w (upd H a o) h' a o) :
  Inv X f g (upd H a o) {s with heap:=h',toks:=t' }:=I.un (Un.laid k d (I.hok.fresh d)) (I.hok.laid k d new)
theorem Inv.write{x e:Addr}(I:Inv X f g H s)(mu:Mut (H x))(l:e=x\/H e=some (.own x))(k:∀b u,b≠e->s.heap.get? b=some u->h'.get? b=some u)(d:∃u,h'.get? e=some u)
  (new:ObjOk X.prog X.w (upd H x o) h' x o):Inv X f g (upd H x o) {s with heap:=h',toks:=t' }:=I.un (Un.write mu l k d) (I.hok.write mu l k d new)
def Inv.pins_of{d:List (Addr×Obj)}(I:Inv X f g H s)(h:∀p∈d,s.heap.get? p.1=some p.2/\H p.1=none/\p.1≠X.env.locals/\p.1∉X.fs/\∀v,p.2.data≠.cell v):Inv X d g H s:=
 ⟨I.ok,I.os,I.bare,I.base,I.loc,I.cell,I.free,I.freeC,λp k=>(aaG.mp k).elim (λz=>I.pin p (aby _ z)) (h p),I.hok,I.len⟩
def v7(k:N.Nodup)(a:N[i]?=some x)(b:N[j]?=some x):i=j:=by
 let⟨m,d⟩:=AD.mp a;let⟨n,l⟩:=AD.mp b;exact(List.getElem_inj k).mp (d.trans l.symm)
theorem sW{Q:Unit->Io->Prop}(I:Inv X f g H s)(hN:X.N.Nodup)(V:X.N[i]?=some x)(F:Loc X.env.scope x)(r:RelV v u)
  (h:∀s',Inv X f (g.set i (some v)) H s'->(∃a,abW a s.heap s'.heap/\(a=X.env.locals\/X.env.cells.lookup x=some a))->Q () s') (hf:X.fn x=true\/X.env.scope.names.lookup x=some .local:=by first|exact .inl rfl|exact .inr rfl|assumption):wpAny M A (storeName X.env x u) Q E s:=by
 let⟨m,hn,hl⟩:=id I.loc;have U:(X.env.scope.kind == .class||(X.env.scope.kind == .module&&X.env.locals != X.env.globals))=false:=by rw[I.ok.kind];rfl
 have O:i<g.length:=by rw[I.len];exact(AD.mp V).1
 have cne:=I.cne;have t:∀{a:Addr}{h':aaT},(∃o,s.heap.get? a=some o/\H a=none)->abW a s.heap h'->HOk X.prog X.w H h':=λ{a h'} ha l b ob e=>by
  let⟨_,_,G⟩:=ha;refine(I.hok b ob e).stay (λc Z D q=>(l.2 c ?_).trans q) (λ_ q=>q) λ_ _ q=>q;rintro rfl;rcases D with rfl|D
  .rw[G]at e;cases e
  .rw[G]at D;cases D
 rcases F with L|L
 .refine wpAny_storeName_local L hn (λh' hn' l=>?_) U;let⟨oL,_,_,hoL,_⟩:=id hn;refine h _ ⟨I.ok,I.os,I.bare,⟨λb o e n R F=>?_,λb o e n R F=>?_,I.base.free,λb o e F=>?_,I.base.tups,I.base.frzs,I.base.tbls⟩,⟨_,hn',λj y v' B J e3=>?_⟩,λy c e=>?_,I.free,I.freeC,λp hp=>?_,t ⟨oL,hoL,I.free⟩ l,by simpa using I.len⟩ ⟨_,l,.inl rfl⟩
  .exact(l.2 b (aa0 (aav (aaq e) I.ok.above))).trans (I.base.keep b o e n R F)
  .obtain⟨sl,B⟩:=I.base.slot b o e n R F;exact⟨sl,(l.2 b (aa0 (aav (aaq e) I.ok.above))).trans B⟩
  .obtain⟨o',B⟩:=I.base.there b o e F;exact⟨o',(l.2 b (aa0 (aav (aaq e) I.ok.above))).trans B⟩
  .by_cases hj:j=i
   .subst hj;rw[V]at B;cases B;rw[aa2 O]at J;cases J;exact⟨u,r,.inl ⟨L,by simp⟩⟩
   .rw[aaP (abO hj)]at J;let⟨u',r',q⟩:=hl j y v' B J e3;refine⟨u',r',?_⟩;rcases q with⟨k,e⟩|⟨k,c,e,z⟩
    .refine .inl ⟨k,?_⟩;have:y≠x:=λe=>hj (v7 hN B (e▸V));simp[this,e]
    .exact .inr ⟨k,c,e,z.sameBut l (cne y c e)⟩
  .obtain⟨Z,z⟩:=I.cell y c e;exact⟨Z,z.sameBut l (cne y c e)⟩
  .obtain⟨e,n,ne,nf,d⟩:=I.pin p hp;exact⟨(l.2 p.1 ne).trans e,n,ne,nf,d⟩
 .have hfn:X.fn x=true:=by
   rcases hf with z|z
   .exact z
   .rw[z]at L;cases L
  let⟨c,D⟩:=I.ok.has x (.inl L);let⟨Z,z⟩:=I.cell x c D;refine wpAny_storeName_cell I.ok.kind L D z (λh' W l=>?_);let⟨oc,S,T⟩:=id z;refine h {s with heap:=h' } ⟨I.ok,I.os,I.bare,⟨λb o e n R F=>?_,λb o e n R F=>?_,I.base.free,λb o e F=>?_,I.base.tups,I.base.frzs,I.base.tbls⟩,⟨m,hn.sameBut l (abO (cne x c D)),λj y v' B J e3=>?_⟩,λy Y e=>?_,I.free,I.freeC,λp hp=>?_,t ⟨oc,S,I.freeC x c D⟩ l,by simpa using I.len⟩ ⟨c,l,.inr D⟩
  .exact(l.2 b (aa0 (aav (aaq e) (I.ok.cab x c hfn D)))).trans (I.base.keep b o e n R F)
  .obtain⟨sl,B⟩:=I.base.slot b o e n R F;exact⟨sl,(l.2 b (aa0 (aav (aaq e) (I.ok.cab x c hfn D)))).trans B⟩
  .obtain⟨o',B⟩:=I.base.there b o e F;exact⟨o',(l.2 b (aa0 (aav (aaq e) (I.ok.cab x c hfn D)))).trans B⟩
  .by_cases hj:j=i
   .subst hj;rw[V]at B;cases B;rw[aa2 O]at J;cases J;exact⟨u,r,.inr ⟨.inl L,c,D,W⟩⟩
   .rw[aaP (abO hj)]at J;let⟨u',r',q⟩:=hl j y v' B J e3;refine⟨u',r',?_⟩;rcases q with q|⟨k,Y,e,z'⟩
    .exact .inl q
    .refine .inr ⟨k,Y,e,z'.sameBut l ?_⟩;rintro rfl;exact hj (v7 hN B (I.ok.inj _ _ _ e D▸V))
  .by_cases hcc:Y=c
   .subst hcc;exact⟨_,W⟩
   .obtain⟨w2,z2⟩:=I.cell y Y e;exact⟨w2,z2.sameBut l hcc⟩
  .obtain⟨e,n,ne,nf,d⟩:=I.pin p hp;refine⟨(l.2 p.1 ?_).trans e,n,ne,nf,d⟩;intro q;rw[q,S]at e;have q':oc=p.2:=aas e;exact d Z (by rw[<-q'];exact T)
theorem jC{Q:Unit->Io->Prop}(I:Inv X f g H s)(m:X.N.Nodup)(l:X.N[i]?=some x)(d:Loc X.env.scope x)(r:RelV v u)
  (h:∀s',Inv X f (g.set i (some v)) H s'->Q () s') (k:X.fn x=true\/X.env.scope.names.lookup x=some .local:=by first|exact .inl rfl|exact .inr rfl|assumption):wpAny M A (storeName X.env x u) Q E s:=
 sW I m l d r (λs' n _=>h s' n) k
theorem Inv.call'{s':Io}(I:Inv X f g H s)(l:s'.os=s.os)(u:Un (frs X.stack) ch H w s.heap s'.heap)(hok:HOk X.prog X.w w s'.heap)(k:ae1 s'.gens)
  (d:∀b∈ch,(b∈X.ex\/X.s₀.heap.objs.size≤b)/\b≠X.env.locals/\(∀x c,X.env.cells.lookup x=some c->c≠b)/\∀p∈X.pn++f,p.1≠b):Inv X f g w s':=by
 let⟨h',g',d',t',m⟩:=s';have e:=l;subst e;exact I.call (g':=g') (t':=t') (d':=d') u hok k d
end
abbrev XK:=Ad->Option Addr->Hp->Prop
abbrev St:=List (Option V)
abbrev VK:=V->Hp->Prop
abbrev TE:=St->Hp->VK->Prop
abbrev TT:=St->Hp->(Bool->Hp->Prop)->Prop
abbrev TA:=St->Hp->(List V->Hp->Prop)->Prop
structure Ends where
 nx:St->Hp->Prop
 rt:VK
 bk:St->Hp->Prop:=λ_ _=>False
 ct:St->Hp->Prop:=λ_ _=>False
abbrev TS:=Ends->St->Hp->Prop
def EP(X:Cx)(pins:List (Addr×Obj))(σ:St)(Q:VK)(u:Ad)(s':Io):Prop:=∃v d,Inv X pins σ d s'/\RelV v u/\Q v d
def TP(X:Cx)(pins:List (Addr×Obj))(σ:St)(Q:Bool->Hp->Prop)(b:Bool)(s':Io):Prop:=∃d,Inv X pins σ d s'/\Q b d
def AP(X:Cx)(pins:List (Addr×Obj))(σ:St)(Q:List V->Hp->Prop)(us:List Ad)(s':Io):Prop:=∃vs d,Inv X pins σ d s'/\Vals vs us/\Q vs d
def SP(X:Cx)(pins:List (Addr×Obj))(D:Ends)(f:Flow)(s':Io):Prop:=
 match f with
 | .next=>∃d k,Inv X pins d k s'/\D.nx d k
 | .brk=>∃d k,Inv X pins d k s'/\D.bk d k
 | .cont=>∃d k,Inv X pins d k s'/\D.ct d k
 | .ret u=>∃v d k,Inv X pins d k s'/\RelV v u/\D.rt v k
def PE(X:Cx)(e:Expr)(t:TE):Prop:=
 ∀(pins:List (Addr×Obj)) (s:Io) (σ:St) (H:Hp) (Q:VK),Inv X pins σ H s->t σ H Q->wpAny (model X.prog X.w) X.A (eval e X.env) (EP X pins σ Q) X.xe s
def PT(X:Cx)(e:Expr)(t:TT):Prop:=
 ∀(pins:List (Addr×Obj)) (s:Io) (σ:St) (H:Hp) (Q:Bool->Hp->Prop),Inv X pins σ H s->t σ H Q->wpAny (model X.prog X.w) X.A (isTrue e X.env (eval e X.env)) (TP X pins σ Q) X.xe s
def PW(X:Cx)(e:Expr)(t:TT):Prop:=
 ∀(d:Sem Ad) (pins:List (Addr×Obj)) (s:Io) (σ:St) (H:Hp) (Q:Bool->Hp->Prop),Inv X pins σ H s->t σ H Q->wpAny (model X.prog X.w) X.A (isTrue e X.env d) (TP X pins σ Q) X.xe s
def PW.pt{t:TT}(h:PW X e t):PT X e t:=h _
def PA(X:Cx)(es:List Expr)(t:TA):Prop:=
 ∀(pos:Pos) (pins:List (Addr×Obj)) (s:Io) (σ:St) (H:Hp) (Q:List V->Hp->Prop),Inv X pins σ H s->t σ H Q->wpAny (model X.prog X.w) X.A (spliced (abj pos (aac es X.env))) (AP X pins σ Q) X.xe s
def PS(X:Cx)(d:Stmt)(t:TS):Prop:=
 ∀(pins:List (Addr×Obj)) (s:Io) (σ:St) (H:Hp) (D:Ends),Inv X pins σ H s->t D σ H->wpAny (model X.prog X.w) X.A (exec d X.env) (SP X pins D) X.xe s
def PSs(X:Cx)(d:List Stmt)(t:TS):Prop:=
 ∀(pins:List (Addr×Obj)) (s:Io) (σ:St) (H:Hp) (D:Ends),Inv X pins σ H s->t D σ H->wpAny (model X.prog X.w) X.A (execs d X.env) (SP X pins D) X.xe s
theorem thn{d:Type}{t:Sem d}{Q k:d->Io->Prop}{s:Io}(h:wpAny M A t Q E s)(l:∀a s,Q a s->k a s):wpAny M A t k E s:=acq h l λ_ _ x=>x
section
variable {X:Cx}
def tVar(i:Nat):TE:=λσ H Q=>∃v,σ[i]?=some (some v)/\Q v H
def tC(v:V):TE:=λ_ H Q=>Q v H
theorem Jb(B:X.N[i]?=some x)(t:Vis X.env.scope x)(hd:(x==("__debug__" : Str))=false:=by decide)(p:(x==("__classdict__" : Str))=false:=by decide):PE X (.Name x pos) (tVar i):=by
 intro pins s σ H Q I h;let⟨v,e,h⟩:=h;let⟨m,D,y⟩:=I.loc;let⟨u,r,l⟩:=y i x v B e t;have k:EP X pins σ Q u s:=⟨v,H,I,r,h⟩;rcases l with⟨n,z⟩|⟨n,c,q,d⟩
 .exact wpAny_Name (wpAny_loadName_local I.ok.kind n D z k) hd
 .rcases n with n|n
  .exact wpAny_Name (wpAny_loadName_cell I.ok.kind n q d k) hd
  .exact wpAny_Name (wpAny_loadName_free I.ok.kind n q d k p) hd
theorem OX{i j pos}:PE X (.Constant (.int i) j pos) (tC (.int i)):=λ_ _ _ H _ I h=>wpAny_Constant_int ⟨.int i,H,I.tok _,⟨_,rfl⟩,h⟩
theorem UH{b j pos}:PE X (.Constant (.bool b) j pos) (tC (.bl b)):=λ_ _ _ H _ I h=>Constant_bool ⟨.bl b,H,I,rfl,h⟩
theorem Rg{j pos}:PE X (.Constant .none j pos) (tC .non):=λ_ _ _ H _ I h=>Constant_none ⟨.non,H,I,rfl,h⟩
theorem PC{x j pos}:PE X (.Constant (.str x) j pos) (tC (.str x)):=λ_ _ _ H _ I h=>Calls.Constant_str ⟨.str x,H,I.tok _,⟨_,rfl⟩,h⟩
def Gl(X:Cx)(x:Str):Prop:=X.env.kindOf x=some .globalImplicit
theorem Bv{s:Io}(I:Inv X pins σ H s)(d:Gl X x)(k:X.mg x=some u)(h:Q u s)
  (hd:(x==("__debug__" : Str))=false:=by decide):wpAny (model X.prog X.w) X.A (eval (.Name x pos) X.env) Q E s:=
 aeI I.ok.kind d (Calls.loadGlobal_global (by rw[I.ok.glob];exact I.mod.glob.keeps I.bk) k h) hd
theorem nH{s:Io}(I:Inv X pins σ H s)(d:Gl X x)(l:X.mg x=none)(m:aaU x=some u)(h:Q u s)
  (n:x ≠ "__name__":=by decide) (hd:(x==("__debug__" : Str))=false:=by decide):wpAny (model X.prog X.w) X.A (eval (.Name x pos) X.env) Q E s:=by
 let⟨q,k,p⟩:=I.mod.blt;exact aeI I.ok.kind d (Calls.loadGlobal_builtin (by rw[I.ok.glob];exact I.mod.glob.keeps I.bk) l (by rw[I.ok.blt];exact k.keeps I.bk) ((p x n).trans m) h) hd
theorem KJ(d:Gl X x)(k:X.mg x=none)(l:aaU x=some u)(r:RelV v u)(m:x ≠ "__name__":=by decide)(hd:(x==("__debug__" : Str))=false:=by decide):PE X (.Name x pos) (tC v):=
 λ_ _ _ H _ I h=>nH I d k l ⟨v,H,I,r,h⟩ m hd
variable {a b:Expr}{f tb:TE}{pos:Pos}
def tB(t:TE):TT:=λσ H Q=>t σ H λx d=>∃c,x = .bl c/\Q c d
theorem RE{t:TE}(h:PE X e t)(m:∀k,isTrue e X.env k=(do let v <- k;acA e.pos;adj [v] (truthy v)):=by intro _;rfl):PT X e (tB t):=by
 intro pins s σ H Q I y;refine isTrue_plain (thn (h pins s σ H _ I y) λv s1 ⟨x,n,l,r1,p⟩=>?_) (m _);let⟨d,rfl,q⟩:=p;cases r1;exact adb ⟨n,l,q⟩
variable {g k:TT}{rest:List Expr}
def tAnd(t u:TT):TT:=λσ H Q=>t σ H λc d=>if c=true then u σ d Q else Q false d
def tOr(t u:TT):TT:=λσ H Q=>t σ H λc d=>if c=true then Q true d else u σ d Q
def tNot(t:TT):TT:=λσ H Q=>t σ H λc d=>Q (!c) d
theorem JT(d:PT X a g):PW X (.BoolOp .And [a] pos) g:=by
 intro l pins s σ H Q I h;refine isTrue_and (thn (d pins s σ H Q I h) λc s1 e=>?_)
 cases c with
 |true=>exact isTrue_and_nil e
 |false=>exact e
theorem Pj(d:PT X a g):PW X (.BoolOp .Or [a] pos) g:=by
 intro l pins s σ H Q I h;refine isTrue_or (thn (d pins s σ H Q I h) λc s1 e=>?_)
 cases c with
 |false=>exact isTrue_or_nil e
 |true=>exact e
theorem RJ(p:PT X a g)(m:PW X (.BoolOp .And (b::rest) pos) k):PW X (.BoolOp .And (a::b::rest) pos) (tAnd g k):=by
 intro n pins s σ H Q I h;refine isTrue_and (thn (p pins s σ H _ I h) λc s1 ⟨l,d,q⟩=>?_)
 cases c with
 |true=>exact m n pins s1 σ l Q d q
 |false=>exact⟨l,d,q⟩
theorem VG(p:PT X a g)(m:PW X (.BoolOp .Or (b::rest) pos) k):PW X (.BoolOp .Or (a::b::rest) pos) (tOr g k):=by
 intro n pins s σ H Q I h;refine isTrue_or (thn (p pins s σ H _ I h) λc s1 ⟨l,d,q⟩=>?_)
 cases c with
 |true=>exact⟨l,d,q⟩
 |false=>exact m n pins s1 σ l Q d q
theorem Uu(d:PT X a g):PT X (.UnaryOp .Not a pos) (tNot g):=by
 intro pins s σ H Q I h;exact isTrue_not (d pins s σ H _ I h)
def UL(f tb:TE):TE:=λσ H Q=>f σ H λx d=>∃c,x = .bl c/\if c=true then tb σ d Q else Q (.bl false) d
def tOrV(f tb:TE):TE:=λσ H Q=>f σ H λx d=>∃c,x = .bl c/\if c=true then Q (.bl true) d else tb σ d Q
def VY(f:TE):TE:=λσ H Q=>f σ H λx d=>∃c,x = .bl c/\Q (.bl (!c)) d
theorem OZ{op}{t:TE}(h:PE X a t):PE X (.BoolOp op [a] pos) t:=λpins s σ H Q I d=>BoolOp_one (h pins s σ H Q I d)
theorem QH(n:PE X a f)(m:PE X (.BoolOp .And (b::rest) pos) tb):PE X (.BoolOp .And (a::b::rest) pos) (UL f tb):=by
 intro pins s σ H Q I h;refine BoolOp_and (thn (n pins s σ H _ I h) λv s1 ⟨x,l,d,r1,q⟩=>?_);let⟨c,rfl,q⟩:=q;cases r1;refine adb ?_
 cases c with
 |true=>exact m pins s1 σ l Q d q
 |false=>exact⟨.bl false,l,d,rfl,q⟩
theorem UI(n:PE X a f)(m:PE X (.BoolOp .Or (b::rest) pos) tb):PE X (.BoolOp .Or (a::b::rest) pos) (tOrV f tb):=by
 intro pins s σ H Q I h;refine BoolOp_or (thn (n pins s σ H _ I h) λv s1 ⟨x,l,d,r1,q⟩=>?_);let⟨c,rfl,q⟩:=q;cases r1;refine adb ?_
 cases c with
 |false=>exact m pins s1 σ l Q d q
 |true=>exact⟨.bl true,l,d,rfl,q⟩
theorem QB(m:PE X a f):PE X (.UnaryOp .Not a pos) (VY f):=by
 intro pins s σ H Q I h;refine UnaryOp_ (thn (m pins s σ H _ I h) λv s1 ⟨x,l,d,r1,q⟩=>?_);let⟨c,rfl,q⟩:=q;cases r1;exact not_of (adb ⟨.bl (!c),l,d,rfl,q⟩)
def tIf(t:TT)(f tb:TE):TE:=λσ H Q=>t σ H λc d=>if c=true then f σ d Q else tb σ d Q
theorem Fv(n:PT X c g)(t:PE X a f)(p:PE X b tb):PE X (.IfExp c a b pos) (tIf g f tb):=by
 intro pins s σ H Q I h;refine wpAny_IfExp (thn (n pins s σ H _ I h) λd s1 ⟨m,l,q⟩=>?_)
 cases d with
 |true=>exact t pins s1 σ m Q l q
 |false=>exact p pins s1 σ m Q l q
end
def SqL(K:aag)(H:Hp)(a:Addr)(xs:List V):Prop:=
 Rd H a (.lst xs) \/
  ∃(o:Obj) (d:Array Ad) (n:Nat),K.lookup a=some o/\o.cls = .type "list"/\o.dict=none/\o.data = .seq d n/\d.size≤aal/\Vals xs d.toList
def SqT(K:aag)(H:Hp)(a:Addr)(xs:List V):Prop:=
 Rd H a (.tup xs) \/
  ∃(o:Obj) (d:Array Ad) (n:Nat),K.lookup a=some o/\o.cls = .type "tuple"/\o.dict=none/\o.data = .seq d n/\d.size≤aal/\Vals xs d.toList
def absV:Ad->Option V
 | .none=>some .non
 | .bool b=>some (.bl b)
 | .int i _=>some (.int i)
 | .str x _=>some (.str x)
 | .bytes b _=>some (.byt b)
 | .float b _=>some (.flt b)
 | .ref a=>some (.ref a)
 | .type n=>some (.ty n)
 |_=>none
theorem RelV.abs{x:V}(r:RelV x u):absV u=some x:=by
 cases x with
 |non=>cases r;rfl
 |bl _=>cases r;rfl
 |int _=>let⟨t,rfl⟩:=r;rfl
 |str _=>let⟨t,rfl⟩:=r;rfl
 |byt _=>let⟨t,rfl⟩:=r;rfl
 |flt _=>let⟨t,rfl⟩:=r;rfl
 |ref _=>cases r;rfl
 |ty _=>cases r;rfl
def RelV.inj{x y:V}(r:RelV x u)(q:RelV y u):x=y:=aas (r.abs.symm.trans q.abs)
theorem Vals.inj:∀{xs ys:List V}{us:List Ad},Vals xs us->Vals ys us->xs=ys
 |_,_,_,.nil,.nil=>rfl
 |_,_,_,.cons r t,.cons r' t'=>by rw[r.inj r',Vals.inj t t']
section
variable {X:Cx}{b:List (Addr×Obj)}{c:St}{H:Hp}{s:Io}{a:Addr}{xs ys:List V}
def SqL.of(h:H a=some (.lst xs)):SqL K H a xs:=.inl (.inl h)
def SqT.of(h:H a=some (.tup xs)):SqT K H a xs:=.inl (.inl h)
theorem Inv.list(I:Inv X b c H s)(h:SqL X.K H a xs):∃d:List Ad,Vals xs d/\PlainL s.heap a d.toArray/\xs.length≤aal:=by
 rcases h with h|⟨o,d,n,m,k,hd,l,p,r⟩
 .obtain⟨z,d,n,r,e⟩:=h.ok I.hok;exact⟨d,r,⟨_,n,e,rfl,rfl,rfl⟩,z⟩
 .refine⟨d.toList,r,⟨o,n,I.kIn a o m,k,hd,by simpa using l⟩,?_⟩;have e:=r.length
  grind
theorem Inv.tuple(I:Inv X b c H s)(h:SqT X.K H a xs):∃d:List Ad,Vals xs d/\IsTup s.heap a d.toArray/\xs.length≤aal:=by
 rcases h with h|⟨o,d,n,m,k,hd,l,q,r⟩
 .obtain⟨z,d,r,p⟩:=h.ok I.hok;exact⟨d,r,p.tup,z⟩
 .refine⟨d.toList,r,⟨o,I.kIn a o m,k,n,by simpa using l⟩,?_⟩;have e:=r.length
  simp_all
theorem Inv.tupleP(I:Inv X b c H s)(h:SqT X.K H a xs):∃d:List Ad,Vals xs d/\PlainT s.heap a d.toArray/\xs.length≤aal:=by
 rcases h with h|⟨o,d,n,m,k,hd,l,q,r⟩
 .obtain⟨z,d,r,p⟩:=h.ok I.hok;exact⟨d,r,p,z⟩
 .refine⟨d.toList,r,⟨o,I.kIn a o m,k,hd,n,by simpa using l⟩,?_⟩;have e:=r.length
  simp_all
theorem Inv.list_inj(I:Inv X b c H s)(h:SqL X.K H a xs)(h':SqL X.K H a ys):xs=ys:=by
 let⟨p,r,⟨o,n,e,_,_,d⟩,_⟩:=I.list h;let⟨l,q,⟨t,y,m,_,_,k⟩,_⟩:=I.list h';rw[e]at m;cases m;rw[d]at k;injection k with d1 _
 have:=by simpa using congrArg agC d1
 subst this;exact r.inj q
theorem Inv.tuple_inj(I:Inv X b c H s)(h:SqT X.K H a xs)(h':SqT X.K H a ys):xs=ys:=by
 let⟨p,r,⟨o,e,_,n,d⟩,_⟩:=I.tuple h;let⟨l,q,⟨t,m,_,y,k⟩,_⟩:=I.tuple h';rw[e]at m;cases m;rw[d]at k;injection k with d1 _
 have:=by simpa using congrArg agC d1
 subst this;exact r.inj q
end
abbrev Cx.wish(X:Cx)(E:Ad->Io->Prop):Cx:={X with xe:=E}
abbrev Cx.nox(X:Cx):Cx:=X.wish λ_ _=>False
def Cx.Ok.wish(ok:X.Ok)(E:Ad->Io->Prop):(X.wish E).Ok:=
 ⟨ok.mod,ok.kind,ok.glob,ok.blt,ok.above,ok.inj,ok.has,ok.cab,ok.hd,ok.frames,ok.stk,ok.exf,ok.bs,ok.bsz,ok.noex,ok.exfs,ok.funs,ok.frf⟩
def Cx.Ok.unwish(ok:(X.wish E).Ok):X.Ok:=
 ⟨ok.mod,ok.kind,ok.glob,ok.blt,ok.above,ok.inj,ok.has,ok.cab,ok.hd,ok.frames,ok.stk,ok.exf,ok.bs,ok.bsz,ok.noex,ok.exfs,ok.funs,ok.frf⟩
section
variable {X:Cx}{p:List (Addr×Obj)}{a:St}{H:Hp}{s:Io}{E:Ad->Io->Prop}
def Inv.wish(I:Inv X p a H s)(E:Ad->Io->Prop):Inv (X.wish E) p a H s:=⟨I.ok.wish E,I.os,I.bare,I.base,I.loc,I.cell,I.free,I.freeC,I.pin,I.hok,I.len⟩
def Inv.unwish(I:Inv (X.wish E) p a H s):Inv X p a H s:=⟨I.ok.unwish,I.os,I.bare,I.base,I.loc,I.cell,I.free,I.freeC,I.pin,I.hok,I.len⟩
theorem SP.unwish{D:Ends}{f:Flow}{s':Io}(h:SP (X.wish E) p D f s'):SP X p D f s':=by
 cases f with
 |next=>let⟨d,k,I,q⟩:=h;exact⟨d,k,I.unwish,q⟩
 |brk=>let⟨d,k,I,q⟩:=h;exact⟨d,k,I.unwish,q⟩
 |cont=>let⟨d,k,I,q⟩:=h;exact⟨d,k,I.unwish,q⟩
 |ret u=>let⟨v,d,k,I,r,q⟩:=h;exact⟨v,d,k,I.unwish,r,q⟩
theorem PSs.nox{d:List Stmt}{t:TS}(h:PSs X.nox d t):PSs X d t:=λp s a H D I k=>
 acq (h p s a H D (I.wish _) k) (λ_ _ q=>q.unwish) λ_ _ z=>acj z
end
section
variable {X:Cx}{i:Stmt}{rest:List Stmt}{t u:TS}{e:Expr}{g:TE}{pos:Pos}
def UJ:TS:=λD σ H=>D.nx σ H
def tSeq(t u:TS):TS:=λD σ H=>t {D with nx:=u D} σ H
theorem Nu:PSs X [] UJ:=λ_ _ σ H _ I h=>aer ⟨σ,H,I,h⟩
theorem xZ(l:PS X i t)(n:PSs X rest u):PSs X (i::rest) (tSeq t u):=by
 intro pins s σ H D I h;refine wpAny_execs_cons (thn (l pins s σ H {D with nx:=u D} I h) λf s1 q=>?_)
 cases f with
 |next=>
  let⟨d,k,m,q⟩:=q;exact n pins s1 d k D m q
 |ret v=>exact q
 |brk=>exact q
 |cont=>exact q
theorem JM(d:PS X i t):PSs X [i] t:=by
 intro pins s σ H D I h;refine wpAny_execs_cons (thn (d pins s σ H D I h) λf s1 q=>?_)
 cases f with
 |next=>exact aer q
 |ret v=>exact q
 |brk=>exact q
 |cont=>exact q
def Inv.quiet{s:Io}(I:Inv X pins σ H s):interactive X.env=false:=by simp[interactive,I.ok.kind]
def VJ(g:TE):TS:=λD σ H=>g σ H λ_ d=>D.nx σ d
theorem Lq(d:PE X e g)(m:abx e none pos.line X.env=pure false:=by rfl):PS X (.Expr e pos) (VJ g):=by
 intro pins s σ H D I h;exact wpAny_Expr_any (thn (d pins s σ H _ I h)<|by intro v s1 ⟨x,l,k,r1,q⟩;exact⟨σ,l,k,q⟩) I.quiet m
def tRet(g:TE):TS:=λD σ H=>g σ H D.rt
theorem SX(d:PE X e g):PS X (.Return (some e) pos) (tRet g):=by
 intro pins s σ H D I h;exact wpAny_Return_some (thn (d pins s σ H _ I h)<|by intro v s1 ⟨x,l,k,r1,q⟩;exact⟨x,σ,l,k,r1,q⟩)
def tIfS(c:TT)(t u:TS):TS:=λD σ H=>c σ H λb d=>if b=true then t D σ d else u D σ d
theorem U9{a b:List Stmt}{l:TT}(y:PT X c l)(p:PSs X a t)(n:PSs X b u):PS X (.If c a b pos) (tIfS l t u):=by
 intro pins s σ H D I h;refine wpAny_If (thn (y pins s σ H _ I h) λd s1 ⟨m,k,q⟩=>?_)
 cases d with
 |true=>exact p pins s1 σ m D k q
 |false=>exact n pins s1 σ m D k q
def S9:TS:=λ_ _ _=>False
theorem FG:PS X i S9:=λ_ _ _ _ _ _ h=>h.elim
end
abbrev TG:=V->St->Hp->(St->Hp->Prop)->Prop
abbrev TGs:=List V->St->Hp->(St->Hp->Prop)->Prop
def PG(X:Cx)(d:Expr)(t:TG):Prop:=
 ∀(pins:List (Addr×Obj)) (s:Io) (σ:St) (H:Hp) (v:V) (u:Ad) (Q:St->Hp->Prop),Inv X pins σ H s->RelV v u->t v σ H Q ->
  wpAny (model X.prog X.w) X.A (ae9 d X.env u) (λ_ m=>∃k l,Inv X pins k l m/\Q k l) X.xe s
def PGs(X:Cx)(ts:List Expr)(t:TGs):Prop:=
 ∀(pins:List (Addr×Obj)) (s:Io) (σ:St) (H:Hp) (vs:List V) (us:List Ad) (Q:St->Hp->Prop),Inv X pins σ H s->Vals vs us->t vs σ H Q ->
  wpAny (model X.prog X.w) X.A (assignInOrder ((abQ ts X.env).map (·.2)) us) (λ_ l=>∃d k,Inv X pins d k l/\Q d k) X.xe s
abbrev TIp:=V->V->Hp->VK->Prop
def PIp(X:Cx)(op:aeJ)(t:TIp):Prop:=
 ∀(pins:List (Addr×Obj)) (s:Io) (σ:St) (H:Hp) (x y:V) (v u:Ad) (Q:VK),Inv X pins σ H s->RelV x v->RelV y u->t x y H Q ->
  wpAny (model X.prog X.w) X.A (inplaceOp op v u) (EP X pins σ Q) X.xe s
section
variable {X:Cx}{pos:Pos}
def GI(i:Nat):TG:=λv σ H Q=>Q (σ.set i (some v)) H
theorem JL(m:X.N.Nodup)(l:X.N[i]?=some x)(d:Loc X.env.scope x)(k:X.fn x=true\/X.env.scope.names.lookup x=some .local:=by first|exact .inl rfl|exact .inr rfl|assumption):PG X (.Name x pos) (GI i):=by
 intro pins s σ H v u Q I r h;exact wpAny_assign_Name (jC I m l d r (λp n=>⟨_,H,n,h⟩) k)
def gNil:TGs:=λvs σ H Q=>vs=[]/\Q σ H
def UT(t:TG)(u:TGs):TGs:=λvs σ H Q=>∃v r,vs=v::r/\t v σ H λd k=>u r d k Q
theorem Jr:PGs X [] gNil:=by
 intro pins s σ H vs us Q I r h;let⟨e,h⟩:=h;exact assignInOrder_nil ⟨σ,H,I,h⟩
theorem Ic{t:TG}{u:TGs}(l:PG X e t)(y:PGs X es u)
  (p:(abQ (e::es) X.env).map (·.2)=ae9 e X.env::(abQ es X.env).map (·.2):=by rfl):PGs X (e::es) (UT t u):=by
 intro pins s σ H vs us Q I r h;let⟨v,z,k,h⟩:=h;subst k
 cases r with
 |cons r rr=>
  rw[p];refine aeK (thn (l pins s σ H _ _ _ I r h) λ_ s1 ⟨d,n,m,q⟩=>?_);exact y pins s1 d n _ _ Q m rr q
def gTup(K:aag)(n:Nat)(t:TGs):TG:=λv σ H Q=>∃a d,v = .ref a/\SqT K H a d/\d.length=n/\t d σ H Q
theorem TJ{k:Nat}{t:TGs}{n:Nat}(G:X.calm=true)(h:PGs X es t)
  (L:(abQ es X.env).length=n:=by rfl) (l:(abQ es X.env).findIdx? (·.1)=none:=by rfl):PG X (.Tuple es k pos) (gTup X.K n t):=by
 intro pins s σ H v u Q I r d;let⟨a,D,m,J,z,d⟩:=d;subst m;cases r;let⟨B,F,p,O⟩:=I.tuple J;refine assign_Tuple_tuple (I.ok.hd G) p (by simp[L,<-z,F.length]) l λR q=>?_;have y:=I.kept (t':=s.toks) λb o e=>q b o (aa0 (aaq e)) e;exact h pins _ σ H D _ Q y ‹_› d
def tAsg(te:TE)(g:TG):TS:=λD σ H=>te σ H λx d=>g x σ d D.nx
theorem Um{g:TG}(n:PE X e te)(d:PG X tg g)(y:adz [tg] e pos.line X.env=pure false:=by rfl)(m:adA [tg] e X.env=pure none:=by rfl)
  (k:(abQ [tg] X.env).map (·.2)=[ae9 tg X.env]:=by rfl):PS X (.Assign [tg] e pos) (tAsg te g):=by
 intro pins s σ H D I h;refine wpAny_Assign_stores (thn (n pins s σ H _ I h) λv s1 ⟨x,p,l,r1,t⟩=>?_) y m;rw[k];exact thn (d pins s1 σ p x v _ l r1 t) λ_ s2 q=>q
theorem Qt{p:Pos}(t:X.N.Nodup)(k:X.N[i]?=some x)(d:Loc X.env.scope x)(m:PE X e te)(F:abx e (some (.Name x p)) pos.line X.env=pure false:=by rfl)(n:X.fn x=true\/X.env.scope.names.lookup x=some .local:=by first|exact .inl rfl|exact .inr rfl|assumption) :
  PS X (.Assign [.Name x p] e pos) (tAsg te (GI i)):=by
 intro pins s σ H D I h;refine wpAny_Assign_Name (thn (m pins s σ H _ I h) λv s1 ⟨y,q,l,r1,z⟩=>?_) F;exact jC l t k d r1 (λs2 B=>⟨_,q,B,z⟩) n
def tPar(i j:Nat)(t:TA):TS:=λD σ H=>t σ H λvs d=>∃v w,vs=[v,w]/\D.nx ((σ.set i (some v)).set j (some w)) d
theorem TU{y:Str}{a b:Expr}{L:TA}{m B pt:Pos}{kt k2 pt2}(hc:X.calm=true)(R:X.N.Nodup)(S:X.N[i]?=some x)(W:X.N[j]?=some y)(l:i≠j)
  (F:X.env.scope.names.lookup x=some .local) (G:X.env.scope.names.lookup y=some .local) (V:PA X [a,b] L)
  (hw:adA [.Tuple [.Name x m,.Name y B] kt pt] (.Tuple [a,b] k2 pt2) X.env=pure (some [x,y]))
  (hs:adz [.Tuple [.Name x m,.Name y B] kt pt] (.Tuple [a,b] k2 pt2) pos.line X.env=pure false:=by rfl) :
  PS X (.Assign [.Tuple [.Name x m,.Name y B] kt pt] (.Tuple [a,b] k2 pt2) pos) (tPar i j L):=by
 intro pins s σ H D I h;rw[exec_Assign_arm];refine gT (ac7 ?_);rw[hs];refine gT (Ld ?_);rw[if_neg (by decide)];refine gT (Tuple_ (thn (V _ pins s σ H _ I h) λus s1 ⟨vs,O,T,r1,n⟩=>?_));let⟨v,w,e1,n⟩:=n;subst e1;let⟨k,d,rfl,rv,t⟩:∃k d,us=[k,d]/\RelV v k/\RelV w d:=by
  cases r1 with
  | cons p q=>
   cases q with
   |cons U q'=>
    cases q';exact⟨_,_,rfl,p,U⟩
 refine abc ?_ (by show 2≤aal;decide);have Z:Inv X pins σ O {s1 with heap:=s1.heap.push {cls:=.type "tuple",data:=.seq [k,d].toArray} }:=T.kept (t':=s1.toks) λb o e=>LD _ e;rw[hw];refine gT (Ld ?_);refine gT (acI (gT (unpackItems_tuple (items:=#[k,d]) (I.ok.hd hc) (IsTup.new s1.heap _) λh' z=>?_)));have Y:=Z.kept (h':=h') (t':=s1.toks) λb o e=>z b o (aa0 (aaq e)) e;show wpAny _ _ (assignInOrder [λv=>bindName X.env y v,λv=>bindName X.env x v] [d,k] >>= λ_=>pure Flow.next) _ _ _;refine gT (aeK (wpAny_bindName (jC Y R W (.inl G) t (λs2 I4=>?_) (.inr G))));refine aeK (wpAny_bindName (jC I4 R S (.inl F) rv (λs3 J=>assignInOrder_nil (Ld ?_)) (.inr F)));rw[List.set_comm _ _ (abO l)]at J;exact⟨_,O,J,n⟩
def tAug(i:Nat)(te:TE)(ti:TIp):TS:=λD σ H=>∃x,σ[i]?=some (some x)/\te σ H λy d=>ti x y d λz k=>D.nx (σ.set i (some z)) k
theorem O4{op:aeJ}{ti:TIp}{t:Pos}(hN:X.N.Nodup)(G:X.N[i]?=some x)(B:Loc X.env.scope x)(O:PE X e te)(ho:PIp X op ti)(hf:X.fn x=true\/X.env.scope.names.lookup x=some .local:=by first|exact .inl rfl|exact .inr rfl|assumption) :
  PS X (.AugAssign (.Name x t) op e pos) (tAug i te ti):=by
 intro pins s σ H D I h;let⟨v,Y,h⟩:=h;let⟨m,hn,W⟩:=I.loc;have F:Vis X.env.scope x:=by rcases B with k|k;exact .inl k;exact .inr (.inl k)
 let⟨u,r,l⟩:=W i x v G Y F;refine wpAny_AugAssign_Name ?_;have go:wpAny (model X.prog X.w) X.A (eval e X.env) (λw q=>wpAny (model X.prog X.w) X.A (inplaceOp op u w) (λr p=>wpAny (model X.prog X.w) X.A (storeName X.env x r) (λ_=>SP X pins D .next) X.xe p) X.xe q) X.xe s:=by
  refine thn (O pins s σ H _ I h) λw s1 ⟨y,S,L,r1,T⟩=>?_;refine thn (ho pins s1 σ S v y u w _ L r r1 T) λz s2 ⟨zv,V,U,J,q2⟩=>?_;exact jC U hN G B J (λs3 R=>⟨_,V,R,q2⟩) hf
 rcases l with⟨d,Z⟩|⟨d,c,hc,n⟩
 .exact wpAny_loadName_local I.ok.kind d hn Z go
 .rcases d with d|d
  .exact wpAny_loadName_cell I.ok.kind d hc n go
  .rcases B with k|k
   .have:X.env.scope.names.lookup x=some .free:=d;rw[k]at this;cases this
   .have:X.env.scope.names.lookup x=some .free:=d;rw[k]at this;cases this
end
section
variable {X:Cx}{pos:Pos}
def O3(c:TT)(tb:TS):TS:=λD σ H=>∃W:Nat->St->Hp->Prop,(∃m,W m σ H)/\∀m σ H,W m σ H ->
 c σ H λb n=>if b=true then ∃N:St->Hp->Prop,(∀d k,N d k->∃l,l<m/\W l d k)/\tb {D with nx:=N,ct:=N,bk:=D.nx} σ n else D.nx σ n
theorem Dm{L:TT}{tb:TS}(S:afo (model X.prog X.w) X.A X.env X.xe)(Y:PT X c L)(hb:PSs X body tb):PS X (.While c body [] pos) (O3 L tb):=by
 intro pins s σ H D I h;let⟨W,⟨m0,V⟩,t⟩:=h;refine wpAny_While (codeAny_whileLoop (λn s'=>∃l T,Inv X pins l T s'/\W n l T) ?_ m0 ⟨σ,H,I,V⟩);intro n s1 ⟨k,O,Z,w1⟩;refine acx S (thn (Y pins s1 k O _ Z (t n k O w1)) λb s2 ⟨J,R,q⟩=>?_)
 cases b with
 | true=>
  let⟨N,U,q⟩:=q;rw[if_pos rfl];refine acx S (thn (hb pins s2 k J _ R q) λf s3 p=>?_)
  cases f with
  |next=>
   let⟨d,m,B,z⟩:=p;let⟨y,G,F⟩:=U d m z;exact⟨y,G,d,m,B,F⟩
  |cont=>
   let⟨d,m,B,z⟩:=p;let⟨y,G,F⟩:=U d m z;exact⟨y,G,d,m,B,F⟩
  |brk=>exact p
  |ret v=>exact p
 |false=>
  exact aer ⟨k,J,R,q⟩
end
structure It where
 go:Nat->Hp->Prop
 yld:Nat->Hp->V->Hp->Prop
 stop:Nat->Hp->Prop
def FpOk(X:Cx)(pins:List (Addr×Obj))(H:Hp)(b:Addr):Prop:=
 H b=none/\b≠X.env.locals/\b∉X.fs/\(b∈X.ex\/X.s₀.heap.objs.size≤b)/\(∀x c,X.env.cells.lookup x=some c->c≠b)/\∀p∈X.pn++pins,p.1≠b
theorem Inv.fpOk{k:Hp}{s:Io}(I:Inv X pins σ H s)(d:s.heap.objs.size≤b)(m:k b=none):FpOk X pins k b:=by
 refine⟨m,abt (aav I.lt d),I.nofs d,.inr (aaw I.sz d),λx c e z=>?_,λp l z=>?_⟩
 .obtain⟨v,q⟩:=I.cell x c e;exact absurd (aav q.lt (by simp_all)) (acH _)
 .exact absurd (aav (aaq (I.pin p l).1) (by simp_all)) (acH _)
structure Turn(P:aaK)(w:World)(K:aag)(tg:Expr)(J:It)(fp:List Addr)(it:Addr)(tn:Nat->aaT->Prop):Prop where
 mem:it∈fp
 obj:∀i h,tn i h->∀b∈fp,∃o,h.get? b=some o/\∀v,o.data≠.cell v
 keep:∀i h h',tn i h->(∀b∈fp,∀o,h.get? b=some o->h'.get? b=some o)->tn i h'
 item:∀(X:Cx),X.prog=P->X.w=w->X.K=K->X.calm=true->∀(i:Nat) (pins:List (Addr×Obj)) (s:Io) (σ:St) (H:Hp) (E:Ad->Io->Prop),Inv X pins σ H s->(∀b∈fp,FpOk X pins H b)->tn i s.heap->J.go i H ->
  wpAny (model P w) X.A (acP (.ref it)) (λr s1=>∃u,r=some u/\
   wpAny (model P w) X.A (adK tg (.ref it) u) (λ_ s2=>∃x H',Inv X pins σ H' s2/\RelV x u/\J.yld i H x H'/\tn (i+1) s2.heap/\∀b∈fp,H' b=none) E s1) E s
 done:∀(X:Cx),X.prog=P->X.w=w->X.K=K->X.calm=true->∀(i:Nat) (pins:List (Addr×Obj)) (s:Io) (σ:St) (H:Hp) (E:Ad->Io->Prop),Inv X pins σ H s->(∀b∈fp,FpOk X pins H b)->tn i s.heap->J.stop i H ->
  wpAny (model P w) X.A (acP (.ref it)) (λr s1=>r=none/\Inv X pins σ H s1) E s
 self:∀(A:abf) (i:Nat) (s:Io) (Q:Ad->Io->Prop) (E:Ad->Io->Prop),tn i s.heap->Q (.ref it) s->wpAny (model P w) A (afz (.ref it)) Q E s
abbrev TI:=St->Hp->(It->Hp->Prop)->Prop
def PIE(X:Cx)(pins:List (Addr×Obj))(σ:St)(tg:Expr)(R:It->Hp->Prop)(k:Ad)(s2:Io):Prop:=
 ∃(l:Addr) (fp:List Addr) (tn:Nat->aaT->Prop) (J:It) (d:Hp),k = .ref l/\Inv X pins σ d s2/\Turn X.prog X.w X.K tg J fp l tn/\tn 0 s2.heap/\(∀b∈fp,FpOk X pins d b)/\R J d
def PI(X:Cx)(tg d:Expr)(k:TI):Prop:=
 ∀(pins:List (Addr×Obj)) (s:Io) (σ:St) (H:Hp) (R:It->Hp->Prop),Inv X pins σ H s->k σ H R ->
  wpAny (model X.prog X.w) X.A (eval d X.env) (λv s1=>wpAny (model X.prog X.w) X.A (afz v) (PIE X pins σ tg R) X.xe s1) X.xe s
theorem JW{s:Io}{k:Addr}{o:Obj}{n:String}{vs:Array Ad}{Q:Unit->Io->Prop}(m:s.heap.get? k=some o)(l:o.cls = .type n)(hd:o.data = .fields vs)
  (p:["enumerate","zip","dict_itemiterator","dict_reverseitemiterator","odict_iterator","itertools.zip_longest","itertools.pairwise"].contains n=false) (d:Q () s):wpAny M A (adK tg (.ref k) u) Q E s:=by
 cases tg<;>first
  |exact Ld d
  | (cases u<;>first
    |exact Ld d
    | (refine gT (wpAny_load m ?_)
       rw[l,hd];show wpAny M A (if _=true then _ else _) Q E s;rw[if_neg (by grind)];exact Ld d))
def Itl(K:aag)(a:Addr):It:=
 ⟨λi H=>∃d x,SqL K H a d/\d[i]?=some x,λi H x k=>k=H/\∀d,SqL K H a d->d[i]?=some x,λi H=>∃d,SqL K H a d/\d.length≤i⟩
def Itt(K:aag)(a:Addr):It:=
 ⟨λi H=>∃d x,SqT K H a d/\d[i]?=some x,λi H x k=>k=H/\∀d,SqT K H a d->d[i]?=some x,λi H=>∃d,SqT K H a d/\d.length≤i⟩
def Itr(l:Int)(n:Nat):It:=⟨λi _=>i<n,λi H x d=>d=H/\x = .int (l+i),λi _=>n≤i⟩
theorem yZ(a n:Addr):Turn P w K tg (Itl K a) [n] n (λi h=>h.IsListIter n a i) where
 mem:=by simp
 obj:=λi h l b m=>by
  have e:b=n:=by simpa using m
  subst e;let⟨o,e,c,d⟩:=l;exact⟨o,e,λv z=>by rw[d]at z;cases z⟩
 keep:=λi h B l k=>l.at λo e=>k n (by simp) o e
 item:=by
  intro X W R O Y i pins s σ H E I y l F;subst W R O;let⟨xs,x,t,D⟩:=F;let⟨T,U,p,hz⟩:=I.list t;let⟨u,hu,ru⟩:=U.get D;let⟨G,V,f2,S,L,J⟩:=y n (by simp);refine wpAny_pyNext_list_item l p.isList (x:=u) (by simpa using hu) λB q sb=>?_;have I1:Inv X pins σ H {s with heap:=B }:=I.turned (t':=s.toks) (λb o m e=>(sb.2 b m).trans e) G V S L J;let⟨o,e,c,d⟩:=id q;exact⟨u,rfl,JW (s:={s with heap:=B }) e c d (by decide) ⟨x,H,I1,ru,⟨rfl,λys Z=>by rw[I.list_inj Z t];exact D⟩,q,λb m=>(y b m).1⟩⟩
 done:=by
  intro X W R O Y i pins s σ H E I y l F;subst W R O;let⟨xs,t,D⟩:=F;let⟨T,U,p,hz⟩:=I.list t;let⟨G,V,f2,S,L,J⟩:=y n (by simp);have hl:=U.length;exact wpAny_pyNext_list_end (I.ok.hd Y) l p.isList (by simp;omega) λB eb=>⟨rfl,I.turned (t':=s.toks) (λb o m e=>eb b o m e) G V S L J⟩
 self:=λ_ _ _ _ _ l h=>wpAny_pyIter_listiter l h
theorem yd(a n:Addr):Turn P w K tg (Itt K a) [n] n (λi h=>h.IsTupleIter n a i) where
 mem:=by simp
 obj:=λi h l b m=>by
  have e:b=n:=by simpa using m
  subst e;let⟨o,e,c,d⟩:=l;exact⟨o,e,λv z=>by rw[d]at z;cases z⟩
 keep:=λi h D l k=>l.at λo e=>k n (by simp) o e
 item:=by
  intro X W S R Y i pins s σ H E I B l G;subst W S R;let⟨xs,x,y,F⟩:=G;let⟨q,U,p,hz⟩:=I.tuple y;let⟨u,hu,ru⟩:=U.get F;let⟨J,V,f2,T,O,L⟩:=B n (by simp);refine wpAny_pyNext_tuple_item l (show s.heap.IsTuple a q.toArray from p) (x:=u) (by simpa using hu) λD t sb=>?_;have I1:Inv X pins σ H {s with heap:=D }:=I.turned (t':=s.toks) (λb o m e=>(sb.2 b m).trans e) J V T O L;let⟨o,e,c,d⟩:=id t;exact⟨u,rfl,JW (s:={s with heap:=D }) e c d (by decide) ⟨x,H,I1,ru,⟨rfl,λys Z=>by rw[I.tuple_inj Z y];exact F⟩,t,λb m=>(B b m).1⟩⟩
 done:=by
  intro X W S R Y i pins s σ H E I B l G;subst W S R;let⟨xs,y,F⟩:=G;let⟨q,U,p,hz⟩:=I.tuple y;let⟨J,V,f2,T,O,L⟩:=B n (by simp);have hl:=U.length;exact wpAny_pyNext_tuple_end (I.ok.hd Y) l (show s.heap.IsTuple a q.toArray from p) (by simp;omega) λD eb=>⟨rfl,I.turned (t':=s.toks) (λb o m e=>eb b o m e) J V T O L⟩
 self:=λ_ _ _ _ _ l h=>wpAny_pyIter_tupleiter l h
theorem yl(l:Addr)(q:Int)(n:Nat):Turn P w K tg (Itr q n) [l] l (λi h=>IsRangeIter h l (q+(i:Nat)*1) ((n:Int)-(i:Nat)) 1) where
 mem:=by simp
 obj:=λi h d b m=>by
  simp_all
 keep:=λi h z d k=>k l (by simp) _ d
 item:=by
  intro X T L J R i pins s σ H E I y d B;subst T L J;let⟨D,S,f2,O,G,F⟩:=y l (by simp);have W:=Walks.range (prog:=X.prog) (w:=X.w) (I.ok.hd R) l q 1 n;refine W.item i s _ _ B d λv z U Y p Z=>?_;let⟨t,rfl⟩:=Y;have V:Inv X pins σ H {s with heap:=z,toks:=U}:=I.turned (λb o m e=>Z b o (by simpa using m) e) D S O G F;refine⟨_,rfl,JW (s:={s with heap:=z,toks:=U}) (n:= "range_iterator") p rfl rfl (by decide) ⟨.int (q+i),H,V,⟨t,?_⟩,⟨rfl,rfl⟩,p,λb m=>(y b m).1⟩⟩;rw[Int.mul_one]
 done:=by
  intro X T L J R i pins s σ H E I y d B;subst T L J;let⟨D,S,f2,O,G,F⟩:=y l (by simp);exact wpAny_pyNext_range_end (I.ok.hd R) d (by have:n≤i:=B;omega) λz eb=>⟨rfl,I.turned (t':=s.toks) (λb o m e=>eb b o m e) D S O G F⟩
 self:=λ_ _ _ _ _ d h=>wpAny_pyIter_rangeiter d h
section
variable {X:Cx}{tg:Expr}
theorem Fh{s:Io}{R:It->Hp->Prop}{l d:Int}{t u v:Tok}{m:Nat}(I:Inv X pins σ H s)(z : -(2^62)≤l)(y:l<2^62)(p : -(2^62)≤d)(B:d<2^62)
  (q:R (Itr l (d-l).toNat) H):wpAny (model X.prog X.w) X.A (afz (.ref s.heap.objs.size)) (PIE X pins σ tg R) E {s with heap:=s.heap.push {cls:=.type "range",data:=.fields #[.int l t,.int d u,.int 1 v]},toks:=m}:=by
 refine wpAny_pyIter_range (IsRange.new ..) (small_one z y p B) ?_;have k:Inv X pins σ H {s with heap:=s.heap.push {cls:=.type "range",data:=.fields #[.int l t,.int d u,.int 1 v]},toks:=m}:=I.kept λb o e=>LD _ e;refine⟨(s.heap.push {cls:=.type "range",data:=.fields #[.int l t,.int d u,.int 1 v]}).objs.size,[(s.heap.push {cls:=.type "range",data:=.fields #[.int l t,.int d u,.int 1 v]}).objs.size],_,_,H,rfl,
  k.kept (t':=m) λb o e=>LD _ e,yl _ l (d-l).toNat,?_,λb n=>?_,q⟩
 .have e1:l+((0:Nat):Int)*1=l:=by simp
  have D:(((d-l).toNat):Int)-((0:Nat):Int)=acB.Range.rangeSize l d 1:=by rw[rangeSize_one];split<;>omega
  rw[e1,D];exact aap _ rfl
 .have e:b=(s.heap.push {cls:=.type "range",data:=.fields #[.int l t,.int d u,.int 1 v]}).objs.size:=by simpa using n
  subst e;exact k.fpOk (aab _) (k.hok.fresh (aab _))
def UF(t:TA):TI:=λσ H R=>t σ H λvs d=>∃j:Int,vs=[.int j]/\-(2^62)≤j/\j<2^62/\R (Itr 0 j.toNat) d
theorem Ab{a:Expr}{k:TA}{p:Pos}(l:Gl X "range")(n:X.mg "range" = none)(z:PA X [a] k)(B:aac [a] X.env=[(false,eval a X.env)]:=by rfl):PI X tg (.Call (.Name "range" p) [a] [] pos) (UF k):=by
 intro pins s σ H R I h;refine Call_ (nH I l n boot_range (adc (thn (z pos pins s σ H _ I h) λus s1 ⟨vs,D,m,r1,d⟩=>?_) B rfl));let⟨j,e,d,y,q⟩:=d;subst e
 cases r1 with
 |cons r rr=>
  cases rr;let⟨t,rfl⟩:=r;exact call_range_1 (Fh m (by decide) (by decide) d y (by simpa))
def tFor(p:TI)(g:TG)(tb:TS):TS:=λD σ H=>p σ H λJ q=>∃W:Nat->Nat->St->Hp->Prop,(∃m,W 0 m σ q)/\∀i m σ H,W i m σ H ->
 (J.stop i H/\D.nx σ H)\/(J.go i H/\∃N:St->Hp->Prop,(∀k d,N k d->∃n,n<m/\W (i+1) n k d)/\∀x d,J.yld i H x d->g x σ d λl s=>tb {D with nx:=N,ct:=N,bk:=D.nx} l s)
def ue(fp:List Addr)(h:aaT):List (Addr×Obj):=fp.filterMap λb=>(h.get? b).map λo=>(b,o)
def iC{o:Obj}(d:b∈fp)(e:h.get? b=some o):(b,o)∈ue fp h:=List.mem_filterMap.mpr ⟨b,d,by rw[e];rfl⟩
theorem BZ{p:Addr×Obj}(l:p∈ue fp h):p.1∈fp/\h.get? p.1=some p.2:=by
 let⟨b,d,e⟩:=List.mem_filterMap.mp l
 cases q:h.get? b with
 |none=>rw[q]at e;cases e
 |some o=>
  rw[q]at e;have k:=aas e;subst k;exact⟨d,q⟩
theorem Inv.pinned{s:Io}(I:Inv X pins σ H s)(l:∀b∈fp,FpOk X pins H b)(k:∀b∈fp,∃o,s.heap.get? b=some o/\∀v,o.data≠.cell v):Inv X (pins++ue fp s.heap) σ H s:=
 I.pins_of λp m=>(aaG.mp m).elim (λz=>I.pin p (aaH _ z)) λz=>by
  let⟨d,e⟩:=BZ z;let⟨n,q,t,_⟩:=l p.1 d;obtain _:=k p.1 d
  simp_all
def Inv.unpinned{pl:List (Addr×Obj)}{s:Io}(I:Inv X (pins++pl) σ H s):Inv X pins σ H s:=I.pins_of λp d=>I.pin p (aaH _ (aby _ d))
theorem Uh{F:Expr}{wi:TI}{g:TG}{tb:TS}(U:afo (model X.prog X.w) X.A X.env X.xe)(hc:X.calm=true)(hi:PI X tg F wi)(hg:PG X tg g)(t:PSs X body tb)
  (hs:∀x,aaQ F X.env x=pure x:=by intro _;rfl):PS X (.For tg F body [] pos) (tFor wi g tb):=by
 intro pins s σ H D I h;refine wpAny_For (thn (hi pins s σ H _ I h) λv s1 h1=>thn h1 λitv s2 h2=>?_) hs;let⟨it,fp,tn,J,H2,e,I2,T,st2,f2,W,⟨m0,w0⟩,R⟩:=h2;subst e;have q:∀{G:Hp},(∀b∈fp,G b=none)->∀b∈fp,FpOk X pins G b:=λhn b t=>⟨hn b t,(f2 b t).2⟩;refine codeAny_forLoop_any (λn s'=>∃i l G,Inv X pins l G s'/\tn i s'.heap/\(∀b∈fp,G b=none)/\W i n l G) ?_ m0 ⟨0,σ,H2,I2,st2,λb t=>(f2 b t).1,w0⟩;intro n s3 ⟨i,B,Z,I3,S,Y,w3⟩;rcases R i n B Z w3 with⟨stop,qn⟩|⟨go,N,hN,step⟩
 .refine acx U (thn (T.done X rfl rfl rfl hc i pins s3 B Z X.xe I3 (q Y) S stop) λr s4 ⟨hr,I4⟩=>?_);subst hr;exact aer ⟨B,Z,I4,qn⟩
 .refine acx U (thn (T.item X rfl rfl rfl hc i pins s3 B Z X.xe I3 (q Y) S go) λr s4 ⟨u,hr,h4⟩=>?_);subst hr;refine acx U (thn h4 λ_ s5 ⟨x,H5,I5,r5,y5,O,fr5⟩=>?_);have I5':=I5.pinned (q fr5) (T.obj _ _ O);refine acx U (thn (hg _ s5 B H5 x u _ I5' r5 (step x H5 y5)) λ_ s6 ⟨σ6,H6,I6,q6⟩=>?_);refine acx U (thn (t _ s6 σ6 H6 _ I6 q6) λf s7 L=>?_);have z:∀{k:St}{y:Hp},Inv X (pins++ue fp s5.heap) k y s7->N k y->∃m,m<n/\∃i l G,Inv X pins l G s7/\tn i s7.heap/\(∀b∈fp,G b=none)/\W i m l G:=λ{k y} p V=>by
   let⟨m',hm,w7⟩:=hN k y V;refine⟨m',hm,i+1,k,y,p.unpinned,T.keep _ _ _ O λb t o e=>(p.pin (b,o) (aaH _ (aaH _ (iC t e)))).1,λb t=>?_,w7⟩;let⟨o,e,d⟩:=T.obj _ _ O b t;exact(p.pin (b,o) (aaH _ (aaH _ (iC t e)))).2.1
  cases f with
  |next=>let⟨k,y,p,V⟩:=L;exact z p V
  |cont=>let⟨k,y,p,V⟩:=L;exact z p V
  |brk=>let⟨k,y,p,L⟩:=L;exact⟨k,y,p.unpinned,L⟩
  |ret v=>let⟨x7,k,y,p,r7,L⟩:=L;exact⟨x7,k,y,p.unpinned,r7,L⟩
end
abbrev R2:=V->V->Hp->VK->Prop
def OpR(X:Cx)(f:Ad->Ad->Sem Ad)(r:R2):Prop:=
 ∀(pins:List (Addr×Obj)) (s:Io) (σ:St) (H:Hp) (x y:V) (v u:Ad) (Q:VK),Inv X pins σ H s->RelV x v->RelV y u->r x y H Q ->
  wpAny (model X.prog X.w) X.A (f v u) (EP X pins σ Q) X.xe s
def UnR(X:Cx)(f:Ad->Sem Ad)(r:V->Hp->VK->Prop):Prop:=
 ∀(pins:List (Addr×Obj)) (s:Io) (σ:St) (H:Hp) (x:V) (v:Ad) (Q:VK),Inv X pins σ H s->RelV x v->r x H Q ->
  wpAny (model X.prog X.w) X.A (f v) (EP X pins σ Q) X.xe s
def dt(X:Cx)(f:Ad)(r:List V->Hp->VK->Prop):Prop:=
 ∀(pins:List (Addr×Obj)) (s:Io) (σ:St) (H:Hp) (d:List V) (us:List Ad) (Q:VK),Inv X pins σ H s->Vals d us->r d H Q ->
  wpAny (model X.prog X.w) X.A (call f us) (EP X pins σ Q) X.xe s
def tOp(r:R2)(t tb:TE):TE:=λσ H Q=>t σ H λx d=>tb σ d λy k=>r x y k Q
def tUn(r:V->Hp->VK->Prop)(t:TE):TE:=λσ H Q=>t σ H λx d=>r x d Q
def rI(C:Int->Int->Prop)(g:Int->Int->V):R2:=λx y H Q=>∃i j,x = .int i/\y = .int j/\C i j/\Q (g i j) H
def rI0(g:Int->Int->V):R2:=λx y H Q=>∃i j,x = .int i/\y = .int j/\Q (g i j) H
def rU(g:Int->V):V->Hp->VK->Prop:=λx H Q=>∃i,x = .int i/\Q (g i) H
section
variable {X:Cx}{a b c:Expr}{d tb e:TE}{pos:Pos}
def binT(B:PE X a d)(z:PE X b tb){s:Io}{R:V->V->Hp->Prop}(I:Inv X pins σ H s)
  (h:d σ H λx n=>tb σ n λy k=>R x y k) 
  (D:∀v u s2 x y k,Inv X pins σ k s2->RelV x v->RelV y u->R x y k->wpAny (model X.prog X.w) X.A (f v u) Q X.xe s2) :
  wpAny (model X.prog X.w) X.A (eval a X.env) (λv l=>wpAny (model X.prog X.w) X.A (eval b X.env) (λu m=>wpAny (model X.prog X.w) X.A (f v u) Q X.xe m) X.xe l) X.xe s:=by
 refine thn (B pins s σ H _ I h) λv s1 ⟨x,n,q,r1,F⟩=>?_;refine thn (z pins s1 σ n _ q F) λu s2 ⟨y,k,G,p,t⟩=>?_;exact D v u s2 x y k G r1 p t
theorem VF{op:aeJ}(p:OpR X (acd op) r)(l:PE X a d)(k:PE X b tb):PE X (.BinOp a op b pos) (tOp r d tb):=by
 intro pins s σ H Q I h;exact wpAny_BinOp (binT l k I h λv u s2 x y n m t z q=>p pins s2 σ n x y v u Q m t z q)
theorem VA{op:UnaryOp}{r:V->Hp->VK->Prop}(m:UnR X (unaryOp op) r)(n:PE X a d):PE X (.UnaryOp op a pos) (tUn r d):=by
 intro pins s σ H Q I h;exact UnaryOp_ (thn (n pins s σ H _ I h)<|by intro v s1 ⟨x,l,k,r1,q⟩;exact m pins s1 σ l x v Q k r1 q)
theorem opI{C:Int->Int->Prop}
  (k:∀(i j:Int) (t u:Tok) (s:Io) (Q:Ad->Io->Prop) (E:Ad->Io->Prop),C i j->Q (.int (g i j) s.toks) {s with toks:=s.toks+1}->wpAny (model X.prog X.w) X.A (f (.int i t) (.int j u)) Q E s) :
  OpR X f (rI C λi j=>.int (g i j)):=by
 intro pins s σ H x y v u Q I l n h;let⟨i,j,rfl,rfl,m,q⟩:=h;let⟨t,rfl⟩:=l;let⟨t',rfl⟩:=n;exact k i j t t' s _ _ m ⟨.int _,H,I.tok _,⟨_,rfl⟩,q⟩
theorem opI0
  (k:∀(i j:Int) (t u:Tok) (s:Io) (Q:Ad->Io->Prop) (E:Ad->Io->Prop),Q (.int (g i j) s.toks) {s with toks:=s.toks+1}->wpAny (model X.prog X.w) X.A (f (.int i t) (.int j u)) Q E s) :
  OpR X f (rI0 λi j=>.int (g i j)):=by
 intro pins s σ H x y v u Q I l m h;let⟨i,j,rfl,rfl,q⟩:=h;let⟨t,rfl⟩:=l;let⟨t',rfl⟩:=m;exact k i j t t' s _ _ ⟨.int _,H,I.tok _,⟨_,rfl⟩,q⟩
theorem opB0{g:Int->Int->Bool}
  (k:∀(i j:Int) (t u:Tok) (s:Io) (Q:Ad->Io->Prop) (E:Ad->Io->Prop),Q (.bool (g i j)) s->wpAny (model X.prog X.w) X.A (f (.int i t) (.int j u)) Q E s) :
  OpR X f (rI0 λi j=>.bl (g i j)):=by
 intro pins s σ H x y v u Q I l m h;let⟨i,j,rfl,rfl,q⟩:=h;let⟨t,rfl⟩:=l;let⟨t',rfl⟩:=m;exact k i j t t' s _ _ ⟨.bl _,H,I,rfl,q⟩
def CPow(i j:Int):Prop:=0≤j/\j≤1000000/\i.natAbs<2^64
def CMul(i j:Int):Prop:=(-(2^64)<i/\i<2^64)\/(-(2^64)<j/\j<2^64)
def CMul.ok{i j:Int}(h:CMul i j):agD i j:=by
 rcases h with⟨k,l⟩|⟨k,l⟩
 .exact .of_left (intBits_le_64 k l)
 .exact .of_right (intBits_le_64 k l)
def Qm:OpR X (acd .Add) (rI0 λi j=>.int (i+j)):=opI0 λ_ _ _ _ _ _ _ q=>add_int q
def Uf:OpR X (acd .Mod) (rI (λ_ j=>0<j) λi j=>.int (i%j)):=opI λi j _ _ _ _ _ k q=>by
 exact mod_int' (by omega) (by rw[Int.fmod_eq_emod_of_nonneg i (by omega)];exact q)
def Ql:OpR X (acd .Pow) (rI CPow λi j=>.int (i^j.toNat)):=opI λ_ _ _ _ _ _ _ k q=>pow_int_small k.1 k.2.1 k.2.2 q
theorem unI{f:Ad->Sem Ad}{g:Int->Int}
  (k:∀(i:Int) (t:Tok) (s:Io) (Q:Ad->Io->Prop) (E:Ad->Io->Prop),Q (.int (g i) s.toks) {s with toks:=s.toks+1}->wpAny (model X.prog X.w) X.A (f (.int i t)) Q E s) :
  UnR X f (rU λi=>.int (g i)):=by
 intro pins s σ H x v Q I l h;let⟨i,rfl,q⟩:=h;let⟨t,rfl⟩:=l;exact k i t s _ _ ⟨.int _,H,I.tok _,⟨_,rfl⟩,q⟩
def Qw:UnR X (unaryOp .USub) (rU λi=>.int (-i)):=unI λ_ _ _ _ _ q=>neg_int q
end
def scal:V->V->Bool
 | .non,.non=>true | .non,.int _=>true | .int _,.non=>true | .non,.bl _=>true | .bl _,.non=>true | .non,.str _=>true | .str _,.non=>true
 | .int _,.int _=>true | .bl _,.bl _=>true | .str _,.str _=>true | .byt _,.byt _=>true
 | .int _,.str _=>true | .str _,.int _=>true | .bl _,.str _=>true | .str _,.bl _=>true
 |_,_=>false
def rEq:R2:=λx y H Q=>scal x y=true/\Q (.bl (decide (x=y))) H
def rNe:R2:=λx y H Q=>scal x y=true/\Q (.bl (!decide (x=y))) H
def Bj{i j:Int}:decide (V.int i=V.int j)=(i==j):=by
 rw[abl];simp
def Im{i j:Bool}:decide (V.bl i=V.bl j)=(i==j):=by
 rw[abl];simp
def qw{i j:Str}:decide (V.str i=V.str j)=(i==j):=by
 rw[abl];simp
def yR{i j:Array UInt8}:decide (V.byt i=V.byt j)=(i.toList==j.toList):=by
 rw[abl];simp
section
variable {X:Cx}{a b c:Expr}{d tb f:TE}{pos:Pos}
def bI{s:Io}{Q:VK}{k k':Bool}(I:Inv X pins σ H s)(q:Q (.bl k) H)(e:k=k'):EP X pins σ Q (.bool k') s:=by
 subst e;exact⟨.bl k,H,I,rfl,q⟩
theorem UO:OpR X (aa8 .Eq) rEq:=by
 intro pins s σ H x y v u Q I m k h;let⟨l,q⟩:=h
 cases x with
 |non=>
  cases m
  cases y with
  |non=>cases k;exact PySem.EqNone.eq_none_none (bI I q (by simp))
  |bl j=>cases k;exact PySem.EqNone.eq_none_bool (bI I q (by simp))
  |int j=>let⟨t',rfl⟩:=k;exact PySem.EqNone.eq_none_int (bI I q (by simp))
  |str j=>let⟨t',rfl⟩:=k;exact PySem.EqNone.eq_none_str (bI I q (by simp))
  |_=>exact absurd (show false=true from l) aaj
 |bl i=>
  cases m
  cases y with
  |non=>cases k;exact PySem.EqNone.eq_bool_none (bI I q (by simp))
  |bl j=>cases k;exact eq_bool (bI I q Im)
  |str j=>let⟨t',rfl⟩:=k;exact PySem.EqMixed.eq_bool_str (bI I q (by simp))
  |_=>exact absurd (show false=true from l) aaj
 |int i=>
  let⟨t,rfl⟩:=m
  cases y with
  |non=>cases k;exact PySem.EqNone.eq_int_none (bI I q (by simp))
  |int j=>let⟨t',rfl⟩:=k;exact eq_int (bI I q Bj)
  |str j=>let⟨t',rfl⟩:=k;exact PySem.EqMixed.eq_int_str (bI I q (by simp))
  |_=>exact absurd (show false=true from l) aaj
 |str i=>
  let⟨t,rfl⟩:=m
  cases y with
  |non=>cases k;exact PySem.EqNone.eq_str_none (bI I q (by simp))
  |bl j=>cases k;exact PySem.EqMixed.eq_str_bool (bI I q (by simp))
  |int j=>let⟨t',rfl⟩:=k;exact PySem.EqMixed.eq_str_int (bI I q (by simp))
  |str j=>let⟨t',rfl⟩:=k;exact eq_str (bI I q qw)
  |_=>exact absurd (show false=true from l) aaj
 |byt i=>
  let⟨t,rfl⟩:=m
  cases y with
  |byt j=>let⟨t',rfl⟩:=k;exact PySem.W.eq_bytes (bI I q yR)
  |_=>exact absurd (show false=true from l) aaj
 |_=>cases y<;>exact absurd (show false=true from l) aaj
theorem Uw:OpR X (aa8 .NotEq) rNe:=by
 intro pins s σ H x y v u Q I m k h;let⟨l,q⟩:=h
 cases x with
 |non=>
  cases m
  cases y with
  |non=>cases k;exact PySem.EqNone.ne_none_none (bI I q (by rfl))
  |bl j=>cases k;exact PySem.EqNone.ne_none_bool (bI I q (by simp))
  |int j=>let⟨t',rfl⟩:=k;exact PySem.EqNone.ne_none_int (bI I q (by simp))
  |str j=>let⟨t',rfl⟩:=k;exact PySem.EqNone.ne_none_str (bI I q (by simp))
  |_=>exact absurd (show false=true from l) aaj
 |bl i=>
  cases m
  cases y with
  |non=>cases k;exact PySem.EqNone.ne_bool_none (bI I q (by simp))
  |bl j=>cases k;exact ne_bool (bI I q (congrArg not Im))
  |str j=>let⟨t',rfl⟩:=k;exact PySem.EqMixed.ne_bool_str (bI I q (by simp))
  |_=>exact absurd (show false=true from l) aaj
 |int i=>
  let⟨t,rfl⟩:=m
  cases y with
  |non=>cases k;exact PySem.EqNone.ne_int_none (bI I q (by simp))
  |int j=>let⟨t',rfl⟩:=k;exact ne_int (bI I q (congrArg not Bj))
  |str j=>let⟨t',rfl⟩:=k;exact PySem.EqMixed.ne_int_str (bI I q (by simp))
  |_=>exact absurd (show false=true from l) aaj
 |str i=>
  let⟨t,rfl⟩:=m
  cases y with
  |non=>cases k;exact PySem.EqNone.ne_str_none (bI I q (by simp))
  |bl j=>cases k;exact PySem.EqMixed.ne_str_bool (bI I q (by simp))
  |int j=>let⟨t',rfl⟩:=k;exact PySem.EqMixed.ne_str_int (bI I q (by simp))
  |str j=>let⟨t',rfl⟩:=k;exact ne_str (bI I q (congrArg not qw))
  |_=>exact absurd (show false=true from l) aaj
 |byt i=>
  let⟨t,rfl⟩:=m
  cases y with
  |byt j=>let⟨t',rfl⟩:=k;exact PySem.W.ne_bytes (bI I q (congrArg not yR))
  |_=>exact absurd (show false=true from l) aaj
 |_=>cases y<;>exact absurd (show false=true from l) aaj
def UR:OpR X (aa8 .Lt) (rI0 λi j=>.bl (decide (i<j))):=opB0 λ_ _ _ _ _ _ _ q=>lt_int q
def Vk:OpR X (aa8 .LtE) (rI0 λi j=>.bl (decide (i≤j))):=opB0 λ_ _ _ _ _ _ _ q=>le_int q
def Vf:OpR X (aa8 .Gt) (rI0 λi j=>.bl (decide (j<i))):=opB0 λ_ _ _ _ _ _ _ q=>gt_int q
def UG:OpR X (aa8 .GtE) (rI0 λi j=>.bl (decide (j≤i))):=opB0 λ_ _ _ _ _ _ _ q=>ge_int q
theorem TW:OpR X (aa8 .Is) (λx y H Q=>y = .non/\Q (.bl (decide (x = .non))) H):=by
 intro pins s σ H x y v u Q I k l h;let⟨rfl,q⟩:=h;cases l;refine is_none_gen (bI I q ?_)
 cases x<;>first
  |(cases k;rfl)
  |(let⟨t,rfl⟩:=k;rfl)
theorem Kz:OpR X (aa8 .IsNot) (λx y H Q=>y = .non/\Q (.bl (!decide (x = .non))) H):=by
 intro pins s σ H x y v u Q I k l h;let⟨rfl,q⟩:=h;cases l;refine isnot_none_gen (bI I q ?_)
 cases x<;>first
  |(cases k;rfl)
  |(let⟨t,rfl⟩:=k;rfl)
def aC(b:Expr)(h:op≠.In:=by decide)(m:op≠.NotIn:=by decide):acJ op b=false:=by
 have k:(op==CmpOp.In)=false:=by cases op<;>first|rfl|exact absurd rfl h
 have l:(op==CmpOp.NotIn)=false:=by cases op<;>first|rfl|exact absurd rfl m
 cases b<;>simp[acJ,k,l]
theorem LR(t:OpR X (aa8 op) r)(l:PE X a d)(k:PE X b tb)(p:acJ op b=false):PE X (.Compare a [op] [b] pos) (tOp r d tb):=by
 intro pins s σ H Q I h;exact wpAny_Compare1 (binT l k I h λv u s2 x y n m z B q=>t pins s2 σ n x y v u Q m z B q) p
def Qo(t:TE):TT:=λσ H Q=>t σ H λx l=>∃k,x = .bl k/\Q k l
theorem JV(R:OpR X (aa8 op) r)(p:PE X a d)(n:PE X b tb)(J:acJ op b=false):PT X (.Compare a [op] [b] pos) (Qo (tOp r d tb)):=by
 intro pins s σ H Q I h;refine wpAny_isTrue_Compare1 (thn (p pins s σ H _ I h) λv s1 ⟨x,B,m,r1,D⟩=>thn (n pins s1 σ B _ m D) λu s2 ⟨y,G,F,l,L⟩=>
  thn (R pins s2 σ G x y v u _ F r1 l L) λc T ⟨z,t,q,S,k,e,O⟩=>?_) J
 subst e;cases S;exact adb ⟨t,q,O⟩
def ur:(aal:Nat)<2^63:=by  decide
theorem yk:OpR X (acd .Add) (λx y H Q=>∃i j,x = .str i/\y = .str j/\i.length+j.length≤aal/\Q (.str (i++j)) H):=by
 intro pins s σ H x y v u Q I l m h;let⟨i,j,rfl,rfl,k,q⟩:=h;let⟨t,rfl⟩:=l;let⟨t',rfl⟩:=m;exact add_str (λt' n=>⟨.str _,H,I.tok _,⟨_,rfl⟩,q⟩) k
theorem Cq{x:V}(r:Vals [x] us):∃u,us=[u]/\RelV x u:=by
 cases r with
 |cons r1 k=>cases k;exact⟨_,rfl,r1⟩
theorem Rh{x y:V}(r:Vals [x,y] us):∃u k,us=[u,k]/\RelV x u/\RelV y k:=by
 cases r with
 |cons r1 m=>
  cases m with
  |cons n l=>cases l;exact⟨_,_,rfl,r1,n⟩
theorem B9(m:X.calm=true):dt X (.builtin "max") (λxs H Q=>∃i j,xs=[.int i,.int j]/\Q (.int (if j>i then j else i)) H):=by
 intro pins s σ H xs us Q I r h;let⟨i,j,rfl,q⟩:=h;let⟨u,y,rfl,⟨t,rfl⟩,⟨t',rfl⟩⟩:=Rh r;refine max_two_ints (I.ok.hd m) λp n k=>⟨_,H,I.kept k,?_,q⟩
 by_cases l:j>i
 .rw[if_pos l,if_pos l];exact⟨_,rfl⟩
 .rw[if_neg l,if_neg l];exact⟨_,rfl⟩
theorem zq(m:X.calm=true):dt X (.builtin "min") (λxs H Q=>∃i j,xs=[.int i,.int j]/\Q (.int (if j<i then j else i)) H):=by
 intro pins s σ H xs us Q I r h;let⟨i,j,rfl,q⟩:=h;let⟨u,y,rfl,⟨t,rfl⟩,⟨t',rfl⟩⟩:=Rh r;refine min_two_ints (I.ok.hd m) λp n k=>⟨_,H,I.kept k,?_,q⟩
 by_cases l:j<i
 .rw[if_pos l,if_pos l];exact⟨_,rfl⟩
 .rw[if_neg l,if_neg l];exact⟨_,rfl⟩
theorem ug:dt X (.type "int") (λxs H Q=>(∃i,xs=[.int i]/\Q (.int i) H)\/∃k,xs=[.bl k]/\Q (.int (if k then 1 else 0)) H):=by
 intro pins s σ H xs us Q I r h;rcases h with⟨i,rfl,q⟩|⟨k,rfl,q⟩
 .obtain⟨u,rfl,t,rfl⟩:=Cq r;exact call_int_int ⟨.int i,H,I,⟨_,rfl⟩,q⟩
 .obtain⟨u,rfl,r1⟩:=Cq r;cases r1;exact call_int_bool ⟨.int _,H,I.tok _,⟨_,rfl⟩,q⟩
end
structure ObjM(h:aaT)(x dx C:Addr)(mA:Str->Option Ad):Prop where
 obj:h.get? x=some (aci C dx)
 ns:h.Ns1 dx mA
 ne:dx≠x
theorem AH{dx:Addr}(n:h.Ns1 dx mA):∃k,h.get? dx=some k/\∀name,aeL name k=some (mA name):=by
 let⟨o,es,D,s,hd,B,_,p⟩:=n;refine⟨o,s,λname=>?_⟩;have e:=p name;unfold nsFind findBy at e;rw[<-Array.find?_toList]at e;unfold aeL;rw[hd];dsimp;split
 .rename_i y q;rw[q]at e;exact congrArg some e
 .rename_i q;rw[q]at e;have a:es.toList.any (·.refKey)=false:=by
   rw[List.any_eq_false];intro y l;let⟨z,t,d⟩:=B y (Array.mem_toList_iff.mp l);simp[ab0.refKey,d]
  have m:¬es.toList.any (·.refKey)=true:=by rw[a];exact aaj
  rw[if_neg m];exact congrArg some e
def ObjM.look{x dx:Addr}(I:ObjM h x dx C mA):∃d,PySem.W.InstAt h x (aci C dx) C (some d)/\∀name,aeL name d=some (mA name):=
 let ⟨d,ho,hl⟩:=AH I.ns
 ⟨d,⟨I.obj,rfl,rfl,ho⟩,hl⟩
section
variable {prog:aaK}{w:World}{A:abf}{E:Ad->Io->Prop}{s:Io}{K:aag}{x dx C f:Addr}{m:Str->Option Ad}{name:Str}{v:Ad}
def J3{d:Bool}(X:K.In s.heap)(I:ObjM s.heap x dx C m)(l:acQ K C name=true)(n:add K C=true)
  (q:abm K (.ref C) name=some none) (p:m name=some v) (k:agT v=true) (h:Q v {s with toks:=s.toks+1}) :
  wpAny (model prog w) A (getAttr (.ref x) name d) Q E s:=by
 let⟨y,J,t⟩:=I.look;exact PySem.W.get_value X J (aeB l).1 (PySem.W.findObj_own n q rfl (by rw[t,p])) k h
def DU{Q:Ad×List Ad->Io->Prop}(X:K.In s.heap)(I:ObjM s.heap x dx C m)(d:acQ K C name=true)
  (p:abm K (.ref C) name=some (some (.ref f))) (k:aeC K (.ref f)=true) (l:m name=none) (h:Q (.ref f,[.ref x]) s) :
  wpAny (model prog w) A (aed (.ref x) name pl) Q E s:=by
 let⟨n,J,q⟩:=I.look;exact PySem.W.method_fn X J (aeB d).1 (aeB d).2 p (beq_iff_eq.mp k) (by show(aeL name n).map (·.isSome)=some false;rw[q,l];rfl) h
theorem L9{ns:List Str}{Q:Unit->Io->Prop}(X:K.In s.heap)(I:ObjM s.heap x dx C m)
  (F:abm K (.ref C) "__setattr__" = some (some (.builtin "object.__setattr__"))) (D:adY K C=true) (G:afP K C name=some none) (L:add K C=true)
  (O:afy m ns) (hsz:ns.length≤aal)
  (h:∀h',ObjM h' x dx C (λy=>if y=name then some v else m y)->abW dx s.heap h'->Q () {s with heap:=h',toks:=s.toks+2}) :
  wpAny (model prog w) A (setAttr (.ref x) name v) Q E s:=by
 let⟨U,J,S⟩:=I.look;refine PySem.W.set_plain X J F (PySem.W.osa_open (s:={s with toks:=s.toks+1}) (r:=none) X J D G λb=>?_);let⟨T,R,n⟩:=PySem.W.any_some L;have t:s.heap.get? x=some ⟨.ref C,some dx,.plain,#[]⟩:=I.obj;refine gT (Ld (gT (gT (wpAny_loadPart t (gT (PySem.W.Looks.here (s:={s with toks:=s.toks+1}) (PySem.W.looks_clsIn X R) ?_))))));rw[n];refine Ld (a:=some dx) (gT (Ld (gT ?_)));refine wpAny_nsSet1 (s:={s with toks:=s.toks+1}) I.ns λh' d k=>?_;let⟨V,B,z,l,q,p⟩:=d.count (afy.cons name v O);refine gT (wpAny_lookBehind l (by rw[q];exact pastItsLine_dict (aaw p (by rw[aaB];omega))) ?_);exact Ld (h _ ⟨(k.2 _ (abO I.ne)).trans I.obj,d,I.ne⟩ k)
theorem F7{R:Result->Io->Prop}{vs:List Ad}(X:K.In s.heap)(l:afQ K C=true)
  (k:abm K (.ref C) "__init__" = some (some (.ref f))) (n:PySem.W.typeIn K (.ref f)=some (.type "function"))
  (h:adL (model prog w) (A.under (.builtin "type.__call__" ⟨.ref C::vs,kw⟩)) (.call (.ref f) ⟨.ref (s.heap.objs.size+1)::vs,kw⟩) (PySem.W.InitBack (s.heap.objs.size+1) R)
   {s with heap:=(s.heap.push abJ).push (aci C s.heap.objs.size)}) :
  adL (model prog w) A (.call (.ref C) ⟨vs,kw⟩) R s:=by
 let⟨p,g,d,t,os⟩:=s;exact PySem.W.make_core (PySem.W.makes_of X l) (PySem.W.looks_findIn X k) (λself=>PySem.W.bind_fn X self n) (.inl rfl) h
end
def putF(f:Str)(v:V):List (Str×V)->List (Str×V)
 |[]=>[(f,v)]
 |(g,x)::r=>if g=f then(g,v)::r else(g,x)::putF f v r
theorem ls(f g:Str)(v:V):∀fs:List (Str×V),(putF f v fs).lookup g=if g=f then some v else fs.lookup g
 |[]=>by
  show aek g [(f,v)]=_
  by_cases h:g=f
  .simp_all
  .have hb:=beq_eq_false_iff_ne.mpr h;simp only[aek,hb,if_neg h]
 | (k,x)::r=>by
  have l:=ls f g v r;rw[show putF f v ((k,x)::r)=(if k=f then(k,v)::r else(k,x)::putF f v r)from rfl]
  by_cases d:k=f
  .rw[if_pos d]
   by_cases h:g=k
   .simp_all
   .have hb:(g==k)=false:=beq_eq_false_iff_ne.mpr h;simp only[aek,hb,if_neg (λe:g=f=>h (e.trans d.symm))]
  .rw[if_neg d]
   by_cases h:g=k
   .simp_all
   .have hb:=beq_eq_false_iff_ne.mpr h;simp only[aek,hb];exact l
theorem ou(f:Str)(v:V):∀fs:List (Str×V),f∈(putF f v fs).map (·.1)/\∀g,g∈fs.map (·.1)->g∈(putF f v fs).map (·.1)
 |[]=>⟨by simp[putF],λg h=>by simp at h⟩
 | (k,x)::r=>by
  let⟨l,m⟩:=ou f v r;rw[show putF f v ((k,x)::r)=(if k=f then(k,v)::r else(k,x)::putF f v r)from rfl]
  by_cases d:k=f
  .rw[if_pos d];subst d;exact⟨by simp,λg h=>by simpa using h⟩
  .rw[if_neg d];refine⟨?_,λg h=>?_⟩
   .rw[aao];exact aaf _ l
   .rw[aao]at h⊢;rcases aah.mp h with e|e
    .exact aah.mpr (.inl e)
    .exact aaf _ (m g e)
theorem lr(f:Str)(v:V):∀fs:List (Str×V),(putF f v fs).length≤fs.length+1
 |[]=>by simp[putF]
 |(k,x)::r=>by
  have l:=lr f v r;rw[show putF f v ((k,x)::r)=(if k=f then(k,v)::r else(k,x)::putF f v r)from rfl]
  by_cases d:k=f
  .rw[if_pos d,aaB,aaB];omega
  .rw[if_neg d,aaB,aaB];omega
theorem RelO.some_of{o:Option Ad}(r:RelO (some v) o):∃u,o=some u/\RelV v u:=by
 cases o with
 |none=>exact(r).elim
 |some u=>exact⟨u,rfl,r⟩
theorem RelO.none_of{o:Option Ad}(r:RelO none o):o=none:=by
 cases o with
 |none=>rfl
 |some u=>exact(r).elim
theorem zX(r:RelV v u):agT u=true:=by
 cases v with
 |non=>cases (r);rfl
 |bl b=>cases (r);rfl
 |int i=>let⟨t,e⟩:=(r);cases e;rfl
 |str x=>let⟨t,e⟩:=(r);cases e;rfl
 |byt b=>let⟨t,e⟩:=(r);cases e;rfl
 |flt b=>let⟨t,e⟩:=(r);cases e;rfl
 |ref a=>cases (r);rfl
 |ty n=>cases (r);rfl
section
variable {P:aaK}{w:World}{H c:Hp}{h h':aaT}{a C dx:Addr}{fs b:List (Str×V)}
theorem u4(hok:HOk P w H h)(e:H a=some (.ins C dx fs)):∃mA,ObjM h a dx C mA/\(∀f,RelO (fs.lookup f) (mA f))/\afy mA (fs.map (·.1))/\fs.length≤1000/\H dx=some (.own a):=by
 let⟨d,z,ne,k,mA,n,r,q⟩:=(show ObjOk P w H h a (.ins C dx fs)from hok a _ e);exact⟨mA,⟨k,n,ne⟩,r,q,z,d⟩
end
structure Cls(K:aag)(C:Addr):Prop where
 pg:acQ K C aeG=true
 hd:add K C=true
 po:adY K C=true
 sa:abm K (.ref C) "__setattr__" = some (some (.builtin "object.__setattr__"))
def Cls.get(c:Cls K C)(f:Str):acQ K C f=true:=c.pg
def NoAttr(K:aag)(C:Addr)(f:Str):Prop:=abm K (.ref C) f=some none
def NoAttr.taker{f:Str}(n:NoAttr K C f):afP K C f=some none:=by
 unfold afP;rw[show abm K (.ref C) f=some none from n];rfl
structure Meth(K:aag)(C:Addr)(m:Str)(f:Addr):Prop where
 at_:abm K (.ref C) m=some (some (.ref f))
 fn:aeC K (.ref f)=true
 kp:abL K (.ref f)=true
section
variable {X:Cx}{p:List (Addr×Obj)}{d:St}{H:Hp}{s:Io}{a C dx:Addr}{fs:List (Str×V)}{f:Str}{v:V}{A:abf}{E:Ad->Io->Prop}
theorem yh{b:Bool}(I:Inv X p d H s)(e:H a=some (.ins C dx fs))(c:Cls X.K C)(n:NoAttr X.K C f)(l:fs.lookup f=some v)
  (h:∀u s',Inv X p d H s'->RelV v u->Q u s'):wpAny (model X.prog X.w) A (getAttr (.ref a) f b) Q E s:=by
 let⟨mA,O,r,_,_,_⟩:=u4 I.hok e;let⟨u,m,k⟩:=RelO.some_of (v:=v) (o:=mA f) (by rw[<-l];exact r f);exact J3 I.kIn O (c.get f) c.hd n m (zX k) (h u _ (I.tok _) k)
theorem qc{m:Str}{g:Addr}{Q:Ad×List Ad->Io->Prop}(I:Inv X p d H s)(e:H a=some (.ins C dx fs))(c:Cls X.K C)(k:Meth X.K C m g)(l:fs.lookup m=none)
  (h:Q (.ref g,[.ref a]) s):wpAny (model X.prog X.w) A (aed (.ref a) m pl) Q E s:=by
 let⟨mA,O,r,_,_,_⟩:=u4 I.hok e;have n:mA m=none:=RelO.none_of (by rw[<-l];exact r m);exact DU I.kIn O (c.get m) k.at_ k.fn n h
theorem yI{y:V}{Q:Unit->Io->Prop}(I:Inv X p d H s)(e:H a=some (.ins C dx fs))(c:Cls X.K C)(n:NoAttr X.K C f)(L:fs.length<1000)(J:RelV y u)
  (h:∀s',Inv X p d (upd H a (.ins C dx (putF f y fs))) s'->Q () s'):wpAny (model X.prog X.w) A (setAttr (.ref a) f u) Q E s:=by
 let⟨mA,O,r,m,_,l⟩:=u4 I.hok e;have F:(fs.map (·.1)).length≤aal:=by rw[iO,aak];omega
 refine L9 I.kIn O c.sa c.po n.taker c.hd m F λG k D=>h _ ?_;have hd:∃o,G.get? dx=some o:=let ⟨o,_,_,e',_⟩:=k.ns;⟨o,e'⟩;refine I.write (x:=a) (e:=dx) (by rw[e];exact acr) (.inr l) (λb q B z=>(D.2 b B).trans z) hd ?_;refine⟨by rw[aB O.ne];exact l,?_,O.ne,k.obj,_,k.ns,λg=>?_,λg t=>?_⟩
 .have:=lr f y fs;omega
 .show RelO ((putF f y fs).lookup g) (if g=f then some u else mA g);rw[ls]
  by_cases q:g=f
  .rw[if_pos q,if_pos q];exact J
  .rw[if_neg q,if_neg q];exact r g
 .by_cases q:g=f
  .rw[q];exact(ou f y fs).1
  .refine(ou f y fs).2 g (m g λz=>t ?_);show(if g=f then some u else mA g)=none;rw[if_neg q];exact z
theorem Inv.made(I:Inv X p d H s):Inv X p d (upd (upd H s.heap.objs.size (.own (s.heap.objs.size+1))) (s.heap.objs.size+1) (.ins C s.heap.objs.size []))
  {s with heap:=(s.heap.push abJ).push (aci C s.heap.objs.size)}:=by
 have k:(s.heap.push abJ).get? s.heap.objs.size=some abJ:=aap s.heap rfl;have z:((s.heap.push abJ).push (aci C s.heap.objs.size)).get? (s.heap.objs.size+1)=some (aci C s.heap.objs.size):=by
  have:=aap (s.heap.push abJ) (o:=aci C s.heap.objs.size) rfl;rwa[abz]at this
 have t:(s.heap.push abJ).Ns s.heap.objs.size (λ_=>none):=⟨abJ,#[],_,k,rfl,(λe l=>absurd l (by simp)),λ_=>rfl⟩;have n:=I.laid (a:=s.heap.objs.size) (o:=.own (s.heap.objs.size+1)) (h':=s.heap.push abJ) (t':=s.toks) (λb u q=>LD _ q) (aab _) ⟨_,k⟩;refine n.laid (a:=s.heap.objs.size+1) (o:=.ins C s.heap.objs.size []) (t':=s.toks) (λb u q=>LD _ q) (afA (abz _ _)) ?_;have ne:s.heap.objs.size≠s.heap.objs.size+1:=aa0 (abv _);refine⟨by rw[aB ne,aE],abh _,ne,z,λ_=>none,(aaT.Ns1.of_empty t).at λo q=>LD _ q,λ_=>acr,λy m=>absurd rfl m⟩
def L8{prog:aaK}{env:Env}{f:Str}{s:Io}(l:abo e f env (eval e env)=eval e env)
  (h:wpAny (model prog w) A (eval e env) (λo k=>wpAny (model prog w) A (getAttr o f true) Q E k) E s):wpAny (model prog w) A (eval (.Attribute e f pos) env) Q E s:=
 Attribute_any_ h (by rw[arm_eval_Attribute,l])
end
def tFld(K:aag)(t:TE)(f:Str):TE:=λσ H Q=>t σ H λx d=>∃a C dx fs v,x = .ref a/\d a=some (.ins C dx fs)/\Cls K C/\NoAttr K C f/\fs.lookup f=some v/\Q v d
def sFld(K:aag)(t k:TE)(f:Str):TS:=λD σ H=>k σ H λy l=>t σ l λx d=>∃a C dx fs,x = .ref a/\d a=some (.ins C dx fs)/\Cls K C/\NoAttr K C f/\fs.length<1000/\
 D.nx σ (upd d a (.ins C dx (putF f y fs)))
def InOp(X:Cx)(op:aeJ)(d:V->V->Hp->VK->Prop):Prop:=
 ∀(pins:List (Addr×Obj)) (s:Io) (σ:St) (H:Hp) (x y:V) (u v:Ad) (Q:VK),Inv X pins σ H s->RelV x u->RelV y v->d x y H Q->wpAny (model X.prog X.w) X.A (inplaceOp op u v) (EP X pins σ Q) X.xe s
section
variable {X:Cx}{o e b:Expr}{f:Str}{pos p g:Pos}{d k:TE}
theorem Sj(z:PE X e d)(t:abo e f X.env (eval e X.env)=eval e X.env):PE X (.Attribute e f pos) (tFld X.K d f):=by
 intro pins s σ H Q I h;refine L8 t (thn (z pins s σ H _ I h) λu s1 ⟨x,B,m,F,a,C,dx,fs,v,ex,G,c,n,l,q⟩=>?_);subst ex;obtain rfl:u=abg a:=F;exact yh m G c n l λJ s2 D y=>⟨v,B,D,y,q⟩
theorem Uc(z:PE X o d)(t:PE X b k)(J:abx b (some (.Attribute o f p)) pos.line X.env=pure false):PS X (.Assign [.Attribute o f p] b pos) (sFld X.K d k f):=by
 intro pins s σ H D I h;refine plainObj_wpAny_Assign_Attribute (thn (t pins s σ H _ I h) λu s1 ⟨y,F,m,T,q⟩=>thn (z pins s1 σ F _ m q) λS s2 ⟨x,U,G,O,a,C,dx,fs,ex,R,c,n,l,L⟩=>?_) J;subst ex;obtain rfl:S=abg a:=O;exact yI G R c n l T λV B=>⟨σ,_,B,L⟩
def rAdd:V->V->Hp->VK->Prop:=λx y H Q=>∃i j,x = .int i/\y = .int j/\Q (.int (i+j)) H
def rSub:V->V->Hp->VK->Prop:=λx y H Q=>∃i j,x = .int i/\y = .int j/\Q (.int (i-j)) H
theorem SJ:InOp X .Add rAdd:=by
 intro pins s σ H x y u v Q I l m ⟨i,j,rfl,rfl,q⟩;let⟨t,rfl⟩:=(l);let⟨t',rfl⟩:=(m);exact PyProof.Rows.iadd_int ⟨.int _,H,I.tok _,⟨_,rfl⟩,q⟩
theorem RM:InOp X .Sub rSub:=by
 intro pins s σ H x y u v Q I l m ⟨i,j,rfl,rfl,q⟩;let⟨t,rfl⟩:=(show ∃t,u=agb i t from l);let⟨t',rfl⟩:=(show ∃t',v=agb j t' from m);exact PyProof.Rows.isub_int ⟨.int (i-j),H,I.tok _,⟨_,rfl⟩,q⟩
end
structure Room(k:Nat)(A:abf):Prop where
 hd:A.handled=none
 dp:A.depth+3*k+5<recursionLimit
 un:A.units+16*k+200<cLine
 gd:A.guards=some []
def Room.mono{k:Nat}(r:Room k A)(h:j≤k):Room j A:=⟨r.hd,by have:=r.dp;omega,by have:=r.un;omega,r.gd⟩
def Room.deeper{k:Nat}(r:Room (k+1) A)(env:Env):Room k (A.deeper env):=
 ⟨r.hd,by have:=r.dp;show A.depth+1+3*k+5<_;omega,by have:=r.un;show A.units+3+16*k+200<_;omega,r.gd⟩
def yc:(A.under (.builtin "type.__call__" ⟨.ref C::us,kw⟩)).depth=A.depth+1:=rfl
def ye:(A.under (.builtin "type.__call__" ⟨.ref C::us,kw⟩)).units=A.units+1:=rfl
def uF:(A.under (.builtin "type.__call__" ⟨.ref C::us,kw⟩)).guards=A.guards:=rfl
def Room.make{k:Nat}(r:Room (k+1) A)(C:Addr)(us:List Ad)(kw:List (Str×Ad)):Room k (A.under (.builtin "type.__call__" ⟨.ref C::us,kw⟩)):=
 ⟨r.hd,by have:=r.dp;rw[yc];omega,by have:=r.un;rw[ye];omega,by rw[uF];exact r.gd⟩
def Room.depth{k:Nat}(r:Room k A):A.depth<recursionLimit:=by have:=r.dp;omega
def Room.units{k:Nat}(r:Room k A):A.units+64<cLine:=by have:=r.un;omega
def tNil:TA:=λ_ H Q=>Q [] H
def Ux(t:TE)(tr:TA):TA:=λσ H Q=>t σ H λx d=>tr σ d λk l=>Q (x::k) l
section
variable {X:Cx}{e:Expr}{es:List Expr}{a:TE}{t:TA}{pos:Pos}
theorem IG:PA X [] tNil:=λ_ _ _ _ H Q I h=>agE ⟨[],H,I,.nil,h⟩
theorem uR(n:PE X e a)(l:PA X es t)(B:aac (e::es) X.env=(false,eval e X.env)::aac es X.env:=by rfl):PA X (e::es) (Ux a t):=by
 intro pos pins s σ H Q I h;rw[B];show wpAny _ _ (spliced ((false,eval e X.env)::abj pos _)) _ _ s;refine ags (thn (n pins s σ H _ I h) λu s1 ⟨x,p,k,r1,y⟩=>?_);exact thn (l pos pins s1 σ p _ k y)<|by intro us s2 ⟨m,D,z,d,q⟩;exact⟨x::m,D,z,.cons r1 d,q⟩
def tTup(t:TA):TE:=λσ H Q=>t σ H λk d=>k.length≤aal/\∀p,d p=none->Q (.ref p) (upd d p (.tup k))
def tLst(t:TA):TE:=λσ H Q=>t σ H λk d=>k.length≤aal/\∀p,d p=none->Q (.ref p) (upd d p (.lst k))
theorem QZ{x1}(h:PA X es t):PE X (.Tuple es x1 pos) (tTup t):=by
 intro pins s σ H Q I l;refine wpAny_Tuple_spliced (thn (h pos pins s σ H _ I l) λus s1 ⟨n,k,d,r,z,q⟩=>⟨by rw[<-r.length];exact z,?_⟩);have m:=d.hok.fresh (aab _);refine⟨.ref s1.heap.objs.size,upd k s1.heap.objs.size _,d.laid (t':=s1.toks) (λb u e=>LD _ e) (aab _) ?_,rfl,q _ m⟩;exact⟨z,us,r,⟨_,aap _ rfl,rfl,rfl,_,rfl⟩⟩
theorem Sw(h:PA X es t):PE X (.List es pos) (tLst t):=by
 intro pins s σ H Q I l;refine wpAny_List_spliced (thn (h pos pins s σ H _ I l) λus s1 ⟨n,k,d,r,z,q⟩=>⟨by rw[<-r.length];exact z,?_⟩);have m:=d.hok.fresh (aab _);refine⟨.ref s1.heap.objs.size,upd k s1.heap.objs.size _,d.laid (t':=s1.toks) (λb u e=>LD _ e) (aab _) ?_,rfl,q _ m⟩;exact⟨z,us,0,r,aap _ rfl⟩
end
abbrev Sp:=List V->Hp->VK->XK->Prop
abbrev CXT:=List Env->Hp->Io->XK->Ad->Io->Prop
structure Env0(P:aaK)(w:World)(K:aag)(mg:Str->Option Ad)(base:aaT)(A:abf)(outer:List Env)(s:Io)(H:Hp):Prop where
 frames:A.frames=some outer
 mod:Mod K mg base
 bs:∀b o,base.get? b=some o->s.heap.get? b=some o/\H b=none
 bsz:base.objs.size≤s.heap.objs.size
 funs:s.heap.FunFrames base outer
 frf:∀b∈frs outer,H b=none
 hok:HOk P w H s.heap
 bare:ae1 s.gens
def CE(outer:List Env)(P:aaK)(w:World)(H:Hp)(s:Io)(Q:VK)(u:Ad)(s':Io):Prop:=
 ∃v d,s'.os=s.os/\ae1 s'.gens/\Un (frs outer) [] H d s.heap s'.heap/\HOk P w d s'.heap/\RelV v u/\Q v d
def CR(CX:CXT)(outer:List Env)(P:aaK)(w:World)(H:Hp)(s:Io)(Q:VK)(E:XK)(r:Result)(s':Io):Prop:=
 match r with
 | .ok (.ret u)=>CE outer P w H s Q u s'
 | .ok _=>False
 | .error e=>CX outer H s E e s'
structure FnOk(P:aaK)(w:World)(K:aag)(mg:Str->Option Ad)(base:aaT)(CX:CXT)(k:Nat)(f:Addr)(fd:abX)(ps:List Str)(sp:Sp):Prop where
 len:∀vs H Q E,sp vs H Q E->vs.length=ps.length
 run:∀(A:abf) (outer:List Env) (s:Io) (H:Hp) (args:Args) (us:List Ad) (vs:List V) (Q:VK) (E:XK),Room k A->Env0 P w K mg base A outer s H->agF s fd args (ps.zip us)->Vals vs us->sp vs H Q E ->
  adL (model P w) A (.call (.ref f) args) (CR CX outer P w H s Q E) s
def Env0.make{base:aaT}{s:Io}(e:Env0 P w K mg base A outer s H)(C:Addr)(us:List Ad)(kw:List (Str×Ad)) :
  Env0 P w K mg base (A.under (.builtin "type.__call__" ⟨.ref C::us,kw⟩)) outer s H:=⟨by first|exact e.frames|(simpa[ pushEnvs]),e.mod,e.bs,e.bsz,e.funs,e.frf,e.hok,e.bare⟩
section
variable {X:Cx}{p:List (Addr×Obj)}{a:St}{H:Hp}{s s':Io}
def Inv.env0(I:Inv X p a H s):Env0 X.prog X.w X.K X.mg X.base X.A X.stack s H:=
 ⟨I.ok.frames,I.ok.mod,I.bs,aaw I.ok.bsz I.sz,I.stack,I.stkFree,I.hok,I.bare⟩
theorem Inv.after{Q:VK}(I:Inv X p a H s)(h:CE X.stack X.prog X.w H s Q u s'):EP X p a Q u s':=by
 let⟨v,m,os,bare,un,hok,r,q⟩:=h;let⟨l,g,d,t,k⟩:=s';obtain rfl:k=s.os:=os;exact⟨v,m,I.call (h':=l) (g':=g) (d':=d) (t':=t) un hok bare (λb z=>absurd z (by simp)),r,q⟩
end
def QU(sp:Sp)(d:List V)(E:XK)(t:TA):TE:=λσ H Q=>t σ H λvs k=>sp (vs++d) k Q E
def Kj(C:Addr)(m:Str)(sp:Sp)(d:List V)(E:XK)(l:TE)(t:TA):TE:=λσ H Q=>l σ H λx k=>∃a dx fs,x = .ref a/\k a=some (.ins C dx fs)/\fs.lookup m=none/\
 t σ k λvs n=>sp (x::(vs++d)) n Q E
def Qg(C:Addr)(sp:Sp)(k:List V)(E:XK)(t:TA):TE:=λσ H Q=>t σ H λvs d=>∀x dx,d x=none->d dx=none->dx≠x ->
 sp (.ref x::(vs++k)) (upd (upd d dx (.own x)) x (.ins C dx [])) (λv l=>v = .non/\Q (.ref x) l) E
def Binds(K:aag)(fd:abX)(ps:List Str)(ds:List Ad):Prop:=
 ∀(s:Io) (us:List Ad),K.In s.heap->(us++ds).length=ps.length->agF s fd ⟨us,[]⟩ (ps.zip (us++ds))
def Binds.all{fd:abX}(h:∀us:List Ad,us.length=ps.length->adB fd ⟨us,[]⟩=pure (ps.zip us)):Binds K fd ps []:=λs us _ d=>by
 rw[aaY]at d⊢;exact .of_eq (h us d)
def kq(CX:CXT)(X:Cx)(E:XK):Prop:=∀(pins:List (Addr×Obj)) (σ:St) (H:Hp) (s:Io) (e:Ad) (d:Io),Inv X pins σ H s->CX X.stack H s E e d->X.xe e d
section
variable {X:Cx}{CX:CXT}{k:Nat}{f C:Addr}{fd:abX}{ps:List Str}{sp:Sp}{dvs:List V}{ds:List Ad}{E:XK}{x m:Str}{p pos apos:Pos}{e o:Expr}{es:List Expr}{ta:TE}{t:TA}
theorem yQ{s:Io}{Q:VK}(F:FnOk X.prog X.w X.K X.mg X.base CX k f fd ps sp)(z:Room k X.A)(q:Binds X.K fd ps ds)(hd:Vals dvs ds)(n:kq CX X E)
  (I:Inv X pins σ H s) (r:Vals vs us) (h:sp (vs++dvs) H Q E):wpAny (model X.prog X.w) X.A (call (.ref f) us) (EP X pins σ Q) X.xe s:=by
 have l:=r.append hd;have D:(us++ds).length=ps.length:=by rw[<-l.length];exact F.len _ _ _ _ h
 refine wpAny_call (adZ (F.run X.A X.stack s H _ _ _ Q E z I.env0 (q s us I.kIn D) l h) λr y d=>?_)
 cases r with
 |error e=>exact n pins σ H s e y I d
 |ok B=>
  cases B with
  |ret u=>exact I.after d
  |next=>exact acj d
  |brk=>exact acj d
  |cont=>exact acj d
theorem J7(F:FnOk X.prog X.w X.K X.mg X.base CX k f fd ps sp)(D:Room k X.A)(z:Gl X x)(L:X.mg x=some (.ref f))(O:abL X.K (.ref f)=true)(B:Binds X.K fd ps ds)(hd:Vals dvs ds)(y:kq CX X E)
  (G:PA X (e::es) t) (l:(x==("__debug__" : Str))=false:=by decide) (J:aac (e::es) X.env=(false,eval e X.env)::aac es X.env:=by rfl) (d:(abj pos (aac es X.env)).any (·.1)=false:=by rfl) :
  PE X (.Call (.Name x p) (e::es) [] pos) (QU sp dvs E t):=by
 intro pins s σ H Q I h;refine acs (Bv I z L ?_ l);refine aeM I.ok.mod.kin O (thn (G pos pins s σ H _ I h) λus s1 ⟨vs,R,n,r,q⟩=>⟨n.kIn,?_⟩) J d;exact yQ F D B hd y n r q
theorem JX(O:PE X o ta)(c:Cls X.K C)(B:Meth X.K C m f)(F:FnOk X.prog X.w X.K X.mg X.base CX k f fd ps sp)(J:Room k X.A)(G:Binds X.K fd ps ds)(hd:Vals dvs ds)(D:kq CX X E)(L:PA X (e::es) t)
  (d:aac (e::es) X.env=(false,eval e X.env)::aac es X.env:=by rfl) (n:(abj pos (aac es X.env)).any (·.1)=false:=by rfl)
  (S:eval (.Call (.Attribute o m apos) (e::es) [] pos) X.env=(do
   let ov <- eval o X.env
   acA apos.atName
   let (f,first) <- adj [ov] (aed ov m pl)
   af3 pos f first (abj pos (aac (e::es) X.env)) (acR pos (abR [] X.env))):=by rfl) :
  PE X (.Call (.Attribute o m apos) (e::es) [] pos) (Kj C m sp dvs E ta t):=by
 intro pins s σ H Q I h;refine afW (pl:=pl) (thn (O pins s σ H _ I h) λu s1 ⟨x,R,y,U,a,dx,fs,ex,V,l,q⟩=>?_) S;subst ex;obtain rfl:u=abg a:=U;refine qc y V c B l ?_;refine aeM (first:=[.ref a]) (h₀:=X.base) I.ok.mod.kin B.kp (thn (L pos pins s1 σ R _ y q) λus s2 ⟨vs,W,z,r,T⟩=>⟨z.kIn,?_⟩) d n;exact yQ (us:=.ref a::us) (vs:=.ref a::vs) F J G hd D z (.cons rfl r) T
theorem Dq(D:PE X o ta)(c:Cls X.K C)(n:Meth X.K C m f)(F:FnOk X.prog X.w X.K X.mg X.base CX k f fd ps sp)(B:Room k X.A)(z:Binds X.K fd ps ds)(hd:Vals dvs ds)(y:kq CX X E)
  (G:eval (.Call (.Attribute o m apos) [] [] pos) X.env=(do
   let ov <- eval o X.env
   acA apos.atName
   let (f,first) <- adj [ov] (aed ov m pl)
   af3 pos f first (abj pos (aac [] X.env)) (acR pos (abR [] X.env))):=by rfl) :
  PE X (.Call (.Attribute o m apos) [] [] pos) (Kj C m sp dvs E ta tNil):=by
 intro pins s σ H Q I h;refine afW (pl:=pl) (thn (D pins s σ H _ I h) λu s1 ⟨x,O,d,J,a,dx,fs,ex,L,l,q⟩=>?_) G;subst ex;obtain rfl:u=abg a:=J;refine qc d L c n l ?_;exact PySem.W.callWith_K0 (first:=[.ref a]) d.kIn n.kp (yQ (us:=[.ref a]) (vs:=[.ref a]) F B z hd y d (.cons rfl .nil) q)
structure Mk(K:aag)(C f:Addr):Prop where
 makes:afQ K C=true
 init:abm K (.ref C) "__init__" = some (some (.ref f))
 fn:aeC K (.ref f)=true
 kp:abL K (.ref C)=true
theorem Fu{s:Io}{Q:VK}(M:Mk X.K C f)(F:FnOk X.prog X.w X.K X.mg X.base CX k f fd ps sp)(D:Room (k+1) X.A)(z:Binds X.K fd ps ds)(hd:Vals dvs ds)
  (y:kq CX X E) (I:Inv X pins σ H s) (r:Vals vs us)
  (h:∀x dx,H x=none->H dx=none->dx≠x->sp (.ref x::(vs++dvs)) (upd (upd H dx (.own x)) x (.ins C dx [])) (λv J=>v = .non/\Q (.ref x) J) E) :
  wpAny (model X.prog X.w) X.A (call (.ref C) us) (EP X pins σ Q) X.xe s:=by
 have q:=h (s.heap.objs.size+1) s.heap.objs.size (I.hok.fresh (ae2 _)) (I.hok.fresh (aab _)) (aa0 (abv _));have l:=Inv.made (C:=C) I;have n:Vals (V.ref (s.heap.objs.size+1)::(vs++dvs)) (abg (s.heap.objs.size+1)::(us++ds)):=.cons rfl (r.append hd);have L:(abg (s.heap.objs.size+1)::us++ds).length=ps.length:=by
  have e:=n.length;rw[F.len _ _ _ _ q]at e;exact e.symm
 refine wpAny_call (F7 (f:=f) I.kIn M.makes M.init (beq_iff_eq.mp M.fn) (adZ (F.run _ X.stack _ _ ⟨abg (s.heap.objs.size+1)::us,[]⟩ (abg (s.heap.objs.size+1)::(us++ds)) _ _ E (D.make C us [])
  (l.env0.make C us []) (z _ (abg (s.heap.objs.size+1)::us) l.kIn L) n q) λr B d=>?_))
 cases r with
 |error e=>exact y pins σ _ _ e B l d
 | ok R=>
  cases R with
  |ret u=>
   let⟨v,U,G,T,S,O⟩:=l.after d;subst S;exact⟨T,⟨V.ref (s.heap.objs.size+1),U,G,rfl,O⟩⟩
  |next=>exact acj d
  |brk=>exact acj d
  |cont=>exact acj d
theorem LW(M:Mk X.K C f)(F:FnOk X.prog X.w X.K X.mg X.base CX k f fd ps sp)(D:Room (k+1) X.A)(z:Gl X x)(L:X.mg x=some (.ref C))(B:Binds X.K fd ps ds)(hd:Vals dvs ds)(y:kq CX X E)
  (G:PA X (e::es) t) (l:(x==("__debug__" : Str))=false:=by decide) (J:aac (e::es) X.env=(false,eval e X.env)::aac es X.env:=by rfl) (d:(abj pos (aac es X.env)).any (·.1)=false:=by rfl) :
  PE X (.Call (.Name x p) (e::es) [] pos) (Qg C sp dvs E t):=by
 intro pins s σ H Q I h;refine acs (Bv I z L ?_ l);refine aeM (h₀:=X.base) I.ok.mod.kin M.kp (thn (G pos pins s σ H _ I h) λus s1 ⟨vs,O,n,r,q⟩=>⟨n.kIn,?_⟩) J d;exact Fu M F D B hd y n r q
end
structure ay(N P:List Str)(sc:Scope):Prop where
 kind:sc.kind = .function
 co:sc.isCoroutine=false
 gen:sc.isGenerator=false
 nd:N.Nodup
 pre:N.take P.length=P
 par:∀x∈P,sc.names.lookup x=some .local\/sc.names.lookup x=some .cell
 nofree:∀y∈sc.names,y.2≠.free
theorem sK{k:Str->Option ael}{x:Str}:∀{binds:List (Str×Ad)}{m:Str->Option Ad},(∀v,(x,v)∉binds)->bindL k binds m x=m x
 |[],_,_=>rfl
 | (n,v)::r,m,h=>by
  unfold bindL;rw[sK λw d=>h w (aaf _ d)];split
  .have:x≠n:=by rintro rfl;exact h v aae
   simp[this]
  .rfl
theorem sj{k:Str->Option ael}{x:Str}:∀{binds:List (Str×Ad)}{m:Str->Option Ad},(∀v,(x,v)∉binds)->bindC k binds m x=m x
 |[],_,_=>rfl
 | (n,v)::r,m,h=>by
  unfold bindC;rw[sj λw d=>h w (aaf _ d)];split
  .rfl
  .have:x≠n:=by rintro rfl;exact h v aae
   simp[this]
theorem r9{k:Str->Option ael}{x:Str}{v:Ad}:∀{P:List Str}{vs:List Ad}{i:Nat}{m:Str->Option Ad},P.Nodup->P[i]?=some x->vs[i]?=some v->k x=some .local ->
  bindL k (P.zip vs) m x=some v
 |[],_,_,_,_,h,_,_=>by simp at h
 |_::_,[],_,_,_,_,h,_=>by simp at h
 |p::P,w::vs,0,m,nd,h1,h2,hk=>by
  simp at h1 h2;subst h1;subst h2;show bindL k ((p,w)::P.zip vs) m p=_;unfold bindL;rw[sK λv d=>(aa7.mp nd).1 (afR d).1,if_pos hk];simp
 |p::P,w::vs,i+1,m,nd,h1,h2,hk=>by
  unfold bindL;exact r9 (aa7.mp nd).2 ‹_› ‹_› hk
theorem sy{k:Str->Option ael}{x:Str}{v:Ad}:∀{P:List Str}{vs:List Ad}{i:Nat}{m:Str->Option Ad},P.Nodup->P[i]?=some x->vs[i]?=some v->k x≠some .local ->
  bindC k (P.zip vs) m x=some v
 |[],_,_,_,_,h,_,_=>by simp at h
 |_::_,[],_,_,_,_,h,_=>by simp at h
 |p::P,w::vs,0,m,nd,h1,h2,hk=>by
  simp at h1 h2;subst h1;subst h2;show bindC k (_::P.zip vs) m p=_;unfold bindC;rw[sj λv d=>(aa7.mp nd).1 (afR d).1,if_neg hk];simp
 |p::P,w::vs,i+1,m,nd,h1,h2,hk=>by
  unfold bindC;exact sy (aa7.mp nd).2 ‹_› ‹_› hk
def start(N:List Str)(vs:List V):St:=vs.map some++aar (N.length-vs.length) none
def cxOf(CX:CXT)(P:aaK)(w:World)(K:aag)(mg:Str->Option Ad)(base:aaT)(N:List Str)(q:Str)(scope:Scope)(f:Addr)(k:Ad)(A:abf)(outer:List Env)(s:Io)(H:Hp)(E:XK):Cx where
 prog:=P
 w:=w
 K:=K
 mg:=mg
 base:=base
 A:=A.deeper (ad0 q scope s.heap.objs.size f k)
 N:=N
 s₀:=s
 H₀:=H
 env:=ad0 q scope s.heap.objs.size f k
 outer:=outer
 stack:=ad0 q scope s.heap.objs.size f k::outer
 ex:=[]
 calm:=true
 fn:=λ_=>true
 pn:=[]
 xe:=λe l=>wpAny (model P w) (A.deeper (ad0 q scope s.heap.objs.size f k)) (leaving (ad0 q scope s.heap.objs.size f k) e) (λ_ d=>CX outer H s E e d) (λm d=>CX outer H s E m d) l
def wr{sc:Scope}{n:Nat}(h:sc.names.lookup x=some .cell):∃c,(cellsFrom n sc.names []).lookup x=some c:=by
 have q:=afB sc.names n [] (.inl h);exact afa.mp q
theorem C5{CX:CXT}{base:aaT}{d:Str}{f:Addr}{J:Ad}{s s1:Io}{E:XK}
  (S:ay N ps scope) (hd:A.handled=none) (m:Env0 P w K mg base A outer s H) (Y:vs.length=ps.length) (r:Vals vs us)
  (x:InCallC s s.heap.objs.size (bindL (ad0 d scope s.heap.objs.size f J).kindOf (ps.zip us) λ_=>none) (cellsFrom (s.heap.objs.size+1) scope.names []) (bindC (ad0 d scope s.heap.objs.size f J).kindOf (ps.zip us) λ_=>none) s1) :
  Inv (cxOf CX P w K mg base N d scope f J A outer s H E) [] (start N vs) H s1:=by
 have T:ps.length≤N.length:=by have:=congrArg adg S.pre;rw[aaC]at this;omega
 let⟨I,V,rfl,O⟩:=x.done;have t:∀b:Addr,b∉(cxOf CX P w K mg base N d scope f J A outer s H E).ex:=λb z=>absurd (show b∈([]:List Addr)from z) (by simp);refine⟨⟨m.mod,S.kind,rfl,rfl,aab _,λy z c I l=>?_,λy B=>?_,λy c _ h=>?_,λ_=>hd,abf.frames_deeper m.frames,.inr ⟨rfl,rfl⟩,λb z=>absurd z (t b),m.bs,m.bsz,λb _ _=>t b,λb z=>absurd z (t b),m.funs,m.frf⟩,
  rfl,m.bare,Un.kept O,⟨_,x.toInCall.ns,λi y v I l W=>?_⟩,λy c h=>⟨_,x.cell y c h⟩,m.hok.fresh (aab _),λy c h=>?_,λp D=>absurd (show p∈([]:List (Addr×Obj))from D) (by simp),m.hok.kept O,?_⟩
 .exact name_of_addr x.apart (ack I) (ack l)
 .rcases B with B|B
  .exact wr B
  .exact absurd rfl (S.nofree _ (ack B))
 .exact acz (x.above y c (ack h))
 .have G:i<vs.length:=by
   unfold start at l
   by_cases G:i<vs.length
   .exact G
   .rw[aaM (by simpa using G)]at l;rw[adU]at l
    split at l<;>cases l
  have R:vs[i]?=some v:=by
   unfold start at l;rw[aaF (by simpa using G),aai]at l
   cases e:vs[i]? with
   |none=>rw[e]at l;cases l
   |some a=>rw[e]at l;cases l;rfl
  let⟨u,L,U⟩:=r.get R;have D:ps[i]?=some y:=by
   rw[<-S.pre,List.getElem?_take_of_lt (by omega)];exact I
  have F:ps.Nodup:=by rw[<-S.pre];exact S.nd.sublist (List.take_sublist _ _)
  refine⟨u,U,?_⟩;rcases S.par y (GT D)with k|k
  .exact .inl ⟨k,r9 F D L k⟩
  .obtain⟨c,e⟩:=wr (n:=s.heap.objs.size+1) k;refine .inr ⟨.inl k,c,e,?_⟩;have q:=x.cell y c e;rw[sy F D L (by show scope.names.lookup y≠_;rw[k];decide)]at q;exact q
 .exact m.hok.fresh (acz (x.above y c (ack h)))
 .unfold start;show _=N.length;rw[aan,iO,ac8];omega
theorem UE{CX:CXT}{base:aaT}{k:Nat}{f:Addr}{name d:Str}{p:Arguments}{dV kV G pm l ct oc:Ad}{an od:Option Addr}
  {Z:Array (Option Ad)}{sp:Sp} (lk:K.lookup f=some ⟨oc,od,.func (abi name d p body scope dV kV G pm an l ct),Z⟩) (hcd:adh K l d=true) (S:ay N ps scope)
  (len:∀vs H Q E,sp vs H Q E->vs.length=ps.length)
  (D:∀(A:abf) (outer:List Env) (s:Io) (H:Hp) (vs:List V) (Q:VK) (E:XK),Room k (A.deeper (ad0 d scope s.heap.objs.size f l))->sp vs H Q E ->
   ∃t,PSs (cxOf CX P w K mg base N d scope f l A outer s H E) body t/\t {nx:=λ_ z=>Q .non z,rt:=Q} (start N vs) H) :
  FnOk P w K mg base CX (k+1) f (abi name d p body scope dV kV G pm an l ct) ps sp:=by
 refine⟨len,λA outer s H args us vs Q E Y O hb r R=>?_⟩;have hl:=len _ _ _ _ R;have KX:K.In s.heap:=O.mod.kin.keeps λb o e=>(O.bs b o e).1;have T:s.heap.NoLimit:=O.mod.nolimit.keeps λb o e=>(O.bs b o e).1;have B:∀y∈ps.zip us,scope.names.lookup y.1=some .local\/(scope.names.lookup y.1=some .cell/\((cellsFrom (s.heap.objs.size+1) scope.names []).lookup y.1).isSome=true):=by
  intro⟨n,v⟩ hy;rcases S.par n (afR hy).1 with q|q
  .exact .inl q
  .exact .inr ⟨q,afB _ _ _ (.inl q)⟩
 refine codeAny_call_function Y.depth (KX _ _ lk) rfl S.co S.gen rfl (PySem.W.codeRec_of KX hcd) (hb _ _ _ _ ?_);refine wpAny_newFunctionEnv_cells S.kind B λenv he s1 x=>?_;subst he;refine⟨T.keeps x.toInCall.keep,codeAny_func ?_⟩;let⟨t,ht,hq⟩:=D A outer s H vs Q E (Y.deeper _) R;have I:Inv (cxOf CX P w K mg base N d scope f l A outer s H E) [] (start N vs) H s1:=C5 S Y.hd O hl r x;refine acq (ht [] s1 (start N vs) H _ I hq) (λfl W F=>?_) λe W F=>F;have L:∀{m:St}{z:Hp}{v:V}{u:Ad},Inv (cxOf CX P w K mg base N d scope f l A outer s H E) [] m z W->RelV v u->Q v z->CE outer P w H s Q u W:=
  λ{m z v u} J U q=>⟨v,z,J.os,J.bare,J.base,J.hok,U,q⟩
 cases fl with
 |ret u=>
  let⟨v,m,z,J,U,q⟩:=F;exact L J U q
 |next=>
  let⟨m,z,J,q⟩:=F;exact L (v:=V.non) (u:=afx) J rfl q
 |brk=>
  let⟨_,_,_,q⟩:=F;exact acj q
 |cont=>
  let⟨_,_,_,q⟩:=F;exact acj q
section
variable {X:Cx}{x:Str}{p pos:Pos}{e:Expr}{es:List Expr}{t:TA}{id T:String}{r:List V->Hp->VK->Prop}
def tCB(r:List V->Hp->VK->Prop)(t:TA):TE:=λσ H Q=>t σ H λvs d=>r vs d Q
theorem xp(F:dt X (.builtin id) r)(l:Gl X x)(D:X.mg x=none)(n:aaU x=some (.builtin id))(q:PA X (e::es) t)(G:x ≠ "__name__":=by decide)(k:(x==("__debug__" : Str))=false:=by decide)
  (y:aac (e::es) X.env=(false,eval e X.env)::aac es X.env:=by rfl) (d:(abj pos (aac es X.env)).any (·.1)=false:=by rfl):PE X (.Call (.Name x p) (e::es) [] pos) (tCB r t):=by
 intro pins s σ H Q I h;refine acs (nH I l D n ?_ G k);exact aee (thn (q pos pins s σ H _ I h)<|by intro us s1 ⟨vs,z,m,r1,B⟩;exact F pins s1 σ z vs us Q m r1 B) y d
theorem BO(F:dt X (.type T) r)(l:Gl X x)(D:X.mg x=none)(n:aaU x=some (.type T))(q:PA X (e::es) t)(G:x ≠ "__name__":=by decide)(k:(x==("__debug__" : Str))=false:=by decide)
  (y:aac (e::es) X.env=(false,eval e X.env)::aac es X.env:=by rfl) (d:(abj pos (aac es X.env)).any (·.1)=false:=by rfl):PE X (.Call (.Name x p) (e::es) [] pos) (tCB r t):=by
 intro pins s σ H Q I h;refine acs (nH I l D n ?_ G k);exact adc (thn (q pos pins s σ H _ I h) λus s1 ⟨vs,z,m,r1,B⟩=>F pins s1 σ z vs us Q m r1 B) y d
end
end L2
namespace HT
open PySem PyProof.Rows
variable{Q:Ad->Io->Prop}{hi lo:Option Int}
section
variable {prog:aaK}{w:World}{A:abf}{E:Ad->Io->Prop}{s:Io}
theorem cat_tup{t b:Addr}{vs a:List Ad}(v:IsTup s.heap t vs.toArray)(q:IsTup s.heap b a.toArray)(r:vs≠[])
  (x:a=[]->Q (.ref t) s) (u:a≠[]->Q (.ref s.heap.objs.size) {s with heap:=s.heap.push {cls:=.type "tuple",data:=.seq (vs++a).toArray} })
  (hsz:vs.length+a.length≤aal):wpAny (model prog w) A (acd .Add (.ref t) (.ref b)) Q E s:=by
 let⟨⟨cls,p,data,l⟩,i,o,n,hd⟩:=id v;let⟨⟨m,d,j,c⟩,h,g,n2,f⟩:=id q;simp only at o hd g f;subst o hd g f;have e:vs.toArray++a.toArray=(vs++a).toArray:=by simp
 by_cases k:a=[]
 .exact afC ⟨_,i,rfl⟩ ⟨_,h,rfl⟩ afp agn ad1 adV (adC _ _)
   (tuple_addW1 t b vs.toArray a.toArray n n2 p d l c (by simpa) (by simp[k])) ⟨i,h,x k⟩
 .refine afC ⟨_,i,rfl⟩ ⟨_,h,rfl⟩ afp agn ad1 adV (adC _ _)
   (tuple_addW2 t b vs.toArray a.toArray n n2 p d l c (by simpa using r) (by simpa) ‹_›) ⟨i,h,?_⟩
  rw[e];exact u k
def sIx(n d:Nat):Option Int->Nat
 |none=>d
 |some v=>if v<0 then(v+(n:Int)).toNat else min v.toNat n
def sIx_none(n d:Nat):sIx n d none=d:=rfl
def sIx_nat(n d k:Nat):sIx n d (some (k:Int))=min k n:=rfl
theorem OJ(n d:Nat)(hd:d≤n)(o:Option Int):sIx n d o≤n:=by
 cases o with
 |none=>exact hd
 |some v=>
  show(if v<0 then(v+n).toNat else min v.toNat n)≤n
  by_cases h:v<0
  .grind
  .rw[if_neg h];exact adk _ _
theorem y6(v:Int)(n d:Nat):(if v<0 then max (v+(n:Int)) 0 else min v (n:Int))=((sIx n d (some v):Nat):Int):=by
 show _=(((if v<0 then(v+_).toNat else min v.toNat n):Nat):Int)
 grind
theorem yK(lo hi:Option Int)(n:Nat):aeW lo hi 1 (n:Int)=(((sIx n 0 lo:Nat):Int),((sIx n n hi:Nat):Int)):=by
 refine aem ?_ ?_
 .cases lo with
  |none=>rfl
  |some v=>exact y6 v n 0
 .cases hi with
  |none=>rfl
  |some v=>exact y6 v n n
theorem yb(i j:Nat):adr (i:Int) (j:Int) 1=j-i:=by
 unfold adr
 grind
theorem pH{v:Ad}{o:Option Int}{Q:Option Int->Io->Prop}(p:afD v o)(h:Q o s):wpAny (model prog w) A (acB.Slice.slicePartIndex v) Q E s:=by
 cases p with
 |none=>exact slicePart_none h
 |int i t=>exact slicePart_int h
def gl{sl:Addr}{vl v:Ad}{n:Nat}{Q:Int×Int×Nat->Io->Prop}(c:s.heap.IsSliceOf sl vl v .none)(pl:afD vl lo)(p:afD v hi)
  (h:Q (((sIx n 0 lo:Nat):Int),1,sIx n n hi-sIx n 0 lo) s):wpAny (model prog w) A (acB.Slice.sliceApplied (.ref sl) (pure (n:Int))) Q E s:=by
 let⟨os,b,d,a⟩:=id c;refine gT (gT (abA b a (x:=vl) rfl (gT (abA b a (x:=v) rfl (gT (abA b a (x:=.none) rfl (Ld ?_)))))));refine gT (slicePart_none ?_);refine gT (pH pl (gT (pH p (gT (Ld ?_)))));show wpAny _ _ (match aeW lo hi 1 (n:Int)with|(lo,hi)=>pure (lo,(1:Int),adr lo hi 1)) _ _ s;rw[yK lo hi n];show wpAny _ _ (pure _) _ _ s;rw[yb];exact Ld h
def FX(xs:Array Ad)(i k:Nat):((aax k).filterMap λ(m:Nat)=>xs[((i:Int)+(m:Int)*1).toNat]?).toArray=((xs.toList.drop i).take k).toArray:=by
 have e:(λ(m:Nat)=>xs[(i+(m:Int)*1).toNat]?)=λm=>xs[i+m]?:=by
  funext m
  have:(i+(m:Int)*1).toNat=i+m:=by omega
  rw[this]
 rw[e];have:=pick_run xs i k;rw[agt]at this;have a:(_∘λx=>i+x)=λm=>xs[i+m]?:=rfl;rw[a]at this;rw[this]
theorem getItem_tuple_cut{t sl:Addr}{items:Array Ad}{vl v:Ad}(b:IsTup s.heap t items)(g:s.heap.IsSliceOf sl vl v .none)(pl:afD vl lo)(p:afD v hi)
  (k:¬(sIx items.size 0 lo=0/\sIx items.size items.size hi=items.size))
  (h:Q (.ref s.heap.objs.size) {s with heap:=s.heap.push {cls:=.type "tuple",data:=.seq ((items.toList.drop (sIx items.size 0 lo)).take (sIx items.size items.size hi-sIx items.size 0 lo)).toArray} })
  (hsz:items.size≤aal):wpAny (model prog w) A (aei (.ref t) (.ref sl)) Q E s:=by
 have a:sizeOk (.seq ((items.toList.drop (sIx items.size 0 lo)).take (sIx items.size items.size hi-sIx items.size 0 lo)).toArray):=by
  show((items.toList.drop (sIx items.size 0 lo)).take (sIx items.size items.size hi-sIx items.size 0 lo)).toArray.size≤aal;rw[aaI,aaC,aef,abI];omega
 have j:sIx items.size items.size hi≤items.size:=OJ _ _ (aab _) hi;let⟨os,d,e,i⟩:=id g;have f:s.TypeIs (.ref sl) "slice":=⟨os,d,e⟩;unfold aei
 try with_reducible refine abU ?_
 first|refine gT (Ld ?_)|skip
 refine gT (ae3 b.typeIs (by decide) ?_);refine gT (aaZ (name:=ab8 "__getitem__") b.typeIs abk
  (abb abk b.typeIs entry_tuple_getitem ?_ (args_tuple_getitem _ _)))
 show wpAny _ _ (adi (.ref t) >>= _) _ _ s;refine gT (ago b ?_);refine gT (acV f ?_);rw[if_pos (by decide)];refine gT (gl g pl p ?_);have c:¬((((sIx items.size 0 lo:Nat):Int)==0&&(1:Int)==1&&(sIx items.size items.size hi-sIx items.size 0 lo)==items.size)=true):=by
  grind
 show wpAny _ _ (if (((sIx items.size 0 lo:Nat):Int)==0&&(1:Int)==1&&(sIx items.size items.size hi-sIx items.size 0 lo)==items.size)=true then _ else _) _ _ s;rw[if_neg c,FX]
 first
  |exact gT (m:=abM _) (abc (Ld ⟨_,rfl,Ld h⟩) a)
  |exact gT (m:=abM _) (abc (gT (Ld (Ld ⟨_,rfl,Ld h⟩))) a)
  |exact gT (gT (m:=abM _) (abc (Ld (Ld ⟨_,rfl,Ld h⟩)) a))
  |exact gT (gT (m:=abM _) (abc (Ld ⟨_,rfl,Ld h⟩) a))
end
end HT
namespace L2
open PySem PySem.Spec PyProof.Rows
variable{n:Nat}{α:Type}{its:List Ad}
abbrev TO:=St->Hp->(Option Int->Hp->Prop)->Prop
def PO(X:Cx)(e:Option Expr)(t:TO):Prop:=
 ∀(p:List (Addr×Obj)) (s:Io) (a:St) (H:Hp) (Q:Option Int->Hp->Prop),Inv X p a H s->t a H Q ->
  wpAny (model X.prog X.w) X.A (evalPart e X.env) (λu c=>∃o b,Inv X p a b c/\afD u o/\Q o b) X.xe s
def Oy:TO:=λ_ H Q=>Q none H
def UK(t:TE):TO:=λa H Q=>t a H λx b=>∃i,x = .int i/\Q (some i) b
theorem fY{ns:List Int}:∀{us:List Ad},Vals (ns.map V.int) us->aeD us ns:=by
 induction ns with
 |nil=>intro us r;cases r;exact .nil
 | cons n ns i=>
  intro us r
  cases r with
  |cons r1 a=>
   let⟨t,e⟩:=r1;subst e;exact .cons n t (i a)
section
variable {X:Cx}{e:Expr}{f:TE}{c d:Option Expr}{tl g:TO}{pos j:Pos}
def JY:PO X none Oy:=by
 intro p s a H Q I h;exact Ld ⟨none,H,I,.none,h⟩
def Oi(h:PE X e f):PO X (some e) (UK f):=by
 intro p s a H Q I l;refine thn (h p s a H _ I l) λu s1 ⟨x,k,b,r1,m⟩=>?_;let⟨i,rfl,q⟩:=m;let⟨t,rfl⟩:=r1;exact⟨some i,k,b,.int i t,q⟩
def SlR(X:Cx)(r:V->Option Int->Option Int->Hp->VK->Prop):Prop:=
 ∀(p:List (Addr×Obj)) (s:Io) (a:St) (H:Hp) (x:V) (v vl h:Ad) (c d:Option Int) (b:Addr) (Q:VK),Inv X p a H s->RelV x v->s.heap.IsSliceOf b vl h .none->afD vl c->afD h d->r x c d H Q ->
  ∃T id,typeLookup (.type T) "__getitem__" = pure (some (.builtin id))/\s.TypeIs v T/\wpAny (model X.prog X.w) X.A (aei v (.ref b)) (EP X p a Q) X.xe s
def tSl(r:V->Option Int->Option Int->Hp->VK->Prop)(f:TE)(tl g:TO):TE:=λa H Q=>f a H λx h=>tl a h λl i=>g a i λu b=>r x l u b Q
def GQ{r:V->Option Int->Option Int->Hp->VK->Prop}(J:SlR X r)(t:PE X e f)(N:PO X c tl)(B:PO X d g):PE X (.Subscript e (.Slice c d none j) pos) (tSl r f tl g):=by
 intro p s i H Q I h;refine agu (thn (t p s i H _ I h) λv s1 ⟨x,L,G,r1,y⟩=>?_);refine wpAny_Slice (thn (N p s1 i L _ G y) λvl s2 ⟨l,z,M,w,C⟩=>thn (B p s2 i z _ M C) λk a ⟨u,m,K,E,O⟩=>?_);refine Ld ?_;have D:Inv X p i m {a with heap:=a.heap.push {cls:=.type "slice",data:=.fields #[vl,k,.none]} }:=K.kept (t':=a.toks) λb P q=>LD _ q;let⟨T,id,F,A,o⟩:=J p {a with heap:=a.heap.push {cls:=.type "slice",data:=.fields #[vl,k,.none]} } i m x v vl k l u a.heap.objs.size Q D r1 (aaT.IsSliceOf.new ..) w E O;exact tail_any A F o rfl
def cutV(xs:List V)(c d:Option Int):List V:=(xs.drop (HT.sIx xs.length 0 c)).take (HT.sIx xs.length xs.length d-HT.sIx xs.length 0 c)
def ng(xs:List V)(c d:Option Int):(cutV xs c d).length≤xs.length:=by
 unfold cutV;rw[aaC,aef];omega
def rSlT(K:aag):V->Option Int->Option Int->Hp->VK->Prop:=λx c d H Q=>∃a b,x = .ref a/\SqT K H a b/\
 ¬(HT.sIx b.length 0 c=0/\HT.sIx b.length b.length d=b.length)/\∀p,H p=none->Q (.ref p) (upd H p (.tup (cutV b c d)))
theorem Ug:SlR X (rSlT X.K):=by
 intro p s A H x v vl D c d B Q I z u t y h;let⟨a,l,rfl,o,w,q⟩:=h;cases z;let⟨its,r,k,m⟩:=I.tuple o;have i:its.toArray.size=l.length:=by rw[aaI];exact r.length.symm
 refine⟨"tuple",_,abk.lookup,k.typeIs,?_⟩;refine HT.getItem_tuple_cut k u t y (by rw[i];exact w) ?_ (by rw[i];exact m);rw[i];refine⟨.ref s.heap.objs.size,_,I.laid (t':=s.toks) (λb C q=>LD _ q) (aab _) ?_,rfl,q _ (I.hok.fresh (aab _))⟩;exact⟨aaw (ng l c d) m,_,(r.drop _).take _,PlainT.new _ _⟩
def VD(K:aag):R2:=λx y H Q=>∃a b i h,x = .ref a/\y = .ref b/\SqT K H a i/\SqT K H b h/\i≠[]/\i.length+h.length≤aal/\
 (h=[]->Q (.ref a) H)/\(h≠[]->∀p,H p=none->Q (.ref p) (upd H p (.tup (i++h))))
theorem Vals.nil_iff{xs:List V}{us:List Ad}(r:Vals xs us):us=[]↔xs=[]:=by
 cases r with
 |nil=>simp
 |cons _ _=>simp
theorem JQ:OpR X (acd .Add) (VD X.K):=by
 intro p s E H x y v u Q I C D h;let⟨a,b,J,G,rfl,rfl,o,m,l,k,t,A⟩:=h;cases C;cases D;let⟨its,r1,B,_⟩:=I.tuple o;let⟨i,r,j,_⟩:=I.tuple m;refine HT.cat_tup B j (λz=>l (r1.nil_iff.mp z)) (λz=>⟨.ref a,H,I,rfl,t (r.nil_iff.mp z)⟩) (λz=>?_) (by rw[<-r1.length,<-r.length];exact k);refine⟨.ref s.heap.objs.size,_,I.laid (t':=s.toks) (λb F q=>LD _ q) (aab _) ?_,rfl,A (λw=>z (r.nil_iff.mpr w)) _ (I.hok.fresh (aab _))⟩;exact⟨by rw[aan];exact k,_,r1.append r,PlainT.new _ _⟩
end
def ixN(n:Nat)(i:Int):Option Nat:=if 0≤i then(if i<n then some i.toNat else none)else if -(n:Int)≤i then some (i+n).toNat else none
def atI{α:Type}(xs:List α)(i:Int):Option α:=(ixN xs.length i).bind λj=>xs[j]?
theorem JB{i:Int}{j:Nat}(h:ixN n i=some j):seqIndex? i n=some j/\j<n/\-(n:Int)≤i/\i<n:=by
 unfold ixN at h
 by_cases b:0≤i
 .rw[if_pos b]at h
  by_cases a:i<n
  .rw[if_pos a]at h;have e:=aas h;exact⟨by rw[seqIndex_of b a,e],by omega,by omega,a⟩
  .simp_all
 .rw[if_neg b]at h
  by_cases a : -(n:Int)≤i
  .rw[if_pos a]at h;have e:=aas h;exact⟨by rw[seqIndex_neg (by omega) a,e],by omega,a,by omega⟩
  .simp_all
theorem uH{xs:List α}{i:Int}{v:α}(h:atI xs i=some v):∃j,seqIndex? i xs.length=some j/\xs[j]?=some v/\j<xs.length/\-(xs.length:Int)≤i/\i<xs.length:=by
 unfold atI at h
 cases e:ixN xs.length i with
 |none=>rw[e]at h;cases h
 |some j=>
  rw[e]at h;let⟨a,d,c,b⟩:=JB e;exact⟨j,a,h,d,c,b⟩
theorem bg{xs:List α}{j:Nat}{v:α}(h:xs[j]?=some v):atI xs (j:Int)=some v:=by
 have a:=(AD.mp h).1;have e:ixN xs.length j=some j:=by
  unfold ixN
  simp_all
 unfold atI;rw[e];exact h
def l8(b:Expr):Prop:=∀o i,af4 b false o i=operate [o,i] (aei o i)
def IxR(X:Cx)(r:R2):Prop:=
 ∀(b a:Expr) (p:List (Addr×Obj)) (s:Io) (c:St) (H:Hp) (x y:V) (v u:Ad) (Q:VK),Inv X p c H s->RelV x v->RelV y u->r x y H Q ->
  af4 a false v u=operate [v,u] (aei v u)->wpAny (model X.prog X.w) X.A (agp b a v u) (EP X p c Q) X.xe s
def MtR(X:Cx)(id:String)(r:V->List V->Hp->VK->Prop):Prop:=
 ∀(p:List (Addr×Obj)) (s:Io) (a:St) (H:Hp) (x:V) (b:List V) (v:Ad) (u:List Ad) (Q:VK),Inv X p a H s->RelV x v->Vals b u->r x b H Q ->
  wpAny (model X.prog X.w) X.A (call (.builtin id) (v::u)) (EP X p a Q) X.xe s
section
variable {X:Cx}{a b:Expr}{g tb:TE}{pos:Pos}
def OH{r:R2}(e:IxR X r)(f:PE X a g)(d:PE X b tb)(l:l8 b):PE X (.Subscript a b pos) (tOp r g tb):=by
 intro p s c H Q I h;exact agu (binT f d I h λv u s2 x y m k i j q=>e a b p s2 c m x y v u Q k i j q (l _ _))
def rIxL(K:aag):R2:=λx y H Q=>∃p c i v,x = .ref p/\y = .int i/\SqL K H p c/\atI c i=some v/\Q v H
def rIxT(K:aag):R2:=λx y H Q=>∃p c i v,x = .ref p/\y = .int i/\SqT K H p c/\atI c i=some v/\Q v H
def rIxS:R2:=λx y H Q=>∃z i c,x = .str z/\y = .int i/\z.length≤aal/\atI z.cps.toList i=some c/\Q (.str ⟨#[c]⟩) H
theorem Bm:IxR X (rIxL X.K):=by
 intro l k c s C H x y v u Q I J L h A;let⟨p,R,i,z,rfl,rfl,E,D,q⟩:=h;cases J;let⟨t,rfl⟩:=L;let⟨its,r,e,O⟩:=I.list E;let⟨j,d,F,N,K,M⟩:=uH D;let⟨w,o,m⟩:=r.get F;have G:=r.length;have P:=ur;have f:EP X c C Q w s:=⟨z,H,I,m,q⟩
 by_cases B:0≤i
 .have hj:i.toNat=j:=by
   rw[seqIndex_of B M]at d;exact aas d
  exact item_listR e.isList B (by omega) (by rw[hj];simpa using o) f A
 .have hj:(i+(its.toArray.size:Int)).toNat=j:=by
   rw[seqIndex_neg (by omega) K]at d;rw[aaI,<-G];exact aas d
  exact afE (x:=w) e.isList.typeIs ae4.lookup
   (wpAny_getItem_list_neg e.isList (by omega) (by simp_all) (by omega) (by rw[hj];simpa using o) ⟨rfl,f⟩) A
theorem T7:IxR X (rIxT X.K):=by
 intro e d c s m H x y v u Q I F G h B;let⟨p,O,i,z,rfl,rfl,A,o,q⟩:=h;cases F;let⟨t,rfl⟩:=G;let⟨its,r,l,L⟩:=I.tuple A;let⟨j,E,C,K,M,P⟩:=uH o;let⟨w,J,k⟩:=r.get C;have D:=r.length;have N:=ur;have f:EP X c m Q w s:=⟨z,H,I,k,q⟩;exact afE l.typeIs slot_tuple_getitem.lookup
  (getItem_tuple l (by omega) (by omega) (by rw[aaI,<-D];exact E) (by simpa) ⟨rfl,f⟩) B
def Uo:IxR X rIxS:=by
 intro e d p s E H x y v u Q I A C h l;let⟨z,i,c,rfl,rfl,J,k,q⟩:=h;let⟨t,rfl⟩:=A;let⟨G,rfl⟩:=C;let⟨j,f,m,F,B,D⟩:=uH k;have o:z.cps.toList.length=z.length:=by simp[Str.length]
 rw[o]at f B D;have K:=ur;exact tail_any (typeIs_str s z t) slot_str_getitem.lookup (getItem_str (by
  have r:decide (i < -(2^63:Int))=false:=decide_eq_false (by omega);have w:decide (i≥2^63)=false:=decide_eq_false (by omega);rw[r,w,Bool.or_false]) (by rw[f];simpa using m) ⟨.str ⟨#[c]⟩,H,I.tok _,⟨_,rfl⟩,q⟩) l
theorem sY(l c:Option Int)(n:Nat):(adW l c none n).1=((HT.sIx n 0 l:Nat):Int)/\(adW l c none n).2.1=((HT.sIx n n c:Nat):Int)/\(adW l c none n).2.2=1:=by
 refine⟨?_,?_,rfl⟩
 .cases l with
  |none=>simp[adW,HT.sIx]
  |some i=>
   simp only[adW,HT.sIx,agU,show(1:Int)>0 by decide,if_true]
   by_cases h:i<0
   .simp only[h,if_true]<;>omega
   .simp only[h,if_false]<;>omega
 .cases c with
  |none=>simp[adW,HT.sIx]
  |some i=>
   simp[adW,HT.sIx,agU,show(1:Int)>0 by decide,if_true]
   by_cases h:i<0
   .simp only[h,if_true]<;>omega
   .simp only[h,if_false]<;>omega
def qC(its:List Ad)(l h:Option Int):agW its.toArray l h none=((its.drop (HT.sIx its.length 0 l)).take (HT.sIx its.length its.length h-HT.sIx its.length 0 l)).toArray:=by
 let⟨c,e,d⟩:=sY l h its.toArray.size;unfold agW;rw[c,e,d];simp only[sliceRange_one,pick_run]<;>rfl
def rSlL(K:aag):V->Option Int->Option Int->Hp->VK->Prop:=λx l h H Q=>∃a c,x = .ref a/\SqL K H a c/\∀p,H p=none->Q (.ref p) (upd H p (.lst (cutV c l h)))
theorem Ma:SlR X (rSlL X.K):=by
 intro p s u H x v vl z l f w Q I t j i k h;let⟨a,m,rfl,e,q⟩:=h;cases t;let⟨its,r,d,o⟩:=I.list e;have c:=r.length;refine⟨"list",_,ae4.lookup,d.isList.typeIs,?_⟩;refine afb d.isList j i k .none (by simp) ?_ (by grind);rw[qC,<-c];refine⟨.ref s.heap.objs.size,_,I.laid (t':=s.toks) (λb y q=>LD _ q) (aab _) ?_,rfl,q _ (I.hok.fresh (aab _))⟩;exact⟨aaw (ng m l f) o,_,0,(r.drop _).take _,aap _ rfl⟩
theorem kG:dt X (.builtin "len") (λxs H Q=>∃p ys,xs=[.ref p]/\(SqL X.K H p ys\/SqT X.K H p ys)/\Q (.int ys.length) H):=by
 intro e s i H xs k Q I r h;let⟨p,ys,rfl,d,q⟩:=h;let⟨u,rfl,f⟩:=Cq r;cases f;have j:=ur;rcases d with d|d
 .obtain⟨its,r',pl,hz⟩:=I.list d;have c:=r'.length;exact Calls.call_len_list pl.isList (by simp only[aaI]<;>omega) ⟨.int ys.length,H,I.tok _,⟨s.toks+1,by rw[aaI,c]⟩,q⟩
 .obtain⟨its,r',pl,hz⟩:=I.tuple d;have c:=r'.length;exact len_tuple pl (by simp only[aaI]<;>omega) ⟨.int ys.length,H,I.tok _,⟨s.toks+1,by rw[aaI,c]⟩,q⟩
def ua:dt X (.builtin "len") (λxs H Q=>∃z,xs=[.str z]/\z.length≤aal/\Q (.int z.length) H):=by
 intro p s c H xs f Q I r h;let⟨z,rfl,e,q⟩:=h;let⟨u,rfl,t,rfl⟩:=Cq r;have d:=ur;exact len_str (by omega) ⟨.int z.length,H,I.tok _,⟨_,rfl⟩,q⟩
theorem qj:dt X (.type "tuple") (λxs H Q=>∃p ys,xs=[.ref p]/\((SqL X.K H p ys/\∀l,H l=none->Q (.ref l) (upd H l (.tup ys)))\/(SqT X.K H p ys/\Q (.ref p) H))):=by
 intro i s t H xs v Q I r h;let⟨p,ys,rfl,h⟩:=h;let⟨u,rfl,k⟩:=Cq r;cases k;rcases h with⟨c,q⟩|⟨c,q⟩
 .obtain⟨its,r',pl,hz⟩:=I.list c;have f:=r'.length;refine call_tuple_list pl.isList (λm kp=>?_) (by simp_all);have d:=I.kept (t':=s.toks) kp;have j:=
   d.laid (t':=s.toks) (λb o e=>LD _ e) (aab _) (show ObjOk X.prog X.w _ _ _ (.tup ys)from⟨hz,its,r',PlainT.new _ _⟩)
  exact⟨.ref m.objs.size,_,j,rfl,q _ (d.hok.fresh (aab _))⟩
 .obtain⟨its,r',pl,hz⟩:=I.tuple c;exact call_tuple_same pl ⟨.ref p,H,I,rfl,q⟩
def tyV(K:aag)(T:String)(x:V)(H:Hp):Prop:=match x with
 | .str _=>T = "str"
 | .int _=>T = "int"
 | .ref p=>(T = "list"/\∃c,SqL K H p c)\/(T = "tuple"/\∃c,SqT K H p c) \/
   (T = "dict"/\((∃k,H p=some (.dK k))\/∃k,H p=some (.dT k)))\/(T = "set"/\∃S n,H p=some (.set S n))
 |_=>False
theorem O6{d:List (Addr×Obj)}{m:St}{H:Hp}{s:Io}{T:String}{x:V}{v:Ad}(I:Inv X d m H s)(r:RelV x v)(ty:tyV X.K T x H) :
  s.TypeIs v T/\∀a,v = .ref a->∃l,s.heap.get? a=some l/\l.dict=none:=by
 cases x with
 |str z=>
  let⟨t,rfl⟩:=r
  cases (show T = "str" from ty)
  exact⟨typeIs_str s z t,λ_ e=>nomatch e⟩
 |int i=>
  let⟨t,rfl⟩:=r
  cases (show T = "int" from ty)
  exact⟨afF s i t,λ_ e=>nomatch e⟩
 | ref p=>
  cases r;rcases ty with⟨rfl,q,f⟩|⟨rfl,q,f⟩|⟨rfl,h⟩|⟨rfl,S,n,h⟩
  .obtain⟨its,_,pl,_⟩:=I.list f;refine⟨pl.isList.typeIs,λa e=>?_⟩;cases e;let⟨o,n,e,c,hd,_⟩:=pl;exact⟨o,e,hd⟩
  .obtain⟨its,_,⟨o,e0,hc,hd,_⟩,_⟩:=I.tupleP f;refine⟨⟨o,e0,hc⟩,λa e=>?_⟩;cases e;exact⟨o,e0,hd⟩
  .have z:∃o,s.heap.get? p=some o/\o.ExactDict:=by
    rcases h with⟨k,h⟩|⟨k,h⟩
    .obtain⟨_,_,_,_,o,_,_,e,ex,_⟩:=I.hok p _ h;exact⟨o,e,ex⟩
    .obtain⟨_,_,_,_,o,_,_,e,ex,_⟩:=I.hok p _ h;exact⟨o,e,ex⟩
   let⟨o,e,ex⟩:=z;refine⟨⟨o,e,ex.1⟩,λa j=>?_⟩;cases j;exact⟨o,e,ex.2.1⟩
  .obtain⟨o,_,_,_,e,ex,_⟩:=I.hok p _ h;refine⟨⟨o,e,ex.1⟩,λa j=>?_⟩;cases j;exact⟨o,e,ex.2.1⟩
 |_=>exact acj ty
def tBM(K:aag)(T:String)(r:V->List V->Hp->VK->Prop)(to:TE)(t:TA):TE:=λc H Q=>to c H λx d=>tyV K T x d/\t c d λf e=>r x f e Q
variable {o e:Expr}{es:List Expr}{to:TE}{t:TA}{name:Str}{f d:Pos}{T id:String}{r:V->List V->Hp->VK->Prop}
theorem Uj(M:PlainAttrs T)(slot:Slot T name id)(m:typeOf (.builtin id)=pure (.type "method_descriptor"))(G:MtR X id r)(K:PE X o to)(y:PA X (e::es) t)
  (i:abo o name X.env (eval o X.env)=eval o X.env:=by rfl)
  (j:((abj d (aac (e::es) X.env)).all (λx=>!x.1)&&(acR d (abR [] X.env)).all (λx=>x.1.isSome)
   && decide ((e::es).length+([]:List acW).length+(if ([]:List acW).isEmpty then 0 else 1)<30))=true:=by rfl)
  (c:(f.endLine==d.line)=true:=by rfl) (C:aac (e::es) X.env=(false,eval e X.env)::aac es X.env:=by rfl) (k:(abj d (aac es X.env)).any (·.1)=false:=by rfl) :
  PE X (.Call (.Attribute o name f) (e::es) [] d) (tBM X.K T r to t):=by
 intro p s l H Q I h;refine afG i j c rfl (thn (K p s l H _ I h) λv s1 ⟨x,z,q,r1,ty,A⟩=>?_);let⟨F,E⟩:=O6 q r1 ty;refine⟨T,id,M,slot,m,F,E,?_⟩;have u:=y d p s1 l z _ q A;rw[C]at u⊢;refine ad2 ‹_› (af5 ?_);exact thn u<|by intro L s2 ⟨vs,D,B,w,J⟩;exact G p s2 l D x vs v L Q B r1 w J
end
def MtM(X:Cx)(id:String)(r:V->List V->Hp->VK->Prop):Prop:=
 ∀(p:List (Addr×Obj)) (s:Io) (a:St) (H:Hp) (x:V) (b:List V) (v:Ad) (u:List Ad) (Q:VK),Inv X p a H s->RelV x v->Vals b u->r x b H Q ->
  wpAny (model X.prog X.w) X.A (call (.builtin id) (v::u)) (EP X p a Q) X.xe s
theorem Vals.one:∀{x:V}{us:List Ad},Vals [x] us->∃u,us=[u]/\RelV x u
 |_,_,.cons r .nil=>⟨_,rfl,r⟩
theorem Vals.two:∀{x y:V}{us:List Ad},Vals [x,y] us->∃u v,us=[u,v]/\RelV x u/\RelV y v
 |_,_,_,.cons r (.cons q .nil)=>⟨_,_,rfl,r,q⟩
theorem Vals.rep{xs:List V}{us:List Ad}(h:Vals xs us):∀k:Nat,Vals (aar k xs).flatten (aar k us).flatten
 |0=>.nil
 |k+1=>by
  exact Vals.append h (Vals.rep h k)
theorem l5(its:List Ad):∀(k:Nat) (acc:List Ad),
  ahg (λx a=>x++a) acc.toArray (aar k its.toArray)=(acc++(aar k its).flatten).toArray
 |0,acc=>by simp
 | k+1,acc=>by
  have e:acc.toArray++its.toArray=(acc++its).toArray:=by simp
  have b:(acc++its)++(aar k its).flatten=acc++(aar (k+1) its).flatten:=by
   rw[acl,agG,aa6]
  rw[<-b,<-l5 its k _,<-e,acl,aes]
section
variable {X:Cx}{p:List (Addr×Obj)}{a:St}{H:Hp}{s:Io}{l b:Addr}{xs ys c:List V}
def Inv.lset{its':List Ad}{f:Array Ad->Array Ad}{t':Nat}(I:Inv X p a H s)(j:H l=some (.lst xs))
  (e:s.heap.get? l=some {cls:=.type "list",data:=.seq its.toArray n}) (h:f its.toArray=its'.toArray) (g:Vals ys its') (k:ys.length≤aal) :
  Inv X p a (upd H l (.lst ys)) {s with heap:=s.heap.update l (act f),toks:=t' }:=by
 have q:=PySem.IsL.update e f;rw[h]at q;refine I.write (by rw[j];exact trivial) (.inl rfl) (λm u i d=>(acX s.heap _ (abO i)).trans d) ⟨_,q⟩ ?_;exact⟨k,its',_,g,q⟩
def Inv.lnew{t':Nat}(I:Inv X p a H s)(h:Vals ys its)(d:ys.length≤aal) :
  Inv X p a (upd H s.heap.objs.size (.lst ys)) {s with heap:=s.heap.push {cls:=.type "list",data:=.seq its.toArray},toks:=t' }:=
 I.laid (λ_ _ q=>LD _ q) (aab _) ⟨d,its,0,h,aap _ rfl⟩
def Inv.fresh(I:Inv X p a H s):H s.heap.objs.size=none:=I.hok.fresh (aab _)
def Inv.lstM(I:Inv X p a H s)(h:H l=some (.lst xs)):xs.length≤aal/\∃(its:List Ad) (n:Nat),Vals xs its/\xs.length=its.length/\s.heap.get? l=some {cls:=.type "list",data:=.seq its.toArray n}:=by
 let⟨z,its,n,r,e⟩:=I.hok l _ h;exact⟨z,its,n,r,r.length,e⟩
def xt(h:n≤aal):adD n=false:=by
 exact decide_eq_false (by omega)
end
section
variable {X:Cx}
def Oh:V->List V->Hp->VK->Prop:=λx vs H Q=>∃l a y,x = .ref l/\vs=[y]/\H l=some (.lst a)/\a.length<aal/\Q .non (upd H l (.lst (a++[y])))
theorem lH:MtM X "list.append" Oh:=by
 intro p s f H x vs v j Q I d c h;let⟨l,k,y,rfl,rfl,a,i,q⟩:=h;cases d;let⟨u,rfl,b⟩:=c.one;let⟨z,its,n,r,g,e⟩:=I.lstM a;refine adQ F.slot_list_append ⟨_,e,rfl⟩ F.entry_list_append (F.args_list_append_2 _ _) (PySem.list_append l its.toArray n u (by grind)) ⟨e,?_⟩;refine⟨.non,_,I.lset (its':=its++[u]) a e (by simp) (r.append (.cons b .nil)) ?_,rfl,q⟩
 grind
def Mq:V->List V->Hp->VK->Prop:=λx vs H Q=>∃l b a z,x = .ref l/\vs=[.ref b]/\H l=some (.lst a)/\H b=some (.lst z)/\a.length+z.length≤aal/\Q .non (upd H l (.lst (a++z)))
theorem AA:MtM X "list.extend" Mq:=by
 intro p s w H x vs v B Q I t o h;let⟨l,b,E,y,rfl,rfl,d,g,C,q⟩:=h;cases t;let⟨u,rfl,j⟩:=o.one;cases j;let⟨z,its,n,r,A,e⟩:=I.lstM d;let⟨D,i,n2,f,m,k⟩:=I.lstM g;have c:its.toArray.size+i.toArray.size≤aal:=by rw[aaI,aaI];omega
 have a:¬(!its.toArray.isEmpty&&adD (its.toArray.size+i.toArray.size))=true:=by
  rw[xt c,Bool.and_false];exact aaj
 refine adQ F.slot_list_extend ⟨_,e,rfl⟩ F.entry_list_extend (F.args_list_extend_2 _ _)
  (AutoSeq1.list_extend_list_list_0 l its.toArray n b i.toArray n2 a (by grind) (by omega)) ⟨e,k,?_⟩
 refine⟨.non,_,I.lset (its':=its++i) d e (by simp) (r.append f) ?_,rfl,q⟩;rw[aan];omega
def rRep:R2:=λx y H Q=>∃l k a,x = .ref l/\y = .int k/\H l=some (.lst a)/\-(2^63)≤k/\k<2^63/\a.length*k.toNat≤aal/\
 ∀p,H p=none->Q (.ref p) (upd H p (.lst (aar k.toNat a).flatten))
def zY(xs:List α)(k:Nat):(aar k xs).flatten.length=k*xs.length:=by simp
theorem RH:OpR X (acd .Mult) rRep:=by
 intro p s K H x y v u Q I G J h;let⟨l,k,M,rfl,rfl,A,E,C,i,q⟩:=h;cases G;let⟨t,rfl⟩:=J;let⟨z,its,n,r,D,e⟩:=I.lstM A;have d:its.toArray.size*k.toNat≤aal:=by rw[aaI,<-D];exact i
 have f:¬its.toArray.size*k.toNat>(2^63-1)/8:=by
  have:(aal:Nat)≤(2^63-1)/8:=by decide
  omega
 have g:¬(!acB.List.listFitsIndex k)=true:=by
  rw[fitsIndex_both E C];exact aaj
 have b:¬adD (its.toArray.size*k.toNat)=true:=by
  rw[xt d];exact aaj
 have c:ahg (λo B=>o++B) #[] (aar (if its.toArray.isEmpty=true then 0 else k.toNat) its.toArray)=(aar k.toNat its).flatten.toArray:=by
  have w:=λm=>by
   have:=l5 its m [];rw[abd]at this;exact this
  rw[w]
  cases its with
  |nil=>simp
  |cons a L=>rw[if_neg (by simp)]
 refine aeX (T:= "list") (U:= "int") (by decide) ⟨_,e,rfl⟩ (λj=>afF j k t) noFill_list_mul F.fills_int_mul F.slot_int_rmul repeat_list F.slot_int_index.lookup
  (adQ F.slot_int_rmul (afF s k t) F.entry_int_rmul (F.args_int_rmul_2 _ _) (int___rmul___int_list k t l its.toArray n)
   ⟨e,rfl,⟨_,e,rfl⟩,adQ F.slot_list_mul ⟨_,e,rfl⟩ F.entry_list_mul (F.args_list_mul_2 _ _) (AutoListH.list___mul___list_int_3 l its.toArray n k t g f b) ⟨e,?_⟩⟩)
 rw[c];exact⟨.ref _,_,I.lnew (t':=s.toks) (r.rep k.toNat) (by rw[zY,acY];exact i),rfl,q _ I.fresh⟩
end
end L2
namespace Att
open PySem PySem.W PySem.Calls PyProof.Rows
theorem mH{P:Params}{h:aaT}:∀(ns:List Int) (vs:List Ad),WellAll P h vs (ns.map WData.int)->aeD vs ns:=by
 intro ns
 induction ns with
 |nil=>
  intro vs w;cases w;exact .nil
 | cons n ns i=>
  intro vs w
  cases w with
  |cons a b=>
   cases a;exact .cons _ _ (i _ b)
theorem y4{l:OpenLaw}{n:Nat}(s:l.most=some n){P:Params}{h:aaT}{args:List WData}{v:List Ad}
  (b:l.row.toRowW.claim.pre args=true) (i:WellAll P h v args) :
  ∃a vs ns,v=[abg a]/\args=[WData.list (ns.map WData.int)]/\h.get? a=some {cls:=.type "list",data:=.seq vs.toArray}/\aeD vs ns/\ns.length≤n:=by
 have f:WShape.hasAll [] args [.list .int]=true:=(pre_splitW b).1;have p:l.pre.holds [] {args:=args}=true:=(pre_splitW b).2;let⟨d,r,rfl,m,k⟩:=hasAllW_cons f;obtain rfl:=hasAllW_nil k;let⟨x,rfl,j⟩:=hasW_list m;let⟨ns,rfl⟩:=items_int j;have c:ns.length≤n:=by
  have g:=by
   have g:=(holds_andW p).1;rw[s]at g;omega
  have t:=condW_of g (w_not (w_lt w_lit (w_len_list (w_arg rfl))))
  simp_all
 cases i with
 |cons q w=>
  cases w
  cases q with
  |list o e=>exact⟨_,_,ns,rfl,rfl,o,mH ns _ e,c⟩
def CA(l:OpenLaw)(args:List WData):l.row.toRowW.claim.post args (.bool true) args=true:=
 postW_of
  rfl
  (w_eq_bool (w_res rfl) w_lit) rfl
def attach_call{l:OpenLaw}{n:Nat}{q:aaK}{b:List Str}{X:(Str->Option Ad)->aaT->Prop}{A:World->aaT->Prop}{d:DefRec}
  (H:l.most=some n) (v:d.params.defaults=[])
  (call:∀(w:World) (s₀ s:Io) (mg u:Str->Option Ad) (j:Addr) (o:Obj) (pm k c:Ad) (a:Addr) (vs:List Ad) (ns:List Int),
   Ground q b [] X w s₀ mg u s.heap->A w s.heap ->
   s.heap.get? j=some o->o.data = .func (docDef d.name d.params d.body d.scope pm k c)->s.heap.CodeRec k d.name->mg d.name=some (.ref j) ->
   s.heap.get? a=some {cls:=.type "list",data:=.seq vs.toArray}->aeD vs ns->ns.length≤n->s.gens = #[] ->
   adL (model l.prog w) agd (.call (.ref j) ⟨[.ref a],[]⟩) (λr s'=>r = .ok (.ret (.bool true))/\OldK s.heap s'.heap/\s'.os=s.os/\ae1 s'.gens) s) :
  WalkO q b X A l.row.toRowW d [] (λf vs=>ahh f vs):=by
 intro w s₀ s mg u G Y j o pm k c I kV F hd t y p C z B O e x K m L;obtain rfl:I = .none:=Dflts.none y v;obtain rfl:kV = .none:=Dflts.noKw y;let⟨a,vs,ns,rfl,rfl,g,h,i⟩:=y4 H e m;refine enter_call (adZ (call w s₀ s mg u j o pm k c a vs ns G Y F (fd_plain hd) t p g h i C) λr s' D=>?_);let⟨rfl,E,J,N⟩:=D;exact⟨.inl ⟨.bool true,.bool true,[],rfl,λ_=>rfl,.bool true,CA l _,λ_=>⟨agH,λ_ M=>(nomatch M)⟩⟩,E,J,N⟩
end Att
namespace L2
open PySem PySem.Spec PyProof.Rows
variable{P:MSt->Prop}{w:WS}{K:Kd}{mg:Str->Option Ad}{a l:Addr}{fd:abX}{qual x y:Str}{ns:List Int}{i j n nN q:Nat}{X:Cx}{st:Stmt}{f:String->Bool}{N ps:List Str}{od:Option Addr}{A B:Prop}{env:Env}{scope:Scope}{c e elt t tg:Expr}{p pos:Pos}{ifs:List Expr}{tb:TS}{J:It}{fp:List Addr}{tn:Nat->aaT->Prop}{pins:List (Addr×Obj)}{σ σ':St}{H H' H0 H1 H2 Hb:Hp}{D:Ends}{E:Ad->Io->Prop}{Q:VK}{vs xs:List V}{b ds ds':List aD}{v:V}{ao:Ao}{α α' α1 β:Al}{τ:List (List Nat×Addr)}{r:R}{o:WO}{op:CmpOp}{T:String}{sp:SpM}{ks:List Nat}{De:fi}{g:WG}{gs:WGs}{m1:MSt}{ob:R->Option Int->Option Int->MSt->(R->Prop)->Prop}{hi lo:Option Expr}{as:List Ag}{Ks:Src->MSt->Prop}
theorem oj:∀{vs:List Ad}{ns:List Int},aeD vs ns->Vals (ns.map V.int) vs
 |_,_,.nil=>.nil
 |_,_,.cons n t h=>.cons ⟨t,rfl⟩ (oj h)
def Only(H:Hp):Prop:=∀b,H b=none\/∃o xs,H b=some (.frz o (.lst xs))
theorem Db{P:aaK}{w:World}{K:aag}{mb:Str->Option Ad}{CX:CXT}{k:Nat}{fa:Addr}{sp:Sp}{C:Io}{vs:List Ad}
  (KX:K.In C.heap) (W:C.heap.Ns aaA mg) (I:C.heap.Ns builtinsNs mb) (hbb:∀x:Str,x ≠ "__name__" -> mb x=aaU x) (R:C.heap.NoLimit) (hsy:∃m,C.heap.Ns abr m) (hg:C.gens = #[])
  (ha:C.heap.get? a=some {cls:=.type "list",data:=.seq vs.toArray}) (hi:aeD vs ns) (hl:ns.length≤aal) (hr:Room k agd)
  (F:∀base:aaT,K.In base->base.Ns aaA mg->FnOk P w K mg base CX k fa fd [x] sp) (O:∀(s:Io) (u:Ad),agF s fd ⟨[u],[]⟩ [(x,u)])
  (hsp:∀H:Hp,Only H->SqL K H a (ns.map V.int)->sp [.ref a] H (λv _=>v = .bl true) λ_ _ _=>False)
  (hCX:∀H e s',CX [] H C (λ_ _ _=>False) e s'->False) :
  adL (model P w) agd (.call (.ref fa) ⟨[.ref a],[]⟩) (λr s'=>r = .ok (.ret (.bool true))/\OldK C.heap s'.heap/\s'.os=C.os/\ae1 s'.gens) C:=by
 have rv:=oj hi;have Y:=hi.length;have M:∀H:Hp,Only H->SqL K H a (ns.map V.int)->HOk P w H C.heap->(∀b,H b≠none->b=a)->(H a≠none->K.lookup a=none) ->
   adL (model P w) agd (.call (.ref fa) ⟨[.ref a],[]⟩) (λr s'=>r = .ok (.ret (.bool true))/\OldK C.heap s'.heap/\s'.os=C.os/\ae1 s'.gens) C:=by
  intro H hO hS hok hA hK;have G:∀{b:Addr}{o:Obj},C.heap.get? b=some o->H b=none->(hidT C.heap H).get? b=some o:=λe n=>Dg e n;have noA:∀{b:Addr}{o:Obj}{es:Array ab0}{Z:Nat},C.heap.get? b=some o->o.data = .dict es Z->H b=none:=λ{b o es Z} e d=>by
   cases q:H b with
   |none=>rfl
   |some u=>
    have e':b=a:=hA b (by rw[q];simp);subst e';rw[ha]at e;cases e;have d':Data.seq vs.toArray _=Data.dict es Z:=d;cases d'
  have L:∀{b:Addr}{m:Str->Option Ad},C.heap.Ns b m->(hidT C.heap H).Ns b m:=λ{b m} ⟨o,es,Z,e,d,r⟩=>⟨o,es,Z,G e (noA e d),d,r⟩;have S:K.In (hidT C.heap H):=λb o e=>G (KX b o e) (by
   cases q:H b with
   |none=>rfl
   |some u=>
    have e':b=a:=hA b (by rw[q];simp);subst e';rw[hK (by rw[q];simp)]at e;cases e)
  have hM:Mod K mg (hidT C.heap H):=⟨S,L W,⟨mb,L I,hbb⟩,let ⟨mc,h1,h2⟩:=R;⟨mc,L h1,h2⟩,let ⟨m,h⟩:=hsy;⟨m,L h⟩⟩;have e0:Env0 P w K mg (hidT C.heap H) agd [] C H:=⟨rfl,hM,λb o e=>MD e,afA (BH _ _),trivial,λb I=>absurd (show b∈([]:List Addr)from I) (by simp),hok,.of_eq hg⟩;refine adZ ((F _ S (L W)).run agd [] C H ⟨[.ref a],[]⟩ [.ref a] [.ref a] _ _ hr e0 (O C (.ref a)) (.cons rfl .nil) (hsp H hO hS)) λr s' h=>?_
  cases r with
  |error e=>exact(hCX H e s' h).elim
  | ok fl=>
   cases fl with
   |next=>exact acj h
   |brk=>exact acj h
   |cont=>exact acj h
   | ret u=>
    let⟨v,H',os,bare,un,hok',r',q⟩:=h;have q':v = .bl true:=q;subst q';obtain rfl:u=ahe true:=r';refine⟨rfl,OldK.of_keep λb o e=>?_,os,bare⟩
    cases q:H b with
    |none=>exact un.keep b o e q (by intro z;exact absurd (show b∈([]:List Addr)from z) (by simp)) (by simp)
    |some u=>
     rcases hO b with z|⟨ob,xs,z⟩
     .rw[q]at z;cases z
     .have z2:=un.frzs b ob _ z;let⟨e1,_⟩:=hok b _ z;let⟨e2,_⟩:=hok' b _ z2;rw[e]at e1;cases e1;exact e2
 cases hk:K.lookup a with
 |some o=>
  have e:=KX a o hk;rw[ha]at e;cases e;refine M (λ_=>none) (λ_=>.inl rfl) (.inr ⟨_,vs.toArray,_,hk,rfl,rfl,rfl,by rw[aaI,Y];exact hl,by simpa using rv⟩) (λb u z=>by have U:(none:Option HO)=some u:=z;cases U) (λb z=>absurd rfl z) λz=>absurd rfl z
 | none=>
  refine M (λb=>if b=a then some (.frz {cls:=.type "list",data:=.seq vs.toArray} (.lst (ns.map V.int)))else none) (λb=>?_) (.inl (.inr ⟨{cls:=.type "list",data:=.seq vs.toArray},if_pos rfl⟩)) (λb u z=>?_) (λb z=>?_) λ_=>hk
  .by_cases I:b=a
   .exact .inr ⟨_,_,if_pos I⟩
   .exact .inl (if_neg I)
  .by_cases I:b=a
   .have U:=(if_pos I).symm.trans z;cases U;subst I;exact⟨ha,by rw[iO];exact hl,vs,_,rv,ha⟩
   .have U:=(if_neg I).symm.trans z;cases U
  .by_cases I:b=a
   .exact I
   .exact absurd (if_neg I) z
theorem N6{l:ag8}{k:Nat}{q:aaK}{I:List Str}{XP:(Str->Option Ad)->aaT->Prop}{YP:World->aaT->Prop}{d:DefRec}{K:Params->aag}{CX:World->CXT}{sp:World->Sp}
  (hq:importsNone q=true) (hn:l.most=some n) (S:n≤aal) (Z:d.params.defaults=[]) (hr:Room k agd)
  (hY:∀(w:World) (h:aaT),YP w h->(K w.params).In h)
  (F:∀(w:World) (mg:Str->Option Ad) (O:Addr) (h:aaT),(K w.params).In h->h.Ns aaA mg->mg d.name=some (.ref O) ->
   ∃fd:abX,(∀(s:Io) (u:Ad),agF s fd ⟨[u],[]⟩ [(x,u)])/\
    ∀base:aaT,(K w.params).In base->base.Ns aaA mg->FnOk l.prog w (K w.params) mg base (CX w) k O fd [x] (sp w))
  (R:∀(w:World) (H:Hp) (a:Addr) (ns:List Int),ns.length≤n->Only H->SqL (K w.params) H a (ns.map V.int)->sp w [.ref a] H (λv _=>v = .bl true) λ_ _ _=>False)
  (W:∀(w:World) (H:Hp) (s:Io) (e:Ad) (s':Io),CX w [] H s (λ_ _ _=>False) e s'->False) :
  ahj q I XP YP l.row.toRowW d [] (λf vs=>ahh f vs):=by
 refine Att.attach_call hn Z λw s₀ M mg mb O o pm cd doc a vs ns G Y ho hd hcd U L C z hg=>?_;have KX:=hY w _ Y;let⟨fd,hb,hF⟩:=F w mg O _ KX G.T.g U;exact Db KX G.T.g G.T.b G.T.builtins G.T.nolimit (by let⟨m,h,_⟩:=(G.T.seer hq).mods;exact⟨m,h⟩) hg L C (aaw z S) hr hF hb (λH hO hS=>R w H a ns z hO hS) λH e s'=>W w H M e s'
def cC(s:Stmt):Arguments:=match s with
 | .FunctionDef _ a _ _ _ _ _ _ _ _=>a
 |_=>{posonlyargs:=[],args:=[],vararg:=none,kwonlyargs:=[],kw_defaults:=[],kwarg:=none,defaults:=[]}
def bM(s:Stmt):List Stmt:=match s with
 | .FunctionDef _ _ b _ _ _ _ _ _ _=>b
 |_=>[]
def ab(s:Stmt):Scope:=match s with
 | .FunctionDef _ _ _ _ _ _ d _ _ _=>d
 |_=>{kind:=.function,names:=[],isGenerator:=false,isCoroutine:=false}
abbrev CX0:CXT:=λ_ _ _ _ _ _=>False
abbrev E0:XK:=λ_ _ _=>False
def DW:kq CX0 X E0:=λ_ _ _ _ _ _ _ h=>h.elim
structure Fun(K:aag)(x qual:Str)(st:Stmt)(f:Addr)(fd:abX):Prop where
 ex:∃(oc:Ad) (od:Option Addr) (kV doc pm:Ad) (an:Option Addr) (cdv ct:Ad) (osl:Array (Option Ad)),
  fd=abi x qual (cC st) (bM st) (ab st) .none kV doc pm an cdv ct/\K.lookup f=some ⟨oc,od,.func fd,osl⟩/\adh K cdv qual=true
 kp:abL K (.ref f)=true
section
variable {P:aaK}{w:World}{K:aag}{mg:Str->Option Ad}{base:aaT}
theorem Fun.ok{f:Addr}{k:Nat}{sp:Sp}(F:Fun K x qual st f fd)(S:ay N ps (ab st))(len:∀vs H Q E,sp vs H Q E->vs.length=ps.length)
  (m:∀(d:Ad) (A:abf) (outer:List Env) (s:Io) (H:Hp) (vs:List V) (Q:VK) (E:XK),Room k (A.deeper (ad0 qual (ab st) s.heap.objs.size f d))->sp vs H Q E ->
   ∃t,PSs (cxOf CX0 P w K mg base N qual (ab st) f d A outer s H E).nox (bM st) t/\t {nx:=λ_ H'=>Q .non H',rt:=Q} (start N vs) H):FnOk P w K mg base CX0 (k+1) f fd ps sp:=by
 let⟨M,od,kV,L,pm,an,d,ct,G,rfl,C,z⟩:=F.ex;refine UE C z S len λA outer s H vs Q E I u=>?_;let⟨t,h,q⟩:=m d A outer s H vs Q E I u;exact⟨t,h.nox,q⟩
theorem Fun.binds{f:Addr}(F:Fun K x qual st f fd)
  (h:∀(kV k pm:Ad) (an:Option Addr) (d ct:Ad) (us:List Ad),us.length=ps.length->adB (abi x qual (cC st) (bM st) (ab st) .none kV k pm an d ct) ⟨us,[]⟩=pure (ps.zip us)):Binds K fd ps []:=by
 let⟨z,od,kV,k,pm,an,d,ct,s,rfl,u,m⟩:=F.ex;exact .all (h kV k pm an d ct)
def r8{f:Addr}{s:Ad}{an:Option Addr}{m:Array (Option Ad)}{kV h pm d ct:Ad}(l:K.lookup f=some ⟨s,od,.func (abi x qual (cC st) (bM st) (ab st) .none kV h pm an d ct),m⟩)
  (c:adh K d qual=true) (k:abL K (.ref f)=true):Fun K x qual st f (abi x qual (cC st) (bM st) (ab st) .none kV h pm an d ct):=⟨⟨s,od,kV,h,pm,an,d,ct,m,rfl,l,c⟩,k⟩
end
theorem iteF(h:B):if false=true then A else B:=by simp_all
theorem iteT(h:A):if true=true then A else B:=by simp_all
def bi(X:Cx)(scope:Scope)(cl:List (Str×Addr))(N:List Str)(s:Io)(H:Hp)(C:Addr)(ex:List Addr):Cx where
 prog:=X.prog
 w:=X.w
 K:=X.K
 mg:=X.mg
 base:=X.base
 A:=X.A
 N:=N
 s₀:=s
 H₀:=H
 env:=af6 scope cl C X.env
 outer:=X.stack
 stack:=X.stack
 ex:=ex
 fn:=λ_=>false
 calm:=X.calm
 eb:=X.eb
 pn:=[]
 xe:=λ_ _=>False
theorem kg{env:Env}:∀{names:List (Str×ael)}{acc:List (Str×Addr)},(∀y∈names,y.2 = .free->∃c,env.cells.lookup y.1=some c)->(∀x c,acc.lookup x=some c->env.cells.lookup x=some c) ->
  ∃cl,(forIn names acc λ(x:Str×ael) (M:List (Str×Addr))=>if (x.2==aej)=true then do let c <- cellOf env x.1;pure (aet ((x.1,c)::M))else pure (aet M):Sem (List (Str×Addr)))=pure cl/\
   (∀x c,cl.lookup x=some c->env.cells.lookup x=some c)/\(∀y∈names,y.2 = .free->∃c,cl.lookup y.1=some c)/\(∀x,(∃c,acc.lookup x=some c)->∃c,cl.lookup x=some c)
 |[],acc,_,ha=>⟨acc,rfl,ha,λy m=>absurd m (by simp),λ_ h=>h⟩
 | (n,k)::r,acc,h,ha=>by
  rw[aeu]
  by_cases F:k = .free
  .subst F;let⟨c,R⟩:=h (n,.free) aae rfl;have z:env.cells.lookup n=some c:=R;have O:cellOf env n=pure c:=by unfold cellOf;rw[z]
   let⟨cl,I,L,G,C⟩:=kg (env:=env) (names:=r) (acc:=(n,c)::acc) (λy m=>h y (aaf _ m)) (λx d u=>by
    rw[aa1]at u
    cases hb:x==n with
    |true=>rw[hb]at u;cases u;rw[eq_of_beq hb];exact z
    |false=>rw[hb]at u;exact ha x d u)
   refine⟨cl,?_,L,λy m s=>?_,λx u=>C x ?_⟩
   .simp only[beq_self_eq_true,if_true,O,pure_bind];exact I
   .obtain rfl|m:=aah.mp m
    .exact C n ⟨c,by rw[aa1];simp⟩
    .exact G y m s
   .obtain⟨d,hd⟩:=u;rw[aa1]
    cases hb:x==n with
    |true=>exact⟨c,rfl⟩
    |false=>exact⟨d,hd⟩
  .have hb:(k==aej)=false:=by simpa using F
   let⟨cl,I,L,G,C⟩:=kg (env:=env) (names:=r) (acc:=acc) (λy m=>h y (aaf _ m)) ha;refine⟨cl,?_,L,λy m s=>?_,C⟩
   .simp only[hb,ab5,if_false,pure_bind];exact I
   .obtain rfl|m:=aah.mp m
    .exact absurd s F
    .exact G y m s
theorem gi(h:∀y∈scope.names,y.2 = .free->∃c,env.cells.lookup y.1=some c) :
  ∃cl,closureFor scope env=pure cl/\(∀x c,cl.lookup x=some c->env.cells.lookup x=some c)/\∀y∈scope.names,y.2 = .free->∃c,cl.lookup y.1=some c:=by
 let⟨cl,e,k,m,_⟩:=kg (acc:=[]) h (λx c d=>by cases d);refine⟨cl,?_,k,m⟩;simp[closureFor]
 simp_all
def PTs(X:Cx)(ifs:List Expr)(t:TT):Prop:=
 ∀(pins:List (Addr×Obj)) (s:Io) (σ:St) (H:Hp) (Q:Bool->Hp->Prop),Inv X pins σ H s->t σ H Q ->
  wpAny (model X.prog X.w) X.A (forIn ifs true λc r=>if r=true then do let ok <- isTrue c X.env (eval c X.env);pure (aet ok)else pure (aet r)) (TP X pins σ Q) X.xe s
def Ki:TT:=λ_ H Q=>Q true H
theorem Oj:PTs X [] Ki:=λ_ _ _ H _ I h=>wpAny_tests_nil ⟨H,I,h⟩
theorem Mi{t:TT}(d:PT X c t):PTs X [c] t:=λpins s σ H Q I h=>wpAny_tests_one (d pins s σ H Q I h)
def PB(X:Cx)(bd:Sem PUnit)(t:TS):Prop:=
 ∀(pins:List (Addr×Obj)) (s:Io) (σ:St) (H:Hp) (D:Ends),Inv X pins σ H s->t D σ H->wpAny (model X.prog X.w) X.A bd (λ_ d=>∃σ' H',Inv X pins σ' H' d/\D.nx σ' H') X.xe s
def uj(J:It)(g:TG)(tb:TS):TS:=λD σ H=>∃W:Nat->Nat->St->Hp->Prop,(∃m,W 0 m σ H)/\∀i m σ H,W i m σ H ->
 (J.stop i H/\D.nx σ H)\/(J.go i H/\∃N:St->Hp->Prop,(∀σ' H',N σ' H'->∃h,h<m/\W (i+1) h σ' H')/\∀x H',J.yld i H x H'->g x σ H' λd H2=>tb {D with nx:=N,ct:=N,bk:=D.nx} d H2)
def tIfT(tt:TT)(tb:TS):TS:=λD σ H=>tt σ H λb H1=>if b=true then tb D σ H1 else D.nx σ H1
def yu(l:Addr)(d:TE):TS:=λD σ H=>d σ H λx H1=>∃xs,H1 l=some (.lst xs)/\xs.length<aal/\D.nx σ (upd H1 l (.lst (xs++[x])))
theorem sF{gens:List Comprehension}{d:Nat}{O:Addr}{acc:Ad}{ipos:Pos}{bd:Sem PUnit}{g:TG}{tt:TT}
  (L:compTurn (.ListComp elt gens scope pos) d (.ref O) acc X.env=(do
   acA ipos
   match <- acP (.ref O)with
   |none=>pure (.done .next)
   | some v=>
    adK tg (.ref O) v
    ae9 tg X.env v
    let mut ok:=true
    for c in ifs do
     if ok then ok <- isTrue c X.env (eval c X.env)
    if ok then bd
    again (.compLoop (.ListComp elt gens scope pos) d (.ref O) acc X.env)))
  (hx:X.xe=λ_ _=>False) (hc:X.calm=true) (T:Turn X.prog X.w X.K tg J fp O tn) (hg:PG X tg g) (ht:PTs X ifs tt) (F:PB X bd tb)
  {s:Io} (I:Inv X pins σ H s) (st:tn 0 s.heap) (f:∀b∈fp,FpOk X pins H b) (h:uj J g (tIfT tt tb) D σ H) :
  adL (model X.prog X.w) X.A (.compLoop (.ListComp elt gens scope pos) d (.ref O) acc X.env) (λr s'=>r = .ok .next/\∃σ' H',Inv X pins σ' H' s'/\D.nx σ' H') s:=by
 let⟨W,⟨m0,w0⟩,S⟩:=h;have C:∀{H':Hp},(∀b∈fp,H' b=none)->∀b∈fp,FpOk X pins H' b:=λhn b F=>⟨hn b F,(f b F).2⟩;have nox:∀{α:Type}{t:Sem α}{Q:α->Io->Prop}{E:Ad->Io->Prop}{s:Io},wpAny (model X.prog X.w) X.A t Q X.xe s->wpAny (model X.prog X.w) X.A t Q E s:=λh=>acq h (λ_ _ q=>q) λ_ _ z=>by
  rw[hx]at z;exact z.elim
 refine codeAny_loop rfl (λn s'=>∃i σ' H',Inv X pins σ' H' s'/\tn i s'.heap/\(∀b∈fp,H' b=none)/\W i n σ' H') ?_ m0 ⟨0,σ,H,I,st,λb F=>(f b F).1,w0⟩;intro n s3 ⟨i,G,H3,I3,U,fr3,w3⟩;show wpAny _ X.A ((compTurn (.ListComp elt gens scope pos) d (.ref O) acc X.env).onRaise (λx=>do noteFrame x X.env;theTreesLotGoes x)) _ _ s3;refine wpAny_noted ?_;rw[L];refine gT (m:=acA _) (ac7 (gT ?_));rcases S i n G H3 w3 with⟨stop,qn⟩|⟨go,N,hN,step⟩
 .refine thn (T.done X rfl rfl rfl hc i pins s3 G H3 _ I3 (C fr3) U stop) λr s4 ⟨hr,I4⟩=>?_;subst hr;exact Ld ⟨rfl,G,H3,I4,qn⟩
 .refine thn (T.item X rfl rfl rfl hc i pins s3 G H3 _ I3 (C fr3) U go) λr s4 ⟨u,hr,h4⟩=>?_;subst hr;refine gT (thn h4 λ_ s5 ⟨x,H5,I5,r5,y5,M,fr5⟩=>?_);have I5':=I5.pinned (C fr5) (T.obj _ _ M);refine gT (nox (thn (hg _ s5 G H5 x u _ I5' r5 (step x H5 y5)) λ_ s6 ⟨Y,H6,I6,q6⟩=>?_));refine gT (nox (thn (ht _ s6 Y H6 _ I6 q6) λok s7 ⟨H7,I7,q7⟩=>?_));have Z:∀{k:St}{R:Hp}{s8:Io},Inv X (pins++ue fp s5.heap) k R s8->N k R->∃m,m<n/\∃i σ' H',Inv X pins σ' H' s8/\tn i s8.heap/\(∀b∈fp,H' b=none)/\W i m σ' H':=λ{k R s8} V n8=>by
   let⟨m',hm,w8⟩:=hN k R n8;refine⟨m',hm,i+1,k,R,V.unpinned,T.keep _ _ _ M λb F o e=>(V.pin (b,o) (aaH _ (aaH _ (iC F e)))).1,λb F=>?_,w8⟩;let⟨o,e,_⟩:=T.obj _ _ M b F;exact(V.pin (b,o) (aaH _ (aaH _ (iC F e)))).2.1
  cases ok with
  |false=>
   rw[if_neg aaj]at q7;exact Ld ⟨rfl,Z I7 q7⟩
  |true=>
   rw[if_pos rfl]at q7;exact gT (nox (thn (F _ s7 Y H7 _ I7 q7)<|by intro _ s8 ⟨k,R,V,q8⟩;exact Ld ⟨rfl,Z V q8⟩))
theorem uG{d:TE}(z:PE X elt d):PB X (do let _ <- call (.builtin "list.append") [.ref l,<-eval elt X.env]) (yu l d):=by
 intro pins s σ H D I h;refine gT (thn (z pins s σ H _ I h) λu s1 ⟨x,H1,k,r1,xs,G,M,q⟩=>?_);refine gT (thn ?_ λ_ m C=>Ld C);exact thn (lH pins s1 σ H1 (.ref l) [x] _ [u] (λv H'=>v = .non/\D.nx σ H') k rfl (.cons r1 .nil) ⟨l,xs,x,rfl,rfl,G,M,rfl,q⟩)<|by intro v m ⟨_,H',F,_,_,L⟩;exact⟨σ,H',F,L⟩
theorem fz(env:Env)(x:Str):∀names:List (Str×ael),(names.map λ(n,k)=>if (k==aej&&env.scope.kind == .function&&env.kindOf n==some .cell)then(n,ahk)else(n,k)).lookup x =
  (names.lookup x).map λk=>if (k==aej&&env.scope.kind == .function&&env.kindOf x==some .cell)then ahk else k
 |[]=>rfl
 | (n,k)::r=>by
  have d:=fz env x r;rw[aao];dsimp only
  cases hx:x==n with
  |true=>
   have e:=eq_of_beq hx;subst e
   by_cases h:(k==aej&&env.scope.kind == .function&&env.kindOf x==some .cell)=true
   .simp only[aa1,hx,acy,if_pos h]
   .simp only[aa1,hx,acy,if_neg h]
  |false=>
   split
   .simp only[aa1,hx];exact d
   .simp only[aa1,hx];exact d
def iE{k:ael}:∀{names:List (Str×ael)},names.lookup x=some k->(x,k)∈names:=λh=>ack h
theorem nG(d:∀y∈scope.names,y.2≠.cell)(h:(age scope env).names.lookup x=some .cell\/(age scope env).names.lookup x=some .free):scope.names.lookup x=some .free:=by
 unfold age at h;simp only[fz]at h
 cases e:scope.names.lookup x with
 |none=>rw[e]at h;rcases h with h|h<;>cases h
 |some k=>
  rw[e]at h;simp only[acy]at h;have s:=d _ (iE e)
  by_cases m:k = .free
  .rw[m]
  .simp_all
def t5(h:scope.names.lookup x=some .free):(age scope env).names.lookup x=some .cell\/(age scope env).names.lookup x=some .free:=by
 unfold age;simp only[fz,h,acy];split
 .exact .inl rfl
 .exact .inr rfl
def iM(own:List Str)(ps:List Nat)(σ:St):St:=own.map (λ_=>none)++ps.map λi=>(σ[i]?).join
structure cr(own fr:List Str)(scope sc:Scope):Prop where
 kind:scope.kind = .function
 nocell:∀y∈scope.names,y.2≠.cell
 names:∀y∈scope.names,y.2 = .local->scope.names.lookup y.1=some .local
 there:∀y∈scope.names,y.2 = .free->sc.names.lookup y.1=some .cell\/sc.names.lookup y.1=some .free
 fr:∀x∈fr,scope.names.lookup x=some .free
section
variable {X:Cx}{scope sc:Scope}{own fr:List Str}{ps:List Nat}
theorem nQ{n:Expr}{rest:List Comprehension}{bdy:Env->Ad->Sem PUnit}{g:TG}{tt:TT}{tb:Addr->TS}{cl:List (Str×Addr)}{R:Ad->Addr->Result->Io->Prop}
  (S:cr own fr scope sc) (hsc:X.env.scope=sc) (hps:ps.map (λi=>X.N[i]?)=fr.map some) (hc:X.calm=true) (G:∀x c,cl.lookup x=some c->X.env.cells.lookup x=some c) (hcl2:∀y∈scope.names,y.2 = .free->∃c,cl.lookup y.1=some c)
  (hturn:∀env it acc,compTurn (.ListComp elt (⟨tg,n,ifs,0⟩::rest) scope pos) 0 it acc env=(do
   acA n.pos
   match <- acP it with
   |none=>pure (.done .next)
   | some v=>
    adK tg it v
    ae9 tg env v
    let mut ok:=true
    for c in ifs do
     if ok=true then ok <- isTrue c env (eval c env)
    if ok then bdy env acc
    again (.compLoop (.ListComp elt (⟨tg,n,ifs,0⟩::rest) scope pos) 0 it acc env)))
  (hg:∀s H C ex,PG (bi X scope cl (own++fr) s H C ex) tg g) (ht:∀s H C ex,PTs (bi X scope cl (own++fr) s H C ex) ifs tt)
  (d:∀s H C ex l,PB (bi X scope cl (own++fr) s H C ex) (bdy (af6 scope cl C X.env) (.ref l)) (tb l))
  {s:Io}{it:Addr} (I:Inv X pins σ H s) (T:Turn X.prog X.w X.K tg J fp it tn) (st:tn 0 s.heap) (f:∀b∈fp,FpOk X pins H b)
  (h:∀l,H l=none->uj J g (tIfT tt (tb l)) {nx:=λ_ H'=>Q (.ref l) H',rt:=λ_ _=>False} (iM own ps σ) (upd H l (.lst [])))
  (hR:∀l C H' s',(∃m,s'.heap.Ns C m)->Inv X pins σ H' s'->FpOk X pins H' C->Q (.ref l) H'->R (.ref l) C (.ok .next) s') :
  wpAny (model X.prog X.w) X.A (agI []) (λacc s₃=>wpAny (model X.prog X.w) X.A (newFunctionEnv scope X.env.globals cl [] X.env.qual none .none (some X.env)) (λcenv s₄=>
   adL (model X.prog X.w) X.A (.compStart (.ListComp elt (⟨tg,n,ifs,0⟩::rest) scope pos) 0 (.ref it) acc {cenv with scope:=age scope X.env}) (R acc cenv.locals) s₄) E s₃) E s:=by
 refine abc (wpAny_newFunctionEnv S.nocell (by intro y hy;simp at hy) (λO M U=>?_) S.kind);have V:Inv X pins σ (upd H s.heap.objs.size (.lst [])) {s with heap:=s.heap.push {cls:=.type "list",data:=.seq ([]:List Ad).toArray} }:=I.lnew (t':=s.toks) (ys:=[]) .nil (abh _);generalize hS3:({s with heap:=s.heap.push {cls:=.type "list",data:=.seq ([]:List Ad).toArray} }:Io)=L at V M U⊢;have hsz:L.heap.objs.size=s.heap.objs.size+1:=by rw[<-hS3];exact abz _ _
 have hl:H s.heap.objs.size=none:=I.hok.fresh (aab _);have kept0:∀b o,s.heap.get? b=some o->L.heap.get? b=some o:=λb o e=>by rw[<-hS3];exact LD _ e
 have F:∀b o,L.heap.get? b=some o->O.get? b=some o:=λb o e=>U.extBut b o (aa0 (aaq e)) (LD _ e);have fpl:∀b∈fp,b<s.heap.objs.size:=λb d=>by let⟨o,e,_⟩:=T.obj _ _ st b d;exact aaq e
 have fpH:∀b∈fp,(upd H s.heap.objs.size (.lst [])) b=none:=λb d=>by rw[aB (aa0 (fpl b d))];exact(f b d).1
 have fpS:∀b∈fp,b∉frs X.stack:=λb d z=>by
  rcases aah.mp (I.stkSub b z)with e|e
  .exact(f b d).2.1 e
  .exact(f b d).2.2.1 e
 have ok':(bi X scope cl (own++fr) L (upd H s.heap.objs.size (.lst [])) L.heap.objs.size fp).Ok:=by
  refine⟨I.ok.mod,S.kind,I.ok.glob,I.ok.blt,aab _,λx y c h1 h2=>I.ok.inj x y c (G x c h1) (G y c h2),λx hx=>?_,λx c hf=>(by cases hf),I.ok.hd,I.ok.frames,.inl rfl,λb d=>⟨?_,λx c hx=>(f b d).2.2.2.2.1 x c (G x c hx)⟩,
   λb o e=>V.bs b o e,aaw V.ok.bsz V.sz,λb o e d=>?_,λb d=>fpS b d,V.stack,V.stkFree⟩
  .exact hcl2 (x,.free) (iE (nG S.nocell hx)) rfl
  .exact aa0 (aav (fpl b d) (by rw[hsz];exact ae2 _))
  .rcases (f b d).2.2.2.1 with z|z
   .exact I.ok.noex b o e z
   .exact absurd (aav (aaq (I.ok.bs b o e).1) z) (acH _)
 have I4:Inv (bi X scope cl (own++fr) L (upd H s.heap.objs.size (.lst [])) L.heap.objs.size fp) [] (iM own ps σ) (upd H s.heap.objs.size (.lst [])) {L with heap:=O,toks:=L.toks+([]:List (Str×Ad)).length}:=by
  refine⟨ok',rfl,V.bare,Un.kept F,⟨_,M,λi x v e1 Y e3=>?_⟩,λx c e=>?_,V.hok.fresh (aab _),λx c e=>V.freeC x c (G x c e),λp hp=>absurd (show p∈([]:List (Addr×Obj))from hp) (by simp),V.hok.kept F,?_⟩
  .have e1':(own++fr)[i]?=some x:=e1;unfold iM at Y
   by_cases hi:i<own.length
   .rw[aaF (by simpa using hi),aai]at Y
    cases q:own[i]? with
    |none=>rw[q]at Y;cases Y
    |some z=>rw[q]at Y;cases Y
   .rw[aaM (by simpa using hi),iO,aai]at Y;rw[aaM (by simpa using hi)]at e1'
    cases q:ps[i-own.length]? with
    |none=>rw[q]at Y;cases Y
    | some p=>
     rw[q]at Y;have W:(σ[p]?).join=some v:=aas Y;have hσ:σ[p]?=some (some v):=by
      cases z:σ[p]? with
      |none=>rw[z]at W;cases W
      |some w=>rw[z]at W;cases w with
       |none=>cases W
       |some w=>cases W;rfl
     have hN:X.N[p]?=some x:=by
      have z:=congrArg (λl=>l[i-own.length]?) hps;simp only[aai,q,e1',acy,agJ]at z;exact z
     have hx:x∈fr:=GT e1';have hfr:=S.fr x hx;have Z:=S.there (x,.free) (iE hfr) rfl;let⟨m,hn,hlk⟩:=V.loc;let⟨u,ru,lk⟩:=hlk p x v hN hσ (by rw[hsc];exact .inr Z);refine⟨u,ru,.inr ⟨t5 hfr,?_⟩⟩;rcases lk with⟨k,_⟩|⟨_,c,ec,z⟩
     .have k':X.env.scope.names.lookup x=some .local:=k;rw[hsc]at k';rcases Z with q2|q2<;>(rw[k']at q2;cases q2)
     .obtain⟨c',ec'⟩:=hcl2 (x,.free) (iE hfr) rfl;have:=G x c' ec';rw[ec]at this;cases this;let⟨o,ho,hd⟩:=z;exact⟨c,ec',o,F _ _ ho,hd⟩
  .obtain⟨v,o,ho,hd⟩:=V.cell x c (G x c e);exact⟨v,o,F _ _ ho,hd⟩
  .show(iM own ps σ).length=(own++fr).length;have:=congrArg adg hps;rw[iO,iO]at this;unfold iM;rw[aan,aan,iO,iO,this]
 have f4:∀b∈fp,FpOk (bi X scope cl (own++fr) L (upd H s.heap.objs.size (.lst [])) L.heap.objs.size fp) [] (upd H s.heap.objs.size (.lst [])) b:=λb d=>
  ⟨fpH b d,(ok'.exf b d).1,fpS b d,.inl d,(ok'.exf b d).2,λp hp=>absurd (show p∈([]:List (Addr×Obj))from hp) (by simp)⟩
 have st4:tn 0 O:=T.keep 0 _ _ st λb d o e=>F b o (kept0 b o e);have loop:adL (model X.prog X.w) X.A (.compLoop (.ListComp elt (⟨tg,n,ifs,0⟩::rest) scope pos) 0 (.ref it) (.ref s.heap.objs.size) (af6 scope cl L.heap.objs.size X.env)) (R (.ref s.heap.objs.size) L.heap.objs.size) {L with heap:=O,toks:=L.toks+([]:List (Str×Ad)).length}:=by
  refine adZ (sF (X:=bi X scope cl (own++fr) L (upd H s.heap.objs.size (.lst [])) L.heap.objs.size fp) (hturn _ _ _) rfl hc T (hg _ _ _ _) (ht _ _ _ _) (d _ _ _ _ _) I4 st4 f4 (h _ hl)) λr s' ⟨er,σ5,H5,I5,q5⟩=>?_;subst er;have I6:Inv X pins σ H5 s':=V.call' (s':=s') I5.os I5.base I5.hok I5.bare λb d=>⟨(f b d).2.2.2.1,(f b d).2.1,(f b d).2.2.2.2.1,(f b d).2.2.2.2.2⟩;have hm:∃m,s'.heap.Ns L.heap.objs.size m:=let ⟨m,hn,_⟩:=I5.loc;⟨m,hn⟩;exact hR _ _ H5 s' hm I6 (V.fpOk (aab _) I5.free) q5
 exact codeAny_compStart_list loop (T.self _ 0 _ _ _ st4 loop)
def zH(L:TI)(own:List Str)(ps:List Nat)(tl:Addr->It->TS):TE:=λσ H Q=>L σ H λJ H1=>∀l,H1 l=none->tl l J {nx:=λ_ H'=>Q (.ref l) H',rt:=λ_ _=>False} (iM own ps σ) (upd H1 l (.lst []))
def tl1(g:TG)(tt:TT)(K:TE):Addr->It->TS:=λl J=>uj J g (tIfT tt (yu l K))
def tl2(g:TG)(tt:TT)(B:TI)(M:TG)(F:TT)(K:TE):Addr->It->TS:=λl J=>uj J g (tIfT tt λD σ H=>B σ H λd H1=>uj d M (tIfT F (yu l K)) D σ H1)
theorem Ib{Y:Cx}{C k A j:Expr}{z t:List Expr}{B:TI}{M:TG}{F:TT}{K:TE}(R:Y.xe=λ_ _=>False)(hc:Y.calm=true)(hi:PI Y A j B)(S:PG Y A M)(ht:PTs Y t F)(V:PE Y elt K)
  (hs:∀x,aaQ j Y.env x=pure x) :
  PB Y (do
   let x <- eval j Y.env
   acA j.pos
   let x <- aaQ j Y.env x
   let _ <- runOwn (.compStart (.ListComp elt [⟨C,k,z,0⟩,⟨A,j,t,0⟩] scope pos) 1 (<- adj [x] (afz x)) (.ref l) Y.env) Y.env) (λD σ H=>B σ H λJ2 H1=>uj J2 M (tIfT F (yu l K)) D σ H1):=by
 intro pins s σ H D I h;refine gT (thn (hi pins s σ H _ I h) λv s1 h1=>?_);refine gT (ac7 (gT (wpAny_of_eq (hs v) (gT (abU (thn h1 λitv s2 h2=>?_))))));let⟨it,fp,tn,J,H2,e,Z,T,G,f2,q⟩:=h2;subst e;have u:∀O,O=s2->adL (model Y.prog Y.w) Y.A (.compLoop (.ListComp elt [⟨C,k,z,0⟩,⟨A,j,t,0⟩] scope pos) 1 (.ref it) (.ref l) Y.env) (λr L=>match r with| .ok f=>wpAny (model Y.prog Y.w) Y.A (pure PUnit.unit) (λ_ L=>∃σ' H',Inv Y pins σ' H' L/\D.nx σ' H') Y.xe L | .error e=>cameBackBy (model Y.prog Y.w) Y.A Y.env Y.xe e L) O:=by
  rintro O rfl;refine adZ (sF (X:=Y) (elt:=elt) (gens:=[⟨C,k,z,0⟩,⟨A,j,t,0⟩]) (scope:=scope) (pos:=pos) (d:=1) (acc:=.ref l) (ipos:=j.pos) (ifs:=t)
   (bd:=do let _ <- call (.builtin "list.append") [.ref l,<-eval elt Y.env]) rfl R hc T S ht (uG V) Z G f2 q) λr L ⟨U,W⟩=>?_
  subst U;exact Ld W
 refine gT (wpAny_runOwn ?_);show adL (model Y.prog Y.w) Y.A _ _ s2;refine codeAny_of_tree ?_;refine wpAny_notedAt ?_;unfold compStart;show wpAny _ _ (ask >>= _) _ _ s2;refine gT (m:=ask) (wpAny_askSetting (wpAny_ite ?_));split
 .first
   |exact gT (Ld (Ld (agX rfl (u _ rfl))))
   |exact Ld (agX rfl (u _ rfl))
 .first
   |exact gT (acI (gT (ac7 (gT (T.self _ 0 _ _ _ G (Ld (agX rfl (u _ rfl))))))))
   |(refine gT (acI ?_);show wpAny _ _ (acA j.pos >>= _) _ _ s2;exact gT (ac7 (gT (T.self _ 0 _ _ _ G (Ld (agX rfl (u _ rfl)))))))
theorem Inv.junk{s:Io}{C:Addr}(I:Inv X pins σ H s)(f:FpOk X pins H C){h':aaT}(h:abW C s.heap h'):Inv X pins σ H {s with heap:=h' }:=
 I.turned (t':=s.toks) (λb o ne e=>(h.2 b ne).trans e) f.1 f.2.1 f.2.2.2.1 f.2.2.2.2.1 f.2.2.2.2.2
variable {elt tg n:Expr}{ifs:List Expr}{pos G N:Pos}{L:TI}{g:TG}{tt:TT}{K:TE}
def q9{s:Io}(S:cr own fr scope sc)(h:X.env.scope=sc)(I:Inv X pins σ H s):∀y∈scope.names,y.2 = .free->∃c,X.env.cells.lookup y.1=some c:=λy d k=>
 I.ok.has y.1 (by show X.env.scope.names.lookup y.1=_\/X.env.scope.names.lookup y.1=_;rw[h];exact S.there y d k)
theorem Df(S:cr own fr scope sc)(hi:PI X tg n L)(O:∀cl s H C ex,PG (bi X scope cl (own++fr) s H C ex) tg g)(ht:∀cl s H C ex,PTs (bi X scope cl (own++fr) s H C ex) ifs tt)
  (R:∀cl s H C ex,PE (bi X scope cl (own++fr) s H C ex) elt K) (d:X.env.scope=sc:=by rfl) (k:ps.map (λi=>X.N[i]?)=fr.map some:=by rfl) (hc:X.calm=true:=by rfl) (hs:∀x,aaQ n X.env x=pure x:=by intro _;rfl) :
  PE X (.ListComp elt [⟨tg,n,ifs,0⟩] scope pos) (zH L own ps (tl1 g tt K)):=by
 intro pins s σ H Q I h;let⟨cl,ec,h1,h2⟩:=gi (q9 S d I);refine adE (use:=none) rfl hs ec S.kind S.names (thn (hi pins s σ H _ I h) λv s1 W=>thn W λitv s2 q2=>?_);let⟨M,fp,tn,J,H2,e,Z,T,z,Y,q⟩:=q2;subst e;exact nQ S d k hc h1 h2 (λenv M F=>compTurn_list elt tg n ifs scope pos M F env)
  (O cl) (ht cl) (λs H C ex l=>uG (R cl s H C ex)) Z T z Y q λl C H' s' hm V U q'=>by
   let⟨m,hn⟩:=hm;exact⟨m,hn,λh' u=>⟨.ref l,H',V.junk U u,rfl,q'⟩⟩
theorem sx{s':Io}{C:Addr}{Q:St->Hp->Prop}(V:X.N.Nodup)(R:X.N[i]?=some y)(h:X.env.scope.names.lookup y=some .local)(U:∃m,s'.heap.Ns C m)(I:Inv X pins σ H' s')(F:FpOk X pins H' C)(q:Q (σ.set i (some (.ref l))) H') :
  wpAny (model X.prog X.w) X.A (ae9 (.Name y N) X.env (.ref l)) (λ_ s=>∃m,s.heap.Ns C m/\∀h',abW C s.heap h'->∃σ' k,Inv X pins σ' k {s with heap:=h' }/\Q σ' k) E s':=by
 let⟨m,W⟩:=U;refine wpAny_assign_Name (sW I V R (.inl h) (v:=.ref l) rfl (λs M ⟨a,S,d⟩=>?_) (.inr h));have O:C≠a:=by
  rcases d with d|d
  .rw[d];exact F.2.1
  .exact λz=>F.2.2.2.2.1 _ _ d z.symm
 exact⟨m,W.sameBut S O,λh' u=>⟨_,H',M.junk F u,q⟩⟩
theorem Di(S:cr own fr scope sc)(hN:X.N.Nodup)(U:X.N[i]?=some y)(F:X.env.scope.names.lookup y=some .local)(hi:PI X tg n L)(R:∀cl s H C ex,PG (bi X scope cl (own++fr) s H C ex) tg g)(ht:∀cl s H C ex,PTs (bi X scope cl (own++fr) s H C ex) ifs tt)
  (V:∀cl s H C ex,PE (bi X scope cl (own++fr) s H C ex) elt K) (k:abx (.ListComp elt [⟨tg,n,ifs,0⟩] scope pos) (some (.Name y N)) G.line X.env=pure true:=by rfl)
  (d:X.env.scope=sc:=by rfl) (u:ps.map (λi=>X.N[i]?)=fr.map some:=by rfl) (hc:X.calm=true:=by rfl) (hs:∀x,aaQ n X.env x=pure x:=by intro _;rfl) :
  PS X (.Assign [.Name y N] (.ListComp elt [⟨tg,n,ifs,0⟩] scope pos) G) (tAsg (zH L own ps (tl1 g tt K)) (GI i)):=by
 intro pins s σ H D I h;let⟨cl,ec,h1,h2⟩:=gi (q9 S d I);rw[show exec _ X.env=_ from afX _ _ _ _ k];refine gT (m:=acA _) (ac7 (gT ?_));refine gT (acq (adE rfl hs ec S.kind S.names (thn (hi pins s σ H _ I h) λv s1 q1=>thn q1 λitv s2 q2=>?_)) (λ_ s' Y=>Ld (Ld Y)) λ_ _ e=>e);let⟨O,fp,tn,J,H2,e,I2,T,z,f2,q⟩:=q2;subst e;exact nQ (Q:=λv H'=>D.nx (σ.set i (some v)) H') (tb:=λl=>yu l K) S d u hc h1 h2 (λenv O M=>compTurn_list elt tg n ifs scope pos O M env)
  (R cl) (ht cl) (λs H C ex l=>uG (V cl s H C ex)) I2 T z f2 q λl C H' s' hm Z W q'=>sx hN U F hm Z W q'
variable {A j:Expr}{t:List Expr}{B:TI}{M:TG}{F:TT}
theorem oT(elt d n:Expr)(ifs:List Expr)(A j:Expr)(t:List Expr)(scope:Scope)(pos:Pos)(h acc:Ad)(env:Env) :
  compTurn (.ListComp elt [⟨d,n,ifs,0⟩,⟨A,j,t,0⟩] scope pos) 0 h acc env=(do
   acA n.pos
   match <- acP h with
   |none=>pure (.done .next)
   | some v=>
    adK d h v
    ae9 d env v
    let mut ok:=true
    for c in ifs do
     if ok=true then ok <- isTrue c env (eval c env)
    if ok then
     (do
      let x <- eval j env
      acA j.pos
      let x <- aaQ j env x
      let _ <- runOwn (.compStart (.ListComp elt [⟨d,n,ifs,0⟩,⟨A,j,t,0⟩] scope pos) 1 (<- adj [x] (afz x)) acc env) env)
    again (.compLoop (.ListComp elt [⟨d,n,ifs,0⟩,⟨A,j,t,0⟩] scope pos) 0 h acc env)):=by
 simp only[ bind_assoc];rfl
theorem Gf(S:cr own fr scope sc)(hN:X.N.Nodup)(hy:X.N[i]?=some y)(V:X.env.scope.names.lookup y=some .local)(hi:PI X tg n L)(hg:∀cl s H C ex,PG (bi X scope cl (own++fr) s H C ex) tg g)(ht:∀cl s H C ex,PTs (bi X scope cl (own++fr) s H C ex) ifs tt)
  (R:∀cl s H C ex,PI (bi X scope cl (own++fr) s H C ex) A j B) (z:∀cl s H C ex,PG (bi X scope cl (own++fr) s H C ex) A M) (Y:∀cl s H C ex,PTs (bi X scope cl (own++fr) s H C ex) t F)
  (he:∀cl s H C ex,PE (bi X scope cl (own++fr) s H C ex) elt K) (k:abx (.ListComp elt [⟨tg,n,ifs,0⟩,⟨A,j,t,0⟩] scope pos) (some (.Name y N)) G.line X.env=pure true:=by rfl)
  (d:X.env.scope=sc:=by rfl) (u:ps.map (λi=>X.N[i]?)=fr.map some:=by rfl) (hc:X.calm=true:=by rfl) (hs:∀x,aaQ n X.env x=pure x:=by intro _;rfl)
  (O:∀cl C x,aaQ j (af6 scope cl C X.env) x=pure x:=by intro _ _ _;rfl) :
  PS X (.Assign [.Name y N] (.ListComp elt [⟨tg,n,ifs,0⟩,⟨A,j,t,0⟩] scope pos) G) (tAsg (zH L own ps (tl2 g tt B M F K)) (GI i)):=by
 intro pins s σ H D I h;let⟨cl,ec,h1,h2⟩:=gi (q9 S d I);rw[show exec _ X.env=_ from afX _ _ _ _ k];refine gT (m:=acA _) (ac7 (gT ?_));refine gT (acq (adE (Q:=λ_ W=>SP X pins D .next W) rfl hs ec S.kind S.names (thn (hi pins s σ H _ I h) λv s1 q1=>thn q1 λitv s2 q2=>?_)) (λ_ W hq=>Ld (Ld hq)) λ_ _ e=>e);let⟨it,fp,tn,J,H2,e,I2,T,U,f2,q⟩:=q2;subst e;exact nQ (Q:=λv H'=>D.nx (σ.set i (some v)) H') S d u hc h1 h2 (λenv it Z=>oT elt tg n ifs A j t scope pos it Z env)
  (hg cl) (ht cl) (λs H C ex l=>Ib rfl hc (R cl s H C ex) (z cl s H C ex) (Y cl s H C ex) (he cl s H C ex) (O cl C)) I2 T U f2 q λl C H' W hm I' fk q'=>sx hN hy V hm I' fk q'
end
def FzL(K:aag)(H:Hp)(a:Addr)(xs:List V):Prop:=
 (∃o,H a=some (.frz o (.lst xs))) \/
  ∃(o:Obj) (d:Array Ad) (n:Nat),K.lookup a=some o/\o.cls = .type "list"/\o.dict=none/\o.data = .seq d n/\d.size≤aal/\Vals xs d.toList
theorem FzL.sq{K:aag}(h:FzL K H a xs):SqL K H a xs:=by
 rcases h with⟨o,h⟩|h
 .exact .inl (.inr ⟨o,h⟩)
 .exact .inr h
structure Kd where
 K:aag
 w:World
instance:Coe Kd aag:=⟨Kd.K⟩
mutual
def fC(w:World):aD->Int
 | .int i=>hashInt i
 | .str x=>hashStr w x
 | .tuple ds=>reduceHash (abF (i9 w ds))
 |_=>0
def i9(w:World):List aD->List Int
 |[]=>[]
 |d::ds=>fC w d::i9 w ds
end
mutual
def hkD:aD->Bool
 | .int _=>true
 | .str _=>true
 | .tuple ds=>hkA ds
 |_=>false
def hkA:List aD->Bool
 |[]=>true
 |d::ds=>hkD d&&hkA ds
end
def isKd(kvs:List (aD×aD)):Bool:=kvs.all λk=>match k.1 with| .int _=>true | .str _=>true|_=>false
def Br(kvs:List (aD×aD)):Prop:=isKd kvs=false/\(kvs.map (·.1)).Nodup/\∀k∈kvs.map (·.1),hkD k=true
def dXp(a:Addr)(es:List (Int×V×V))(h:aaT):Prop:=
 (a==abr)=false/\es.length≤aal/\∃(o:Obj) (b:Array ab0) (c:Nat),h.get? a=some o/\o.ExactDict/\o.data = .dict b c/\
  abK (λ(e:Int×V×V) (d:ab0)=>d.hash=e.1/\RelV e.2.1 d.key/\RelV e.2.2 d.val) es b.toList
abbrev dX(a:Addr)(es:List (Int×V×V)):HO:=.ext (dXp a es)
def FzD(H:Hp)(a:Addr)(es:List (Int×V×V)):Prop:=∃o,H a=some (.frz o (dX a es))
def ClsN(K:Kd)(c:Str)(C:Addr):Prop:=aaL K.K aaA c=some (some (.ref C))
def Vg(K:Kd)(H:Hp)(a:Addr)(c:Str)(xs:List (Str×V)):Prop:=
 ∃(o:Obj) (u:HO) (C:Addr),H a=some (.frz o u)/\o.cls = .ref C/\(∃vs,o.data = .fields vs)/\ClsN K c C/\((o.dict=none/\xs=[])\/∃(dx:Addr) (b:Obj),o.dict=some dx/\H dx=some (.frz b (.xd xs)))
def keyD:Key->aD
 | .inl i=>.int i
 | .inr x=>.str x
def excC:List (aD×aD)->Option Str
 |(.none,.str c)::_=>some c
 |_=>none
mutual
def Den(K:Kd)(H:Hp):aD->V->Prop
 | .none,v=>v = .non
 | .bool b,v=>v = .bl b
 | .int i,v=>v = .int i
 | .str x,v=>v = .str x
 | .list ds,v=>∃a d,v = .ref a/\FzL K H a d/\DenAll K H ds d
 | .tuple ds,v=>∃a d,v = .ref a/\SqT K H a d/\DenAll K H ds d
 | .dict kvs,v=>∃a,v = .ref a/\((∃e,FzD H a e/\Br kvs/\DenKV K H kvs e)\/(∃e o,H a=some (.frz o (.dK e))/\DenKK K H kvs e)\/∃c d,excC kvs=some c/\Vg K H a c d/\DenXF K H kvs d)
def DenAll(K:Kd)(H:Hp):List aD->List V->Prop
 |[],xs=>xs=[]
 |d::ds,xs=>∃v vs,xs=v::vs/\Den K H d v/\DenAll K H ds vs
def DenKV(K:Kd)(H:Hp):List (aD×aD)->List (Int×V×V)->Prop
 |[],es=>es=[]
 |(k,d)::r,es=>∃u v vs,es=(fC K.w k,u,v)::vs/\Den K H k u/\Den K H d v/\DenKV K H r vs
def DenKK(K:Kd)(H:Hp):List (aD×aD)->List (Key×V)->Prop
 |[],es=>es=[]
 |(k,d)::r,es=>∃a v vs,es=(a,v)::vs/\(k=keyD a/\∀x∈vs,x.1≠a)/\Den K H d v/\DenKK K H r vs
def DenXF(K:Kd)(H:Hp):List (aD×aD)->List (Str×V)->Prop
 |[],xs=>xs=[]
 |(k,d)::r,xs=>match k with
  | .str f=>∃v vs,xs=(f,v)::vs/\Den K H d v/\DenXF K H r vs
  |_=>DenXF K H r xs
end
structure Pers(H H':Hp):Prop where
 tups:∀b xs,H b=some (.tup xs)->H' b=some (.tup xs)
 frzs:∀b o u,H b=some (.frz o u)->H' b=some (.frz o u)
theorem Pers.trans(a:Pers H H1)(b:Pers H1 H2):Pers H H2:=⟨λc x e=>b.tups c x (a.tups c x e),λc o u e=>b.frzs c o u (a.frzs c o u e)⟩
section
variable {K:Kd}{H H':Hp}
theorem FzL.mono(p:Pers H H')(h:FzL K H a xs):FzL K H' a xs:=by
 rcases h with⟨o,h⟩|h
 .exact .inl ⟨o,p.frzs _ _ _ h⟩
 .exact .inr h
theorem SqT.mono(p:Pers H H')(h:SqT K H a xs):SqT K H' a xs:=by
 rcases h with(h|⟨o,h⟩)|h
 .exact .inl (.inl (p.tups _ _ h))
 .exact .inl (.inr ⟨o,p.frzs _ _ _ h⟩)
 .exact .inr h
mutual
theorem Den.mono(p:Pers H H'):∀{d:aD}{v:V},Den K H d v->Den K H' d v
 | .none,_,h=>h
 | .bool _,_,h=>h
 | .int _,_,h=>h
 | .str _,_,h=>h
 | .list ds,_,h=>by
  simp only[Den]at h⊢;let⟨a,x,e,f,g⟩:=h;exact⟨a,x,e,f.mono p,DenAll.mono p g⟩
 | .tuple ds,_,h=>by
  simp only[Den]at h⊢;let⟨a,x,e,f,g⟩:=h;exact⟨a,x,e,f.mono p,DenAll.mono p g⟩
 | .dict kvs,_,h=>by
  simp only[Den]at h⊢;let⟨a,e,h⟩:=h;refine⟨a,e,?_⟩;rcases h with⟨i,⟨o,f⟩,k,g⟩|⟨i,o,f,g⟩|⟨c,x,r,⟨o,u,C,t,m,j,n,b⟩,g⟩
  .exact .inl ⟨i,⟨o,p.frzs _ _ _ f⟩,k,DenKV.mono p g⟩
  .exact .inr (.inl ⟨i,o,p.frzs _ _ _ f,DenKK.mono p g⟩)
  .refine .inr <| .inr ⟨c,x,r,⟨o,u,C,p.frzs _ _ _ t,m,j,n,?_⟩,DenXF.mono p g⟩;rcases b with b|⟨dx,s,l,q⟩
   .exact .inl b
   .exact .inr ⟨dx,s,l,p.frzs _ _ _ q⟩
theorem DenAll.mono(p:Pers H H'):∀{ds:List aD}{xs:List V},DenAll K H ds xs->DenAll K H' ds xs
 |[],_,h=>h
 |d::ds,_,h=>by
  simp only[DenAll]at h⊢;let⟨v,vs,e,f,g⟩:=h;exact⟨v,vs,e,Den.mono p f,DenAll.mono p g⟩
theorem DenKV.mono(p:Pers H H'):∀{ds:List (aD×aD)}{xs:List (Int×V×V)},DenKV K H ds xs->DenKV K H' ds xs
 |[],_,h=>by simpa only[DenKV]using h
 |(k,d)::r,_,h=>by
  simp only[DenKV]at h⊢;let⟨u,v,vs,e,f,a,g⟩:=h;exact⟨u,v,vs,e,Den.mono p f,Den.mono p a,DenKV.mono p g⟩
theorem DenKK.mono(p:Pers H H'):∀{ds:List (aD×aD)}{xs:List (Key×V)},DenKK K H ds xs->DenKK K H' ds xs
 |[],_,h=>by simpa only[DenKK]using h
 |(k,d)::r,_,h=>by
  simp only[DenKK]at h⊢;let⟨u,v,vs,e,f,a,g⟩:=h;exact⟨u,v,vs,e,f,Den.mono p a,DenKK.mono p g⟩
theorem DenXF.mono(p:Pers H H'):∀{ds:List (aD×aD)}{xs:List (Str×V)},DenXF K H ds xs->DenXF K H' ds xs
 |[],_,h=>by simpa only[DenXF]using h
 |(.str f,d)::r,_,h=>by
  simp only[DenXF]at h⊢;let⟨v,vs,e,a,g⟩:=h;exact⟨v,vs,e,Den.mono p a,DenXF.mono p g⟩
 |(.none,d)::r,_,h=>by simp only[DenXF]at h⊢;exact DenXF.mono p h
 |(.bool _,d)::r,_,h=>by simp only[DenXF]at h⊢;exact DenXF.mono p h
 |(.int _,d)::r,_,h=>by simp only[DenXF]at h⊢;exact DenXF.mono p h
 |(.list _,d)::r,_,h=>by simp only[DenXF]at h⊢;exact DenXF.mono p h
 |(.tuple _,d)::r,_,h=>by simp only[DenXF]at h⊢;exact DenXF.mono p h
 |(.dict _,d)::r,_,h=>by simp only[DenXF]at h⊢;exact DenXF.mono p h
end
def DenAll.nil:DenAll K H [] []:=rfl
def DenAll.cons{d:aD}(h:Den K H d v)(t:DenAll K H ds vs):DenAll K H (d::ds) (v::vs):=by
   exact⟨v,vs,rfl,h,t⟩
theorem DenAll.paired:∀{ds:List aD}{xs:List V},DenAll K H ds xs->abK (Den K H) ds xs
 |[],_,h=>by simp[DenAll]at h;subst h;exact .nil
 |d::ds,_,h=>by
  let⟨v,vs,e,f,g⟩:=h;subst e;exact .cons f g.paired
theorem jq:∀{ds:List aD}{xs:List V},abK (Den K H) ds xs->DenAll K H ds xs
 |_,_,.nil=>DenAll.nil
 |_,_,.cons f t=>DenAll.cons f (jq t)
def DenAll.length(h:DenAll K H ds xs):ds.length=xs.length:=h.paired.length
theorem Paired.get'{d β:Type}{F:d->β->Prop}:∀{l:List d}{c:List β}{i:Nat}{a:d},abK F l c->l[i]?=some a->∃b,c[i]?=some b/\F a b
 |_,_,_,_,.nil,e=>by simp at e
 |_,_,0,_,.cons f _,e=>by simp at e;subst e;exact⟨_,rfl,f⟩
 |_,_,i+1,a,.cons _ t,e=>by
  let⟨b,h,g⟩:=Paired.get' t ‹_›;exact⟨b,by simpa using h,g⟩
def DenAll.get{d:aD}(h:DenAll K H ds xs)(e:ds[i]?=some d):∃v,xs[i]?=some v/\Den K H d v:=Paired.get' h.paired e
theorem Paired.get2{d β:Type}{F:d->β->Prop}:∀{l:List d}{c:List β}{i:Nat}{b:β},abK F l c->c[i]?=some b->∃a,l[i]?=some a/\F a b
 |_,_,_,_,.nil,e=>by simp at e
 |_,_,0,_,.cons f _,e=>by simp at e;subst e;exact⟨_,rfl,f⟩
 |_,_,i+1,b,.cons _ t,e=>by
  let⟨a,h,g⟩:=Paired.get2 t ‹_›;exact⟨a,by simpa using h,g⟩
def DenAll.get2(h:DenAll K H ds xs)(e:xs[i]?=some v):∃d,ds[i]?=some d/\Den K H d v:=Paired.get2 h.paired e
theorem Paired.append'{e β:Type}{F:e->β->Prop}:∀{a b:List e}{c d:List β},abK F a c->abK F b d->abK F (a++b) (c++d)
 |_,_,_,_,.nil,s=>s
 |_,_,_,_,.cons r t,s=>.cons r (Paired.append' t s)
def DenAll.append{es:List aD}{ys:List V}(h:DenAll K H ds xs)(g:DenAll K H es ys):DenAll K H (ds++es) (xs++ys):=jq (Paired.append' h.paired g.paired)
theorem Paired.take'{b β:Type}{F:b->β->Prop}:∀{a:List b}{l:List β} (n:Nat),abK F a l->abK F (a.take n) (l.take n)
 |_,_,0,_=>.nil
 |_,_,_+1,.nil=>.nil
 |_,_,n+1,.cons r t=>.cons r (Paired.take' n t)
theorem Paired.drop'{b β:Type}{F:b->β->Prop}:∀{a:List b}{l:List β} (n:Nat),abK F a l->abK F (a.drop n) (l.drop n)
 |_,_,0,h=>h
 |_,_,_+1,.nil=>.nil
 |_,_,n+1,.cons _ t=>Paired.drop' n t
def DenAll.take(h:DenAll K H ds xs)(n:Nat):DenAll K H (ds.take n) (xs.take n):=jq (Paired.take' n h.paired)
def DenAll.drop(h:DenAll K H ds xs)(n:Nat):DenAll K H (ds.drop n) (xs.drop n):=jq (Paired.drop' n h.paired)
theorem DenAll.ints:∀ns:List Int,DenAll K H (ns.map .int) (ns.map V.int)
 |[]=>DenAll.nil
 |n::ns=>DenAll.cons rfl (DenAll.ints ns)
end
def fzOf:List (aD×aD)->Option aD
 |[(.none,.list ds)]=>some (.list ds)
 |[(.none,.dict es)]=>some (.dict es)
 |_=>none
mutual
def TAt(K:Kd)(H:Hp)(τ:List (List Nat×Addr))(p:List Nat):aD->V->Prop
 | .list ts,v=>∃a f,τ.lookup p=some a/\v = .ref a/\H a=some (.lst f)/\TAtL K H τ p 0 ts f
 | .dict kvs,v=>(∃d,fzOf kvs=some d/\Den K H d v) \/
   (fzOf kvs=none/\excC kvs=none/\∃a e,τ.lookup p=some a/\v = .ref a/\H a=some (dX a e)/\Br kvs/\TAtD K H τ p 0 kvs e) \/
   (fzOf kvs=none/\excC kvs=none/\∃a e,τ.lookup p=some a/\v = .ref a/\H a=some (.dK e)/\TAtK K H τ p 0 kvs e) \/
   ∃c a dx C f,excC kvs=some c/\τ.lookup p=some a/\v = .ref a/\H a=some (.ins C dx f)/\ClsN K c C/\TAtF K H τ p 0 kvs f
 | .none,v=>Den K H .none v
 | .bool b,v=>Den K H (.bool b) v
 | .int i,v=>Den K H (.int i) v
 | .str x,v=>Den K H (.str x) v
 | .tuple ds,v=>Den K H (.tuple ds) v
def TAtL(K:Kd)(H:Hp)(τ:List (List Nat×Addr))(p:List Nat)(i:Nat):List aD->List V->Prop
 |[],xs=>xs=[]
 |t::ts,xs=>∃v vs,xs=v::vs/\TAt K H τ (p++[i]) t v/\TAtL K H τ p (i+1) ts vs
def TAtD(K:Kd)(H:Hp)(τ:List (List Nat×Addr))(p:List Nat)(i:Nat):List (aD×aD)->List (Int×V×V)->Prop
 |[],es=>es=[]
 |(k,t)::r,es=>∃u v vs,es=(fC K.w k,u,v)::vs/\Den K H k u/\TAt K H τ (p++[i]) t v/\TAtD K H τ p (i+1) r vs
def TAtK(K:Kd)(H:Hp)(τ:List (List Nat×Addr))(p:List Nat)(i:Nat):List (aD×aD)->List (Key×V)->Prop
 |[],es=>es=[]
 |(k,t)::r,es=>∃a v vs,es=(a,v)::vs/\(k=keyD a/\∀x∈vs,x.1≠a)/\TAt K H τ (p++[i]) t v/\TAtK K H τ p (i+1) r vs
def TAtF(K:Kd)(H:Hp)(τ:List (List Nat×Addr))(p:List Nat)(i:Nat):List (aD×aD)->List (Str×V)->Prop
 |[],xs=>xs=[]
 |(k,t)::r,xs=>match k with
  | .str f=>∃v vs,xs=(f,v)::vs/\TAt K H τ (p++[i]) t v/\TAtF K H τ p (i+1) r vs
  | .none=>TAtF K H τ p (i+1) r xs
  |_=>False
end
theorem bO{β b:Type}[BEq β][LawfulBEq β]{l:List (β×b)}{p:β}{a:b}(h:l.lookup p=some a):a∈l.map (·.2):=by
 induction l with
 |nil=>cases h
 |cons x l i=>
  grind
section
variable {K:Kd}{H H':Hp}{τ:List (List Nat×Addr)}
mutual
theorem TAt.mono(f:Pers H H')(e:∀a∈τ.map (·.2),H' a=H a):∀{d:aD}{p:List Nat}{v:V},TAt K H τ p d v->TAt K H' τ p d v
 | .none,_,_,h=>by simp only[TAt]at h⊢;exact h.mono f
 | .bool _,_,_,h=>by simp only[TAt]at h⊢;exact h.mono f
 | .int _,_,_,h=>by simp only[TAt]at h⊢;exact h.mono f
 | .str _,_,_,h=>by simp only[TAt]at h⊢;exact h.mono f
 | .tuple _,_,_,h=>by simp only[TAt]at h⊢;exact h.mono f
 | .list ts,_,_,h=>by
  simp only[TAt]at h⊢;let⟨a,x,b,j,i,g⟩:=h;exact⟨a,x,b,j,(e a (bO b)).trans i,TAtL.mono f e g⟩
 | .dict kvs,_,_,h=>by
  simp only[TAt]at h⊢;rcases h with⟨d,b,h⟩|⟨z,m,a,l,b,j,i,k,g⟩|⟨z,m,a,l,b,j,i,g⟩|⟨c,a,dx,C,x,n,b,j,i,k,g⟩
  .exact .inl ⟨d,b,h.mono f⟩
  .exact .inr (.inl ⟨z,m,a,l,b,j,(e a (bO b)).trans i,k,TAtD.mono f e g⟩)
  .exact .inr (.inr (.inl ⟨z,m,a,l,b,j,(e a (bO b)).trans i,TAtK.mono f e g⟩))
  .exact .inr (.inr <| .inr ⟨c,a,dx,C,x,n,b,j,(e a (bO b)).trans i,k,TAtF.mono f e g⟩)
theorem TAtL.mono(b:Pers H H')(e:∀a∈τ.map (·.2),H' a=H a):∀{ds:List aD}{p:List Nat}{i:Nat}{xs:List V},TAtL K H τ p i ds xs->TAtL K H' τ p i ds xs
 |[],_,_,_,h=>by simpa only[TAtL]using h
 |t::ts,_,_,_,h=>by
  simp only[TAtL]at h⊢;let⟨v,vs,c,d,g⟩:=h;exact⟨v,vs,c,TAt.mono b e d,TAtL.mono b e g⟩
theorem TAtD.mono(b:Pers H H')(e:∀a∈τ.map (·.2),H' a=H a):∀{ds:List (aD×aD)}{p:List Nat}{i:Nat}{xs:List (Int×V×V)},TAtD K H τ p i ds xs->TAtD K H' τ p i ds xs
 |[],_,_,_,h=>by simpa only[TAtD]using h
 |(k,t)::r,_,_,_,h=>by
  simp only[TAtD]at h⊢;let⟨u,v,vs,c,g,f,d⟩:=h;exact⟨u,v,vs,c,g.mono b,TAt.mono b e f,TAtD.mono b e d⟩
theorem TAtK.mono(b:Pers H H')(e:∀a∈τ.map (·.2),H' a=H a):∀{ds:List (aD×aD)}{p:List Nat}{i:Nat}{xs:List (Key×V)},TAtK K H τ p i ds xs->TAtK K H' τ p i ds xs
 |[],_,_,_,h=>by simpa only[TAtK]using h
 |(k,t)::r,_,_,_,h=>by
  simp only[TAtK]at h⊢;let⟨u,v,vs,c,g,f,d⟩:=h;exact⟨u,v,vs,c,g,TAt.mono b e f,TAtK.mono b e d⟩
theorem TAtF.mono(b:Pers H H')(e:∀a∈τ.map (·.2),H' a=H a):∀{ds:List (aD×aD)}{p:List Nat}{i:Nat}{xs:List (Str×V)},TAtF K H τ p i ds xs->TAtF K H' τ p i ds xs
 |[],_,_,_,h=>by simpa only[TAtF]using h
 |(.str f,t)::r,_,_,_,h=>by
  simp only[TAtF]at h⊢;let⟨v,vs,c,j,g⟩:=h;exact⟨v,vs,c,TAt.mono b e j,TAtF.mono b e g⟩
 |(.none,d)::r,_,_,_,h=>by simp only[TAtF]at h⊢;exact TAtF.mono b e h
 |(.bool _,d)::r,_,_,_,h=>by simp only[TAtF]at h
 |(.int _,d)::r,_,_,_,h=>by simp only[TAtF]at h
 |(.list _,d)::r,_,_,_,h=>by simp only[TAtF]at h
 |(.tuple _,d)::r,_,_,_,h=>by simp only[TAtF]at h
 |(.dict _,d)::r,_,_,_,h=>by simp only[TAtF]at h
end
end
abbrev Cx.kd(X:Cx):Kd:=⟨X.K,X.w⟩
section
variable {X:Cx}{pins:List (Addr×Obj)}{σ:St}{H:Hp}{s:Io}
mutual
theorem Den.reads(I:Inv X pins σ H s):∀{d:aD}{v:V}{u:Ad},d.hasDict=false->Den X.kd H d v->RelV v u->∃as,Reads s.heap u d as
 | .none,v,u,_,h,r=>by simp only[Den]at h;subst h;cases r;exact⟨_,.none⟩
 | .bool b,v,u,nd,h,r=>by simp only[Den]at h;subst h;cases r;exact⟨_,.bool b⟩
 | .int i,v,u,nd,h,r=>by simp only[Den]at h;subst h;let⟨t,rfl⟩:=r;exact⟨_,.int i t⟩
 | .str x,v,u,nd,h,r=>by simp only[Den]at h;subst h;let⟨t,rfl⟩:=r;exact⟨_,.str x t⟩
 | .list ds,v,u,nd,h,r=>by
  simp only[Den]at h;let⟨a,p,rfl,f,g⟩:=h;cases r;let⟨l,j,⟨o,n,e,c,_,m⟩,_⟩:=I.list f.sq;let⟨as,k⟩:=DenAll.reads I (by simpa only[abY]using nd) g j;exact⟨_,.list e c m (by simpa using k)⟩
 | .tuple ds,v,u,nd,h,r=>by
  simp only[Den]at h;let⟨a,p,rfl,f,g⟩:=h;cases r;let⟨l,j,⟨o,e,c,n,m⟩,_⟩:=I.tuple f;let⟨as,k⟩:=DenAll.reads I (by simpa only[abY]using nd) g j;exact⟨_,.tuple e c m (by simpa using k)⟩
 | .dict _,v,u,nd,h,r=>by simp[abY]at nd
theorem DenAll.reads(I:Inv X pins σ H s):∀{ds:List aD}{xs:List V}{us:List Ad},acf ds=false->DenAll X.kd H ds xs->Vals xs us->∃as,adF s.heap us ds as
 |[],xs,us,_,h,r=>by simp only[DenAll]at h;subst h;cases r;exact⟨_,.nil⟩
 | d::ds,xs,us,nd,h,r=>by
  simp only[acf,aen]at nd;simp only[DenAll]at h;let⟨v,vs,rfl,f,g⟩:=h
  cases r with
  |cons r1 a=>
   let⟨a1,b⟩:=Den.reads I nd.1 f r1;let⟨a2,c⟩:=DenAll.reads I nd.2 g a;exact⟨_,.cons b c⟩
end
theorem Inv.freeze(I:Inv X pins σ H s)(h:H a=some (.lst xs)):∃o,Inv X pins σ (upd H a (.frz o (.lst xs))) s:=by
 let⟨f,i,n,r,e⟩:=I.hok a _ h;refine⟨{cls:=.type "list",data:=.seq i.toArray n},I.un (h':=s.heap) (t':=s.toks) ⟨λb d q _ _ _=>q,λb d q _ _ _=>⟨d.slots,q⟩,λb d q z _=>?_,λb d q _=>⟨d,q⟩,λb y q=>?_,λb d u q=>?_,λb p q=>⟨#[],?_⟩⟩ λb d q=>?_⟩
 .rw[aB (abO (bv h z))];exact z
 .rw[aB (vj q h (by simp))];exact q
 .rw[aB (vj q h (by intro z;cases z))];exact q
 .rw[aB (vj q h (by simp)),q];simp
 .by_cases hb:b=a
  .subst hb;rw[aE]at q;cases q;exact⟨e,f,i,n,r,e⟩
  .rw[aB hb]at q;exact(I.hok b d q).stay (λ_ _ _ z=>z) (λc z=>by rw[aB (vj z h (by simp))];exact z) λc y z=>by rw[aB (vj z h (by simp))];exact z
end
def Ig:Expr->Bool
 | .Starred ..=>true
 |_=>false
def aI{es:List Expr}(h:Ig e=false):aac (e::es) env=(false,eval e env)::aac es env:=by
 cases e<;>first|rfl|cases h
def fh(h:Ig e=false):aac [e] env=[(false,eval e env)]:=aI h
inductive R where
 |imm (d:aD)|obj (k:Nat)|new (ds:List aD)|at (k:Nat) (p:List Nat)|newT (t:aD)
structure MSt where
 vs:List (Option R)
 os:List (List aD)
 np:Nat
structure Kx extends Kd where
 eb:EB
instance:Coe Kx Kd:=⟨Kx.toKd⟩
abbrev Cx.kx(X:Cx):Kx:=⟨X.kd,X.eb⟩
abbrev Al:=List Ao
def Ao.ads:Ao->List Addr
 | .L a=>[a]
 | .T t=>t.map (·.2)
def ads(a:Al):List Addr:=a.flatMap Ao.ads
def jT(a β:Al):ads (a++β)=ads a++ads β:=by unfold ads;rw[adu]
def Mu:HO->Bool
 | .tup _=>false
 | .frz _ _=>false
 |_=>true
def OwnAt(K:Kd)(H:Hp):Ao->List aD->Prop
 | .L a,ds=>∃x,H a=some (.lst x)/\DenAll K H ds x
 | .T τ,ds=>(∃t v,ds=[t]/\TAt K H τ [] t v/\∃a,τ.lookup []=some a/\v = .ref a)/\∀a∈τ.map (·.2),∃o,H a=some o/\Mu o=true
theorem OwnAt.mem(h:OwnAt K H ao ds)(c:a∈ao.ads):∃o,H a=some o/\Mu o=true:=by
 cases ao with
 |L b=>cases aaa.mp c;let⟨x,e,_⟩:=h;exact⟨_,e,rfl⟩
 |T d=>exact h.2 a c
theorem OwnAt.mono(h:OwnAt K H ao ds)(p:Pers H H')(e:∀a∈ao.ads,H' a=H a):OwnAt K H' ao ds:=by
 cases ao with
 |L b=>
  let⟨x,q,g⟩:=h;exact⟨x,(e b (aaa.mpr rfl)).trans q,g.mono p⟩
 |T f=>
  let⟨⟨t,v,d,g,r⟩,m⟩:=h;exact⟨⟨t,v,d,g.mono p e,r⟩,λa c=>by rw[e a c];exact m a c⟩
def RelS(K:Kd)(c:Al)(H:Hp):R->V->Prop
 | .imm d,v=>Den K H d v
 | .obj k,v=>∃a,c[k]?=some (.L a)/\v = .ref a
 | .at k p,v=>∃b a,c[k]?=some (.T b)/\b.lookup p=some a/\v = .ref a
 | .new _,_=>False
 | .newT _,_=>False
def RelR(K:Kd)(f:Al)(e H:Hp):R->V->Prop
 | .imm d,v=>Den K H d v
 | .obj k,v=>∃a,f[k]?=some (.L a)/\v = .ref a
 | .at k p,v=>∃c a,f[k]?=some (.T c)/\c.lookup p=some a/\v = .ref a
 | .new ds,v=>∃a x,v = .ref a/\e a=none/\H a=some (.lst x)/\DenAll K H ds x
 | .newT t,v=>∃c a,v = .ref a/\c.lookup []=some a/\(c.map (·.2)).Nodup/\(∀b∈c.map (·.2),e b=none)/\OwnAt K H (.T c) [t]
def Frm(c:Al)(H a:Hp):Prop:=∀b o,H b=some o->b∉ads c->a b=some o
theorem Frm.refl(a:Al)(H:Hp):Frm a H H:=λ_ _ e _=>e
theorem Frm.trans(a:Frm α H H1)(b:Frm α H1 H2):Frm α H H2:=λc o e n=>b c o (a c o e n) n
structure Ext(np:Nat)(α:Al)(H:Hp)(α':Al)(H':Hp):Prop where
 pre:α'.take np=α.take np
 frm:Frm α H H'
 new:∀a∈ads α',a∈ads α\/H a=none
 old:∀a∈ads α,∃o,H' a=some o
theorem Ext.trans{np:Nat}{c:Al}(x:Ext np α H α1 H1)(y:Ext np α1 H1 c H2):Ext np α H c H2:=by
 have out:∀b o,H b=some o->b∉ads α->b∉ads α1:=λb o e n f=>by
  rcases x.new b f with z|z
  .exact n z
  .grind
 refine⟨y.pre.trans x.pre,λb o e n=>y.frm b o (x.frm b o e n) (out b o e n),λa d=>?_,λa d=>?_⟩
 .rcases y.new a d with z|z
  .exact x.new a z
  .cases q:H a with
   |none=>exact .inr rfl
   | some o=>
    by_cases h:a∈ads α
    .exact .inl h
    .have:=x.frm a o q h
     grind
 .obtain⟨o,e⟩:=x.old a d
  by_cases h:a∈ads α1
  .exact y.old a h
  .exact⟨o,y.frm a o e h⟩
theorem Ext.nil{np:Nat}(x:Ext np α H α1 H1)(h:H1 a=none):H a=none:=by
 cases q:H a with
 |none=>rfl
 | some o=>
  by_cases b:a∈ads α
  .obtain⟨o',e⟩:=x.old a b
   grind
  .have:=x.frm a o q b
   grind
def Ext.less{np n1:Nat}(x:Ext n1 α H α' H')(h:np≤n1):Ext np α H α' H':=by
 refine⟨?_,x.frm,x.new,x.old⟩;have:=congrArg (List.take np) x.pre;rw[List.take_take,List.take_take,Nat.min_eq_left h]at this;omega
structure Rel(K:Kx)(α:Al)(m:MSt)(σ:St)(H:Hp):Prop where
 nd:(ads α).Nodup
 len:α.length=m.os.length
 own:∀(k:Nat) (ao:Ao) (ds:List aD),α[k]?=some ao->m.os[k]?=some ds->OwnAt K H ao ds
 vlen:σ.length=m.vs.length
 var:∀(i:Nat) (r:R),m.vs[i]?=some (some r)->∃v,σ[i]?=some (some v)/\RelS K α H r v
 npl:m.np≤α.length
 ebl:K.eb.np≤m.np
 ebx:Ext K.eb.np K.eb.be K.eb.H α H
section
variable {K:Kx}{α:Al}{m m':MSt}{σ:St}{H H0 H1 H':Hp}{r:R}{v:V}
theorem RelS.rr{K:Kd}(h:RelS K α H r v):RelR K α Hb H r v:=by
 cases r with
 |imm d=>exact h
 |obj k=>exact h
 | «at» k p=>exact h
 |new ds=>exact h.elim
 |newT t=>exact h.elim
theorem Rel.mem(R:Rel K α m σ H)(g:a∈ads α):∃o,H a=some o/\Mu o=true:=by
 let⟨d,h,f⟩:=ab6.mp g;let⟨k,c,e⟩:=abT.mp h;have h:α[k]?=some d:=by rw[lD c,e]
 have b:m.os[k]?=some (m.os[k]'(by rw[<-R.len];exact c)):=lD _;exact(R.own k d _ h b).mem f
theorem Rel.out(R:Rel K α m σ H)(h:H a=none):a∉ads α:=λb=>by
 obtain _:=R.mem b
 grind
theorem Rel.pers(R:Rel K α m σ H)(F:Frm α H H'):Pers H H' where
 tups:=λb x e=>F b _ e λh=>by let⟨y,q,z⟩:=R.mem h;rw[e]at q;cases q;cases z
 frzs:=λb o u e=>F b _ e λh=>by let⟨y,q,z⟩:=R.mem h;rw[e]at q;cases q;cases z
theorem Ext.of{np:Nat}(R:Rel K α m σ H')(F:Frm α H H'):Ext np α H α H':=
 ⟨rfl,F,λ_ h=>.inl h,λa b=>let ⟨xs,q,_⟩:=R.mem b;⟨_,q⟩⟩
theorem OwnAt.keep{K:Kd}(h:OwnAt K H1 ao ds)(p:Pers H1 H)(F:Frm α H1 H)(n:∀b∈ao.ads,b∉ads α):OwnAt K H ao ds:=
 h.mono p λa c=>by
  let⟨o,e,_⟩:=h.mem c;rw[e];exact F a o e (n a c)
theorem RelR.keep(c:Rel K α m σ H0)(R:Rel K α m' σ H1)(F:Frm α H1 H)(h:RelR K α H0 H1 r v):RelR K α H0 H r v:=by
 cases r with
 |imm d=>exact Den.mono (R.pers F) h
 |obj k=>exact h
 | «at» k p=>exact h
 |new ds=>
  let⟨a,x,e,n,q,g⟩:=h;exact⟨a,x,e,n,F a _ q (c.out n),g.mono (R.pers F)⟩
 |newT t=>
  let⟨i,a,e,j,nd,n,g⟩:=h;exact⟨i,a,e,j,nd,n,g.keep (R.pers F) F λb f=>c.out (n b f)⟩
theorem RelR.base(R:Rel K α m σ H)(F:Frm α H0 H)(h:RelR K α H H' r v):RelR K α H0 H' r v:=by
 have old:∀a,H a=none->H0 a=none:=λa n=>by
  cases z:H0 a with
  |none=>rfl
  |some o=>
   have:=F a o z (R.out n)
   grind
 cases r with
 |imm d=>exact h
 |obj k=>exact h
 | «at» k p=>exact h
 |new ds=>
  let⟨a,x,e,n,q,g⟩:=h;exact⟨a,x,e,old a n,q,g⟩
 |newT t=>
  let⟨f,a,e,i,nd,n,g⟩:=h;exact⟨f,a,e,i,nd,λb c=>old b (n b c),g⟩
def chD:aD->Nat->Option aD
 | .list ts,i=>ts[i]?
 | .dict kvs,i=>match kvs[i]? with
  |some (.none,_)=>none
  |some (_,t)=>some t
  |none=>none
 |_,_=>none
def getT:aD->List Nat->Option aD
 |t,[]=>some t
 |t,i::p=>(chD t i).bind λa=>getT a p
def iY:aD->Option aD
 | .list _=>none
 | .dict k=>fzOf k
 |d=>some d
def du:List aD->Option (List aD)
 |[]=>some []
 |t::ts=>match iY t,du ts with|some d,some ds=>some (d::ds)|_,_=>none
def ndL(m:MSt)(k:Nat)(p:List Nat):Option (List aD):=match m.os[k]? with
 |some [t]=>match getT t p with
  |some (.list ts)=>du ts
  |_=>none
 |_=>none
theorem jp{K:Kd}{p:List Nat}{t d:aD}(h:TAt K H τ p t v)(e:iY t=some d):Den K H d v:=by
 cases t with
 |list ts=>cases e
 | dict k=>
  have b:fzOf k=some d:=e;rcases h with _|⟨z,_⟩|⟨z,_⟩|⟨c,a,dx,C,x,f,_⟩
  .simp_all
  .simp_all
  .rw[b]at z;cases z
  .exfalso;unfold fzOf at b;unfold excC at f
   split at b<;>contradiction
 |none=>cases e;simpa only[TAt]using h
 |bool _=>cases e;simpa only[TAt]using h
 |int _=>cases e;simpa only[TAt]using h
 |str _=>cases e;simpa only[TAt]using h
 |tuple _=>cases e;simpa only[TAt]using h
theorem jH{K:Kd}{τ:List (List Nat×Addr)}{p:List Nat}:∀{ts ds:List aD}{i:Nat}{xs:List V},TAtL K H τ p i ts xs->du ts=some ds->DenAll K H ds xs
 |[],ds,i,xs,h,e=>by
  cases e;subst h;rfl
 | t::ts,ds,i,xs,h,e=>by
  let⟨v,vs,rfl,b,g⟩:=h;simp[du]at e
  cases q1:iY t with
  |none=>rw[q1]at e;cases e
  | some d=>
   cases q2:du ts with
   |none=>rw[q1,q2]at e;cases e
   |some a=>
    rw[q1,q2]at e;cases e;exact DenAll.cons (jp b q1) (jH g q2)
theorem TAtL.get{K:Kd}{τ:List (List Nat×Addr)}{p:List Nat}:∀{ts:List aD}{i j:Nat}{xs:List V}{t:aD},TAtL K H τ p i ts xs->ts[j]?=some t->∃v,xs[j]?=some v/\TAt K H τ (p++[i+j]) t v
 |[],_,_,_,_,_,e=>by simp at e
 |t::ts,i,0,xs,t',h,e=>by
  let⟨v,vs,rfl,d,_⟩:=h;simp at e;subst e;exact⟨v,rfl,d⟩
 |t::ts,i,j+1,xs,t',h,e=>by
  let⟨v,vs,rfl,_,g⟩:=h;let⟨b,a,c⟩:=TAtL.get g ‹_›;exact⟨b,by simpa using a,by rw[show i+(j+1)=i+1+j by omega];exact c⟩
theorem TAtD.get{K:Kd}{τ:List (List Nat×Addr)}{p:List Nat}:∀{ts:List (aD×aD)}{i j:Nat}{xs:List (Int×V×V)}{k t:aD},TAtD K H τ p i ts xs->ts[j]?=some (k,t)->∃u v,xs[j]?=some (fC K.w k,u,v)/\Den K H k u/\TAt K H τ (p++[i+j]) t v
 |[],_,_,_,_,_,_,e=>by simp at e
 |(k,t)::ts,i,0,xs,k',t',h,e=>by
  let⟨u,v,vs,rfl,g,n,_⟩:=h;simp at e;let⟨rfl,rfl⟩:=e;exact⟨u,v,rfl,g,n⟩
 |(k,t)::ts,i,j+1,xs,k',t',h,e=>by
  let⟨u,v,vs,rfl,_,_,l⟩:=h;let⟨d,a,b,f,c⟩:=TAtD.get l ‹_›;exact⟨d,a,by simpa using b,f,by rw[show i+(j+1)=i+1+j by omega];exact c⟩
theorem TAtK.get{K:Kd}{τ:List (List Nat×Addr)}{p:List Nat}:∀{ts:List (aD×aD)}{i j:Nat}{xs:List (Key×V)}{k t:aD},TAtK K H τ p i ts xs->ts[j]?=some (k,t)->∃v,TAt K H τ (p++[i+j]) t v
 |[],_,_,_,_,_,_,e=>by simp at e
 |(k,t)::ts,i,0,xs,k',t',h,e=>by
  let⟨u,v,vs,rfl,d,g,_⟩:=h;simp at e;let⟨rfl,rfl⟩:=e;exact⟨v,g⟩
 |(k,t)::ts,i,j+1,xs,k',t',h,e=>by
  let⟨u,v,vs,rfl,_,_,c⟩:=h;let⟨a,b⟩:=TAtK.get c ‹_›;exact⟨a,by rw[show i+_=i+1+j by omega];exact b⟩
theorem TAtF.get{K:Kd}{τ:List (List Nat×Addr)}{p:List Nat}:∀{ts:List (aD×aD)}{i j:Nat}{xs:List (Str×V)}{f:Str}{t:aD},TAtF K H τ p i ts xs->ts[j]?=some (.str f,t)->∃v,(f,v)∈xs/\TAt K H τ (p++[i+j]) t v
 |[],_,_,_,_,_,_,e=>by simp at e
 |(k,t)::ts,i,0,xs,f,t',h,e=>by
  simp_all
  let⟨v,vs,rfl,d,_⟩:=h;exact⟨v,aae,d⟩
 | (k,t)::ts,i,j+1,xs,f,t',h,e=>by
  have go:∀{y:List (Str×V)},TAtF K H τ p (i+1) ts y->∃v,(f,v)∈y/\TAt K H τ (p++[i+(j+1)]) t' v:=λ{y} g=>by
   let⟨b,a,c⟩:=TAtF.get (j:=j) g (by simpa using e);exact⟨b,a,by rw[show i+(j+1)=i+1+j by omega];exact c⟩
  cases k with
  |str l=>
   simp only[TAtF]at h;let⟨v,vs,rfl,_,g⟩:=h;let⟨b,a,c⟩:=go g;exact⟨b,aaf _ a,c⟩
  |none=>simp only[TAtF]at h;exact go h
  |bool _=>simp only[TAtF]at h
  |int _=>simp only[TAtF]at h
  |list _=>simp only[TAtF]at h
  |tuple _=>simp only[TAtF]at h
  |dict _=>simp only[TAtF]at h
theorem TAtF.key{K:Kd}{p:List Nat}:∀{ts:List (aD×aD)}{i:Nat}{xs:List (Str×V)}{k t:aD},TAtF K H τ p i ts xs->(k,t)∈ts->k≠.none->∃f,k = .str f
 |[],_,_,_,_,_,e,_=>by simp at e
 | (k,t)::ts,i,xs,k',t',h,e,kn=>by
  cases k with
  |str a=>
   let⟨v,vs,rfl,_,g⟩:=h;rcases aah.mp e with e|e
   .grind
   .exact g.key e kn
  |none=>
   simp only[TAtF]at h;rcases aah.mp e with e|e
   .grind
   .exact h.key e kn
  |bool _=>simp[TAtF]at h
  |int _=>simp[TAtF]at h
  |list _=>simp only[TAtF]at h
  |tuple _=>simp only[TAtF]at h
  |dict _=>simp[TAtF]at h
theorem TAt.get{K:Kd}{τ:List (List Nat×Addr)}:∀{q p:List Nat}{t t':aD}{v:V},TAt K H τ p t v->getT t q=some t'->∃v',TAt K H τ (p++q) t' v'
 |[],p,t,t',v,h,e=>by cases e;exact⟨v,by rw[aaY];exact h⟩
 | i::q,p,t,t',v,h,e=>by
  simp only[getT]at e
  cases z:chD t i with
  |none=>rw[z]at e;cases e
  | some w=>
   rw[z]at e;have E:getT w q=some t':=e;have step:∃l,TAt K H τ (p++[i]) w l:=by
    cases t with
    |list ts=>
     simp only[TAt]at h;let⟨a,G,_,_,_,g⟩:=h;let⟨l,_,b⟩:=g.get (j:=i) z;exact⟨l,by rw[acm]at b;exact b⟩
    | dict s=>
     simp only[chD]at z
     cases zi:s[i]? with
     |none=>rw[zi]at z;cases z
     | some B=>
      let⟨k,F⟩:=B;rw[zi]at z;have n:k≠.none:=λq=>by subst q;cases z
      have A:F=w:=by
       split at z<;>simp_all
      subst A;simp only[TAt]at h;rcases h with⟨d,o,_⟩|⟨_,_,a,D,_,_,_,_,g⟩|⟨_,_,a,D,_,_,_,g⟩|⟨c,a,dx,C,G,I,_,_,_,_,g⟩
      .exfalso;unfold fzOf at o
       split at o
       .cases i<;>simp at zi;exact n zi.1.symm
       .cases i<;>simp at zi;exact n zi.1.symm
       .cases o
      .obtain⟨u,l,_,_,b⟩:=g.get (j:=i) zi;exact⟨l,by rw[acm]at b;exact b⟩
      .obtain⟨l,b⟩:=g.get (j:=i) zi;exact⟨l,by rw[acm]at b;exact b⟩
      .obtain⟨f,rfl⟩:=g.key (GT zi) n;let⟨l,_,b⟩:=g.get (j:=i) zi;exact⟨l,by rw[acm]at b;exact b⟩
    |none=>cases z
    |bool _=>cases z
    |int _=>cases z
    |str _=>cases z
    |tuple _=>cases z
   let⟨l,y⟩:=step;let⟨v',x⟩:=TAt.get y E;exact⟨v',by rw[aa6]at x;exact x⟩
def lsOf(m:MSt):R->Option (List aD)
 | .imm (.list ds)=>some ds
 | .obj k=>m.os[k]?
 | .new ds=>some ds
 | .at k p=>ndL m k p
 |_=>none
mutual
def eraT:aD->Option aD
 | .list ts=>(eraL ts).map .list
 | .dict k=>fzOf k
 | .none=>some .none
 | .bool b=>some (.bool b)
 | .int i=>some (.int i)
 | .str x=>some (.str x)
 | .tuple ds=>some (.tuple ds)
def eraL:List aD->Option (List aD)
 |[]=>some []
 |t::ts=>match eraT t,eraL ts with|some d,some ds=>some (d::ds)|_,_=>none
end
def ndT(m:MSt)(k:Nat)(p:List Nat):Option aD:=match m.os[k]? with
 |some [t]=>getT t p
 |_=>none
def asD(m:MSt):R->Option aD
 | .imm d=>some d
 | .obj k=>(m.os[k]?).map .list
 | .new ds=>some (.list ds)
 | .at k p=>match ndT m k p with
  |some (.list ts)=>(eraL ts).map .list
  |_=>none
 | .newT _=>none
theorem RelR.node(R:Rel K α m σ H){k:Nat}{p:List Nat}(h:RelR K α H0 H (.at k p) v){t:aD}(e:ndT m k p=some t):∃τ a v',α[k]?=some (.T τ)/\τ.lookup p=some a/\v = .ref a/\TAt K H τ p t v':=by
 let⟨τ,a,b,c,d⟩:=h;unfold ndT at e
 split at e
 .rename_i t0 e0;let⟨⟨j,l,f,g,_⟩,_⟩:=R.own k _ _ b e0;cases f;let⟨v',i⟩:=g.get e;exact⟨τ,a,v',b,c,d,by simpa using i⟩
 .cases e
theorem RelR.list(R:Rel K α m σ H)(h:RelR K α H0 H r v)(e:lsOf m r=some ds):∃a xs,v = .ref a/\SqL K H a xs/\DenAll K H ds xs:=by
 cases r with
 | imm d=>
  cases d with
  |list j=>
   cases e;have l:Den K H (.list ds) v:=h;let⟨a,xs,b,f,g⟩:=l;exact⟨a,xs,b,f.sq,g⟩
  |none=>cases e
  |bool _=>cases e
  |int _=>cases e
  |str _=>cases e
  |tuple _=>cases e
  |dict _=>cases e
 |obj k=>
  let⟨a,b,rfl⟩:=h;let⟨xs,q,g⟩:=R.own k _ ds b e;exact⟨a,xs,rfl,SqL.of q,g⟩
 |new j=>
  cases e;let⟨a,xs,b,n,q,g⟩:=h;exact⟨a,xs,b,SqL.of q,g⟩
 | «at» k p=>
  have c:ndL m k p=some ds:=e;let⟨ts,b,s⟩:∃ts,ndT m k p=some (.list ts)/\du ts=some ds:=by
   unfold ndL at c;unfold ndT
   split at c
   .split at c
    .rename_i h0 _ ts h1;exact⟨ts,h1,c⟩
    .cases c
   .cases c
  let⟨w,a,t,_,o,rfl,g⟩:=RelR.node R h b;simp only[TAt]at g;let⟨u,xs,i,_,q,g⟩:=g;rw[o]at i;cases i;exact⟨a,xs,rfl,SqL.of q,jH g s⟩
 |newT _=>cases e
end
section
variable {X:Cx}{pins:List (Addr×Obj)}{σ:St}{H:Hp}{s:Io}{τ:List (List Nat×Addr)}
mutual
theorem TAt.reads(I:Inv X pins σ H s):∀{t d:aD}{p:List Nat}{v:V}{u:Ad},eraT t=some d->d.hasDict=false->TAt X.kd H τ p t v->RelV v u->∃as,Reads s.heap u d as
 | .none,d,p,v,u,e,nd,h,r=>by simp only[eraT]at e;cases e;simp only[TAt]at h;exact h.reads I nd r
 | .bool b,d,p,v,u,e,nd,h,r=>by simp only[eraT]at e;cases e;simp only[TAt]at h;exact h.reads I nd r
 | .int i,d,p,v,u,e,nd,h,r=>by simp only[eraT]at e;cases e;simp only[TAt]at h;exact h.reads I nd r
 | .str x,d,p,v,u,e,nd,h,r=>by simp only[eraT]at e;cases e;simp only[TAt]at h;exact h.reads I nd r
 | .tuple ds,d,p,v,u,e,nd,h,r=>by simp only[eraT]at e;cases e;simp only[TAt]at h;exact h.reads I nd r
 | .dict kvs,d,p,v,u,e,nd,h,r=>by
  simp only[eraT]at e;exact(jp h (show iY (.dict kvs)=some d from e)).reads I nd r
 | .list ts,d,p,v,u,e,nd,h,r=>by
  simp only[eraT]at e
  cases q:eraL ts with
  |none=>rw[q]at e;cases e
  |some ds=>
   rw[q]at e;cases e;simp only[TAt]at h;let⟨a,w,_,rfl,f,g⟩:=h;cases r;let⟨j,k,⟨o,n,e,c,_,l⟩,_⟩:=I.list (SqL.of f);let⟨as,m⟩:=TAtL.reads I q (by simpa only[abY]using nd) g k;exact⟨_,.list e c l (by simpa using m)⟩
theorem TAtL.reads(I:Inv X pins σ H s):∀{ts ds:List aD}{p:List Nat}{i:Nat}{xs:List V}{us:List Ad},eraL ts=some ds->acf ds=false->TAtL X.kd H τ p i ts xs->Vals xs us->∃as,adF s.heap us ds as
 |[],ds,p,i,xs,us,e,nd,h,r=>by
  simp only[eraL]at e;cases e;simp only[TAtL]at h;subst h
  cases r;exact⟨_,.nil⟩
 | t::ts,ds,p,i,xs,us,e,nd,h,r=>by
  simp only[eraL]at e
  cases q1:eraT t with
  |none=>rw[q1]at e;cases e
  | some d=>
   cases q2:eraL ts with
   |none=>rw[q1,q2]at e;cases e
   | some c=>
    rw[q1,q2]at e;cases e;simp only[acf,aen]at nd;simp only[TAtL]at h;let⟨v,vs,rfl,f,g⟩:=h
    cases r with
    |cons r1 a=>
     let⟨a1,b⟩:=TAt.reads I q1 nd.1 f r1;let⟨a2,j⟩:=TAtL.reads I q2 nd.2 g a;exact⟨_,.cons b j⟩
end
end
theorem RelR.reads{s:Io}{m:MSt}{u:Ad}{d:aD}(I:Inv X pins σ H s)(R:Rel X.kx α m σ' H)(h:RelR X.kd α H0 H r v)(j:RelV v u)(e:asD m r=some d)(nd:d.hasDict=false):∃as,Reads s.heap u d as:=by
 have t:∀{ds:List aD},lsOf m r=some ds->acf ds=false->∃as,Reads s.heap u (.list ds) as:=λ{ds} e nd=>by
  let⟨a,A,rfl,f,g⟩:=RelR.list R h e;cases j;let⟨x,j,⟨o,n,e,c,_,B⟩,_⟩:=I.list f;let⟨as,w⟩:=DenAll.reads I nd g j;exact⟨_,.list e c B (by simpa using w)⟩
 cases r with
 |imm F=>cases e;exact Den.reads I nd h j
 | obj k=>
  cases q:m.os[k]? with
  |none=>simp[asD,q]at e
  |some ds=>
   simp[asD,q]at e;subst e;exact t q ‹_›
 |new ds=>cases e;exact t rfl (by simpa only[abY]using nd)
 | «at» k p=>
  let⟨ts,ds,q,i,rfl⟩:∃ts ds,ndT m k p=some (.list ts)/\eraL ts=some ds/\d = .list ds:=by
   unfold asD at e;simp only at e
   split at e
   .rename_i ts q
    cases i:eraL ts with
    |none=>rw[i]at e;cases e
    |some ds=>rw[i]at e;cases e;exact⟨ts,ds,q,i,rfl⟩
   .cases e
  let⟨E,a,C,_,z,rfl,g⟩:=RelR.node R h q;have l:=g;simp only[TAt]at l;let⟨D,A,b,y,_⟩:=l;rw[z]at b;cases b;subst y;exact TAt.reads I (by simp only[eraT,i,Option.map]) nd g j
 |newT _=>cases e
abbrev WE:=MSt->(R->MSt->Prop)->Prop
abbrev WT:=MSt->(Bool->MSt->Prop)->Prop
abbrev WA:=MSt->(List R->MSt->Prop)->Prop
def tM(K:Kx)(w:WE):TE:=λd H Q=>∃b m e,Rel K b m d H/\w m e/\∀r c v a,e r c->c.np=m.np->Rel K b c d a->RelR K b H a r v->Frm b H a->Q v a
def tMT(K:Kx)(w:WT):TT:=λe H Q=>∃d m f,Rel K d m e H/\w m f/\∀b c a,f b c->c.np=m.np->Rel K d c e a->Frm d H a->Q b a
inductive RelRs(K:Kd)(α:Al)(Hb H:Hp):List R->List V->Prop where
 |nil:RelRs K α Hb H [] []
 |cons {r:R}{rs:List R}{v:V}{vs:List V}:RelR K α Hb H r v->RelRs K α Hb H rs vs->RelRs K α Hb H (r::rs) (v::vs)
def tMA(K:Kx)(w:WA):TA:=λd H Q=>∃b m e,Rel K b m d H/\w m e/\∀rs c vs a,e rs c->c.np=m.np->Rel K b c d a->RelRs K b H a rs vs->Frm b H a->Q vs a
theorem PE.wk{t t':TE}(h:PE X e t)(k:∀a H Q,t' a H Q->t a H Q):PE X e t':=λp s a H Q I q=>h p s a H Q I (k _ _ _ q)
theorem PT.wk{t t':TT}(h:PT X e t)(k:∀a H Q,t' a H Q->t a H Q):PT X e t':=λp s a H Q I q=>h p s a H Q I (k _ _ _ q)
theorem PW.wk{t t':TT}(h:PW X e t)(k:∀a H Q,t' a H Q->t a H Q):PW X e t':=λw p s a H Q I q=>h w p s a H Q I (k _ _ _ q)
theorem PA.wk{e:List Expr}{t t':TA}(h:PA X e t)(k:∀a H Q,t' a H Q->t a H Q):PA X e t':=λb p s a H Q I q=>h b p s a H Q I (k _ _ _ q)
theorem PS.wk{e:Stmt}{t t':TS}(h:PS X e t)(k:∀D a H,t' D a H->t D a H):PS X e t':=λp s a H D I q=>h p s a H D I (k _ _ _ q)
theorem PSs.wk{e:List Stmt}{t t':TS}(h:PSs X e t)(k:∀D a H,t' D a H->t D a H):PSs X e t':=λp s a H D I q=>h p s a H D I (k _ _ _ q)
abbrev ME(X:Cx)(e:Expr)(w:WE):Prop:=PE X e (tM X.kx w)
abbrev MT(X:Cx)(e:Expr)(w:WT):Prop:=PT X e (tMT X.kx w)
abbrev MW(X:Cx)(e:Expr)(w:WT):Prop:=PW X e (tMT X.kx w)
abbrev MA(X:Cx)(es:List Expr)(w:WA):Prop:=PA X es (tMA X.kx w)
section
variable {X:Cx}{a b c:Expr}{es:List Expr}{f g l:WE}{pos:Pos}
def wVar(i:Nat):WE:=λm K=>∃r,m.vs[i]?=some (some r)/\K r m
abbrev wC(d:aD):WE:=λm K=>K (.imm d) m
theorem Ui{t:TE}{w:WE}(h:PE X a t)(k:∀d m e H K Q,Rel X.kx d m e H->w m K->(∀r j v i,K r j->j.np=m.np->Rel X.kx d j e i->RelR X.kx d H i r v->Frm d H i->Q v i)->t e H Q):ME X a w:=
 h.wk<|by intro e H Q ⟨d,m,K,R,o,n⟩;exact k d m e H K Q R o n
theorem me_c{d:aD}(h:PE X a (tC v))(hd:∀(K:Kd) H,Den K H d v):ME X a (wC d):=
 Ui h λk m j H n Q R i e=>e _ m v H i rfl R (hd _ _) (Frm.refl _ _)
def OT{i j pos}:ME X (.Constant (.int i) j pos) (wC (.int i)):=me_c OX λ_ _=>by simp[Den]
def VZ{i j pos}:ME X (.Constant (.bool i) j pos) (wC (.bool i)):=me_c UH λ_ _=>by simp[Den]
def Sv{i j pos}:ME X (.Constant (.str i) j pos) (wC (.str i)):=me_c PC λ_ _=>by simp[Den]
def R9{j pos}:ME X (.Constant .none j pos) (wC .none):=me_c Rg λ_ _=>by simp[Den]
theorem QO(h:PE X a (tVar i)):ME X a (wVar i):=
 Ui h λq m p H K Q R n d=>by
  let⟨r,e,k⟩:=n;let⟨v,j,o⟩:=R.var i r e;exact⟨v,j,d r m v H k rfl R o.rr (Frm.refl _ _)⟩
def mv(i:Nat){pos:Pos}(e:X.N[i]?=some x:=by rfl)(d:Vis X.env.scope x:=by first|exact afc rfl|exact adv (afc rfl)|exact adv (adv rfl))(hd:(x==("__debug__" : Str))=false:=by decide)(h:(x==("__classdict__" : Str))=false:=by decide):ME X (.Name x pos) (wVar i):=QO (Jb e d hd h)
abbrev WO:=R->R->MSt->(R->Prop)->Prop
def rM(K:Kx)(o:WO):R2:=λx y H Q=>∃d m h k n r1 i j,Rel K d m h H/\RelR K d k H r1 x/\RelR K d n H i y/\o r1 i m j/\∀r v e,j r->Rel K d m h e->RelR K d H e r v->Frm d H e->Q v e
abbrev wBin(o:WO)(f g:WE):WE:=λm K=>f m λr1 m1=>g m1 λd m2=>o r1 d m2 λr=>K r m2
theorem sD(h:tM X.kx (wBin o f g) σ H Q):tOp (rM X.kx o) (tM X.kx f) (tM X.kx g) σ H Q:=by
 let⟨e,m,K,s,z,n⟩:=h;refine⟨e,m,_,s,z,λr1 m1 x w k1 n1 R j t=>⟨e,m1,_,R,k1,λu m2 y B k2 n2 d i q=>?_⟩⟩;refine⟨e,m2,σ,H,w,r1,u,_,d,j.keep s R q,i,k2,λr v A k p rr F=>?_⟩;exact n r m2 v A k (n2.trans n1) p (rr.base d (t.trans q)) ((t.trans q).trans F)
def Rf{op:aeJ}(e:OpR X (acd op) (rM X.kx o))(i:ME X a f)(d:ME X b g):ME X (.BinOp a op b pos) (wBin o f g):=(VF e i d).wk λ_ _ _ h=>sD h
def Ph(i:OpR X (aa8 op) (rM X.kx o))(j:ME X a f)(e:ME X b g)(d:acJ op b=false):ME X (.Compare a [op] [b] pos) (wBin o f g):=(LR i j e d).wk λ_ _ _ h=>sD h
abbrev onBl(P:Bool->Prop):R->Prop
 | .imm (.bool k)=>P k
 |_=>False
theorem xq{K:Kx}{P:Bool->Prop}(rr:RelR K α Hb H r v)(h:onBl P r):∃b,r = .imm (.bool b)/\v = .bl b/\P b:=by
 cases r with
 |obj _=>exact h.elim
 |new _=>exact h.elim
 | «at» _ _=>exact h.elim
 |newT _=>exact h.elim
 | imm d=>
  cases d with
  |bool b=>
   have e:=rr;exact⟨b,rfl,e,h⟩
  |none=>exact h.elim
  |int _=>exact h.elim
  |str _=>exact h.elim
  |list _=>exact h.elim
  |tuple _=>exact h.elim
  |dict _=>exact h.elim
abbrev zy(w:WE):WT:=λm K=>w m λr d=>onBl (λk=>K k d) r
theorem Ak{t:TE}{Q:Bool->Hp->Prop}{w:WE}(k:∀i,tM X.kx w σ H i->t σ H i)(h:tMT X.kx (zy w) σ H Q):Qo t σ H Q:=by
 let⟨n,m,K,o,p,e⟩:=h;refine k _ ⟨n,m,_,o,p,λr j v s d n1 R rr F=>?_⟩;let⟨b,u,q,d⟩:=xq rr d;exact⟨b,q,e b j s d n1 R F⟩
def PF(i:OpR X (aa8 op) (rM X.kx o))(j:ME X a f)(e:ME X b g)(d:acJ op b=false):MT X (.Compare a [op] [b] pos) (zy (wBin o f g)):=(JV i j e d).wk λ_ _ _ h=>Ak (λ_=>sD) h
def Ur(e:ME X a f)(d:∀w,isTrue a X.env w=(do let v <- w;acA a.pos;adj [v] (truthy v)):=by intro _;rfl):MT X a (zy f):=(RE e d).wk λ_ _ _ h=>Ak (λ_ h=>h) h
end
section
variable {X:Cx}{a b c:Expr}{es:List Expr}{f l B:WE}{pos:Pos}
variable {y A:WT}{rest:List Expr}
abbrev wAnd(t u:WT):WT:=λm K=>t m λc m1=>if c=true then u m1 K else K false m1
abbrev wOr(t u:WT):WT:=λm K=>t m λc m1=>if c=true then K true m1 else u m1 K
abbrev wNot(t:WT):WT:=λm K=>t m λc m1=>K (!c) m1
def Oz(h:MT X a y):MW X (.BoolOp .And [a] pos) y:=JT h
def QP(h:MT X a y):MW X (.BoolOp .Or [a] pos) y:=Pj h
theorem Qe(i:MT X a y)(h:MW X (.BoolOp .And (b::rest) pos) A):MW X (.BoolOp .And (a::b::rest) pos) (wAnd y A):=(RJ i h).wk<|by
 intro s H Q ⟨g,m,K,o,p,d⟩;refine⟨g,m,_,o,p,λr m1 j k n1 R F=>?_⟩
 cases r with
 |true=>rw[if_pos rfl];exact⟨g,m1,K,R,k,λb2 m2 n k2 n2 e q=>d b2 m2 n k2 (n2.trans n1) e (F.trans q)⟩
 |false=>rw[if_neg aaj];exact d _ m1 j k n1 R F
theorem Uv(i:MT X a y)(h:MW X (.BoolOp .Or (b::rest) pos) A):MW X (.BoolOp .Or (a::b::rest) pos) (wOr y A):=(VG i h).wk<|by
 intro s H Q ⟨g,m,K,o,p,d⟩;refine⟨g,m,_,o,p,λr m1 j k n1 R F=>?_⟩
 cases r with
 |true=>rw[if_pos rfl];exact d _ m1 j k n1 R F
 |false=>rw[if_neg aaj];exact⟨g,m1,K,R,k,λb2 m2 n k2 n2 e q=>d b2 m2 n k2 (n2.trans n1) e (F.trans q)⟩
theorem PP(j:MT X a y):MT X (.UnaryOp .Not a pos) (wNot y):=(Uu j).wk<|by intro n H Q ⟨i,m,K,e,h,d⟩;exact
 ⟨i,m,_,e,h,λo m1 g k n1 R F=>d _ m1 g k n1 R F⟩
abbrev QL(f l:WE):WE:=λm K=>f m λr m1=>onBl (λc=>if c=true then l m1 K else K (.imm (.bool false)) m1) r
abbrev wOrV(f l:WE):WE:=λm K=>f m λr m1=>onBl (λc=>if c=true then K (.imm (.bool true)) m1 else l m1 K) r
abbrev PJ(f:WE):WE:=λm K=>f m λr m1=>onBl (λc=>K (.imm (.bool (!c))) m1) r
def CZ(b:Bool):Den K H (.bool b) (.bl b):=rfl
def Am(b:Int):Den K H (.int b) (.int b):=rfl
def J5(b:Str):Den K H (.str b) (.str b):=rfl
def O7{op}(h:ME X a f):ME X (.BoolOp op [a] pos) f:=OZ h
theorem Sx(q:ME X a f)(o:ME X (.BoolOp .And (b::rest) pos) l):ME X (.BoolOp .And (a::b::rest) pos) (QL f l):=(QH q o).wk<|by
 intro C H Q ⟨i,m,s,u,w,d⟩;refine⟨i,m,_,u,w,λr m1 v j k n1 R rr F=>?_⟩;let⟨n,p,x,e⟩:=xq rr k;subst p x;refine⟨n,rfl,?_⟩
 cases n with
 |true=>rw[if_pos rfl]at e⊢;exact⟨i,m1,s,R,e,λr m2 v t k2 n2 h g z=>d r m2 v t k2 (n2.trans n1) h (g.base R F) (F.trans z)⟩
 |false=>rw[if_neg aaj]at e⊢;exact d _ m1 _ j e n1 R (CZ (K:=X.kx) (H:=j) _) F
theorem U8(q:ME X a f)(o:ME X (.BoolOp .Or (b::rest) pos) l):ME X (.BoolOp .Or (a::b::rest) pos) (wOrV f l):=(UI q o).wk<|by
 intro C H Q ⟨i,m,s,u,w,d⟩;refine⟨i,m,_,u,w,λr m1 v j k n1 R rr F=>?_⟩;let⟨n,p,x,e⟩:=xq rr k;subst p x;refine⟨n,rfl,?_⟩
 cases n with
 |true=>rw[if_pos rfl]at e⊢;exact d _ m1 _ j e n1 R (CZ (K:=X.kx) (H:=j) _) F
 |false=>rw[if_neg aaj]at e⊢;exact⟨i,m1,s,R,e,λr m2 v t k2 n2 h g z=>d r m2 v t k2 (n2.trans n1) h (g.base R F) (F.trans z)⟩
theorem TF(j:ME X a f):ME X (.UnaryOp .Not a pos) (PJ f):=(QB j).wk<|by
 intro s H Q ⟨h,m,t,n,o,d⟩;refine⟨h,m,_,n,o,λr m1 v e k n1 R rr F=>?_⟩;let⟨q,g,p,i⟩:=xq rr k;subst g p;exact⟨q,rfl,d _ m1 _ e i n1 R (CZ (K:=X.kx) (H:=e) _) F⟩
def wIfE(t:WT)(f l:WE):WE:=λm K=>t m λc m1=>if c=true then f m1 K else l m1 K
theorem Vq(p:MT X t y)(o:ME X a f)(n:ME X b l):ME X (.IfExp t a b pos) (wIfE y f l):=(Fv p o n).wk<|by
 intro w H Q ⟨h,m,K,q,s,g⟩;refine⟨h,m,_,q,s,λu m1 x k n1 R F=>?_⟩
 cases u with
 |true=>rw[if_pos rfl];exact⟨h,m1,K,R,k,λr m2 v i k2 n2 e d j=>g r m2 v i k2 (n2.trans n1) e (d.base R F) (F.trans j)⟩
 |false=>rw[if_neg aaj];exact⟨h,m1,K,R,k,λr m2 v i k2 n2 e d j=>g r m2 v i k2 (n2.trans n1) e (d.base R F) (F.trans j)⟩
abbrev WU:=R->MSt->(R->Prop)->Prop
def uM(K:Kx)(o:WU):V->Hp->VK->Prop:=λx H Q=>∃d m g i r1 h,Rel K d m g H/\RelR K d i H r1 x/\o r1 m h/\∀r v e,h r->Rel K d m g e->RelR K d H e r v->Frm d H e->Q v e
abbrev wUn(o:WU)(f:WE):WE:=λm K=>f m λr1 m1=>o r1 m1 λr=>K r m1
theorem VM{op:UnaryOp}{o:WU}(s:UnR X (unaryOp op) (uM X.kx o))(n:ME X a f):ME X (.UnaryOp op a pos) (wUn o f):=(VA s n).wk<|by intro j H Q ⟨h,m,K,p,q,e⟩;exact
 ⟨h,m,_,p,q,λr1 m1 x u k1 n1 R d i=>⟨h,m1,j,H,r1,_,R,d,k1,λr v t k g rr F=>e r m1 v t k n1 g (rr.base R i) (i.trans F)⟩⟩
def tFz(t:TE):TE:=λe H Q=>t e H λv d=>Q v d\/∃a x,d a=some (.lst x)/\∀o,Q v (upd d a (.frz o (.lst x)))
theorem Ve{t:TE}(h:PE X a t):PE X a (tFz t):=by
 intro g s j H Q I q;refine thn (h g s j H _ I q) λu s1 ⟨v,k,i,r1,d⟩=>?_;rcases d with d|⟨p,x,e,d⟩
 .exact⟨v,k,i,r1,d⟩
 .obtain⟨o,I2⟩:=i.freeze e;exact⟨v,_,I2,r1,d o⟩
theorem Rel.at{K:Kx}{m:MSt}(R:Rel K α m σ H)(p:Pers H H')(e:∀a∈ads α,H' a=H a)(x:Frm α H H'):Rel K α m σ H':=by
 refine⟨R.nd,R.len,λk n ds j s=>?_,R.vlen,λi r h=>?_,R.npl,R.ebl,R.ebx.trans ⟨rfl,x,λ_ h=>.inl h,λa g=>?_⟩⟩
 .exact(R.own k n ds j s).mono p λa g=>e a (ab6.mpr ⟨n,GT j,g⟩)
 .obtain⟨v,ev,rv⟩:=R.var i r h;refine⟨v,ev,?_⟩
  cases r with
  |imm d=>exact Den.mono p rv
  |obj k=>exact rv
  | «at» k p=>exact rv
  |new ds=>exact rv
  |newT t=>exact rv
 .obtain⟨o,q,_⟩:=R.mem g;exact⟨o,(e a g).trans q⟩
theorem Rel.at'{K:Kx}{m:MSt}(R:Rel K α m σ H)(p:Pers H H')(e:∀a∈ads α,H' a=H a)(x:Ext K.eb.np K.eb.be K.eb.H α H'):Rel K α m σ H':=by
 refine⟨R.nd,R.len,λk j ds g n=>?_,R.vlen,λi r h=>?_,R.npl,R.ebl,x⟩
 .exact(R.own k j ds g n).mono p λa o=>e a (ab6.mpr ⟨j,GT g,o⟩)
 .obtain⟨v,ev,rv⟩:=R.var i r h;refine⟨v,ev,?_⟩
  cases r with
  |imm d=>exact Den.mono p rv
  |obj k=>exact rv
  | «at» k p=>exact rv
  |new ds=>exact rv
  |newT t=>exact rv
theorem bt{a:Addr}{o:HO}(h:H a=none\/∃u,H a=some u/\Mu u=true):Pers H (upd H a o) where
 tups:=λb x e=>by
  rw[aB];exact e;rintro rfl;rcases h with h|⟨d,h,z⟩<;>(rw[e]at h;cases h)
  cases z
 frzs:=λb o u e=>by
  rw[aB];exact e;rintro rfl;rcases h with h|⟨d,h,z⟩<;>(rw[e]at h;cases h)
  cases z
def xo{a:Addr}{o:HO}(h:H a=some (.lst xs)):Pers H (upd H a o):=bt (.inr ⟨_,h,rfl⟩)
theorem cI{a:Addr}{o:HO}(h:H a=none):Frm α H (upd H a o):=λb d e _=>by
 rw[aB (bv e h)];exact e
theorem Rel.lay{K:Kx}{m:MSt}{a:Addr}{o:HO}(R:Rel K α m σ H)(h:H a=none):Rel K α m σ (upd H a o):=
 R.at (bt (.inl h)) (λb d=>aB λe=>R.out h (e▸d)) (cI h)
abbrev wImm(w:WE):WE:=λm K=>w m λr e=>match r with| .imm d=>K (.imm d) e | .new ds=>K (.imm (.list ds)) e|_=>False
theorem QF(D:ME X a f):ME X a (wImm f):=(Ve D).wk<|by
 intro K H Q ⟨s,m,L,u,E,i⟩;refine⟨s,m,_,u,E,λr m1 v t k n1 R rr F=>?_⟩
 cases r with
 |imm d=>exact .inl (i _ m1 v t k n1 R rr F)
 |obj _=>exact k.elim
 | «at» _ _=>exact k.elim
 |newT _=>exact k.elim
 | new ds=>
  let⟨p,x,I,n,q,g⟩:=rr;refine .inr ⟨p,x,q,λo=>?_⟩;have C:Pers t (upd t p (.frz o (.lst x))):=xo q;have fr:Frm s H (upd t p (.frz o (.lst x))):=λb z e nb=>by
   rw[aB (bv e n)];exact F b z e nb
  have old:Ext X.kx.eb.np s H s _:=⟨rfl,fr,λ_ h=>.inl h,λb j=>by
   have w:b≠p:=λe=>u.out n (e▸j);rw[aB w];let⟨J,G,_⟩:=R.mem j;exact⟨J,G⟩⟩
  refine i _ m1 v _ k n1 (R.at' C (λb j=>aB λe=>u.out n (e▸j)) (u.ebx.trans old)) (?_) λb z e nb=>?_
  .exact⟨p,x,I,.inl ⟨o,aE⟩,g.mono C⟩
  .rw[aB (bv e n)];exact F b z e nb
abbrev wNil:WA:=λm K=>K [] m
abbrev Qz(w:WE)(j:WA):WA:=λm K=>w m λr m1=>j m1 λrs m2=>K (r::rs) m2
theorem RelRs.base{K:Kx}{m:MSt}(d:Rel K α m σ H)(F:Frm α H0 H):∀{rs:List R}{vs:List V},RelRs K α H H' rs vs->RelRs K α H0 H' rs vs
 |_,_,.nil=>.nil
 |_,_,.cons h t=>.cons (h.base d F) (t.base d F)
variable {j:WA}
theorem OY:MA X [] wNil:=(IG).wk<|by intro e H Q ⟨g,m,K,R,h,d⟩;exact d _ m _ H h rfl R .nil (Frm.refl _ _)
theorem OA(q:ME X a f)(p:MA X es j)(s:aac (a::es) X.env=(false,eval a X.env)::aac es X.env:=by first|exact aI rfl|rfl):MA X (a::es) (Qz f j):=(uR q p s).wk<|by intro u H Q ⟨i,m,K,h,o,g⟩;exact
 ⟨i,m,_,h,o,λr m1 v w k n1 R rr n=>⟨i,m1,_,R,k,λrs m2 vs t k2 n2 e d F=>g _ m2 _ t k2 (n2.trans n1) e (.cons (rr.keep h R F) (d.base R n)) (n.trans F)⟩⟩
def iJ:List R->Option (List aD)
 |[]=>some []
 | .imm d::rs=>(iJ rs).map (d :: ·)
 |_::_=>none
theorem RelRs.imm{K:Kx}:∀{rs:List R}{vs:List V}{ds:List aD},RelRs K α H0 H rs vs->iJ rs=some ds->DenAll K H ds vs
 |_,_,_,.nil,e=>by cases e;exact DenAll.nil
 |_,_,ds,.cons (r:=.imm d) (rs:=rs) h t,e=>by
  simp only[iJ]at e
  cases q:iJ rs with
  |none=>rw[q]at e;cases e
  |some g=>rw[q]at e;cases e;exact DenAll.cons h (t.imm q)
 |_,_,_,.cons (r:=.obj _) h t,e=>by cases e
 |_,_,_,.cons (r:=.new _) h t,e=>by cases e
 |_,_,_,.cons (r:=.at _ _) h t,e=>by cases e
 |_,_,_,.cons (r:=.newT _) h t,e=>by cases e
def Lc(P:List aD->Prop):Option (List aD)->Prop
 |some ds=>ds.length≤aal/\P ds
 |none=>False
abbrev wTup(j:WA):WE:=λm K=>j m λrs d=>Lc (λds=>K (.imm (.tuple ds)) d) (iJ rs)
abbrev wLst(j:WA):WE:=λm K=>j m λrs d=>Lc (λds=>K (.new ds) d) (iJ rs)
theorem Qc{x1}(h:MA X es j):ME X (.Tuple es x1 pos) (wTup j):=(QZ h).wk<|by
 intro s H Q ⟨n,m,K,o,q,i⟩;refine⟨n,m,_,o,q,λrs m1 vs t k n1 R rr F=>?_⟩
 cases e:iJ rs with
 |none=>rw[e]at k;exact k.elim
 |some ds=>
  rw[e]at k;let⟨r,k⟩:=k;have g:=rr.imm e;refine⟨by rw[<-g.length];exact r,λp d=>i _ m1 _ _ k n1 (R.lay d) (?_) (F.trans (cI d))⟩;exact⟨p,vs,rfl,SqT.of aE,g.mono (bt (.inl d))⟩
theorem P8(h:MA X es j):ME X (.List es pos) (wLst j):=(Sw h).wk<|by
 intro s H Q ⟨n,m,K,o,q,i⟩;refine⟨n,m,_,o,q,λrs m1 vs t k n1 R rr F=>?_⟩
 cases e:iJ rs with
 |none=>rw[e]at k;exact k.elim
 |some ds=>
  rw[e]at k;let⟨r,k⟩:=k;have g:=rr.imm e;refine⟨by rw[<-g.length];exact r,λp d=>i _ m1 _ _ k n1 (R.lay d) ((RelR.base R F (⟨p,vs,rfl,d,aE,g.mono (bt (.inl d))⟩))) (F.trans (cI d))⟩
abbrev WC:=List R->MSt->(R->Prop)->Prop
def cM(K:Kx)(o:WC):List V->Hp->VK->Prop:=λx H Q=>∃d m g i rs h,Rel K d m g H/\RelRs K d i H rs x/\o rs m h/\∀r v e,h r->Rel K d m g e->RelR K d H e r v->Frm d H e->Q v e
abbrev wCB(o:WC)(j:WA):WE:=λm K=>j m λrs m1=>o rs m1 λr=>K r m1
theorem J1{o:WC}(h:tM X.kx (wCB o j) σ H Q):tCB (cM X.kx o) (tMA X.kx j) σ H Q:=by
 let⟨i,m,K,p,q,d⟩:=h;exact⟨i,m,_,p,q,λrs m1 vs t k n1 R rr n=>⟨i,m1,σ,H,rs,_,R,rr,k,λr v s k e g F=>d r m1 v s k n1 e (g.base R n) (n.trans F)⟩⟩
theorem FZ{id:String}{o:WC}(k:dt X (.builtin id) (cM X.kx o))(i:Gl X x)(m:X.mg x=none)(n:aaU x=some (.builtin id))(r:MA X (a::es) j)(q:x ≠ "__name__":=by decide)(d:(x==("__debug__" : Str))=false:=by decide)
  (g:aac (a::es) X.env=(false,eval a X.env)::aac es X.env:=by first|exact aI rfl|rfl) (e:(abj pos (aac es X.env)).any (·.1)=false:=by rfl):ME X (.Call (.Name x p) (a::es) [] pos) (wCB o j):=(xp k i m n r q d g e).wk λ_ _ _ h=>J1 h
theorem zf{o:WC}(k:dt X (.type T) (cM X.kx o))(i:Gl X x)(m:X.mg x=none)(n:aaU x=some (.type T))(r:MA X (a::es) j)(q:x ≠ "__name__":=by decide)(d:(x==("__debug__" : Str))=false:=by decide)
  (g:aac (a::es) X.env=(false,eval a X.env)::aac es X.env:=by first|exact aI rfl|rfl) (e:(abj pos (aac es X.env)).any (·.1)=false:=by rfl):ME X (.Call (.Name x p) (a::es) [] pos) (wCB o j):=(BO k i m n r q d g e).wk λ_ _ _ h=>J1 h
end
inductive Ag where
 |imm (d:aD)|own (ds:List aD)|tr (t:aD)
abbrev SpM:=List Ag->(R->List (List aD)->Prop)->Prop
inductive RelAs(K:Kd)(H:Hp):List Ag->List V->Al->Prop where
 |nil:RelAs K H [] [] []
 |imm {d:aD}{v:V}{as:List Ag}{vs:List V}{β:Al}:Den K H d v->RelAs K H as vs β->RelAs K H (.imm d::as) (v::vs) β
 |own {ds:List aD}{a:Addr}{as:List Ag}{vs:List V}{β:Al}:OwnAt K H (.L a) ds->RelAs K H as vs β->RelAs K H (.own ds::as) (.ref a::vs) (.L a::β)
 |tr {t:aD}{a:Addr}{τ:List (List Nat×Addr)}{as:List Ag}{vs:List V}{β:Al}:OwnAt K H (.T τ) [t]->τ.lookup []=some a->RelAs K H as vs β->RelAs K H (.tr t::as) (.ref a::vs) (.T τ::β)
theorem RelAs.length:∀{as:List Ag}{vs:List V}{β:Al},RelAs K H as vs β->as.length=vs.length
 |_,_,_,.nil=>rfl
 |_,_,_,.imm _ t=>by simp[t.length]
 |_,_,_,.own _ t=>by simp[t.length]
 |_,_,_,.tr _ _ t=>by simp[t.length]
structure AB(K:Kd)(H:Hp)(β:Al)(outs:List (List aD)):Prop where
 len:outs.length=β.length
 at_:∀(j:Nat) (ao:Ao) (ds:List aD),β[j]?=some ao->outs[j]?=some ds->OwnAt K H ao ds
def spOf(K:Kd)(n:Nat)(sp:SpM):Sp:=λvs H Q _=>∃c a d,c.length=n/\(ads a).Nodup/\RelAs K H c vs a/\sp c d/\∀r o v b,d r o->AB K b a o->RelR K a H b r v->Frm a H b->Q v b
theorem spOf.len{E:XK}(h:spOf K n sp vs H Q E):vs.length=n:=by
 let⟨c,b,d,a,_,r,_⟩:=h;rw[<-r.length];exact a
def i6(m:MSt):List R->Option (List Ag×List Nat)
 |[]=>some ([],[])
 | .imm d::rs=>match i6 m rs with|some (as,ks)=>some (.imm d::as,ks)|none=>none
 | .obj k::rs=>match m.os[k]?,i6 m rs with|some ds,some (as,ks)=>some (.own ds::as,k::ks)|_,_=>none
 | .at k []::rs=>match m.os[k]?,i6 m rs with|some [t],some (as,ks)=>some (.tr t::as,k::ks)|_,_=>none
 |_::_=>none
def cU:List (List aD)->List Nat->List (List aD)->List (List aD)
 |os,k::ks,o::outs=>cU (os.set k o) ks outs
 |os,_,_=>os
def mapR(ks:List Nat):R->R
 | .imm d=>.imm d
 | .new ds=>.new ds
 | .obj j=>.obj (ks.getD j 0)
 | .at j p=>.at (ks.getD j 0) p
 | .newT t=>.newT t
def BA(sp:SpM)(w:WA):WE:=λm K=>w m λrs m1=>match i6 m1 rs with
 |some (as,ks)=>ks.Nodup/\sp as λr o=>K (mapR ks r) {m1 with os:=cU m1.os ks o}
 |none=>False
theorem jZ:∀(ks:List Nat) (os a:List (List aD)),(cU os ks a).length=os.length
 |[],_,_=>by simp[cU]
 |_::_,_,[]=>by simp[cU]
 |k::ks,os,o::a=>by simp[cU,jZ ks]
theorem jI:∀(ks:List Nat) (os a:List (List aD)) (k:Nat),k∉ks->(cU os ks a)[k]?=os[k]?
 |[],_,_,_,_=>by simp[cU]
 |_::_,_,[],_,_=>by simp[cU]
 |k'::ks,os,o::a,k,h=>by
  rw[aah]at h;rw[not_or]at h;show(cU _ ks a)[k]?=_;rw[jI ks _ _ k h.2,aaP (abO h.1)]
theorem sw:∀(ks:List Nat) (os a:List (List aD)) (j k:Nat) (ds:List aD),ks.Nodup->ks[j]?=some k->a[j]?=some ds->k<os.length->(cU os ks a)[k]?=some ds
 |[],_,_,_,_,_,_,h,_,_=>by simp at h
 |_::_,_,[],_,_,_,_,_,h,_=>by simp at h
 |k'::ks,os,o::a,0,k,ds,nd,h1,h2,hk=>by
  simp at h1 h2;subst h1;subst h2;show(cU _ ks a)[k']?=_;rw[jI ks _ _ k' (aa7.mp nd).1,aa2 hk]
 |k'::ks,os,o::a,j+1,k,ds,nd,h1,h2,hk=>by
  exact sw ks _ a j k ds (aa7.mp nd).2 ‹_› ‹_› (by simpa)
def f9(c:Al):(ads c).Nodup↔(∀ao∈c,ao.ads.Nodup)/\c.Pairwise λx y=>∀a∈x.ads,∀b∈y.ads,a≠b:=List.pairwise_flatMap
theorem iz(nd:(ads α).Nodup){x y:Ao}(f:α[i]?=some x)(g:α[j]?=some y)(h:i≠j)(b:a∈x.ads)(c:a∈y.ads):False:=by
 have e:=((f9 α).mp nd).2;let⟨d,k⟩:=AD.mp f;let⟨p,q⟩:=AD.mp g;subst k q;rcases aeN h with l|l
 .exact abG.mp e i j d p l a b a c rfl
 .exact abG.mp e j i p d l a c a b rfl
def kl{x:Ao}(b:α[i]?=some x)(h:a∈x.ads):a∈ads α:=ab6.mpr ⟨x,GT b,h⟩
theorem jF(h:a∈ads α):∃(i:Nat) (x:Ao),α[i]?=some x/\a∈x.ads:=by
 let⟨f,b,d⟩:=ab6.mp h;let⟨k,c,e⟩:=abT.mp b;exact⟨k,f,by rw[lD c,e],d⟩
section
variable {K:Kx}{c:Al}{m:MSt}{g:St}{H l f:Hp}
theorem h7(i:Rel K c m g H):∀{rs:List R}{vs:List V}{as:List Ag}{ks:List Nat},RelRs K c l H rs vs->i6 m rs=some (as,ks)->∃β,RelAs K H as vs β/\abK (λ(k:Nat) (ao:Ao)=>c[k]?=some ao) ks β
 |_,_,_,_,.nil,e=>by cases e;exact⟨[],.nil,.nil⟩
 | _,_,as,ks,.cons (r:=.imm d) (rs:=rs) h t,e=>by
  simp only[i6]at e
  cases q:i6 m rs with
  |none=>rw[q]at e;cases e
  |some p=>
   rw[q]at e;cases e;let⟨β,j,b⟩:=h7 i t q;exact⟨β,.imm h j,b⟩
 | _,_,as,ks,.cons (r:=.obj k) (rs:=rs) h t,e=>by
  simp only[i6]at e
  cases q1:m.os[k]? with
  |none=>rw[q1]at e;cases e
  | some ds=>
   cases q:i6 m rs with
   |none=>rw[q1,q]at e;cases e
   |some p=>
    let⟨s,o⟩:=p;rw[q1,q]at e;cases e;let⟨β,j,b⟩:=h7 i t q;let⟨a,n,rfl⟩:=h;exact⟨.L a::β,.own (i.own k _ ds n q1) j,.cons n b⟩
 |_,_,as,ks,.cons (r:=.at k []) (rs:=rs) h t,e=>by
  simp only[i6]at e
  split at e
  .rename_i t' s o q1 q;cases e;let⟨β,j,b⟩:=h7 i t q;let⟨v,a,n,u,rfl⟩:=h;exact⟨.T v::β,.tr (i.own k _ _ n q1) u j,.cons n b⟩
  .cases e
 |_,_,_,_,.cons (r:=.at _ (_::_)) h t,e=>by cases e
 |_,_,_,_,.cons (r:=.new _) h t,e=>by cases e
 |_,_,_,_,.cons (r:=.newT _) h t,e=>by cases e
theorem fc(nd:(ads c).Nodup)(h:ks.Nodup)(p:abK (λ(k:Nat) (ao:Ao)=>c[k]?=some ao) ks β):(ads β).Nodup:=by
 have one:=((f9 c).mp nd).1
 induction p with
 |nil=>exact abB
 | @cons k ao ks β e t ih=>
  have d:=ih (aa7.mp h).2;rw[f9]at d⊢;refine⟨λx n=>?_,acu.mpr ⟨λy o a r b q z=>?_,d.2⟩⟩
  .rcases aah.mp n with rfl|n
   .exact one _ (GT e)
   .exact d.1 x n
  .subst z;let⟨j,w,ej⟩:=abT.mp o;let⟨A,u,v⟩:=Paired.get2 t (i:=j) (b:=y) (by simp_all);have s:=Classical.byContradiction λne=>iz nd e v ne r q;exact(aa7.mp h).1 (s▸GT u)
theorem wg(R:Rel K c m g H){s:List (List aD)}(nd:ks.Nodup)(p:abK (λ(k:Nat) (ao:Ao)=>c[k]?=some ao) ks β)(O:AB K f β s)(F:Frm β H f) :
  Rel K c {m with os:=cU m.os ks s} g f/\Frm c H f:=by
 have C:∀a∈ads β,∃k ao,k∈ks/\c[k]?=some ao/\a∈ao.ads:=λa B=>by
  let⟨j,ao,ej,x⟩:=jF B;let⟨V,w,J⟩:=Paired.get2 p ej;exact⟨V,ao,GT w,J,x⟩
 have A:Frm c H f:=λb o e n=>F b o e λz=>by
  let⟨k,ao,_,J,x⟩:=C b z;exact n (kl J x)
 have L:=R.pers A;have y:∀(k:Nat) (ao:Ao) (ds:List aD),c[k]?=some ao->(cU m.os ks s)[k]?=some ds->OwnAt K f ao ds:=λk ao ds w u=>by
  have G:k<m.os.length:=by rw[<-R.len];exact(AD.mp w).1
  by_cases x:k∈ks
  .obtain⟨j,hj,ej⟩:=abT.mp x;have Q:ks[j]?=some k:=by rw[lD hj,ej]
   let⟨W,S,M⟩:=Paired.get' p Q;rw[w]at M;cases M;have E:j<s.length:=by rw[O.len];exact(AD.mp S).1
   have N:s[j]?=some s[j]:=lD E;rw[sw ks m.os s j k _ nd Q N G]at u;cases u;exact O.at_ j _ _ S N
  .rw[jI ks _ _ k x]at u;have q:=R.own k ao ds w u;refine q.mono L λa B=>?_;let⟨o,P,_⟩:=q.mem B;rw[P];refine F a o P λz=>?_;let⟨k2,T,D,U,I⟩:=C a z;exact iz R.nd w U (λz=>x (z▸D)) B I
 refine⟨⟨R.nd,by show c.length=(cU m.os ks s).length;rw[jZ];exact R.len,y,R.vlen,λi r h=>?_,R.npl,R.ebl,R.ebx.trans ⟨rfl,A,λ_ h=>.inl h,λa B=>?_⟩⟩,A⟩
 .obtain⟨v,ev,rv⟩:=R.var i r h;refine⟨v,ev,?_⟩
  cases r with
  |imm d=>exact Den.mono L rv
  |obj k=>exact rv
  | «at» k p=>exact rv
  |new ds=>exact rv
  |newT t=>exact rv
 .obtain⟨k,ao,w,x⟩:=jF B;have G:k<(cU m.os ks s).length:=by rw[jZ,<-R.len];exact(AD.mp w).1
  let⟨o,q,_⟩:=(y k ao _ w (lD G)).mem x;exact⟨o,q⟩
theorem wQ{K:Kd}(p:abK (λ(k:Nat) (ao:Ao)=>c[k]?=some ao) ks β)(h:RelR K β H f r v):RelR K c H f (mapR ks r) v:=by
 have get:∀{j:Nat}{ao:Ao},β[j]?=some ao->c[ks.getD j 0]?=some ao:=λ{j ao} b=>by
  let⟨k,z,o⟩:=Paired.get2 p b
  simp_all
 cases r with
 |imm d=>exact h
 |new ds=>exact h
 |newT t=>exact h
 |obj j=>
  let⟨a,b,e⟩:=h;exact⟨a,get b,e⟩
 | «at» j q=>
  let⟨n,a,b,i,e⟩:=h;exact⟨n,a,get b,i,e⟩
end
section
variable {X:Cx}{a:Expr}{es:List Expr}{w:WA}{pos p:Pos}{k n:Nat}{f:Addr}{fd:abX}{ps:List Str}{sp:SpM}{x:Str}{CX:CXT}
theorem Kl{E:XK}(h:tM X.kx (BA sp w) σ H Q)(D:∀as K,sp as K->as.length=n):QU (spOf X.kd n sp) [] E (tMA X.kx w) σ H Q:=by
 let⟨t,m,K,y,z,g⟩:=h;refine⟨t,m,_,y,z,λrs m1 vs G c n1 R rr s=>?_⟩
 cases e:i6 m1 rs with
 |none=>rw[e]at c;exact c.elim
 |some q=>
  let⟨as,I⟩:=q;rw[e]at c;let⟨nd,b⟩:=c;let⟨u,B,l⟩:=h7 R rr e;refine⟨as,u,_,D _ _ b,fc R.nd nd l,by rw[aaY];exact B,b,λr o v A i O d F=>?_⟩;let⟨j,C⟩:=wg R nd l O F;exact g _ _ v A i n1 j ((wQ l d).base R s) (s.trans C)
theorem MH{E:XK}(F:FnOk X.prog X.w X.K X.mg X.base CX k f fd ps (spOf X.kd n sp))(m:Room k X.A)(g:Gl X x)(i:X.mg x=some (.ref f))(j:abL X.K (.ref f)=true)(l:Binds X.K fd ps [])(d:kq CX X E)(o:∀as K,sp as K->as.length=n)
  (q:MA X (a::es) w) (b:(x==("__debug__" : Str))=false:=by decide) (e:aac (a::es) X.env=(false,eval a X.env)::aac es X.env:=by first|exact aI rfl|rfl) (c:(abj pos (aac es X.env)).any (·.1)=false:=by rfl) :
  ME X (.Call (.Name x p) (a::es) [] pos) (BA sp w):=(J7 F m g i j l .nil d q b e c).wk λ_ _ _ h=>Kl h o
end
structure fi where
 nx:MSt->Prop
 rt:R->MSt->Prop
 bk:MSt->Prop:=λ_=>False
 ct:MSt->Prop:=λ_=>False
abbrev WS:=fi->MSt->Prop
theorem RelR.ext{np:Nat}{c:Al}(x:Ext np α H α1 H1)(h:RelR K c H1 H2 r v):RelR K c H H2 r v:=by
 cases r with
 |imm d=>exact h
 |obj k=>exact h
 | «at» k p=>exact h
 |new ds=>
  let⟨a,l,e,n,q,g⟩:=h;exact⟨a,l,e,x.nil n,q,g⟩
 |newT t=>
  let⟨i,a,e,j,nd,n,g⟩:=h;exact⟨i,a,e,j,nd,λb f=>x.nil (n b f),g⟩
structure EndsOk(K:Kx)(np:Nat)(α:Al)(H:Hp)(De:fi)(D:Ends):Prop where
 nx:∀α' m' σ' H',De.nx m'->m'.np=np->Rel K α' m' σ' H'->Ext np α H α' H'->D.nx σ' H'
 rt:∀r α' m' σ' v H',De.rt r m'->m'.np=np->Rel K α' m' σ' H'->RelR K α' H H' r v->Ext np α H α' H'->D.rt v H'
 bk:∀α' m' σ' H',De.bk m'->m'.np=np->Rel K α' m' σ' H'->Ext np α H α' H'->D.bk σ' H'
 ct:∀α' m' σ' H',De.ct m'->m'.np=np->Rel K α' m' σ' H'->Ext np α H α' H'->D.ct σ' H'
theorem EndsOk.ext{K:Kx}{np:Nat}(h:EndsOk K np α H De D)(x:Ext np α H α1 H1):EndsOk K np α1 H1 De D where
 nx:=λb m a c k n R y=>h.nx b m a c k n R (x.trans y)
 rt:=λr b m a v c k n R rr y=>h.rt r b m a v c k n R (rr.ext x) (x.trans y)
 bk:=λb m a c k n R y=>h.bk b m a c k n R (x.trans y)
 ct:=λb m a c k n R y=>h.ct b m a c k n R (x.trans y)
def tMS(K:Kx)(w:WS):TS:=λD c H=>∃b m a,Rel K b m c H/\w a m/\EndsOk K m.np b H a D
abbrev MS(X:Cx)(s:Stmt)(w:WS):Prop:=PS X s (tMS X.kx w)
abbrev MSs(X:Cx)(s:List Stmt)(w:WS):Prop:=PSs X s (tMS X.kx w)
section
variable {X:Cx}{a b c e:Expr}{es:List Expr}{d f g i:WE}{pos:Pos}{s:Stmt}{rest:List Stmt}{w u:WS}
abbrev Tw:WS:=λD m=>D.nx m
abbrev wSeq(w u:WS):WS:=λD m=>w {D with nx:=λh=>u D h } m
theorem LU:MSs X [] Tw:=(Nu).wk<|by intro D h H ⟨l,m,n,R,j,k⟩;exact k.nx l m h H j rfl R (.of R (Frm.refl _ _))
theorem FU(v:MS X s w)(r:MSs X rest u):MSs X (s::rest) (wSeq w u):=(xZ v r).wk<|by intro D z H ⟨o,m,p,t,x,k⟩;exact
 ⟨o,m,_,t,x,⟨λh l j A q n R y=>⟨h,l,p,R,q,by rw[n];exact k.ext y⟩,k.rt,k.bk,k.ct⟩⟩
theorem JZ(j:MS X s w):MSs X [s] w:=(JM j).wk λD k H h=>h
end
section
variable {X:Cx}{a b c e:Expr}{es:List Expr}{wa wb wc we:WE}{ws:WA}{wt:WT}{pos:Pos}{st:Stmt}{rest body body2:List Stmt}{w u:WS}
abbrev wRet(we:WE):WS:=λD m=>we m λr d=>D.rt r d
theorem Uk(h:ME X e we):MS X (.Return (some e) pos) (wRet we):=(SX h).wk<|by intro D f H ⟨d,m,o,i,j,k⟩;exact
 ⟨d,m,_,i,j,λr g v l q n R rr F=>k.rt r d g f v l q n R rr (.of R F)⟩
abbrev QQ(we:WE):WS:=λD m=>we m λ_ d=>D.nx d
theorem J9(h:ME X e we)(i:abx e none pos.line X.env=pure false:=by rfl):MS X (.Expr e pos) (QQ we):=(Lq h i).wk<|by intro D f H ⟨d,m,p,j,l,k⟩;exact
 ⟨d,m,_,j,l,λr g v o q n R rr F=>k.nx d g f o q n R (.of R F)⟩
abbrev wIfS(t:WT)(w u:WS):WS:=λD m=>t m λc d=>if c=true then w D d else u D d
theorem VX(j:MT X t wt)(o:MSs X body w)(i:MSs X body2 u):MS X (.If t body body2 pos) (wIfS wt w u):=(U9 j o i).wk<|by
 intro D v H ⟨d,m,g,l,p,k⟩;refine⟨d,m,_,l,p,λs f r q n R F=>?_⟩;have h:EndsOk X.kx f.np d r g D:=by rw[n];exact k.ext (.of R F)
 cases s with
 |true=>rw[if_pos rfl]at q;exact iteT ⟨d,f,g,R,q,h⟩
 |false=>rw[if_neg aaj]at q;exact iteF ⟨d,f,g,R,q,h⟩
def Ii:WS:=λ_ _=>False
theorem DI:MS X st Ii:=(FG).wk<|by intro D d H ⟨g,m,f,R,h,k⟩;exact h
def MSt.setV(m:MSt)(i:Nat)(r:R):MSt:={m with vs:=m.vs.set i (some r)}
def RenR(f:List Nat)(o:Option (Option R)):R->Prop
 | .imm d=>o=some (some (.imm d))
 | .obj k=>∃j,f[k]?=some j/\o=some (some (.obj j))
 | .at k p=>∃j,f[k]?=some j/\o=some (some (.at j p))
 | .new _=>False
 | .newT _=>False
structure Ren(ρ:List Nat)(m m2:MSt):Prop where
 nd:ρ.Nodup
 lt:∀k∈ρ,k<m.os.length
 pre:ρ.take m.np=aax m.np
 npl:m.np≤ρ.length
 os:m2.os=ρ.map λk=>m.os.getD k []
 np:m2.np=m.np
 vl:m2.vs.length=m.vs.length
 vs:∀(j:Nat) (r:R),m2.vs[j]?=some (some r)->RenR ρ m.vs[j]? r
def upR(D:MSt->Prop)(m:MSt):Prop:=D m\/∃d m2,Ren d m m2/\D m2
def tj(i:Nat)(D:MSt->Prop)(m:MSt):R->Prop
 | .imm d=>upR D (m.setV i (.imm d))
 | .obj k=>upR D (m.setV i (.obj k))
 | .at k p=>upR D (m.setV i (.at k p))
 | .new ds=>upR D {vs:=m.vs.set i (some (.obj m.os.length)),os:=m.os++[ds],np:=m.np} \/
   ∃k,m.vs[i]?=some (some (.obj k))/\m.np≤k/\(∀j:Nat,j≠i->m.vs[j]?≠some (some (.obj k)))/\D {m with os:=m.os.set k ds}
 | .newT t=>upR D {vs:=m.vs.set i (some (.at m.os.length [])),os:=m.os++[[t]],np:=m.np}
theorem im{d:Al}{n:Nat}(g:d.length=n):∀{f:List Nat},(∀k∈f,k<n)->abK (λ(k:Nat) (ao:Ao)=>d[k]?=some ao) f (f.map λk=>d.getD k (.L 0))
 |[],_=>.nil
 | k::f,h=>.cons (by
   have l:k<d.length:=by rw[g];exact h k aae
   show d[k]?=some (d.getD k _);rw[aat,lD l];rfl) (im g λj i=>h j (aaf _ i))
theorem JO{K:Kx}{m m2:MSt}{g:List Nat}(R:Rel K α m σ H)(N:Ren g m m2):∃x,Rel K x m2 σ H/\Ext m.np α H x H:=by
 have B:=im R.len N.lt;have get:∀(k:Nat) (f:Ao),(g.map λk=>α.getD k (.L 0))[k]?=some f->∃j:Nat,g[k]?=some j/\α[j]?=some f:=λk f z=>by
  let⟨j,S,O⟩:=Paired.get2 B z;exact⟨j,S,O⟩
 have n:∀(k j:Nat) (f:Ao),g[k]?=some j->α[j]?=some f->(g.map λk=>α.getD k (.L 0))[k]?=some f:=λk j f F A=>by
  let⟨U,M,I⟩:=Paired.get' B F;rw[A]at I;cases I;exact M
 have y:(g.map λk=>α.getD k (.L 0)).take m.np=α.take m.np:=by
  apply acg;intro l;rw[aaO,aaO]
  by_cases i:l<m.np
  .rw[if_pos i,if_pos i];have:g[l]?=some l:=by
    have e:=congrArg (·[l]?) N.pre;simp only[aaO,if_pos i]at e;rw[e,ab1 i]
   have t:l<α.length:=aav i R.npl;rw[n l l α[l] this (lD t),lD t]
  .rw[if_neg i,if_neg i]
 have ext:Ext m.np α H (g.map λk=>α.getD k (.L 0)) H:=⟨y,Frm.refl _ _,λa E=>by
  let⟨k,f,Q,T⟩:=jF E;let⟨j,_,V⟩:=get k f Q;exact .inl (kl V T),λa E=>by
  let⟨o,q,_⟩:=R.mem E;exact⟨_,q⟩⟩
 refine⟨g.map λk=>α.getD k (.L 0),⟨fc R.nd N.nd B,?_,λk f ds F A=>?_,?_,λj r z=>?_,?_,by rw[N.np];exact R.ebl,R.ebx.trans (ext.less R.ebl)⟩,ext⟩
 .rw[N.os,iO,iO]
 .obtain⟨j,q,qa⟩:=get k f F;rw[N.os,aai,q]at A;have L:j<m.os.length:=N.lt j (GT q);have G:m.os.getD j []=ds:=aas A;refine R.own j f ds qa ?_;rw[<-G,aat,lD L];rfl
 .rw[N.vl];exact R.vlen
 .have h:=N.vs j r z
  cases r with
  |imm d=>exact R.var j (.imm d) h
  |new _=>exact h.elim
  |newT _=>exact h.elim
  |obj k=>
   let⟨s,q,h⟩:=h;let⟨v,C,a,D,e⟩:=R.var j (.obj s) h;exact⟨v,C,a,n k s _ q D,e⟩
  | «at» k p=>
   let⟨s,q,h⟩:=h;let⟨v,C,J,a,D,P,e⟩:=R.var j (.at s p) h;exact⟨v,C,J,a,n k s _ q D,P,e⟩
 .rw[N.np,iO];exact N.npl
abbrev wSet(i:Nat)(we:WE):WS:=λD m=>we m λr d=>tj i D.nx d r
theorem cF{K:Kx}{m:MSt}(R:Rel K α m σ H)(h:RelS K α H r v):Rel K α (m.setV i r) (σ.set i (some v)) H:=by
 refine⟨R.nd,R.len,R.own,?_,λj g e=>?_,R.npl,R.ebl,R.ebx⟩
 .show(σ.set i _).length=(m.vs.set i _).length;rw[abe,abe];exact R.vlen
 .have e':(m.vs.set i (some r))[j]?=some _:=e
  by_cases d:i=j
  .subst d
   by_cases f:i<m.vs.length
   .rw[aa2 f]at e';cases e';exact⟨v,aa2 (by rw[R.vlen];exact f),h⟩
   .simp_all
  .rw[aaP d]at e'⊢;exact R.var j g e'
theorem rE{K:Kx}{m:MSt}(R:Rel K α m σ H)(L:∃A i,Rel K α A i H0)(F:Frm α H0 H)(nd:ao.ads.Nodup)(D:∀b∈ao.ads,H0 b=none)(g:OwnAt K H ao ds) :
  Rel K (α++[ao]) {m with os:=m.os++[ds]} σ H/\∀np,np≤α.length->Ext np α H0 (α++[ao]) H:=by
 let⟨A,i,f⟩:=L;have t:∀b∈ao.ads,b∉ads α:=λb I=>f.out (D b I);have one:ads [ao]=ao.ads:=by simp[ads]
 have ext:∀np,np≤α.length->Ext np α H0 (α++[ao]) H:=λnp s=>⟨by rw[List.take_append_of_le_length s],F,λa r=>by
  rw[jT,one]at r;rcases aaG.mp r with z|z
  .exact .inl z
  .exact .inr (D a z),λa r=>by
  let⟨o,q,_⟩:=R.mem r;exact⟨_,q⟩⟩
 refine⟨⟨?_,by simp[R.len],λk a es l M=>?_,R.vlen,λj B z=>?_,by have:=R.npl;show m.np≤(α++[ao]).length;rw[aan];omega,R.ebl,f.ebx.trans (ext _ ?_)⟩,ext⟩
 .rw[jT,one];exact acD.mpr ⟨R.nd,nd,λx E y G e=>t y G (e▸E)⟩
 .have z2':(m.os++[ds])[k]?=some es:=M
  by_cases C:k<α.length
  .rw[aaF C]at l;rw[aaF (by rw[<-R.len];exact C)]at z2';exact R.own k a es l z2'
  .rw[aaM (by omega)]at l;rw[aaM (by rw[<-R.len];omega)]at z2';have h:k-α.length=0:=by
    have:=(AD.mp l).1;simp at this;omega
   rw[h]at l;rw[<-R.len,h]at z2'
   simp_all
 .obtain⟨v,ev,rv⟩:=R.var j B z;refine⟨v,ev,?_⟩
  cases B with
  |imm d=>exact rv
  |new _=>exact rv
  |newT _=>exact rv
  |obj k=>
   let⟨a,n,e⟩:=rv;exact⟨a,by rw[aaF (AD.mp n).1];exact n,e⟩
  | «at» k p=>
   let⟨J,a,n,e⟩:=rv;exact⟨J,a,by rw[aaF (AD.mp n).1];exact n,e⟩
 .exact aaw R.ebl R.npl
theorem vD{K:Kx}{m:MSt}{Q:St->Hp->Prop}{np:Nat}(f:Rel K α m σ H)(n:m.np=np)(F:Frm α H0 H)(h:RelR K α H0 H r v)(q:tj i P m r)
  (k:∀A E s D,P E->E.np=np->Rel K A E s D->Ext np α H0 A D->Q s D) (R0:∃m0 U,Rel K α m0 U H0):Q (σ.set i (some v)) H:=by
 have up:∀A E s D,upR P E->E.np=np->Rel K A E s D->Ext np α H0 A D->Q s D:=λA E s D q n R x=>by
  rcases q with q|⟨ρ,m2,N,q⟩
  .exact k A E s D q n R x
  .obtain⟨α2,R2,x2⟩:=JO R N;rw[n]at x2;exact k α2 m2 s D q (N.np.trans n) R2 (x.trans x2)
 have I:np≤α.length:=by rw[<-n];exact f.npl
 cases r with
 |imm d=>exact up α _ _ H q n (cF f (r:=.imm d) h) (.of (cF (i:=i) f (r:=.imm d) h) F)
 |obj j=>exact up α _ _ H q n (cF f (r:=.obj j) h) (.of (cF (i:=i) f (r:=.obj j) h) F)
 | «at» j p=>exact up α _ _ H q n (cF f (r:=.at j p) h) (.of (cF (i:=i) f (r:=.at j p) h) F)
 |newT t=>
  let⟨S,p,rfl,M,nd,T,g⟩:=h;let⟨base,ext⟩:=rE f R0 F (ao:=.T S) nd T g;exact up (α++[.T S]) _ _ H q n (cF base (r:=.at m.os.length []) ⟨S,p,by rw[aaM (by rw[f.len];exact aab _),<-f.len];simp,M,rfl⟩) (ext np I)
 | new ds=>
  let⟨p,xs,rfl,T,hp,g⟩:=h;have R0':=R0;let⟨m0,U,O⟩:=R0';have V:p∉ads α:=O.out T;rcases q with q|⟨j,e1,e2,e3,q⟩
  .
   let⟨base,ext⟩:=rE f R0 F (ao:=.L p) (by simp[Ao.ads]) (λb G=>by cases aaa.mp G;exact T) ⟨xs,hp,g⟩;exact up (α++[.L p]) _ _ H q n (cF base (r:=.obj m.os.length) ⟨p,by rw[aaM (by rw[f.len];exact aab _),<-f.len];simp,rfl⟩) (ext np I)
  .
   let⟨aj,W⟩:∃aj,α[j]?=some (.L aj):=by
    let⟨v,_,a,L,_⟩:=f.var i _ e1;exact⟨a,L⟩
   have Y:j<α.length:=(AD.mp W).1;have hi:i<m.vs.length:=(AD.mp e1).1;have ndS:(ads (α.set j (.L p))).Nodup:=by
    have z:=(f9 α).mp f.nd;rw[f9];refine⟨λao B=>?_,abG.mpr λi1 i2 h1 h2 hlt a B b G e=>?_⟩
    .rcases aeY B with y|y
     .exact z.1 ao y
     .subst y;simp[Ao.ads]
    .subst e;rw[abe]at h1 h2;have mem:∀(l:Nat) (C:l<α.length),a∈(α[l]).ads->a∈ads α:=λl C h=>kl (lD C) h
     by_cases J:j=i1
     .subst J;rw[afY]at B;rw[adw (by exact aa0 ‹_›)]at G
      cases aaa.mp B
      exact V (mem i2 h2 G)
     .rw[adw J]at B
      by_cases c2:j=i2
      .subst c2;rw[afY]at G
       cases aaa.mp G
       exact V (mem i1 h1 B)
      .rw[adw c2]at G;exact iz f.nd (lD h1) (lD h2) (aa0 hlt) B G
   have ext:Ext np α H0 (α.set j (.L p)) H:=by
    refine⟨?_,F,λa B=>?_,λa B=>?_⟩
    .apply acg;intro l;rw[aaO,aaO]
     by_cases C:l<np
     .rw[if_pos C,if_pos C,aaP (by omega)]
     .rw[if_neg C,if_neg C]
    .obtain⟨l,ao,M,hm⟩:=jF B
     by_cases J:j=l
     .subst J;rw[aa2 Y]at M;cases M
      cases aaa.mp hm
      exact .inr T
     .rw[aaP J]at M;exact .inl (kl M hm)
    .obtain⟨o,q,_⟩:=f.mem B;exact⟨_,q⟩
   have Rl':Rel K (α.set j (.L p)) {m with os:=m.os.set j ds} (σ.set i (some (.ref p))) H:=by
    refine⟨ndS,by simp[f.len],λk a es Z z2=>?_,by rw[abe];exact f.vlen,λl r' z=>?_,by rw[abe];exact f.npl,f.ebl,O.ebx.trans (ext.less (by have:=f.ebl;omega))⟩
    .have z2':(m.os.set j ds)[k]?=some es:=z2
     by_cases J:j=k
     .subst J;rw[aa2 Y]at Z;rw[aa2 (by rw[<-f.len];exact Y)]at z2'
      cases Z;cases z2'
      exact⟨xs,hp,g⟩
     .rw[aaP J]at Z z2';exact f.own k a es Z z2'
    .have z':m.vs[l]?=some (some r'):=z
     by_cases C:i=l
     .subst C;rw[e1]at z';cases z';exact⟨.ref p,aa2 (by rw[f.vlen];exact hi),p,aa2 Y,rfl⟩
     .obtain⟨v,ev,rv⟩:=f.var l r' z';refine⟨v,by rw[aaP C];exact ev,?_⟩
      cases r' with
      |imm d=>exact rv
      |new _=>exact rv
      |newT _=>exact rv
      |obj k=>
       let⟨a,L,e⟩:=rv;refine⟨a,?_,e⟩;rw[aaP]
       .exact L
       .rintro rfl;exact e3 l (abO C) z'
      | «at» k p'=>
       let⟨S,a,L,e⟩:=rv;refine⟨S,a,?_,e⟩;rw[aaP]
       .exact L
       .rintro rfl;rw[W]at L;cases L
   exact k (α.set j (.L p)) _ _ H q n Rl' ext
theorem Sd{p:Pos}(t:X.N.Nodup)(g:X.N[i]?=some x)(h:Loc X.env.scope x)(o:ME X e we)(y:abx e (some (.Name x p)) pos.line X.env=pure false:=by rfl)(s:X.fn x=true\/X.env.scope.names.lookup x=some .local:=by first|exact .inl rfl|exact .inr rfl|assumption) :
  MS X (.Assign [.Name x p] e pos) (wSet i we):=(Qt t g h o y s).wk<|by intro D f H ⟨l,m,B,d,j,k⟩;exact
 ⟨l,m,_,d,j,λr z v A q n R rr F=>vD R n F rr q k.nx ⟨m,f,d⟩⟩
abbrev WG:=aD->MSt->(MSt->Prop)->Prop
abbrev WGs:=List aD->MSt->(MSt->Prop)->Prop
def tMG(K:Kx)(g:WG):TG:=λv k H Q=>∃i m d j,Rel K i m k H/\Den K H d v/\g d m j/\∀h f,j h->h.np=m.np->Rel K i h f H->Q f H
def tMGs(K:Kx)(g:WGs):TGs:=λvs j H Q=>∃h m ds i,Rel K h m j H/\DenAll K H ds vs/\g ds m i/\∀f d,i f->f.np=m.np->Rel K h f d H->Q d H
theorem PG.wk{X:Cx}{e:Expr}{t t':TG}(h:PG X e t)(k:∀v d H Q,t' v d H Q->t v d H Q):PG X e t':=λp s d H v u Q I r q=>h p s d H v u Q I r (k _ _ _ _ q)
theorem PGs.wk{X:Cx}{e:List Expr}{t t':TGs}(h:PGs X e t)(k:∀v d H Q,t' v d H Q->t v d H Q):PGs X e t':=λp s d H v u Q I r q=>h p s d H v u Q I r (k _ _ _ _ q)
abbrev MG(X:Cx)(e:Expr)(g:WG):Prop:=PG X e (tMG X.kx g)
abbrev MGs(X:Cx)(es:List Expr)(g:WGs):Prop:=PGs X es (tMGs X.kx g)
abbrev gM(i:Nat):WG:=λd m K=>K (m.setV i (.imm d))
def Kq:WGs:=λds m K=>ds=[]/\K m
abbrev Bf(g:WG)(f:WGs):WGs:=λds m K=>match ds with|d::r=>g d m λh=>f r h K|[]=>False
def JK(n:Nat)(g:WGs):WG:=λd m K=>match d with| .tuple ds=>ds.length=n/\g ds m K|_=>False
theorem KB(k:X.N.Nodup)(j:X.N[i]?=some x)(h:Loc X.env.scope x)(g:X.fn x=true\/X.env.scope.names.lookup x=some .local:=by first|exact .inl rfl|exact .inr rfl|assumption):MG X (.Name x pos) (gM i):=(JL k j h g).wk λv n H Q ⟨o,m,d,K,R,hd,l,f⟩=>
 f _ _ l rfl (cF R hd)
theorem M9:MGs X [] Kq:=(Jr).wk<|by
 intro v g H Q ⟨i,m,d,K,R,hd,h,f⟩;let⟨rfl,h⟩:=h;exact⟨hd,f m g h rfl R⟩
theorem Fq{e:Expr}{es:List Expr}(q:MG X e g)(B:MGs X es gs)
  (A:(abQ (e::es) X.env).map (·.2)=ae9 e X.env::(abQ es X.env).map (·.2):=by rfl):MGs X (e::es) (Bf g gs):=(Ic q B A).wk<|by
 intro v C H Q ⟨l,m,ds,K,o,hd,j,i⟩
 cases ds with
 |nil=>exact j.elim
 |cons d r=>
  let⟨x,z,rfl,t,y⟩:=hd;exact⟨x,z,rfl,l,m,d,_,o,t,j,λs p k n h=>⟨l,s,r,_,h,y,k,λm2 f k2 n2 R=>i m2 f k2 (n2.trans n) R⟩⟩
theorem Re{es:List Expr}{k:Nat}(h:MGs X es gs)(p:X.calm=true:=by rfl)
  (q:(abQ es X.env).length=n:=by rfl) (j:(abQ es X.env).findIdx? (·.1)=none:=by rfl):MG X (.Tuple es k pos) (JK n gs):=(TJ p h q j).wk<|by
 intro v r H Q ⟨o,m,d,K,R,hd,i,l⟩
 cases d with
 |tuple ds=>
  let⟨a,x,e,f,g⟩:=hd;exact⟨a,x,e,f,g.length.symm.trans i.1,o,m,ds,K,R,g,i.2,l⟩
 |none=>exact i.elim
 |bool _=>exact i.elim
 |int _=>exact i.elim
 |str _=>exact i.elim
 |list _=>exact i.elim
 |dict _=>exact i.elim
abbrev jx(P:aD->Prop):R->Prop
 | .imm d=>P d
 |_=>False
theorem fI{K:Kx}{P:aD->Prop}(rr:RelR K α Hb H r v)(h:jx P r):∃d,r = .imm d/\Den K H d v/\P d:=by
 cases r with
 |imm d=>exact⟨d,rfl,rr,h⟩
 |obj _=>exact h.elim
 |new _=>exact h.elim
 | «at» _ _=>exact h.elim
 |newT _=>exact h.elim
abbrev wAsg(we:WE)(g:WG):WS:=λD m=>we m λr f=>jx (λd=>g d f D.nx) r
theorem Uq(y:ME X e we)(o:MG X tg g)(z:adz [tg] e pos.line X.env=pure false:=by rfl)(h:adA [tg] e X.env=pure none:=by rfl)
  (p:(abQ [tg] X.env).map (·.2)=[ae9 tg X.env]:=by rfl):MS X (.Assign [tg] e pos) (wAsg we g):=(Um y o z h p).wk<|by
 intro D A H ⟨f,m,C,l,h,k⟩;refine⟨f,m,_,l,h,λr s v x q n j rr F=>?_⟩;let⟨d,B,hd,q⟩:=fI rr q;exact⟨f,s,d,_,j,hd,q,λm2 i t n2 R=>k.nx f m2 i x t (n2.trans n) R (.of R F)⟩
def wPar(i j:Nat)(ws:WA):WS:=λD m=>ws m λrs d=>match rs with|[.imm d1,.imm d2]=>D.nx ((d.setV i (.imm d1)).setV j (.imm d2))|_=>False
theorem Sy{p g pt:Pos}{kt k2 pt2}(L:X.N.Nodup)(s:X.N[i]?=some x)(A:X.N[j]?=some y)(h:i≠j)
  (o:X.env.scope.names.lookup x=some .local) (r:X.env.scope.names.lookup y=some .local) (z:MA X [a,b] ws)
  (d:adA [.Tuple [.Name x p,.Name y g] kt pt] (.Tuple [a,b] k2 pt2) X.env=pure (some [x,y])) (K:X.calm=true:=by rfl)
  (C:adz [.Tuple [.Name x p,.Name y g] kt pt] (.Tuple [a,b] k2 pt2) pos.line X.env=pure false:=by rfl) :
  MS X (.Assign [.Tuple [.Name x p,.Name y g] kt pt] (.Tuple [a,b] k2 pt2) pos) (wPar i j ws):=(TU K L s A h o r z d C).wk<|by
 intro D M H ⟨l,m,B,G,d,k⟩;refine⟨l,m,_,G,d,λrs t vs J q n R rr F=>?_⟩;let⟨d1,f,v,q⟩:∃d1 f,rs=[.imm d1,.imm f]/\B.nx ((t.setV i (.imm d1)).setV j (.imm f)):=by
  split at q
  .exact⟨_,_,rfl,q⟩
  .exact q.elim
 subst v
 cases rr with
 |cons I rr=>
  cases rr with
  |cons E rr=>
  cases rr;exact⟨_,_,rfl,k.nx l _ _ J q n (cF (cF R I) E) (.of R F)⟩
end
structure Src where
 ds:List aD
 own:Option Nat
structure Wks(K:Kd)(J:It)(ds:List aD)(C:Hp->Prop):Prop where
 stop:∀H,C H->J.stop ds.length H
 go:∀i H,i<ds.length->C H->J.go i H
 yld:∀i H x H',i<ds.length->C H->J.yld i H x H'->(∀b o,H b=some o->H' b=some o)/\∃d,ds[i]?=some d/\Den K H' d x
def u7(K:Kd)(d:Al)(H:Hp)(s:Src)(J:It):Prop:=
 match s.own with
 |none=>∃C:Hp->Prop,Wks K J s.ds C/\C H/\∀b c,C b->Pers b c->C c
 |some k=>∃a,d[k]?=some (.L a)/\Wks K J s.ds λH=>∃x,H a=some (.lst x)/\DenAll K H s.ds x
abbrev WI:=MSt->(Src->MSt->Prop)->Prop
def tMI(K:Kx)(w:WI):TI:=λd H R=>∃b m e,Rel K b m d H/\w m e/\∀s c J a,e s c->c.np=m.np->Rel K b c d a->Frm b H a->u7 K b a s J->R J a
theorem PI.wk{t t':TI}(h:PI X tg e t)(k:∀a H Q,t' a H Q->t a H Q):PI X tg e t':=λp s a H Q I q=>h p s a H Q I (k _ _ _ q)
abbrev MI(X:Cx)(tg e:Expr)(w:WI):Prop:=PI X tg e (tMI X.kx w)
section
variable {X:Cx}{tg a b c e B:Expr}{es:List Expr}{N O Q E:WE}{G:WA}{M:WT}{pos:Pos}{S:Stmt}{rest A L:List Stmt}{w u:WS}
def iSeq(K:aag)(tl:TE):TI:=λg H R=>tl g H λx d=>∃a,x = .ref a/\(((∃f,SqL K d a f)/\R (Itl K a) d)\/((∃f,SqT K d a f)/\R (Itt K a) d))
theorem SU{l:Expr}{tl:TE}(n:PE X l tl):PI X tg l (iSeq X.K tl):=by
 intro f s k H R I h;refine thn (n f s k H _ I h) λv s1 ⟨x,j,d,r1,m⟩=>?_;let⟨a,e,q⟩:=m;subst e;cases r1;rcases q with⟨⟨r,i⟩,q⟩|⟨⟨r,i⟩,q⟩
 .obtain⟨its,rv,p,hz⟩:=d.list i;refine wpAny_pyIter_list p.isList ?_;refine⟨s1.heap.objs.size,[s1.heap.objs.size],_,_,j,rfl,d.kept (t':=s1.toks) λb o e=>LD _ e,yZ a _,⟨_,aap _ rfl,rfl,rfl⟩,λb g=>?_,q⟩;have e:=by simpa using g
  subst e;exact d.fpOk (aab _) (d.hok.fresh (aab _))
 .obtain⟨its,rv,p,hz⟩:=d.tuple i;refine wpAny_pyIter_tuple (p) ?_;refine⟨s1.heap.objs.size,[s1.heap.objs.size],_,_,j,rfl,d.kept (t':=s1.toks) λb o e=>LD _ e,yd a _,⟨_,aap _ rfl,rfl,rfl⟩,λb g=>?_,q⟩;have e:=by simpa using g
  subst e;exact d.fpOk (aab _) (d.hok.fresh (aab _))
def srcR(m:MSt)(K:Src->MSt->Prop):R->Prop
 | .imm (.list ds)=>K ⟨ds,none⟩ m
 | .imm (.tuple ds)=>K ⟨ds,none⟩ m
 | .obj k=>∃ds,m.os[k]?=some ds/\K ⟨ds,some k⟩ m
 |_=>False
abbrev QR(E:WE):WI:=λm K=>E m λr d=>srcR d K r
theorem wks_list{a:Addr}:Wks K (Itl K a) ds λH=>∃xs,SqL K H a xs/\DenAll K H ds xs where
 stop:=λH ⟨xs,q,g⟩=>⟨xs,q,by rw[g.length];exact aab _⟩
 go:=λi H h ⟨xs,q,g⟩=>⟨xs,xs[i]'(by rw[<-g.length];exact h),q,lD _⟩
 yld:=λi H x k h ⟨xs,q,g⟩ y=>by
  let⟨e,y⟩:=y;subst e;let⟨d,f,j⟩:=g.get2 (y xs q);exact⟨λ_ _ z=>z,d,f,j⟩
theorem K6{a:Addr}:Wks K (Itt K a) ds λH=>∃xs,SqT K H a xs/\DenAll K H ds xs where
 stop:=λH ⟨xs,q,g⟩=>⟨xs,q,by rw[g.length];exact aab _⟩
 go:=λi H h ⟨xs,q,g⟩=>⟨xs,xs[i]'(by rw[<-g.length];exact h),q,lD _⟩
 yld:=λi H x k h ⟨xs,q,g⟩ y=>by
  let⟨e,y⟩:=y;subst e;let⟨d,f,j⟩:=g.get2 (y xs q);exact⟨λ_ _ z=>z,d,f,j⟩
theorem Wks.imp{C f:Hp->Prop}(h:Wks K J ds C)(k:∀H,f H->C H):Wks K J ds f:=⟨λH c=>h.stop H (k H c),λi H d c=>h.go i H d (k H c),λi H x g d c=>h.yld i H x g d (k H c)⟩
theorem Qp(z:ME X e E):MI X tg e (QR E):=(SU (tg:=tg) z).wk<|by
 intro P H U ⟨y,m,T,I,K,i⟩;refine⟨y,m,_,I,K,λr o v s k n R rr F=>?_⟩
 cases r with
 |new _=>exact k.elim
 | «at» _ _=>exact k.elim
 |newT _=>exact k.elim
 |obj j=>
  let⟨ds,J,k⟩:=k;let⟨p,t,rfl⟩:=rr;let⟨x,q,g⟩:=R.own j _ ds t J;exact⟨p,rfl,.inl ⟨⟨x,SqL.of q⟩,i _ o _ s k n R F ⟨p,t,wks_list.imp<|by intro H ⟨x,q,g⟩;exact⟨x,SqL.of q,g⟩⟩⟩⟩
 | imm d=>
  cases d with
  |list ds=>
   have h:=rr;simp only[Den]at h;let⟨p,x,rfl,f,g⟩:=h;refine⟨p,rfl,.inl ⟨⟨x,f.sq⟩,i _ o _ s k n R F ⟨λH=>∃x,FzL X.kx H p x/\DenAll X.kx H ds x,wks_list.imp λH ⟨x,q,g⟩=>⟨x,q.sq,g⟩,⟨x,f,g⟩,λC D ⟨x,q,g⟩ l=>⟨x,q.mono l,g.mono l⟩⟩⟩⟩
  |tuple ds=>
   have h:=rr;simp only[Den]at h;let⟨p,x,rfl,f,g⟩:=h;refine⟨p,rfl,.inr ⟨⟨x,f⟩,i _ o _ s k n R F ⟨λH=>∃x,SqT X.kx H p x/\DenAll X.kx H ds x,K6,⟨x,f,g⟩,λC D ⟨x,q,g⟩ l=>⟨x,q.mono l,g.mono l⟩⟩⟩⟩
  |none=>exact k.elim
  |bool _=>exact k.elim
  |int _=>exact k.elim
  |str _=>exact k.elim
  |dict _=>exact k.elim
def kI(l:Int)(n:Nat):List aD:=(aax n).map λ(i:Nat)=>abu (l+(i:Int))
def aV(l:Int)(n:Nat):(kI l n).length=n:=by simp[kI]
def pf{l:Int}(h:i<n):(kI l n)[i]?=some (.int (l+(i:Int))):=by simp[kI,h]
theorem zW{l:Int}:Wks K (Itr l n) (kI l n) λ_=>True where
 stop:=λH _=>by rw[aV];exact aab _
 go:=λi H h _=>by rw[aV]at h;exact h
 yld:=λi H x d h _ y=>by
  rw[aV]at h;let⟨e,y⟩:=y;subst e y;exact⟨λ_ _ z=>z,_,pf h,Am _⟩
abbrev Jl(G:WA):WI:=λm K=>G m λrs d=>match rs with|[.imm (.int j)]=>-(2^62)≤j/\j<2^62/\K ⟨kI 0 j.toNat,none⟩ d|_=>False
def aF{i:Int}(h:Den K H (.int i) v):v = .int i:=by simpa[Den]
theorem zN(h:Gl X "range")(v:X.mg "range" = none)(o:MA X [a] G)(q:aac [a] X.env=[(false,eval a X.env)]:=by first|exact fh rfl|rfl):MI X tg (.Call (.Name "range" p) [a] [] pos) (Jl G):=(Ab h v o q).wk<|by
 intro y H z ⟨l,m,K,s,x,f⟩;refine⟨l,m,_,s,x,λrs d vs g k n R rr F=>?_⟩;let⟨j,i,k1,k2,r⟩:∃j:Int,rs=[.imm (.int j)]/\-(2^62)≤j/\j<2^62/\K ⟨kI 0 j.toNat,none⟩ d:=by
  split at k
  .exact⟨_,rfl,k⟩
  .exact k.elim
 subst i
 cases rr with
 |cons t rr=>
  cases rr;have e:=aF (show Den X.kx g _ _ from t);subst e;exact⟨j,rfl,k1,k2,f _ d _ g r n R F ⟨λ_=>True,zW,trivial,λ_ _ _ _=>trivial⟩⟩
def MSt.setN(m:MSt)(n:Nat):MSt:={m with np:=n}
def Src.np(s:Src)(m:MSt):Nat:=match s.own with|none=>m.np|some k=>max m.np (k+1)
def Src.ok(s:Src)(m:MSt):Prop:=match s.own with|none=>True|some k=>m.os[k]?=some s.ds
def o4(s:Src)(g:WG)(w:WS):WS:=λD m1=>∃P:Nat->MSt->Prop,P 0 (m1.setN (s.np m1))/\
 (∀(i:Nat) (d:aD) (m:MSt),s.ds[i]?=some d->m.np=s.np m1->P i m->s.ok m/\g d m λm2=>w {nx:=P (i+1),ct:=P (i+1),bk:=λf=>D.nx (f.setN m1.np),rt:=λr f=>D.rt r (f.setN m1.np)} m2)/\
 ∀m,m.np=s.np m1->P s.ds.length m->s.ok m/\D.nx (m.setN m1.np)
abbrev wFor(d:WI)(g:WG)(w:WS):WS:=λD m=>d m λs m1=>o4 s g w D m1
def Rel.setN{K:Kx}{m:MSt}(R:Rel K α m σ H)(h:n≤α.length)(d:K.eb.np≤n):Rel K α (m.setN n) σ H:=⟨R.nd,R.len,R.own,R.vlen,R.var,h,d,R.ebx⟩
theorem vk{K:Kx}{s:Src}{w:WS}(Rl:Rel K α m1 σ H)(hJ:u7 K α H s J)(h:o4 s g w De m1)(k:EndsOk K m1.np α H De D)
  (hb:∀f t m F De' D',f.take (s.np m1)=α.take (s.np m1)->t.np=s.np m1->Rel K f t m F->w De' t->EndsOk K t.np f F De' D'->tb D' m F):uj J (tMG K g) tb D σ H:=by
 let⟨P,p0,turn,fin⟩:=h;have npk:s.np m1≤α.length:=by
  unfold Src.np;unfold u7 at hJ
  cases e:s.own with
  |none=>exact Rl.npl
  |some j=>
   rw[e]at hJ;let⟨a,ea,_⟩:=hJ;have:=(AD.mp ea).1;have:=Rl.npl;show max m1.np (j+1)≤α.length;omega
 have T:m1.np≤s.np m1:=by
  unfold Src.np;split
  .exact aab _
  .exact aev _ _
 let⟨C,wk,hC⟩:∃C:Hp->Prop,Wks K J s.ds C/\∀f t m F,Rel K f t m F->Ext (s.np m1) α H f F->s.ok t->C F:=by
  unfold u7 at hJ
  cases e:s.own with
  |none=>
   rw[e]at hJ;let⟨C,wk,c0,cm⟩:=hJ;exact⟨C,wk,λf t m F _ x _=>cm H F c0 (Rl.pers x.frm)⟩
  | some j=>
   rw[e]at hJ;let⟨a,ea,wk⟩:=hJ;refine⟨_,wk,λf t m F V x ok=>?_⟩;have hj:j<s.np m1:=by unfold Src.np;rw[e];show j<max _ _;omega
   have ea':f[j]?=some (.L a):=by
    have:=congrArg (λl=>l[j]?) x.pre;simp only[aaO,if_pos hj]at this;rw[this];exact ea
   unfold Src.ok at ok;rw[e]at ok;exact V.own j _ s.ds ea' ok
 have W:∀{f:Al}{t:MSt}{m:St}{F:Hp},Rel K f t m F->t.np=s.np m1->Ext (s.np m1) α H f F->Rel K f (t.setN m1.np) m F:=λV n x=>V.setN (by
  have:=V.npl;rw[n]at this;exact aaw ‹_› ‹_›) Rl.ebl
 refine⟨λi n m F=>n=s.ds.length-i/\i≤s.ds.length/\∃f t,P i t/\t.np=s.np m1/\Rel K f t m F/\Ext (s.np m1) α H f F,⟨s.ds.length,by simp,abh _,α,_,p0,rfl,Rl.setN npk (aaw Rl.ebl T),.of Rl (Frm.refl _ _)⟩,?_⟩;intro i n m F ⟨rfl,hi,f,t,p,hn,V,x⟩
 by_cases Z:i<s.ds.length
 .have hd:s.ds[i]?=some s.ds[i]:=lD Z;let⟨ok,hg⟩:=turn i _ t hd hn p;have c:=hC f t m F V x ok;refine .inr ⟨wk.go i F Z c,λσ2 Y=>∃α2 m2,P (i+1) m2/\m2.np=s.np m1/\Rel K α2 m2 σ2 Y/\Ext (s.np m1) α H α2 Y,λσ2 Y h2=>⟨s.ds.length-(i+1),by omega,rfl,Z,h2⟩,λv Y y=>?_⟩;let⟨grow,d,e1,e2⟩:=wk.yld i F v Y Z c y;rw[hd]at e1;cases e1;have F2:Frm f F Y:=λb o z _=>grow b o z;have R2:Rel K f t m Y:=V.at (V.pers F2) (λb hb=>by
   let⟨ys,z,_⟩:=V.mem hb;rw[z];exact grow b _ z) F2
  have x2:Ext (s.np m1) α H f Y:=x.trans (.of R2 F2);refine⟨f,t,_,_,R2,e2,hg,λm3 σ3 q3 n3 R3=>hb f m3 σ3 Y _ _ x2.pre (n3.trans hn) R3 q3 ?_⟩;have R:m3.np=s.np m1:=n3.trans hn;have x3:Ext m3.np α H f Y:=by rw[R];exact x2
  refine⟨λI m4 U H4 q4 n4 R4 x4=>⟨I,m4,q4,n4.trans R,R4,?_⟩,λr I m4 U v4 H4 q4 n4 R4 rr x4=>?_,λI m4 U H4 q4 n4 R4 x4=>?_,λI m4 U H4 q4 n4 R4 x4=>⟨I,m4,q4,n4.trans R,R4,?_⟩⟩
  .rw[<-R];exact x3.trans x4
  .have x5:Ext (s.np m1) α H I H4:=by rw[<-R];exact x3.trans x4
   exact k.rt r I (m4.setN m1.np) U v4 H4 q4 rfl (W R4 (n4.trans R) x5) (rr.ext x3) (x5.less T)
  .have x5:Ext (s.np m1) α H I H4:=by rw[<-R];exact x3.trans x4
   exact k.nx I (m4.setN m1.np) U H4 q4 rfl (W R4 (n4.trans R) x5) (x5.less T)
  .rw[<-R];exact x3.trans x4
 .have e:i=s.ds.length:=by omega
  subst e;let⟨ok,q⟩:=fin t hn p;exact .inl ⟨wk.stop F (hC f t m F V x ok),k.nx f (t.setN m1.np) m F q rfl (W V hn x) (x.less T)⟩
theorem PH{i:WI}(o:MI X tg B i)(l:MG X tg g)(r:MSs X A w)(T:afo (model X.prog X.w) X.A X.env X.xe)(C:X.calm=true:=by rfl)
  (U:∀x,aaQ B X.env x=pure x:=by intro _;rfl):MS X (.For tg B A [] pos) (wFor i g w):=(Uh T C o l r U).wk<|by intro D V H ⟨v,m,Y,j,t,k⟩;exact
 ⟨v,m,_,j,t,λs h J y q n R F P=>vk R P q (by rw[n];exact k.ext (.of R F)) λf h p y d W _ _ z K I=>⟨f,h,d,z,K,I⟩⟩
def zr(t:WT)(w:WS):WS:=λD g=>∃P:Nat->MSt->Prop,(∃n,P n g)/\∀n m,m.np=g.np->P n m->t m λc f=>if c=true then w {D with nx:=λm2=>∃d,d<n/\P d m2,ct:=λm2=>∃d,d<n/\P d m2,bk:=D.nx} f else D.nx f
theorem DE(Y:MT X t M)(T:MSs X A w)(V:afo (model X.prog X.w) X.A X.env X.xe):MS X (.While t A [] pos) (zr M w):=(Dm V Y T).wk<|by
 intro D σ H ⟨C,m,De,J,⟨P,⟨Z,p0⟩,l⟩,k⟩;refine⟨λn f i=>∃d g,P n g/\g.np=m.np/\Rel X.kx d g f i/\Ext m.np C H d i,⟨Z,C,m,p0,rfl,J,.of J (Frm.refl _ _)⟩,?_⟩;intro n I H1 ⟨j,m1,p1,n1,K,U⟩;refine⟨j,m1,_,K,l n m1 n1 p1,λbb m2 W q n2 R2 F2=>?_⟩;have x:=U.trans (.of R2 F2);have p:m2.np=m.np:=n2.trans n1
 cases bb with
 |true=>
  refine iteT ⟨λo F=>∃h,h<n/\∃d g,P h g/\g.np=m.np/\Rel X.kx d g o F/\Ext m.np C H d F,by intro o F ⟨h,s,z⟩;exact⟨h,s,z⟩,j,m2,_,R2,q,?_⟩;rw[p];exact⟨λd g f i ⟨h,s,q⟩ nn R y=>⟨h,s,d,g,q,nn,R,x.trans y⟩,λr d g f v i q nn R rr y=>k.rt r d g f v i q nn R (rr.ext x) (x.trans y),λd g f i q nn R y=>k.nx d g f i q nn R (x.trans y),λd g f i ⟨h,s,q⟩ nn R y=>⟨h,s,d,g,q,nn,R,x.trans y⟩⟩
 |false=>
  exact iteF (k.nx j m2 I W q p R2 x)
end
section
variable {K:Kx}{f:Al}{m:MSt}{j:St}{H:Hp}
theorem Rel.setW(R:Rel K f m j H)(s:f[q]?=some ao)(x:Pers H H')(F:∀b,b∉ao.ads->H' b=H b)(g:OwnAt K H' ao ds'):Rel K f {m with os:=m.os.set q ds' } j H'/\Frm f H H':=by
 have u:Frm f H H':=λb o e nb=>by rw[F b λz=>nb (kl s z)];exact e
 have l:∀(k:Nat) (a:Ao) w,f[k]?=some a->(m.os.set q ds')[k]?=some w->OwnAt K H' a w:=λk a w y n=>by
  by_cases c:q=k
  .subst c;rw[aa2 (by rw[<-R.len];exact(AD.mp s).1)]at n
   grind
  .rw[aaP c]at n;exact(R.own k a w y n).mono x λb A=>F b λz=>iz R.nd s y c z A
 refine⟨⟨R.nd,by simp[R.len],l,R.vlen,λi r h=>?_,R.npl,R.ebl,R.ebx.trans ⟨rfl,u,λ_ h=>.inl h,λa s=>?_⟩⟩,u⟩
 .obtain⟨v,ev,rv⟩:=R.var i r h;refine⟨v,ev,?_⟩
  cases r with
  |imm d=>exact Den.mono x rv
  |obj k=>exact rv
  | «at» k p=>exact rv
  |new ds=>exact rv
  |newT t=>exact rv
 .obtain⟨k,ao,e1,hm⟩:=jF s;have B:k<(m.os.set q ds').length:=by rw[abe,<-R.len];exact(AD.mp e1).1
  let⟨o,q,_⟩:=(l k ao _ e1 (lD B)).mem hm;exact⟨o,q⟩
theorem Rel.setO{x:List V}(R:Rel K f m j H)(a:f[q]?=some (.L l))(c:H l=some (.lst xs))(g:DenAll K H ds' x):Rel K f {m with os:=m.os.set q ds' } j (upd H l (.lst x))/\Frm f H (upd H l (.lst x)):=by
 have p:Pers H (upd H l (.lst x)):=xo c;exact R.setW a p (λb h=>aB λe=>h (aaa.mpr e)) ⟨x,aE,g.mono p⟩
end
def yH(own:List Str)(ps:List Nat)(vs:List (Option R)):List (Option R):=own.map (λ_=>none)++ps.map λi=>(vs[i]?).join
def oU(own:List Str)(ps:List Nat)(m:MSt):MSt:=⟨yH own ps m.vs,m.os++[[]],m.os.length+1⟩
abbrev wIfT(tt:WT)(w:WS):WS:=λD m=>tt m λb a=>if b=true then w D a else D.nx a
abbrev J4(q:Nat)(w:WE):WS:=λD m=>w m λr a=>jx (λd=>∃ds,a.os[q]?=some ds/\ds.length<aal/\D.nx {a with os:=a.os.set q (ds++[d])}) r
abbrev se(b:WI)(own:List Str)(ps:List Nat)(g:WG)(tt:WT)(w:WE):WE:=λm K=>b m λs m1=>
 o4 s g (wIfT tt (J4 m1.os.length w)) {nx:=λa=>K (.new (a.os.getD m1.os.length [])) {m1 with os:=a.os.take m1.os.length},rt:=λ_ _=>False} (oU own ps m1)
abbrev BF(e:WI)(own:List Str)(ps:List Nat)(g:WG)(tt:WT)(w:WI)(d:WG)(t:WT)(b:WE):WE:=λm K=>e m λs m1=>
 o4 s g (wIfT tt λD m2=>w m2 λs2 c=>o4 s2 d (wIfT t (J4 m1.os.length b)) D c) {nx:=λa=>K (.new (a.os.getD m1.os.length [])) {m1 with os:=a.os.take m1.os.length},rt:=λ_ _=>False} (oU own ps m1)
abbrev Ay:WT:=λm K=>K true m
section
variable {K:Kx}
theorem Cn{w:WE}{m:MSt}(c:α[q]?=some (.L l))(f:Rel K α m σ H)(h:J4 q w De m)(k:EndsOk K m.np α H De D):yu l (tM K w) D σ H:=by
 refine⟨α,m,_,f,h,λr o v s a n R rr F=>?_⟩;let⟨d,p,hd,ds,e,i,a⟩:=fI rr a;let⟨x,b,g⟩:=R.own q _ ds c e;let⟨R2,j⟩:=R.setO c b (g.append (DenAll.cons hd DenAll.nil));exact⟨x,b,by rw[<-g.length];exact i,k.nx α _ σ _ a n R2 (.of R2 (F.trans j))⟩
theorem zP{tt:WT}{m:MSt}(d:Rel K α m σ H)(h:wIfT tt w De m)(k:EndsOk K m.np α H De D)
  (e:∀a b,a.np=m.np->Rel K α a σ b->w De a->EndsOk K a.np α b De D->tb D σ b):tIfT (tMT K tt) tb D σ H:=by
 refine⟨α,m,_,d,h,λf a b q n R F=>?_⟩;have c:EndsOk K a.np α b De D:=by rw[n];exact k.ext (.of R F)
 cases f with
 |true=>rw[if_pos rfl]at q;exact iteT (e a b n R q c)
 |false=>rw[if_neg aaj]at q;exact iteF (c.nx α a σ b q rfl R (.of R (Frm.refl _ _)))
theorem zG{own:List Str}{ps:List Nat}{s:Src}{m:MSt}{Kc:R->MSt->Prop}(Rl:Rel K α m σ H)(n1:m1.np=m.np)(c:Rel K α m1 σ H1)(F1:Frm α H H1)(S:u7 K α H1 s J)(M:H1 l=none)
  (h:o4 s g w {nx:=λf=>Kc (.new (f.os.getD m1.os.length [])) {m1 with os:=f.os.take m1.os.length},rt:=λ_ _=>False} (oU own ps m1))
  (fin:∀r f v u,Kc r f->f.np=m.np->Rel K α f σ u->RelR K α H u r v->Frm α H u->Q v u)
  (hb:∀A f D u F Z,A[m1.os.length]?=some (.L l)->m1.os.length<f.np->Rel K A f D u->w F f->EndsOk K f.np A u F Z->tb Z D u) :
  uj J (tMG K g) tb {nx:=λ_ u=>Q (.ref l) u,rt:=λ_ _=>False} (iM own ps σ) (upd H1 l (.lst [])):=by
 have pα:l∉ads α:=c.out M;have pe:Pers H1 (upd H1 l (.lst [])):=bt (.inl M);have B:α.length=m1.os.length:=c.len;have V:(α++[.L l])[m1.os.length]?=some (.L l):=by rw[aaM (by omega),<-B];simp
 have Y:Rel K α m1 σ (upd H1 l (.lst [])):=c.lay M;let⟨Rm,extm⟩:=rE (ao:=.L l) (ds:=[]) Y ⟨m1,σ,c⟩ (cI M) (by simp[Ao.ads]) (λb hb=>by cases aaa.mp hb;exact M) ⟨[],aE,DenAll.nil⟩;have R0:Rel K (α++[.L l]) (oU own ps m1) (iM own ps σ) (upd H1 l (.lst [])):=by
  refine⟨Rm.nd,by simp[oU,B],Rm.own,by simp[iM,oU,yH],λi r z=>?_,by simp[oU,B],by have:=c.ebl;have:=c.npl;show K.eb.np≤m1.os.length+1;omega,Rm.ebx⟩;have E:(yH own ps m1.vs)[i]?=some (some r):=z;unfold yH at E
  by_cases hi:i<own.length
  .rw[aaF (by simpa using hi),aai]at E
   cases q:own[i]? with
   |none=>rw[q]at E;cases E
   |some y=>rw[q]at E;cases E
  .rw[aaM (by simpa using hi),iO,aai]at E
   cases q:ps[i-own.length]? with
   |none=>rw[q]at E;cases E
   | some p=>
    rw[q]at E;have T:(m1.vs[p]?).join=some r:=aas E;have hv:m1.vs[p]?=some (some r):=by
     cases y:m1.vs[p]? with
     |none=>rw[y]at T;cases T
     |some y'=>rw[y]at T;cases y' with
      |none=>cases T
      |some y'=>cases T;rfl
    let⟨v,ev,L⟩:=Rm.var p r hv;refine⟨v,?_,L⟩;unfold iM;rw[aaM (by simpa using hi),iO,aai,q];show some ((σ[p]?).join)=some (some v);rw[ev];rfl
 have hJ':u7 K (α++[.L l]) (upd H1 l (.lst [])) s J:=by
  unfold u7 at S⊢
  cases e:s.own with
  |none=>
   rw[e]at S;let⟨C,wk,c0,cm⟩:=S;exact⟨C,wk,cm _ _ c0 pe,cm⟩
  |some j=>
   rw[e]at S;let⟨a,ea,wk⟩:=S;exact⟨a,by rw[aaF (AD.mp ea).1];exact ea,wk⟩
 have X:m1.os.length<s.np (oU own ps m1):=by
  unfold Src.np;split
  .exact abv _
  .exact aav (abv _) (aev _ _)
 refine vk R0 hJ' h ⟨λA f D u q n O x=>?_,λ_ _ _ _ _ _ z=>z.elim,λ_ _ _ _ z=>z.elim,λ_ _ _ _ z=>z.elim⟩ λA f D u F Z hp hnp O h' k'=>hb A f D u F Z ?_ (by rw[hnp];exact X) O h' k'
 .
  have n':f.np=m1.os.length+1:=n;have x':Ext (m1.os.length+1) (α++[.L l]) (upd H1 l (.lst [])) A u:=x;have F':Frm α H1 u:=λb o e nb=>by
   have W:b≠l:=bv e M;refine x'.frm b o (by rw[aB W];exact e) λz=>?_;rw[jT]at z;rcases aaG.mp z with z|z
   .exact nb z
   .exact W (by simpa[ads,Ao.ads]using z)
  have pe':Pers H1 u:=c.pers F';have I:∀k,k<m1.os.length+1->A[k]?=(α++[.L l])[k]?:=λk U=>by
   have:=congrArg (λz=>z[k]?) x'.pre;simp only[aaO,if_pos U]at this;exact this
  have hlen':m1.os.length+1≤f.os.length:=by
   have:=O.npl;rw[n',O.len]at this;exact this
  have hq:m1.os.length<f.os.length:=by assumption
  have eq1:f.os[m1.os.length]?=some (f.os.getD m1.os.length []):=by
   rw[aat,lD hq];rfl
  let⟨xs,y1,y2⟩:=O.own m1.os.length (.L l) _ (by rw[I _ (abv _)];exact V) eq1;have G:∀(k:Nat) (a:Ao) (es:List aD),α[k]?=some a->(f.os.take m1.os.length)[k]?=some es->OwnAt K u a es:=λk a es z1 N=>by
   rw[aaO]at N;have U:k<m1.os.length:=by rw[<-B];exact(AD.mp z1).1
   rw[if_pos U]at N;exact O.own k a es (by rw[I k (by omega),aaF (by omega)];exact z1) N
  have tl:(f.os.take m1.os.length).length=α.length:=by rw[aaC];omega
  have P:Ext K.eb.np α H1 α u:=⟨rfl,F',λ_ h=>.inl h,λa ha=>by
   let⟨k,ao,e1,hm⟩:=jF ha;have U:k<(f.os.take m1.os.length).length:=by rw[tl];exact(AD.mp e1).1
   let⟨o,q,_⟩:=(G k ao _ e1 (lD U)).mem hm;exact⟨o,q⟩⟩
  refine fin _ _ (.ref l) u q n1 ⟨c.nd,tl.symm,G,c.vlen,λi r z=>?_,c.npl,c.ebl,c.ebx.trans P⟩ ?_ (F1.trans F')
  .obtain⟨v,ev,L⟩:=c.var i r z;refine⟨v,ev,?_⟩
   cases r with
   |imm d=>exact Den.mono pe' L
   |obj k=>exact L
   | «at» k p=>exact L
   |new ds=>exact L
   |newT t=>exact L
  .refine⟨l,xs,rfl,?_,y1,y2⟩
   cases z:H l with
   |none=>rfl
   |some o=>
    have:=F1 l o z pα;rw[M]at this;cases this
 .have:=congrArg (λz=>z[m1.os.length]?) hp;simp only[aaO,if_pos X]at this;rw[this];exact V
end
section
variable {X:Cx}{scope sc:Scope}{own fr:List Str}{ps:List Nat}{elt tg a j b:Expr}{ifs e:List Expr}{pos d u:Pos}{w o:WI}{g A:WG}{tt p:WT}{f:WE}
theorem wd(h:tM X.kx (se w own ps g tt f) σ H Q):zH (tMI X.kx w) own ps (tl1 (tMG X.kx g) (tMT X.kx tt) (tM X.kx f)) σ H Q:=by
 let⟨q,m,L,i,C,c⟩:=h;refine⟨q,m,_,i,C,λs m1 J K k n1 R G y l z=>?_⟩;exact zG i n1 R G y z k c λx I n O D N r v t F E=>zP t F E λm2 M n2 R2 B k2=>Cn r R2 B k2
theorem F9(h:tM X.kx (BF w own ps g tt o A p f) σ H Q):zH (tMI X.kx w) own ps (tl2 (tMG X.kx g) (tMT X.kx tt) (tMI X.kx o) (tMG X.kx A) (tMT X.kx p) (tM X.kx f)) σ H Q:=by
 let⟨D,m,Kc,y,V,r⟩:=h;refine⟨D,m,_,y,V,λs m1 J H1 k n1 R F1 M l S=>?_⟩;refine zG y n1 R F1 M S k r λq m' C H' N D' E n I h' Z=>zP I h' Z λm2 H2 n2 R2 T k2=>?_;refine⟨q,m2,_,R2,T,λs2 x J2 H3 U v t K i=>?_⟩;have L:m1.os.length<s2.np x:=by
  have:m1.os.length<x.np:=by rw[v,n2];exact n
  unfold Src.np;split
  .omega
  .exact aav this (aev _ _)
 refine vk t i U (by rw[v];exact k2.ext (.of t K)) λα4 m4 G H4 Y D4 c F O h4 P=>zP O h4 P λm5 H5 n5 W h5 B=>Cn ?_ W h5 B;have:=congrArg (λz=>z[m1.os.length]?) c;simp[aaO,if_pos L]at this;rw[this];exact E
theorem FV(S:cr own fr scope sc)(r:MI X tg a w)(n:∀cl s H C ex,MG (bi X scope cl (own++fr) s H C ex) tg g)(l:∀cl s H C ex,PTs (bi X scope cl (own++fr) s H C ex) ifs (tMT X.kx tt))
  (m:∀cl s H C ex,ME (bi X scope cl (own++fr) s H C ex) elt f) (c:X.env.scope=sc:=by rfl) (k:ps.map (λi=>X.N[i]?)=fr.map some:=by rfl) (q:X.calm=true:=by rfl) (t:∀x,aaQ a X.env x=pure x:=by intro _;rfl) :
  ME X (.ListComp elt [⟨tg,a,ifs,0⟩] scope pos) (se w own ps g tt f):=(Df S r n l m c k q t).wk λ_ _ _ h=>wd h
theorem NQ:PTs X [] (tMT X.kx Ay):=by intro c s i H Q I ⟨l,m,K,R,k,h⟩;exact Oj c s i H Q I (h true m H k rfl R (Frm.refl _ _))
def JA{t:WT}(h:MT X c t):PTs X [c] (tMT X.kx t):=Mi h
theorem GJ(S:cr own fr scope sc)(O:X.N.Nodup)(I:X.N[i]?=some y)(h:X.env.scope.names.lookup y=some .local)(J:MI X tg a w)(G:∀cl s H C ex,MG (bi X scope cl (own++fr) s H C ex) tg g)(B:∀cl s H C ex,PTs (bi X scope cl (own++fr) s H C ex) ifs (tMT X.kx tt))
  (M:∀cl s H C ex,ME (bi X scope cl (own++fr) s H C ex) elt f) (l:abx (.ListComp elt [⟨tg,a,ifs,0⟩] scope pos) (some (.Name y u)) d.line X.env=pure true:=by rfl)
  (c:X.env.scope=sc:=by rfl) (t:ps.map (λi=>X.N[i]?)=fr.map some:=by rfl) (N:X.calm=true:=by rfl) (P:∀x,aaQ a X.env x=pure x:=by intro _;rfl) :
  MS X (.Assign [.Name y u] (.ListComp elt [⟨tg,a,ifs,0⟩] scope pos) d) (wSet i (se w own ps g tt f)):=(Di S O I h J G B M l c t N P).wk λD E H ⟨L,m,U,z,K,k⟩=>
 wd ⟨L,m,_,z,K,λr Q v T q n R rr F=>vD R n F rr q k.nx ⟨m,E,z⟩⟩
theorem FE(S:cr own fr scope sc)(V:X.N.Nodup)(K:X.N[i]?=some y)(B:X.env.scope.names.lookup y=some .local)(P:MI X tg a w)(J:∀cl s H C ex,MG (bi X scope cl (own++fr) s H C ex) tg g)(M:∀cl s H C ex,PTs (bi X scope cl (own++fr) s H C ex) ifs (tMT X.kx tt))
  (z:∀cl s H C ex,MI (bi X scope cl (own++fr) s H C ex) j b o) (l:∀cl s H C ex,MG (bi X scope cl (own++fr) s H C ex) j A) (G:∀cl s H C ex,PTs (bi X scope cl (own++fr) s H C ex) e (tMT X.kx p))
  (L:∀cl s H C ex,ME (bi X scope cl (own++fr) s H C ex) elt f) (h:abx (.ListComp elt [⟨tg,a,ifs,0⟩,⟨j,b,e,0⟩] scope pos) (some (.Name y u)) d.line X.env=pure true:=by rfl)
  (E:X.env.scope=sc:=by rfl) (c:ps.map (λi=>X.N[i]?)=fr.map some:=by rfl) (N:X.calm=true:=by rfl) (T:∀x,aaQ a X.env x=pure x:=by intro _;rfl)
  (t:∀cl C x,aaQ b (af6 scope cl C X.env) x=pure x:=by intro _ _ _;rfl) :
  MS X (.Assign [.Name y u] (.ListComp elt [⟨tg,a,ifs,0⟩,⟨j,b,e,0⟩] scope pos) d) (wSet i (BF w own ps g tt o A p f)):=(Gf S V K B P J M z l G L h E c N T t).wk λD O H ⟨Q,m,Y,I,U,k⟩=>
 F9 ⟨Q,m,_,I,U,λr W v Z q n R rr F=>vD R n F rr q k.nx ⟨m,O,I⟩⟩
end
def bz{i:Str}(h:Den K H (.str i) v):v = .str i:=by simpa[Den]
def js{i:Bool}(h:Den K H (.bool i) v):v = .bl i:=by simpa[Den]
def ij(h:Den K H .none v):v = .non:=by simpa[Den]
def dw(i:Int):RelR K α Hb H (.imm (.int i)) (.int i):=rfl
def k7(i:Bool):RelR K α Hb H (.imm (.bool i)) (.bl i):=rfl
def z7(i:Str):RelR K α Hb H (.imm (.str i)) (.str i):=rfl
def xI:RelR K α Hb H (.imm .none) .non:=rfl
def oO{d:aD}(h:Den K H d v):RelR K α Hb H (.imm d) v:=h
def b5(h:Den K H (.tuple ds) v):∃a xs,v = .ref a/\SqT K H a xs/\DenAll K H ds xs:=by simpa only[Den]
def f8(f:SqT K H a xs)(g:DenAll K H ds xs):Den K H (.tuple ds) (.ref a):=by  exact⟨a,xs,rfl,f,g⟩
section
variable {X:Cx}
def oAdd:WO
 | .imm (.int i),.imm (.int j),_,K=>K (.imm (.int (i+j)))
 | .imm (.str x),.imm (.str y),_,K=>x.length+y.length≤aal/\K (.imm (.str (x++y)))
 | .imm (.tuple a),.imm (.tuple b),_,K=>a.length+b.length≤aal/\K (.imm (.tuple (a++b)))
 |r1,r2,m,K=>∃c d,lsOf m r1=some c/\lsOf m r2=some d/\c.length+d.length≤aal/\K (.new (c++d))
theorem aK:OpR X (acd .Add) (rM X.kx oAdd):=by
 intro l s w H x y v u Q I M O ⟨α,m,σ,H0,H1,r1,r2,Kc,R,K,G,h,f⟩;unfold oAdd at h
 split at h
 .rename_i _ _ i j;have J:=aF (show Den X.kx H (.int i) x from K);have P:=aF (show Den X.kx H (.int j) y from G);subst J P;exact Qm l s w H _ _ v u Q I M O ⟨i,j,rfl,rfl,f _ _ H h R (dw _) (Frm.refl _ _)⟩
 .rename_i _ _ i j;have J:=bz (show Den X.kx H (.str i) x from K);have P:=bz (show Den X.kx H (.str j) y from G);subst J P;exact yk l s w H _ _ v u Q I M O ⟨i,j,rfl,rfl,h.1,f _ _ H h.2 R (z7 _) (Frm.refl _ _)⟩
 .rename_i _ _ ds es;let⟨a,L,rfl,V,E⟩:=b5 (show Den X.kx H (.tuple ds) x from K);let⟨b,U,rfl,T,D⟩:=b5 (show Den X.kx H (.tuple es) y from G);let⟨hz,h⟩:=h
  by_cases hx:L=[]
  .subst hx
   cases M;cases O
   let⟨q,r,p1,_⟩:=I.tuple V;let⟨c,z,p2,_⟩:=I.tuple T;cases r;let⟨⟨W,dd,S,Y⟩,o,N,n,hd⟩:=id p1;let⟨⟨F,B,A,C⟩,g,d,n2,k⟩:=id p2;simp only at N hd d k;subst N hd d k;have Z:ds=[]:=by cases ds with|nil=>rfl|cons _ _=>have:=E.length;simp at this
   subst Z;exact afC ⟨_,o,rfl⟩ ⟨_,g,rfl⟩ afp agn ad1 adV (adC _ _)
    (tuple_addW0 a b _ c.toArray n n2 dd B Y C (by simp)) ⟨o,g,⟨.ref b,H,I,rfl,f _ _ H h R (show Den X.kx H (.tuple ([]++es)) (.ref b)from G) (Frm.refl _ _)⟩⟩
  .refine JQ l s w H _ _ v u Q I M O ⟨a,b,L,U,rfl,rfl,V,T,hx,by rw[<-E.length,<-D.length];exact hz,λe=>?_,λe p t=>?_⟩
   .subst e;have Z:es=[]:=by cases es with|nil=>rfl|cons _ _=>have:=D.length;simp at this
    subst Z;exact f _ _ H (by rw[aaY]at h;exact h) R (oO K) (Frm.refl _ _)
   .exact f _ _ _ h (R.lay t) (oO<|f8 (SqT.of aE) ((E.append D).mono (bt (.inl t)))) (cI t)
 .obtain⟨ds,es,J,P,hz,h⟩:=h;let⟨a,L,rfl,V,E⟩:=K.list R J;let⟨b,U,rfl,T,D⟩:=G.list R P
  cases M;cases O
  let⟨q,r,⟨⟨W,dd,S,Y⟩,n,o,N,hdd,hd⟩,_⟩:=I.list V;let⟨c,z,⟨⟨F,B,A,C⟩,n2,g,d,hdd2,k⟩,_⟩:=I.list T;simp only at N hd d k;subst N hd d k;have hzz:L.length+U.length≤aal:=by rw[<-E.length,<-D.length];exact hz
  refine afC ⟨_,o,rfl⟩ ⟨_,g,rfl⟩ noFill_list_add seq_list_add PySem.F.slot_list_add PySem.F.entry_list_add (PySem.F.args_list_add_2 _ _) (list_addW a b q.toArray c.toArray n n2 dd B Y C (by have:=r.length;have:=z.length;simp only[aaI];omega)) ⟨o,g,?_⟩;have ea:q.toArray++c.toArray=(q++c).toArray:=by simp
  rw[ea];have t:H s.heap.objs.size=none:=I.fresh;exact⟨.ref _,_,I.lnew (t':=s.toks) (r.append z) (by rw[aan];omega),rfl,f _ _ _ h (R.lay t) ⟨_,L++U,rfl,t,aE,(E.append D).mono (bt (.inl t))⟩ (cI t)⟩
def oII(C:Int->Int->Prop)(g:Int->Int->Int):WO
 | .imm (.int i),.imm (.int j),_,K=>C i j/\K (.imm (.int (g i j)))
 |_,_,_,_=>False
def oIB(g:Int->Int->Bool):WO
 | .imm (.int i),.imm (.int j),_,K=>K (.imm (.bool (g i j)))
 |_,_,_,_=>False
theorem sV{f:Ad->Ad->Sem Ad}{C:Int->Int->Prop}{g:Int->Int->Int}(h:OpR X f (rI C λi j=>.int (g i j))):OpR X f (rM X.kx (oII C g)):=by
 intro p s b H x y v u Q I r n ⟨t,m,o,z,w,r1,q,K,R,k,d,a,c⟩;unfold oII at a
 split at a
 .rename_i _ _ i j;have e:=aF (show Den X.kx H _ x from k);have l:=aF (show Den X.kx H _ y from d);subst e l;exact h p s b H _ _ v u Q I r n ⟨i,j,rfl,rfl,a.1,c _ _ H a.2 R (dw _) (Frm.refl _ _)⟩
 .simp_all
theorem vI{f:Ad->Ad->Sem Ad}{g:Int->Int->Bool}(h:OpR X f (rI0 λi j=>.bl (g i j))):OpR X f (rM X.kx (oIB g)):=by
 intro p s a H x y v u Q I r n ⟨t,m,o,z,w,r1,q,K,R,k,d,c,b⟩;unfold oIB at c
 split at c
 .rename_i _ _ i j;have e:=aF (show Den X.kx H _ x from k);have l:=aF (show Den X.kx H _ y from d);subst e l;exact h p s a H _ _ v u Q I r n ⟨i,j,rfl,rfl,b _ _ H c R (k7 _) (Frm.refl _ _)⟩
 .simp_all
def oSub:WO:=oII (λ_ _=>True) λi j=>i-j
theorem CP:OpR X (acd .Sub) (rM X.kx oSub):=sV (opI λ_ _ _ _ _ _ _ _ q=>sub_int q)
def oMul:WO:=oII agD λi j=>i*j
theorem Lu:OpR X (acd .Mult) (rM X.kx oMul):=sV (opI λ_ _ _ _ _ _ _ h q=>mul_int q h)
def CFd(_ j:Int):Prop:=0<j/\j.natAbs.log2<9000
def Pc:WO:=oII CFd λi j=>i/j
theorem ib:OpR X (acd .FloorDiv) (rM X.kx Pc):=sV (opI λi j _ _ _ _ _ h q=>floordiv_int (by have:=h.1;omega) (by rw[Int.fdiv_eq_ediv_of_nonneg _ (by have:=h.1;omega)];exact q) (.inl (PyProof.noPylong_of_log2 h.2)))
def oMod:WO:=oII (λ_ j=>0<j) λi j=>i%j
def gj:OpR X (acd .Mod) (rM X.kx oMod):=sV Uf
def oPow:WO:=oII CPow λi j=>i^j.toNat
def Nh:OpR X (acd .Pow) (rM X.kx oPow):=sV Ql
def oLt:WO:=oIB λi j=>decide (i<j)
def oLe:WO:=oIB λi j=>decide (i≤j)
def oGt:WO:=oIB λi j=>decide (j<i)
def oGe:WO:=oIB λi j=>decide (j≤i)
def gJ:OpR X (aa8 .Lt) (rM X.kx oLt):=vI UR
def Iy:OpR X (aa8 .LtE) (rM X.kx oLe):=vI Vk
def jD:OpR X (aa8 .Gt) (rM X.kx oGt):=vI Vf
def Bo:OpR X (aa8 .GtE) (rM X.kx oGe):=vI UG
def eqD(f:Bool->Bool):WO:=λr1 r m K=>match asD m r1,asD m r with
 |some d1,some d2=>ab9 d1=true/\ab9 d2=true/\K (.imm (.bool (f (aad d1 d2))))
 |_,_=>False
def eqS(f:Bool->Bool):WO:=λr1 r m K=>∃x y:Str,r1 = .imm (.str x)/\r = .imm (.str y)/\K (.imm (.bool (f (decide (x=y)))))
def eqSs(f:Bool->Bool):WO:=λr1 r m K=>∃x y:List Str,lsOf m r1=some (x.map .str)/\lsOf m r=some (y.map .str)/\x.length=y.length/\K (.imm (.bool (f (decide (x=y)))))
def oEq:WO:=λr1 r m K=>eqD id r1 r m K\/eqS id r1 r m K\/eqSs id r1 r m K
def oNe:WO:=λr1 r m K=>eqD (!·) r1 r m K\/eqS (!·) r1 r m K
theorem i7{K:Kd}{H:Hp}:∀{ns:List Str}{xs:List V},DenAll K H (ns.map .str) xs->xs=ns.map V.str
 |[],_,h=>by simpa only[ DenAll]
 |n::ns,_,h=>by
  let⟨v,vs,rfl,a,b⟩:=h;have e:=bz a;rw[e,i7 b];rfl
theorem rB:∀{ns:List Str}{us:List Ad}{j:Nat}{u:Ad},Vals (ns.map V.str) us->us[j]?=some u->∃x t,ns[j]?=some x/\u = .str x t
 |[],_,_,_,.nil,e=>by simp at e
 |n::ns,_,0,_,.cons r _,e=>by
  simp at e;subst e;let⟨t,h⟩:=r;exact⟨n,t,rfl,h⟩
 |n::ns,_,j+1,u,.cons _ t,e=>by
  let⟨x,b,a,c⟩:=rB t ‹_›;exact⟨x,b,by simpa using a,c⟩
theorem uI(xs ys:List Str)(h:xs.length=ys.length):(aax xs.length).all (λj=>decide (xs.getD j aeG=ys.getD j aeG))=decide (xs=ys):=by
 rw[abl,abD,decide_eq_true_eq];constructor
 .intro q;apply agY h;intro i a b;have:=q i (by simpa);rw[decide_eq_true_eq,aat,aat,lD a,lD b]at this;exact this
 .rintro rfl j _;exact decide_eq_true rfl
theorem JG{s:Io}{x y:V}{v u:Ad}{m:MSt}{r1 r2:R}{xs ys:List Str}(I:Inv X pins σ' H s)(f:Rel X.kx α m σ H)(J:RelR X.kx α H0 H r1 x)(n:RelR X.kx α H1 H r2 y)(z:RelV x v)(Q:RelV y u)
  (G:lsOf m r1=some (xs.map .str)) (L:lsOf m r2=some (ys.map .str)) (F:xs.length=ys.length) (T:X.A.units+64<cLine):∃l b c i,v = .ref l/\u = .ref b/\s.heap.IsList l c/\s.heap.IsList b i/\c.size=xs.length/\i.size=xs.length/\
   ∀j (K:j<c.size) (B:j<i.size),afw X.A.in1 s c[j] i[j] (decide (xs.getD j aeG=ys.getD j aeG)):=by
 let⟨a,U,rfl,S,N⟩:=J.list f G;let⟨b,W,rfl,k,M⟩:=n.list f L;have q:=i7 N;have o:=i7 M;subst q o
 cases z;cases Q
 let⟨c,d,w,_⟩:=I.list S;let⟨i,r,p,_⟩:=I.list k;have h:=d.length;have g:=r.length;rw[iO]at h g;refine⟨a,b,c.toArray,i.toArray,rfl,rfl,w.isList,p.isList,by simp[h],by simp[<-g,F],λj K B=>?_⟩;let⟨x,t,E,P⟩:=rB d (j:=j) (u:=c.toArray[j]) (by simp);let⟨y,O,C,D⟩:=rB r (j:=j) (u:=i.toArray[j]) (by simp);rw[P,D,aat,aat,E,C];have:=afw.str_str (A:=X.A.in1) (s:=s) x t y O;have e:(x==y)=decide (x=y):=by rw[ac9]
 simp_all
theorem bF(k:X.A.units+64<cLine):OpR X (aa8 .Eq) (rM X.kx oEq):=by
 intro p s c H x y v u Q I r i ⟨C,m,A,F,D,r1,B,K,R,g,d,h,f⟩;rcases h with h|⟨z,t,rfl,rfl,h⟩|⟨w,o,e,a,j,h⟩
 .unfold eqD at h
  split at h
  .rename_i d1 d2 e a;let⟨E,q⟩:=g.reads I R r e (aa3 _ (acZ h.1));let⟨bs,n⟩:=d.reads I R i a (aa3 _ (acZ h.2.1));exact eq_dataH q n h.1 h.2.1 k ⟨.bl _,H,I,rfl,f _ _ H h.2.2 R (k7 _) (Frm.refl _ _)⟩
  .exact h.elim
 .have e:=bz (show Den X.kx H (.str z) x from g);have a:=bz (show Den X.kx H (.str t) y from d);subst e a;refine UO p s c H _ _ v u Q I r i ⟨rfl,?_⟩;rw[qw];exact f _ _ H h R (k7 _) (Frm.refl _ _)
 .obtain⟨l,b,its,its2,rfl,rfl,p1,p2,s1,s2,he⟩:=JG I R g d r i e a j k;refine SeqAt.eq_listAt p1 p2 (s1.trans s2.symm) (by omega) he ?_;rw[s1,uI w o j];exact⟨.bl _,H,I,rfl,f _ _ H h R (k7 _) (Frm.refl _ _)⟩
theorem iL(g:X.A.units+64<cLine):OpR X (aa8 .NotEq) (rM X.kx oNe):=by
 intro p s a H x y v u Q I r d ⟨l,m,j,w,n,r1,k,K,R,c,b,h,f⟩;rcases h with h|⟨z,t,rfl,rfl,h⟩
 .unfold eqD at h
  split at h
  .rename_i d1 d2 e1 e;let⟨o,q⟩:=c.reads I R r e1 (aa3 _ (acZ h.1));let⟨bs,i⟩:=b.reads I R d e (aa3 _ (acZ h.2.1));exact ne_dataH q i h.1 h.2.1 g ⟨.bl _,H,I,rfl,f _ _ H h.2.2 R (k7 _) (Frm.refl _ _)⟩
  .simp_all
 .have e1:=bz (show Den X.kx H (.str z) x from c);have e:=bz (show Den X.kx H _ y from b);subst e1 e;refine Uw p s a H _ _ v u Q I r d ⟨rfl,?_⟩;rw[qw];exact f _ _ H h R (k7 _) (Frm.refl _ _)
def jj:R->Bool
 | .imm .none=>true
 |_=>false
def oIsN:WO:=λr1 r _ K=>r = .imm .none/\K (.imm (.bool (jj r1)))
def zF:WO:=λr1 r _ K=>r = .imm .none/\K (.imm (.bool (!jj r1)))
theorem qg(h:RelR K α Hb H r v):decide (v = .non)=jj r:=by
 cases r with
 |obj k=>let⟨a,_,rfl⟩:=h;rfl
 |new ds=>let⟨a,_,rfl,_⟩:=h;rfl
 | «at» k p=>let⟨f,a,_,_,rfl⟩:=h;rfl
 |newT t=>let⟨f,a,rfl,_⟩:=h;rfl
 |imm d=>
  cases d with
  |none=>have e:=ij (show Den K H .none v from h);subst e;rfl
  |bool b=>have e:=js (show Den K H _ v from h);subst e;rfl
  |int b=>have e:=aF (show Den K H _ v from h);subst e;rfl
  |str b=>have e:=bz (show Den K H _ v from h);subst e;rfl
  |list ds=>have c:=h;let⟨a,_,rfl,_⟩:=c;rfl
  |tuple ds=>let⟨a,_,rfl,_⟩:=b5 (h);rfl
  |dict g=>have c:=h;let⟨a,rfl,_⟩:=c;rfl
theorem AF:OpR X (aa8 .Is) (rM X.kx oIsN):=by
 intro p s a H x y v u Q I r g ⟨k,m,i,n,l,r1,j,K,R,d,c,h,f⟩;let⟨e,h⟩:=h;subst e;have b:=ij (show Den X.kx H .none y from c);exact TW p s a H _ _ v u Q I r g ⟨b,by rw[qg d];exact f _ _ H h R (k7 _) (Frm.refl _ _)⟩
theorem pp:OpR X (aa8 .IsNot) (rM X.kx zF):=by
 intro p s a H x y v u Q I r g ⟨k,m,i,n,l,r1,j,K,R,d,c,h,f⟩;let⟨e,h⟩:=h;subst e;have b:=ij (show Den X.kx H .none y from c);exact Kz p s a H _ _ v u Q I r g ⟨b,by rw[qg d];exact f _ _ H h R (k7 _) (Frm.refl _ _)⟩
def uNeg:WU
 | .imm (.int i),_,K=>K (.imm (.int (-i)))
 |_,_,_=>False
theorem dW:UnR X (unaryOp .USub) (uM X.kx uNeg):=by
 intro p s a H x v Q I r ⟨d,m,c,g,r1,K,R,b,h,f⟩;unfold uNeg at h
 split at h
 .rename_i _ i;have e:=aF (show Den X.kx H _ x from b);subst e;exact Qw p s a H _ v Q I r ⟨i,rfl,f _ _ H h R (dw _) (Frm.refl _ _)⟩
 .simp_all
def Cp(m:MSt)(K:R->Prop):R->R->Prop
 | .imm (.tuple ds),.imm (.int i)=>∃d,atI ds i=some d/\K (.imm d)
 | .imm (.str x),.imm (.int i)=>∃c,x.length≤aal/\atI x.cps.toList i=some c/\K (.imm (.str ⟨#[c]⟩))
 |r,.imm (.int i)=>∃ds d,lsOf m r=some ds/\atI ds i=some d/\K (.imm d)
 |_,_=>False
def qp:WO:=λr1 r m K=>Cp m K r1 r
theorem BC{K:Kx}{i:Int}{d:aD}(g:DenAll K H ds xs)(e:atI ds i=some d):∃v,atI xs i=some v/\Den K H d v:=by
 unfold atI at e⊢;rw[<-g.length]
 cases q:ixN ds.length i with
 |none=>rw[q]at e;cases e
 |some j=>
  rw[q]at e;let⟨v,h,a⟩:=g.get (e);exact⟨v,h,a⟩
theorem MF:IxR X (rM X.kx qp):=by
 intro h b p s n H x y v u Q I B D ⟨O,m,N,S,P,r1,G,K,R,t,r,L,o⟩ l;have j:Cp m K r1 G:=L;unfold Cp at j
 split at j
 .rename_i ds i;let⟨d,e,k⟩:=j;let⟨a,E,rfl,f,g⟩:=b5 (t);have q:=aF (show Den X.kx H (.int i) y from r);let⟨z,A,C⟩:=BC g e;exact T7 h b p s n H _ _ v u Q I B D ⟨a,E,i,z,rfl,q,f,A,o _ _ H k R (oO C) (Frm.refl _ _)⟩ l
 .rename_i w i;let⟨c,M,e,k⟩:=j;have J:=bz (show Den X.kx H (.str w) x from t);have q:=aF (show Den X.kx H (.int i) y from r);exact Uo h b p s n H _ _ v u Q I B D ⟨w,i,c,J,q,M,e,o _ _ H k R (z7 _) (Frm.refl _ _)⟩ l
 .rename_i i _ _;let⟨ds,d,F,e,k⟩:=j;let⟨a,E,rfl,f,g⟩:=t.list R F;have q:=aF (show Den X.kx H (.int i) y from r);let⟨z,A,C⟩:=BC g e;exact Bm h b p s n H _ _ v u Q I B D ⟨a,E,i,z,rfl,q,f,A,o _ _ H k R (oO C) (Frm.refl _ _)⟩ l
 .exact j.elim
theorem U4{a b:Expr}{w c:WE}(f:ME X a w)(d:ME X b c)(e:l8 b:=by intro _ _;rfl):ME X (.Subscript a b pos) (wBin qp w c):=(OH MF f d e).wk λ_ _ _ h=>sD h
end
abbrev DG(P:Int->Prop):R->Prop
 | .imm (.int i)=>P i
 |_=>False
abbrev GF(P:Nat->Prop):R->Prop
 | .obj k=>P k
 |_=>False
abbrev on1(P:R->Prop):List R->Prop
 |[r]=>P r
 |_=>False
section
variable {K:Kx}{b:Al}{c H:Hp}{r:R}{v:V}
theorem Jj{P:Int->Prop}(rr:RelR K b c H r v)(h:DG P r):∃i,r = .imm (.int i)/\v = .int i/\P i:=by
 unfold DG at h
 split at h
 .exact⟨_,rfl,aF (K:=K) (H:=H) rr,h⟩
 .simp_all
theorem IE{P:Nat->Prop}(rr:RelR K b c H r v)(h:GF P r):∃k a,r = .obj k/\b[k]?=some (.L a)/\v = .ref a/\P k:=by
 unfold GF at h
 split at h
 .obtain⟨a,e1,e2⟩:=rr;exact⟨_,a,rfl,e1,e2,h⟩
 .simp_all
theorem e8{P:R->Prop}{rs:List R}(rr:RelRs K b c H rs xs)(h:on1 P rs):∃r v,rs=[r]/\xs=[v]/\RelR K b c H r v/\P r:=by
 cases rr with
 |nil=>exact h.elim
 |cons a t=>
  cases t with
  |nil=>exact⟨_,_,rfl,rfl,a,h⟩
  |cons _ _=>exact h.elim
end
section
variable {X:Cx}{o a b c e:Expr}{es:List Expr}{A D E G B J:WE}{C:WA}{pos y j:Pos}
abbrev WM:=R->List R->MSt->(R->MSt->Prop)->Prop
def mM(K:Kx)(l:WM):V->List V->Hp->VK->Prop:=λx p H Q=>∃d m h k n r rs i,Rel K d m h H/\RelR K d k H r x/\RelRs K d n H rs p/\l r rs m i/\∀r g v f,i r g->g.np=m.np->Rel K d g h f->RelR K d H f r v->Frm d H f->Q v f
abbrev wML(d:WM)(A:WE)(C:WA):WE:=λm K=>A m λr m1=>(∃ds,lsOf m1 r=some ds)/\C m1 λrs m2=>d r rs m2 K
theorem Vp{w:WM}(h:tM X.kx (wML w A C) σ H Q):tBM X.K "list" (mM X.kx w) (tM X.kx A) (tMA X.kx C) σ H Q:=by
 let⟨i,m,L,u,M,p⟩:=h;refine⟨i,m,_,u,M,λr m1 v K k n1 R rr x=>?_⟩;let⟨⟨ds,z⟩,k⟩:=k;let⟨a,N,rfl,f,g⟩:=rr.list R z;refine⟨.inl ⟨rfl,N,f⟩,i,m1,_,R,k,λrs m2 vs P k2 n2 d l t=>?_⟩;exact⟨i,m2,σ,H,K,r,rs,L,d,rr.keep u R t,l,k2,λr I v O k n q s F=>p r I v O k (n.trans (n2.trans n1)) q (s.base d (x.trans t)) ((x.trans t).trans F)⟩
theorem Uz{name:Str}{id:String}{l:WM}(slot:Slot "list" name id)(k:typeOf (.builtin id)=pure (.type "method_descriptor"))(m:MtM X id (mM X.kx l))(p:ME X o A)(q:MA X (e::es) C)
  (g:abo o name X.env (eval o X.env)=eval o X.env:=by rfl)
  (i:((abj j (aac (e::es) X.env)).all (λx=>!x.1)&&(acR j (abR [] X.env)).all (λx=>x.1.isSome)
   && decide ((e::es).length+([]:List acW).length+(if ([]:List acW).isEmpty then 0 else 1)<30))=true:=by rfl)
  (f:(y.endLine==j.line)=true:=by rfl) (n:aac (e::es) X.env=(false,eval e X.env)::aac es X.env:=by first|exact aI rfl|rfl) (d:(abj j (aac es X.env)).any (·.1)=false:=by rfl) :
  ME X (.Call (.Attribute o name y) (e::es) [] j) (wML l A C):=(Uj PySem.F.plainAttrs_list slot k m p q g i f n d).wk λ_ _ _ h=>Vp h
def CN:WM:=λr rs m K=>GF (λk=>on1 (jx λd=>∃ds,m.os[k]?=some ds/\ds.length<aal/\K (.imm .none) {m with os:=m.os.set k (ds++[d])}) rs) r
theorem pk:MtM X "list.append" (mM X.kx CN):=by
 intro p s f H x W v F Q I K z ⟨P,m,N,V,T,r,rs,U,R,u,i,h,l⟩;let⟨k,a,rfl,n,rfl,h⟩:=IE u h;let⟨O,S,rfl,rfl,i,h⟩:=e8 i h;let⟨d,rfl,hd,ds,t,L,h⟩:=fI i h;let⟨w,q,g⟩:=R.own _ _ ds n t;let⟨R2,M⟩:=R.setO n q (g.append (DenAll.cons hd DenAll.nil));exact lH p s f H _ _ v F Q I K z ⟨a,w,_,rfl,rfl,q,by rw[<-g.length];exact L,l _ _ _ _ h rfl R2 xI M⟩
def lenR(m:MSt)(K:R->Prop):R->Prop
 | .imm (.str x)=>x.length≤aal/\K (.imm (.int x.length))
 | .imm (.tuple ds)=>K (.imm (.int ds.length))
 |r=>∃ds,lsOf m r=some ds/\K (.imm (.int ds.length))
abbrev oLen:WC:=λrs m K=>on1 (lenR m K) rs
theorem bc:dt X (.builtin "len") (cM X.kx oLen):=by
 intro p s i H z u Q I q ⟨w,m,t,F,rs,K,R,h,d,k⟩;let⟨r,v,rfl,rfl,l,d⟩:=e8 h d;unfold lenR at d
 split at d
 .rename_i x _;have e:=bz (show Den X.kx H _ _ from l);subst e;exact ua p s i H _ u Q I q ⟨x,rfl,d.1,k _ _ H d.2 R (dw _) (Frm.refl _ _)⟩
 .obtain⟨a,n,rfl,f,g⟩:=b5 (l);exact kG p s i H _ u Q I q ⟨a,n,rfl,.inr f,by rw[<-g.length];exact k _ _ H d R (dw _) (Frm.refl _ _)⟩
 .obtain⟨ds,el,d⟩:=d;let⟨a,n,rfl,f,g⟩:=l.list R el;exact kG p s i H _ u Q I q ⟨a,n,rfl,.inl f,by rw[<-g.length];exact k _ _ H d R (dw _) (Frm.refl _ _)⟩
abbrev intR(K:R->Prop):R->Prop
 | .imm (.int i)=>K (.imm (.int i))
 | .imm (.bool b)=>K (.imm (.int (if b then 1 else 0)))
 |_=>False
abbrev oInt:WC:=λrs m K=>on1 (intR K) rs
theorem lq:dt X (.type "int") (cM X.kx oInt):=by
 intro p s f H x u Q I l ⟨q,m,n,t,rs,K,R,h,d,g⟩;let⟨r,v,rfl,rfl,k,d⟩:=e8 h d;unfold intR at d
 split at d
 .rename_i i _;have e:=aF (show Den X.kx H _ _ from k);subst e;exact ug p s f H _ u Q I l (.inl ⟨i,rfl,g _ _ H d R (dw _) (Frm.refl _ _)⟩)
 .rename_i i _;have e:=js (show Den X.kx H _ _ from k);subst e;exact ug p s f H _ u Q I l (.inr ⟨i,rfl,g _ _ H d R (dw _) (Frm.refl _ _)⟩)
 .simp_all
def sqOf(m:MSt):R->Option (List aD)
 | .imm (.tuple ds)=>some ds
 |r=>lsOf m r
theorem RelR.seq{K:Kx}{m:MSt}(R:Rel K α m σ H)(h:RelR K α H0 H r v)(e:sqOf m r=some ds):∃a xs,v = .ref a/\(SqL K H a xs\/SqT K H a xs)/\DenAll K H ds xs:=by
 unfold sqOf at e
 split at e
 .cases e;let⟨a,d,e,f,g⟩:=b5 (h);exact⟨a,d,e,.inr f,g⟩
 .obtain⟨a,d,e,f,g⟩:=h.list R e;exact⟨a,d,e,.inl f,g⟩
def Ik:WC:=λrs m K=>on1 (λr=>∃ds,sqOf m r=some ds/\K (.imm (.tuple ds))) rs
theorem c8:dt X (.type "tuple") (cM X.kx Ik):=by
 intro p s k H F w Q I u ⟨z,m,x,L,rs,K,R,h,d,i⟩;let⟨r,v,rfl,rfl,q,d⟩:=e8 h d
 .obtain⟨ds,e,d⟩:=d;let⟨a,t,rfl,f,g⟩:=q.seq R e;refine qj p s k H _ w Q I u ⟨a,t,rfl,?_⟩;rcases f with f|f
  .exact .inl ⟨f,λl n=>i _ _ _ d (R.lay n) (oO (f8 (SqT.of aE) (g.mono (bt (.inl n))))) (cI n)⟩
  .exact .inr ⟨f,i _ _ _ d R (oO (f8 f g)) (Frm.refl _ _)⟩
def Jw:WC:=λrs m K=>on1 (λr=>∃d,asD m r=some d/\d.showable=true/\d.hasDict=false/\d.shown.length≤aal/\d.depth≤100/\K (.imm (.str d.shown))) rs
theorem iy(P:X.A.guards=some [])(hu:X.A.units+200<cLine):dt X (.builtin "repr") (cM X.kx Jw):=by
 intro p s M H xs us Q I U ⟨Y,m,V,H0,rs,Z,R,h,k,N⟩;let⟨r,v,rfl,rfl,T,k⟩:=e8 h k
 .obtain⟨d,e,hs,hnd,hz,hdp,k⟩:=k;let⟨u,rfl,S⟩:=U.one;let⟨as,q⟩:=T.reads I R S e hnd;have done:∀f n g,_->EP X p M Q (.str d.shown n) {s with heap:=g,toks:=f}:=λf n g l=>⟨.str d.shown,H,I.kept (t':=f) l,⟨_,rfl⟩,N _ _ H k R (z7 _) (Frm.refl _ _)⟩
  cases q with
  |none=>exact PySem.P.repr_of_none (done _ _ _ λ_ _ z=>z)
  |bool b=>
   have:=done (s.toks+1) s.toks s.heap λ_ _ z=>z;simp only[afH]at this;exact PySem.P.repr_of_bool (by cases b<;>exact this)
  |int i t=>
   refine PySem.P.repr_of_int (by simpa[aD.showable]using hs) ?_;have:=done (s.toks+1) s.toks s.heap λ_ _ z=>z;simp only[afH]at this;exact this
  |str x t=>
   have O:=by simpa only[afH]using hz
   refine PySem.P.repr_of_str ?_ O;have:=done (s.toks+1) s.toks s.heap λ_ _ z=>z;simp only[afH]at this;exact this
  |list K L w F=>exact repr_of_reads' (.list K L w F) hs (agK hnd) P (by omega) (λ_ _ z=>z) (λg u f l=>done f u g l) hz
  |tuple K L w F=>exact repr_of_reads' (.tuple K L w F) hs (agK hnd) P (by omega) (λ_ _ z=>z) (λg u f l=>done f u g l) hz
  |dict K L w F W=>simp[abY]at hnd
def sM(K:Kx)(o:R->Option Int->Option Int->MSt->(R->Prop)->Prop):V->Option Int->Option Int->Hp->VK->Prop:=λx l k H Q=>∃d m g i r h,Rel K d m g H/\RelR K d i H r x/\o r l k m h/\∀r v f,h r->Rel K d m g f->RelR K d H f r v->Frm d H f->Q v f
def cutD(xs:List aD)(l h:Option Int):List aD:=(xs.drop (HT.sIx xs.length 0 l)).take (HT.sIx xs.length xs.length h-HT.sIx xs.length 0 l)
def Cy(g:DenAll K H ds xs)(l h:Option Int):DenAll K H (cutD ds l h) (cutV xs l h):=by
 unfold cutD cutV;rw[<-g.length];exact(g.drop _).take _
def VO:R->Option Int->Option Int->MSt->(R->Prop)->Prop:=λr l h m K=>∃ds,lsOf m r=some ds/\K (.new (cutD ds l h))
theorem Dh:SlR X (sM X.kx VO):=by
 intro d s l H x v vl K t q w Q I N F u M z;let⟨P,m,O,T,r,S,R,h,⟨ds,e,k⟩,n⟩:=z;let⟨a,L,rfl,f,g⟩:=h.list R e;exact Ma d s l H _ v vl K t q w Q I N F u M ⟨a,L,rfl,f,λp i=>n _ _ _ k (R.lay i) ⟨p,_,rfl,i,aE,(Cy g t q).mono (bt (.inl i))⟩ (cI i)⟩
def WO1:=MSt->(Option Int->MSt->Prop)->Prop
def tMO(K:Kx)(w:WO1):TO:=λh H Q=>∃g m i,Rel K g m h H/\w m i/\∀r f d,i r f->f.np=m.np->Rel K g f h d->Frm g H d->Q r d
abbrev C9:WO1:=λm K=>K none m
abbrev Ud(w:WE):WO1:=λm K=>w m λr d=>DG (λi=>K (some i) d) r
theorem PO.wk{X:Cx}{e:Option Expr}{t t':TO}(h:PO X e t)(k:∀d H Q,t' d H Q->t d H Q):PO X e t':=λp s d H Q I q=>h p s d H Q I (k _ _ _ q)
abbrev MO(X:Cx)(e:Option Expr)(w:WO1):Prop:=PO X e (tMO X.kx w)
theorem KM:MO X none C9:=(JY).wk<|by intro d H Q ⟨g,m,K,R,h,f⟩;exact f none m H h rfl R (Frm.refl _ _)
theorem Jq(h:ME X e B):MO X (some e) (Ud B):=(Oi h).wk<|by
 intro p H Q ⟨d,m,K,l,n,f⟩;refine⟨d,m,_,l,n,λr m1 v g k n1 R rr F=>?_⟩;let⟨i,rfl,rfl,k⟩:=Jj rr k;exact⟨i,rfl,f _ m1 g k n1 R F⟩
abbrev wSl(f:R->Option Int->Option Int->MSt->(R->Prop)->Prop)(B:WE)(w wh:WO1):WE:=λm K=>B m λr m1=>w m1 λl m2=>wh m2 λu d=>f r l u d λg=>K g d
theorem Ga{w wh:WO1}{K:Pos}(O:SlR X (sM X.kx ob))(z:ME X e B)(U:MO X lo w)(M:MO X hi wh):ME X (.Subscript e (.Slice lo hi none K) pos) (wSl ob B w wh):=(GQ O z U M).wk<|by intro N H Q ⟨g,m,Z,i,V,h⟩;exact
 ⟨g,m,_,i,V,λr m1 v H1 k n1 d rr t=>⟨g,m1,_,d,k,λl m2 H2 k2 n2 f q=>⟨g,m2,_,f,k2,λu s Y I S R F=>⟨g,s,N,H,r,_,R,(rr.keep i d q).keep i f F,I,λT x W L n p P=>h T s x W L (S.trans (n2.trans n1)) n (p.base R ((t.trans q).trans F)) (((t.trans q).trans F).trans P)⟩⟩⟩⟩
end
def agV:Nat->List Ag->List (Option R)
 |_,[]=>[]
 |k,.imm d::as=>some (.imm d)::agV k as
 |k,.own _::as=>some (.obj k)::agV (k+1) as
 |k,.tr _::as=>some (.at k [])::agV (k+1) as
def agO:List Ag->List (List aD)
 |[]=>[]
 | .imm _::as=>agO as
 | .own ds::as=>ds::agO as
 | .tr t::as=>[t]::agO as
def e9(n:Nat)(as:List Ag):MSt:=⟨agV 0 as++aar (n-as.length) none,agO as,(agO as).length⟩
def outR(m:MSt):R->R
 | .imm d=>.imm d
 | .new ds=>.new ds
 | .newT t=>.newT t
 | .obj k=>if k<m.np then .obj k else .new (m.os.getD k [])
 | .at k p=>if k<m.np then .at k p else match p,m.os[k]? with
  |[],some [t]=>.newT t
  |_,_=>.at k p
theorem dI:∀(k:Nat) (as:List Ag),(agV k as).length=as.length
 |_,[]=>rfl
 |k,.imm d::as=>by simp[agV,dI k as]
 |k,.own _::as=>by simp[agV,dI (k+1) as]
 |k,.tr _::as=>by simp[agV,dI (k+1) as]
section
variable {K:Kx}{H:Hp}
theorem RelAs.facts{K:Kd}:∀{as:List Ag}{vs:List V}{β:Al}{pre:Al},RelAs K H as vs β ->
  (agO as).length=β.length/\(∀(k:Nat) (ao:Ao) (ds:List aD),β[k]?=some ao->(agO as)[k]?=some ds->OwnAt K H ao ds)/\
   ∀(i:Nat) (r:R),(agV pre.length as)[i]?=some (some r)->∃v,vs[i]?=some v/\RelS K (pre++β) H r v
 |_,_,_,_,.nil=>⟨rfl,λk a ds h=>by simp at h,λi r h=>by simp[agV]at h⟩
 | _,_,β,pre,.imm (as:=as) hd t=>by
  let⟨d,g,f⟩:=t.facts (pre:=pre);refine⟨d,g,λi r h=>?_⟩
  cases i with
  |zero=>simp[agV]at h;subst h;exact⟨_,rfl,hd⟩
  |succ i=>
   let⟨v,e,q⟩:=f i r (by simpa[agV]using h);exact⟨v,by simpa using e,q⟩
 | _,_,_,pre,.own (a:=a) (β:=β) ha t=>by
  let⟨d,g,f⟩:=t.facts (pre:=pre++[.L a]);refine⟨by simp[agO,d],λk b ds z c=>?_,λi r h=>?_⟩
  .cases k with
   |zero=>simp[agO]at z c;subst z;subst c;exact ha
   |succ k=>exact g k b ds (by simpa using z) (by simpa[agO]using c)
  .cases i with
   |zero=>simp[agV]at h;subst h;exact⟨_,rfl,a,by simp,rfl⟩
   |succ i=>
    let⟨v,e,q⟩:=f i r (by simpa[agV]using h);refine⟨v,by simpa using e,?_⟩;rw[aa6]at q;exact q
 | _,_,_,pre,.tr (a:=a) (τ:=τ) (β:=β) ha el t=>by
  let⟨d,g,f⟩:=t.facts (pre:=pre++[.T τ]);refine⟨by simp[agO,d],λk b ds z c=>?_,λi r h=>?_⟩
  .cases k with
   |zero=>simp[agO]at z c;subst z;subst c;exact ha
   |succ k=>exact g k b ds (by simpa using z) (by simpa[agO]using c)
  .cases i with
   |zero=>simp[agV]at h;subst h;exact⟨_,rfl,τ,a,by simp,el,rfl⟩
   |succ i=>
    let⟨v,e,q⟩:=f i r (by simpa[agV]using h);refine⟨v,by simpa using e,?_⟩;rw[aa6]at q;exact q
theorem sI(m:N.length=nN)(g:n≤nN)(o:as.length=n)(nd:(ads β).Nodup)(a:RelAs K H as vs β)(d:K.eb.np≤(agO as).length)(b:Ext K.eb.np K.eb.be K.eb.H β H):Rel K β (e9 nN as) (start N vs) H:=by
 let⟨h,l,k⟩:=a.facts (pre:=[]);have j:=a.length;refine⟨nd,by rw[<-h];rfl,l,?_,λi r e=>?_,by rw[<-h];exact aab _,d,b⟩
 .unfold start e9;simp only[aan,iO,ac8,dI];omega
 .have e':(agV 0 as++aar (nN-as.length) none)[i]?=some (some r):=e
  by_cases c:i<as.length
  .rw[aaF (by rw[dI];exact c)]at e';let⟨v,f,q⟩:=k i r e';refine⟨v,?_,by simpa using q⟩;unfold start;rw[aaF (by rw[iO];omega),aai,f];rfl
  .rw[aaM (by rw[dI];omega),adU]at e'
   split at e'<;>cases e'
theorem qq{m:MSt}(r:RelAs K H as vs β)(d:m.np=(agO as).length)(R:Rel K α' m σ' H')(x:Ext (agO as).length β H α' H'):AB K H' β (m.os.take m.np)/\Frm β H H'/\β=α'.take (agO as).length:=by
 let⟨c,g,f⟩:=r.facts (pre:=[]);have e:α'.take (agO as).length=β:=by rw[x.pre,c,aau]
 refine⟨⟨?_,λj a ds b z=>?_⟩,x.frm,e.symm⟩
 .have:=R.npl;rw[R.len]at this
  grind
 .rw[<-e,aaO]at b;rw[d,aaO]at z
  by_cases h:j<(agO as).length
  .rw[if_pos h]at b z;exact R.own j a ds b z
  .simp_all
theorem JU{m:MSt}(E:m.np=(agO as).length)(R:Rel K α' m σ' H')(x:Ext (agO as).length β H α' H')(l:β=α'.take (agO as).length)(rr:RelR K α' H H' r v)
  (ok:∀k p,r = .at k p->k<m.np\/(p=[]/\∃t,m.os[k]?=some [t])):RelR K β H H' (outR m r) v:=by
 have out:∀{k:Nat}{c:Ao},¬k<m.np->α'[k]?=some c->∀b∈c.ads,H b=none:=λ{k c} h e b q=>by
  rcases x.new b (kl e q)with z|z
  .exfalso;rw[l]at z;let⟨j,D,ej,w⟩:=jF z;rw[aaO]at ej
   by_cases u:j<(agO as).length
   .rw[if_pos u]at ej;exact iz R.nd e ej (by omega) q w
   .rw[if_neg u]at ej;cases ej
  .exact z
 have i:∀{k:Nat}{c:Ao},k<m.np->α'[k]?=some c->β[k]?=some c:=λ{k c} h e=>by
  simp_all
 cases r with
 |imm d=>exact rr
 |new ds=>exact rr
 |newT t=>exact rr
 | obj k=>
  let⟨a,e,rfl⟩:=rr;unfold outR
  by_cases h:k<m.np
  .simp only[h,if_true];exact⟨a,i h e,rfl⟩
  .simp only[h,if_false];have f:k<m.os.length:=by rw[<-R.len];exact(AD.mp e).1
   have B:m.os[k]?=some (m.os.getD k []):=by rw[aat,lD f];rfl
   let⟨C,A,y⟩:=R.own k _ _ e B;exact⟨a,C,rfl,out h e a (aaa.mpr rfl),A,y⟩
 | «at» k p=>
  let⟨s,a,e,n,rfl⟩:=rr;unfold outR
  by_cases h:k<m.np
  .simp only[h,if_true];exact⟨s,a,i h e,n,rfl⟩
  .simp only[h,if_false];rcases ok k p rfl with z|⟨rfl,t,o⟩
   .exact(h z).elim
   .rw[o];have g:=R.own k _ _ e o;exact⟨s,a,rfl,n,((f9 α').mp R.nd).1 _ (GT e),out h e,g⟩
def okR(m:MSt):R->Prop
 | .at k p=>k<m.np\/(p=[]/\∃t,m.os[k]?=some [t])
 |_=>True
theorem okR.at{m:MSt}(h:okR m r):∀k p,r = .at k p->k<m.np\/(p=[]/\∃t,m.os[k]?=some [t]):=λk p e=>by subst e;exact h
def retK(a:R->List (List aD)->Prop)(m:MSt):R->Prop
 | .at k p=>okR m (.at k p)/\a (outR m (.at k p)) (m.os.take m.np)
 | .imm d=>a (.imm d) (m.os.take m.np)
 | .new ds=>a (.new ds) (m.os.take m.np)
 | .obj k=>a (outR m (.obj k)) (m.os.take m.np)
 | .newT t=>a (.newT t) (m.os.take m.np)
theorem retK.ok{a:R->List (List aD)->Prop}{m:MSt}(h:retK a m r):okR m r/\a (outR m r) (m.os.take m.np):=by
 cases r with
 | «at» k p=>exact h
 |imm d=>exact⟨trivial,h⟩
 |new ds=>exact⟨trivial,h⟩
 |obj k=>exact⟨trivial,h⟩
 |newT t=>exact⟨trivial,h⟩
theorem fn_m{E:XK}(l:K.eb=⟨0,[],λ_=>none⟩)(h:spOf K n sp vs H Q E)(B:N.length=nN)(g:n≤nN)
  (A:∀as b,as.length=n->sp as b->w {nx:=λm=>b (.imm .none) (m.os.take m.np),rt:=λr m=>retK b m r} (e9 nN as)):tMS K w {nx:=λ_ c=>Q .non c,rt:=Q} (start N vs) H:=by
 let⟨as,u,b,o,nd,k,j,f⟩:=h;have y:=sI B g o nd k (by rw[l];exact abh _) (by rw[l];exact⟨rfl,λ_ _ z=>(by cases z),λ_ _=>.inr rfl,λa t=>(by cases t)⟩);refine⟨u,e9 nN as,_,y,A as b o j,⟨λi s e c q d R x=>?_,λr i s e v c q d R rr x=>?_,λ_ _ _ _ z=>z.elim,λ_ _ _ _ z=>z.elim⟩⟩
 .obtain⟨O,F,_⟩:=qq k d R x;exact f _ _ .non c q O xI F
 .obtain⟨O,F,eβ⟩:=qq k d R x;have p:=retK.ok q;exact f _ _ v c p.2 O (JU d R x eβ rr p.1.at) F
end
structure FnM(P:aaK)(w:World)(K:aag)(mg:Str->Option Ad)(base:aaT)(x:Str)(k n:Nat)(sp:SpM):Prop where
 ex:∃(f:Addr) (fd:abX) (ps:List Str),FnOk P w K mg base CX0 k f fd ps (spOf ⟨K,w⟩ n sp)/\mg x=some (.ref f)/\abL K (.ref f)=true/\Binds K fd ps []
 ar:∀as Kc,sp as Kc->as.length=n
structure DefM(K:aag)(mg:Str->Option Ad)(x:Str)(st:Stmt)(ps:List Str):Prop where
 ex:∃(f:Addr) (fd:abX),Fun K x x st f fd/\mg x=some (.ref f)/\Binds K fd ps []
theorem UD{P:aaK}{w:World}{K:aag}{base:aaT}{k:Nat}(D:DefM K mg x st ps)(S:ay N ps (ab st))(p:ps.length=n)(q:N.length=nN)(d:n≤nN)(ar:∀as b,sp as b->as.length=n)
  (a:∀(c:Ad) (A:abf) (outer:List Env) (s:Io) (H:Hp) (E:XK) (f:Addr),Room k (A.deeper (ad0 x (ab st) s.heap.objs.size f c)) ->
   ∃e,MSs (cxOf CX0 P w K mg base N x (ab st) f c A outer s H E).nox (bM st) e/\∀as b,as.length=n->sp as b->e {nx:=λm=>b (.imm .none) (m.os.take m.np),rt:=λr m=>retK b m r} (e9 nN as)) :
  FnM P w K mg base x (k+1) n sp:=by
 let⟨f,fd,F,i,l⟩:=D.ex;refine⟨⟨f,fd,ps,F.ok S (λvs H Q E h=>by rw[p];exact h.len) (λc A outer s H vs Q E o h=>?_),i,F.kp,l⟩,ar⟩;let⟨e,g,j⟩:=a c A outer s H E f o;exact⟨_,g,fn_m rfl h q d j⟩
section
variable {X:Cx}{a:Expr}{es:List Expr}{w:WA}{pos p:Pos}{k n:Nat}{sp:SpM}{x:Str}
theorem GL(F:FnM X.prog X.w X.K X.mg X.base x k n sp)(j:Room k X.A)(l:MA X (a::es) w)(d:Gl X x:=by rfl)(h:(x==("__debug__" : Str))=false:=by decide)(c:aac (a::es) X.env=(false,eval a X.env)::aac es X.env:=by first|exact aI rfl|rfl)(b:(abj pos (aac es X.env)).any (·.1)=false:=by rfl) :
  ME X (.Call (.Name x p) (a::es) [] pos) (BA sp w):=by
 let⟨f,fd,m,G,e,g,i⟩:=F.ex;exact MH G j d e g i DW F.ar l h c b
def Room.u200{k:Nat}{A:abf}(r:Room k A):A.units+200<cLine:=by have:=r.un;omega
def cq:aaU "len" = some (.builtin "len"):=by rfl
def tx:aaU "sum" = some (.builtin "sum"):=by rfl
def pK:aaU "max" = some (.builtin "max"):=by rfl
def Ue:aaU "min" = some (.builtin "min"):=by rfl
def qQ:aaU "repr" = some (.builtin "repr"):=by rfl
def qk:aaU "isinstance" = some (.builtin "isinstance"):=by rfl
def c6:aaU "tuple" = some (.type "tuple"):=by rfl
def xW:aaU "int" = some (.type "int"):=by rfl
def K8:aaU "bool" = some (.type "bool"):=by decide +kernel
end
section
variable {m:MSt}{K:R->MSt->Prop}{v:Bool->MSt->Prop}{z:List R->MSt->Prop}{f:R->Prop}{D:fi}{q s C t E F:WE}{l:WA}{p G:WT}{w u:WS}{o:WO}{d:aD}{r r1 r2:R}{i j:Int}{k:Nat}
theorem oY(h:w {D with nx:=λa=>u D a } m):wSeq w u D m:=h
def FH(e:m.vs[n]?=some (some r))(h:K r m):wVar n m K:=⟨r,e,h⟩
def Ut(h:p m λc a=>if c=true then w D a else u D a):wIfS p w u D m:=h
def Ba(h:p m λc a=>if c=true then q a K else s a K):wIfE p q s m K:=h
def su{P:Bool->Prop}{b:Bool}(h:P b):onBl P (.imm (.bool b)):=h
theorem jy(h:A):if true=true then A else B:=by simp_all
theorem jw(h:B):if false=true then A else B:=by simp_all
theorem bm{c:Prop}[Decidable c](h:c->A)(a:¬c->B):if decide c=true then A else B:=by simp_all
def U3(h:f (.imm (.int (-i)))):uNeg (.imm (.int i)) m f:=h
def Uy{rs:List R}{P:List aD->Prop}(e:iJ rs=some ds)(a:ds.length≤aal)(h:P ds):Lc P (iJ rs):=by rw[e];exact⟨a,h⟩
def Tf(h:l m λrs m1=>match i6 m1 rs with|some (as,ks)=>ks.Nodup/\sp as λr a=>K (mapR ks r) {m1 with os:=cU m1.os ks a}|none=>False):BA sp l m K:=h
def Vx{rs:List R}{P:List Ag->List Nat->Prop}(e:i6 m rs=some (as,ks))(a:ks.Nodup)(h:P as ks):match i6 m rs with|some (as,ks)=>ks.Nodup/\P as ks|none=>False:=by rw[e];exact⟨a,h⟩
def JJ(h:t m λr a=>tj n D.nx a r):wSet n t D m:=h
def j6(h:P (m.setV n (.imm d))):tj n P m (.imm d):=.inl h
theorem da(h:P {vs:=m.vs.set n (some (.obj m.os.length)),os:=m.os++[ds],np:=m.np}):tj n P m (.new ds):=.inl (.inl h)
def Vh{a:Nat}(h:l m λrs b=>match rs with|[.imm d1,.imm d2]=>D.nx ((b.setV n (.imm d1)).setV a (.imm d2))|_=>False):wPar n a l D m:=h
def x_ls{P:Prop}(e:lsOf m r=some ds)(h:P):(∃ds,lsOf m r=some ds)/\P:=⟨⟨ds,e⟩,h⟩
theorem wN(e:m.os[k]?=some ds)(a:ds.length<aal)(h:K (.imm .none) {m with os:=m.os.set k (ds++[d])}):CN (.obj k) [.imm d] m K:=⟨ds,e,a,h⟩
def Qy(h:f (.imm (.int (i+j)))):oAdd (.imm (.int i)) (.imm (.int j)) m f:=h
def ku{a:List aD}(c:a.length+b.length≤aal)(h:f (.imm (.tuple (a++b)))):oAdd (.imm (.tuple a)) (.imm (.tuple b)) m f:=⟨c,h⟩
def zt{a:List aD}(c:a.length+b.length≤aal)(h:f (.new (a++b))):oAdd (.new a) (.new b) m f:=⟨a,b,rfl,rfl,c,h⟩
def Js{a:List aD}(e:m.os[k]?=some a)(c:a.length+b.length≤aal)(h:f (.new (a++b))):oAdd (.obj k) (.new b) m f:=⟨a,b,e,rfl,c,h⟩
def Qj(h:f (.imm (.int (i-j)))):oSub (.imm (.int i)) (.imm (.int j)) m f:=⟨trivial,h⟩
def SV(a:CFd i j)(h:f (.imm (.int (i/j)))):Pc (.imm (.int i)) (.imm (.int j)) m f:=⟨a,h⟩
def Jp(a:0<j)(h:f (.imm (.int (i%j)))):oMod (.imm (.int i)) (.imm (.int j)) m f:=⟨a,h⟩
def Vo(a:CPow i j)(h:f (.imm (.int (i^j.toNat)))):oPow (.imm (.int i)) (.imm (.int j)) m f:=⟨a,h⟩
def x_lt(h:f (.imm (.bool (decide (i<j))))):oLt (.imm (.int i)) (.imm (.int j)) m f:=h
def x_le(h:f (.imm (.bool (decide (i≤j))))):oLe (.imm (.int i)) (.imm (.int j)) m f:=h
def x_gt(h:f (.imm (.bool (decide (j<i))))):oGt (.imm (.int i)) (.imm (.int j)) m f:=h
def x_ge(h:f (.imm (.bool (decide (j≤i))))):oGe (.imm (.int i)) (.imm (.int j)) m f:=h
def x_eq{d1 d2:aD}(e:asD m r1=some d1)(a:asD m r2=some d2)(s1:ab9 d1=true)(s2:ab9 d2=true)(h:f (.imm (.bool (aad d1 d2)))):oEq r1 r2 m f:=by refine afc ?_;unfold eqD;rw[e,a];exact⟨s1,s2,h⟩
def x_ne{d1 d2:aD}(e:asD m r1=some d1)(a:asD m r2=some d2)(s1:ab9 d1=true)(s2:ab9 d2=true)(h:f (.imm (.bool (!aad d1 d2)))):oNe r1 r2 m f:=by refine afc ?_;unfold eqD;rw[e,a];exact⟨s1,s2,h⟩
theorem UZ(h:f (.imm (.bool (decide (i=j))))):oEq (.imm (.int i)) (.imm (.int j)) m f:=x_eq rfl rfl rfl rfl ‹_›
def UU(h:f (.imm (.bool (decide (i≠j))))):oNe (.imm (.int i)) (.imm (.int j)) m f:=x_ne rfl rfl rfl rfl (by simp[aad];rw[ac9,<-decide_not];exact h)
def U6(h:f (.imm (.bool (decide (x=y))))):oEq (.imm (.str x)) (.imm (.str y)) m f:=adv (afc ⟨x,y,rfl,rfl,h⟩)
def U7(h:f (.imm (.bool (!decide (x=y))))):oNe (.imm (.str x)) (.imm (.str y)) m f:=adv ⟨x,y,rfl,rfl,h⟩
def Vn(h:f (.imm (.bool (jj r)))):oIsN r (.imm .none) m f:=⟨rfl,h⟩
def Gm(h:f (.imm (.bool (!jj r)))):zF r (.imm .none) m f:=⟨rfl,h⟩
def aU(e:atI ds i=some d)(h:f (.imm d)):qp (.imm (.tuple ds)) (.imm (.int i)) m f:=⟨d,e,h⟩
def CC(e:atI ds i=some d)(h:f (.imm d)):qp (.imm (.list ds)) (.imm (.int i)) m f:=⟨ds,d,rfl,e,h⟩
def AI(a:m.os[k]?=some ds)(e:atI ds i=some d)(h:f (.imm d)):qp (.obj k) (.imm (.int i)) m f:=⟨ds,d,a,e,h⟩
def rg(e:atI ds i=some d)(h:f (.imm d)):qp (.new ds) (.imm (.int i)) m f:=⟨ds,d,rfl,e,h⟩
def Q9(h:f (.imm (.int ds.length))):lenR m f (.imm (.tuple ds)):=h
def SW(h:f (.imm (.int ds.length))):lenR m f (.imm (.list ds)):=⟨ds,rfl,h⟩
def Qx(h:f (.imm (.int ds.length))):lenR m f (.new ds):=⟨ds,rfl,h⟩
def N9(e:sqOf m r=some ds)(h:f (.imm (.tuple ds))):Ik [r] m f:=⟨ds,e,h⟩
def Qk(e:asD m r=some d)(a:d.showable=true)(g:d.hasDict=false)(b:d.shown.length≤aal)(c:d.depth≤100)(h:f (.imm (.str d.shown))):Jw [r] m f:=⟨d,e,a,g,b,c,h⟩
def x_gM(h:P (m.setV n (.imm d))):gM n d m P:=h
def Bp(h:P m):Kq [] m P:=⟨rfl,h⟩
def lG(h:g d m λa=>gs ds a P):Bf g gs (d::ds) m P:=h
def SE(e:ds.length=n)(h:gs ds m P):JK n gs (.tuple ds) m P:=⟨e,h⟩
def QE(h:Ks ⟨ds,none⟩ m):srcR m Ks (.imm (.list ds)):=h
def Si(h:Ks ⟨ds,none⟩ m):srcR m Ks (.imm (.tuple ds)):=h
def Qu(e:m.os[k]?=some ds)(h:Ks ⟨ds,some k⟩ m):srcR m Ks (.obj k):=⟨ds,e,h⟩
end
def au{D:fi}{m:MSt}(a:MSt)(e:m=a)(h:w D a):w D m:=e▸h
theorem UQ{i j:Int}(h:(-18446744073709551616<i/\i<18446744073709551616)\/(-18446744073709551616<j/\j<18446744073709551616)):agD i j:=CMul.ok ‹_›
def cfd{i j:Int}(h:0<j)(a:j<1152921504606846976):CFd i j:=⟨h,by
 have:j.natAbs<2^60:=by omega
 have:=(Nat.log2_lt (by omega)).mpr this;omega⟩
theorem lw:∀ns:List Int,abp (ns.map .int)=true
 |[]=>rfl
 |n::ns=>by simp[ abp,aeO,lw ns]
theorem pJ:∀ns:List Int,aay (ns.map .int)≤1
 |[]=>abh 1
 |n::ns=>by
  have:=pJ ns;simp[aay,PyData.depth];omega
theorem u3(ns:List Int):ab9 (.list (ns.map .int))=true:=by
 have h:=pJ ns;have b:(ae5 (ns.map .int)).depth≤64:=by simp only[PyData.depth];omega
 have a:(ae5 (ns.map .int)).canLay0=true:=by simp only[aeO,lw]
 unfold ab9;rw[a,decide_eq_true b];rfl
theorem Ja{a:Type}{xs:List a}{i:Int}(b:0≤i)(c:i<xs.length):∃d,xs[i.toNat]?=some d/\atI xs i=some d:=by
 have h:i.toNat<xs.length:=by omega
 refine⟨xs[i.toNat],lD h,?_⟩;unfold atI ixN
 simp_all
theorem D3{i:Int}(a:0≤i)(b:i<ns.length):∃x:Int,atI (ns.map abu) i=some (.int x):=by
 let⟨d,e,h⟩:=Ja (xs:=ns.map abu) a (by simp_all);rw[aai]at e
 cases q:ns[i.toNat]? with
 |none=>rw[q]at e;cases e
 |some x=>rw[q]at e;cases e;exact⟨x,h⟩
section
variable {X:Cx}{tg a b c e:Expr}{es:List Expr}{l y A B w C:WE}{D:WA}{pos p j:Pos}
def dm:List aD->Option (List Int)
 |[]=>some []
 | .int i::ds=>(dm ds).map (i :: ·)
 |_::_=>none
theorem ix(h:dm ds=some ns):ds=ns.map .int:=by
 induction ds generalizing ns with
 |nil=>cases h;rfl
 | cons d ds f=>
  cases d with
  |int i=>
   simp only[dm]at h
   cases q:dm ds with
   |none=>rw[q]at h;cases h
   |some m=>rw[q]at h;cases h;rw[f q];rfl
  |none=>cases h
  |bool _=>cases h
  |str _=>cases h
  |list _=>cases h
  |tuple _=>cases h
  |dict _=>cases h
theorem d5:∀ns:List Int,dm (ns.map .int)=some ns
 |[]=>rfl
 |n::ns=>by simp[ dm,d5 ns]
theorem dQ{K:Kd}{H:Hp}:∀{ns:List Int}{xs:List V},DenAll K H (ns.map .int) xs->xs=ns.map V.int
 |[],_,h=>by simpa only[ DenAll]
 |n::ns,_,h=>by
  let⟨v,vs,rfl,d,f⟩:=h;have e:=aF d;rw[e,dQ f];rfl
def oSum:WC:=λrs m K=>on1 (λr=>∃ds ns,lsOf m r=some ds/\dm ds=some ns/\K (.imm (.int ns.sum))) rs
theorem Ca(U:X.calm=true):dt X (.builtin "sum") (cM X.kx oSum):=by
 intro t s E H x us Q I T ⟨Z,m,Y,H0,rs,Kc,R,h,o,k⟩;let⟨r,v,rfl,rfl,N,ds,ns,z,W,o⟩:=e8 h o;let⟨a,ys,rfl,f,g⟩:=N.list R z;rw[ix W]at g;have J:=dQ g;subst J;let⟨u,rfl,G⟩:=T.one;cases G;let⟨i,n,K,_⟩:=I.list f;have q:=fY n;have d:AllInts i.toArray:=q.allInts;let⟨x,ex⟩:=d.items;have L:s.heap.IsList a (intItems x):=by rw[<-ex];exact K.isList
 refine sum_intListG (I.ok.hd U) L λh' F t' V=>?_;have M:preSum (numAt x) x.size=ns.sum:=by
  have O:(numsOf i).sum=ns.sum:=by rw[q.numsOf]
  rw[<-O];have P:=congrArg agC ex;have S:i=(intItems x).toList:=by simpa using P
  rw[S,nums_intItems,preSum_eq,afI (by simp)]
 rw[M];exact⟨.int ns.sum,H,I.kept (t':=F) V,⟨_,rfl⟩,k _ _ H o R (dw _) (Frm.refl _ _)⟩
def tyN:aD->String
 | .none=> "NoneType"
 | .bool _=> "bool"
 | .int _=> "int"
 | .str _=> "str"
 | .list _=> "list"
 | .tuple _=> "tuple"
 | .dict _=> "dict"
def tyR:R->String
 | .imm d=>tyN d
 |_=> "list"
def ndR:R->Bool
 | .imm (.dict _)=>false
 | .at _ _=>false
 | .newT _=>false
 |_=>true
def IsT(T:String)(f:String->Bool):Prop:=∀(K:aag) (n:String),n∈["NoneType","bool","int","str","list","tuple"]->PySem.W.kitOne K (.type n) (.type T)=some (f n)
def zg(h:∀n∈["NoneType","bool","int","str","list","tuple"],(if ((adf n)==(adf T))=true then some true else if PySem.W.kitMeta T=true then(fastBuiltinMro n).map (·.contains (.type T))else none)=some (f n)):IsT T f:=λK n d=>by
 have:=h n d;exact this
def fInt(n:String):Bool:=n == "int" ||n == "bool"
def Nr:IsT "int" fInt:=zg (by decide +kernel)
def GC:IsT "bool" (λn=>n == "bool"):=zg (by decide +kernel)
def gU:IsT "tuple" (λn=>n == "tuple"):=zg (by decide +kernel)
def rIsI(K:Kx)(T:String)(f:String->Bool):List V->Hp->VK->Prop:=λx H Q=>∃d m g h r v,Rel K d m g H/\RelR K d h H r v/\ndR r=true/\x=[v,.ty T]/\Q (.bl (f (tyR r))) H
theorem Fc(J:IsT T f):dt X (.builtin "isinstance") (rIsI X.kx T f):=by
 intro g s K H xs us Q I rv ⟨α,m,σ,H0,r,v,R,h,i,ex,q⟩;subst ex;let⟨u,c,rfl,F,Y⟩:=rv.two
 cases (show c=adf T from Y)
 have done:∀M,EP X g K Q (.bool (f (tyR r))) {s with toks:=M}:=λM=>⟨.bl _,H,I.tok M,rfl,q⟩;have lst:∀{a:Addr}{G:List V},v = .ref a->SqL X.kx H a G->tyR r = "list" -> wpAny (model X.prog X.w) X.A (call (.builtin "isinstance") [u,.type T]) (EP X g K Q) X.xe s:=λ{a G} Z L U=>by
  subst Z
  cases (show u=abg a from F)
  let⟨O,_,⟨o,n,E,N,_⟩,_⟩:=I.list L;exact ac4 PySem.W.kitx_list I.kIn ⟨o,E,N⟩ (by rw[U];exact J X.K "list" (by decide)) (λz=>nomatch z) done
 cases r with
 |obj k=>
  have W:=h;let⟨a,S,rfl⟩:=W;have hk:k<m.os.length:=by rw[<-R.len];exact(AD.mp S).1
  let⟨G,E,_⟩:=R.own k _ _ S (lD hk);exact lst rfl (SqL.of E) rfl
 |new ds=>let⟨a,G,rfl,_,E,_⟩:=h;exact lst rfl (SqL.of E) rfl
 | «at» _ _=>cases i
 |newT _=>cases i
 | imm d=>
  cases d with
  |none=>have e:=ij (show Den X.kx H .none v from h);subst e;cases (show u=afx from F);exact ac4 PySem.W.kitx_none I.kIn acr (J X.K "NoneType" (by decide)) (λz=>nomatch z) done
  |bool x=>have e:=js (show Den X.kx H (.bool x) v from h);subst e;cases (show u=ahe x from F);exact ac4 PySem.W.kitx_bool I.kIn acr (J X.K "bool" (by decide)) (λz=>nomatch z) done
  |int x=>have e:=aF (show Den X.kx H (.int x) v from h);subst e;let⟨t,q⟩:=(show ∃t,u=agb x t from F);cases q;exact ac4 PySem.W.kitx_int I.kIn acr (J X.K "int" (by decide)) (λz=>nomatch z) done
  |str x=>have e:=bz (show Den X.kx H (.str x) v from h);subst e;let⟨t,q⟩:=(show ∃t,u=ahl x t from F);cases q;exact ac4 PySem.W.kitx_str I.kIn acr (J X.K "str" (by decide)) (λz=>nomatch z) done
  |list ds=>
   have P:Den X.kx H (.list ds) v:=h;simp only[Den]at P;let⟨a,G,e,L,_⟩:=P;exact lst e L.sq rfl
  |tuple ds=>
   let⟨a,G,rfl,L,_⟩:=b5 (show Den X.kx H (.tuple ds) v from h)
   cases (show u=abg a from F)
   let⟨O,_,⟨o,E,N,_⟩,_⟩:=I.tuple L;exact ac4 PySem.W.kitx_tuple I.kIn ⟨o,E,N⟩ (J X.K "tuple" (by decide)) (λz=>nomatch z) done
  |dict es=>cases i
abbrev wIsT(f:String->Bool)(w:WE):WE:=λm K=>w m λr d=>ndR r=true/\K (.imm (.bool (f (tyR r)))) d
theorem Qi(G:ME X e w)(M:IsT T f)(q:X.mg "isinstance" = none)(J:X.mg x=none)(E:aaU x=some (.type T))(d:Gl X "isinstance":=by rfl)(z:Gl X x:=by rfl)(N:x ≠ "__name__":=by decide)(hd:(x==("__debug__" : Str))=false:=by decide)
  (h:aac [e,.Name x j] X.env=(false,eval e X.env)::aac [.Name x j] X.env:=by rfl) (o:aac [.Name x j] X.env=(false,eval (.Name x j) X.env)::aac [] X.env:=by rfl) (g:(abj pos (aac [.Name x j] X.env)).any (·.1)=false:=by rfl) :
  ME X (.Call (.Name "isinstance" p) [e,.Name x j] [] pos) (wIsT f w):=(xp (Fc M) d q qk (uR G (uR (KJ z J E (v:=.ty T) rfl N hd) IG o) h) (by decide) rfl h g).wk<|by intro u H Q ⟨t,m,O,I,K,i⟩;exact
 ⟨t,m,_,I,K,λr s v L k n R rr F=>⟨t,s,u,H,r,v,R,rr,k.1,rfl,i _ s _ L k.2 n R (k7 _) F⟩⟩
def x_nd{P:Prop}(e:ndR r=true)(h:P):ndR r=true/\P:=⟨e,h⟩
end
theorem d8{D:fi}(P:Nat->MSt->Prop)(p0:P 0 m1)
  (step:∀(i:Nat) (d:aD) (m:MSt),ds[i]?=some d->m.np=m1.np->P i m->g d m λm2=>w {nx:=P (i+1),ct:=P (i+1),bk:=λf=>D.nx (f.setN m1.np),rt:=λr f=>D.rt r (f.setN m1.np)} m2)
  (h:∀m,m.np=m1.np->P ds.length m->D.nx m):o4 ⟨ds,none⟩ g w D m1:=by
 refine⟨P,p0,λi d m e n p=>⟨trivial,step i d m e n p⟩,λm n p=>⟨trivial,?_⟩⟩;have e:m.setN m1.np=m:=by
  let⟨a,b,c⟩:=m;have j:c=m1.np:=n;subst j;rfl
 rw[e];exact h m n p
theorem fy{k:Nat}{D:fi}(P:Nat->MSt->Prop)(p0:P 0 (m1.setN (max m1.np (k+1))))
  (ok:∀i m,P i m->m.os[k]?=some ds)
  (step:∀(i:Nat) (d:aD) (m:MSt),ds[i]?=some d->m.np=max m1.np (k+1)->P i m->g d m λm2=>w {nx:=P (i+1),ct:=P (i+1),bk:=λa=>D.nx (a.setN m1.np),rt:=λr a=>D.rt r (a.setN m1.np)} m2)
  (f:∀m,m.np=max m1.np (k+1)->P ds.length m->D.nx (m.setN m1.np)):o4 ⟨ds,some k⟩ g w D m1:=
 ⟨P,p0,λi d m e n p=>⟨ok i m p,step i d m e n p⟩,λm n p=>⟨ok _ m p,f m n p⟩⟩
theorem jf{t:WT}{D:fi}{b:MSt}(P:Nat->MSt->Prop)(e:Nat)(p0:P e b)
  (step:∀n m,m.np=b.np->P n m->t m λc d=>if c=true then w {D with nx:=λm2=>∃a,a<n/\P a m2,ct:=λm2=>∃a,a<n/\P a m2,bk:=D.nx} d else D.nx d):zr t w D b:=⟨P,⟨e,p0⟩,step⟩
def FI(h:ds.length≤n):cutD ds none (some (n:Int))=ds:=by
 unfold cutD;rw[HT.sIx_none,HT.sIx_nat,Nat.min_eq_right h,Nat.sub_zero,List.drop_zero,aau]
def KG{k:Nat}(h:k<n):ixN n (k:Int)=some k:=by
 unfold ixN;rw[if_pos (by omega),if_pos (by omega)];simp
theorem ik{k:Nat}{m:MSt}(a:m.vs[n]?=some (some (.obj k)))(c:m.np≤k)(b:∀j:Nat,j≠n->m.vs[j]?≠some (some (.obj k)))(h:P {m with os:=m.os.set k ds}):tj n P m (.new ds):=.inr ⟨k,a,c,b,h⟩
theorem bu{a:Type}{xs:List a}{k:Nat}{d x:a}(h:xs[k]?=some x):xs.getD k d=x:=by simp_all
def x_J{w:WE}{m:MSt}{K:R->MSt->Prop}(c:R->MSt->Prop)(h:∀b:R->MSt->Prop,(∀r a,c r a->b r a)->w m b)(J:∀r a,c r a->K r a):w m K:=h K J
def x_JT{w:WT}{m:MSt}{K:Bool->MSt->Prop}(c:Bool->MSt->Prop)(h:∀b:Bool->MSt->Prop,(∀r a,c r a->b r a)->w m b)(J:∀r a,c r a->K r a):w m K:=h K J
theorem x_JS{m:MSt}{D:fi}(b:MSt->Prop)(h:∀N:MSt->Prop,(∀a,b a->N a)->w {D with nx:=N} m)(J:∀a,b a->D.nx a):w D m:=h D.nx J
structure Fine(n k:Nat)(d:aD):Prop where
 sh:d.showable=true
 nd:d.hasDict=false
 ln:d.shown.length≤n
 dp:d.depth≤k
def Fine.mono{k a k':Nat}{d:aD}(h:Fine n k d)(c:n≤a)(b:k≤k'):Fine a k' d:=⟨h.sh,h.nd,aaw h.ln c,aaw h.dp b⟩
def CQ(b:Bool):Fine 5 0 (.bool b):=⟨rfl,rfl,by cases b<;>decide,aab _⟩
theorem yJ{k:Nat}(h:n<2^k)(b:0<k):n.log2<k:=by
 by_cases a:n=0
 .simp_all
 .rw[Nat.log2_lt a];exact h
def jv{i:Int}(h:i.natAbs<10^12):Fine 13 0 (.int i):=by
 refine⟨?_,rfl,aD.shown_int_le h,aab _⟩;have:i.natAbs.log2<40:=yJ (aav h (by decide)) (by decide);apply decide_eq_true;omega
theorem xT{n k:Nat}:∀{ds:List aD},(∀d∈ds,Fine n k d)->agv ds=true/\acf ds=false/\((ac5 ds).map (·.length)).sum≤ds.length*n/\(ac5 ds).length=ds.length/\aay ds≤k
 |[],_=>⟨rfl,rfl,by simp[ac5],rfl,by simp[aay]⟩
 |d::ds,h=>by
  let⟨c,f,i,g,j⟩:=xT λb e=>h b (aaf _ e);have a:=h d aae;refine⟨?_,?_,?_,?_,?_⟩
  .show(d.showable&&agv ds)=true;rw[a.sh,c];rfl
  .show(d.hasDict||acf ds)=false;rw[a.nd,f];rfl
  .show(d.shown.length::(ac5 ds).map _).sum≤_;rw[acK,aaB,adl];have:=a.ln;omega
  .show(ac5 ds).length+1=_;rw[g];rfl
  .show max d.depth _≤k;have:=a.dp;omega
theorem b9{k c:Nat}(h:∀d∈ds,Fine n k d)(b:ds.length≤c):Fine (c*(n+2)+3) (k+1) (.tuple ds):=by
 let⟨a,f,i,g,j⟩:=xT h;refine⟨a,f,?_,?_⟩
 .show(tupleText _).length≤_;have:=tupleText_len_le (ac5 ds);have e:ds.length*(n+2)≤c*_:=acE _ b
  grind
 .show aay ds+1≤_;omega
structure Shp(k:Nat)(d:aD):Prop where
 cl:d.canLay0=true
 dp:d.depth≤k
def Shp.mono{k k':Nat}{d:aD}(h:Shp k d)(a:k≤k'):Shp k' d:=⟨h.cl,aaw h.dp a⟩
def Shp.ok{k:Nat}{d:aD}(h:Shp k d)(a:k≤64):ab9 d=true:=by
 unfold ab9;rw[h.cl,decide_eq_true (aaw h.dp a)];rfl
def cE(i:Int):Shp 0 (.int i):=⟨rfl,aab _⟩
theorem jN{k:Nat}:∀{ds:List aD},(∀d∈ds,Shp k d)->abp ds=true/\aay ds≤k
 |[],_=>⟨rfl,by simp[aay]⟩
 |d::ds,h=>by
  let⟨c,f⟩:=jN λb e=>h b (aaf _ e);have a:=h d aae;refine⟨?_,?_⟩
  .simp only[abp];rw[a.cl,c];rfl
  .show max d.depth _≤k;have:=a.dp;omega
theorem bf{k:Nat}(h:∀d∈ds,Shp k d):Shp (k+1) (.tuple ds):=by
 let⟨a,b⟩:=jN h;exact⟨by simp[aeO];exact a,by show aay ds+1≤_;omega⟩
theorem wx{k:Nat}(h:∀d∈ds,Shp k d):Shp (k+1) (.list ds):=by
 let⟨a,b⟩:=jN h;exact⟨by simp only[aeO];exact a,by show aay ds+1≤_;omega⟩
def jM{m:MSt}{d:aD}{K:R->Prop}{k:Nat}(h:Fine n k d)(e:asD m r=some d)(c:n≤16777216)(b:k≤100)(a:K (.imm (.str d.shown))):Jw [r] m K:=Qk e h.sh h.nd (by rw[aak];exact aaw h.ln c) (aaw h.dp b) a
theorem yA(b:Only H)(h:SqL K H a (ns.map V.int)):Den K H (.list (ns.map .int)) (.ref a):=by
 refine⟨a,_,rfl,?_,DenAll.ints _⟩;rcases h with(h|⟨o,h⟩)|h
 .rcases b a with z|_
  .grind
  .grind
 .exact .inl ⟨o,h⟩
 .exact .inr h
theorem Sn{P:aaK}{w:World}{K:aag}{base:aaT}{k:Nat}{f:Addr}(F:Fun K x x st f fd)(S:ay N ps (ab st))(o:ps.length=n)(l:N.length=nN)(b:n≤nN)
  (a:∀(c:Ad) (A:abf) (outer:List Env) (s:Io) (H:Hp) (E:XK) (f:Addr),Room k (A.deeper (ad0 x (ab st) s.heap.objs.size f c)) ->
   ∃e,MSs (cxOf CX0 P w K mg base N x (ab st) f c A outer s H E).nox (bM st) e/\∀as d,as.length=n->sp as d->e {nx:=λm=>d (.imm .none) (m.os.take m.np),rt:=λr m=>retK d m r} (e9 nN as)) :
  FnOk P w K mg base CX0 (k+1) f fd ps (spOf ⟨K,w⟩ n sp):=by
 refine F.ok S (λvs H Q E h=>by rw[o];exact h.len) (λc A outer s H vs Q E j h=>?_);let⟨e,g,i⟩:=a c A outer s H E f j;exact⟨_,g,fn_m rfl h l b i⟩
structure DefK(K:aag)(x:Str)(st:Stmt):Prop where
 ex:∃(f:Addr) (fd:abX),aaL K aaA x=some (some (.ref f))/\Fun K x x st f fd
def DefK.of{K:aag}{f:Addr}{o kV d pm b ct:Ad}{an:Option Addr}{sl:Array (Option Ad)}(a:aaL K aaA x=some (some (.ref f)))
  (l:K.lookup f=some ⟨o,od,.func (abi x x (cC st) (bM st) (ab st) .none kV d pm an b ct),sl⟩) (c:adh K b x=true) (k:abL K (.ref f)=true):DefK K x st:=⟨f,_,a,r8 l c k⟩
theorem DefK.m{K:aag}{h:aaT}(D:DefK K x st)(X:K.In h)(G:h.Ns aaA mg)(b:∀(f:Addr) (fd:abX),Fun K x x st f fd->Binds K fd ps []):DefM K mg x st ps:=by
 let⟨f,fd,a,F⟩:=D.ex;exact⟨f,fd,F,agq X G a,b f fd F⟩
structure EE(X:Cx)(e:Expr)(w:WE):Prop where
 h:ME X e w
structure ET(X:Cx)(e:Expr)(w:WT):Prop where
 h:MT X e w
structure EW(X:Cx)(e:Expr)(w:WT):Prop where
 h:MW X e w
structure EA(X:Cx)(es:List Expr)(w:WA):Prop where
 h:MA X es w
structure ES(X:Cx)(st:Stmt)(w:WS):Prop where
 h:MS X st w
structure ESs(X:Cx)(st:List Stmt)(w:WS):Prop where
 h:MSs X st w
structure EI(X:Cx)(tg e:Expr)(w:WI):Prop where
 h:MI X tg e w
structure EG(X:Cx)(t:Expr)(w:WG):Prop where
 h:MG X t w
structure EGs(X:Cx)(ts:List Expr)(w:WGs):Prop where
 h:MGs X ts w
structure EO(X:Cx)(e:Option Expr)(w:WO1):Prop where
 h:MO X e w
structure ETs(X:Cx)(ifs:List Expr)(w:WT):Prop where
 h:PTs X ifs (tMT X.kx w)
def EW.pt{w:WT}(h:EW X e w):ET X e w:=⟨h.h.pt⟩
section
variable {X:Cx}{a b c:Expr}{es:List Expr}{w d e:WE}{pos:Pos}
def mh'{i j pos}:EE X (.Constant (.int i) j pos) (wC (.int i)):=⟨OT⟩
def gW{i j pos}:EE X (.Constant (.bool i) j pos) (wC (.bool i)):=⟨VZ⟩
def ai{i j pos}:EE X (.Constant (.str i) j pos) (wC (.str i)):=⟨Sv⟩
def fq{j pos}:EE X (.Constant .none j pos) (wC .none):=⟨R9⟩
theorem mv'(i:Nat){pos:Pos}(g:X.N[i]?=some x:=by rfl)(f:Vis X.env.scope x:=by first|exact afc rfl|exact adv (afc rfl)|exact adv (adv rfl))(hd:(x==("__debug__" : Str))=false:=by decide)(h:(x==("__classdict__" : Str))=false:=by decide):EE X (.Name x pos) (wVar i):=⟨mv i g f hd h⟩
def ah{op:aeJ}(f:OpR X (acd op) (rM X.kx o))(g:EE X a w)(h:EE X b d):EE X (.BinOp a op b pos) (wBin o w d):=⟨Rf f g.h h.h⟩
def c9(g:OpR X (aa8 op) (rM X.kx o))(i:EE X a w)(h:EE X b d)(f:acJ op b=false):EE X (.Compare a [op] [b] pos) (wBin o w d):=⟨Ph g i.h h.h f⟩
def ak(g:OpR X (aa8 op) (rM X.kx o))(i:EE X a w)(h:EE X b d)(f:acJ op b=false):ET X (.Compare a [op] [b] pos) (zy (wBin o w d)):=⟨PF g i.h h.h f⟩
def bG(g:EE X a w)(h:∀f,isTrue a X.env f=(do let v <- f;acA a.pos;adj [v] (truthy v)):=by intro _;rfl):ET X a (zy w):=⟨Ur g.h h⟩
end
section
variable {X:Cx}{a b c:Expr}{es:List Expr}{w e g:WE}{pos:Pos}
variable {d f:WT}{rest:List Expr}
def ig(h:ET X a d):EW X (.BoolOp .And [a] pos) d:=⟨Oz h.h⟩
def de(h:ET X a d):EW X (.BoolOp .Or [a] pos) d:=⟨QP h.h⟩
def i8(i:ET X a d)(h:EW X (.BoolOp .And (b::rest) pos) f):EW X (.BoolOp .And (a::b::rest) pos) (wAnd d f):=⟨Qe i.h h.h⟩
def di(i:ET X a d)(h:EW X (.BoolOp .Or (b::rest) pos) f):EW X (.BoolOp .Or (a::b::rest) pos) (wOr d f):=⟨Uv i.h h.h⟩
def cR(h:ET X a d):ET X (.UnaryOp .Not a pos) (wNot d):=⟨PP h.h⟩
def Av{op}(h:EE X a w):EE X (.BoolOp op [a] pos) w:=⟨O7 h.h⟩
def Ai(i:EE X a w)(h:EE X (.BoolOp .And (b::rest) pos) e):EE X (.BoolOp .And (a::b::rest) pos) (QL w e):=⟨Sx i.h h.h⟩
def SF(i:EE X a w)(h:EE X (.BoolOp .Or (b::rest) pos) e):EE X (.BoolOp .Or (a::b::rest) pos) (wOrV w e):=⟨U8 i.h h.h⟩
def JS(h:EE X a w):EE X (.UnaryOp .Not a pos) (PJ w):=⟨TF h.h⟩
def vK(h:ET X t d)(j:EE X a w)(i:EE X b e):EE X (.IfExp t a b pos) (wIfE d w e):=⟨Vq h.h j.h i.h⟩
def ia{op:UnaryOp}{o:WU}(h:UnR X (unaryOp op) (uM X.kx o))(i:EE X a w):EE X (.UnaryOp op a pos) (wUn o w):=⟨VM h i.h⟩
def dq(h:EE X a w):EE X a (wImm w):=⟨QF h.h⟩
end
section
variable {X:Cx}{a b c:Expr}{es:List Expr}{d e f:WE}{pos:Pos}
variable {g i:WT}{rest:List Expr}
variable {w:WA}
def mn'  : EA X [] wNil:=⟨OY⟩
def mc'(k:EE X a d)(h:EA X es w)(j:aac (a::es) X.env=(false,eval a X.env)::aac es X.env:=by first|exact aI rfl|rfl):EA X (a::es) (Qz d w):=⟨OA k.h h.h j⟩
def ag{x1}(h:EA X es w):EE X (.Tuple es x1 pos) (wTup w):=⟨Qc h.h⟩
def cg(h:EA X es w):EE X (.List es pos) (wLst w):=⟨P8 h.h⟩
theorem av{id:String}{o:WC}(m:dt X (.builtin id) (cM X.kx o))(l:Gl X x)(n:X.mg x=none)(q:aaU x=some (.builtin id))(s:EA X (a::es) w)(r:x ≠ "__name__":=by decide)(h:(x==("__debug__" : Str))=false:=by decide)(k:aac (a::es) X.env=(false,eval a X.env)::aac es X.env:=by first|exact aI rfl|rfl)(j:(abj pos (aac es X.env)).any (·.1)=false:=by rfl):EE X (.Call (.Name x p) (a::es) [] pos) (wCB o w):=⟨FZ m l n q s.h r h k j⟩
theorem cz{o:WC}(m:dt X (.type T) (cM X.kx o))(l:Gl X x)(n:X.mg x=none)(q:aaU x=some (.type T))(s:EA X (a::es) w)(r:x ≠ "__name__":=by decide)(h:(x==("__debug__" : Str))=false:=by decide)(k:aac (a::es) X.env=(false,eval a X.env)::aac es X.env:=by first|exact aI rfl|rfl)(j:(abj pos (aac es X.env)).any (·.1)=false:=by rfl):EE X (.Call (.Name x p) (a::es) [] pos) (wCB o w):=⟨zf m l n q s.h r h k j⟩
end
section
variable {X:Cx}{a b c e:Expr}{es:List Expr}{d f g h:WE}{pos:Pos}{s:Stmt}{rest:List Stmt}{w u:WS}
def ap  : ESs X [] Tw:=⟨LU⟩
def mz'(i:ES X s w)(j:ESs X rest u):ESs X (s::rest) (wSeq w u):=⟨FU i.h j.h⟩
def aa(i:ES X s w):ESs X [s] w:=⟨JZ i.h⟩
end
section
variable {X:Cx}{a b c e:Expr}{es:List Expr}{p q r f:WE}{m:WA}{o:WT}{pos:Pos}{s:Stmt}{rest l d:List Stmt}{w u:WS}
def af(h:EE X e f):ES X (.Return (some e) pos) (wRet f):=⟨Uk h.h⟩
def dG(h:EE X e f)(g:abx e none pos.line X.env=pure false:=by rfl):ES X (.Expr e pos) (QQ f):=⟨J9 h.h g⟩
def aH(h:ET X t o)(i:ESs X l w)(g:ESs X d u):ES X (.If t l d pos) (wIfS o w u):=⟨VX h.h i.h g.h⟩
def CU  : ES X s Ii:=⟨DI⟩
theorem re{g:Pos}(h:X.N.Nodup)(t:X.N[i]?=some x)(j:Loc X.env.scope x)(k:EE X e f)(v:abx e (some (.Name x g)) pos.line X.env=pure false:=by rfl)(n:X.fn x=true\/X.env.scope.names.lookup x=some .local:=by first|exact .inl rfl|exact .inr rfl|assumption):ES X (.Assign [.Name x g] e pos) (wSet i f):=⟨Sd h t j k.h v n⟩
theorem lc(h:X.N.Nodup)(g:X.N[i]?=some x)(k:Loc X.env.scope x)(j:X.fn x=true\/X.env.scope.names.lookup x=some .local:=by first|exact .inl rfl|exact .inr rfl|assumption):EG X (.Name x pos) (gM i):=⟨KB h g k j⟩
def aP  : EGs X [] Kq:=⟨M9⟩
def ac{e:Expr}{es:List Expr}(h:EG X e g)(j:EGs X es gs)(i:(abQ (e::es) X.env).map (·.2)=ae9 e X.env::(abQ es X.env).map (·.2):=by rfl):EGs X (e::es) (Bf g gs):=⟨Fq h.h j.h i⟩
theorem bo{es:List Expr}{k:Nat}(h:EGs X es gs)(i:X.calm=true:=by rfl)(j:(abQ es X.env).length=n:=by rfl)(g:(abQ es X.env).findIdx? (·.1)=none:=by rfl):EG X (.Tuple es k pos) (JK n gs):=⟨Re h.h i j g⟩
theorem cB(h:EE X e f)(j:EG X tg g)(n:adz [tg] e pos.line X.env=pure false:=by rfl)(i:adA [tg] e X.env=pure none:=by rfl)(k:(abQ [tg] X.env).map (·.2)=[ae9 tg X.env]:=by rfl):ES X (.Assign [tg] e pos) (wAsg f g):=⟨Uq h.h j.h n i k⟩
theorem jg{g k pt:Pos}{kt k2 pt2}(C:X.N.Nodup)(A:X.N[i]?=some x)(t:X.N[j]?=some y)(h:i≠j)(n:X.env.scope.names.lookup x=some .local)(z:X.env.scope.names.lookup y=some .local)(E:EA X [a,b] m)(D:adA [.Tuple [.Name x g,.Name y k] kt pt] (.Tuple [a,b] k2 pt2) X.env=pure (some [x,y]))(v:X.calm=true:=by rfl)(B:adz [.Tuple [.Name x g,.Name y k] kt pt] (.Tuple [a,b] k2 pt2) pos.line X.env=pure false:=by rfl):ES X (.Assign [.Tuple [.Name x g,.Name y k] kt pt] (.Tuple [a,b] k2 pt2) pos) (wPar i j m):=⟨Sy C A t h n z E.h D v B⟩
end
section
variable {X:Cx}{tg a b c e i:Expr}{es:List Expr}{l m n h:WE}{j:WA}{k:WT}{pos:Pos}{s:Stmt}{rest d f:List Stmt}{w u:WS}
def bp(g:EE X e h):EI X tg e (QR h):=⟨Qp g.h⟩
theorem cb(q:Gl X "range")(o:X.mg "range" = none)(r:EA X [a] j)(g:aac [a] X.env=[(false,eval a X.env)]:=by first|exact fh rfl|rfl):EI X tg (.Call (.Name "range" p) [a] [] pos) (Jl j):=⟨zN q o r.h g⟩
theorem ca{o:WI}(v:EI X tg i o)(q:EG X tg g)(p:ESs X d w)(t:afo (model X.prog X.w) X.A X.env X.xe)(r:X.calm=true:=by rfl)(y:∀x,aaQ i X.env x=pure x:=by intro _;rfl):ES X (.For tg i d [] pos) (wFor o g w):=⟨PH v.h q.h p.h t r y⟩
def dJ(g:ET X t k)(o:ESs X d w)(p:afo (model X.prog X.w) X.A X.env X.xe):ES X (.While t d [] pos) (zr k w):=⟨DE g.h o.h p⟩
end
section
variable {X:Cx}{scope sc:Scope}{own fr:List Str}{ps:List Nat}{elt tg a f b:Expr}{ifs e:List Expr}{pos d p:Pos}{w k:WI}{g m:WG}{tt l:WT}{j:WE}
theorem bP(S:cr own fr scope sc)(t:EI X tg a w)(q:∀cl s H C ex,EG (bi X scope cl (own++fr) s H C ex) tg g)(n:∀cl s H C ex,ETs (bi X scope cl (own++fr) s H C ex) ifs tt)(o:∀cl s H C ex,EE (bi X scope cl (own++fr) s H C ex) elt j)(h:X.env.scope=sc:=by rfl)(c:ps.map (λi=>X.N[i]?)=fr.map some:=by rfl)(r:X.calm=true:=by rfl)(u:∀x,aaQ a X.env x=pure x:=by intro _;rfl):EE X (.ListComp elt [⟨tg,a,ifs,0⟩] scope pos) (se w own ps g tt j):=⟨FV S t.h (λcl s H C ex=>(q cl s H C ex).h) (λcl s H C ex=>(n cl s H C ex).h) (λcl s H C ex=>(o cl s H C ex).h) h c r u⟩
def bH  : ETs X [] Ay:=⟨NQ⟩
def ql{t:WT}(h:ET X c t):ETs X [c] t:=⟨JA h.h⟩
theorem gL(S:cr own fr scope sc)(A:X.N.Nodup)(t:X.N[i]?=some y)(h:X.env.scope.names.lookup y=some .local)(u:EI X tg a w)(r:∀cl s H C ex,EG (bi X scope cl (own++fr) s H C ex) tg g)(q:∀cl s H C ex,ETs (bi X scope cl (own++fr) s H C ex) ifs tt)(v:∀cl s H C ex,EE (bi X scope cl (own++fr) s H C ex) elt j)(n:abx (.ListComp elt [⟨tg,a,ifs,0⟩] scope pos) (some (.Name y p)) d.line X.env=pure true:=by rfl)(c:X.env.scope=sc:=by rfl)(o:ps.map (λi=>X.N[i]?)=fr.map some:=by rfl)(z:X.calm=true:=by rfl)(B:∀x,aaQ a X.env x=pure x:=by intro _;rfl):ES X (.Assign [.Name y p] (.ListComp elt [⟨tg,a,ifs,0⟩] scope pos) d) (wSet i (se w own ps g tt j)):=⟨GJ S A t h u.h (λcl s H C ex=>(r cl s H C ex).h) (λcl s H C ex=>(q cl s H C ex).h) (λcl s H C ex=>(v cl s H C ex).h) n c o z B⟩
theorem Cf(S:cr own fr scope sc)(F:X.N.Nodup)(A:X.N[i]?=some y)(h:X.env.scope.names.lookup y=some .local)(B:EI X tg a w)(z:∀cl s H C ex,EG (bi X scope cl (own++fr) s H C ex) tg g)(v:∀cl s H C ex,ETs (bi X scope cl (own++fr) s H C ex) ifs tt)(u:∀cl s H C ex,EI (bi X scope cl (own++fr) s H C ex) f b k)(c:∀cl s H C ex,EG (bi X scope cl (own++fr) s H C ex) f m)(r:∀cl s H C ex,ETs (bi X scope cl (own++fr) s H C ex) e l)(D:∀cl s H C ex,EE (bi X scope cl (own++fr) s H C ex) elt j)(q:abx (.ListComp elt [⟨tg,a,ifs,0⟩,⟨f,b,e,0⟩] scope pos) (some (.Name y p)) d.line X.env=pure true:=by rfl)(o:X.env.scope=sc:=by rfl)(t:ps.map (λi=>X.N[i]?)=fr.map some:=by rfl)(E:X.calm=true:=by rfl)(G:∀x,aaQ a X.env x=pure x:=by intro _;rfl)(n:∀cl C x,aaQ b (af6 scope cl C X.env) x=pure x:=by intro _ _ _;rfl):ES X (.Assign [.Name y p] (.ListComp elt [⟨tg,a,ifs,0⟩,⟨f,b,e,0⟩] scope pos) d) (wSet i (BF w own ps g tt k m l j)):=⟨FE S F A h B.h (λcl s H C ex=>(z cl s H C ex).h) (λcl s H C ex=>(v cl s H C ex).h) (λcl s H C ex=>(u cl s H C ex).h) (λcl s H C ex=>(c cl s H C ex).h) (λcl s H C ex=>(r cl s H C ex).h) (λcl s H C ex=>(D cl s H C ex).h) q o t E G n⟩
end
section
variable {X:Cx}
theorem ae{a b:Expr}{w c:WE}(e:EE X a w)(h:EE X b c)(d:l8 b:=by intro _ _;rfl):EE X (.Subscript a b pos) (wBin qp w c):=⟨U4 e.h h.h d⟩
end
section
variable {X:Cx}{o a b c e:Expr}{es:List Expr}{g i j k w l:WE}{h:WA}{pos f d:Pos}
theorem mQ{name:Str}{id:String}{s:WM}(slot:Slot "list" name id)(r:typeOf (.builtin id)=pure (.type "method_descriptor"))(t:MtM X id (mM X.kx s))(v:EE X o g)(y:EA X (e::es) h)(p:abo o name X.env (eval o X.env)=eval o X.env:=by rfl)(q:((abj d (aac (e::es) X.env)).all (λx=>!x.1)&&(acR d (abR [] X.env)).all (λx=>x.1.isSome)
   && decide ((e::es).length+([]:List acW).length+(if ([]:List acW).isEmpty then 0 else 1)<30))=true:=by rfl) (n:(f.endLine==d.line)=true:=by rfl) (u:aac (e::es) X.env=(false,eval e X.env)::aac es X.env:=by first|exact aI rfl|rfl) (m:(abj d (aac es X.env)).any (·.1)=false:=by rfl):EE X (.Call (.Attribute o name f) (e::es) [] d) (wML s g h):=⟨Uz slot r t v.h y.h p q n u m⟩
def fg  : EO X none C9:=⟨KM⟩
def dh(m:EE X e w):EO X (some e) (Ud w):=⟨Jq m.h⟩
def c5{m wh:WO1}{r:Pos}(p:SlR X (sM X.kx ob))(n:EE X e w)(s:EO X lo m)(q:EO X hi wh):EE X (.Subscript e (.Slice lo hi none r) pos) (wSl ob w m wh):=⟨Ga p n.h s.h q.h⟩
end
section
variable {X:Cx}{a:Expr}{es:List Expr}{w:WA}{pos p:Pos}{k n:Nat}{sp:SpM}{x:Str}
theorem mf'(F:FnM X.prog X.w X.K X.mg X.base x k n sp)(e:Room k X.A)(f:EA X (a::es) w)(d:Gl X x:=by rfl)(h:(x==("__debug__" : Str))=false:=by decide)(c:aac (a::es) X.env=(false,eval a X.env)::aac es X.env:=by first|exact aI rfl|rfl)(b:(abj pos (aac es X.env)).any (·.1)=false:=by rfl):EE X (.Call (.Name x p) (a::es) [] pos) (BA sp w):=⟨GL F e f.h d h c b⟩
end
section
variable {X:Cx}{tg a b c e:Expr}{es:List Expr}{g h i j w k:WE}{l:WA}{pos p d:Pos}
theorem jb(s:EE X e w)(u:IsT T f)(r:X.mg "isinstance" = none)(v:X.mg x=none)(y:aaU x=some (.type T))(n:Gl X "isinstance":=by rfl)(t:Gl X x:=by rfl)(z:x ≠ "__name__":=by decide)(hd:(x==("__debug__" : Str))=false:=by decide)(o:aac [e,.Name x d] X.env=(false,eval e X.env)::aac [.Name x d] X.env:=by rfl)(m:aac [.Name x d] X.env=(false,eval (.Name x d) X.env)::aac [] X.env:=by rfl)(q:(abj pos (aac [.Name x d] X.env)).any (·.1)=false:=by rfl):EE X (.Call (.Name "isinstance" p) [e,.Name x d] [] pos) (wIsT f w):=⟨Qi s.h u r v y n t z hd o m q⟩
end
theorem bh{P:aaK}{w:World}{K:aag}{base:aaT}{k:Nat}(D:DefM K mg x st ps)(S:ay N ps (ab st))(g:ps.length=n)(i:N.length=nN)(d:n≤nN)(ar:∀as a,sp as a->as.length=n)
  (h:∀(c:Ad) (A:abf) (outer:List Env) (s:Io) (H:Hp) (E:XK) (f:Addr),Room k (A.deeper (ad0 x (ab st) s.heap.objs.size f c)) ->
   ∃b,ESs (cxOf CX0 P w K mg base N x (ab st) f c A outer s H E).nox (bM st) b/\∀as a,as.length=n->sp as a->b {nx:=λm=>a (.imm .none) (m.os.take m.np),rt:=λr m=>retK a m r} (e9 nN as)) :
  FnM P w K mg base x (k+1) n sp:=UD D S g i d ar λc A outer s H E f e=>let ⟨b,h1,h2⟩:=h c A outer s H E f e;⟨b,h1.h,h2⟩
theorem JC{P:aaK}{w:World}{K:aag}{base:aaT}{k:Nat}{f:Addr}(F:Fun K x x st f fd)(S:ay N ps (ab st))(i:ps.length=n)(g:N.length=nN)(b:n≤nN)
  (h:∀(c:Ad) (A:abf) (outer:List Env) (s:Io) (H:Hp) (E:XK) (f:Addr),Room k (A.deeper (ad0 x (ab st) s.heap.objs.size f c)) ->
   ∃a,ESs (cxOf CX0 P w K mg base N x (ab st) f c A outer s H E).nox (bM st) a/\∀as d,as.length=n->sp as d->a {nx:=λm=>d (.imm .none) (m.os.take m.np),rt:=λr m=>retK d m r} (e9 nN as)) :
  FnOk P w K mg base CX0 (k+1) f fd ps (spOf ⟨K,w⟩ n sp):=Sn F S i g b λc A outer s H E f e=>let ⟨a,h1,h2⟩:=h c A outer s H E f e;⟨a,h1.h,h2⟩
end L2
namespace HT
open PySem PySem.Spec PyProof.Rows
section
variable {prog:aaK}{w:World}{A:abf}{E:Ad->Io->Prop}{s:Io}
def cut_whole{t sl:Addr}{items:Array Ad}{vl v:Ad}{l d:Option Int}{Q:Ad->Io->Prop}(b:IsTup s.heap t items)(g:s.heap.IsSliceOf sl vl v .none)(pl:afD vl l)(p:afD v d)
  (i:sIx items.size 0 l=0/\sIx items.size items.size d=items.size) (h:Q (.ref t) s):wpAny (model prog w) A (aei (.ref t) (.ref sl)) Q E s:=by
 let⟨os,c,e,j⟩:=id g;have f:s.TypeIs (.ref sl) "slice":=⟨os,c,e⟩;unfold aei
 try with_reducible refine abU ?_
 refine gT (ae3 b.typeIs (by decide) (gT (aaZ (name:=ab8 "__getitem__") b.typeIs abk (abb abk b.typeIs entry_tuple_getitem ?_ (args_tuple_getitem _ _)))));show wpAny _ _ (adi (.ref t) >>= _) _ _ s;refine gT (ago b (gT (acV f ?_)));rw[if_pos (by decide)];refine gT (gl g pl p ?_);have a:(((sIx items.size 0 l:Nat):Int)==0&&(1:Int)==1&&(sIx items.size items.size d-sIx items.size 0 l)==items.size)=true:=by
  rw[i.1,i.2];simp
 show wpAny _ _ (if _=true then _ else _) _ _ s;rw[if_pos a];refine gT ?_;unfold aeP;refine gT (acV b.typeIs (Ld ?_));rw[if_pos (by rfl)];exact gT (acI (Ld ⟨_,rfl,Ld h⟩))
end
end HT
namespace L2
open PySem PySem.Spec PyProof.Rows
variable{hi lo:Option Int}{Kr:R->Prop}{ds es:List aD}{K:R->MSt->Prop}{X:Cx}{pins:List (Addr×Obj)}{σ:St}{H:Hp}{h h':aaT}{t t1 t2:Bool}{a b i1 i2 it l l1 l2 z:Addr}{i n:Nat}{items its xs ys:Array Ad}{α:Type}{Q:Ad->Io->Prop}{f:Ad}{elts:List Expr}
section
variable {X:Cx}
def oCut:R->Option Int->Option Int->MSt->(R->Prop)->Prop:=λr lo hi m K=>(∃ds,lsOf m r=some ds/\K (.new (cutD ds lo hi)))\/∃ds,r = .imm (.tuple ds)/\K (.imm (.tuple (cutD ds lo hi)))
theorem f7:SlR X (sM X.kx oCut):=by
 intro pins s d H x v vl D lo hi B Q I A w q y E;obtain⟨α,m,σ,J,r,F,R,h,k|⟨ds,rfl,k⟩,c⟩:=E
 .exact Dh pins s d H x v vl D lo hi B Q I A w q y ⟨α,m,σ,J,r,F,R,h,k,c⟩
 .obtain⟨a,xs,rfl,f,g⟩:=b5 (h)
  by_cases o:HT.sIx xs.length 0 lo=0/\HT.sIx xs.length xs.length hi=xs.length
  .cases A;let⟨its,G,C,L⟩:=I.tuple f;have j:its.toArray.size=xs.length:=by rw[aaI];exact G.length.symm
   refine⟨"tuple",_,abk.lookup,C.typeIs,?_⟩;refine HT.cut_whole C w q y (by rw[j];exact o) ⟨.ref a,H,I,rfl,c _ _ H k R (oO (f8 f ?_)) (Frm.refl _ _)⟩;have e:cutD ds lo hi=ds:=by
    unfold cutD;rw[g.length,o.1,o.2,List.drop_zero,Nat.sub_zero,<-g.length,aau]
   rw[e];exact g
  .exact Ug pins s d H _ v vl D lo hi B Q I A w q y ⟨a,xs,rfl,f,o,λp u=>c _ _ _ k (R.lay u) (oO (f8 (SqT.of aE) ((Cy g lo hi).mono (bt (.inl u))))) (cI u)⟩
def Jz{m:MSt}{r:R}(e:lsOf m r=some ds)(h:Kr (.new (cutD ds lo hi))):oCut r lo hi m Kr:=.inl ⟨ds,e,h⟩
def TZ{m:MSt}(h:Kr (.imm (.tuple (cutD ds lo hi)))):oCut (.imm (.tuple ds)) lo hi m Kr:=.inr ⟨ds,rfl,h⟩
def uE(n:Nat):cutD ds none (some (n:Int))=ds.take n:=by
 unfold cutD;rw[HT.sIx_none,HT.sIx_nat];simp
theorem ju(n:Nat):cutD ds (some (n:Int)) none=ds.drop n:=by
 unfold cutD;rw[HT.sIx_none,HT.sIx_nat]
 by_cases h:n≤ds.length
 .rw[Nat.min_eq_left h];exact afI (by simp)
 .rw[Nat.min_eq_right (by omega),List.drop_length,List.drop_eq_nil_of_le (by omega),List.take_nil]
def oIn(c:Bool):WO:=λr1 r m K=>∃d ds,asD m r1=some d/\(asD m r=some (.list ds)\/asD m r=some (.tuple ds))/\d.canLay0=true/\abp ds=true/\d.depth≤60/\K (.imm (.bool (if c then !ds.any (λy=>aad y d)else ds.any λy=>aad y d)))
theorem Sk(J:X.A.units+64<cLine):OpR X (aa8 .In) (rM X.kx (oIn false)):=by
 intro pins s j H x y v u Q I D w ⟨α,m,σ,M,F,r1,E,G,R,B,p,⟨d,ds,A,e,o,g,dp,C⟩,k⟩;let⟨L,q⟩:=B.reads I R D A (aa3 _ o);have c:EP X pins j Q (.bool (ds.any λy=>aad y d)) s:=⟨.bl _,H,I,rfl,k _ _ H C R (k7 _) (Frm.refl _ _)⟩;have r:X.A.units+1+min (aay ds) d.depth<cLine:=by have:=adk (aay ds) d.depth;omega
 rcases e with e|e
 .obtain⟨bs,q2⟩:=p.reads I R w e (by simp only[abY];exact abn _ g);exact SeqAt.in_list_reads q2 q g o r c
 .obtain⟨bs,q2⟩:=p.reads I R w e (by simp only[abY];exact abn _ g);exact SeqAt.in_tuple_reads q2 q g o r c
theorem gF(J:X.A.units+64<cLine):OpR X (aa8 .NotIn) (rM X.kx (oIn true)):=by
 intro pins s j H x y v u Q I D w ⟨α,m,σ,M,F,r1,E,G,R,B,p,⟨d,ds,A,e,o,g,dp,C⟩,k⟩;let⟨L,q⟩:=B.reads I R D A (aa3 _ o);have c:EP X pins j Q _ s:=⟨.bl _,H,I,rfl,k _ _ H C R (k7 _) (Frm.refl _ _)⟩;have r:X.A.units+1+min (aay ds) d.depth<cLine:=by have:=adk (aay ds) d.depth;omega
 rcases e with e|e
 .obtain⟨bs,q2⟩:=p.reads I R w e (by simp[abY];exact abn _ g);exact SeqAt.notIn_list_reads q2 q g o r c
 .obtain⟨bs,q2⟩:=p.reads I R w e (by simp only[abY];exact abn _ g);exact SeqAt.notIn_tuple_reads q2 q g o r c
def x_in{m:MSt}{r1 r2:R}{c:Bool}{d:aD}{k k':Nat}(e:asD m r1=some d)(g:asD m r2=some (.list ds)\/asD m r2=some (.tuple ds))(s1:Shp k d)(s2:∀y∈ds,Shp k' y)(j:k≤60)(h:Kr (.imm (.bool (if c then !ds.any (λy=>aad y d)else ds.any λy=>aad y d)))):oIn c r1 r2 m Kr:=
 ⟨d,ds,e,g,s1.cl,(jN s2).1,aaw s1.dp j,h⟩
abbrev oMin:WC:=λrs _ K=>match rs with|[.imm (.int i),.imm (.int j)]=>K (.imm (.int (if j<i then j else i)))|_=>False
abbrev oMax:WC:=λrs _ K=>match rs with|[.imm (.int i),.imm (.int j)]=>K (.imm (.int (if j>i then j else i)))|_=>False
theorem za(o:X.calm=true):dt X (.builtin "min") (cM X.kx oMin):=by
 intro pins s c H xs u Q I r ⟨α,m,σ,q,rs,p,R,h,e,d⟩
 match rs,h,e with
 |[.imm (.int i),.imm (.int j)],.cons h1 (.cons h2 .nil),e=>
  have g:=aF (show Den X.kx H (.int i) _ from h1);have k:=aF (show Den X.kx H (.int j) _ from h2);subst g k;exact zq o pins s c H _ u Q I r ⟨i,j,rfl,d _ _ H e R (dw _) (Frm.refl _ _)⟩
theorem AM(o:X.calm=true):dt X (.builtin "max") (cM X.kx oMax):=by
 intro pins s c H xs u Q I r ⟨α,m,σ,q,rs,p,R,h,e,d⟩
 match rs,h,e with
 |[.imm (.int i),.imm (.int j)],.cons h1 (.cons h2 .nil),e=>
  have g:=aF (show Den X.kx H (.int i) _ from h1);have k:=aF (show Den X.kx H (.int j) _ from h2);subst g k;exact B9 o pins s c H _ u Q I r ⟨i,j,rfl,d _ _ H e R (dw _) (Frm.refl _ _)⟩
def Vj(P:List aD->Prop):R->Prop
 | .new ds=>P ds
 |_=>False
def Bu:WM:=λr rs m K=>GF (λk=>on1 (Vj λes=>∃ds,m.os[k]?=some ds/\ds.length+es.length≤aal/\K (.imm .none) {m with os:=m.os.set k (ds++es)}) rs) r
theorem p7:MtM X "list.extend" (mM X.kx Bu):=by
 intro pins s d H x xs v D Q I E C ⟨α,m,σ,O,M,r,rs,N,R,B,e,c,j⟩;let⟨k,a,rfl,p,rfl,c⟩:=IE B c;let⟨u,L,rfl,rfl,e,c⟩:=e8 e c
 cases u with
 |imm _=>exact c.elim
 |obj _=>exact c.elim
 | «at» _ _=>exact c.elim
 |newT _=>exact c.elim
 |new es=>
  let⟨ds,A,F,c⟩:=c;let⟨b,y,rfl,G,w,o⟩:=e;let⟨ys,q,g⟩:=R.own _ _ ds p A;let⟨R2,J⟩:=R.setO p q (g.append o);exact AA pins s d H _ _ v D Q I E C ⟨a,b,ys,y,rfl,rfl,q,w,by rw[<-g.length,<-o.length];exact F,j _ _ _ _ c rfl R2 xI J⟩
def xw{m:MSt}{k:Nat}(e:m.os[k]?=some ds)(c:ds.length+es.length≤aal)(h:K (.imm .none) {m with os:=m.os.set k (ds++es)}):Bu (.obj k) [.new es] m K:=⟨ds,e,c,h⟩
def IC:WM:=λr rs m K=>on1 (jx λd=>∃ds j,lsOf m r=some ds/\d.canLay0=true/\abp ds=true/\d.depth≤60/\(∃y,ds[j]?=some y/\aad y d=true)/\(∀(i:Nat) y,i<j->ds[i]?=some y->aad y d=false)/\K (.imm (.int (j:Nat))) m) rs
theorem yO(hu:X.A.units+64<cLine):MtM X "list.index" (mM X.kx IC):=by
 intro pins s Y H x xs v us Q I rx rv ⟨α,m,σ,H0,H1,r,rs,Kc,S,h1,J,B,L⟩;let⟨r2,v2,rfl,rfl,J,B⟩:=e8 J B;let⟨d,rfl,hd,ds,j,W,U,F,dp,⟨y,O,eq⟩,E,B⟩:=fI J B;let⟨a,zs,rfl,f,g⟩:=h1.list S W;cases rx;let⟨u,rfl,Z⟩:=rv.one;let⟨bs,qd⟩:=Den.reads I (aa3 _ U) hd Z;let⟨its,A,pl,hz⟩:=I.list f;let⟨o,n,C,T,c⟩:=pl;let⟨as,w⟩:=DenAll.reads I (abn _ F) g A;have hm:X.A.units+1+min (aay ds) d.depth<cLine:=by have:=adk (aay ds) d.depth;omega
 have p:=agw ds _ _ F w;have R:its.length=ds.length:=by rw[<-p,iO]
 have P:j<its.length:=by rw[R];exact(AD.mp O).1
 have N:∀(i:Nat) (hi:i<its.length) y,ds[i]?=some y->ac0 s.heap its[i]=y:=λi hi y e=>by
  rw[<-p,aai,lD hi]at e;exact aas e
 let⟨cls,dd,V,sl⟩:=o;let⟨c,k⟩:=c;dsimp only at T k;subst T;subst k;have M:(j:Int)<2^63-1:=by
  have G:=hz;rw[aak]at G;have:=A.length;omega
 refine adQ afq ⟨_,C,rfl⟩ PySem.F.entry_list_index (PySem.F.args_list_index_2 _ _)
  (SeqAt.list_indexAt a its.toArray _ dd sl u (λy=>aad (ac0 s.heap y) d) j (by simpa using P) M ?_ ?_) ⟨C,agZ (by simpa using w) qd F U hm,?_⟩
 .show aad (ac0 s.heap its[j]) d=true;rw[N j P y O];exact eq
 .intro i hi hlt;have q:i<its.length:=by simpa using hi
  show aad (ac0 s.heap its[i]) d=false;have D:i<ds.length:=by rw[<-R];exact q
  rw[N i q _ (lD D)];exact E i _ hlt (lD D)
 .exact⟨.int (j:Nat),H,I.tok _,⟨_,rfl⟩,L _ _ _ H B rfl S (dw _) (Frm.refl _ _)⟩
def KU{m:MSt}{r:R}{d y:aD}{j k k':Nat}(e:lsOf m r=some ds)(s1:Shp k d)(s2:∀y∈ds,Shp k' y)(g:k≤60)(o:ds[j]?=some y)(eq:aad y d=true)(c:∀(i:Nat) y,i<j->ds[i]?=some y->aad y d=false)(h:K (.imm (.int (j:Nat))) m):IC r [.imm d] m K:=
 ⟨ds,j,e,s1.cl,(jN s2).1,aaw s1.dp g,⟨y,o,eq⟩,c,h⟩
end
theorem Inv.turneds{s:Io}{t':Nat}{ch:List Addr}(I:Inv X pins σ H s)(k:∀b o,b∉ch->s.heap.get? b=some o->h'.get? b=some o)(j:∀b∈ch,FpOk X pins H b):Inv X pins σ H {s with heap:=h',toks:=t' }:=by
 have g:∀b u,H b=some u->b∉ch:=λb u e z=>by have:=(j b z).1;grind
 have p:=λz=>(j _ z).2.1 rfl;refine I.step (g':=s.gens) (d':=s.drawn) (λb x=>?_) (λb o _ _ d e _=>k b o d e) (λb o _ _ d e _=>⟨o.slots,k b o d e⟩) (λ_ _ _ _ n=>n)
  (λb o d e=>⟨o,k b o d e⟩) (λ_ _ e=>e) (λ_ _ _ e=>e) (λb y e=>⟨#[],by rw[e];simp⟩) (λm w=>?_) (λb u e=>?_) I.bare
 .obtain⟨_,f1,_,f3,f4,f5⟩:=j b x;exact⟨f3,f1,f4,f5⟩
 .obtain⟨o,es,ep,ho,r⟩:=w;exact⟨o,es,ep,k _ o p ho,r⟩
 .refine(I.hok b u e).stay (λc v d q=>k c v ?_ q) (λ_ q=>q) λ_ _ q=>q;rcases d with z|z
  .rw[z];exact g b u e
  .exact g c _ z
def SubI(t:Bool)(h:aaT)(i l:Addr)(k:Nat):Prop:=if t then h.IsTupleIter i l k else h.IsListIter i l k
def SubS(t:Bool)(h:aaT)(l:Addr)(its:Array Ad):Prop:=if t then h.IsTuple l its else h.IsList l its
def SubI.ext{i:Addr}{k:Nat}(x:SubI t h i l k)(e:af7 b h h')(n:i≠b):SubI t h' i l k:=by
 cases t
 .exact aaT.IsListIter.extBut (x) e n
 .exact aaT.IsTupleIter.extBut (x) e n
def SubI.obj{i:Addr}{k:Nat}(x:SubI t h i l k):∃o vs,h.get? i=some o/\o.data = .fields vs:=by
 cases t
 .obtain⟨o,e,_,d⟩:=(x);exact⟨o,_,e,d⟩
 .obtain⟨o,e,_,d⟩:=(x);exact⟨o,_,e,d⟩
def SubI.keep{i:Addr}{k:Nat}(x:SubI t h i l k)(e:∀o,h.get? i=some o->h'.get? i=some o):SubI t h' i l k:=by
 cases t
 .obtain⟨o,q,r⟩:=(x);exact⟨o,e o q,r⟩
 .obtain⟨o,q,r⟩:=(x);exact⟨o,e o q,r⟩
def SubS.keep(x:SubS t h l its)(e:∀o,h.get? l=some o->h'.get? l=some o):SubS t h' l its:=by
 cases t
 .obtain⟨o,q,r⟩:=(x);exact⟨o,e o q,r⟩
 .obtain⟨o,q,r⟩:=(x);exact⟨o,e o q,r⟩
def SubS.ext(x:SubS t h l its)(e:af7 b h h')(n:l≠b):SubS t h' l its:=x.keep λo q=>e l o n q
section
variable {prog:aaK}{w:World}{A:abf}{E:Ad->Io->Prop}{s:Io}
theorem rq{Q:α->Io->Prop}(c:A.handled=none)(h:∀h' e,(∀b o,s.heap.get? b=some o->h'.get? b=some o)->(∃o,h'.get? e=some o/\o.cls = .type "StopIteration")->E (.ref e) {s with heap:=h' }) :
  wpAny (model prog w) A (do raiseNew (<- newExc (.type "StopIteration") []):Sem α) Q E s:=by
 refine gT ?_;refine gT ?_;refine abc ?_ (by size_fits);refine gT (wpAny_of_eq (a:=afx) (by rfl) (abc ?_ (by size_fits)));refine gT (m:=handled) (wpAny_handled ?_);rw[c];refine gT (Ld (wpAny_throw (h _ _ (λb o q=>LD _ (LD _ q)) ⟨_,aap _ rfl,rfl⟩)))
def UA(c:s.heap.IsTupleIter it l i)(h:Q (.ref l) s):wpAny (model prog w) A (field (.ref it) 0) Q E s:=let ⟨_,ho,_,hd⟩:=c;abA ho hd (x:=.ref l) rfl h
def VE(c:s.heap.IsTupleIter it l i)(h:Q (.int i 0) s):wpAny (model prog w) A (field (.ref it) 1) Q E s:=let ⟨_,ho,_,hd⟩:=c;abA ho hd (x:=.int i 0) rfl h
def VP{Q:Option (Array Ad)->Io->Prop}(c:s.heap.IsTuple l items)(h:Q (some items) s):wpAny (model prog w) A (seqItems? (.ref l)) Q E s:=let ⟨_,ho,_,_,hd⟩:=c;acv ho hd h
theorem w9{Q:Option Ad->Io->Prop}(c:s.heap.IsTupleIter it l i)(r:s.heap.IsTuple l items)
  (p:∀x,items[i]?=some x->∀h',h'.IsTupleIter it l (i+1)->abW it s.heap h'->Q (some x) {s with heap:=h' })
  (g:items[i]?=none->A.handled=none/\∀h' e,af7 it s.heap h'->(∃o,h'.get? e=some o/\o.cls = .type "StopIteration")->E (.ref e) {s with heap:=h' }) :
  wpAny (model prog w) A (callSpecial? (.ref it) "__next__" []) Q E s:=by
 refine aaZ (name:=ab8 "__next__") c.typeIs aeQ (abb aeQ c.typeIs F.entry_tuple_iterator_next ?_ (F.args_tuple_iterator_next_1 _))
 wp_walk using UA c,VE c,VP r
 rcases id c with⟨o,d,v,hd⟩;rw[aaN]
 cases q:items[i]? with
 | some x=>
  have new:(s.heap.update it (Obj.mapFields (·.setIfInBounds 1 (aeR ((i:Int)+1))))).IsTupleIter it l (i+1):=by
   refine⟨_,ada _ d (Obj.isFreed_of_fields (agx hd _)),?_,?_⟩
   .exact(Obj.cls_mapFields ..).trans v
   .rw[agx hd];simp[aeR]
  exact gT (m:=adG (.ref it) 1 _) (wpAny_setField d hd (by simp) (Ld ⟨x,rfl,p x q _ new (agg ..)⟩))
 |none=>
  let⟨u,g⟩:=g q;refine gT (m:=rule _) (acI (gT (m:=adG (.ref it) 0 _) (wpAny_setField d hd (by simp) ?_)));exact rq (A:=A.in1) u λh' e k x=>g h' e (λb j nb z=>k b j ((agg ..).extBut b j nb z)) x
theorem qX{x:Ad}(c:SubI t s.heap it l i)(g:SubS t s.heap l items)(d:items[i]?=some x)
  (e:∀h',SubI t h' it l (i+1)->abW it s.heap h'->Q x {s with heap:=h' }):wpAny (model prog w) A (abH (.ref it)) Q E s:=by
 cases t with
 |false=>exact wpAny_nextOf_list_item (c) (g) d e
 |true=>exact gT (w9 (c) (g) (λy j h' a b=>by rw[d]at j;cases j;exact Ld (e h' a b)) λno=>by rw[d]at no;cases no)
theorem zT(g:A.handled=none)(c:SubI t s.heap it l i)(m:SubS t s.heap l items)(d:items[i]?=none)
  (j:∀h' e,af7 it s.heap h'->(∃o,h'.get? e=some o/\o.cls = .type "StopIteration")->E (.ref e) {s with heap:=h' }):wpAny (model prog w) A (abH (.ref it)) Q E s:=by
 cases t with
 |false=>exact wpAny_nextOf_list_end g (c) (m) d j
 |true=>exact gT (w9 (c) (m) (λy k=>by rw[d]at k;cases k) λ_=>⟨g,j⟩)
structure Apart(z TI TO i1 i2 l1 l2:Addr):Prop where
 d:[z,TI,TO,i1,i2].Nodup
 m1:l1∉[z,TI,TO,i1,i2]
 m2:l2∉[z,TI,TO,i1,i2]
def Apart.old{TI TO:Addr}(D:Apart z TI TO i1 i2 l1 l2):ZipApart z TI TO i1 i2 l1 l2:=by
 let⟨d,m1,m2⟩:=D;simp at d m1 m2;let⟨⟨a1,a2,c,e⟩,⟨b1,b2,j⟩,⟨k,g⟩,d1⟩:=d;exact⟨abO a1,abO a2,abO c,abO e,b1,b2,j,k,g,d1,m1.1,m1.2.2.1,m1.2.2.2.1,m1.2.2.2.2,m2.1,m2.2.2.1,m2.2.2.2.1,m2.2.2.2.2⟩
structure Dn(t1 t2:Bool)(z TI TO i1 i2 l1 l2:Addr)(k:Nat)(h:aaT):Prop where
 z:IsZip h z TI TO .none
 ti:afd h TI (.ref i1) (.ref i2)
 to:∃a b,afd h TO a b
 s1:SubI t1 h i1 l1 k
 s2:SubI t2 h i2 l2 k
def zf0{TI TO:Addr}(c:IsZip s.heap z TI TO f)(h:Q f s):wpAny (model prog w) A (field (.ref z) 0) Q E s:=abA c rfl (x:=f) rfl h
def zf2{TI TO:Addr}(c:IsZip s.heap z TI TO f)(h:Q (.bool false) s):wpAny (model prog w) A (field (.ref z) 2) Q E s:=abA c rfl (x:=.bool false) rfl h
def zf3{TI TO:Addr}(c:IsZip s.heap z TI TO f)(h:Q (.ref TI) s):wpAny (model prog w) A (field (.ref z) 3) Q E s:=abA c rfl (x:=.ref TI) rfl h
theorem FJ{TI TO:Addr}{k:Nat}{x y:Ad}{Q:Option Ad->Io->Prop}(D0:Apart z TI TO i1 i2 l1 l2)(Z:Dn t1 t2 z TI TO i1 i2 l1 l2 k s.heap)
  (T:SubS t1 s.heap l1 xs) (hl2:SubS t2 s.heap l2 ys) (hx:xs[k]?=some x) (hy:ys[k]?=some y)
  (hQ:∀h',IsZip h' z TI TO (aeR s.heap.objs.size)->afd h' TO x y->SubI t1 h' i1 l1 (k+1)->SubI t2 h' i2 l2 (k+1)->afd h' s.heap.objs.size x y->h'.objs.size=s.heap.objs.size+1 ->
   (∀c o,c∉[z,TO,i1,i2]->s.heap.get? c=some o->h'.get? c=some o)->Q (some (.ref s.heap.objs.size)) {s with heap:=h' }):wpAny (model prog w) A (acP (.ref z)) Q E s:=by
 have D:=D0.old;let⟨I,hTI,⟨a,b,S⟩,h1,h2⟩:=Z;have hT:s.TypeIs (.ref z) "zip":=(⟨_,I,rfl⟩);unfold acP;refine gT (adH (aaZ (name:=ab8 "__next__") hT aew (abb aew hT F.entry_zip_next ?_ (F.args_zip_next_1 _))));refine gT (m:=field (.ref z) 2) (zf2 I (gT (m:=field (.ref z) 3) (zf3 I (gT (acv hTI rfl ?_)))));refine gT (m:=adI (.ref z)) (gT (m:=field (.ref z) 0) (zf0 I (Ld ?_)));simp only[if_true];refine gT (acI (gT (abA I rfl (x:=.ref TO) rfl (gT (aaV I (by simp) λg1 C s1=>?_)))));replace C:IsZip g1 z TI TO .ellipsis:=C;refine gT ?_;simp only[aeu,List.forIn_nil,ag0,List.zipIdx_nil];refine gT (gT (afe (gT (m:=abH (.ref i1)) ?_)));refine(qX (h1.ext s1.extBut D.i1z) (T.ext s1.extBut D.l1z) hx λg2 n1 s2=>Ld ?_);have v:afd g2 TO a b:=s2.extBut _ _ D.TOi1 (s1.extBut _ _ D.TOz S);refine gT (acv v rfl (gT (aeo v λg3 j G=>?_)));replace j:afd g3 TO x b:=j;refine gT (ae6 (Ld (gT (gT (afe ?_)))));refine gT (m:=abH (.ref i2)) (qX (((h2.ext s1.extBut D.i2z).ext s2.extBut D.i12.symm).ext G.extBut D.TOi2.symm) (((hl2.ext s1.extBut D.l2z).ext s2.extBut D.l2i1).ext G.extBut D.l2TO) hy λg4 n2 R=>Ld ?_);have u:afd g4 TO x b:=R.extBut _ _ D.TOi2 j;refine gT (acv u rfl (gT (aeo u λg d N=>?_)));replace d:afd g TO x y:=d;refine gT (ae6 (Ld (Ld (gT (acv d rfl (gT (af8 ?_)))))));have M:g.objs.size=s.heap.objs.size:=by rw[N.1,R.1,G.1,s2.1,s1.1]
 have L:IsZip g z TI TO .ellipsis:=N.extBut _ _ D.TOz.symm (R.extBut _ _ D.i2z.symm (G.extBut _ _ D.TOz.symm (s2.extBut _ _ D.i1z.symm C)));have k5:∀c o,c∉[z,TO,i1,i2]->s.heap.get? c=some o->g.get? c=some o:=λc o p e=>by
  simp only[aah,abE,not_or,or_false]at p;exact N.extBut _ _ p.2.1 (R.extBut _ _ p.2.2.2 (G.extBut _ _ p.2.1 (s2.extBut _ _ p.2.2.1 (s1.extBut _ _ p.1 e))))
 have U:SubI t1 g i1 l1 (k+1):=((n1.ext G.extBut D.TOi1.symm).ext R.extBut D.i12).ext N.extBut D.TOi1.symm;have n25:SubI t2 g i2 l2 (k+1):=n2.ext N.extBut D.TOi2.symm;have O:z<g.objs.size:=aaq L;refine gT (m:=acB.SmallTypes.ownedTupleHandOut (.ref z) (.ref g.objs.size)) ?_;have W:IsZip (g.push {cls:=.type "tuple",data:=.seq #[x,y]}) z TI TO .ellipsis:=LD _ L;refine gT (m:=adG (.ref z) 0 _) (aaV W (by simp) λg7 B V=>?_);replace B:IsZip g7 z TI TO (aeR g.objs.size):=B;refine aaV B (by simp) λJ r s8=>?_;replace r:IsZip J z TI TO (aeR g.objs.size):=r;have up:∀c o,c≠z->g.get? c=some o->J.get? c=some o:=λc o c1 e=>s8.extBut _ _ c1 (V.extBut _ _ c1 (LD _ e));have P:afd J g.objs.size x y:=s8.extBut _ _ (abt O) (V.extBut _ _ (abt O) (aap _ rfl));have z8:J.objs.size=g.objs.size+1:=by rw[s8.1,V.1,abz]
 rw[M]at r P z8;have Y:wpAny (model prog w) A (pure (some (abg g.objs.size))) Q E {s with heap:=J}:=by
  rw[M];exact Ld (hQ J r (up _ _ D.TOz d) (U.keep λo e=>up _ o D.i1z e) (n25.keep λo e=>up _ o D.i2z e) P z8 λc o p e=>up c o (λq=>p (by simp[q])) (k5 c o p e))
 exact Ld ⟨_,rfl,Y⟩
theorem Kg{TI TO:Addr}{k:Nat}{Q:Option Ad->Io->Prop}(hh:A.handled=none)(D0:Apart z TI TO i1 i2 l1 l2)(Z:Dn t1 t2 z TI TO i1 i2 l1 l2 k s.heap)
  (C:SubS t1 s.heap l1 xs) (O:SubS t2 s.heap l2 ys) (J:xs[k]?=none\/ys[k]?=none)
  (hQ:∀h',(∀c o,c∉[z,TO,i1,i2]->s.heap.get? c=some o->h'.get? c=some o)->Q none {s with heap:=h' }):wpAny (model prog w) A (acP (.ref z)) Q E s:=by
 have D:=D0.old;let⟨y,S,⟨a,b,M⟩,h1,h2⟩:=Z;have hT:s.TypeIs (.ref z) "zip":=(⟨_,y,rfl⟩);have out:∀{c:Addr},c∉[z,TO,i1,i2]->c≠z/\c≠TO/\c≠i1/\c≠i2:=λv=>by simpa only[aah,abE,not_or,or_false]using v
 have I:∀h' e,(∀c o,c∉[z,TO,i1,i2]->s.heap.get? c=some o->h'.get? c=some o)->(∃o,h'.get? e=some o/\o.cls = .type "StopIteration") ->
   wpAny (model prog w) A (do if <- isInstance (.ref e) (.type "StopIteration")then pure none else throw (.ref e):Sem (Option Ad)) Q E {s with heap:=h' }:=λh' e hk ⟨o,ho,v⟩=>
  gT (adm (T:= "StopIteration") (b:=true) ⟨o,ho,v⟩ af9 (Ld (hQ _ hk)))
 unfold acP;refine gT (adH (aaZ (name:=ab8 "__next__") hT aew (abb aew hT F.entry_zip_next ?_ (F.args_zip_next_1 _))));refine gT (m:=field (.ref z) 2) (zf2 y (gT (m:=field (.ref z) 3) (zf3 y (gT (acv S rfl ?_)))));refine gT (m:=adI (.ref z)) (gT (m:=field (.ref z) 0) (zf0 y (Ld ?_)));simp only[if_true];refine gT (acI (gT (abA y rfl (x:=.ref TO) rfl (gT (aaV y (by simp) λg1 j s1=>?_)))));replace j:IsZip g1 z TI TO .ellipsis:=j;refine gT ?_;simp only[aeu,List.forIn_nil,ag0,List.zipIdx_nil];refine gT (gT (afe (gT (m:=abH (.ref i1)) ?_)))
 cases hx:xs[k]? with
 |none=>
  refine(zT hh (h1.ext s1.extBut D.i1z) (C.ext s1.extBut D.l1z) hx λP e s2 N=>?_);let⟨R,d,g⟩:=N;have B:IsZip P z TI TO .ellipsis:=s2 _ _ D.i1z.symm j;have r:e≠z:=λq=>by subst q;rw[B]at d;cases d;simp at g
  refine aaV B (by simp) λY _ u=>I Y e (λc o v q=>?_) ⟨R,u.extBut _ _ r d,g⟩;let⟨L,_,U,_⟩:=out v;exact u.extBut _ _ L (s2 _ _ U (s1.extBut _ _ L q))
 |some x=>
  have hy:ys[k]?=none:=by rcases J with q|q;rw[hx]at q;cases q;exact q
  refine(qX (h1.ext s1.extBut D.i1z) (C.ext s1.extBut D.l1z) hx λP n1 s2=>Ld ?_);have p:afd P TO a b:=s2.extBut _ _ D.TOi1 (s1.extBut _ _ D.TOz M);refine gT (acv p rfl (gT (aeo p λY W u=>?_)));refine gT (ae6 (Ld (gT (gT (afe ?_)))));refine gT (m:=abH (.ref i2)) (zT hh (((h2.ext s1.extBut D.i2z).ext s2.extBut D.i12.symm).ext u.extBut D.TOi2.symm) (((O.ext s1.extBut D.l2z).ext s2.extBut D.l2i1).ext u.extBut D.l2TO) hy λg4 e s4 N=>?_);let⟨R,d,g⟩:=N;have G:IsZip g4 z TI TO .ellipsis:=s4 _ _ D.i2z.symm (u.extBut _ _ D.TOz.symm (s2.extBut _ _ D.i1z.symm j));have r:e≠z:=λq=>by subst q;rw[G]at d;cases d;simp at g
  refine aaV G (by simp) λg5 _ V=>I g5 e (λc o v q=>?_) ⟨R,V.extBut _ _ r d,g⟩;let⟨L,c2,U,c4⟩:=out v;exact V.extBut _ _ L (s4 _ _ c4 (u.extBut _ _ c2 (s2.extBut _ _ U (s1.extBut _ _ L q))))
end
def zit(t:Bool):String:=if t then "tuple_iterator" else "list_iterator"
abbrev itO(t:Bool)(l:Addr):Obj:={cls:=.type (zit t),data:=.fields #[.ref l,.int 0 0]}
abbrev zA(t1:Bool)(h:aaT)(l1:Addr):aaT:=h.push (itO t1 l1)
abbrev zB(t1 t2:Bool)(h:aaT)(l1 l2:Addr):aaT:=(zA t1 h l1).push (itO t2 l2)
abbrev zC(t1 t2:Bool)(h:aaT)(l1 l2:Addr):aaT:=(zB t1 t2 h l1 l2).push {cls:=.type "tuple",data:=.seq #[.ref h.objs.size,.ref (zA t1 h l1).objs.size]}
abbrev zD(t1 t2:Bool)(h:aaT)(l1 l2:Addr):aaT:=(zC t1 t2 h l1 l2).push {cls:=.type "tuple",data:=.seq #[.none,.none]}
abbrev zE(t1 t2:Bool)(h:aaT)(l1 l2:Addr):aaT:=(zD t1 t2 h l1 l2).push {cls:=.type "zip",data:=.fields #[.none,.bool false,.bool false,.ref (zB t1 t2 h l1 l2).objs.size,.ref (zC t1 t2 h l1 l2).objs.size]}
def jJ{prog:aaK}{w:World}{A:abf}{E:Ad->Io->Prop}{s:Io}(h:SubS t s.heap l its)
  (c:Q (.ref s.heap.objs.size) {s with heap:=s.heap.push (itO t l)}):wpAny (model prog w) A (afz (.ref l)) Q E s:=by
 cases t
 .exact wpAny_pyIter_list (h) c
 .exact wpAny_pyIter_tuple (h) c
theorem JD(t1 t2:Bool)(l1 l2:Addr)(xs ys:Array Ad) :
  Meets (acB.«zip.__new__» ⟨[.type "zip",.ref l1,.ref l2],[]⟩) (λ_ R s=>SubS t1 s.heap l1 xs/\SubS t2 s.heap l2 ys/\R (.ok (.ret (.ref (zD t1 t2 s.heap l1 l2).objs.size))) {s with heap:=zE t1 t2 s.heap l1 l2}):=
 .of_wp λprog w A R s h=>by
  rcases s with⟨r,g,d,q,os⟩;rcases h with⟨j,c,h⟩;have p:=sub_zip;have m:=j;have k:SubS t2 (Shared.heap ⟨r.push (itO t1 l1),g,d,q,os⟩) l2 ys:=c.keep λo e=>LD _ e
  wp_walk using jJ m,jJ k
  exact⟨_,rfl,h⟩
section
variable {prog:aaK}{w:World}{A:abf}{E:Ad->Io->Prop}{s:Io}
theorem Fb(m:SubS t1 s.heap l1 xs)(r:SubS t2 s.heap l2 ys)
  (h:∀h',Dn t1 t2 (s.heap.objs.size+4) (s.heap.objs.size+2) (s.heap.objs.size+3) s.heap.objs.size (s.heap.objs.size+1) l1 l2 0 h'->(∀c o,s.heap.get? c=some o->h'.get? c=some o)->Q (.ref (s.heap.objs.size+4)) {s with heap:=h' }):wpAny (model prog w) A (call (.type "zip") [.ref l1,.ref l2]) Q E s:=by
 refine callType_new F.called_zip (by decide) (F.typeCall_zip_2 _ _) (F.newCall_zip_2 _ _) (λobj=>F.args_object_init_3 obj _ _) F.entry_zip_new (JD t1 t2 l1 l2 xs ys) ⟨m,r,?_⟩;have q:(zA t1 s.heap l1).objs.size=s.heap.objs.size+1:=abz ..;have v:(zB t1 t2 s.heap l1 l2).objs.size=s.heap.objs.size+2:=by rw[abz,q]
 have p:(zC t1 t2 s.heap l1 l2).objs.size=s.heap.objs.size+3:=by rw[abz,v]
 have y:(zD t1 t2 s.heap l1 l2).objs.size=s.heap.objs.size+4:=by rw[abz,p]
 have j:∀c o,(zD t1 t2 s.heap l1 l2).get? c=some o->(zE t1 t2 s.heap l1 l2).get? c=some o:=λc o e=>LD _ e;have k:∀c o,(zC t1 t2 s.heap l1 l2).get? c=some o->(zE t1 t2 s.heap l1 l2).get? c=some o:=λc o e=>j c o (LD _ e);have u:∀c o,(zB t1 t2 s.heap l1 l2).get? c=some o->(zE t1 t2 s.heap l1 l2).get? c=some o:=λc o e=>k c o (LD _ e);have d:∀c o,(zA t1 s.heap l1).get? c=some o->(zE t1 t2 s.heap l1 l2).get? c=some o:=λc o e=>u c o (LD _ e);have B:(zE t1 t2 s.heap l1 l2).get? (s.heap.objs.size+4)=some {cls:=.type "zip",data:=.fields #[.none,.bool false,.bool false,.ref (s.heap.objs.size+2),.ref (s.heap.objs.size+3)]}:=by
  rw[<-y,<-p,<-v];exact aap _ rfl
 have C:(zE t1 t2 s.heap l1 l2).get? (s.heap.objs.size+3)=some {cls:=.type "tuple",data:=.seq #[.none,.none]}:=by
  rw[<-p];exact j _ _ (aap _ rfl)
 have D:(zE t1 t2 s.heap l1 l2).get? (s.heap.objs.size+2)=some {cls:=.type "tuple",data:=.seq #[.ref s.heap.objs.size,.ref (s.heap.objs.size+1)]}:=by
  rw[<-v,<-q];exact k _ _ (aap _ rfl)
 have G:(zE t1 t2 s.heap l1 l2).get? (s.heap.objs.size+1)=some (itO t2 l2):=by
  rw[<-q];exact u _ _ (aap _ rfl)
 have I:(zE t1 t2 s.heap l1 l2).get? s.heap.objs.size=some (itO t1 l1):=d _ _ (aap _ rfl);have g:∀{t:Bool}{i l:Addr},(zE t1 t2 s.heap l1 l2).get? i=some (itO t l)->SubI t (zE t1 t2 s.heap l1 l2) i l 0:=λ{t i l} e=>by
  cases t
  .exact⟨_,e,rfl,rfl⟩
  .exact⟨_,e,rfl,rfl⟩
 show _/\_;rw[y];exact⟨⟨_,B,rfl⟩,h _ ⟨B,D,⟨_,_,C⟩,g I,g G⟩ λc o x=>d c o (LD _ x)⟩
end
theorem BV{l1 l2:Nat}(c:l1<n)(e:l2<n):Apart (n+4) (n+2) (n+3) n (n+1) l1 l2 where
 d:=by
  simp
 m1:=by
  grind
 m2:=by
  grind
def SqB(t:Bool)(K:aag)(H:Hp)(a:Addr)(xs:List V):Prop:=if t then SqT K H a xs else SqL K H a xs
def Itz(t1 t2:Bool)(K:aag)(a b:Addr):It where
 go:=λi H=>∃xs ys x y,SqB t1 K H a xs/\SqB t2 K H b ys/\xs[i]?=some x/\ys[i]?=some y
 yld:=λi H v c=>∃T x y,v = .ref T/\H T=none/\c=upd H T (.tup [x,y])/\(∀xs,SqB t1 K H a xs->xs[i]?=some x)/\∀ys,SqB t2 K H b ys->ys[i]?=some y
 stop:=λi H=>∃xs ys,SqB t1 K H a xs/\SqB t2 K H b ys/\(xs.length≤i\/ys.length≤i)
theorem Inv.sqb{s:Io}{xs:List V}(I:Inv X pins σ H s)(h:SqB t X.kx H a xs):∃its:List Ad,Vals xs its/\SubS t s.heap a its.toArray/\xs.length≤aal:=by
 cases t
 .obtain⟨its,r,p,z⟩:=I.list (h);exact⟨its,r,p.isList,z⟩
 .obtain⟨its,r,p,z⟩:=I.tuple (h);exact⟨its,r,p,z⟩
def Inv.sqb_inj{s:Io}{xs ys:List V}(I:Inv X pins σ H s)(h:SqB t X.kx H a xs)(h':SqB t X.kx H a ys):xs=ys:=by
 cases t
 .exact I.list_inj (h) (h')
 .exact I.tuple_inj (h) (h')
theorem D6{P:aaK}{w:World}{K:aag}{x1:Nat}{pos:Pos}{TI TO:Addr}(D:Apart z TI TO i1 i2 a b):Turn P w K (.Tuple elts x1 pos) (Itz t1 t2 K a b) [z,TI,TO,i1,i2] z (λi h=>Dn t1 t2 z TI TO i1 i2 a b i h) where
 mem:=by simp
 obj:=λi h p c g=>by
  let⟨B,j,⟨u,v,m⟩,O,r⟩:=p;simp only[aah,abE,or_false]at g;rcases g with rfl|rfl|rfl|rfl|rfl
  .exact⟨_,B,λv q=>by cases q⟩
  .exact⟨_,j,λv q=>by cases q⟩
  .exact⟨_,m,λv q=>by cases q⟩
  .obtain⟨o,vs,e,d⟩:=O.obj;exact⟨o,e,λv q=>by rw[d]at q;cases q⟩
  .obtain⟨o,vs,e,d⟩:=r.obj;exact⟨o,e,λv q=>by rw[d]at q;cases q⟩
 keep:=λi h h' p k=>by
  let⟨B,j,⟨u,v,m⟩,O,r⟩:=p;exact⟨k z (by simp) _ B,k TI (by simp) _ j,⟨u,v,k TO (by simp) _ m⟩,O.keep λo e=>k i1 (by simp) o e,r.keep λo e=>k i2 (by simp) o e⟩
 item:=by
  intro X hP hw hK g i pins s σ H E I S p T;subst hP hw hK;let⟨xs,ys,x,y,A,C,hx,hy⟩:=T;let⟨L,J,Y,_⟩:=I.sqb A;let⟨M,G,V,_⟩:=I.sqb C;let⟨R,e1,W⟩:=J.get hx;let⟨N,e2,ru2⟩:=G.get hy;refine FJ D p Y V (x:=R) (y:=N) (by simpa using e1) (by simpa using e2) λh' a1 a2 a3 a4 a5 a6 a7=>⟨.ref s.heap.objs.size,rfl,?_⟩;refine wpAny_letOwnedTupleGo_zip (s:={s with heap:=h' }) a1 λr b1 sb=>?_;have Z:H s.heap.objs.size=none:=I.hok.fresh (aab _);have U:∀c∈[z,TI,TO,i1,i2],c<s.heap.objs.size:=λc g=>by
   let⟨B,j,⟨u,v,m⟩,O,r⟩:=p;simp only[aah,abE,or_false]at g;rcases g with rfl|rfl|rfl|rfl|rfl
   .exact aaq B
   .exact aaq j
   .exact aaq m
   .obtain⟨o,vs,e,d⟩:=O.obj;exact aaq e
   .obtain⟨o,vs,e,d⟩:=r.obj;exact aaq e
  have nz:∀c∈[z,TI,TO,i1,i2],c≠s.heap.objs.size:=λc g=>aa0 (U c g);have F:=D.old;have up:∀c o,c≠z->h'.get? c=some o->r.get? c=some o:=λc o n e=>sb.extBut c o n e;have T2:afd r s.heap.objs.size R N:=up _ _ (abO (nz z (by simp))) a5;have I0:Inv X pins σ (upd H s.heap.objs.size (.tup [x,y])) {s with heap:=s.heap.push {cls:=.type "tuple",data:=.seq #[R,N]},toks:=s.toks}:=
   I.laid (o:=.tup [x,y]) (λc o e=>LD _ e) (aab _) ⟨by show 2≤aal;rw[aak];decide,[R,N],.cons W (.cons ru2 .nil),PlainT.new _ _⟩
  have Il:Inv X pins σ (upd H s.heap.objs.size (.tup [x,y])) {s with heap:=r,toks:=s.toks}:=by
   refine Inv.turneds (s:={s with heap:=s.heap.push {cls:=.type "tuple",data:=.seq #[R,N]},toks:=s.toks}) (h':=r) (t':=s.toks) (ch:=[z,TI,TO,i1,i2]) I0 (λc o g e=>?_) λc g=>?_
   .rcases aaT.get?_push_cases e with⟨rfl,rfl⟩|e
    .exact T2
    .exact up c o (λq=>g (by simp[q])) (a7 c o (λq=>g (by simp only[aah,abE,or_false]at q⊢;rcases q with q|q|q|q<;>simp[q])) e)
   .obtain⟨f0,f1⟩:=S c g;exact⟨by rw[aB (nz c g)];exact f0,f1⟩
  refine⟨.ref s.heap.objs.size,upd H s.heap.objs.size (.tup [x,y]),Il,rfl,⟨_,x,y,rfl,Z,rfl,λzs B=>by rw[I.sqb_inj B A];exact hx,λzs B=>by rw[I.sqb_inj B C];exact hy⟩,⟨b1,up _ _ F.TIz (a7 _ _ (by simp only[aah,abE,or_false,not_or];exact⟨F.TIz,F.TITO,F.TIi1,F.TIi2⟩) p.ti),⟨_,_,up _ _ F.TOz a2⟩,a3.keep λo e=>up _ o F.i1z e,a4.keep λo e=>up _ o F.i2z e⟩,λc g=>?_⟩;rw[aB (nz c g)];exact(S c g).1
 done:=by
  intro X hP hw hK g i pins s σ H E I S p T;subst hP hw hK;let⟨xs,ys,A,C,he⟩:=T;let⟨L,J,Y,_⟩:=I.sqb A;let⟨M,G,V,_⟩:=I.sqb C;have l1:=J.length;have l2:=G.length;refine Kg (I.ok.hd g) D p Y V (by rcases he with q|q;(left;simp;omega);(right;simp;omega)) λh' hk=>⟨rfl,I.turneds (t':=s.toks) (ch:=[z,TI,TO,i1,i2]) (λc o g e=>hk c o (λq=>g (by simp only[aah,abE,or_false]at q⊢;rcases q with q|q|q|q<;>simp[q])) e) S⟩
 self:=λ_ _ _ _ _ p h=>wpAny_pyIter_zip p.z h
section
variable {X:Cx}{j:List Expr}{B:Nat}{w:Pos}{a b:Expr}{A:WA}{p pos:Pos}
def iZip(K:aag)(d:TA):TI:=λσ H R=>d σ H λvs c=>∃t1 t2 l1 l2,vs=[.ref l1,.ref l2]/\(∃xs,SqB t1 K c l1 xs)/\(∃ys,SqB t2 K c l2 ys)/\R (Itz t1 t2 K l1 l2) c
def Lg:aaU "zip" = some (.type "zip"):=by rfl
theorem Pp{u:TA}(D:Gl X "zip")(T:X.mg "zip" = none)(M:PA X [a,b] u)(O:aac [a,b] X.env=[(false,eval a X.env),(false,eval b X.env)]:=by first|exact(aI rfl).trans (congrArg _ (fh rfl))|rfl)(g:aac [b] X.env=[(false,eval b X.env)]:=by first|exact fh rfl|rfl):PI X (.Tuple j B w) (.Call (.Name "zip" p) [a,b] [] pos) (iZip X.K u):=by
 intro pins s σ H U I h;refine Call_ (nH I D T Lg (adc (thn (M pos pins s σ H _ I h) λV s1 ⟨vs,N,k,r1,F⟩=>?_) (by rw[O,g]) (by rw[g];rfl)));let⟨t1,t2,l1,l2,e,⟨xs,R⟩,⟨ys,G⟩,q⟩:=F;subst e
 cases r1 with
 | cons r rr=>
  cases rr with
  | cons P rr=>
   cases rr;cases r;cases P;let⟨v,S,C,_⟩:=k.sqb R;let⟨y,E,x,_⟩:=k.sqb G;refine Fb C x λh' Z L=>?_;refine wpAny_pyIter_zip Z.z ?_;have lt:∀{t:Bool}{l:Addr}{its:Array Ad},SubS t s1.heap l its->l<s1.heap.objs.size:=λ{t l its} p=>by
    cases t
    .obtain⟨o,e,_⟩:=(show s1.heap.IsList l its from p);exact aaq e
    .obtain⟨o,e,_⟩:=(show s1.heap.IsTuple l its from p);exact aaq e
   refine⟨s1.heap.objs.size+4,_,_,_,N,rfl,k.kept (t':=s1.toks) L,D6 (BV (lt C) (lt x)),Z,λc J=>?_,q⟩;have d:s1.heap.objs.size≤c:=by
    have m:=J;simp at m;rcases m with rfl|rfl|rfl|rfl|rfl<;>first|exact aco _ _|exact aab _
   exact k.fpOk d (k.hok.fresh d)
def imS:R->Option (Bool×List aD)
 | .imm (.tuple ds)=>some (true,ds)
 | .imm (.list ds)=>some (false,ds)
 |_=>none
def zipD(ds es:List aD):List aD:=(ds.zip es).map λp=>.tuple [p.1,p.2]
abbrev T9(A:WA):WI:=λm K=>A m λrs c=>match rs with|[r1,r2]=>∃t1 ds t2 es,imS r1=some (t1,ds)/\imS r2=some (t2,es)/\K ⟨zipD ds es,none⟩ c|_=>False
theorem IL{K:Kd}{α:Al}{d:Hp}{r:R}{v:V}(h:RelR K α d H r v)(e:imS r=some (t,ds)):∃l xs,v = .ref l/\DenAll K H ds xs/\(SqB t K H l xs)/\∀c,Pers H c->SqB t K c l xs:=by
 unfold imS at e
 split at e
 .cases e;let⟨l,xs,e,f,g⟩:=b5 (h);exact⟨l,xs,e,g,f,λc p=>f.mono p⟩
 .cases e;have h':=h;let⟨l,xs,e,f,g⟩:=h';exact⟨l,xs,e,g,f.sq,λc p=>(f.mono p).sq⟩
 .cases e
def d9(ds es:List aD):(zipD ds es).length=min ds.length es.length:=by simp[zipD]
theorem E8{d e:aD}(c:ds[i]?=some d)(g:es[i]?=some e):(zipD ds es)[i]?=some (.tuple [d,e]):=by
 unfold zipD;rw[aai,(List.getElem?_zip_eq_some (z:=(d,e))).mpr ⟨c,g⟩];rfl
theorem wks_zip{K:Kd}:Wks K (Itz t1 t2 K l1 l2) (zipD ds es) λH=>∃xs ys,SqB t1 K H l1 xs/\SqB t2 K H l2 ys/\DenAll K H ds xs/\DenAll K H es ys where
 stop:=λH ⟨xs,ys,c,g,m,k⟩=>⟨xs,ys,c,g,by rw[d9,<-m.length,<-k.length];omega⟩
 go:=λi H hi ⟨xs,ys,c,g,m,k⟩=>by
  rw[d9]at hi;exact⟨xs,ys,xs[i]'(by rw[<-m.length];omega),ys[i]'(by rw[<-k.length];omega),c,g,lD _,lD _⟩
 yld:=λi H x I hi ⟨xs,ys,c,g,m,k⟩ y=>by
  let⟨T,u,v,rfl,G,rfl,D,F⟩:=y;let⟨d,E,k1⟩:=m.get2 (D xs c);let⟨e,C,k2⟩:=k.get2 (F ys g);have r:∀b o,H b=some o->upd H T (.tup [u,v]) b=some o:=λb o q=>by rw[aB (bv q G)];exact q
  have s:Pers H _:=⟨λb xs q=>r b _ q,λb o u q=>r b _ q⟩;refine⟨r,_,E8 E C,?_⟩;exact f8 (SqT.of aE) (DenAll.cons (k1.mono s) (DenAll.cons (k2.mono s) DenAll.nil))
theorem SY(O:X.mg "zip" = none)(J:MA X [a,b] A)(y:Gl X "zip":=by rfl)(L:aac [a,b] X.env=[(false,eval a X.env),(false,eval b X.env)]:=by first|exact(aI rfl).trans (congrArg _ (fh rfl))|rfl)(q:aac [b] X.env=[(false,eval b X.env)]:=by first|exact fh rfl|rfl):MI X (.Tuple j B w) (.Call (.Name "zip" p) [a,b] [] pos) (T9 A):=(Pp y O J L q).wk<|by
 intro σ H Z ⟨α,m,W,G,P,o⟩;refine⟨α,m,_,G,P,λrs C vs U k n R rr F=>?_⟩
 cases rr with
 |nil=>exact k.elim
 |cons N rr=>
  cases rr with
  |nil=>exact k.elim
  |cons E rr=>
  cases rr with
  |cons _ _=>exact k.elim
  |nil=>
  let⟨t1,ds,t2,es,M,V,k⟩:=k;let⟨l1,xs,rfl,T,r,I⟩:=IL N M;let⟨l2,ys,rfl,S,u,D⟩:=IL E V;refine⟨t1,t2,l1,l2,rfl,⟨xs,r⟩,⟨ys,u⟩,o _ C _ U k n R F ⟨λH=>∃xs ys,SqB t1 X.kx H l1 xs/\SqB t2 X.kx H l2 ys/\DenAll X.kx H ds xs/\DenAll X.kx H es ys/\(∀e,Pers H e->SqB t1 X.kx e l1 xs)/\∀e,Pers H e->SqB t2 X.kx e l2 ys,wks_zip.imp<|by intro H ⟨xs,ys,a,b,c,d,_⟩;exact⟨xs,ys,a,b,c,d⟩,⟨xs,ys,r,u,T,S,I,D⟩,by intro Y s ⟨xs,ys,a,b,c,d,x,v⟩ g;exact⟨xs,ys,x s g,v s g,c.mono g,d.mono g,λe p=>x e (g.trans p),λe p=>v e (g.trans p)⟩⟩⟩
end
theorem u5{x:Nat}{c:Pos}{a b:Expr}{w:WA}{p pos:Pos}(g:X.mg "zip" = none)(k:EA X [a,b] w)(e:Gl X "zip":=by rfl)(j:aac [a,b] X.env=[(false,eval a X.env),(false,eval b X.env)]:=by first|exact(aI rfl).trans (congrArg _ (fh rfl))|rfl)(d:aac [b] X.env=[(false,eval b X.env)]:=by first|exact fh rfl|rfl):EI X (.Tuple elts x c) (.Call (.Name "zip" p) [a,b] [] pos) (T9 w):=⟨SY g k.h e j d⟩
def cZ{β:Type}{xs:List α}{x:α}(f:α->β)(h:xs[i]?=some x):(xs.take (i+1)).map f=(xs.take i).map f++[f x]:=by
 rw[aaJ,h,aaD];rfl
theorem gmap{β:Type}{xs:List α}{y:β}{f:α->β}(h:(xs.map f)[i]?=some y):∃x,xs[i]?=some x/\y=f x/\i<xs.length:=by
 rw[aai]at h
 cases q:xs[i]? with
 |none=>rw[q]at h;cases h
 |some x=>rw[q]at h;exact⟨x,rfl,(aas h).symm,(AD.mp q).1⟩
theorem cw{lo:Int}{d:aD}(h:(kI lo n)[i]?=some d):i<n/\d = .int (lo+(i:Int)):=by
 have hi:=by
  have:=(AD.mp h).1;rwa[aV]at this
 rw[pf hi]at h;exact⟨hi,(aas h).symm⟩
def og{k:Nat}{P:MSt->Prop}{m:MSt}(c:List Nat)(m2:MSt)(N:Ren c (m.setV n (.obj k)) m2)(h:P m2):tj n P m (.obj k):=.inr ⟨c,m2,N,h⟩
def RenO(c:List Nat)(o:Option R):Option R->Prop
 |none=>True
 |some r=>RenR c (some o) r
def RenVs(c:List Nat):List (Option R)->List (Option R)->Prop
 |o::os,q::qs=>RenO c o q/\RenVs c os qs
 |[],[]=>True
 |_,_=>False
theorem RenVs.len{c:List Nat}:∀{os q:List (Option R)},RenVs c os q->q.length=os.length
 |[],[],_=>rfl
 |_::_,_::_,h=>congrArg (· + 1) (RenVs.len h.2)
 |[],_::_,h=>h.elim
 |_::_,[],h=>h.elim
theorem RenVs.get{d:List Nat}:∀{os c:List (Option R)},RenVs d os c->∀(j:Nat) (r:R),c[j]?=some (some r)->RenR d os[j]? r
 |o::os,q::c,h,0,r,e=>by
  have g:=by simpa using e
  subst g;exact h.1
 |o::os,q::c,h,j+1,r,e=>by simpa using RenVs.get h.2 j r ‹_›
 |[],[],_,_,_,e=>by simp at e
 |[],_::_,h,_,_,_=>h.elim
 |_::_,[],h,_,_,_=>h.elim
def B5{c:List Nat}{m m2:MSt}(nd:decide c.Nodup=true)(lt:(c.all λk=>Nat.blt k m.os.length)=true)(pre:c.take m.np=aax m.np)(npl:Nat.ble m.np c.length=true)(os:m2.os=c.map λk=>m.os.getD k [])(np:m2.np=m.np)(vs:RenVs c m.vs m2.vs):Ren c m m2:=
 ⟨of_decide_eq_true nd,λk d=>Nat.blt_eq.mp (abD.mp lt k d),pre,ad9 npl,os,np,vs.len,λj r e=>vs.get j r e⟩
def uU{d:aD}(h:(zipD ds es)[i]?=some d):∃a b,ds[i]?=some a/\es[i]?=some b/\d = .tuple [a,b]:=by
 let⟨p,c,rfl,_⟩:=gmap h;let⟨g,e⟩:=List.getElem?_zip_eq_some.mp c;exact⟨p.1,p.2,g,e,rfl⟩
def w6{x:Str}(h:(adR x).shown.length≤40):Fine 40 0 (.str x):=⟨rfl,rfl,h,aab _⟩
def uv{x:Str}(h:(adR x).canLay0=true):Shp 0 (.str x):=⟨h,aab _⟩
end L2
namespace M3
def stepL(xs:List (List Nat))(r:Nat):List (List Nat):=xs.flatMap λa=>(aax (r+1)).map λk=>a++[k]
def allL(rs:List Nat):List (List Nat):=rs.foldl stepL [[]]
def allR:List Nat->List (List Nat)
 |[]=>[[]]
 |r::rs=>(aax (r+1)).flatMap λk=>(allR rs).map (k :: ·)
theorem sJ:∀(rs:List Nat) (xs:List (List Nat)),rs.foldl stepL xs=xs.flatMap λa=>(allR rs).map (a++·)
 |[],xs=>by
  simp[allR]
 |r::rs,xs=>by
  rw[aes,sJ rs];simp only[stepL,allR,List.flatMap_assoc,List.map_flatMap,List.flatMap_map,aa9]
  congr 1
  funext a
  congr 1
  funext k
  congr 1
  funext l
  simp
def allL_eq(rs:List Nat):allL rs=allR rs:=by
 unfold allL;rw[sJ];simp
theorem allR_len:∀{rs l:List Nat},l∈allR rs->l.length=rs.length
 |[],l,h=>by simp[allR]at h;subst h;rfl
 |r::rs,l,h=>by
  simp only[allR,ab6,aam]at h;let⟨k,_,a,h,rfl⟩:=h;simp[allR_len h]
theorem stepL_length(xs:List (List Nat))(r:Nat):(stepL xs r).length=xs.length*(r+1):=by
 unfold stepL
 induction xs with
 |nil=>simp
 |cons a xs i=>
  grind
theorem xJ:∀{rs:List Nat}{xs:List (List Nat)},(∀r∈rs,r≤6)->(rs.foldl stepL xs).length≤xs.length*7^rs.length
 |[],xs,_=>by simp
 |r::rs,xs,h=>by
  rw[aes];refine aaw (xJ λb a=>h b (aaf _ a)) ?_;rw[stepL_length,aaB,Nat.pow_succ,Nat.mul_assoc,acY (7^rs.length)];refine Nat.mul_le_mul_left _ (acE _ ?_)
  simp_all
def fold_small{rs:List Nat}(a:rs.length≤4)(h:∀r∈rs,r≤6):(rs.foldl stepL [[]]).length≤2401:=by
 refine aaw (xJ h) ?_;have:7^rs.length≤7^4:=Nat.pow_le_pow_right (by decide) a;simpa
def stepL_take{xs:List (List Nat)}{r j:Nat}{l:List Nat}(h:xs[j]?=some l):stepL (xs.take (j+1)) r=stepL (xs.take j) r++(aax (r+1)).map λy=>l++[y]:=by
 unfold stepL;rw[aaJ,h];simp
end M3
set_option maxHeartbeats 4100000
namespace K
open PySem L2
variable{h:Hall}{l:List Nat}
def DB:SpM:=λa K=>∃ns:List Int,a=[.imm (.list (ns.map .int))]/\ns.length≤63/\K (.imm (.bool true)) []
def frD(a b:Int):aD:=.tuple [.int a,.int b]
def Tu:SpM:=λc K=>∃a b:Nat,c=[.imm (.int a),.imm (.int b)]/\a<1000000000/\0<b/\b<1000000000/\K (.imm (frD (a/a.gcd b:Nat) (b/a.gcd b:Nat))) []
structure Srv where
 a:Nat
 b:Nat
 r:Nat
def Srv.d(s:Srv):aD:=.tuple [.tuple [.int s.a,.int s.b],.int s.r]
structure Srv.Ok(s:Srv):Prop where
 a1:1≤s.a
 a2:s.a<1000000
 b1:1≤s.b
 b2:s.b<1000000
 r1:1≤s.r
 r6:s.r≤6
structure Hall where
 a:Nat
 b:Nat
 ss:List Srv
 mv:Bool
def Hall.d(h:Hall):aD:=.tuple [.tuple [.int h.a,.int h.b],.tuple (h.ss.map Srv.d),.bool h.mv]
structure Hall.Ok(h:Hall):Prop where
 a1:1≤h.a
 a2:h.a<1000000
 b1:1≤h.b
 b2:h.b<1000000
 n1:1≤h.ss.length
 n4:h.ss.length≤4
 ok:∀s∈h.ss,s.Ok
def Hall.rs(h:Hall):List Nat:=h.ss.map Srv.r
def Hall.rsl(h:Hall):h.rs.length=h.ss.length:=by simp[Hall.rs]
def Hall.Ok.r6(o:h.Ok):∀r∈h.rs,r≤6:=λr a=>by
 let⟨s,b,rfl⟩:=aam.mp a;exact(o.ok s b).r6
def Hall.rs_get{i:Nat}{s:Srv}(e:h.ss[i]?=some s):h.rs[i]?=some s.r:=by simp[Hall.rs,e]
def prD(p:Nat×Nat):aD:=.tuple [.int (p.1:Int),.int (p.2:Int)]
def natD(l:List Nat):List aD:=l.map λ(k:Nat)=>.int (k:Int)
def lnD(l:List Nat):aD:=.tuple (natD l)
def bj(l:List Nat):(natD l).length=l.length:=by simp[natD]
def bq{i x:Nat}(h:l[i]?=some x):(natD l)[i]?=some (.int (x:Int)):=by simp[natD,h]
def wz{a b:Nat}(e:a<1000000000)(f:b<1000000000):Fine 33 1 (frD a b):=by
 refine b9 (n:=13) (k:=0) (c:=2) (λd hd=>?_) (by simp);simp at hd;rcases hd with rfl|rfl
 .exact jv (by omega)
 .exact jv (by omega)
def Srv.Ok.fine{s:Srv}(o:s.Ok):Fine 73 2 s.d:=by
 refine b9 (n:=33) (k:=1) (c:=2) (λd hd=>?_) (by simp);simp at hd;rcases hd with rfl|rfl
 .exact wz (by have:=o.a2;omega) (by have:=o.b2;omega)
 .have:=o.r6;exact(jv (by omega)).mono (by decide) (by decide)
def Hall.Ok.fine(o:h.Ok):Fine 1000 4 h.d:=by
 have a:Fine 303 3 (.tuple (h.ss.map Srv.d)):=(b9 (n:=73) (k:=2) (c:=4) (λd hd=>by
  let⟨s,b,rfl⟩:=aam.mp hd;exact(o.ok s b).fine) (by rw[iO];exact o.n4)).mono (by decide) (by decide)
 refine(b9 (n:=303) (k:=3) (c:=3) (λd hd=>?_) (by simp)).mono (by decide) (by decide);simp at hd;rcases hd with rfl|rfl|rfl
 .exact(wz (by have:=o.a2;omega) (by have:=o.b2;omega)).mono (by decide) (by decide)
 .exact a
 .exact(CQ _).mono (by decide) (by decide)
def tq{c:Nat}(b:l.length≤c)(h:∀x∈l,x≤1000):Fine (c*15+3) 1 (lnD l):=by
 refine b9 (λd hd=>?_) (by simpa[natD]);simp[natD]at hd;let⟨x,a,rfl⟩:=hd;have:=h x a;exact jv (by omega)
inductive Rule where
 |random|turns|two|least|quick
 |told (ps:List Nat)
def Rule.word:Rule->Str
 | .random=> "random" | .turns=> "turns" | .two=> "two" | .least=> "least" | .quick=> "quick" | .told _=> "told"
def Rule.d:Rule->aD
 | .told p=>.tuple [.str "told",lnD p]
 |r=>.tuple [.str r.word]
def Rule.Ok(h:Hall):Rule->Prop
 | .told a=>a.length=(M3.allR h.rs).length/\∀p∈a,p<h.ss.length
 |_=>True
def qh{rs:List Nat}(a:rs.length≤4)(h:∀r∈rs,r≤6):(M3.allR rs).length≤2401:=by
 rw[<-M3.allL_eq];exact M3.fold_small a h
theorem Rule.Ok.fine(o:h.Ok){r:Rule}(k:r.Ok h):Fine 80000 2 r.d:=by
 have w:∀x:Str,(adR x).shown.length≤40->Fine 80000 2 (.tuple [.str x]):=λx a=>(b9 (n:=40) (k:=0) (c:=1) (λd hd=>by simp at hd;subst hd;exact w6 a) (by simp)).mono (by decide) (by decide)
 cases r with
 |random=>exact w _ (by decide +kernel)
 |turns=>exact w _ (by decide +kernel)
 |two=>exact w _ (by decide +kernel)
 |least=>exact w _ (by decide +kernel)
 |quick=>exact w _ (by decide +kernel)
 |told p=>
  let⟨k1,k2⟩:=k;have b:p.length≤2401:=by rw[k1];exact qh (by rw[h.rsl];exact o.n4) o.r6
  have f:Fine 36018 1 (lnD p):=tq b λx a=>by have:=k2 x a;have:=o.n4;omega
  refine(b9 (n:=36018) (k:=1) (c:=2) (λd hd=>?_) (by simp)).mono (by decide) (by decide);simp at hd;rcases hd with rfl|rfl
  .exact(w6 (by decide +kernel)).mono (by decide) (by decide)
  .exact f
def Lines(h:Hall)(l:List Nat):Prop:=l.length=h.ss.length/\∀(i:Nat) s x,h.ss[i]?=some s->l[i]?=some x->x≤s.r
theorem Lines.le(o:h.Ok)(k:Lines h l):∀x∈l,x≤6:=λx c=>by
 let⟨i,b,rfl⟩:=abT.mp c;have a:i<h.ss.length:=by rw[<-k.1];exact b
 have:=k.2 i _ _ (lD a) (lD b);have:=(o.ok _ (adn a)).r6;exact aaw ‹_› ‹_›
end K
namespace M7
open M3
def placeF:Nat->List Nat->List Nat->Nat
 |acc,r::rs,x::l=>placeF (acc*(r+1)+x) rs l
 |acc,_,_=>acc
def cnt:List Nat->Nat
 |[]=>1
 |r::rs=>(r+1)*cnt rs
theorem allR_cnt:∀rs:List Nat,(allR rs).length=cnt rs
 |[]=>rfl
 | r::rs=>by
  have a:=allR_cnt rs;have:∀n:Nat,((aax n).flatMap λk=>(allR rs).map (k :: ·)).length=n*cnt rs:=by
   intro n
   induction n with
   |zero=>simp
   |succ n i=>rw[ab2,adu,aan,i];simp[a,adl]
  exact this _
theorem jX:∀{rs l:List Nat}{acc:Nat},l.length=rs.length->placeF acc rs l=acc*cnt rs+placeF 0 rs l
 |[],[],acc,_=>by simp[placeF,cnt]
 |r::rs,x::l,acc,h=>by
  have a:=by simpa using h
  simp only[placeF,cnt];rw[jX a,jX (acc:=0*_+x) a,Nat.add_mul,Nat.mul_assoc];simp[aff]
 |[],_::_,_,h=>by simp at h
 |_::_,[],_,h=>by simp at h
def iZ{r x:Nat}{rs l:List Nat}(h:l.length=rs.length):placeF 0 (r::rs) (x::l)=x*cnt rs+placeF 0 rs l:=by
 simp only[placeF];rw[jX h];simp
theorem zm{N:Nat}(f:Nat->List (List Nat))(a:∀k,(f k).length=N):∀(n k j:Nat),k<n->j<N->((aax n).flatMap f)[k*N+j]?=(f k)[j]?
 |0,k,j,h,_=>by contradiction
 | n+1,k,j,h,hj=>by
  have c:((aax n).flatMap f).length=n*N:=by
   clear h hj
   induction n with
   |zero=>simp
   |succ n i=>rw[ab2,adu,aan,i];simp[a,adl]
  rw[ab2,adu]
  by_cases b:k<n
  .have:k*N+j<n*N:=by
    have:=acE N (show k+1≤n by assumption)
    grind
   rw[aaF (by omega),zm f a n k j b hj]
  .have e:k=n:=by omega
   simp_all
def Fits:List Nat->List Nat->Prop
 |r::rs,x::l=>x≤r/\Fits rs l
 |[],[]=>True
 |_,_=>False
theorem Fits.len:∀{rs l:List Nat},Fits rs l->l.length=rs.length
 |[],[],_=>rfl
 |_::_,_::_,h=>congrArg (· + 1) h.2.len
 |[],_::_,h=>h.elim
 |_::_,[],h=>h.elim
theorem place_lt:∀{rs l:List Nat},Fits rs l->placeF 0 rs l<cnt rs
 |[],[],_=>by simp[placeF,cnt]
 |r::rs,x::l,h=>by
  rw[iZ h.2.len,cnt];have:=place_lt h.2;have a:=acE (cnt rs) (by have:=h.1;omega)
  grind
 |[],_::_,h=>h.elim
 |_::_,[],h=>h.elim
theorem place_at:∀{rs l:List Nat},Fits rs l->(allR rs)[placeF 0 rs l]?=some l
 |[],[],_=>rfl
 |r::rs,x::l,h=>by
  rw[iZ h.2.len];show((aax _).flatMap λk=>(allR rs).map _)[_]?=_;rw[zm _ (λk=>by rw[iO,allR_cnt]) _ x _ (by have:=h.1;omega) (place_lt h.2),aai,place_at h.2];rfl
 |[],_::_,h=>h.elim
 |_::_,[],h=>h.elim
theorem place_only:∀{rs:List Nat}{i:Nat}{l:List Nat},(allR rs)[i]?=some l->i=placeF 0 rs l
 |[],0,l,h=>by
  rfl
 |[],i+1,l,h=>by simp[allR]at h
 | r::rs,i,l,h=>by
  have b:=(AD.mp h).1;rw[allR_cnt,cnt]at b;have j:0<cnt rs:=Nat.pos_of_ne_zero λz=>by rw[z]at b;simp at b
  have f:i/cnt rs<r+1:=Nat.div_lt_of_lt_mul (by rw[acY];exact b);have c:=ahi i j;have e:i=i/cnt rs*cnt rs+i%cnt rs:=by rw[acY];exact(Nat.div_add_mod i (cnt rs)).symm
  have a:=zm (N:=cnt rs) (λk=>(allR rs).map (k :: ·)) (λk=>by rw[iO,allR_cnt]) (r+1) _ _ f c;rw[<-e]at a;have d:((aax (r+1)).flatMap λk=>(allR rs).map (k :: ·))[i]?=some l:=h;rw[d,aai]at a
  cases q:(allR rs)[i%cnt rs]? with
  |none=>rw[q]at a;cases a
  |some m=>
   rw[q]at a;have:l=(i/cnt rs)::m:=aas a;subst this;have g:=place_only q;have n:=allR_len (GT q);rw[iZ n,<-g,acY];exact(Nat.div_add_mod i (cnt rs)).symm
def pick(lt:Nat->Nat->Bool):Nat->List Nat->Nat
 |b,[]=>b
 |b,k::ks=>pick lt (if lt k b then k else b) ks
def pick_self{lt:Nat->Nat->Bool}{k:Nat}{ks:List Nat}(h:lt k k=false):pick lt k (k::ks)=pick lt k ks:=by
 simp[pick,h]
theorem v8{lt:Nat->Nat->Bool}:∀{ks:List Nat}{b:Nat},pick lt b ks=b\/pick lt b ks∈ks
 |[],b=>.inl rfl
 | k::ks,b=>by
  simp only[pick];rcases v8 with h|h
  .rw[h]
   by_cases q:lt k b=true
   .rw[if_pos q];exact .inr aae
   .rw[if_neg q];exact .inl rfl
  .exact .inr (aaf _ h)
theorem pick_app{lt:Nat->Nat->Bool}:∀{ks:List Nat}{b k:Nat},pick lt b (ks++[k])=if lt k (pick lt b ks)then k else pick lt b ks
 |[],b,k=>rfl
 |j::ks,b,k=>by simp;exact pick_app
theorem placeF_take:∀{rs l:List Nat}{i acc r x:Nat},rs[i]?=some r->l[i]?=some x->placeF acc (rs.take (i+1)) (l.take (i+1))=placeF acc (rs.take i) (l.take i)*(r+1)+x
 |r0::rs,x0::l,0,acc,r,x,h1,h2=>by
  have e:=by simpa using h1
  have a:=by simpa using h2
  subst e a;rfl
 |r0::rs,x0::l,i+1,acc,r,x,h1,h2=>by
  simp;exact placeF_take ‹_› ‹_›
 |[],_,_,_,_,_,h1,_=>by simp at h1
 |_::_,[],_,_,_,_,_,h2=>by simp at h2
end M7
namespace K
open PySem L2 M7
variable{n:Nat}
def Hall.an(h:Hall)(k:Nat):Nat:=(h.ss.map Srv.a).getD k 0
def Hall.bn(h:Hall)(k:Nat):Nat:=(h.ss.map Srv.b).getD k 0
def cP(l:List Nat)(k b:Nat):Bool:=decide (l.getD k 0<l.getD b 0)
def cK(h:Hall)(l:List Nat)(k b:Nat):Bool:=decide ((l.getD k 0+1)*h.bn k*h.an b<(l.getD b 0+1)*h.bn b*h.an k)
def sent(h:Hall)(r:Rule)(l:List Nat)(t:Nat)(o:List Nat):Nat:=match r with
 | .random=>o.headD 0
 | .turns=>t
 | .two=>pick (cP l) (o.headD 0) (o.take 2)
 | .least=>pick (cP l) (o.headD 0) o
 | .quick=>pick (cK h l) (o.headD 0) o
 | .told p=>p.getD (placeF 0 h.rs l) 0
structure Ord(n:Nat)(o:List Nat):Prop where
 ne:o≠[]
 lt:∀k∈o,k<n
 le:o.length≤4
theorem Lines.fits{h:Hall}{l:List Nat}(k:Lines h l):Fits h.rs l:=by
 let⟨k1,k2⟩:=k;unfold Hall.rs;generalize h.ss=ss at k1 k2
 induction ss generalizing l with
 |nil=>cases l with
  |nil=>trivial
  |cons _ _=>simp at k1
 |cons s ss a=>cases l with
  |nil=>simp at k1
  |cons x l=>exact⟨k2 0 s x rfl rfl,a (by simpa using k1) λi s x e b=>k2 (i+1) s x ‹_› ‹_›⟩
theorem getN{l:List Nat}{k:Nat}(a:l.length=n)(h:k<n):l[k]?=some (l.getD k 0):=by simp_all
def Hall.srv{h:Hall}{k:Nat}(a:k<h.ss.length):∃s,h.ss[k]?=some s/\h.an k=s.a/\h.bn k=s.b/\s∈h.ss:=by
 refine⟨h.ss[k],lD a,?_,?_,adn a⟩
 .exact bu (by rw[aai,lD a];rfl)
 .exact bu (by rw[aai,lD a];rfl)
def Jf:SpM:=λe K=>∃a b c d:Nat,e=[.imm (frD a b),.imm (frD c d)]/\a<1000000000000/\b<1000000000000/\c<1000000000000/\d<1000000000000/\K (.imm (.bool (decide (a*d<c*b)))) []
def Cr:SpM:=λa K=>∃(h:Hall) (l:List Nat),a=[.imm h.d,.imm (lnD l)]/\h.Ok/\Lines h l/\K (.imm (.int (placeF 0 h.rs l:Nat))) []
def pC:SpM:=λa K=>∃(l o:List Nat),a=[.imm (lnD l),.imm (lnD o)]/\Ord l.length o/\K (.imm (.int (pick (cP l) (o.headD 0) o:Nat))) []
def IA:SpM:=λa K=>∃(h:Hall) (l:List Nat) (k:Nat),a=[.imm h.d,.imm (lnD l),.imm (.int (k:Int))]/\h.Ok/\Lines h l/\k<h.ss.length/\K (.imm (frD ((l.getD k 0+1)*h.bn k:Nat) (h.an k:Nat))) []
def qe:SpM:=λa K=>∃(h:Hall) (l o:List Nat),a=[.imm h.d,.imm (lnD l),.imm (lnD o)]/\h.Ok/\Lines h l/\Ord h.ss.length o/\K (.imm (.int (pick (cK h l) (o.headD 0) o:Nat))) []
def stD(l:List Nat)(t:Nat):aD:=.tuple [lnD l,.int (t:Int)]
def wm:SpM:=λa K=>∃(h:Hall) (r:Rule) (l:List Nat) (t:Nat) (o:List Nat),a=[.imm h.d,.imm r.d,.imm (stD l t),.imm (lnD o)]/\h.Ok/\r.Ok h/\Lines h l/\Ord h.ss.length o/\K (.imm (.int (sent h r l t o:Nat))) []
theorem Ord.cons{o:List Nat}(h:Ord n o):∃k ks,o=k::ks/\k<n:=by
 cases o with
 |nil=>exact(h.ne rfl).elim
 |cons k ks=>exact⟨k,ks,rfl,h.lt k aae⟩
def mF{lt:Nat->Nat->Bool}{o:List Nat}(h:Ord n o)(i:Nat):pick lt (o.headD 0) (o.take i)<n:=by
 let⟨k,b,rfl,a⟩:=h.cons;rcases v8 with e|e
 .rw[e];exact a
 .exact h.lt _ (ace e)
def Rule.tl:Rule->List aD
 | .told p=>[lnD p]
 |_=>[]
def Rule.dc(r:Rule):r.d = .tuple (.str r.word::r.tl):=by cases r<;>rfl
def JH{m:MSt}{K:R->Prop}{d x:aD}{ds:List aD}{i:Int}(e:d = .tuple ds)(h:atI ds i=some x)(k:K (.imm x)):qp (.imm d) (.imm (.int i)) m K:=by
 subst e;exact aU h k
end K
namespace L2
open PySem PySem.Spec PyProof.Rows
variable{items:Array Ad}{ns:List Int}{Kr:R->Prop}{ds:List aD}
def tw{prog:aaK}{w:World}{A:abf}(t:Bool)(c:A.handled=none)(I a:Addr)(b:a≠I)(items:Array Ad):Walks prog w A I [I,a] [I] items.size (λi v=>items[i]?=some v) (λi h=>SubI t h I a i/\SubS t h a items):=by
 cases t
 .exact Walks.list c I a b items
 .exact Walks.tuple c I a b items
section
variable {prog:aaK}{w:World}{A:abf}{E:Ad->Io->Prop}{s:Io}
def xv{t:Bool}{l:Addr}{Q:Ad->Io->Prop}(c:SubS t s.heap l items)
  (h:∀s2:Io,s2={s with heap:=s.heap.push (itO t l)}->(SubI t s2.heap s.heap.objs.size l 0/\SubS t s2.heap l items)->(∀b∈[s.heap.objs.size,l],b<s2.heap.objs.size)->l≠s.heap.objs.size->Q (.ref s.heap.objs.size) s2):wpAny (model prog w) A (afz (.ref l)) Q E s:=by
 have a:l<s.heap.objs.size:=by
  cases t
  .obtain⟨_,e,_⟩:=(c);exact aaq e
  .obtain⟨_,e,_⟩:=(c);exact aaq e
 refine jJ c (h _ rfl ⟨?_,c.keep λo e=>LD _ e⟩ (λb d=>?_) (aa0 a))
 .cases t
  .exact⟨_,aap _ rfl,rfl,rfl⟩
  .exact⟨_,aap _ rfl,rfl,rfl⟩
 .rw[abz];simp at d;rcases d with rfl|rfl
  .simp
  .exact ad3 a
def vV{t:Bool}{l:Addr}{h':aaT}(a:∀b o,b∉[s.heap.objs.size]->(s.heap.push (itO t l)).get? b=some o->h'.get? b=some o):∀b o,s.heap.get? b=some o->h'.get? b=some o:=λb o e=>
 a b o (λh=>absurd (aaq e) (by rw[aaa.mp h];exact acH _)) (LD _ e)
def vc(h:aeD items.toList ns):∀(i:Nat) (v:Ad),items[i]?=some v->∃t,v = .int (ns.getD i 0) t:=λi v e=>h.int_at i v (by simpa)
end
section
variable {X:Cx}
def rMax(K:aag):List V->Hp->VK->Prop:=λa H Q=>∃t l ns,a=[.ref l]/\SqB t K H l (ns.map V.int)/\ns≠[]/\∀x,x∈ns->(∀y∈ns,y≤x)->Q (.int x) H
def Fi{b:Nat}(c:b≤ns.length-1)(h:ns≠[]):ns.getD b 0∈ns:=by
 have a:b<ns.length:=by
  have:ns.length≠0:=λz=>h (aa4 z);omega
 rw[bu (lD a)];simp
theorem si(C:X.calm=true):dt X (.builtin "max") (rMax X.K):=by
 intro p s F H K G Q I B ⟨t,l,ns,ex,x,c,q⟩;subst ex;let⟨u,rfl,n⟩:=B.one;cases n;let⟨a,r,w,_⟩:=I.sqb x;have f:=fY r;have z:a.length=ns.length:=by have:=r.length;rw[iO]at this;omega
 refine call_max_walk (xv w λs2 e m b d=>?_);subst e;refine⟨s.heap.objs.size,[s.heap.objs.size,l],[s.heap.objs.size],a.toArray.size,λi v=>a.toArray[i]?=some v,λi h=>SubI t h s.heap.objs.size l i/\SubS t h l a.toArray,_,rfl,tw (A:=X.A.in1) t (I.ok.hd C) _ l d a.toArray,m,b,?_,CmpOf.ints_gt (λi=>ns.getD i 0) (vc f),λv J k E D=>?_⟩
 .grind
 .obtain⟨tt,rfl⟩:=vc f _ v E;rw[aaI,z]at *;let⟨b1,b2⟩:=PySem.argBest_gt (λi=>ns.getD i 0) (ns.length-1);refine⟨.int _,H,I.kept (t':=k) (vV D),⟨_,rfl⟩,q _ (Fi b1 c) λy g=>?_⟩;let⟨j,o,rfl⟩:=abT.mp g;have:=b2 j (by omega);rwa[bu (lD o)]at this
end
section
variable {X:Cx}
def RG:WC:=λrs m K=>on1 (λr=>∃ds ns,sqOf m r=some ds/\dm ds=some ns/\ns≠[]/\∀x,x∈ns->(∀y∈ns,y≤x)->K (.imm (.int x))) rs
theorem fH(k:X.calm=true):dt X (.builtin "max") (cM X.kx RG):=by
 intro p s b H z u Q I j ⟨w,m,t,A,rs,K,R,h,i,d⟩;let⟨r,v,rfl,rfl,e,ds,ns,o,q,c,i⟩:=e8 h i;let⟨a,y,rfl,f,g⟩:=e.seq R o;rw[ix q]at g;have l:=dQ g;subst l;have go:=λx e n=>d _ _ H (i x e n) R (dw _) (Frm.refl _ _);rcases f with f|f
 .exact si k p s b H _ u Q I j ⟨false,a,ns,rfl,f,c,go⟩
 .exact si k p s b H _ u Q I j ⟨true,a,ns,rfl,f,c,go⟩
def sf{m:MSt}{r:R}(e:sqOf m r=some ds)(b:dm ds=some ns)(a:ns≠[])(h:∀x,x∈ns->(∀y∈ns,y≤x)->Kr (.imm (.int x))):RG [r] m Kr:=⟨ds,ns,e,b,a,h⟩
end
open SeqAt in
open AutoSeq1 (wpAny_loadPart') in
def vh(l:Addr)(items:Array Ad)(n:Nat)(D:Option Addr)(sl:Array (Option Ad))(x:Ad)(e:Ad->Bool)(j:Nat)(E:j<items.size)(q:e items[j]=true)(k:∀m (G:m<items.size),m<j->e items[m]=false) :
  Meets (acB.«tuple.index» ⟨[.ref l,x],[]⟩)
   (λA R s=>s.heap.get? l=some {cls:=.type "tuple",dict:=D,data:=.seq items n,slots:=sl}/\(∀y,y∈items->EqAt A.in1 s y x (e y))/\R (.ok (.ret (.int j s.toks))) {s with toks:=s.toks+1}):=
 .of_wp λprog w A R s h=>by
  rcases s with⟨z,g,d,t,os⟩;rcases h with⟨C,v,h⟩
  (wp_walk using aex C)
  refine(show wpAny (model prog w) A.in1 (forIn ([:min items.size items.size]:Std.Legacy.Range) _ _) _ _ _ from ?_);simp only[Std.Legacy.Range.forIn_eq_forIn_range'];have F:ag5 (0:Nat) (min items.size items.size) 1=ag5 0 items.size 1:=by rw[agM]
  refine aeg _ (λrest (b:Option _×Unit) p=>b.1=none/\p=⟨z,g,d,t,os⟩/\∃i,i≤j/\rest=ag5 i (items.size-i) 1) _ ?turn ?fin _ _ ?start
  case turn=>
   intro i rest b p ⟨u,rfl,f,r,c⟩;have a:f<items.size:=by omega
   have B:items.size-f=(items.size-(f+1))+1:=by omega
   rw[B,List.range'_succ]at c;cases c;rw[show items[i]?=some items[i]from ab4 a];refine gT (v items[i] (Array.getElem_mem a) prog w _ _ ?_)
   by_cases o:i=j
   .subst o;rw[q]
    wp_walk
    exact⟨_,rfl,h⟩
   .rw[k i a (by omega)]
    wp_walk
    exact⟨rfl,rfl,i+1,by omega,rfl⟩
  case fin=>
   intro⟨b1,b2⟩ p ⟨u,rfl,f,r,c⟩;have:=congrArg adg c;simp at this;omega
  case start=>
   refine⟨rfl,rfl,0,abh _,?_⟩;simp[Std.Legacy.Range.size]
section
variable {X:Cx}{o e:Expr}{es:List Expr}{w:WE}{l:WA}{b c:Pos}
abbrev wMT(a:WM)(w:WE)(l:WA):WE:=λm K=>w m λr m1=>(∃ds,r = .imm (.tuple ds))/\l m1 λrs m2=>a r rs m2 K
theorem UX{name:Str}{id:String}{C:WM}(slot:Slot "tuple" name id)(s:typeOf (.builtin id)=pure (.type "method_descriptor"))(M:MtM X id (mM X.kx C))(O:ME X o w)(I:MA X (e::es) l)
  (i:abo o name X.env (eval o X.env)=eval o X.env:=by rfl)
  (j:((abj c (aac (e::es) X.env)).all (λx=>!x.1)&&(acR c (abR [] X.env)).all (λx=>x.1.isSome)
   && decide ((e::es).length+([]:List acW).length+(if ([]:List acW).isEmpty then 0 else 1)<30))=true:=by rfl)
  (d:(b.endLine==c.line)=true:=by rfl) (L:aac (e::es) X.env=(false,eval e X.env)::aac es X.env:=by first|exact aI rfl|rfl) (h:(abj c (aac es X.env)).any (·.1)=false:=by rfl) :
  ME X (.Call (.Attribute o name b) (e::es) [] c) (wMT C w l):=(Uj PySem.F.plainAttrs_tuple slot s M O I i j d L h).wk<|by
 intro E H Q ⟨q,m,K,B,N,u⟩;refine⟨q,m,_,B,N,λr m1 v J k n1 R rr D=>?_⟩;let⟨⟨ds,rfl⟩,k⟩:=k;let⟨a,S,rfl,f,g⟩:=b5 (rr);refine⟨.inr (.inl ⟨rfl,S,f⟩),q,m1,_,R,k,λrs m2 vs T k2 n2 p t A=>?_⟩;exact⟨q,m2,E,H,J,.imm _,rs,K,p,rr.keep B R A,t,k2,λr G v P k n y z F=>u r G v P k (n.trans (n2.trans n1)) y (z.base p (D.trans A)) ((D.trans A).trans F)⟩
theorem w5{name:Str}{id:String}{i:WM}(slot:Slot "tuple" name id)(g:typeOf (.builtin id)=pure (.type "method_descriptor"))(j:MtM X id (mM X.kx i))(m:EE X o w)(n:EA X (e::es) l)
  (d:abo o name X.env (eval o X.env)=eval o X.env:=by rfl)
  (f:((abj c (aac (e::es) X.env)).all (λx=>!x.1)&&(acR c (abR [] X.env)).all (λx=>x.1.isSome)
   && decide ((e::es).length+([]:List acW).length+(if ([]:List acW).isEmpty then 0 else 1)<30))=true:=by rfl)
  (a:(b.endLine==c.line)=true:=by rfl) (k:aac (e::es) X.env=(false,eval e X.env)::aac es X.env:=by first|exact aI rfl|rfl) (h:(abj c (aac es X.env)).any (·.1)=false:=by rfl) :
  EE X (.Call (.Attribute o name b) (e::es) [] c) (wMT i w l):=⟨UX slot g j m.h n.h d f a k h⟩
def x_ts{P:Prop}(h:P):(∃es,R.imm (.tuple ds) = .imm (.tuple es))/\P:=⟨⟨ds,rfl⟩,h⟩
def zn:WM:=λr rs m K=>on1 (jx λd=>∃ds j,r = .imm (.tuple ds)/\d.canLay0=true/\abp ds=true/\d.depth≤60/\(∃y,ds[j]?=some y/\aad y d=true)/\(∀(i:Nat) y,i<j->ds[i]?=some y->aad y d=false)/\K (.imm (.int (j:Nat))) m) rs
theorem ii(hu:X.A.units+64<cLine):MtM X "tuple.index" (mM X.kx zn):=by
 intro P s U H x xs v us Q I rx rv ⟨α,m,σ,H0,H1,r,rs,Kc,Rl,h1,J,z,K⟩;let⟨r2,v2,rfl,rfl,J,z⟩:=e8 J z;let⟨d,rfl,hd,ds,j,rfl,S,G,dp,⟨y,M,eq⟩,D,z⟩:=fI J z;let⟨a,zs,rfl,f,g⟩:=b5 (show Den X.kx H (.tuple ds) x from h1);cases rx;let⟨u,rfl,V⟩:=rv.one;let⟨bs,W⟩:=Den.reads I (aa3 _ S) hd V;let⟨h,F,⟨o,A,R,E,n,k⟩,hz⟩:=I.tupleP f;let⟨as,t⟩:=DenAll.reads I (abn _ G) g F;have hm:X.A.units+1+min (aay ds) d.depth<cLine:=by have:=adk (aay ds) d.depth;omega
 have p:=agw ds _ _ G t;have O:h.length=ds.length:=by rw[<-p,iO]
 have N:j<h.length:=by rw[O];exact(AD.mp M).1
 have L:∀(i:Nat) (C:i<h.length) y,ds[i]?=some y->ac0 s.heap h[i]=y:=λi C y e=>by
  rw[<-p,aai,lD C]at e;exact aas e
 let⟨Y,dd,T,Z⟩:=o;dsimp only at R k;subst R;subst k;refine adQ aca ⟨_,A,rfl⟩ PySem.F.entry_tuple_index (PySem.F.args_tuple_index_2 _ _)
  (vh a h.toArray _ dd Z u (λy=>aad (ac0 s.heap y) d) j (by simpa using N) ?_ ?_) ⟨A,agZ (by simpa using t) W G S hm,?_⟩
 .show aad (ac0 s.heap h[j]) d=true;rw[L j N y M];exact eq
 .intro i C hlt;have q:i<h.length:=by simpa using C
  show aad (ac0 s.heap h[i]) d=false;have B:i<ds.length:=by rw[<-O];exact q
  rw[L i q _ (lD B)];exact D i _ hlt (lD B)
 .exact⟨.int (j:Nat),H,I.tok _,⟨_,rfl⟩,K _ _ _ H z rfl Rl (dw _) (Frm.refl _ _)⟩
def k9{m:MSt}{d y:aD}{j k k':Nat}{K:R->MSt->Prop}(s1:Shp k d)(s2:∀y∈ds,Shp k' y)(f:k≤60)(g:ds[j]?=some y)(eq:aad y d=true)(a:∀(i:Nat) y,i<j->ds[i]?=some y->aad y d=false)(h:K (.imm (.int (j:Nat))) m):zn (.imm (.tuple ds)) [.imm d] m K:=
 ⟨ds,j,rfl,s1.cl,(jN s2).1,aaw s1.dp f,⟨y,g,eq⟩,a,h⟩
end
def yF:fillsNumberSlot (.type "tuple") "mul" = pure false:=
 PySem.fillsNumberSlot_seq ad4.lookup rfl afr.lookup rfl
def KL:seqRepeat? (.type "tuple")=pure (some (.builtin "tuple.__mul__")):=by
 unfold seqRepeat?;rw[ag1 (name:= "__mul__") ad4.lookup rfl,ag1 (name:= "__rmul__") afr.lookup rfl];rfl
def DM(a:Int)(t:Tok)(l:Addr)(items:Array Ad)(n:Nat)(d:Option Addr)(sl:Array (Option Ad)) :
  Meets (acB.«int.__rmul__» ⟨[.int a t,.ref l],[]⟩) (λ_ R s=>s.heap.get? l=some {cls:=.type "tuple",dict:=d,data:=.seq items n,slots:=sl}/\R (.ok (.ret Ad.notImplemented)) s):=
 .of_wp λprog w A R s h=>by
  rcases h with⟨b,h⟩
  wp_walk
  exact⟨_,rfl,h⟩
open AutoSeq1 (wpAny_loadPart') in
theorem JN(l:Addr)(items:Array Ad)(n:Nat)(C:Option Addr)(sl:Array (Option Ad))(k:Int)(t:Tok)(F:0≤k)(E:k<2^20)(G:items.size*k.toNat≤1000000) :
  Meets (acB.«tuple.__mul__» ⟨[.ref l,.int k t],[]⟩) (λ_ R s=>s.heap.get? l=some {cls:=.type "tuple",dict:=C,data:=.seq items n,slots:=sl}/\
   if (items.isEmpty||k==1)=true then R (.ok (.ret (.ref l))) s else R (.ok (.ret (.ref s.heap.objs.size))) {s with heap:=s.heap.push {cls:=.type "tuple",data:=.seq ((aar k.toNat items).foldl (λx c=>x++c) #[])} }):=
 .of_wp λprog w A R s h=>by
  rcases s with⟨r,g,d,p,os⟩;rcases h with⟨o,h⟩
  (wp_walk using aex o)
  have D:(⟨r,g,d,p,os⟩:Io).TypeIs (.ref l) "tuple":=(⟨_,o,rfl⟩);have j:IsTup (⟨r,g,d,p,os⟩:Io).heap l items:=⟨_,o,rfl,n,rfl⟩;have u:((items.size:Nat):Int)*k≤1000000:=by
   have y:k=((k.toNat:Nat):Int):=by omega
   rw[y,<-adM];omega
  rw[if_neg (show ¬_ by simp only[decide_eq_true_eq,afS];omega)];refine gT (ago j ?_)
  by_cases f:(items.isEmpty||k==1)=true
  .rw[if_pos f]at h⊢;refine gT ?_;unfold aeP;refine gT (acV D (Ld ?_));rw[if_pos (by rfl)];exact gT (acI (Ld ⟨_,rfl,h⟩))
  .rw[if_neg f]at h⊢;have v:items.isEmpty=false:=by
    cases q:items.isEmpty with
    |false=>rfl
    |true=>rw[q]at f;exact(f rfl).elim
   by_cases i:k=0
   .subst i;show wpAny _ _ (if (decide ((0:Int)≤0)||items.isEmpty)=true then _ else _) _ _ _;rw[if_pos (by rfl)];exact gT (m:=abM #[]) (abc (Ld ⟨_,rfl,h⟩) (by show(0:Nat)≤aal;exact abh _))
   have B:(decide (k≤0)||items.isEmpty)=false:=by rw[v,decide_eq_false (by omega)];rfl
   have b:∀(m:Nat) (a:Array Ad),(ahg (λx c=>x++c) a (aar m items)).size=a.size+m*items.size:=by
    intro m
    induction m with
    |zero=>intro a;simp
    |succ m z=>intro a;rw[acl,aes,z,Array.size_append,adl];omega
   have e:((aar k.toNat items).foldl (λx c=>x++c) #[]).size≤aal:=by
    rw[b,aak,acY];simp;omega
   show wpAny _ _ (if (decide (k≤0)||items.isEmpty)=true then _ else _) _ _ _;rw[if_neg (by rw[B];exact aaj)];show wpAny _ _ (if ((items.size:Nat):Int)*k>(2^63-1)/8 then _ else _) _ _ _;rw[if_neg (by omega)];show wpAny _ _ (if aeS (((items.size:Nat):Int)*k)=true then _ else _) _ _ _;rw[if_neg (by unfold aeS;rw[decide_eq_true_eq,aak];omega)];exact gT (m:=abM _) (abc (Ld ⟨_,rfl,h⟩) e)
section
variable {X:Cx}
def Vm(K:aag):R2:=λx y H Q=>∃a b k,x = .ref a/\y = .int k/\SqT K H a b/\0≤k/\k<2^20/\b.length*k.toNat≤1000000/\
 if (b.isEmpty||k==1)=true then Q (.ref a) H else ∀p,H p=none->Q (.ref p) (upd H p (.tup (aar k.toNat b).flatten))
theorem Jt:OpR X (acd .Mult) (Vm X.K):=by
 intro w s N H x y v u Q I L M h;let⟨a,c,k,rfl,rfl,E,J,G,K,q⟩:=h;cases L;let⟨t,rfl⟩:=M;let⟨i,r,⟨o,g,j,hd,n,f⟩,B⟩:=I.tupleP E;let⟨D,z,A,p⟩:=o;dsimp only at j f;subst j f;have l:c.length=i.length:=r.length;have m:i.toArray.isEmpty=c.isEmpty:=by
  cases i with
  |nil=>have:c=[]:=aa4 (by simpa using l);subst this;rfl
  |cons _ _=>cases c with
   |nil=>simp at l
   |cons _ _=>rfl
 have d:=by
  have:=l5 i k.toNat [];omega
 refine aeX (T:= "tuple") (U:= "int") (by decide) ⟨_,g,rfl⟩ (λC=>afF C k t) yF PySem.F.fills_int_mul afZ KL PySem.F.slot_int_index.lookup
  (adQ afZ (afF s k t) PySem.F.entry_int_rmul (PySem.F.args_int_rmul_2 _ _) (DM k t a i.toArray n z p)
   ⟨g,rfl,⟨_,g,rfl⟩,adQ ad4 ⟨_,g,rfl⟩ PySem.F.entry_tuple_mul (PySem.F.args_tuple_mul_2 _ _) (JN a i.toArray n z p k t J G (by rw[aaI,<-l];exact K)) ⟨g,?_⟩⟩)
 rw[m,d]
 by_cases j:(c.isEmpty||k==1)=true
 .rw[if_pos j]at q⊢;exact⟨.ref a,H,I,rfl,q⟩
 .rw[if_neg j]at q⊢;have F:H s.heap.objs.size=none:=I.hok.fresh (aab _);refine⟨.ref s.heap.objs.size,_,I.laid (t':=s.toks) (o:=.tup (aar k.toNat c).flatten) (λb O e=>LD _ e) (aab _) ⟨?_,_,r.rep k.toNat,PlainT.new _ _⟩,rfl,q _ F⟩;rw[zY,acY,aak];omega
def zM:WO
 | .imm (.int i),.imm (.int j),_,K=>agD i j/\K (.imm (.int (i*j)))
 | .imm (.tuple ds),.imm (.int k),_,K=>0≤k/\k<2^20/\ds.length*k.toNat≤1000000/\K (.imm (.tuple (aar k.toNat ds).flatten))
 | .new ds,.imm (.int k),_,K=>0≤k/\k<2^20/\ds.length*k.toNat≤1000000/\K (.new (aar k.toNat ds).flatten)
 |_,_,_,_=>False
theorem jQ{K:Kd}{H:Hp}{ds:List aD}{xs:List V}(g:DenAll K H ds xs):∀k:Nat,DenAll K H (aar k ds).flatten (aar k xs).flatten
 |0=>by simp[ DenAll]
 |k+1=>by rw[ acl];exact g.append (jQ g k)
theorem bT:OpR X (acd .Mult) (rM X.kx zM):=by
 intro b s l H x y v u Q I w z ⟨C,m,B,F,D,r1,G,K,R,r,q,h,c⟩;unfold zM at h
 split at h
 .rename_i i j;exact Lu b s l H x y v u Q I w z ⟨C,m,B,F,D,.imm (.int i),.imm (.int j),K,R,r,q,h,c⟩
 .rename_i ds k;let⟨k1,k2,A,h⟩:=h;let⟨a,o,rfl,f,g⟩:=b5 (show Den X.kx H (.tuple ds) x from r);have t:=aF (show Den X.kx H (.int k) y from q);subst t;refine Jt b s l H _ _ v u Q I w z ⟨a,o,k,rfl,rfl,f,k1,k2,by rw[<-g.length];exact A,?_⟩
  by_cases n:(o.isEmpty||k==1)=true
  .rw[if_pos n];refine c _ _ H h R (oO (f8 f ?_)) (Frm.refl _ _);have e:(aar k.toNat ds).flatten=ds:=by
    rw[afS]at n;rcases n with n|n
    .have hx:o=[]:=ag2.mp n;have hd:ds=[]:=aa4 (by rw[g.length,hx];rfl);subst hd;simp
    .simp_all
   rw[e];exact g
  .rw[if_neg n];exact λp d=>c _ _ _ h (R.lay d) (oO (f8 (SqT.of aE) ((jQ g k.toNat).mono (bt (.inl d))))) (cI d)
 .rename_i ds k;let⟨k1,k2,A,h⟩:=h;let⟨a,o,rfl,J,E,g⟩:=r;have t:=aF (show Den X.kx H (.int k) y from q);subst t;refine RH b s l H _ _ v u Q I w z ⟨a,k,o,rfl,rfl,E,by omega,by omega,by rw[<-g.length,aak];omega,λp d=>?_⟩;exact c _ _ _ h (R.lay d) ⟨p,_,rfl,d,aE,(jQ g k.toNat).mono (bt (.inl d))⟩ (cI d)
 .exact h.elim
def KQ{m:MSt}{i j:Int}(a:agD i j)(h:Kr (.imm (.int (i*j)))):zM (.imm (.int i)) (.imm (.int j)) m Kr:=⟨a,h⟩
def w4{m:MSt}{k:Int}(a:0≤k)(c:k<2^20)(b:ds.length*k.toNat≤1000000)(h:Kr (.imm (.tuple (aar k.toNat ds).flatten))):zM (.imm (.tuple ds)) (.imm (.int k)) m Kr:=⟨a,c,b,h⟩
def PK{m:MSt}{k:Int}(a:0≤k)(c:k<2^20)(b:ds.length*k.toNat≤1000000)(h:Kr (.new (aar k.toNat ds).flatten)):zM (.new ds) (.imm (.int k)) m Kr:=⟨a,c,b,h⟩
end
end L2
namespace K
open PySem L2 M7
variable{l:List Nat}{h:Hall}{r:Rule}{t:Nat}
inductive Mv where
 |come (o:List Nat)|done (k:Nat)|still
def Mv.d:Mv->aD
 | .come o=>.tuple [.str "come",lnD o]
 | .done k=>.tuple [.str "done",.int (k:Int)]
 | .still=>.tuple [.str "still"]
def Mv.Ok(h:Hall):Mv->Prop
 | .come o=>Ord h.ss.length o
 | .done k=>k<h.ss.length
 | .still=>True
inductive Wd where
 |taken|away|served|none
def Wd.s:Wd->Str
 | .taken=> "taken" | .away=> "away" | .served=> "served" | .none=> "none"
def Hall.rn(h:Hall)(k:Nat):Nat:=h.rs.getD k 0
def c7(h:Hall)(l:List Nat)(k:Nat):List Nat×Wd:=if l.getD k 0=h.rn k then(l,.away)else(l.set k (l.getD k 0+1),.taken)
def dM(l:List Nat)(k:Nat):List Nat×Wd:=if l.getD k 0=0 then(l,.none)else(l.set k (l.getD k 0-1),.served)
def idx(l:List Nat)(x:Nat):Nat:=l.findIdx (λy=>y==x)
def maxN(l:List Nat):Nat:=l.foldl max 0
def d3(h:Hall)(l:List Nat):Option (Nat×Nat):=if h.mv=true/\0∈l/\2≤maxN l then some (idx l (maxN l),idx l 0)else none
def cQ(l:List Nat)(p:Nat×Nat):List Nat:=(l.set p.1 (l.getD p.1 0-1)).set p.2 ((l.set p.1 (l.getD p.1 0-1)).getD p.2 0+1)
def dn(h:Hall):Nat->List Nat->List Nat
 |0,l=>l
 |n+1,l=>match d3 h l with
  |none=>l
  |some p=>dn h n (cQ l p)
def gA(h:Hall)(l:List Nat):List Nat:=dn h (l.count 0) l
theorem lM:∀(l:List Nat) (a:Nat),a≤l.foldl max a/\(∀x∈l,x≤l.foldl max a)/\(l.foldl max a=a\/l.foldl max a∈l)
 |[],a=>⟨aab _,(λ_ h=>by cases h),.inl rfl⟩
 | y::l,a=>by
  let⟨c,d,e⟩:=lM l _;refine⟨aaw (aev a y) c,λx b=>?_,?_⟩
  .rcases aah.mp b with rfl|b
   .exact aaw (Nat.le_max_right a x) c
   .exact d x b
  .grind
def uW:∀x∈l,x≤maxN l:=(lM l 0).2.1
theorem jt(h:l≠[]):maxN l∈l:=by
 rcases (lM l 0).2.2 with e|e
 .cases l with
  |nil=>exact(h rfl).elim
  |cons x l=>
   have:x≤maxN (x::l):=uW x aae;have a:maxN _=0:=e
   grind
 .exact e
theorem iw{x:Nat}(h:x∈l):l[idx l x]?=some x/\∀i y,i<idx l x->l[i]?=some y->y≠x:=by
 have a:idx l x<l.length:=List.findIdx_lt_length_of_exists ⟨x,h,by simp⟩;refine⟨?_,λi y b c e=>?_⟩
 .rw[lD a];have:=List.findIdx_getElem (w:=a);simp at this;exact congrArg some this
 .have:=List.not_of_lt_findIdx b
  grind
theorem cp(a b:Nat):aad (.int (a:Int)) (.int (b:Int))=decide (a=b):=by
 simp[aad]
 by_cases h:a=b
 .subst h;simp
 .have:¬_:=λz=>h (Int.ofNat.inj z)
  simp_all
def br(l:List Nat):∀y∈natD l,Shp 0 y:=λy a=>by
 let⟨x,_,rfl⟩:=aam.mp a;exact cE _
def xU(l:List Nat)(k x:Nat):(natD l).set k (.int (x:Int))=natD (l.set k x):=by
 unfold natD;rw[List.map_set]
def o9:SpM:=λa K=>∃(l:List Nat) (k:Nat) (d:Int) (x:Nat),a=[.imm (lnD l),.imm (.int (k:Int)),.imm (.int d)]/\k<l.length/\l.length≤1000/\(l.getD k 0:Int)+d=(x:Int)/\K (.imm (lnD (l.set k x))) []
def lwD(p:List Nat×Wd):aD:=.tuple [lnD p.1,.str p.2.s]
def IW:SpM:=λa K=>∃(h:Hall) (l:List Nat) (k:Nat),a=[.imm h.d,.imm (lnD l),.imm (.int (k:Int))]/\h.Ok/\Lines h l/\k<h.ss.length/\K (.imm (lwD (c7 h l k))) []
def IM:SpM:=λa K=>∃(l:List Nat) (k:Nat),a=[.imm (lnD l),.imm (.int (k:Int))]/\k<l.length/\l.length≤1000/\K (.imm (lwD (dM l k))) []
def optP:Option (Nat×Nat)->aD
 |none=>.none
 |some p=>.tuple [.int (p.1:Int),.int (p.2:Int)]
def Ce:SpM:=λa K=>∃(h:Hall) (l:List Nat),a=[.imm h.d,.imm (lnD l)]/\l≠[]/\l.length≤1000/\K (.imm (optP (d3 h l))) []
def tf:SpM:=λa K=>∃(h:Hall) (l:List Nat),a=[.imm h.d,.imm (lnD l)]/\l≠[]/\l.length≤1000/\K (.imm (lnD (gA h l))) []
theorem ip{p:Nat×Nat}(e:d3 h l=some p):h.mv=true/\l[p.1]?=some (maxN l)/\2≤maxN l/\l[p.2]?=some 0/\p.1≠p.2:=by
 unfold d3 at e
 split at e
 .rename_i q;let⟨d,a,c⟩:=q;have b:l≠[]:=λz=>by rw[z]at a;cases a
  have s1:=(iw (jt b)).1;have s:=(iw a).1
  grind
 .cases e
theorem jL{p:Nat×Nat}(e:d3 h l=some p):cQ l p=(l.set p.1 (maxN l-1)).set p.2 1/\p.1<l.length/\p.2<l.length/\(cQ l p).count 0+1=l.count 0/\(cQ l p).length=l.length:=by
 let⟨u,b,o,a,i⟩:=ip e;have f:=(AD.mp b).1;have c:=(AD.mp a).1;have n:l.getD p.1 0=maxN l:=bu b;have m:(l.set p.1 (maxN l-1)).getD p.2 0=0:=bu (by rw[aaP i];exact a);have g:cQ l p=(l.set p.1 (maxN l-1)).set p.2 1:=by unfold cQ;rw[n,m]
 have j:=by rw[lD f]at b;exact aas b
 have k:l[p.2]=0:=by rw[lD c]at a;exact aas a
 refine⟨g,f,c,?_,by rw[g,abe,abe]⟩;have q:0<l.count 0:=List.count_pos_iff.mpr (GT a);have d:p.2<(l.set p.1 (maxN l-1)).length:=by rw[abe];exact c
 have v:(l.set p.1 (maxN l-1))[p.2]=0:=by rw[adw i];exact k
 rw[g,List.count_set d,List.count_set f,v,j];have d1:(maxN l==0)=false:=by simp;omega
 have s:(maxN l-1==0)=false:=by simp;omega
 simp_all
theorem ko(e:d3 h l=none):∀n,dn h n l=l
 |0=>rfl
 |n+1=>by simp[dn,e]
def Cz(h:Hall)(r:Rule)(t:Nat):Nat:=match r with
 | .turns=>(t+1)%h.ss.length
 |_=>t
def zc:SpM:=λa K=>∃(h:Hall) (r:Rule) (t:Nat),a=[.imm h.d,.imm r.d,.imm (.int (t:Int))]/\h.Ok/\K (.imm (.int (Cz h r t:Nat))) []
def GM(h:Hall)(r:Rule)(l:List Nat)(t:Nat):Mv->aD
 | .come o=>.int (sent h r l t o:Nat)
 | .done k=>.int (k:Int)
 | .still=>.none
def vF:SpM:=λa K=>∃(h:Hall) (r:Rule) (l:List Nat) (t:Nat) (mv:Mv),a=[.imm h.d,.imm r.d,.imm (stD l t),.imm mv.d]/\h.Ok/\r.Ok h/\Lines h l/\mv.Ok h/\K (.imm (GM h r l t mv)) []
def kM(h:Hall)(r:Rule)(l:List Nat)(t:Nat):Mv->List Nat×Nat×Wd
 | .come o=>(gA h (c7 h l (sent h r l t o)).1,Cz h r t,(c7 h l (sent h r l t o)).2)
 | .done k=>(gA h (dM l k).1,t,(dM l k).2)
 | .still=>(gA h l,t,.none)
def mvD(p:List Nat×Nat×Wd):aD:=.tuple [stD p.1 p.2.1,.str p.2.2.s]
def yT:SpM:=λa K=>∃(h:Hall) (r:Rule) (l:List Nat) (t:Nat) (mv:Mv),a=[.imm h.d,.imm r.d,.imm (stD l t),.imm mv.d]/\h.Ok/\r.Ok h/\Lines h l/\mv.Ok h/\(r = .turns->t<h.ss.length)/\K (.imm (mvD (kM h r l t mv))) []
theorem vE{o:List Nat}(g:h.Ok)(c:r.Ok h)(f:Lines h l)(a:Ord h.ss.length o)(d:r = .turns->t<h.ss.length):sent h r l t o<h.ss.length:=by
 cases r with
 |random=>let⟨k,k1,rfl,e⟩:=a.cons;exact e
 |turns=>exact d rfl
 |two=>exact mF a 2
 |least=>have:=mF (lt:=cP l) a o.length;rw[aau]at this;exact this
 |quick=>have:=mF (lt:=cK h l) a o.length;rw[aau]at this;exact this
 |told p=>
  have b:placeF 0 h.rs l<p.length:=by rw[c.1,allR_cnt];exact place_lt f.fits
  exact c.2 _ (GT (getN rfl b))
theorem Lines.set{k x:Nat}(a:Lines h l)(f:∀s,h.ss[k]?=some s->x≤s.r):Lines h (l.set k x):=by
 refine⟨by rw[abe];exact a.1,λi s y e c=>?_⟩
 by_cases b:k=i
 .subst b;have d:k<l.length:=by rw[a.1];exact(AD.mp e).1
  simp_all
 .rw[aaP b]at c;exact a.2 i s y e c
def Lines.at{k:Nat}(a:Lines h l)(b:k<h.ss.length):∃s,h.ss[k]?=some s/\l.getD k 0≤s.r/\h.rn k=s.r/\s∈h.ss:=by
 let⟨s,e,d,eb,c⟩:=h.srv b;exact⟨s,e,a.2 k s _ e (getN a.1 b),bu (Hall.rs_get e),c⟩
theorem yq{k:Nat}(a:Lines h l)(c:k<h.ss.length):Lines h (c7 h l k).1:=by
 let⟨s,e,b,g,i⟩:=a.at c;unfold c7;split
 .omega
 .refine a.set λd f=>?_
  grind
theorem yE{k:Nat}(a:Lines h l)(c:k<h.ss.length):Lines h (dM l k).1:=by
 let⟨s,e,b,g,i⟩:=a.at c;unfold dM;split
 .omega
 .refine a.set λd f=>?_
  grind
theorem jr{h:Hall}(c:h.Ok):∀(n:Nat) (l:List Nat),Lines h l->Lines h (dn h n l)
 |0,l,hL=>hL
 | n+1,l,hL=>by
  simp[dn]
  cases e:d3 h l with
  |none=>exact hL
  |some p=>
   let⟨d,j,f,g,b⟩:=jL e;let⟨k,m1,m2,i,m⟩:=ip e;refine jr c n _ ?_;rw[d];refine(hL.set λs a=>?_).set λs a=>(c.ok s (GT a)).r1;have:=hL.2 p.1 s _ a m1;omega
def gH(a:h.Ok)(b:Lines h l):Lines h (gA h l):=jr a _ _ b
structure St(h:Hall)(r:Rule)(l:List Nat)(t:Nat):Prop where
 ln:Lines h l
 tn:r = .turns->t<h.ss.length
 ts:t<4
theorem GN(a:h.Ok)(b:t<4)(c:r = .turns->t<h.ss.length):(r = .turns->Cz h r t<h.ss.length)/\Cz h r t<4:=by
 have n1:=a.n1;have n4:=a.n4
 cases r with
 |turns=>
  have:=ahi (t+1) (show h.ss.length>0 by assumption);exact⟨λ_=>this,by show(t+1)%h.ss.length<4;exact aav ‹_› ‹_›⟩
 |_=>exact⟨(λz=>by cases z),b⟩
theorem jn(a:h.Ok)(c:r.Ok h)(S:St h r l t){mv:Mv}(b:mv.Ok h):St h r (kM h r l t mv).1 (kM h r l t mv).2.1:=by
 cases mv with
 |come o=>
  have:=GN a S.ts S.tn;exact⟨gH a (yq S.ln (vE a c S.ln b S.tn)),this.1,this.2⟩
 |done k=>exact⟨gH a (yE S.ln b),S.tn,S.ts⟩
 |still=>exact⟨gH a S.ln,S.tn,S.ts⟩
def zer(h:Hall):List Nat:=aar h.ss.length 0
def ic(a:h.Ok)(r:Rule):St h r (zer h) 0:=by
 refine⟨⟨by simp[zer],λi s x b e=>?_⟩,λ_=>a.n1,by decide⟩;have:=by
  have:=GT e;exact(List.mem_replicate.mp this).2
 omega
def AK:SpM:=λa K=>∃h:Hall,a=[.imm h.d]/\h.Ok/\K (.imm (stD (zer h) 0)) []
def Ie{k:Nat}{d:aD}(h:Shp k d):aad d d=true:=PySem.SeqAt.eqv_refl d h.cl
end K
namespace L2
open PySem PySem.Spec PyProof.Rows
variable{l:Addr}{vs:List Ad}{Q:Ad->Io->Prop}{ns:List Int}{ds:List aD}
section
variable {prog:aaK}{w:World}{A:abf}{E:Ad->Io->Prop}{s:Io}
abbrev colH(h:aaT)(vs:List Ad):aaT:=(h.push (acS "list" #[] 0)).update h.objs.size (act (·++vs.toArray))
abbrev srtH(h:aaT)(vs:List Ad):aaT:=(colH h vs).push (acS "list" vs.toArray 0)
def s9(h:aaT)(vs:List Ad):(colH h vs).objs.size=h.objs.size+1:=(aeh ..).trans (size_push' ..)
def Nq(h:aaT)(vs:List Ad):(srtH h vs).get? (h.objs.size+1)=some (acS "list" vs.toArray 0):=by
 have e:(srtH h vs).get? (colH h vs).objs.size=some (acS "list" vs.toArray 0):=aap _ rfl;rwa[s9]at e
def KI{d:Addr}{o:Obj}{P:PySem.Fin->Io->Prop}(hd:s.heap.get? d=some (acS "list" #[] 0))(a:s.heap.get? l=some o)(b:o.cls = .type "tuple"){n:Nat}(c:o.data = .seq vs.toArray n)(hsz:vs.length≤aal)
  (h:P (.done (.ret (.ref d))) {s with heap:=s.heap.update d (act (·++vs.toArray))}):wpAny (model prog w) A (aeE (.ref d) (.ref l) (.ref d)) P E s:=by
 have fits:(#[]++vs.toArray:Array Ad).size≤aal+1:=by simp;omega
 refine gT (m:=typeOf (.ref l)) (acV (T:= "tuple") ⟨o,a,b⟩ ?_);rw[if_pos (show(adJ (abg d) (abg l)||_||adf "tuple" == adf "tuple")=true from Bool.or_eq_true_iff.mpr (.inr rfl))];refine gT (agN a c (gT (agN (xs:=#[]) (n:=0) hd rfl ?_)));rw[if_neg (show ¬_ by simp)];exact gT (afg (xs:=#[]) (n:=0) hd rfl (Ld h) (abh _) fits)
def vd{Q:List Ad->Io->Prop}(d:s.heap.IsTuple l vs.toArray)
  (h:Q vs {s with heap:=colH s.heap vs}) (hsz:vs.length≤aal):wpAny (model prog w) A (collect (.ref l)) Q E s:=by
 let⟨o,c,b,nn,hd⟩:=id d;have new:(s.heap.push (acS "list" #[] 0)).get? s.heap.objs.size=some (acS "list" #[] 0):=aap _ rfl;have a:(colH s.heap vs).get? s.heap.objs.size=some _:=get?_update_seq new (·++vs.toArray);have all:((#[]:Array Ad)++vs.toArray).toList=vs:=by simp
 refine gT (m:=runValue _) (wpAny_runValue (ac6 entry_proto_collect' (gT (m:=agI []) (afh (Ld ⟨Code.quiet_builtin _ (by decide +kernel),ac6 entry_list_iadd' ?_⟩)))));refine KI (s:={s with heap:=s.heap.push (acS "list" #[] 0)}) new (LD _ c) b hd hsz (gT (m:=load s.heap.objs.size) (wpAny_load a ?_));exact Ld (all.symm▸h)
def vG{k:List (Str×Ad)}(a:s.heap.IsTuple l vs.toArray\/s.heap.IsList l vs.toArray)(hsz:vs.length≤aal)
  (h:wpAny (model prog w) A (call (.builtin "list.sort") [.ref (s.heap.objs.size+1)] k) (λ_ s'=>Q (.ref (s.heap.objs.size+1)) s') E {s with heap:=srtH s.heap vs}) :
  wpAny (model prog w) A (acB.«sorted» ⟨[.ref l],k⟩) (λf s'=>∃v,f = .done (.ret v)/\Q v s') E s:=by
 have c:∀{P:List Ad->Io->Prop},P vs {s with heap:=colH s.heap vs}->wpAny (model prog w) A (collect (.ref l)) P E s:=λp=>a.elim (λt=>vd t p hsz) λt=>collect_list t p hsz;refine gT (m:=checkCount "sorted" 1 1 _) (Ld (gT (c (gT (m:=agI vs) (afh ?_)))));have e:(Shared.heap {s with heap:=colH s.heap vs}).objs.size=s.heap.objs.size+1:=s9 ..;rw[e];exact gT (m:=adj _ _) (abU (acq h (λ_ s' q=>Ld ⟨_,rfl,q⟩) λ_ _ z=>z))
def o7{b:Bool}(d:s.heap.IsTuple l vs.toArray)(c:aeD vs ns)(a:vs.length<64)
  (h:∀(out:Array Ad) (n:List Int),aeD out.toList n->n.Perm ns->Ordered b n->Q (.ref (s.heap.objs.size+1)) {s with heap:=sortedAll s.heap vs out}):wpAny (model prog w) A (call (.builtin "sorted") [.ref l] [(ab8 "reverse",.bool b)]) Q E s:=by
 have at1:=Nq s.heap vs;refine call_function_entry_kw kind_sorted plain_sorted entry_sorted (args_sorted_rev _ _) (vG (A:=A.in1) (.inl d) (by rw[aak];omega) ?_);exact wpAny_call_entry_kw slot_list_sort ⟨_,at1,rfl⟩ entry_list_sort (list_sort_tree_rev at1 c a λout n p q r=>⟨_,rfl,h out n p q r⟩) (args_list_sort_rev _ _)
end
section
variable {X:Cx}{a:Expr}{es:List Expr}{w:WA}{pos p b c:Pos}
def Vv(K:aag):List V->Hp->VK->Prop:=λx H Q=>∃(t:Bool) (l:Addr) (ns:List Int),x=[.ref l]/\SqB t K H l (ns.map V.int)/\Q (.int ns.sum) H
theorem l6(ns:List Int):∀n,n≤ns.length->preSum (λi=>ns.getD i 0) n=(ns.take n).sum
 |0,_=>by simp[preSum]
 |n+1,h=>by
  show preSum _ n+ns.getD n 0=_;have d:=by omega
  rw[l6 ns n (by exact acz ‹_›),aaJ,lD d,bu (lD d),List.sum_append];simp
theorem tU(C:X.calm=true):dt X (.builtin "sum") (Vv X.K):=by
 intro j s E H J F Q I B ⟨t,l,ns,ex,y,q⟩;subst ex;let⟨u,rfl,o⟩:=B.one;cases o;let⟨d,r,x,_⟩:=I.sqb y;have k:=fY r;have z:d.length=ns.length:=by have:=r.length;grind
 refine call_sum_walkG (xv x λs2 e n f g=>?_);subst e;refine⟨s.heap.objs.size,[s.heap.objs.size,l],[s.heap.objs.size],d.toArray.size,λi v=>d.toArray[i]?=some v,λi h=>SubI t h s.heap.objs.size l i/\SubS t h l d.toArray,λi=>ns.getD i 0,rfl,tw (A:=X.A.in1) t (I.ok.hd C) _ l g d.toArray,n,f,vc k,λG m t' D=>?_⟩;have e:preSum (λi=>ns.getD i 0) d.toArray.size=ns.sum:=by
  rw[aaI,z,l6 ns ns.length (aab _),aau]
 rw[e];exact⟨.int ns.sum,H,I.kept (t':=m) (vV D),⟨_,rfl⟩,q⟩
def QG:WC:=λrs m K=>on1 (λr=>∃ds ns,sqOf m r=some ds/\dm ds=some ns/\K (.imm (.int ns.sum))) rs
theorem iA(n:X.calm=true):dt X (.builtin "sum") (cM X.kx QG):=by
 intro d s e H B u Q I k ⟨z,m,y,C,rs,K,R,h,j,i⟩;let⟨r,v,rfl,rfl,t,ds,ns,q,x,j⟩:=e8 h j;let⟨a,A,rfl,f,g⟩:=t.seq R q;rw[ix x]at g;have o:=dQ g;subst o;have go:=i _ _ H j R (dw _) (Frm.refl _ _);rcases f with f|f
 .exact tU n d s e H _ u Q I k ⟨false,a,ns,rfl,f,go⟩
 .exact tU n d s e H _ u Q I k ⟨true,a,ns,rfl,f,go⟩
def vH{m:MSt}{r:R}{K:R->Prop}(e:sqOf m r=some ds)(d:dm ds=some ns)(h:K (.imm (.int ns.sum))):QG [r] m K:=⟨ds,ns,e,d,h⟩
def BM(X:Cx)(f:Ad)(k:List (Str×Ad))(r:List V->Hp->VK->Prop):Prop:=
 ∀(d:List (Addr×Obj)) (s:Io) (e:St) (H:Hp) (x:List V) (u:List Ad) (Q:VK),Inv X d e H s->Vals x u->r x H Q ->
  wpAny (model X.prog X.w) X.A (call f u k) (EP X d e Q) X.xe s
def IK:WC:=λrs m K=>on1 (λr=>∃ds ns,sqOf m r=some ds/\dm ds=some ns/\ns.length<64/\∀n:List Int,n.Perm ns->n.Pairwise (· ≥ ·)->K (.new (n.map .int))) rs
theorem iK{K:Kd}{H:Hp}:∀ns:List Int,DenAll K H (ns.map .int) (ns.map V.int)
 |[]=>by simp[ DenAll]
 |n::ns=>by
  exact⟨.int n,_,rfl,by simp[Den],iK ns⟩
theorem n6:BM X (.builtin "sorted") [(ab8 "reverse",.bool true)] (cM X.kx IK):=by
 intro o s q H P S Q I J ⟨M,m,L,T,rs,N,R,h,y,x⟩;let⟨r,v,rfl,rfl,F,ds,ns,E,G,D,y⟩:=e8 h y;let⟨l,O,rfl,f,g⟩:=F.seq R E;rw[ix G]at g;have B:=dQ g;subst B;let⟨u,rfl,A⟩:=J.one;cases A;have go:∀(i:List Ad),Vals (ns.map V.int) i->∀(out:Array Ad) (n:List Int),aeD out.toList n->n.Perm ns->Ordered true n->EP X o q Q (.ref (s.heap.objs.size+1)) {s with heap:=sortedAll s.heap i out}:=by
  intro i d out n a1 a2 k;let⟨e,C⟩:=sortedAll_at s.heap i out;have j:H (s.heap.objs.size+1)=none:=I.hok.fresh (ae2 _);have z:Vals (n.map V.int) out.toList:=oj a1;have K:(n.map V.int).length≤aal:=by rw[iO,a2.length_eq,aak];omega
  refine⟨.ref (s.heap.objs.size+1),_,I.laid (t':=s.toks) (λ_ _=>sortedAll_old) (ae2 _) (show ObjOk X.prog X.w _ _ _ (.lst (n.map V.int))from⟨K,out.toList,e,z,by rw[C]⟩),rfl,?_⟩;exact x _ _ _ (y n a2 k) (R.lay j) ⟨_,_,rfl,j,aE,iK n⟩ (cI j)
 rcases f with f|f
 .obtain⟨i,d,pl,_⟩:=I.list f;have t:=d.length;rw[iO]at t;exact sorted_ints_rev pl.isList (fY d) (by omega) λout n a1 a2 k=>go i d out n a1 a2 k
 .obtain⟨i,d,pl,_⟩:=I.tuple f;have t:=d.length;rw[iO]at t;exact o7 pl (fY d) (by omega) λout n a1 a2 k=>go i d out n a1 a2 k
def zj{m:MSt}{r:R}{K:R->Prop}(e:sqOf m r=some ds)(d:dm ds=some ns)(f:ns.length<64)(h:∀n:List Int,n.Perm ns->n.Pairwise (· ≥ ·)->K (.new (n.map .int))):IK [r] m K:=⟨ds,ns,e,d,f,h⟩
theorem CI{id:String}{x k:Str}{j:Nat}{o:WC}(z:BM X (.builtin id) [(k,.bool true)] (cM X.kx o))(i:Gl X x)(v:X.mg x=none)(n:aaU x=some (.builtin id))(q:MA X (a::es) w)(B:x ≠ "__name__":=by decide)(f:(x==("__debug__" : Str))=false:=by decide)
  (r:aac (a::es) X.env=(false,eval a X.env)::aac es X.env:=by first|exact aI rfl|rfl) (e:(abj pos (aac (a::es) X.env)).any (·.1)=false:=by rfl):ME X (.Call (.Name x p) (a::es) [⟨some k,.Constant (.bool true) j b,c⟩] pos) (wCB o w):=by
 intro d s g H Q I h;have A:=J1 h;refine acs (nH I i v n ?_ B f);refine callWith_kw (thn (q pos d s g H _ I A) λy s1 ⟨vs,t,m,r1,u⟩=>?_) (by rw[r];rfl) e rfl rfl;refine kws_cons (Constant_bool (kws_nil ?_));exact z d s1 g t vs y Q m r1 u
end
section
variable {X:Cx}{a:Expr}{es:List Expr}{w:WA}{pos p b c:Pos}
theorem pF{id:String}{x k:Str}{j:Nat}{o:WC}(g:BM X (.builtin id) [(k,.bool true)] (cM X.kx o))(f:Gl X x)(i:X.mg x=none)(m:aaU x=some (.builtin id))(q:EA X (a::es) w)(n:x ≠ "__name__":=by decide)(h:(x==("__debug__" : Str))=false:=by decide)
  (e:aac (a::es) X.env=(false,eval a X.env)::aac es X.env:=by first|exact aI rfl|rfl) (d:(abj pos (aac (a::es) X.env)).any (·.1)=false:=by rfl):EE X (.Call (.Name x p) (a::es) [⟨some k,.Constant (.bool true) j b,c⟩] pos) (wCB o w):=⟨CI g f i m q.h n h e d⟩
def ot:aaU "sorted" = some (.builtin "sorted"):=by rfl
end
end L2
namespace M8
def ins(x:Nat):List Nat->List Nat
 |[]=>[x]
 |y::l=>if y≤x then x::y::l else y::ins x l
def srt:List Nat->List Nat
 |[]=>[]
 |x::l=>ins x (srt l)
def Fall(l:List Nat):Prop:=l.Pairwise (· ≥ ·)
theorem qV(x:Nat):∀l,(ins x l).Perm (x::l)
 |[]=>.refl _
 |y::l=>by
  unfold ins;split
  .exact .refl _
  .exact((qV x l).cons y).trans (.swap x y l)
theorem wF{x:Nat}:∀{l},Fall l->Fall (ins x l)
 |[],_=>ach _ _
 | y::l,h=>by
  unfold ins;rcases acu.mp h with⟨b,c⟩;split
  .rename_i hy;refine acu.mpr ⟨λz a=>?_,h⟩;obtain rfl|a:=aah.mp a
   .exact hy
   .have:=b z a;show z≤x;omega
  .rename_i hy;refine acu.mpr ⟨λz a=>?_,wF c⟩;rcases aah.mp ((qV x l).mem_iff.mp a)with rfl|a
   .show z≤y;omega
   .exact b z a
theorem lh:∀l,(srt l).Perm l
 |[]=>.refl _
 |x::l=>(qV x (srt l)).trans ((lh l).cons x)
theorem qY:∀l,Fall (srt l)
 |[]=>agH
 |_::l=>wF (qY l)
theorem wR:∀{a b:List Nat},Fall a->Fall b->a.Perm b->a=b
 |[],b,_,_,p=>(List.nil_perm.mp p).symm
 |x::a,[],_,_,p=>by simpa using p.length_eq
 | x::a,y::b,ha,hb,p=>by
  let⟨a1,a2⟩:=acu.mp ha;let⟨b1,b2⟩:=acu.mp hb;have h:x=y:=by
   have c:x≤y:=by
    rcases aah.mp (p.mem_iff.mp aae)with e|e
    .omega
    .exact b1 x e
   have d:y≤x:=by
    rcases aah.mp (p.mem_iff.mpr (aae (a:=y)))with e|e
    .omega
    .exact a1 y e
   omega
  subst h;rw[wR a2 b2 (List.Perm.cons_inv p)]
def vG{a l:List Nat}(h:Fall a)(p:a.Perm l):srt l=a:=wR (qY l) h ((lh l).trans p.symm)
def QY{l:List Nat}(h:Fall l):srt l=l:=vG h (.refl _)
end M8
namespace L2
open PySem PySem.Spec PyProof.Rows
variable{v y:V}{u:Ad}{P:aaK}{w:World}{H H':Hp}{kvs:List (aD×aD)}{xs:List (List Key×Addr×Ad)}{a:Addr}{Q:Ad->Io->Prop}{pos:Pos}{X:Cx}{ks:List (Option Expr)}{vs:List (Key×V)}{trs:List (TE×TE)}{values:List Expr}{τ:List (List Nat×Addr)}{p:List Nat}{kk:Key}{t t':aD}{j:Nat}{wv:WE}{ws:List (WE×WE)}{K:List (R×R)->MSt->Prop}
section
variable {a:Type} [DecidableEq a]
def valV(kvs:List (a×V))(k:a):Option V:=(kvs.find? λb=>decide (b.1=k)).map (·.2)
def putK(kvs:List (a×V))(k:a)(v:V):List (a×V):=
 if (kvs.any λb=>decide (b.1=k))=true then kvs.map (λb=>if b.1=k then(b.1,v)else b)else kvs++[(k,v)]
theorem dH{p:a×V}{r:List (a×V)}{k:a}(e:p.1=k):valV (p::r) k=some p.2:=by simp[valV,e]
theorem dF{p:a×V}{r:List (a×V)}{k:a}(e:¬p.1=k):valV (p::r) k=valV r k:=by simp[valV,e]
theorem qB(k:a):∀kvs:List (a×V),(kvs.any λb=>decide (b.1=k))=(valV kvs k).isSome
 |[]=>rfl
 |p::r=>by
  rw[afi]
  by_cases e:p.1=k
  .simp[dH e,decide_eq_true e]
  .rw[dF e,decide_eq_false e];exact qB k r
theorem t8(k j:a)(y:V):∀kvs:List (a×V),valV kvs k=none->valV (kvs++[(k,y)]) j=if j=k then some y else valV kvs j
 |[],_=>by
  by_cases e:k=j
  .rw[if_pos e.symm];exact dH (p:=(k,y)) e
  .rw[if_neg (λz=>e z.symm)];exact dF (p:=(k,y)) e
 |p::r,hn=>by
  rw[ado];have h:¬p.1=k:=λz=>by rw[dH z]at hn;cases hn
  rw[dF h]at hn;have i:=t8 k j y r hn
  by_cases e:p.1=j
  .rw[dH e,dH e,if_neg (λz=>h (e.trans z))]
  .rw[dF e,dF e,i]
theorem jc(kvs:List (a×V))(k:a)(v:V):(putK kvs k v).length≤kvs.length+1:=by
 unfold putK
 grind
theorem FY{kvs:List (a×V)}{k:a}(v:V)(h:valV kvs k=none):putK kvs k v=kvs++[(k,v)]:=by
 unfold putK;rw[qB,h];exact if_neg (by decide)
theorem RelO.isSome_eq{o:Option V}{u:Option Ad}(r:RelO o u):o.isSome=u.isSome:=by
 cases o with
 |none=>cases u with
  |none=>rfl
  |some _=>exact(r).elim
 |some _=>cases u with
  |none=>exact(r).elim
  |some _=>rfl
theorem KV.val{kvs:List (a×V)}{vs:List (a×Ad)}(r:KV kvs vs)(k:a):RelO (valV kvs k) (aeF vs k):=by
 induction r with
 |nil=>exact acr
 | @cons p q ps qs h t ih=>
  let⟨c,d⟩:=h
  by_cases e:p.1=k
  .have e':=c.symm.trans e;have b:aeF (q::qs) k=some q.2:=by simp[aeF,e']
   rw[dH e,b];exact d
  .have e':¬q.1=k:=λz=>e (c.trans z);have b:aeF (q::qs) k=aeF qs k:=by simp[aeF,e']
   rw[dF e,b];exact ih
theorem KV.any{kvs:List (a×V)}{vs:List (a×Ad)}(r:KV kvs vs)(k:a):(kvs.any λb=>decide (b.1=k))=vs.any λb=>decide (b.1=k):=by
 induction r with
 |nil=>rfl
 |cons h t i=>rw[afi,afi,i,h.1]
theorem KV.repl{kvs:List (a×V)}{vs:List (a×Ad)}(r:KV kvs vs)(k:a)(d:RelV y u) :
  KV (kvs.map λb=>if b.1=k then(b.1,y)else b) (vs.map λb=>if b.1=k then(b.1,u)else b):=by
 induction r with
 |nil=>exact .nil
 | @cons p q ps qs h t ih=>
  rw[aao,aao];refine .cons ?_ ih;let⟨c,f⟩:=h
  by_cases e:p.1=k
  .rw[if_pos e,if_pos (c.symm.trans e)];exact⟨c,d⟩
  .rw[if_neg e,if_neg (λz=>e (c.trans z))];exact⟨c,f⟩
theorem KV.put{kvs:List (a×V)}{vs:List (a×Ad)}(r:KV kvs vs)(k:a)(b:RelV y u):KV (putK kvs k y) (stored vs k u):=by
 unfold putK stored;rw[r.any k]
 by_cases e:(vs.any λc=>decide (c.1=k))=true
 .rw[if_pos e,if_pos e];exact r.repl k b
 .rw[if_neg e,if_neg e];exact Paired.snoc r ⟨rfl,b⟩
theorem KV.length{kvs:List (a×V)}{vs:List (a×Ad)}(r:KV kvs vs):kvs.length=vs.length:=agm r
end
theorem uD{k:Key}(r:RelV (kV k) u):(cy P w).is k u=true:=by
 cases k with
 |inl i=>let⟨t,e⟩:=(r);subst e;exact ve P w i t
 |inr x=>let⟨t,e⟩:=(r);subst e;exact vy P w x t
theorem tW{P:aaK}{w:World}:∀{ks:List Key}{us:List Ad},Vals (ks.map kV) us->ItemsAre (cy P w) ks us
 |[],_,r=>by rw[adp]at r;cases r;exact .nil
 |k::ks,_,r=>by
  cases r with
  |cons h t=>exact .cons (uD h) (tW t)
abbrev KT(H:Hp):List (List Key×V)->List (List Key×Addr×Ad)->Prop:=abK λp q=>p.1=q.1/\H q.2.1=some (.tup (p.1.map kV))/\RelV p.2 q.2.2
theorem KT.val{kvs:List (List Key×V)}(r:KT H kvs xs)(k:List Key):RelO (valV kvs k) ((atKey xs k).map (·.2)):=by
 induction r with
 |nil=>exact acr
 | @cons p q ps qs h t ih=>
  let⟨c,_,d⟩:=h
  by_cases e:p.1=k
  .have e':=c.symm.trans e;have b:atKey (q::qs) k=some q.2:=by simp[atKey,e']
   rw[dH e,b];exact d
  .have e':¬q.1=k:=λz=>e (c.trans z);have b:atKey (q::qs) k=atKey qs k:=by simp[atKey,e']
   rw[dF e,b];exact ih
theorem KT.repl{kvs:List (List Key×V)}(r:KT H kvs xs)(k:List Key)(f:RelV y u) :
  KT H (kvs.map λc=>if c.1=k then(c.1,y)else c) (xs.map (putAt k u)):=by
 induction r with
 |nil=>exact .nil
 | @cons p q ps qs h t ih=>
  rw[aao];refine .cons ?_ ih;let⟨b,d,g⟩:=h;unfold putAt
  by_cases e:p.1=k
  .rw[if_pos e,if_pos (b.symm.trans e)];exact⟨b,d,f⟩
  .rw[if_neg e,if_neg (λz=>e (b.trans z))];exact⟨b,d,g⟩
def KT.put{kvs:List (List Key×V)}(r:KT H kvs xs)(k:List Key){b:Addr}(h:H b=some (.tup (k.map kV)))(c:RelV y u) :
  KT H (putK kvs k y) (storedH xs k b u):=by
 have e:(kvs.any λd=>decide (d.1=k))=(atKey xs k).isSome:=by
  rw[qB,(r.val k).isSome_eq,ae7]
 unfold putK storedH;rw[e]
 by_cases q:(atKey xs k).isSome=true
 .rw[if_pos q,if_pos q];exact r.repl k c
 .rw[if_neg q,if_neg q];exact Paired.snoc r ⟨rfl,h,c⟩
def KT.keeps{kvs:List (List Key×V)}(r:KT H kvs xs)(h:∀b ys,H b=some (.tup ys)->H' b=some (.tup ys)):KT H' kvs xs:=
 Paired.mapP r λ_ _ z=>⟨z.1,h _ _ z.2.1,z.2.2⟩
section
variable {P:aaK}{w:World}{H:Hp}{h:aaT}{a:Addr}
def Ul{u:HO}(ok:HOk P w H h)(e:Rd H a u):ObjOk P w H h a u:=e.ok ok
def oJ{kvs:List (Key×V)}(ok:HOk P w H h)(e:Rd H a (.dK kvs)):kvs.length≤aal/\(a==abr)=false/\∃vs,KV kvs vs/\h.DictOf (cy P w) a vs:=
 Ul ok e
def TX{kvs:List (Key×V)}(ok:HOk P w H h)(e:H a=some (.dK kvs)):kvs.length≤aal/\(a==abr)=false/\∃vs,KV kvs vs/\h.DictOf (cy P w) a vs:=oJ ok (.inl e)
def tJ{ks:List Key}(ok:HOk P w H h)(e:H a=some (.tup (ks.map kV))):(agc (cy P w)).is h ks a:=by
 let⟨_,i,r,o,b,d,hd,n,c⟩:=(ok a _ e);exact⟨o,i.toArray,n,b,d,c,by simpa using tW r⟩
theorem Af{kvs:List (List Key×V)}(ok:HOk P w H h)(e:Rd H a (.dT kvs)):kvs.length≤aal/\(a==abr)=false/\
  ∃xs,KT H kvs xs/\h.DictOfH (agc (cy P w)) a xs:=by
 let⟨z,y,xs,r,o,i,f,g,d,c,k,n⟩:=(Ul ok e);refine⟨z,y,xs,r,o,i,f,g,d,c,k,λx b=>?_,n⟩;have all:∀{l:List _}{m:List _},KT H l m->∀x∈m,(agc (cy P w)).is h x.1 x.2.1:=by
  intro l m q
  induction q with
  |nil=>intro x b;exact nomatch b
  | @cons p q ps qs hq t ih=>
   intro x b;rcases aah.mp b with e|b
   .subst e;exact tJ ok (by simp_all)
   .exact ih x b
 exact all r x b
def Vi{kvs:List (List Key×V)}(ok:HOk P w H h)(e:H a=some (.dT kvs)):kvs.length≤aal/\(a==abr)=false/\
  ∃xs,KT H kvs xs/\h.DictOfH (agc (cy P w)) a xs:=Af ok (.inl e)
end
def DGet(H:Hp)(a:Addr)(y:V)(r:Option V):Prop:=
 (∃kvs k,Rd H a (.dK kvs)/\y=kV k/\r=valV kvs k)\/∃kvs k b,Rd H a (.dT kvs)/\y = .ref b/\H b=some (.tup (k.map kV))/\r=valV kvs k
def DPut(H:Hp)(a:Addr)(y v:V)(H':Hp):Prop:=
 (∃kvs k,H a=some (.dK kvs)/\y=kV k/\kvs.length<aal/\H'=upd H a (.dK (putK kvs k v))) \/
 ∃kvs k b,H a=some (.dT kvs)/\y = .ref b/\H b=some (.tup (k.map kV))/\kvs.length<aal/\H'=upd H a (.dT (putK kvs k v))
theorem DGet.k{kvs:List (Key×V)}{k:Key}(e:H a=some (.dK kvs)):DGet H a (kV k) (valV kvs k):=.inl ⟨kvs,k,.inl e,rfl,rfl⟩
theorem DPut.k{kvs:List (Key×V)}{k:Key}(e:H a=some (.dK kvs))(h:kvs.length<aal):DPut H a (kV k) v (upd H a (.dK (putK kvs k v))):=.inl ⟨kvs,k,e,rfl,h,rfl⟩
section
variable {X:Cx}{d:List (Addr×Obj)}{f:St}{H:Hp}{s:Io}{a:Addr}{y v:V}{u r:Ad}{o:Option V}{A:abf}{E:Ad->Io->Prop}
def Inv.big(I:Inv X d f H s):abr<s.heap.objs.size:=by
 have h:=(I.mod.glob.keeps I.bk).lt;exact ad5 (by decide) h
theorem sX(D:A.units+1<cLine)(I:Inv X d f H s)(g:DGet H a y (some v))(C:RelV y u)(h:∀m s',Inv X d f H s'->RelV v m->Q m s') :
  wpAny (model X.prog X.w) A (aei (.ref a) u) Q E s:=by
 rcases g with⟨kvs,k,e,x,l⟩|⟨kvs,k,b,e,x,eb,l⟩
 .subst x;let⟨z,hd,vs,c,B⟩:=oJ I.hok e;let⟨m,q,i⟩:=RelO.some_of (v:=v) (o:=aeF vs k) (by rw[l];exact c.val k);exact wpAny_getItem_of (uD C) B.mapOf q (h m _ (I.tok _) i)
 .subst x
  cases (show u=abg b from C)
  let⟨z,hd,xs,c,B⟩:=Af I.hok e;let⟨m,q,i⟩:=RelO.some_of (v:=v) (o:=(atKey xs k).map (·.2)) (by rw[l];exact c.val k);let⟨p,F,n⟩:=ad6.mp q;refine wpAny_getItem_heap (adT D) (tJ I.hok eb) B F ?_;rw[n];exact h m _ (I.tok _) i
theorem d_in(x:A.units+1<cLine)(I:Inv X d f H s)(g:DGet H a y o)(n:RelV y u)(h:∀s',Inv X d f H s'->Q (.bool o.isSome) s') :
  wpAny (model X.prog X.w) A (aa8 .In u (.ref a)) Q E s:=by
 rcases g with⟨kvs,k,e,i,l⟩|⟨kvs,k,b,e,i,eb,l⟩
 .subst i;let⟨z,hd,vs,c,m⟩:=oJ I.hok e;refine wpAny_in_of (uD n) hd m.mapOf ?_;rw[<-(c.val k).isSome_eq,<-l];exact h _ (I.tok _)
 .subst i;cases (n);let⟨z,hd,xs,c,m⟩:=Af I.hok e;refine wpAny_in_heap (adT x) (tJ I.hok eb) hd m ?_;have q:=(c.val k).isSome_eq;rw[ae7]at q;rw[<-q,<-l];exact h _ (I.tok _)
theorem LG(x:A.units+1<cLine)(I:Inv X d f H s)(g:DGet H a y o)(n:RelV y u)(h:∀s',Inv X d f H s'->Q (.bool (!o.isSome)) s') :
  wpAny (model X.prog X.w) A (aa8 .NotIn u (.ref a)) Q E s:=by
 rcases g with⟨kvs,k,e,i,l⟩|⟨kvs,k,b,e,i,eb,l⟩
 .subst i;let⟨z,hd,vs,c,m⟩:=oJ I.hok e;refine wpAny_notIn_of (uD n) hd m.mapOf ?_;rw[<-(c.val k).isSome_eq,<-l];exact h _ (I.tok _)
 .subst i;cases (n);let⟨z,hd,xs,c,m⟩:=Af I.hok e;refine wpAny_notIn_heap (adT x) (tJ I.hok eb) hd m ?_;have q:=(c.val k).isSome_eq;rw[ae7]at q;rw[<-q,<-l];exact h _ (I.tok _)
def qT{h':aaT}{t':Nat}{c:HO}(I:Inv X d f H s)(mu:Mut (H a))(g:abW a s.heap h')(h:∃q,h'.get? a=some q)(new:ObjOk X.prog X.w (upd H a c) h' a c) :
  Inv X d f (upd H a c) {s with heap:=h',toks:=t' }:=
 I.write mu (.inl rfl) (λb q e z=>(g.2 b e).trans z) h new
def Ip{h':aaT}{kvs:List (Key×V)}{vs:List (Key×Ad)}(z:kvs.length≤aal)(hd:(a==abr)=false)(b:KV kvs vs)(c:h'.DictOf (cy P w) a vs) :
  ObjOk P w H' h' a (.dK kvs):=⟨z,hd,vs,b,c⟩
theorem z6{Q:Unit->Io->Prop}(S:A.units+1<cLine)(I:Inv X d f H s)(g:DPut H a y v H')(N:RelV y u)(J:RelV v r)(h:∀s',Inv X d f H' s'->Q () s') :
  wpAny (model X.prog X.w) A (setItem (.ref a) u r) Q E s:=by
 rcases g with⟨kvs,k,e,x,l,C⟩|⟨kvs,k,b,e,x,eb,l,C⟩
 .subst x C;let⟨z,hd,vs,i,G⟩:=TX I.hok e;have B:vs.length≤aal:=by rw[<-i.length];exact z
  have F:(putK kvs k v).length≤aal:=by have:=jc kvs k v;exact aaw ‹_› ‹_›
  refine wpAny_setItem_pairs (hsz:=B) (uD N) G λM m D=>h _ ?_;have O:∃q,M.get? a=some q:=let ⟨q,_,_,n,_⟩:=m;⟨q,n⟩;exact qT I (by rw[e];exact acr) D O (Ip F hd (i.put k J) m)
 .subst x C;cases (N);let⟨z,hd,xs,i,G⟩:=Vi I.hok e;have B:xs.length≤aal:=by rw[<-agm i];exact z
  have F:(putK kvs k v).length≤aal:=by have:=jc kvs k v;exact aaw ‹_› ‹_›
  refine wpAny_setItem_heap (hsz:=B) (adT S) (tJ I.hok eb) G λM m D=>h _ ?_;let⟨q,W,V,n,R,U,Y,_,T⟩:=m;refine qT I (by rw[e];exact acr) D ⟨q,n⟩ ⟨F,hd,_,(i.put k eb J).keeps λc Z L=>?_,q,W,V,n,R,U,Y,T⟩;rw[aB (vj L e (λz=>nomatch z))];exact L
end
def NoSl(i:Expr):Prop:=∀o b,af4 i false o b=operate [o,b] (aei o b)
theorem Ah{prog:aaK}{A:abf}{E:Ad->Io->Prop}{s:Io}{env:Env}{c b:Expr}{T id:String}
  (z:typeLookup (.type T) "__getitem__" = pure (some (.builtin id))) (q:NoSl b)
  (h:wpAny (model prog w) A (eval c env) (λo g=>wpAny (model prog w) A (eval b env) (λi d=>d.TypeIs o T/\wpAny (model prog w) A (aei o i) Q E d) E g) E s) :
  wpAny (model prog w) A (eval (.Subscript c b pos) env) Q E s:=by
 refine agu (acq h (λo g m=>acq m (λi d e=>?_) λ_ _ x=>x) λ_ _ x=>x);let⟨n,e⟩:=e;unfold agp;refine gT ?_;rw[getitemInPython_of_ne n.not_modules];refine gT (aey n z ?_);have k:wpAny (model prog w) A (af4 b false o i) (λr f=>wpAny (model prog w) A (letTemporaryGo c o r >>= λ_=>pure r) Q E f) E d:=by
  rw[q o i];exact wpAny_operating (acq e (λr f l=>gT (wpAny_letTemporaryGo (Ld l))) λ_ _ x=>x)
 first
  |exact Ld (gT k)
  |exact gT (Ld (gT k))
  |exact gT k
theorem vi{c:List (Addr×Obj)}{d:St}{s:Io}{o:Option V}(I:Inv X c d H s)(g:DGet H a y o):s.TypeIs (.ref a) "dict":=by
 rcases g with⟨kvs,k,e,_,_⟩|⟨kvs,k,b,e,_,_,_⟩
 .obtain⟨_,_,vs,_,dd⟩:=oJ I.hok e;exact dd.typeIs
 .obtain⟨_,_,xs,_,dd⟩:=Af I.hok e;exact dd.typeIs
def VI(d ty:TE):TE:=λb H Q=>d b H λx e=>ty b e λy c=>∃a v,x = .ref a/\DGet c a y (some v)/\Q v c
def V3(e ty d:TE):TS:=λD b H=>d b H λv g=>e b g λx h=>ty b h λy f=>∃a c,x = .ref a/\DPut f a y v c/\D.nx b c
section
variable {X:Cx}{o i e b:Expr}{pos p c:Pos}{t ty d:TE}
theorem JR(D:X.A.units+1<cLine)(F:PE X o t)(m:PE X i ty)(B:NoSl i):PE X (.Subscript o i pos) (VI t ty):=by
 intro f s k H Q I h;refine Ah aeZ.lookup B (thn (F f s k H _ I h) λu s1 ⟨x,z,n,G,A⟩=>thn (m f s1 k z _ n A) λM s2 ⟨y,C,l,J,a,v,ex,g,E⟩=>?_);subst ex;obtain rfl:u=abg a:=G;exact⟨vi l g,sX D l g J λN L q r=>⟨v,C,q,r,E⟩⟩
theorem JE(m:X.A.units+1<cLine)(A:PE X o t)(E:PE X i ty)(G:PE X b d)(N:abx b (some (.Subscript o i p)) pos.line X.env=pure false) :
  PS X (.Assign [.Subscript o i p] b pos) (V3 t ty d):=by
 intro f s k H D I h;refine afJ (thn (G f s k H _ I h) λr s1 ⟨v,L,F,B,q⟩=>thn (A f s1 k L _ F q) λu s2 ⟨x,l,M,C,n⟩=>thn (E f s2 k l _ M n) λV U ⟨y,T,J,S,a,R,ex,g,O⟩=>?_) N;subst ex;obtain rfl:u=abg a:=C;exact z6 m J g S B λW z=>⟨k,R,z,O⟩
end
def qv(h:aaT)(b:abr<h.objs.size):ObjOk P w H (h.push {cls:=.type "dict",data:=.dict #[]}) h.objs.size (.dK []):=
 ⟨abh _,beq_eq_false_iff_ne.mpr (abO (aa0 b)),[],.nil,aaT.DictOf.new h⟩
def TQ:TE:=λ_ H Q=>∀p,H p=none->Q (.ref p) (upd H p (.dK []))
section
variable {X:Cx}{pos:Pos}
theorem pe_dnewK:PE X (.Dict [] [] pos) TQ:=λb s c H Q I h=>
 wpAny_Dict_empty ⟨.ref s.heap.objs.size,_,I.laid (t':=s.toks) (λ_ _ q=>LD _ q) (aab _) (qv s.heap I.big),rfl,h _ (I.hok.fresh (aab _))⟩
end
def xR:List (TE×TE)->St->Hp->(List (V×V)->Hp->Prop)->Prop
 |[],_,H,Q=>Q [] H
 |(tk,tv)::r,σ,H,Q=>tk σ H λx d=>tv σ d λy e=>xR r σ e λc b=>Q ((x,y)::c) b
abbrev VV:List (V×V)->List (Ad×Ad)->Prop:=abK λp q=>RelV p.1 q.1/\RelV p.2 q.2
def PPs(X:Cx)(pos:Pos)(keys:List (Option Expr))(values:List Expr)(trs:List (TE×TE)):Prop:=
 ∀(b:List (Addr×Obj)) (s:Io) (c:St) (H:Hp) (Q:List (V×V)->Hp->Prop),Inv X b c H s->xR trs c H Q ->
  wpAny (model X.prog X.w) X.A (evalPairs (pairTrees keys values X.env pos)) (λvs e=>∃d H',Inv X b c H' e/\VV d vs/\Q d H') X.xe s
theorem Mf:PPs X pos [] [] []:=λb s c H Q I h=>pairTrees_nil_walk ⟨[],H,I,.nil,h⟩
theorem Gu{k v:Expr}{vs:List Expr}{d e:TE}(E:PE X k d)(g:PE X v e)(i:PPs X pos ks vs trs) :
  PPs X pos (some k::ks) (v::vs) ((d,e)::trs):=λb s c H Q I h=>
 pairTrees_cons_walk (thn (E b s c H _ I h) λu s1 ⟨x,n,f,D,q⟩=>thn (g b s1 c n _ f q) λG s2 ⟨y,z,o,F,B⟩=>
  thn (i b s2 c z _ o B)<|by intro ws J ⟨A,m,l,r,C⟩;exact⟨(x,y)::A,m,l,.cons ⟨D,F⟩ r,C⟩)
def km(kvs more:List (Key×V)):List (Key×V):=more.foldl (λb k=>putK b k.1 k.2) kvs
theorem KV.merge:∀{more:List (Key×V)}{rs:List (Key×Ad)}{kvs:List (Key×V)}{vs:List (Key×Ad)},KV more rs->KV kvs vs->KV (km kvs more) (merged vs rs):=by
 intro more rs kvs vs r;unfold KV at r
 induction r generalizing kvs vs with
 |nil=>intro q;exact q
 | @cons p q ps qs h t ih=>
  intro b;have e:KV (putK kvs p.1 p.2) (stored vs q.1 q.2):=by
   have:=b.put p.1 h.2;rw[<-h.1];exact this
  exact ih e
theorem jB:∀(more kvs:List (Key×V)),(km kvs more).length≤kvs.length+more.length
 |[],kvs=>by show kvs.length≤kvs.length+0;omega
 |p::r,kvs=>by
  have h:=jB r (putK kvs p.1 p.2);have b:=jc kvs p.1 p.2;show(km (putK kvs p.1 p.2) r).length≤_;rw[aaB];omega
theorem pj{P:aaK}{w:World}:∀{kvs:List (Key×V)}{ws:List (Ad×Ad)},VV (kvs.map λk=>(kV k.1,k.2)) ws->∃rs,Carries (cy P w) ws rs/\KV kvs rs
 |[],_,r=>by rw[adp]at r;cases r;exact⟨[],acr,.nil⟩
 | p::kvs,_,r=>by
  rw[aao]at r
  cases r with
  | @cons a b as bs h t=>
   let⟨rs,c,q⟩:=pj (P:=P) (w:=w) t;let⟨b1,b2⟩:=b;exact⟨(p.1,b2)::rs,⟨uD h.1,rfl,c⟩,.cons ⟨rfl,h.2⟩ q⟩
def VC(trs:List (TE×TE)):TE:=λc H Q=>∀p,H p=none->xR trs c (upd H p (.dK [])) λd b=>b p=some (.dK [])/\∃kvs:List (Key×V),d=kvs.map (λk=>(kV k.1,k.2))/\kvs.length≤15/\Q (.ref p) (upd b p (.dK (km [] kvs)))
theorem Lj{keys:List (Option Expr)}(h:PPs X pos keys values trs)(d:keys.all (·.isSome)=true)(E:keys.length=values.length)(x:keys≠[])
  (g:keys.length≤15):PE X (.Dict keys values pos) (VC trs):=by
 intro b s B H Q I q;have A:=I.hok.fresh (aab s.heap.objs.size);have C:=I.laid (a:=s.heap.objs.size) (o:=.dK []) (h':=s.heap.push {cls:=.type "dict",data:=.dict #[]}) (t':=s.toks) (λ_ _ q=>LD _ q) (aab _) (qv s.heap I.big);refine wpAny_Dict_walk (knd:=cy X.prog X.w) d E x g (thn (h b _ B _ _ C (q _ A)) λws s2 ⟨O,N,i,r,e,kvs,F,R,m⟩=>?_);subst F;let⟨rs,c,k⟩:=pj (P:=X.prog) (w:=X.w) r;let⟨z,hd,J,L,M⟩:=TX i.hok e;cases L;refine⟨rs,c,M,λh' f D=>⟨.ref s.heap.objs.size,_,?_,rfl,m⟩⟩;have n:(km [] kvs).length≤aal:=by
  have G:=jB kvs [];rw[adN]at G;rw[aak];omega
 have l:∃q,h'.get? s.heap.objs.size=some q:=let ⟨q,_,_,hq,_⟩:=f;⟨q,hq⟩;exact qT i (by rw[e];exact acr) D l (Ip n hd (k.merge .nil) f)
section
variable {K:Kd}{H H':Hp}{τ:List (List Nat×Addr)}
mutual
theorem TAt.monoP(f:Pers H H'):∀{d:aD}{p:List Nat}{v:V},(∀q a,τ.lookup (p++q)=some a->H' a=H a)->TAt K H τ p d v->TAt K H' τ p d v
 | .none,_,_,_,h=>by simp only[TAt]at h⊢;exact h.mono f
 | .bool _,_,_,_,h=>by simp only[TAt]at h⊢;exact h.mono f
 | .int _,_,_,_,h=>by simp only[TAt]at h⊢;exact h.mono f
 | .str _,_,_,_,h=>by simp only[TAt]at h⊢;exact h.mono f
 | .tuple _,_,_,_,h=>by simp only[TAt]at h⊢;exact h.mono f
 | .list ts,p,_,e,h=>by
  simp only[TAt]at h⊢;let⟨a,xs,b,m,l,g⟩:=h;exact⟨a,xs,b,m,(e [] a (by rw[aaY];exact b)).trans l,TAtL.monoP f (λi q a z=>e (i::q) a z) g⟩
 | .dict kvs,p,_,e,h=>by
  simp only[TAt]at h⊢;rcases h with⟨d,b,h⟩|⟨n,r,a,o,b,m,l,k,g⟩|⟨n,r,a,o,b,m,l,g⟩|⟨c,a,dx,C,xs,s,b,m,l,k,g⟩
  .exact .inl ⟨d,b,h.mono f⟩
  .exact .inr (.inl ⟨n,r,a,o,b,m,(e [] a (by rw[aaY];exact b)).trans l,k,TAtD.monoP f (λi q a z=>e (i::q) a z) g⟩)
  .exact .inr (.inr (.inl ⟨n,r,a,o,b,m,(e [] a (by rw[aaY];exact b)).trans l,TAtK.monoP f (λi q a z=>e (i::q) a z) g⟩))
  .exact .inr (.inr (.inr ⟨c,a,dx,C,xs,s,b,m,(e [] a (by rw[aaY];exact b)).trans l,k,TAtF.monoP f (λi q a z=>e (i::q) a z) g⟩))
theorem TAtL.monoP(b:Pers H H'):∀{ds:List aD}{p:List Nat}{i:Nat}{xs:List V},(∀i q a,τ.lookup (p++i::q)=some a->H' a=H a)->TAtL K H τ p i ds xs->TAtL K H' τ p i ds xs
 |[],_,_,_,_,h=>by simpa only[TAtL]using h
 |t::ts,p,i,_,e,h=>by
  simp only[TAtL]at h⊢;let⟨v,vs,c,d,g⟩:=h;exact⟨v,vs,c,TAt.monoP b (λq a z=>e i q a (by simpa using z)) d,TAtL.monoP b e g⟩
theorem TAtD.monoP(b:Pers H H'):∀{ds:List (aD×aD)}{p:List Nat}{i:Nat}{xs:List (Int×V×V)},(∀i q a,τ.lookup (p++i::q)=some a->H' a=H a)->TAtD K H τ p i ds xs->TAtD K H' τ p i ds xs
 |[],_,_,_,_,h=>by simpa only[TAtD]using h
 |(k,t)::r,p,i,_,e,h=>by
  simp only[TAtD]at h⊢;let⟨u,v,vs,c,g,f,d⟩:=h;exact⟨u,v,vs,c,g.mono b,TAt.monoP b (λq a z=>e i q a (by simpa using z)) f,TAtD.monoP b e d⟩
theorem TAtK.monoP(b:Pers H H'):∀{ds:List (aD×aD)}{p:List Nat}{i:Nat}{xs:List (Key×V)},(∀i q a,τ.lookup (p++i::q)=some a->H' a=H a)->TAtK K H τ p i ds xs->TAtK K H' τ p i ds xs
 |[],_,_,_,_,h=>by simpa only[TAtK]using h
 |(k,t)::r,p,i,_,e,h=>by
  simp only[TAtK]at h⊢;let⟨u,v,vs,c,g,f,d⟩:=h;exact⟨u,v,vs,c,g,TAt.monoP b (λq a z=>e i q a (by simpa using z)) f,TAtK.monoP b e d⟩
theorem TAtF.monoP(b:Pers H H'):∀{ds:List (aD×aD)}{p:List Nat}{i:Nat}{xs:List (Str×V)},(∀i q a,τ.lookup (p++i::q)=some a->H' a=H a)->TAtF K H τ p i ds xs->TAtF K H' τ p i ds xs
 |[],_,_,_,_,h=>by simpa only[TAtF]using h
 |(.str f,t)::r,p,i,_,e,h=>by
  simp only[TAtF]at h⊢;let⟨v,vs,c,k,g⟩:=h;exact⟨v,vs,c,TAt.monoP b (λq a z=>e i q a (by simpa using z)) k,TAtF.monoP b e g⟩
 |(.none,d)::r,_,_,_,e,h=>by simp only[TAtF]at h⊢;exact TAtF.monoP b e h
 |(.bool _,d)::r,_,_,_,_,h=>by simp only[TAtF]at h
 |(.int _,d)::r,_,_,_,_,h=>by simp only[TAtF]at h
 |(.list _,d)::r,_,_,_,_,h=>by simp only[TAtF]at h
 |(.tuple _,d)::r,_,_,_,_,h=>by simp only[TAtF]at h
 |(.dict _,d)::r,_,_,_,_,h=>by simp only[TAtF]at h
end
end
def setT:aD->List Nat->aD->aD
 |_,[],n=>n
 | .list ts,i::p,n=>.list (ts.set i (setT (ts.getD i .none) p n))
 | .dict kvs,i::p,n=>.dict (kvs.set i ((kvs.getD i (.none,.none)).1,setT (kvs.getD i (.none,.none)).2 p n))
 |t,_::_,_=>t
section
variable {K:Kd}{H b:Hp}{τ:List (List Nat×Addr)}{p q:List Nat}{P:List Nat}
theorem TAtL.setL(f:Pers H b){t':aD}:∀{ts:List aD}{i j:Nat}{xs:List V},TAtL K H τ p i ts xs->(∀v,xs[j]?=some v->TAt K b τ (p++[i+j]) t' v)->(∀l,l≠i+j->∀q a,τ.lookup (p++l::q)=some a->b a=H a)->TAtL K b τ p i (ts.set j t') xs
 |[],_,_,_,h,_,_=>by simpa only[List.set_nil,TAtL]using h
 | t::ts,i,0,xs,h,c,e=>by
  simp only[TAtL]at h;let⟨v,vs,rfl,_,g⟩:=h;refine⟨v,vs,rfl,c v rfl,?_⟩;clear c;have:∀{ts:List aD}{d:Nat}{vs:List V},i<d->TAtL K H τ p d ts vs->TAtL K b τ p d ts vs:=by
   intro ts
   induction ts with
   |nil=>intro d vs _ h;simpa only[TAtL]using h
   |cons t ts o=>
    intro d vs n h;simp only[TAtL]at h⊢;let⟨v,vs,rfl,k,g⟩:=h;exact⟨v,vs,rfl,TAt.monoP f (λq a z=>e d (by exact abt ‹_›) q a (by simpa using z)) k,o (by omega) g⟩
  exact this (abv i) g
 |t::ts,i,j+1,xs,h,c,e=>by
  simp only[TAtL]at h;let⟨v,vs,rfl,k,g⟩:=h;exact⟨v,vs,rfl,TAt.monoP f (λq a z=>e i (by simp) q a (by simpa using z)) k,TAtL.setL f g (λm z=>by rw[show i+1+j=i+(j+1) by omega];exact c m (by simpa using z)) λl n=>e l (by omega)⟩
theorem TAtK.rest(d:Pers H b){i:Nat}(e:∀l,l≠i->∀q a,τ.lookup (p++l::q)=some a->b a=H a):∀{ts:List (aD×aD)}{c:Nat}{vs:List (Key×V)},i<c->TAtK K H τ p c ts vs->TAtK K b τ p c ts vs
 |[],_,_,_,h=>by simpa[TAtK]
 |_::ts,c,vs,hl,h=>by
  let⟨k,v,vs,rfl,g,j,f⟩:=h;exact⟨k,v,vs,rfl,g,TAt.monoP d (λq a z=>e c (by exact abt ‹_›) q a (by simpa using z)) j,TAtK.rest d e (by omega) f⟩
theorem TAtK.setK(f:Pers H b){t':aD}:∀{ts:List (aD×aD)}{i j:Nat}{xs:List (Key×V)}{d o:aD},TAtK K H τ p i ts xs->ts[j]?=some (d,o)->(∀v,(∃kk,xs[j]?=some (kk,v))->TAt K b τ (p++[i+j]) t' v)->(∀l,l≠i+j->∀q a,τ.lookup (p++l::q)=some a->b a=H a)->TAtK K b τ p i (ts.set j (d,t')) xs
 |[],_,_,_,_,_,_,z,_,_=>by simp at z
 |(k,t)::ts,i,0,xs,d,o,h,z,c,e=>by
  simp at z;let⟨rfl,rfl⟩:=z;simp only[TAtK]at h;let⟨kk,v,vs,rfl,g,_,m⟩:=h;exact⟨kk,v,vs,rfl,g,c v ⟨kk,rfl⟩,TAtK.rest f e (abv i) m⟩
 |(k,t)::ts,i,j+1,xs,d,o,h,z,c,e=>by
  let⟨kk,v,vs,rfl,g,s,m⟩:=h;exact⟨kk,v,vs,rfl,g,TAt.monoP f (λq a z=>e i (by omega) q a (by simpa using z)) s,TAtK.setK f m (by simpa using z) (by intro r ⟨n,z⟩;rw[show i+1+j=i+(j+1) by omega];exact c r ⟨n,by simpa using z⟩) λl u=>e l (by omega)⟩
end
theorem xu(nd:(τ.map (·.2)).Nodup){q:List Nat}(h:τ.lookup p=some a)(c:τ.lookup q=some a):p=q:=by
 induction τ with
 |nil=>cases h
 | cons x τ i=>
  let⟨r,b⟩:=x;rw[aao,aa7]at nd;rw[aa1]at h c
  by_cases d:p==r
  .rw[d]at h;cases h
   by_cases e:q==r
   .simp_all
   .simp only[afs]at e;rw[e]at c;exact(nd.1 (bO c)).elim
  .simp only[afs]at d;rw[d]at h
   by_cases e:q==r
   .rw[e]at c;cases c;exact(nd.1 (bO h)).elim
   .simp only[afs]at e;rw[e]at c;exact i nd.2 h c
def m9:aD->aD->Bool
 | .int a,.int b=>decide (a=b)
 | .str a,.str b=>decide (a=b)
 |_,_=>false
def m7(a b:Key):m9 (keyD a) (keyD b)=decide (a=b):=by
 cases a<;>cases b<;>simp[keyD,m9]
def oZ(k:aD):Nat->List (aD×aD)->Option (Nat×aD)
 |_,[]=>none
 |i,(k',t)::r=>if m9 k' k=true then some (i,t)else oZ k (i+1) r
def putD(k t:aD):List (aD×aD)->List (aD×aD)
 |[]=>[(k,t)]
 |(k',t')::r=>if m9 k' k=true then(k',t)::r else(k',t')::putD k t r
def lfD:aD->aD
 | .list ds=>.dict [(.none,.list ds)]
 | .dict ds=>.dict [(.none,.dict ds)]
 |d=>d
theorem qG(h:isKd kvs=true):fzOf kvs=none/\excC kvs=none:=by
 cases kvs with
 |nil=>exact⟨rfl,rfl⟩
 |cons x r=>
  let⟨k,d⟩:=x
  cases k with
  |int _=>exact⟨rfl,rfl⟩
  |str _=>exact⟨rfl,rfl⟩
  |none=>simp[isKd]at h
  |bool _=>simp[isKd]at h
  |list _=>simp[isKd]at h
  |tuple _=>simp[isKd]at h
  |dict _=>simp[isKd]at h
section
variable {K:Kd}{H:Hp}{τ:List (List Nat×Addr)}{p:List Nat}
theorem TAtK.get':∀{ts:List (aD×aD)}{i j:Nat}{xs:List (Key×V)}{k t:aD},TAtK K H τ p i ts xs->ts[j]?=some (k,t)->∃kk v,xs[j]?=some (kk,v)/\k=keyD kk/\TAt K H τ (p++[i+j]) t v
 |[],_,_,_,_,_,_,e=>by simp at e
 |(k,t)::ts,i,0,xs,k',t',h,e=>by
  let⟨u,v,vs,rfl,g,l,_⟩:=h;simp at e;let⟨rfl,rfl⟩:=e;exact⟨u,v,rfl,g.1,l⟩
 |(k,t)::ts,i,j+1,xs,k',t',h,e=>by
  let⟨u,v,vs,rfl,_,_,f⟩:=h;let⟨kk,b,a,d,c⟩:=TAtK.get' (j:=j) f ‹_›;exact⟨kk,b,by simpa using a,d,by rw[show i+(j+1)=i+1+j by omega];exact c⟩
theorem TAtK.kd:∀{ts:List (aD×aD)}{i:Nat}{xs:List (Key×V)},TAtK K H τ p i ts xs->isKd ts=true
 |[],_,_,_=>rfl
 |_::ts,i,xs,h=>by
  let⟨u,v,vs,rfl,g,_,a⟩:=h;have:=a.kd;unfold isKd at this⊢;rw[abV,this,g.1]
  cases u<;>rfl
theorem TAtK.len:∀{ts:List (aD×aD)}{i:Nat}{xs:List (Key×V)},TAtK K H τ p i ts xs->ts.length=xs.length
 |[],_,_,h=>by simp[TAtK]at h;subst h;rfl
 |(k,t)::ts,i,xs,h=>by
  let⟨u,v,vs,rfl,a,_,g⟩:=h;simp[g.len]
theorem TAtK.look{kk:Key}:∀{ts:List (aD×aD)}{i j:Nat}{xs:List (Key×V)}{t:aD},TAtK K H τ p i ts xs->oZ (keyD kk) i ts=some (j,t)->∃v,valV xs kk=some v/\TAt K H τ (p++[j]) t v
 |[],_,_,_,_,_,e=>by cases e
 |(k,t)::ts,i,j,xs,t',h,e=>by
  simp only[TAtK]at h;let⟨u,v,vs,rfl,g,l,f⟩:=h;let⟨rfl,_⟩:=g;simp only[oZ,m7]at e
  by_cases c:u=kk
  .rw[if_pos (decide_eq_true c)]at e;cases e;exact⟨v,dH (p:=(u,v)) c,l⟩
  .rw[if_neg (by simpa using c)]at e;let⟨b,a,d⟩:=TAtK.look f e;exact⟨b,by rw[dF (p:=(u,v)) c];exact a,d⟩
theorem sn{u:Key}{w:V}(c:u≠kk):putK ((u,w)::vs) kk v=(u,w)::putK vs kk v:=by
 unfold putK
 grind
theorem um{w:V}(h:∀x∈vs,x.1≠kk):putK ((kk,w)::vs) kk v=(kk,v)::vs:=by
 unfold putK;rw[afi,decide_eq_true (rfl),Bool.true_or,if_pos rfl,aao,if_pos rfl]
 congr 1
 exact(acO λx a=>if_neg (h x a)).trans (ag6 _)
def Gg{x:Key×V}(h:x∈putK vs kk v):x.1=kk\/∃y∈vs,y.1=x.1:=by
 unfold putK at h
 split at h
 .obtain⟨y,h1,h2⟩:=aam.mp h;subst h2;refine .inr ⟨y,h1,?_⟩
  split<;>rfl
 .obtain h|h:=aaG.mp h
  .exact .inr ⟨x,h,rfl⟩
  .cases aaa.mp h
   exact .inl rfl
theorem TAtK.put{v':V}(c:∀j,TAt K H τ (p++[j]) t' v'):∀{ts:List (aD×aD)}{i:Nat}{xs:List (Key×V)},TAtK K H τ p i ts xs->TAtK K H τ p i (putD (keyD kk) t' ts) (putK xs kk v')
 |[],i,xs,h=>by
  simp only[TAtK]at h;subst h;exact⟨kk,v',[],rfl,⟨rfl,λx a=>by cases a⟩,c i,rfl⟩
 | (k,t)::ts,i,xs,h=>by
  let⟨u,v,vs,rfl,g,f,b⟩:=h;let⟨rfl,g⟩:=g;simp only[putD,m7]
  by_cases e:u=kk
  .subst e;rw[if_pos (decide_eq_true rfl),um g];simp only[TAtK];exact⟨u,v',vs,rfl,⟨rfl,g⟩,c i,b⟩
  .rw[if_neg (by simpa using e),sn e];simp only[TAtK];refine⟨u,v,_,rfl,⟨rfl,λx a=>?_⟩,f,b.put c⟩;rcases Gg a with z|⟨y,d,z⟩
   .rw[z];exact λw=>e w.symm
   .rw[<-z];exact g y d
theorem nR{d:aD}(h:Den K H d v):TAt K H τ p (lfD d) v:=by
 cases d with
 |list ds=>simp[lfD];exact .inl ⟨_,rfl,h⟩
 |dict ds=>simp[lfD];exact .inl ⟨_,rfl,h⟩
 |none=>simpa[ TAt]
 |bool _=>simpa[lfD]
 |int _=>simpa[ TAt]
 |str _=>simpa[lfD]
 |tuple _=>simpa[ TAt]
theorem TAt.kd(h:TAt K H τ p (.dict kvs) v)(e:isKd kvs=true):∃a es,τ.lookup p=some a/\v = .ref a/\H a=some (.dK es)/\TAtK K H τ p 0 kvs es:=by
 obtain _:=qG e;rcases h with _|⟨_,_,b,es,c,d,f,k,g⟩|⟨_,_,b,es,c,d,f,g⟩|_
 .simp_all
 .rw[k.1]at e;cases e
 .exact⟨b,es,c,d,f,g⟩
 .simp_all
theorem TAt.node(h:TAt K H τ p t v)(e:iY t=none):∃a,τ.lookup p=some a/\v = .ref a:=by
 cases t with
 |list ts=>
  simp only[TAt]at h;let⟨a,x,f,i,_⟩:=h;exact⟨a,f,i⟩
 |dict k=>
  have n:fzOf k=none:=e;simp only[TAt]at h;rcases h with⟨d,f,_⟩|⟨_,_,b,m,f,i,j,l,g⟩|⟨_,_,b,m,f,i,j,g⟩|⟨c,b,dx,C,x,o,f,i,j,l,g⟩
  .rw[n]at f;cases f
  .exact⟨b,f,i⟩
  .exact⟨b,f,i⟩
  .exact⟨b,f,i⟩
 |none=>cases e
 |bool _=>cases e
 |int _=>cases e
 |str _=>cases e
 |tuple _=>cases e
end
def okW:aD->List Nat->Bool
 |_,[]=>true
 | .list ts,i::q=>okW (ts.getD i .none) q
 | .dict kvs,i::q=>(isKd kvs||(excC kvs).isSome)&&okW (kvs.getD i (.none,.none)).2 q
 |_,_::_=>false
theorem Gj{i:Nat}{k:aD}(h:isKd kvs=true)(e:kvs[i]?=some (k,t)):isKd (kvs.set i (k,t'))=true:=by
 unfold isKd at h⊢;rw[abD]at h⊢;intro x a;rcases aeY a with z|z
 .exact h x z
 .subst z;exact h (k,t) (GT e)
theorem TAtF.restF{K:Kd}{H g:Hp}{τ:List (List Nat×Addr)}{p:List Nat}(c:Pers H g){i:Nat}(e:∀l,l≠i->∀q a,τ.lookup (p++l::q)=some a->g a=H a):∀{ts:List (aD×aD)}{b:Nat}{vs:List (Str×V)},i<b->TAtF K H τ p b ts vs->TAtF K g τ p b ts vs
 |[],_,_,_,h=>by simpa only[TAtF]
 |(.str f,t)::ts,b,vs,hl,h=>by
  let⟨v,vs,rfl,k,j⟩:=h;exact⟨v,vs,rfl,TAt.monoP c (λq a z=>e b (by omega) q a (by simpa using z)) k,TAtF.restF c e (by omega) j⟩
 |(.none,d)::r,_,_,hl,h=>by simp only[TAtF];exact TAtF.restF c e (by omega) h
 |(.bool _,d)::r,_,_,_,h=>by simp[TAtF]at h
 |(.int _,d)::r,_,_,_,h=>by simp only[TAtF]at h
 |(.list _,d)::r,_,_,_,h=>by simp only[TAtF]at h
 |(.tuple _,d)::r,_,_,_,h=>by simp[TAtF]at h
 |(.dict _,d)::r,_,_,_,h=>by simp[TAtF]at h
theorem TAtF.setF{K:Kd}{H m:Hp}{τ:List (List Nat×Addr)}{p:List Nat}(g:Pers H m){t' w:aD}{u:Str}:∀{ts:List (aD×aD)}{i j:Nat}{xs:List (Str×V)},TAtF K H τ p i ts xs->ts[j]?=some (.str u,w)->(∀v,TAt K H τ (p++[i+j]) w v->TAt K m τ (p++[i+j]) t' v)->(∀l,l≠i+j->∀q a,τ.lookup (p++l::q)=some a->m a=H a)->TAtF K m τ p i (ts.set j (.str u,t')) xs
 |[],_,_,_,_,z,_,_=>by simp at z
 |(k,t)::ts,i,0,xs,h,z,c,e=>by
  simp at z;let⟨rfl,rfl⟩:=z;simp only[TAtF]at h;let⟨v,vs,rfl,s,o⟩:=h;simp only[agy,TAtF];exact⟨v,vs,rfl,c v s,TAtF.restF g e (abv i) o⟩
 |(.str f,t)::ts,i,j+1,xs,h,z,c,e=>by
  simp only[TAtF]at h;let⟨v,vs,rfl,s,o⟩:=h;exact⟨v,vs,rfl,TAt.monoP g (λq a z=>e i (by omega) q a (by simpa using z)) s,TAtF.setF g o (by simpa using z) (λn b=>by rw[show i+1+j=i+(j+1) by omega]at b⊢;exact c n b) λl x=>e l (by omega)⟩
 |(.none,d)::ts,i,j+1,xs,h,z,c,e=>by
  simp only[TAtF]at h;simp only[agz,TAtF];exact TAtF.setF g h (by simpa using z) (λn b=>by rw[show i+1+j=i+(j+1) by omega]at b⊢;exact c n b) λl x=>e l (by omega)
 |(.bool _,d)::r,_,_+1,_,h,_,_,_=>by simp only[TAtF]at h
 |(.int _,d)::r,_,_+1,_,h,_,_,_=>by simp only[TAtF]at h
 |(.list _,d)::r,_,_+1,_,h,_,_,_=>by simp only[TAtF]at h
 |(.tuple _,d)::r,_,_+1,_,h,_,_,_=>by simp only[TAtF]at h
 |(.dict _,d)::r,_,_+1,_,h,_,_,_=>by simp only[TAtF]at h
theorem TAt.ins{K:Kd}{c:Str}(h:TAt K H τ p (.dict kvs) v)(e:excC kvs=some c):∃a dx C xs,τ.lookup p=some a/\v = .ref a/\H a=some (.ins C dx xs)/\ClsN K c C/\TAtF K H τ p 0 kvs xs:=by
 have b:fzOf kvs=none:=by
  unfold excC at e
  split at e
  .rfl
  .cases e
 simp only[TAt]at h
 grind
theorem DT{i:Nat}{x:aD×aD}{c:Str}{k:aD}(h:excC kvs=some c)(e:kvs[i]?=some (k,t))(a:k≠.none):excC (kvs.set i x)=some c:=by
 cases kvs with
 |nil=>cases h
 | cons y r=>
  cases i with
  |zero=>
   simp;unfold excC at h
   simp_all
  |succ i=>
   unfold excC at h⊢
   split at h
   .rename_i z;simp at z;let⟨rfl,rfl⟩:=z;exact h
   .cases h
theorem TAt.set{K:Kd}{H:Hp}{τ:List (List Nat×Addr)}(nd:(τ.map (·.2)).Nodup){a:Addr}{o:HO}{n:aD}(M:Pers H (upd H a o)):∀{q p:List Nat}{t L:aD}{v:V},TAt K H τ p t v->getT t q=some L->okW t q=true->τ.lookup (p++q)=some a->TAt K (upd H a o) τ (p++q) n (.ref a)->(∀u,TAt K H τ (p++q) L u->u = .ref a)->TAt K (upd H a o) τ p (setT t q n) v
 |[],p,t,L,v,h,e,_,_,hn,hu=>by
  cases e;rw[aaY]at hn hu;rw[hu v h];unfold setT;exact hn
 | i::q,p,t,L,v,h,e,ok,ea,hn,hu=>by
  have f:∀(r:List Nat) (b:Addr),τ.lookup r=some b->r≠p++i::q->(upd H a o) b=H b:=λr b z ne=>aB λeb=>by
   subst eb;exact ne (xu nd z ea)
  have F:τ.lookup ((p++[i])++q)=some a:=by simpa using ea
  have E:TAt K (upd H a o) τ ((p++[i])++q) n (.ref a):=by simpa using hn
  have D:∀u,TAt K H τ ((p++[i])++q) L u->u = .ref a:=λu z=>hu u (by simpa using z);simp only[getT]at e
  cases z:chD t i with
  |none=>rw[z]at e;cases e
  | some P=>
   rw[z]at e;have U:getT P q=some L:=e;have G:∀l,l≠0+i->∀r b,τ.lookup (p++l::r)=some b->(upd H a o) b=H b:=λl hl r b T=>f _ _ T λy=>by
    have:=List.append_cancel_left y;injection this with h1 _
    omega
   have self:∀b,τ.lookup p=some b->(upd H a o) b=H b:=λb T=>f _ _ T λy=>by
    have:=congrArg adg y;simp at this
   cases t with
   |list ts=>
    have d:ts[i]?=some P:=z;have J:ts.getD i .none=P:=by rw[aat,d];rfl
    simp only[TAt]at h;let⟨b,W,A,I,N,g⟩:=h;simp only[setT,J,TAt];refine⟨b,W,A,I,(self b A).trans N,TAtL.setL M g (λX R=>?_) G⟩;let⟨v2,m,B⟩:=g.get (j:=i) d;rw[R]at m;cases m;rw[acm]at B⊢;exact TAt.set nd M B U (by simp only[okW,J]at ok;exact ok) F E D
   | dict x=>
    simp only[chD]at z
    cases d:x[i]? with
    |none=>rw[d]at z;cases z
    |some Z=>
     let⟨k,O⟩:=Z;rw[d]at z;have Y:k≠.none:=λw=>by subst w;cases z
     have I:O=P:=by split at z<;>simp_all
     subst I;have J:x.getD i (.none,.none)=(k,O):=by rw[aat,d];rfl
     simp only[okW,J,aaR,afS]at ok;rcases ok.1 with s|s
     .obtain⟨b,es,A,I,N,g⟩:=h.kd s;have Q:isKd (x.set i (k,setT O q n))=true:=Gj s d;let⟨n1,n2⟩:=qG Q;simp only[setT,J,TAt];refine .inr (.inr (.inl ⟨n1,n2,b,es,A,I,(self b A).trans N,TAtK.setK M g d (λX ⟨kk,R⟩=>?_) G⟩));let⟨kk2,v2,m,_,B⟩:=g.get' (j:=i) d;rw[R]at m;cases m;rw[acm]at B⊢;exact TAt.set nd M B U ok.2 F E D
     .obtain⟨c,ec⟩:=afa.mp s;let⟨b,dx,C,W,A,I,N,kc,g⟩:=h.ins ec;let⟨f0,rfl⟩:=g.key (GT d) Y;have S:excC (x.set i (.str f0,setT O q n))=some c:=DT ec d Y;simp only[setT,J,TAt];refine .inr (.inr (.inr ⟨c,b,dx,C,W,S,A,I,(self b A).trans N,kc,TAtF.setF M g d (λX B=>?_) G⟩));rw[acm]at B⊢;exact TAt.set nd M B U ok.2 F E D
   |none=>cases z
   |bool _=>cases z
   |int _=>cases z
   |str _=>cases z
   |tuple _=>cases z
abbrev onAt(P:Nat->List Nat->Prop):R->Prop
 | .at k p=>P k p
 |_=>False
abbrev G6(P:aD->Prop):R->Prop
 | .imm (.int i)=>P (.int i)
 | .imm (.str x)=>P (.str x)
 |_=>False
def gm(k:Nat)(p:List Nat)(j:Nat)(t:aD):R:=match iY t with
 |some d=>.imm d
 |none=>.at k (p++[j])
section
variable {K:Kx}{b:Al}{c H:Hp}{r:R}{v:V}{m:MSt}{f:St}
theorem yC{P:Nat->List Nat->Prop}(rr:RelR K b c H r v)(h:onAt P r):∃k p τ a,r = .at k p/\b[k]?=some (.T τ)/\τ.lookup p=some a/\v = .ref a/\P k p:=by
 unfold onAt at h
 split at h
 .obtain⟨τ,a,e1,e2,e3⟩:=rr;exact⟨_,_,τ,a,rfl,e1,e2,e3,h⟩
 .simp_all
theorem IQ{P:aD->Prop}(rr:RelR K b c H r v)(h:G6 P r):∃kk:Key,r = .imm (keyD kk)/\v=kV kk/\P (keyD kk):=by
 unfold G6 at h
 split at h
 .rename_i i;exact⟨.inl i,rfl,aF (show Den K H _ v from rr),h⟩
 .rename_i x;exact⟨.inr x,rfl,bz (show Den K H _ v from rr),h⟩
 .simp_all
theorem Rel.dict(R:Rel K b m f H){k:Nat}(e:b[k]?=some (.T τ))(q:τ.lookup p=some a)(h:m.os[k]?=some [t])(d:getT t p=some (.dict kvs))(i:isKd kvs=true) :
  ∃es,H a=some (.dK es)/\TAtK K H τ p 0 kvs es:=by
 let⟨⟨n,o,z,g,_⟩,_⟩:=R.own k _ _ e h;cases z;let⟨l,j⟩:=g.get d;obtain _:=j.kd i
 simp_all
theorem j9(R:Rel K b m f H){k:Nat}(g:b[k]?=some (.T τ))(h:TAt K H τ (p++[j]) t v):RelR K b c H (gm k p j t) v:=by
 unfold gm
 cases e:iY t with
 |some d=>exact jp h e
 |none=>
  let⟨a,i,l⟩:=h.node e;exact⟨τ,a,g,i,l⟩
end
section
variable {X:Cx}{o i e:Expr}{wo wi we:WE}{pos pos':Pos}
def dGot(m:MSt)(k:Nat)(p:List Nat)(y:aD)(K:R->Prop):Prop:=∃t a j b,m.os[k]?=some [t]/\getT t p=some (.dict a)/\isKd a=true/\oZ y 0 a=some (j,b)/\K (gm k p j b)
def SD(m:MSt)(k:Nat)(p:List Nat)(y d:aD)(P:aD->Prop):Prop:=∃t a,m.os[k]?=some [t]/\getT t p=some (.dict a)/\isKd a=true/\okW t p=true/\a.length<aal/\P (setT t p (.dict (putD y (lfD d) a)))
abbrev wDIx(wo wi:WE):WE:=λm K=>wo m λb m1=>wi m1 λa m2=>onAt (λk p=>G6 (λy=>dGot m2 k p y λr=>K r m2) a) b
theorem Sf(U:X.A.units+64<cLine)(C:ME X o wo)(h:ME X i wi)(s:NoSl i:=by intro _ _;rfl):ME X (.Subscript o i pos) (wDIx wo wi):=(JR (by omega) C h s).wk<|by
 intro J H Q ⟨d,m,S,w,y,f⟩;refine⟨d,m,_,w,y,λL m1 K P k1 n1 c b D=>⟨d,m1,_,c,k1,λT m2 O u k2 n2 R r F=>?_⟩⟩;let⟨k,p,M,a,rfl,g,I,rfl,k2⟩:=yC b k2;let⟨N,rfl,rfl,t,n,j,W,z,A,E,G,k2⟩:=IQ r k2;let⟨V,x,q⟩:=R.dict g I z A E;let⟨v,B,l⟩:=q.look G;refine⟨a,v,rfl,by rw[<-B];exact DGet.k x,f _ m2 v u k2 (n2.trans n1) R ?_ (D.trans F)⟩;exact j9 R g l
abbrev R8(we wo wi:WE):WS:=λD m=>we m λc m1=>jx (λd=>wo m1 λb m2=>wi m2 λr a=>onAt (λk p=>G6 (λy=>SD a k p y d λt=>D.nx {a with os:=a.os.set k [t]}) r) b) c
theorem KZ(hu:X.A.units+64<cLine)(he:ME X e we)(ho:ME X o wo)(hi:ME X i wi)(hs:abx e (some (.Subscript o i pos')) pos.line X.env=pure false:=by rfl):MS X (.Assign [.Subscript o i pos'] e pos) (R8 we wo wi):=(JE (by omega) ho hi he hs).wk<|by
 intro D σ H ⟨w,m,De,Rl,hw,k⟩;refine⟨w,m,_,Rl,hw,λr m1 v H1 q n1 A rr F1=>?_⟩;let⟨d,er,hd,q⟩:=fI rr q;refine⟨w,m1,_,A,q,λro m2 ov H2 q2 n2 B N Y=>⟨w,m2,_,B,q2,λri m3 iv n x n3 R G T=>?_⟩⟩;let⟨kk,p,l,a,rfl,E,f,rfl,x⟩:=yC N x;let⟨y,rfl,rfl,t,c,V,W,Q,e6,e7,x⟩:=IQ G x;let⟨F,U,O⟩:=R.dict E f V W Q;have K:Den X.kx n d v:=(hd.mono (A.pers Y)).mono (B.pers T);let⟨⟨t1,v0,z,g,Z,M,J⟩,mu⟩:=R.own kk (.T l) _ E V;cases z;have C:Pers n (upd n a (.dK (putK F y v))):=bt (.inr ⟨_,U,rfl⟩);have nd:(l.map (·.2)).Nodup:=((f9 w).mp R.nd).1 (.T l) (GT E);have I:TAtK X.kx (upd n a (.dK (putK F y v))) l p 0 c F:=TAtK.monoP C (λi q b zb=>aB λeb=>by
  subst eb;have:=congrArg adg (xu nd zb f);simp at this) O
 have new:TAt X.kx (upd n a (.dK (putK F y v))) l p (.dict (putD (keyD y) (lfD d) c)) (.ref a):=by
  have S:=I.put (kk:=y) (t':=lfD d) (v':=v) λj=>nR (K.mono C);let⟨z1,z2⟩:=qG S.kd;simp only[TAt];exact .inr (.inr (.inl ⟨z1,z2,a,_,f,rfl,aE,S⟩))
 have all:=TAt.set nd C g W e6 (by rw[abd];exact f) (by rw[abd];exact new) λu h=>by
  rw[abd]at h;let⟨a',es',s,eu,_⟩:=h.kd Q;rw[f]at s;cases s;exact eu
 let⟨P,F4⟩:=R.setW E C (ds':=[setT t p (.dict (putD (keyD y) (lfD d) c))]) (λb L=>aB λeb=>L (eb▸bO f)) ⟨⟨_,v0,rfl,all,Z,M,J⟩,λb L=>by
  by_cases eb:b=a
  .subst eb;exact⟨_,aE,rfl⟩
  .rw[aB eb];exact mu b L⟩
 exact⟨a,_,rfl,DPut.k U (by rw[<-O.len];exact e7),k.nx w _ σ _ x (n3.trans (n2.trans n1)) P (.of P (((F1.trans Y).trans T).trans F4))⟩
def qb:List (WE×WE)->MSt->(List (R×R)->MSt->Prop)->Prop
 |[],m,K=>K [] m
 |(wk,wv)::r,m,K=>wk m λc m1=>wv m1 λb m2=>qb r m2 λp a=>K ((c,b)::p) a
inductive RelPs(K:Kd)(α:Al)(Hb H:Hp):List (R×R)->List (V×V)->Prop where
 |nil:RelPs K α Hb H [] []
 |cons {r1 r2:R}{rs:List (R×R)}{v1 v2:V}{vs:List (V×V)}:RelR K α Hb H r1 v1->RelR K α Hb H r2 v2->RelPs K α Hb H rs vs->RelPs K α Hb H ((r1,r2)::rs) ((v1,v2)::vs)
theorem RelPs.base{K:Kx}{a:Al}{m:MSt}{d:St}{c:Hp}(b:Rel K a m d H)(F:Frm a c H):∀{rs:List (R×R)}{vs:List (V×V)},RelPs K a H H' rs vs->RelPs K a c H' rs vs
 |_,_,.nil=>.nil
 |_,_,.cons h1 h2 t=>.cons (h1.base b F) (h2.base b F) (t.base b F)
theorem wG{K:Kx}:∀{s:List (WE×WE)}{c:Al}{m:MSt}{d:St}{H:Hp}{f:List (R×R)->MSt->Prop}{Q:List (V×V)->Hp->Prop},Rel K c m d H->qb s m f ->
  (∀ps j vs g,f ps j->j.np=m.np->Rel K c j d g->RelPs K c H g ps vs->Frm c H g->Q vs g)->xR (s.map λw=>(tM K w.1,tM K w.2)) d H Q
 |[],c,m,d,H,f,Q,Rl,h,fin=>fin _ m _ H h rfl Rl .nil (Frm.refl _ _)
 | (wk,wv)::r,c,m,d,H,f,Q,Rl,h,fin=>
  ⟨c,m,_,Rl,h,λr1 m1 y C k1 n1 a k q=>⟨c,m1,_,a,k1,λz m2 A B k2 n2 b n p=>
   wG b k2 λps v vs u t x l rs F=>fin _ v _ u t (x.trans (n2.trans n1)) l
    (.cons ((k.keep Rl a p).keep Rl b F) ((n.keep a b F).base a q) (rs.base b (q.trans p))) ((q.trans p).trans F)⟩⟩
def kz:List (R×R)->Option (List (aD×aD))
 |[]=>some []
 |(.imm (.int i),.imm d)::r=>(kz r).map ((.int i,d) :: ·)
 |(.imm (.str x),.imm d)::r=>(kz r).map ((.str x,d) :: ·)
 |_::_=>none
def lfKV(kvs:List (aD×aD)):List (aD×aD):=kvs.map λk=>(k.1,lfD k.2)
def uc:List (aD×aD)->Bool
 |[]=>true
 |(k,_)::r=>r.all (λa=>!m9 a.1 k)&&uc r
theorem B6{K:Kx}{l:Al}{m:Hp}{ps:List (R×R)}{vs:List (V×V)}(h:RelPs K l m H ps vs):∀{kvs:List (aD×aD)}{i:Nat},kz ps=some kvs->uc kvs=true->∃es:List (Key×V),vs=es.map (λk=>(kV k.1,k.2))/\TAtK K H τ p i (lfKV kvs) es/\∀kk,(kvs.all λk=>!m9 k.1 (keyD kk))=true->∀x∈es,x.1≠kk:=by
 induction h with
 |nil=>intro kvs i e _;cases e;exact⟨[],rfl,by simp[lfKV,TAtK],λ_ _ _ h=>by cases h⟩
 | @cons r1 r2 rs v1 v2 vs h1 h2 t ih=>
  intro kvs i e n;have go:∀(kk:Key) (d:aD),r1 = .imm (keyD kk)->r2 = .imm d->(kz rs).map ((keyD kk,d) :: ·)=some kvs->∃es:List (Key×V),(v1,v2)::vs=es.map (λk=>(kV k.1,k.2))/\TAtK K H τ p i (lfKV kvs) es/\∀kk,(kvs.all λk=>!m9 k.1 (keyD kk))=true->∀x∈es,x.1≠kk:=by
   clear e;intro kk d j u e;subst j u
   cases q:kz rs with
   |none=>rw[q]at e;cases e
   | some b=>
    rw[q]at e;cases e;simp only[uc,aaR]at n;let⟨es,s,g,un⟩:=ih (i:=i+1) q n.2;have c:v1=kV kk:=by
     cases kk with
     |inl i=>exact aF (show Den K H (.int i) v1 from h1)
     |inr x=>exact bz (show Den K H (.str x) v1 from h1)
    subst c;refine⟨(kk,v2)::es,by rw[aao,<-s],?_,λv a x f=>?_⟩
    .simp only[lfKV,aao,TAtK];exact⟨kk,v2,es,rfl,⟨rfl,un kk n.1⟩,nR h2,g⟩
    .rw[abV,aaR,m7]at a;rcases aah.mp f with z|z
     .subst z;simpa using a.1
     .exact un v a.2 x z
  unfold kz at e
  split at e
  .rename_i z;cases z
  .rename_i i' d r z;cases z;exact go (.inl i') d rfl rfl e
  .rename_i x d r z;cases z;exact go (.inr x) d rfl rfl e
  .cases e
theorem tu:∀{more kvs:List (Key×V)},(more.map (·.1)).Nodup->(∀x∈more,valV kvs x.1=none)->km kvs more=kvs++more
 |[],kvs,_,_=>(aaY _).symm
 | (k,v)::more,kvs,nd,h=>by
  show km (putK kvs k v) more=_;rw[aao,aa7]at nd;rw[FY v (h (k,v) aae),tu nd.2 λx a=>?_,aa6]
  .rfl
  .rw[t8 _ _ _ _ (h (k,v) aae),if_neg]
   .exact h x (aaf _ a)
   .exact λz=>nd.1 (z▸List.mem_map_of_mem a)
theorem TAtK.nodup{K:Kd}:∀{ts:List (aD×aD)}{i:Nat}{xs:List (Key×V)},TAtK K H τ p i ts xs->(xs.map (·.1)).Nodup
 |[],_,_,h=>by simp only[TAtK]at h;subst h;exact abB
 |(k,t)::ts,i,xs,h=>by
  simp only[TAtK]at h;let⟨u,v,vs,rfl,g,_,b⟩:=h;rw[aao];rw[aa7];refine⟨λz=>?_,b.nodup⟩;let⟨x,a,c⟩:=aam.mp z;exact g.2 x a c
def Cb(P:List (aD×aD)->Prop):Option (List (aD×aD))->Prop
 |some k=>uc k=true/\k.length≤15/\P (lfKV k)
 |none=>False
abbrev Tz(w:List (WE×WE)):WE:=λm K=>qb w m λp a=>Cb (λk=>K (.newT (.dict k)) a) (kz p)
def MPs(X:Cx)(pos:Pos)(keys:List (Option Expr))(v:List Expr)(a:List (WE×WE)):Prop:=PPs X pos keys v (a.map λw=>(tM X.kx w.1,tM X.kx w.2))
def Ko:MPs X pos [] [] []:=Mf
def Dt{k v:Expr}{vs:List Expr}{wk:WE}(b:ME X k wk)(h:ME X v wv)(a:MPs X pos ks vs ws):MPs X pos (some k::ks) (v::vs) ((wk,wv)::ws):=Gu b h a
theorem Jv{keys:List (Option Expr)}(h:MPs X pos keys values ws)(j:keys.all (·.isSome)=true:=by rfl)(s:keys.length=values.length:=by rfl)(L:keys≠[]:=by exact λz=>by cases z)(n:keys.length≤15:=by decide):ME X (.Dict keys values pos) (Tz ws):=
 (Lj h j s L n).wk<|by
 intro O H Q ⟨k,m,P,u,J,t⟩;intro p l;refine wG (u.lay l) J λG m1 vs f k1 n1 R C F=>?_
 cases e:kz G with
 |none=>rw[e]at k1;exact k1.elim
 | some kvs=>
  rw[e]at k1;let⟨I,s,k1⟩:=k1;have a:p∉ads k:=u.out l;have w:f p=some (.dK []):=F p _ aE a;let⟨d,A,g,_⟩:=B6 (τ:=[([],p)]) (p:=[]) (i:=0) C e I;refine⟨w,d,A,by rw[<-g.len];simpa[lfKV]using s,?_⟩;have B:km [] d=d:=by
   have:=tu (more:=d) (kvs:=[]) g.nodup λx _=>rfl;rwa[abd]at this
  rw[B];have v:Pers f (upd f p (.dK d)):=bt (.inr ⟨_,w,rfl⟩);have fr:Frm k H (upd f p (.dK d)):=λb E eb nb=>by
   have ne:b≠p:=bv eb l;rw[aB ne];exact F b E (by rw[aB ne];exact eb) nb
  have old:Ext X.kx.eb.np k H k (upd f p (.dK d)):=⟨rfl,fr,λ_ h=>.inl h,λb c=>by
   have r:b≠p:=λe=>a (e▸c);rw[aB r];let⟨M,K,_⟩:=R.mem c;exact⟨M,K⟩⟩
  refine t _ m1 _ _ k1 n1 (R.at' v (λb c=>aB λe=>a (e▸c)) (u.ebx.trans old)) ⟨[([],p)],p,rfl,rfl,by simp,λb c=>by simp at c;subst c;exact l,⟨⟨_,.ref p,rfl,?_,p,rfl,rfl⟩,λb c=>by simp at c;subst c;exact⟨_,aE,rfl⟩⟩⟩ fr;let⟨D,N⟩:=qG g.kd;simp only[TAt];refine .inr (.inr (.inl ⟨D,N,p,d,rfl,rfl,aE,TAtK.monoP v (λi q b y=>?_) g⟩));simp[aek]at y
end
section
variable {m:MSt}{Q:R->MSt->Prop}{w f g:WE}{D:fi}
def SI{k:Nat}{y d:aD}{K:R->Prop}(e:m.os[k]?=some [t])(i:getT t p=some (.dict kvs))(b:isKd kvs=true)(a:oZ y 0 kvs=some (j,t'))(c:iY t'=some d)(h:K (.imm d)) :
  dGot m k p y K:=⟨t,kvs,j,t',e,i,b,a,by unfold gm;rw[c];exact h⟩
theorem v9{y t t':aD}:∀{kvs:List (aD×aD)}{i j:Nat},oZ y i kvs=some (i+j,t')->∃k',m9 k' y=true/\putD y t kvs=kvs.set j (k',t)
 |[],_,_,e=>by cases e
 | (k',t0)::r,i,j,e=>by
  simp only[oZ]at e
  by_cases c:m9 k' y=true
  .rw[if_pos c]at e;have:i=i+j:=by simpa using congrArg (Option.map (·.1)) e
   obtain rfl:j=0:=by omega
   exact⟨k',c,by simp only[putD,if_pos c,agy]⟩
  .rw[if_neg c]at e
   cases j with
   | zero=>
    exfalso;have b:∀{kvs:List (aD×aD)}{i j:Nat}{a:aD},oZ y i kvs=some (j,a)->i≤j:=by
     intro kvs
     induction kvs with
     |nil=>intro i j a e;cases e
     |cons x r d=>
      intro i j a e;let⟨k1,l⟩:=x;simp only[oZ]at e
      split at e
      .cases e;exact aab _
      .have:=d e;omega
    have:=b e;omega
   |succ j=>
    let⟨k2,h,k⟩:=v9 (t:=t) (i:=i+1) (j:=j) (by rw[e];congr 2;omega);exact⟨k2,h,by simp only[putD,if_neg c,agz,k]⟩
def Gn{a b:aD}(h:m9 a b=true):a=b:=by
 unfold m9 at h
 split at h
 .rw[of_decide_eq_true h]
 .rw[of_decide_eq_true h]
 .cases h
theorem LQ{k:Nat}{y d:aD}{P:aD->Prop}(e:m.os[k]?=some [t])(q:getT t p=some (.dict kvs))(l:isKd kvs=true)(c:okW t p=true)(n:kvs.length<aal)(o:oZ y 0 kvs=some (j,t'))(h:P (setT t p (.dict (kvs.set j (y,lfD d))))) :
  SD m k p y d P:=by
 let⟨r,b,a⟩:=v9 (t:=lfD d) (i:=0) (j:=j) (by rw[o,acm]);rw[Gn b]at a;exact⟨t,kvs,e,q,l,c,n,by rw[a];exact h⟩
def QJ(h:K [] m):qb [] m K:=h
def LM{wk:WE}{r:List (WE×WE)}(h:wk m λc m1=>wv m1 λb m2=>qb r m2 λps a=>K ((c,b)::ps) a):qb ((wk,wv)::r) m K:=h
def BR{P:List (aD×aD)->Prop}{o:Option (List (aD×aD))}{k:List (aD×aD)}(e:o=some kvs)(a:uc kvs=true)(c:kvs.length≤15)(b:lfKV kvs=k)(h:P k):Cb P o:=by subst e;subst b;exact⟨a,c,h⟩
theorem qI{n:Nat}{P:MSt->Prop}(h:P {vs:=m.vs.set n (some (.at m.os.length [])),os:=m.os++[[t]],np:=m.np}):tj n P m (.newT t):=.inl h
end
section
variable {X:Cx}{o i e:Expr}{wo wi we:WE}{pos pos':Pos}
theorem g6(c:X.A.units+64<cLine)(b:EE X o wo)(h:EE X i wi)(a:NoSl i:=by intro _ _;rfl):EE X (.Subscript o i pos) (wDIx wo wi):=⟨Sf c b.h h.h a⟩
def rh(a:X.A.units+64<cLine)(h:EE X e we)(d:EE X o wo)(b:EE X i wi)(c:abx e (some (.Subscript o i pos')) pos.line X.env=pure false:=by rfl):ES X (.Assign [.Subscript o i pos'] e pos) (R8 we wo wi):=⟨KZ a h.h d.h b.h c⟩
structure EPs(X:Cx)(pos:Pos)(keys:List (Option Expr))(values:List Expr)(ws:List (WE×WE)):Prop where
 h:MPs X pos keys values ws
def GA:EPs X pos [] [] []:=⟨Ko⟩
def lW{k v:Expr}{vs:List Expr}{wk:WE}(b:EE X k wk)(h:EE X v wv)(a:EPs X pos ks vs ws):EPs X pos (some k::ks) (v::vs) ((wk,wv)::ws):=⟨Dt b.h h.h a.h⟩
def D8{keys:List (Option Expr)}(h:EPs X pos keys values ws)(a:keys.all (·.isSome)=true:=by rfl)(d:keys.length=values.length:=by rfl)(c:keys≠[]:=by exact λz=>by cases z)(b:keys.length≤15:=by decide):EE X (.Dict keys values pos) (Tz ws):=⟨Jv h.h a d c b⟩
end
end L2
namespace K
open PySem L2 M7
variable{ps:List (Nat×Nat)}
def Lh(ns:List Int)(p q:Int):aD:=.dict [(.str "script",.dict [(.none,.list (ns.map .int))]),(.str "turn",.int p),(.str "left",.int q)]
def TapeK(c:Nat)(t:aD):Prop:=∃(ns:List Int) (p q:Int),t=Lh ns p q/\ns.length≤63/\0≤p/\p≤c/\0≤q
def TapeK.mono{c c':Nat}{t:aD}(h:TapeK c t)(f:c≤c'):TapeK c' t:=by
 let⟨ns,p,q,e,a,d,g,b⟩:=h;exact⟨ns,p,q,e,a,d,by omega,b⟩
def BG:SpM:=λa K=>∃ns:List Int,a=[.imm (.list (ns.map .int))]/\ns.length≤63/\∀t,TapeK 0 t->K (.newT t) []
def uX:SpM:=λb K=>∃(t:aD) (m:Int) (c:Nat),b=[.tr t,.imm (.int m)]/\TapeK c t/\c<1000000000/\0<m/\m<1099511627776/\∀(r:Int) (a:aD),0≤r->r<m->TapeK (c+1) a->K (.imm (.int r)) [[a]]
def lg:SpM:=λa K=>∃rs:List Nat,a=[.imm (.list (rs.map λ(r:Nat)=>.int (r:Int)))]/\rs.length≤4/\(∀r∈rs,r≤6)/\K (.new ((M3.allR rs).map lnD)) []
def SvK(ps:List (Nat×Nat)):Prop:=1≤ps.length/\ps.length≤4/\∀p∈ps,1≤p.1/\p.1≤3/\1≤p.2/\p.2≤4
def bA(ps:List (Nat×Nat)):List Nat:=ps.map λp=>p.2
def j4(ps:List (Nat×Nat)):List (Nat×Nat):=ps.map λp=>(p.1,max 1 (p.2-1))
def GG(h:SvK ps):SvK (j4 ps):=by
 refine⟨by simpa[j4]using h.1,by simpa[j4]using h.2.1,λp b=>?_⟩;let⟨q,a,rfl⟩:=aam.mp b;have:=h.2.2 q a;exact⟨this.1,this.2.1,by show 1≤max 1 (q.2-1);omega,by show max 1 (q.2-1)≤4;omega⟩
theorem Bi:∀{rs:List Nat},(∀r∈rs,r≤1)->M7.cnt rs≤2^rs.length
 |[],_=>aab _
 |r::rs,h=>by
  have c:=h r aae;have b:=Bi (rs:=rs) λx a=>h x (aaf _ a);show(r+1)*M7.cnt rs≤2^(rs.length+1);rw[Nat.pow_succ,acY];exact abC b (by omega)
theorem m8:∀{ps:List (Nat×Nat)},(∀p∈ps,1≤p.2)->(bA (j4 ps)).sum≤(bA ps).sum/\((∃p∈ps,2≤p.2)->(bA (j4 ps)).sum<(bA ps).sum)
 |[],_=>⟨aab _,by intro⟨p,b,_⟩;cases b⟩
 |p::ps,h=>by
  have i:=m8 (ps:=ps) λx c=>h x (aaf _ c);have b:=h p aae;have e:(bA (j4 (p::ps))).sum=max 1 (p.2-1)+(bA (j4 ps)).sum:=by simp[bA,j4]
  have d:(bA (p::ps)).sum=p.2+(bA ps).sum:=by simp[bA]
  rw[e,d];refine⟨by have:=i.1;omega,λ⟨q,a,f⟩=>?_⟩;obtain rfl|a:=aah.mp a
  .have:=i.1;omega
  .have:=i.2 ⟨q,a,f⟩;omega
def SvK.six(h:SvK ps):(bA ps).length≤4/\∀r∈bA ps,r≤6:=by
 refine⟨by simpa[bA]using h.2.1,λr a=>?_⟩;let⟨p,b,rfl⟩:=aam.mp a;have:=(h.2.2 p b).2.2.2;omega
def SvK.rep(h:SvK ps){p:Nat×Nat}(c:p∈ps){n:Nat}(b:1≤n)(d:n≤4):SvK (aar n p):=
 ⟨by rw[ac8];exact b,by rw[ac8];exact d,λq a=>by rw[List.eq_of_mem_replicate a];exact h.2.2 p c⟩
theorem zU{a:Type}(n:Nat)(x:a):(aar n [x]).flatten=aar n x:=by
 induction n with
 |zero=>rfl
 |succ n i=>rw[acl,agG,i,acl];rfl
def J8(p:Nat×Nat):aD:=.int (p.2:Int)
def topD(p:Nat×Nat):aD:=.int (p.1:Int)
def Tx(p:Nat×Nat):aD:=prD (p.1,max 1 (p.2-1))
def uu(ps:List (Nat×Nat)):ps.map J8=(bA ps).map λ(r:Nat)=>.int (r:Int):=by rw[bA,aa9];rfl
def zw(ps:List (Nat×Nat)):ps.map Tx=(j4 ps).map prD:=by rw[j4,aa9];rfl
def srvK(wh:Nat)(p:Nat×Nat):Srv:=⟨p.1/p.1.gcd wh,wh/p.1.gcd wh,p.2⟩
def zp{p wh:Nat}(b:1≤p)(f:p<1000000)(h:1≤wh)(e:wh<1000000):1≤p/p.gcd wh/\p/p.gcd wh<1000000/\1≤wh/p.gcd wh/\wh/p.gcd wh<1000000:=by
 have g:0<p.gcd wh:=afj _ h;have c:p.gcd wh≤wh:=Nat.gcd_le_right _ h;have a:p.gcd wh≤p:=Nat.gcd_le_left _ b;have d1:=Nat.div_le_self p (p.gcd wh);have d:=Nat.div_le_self wh (p.gcd wh);exact⟨Nat.div_pos a g,by omega,Nat.div_pos c g,by omega⟩
def vz(ps:List (Nat×Nat)):List Nat:=ps.map λp=>p.1
def Du(ps:List (Nat×Nat)):ps.map topD=natD (vz ps):=by rw[vz,natD,aa9];rfl
theorem x9:∀{ps:List (Nat×Nat)},(∀p∈ps,p.1≤3)->(vz ps).sum≤3*ps.length
 |[],_=>aab _
 |p::ps,h=>by
  have i:=x9 (ps:=ps) λx a=>h x (aaf _ a);have:=h p aae;simp only[vz,aao,acK,aaB]at i⊢;omega
theorem sumK:∀l:List Nat,(l.map λ(x:Nat)=>(x:Int)).sum=((l.sum:Nat):Int)
 |[]=>rfl
 |x::l=>by rw[aao,acK,acK,sumK l,aez]
def yn(l:List Nat)(x:Nat):natD (l++[x])=natD l++[.int (x:Int)]:=by simp[natD]
def AG(l:List Nat):dm (natD l)=some (l.map λ(k:Nat)=>(k:Int)):=by unfold natD;rw[show(l.map λ(k:Nat)=>abu (k:Int))=(l.map λ(k:Nat)=>(k:Int)).map .int by rw[aa9];rfl,d5]
def qx{a:Type}(n:Nat)(x:a):(aar n [x]).flatten=aar n x:=by simp
def qM(n x:Nat):aar n (abu (x:Int))=natD (aar n x):=by unfold natD;rw[agA]
end K
namespace HT
open PySem PySem.Spec PyProof.Rows
section
variable {prog:aaK}{w:World}{A:abf}{E:Ad->Io->Prop}{s:Io}
theorem rev_items(xs:Array Ad):((aax xs.size).filterMap λ(m:Nat)=>xs[((xs.size:Int)-1+(m:Int) * -1).toNat]?)=xs.toList.reverse:=by
 apply acg;intro i;have b:∀k,k≤xs.size->((aax k).filterMap λ(m:Nat)=>xs[((xs.size:Int)-1+(m:Int) * -1).toNat]?)=(aax k).map λm=>xs.getD (xs.size-1-m) .none:=by
  intro k
  induction k with
  |zero=>intro _;rfl
  | succ k c=>
   intro f;rw[ab2,List.filterMap_append,aaD,c (by omega)];have e:((xs.size:Int)-1+(k:Int) * -1).toNat=xs.size-1-k:=by omega
   have h:xs.size-1-k<xs.size:=by omega
   have d:(List.filterMap (λ(m:Nat)=>xs[((xs.size:Int)-1+(m:Int) * -1).toNat]?) [k])=[xs.getD (xs.size-1-k) .none]:=by
    rw[adt,e,ab4 h];simp[h]
   rw[d];rfl
 rw[b xs.size (aab _)]
 by_cases a:i<xs.size
 .rw[aai,ab1 a,List.getElem?_reverse (by simpa using a)];have h:xs.size-1-i<xs.size:=by omega
  simp[h]
 .rw[af0 (by simp;omega),af0 (by simp;omega)]
end
end HT
namespace L2
open PySem PySem.Spec PyProof.Rows
section
variable {X:Cx}{a b e s:Expr}{c w:WE}{pos p:Pos}
theorem vQ:∀{xs:List V}{us:List Ad},Vals xs us->Vals xs.reverse us.reverse
 |_,_,.nil=>.nil
 |_,_,.cons r rs=>by
  rw[ade];rw[ade];exact(vQ rs).append (.cons r .nil)
theorem BU{K:Kd}{H:Hp}:∀{ds:List aD}{xs:List V},DenAll K H ds xs->DenAll K H ds.reverse xs.reverse
 |[],xs,h=>by
  have:xs=[]:=by simpa only[DenAll]using h
  subst this;simp only[List.reverse_nil,DenAll]
 |d::ds,xs,h=>by
  simp only[DenAll]at h;let⟨v,vs,rfl,f,g⟩:=h;rw[ade];rw[ade];exact(BU g).append (by simp only[DenAll];exact⟨v,[],rfl,f,rfl⟩)
end
end L2
namespace L2
open PySem PySem.Spec PySem.W PyProof.Rows
def runC{b:Type}(n:Nat)(f:Nat->Nat->Bool):KasT b->Option b
 | .ret a=>some a
 | .ask i j k=>if i<n/\j<n then runC n f (k (f i j))else none
theorem zo{d:Type}{n:Nat}{f:Nat->Nat->Bool}{c:Nat->Nat->(Bool->Io->Prop)->Io->Prop}{s:Io}(g:∀i j C,i<n->j<n->C (f i j) s->c i j C s){Q:d->Io->Prop}:∀(t:KasT d) (a:d),runC n f t=some a->Q a s->t.kasWp c Q s
 | .ret b,a,e,q=>by
  have l:=aas e;subst l;exact q
 | .ask i j k,a,e,q=>by
  unfold runC at e
  split at e
  .rename_i h;exact g i j _ h.1 h.2 (zo g _ a e q)
  .cases e
section
variable {X:Cx}
theorem wZ{K:Kd}{H:Hp}{ds:List aD}{xs:List V}(g:DenAll K H ds xs):∀p:List Nat,DenAll K H (p.map λi=>ds.getD i .none) (p.map λi=>xs.getD i .non)
 |[]=>by simp only[adp,DenAll]
 | i::p=>by
  simp only[aao];refine⟨_,_,rfl,?_,wZ g p⟩
  cases e:ds[i]? with
  |some d=>
   let⟨v,a,hd⟩:=g.get e;rw[bu e,bu a];exact hd
  |none=>
   have a:xs[i]?=none:=by rw[List.getElem?_eq_none_iff]at e⊢;rw[<-g.length];exact e
   rw[aat,aat,e,a];rfl
theorem ul{xs:List V}{us:List Ad}(r:Vals xs us):∀p:List Nat,Vals (p.map λi=>xs.getD i .non) (p.map λi=>us.getD i .none)
 |[]=>.nil
 | i::p=>by
  rw[aao,aao];refine .cons ?_ (ul r p)
  cases e:xs[i]? with
  |some x=>
   let⟨u,a,h⟩:=r.get e;rw[bu e,bu a];exact h
  |none=>
   rw[aat,aat,e,r.none_of e];rfl
end
end L2
namespace K
open PySem L2 M7
def gu(n:Nat)(os:List (List Nat)):List (List Nat):=os.flatMap λa=>((aax n).filter λl=>!a.contains l).map λl=>a++[l]
def ordK(n:Nat):Nat->List (List Nat)
 |0=>[[]]
 |k+1=>gu n (ordK n k)
def qi{n:Nat}{os:List (List Nat)}{j:Nat}{a:List Nat}(h:os[j]?=some a):gu n (os.take (j+1))=gu n (os.take j)++((aax n).filter λl=>!a.contains l).map λl=>a++[l]:=by
 unfold gu;rw[aaJ,h];simp
def iu:∀n≤4,∀k≤4,(ordK n k).length≤24/\∀a∈ordK n k,a.length≤4/\∀x∈a,x≤3:=by decide +kernel
def iI:∀n≤4,∀k≤3,∀j≤24,(gu n ((ordK n k).take j)).length≤24:=by decide +kernel
end K
namespace L2
open PySem PySem.Spec PyProof.Rows
variable{i:Int}{j:Nat}{p3 p4:Pos}{a:Addr}{α:Al}{m2:MSt}{σ:St}{H:Hp}{ρ:List Nat}{ds ts:List aD}{kvs:List (aD×aD)}{K:Kd}{xs:List (aD×Addr×Ad)}{es:List (Key×V)}{Q:Ad->Io->Prop}
section
variable {X:Cx}{a b e n:Expr}{d c:WE}{pos l:Pos}
theorem Fx(xs:Array Ad):agW xs none none (some (-1))=xs.toList.reverse.toArray:=by
 unfold agW
 congr 1
 rw[<-HT.rev_items xs];show(sliceRange ((xs.size:Int)-1) (-1) (-1)).filterMap _=_;unfold sliceRange;rw[if_neg (by decide)];have e:(if ((xs.size:Int)-1) > -1 then(((xs.size:Int)-1) - -1 - -1-1)/(- -1)else 0).toNat=xs.size:=by
  by_cases h:((xs.size:Int)-1) > -1
  .rw[if_pos h,show(- -1:Int)=1 from rfl,Int.ediv_one];omega
  .rw[if_neg h];omega
 simp only[e,agt]
 congr 1
 funext m
 show xs[((xs.size:Int)-1 + -1*(m:Int)).toNat]?=_;rw[Int.mul_comm]
def Vc(K:aag)(t ts:TE):TE:=λσ H Q=>t σ H λx g=>ts σ g λy f=>∃p xs,x = .ref p/\y = .int (-1)/\SqL K f p xs/\∀q,f q=none->Q (.ref q) (upd f q (.lst xs.reverse))
theorem LH{D ts:TE}(J:PE X e D)(u:PE X (.UnaryOp .USub (.Constant (.int i) j p3) p4) ts):PE X (.Subscript e (.Slice none none (some (.UnaryOp .USub (.Constant (.int i) j p3) p4)) l) pos) (Vc X.K D ts):=by
 intro f s σ H Q I h;refine agu (thn (J f s σ H _ I h) λv s1 ⟨x,S,P,r1,M⟩=>?_);refine wpAny_Slice ?_;rw[evalPart_none];refine Ld (a:=_) (Ld ?_);rw[evalPart_some];refine thn (u f s1 σ S _ P M) λvs g ⟨y,z,R,O,T⟩=>?_;let⟨p,xs,rfl,rfl,L,q⟩:=T;cases r1;let⟨t,rfl⟩:=O;have r:Inv X f σ z {g with heap:=g.heap.push {cls:=.type "slice",data:=.fields #[.none,.none,.int (-1) t]} }:=R.kept (t':=g.toks) λb U q=>LD _ q;let⟨m,C,B,N⟩:=r.list L;have F:=C.length;have k:z {g with heap:=g.heap.push {cls:=.type "slice",data:=.fields #[.none,.none,.int (-1) t]} }.heap.objs.size=none:=r.hok.fresh (aab _);have G:=afb (prog:=X.prog) (w:=X.w) (A:=X.A) (E:=X.xe) (Q:=EP X f σ Q) (s:={g with heap:=g.heap.push {cls:=.type "slice",data:=.fields #[.none,.none,.int (-1) t]} }) (sl:=g.heap.objs.size) B.isList ⟨_,aap _ rfl,rfl,rfl⟩ .none .none (.int (-1) t) (by decide) (by
  rw[Fx];exact⟨.ref _,_,r.laid (t':=g.toks) (o:=.lst xs.reverse) (λ_ _=>LD _) (aab _) ⟨by rw[agh];exact N,m.reverse,0,vQ C,aap _ rfl⟩,rfl,q _ k⟩) (by rw[aaI];omega)
 show wpAny (model X.prog X.w) X.A (agp e (.Slice none none (some (.UnaryOp .USub (.Constant (.int i) j p3) p4)) l) (.ref p) (.ref g.heap.objs.size)) (EP X f σ Q) X.xe {g with heap:=g.heap.push {cls:=.type "slice",data:=.fields #[.none,.none,.int (-1) t]} };exact tail_any (ops:=[.ref p,.ref g.heap.objs.size]) B.isList.typeIs ae4.lookup G (by with_unfolding_all rfl)
abbrev QI(d c:WE):WE:=λm K=>d m λr m1=>c m1 λf m2=>∃ds,lsOf m2 r=some ds/\f = .imm (.int (-1))/\K (.new ds.reverse) m2
theorem Lm(A:ME X e d)(s:ME X (.UnaryOp .USub (.Constant (.int i) j p3) p4) c):ME X (.Subscript e (.Slice none none (some (.UnaryOp .USub (.Constant (.int i) j p3) p4)) l) pos) (QI d c):=(LH A s).wk<|by
 intro σ H Q ⟨α,m,G,w,C,t⟩;refine⟨α,m,_,w,C,λr m1 v E k n1 h rr x=>⟨α,m1,_,h,k,λD m2 z u k2 n2 R p F=>?_⟩⟩;let⟨ds,y,rfl,k2⟩:=k2;let⟨a,xs,rfl,f,g⟩:=(rr.keep w h F).list R y;have B:=aF (show Den X.kx u (.int (-1)) z from p);subst B;refine⟨a,xs,rfl,rfl,f,λq o=>?_⟩;exact t _ m2 _ _ k2 (n2.trans n1) (R.lay o) ((show RelR X.kx.toKd α u _ (.new ds.reverse) (.ref q)from⟨q,_,rfl,o,aE,(BU g).mono (bt (.inl o))⟩).base R (x.trans F)) ((x.trans F).trans (cI o))
def GU(f:EE X e d)(h:EE X (.UnaryOp .USub (.Constant (.int i) j p3) p4) c):EE X (.Subscript e (.Slice none none (some (.UnaryOp .USub (.Constant (.int i) j p3) p4)) l) pos) (QI d c):=⟨Lm f.h h.h⟩
end
def isFz:HO->Bool
 | .lst _=>true
 | .dK _=>true
 | .ext _=>true
 |_=>false
section
variable {X:Cx}{p:List (Addr×Obj)}{d:St}{H:Hp}{s:Io}
theorem Inv.freezeU{u:HO}(I:Inv X p d H s)(h:H a=some u)(g:isFz u=true):∃o,Inv X p d (upd H a (.frz o u)) s:=by
 have ok:=I.hok a u h;let⟨o,e⟩:∃o,s.heap.get? a=some o:=by
  cases u with
  |lst xs=>let⟨_,m,n,_,e⟩:=ok;exact⟨_,e⟩
  |dK kvs=>let⟨_,_,vs,_,o,_,_,e,_⟩:=ok;exact⟨_,e⟩
  |ext t=>exact ok.2.1
  |_=>cases g
 have k:∀{b:Addr}{v:HO},H b=some v->v≠u->b≠a:=λq z=>vj q h z;refine⟨o,I.un (h':=s.heap) (t':=s.toks) ⟨λb f q _ _ _=>q,λb f q _ _ _=>⟨f.slots,q⟩,λb f q z _=>?_,λb f q _=>⟨f,q⟩,λb y q=>?_,λb f v q=>?_,λb r q=>⟨#[],?_⟩⟩ λb f q=>?_⟩
 .rw[aB (abO (bv h z))];exact z
 .rw[aB (k q (by intro z;subst z;cases g))];exact q
 .rw[aB (k q (by intro z;subst z;cases g))];exact q
 .rw[aB (k q (by intro z;subst z;cases g)),q];simp
 .have stay:∀{c:Addr}{v:HO},ObjOk X.prog X.w H s.heap c v->ObjOk X.prog X.w (upd H a (.frz o u)) s.heap c v:=λx=>x.stay (λ_ _ _ z=>z) (λc z=>by rw[aB (k z (by intro z;subst z;cases g))];exact z) λc y z=>by rw[aB (k z (by intro z;subst z;cases g))];exact z
  by_cases l:b=a
  .subst l;rw[aE]at q;cases q;exact⟨e,stay ok⟩
  .rw[aB l]at q;exact stay (I.hok b f q)
end
def tFrz(t:TS):TS:=λD σ H=>∃a u,H a=some u/\isFz u=true/\∀o,t D σ (upd H a (.frz o u))
section
variable {X:Cx}{st:Stmt}{w:WS}
theorem Ub{t:TS}(h:PS X st t):PS X st (tFrz t):=by
 intro p s σ H D I ⟨a,u,e,b,q⟩;let⟨o,c⟩:=I.freezeU e b;exact h p s σ _ D c (q o)
theorem FQ{K:Kx}{m:MSt}(R:Rel K α m σ H)(N:Ren ρ m m2):Rel K (ρ.map λk=>α.getD k (.L 0)) m2 σ H/\Ext m.np α H (ρ.map λk=>α.getD k (.L 0)) H:=by
 have x:=im R.len N.lt;have get:∀(k:Nat) (b:Ao),(ρ.map λk=>α.getD k (.L 0))[k]?=some b->∃j:Nat,ρ[k]?=some j/\α[j]?=some b:=λk b z=>by
  let⟨j,M,J⟩:=Paired.get2 x z;exact⟨j,M,J⟩
 have f:∀(k j:Nat) (b:Ao),ρ[k]?=some j->α[j]?=some b->(ρ.map λk=>α.getD k (.L 0))[k]?=some b:=λk j b y t=>by
  let⟨P,I,D⟩:=Paired.get' x y;rw[t]at D;cases D;exact I
 have n:(ρ.map λk=>α.getD k (.L 0)).take m.np=α.take m.np:=by
  apply acg;intro l;rw[aaO,aaO]
  by_cases c:l<m.np
  .rw[if_pos c,if_pos c];have:ρ[l]?=some l:=by
    have e:=congrArg (·[l]?) N.pre;simp only[aaO,if_pos c]at e;rw[e,ab1 c]
   have s:l<α.length:=aav c R.npl;rw[f l l α[l] this (lD s),lD s]
  .rw[if_neg c,if_neg c]
 have ext:Ext m.np α H (ρ.map λk=>α.getD k (.L 0)) H:=⟨n,Frm.refl _ _,λa u=>by
  let⟨k,b,L,O⟩:=jF u;let⟨j,_,S⟩:=get k b L;exact .inl (kl S O),λa u=>by
  let⟨o,q,_⟩:=R.mem u;exact⟨_,q⟩⟩
 refine⟨⟨fc R.nd N.nd x,?_,λk b ds y t=>?_,?_,λj r z=>?_,?_,by rw[N.np];exact R.ebl,R.ebx.trans (ext.less R.ebl)⟩,ext⟩
 .rw[N.os,iO,iO]
 .obtain⟨j,q,qa⟩:=get k b y;rw[N.os,aai,q]at t;have G:j<m.os.length:=N.lt j (GT q);have A:m.os.getD j []=ds:=aas t;refine R.own j b ds qa ?_;rw[<-A,aat,lD G];rfl
 .rw[N.vl];exact R.vlen
 .have h:=N.vs j r z
  cases r with
  |imm d=>exact R.var j (.imm d) h
  |new _=>exact h.elim
  |newT _=>exact h.elim
  |obj k=>
   let⟨g,q,h⟩:=h;let⟨v,B,a,C,e⟩:=R.var j (.obj g) h;exact⟨v,B,a,f k g _ q C,e⟩
  | «at» k p=>
   let⟨g,q,h⟩:=h;let⟨v,B,F,a,C,E,e⟩:=R.var j (.at g p) h;exact⟨v,B,F,a,f k g _ q C,E,e⟩
 .rw[N.np,iO];exact N.npl
structure Fz(k:Nat)(dd:aD)(ρ:List Nat)(m m2:MSt):Prop where
 nd:ρ.Nodup
 lt:∀k∈ρ,k<m.os.length
 out:k∉ρ
 pre:ρ.take m.np=aax m.np
 npl:m.np≤ρ.length
 npk:m.np≤k
 os:m2.os=ρ.map λk=>m.os.getD k []
 np:m2.np=m.np
 vl:m2.vs.length=m.vs.length
 vs:∀(j:Nat) (r:R),m2.vs[j]?=some (some r)->RenR ρ m.vs[j]? r\/(r = .imm dd/\(m.vs[j]?=some (some (.obj k))\/m.vs[j]?=some (some (.at k []))))
def Fz.ren{k:Nat}{d:aD}{ρ:List Nat}{m m2:MSt}(F:Fz k d ρ m m2):∃b,Ren ρ m b/\b.np=m2.np/\b.os=m2.os/\b.vs.length=m2.vs.length/\∀(j:Nat) (r:R),m2.vs[j]?=some (some r)->b.vs[j]?=some (some r)\/(r = .imm d/\(m.vs[j]?=some (some (.obj k))\/m.vs[j]?=some (some (.at k [])))):=by
 classical
 refine⟨{m2 with vs:=m2.vs.mapIdx λj o=>match o with|some r=>if RenR ρ m.vs[j]? r then some r else none|none=>none},⟨F.nd,F.lt,F.pre,F.npl,F.os,F.np,by rw[<-F.vl];simp,λj r z=>?_⟩,rfl,rfl,by simp,λj r z=>?_⟩
 .simp only[aga]at z
  cases q:m2.vs[j]? with
  |none=>rw[q]at z;cases z
  | some o=>
   rw[q]at z
   cases o with
   |none=>cases z
   |some c=>
    simp only[acy,agJ]at z
    split at z
    .cases z;assumption
    .cases z
 .rcases F.vs j r z with h|h
  .left;simp only[aga,z,acy,if_pos h]
  .exact .inr h
theorem uL{m:MSt}{p:fi}{D:Ends}{k:Nat}{J:aD}{ao:Ao}{u:HO}(c:Rel X.kx α m σ H)(W:EndsOk X.kx m.np α H p D)(F:Fz k J ρ m m2)(E:α[k]?=some ao)(I:a∈ao.ads)(C:H a=some u)(A:isFz u=true)(mu:Mu u=true)
  (q:∀o,Pers H (upd H a (.frz o u))->Den X.kx (upd H a (.frz o u)) J (.ref a)) (name:∀(j:Nat) (v:V),(m.vs[j]?=some (some (.obj k))\/m.vs[j]?=some (some (.at k [])))->σ[j]?=some (some v)->v = .ref a) (U:w p m2):tFrz (tMS X.kx w) D σ H:=by
 let⟨Z,N,d,f,l,s⟩:=F.ren;let⟨L,g⟩:=FQ c N;refine⟨a,u,C,A,λo=>?_⟩;have G:Pers H (upd H a (.frz o u)):=bt (.inr ⟨u,C,mu⟩);have y:a∈ads α:=kl E I;have out:a∉ads _:=λz=>by
  let⟨i,x,P,Y⟩:=jF z;let⟨j,S,M⟩:=Paired.get2 (im c.len N.lt) P;exact iz c.nd E M (λz=>F.out (z▸GT S)) I Y
 have B:Ext m.np α H (ρ.map λk=>α.getD k (.L 0)) (upd H a (.frz o u)):=⟨g.pre,λb ob e n=>by rw[aB (λz=>n (by rw[z];exact y))];exact e,g.new,λb t=>by
  by_cases eb:b=a
  .subst eb;exact⟨_,aE⟩
  .rw[aB eb];exact g.old b t⟩
 have R:=L.at' G (λb t=>aB λz=>out (z▸t)) (c.ebx.trans (B.less c.ebl));refine⟨_,m2,p,⟨R.nd,by rw[R.len,f],λk ao ds T O=>R.own k ao ds T (by rw[f];exact O),by rw[R.vlen,l],λj r z=>?_,by rw[<-d];exact R.npl,by rw[<-d];exact R.ebl,R.ebx⟩,U,by rw[F.np];exact W.ext B⟩;rcases s j r z with h|⟨rfl,h⟩
 .exact R.var j r h
 .obtain⟨v,ev⟩:∃v,σ[j]?=some (some v):=by
   rcases h with h|h
   .obtain⟨v,ev,_⟩:=c.var j _ h;exact⟨v,ev⟩
   .obtain⟨v,ev,_⟩:=c.var j _ h;exact⟨v,ev⟩
  refine⟨v,ev,?_⟩;rw[name j v h ev];exact q o G
def wFzL(w:WS):WS:=λD m=>∃(k j:Nat) (ds:List aD) (ρ:List Nat) (m2:MSt),m.vs[j]?=some (some (.obj k))/\m.os[k]?=some ds/\Fz k (.list ds) ρ m m2/\w D m2
theorem P7(h:MS X st w):MS X st (wFzL w):=(Ub h).wk<|by
 intro D σ H ⟨α,m,r,R,⟨k,f,ds,ρ,m2,ej,l,F,n⟩,q⟩;let⟨v,s,a,e,rfl⟩:=R.var f _ ej;let⟨xs,d,g⟩:=R.own k _ _ e l;refine uL R q F e (aaa.mpr rfl) d rfl rfl (λo p=>?_) (λj v b c=>?_) n
 .simp only[Den];exact⟨a,xs,rfl,.inl ⟨o,aE⟩,g.mono p⟩
 .rcases b with b|b
  .obtain⟨v',ev',a',ea',rfl⟩:=R.var j _ b;rw[e]at ea';cases ea';rw[c]at ev';cases ev';rfl
  .obtain⟨v',ev',τ,a',ea',_⟩:=R.var j _ b;rw[e]at ea';cases ea'
def zR(d:aD):iY (lfD d)=some d:=by cases d<;>rfl
theorem fzKK{K:Kd}{H:Hp}{τ:List (List Nat×Addr)}{p:List Nat}:∀{kvs:List (aD×aD)}{i:Nat}{es:List (Key×V)},TAtK K H τ p i (lfKV kvs) es->DenKK K H kvs es
 |[],_,_,h=>by simpa[ TAtK]
 |(k,d)::r,i,es,h=>by
  let⟨c,v,vs,rfl,g,e,b⟩:=h;exact⟨c,v,vs,rfl,g,jp e (zR d),fzKK b⟩
def Ng(h:ES X st w):ES X st (wFzL w):=⟨P7 h.h⟩
end
def FzVs(k:Nat)(d:aD)(ρ:List Nat):List (Option R)->List (Option R)->Prop
 |o::os,q::qs=>(RenO ρ o q\/(q=some (.imm d)/\(o=some (.obj k)\/o=some (.at k []))))/\FzVs k d ρ os qs
 |[],[]=>True
 |_,_=>False
theorem FzVs.len{k:Nat}{d:aD}{ρ:List Nat}:∀{os q:List (Option R)},FzVs k d ρ os q->q.length=os.length
 |[],[],_=>rfl
 |_::_,_::_,h=>congrArg (· + 1) (FzVs.len h.2)
 |[],_::_,h=>h.elim
 |_::_,[],h=>h.elim
theorem FzVs.get{k:Nat}{d:aD}{ρ:List Nat}:∀{os b:List (Option R)},FzVs k d ρ os b->∀(j:Nat) (r:R),b[j]?=some (some r)->RenR ρ os[j]? r\/(r = .imm d/\(os[j]?=some (some (.obj k))\/os[j]?=some (some (.at k []))))
 |o::os,q::b,h,0,r,e=>by
  have c:=by simpa using e
  subst c;rcases h.1 with h|_
  .exact .inl h
  .simp_all
 |o::os,q::b,h,j+1,r,e=>by simpa using FzVs.get h.2 j r ‹_›
 |[],[],_,_,_,e=>by simp at e
 |[],_::_,h,_,_,_=>h.elim
 |_::_,[],h,_,_,_=>h.elim
theorem Md{k:Nat}{d:aD}{m:MSt}(nd:decide ρ.Nodup=true)(lt:(ρ.all λk=>Nat.blt k m.os.length)=true)(out:(ρ.all λi=>i != k)=true)(pre:ρ.take m.np=aax m.np)(npl:Nat.ble m.np ρ.length=true)(npk:Nat.ble m.np k=true)(os:m2.os=ρ.map λk=>m.os.getD k [])(np:m2.np=m.np)(vs:FzVs k d ρ m.vs m2.vs):Fz k d ρ m m2:=
 ⟨of_decide_eq_true nd,λk h=>Nat.blt_eq.mp (abD.mp lt k h),λz=>by simpa using abD.mp out k z,pre,ad9 npl,ad9 npk,os,np,vs.len,λj r e=>vs.get j r e⟩
def Vd{w:WS}{D:fi}{m:MSt}(k j:Nat)(ds:List aD)(ρ:List Nat)(m2:MSt)(e:m.vs[j]?=some (some (.obj k)))(b:m.os[k]?=some ds)(F:Fz k (.list ds) ρ m m2)(h:w D m2):wFzL w D m:=⟨k,j,ds,ρ,m2,e,b,F,h⟩
noncomputable instance instDecPyData:DecidableEq aD:=λa b=>Classical.propDecidable (a=b)
mutual
def kH:aD->Nat
 | .int _=>1
 | .str _=>1
 | .tuple ds=>fX ds+1
 |_=>0
def fX:List aD->Nat
 |[]=>0
 |d::ds=>kH d+fX ds
end
def kyD(d:aD):Bool:=(match d with| .tuple _=>true|_=>false)&&(hkD d&&(d.canLay0&&decide (d.depth≤7)))
theorem iQ{d:aD}(h:kyD d=true):∃ds,d = .tuple ds/\hkA ds=true/\d.canLay0=true/\d.depth≤7:=by
 unfold kyD at h;rw[aaR,aaR,aaR,decide_eq_true_eq]at h
 cases d with
 |tuple ds=>exact⟨ds,rfl,by simpa[hkD]using h.2.1,h.2.2.1,h.2.2.2⟩
 |_=>simp at h
section
variable {w:World}{prog:aaK}
theorem ui(w:World):∀a b:List aD,i9 w (a++b)=i9 w a++i9 w b
 |[],b=>by simp[i9]
 |d::a,b=>by simp[ i9,ui w a b]
theorem pP:∀a b:List aD,fX (a++b)=fX a+fX b
 |[],b=>by simp[fX]
 |d::a,b=>by simp[ fX,pP a b];omega
theorem uz:∀{ds:List aD}{d:aD},hkA ds=true->d∈ds->hkD d=true
 |x::ds,d,h,a=>by
  simp[hkA]at h;obtain rfl|a:=aah.mp a
  .exact h.1
  .exact uz h.2 a
theorem kj{d:aD}(h:d∈ds):d.depth≤aay ds:=by
 induction ds with
 |nil=>cases h
 |cons x ds i=>
  show _≤max x.depth _
  grind
mutual
theorem ph:∀(d:aD) {A:abf}{E:Ad->Io->Prop}{s:Io}{v:Ad}{as:List Addr}{Q:Int->Io->Prop},hkD d=true->Reads s.heap v d as->A.units+d.depth<cLine->Q (fC w d) {s with toks:=s.toks+kH d}->wpAny (model prog w) A (pyHash v) Q E s
 | .int i,A,E,s,v,as,Q,_,r,_,h=>by
  cases r;exact wpAny_pyHash_int (by simpa only[fC,kH]using h)
 | .str x,A,E,s,v,as,Q,_,r,_,h=>by
  cases r;exact wpAny_pyHash_str (by simpa only[fC,kH]using h)
 | .tuple ds,A,E,s,v,as,Q,hk,r,hu,h=>by
  cases r with
  | @tuple a o vs n _ _ ho hc hd f=>
   have t:s.TypeIs (.ref a) "tuple":=⟨o,ho,hc⟩;have q:A.units<cLine:=Nat.lt_of_le_of_lt (aco _ _) hu;have u:∀{P:Option Ad->Io->Prop},P (some (.builtin "tuple.__hash__")) s->wpAny (model prog w) A (ag3 (.ref a) "__hash__") P E s:=λp=>aey t ae8.lookup p;simp only[fC,kH]at h;refine gT (m:=cRoomFor "hash" [.ref a]) (wpAny_cRoomFor_or (.inr q) (gT (m:=ag3 _ _) (u ?_)));rw[if_neg (show ¬(some (Ad.builtin "tuple.__hash__")==some afx)=true by rw[beq_builtin_none];decide)];refine gT (m:=ag3 _ _) (u (gT (m:=callSpecialIfBoundUnlessNone? (.ref a) "__hash__" _) ?_));refine wpAny_callSpecialIfBoundUnlessNone?_slot t ae8 (abb ae8 t F.entry_tuple_hash (gT (m:=adi (.ref a)) (wpAny_tupleItemsOf ho hd ?_)) (F.args_tuple_hash_1 _));refine gT ?_;rw[<-agB];refine aeg _
    (λrest (b:Array Int) k=>∃done left bs,ds=done++left/\adF s.heap rest left bs/\b.toList=i9 w done/\k={s with toks:=s.toks+fX done})
    _ ?_ ?_ _ _ ⟨[],ds,_,rfl,f,by simp[i9],by simp[fX]⟩
   .rintro x rest b k ⟨done,left,bs,hds,hl,hb,rfl⟩
    cases hl with
    | @cons _ _ d ds' as1 bs1 r1 r2=>
     have j:d∈ds:=by rw[hds];simp
     refine gT (v3 ds d j (uz (by simpa only[hkD]using hk) j) (s:={s with toks:=s.toks+fX done}) r1 ?_ ?_)
     .have:=kj j;have e:(abw ds).depth=aay ds+1:=rfl;show A.units+1+d.depth<cLine;omega
     .have fin:∃c l g,ds=c++l/\adF s.heap rest l g/\(b.push (fC w d)).toList=i9 w c/\({s with toks:=s.toks+fX done+kH d}:Io)={s with toks:=s.toks+fX c }:=by
       refine⟨done++[d],ds',_,by rw[hds];simp,r2,?_,?_⟩
       .rw[Array.toList_push,hb,ui];simp[i9]
       .rw[pP,aff];simp[fX]
      first
       |exact Ld fin
       |exact gT (Ld (Ld fin))
   .rintro b k ⟨done,left,bs,hds,hl,hb,rfl⟩;cases hl;rw[aaY]at hds;subst hds;change wpAny _ _ (retInt (abF (b.toList:List Int))) _ _ _;rw[hb];refine afT ?_;show wpAny _ _ (if (decide (-(2:Int)^63≤abF (i9 w ds))&&decide (abF (i9 w ds)<2^63))=true then _ else _) Q E _;unfold reduceHash at h
    by_cases f:(decide (-(2:Int)^63≤abF (i9 w ds))&&decide (abF (i9 w ds)<2^63))=true
    .rw[if_pos f];rw[if_pos f]at h;refine Ld ?_;simpa[aff]using h
    .rw[if_neg f];rw[if_neg f]at h;refine gT (m:=rule _) (acI (Ld ?_));simpa[aff]using h
 | .none,_,_,_,_,_,_,hk,_,_,_=>by simp only[hkD]at hk;cases hk
 | .bool _,_,_,_,_,_,_,hk,_,_,_=>by simp only[hkD]at hk;cases hk
 | .list _,_,_,_,_,_,_,hk,_,_,_=>by simp only[hkD]at hk;cases hk
 | .dict _,_,_,_,_,_,_,hk,_,_,_=>by simp only[hkD]at hk;cases hk
theorem v3:∀(ds:List aD) (d:aD),d∈ds->∀{A:abf}{E:Ad->Io->Prop}{s:Io}{v:Ad}{as:List Addr}{Q:Int->Io->Prop},hkD d=true->Reads s.heap v d as->A.units+d.depth<cLine->Q (fC w d) {s with toks:=s.toks+kH d}->wpAny (model prog w) A (pyHash v) Q E s
 |x::ds,d,hm=>by
  intro c r a h;rcases aah.mp hm with e|b
  .rw[e]at c r a h;exact ph x c r a h
  .exact v3 ds d b c r a h
end
mutual
theorem tz:∀(a b:aD),hkD a=true->hkD b=true->aad a b=decide (a=b)
 | .int i,b,_,hb=>by
  cases b with
  |int j=>
   show decide (i=j)=_
   by_cases h:i=j
   .subst h;rw[decide_eq_true rfl,decide_eq_true rfl]
   .rw[decide_eq_false h,decide_eq_false (λz=>h (by cases z;rfl))]
  |str _=>rw[decide_eq_false (λz=>by cases z)];rfl
  |tuple _=>rw[decide_eq_false (λz=>by cases z)];rfl
  |none=>simp only[hkD]at hb;cases hb
  |bool _=>simp only[hkD]at hb;cases hb
  |list _=>simp only[hkD]at hb;cases hb
  |dict _=>simp only[hkD]at hb;cases hb
 | .str i,b,_,hb=>by
  cases b with
  |str j=>
   show decide (i=j)=_
   by_cases h:i=j
   .subst h;rw[decide_eq_true rfl,decide_eq_true rfl]
   .rw[decide_eq_false h,decide_eq_false (λz=>h (by cases z;rfl))]
  |int _=>rw[decide_eq_false (λz=>by cases z)];rfl
  |tuple _=>rw[decide_eq_false (λz=>by cases z)];rfl
  |none=>simp only[hkD]at hb;cases hb
  |bool _=>simp only[hkD]at hb;cases hb
  |list _=>simp only[hkD]at hb;cases hb
  |dict _=>simp only[hkD]at hb;cases hb
 | .tuple ds,b,ha,hb=>by
  cases b with
  |tuple e=>
   simp only[aad];rw[CG ds e (by simpa only[hkD]using ha) (by simpa only[hkD]using hb)]
   by_cases h:ds=e
   .subst h;rw[decide_eq_true rfl,decide_eq_true rfl]
   .rw[decide_eq_false h,decide_eq_false (λz=>h (by cases z;rfl))]
  |int _=>rw[decide_eq_false (λz=>by cases z)];rfl
  |str _=>rw[decide_eq_false (λz=>by cases z)];rfl
  |none=>simp only[hkD]at hb;cases hb
  |bool _=>simp only[hkD]at hb;cases hb
  |list _=>simp only[hkD]at hb;cases hb
  |dict _=>simp only[hkD]at hb;cases hb
 | .none,_,ha,_=>by simp only[hkD]at ha;cases ha
 | .bool _,_,ha,_=>by simp only[hkD]at ha;cases ha
 | .list _,_,ha,_=>by simp only[hkD]at ha;cases ha
 | .dict _,_,ha,_=>by simp only[hkD]at ha;cases ha
theorem CG:∀(a b:List aD),hkA a=true->hkA b=true->PyData.eqvAll a b=decide (a=b)
 |[],[],_,_=>by rw[decide_eq_true rfl];rfl
 |[],_::_,_,_=>by rw[decide_eq_false (λz=>by cases z)];rfl
 |_::_,[],_,_=>by rw[decide_eq_false (λz=>by cases z)];rfl
 | x::a,y::b,ha,hb=>by
  simp only[hkA,aaR]at ha hb;simp only[PyData.eqvAll];rw[tz x y ha.1 hb.1,CG a b ha.2 hb.2]
  by_cases h:x=y
  .by_cases h2:a=b
   .subst h h2;rw[decide_eq_true rfl,decide_eq_true rfl,decide_eq_true rfl];rfl
   .rw[decide_eq_false h2,Bool.and_false,decide_eq_false (λz=>h2 (by cases z;rfl))]
  .rw[decide_eq_false h,Bool.false_and,decide_eq_false (λz=>h (by cases z;rfl))]
end
mutual
theorem Reads.hkeep{h h':aaT}{d:Addr}{o:Obj}{es:Array ab0}{f:Nat}(e:h.get? d=some o)(hd:o.data = .dict es f)(c:abW d h h'):∀(k:aD) {v:Ad}{as:List Addr},hkD k=true->Reads h v k as->Reads h' v k as
 | .int _,_,_,_,r=>by cases r;exact .int _ _
 | .str _,_,_,_,r=>by cases r;exact .str _ _
 | .tuple ds,_,_,hk,r=>by
  cases r with
  | @tuple a o' vs n _ _ h1 h2 h3 h4=>
   have b:a≠d:=by
    rintro rfl;rw[e]at h1;cases h1;rw[hd]at h3;cases h3
   exact .tuple ((c.2 a b).trans h1) h2 h3 (ReadsAll.hkeep e hd c ds (by simpa only[hkD]using hk) h4)
 | .none,_,_,hk,_=>by simp only[hkD]at hk;cases hk
 | .bool _,_,_,hk,_=>by simp only[hkD]at hk;cases hk
 | .list _,_,_,hk,_=>by simp only[hkD]at hk;cases hk
 | .dict _,_,_,hk,_=>by simp only[hkD]at hk;cases hk
theorem ReadsAll.hkeep{h h':aaT}{d:Addr}{o:Obj}{es:Array ab0}{e:Nat}(b:h.get? d=some o)(hd:o.data = .dict es e)(a:abW d h h'):∀(ks:List aD) {vs:List Ad}{as:List Addr},hkA ks=true->adF h vs ks as->adF h' vs ks as
 |[],_,_,_,r=>by cases r;exact .nil
 |k::ks,_,_,hk,r=>by
  simp only[hkA,aaR]at hk
  cases r with
  |cons r1 c=>exact .cons (Reads.hkeep b hd a k hk.1 r1) (ReadsAll.hkeep b hd a ks hk.2 c)
end
mutual
theorem l7:∀(d:aD) {A:abf}{E:Ad->Io->Prop}{s:Io}{v:Ad}{as:List Addr}{n:Nat}{Q:Bool->Io->Prop},hkD d=true->Reads s.heap v d as->d.depth≤n->Q true s->wpAny (model prog w) A (eqIsQuiet n v) Q E s
 | .int _,_,_,_,_,_,_,_,_,r,_,h=>by cases r;rw[eqIsQuiet_byValue _ rfl];exact Ld h
 | .str _,_,_,_,_,_,_,_,_,r,_,h=>by cases r;rw[eqIsQuiet_byValue _ rfl];exact Ld h
 | .tuple ds,A,E,s,v,as,n,Q,hk,r,hn,h=>by
  cases r with
  | @tuple a o vs nn _ _ ho hc hd hr=>
   have f:s.TypeIs (.ref a) "tuple":=⟨o,ho,hc⟩;have e:(abw ds).depth=aay ds+1:=rfl
   cases n with
   |zero=>omega
   | succ n=>
    unfold eqIsQuiet;refine gT (m:=ag3 _ _) (aey f F.slot_tuple_eq.lookup (gT (m:=isInstance (.ref a) (.type "tuple")) (adm f isSubtype_tuple_tuple ?_)));simp only[if_false,ab5,Bool.not_true];refine gT (m:=seqItems? (.ref a)) (acv ho hd ?_);refine gT ?_;show wpAny _ _ (forIn vs _ _) _ _ s;rw[<-agB];refine aeg _ (λrest r c=>r.1=none/\c=s/\∃left bs,(∀d∈left,d∈ds)/\adF s.heap rest left bs) _ ?_ ?_ _ _ ⟨rfl,rfl,ds,_,λ_ h=>h,hr⟩
    .rintro x rest r c ⟨hr',rfl,left,bs,hsub,hl⟩
     cases hl with
     | @cons _ _ d ds' as1 bs1 r1 r2=>
      have b:d∈ds:=hsub d aae;refine gT (uk ds d b (uz (by simpa only[hkD]using hk) b) r1 (by have:=kj b;omega) ?_);simp only[if_false,ab5,Bool.not_true];exact Ld ⟨rfl,rfl,ds',_,λz g=>hsub z (aaf _ g),r2⟩
    .rintro⟨r1,r2⟩ c ⟨hr',rfl,_⟩;simp only at hr';subst hr';exact Ld h
 | .none,_,_,_,_,_,_,_,hk,_,_,_=>by simp only[hkD]at hk;cases hk
 | .bool _,_,_,_,_,_,_,_,hk,_,_,_=>by simp only[hkD]at hk;cases hk
 | .list _,_,_,_,_,_,_,_,hk,_,_,_=>by simp only[hkD]at hk;cases hk
 | .dict _,_,_,_,_,_,_,_,hk,_,_,_=>by simp only[hkD]at hk;cases hk
theorem uk:∀(ds:List aD) (d:aD),d∈ds->∀{A:abf}{E:Ad->Io->Prop}{s:Io}{v:Ad}{as:List Addr}{n:Nat}{Q:Bool->Io->Prop},hkD d=true->Reads s.heap v d as->d.depth≤n->Q true s->wpAny (model prog w) A (eqIsQuiet n v) Q E s
 |x::ds,d,hm=>by
  intro c r b h;rcases aah.mp hm with e|a
  .rw[e]at c r b;exact l7 x c r b h
  .exact uk ds d a c r b h
end
theorem o6{d:aD}(h:kyD d=true):hkD d=true:=by
 let⟨ds,rfl,a,_⟩:=iQ h;simpa[hkD]
noncomputable def oo (prog:aaK) (w:World):HeapKind prog w aD where
 is:=λh d a=>(∃c,Reads h (.ref a) d c)/\kyD d=true
 hash:=fC w
 draws:=kH
 room:=λA=>A.units+20<cLine
 inj:=λ{h a x y} ⟨⟨c,r1⟩,k1⟩ ⟨⟨bs,g⟩,k2⟩=>by
  let⟨ds,rfl,_,m,_⟩:=iQ k1;exact SeqAt.Reads.unique _ _ _ _ _ m r1 g
 keeps:=λ⟨⟨c,r⟩,k⟩ o hd j=>⟨⟨c,Reads.hkeep o hd j _ (o6 k) r⟩,k⟩
 pyHash:=λ{A E s k a Q} n ⟨⟨c,r⟩,f⟩ h=>by
  let⟨ds,e,_,_,hd⟩:=iQ f;exact ph k (o6 f) r (by omega) h
 eqBool:=λ{A E s x y a b Q} n ⟨⟨c,r1⟩,k1⟩ ⟨⟨bs,g⟩,k2⟩ h=>by
  let⟨ds,p,_,i,d1⟩:=iQ k1;let⟨t,q,_,l,u⟩:=iQ k2;refine ag4 x y A s _ _ _ _ r1 g i l (by omega) prog w E Q ?_;rw[tz x y (o6 k1) (o6 k2)];exact h
 quiet:=λ{A E s k a Q} ⟨⟨c,r⟩,f⟩ h=>by
  let⟨ds,e,_,_,hd⟩:=iQ f;exact l7 k (o6 f) r (by omega) h
end
def dg(k:aD):List (aD×aD)->Option aD
 |[]=>none
 |(k',d)::r=>if aad k' k=true then some d else dg k r
def putP(k d:aD):List (aD×aD)->List (aD×aD)
 |[]=>[(k,d)]
 |(k',d')::r=>if aad k' k=true then(k',d)::r else(k',d')::putP k d r
def kyA(kvs:List (aD×aD)):Bool:=kvs.all λk=>kyD k.1
def kdD:aD->Bool
 | .int _=>true
 | .str _=>true
 |_=>false
def oneK(kvs:List (aD×aD))(k:aD):Bool:=(isKd kvs&&kdD k)||(kyA kvs&&kyD k)
theorem uw{k:aD}(h:kdD k=true):∃kk:Key,k=keyD kk:=by
 cases k with
 |int i=>exact⟨.inl i,rfl⟩
 |str x=>exact⟨.inr x,rfl⟩
 |_=>cases h
def Jy(a b:Key):aad (keyD a) (keyD b)=decide (a=b):=by
 cases a<;>cases b<;>simp[keyD,aad,ac9]
def IsDc(K:Kd)(H:Hp)(a:Addr)(kvs:List (aD×aD)):Prop:=
 (∃e,Rd H a (.dK e)/\DenKK K H kvs e)\/∃e,Rd H a (dX a e)/\isKd kvs=false/\(kvs.map (·.1)).Nodup/\DenKV K H kvs e
section
variable {K:Kd}{H a:Hp}
theorem fzKV{τ:List (List Nat×Addr)}{p:List Nat}:∀{kvs:List (aD×aD)}{i:Nat}{es:List (Int×V×V)},TAtD K H τ p i (lfKV kvs) es->DenKV K H kvs es
 |[],_,_,h=>by simpa[lfKV]
 |(k,d)::r,i,es,h=>by
  let⟨u,v,vs,rfl,g,c,b⟩:=h;exact⟨u,v,vs,rfl,g,jp c (zR d),fzKV b⟩
theorem L5{τ:List (List Nat×Addr)}{p:List Nat}:∀{kvs:List (aD×aD)}{i:Nat}{es:List (Int×V×V)},DenKV K H kvs es->TAtD K H τ p i (lfKV kvs) es
 |[],_,_,h=>by simpa only[lfKV]
 |_::r,i,es,h=>by
  let⟨u,v,vs,rfl,g,c,b⟩:=h;exact⟨u,v,vs,rfl,g,nR c,L5 b⟩
def fJ(kvs:List (aD×aD)):(lfKV kvs).map (·.1)=kvs.map (·.1):=by
 unfold lfKV;rw[aa9];rfl
def qU(kvs:List (aD×aD)):isKd (lfKV kvs)=isKd kvs:=by
 unfold isKd lfKV;rw[ad7];rfl
theorem p8(h:isKd kvs=true\/kyA kvs=true):fzOf kvs=none/\excC kvs=none:=by
 cases kvs with
 |nil=>exact⟨rfl,rfl⟩
 | cons x r=>
  let⟨k,d⟩:=x
  cases k with
  |none=>
   rcases h with h|h
   .simp[isKd]at h
   .simp[kyA,kyD]at h
  |int _=>exact⟨rfl,rfl⟩
  |str _=>exact⟨rfl,rfl⟩
  |bool _=>exact⟨rfl,rfl⟩
  |list _=>exact⟨rfl,rfl⟩
  |tuple _=>exact⟨rfl,rfl⟩
  |dict _=>exact⟨rfl,rfl⟩
end
def dcM(m:MSt)(kvs:List (aD×aD)):R->Prop
 | .imm (.dict es)=>es=kvs
 | .at k p=>p=p/\ndT m k p=some (.dict (lfKV kvs))
 |_=>False
theorem RelR.dc{K:Kx}{m:MSt}{B:Hp}{r:R}{v:V}(R:Rel K α m σ H)(h:RelR K α B H r v)(e:dcM m kvs r)(l:isKd kvs=true\/kyA kvs=true):∃a,v = .ref a/\IsDc K H a kvs:=by
 let⟨n1,n2⟩:=p8 l
 cases r with
 | imm d=>
  cases d with
  |dict j=>
   have z:j=kvs:=e;subst z;have q:Den K H (.dict j) v:=h;simp only[Den]at q;let⟨a,rfl,q⟩:=q;refine⟨a,rfl,?_⟩;rcases q with⟨x,⟨o,f⟩,n,g⟩|⟨x,o,f,g⟩|⟨c,x,y,_⟩
   .exact .inr ⟨x,.inr ⟨o,f⟩,n.1,n.2.1,g⟩
   .exact .inl ⟨x,.inr ⟨o,f⟩,g⟩
   .rw[n2]at y;cases y
  |none=>exact e.elim
  |bool _=>exact e.elim
  |int _=>exact e.elim
  |str _=>exact e.elim
  |list _=>exact e.elim
  |tuple _=>exact e.elim
 | «at» k p=>
  let⟨E,a,D,_,u,rfl,g⟩:=RelR.node R h e.2;refine⟨a,rfl,?_⟩;have t:=p8 (by
   rcases l with l|l
   .exact .inl (by rw[qU];exact l)
   .refine .inr ?_;unfold kyA lfKV at *;rw[ad7];exact l)
  simp only[TAt]at g;rcases g with⟨d,i,_⟩|⟨_,_,b,j,i,A,s,n,g⟩|⟨_,_,b,j,i,A,s,g⟩|⟨c,b,dx,C,x,w,_⟩
  .rw[t.1]at i;cases i
  .rw[u]at i;cases i;exact .inr ⟨j,.inl s,by rw[<-qU];exact n.1,by rw[<-fJ];exact n.2.1,fzKV g⟩
  .rw[u]at i;cases i;exact .inl ⟨j,.inl s,fzKK g⟩
  .rw[t.2]at w;cases w
 |obj _=>exact e.elim
 |new _=>exact e.elim
 |newT _=>exact e.elim
theorem DenKV.len{K:Kd}{H:Hp}:∀{kvs:List (aD×aD)}{es:List (Int×V×V)},DenKV K H kvs es->kvs.length=es.length
 |[],_,g=>by simp[DenKV]at g;subst g;rfl
 |_::r,_,g=>by
  let⟨u,v,vs,rfl,_,_,g⟩:=g;simp[DenKV.len g]
theorem DenKK.len{K:Kd}{H:Hp}:∀{kvs:List (aD×aD)}{es:List (Key×V)},DenKK K H kvs es->kvs.length=es.length
 |[],_,g=>by simp only[DenKK]at g;subst g;rfl
 |(k,d)::r,_,g=>by
  simp only[DenKK]at g;let⟨u,v,vs,rfl,_,_,g⟩:=g;simp[DenKK.len g]
section
variable {X:Cx}{pins:List (Addr×Obj)}{σ:St}{H:Hp}{s:Io}
abbrev PxV(K:Kd)(H:Hp):List (aD×aD)->List (aD×Addr×Ad)->Prop:=abK λp q=>p.1=q.1/\Den K H p.1 (.ref q.2.1)/\∃v,Den K H p.2 v/\RelV v q.2.2
theorem PxV.keys{H:Hp}(p:PxV K H kvs xs):xs.map (·.1)=kvs.map (·.1):=by
 induction p with
 |nil=>rfl
 |cons h t i=>rw[aao,aao,i,h.1]
theorem sv{k:aD}{u:V}(c:kyD k=true)(h:Den K H k u):∃b,u = .ref b:=by
 let⟨ds,rfl,_⟩:=iQ c;let⟨a,x,e,_⟩:=h;exact⟨a,e⟩
theorem Bc{k:aD}(a:kyD k=true):k.hasDict=false:=by
 let⟨ds,rfl,_,h,_⟩:=iQ a;exact aa3 _ h
def Inv.ky(I:Inv X pins σ H s){k:aD}{b:Addr}(a:kyD k=true)(h:Den X.kd H k (.ref b)):(oo X.prog X.w).is s.heap k b:=⟨h.reads I (Bc a) (rfl),a⟩
abbrev ExV(w:World):List (Int×V×V)->List (aD×Addr×Ad)->Prop:=abK λe q=>e.1=fC w q.1/\e.2.1 = .ref q.2.1/\RelV e.2.2 q.2.2
theorem Inv.dcE(I:Inv X pins σ H s){es:List (Int×V×V)}(L:Rd H a (dX a es))(g:DenKV X.kd H kvs es)(nd:(kvs.map (·.1)).Nodup)(f:kyA kvs=true):(a==abr)=false/\es.length≤aal/\∃xs,s.heap.DictOfH (oo X.prog X.w) a xs/\PxV X.kd H kvs xs/\ExV X.w es xs:=by
 let⟨⟨O,J,o,c,P,Q,F,N,T⟩,_⟩:=(show ObjOk X.prog X.w H s.heap a (dX a es)from L.ok I.hok);have key:∀{kvs:List (aD×aD)}{es:List (Int×V×V)}{c:List ab0},kyA kvs=true->DenKV X.kd H kvs es->abK (λ(e:Int×V×V) (d:ab0)=>d.hash=e.1/\RelV e.2.1 d.key/\RelV e.2.2 d.val) es c->∃xs,c=xs.map (entryOfKey (oo X.prog X.w))/\PxV X.kd H kvs xs/\ExV X.w es xs:=by
  intro kvs
  induction kvs with
  |nil=>
   intro es c _ g p;simp only[DenKV]at g;subst g;cases p;exact⟨[],rfl,.nil,.nil⟩
  | cons x r n=>
   intro es c f g p;let⟨k,d⟩:=x;rw[kyA,abV,aaR]at f;simp only[DenKV]at g;let⟨u,v,vs,rfl,A,S,R⟩:=g
   cases p with
   |cons K E=>
    rename_i G m;let⟨xs,w,j,y⟩:=n f.2 R E;let⟨b,rfl⟩:=sv f.1 A;let⟨C,D,z⟩:=K;let⟨B,M,l⟩:=G
    cases (show M=abg b from D)
    refine⟨(k,b,l)::xs,?_,.cons ⟨rfl,A,v,S,z⟩ j,.cons ⟨rfl,rfl,z⟩ y⟩;rw[aao,<-w]
    congr 1
    show ab0.mk B (.ref b) l=⟨fC X.w k,.ref b,l⟩;rw[show B=fC X.w k from C]
 let⟨xs,w,j,y⟩:=key f g T;refine⟨O,J,xs,⟨o,c,P,Q,F,N,w,λx i=>?_,by rw[j.keys];exact nd⟩,j,y⟩;have all:∀{kvs:List (aD×aD)}{xs:List (aD×Addr×Ad)},kyA kvs=true->PxV X.kd H kvs xs->∀x∈xs,(oo X.prog X.w).is s.heap x.1 x.2.1:=by
  intro kvs xs f p
  induction p with
  |nil=>intro x i;cases i
  | @cons q x0 qs xs0 h t n=>
   rw[kyA,abV,aaR]at f;intro x i;obtain rfl|i:=aah.mp i
   .rw[<-h.1];exact I.ky f.1 h.2.1
   .exact n f.2 x i
 exact all f j x i
theorem Inv.dc0(I:Inv X pins σ H s)(r:Rd H a (.dK [])):(a==abr)=false/\s.heap.DictOfH (oo X.prog X.w) a []:=by
 let⟨_,k,vs,m,l⟩:=oJ I.hok r;cases m;let⟨o,e,b,c,d,j,f⟩:=l;refine⟨k,o,e,b,c,d,j,?_,⟨(λx h=>absurd h (by simp)),abB⟩⟩;have i:e.toList=[]:=by
  let⟨_,g,_⟩:=f;exact aa4 (by have:=g.length;simpa)
 rw[i];rfl
theorem OO(g:DenKK K H kvs es)(a:kyA kvs=true):kvs=[]/\es=[]:=by
 cases kvs with
 |nil=>simp[DenKK]at g;exact⟨rfl,g⟩
 |cons x r=>
  let⟨k,d⟩:=x;let⟨b,v,vs,_,⟨e,_⟩,_⟩:=g;rw[kyA,abV,aaR]at a;have h:kyD k=true:=a.1;rw[e]at h
  cases b<;>cases h
def Inv.dcX(I:Inv X pins σ H s)(h:IsDc X.kd H a kvs)(c:kyA kvs=true):(a==abr)=false/\∃xs,s.heap.DictOfH (oo X.prog X.w) a xs/\PxV X.kd H kvs xs:=by
 rcases h with⟨e,r,g⟩|⟨e,r,_,nd,g⟩
 .obtain⟨rfl,rfl⟩:=OO g c;let⟨b,d⟩:=I.dc0 r;exact⟨b,[],d,.nil⟩
 .obtain⟨b,_,xs,d,p,_⟩:=I.dcE r g nd c;exact⟨b,xs,d,p⟩
theorem PxV.val{k:aD}(c:kyA kvs=true)(f:kyD k=true)(p:PxV K H kvs xs) :
  (dg k kvs=none/\atKey xs k=none)\/∃d v q,dg k kvs=some d/\atKey xs k=some q/\Den K H d v/\RelV v q.2:=by
 induction p with
 |nil=>exact(.inl ⟨rfl,rfl⟩)
 | @cons x q xs0 qs h t ih=>
  rw[kyA,abV,aaR]at c;let⟨i,d⟩:=x;let⟨j,n,v,m,l⟩:=h;have a:i=q.1:=j;have g:=tz _ _ (o6 c.1) (o6 f);unfold dg
  by_cases e:i=k
  .have b:atKey (q::qs) k=some q.2:=by simp[atKey,List.find?_cons,<-a,e]
   rw[g,decide_eq_true e,if_pos rfl];exact .inr ⟨d,v,q.2,rfl,b,m,l⟩
  .have b:atKey (q::qs) k=atKey qs k:=by simp[atKey,<-a,e]
   rw[g,decide_eq_false e,b];exact ih c.2
theorem DenKK.val{kk:Key}(g:DenKK K H kvs es) :
  (dg (keyD kk) kvs=none/\valV es kk=none)\/∃d v,dg (keyD kk) kvs=some d/\valV es kk=some v/\Den K H d v:=by
 induction kvs generalizing es with
 |nil=>simp[DenKK]at g;subst g;exact .inl ⟨rfl,rfl⟩
 |cons x r i=>
  let⟨k,d⟩:=x;let⟨b,v,vs,rfl,⟨rfl,_⟩,a,c⟩:=g;unfold dg;rw[Jy]
  by_cases e:b=kk
  .rw[decide_eq_true e];exact .inr ⟨d,v,rfl,dH e,a⟩
  .rw[decide_eq_false e,dF e];exact i c
def DGet.kr{H:Hp}{kvs:List (Key×V)}{k:Key}(e:Rd H a (.dK kvs)):DGet H a (kV k) (valV kvs k):=.inl ⟨kvs,k,e,rfl,rfl⟩
theorem j8{k:aD}(h:oneK kvs k=true):(isKd kvs=true/\kdD k=true)\/(kyA kvs=true/\kyD k=true):=by
 unfold oneK at h
 simp_all
def Inv.dcT(I:Inv X pins σ H s)(h:IsDc X.kd H a kvs):s.TypeIs (.ref a) "dict"/\∀b,abg a = .ref b->∃c,s.heap.get? b=some c/\c.dict=none:=by
 rcases h with⟨d,r,g⟩|⟨d,r,_,nd,g⟩
 .obtain⟨_,hs,vs,kv,o,_,_,h1,h2,_⟩:=oJ I.hok r;exact⟨⟨o,h1,h2.1⟩,λb e=>by cases e;exact⟨o,h1,h2.2.1⟩⟩
 .obtain⟨⟨hs,hz,o,ents,ep,h1,h2,h3,h4⟩,_⟩:=(r.ok I.hok);exact⟨⟨o,h1,h2.1⟩,λb e=>by cases e;exact⟨o,h1,h2.2.1⟩⟩
theorem uJ{kk:Key}{y:V}(h:Den K H (keyD kk) y):y=kV kk:=by
 cases kk with
 |inl i=>exact aF h
 |inr x=>exact bz h
section
variable {a:Addr}{kvs:List (aD×aD)}{k:aD}{y z:V}{u c:Ad}{A:abf}{E:Ad->Io->Prop}
theorem NR(J:A.units+64<cLine)(I:Inv X pins σ H s)(h:IsDc X.kd H a kvs)(ok:oneK kvs k=true)(n:Den X.kd H k y)(x:RelV y u)(B:RelV z c)
  (f:∀v w s',Inv X pins σ H s'->RelV v w->((∃d,dg k kvs=some d/\Den X.kd H d v)\/(dg k kvs=none/\v=z))->Q w s'):wpAny (model X.prog X.w) A (call (.builtin "dict.get") [.ref a,u,c]) Q E s:=by
 have C:=(I.dcT h).1;rcases j8 ok with⟨l,o⟩|⟨l,o⟩
 .obtain⟨kk,rfl⟩:=uw o;have F:=uJ n;subst F;rcases h with⟨D,t,g⟩|⟨D,t,kd,nd,g⟩
  .obtain⟨z0,hd,vs,rel,dd⟩:=oJ I.hok t;refine agP aea C afK (aft _ _ _) (meets_dict_get_default (cy X.prog X.w) a (uD x) hd c) ⟨_,dd.mapOf,?_⟩;have r:=rel.val kk;rcases g.val (kk:=kk)with⟨e,i⟩|⟨d,v,e,i,m⟩
   .rw[i]at r;have j:aeF vs kk=none:=RelO.none_of r;show Q ((aeF vs kk).getD c) _;rw[j];exact f z c _ (I.tok _) B (.inr ⟨e,rfl⟩)
   .rw[i]at r;let⟨w,j,G⟩:=RelO.some_of r;show Q ((aeF vs kk).getD c) _;rw[j];exact f v w _ (I.tok _) G (.inl ⟨d,e,m⟩)
  .rw[l]at kd;cases kd
 .obtain⟨hs,xs,dd,p⟩:=I.dcX h l;let⟨b,rfl⟩:=sv o n
  cases (show u=abg b from x)
  refine agP aea C afK (aft _ _ _) (meetsH_dict_get_default (oo X.prog X.w) a b hs c) ⟨(by show A.units+1+20<cLine;omega),k,xs,I.ky o n,dd,?_⟩;rcases p.val l o with⟨e,i⟩|⟨d,v,q,e,i,m,j⟩
  .rw[i];exact f z c _ (I.tok _) B (.inr ⟨e,rfl⟩)
  .rw[i];exact f v q.2 _ (I.tok _) j (.inl ⟨d,e,m⟩)
theorem Vy(D:A.units+64<cLine)(I:Inv X pins σ H s)(h:IsDc X.kd H a kvs)(ok:oneK kvs k=true)(m:Den X.kd H k y)(t:RelV y u)(n:Bool)
  (f:∀s',Inv X pins σ H s'->Q (.bool (if n=true then !(dg k kvs).isSome else(dg k kvs).isSome)) s'):wpAny (model X.prog X.w) A (aa8 (if n=true then .NotIn else .In) u (.ref a)) Q E s:=by
 rcases j8 ok with⟨l,o⟩|⟨l,o⟩
 .obtain⟨kk,rfl⟩:=uw o;have C:=uJ m;subst C;rcases h with⟨x,r,g⟩|⟨x,r,kd,nd,g⟩
  .have e:(dg (keyD kk) kvs).isSome=(valV x kk).isSome:=by
    rcases g.val (kk:=kk)with⟨i,j⟩|⟨d,v,i,j,B⟩
    .rw[i,j];rfl
    .rw[i,j];rfl
   cases n with
   |false=>exact d_in (by omega) I (DGet.kr r) t λs' w=>by rw[<-e];exact f s' w
   |true=>exact LG (by omega) I (DGet.kr r) t λs' w=>by rw[<-e];exact f s' w
  .rw[l]at kd;cases kd
 .obtain⟨hs,xs,dd,p⟩:=I.dcX h l;let⟨b,rfl⟩:=sv o m
  cases (show u=abg b from t)
  have e:(dg k kvs).isSome=(atKey xs k).isSome:=by
   rcases p.val l o with⟨i,j⟩|⟨d,v,q,i,j,B,F⟩
   .rw[i,j];rfl
   .rw[i,j];rfl
  cases n with
  |false=>exact wpAny_in_heap (by show A.units+1+20<cLine;omega) (I.ky o m) hs dd (by rw[<-e];exact f _ (I.tok _))
  |true=>exact PyProof.Rows.wpAny_notIn_heap (knd:=oo X.prog X.w) (by show A.units+1+20<cLine;omega) (I.ky o m) hs dd (by rw[<-e];exact f _ (I.tok _))
theorem ym{d:aD}(J:A.units+64<cLine)(I:Inv X pins σ H s)(h:IsDc X.kd H a kvs)(ok:oneK kvs k=true)(n:Den X.kd H k y)(x:RelV y u)(l:dg k kvs=some d)
  (f:∀v w s',Inv X pins σ H s'->RelV v w->Den X.kd H d v->Q w s'):wpAny (model X.prog X.w) A (aei (.ref a) u) Q E s:=by
 rcases j8 ok with⟨j,o⟩|⟨j,o⟩
 .obtain⟨kk,rfl⟩:=uw o;have B:=uJ n;subst B;rcases h with⟨D,t,g⟩|⟨D,t,kd,nd,g⟩
  .rcases g.val (kk:=kk)with⟨e,i⟩|⟨G,v,e,i,m⟩
   .rw[l]at e;cases e
   .rw[l]at e;cases e;exact sX (by omega) I (by rw[<-i];exact DGet.kr t) x λw s' C r=>f v w s' C r m
  .rw[j]at kd;cases kd
 .obtain⟨hs,xs,dd,p⟩:=I.dcX h j;let⟨b,rfl⟩:=sv o n
  cases (show u=abg b from x)
  rcases p.val j o with⟨e,i⟩|⟨G,v,q,e,i,m,F⟩
  .rw[l]at e;cases e
  .rw[l]at e;cases e;exact wpAny_getItem_heap (knd:=oo X.prog X.w) (by show A.units+1+20<cLine;omega) (I.ky o n) dd i (f v q.2 _ (I.tok _) F m)
end
end
section
variable {X:Cx}{a:Expr}{w:WE}{pos:Pos}
abbrev QV:WE:=λm K=>K (.newT (.dict [])) m
theorem KO:ME X (.Dict [] [] pos) QV:=pe_dnewK.wk<|by
 intro e H Q ⟨g,m,K,R,d,f⟩;intro p c;refine f _ m _ _ d rfl (R.lay c) ⟨[([],p)],p,rfl,rfl,by simp,λb h=>by simp at h;subst h;exact c,⟨⟨_,.ref p,rfl,?_,p,rfl,rfl⟩,λb h=>by simp at h;subst h;exact⟨_,aE,rfl⟩⟩⟩ (cI c);refine .inr (.inr (.inl ⟨rfl,rfl,p,[],rfl,rfl,aE,?_⟩));rfl
def qE:EE X (.Dict [] [] pos) QV:=⟨KO⟩
end
section
variable {K:Kd}{H:Hp}{τ:List (List Nat×Addr)}{p:List Nat}
theorem j5:∀{ds:List aD}{i:Nat}{xs:List V},DenAll K H ds xs->TAtL K H τ p i (ds.map lfD) xs
 |[],_,_,h=>by simpa only[adp,TAtL,DenAll]using h
 |d::ds,i,_,h=>by
  simp only[DenAll]at h;let⟨v,vs,rfl,a,b⟩:=h;simp only[aao,TAtL];exact⟨v,vs,rfl,nR a,j5 b⟩
end
section
variable {K:Kx}{c:Al}{m:MSt}{d:St}{H:Hp}{k:Nat}{p:List Nat}{τ:List (List Nat×Addr)}{a:Addr}{t:aD}{ts ds:List aD}
theorem Rel.listN(R:Rel K c m d H)(f:c[k]?=some (.T τ))(h:τ.lookup p=some a)(l:m.os[k]?=some [t])(j:getT t p=some (.list ts)):∃xs,H a=some (.lst xs)/\TAtL K H τ p 0 ts xs:=by
 let⟨⟨q,r,z,g,_⟩,_⟩:=R.own k (.T τ) _ f l;cases z;let⟨v,b⟩:=g.get j;rw[abd]at b;simp only[TAt]at b;let⟨o,xs,e,_,i,n⟩:=b;rw[h]at e;cases e;exact⟨xs,i,n⟩
theorem Rel.setLs{xs x:List V}{ds':List aD}(R:Rel K c m d H)(o:c[k]?=some (.T τ))(f:τ.lookup p=some a)(w:m.os[k]?=some [t])(s:getT t p=some (.list ts))(ok:okW t p=true)(q:H a=some (.lst xs))(g':DenAll K H ds' x) :
  Rel K c {m with os:=m.os.set k [setT t p (.list (ds'.map lfD))]} d (upd H a (.lst x))/\Frm c H (upd H a (.lst x)):=by
 let⟨⟨B,v,z,g,r,l,n⟩,mu⟩:=R.own k (.T τ) _ o w;cases z;have i:Pers H (upd H a (.lst x)):=bt (.inr ⟨_,q,rfl⟩);have nd:(τ.map (·.2)).Nodup:=((f9 c).mp R.nd).1 (.T τ) (GT o);have new:TAt K (upd H a (.lst x)) τ p (.list (ds'.map lfD)) (.ref a):=by
  simp only[TAt];exact⟨a,x,f,rfl,aE,j5 (g'.mono i)⟩
 have all:TAt K (upd H a (.lst x)) τ [] (setT t p (.list (ds'.map lfD))) v:=TAt.set nd i g s ok (by rw[abd];exact f) (by rw[abd];exact new) λu h=>by
  rw[abd]at h;simp only[TAt]at h;let⟨A,_,e,y,_⟩:=h;rw[f]at e;cases e;exact y
 exact R.setW o i (ds':=[setT t p (.list (ds'.map lfD))]) (λb j=>aB λeb=>j (eb▸bO f)) ⟨⟨_,v,rfl,all,r,l,n⟩,λb j=>by
  by_cases eb:b=a
  .subst eb;exact⟨_,aE,rfl⟩
  .rw[aB eb];exact mu b j⟩
end
section
variable {X:Cx}{o e:Expr}{n:WE}{c l:Pos}
def Va(m:MSt)(k:Nat)(p:List Nat)(P:List aD->(List aD->MSt)->Prop):Prop:=∃t ts ds,m.os[k]?=some [t]/\getT t p=some (.list ts)/\du ts=some ds/\okW t p=true/\P ds λd=>{m with os:=m.os.set k [setT t p (.list (d.map lfD))]}
def qy:WM:=λr rs m K=>onAt (λk p=>on1 (jx λd=>Va m k p λds f=>ds.length<aal/\K (.imm .none) (f (ds++[d]))) rs) r
theorem yL:MtM X "list.append" (mM X.kx qy):=by
 intro b s f H x V v E Q I F D ⟨O,m,L,U,S,r,rs,T,R,A,i,h,j⟩;let⟨k,p,N,a,rfl,u,w,rfl,h⟩:=yC A h;let⟨M,P,rfl,rfl,i,h⟩:=e8 i h;let⟨d,rfl,hd,t,ts,ds,z,y,K,ok,G,h⟩:=fI i h;let⟨C,q,B⟩:=R.listN u w z y;have g:=jH B K;let⟨R2,J⟩:=R.setLs u w z y ok q (g.append (DenAll.cons hd DenAll.nil));exact lH b s f H _ _ v E Q I F D ⟨a,C,_,rfl,rfl,q,by rw[<-g.length];exact G,j _ _ _ _ h rfl R2 xI J⟩
def vY:WO:=λr1 r m K=>onAt (λk p=>DG (λi=>∃t ts j a,m.os[k]?=some [t]/\getT t p=some (.list ts)/\ixN ts.length i=some j/\ts[j]?=some a/\K (gm k p j a)) r) r1
theorem TAtL.get'{K:Kd}{H:Hp}{τ:List (List Nat×Addr)}{p:List Nat}:∀{ts:List aD}{i j:Nat}{xs:List V}{t:aD},TAtL K H τ p i ts xs->ts[j]?=some t->∃v,xs[j]?=some v/\TAt K H τ (p++[i+j]) t v
 |[],_,_,_,_,_,e=>by simp at e
 |t::ts,i,0,_,_,h,e=>by
  simp only[TAtL]at h;let⟨v,vs,rfl,a,_⟩:=h;simp at e;subst e;exact⟨v,rfl,a⟩
 |t::ts,i,j+1,_,_,h,e=>by
  simp only[TAtL]at h;let⟨v,vs,rfl,_,d⟩:=h;let⟨w,b,z⟩:=TAtL.get' d (j:=j) (by simpa using e);exact⟨w,by simpa using b,by rw[show i+(j+1)=i+1+j by omega];exact z⟩
theorem TAtL.len{K:Kd}{H:Hp}{τ:List (List Nat×Addr)}{p:List Nat}:∀{ts:List aD}{i:Nat}{xs:List V},TAtL K H τ p i ts xs->ts.length=xs.length
 |[],_,_,h=>by simp only[TAtL]at h;subst h;rfl
 |t::ts,i,_,h=>by
  simp only[TAtL]at h;let⟨v,vs,rfl,_,a⟩:=h;simp[TAtL.len a]
theorem DF:IxR X (rM X.kx vY):=by
 intro d b r s z H x y v u Q I L M ⟨V,m,S,Z,W,r1,T,Y,R,E,D,f,A⟩ h;let⟨k,p,U,a,rfl,B,P,rfl,f⟩:=yC E f;let⟨i,rfl,rfl,t,ts,j,t',J,G,N,O,f⟩:=Jj D f;let⟨K,q,g⟩:=R.listN B P J G;let⟨w,F,C⟩:=g.get' O;rw[acm]at C;refine Bm d b r s z H _ _ v u Q I L M ⟨a,K,i,w,rfl,rfl,SqL.of q,?_,A _ _ H f R (j9 R B C) (Frm.refl _ _)⟩ h;unfold atI;rw[<-g.len,N];exact F
def O5{a b:Expr}{w d:WE}{pos:Pos}(g:ME X a w)(f:ME X b d)(i:l8 b:=by intro _ _;rfl):ME X (.Subscript a b pos) (wBin vY w d):=(OH DF g f i).wk λ_ _ _ h=>sD h
end
def Fe{a:Hp}(old:∀b o,H b=some o->a b=some o):Pers H a:=⟨λb x q=>old b _ q,λb o u q=>old b _ q⟩
section
variable {K:Kd}{H:Hp}{τ τ':List (List Nat×Addr)}{w:List Nat}
mutual
theorem TAt.shift(e:∀q a,τ.lookup q=some a->τ'.lookup (w++q)=some a):∀{t:aD}{p:List Nat}{v:V},TAt K H τ p t v->TAt K H τ' (w++p) t v
 | .none,_,_,h=>by simp only[TAt]at h⊢;exact h
 | .bool _,_,_,h=>by simp only[TAt]at h⊢;exact h
 | .int _,_,_,h=>by simp only[TAt]at h⊢;exact h
 | .str _,_,_,h=>by simp only[TAt]at h⊢;exact h
 | .tuple _,_,_,h=>by simp only[TAt]at h⊢;exact h
 | .list ts,p,_,h=>by
  simp only[TAt]at h⊢;let⟨a,x,b,i,f,g⟩:=h;exact⟨a,x,e _ _ b,i,f,TAtL.shift e g⟩
 | .dict kvs,p,_,h=>by
  simp only[TAt]at h⊢;rcases h with⟨d,b,h⟩|⟨z,l,a,j,b,i,f,k,g⟩|⟨z,l,a,j,b,i,f,g⟩|⟨c,a,dx,C,x,m,b,i,f,k,g⟩
  .exact .inl ⟨d,b,h⟩
  .exact .inr (.inl ⟨z,l,a,j,e _ _ b,i,f,k,TAtD.shift e g⟩)
  .exact .inr (.inr (.inl ⟨z,l,a,j,e _ _ b,i,f,TAtK.shift e g⟩))
  .exact .inr (.inr (.inr ⟨c,a,dx,C,x,m,e _ _ b,i,f,k,TAtF.shift e g⟩))
theorem TAtL.shift(e:∀q a,τ.lookup q=some a->τ'.lookup (w++q)=some a):∀{ts:List aD}{p:List Nat}{i:Nat}{xs:List V},TAtL K H τ p i ts xs->TAtL K H τ' (w++p) i ts xs
 |[],_,_,_,h=>by simpa only[TAtL]using h
 |t::ts,p,i,_,h=>by
  simp only[TAtL]at h⊢;let⟨v,vs,b,c,g⟩:=h;exact⟨v,vs,b,by rw[aa6];exact TAt.shift e c,TAtL.shift e g⟩
theorem TAtD.shift(e:∀q a,τ.lookup q=some a->τ'.lookup (w++q)=some a):∀{ts:List (aD×aD)}{p:List Nat}{i:Nat}{xs:List (Int×V×V)},TAtD K H τ p i ts xs->TAtD K H τ' (w++p) i ts xs
 |[],_,_,_,h=>by simpa only[TAtD]using h
 |(k,t)::ts,p,i,_,h=>by
  simp only[TAtD]at h⊢;let⟨u,v,vs,b,g,d,c⟩:=h;exact⟨u,v,vs,b,g,by rw[aa6];exact TAt.shift e d,TAtD.shift e c⟩
theorem TAtK.shift(e:∀q a,τ.lookup q=some a->τ'.lookup (w++q)=some a):∀{ts:List (aD×aD)}{p:List Nat}{i:Nat}{xs:List (Key×V)},TAtK K H τ p i ts xs->TAtK K H τ' (w++p) i ts xs
 |[],_,_,_,h=>by simpa only[TAtK]using h
 |(k,t)::ts,p,i,_,h=>by
  simp only[TAtK]at h⊢;let⟨u,v,vs,b,g,d,c⟩:=h;exact⟨u,v,vs,b,g,by rw[aa6];exact TAt.shift e d,TAtK.shift e c⟩
theorem TAtF.shift(e:∀q a,τ.lookup q=some a->τ'.lookup (w++q)=some a):∀{ts:List (aD×aD)}{p:List Nat}{i:Nat}{xs:List (Str×V)},TAtF K H τ p i ts xs->TAtF K H τ' (w++p) i ts xs
 |[],_,_,_,h=>by simpa only[TAtF]using h
 |(.str f,t)::ts,p,i,_,h=>by
  simp only[TAtF]at h⊢;let⟨v,vs,b,c,g⟩:=h;exact⟨v,vs,b,by rw[aa6];exact TAt.shift e c,TAtF.shift e g⟩
 |(.none,d)::r,_,_,_,h=>by simp only[TAtF]at h⊢;exact TAtF.shift e h
 |(.bool _,d)::r,_,_,_,h=>by simp only[TAtF]at h
 |(.int _,d)::r,_,_,_,h=>by simp only[TAtF]at h
 |(.list _,d)::r,_,_,_,h=>by simp only[TAtF]at h
 |(.tuple _,d)::r,_,_,_,h=>by simp only[TAtF]at h
 |(.dict _,d)::r,_,_,_,h=>by simp only[TAtF]at h
end
end
def trR:R->Option aD
 | .imm d=>some (lfD d)
 | .new ds=>some (.list (ds.map lfD))
 | .newT t=>some t
 |_=>none
def allA:List (List (List Nat×Addr))->List Addr
 |[]=>[]
 |τ::τs=>τ.map (·.2)++allA τs
theorem RQ{f:Hp}{r:R}{v:V}(h:RelR K α f H r v):∃τ:List (List Nat×Addr),(∀t,trR r=some t->TAt K H τ [] t v)/\(τ.map (·.2)).Nodup/\(∀a∈τ.map (·.2),∃o,H a=some o/\Mu o=true)/\∀a∈τ.map (·.2),f a=none:=by
 cases r with
 |imm d=>exact⟨[],λt e=>(by cases e;exact nR h),abB,λ_ z=>(by simp at z),λ_ z=>(by simp at z)⟩
 |new ds=>
  let⟨a,x,rfl,n,q,g⟩:=h;refine⟨[([],a)],λt e=>?_,by simp,λb z=>?_,λb z=>?_⟩
  .cases e;simp only[TAt];exact⟨a,x,rfl,rfl,q,j5 g⟩
  .simp at z;subst z;exact⟨_,q,rfl⟩
  .simp at z;subst z;exact n
 |newT t=>
  let⟨τ,a,rfl,i,nd,n,⟨l,m,z,g,k,c,j⟩,mu⟩:=h;cases z;rw[i]at c;cases c;subst j;exact⟨τ,λt e=>(by cases e;exact g),nd,mu,n⟩
 |obj _=>exact⟨[],λt e=>(by cases e),abB,λ_ z=>(by simp at z),λ_ z=>(by simp at z)⟩
 | «at» _ _=>exact⟨[],λt e=>(by cases e),abB,λ_ z=>(by simp at z),λ_ z=>(by simp at z)⟩
def kQ(i:Nat):List (List (List Nat×Addr))->List (List Nat×Addr)
 |[]=>[]
 |τ::τs=>τ.map (λq=>(i::q.1,q.2))++kQ (i+1) τs
theorem fQ:∀(i:Nat) (τs:List (List (List Nat×Addr))),(kQ i τs).map (·.2)=allA τs
 |_,[]=>rfl
 |i,τ::τs=>by rw[kQ,aaD,fQ,aa9];rfl
theorem wj{i:Nat}{q:List Nat}:∀τ:List (List Nat×Addr),(τ.map λa=>(i::a.1,a.2)).lookup (i::q)=τ.lookup q
 |[]=>rfl
 |(r,b)::τ=>by
  rw[aao,aa1,aa1,wj τ];have:((i::q)==(i::r))=(q==r):=by simp
  rw[this]
theorem mD{i j:Nat}{q:List Nat}(h:j≠i):∀τ:List (List Nat×Addr),(τ.map λa=>(i::a.1,a.2)).lookup (j::q)=none
 |[]=>rfl
 |(r,b)::τ=>by
  rw[aao,aa1,mD h τ];have:((j::q)==(i::r))=false:=by simp[h]
  rw[this]
theorem x6{β c:Type}[BEq β]{a b:List (β×c)}{k:β}:(a++b).lookup k=(a.lookup k).or (b.lookup k):=by
 induction a with
 |nil=>simp
 |cons x a i=>
  let⟨d,v⟩:=x;rw[ado,aa1,aa1,i]
  split<;>simp
theorem pc:∀{τs:List (List (List Nat×Addr))}{i j:Nat}{τ:List (List Nat×Addr)}{q:List Nat}{a:Addr},τs[j]?=some τ->τ.lookup q=some a->(kQ i τs).lookup ((i+j)::q)=some a
 |[],_,_,_,_,_,e,_=>by simp at e
 |τ0::τs,i,0,τ,q,a,e,h=>by
  simp at e;subst e;rw[kQ,x6,Nat.add_zero,wj,h];rfl
 |τ0::τs,i,j+1,τ,q,a,e,h=>by
  rw[kQ,x6,mD (by omega)];have:=pc (i:=i+1) (j:=j) (τs:=τs) (by simpa using e) h;rw[show i+1+j=i+(j+1) by omega]at this;rw[this];rfl
section
variable {X:Cx}{scope sc:Scope}{own fr:List Str}{ps:List Nat}{elt c o:Expr}{ifs:List Expr}{pos np l s p d e:Pos}{tt:WT}{w f:WE}{g:WI}{x y:Str}{i:Nat}
def vm{a b:Expr}{h j:WE}{pos:Pos}(n:EE X a h)(k:EE X b j)(m:l8 b:=by intro _ _;rfl):EE X (.Subscript a b pos) (wBin vY h j):=⟨O5 n.h k.h m⟩
end
def lC{X:Cx}:MtM X "list.append" (mM X.kx qy):=yL
section
variable {m:MSt}{Q:R->MSt->Prop}{w a:WE}{b:WI}{tt:WT}{own:List Str}{ps:List Nat}
def sU{k:Nat}{p:List Nat}{t d:aD}(e:m.os[k]?=some [t])(g:getT t p=some (.list ts))(f:du ts=some ds)(c:okW t p=true)(i:ds.length<aal)(h:Q (.imm .none) {m with os:=m.os.set k [setT t p (.list ((ds++[d]).map lfD))]}):qy (.at k p) [.imm d] m Q:=⟨t,ts,ds,e,g,f,c,i,h⟩
def uQ{k:Nat}{p:List Nat}{t t':aD}{K:R->Prop}(e:m.os[k]?=some [t])(f:getT t p=some (.list ts))(d:ixN ts.length i=some j)(c:ts[j]?=some t')(h:K (gm k p j t')):vY (.at k p) (.imm (.int i)) m K:=⟨t,ts,j,t',e,f,d,c,h⟩
end
section
variable {X:Cx}{o e g:Expr}{es:List Expr}{w:WE}{f:WA}{b c:Pos}
def Qr(K:Kd)(to:TE)(t:TA):TE:=λl H Q=>to l H λx m=>∃a i,x = .ref a/\IsDc K m a i/\t l m λn j=>∃h k y z,n=[y,z]/\IsDc K j a h/\oneK h k=true/\Den K j k y/\∀v,((∃d,dg k h=some d/\Den K j d v)\/(dg k h=none/\v=z))->Q v j
theorem E9{to:TE}{t:TA}(N:X.A.units+64<cLine)(R:PE X o to)(D:PA X (e::es) t)
  (i:abo o "get" X.env (eval o X.env)=eval o X.env:=by rfl)
  (j:((abj c (aac (e::es) X.env)).all (λx=>!x.1)&&(acR c (abR [] X.env)).all (λx=>x.1.isSome)
   && decide ((e::es).length+([]:List acW).length+(if ([]:List acW).isEmpty then 0 else 1)<30))=true:=by rfl)
  (d:(b.endLine==c.line)=true:=by rfl) (K:aac (e::es) X.env=(false,eval e X.env)::aac es X.env:=by rfl) (l:(abj c (aac es X.env)).any (·.1)=false:=by rfl) :
  PE X (.Call (.Attribute o "get" b) (e::es) [] c) (Qr X.kd to t):=by
 intro p s n H Q I h;refine afG i j d rfl (thn (R p s n H _ I h) λv s1 ⟨x,F,u,r1,q⟩=>?_);let⟨a,B,rfl,dc0,q⟩:=q;cases (r1);let⟨O,M⟩:=u.dcT dc0;refine⟨"dict","dict.get",afu,aea,PySem.F.type_dict_get,O,M,?_⟩;have A:=D c p s1 n F _ u q;rw[K]at A⊢;refine ad2 ‹_› (af5 ?_);refine thn A λY s2 ⟨vs,L,J,r,P⟩=>?_;let⟨E,k,y,z,rfl,dc,ok,T,m⟩:=P
 cases r with
 | cons U r=>
  cases r with
  |cons V r=>
   cases r;exact NR N J dc ok T U V λv Z W G S C=>⟨v,L,G,S,m v C⟩
abbrev Iz(w:WE)(f:WA):WE:=λm K=>w m λr m1=>∃a,dcM m1 a r/\(isKd a=true\/kyA a=true)/\f m1 λrs m2=>∃d k z,rs=[.imm k,.imm z]/\dcM m2 d r/\oneK d k=true/\K (.imm ((dg k d).getD z)) m2
theorem Fy(L:X.A.units+64<cLine)(O:ME X o w)(E:MA X (e::es) f)
  (n:abo o "get" X.env (eval o X.env)=eval o X.env:=by rfl)
  (q:((abj c (aac (e::es) X.env)).all (λx=>!x.1)&&(acR c (abR [] X.env)).all (λx=>x.1.isSome)
   && decide ((e::es).length+([]:List acW).length+(if ([]:List acW).isEmpty then 0 else 1)<30))=true:=by rfl)
  (l:(b.endLine==c.line)=true:=by rfl) (G:aac (e::es) X.env=(false,eval e X.env)::aac es X.env:=by first|exact aI rfl|rfl) (i:(abj c (aac es X.env)).any (·.1)=false:=by rfl) :
  ME X (.Call (.Attribute o "get" b) (e::es) [] c) (Iz w f):=(E9 L O E n q l G i).wk<|by
 intro V H Q ⟨y,m,Z,A,M,t⟩;refine⟨y,m,_,A,M,λr m1 v Y k n1 R rr U=>?_⟩;let⟨p,N,K,k⟩:=k;let⟨a,rfl,dc0⟩:=RelR.dc R rr N K;refine⟨a,p,rfl,dc0,y,m1,_,R,k,λrs m2 vs I k2 n2 s h F=>?_⟩;let⟨j,D,z,rfl,J,ok,k2⟩:=k2;have T:isKd j=true\/kyA j=true:=by
  rcases j8 ok with z|z
  .exact .inl z.1
  .exact .inr z.1
 let⟨W,S,dc⟩:=RelR.dc s (rr.keep A R F) J T;cases S
 cases h with
 | cons B h=>
  cases h with
  |cons P h=>
   cases h;refine⟨j,D,_,_,rfl,dc,ok,B,λv C=>t _ m2 v I k2 (n2.trans n1) s ?_ (U.trans F)⟩;rcases C with⟨d,u,hd⟩|⟨u,rfl⟩
   .rw[u];exact hd
   .rw[u];exact P
def oInD(n:Bool):WO:=λr1 r m K=>jx (λk=>∃a,dcM m a r/\oneK a k=true/\K (.imm (.bool (if n=true then !(dg k a).isSome else(dg k a).isSome)))) r1
theorem K7(t:X.A.units+64<cLine)(n:Bool):OpR X (aa8 (if n=true then .NotIn else .In)) (rM X.kx (oInD n)):=by
 intro p s i H x y v u Q I B D ⟨J,m,E,M,K,r1,F,L,R,A,q,h,d⟩;let⟨k,rfl,C,j,r,ok,h⟩:=fI A h;let⟨a,rfl,dc⟩:=RelR.dc R q r (by
  rcases j8 ok with z|z
  .exact .inl z.1
  .exact .inr z.1)
 cases (D);exact Vy t I dc ok C B n λG l=>⟨.bl _,H,l,rfl,d _ _ H h R (k7 _) (Frm.refl _ _)⟩
def j3(h:X.A.units+64<cLine):OpR X (aa8 .NotIn) (rM X.kx (oInD true)):=K7 h true
theorem tm(j:X.A.units+64<cLine)(l:EE X o w)(m:EA X (e::es) f)
  (d:abo o "get" X.env (eval o X.env)=eval o X.env:=by rfl)
  (i:((abj c (aac (e::es) X.env)).all (λx=>!x.1)&&(acR c (abR [] X.env)).all (λx=>x.1.isSome)
   && decide ((e::es).length+([]:List acW).length+(if ([]:List acW).isEmpty then 0 else 1)<30))=true:=by rfl)
  (a:(b.endLine==c.line)=true:=by rfl) (k:aac (e::es) X.env=(false,eval e X.env)::aac es X.env:=by first|exact aI rfl|rfl) (h:(abj c (aac es X.env)).any (·.1)=false:=by rfl) :
  EE X (.Call (.Attribute o "get" b) (e::es) [] c) (Iz w f):=⟨Fy j l.h m.h d i a k h⟩
end
def onTr(P:aD->Prop)(r:R):Prop:=match trR r with
 |some t=>P t
 |none=>False
end L2
namespace L2
open PySem PySem.Spec PyProof.Rows
open Sem (wp)
variable{H:Hp}{p:List Nat}{t:aD}{kvs:List (aD×aD)}{c qual:Str}{K:aag}{C:Addr}{st:Stmt}{N ps:List Str}{od:Option Addr}{sl:Array (Option Ad)}{mg:Str->Option Ad}{n nN:Nat}{pl:Sem Bool}{ts:List (Str×aD)}{xs:List (Str×V)}{τs:List (List (List Nat×Addr))}{sp:SpI}{ds:List aD}{P:aD->Prop}
def i5(s:Stmt):List Stmt:=match s with
 | .ClassDef _ _ _ b _ _ _ _ _ _ _=>b
 |_=>[]
def fdAt(f:Str):Nat->List (aD×aD)->Option (Nat×aD)
 |_,[]=>none
 |i,(.str g,t)::r=>if decide (g=f)=true then some (i,t)else fdAt f (i+1) r
 |i,(.none,_)::r=>fdAt f (i+1) r
 |i,(.bool _,_)::r=>fdAt f (i+1) r
 |i,(.int _,_)::r=>fdAt f (i+1) r
 |i,(.list _,_)::r=>fdAt f (i+1) r
 |i,(.tuple _,_)::r=>fdAt f (i+1) r
 |i,(.dict _,_)::r=>fdAt f (i+1) r
section
variable {K:Kd}{H:Hp}{τ:List (List Nat×Addr)}{p:List Nat}{f:Str}
theorem TAtF.look:∀{ts:List (aD×aD)}{i j:Nat}{xs:List (Str×V)}{t:aD},TAtF K H τ p i ts xs->fdAt f i ts=some (j,t)->∃v,xs.lookup f=some v/\TAt K H τ (p++[j]) t v
 |[],_,_,_,_,_,e=>by cases e
 | (.str g,t)::ts,i,j,xs,t',h,e=>by
  simp only[TAtF]at h;let⟨v,vs,rfl,m,l⟩:=h;simp only[fdAt]at e
  by_cases c:g=f
  .rw[if_pos (decide_eq_true c)]at e;cases e;subst c;exact⟨v,by simp[aek],m⟩
  .rw[if_neg (by simpa using c)]at e;let⟨b,a,k⟩:=TAtF.look l e;refine⟨b,?_,k⟩;rw[aa1];have:(f==g)=false:=by simp only[beq_eq_false_iff_ne,ne_eq];exact λz=>c z.symm
   rw[this];exact a
 |(.none,d)::r,i,j,xs,t',h,e=>by simp only[TAtF]at h;simp only[fdAt]at e;exact TAtF.look h e
 |(.bool _,d)::r,_,_,_,_,h,_=>by simp only[TAtF]at h
 |(.int _,d)::r,_,_,_,_,h,_=>by simp only[TAtF]at h
 |(.list _,d)::r,_,_,_,_,h,_=>by simp only[TAtF]at h
 |(.tuple _,d)::r,_,_,_,_,h,_=>by simp only[TAtF]at h
 |(.dict _,d)::r,_,_,_,_,h,_=>by simp only[TAtF]at h
theorem TAtF.noF:∀{ts:List (aD×aD)}{i:Nat}{xs:List (Str×V)},TAtF K H τ p i ts xs->fdAt f i ts=none->xs.lookup f=none
 |[],_,_,h,_=>by simp only[TAtF]at h;subst h;rfl
 | (.str g,t)::ts,i,xs,h,e=>by
  simp only[TAtF]at h;let⟨v,vs,rfl,b,a⟩:=h;simp only[fdAt]at e
  by_cases c:g=f
  .rw[if_pos (decide_eq_true c)]at e;cases e
  .rw[if_neg (by simpa using c)]at e;rw[aa1];have:(f==g)=false:=by simp only[beq_eq_false_iff_ne,ne_eq];exact λz=>c z.symm
   rw[this];exact TAtF.noF a e
 |(.none,d)::r,i,xs,h,e=>by simp only[TAtF]at h;simp only[fdAt]at e;exact TAtF.noF h e
 |(.bool _,d)::r,_,_,h,_=>by simp only[TAtF]at h
 |(.int _,d)::r,_,_,h,_=>by simp only[TAtF]at h
 |(.list _,d)::r,_,_,h,_=>by simp only[TAtF]at h
 |(.tuple _,d)::r,_,_,h,_=>by simp only[TAtF]at h
 |(.dict _,d)::r,_,_,h,_=>by simp only[TAtF]at h
end
def Rel.insN{K:Kx}{b:Al}{m:MSt}{f:St}(R:Rel K b m f H){k:Nat}{τ:List (List Nat×Addr)}{a:Addr}(j:b[k]?=some (.T τ))(l:τ.lookup p=some a)(r:m.os[k]?=some [t])(q:getT t p=some (.dict kvs))(s:excC kvs=some c) :
  ∃dx C xs,H a=some (.ins C dx xs)/\ClsN K c C/\TAtF K H τ p 0 kvs xs:=by
 let⟨⟨w,x,z,g,_⟩,_⟩:=R.own k (.T τ) _ j r;cases z;let⟨v,d⟩:=g.get q;rw[abd]at d;let⟨u,dx,C,xs,e,_,o,h,i⟩:=d.ins s;rw[l]at e;cases e;exact⟨dx,C,xs,o,h,i⟩
structure InsF(K:aag)(c f:Str):Prop where
 ex:∃C,aaL K aaA c=some (some (.ref C))/\Cls K C/\NoAttr K C f
def InsF.of{f:Str}(a:aaL K aaA c=some (some (.ref C)))(b1:acQ K C aeG=true)(b2:add K C=true)(b:adY K C=true)(e:abm K (.ref C) "__setattr__" = some (some (.builtin "object.__setattr__")))(d:abm K (.ref C) f=some none):InsF K c f:=⟨C,a,⟨b1,b2,b,e⟩,d⟩
def fGot(m:MSt)(c:Str)(k:Nat)(p:List Nat)(f:Str)(K:R->Prop):Prop:=∃t kvs j a,m.os[k]?=some [t]/\getT t p=some (.dict kvs)/\excC kvs=some c/\fdAt f 0 kvs=some (j,a)/\K (gm k p j a)
abbrev wFld(c f:Str)(w:WE):WE:=λm K=>w m λr m1=>onAt (λk p=>fGot m1 c k p f λr=>K r m1) r
section
variable {X:Cx}{o:Expr}{w:WE}{pos:Pos}{c f:Str}
theorem Tj(C:InsF X.K c f)(E:ME X o w)(h:abo o f X.env (eval o X.env)=eval o X.env:=by rfl):ME X (.Attribute o f pos) (wFld c f w):=(Sj E h).wk<|by
 intro T H Q ⟨i,m,V,x,z,b⟩;refine⟨i,m,_,x,z,λr m1 v s q n1 R rr J=>?_⟩;let⟨k,p,U,a,rfl,e,S,rfl,t,kvs,j,W,A,B,L,M,q⟩:=yC rr q;let⟨dx,d,xs,u,I,g⟩:=R.insN e S A B L;let⟨F,O,cl,y⟩:=C.ex;have G:d=F:=by
  have:=I.symm.trans O;simpa using this
 subst G;let⟨v,D,l⟩:=g.look M;exact⟨a,d,dx,xs,v,rfl,u,cl,y,D,b _ m1 v s q n1 R (j9 R e l) J⟩
theorem cx(C:InsF X.K c f)(a:EE X o w)(h:abo o f X.env (eval o X.env)=eval o X.env:=by rfl):EE X (.Attribute o f pos) (wFld c f w):=⟨Tj C a.h h⟩
end
structure gn(P:aaK)(w:World)(K:aag)(mg:Str->Option Ad)(base:aaT)(c m:Str)(k n:Nat)(sp:SpM):Prop where
 ex:∃(C f:Addr) (fd:abX) (ps:List Str),FnOk P w K mg base CX0 k f fd ps (spOf ⟨K,w⟩ n sp)/\aaL K aaA c=some (some (.ref C))/\Cls K C/\Meth K C m f/\Binds K fd ps []
 ar:∀as Kc,sp as Kc->as.length=n
structure MthD(K:aag)(c m qual:Str)(st:Stmt)(ps:List Str):Prop where
 ex:∃(C f:Addr) (fd:abX),Fun K m qual st f fd/\aaL K aaA c=some (some (.ref C))/\Cls K C/\Meth K C m f/\Binds K fd ps []
def MthD.of{m:Str}{f:Addr}{o kV g pm b ct:Ad}{an:Option Addr}(h:∀(kV g pm:Ad) (an:Option Addr) (b ct:Ad) (us:List Ad),us.length=ps.length->adB (abi m qual (cC st) (bM st) (ab st) .none kV g pm an b ct) ⟨us,[]⟩=pure (ps.zip us))
  (a:aaL K aaA c=some (some (.ref C))) (b1:acQ K C aeG=true) (b2:add K C=true) (i:adY K C=true) (j:abm K (.ref C) "__setattr__" = some (some (.builtin "object.__setattr__")))
  (d:abm K (.ref C) m=some (some (.ref f))) (l:K.lookup f=some ⟨o,od,.func (abi m qual (cC st) (bM st) (ab st) .none kV g pm an b ct),sl⟩) (e:adh K b qual=true) (k:abL K (.ref f)=true) (fn:aeC K (.ref f)=true):MthD K c m qual st ps:=
 ⟨C,f,_,r8 l e k,a,⟨b1,b2,i,j⟩,⟨d,fn,k⟩,(r8 l e k).binds h⟩
theorem jS{P:aaK}{w:World}{base:aaT}{m:Str}{k:Nat}{sp:SpM}(D:MthD K c m qual st ps)(S:ay N ps (ab st))(o:ps.length=n)(x:N.length=nN)(g:n≤nN)(ar:∀as e,sp as e->as.length=n)
  (d:∀(b:Ad) (A:abf) (outer:List Env) (s:Io) (H:Hp) (E:XK) (f:Addr),Room k (A.deeper (ad0 qual (ab st) s.heap.objs.size f b)) ->
   ∃i,ESs (cxOf CX0 P w K mg base N qual (ab st) f b A outer s H E).nox (bM st) i/\∀as e,as.length=n->sp as e->i {nx:=λm=>e (.imm .none) (m.os.take m.np),rt:=λr m=>retK e m r} (e9 nN as)) :
  gn P w K mg base c m (k+1) n sp:=by
 let⟨C,f,fd,F,a,cl,l,q⟩:=D.ex;refine⟨⟨C,f,fd,ps,F.ok S (λvs H Q E h=>by rw[o];exact h.len) (λb A outer s H vs Q E u h=>?_),a,cl,l,q⟩,ar⟩;let⟨i,v,j⟩:=d b A outer s H E f u;exact⟨_,v.h,fn_m (K:=(cxOf CX0 P w K mg base N qual (ab st) f b A outer s H E).nox.kx) rfl h x g j⟩
def insR(m:MSt)(c f:Str)(r:R)(P:Prop):Prop:=∃k kvs,r = .at k []/\m.os[k]?=some [.dict kvs]/\excC kvs=some c/\fdAt f 0 kvs=none/\P
def Su(P:List Ag->List Nat->Prop)(o:Option (List Ag×List Nat)):Prop:=∃a k,o=some (a,k)/\P a k
abbrev C6(c f:Str)(sp:SpM)(d:WE)(w:WA):WE:=λm K=>d m λa m1=>insR m1 c f a (w m1 λrs m2=>Su (λb k=>k.Nodup/\sp b λr o=>K (mapR k r) {m2 with os:=cU m2.os k o}) (i6 m2 (a::rs)))
section
variable {X:Cx}{o a:Expr}{es:List Expr}{w:WE}{d:WA}{pos b:Pos}{c f:Str}{k n:Nat}{sp:SpM}{E:XK}{i:St}{H:Hp}{Q:VK}{C:Addr}
theorem AV(h:tM X.kx (C6 c f sp w d) i H Q)(hC:aaL X.K aaA c=some (some (.ref C)))(hn:∀as G,sp as G->as.length=n):Kj C f (spOf X.kd n sp) [] E (tM X.kx w) (tMA X.kx d) i H Q:=by
 let⟨l,m,G,Y,hw,y⟩:=h;refine⟨l,m,_,Y,hw,λro m1 v H1 q n1 j rr B=>?_⟩;let⟨L,kvs,rfl,e3,e5,e6,q⟩:=q;let⟨U,a,J,M,rfl⟩:=id rr;let⟨dx,C',xs,W,hc,g⟩:=j.insN J M e3 (p:=[]) rfl e5;have ec:C'=C:=by
  have:=hc.symm.trans hC;simpa using this
 subst ec;refine⟨a,dx,xs,rfl,W,g.noF e6,l,m1,_,j,q,λrs m2 vs I q2 n2 R x S=>?_⟩
 .obtain⟨as,ks,e,nd,hsp⟩:=q2;have z:RelRs X.kx l H (I) (.at L []::rs) (.ref a::vs):=.cons (show RelR X.kx l H I (.at L []) (.ref a)from⟨U,a,J,M,rfl⟩) (x.base j B);let⟨Z,ra,D⟩:=h7 R z e;refine⟨as,Z,_,hn _ _ hsp,fc R.nd nd D,by rw[aaY];exact ra,hsp,λr T v H' A O s F=>?_⟩;let⟨u,V⟩:=wg R nd D O F;exact y _ _ v H' A (n2.trans n1) u ((wQ D s).base R (B.trans S)) ((B.trans S).trans V)
theorem Oo(F:gn X.prog X.w X.K X.mg X.base c f k n sp)(r:Room k X.A)(s:ME X o w)(u:MA X (a::es) d)
  (e:aac (a::es) X.env=(false,eval a X.env)::aac es X.env:=by first|exact aI rfl|rfl) (j:(abj pos (aac es X.env)).any (·.1)=false:=by rfl)
  (l:eval (.Call (.Attribute o f b) (a::es) [] pos) X.env=(do
   let ov <- eval o X.env
   acA b.atName
   let (f,first) <- adj [ov] (aed ov f pl)
   af3 pos f first (abj pos (aac (a::es) X.env)) (acR pos (abR [] X.env))):=by rfl):ME X (.Call (.Attribute o f b) (a::es) [] pos) (C6 c f sp w d):=by
 let⟨C,g,fd,ps,G,m,cl,v,q⟩:=F.ex;exact(JX (E:=E0) (pl:=pl) s cl v G r q .nil DW u e j l).wk λ_ _ _ h=>AV h m F.ar
theorem Dj(F:gn X.prog X.w X.K X.mg X.base c f k n sp)(y:Room k X.A)(T:ME X o w)
  (D:eval (.Call (.Attribute o f b) [] [] pos) X.env=(do
   let ov <- eval o X.env
   acA b.atName
   let (f,first) <- adj [ov] (aed ov f pl)
   af3 pos f first (abj pos (aac [] X.env)) (acR pos (abR [] X.env))):=by rfl):ME X (.Call (.Attribute o f b) [] [] pos) (C6 c f sp w wNil):=by
 let⟨C,g,fd,ps,G,L,cl,U,x⟩:=F.ex;refine(Dq (E:=E0) (pl:=pl) T cl U G y x .nil DW D).wk λi H Q h=>?_;let⟨z,m,B,I,O,j⟩:=AV (E:=E0) h L F.ar;refine⟨z,m,B,I,O,λr m1 v u q n1 R rr V=>?_⟩;let⟨a,dx,fs,J,M,S,A,m2,W,s,l,e⟩:=j r m1 v u q n1 R rr V;exact⟨a,dx,fs,J,M,S,e [] m2 [] u l rfl s .nil (Frm.refl _ _)⟩
theorem il(F:gn X.prog X.w X.K X.mg X.base c f k n sp)(j:Room k X.A)(l:EE X o w)(m:EA X (a::es) d)
  (h:aac (a::es) X.env=(false,eval a X.env)::aac es X.env:=by first|exact aI rfl|rfl) (e:(abj pos (aac es X.env)).any (·.1)=false:=by rfl)
  (g:eval (.Call (.Attribute o f b) (a::es) [] pos) X.env=(do
   let ov <- eval o X.env
   acA b.atName
   let (f,first) <- adj [ov] (aed ov f pl)
   af3 pos f first (abj pos (aac (a::es) X.env)) (acR pos (abR [] X.env))):=by rfl):EE X (.Call (.Attribute o f b) (a::es) [] pos) (C6 c f sp w d):=⟨Oo (pl:=pl) F j l.h m.h h e g⟩
def t7(F:gn X.prog X.w X.K X.mg X.base c f k n sp)(e:Room k X.A)(g:EE X o w)
  (h:eval (.Call (.Attribute o f b) [] [] pos) X.env=(do
   let ov <- eval o X.env
   acA b.atName
   let (f,first) <- adj [ov] (aed ov f pl)
   af3 pos f first (abj pos (aac [] X.env)) (acR pos (abR [] X.env))):=by rfl):EE X (.Call (.Attribute o f b) [] [] pos) (C6 c f sp w wNil):=⟨Dj (pl:=pl) F e g.h h⟩
end
inductive FsOk(K:Kd)(H:Hp):List (Str×aD)->List (Str×V)->List (List (List Nat×Addr))->Prop where
 |nil:FsOk K H [] [] []
 |cons {f:Str}{t:aD}{v:V}{τ:List (List Nat×Addr)}{ts:List (Str×aD)}{xs:List (Str×V)}{τs:List (List (List Nat×Addr))}:TAt K H τ [] t v->(∀a∈τ.map (·.2),∃o,H a=some o/\Mu o=true)->FsOk K H ts xs τs->FsOk K H ((f,t)::ts) ((f,v)::xs) (τ::τs)
theorem FsOk.snoc{K:Kd}{H:Hp}{f:Str}{t:aD}{v:V}{τ:List (List Nat×Addr)}(h:TAt K H τ [] t v)(d:∀a∈τ.map (·.2),∃o,H a=some o/\Mu o=true):∀{ts:List (Str×aD)}{xs:List (Str×V)}{τs:List (List (List Nat×Addr))},FsOk K H ts xs τs->FsOk K H (ts++[(f,t)]) (xs++[(f,v)]) (τs++[τ])
 |_,_,_,.nil=>FsOk.cons h d .nil
 |_,_,_,.cons (f:=g) a b c=>FsOk.cons (f:=g) a b (FsOk.snoc h d c)
theorem FsOk.mono{K:Kd}{f:Hp}(g:Pers H f)(h:FsOk K H ts xs τs):(∀a∈allA τs,f a=H a)->FsOk K f ts xs τs:=by
 induction h with
 |nil=>intro _;exact .nil
 |cons a b c i=>
  intro e;exact .cons (TAt.mono g (λx d=>e x (aby _ d)) a) (λx d=>by rw[e x (aby _ d)];exact b x d) (i λx d=>e x (aaH _ d))
theorem FsOk.names{K:Kd}:∀{ts:List (Str×aD)}{xs:List (Str×V)}{τs:List (List (List Nat×Addr))},FsOk K H ts xs τs->xs.map (·.1)=ts.map (·.1)
 |_,_,_,.nil=>rfl
 |_,_,_,.cons _ _ c=>by rw[aao,aao,c.names]
theorem FsOk.mu{K:Kd}:∀{ts:List (Str×aD)}{xs:List (Str×V)}{τs:List (List (List Nat×Addr))},FsOk K H ts xs τs->∀a∈allA τs,∃o,H a=some o/\Mu o=true
 |_,_,_,.nil,a,ha=>by cases ha
 |_,_,_,.cons _ b c,a,ha=>by
  rcases aaG.mp ha with z|z
  .exact b a z
  .exact c.mu a z
theorem md:∀(τs:List (List (List Nat×Addr))) (τ:List (List Nat×Addr)),allA (τs++[τ])=allA τs++τ.map (·.2)
 |[],τ=>by simp[allA]
 |σ::τs,τ=>by rw[ado,allA,allA,md τs,aa6]
def insT(c:Str)(ts:List (Str×aD)):aD:=.dict ((.none,.str c)::ts.map λf=>(.str f.1,f.2))
theorem FsOk.at{K:Kd}{τ':List (List Nat×Addr)}(h:FsOk K H ts xs τs):∀{i:Nat},(∀(j:Nat) (τ:List (List Nat×Addr)) (q:List Nat) (a:Addr),τs[j]?=some τ->τ.lookup q=some a->τ'.lookup ((i+j)::q)=some a)->TAtF K H τ' [] i (ts.map λd=>(.str d.1,d.2)) xs:=by
 induction h with
 |nil=>intro i _;simp only[adp,TAtF]
 | @cons f t v τ ts xs τs a b c ih=>
  intro i l;simp only[aao,TAtF];refine⟨v,xs,rfl,?_,ih λj τ q a g k=>?_⟩
  .have:=TAt.shift (τ':=τ') (w:=[i]) (λq a e=>l 0 τ q a rfl e) a;simpa using this
  .rw[show i+1+j=i+(j+1) by omega];exact l (j+1) τ q a (by simpa using g) k
theorem xy{f:Str}{v:V}:∀{xs:List (Str×V)},f∉xs.map (·.1)->putF f v xs=xs++[(f,v)]
 |[],_=>rfl
 |(g,x)::r,h=>by
  rw[aao,aah,not_or]at h;rw[show putF f v ((g,x)::r)=(if g=f then(g,v)::r else(g,x)::putF f v r)from rfl,if_neg (λz=>h.1 z.symm),xy h.2];rfl
def Ia(K:aag):List (Str×TE)->TS->TS
 |[],w=>w
 |(f,tv)::r,w=>tSeq (sFld K (tVar 0) tv f) (Ia K r w)
def wFs:List (Str×WE)->MSt->(List (Str×aD)->MSt->Prop)->Prop
 |[],m,K=>K [] m
 |(f,we)::r,m,K=>we m λa m1=>onTr (λt=>wFs r m1 λts m2=>K ((f,t)::ts) m2) a
abbrev SpI:=List aD->(aD->Prop)->Prop
def mq(n:Nat)(ds:List aD):MSt:=⟨none::(ds.map λd=>some (.imm d))++aar (n-(ds.length+1)) none,[],0⟩
def NH(c:Str)(nN:Nat)(fs:List (Str×WE))(w:WS)(ds:List aD)(a:aD->Prop):Prop:=
 wFs fs (mq nN ds) λts _=>w {nx:=λm=>∃t,m.os[0]?=some [t]/\a t,rt:=λ_ _=>False} (e9 nN (.tr (insT c ts)::ds.map .imm))
def spIn(K:Kd)(c:Str)(n:Nat)(sp:SpI):Sp:=λvs H Q _=>∃a C dx ds v f,vs = .ref a::v/\ds.length=n/\H a=some (.ins C dx [])/\ClsN K c C/\DenAll K H ds v/\sp ds f/\
 ∀t d e,f t->d.lookup []=some a->(d.map (·.2)).Nodup->(∀b∈d.map (·.2),b=a\/H b=none)->OwnAt K e (.T d) [t]->(∀b o,H b=some o->b≠a->e b=some o)->Q .non e
theorem spIn.len{K:Kd}{vs:List V}{Q:VK}{E:XK}(h:spIn K c n sp vs H Q E):vs.length=n+1:=by
 let⟨a,C,dx,ds,v,d,rfl,b,_,_,hd,_⟩:=h;rw[aaB,<-hd.length,b]
structure EIn(X:Cx)(c:Str)(body:List Stmt)(fs:List (Str×WE))(w:WS):Prop where
 h:PSs X body (Ia X.K (fs.map λfw=>(fw.1,tM X.kx fw.2)) (tMS X.kx w))
 all:∀f∈fs.map (·.1),InsF X.K c f
section
variable {X:Cx}{c f:Str}{b:List Stmt}{fs:List (Str×WE)}{w:WS}{a:WE}{e:Expr}{p d pos:Pos}
def DA(h:ESs X b w):EIn X c b [] w:=⟨h.h,λ_ z=>by cases z⟩
theorem ja(I:InsF X.K c f)(l:EE X e a)(j:EIn X c b fs w)(m:X.N[0]?=some ("self" : Str):=by rfl)(k:Vis X.env.scope "self":=by first|exact afc rfl|exact adv (afc rfl)|exact adv (adv rfl))(o:abx e (some (.Attribute (.Name "self" p) f d)) pos.line X.env=pure false:=by rfl):EIn X c (.Assign [.Attribute (.Name "self" p) f d] e pos::b) ((f,a)::fs) w:=
 ⟨xZ (Uc (Jb (i:=0) m k) l.h o) j.h,λg h=>by
  rcases aah.mp h with rfl|h
  .exact I
  .exact j.all g h⟩
end
theorem Og{K:Kx}{m:MSt}{f:St}{g:Hp}(o:K.eb=⟨0,[],λ_=>none⟩)(h:Pers H g)(R:Rel K [] m f H):Rel K [] m f g:=by
 refine⟨R.nd,R.len,λk s ds z=>by simp at z,R.vlen,λi r z=>?_,R.npl,R.ebl,by rw[o];exact⟨rfl,λ_ _ z=>(by cases z),λ_ _=>.inr rfl,λa l=>(by cases l)⟩⟩;let⟨v,j,b⟩:=R.var i r z;refine⟨v,j,?_⟩
 cases r with
 |imm d=>exact Den.mono h b
 |obj k=>let⟨a,e,_⟩:=b;simp at e
 | «at» k p=>let⟨q,a,e,_⟩:=b;simp at e
 |new ds=>exact b
 |newT t=>exact b
theorem p9{K:Kd}{H:Hp}:∀{ds:List aD}{vs:List V},DenAll K H ds vs->RelAs K H (ds.map .imm) vs []
 |[],_,h=>by simp only[DenAll]at h;subst h;exact .nil
 |d::ds,_,h=>by
  simp only[DenAll]at h;let⟨v,vs,rfl,f,g⟩:=h;exact .imm f (p9 g)
theorem xi:∀ds:List aD,agO (ds.map .imm)=[]
 |[]=>rfl
 |d::ds=>by simp only[aao,agO,xi ds]
theorem QT{X:Cx}{fs:List (Str×WE)}{w:WS}{vs:List V}{Q:VK}{E:XK}(Z:X.kx.eb=⟨0,[],λ_=>none⟩)(hN:N.length=nN)(hle:n+1≤nN)(all:∀f∈fs.map (·.1),InsF X.K c f)(nd:(fs.map (·.1)).Nodup)(h9:fs.length<900)
  (h:spIn X.kd c n sp vs H Q E) (hw:∀ds S,ds.length=n->sp ds S->NH c nN fs w ds S):Ia X.K (fs.map λfw=>(fw.1,tM X.kx fw.2)) (tMS X.kx w) {nx:=λ_ W=>Q .non W,rt:=Q} (start N vs) H:=by
 let⟨a,C,dx,ds,l,S,rfl,hl,G,hc,hd,hsp,fin⟩:=h;have hw0:=hw ds S hl hsp;have hvl:ds.length=l.length:=hd.length;have σ0:(start N (.ref a::l))[0]?=some (some (.ref a)):=rfl;have R0:Rel X.kx [] (mq nN ds) (start N (.ref a::l)) H:=by
  refine⟨abB,rfl,λk ao es z=>by simp at z,?_,λi r z=>?_,aab _,by rw[Z];exact aab _,by rw[Z];exact⟨rfl,λ_ _ z=>(by cases z),λ_ _=>.inr rfl,λa G=>(by cases G)⟩⟩
  .simp[start,mq];omega
  .cases i with
   |zero=>simp[mq]at z
   | succ i=>
    have J:((ds.map λd=>some (R.imm d))++aar (nN-(ds.length+1)) none)[i]?=some (some r):=by simpa[mq]using z
    by_cases hi:i<ds.length
    .rw[aaF (by rw[iO];exact hi),aai]at J
     cases q:ds[i]? with
     |none=>rw[q]at J;cases J
     |some d=>
      rw[q]at J;cases J;let⟨v,ev,gv⟩:=hd.get q;refine⟨v,?_,gv⟩;show(some (V.ref a)::l.map some++aar (N.length-(l.length+1)) none)[i+1]?=_;rw[ado,List.getElem?_cons_succ,aaF (by rw[iO];omega),aai,ev];rfl
    .rw[aaM (by rw[iO];omega),adU]at J
     split at J<;>cases J
 have go:∀(I:List (Str×WE)) (m:MSt) (B:Hp) (done:List (Str×aD)) (xs:List (Str×V)) (τs:List (List (List Nat×Addr))),(∀f∈I.map (·.1),InsF X.K c f)->(done.map (·.1)++I.map (·.1)).Nodup->done.length+I.length<900 ->
   Rel X.kx [] m (start N (.ref a::l)) B->B a=some (.ins C dx xs)->FsOk X.kd B done xs τs->(allA τs).Nodup->(∀b∈allA τs,H b=none)->(∀b o,H b=some o->b≠a->B b=some o) ->
   wFs I m (λts _=>w {nx:=λm=>∃t,m.os[0]?=some [t]/\S t,rt:=λ_ _=>False} (e9 nN (.tr (insT c (done++ts))::ds.map .imm))) ->
   Ia X.K (I.map λfw=>(fw.1,tM X.kx fw.2)) (tMS X.kx w) {nx:=λ_ W=>Q .non W,rt:=Q} (start N (.ref a::l)) B:=by
  intro I
  induction I with
  | nil=>
   intro m B done xs τs _ _ _ Rl A M D fr old hk;have hk':w {nx:=λm=>∃t,m.os[0]?=some [t]/\S t,rt:=λ_ _=>False} (e9 nN (.tr (insT c done)::ds.map .imm)):=by
    have hk2:w {nx:=λm=>∃t,m.os[0]?=some [t]/\S t,rt:=λ_ _=>False} (e9 nN (.tr (insT c (done++[]))::ds.map .imm)):=hk;rwa[aaY]at hk2
   have an:a∉allA τs:=λz=>by have:=fr a z;rw[G]at this;cases this
   have pe:Pers H B:=⟨λb xs e=>old b _ e λz=>(by rw[z,G]at e;cases e),λb o u e=>old b _ e λz=>(by rw[z,G]at e;cases e)⟩;have ow:OwnAt X.kx B (.T (([],a)::kQ 1 τs)) [insT c done]:=by
    refine⟨⟨_,.ref a,rfl,?_,a,rfl,rfl⟩,λb s=>?_⟩
    .unfold insT;simp only[TAt];refine .inr (.inr (.inr ⟨c,a,dx,C,xs,rfl,rfl,rfl,A,hc,?_⟩));simp only[TAtF];refine M.at λj τ q b e1 e2=>?_;rw[aa1];have:(((0+1+j)::q)==([]:List Nat))=false:=rfl;rw[this];exact pc (i:=1) e1 e2
    .rw[aao,fQ]at s;obtain rfl|s:=aah.mp s
     .exact⟨_,A,rfl⟩
     .exact M.mu b s
   have ra:RelAs X.kx B (.tr (insT c done)::ds.map .imm) (.ref a::l) [.T (([],a)::kQ 1 τs)]:=.tr ow rfl (p9 (hd.mono pe));have ndβ:(ads [Ao.T (([],a)::kQ 1 τs)]).Nodup:=by
    have:ads [Ao.T (([],a)::kQ 1 τs)]=a::allA τs:=by simp[ads,Ao.ads,fQ]
    rw[this,aa7];exact⟨an,D⟩
   have agl:(agO (.tr (insT c done)::ds.map .imm)).length=1:=by simp only[agO,xi,aaB,adN]
   have R1:=sI (K:=X.kx) (N:=N) (n:=n+1) hN hle (by simp[hl]) ndβ ra (by rw[Z];exact abh _) (by rw[Z];exact⟨rfl,λ_ _ z=>(by cases z),λ_ _=>.inr rfl,λa G=>(by cases G)⟩);refine⟨_,_,_,R1,hk',⟨λα' m' σ' W q hn R' x=>?_,λr α' m' σ' v W q _ _ _ _=>q.elim,λ_ _ _ _ z=>z.elim,λ_ _ _ _ z=>z.elim⟩⟩;let⟨O,F,_⟩:=qq ra hn R' x;let⟨t,et,kt⟩:=q;have hn1:m'.np=1:=hn.trans agl;refine fin t (([],a)::kQ 1 τs) W kt rfl (by rw[aao,fQ,aa7];exact⟨an,D⟩) (λb s=>?_) (O.at_ 0 _ _ rfl (by rw[hn1,aaO,if_pos (by decide)];exact et)) λb o eb nb=>?_
   .rw[aao,fQ]at s;obtain rfl|s:=aah.mp s
    .exact .inl rfl
    .exact .inr (fr b s)
   .refine F b o (old b o eb nb) λz=>?_;have:ads [Ao.T (([],a)::kQ 1 τs)]=a::allA τs:=by simp[ads,Ao.ads,fQ]
    rw[this]at z;rcases aah.mp z with z|z
    .exact nb z
    .rw[fr b z]at eb;cases eb
  | cons g I ih=>
   let⟨f,we⟩:=g;intro m B done xs τs al T hz Rl A M D fr old hk;refine⟨[],m,_,Rl,hk,λr m1 v H1 q n1 Rl1 rr F1=>?_⟩;unfold onTr at q
   cases et:trR r with
   |none=>rw[et]at q;exact q.elim
   | some t=>
    rw[et]at q;let⟨τ,t1,t2,t3,t4⟩:=RQ rr;have up:∀b o,B b=some o->H1 b=some o:=λb o e=>F1 b o e (by simp[ads]);have hH1:=up a _ A;let⟨C0,hn,cl,na⟩:=(al f (by simp)).ex;have ec:C=C0:=by
     have:=hc.symm.trans hn;simpa using this
    subst ec;have fn:f∉xs.map (·.1):=by
     rw[M.names];intro z;rw[aao,acD]at T;exact T.2.2 f z f aae rfl
    have xl:xs.length=done.length:=by have:=congrArg adg M.names;simpa using this
    refine⟨.ref a,σ0,a,C,dx,xs,rfl,hH1,cl,na,by rw[xl];omega,?_⟩;rw[xy fn];have U:Pers H1 (upd H1 a (.ins C dx (xs++[(f,v)]))):=bt (.inr ⟨_,hH1,rfl⟩);have pec:Pers B H1:=⟨λb xs e=>up b _ e,λb o u e=>up b _ e⟩;have an:a∉allA τs:=λz=>by have:=fr a z;rw[G]at this;cases this
    have L:a∉τ.map (·.2):=λz=>by have:=t4 a z;rw[A]at this;cases this
    have Y:∀b,B b=none->H b=none:=λb q=>by
     cases z:H b with
     |none=>rfl
     |some o=>
      have ne:b≠a:=λy=>by rw[y,A]at q;cases q
      have:=old b o z ne;rw[q]at this;cases this
    refine ih m1 _ (done++[(f,t)]) (xs++[(f,v)]) (τs++[τ]) (λg hg=>al g (aaf _ hg)) ?_ ?_ (Og Z U Rl1) aE ?_ ?_ ?_ ?_ ?_
    .rw[aaD,aa6];exact T
    .rw[aan];simp at hz⊢;omega
    .refine FsOk.snoc (TAt.mono U (λb s=>aB (λ(z:b=a)=>L (z▸s))) (t1 t et)) (λb s=>by rw[aB (λ(z:b=a)=>L (z▸s))];exact t3 b s) ?_;refine FsOk.mono (pec.trans U) M (λb s=>?_);rw[aB (λ(z:b=a)=>an (z▸s))];let⟨o,q,_⟩:=M.mu b s;rw[q];exact up b o q
    .rw[md,acD];refine⟨D,t2,λb s b' hb' z=>?_⟩;subst z;let⟨o,q,_⟩:=M.mu b s;rw[t4 b hb']at q;cases q
    .intro b s;rw[md]at s;rcases aaG.mp s with z|z
     .exact fr b z
     .exact Y b (t4 b z)
    .intro b o eb nb;rw[aB nb];exact up b o (old b o eb nb)
    .have:=q;simp only[aa6,ado,abd]at this⊢;exact this
 exact go fs (mq nN ds) H [] [] [] all (by simpa using nd) (by simpa using h9) R0 G .nil abB (λ_ z=>by cases z) (λ_ _ e _=>e) hw0
structure Bq(P:aaK)(w:World)(K:aag)(mg:Str->Option Ad)(base:aaT)(c:Str)(k n:Nat)(sp:SpI):Prop where
 ex:∃(C f:Addr) (fd:abX) (ps:List Str),Mk K C f/\FnOk P w K mg base CX0 k f fd ps (spIn ⟨K,w⟩ c n sp)/\aaL K aaA c=some (some (.ref C))/\mg c=some (.ref C)/\Binds K fd ps []
 ar:∀ds Kc,sp ds Kc->ds.length=n
structure IniD(K:aag)(mg:Str->Option Ad)(c qual:Str)(st:Stmt)(ps:List Str):Prop where
 ex:∃(C f:Addr) (fd:abX),Fun K "__init__" qual st f fd/\Mk K C f/\aaL K aaA c=some (some (.ref C))/\mg c=some (.ref C)/\Binds K fd ps []
structure IniDK(K:aag)(c qual:Str)(st:Stmt)(ps:List Str):Prop where
 ex:∃(C f:Addr) (fd:abX),Fun K "__init__" qual st f fd/\Mk K C f/\aaL K aaA c=some (some (.ref C))/\Binds K fd ps []
def IniDK.of{f:Addr}{o kV g pm b ct:Ad}{an:Option Addr}(i:∀(kV g pm:Ad) (an:Option Addr) (b ct:Ad) (us:List Ad),us.length=ps.length->adB (abi "__init__" qual (cC st) (bM st) (ab st) .none kV g pm an b ct) ⟨us,[]⟩=pure (ps.zip us))
  (a:aaL K aaA c=some (some (.ref C))) (d:abm K (.ref C) "__init__" = some (some (.ref f))) (l:K.lookup f=some ⟨o,od,.func (abi "__init__" qual (cC st) (bM st) (ab st) .none kV g pm an b ct),sl⟩) (e:adh K b qual=true) (k:abL K (.ref f)=true) (fn:aeC K (.ref f)=true) (m:afQ K C=true) (h:abL K (.ref C)=true):IniDK K c qual st ps:=
 ⟨C,f,_,r8 l e k,⟨m,d,fn,h⟩,a,(r8 l e k).binds i⟩
theorem IniDK.m{h:aaT}(D:IniDK K c qual st ps)(X:K.In h)(G:h.Ns aaA mg):IniD K mg c qual st ps:=by
 let⟨C,f,fd,F,M,a,b⟩:=D.ex;exact⟨C,f,fd,F,M,a,agq X G a,b⟩
theorem Lr{P:aaK}{w:World}{base:aaT}{k:Nat}(D:IniD K mg c qual st ps)(S:ay N ps (ab st))(u:ps.length=n+1)(v:N.length=nN)(g:n+1≤nN)(ar:∀ds e,sp ds e->ds.length=n)
  (d:∀(b:Ad) (A:abf) (outer:List Env) (s:Io) (H:Hp) (E:XK) (f:Addr),Room k (A.deeper (ad0 qual (ab st) s.heap.objs.size f b)) ->
   ∃fs i,EIn (cxOf CX0 P w K mg base N qual (ab st) f b A outer s H E).nox c (bM st) fs i/\(decide (fs.map (·.1)).Nodup=true/\fs.length<900)/\∀ds e,ds.length=n->sp ds e->NH c nN fs i ds e) :
  Bq P w K mg base c (k+1) n sp:=by
 let⟨C,f,fd,F,M,a,m,q⟩:=D.ex;refine⟨⟨C,f,fd,ps,M,F.ok S (λvs H Q E h=>by rw[u];exact h.len) (λb A outer s H vs Q E r h=>?_),a,m,q⟩,ar⟩;let⟨fs,i,j,l,o⟩:=d b A outer s H E f r;exact⟨_,j.h,QT (X:=(cxOf CX0 P w K mg base N qual (ab st) f b A outer s H E).nox) rfl v g j.all (of_decide_eq_true l.1) l.2 h o⟩
def mI:List R->Option (List aD)
 |[]=>some []
 | .imm d::rs=>(mI rs).map (d :: ·)
 |_::_=>none
def xH(P:List aD->Prop)(rs:List R):Prop:=match mI rs with
 |some ds=>P ds
 |none=>False
abbrev Jx(sp:SpI)(w:WA):WE:=λm K=>w m λrs m1=>xH (λds=>sp ds λt=>K (.newT t) m1) rs
theorem vO{K:Kd}{f:Al}{b H:Hp}:∀{rs:List R}{vs:List V}{ds:List aD},RelRs K f b H rs vs->mI rs=some ds->DenAll K H ds vs
 |_,_,ds,.nil,e=>by cases e;exact DenAll.nil
 | _,_,ds,.cons (r:=.imm d) (rs:=rs) h t,e=>by
  simp only[mI]at e
  cases q:mI rs with
  |none=>rw[q]at e;cases e
  |some a=>
   rw[q]at e;cases e;exact DenAll.cons h (vO t q)
 |_,_,_,.cons (r:=.obj _) _ _,e=>by cases e
 |_,_,_,.cons (r:=.at _ _) _ _,e=>by cases e
 |_,_,_,.cons (r:=.new _) _ _,e=>by cases e
 |_,_,_,.cons (r:=.newT _) _ _,e=>by cases e
section
variable {X:Cx}{a:Expr}{es:List Expr}{w:WA}{p pos:Pos}{c:Str}{k n:Nat}{sp:SpI}{E:XK}{d:St}{H:Hp}{Q:VK}{C:Addr}
theorem NG(h:tM X.kx (Jx sp w) d H Q)(S:aaL X.K aaA c=some (some (.ref C)))(Z:∀ds F,sp ds F->ds.length=n):Qg C (spIn X.kd c n sp) [] E (tMA X.kx w) d H Q:=by
 let⟨l,m,F,O,U,B⟩:=h;refine⟨l,m,_,O,U,λrs m1 vs g q n1 R rr G x dx s v ne=>?_⟩;unfold xH at q
 cases e:mI rs with
 |none=>rw[e]at q;exact q.elim
 | some ds=>
  rw[e]at q;have hd:=vO rr e;have up:∀b o,g b=some o->(upd (upd g dx (.own x)) x (.ins C dx [])) b=some o:=λb o eb=>by
   have b1:b≠x:=λz=>by rw[z,s]at eb;cases eb
   have b2:b≠dx:=λz=>by rw[z,v]at eb;cases eb
   rw[aB b1,aB b2];exact eb
  have f:∀b,g b=none->H b=none:=λb q=>by
   cases z:H b with
   |none=>rfl
   |some o=>
    by_cases j:b∈ads l
    .obtain⟨o,q2,_⟩:=R.mem j;rw[q]at q2;cases q2
    .have:=G b o z j;rw[q]at this;cases this
  have A:Pers g (upd (upd g dx (.own x)) x (.ins C dx [])):=⟨λb xs e=>up b _ e,λb o u e=>up b _ e⟩;refine⟨x,C,dx,ds,vs,_,by rw[aaY],Z _ _ q,aE,S,hd.mono A,q,λt J r L M T V W Y=>⟨rfl,?_⟩⟩;have i:∀b o,g b=some o->r b=some o:=λb o eb=>Y b o (up b o eb) λz=>by rw[z,s]at eb;cases eb
  have I:Frm l g r:=λb o eb _=>i b o eb;have D:Rel X.kx l m1 d r:=R.at (Fe i) (λb j=>by let⟨o,q,_⟩:=R.mem j;rw[q];exact i b o q) I;refine B _ m1 (.ref x) r L n1 D ⟨J,x,rfl,M,T,λb j=>?_,W⟩ (G.trans I);rcases V b j with rfl|z
  .exact f _ s
  .refine f b ?_
   cases y:g b with
   |none=>rfl
   |some o=>rw[up b o y]at z;cases z
theorem LC(F:Bq X.prog X.w X.K X.mg X.base c k n sp)(j:Room (k+1) X.A)(l:MA X (a::es) w)(g:Gl X c:=by rfl)(e:(c==("__debug__" : Str))=false:=by decide)(m:aac (a::es) X.env=(false,eval a X.env)::aac es X.env:=by first|exact aI rfl|rfl)(b:(abj pos (aac es X.env)).any (·.1)=false:=by rfl):ME X (.Call (.Name c p) (a::es) [] pos) (Jx sp w):=by
 let⟨C,f,fd,ps,M,G,o,q,i⟩:=F.ex;exact(LW (E:=E0) M G j g q i .nil DW l e m b).wk λ_ _ _ h=>NG h o F.ar
theorem DH(F:Bq X.prog X.w X.K X.mg X.base c k n sp)(g:Room (k+1) X.A)(i:EA X (a::es) w)(f:Gl X c:=by rfl)(h:(c==("__debug__" : Str))=false:=by decide)(e:aac (a::es) X.env=(false,eval a X.env)::aac es X.env:=by first|exact aI rfl|rfl)(b:(abj pos (aac es X.env)).any (·.1)=false:=by rfl):EE X (.Call (.Name c p) (a::es) [] pos) (Jx sp w):=⟨LC F g i.h f h e b⟩
end
section
variable {m:MSt}{Q:R->MSt->Prop}{a:WE}{b:WA}{c f:Str}{sp:SpM}{s:SpI}
def Pf{k j:Nat}{t' d:aD}{K:R->Prop}(e:m.os[k]?=some [t])(o:getT t p=some (.dict kvs))(i:excC kvs=some c)(g:fdAt f 0 kvs=some (j,t'))(l:iY t'=some d)(h:K (.imm d)):fGot m c k p f K:=⟨t,kvs,j,t',e,o,i,g,by unfold gm;rw[l];exact h⟩
def vv{k j:Nat}{t':aD}{K:R->Prop}(e:m.os[k]?=some [t])(l:getT t p=some (.dict kvs))(g:excC kvs=some c)(d:fdAt f 0 kvs=some (j,t'))(i:iY t'=none)(h:K (.at k (p++[j]))):fGot m c k p f K:=⟨t,kvs,j,t',e,l,g,d,by unfold gm;rw[i];exact h⟩
def y8{p:List Ag->List Nat->Prop}{as:List Ag}{ks:List Nat}{o:Option (List Ag×List Nat)}(e:o=some (as,ks))(nd:ks.Nodup)(h:p as ks):Su (λas ks=>ks.Nodup/\p as ks) o:=⟨as,ks,e,nd,h⟩
def QX{k:Nat}{P:Prop}(e:m.os[k]?=some [.dict kvs])(g:excC kvs=some c)(d:fdAt f 0 kvs=none)(h:P):insR m c f (.at k []) P:=⟨k,kvs,rfl,e,g,d,h⟩
def Fg{P:List aD->Prop}{rs:List R}(e:mI rs=some ds)(h:P ds):xH P rs:=by unfold xH;rw[e];exact h
def Ou{fs:List (Str×WE)}{w:WS}{d:aD->Prop}(g:MSt)(e:g=mq nN ds)(h:wFs fs g λts _=>w {nx:=λm=>∃t,m.os[0]?=some [t]/\d t,rt:=λ_ _=>False} (e9 nN (.tr (insT c ts)::ds.map .imm))):NH c nN fs w ds d:=by subst e;exact h
def VH{r:List (Str×WE)}{w:WE}{K:List (Str×aD)->MSt->Prop}(h:w m λd m1=>onTr (λt=>wFs r m1 λts m2=>K ((f,t)::ts) m2) d):wFs ((f,w)::r) m K:=h
def Vz{K:List (Str×aD)->MSt->Prop}(h:K [] m):wFs [] m K:=h
def VN{d:aD}(h:P (lfD d)):onTr P (.imm d):=h
def UW(h:P (.list (ds.map lfD))):onTr P (.new ds):=h
def UY(h:P t):onTr P (.newT t):=h
end
def UV(K:Kd)(to ti:TE):TE:=λe H Q=>to e H λx f=>ti e f λy b=>∃a kvs k d,x = .ref a/\IsDc K b a kvs/\oneK kvs k=true/\Den K b k y/\dg k kvs=some d/\∀v,Den K b d v->Q v b
section
variable {X:Cx}{o i:Expr}{w b:WE}{pos:Pos}{to ti:TE}
theorem MQ(D:X.A.units+64<cLine)(F:PE X o to)(j:PE X i ti)(z:NoSl i):PE X (.Subscript o i pos) (UV X.kd to ti):=by
 intro e s f H Q I h;refine Ah aeZ.lookup z (thn (F e s f H _ I h) λu s1 ⟨x,m,l,J,r⟩=>thn (j e s1 f m _ l r) λR s2 ⟨y,A,g,M,a,kvs,k,d,ex,dc,ok,L,B,E⟩=>?_);subst ex;obtain rfl:u=abg a:=J;exact⟨(g.dcT dc).1,ym D g dc ok L M B λv S O q G hd=>⟨v,A,q,G,E v hd⟩⟩
abbrev T6(w b:WE):WE:=λm K=>w m λa m1=>b m1 λr m2=>jx (λk=>∃kvs d,dcM m2 kvs a/\oneK kvs k=true/\dg k kvs=some d/\K (.imm d) m2) r
theorem J6(y:X.A.units+64<cLine)(B:ME X o w)(q:ME X i b)(s:NoSl i:=by intro _ _;rfl):ME X (.Subscript o i pos) (T6 w b):=(MQ y B q s).wk<|by
 intro G H Q ⟨h,m,O,j,A,g⟩;refine⟨h,m,_,j,A,λJ m1 I M k1 n1 R f E=>⟨h,m1,_,R,k1,λS m2 L u k2 n2 e r F=>?_⟩⟩;let⟨k,rfl,D,kvs,d,x,ok,l,k2⟩:=fI r k2;let⟨a,rfl,dc⟩:=RelR.dc e (f.keep j R F) x (by
  rcases j8 ok with z|z
  .exact .inl z.1
  .exact .inr z.1)
 exact⟨a,kvs,k,d,rfl,dc,ok,D,l,λv hd=>g _ m2 v u k2 (n2.trans n1) e hd (E.trans F)⟩
theorem qK(e:X.A.units+64<cLine)(d:EE X o w)(h:EE X i b)(a:NoSl i:=by intro _ _;rfl):EE X (.Subscript o i pos) (T6 w b):=⟨J6 e d.h h.h a⟩
end
end L2
set_option maxHeartbeats 1100000
namespace L2
open PySem PySem.Spec PyProof.Rows
open Sem (wp)
variable{Q:Option Ad->Io->Prop}{kvs:List (aD×aD)}{w:WS}
structure EntAt(h:aaT)(d:Addr)(es:Array ab0)(ep:Nat):Prop where
 ex:∃o,h.get? d=some o/\o.ExactDict/\o.data = .dict es ep
section
variable {prog:aaK}{w:World}{A:abf}{E:Ad->Io->Prop}{s:Io}{f d:Addr}{es:Array ab0}{i l:Nat}{ok p:Ad}
def uh{Q:String->Io->Prop}(a:s.TypeIs (.ref f) "dict_itemiterator")(h:Q "dict_itemiterator" s):wpAny (model prog w) A (typeNameOfWhole (.ref f)) Q E s:=wpAny_typeNameOfWhole_itemiter a h
def yr{j n:Nat}{k v:Ad}{Q:Ad->Io->Prop}(a:ac1 s.heap f d j n l ok p)
  (H:∀h',afk h' f d j n l k v s.heap.objs.size->h'.get? s.heap.objs.size=some {cls:=.type "tuple",data:=.seq #[k,v]}->h'.objs.size=s.heap.objs.size+1 ->
   (∀b o,b≠f->s.heap.get? b=some o->h'.get? b=some o)->Q (.ref s.heap.objs.size) {s with heap:=h' }):wpAny (model prog w) A (abZ (.ref f) 6 k v) Q E s:=by
 have lt:f<s.heap.objs.size:=aaq a;rcases s with⟨h,g,P,I,os⟩;refine gT (m:=newTuple [k,v]) (af8 ?_);have B:(h.push {cls:=.type "tuple",data:=.seq #[k,v]}).objs.size=h.objs.size+1:=abz ..;have C:(h.push {cls:=.type "tuple",data:=.seq #[k,v]}).get? h.objs.size=some {cls:=.type "tuple",data:=.seq #[k,v]}:=aap _ rfl;have y:∀b o,h.get? b=some o->(h.push {cls:=.type "tuple",data:=.seq #[k,v]}).get? b=some o:=λb o q=>LD _ q;have c:ac1 (h.push {cls:=.type "tuple",data:=.seq #[k,v]}) f d j n l ok p:=y _ _ a;show wpAny _ _ (abN (.ref f) >>= _) _ _ ⟨h.push {cls:=.type "tuple",data:=.seq #[k,v]},g,P,I,os⟩;generalize h.push {cls:=.type "tuple",data:=.seq #[k,v]}=F at B C y c;refine gT (m:=abN (.ref f)) ?_;refine gT (m:=field (.ref f) 0) (abA c rfl (x:=.none) rfl (Ld ?_));refine gT (m:=field (.ref f) 6) (abA c rfl (x:=ok) rfl (gT (m:=field (.ref f) 7) (abA c rfl (x:=p) rfl ?_)));refine gT (m:=adG (.ref f) 6 k) (aaV c (by simp) λN L s1=>?_);have u:ac1 N f d j n l k p:=L;refine gT (m:=adG (.ref f) 7 v) (aaV u (by simp) λO J s2=>?_);have t:ac1 O f d j n l k v:=J;refine gT (m:=adG (.ref f) 0 (aeR h.objs.size)) (aaV t (by simp) λR M D=>?_);have r:afk R f d j n l k v h.objs.size:=M;refine gT (m:=adG (.ref f) 1 (.bool false)) (aaV r (by simp) λe S G=>?_);have z:afk e f d j n l k v h.objs.size:=S;have up:∀b o,b≠f->F.get? b=some o->e.get? b=some o:=λb o nb q=>G.extBut b o nb (D.extBut b o nb (s2.extBut b o nb (s1.extBut b o nb q)));have K:e.objs.size=F.objs.size:=by rw[G.1,D.1,s2.1,s1.1]
 exact gT (m:=letGo _ _) (ae6 (Ld (H e z (up _ _ (abt lt) C) (K.trans B) λb o nb q=>up b o nb (y b o q))))
def CF(h:ac1 s.heap f d i es.size l ok p)(B:EntAt s.heap d es l)(y:i<es.size)
  (x:∀h',afk h' f d (i+1) es.size l es[i].key es[i].val s.heap.objs.size->h'.get? s.heap.objs.size=some {cls:=.type "tuple",data:=.seq #[es[i].key,es[i].val]}->h'.objs.size=s.heap.objs.size+1 ->
   (∀b o,b≠f->s.heap.get? b=some o->h'.get? b=some o)->Q (some (.ref s.heap.objs.size)) {s with heap:=h' }):wpAny (model prog w) A (acP (.ref f)) Q E s:=by
 let⟨I,c,H,j⟩:=B.ex;have a:s.TypeIs (.ref f) "dict_itemiterator":=(⟨_,h,rfl⟩);have own:abP "dict_itemiterator" = true:=by decide
 unfold acP;refine gT (adH (aaZ (name:=ab8 "__next__") a aa5 (abb aa5 a ab7 ?_ (ab3 _))))
 wp_walk using uh a,aeT h rfl,acF c j,adO c j,aba a
 have G:(if (i:Int)<0 then none else es[((i:Nat):Int).toNat]?)=some es[i]:=by
  rw[if_neg (by omega),aaN,ab4 y]
 rw[G];rcases s with⟨n,g,r,t,os⟩;refine gT ?_;refine gT (uh a (Ld ?_));refine gT (m:=aeU _ _) (aba a ?_);show wpAny _ _ (adG (.ref f) 3 (aeR ((i:Int)+1)) >>= _) _ _ _;refine gT (aaV h (by simp) λe D s1=>?_);replace s1:abW f n e:=s1;have k:ac1 e f d (i+1) es.size l ok p:=by
  have q:((i+1:Nat):Int)=(i:Int)+1:=rfl;unfold ac1;rw[q];simpa[aeR]using D
 have T:afl ⟨e,g,r,t,os⟩ (.ref f) "dict_itemiterator":=(⟨_,k,rfl⟩);refine gT (abU (gT (aba T (gT (aba T ?_)))));show wpAny _ _ (abZ (.ref f) 6 es[i].key es[i].val) _ _ ⟨e,g,r,t,os⟩;have F:e.objs.size=n.objs.size:=s1.1;refine yr k λC v u z k2=>?_;rw[F]at v u z⊢;exact Ld ⟨_,rfl,Ld (x C v u z λb o nb q=>k2 b o nb (s1.extBut b o nb q))⟩
def Cu(r:A.handled=none)(h:ac1 s.heap f d i es.size l ok p)(v:EntAt s.heap d es l)(k:es.size≤i)
  (j:∀h',(∀b o,b≠f->s.heap.get? b=some o->h'.get? b=some o)->Q none {s with heap:=h' }):wpAny (model prog w) A (acP (.ref f)) Q E s:=by
 let⟨D,a,x,c⟩:=v.ex;have g:s.TypeIs (.ref f) "dict_itemiterator":=(⟨_,h,rfl⟩);have own:abP "dict_itemiterator" = true:=by decide
 unfold acP;refine gT (adH (aaZ (name:=ab8 "__next__") g aa5 (abb aa5 g ab7 ?_ (ab3 _))))
 wp_walk using uh g,aeT h rfl,acF a c,adO a c,aba g
 have n:(if (i:Int)<0 then none else es[((i:Nat):Int).toNat]?)=none:=by
  rw[if_neg (by omega),aaN,afL k]
 rw[n];refine gT (gT (uh g (Ld ?_)));refine gT (m:=adG (.ref f) 2 .none) (aaV h (by simp) λC B s1=>?_);refine rq r λz e k2 ⟨u,y,t⟩=>?_;exact gT (adm (T:= "StopIteration") (b:=true) ⟨u,y,t⟩ af9 (Ld (j z λb o nb q=>k2 b o (s1.extBut b o nb q))))
def EntAt.keep{h h':aaT}(x:EntAt h d es l)(k:∀o,h.get? d=some o->h'.get? d=some o):EntAt h' d es l:=let ⟨o,a,b,c⟩:=x.ex;⟨o,k o a,b,c⟩
def EntAt.ty(x:EntAt s.heap d es l):s.TypeIs (.ref d) "dict":=let ⟨o,a,b,_⟩:=x.ex;⟨o,a,b.1⟩
def yi{Q:Ad->Io->Prop}(hd:(d==abr)=false)(a:EntAt s.heap d es l)(h:Q (.ref s.heap.objs.size) {s with heap:=s.heap.push {cls:=.type "dict_items",data:=.fields #[.ref d]} }):wpAny (model prog w) A (call (.builtin "dict.items") [.ref d]) Q E s:=by
 refine agP (S:=λ_ R s=>EntAt s.heap d es l/\R (.ok (.ret (.ref s.heap.objs.size))) {s with heap:=s.heap.push {cls:=.type "dict_items",data:=.fields #[.ref d]} }) afv a.ty PySem.F.entry_dict_items (PySem.F.args_dict_items_1 _) (.of_wp λA R s ⟨b,h⟩=>?_) ⟨a,h⟩;refine gT (gT (af1 b.ty ?_));refine Ld ?_;refine gT ?_;unfold acB.Dict.showsAll;rw[hd];exact Ld (gT (abc (Ld ⟨_,rfl,h⟩)))
end
section
variable {X:Cx}{p:List (Addr×Obj)}{a:St}{H:Hp}{s:Io}
def JI{P:aaK}{w:World}{kk:Key}{u:Ad}(e:(cy P w).is kk u=true):RelV (kV kk) u:=by
 rcases b8 e with⟨i,t,rfl,rfl⟩|⟨x,t,rfl,rfl⟩
 .exact⟨t,rfl⟩
 .exact⟨t,rfl⟩
end
theorem Paired.at{a β:Type}{R:a->β->Prop}:∀{xs:List a}{ys:List β}{i:Nat}{y:β},abK R xs ys->ys[i]?=some y->∃x,xs[i]?=some x/\R x y
 |_,_,i,y,.nil,e=>by simp at e
 |_,_,0,y,.cons h _,e=>by simp at e;subst e;exact⟨_,rfl,h⟩
 |_,_,i+1,y,.cons _ t,e=>by
  let⟨x,b,c⟩:=Paired.at t ‹_›;exact⟨x,by simpa using b,c⟩
theorem Ae{K:Kd}{H:Hp}:∀{kvs:List (aD×aD)}{xs:List (Int×V×V)},DenKV K H kvs xs->abK (λ(p:aD×aD) (e:V×V)=>Den K H p.1 e.1/\Den K H p.2 e.2) kvs (xs.map (·.2))
 |[],_,h=>by simp[DenKV]at h;subst h;exact .nil
 |_::r,_,h=>by
  let⟨u,v,vs,rfl,a,c,b⟩:=h;exact .cons ⟨a,c⟩ (Ae b)
theorem Aa{K:Kd}{H:Hp}:∀{kvs:List (aD×aD)}{xs:List (Key×V)},DenKK K H kvs xs->abK (λ(p:aD×aD) (e:V×V)=>Den K H p.1 e.1/\Den K H p.2 e.2) kvs (xs.map λp=>(kV p.1,p.2))
 |[],_,h=>by simp[DenKK]at h;subst h;exact .nil
 |(k,d)::r,_,h=>by
  let⟨a,v,vs,rfl,⟨rfl,_⟩,c,b⟩:=h;refine .cons ⟨?_,c⟩ (Aa b)
  cases a with
  |inl i=>exact Am i
  |inr x=>exact J5 x
abbrev PDc(K:Kd)(H:Hp):List (aD×aD)->List (V×V)->Prop:=abK λp e=>Den K H p.1 e.1/\Den K H p.2 e.2
def gI(kvs:List (aD×aD)):List aD:=kvs.map λp=>.tuple [p.1,p.2]
theorem Paired.at1{a β:Type}{R:a->β->Prop}:∀{xs:List a}{ys:List β}{i:Nat}{x:a},abK R xs ys->xs[i]?=some x->∃y,ys[i]?=some y/\R x y
 |_,_,i,y,.nil,e=>by simp at e
 |_,_,0,y,.cons h _,e=>by simp at e;subst e;exact⟨_,rfl,h⟩
 |_,_,i+1,y,.cons _ t,e=>by
  let⟨x,b,c⟩:=Paired.at1 t ‹_›;exact⟨x,by simpa using b,c⟩
noncomputable def putX (k:aD) (b:Addr) (r:Ad):List (aD×Addr×Ad)->List (aD×Addr×Ad)
 |[]=>[(k,b,r)]
 |x::xs=>if x.1=k then(x.1,x.2.1,r)::xs else x::putX k b r xs
theorem wM{k:aD}{r:Ad}:∀{xs:List (aD×Addr×Ad)},k∉xs.map (·.1)->xs.map (putAt k r)=xs
 |[],_=>rfl
 |x::xs,h=>by
  rw[aao,aah,not_or]at h;rw[aao,wM h.2];unfold putAt;rw[if_neg (λz=>h.1 z.symm)]
theorem l9{k:aD}{b:Addr}{r:Ad}:∀{xs:List (aD×Addr×Ad)},(xs.map (·.1)).Nodup->storedH xs k b r=putX k b r xs
 |[],_=>rfl
 | x::xs,h=>by
  rw[aao,aa7]at h
  by_cases e:x.1=k
  .have a:atKey (x::xs) k=some x.2:=by simp[atKey,e]
   rw[storedH_old a,aao,wM (by rw[<-e];exact h.1)];unfold putX putAt;rw[if_pos e,if_pos e]
  .have a:atKey (x::xs) k=atKey xs k:=by simp[atKey,e]
   have i:=l9 (k:=k) (b:=b) (r:=r) h.2;unfold putX;rw[if_neg e,<-i];unfold storedH;rw[a];split
   .rw[aao];unfold putAt;rw[if_neg e]
   .rfl
noncomputable def putE (w:World) (k:aD) (y v:V):List (aD×aD)->List (Int×V×V)->List (Int×V×V)
 |(k',_)::r,e::es=>if k'=k then(e.1,e.2.1,v)::es else e::putE w k y v r es
 |_,_=>[(fC w k,y,v)]
def BP{k d k' d':aD}{r:List (aD×aD)}(h:kyD k'=true)(a:kyD k=true):putP k d ((k',d')::r)=if k'=k then(k',d)::r else(k',d')::putP k d r:=by
 show(if aad k' k=true then _ else _)=_;rw[tz _ _ (o6 h) (o6 a)];simp
theorem vX(w:World)(k:aD)(y v:V):∀(kvs:List (aD×aD)) (es:List (Int×V×V)),kvs.length=es.length->(putE w k y v kvs es).length≤es.length+1
 |[],[],_=>aab _
 |_::r,e::es,h=>by
  unfold putE;split
  .simp
  .rw[aaB,aaB];have:=vX w k y v r es (by simpa using h);omega
 |[],_::_,h=>by simp at h
 |_::_,[],h=>by simp at h
theorem xj{K:Kd}{H:Hp}{k d:aD}{y v:V}(h:kyD k=true)(dk:Den K H k y)(a:Den K H d v):∀{kvs:List (aD×aD)}{es:List (Int×V×V)},kyA kvs=true->DenKV K H kvs es->DenKV K H (putP k d kvs) (putE K.w k y v kvs es)
 |[],es,_,g=>by
  subst g;show DenKV K H [(k,d)] [(fC K.w k,y,v)];simp only[DenKV];exact⟨y,v,[],rfl,dk,a,rfl⟩
 |(k',d')::r,es,ha,g=>by
  rw[kyA,abV,aaR]at ha;let⟨u,i,vs,rfl,b,f,c⟩:=g;rw[BP ha.1 h];unfold putE
  by_cases e:k'=k
  .rw[if_pos e,if_pos e];simp only[DenKV];exact⟨u,v,vs,rfl,b,a,c⟩
  .rw[if_neg e,if_neg e];simp only[DenKV];exact⟨u,i,_,rfl,b,f,xj h dk a ha.2 c⟩
theorem Mh{w:World}{k:aD}{b:Addr}{v:V}{r:Ad}(d:RelV v r):∀{kvs:List (aD×aD)}{es:List (Int×V×V)}{xs:List (aD×Addr×Ad)},xs.map (·.1)=kvs.map (·.1)->ExV w es xs->ExV w (putE w k (.ref b) v kvs es) (putX k b r xs):=by
 intro kvs
 induction kvs with
 |nil=>
  intro es xs a ex;have:=by simpa using a
  subst this;exact .cons ⟨rfl,rfl,d⟩ .nil
 | cons q kvs i=>
  intro es xs a ex;let⟨e,f⟩:=q
  cases ex with
  |nil=>simp at a
  |cons h t=>
   simp at a;unfold putE putX
   by_cases c:e=k
   .rw[if_pos c,if_pos (a.1.trans c)];exact .cons ⟨h.1,h.2.1,d⟩ t
   .rw[if_neg c,if_neg (λz=>c (a.1.symm.trans z))];exact .cons h (i a.2 t)
def DxM(K:Kd)(H:Hp)(a:Addr)(kvs:List (aD×aD))(es:List (Int×V×V)):Prop:=
 DenKV K H kvs es/\(kvs.map (·.1)).Nodup/\kyA kvs=true/\((H a=some (dX a es)/\kvs≠[])\/(H a=some (.dK [])/\kvs=[]))
section
variable {X:Cx}{c:List (Addr×Obj)}{f:St}{H:Hp}{s:Io}{a:Addr}{kvs:List (aD×aD)}{es:List (Int×V×V)}{k d:aD}{y v:V}{u r:Ad}{A:abf}{E:Ad->Io->Prop}
def DxM.is(I:Inv X c f H s)(h:DxM X.kd H a kvs es):(a==abr)=false/\∃xs,s.heap.DictOfH (oo X.prog X.w) a xs/\PxV X.kd H kvs xs/\ExV X.w es xs:=by
 obtain⟨g,nd,ky,⟨q,_⟩|⟨q,rfl⟩⟩:=h
 .obtain⟨hs,_,xs,dd,p,e⟩:=I.dcE (.inl q) g nd ky;exact⟨hs,xs,dd,p,e⟩
 .obtain⟨hs,dd⟩:=I.dc0 (.inl q);subst g;exact⟨hs,[],dd,.nil,.nil⟩
theorem Jc{Q:Unit->Io->Prop}(K:A.units+20<cLine)(I:Inv X c f H s)(h:DxM X.kd H a kvs es)(n:kyD k=true)(dk:Den X.kd H k y)(N:RelV y u)(M:RelV v r)(V:kvs.length<aal)
  (j:∀s',Inv X c f (upd H a (dX a (putE X.w k y v kvs es))) s'->Q () s'):wpAny (model X.prog X.w) A (dictSet a u r) Q E s:=by
 let⟨F,x,O,p,ex⟩:=h.is I;let⟨b,rfl⟩:=sv n dk;cases (N);have le:es.length=kvs.length:=h.1.len.symm;have S:x.length=kvs.length:=by have:=congrArg adg p.keys;simpa using this
 refine wpAny_dictSet_heap (knd:=oo X.prog X.w) K (I.ky n dk) O (λW g i=>j _ ?_) (by omega);rw[l9 (by rw[p.keys];exact h.2.1)]at g;let⟨o,e,J,l,G,D,m,t,B⟩:=g;have mu:Mut (H a):=by
  rcases h.2.2.2 with⟨q,_⟩|⟨q,_⟩
  .rw[q];exact trivial
  .rw[q];exact trivial
 refine qT I mu i ⟨o,l⟩ ⟨⟨F,?_,o,e,J,l,G,D,?_⟩,⟨o,l⟩,λT R L z=>?_⟩
 .have:=vX X.w k (.ref b) v kvs es le.symm;omega
 .rw[m];have:=Mh (w:=X.w) (k:=k) (b:=b) M p.keys ex;generalize putE X.w k (.ref b) v kvs es=U at this;generalize putX k b r x=P at this;clear m t B
  induction this with
  |nil=>exact .nil
  |cons q _ C=>exact .cons ⟨q.1.symm,by rw[q.2.1];rfl,q.2.2⟩ C
 .obtain⟨z1,z2,o',ents',ep',z3,z4⟩:=L;exact⟨z1,z2,o',ents',ep',z o' z3,z4⟩
theorem yj{Q:Unit->Io->Prop}(o:A.units+64<cLine)(I:Inv X c f H s)(h:DxM X.kd H a kvs es)(g:kyD k=true)(dk:Den X.kd H k y)(i:RelV y u)(n:RelV v r)(l:kvs.length<aal)
  (e:∀s',Inv X c f (upd H a (dX a (putE X.w k y v kvs es))) s'->Q () s'):wpAny (model X.prog X.w) A (setItem (.ref a) u r) Q E s:=by
 let⟨p,x,b,q,ex⟩:=h.is I;refine abU ?_;refine gT (ae3 b.typeIs (by decide) ?_);refine gT (aaZ b.typeIs slot_dict_setitem (abb slot_dict_setitem b.typeIs entry_dict_setitem ?_ (args_dict_setitem _ _ _)));refine gT (af1 b.typeIs ?_);refine gT (m:=dictSet a u r) (Jc (by grind) I h g dk i n l λs' j=>Ld ⟨.none,rfl,Ld (e s' j)⟩)
end
def Ua(K:Kd)(d ty t:TE):TS:=λD b H=>t b H λv f=>d b f λx g=>ty b g λy c=>∃a kvs e k,x = .ref a/\DxM K c a kvs e/\kyD k=true/\Den K c k y/\kvs.length<aal/\D.nx b (upd c a (dX a (putE K.w k y v kvs e)))
section
variable {X:Cx}{o i e:Expr}{A B E:WE}{pos f:Pos}{G ty J:TE}
theorem F8(d:X.A.units+64<cLine)(l:PE X o G)(t:PE X i ty)(C:PE X e J)(M:abx e (some (.Subscript o i f)) pos.line X.env=pure false):PS X (.Assign [.Subscript o i f] e pos) (Ua X.kd G ty J):=by
 intro p s b H D I h;refine afJ (thn (C p s b H _ I h) λr s1 ⟨v,K,z,m,q⟩=>thn (l p s1 b K _ z q) λu s2 ⟨x,c,L,n,g⟩=>thn (t p s2 b c _ L g) λU S ⟨y,R,F,P,a,kvs,T,k,ex,dx,ky,dk,N,O⟩=>?_) M;subst ex;obtain rfl:u=abg a:=n;exact yj d F dx ky dk P m N λV j=>⟨b,_,j,O⟩
theorem nu{k d:aD}(a:kyD k=true):∀{kvs:List (aD×aD)},kyA kvs=true->(putP k d kvs).map (·.1)=if k∈kvs.map (·.1)then kvs.map (·.1)else kvs.map (·.1)++[k]
 |[],_=>rfl
 | (k',d')::r,h=>by
  rw[kyA,abV,aaR]at h;rw[BP h.1 a]
  by_cases e:k'=k
  .rw[if_pos e,if_pos (by simp[e])];rfl
  .rw[if_neg e,aao,nu a h.2]
   by_cases c:k∈r.map (·.1)
   .rw[if_pos c,if_pos (by simp[c])];rfl
   .rw[if_neg c,if_neg (by simp only[aao,aah,not_or];exact⟨λz=>e z.symm,c⟩)];rfl
def yv{k d:aD}(l:kyD k=true)(h:kyA kvs=true)(nd:(kvs.map (·.1)).Nodup):((putP k d kvs).map (·.1)).Nodup:=by
 rw[nu l h];split
 .omega
 .rename_i c;exact acD.mpr ⟨nd,by simp,λa j b g=>by simp at g;subst g;exact λz=>c (z▸j)⟩
theorem vM{k d:aD}(a:kyD k=true)(h:kyA kvs=true):kyA (putP k d kvs)=true:=by
 have e:∀l:List _,kyA l=(l.map _).all kyD:=λl=>by unfold kyA;rw[ad7];rfl
 rw[e,nu a h];rw[e]at h;split
 .exact h
 .rw[List.all_append,h];simp[a]
theorem Ot(k d:aD)(kvs:List (aD×aD)):putP k d kvs≠[]:=by
 cases kvs with
 |nil=>intro h;cases h
 |cons x r=>
  show(if _ then _ else _)≠_
  split<;>simp
theorem DJ(h:kyA kvs=true)(n:kvs≠[]):isKd kvs=false:=by
 cases kvs with
 |nil=>exact(n rfl).elim
 |cons x r=>
  let⟨k,d⟩:=x;rw[kyA,abV,aaR]at h;let⟨ds,rfl,_⟩:=iQ h.1;rfl
def oy(h:kyA kvs=true)(n:kvs≠[])(nd:(kvs.map (·.1)).Nodup):Br kvs:=
 ⟨DJ h n,nd,λk b=>by
  let⟨x,a,rfl⟩:=aam.mp b;exact o6 (abD.mp h x a)⟩
abbrev IP(E A B:WE):WS:=λD m=>E m λc m1=>jx (λd=>A m1 λb m2=>B m2 λr a=>onAt (λk p=>jx (λy=>∃t kvs,a.os[k]?=some [t]/\getT t p=some (.dict (lfKV kvs))/\okW t p=true/\kyA kvs=true/\kyD y=true/\kvs.length<aal/\D.nx {a with os:=a.os.set k [setT t p (.dict (lfKV (putP y d kvs)))]}) r) b) c
def v5(kvs:List (aD×aD)):kyA (lfKV kvs)=kyA kvs:=by
 unfold kyA lfKV;rw[ad7];rfl
theorem Rel.dx{K:Kx}{l:Al}{m:MSt}{q:St}{H:Hp}{k:Nat}{τ:List (List Nat×Addr)}{a:Addr}{p:List Nat}{t:aD}(R:Rel K l m q H)(u:l[k]?=some (.T τ))(x:τ.lookup p=some a)(v:m.os[k]?=some [t])(r:getT t p=some (.dict (lfKV kvs)))(ky:kyA kvs=true):∃es,DxM K H a kvs es:=by
 let⟨⟨I,L,z,g,_⟩,_⟩:=R.own k (.T τ) _ u v;cases z;let⟨y,g⟩:=g.get r;rw[abd]at g;let⟨n1,n2⟩:=p8 (.inr (by rw[v5];exact ky));rcases g with⟨d,h,_⟩|⟨_,_,b,es,h,s,j,n,g⟩|⟨_,_,b,es,h,s,j,g⟩|⟨c,b,dx,C,F,D,_⟩
 .rw[n1]at h;cases h
 .rw[x]at h;cases h;exact⟨es,fzKV g,by rw[<-fJ];exact n.2.1,ky,.inl ⟨j,λz=>by subst z;exact absurd n.1 (by decide)⟩⟩
 .simp_all
  let⟨rfl,rfl⟩:=OO (fzKK g) ky;exact⟨[],by simp only[DenKV],abB,rfl,.inr ⟨j,rfl⟩⟩
 .grind
theorem D7(hu:X.A.units+64<cLine)(he:ME X e E)(ho:ME X o A)(hi:ME X i B)(hs:abx e (some (.Subscript o i f)) pos.line X.env=pure false:=by rfl):MS X (.Assign [.Subscript o i f] e pos) (IP E A B):=(F8 hu ho hi he hs).wk<|by
 intro D σ H ⟨K,m,De,Rl,hw,k⟩;refine⟨K,m,_,Rl,hw,λr m1 v H1 q n1 M rr F1=>?_⟩;let⟨d,er,hd,q⟩:=fI rr q;refine⟨K,m1,_,M,q,λro m2 ov H2 q2 n2 N Z F2=>⟨K,m2,_,N,q2,λri m3 iv n L n3 R P F3=>?_⟩⟩;let⟨kk,p,F,a,rfl,O,x,rfl,L⟩:=yC Z L;let⟨y,rfl,hy,t,kvs,e3,et,okw,ky,h,hl,L⟩:=fI P L;let⟨s,dx⟩:=R.dx O x e3 et ky;have T:Den X.kx n d v:=(hd.mono (M.pers F2)).mono (N.pers F3);let⟨⟨t1,v0,z,g,a0,W,S⟩,mu⟩:=R.own kk (.T F) _ O e3;cases z;let⟨u0,Y,mu0⟩:∃u,n a=some u/\Mu u=true:=by
  rcases dx.2.2.2 with⟨q,_⟩|⟨q,_⟩
  .exact⟨_,q,rfl⟩
  .exact⟨_,q,rfl⟩
 have I:Pers n (upd n a (dX a (putE X.w y iv v kvs s))):=bt (.inr ⟨u0,Y,mu0⟩);have ok:=oy (kvs:=putP y d kvs) (vM h ky) (Ot y d kvs) (yv h ky dx.2.1);have nd:(F.map (·.2)).Nodup:=((f9 K).mp R.nd).1 (.T F) (GT O);have new:TAt X.kx (upd n a (dX a (putE X.w y iv v kvs s))) F p (.dict (lfKV (putP y d kvs))) (.ref a):=by
  let⟨z1,U⟩:=p8 (.inr (by rw[v5];exact vM h ky):isKd (lfKV (putP y d kvs))=true\/kyA (lfKV (putP y d kvs))=true);simp only[TAt];refine .inr (.inl ⟨z1,U,a,_,x,rfl,aE,⟨by rw[qU];exact ok.1,by rw[fJ];exact ok.2.1,by rw[fJ];exact ok.2.2⟩,L5 ?_⟩);exact xj h (hy.mono I) (T.mono I) ky (DenKV.mono I dx.1)
 have all:TAt X.kx (upd n a (dX a (putE X.w y iv v kvs s))) F [] (setT t p (.dict (lfKV (putP y d kvs)))) v0:=TAt.set nd I g et okw (by rw[abd];exact x) (by rw[abd];exact new) λu l=>by
  let⟨z1,U⟩:=p8 (.inr (by rw[v5];exact ky):isKd (lfKV kvs)=true\/kyA (lfKV kvs)=true);rw[abd]at l;simp only[TAt]at l;rcases l with⟨d,j,_⟩|⟨_,_,b,s,j,y2,_⟩|⟨_,_,b,s,j,y2,_⟩|⟨c,b,dx,C,xs,y0,_⟩
  .rw[z1]at j;cases j
  .rw[x]at j;cases j;exact y2
  .rw[x]at j;cases j;exact y2
  .rw[U]at y0;cases y0
 let⟨R4,F4⟩:=R.setW O I (ds':=[setT t p (.dict (lfKV (putP y d kvs)))]) (λb V=>aB λeb=>V (eb▸bO x)) ⟨⟨_,v0,rfl,all,a0,W,S⟩,λb V=>by
  by_cases eb:b=a
  .subst eb;exact⟨_,aE,rfl⟩
  .rw[aB eb];exact mu b V⟩
 exact⟨a,kvs,s,y,rfl,dx,h,hy,hl,k.nx K _ σ _ L (n3.trans (n2.trans n1)) R4 (.of R4 (((F1.trans F2).trans F3).trans F4))⟩
def jm(a:X.A.units+64<cLine)(h:EE X e E)(d:EE X o A)(b:EE X i B)(c:abx e (some (.Subscript o i f)) pos.line X.env=pure false:=by rfl):ES X (.Assign [.Subscript o i f] e pos) (IP E A B):=⟨D7 a h.h d.h b.h c⟩
def wFzX(w:WS):WS:=λD m=>∃(k j:Nat) (kvs:List (aD×aD)) (a:List Nat) (m2:MSt),m.vs[j]?=some (some (.at k []))/\m.os[k]?=some [.dict (lfKV kvs)]/\kyA kvs=true/\Fz k (.dict kvs) a m m2/\w D m2
theorem O9{s:Stmt}(h:MS X s w):MS X s (wFzX w):=(Ub h).wk<|by
 intro D t H ⟨I,m,L,R,⟨k,u,kvs,C,m2,ej,x,ky,F,l⟩,r⟩;let⟨v,M,K,a,c,d,rfl⟩:=R.var u _ ej;let⟨z,dx⟩:=R.dx c d x (p:=[]) rfl ky;have n:∀(j:Nat) (v:V),(m.vs[j]?=some (some (.obj k))\/m.vs[j]?=some (some (.at k [])))->t[j]?=some (some v)->v = .ref a:=λj v b y=>by
  rcases b with b|b
  .obtain⟨v',ev',a',ea',_⟩:=R.var j _ b;rw[c]at ea';cases ea'
  .obtain⟨v',ev',τ',a',ea',el',rfl⟩:=R.var j _ b
   grind
 rcases dx.2.2.2 with⟨q,ne⟩|⟨q,rfl⟩
 .refine uL R r F c (bO d) q rfl rfl (λo g=>?_) n l;simp only[Den];exact⟨a,rfl,.inl ⟨z,⟨o,aE⟩,oy ky ne dx.2.1,DenKV.mono g dx.1⟩⟩
 .refine uL R r F c (bO d) q rfl rfl (λo g=>?_) n l;simp only[Den];exact⟨a,rfl,.inr (.inl ⟨[],o,aE,by simp only[DenKK]⟩)⟩
def JP{s:Stmt}(h:ES X s w):ES X s (wFzX w):=⟨O9 h.h⟩
def O8{D:fi}{m:MSt}(k j:Nat)(kvs:List (aD×aD))(a:List Nat)(m2:MSt)(b:m.vs[j]?=some (some (.at k [])))(d:m.os[k]?=some [.dict (lfKV kvs)])(c:kyA kvs=true)(F:Fz k (.dict kvs) a m m2)(h:w D m2):wFzX w D m:=⟨k,j,kvs,a,m2,b,d,c,F,h⟩
end
end L2
namespace K
open PySem L2 M7
abbrev Pt:=List Nat×Nat
def ptD(p:Pt):aD:=stD p.1 p.2
theorem wX:∀{a b:List Nat},natD a=natD b->a=b
 |[],[],_=>rfl
 |x::a,y::b,h=>by
  simp[natD]at h;rw[show x=y by omega,wX h.2]
 |[],_::_,h=>nomatch h
 |_::_,[],h=>nomatch h
theorem Qq(p:Pt):hkD (ptD p)=true:=by
 have n:∀l:List Nat,hkA (natD l)=true:=λl=>by
  induction l with
  |nil=>rfl
  |cons x l i=>show(hkD _&&hkA (natD l))=true;rw[i];rfl
 show(hkD _&&_)=true;rw[show hkD (lnD p.1)=true from n p.1];rfl
def T5(p q:Pt):aad (ptD p) (ptD q)=decide (p=q):=by
 rw[tz _ _ (Qq p) (Qq q)];refine decide_eq_decide.mpr ⟨λh=>?_,λh=>by rw[h]⟩;have a:=by injection h
 simp at a;have b:=by have:=a.1;injection this
 exact aem (wX b) (by omega)
instance decWd:DecidableEq Wd:=λa b=>by cases a<;>cases b<;>first|exact isTrue rfl|exact isFalse (λh=>nomatch h)
def Je:SpM:=λa K=>∃h:Hall,a=[.imm h.d]/\h.Ok/\K (.new ((ordK h.ss.length h.ss.length).map lnD)) []
def qu:∀n≤4,1≤n->∀o∈ordK n n,o≠[]/\o.length≤4/\∀k∈o,k<n:=by decide +kernel
def iB(l:List Nat):dm (natD l)=some (l.map λ(x:Nat)=>(x:Int)):=by
 have:=d5 (l.map λ(x:Nat)=>(x:Int));rwa[aa9]at this
theorem nh:∀l:List Nat,(l.map λ(x:Nat)=>(x:Int)).sum=(l.sum:Int)
 |[]=>rfl
 |x::l=>by rw[aao,acK];rw[acK,nh l];rfl
theorem jl{d:Type}[DecidableEq d]:∀{l m:List d},l.Nodup->(∀x∈l,x∈m)->l.length≤m.length
 |[],_,_,_=>abh _
 | a::l,m,h,hs=>by
  rw[aa7]at h;have e:=hs a aae;have i:=jl (l:=l) (m:=m.erase a) h.2 λx c=>by
   have b:x≠a:=λz=>h.1 (z▸c);exact(List.mem_erase_of_ne b).mpr (hs x (aaf _ c))
  have:=List.length_erase_of_mem e;have:=List.length_pos_of_mem e;rw[aaB];omega
theorem lj:∀{rs l:List Nat},M7.Fits rs l->l∈M3.allR rs
 |[],[],_=>aaa.mpr rfl
 |r::rs,x::l,h=>by
  have a:x≤r:=h.1;exact ab6.mpr ⟨x,aeH.mpr (by omega),aam.mpr ⟨l,lj h.2,rfl⟩⟩
 |[],_::_,h=>h.elim
 |_::_,[],h=>h.elim
end K
namespace L2
open PySem PySem.W PyProof.Rows
variable{i j n:Nat}{p:Array Nat}
structure TotF(n:Nat)(f:Nat->Nat->Bool):Prop where
 tr:∀a b c,a<n->b<n->c<n->f a b=true->f b c=true->f a c=true
 tot:∀a b,a<n->b<n->a≠b->f a b=true\/f b a=true
theorem fV{b β:Type}{n:Nat}{f:Nat->Nat->Bool}(g:b->KasT β):∀t:KasT b,runC n f (t.bind g)=(runC n f t).bind λa=>runC n f (g a)
 | .ret a=>rfl
 | .ask i j k=>by
  show(if i<n/\j<n then runC n f _ else none)=(if i<n/\j<n then runC n f _ else none).bind _
  by_cases h:i<n/\j<n
  .rw[if_pos h,if_pos h];exact fV g _
  .rw[if_neg h,if_neg h];rfl
def jA{a:Type}{f:Nat->Nat->Bool}{k:Bool->KasT a}(b:i<n)(h:j<n):runC n f (.ask i j k)=runC n f (k (f i j)):=if_pos ⟨b,h⟩
structure PermA(n:Nat)(p:Array Nat):Prop where
 sz:p.size=n
 pm:p.toList.Perm (aax n)
abbrev pA(p:Array Nat)(k:Nat):Nat:=p.getD k 0
theorem dU{k:Nat}(h:k<p.size):p[k]?=some (pA p k):=by simp_all
def PermA.lt(h:PermA n p){k:Nat}(a:k<n):pA p k<n:=by
 have e:=dU (by rw[h.sz];exact a);have:pA p k∈p.toList:=by
  rw[Array.mem_toList_iff];exact Array.mem_of_getElem? e
 exact aeH.mp (h.pm.mem_iff.mp this)
def PermA.inj(h:PermA n p)(f:i<n)(c:j<n)(e:pA p i=pA p j):i=j:=by
 have nd:=h.pm.nodup_iff.mpr List.nodup_range;have b:p.toList[i]?=some (pA p i):=by rw[acw];exact dU (by rw[h.sz];exact f)
 have g:p.toList[j]?=some (pA p j):=by rw[acw];exact dU (by rw[h.sz];exact c)
 have a:i<p.toList.length:=by rw[abI,h.sz];exact f
 have l:j<p.toList.length:=by rw[abI,h.sz];exact c
 rw[lD a]at b;rw[lD l]at g;have k:p.toList[i]=p.toList[j]:=by rw[aas b,aas g,e]
 have d:=abG.mp nd;rcases agQ i j with z|z|z
 .exact absurd k (d i j a l z)
 .exact z
 .exact absurd k.symm (d j i l a z)
def AscA(f:Nat->Nat->Bool)(p:Array Nat)(k:Nat):Prop:=∀i j,i<j->j<k->f (pA p i) (pA p j)=true
def DscA(f:Nat->Nat->Bool)(p:Array Nat)(k:Nat):Prop:=∀i j,i<j->j<k->f (pA p j) (pA p i)=true
section
variable {n:Nat}{f:Nat->Nat->Bool} (T:TotF n f)
include T
theorem TotF.no(h:PermA n p)(c:i<n)(b:j<n)(a:i≠j)(e:f (pA p i) (pA p j)=false):f (pA p j) (pA p i)=true:=by
 rcases T.tot _ _ (h.lt c) (h.lt b) (λz=>a (h.inj c b z))with z|z
 .simp_all
 .exact z
theorem FC(h:PermA n p){k:Nat}(d:1≤k)(c:k<n)(a:AscA f p k)(e:f (pA p (k-1)) (pA p k)=true):AscA f p (k+1):=λi j b g=>by
 by_cases z:j=k
 .subst z
  by_cases y:i=j-1
  .rw[y];exact e
  .exact T.tr _ _ _ (h.lt (by omega)) (h.lt (by omega)) (h.lt c) (a i _ (by omega) (by omega)) e
 .exact a i j b (by omega)
theorem vA{p:Array Nat}(h:PermA n p):∀(u k:Nat),1≤k->k+u≤n->AscA f p k->∃m,runC n f (kas_asc p u k)=some m/\k≤m/\m≤k+u/\AscA f p m/\(m<k+u->f (pA p m) (pA p (m-1))=true)
 |0,k,_,_,a=>⟨k,rfl,aab _,aab _,a,λz=>by omega⟩
 | u+1,k,h1,hk,a=>by
  unfold kas_asc;rw[jA (h.lt (k:=k) (by omega)) (h.lt (k:=k-1) (by omega))]
  cases e:f (p.getD k 0) _ with
  |true=>
   exact⟨k,rfl,aab _,by simp,a,λ_=>e⟩
  |false=>
   have d:=T.no h (i:=k) (j:=k-1) (by omega) (by omega) (by omega) e;let⟨m,r,m1,m2,c,b⟩:=vA h u (k+1) (by exact afM _) (by omega) (FC T h h1 (by omega) a d);exact⟨m,r,by exact acz ‹_›,by omega,c,λz=>b (by omega)⟩
theorem xP{p:Array Nat}(h:PermA n p):∀(u k:Nat),1≤k->k+u≤n->DscA f p k->∃m,runC n f (kas_desc u p k 0)=some (p,m,0)/\k≤m/\m≤k+u/\DscA f p m
 |0,k,_,_,a=>⟨k,rfl,aab _,aab _,a⟩
 | u+1,k,h1,hk,a=>by
  unfold kas_desc;rw[jA (h.lt (k:=k) (by omega)) (h.lt (k:=k-1) (by omega))]
  cases e:f (p.getD k 0) (p.getD (k-1) 0)with
  | true=>
   have c:DscA f p (k+1):=λi j b l=>by
    by_cases z:j=k
    .subst z
     by_cases y:i=j-1
     .rw[y];exact e
     .exact T.tr _ _ _ (h.lt (by omega)) (h.lt (by omega)) (h.lt (by omega)) e (a i (j-1) (by omega) (by omega))
    .exact a i j b (by omega)
   let⟨m,r,m1,m2,d⟩:=xP h u (k+1) (by omega) (by omega) c;exact⟨m,r,by omega,by omega,d⟩
  |false=>
   rw[if_neg (by decide),jA (h.lt (k:=k-1) (by omega)) (h.lt (k:=k) (by omega))];have g:=T.no h (i:=k) (j:=k-1) (by omega) (by omega) (by omega) e;rw[g,if_pos rfl];exact⟨k,rfl,aab _,by omega,a⟩
theorem Gc(h:PermA n p)(i j:Nat):PermA n (kas_rev p i j):=by
 refine⟨by rw[kas_rev_size];exact h.sz,?_⟩;exact((mirror_perm p i j _).toList).trans h.pm
theorem Ji(h:PermA n p){m:Nat}(b:m≤n){k:Nat}(c:k<n):pA (kas_rev p 0 m) k=if k<m then pA p (m-1-k)else pA p k:=by
 have e:=getElem?_mirror_all (i:=0) (j:=m) (by rw[h.sz];exact b) k;have a:(kas_rev p 0 m)[k]?=some _:=dU (by rw[kas_rev_size,h.sz];exact c);unfold kas_rev at a⊢;rw[e]at a
 by_cases z:k<m
 .rw[if_pos ⟨abh _,z⟩,acm,dU (by rw[h.sz];omega)]at a;rw[if_pos z];exact(aas a).symm
 .rw[if_neg (λy=>z y.2),dU (by rw[h.sz];omega)]at a;rw[if_neg z];exact(aas a).symm
theorem EF(h:PermA n p){m:Nat}(k:1≤m)(d:m≤n)(a:DscA f p m):∃b c,runC n f (kas_tail3 m n p)=some (b,c)/\PermA n c/\m≤b/\b≤n/\AscA f c b:=by
 have e:=Gc T h 0 m;have l:AscA f _ m:=λi j g o=>by
  rw[Ji T h d (by omega),Ji T h d (by exact aav ‹_› ‹_›),if_pos (by omega),if_pos o];exact a _ _ (by omega) (by omega)
 let⟨b,r,m1,m2,q,_⟩:=vA T e (n-m) m k (by omega) l;refine⟨b,kas_rev p 0 m,?_,e,m1,by omega,q⟩;unfold kas_tail3;rw[fV,r];rfl
theorem Cc(h:PermA n p)(A:1≤n):∃a b,runC n f (kas_count n p)=some (a,b)/\PermA n b/\1≤a/\a≤n/\AscA f b a:=by
 let⟨m,r,m1,m2,d,q⟩:=vA T h (n-1) 1 (aab _) (by omega) (λi j c o=>by omega);unfold kas_count;rw[fV,r];show ∃a b,runC n f (if (m==n)=true then .ret (m,p)else _)=some (a,b)/\_
 by_cases z:m=n
 .rw[if_pos (by rw[z];exact beq_self_eq_true n)];exact⟨m,p,rfl,h,m1,by omega,d⟩
 .rw[if_neg (λy=>z (eq_of_beq y))]
  by_cases y:m>1
  .rw[if_pos y,jA (h.lt (k:=0) (by assumption)) (h.lt (k:=m-1) (by omega))];have e:=d 0 (m-1) (by omega) (by omega);rw[e,if_pos rfl];exact⟨m,p,rfl,h,m1,by omega,d⟩
  .rw[if_neg y];have s:m=1:=by omega
   subst s;have v:DscA f p 2:=λi j c o=>by
    have x:i=0:=by omega
    have ej:j=1:=by omega
    rw[x,ej];exact q (by omega)
   let⟨k,g,k1,k2,l⟩:=xP T h (n-2) 2 (by exact afM _) (by omega) v;let⟨a,b,t,w,a1,a2,u⟩:=EF T h (m:=k) (by exact acz ‹_›) (by omega) l;refine⟨a,b,?_,w,by omega,a2,u⟩;unfold kas_descPart;rw[fV,g];show runC n f (if (0:Nat)>0 then _ else kas_tail3 k n p)=_;rw[if_neg (by decide)];exact t
theorem ox{p:Array Nat}(h:PermA n p){k:Nat}(b:k<n)(a:AscA f p k):∀(u l r:Nat),l≤r->r≤k->r-l≤u->(∀i,i<l->f (pA p i) (pA p k)=true)->(∀i,r≤i->i<k->f (pA p k) (pA p i)=true)->∃m,runC n f (kas_place p k u l r)=some m/\m≤k/\(∀i,i<m->f (pA p i) (pA p k)=true)/\∀i,m≤i->i<k->f (pA p k) (pA p i)=true
 |0,l,r,hl,hr,hu,b1,b2=>⟨l,rfl,by exact aaw ‹_› ‹_›,b1,λi d=>b2 i (by omega)⟩
 | u+1,l,r,hl,hr,hu,b1,b2=>by
  unfold kas_place
  by_cases z:l≥r
  .rw[if_pos z];exact⟨l,rfl,by exact aaw ‹_› ‹_›,b1,λi d=>b2 i (by exact aaw ‹_› ‹_›)⟩
  .rw[if_neg z,jA (h.lt b) (h.lt (k:=(l+r)/2) (by omega))]
   cases e:f (p.getD k 0) (p.getD ((l+r)/2) 0)with
   | true=>
    rw[if_pos rfl];exact ox h b a u l ((l+r)/2) (by omega) (by omega) (by omega) b1 λi d c=>by
     by_cases y:i=(l+r)/2
     .rw[y];exact e
     .exact T.tr _ _ _ (h.lt b) (h.lt (k:=(l+r)/2) (by omega)) (h.lt (by omega)) e (a _ _ (by omega) c)
   | false=>
    have g:=T.no h (i:=k) (j:=(l+r)/2) b (by omega) (by omega) e;exact ox h b a u ((l+r)/2+1) r (by omega) hr (by omega) (λi d=>by
     by_cases y:i=(l+r)/2
     .rw[y];exact g
     .exact T.tr _ _ _ (h.lt (by omega)) (h.lt (k:=(l+r)/2) (by omega)) (h.lt b) (a _ _ (by omega) (by omega)) g) b2
theorem IY(h:PermA n p){k l:Nat}(b:k<n)(d:l≤k)(c:i<n):pA (bubble p k (k-l)) i=if i=l then pA p k else if l<i/\i≤k then pA p (i-1)else pA p i:=by
 have e:=getElem?_bubble (xs:=p) (src:=k) (by rw[h.sz];exact b) (k-l) (by simp) i;have a:(bubble p k (k-l))[i]?=some _:=dU (by rw[bubble_size,h.sz];exact c);rw[e,show k-(k-l)=l by omega]at a
 by_cases z:i=l
 .rw[if_pos z,dU (by rw[h.sz];exact b)]at a;rw[if_pos z];exact(aas a).symm
 .rw[if_neg z]at a⊢
  by_cases y:l<i/\i≤k
  .rw[if_pos y,dU (by rw[h.sz];omega)]at a;rw[if_pos y];exact(aas a).symm
  .rw[if_neg y,dU (by rw[h.sz];omega)]at a;rw[if_neg y];exact(aas a).symm
theorem Au:∀(u:Nat) {p:Array Nat}{k:Nat},PermA n p->k+u=n->AscA f p k->∃b,runC n f (kas_bin u p k)=some b/\PermA n b/\AscA f b n
 |0,p,k,h,hk,a=>⟨p,rfl,h,by rw[<-hk];exact a⟩
 | u+1,p,k,h,hk,a=>by
  let⟨l,r,g,b1,b2⟩:=ox T h (k:=k) (by omega) a k 0 k (by exact abh _) (aab _) (by exact aab _) (λi m=>by contradiction) (λi m o=>by omega);unfold kas_bin;rw[fV,r];have s:PermA n (bubble p k (k-l)):=⟨by rw[bubble_size];exact h.sz,((bubble_perm p k (k-l)).toList).trans h.pm⟩;refine Au u s (by omega) λi j c t=>?_;rw[IY T h (by omega) g (by omega),IY T h (by omega) g (by omega)]
  by_cases q:i=l
  .grind
  .rw[if_neg q]
   by_cases d:j=l
   .rw[if_pos d,if_neg (by omega)];exact b1 _ (by omega)
   .rw[if_neg d]
    by_cases e:l<i/\i≤k
    .rw[if_pos e,if_pos (by omega)];exact a _ _ (by omega) (by omega)
    .rw[if_neg e]
     by_cases z:l<j/\j≤k
     .rw[if_pos z];exact a _ _ (by omega) (by omega)
     .rw[if_neg z];exact a _ _ c (by omega)
theorem Gi(d:1≤n):∃p,runC n f (kas_sort n)=some p/\PermA n p/\AscA f p n:=by
 have b:PermA n (List.toArray (aax n)):=⟨by simp,by simp⟩;let⟨m,p,r,h,m1,m2,a⟩:=Cc T b d;unfold kas_sort;rw[fV,r];show ∃c,runC n f _=some c/\_
 by_cases z:m<n
 .rw[if_pos z,show max m 1=m by omega];exact Au T _ h (by omega) a
 .rw[if_neg z];have:m=n:=by omega
  subst this;exact⟨p,rfl,h,a⟩
end
end L2
namespace L2
open PySem PySem.Spec PySem.W PyProof.Rows
def LtAt(A:abf)(s:Io)(x y:Ad)(b:Bool):Prop:=
 ∀(prog:aaK) (w:World) (E:Ad->Io->Prop) (Q:Ad->Io->Prop),Q (.bool b) s->wpAny (model prog w) A (richCompare .Lt x y) Q E s
def zQ(A:abf)(s:Io)(f r:Bool):List (Ad×Ad)->Prop
 |[]=>r=f
 |p::ps=>∃e,afw A s p.1 p.2 e/\((e=true->zQ A s f r ps)/\(e=false->LtAt A s p.1 p.2 r))
theorem oH(l b:Addr)(xs ys:Array Ad)(n m:Nat)(d1 d2:Option Addr)(s1 s2:Array (Option Ad))(r:Bool) :
  Meets (acB.«tuple.__lt__» ⟨[.ref l,.ref b],[]⟩)
   (λA R s=>s.heap.get? l=some {cls:=.type "tuple",dict:=d1,data:=.seq xs n,slots:=s1}/\s.heap.get? b=some {cls:=.type "tuple",dict:=d2,data:=.seq ys m,slots:=s2}/\zQ A.in1 s (decide (xs.size<ys.size)) r (xs.toList.zip ys.toList)/\R (.ok (.ret (.bool r))) s):=
 .of_wp λprog w A R s h=>by
  let⟨g,i,o,c⟩:=h;have k:=AutoSeq1.sub_tuple_tuple
  wp_walk using aex g,aex i,aeg _ (λrest z a=>z.1=none/\a=s/\zQ A.in1 s (decide (xs.size<ys.size)) r rest) _
  case turn=>
   intro⟨u,v⟩ rest z a ⟨f,rfl,e,j,q,p⟩;refine gT (j prog w _ _ ?_)
   cases e with
   |true=>exact Ld ⟨rfl,rfl,q rfl⟩
   |false=>
    refine gT (acI (gT (p rfl prog w _ _ ?_)))
    wp_walk
    exact⟨_,rfl,c⟩
  case fin=>
   intro⟨z,u⟩ a ⟨f,rfl,e⟩;have d:z=none:=f;subst d
   wp_walk
   refine⟨_,rfl,?_⟩;rw[e]at c;exact c
  case h=>exact⟨rfl,rfl,o⟩
mutual
def ltD:aD->aD->Bool
 | .int a,.int b=>decide (a<b)
 | .tuple xs,.tuple ys=>ltDs xs ys
 |_,_=>false
def ltDs:List aD->List aD->Bool
 |x::xs,y::ys=>if aad x y=true then ltDs xs ys else ltD x y
 |[],_::_=>true
 |_,_=>false
end
mutual
def smD:aD->aD->Bool
 | .int _,.int _=>true
 | .tuple xs,.tuple ys=>smDs xs ys
 |_,_=>false
def smDs:List aD->List aD->Bool
 |[],[]=>true
 |x::xs,y::ys=>smD x y&&smDs xs ys
 |_,_=>false
end
mutual
theorem BQ:∀{x y:aD},smD x y=true->x.canLay0=true/\y.canLay0=true
 | .int _,.int _,_=>⟨rfl,rfl⟩
 | .tuple xs,.tuple ys,h=>by
  simp only[smD]at h;have:=Bg h;exact⟨this.1,this.2⟩
theorem Bg:∀{xs ys:List aD},smDs xs ys=true->abp xs=true/\abp ys=true
 |[],[],_=>⟨rfl,rfl⟩
 |x::xs,y::ys,h=>by
  simp only[smDs,aaR]at h;have a:=BQ h.1;have b:=Bg h.2;exact⟨by simp only[abp,a.1,b.1,Bool.and_self],by simp only[abp,a.2,b.2,Bool.and_self]⟩
end
def LtUp(k:Nat):Prop:=∀(x y:aD) (A:abf) (s:Io) (u v:Ad) (a bs:List Addr),x.depth≤k->Reads s.heap u x a->Reads s.heap v y bs->smD x y=true->A.units+x.depth<cLine->LtAt A s u v (ltD x y)
theorem lQ{k:Nat}(I:LtUp k)(A:abf)(s:Io):∀(xs ys:List aD) (us vs:List Ad) (as bs:List Addr),aay xs≤k->adF s.heap us xs as->adF s.heap vs ys bs->smDs xs ys=true->A.units+aay xs<cLine->us.length=vs.length/\zQ A s false (ltDs xs ys) (us.zip vs)
 | [],ys,us,vs,as,bs,hk,r1,r2,h,hu=>by
  cases ys with
  |cons y ys=>exact absurd h (by simp only[smDs];decide)
  |nil=>
   cases r1;cases r2;exact⟨rfl,rfl⟩
 | x::xs,ys,us,vs,as,bs,hk,r1,r2,h,hu=>by
  cases ys with
  |nil=>exact absurd h (by simp only[smDs];decide)
  | cons y ys=>
   simp only[smDs,aaR]at h
   cases r1 with
   | cons a1 a2=>
    cases r2 with
    |cons b1 b2=>
     have b:max x.depth _≤k:=hk;have dp:A.units+max x.depth _<cLine:=hu;have ly:=BQ h.1;let⟨a,l⟩:=lQ I A s xs ys _ _ _ _ (by omega) a2 b2 h.2 (by omega);refine⟨by rw[aaB,aaB,a],aad x y,ag4 x y A s _ _ _ _ a1 b1 ly.1 ly.2 (by have:=Nat.min_le_left x.depth y.depth;omega),λe=>?_,λe=>?_⟩
     .rw[ltDs,if_pos e];exact l
     .rw[ltDs,if_neg (by rw[e];decide)];exact I x y A s _ _ _ _ (by omega) a1 b1 h.1 (by omega)
theorem wn:∀k,LtUp k
 | 0,x,y,A,s,u,v,as,bs,hk,r1,r2,h,hu=>by
  cases x with
  | int a=>
   cases y with
   |int b=>
    cases r1;cases r2;exact λprog w E Q h=>wpAny_lt_int h
   |_=>exact absurd h (by simp only[smD];decide)
  |tuple c=>exact absurd hk (by show ¬aay c+1≤0;contradiction)
  |_=>exact absurd h (by simp only[smD];decide)
 | k+1,x,y,A,s,u,v,as,bs,hk,r1,r2,h,hu=>by
  cases x with
  | int a=>
   cases y with
   |int b=>
    cases r1;cases r2;exact λprog w E Q h=>wpAny_lt_int h
   |_=>exact absurd h (by simp only[smD];decide)
  | tuple c=>
   cases y with
   | tuple C=>
    simp only[smD]at h
    cases r1 with
    | tuple r D q M=>
     cases r2 with
     |tuple t i B R=>
      rename_i l o vs n m P d N;let⟨J,S,G,K⟩:=o;let⟨j,g,f,e⟩:=P;dsimp only at D q i B;subst D q i B;have O:aay c+1≤k+1:=hk;have dp:A.units+(aay c+1)<cLine:=hu;let⟨L,I⟩:=lQ (wn k) A.in1 s c C vs.toList d.toList _ _ (by omega) M R h (show A.units+1+aay c<cLine by omega);rw[abI,abI]at L;intro prog w E Q H;refine richCompare_meets_room (op:=.Lt) ⟨_,r,rfl⟩ ⟨_,t,rfl⟩ F.slot_tuple_lt F.entry_tuple_lt (F.args_tuple_lt_2 _ _) (oH l m vs d n N S g K e (ltDs c C)) ⟨r,t,?_,⟨(λz=>nomatch z),H⟩⟩ (by omega);rw[decide_eq_false (p:=_) (by omega)];exact I
   |_=>exact absurd h (by simp only[smD];decide)
  |_=>exact absurd h (by simp only[smD];decide)
end L2
namespace L2
open PySem PySem.Spec PyProof.Rows
variable{n:Nat}{T v:Addr}{b:Bool}{o:Obj}{Q:Option Ad->Io->Prop}{P:Addr->aaT->Nat->Ad->Prop}
section
variable {X:Cx}
def Jo{m:MSt}{r2:R}{a:Bool}{k:aD}{kvs:List (aD×aD)}{K:R->Prop}(e:dcM m kvs r2)(c:oneK kvs k=true)(h:K (.imm (.bool (if a=true then !(dg k kvs).isSome else(dg k kvs).isSome)))):oInD a (.imm k) r2 m K:=⟨kvs,e,c,h⟩
theorem bU{ds:List aD}{g:WG}{w:WS}{D:fi}{m1:MSt}(P:Nat->MSt->Prop)(p0:P 0 m1)
  (step:∀(i:Nat) (d:aD) (m:MSt),ds[i]?=some d->m.np=m1.np->P i m->∀c:fi,(∀a,P (i+1) a->c.nx a)->(∀r a,D.rt r (a.setN m1.np)->c.rt r a)->g d m λm2=>w c m2)
  (f:∀m,m.np=m1.np->P ds.length m->D.nx m):o4 ⟨ds,none⟩ g w D m1:=d8 P p0 (λi d m e n p=>step i d m e n p _ (λ_ z=>z) λ_ _ z=>z) f
theorem aA{e:Expr}{w:WE}{pos p:Pos}{x:Str}(i:Nat)(f:X.N.Nodup)(h:EE X e w)(d:X.N[i]?=some x:=by rfl)(a:Loc X.env.scope x:=by exact afc rfl)(g:abx e (some (.Name x p)) pos.line X.env=pure false:=by rfl)(c:X.fn x=true\/X.env.scope.names.lookup x=some .local:=by first|exact .inl rfl|exact .inr rfl|assumption):ES X (.Assign [.Name x p] e pos) (wSet i w):=re f d a h g c
theorem am{pos:Pos}{x:Str}(i:Nat)(h:X.N.Nodup)(d:X.N[i]?=some x:=by rfl)(a:Loc X.env.scope x:=by exact afc rfl)(c:X.fn x=true\/X.env.scope.names.lookup x=some .local:=by first|exact .inl rfl|exact .inr rfl|assumption):EG X (.Name x pos) (gM i):=lc h d a c
end
section
variable {prog:aaK}{w:World}{A:abf}{E:Ad->Io->Prop}{s:Io}{it d:Addr}{es:Array ab0}{i ep:Nat}{ok ov:Ad}
def o3(h:aaT)(it d:Addr)(i n ep:Nat)(k v:Ad)(T:Addr)(b:Bool):Prop:=h.get? it=some {cls:=.type "dict_itemiterator",data:=.fields #[aeR T,.bool b,.ref d,.int i 0,.int n 0,.int ep 0,k,v]}
def Qb{a:Addr}{Q:Option Obj->Io->Prop}(h:Q (s.heap.get? a) s):wpAny (model prog w) A (loadIfAlive a) Q E s:=λ_ _ _=>h
theorem LS{j:Nat}{Q:Bool->Io->Prop}(h:o3 s.heap it d j n ep ok ov T b)(k:s.heap.get? T=some o)
  (a:∀h',o3 h' it d j n ep ok ov T true->h'.objs.size=s.heap.objs.size->(∀c o,c≠it->s.heap.get? c=some o->h'.get? c=some o)->Q false {s with heap:=h' }):wpAny (model prog w) A (abN (.ref it)) Q E s:=by
 refine gT (abA h rfl (x:=aeR T) rfl ?_);refine gT (Qb ?_);rw[show((T:Int)).toNat=T by rfl,k];refine gT (abA h rfl (x:=.bool b) rfl ?_)
 cases b with
 |true=>exact Ld (a s.heap h rfl λc o _ q=>q)
 |false=>
  refine gT (aaV h (by simp) λg e s1=>?_);exact Ld (a g e s1.1 λc o f q=>s1.extBut c o f q)
def Gh{j:Nat}{k v:Ad}{Q:Ad->Io->Prop}(h:o3 s.heap it d j n ep ok ov T b)(g:s.heap.get? T=some o)
  (e:∀h',o3 h' it d j n ep ok ov T true->h'.get? s.heap.objs.size=some {cls:=.type "tuple",data:=.seq #[k,v]}->h'.objs.size=s.heap.objs.size+1 ->
   (∀c o,c≠it->s.heap.get? c=some o->h'.get? c=some o)->Q (.ref s.heap.objs.size) {s with heap:=h' }):wpAny (model prog w) A (abZ (.ref it) 6 k v) Q E s:=by
 have lt:=aaq h;have p:∀c o,s.heap.get? c=some o->(s.heap.push {cls:=.type "tuple",data:=.seq #[k,v]}).get? c=some o:=λc o q=>LD _ q;refine gT (m:=abN _) (LS (p _ _ h) (p _ _ g) λh' a1 a2 a=>?_);refine Ld (e h' a1 (a _ _ (abt lt) (aap _ rfl)) (a2.trans (abz ..)) λc o f q=>a c o f (p c o q))
def FB(h:o3 s.heap it d i es.size ep ok ov T b)(l:s.heap.get? T=some o)(C:T≠it)(B:EntAt s.heap d es ep)(H:i<es.size)
  (G:∀h',o3 h' it d (i+1) es.size ep ok ov T true->h'.get? s.heap.objs.size=some {cls:=.type "tuple",data:=.seq #[es[i].key,es[i].val]}->h'.objs.size=s.heap.objs.size+1 ->
   (∀c o,c≠it->s.heap.get? c=some o->h'.get? c=some o)->Q (some (.ref s.heap.objs.size)) {s with heap:=h' }):wpAny (model prog w) A (acP (.ref it)) Q E s:=by
 let⟨M,f,K,j⟩:=B.ex;have a:s.TypeIs (.ref it) "dict_itemiterator":=(⟨_,h,rfl⟩);have own:abP "dict_itemiterator" = true:=by decide
 unfold acP;refine gT (adH (aaZ (name:=ab8 "__next__") a aa5 (abb aa5 a ab7 ?_ (ab3 _))))
 wp_walk using uh a,aeT h rfl,acF f j,adO f j,aba a
 have F:(if (i:Int)<0 then none else es[((i:Nat):Int).toNat]?)=some es[i]:=by
  rw[if_neg (by omega),aaN,ab4 H]
 rw[F];rcases s with⟨y,g,p,t,os⟩;refine gT ?_;refine gT (uh a (Ld ?_));refine gT (m:=aeU _ _) (aba a ?_);show wpAny _ _ (adG (.ref it) 3 (aeR ((i:Int)+1)) >>= _) _ _ _;refine gT (aaV h (by simp) λe I s1=>?_);replace s1:abW it y e:=s1;have k:o3 e it d (i+1) es.size ep ok ov T b:=by
  have q:((i+1:Nat):Int)=(i:Int)+1:=rfl;unfold o3;rw[q];simpa[aeR]using I
 have x:afl ⟨e,g,p,t,os⟩ (.ref it) "dict_itemiterator":=(⟨_,k,rfl⟩);refine gT (abU (gT (aba x (gT (aba x ?_)))));show wpAny _ _ (abZ (.ref it) 6 es[i].key es[i].val) _ _ ⟨e,g,p,t,os⟩;have J:e.objs.size=y.objs.size:=s1.1;refine Gh (s:=⟨e,g,p,t,os⟩) k (s1.extBut T o C l) λD L r z k2=>?_;rw[J]at r z⊢;exact Ld ⟨_,rfl,Ld (G D L r z λc o u q=>k2 c o u (s1.extBut c o u q))⟩
def Dw(p:A.handled=none)(h:o3 s.heap it d i es.size ep ok ov T b)(u:EntAt s.heap d es ep)(k:es.size≤i)
  (j:∀h',(∀c o,c≠it->s.heap.get? c=some o->h'.get? c=some o)->Q none {s with heap:=h' }):wpAny (model prog w) A (acP (.ref it)) Q E s:=by
 let⟨F,a,x,f⟩:=u.ex;have g:s.TypeIs (.ref it) "dict_itemiterator":=(⟨_,h,rfl⟩);have own:abP "dict_itemiterator" = true:=by decide
 unfold acP;refine gT (adH (aaZ (name:=ab8 "__next__") g aa5 (abb aa5 g ab7 ?_ (ab3 _))))
 wp_walk using uh g,aeT h rfl,acF a f,adO a f,aba g
 have l:(if (i:Int)<0 then none else es[((i:Nat):Int).toNat]?)=none:=by
  rw[if_neg (by omega),aaN,afL k]
 rw[l];refine gT (gT (uh g (Ld ?_)));refine gT (m:=adG (.ref it) 2 .none) (aaV h (by simp) λD C s1=>?_);refine rq p λB e k2 ⟨t,z,r⟩=>?_;exact gT (adm (T:= "StopIteration") (b:=true) ⟨t,z,r⟩ af9 (Ld (j B λc o y q=>k2 c o (s1.extBut c o y q))))
structure Nx(prog:aaK)(w:World)(A:abf)(S it:Addr)(n:Nat)(St:Nat->aaT->Prop)(P:aaT->Nat->Ad->Prop):Prop where
 item:∀(i:Nat) (s:Io) (Q:Option Ad->Io->Prop) (E:Ad->Io->Prop),i<n->St i s.heap->(∃o,s.heap.get? S=some o)->(∀h' v,St (i+1) h'->P h' i v->(∀c o,c≠it->s.heap.get? c=some o->h'.get? c=some o)->Q (some v) {s with heap:=h' })->wpAny (model prog w) A (acP (.ref it)) Q E s
 done:∀(s:Io) (Q:Option Ad->Io->Prop) (E:Ad->Io->Prop),St n s.heap->(∀h',(∀c o,c≠it->s.heap.get? c=some o->h'.get? c=some o)->Q none {s with heap:=h' })->wpAny (model prog w) A (acP (.ref it)) Q E s
 keep:∀i h h',St i h->h'.objs.size=h.objs.size->(∀c o,c≠S->h.get? c=some o->h'.get? c=some o)->St i h'
 more:∀h h' i v,P h i v->(∀c o,c≠S->c≠it->h.get? c=some o->h'.get? c=some o)->P h' i v
def oX(h:aaT)(S:Addr)(acc:Array Ad)(c:Nat):Prop:=h.get? S=some {cls:=.type "list",data:=.seq acc c}
theorem vJ{S it:Addr}{n:Nat}{St:Nat->aaT->Prop}{P:aaT->Nat->Ad->Prop}{R:Result->Io->Prop}{r:Ad}(N:Nx prog w A.in1 S it n St P)(ne:S≠it)(G:n≤aal):∀(k i:Nat) (s:Io) (acc:Array Ad) (c:Nat),n-i=k->i≤n->St i s.heap->oX s.heap S acc c->acc.size=i->(∀j v,acc[j]?=some v->P s.heap j v) ->
  (∀h' a c',(∀b o,b≠it->b≠S->s.heap.get? b=some o->h'.get? b=some o)->oX h' S a c'->a.size=n->(∀j v,a[j]?=some v->P h' j v)->R (.ok (.ret r)) {s with heap:=h' })->adL (model prog w) A (.builtin "list.extend.loop" ⟨[.ref S,.ref it,r],[]⟩) R s
 |0,i,s,acc,c,hk,hi,st,hl,ha,hp,fin=>by
  have e:i=n:=by omega
  subst e;refine ac6 agi ((aep adx _).symm▸?_);refine gT (m:=acP (.ref it)) (N.done s _ _ st λh' kp=>Ld (fin h' acc c (λb o nb _ q=>kp b o nb q) (kp S _ ne hl) ha λj v e=>N.more _ _ _ _ (hp j v e) λc o _ g q=>kp c o g q))
 | k+1,i,s,acc,c,hk,hi,st,hl,ha,hp,fin=>by
  refine ac6 agi ((aep adx _).symm▸?_);refine gT (m:=acP (.ref it)) (N.item i s _ _ (by omega) st ⟨_,hl⟩ λh' v p B kp=>?_);have h:oX h' S acc c:=kp S _ ne hl;refine gT (m:=updateSeq S (·.push v)) (afU (s:={s with heap:=h' }) h rfl (Ld ⟨agr adx _,?_⟩) (by rw[ha];exact aaw ‹_› ‹_›) (by show(acc.push v).size≤aal+1;rw[ag9,ha];omega));have up:∀b o,b≠S->h'.get? b=some o->(h'.update S (act (·.push v))).get? b=some o:=λb o nb q=>(acX _ _ (abO nb)).trans q;have l:∀j u,(acc.push v)[j]?=some u->P (h'.update S (act (·.push v))) j u:=λj u e=>by
   rw[Array.getElem?_push]at e
   split at e
   .rename_i z;rw[ha]at z;subst z;rw[<-aas e];exact N.more _ _ _ _ B λc o g _ q=>up c o g q
   .exact N.more _ _ _ _ (hp j u e) λc o g F q=>up c o g (kp c o F q)
  refine vJ N ne G k (i+1) _ (acc.push v) _ (by omega) (by omega) (N.keep _ _ _ p (aeh ..) up) (ada _ h rfl) (by rw[ag9,ha]) l λC f x k2 t D y=>fin C f x (λb o n1 n2 q=>k2 b o n1 n2 (up b o n2 (kp b o n1 q))) t D y
end
section
variable {prog:aaK}{w:World}{A:abf}{E:Ad->Io->Prop}{s:Io}{f d S:Addr}{es:Array ab0}{i g:Nat}{ok r:Ad}
def StI(S f d:Addr)(es:Array ab0)(g:Nat)(i:Nat)(h:aaT):Prop:=EntAt h d es g/\h.objs.size=f+1+i/\((∃ok r,ac1 h f d i es.size g ok r)\/∃k v T b o,o3 h f d i es.size g k v T b/\h.get? T=some o/\T≠f/\T≠S)
def PrI(S f:Addr)(es:Array ab0)(h:aaT)(i:Nat)(v:Ad):Prop:=S<f/\v = .ref (f+1+i)/\∃a:i<es.size,h.get? (f+1+i)=some {cls:=.type "tuple",data:=.seq #[es[i].key,es[i].val]}
def AC(f:Addr)(i:Nat):f+1+i≠f:=abt (aav (abv f) (aco _ i))
def AU{S f:Addr}(h:S<f)(i:Nat):f+1+i≠S:=abt (ad5 h (aav (abv f) (aco _ i)))
theorem DQ(F:A.handled=none)(n1:S<f)(n2:S≠d)(D:f≠d):Nx prog w A S f es.size (StI S f d es g) (PrI S f es) where
 item:=by
  intro i s Q E m ⟨j,z,c⟩ ⟨I,H⟩ t;rcases c with⟨ok,r,c⟩|⟨k,v,T,b,o,c,C,u,B⟩
  .refine CF c j m λy a1 a2 x p=>?_;rw[z]at a1 a2 x⊢;exact t y _ ⟨j.keep λo q=>p d o (abO D) q,x,.inr ⟨_,_,_,false,_,a1,a2,(AC f i),(AU n1 i)⟩⟩ ⟨n1,rfl,m,a2⟩ p
  .refine FB c C u j m λy a1 a2 x p=>?_;rw[z]at a2 x⊢;exact t y _ ⟨j.keep λo q=>p d o (abO D) q,x,.inr ⟨_,_,_,true,o,a1,p T o u C,u,B⟩⟩ ⟨n1,rfl,m,a2⟩ p
 done:=by
  intro s Q E ⟨j,z,c⟩ t;rcases c with⟨ok,r,c⟩|⟨k,v,T,b,o,c,_⟩
  .exact Cu F c j (aab _) t
  .exact Dw F c j (aab _) t
 keep:=by
  intro i h y ⟨j,z,c⟩ G k;refine⟨j.keep λo q=>k d o (abO n2) q,G.trans z,?_⟩;rcases c with⟨ok,r,c⟩|⟨a,v,T,b,o,c,C,u,B⟩
  .exact .inl ⟨ok,r,k f _ (abt n1) c⟩
  .exact .inr ⟨a,v,T,b,o,k f _ (abt n1) c,k T o B C,u,B⟩
 more:=by intro h y i v ⟨l,e,m,q⟩ k;exact⟨l,e,m,k _ _ (AU n1 i) (AC f i) q⟩
def Cg{Q:Ad->Io->Prop}(c:s.heap.get? v=some {cls:=.type "dict_items",data:=.fields #[.ref d]})(k:EntAt s.heap d es g)
  (j:∀h',ac1 h' s.heap.objs.size d 0 es.size g .none .none->h'.objs.size=s.heap.objs.size+1->(∀b o,s.heap.get? b=some o->h'.get? b=some o)->Q (.ref s.heap.objs.size) {s with heap:=h' }):wpAny (model prog w) A (afz (.ref v)) Q E s:=by
 let⟨m,h,l,a⟩:=k.ex;have e:s.TypeIs (.ref v) "dict_items":=(⟨_,c,rfl⟩);have own:abP "dict_itemiterator" = true:=by decide
 refine wpAny_pyIter_slot e aeA (abb aeA e PySem.F.entry_dict_items_iter ?_ (PySem.F.args_dict_items_iter_1 _));refine gT (Ld (gT (gT (abA c rfl (x:=.ref d) rfl (Ld (gT (gT (acF h a (gT (adO h a ?_))))))))));simp only[own,if_true];refine abc (Ld ⟨_,rfl,"dict_itemiterator",_,⟨_,aap _ rfl,rfl⟩,PySem.F.slot_dict_itemiterator_next.lookup,?_⟩) (by simp only[sizeOk,acB.Dict_items.ownedTupleFields,aaI,aan,aaB,adN,aak];decide);exact j _ (aap _ rfl) (abz ..) λb o q=>LD _ q
def yY:typeLookup (.type "dict_items") "__len__" = pure (some (.builtin "dict_items.__len__")):=by rfl
theorem yy{Q:Bool->Io->Prop}(a:s.TypeIs (.ref v) "dict_items")(h:Q false s):wpAny (model prog w) A (acn (.ref v)) Q E s:=by
 rw[acn];refine gT (aey a yY ?_);have c:splitId "dict_items.__len__" = some ("dict_items","__len__"):=by decide +kernel
 dsimp only;rw[c];dsimp only;refine gT (adm (b:=true) a (by rw[isSubtype_type];kernel_rfl) ?_);rw[if_neg (by decide)];rw[if_pos (by decide +kernel)];exact gT (acV a (Ld h))
def OI{c:Nat}{Q:Unit->Io->Prop}(a:oX s.heap S #[] c)(h:∀h' c',oX h' S #[] c'->h'.objs.size=s.heap.objs.size->(∀b o,b≠S->s.heap.get? b=some o->h'.get? b=some o)->Q () {s with heap:=h' }):wpAny (model prog w) A (acB.List.listTouch (.ref S)) Q E s:=by
 refine gT (afU a rfl ?_ (by simp) (by trivial));have l:oX (s.heap.update S (act (·.push .none))) S (#[].push .none) _:=ada _ a rfl;refine afU l rfl ?_ (by show(1:Nat)≤aal;rw[aak];decide) (by trivial);have e:oX ((s.heap.update S (act (·.push .none))).update S (act (·.pop))) S #[] _:=ada _ l rfl;exact h _ _ e ((aeh ..).trans (aeh ..)) λb o nb q=>(acX _ _ (abO nb)).trans ((acX _ _ (abO nb)).trans q)
def Fj{T:String}{c:Nat}{St:Addr->Nat->aaT->Prop}{R:Result->Io->Prop}(t:s.TypeIs (.ref v) T)(k:T = "dict_items" \/ T = "dict")(U:S≠v)(W:oX s.heap S #[] c)(L:n≤aal)
  (h:∀(s:Io) (Q:Bool->Io->Prop) (E:Ad->Io->Prop),s.TypeIs (.ref v) T->Q false s->wpAny (model prog w) A.in1 (acn (.ref v)) Q E s)
  (a:∀(Q:Ad->Io->Prop) (E:Ad->Io->Prop),(∀h' f,f≠S->Nx prog w A.in1 S f n (St f) (P f)->St f 0 h'->(∀b o,s.heap.get? b=some o->h'.get? b=some o)->s.heap.get? f=none->Q (.ref f) {s with heap:=h' })->wpAny (model prog w) A.in1 (afz (.ref v)) Q E s)
  (m:∀f h' (acc:Array Ad) c',(∀b o,b≠S->s.heap.get? b=some o->h'.get? b=some o)->oX h' S acc c'->acc.size=n->(∀j u,acc[j]?=some u->P f h' j u)->R (.ok (.ret (.ref S))) {s with heap:=h' }):adL (model prog w) A (.builtin "list.__iadd__" ⟨[.ref S,.ref v],[]⟩) R s:=by
 refine ac6 F.entry_list_iadd ((aep F.plain_list_iadd _).symm▸?_);show wpAny _ A.in1 (aeE (.ref S) (.ref v) (.ref S)) _ _ _;refine gT ?_;refine acV t ?_;have H:adJ (.ref S) (.ref v)=false:=by simp[adJ,U]
 rw[H,if_neg (by rcases k with rfl|rfl<;>decide)];refine gT (a _ _ λx f K N O k1 nn=>?_);have p:afl {s with heap:=x} (.ref v) T:=by
  let⟨o,G,I⟩:=t;exact⟨o,k1 _ _ G,I⟩
 refine gT (abU (h _ _ _ p ?_));dsimp only;rw[if_pos (by rcases k with rfl|rfl<;>decide)];refine gT (acI (gT (OI (s:={s with heap:=x}) (k1 _ _ W) λY D M l k2=>?_)));refine Ld ⟨agr adx _,vJ N (abO K) L n 0 _ #[] D rfl (abh _) (N.keep _ _ _ O l k2) M rfl (λj u e=>by simp at e) λV acc J B X C y=>m f V acc J (λb o nb q=>B b o (λz=>by rw[z,nn]at q;cases q) nb (k2 b o nb (k1 b o q))) X C y⟩
def yB{T:String}{St:Addr->Nat->aaT->Prop}{Q:List Ad->Io->Prop}(B:s.TypeIs (.ref v) T)(e:T = "dict_items" \/ T = "dict")(H:n≤aal)
  (a:∀(s:Io) (Q:Bool->Io->Prop) (E:Ad->Io->Prop),s.TypeIs (.ref v) T->Q false s->wpAny (model prog w) A.in1 (acn (.ref v)) Q E s)
  (c:∀(s1:Io) (Q:Ad->Io->Prop) (E:Ad->Io->Prop),(∀b o,s.heap.get? b=some o->s1.heap.get? b=some o)->(∃o,s1.heap.get? s.heap.objs.size=some o)->(∀h' f,f≠s.heap.objs.size->Nx prog w A.in1 s.heap.objs.size f n (St f) (P f)->St f 0 h'->(∀b o,s1.heap.get? b=some o->h'.get? b=some o)->s1.heap.get? f=none->Q (.ref f) {s1 with heap:=h' })->wpAny (model prog w) A.in1 (afz (.ref v)) Q E s1)
  (t:∀f h' (acc:Array Ad),(∀b o,s.heap.get? b=some o->h'.get? b=some o)->s.heap.objs.size<h'.objs.size->acc.size=n->(∀j u,acc[j]?=some u->P f h' j u)->Q acc.toList {s with heap:=h' }):wpAny (model prog w) A (collect (.ref v)) Q E s:=by
 have new:oX _ s.heap.objs.size #[] 0:=aap _ rfl;have x:∀b o,s.heap.get? b=some o->(s.heap.push {cls:=.type "list",data:=.seq #[]}).get? b=some o:=λb o q=>LD _ q;have C:s.heap.objs.size≠v:=by
  let⟨o,q,_⟩:=B;exact abt (aaq q)
 have y:afl {s with heap:=s.heap.push {cls:=.type "list",data:=.seq #[]} } (.ref v) T:=by
  let⟨o,D,G⟩:=B;exact⟨o,x _ _ D,G⟩
 refine gT (m:=runValue _) (wpAny_runValue (ac6 F.entry_proto_collect (gT (m:=agI []) (abc (Ld ⟨agr F.plain_list_iadd _,?_⟩)))));refine Fj y e C new H a (λQ E h=>c {s with heap:=s.heap.push {cls:=.type "list",data:=.seq #[]} } Q E x ⟨_,new⟩ h) λf h' acc I k l z p=>?_;refine gT (m:=load s.heap.objs.size) (wpAny_load l ?_);exact Ld (t f h' acc (λb o q=>k b o (aa0 (aaq q)) (x b o q)) (aaq l) z p)
end
end L2
namespace L2
open PySem PySem.Spec PySem.W PyProof.Rows
variable{vs:List Ad}{ds:List aD}{B a b:Addr}{n:Nat}{g:Nat->HO}{kvs:List (aD×aD)}{es:List (V×V)}{o:Expr}{apos cpos p0 pos:Pos}
section
variable {prog:aaK}{w:World}{A:abf}{E:Ad->Io->Prop}{s:Io}
def Oa(h h':aaT):Prop:=∀b o,h.get? b=some o->o.cls = .type "tuple" -> h'.get? b=some o
theorem vP{h h':aaT}{k:Nat}(K:Oa h h')(I:∀x y u as,x.depth≤k->smD x y=true->Reads h u x as->∃bs,Reads h' u x bs):∀(xs ys:List aD) us as,aay xs≤k->smDs xs ys=true->adF h us xs as->∃bs,adF h' us xs bs
 |[],ys,us,as,_,_,r=>by cases r;exact⟨[],.nil⟩
 | x::xs,ys,us,as,hk,sm,r=>by
  cases ys with
  |nil=>exact absurd sm (by simp only[smDs];decide)
  | cons y ys=>
   simp[smDs]at sm;have e:max x.depth _≤k:=hk
   cases r with
   |cons r1 c=>
    let⟨b1,d⟩:=I x y _ _ (by omega) sm.1 r1;let⟨b2,q⟩:=vP K I xs ys _ _ (by omega) sm.2 c;exact⟨_,.cons d q⟩
theorem BJ{h h':aaT}(K:Oa h h'):∀(k:Nat) (x y:aD) (u:Ad) (as:List Addr),x.depth≤k->smD x y=true->Reads h u x as->∃bs,Reads h' u x bs
 |k,.int a,y,u,as,_,_,r=>by cases r;exact⟨_,.int _ _⟩
 |0,.tuple xs,y,u,as,hk,_,_=>absurd hk (by show ¬aay xs+1≤0;contradiction)
 | k+1,.tuple xs,y,u,as,hk,sm,r=>by
  cases y with
  | tuple f=>
   have i:aay xs+1≤k+1:=hk
   cases r with
   |tuple e c q z=>
    let⟨bs,d⟩:=vP K (BJ K k) xs f _ _ (by omega) sm z;exact⟨_,.tuple (K _ _ e c) c q d⟩
  |_=>exact absurd sm (by simp only[smD];decide)
 |k,.none,y,u,as,_,sm,_=>absurd sm (by simp only[smD];decide)
 |k,.bool _,y,u,as,_,sm,_=>absurd sm (by simp only[smD];decide)
 |k,.str _,y,u,as,_,sm,_=>absurd sm (by simp only[smD];decide)
 |k,.list _,y,u,as,_,sm,_=>absurd sm (by simp only[smD];decide)
 |k,.dict _,y,u,as,_,sm,_=>absurd sm (by simp only[smD];decide)
theorem yU{f r:Bool}{Q:Bool->Io->Prop}(q:Q r s):∀(ps:List (Ad×Ad)) (i:Nat),zQ A s f r ps->KatLex prog w A false f Q ps i s
 |[],i,h=>kat_nil (by have c:=h;rw[<-c];exact q)
 |p::ps,i,⟨e,he,h1,h2⟩=>by
  refine kat_cons (he prog w _ _ ?_)
  cases e with
  |true=>exact kat_yes (yU q ps _ (h1 rfl))
  |false=>exact kat_no (kat_one _ _ (h2 rfl prog w _ _ q))
def RdL(h:aaT):List Ad->List aD->Prop
 |[],[]=>True
 |v::vs,d::ds=>(∃c,Reads h v d c)/\RdL h vs ds
 |_,_=>False
theorem RdL.len{h:aaT}:∀{vs:List Ad}{ds:List aD},RdL h vs ds->vs.length=ds.length
 |[],[],_=>rfl
 |v::vs,d::ds,t=>by rw[aaB,aaB,RdL.len t.2]
 |[],_::_,t=>t.elim
 |_::_,[],t=>t.elim
theorem RdL.get{h:aaT}:∀{vs:List Ad}{ds:List aD}{i:Nat},RdL h vs ds->i<vs.length->∃as,Reads h (vs.getD i .none) (ds.getD i .none) as
 |[],[],_,_,z=>by simp at z
 |v::vs,d::ds,0,t,_=>t.1
 |v::vs,d::ds,i+1,t,z=>by
  rw[List.getD_cons_succ];exact RdL.get t.2 (by simp_all)
 |[],_::_,_,t,_=>(t.elim)
 |_::_,[],_,t,_=>(t.elim)
def tt1:aD->Bool
 | .tuple (.tuple _::_)=>true
 |_=>false
theorem Ci{h:aaT}:∀{vs:List Ad}{ds:List aD},RdL h vs ds->(∀d∈ds,tt1 d=true)->∃fs,KatTups h vs fs/\fs.length=vs.length/\∀v∈fs,∃b o,v = .ref b/\h.get? b=some o/\o.cls = .type "tuple"
 |[],[],_,_=>⟨[],.nil,rfl,λ_ h=>by cases h⟩
 | v::vs,d::ds,⟨⟨as,r⟩,t⟩,hd=>by
  let⟨fs,k1,k2,m⟩:=Ci t λx f=>hd x (aaf _ f);have j:=hd d aae;let⟨y,k,rfl⟩:∃y k,d = .tuple (.tuple y::k):=by
   unfold tt1 at j
   split at j
   .exact⟨_,_,rfl⟩
   .cases j
  cases r with
  | tuple e c q z=>
   rename_i a o i n;generalize l:i.toList=L at z
   cases z with
   | cons r1 G=>
    rename_i u I F bs;have D:i[0]?=some u:=by
     rw[<-acw,l];rfl
    cases r1 with
    |tuple C p H J=>
     refine⟨_::fs,.cons e c q D k1,by rw[aaB,aaB,k2],λx f=>?_⟩;exact(aah.mp f).elim (λz=>by subst z;exact⟨_,_,rfl,C,p⟩) (m x)
 |[],_::_,t,_=>t.elim
 |_::_,[],t,_=>t.elim
theorem RdL.keep{h h':aaT}(K:Oa h h'):∀{vs:List Ad}{ds:List aD},(∀d∈ds,smD d d=true)->RdL h vs ds->RdL h' vs ds
 |[],[],_,_=>trivial
 |v::vs,d::ds,hs,⟨⟨as,r⟩,t⟩=>⟨BJ K d.depth d d v as (aab _) (hs d aae) r,RdL.keep K (λx c=>hs x (aaf _ c)) t⟩
 |[],_::_,_,t=>t.elim
 |_::_,[],_,t=>t.elim
structure SrtOk(ds:List aD):Prop where
 n:ds.length<64
 sm:∀x∈ds,∀y∈ds,smD x y=true
 tt:∀x∈ds,tt1 x=true
 dp:∀x∈ds,x.depth≤7
theorem P6{u v:Ad}{x y:aD}{as bs:List Addr}{Q:Bool->Io->Prop}(r1:Reads s.heap u x as)(r2:Reads s.heap v y bs)(sm:smD x y=true)(d:tt1 x=true)(t:tt1 y=true)(i:A.units+x.depth<cLine)(h:Q (ltD x y) s):wpAny (model prog w) A (keyLt' (tuples' false) u v) Q E s:=by
 let⟨a1,b1,rfl⟩:∃a b,x = .tuple (.tuple a::b):=by
  unfold tt1 at d
  split at d
  .exact⟨_,_,rfl⟩
  .cases d
 let⟨a2,b2,rfl⟩:∃a b,y = .tuple (.tuple a::b):=by
  unfold tt1 at t
  split at t
  .exact⟨_,_,rfl⟩
  .cases t
 cases r1 with
 | tuple e c q z=>
  cases r2 with
  |tuple j r k l=>
   have f:A.units+(aay _+1)<cLine:=i;let⟨C,p⟩:=lQ (wn _) A s _ _ _ _ _ _ (aab _) z l sm (by exact acz ‹_›);have m:Q (ltDs (.tuple a1::b1) _) s:=h;refine kat_lt e q j k (yU m _ 0 ?_)
   grind
def ordP(ds:List aD)(p:List Nat):Prop:=p.Perm (aax ds.length)/\∀i j,i<j->j<ds.length->ltD (ds.getD (p.getD i 0) .none) (ds.getD (p.getD j 0) .none)=true
def K9(r6:RdL s.heap vs ds)(ok:SrtOk ds)(K:TotF ds.length λi j=>ltD (ds.getD i .none) (ds.getD j .none))(L:2≤vs.length)(M:A.units+7<cLine) :
  wpAny (model prog w) A ((sortRuns').run (SortSt.mk' (tuples' false) (vs.toArray.zip vs.toArray) #[] 7 none)) (λr s'=>∃q:List Nat,ordP ds q/\(arrOf r.2).map (·.2)=(q.map λi=>vs.getD i .none).toArray/\q.length=vs.length/\failedOf r.2=none/\s'=s) E s:=by
 have h:=r6.len;have D:=ok.n;let⟨q,eq,t,u⟩:=Gi K (by omega);refine kat_run (ks:=vs) (Q:=λc s'=>∃q:List Nat,ordP ds q/\(arrOf c).map (·.2)=(q.map λi=>vs.getD i .none).toArray/\q.length=vs.length/\failedOf c=none/\s'=s)
  (G:=λp s'=>p=q/\s'=s) rfl (by omega) (by omega) (λp c s' H I z y=>by
   let⟨rfl,rfl⟩:=y;refine⟨p.toList,⟨t.pm,λi j e d=>?_⟩,kat_snds rfl I,by simpa using H,z,rfl⟩;have m:∀k,k<ds.length->p.toList.getD k 0=pA p k:=λk J=>by
    rw[aat,acw,dU (by rw[t.sz];exact J)];rfl
   rw[m i (by omega),m j d];exact u i j e d) ?_
 rw[h];refine zo (λi j C x d F=>?_) _ q eq ⟨rfl,rfl⟩;have f:i<ds.length:=x;have l:j<ds.length:=d;let⟨N,r1⟩:=r6.get (i:=i) (by omega);let⟨bs,v⟩:=r6.get (i:=j) (by omega);have m1:ds.getD i .none∈ds:=by rw[bu (lD f)];exact adn _
 have m2:ds.getD j .none∈ds:=by rw[bu (lD l)];exact adn _
 exact P6 r1 v (ok.sm _ m1 _ m2) (ok.tt _ m1) (ok.tt _ m2) (by have:=ok.dp _ m1;omega) F
theorem qL{P:PySem.Fin->Io->Prop}(u:s.heap.get? a=some (acS "list" vs.toArray n))(C:RdL s.heap vs ds)(ok:SrtOk ds)(X:TotF ds.length λi j=>ltD (ds.getD i .none) (ds.getD j .none))(Q:A.units+7<cLine)
  (h:∀p:List Nat,ordP ds p->P (.done (.ret .none)) {s with heap:=afN s.heap a vs (p.map λi=>vs.getD i .none).toArray}):wpAny (model prog w) A
  (acB.«list.sort» ⟨[.ref a],[]⟩) P E s:=by
 have k:=C.len;have N:=ok.n;rw[list_sort_plain];have r:(s.heap.update a (act λ_=>#[])).get? a=some (acS "list" #[] _):=get?_update_seq u λ_=>#[];have f:(((s.heap.update a (act λ_=>#[])).push (acS "tuple" vs.toArray 0)).push (acS "list" #[] 0)).get? a=some (acS "list" #[] _):=LD _ (LD _ r);refine gT (agN u rfl (gT (afg u rfl (gT (seqEpoch_at r rfl (gT (m:=newTuple _) (af8 (gT (m:=agI _) (afh (abU ?_))))))))));have r6:RdL (((s.heap.update a (act λ_=>#[])).push (acS "tuple" vs.toArray 0)).push (acS "list" #[] 0)) vs ds:=C.keep (λb o e c=>by
  have H:b≠a:=λz=>by
   rw[z,u]at e;have U:o.cls=adf "list":=by rw[<-aas e]
   rw[U]at c;exact absurd c (by decide)
  refine LD _ (LD _ ?_);rw[aaT.get?_update_ne _ _ _ _ H];exact e) λd hd=>ok.sm d hd d hd
 generalize D:((s.heap.update a (act λ_=>#[])).push (acS "tuple" vs.toArray 0)).push (acS "list" #[] 0)=x at f r6;have sH:afN s.heap a vs=λout=>afN s.heap a vs out:=rfl;change wpAny _ A _ P E ({s with heap:=x}:Io);dsimp only;have G:(vs.toArray:Array Ad).size=vs.length:=aaI
 by_cases t:(vs.toArray:Array Ad).size<2
 .rw[if_pos t,if_pos t];refine gT (Ld ?_);rw[StateT.run_pure];refine gT (Ld ?_);dsimp only;refine gT (seqEpoch_at f rfl ?_);refine gT (afg f rfl ?_ (hsz2:=by rw[Array.size_map];show(pairsOf vs).size≤_;rw[pairsOf_size,aak];omega));simp only[if_false,ab5,bne_self_eq_false];refine Ld ?_;have l:=h (aax ds.length) ⟨List.Perm.refl _,λi j F Z=>by omega⟩;have R:((aax ds.length).map λi=>vs.getD i .none).toArray=(arrOf (SortSt.mk' general' (vs.toArray.zip vs.toArray) #[] 7 none)).map (·.2):=by
   show _=(vs.toArray.zip vs.toArray).map (·.2);apply Array.toList_inj.mp;rw[Array.toList_map,Array.toList_zip];refine acg λi=>?_
   by_cases y:i<vs.length
   .simp[ab1,y,<-k]
   .simp[ab1,y,<-k]
  rw[R]at l;unfold afN at l;rw[D]at l;exact l
 .rw[if_neg t,if_neg t];let⟨fs,k1,k2,L⟩:=Ci r6 ok.tt;refine gT (kat_kind (s:={s with heap:=x}) (T:=.type "tuple") k1 (by omega) (λv I=>?_) rfl ?_)
  .obtain⟨b,o,rfl,e1,c1⟩:=L v I;exact λY Q' E' J K q=>acV ⟨o,K _ _ e1,c1⟩ q
  rw[show(adf "tuple" != adf "tuple")=false by decide];refine gT (acq (K9 (s:={s with heap:=x}) r6 ok X (by omega) Q) ?_ λ_ _ e=>e);rintro⟨⟨⟩,O⟩ J ⟨q,W,V,S,M,rfl⟩;dsimp only;rw[V];refine gT (seqEpoch_at f rfl ?_);refine gT (afg f rfl ?_ (hsz2:=by simp;rw[S,aak];omega));rw[M];simp only[if_false,ab5,bne_self_eq_false];have l:=h q W;unfold afN at l;rw[D]at l;exact Ld l
end
section
variable {prog:aaK}{w:World}{A:abf}{E:Ad->Io->Prop}{s:Io}
theorem yt{v:Ad}{C:aaT->List Ad->Prop}{Q:Ad->Io->Prop}(ok:SrtOk ds)(u:TotF ds.length λi j=>ltD (ds.getD i .none) (ds.getD j .none))(F:A.units+10<cLine)
  (k:∀(P:List Ad->Io->Prop) (E:Ad->Io->Prop),(∀h' vs,(∀b o,s.heap.get? b=some o->h'.get? b=some o)->RdL h' vs ds->C h' vs->P vs {s with heap:=h' })->wpAny (model prog w) A.in1 (collect v) P E s)
  (h:∀(c f:aaT) (vs:List Ad) (p:List Nat) (L:Addr) (e:Nat),(∀b o,s.heap.get? b=some o->c.get? b=some o)->C c vs->RdL c vs ds->(∀b o,c.get? b=some o->f.get? b=some o)->L=c.objs.size->f.get? L=some (acS "list" (p.map λi=>vs.getD i .none).toArray e)->ordP ds p->Q (.ref L) {s with heap:=f}) :
  wpAny (model prog w) A (call (.builtin "sorted") [v]) Q E s:=by
 refine ae0 kind_sorted plain_sorted entry_sorted (args:=_) (args_sorted1 v) ?_;refine gT (m:=checkCount "sorted" 1 1 _) (Ld (gT (k _ _ λc vs k1 r1 t=>gT (m:=agI vs) (afh ?_ (hsz:=by rw[r1.len,aak];have:=ok.n;omega)))));have at1:(c.push (acS "list" vs.toArray 0)).get? c.objs.size=some (acS "list" vs.toArray 0):=aap _ rfl;have k2:∀b o,c.get? b=some o->(c.push (acS "list" vs.toArray 0)).get? b=some o:=λb o q=>LD _ q;have r:=r1.keep (λb o q _=>k2 b o q) λd hd=>ok.sm d hd d hd;refine gT (m:=adj _ _) (abU (acq (abb slot_list_sort ⟨_,at1,rfl⟩ entry_list_sort (qL at1 r ok u (show A.units+1+1+7<cLine by exact acz ‹_›) λp y=>⟨_,rfl,?_⟩) (args_list_sort _)) (λD x (q:Q (.ref c.objs.size) x)=>Ld ⟨_,rfl,q⟩) λ_ _ z=>z));let⟨e,l⟩:=sortedHeap_at at1;exact h c _ vs p _ e k1 t r1 (λb o q=>by
  have lt:b<c.objs.size:=aaq q;rw[sortedHeap_old (aa0 lt) (by rw[size_push'];exact ad3 lt)];exact k2 b o q) rfl l y
end
theorem Bh(h:aaT):h.get? h.objs.size=none:=by
 cases e:h.get? h.objs.size with
 |none=>rfl
 |some o=>exact(acH _ (aaq e)).elim
def updR(H:Hp)(B:Addr)(g:Nat->HO):Nat->Hp
 |0=>H
 |n+1=>upd (updR H B g n) (B+n) (g n)
theorem jE{H:Hp}{B:Addr}{g:Nat->HO}{b:Addr}:∀{n:Nat},(∀j,j<n->b≠B+j)->updR H B g n b=H b
 |0,_=>rfl
 |n+1,h=>by
  show upd _ _ _ b=_;rw[aB (h n (abv n))];exact jE λj c=>h j (ad3 c)
theorem vo{H:Hp}{B:Addr}{g:Nat->HO}{j:Nat}:∀{n:Nat},j<n->updR H B g n (B+j)=some (g j)
 |0,h=>absurd h (Nat.not_lt_zero _)
 |n+1,h=>by
  by_cases e:j=n
  .subst e;exact aE
  .show upd _ _ _ _=_;rw[aB (λz=>e (agj z))];exact vo (by omega)
section
variable {X:Cx}{pins:List (Addr×Obj)}{σ:List (Option V)}{H:Hp}{s:Io}{h':aaT}
def Gw(h:b<B):updR H B g n b=H b:=jE λj _=>aa0 (aav h (aco _ _))
def dB{o:HO}(fr:∀j,H (B+j)=none)(h:H b=some o):updR H B g n b=some o:=by
 rw[jE λj _ z=>by rw[z,fr j]at h;cases h];exact h
def Inv.laidR{t':Nat}(I:Inv X pins σ H s)(k:∀b u,s.heap.get? b=some u->h'.get? b=some u)(d:s.heap.objs.size≤B)(new:∀j,j<n->ObjOk X.prog X.w (updR H B g n) h' (B+j) (g j)) :
  Inv X pins σ (updR H B g n) {s with heap:=h',toks:=t' }:=by
 have fr:∀j,H (B+j)=none:=λj=>I.hok.fresh (aaw d (aco _ _));refine I.un ⟨λb u q _ _ _=>k b u q,λb u q _ _ _=>⟨u.slots,k b u q⟩,λb u q n _=>?_,λb u q _=>⟨u,k b u q⟩,λb x q=>dB fr q,λb u x q=>dB fr q,λb p q=>⟨#[],?_⟩⟩ λb u e=>?_
 .rw[Gw (aav (aaq q) d)];exact n
 .rw[dB fr q];simp
 .by_cases hb:∃j,j<n/\b=B+j
  .obtain⟨j,h,rfl⟩:=hb;rw[vo h]at e;rw[<-aas e];exact new j h
  .rw[jE λj h z=>hb ⟨j,h,z⟩]at e;exact(I.hok b u e).stay (λc v _ q=>k c v q) (λc q=>dB fr q) λc x q=>dB fr q
theorem L7{p:List Nat}(h:ordP ds p):(p.map λi=>ds.getD i .none).Perm ds/\(p.map λi=>ds.getD i .none).Pairwise λa b=>ltD a b=true:=by
 have k:p.length=ds.length:=by rw[h.1.length_eq,aaW]
 constructor
 .have e:(aax ds.length).map (λi=>ds.getD i .none)=ds:=acg λi=>by
   by_cases d:i<ds.length
   .simp_all
   .simp_all
  have:=h.1.map λi=>ds.getD i .none;rwa[e]at this
 .refine abG.mpr λi j d f c=>?_;rw[iO]at d f;rw[adq,adq];have:=h.2 i j c (by omega);rwa[bu (lD d),bu (lD f)]at this
theorem IZ(I:Inv X pins σ H s):∀{ds:List aD}{xs:List V}{us:List Ad},(∀d∈ds,d.canLay0=true)->DenAll X.kx H ds xs->Vals xs us->RdL s.heap us ds
 |[],xs,us,_,g,r=>by
  subst g;cases r;trivial
 |d::ds,xs,us,hl,g,r=>by
  let⟨x,f,rfl,c,i⟩:=g
  cases r with
  |cons h t=>exact⟨Den.reads I (aa3 _ (hl d aae)) c h,IZ I (λx e=>hl x (aaf _ e)) i t⟩
def SrtOk.lay(ok:SrtOk ds):∀d∈ds,d.canLay0=true:=λd hd=>(BQ (ok.sm d hd d hd)).1
structure SrtT(ds:List aD):Prop where
 ok:SrtOk ds
 tot:TotF ds.length λi j=>ltD (ds.getD i .none) (ds.getD j .none)
def srtR(ds:List aD)(K:List aD->Prop):Prop:=SrtT ds/\∀d:List aD,d.Perm ds->d.Pairwise (λa b=>ltD a b=true)->K d
theorem z9:∀{xs:List V}{us:List Ad},xs.length=us.length->(∀(j:Nat) (x:V) (u:Ad),xs[j]?=some x->us[j]?=some u->RelV x u)->Vals xs us
 |[],[],_,_=>.nil
 |x::xs,u::us,hl,h=>.cons (h 0 x u rfl rfl) (z9 (by simpa using hl) λj x u e c=>h (j+1) x u ‹_› ‹_›)
 |[],_::_,hl,_=>(ady _ hl).elim
 |_::_,[],hl,_=>(ady _ hl.symm).elim
theorem ut{K:Kd}{H:Hp}:∀{ds:List aD}{xs:List V},ds.length=xs.length->(∀(j:Nat) (d:aD) (x:V),ds[j]?=some d->xs[j]?=some x->Den K H d x)->DenAll K H ds xs
 |[],[],_,_=>by simp[DenAll]
 |d::ds,x::xs,hl,h=>by
  exact⟨x,xs,rfl,h 0 d x rfl rfl,ut (by simpa using hl) λj d x e c=>h (j+1) d x ‹_› ‹_›⟩
 |[],_::_,hl,_=>(ady _ hl).elim
 |_::_,[],hl,_=>(ady _ hl.symm).elim
theorem yN{H:Hp}(fr:∀j,H (B+j)=none)(n:Nat):Pers H (updR H B g n):=⟨λb x q=>dB fr q,λb o u q=>dB fr q⟩
def itmG(es:List (V×V))(j:Nat):HO:=.tup [(es.getD j (.non,.non)).1,(es.getD j (.non,.non)).2]
def uq(B:Addr)(n:Nat):List V:=(aax n).map λj=>.ref (B+j)
theorem uo{K:Kd}{H:Hp}(fr:∀j,H (B+j)=none)(m:PDc K H kvs es):DenAll K (updR H B (itmG es) es.length) (gI kvs) (uq B es.length):=by
 have h:=yN (g:=itmG es) fr es.length;refine ut (by unfold gI uq;rw[iO,iO,aaW,m.length]) λj d x e f=>?_;unfold gI at e;rw[aai]at e;let⟨p,r,rfl⟩:=ad6.mp e;let⟨k,i,d1,t⟩:=Paired.at1 m r;have l:=(AD.mp i).1;unfold uq at f;rw[aai,ab1 l]at f;have c:=aas f;subst c;have q:itmG es j = .tup [k.1,k.2]:=by unfold itmG;rw[bu i]
 exact f8 (SqT.of ((vo l).trans (by rw[q]))) (DenAll.cons (d1.mono h) (DenAll.cons (t.mono h) DenAll.nil))
def DcR(H:Hp)(a:Addr)(es:List (V×V)):Prop:=(∃x,Rd H a (dX a x)/\es=x.map (·.2))\/∃x,Rd H a (.dK x)/\es=x.map λp=>(kV p.1,p.2)
theorem Inv.dcr{X:Cx}{pins:List (Addr×Obj)}{σ:St}{H:Hp}{s:Io}(I:Inv X pins σ H s)(h:DcR H a es):(a==abr)=false/\∃o c f,s.heap.get? a=some o/\o.ExactDict/\o.data = .dict c f/\abK (λ(e:V×V) (d:ab0)=>RelV e.1 d.key/\RelV e.2 d.val) es c.toList:=by
 rcases h with⟨x,e,rfl⟩|⟨x,e,rfl⟩
 .obtain⟨⟨hs,hz,o,c,f,h1,h2,h3,h4⟩,_⟩:=(show ObjOk X.prog X.w H s.heap a (dX a x)from e.ok I.hok);refine⟨hs,o,c,f,h1,h2,h3,?_⟩;clear e hz;generalize c.toList=l at h4;rename_i z;clear z
  induction h4 with
  |nil=>exact .nil
  |cons q _ i=>exact .cons q.2 i
 .obtain⟨hz,hs,vs,kv,o,c,f,h1,h2,h3,h4,h5,h6⟩:=oJ I.hok e;refine⟨hs,o,c,f,h1,h2,h3,?_⟩;generalize c.toList=l at h5;clear h6 h4 h3 h2 hz e
  induction kv generalizing l with
  |nil=>cases h5;exact .nil
  | cons q _ i=>
   cases h5 with
   |cons p k j=>
    rw[aao];refine .cons ⟨?_,?_⟩ (i _ j)
    .rw[<-q.1]at p;exact JI p
    .rw[k];exact q.2
theorem IsDc.dcr{K:Kd}{H:Hp}(h:IsDc K H a kvs):∃es,DcR H a es/\PDc K H kvs es:=by
 rcases h with⟨es,r,g⟩|⟨es,r,_,_,g⟩
 .exact⟨_,.inr ⟨es,r,rfl⟩,Aa g⟩
 .exact⟨_,.inl ⟨es,r,rfl⟩,Ae g⟩
def SG(K:Kd)(to:TE):TE:=λσ H Q=>to σ H λx c=>∃a es kvs,x = .ref a/\DcR c a es/\PDc K c kvs es/\SrtT (gI kvs)/\∀(d:List aD) (B:Addr) (g:Nat->HO) (n:Nat) (L:Addr) (e:List V),d.Perm (gI kvs)->d.Pairwise (λa b=>ltD a b=true)->(∀j,c (B+j)=none)->updR c B g n L=none->DenAll K (upd (updR c B g n) L (.lst e)) d e->Q (.ref L) (upd (updR c B g n) L (.lst e))
theorem DN{to:TE}(hc:X.calm=true)(hu:X.A.units+64<cLine)(hg:Gl X "sorted")(hm:X.mg "sorted" = none)(ho:PE X o to)(A:abo o "items" X.env (eval o X.env)=eval o X.env:=by rfl)(w:(apos.endLine==cpos.line)=true:=by rfl)
  (M:aac [.Call (.Attribute o "items" apos) [] [] cpos] X.env=[(false,eval (.Call (.Attribute o "items" apos) [] [] cpos) X.env)]:=by rfl):PE X (.Call (.Name "sorted" p0) [.Call (.Attribute o "items" apos) [] [] cpos] [] pos) (SG X.kx to):=by
 intro pins s σ H Q I h;refine acs (nH I hg hm ot ?_);refine aee ?_ M rfl;rw[M];refine ags ?_;refine wpAny_Call_method0_late A w (thn (ho pins s σ H _ I h) λv s1 ⟨x,U,I1,r1,q1⟩=>?_);let⟨a,es,kvs,rfl,dc,pd,R,q⟩:=q1;cases r1;let⟨K,ob,c,W,Y,g2,g3,g4⟩:=I1.dcr dc;have he:EntAt s1.heap a c W:=⟨ob,Y,g2,g3⟩;refine⟨"dict","dict.items",afu,afv,PySem.F.type_dict_items,⟨ob,Y,g2.1⟩,λb e=>by cases e;exact⟨ob,Y,g2.2.1⟩,ad2 rfl (PySem.evalArgs_none (yi K he ?_))⟩;refine agE ?_;have kv:∀b o,s1.heap.get? b=some o->(s1.heap.push {cls:=.type "dict_items",data:=.fields #[.ref a]}).get? b=some o:=λb o q=>LD _ q;have hl:es.length=c.size:=by have:=g4.length;simpa using this
 have hil:(gI kvs).length=es.length:=by unfold gI;rw[iO,pd.length]
 have hn:=R.ok.n;have V:Inv X pins σ U {s1 with heap:=s1.heap.push {cls:=.type "dict_items",data:=.fields #[.ref a]} }:=I1.kept (t':=s1.toks) kv;have m:(s1.heap.push {cls:=.type "dict_items",data:=.fields #[.ref a]}).get? s1.heap.objs.size=some {cls:=.type "dict_items",data:=.fields #[.ref a]}:=aap _ rfl;have J:EntAt (s1.heap.push {cls:=.type "dict_items",data:=.fields #[.ref a]}) a c W:=he.keep λo q=>kv _ _ q;have la:a<s1.heap.objs.size:=aaq Y;generalize hS2:({s1 with heap:=s1.heap.push {cls:=.type "dict_items",data:=.fields #[.ref a]} }:Io)=s2 at V⊢;have hh2:s2.heap=s1.heap.push {cls:=.type "dict_items",data:=.fields #[.ref a]}:=by rw[<-hS2]
 rw[<-hh2]at m J;have lv:s1.heap.objs.size<s2.heap.objs.size:=aaq m;have lay:∀(h':aaT) (d:Addr),(∀b o,s2.heap.get? b=some o->h'.get? b=some o)->s2.heap.objs.size≤d+1->(∀j (t:j<c.size),h'.get? (d+1+j)=some {cls:=.type "tuple",data:=.seq #[c[j].key,c[j].val]})->Inv X pins σ (updR U (d+1) (itmG es) es.length) {s2 with heap:=h' }:=λh' d k z tp=>by
  refine V.laidR (t':=s2.toks) k z λj t=>?_;let⟨ev,r,S,O⟩:=Paired.at g4 (i:=j) (y:=c[j]) (by simp[show j<c.size by omega]);have eg:itmG es j = .tup [ev.1,ev.2]:=by unfold itmG;rw[bu r]
  rw[eg];exact⟨by show 2≤aal;rw[aak];decide,[c[j].key,c[j].val],.cons S (.cons O .nil),⟨_,tp j (by omega),rfl,rfl,_,rfl⟩⟩
 have N:∀(d:Addr) (f:Array Ad),f.size=c.size->(∀(j:Nat) u,f[j]?=some u->u = .ref (d+1+j))->Vals (uq (d+1) es.length) f.toList:=λd f az ar=>z9 (by have z1:f.toList.length=f.size:=abI;unfold uq;rw[iO,aaW,z1,az,hl]) λj x u r S=>by
  unfold uq at r;rw[aai]at r;let⟨j',O,rfl⟩:=ad6.mp r;have F:j<es.length:=by have:=(AD.mp O).1;rwa[aaW]at this
  rw[ab1 F]at O;rw[acw]at S;rw[ar j u S,aas O];exact rfl
 have fr:∀(d:Addr),s2.heap.objs.size≤d+1->∀j,U (d+1+j)=none:=λd z j=>V.hok.fresh (aaw z (aco _ _));refine yt (s:=s2) (C:=λh vs=>∃d:Addr,s2.heap.objs.size≤d+1/\(∀j (t:j<c.size),h.get? (d+1+j)=some {cls:=.type "tuple",data:=.seq #[c[j].key,c[j].val]})/\Vals (uq (d+1) es.length) vs) R.ok R.tot (by omega) (λP E hP=>?_) ?_
 .refine yB (St:=λd=>StI s2.heap.objs.size d a c W) (P:=λd=>PrI s2.heap.objs.size d c) (n:=c.size) ⟨_,m,rfl⟩ (.inl rfl) (by rw[aak];omega) (λs3 Q3 E3 hT q=>yy hT q) (λs3 Q3 E3 k0 ⟨oS,hS⟩ hq=>?_) λd h' f k zz az pz=>?_
  .have lS:s2.heap.objs.size<s3.heap.objs.size:=aaq hS;have G:EntAt s3.heap a c W:=J.keep λo q=>k0 _ _ q;refine Cg (k0 _ _ m) G λh' Z sz hk=>hq h' _ (abt lS) (DQ (V.ok.hd hc) lS (abt (ad5 la lv)) (abt (ad5 la (ad5 lv lS)))) ⟨G.keep λo q=>hk _ _ q,sz,.inl ⟨_,_,Z⟩⟩ hk (Bh _)
  .obtain⟨l,z',tp',ar'⟩:∃l:Addr,s2.heap.objs.size≤l+1/\(∀j (t:j<c.size),h'.get? (l+1+j)=some {cls:=.type "tuple",data:=.seq #[c[j].key,c[j].val]})/\∀(j:Nat) u,f[j]?=some u->u = .ref (l+1+j):=by
    by_cases e0:c.size=0
    .exact⟨s2.heap.objs.size,ae2 _,λj t=>by omega,λj u e=>by have:=(Array.getElem?_eq_some_iff.mp e).1;omega⟩
    .have get:∀j,j<c.size->∃u,f[j]?=some u:=λj t=>⟨_,ab4 (show j<f.size by omega)⟩;let⟨u0,r⟩:=get 0 (by omega);have l0:=(pz 0 u0 r).1;refine⟨d,acz (ad3 l0),λj t=>?_,λj u e=>(pz j u e).2.1⟩;let⟨u,e⟩:=get j t;let⟨_,_,F,q⟩:=pz j u e;exact q
   have T:=N l f az ar';have I':=lay h' l k z' tp';exact hP h' f.toList k (IZ I' R.ok.lay (uo (fr l z') pd) T) ⟨l,z',tp',T⟩
 .rintro h1 h2 vs p L e k1 ⟨d,z,tp,T⟩ r1 k2 hL hl2 hp;subst hL;have I3:=lay h1 d k1 z tp;have D:updR U (d+1) (itmG es) es.length h1.objs.size=none:=I3.hok.fresh (aab _);let⟨o1,o2⟩:=L7 hp;have hpl:p.length=c.size:=by have:=hp.1.length_eq;rw[aaW]at this;omega
  exact⟨.ref h1.objs.size,_,I3.laid (t':=s2.toks) k2 (aab _) (show ObjOk X.prog X.w _ _ _ (.lst (p.map λi=>(uq (d+1) es.length).getD i .non))from⟨by rw[iO,aak];omega,_,e,ul T p,by rw[hl2]⟩),rfl,q _ _ _ _ _ _ o1 o2 (fr d z) D ((wZ (uo (fr d z) pd) p).mono (bt (.inl D)))⟩
theorem yP{H:Hp}(fr:∀j,H (B+j)=none)(h:updR H B g n b=none):H b=none:=by
 cases e:H b with
 |none=>rfl
 |some o=>rw[dB fr e]at h;cases h
theorem Rel.layR{K:Kx}{c:Al}{m:MSt}{σ:St}{H:Hp}{B:Addr}{g:Nat->HO}(R:Rel K c m σ H)(fr:∀j,H (B+j)=none):∀n,Rel K c m σ (updR H B g n)
 |0=>R
 |n+1=>(Rel.layR R fr n).lay (by rw[jE λj h z=>abt h (agj z)];exact fr n)
theorem D5{c:Al}{H:Hp}(fr:∀j,H (B+j)=none)(n:Nat):Frm c H (updR H B g n):=λb o e _=>dB fr e
abbrev Jg(w:WE):WE:=λm K=>w m λr c=>∃kvs,dcM c kvs r/\(isKd kvs=true\/kyA kvs=true)/\srtR (gI kvs) λd=>K (.new d) c
theorem Ef{w:WE}(A:X.A.units+64<cLine)(C:X.mg "sorted" = none)(E:ME X o w)(I:X.calm=true:=by rfl)(p:Gl X "sorted":=by rfl)(c:abo o "items" X.env (eval o X.env)=eval o X.env:=by rfl)(h:(apos.endLine==cpos.line)=true:=by rfl)
  (d:aac [.Call (.Attribute o "items" apos) [] [] cpos] X.env=[(false,eval (.Call (.Attribute o "items" apos) [] [] cpos) X.env)]:=by rfl):ME X (.Call (.Name "sorted" p0) [.Call (.Attribute o "items" apos) [] [] cpos] [] pos) (Jg w):=(DN I A p C E c h d).wk<|by
 intro σ H Q ⟨x,m,O,z,D,f⟩;refine⟨x,m,_,z,D,λr t v P k n R rr F=>?_⟩;let⟨kvs,dk,K,u,k⟩:=k;let⟨a,rfl,dc⟩:=rr.dc R dk K;let⟨es,dc,J⟩:=dc.dcr;refine⟨a,es,kvs,rfl,dc,J,u,λe B g l L N G y fr j i=>?_⟩;have q:=Rel.layR (g:=g) R fr l;have M:=F.trans (D5 (g:=g) fr l);exact f _ t _ _ (k e G y) n (q.lay j) (RelR.base R F (⟨L,N,rfl,yP fr j,aE,i⟩)) (M.trans (cI j))
theorem Bw{w:WE}(i:X.A.units+64<cLine)(j:X.mg "sorted" = none)(k:EE X o w)(f:X.calm=true:=by rfl)(e:Gl X "sorted":=by rfl)(c:abo o "items" X.env (eval o X.env)=eval o X.env:=by rfl)(h:(apos.endLine==cpos.line)=true:=by rfl)
  (d:aac [.Call (.Attribute o "items" apos) [] [] cpos] X.env=[(false,eval (.Call (.Attribute o "items" apos) [] [] cpos) X.env)]:=by rfl):EE X (.Call (.Name "sorted" p0) [.Call (.Attribute o "items" apos) [] [] cpos] [] pos) (Jg w):=⟨Ef i j k.h f e c h d⟩
end
end L2
namespace L2
open PySem PySem.Spec PyProof.Rows
section
variable {X:Cx}{i:Nat}{x:Str}{e:Expr}{w:WE}{op:aeJ}{p pos:Pos}{f:Int->Int->Int}
def Gq(X:Cx)(op:aeJ)(f:Int->Int->Int):Prop:=PIp X op λx y H Q=>∃i j,x = .int i/\y = .int j/\Q (.int (f i j)) H
def IJ:Gq X .Add (· + ·):=SJ
def QK:Gq X .Sub (· - ·):=RM
def wAug(i:Nat)(w:WE)(f:Int->Int->Int):WS:=λD m=>∃a:Int,m.vs[i]?=some (some (.imm (.int a)))/\w m λr c=>∃b:Int,r = .imm (.int b)/\D.nx (c.setV i (.imm (.int (f a b))))
theorem Se(E:X.N.Nodup)(o:X.N[i]?=some x)(A:ME X e w)(h:Gq X op f)(c:X.env.scope.names.lookup x=some .local:=by rfl):MS X (.AugAssign (.Name x p) op e pos) (wAug i w f):=(O4 E o (.inl c) A h (.inr c)).wk<|by
 intro D G H ⟨g,m,J,d,⟨a,C,s⟩,k⟩;let⟨v,u,z⟩:=d.var i _ C;have B:=z;refine⟨v,u,g,m,_,d,s,λr I y j ⟨b,t,q⟩ n R rr F=>?_⟩;subst t;have l:=rr;have R2:=cF (i:=i) (r:=.imm (.int (f a b))) R (show Den X.kx.toKd j (.int (f a b)) (.int (f a b)) by simp only[Den]);exact⟨a,b,B,l,k.nx g _ _ j q n R2 (.of R2 F)⟩
theorem uV(i:Nat)(a:X.N.Nodup)(b:EE X e w)(h:Gq X op f)(d:X.N[i]?=some x:=by rfl)(c:X.env.scope.names.lookup x=some .local:=by rfl):ES X (.AugAssign (.Name x p) op e pos) (wAug i w f):=⟨Se a d b.h h c⟩
def NU{D:fi}{m:MSt}(a:Int)(c:m.vs[i]?=some (some (.imm (.int a))))(h:w m λr d=>∃b:Int,r = .imm (.int b)/\D.nx (d.setV i (.imm (.int (f a b))))):wAug i w f D m:=⟨a,c,h⟩
end
section
variable {X:Cx}{i e:Expr}{w a:WE}{pos:Pos}
def VQ(K:Kd)(f t:TE):TE:=λc H Q=>∀p,H p=none->f c (upd H p (.dK [])) λy d=>t c d λv b=>b p=some (.dK [])/\∃k,kyD k=true/\Den K b k y/\Q (.ref p) (upd b p (dX p [(fC K.w k,y,v)]))
def Km{t c:TE}(C:X.A.units+64<cLine)(l:PE X i t)(n:PE X e c):PE X (.Dict [some i] [e] pos) (VQ X.kd t c):=by
 intro p s b H Q I q;have m:=I.laid (h':=s.heap.push {cls:=.type "dict",data:=.dict #[]}) (t':=s.toks) (λ_ _ q=>LD _ q) (aab _) (qv s.heap I.big);refine wpAny_Dict_any rfl rfl (by simp) (show 1≤15 by decide) (pairTrees_cons_walk (thn (l p _ b _ _ m (q _ (I.hok.fresh (aab _)))) λu s1 ⟨y,x,z,A,f⟩=>thn (n p s1 b x _ z f) λr s2 ⟨v,B,o,j,h,k,ky,dk,g⟩=>pairTrees_nil_walk ?_));unfold storeAll;rw[aeu];exact gT (gT (Jc (kvs:=[]) (es:=[]) (by omega) o ⟨by simp[DenKV],abB,rfl,.inr ⟨h,rfl⟩⟩ ky dk A j (by rw[aak];decide) λD d=>Ld (Ld ⟨.ref s.heap.objs.size,_,d,rfl,g⟩)))
abbrev P9(wk b:WE):WE:=λm K=>wk m λc m1=>jx (λk=>b m1 λr m2=>jx (λd=>kyD k=true/\K (.newT (.dict (lfKV [(k,d)]))) m2) r) c
def M6(G:X.A.units+64<cLine)(N:ME X i w)(E:ME X e a):ME X (.Dict [some i] [e] pos) (P9 w a):=(Km G N E).wk<|by
 intro O H Q ⟨g,m,T,z,J,x⟩;intro p q;refine⟨g,m,_,z.lay q,J,λP m1 y S k1 n1 R u D=>?_⟩;let⟨k,rfl,A,k1⟩:=fI u k1;refine⟨g,m1,_,R,k1,λU m2 v j k2 n2 n s F=>?_⟩;let⟨d,rfl,hd,kd,k2⟩:=fI s k2;have c:p∉ads g:=z.out q;have B:j p=some (.dK []):=F p _ (D p _ aE c) c;have l:Den X.kx j k y:=A.mono (R.pers F);refine⟨B,k,kd,l,?_⟩;have r:Pers j (upd j p (dX p [(fC X.w k,y,v)])):=bt (.inr ⟨_,B,rfl⟩);have fr:Frm g H (upd j p (dX p [(fC X.w k,y,v)])):=λb o eb nb=>by
  have ne:b≠p:=bv eb q;rw[aB ne];exact F b o (D b o (by rw[aB ne];exact eb) nb) nb
 have old:Ext X.kx.eb.np g H g (upd j p (dX p [(fC X.w k,y,v)])):=⟨rfl,fr,λ_ h=>.inl h,λb f=>by
  have t:b≠p:=λe=>c (e▸f);rw[aB t];let⟨L,K,_⟩:=n.mem f;exact⟨L,K⟩⟩
 refine x _ m2 _ _ k2 (n2.trans n1) (n.at' r (λb f=>aB λe=>c (e▸f)) (z.ebx.trans old)) ⟨[([],p)],p,rfl,rfl,by simp,λb f=>by simp at f;subst f;exact q,⟨⟨_,.ref p,rfl,?_,p,rfl,rfl⟩,λb f=>by simp at f;subst f;exact⟨_,aE,rfl⟩⟩⟩ fr;have C:kyA [(k,d)]=true:=by simp[kyA,kd]
 have ok:=oy (kvs:=[(k,d)]) C (by simp) (by simp);let⟨I,M⟩:=p8 (.inr (by rw[v5];exact C):isKd (lfKV [(k,d)])=true\/kyA (lfKV [(k,d)])=true);simp only[TAt];refine .inr (.inl ⟨I,M,p,_,rfl,rfl,aE,⟨by rw[qU];exact ok.1,by rw[fJ];exact ok.2.1,by rw[fJ];exact ok.2.2⟩,L5 ?_⟩);simp only[DenKV];exact⟨y,v,[],rfl,l.mono r,hd.mono r,rfl⟩
def GH(c:X.A.units+64<cLine)(b:EE X i w)(h:EE X e a):EE X (.Dict [some i] [e] pos) (P9 w a):=⟨M6 c b.h h.h⟩
end
end L2
namespace K
open PySem L2 M7 M8
variable{h:Hall}
def alk(h:Hall):Bool:=(h.ss.map Srv.d).all λd=>aad d ((h.ss.map Srv.d).getD 0 .none)
def cW(h:Hall)(l:List Nat):List Nat:=if alk h=true then srt l else l
def yz(h:Hall)(l:List Nat):(cW h l).Perm l:=by
 unfold cW;split
 .exact lh l
 .exact .refl _
def jk(h:Hall)(l:List Nat):cW h (cW h l)=cW h l:=by
 unfold cW;split
 .exact QY (qY l)
 .rfl
theorem CW(a:alk h=true){s t:Srv}(c:s∈h.ss)(f:t∈h.ss):s.r=t.r:=by
 have one:∀s∈h.ss,aad s.d ((h.ss.map Srv.d).getD 0 .none)=true:=λs c=>abD.mp a _ (aam.mpr ⟨s,c,rfl⟩);let⟨d,ss,e⟩:∃d ss,h.ss=d::ss:=by
  cases e:h.ss with
  |nil=>rw[e]at c;cases c
  |cons a b=>exact⟨a,b,rfl⟩
 have key:∀s∈h.ss,s.r=d.r:=λs c=>by
  have:=one s c;rw[e]at this;have q:(aad (.tuple [.int s.a,.int s.b]) (.tuple [.int d.a,.int d.b])&&(aad (.int (s.r:Int)) (.int (d.r:Int))&&true))=true:=this;simp only[acb,aaR]at q;rw[cp]at q;exact of_decide_eq_true q.2
 rw[key s c,key t f]
def n9{l:List Nat}(L:Lines h l):Lines h (cW h l):=by
 unfold cW;split
 .rename_i a;have p:=(lh l);refine⟨p.length_eq.trans L.1,λi s x e f=>?_⟩;have d:=p.mem_iff.mp (GT f);let⟨j,c⟩:∃j,l[j]?=some _:=abq d;have b:j<h.ss.length:=by rw[<-L.1];exact(AD.mp c).1
  have:=L.2 j _ x (lD b) c;rw[CW a (GT e) (adn b)];exact this
 .exact L
def xr{l:List Nat}{ns:List Int}(f:ns.Perm (l.map λ(k:Nat)=>(k:Int)))(o:ns.Pairwise (· ≥ ·)):ns=(srt l).map λ(k:Nat)=>(k:Int):=by
 have e:∀x∈ns,((x.toNat:Nat):Int)=x:=λx c=>by
  let⟨k,_,rfl⟩:=aam.mp (f.mem_iff.mp c);rfl
 have g:(ns.map agf).map (λ(k:Nat)=>(k:Int))=ns:=by
  rw[aa9]
  conv=>rhs;rw[<-ag6 ns]
  exact acO λx c=>e x c
 have p:(ns.map agf).Perm l:=by
  have:=f.map agf;rw[aa9]at this;have i:(l.map (agf∘λ(k:Nat)=>(k:Int)))=l:=by
   (conv=>rhs;rw[<-ag6 l])
   exact acO λx _=>rfl
  rwa[i]at this
 have n:Fall (ns.map agf):=by
  unfold Fall;rw[List.pairwise_map];refine o.imp_of_mem λ{a b} m j d=>?_;have:=e a m;have:=e b j;show b.toNat≤a.toNat;have:b≤a:=d;omega
 rw[vG n p,g]
def tQ(l:List Nat):natD l=(l.map λ(k:Nat)=>(k:Int)).map .int:=by unfold natD;rw[aa9];rfl
def kst(h:Hall)(r:Rule)(l:List Nat)(m:Mv):List Nat×Wd:=(cW h (kM h r l 0 m).1,(kM h r l 0 m).2.2)
def aw(w:Wd):Int:=if w = .away then 1 else 0
abbrev Tr:=List Nat×List Nat×Int
def bth(h:Hall)(r1 r2:Rule)(t:Tr)(m:Mv):Tr:=((kst h r1 t.1 m).1,(kst h r2 t.2.1 m).1,t.2.2+aw (kst h r2 t.2.1 m).2-aw (kst h r1 t.1 m).2)
def bad(t:Tr):Bool:=decide (t.2.2<0)||decide (((t.2.1.sum:Nat):Int)+t.2.2<((t.1.sum:Nat):Int))
def mvs(h:Hall):List Mv:=(ordK h.ss.length h.ss.length).map Mv.come++(aax h.ss.length).map Mv.done++[.still]
def qf(a:h.Ok):∀m∈mvs h,m.Ok h:=λm c=>by
 rcases aaG.mp c with q|q
 .obtain q|q:=aaG.mp q
  .obtain⟨o,ho',rfl⟩:=aam.mp q;let⟨b,e,d⟩:=qu _ a.n4 a.n1 o ho';exact⟨b,d,e⟩
  .obtain⟨k,hk,rfl⟩:=aam.mp q;exact aeH.mp hk
 .rw[aaa.mp q];exact trivial
inductive RcT(h:Hall)(r1 r2:Rule):Tr->Prop
 |here:RcT h r1 r2 (zer h,zer h,0)
 |next {t:Tr}{m:Mv}:RcT h r1 r2 t->m∈mvs h->RcT h r1 r2 (bth h r1 r2 t m)
structure Nvr(h:Hall)(r1 r2:Rule)(P:List Tr):Prop where
 b0:(zer h,zer h,0)∈P
 nb:∀t∈P,bad t=false
 cl:∀t∈P,∀m∈mvs h,∃u∈P,u.1=(bth h r1 r2 t m).1/\u.2.1=(bth h r1 r2 t m).2.1/\u.2.2≤(bth h r1 r2 t m).2.2
def trD(t:Tr):aD:=.tuple [lnD t.1,lnD t.2.1,.int t.2.2]
structure TrOk(h:Hall)(t:Tr):Prop where
 x:Lines h t.1
 y:Lines h t.2.1
 kx:cW h t.1=t.1
 ky:cW h t.2.1=t.2.1
 d0:0≤t.2.2
 d1:t.2.2<10^15
end K
namespace K
open PySem L2 M7
def lexN:List Nat->List Nat->Bool
 |x::xs,y::ys=>if x=y then lexN xs ys else decide (x<y)
 |_,_=>false
theorem xO:∀a:List Nat,lexN a a=false
 |[]=>rfl
 |x::xs=>by show(if x=x then lexN xs xs else _)=false;rw[if_pos rfl];exact xO xs
theorem AY:∀{a b c:List Nat},a.length=b.length->b.length=c.length->lexN a b=true->lexN b c=true->lexN a c=true
 |[],[],_,_,_,h,_=>by cases h
 | x::a,y::b,z::c,h1,h2,h,h'=>by
  have f:(if x=y then lexN a b else decide _)=true:=h;have d:(if y=z then lexN b c else decide _)=true:=h';show(if x=z then lexN a c else decide _)=true
  by_cases g:x=y
  .subst g;rw[if_pos rfl]at f
   by_cases e:x=z
   .rw[if_pos e]at d⊢;exact AY (by simpa using h1) (by simpa using h2) f d
   .rw[if_neg e]at d⊢;exact d
  .grind
theorem wq:∀{a b:List Nat},a.length=b.length->a≠b->lexN a b=true\/lexN b a=true
 |[],[],_,h=>(h rfl).elim
 | x::a,y::b,hl,h=>by
  show(if x=y then lexN a b else decide _)=true\/(if y=x then lexN b a else decide _)=true
  by_cases e:x=y
  .subst e;rw[if_pos rfl,if_pos rfl];exact wq (by simpa using hl) λz=>h (by rw[z])
  .rw[if_neg e,if_neg (abO e)];rcases aeN e with z|z
   .exact .inl (decide_eq_true z)
   .exact .inr (decide_eq_true z)
theorem uC:∀{a b:List Nat},a.length=b.length->ltDs (natD a) (natD b)=lexN a b
 |[],[],_=>rfl
 |x::a,y::b,h=>by
  show(if aad _ _=true then ltDs (natD a) (natD b)else decide _)=if x=y then lexN a b else decide _;rw[cp,uC (by simpa using h)];simp
end K
namespace K
open PySem L2 M7 M8
variable{h:Hall}{L:List (Pk×Int)}{a:Pk}{r1 r2:Rule}{t:Tr}{α:Type}{q:Nat}
abbrev Pk:=List Nat×List Nat
def pkD(p:Pk):aD:=.tuple [lnD p.1,lnD p.2]
def ldD(L:List (Pk×Int)):List (aD×aD):=L.map λq=>(pkD q.1,.int q.2)
def fu(a b:List Nat):aad (lnD a) (lnD b)=decide (a=b):=by
 have:=T5 (a,0) (b,0);have e:aad (ptD (a,0)) (ptD (b,0))=aad (lnD a) (lnD b):=by
  show(aad (lnD a) (lnD b)&&(aad (.int 0) (.int 0)&&true))=_;rw[show aad (.int 0) (.int 0)=true from rfl,Bool.true_and,acb]
 rw[<-e,this];simp
def wD(p q:Pk):aad (pkD p) (pkD q)=decide (p=q):=by
 show(aad (lnD p.1) (lnD q.1)&&(aad (lnD p.2) (lnD q.2)&&true))=_;rw[fu,fu,acb,abl];simp[agR]
def setL(a:Pk)(v:Int):List (Pk×Int)->List (Pk×Int)
 |[]=>[(a,v)]
 |q::L=>if q.1=a then(q.1,v)::L else q::setL a v L
theorem x8(a:Pk)(v:Int):∀L:List (Pk×Int),putP (pkD a) (.int v) (ldD L)=ldD (setL a v L)
 |[]=>rfl
 |q::L=>by
  show(if aad (pkD q.1) (pkD a)=true then _ else _::putP (pkD a) (.int v) (ldD L))=ldD (if q.1=a then(q.1,v)::L else q::setL a v L);rw[wD]
  by_cases e:q.1=a
  .rw[if_pos (decide_eq_true e),if_pos e];rfl
  .rw[if_neg (by rw[decide_eq_false e];exact aaj),if_neg e,x8 a v L];rfl
theorem fb{a:Pk}{v:Int}:∀{L:List (Pk×Int)}{p:Pk×Int},p∈setL a v L->p=(a,v)\/p∈L
 |[],p,h=>.inl (aaa.mp h)
 | q::L,p,h=>by
  unfold setL at h
  split at h
  .rename_i e;rcases aah.mp h with z|z
   .rw[z,e];exact .inl rfl
   .exact .inr (aaf _ z)
  .rcases aah.mp h with z|z
   .rw[z];exact .inr aae
   .exact(fb z).imp id λy=>aaf _ y
theorem yf{p:Pk}(f:h.Ok)(c:Lines h p.1)(g:Lines h p.2):kyD (pkD p)=true:=by
 have n:∀l:List Nat,hkA (natD l)=true:=λl=>by
  induction l with
  |nil=>rfl
  |cons x l i=>show(hkD _&&hkA (natD l))=true;rw[i];rfl
 have s:=bf (k:=1) (ds:=[lnD p.1,lnD p.2]) λd hd=>by
  rcases aah.mp hd with e|e
  .rw[e];exact bf (br _)
  .rw[aaa.mp e];exact bf (br _)
 have b:hkD (pkD p)=true:=by
  show(hkD (lnD p.1)&&(hkD (lnD p.2)&&true))=true;rw[show hkD (lnD p.1)=true from n p.1,show hkD (lnD p.2)=true from n p.2];rfl
 unfold kyD;rw[b,show(pkD p).canLay0=true from s.cl,decide_eq_true (show(pkD p).depth≤7 from aaw s.dp (by decide))];rfl
def yM(c:h.Ok)(X:∀p∈L,Lines h p.1.1/\Lines h p.1.2):kyA (ldD L)=true:=by
 unfold kyA ldD;rw[ad7,abD];exact λp b=>yf c (X p b).1 (X p b).2
def IB(t u:Tr):aad (trD t) (trD u)=decide (t=u):=by
 show(aad (lnD t.1) (lnD u.1)&&(aad (lnD t.2.1) (lnD u.2.1)&&(aad (.int t.2.2) (.int u.2.2)&&true)))=_;rw[fu,fu,acb,show aad (.int t.2.2) (.int u.2.2)=decide (t.2.2=u.2.2)from by simp[aad,ac9],abl];simp[agR,and_assoc]
def fU:cW h (zer h)=zer h:=List.perm_replicate.mp (yz h (zer h))
def lkL(a:Pk):List (Pk×Int)->Option Int
 |[]=>none
 |q::L=>if q.1=a then some q.2 else lkL a L
theorem u9(a:Pk):∀L:List (Pk×Int),dg (pkD a) (ldD L)=(lkL a L).map .int
 |[]=>rfl
 |q::L=>by
  show(if aad (pkD q.1) (pkD a)=true then some (abu q.2)else dg (pkD a) (ldD L))=(if q.1=a then some q.2 else lkL a L).map .int;rw[wD]
  by_cases e:q.1=a
  .rw[if_pos (decide_eq_true e),if_pos e];rfl
  .rw[if_neg (by rw[decide_eq_false e];exact aaj),if_neg e];exact u9 a L
def smL(L:List (Pk×Int)):Nat:=(L.map λq=>q.2.toNat).sum
theorem sd{a:Pk}{v:Int}:∀{L:List (Pk×Int)},lkL a L=none->setL a v L=L++[(a,v)]
 |[],_=>rfl
 |q::L,h=>by
  unfold lkL at h;unfold setL
  split at h
  .cases h
  .rename_i e;rw[if_neg e,sd h];rfl
theorem sk{a:Pk}{v w:Int}:∀{L:List (Pk×Int)},lkL a L=some w->smL (setL a v L)+w.toNat=smL L+v.toNat/\(setL a v L).length=L.length/\(setL a v L).map (·.1)=L.map (·.1)
 |q::L,h=>by
  unfold lkL at h;unfold setL
  split at h
  .rename_i e;cases h;rw[if_pos e];refine⟨?_,rfl,rfl⟩;simp only[smL,aao,acK];omega
  .rename_i e;let⟨b,d,c⟩:=sk (v:=v) h;rw[if_neg e];refine⟨?_,by simp[d],by simp[c]⟩;simp only[smL,aao,acK]at b⊢;omega
theorem Iu{a:Pk}:∀{L:List (Pk×Int)},lkL a L=none->a∉L.map (·.1)
 |[],_,h=>by cases h
 | q::L,e,h=>by
  unfold lkL at e
  split at e
  .cases e
  .rename_i n;rcases aah.mp h with z|z
   .exact n z.symm
   .exact Iu e z
theorem ux{a:Pk}{w:Int}:∀{L:List (Pk×Int)},lkL a L=some w->(a,w)∈L
 |q::L,e=>by
  unfold lkL at e
  split at e
  .rename_i n;cases e;rw[<-n];exact aae
  .exact aaf _ (ux e)
structure DkOk(h:Hall)(L:List (Pk×Int)):Prop where
 nd:(L.map (·.1)).Nodup
 ln:∀p∈L,Lines h p.1.1/\Lines h p.1.2
 nn:∀p∈L,0≤p.2
 kp:∀p∈L,cW h p.1.1=p.1.1/\cW h p.1.2=p.1.2
def nP(h:Hall):Nat:=(M3.allR h.rs).length*(M3.allR h.rs).length
theorem DkOk.len(D:DkOk h L):L.length≤nP h:=by
 have:=jl D.nd (m:=(M3.allR h.rs).flatMap λl=>(M3.allR h.rs).map λk=>(l,k)) λy d=>by
  let⟨p,c,rfl⟩:=aam.mp d;exact ab6.mpr ⟨p.1.1,lj (D.ln p c).1.fits,aam.mpr ⟨p.1.2,lj (D.ln p c).2.fits,rfl⟩⟩
 rw[iO]at this;refine aaw this (afA ?_);unfold nP;generalize M3.allR h.rs=A;have:∀B:List (List Nat),(B.flatMap λl=>A.map λk=>(l,k)).length=B.length*A.length:=λB=>by
  induction B with
  |nil=>simp
  |cons b B i=>rw[List.flatMap_cons,aan,i,iO,aaB,adl,Nat.add_comm]
 exact this A
def pot(h:Hall)(M:Nat)(L:List (Pk×Int)):Nat:=smL L+(nP h-L.length)*(M+2)
theorem DkOk.put{M:Nat}{v:Int}(D:DkOk h L)(g:Lines h a.1)(l:Lines h a.2)(n:cW h a.1=a.1/\cW h a.2=a.2)(o:0≤v)(E:v≤(M:Int)+1)(f:v<(lkL a L).getD (v+1)):DkOk h (setL a v L)/\pot h M (setL a v L)+1≤pot h M L/\((setL a v L).length=L.length->∃w,(a,w)∈L/\v<w)/\L.length≤(setL a v L).length:=by
 cases e:lkL a L with
 | none=>
  have A:=sd (v:=v) e;have j:DkOk h (L++[(a,v)]):=by
   refine⟨?_,λp b=>?_,λp b=>?_,λp b=>?_⟩
   .rw[aaD];exact acD.mpr ⟨D.nd,ach _ _,λx d y s z=>Iu e (by have:=z.trans (aaa.mp s);rw[show x=a from this]at d;exact d)⟩
   .rcases aaG.mp b with z|z
    .exact D.ln p z
    .rw[aaa.mp z];exact⟨g,l⟩
   .rcases aaG.mp b with z|z
    .exact D.nn p z
    .rw[aaa.mp z];exact o
   .rcases aaG.mp b with z|z
    .exact D.kp p z
    .rw[aaa.mp z];exact n
  have le:=j.len;rw[A];refine⟨j,?_,λz=>?_,by simp⟩
  .rw[aan]at le;have B:L.length+1≤nP h:=le;unfold pot;rw[aan,show smL (L++[(a,v)])=smL L+v.toNat by simp[smL]];let⟨k,C⟩:∃k,nP h=L.length+1+k:=⟨nP h-(L.length+1),by omega⟩;rw[C,show L.length+1+k-(L.length+[(a,v)].length)=k by simp,show L.length+1+k-L.length=k+1 by omega,adl];omega
  .simp at z
 | some w=>
  rw[e]at f;have c:v<w:=f;let⟨F,i,u⟩:=sk (v:=v) e;have m:=ux e;have r:=D.nn _ m;refine⟨⟨by rw[u];exact D.nd,λp b=>?_,λp b=>?_,λp b=>?_⟩,?_,λ_=>⟨w,m,c⟩,afA i.symm⟩
  .rcases fb b with z|z
   .rw[z];exact⟨g,l⟩
   .exact D.ln p z
  .rcases fb b with z|z
   .rw[z];exact o
   .exact D.nn p z
  .rcases fb b with z|z
   .rw[z];exact n
   .exact D.kp p z
  .unfold pot;rw[i];dsimp only at r;omega
def mi(d:h.Ok)(b:r1.Ok h)(c:r2.Ok h)(n1:r1≠.turns)(n2:r2≠.turns){m:Mv}(R:Lines h t.1/\Lines h t.2.1)(e:m∈mvs h):Lines h (bth h r1 r2 t m).1/\Lines h (bth h r1 r2 t m).2.1:=by
 have o:=qf d _ e;exact⟨n9 (jn d b (t:=0) ⟨R.1,λz=>(n1 z).elim,by decide⟩ o).ln,n9 (jn d c (t:=0) ⟨R.2,λz=>(n2 z).elim,by decide⟩ o).ln⟩
theorem g9(d:h.Ok)(c:r1.Ok h)(b:r2.Ok h)(n1:r1≠.turns)(n2:r2≠.turns)(R:RcT h r1 r2 t):Lines h t.1/\Lines h t.2.1:=by
 induction R with
 |here=>exact⟨(ic d r1).ln,(ic d r1).ln⟩
 |next _ e i=>exact mi d c b n1 n2 i e
def II{m:Mv}:(bth h r1 r2 t m).2.2≤t.2.2+1:=by
 unfold bth aw;dsimp only
 split<;>split<;>omega
def Jh(b:bad t=false):0≤t.2.2:=by
 unfold bad at b;simp at b;exact b.1
def ldT(L:List (Pk×Int)):List Tr:=L.map λp=>(p.1.1,p.1.2,p.2)
def SN(D:DkOk h L)(V:∀p∈L,p.2≤1000000):∀t∈ldT L,TrOk h t:=λt c=>by
 let⟨p,b,rfl⟩:=aam.mp c;have v:=V p b;exact⟨(D.ln p b).1,(D.ln p b).2,(D.kp p b).1,(D.kp p b).2,D.nn p b,show p.2<10^15 by omega⟩
theorem xY:∀{L:List (Pk×Int)},(L.map (·.1)).Nodup->∀p∈L,lkL p.1 L=some p.2
 |q::L,nd,p,b=>by
  rw[aao,aa7]at nd;unfold lkL;rcases aah.mp b with rfl|b
  .rw[if_pos rfl]
  .rw[if_neg λz=>nd.1 (by rw[z];exact aam.mpr ⟨p,b,rfl⟩)];exact xY nd.2 p b
def stT(h:Hall):Tr:=(zer h,zer h,0)
def wlk(h:Hall)(r1 r2:Rule)(R:List Mv):Tr:=R.foldl (bth h r1 r2) (stT h)
def RunK(h:Hall)(R:List Mv):Prop:=∀m∈R,m∈mvs h
section
variable {h:Hall}{r1 r2:Rule}{R:List Mv}{m:Mv}{t u:Tr}{L:List (Pk×Int)}
def eF:wlk h r1 r2 (R++[m])=bth h r1 r2 (wlk h r1 r2 R) m:=by unfold wlk;rw[agS];rfl
def RunK.snoc(k:RunK h R)(c:m∈mvs h):RunK h (R++[m]):=λx b=>by
 rcases aaG.mp b with z|z
 .exact k x z
 .rwa[aaa.mp z]
def RunK.cut(k:RunK h (R++[m])):RunK h R/\m∈mvs h:=⟨λx b=>k x (aby _ b),k m (aaH _ aae)⟩
structure LeT(u t:Tr):Prop where
 x:u.1=t.1
 y:u.2.1=t.2.1
 d:u.2.2≤t.2.2
def LeT.refl(t:Tr):LeT t t:=⟨rfl,rfl,aeq _⟩
def LeT.trans{v:Tr}(a:LeT u t)(b:LeT t v):LeT u v:=⟨a.x.trans b.x,a.y.trans b.y,ad8 a.d b.d⟩
theorem LeT.bth(a:LeT u t):LeT (bth h r1 r2 u m) (bth h r1 r2 t m):=by
 unfold K.bth;have:=a.d;refine⟨by rw[a.x],by rw[a.y],?_⟩;dsimp only;rw[a.x,a.y];omega
def LeT.good(a:LeT u t)(b:bad u=false):bad t=false:=by
 have:=a.d;unfold bad at b⊢;rw[a.x,a.y]at b;simp only[aen,decide_eq_false_iff_not]at b⊢;omega
def qt:bad (stT h)=false:=by
 unfold bad stT;simp
def Cv(L:List (Pk×Int))(t:Tr):Prop:=∃p∈L,LeT (p.1.1,p.1.2,p.2) t
def Cv.le(c:Cv L u)(a:LeT u t):Cv L t:=let ⟨p,hp,b⟩:=c;⟨p,hp,b.trans a⟩
theorem lm{a:Pk}{v:Int}:∀L:List (Pk×Int),(a,v)∈setL a v L
 |[]=>aae
 |q::L=>by
  unfold setL;split
  .rename_i e;rw[<-e];exact aae
  .exact aaf _ (lm L)
theorem t6{a:Pk}{v:Int}{p:Pk×Int}(n:p.1≠a):∀{L:List (Pk×Int)},p∈L->p∈setL a v L
 | q::L,b=>by
  unfold setL;rcases aah.mp b with rfl|b
  .rw[if_neg n];exact aae
  .split
   .exact aaf _ b
   .exact aaf _ (t6 n b)
def Cv.set{v:Int}(c:Cv L t)(D:DkOk h L)(f:v<(lkL a L).getD (v+1)):Cv (setL a v L) t:=by
 let⟨p,g,b⟩:=c
 by_cases e:p.1=a
 .have el:=xY D.nd p g;rw[e]at el;rw[el]at f;have f:v<p.2:=f;refine⟨(a,v),lm L,?_⟩;have d:p.2≤t.2.2:=b.d;subst e;exact⟨b.x,b.y,show v≤t.2.2 by omega⟩
 .exact⟨p,t6 e g,b⟩
def QC{w:Int}(e:lkL a L=some w)(b:w≤t.2.2)(c:a=(t.1,t.2.1)):Cv L t:=⟨_,ux e,by subst c;exact⟨rfl,rfl,b⟩⟩
def Min(h:Hall)(r1 r2:Rule)(n:Nat):Prop:=∀R,RunK h R->R.length<n->bad (wlk h r1 r2 R)=false
def yw(h:Hall)(r1 r2:Rule):Prop:=∀R,RunK h R->bad (wlk h r1 r2 R)=false
def Cov(h:Hall)(r1 r2:Rule)(k:Nat):Prop:=∃A:List Pk,A.length≤k/\∀R,RunK h R->((wlk h r1 r2 R).1,(wlk h r1 r2 R).2.1)∈A
theorem zJ(k:RunK h R):RcT h r1 r2 (wlk h r1 r2 R):=by
 have go:∀(R:List Mv) (t:Tr),RunK h R->RcT h r1 r2 t->RcT h r1 r2 (R.foldl (bth h r1 r2) t):=λR=>by
  induction R with
  |nil=>exact λt _ q=>q
  |cons m R i=>exact λt k q=>i _ (λx b=>k x (aaf _ b)) (.next q (k m aae))
 exact go R _ k .here
theorem G9(R:List Mv):cW h (wlk h r1 r2 R).1=(wlk h r1 r2 R).1/\cW h (wlk h r1 r2 R).2.1=(wlk h r1 r2 R).2.1:=by
 have go:∀(R:List Mv) (t:Tr),cW h t.1=t.1/\cW h t.2.1=t.2.1->cW h (R.foldl (bth h r1 r2) t).1=(R.foldl (bth h r1 r2) t).1/\cW h (R.foldl (bth h r1 r2) t).2.1=(R.foldl (bth h r1 r2) t).2.1:=λR=>by
  induction R with
  |nil=>exact λt q=>q
  |cons m R i=>exact λt q=>i _ ⟨jk h _,jk h _⟩
 exact go R _ ⟨fU,fU⟩
def Cl(h:Hall)(r1 r2:Rule)(L:List (Pk×Int))(t:Tr):Prop:=∀m∈mvs h,bad (bth h r1 r2 t m)=false/\Cv L (bth h r1 r2 t m)
def Cl.run{t:Tr}(c:Cl h r1 r2 L t)(a:LeT t (wlk h r1 r2 R))(e:m∈mvs h):bad (wlk h r1 r2 (R++[m]))=false/\Cv L (wlk h r1 r2 (R++[m])):=by
 let⟨b,d⟩:=c m e;rw[eF];exact⟨a.bth.good b,d.le a.bth⟩
structure Lv(h:Hall)(r1 r2:Rule)(q:Nat)(L:List (Pk×Int))(ln:List Tr):Prop where
 a:∀R,RunK h R->R.length≤q->bad (wlk h r1 r2 R)=false/\Cv L (wlk h r1 r2 R)
 ex:∀p∈L,(p.1.1,p.1.2,p.2)∈ln\/Cl h r1 r2 L (p.1.1,p.1.2,p.2)
 ln:∀t∈ln,∃R,RunK h R/\R.length=q/\wlk h r1 r2 R=t
def Lv.zero:Lv h r1 r2 0 [((zer h,zer h),0)] [stT h] where
 a:=λR _ l=>by
  rw[aa4 (Nat.le_zero.mp l)];exact⟨qt,_,aae,.refl _⟩
 ex:=λp c=>.inl (by rw[aaa.mp c];exact aae)
 ln:=λt b=>⟨[],λ_ z=>(by cases z),rfl,(aaa.mp b).symm⟩
theorem vx:∀{R:List α},R≠[]->∃b m,R=b++[m]:=λ{R} h=>⟨R.dropLast,R.getLast h,(List.dropLast_concat_getLast h).symm⟩
theorem Lv.all(X:Lv h r1 r2 q L []):∀n R,R.length=n->RunK h R->bad (wlk h r1 r2 R)=false/\Cv L (wlk h r1 r2 R)
 |0,R,l,k=>X.a R k (by omega)
 |n+1,R,l,k=>by
  let⟨d,m,rfl⟩:=vx (R:=R) (λz=>by rw[z]at l;cases l);let⟨c,e⟩:=k.cut;let⟨_,p,f,b⟩:=X.all n d (by simpa using l) c;exact((X.ex p f).resolve_left (λz=>by cases z)).run b e
theorem Lv.sound(X:Lv h r1 r2 q L []):yw h r1 r2:=λR k=>(X.all _ R rfl k).1
theorem Lv.cov(X:Lv h r1 r2 q L []){k:Nat}(l:L.length≤k):Cov h r1 r2 k:=⟨L.map (·.1),by rwa[iO],λR c=>by
 let⟨p,d,b⟩:=(X.all _ R rfl c).2;exact aam.mpr ⟨p,d,aem b.x b.y⟩⟩
structure Lw(h:Hall)(r1 r2:Rule)(q:Nat)(L0:List (Pk×Int))(ln:List Tr)(L:List (Pk×Int))(F:List Tr)(i j:Nat):Prop where
 v:Lv h r1 r2 q L0 ln
 dk:DkOk h L
 up:∀t,Cv L0 t->Cv L t
 nw:∀p∈L,p∈L0\/(p.1.1,p.1.2,p.2)∈F
 fr:∀t∈F,∃R,RunK h R/\R.length=q+1/\wlk h r1 r2 R=t
 cl:∀i' t,i'<i->ln[i']?=some t->Cl h r1 r2 L t
 cj:∀j' t m,j'<j->ln[i]?=some t->(mvs h)[j']?=some m->bad (bth h r1 r2 t m)=false/\Cv L (bth h r1 r2 t m)
theorem Lw.zero{ln:List Tr}(X:Lv h r1 r2 q L ln)(D:DkOk h L):Lw h r1 r2 q L ln L [] 0 0:=⟨X,D,λ_ z=>z,λ_ z=>.inl z,λ_ z=>(by cases z),λi t z=>(by cases z),λj t m z=>(by cases z)⟩
section
variable {q i j:Nat}{d:List (Pk×Int)}{ln F:List Tr}
theorem Lw.next(X:Lw h r1 r2 q d ln L F i (mvs h).length):Lw h r1 r2 q d ln L F (i+1) 0:={X with
 cl:=λb t k e=>by
  by_cases z:b<i
  .exact X.cl b t z e
  .have:b=i:=by omega
   subst this;intro m g;let⟨f,c⟩:=abq g;exact X.cj f t m (AD.mp c).1 e c
 cj:=λ_ _ _ z=>(by cases z)}
def Lw.at(X:Lw h r1 r2 q d ln L F i j)(b:ln[i]?=some t)(c:m∈mvs h):(∃R,RunK h R/\R.length=q+1/\wlk h r1 r2 R=bth h r1 r2 t m):=by
 let⟨R,k,l,e⟩:=X.v.ln t (GT b);exact⟨R++[m],k.snoc c,by simp[l],by rw[eF,e]⟩
theorem Lw.bad(X:Lw h r1 r2 q d ln L F i j)(g:ln[i]?=some t)(n:m∈mvs h)(b:bad (bth h r1 r2 t m)=true):(∃R,RunK h R/\R.length=q+1/\bad (wlk h r1 r2 R)=true)/\Min h r1 r2 (q+1):=by
 let⟨R,k,l,e⟩:=X.at g n;exact⟨⟨R,k,l,by rw[e];exact b⟩,λc f o=>(X.v.a c f (by omega)).1⟩
def Lw.step{L':List (Pk×Int)}{F':List Tr}(X:Lw h r1 r2 q d ln L F i j)(o:ln[i]?=some t)(r:(mvs h)[j]?=some m)(b:K.bad (bth h r1 r2 t m)=false)(dk:DkOk h L')(up:∀u,Cv L u->Cv L' u)(c:Cv L' (bth h r1 r2 t m))(nw:∀p∈L',p∈L\/(p.1.1,p.1.2,p.2)∈F')(A:∀u∈F,u∈F')(fr:∀u∈F',u∈F\/u=bth h r1 r2 t m):Lw h r1 r2 q d ln L' F' i (j+1) where
 v:=X.v
 dk:=dk
 up:=λu z=>up u (X.up u z)
 nw:=λp y=>(nw p y).elim (λz=>(X.nw p z).imp id (A _)) .inr
 fr:=λu w=>(fr u w).elim (X.fr u) λz=>by rw[z];exact X.at o (GT r)
 cl:=λs k x e f l=>(X.cl s k x e f l).imp id (up _)
 cj:=λn k f B e g=>by
  by_cases z:n<j
  .exact(X.cj n k f z e g).imp id (up _)
  .have:n=j:=by omega
   subst this;rw[o]at e;rw[r]at g
   cases e;cases g
   exact⟨b,c⟩
def Lw.end(X:Lw h r1 r2 q d ln L F ln.length 0):Lv h r1 r2 (q+1) L F where
 a:=λR k l=>by
  by_cases z:R.length≤q
  .exact(X.v.a R k z).imp id (X.up _)
  .obtain⟨R0,m,rfl⟩:=vx (R:=R) (λr=>by rw[r]at z;simp at z);let⟨n,o⟩:=k.cut;let⟨_,p,g,b⟩:=X.v.a R0 n (by simpa using l);have C:Cl h r1 r2 L (p.1.1,p.1.2,p.2):=by
    rcases X.v.ex p g with z|z
    .obtain⟨i',e⟩:=abq z;exact X.cl i' _ (AD.mp e).1 e
    .exact λf c=>(z f c).imp id (X.up _)
   exact C.run b o
 ex:=λp g=>by
  rcases X.nw p g with z|z
  .rcases X.v.ex p z with y|y
   .obtain⟨i',e⟩:=abq y;exact .inr (X.cl i' _ (AD.mp e).1 e)
   .exact .inr λf c=>(y f c).imp id (X.up _)
  .exact .inl z
 ln:=X.fr
end
end
abbrev Wy:=Option (Nat×Mv)
def CvD(T:List Tr)(P:List (List Mv))(d:Nat)(u:Tr):Prop:=∃(j:Nat) (p:List Mv) (t:Tr),P[j]?=some p/\T[j]?=some t/\p.length≤d/\LeT t u
def dE{l m:List α}{x:α}{k:Nat}(e:l[k]?=some x):(l++m)[k]?=some x:=by rw[aaF (AD.mp e).1];exact e
section
variable {h:Hall}{r1 r2:Rule}{L L':List (Pk×Int)}{T:List Tr}{Y:List Wy}{P:List (List Mv)}{C i j:Nat}{m:Mv}{p:List Mv}{t u:Tr}
theorem CvD.le{d d':Nat}(c:CvD T P d u)(hd:d≤d')(a:LeT u t):CvD T P d' t:=let ⟨j,p,x,e1,e2,e3,b⟩:=c;⟨j,p,x,e1,e2,aaw e3 hd,b.trans a⟩
theorem CvD.snoc{d:Nat}{x:Tr}{y:List Mv}(c:CvD T P d u):CvD (T++[x]) (P++[y]) d u:=let ⟨j,p,t,e1,e2,e3,b⟩:=c;⟨j,p,t,dE e1,dE e2,e3,b⟩
structure Qv(h:Hall)(r1 r2:Rule)(C:Nat)(L:List (Pk×Int))(T:List Tr)(Y:List Wy)(P:List (List Mv))(i j:Nat):Prop where
 dk:DkOk h L
 lt:T.length=P.length
 ly:Y.length=P.length
 tr:∀(k:Nat) (p:List Mv),P[k]?=some p->RunK h p/\T[k]?=some (wlk h r1 r2 p)
 wy:∀(k:Nat) (p:List Mv),P[k]?=some p->(p=[]/\Y[k]?=some none)\/∃(a:Nat) (m:Mv) (q:List Mv),a<k/\P[a]?=some q/\p=q++[m]/\Y[k]?=some (some (a,m))
 mo:∀(k l:Nat) (p q:List Mv),P[k]?=some p->P[l]?=some q->k≤l->p.length≤q.length
 cv:∀t∈T,Cv L t
 dl:∀x∈L,(x.1.1,x.1.2,x.2)∈T
 gd:∀t∈T,bad t=false
 p0:P[0]?=some []
 vt:∀t∈T,t.2.2≤(L.length:Int)
 pt:T.length+pot h (nP h) L≤C
 ex:∀(k:Nat) (p:List Mv) (m:Mv),k<i->P[k]?=some p->m∈mvs h->bad (wlk h r1 r2 (p++[m]))=false/\CvD T P (p.length+1) (wlk h r1 r2 (p++[m]))
 ej:∀(k:Nat) (p:List Mv) (m:Mv),k<j->P[i]?=some p->(mvs h)[k]?=some m->bad (wlk h r1 r2 (p++[m]))=false/\CvD T P (p.length+1) (wlk h r1 r2 (p++[m]))
 dp:∀(k:Nat) (p q:List Mv),P[i]?=some p->P[k]?=some q->q.length≤p.length+1
theorem Qv.zero(f:h.Ok):Qv h r1 r2 (1+pot h (nP h) [((zer h,zer h),0)]) [((zer h,zer h),0)] [stT h] [none] [[]] 0 0:=by
 have one:∀{α:Type}{x y:α}{k:Nat},[x][k]?=some y->y=x/\k=0:=λ{α x y k} e=>by
  cases k with
  |zero=>cases e;exact⟨rfl,rfl⟩
  |succ k=>simp at e
 exact {
  dk:=⟨ach _ _,λp c=>by rw[aaa.mp c];exact⟨(ic f r1).ln,(ic f r1).ln⟩,λp c=>by rw[aaa.mp c];exact aeq _,λp c=>by rw[aaa.mp c];exact⟨fU,fU⟩⟩
  lt:=rfl
  ly:=rfl
  tr:=λk p e=>by let⟨rfl,rfl⟩:=one e;exact⟨(λ_ z=>(by cases z)),rfl⟩
  wy:=λk p e=>by let⟨rfl,rfl⟩:=one e;exact .inl ⟨rfl,rfl⟩
  mo:=λk l p q d g _=>by let⟨rfl,_⟩:=one d;exact abh _
  cv:=λt b=>⟨_,aae,by rw[aaa.mp b];exact .refl _⟩
  dl:=λx n=>by rw[aaa.mp n];exact aae
  gd:=λt b=>by rw[aaa.mp b];exact qt
  p0:=rfl
  vt:=λt b=>by rw[aaa.mp b];exact(by decide:(0:Int)≤1)
  pt:=aab _
  ex:=λk p m z=>(by cases z)
  ej:=λk p m z=>(by cases z)
  dp:=λk p q d g=>by let⟨rfl,_⟩:=one g;exact abh _}
def Qv.here(X:Qv h r1 r2 C L T Y P i j)(c:T[i]?=some t):∃p,P[i]?=some p/\RunK h p/\t=wlk h r1 r2 p:=by
 have d:i<P.length:=by rw[<-X.lt];exact(AD.mp c).1
 have b:=lD d;let⟨k,e⟩:=X.tr i _ b;rw[c]at e;exact⟨_,b,k,aas e⟩
theorem Qv.runs(X:Qv h r1 r2 C L T Y P i j){N:Nat}(g:∀k q,P[k]?=some q->q.length<N->k<i):∀n R,R.length=n->n≤N->RunK h R->bad (wlk h r1 r2 R)=false/\CvD T P n (wlk h r1 r2 R)
 |0,R,l,_,_=>by
  rw[aa4 l];exact⟨qt,0,[],_,X.p0,(X.tr 0 [] X.p0).2,aab _,.refl _⟩
 |n+1,R,l,hn,k=>by
  let⟨f,m,rfl⟩:=vx (R:=R) (λz=>by rw[z]at l;cases l);let⟨o,r⟩:=k.cut;let⟨_,a,q,t,e,s,v,b⟩:=X.runs g n f (by simpa using l) (by omega) o;let⟨x,y⟩:=X.ex a q m (g a q e (by omega)) e r;have c:=(X.tr a q e).2;rw[s]at c;cases c;have d:LeT (wlk h r1 r2 (q++[m])) (wlk h r1 r2 (f++[m])):=by rw[eF,eF];exact b.bth
  exact⟨d.good x,y.le (by omega) d⟩
theorem Qv.min(X:Qv h r1 r2 C L T Y P i j)(b:P[i]?=some p):Min h r1 r2 (p.length+1):=λR k l=>(X.runs (N:=p.length) (λk q e z=>by
 rcases Nat.lt_or_ge k i with y|y
 .exact y
 .have:=X.mo i k p q b e y;omega) _ R rfl (by omega) k).1
theorem Qv.done(X:Qv h r1 r2 C L T Y P i j)(b:T.length≤i){R:List Mv}(k:RunK h R):bad (wlk h r1 r2 R)=false/\CvD T P R.length (wlk h r1 r2 R):=X.runs (N:=R.length) (λk q e _=>by
 have:=(AD.mp e).1;have:=X.lt;omega) _ R rfl (aab _) k
theorem Qv.next(X:Qv h r1 r2 C L T Y P i (mvs h).length):Qv h r1 r2 C L T Y P (i+1) 0:={X with
 ex:=λk p m o e c=>by
  by_cases z:k<i
  .exact X.ex k p m z e c
  .have:k=i:=by omega
   subst this;let⟨g,d⟩:=abq c;exact X.ej g p m (AD.mp d).1 e d
 ej:=λ_ _ _ z=>(by cases z)
 dp:=λk p q b n=>by
  have l:i<P.length:=by have:=(AD.mp b).1;omega
  have f:=lD l;have:=X.dp k _ q f n;have:=X.mo i (i+1) _ p f b (by omega);omega}
theorem Qv.old(X:Qv h r1 r2 C L T Y P i j)(f:P[i]?=some p)(v:(mvs h)[j]?=some m)(b:bad (wlk h r1 r2 (p++[m]))=false)(c:Cv L (wlk h r1 r2 (p++[m]))):Qv h r1 r2 C L T Y P i (j+1):={X with
 ej:=λk r s w e d=>by
  by_cases z:k<j
  .exact X.ej k r s z e d
  .have:k=j:=by omega
   subst this;rw[f]at e;rw[v]at d
   cases e;cases d
   let⟨x,o,a⟩:=c;let⟨l,g⟩:=abq (X.dl x o);have n:l<P.length:=by rw[<-X.lt];exact(AD.mp g).1
   exact⟨b,l,_,_,lD n,g,X.dp l p _ f (lD n),a⟩}
def dA{l:List α}{x y:α}{k:Nat}(e:(l++[x])[k]?=some y):l[k]?=some y\/(k=l.length/\y=x):=by
 rw[List.getElem?_append]at e
 split at e
 .exact .inl e
 .have hk:=(AD.mp e).1;simp at hk;have:k=l.length:=by omega
  subst this;simp at e;exact .inr ⟨rfl,e.symm⟩
def qW{l:List α}{x:α}:(l++[x])[l.length]?=some x:=by simp
theorem Qv.new(X:Qv h r1 r2 C L T Y P i j)(Q:h.Ok)(A:r1.Ok h)(B:r2.Ok h)(n1:r1≠.turns)(n2:r2≠.turns)(f:P[i]?=some p)(H:(mvs h)[j]?=some m)(r:u=wlk h r1 r2 (p++[m]))(b:bad u=false)(G:u.2.2<(lkL (u.1,u.2.1) L).getD (u.2.2+1)):Qv h r1 r2 C (setL (u.1,u.2.1) u.2.2 L) (T++[u]) (Y++[some (i,m)]) (P++[p++[m]]) i (j+1):=by
 have N:=GT H;let⟨kp,R⟩:=X.tr i p f;have kr:=kp.snoc N;have y:=g9 Q A B n1 n2 (zJ (r1:=r1) (r2:=r2) kr);have K:=G9 (h:=h) (r1:=r1) (r2:=r2) (p++[m]);rw[<-r]at y K;have S:=Jh b;have U:u.2.2≤(L.length:Int)+1:=by
  rw[r,eF];exact ad8 II (Int.add_le_add_right (X.vt _ (GT R)) 1)
 have V:=X.dk.len;let⟨D,pt,q,le⟩:=X.dk.put (M:=nP h) (a:=(u.1,u.2.1)) y.1 y.2 K S (by omega) G;have J:u.2.2≤((setL (u.1,u.2.1) u.2.2 L).length:Int):=by
  by_cases e:(setL (u.1,u.2.1) u.2.2 L).length=L.length
  .obtain⟨w,hw,vw⟩:=q e;have:=X.vt _ (X.dl _ hw);dsimp only at this;omega
  .omega
 have O:i<P.length:=(AD.mp f).1;exact {
  dk:=D
  lt:=by rw[aan,aan,X.lt];rfl
  ly:=by rw[aan,aan,X.ly];rfl
  tr:=λk q e=>by
   rcases dA e with e|⟨rfl,rfl⟩
   .exact(X.tr k q e).imp id dE
   .exact⟨kr,by rw[<-X.lt,<-r];exact qW⟩
  wy:=λk q e=>by
   rcases dA e with e|⟨rfl,rfl⟩
   .rcases X.wy k q e with⟨z1,z2⟩|⟨a,g,o,z1,z2,z3,z4⟩
    .exact .inl ⟨z1,dE z2⟩
    .exact .inr ⟨a,g,o,z1,dE z2,z3,dE z4⟩
   .exact .inr ⟨i,m,p,O,dE f,rfl,by rw[<-X.ly];exact qW⟩
  mo:=λk l q o d c v=>by
   rcases dA d with d|⟨rfl,rfl⟩
   .rcases dA c with c|⟨rfl,rfl⟩
    .exact X.mo k l q o d c v
    .have:=X.dp k p q f d;rw[aan];exact this
   .rcases dA c with c|⟨rfl,rfl⟩
    .have:=(AD.mp c).1;omega
    .exact aab _
  cv:=λt n=>by
   rcases aaG.mp n with z|z
   .exact(X.cv t z).set X.dk G
   .rw[aaa.mp z];exact⟨_,lm L,.refl _⟩
  dl:=λx s=>by
   rcases fb s with rfl|s
   .exact aaH _ aae
   .exact aby _ (X.dl x s)
  gd:=λt n=>by
   rcases aaG.mp n with z|z
   .exact X.gd t z
   .rw[aaa.mp z];exact b
  p0:=dE X.p0
  vt:=λt n=>by
   rcases aaG.mp n with z|z
   .have:=X.vt t z;omega
   .rw[aaa.mp z];exact J
  pt:=by rw[aan,aeb];have:=X.pt;omega
  ex:=λk q g I e F=>by
   rcases dA e with e|⟨rfl,rfl⟩
   .exact(X.ex k q g I e F).imp id .snoc
   .omega
  ej:=λk q g I e E=>by
   rcases dA e with e|⟨z,rfl⟩
   .by_cases z:k<j
    .exact(X.ej k q g z e E).imp id .snoc
    .have:k=j:=by omega
     subst this;rw[f]at e;rw[H]at E
     cases e;cases E
     rw[<-r];exact⟨b,P.length,p++[m],u,qW,by rw[<-X.lt];exact qW,by simp,.refl _⟩
   .omega
  dp:=λk q o d c=>by
   rcases dA d with d|⟨z,rfl⟩
   .rw[f]at d;cases d;rcases dA c with c|⟨rfl,rfl⟩
    .exact X.dp k p o f c
    .simp
   .omega}
theorem Qv.dep(X:Qv h r1 r2 C L T Y P i j):∀(k:Nat) (p:List Mv),P[k]?=some p->p.length≤k:=λk=>by
 induction k using Nat.strongRecOn with
 |ind k b=>
  intro p e;rcases X.wy k p e with⟨rfl,_⟩|⟨a,m,q,l,c,rfl,_⟩
  .exact abh _
  .have:=b a l q c;rw[aan];simp only[aeb];omega
theorem Qv.nvr(X:Qv h r1 r2 C L T Y P i j)(F:T.length≤i){Z:List Tr}(v:Z.Perm (ldT L)):Nvr h r1 r2 Z:=by
 have f:∀{t:Tr},t∈Z->∃x∈L,t=(x.1.1,x.1.2,x.2):=λ{t} g=>by
  let⟨x,d,e⟩:=aam.mp (v.mem_iff.mp g);exact⟨x,d,e.symm⟩
 have n:∀{x:Pk×Int},x∈L->(x.1.1,x.1.2,x.2)∈Z:=λ{x} d=>v.mem_iff.mpr (aam.mpr ⟨x,d,rfl⟩);refine⟨?_,λt g=>?_,λt g m z=>?_⟩
 .obtain⟨x,d,b⟩:=X.cv (stT h) (GT (X.tr 0 [] X.p0).2);have H:=X.dk.nn x d;have E:x.2≤0:=b.d;have:(x.1.1,x.1.2,x.2)=(zer h,zer h,(0:Int)):=aem b.x (aem b.y (show x.2=0 by omega));rw[<-this];exact n d
 .obtain⟨x,d,rfl⟩:=f g;exact X.gd _ (X.dl x d)
 .obtain⟨x,d,rfl⟩:=f g;let⟨k,r⟩:=abq (X.dl x d);have B:=(AD.mp r).1;have s:=lD (show k<P.length by rw[<-X.lt];exact B);have o:=(X.tr k _ s).2;rw[r]at o;have:=(X.ex k _ m (by omega) s z).2;rw[eF,<-aas o]at this;let⟨l,q,A,G,D,_,b⟩:=this;let⟨y,w,c⟩:=X.cv A (GT D);exact⟨_,n w,c.x.trans b.x,c.y.trans b.y,ad8 c.d b.d⟩
theorem Qv.keys(X:Qv h r1 r2 C L T Y P i j){k:Nat}(c:Cov h r1 r2 k):L.length≤k:=by
 let⟨A,r,g⟩:=c;have:=jl X.dk.nd (m:=A) λa o=>by
  let⟨x,d,rfl⟩:=aam.mp o;let⟨l,e⟩:=abq (X.dl x d);have n:=(AD.mp e).1;have f:=lD (show l<P.length by rw[<-X.lt];exact n);let⟨k,b⟩:=X.tr l _ f;rw[e]at b;have:=g _ k;rw[<-aas b]at this;exact this
 rw[iO]at this;omega
end
end K
namespace L2
open PySem PySem.Spec PyProof.Rows
variable{es:Array ab0}{Q:Ad->Io->Prop}{kvs:List (aD×aD)}
section
variable {prog:aaK}{w:World}{A:abf}{E:Ad->Io->Prop}{s:Io}
def zh{d:Addr}{o:Obj}{a:Nat}(hd:(d==abr)=false)(e:s.heap.get? d=some o)(c:o.ExactDict)(q:o.data = .dict es a)(b:(es.size:Int)<2^63)(h:∀t n,Q (.int es.size t) {s with toks:=n}):wpAny (model prog w) A (acB.«len» ⟨[.ref d],[]⟩) (λf s'=>∃r,f = .done (.ret r)/\Q r s') E s:=by
 have ty:s.TypeIs (.ref d) "dict":=⟨o,e,c.1⟩;unfold acB.«len»;apply gT (m:=oneArg "len" _);refine Ld ?_;apply gT (m:=callSpecial? (.ref d) "__len__");refine aaZ (name:= "__len__") ty F.slot_dict_len ?_;refine abb F.slot_dict_len ty F.entry_dict_len ?_ (F.args_dict_len_1 _);apply gT (m:=dictSize d)
 delta dictSize
 refine gT ?_;refine acF e q ?_;refine Ld ?_;apply gT (m:=acB.Dict.pendingCount d);refine wpAny_pendingCount_other hd ?_;refine afT ?_;rw[show((es.size:Nat):Int)+((0:Nat):Int)=((es.size:Nat):Int) by omega]
 try dsimp only
 apply gT (m:=adj [_] (asIndex _));refine abU (Ld ?_);refine gT (ae6 ?_)
 try dsimp only
 rw[if_neg (by omega),if_neg (by omega)];exact afT (h _ _)
theorem wJ{d:Addr}{o:Obj}{a:Nat}(hd:(d==abr)=false)(e:s.heap.get? d=some o)(c:o.ExactDict)(q:o.data = .dict es a)(b:(es.size:Int)<2^63)(h:∀t n,Q (.int es.size t) {s with toks:=n}):wpAny (model prog w) A (call (.builtin "len") [.ref d]) Q E s:=ae0 kind_len plain_len entry_len (args_len1 _) (zh hd e c q b h)
end
section
variable {X:Cx}{p:List (Addr×Obj)}{b:St}{H:Hp}{s:Io}
theorem Sg{A:abf}{E:Ad->Io->Prop}{a:Addr}(I:Inv X p b H s)(h:IsDc X.kd H a kvs)(f:∀t s',Inv X p b H s'->Q (.int kvs.length t) s'):wpAny (model X.prog X.w) A (call (.builtin "len") [.ref a]) Q E s:=by
 rcases h with⟨es,r,g⟩|⟨es,r,kd,nd,g⟩
 .obtain⟨hz,hs,vs,kv,dd⟩:=oJ I.hok r;let⟨o,c,m,i,k,j,_,d,_⟩:=dd;have l:=d.length;have v:=kv.length;have u:=g.len;rw[abI]at l;have e:c.size=kvs.length:=by omega
  rw[aak]at hz;refine wJ hs i k j (by omega) λt n=>?_;rw[e];exact f t _ (I.tok _)
 .obtain⟨⟨hs,hz,o,c,m,i,k,j,d⟩,_⟩:=(show ObjOk X.prog X.w H s.heap a (dX a es)from r.ok I.hok);have l:=d.length;have u:=g.len;have q:es.length=c.size:=by rw[<-abI];exact d.length
  have e:c.size=kvs.length:=by omega
  rw[aak]at hz;refine wJ hs i k j (by omega) λt n=>?_;rw[e];exact f t _ (I.tok _)
def Qf:WC:=λrs m K=>on1 (λr=>∃kvs:List (aD×aD),dcM m kvs r/\(isKd kvs||kyA kvs)=true/\K (.imm (.int kvs.length))) rs
theorem p6:dt X (.builtin "len") (cM X.kx Qf):=by
 intro p s d H x q Q I j ⟨o,m,b,w,rs,K,R,h,c,f⟩;let⟨r,v,rfl,rfl,i,kvs,hd,k,c⟩:=e8 h c;let⟨a,rfl,l⟩:=i.dc R hd (by simpa using k);let⟨u,rfl,e⟩:=j.one;cases e;exact Sg I l λt n g=>⟨.int kvs.length,H,g,⟨t,rfl⟩,f _ _ H c R (dw _) (Frm.refl _ _)⟩
def zd{m:MSt}{r:R}{K:R->Prop}(a:dcM m kvs r)(c:(isKd kvs||kyA kvs)=true)(h:K (.imm (.int kvs.length))):Qf [r] m K:=⟨kvs,a,c,h⟩
end
end L2
namespace K
open PySem L2
variable{Kr:L2.R->Prop}{r:Rule}{os:List Nat}{h:Hall}{M:Nat}{L:List (Pk×Int)}{Rr:Tr->Prop}{α:Type}{l:ag8}
local macro_rules | `(tactic| walk_at"1") => `(tactic| first
 |((with_reducible refine' FH ?xe ?_);(case xe=>rfl))|(with_reducible first        |apply Qy|apply Qj|apply x_lt|apply x_le|apply x_gt|apply x_ge     |apply UZ|apply UU|apply U6|apply U7 )|((with_reducible refine' x_nd ?xe ?_);(case xe=>first|rfl|assumption))  |(with_reducible first   |apply x_ts)
 |((with_reducible refine' aU ?xe ?_);(case xe=>rfl))|((with_reducible refine' AI ?xf ?xe ?_);(case xf=>rfl);(case xe=>rfl))|((with_reducible refine' CC ?xe ?_);(case xe=>rfl))|((with_reducible refine' rg ?xe ?_);(case xe=>rfl))
 |((with_reducible refine' Jp ?xe ?_);(case xe=>omega))|((with_reducible refine' SV ?xe ?_);(case xe=>exact cfd (by omega) (by omega)))|((with_reducible refine' KQ ?xe ?_);(case xe=>exact UQ (by omega)))|((with_reducible refine' Vo ?xe ?_);(case xe=>exact⟨by decide,by decide,by decide⟩))
 |(with_reducible first  |apply j6|apply x_bindO    )|((with_reducible refine' x_put ?xe ?xf ?_);(case xe=>rfl);(case xf=>rfl))
 |with_reducible apply Tf|((with_reducible refine' Vx ?xe ?xf ?_);(case xe=>rfl);(case xf=>decide))
 |((with_reducible refine' Uy ?xe ?xf ?_);(case xe=>rfl);(case xf=>exact of_decide_eq_true rfl))|(with_reducible first       |apply QJ|apply LM|apply qI|apply x_bindA)|((with_reducible refine' SI ?xa ?xb ?xc ?xd ?xe ?_);(case xa=>rfl);(case xb=>rfl);(case xc=>rfl);(case xd=>rfl);(case xe=>rfl))|((with_reducible refine' x_dgotN ?xa ?xb ?xc ?xd ?xe ?_);(case xa=>rfl);(case xb=>rfl);(case xc=>rfl);(case xd=>rfl);(case xe=>rfl))|((with_reducible refine' LQ ?xa ?xb ?xc ?xd ?xe ?xf ?_);(case xa=>rfl);(case xb=>rfl);(case xc=>rfl);(case xd=>rfl);(case xe=>exact of_decide_eq_true rfl);(case xf=>rfl))|((with_reducible refine' BR ?xa ?xb ?xc ?xd ?_);(case xa=>rfl);(case xb=>rfl);(case xc=>exact of_decide_eq_true rfl);(case xd=>rfl))
 |((with_reducible refine' x_agsX ?xe ?xf ?_);(case xe=>rfl);(case xf=>decide))  |((with_reducible refine' x_rz ?xe ?_);(case xe=>exact of_decide_eq_true rfl))
 |((with_reducible refine' y8 ?xa ?xb ?_);(case xa=>rfl);(case xb=>decide))|(with_reducible first    |apply VH|apply Vz|apply VN|apply UW|apply UY    )|((with_reducible refine' Pf ?xa ?xb ?xc ?xd ?xe ?_);(case xa=>rfl);(case xb=>rfl);(case xc=>rfl);(case xd=>rfl);(case xe=>rfl))|((with_reducible refine' vv ?xa ?xb ?xc ?xd ?xe ?_);(case xa=>rfl);(case xb=>rfl);(case xc=>rfl);(case xd=>rfl);(case xe=>rfl))  |((with_reducible refine' QX ?xa ?xb ?xc ?_);(case xa=>rfl);(case xb=>rfl);(case xc=>rfl))  |((with_reducible refine' Fg ?xa ?_);(case xa=>rfl))  |((with_reducible refine' x_onPairsT ?xa ?xb ?xc ?_);(case xa=>rfl);(case xb=>rfl);(case xc=>exact of_decide_eq_true rfl))
 |(with_reducible first  |apply U3     |apply Q9|apply SW)|((with_reducible refine' x_lenO ?xe ?_);(case xe=>rfl))|(with_reducible first|apply Qx  |apply Vh    )|((with_reducible refine' x_ls ?xe ?_);(case xe=>rfl))
 |(with_reducible first|apply Vn|apply x_isB|apply Gm  |apply Bp  |apply SE)
 |((with_reducible refine' Jz ?xe ?_);(case xe=>rfl))|with_reducible apply TZ|((with_reducible refine' x_list ?xe ?_);(case xe=>rfl))|((with_reducible refine' N9 ?xe ?_);(case xe=>rfl))|(with_reducible first       |apply QE|apply Si)|((with_reducible refine' Qu ?xe ?_);(case xe=>rfl))|(with_reducible first        |apply jy)|with_reducible apply jw)
local macro_rules | `(tactic| walk_at"s") => `(tactic| ((repeat walk_at"1"); try (with_reducible conv => whnf)))
local macro_rules | `(tactic| walk_at"n") => `(tactic| first | dsimp only [mapR, cU, List.set, MSt.setV, MSt.setN, List.take, List.length, List.append, oU, yH, Nat.reduceAdd, List.getD_cons_succ, List.getD_cons_zero, List.nil_append, List.cons_append, setT, lfD] | dsimp only [mapR, cU, List.set, MSt.setV, MSt.setN, List.take, List.length, List.append, oU, yH, Nat.reduceAdd, List.getD_cons_succ, List.getD_cons_zero, List.nil_append, List.cons_append] | skip)
local macro_rules | `(tactic| walk_at "sc") => `(tactic| exact ⟨rfl, rfl, rfl, by decide +kernel, rfl, by decide +kernel, by decide +kernel⟩)
local macro_rules | `(tactic| walk_at"x") => `(tactic| (walk_at"n"; walk_at"s"))
local macro_rules | `(tactic| walk_at "a") => `(tactic| (refine bm (λz=>absurd z (by decide +kernel)) (λ_=>?_);walk_at"s";refine bm (λz=>absurd z (by decide +kernel)) (λ_=>?_);walk_at"s"))
local macro_rules | `(tactic| walk_at "b") => `(tactic| (refine bm (λz=>absurd z (by decide +kernel)) (λ_=>?_);walk_at"s";refine bm (λ_=>?_) (λz=>(z rfl).elim);walk_at"s"))
local macro_rules | `(tactic| walk_at "c") => `(tactic| (walk_at"s";refine da ?_;walk_at"x"))
local macro_rules | `(tactic| walk_at "d") => `(tactic| (refine⟨by omega,by omega,?_⟩;rw[aaN]))
local macro_rules | `(tactic| walk_at "e") => `(tactic| (walk_at"s";rw[iO];refine w4 (by omega) (by omega) (by simp;omega) ?_))
local macro_rules | `(tactic| walk_at "f") => `(tactic| (walk_at"s";rw[if_pos (by decide +kernel)];walk_at"s"))
local macro_rules | `(tactic| walk_at "g") => `(tactic| (walk_at"s";rw[if_neg (by decide)];walk_at"s"))
local macro_rules | `(tactic| walk_at "h") => `(tactic| (dsimp only[Srv.d];walk_at"s"))
def top(i:Nat):Stmt:=PySem.Challenge.pw_shorterline_k54_never_or_a_shortest_run.main.body.getD i (.Pass ⟨0,0,0,0⟩)
abbrev rG:Stmt:=top 4
abbrev lU:Stmt:=top 6
abbrev dN:Stmt:=top 7
abbrev ef:Stmt:=top 9
abbrev qH:Stmt:=top 10
abbrev d4:Stmt:=top 11
abbrev qJ:Stmt:=top 12
abbrev gw:Stmt:=top 14
abbrev gh:Stmt:=top 15
abbrev fB:Stmt:=top 16
abbrev jR:Stmt:=top 17
abbrev rJ:Stmt:=top 18
abbrev qz:Stmt:=top 19
abbrev je:Stmt:=top 20
abbrev rF:Stmt:=top 21
abbrev gQ:Stmt:=top 22
abbrev qO:Stmt:=top 23
abbrev lu:Stmt:=top 24
abbrev iX:Stmt:=top 26
abbrev ga:Stmt:=top 27
abbrev gg:Stmt:=top 28
abbrev jP:Stmt:=top 29
abbrev fv:Stmt:=top 30
abbrev ma:Stmt:=top 31
abbrev bC:Stmt:=(i5 (top 33)).getD 1 (.Pass ⟨0,0,0,0⟩)
abbrev aM:Stmt:=(i5 (top 33)).getD 2 (.Pass ⟨0,0,0,0⟩)
abbrev df:Stmt:=(i5 (top 33)).getD 3 (.Pass ⟨0,0,0,0⟩)
abbrev ck:Stmt:=(i5 (top 33)).getD 4 (.Pass ⟨0,0,0,0⟩)
abbrev bJ:Stmt:=(i5 (top 33)).getD 5 (.Pass ⟨0,0,0,0⟩)
abbrev cc:Stmt:=(i5 (top 33)).getD 6 (.Pass ⟨0,0,0,0⟩)
abbrev bV:Stmt:=(i5 (top 33)).getD 0 (.Pass ⟨0,0,0,0⟩)
abbrev h8:Stmt:=top 34
abbrev jO:Stmt:=top 36
abbrev kh:Stmt:=top 37
abbrev j7:Stmt:=top 38
abbrev cY:Stmt:=top 40
abbrev cA:Stmt:=top 39
abbrev fG:Stmt:=top 41
abbrev iG:Stmt:=top 42
abbrev lR:Stmt:=top 43
abbrev j2:Stmt:=top 44
abbrev ie:Stmt:=top 45
abbrev db:Stmt:=top 46
abbrev jK:Stmt:=top 47
abbrev gC:Stmt:=top 48
abbrev gG:Stmt:=top 49
abbrev fx:Stmt:=top 50
abbrev fj:Stmt:=top 51
abbrev d7:Stmt:=top 52
abbrev gf:Stmt:=top 53
abbrev slaw:Stmt:=top 54
structure Bl(K:aag)(mg:Str->Option Ad):Prop where
 len:mg "len" = none
 abs:mg "abs" = none
 range:mg "range" = none
 list:mg "list" = none
 tuple:mg "tuple" = none
 int:mg "int" = none
 sum:mg "sum" = none
 max:mg "max" = none
 min:mg "min" = none
 isinstance:mg "isinstance" = none
 bool:mg "bool" = none
 sorted:mg "sorted" = none
 zip:mg "zip" = none
 enumerate:mg "enumerate" = none
 repr:mg "repr" = none
 f_Search_hall:InsF K "Search" "hall"
 f_Search_rules:InsF K "Search" "rules"
 f_Search_moves:InsF K "Search" "moves"
 f_Search_steps:InsF K "Search" "steps"
 f_Search_leads:InsF K "Search" "leads"
 f_Search_triples:InsF K "Search" "triples"
 f_Search_ways:InsF K "Search" "ways"
def y7:ay ["one","other"] ["one","other"] (ab rG):=by ext sc
def jY:ay ["hall","servers","server"] ["hall"] (ab lU):=by ext sc
def ci:ay ["hall","lines","place","many","server"] ["hall","lines"] (ab dN):=by ext sc
def cG:ay ["lines","order","best","line"] ["lines","order"] (ab ef):=by ext sc
def nq:ay ["hall","lines","line","top","bottom"] ["hall","lines","line"] (ab qH):=by ext sc
def bZ:ay ["hall","lines","order","best","least","line","wait"] ["hall","lines","order"] (ab d4):=by ext sc
def jo:ay ["hall","rule","stand","order","lines","turn","word"] ["hall","rule","stand","order"] (ab qJ):=by ext sc
def rj:ay ["hall"] ["hall"] (ab gw):=by ext sc
def dj:ay ["hall","many","orders","place"] ["hall"] (ab gh):=by ext sc
def mf:ay ["hall","dones"] ["hall"] (ab fB):=by ext sc
def vC:ay ["lines","line","more"] ["lines","line","more"] (ab jR):=by ext sc
def y3:ay ["hall","lines","line"] ["hall","lines","line"] (ab rJ):=by ext sc
def B8:ay ["lines","line"] ["lines","line"] (ab qz):=by ext sc
def sG:ay ["hall","lines"] ["hall","lines"] (ab je):=by ext sc
def ji:ay ["hall","lines","shift"] ["hall","lines"] (ab rF):=by ext sc
def rQ:ay ["hall","rule","turn"] ["hall","rule","turn"] (ab gQ):=by ext sc
def Ac:ay ["hall","rule","stand","move"] ["hall","rule","stand","move"] (ab qO):=by ext sc
def cn:ay ["hall","rule","stand","move","lines","turn","word","line"] ["hall","rule","stand","move"] (ab lu):=by ext sc
def sg:ay ["hall","lines"] ["hall","lines"] (ab iX):=by ext sc
def o8:ay ["one","other"] ["one","other"] (ab ga):=by ext sc
def iU:ay ["hall","void"] ["hall"] (ab gg):=by ext sc
def iW:ay ["hall","rule","lines","move","stand","word"] ["hall","rule","lines","move"] (ab jP):=by ext sc
def bQ:ay ["one_step","other_step","lead","x","one_away","y","other_away"] ["one_step","other_step","lead"] (ab fv):=by ext sc
def iq:ay ["triple","x","y","lead"] ["triple"] (ab ma):=by ext sc
def fE:ay ["self","side","lines","rule"] ["self","side","lines"] (ab bC):=by ext sc
def ba:ay ["self","triple","x","y","lead","one_steps","other_steps"] ["self","triple"] (ab aM):=by ext sc
def fe:ay ["self","triple","ahead","move","x","y","lead"] ["self","triple","ahead","move"] (ab df):=by ext sc
def cX:ay ["self","at","moves","move"] ["self","at"] (ab ck):=by ext sc
def bw:ay ["self","at","behind","move","triple"] ["self"] (ab bJ):=by ext sc
def oA:ay ["self"] ["self"] (ab cc):=by ext sc
def jU:ay ["self","hall","one","other"] ["self","hall","one","other"] (ab bV):=by ext sc
def fZ:ay ["hall","one","other","search","run"] ["hall","one","other"] (ab h8):=by ext sc
def vf:ay ["_law_script"] ["_law_script"] (ab jO):=by ext sc
def cN:ay ["_law_tape_here","_law_many","_law_found","_law_turn","_law_cell","_law_mixed"] ["_law_tape_here","_law_many"] (ab kh):=by ext sc
def jd:ay ["_law_top","_law_bottom","_law_one","_law_other"] ["_law_top","_law_bottom"] (ab j7):=by ext sc
def bW:ay ["_law_rooms","_law_found","_law_room","_law_longer","_law_lines"] ["_law_rooms"] (ab cY):=by ext sc
def cf:ay ["_law_tape_here","_law_most","_law_many","_law_servers","_law_come","_law_whole","_law_speeds"] ["_law_tape_here","_law_most"] (ab cA):=by ext sc
def jh:ay ["_law_tape_here","_law_hall_here","_law_way","_law_count"] ["_law_tape_here","_law_hall_here"] (ab fG):=by ext sc
def b7:ay ["_law_hall_here","_law_rule_here","_law_lines","_law_order","_law_rooms","_law_found","_law_rest","_law_k","_law_one","_law_other","_law_mine","_law_theirs"] ["_law_hall_here","_law_rule_here","_law_lines","_law_order"] (ab iG):=by ext sc
def yD:ay ["_law_lines","_law_k","_law_more"] ["_law_lines","_law_k","_law_more"] (ab lR):=by ext sc
def ce:ay ["_law_hall_here","_law_rule_here","_law_lines","_law_move","_law_word","_law_k","_law_longest","_law_void"] ["_law_hall_here","_law_rule_here","_law_lines","_law_move"] (ab j2):=by ext sc
def m6:ay ["_law_hall_here","_law_lines","_law_alike"] ["_law_hall_here","_law_lines"] (ab ie):=by ext sc
def cu:ay ["_law_hall_here","_law_orders","_law_turn","_law_longer","_law_order","_law_found"] ["_law_hall_here"] (ab db):=by ext sc
def d6:ay ["_law_hall_here","_law_one","_law_other","_law_triple","_law_move","_law_x","_law_first","_law_y","_law_second"] ["_law_hall_here","_law_one","_law_other","_law_triple","_law_move"] (ab jK):=by ext sc
def rf:ay ["_law_triple"] ["_law_triple"] (ab gC):=by ext sc
def aY:ay ["_law_hall_here","_law_one","_law_other","_law_most","_law_void","_law_known","_law_line","_law_length","_law_fresh","_law_triple","_law_move","_law_x","_law_y","_law_more"] ["_law_hall_here","_law_one","_law_other","_law_most"] (ab gG):=by ext sc
def oh:ay ["_law_thing"] ["_law_thing"] (ab fx):=by ext sc
def gN:ay ["_law_hall_here","_law_thing","_law_k"] ["_law_hall_here","_law_thing"] (ab fj):=by ext sc
def aG:ay ["_law_hall_here","_law_one","_law_other","_law_thing","_law_triple","_law_void","_law_known","_law_x","_law_y","_law_more","_law_k","_law_move"] ["_law_hall_here","_law_one","_law_other","_law_thing"] (ab d7):=by ext sc
def b6:ay ["_law_hall_here","_law_one","_law_other","_law_due","_law_former","_law_told","_law_void","_law_triple","_law_moves_here","_law_move"] ["_law_hall_here","_law_one","_law_other"] (ab gf):=by ext sc
def Bt:ay ["_law_script","_law_tape_here","_law_k","_law_hall_here","_law_one","_law_other"] ["_law_script"] (ab slaw):=by ext sc
def kU:∀(kV d pm:Ad) (an:Option Addr) (c ct:Ad) (us:List Ad),us.length=(["self","side","lines"]:List Str).length->adB (abi "steps_of" "Search.steps_of" (cC bC) (bM bC) (ab bC) .none kV d pm an c ct) ⟨us,[]⟩=pure ((["self","side","lines"]:List Str).zip us):=λ_ _ _ _ _ _ us a=>match us,a with|[_,_,_],_=>rfl
def gq:∀(kV d pm:Ad) (an:Option Addr) (c ct:Ad) (us:List Ad),us.length=(["self","triple"]:List Str).length->adB (abi "triples_behind" "Search.triples_behind" (cC aM) (bM aM) (ab aM) .none kV d pm an c ct) ⟨us,[]⟩=pure ((["self","triple"]:List Str).zip us):=λ_ _ _ _ _ _ us a=>match us,a with|[_,_],_=>rfl
def vq:∀(kV d pm:Ad) (an:Option Addr) (c ct:Ad) (us:List Ad),us.length=(["self","triple","ahead","move"]:List Str).length->adB (abi "met" "Search.met" (cC df) (bM df) (ab df) .none kV d pm an c ct) ⟨us,[]⟩=pure ((["self","triple","ahead","move"]:List Str).zip us):=λ_ _ _ _ _ _ us a=>match us,a with|[_,_,_,_],_=>rfl
def o5:∀(kV d pm:Ad) (an:Option Addr) (c ct:Ad) (us:List Ad),us.length=(["self","at"]:List Str).length->adB (abi "run_to" "Search.run_to" (cC ck) (bM ck) (ab ck) .none kV d pm an c ct) ⟨us,[]⟩=pure ((["self","at"]:List Str).zip us):=λ_ _ _ _ _ _ us a=>match us,a with|[_,_],_=>rfl
def kb:∀(kV d pm:Ad) (an:Option Addr) (c ct:Ad) (us:List Ad),us.length=(["self"]:List Str).length->adB (abi "worse_run" "Search.worse_run" (cC bJ) (bM bJ) (ab bJ) .none kV d pm an c ct) ⟨us,[]⟩=pure ((["self"]:List Str).zip us):=λ_ _ _ _ _ _ us a=>match us,a with|[_],_=>rfl
def qP:∀(kV d pm:Ad) (an:Option Addr) (c ct:Ad) (us:List Ad),us.length=(["self"]:List Str).length->adB (abi "paper" "Search.paper" (cC cc) (bM cc) (ab cc) .none kV d pm an c ct) ⟨us,[]⟩=pure ((["self"]:List Str).zip us):=λ_ _ _ _ _ _ us a=>match us,a with|[_],_=>rfl
def kJ:∀(kV d pm:Ad) (an:Option Addr) (c ct:Ad) (us:List Ad),us.length=(["self","hall","one","other"]:List Str).length->adB (abi "__init__" "Search.__init__" (cC bV) (bM bV) (ab bV) .none kV d pm an c ct) ⟨us,[]⟩=pure ((["self","hall","one","other"]:List Str).zip us):=λ_ _ _ _ _ _ us a=>match us,a with|[_,_,_,_],_=>rfl
def Jk:SpM:=λa K=>∃h:Hall,a=[.imm h.d]/\h.Ok/\K (.imm (.bool (alk h))) []
def mh:SpM:=λa K=>∃(h:Hall) (l:List Nat),a=[.imm h.d,.imm (lnD l)]/\h.Ok/\l.length≤4/\K (.imm (lnD (cW h l))) []
def jG:SpM:=λa K=>∃h:Hall,a=[.imm h.d]/\h.Ok/\K (.new ((mvs h).map Mv.d)) []
def prD'(P:List Tr):aD:=.tuple (P.map trD)
def Jn:SpM:=λb K=>∃r1 a:Rule,b=[.imm r1.d,.imm a.d]/\r1≠.turns/\a≠.turns/\K (.imm .none) []
def Ij:SpM:=λa K=>∃h:Hall,a=[.imm h.d]/\h.Ok/\K (.imm (trD (zer h,zer h,0))) []
def ksD(p:List Nat×Wd):aD:=.tuple [lnD p.1,.bool (decide (p.2 = .away))]
def TM:SpM:=λa K=>∃(h:Hall) (r:Rule) (l:List Nat) (m:Mv),a=[.imm h.d,.imm r.d,.imm (lnD l),.imm m.d]/\h.Ok/\r.Ok h/\r≠.turns/\Lines h l/\m.Ok h/\K (.imm (ksD (kst h r l m))) []
def RF:SpM:=λa K=>∃(p q:List Nat×Wd) (d:Int),a=[.imm (ksD p),.imm (ksD q),.imm (.int d)]/\K (.imm (trD (p.1,q.1,d+aw q.2-aw p.2))) []
def I9:SpM:=λa K=>∃t:Tr,a=[.imm (trD t)]/\K (.imm (.bool (decide (((t.2.1.sum:Nat):Int)+t.2.2<((t.1.sum:Nat):Int))))) []
def j1{d x:aD}{tl:List aD}{m:MSt}(e:d = .tuple (x::tl))(h:Kr (.imm x)):qp (.imm d) (.imm (.int 0)) m Kr:=by
 subst e;exact aU (bg (j:=0) rfl) h
def xQ(r:Rule):∃tl,r.d = .tuple (.str r.word::tl):=by cases r<;>exact⟨_,rfl⟩
theorem qo(h:r≠.turns):decide (r.word = "turns")=false:=by
 cases r with
 |turns=>exact(h rfl).elim
 |told p=>exact(show decide (("told" : Str) = "turns")=false by decide +kernel)
 |random=>decide +kernel
 |two=>decide +kernel
 |least=>decide +kernel
 |quick=>decide +kernel
def JF{m:MSt}{k:Nat}{a b:List aD}(e:m.os[k]?=some b)(c:a.length+b.length≤aal)(h:Kr (.new (a++b))):oAdd (.new a) (.obj k) m Kr:=⟨a,b,rfl,e,c,h⟩
def D9(w:Wd):decide (w.s = "away")=decide (w = .away):=by cases w<;>decide +kernel
def OU(h:Hall):(mvs h).map Mv.d=(ordK h.ss.length h.ss.length).map (λo=>(Mv.come o).d)++(aax h.ss.length).map (λk=>(Mv.done k).d)++[.tuple [.str "still"]]:=by
 unfold mvs;rw[aaD,aaD,aa9,aa9];rfl
def qR:SpM:=λa K=>∃t:Tr,a=[.imm (trD t)]/\K (.imm (.bool (bad t))) []
def y9:SpM:=λa K=>∃(h:Hall) (r:Rule) (l:List Nat) (o:List Nat),a=[.imm h.d,.imm r.d,.imm (lnD l),.imm (lnD o)]/\h.Ok/\r.Ok h/\r≠.turns/\Lines h l/\Ord h.ss.length o/\K (.imm (.int (sent h r l 0 o:Nat))) []
def IU:SpM:=λa K=>∃(h:Hall) (r:Rule) (l:List Nat) (m:Mv),a=[.imm h.d,.imm r.d,.imm (lnD l),.imm m.d]/\h.Ok/\r.Ok h/\r≠.turns/\Lines h l/\m.Ok h/\K (.imm (lwD ((kM h r l 0 m).1,(kM h r l 0 m).2.2))) []
def vZ:SpM:=λb K=>∃(h:Hall) (r1 a:Rule) (t:Tr) (m:Mv),b=[.imm h.d,.imm r1.d,.imm a.d,.imm (trD t),.imm m.d]/\h.Ok/\r1.Ok h/\a.Ok h/\r1≠.turns/\a≠.turns/\Lines h t.1/\Lines h t.2.1/\m.Ok h/\K (.imm (trD (bth h r1 a t m))) []
def Rk:Rule->Prop
 | .two=>True
 | .least=>True
 | .quick=>True
 |_=>False
def rsO(r:Rule)(os:List Nat):List Nat:=match r with
 | .two=>os.take 1
 |_=>os
def ltO(h:Hall)(l:List Nat)(r:Rule):Nat->Nat->Bool:=match r with
 | .quick=>cK h l
 |_=>cP l
def BI{x:Nat}(h:x∈rsO r os):x∈os:=by
 cases r<;>first|exact h|exact ace h
theorem UM{l:List Nat}{o:Nat}(a:Rk r):sent h r l 0 (o::os)=M7.pick (ltO h l r) o (rsO r os):=by
 cases r with
 |two=>exact M7.pick_self (lt:=cP l) (k:=o) (ks:=os.take 1) (by unfold cP;simp)
 |least=>exact M7.pick_self (lt:=cP l) (k:=o) (ks:=os) (by unfold cP;simp)
 |quick=>exact M7.pick_self (lt:=cK h l) (k:=o) (ks:=os) (by unfold cK;simp)
 |random=>exact a.elim
 |turns=>exact a.elim
 |told _=>exact a.elim
theorem ya{lt:Nat->Nat->Bool}{n:Nat}:∀{ks:List Nat}{b:Nat},b<n->(∀k∈ks,k<n)->M7.pick lt b ks<n
 |[],b,hb,_=>hb
 |k::ks,b,hb,h=>by
  show M7.pick lt (if lt k b then k else b) ks<n;refine ya ?_ λz a=>h z (aaf _ a);split
  .exact h k aae
  .exact hb
def xz:SpM:=λb K=>∃(h:Hall) (r1 a:Rule) (mo:Nat),b=[.imm h.d,.imm r1.d,.imm a.d,.imm (.int (mo:Int))]/\h.Ok/\(M3.allR h.rs).length≤12/\r1.Ok h/\a.Ok h/\r1≠.turns/\a≠.turns/\(∀n:Nat,(∃R,RunK h R/\R.length=n/\bad (wlk h r1 a R)=true)->Min h r1 a n->K (.imm (.tuple [.str "worse",.int (n:Int)])) [])/\(∀k,yw h r1 a->Cov h r1 a mo->K (.imm (.tuple [.str "never",.dict k])) [])/\K (.imm .none) []
def mea(h:Hall)(M:Nat)(L:List (Pk×Int))(e:Bool):Nat:=smL L+(nP h-L.length)*(M+(nP h-L.length)+2)+(if e=true then 0 else 1)
def GW{u:Nat}{L':List (Pk×Int)}(o:L.length≤L'.length)(le:L'.length≤nP h)(p:pot h M L'+u≤pot h M L):(u=0->mea h (if L'.length=L.length then M else M+1) L' true<mea h M L false)/\(0<u->mea h (if L'.length=L.length then M else M+1) L' false<mea h M L false):=by
 unfold pot at p;unfold mea;generalize smL L=S at *;generalize smL L'=f at *;generalize m:nP h-L.length=k at *;generalize g:nP h-L'.length=c at *;have d:c≤k:=by omega
 have key:f+c*((if L'.length=L.length then M else M+1)+c+2)+u≤S+k*(M+k+2):=by
  by_cases z:L'.length=L.length
  .rw[if_pos z];have:c=k:=by omega
   subst this;have e:∀a b:Nat,c*(a+c+b)=c*(a+b)+c*c:=λa b=>by rw[<-ag7];congr 1;omega
   rw[e M 2];omega
  .rw[if_neg z];have k1:c+1≤k:=by omega
   have i:c*(M+1+c+2)=c*(M+2)+c*(c+1):=by rw[<-ag7];congr 1;omega
   have n:k*(M+k+2)=k*(M+2)+k*k:=by rw[<-ag7];congr 1;omega
   have j:c*(c+1)≤k*k:=abC d k1;omega
 constructor
 .intro z;simp only[if_true,ab5,if_false];omega
 .intro z;simp only[if_false,ab5];omega
def Ju{k:Nat}{ds:List aD}{g:WG}{w:WS}{D:fi}{m1:MSt}(P:Nat->MSt->Prop)(p0:P 0 (m1.setN (max m1.np (k+1))))(ok:∀i m,P i m->m.os[k]?=some ds)(step:∀(i:Nat) (d:aD) (m:MSt),ds[i]?=some d->m.np=max m1.np (k+1)->P i m->∀b:fi,(∀a,P (i+1) a->b.nx a)->(∀r a,D.rt r (a.setN m1.np)->b.rt r a)->g d m λm2=>w b m2)(f:∀m,m.np=max m1.np (k+1)->P ds.length m->D.nx (m.setN m1.np)):o4 ⟨ds,some k⟩ g w D m1:=fy P p0 ok (λi d m e n p=>step i d m e n p _ (λ_ z=>z) λ_ _ z=>z) f
def bnd(M:Nat)(a L:List (Pk×Int)):Nat:=if L.length=a.length then M else M+1
structure TnOk(h:Hall)(Rr:Tr->Prop)(M:Nat)(L0 L:List (Pk×Int))(F:List Tr):Prop where
 dk:DkOk h L
 ll:L0.length≤L.length
 vl:∀p∈L,p.2≤(bnd M L0 L:Int)
 fr:∀t∈F,Rr t/\0≤t.2.2/\t.2.2≤(bnd M L0 L:Int)
 pt:pot h M L+F.length≤pot h M L0
def TnOk.put{f:List (Pk×Int)}{F:List Tr}{B:Tr}(T:TnOk h Rr M f L F)(m:Lines h B.1)(j:Lines h B.2.1)(n:cW h B.1=B.1/\cW h B.2.1=B.2.1)(R:Rr B)(g:0≤B.2.2)(i:B.2.2≤(M:Int)+1)(k:B.2.2<(lkL (B.1,B.2.1) L).getD (B.2.2+1)):TnOk h Rr M f (setL (B.1,B.2.1) B.2.2 L) (F++[B]):=by
 let⟨D,p,q,le⟩:=T.dk.put (M:=M) (a:=(B.1,B.2.1)) m j n g i k;have ll:=T.ll;have pt:=T.pt;have up:bnd M f L≤bnd M f (setL (B.1,B.2.1) B.2.2 L):=by
  unfold bnd
  split<;>split<;>omega
 have v:B.2.2≤(bnd M f (setL (B.1,B.2.1) B.2.2 L):Int):=by
  by_cases e:(setL (B.1,B.2.1) B.2.2 L).length=L.length
  .obtain⟨w,hw,vw⟩:=q e;have:=T.vl _ hw;dsimp only at this;omega
  .have:bnd M f (setL (B.1,B.2.1) B.2.2 L)=M+1:=if_neg (by omega);omega
 refine⟨D,by omega,λx d=>?_,λx d=>?_,by rw[aan,aeb];omega⟩
 .rcases fb d with rfl|d
  .exact v
  .have:=T.vl x d;omega
 .rcases aaG.mp d with d|d
  .obtain⟨a,b,c⟩:=T.fr x d;exact⟨a,b,by omega⟩
  .rw[aaa.mp d];exact⟨R,g,v⟩
def TnOk.zero(D:DkOk h L)(V:∀p∈L,p.2≤(M:Int)):TnOk h Rr M L L []:=⟨D,aab _,λp a=>by rw[show bnd M L L=M from if_pos rfl];exact V p a,λ_ z=>(by cases z),aab _⟩
theorem Iw{M:Nat}:∀{L:List (Pk×Int)},(∀p∈L,p.2≤(M:Int))->smL L≤L.length*M
 |[],_=>abh _
 |q::L,h=>by
  have b:=Iw λp a=>h p (aaf _ a);have c:=h q aae;show q.2.toNat+smL L≤(L.length+1)*M;rw[adl];omega
theorem OG(D:DkOk h L)(V:∀p∈L,p.2≤(M:Int))(a:(M3.allR h.rs).length≤12)(m:M≤L.length+5):pot h M L≤50000:=by
 have n:nP h≤144:=abC a a;have l:=D.len;have s:=Iw V;have m1:L.length*M≤144*149:=abC (by omega) (by omega);have m2:(nP h-L.length)*(M+2)≤144*151:=abC (by omega) (by omega);unfold pot;omega
def zO(t:Tr):Shp 2 (trD t):=bf λd hd=>by
 obtain rfl|hd:=aah.mp hd
 .exact bf (br _)
 .obtain rfl|hd:=aah.mp hd
  .exact bf (br _)
  .rw[aaa.mp hd];exact(cE _).mono (by decide)
def Ox(ln:List Tr):ab9 (.list (ln.map trD))=true:=(wx λd hd=>by
 let⟨t,_,rfl⟩:=aam.mp hd;exact zO t).ok (by decide)
def Ls(ln:List Tr):aad (.list (ln.map trD)) (.list [])=ln.isEmpty:=by cases ln<;>rfl
def vN:SpM:=λb K=>∃(t:aD) (c mo:Nat),b=[.tr t,.imm (.int (mo:Int))]/\TapeK c t/\c<800000000/\2≤mo/\∀(h:Hall) (a:aD),h.Ok->(M3.allR h.rs).length≤mo->TapeK (c+20) a->K (.imm h.d) [[a]]
theorem SvK.tail{p:Nat×Nat}{ps:List (Nat×Nat)}{mo:Nat}(h:SvK (p::ps))(c:∀r∈bA (p::ps),r≤1)(i:2≤mo)(e:mo<(M3.allR (bA (p::ps))).length):SvK ps/\(bA (j4 ps)).sum<(bA (p::ps)).sum:=by
 rw[M7.allR_cnt]at e;have b:=Bi c;have l:(bA (p::ps)).length=ps.length+1:=by simp[bA]
 have g:=h.2.2 p aae;have d:=h.2.1;rw[aaB]at d;refine⟨⟨?_,by omega,λq a=>h.2.2 q (aaf _ a)⟩,?_⟩
 .cases ps with
  |nil=>rw[l]at b;simp at b;omega
  |cons q ps=>simp
 .have:=(m8 (ps:=ps) λq a=>(h.2.2 q (aaf _ a)).2.2.1).1;have f:(bA (p::ps)).sum=p.2+(bA ps).sum:=by simp[bA]
  omega
def CY:SpM:=λb K=>∃(t:aD) (c:Nat) (h:Hall),b=[.tr t,.imm h.d]/\TapeK c t/\c<800000000/\h.Ok/\∀(r:Rule) (a:aD),r.Ok h->r≠.turns->TapeK (c+3000) a->K (.imm r.d) [[a]]
def uA(a:h.Ok):1≤(mvs h).length/\(mvs h).length≤1000:=by
 have n1:=a.n1;have n4:=a.n4;unfold mvs;rw[aan,aan,iO,iO,aaW];generalize h.ss.length=n at *;have:(ordK n n).length≤24:=by
  rcases (show n=1\/n=2\/n=3\/n=4 by omega)with rfl|rfl|rfl|rfl<;>decide
 simp;omega
def Ku{f:α->aD}{key:α->List Nat}{W:List α}(n:W.length<64)(A:∀a∈W,∀b∈W,(key a).length=(key b).length)(nd:(W.map key).Nodup)(lt:∀a∈W,∀b∈W,key a≠key b->ltD (f a) (f b)=lexN (key a) (key b))(D:∀a∈W,∀b∈W,key a=key b->ltD (f a) (f b)=true->key a≠key b)(sm:∀a∈W,∀b∈W,smD (f a) (f b)=true)(tt:∀a∈W,tt1 (f a)=true)(dp:∀a∈W,(f a).depth≤7):SrtT (W.map f):=by
 have get:∀i,i<W.length->∃a,W[i]?=some a/\a∈W/\(W.map f).getD i .none=f a:=λi C=>by
  have e:=lD C;exact⟨_,e,GT e,bu (by rw[aai,e];rfl)⟩
 have inj:∀{i j:Nat}{a b:α},W[i]?=some a->W[j]?=some b->i<j->key a≠key b:=λ{i j a b} H I s=>by
  let⟨C,rfl⟩:=AD.mp H;let⟨K,rfl⟩:=AD.mp I;have:=abG.mp nd i j (by rwa[iO]) (by rwa[iO]) s;rwa[adq,adq]at this
 refine⟨⟨by rw[iO];exact n,λx o y F=>?_,λx o=>?_,λx o=>?_⟩,⟨λa b c d k E=>?_,λa b d k ne=>?_⟩⟩
 .obtain⟨a,d,rfl⟩:=aam.mp o;let⟨b,k,rfl⟩:∃b,b∈W/\f b=y:=aam.mp F;exact sm a d b k
 .obtain⟨a,d,rfl⟩:=aam.mp o;exact tt a d
 .obtain⟨a,d,rfl⟩:=aam.mp o;exact dp a d
 .rw[iO]at d k E;let⟨x,ex,g,v⟩:=get a d;let⟨y,u,m,B⟩:=get b k;let⟨z,N,p,J⟩:=get c E;rw[v,B,J];intro w q;have n1:key x≠key y:=λe=>D x g y m e w e;have n2:key y≠key z:=λe=>D y m z p e q e;rw[lt x g y m n1]at w;rw[lt y m z p n2]at q;have t:=AY (A x g y m) (A y m z p) w q;have G:key x≠key z:=λe=>by rw[e,xO]at t;cases t
  rw[lt x g z p G];exact t
 .rw[iO]at d k;let⟨x,ex,g,v⟩:=get a d;let⟨y,u,m,B⟩:=get b k;rw[v,B];have n:key x≠key y:=by
   rcases aeN ne with z|z
   .exact inj ex u z
   .exact λe=>inj u ex z e.symm
  rw[lt x g y m n,lt y m x g (abO n)];exact wq (A x g y m) n
def wyD:Wy->aD
 |none=>.tuple [.int (-1),.none]
 |some (a,m)=>.tuple [.int (a:Int),m.d]
def rl(r1 r2:Rule)(s:Nat):Rule:=if s=0 then r1 else r2
abbrev Ck:=Nat×List Nat
def skD(p:Ck):aD:=.tuple [.int (p.1:Int),lnD p.2]
def stv(h:Hall)(r1 r2:Rule)(p:Ck):List aD:=(mvs h).map λm=>ksD (kst h (rl r1 r2 p.1) p.2 m)
def ki(h:Hall)(r1 r2:Rule)(C:List Ck):List (aD×aD):=C.map λp=>(skD p,.list (stv h r1 r2 p))
structure CaOk(h:Hall)(C:List Ck):Prop where
 nd:C.Nodup
 ok:∀p∈C,p.1<2/\Lines h p.2
theorem CaOk.len{C:List Ck}(X:CaOk h C):C.length≤2*(M3.allR h.rs).length:=by
 have:=jl X.nd (m:=(M3.allR h.rs).map (λl=>(0,l))++(M3.allR h.rs).map (λl=>(1,l))) λp a=>by
  let⟨b,q⟩:=X.ok p a;have m:=lj q.fits;rcases (show p.1=0\/p.1=1 by omega)with e|e
  .exact aby _ (aam.mpr ⟨p.2,m,by rw[<-e]⟩)
  .exact aaH _ (aam.mpr ⟨p.2,m,by rw[<-e]⟩)
 rw[aan,iO,iO]at this;omega
def Jm(p q:Ck):aad (skD p) (skD q)=decide (p=q):=by
 show(aad (.int _) (.int _)&&(aad (lnD p.2) (lnD q.2)&&true))=_;rw[fu,acb,cp,abl];simp[agR]
theorem st_look{h:Hall}{r1 r2:Rule}{p:Ck}:∀{C:List Ck},dg (skD p) (ki h r1 r2 C)=if p∈C then some (.list (stv h r1 r2 p))else none
 |[]=>rfl
 | q::C=>by
  show(if aad (skD q) (skD p)=true then some (ae5 (stv h r1 r2 q))else dg (skD p) (ki h r1 r2 C))=_;rw[Jm]
  by_cases e:q=p
  .rw[if_pos (decide_eq_true e),if_pos (by rw[e];exact aae),e]
  .rw[if_neg (by rw[decide_eq_false e];exact aaj),st_look]
   by_cases c:p∈C
   .rw[if_pos c,if_pos (aaf _ c)]
   .rw[if_neg c,if_neg λz=>(aah.mp z).elim (λz=>e z.symm) c]
theorem Iq{h:Hall}{r1 r2:Rule}{p:Ck}:∀{C:List Ck},p∉C->putP (skD p) (.list (stv h r1 r2 p)) (ki h r1 r2 C)=ki h r1 r2 (C++[p])
 |[],_=>rfl
 |q::C,n=>by
  let⟨n1,n2⟩:=not_or.mp λw=>n (aah.mpr w);show(if aad (skD q) (skD p)=true then _ else _::putP (skD p) _ (ki h r1 r2 C))=_;rw[Jm,if_neg (by rw[decide_eq_false λe=>n1 e.symm];exact aaj),Iq n2];rfl
theorem LJ{h:Hall}{s:Nat}{l:List Nat}:kyD (skD (s,l))=true:=by
 have n:∀l:List Nat,hkA (natD l)=true:=λl=>by
  induction l with
  |nil=>rfl
  |cons x l i=>show(hkD _&&hkA (natD l))=true;rw[i];rfl
 have q:=bf (k:=1) (ds:=[.int (s:Int),lnD l]) λd hd=>by
  rcases aah.mp hd with e|e
  .rw[e];exact(cE _).mono (by decide)
  .rw[aaa.mp e];exact bf (br _)
 have a:hkD (skD (s,l))=true:=by
  show(true&&(hkD (lnD l)&&true))=true;rw[show hkD (lnD l)=true from n l];rfl
 unfold kyD;rw[a,show(skD (s,l)).canLay0=true from q.cl,decide_eq_true (show(skD (s,l)).depth≤7 from aaw q.dp (by decide))];rfl
def KH{r1 r2:Rule}(C:List Ck):kyA (ki h r1 r2 C)=true:=by
 unfold kyA ki;rw[ad7,abD];exact λp _=>LJ (h:=h)
theorem C7{kvs:List (aD×aD)}(h:kyA kvs=true):iY (.dict (lfKV kvs))=none:=by
 cases kvs with
 |nil=>rfl
 |cons q kvs=>
  let⟨k,d⟩:=q;rw[kyA,abV,aaR]at h;let⟨ds,rfl,_⟩:=iQ h.1;rfl
def scT(h:Hall)(r1 r2:Rule)(C:List Ck)(L:List (Pk×Int))(T:List Tr)(Y:List Wy):aD:=insT "Search" [("hall",h.d),("rules",.tuple [r1.d,r2.d]),("moves",.dict [(.none,.list ((mvs h).map Mv.d))]),("steps",.dict (lfKV (ki h r1 r2 C))),("leads",.dict (lfKV (ldD L))),("triples",.list (T.map trD)),("ways",.list (Y.map wyD))]
theorem oa(T:List Tr):du (T.map trD)=some (T.map trD):=by
 induction T with
 |nil=>rfl
 |cons x l i=>show(match iY (trD x),du (l.map trD)with|some d,some ds=>some (d::ds)|_,_=>none)=_;rw[i];rfl
def Ap(y:Wy):iY (wyD y)=some (wyD y):=by rcases y with _|⟨a,m⟩<;>rfl
theorem tZ(Y:List Wy):du (Y.map wyD)=some (Y.map wyD):=by
 induction Y with
 |nil=>rfl
 |cons x l i=>show(match iY (wyD x),du (l.map wyD)with|some d,some ds=>some (d::ds)|_,_=>none)=_;rw[i,Ap];rfl
def U5(T:List Tr):(T.map trD).map lfD=T.map trD:=by
 rw[aa9];exact acO λx _=>rfl
def UB(Y:List Wy):(Y.map wyD).map lfD=Y.map wyD:=by
 rw[aa9];exact acO λy _=>by rcases y with _|⟨a,m⟩<;>rfl
structure GoodR(h:Hall)(r1 r2:Rule):Prop where
 o:h.Ok
 k1:r1.Ok h
 k2:r2.Ok h
 n1:r1≠.turns
 n2:r2≠.turns
theorem GoodR.rl{r1 r2:Rule}(G:GoodR h r1 r2)(s:Nat):(rl r1 r2 s).Ok h/\rl r1 r2 s≠.turns:=by
 unfold K.rl;split
 .exact⟨G.k1,G.n1⟩
 .exact⟨G.k2,G.n2⟩
def uf:SpM:=λc K=>∃(h:Hall) (r1 a:Rule) (C:List Ck) (L:List (Pk×Int)) (T:List Tr) (Y:List Wy) (s:Nat) (l:List Nat),c=[.tr (scT h r1 a C L T Y),.imm (.int (s:Int)),.imm (lnD l)]/\GoodR h r1 a/\(M3.allR h.rs).length≤400/\CaOk h C/\s<2/\Lines h l/\∀b,CaOk h b->K (.imm (.list (stv h r1 a (s,l)))) [[scT h r1 a b L T Y]]
def Ix:SpM:=λc K=>∃(h:Hall) (r1 a:Rule) (C:List Ck) (L:List (Pk×Int)) (T:List Tr) (Y:List Wy) (t:Tr),c=[.tr (scT h r1 a C L T Y),.imm (trD t)]/\GoodR h r1 a/\(M3.allR h.rs).length≤400/\CaOk h C/\Lines h t.1/\Lines h t.2.1/\∀b,CaOk h b->K (.new ((mvs h).map λm=>trD (bth h r1 a t m))) [[scT h r1 a b L T Y]]
def L6:SpM:=λc K=>∃(h:Hall) (r1 b:Rule) (C:List Ck) (L:List (Pk×Int)) (T:List Tr) (Y:List Wy) (t:Tr) (y:Wy) (a:Int) (d:aD),c=[.tr (scT h r1 b C L T Y),.imm (trD t),.imm (.int a),.imm d]/\wyD y = .tuple [.int a,d]/\h.Ok/\(∀p∈L,Lines h p.1.1/\Lines h p.1.2)/\Lines h t.1/\Lines h t.2.1/\L.length≤200000/\T.length≤200000/\Y.length≤200000/\(t.2.2<(lkL (t.1,t.2.1) L).getD (t.2.2+1)->K (.imm .none) [[scT h r1 b C (setL (t.1,t.2.1) t.2.2 L) (T++[t]) (Y++[y])]])/\(∀w,lkL (t.1,t.2.1) L=some w->w≤t.2.2->K (.imm .none) [[scT h r1 b C L T Y]])
structure WyOk(Y:List Wy)(P:List (List Mv)):Prop where
 ly:Y.length=P.length
 wy:∀(k:Nat) (p:List Mv),P[k]?=some p->(p=[]/\Y[k]?=some none)\/∃(a:Nat) (m:Mv) (q:List Mv),a<k/\P[a]?=some q/\p=q++[m]/\Y[k]?=some (some (a,m))
def Da:SpM:=λb K=>∃(h:Hall) (r1 a:Rule) (C:List Ck) (L:List (Pk×Int)) (T:List Tr) (Y:List Wy) (P:List (List Mv)) (i:Nat) (p:List Mv),b=[.tr (scT h r1 a C L T Y),.imm (.int (i:Int))]/\WyOk Y P/\Y.length≤200000/\P[i]?=some p/\K (.imm (.tuple (p.map Mv.d))) [[scT h r1 a C L T Y]]
def zL:SpM:=λc K=>∃(h:Hall) (r1 a:Rule) (k:Nat),c=[.tr (scT h r1 a [] [((zer h,zer h),0)] [stT h] [none])]/\GoodR h r1 a/\(M3.allR h.rs).length≤400/\nP h*(nP h+2)≤190000/\(yw h r1 a->Cov h r1 a k)/\(∀(R:List Mv) (C:List Ck) (b:List (Pk×Int)) (T:List Tr) (Y:List Wy),RunK h R->bad (wlk h r1 a R)=true->Min h r1 a R.length->K (.imm (.tuple (R.map Mv.d))) [[scT h r1 a C b T Y]])/\(∀(C:List Ck) (b:List (Pk×Int)) (T:List Tr) (Y:List Wy),yw h r1 a->DkOk h b->b.length≤k->(∀Z:List Tr,Z.Perm (ldT b)->Nvr h r1 a Z/\∀t∈Z,TrOk h t)->K (.imm .none) [[scT h r1 a C b T Y]])
def CK:SpM:=λb K=>∃(h:Hall) (r1 a:Rule) (C:List Ck) (L:List (Pk×Int)) (T:List Tr) (Y:List Wy),b=[.tr (scT h r1 a C L T Y)]/\h.Ok/\DkOk h L/\L.length<64/\∀Z:List Tr,Z.Perm (ldT L)->K (.imm (prD' Z)) [[scT h r1 a C L T Y]]
def CB:SpI:=λds K=>∃(h:Hall) (r1 a:Rule),ds=[h.d,r1.d,a.d]/\h.Ok/\K (scT h r1 a [] [((zer h,zer h),0)] [stT h] [none])
def yW:SpM:=λb K=>∃(h:Hall) (r1 a:Rule),b=[.imm h.d,.imm r1.d,.imm a.d]/\GoodR h r1 a/\(M3.allR h.rs).length≤400/\nP h*(nP h+2)≤190000/\(yw h r1 a->Cov h r1 a 63)/\(∀R:List Mv,RunK h R->bad (wlk h r1 a R)=true->Min h r1 a R.length->K (.imm (.tuple [.str "worse",.tuple (R.map Mv.d)])) [])/\(∀Z:List Tr,yw h r1 a->Nvr h r1 a Z->(∀t∈Z,TrOk h t)->Z.length≤63->K (.imm (.tuple [.str "never",prD' Z])) [])
section
variable {h:Hall}{r1 r2:Rule}{C:List Ck}{L:List (Pk×Int)}{T:List Tr}{Y:List Wy}{m:MSt}{k:Nat}{P:L2.R->Prop}
def qZ(e:m.os[k]?=some [scT h r1 r2 C L T Y])(ky:kyA (ldD L)=true)(a:P (.at k [5])):fGot m "Search" k [] "leads" P:=vv e rfl rfl rfl (C7 ky) a
def u8(e:m.os[k]?=some [scT h r1 r2 C L T Y])(a:P (.at k [4])):fGot m "Search" k [] "steps" P:=vv e rfl rfl rfl (C7 (KH (h:=h) C)) a
end
def v6{k:Nat}{p:List Nat}{j:Nat}(y:Wy):gm k p j (wyD y) = .imm (wyD y):=by unfold gm;rw[Ap]
def B7{l:List α}{f:α->aD}{j:Nat}{x:α}(e:l[j]?=some x):ixN (l.map f).length (j:Int)=some j/\(l.map f)[j]?=some (f x):=⟨KG (by rw[iO];exact(AD.mp e).1),by rw[aai,e];rfl⟩
theorem wf:∀{a a' b c:List Nat},a.length=a'.length->b.length=c.length->lexN (a++b) (a'++c)=if a=a' then lexN b c else lexN a a'
 |[],[],_,_,_,_=>by rw[if_pos rfl];rfl
 | x::a,y::a',b,c,h1,h2=>by
  have i:=wf (a:=a) (a':=a') (by simpa using h1) h2;show(if x=y then lexN (a++b) (a'++c)else decide _)=_
  by_cases e:x=y
  .subst e;rw[if_pos rfl,i]
   by_cases d:a=a'
   .rw[if_pos d,if_pos (by rw[d])]
   .rw[if_neg d,if_neg λz=>d (by injection z)];show _=if x=x then _ else _;rw[if_pos rfl]
  .rw[if_neg e,if_neg λz=>e (by injection z)];show _=if x=y then _ else _;rw[if_neg e]
theorem qm:∀{a b:List Nat},a.length=b.length->smDs (natD a) (natD b)=true
 |[],[],_=>rfl
 |x::a,y::b,e=>by
  show(true&&smDs (natD a) (natD b))=true;rw[qm (by simpa using e)];rfl
theorem Cw{β:Type}{f:α->β}{z l:List β}(p:z.Perm l):∀{m:List α},z=m.map f->∃g:List α,g.Perm m/\l=g.map f:=by
 induction p with
 |nil=>intro m e;exact⟨m,.refl _,e⟩
 | cons a p o=>
  intro m e
  cases m with
  |nil=>cases e
  |cons b m=>
   injection e with d c
   let⟨g,k,n⟩:=o c;exact⟨b::g,k.cons b,by rw[aao,d,n]⟩
 | swap a b l=>
  intro m e
  cases m with
  |nil=>cases e
  | cons x m=>
   cases m with
   |nil=>cases e
   |cons y m=>
    injection e with d c
    injection c with c e3
    exact⟨y::x::m,.swap _ _ _,by rw[aao,aao,d,c,e3]⟩
 |trans t u j i=>
  intro m e;let⟨m1,s,d⟩:=j e;let⟨m2,q,c⟩:=i d;exact⟨m2,q.trans s,c⟩
def itL(q:Pk×Int):aD:=.tuple [pkD q.1,.int q.2]
def Jd(L:List (Pk×Int)):gI (ldD L)=L.map itL:=by unfold gI ldD;rw[aa9];rfl
theorem SK(u:h.Ok)(D:DkOk h L)(n:L.length<64):SrtT (gI (ldD L)):=by
 rw[Jd];have ln:∀a∈L,a.1.1.length=h.ss.length/\a.1.2.length=h.ss.length:=λa c=>⟨(D.ln a c).1.1,(D.ln a c).2.1⟩;have s:(L.map λq:Pk×Int=>q.1.1++q.1.2).Nodup:=by
  refine List.pairwise_map.mpr ((List.pairwise_map.mp D.nd).imp_of_mem λ{a b} c f ne e=>ne ?_);let⟨g,m⟩:=List.append_inj e ((ln a c).1.trans (ln b f).1.symm);exact aem g m
 have j:∀a∈L,∀b∈L,a.1.1++a.1.2=b.1.1++b.1.2->a.1=b.1:=λa c b f e=>by
  let⟨g,m⟩:=List.append_inj e ((ln a c).1.trans (ln b f).1.symm);exact aem g m
 have lt:∀a∈L,∀b∈L,a.1≠b.1->ltD (itL a) (itL b)=lexN (a.1.1++a.1.2) (b.1.1++b.1.2):=λa c b f ne=>by
  show(if aad (pkD a.1) (pkD b.1)=true then _ else ltD (pkD a.1) (pkD b.1))=_;rw[wD,if_neg (by rw[decide_eq_false ne];exact aaj),wf ((ln a c).1.trans (ln b f).1.symm) ((ln a c).2.trans (ln b f).2.symm)];show(if aad (lnD a.1.1) (lnD b.1.1)=true then(if aad (lnD a.1.2) (lnD b.1.2)=true then ltDs [] []else ltDs (natD a.1.2) (natD b.1.2))else ltDs (natD a.1.1) (natD b.1.1))=_;rw[fu,fu,uC ((ln a c).1.trans (ln b f).1.symm),uC ((ln a c).2.trans (ln b f).2.symm)]
  by_cases g:a.1.1=b.1.1
  .rw[if_pos (decide_eq_true g),if_pos g,if_neg λz=>ne (aem g (of_decide_eq_true z))]
  .rw[if_neg λz=>g (of_decide_eq_true z),if_neg g]
 refine Ku (key:=λq=>q.1.1++q.1.2) n (λa c b f=>?_) s (λa c b f ne=>lt a c b f λz=>ne (by rw[z])) (λa c b f e l=>?_) (λa c b f=>?_) (λa c=>rfl) λa c=>?_
 .rw[aan,aan,(ln a c).1,(ln a c).2,(ln b f).1,(ln b f).2]
 .have e0:=j a c b f e;have:a=b:=by
   let⟨i,t⟩:=abq c;have x:=xY D.nd a c;have p:=xY D.nd b f;rw[e0,p]at x;exact aem e0 (aas x).symm
  subst this;have o:(if aad (pkD a.1) (pkD a.1)=true then(if aad (.int a.2) (.int a.2)=true then ltDs [] []else decide (a.2<a.2))else ltD (pkD a.1) (pkD a.1))=true:=l;rw[wD,if_pos (decide_eq_true rfl),if_pos (show aad (.int a.2) (.int a.2)=true by simp[aad])]at o;cases o
 .show((smDs (natD a.1.1) (natD b.1.1)&&(smDs (natD a.1.2) (natD b.1.2)&&true))&&(true&&true))=true;rw[qm ((ln a c).1.trans (ln b f).1.symm),qm ((ln a c).2.trans (ln b f).2.symm)];rfl
 .have s1:=(bf (br a.1.1)).dp;have s2:=(bf (br a.1.2)).dp;exact aaw (bf (k:=2) (ds:=[pkD a.1,.int a.2]) λd hd=>by
   obtain rfl|hd:=aah.mp hd
   .exact bf λd hd=>by
     obtain rfl|hd:=aah.mp hd
     .exact bf (br _)
     .rw[aaa.mp hd];exact bf (br _)
   .rw[aaa.mp hd];exact(cE _).mono (by decide)).dp (by decide)
theorem Rj{P:List Tr}{t:Tr}:((P.map trD).any λy=>aad y (trD t))=decide (t∈P):=by
 rw[abl,acT,decide_eq_true_iff];constructor
 .rintro⟨d,hd,e⟩;let⟨u,a,b⟩:=aam.mp hd;rw[<-b,IB]at e;rw[<-of_decide_eq_true e];exact a
 .intro h;exact⟨_,aam.mpr ⟨t,h,rfl⟩,by rw[IB];exact decide_eq_true rfl⟩
theorem xV(a:Pk)(v:Int):∀L:List (Pk×Int),(setL a v L).length≤L.length+1
 |[]=>aab _
 |q::L=>by
  unfold setL;split
  .simp
  .have:=xV a v L;simp only[aaB];omega
theorem IX{a b:Pk}{v:Int}:∀L:List (Pk×Int),lkL b (setL a v L)=if b=a then some v else lkL b L
 |[]=>by
  show(if a=b then some v else none)=_
  by_cases e:b=a
  .rw[if_pos e,if_pos e.symm]
  .rw[if_neg e,if_neg λz=>e z.symm];rfl
 | q::L=>by
  have i:=IX (a:=a) (b:=b) (v:=v) L;unfold setL
  by_cases c:q.1=a
  .rw[if_pos c];show(if q.1=b then some v else lkL b L)=if b=a then some v else(if q.1=b then some q.2 else lkL b L);rw[c]
   by_cases e:b=a
   .rw[if_pos e,if_pos e.symm]
   .rw[if_neg e,if_neg λz=>e z.symm,if_neg λz=>e z.symm]
  .rw[if_neg c];show(if q.1=b then some q.2 else lkL b (setL a v L))=if b=a then some v else(if q.1=b then some q.2 else lkL b L);rw[i]
   by_cases e:b=a
   .rw[if_pos e,if_pos e,if_neg λz=>c (z.trans e)]
   .rw[if_neg e,if_neg e]
def tyT(ds:List aD):(!tyR (L2.R.imm (.tuple ds)) == "tuple")=false:=by
 show(!(("tuple" : String) == "tuple"))=false;decide
def tyI(n:Int):(!tyR (L2.R.imm (.int n)) == "bool")=true:=by
 show(!(("int" : String) == "bool"))=true;decide
def Kh:SpM:=λa K=>∃n:Int,a=[.imm (.int n)]/\0≤n/\K (.imm (.bool true)) []
def Rb:SpM:=λa K=>∃(h:Hall) (l:List Nat),a=[.imm h.d,.imm (lnD l)]/\h.Ok/\Lines h l/\cW h l=l/\K (.imm (.bool true)) []
def AE:SpM:=λb K=>∃(h:Hall) (r1 a:Rule) (P:List Tr),b=[.imm h.d,.imm r1.d,.imm a.d,.imm (prD' P)]/\GoodR h r1 a/\Nvr h r1 a P/\(∀t∈P,TrOk h t)/\P.length≤100000/\K (.imm .none) []
def xh:SpM:=λb K=>∃(h:Hall) (r1 a:Rule),b=[.imm h.d,.imm r1.d,.imm a.d]/\GoodR h r1 a/\(M3.allR h.rs).length≤12/\K (.imm (.bool true)) []
def C8{w:Str}(h:w∈(["come","done","still"]:List Str)):Fine 90 1 (.str w):=by
 refine⟨rfl,rfl,?_,abh _⟩;simp only[aah,abE,or_false]at h;rcases h with rfl|rfl|rfl<;>decide +kernel
theorem mvFx(a:h.Ok){mv:Mv}(b:mv∈mvs h):Fine 210 2 mv.d:=by
 have n4:=a.n4;have ok:=qf a mv b
 cases mv with
 | come o=>
  have g:o.length≤4:=by
   rcases aaG.mp b with q|q
   .obtain q|q:=aaG.mp q
    .obtain⟨o',ho',e⟩:=aam.mp q;cases e;have:=(qu _ a.n4 a.n1 o ho').1;have:=(qu _ a.n4 a.n1 o ho').2.1;omega
    .obtain⟨k,_,e⟩:=aam.mp q;cases e
   .cases aaa.mp q
  refine(b9 (n:=90) (k:=1) (c:=2) (ds:=[.str "come",lnD o]) (λd hd=>?_) (by exact aab 2)).mono (by decide) (by decide);obtain rfl|hd:=aah.mp hd
  .exact C8 (by decide +kernel)
  .rw[aaa.mp hd];exact(tq (c:=4) g λx f=>by have:=ok.lt x f;omega).mono (by decide) (by decide)
 |done k=>
  refine(b9 (n:=90) (k:=1) (c:=2) (ds:=[.str "done",.int (k:Int)]) (λd hd=>?_) (by exact aab 2)).mono (by decide) (by decide);obtain rfl|hd:=aah.mp hd
  .exact C8 (by decide +kernel)
  .rw[aaa.mp hd];have:k<h.ss.length:=ok;exact(jv (by omega)).mono (by decide) (by decide)
 |still=>
  refine(b9 (n:=90) (k:=1) (c:=1) (ds:=[.str "still"]) (λd hd=>?_) (by decide)).mono (by decide) (by decide);rw[aaa.mp hd];exact C8 (by decide +kernel)
def zK(a:h.Ok){mv:Mv}(b:mv∈mvs h):(adR mv.d.shown).canLay0=true:=by
 have key:∀n,1≤n->n≤4->∀mv∈(ordK n n).map Mv.come++(aax n).map Mv.done++[.still],(adR mv.d.shown).canLay0=true:=by
  intro n c d;rcases (show n=1\/n=2\/n=3\/n=4 by omega)with rfl|rfl|rfl|rfl<;>decide +kernel
 exact key _ a.n1 a.n4 mv b
section
variable {P:aaK}{w:World}{K:aag}{mg:Str->Option Ad}{base:aaT}
def zu(T:Bl K mg)(D:DefM K mg "is_less" rG ["one","other"]):FnM P w K mg base "is_less" 1 2 Jf:=by
 refine bh D y7 rfl (nN:=2) rfl (by decide) ?ar λg A outer s H E f n=>⟨_,(aa (af (c9 gJ (ah bT (ae (mv' 0) mh') (ae (mv' 1) mh')) (ah bT (ae (mv' 1) mh') (ae (mv' 0) mh')) (aC _)))),?_⟩
 case ar=>intro j i ⟨a,b,c,d,rfl,_⟩;rfl
 intro j i p ⟨a,b,c,d,rfl,o,m,q,hd,k⟩;refine au (MSt.mk [some (.imm (.tuple [.int a,.int b])),some (.imm (.tuple [.int c,.int d]))] [] 0) rfl ?_;ext s;have e:decide ((a:Int)*(d:Int)<(c:Int)*(b:Int))=decide (a*d<c*b):=by
  rw[<-adM,<-adM];exact decide_eq_decide.mpr Int.ofNat_lt
 rw[e];exact k
theorem yx(T:Bl K mg)(D:DefM K mg "is_alike" lU ["hall"]):FnM P w K mg base "is_alike" 1 1 Jk:=by
 refine bh D jY rfl (nN:=3) rfl (by decide) ?ar λv A outer s H E f x=>⟨_,(mz' (aA 1 jY.nd (ae (mv' 0) mh'))
   (mz' (ca (bp (mv' 1)) (am 2 jY.nd) (aa (aH (ak (iL x.units) (mv' 2) (ae (mv' 1) mh') (aC _)) (aa (af gW)) ap)) aaE)
   (aa (af gW)))),?_⟩
 case ar=>intro F z ⟨h,rfl,_⟩;rfl
 intro F z I ⟨h,rfl,G,k⟩;have n1:=G.n1;refine au (MSt.mk [some (.imm (.tuple [.tuple [.int h.a,.int h.b],.tuple (h.ss.map Srv.d),.bool h.mv])),none,none] [] 0) rfl ?_;ext s;have sh:∀d∈h.ss.map Srv.d,Shp 2 d:=λd hd=>by
  let⟨s,_,rfl⟩:=aam.mp hd;exact bf (k:=1) λd hd=>by
   simp at hd;rcases hd with rfl|rfl
   .exact bf (k:=0) λd hd=>by
     simp at hd;rcases hd with rfl|rfl<;>exact cE _
   .exact(cE _).mono (by decide)
 have p:(h.ss.map Srv.d).length=h.ss.length:=iO ..;unfold alk at k;generalize h.ss.map Srv.d=ss at *;let⟨a,u,y⟩:=Ja (xs:=ss) (i:=0) (by decide) (by omega);have B:ss.getD 0 .none=a:=by rw[aat];have:ss[0]?=some a:=u;rw[this];rfl
 rw[B]at k;refine d8 (λi m=>∃c,m=MSt.mk [some (.imm (.tuple [.tuple [.int h.a,.int h.b],.tuple ss,.bool h.mv])),some (.imm (.tuple ss)),c] [] 0/\∀(j:Nat) s,j<i->ss[j]?=some s->aad s a=true) ⟨none,rfl,λj s b=>by omega⟩ ?_ ?_
 .rintro i s m e n ⟨c,rfl,hp⟩;ext s;refine' aU (d:=a) ?ea ?_
  case ea=>exact y
  refine x_ne rfl rfl ((sh s (GT e)).ok (by decide)) ((sh a (GT u)).ok (by decide)) ?_;ext s
  cases q:aad s a with
  |false=>
   refine jy ?_;ext s;have:(ss.all λs=>aad s a)=false:=List.all_eq_false.mpr ⟨s,GT e,by rw[q];exact aaj⟩;rw[this]at k;exact k
  |true=>
   refine jw ?_;ext s;refine⟨_,rfl,λj t b g=>?_⟩
   by_cases o:j=i
   .subst o;rw[e]at g;cases g;exact q
   .exact hp j t (by omega) g
 .rintro m n ⟨c,rfl,hp⟩;ext s;have:(ss.all λs=>aad s a)=true:=abD.mpr λs C=>by
   let⟨j,b,ej⟩:=abT.mp C;exact hp j s b (by rw[lD b,ej])
  rw[this]at k;exact k
theorem kO(T:Bl K mg)(D:DefM K mg "place_of_lines" dN ["hall","lines"]):FnM P w K mg base "place_of_lines" 1 2 Cr:=by
 refine bh D ci rfl (nN:=5) rfl (by decide) ?ar λp A outer s H E f z=>⟨_,(mz' (aA 2 ci.nd mh')
   (mz' (ca (u5 T.zip (mc' (mv' 1) (mc' (ae (mv' 0) mh') mn'))) (bo (n:=2) (ac (am 3 ci.nd) (ac (am 4 ci.nd) aP))) (aa (aA 2 ci.nd (ah aK (ah bT (mv' 2) (ah aK (ae (mv' 4) mh') mh')) (mv' 3)))) aaE)
   (aa (af (mv' 2))))),?_⟩
 case ar=>intro t q ⟨h,l,rfl,_⟩;rfl
 intro t q C ⟨h,l,rfl,u,o,k⟩;refine au (MSt.mk [some (.imm (.tuple [.tuple [.int h.a,.int h.b],.tuple (h.ss.map Srv.d),.bool h.mv])),some (.imm (.tuple (natD l))),none,none,none] [] 0) rfl ?_;ext s;refine⟨true,_,true,_,rfl,rfl,?_⟩;refine d8 (λi m=>∃a b,m=MSt.mk [some (.imm (.tuple [.tuple [.int h.a,.int h.b],.tuple (h.ss.map Srv.d),.bool h.mv])),some (.imm (.tuple (natD l))),some (.imm (.int (M7.placeF 0 (h.rs.take i) (l.take i):Nat))),a,b] [] 0) ⟨none,none,rfl⟩ ?_ ?_
 .rintro i d m e n ⟨a,b,rfl⟩;let⟨a1,b1,c,g,rfl⟩:=uU e;let⟨x,ex,rfl,y⟩:=gmap c;let⟨s,j,rfl,B⟩:=gmap g;have r6:=(u.ok s (GT j)).r6;rw[M7.placeF_take (Hall.rs_get j) ex];ext h
  .rfl
  ext s;generalize M7.placeF 0 (h.rs.take i) (l.take i)=P;have v:(P:Int)*((s.r:Int)+1)+(x:Int)=((P*(s.r+1)+x:Nat):Int):=by
   rw[aez,adM,aez];rfl
  rw[v];exact⟨_,_,rfl⟩
 .rintro m n ⟨a,b,rfl⟩;have c:min (natD l).length (h.ss.map Srv.d).length=l.length:=by rw[bj,iO];have:=o.1;omega
  rw[d9,c];have g:h.rs.take l.length=h.rs:=by rw[o.1,<-h.rsl];exact aau
  rw[g,aau];ext s;exact k
theorem k8(T:Bl K mg)(D:DefM K mg "first_shortest" ef ["lines","order"]):FnM P w K mg base "first_shortest" 1 2 pC:=by
 refine bh D cG rfl (nN:=4) rfl (by decide) ?ar λq A outer s H E f z=>⟨_,(mz' (aA 2 cG.nd (ae (mv' 1) mh'))
   (mz' (ca (bp (mv' 1)) (am 3 cG.nd) (aa (aH (ak gJ (ae (mv' 0) (mv' 3)) (ae (mv' 0) (mv' 2)) (aC _)) (aa (aA 2 cG.nd (mv' 3))) ap)) aaE)
   (aa (af (mv' 2))))),?_⟩
 case ar=>intro x v ⟨l,o,rfl,_⟩;rfl
 intro x v B ⟨l,o,rfl,g,k⟩;let⟨c,os,rfl,C⟩:=g.cons;refine au (MSt.mk [some (.imm (.tuple (natD l))),some (.imm (.tuple (natD (c::os)))),none,none] [] 0) rfl ?_;ext s;refine aU (bg (j:=0) (bq rfl)) ?_;ext s;refine d8 (λi m=>∃a,m=MSt.mk [some (.imm (.tuple (natD l))),some (.imm (.tuple (natD (c::os)))),some (.imm (.int (M7.pick (cP l) c ((c::os).take i):Nat))),a] [] 0) ⟨none,rfl⟩ ?_ ?_
 .rintro i d m e n ⟨a,rfl⟩;let⟨j,ej,rfl,y⟩:=gmap e;have u:=g.lt j (GT ej);have p:M7.pick (cP l) c ((c::os).take i)<l.length:=mF g i;have t:(c::os).take (i+1)=(c::os).take i++[j]:=by rw[aaJ,ej];rfl
  rw[t,M7.pick_app];generalize M7.pick (cP l) c ((c::os).take i)=b at p;ext s;refine aU (bg (bq (getN rfl u))) ?_;ext s;refine aU (bg (bq (getN rfl p))) ?_;ext s;refine bm (λh=>?_) (λh=>?_)
  .ext s;rw[if_pos (show cP l j b=true from decide_eq_true (by omega))];exact⟨_,rfl⟩
  .ext s;rw[if_neg (show ¬cP l j b=true by unfold cP;rw[decide_eq_true_eq];omega)];exact⟨_,rfl⟩
 .rintro m n ⟨a,rfl⟩;rw[bj,aau];ext s;exact k
theorem zx(T:Bl K mg)(D:DefM K mg "wait_at" qH ["hall","lines","line"]):FnM P w K mg base "wait_at" 1 3 IA:=by
 refine bh D nq rfl (nN:=5) rfl (by decide) ?ar λc A outer s H E f v=>⟨_,(mz' (cB (ae (ae (ae (mv' 0) mh') (mv' 2)) mh') (bo (n:=2) (ac (am 3 nq.nd) (ac (am 4 nq.nd) aP))))
   (aa (af (ag (mc' (ah bT (ah aK (ae (mv' 1) (mv' 2)) mh') (mv' 4)) (mc' (mv' 3) mn')))))),?_⟩
 case ar=>intro p g ⟨h,l,j,rfl,_⟩;rfl
 intro p g x ⟨h,l,j,rfl,q,u,a,k⟩;let⟨s,m,t,eb,i⟩:=h.srv a;have o:=q.ok s i;have b2:=o.b2;rw[t,eb]at k;have b:=getN u.1 a;refine au (MSt.mk [some (.imm (.tuple [.tuple [.int h.a,.int h.b],.tuple (h.ss.map Srv.d),.bool h.mv])),some (.imm (.tuple (natD l))),some (.imm (.int (j:Int))),none,none] [] 0) rfl ?_;ext s;refine aU (d:=s.d) (bg (by rw[aai,m];rfl)) ?_;ext h
 .rfl
 ext s;refine aU (bg (bq b)) ?_;ext s;have e:(((l.getD j 0:Nat):Int)+1)*(s.b:Int)=(((l.getD j 0+1)*s.b:Nat):Int):=by
  rw[adM,aez];rfl
 rw[e];exact k
theorem kZ(T:Bl K mg)(D:DefM K mg "first_quickest" d4 ["hall","lines","order"])(G:FnM P w K mg base "wait_at" 1 3 IA)(g:FnM P w K mg base "is_less" 1 2 Jf):FnM P w K mg base "first_quickest" 2 3 qe:=by
 refine bh D bZ rfl (nN:=7) rfl (by decide) ?ar λC A outer s H E f x=>⟨_,(mz' (aA 3 bZ.nd (ae (mv' 2) mh'))
   (mz' (aA 4 bZ.nd (mf' G (x.mono (by decide)) (mc' (mv' 0) (mc' (mv' 1) (mc' (mv' 3) mn')))))
   (mz' (ca (bp (mv' 2)) (am 5 bZ.nd) (mz' (aA 6 bZ.nd (mf' G (x.mono (by decide)) (mc' (mv' 0) (mc' (mv' 1) (mc' (mv' 5) mn')))))
   (aa (aH (bG (mf' g (x.mono (by decide)) (mc' (mv' 6) (mc' (mv' 4) mn')))) (aa (jg (i:=3) (j:=4) bZ.nd rfl rfl (by decide) rfl rfl (mc' (mv' 5) (mc' (mv' 6) mn')) rfl)) ap))) aaE)
   (aa (af (mv' 3)))))),?_⟩
 case ar=>intro J I ⟨h,l,o,rfl,_⟩;rfl
 intro J I W ⟨h,l,o,rfl,t,u,v,k⟩;let⟨c,os,rfl,N⟩:=v.cons;have z:∀j,j<h.ss.length->(l.getD j 0+1)*h.bn j<1000000000000/\h.an j<1000000000000:=λj p=>by
  let⟨s,X,O,eb,S⟩:=h.srv p;have y:=t.ok s S;have V:=u.le t _ (GT (getN u.1 p));rw[O,eb];have:=y.a2;have:(l.getD j 0+1)*s.b≤7*1000000:=abC (by omega) (by have:=y.b2;omega);omega
 refine au (MSt.mk [some (.imm h.d),some (.imm (.tuple (natD l))),some (.imm (.tuple (natD (c::os)))),none,none,none,none] [] 0) rfl ?_;ext s;refine aU (bg (j:=0) (bq rfl)) ?_;ext s;refine⟨h,l,c,rfl,t,u,N,?_⟩;ext x;refine d8 (λi m=>∃a b,m=MSt.mk [some (.imm h.d),some (.imm (.tuple (natD l))),some (.imm (.tuple (natD (c::os)))),some (.imm (.int (M7.pick (cK h l) c ((c::os).take i):Nat))),some (.imm (frD ((l.getD (M7.pick (cK h l) c ((c::os).take i)) 0+1)*h.bn (M7.pick (cK h l) c ((c::os).take i)):Nat) (h.an (M7.pick (cK h l) c ((c::os).take i)):Nat))),a,b] [] 0) ⟨none,none,rfl⟩ ?_ ?_
 .rintro i d m e n ⟨a,b,rfl⟩;let⟨j,ej,rfl,U⟩:=gmap e;have p:=v.lt j (GT ej);have B:M7.pick (cK h l) c ((c::os).take i)<h.ss.length:=mF v i;have Q:(c::os).take (i+1)=(c::os).take i++[j]:=by rw[aaJ,ej];rfl
  rw[Q,M7.pick_app];generalize M7.pick (cK h l) c ((c::os).take i)=b at B;ext s;refine⟨h,l,j,rfl,t,u,p,?_⟩;ext x;let⟨b1,b2⟩:=z j p;let⟨F,R⟩:=z b B;refine⟨_,_,_,_,rfl,b1,b2,F,R,?_⟩;ext x;refine bm (λq=>?_) (λq=>?_)
  .ext s;rw[if_pos (show cK h l j b=true from decide_eq_true q)];exact⟨_,_,rfl⟩
  .ext s;rw[if_neg (show ¬cK h l j b=true by unfold cK;rw[decide_eq_true_eq];exact q)];exact⟨_,_,rfl⟩
 .rintro m n ⟨a,b,rfl⟩;rw[bj,aau];ext s;exact k
theorem BW(T:Bl K mg)(D:DefM K mg "sent_to" qJ ["hall","rule","stand","order"])(G:FnM P w K mg base "first_shortest" 1 2 pC)(a:FnM P w K mg base "first_quickest" 2 3 qe)(b:FnM P w K mg base "place_of_lines" 1 2 Cr):FnM P w K mg base "sent_to" 3 4 wm:=by
 refine bh D jo rfl (nN:=7) rfl (by decide) ?ar λy A outer s H E f c=>⟨_,(mz' (cB (mv' 2) (bo (n:=2) (ac (am 4 jo.nd) (ac (am 5 jo.nd) aP))))
   (mz' (aA 6 jo.nd (ae (mv' 1) mh'))
   (mz' (aH (ak (bF c.units) (mv' 6) ai (aC _)) (aa (af (ae (mv' 3) mh'))) ap)
   (mz' (aH (ak (bF c.units) (mv' 6) ai (aC _)) (aa (af (mv' 5))) ap)
   (mz' (aH (ak (bF c.units) (mv' 6) ai (aC _)) (aa (af (mf' G (c.mono (by decide)) (mc' (mv' 4) (mc' (dq (c5 f7 (mv' 3) fg (dh mh'))) mn'))))) ap)
   (mz' (aH (ak (bF c.units) (mv' 6) ai (aC _)) (aa (af (mf' G (c.mono (by decide)) (mc' (mv' 4) (mc' (mv' 3) mn'))))) ap)
   (mz' (aH (ak (bF c.units) (mv' 6) ai (aC _)) (aa (af (mf' a (c.mono (by decide)) (mc' (mv' 0) (mc' (mv' 4) (mc' (mv' 3) mn')))))) ap)
   (aa (af (ae (ae (mv' 1) mh') (mf' b (c.mono (by decide)) (mc' (mv' 0) (mc' (mv' 4) mn'))))))))))))),?_⟩
 case ar=>intro C B ⟨h,r,l,t,o,rfl,_⟩;rfl
 intro C B J ⟨h,r,l,t,o,rfl,v,m,i,g,k⟩;have p:=i.1;have d:Ord l.length o:=by rw[p];exact g
 cases r with
 |random=>
  refine au (MSt.mk [some (.imm h.d),some (.imm (.tuple [.str "random"])),some (.imm (.tuple [lnD l,.int (t:Int)])),some (.imm (.tuple (natD o))),none,none,none] [] 0) rfl ?_;ext s
  .rfl
  ext s;refine bm (λ_=>?_) (λz=>(z rfl).elim);let⟨x,os,rfl,F⟩:=g.cons;ext s;refine aU (bg (j:=0) (bq rfl)) ?_;ext s;exact k
 |turns=>
  refine au (MSt.mk [some (.imm h.d),some (.imm (.tuple [.str "turns"])),some (.imm (.tuple [lnD l,.int (t:Int)])),some (.imm (.tuple (natD o))),none,none,none] [] 0) rfl ?_;ext s
  .rfl
  ext s;ext b;exact k
 | two=>
  refine au (MSt.mk [some (.imm h.d),some (.imm (.tuple [.str "two"])),some (.imm (.tuple [lnD l,.int (t:Int)])),some (.imm (.tuple (natD o))),none,none,none] [] 0) rfl ?_;ext s
  .rfl
  ext s;ext a;refine bm (λ_=>?_) (λz=>(z rfl).elim);ext s;have e:cutD (natD o) none (some 2)=natD (o.take 2):=by
   rw[show(2:Int)=((2:Nat):Int)from rfl,uE];simp[natD]
  rw[e];let⟨x,os,rfl,F⟩:=g.cons;refine⟨l,(x::os).take 2,rfl,⟨by simp,λk I=>d.lt k (ace I),by rw[aaC];omega⟩,?_⟩;ext n;exact k
 |least=>
  refine au (MSt.mk [some (.imm h.d),some (.imm (.tuple [.str "least"])),some (.imm (.tuple [lnD l,.int (t:Int)])),some (.imm (.tuple (natD o))),none,none,none] [] 0) rfl ?_;ext s
  .rfl
  ext s;ext a;ext b;refine⟨l,o,rfl,d,?_⟩;ext n;exact k
 |quick=>
  refine au (MSt.mk [some (.imm h.d),some (.imm (.tuple [.str "quick"])),some (.imm (.tuple [lnD l,.int (t:Int)])),some (.imm (.tuple (natD o))),none,none,none] [] 0) rfl ?_;ext s
  .rfl
  ext s;ext a;ext a;refine bm (λ_=>?_) (λz=>(z rfl).elim);ext s;refine⟨h,l,o,rfl,v,i,g,?_⟩;ext n;exact k
 |told u=>
  refine au (MSt.mk [some (.imm h.d),some (.imm (.tuple [.str "told",.tuple (natD u)])),some (.imm (.tuple [lnD l,.int (t:Int)])),some (.imm (.tuple (natD o))),none,none,none] [] 0) rfl ?_;ext s
  .rfl
  ext s;ext a;ext a;refine bm (λz=>absurd z (by decide +kernel)) (λ_=>?_);ext s;refine⟨h,l,rfl,v,i,?_⟩;ext n;have q:M7.placeF 0 h.rs l<u.length:=by rw[m.1,M7.allR_cnt];exact M7.place_lt i.fits
  refine aU (bg (bq (getN rfl q))) ?_;exact k
theorem qr(T:Bl K mg)(D:DefM K mg "first_stand" gw ["hall"]):FnM P w K mg base "first_stand" 1 1 AK:=by
 refine bh D rj rfl (nN:=1) rfl (by decide) ?ar λc A outer s H E f g=>⟨_,(aa (af (ag (mc' (ah bT (ag (mc' mh' mn')) (av bc (by rfl) T.len cq (mc' (ae (mv' 0) mh') mn'))) (mc' mh' mn'))))),?_⟩
 case ar=>intro d b ⟨h,rfl,_⟩;rfl
 intro d b i ⟨h,rfl,a,k⟩;have n1:=a.n1;have n4:=a.n4;refine au (MSt.mk [some (.imm (.tuple [.tuple [.int h.a,.int h.b],.tuple (h.ss.map Srv.d),.bool h.mv]))] [] 0) rfl ?_;ext e;ext s;have e:(aar ((h.ss.length:Nat):Int).toNat [abu 0]).flatten=natD (zer h):=by
  rw[aaN];simp[zer,natD]
 rw[e];exact k
theorem t9(T:Bl K mg)(D:DefM K mg "all_orders" gh ["hall"]):FnM P w K mg base "all_orders" 1 1 Je:=by
 refine bh D dj rfl (nN:=4) rfl (by decide) ?ar λR A outer s H E f U=>⟨_,(mz' (re (i:=1) dj.nd rfl (adv rfl) (av bc (by rfl) T.len cq (mc' (ae (mv' 0) mh') mn')))
   (mz' (aA 2 dj.nd (cg (mc' (ag mn') mn')))
   (mz' (ca (cb (by rfl) T.range (mc' (mv' 1) mn')) (am 3 dj.nd) (aa (Cf (i:=2) (own:=["ahead","line"]) (fr:=["many"]) (ps:=[1]) (sc:=(ab gh)) (by exact⟨rfl,by decide +kernel,by decide +kernel,by decide +kernel,by decide +kernel⟩) dj.nd rfl rfl (bp (mv' 2)) (λ_ _ _ _ _=>(am 0 (show aaS ((["ahead","line"]:List Str)++(["many"]:List Str))from by decide +kernel))) (λ_ _ _ _ _=>bH) (λ_ _ _ _ _=>(cb (by rfl) T.range (mc' (mv' 2) mn'))) (λ_ _ _ _ _=>(am 1 (show aaS ((["ahead","line"]:List Str)++(["many"]:List Str))from by decide +kernel))) (λ_ _ _ _ _=>(ql (ak (gF U.units) (mv' 1) (mv' 0) (by with_unfolding_all rfl)))) (λ_ _ _ _ _=>(ah aK (mv' 0) (ag (mc' (mv' 1) mn')))))) aaE)
   (aa (af (mv' 2)))))),?_⟩
 case ar=>intro X W ⟨h,rfl,_⟩;rfl
 intro X W hl ⟨h,rfl,O,k⟩;have n1:=O.n1;have n4:=O.n4;refine au (MSt.mk [some (.imm (.tuple [.tuple [.int h.a,.int h.b],.tuple (h.ss.map Srv.d),.bool h.mv])),none,none,none] [] 0) rfl ?_;ext c;rw[iO];ext d;refine d8 (λi m=>∃a,m=MSt.mk [some (.imm (.tuple [.tuple [.int h.a,.int h.b],.tuple (h.ss.map Srv.d),.bool h.mv])),some (.imm (.int (h.ss.length:Nat))),some (.obj 0),a] [(ordK h.ss.length i).map lnD] 0) ⟨none,rfl⟩ ?_ ?_
 .rintro i d m e n ⟨a,rfl⟩;let⟨hi,rfl⟩:=cw e;let⟨I,o⟩:=iu h.ss.length n4 i (by omega);have t:=iI h.ss.length n4 i (by omega);rw[show ordK h.ss.length (i+1)=gu h.ss.length (ordK h.ss.length i)from rfl];generalize ordK h.ss.length i=os at I o t;ext s;ext n;refine fy (λz m=>∃b c,m=MSt.mk [b,c,some (.imm (.int (h.ss.length:Nat)))] [os.map lnD,(gu h.ss.length (os.take z)).map lnD] 2) ⟨none,none,rfl⟩ ?_ ?_ ?_
  .rintro z m ⟨b,c,rfl⟩;rfl
  .rintro z d m ez nz ⟨b,c,rfl⟩;let⟨l,u,rfl,hz⟩:=gmap ez;let⟨hl4,S⟩:=o l (GT u);have Z:=(AD.mp u).1;have N:=t z (by omega);ext s;ext d;let⟨G,g⟩:∃G:Nat->List (List Nat),G=λy=>gu h.ss.length (os.take z)++((aax y).filter λq=>!l.contains q).map λq=>l++[q]:=⟨_,rfl⟩;have C:G 0=gu h.ss.length (os.take z):=by rw[g];simp
   have B:G h.ss.length=gu h.ss.length (os.take (z+1)):=by rw[g,qi u]
   have p:∀y,G (y+1)=G y++([y].filter λq=>!l.contains q).map λq=>l++[q]:=λy=>by
    rw[g];show _++((aax (y+1)).filter _).map _=_;rw[ab2,aeV,aaD,aa6]
   have v:∀y,y≤4->(G y).length≤28:=λy Q=>by
    rw[g];dsimp only;rw[aan,iO];have:=aec (λq=>!l.contains q) (aax y);rw[aaW]at this;omega
   clear g;rw[<-C];refine bU (λy m=>∃c,m=MSt.mk [some (.imm (lnD l)),c,some (.imm (.int (h.ss.length:Nat)))] [os.map lnD,(G y).map lnD] 2) ⟨c,rfl⟩ ?_ ?_
   .rintro y d m ey ny ⟨c,rfl⟩ D1 hD1 hR1;let⟨Q,rfl⟩:=cw ey;rw[show(0:Int)+(y:Int)=((y:Nat):Int) by omega];have J:=v y (by omega);have F:(natD l).any (λx=>aad x (.int (y:Int)))=l.contains y:=by
     rw[abl,acT,af2];constructor
     .rintro⟨x,hx,ex⟩;let⟨w,Y,rfl⟩:=aam.mp hx;rw[cp]at ex;rw[<-of_decide_eq_true ex];exact Y
     .intro hm;exact⟨_,aam.mpr ⟨y,hm,rfl⟩,by rw[cp];exact decide_eq_true rfl⟩
    ext s;refine x_in (d:=.int (y:Int)) (ds:=natD l) rfl (.inr rfl) (cE _) (br l) (by decide) ?_;ext s;rw[F]
    cases hc:l.contains y with
    |true=>
     refine jw ?_;ext s;refine hD1 _ ⟨some (.imm (.int (y:Int))),?_⟩;rw[p,show([y].filter λq=>!l.contains q)=[] by rw[acp,hc];rfl,adp,aaY];rfl
    |false=>
     refine jy ?_;ext s;refine ku (by rw[aak,bj];simp;omega) ?_;ext s;refine⟨_,rfl,by rw[aak,iO];omega,hD1 _ ⟨some (.imm (.int (y:Int))),?_⟩⟩;rw[p,show([y].filter λq=>!l.contains q)=[y] by rw[acp,hc];rfl,aaD];simp[lnD,natD,MSt.setV]
   .rintro m ny ⟨c,rfl⟩;rw[aV,B];ext s;exact⟨_,_,rfl⟩
  .rintro m nz ⟨b,c,rfl⟩;rw[iO,aau];ext n;refine ik (k:=0) rfl (aab _) (λj V=>?_) ⟨_,rfl⟩
   match j with
   |0|1|3=>exact λz=>by cases z
   |2=>exact(V rfl).elim
   |n+4=>exact λz=>by cases z
 .rintro m n ⟨a,rfl⟩;rw[aV];ext s;exact k
theorem uY(T:Bl K mg)(D:DefM K mg "all_moves" fB ["hall"])(G:FnM P w K mg base "all_orders" 1 1 Je):FnM P w K mg base "all_moves" 2 1 jG:=by
 refine bh D mf rfl (nN:=2) rfl (by decide) ?ar λn A outer s H E f p=>⟨_,(mz' (gL (i:=1) (own:=["line"]) (fr:=[]) (ps:=[]) (sc:=(ab fB)) (by exact⟨rfl,by decide +kernel,by decide +kernel,by decide +kernel,by decide +kernel⟩) mf.nd rfl rfl (cb (by rfl) T.range (mc' (av bc (by rfl) T.len cq (mc' (ae (mv' 0) mh') mn')) mn')) (λ_ _ _ _ _=>(am 0 (show aaS ((["line"]:List Str)++([]:List Str))from by decide +kernel))) (λ_ _ _ _ _=>bH) (λ_ _ _ _ _=>(ag (mc' ai (mc' (mv' 0) mn')))))
   (aa (af (ah aK (ah aK (bP (own:=["order"]) (fr:=[]) (ps:=[]) (sc:=(ab fB)) (by exact⟨rfl,by decide +kernel,by decide +kernel,by decide +kernel,by decide +kernel⟩) (bp (dq (mf' G (p.mono (by decide)) (mc' (mv' 0) mn')))) (λ_ _ _ _ _=>(am 0 (show aaS ((["order"]:List Str)++([]:List Str))from by decide +kernel))) (λ_ _ _ _ _=>bH) (λ_ _ _ _ _=>(ag (mc' ai (mc' (mv' 0) mn'))))) (mv' 1)) (cg (mc' (ag (mc' ai mn')) mn')))))),?_⟩
 case ar=>intro u q ⟨h,rfl,_⟩;rfl
 intro u q v ⟨h,rfl,g,k⟩;have n4:=g.n4;have no:(ordK h.ss.length h.ss.length).length≤24:=(iu _ n4 _ n4).1;refine au (MSt.mk [some (.imm (.tuple [.tuple [.int h.a,.int h.b],.tuple (h.ss.map Srv.d),.bool h.mv])),none] [] 0) rfl ?_;ext s;refine⟨by rw[iO];omega,by rw[iO];omega,?_⟩;rw[iO,aaN];refine bU (λi m=>∃a:Option L2.R,m=MSt.mk [a] [(aax i).map λk=>(Mv.done k).d] 1) ⟨none,rfl⟩ ?_ ?_
 .rintro i d m e c ⟨a,rfl⟩ D1 hD1 hR1;let⟨j,rfl⟩:=cw e;ext s;refine⟨_,rfl,by rw[aak,iO,aaW];omega,hD1 _ ⟨some (.imm (.int (0+(i:Int)))),?_⟩⟩;rw[ab2,aaD,show(0:Int)+(i:Int)=((i:Nat):Int) by omega];rfl
 intro m c ⟨a,rfl⟩;rw[aV];ext n;refine da ?_;ext x;refine⟨h,rfl,g,?_⟩;ext x;refine bU (λi m=>∃a:Option L2.R,m=MSt.mk [a] [(aax h.ss.length).map λk=>(Mv.done k).d,((ordK h.ss.length h.ss.length).take i).map λo=>(Mv.come o).d] 2) ⟨none,rfl⟩ ?_ ?_
 .rintro i d m e c ⟨a,rfl⟩ D1 hD1 hR1;let⟨o,t,rfl,j⟩:=gmap e;ext s;refine⟨_,rfl,by rw[aak,iO,aaC];omega,hD1 _ ⟨some (.imm (lnD o)),?_⟩⟩;rw[aaJ,t,aaD];rfl
 intro m c ⟨a,rfl⟩;rw[iO,aau];ext x;refine JF (a:=(ordK h.ss.length h.ss.length).map λo=>(Mv.come o).d) (b:=(aax h.ss.length).map λk=>(Mv.done k).d) rfl (by rw[iO,iO,aaW,aak];omega) ?_;ext s;refine zt (by rw[aan,iO,iO,aaW,aak];simp;omega) ?_;rw[OU]at k;ext s;exact k
theorem uB(T:Bl K mg)(D:DefM K mg "with_more" jR ["lines","line","more"]):FnM P w K mg base "with_more" 1 3 o9:=by
 refine bh D vC rfl (nN:=3) rfl (by decide) ?ar λc A outer s H E f n=>⟨_,(aa (af (ah aK (ah aK (c5 f7 (mv' 0) fg (dh (mv' 1))) (ag (mc' (ah aK (ae (mv' 0) (mv' 1)) (mv' 2)) mn'))) (c5 f7 (mv' 0) (dh (ah aK (mv' 1) mh')) fg)))),?_⟩
 case ar=>intro i g ⟨l,j,d,x,rfl,_⟩;rfl
 intro i g o ⟨l,j,d,x,rfl,a,m,b,k⟩;refine au (MSt.mk [some (.imm (.tuple (natD l))),some (.imm (.int (j:Int))),some (.imm (.int d))] [] 0) rfl ?_;ext s;refine aU (bg (bq (getN rfl a))) ?_;ext s;rw[b,uE];refine ku (by rw[aak,aaC,bj];simp;omega) ?_;ext s;rw[show(j:Int)+1=((j+1:Nat):Int)from rfl,ju];refine ku (by rw[aak,aan,aaC,aef,bj];simp;omega) ?_;ext s;have e:(natD l).take j++[.int (x:Int)]++(natD l).drop (j+1)=natD (l.set j x):=by
  rw[<-xU,adX,if_pos (by rw[bj];exact a)];simp
 rw[e];exact k
theorem Bz(T:Bl K mg)(D:DefM K mg "come_to" rJ ["hall","lines","line"])(G:FnM P w K mg base "with_more" 1 3 o9):FnM P w K mg base "come_to" 2 3 IW:=by
 refine bh D y3 rfl (nN:=3) rfl (by decide) ?ar λm A outer s H E f b=>⟨_,(mz' (aH (ak (bF b.units) (ae (mv' 1) (mv' 2)) (ae (ae (ae (mv' 0) mh') (mv' 2)) mh') (aC _)) (aa (af (ag (mc' (mv' 1) (mc' ai mn'))))) ap)
   (aa (af (ag (mc' (mf' G (b.mono (by decide)) (mc' (mv' 1) (mc' (mv' 2) (mc' mh' mn')))) (mc' ai mn')))))),?_⟩
 case ar=>intro o n ⟨h,l,j,rfl,_⟩;rfl
 intro o n u ⟨h,l,j,rfl,p,q,g,k⟩;have a:=q.1;have n4:=p.n4;let⟨s,i,v,eb,t⟩:=h.srv g;have c:h.rn j=s.r:=bu (Hall.rs_get i);refine au (MSt.mk [some (.imm (.tuple [.tuple [.int h.a,.int h.b],.tuple (h.ss.map Srv.d),.bool h.mv])),some (.imm (.tuple (natD l))),some (.imm (.int (j:Int)))] [] 0) rfl ?_;ext s;refine aU (bg (bq (getN a g))) ?_;ext s;refine aU (d:=s.d) (bg (by rw[aai,i];rfl)) ?_;ext h;refine bm (λz=>?_) (λz=>?_)
 .ext s;have e:c7 h l j=(l,.away):=if_pos (by rw[c];omega);rw[e]at k;exact k
 .ext s;refine⟨l,j,1,l.getD j 0+1,rfl,by omega,by omega,rfl,?_⟩;ext x;have e:c7 h l j=(l.set j (l.getD j 0+1),.taken):=if_neg (by rw[c];omega);rw[e]at k;exact k
theorem ze(T:Bl K mg)(D:DefM K mg "done_at" qz ["lines","line"])(G:FnM P w K mg base "with_more" 1 3 o9):FnM P w K mg base "done_at" 2 2 IM:=by
 refine bh D B8 rfl (nN:=2) rfl (by decide) ?ar λd A outer s H E f b=>⟨_,(mz' (aH (ak (bF b.units) (ae (mv' 0) (mv' 1)) mh' (aC _)) (aa (af (ag (mc' (mv' 0) (mc' ai mn'))))) ap)
   (aa (af (ag (mc' (mf' G (b.mono (by decide)) (mc' (mv' 0) (mc' (mv' 1) (mc' (ia dW mh') mn')))) (mc' ai mn')))))),?_⟩
 case ar=>intro i g ⟨l,j,rfl,_⟩;rfl
 intro i g m ⟨l,j,rfl,c,a,k⟩;refine au (MSt.mk [some (.imm (.tuple (natD l))),some (.imm (.int (j:Int)))] [] 0) rfl ?_;ext s;refine aU (bg (bq (getN rfl c))) ?_;ext s;refine bm (λz=>?_) (λz=>?_)
 .ext s;have e:dM l j=(l,.none):=if_pos (by omega);rw[e]at k;exact k
 .ext s;refine⟨l,j,-1,l.getD j 0-1,rfl,c,a,by omega,?_⟩;ext x;have e:dM l j=(l.set j (l.getD j 0-1),.served):=if_neg (by omega);rw[e]at k;exact k
theorem ub(T:Bl K mg)(D:DefM K mg "next_shift" je ["hall","lines"]):FnM P w K mg base "next_shift" 1 2 Ce:=by
 refine bh D sG rfl (nN:=2) rfl (by decide) ?ar λF A outer s H E f u=>⟨_,(mz' (aH (EW.pt (di (cR (bG (ae (mv' 0) mh'))) (di (ak (gF u.units) mh' (mv' 1) (by with_unfolding_all rfl)) (de (ak gJ (av (fH rfl) (by rfl) T.max pK (mc' (mv' 1) mn')) mh' (aC _)))))) (aa (af fq)) ap)
   (aa (af (ag (mc' (w5 aca acL (ii u.units) (mv' 1) (mc' (av (fH rfl) (by rfl) T.max pK (mc' (mv' 1) mn')) mn')) (mc' (w5 aca acL (ii u.units) (mv' 1) (mc' mh' mn')) mn')))))),?_⟩
 case ar=>intro I G ⟨h,l,rfl,_⟩;rfl
 intro I G O ⟨h,l,rfl,o,J,k⟩;have b:dm (natD l)=some (l.map λ(x:Nat)=>(x:Int)):=by
  have:=d5 (l.map λ(x:Nat)=>(x:Int));rwa[aa9]at this
 have c:(l.map λ(x:Nat)=>(x:Int))≠[]:=λz=>o (agk.mp z);have g:∀x:Int,x∈(l.map λ(x:Nat)=>(x:Int))->(∀y∈(l.map λ(x:Nat)=>(x:Int)),y≤x)->x=(maxN l:Int):=λx m a=>by
  let⟨n,N,rfl⟩:=aam.mp m;have R:=uW n N;have Q:=a (maxN l:Int) (aam.mpr ⟨maxN l,jt o,rfl⟩);omega
 have v:(natD l).any (λy=>aad y (.int 0))=decide (0∈l):=by
  rw[abl];rw[acT,decide_eq_true_eq];constructor
  .rintro⟨y,a,e⟩;let⟨x,m,rfl⟩:=aam.mp a;have C:=cp x 0;rw[show((0:Nat):Int)=0 from rfl,e]at C;have:x=0:=of_decide_eq_true C.symm;rw[<-this];exact m
  .intro p;exact⟨.int 0,aam.mpr ⟨0,p,rfl⟩,cp 0 0⟩
 refine au (MSt.mk [some (.imm (.tuple [.tuple [.int h.a,.int h.b],.tuple (h.ss.map Srv.d),.bool h.mv])),some (.imm (.tuple (natD l)))] [] 0) rfl ?_;ext s
 cases hmv:h.mv with
 |false=>
  refine jy ?_;ext s;have e:d3 h l=none:=if_neg (by rw[hmv];exact λz=>by cases z.1);rw[e]at k;exact k
 | true=>
  refine jw ?_;ext s;refine x_in (d:=.int 0) (ds:=natD l) rfl (.inr rfl) (cE 0) (br l) (by decide) ?_;ext s;rw[v]
  by_cases p:0∈l
  .rw[decide_eq_true p];refine jw ?_;ext s;refine sf rfl b c λx m a=>?_;rw[g x m a];ext s;refine bm (λz=>?_) (λz=>?_)
   .ext s;have e:d3 h l=none:=if_neg (λq=>by have:=q.2.2;omega);rw[e]at k;exact k
   .ext s;refine sf rfl b c λx m a=>?_;rw[g x m a];have s1:=iw (jt o);have B:=iw p;ext s;refine k9 (j:=idx l (maxN l)) (k':=0) (cE _) (br l) (by decide) (bq s1.1) (by rw[cp];exact decide_eq_true rfl) (λi y t a=>?_) ?_
    .obtain⟨z,ez,rfl,_⟩:=gmap a;rw[cp];exact decide_eq_false (s1.2 i z t ez)
    ext s;refine k9 (j:=idx l 0) (k':=0) (cE _) (br l) (by decide) (bq B.1) (cp 0 0) (λi y t a=>?_) ?_
    .obtain⟨z',ez,rfl,_⟩:=gmap a;have:=cp z' 0;rw[show((0:Nat):Int)=0 from rfl]at this;rw[this];exact decide_eq_false (B.2 i z' t ez)
    ext s;have e:d3 h l=some (idx l (maxN l),idx l 0):=if_pos ⟨hmv,p,by omega⟩;rw[e]at k;exact k
  .rw[decide_eq_false p];refine jy ?_;ext s;have e:d3 h l=none:=if_neg (λq=>p q.2.1);rw[e]at k;exact k
theorem zk(T:Bl K mg)(D:DefM K mg "settled" rF ["hall","lines"])(G:FnM P w K mg base "next_shift" 1 2 Ce)(a:FnM P w K mg base "with_more" 1 3 o9):FnM P w K mg base "settled" 2 2 tf:=by
 refine bh D ji rfl (nN:=3) rfl (by decide) ?ar λu A outer s H E f q=>⟨_,(mz' (aA 2 ji.nd (mf' G (q.mono (by decide)) (mc' (mv' 0) (mc' (mv' 1) mn'))))
   (mz' (dJ (ak pp (mv' 2) fq (aC _)) (mz' (aA 1 ji.nd (mf' a (q.mono (by decide)) (mc' (mf' a (q.mono (by decide)) (mc' (mv' 1) (mc' (ae (mv' 2) mh') (mc' (ia dW mh') mn')))) (mc' (ae (mv' 2) mh') (mc' mh' mn')))))
   (aa (aA 2 ji.nd (mf' G (q.mono (by decide)) (mc' (mv' 0) (mc' (mv' 1) mn')))))) aaE)
   (aa (af (mv' 1))))),?_⟩
 case ar=>intro y x ⟨h,l,rfl,_⟩;rfl
 intro y x Q ⟨h,l,rfl,g,j,k⟩;refine au (MSt.mk [some (.imm h.d),some (.imm (lnD l)),none] [] 0) rfl ?_;ext s;refine⟨h,l,rfl,g,j,?_⟩;ext x;refine jf (λn m=>∃b:List Nat,m=MSt.mk [some (.imm h.d),some (.imm (lnD b)),some (.imm (optP (d3 h b)))] [] 0/\n=b.count 0/\dn h n b=gA h l/\b≠[]/\b.length≤1000) (l.count 0) ⟨l,rfl,rfl,rfl,g,j⟩ ?_;intro n m N ⟨b,rfl,rfl,t,i,o⟩;ext s
 cases e:d3 h b with
 |none=>
  refine jw ?_;ext s;rw[ko e]at t;rw[<-t]at k;exact k
 | some p=>
  refine jy ?_;let⟨J,I,C,B,c⟩:=jL e;let⟨O,m1,m2,v,F⟩:=ip e;have S:b.getD p.1 0=maxN b:=bu m1;have R:(b.set p.1 (maxN b-1)).getD p.2 0=0:=bu (by rw[aaP F];exact v);dsimp only[optP];ext s;refine⟨b,p.1,-1,maxN b-1,rfl,I,o,by omega,?_⟩;ext x;refine⟨b.set p.1 (maxN b-1),p.2,1,1,rfl,by rw[abe];exact C,by rw[abe];exact o,by omega,?_⟩;rw[<-J];ext x;have d:cQ b p≠[]:=λz=>by
   rw[z]at c;exact i (aa4 c.symm)
  refine⟨h,cQ b p,rfl,d,by omega,?_⟩;ext x;refine⟨(cQ b p).count 0,by omega,cQ b p,rfl,rfl,?_,d,by omega⟩;rw[<-t,<-B];show _=dn h ((cQ b p).count 0+1) b;simp only[dn,e]
theorem rb(T:Bl K mg)(D:DefM K mg "turn_behind" gQ ["hall","rule","turn"]):FnM P w K mg base "turn_behind" 1 3 zc:=by
 refine bh D rQ rfl (nN:=3) rfl (by decide) ?ar λc A outer s H E f a=>⟨_,(mz' (aH (ak (bF a.units) (ae (mv' 1) mh') ai (aC _)) (aa (af (ah gj (ah aK (mv' 2) mh') (av bc (by rfl) T.len cq (mc' (ae (mv' 0) mh') mn'))))) ap)
   (aa (af (mv' 2)))),?_⟩
 case ar=>intro d b ⟨h,r,t,rfl,_⟩;rfl
 intro d b i ⟨h,r,t,rfl,g,k⟩;have n1:=g.n1;refine au (MSt.mk [some (.imm (.tuple [.tuple [.int h.a,.int h.b],.tuple (h.ss.map Srv.d),.bool h.mv])),some (.imm r.d),some (.imm (.int (t:Int)))] [] 0) rfl ?_;ext s;refine JH r.dc (bg (j:=0) rfl) ?_;ext s;refine bm (λz=>?_) (λz=>?_)
 .have a:r = .turns:=by cases r<;>first|rfl|exact absurd z (by decide +kernel)|exact absurd (show("told" : Str) = "turns" from z) (by decide +kernel)
  subst a;ext s;refine Jp (by rw[iO];omega) ?_;rw[iO];exact k
 .ext s;have e:Cz h r t=t:=by cases r<;>first|rfl|exact absurd rfl z
  rw[e]at k;exact k
theorem zl(T:Bl K mg)(D:DefM K mg "line_of" qO ["hall","rule","stand","move"])(G:FnM P w K mg base "sent_to" 3 4 wm):FnM P w K mg base "line_of" 4 4 vF:=by
 refine bh D Ac rfl (nN:=4) rfl (by decide) ?ar λc A outer s H E f a=>⟨_,(mz' (aH (ak (bF a.units) (ae (mv' 3) mh') ai (aC _)) (aa (af (mf' G (a.mono (by decide)) (mc' (mv' 0) (mc' (mv' 1) (mc' (mv' 2) (mc' (ae (mv' 3) mh') mn'))))))) ap)
   (mz' (aH (ak (bF a.units) (ae (mv' 3) mh') ai (aC _)) (aa (af (ae (mv' 3) mh'))) ap)
   (aa (af fq)))),?_⟩
 case ar=>intro g d ⟨h,r,l,t,mv,rfl,_⟩;rfl
 intro g d n ⟨h,r,l,t,mv,rfl,i,b,m,e,k⟩
 cases mv with
 |come o=>
  refine au (MSt.mk [some (.imm h.d),some (.imm r.d),some (.imm (stD l t)),some (.imm (.tuple [.str "come",lnD o]))] [] 0) rfl ?_;ext s;refine bm (λ_=>?_) (λz=>(z rfl).elim);ext s;refine⟨h,r,l,t,o,rfl,i,b,m,e,?_⟩;ext n;exact k
 |done j=>
  refine au (MSt.mk [some (.imm h.d),some (.imm r.d),some (.imm (stD l t)),some (.imm (.tuple [.str "done",.int (j:Int)]))] [] 0) rfl ?_;ext s;ext b;exact k
 |still=>
  refine au (MSt.mk [some (.imm h.d),some (.imm r.d),some (.imm (stD l t)),some (.imm (.tuple [.str "still"]))] [] 0) rfl ?_;ext s;ext a;exact k
theorem yp(T:Bl K mg)(D:DefM K mg "moved_on" lu ["hall","rule","stand","move"])(a:FnM P w K mg base "line_of" 4 4 vF)(d:FnM P w K mg base "come_to" 2 3 IW)(G:FnM P w K mg base "turn_behind" 1 3 zc)(b:FnM P w K mg base "done_at" 2 2 IM)(c:FnM P w K mg base "settled" 2 2 tf):FnM P w K mg base "moved_on" 5 4 yT:=by
 refine bh D cn rfl (nN:=8) rfl (by decide) ?ar λy A outer s H E f p=>⟨_,(mz' (cB (mv' 2) (bo (n:=2) (ac (am 4 cn.nd) (ac (am 5 cn.nd) aP))))
   (mz' (aA 6 cn.nd ai)
   (mz' (aA 7 cn.nd (mf' a (p.mono (by decide)) (mc' (mv' 0) (mc' (mv' 1) (mc' (mv' 2) (mc' (mv' 3) mn'))))))
   (mz' (aH (ak (bF p.units) (ae (mv' 3) mh') ai (aC _)) (mz' (cB (mf' d (p.mono (by decide)) (mc' (mv' 0) (mc' (mv' 4) (mc' (mv' 7) mn')))) (bo (n:=2) (ac (am 4 cn.nd) (ac (am 6 cn.nd) aP))))
   (aa (aA 5 cn.nd (mf' G (p.mono (by decide)) (mc' (mv' 0) (mc' (mv' 1) (mc' (mv' 5) mn'))))))) (aa (aH (ak (bF p.units) (ae (mv' 3) mh') ai (aC _)) (aa (cB (mf' b (p.mono (by decide)) (mc' (mv' 4) (mc' (mv' 7) mn'))) (bo (n:=2) (ac (am 4 cn.nd) (ac (am 6 cn.nd) aP))))) ap)))
   (aa (af (ag (mc' (ag (mc' (mf' c (p.mono (by decide)) (mc' (mv' 0) (mc' (mv' 4) mn'))) (mc' (mv' 5) mn'))) (mc' (mv' 6) mn'))))))))),?_⟩
 case ar=>intro F B ⟨h,r,l,t,mv,rfl,_⟩;rfl
 intro F B I ⟨h,r,l,t,mv,rfl,m,i,q,u,C,k⟩;have x:=q.1;have n1:=m.n1;have n4:=m.n4;have ne:∀v:List Nat,v.length=l.length->v≠[]:=λv e z=>by rw[z]at e;simp at e;omega
 cases mv with
 |come o=>
  refine au (MSt.mk [some (.imm h.d),some (.imm r.d),some (.imm (.tuple [lnD l,.int (t:Int)])),some (.imm (.tuple [.str "come",lnD o])),none,none,none,none] [] 0) rfl ?_;ext s
  .rfl
  ext s;refine⟨h,r,l,t,.come o,rfl,m,i,q,u,?_⟩;dsimp only[GM];ext x;refine bm (λ_=>?_) (λz=>(z rfl).elim);ext s;refine⟨h,l,sent h r l t o,rfl,m,q,vE m i q u C,?_⟩;ext n;dsimp only[lwD];ext s
  .rfl
  ext s;refine⟨h,r,t,rfl,m,?_⟩;ext x;have g:(c7 h l (sent h r l t o)).1.length=l.length:=by unfold c7;split<;>simp
  refine⟨h,_,rfl,ne _ g,by omega,?_⟩;ext x;exact k
 |done j=>
  refine au (MSt.mk [some (.imm h.d),some (.imm r.d),some (.imm (.tuple [lnD l,.int (t:Int)])),some (.imm (.tuple [.str "done",.int (j:Int)])),none,none,none,none] [] 0) rfl ?_;ext s
  .rfl
  ext s;refine⟨h,r,l,t,.done j,rfl,m,i,q,u,?_⟩;dsimp only[GM];ext x;ext b;refine⟨l,j,rfl,by rw[x];exact u,by omega,?_⟩;ext n;dsimp only[lwD];ext s
  .rfl
  ext s;have g:(dM l j).1.length=l.length:=by unfold dM;split<;>simp
  refine⟨h,_,rfl,ne _ g,by omega,?_⟩;ext x;exact k
 |still=>
  refine au (MSt.mk [some (.imm h.d),some (.imm r.d),some (.imm (.tuple [lnD l,.int (t:Int)])),some (.imm (.tuple [.str "still"])),none,none,none,none] [] 0) rfl ?_;ext s
  .rfl
  ext s;refine⟨h,r,l,t,.still,rfl,m,i,q,u,?_⟩;dsimp only[GM];ext x;ext a;refine⟨h,l,rfl,ne _ rfl,by omega,?_⟩;ext x;exact k
theorem ud(T:Bl K mg)(D:DefM K mg "kept_lines" iX ["hall","lines"])(G:FnM P w K mg base "is_alike" 1 1 Jk):FnM P w K mg base "kept_lines" 2 2 mh:=by
 refine bh D sg rfl (nN:=2) rfl (by decide) ?ar λc A outer s H E f a=>⟨_,(mz' (aH (bG (mf' G (a.mono (by decide)) (mc' (mv' 0) mn'))) (aa (af (cz c8 (by rfl) T.tuple c6 (mc' (pF n6 (by rfl) T.sorted ot (mc' (mv' 1) mn')) mn')))) ap)
   (aa (af (mv' 1)))),?_⟩
 case ar=>intro i d ⟨h,l,rfl,_⟩;rfl
 intro i d o ⟨h,l,rfl,j,m,k⟩;refine au (MSt.mk [some (.imm h.d),some (.imm (.tuple (natD l)))] [] 0) rfl ?_;ext s;refine⟨h,rfl,j,?_⟩;ext n;unfold cW at k
 cases q:alk h with
 |true=>
  rw[q,if_pos rfl]at k;ext s;refine zj rfl (iB l) (by rw[iO];omega) λn b g=>?_;have e:=xr b g;subst e;rw[<-tQ];ext s;exact k
 |false=>
  rw[q,if_neg aaj]at k;ext s;exact k
def oz(T:Bl K mg)(D:DefM K mg "refuse_turns" ga ["one","other"]):FnM P w K mg base "refuse_turns" 1 2 Jn:=by
 refine bh D o8 rfl (nN:=2) rfl (by decide) ?ar λc A outer s H E f b=>⟨_,(aa (aH (EW.pt (di (ak (bF b.units) (ae (mv' 0) mh') ai (aC _)) (de (ak (bF b.units) (ae (mv' 1) mh') ai (aC _))))) (aa CU) ap)),?_⟩
 case ar=>intro j d ⟨r1,a,rfl,_⟩;rfl
 intro j d n ⟨r1,a,rfl,i,e,k⟩;refine au (MSt.mk [some (.imm r1.d),some (.imm a.d)] [] 0) rfl ?_;ext s;let⟨o,g⟩:=xQ r1;let⟨t,m⟩:=xQ a;refine j1 g ?_;ext s;rw[qo i];ext s;refine j1 m ?_;ext s;rw[qo e];ext s;exact k
theorem oG(T:Bl K mg)(D:DefM K mg "first_triple" gg ["hall"])(G:FnM P w K mg base "first_stand" 1 1 AK):FnM P w K mg base "first_triple" 2 1 Ij:=by
 refine bh D iU rfl (nN:=2) rfl (by decide) ?ar λc A outer s H E f b=>⟨_,(mz' (aA 1 iU.nd (ae (mf' G (b.mono (by decide)) (mc' (mv' 0) mn')) mh'))
   (aa (af (ag (mc' (mv' 1) (mc' (mv' 1) (mc' mh' mn'))))))),?_⟩
 case ar=>intro a e ⟨h,rfl,_⟩;rfl
 intro a e g ⟨h,rfl,d,k⟩;refine au (MSt.mk [some (.imm h.d),none] [] 0) rfl ?_;ext s;refine⟨h,rfl,d,?_⟩;ext x;refine j1 (tl:=[.int 0]) rfl ?_;ext s;exact k
theorem vn(T:Bl K mg)(D:DefM K mg "kept_step" jP ["hall","rule","lines","move"])(a:FnM P w K mg base "moved_on" 5 4 yT)(G:FnM P w K mg base "kept_lines" 2 2 mh):FnM P w K mg base "kept_step" 6 4 TM:=by
 refine bh D iW rfl (nN:=6) rfl (by decide) ?ar λi A outer s H E f b=>⟨_,(mz' (cB (mf' a (b.mono (by decide)) (mc' (mv' 0) (mc' (mv' 1) (mc' (ag (mc' (mv' 2) (mc' mh' mn'))) (mc' (mv' 3) mn'))))) (bo (n:=2) (ac (am 4 iW.nd) (ac (am 5 iW.nd) aP))))
   (aa (af (ag (mc' (mf' G (b.mono (by decide)) (mc' (mv' 0) (mc' (ae (mv' 4) mh') mn'))) (mc' (c9 (bF b.units) (mv' 5) ai (aC _)) mn')))))),?_⟩
 case ar=>intro j o ⟨h,r,l,m,rfl,_⟩;rfl
 intro j o q ⟨h,r,l,m,rfl,c,b,d,g,e,k⟩;have n4:=c.n4;have S:=jn c b (t:=0) ⟨g,λz=>(d z).elim,by decide⟩ e;have p:=S.ln.1;refine au (MSt.mk [some (.imm h.d),some (.imm r.d),some (.imm (lnD l)),some (.imm m.d),none,none] [] 0) rfl ?_;ext s;refine⟨h,r,l,0,m,rfl,c,b,g,e,λz=>(d z).elim,?_⟩;ext n;unfold mvD;ext s
 .rfl
 ext s;refine j1 (tl:=[.int ((kM h r l 0 m).2.1:Int)]) rfl ?_;ext s;refine⟨h,_,rfl,c,by omega,?_⟩;ext x;rw[D9];exact k
def nU(T:Bl K mg)(D:DefM K mg "triple_behind" fv ["one_step","other_step","lead"]):FnM P w K mg base "triple_behind" 1 3 RF:=by
 refine bh D bQ rfl (nN:=7) rfl (by decide) ?ar λc A outer s H E f i=>⟨_,(mz' (cB (mv' 0) (bo (n:=2) (ac (am 3 bQ.nd) (ac (am 4 bQ.nd) aP))))
   (mz' (cB (mv' 1) (bo (n:=2) (ac (am 5 bQ.nd) (ac (am 6 bQ.nd) aP))))
   (mz' (aH (EW.pt (i8 (bG (mv' 6)) (ig (cR (bG (mv' 4)))))) (aa (uV 2 bQ.nd mh' IJ)) ap)
   (mz' (aH (EW.pt (i8 (bG (mv' 4)) (ig (cR (bG (mv' 6)))))) (aa (uV 2 bQ.nd mh' QK)) ap)
   (aa (af (ag (mc' (mv' 3) (mc' (mv' 5) (mc' (mv' 2) mn')))))))))),?_⟩
 case ar=>intro g e ⟨p,q,d,rfl,_⟩;rfl
 intro g e j ⟨p,q,d,rfl,k⟩;unfold aw at k;refine au (MSt.mk [some (.imm (.tuple [lnD p.1,.bool (decide (p.2 = .away))])),some (.imm (.tuple [lnD q.1,.bool (decide (q.2 = .away))])),some (.imm (.int d)),none,none,none,none] [] 0) rfl ?_;ext s
 .rfl
 ext s
 .rfl
 ext s
 by_cases b:p.2 = .away<;>by_cases a:q.2 = .away
 .rw[if_pos b,if_pos a,show d+1-1=d by omega]at k;rw[decide_eq_true b,decide_eq_true a];ext g;rw[if_neg (by decide)];ext s;exact k
 .rw[if_pos b,if_neg a,show d+0-1=d-1 by omega]at k;rw[decide_eq_true b,decide_eq_false a];ext s;rw[if_pos (by decide)];refine NU d rfl ?_;ext s;refine⟨1,rfl,?_⟩;ext x;exact k
 .rw[if_neg b,if_pos a,show d+1-0=d+1 by omega]at k;rw[decide_eq_false b,decide_eq_true a];ext s;rw[if_pos (by decide)];refine NU d rfl ?_;ext s;refine⟨1,rfl,?_⟩;ext s;exact k
 .rw[if_neg b,if_neg a,show d+0-0=d by omega]at k;rw[decide_eq_false b,decide_eq_false a];ext s;exact k
def yg(T:Bl K mg)(D:DefM K mg "is_worse" ma ["triple"]):FnM P w K mg base "is_worse" 1 1 I9:=by
 refine bh D iq rfl (nN:=4) rfl (by decide) ?ar λc A outer s H E f d=>⟨_,(mz' (cB (mv' 0) (bo (n:=3) (ac (am 1 iq.nd) (ac (am 2 iq.nd) (ac (am 3 iq.nd) aP)))))
   (aa (af (c9 jD (av (iA rfl) (by rfl) T.sum tx (mc' (mv' 1) mn')) (ah aK (av (iA rfl) (by rfl) T.sum tx (mc' (mv' 2) mn')) (mv' 3)) (aC _))))),?_⟩
 case ar=>intro a b ⟨t,rfl,_⟩;rfl
 intro a b e ⟨t,rfl,k⟩;refine au (MSt.mk [some (.imm (.tuple [lnD t.1,lnD t.2.1,.int t.2.2])),none,none,none] [] 0) rfl ?_;ext s
 .rfl
 ext s;refine vH rfl (iB t.1) ?_;rw[nh];ext s;refine vH rfl (iB t.2.1) ?_;rw[nh];ext s;exact k
theorem jW(T:Bl K mg)(D:MthD K "Search" "steps_of" "Search.steps_of" bC ["self","side","lines"])(j:FnM P w K mg base "kept_step" 6 4 TM):gn P w K mg base "Search" "steps_of" 7 3 uf:=by
 refine jS D fE rfl (nN:=4) rfl (by decide) ?ar λI A outer s H E f o=>⟨_,(mz' (aH (ak (j3 o.units) (ag (mc' (mv' 1) (mc' (mv' 2) mn'))) (cx T.f_Search_steps (mv' 0)) (by with_unfolding_all rfl)) (mz' (re (i:=3) fE.nd rfl (adv rfl) (ae (cx T.f_Search_rules (mv' 0)) (mv' 1)))
   (aa (jm o.units (dq (bP (own:=["move"]) (fr:=["self","rule","lines"]) (ps:=[0,3,2]) (sc:=(ab bC)) (by exact⟨rfl,by decide +kernel,by decide +kernel,by decide +kernel,by decide +kernel⟩) (bp (cx T.f_Search_moves (mv' 0))) (λ_ _ _ _ _=>(am 0 (show aaS ((["move"]:List Str)++(["self","rule","lines"]:List Str))from by decide +kernel))) (λ_ _ _ _ _=>bH) (λ_ _ _ _ _=>(mf' j (o.mono (by decide)) (mc' (cx T.f_Search_hall (mv' 1)) (mc' (mv' 2) (mc' (mv' 3) (mc' (mv' 0) mn')))))))) (cx T.f_Search_steps (mv' 0)) (ag (mc' (mv' 1) (mc' (mv' 2) mn')))))) ap)
   (aa (af (qK o.units (cx T.f_Search_steps (mv' 0)) (ag (mc' (mv' 1) (mc' (mv' 2) mn'))))))),?_⟩
 case ar=>intro Q O ⟨h,r1,g,C,L,T,Y,s,l,rfl,_⟩;rfl
 intro Q O U ⟨h,r1,g,C,L,T,Y,s,l,rfl,G,V,X,s2,v,k⟩;have q:∀C,oneK (ki h r1 g C) (skD (s,l))=true:=λC=>by unfold oneK;rw[KH (h:=h) C,LJ (h:=h),acb,ac2]
 refine au (MSt.mk [some (.at 0 []),some (.imm (.int (s:Int))),some (.imm (lnD l)),none] [[scT h r1 g C L T Y]] 1) rfl ?_;refine oY ?_;refine x_JS (λm=>∃(a:Option L2.R) (n:List Ck),m=MSt.mk [some (.at 0 []),some (.imm (.int (s:Int))),some (.imm (lnD l)),a] [[scT h r1 g n L T Y]] 1/\CaOk h n/\(s,l)∈n) (λN u=>?_) ?_
 .ext s;refine u8 rfl (Jo (k:=skD (s,l)) (kvs:=ki h r1 g C) ⟨rfl,rfl⟩ (q C) ?_);rw[st_look]
  by_cases c:(s,l)∈C
  .rw[if_pos c];refine su (b:=false) ?_;ext s;exact u _ ⟨_,C,rfl,X,c⟩
  .rw[if_neg c];refine su (b:=true) ?_;ext s;refine aU (d:=(rl r1 g s).d) (by rcases (show s=0\/s=1 by omega)with rfl|rfl<;>rfl) ?_;ext s;ext n;refine bU (λi m=>∃a:Option L2.R,m=MSt.mk [a,some (.at 0 []),some (.imm (rl r1 g s).d),some (.imm (lnD l))] [[scT h r1 g C L T Y],(stv h r1 g (s,l)).take i] 2) ⟨none,rfl⟩ ?_ ?_
   .rintro i d m e hnp ⟨a,rfl⟩ D1 hD1 hR1;let⟨mv,t,rfl,R⟩:=gmap e;ext s;refine⟨h,_,l,mv,rfl,G.o,(G.rl s).1,(G.rl s).2,v,qf G.o mv (GT t),?_⟩;ext x;have S:=(uA G.o).2;refine⟨_,rfl,by unfold stv;rw[aaC,iO,aak];omega,hD1 _ ⟨some (.imm mv.d),?_⟩⟩;rw[aaJ,show(stv h r1 g (s,l))[i]?=some (ksD (kst h (rl r1 g s) l mv)) by unfold stv;rw[aai,t];rfl];rfl
   .rintro m hnp ⟨a,rfl⟩;ext x;refine u8 rfl ?_;ext s;have W:=X.len;refine⟨_,ki h r1 g C,rfl,rfl,rfl,KH (h:=h) C,LJ (h:=h),by unfold ki;rw[iO,aak];omega,?_⟩;ext n;rw[show ae5 ([[scT h r1 g C L T Y],(stv h r1 g (s,l)).take ((mvs h).map Mv.d).length].getD 1 []) = .list ((stv h r1 g (s,l)).take ((mvs h).map Mv.d).length)from rfl,show ae5 ((stv h r1 g (s,l)).take ((mvs h).map Mv.d).length) = .list (stv h r1 g (s,l)) by rw[show((mvs h).map Mv.d).length=(stv h r1 g (s,l)).length by unfold stv;rw[iO,iO],aau],show abw [.int (s:Int),lnD l]=skD (s,l)from rfl,Iq c];refine u _ ⟨some (.imm (rl r1 g s).d),C++[(s,l)],rfl,⟨?_,λp J=>?_⟩,aaH _ aae⟩
    .exact acD.mpr ⟨X.nd,ach _ _,λx B y F z=>c (by rw[aaa.mp F]at z;rw[<-z];exact B)⟩
    .rcases aaG.mp J with z|z
     .exact X.ok p z
     .rw[aaa.mp z];exact⟨s2,v⟩
 .rintro m ⟨a,n,rfl,X',c⟩;ext s;refine u8 rfl ?_;ext s;refine⟨ki h r1 g n,.list (stv h r1 g (s,l)),⟨rfl,rfl⟩,q n,st_look.trans (if_pos c),?_⟩;ext s;exact k n X'
theorem gc(T:Bl K mg)(D:MthD K "Search" "triples_behind" "Search.triples_behind" aM ["self","triple"])(c:gn P w K mg base "Search" "steps_of" 7 3 uf)(g:FnM P w K mg base "triple_behind" 1 3 RF):gn P w K mg base "Search" "triples_behind" 8 2 Ix:=by
 refine jS D ba rfl (nN:=7) rfl (by decide) ?ar λx A outer s H E f p=>⟨_,(mz' (cB (mv' 1) (bo (n:=3) (ac (am 2 ba.nd) (ac (am 3 ba.nd) (ac (lc (i:=4) ba.nd rfl (adv rfl)) aP)))))
   (mz' (aA 5 ba.nd (il c (p.mono (by decide)) (mv' 0) (mc' mh' (mc' (mv' 2) mn'))))
   (mz' (aA 6 ba.nd (il c (p.mono (by decide)) (mv' 0) (mc' mh' (mc' (mv' 3) mn'))))
   (aa (af (bP (own:=["one_step","other_step"]) (fr:=["lead"]) (ps:=[4]) (sc:=(ab aM)) (by exact⟨rfl,by decide +kernel,by decide +kernel,by decide +kernel,by decide +kernel⟩) (u5 T.zip (mc' (mv' 5) (mc' (mv' 6) mn'))) (λ_ _ _ _ _=>(bo (n:=2) (ac (am 0 (show aaS ((["one_step","other_step"]:List Str)++(["lead"]:List Str))from by decide +kernel)) (ac (am 1 (show aaS ((["one_step","other_step"]:List Str)++(["lead"]:List Str))from by decide +kernel)) aP)))) (λ_ _ _ _ _=>bH) (λ_ _ _ _ _=>(mf' g (p.mono (by decide)) (mc' (mv' 0) (mc' (mv' 1) (mc' (mv' 2) mn'))))))))))),?_⟩
 case ar=>intro F z ⟨h,r1,j,C,L,T,Y,t,rfl,_⟩;rfl
 intro F z Z ⟨h,r1,j,C,L,T,Y,t,rfl,G,v,X,y,ly,k⟩;refine au (MSt.mk [some (.at 0 []),some (.imm (.tuple [lnD t.1,lnD t.2.1,.int t.2.2])),none,none,none,none,none] [[scT h r1 j C L T Y]] 1) rfl ?_;ext s
 .rfl
 ext s;refine⟨h,r1,j,C,L,T,Y,0,t.1,rfl,G,v,X,by decide,y,λO I=>?_⟩;ext x;refine⟨h,r1,j,O,L,T,Y,1,t.2.1,rfl,G,v,I,by decide,ly,λq Q=>?_⟩;ext x;refine⟨false,_,false,_,rfl,rfl,?_⟩;refine bU (λi m=>∃a b:Option L2.R,m=MSt.mk [a,b,some (.imm (.int t.2.2))] [[scT h r1 j q L T Y],((mvs h).map λm=>trD (bth h r1 j t m)).take i] 2) ⟨none,none,rfl⟩ ?_ ?_
 .rintro i d m e hnp ⟨a,b,rfl⟩ D1 hD1 hR1;let⟨S,W,N,R,rfl⟩:=uU e;let⟨mv,u,rfl,V⟩:=gmap N;let⟨mv',o,rfl,J⟩:=gmap R;rw[u]at o;cases o;ext s
  .rfl
  ext s;refine⟨_,_,t.2.2,rfl,?_⟩;ext x;have U:=(uA G.o).2;refine⟨_,rfl,by rw[aaC,iO,aak];omega,hD1 _ ⟨some (.imm (ksD (kst h (rl r1 j 0) t.1 mv))),some (.imm (ksD (kst h (rl r1 j 1) t.2.1 mv))),?_⟩⟩;rw[aaJ,aai,u];rfl
 .rintro m hnp ⟨a,b,rfl⟩;ext x;have B:(zipD (stv h r1 j (0,t.1)) (stv h r1 j (1,t.2.1))).length=((mvs h).map λm=>trD (bth h r1 j t m)).length:=by unfold stv;rw[d9,iO,iO,iO];exact agM _
  rw[B,aau];exact k q Q
theorem tX(T:Bl K mg)(D:MthD K "Search" "met" "Search.met" df ["self","triple","ahead","move"]):gn P w K mg base "Search" "met" 1 4 L6:=by
 refine jS D fe rfl (nN:=7) rfl (by decide) ?ar λB A outer s H E f o=>⟨_,(mz' (cB (mv' 1) (bo (n:=3) (ac (am 4 fe.nd) (ac (am 5 fe.nd) (ac (am 6 fe.nd) aP)))))
   (aa (aH (EW.pt (di (ak (j3 o.units) (ag (mc' (mv' 4) (mc' (mv' 5) mn'))) (cx T.f_Search_leads (mv' 0)) (by with_unfolding_all rfl)) (de (ak gJ (mv' 6) (qK o.units (cx T.f_Search_leads (mv' 0)) (ag (mc' (mv' 4) (mc' (mv' 5) mn')))) (aC _))))) (mz' (jm o.units (mv' 6) (cx T.f_Search_leads (mv' 0)) (ag (mc' (mv' 4) (mc' (mv' 5) mn'))))
   (mz' (dG (mQ acM acN lC (cx T.f_Search_triples (mv' 0)) (mc' (mv' 1) mn')))
   (aa (dG (mQ acM acN lC (cx T.f_Search_ways (mv' 0)) (mc' (ag (mc' (mv' 2) (mc' (mv' 3) mn'))) mn')))))) ap))),?_⟩
 case ar=>intro Q J ⟨h,r1,i,C,L,T,Y,t,y,a,d,rfl,_⟩;rfl
 intro Q J Z ⟨h,r1,i,C,L,T,Y,t,y,a,d,rfl,G,x,S,F,ly,nL,W,V,k1,k2⟩;have g:kyA (ldD L)=true:=yM x S;have q:kyD (pkD (t.1,t.2.1))=true:=yf x F ly;have u:oneK (ldD L) (pkD (t.1,t.2.1))=true:=by unfold oneK;rw[g,q,acb,ac2]
 refine au (MSt.mk [some (.at 0 []),some (.imm (.tuple [lnD t.1,lnD t.2.1,.int t.2.2])),some (.imm (.int a)),some (.imm d),none,none,none] [[scT h r1 i C L T Y]] 1) rfl ?_;refine oY ?_;ext s
 .rfl
 refine lG (x_gM (lG (x_gM (lG (x_gM (Bp ?_))))));ext n;refine Ut ?_;refine x_JT (λc m=>m=MSt.mk [some (.at 0 []),some (.imm (.tuple [lnD t.1,lnD t.2.1,.int t.2.2])),some (.imm (.int a)),some (.imm d),some (.imm (lnD t.1)),some (.imm (lnD t.2.1)),some (.imm (.int t.2.2))] [[scT h r1 i C L T Y]] 1/\(c=true->t.2.2<(lkL (t.1,t.2.1) L).getD (t.2.2+1))/\(c=false->∃w,lkL (t.1,t.2.1) L=some w/\w≤t.2.2)) (λU v=>?_) ?_
 .ext x;refine qZ rfl g (Jo (k:=pkD (t.1,t.2.1)) (kvs:=ldD L) ⟨rfl,rfl⟩ u ?_);rw[u9]
  cases e:lkL (t.1,t.2.1) L with
  |none=>
   refine su (b:=true) ?_;exact v _ _ ⟨rfl,λ_=>by rw[e];exact(show t.2.2<t.2.2+1 by omega),λz=>by cases z⟩
  |some w=>
   refine su (b:=false) ?_;ext s;refine qZ rfl g ?_;ext s;refine⟨ldD L,.int w,⟨rfl,rfl⟩,u,(u9 (t.1,t.2.1) L).trans (by rw[e];rfl),?_⟩;ext s;refine v _ _ ⟨rfl,λz=>by rw[e];exact of_decide_eq_true z,λz=>⟨w,e,?_⟩⟩;have:=of_decide_eq_false z;omega
 .rintro c m ⟨rfl,h1,h2⟩
  cases c with
  |false=>
   let⟨w,I,R⟩:=h2 rfl;ext s;exact k2 w I R
  | true=>
   ext s;refine qZ rfl g ?_;ext s;refine⟨_,ldD L,rfl,rfl,rfl,g,q,by unfold ldD;rw[iO,aak];omega,?_⟩;rw[show abw [lnD t.1,lnD t.2.1]=pkD (t.1,t.2.1)from rfl,x8];ext n;have X:setT (scT h r1 i C L T Y) [5] (.dict (lfKV (ldD (setL (t.1,t.2.1) t.2.2 L))))=scT h r1 i C (setL (t.1,t.2.1) t.2.2 L) T Y:=rfl;generalize setL (t.1,t.2.1) t.2.2 L=j at *;ext s;refine⟨⟨_,oa T⟩,?_⟩;ext s;refine sU (p:=[6]) (m:=MSt.mk _ [[scT h r1 i C j T Y]] 1) rfl rfl (oa T) rfl (by rw[iO,aak];omega) ?_;have N:setT (scT h r1 i C j T Y) [6] (.list ((T.map trD++[trD t]).map lfD))=scT h r1 i C j (T++[t]) Y:=by
    rw[show T.map trD++[trD t]=(T++[t]).map trD by rw[aaD];rfl,U5];rfl
   ext n;rw[show abw [lnD t.1,lnD t.2.1,.int t.2.2]=trD t from rfl,N];ext s;refine⟨⟨_,tZ Y⟩,?_⟩;ext s;refine sU (p:=[7]) rfl rfl (tZ Y) rfl (by rw[iO,aak];omega) ?_;have O:setT (scT h r1 i C j (T++[t]) Y) [7] (.list ((Y.map wyD++[wyD y]).map lfD))=scT h r1 i C j (T++[t]) (Y++[y]):=by
    rw[show Y.map wyD++[wyD y]=(Y++[y]).map wyD by rw[aaD];rfl,UB];rfl
   rw[<-G,O];ext s;exact k1 (h1 rfl)
theorem lJ(T:Bl K mg)(D:MthD K "Search" "run_to" "Search.run_to" ck ["self","at"]):gn P w K mg base "Search" "run_to" 1 2 Da:=by
 refine jS D cX rfl (nN:=4) rfl (by decide) ?ar λt A outer s H E f I=>⟨_,(mz' (aA 2 cX.nd (cg mn'))
   (mz' (dJ (ak Bo (ae (vm (cx T.f_Search_ways (mv' 0)) (mv' 1)) mh') mh' (aC _)) (mz' (cB (vm (cx T.f_Search_ways (mv' 0)) (mv' 1)) (bo (n:=2) (ac (am 1 cX.nd) (ac (am 3 cX.nd) aP))))
   (aa (dG (mQ acM acN pk (mv' 2) (mc' (mv' 3) mn'))))) aaE)
   (aa (af (cz c8 (by rfl) T.tuple c6 (mc' (GU (mv' 2) (ia dW mh')) mn')))))),?_⟩
 case ar=>intro F x ⟨h,r1,c,C,L,T,Y,P,i,p,rfl,_⟩;rfl
 intro F x N ⟨h,r1,c,C,L,T,Y,P,i,p,rfl,W,J,j,k⟩;refine au (MSt.mk [some (.at 0 []),some (.imm (.int (i:Int))),none,none] [[scT h r1 c C L T Y]] 1) rfl ?_;ext c;refine jf (λn m=>∃(a:Option L2.R) (q s:List Mv),m=MSt.mk [some (.at 0 []),some (.imm (.int (n:Int))),some (.obj 1),a] [[scT h r1 c C L T Y],s.reverse.map Mv.d] 1/\P[n]?=some q/\p=q++s/\s.length+n≤i) i ⟨none,p,[],rfl,j,(aaY p).symm,by rw[adN];omega⟩ ?_;intro n m v ⟨a,q,s,rfl,eq,o,O⟩;have G:i<Y.length:=by rw[W.ly];exact(AD.mp j).1
 let⟨y,e⟩:∃y,Y[n]?=some y:=⟨_,lD (show n<Y.length by omega)⟩;let⟨g,d⟩:=B7 (f:=wyD) e;ext s;refine uQ (p:=[7]) rfl rfl g d ?_;rw[v6];rcases W.wy n q eq with⟨rfl,z⟩|⟨b,mv,B,u,eb,rfl,z⟩
 .rw[e]at z;cases z;rw[show wyD none = .tuple [.int (-1),.none]from rfl];ext g;refine⟨_,rfl,rfl,?_⟩;ext s;rw[<-List.map_reverse,List.reverse_reverse,show s=p from o.symm];exact k
 .rw[e]at z;cases z;rw[show wyD (some (b,mv)) = .tuple [.int (b:Int),mv.d]from rfl];ext s;rw[if_pos (decide_eq_true (by omega))];ext s;refine uQ (p:=[7]) rfl rfl g d ?_;rw[v6,show wyD (some (b,mv)) = .tuple [.int (b:Int),mv.d]from rfl];ext s
  .rfl
  ext s;refine' wN (ds:=s.reverse.map Mv.d) ?eb (by rw[aak,iO,agh];omega) ?_
  case eb=>rfl
  refine⟨b,u,some (.imm mv.d),B,mv::s,?_,eb,by rw[o,aa6];rfl,by rw[aaB];omega⟩;rw[ade,aaD];rfl
theorem jz(T:Bl K mg)(D:MthD K "Search" "worse_run" "Search.worse_run" bJ ["self"])(g:gn P w K mg base "Search" "triples_behind" 8 2 Ix)(v:FnM P w K mg base "is_worse" 1 1 I9)(k:gn P w K mg base "Search" "run_to" 1 2 Da)(o:gn P w K mg base "Search" "met" 1 4 L6):gn P w K mg base "Search" "worse_run" 9 1 zL:=by
 refine jS D bw rfl (nN:=5) rfl (by decide) ?ar λcdv A outer s H E f Q=>⟨_,(mz' (aA 1 bw.nd mh')
   (mz' (dJ (ak gJ (mv' 1) (av bc (by rfl) T.len cq (mc' (cx T.f_Search_triples (mv' 0)) mn')) (aC _)) (mz' (aA 2 bw.nd (dq (il g (Q.mono (by decide)) (mv' 0) (mc' (vm (cx T.f_Search_triples (mv' 0)) (mv' 1)) mn'))))
   (mz' (ca (u5 T.zip (mc' (cx T.f_Search_moves (mv' 0)) (mc' (mv' 2) mn'))) (bo (n:=2) (ac (am 3 bw.nd) (ac (am 4 bw.nd) aP))) (mz' (aH (EW.pt (di (ak gJ (ae (mv' 4) mh') mh' (aC _)) (de (bG (mf' v (Q.mono (by decide)) (mc' (mv' 4) mn')))))) (aa (af (ah aK (il k (Q.mono (by decide)) (mv' 0) (mc' (mv' 1) mn')) (ag (mc' (mv' 3) mn'))))) ap)
   (aa (dG (il o (Q.mono (by decide)) (mv' 0) (mc' (mv' 4) (mc' (mv' 1) (mc' (mv' 3) mn'))))))) aaE)
   (aa (uV 1 bw.nd mh' IJ)))) aaE)
   (aa (af fq)))),?_⟩
 case ar=>intro as Kc ⟨h,r1,r2,q,rfl,_⟩;rfl
 intro as Kc hl ⟨h,r1,r2,q,rfl,G,a4,hp,hc,k1,k2⟩;refine au (MSt.mk [some (.at 0 []),none,none,none,none] [[scT h r1 r2 [] [((zer h,zer h),0)] [stT h] [none]]] 1) rfl ?_;ext s;have C0:1+pot h (nP h) [((zer h,zer h),0)]≤190001:=by
  unfold pot smL;have:(nP h-1)*(nP h+2)≤nP h*(nP h+2):=acE _ (Nat.sub_le _ _);simp;omega
 refine jf (λn m=>∃(i:Nat) (a b c:Option L2.R) (C:List Ck) (L:List (Pk×Int)) (T:List Tr) (Y:List Wy) (P:List (List Mv)),m=MSt.mk [some (.at 0 []),some (.imm (.int (i:Int))),a,b,c] [[scT h r1 r2 C L T Y]] 1/\CaOk h C/\Qv h r1 r2 (1+pot h (nP h) [((zer h,zer h),0)]) L T Y P i 0/\n=190001-i) _ ⟨0,none,none,none,[],_,_,_,_,rfl,⟨abB,λ_ z=>by cases z⟩,Qv.zero G.o,rfl⟩ ?_;intro n m F ⟨i,a,b,c,C,L,T,Y,P,rfl,X,V,hn⟩;have nT:=V.pt;have nPb:nP h≤190000:=aaw (Nat.le_mul_of_pos_right _ (afM _)) hp;ext s;refine⟨T.map trD,oa T,?_⟩;rw[iO];ext s;refine bm (λz=>?_) (λz=>?_)
 .have hi:i<T.length:=by omega
  let⟨t,U⟩:∃t,T[i]?=some t:=⟨_,lD hi⟩;let⟨p,y,kp,rfl⟩:=V.here U;have S:=g9 G.o G.k1 G.k2 G.n1 G.n2 (zJ (r1:=r1) (r2:=r2) kp);let⟨i1,i2⟩:=B7 (f:=trD) U;ext s;refine uQ (p:=[6]) rfl rfl i1 i2 ?_;rw[show ∀j,gm 0 [6] j (trD (wlk h r1 r2 p)) = .imm (trD (wlk h r1 r2 p))from λ_=>rfl];ext s;refine⟨h,r1,r2,C,L,T,Y,wlk h r1 r2 p,rfl,G,a4,X,S.1,S.2,λB X1=>?_⟩;ext x;refine⟨false,_,false,_,rfl,rfl,?_⟩;refine bU (λj m=>∃(b c:Option L2.R) (L:List (Pk×Int)) (T:List Tr) (Y:List Wy) (P:List (List Mv)),m=MSt.mk [some (.at 0 []),some (.imm (.int (i:Int))),some (.imm (.list ((mvs h).map λm=>trD (bth h r1 r2 (wlk h r1 r2 p) m)))),b,c] [[scT h r1 r2 B L T Y]] 1/\Qv h r1 r2 (1+pot h (nP h) [((zer h,zer h),0)]) L T Y P i j/\P[i]?=some p) ⟨b,c,L,T,Y,P,rfl,V,y⟩ ?_ ?_
  .clear V y i1 i2 U hi z nT;intro j d m e F ⟨b,c,L,T,Y,P,rfl,V,y⟩ D1 J W;let⟨x1,x2,e1,e2,rfl⟩:=uU e;let⟨mv,I,rfl,hj⟩:=gmap e1;let⟨mv',N,rfl,hj'⟩:=gmap e2;rw[I]at N;cases N;have O:=(eF (h:=h) (r1:=r1) (r2:=r2) (R:=p) (m:=mv)).symm;have LB:=mi G.o G.k1 G.k2 G.n1 G.n2 S (GT I);generalize bth h r1 r2 (wlk h r1 r2 p) mv=u at *;have nT:=V.pt;have nY:=V.ly;have nP:=V.lt;have nL:=V.dk.len;ext s
   .rfl
   refine lG (x_gM (lG (x_gM (Bp ?_))));ext n;refine oY (Ut ?_);refine x_JT (λc m=>c=bad u/\m=MSt.mk [some (.at 0 []),some (.imm (.int (i:Int))),some (.imm (.list ((mvs h).map λm=>trD (bth h r1 r2 (wlk h r1 r2 p) m)))),some (.imm mv.d),some (.imm (trD u))] [[scT h r1 r2 B L T Y]] 1) (λK' hK=>?_) ?_
   .rw[show trD u = .tuple [lnD u.1,lnD u.2.1,.int u.2.2]from rfl];ext s;refine bm (λz=>?_) (λz=>?_)
    .exact hK _ _ ⟨by unfold bad;rw[decide_eq_true z];rfl,rfl⟩
    .ext s;refine⟨u,rfl,?_⟩;ext x;exact hK _ _ ⟨by unfold bad;rw[decide_eq_false z];rfl,rfl⟩
   .rintro c m ⟨rfl,rfl⟩
    cases hb:bad u with
    |true=>
     ext s;refine⟨h,r1,r2,B,L,T,Y,P,i,p,rfl,⟨V.ly,V.wy⟩,by omega,y,?_⟩;ext x;have dp:=V.dep i p y;have iP:=(AD.mp y).1;refine ku (by rw[iO,aak];show p.length+1≤_;omega) ?_;have R1:=k1 (p++[mv]) B L T Y (kp.snoc (GT I)) (by rw[<-O];exact hb) (by rw[aan];exact V.min y);rw[aaD]at R1;exact W _ _ R1
    |false=>
     ext s;refine⟨h,r1,r2,B,L,T,Y,u,some (i,mv),(i:Int),mv.d,rfl,rfl,G.o,V.dk.ln,LB.1,LB.2,by omega,by omega,by omega,λhv=>?_,λw ew hw=>?_⟩
     .ext x;exact J _ ⟨_,_,_,_,_,_,rfl,V.new G.o G.k1 G.k2 G.n1 G.n2 y I O hb hv,dE y⟩
     .ext x;exact J _ ⟨_,_,_,_,_,_,rfl,V.old y I (by rw[<-O];exact hb) (by rw[<-O];exact QC ew hw rfl),y⟩
  .rintro m F ⟨b,c,L,T,Y,P,rfl,V,y⟩;ext n;refine NU (i:Int) rfl ?_;ext s;refine⟨1,rfl,?_⟩;ext n;have e0:(zipD ((mvs h).map Mv.d) ((mvs h).map λm=>trD (bth h r1 r2 (wlk h r1 r2 p) m))).length=(mvs h).length:=by rw[d9,iO,iO];exact agM _
   rw[e0]at V;have iP:=(AD.mp y).1;have n1:=V.pt;have n2:=V.lt;exact⟨190001-(i+1),by omega,i+1,_,b,c,B,L,T,Y,P,rfl,X1,V.next,rfl⟩
 .ext s;refine k2 C L T Y (λR kR=>(V.done (by omega) kR).1) V.dk (V.keys (hc λR kR=>(V.done (by omega) kR).1)) λZ pZ=>⟨V.nvr (by omega) pZ,λt ht=>SN V.dk (λx hx=>?_) t (pZ.mem_iff.mp ht)⟩;have v1:=V.vt _ (V.dl x hx);have v2:=V.dk.len;dsimp only at v1;omega
theorem oI(T:Bl K mg)(D:MthD K "Search" "paper" "Search.paper" cc ["self"]):gn P w K mg base "Search" "paper" 1 1 CK:=by
 refine jS D oA rfl (nN:=1) rfl (by decide) ?ar λv A outer s H E f x=>⟨_,(aa (af (cz c8 (by rfl) T.tuple c6 (mc' (bP (own:=["x","y","lead"]) (fr:=[]) (ps:=[]) (sc:=(ab cc)) (by exact⟨rfl,by decide +kernel,by decide +kernel,by decide +kernel,by decide +kernel⟩) (bp (dq (Bw x.units T.sorted (cx T.f_Search_leads (mv' 0))))) (λ_ _ _ _ _=>(bo (n:=2) (ac (bo (n:=2) (ac (am 0 (show aaS ((["x","y","lead"]:List Str)++([]:List Str))from by decide +kernel)) (ac (am 1 (show aaS ((["x","y","lead"]:List Str)++([]:List Str))from by decide +kernel)) aP))) (ac (am 2 (show aaS ((["x","y","lead"]:List Str)++([]:List Str))from by decide +kernel)) aP)))) (λ_ _ _ _ _=>bH) (λ_ _ _ _ _=>(ag (mc' (mv' 0) (mc' (mv' 1) (mc' (mv' 2) mn')))))) mn')))),?_⟩
 case ar=>intro B y ⟨h,r1,j,C,L,T,Y,rfl,_⟩;rfl
 intro B y I ⟨h,r1,j,C,L,T,Y,rfl,o,D,n,k⟩;have g:kyA (ldD L)=true:=yM o D.ln;refine au (MSt.mk [some (.at 0 [])] [[scT h r1 j C L T Y]] 1) rfl ?_;ext s;refine qZ rfl g ⟨ldD L,⟨rfl,rfl⟩,.inr g,SK o D n,λz t G=>?_⟩;rw[Jd]at t;let⟨u,p,rfl⟩:=Cw t.symm rfl;ext s;refine bU (λi m=>∃a b c:Option L2.R,m=MSt.mk [a,b,c] [[scT h r1 j C L T Y],(ldT (u.take i)).map trD] 2) ⟨none,none,none,rfl⟩ ?_ ?_
 .rintro i d m e hnp ⟨a,b,c,rfl⟩ D1 hD1 hR1;let⟨q,eq,rfl,F⟩:=gmap e;unfold itL pkD;ext s
  .rfl
  ext s
  .rfl
  ext s;ext n;have J:u.length<64:=by rw[p.length_eq];exact n
  refine⟨_,rfl,by unfold ldT;rw[iO,iO,aaC,aak];omega,hD1 _ ⟨some (.imm (lnD q.1.1)),some (.imm (lnD q.1.2)),some (.imm (.int q.2)),?_⟩⟩;rw[aaJ,eq];unfold ldT;rw[aaD,aaD];rfl
 .rintro m hnp ⟨a,b,c,rfl⟩;ext s;rw[iO,aau];exact k _ (p.map _)
theorem jV(T:Bl K mg)(D:IniD K mg "Search" "Search.__init__" bV ["self","hall","one","other"])(b:FnM P w K mg base "all_moves" 2 1 jG)(G:FnM P w K mg base "first_triple" 2 1 Ij)(a:gn P w K mg base "Search" "met" 1 4 L6):Bq P w K mg base "Search" 3 3 CB:=by
 refine Lr D jU rfl (nN:=4) rfl (by decide) ?ar λi A outer s H E f e=>⟨_,_,(ja T.f_Search_hall (mv' 1) (ja T.f_Search_rules (ag (mc' (mv' 2) (mc' (mv' 3) mn'))) (ja T.f_Search_moves (dq (mf' b (e.mono (by decide)) (mc' (mv' 1) mn'))) (ja T.f_Search_steps qE (ja T.f_Search_leads qE (ja T.f_Search_triples (cg mn') (ja T.f_Search_ways (cg mn') (DA (aa (dG (il a (e.mono (by decide)) (mv' 0) (mc' (mf' G (e.mono (by decide)) (mc' (mv' 1) mn')) (mc' (ia dW mh') (mc' fq mn')))))))))))))),⟨by rfl,by decide⟩,?_⟩
 case ar=>intro ds m ⟨h,r1,d,rfl,_⟩;rfl
 intro ds m o ⟨h,r1,d,rfl,c,k⟩;refine Ou (MSt.mk [none,some (.imm h.d),some (.imm r1.d),some (.imm d.d)] [] 0) rfl ?_;ext s;refine⟨h,rfl,c,?_⟩;ext x;refine⟨h,rfl,c,?_⟩;ext x;have g:=(ic c r1).ln;refine⟨h,r1,d,[],[],[],[],stT h,none,-1,.none,rfl,rfl,c,(λ_ z=>by cases z),g,g,by decide,by decide,by decide,λn=>?_,λw j=>by cases j⟩;ext x;exact⟨_,rfl,k⟩
theorem qF(T:Bl K mg)(D:DefM K mg "never_worse" h8 ["hall","one","other"])(d:FnM P w K mg base "refuse_turns" 1 2 Jn)(b:Bq P w K mg base "Search" 3 3 CB)(a:gn P w K mg base "Search" "worse_run" 9 1 zL)(e:gn P w K mg base "Search" "paper" 1 1 CK):FnM P w K mg base "never_worse" 10 3 yW:=by
 refine bh D fZ rfl (nN:=5) rfl (by decide) ?ar λo A outer s H E f i=>⟨_,(mz' (dG (mf' d (i.mono (by decide)) (mc' (mv' 1) (mc' (mv' 2) mn'))))
   (mz' (aA 3 fZ.nd (DH b (i.mono (by decide)) (mc' (mv' 0) (mc' (mv' 1) (mc' (mv' 2) mn')))))
   (mz' (aA 4 fZ.nd (t7 a (i.mono (by decide)) (mv' 3)))
   (mz' (aH (ak pp (mv' 4) fq (aC _)) (aa (af (ag (mc' ai (mc' (mv' 4) mn'))))) ap)
   (aa (af (ag (mc' ai (mc' (t7 e (i.mono (by decide)) (mv' 3)) mn'))))))))),?_⟩
 case ar=>intro t q ⟨h,r1,g,rfl,_⟩;rfl
 intro t q F ⟨h,r1,g,rfl,G,y,x,u,k1,k2⟩;refine au (MSt.mk [some (.imm h.d),some (.imm r1.d),some (.imm g.d),none,none] [] 0) rfl ?_;ext s;refine⟨r1,g,rfl,G.n1,G.n2,?_⟩;ext x;refine⟨h,r1,g,rfl,G.o,?_⟩;ext s;ext n;refine y8 rfl (by decide) ?_;refine⟨h,r1,g,63,rfl,G,y,x,u,λR C n m Y v z B=>?_,λC n m Y S D l Z=>?_⟩
 .ext x;rw[if_pos (c:=(!jj (L2.R.imm (.tuple (R.map Mv.d))))=true) rfl];ext s;exact k1 R v z B
 .ext x;rw[if_neg (by decide)];ext s;refine⟨h,r1,g,C,n,m,Y,rfl,G.o,D,by omega,λj p=>?_⟩;ext x;have k:=p.length_eq;unfold ldT at k;rw[iO]at k;exact k2 j S (Z j p).1 (Z j p).2 (by omega)
def u6(T:Bl K mg)(D:DefM K mg "_law_tape" jO ["_law_script"]):FnM P w K mg base "_law_tape" 1 1 BG:=by
 refine bh D vf rfl (nN:=1) rfl (by decide) ?ar λc A outer s H E f g=>⟨_,(aa (af (D8 (lW ai (dq (c5 f7 (mv' 0) fg (dh mh'))) (lW ai mh' (lW ai mh' GA)))))),?_⟩
 case ar=>intro b d ⟨ns,rfl,_⟩;rfl
 intro b d i ⟨ns,rfl,a,k⟩;refine au (MSt.mk [some (.imm (.list (ns.map .int)))] [] 0) rfl ?_;ext s;have e:cutD (ns.map abu) none (some 63)=ns.map .int:=FI (n:=63) (by rw[iO];exact a);rw[e];exact k _ ⟨ns,0,0,rfl,a,by omega,by omega,by omega⟩
theorem vp(T:Bl K mg)(D:DefM K mg "_law_draw" kh ["_law_tape_here","_law_many"]):FnM P w K mg base "_law_draw" 1 2 uX:=by
 refine bh D cN rfl (nN:=6) rfl (by decide) ?ar λF A outer s H E f d=>⟨_,(mz' (aH (ak jD (g6 d.units (mv' 0) ai) mh' (aC _)) (mz' (aA 2 cN.nd (ah gj (g6 d.units (mv' 0) ai) (mv' 1)))
   (mz' (rh d.units (ah ib (g6 d.units (mv' 0) ai) (mv' 1)) (mv' 0) ai)
   (aa (af (mv' 2))))) ap)
   (mz' (aA 3 cN.nd (g6 d.units (mv' 0) ai))
   (mz' (rh d.units (ah aK (mv' 3) mh') (mv' 0) ai)
   (mz' (aA 4 cN.nd (ah bT mh' (mv' 3)))
   (mz' (aH (ak (iL d.units) (g6 d.units (mv' 0) ai) (cg mn') (aC _)) (aa (aA 4 cN.nd (ae (g6 d.units (mv' 0) ai) (ah gj (mv' 3) (av bc (by rfl) T.len cq (mc' (g6 d.units (mv' 0) ai) mn')))))) ap)
   (mz' (aH (EW.pt (i8 (ak Bo (mv' 4) (ah Nh mh' mh') (aC _)) (ig (ak gJ (mv' 3) (av bc (by rfl) T.len cq (mc' (g6 d.units (mv' 0) ai) mn')) (aC _))))) (mz' (rh d.units (ah ib (mv' 4) (mv' 1)) (mv' 0) ai)
   (aa (af (ah gj (mv' 4) (mv' 1))))) ap)
   (mz' (aA 5 cN.nd (ah gj (ah bT (ah aK (ah aK (ah gj (mv' 4) mh') (ah bT mh' (mv' 3))) mh') mh') mh'))
   (mz' (aA 5 cN.nd (ah gj (ah bT (ah aK (ah aK (ah ib (mv' 5) mh') (ah bT mh' (mv' 3))) mh') mh') mh'))
   (aa (af (ah gj (ah ib (mv' 5) mh') (mv' 1)))))))))))),?_⟩
 case ar=>intro I z ⟨ds,m,c,rfl,_⟩;rfl
 intro I z O ⟨ds,m,c,rfl,⟨ns,p,q,rfl,B,u,N,n⟩,Q,e,J,k⟩;refine au (MSt.mk [some (.at 0 []),some (.imm (.int m)),none,none,none,none] [[Lh ns p q]] 1) rfl ?_;ext s;refine bm (λh=>?_) (λh=>?_)
 .ext s;exact k _ _ (adP _ (by omega)) (ac3 _ e) ⟨ns,p,q/m,rfl,B,u,by omega,afV n (by omega)⟩
 .ext s;have b:∀x:Int,0≤x->x<m->∀t:Int,0≤t->z (.imm (.int x)) [[Lh ns (p+1) t]]:=λx g o t G=>k _ _ g o ⟨ns,p+1,t,rfl,B,by omega,by omega,G⟩;have a:∀y:Int,0≤y/64%m/\y/64%m<m:=λy=>⟨adP _ (by omega),ac3 _ e⟩
  cases ns with
  | nil=>
   refine x_ne rfl rfl rfl rfl ?_;ext s;refine jw ?_;ext s;refine bm (λg=>?_) (λg=>?_)
   .ext s;refine bm (λo=>?_) (λo=>?_)
    .ext s;exact b _ (adP _ (by omega)) (ac3 _ e) _ (afV (ad8 (by decide) g) (by omega))
    .ext s;exact b _ (a _).1 (a _).2 _ n
   .ext s;exact b _ (a _).1 (a _).2 _ n
  | cons v ns=>
   refine x_ne rfl rfl (u3 _) rfl ?_;ext s;refine jy ?_;ext s;have j:(0:Int)<((List.map abu (v::ns)).length:Int):=by simp only[iO,aaB];omega
   refine Jp j ?_;let⟨x,C⟩:=D3 (ns:=v::ns) (i:=p%((List.map abu (v::ns)).length:Int)) (adP _ (by omega)) (by have:=ac3 p j;simp only[iO]at this⊢;exact this);refine CC C ?_;ext s;refine bm (λg=>?_) (λg=>?_)
   .ext s;refine bm (λo=>?_) (λo=>?_)
    .ext s;exact b _ (adP _ (by omega)) (ac3 _ e) _ (afV (ad8 (by decide) g) (by omega))
    .ext s;exact b _ (a _).1 (a _).2 _ n
   .ext s;exact b _ (a _).1 (a _).2 _ n
def uy(T:Bl K mg)(D:DefM K mg "_law_frac" j7 ["_law_top","_law_bottom"]):FnM P w K mg base "_law_frac" 1 2 Tu:=by
 refine bh D jd rfl (nN:=4) rfl (by decide) ?ar λp A outer s H E f F=>⟨_,(mz' (jg (i:=2) (j:=3) jd.nd rfl rfl (by decide) rfl rfl (mc' (mv' 0) (mc' (mv' 1) mn')) rfl)
   (mz' (dJ (ak jD (mv' 3) mh' (aC _)) (aa (jg (i:=2) (j:=3) jd.nd rfl rfl (by decide) rfl rfl (mc' (mv' 3) (mc' (ah gj (mv' 2) (mv' 3)) mn')) rfl)) aaE)
   (aa (af (ag (mc' (ah ib (mv' 0) (mv' 2)) (mc' (ah ib (mv' 1) (mv' 2)) mn'))))))),?_⟩
 case ar=>intro C v ⟨a,b,rfl,_⟩;rfl
 intro C v G ⟨a,b,rfl,u,e,q,k⟩;refine au (MSt.mk [some (.imm (.int a)),some (.imm (.int b)),none,none] [] 0) rfl ?_;ext s;refine jf (λn m=>∃x y:Nat,m=MSt.mk [some (.imm (.int a)),some (.imm (.int b)),some (.imm (.int x)),some (.imm (.int y))] [] 0/\x.gcd y=a.gcd b/\x<1000000000/\y<1000000000/\n=y) b ⟨a,b,rfl,rfl,u,q,rfl⟩ ?_;intro n m J ⟨x,y,rfl,c,B,d,rfl⟩;ext s;refine bm (λg=>?_) (λI=>?_)
 .ext s;have o:0<n:=by omega
  have z:=ahi x o;exact⟨x%n,z,n,x%n,rfl,by rw[Nat.gcd_comm,<-Nat.gcd_rec,Nat.gcd_comm,c],d,by omega,rfl⟩
 .have hy0:n=0:=by omega
  subst hy0;rw[Nat.gcd_zero_right]at c;have t:0<x:=by rw[c];exact afj _ e
  ext s;ext s;rw[c];exact k
theorem kL(T:Bl K mg)(D:DefM K mg "_law_all_lines" cY ["_law_rooms"]):FnM P w K mg base "_law_all_lines" 1 1 lg:=by
 refine bh D bW rfl (nN:=5) rfl (by decide) ?ar λG A outer s H E f v=>⟨_,(mz' (aA 1 bW.nd (cg (mc' (ag mn') mn')))
   (mz' (ca (bp (mv' 0)) (am 2 bW.nd) (mz' (aA 3 bW.nd (cg mn'))
   (mz' (ca (bp (mv' 1)) (lc (i:=4) bW.nd rfl (adv rfl)) (aa (dG (mQ afm afn p7 (mv' 3) (mc' (bP (own:=["_law_k"]) (fr:=["_law_lines"]) (ps:=[4]) (sc:=(ab cY)) (by exact⟨rfl,by decide +kernel,by decide +kernel,by decide +kernel,by decide +kernel⟩) (cb (by rfl) T.range (mc' (ah aK (mv' 2) mh') mn')) (λ_ _ _ _ _=>(am 0 (show aaS ((["_law_k"]:List Str)++(["_law_lines"]:List Str))from by decide +kernel))) (λ_ _ _ _ _=>bH) (λ_ _ _ _ _=>(ah aK (mv' 1) (ag (mc' (mv' 0) mn'))))) mn')))) aaE)
   (aa (aA 1 bW.nd (mv' 3))))) aaE)
   (aa (af (mv' 1))))),?_⟩
 case ar=>intro O J ⟨rs,rfl,_⟩;rfl
 intro O J U ⟨rs,rfl,V,B,k⟩;refine au (MSt.mk [some (.imm (.list (rs.map λ(r:Nat)=>.int (r:Int)))),none,none,none,none] [] 0) rfl ?_;ext c;refine d8 (λi m=>∃a c,m=MSt.mk [some (.imm (.list (rs.map λ(r:Nat)=>.int (r:Int)))),some (.obj 0),a,none,c] [(((rs.take i).foldl M3.stepL [[]]).map lnD)] 0) ⟨none,none,rfl⟩ ?_ ?_
 .rintro i d m e n ⟨a,c,rfl⟩;let⟨r,C,rfl,R⟩:=gmap e;have r6:=B r (GT C);generalize g:(rs.take i).foldl M3.stepL [[]]=p;have t:∀a∈p,a.length≤4:=by
   intro a x;rw[<-g]at x;have:=M3.allR_len (by rw[<-M3.allL_eq];exact x);rw[this,aaC];omega
  have I:p.length≤2401:=by
   rw[<-g];exact M3.fold_small (by rw[aaC];omega) (λr v=>B r (ace v))
  have o:((rs.take (i+1)).foldl M3.stepL [[]])=M3.stepL p r:=by
   rw[aaJ,C,agS,g];rfl
  rw[o];ext c;refine fy (λi m=>∃a,m=MSt.mk [some (.imm (.list (rs.map λ(r:Nat)=>.int (r:Int)))),some (.obj 0),some (.imm (.int r)),some (.obj 1),a] [p.map lnD,(M3.stepL (p.take i) r).map lnD] 1) ⟨c,rfl⟩ ?_ ?_ ?_
  .rintro j m ⟨a,rfl⟩;rfl
  .rintro j d m ej nj ⟨a,rfl⟩;let⟨l,u,rfl,S⟩:=gmap ej;have Q:=t l (GT u);ext s;refine⟨by omega,by omega,?_⟩;have N:((r:Int)+1).toNat=r+1:=by omega
   rw[N];ext n;refine d8 (λz m=>∃b,m=MSt.mk [b,some (.imm (lnD l))] [p.map lnD,(M3.stepL (p.take j) r).map lnD,((aax z).map λy=>l++[y]).map lnD] 3) ⟨none,rfl⟩ ?_ ?_
   .rintro z dz m ez nz ⟨b,rfl⟩;let⟨F,rfl⟩:=cw ez;ext s;refine ku (by rw[aak,bj];simp;omega) ?_;ext s;refine⟨_,rfl,by rw[aak];simp;omega,some (.imm (.int (0+(z:Int)))),?_⟩;have q:((aax (z+1)).map λy=>l++[y]).map lnD=((aax z).map λy=>l++[y]).map lnD++[.tuple (natD l++[.int (0+(z:Int))])]:=by
     rw[ab2];simp[lnD,natD]
    rw[q];rfl
   .rintro m n ⟨b,rfl⟩;rw[aV];ext s;have F:((M3.stepL (p.take j) r).map lnD).length+(((aax (r+1)).map λy=>l++[y]).map lnD).length≤aal:=by
     rw[aak,iO,iO,iO,aaW,M3.stepL_length,aaC];have:min j p.length*(r+1)≤2401*7:=abC (by omega) (by omega);omega
    refine' xw (ds:=(M3.stepL (p.take j) r).map lnD) ?eb F ?_
    case eb=>rfl
    have q:(M3.stepL (p.take (j+1)) r).map lnD=(M3.stepL (p.take j) r).map lnD++((aax (r+1)).map λy=>l++[y]).map lnD:=by
     rw[M3.stepL_take u,aaD]
    rw[q];exact⟨_,rfl⟩
  .rintro m n ⟨a,rfl⟩;rw[iO,aau];ext n;refine JJ ?_;refine FH rfl ?_;refine og [1] (MSt.mk [some (.imm (.list (rs.map λ(r:Nat)=>.int (r:Int)))),some (.obj 0),some (.imm (.int r)),none,none] [(M3.stepL p r).map lnD] 0) (B5 rfl rfl rfl rfl rfl rfl ⟨rfl,⟨1,rfl,rfl⟩,rfl,trivial,trivial,trivial⟩) ⟨_,_,rfl⟩
 .rintro m n ⟨a,c,rfl⟩;rw[iO,aau,show rs.foldl M3.stepL [[]]=M3.allL rs from rfl,M3.allL_eq];ext s;exact k
theorem uO(T:Bl K mg)(D:DefM K mg "_law_hall" cA ["_law_tape_here","_law_most"])(G:FnM P w K mg base "_law_draw" 1 2 uX)(v:FnM P w K mg base "_law_frac" 1 2 Tu)(u:FnM P w K mg base "_law_all_lines" 1 1 lg):FnM P w K mg base "_law_hall" 3 2 vN:=by
 refine bh D cf rfl (nN:=7) rfl (by decide) ?ar λcdv A outer s H E f B=>⟨_,(mz' (aA 2 cf.nd (ae (cg (mc' mh' (mc' mh' (mc' mh' (mc' mh' (mc' mh' (mc' mh' (mc' mh' (mc' mh' mn'))))))))) (mf' G (B.mono (by decide)) (mc' (mv' 0) (mc' mh' mn')))))
   (mz' (gL (i:=3) (own:=["_law_k"]) (fr:=["_law_tape_here"]) (ps:=[0]) (sc:=(ab cA)) (by exact⟨rfl,by decide +kernel,by decide +kernel,by decide +kernel,by decide +kernel⟩) cf.nd rfl rfl (cb (by rfl) T.range (mc' (mv' 2) mn')) (λ_ _ _ _ _=>(am 0 (show aaS ((["_law_k"]:List Str)++(["_law_tape_here"]:List Str))from by decide +kernel))) (λ_ _ _ _ _=>bH) (λ_ _ _ _ _=>(ag (mc' (ah aK mh' (mf' G (B.mono (by decide)) (mc' (mv' 1) (mc' mh' mn')))) (mc' (ah aK mh' (mf' G (B.mono (by decide)) (mc' (mv' 1) (mc' mh' mn')))) mn')))))
   (mz' (aH (ak (bF B.units) (mf' G (B.mono (by decide)) (mc' (mv' 0) (mc' mh' mn'))) mh' (aC _)) (aa (aA 3 cf.nd (ah bT (cg (mc' (ae (mv' 3) mh') mn')) (mv' 2)))) ap)
   (mz' (dJ (ak jD (av bc (by rfl) T.len cq (mc' (mf' u (B.mono (by decide)) (mc' (dq (bP (own:=["_law_top","_law_room"]) (fr:=[]) (ps:=[]) (sc:=(ab cA)) (by exact⟨rfl,by decide +kernel,by decide +kernel,by decide +kernel,by decide +kernel⟩) (bp (mv' 3)) (λ_ _ _ _ _=>(bo (n:=2) (ac (am 0 (show aaS ((["_law_top","_law_room"]:List Str)++([]:List Str))from by decide +kernel)) (ac (am 1 (show aaS ((["_law_top","_law_room"]:List Str)++([]:List Str))from by decide +kernel)) aP)))) (λ_ _ _ _ _=>bH) (λ_ _ _ _ _=>(mv' 1)))) mn')) mn')) (mv' 1) (aC _)) (mz' (aH (ak (bF B.units) (av (fH rfl) (by rfl) T.max pK (mc' (bP (own:=["_law_top","_law_room"]) (fr:=[]) (ps:=[]) (sc:=(ab cA)) (by exact⟨rfl,by decide +kernel,by decide +kernel,by decide +kernel,by decide +kernel⟩) (bp (mv' 3)) (λ_ _ _ _ _=>(bo (n:=2) (ac (am 0 (show aaS ((["_law_top","_law_room"]:List Str)++([]:List Str))from by decide +kernel)) (ac (am 1 (show aaS ((["_law_top","_law_room"]:List Str)++([]:List Str))from by decide +kernel)) aP)))) (λ_ _ _ _ _=>bH) (λ_ _ _ _ _=>(mv' 1))) mn')) mh' (aC _)) (aa (aA 3 cf.nd (c5 f7 (mv' 3) (dh mh') fg))) ap)
   (aa (gL (i:=3) (own:=["_law_top","_law_room"]) (fr:=[]) (ps:=[]) (sc:=(ab cA)) (by exact⟨rfl,by decide +kernel,by decide +kernel,by decide +kernel,by decide +kernel⟩) cf.nd rfl rfl (bp (mv' 3)) (λ_ _ _ _ _=>(bo (n:=2) (ac (am 0 (show aaS ((["_law_top","_law_room"]:List Str)++([]:List Str))from by decide +kernel)) (ac (am 1 (show aaS ((["_law_top","_law_room"]:List Str)++([]:List Str))from by decide +kernel)) aP)))) (λ_ _ _ _ _=>bH) (λ_ _ _ _ _=>(ag (mc' (mv' 0) (mc' (av (AM rfl) (by rfl) T.max pK (mc' mh' (mc' (ah CP (mv' 1) mh') mn'))) mn'))))))) aaE)
   (mz' (aA 4 cf.nd (ah aK mh' (mf' G (B.mono (by decide)) (mc' (mv' 0) (mc' mh' mn')))))
   (mz' (re (i:=5) cf.nd rfl (adv rfl) (ah aK (ah aK (mv' 4) (av (Ca rfl) (by rfl) T.sum tx (mc' (bP (own:=["_law_top","_law_room"]) (fr:=[]) (ps:=[]) (sc:=(ab cA)) (by exact⟨rfl,by decide +kernel,by decide +kernel,by decide +kernel,by decide +kernel⟩) (bp (mv' 3)) (λ_ _ _ _ _=>(bo (n:=2) (ac (am 0 (show aaS ((["_law_top","_law_room"]:List Str)++([]:List Str))from by decide +kernel)) (ac (am 1 (show aaS ((["_law_top","_law_room"]:List Str)++([]:List Str))from by decide +kernel)) aP)))) (λ_ _ _ _ _=>bH) (λ_ _ _ _ _=>(mv' 0))) mn'))) (ae (cg (mc' mh' (mc' mh' (mc' mh' (mc' mh' (mc' mh' mn')))))) (mf' G (B.mono (by decide)) (mc' (mv' 0) (mc' mh' mn'))))))
   (mz' (aA 6 cf.nd (cz c8 (by rfl) T.tuple c6 (mc' (bP (own:=["_law_top","_law_room"]) (fr:=["_law_whole"]) (ps:=[5]) (sc:=(ab cA)) (by exact⟨rfl,by decide +kernel,by decide +kernel,by decide +kernel,by decide +kernel⟩) (bp (mv' 3)) (λ_ _ _ _ _=>(bo (n:=2) (ac (am 0 (show aaS ((["_law_top","_law_room"]:List Str)++(["_law_whole"]:List Str))from by decide +kernel)) (ac (am 1 (show aaS ((["_law_top","_law_room"]:List Str)++(["_law_whole"]:List Str))from by decide +kernel)) aP)))) (λ_ _ _ _ _=>bH) (λ_ _ _ _ _=>(ag (mc' (mf' v (B.mono (by decide)) (mc' (mv' 0) (mc' (mv' 2) mn'))) (mc' (mv' 1) mn'))))) mn')))
   (aa (af (ag (mc' (mf' v (B.mono (by decide)) (mc' (mv' 4) (mc' (mv' 5) mn'))) (mc' (mv' 6) (mc' (c9 (bF B.units) (mf' G (B.mono (by decide)) (mc' (mv' 0) (mc' mh' mn'))) mh' (aC _)) mn'))))))))))))),?_⟩
 case ar=>intro as Kc ⟨t,c,mo,rfl,_⟩;rfl
 intro as Kc hl ⟨t,c,mo,rfl,y,hc,hmo,k⟩;refine au (MSt.mk [some (.at 0 []),some (.imm (.int (mo:Int))),none,none,none,none,none] [[t]] 1) rfl ?_;ext s;refine⟨t,_,_,rfl,y,by omega,by omega,by omega,λq t R V y=>?_⟩;let⟨n,hn1,hn4,en⟩:∃n:Nat,1≤n/\n≤4/\atI [abu 2,.int 2,.int 3,.int 1,.int 2,.int 3,.int 2,.int 4] q=some (.int (n:Int)):=by
  have:q=0\/q=1\/q=2\/q=3\/q=4\/q=5\/q=6\/q=7:=by omega
  rcases this with rfl|rfl|rfl|rfl|rfl|rfl|rfl|rfl
  .exact⟨2,by decide,by decide,rfl⟩
  .exact⟨2,by decide,by decide,rfl⟩
  .exact⟨3,by decide,by decide,rfl⟩
  .exact⟨1,by decide,by decide,rfl⟩
  .exact⟨2,by decide,by decide,rfl⟩
  .exact⟨3,by decide,by decide,rfl⟩
  .exact⟨2,by decide,by decide,rfl⟩
  .exact⟨4,by decide,by decide,rfl⟩
 ext n;refine rg en ?_;ext s;ext d;ext n;refine d8 (λi m=>∃a t ps,m=MSt.mk [a,some (.at 0 [])] [[t],ps.map prD] 2/\TapeK (c+1+2*i) t/\ps.length=i/\∀p∈ps,1≤p.1/\p.1≤3/\1≤p.2/\p.2≤4) ⟨none,t,[],rfl,y,rfl,λ_ h=>by cases h⟩ ?_ ?_
 .rintro i d m e X ⟨a,t,ps,rfl,y,O,U⟩;let⟨hi,rfl⟩:=cw e;ext s;refine⟨t,_,c+1+2*i,rfl,y,by omega,by omega,by omega,λZ t R V y=>?_⟩;ext x;refine⟨t,_,c+1+2*i+1,rfl,y,by omega,by omega,by omega,λq2 t hq2 hq3 y=>?_⟩;ext x;let⟨Z,rfl⟩:=acU R;let⟨q2,rfl⟩:=acU hq2;refine⟨_,rfl,by rw[aak,iO];omega,some (.imm (.int (0+(i:Int)))),t,ps++[(1+Z,1+q2)],?_,y.mono (by omega),by simp[O],λp F=>?_⟩
  .rw[aaD];rfl
  .obtain h|h:=aaG.mp F
   .exact U p h
   .cases aaa.mp h
    exact⟨by show 1≤1+Z;omega,by show 1+Z≤3;omega,by show 1≤1+q2;omega,by show 1+q2≤4;omega⟩
 intro m X ⟨a,t,ps,rfl,y,O,U⟩;rw[aV]at O;have y:=y.mono (c':=c+9) (by rw[aV];omega);have g:SvK ps:=⟨by omega,by omega,U⟩;ext n;refine da ?_;ext n;refine oY ?_;refine x_JS (λm=>∃ps t,m=MSt.mk [some (.at 0 []),some (.imm (.int (mo:Int))),some (.imm (.int (n:Int))),some (.obj 1),none,none,none] [[t],ps.map prD] 1/\TapeK (c+10) t/\SvK ps) (λN J=>?_) ?_
 .ext s;refine⟨t,_,_,rfl,y,by omega,by omega,by omega,λZ t R V y=>?_⟩;ext x;refine bm (λz=>?_) (λz=>?_)
  .obtain⟨p0,o,rfl⟩:∃p0 o,ps=p0::o:=by
    cases ps with
    |nil=>simp at O;omega
    |cons p0 sp=>exact⟨p0,sp,rfl⟩
   ext s;refine AI (d:=prD p0) rfl (show atI ((p0::o).map prD) 0=some (prD p0)from bg (j:=0) (xs:=(p0::o).map prD) rfl) ?_;ext s;refine PK (by omega) (by omega) (by simp;omega) ?_;rw[aaN,zU];refine ik (k:=1) rfl (show 1≤1 by decide) (λj W=>?_) (J _ ⟨aar n p0,t,by rw[agA];rfl,y,g.rep aae hn1 hn4⟩)
   match j with
   |0|1|2|4|5|6=>exact λz=>by cases z
   |3=>exact(W rfl).elim
   |n+7=>exact λz=>by cases z
  .ext s;exact J _ ⟨ps,t,rfl,y,g⟩
 clear g O U y;intro _ ⟨ps,t,rfl,y,g⟩;refine oY ?_;refine jf (λz m=>∃ps,m=MSt.mk [some (.at 0 []),some (.imm (.int (mo:Int))),some (.imm (.int (n:Int))),some (.obj 1),none,none,none] [[t],ps.map prD] 1/\SvK ps/\z=(bA ps).sum) _ ⟨ps,rfl,g,rfl⟩ ?_;clear g;intro z m X ⟨ps,rfl,g,rfl⟩;ext s;let⟨s1,s4,_⟩:=id g;refine fy (λi m=>∃a b,m=MSt.mk [a,b] [[t],ps.map prD,(ps.take i).map J8] 3) ⟨none,none,rfl⟩ ?_ ?_ ?_
 .rintro i m ⟨a,b,rfl⟩;rfl
 .rintro i d m e hnp2 ⟨a,b,rfl⟩;let⟨p,C,rfl,hi⟩:=gmap e;have F:=g.2.2 p (GT C);rw[cZ _ C];dsimp only[prD];ext s
  .rfl
  ext s;exact⟨_,rfl,by rw[aak,iO,aaC];omega,some (.imm (.int (p.1:Int))),some (.imm (.int (p.2:Int))),rfl⟩
 intro m hm ⟨a,b,rfl⟩;rw[iO,aau,uu];ext x;refine⟨bA ps,rfl,g.six.1,g.six.2,?_⟩;ext x;rw[iO];refine bm (λhb=>?_) (λhb=>?_)
 .have hb':mo<(M3.allR (bA ps)).length:=by omega
  refine oY ?_;refine x_JS (λm=>∃o,m=MSt.mk [some (.at 0 []),some (.imm (.int (mo:Int))),some (.imm (.int (n:Int))),some (.obj 1),none,none,none] [[t],o.map prD] 1/\SvK o/\(bA (j4 o)).sum<(bA ps).sum) (λN J=>?_) ?_
  .ext s;refine fy (λi m=>∃a b,m=MSt.mk [a,b] [[t],ps.map prD,(ps.take i).map J8] 3) ⟨none,none,rfl⟩ ?_ ?_ ?_
   .rintro i m ⟨a,b,rfl⟩;rfl
   .rintro i d m e hnp2 ⟨a,b,rfl⟩;let⟨p,C,rfl,hi⟩:=gmap e;have F:=g.2.2 p (GT C);rw[cZ _ C];dsimp only[prD];ext s
    .rfl
    ext s;exact⟨_,rfl,by rw[aak,iO,aaC];omega,some (.imm (.int (p.1:Int))),some (.imm (.int (p.2:Int))),rfl⟩
   intro m hm ⟨a,b,rfl⟩;rw[iO,aau,uu];ext x;refine sf rfl (AG (bA ps)) (λz=>?_) λx hx hx2=>?_
   .have:=congrArg adg z;rw[iO,bA,iO,adN]at this;omega
   ext s;refine bm (λz=>?_) (λz=>?_)
   .ext s;have h1:∀r∈bA ps,r≤1:=λr B=>by
     have:=hx2 (r:Int) (aam.mpr ⟨r,B,rfl⟩);omega
    let⟨p,o,rfl⟩:∃p o,ps=p::o:=by
     cases ps with
     |nil=>simp at s1
     |cons p o=>exact⟨p,o,rfl⟩
    let⟨sv',dec⟩:=g.tail h1 hmo hb';rw[show cutD ((p::o).map prD) (some 1) none=o.map prD from(ju 1)];refine ik (k:=1) rfl (show 1≤1 by decide) (λj W=>?_) (J _ ⟨o,rfl,sv',dec⟩)
    match j with
    |0|1|2|4|5|6=>exact λz=>by cases z
    |3=>exact(W rfl).elim
    |n+7=>exact λz=>by cases z
   .ext s;refine J _ ⟨ps,rfl,g,?_⟩;let⟨r,B,er⟩:=aam.mp hx;let⟨p2,hp2,e2⟩:=aam.mp B;have:=(g.2.2 p2 hp2).2.2.1;exact(m8 (ps:=ps) λp F=>(g.2.2 p F).2.2.1).2 ⟨p2,hp2,by omega⟩
  intro _ ⟨o,rfl,I,hdec⟩;have s4':=I.2.1;ext s;refine fy (λi m=>∃a b,m=MSt.mk [a,b] [[t],o.map prD,(o.take i).map Tx] 3) ⟨none,none,rfl⟩ ?_ ?_ ?_
  .rintro i m ⟨a,b,rfl⟩;rfl
  .rintro i d m e hnp2 ⟨a,b,rfl⟩;let⟨p,C,rfl,hi⟩:=gmap e;have F:=I.2.2 p (GT C);rw[cZ _ C];dsimp only[prD];ext s
   .rfl
   ext s;have em:(if (p.2:Int)-1>1 then(p.2:Int)-1 else 1)=((max 1 (p.2-1):Nat):Int):=by
    split<;>omega
   rw[em];exact⟨_,rfl,by rw[aak,iO,aaC];omega,some (.imm (.int (p.1:Int))),some (.imm (.int (p.2:Int))),rfl⟩
  intro m hm ⟨a,b,rfl⟩;rw[iO,aau,zw];ext n;refine ik (k:=1) rfl (show 1≤1 by decide) (λj W=>?_) ⟨_,hdec,j4 o,rfl,GG I,rfl⟩
  match j with
  |0|1|2|4|5|6=>exact λz=>by cases z
  |3=>exact(W rfl).elim
  |n+7=>exact λz=>by cases z
 .ext s;refine⟨t,_,_,rfl,y,by omega,by omega,by omega,λQ t hc0 hc1 y=>?_⟩;let⟨Q,rfl⟩:=acU hc0;ext x;refine fy (λi m=>∃a b,m=MSt.mk [a,b] [[t],ps.map prD,(ps.take i).map topD] 3) ⟨none,none,rfl⟩ ?_ ?_ ?_
  .rintro i m ⟨a,b,rfl⟩;rfl
  .rintro i d m e hnp2 ⟨a,b,rfl⟩;let⟨p,C,rfl,hi⟩:=gmap e;have F:=g.2.2 p (GT C);rw[cZ _ C];dsimp only[prD];ext s
   .rfl
   ext s;exact⟨_,rfl,by rw[aak,iO,aaC];omega,some (.imm (.int (p.1:Int))),some (.imm (.int (p.2:Int))),rfl⟩
  intro m hm ⟨a,b,rfl⟩;rw[iO,aau,Du];ext x;refine⟨_,_,rfl,AG (vz ps),?_⟩;rw[sumK];have hsum:(vz ps).sum≤12:=by
   have:=x9 (ps:=ps) λp F=>(g.2.2 p F).2.1;omega
  generalize (vz ps).sum=S at hsum;ext s;refine⟨t,_,_,rfl,y,by omega,by omega,by omega,λq t R V y=>?_⟩;let⟨Y,hmr,emr⟩:∃Y:Nat,Y≤40/\atI [abu 0,.int 0,.int 1,.int 7,.int 40] q=some (.int (Y:Int)):=by
   have:q=0\/q=1\/q=2\/q=3\/q=4:=by omega
   rcases this with rfl|rfl|rfl|rfl|rfl
   .exact⟨0,by decide,rfl⟩
   .exact⟨0,by decide,rfl⟩
   .exact⟨1,by decide,rfl⟩
   .exact⟨7,by decide,rfl⟩
   .exact⟨40,by decide,rfl⟩
  ext n;refine rg emr ?_;ext s;let⟨wh,ewh,hw1,hw2⟩:∃wh:Nat,(1+(Q:Int)+(S:Int)+(Y:Int))=(wh:Int)/\1≤wh/\wh<1000:=⟨1+Q+S+Y,by omega,by omega,by omega⟩;rw[ewh];ext x;refine fy (λi m=>∃a b,m=MSt.mk [a,b,some (.imm (.int (wh:Int)))] [[t],ps.map prD,(ps.take i).map λp=>(srvK wh p).d] 3) ⟨none,none,rfl⟩ ?_ ?_ ?_
  .rintro i m ⟨a,b,rfl⟩;rfl
  .rintro i d m e hnp2 ⟨a,b,rfl⟩;let⟨p,C,rfl,hi⟩:=gmap e;have F:=g.2.2 p (GT C);rw[cZ _ C];dsimp only[prD];ext s
   .rfl
   ext s;refine⟨p.1,wh,rfl,by omega,by omega,by omega,?_⟩;ext x;exact⟨_,rfl,by rw[aak,iO,aaC];omega,some (.imm (.int (p.1:Int))),some (.imm (.int (p.2:Int))),rfl⟩
  intro m hm ⟨a,b,rfl⟩;rw[iO,aau];ext x;refine⟨1+Q,wh,rfl,by omega,by omega,by omega,?_⟩;ext x;refine⟨t,_,_,rfl,y,by omega,by omega,by omega,λq t R V y=>?_⟩;ext x;have f1:=zp (p:=1+Q) (wh:=wh) (by omega) (by omega) hw1 (by omega);have hk:=k ⟨(1+Q)/(1+Q).gcd wh,wh/(1+Q).gcd wh,ps.map (srvK wh),decide (q=0)⟩ t ⟨f1.1,f1.2.1,f1.2.2.1,f1.2.2.2,by rw[iO];exact s1,by rw[iO];exact s4,λs hs=>?_⟩ (by
   rw[show Hall.rs ⟨(1+Q)/(1+Q).gcd wh,wh/(1+Q).gcd wh,ps.map (srvK wh),decide (q=0)⟩=bA ps by unfold Hall.rs bA;rw[aa9];rfl];omega) (y.mono (by omega))
  .unfold Hall.d at hk;rw[aa9]at hk;exact hk
  .obtain⟨p,F,rfl⟩:=aam.mp hs;have h:=g.2.2 p F;have f2:=zp (p:=p.1) (wh:=wh) (by omega) (by omega) hw1 (by omega);exact⟨f2.1,f2.2.1,f2.2.2.1,f2.2.2.2,h.2.2.1,by show p.2≤6;omega⟩
theorem uT(T:Bl K mg)(D:DefM K mg "_law_rule" fG ["_law_tape_here","_law_hall_here"])(g:FnM P w K mg base "_law_draw" 1 2 uX)(G:FnM P w K mg base "_law_all_lines" 1 1 lg):FnM P w K mg base "_law_rule" 2 2 CY:=by
 refine bh D jh rfl (nN:=4) rfl (by decide) ?ar λC A outer s H E f y=>⟨_,(mz' (aA 2 jh.nd (mf' g (y.mono (by decide)) (mc' (mv' 0) (mc' mh' mn'))))
   (mz' (aH (ak gJ (mv' 2) mh' (aC _)) (aa (af (ag (mc' (ae (cg (mc' ai (mc' ai (mc' ai (mc' ai mn'))))) (mv' 2)) mn')))) ap)
   (mz' (aA 3 jh.nd (av bc (by rfl) T.len cq (mc' (mf' G (y.mono (by decide)) (mc' (dq (bP (own:=["_law_speed","_law_room"]) (fr:=[]) (ps:=[]) (sc:=(ab fG)) (by exact⟨rfl,by decide +kernel,by decide +kernel,by decide +kernel,by decide +kernel⟩) (bp (ae (mv' 1) mh')) (λ_ _ _ _ _=>(bo (n:=2) (ac (am 0 (show aaS ((["_law_speed","_law_room"]:List Str)++([]:List Str))from by decide +kernel)) (ac (am 1 (show aaS ((["_law_speed","_law_room"]:List Str)++([]:List Str))from by decide +kernel)) aP)))) (λ_ _ _ _ _=>bH) (λ_ _ _ _ _=>(mv' 1)))) mn')) mn')))
   (aa (af (ag (mc' ai (mc' (cz c8 (by rfl) T.tuple c6 (mc' (bP (own:=["_law_k"]) (fr:=["_law_tape_here","_law_hall_here"]) (ps:=[0,1]) (sc:=(ab fG)) (by exact⟨rfl,by decide +kernel,by decide +kernel,by decide +kernel,by decide +kernel⟩) (cb (by rfl) T.range (mc' (mv' 3) mn')) (λ_ _ _ _ _=>(am 0 (show aaS ((["_law_k"]:List Str)++(["_law_tape_here","_law_hall_here"]:List Str))from by decide +kernel))) (λ_ _ _ _ _=>bH) (λ_ _ _ _ _=>(mf' g (y.mono (by decide)) (mc' (mv' 1) (mc' (av bc (by rfl) T.len cq (mc' (ae (mv' 2) mh') mn')) mn'))))) mn')) mn')))))))),?_⟩
 case ar=>intro J F ⟨t,c,h,rfl,_⟩;rfl
 intro J F Y ⟨t,c,h,rfl,j,X,o,k⟩;have n1:=o.n1;have n4:=o.n4;refine au (MSt.mk [some (.at 0 []),some (.imm (.tuple [.tuple [.int h.a,.int h.b],.tuple (h.ss.map Srv.d),.bool h.mv])),none,none] [[t]] 1) rfl ?_;ext s;refine⟨t,_,c,rfl,j,by omega,by decide,by decide,λr t I R j=>?_⟩;ext x;refine bm (λz=>?_) (λz=>?_)
 .ext s;let⟨x,rl,ex,W,V,U⟩:∃(x:Str) (rl:Rule),atI [adR "random",.str "two",.str "least",.str "quick"] r=some (.str x)/\abw [.str x]=rl.d/\rl.Ok h/\rl≠.turns:=by
   rcases (show r=0\/r=1\/r=2\/r=3 by omega)with rfl|rfl|rfl|rfl
   .exact⟨_,.random,rfl,rfl,trivial,Rule.noConfusion⟩
   .exact⟨_,.two,rfl,rfl,trivial,Rule.noConfusion⟩
   .exact⟨_,.least,rfl,rfl,trivial,Rule.noConfusion⟩
   .exact⟨_,.quick,rfl,rfl,trivial,Rule.noConfusion⟩
  refine rg ex ?_;ext s;rw[W];exact k rl t V U (j.mono (by omega))
 .ext s;refine d8 (λi m=>∃a b,m=MSt.mk [a,b] [[t],(h.rs.take i).map λ(r:Nat)=>.int (r:Int)] 2) ⟨none,none,rfl⟩ ?_ ?_
  .rintro i d m e n ⟨a,b,rfl⟩;let⟨s,S,rfl,Q⟩:=gmap e;ext h
   .rfl
   ext s;refine⟨_,rfl,by rw[aak,iO,aaC];omega,some (.imm (.tuple [.int s.a,.int s.b])),some (.imm (.int s.r)),?_⟩;rw[aaJ,Hall.rs_get S,aaD];rfl
  intro m n ⟨a,b,rfl⟩;have v:=h.rsl;rw[iO,<-v,aau];ext s;have N:(M3.allR h.rs).length≤2401:=qh (by rw[h.rsl];exact n4) o.r6;refine⟨h.rs,rfl,by omega,o.r6,?_⟩;ext x;rw[iO];ext d;ext n;refine d8 (λi m=>∃a B ps,m=MSt.mk [a,some (.at 0 []),some (.imm (.tuple [.tuple [.int h.a,.int h.b],.tuple (h.ss.map Srv.d),.bool h.mv]))] [[B],natD ps] 2/\TapeK (c+1+i) B/\ps.length=i/\∀p∈ps,p<h.ss.length) ⟨none,t,[],rfl,j,rfl,λ_ z=>by cases z⟩ ?_ ?_
  .rintro i d m e n ⟨a,t,ps,rfl,j,hpl,hps⟩;let⟨Q,rfl⟩:=cw e;ext s;refine⟨t,_,_,rfl,j,by omega,by rw[iO];omega,by rw[iO];omega,λp t u q j=>?_⟩;ext x;rw[iO]at q;let⟨p,rfl⟩:=acU u;exact⟨_,rfl,by rw[aak,natD,iO];omega,_,t,ps++[p],by rw[yn],j,by simp;omega,λx O=>(aaG.mp O).elim (hps x) λz=>by rw[aaa.mp z];omega⟩
  .rintro m n ⟨a,t,ps,rfl,j,hpl,hps⟩;rw[aV]at j hpl;ext x;exact k (.told ps) t ⟨by omega,hps⟩ Rule.noConfusion (j.mono (by omega))
theorem uK(T:Bl K mg)(D:DefM K mg "_law_sent" iG ["_law_hall_here","_law_rule_here","_law_lines","_law_order"])(G:FnM P w K mg base "_law_all_lines" 1 1 lg):FnM P w K mg base "_law_sent" 2 4 y9:=by
 refine bh D b7 rfl (nN:=12) rfl (by decide) ?ar λcdv A outer s H E f t=>⟨_,(mz' (aH (ak (bF t.units) (ae (mv' 1) mh') ai (aC _)) (aa (af (ae (mv' 3) mh'))) ap)
   (mz' (aH (ak (bF t.units) (ae (mv' 1) mh') ai (aC _)) (mz' (gL (i:=4) (own:=["_law_speed","_law_room"]) (fr:=[]) (ps:=[]) (sc:=(ab iG)) (by exact⟨rfl,by decide +kernel,by decide +kernel,by decide +kernel,by decide +kernel⟩) b7.nd rfl rfl (bp (ae (mv' 0) mh')) (λ_ _ _ _ _=>(bo (n:=2) (ac (am 0 (show aaS ((["_law_speed","_law_room"]:List Str)++([]:List Str))from by decide +kernel)) (ac (am 1 (show aaS ((["_law_speed","_law_room"]:List Str)++([]:List Str))from by decide +kernel)) aP)))) (λ_ _ _ _ _=>bH) (λ_ _ _ _ _=>(mv' 1)))
   (aa (Ng (af (ae (ae (mv' 1) mh') (mQ afq PySem.F.type_list_index (yO t.units) (mf' G (t.mono (by decide)) (mc' (mv' 4) mn')) (mc' (mv' 2) mn'))))))) ap)
   (mz' (aA 5 b7.nd (ae (mv' 3) mh'))
   (mz' (aA 6 b7.nd (vK (ak (bF t.units) (ae (mv' 1) mh') ai (aC _)) (c5 f7 (mv' 3) (dh mh') (dh mh')) (c5 f7 (mv' 3) (dh mh') fg)))
   (mz' (ca (bp (mv' 6)) (am 7 b7.nd) (mz' (jg (i:=8) (j:=9) b7.nd rfl rfl (by decide) rfl rfl (mc' (ae (mv' 2) (mv' 7)) (mc' (ae (mv' 2) (mv' 5)) mn')) rfl)
   (mz' (aH (ak (bF t.units) (ae (mv' 1) mh') ai (aC _)) (mz' (jg (i:=10) (j:=11) b7.nd rfl rfl (by decide) rfl rfl (mc' (ae (ae (ae (mv' 0) mh') (mv' 7)) mh') (mc' (ae (ae (ae (mv' 0) mh') (mv' 5)) mh') mn')) rfl)
   (mz' (aA 8 b7.nd (ah bT (ah bT (ah aK (mv' 8) mh') (ae (mv' 10) mh')) (ae (mv' 11) mh')))
   (aa (aA 9 b7.nd (ah bT (ah bT (ah aK (mv' 9) mh') (ae (mv' 11) mh')) (ae (mv' 10) mh')))))) ap)
   (aa (aH (ak gJ (mv' 8) (mv' 9) (aC _)) (aa (aA 5 b7.nd (mv' 7))) ap)))) aaE)
   (aa (af (mv' 5)))))))),?_⟩
 case ar=>intro as Kc ⟨h,r,l,o,rfl,_⟩;rfl
 intro as Kc hl ⟨h,r,l,o,rfl,C,t,nt,F,Y,k⟩;have n4:=C.n4;have O:=F.1;let⟨c,os,rfl,h0⟩:=Y.cons;have kind:r = .random\/(∃ps,r = .told ps)\/Rk r:=by
  cases r with
  |turns=>exact(nt rfl).elim
  |random=>exact .inl rfl
  |told ps=>exact .inr (.inl ⟨ps,rfl⟩)
  |two=>exact .inr (.inr trivial)
  |least=>exact .inr (.inr trivial)
  |quick=>exact .inr (.inr trivial)
 rcases kind with rfl|⟨ps,rfl⟩|p
 .refine au (MSt.mk [some (.imm (.tuple [.tuple [.int h.a,.int h.b],.tuple (h.ss.map Srv.d),.bool h.mv])),some (.imm (.tuple [.str "random"])),some (.imm (.tuple (natD l))),some (.imm (.tuple (natD (c::os)))),none,none,none,none,none,none,none,none] [] 0) rfl ?_;ext f;refine aU (ds:=natD (c::os)) (bg (j:=0) rfl) ?_;ext s;exact k
 .refine au (MSt.mk [some (.imm (.tuple [.tuple [.int h.a,.int h.b],.tuple (h.ss.map Srv.d),.bool h.mv])),some (.imm (.tuple [.str "told",.tuple (natD ps)])),some (.imm (.tuple (natD l))),some (.imm (.tuple (natD (c::os)))),none,none,none,none,none,none,none,none] [] 0) rfl ?_;ext s;rw[if_neg (hnc:=by decide +kernel)];ext f;refine bU (λi m=>∃a b:Option L2.R,m=MSt.mk [a,b] [(h.rs.take i).map λ(r:Nat)=>.int (r:Int)] 1) ⟨none,none,rfl⟩ ?_ ?_
  .rintro i d m e u ⟨a,b,rfl⟩ D1 hD1 hR1;let⟨s,es,rfl,hi⟩:=gmap e;have g:h.rs[i]?=some s.r:=by unfold Hall.rs;rw[aai,es];rfl
   ext h
   .rfl
   ext s;refine⟨_,rfl,by rw[aak,iO,aaC,Hall.rsl];omega,hD1 _ ⟨some (.imm (.tuple [.int s.a,.int s.b])),some (.imm (.int (s.r:Int))),?_⟩⟩;rw[aaJ,g,aaD];rfl
  intro m u ⟨a,b,rfl⟩;rw[iO,<-Hall.rsl,aau];ext x;refine da ?_;ext n;refine Vd 0 4 (h.rs.map λ(r:Nat)=>.int (r:Int)) [] (MSt.mk [some (.imm (.tuple [.tuple [.int h.a,.int h.b],.tuple (h.ss.map Srv.d),.bool h.mv])),some (.imm (.tuple [.str "told",.tuple (natD ps)])),some (.imm (.tuple (natD l))),some (.imm (.tuple (natD (c::os)))),some (.imm (.list (h.rs.map λ(r:Nat)=>.int (r:Int)))),none,none,none,none,none,none,none] [] 0) rfl rfl (Md rfl rfl rfl rfl rfl rfl rfl rfl ⟨.inl rfl,.inl rfl,.inl rfl,.inl rfl,.inr ⟨rfl,.inl rfl⟩,.inl trivial,.inl trivial,.inl trivial,.inl trivial,.inl trivial,.inl trivial,.inl trivial,trivial⟩) ?_;ext s;refine⟨h.rs,rfl,by rw[Hall.rsl];exact n4,C.r6,?_⟩;ext x;have hp:=M7.place_at F.fits;refine KU (k':=1) (j:=M7.placeF 0 h.rs l) (y:=lnD l) rfl (bf (br l)) (λy R=>?_) (by decide) (by rw[aai,hp];rfl) (by rw[show abw (natD l)=lnD l from rfl,fu];exact decide_eq_true rfl) (λi y hi R=>?_) ?_
  .obtain⟨l',_,rfl⟩:=aam.mp R;exact bf (br l')
  .obtain⟨l',el,rfl,_⟩:=gmap R;rw[show abw (natD l)=lnD l from rfl,fu];refine decide_eq_false λz=>?_;subst z;have:=M7.place_only el;omega
  .ext n;have hlt:M7.placeF 0 h.rs l<ps.length:=by rw[t.1,M7.allR_cnt];exact M7.place_lt F.fits
   refine aU (bg (bq (getN rfl hlt))) ?_;ext s;exact k
 .have ed:r.d = .tuple [.str r.word]:=by cases r<;>first|rfl|exact p.elim
  have n1:decide (r.word = "random")=false:=by cases r<;>first|exact p.elim|decide +kernel
  have n2:decide (r.word = "told")=false:=by cases r<;>first|exact p.elim|decide +kernel
  rw[ed];refine au (MSt.mk [some (.imm (.tuple [.tuple [.int h.a,.int h.b],.tuple (h.ss.map Srv.d),.bool h.mv])),some (.imm (.tuple [.str r.word])),some (.imm (.tuple (natD l))),some (.imm (.tuple (natD (c::os)))),none,none,none,none,none,none,none,none] [] 0) rfl ?_;ext s;rw[n1];ext s;rw[n2];ext s;refine aU (ds:=natD (c::os)) (bg (j:=0) rfl) ?_;ext s;refine x_J (λr' m=>r' = .imm (.tuple (natD (rsO r os)))/\m=MSt.mk [some (.imm (.tuple [.tuple [.int h.a,.int h.b],.tuple (h.ss.map Srv.d),.bool h.mv])),some (.imm (.tuple [.str r.word])),some (.imm (.tuple (natD l))),some (.imm (.tuple (natD (c::os)))),none,some (.imm (.int (c:Int))),none,none,none,none,none,none] [] 0) (λK' J=>?_) ?_
  .refine Ba ?_;ext x;refine bm (λz=>?_) (λz=>?_)
   .have g:r = .two:=by cases r<;>first|rfl|exact p.elim|exact absurd z (by decide +kernel)
    subst g;ext s;rw[show cutD (natD (c::os)) (some 1) (some 2)=natD (os.take 1) by cases os<;>rfl];exact J _ _ ⟨rfl,rfl⟩
   .have g:rsO r os=os:=by cases r<;>first|rfl|exact p.elim|exact absurd rfl z
    ext s;rw[show cutD (natD (c::os)) (some 1) none=natD os by rw[show(1:Int)=((1:Nat):Int)from rfl,ju];rfl];exact J _ _ ⟨by rw[g],rfl⟩
  intro _ _ ⟨rfl,rfl⟩;ext n;refine j6 ?_;ext x;refine bU (λi m=>∃W V a9 x v:Option L2.R,m=MSt.mk [some (.imm (.tuple [.tuple [.int h.a,.int h.b],.tuple (h.ss.map Srv.d),.bool h.mv])),some (.imm (.tuple [.str r.word])),some (.imm (.tuple (natD l))),some (.imm (.tuple (natD (c::os)))),none,some (.imm (.int (M7.pick (ltO h l r) c ((rsO r os).take i):Nat))),some (.imm (.tuple (natD (rsO r os)))),W,V,a9,x,v] [] 0) ⟨none,none,none,none,none,rfl⟩ ?_ ?_
  .rintro i d m e u ⟨W,V,a9,x,v,rfl⟩ D1 hD1 hR1;let⟨j,ej,rfl,hi⟩:=gmap e;have mj:=GT ej;have U:j<h.ss.length:=Y.lt j (aaf _ (BI mj));have Q:M7.pick (ltO h l r) c ((rsO r os).take i)<h.ss.length:=ya h0 λz X=>Y.lt z (aaf _ (BI (ace X)));have et:(rsO r os).take (i+1)=(rsO r os).take i++[j]:=by rw[aaJ,ej];rfl
   rw[et,M7.pick_app]at hD1;generalize M7.pick (ltO h l r) c ((rsO r os).take i)=b at Q hD1⊢;ext s;refine aU (bg (bq (getN O U))) ?_;ext s;refine aU (bg (bq (getN O Q))) ?_;ext s;let⟨s,es,ea,eb,hs⟩:=h.srv U;let⟨N,es',Z,eb',S⟩:=h.srv Q;have so:=C.ok s hs;have I:=C.ok N S;have b1:=F.le C _ (GT (getN O U));have b2:=F.le C _ (GT (getN O Q));refine bm (λz=>?_) (λz=>?_)
   .have g:r = .quick:=by cases r<;>first|rfl|exact p.elim|exact absurd z (by decide +kernel)
    subst g;have a2:=so.a2;have c2:=so.b2;have a2':=I.a2;have c2':=I.b2;have up:∀{z:Nat},z<10^30->z<10^160:=λX=>ad5 X (by decide);have m1:(l.getD j 0+1)*s.b≤7*1000000:=abC (by omega) (by omega);have m2:(l.getD b 0+1)*N.b≤7*1000000:=abC (by omega) (by omega);ext s;refine aU (d:=s.d) (bg (by rw[aai,es];rfl)) ?_;ext h;refine aU (d:=N.d) (bg (by rw[aai,es'];rfl)) ?_;ext h;have g:ltO h l Rule.quick j b=decide ((((l.getD j 0:Nat):Int)+1)*(s.b:Int)*(N.a:Int)<(((l.getD b 0:Nat):Int)+1)*(N.b:Int)*(s.a:Int)):=by
     show decide ((l.getD j 0+1)*h.bn j*h.an b<(l.getD b 0+1)*h.bn b*h.an j)=_;rw[eb,Z,eb',ea];refine decide_eq_decide.mpr ⟨λq=>?_,λq=>?_⟩
     .exact_mod_cast q
     .exact_mod_cast q
    rw[g]at hD1;refine bm (λB=>?_) (λB=>?_)
    .rw[decide_eq_true B,if_pos rfl]at hD1;ext s;exact hD1 _ ⟨_,_,_,_,_,rfl⟩
    .rw[decide_eq_false B,if_neg (by decide)]at hD1;ext s;exact hD1 _ ⟨_,_,_,_,_,rfl⟩
   .have g:ltO h l r j b=decide (((l.getD j 0:Nat):Int)<((l.getD b 0:Nat):Int)):=by
     cases r with
     |quick=>exact absurd rfl z
     |two=>exact decide_eq_decide.mpr (by omega)
     |least=>exact decide_eq_decide.mpr (by omega)
     |_=>exact p.elim
    rw[g]at hD1;ext s;refine bm (λB=>?_) (λB=>?_)
    .rw[decide_eq_true B,if_pos rfl]at hD1;ext s;exact hD1 _ ⟨_,_,_,_,_,rfl⟩
    .rw[decide_eq_false B,if_neg (by decide)]at hD1;ext s;exact hD1 _ ⟨_,_,_,_,_,rfl⟩
  .rintro m u ⟨W,V,a9,x,v,rfl⟩;rw[bj,aau];ext s;rw[<-UM p]at *;exact k
theorem yG(T:Bl K mg)(D:DefM K mg "_law_put" lR ["_law_lines","_law_k","_law_more"]):FnM P w K mg base "_law_put" 1 3 o9:=by
 refine bh D yD rfl (nN:=3) rfl (by decide) ?ar λc A outer s H E f n=>⟨_,(aa (af (ah aK (ah aK (c5 f7 (mv' 0) fg (dh (mv' 1))) (ag (mc' (ah aK (ae (mv' 0) (mv' 1)) (mv' 2)) mn'))) (c5 f7 (mv' 0) (dh (ah aK (mv' 1) mh')) fg)))),?_⟩
 case ar=>intro i g ⟨l,j,d,x,rfl,_⟩;rfl
 intro i g o ⟨l,j,d,x,rfl,a,m,b,k⟩;refine au (MSt.mk [some (.imm (.tuple (natD l))),some (.imm (.int (j:Int))),some (.imm (.int d))] [] 0) rfl ?_;ext s;refine aU (bg (bq (getN rfl a))) ?_;ext s;rw[b,uE];refine ku (by rw[aak,aaC,bj];simp;omega) ?_;ext s;rw[show(j:Int)+1=((j+1:Nat):Int)from rfl,ju];refine ku (by rw[aak,aan,aaC,aef,bj];simp;omega) ?_;ext s;have e:(natD l).take j++[.int (x:Int)]++(natD l).drop (j+1)=natD (l.set j x):=by
  rw[<-xU,adX,if_pos (by rw[bj];exact a)];simp
 rw[e];exact k
theorem uZ(T:Bl K mg)(D:DefM K mg "_law_step" j2 ["_law_hall_here","_law_rule_here","_law_lines","_law_move"])(b:FnM P w K mg base "_law_sent" 2 4 y9)(G:FnM P w K mg base "_law_put" 1 3 o9):FnM P w K mg base "_law_step" 4 4 IU:=by
 refine bh D ce rfl (nN:=8) rfl (by decide) ?ar λcdv A outer s H E f c=>⟨_,(mz' (aA 4 ce.nd ai)
   (mz' (aH (ak (bF c.units) (ae (mv' 3) mh') ai (aC _)) (mz' (aA 5 ce.nd (mf' b (c.mono (by decide)) (mc' (mv' 0) (mc' (mv' 1) (mc' (mv' 2) (mc' (ae (mv' 3) mh') mn'))))))
   (mz' (aA 4 ce.nd (vK (ak (bF c.units) (ae (mv' 2) (mv' 5)) (ae (ae (ae (mv' 0) mh') (mv' 5)) mh') (aC _)) ai ai))
   (aa (aA 2 ce.nd (mf' G (c.mono (by decide)) (mc' (mv' 2) (mc' (mv' 5) (mc' (cz lq (by rfl) T.int xW (mc' (c9 (bF c.units) (mv' 4) ai (aC _)) mn')) mn')))))))) (aa (aH (EW.pt (i8 (ak (bF c.units) (ae (mv' 3) mh') ai (aC _)) (ig (ak jD (ae (mv' 2) (ae (mv' 3) mh')) mh' (aC _))))) (mz' (aA 4 ce.nd ai)
   (aa (aA 2 ce.nd (mf' G (c.mono (by decide)) (mc' (mv' 2) (mc' (ae (mv' 3) mh') (mc' (ia dW mh') mn'))))))) ap)))
   (mz' (dJ (EW.pt (i8 (bG (ae (mv' 0) mh')) (i8 (ak (Sk c.units) mh' (mv' 2) (by with_unfolding_all rfl)) (ig (ak jD (av (fH rfl) (by rfl) T.max pK (mc' (mv' 2) mn')) mh' (aC _)))))) (mz' (jg (i:=6) (j:=7) ce.nd rfl rfl (by decide) rfl rfl (mc' (w5 aca acL (ii c.units) (mv' 2) (mc' (av (fH rfl) (by rfl) T.max pK (mc' (mv' 2) mn')) mn')) (mc' (w5 aca acL (ii c.units) (mv' 2) (mc' mh' mn')) mn')) rfl)
   (aa (aA 2 ce.nd (mf' G (c.mono (by decide)) (mc' (mf' G (c.mono (by decide)) (mc' (mv' 2) (mc' (mv' 6) (mc' (ia dW mh') mn')))) (mc' (mv' 7) (mc' mh' mn'))))))) aaE)
   (aa (af (ag (mc' (mv' 2) (mc' (mv' 4) mn')))))))),?_⟩
 case ar=>intro as Kc ⟨h,r,l,m,rfl,_⟩;rfl
 intro as Kc hl ⟨h,r,l,mv,rfl,S,c,n1,L1,W,k⟩;have n4:=S.n4;have ln1:=S.n1;have l4:=L1.1;refine au (MSt.mk [some (.imm (.tuple [.tuple [.int h.a,.int h.b],.tuple (h.ss.map Srv.d),.bool h.mv])),some (.imm r.d),some (.imm (.tuple (natD l))),some (.imm mv.d),none,none,none,none] [] 0) rfl ?_;refine oY ?_;refine x_JS (λm=>m=MSt.mk [some (.imm (.tuple [.tuple [.int h.a,.int h.b],.tuple (h.ss.map Srv.d),.bool h.mv])),some (.imm r.d),some (.imm (.tuple (natD l))),some (.imm mv.d),some (.imm (.str "none")),none,none,none] [] 0) (λN J=>?_) ?_
 .ext s;exact J _ rfl
 rintro _ rfl;ext n;refine oY ?_;refine x_JS (λm=>∃(B:List Nat) (w:Wd) (a5:Option L2.R),m=MSt.mk [some (.imm (.tuple [.tuple [.int h.a,.int h.b],.tuple (h.ss.map Srv.d),.bool h.mv])),some (.imm r.d),some (.imm (.tuple (natD B))),some (.imm mv.d),some (.imm (.str w.s)),a5,none,none] [] 0/\B.length=l.length/\((kM h r l 0 mv).1,(kM h r l 0 mv).2.2)=(gA h B,w)) (λN J=>?_) ?_
 .cases mv with
  | come o=>
   have hj:=vE S c L1 W (t:=0) λz=>(n1 z).elim;have Sr:=S.ok;let⟨s,X⟩:∃s,h.ss[sent h r l 0 o]?=some s:=⟨_,lD hj⟩;have rn:h.rn (sent h r l 0 o)=s.r:=by
    unfold Hall.rn Hall.rs;rw[aat,aai,X];rfl
   let⟨x,ex⟩:∃x,l[sent h r l 0 o]?=some x:=⟨_,lD (by omega)⟩;have v:l.getD (sent h r l 0 o) 0=x:=bu ex;dsimp only[Mv.d];ext f;refine⟨h,r,l,o,rfl,S,c,n1,L1,W,?_⟩;ext x;refine x_J (λr' m=>r' = .imm (.str (c7 h l (sent h r l 0 o)).2.s)/\m=MSt.mk [some (.imm (.tuple [.tuple [.int h.a,.int h.b],.tuple (h.ss.map Srv.d),.bool h.mv])),some (.imm r.d),some (.imm (.tuple (natD l))),some (.imm (.tuple [.str "come",lnD o])),some (.imm (.str "none")),some (.imm (.int (sent h r l 0 o:Nat))),none,none] [] 0) (λK' J'=>?_) ?_
   .refine Ba ?_;ext x;refine aU (bg (bq ex)) ?_;ext s;refine aU (ds:=h.ss.map Srv.d) (d:=s.d) (bg (by rw[aai,X];rfl)) ?_;ext h;refine bm (λz=>?_) (λz=>?_)
    .ext s;exact J' _ _ ⟨by unfold c7;rw[v,rn,if_pos (by omega)];rfl,rfl⟩
    .ext s;exact J' _ _ ⟨by unfold c7;rw[v,rn,if_neg (by omega)];rfl,rfl⟩
   intro _ _ ⟨rfl,rfl⟩;ext n;refine j6 ?_;ext x;have em:((kM h r l 0 (.come o)).1,(kM h r l 0 (.come o)).2.2)=(gA h (c7 h l (sent h r l 0 o)).1,(c7 h l (sent h r l 0 o)).2):=rfl;rw[em]at J
   by_cases z:x=s.r
   .have ec:c7 h l (sent h r l 0 o)=(l,.away):=by unfold c7;rw[v,rn,if_pos z]
    have el:l.set (sent h r l 0 o) x=l:=by
     apply acg;intro i;rw[List.getElem?_set];split
     .rename_i q;rw[<-q,ex,if_pos (by omega)]
     .rfl
    rw[ec]at J⊢;refine⟨l,_,_,x,rfl,by omega,by omega,by rw[v,show(if decide (Wd.away.s = "taken")=true then(1:Int)else 0)=0 by decide +kernel];omega,?_⟩;rw[el];ext n;exact j6 (J _ ⟨l,.away,_,rfl,rfl,rfl⟩)
   .have ec:c7 h l (sent h r l 0 o)=(l.set (sent h r l 0 o) (x+1),.taken):=by unfold c7;rw[v,rn,if_neg z]
    rw[ec]at J⊢;refine⟨l,_,_,x+1,rfl,by omega,by omega,by rw[v,show(if decide (Wd.taken.s = "taken")=true then(1:Int)else 0)=1 by decide +kernel];omega,?_⟩;ext n;exact j6 (J _ ⟨_,.taken,_,rfl,by rw[abe],rfl⟩)
  |done j=>
   have hj:j<h.ss.length:=W;let⟨x,ex⟩:∃x,l[j]?=some x:=⟨_,lD (by omega)⟩;have v:l.getD j 0=x:=bu ex;dsimp only[Mv.d];ext s;rw[if_neg (hnc:=by decide +kernel)];ext f;refine aU (bg (bq ex)) ?_;ext s;refine bm (λz=>?_) (λz=>?_)
   .ext s;refine⟨l,j,-1,x-1,rfl,by omega,by omega,by omega,?_⟩;ext x;refine J _ ⟨l.set j (x-1),.served,none,rfl,by rw[abe],?_⟩;show(gA h (dM l j).1,(dM l j).2)=_;unfold dM;rw[v,if_neg (by omega)]
   .ext s;refine J _ ⟨l,.none,none,rfl,rfl,?_⟩;show(gA h (dM l j).1,(dM l j).2)=_;unfold dM;rw[v,if_pos (by omega)]
  |still=>
   dsimp only[Mv.d];ext s;rw[if_neg (hnc:=by decide +kernel)];ext s;rw[if_neg (hnc:=by decide +kernel)];ext s;exact J _ ⟨l,.none,none,rfl,rfl,rfl⟩
 intro _ ⟨B,w,a5,rfl,V,ek⟩;have Z:B≠[]:=λz=>by rw[z]at V;simp at V;omega
 have hl4:B.length≤1000:=by omega
 ext n;refine oY ?_;refine jf (λn m=>∃(a:List Nat) (a6 a7:Option L2.R),m=MSt.mk [some (.imm (.tuple [.tuple [.int h.a,.int h.b],.tuple (h.ss.map Srv.d),.bool h.mv])),some (.imm r.d),some (.imm (.tuple (natD a))),some (.imm mv.d),some (.imm (.str w.s)),a5,a6,a7] [] 0/\n=a.count 0/\dn h n a=gA h B/\a≠[]/\a.length≤1000) (B.count 0) ⟨B,none,none,rfl,rfl,rfl,Z,hl4⟩ ?_;intro n m hn ⟨a,a6,a7,rfl,rfl,hs,g,hl'⟩;have p:dm (natD a)=some (a.map λ(x:Nat)=>(x:Int)):=by
  have:=d5 (a.map λ(x:Nat)=>(x:Int));rwa[aa9]at this
 have C:(a.map λ(x:Nat)=>(x:Int))≠[]:=λz=>g (agk.mp z);have I:∀x:Int,x∈(a.map λ(x:Nat)=>(x:Int))->(∀y∈(a.map λ(x:Nat)=>(x:Int)),y≤x)->x=(maxN a:Int):=λx O u=>by
  let⟨n,hn,rfl⟩:=aam.mp O;have h1:=uW n hn;have h2:=u (maxN a:Int) (aam.mpr ⟨maxN a,jt g,rfl⟩);omega
 have done:d3 h a=none->Kc (.imm (lwD (a,w))) []:=λe=>by
  rw[ko e]at hs;rw[ek,<-hs]at k;exact k
 have hin:(natD a).any (λx=>aad x (.int 0))=decide (0∈a):=by
  rw[abl,acT,decide_eq_true_iff];constructor
  .rintro⟨x,O,ex⟩;let⟨w,hw,e0⟩:=aam.mp O;rw[<-e0,show(abu 0)=abu ((0:Nat):Int)from rfl,cp]at ex;rw[<-of_decide_eq_true ex];exact hw
  .intro W;exact⟨_,aam.mpr ⟨0,W,rfl⟩,by decide⟩
 ext s
 cases hmv:h.mv with
 |false=>
  ext s;exact done (if_neg (by rw[hmv];exact λz=>by cases z.1))
 | true=>
  ext s;refine x_in (d:=.int 0) (ds:=natD a) rfl (.inr rfl) (cE 0) (br a) (by decide) ?_;rw[hin]
  by_cases U:0∈a
  .rw[decide_eq_true U,show(if false=true then !true else true)=true from rfl];ext s;refine sf rfl p C λx O u=>?_;rw[I x O u];ext s;refine bm (λz=>?_) (λz=>?_)
   .have e:d3 h a=some (idx a (maxN a),idx a 0):=if_pos ⟨hmv,U,by omega⟩;let⟨X,Q,l2,hc,F⟩:=jL e;let⟨m0,m1,m2,m3,m4⟩:=ip e;dsimp only at X Q l2 m1 m3 m4;have s1:=iw (jt g);have s0:=iw U;have g1:a.getD (idx a (maxN a)) 0=maxN a:=bu m1;have n0:(a.set (idx a (maxN a)) (maxN a-1))[idx a 0]?=some 0:=by rw[aaP m4];exact m3
    have g2:(a.set (idx a (maxN a)) (maxN a-1)).getD (idx a 0) 0=0:=bu n0;ext s;refine sf rfl p C λx O u=>?_;rw[I x O u];ext s;refine k9 (j:=idx a (maxN a)) (k':=0) (cE _) (br a) (by decide) (bq s1.1) (by rw[cp];exact decide_eq_true rfl) (λi y hi u=>?_) ?_
    .obtain⟨z,ez,rfl,_⟩:=gmap u;rw[cp];exact decide_eq_false (s1.2 i z hi ez)
    ext s;refine k9 (j:=idx a 0) (k':=0) (cE _) (br a) (by decide) (bq s0.1) (cp 0 0) (λi y hi u=>?_) ?_
    .obtain⟨z',ez,rfl,_⟩:=gmap u;have:=cp z' 0;rw[show((0:Nat):Int)=0 from rfl]at this;rw[this];exact decide_eq_false (s0.2 i z' hi ez)
    ext s;refine⟨a,idx a (maxN a),-1,maxN a-1,rfl,Q,hl',by omega,?_⟩;generalize hl2:a.set (idx a (maxN a)) (maxN a-1)=R at *;ext n;dsimp only[lnD];ext s;have hl3:R.length=a.length:=by rw[<-hl2,abe]
    refine⟨R,idx a 0,1,1,rfl,by omega,by omega,by omega,?_⟩;rw[<-X];ext x;have Y:cQ a (idx a (maxN a),idx a 0)≠[]:=λz=>by
     rw[z]at F;exact g (aa4 F.symm)
    refine⟨(cQ a (idx a (maxN a),idx a 0)).count 0,by omega,cQ a (idx a (maxN a),idx a 0),_,_,rfl,rfl,?_,Y,by omega⟩;rw[<-hs,<-hc];show _=dn h ((cQ a (idx a (maxN a),idx a 0)).count 0+1) a;simp only[dn,e]
   .ext s;exact done (if_neg λq=>by have:=q.2.2;omega)
  .rw[decide_eq_false U,show(if false=true then !false else false)=false from rfl];ext s;exact done (if_neg λq=>U q.2.1)
theorem vg(T:Bl K mg)(D:DefM K mg "_law_kept" ie ["_law_hall_here","_law_lines"]):FnM P w K mg base "_law_kept" 1 2 mh:=by
 refine bh D m6 rfl (nN:=3) rfl (by decide) ?ar λv A outer s H E f p=>⟨_,(mz' (aA 2 m6.nd (c9 (bF p.units) (bP (own:=["_law_server"]) (fr:=["_law_hall_here"]) (ps:=[0]) (sc:=(ab ie)) (by exact⟨rfl,by decide +kernel,by decide +kernel,by decide +kernel,by decide +kernel⟩) (bp (ae (mv' 0) mh')) (λ_ _ _ _ _=>(am 0 (show aaS ((["_law_server"]:List Str)++(["_law_hall_here"]:List Str))from by decide +kernel))) (λ_ _ _ _ _=>(ql (ak (iL p.units) (mv' 0) (ae (ae (mv' 1) mh') mh') (aC _)))) (λ_ _ _ _ _=>(mv' 0))) (cg mn') (aC _)))
   (aa (af (vK (bG (mv' 2)) (cz c8 (by rfl) T.tuple c6 (mc' (pF n6 (by rfl) T.sorted ot (mc' (mv' 1) mn')) mn')) (mv' 1))))),?_⟩
 case ar=>intro J C ⟨h,l,rfl,_⟩;rfl
 intro J C Q ⟨h,l,rfl,u,N,k⟩;have n4:=u.n4;refine au (MSt.mk [some (.imm (.tuple [.tuple [.int h.a,.int h.b],.tuple (h.ss.map Srv.d),.bool h.mv])),some (.imm (.tuple (natD l))),none] [] 0) rfl ?_;ext s;have key:∀d0:aD,(h.ss.map Srv.d).getD 0 .none=d0->(aad (.list ((h.ss.map Srv.d).filter λd=>!aad d d0)) (.list []))=alk h:=λd0 o=>by
  unfold alk;rw[o];generalize h.ss.map Srv.d=L
  induction L with
  |nil=>rfl
  |cons x L z=>
   rw[acp,abV]
   cases aad x d0 with
   |true=>simpa using z
   |false=>rfl
 let⟨c,ss,t⟩:∃c ss,h.ss=c::ss:=by
  cases e:h.ss with
  |nil=>have:=u.n1;rw[e]at this;exact absurd this (by decide)
  |cons a b=>exact⟨a,b,rfl⟩
 have o:(h.ss.map Srv.d).getD 0 .none=c.d:=by rw[t];rfl
 have n:∀s:Srv,Shp 2 s.d:=λs=>bf (k:=1) λd hd=>by
  simp only[aah,abE,or_false]at hd;rcases hd with rfl|rfl
  .exact bf (k:=0) λd hd=>by
    simp only[aah,abE,or_false]at hd;rcases hd with rfl|rfl<;>exact cE _
  .exact(cE _).mono (by decide)
 refine bU (λi m=>∃a:Option L2.R,m=MSt.mk [a,some (.imm (.tuple [.tuple [.int h.a,.int h.b],.tuple (h.ss.map Srv.d),.bool h.mv]))] [((h.ss.map Srv.d).take i).filter λd=>!aad d c.d] 1) ⟨none,rfl⟩ ?_ ?_
 .rintro i d m e g ⟨a,rfl⟩ D1 hD1 hR1;let⟨s,R,rfl,O⟩:=gmap e;rw[aaJ,e,aeV]at hD1;have y:=aec (λd=>!aad d c.d) ((h.ss.map Srv.d).take i);rw[aaC,iO]at y;ext s;refine aU (ds:=h.ss.map Srv.d) (d:=c.d) (bg (j:=0) (by rw[t];rfl)) ?_;ext s;refine x_ne (d1:=s.d) (d2:=c.d) rfl rfl ((n s).ok (by decide)) ((n c).ok (by decide)) ?_;ext s
  cases ec:aad s.d c.d with
  |true=>
   refine jw ?_;ext s;refine hD1 _ ⟨some (.imm s.d),?_⟩;rw[show((some s.d).toList.filter λd=>!aad d c.d)=[] by show [s.d].filter _=[];rw[acp,ec];rfl,aaY];rfl
  |false=>
   refine jy ?_;ext s;refine⟨_,rfl,by rw[aak];omega,hD1 _ ⟨some (.imm s.d),?_⟩⟩;rw[show((some s.d).toList.filter λd=>!aad d c.d)=[s.d] by show [s.d].filter _=_;rw[acp,ec];rfl];rfl
 intro m g ⟨a,rfl⟩;rw[aau];ext x;have I:Shp 3 (.list ((h.ss.map Srv.d).filter λd=>!aad d c.d)):=wx λd hd=>by
  let⟨s,_,rfl⟩:=aam.mp (afO.mp hd).1;exact n s
 refine x_eq (d1:=.list ((h.ss.map Srv.d).filter λd=>!aad d c.d)) (d2:=.list []) rfl rfl (I.ok (by decide)) (by decide +kernel) ?_;rw[key _ o];ext s;unfold cW at k;refine Ba ?_;ext s
 cases q:alk h with
 |true=>
  rw[q,if_pos rfl]at k;ext s;refine zj (ds:=natD l) rfl (iB l) (by rw[iO];omega) λG B F=>?_;have e:=xr B F;subst e;rw[<-tQ];ext s;exact k
 |false=>
  rw[q,if_neg aaj]at k;ext s;exact k
theorem tF(T:Bl K mg)(D:DefM K mg "_law_moves" db ["_law_hall_here"]):FnM P w K mg base "_law_moves" 1 1 jG:=by
 refine bh D cu rfl (nN:=6) rfl (by decide) ?ar λU A outer s H E f X=>⟨_,(mz' (aA 1 cu.nd (cg (mc' (ag mn') mn')))
   (mz' (ca (bp (ae (mv' 0) mh')) (am 2 cu.nd) (mz' (aA 3 cu.nd (cg mn'))
   (mz' (ca (bp (mv' 1)) (lc (i:=4) cu.nd rfl (adv rfl)) (aa (dG (mQ afm afn p7 (mv' 3) (mc' (bP (own:=["_law_k"]) (fr:=["_law_order"]) (ps:=[4]) (sc:=(ab db)) (by exact⟨rfl,by decide +kernel,by decide +kernel,by decide +kernel,by decide +kernel⟩) (cb (by rfl) T.range (mc' (av bc (by rfl) T.len cq (mc' (ae (mv' 0) mh') mn')) mn')) (λ_ _ _ _ _=>(am 0 (show aaS ((["_law_k"]:List Str)++(["_law_order"]:List Str))from by decide +kernel))) (λ_ _ _ _ _=>(ql (ak (gF X.units) (mv' 0) (mv' 1) (by with_unfolding_all rfl)))) (λ_ _ _ _ _=>(ah aK (mv' 1) (ag (mc' (mv' 0) mn'))))) mn')))) aaE)
   (aa (aA 1 cu.nd (mv' 3))))) aaE)
   (mz' (aA 5 cu.nd (ah aK (bP (own:=["_law_order"]) (fr:=[]) (ps:=[]) (sc:=(ab db)) (by exact⟨rfl,by decide +kernel,by decide +kernel,by decide +kernel,by decide +kernel⟩) (bp (mv' 1)) (λ_ _ _ _ _=>(am 0 (show aaS ((["_law_order"]:List Str)++([]:List Str))from by decide +kernel))) (λ_ _ _ _ _=>bH) (λ_ _ _ _ _=>(ag (mc' ai (mc' (mv' 0) mn'))))) (bP (own:=["_law_k"]) (fr:=[]) (ps:=[]) (sc:=(ab db)) (by exact⟨rfl,by decide +kernel,by decide +kernel,by decide +kernel,by decide +kernel⟩) (cb (by rfl) T.range (mc' (av bc (by rfl) T.len cq (mc' (ae (mv' 0) mh') mn')) mn')) (λ_ _ _ _ _=>(am 0 (show aaS ((["_law_k"]:List Str)++([]:List Str))from by decide +kernel))) (λ_ _ _ _ _=>bH) (λ_ _ _ _ _=>(ag (mc' ai (mc' (mv' 0) mn')))))))
   (aa (af (ah aK (mv' 5) (cg (mc' (ag (mc' ai mn')) mn')))))))),?_⟩
 case ar=>intro as Y ⟨h,rfl,_⟩;rfl
 intro as Y hl ⟨h,rfl,Q,k⟩;have n1:=Q.n1;have n4:=Q.n4;have no:(ordK h.ss.length h.ss.length).length≤24:=(iu _ n4 _ n4).1;refine au (MSt.mk [some (.imm (.tuple [.tuple [.int h.a,.int h.b],.tuple (h.ss.map Srv.d),.bool h.mv])),none,none,none,none,none] [] 0) rfl ?_;ext c;refine bU (λi m=>∃a c:Option L2.R,m=MSt.mk [some (.imm (.tuple [.tuple [.int h.a,.int h.b],.tuple (h.ss.map Srv.d),.bool h.mv])),some (.obj 0),a,none,c,none] [(ordK h.ss.length i).map lnD] 0) ⟨none,none,rfl⟩ ?_ ?_
 .rintro i d m e n ⟨a,c,rfl⟩ D1 hD1 hR1;let⟨s,es,rfl,J⟩:=gmap e;have R:=(AD.mp es).1;let⟨hk1,v⟩:=iu h.ss.length n4 i (by omega);have F:=iI h.ss.length n4 i (by omega);rw[show ordK h.ss.length (i+1)=gu h.ss.length (ordK h.ss.length i)from rfl]at hD1;generalize ordK h.ss.length i=os at *;ext c;refine fy (λz m=>∃b:Option L2.R,m=MSt.mk [some (.imm (.tuple [.tuple [.int h.a,.int h.b],.tuple (h.ss.map Srv.d),.bool h.mv])),some (.obj 0),some (.imm s.d),some (.obj 1),b,none] [os.map lnD,(gu h.ss.length (os.take z)).map lnD] 1) ⟨c,rfl⟩ ?_ ?_ ?_
  .rintro z m ⟨b,rfl⟩;rfl
  .rintro z d m ez nz ⟨b,rfl⟩;let⟨l,u,rfl,hz⟩:=gmap ez;let⟨hl4,V⟩:=v l (GT u);have hzl:=(AD.mp u).1;have O:=F z (by omega);ext s;rw[iO];ext d;let⟨G,j⟩:∃G:Nat->List (List Nat),G=λy=>((aax y).filter λq=>!l.contains q).map λq=>l++[q]:=⟨_,rfl⟩;have B:gu h.ss.length (os.take z)++G h.ss.length=gu h.ss.length (os.take (z+1)):=by rw[j,qi u]
   have C:G 0=[]:=by rw[j];rfl
   have t:∀y,G (y+1)=G y++([y].filter λq=>!l.contains q).map λq=>l++[q]:=λy=>by
    rw[j];show((aax (y+1)).filter _).map _=_;rw[ab2,aeV,aaD]
   have p:∀y,y≤4->(G y).length≤4:=λy S=>by
    rw[j];dsimp only;rw[iO];have:=aec (λq=>!l.contains q) (aax y);rw[aaW]at this;omega
   clear j;ext n;refine bU (λy m=>∃c:Option L2.R,m=MSt.mk [c,some (.imm (lnD l))] [os.map lnD,(gu h.ss.length (os.take z)).map lnD,(G y).map lnD] 3) ⟨none,by rw[C];rfl⟩ ?_ ?_
   .rintro y d m ey ny ⟨c,rfl⟩ D2 hD2 hR2;let⟨S,rfl⟩:=cw ey;rw[show(0:Int)+(y:Int)=((y:Nat):Int) by omega];have N:=p y (by omega);have I:(natD l).any (λx=>aad x (.int (y:Int)))=l.contains y:=by
     rw[abl,acT,af2];constructor
     .rintro⟨x,hx,ex⟩;let⟨w,hw,e0⟩:=aam.mp hx;rw[<-e0,cp]at ex;rw[<-of_decide_eq_true ex];exact hw
     .intro hm;exact⟨_,aam.mpr ⟨y,hm,rfl⟩,by rw[cp];exact decide_eq_true rfl⟩
    ext s;refine x_in (d:=.int (y:Int)) (ds:=natD l) rfl (.inr rfl) (cE _) (br l) (by decide) ?_;ext s;rw[I]
    cases hc:l.contains y with
    |true=>
     refine jw ?_;ext s;refine hD2 _ ⟨some (.imm (.int (y:Int))),?_⟩;rw[t,show([y].filter λq=>!l.contains q)=[] by rw[acp,hc];rfl,adp,aaY];rfl
    |false=>
     refine jy ?_;ext s;refine ku (by rw[aak,bj];simp;omega) ?_;ext s;refine⟨_,rfl,by rw[aak,iO];omega,hD2 _ ⟨some (.imm (.int (y:Int))),?_⟩⟩;rw[t,show([y].filter λq=>!l.contains q)=[y] by rw[acp,hc];rfl,aaD];simp[lnD,natD,MSt.setV]
   .rintro m ny ⟨c,rfl⟩;rw[aV];have hg:=p h.ss.length n4;ext s;refine' xw (ds:=(gu h.ss.length (os.take z)).map lnD) ?eb (by rw[aak,iO];show _+((G h.ss.length).map lnD).length≤_;rw[iO];omega) ?_
    case eb=>rfl
    rw[<-B,aaD];exact⟨_,rfl⟩
  .rintro m nz ⟨b,rfl⟩;rw[iO,aau];ext n;refine JJ ?_;refine FH rfl ?_;exact og [1] (MSt.mk [some (.imm (.tuple [.tuple [.int h.a,.int h.b],.tuple (h.ss.map Srv.d),.bool h.mv])),some (.obj 0),some (.imm s.d),none,none,none] [(gu h.ss.length os).map lnD] 0) (B5 rfl rfl rfl rfl rfl rfl ⟨rfl,⟨1,rfl,rfl⟩,rfl,trivial,trivial,trivial,trivial⟩) (hD1 _ ⟨_,_,rfl⟩)
 intro m n ⟨a,c,rfl⟩;rw[iO];ext x;refine fy (λi m=>∃a:Option L2.R,m=MSt.mk [a] [(ordK h.ss.length h.ss.length).map lnD,((ordK h.ss.length h.ss.length).take i).map λo=>(Mv.come o).d] 2) ⟨none,rfl⟩ ?_ ?_ ?_
 .rintro i m ⟨a,rfl⟩;rfl
 .rintro i d m e g ⟨a,rfl⟩;let⟨o,Z,rfl,J⟩:=gmap e;ext s;refine⟨_,rfl,by rw[aak,iO,aaC];omega,some (.imm (lnD o)),?_⟩;rw[aaJ,Z,aaD];rfl
 intro m g ⟨a',rfl⟩;rw[iO,aau];ext x;refine⟨by rw[iO];omega,by rw[iO];omega,?_⟩;rw[iO,aaN];refine bU (λi m=>∃a:Option L2.R,m=MSt.mk [a] [(ordK h.ss.length h.ss.length).map lnD,(aax i).map λk=>(Mv.done k).d] 2) ⟨none,rfl⟩ ?_ ?_
 .rintro i d m e g ⟨a,rfl⟩ D1 hD1 hR1;let⟨J,rfl⟩:=cw e;ext s;refine⟨_,rfl,by rw[aak,iO,aaW];omega,hD1 _ ⟨some (.imm (.int (0+(i:Int)))),?_⟩⟩;rw[ab2,aaD,show(0:Int)+(i:Int)=((i:Nat):Int) by omega];rfl
 intro m g ⟨W,rfl⟩;rw[aV];ext x;refine zt (a:=(ordK h.ss.length h.ss.length).map λo=>(Mv.come o).d) (b:=(aax h.ss.length).map λk=>(Mv.done k).d) (by rw[iO,iO,aaW,aak];omega) ?_;ext c;refine Js (k:=1) (a:=(ordK h.ss.length h.ss.length).map (λo=>(Mv.come o).d)++(aax h.ss.length).map λk=>(Mv.done k).d) rfl (by rw[aan,iO,iO,aaW,aak];simp;omega) ?_;rw[OU]at k;ext s;exact k
theorem va(T:Bl K mg)(D:DefM K mg "_law_both" jK ["_law_hall_here","_law_one","_law_other","_law_triple","_law_move"])(a:FnM P w K mg base "_law_step" 4 4 IU)(G:FnM P w K mg base "_law_kept" 1 2 mh):FnM P w K mg base "_law_both" 5 5 vZ:=by
 refine bh D d6 rfl (nN:=9) rfl (by decide) ?ar λq A outer s H E f c=>⟨_,(mz' (cB (mf' a (c.mono (by decide)) (mc' (mv' 0) (mc' (mv' 1) (mc' (ae (mv' 3) mh') (mc' (mv' 4) mn'))))) (bo (n:=2) (ac (am 5 d6.nd) (ac (am 6 d6.nd) aP))))
   (mz' (cB (mf' a (c.mono (by decide)) (mc' (mv' 0) (mc' (mv' 2) (mc' (ae (mv' 3) mh') (mc' (mv' 4) mn'))))) (bo (n:=2) (ac (am 7 d6.nd) (ac (am 8 d6.nd) aP))))
   (aa (af (ag (mc' (mf' G (c.mono (by decide)) (mc' (mv' 0) (mc' (mv' 5) mn'))) (mc' (mf' G (c.mono (by decide)) (mc' (mv' 0) (mc' (mv' 7) mn'))) (mc' (ah CP (ah aK (ae (mv' 3) mh') (cz lq (by rfl) T.int xW (mc' (c9 (bF c.units) (mv' 8) ai (aC _)) mn'))) (cz lq (by rfl) T.int xW (mc' (c9 (bF c.units) (mv' 6) ai (aC _)) mn'))) mn')))))))),?_⟩
 case ar=>intro u x ⟨h,r1,o,t,m,rfl,_⟩;rfl
 intro u x y ⟨h,r1,o,t,m,rfl,b,d,g,n1,n2,p,i,j,k⟩;have n4:=b.n4;have S:=jn b d (t:=0) ⟨p,λz=>(n1 z).elim,by decide⟩ j;have v:=jn b g (t:=0) ⟨i,λz=>(n2 z).elim,by decide⟩ j;refine au (MSt.mk [some (.imm h.d),some (.imm r1.d),some (.imm o.d),some (.imm (.tuple [lnD t.1,lnD t.2.1,.int t.2.2])),some (.imm m.d),none,none,none,none] [] 0) rfl ?_;ext s;refine⟨h,r1,t.1,m,rfl,b,d,n1,p,j,?_⟩;ext n;unfold lwD;ext s
 .rfl
 ext s;refine⟨h,o,t.2.1,m,rfl,b,g,n2,i,j,?_⟩;ext n;unfold lwD;ext s
 .rfl
 ext s;refine⟨h,_,rfl,b,by have:=S.ln.1;omega,?_⟩;ext x;refine⟨h,_,rfl,b,by have:=v.ln.1;omega,?_⟩;ext x;have e:∀w:Wd,(if decide (w.s = "away")=true then(1:Int)else 0)=aw w:=λw=>by cases w<;>decide +kernel
 rw[e,e];exact k
def rH(T:Bl K mg)(D:DefM K mg "_law_is_bad" gC ["_law_triple"]):FnM P w K mg base "_law_is_bad" 1 1 qR:=by
 refine bh D rf rfl (nN:=1) rfl (by decide) ?ar λc A outer s H E f d=>⟨_,(aa (af (SF (c9 gJ (ae (mv' 0) mh') mh' (aC _)) (Av (c9 jD (av (iA rfl) (by rfl) T.sum tx (mc' (ae (mv' 0) mh') mn')) (ah aK (av (iA rfl) (by rfl) T.sum tx (mc' (ae (mv' 0) mh') mn')) (ae (mv' 0) mh')) (aC _)))))),?_⟩
 case ar=>intro a b ⟨t,rfl,_⟩;rfl
 intro a b e ⟨t,rfl,k⟩;refine au (MSt.mk [some (.imm (.tuple [lnD t.1,lnD t.2.1,.int t.2.2]))] [] 0) rfl ?_;ext s;unfold bad at k;refine bm (λz=>?_) (λz=>?_)
 .rw[decide_eq_true z,Bool.true_or]at k;ext s;exact k
 .rw[decide_eq_false z,Bool.false_or]at k;ext s;refine vH rfl (iB t.1) ?_;rw[nh];ext s;refine vH rfl (iB t.2.1) ?_;rw[nh];ext s;exact k
theorem rm(T:Bl K mg)(D:DefM K mg "_law_search" gG ["_law_hall_here","_law_one","_law_other","_law_most"])(k:FnM P w K mg base "_law_moves" 1 1 jG)(o:FnM P w K mg base "_law_both" 5 5 vZ)(G:FnM P w K mg base "_law_is_bad" 1 1 qR):FnM P w K mg base "_law_search" 6 4 xz:=by
 refine bh D aY rfl (nN:=14) rfl (by decide) ?ar λcdv A outer s H E f S=>⟨_,(mz' (aA 4 aY.nd (ah bT (ag (mc' mh' mn')) (av bc (by rfl) T.len cq (mc' (ae (mv' 0) mh') mn'))))
   (mz' (aA 5 aY.nd (GH S.units (ag (mc' (mv' 4) (mc' (mv' 4) mn'))) mh'))
   (mz' (aA 6 aY.nd (cg (mc' (ag (mc' (mv' 4) (mc' (mv' 4) (mc' mh' mn')))) mn')))
   (mz' (aA 7 aY.nd mh')
   (mz' (dJ (EW.pt (i8 (ak (iL S.units) (mv' 6) (cg mn') (aC _)) (ig (ak Iy (av p6 (by rfl) T.len cq (mc' (mv' 5) mn')) (mv' 3) (aC _))))) (mz' (aA 7 aY.nd (ah aK (mv' 7) mh'))
   (mz' (aA 8 aY.nd (cg mn'))
   (mz' (ca (bp (mv' 6)) (am 9 aY.nd) (aa (ca (bp (dq (mf' k (S.mono (by decide)) (mc' (mv' 0) mn')))) (am 10 aY.nd) (mz' (cB (mf' o (S.mono (by decide)) (mc' (mv' 0) (mc' (mv' 1) (mc' (mv' 2) (mc' (mv' 9) (mc' (mv' 10) mn')))))) (bo (n:=3) (ac (am 11 aY.nd) (ac (am 12 aY.nd) (ac (am 13 aY.nd) aP)))))
   (mz' (aH (bG (mf' G (S.mono (by decide)) (mc' (ag (mc' (mv' 11) (mc' (mv' 12) (mc' (mv' 13) mn')))) mn'))) (aa (af (ag (mc' ai (mc' (mv' 7) mn'))))) ap)
   (aa (aH (ak gJ (mv' 13) (tm S.units (mv' 5) (mc' (ag (mc' (mv' 11) (mc' (mv' 12) mn'))) (mc' (ah aK (mv' 13) mh') mn'))) (aC _)) (mz' (jm S.units (mv' 13) (mv' 5) (ag (mc' (mv' 11) (mc' (mv' 12) mn'))))
   (aa (dG (mQ acM acN pk (mv' 8) (mc' (ag (mc' (mv' 11) (mc' (mv' 12) (mc' (mv' 13) mn')))) mn'))))) ap)))) aaE)) aaE)
   (aa (aA 6 aY.nd (mv' 8)))))) aaE)
   (aa (JP (af (vK (ak Iy (av p6 (by rfl) T.len cq (mc' (mv' 5) mn')) (mv' 3) (aC _)) (ag (mc' ai (mc' (mv' 5) mn'))) fq))))))))),?_⟩
 case ar=>intro as Kc ⟨h,r1,g,mo,rfl,_⟩;rfl
 intro as Kc hl ⟨h,r1,g,mo,rfl,v,O,U,R,n1,n2,k1,k2,k3⟩;have n4:=v.n4;have lz:=(ic v r1).ln;refine au (MSt.mk [some (.imm (.tuple [.tuple [.int h.a,.int h.b],.tuple (h.ss.map Srv.d),.bool h.mv])),some (.imm r1.d),some (.imm g.d),some (.imm (.int (mo:Int))),none,none,none,none,none,none,none,none,none,none] [] 0) rfl ?_;ext e;rw[show(abw (aar (h.ss.length:Int).toNat [abu 0]).flatten)=lnD (zer h) by
  rw[aaN,qx];exact congrArg _ (qM _ 0)]
 ext x;refine⟨yf (p:=(zer h,zer h)) v lz lz,?_⟩;refine qI ?_;ext x;refine da ?_;ext x;have D0:DkOk h [((zer h,zer h),0)]:=⟨ach _ _,λp y=>by rw[aaa.mp y];exact⟨lz,lz⟩,λp y=>by rw[aaa.mp y];exact aeq _,λp y=>by rw[aaa.mp y];exact⟨fU,fU⟩⟩;refine jf (λn m=>∃(L:List (Pk×Int)) (ln:List Tr) (M:Nat) (q:Nat),m=MSt.mk [some (.imm h.d),some (.imm r1.d),some (.imm g.d),some (.imm (.int (mo:Int))),some (.imm (lnD (zer h))),some (.at 0 []),some (.obj 1),some (.imm (.int (q:Int))),none,none,none,none,none,none] [[.dict (lfKV (ldD L))],ln.map trD] 0/\DkOk h L/\(∀p∈L,p.2≤(M:Int))/\M≤L.length/\(∀t∈ln,RcT h r1 g t/\0≤t.2.2/\t.2.2≤(M:Int))/\n=mea h M L ln.isEmpty/\Lv h r1 g q L ln) _ ⟨[((zer h,zer h),0)],[(zer h,zer h,0)],0,0,rfl,D0,(λp y=>by rw[aaa.mp y];exact aeq _),abh _,(λt ht=>by rw[aaa.mp ht];exact⟨.here,aeq _,aeq _⟩),rfl,Lv.zero⟩ ?_;intro n m Y ⟨L,ln,M,q,rfl,D,V,hM,hln,hn,LV⟩;have C:kyA (ldD L)=true:=yM v D.ln;ext s;refine x_ne (d1:=.list (ln.map trD)) (d2:=.list []) rfl rfl (Ox ln) (by decide +kernel) ?_;rw[Ls]
 cases hE:ln.isEmpty with
 |true=>
  ext s;rw[if_neg (show ¬(!true)=true from aaj)];ext s;ext n;refine O8 0 5 (ldD L) [] (MSt.mk [some (.imm h.d),some (.imm r1.d),some (.imm g.d),some (.imm (.int (mo:Int))),none,some (.imm (.dict (ldD L))),none,none,none,none,none,none,none,none] [] 0) rfl rfl C (Md rfl rfl rfl rfl rfl rfl rfl rfl ⟨.inl rfl,.inl rfl,.inl rfl,.inl rfl,.inl trivial,.inr ⟨rfl,.inr rfl⟩,.inl trivial,.inl trivial,.inl trivial,.inl trivial,.inl trivial,.inl trivial,.inl trivial,.inl trivial,trivial⟩) ?_;ext s;refine Ba ?_;ext s;refine zd (kvs:=ldD L) (show _=_ from rfl) (by rw[C,ac2]) ?_;ext s;refine bm (λX=>?_) (λX=>?_)
  .have en:ln=[]:=ag2.mp hE;subst en;ext s;exact k2 _ LV.sound (LV.cov (by unfold ldD at X;rw[iO]at X;omega))
  .ext s;exact k3
 | false=>
  ext s;rw[if_pos (show(!false)=true by rfl)];ext s;refine zd (kvs:=ldD L) (show _/\_ from⟨rfl,rfl⟩) (by rw[C,ac2]) ?_;ext s;refine bm (λz=>?_) (λz=>?_)
  .ext c;have T0:TnOk h (RcT h r1 g) M L L []:=TnOk.zero D V;refine Ju (λi m=>∃(a b c d e:Option L2.R) (L':List (Pk×Int)) (F:List Tr),m=MSt.mk [some (.imm h.d),some (.imm r1.d),some (.imm g.d),some (.imm (.int (mo:Int))),some (.imm (lnD (zer h))),some (.at 0 []),some (.obj 1),some (.imm (.int ((q:Int)+1))),some (.obj 2),a,b,c,d,e] [[.dict (lfKV (ldD L'))],ln.map trD,F.map trD] 2/\TnOk h (RcT h r1 g) M L L' F/\Lw h r1 g q L ln L' F i 0) ⟨none,none,none,none,none,L,[],rfl,T0,.zero LV D⟩ ?_ ?_ ?_
   .rintro i m ⟨a,b,c,d,e,L',F,rfl,_⟩;rfl
   .rintro i d m ei Y ⟨a,b,c,d,e,L1,F1,rfl,T1,W1⟩ D1 hD1 hR1;let⟨t,et,rfl,hi⟩:=gmap ei;let⟨Rt,t0,tM⟩:=hln t (GT et);have Lt:=g9 v U R n1 n2 Rt;ext s;refine⟨h,rfl,v,?_⟩;ext x;refine bU (λi' m=>∃(b c d e:Option L2.R) (L':List (Pk×Int)) (F:List Tr),m=MSt.mk [some (.imm h.d),some (.imm r1.d),some (.imm g.d),some (.imm (.int (mo:Int))),some (.imm (lnD (zer h))),some (.at 0 []),some (.obj 1),some (.imm (.int ((q:Int)+1))),some (.obj 2),some (.imm (trD t)),b,c,d,e] [[.dict (lfKV (ldD L'))],ln.map trD,F.map trD] 2/\TnOk h (RcT h r1 g) M L L' F/\Lw h r1 g q L ln L' F i i') ⟨b,c,d,e,L1,F1,rfl,T1,W1⟩ ?_ ?_
    .clear T1 hD1 W1;intro j x m ej hnp' ⟨b,c,d,e,J,F2,rfl,N,W2⟩ D2 Z hR2;let⟨mv,em,rfl,hi'⟩:=gmap ej;have mm:=GT em;have om:=qf v mv mm;ext s;refine⟨h,r1,g,t,mv,rfl,v,U,R,n1,n2,Lt.1,Lt.2,om,?_⟩;have RB:=RcT.next Rt mm;have LB:=g9 v U R n1 n2 RB;have vB:(bth h r1 g t mv).2.2≤(M:Int)+1:=ad8 II (by omega);have kB:cW h (bth h r1 g t mv).1=(bth h r1 g t mv).1/\cW h (bth h r1 g t mv).2.1=(bth h r1 g t mv).2.1:=⟨jk h _,jk h _⟩;have st:=λL' F'=>W2.step (L':=L') (F':=F') et em;have bd:=W2.bad et mm;generalize bth h r1 g t mv=B at *;rw[show trD B = .tuple [lnD B.1,lnD B.2.1,.int B.2.2]from rfl];ext x
     .rfl
     ext s;refine⟨B,rfl,?_⟩;have I:kyA (ldD J)=true:=yM v N.dk.ln;have kt:kyD (pkD (B.1,B.2.1))=true:=yf v LB.1 LB.2
     cases hb:bad B with
     |true=>
      ext x;exact hR2 _ _ (hR1 _ _ (k1 _ (bd hb).1 (bd hb).2))
     | false=>
      ext x;refine⟨ldD J,⟨rfl,rfl⟩,.inr I,?_⟩;ext s;refine⟨ldD J,pkD (B.1,B.2.1),.int (B.2.2+1),rfl,(show _/\_ from⟨rfl,rfl⟩),by unfold oneK;rw[I,show kyD (pkD (B.1,B.2.1))=true from kt,acb,ac2],?_⟩;rw[u9,show((lkL (B.1,B.2.1) J).map abu).getD (.int (B.2.2+1)) = .int ((lkL (B.1,B.2.1) J).getD (B.2.2+1)) by cases lkL (B.1,B.2.1) J<;>rfl];ext s;refine bm (λW=>?_) (λW=>?_)
      .have T3:=N.put LB.1 LB.2 kB RB (Jh hb) vB W;have p1:=OG D V O (by omega);have p2:=N.pt;have p3:=N.dk.len;have p4:nP h≤144:=abC O O;ext s;refine⟨_,ldD J,rfl,rfl,rfl,I,kt,by unfold ldD;rw[iO,aak];omega,?_⟩;rw[show abw [lnD B.1,lnD B.2.1]=pkD (B.1,B.2.1)from rfl,x8];ext x;refine' wN (ds:=F2.map trD) ?eb (by rw[aak,iO];omega) ?_
       case eb=>rfl
       ext n;rw[show F2.map trD++[abw [lnD B.1,lnD B.2.1,.int B.2.2]]=(F2++[B]).map trD by rw[aaD];rfl];exact Z _ ⟨_,_,_,_,_,_,rfl,T3,st _ _ hb T3.dk (λu z=>z.set N.dk W) ⟨_,lm _,.refl _⟩ (λp y=>(fb y).elim (λz=>.inr (by rw[z];exact aaH _ aae)) .inl) (λu Q=>aby _ Q) λu Q=>(aaG.mp Q).imp id aaa.mp⟩
      .ext s;refine Z _ ⟨_,_,_,_,_,_,rfl,N,st _ _ hb N.dk (λu z=>z) ?_ (λp y=>.inl y) (λu Q=>Q) λu Q=>.inl Q⟩
       cases e:lkL (B.1,B.2.1) J with
       |none=>rw[e]at W;exact(W (show B.2.2<B.2.2+1 by omega)).elim
       |some w=>rw[e]at W;exact QC e (Int.not_lt.mp W) rfl
    .rintro m hnp' ⟨b,c,d,e,J,F2,rfl,N,W2⟩;rw[iO]at W2;exact hD1 _ ⟨_,_,_,_,_,J,F2,rfl,N,W2.next⟩
   .rintro m Y ⟨a,b,c,d,e,L',F,rfl,T1,W1⟩;ext n;have Tb:=GW (u:=F.length) T1.ll T1.dk.len T1.pt;refine JJ (FH rfl (og [0,2] (MSt.mk [some (.imm h.d),some (.imm r1.d),some (.imm g.d),some (.imm (.int (mo:Int))),some (.imm (lnD (zer h))),some (.at 0 []),some (.obj 1),some (.imm (.int ((q:Int)+1))),none,none,none,none,none,none] [[.dict (lfKV (ldD L'))],F.map trD] 0) (B5 rfl rfl rfl rfl rfl rfl ⟨rfl,rfl,rfl,rfl,rfl,⟨0,rfl,rfl⟩,⟨2,rfl,rfl⟩,rfl,trivial,trivial,trivial,trivial,trivial,trivial,trivial⟩) ⟨_,?_,L',F,bnd M L L',q+1,rfl,T1.dk,T1.vl,?_,T1.fr,rfl,by rw[iO]at W1;exact W1.end⟩))
    .rw[hn,hE]
     cases F with
     |nil=>exact Tb.1 rfl
     |cons x F=>exact Tb.2 (afM _)
    .have:=T1.ll;unfold bnd
     split<;>omega
  .ext s;ext n;refine O8 0 5 (ldD L) [] (MSt.mk [some (.imm h.d),some (.imm r1.d),some (.imm g.d),some (.imm (.int (mo:Int))),none,some (.imm (.dict (ldD L))),none,none,none,none,none,none,none,none] [] 0) rfl rfl C (Md rfl rfl rfl rfl rfl rfl rfl rfl ⟨.inl rfl,.inl rfl,.inl rfl,.inl rfl,.inl trivial,.inr ⟨rfl,.inr rfl⟩,.inl trivial,.inl trivial,.inl trivial,.inl trivial,.inl trivial,.inl trivial,.inl trivial,.inl trivial,trivial⟩) ?_;ext s;refine Ba ?_;ext s;refine zd (kvs:=ldD L) (show _=_ from rfl) (by rw[C,ac2]) ?_;ext s;refine bm (λX=>(z X).elim) (λX=>?_);ext s;exact k3
def oi(T:Bl K mg)(D:DefM K mg "_law_is_whole" fx ["_law_thing"]):FnM P w K mg base "_law_is_whole" 1 1 Kh:=by
 refine bh D oh rfl (nN:=1) rfl (by decide) ?ar λb A outer s H E f g=>⟨_,(aa (af (Ai (jb (mv' 0) Nr T.isinstance T.int xW) (Ai (JS (jb (mv' 0) GC T.isinstance T.bool K8)) (Av (c9 Bo (mv' 0) mh' (aC _))))))),?_⟩
 case ar=>intro d e ⟨n,rfl,_⟩;rfl
 intro d e i ⟨n,rfl,a,k⟩;refine au (MSt.mk [some (.imm (.int n))] [] 0) rfl ?_;ext s;rw[if_pos (c:=fInt (tyR (R.imm (.int n)))=true) rfl];ext s;rw[tyI];ext s;rw[show decide ((0:Int)≤n)=true from decide_eq_true a];exact k
theorem nr(T:Bl K mg)(D:DefM K mg "_law_is_lines" fj ["_law_hall_here","_law_thing"])(G:FnM P w K mg base "_law_is_whole" 1 1 Kh)(b:FnM P w K mg base "_law_kept" 1 2 mh):FnM P w K mg base "_law_is_lines" 2 2 Rb:=by
 refine bh D gN rfl (nN:=3) rfl (by decide) ?ar λu A outer s H E f j=>⟨_,(mz' (aH (EW.pt (di (cR (bG (jb (mv' 1) gU T.isinstance T.tuple c6))) (de (ak (iL j.units) (av bc (by rfl) T.len cq (mc' (mv' 1) mn')) (av bc (by rfl) T.len cq (mc' (ae (mv' 0) mh') mn')) (aC _))))) (aa (af gW)) ap)
   (mz' (ca (cb (by rfl) T.range (mc' (av bc (by rfl) T.len cq (mc' (mv' 1) mn')) mn')) (am 2 gN.nd) (aa (aH (EW.pt (di (cR (bG (mf' G (j.mono (by decide)) (mc' (ae (mv' 1) (mv' 2)) mn')))) (de (ak jD (ae (mv' 1) (mv' 2)) (ae (ae (ae (mv' 0) mh') (mv' 2)) mh') (aC _))))) (aa (af gW)) ap)) aaE)
   (aa (af (c9 (bF j.units) (mf' b (j.mono (by decide)) (mc' (mv' 0) (mc' (mv' 1) mn'))) (mv' 1) (aC _)))))),?_⟩
 case ar=>intro x v ⟨h,l,rfl,_⟩;rfl
 intro x v I ⟨h,l,rfl,q,t,y,k⟩;have g:=t.1;have n4:=q.n4;refine au (MSt.mk [some (.imm (.tuple [.tuple [.int h.a,.int h.b],.tuple (h.ss.map Srv.d),.bool h.mv])),some (.imm (.tuple (natD l))),none] [] 0) rfl ?_;ext s;rw[tyT];ext s;rw[bj,iO,g];rw[decide_eq_false (p:=((h.ss.length:Nat):Int)≠(h.ss.length:Nat)) (λz=>z rfl)];ext s;rw[bj,g];ext d;refine bU (λi m=>∃a:Option L2.R,m=MSt.mk [some (.imm (.tuple [.tuple [.int h.a,.int h.b],.tuple (h.ss.map Srv.d),.bool h.mv])),some (.imm (.tuple (natD l))),a] [] 0) ⟨none,rfl⟩ ?_ ?_
 .rintro i d m e hnp ⟨a,rfl⟩ D1 hD1 hR1;let⟨B,rfl⟩:=cw e;rw[show(0:Int)+(i:Int)=((i:Nat):Int) by omega];let⟨s,o,J,eb,C⟩:=h.srv (show i<h.ss.length by omega);have n:=getN g (show i<h.ss.length by omega);have F:=t.2 i s _ o n;ext s;refine aU (bg (bq n)) ?_;ext s;refine⟨_,rfl,by omega,?_⟩;ext x;rw[if_neg (c:=(!true)=true) (by decide)];ext s;refine aU (bg (bq n)) ?_;ext s;refine aU (d:=s.d) (bg (by rw[aai,o];rfl)) ?_;unfold Srv.d;ext s;rw[decide_eq_false (p:=(s.r:Int)<(l.getD i 0:Nat)) (by omega)];ext s;exact hD1 _ ⟨_,rfl⟩
 .rintro m hnp ⟨a,rfl⟩;ext s;refine⟨h,l,rfl,q,by omega,?_⟩;ext n;rw[y];ext s;refine x_eq (d1:=lnD l) (d2:=lnD l) rfl rfl ((bf (br l)).ok (by decide)) ((bf (br l)).ok (by decide)) ?_;rw[fu,decide_eq_true rfl];exact k
theorem k6(T:Bl K mg)(D:DefM K mg "_law_not_never" d7 ["_law_hall_here","_law_one","_law_other","_law_thing"])(o:FnM P w K mg base "_law_is_whole" 1 1 Kh)(g:FnM P w K mg base "_law_is_lines" 2 2 Rb)(q:FnM P w K mg base "_law_is_bad" 1 1 qR)(x:FnM P w K mg base "_law_moves" 1 1 jG)(C:FnM P w K mg base "_law_both" 5 5 vZ):FnM P w K mg base "_law_not_never" 6 4 AE:=by
 refine bh D aG rfl (nN:=12) rfl (by decide) ?ar λcdv A outer s H E f I=>⟨_,(mz' (aH (EW.pt (di (ak (bF I.units) (ae (mv' 1) mh') ai (aC _)) (de (ak (bF I.units) (ae (mv' 2) mh') ai (aC _))))) (aa (af (ag (mc' ai (mc' (ia dW mh') mn'))))) ap)
   (mz' (aH (cR (bG (jb (mv' 3) gU T.isinstance T.tuple c6))) (aa (af (ag (mc' ai (mc' (ia dW mh') mn'))))) ap)
   (mz' (ca (bp (mv' 3)) (am 4 aG.nd) (mz' (aH (EW.pt (di (cR (bG (jb (mv' 4) gU T.isinstance T.tuple c6))) (di (ak (iL I.units) (av bc (by rfl) T.len cq (mc' (mv' 4) mn')) mh' (aC _)) (de (cR (bG (mf' o (I.mono (by decide)) (mc' (ae (mv' 4) mh') mn')))))))) (aa (af (ag (mc' ai (mc' (ia dW mh') mn'))))) ap)
   (aa (aH (EW.pt (di (cR (bG (mf' g (I.mono (by decide)) (mc' (mv' 0) (mc' (ae (mv' 4) mh') mn'))))) (de (cR (bG (mf' g (I.mono (by decide)) (mc' (mv' 0) (mc' (ae (mv' 4) mh') mn')))))))) (aa (af (ag (mc' ai (mc' (ia dW mh') mn'))))) ap))) aaE)
   (mz' (aA 5 aG.nd (ah bT (ag (mc' mh' mn')) (av bc (by rfl) T.len cq (mc' (ae (mv' 0) mh') mn'))))
   (mz' (aH (ak (gF I.units) (ag (mc' (mv' 5) (mc' (mv' 5) (mc' mh' mn')))) (mv' 3) (by with_unfolding_all rfl)) (aa (af (ag (mc' ai (mc' (ia dW mh') mn'))))) ap)
   (mz' (aA 6 aG.nd qE)
   (mz' (ca (bp (mv' 3)) (bo (n:=3) (ac (am 7 aG.nd) (ac (am 8 aG.nd) (ac (am 9 aG.nd) aP)))) (aa (jm I.units (av (za rfl) (by rfl) T.min Ue (mc' (mv' 9) (mc' (tm I.units (mv' 6) (mc' (ag (mc' (mv' 7) (mc' (mv' 8) mn'))) (mc' (mv' 9) mn'))) mn'))) (mv' 6) (ag (mc' (mv' 7) (mc' (mv' 8) mn'))))) aaE)
   (mz' (ca (cb (by rfl) T.range (mc' (av bc (by rfl) T.len cq (mc' (mv' 3) mn')) mn')) (am 10 aG.nd) (mz' (aH (bG (mf' q (I.mono (by decide)) (mc' (ae (mv' 3) (mv' 10)) mn'))) (aa (af (ag (mc' ai (mc' (mv' 10) mn'))))) ap)
   (aa (ca (bp (dq (mf' x (I.mono (by decide)) (mc' (mv' 0) mn')))) (am 11 aG.nd) (mz' (cB (mf' C (I.mono (by decide)) (mc' (mv' 0) (mc' (mv' 1) (mc' (mv' 2) (mc' (ae (mv' 3) (mv' 10)) (mc' (mv' 11) mn')))))) (bo (n:=3) (ac (am 7 aG.nd) (ac (am 8 aG.nd) (ac (am 9 aG.nd) aP)))))
   (aa (aH (EW.pt (di (ak (j3 I.units) (ag (mc' (mv' 7) (mc' (mv' 8) mn'))) (mv' 6) (by with_unfolding_all rfl)) (de (ak jD (qK I.units (mv' 6) (ag (mc' (mv' 7) (mc' (mv' 8) mn')))) (mv' 9) (aC _))))) (aa (af (ag (mc' ai (mc' (mv' 10) mn'))))) ap))) aaE))) aaE)
   (aa (af fq)))))))))),?_⟩
 case ar=>intro as Kc ⟨h,r1,O,P,rfl,_⟩;rfl
 intro as Kc hl ⟨h,r1,O,P,rfl,G,N,X,lP,k⟩;refine au (MSt.mk [some (.imm (.tuple [.tuple [.int h.a,.int h.b],.tuple (h.ss.map Srv.d),.bool h.mv])),some (.imm r1.d),some (.imm O.d),some (.imm (.tuple (P.map trD))),none,none,none,none,none,none,none,none] [] 0) rfl ?_;ext s;let⟨t1,e1⟩:=xQ r1;let⟨t2,e2⟩:=xQ O;refine j1 e1 ?_;ext s;rw[qo G.n1];ext s;refine j1 e2 ?_;ext s;rw[qo G.n2];ext s;rw[tyT];ext s;refine bU (λi m=>∃a:Option L2.R,m=MSt.mk [some (.imm h.d),some (.imm r1.d),some (.imm O.d),some (.imm (.tuple (P.map trD))),a,none,none,none,none,none,none,none] [] 0) ⟨none,rfl⟩ ?_ ?_
 .rintro i d m e hnp ⟨a,rfl⟩ D1 hD1 hR1;let⟨t,Q,rfl,W⟩:=gmap e;have F:=X t (GT Q);rw[show trD t = .tuple [lnD t.1,lnD t.2.1,.int t.2.2]from rfl];ext s;rw[tyT];ext s;rw[decide_eq_false (p:=((([lnD t.1,lnD t.2.1,abu t.2.2]:List aD).length:Nat):Int)≠3) (λz=>z rfl)];ext s;refine⟨t.2.2,rfl,F.d0,?_⟩;ext x;rw[if_neg (c:=(!true)=true) (by decide)];ext s;refine⟨h,t.1,rfl,G.o,F.x,F.kx,?_⟩;ext x;rw[if_neg (c:=(!true)=true) (by decide)];ext s;refine⟨h,t.2.1,rfl,G.o,F.y,F.ky,?_⟩;ext x;rw[if_neg (c:=(!true)=true) (by decide)];ext s;exact hD1 _ ⟨_,rfl⟩
 .rintro m hnp ⟨a,rfl⟩;refine au (MSt.mk [some (.imm (.tuple [.tuple [.int h.a,.int h.b],.tuple (h.ss.map Srv.d),.bool h.mv])),some (.imm r1.d),some (.imm O.d),some (.imm (.tuple (P.map trD))),a,none,none,none,none,none,none,none] [] 0) rfl ?_;have n4:=G.o.n4;ext e;rw[show(abw (aar (h.ss.length:Int).toNat [abu 0]).flatten)=lnD (zer h) by
   rw[aaN,qx];exact congrArg _ (qM _ 0)]
  ext x;refine x_in (d:=trD (zer h,zer h,0)) (ds:=P.map trD) rfl (.inr rfl) (zO _) (k':=2) (λy hy=>by let⟨t,_,rfl⟩:=aam.mp hy;exact zO t) (by decide) ?_;rw[Rj,decide_eq_true N.b0];ext g;refine bU (λi m=>∃(b c d:Option L2.R) (L:List (Pk×Int)),m=MSt.mk [some (.imm h.d),some (.imm r1.d),some (.imm O.d),some (.imm (.tuple (P.map trD))),a,some (.imm (lnD (zer h))),some (.at 0 []),b,c,d,none,none] [[.dict (lfKV (ldD L))]] 0/\(∀p∈L,Lines h p.1.1/\Lines h p.1.2)/\L.length≤i/\∀t∈P.take i,∃v,lkL (t.1,t.2.1) L=some v/\v≤t.2.2) ⟨none,none,none,[],rfl,(λ_ z=>by cases z),aab _,λt ht=>by rw[List.take_zero]at ht;cases ht⟩ ?_ ?_
  .rintro i d m e hnp ⟨b,c,d',L,rfl,hL,hn,hc⟩ D1 hD1 hR1;let⟨t,Q,rfl,W⟩:=gmap e;have F:=X t (GT Q);have J:kyA (ldD L)=true:=yM G.o hL;have kt:kyD (pkD (t.1,t.2.1))=true:=yf G.o F.x F.y;rw[show trD t = .tuple [lnD t.1,lnD t.2.1,.int t.2.2]from rfl];ext s
   .rfl
   ext s;refine⟨ldD L,⟨rfl,rfl⟩,.inr J,?_⟩;ext s;refine⟨ldD L,pkD (t.1,t.2.1),.int t.2.2,rfl,⟨rfl,rfl⟩,by unfold oneK;rw[J,show kyD (pkD (t.1,t.2.1))=true from kt,acb,ac2],?_⟩;rw[u9,show((lkL (t.1,t.2.1) L).map abu).getD (.int t.2.2) = .int ((lkL (t.1,t.2.1) L).getD t.2.2) by cases lkL (t.1,t.2.1) L<;>rfl];ext s;refine⟨_,ldD L,rfl,rfl,rfl,J,kt,by unfold ldD;rw[iO,aak];omega,?_⟩;rw[show abw [lnD t.1,lnD t.2.1]=pkD (t.1,t.2.1)from rfl,x8];ext n;refine hD1 _ ⟨_,_,_,_,rfl,λp Z=>?_,aaw (xV _ _ _) (Nat.succ_le_succ hn),λu R=>?_⟩
   .rcases fb Z with rfl|Z
    .exact⟨F.x,F.y⟩
    .exact hL p Z
   .rw[IX]
    by_cases U:(u.1,u.2.1)=(t.1,t.2.1)
    .rw[if_pos U];refine⟨_,rfl,?_⟩;rw[aaJ,Q]at R;rcases aaG.mp R with z|z
     .obtain⟨v,S,hv⟩:=hc u z;rw[U]at S;rw[S];show(if v<t.2.2 then v else t.2.2)≤u.2.2
      split<;>omega
     .rw[aaa.mp z]
      split<;>omega
    .rw[if_neg U];rw[aaJ,Q]at R;rcases aaG.mp R with z|z
     .exact hc u z
     .exact(U (by rw[aaa.mp z])).elim
  .rintro m hnp ⟨b,c,d,L,rfl,hL,hn,hc⟩;rw[iO,aau]at hc;rw[iO]at hn;have J:kyA (ldD L)=true:=yM G.o hL;ext s;rw[iO];ext d;refine bU (λi m=>∃b c d e f:Option L2.R,m=MSt.mk [some (.imm h.d),some (.imm r1.d),some (.imm O.d),some (.imm (.tuple (P.map trD))),a,some (.imm (lnD (zer h))),some (.at 0 []),b,c,d,e,f] [[.dict (lfKV (ldD L))]] 0) ⟨b,c,d,none,none,rfl⟩ ?_ ?_
   .rintro i d' m e hnp ⟨b,c,d,e0,f,rfl⟩ D1 hD1 hR1;let⟨W,rfl⟩:=cw e;rw[show(0:Int)+(i:Int)=((i:Nat):Int) by omega];let⟨t,Q⟩:∃t,P[i]?=some t:=⟨_,lD W⟩;have V:=GT Q;have F:=X t V;ext s;refine aU (d:=trD t) (bg (by rw[aai,Q];rfl)) ?_;ext s;refine⟨t,rfl,?_⟩;ext n;rw[N.nb t V];ext s;refine⟨h,rfl,G.o,?_⟩;ext x;refine bU (λ_ m=>∃b c d f:Option L2.R,m=MSt.mk [some (.imm h.d),some (.imm r1.d),some (.imm O.d),some (.imm (.tuple (P.map trD))),a,some (.imm (lnD (zer h))),some (.at 0 []),b,c,d,some (.imm (.int (i:Int))),f] [[.dict (lfKV (ldD L))]] 0) ⟨b,c,d,f,rfl⟩ ?_ ?_
    .rintro j d' m e hnp ⟨b,c,d,f,rfl⟩ D2 hD2 hR2;let⟨mv,em,rfl,hi'⟩:=gmap e;have Y:=GT em;ext s;refine aU (d:=trD t) (bg (by rw[aai,Q];rfl)) ?_;ext s;refine⟨h,r1,O,t,mv,rfl,G.o,G.k1,G.k2,G.n1,G.n2,F.x,F.y,qf G.o mv Y,?_⟩;let⟨u,R,e1,e2,e3⟩:=N.cl t V mv Y;have LB:=mi G.o G.k1 G.k2 G.n1 G.n2 ⟨F.x,F.y⟩ Y;let⟨v,S,hv⟩:=hc u R;rw[e1,e2]at S;generalize bth h r1 O t mv=B at *;rw[show trD B = .tuple [lnD B.1,lnD B.2.1,.int B.2.2]from rfl];have on:oneK (ldD L) (pkD (B.1,B.2.1))=true:=by unfold oneK;rw[J,show kyD (pkD (B.1,B.2.1))=true from yf G.o LB.1 LB.2,acb,ac2]
     ext x
     .rfl
     ext s;refine Jo (k:=pkD (B.1,B.2.1)) (kvs:=ldD L) ⟨rfl,rfl⟩ on ?_;rw[u9,S];refine su (b:=false) ?_;ext s;refine⟨ldD L,.int v,⟨rfl,rfl⟩,on,(u9 (B.1,B.2.1) L).trans (by rw[S];rfl),?_⟩;ext s;rw[decide_eq_false (p:=B.2.2<v) (by omega)];ext s;exact hD2 _ ⟨_,_,_,_,rfl⟩
    .rintro m hnp ⟨b,c,d,f,rfl⟩;exact hD1 _ ⟨_,_,_,_,_,rfl⟩
   .rintro m hnp ⟨b,c,d,e,f,rfl⟩;ext s;exact k
theorem sN(T:Bl K mg)(D:DefM K mg "_law_right" gf ["_law_hall_here","_law_one","_law_other"])(g:FnM P w K mg base "_law_search" 6 4 xz)(o:FnM P w K mg base "never_worse" 10 3 yW)(b:FnM P w K mg base "_law_not_never" 6 4 AE)(u:FnM P w K mg base "_law_moves" 1 1 jG)(v:FnM P w K mg base "_law_both" 5 5 vZ)(j:FnM P w K mg base "_law_is_bad" 1 1 qR):FnM P w K mg base "_law_right" 11 3 xh:=by
 refine bh D b6 rfl (nN:=10) rfl (by decide) ?ar λcdv A outer s H E f t=>⟨_,(mz' (aA 3 b6.nd (mf' g (t.mono (by decide)) (mc' (mv' 0) (mc' (mv' 1) (mc' (mv' 2) (mc' mh' mn'))))))
   (mz' (aH (ak AF (mv' 3) fq (aC _)) (aa (af gW)) ap)
   (mz' (aA 4 b6.nd (av (iy t.gd t.u200) (by rfl) T.repr qQ (mc' (ag (mc' (mv' 0) (mc' (mv' 1) (mc' (mv' 2) mn')))) mn')))
   (mz' (aA 5 b6.nd (mf' o (t.mono (by decide)) (mc' (mv' 0) (mc' (mv' 1) (mc' (mv' 2) mn')))))
   (mz' (aH (EW.pt (di (cR (bG (jb (mv' 5) gU T.isinstance T.tuple c6))) (di (ak (iL t.units) (av bc (by rfl) T.len cq (mc' (mv' 5) mn')) mh' (aC _)) (di (ak (iL t.units) (ae (mv' 5) mh') (ae (mv' 3) mh') (aC _)) (de (ak (iL t.units) (av (iy t.gd t.u200) (by rfl) T.repr qQ (mc' (ag (mc' (mv' 0) (mc' (mv' 1) (mc' (mv' 2) mn')))) mn')) (mv' 4) (aC _))))))) (aa (af gW)) ap)
   (mz' (aH (ak (bF t.units) (ae (mv' 3) mh') ai (aC _)) (aa (af (c9 AF (mf' b (t.mono (by decide)) (mc' (mv' 0) (mc' (mv' 1) (mc' (mv' 2) (mc' (ae (mv' 5) mh') mn'))))) fq (aC _)))) ap)
   (mz' (aH (EW.pt (di (cR (bG (jb (ae (mv' 5) mh') gU T.isinstance T.tuple c6))) (de (ak (iL t.units) (av bc (by rfl) T.len cq (mc' (ae (mv' 5) mh') mn')) (ae (mv' 3) mh') (aC _))))) (aa (af gW)) ap)
   (mz' (aA 6 b6.nd (ah bT (ag (mc' mh' mn')) (av bc (by rfl) T.len cq (mc' (ae (mv' 0) mh') mn'))))
   (mz' (aA 7 b6.nd (ag (mc' (mv' 6) (mc' (mv' 6) (mc' mh' mn')))))
   (mz' (gL (i:=8) (own:=["_law_move"]) (fr:=[]) (ps:=[]) (sc:=(ab gf)) (by exact⟨rfl,by decide +kernel,by decide +kernel,by decide +kernel,by decide +kernel⟩) b6.nd rfl rfl (bp (dq (mf' u (t.mono (by decide)) (mc' (mv' 0) mn')))) (λ_ _ _ _ _=>(am 0 (show aaS ((["_law_move"]:List Str)++([]:List Str))from by decide +kernel))) (λ_ _ _ _ _=>bH) (λ_ _ _ _ _=>(av (iy t.gd t.u200) (by rfl) T.repr qQ (mc' (mv' 0) mn'))))
   (mz' (ca (bp (ae (mv' 5) mh')) (am 9 b6.nd) (mz' (aH (ak (gF t.units) (av (iy t.gd t.u200) (by rfl) T.repr qQ (mc' (mv' 9) mn')) (mv' 8) (by with_unfolding_all rfl)) (aa (af gW)) ap)
   (aa (aA 7 b6.nd (mf' v (t.mono (by decide)) (mc' (mv' 0) (mc' (mv' 1) (mc' (mv' 2) (mc' (mv' 7) (mc' (mv' 9) mn'))))))))) aaE)
   (aa (af (mf' j (t.mono (by decide)) (mc' (mv' 7) mn'))))))))))))))),?_⟩
 case ar=>intro as Kc ⟨h,r1,r2,rfl,_⟩;rfl
 intro as Kc hl ⟨h,r1,r2,rfl,G,O,k⟩;have B:=G.o;have n4:=B.n4;have p1:nP h≤144:=abC O O;have p2:nP h*(nP h+2)≤190000:=aaw (abC p1 (show nP h+2≤146 by omega)) (by decide);have Y:Fine 250000 5 (.tuple [h.d,r1.d,r2.d]):=(b9 (n:=80000) (k:=4) (c:=3) (λd hd=>by
  obtain rfl|hd:=aah.mp hd
  .exact B.fine.mono (by decide) (by decide)
  .obtain rfl|hd:=aah.mp hd
   .exact(Rule.Ok.fine B G.k1).mono (by decide) (by decide)
   .rw[aaa.mp hd];exact(Rule.Ok.fine B G.k2).mono (by decide) (by decide)) (by exact aab 3)).mono (by decide) (by decide)
 let⟨J,F⟩:∃J,J=(abw [h.d,r1.d,r2.d]).shown:=⟨_,rfl⟩;refine au (MSt.mk [some (.imm h.d),some (.imm r1.d),some (.imm r2.d),none,none,none,none,none,none,none] [] 0) rfl ?_;refine oY ?_;ext s;refine⟨h,r1,r2,60,rfl,B,O,G.k1,G.k2,G.n1,G.n2,λn w mn=>?_,λkvs S V=>?_,?_⟩
 .ext x;rw[if_neg (show ¬jj (L2.R.imm (.tuple [.str "worse",.int (n:Int)]))=true from aaj)];ext s;refine jM Y rfl (by decide) (by decide) ?_;rw[<-F];ext s;refine⟨h,r1,r2,rfl,G,by omega,p2,λS=>?_,λR I C mR=>?_,λZ S=>?_⟩
  .obtain⟨R,I,_,C⟩:=w;rw[S R I]at C;cases C
  .ext x;rw[tyT];ext s;rw[decide_eq_false (p:=((([adR "worse",.tuple (R.map Mv.d)]:List aD).length:Nat):Int)≠2) (λz=>z rfl)];ext s;rw[if_neg (c:=(!decide (("worse" : Str) = "worse"))=true) (by decide +kernel)];ext s;refine jM Y rfl (by decide) (by decide) ?_;rw[<-F];ext s;rw[if_neg (c:=(!decide (J=J))=true) (by rw[decide_eq_true rfl];exact aaj)];ext s;rw[if_neg (hnc:=by decide +kernel)];ext s;have en:R.length=n:=by
    let⟨R',kR',lR',Q⟩:=w;rcases agQ R.length n with z|z|z
    .rw[mn R I z]at C;cases C
    .exact z
    .rw[mR R' kR' (by omega)]at Q;cases Q
   rw[tyT];ext s;rw[iO,en,decide_eq_false (p:=((n:Nat):Int)≠(n:Nat)) (λz=>z rfl)];ext s;refine aU (d:=.tuple (h.ss.map Srv.d)) rfl ?_;ext e;rw[show(abw (aar (h.ss.length:Int).toNat [abu 0]).flatten)=lnD (zer h) by
    rw[aaN,qx];exact congrArg _ (qM _ 0)]
   ext x;refine⟨h,rfl,B,?_⟩;ext x;have ml:=(uA B).2
   let S:List aD:=(mvs h).map λmv=>.str mv.d.shown
   refine bU (λi m=>∃a:Option L2.R,m=MSt.mk [a] [S.take i] 1) ⟨none,rfl⟩ ?_ ?_
   .rintro i d m e hnp ⟨a,rfl⟩ D1 hD1 hR1;let⟨mv,W,rfl,hi⟩:=gmap e;ext s;refine jM (mvFx B (GT W)) rfl (by decide) (by decide) ?_;ext x;refine⟨_,rfl,by rw[aaC,iO,aak];omega,hD1 _ ⟨some (.imm mv.d),?_⟩⟩;rw[aaJ,show S[i]?=some (.str mv.d.shown)from(by show((mvs h).map _)[i]?=_;rw[aai,W];rfl)];rfl
   .rintro m hnp ⟨a,rfl⟩;have eS:S.take ((mvs h).map Mv.d).length=S:=by rw[show((mvs h).map Mv.d).length=S.length by rw[iO];exact(iO _).symm];exact aau
    rw[eS];ext n;refine da ?_;ext x;refine bU (λi m=>∃a:Option L2.R,m=MSt.mk [some (.imm h.d),some (.imm r1.d),some (.imm r2.d),some (.imm (.tuple [.str "worse",.int (n:Int)])),some (.imm (.str J)),some (.imm (.tuple [.str "worse",.tuple (R.map Mv.d)])),some (.imm (lnD (zer h))),some (.imm (trD (wlk h r1 r2 (R.take i)))),some (.obj 0),a] [S] 0) ⟨none,rfl⟩ ?_ ?_
    .rintro i d m e hnp ⟨a,rfl⟩ D1 hD1 hR1;let⟨mv,W,rfl,hi⟩:=gmap e;have U:=I mv (GT W);have kt:RunK h (R.take i):=λx hx=>I x (ace hx);have LN:=g9 B G.k1 G.k2 G.n1 G.n2 (zJ (r1:=r1) (r2:=r2) kt);ext s;refine jM (mvFx B U) rfl (by decide) (by decide) ?_;ext s;refine x_in (d:=.str mv.d.shown) (ds:=S) rfl (.inl rfl) (uv (zK B U)) (k':=0) (λy hy=>by let⟨x,hx,rfl⟩:=aam.mp hy;exact uv (zK B hx)) (by decide) ?_;rw[show(S.any λy=>aad y (.str mv.d.shown))=true from acT.mpr ⟨_,aam.mpr ⟨mv,U,rfl⟩,Ie (uv (zK B U))⟩];ext g;refine⟨h,r1,r2,wlk h r1 r2 (R.take i),mv,rfl,B,G.k1,G.k2,G.n1,G.n2,LN.1,LN.2,qf B mv U,?_⟩;ext x;refine hD1 _ ⟨some (.imm mv.d),?_⟩;rw[aaJ,W,show(some mv).toList=[mv]from rfl,eF];rfl
    .rintro m hnp ⟨a,rfl⟩;rw[iO,aau];ext s;refine⟨_,rfl,?_⟩;ext n;rw[C];exact k
  .obtain⟨R,I,_,C⟩:=w;rw[S R I]at C;cases C
 .ext x;rw[if_neg (show ¬jj (L2.R.imm (.tuple [.str "never",.dict kvs]))=true from aaj)];ext s;refine jM Y rfl (by decide) (by decide) ?_;rw[<-F];ext s;refine⟨h,r1,r2,rfl,G,by omega,p2,λ_=>V.imp λA q=>⟨by omega,q.2⟩,λR I C=>?_,λZ _ N X lZ=>?_⟩
  .rw[S R I]at C;cases C
  .ext x;rw[tyT];ext s;rw[decide_eq_false (p:=((([adR "never",prD' Z]:List aD).length:Nat):Int)≠2) (λz=>z rfl)];ext s;rw[if_neg (c:=(!decide (("never" : Str) = "never"))=true) (by decide +kernel)];ext s;refine jM Y rfl (by decide) (by decide) ?_;rw[<-F];ext s;rw[if_neg (c:=(!decide (J=J))=true) (by rw[decide_eq_true rfl];exact aaj)];ext f;refine⟨h,r1,r2,Z,rfl,G,N,X,by omega,?_⟩;ext x;exact k
 .ext x;rw[if_pos (show jj (L2.R.imm .none)=true from rfl)];ext s;exact k
theorem UC(T:Bl K mg){D:Addr}{fd:abX}(F:Fun K "law" "law" slaw D fd)(b:FnM P w K mg base "_law_tape" 1 1 BG)(g:FnM P w K mg base "_law_hall" 3 2 vN)(a:FnM P w K mg base "_law_rule" 2 2 CY)(G:FnM P w K mg base "_law_right" 11 3 xh):FnOk P w K mg base CX0 12 D fd ["_law_script"] (spOf ⟨K,w⟩ 1 DB):=by
 refine JC F Bt rfl (nN:=6) rfl (by decide) λJ A outer s H E f u=>⟨_,(mz' (aA 1 Bt.nd (mf' b (u.mono (by decide)) (mc' (mv' 0) mn')))
   (mz' (ca (cb (by rfl) T.range (mc' mh' mn')) (am 2 Bt.nd) (mz' (aA 3 Bt.nd (mf' g (u.mono (by decide)) (mc' (mv' 1) (mc' mh' mn'))))
   (mz' (jg (i:=4) (j:=5) Bt.nd rfl rfl (by decide) rfl rfl (mc' (mf' a (u.mono (by decide)) (mc' (mv' 1) (mc' (mv' 3) mn'))) (mc' (mf' a (u.mono (by decide)) (mc' (mv' 1) (mc' (mv' 3) mn'))) mn')) rfl)
   (mz' (aH (EW.pt (di (cR (bG (mf' G (u.mono (by decide)) (mc' (mv' 3) (mc' (mv' 4) (mc' (mv' 5) mn')))))) (de (cR (bG (mf' G (u.mono (by decide)) (mc' (mv' 3) (mc' (mv' 5) (mc' (mv' 4) mn'))))))))) (aa (af gW)) ap)
   (aa (aH (cR (bG (mf' G (u.mono (by decide)) (mc' (mv' 3) (mc' (mv' 4) (mc' (mv' 5) mn')))))) (aa (af gW)) ap))))) aaE)
   (aa (af gW)))),?_⟩
 intro S R U ⟨ns,rfl,N,k⟩;refine au (MSt.mk [some (.imm (.list (ns.map .int))),none,none,none,none,none] [] 0) rfl ?_;ext s;refine⟨ns,rfl,N,λt o=>?_⟩;ext n;refine qI ?_;ext x;refine⟨by decide,by decide,?_⟩;refine bU (λi m=>∃a2 z C B I,m=MSt.mk [some (.imm (.list (ns.map .int))),some (.at 0 []),a2,z,C,B] [[I]] 0/\TapeK (20000*i) I) ⟨none,none,none,none,t,rfl,o⟩ ?_ ?_
 .rintro i d m e n ⟨a2,z,C,B,t,rfl,o⟩ D1 hD1 hR1;let⟨O,rfl⟩:=cw e;have Q:i<2:=O;ext s;refine⟨t,_,12,rfl,o,by omega,by decide,λh t x q o=>?_⟩;ext n;refine j6 ?_;ext x;refine⟨t,_,h,rfl,o,by omega,x,λr1 t v n1 o=>?_⟩;ext x;refine⟨t,_,h,rfl,o,by omega,x,λy t p n2 o=>?_⟩;ext x;refine⟨h,r1,y,rfl,⟨x,v,p,n1,n2⟩,q,?_⟩;ext x;rw[if_neg (c:=(!true)=true) (by decide)];ext s;refine⟨h,y,r1,rfl,⟨x,p,v,n2,n1⟩,q,?_⟩;ext x;rw[if_neg (c:=(!true)=true) (by decide)];ext s;refine⟨h,r1,y,rfl,⟨x,v,p,n1,n2⟩,q,?_⟩;ext x;rw[if_neg (c:=(!true)=true) (by decide)];ext s;exact hD1 _ ⟨_,_,_,_,t,rfl,o.mono (by omega)⟩
 .rintro m hnp ⟨a2,z,C,B,t,rfl,o⟩;ext s;exact k
end
def ar_{us:List Ad}{n:Nat}(b:us.length=n):us=(aax n).map λi=>us.getD i .none:=agY (by rw[b,iO,aaW]) λi a c=>by
 rw[adq,List.getElem_range,aat,lD a];rfl
local macro_rules | `(tactic| walk_at "dm") => `(tactic| exact λf fd F => F.binds λ_ _ _ _ _ _ us hl => by rw [ar_ hl]; rfl)
def Tq{w:World}{K:aag}{h:aaT}{mg:Str->Option Ad}{fa:Addr}(X:K.In h)(G:h.Ns aaA mg)(hfa:mg "law" = some (.ref fa))(dis_less:DefK K "is_less" rG)(dis_alike:DefK K "is_alike" lU)(S:DefK K "place_of_lines" dN)(N:DefK K "first_shortest" ef)(dwait_at:DefK K "wait_at" qH)(dfirst_quickest:DefK K "first_quickest" d4)(dsent_to:DefK K "sent_to" qJ)(dfirst_stand:DefK K "first_stand" gw)(dall_orders:DefK K "all_orders" gh)(dall_moves:DefK K "all_moves" fB)(dwith_more:DefK K "with_more" jR)(dcome_to:DefK K "come_to" rJ)(ddone_at:DefK K "done_at" qz)(dnext_shift:DefK K "next_shift" je)(dsettled:DefK K "settled" rF)(dturn_behind:DefK K "turn_behind" gQ)(dline_of:DefK K "line_of" qO)(dmoved_on:DefK K "moved_on" lu)(dkept_lines:DefK K "kept_lines" iX)(drefuse_turns:DefK K "refuse_turns" ga)(dfirst_triple:DefK K "first_triple" gg)(dkept_step:DefK K "kept_step" jP)(dtriple_behind:DefK K "triple_behind" fv)(dis_worse:DefK K "is_worse" ma)(t:MthD K "Search" "steps_of" "Search.steps_of" bC ["self","side","lines"])(d:MthD K "Search" "triples_behind" "Search.triples_behind" aM ["self","triple"])(dSearch_met:MthD K "Search" "met" "Search.met" df ["self","triple","ahead","move"])(dSearch_run_to:MthD K "Search" "run_to" "Search.run_to" ck ["self","at"])(n:MthD K "Search" "worse_run" "Search.worse_run" bJ ["self"])(dSearch_paper:MthD K "Search" "paper" "Search.paper" cc ["self"])(B:IniDK K "Search" "Search.__init__" bV ["self","hall","one","other"])(dnever_worse:DefK K "never_worse" h8)(d_law_tape:DefK K "_law_tape" jO)(d_law_draw:DefK K "_law_draw" kh)(d_law_frac:DefK K "_law_frac" j7)(O:DefK K "_law_all_lines" cY)(d_law_hall:DefK K "_law_hall" cA)(d_law_rule:DefK K "_law_rule" fG)(d_law_sent:DefK K "_law_sent" iG)(d_law_put:DefK K "_law_put" lR)(d_law_step:DefK K "_law_step" j2)(d_law_kept:DefK K "_law_kept" ie)(d_law_moves:DefK K "_law_moves" db)(d_law_both:DefK K "_law_both" jK)(d_law_is_bad:DefK K "_law_is_bad" gC)(d_law_search:DefK K "_law_search" gG)(d_law_is_whole:DefK K "_law_is_whole" fx)(d_law_is_lines:DefK K "_law_is_lines" fj)(I:DefK K "_law_not_never" d7)(d_law_right:DefK K "_law_right" gf)(dlaw:DefK K "law" slaw)(zlen:aaL K aaA "len" = some none)(zabs:aaL K aaA "abs" = some none)(zrange:aaL K aaA "range" = some none)(zlist:aaL K aaA "list" = some none)(ztuple:aaL K aaA "tuple" = some none)(zint:aaL K aaA "int" = some none)(zsum:aaL K aaA "sum" = some none)(zmax:aaL K aaA "max" = some none)(zmin:aaL K aaA "min" = some none)(zisinstance:aaL K aaA "isinstance" = some none)(zbool:aaL K aaA "bool" = some none)(zsorted:aaL K aaA "sorted" = some none)(zzip:aaL K aaA "zip" = some none)(zenumerate:aaL K aaA "enumerate" = some none)(zrepr:aaL K aaA "repr" = some none)    (ff_Search_hall:InsF K "Search" "hall")(H:InsF K "Search" "rules")(W:InsF K "Search" "moves")(Q:InsF K "Search" "steps")(C:InsF K "Search" "leads")(p:InsF K "Search" "triples")(ff_Search_ways:InsF K "Search" "ways") :
  ∃fd:abX,(∀(s:Io) (v:Ad),agF s fd ⟨[v],[]⟩ [("_law_script",v)])/\∀base:aaT,K.In base->base.Ns aaA mg->FnOk l.prog w K mg base CX0 12 fa fd ["_law_script"] (spOf ⟨K,w⟩ 1 DB):=by
 let⟨f,fd,a,F⟩:=dlaw.ex;have e:=hfa.symm.trans (agq X G a);cases e;have T:Bl K mg:=⟨aaX X G zlen,aaX X G zabs,aaX X G zrange,aaX X G zlist,aaX X G ztuple,aaX X G zint,aaX X G zsum,aaX X G zmax,aaX X G zmin,aaX X G zisinstance,aaX X G zbool,aaX X G zsorted,aaX X G zzip,aaX X G zenumerate,aaX X G zrepr,ff_Search_hall,H,W,Q,C,p,ff_Search_ways⟩;have Dis_less:=dis_less.m (ps:=["one","other"]) X G (by ext dm);have Dis_alike:=dis_alike.m (ps:=["hall"]) X G (by ext dm);have V:=S.m (ps:=["hall","lines"]) X G (by ext dm);have U:=N.m (ps:=["lines","order"]) X G (by ext dm);have Dwait_at:=dwait_at.m (ps:=["hall","lines","line"]) X G (by ext dm);have Y:=dfirst_quickest.m (ps:=["hall","lines","order"]) X G (by ext dm);have Dsent_to:=dsent_to.m (ps:=["hall","rule","stand","order"]) X G (by ext dm);have Dfirst_stand:=dfirst_stand.m (ps:=["hall"]) X G (by ext dm);have Dall_orders:=dall_orders.m (ps:=["hall"]) X G (by ext dm);have Dall_moves:=dall_moves.m (ps:=["hall"]) X G (by ext dm);have Dwith_more:=dwith_more.m (ps:=["lines","line","more"]) X G (by ext dm);have Dcome_to:=dcome_to.m (ps:=["hall","lines","line"]) X G (by ext dm);have Ddone_at:=ddone_at.m (ps:=["lines","line"]) X G (by ext dm);have Dnext_shift:=dnext_shift.m (ps:=["hall","lines"]) X G (by ext dm);have Dsettled:=dsettled.m (ps:=["hall","lines"]) X G (by ext dm);have Dturn_behind:=dturn_behind.m (ps:=["hall","rule","turn"]) X G (by ext dm);have Dline_of:=dline_of.m (ps:=["hall","rule","stand","move"]) X G (by ext dm);have Dmoved_on:=dmoved_on.m (ps:=["hall","rule","stand","move"]) X G (by ext dm);have Dkept_lines:=dkept_lines.m (ps:=["hall","lines"]) X G (by ext dm);have Drefuse_turns:=drefuse_turns.m (ps:=["one","other"]) X G (by ext dm);have Dfirst_triple:=dfirst_triple.m (ps:=["hall"]) X G (by ext dm);have Dkept_step:=dkept_step.m (ps:=["hall","rule","lines","move"]) X G (by ext dm);have Dtriple_behind:=dtriple_behind.m (ps:=["one_step","other_step","lead"]) X G (by ext dm);have Dis_worse:=dis_worse.m (ps:=["triple"]) X G (by ext dm);have z:=t;have D:=d;have DSearch_met:=dSearch_met;have DSearch_run_to:=dSearch_run_to;have q:=n;have DSearch_paper:=dSearch_paper;have u:=B.m X G;have Dnever_worse:=dnever_worse.m (ps:=["hall","one","other"]) X G (by ext dm);have D_law_tape:=d_law_tape.m (ps:=["_law_script"]) X G (by ext dm);have D_law_draw:=d_law_draw.m (ps:=["_law_tape_here","_law_many"]) X G (by ext dm);have D_law_frac:=d_law_frac.m (ps:=["_law_top","_law_bottom"]) X G (by ext dm);have D_law_all_lines:=O.m (ps:=["_law_rooms"]) X G (by ext dm);have D_law_hall:=d_law_hall.m (ps:=["_law_tape_here","_law_most"]) X G (by ext dm);have D_law_rule:=d_law_rule.m (ps:=["_law_tape_here","_law_hall_here"]) X G (by ext dm);have D_law_sent:=d_law_sent.m (ps:=["_law_hall_here","_law_rule_here","_law_lines","_law_order"]) X G (by ext dm);have D_law_put:=d_law_put.m (ps:=["_law_lines","_law_k","_law_more"]) X G (by ext dm);have D_law_step:=d_law_step.m (ps:=["_law_hall_here","_law_rule_here","_law_lines","_law_move"]) X G (by ext dm);have D_law_kept:=d_law_kept.m (ps:=["_law_hall_here","_law_lines"]) X G (by ext dm);have D_law_moves:=d_law_moves.m (ps:=["_law_hall_here"]) X G (by ext dm);have D_law_both:=d_law_both.m (ps:=["_law_hall_here","_law_one","_law_other","_law_triple","_law_move"]) X G (by ext dm);have D_law_is_bad:=d_law_is_bad.m (ps:=["_law_triple"]) X G (by ext dm);have D_law_search:=d_law_search.m (ps:=["_law_hall_here","_law_one","_law_other","_law_most"]) X G (by ext dm);have D_law_is_whole:=d_law_is_whole.m (ps:=["_law_thing"]) X G (by ext dm);have D_law_is_lines:=d_law_is_lines.m (ps:=["_law_hall_here","_law_thing"]) X G (by ext dm);have R:=I.m (ps:=["_law_hall_here","_law_one","_law_other","_law_thing"]) X G (by ext dm);have D_law_right:=d_law_right.m (ps:=["_law_hall_here","_law_one","_law_other"]) X G (by ext dm);refine⟨fd,λs v=>?_,λbase _ _=>?_⟩
 .obtain⟨oc,od,kV,doc,pm,an,cdv,ct,osl,rfl,lk,hcd⟩:=F.ex;exact .of_eq rfl
 .have Gis_less:=zu (P:=l.prog) (w:=w) (base:=base) T Dis_less;have Gis_alike:=yx (P:=l.prog) (w:=w) (base:=base) T Dis_alike;have Gplace_of_lines:=kO (P:=l.prog) (w:=w) (base:=base) T V;have J:=k8 (P:=l.prog) (w:=w) (base:=base) T U;have Gwait_at:=zx (P:=l.prog) (w:=w) (base:=base) T Dwait_at;have Z:=kZ (P:=l.prog) (w:=w) (base:=base) T Y Gwait_at Gis_less;have Gsent_to:=BW (P:=l.prog) (w:=w) (base:=base) T Dsent_to J Z Gplace_of_lines;have Gfirst_stand:=qr (P:=l.prog) (w:=w) (base:=base) T Dfirst_stand;have Gall_orders:=t9 (P:=l.prog) (w:=w) (base:=base) T Dall_orders;have Gall_moves:=uY (P:=l.prog) (w:=w) (base:=base) T Dall_moves Gall_orders;have k:=uB (P:=l.prog) (w:=w) (base:=base) T Dwith_more;have Gcome_to:=Bz (P:=l.prog) (w:=w) (base:=base) T Dcome_to k;have Gdone_at:=ze (P:=l.prog) (w:=w) (base:=base) T Ddone_at k;have Gnext_shift:=ub (P:=l.prog) (w:=w) (base:=base) T Dnext_shift;have Gsettled:=zk (P:=l.prog) (w:=w) (base:=base) T Dsettled Gnext_shift k;have Gturn_behind:=rb (P:=l.prog) (w:=w) (base:=base) T Dturn_behind;have Gline_of:=zl (P:=l.prog) (w:=w) (base:=base) T Dline_of Gsent_to;have Gmoved_on:=yp (P:=l.prog) (w:=w) (base:=base) T Dmoved_on Gline_of Gcome_to Gturn_behind Gdone_at Gsettled;have Gkept_lines:=ud (P:=l.prog) (w:=w) (base:=base) T Dkept_lines Gis_alike;have Grefuse_turns:=oz (P:=l.prog) (w:=w) (base:=base) T Drefuse_turns;have Gfirst_triple:=oG (P:=l.prog) (w:=w) (base:=base) T Dfirst_triple Gfirst_stand;have Gkept_step:=vn (P:=l.prog) (w:=w) (base:=base) T Dkept_step Gmoved_on Gkept_lines;have Gtriple_behind:=nU (P:=l.prog) (w:=w) (base:=base) T Dtriple_behind;have Gis_worse:=yg (P:=l.prog) (w:=w) (base:=base) T Dis_worse;have x:=jW (P:=l.prog) (w:=w) (base:=base) T z Gkept_step;have g:=gc (P:=l.prog) (w:=w) (base:=base) T D x Gtriple_behind;have A:=tX (P:=l.prog) (w:=w) (base:=base) T DSearch_met;have GSearch_run_to:=lJ (P:=l.prog) (w:=w) (base:=base) T DSearch_run_to;have o:=jz (P:=l.prog) (w:=w) (base:=base) T q g Gis_worse GSearch_run_to A;have GSearch_paper:=oI (P:=l.prog) (w:=w) (base:=base) T DSearch_paper;have y:=jV (P:=l.prog) (w:=w) (base:=base) T u Gall_moves Gfirst_triple A;have Gnever_worse:=qF (P:=l.prog) (w:=w) (base:=base) T Dnever_worse Grefuse_turns y o GSearch_paper;have G_law_tape:=u6 (P:=l.prog) (w:=w) (base:=base) T D_law_tape;have G_law_draw:=vp (P:=l.prog) (w:=w) (base:=base) T D_law_draw;have G_law_frac:=uy (P:=l.prog) (w:=w) (base:=base) T D_law_frac;have b:=kL (P:=l.prog) (w:=w) (base:=base) T D_law_all_lines;have G_law_hall:=uO (P:=l.prog) (w:=w) (base:=base) T D_law_hall G_law_draw G_law_frac b;have G_law_rule:=uT (P:=l.prog) (w:=w) (base:=base) T D_law_rule G_law_draw b;have G_law_sent:=uK (P:=l.prog) (w:=w) (base:=base) T D_law_sent b;have G_law_put:=yG (P:=l.prog) (w:=w) (base:=base) T D_law_put;have G_law_step:=uZ (P:=l.prog) (w:=w) (base:=base) T D_law_step G_law_sent G_law_put;have G_law_kept:=vg (P:=l.prog) (w:=w) (base:=base) T D_law_kept;have i:=tF (P:=l.prog) (w:=w) (base:=base) T D_law_moves;have m:=va (P:=l.prog) (w:=w) (base:=base) T D_law_both G_law_step G_law_kept;have c:=rH (P:=l.prog) (w:=w) (base:=base) T D_law_is_bad;have G_law_search:=rm (P:=l.prog) (w:=w) (base:=base) T D_law_search i m c;have j:=oi (P:=l.prog) (w:=w) (base:=base) T D_law_is_whole;have G_law_is_lines:=nr (P:=l.prog) (w:=w) (base:=base) T D_law_is_lines j G_law_kept;have E:=k6 (P:=l.prog) (w:=w) (base:=base) T R j G_law_is_lines c i m;have G_law_right:=sN (P:=l.prog) (w:=w) (base:=base) T D_law_right G_law_search Gnever_worse E i m c;exact UC T F G_law_tape G_law_hall G_law_rule G_law_right
theorem walk{q:aaK}{b:List Str}{X:(Str->Option Ad)->aaT->Prop}{Y:World->aaT->Prop}{d:DefRec}{K:Params->aag}(i:PyProof.Rows.importsNone q=true)(g:l.most=some 63)(c:d.params.defaults=[])
  (p:∀(w:World) (h:aaT),Y w h->(K w.params).In h)
  (F:∀(w:World) (mg:Str->Option Ad) (e:Addr) (h:aaT),(K w.params).In h->h.Ns aaA mg->mg d.name=some (.ref e) ->
   ∃fd:abX,(∀(s:Io) (u:Ad),agF s fd ⟨[u],[]⟩ [("_law_script",u)])/\∀base:aaT,(K w.params).In base->base.Ns aaA mg->FnOk l.prog w (K w.params) mg base CX0 12 e fd ["_law_script"] (spOf ⟨K w.params,w⟩ 1 DB)) :
  ahj q b X Y l.row.toRowW d [] (λf vs=>ahh f vs):=
 L2.N6 (n:=63) (k:=12) (x:= "_law_script") (CX:=λ_=>CX0) (sp:=λw=>spOf ⟨K w.params,w⟩ 1 DB) i g (by decide) c ⟨rfl,by decide,by decide,rfl⟩ p F
  (λw H a ns j y m=>⟨[.imm (.list (ns.map .int))],[],λr _=>r = .imm (.bool true),rfl,abB,.imm (yA y m) .nil,⟨ns,rfl,j,rfl⟩,λr o v t k _ rr _=>by cases k;exact js (show Den ⟨K w.params,w⟩ t (.bool true) v from rr)⟩) λ_ _ _ _ _ z=>z
end K
namespace PySem.W.Fast
def tw595531332136182361:=0
def tw7790952235390752574:=0
def tw1419020640908941829:=0
def tw3109639780526933627:=0
def tw7247555373621806768:=0
def tw16135315873795435181:=0
def tw18049588186104209689:=0
def tw14920567451278973488:=0
def tw18161585660745389072:=0
def tw1879962457621840170:=0
def tw3939175115156409954:=0
def tw15554987161453952257:=0
def tw16115684296874398846:=0
def tw15788151508327274897:=0
def tw10697338738950857510:=0
def tw2170757646341371784:=0
def tw15911445467270406797:=0
def tw5024510147842398264:=0
def tw464976738710437456:=0
def tw8562626322543771349:=0
def tw17518431925648009976:=0
def tw18296304688360219199:=0
def tw9168583131299230439:=0
def tw11478581097238926132:=0
def tw864719603537977011:=0
def tw20824473428210093:=0
def tw9977157594508875068:=0
def tw11835219969545040674:=0
def tw12404418970849870292:=0
def tw1879877695626059048:=0
def tw1047205310898041688:=0
def tw12026161202433278133:=0
def tw15525918378896728764:=0
def tw6795992300290603436:=0
def tw9065146467063204800:=0
def tw1409975520846649480:=0
def tw14460362879150482683:=0
def tw3765858352317634918:=0
def tw15571019526740931365:=0
def tw4864220673058364099:=0
def tw473576014035519220:=0
def tw12744565895907148008:=0
def tw1096880418368032215:=0
def tw3274879544910826473:=0
def tw14247067233972257942:=0
def tw9193905992744274625:=0
def tw5085366273238156268:=0
def tw21503950754121058:=0
def tw10304877487757314917:=0
def tw8542247461295695687:=0
def tw1971881135796721512:=0
def tw14452070425607619464:=0
def tw13628836357524325164:=0
def tw13436281652652792544:=0
def tw8588817246710932679:=0
def tw11187401933111899871:=0
def tw6480427213299904583:=0
def tw18226448692176511566:=0
def tw2062940909109130672:=0
def tw2021669424126418368:=0
def tw12419126669483795339:=0
def tw9610314208524617857:=0
def tw15179600261315979818:=0
def tw11466725891095760045:=0
def tw5048858725711234030:=0
def tw17161034176192712666:=0
def tw842893350917716057:=0
def tw9398772297467024290:=0
def tw17017605695771142587:=0
def tw6418084411345276166:=0
def tw1434570856962181419:=0
def tw12789545958347602836:=0
def tw8564323810250331329:=0
def tw5912527569904681294:=0
def tw16412726235606296008:=0
def tw15871237265937104150:=0
def tw7058084142596898498:=0
def tw18175381821296684860:=0
def tw2565377628436054187:=0
def tw8003623616374639142:=0
def tw14548624683725788829:=0
def tw8243829305824923227:=0
def tw13727483380721419156:=0
def tw10896258765394252691:=0
def tw839069335253889434:=0
def tw94915808300167241:=0
def tw13634556983823836234:=0
def tw7053484528522301874:=0
def tw18291706039506552141:=0
def tw3674975491274859480:=0
def tw16053415864885514864:=0
def tw2648566691752086380:=0
def tw15620050035615633638:=0
def tw13476145316895825975:=0
def tw17112181747692329923:=0
def tw8491065707398753088:=0
def tw7886703977690588947:=0
def tw5668078664208041809:=0
def tw15163213261018966049:=0
def tw14633017994613011507:=0
def tw11675722658430747888:=0
def tw9009996823033293487:=0
def tw10275298516651255093:=0
def tw1694377252148097705:=0
def tw9958666919542574455:=0
def tw15869521069680550087:=0
def tw11793750661330495975:=0
def tw11497644570689613421:=0
def tw5221830779086488583:=0
def tw10361061982633963810:=0
def tw9206887599179999698:=0
def tw14548899510050135606:=0
def tw17547655561872107849:=0
def tw1507105474359825456:=0
def tw8310981746279384875:=0
def tw8431287422448221214:=0
def tw8139224801348069080:=0
def tw15800987195818156243:=0
def tw3734044398415547561:=0
def tw11779927714450349935:=0
def tw13880029024187363104:=0
def tw8792363888867444854:=0
def tw4386241236157139283:=0
def tw6814795642462123601:=0
def tw9913891613083261521:=0
def tw7208818200310013833:=0
def tw18035136081988964013:=0
def tw8373238134991988208:=0
def tw2839216985355041979:=0
def tw10291467356428294884:=0
def tw10755464107473766074:=0
def tw1814323540269244189:=0
def tw12211737146686642148:=0
def tw9873381248491000993:=0
def tw6646353225036926262:=0
def tw16520856245394310412:=0
def tw4124073901260661569:=0
def tw668711410683111532:=0
def tw5570882996310325061:=0
def tw903862354685958456:=0
def tw11032939762594259696:=0
def tw2431440446144951632:=0
def tw11228163734482492055:=0
def tw18202085745540778911:=0
def tw704098890359795249:=0
def tw2177428731095415686:=0
def tw1834576631829956161:=0
def tw1181074127135282290:=0
def tw10699454780323115617:=0
def tw12225247725442919469:=0
def tw5219239585668215136:=0
def tw12081946527686335729:=0
def tw8955165891999006525:=0
def tw77162420408330866:=0
def tw6253491927240635772:=0
def tw11895549618243449986:=0
def tw8720981448703531738:=0
def tw10255037070960644979:=0
def tw13726370447302435754:=0
def tw15148688718373038695:=0
def tw10710322432502283085:=0
def tw6819789634961145356:=0
def tw11279806807239663297:=0
def tw7809169487645912312:=0
def tw13984753694756899476:=0
def tw17310725759954546276:=0
def tw10366793291476428705:=0
def tw9006079454477705689:=0
def tw7153795446928061999:=0
def tw14472038790020127703:=0
def tw273660974369019456:=0
def tw12354409531470875987:=0
def tw18155581384126885697:=0
def tw11816982249688972641:=0
def tw15181198843662763384:=0
def tw11019986435567946761:=0
def tw2668233330025755633:=0
def tw4317580007544576145:=0
def tw1018179027638521699:=0
def tw15933442603265940738:=0
def tw12098628264654781444:=0
def tw9635444976728950198:=0
def tw17214087079951015303:=0
def tw14498589144170302728:=0
def tw8894790959774397356:=0
def tw6713316537292996797:=0
def tw17229857879826041026:=0
def tw4809424820739800158:=0
def tw9310213738353364600:=0
def tw7659826444828235241:=0
def tw7195494122163064364:=0
def tw14088024482022201932:=0
def tw6354534390151376001:=0
def tw2774514852966295633:=0
def tw12725547085320434750:=0
def tw7507193144114431982:=0
def tw15129720819289342873:=0
def tw11427751518355021575:=0
def tw2078188321220148556:=0
def tw12762193263196490816:=0
def tw8381403464049303500:=0
def tw4765110599119033336:=0
def tw12787241994229215980:=0
def tw8005682856352470934:=0
def tw11487942790698128019:=0
def tw3450726668413077128:=0
def tw4627827674070019979:=0
def tw5864878710104367135:=0
def tw8151468581982216215:=0
def tw5245535143992253246:=0
def tw8200277334813422601:=0
def tw17886134831854901638:=0
def tw7329539300516032539:=0
def tw12828311650274993860:=0
def tw6651923838228808592:=0
def tw17464461483346317412:=0
def tw12425333804229667741:=0
def tw1890899808774949369:=0
def tw17483964366552818198:=0
def tw5050628320784658140:=0
def tw16569695347088693976:=0
def tw10260204520383541826:=0
def tw5784232050348725433:=0
def tw5064619382231609475:=0
def tw5931731226347454204:=0
def tw2090954726145400558:=0
def tw16541509031705761837:=0
def tw15271036846767663519:=0
def tw16481545458509123188:=0
def tw14758764247470032732:=0
def tw8597731403558844301:=0
def tw18225492667699703087:=0
def tw17647354686421666793:=0
def tw16356036397041204353:=0
def tw15654486373802693081:=0
def tw15265778401915397239:=0
def tw2538248910482829962:=0
def tw9475698347095451381:=0
def tw12085241914066230765:=0
def tw12869430250362518310:=0
def tw15358115939133911551:=0
def tw1443021072654990259:=0
def tw7446998266317277966:=0
def tw12223770607366480544:=0
def tw5300030505352426170:=0
def tw16293587997772835528:=0
def tw3217517923602198672:=0
end PySem.W.Fast
open PySem PySem.W PyProof.Rows
local macro_rules | `(tactic| walk_at "dk") => `(tactic| (refine' L2.DefK.of ?a ?l ?c ?k; (case a => k_is); (case l => k_is); (case c => k_is); (case k => k_is)))
set_option maxRecDepth 100000 in
set_option maxHeartbeats 0 in
theorem PySem.Challenge.cw_shorterline_k54_never_or_a_shortest_run_holds : PySem.Challenge.rw_shorterline_k54_never_or_a_shortest_run.Holds := by
 w_on;o_law;k_head;(case hw=>w_witness2)
 k_fill
 refine K.walk (l:=PySem.Challenge.rw_shorterline_k54_never_or_a_shortest_run) ?hq rfl rfl (λw h Y=>PySem.W.kIn_of Y) ?F
 case hq=>kernel_rfl
 case F=>
  intro w mg fa h KX G hmg;refine' K.Tq KX G hmg ?dis_less ?dis_alike ?dplace_of_lines ?dfirst_shortest ?dwait_at ?dfirst_quickest ?dsent_to ?dfirst_stand ?dall_orders ?dall_moves ?dwith_more ?dcome_to ?ddone_at ?dnext_shift ?dsettled ?dturn_behind ?dline_of ?dmoved_on ?dkept_lines ?drefuse_turns ?dfirst_triple ?dkept_step ?dtriple_behind ?dis_worse ?dSearch_steps_of ?dSearch_triples_behind ?dSearch_met ?dSearch_run_to ?dSearch_worse_run ?dSearch_paper ?dSearch___init__ ?dnever_worse ?d_law_tape ?d_law_draw ?d_law_frac ?d_law_all_lines ?d_law_hall ?d_law_rule ?d_law_sent ?d_law_put ?d_law_step ?d_law_kept ?d_law_moves ?d_law_both ?d_law_is_bad ?d_law_search ?d_law_is_whole ?d_law_is_lines ?d_law_not_never ?d_law_right ?dlaw ?zlen ?zabs ?zrange ?zlist ?ztuple ?zint ?zsum ?zmax ?zmin ?zisinstance ?zbool ?zsorted ?zzip ?zenumerate ?zrepr    ?ff_Search_hall ?ff_Search_rules ?ff_Search_moves ?ff_Search_steps ?ff_Search_leads ?ff_Search_triples ?ff_Search_ways
  (case dis_less=>ext dk)
  (case dis_alike=>ext dk)
  (case dplace_of_lines=>ext dk)
  (case dfirst_shortest=>ext dk)
  (case dwait_at=>ext dk)
  (case dfirst_quickest=>ext dk)
  (case dsent_to=>ext dk)
  (case dfirst_stand=>ext dk)
  (case dall_orders=>ext dk)
  (case dall_moves=>ext dk)
  (case dwith_more=>ext dk)
  (case dcome_to=>ext dk)
  (case ddone_at=>ext dk)
  (case dnext_shift=>ext dk)
  (case dsettled=>ext dk)
  (case dturn_behind=>ext dk)
  (case dline_of=>ext dk)
  (case dmoved_on=>ext dk)
  (case dkept_lines=>ext dk)
  (case drefuse_turns=>ext dk)
  (case dfirst_triple=>ext dk)
  (case dkept_step=>ext dk)
  (case dtriple_behind=>ext dk)
  (case dis_worse=>ext dk)
  (case dSearch_steps_of=>(refine' L2.MthD.of K.kU ?xa ?xb ?xc ?xd ?xe ?xf ?xl ?xg ?xk ?xn;(case xa=>k_is);(case xb=>k_is);(case xc=>k_is);(case xd=>k_is);(case xe=>k_is);(case xf=>k_is);(case xl=>k_is);(case xg=>k_is);(case xk=>k_is);(case xn=>k_is)))
  (case dSearch_triples_behind=>(refine' L2.MthD.of K.gq ?xa ?xb ?xc ?xd ?xe ?xf ?xl ?xg ?xk ?xn;(case xa=>k_is);(case xb=>k_is);(case xc=>k_is);(case xd=>k_is);(case xe=>k_is);(case xf=>k_is);(case xl=>k_is);(case xg=>k_is);(case xk=>k_is);(case xn=>k_is)))
  (case dSearch_met=>(refine' L2.MthD.of K.vq ?xa ?xb ?xc ?xd ?xe ?xf ?xl ?xg ?xk ?xn;(case xa=>k_is);(case xb=>k_is);(case xc=>k_is);(case xd=>k_is);(case xe=>k_is);(case xf=>k_is);(case xl=>k_is);(case xg=>k_is);(case xk=>k_is);(case xn=>k_is)))
  (case dSearch_run_to=>(refine' L2.MthD.of K.o5 ?xa ?xb ?xc ?xd ?xe ?xf ?xl ?xg ?xk ?xn;(case xa=>k_is);(case xb=>k_is);(case xc=>k_is);(case xd=>k_is);(case xe=>k_is);(case xf=>k_is);(case xl=>k_is);(case xg=>k_is);(case xk=>k_is);(case xn=>k_is)))
  (case dSearch_worse_run=>(refine' L2.MthD.of K.kb ?xa ?xb ?xc ?xd ?xe ?xf ?xl ?xg ?xk ?xn;(case xa=>k_is);(case xb=>k_is);(case xc=>k_is);(case xd=>k_is);(case xe=>k_is);(case xf=>k_is);(case xl=>k_is);(case xg=>k_is);(case xk=>k_is);(case xn=>k_is)))
  (case dSearch_paper=>(refine' L2.MthD.of K.qP ?xa ?xb ?xc ?xd ?xe ?xf ?xl ?xg ?xk ?xn;(case xa=>k_is);(case xb=>k_is);(case xc=>k_is);(case xd=>k_is);(case xe=>k_is);(case xf=>k_is);(case xl=>k_is);(case xg=>k_is);(case xk=>k_is);(case xn=>k_is)))
  (case dSearch___init__=>(refine' L2.IniDK.of K.kJ ?xa ?xd ?xl ?xe ?xk ?xf ?xm ?xc;(case xa=>k_is);(case xd=>k_is);(case xl=>k_is);(case xe=>k_is);(case xk=>k_is);(case xf=>k_is);(case xm=>k_is);(case xc=>k_is)))
  (case dnever_worse=>ext dk)
  (case d_law_tape=>ext dk)
  (case d_law_draw=>ext dk)
  (case d_law_frac=>ext dk)
  (case d_law_all_lines=>ext dk)
  (case d_law_hall=>ext dk)
  (case d_law_rule=>ext dk)
  (case d_law_sent=>ext dk)
  (case d_law_put=>ext dk)
  (case d_law_step=>ext dk)
  (case d_law_kept=>ext dk)
  (case d_law_moves=>ext dk)
  (case d_law_both=>ext dk)
  (case d_law_is_bad=>ext dk)
  (case d_law_search=>ext dk)
  (case d_law_is_whole=>ext dk)
  (case d_law_is_lines=>ext dk)
  (case d_law_not_never=>ext dk)
  (case d_law_right=>ext dk)
  (case dlaw=>ext dk)
  (case zlen=>k_is)
  (case zabs=>k_is)
  (case zrange=>k_is)
  (case zlist=>k_is)
  (case ztuple=>k_is)
  (case zint=>k_is)
  (case zsum=>k_is)
  (case zmax=>k_is)
  (case zmin=>k_is)
  (case zisinstance=>k_is)
  (case zbool=>k_is)
  (case zsorted=>k_is)
  (case zzip=>k_is)
  (case zenumerate=>k_is)
  (case zrepr=>k_is)
  (case ff_Search_hall=>(refine' L2.InsF.of ?xa ?xb ?xc ?xd ?xe ?xf;(case xa=>k_is);(case xb=>k_is);(case xc=>k_is);(case xd=>k_is);(case xe=>k_is);(case xf=>k_is)))
  (case ff_Search_rules=>(refine' L2.InsF.of ?xa ?xb ?xc ?xd ?xe ?xf;(case xa=>k_is);(case xb=>k_is);(case xc=>k_is);(case xd=>k_is);(case xe=>k_is);(case xf=>k_is)))
  (case ff_Search_moves=>(refine' L2.InsF.of ?xa ?xb ?xc ?xd ?xe ?xf;(case xa=>k_is);(case xb=>k_is);(case xc=>k_is);(case xd=>k_is);(case xe=>k_is);(case xf=>k_is)))
  (case ff_Search_steps=>(refine' L2.InsF.of ?xa ?xb ?xc ?xd ?xe ?xf;(case xa=>k_is);(case xb=>k_is);(case xc=>k_is);(case xd=>k_is);(case xe=>k_is);(case xf=>k_is)))
  (case ff_Search_leads=>(refine' L2.InsF.of ?xa ?xb ?xc ?xd ?xe ?xf;(case xa=>k_is);(case xb=>k_is);(case xc=>k_is);(case xd=>k_is);(case xe=>k_is);(case xf=>k_is)))
  (case ff_Search_triples=>(refine' L2.InsF.of ?xa ?xb ?xc ?xd ?xe ?xf;(case xa=>k_is);(case xb=>k_is);(case xc=>k_is);(case xd=>k_is);(case xe=>k_is);(case xf=>k_is)))
  (case ff_Search_ways=>(refine' L2.InsF.of ?xa ?xb ?xc ?xd ?xe ?xf;(case xa=>k_is);(case xb=>k_is);(case xc=>k_is);(case xd=>k_is);(case xe=>k_is);(case xf=>k_is)))