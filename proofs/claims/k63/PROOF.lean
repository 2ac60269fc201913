import PyProof.Rows.All
import Wide.All
import OpenK.AllK
import Wide.FinOn
import Lean
import PyProof.EqAt
import PyProof.EqKinds
import PyProof.TupleCall
import KE.KRevIter
import PyProof.FactsAll.range
import PyProof.P3In
import PyProof.ZipIter
import PyProof.TupleIter
import PyProof.WalkInts
import PyProof.SeqI3
import PyProof.EnumFor
import PyProof.EnumMake
import PyProof.ListMulRoad
import PyProof.Rows.SortRev
import PyProof.SumWalkG
import PyProof.StrWalks
import PyProof.StrCalls2
import PyProof.StrLawsTight
import KE.KIntText
import PyProof.StrBlockG
import PyProof.Rows.StrItems
import PyProof.StrLawsRepr
import PyProof.SliceStr2
import PyProof.StrBlockI
import PyProof.Rows.IntBool
import PyProof.Rows.FStr
import PyProof.FString
import PyProof.FactsAll.tuple
import KE.KSortTup
import PyProof.AutoListH
import PyProof.StrOps2
import PyProof.ListStr
import PyProof.DictRoadsH
import PyProof.Rows.TupTab
import PyProof.P3Eq
import PyProof.StationsW
import PyProof.RulesAs
import OpenK.KOwn
import KE.KTryMore
import PyProof.NsDelKeeps
import PyProof.ExcArgsOwn
import PyProof.ExcInit
import PyProof.InstStoreFacts
import PyProof.ListRange
import PyProof.TupleOfStr
import PyProof.CollectIter
import PyProof.DictItems
import PyProof.DictWalks
import PyProof.CollectWalk
import PyProof.AutoSeq1
import KE.IntBitsLaws
import KE.IntTextLaws
import PyProof.DictTruth
import KE.KUnpack
import KE.KDictOf
import PyProof.AttrMissHeap
import KE.RegKIsAll
import KE.RegKTryMore
import PySem.Challenge.RW_shorterline_k63_never_papers_as_lines
set_option Elab.async false
set_option linter.all false
set_option maxRecDepth 100000
namespace Zz
theorem e1_1{α:Sort _}{p:α→Prop}{g:Prop}(h:∃a,p a)(k:∀a,p a→g):g:=h.elim λa h=>k a h
theorem e0_2{p q:Prop}{g:Prop}(h:p∧q)(k:p→q→g):g:=k  h.1 h.2
theorem e2_1{α β:Sort _}{p:α→β→Prop}{g:Prop}(h:∃a b,p a b)(k:∀a b,p a b→g):g:=h.elim λa h=>h.elim λb h=>k a b h
theorem e1_2{α:Sort _}{p q:α→Prop}{g:Prop}(h:∃a,p a∧q a)(k:∀a,p a→q a→g):g:=h.elim λa h=>k a h.1 h.2
theorem e0_3{p q r:Prop}{g:Prop}(h:p∧q∧r)(k:p→q→r→g):g:=k  h.1 h.2.1 h.2.2
theorem e3_1{α β γ:Sort _}{p:α→β→γ→Prop}{g:Prop}(h:∃a b c,p a b c)(k:∀a b c,p a b c→g):g:=h.elim λa h=>h.elim λb h=>h.elim λc h=>k a b c h
theorem e2_2{α β:Sort _}{p q:α→β→Prop}{g:Prop}(h:∃a b,p a b∧q a b)(k:∀a b,p a b→q a b→g):g:=h.elim λa h=>h.elim λb h=>k a b h.1 h.2
theorem e1_3{α:Sort _}{p q r:α→Prop}{g:Prop}(h:∃a,p a∧q a∧r a)(k:∀a,p a→q a→r a→g):g:=h.elim λa h=>k a h.1 h.2.1 h.2.2
theorem e0_4{p q r s:Prop}{g:Prop}(h:p∧q∧r∧s)(k:p→q→r→s→g):g:=k  h.1 h.2.1 h.2.2.1 h.2.2.2
theorem e4_1{α β γ δ:Sort _}{p:α→β→γ→δ→Prop}{g:Prop}(h:∃a b c d,p a b c d)(k:∀a b c d,p a b c d→g):g:=h.elim λa h=>h.elim λb h=>h.elim λc h=>h.elim λd h=>k a b c d h
theorem e3_2{α β γ:Sort _}{p q:α→β→γ→Prop}{g:Prop}(h:∃a b c,p a b c∧q a b c)(k:∀a b c,p a b c→q a b c→g):g:=h.elim λa h=>h.elim λb h=>h.elim λc h=>k a b c h.1 h.2
theorem e2_3{α β:Sort _}{p q r:α→β→Prop}{g:Prop}(h:∃a b,p a b∧q a b∧r a b)(k:∀a b,p a b→q a b→r a b→g):g:=h.elim λa h=>h.elim λb h=>k a b h.1 h.2.1 h.2.2
theorem e1_4{α:Sort _}{p q r s:α→Prop}{g:Prop}(h:∃a,p a∧q a∧r a∧s a)(k:∀a,p a→q a→r a→s a→g):g:=h.elim λa h=>k a h.1 h.2.1 h.2.2.1 h.2.2.2
theorem e0_5{p q r s t:Prop}{g:Prop}(h:p∧q∧r∧s∧t)(k:p→q→r→s→t→g):g:=k  h.1 h.2.1 h.2.2.1 h.2.2.2.1 h.2.2.2.2
theorem i2_1{α β:Sort _}{p:α→β→Prop}(a:α)(b:β)(h0:p a b):∃a b,p a b:=⟨a,b,h0⟩
theorem i1_2{α:Sort _}{p q:α→Prop}(a:α)(h0:p a)(h1:q a):∃a,p a∧q a:=⟨a,h0,h1⟩
theorem i0_3{p q r:Prop}(h0:p)(h1:q)(h2:r):p∧q∧r:=⟨h0,h1,h2⟩
theorem i3_1{α β γ:Sort _}{p:α→β→γ→Prop}(a:α)(b:β)(c:γ)(h0:p a b c):∃a b c,p a b c:=⟨a,b,c,h0⟩
theorem i2_2{α β:Sort _}{p q:α→β→Prop}(a:α)(b:β)(h0:p a b)(h1:q a b):∃a b,p a b∧q a b:=⟨a,b,h0,h1⟩
theorem i1_3{α:Sort _}{p q r:α→Prop}(a:α)(h0:p a)(h1:q a)(h2:r a):∃a,p a∧q a∧r a:=⟨a,h0,h1,h2⟩
theorem i0_4{p q r s:Prop}(h0:p)(h1:q)(h2:r)(h3:s):p∧q∧r∧s:=⟨h0,h1,h2,h3⟩
theorem i4_1{α β γ δ:Sort _}{p:α→β→γ→δ→Prop}(a:α)(b:β)(c:γ)(d:δ)(h0:p a b c d):∃a b c d,p a b c d:=⟨a,b,c,d,h0⟩
theorem i3_2{α β γ:Sort _}{p q:α→β→γ→Prop}(a:α)(b:β)(c:γ)(h0:p a b c)(h1:q a b c):∃a b c,p a b c∧q a b c:=⟨a,b,c,h0,h1⟩
theorem i2_3{α β:Sort _}{p q r:α→β→Prop}(a:α)(b:β)(h0:p a b)(h1:q a b)(h2:r a b):∃a b,p a b∧q a b∧r a b:=⟨a,b,h0,h1,h2⟩
theorem i1_4{α:Sort _}{p q r s:α→Prop}(a:α)(h0:p a)(h1:q a)(h2:r a)(h3:s a):∃a,p a∧q a∧r a∧s a:=⟨a,h0,h1,h2,h3⟩
theorem i0_5{p q r s t:Prop}(h0:p)(h1:q)(h2:r)(h3:s)(h4:t):p∧q∧r∧s∧t:=⟨h0,h1,h2,h3,h4⟩
end Zz
local macro_rules
 |`(tactic|let $d:letDecl)=>do
  let D:=d.raw[0];let p:=D[0];let q:=p[1].getSepArgs
  if p.getKind !=``Lean.Parser.Term.anonymousCtor||q.size<2 then Lean.Macro.throwUnsupported
  let mut e:Lean.TSyntax `term:=⟨D[4]⟩
  if D[2].getNumArgs !=0 then e:=←`(($e : $(⟨D[2][0][1]⟩)))
  let T:=Array (Lean.TSyntax `tactic)
  let mut U:T:=#[]
  let mut cl:T:=#[]
  if e.raw.isIdent then cl:=#[←`(tactic|try clear $(⟨e.raw⟩))]
  let K:=Nat.min q.size 5
  for k in [0:K-1] do
   let N:=K-k
   let mut z:=cl
   for i in [0:N] do
    let c:=q[i]!
    if c.isIdent&&c.getId !=`rfl&&(i+1<N||N==q.size) then z:=z.push (←`(tactic|intro $(⟨c⟩):ident))
    else
     let y:=Lean.mkIdent (←Lean.Macro.addMacroScope (.mkSimple s!"x{i}"))
     z:=z.push (←`(tactic|intro $y:ident))
     if i+1==N&&N<q.size then
      let r:Lean.TSyntaxArray `term:=(q.extract i q.size).map (⟨·⟩)
      z:=z.push (←`(tactic|let ⟨$r,*⟩:=$y))
     else if c.getKind==``Lean.Parser.Term.anonymousCtor then z:=z.push (←`(tactic|let $(⟨c⟩):term:=$y))
     else if c.isIdent then z:=z.push (←`(tactic|rcases $y:ident with $(⟨c⟩):ident))
   for i in [0:N] do
    let s:=#[←`(tactic|refine $(Lean.mkIdent (.mkStr2 "Zz" s!"e{N-1-i}_{i+1}")) $e ?_)]++z
    U:=U.push (←`(tactic|($[$s:tactic];*)))
  let rec cv:Nat->Lean.Syntax->Lean.MacroM (Lean.TSyntax `rcasesPat)
   |0,_=>Lean.Macro.throwUnsupported
   |n+1,c=>do
    if c.isIdent then `(rcasesPat|$(⟨c⟩):ident)
    else if c.getKind==``Lean.Parser.Term.anonymousCtor then
     let a:=←c[1].getSepArgs.mapM (cv n)
     `(rcasesPat|⟨$[$a],*⟩)
    else `(rcasesPat|_)
  let m←cv 9 p
  `(tactic|first $[|$U:tactic]*|rcases $e:term with $m:rcasesPat)
 |`(tactic|intro $a*)=>do
  let C:=λx:Lean.Syntax=>x.getKind==``Lean.Parser.Term.anonymousCtor||x.getId==`rfl
  if !a.any (C ·.raw) then Lean.Macro.throwUnsupported
  let mut z:Array (Lean.TSyntax `tactic):=#[]
  for x in a do
   if C x then
    let y:=Lean.mkIdent (←Lean.Macro.addMacroScope `y)
    z:=z.push (←`(tactic|intro $y:ident))
    z:=z.push (←if x.raw.isIdent then `(tactic|rcases $y:ident with $(⟨x⟩):ident) else `(tactic|let $x:term:=$y))
   else z:=z.push (←`(tactic|intro $x:term))
  `(tactic|($[$z:tactic];*))
 |`(tactic|exact ⟨$a,*⟩)=>do
  let q:=a.getElems;let n:=q.size
  if n<3||5<n then Lean.Macro.throwUnsupported
  let mut U:Array (Lean.TSyntax `tactic):=#[]
  for i in [0:n] do U:=U.push (←`(tactic|exact $(Lean.mkIdent (.mkStr2 "Zz" s!"i{n-1-i}_{i+1}")) $q*))
  `(tactic|first $[|$U:tactic]*|exact (⟨$a,*⟩))
 |`(tactic|refine ⟨$a,*⟩)=>do
  let q:=a.getElems;let n:=q.size
  if n<3||5<n then Lean.Macro.throwUnsupported
  let mut U:Array (Lean.TSyntax `tactic):=#[]
  for i in [0:n] do U:=U.push (←`(tactic|refine $(Lean.mkIdent (.mkStr2 "Zz" s!"i{n-1-i}_{i+1}")) $q*))
  `(tactic|first $[|$U:tactic]*|refine (⟨$a,*⟩))
local macro_rules |`(tactic|ext a)=>`(tactic|walk_at"a")|`(tactic|ext b)=>`(tactic|walk_at"b")|`(tactic|ext c)=>`(tactic|walk_at"c")|`(tactic|ext d)=>`(tactic|walk_at"d")|`(tactic|ext dk)=>`(tactic|walk_at"dk")|`(tactic|ext dm)=>`(tactic|walk_at"dm")|`(tactic|ext e)=>`(tactic|walk_at"e")|`(tactic|ext f)=>`(tactic|walk_at"f")|`(tactic|ext n)=>`(tactic|walk_at"n")|`(tactic|ext s)=>`(tactic|walk_at"s")|`(tactic|ext sc)=>`(tactic|walk_at"sc")|`(tactic|ext x)=>`(tactic|walk_at"x")
open PySem renaming PyData->aD,wpAny_bind->gT,Value->Ad,Shared->Io,wpAny_pure->LD,starEach->aac,sizeLine_eq->aag,sizeLine->aam,mainGlobals->aay,wpAny_setField_rec->aaH,Program->aaI,foldedSetIterable->aaM,bootBuiltins->aaO,Heap->aaQ,compareOp->aaS,wpAny_callSpecial?_slot->aaT,wpAny_call_entry->aa2,assignEach->aa4,wpAny_isOneOf_itemiter->aa6,wpAny_field->aa7,wpAny_newObj_type->aa9,Around->abc,backTo->abn,attributeBase->abv,swapsWith->abz,sysModules->abA,Paired->abI,wpAny_holding->abR,FuncData->abU,keywordEach->abY,DictEntry->ab2,binaryOp->ab8,mem_of_lookup->acg,wpAny_mono->acr,wpAny_rule->acs,pyNext->act,wpAny_Call_Name_kw->acv,wpAny_seqItems->acz,wpAny_passesOwn->acA,standAt->acE,wpAny_standAt->acJ,behindInMarks->acK,wpAny_attempt->acL,setField->acQ,wpAny_isInstance->acR,wpAny_typeOf->acV,call_meets->acX,IsItemIter->ac2,backToKw->ac4,codeAny_builtin->ac6,wpAny_truthy_bool->adb,Builtin->adc,wpAny_dictEntries->adg,rawInt->adk,holding->adl,Keyword->adm,swapsWithSole->ady,swappedStores->adz,bindArgs->adA,wpAny_comprehension_free->adE,ReadsAll->adF,letOwnedTupleGo->adJ,codeAny->adK,wpAny_dictEpoch->adO,tupleKind_room_in1->adR,sliceBounds->adW,codeAny_mono->ad2,getMethod->aef,wpAny_forIn_list->aej,getItem->ael,NameKind->aep,wpAny_updateSeq_pair->aer,wpAny_execs_nil->aeu,IsPair->aez,wpAny_loadPart'->aeB,wpAny_specialOf->aeC,Operator->aeQ,wpAny_newTuple->aeZ,isSubtype_stop->ae0,intText?->ae2,wpAny_fieldsOf->ae3,wpAny_binaryOp_repeat_ref->ae8,wpAny_sequenceKey->afd,slot_list_getitem->afe,wpAny_letGo->afg,assign->afj,wpAny_getItem_list_slice->afk,wpAny_onRaise->afn,wpAny_newList->afq,IsItemIterOut->afu,PassesOwn->afx,noFill_tuple_add->afz,Within->afH,pyIter->afI,concat_meets->afL,IsPart->afM,typeIs_str->afO,typeIs_int->afP,wpAny_Assign_Subscript->afU,wpAny_updateSeq->af7,exec_Assign_Name_used->aga,wpAny_notOrdered_dict->agf,callWith->agi,subscripted->agj,compEnvC->agm,tupleKind->agr,callerA->ags,relabel->agt,valueAt->agu,assignInOrder->agC,seq_tuple_add->agD,plainId_quiet->agG,typeOf->agK,IntMulOk->agW,BindsTo->agZ,newList->ag2,slicePick->ahb,seqSlot_of->ahf,strValues->ahg,specialOf->ahh,call->ahv
open List renaming length_map->iO,getElem?_eq_getElem->mT,getElem?_eq_some_iff->AD,mem_of_getElem?->Ld,mem_cons_self->aaa,mem_cons_of_mem->aab,mem_cons->aae,mem_singleton->aaf,map_cons->aah,length_append->aal,getElem?_map->aao,mem_map->aap,length_cons->aaq,take_length->aat,getElem?_append_right->aav,map_append->aaw,replicate->aaz,getD_eq_getElem?_getD->aaA,length_take->aaB,getElem?_append_left->aaD,mem_append->aaG,mem_append_right->aaJ,size_toArray->aaK,range->aaL,getElem?_set_ne->aaR,Nodup->aaV,map_map->aaW,lookup_cons->aaX,getElem?_take->aaY,append_nil->aaZ,getElem?_set_self->aa0,append_assoc->aa3,nodup_cons->aa5,not_mem_nil->aa8,nil_append->aba,take_add_one->abb,length_range->abg,eq_nil_of_length_eq_zero->abr,length_set->abt,mem_append_left->abB,sum_cons->abC,all_eq_true->abD,pairwise_iff_getElem->abF,nodup_nil->abL,mem_iff_getElem->abQ,all_cons->abT,mem_flatMap->ab3,length->ab9,getElem?_of_mem->aca,replicate_succ->ach,getElem?_range->aci,map_congr_left->ack,map_nil->acn,getElem_mem->acq,pairwise_cons->acy,nodup_append->acF,mem_of_mem_take->acH,pairwise_singleton->acT,length_nil->ac7,length_replicate->ac8,ext_getElem?->ade,reverse_cons->adf,cons_append->adn,getElem_map->adp,filter_cons->adq,filterMap_cons->adt,getElem_set_ne->adu,map_eq_nil_iff->adv,range_succ->adM,getElem?_replicate->adU,getElem?_cons_succ->adY,mem_range->ad0,all_map->aea,length_drop->aeh,lookup->aeo,foldl_cons->aev,take_succ->ae6,mem_or_eq_of_mem_set->ae9,any_cons->afr,take_of_length_le->afR,mem_filter->af0,of_mem_zip->af3,forIn_cons->af5,getElem_set_self->agb,getElem?_eq_none->age,length_singleton->agg,length_filter_le->agh,flatMap_append->agv,length_reverse->agy,filterMap_map->agI,set_cons_zero->agP,set_cons_succ->agQ,filter_append->agT,flatten_cons->ag0,foldl_append->ag7,all_eq_false->ag8,ext_getElem->ahd,zipIdx_cons->ahe,getD->ahj,any_eq_true->ahk,range'->ahm,map_id->ahn,foldl->ahu
open PySem.Heap renaming get?_push_of_some->GT,get?_push_size->aak,lt_size->aan,SameBut->abd,size_push->abp,get?_update_other->acW,get?_update_self->ac9,size_update->aek,ExtBut->aff,get?_push_cases->ago
open Nat renaming le_refl->Mt,lt_of_lt_of_le->aas,le_trans->aax,ne_of_lt->aaU,ne_of_gt->abm,lt_succ_self->abu,zero_le->abw,le_add_right->ab5,zero_add->acm,le_of_lt->acD,mul_le_mul_right->acG,lt_irrefl->acI,lt_trans->ado,zero_ne_add_one->adx,lt_succ_of_lt->ad5,mul_le_mul->ad8,min_eq_left->aex,le_max_left->aey,mul_comm->aeI,succ_mul->aeK,lt_or_gt_of_ne->aeV,eq_zero_or_pos->ae5,le_succ->afc,add_assoc->afo,gcd_pos_of_pos_right->afs,min_le_right->afA,le_of_eq->afJ,toDigits->afY,log2_lt->agn,add_left_cancel->agA,min_self->ag4,succ_pos->ag6,mod_lt->ahx
open PySem.W renaming Frag->aad,nsIn->aaF,mg_none_of->aaP,fnOf->abe,findIn->abo,emptyDict->abH,keepIn->abJ,instObj->ace,plainGet->acO,kia_one->ac5,hasDictIn->add,codeIn->adh,plainOver->ad1,plainGet_of->aeF,isFn->aeG,lookIn->aeS,callWith_K->aeT,mg_of->afm,cellsFrom_some->afK,takerIn->af1,makesIn->af2,OpenLaw->af4,methodCall_KW->af9,handedIn->ag9,WalkO->ahy
open Bool renaming false_ne_true->aai,and_eq_true->aaE,eq_iff_iff->abX,true_and->acp,and_true->acM,false_eq_true->acY,beq_eq_decide_eq->aeb,or_eq_false_iff->aeq,not_eq_true->afD,or_eq_true->af6,and_false->agk,false_and->agp
open PySem.PyData renaming eqv->aaj,depthAll->aaC,hasDict_of_canLay->abh,canLayAll0->aby,int->ab4,hasDictAll->acb,hasDict->acx,shownAll->acB,hasDictAll_of_canLayAll->acP,tuple->ac1,list->adj,str->aei,shown->aeJ,canLay0->aeW,eqvAll->aft,showableAll->agM,noDict_hsm->ag3
open Option.some renaming inj->aar
open PySem.PassesOwn renaming never->aaN
open PySem.F renaming slot_dict_itemiterator_next->aa1,slot_list_append->abi,type_list_append->abj,args_dict_itemiterator_next_1->abZ,entry_dict_itemiterator_next->ab6,slot_str_split->ac0,slot_enumerate_next->ada,plain_extend_loop->adw,args_tuple_add_2->adC,slot_tuple_index->adG,args_str_split_2->adI,entry_tuple_add->adV,entry_str_split->adX,slot_tuple_add->ad4,slot_tuple_mul->ad6,slot_str_join->aed,type_str_join->aee,slot_zip_next->aeA,slot_dict_items_iter->aeE,slot_tuple_iterator_next->aeY,slot_dict_getitem->afa,slot_tuple_hash->afi,type_tuple_index->afw,args_enumerate_next_1->afB,slot_tuple_rmul->afC,slot_dict_items->afE,entry_enumerate_next->afS,slot_int_rmul->agc,entry_extend_loop->agz
open Int renaming toNat_natCast->abf,eq_ofNat_of_zero_le->acd,emod_lt_of_pos->ac3,natCast_mul->adN,emod_nonneg->adP,natCast_add->aeD,le_trans->aeM,toNat->aeO,ediv_nonneg->af8
open PySem.Value renaming ref->abk,type->acU,none->afG,int->agq,bool->aht,str->ahA
open PyProof.Rows renaming slot_tuple_getitem->abl,callWith_type1->acl,seqObj->acS,envOfC->ad3,callWith_builtin1->aeg,IntsAre->aeH,assignInOrder_cons->aeR,AllBare->afb,listUpdate_at->afp,subscriptTail_builtinR->afN,split_pos->afV,sortedHeap->afX,split_le->agd,tupleItemsOf_->agE,subscriptTail->agF,Subscript_->agJ,listItems_at->ag5
open PySem.Txt renaming split->abq,join->ad9
open Ne renaming symm->abx
open PySem.Builtin.Tuple renaming tupleHashOf->abE,tupleExact->abK,tupleItemsOf->adi,tupleIsExact->aeX,tupleTooMany->ae1
open PySem.Builtin.SmallTypes renaming nextOf->abG,ownedTupleIsFree->abM,ownedTupleHandOut->acj
open PySem.Builtin.Dict_items renaming ownedTupleIsFree->abN,ownsTuple->abP,pairFromOwner->abV,isOneOf->ae4
open PySem.Str renaming ofString->abO,join->aes,empty->aeN
open Array renaming length_toList->abW,getElem?_eq_getElem->ab0,getElem?_toList->ab1,all_eq_true'->adT,getElem?_eq_none->afW,toList_append->agx,forIn_toList->agS,toList->agU,size_push->aho
open PySem.SeqAt renaming shaped->ab7,canLay_of_shaped->acZ,EqAt->afF,readOf->afT,eqAt_reads->ahi
open False renaming elim->acf
open PySem.Builtin.List renaming listLengthHint->aco,listTooLong->adD,listSameRef->adH,listExtendWith->aeL
open True renaming intro->acu
open PySem.Obj renaming mapSeq->acw,data_mapFields->agN
open PySem.Builtin.Slice renaming slicePlaces->adr,sliceAdjust->ae7
open Option renaming isSome_iff_exists->adB,map_some->adL,map_eq_some_iff->ad7,isSome_map->afh,getD_none->aha
open Or renaming inr->adQ,inl->afl
open PySem.NumText renaming digitsVal->adZ
open PySem.StrLaws renaming glued_eq_join->aec,join_split->agR
open PySem.NameKind renaming free->aem,cell->ahz
open List.cons renaming inj->aen
open PySem.Around renaming under_plainId->aet
open ForInStep renaming yield->aew
open PySem.Calls renaming Name_function_global->aeP,callWith_builtin->afQ,spliced_cons->agH,spliced_nil->agY
open Prod renaming ext->aeU
open PySem.Shared renaming TypeIs->afv,heap->ahl
open PySem.Builtin.Str renaming occurrences->afy
open UInt32 renaming le_iff_toNat_le->afZ
open PySem.Heap.SameBut renaming update->agw
open PySem.Paired renaming length->agB
open ToString renaming toString->agX
open List.Pairwise renaming nil->ag1
open And renaming intro->ahc
open Sum renaming inl->ahp,inr->ahq
namespace L2
open PySem PySem.Spec PyProof.Rows
variable{us:List Ad}{H:Hp}{C a b:Addr}{o:HO}{h:aaQ}{P:aaI}{w:World}{g':Array GenState}{i j t':Nat}{ch fp:List Addr}{N ps:List Str}{x:Str}{M:Model}{A:abc}{E Q:Ad->Io->Prop}{v:V}{u:Ad}{X:Cx}{c e tg:Expr}{pos:Pos}{pins:List (Addr×Obj)}{σ:St}{K:aad}{es:List Expr}{te:TE}{op:CmpOp}{body:List Stmt}{f:Ad->Ad->Sem Ad}{r:R2}{g:Int->Int->Int}{mA mg:Str->Option Ad}{pl:Sem Bool}{kw:List (Str×Ad)}{outer:List Env}{vs:List V}{scope:Scope}
abbrev Key:=Sum Int Str
def yU:Key->Ad->Bool
 | .inl k,v=>Value.isInt k v
 | .inr x,v=>Value.isStrOf x v
def keyH(w:World):Key->Int
 | .inl k=>hashInt k
 | .inr x=>hashStr w x
theorem bW:∀{k:Key}{v:Ad},yU k v=true->(∃i t,k=ahp i/\v=agq i t)\/(∃x t,k=ahq x/\v=ahA x t)
 | .inl i,v,h=>by
  let⟨t,e⟩:=Ad.isInt_shape h;exact .inl ⟨i,t,rfl,e⟩
 | .inr x,v,h=>by
  let⟨t,e⟩:=Ad.isStrOf_shape h;exact .inr ⟨x,t,rfl,e⟩
def CC(i:Int)(t:Tok):yU (.inl i) (.int i t)=true:=by simp[yU,Value.isInt]
def zN(x:Str)(t:Tok):yU (.inr x) (.str x t)=true:=by simp[yU,Value.isStrOf]
theorem TU(a b:Int):decide ((ahp a:Key)=ahp b)=(a==b):=by
 by_cases e:a=b
 .subst e;simp
 .simp_all
def Wm(a b:Str):decide ((ahq a:Key)=ahq b)=decide (a=b):=by simp
def W5(a:Int)(b:Str):decide ((ahp a:Key)=ahq b)=false:=rfl
def Wf(a:Str)(b:Int):decide ((ahq a:Key)=ahp b)=false:=rfl
def cx(prog:aaI)(w:World):PySem.KeyKind prog w Key where
 is:=yU
 hash:=keyH w
 inj:=λv a b m l=>by
  rcases bW m with⟨i,t,rfl,rfl⟩|⟨x,t,rfl,rfl⟩
  .rcases bW l with⟨j,u,rfl,e⟩|⟨y,u,rfl,e⟩
   .injection e with e1 _;rw[e1]
   .exact nomatch e
  .rcases bW l with⟨j,u,rfl,e⟩|⟨y,u,rfl,e⟩
   .exact nomatch e
   .injection e with e1 _;rw[e1]
 byValue:=λk v h=>by
  rcases bW h with⟨i,t,rfl,rfl⟩|⟨x,t,rfl,rfl⟩<;>rfl
 pyHash:=λd h=>by
  rcases bW d with⟨i,t,rfl,rfl⟩|⟨x,t,rfl,rfl⟩
  .exact wpAny_pyHash_int h
  .exact wpAny_pyHash_str h
 eqBool:=λn d h=>by
  rcases bW n with⟨i,t,rfl,rfl⟩|⟨x,t,rfl,rfl⟩
  .rcases bW d with⟨j,u,rfl,rfl⟩|⟨y,u,rfl,rfl⟩
   .rw[TU]at h;exact wpAny_eqBool_int h
   .rw[W5]at h;exact afF.int_str i t y u _ _ _ _ h
  .rcases bW d with⟨j,u,rfl,rfl⟩|⟨y,u,rfl,rfl⟩
   .rw[Wf]at h;exact afF.str_int x t j u _ _ _ _ h
   .rw[Wm]at h;exact wpAny_eqBool_str h
 «strs»:=λk x t v h=>by
  rcases bW h with⟨i,u,rfl,e⟩|⟨y,u,rfl,e⟩
  .exact nomatch e
  .injection e with e1 _
   subst e1
   cases v<;>rfl
def vb(prog:aaI)(w:World)(i:Int)(t:Tok):(cx prog w).is (.inl i) (.int i t)=true:=CC i t
def wd(prog:aaI)(w:World)(x:Str)(t:Tok):(cx prog w).is (.inr x) (.str x t)=true:=zN x t
inductive V where
 |non|bl (b:Bool)|int (i:Int)|str (x:Str)|byt (b:Array UInt8)|flt (b:UInt64)|ref (a:Addr)|ty (n:String)
 deriving DecidableEq
def RelV:V->Ad->Prop
 | .non,u=>u=afG
 | .bl b,u=>u=aht b
 | .int i,u=>∃t,u=agq i t
 | .str x,u=>∃t,u=ahA x t
 | .byt b,u=>∃t,u=Ad.bytes b t
 | .flt b,u=>∃t,u=Ad.float b t
 | .ref a,u=>u=abk a
 | .ty n,u=>u=acU n
abbrev Vals:List V->List Ad->Prop:=abI RelV
def Vals.length{xs:List V}(r:Vals xs us):xs.length=us.length:=agB r
theorem Vals.get:∀{xs:List V}{us:List Ad}{i:Nat}{x:V},Vals xs us->xs[i]?=some x->∃u,us[i]?=some u/\RelV x u
 |_,_,_,_,.nil,e=>by simp at e
 |_,_,0,_,.cons r _,e=>by simp at e;subst e;exact⟨_,rfl,r⟩
 |_,_,i+1,x,.cons _ t,e=>by
  let⟨u,d,k⟩:=Vals.get t ‹_›;exact⟨u,by simpa using d,k⟩
theorem Vals.append:∀{xs ys:List V}{us d:List Ad},Vals xs us->Vals ys d->Vals (xs++ys) (us++d)
 |_,_,_,_,.nil,s=>s
 |_,_,_,_,.cons r t,s=>.cons r (Vals.append t s)
theorem Vals.take:∀{xs:List V}{us:List Ad} (n:Nat),Vals xs us->Vals (xs.take n) (us.take n)
 |_,_,0,_=>.nil
 |_,_,_+1,.nil=>.nil
 |_,_,n+1,.cons r t=>.cons r (Vals.take n t)
theorem Vals.drop:∀{xs:List V}{us:List Ad} (n:Nat),Vals xs us->Vals (xs.drop n) (us.drop n)
 |_,_,0,r=>r
 |_,_,_+1,.nil=>.nil
 |_,_,n+1,.cons _ t=>Vals.drop n t
theorem Vals.none_of:∀{xs:List V}{us:List Ad}{i:Nat},Vals xs us->xs[i]?=none->us[i]?=none:=λ{xs us i} r e=>by
 have d:=r.length
 simp_all
def RelO:Option V->Option Ad->Prop
 |some v,some u=>RelV v u
 |none,none=>True
 |_,_=>False
def KV{d:Type}:List (d×V)->List (d×Ad)->Prop:=abI λ(p:d×V) (q:d×Ad)=>p.1=q.1/\RelV p.2 q.2
def kV:Key->V
 | .inl i=>.int i
 | .inr x=>.str x
inductive HO where
 |lst (xs:List V)
 |tup (xs:List V)
 |dK (kvs:List (Key×V))|dT (kvs:List (List Key×V))
 |set (S:Int->Bool) (n:Nat)
 |ins (C dx:Addr) (fs:List (Str×V))
 |own (x:Addr)
 |xd (fs:List (Str×V))
 |met (f x:Addr)
 |rng (lo hi:Int)
 |frz (o:Obj) (u:HO)
 |tbl (ps:Array Ad)
 |ext (φ:aaQ->Prop)
abbrev Hp:=Addr->Option HO
def upd(H:Hp)(a:Addr)(o:HO):Hp:=λb=>if b=a then some o else H b
def aB:upd H a o a=some o:=by unfold upd;rw[if_pos rfl]
def aA(h:b≠a):upd H a o b=H b:=by unfold upd;rw[if_neg h]
theorem zm{u:HO}(h:H a=some o)(h':H b=some u)(d:o≠u):a≠b:=by
 intro e;subst e;rw[h]at h';exact d (aar h')
theorem bx(h:H a=some o)(h':H b=none):a≠b:=by grind
def PlainT(h:aaQ)(a:Addr)(items:Array Ad):Prop:=∃o,h.get? a=some o/\o.cls = .type "tuple"/\o.dict=none/\∃n,o.data = .seq items n
theorem PlainT.tup{items:Array Ad}(x:PlainT h a items):IsTup h a items:=let ⟨o,e,c,_,d⟩:=x;⟨o,e,c,d⟩
def PlainT.new(h:aaQ)(items:Array Ad):PlainT (h.push {cls:=.type "tuple",data:=.seq items}) h.objs.size items:=⟨_,aak _ rfl,rfl,rfl,_,rfl⟩
section
variable (P:aaI) (w:World)
def ObjOk(H:Hp)(h:aaQ)(a:Addr):HO->Prop
 | .lst l=>l.length≤aam/\∃(d:List Ad) (n:Nat),Vals l d/\h.get? a=some {cls:=.type "list",data:=.seq d.toArray n}
 | .tup l=>l.length≤aam/\∃d:List Ad,Vals l d/\PlainT h a d.toArray
 | .dK k=>k.length≤aam/\(a==abA)=false/\∃vs,KV k vs/\h.DictOf (cx P w) a vs
 | .dT k=>k.length≤aam/\(a==abA)=false/\∃l:List (List Key×Addr×Ad),
   abI (λ(p:List Key×V) (q:List Key×Addr×Ad)=>p.1=q.1/\H q.2.1=some (.tup (p.1.map kV))/\RelV p.2 q.2.2) k l/\
   ∃o es z,h.get? a=some o/\o.ExactDict/\o.data = .dict es z/\es.toList=l.map (entryOfKey (agr (cx P w)))/\(l.map (·.1)).Nodup
 | .set S n=>h.SetOf (intKind P w) a S n
 | .ins C dx fs=>H dx=some (.own a)/\fs.length≤1000/\dx≠a/\h.get? a=some (ace C dx)/\
   ∃mA,h.Ns1 dx mA/\(∀f,RelO (fs.lookup f) (mA f))/\afH mA (fs.map (·.1))
 | .own _=>∃o,h.get? a=some o
 | .xd fs=>∃mA,h.Ns1 a mA/\∀f,RelO (fs.lookup f) (mA f)
 | .rng B D=>∃t u v,h.get? a=some {cls:=.type "range",data:=.fields #[.int B t,.int D u,.int 1 v]}
 | .frz o u=>h.get? a=some o/\ObjOk H h a u
 | .tbl ps=>h.get? a=some {cls:=.none,data:=.fields ps}
 | .met f x=>h.get? a=some (PySem.W.methodObj (.ref f) (.ref x))
 | .ext m=>m h/\(∃o,h.get? a=some o)/\∀y s:aaQ,m y->(∀o,y.get? a=some o->s.get? a=some o)->m s
def HOk(H:Hp)(h:aaQ):Prop:=∀a o,H a=some o->ObjOk P w H h a o
end
section
variable {P:aaI}{w:World}{H g:Hp}{h h':aaQ}{a:Addr}{o:HO}
theorem ObjOk.lt(x:ObjOk P w H h a o):a<h.objs.size:=by
 cases o with
 |lst d=>let⟨_,_,_,_,e⟩:=x;exact aan e
 |tup d=>let⟨_,_,_,p⟩:=x;exact p.tup.lt
 |dK k=>let⟨_,_,_,_,o,_,_,e,_⟩:=x;exact aan e
 |dT k=>let⟨_,_,_,_,o,_,_,e,_⟩:=x;exact aan e
 |set S n=>let⟨o,_,_,_,e,_⟩:=x;exact aan e
 |ins C dx fs=>let⟨_,_,_,e,_⟩:=x;exact aan e
 |own y=>let⟨_,e⟩:=x;exact aan e
 |xd fs=>let⟨_,⟨_,_,_,e,_⟩,_⟩:=x;exact aan e
 |rng m s=>let⟨_,_,_,e⟩:=x;exact aan e
 |frz l u=>let⟨e,_⟩:=x;exact aan e
 |tbl ps=>exact aan (x)
 |met f y=>exact aan (x)
 |ext q=>let⟨_,⟨_,e⟩,_⟩:=x;exact aan e
theorem Paired.mapP{k β:Type}{F G:k->β->Prop}:∀{d:List k}{l:List β},abI F d l->(∀a b,F a b->G a b)->abI G d l
 |_,_,.nil,_=>.nil
 |_,_,.cons r t,f=>.cons (f _ _ r) (Paired.mapP t f)
theorem ObjOk.stay(x:ObjOk P w H h a o)(k:∀b u,(b=a\/H b=some (.own a))->h.get? b=some u->h'.get? b=some u)
  (I:∀b,H b=some (.own a)->g b=some (.own a)) (J:∀b xs,H b=some (.tup xs)->g b=some (.tup xs)):ObjOk P w g h' a o:=by
 induction o with
 |lst xs=>let⟨z,s,n,r,e⟩:=x;exact⟨z,s,n,r,k _ _ (.inl rfl) e⟩
 |tup xs=>let⟨z,s,r,l,e,c⟩:=x;exact⟨z,s,r,l,k _ _ (.inl rfl) e,c⟩
 |dK B=>let⟨z,y,vs,r,l,es,m,e,c⟩:=x;exact⟨z,y,vs,r,l,es,m,k _ _ (.inl rfl) e,c⟩
 |dT B=>
  let⟨z,y,xs,r,l,es,m,e,c⟩:=x;exact⟨z,y,xs,Paired.mapP r λp q z=>⟨z.1,J _ _ z.2.1,z.2.2⟩,l,es,m,k _ _ (.inl rfl) e,c⟩
 |set S n=>let⟨l,es,m,t,e,c⟩:=x;exact⟨l,es,m,t,k _ _ (.inl rfl) e,c⟩
 |ins C dx fs=>
  let⟨d,z,ne,e,mA,⟨D,es,m,G,c⟩,r⟩:=x;exact⟨I _ d,z,ne,k _ _ (.inl rfl) e,mA,⟨D,es,m,k _ _ (.inr d) G,c⟩,r⟩
 |own y=>let⟨l,e⟩:=x;exact⟨l,k _ _ (.inl rfl) e⟩
 |xd fs=>let⟨mA,⟨D,es,m,e,c⟩,r⟩:=x;exact⟨mA,⟨D,es,m,k _ _ (.inl rfl) e,c⟩,r⟩
 |rng T R=>let⟨t,u,v,e⟩:=x;exact⟨t,u,v,k _ _ (.inl rfl) e⟩
 |frz l u L=>let⟨e,q⟩:=x;exact⟨k _ _ (.inl rfl) e,L q⟩
 |tbl ps=>
  have e:h.get? a=some {cls:=.none,data:=.fields ps}:=x;exact k a _ (.inl rfl) e
 |met f y=>
  have e:=x;exact k a _ (.inl rfl) e
 |ext O=>let⟨p,⟨o,e⟩,F⟩:=x;exact⟨F _ _ p λo q=>k _ _ (.inl rfl) q,⟨o,k _ _ (.inl rfl) e⟩,F⟩
def HOk.lt(x:HOk P w H h)(e:H a=some o):a<h.objs.size:=(x a o e).lt
theorem HOk.fresh(x:HOk P w H h)(e:h.objs.size≤a):H a=none:=by
 cases q:H a with
 |none=>rfl
 |some u=>exact absurd (aas (x.lt q) e) (acI _)
theorem HOk.kept(x:HOk P w H h)(k:∀b u,h.get? b=some u->h'.get? b=some u):HOk P w H h':=λa o e=>
 (x a o e).stay (λb u _ q=>k b u q) (λ_ q=>q) λ_ _ q=>q
theorem HOk.laid(x:HOk P w H h)(k:∀b u,h.get? b=some u->h'.get? b=some u)(m:h.objs.size≤a)(new:ObjOk P w (upd H a o) h' a o):HOk P w (upd H a o) h':=λb u e=>by
 have d:=x.fresh m
 by_cases l:b=a
 .subst l;rw[aB]at e;grind
 .rw[aA l]at e;exact(x b u e).stay (λc v _ q=>k c v q) (λc q=>by rw[aA (bx q d)];exact q) λc n q=>by rw[aA (bx q d)];exact q
end
def Rd(H:Hp)(a:Addr)(u:HO):Prop:=H a=some u\/∃o,H a=some (.frz o u)
theorem Rd.ok{u:HO}(r:Rd H a u)(x:HOk P w H h):ObjOk P w H h a u:=by
 rcases r with r|⟨o,r⟩
 .exact x a u r
 .obtain⟨_,q⟩:=x a _ r;exact q
def Mut:Option HO->Prop
 |some (.lst _)=>True
 |some (.dK _)=>True
 |some (.dT _)=>True
 |some (.set _ _)=>True
 |some (.ins _ _ _)=>True
 |some (.ext _)=>True
 |_=>False
section
variable {P:aaI}{w:World}{H:Hp}{h h':aaQ}{x e:Addr}{o:HO}
theorem HOk.write(ok:HOk P w H h)(mu:Mut (H x))(B:e=x\/H e=some (.own x))(k:∀b u,b≠e->h.get? b=some u->h'.get? b=some u)(p:∃u,h'.get? e=some u)
  (new:ObjOk P w (upd H x o) h' x o):HOk P w (upd H x o) h':=λb u q=>by
 have l:∀c y,H c=some (.own y)->c≠x:=λc y r z=>by subst z;rw[r]at mu;exact mu
 have n:∀c m,H c=some (.tup m)->c≠x:=λc m r z=>by subst z;rw[r]at mu;exact mu
 by_cases s:b=x
 .subst s;rw[aB]at q;grind
 .rw[aA s]at q
  by_cases d:b=e
  .have q':H b=some (.own x):=by
    rcases B with z|z
    .exact absurd (d.trans z) s
    .rw[d];exact z
   rw[q]at q';cases q';let⟨v,t⟩:=p;exact⟨v,by rw[d];exact t⟩
  .refine(ok b u q).stay (λc v D r=>k c v ?_ r) (λc r=>by rw[aA (l c b r)];exact r) λc m r=>by rw[aA (n c m r)];exact r
   grind
end
structure Un(fs ex:List Addr)(H H':Hp)(h h':aaQ):Prop where
 keep:∀b o,h.get? b=some o->H b=none->b∉fs->b∉ex->h'.get? b=some o
 slot:∀b o,h.get? b=some o->H b=none->b∈fs->b∉ex->∃sl,h'.get? b=some {o with slots:=sl}
 free:∀b o,h.get? b=some o->H b=none->b∉ex->H' b=none
 there:∀b o,h.get? b=some o->b∉ex->∃o',h'.get? b=some o'
 tups:∀b xs,H b=some (.tup xs)->H' b=some (.tup xs)
 frzs:∀b o u,H b=some (.frz o u)->H' b=some (.frz o u)
 tbls:∀b ps,H b=some (.tbl ps)->∃more,H' b=some (.tbl (ps++more))
section
variable {fs f ex d:List Addr}{H g i:Hp}{h c j h':aaQ}{a x e:Addr}{o:HO}
def Un.any(u:Un fs ex H g h c){k:Obj}(q:h.get? b=some k)(n:H b=none)(l:b∉ex):∃sl,c.get? b=some {k with slots:=sl}:=by
 by_cases m:b∈fs
 .exact u.slot b k q n m l
 .exact⟨k.slots,u.keep b k q n m l⟩
theorem Un.kept(k:∀b u,h.get? b=some u->h'.get? b=some u):Un fs ex H H h h':=
 ⟨λb l q _ _ _=>k b l q,λb l q _ _ _=>⟨l.slots,k b l q⟩,λ_ _ _ n _=>n,λb l q _=>⟨l,k b l q⟩,λ_ _ q=>q,λ_ _ _ q=>q,λ_ ps q=>⟨#[],by rw[q];simp⟩⟩
def Un.refl:Un fs ex H H h h:=Un.kept λ_ _ q=>q
theorem Un.laid(k:∀b u,h.get? b=some u->h'.get? b=some u)(p:h.objs.size≤a)(l:H a=none):Un fs ex H (upd H a o) h h' where
 keep:=λb u q _ _ _=>k b u q
 slot:=λb u q _ _ _=>⟨u.slots,k b u q⟩
 free:=λb u q n _=>by rw[aA (aaU (aas (aan q) p))];exact n
 there:=λb u q _=>⟨u,k b u q⟩
 tups:=λb m q=>by rw[aA (bx q l)];exact q
 frzs:=λb u m q=>by rw[aA (bx q l)];exact q
 tbls:=λb ps q=>⟨#[],by rw[aA (bx q l),q];simp⟩
theorem Un.write(mu:Mut (H x))(B:e=x\/H e=some (.own x))(k:∀b u,b≠e->h.get? b=some u->h'.get? b=some u)(t:∃u,h'.get? e=some u):Un fs ex H (upd H x o) h h':=by
 have s:∀b,H b=none->b≠x:=λb n z=>by subst z;rw[n]at mu;exact mu
 have p:∀b,H b=none->b≠e:=λb n z=>by
  simp_all
 have l:∀b u,H b=some u->¬Mut (some u)->b≠x:=λb u q D z=>by subst z;simp_all
 refine⟨λb u q n _ _=>k b u (p b n) q,λb u q n _ _=>⟨u.slots,k b u (p b n) q⟩,λb u q n _=>by rw[aA (s b n)];exact n,λb u q _=>?_,
  λb y q=>by rw[aA (l b _ q λz=>z)];exact q,λb u y q=>by rw[aA (l b _ q λz=>z)];exact q,λb ps q=>⟨#[],by rw[aA (l b _ q λz=>z),q];simp⟩⟩
 by_cases m:b=e
 .simp_all
 .exact⟨u,k b u m q⟩
end
def trk(h:aaQ)(H:Hp):List Addr:=(aaL h.objs.size).filter λa=>(H a).isSome
def hidT(h:aaQ)(H:Hp):aaQ:=PySem.W.hideAll h (trk h H)
def Aa(h:aaQ)(H:Hp):(hidT h H).objs.size=h.objs.size:=PySem.W.hideAll_size _ _
def JO{o:Obj}(e:h.get? b=some o)(n:H b=none):(hidT h H).get? b=some o:=
 PySem.W.hideAll_get _ e λd=>by
  have q:=(af0.mp d).2;rw[n]at q;simp at q
theorem OU{o:Obj}(e:(hidT h H).get? b=some o):h.get? b=some o/\H b=none:=by
 have d:=PySem.W.of_hideAll _ e;refine⟨d,?_⟩
 cases q:H b with
 |none=>rfl
 |some x=>
  have k:b∈trk h H:=af0.mpr ⟨ad0.mpr (aan d),by simp[q]⟩;have z:(hidT h H).get? b=none:=PySem.W.hideAll_none _ k
  grind
structure Mod(K:aad)(mg:Str->Option Ad)(base:aaQ):Prop where
 kin:K.In base
 glob:base.Ns aay mg
 blt:∃mb,base.Ns builtinsNs mb/\∀x:Str,x ≠ "__name__" -> mb x=aaO x
 nolimit:base.NoLimit
 sys:∃m,base.Ns abA m
inductive Ao where
 |L (a:Addr)|T (t:List (List Nat×Addr))
structure EB where
 np:Nat
 be:List Ao
 H:Hp
structure Cx where
 prog:aaI
 w:World
 K:aad
 mg:Str->Option Ad
 base:aaQ
 A:abc
 N:List Str
 s₀:Io
 H₀:Hp
 env:Env
 outer:List Env
 stack:List Env
 ex:List Addr
 fn:Str->Bool
 calm:Bool
 pn:List (Addr×Obj)
 xe:Ad->Io->Prop
 eb:EB:=⟨0,[],λ_=>none⟩
def frs(l:List Env):List Addr:=l.filterMap (·.frame)
abbrev Cx.fs(X:Cx):List Addr:=frs X.outer
def Vis(sc:Scope)(x:Str):Prop:=sc.names.lookup x=some .local\/sc.names.lookup x=some .cell\/sc.names.lookup x=some .free
def Loc(sc:Scope)(x:Str):Prop:=sc.names.lookup x=some .local\/sc.names.lookup x=some .cell
def Look(env:Env)(h:aaQ)(m:Str->Option Ad)(x:Str)(u:Ad):Prop:=
 (env.kindOf x=some .local/\m x=some u)\/((env.kindOf x=some .cell\/env.kindOf x=some .free)/\∃c,env.cells.lookup x=some c/\h.IsCell c (some u))
structure Cx.Ok(X:Cx):Prop where
 mod:Mod X.K X.mg X.base
 kind:X.env.scope.kind = .function
 glob:X.env.globals=aay
 blt:X.env.builtins=builtinsNs
 above:X.s₀.heap.objs.size≤X.env.locals
 inj:∀x y c,X.env.cells.lookup x=some c->X.env.cells.lookup y=some c->x=y
 has:∀x,(X.env.kindOf x=some .cell\/X.env.kindOf x=some .free)->∃c,X.env.cells.lookup x=some c
 cab:∀x c,X.fn x=true->X.env.cells.lookup x=some c->X.s₀.heap.objs.size≤c
 hd:X.calm=true->X.A.handled=none
 frames:X.A.frames=some X.stack
 stk:X.stack=X.outer\/(X.stack=X.env::X.outer/\X.env.frame=some X.env.locals)
 exf:∀b∈X.ex,b≠X.env.locals/\∀x c,X.env.cells.lookup x=some c->c≠b
 bs:∀b o,X.base.get? b=some o->X.s₀.heap.get? b=some o/\X.H₀ b=none
 bsz:X.base.objs.size≤X.s₀.heap.objs.size
 noex:∀b o,X.base.get? b=some o->b∉X.ex
 exfs:∀b∈X.ex,b∉X.fs
 funs:X.s₀.heap.FunFrames X.base X.outer
 frf:∀b∈X.fs,X.H₀ b=none
structure Inv(X:Cx)(pins:List (Addr×Obj))(σ:List (Option V))(H:Hp)(s:Io):Prop where
 ok:X.Ok
 os:s.os=X.s₀.os
 bare:afb s.gens
 base:Un X.fs X.ex X.H₀ H X.s₀.heap s.heap
 loc:∃m,s.heap.Ns X.env.locals m/\∀(i:Nat) (x:Str) (v:V),X.N[i]?=some x->σ[i]?=some (some v)->Vis X.env.scope x->∃u,RelV v u/\Look X.env s.heap m x u
 cell:∀x c,X.env.cells.lookup x=some c->∃v,s.heap.IsCell c v
 free:H X.env.locals=none
 freeC:∀x c,X.env.cells.lookup x=some c->H c=none
 pin:∀p∈X.pn++pins,s.heap.get? p.1=some p.2/\H p.1=none/\p.1≠X.env.locals/\p.1∉X.fs/\∀v,p.2.data≠.cell v
 hok:HOk X.prog X.w H s.heap
 len:σ.length=X.N.length
section
variable {X:Cx}{f:List (Addr×Obj)}{g:List (Option V)}{H w:Hp}{s:Io}{h':aaQ}
theorem Cx.Ok.nofr(ok:X.Ok){o:Obj}(e:X.base.get? b=some o):b∉X.fs:=λd=>by
 have:=(ok.funs.mem d).1
 grind
theorem Inv.bs(I:Inv X f g H s):∀b o,X.base.get? b=some o->s.heap.get? b=some o/\H b=none:=λb o e=>
 ⟨I.base.keep b o (I.ok.bs b o e).1 (I.ok.bs b o e).2 (I.ok.nofr e) (I.ok.noex b o e),I.base.free b o (I.ok.bs b o e).1 (I.ok.bs b o e).2 (I.ok.noex b o e)⟩
theorem Inv.bk(I:Inv X f g H s):∀b o,X.base.get? b=some o->s.heap.get? b=some o:=λb o e=>(I.bs b o e).1
def Inv.mod(I:Inv X f g H s):Mod X.K X.mg X.base:=I.ok.mod
def Inv.kIn(I:Inv X f g H s):X.K.In s.heap:=I.ok.mod.kin.keeps I.bk
def Inv.lt(I:Inv X f g H s):X.env.locals<s.heap.objs.size:=let ⟨_,hn,_⟩:=I.loc;hn.lt
def Inv.sz(I:Inv X f g H s):X.s₀.heap.objs.size≤s.heap.objs.size:=aax I.ok.above (acD I.lt)
theorem Inv.nofs(I:Inv X f g H s)(h:s.heap.objs.size≤a):a∉X.fs:=λd=>by
 let⟨_,o,k,_⟩:=I.ok.funs.mem d;exact absurd (aas (aan k) (aax I.sz h)) (acI _)
theorem Inv.cne(I:Inv X f g H s):∀x c,X.env.cells.lookup x=some c->c≠X.env.locals:=λx c e z=>by
 let⟨v,o,p,hd⟩:=I.cell x c e;let⟨m,⟨l,es,n,k,d,_⟩,_⟩:=I.loc
 grind
theorem Inv.funs(I:Inv X f g H s):s.heap.FunFrames X.base X.outer:=by
 have all:∀l,(∀b∈frs l,b∈X.fs)->X.s₀.heap.FunFrames X.base l->s.heap.FunFrames X.base l:=by
  intro l
  induction l with
  |nil=>intro _ _;trivial
  |cons env r t=>
   intro n D;let⟨B,⟨L,o,d,p,y,hd⟩,q⟩:=D;have k:=n L (by unfold frs;rw[adt,d];exact aaa);let⟨F,e⟩:=I.base.slot L o y (I.ok.frf L k) k λz=>I.ok.exfs L z k;exact⟨B,⟨L,_,d,p,e,hd⟩,t (λb m=>n b (by unfold frs;rw[adt,d];exact aab _ m)) q⟩
 exact all X.outer (λ_ m=>m) I.ok.funs
theorem Inv.stack(I:Inv X f g H s):s.heap.FunFrames X.base X.stack:=by
 rcases I.ok.stk with e|⟨e,d⟩
 .rw[e];exact I.funs
 .rw[e];let⟨m,k,_⟩:=I.loc;refine .cons (by rw[I.ok.kind];decide) d k ?_ I.funs;exact aaQ.get?_none_of_le (aax I.ok.bsz I.ok.above)
theorem Inv.stkSub(I:Inv X f g H s):∀b∈frs X.stack,b∈X.env.locals::X.fs:=λb d=>by
 rcases I.ok.stk with e|⟨e,k⟩
 .rw[e]at d;exact aab _ d
 .rw[e]at d;unfold frs at d;rw[adt,k]at d;exact d
theorem Inv.stkFree(I:Inv X f g H s):∀b∈frs X.stack,H b=none:=λb d=>by
 rcases aae.mp (I.stkSub b d)with e|d
 .rw[e];exact I.free
 .obtain⟨_,o,ho,_⟩:=I.ok.funs.mem d;exact I.base.free b o ho (I.ok.frf b d) λz=>I.ok.exfs b z d
theorem Inv.step{d':Drawn}(I:Inv X f g H s)
  (D:∀b∈ch,(b∈X.ex\/X.s₀.heap.objs.size≤b)/\b≠X.env.locals/\(∀x c,X.env.cells.lookup x=some c->c≠b)/\∀p∈X.pn++f,p.1≠b)
  (keep:∀b o,b≠X.env.locals->b∉X.fs->b∉ch->s.heap.get? b=some o->H b=none->h'.get? b=some o)
  (slot:∀b o,b≠X.env.locals->b∈X.fs->b∉ch->s.heap.get? b=some o->H b=none->∃sl,h'.get? b=some {o with slots:=sl}) (free:∀b o,b∉ch->s.heap.get? b=some o->H b=none->w b=none)
  (there:∀b o,b∉ch->s.heap.get? b=some o->∃R,h'.get? b=some R)
  (tups:∀b xs,H b=some (.tup xs)->w b=some (.tup xs)) (frzs:∀b o u,H b=some (.frz o u)->w b=some (.frz o u)) (tbls:∀b ps,H b=some (.tbl ps)->∃more,w b=some (.tbl (ps++more)))
  (ns:∀m,s.heap.Ns X.env.locals m->h'.Ns X.env.locals m) (hok:HOk X.prog X.w w h') (W:afb g') :
  Inv X f g w {s with heap:=h',gens:=g',drawn:=d',toks:=t' }:=by
 have O:∀b o,X.s₀.heap.get? b=some o->b≠X.env.locals:=λb o e=>aaU (aas (aan e) I.ok.above);have G:∀b o,X.s₀.heap.get? b=some o->b∉X.ex->b∉ch:=λb o e t J=>by
  rcases (D b J).1 with z|z
  .exact t z
  .exact absurd (aas (aan e) z) (acI _)
 have B:∀x c,X.env.cells.lookup x=some c->∀v,s.heap.IsCell c v->h'.IsCell c v:=by
  intro x c e v ⟨o,L,hd⟩;have y:c∉ch:=λz=>(D c z).2.2.1 x c e rfl
  by_cases U:c∈X.fs
  .obtain⟨sl,q⟩:=slot c o (I.cne x c e) U y L (I.freeC x c e);exact⟨_,q,hd⟩
  .exact⟨o,keep c o (I.cne x c e) U y L (I.freeC x c e),hd⟩
 refine⟨I.ok,I.os,W,⟨λb o e n J t=>?_,λb o e n J t=>?_,λb o e n t=>?_,λb o e t=>?_,λb xs e=>tups b xs (I.base.tups b xs e),λb o xs e=>frzs b o xs (I.base.frzs b o xs e),λb ps e=>?_⟩,?_,λx c e=>?_,?_,λx c e=>?_,λp V=>?_,hok,I.len⟩
 .exact keep b o (O b o e) J (G b o e t) (I.base.keep b o e n J t) (I.base.free b o e n t)
 .obtain⟨sl,F⟩:=I.base.slot b o e n J t;let⟨T,S⟩:=slot b _ (O b o e) J (G b o e t) F (I.base.free b o e n t);exact⟨T,S⟩
 .obtain⟨R,F⟩:=I.base.there b o e t;exact free b R (G b o e t) F (I.base.free b o e n t)
 .obtain⟨R,F⟩:=I.base.there b o e t;exact there b R (G b o e t) F
 .obtain⟨m1,F⟩:=I.base.tbls b ps e;let⟨m2,S⟩:=tbls b _ F;exact⟨m1++m2,by rw[S,Array.append_assoc]⟩
 .obtain⟨m,hn,hl⟩:=I.loc;refine⟨m,ns m hn,λi x v F S Y=>?_⟩;let⟨u,r,l⟩:=hl i x v F S Y;refine⟨u,r,?_⟩;rcases l with l|⟨k,c,e,z⟩
  .exact .inl l
  .exact .inr ⟨k,c,e,B x c e _ z⟩
 .obtain⟨v,z⟩:=I.cell x c e;exact⟨v,B x c e v z⟩
 .obtain⟨m,⟨o,_,_,L,_⟩,_⟩:=I.loc;exact free _ o (λz=>(D _ z).2.1 rfl) L I.free
 .obtain⟨v,o,L,hd⟩:=I.cell x c e;exact free c o (λz=>(D c z).2.2.1 x c e rfl) L (I.freeC x c e)
 .obtain⟨e,n,ne,nf,d⟩:=I.pin p V;have y:p.1∉ch:=λz=>(D p.1 z).2.2.2 p V rfl;exact⟨keep p.1 p.2 ne nf y e n,free p.1 p.2 y e n,ne,nf,d⟩
theorem Inv.un(I:Inv X f g H s)(u:Un X.fs [] H w s.heap h')(hok:HOk X.prog X.w w h'):Inv X f g w {s with heap:=h',toks:=t' }:=by
 let⟨m,⟨o,es,D,q,r⟩,_⟩:=id I.loc;let⟨J,y⟩:=u.any q I.free (by simp);exact I.step (g':=s.gens) (d':=s.drawn) (ch:=[]) (λ_ z=>nomatch z) (λb o _ p _ e n=>u.keep b o e n p (by simp)) (λb o _ p _ e n=>u.slot b o e n p (by simp)) (λb o _ e n=>u.free b o e n (by simp)) (λb o _ e=>u.there b o e (by simp)) u.tups u.frzs u.tbls (λF B=>by
  let⟨G,l,k,d,t⟩:=B;rw[q]at d;cases d;exact⟨_,l,k,y,t⟩) hok I.bare
theorem Inv.call{d':Drawn}(I:Inv X f g H s)(u:Un (frs X.stack) ch H w s.heap h')(hok:HOk X.prog X.w w h')(G:afb g')
  (l:∀b∈ch,(b∈X.ex\/X.s₀.heap.objs.size≤b)/\b≠X.env.locals/\(∀x c,X.env.cells.lookup x=some c->c≠b)/\∀p∈X.pn++f,p.1≠b) :
  Inv X f g w {s with heap:=h',gens:=g',drawn:=d',toks:=t' }:=by
 let⟨m,⟨o,es,L,B,r⟩,_⟩:=id I.loc;let⟨S,q⟩:=u.any B I.free λz=>(l _ z).2.1 rfl;exact I.step l (λb o q D d e n=>u.keep b o e n (λz=>(aae.mp (I.stkSub b z)).elim q D) d) (λb o _ _ d e n=>u.any e n d) (λb o d e n=>u.free b o e n d) (λb o d e=>u.there b o e d) u.tups u.frzs u.tbls (λO F=>by
  let⟨R,t,y,k,J⟩:=F;rw[B]at k;cases k;exact⟨_,t,y,q,J⟩) hok G
theorem Inv.turned{d:Addr}(I:Inv X f g H s)(k:∀b o,b≠d->s.heap.get? b=some o->h'.get? b=some o)(B:H d=none)(y:d≠X.env.locals)
  (L:d∈X.ex\/X.s₀.heap.objs.size≤d) (J:∀x c,X.env.cells.lookup x=some c->c≠d) (D:∀p∈X.pn++f,p.1≠d):Inv X f g H {s with heap:=h',toks:=t' }:=by
 have t:∀b u,H b=some u->b≠d:=λb u e z=>by rw[z,B]at e;cases e
 refine I.step (g':=s.gens) (d':=s.drawn) (ch:=[d]) (λb F=>?_) (λb o _ _ l e _=>k b o (λz=>l (by simp[z])) e) (λb o _ _ l e _=>⟨o.slots,k b o (λz=>l (by simp[z])) e⟩) (λ_ _ _ _ n=>n)
  (λb o l e=>⟨o,k b o (λz=>l (by simp[z])) e⟩) (λ_ _ e=>e) (λ_ _ _ e=>e) (λb ps e=>⟨#[],by rw[e];simp⟩) (λm G=>?_) (λb u e=>?_) I.bare
 .have e:=by simpa using F
  subst e;exact⟨L,y,J,D⟩
 .obtain⟨o,es,ep,ho,r⟩:=G;exact⟨o,es,ep,k _ o (abx y) ho,r⟩
 .refine(I.hok b u e).stay (λc v l q=>k c v ?_ q) (λ_ q=>q) λ_ _ q=>q;rcases l with z|z
  .rw[z];exact t b u e
  .exact t c _ z
theorem Inv.tok(I:Inv X f g H s)(t:Nat):Inv X f g H {s with toks:=t}:=I.un (h':=s.heap) (t':=t) Un.refl I.hok
theorem Inv.kept(I:Inv X f g H s)(k:∀b u,s.heap.get? b=some u->h'.get? b=some u):Inv X f g H {s with heap:=h',toks:=t' }:=I.un (Un.kept k) (I.hok.kept k)
theorem Inv.laid(I:Inv X f g H s)(k:∀b u,s.heap.get? b=some u->h'.get? b=some u)(d:s.heap.objs.size≤a)(new:ObjOk X.prog X.w (upd H a o) h' a o) :
  Inv X f g (upd H a o) {s with heap:=h',toks:=t' }:=I.un (Un.laid k d (I.hok.fresh d)) (I.hok.laid k d new)
theorem Inv.write{x e:Addr}(I:Inv X f g H s)(mu:Mut (H x))(l:e=x\/H e=some (.own x))(k:∀b u,b≠e->s.heap.get? b=some u->h'.get? b=some u)(d:∃u,h'.get? e=some u)
  (new:ObjOk X.prog X.w (upd H x o) h' x o):Inv X f g (upd H x o) {s with heap:=h',toks:=t' }:=I.un (Un.write mu l k d) (I.hok.write mu l k d new)
def Inv.pins_of{d:List (Addr×Obj)}(I:Inv X f g H s)(h:∀p∈d,s.heap.get? p.1=some p.2/\H p.1=none/\p.1≠X.env.locals/\p.1∉X.fs/\∀v,p.2.data≠.cell v):Inv X d g H s:=
 ⟨I.ok,I.os,I.bare,I.base,I.loc,I.cell,I.free,I.freeC,λp k=>(aaG.mp k).elim (λz=>I.pin p (abB _ z)) (h p),I.hok,I.len⟩
def xq(d:N.Nodup)(a:N[i]?=some x)(b:N[j]?=some x):i=j:=by
 let⟨n,k⟩:=AD.mp a;let⟨m,l⟩:=AD.mp b;exact(List.getElem_inj d).mp (k.trans l.symm)
theorem uR{Q:Unit->Io->Prop}(I:Inv X f g H s)(hN:X.N.Nodup)(U:X.N[i]?=some x)(F:Loc X.env.scope x)(r:RelV v u)
  (h:∀s',Inv X f (g.set i (some v)) H s'->(∃a,abd a s.heap s'.heap/\(a=X.env.locals\/X.env.cells.lookup x=some a))->Q () s') (hf:X.fn x=true\/X.env.scope.names.lookup x=some .local:=by first|exact .inl rfl|exact .inr rfl|assumption):wpAny M A (storeName X.env x u) Q E s:=by
 let⟨m,hn,hl⟩:=id I.loc;have S:(X.env.scope.kind == .class||(X.env.scope.kind == .module&&X.env.locals != X.env.globals))=false:=by rw[I.ok.kind];rfl
 have L:i<g.length:=by rw[I.len];exact(AD.mp U).1
 have cne:=I.cne;have t:∀{a:Addr}{h':aaQ},(∃o,s.heap.get? a=some o/\H a=none)->abd a s.heap h'->HOk X.prog X.w H h':=λ{a h'} ha l b ob e=>by
  let⟨_,_,G⟩:=ha;refine(I.hok b ob e).stay (λc Y D q=>(l.2 c ?_).trans q) (λ_ q=>q) λ_ _ q=>q;rintro rfl;rcases D with rfl|D
  .rw[G]at e;cases e
  .rw[G]at D;cases D
 rcases F with O|O
 .refine wpAny_storeName_local O hn (λh' hn' l=>?_) S;let⟨oL,_,_,hoL,_⟩:=id hn;refine h _ ⟨I.ok,I.os,I.bare,⟨λb o e n R F=>?_,λb o e n R F=>?_,I.base.free,λb o e F=>?_,I.base.tups,I.base.frzs,I.base.tbls⟩,⟨_,hn',λj y v' B J e3=>?_⟩,λy c e=>?_,I.free,I.freeC,λp hp=>?_,t ⟨oL,hoL,I.free⟩ l,by simpa using I.len⟩ ⟨_,l,.inl rfl⟩
  .exact(l.2 b (aaU (aas (aan e) I.ok.above))).trans (I.base.keep b o e n R F)
  .obtain⟨sl,B⟩:=I.base.slot b o e n R F;exact⟨sl,(l.2 b (aaU (aas (aan e) I.ok.above))).trans B⟩
  .obtain⟨o',B⟩:=I.base.there b o e F;exact⟨o',(l.2 b (aaU (aas (aan e) I.ok.above))).trans B⟩
  .by_cases hj:j=i
   .subst hj;rw[U]at B;cases B;rw[aa0 L]at J;cases J;exact⟨u,r,.inl ⟨O,by simp⟩⟩
   .rw[aaR (abx hj)]at J;let⟨u',r',q⟩:=hl j y v' B J e3;refine⟨u',r',?_⟩;rcases q with⟨k,e⟩|⟨k,c,e,z⟩
    .refine .inl ⟨k,?_⟩;have:y≠x:=λe=>hj (xq hN B (e▸U));simp[this,e]
    .exact .inr ⟨k,c,e,z.sameBut l (cne y c e)⟩
  .obtain⟨Y,z⟩:=I.cell y c e;exact⟨Y,z.sameBut l (cne y c e)⟩
  .obtain⟨e,n,ne,nf,d⟩:=I.pin p hp;exact⟨(l.2 p.1 ne).trans e,n,ne,nf,d⟩
 .have hfn:X.fn x=true:=by
   rcases hf with z|z
   .exact z
   .rw[z]at O;cases O
  let⟨c,D⟩:=I.ok.has x (.inl O);let⟨Y,z⟩:=I.cell x c D;refine wpAny_storeName_cell I.ok.kind O D z (λh' V l=>?_);let⟨oc,T,W⟩:=id z;refine h {s with heap:=h' } ⟨I.ok,I.os,I.bare,⟨λb o e n R F=>?_,λb o e n R F=>?_,I.base.free,λb o e F=>?_,I.base.tups,I.base.frzs,I.base.tbls⟩,⟨m,hn.sameBut l (abx (cne x c D)),λj y v' B J e3=>?_⟩,λy Z e=>?_,I.free,I.freeC,λp hp=>?_,t ⟨oc,T,I.freeC x c D⟩ l,by simpa using I.len⟩ ⟨c,l,.inr D⟩
  .exact(l.2 b (aaU (aas (aan e) (I.ok.cab x c hfn D)))).trans (I.base.keep b o e n R F)
  .obtain⟨sl,B⟩:=I.base.slot b o e n R F;exact⟨sl,(l.2 b (aaU (aas (aan e) (I.ok.cab x c hfn D)))).trans B⟩
  .obtain⟨o',B⟩:=I.base.there b o e F;exact⟨o',(l.2 b (aaU (aas (aan e) (I.ok.cab x c hfn D)))).trans B⟩
  .by_cases hj:j=i
   .subst hj;rw[U]at B;cases B;rw[aa0 L]at J;cases J;exact⟨u,r,.inr ⟨.inl O,c,D,V⟩⟩
   .rw[aaR (abx hj)]at J;let⟨u',r',q⟩:=hl j y v' B J e3;refine⟨u',r',?_⟩;rcases q with q|⟨k,Z,e,z'⟩
    .exact .inl q
    .refine .inr ⟨k,Z,e,z'.sameBut l ?_⟩;rintro rfl;exact hj (xq hN B (I.ok.inj _ _ _ e D▸U))
  .by_cases hcc:Z=c
   .subst hcc;exact⟨_,V⟩
   .obtain⟨w2,z2⟩:=I.cell y Z e;exact⟨w2,z2.sameBut l hcc⟩
  .obtain⟨e,n,ne,nf,d⟩:=I.pin p hp;refine⟨(l.2 p.1 ?_).trans e,n,ne,nf,d⟩;intro q;rw[q,T]at e;have q':oc=p.2:=aar e;exact d Y (by rw[<-q'];exact W)
theorem jd{Q:Unit->Io->Prop}(I:Inv X f g H s)(l:X.N.Nodup)(m:X.N[i]?=some x)(d:Loc X.env.scope x)(r:RelV v u)
  (h:∀s',Inv X f (g.set i (some v)) H s'->Q () s') (k:X.fn x=true\/X.env.scope.names.lookup x=some .local:=by first|exact .inl rfl|exact .inr rfl|assumption):wpAny M A (storeName X.env x u) Q E s:=
 uR I l m d r (λs' n _=>h s' n) k
theorem Inv.call'{s':Io}(I:Inv X f g H s)(k:s'.os=s.os)(u:Un (frs X.stack) ch H w s.heap s'.heap)(hok:HOk X.prog X.w w s'.heap)(l:afb s'.gens)
  (d:∀b∈ch,(b∈X.ex\/X.s₀.heap.objs.size≤b)/\b≠X.env.locals/\(∀x c,X.env.cells.lookup x=some c->c≠b)/\∀p∈X.pn++f,p.1≠b):Inv X f g w s':=by
 let⟨h',g',d',t',m⟩:=s';have e:=k;subst e;exact I.call (g':=g') (t':=t') (d':=d') u hok l d
end
abbrev XK:=Ad->Option Addr->Hp->Prop
abbrev St:=List (Option V)
abbrev VK:=V->Hp->Prop
abbrev TE:=St->Hp->VK->Prop
abbrev TT:=St->Hp->(Bool->Hp->Prop)->Prop
abbrev TA:=St->Hp->(List V->Hp->Prop)->Prop
structure Ends where
 nx:St->Hp->Prop
 rt:VK
 bk:St->Hp->Prop:=λ_ _=>False
 ct:St->Hp->Prop:=λ_ _=>False
abbrev TS:=Ends->St->Hp->Prop
def EP(X:Cx)(pins:List (Addr×Obj))(σ:St)(Q:VK)(u:Ad)(s':Io):Prop:=∃v d,Inv X pins σ d s'/\RelV v u/\Q v d
def TP(X:Cx)(pins:List (Addr×Obj))(σ:St)(Q:Bool->Hp->Prop)(b:Bool)(s':Io):Prop:=∃d,Inv X pins σ d s'/\Q b d
def AP(X:Cx)(pins:List (Addr×Obj))(σ:St)(Q:List V->Hp->Prop)(us:List Ad)(s':Io):Prop:=∃vs d,Inv X pins σ d s'/\Vals vs us/\Q vs d
def SP(X:Cx)(pins:List (Addr×Obj))(D:Ends)(f:Flow)(s':Io):Prop:=
 match f with
 | .next=>∃d k,Inv X pins d k s'/\D.nx d k
 | .brk=>∃d k,Inv X pins d k s'/\D.bk d k
 | .cont=>∃d k,Inv X pins d k s'/\D.ct d k
 | .ret u=>∃v d k,Inv X pins d k s'/\RelV v u/\D.rt v k
def PE(X:Cx)(e:Expr)(t:TE):Prop:=
 ∀(pins:List (Addr×Obj)) (s:Io) (σ:St) (H:Hp) (Q:VK),Inv X pins σ H s->t σ H Q->wpAny (model X.prog X.w) X.A (eval e X.env) (EP X pins σ Q) X.xe s
def PT(X:Cx)(e:Expr)(t:TT):Prop:=
 ∀(pins:List (Addr×Obj)) (s:Io) (σ:St) (H:Hp) (Q:Bool->Hp->Prop),Inv X pins σ H s->t σ H Q->wpAny (model X.prog X.w) X.A (isTrue e X.env (eval e X.env)) (TP X pins σ Q) X.xe s
def PW(X:Cx)(e:Expr)(t:TT):Prop:=
 ∀(d:Sem Ad) (pins:List (Addr×Obj)) (s:Io) (σ:St) (H:Hp) (Q:Bool->Hp->Prop),Inv X pins σ H s->t σ H Q->wpAny (model X.prog X.w) X.A (isTrue e X.env d) (TP X pins σ Q) X.xe s
def PW.pt{t:TT}(h:PW X e t):PT X e t:=h _
def PA(X:Cx)(es:List Expr)(t:TA):Prop:=
 ∀(pos:Pos) (pins:List (Addr×Obj)) (s:Io) (σ:St) (H:Hp) (Q:List V->Hp->Prop),Inv X pins σ H s->t σ H Q->wpAny (model X.prog X.w) X.A (spliced (abn pos (aac es X.env))) (AP X pins σ Q) X.xe s
def PS(X:Cx)(d:Stmt)(t:TS):Prop:=
 ∀(pins:List (Addr×Obj)) (s:Io) (σ:St) (H:Hp) (D:Ends),Inv X pins σ H s->t D σ H->wpAny (model X.prog X.w) X.A (exec d X.env) (SP X pins D) X.xe s
def PSs(X:Cx)(d:List Stmt)(t:TS):Prop:=
 ∀(pins:List (Addr×Obj)) (s:Io) (σ:St) (H:Hp) (D:Ends),Inv X pins σ H s->t D σ H->wpAny (model X.prog X.w) X.A (execs d X.env) (SP X pins D) X.xe s
theorem thn{d:Type}{t:Sem d}{Q k:d->Io->Prop}{s:Io}(h:wpAny M A t Q E s)(l:∀a s,Q a s->k a s):wpAny M A t k E s:=acr h l λ_ _ x=>x
section
variable {X:Cx}
def tVar(i:Nat):TE:=λσ H Q=>∃v,σ[i]?=some (some v)/\Q v H
def tC(v:V):TE:=λ_ H Q=>Q v H
theorem KQ(z:X.N[i]?=some x)(t:Vis X.env.scope x)(hd:(x==("__debug__" : Str))=false:=by decide)(p:(x==("__classdict__" : Str))=false:=by decide):PE X (.Name x pos) (tVar i):=by
 intro pins s σ H Q I h;let⟨v,e,h⟩:=h;let⟨m,y,D⟩:=I.loc;let⟨u,r,l⟩:=D i x v z e t;have k:EP X pins σ Q u s:=⟨v,H,I,r,h⟩;rcases l with⟨n,B⟩|⟨n,c,q,d⟩
 .exact wpAny_Name (wpAny_loadName_local I.ok.kind n y B k) hd
 .rcases n with n|n
  .exact wpAny_Name (wpAny_loadName_cell I.ok.kind n q d k) hd
  .exact wpAny_Name (wpAny_loadName_free I.ok.kind n q d k p) hd
theorem Ua{i j pos}:PE X (.Constant (.int i) j pos) (tC (.int i)):=λ_ _ _ H _ I h=>wpAny_Constant_int ⟨.int i,H,I.tok _,⟨_,rfl⟩,h⟩
theorem X8{b j pos}:PE X (.Constant (.bool b) j pos) (tC (.bl b)):=λ_ _ _ H _ I h=>Constant_bool ⟨.bl b,H,I,rfl,h⟩
theorem Wx{j pos}:PE X (.Constant .none j pos) (tC .non):=λ_ _ _ H _ I h=>Constant_none ⟨.non,H,I,rfl,h⟩
theorem TJ{x j pos}:PE X (.Constant (.str x) j pos) (tC (.str x)):=λ_ _ _ H _ I h=>Calls.Constant_str ⟨.str x,H,I.tok _,⟨_,rfl⟩,h⟩
def Gl(X:Cx)(x:Str):Prop:=X.env.kindOf x=some .globalImplicit
theorem vk{s:Io}(I:Inv X pins σ H s)(k:Gl X x)(d:X.mg x=some u)(h:Q u s)
  (hd:(x==("__debug__" : Str))=false:=by decide):wpAny (model X.prog X.w) X.A (eval (.Name x pos) X.env) Q E s:=
 aeP I.ok.kind k (Calls.loadGlobal_global (by rw[I.ok.glob];exact I.mod.glob.keeps I.bk) d h) hd
theorem kl{s:Io}(I:Inv X pins σ H s)(m:Gl X x)(l:X.mg x=none)(d:aaO x=some u)(h:Q u s)
  (k:x ≠ "__name__":=by decide) (hd:(x==("__debug__" : Str))=false:=by decide):wpAny (model X.prog X.w) X.A (eval (.Name x pos) X.env) Q E s:=by
 let⟨q,p,n⟩:=I.mod.blt;exact aeP I.ok.kind m (Calls.loadGlobal_builtin (by rw[I.ok.glob];exact I.mod.glob.keeps I.bk) l (by rw[I.ok.blt];exact p.keeps I.bk) ((n x k).trans d) h) hd
theorem Re(k:Gl X x)(d:X.mg x=some u)(r:RelV v u)(hd:(x==("__debug__" : Str))=false:=by decide):PE X (.Name x pos) (tC v):=
 λ_ _ _ H _ I h=>vk I k d ⟨v,H,I,r,h⟩ hd
theorem QO(m:Gl X x)(l:X.mg x=none)(d:aaO x=some u)(r:RelV v u)(k:x ≠ "__name__":=by decide)(hd:(x==("__debug__" : Str))=false:=by decide):PE X (.Name x pos) (tC v):=
 λ_ _ _ H _ I h=>kl I m l d ⟨v,H,I,r,h⟩ k hd
variable {a b:Expr}{f tb:TE}{pos:Pos}
def tB(t:TE):TT:=λσ H Q=>t σ H λx d=>∃c,x = .bl c/\Q c d
theorem Uv{t:TE}(h:PE X e t)(p:∀k,isTrue e X.env k=(do let v <- k;acE e.pos;adl [v] (truthy v)):=by intro _;rfl):PT X e (tB t):=by
 intro pins s σ H Q I y;refine isTrue_plain (thn (h pins s σ H _ I y) λv s1 ⟨x,m,n,r1,l⟩=>?_) (p _);let⟨d,rfl,q⟩:=l;cases r1;exact adb ⟨m,n,q⟩
variable {g k:TT}{rest:List Expr}
def tAnd(t u:TT):TT:=λσ H Q=>t σ H λc d=>if c=true then u σ d Q else Q false d
def tOr(t u:TT):TT:=λσ H Q=>t σ H λc d=>if c=true then Q true d else u σ d Q
def tNot(t:TT):TT:=λσ H Q=>t σ H λc d=>Q (!c) d
theorem Ox(d:PT X a g):PW X (.BoolOp .And [a] pos) g:=by
 intro l pins s σ H Q I h;refine isTrue_and (thn (d pins s σ H Q I h) λc s1 e=>?_)
 cases c with
 |true=>exact isTrue_and_nil e
 |false=>exact e
theorem T7(d:PT X a g):PW X (.BoolOp .Or [a] pos) g:=by
 intro l pins s σ H Q I h;refine isTrue_or (thn (d pins s σ H Q I h) λc s1 e=>?_)
 cases c with
 |false=>exact isTrue_or_nil e
 |true=>exact e
theorem W9(p:PT X a g)(m:PW X (.BoolOp .And (b::rest) pos) k):PW X (.BoolOp .And (a::b::rest) pos) (tAnd g k):=by
 intro n pins s σ H Q I h;refine isTrue_and (thn (p pins s σ H _ I h) λc s1 ⟨d,l,q⟩=>?_)
 cases c with
 |true=>exact m n pins s1 σ d Q l q
 |false=>exact⟨d,l,q⟩
theorem YM(p:PT X a g)(m:PW X (.BoolOp .Or (b::rest) pos) k):PW X (.BoolOp .Or (a::b::rest) pos) (tOr g k):=by
 intro n pins s σ H Q I h;refine isTrue_or (thn (p pins s σ H _ I h) λc s1 ⟨d,l,q⟩=>?_)
 cases c with
 |true=>exact⟨d,l,q⟩
 |false=>exact m n pins s1 σ d Q l q
theorem VF(d:PT X a g):PT X (.UnaryOp .Not a pos) (tNot g):=by
 intro pins s σ H Q I h;exact isTrue_not (d pins s σ H _ I h)
def XO(f tb:TE):TE:=λσ H Q=>f σ H λx d=>∃c,x = .bl c/\if c=true then tb σ d Q else Q (.bl false) d
def Ye(f:TE):TE:=λσ H Q=>f σ H λx d=>∃c,x = .bl c/\Q (.bl (!c)) d
theorem UG{op}{t:TE}(h:PE X a t):PE X (.BoolOp op [a] pos) t:=λpins s σ H Q I d=>BoolOp_one (h pins s σ H Q I d)
theorem Tf(m:PE X a f)(n:PE X (.BoolOp .And (b::rest) pos) tb):PE X (.BoolOp .And (a::b::rest) pos) (XO f tb):=by
 intro pins s σ H Q I h;refine BoolOp_and (thn (m pins s σ H _ I h) λv s1 ⟨x,d,l,r1,q⟩=>?_);let⟨c,rfl,q⟩:=q;cases r1;refine adb ?_
 cases c with
 |true=>exact n pins s1 σ d Q l q
 |false=>exact⟨.bl false,d,l,rfl,q⟩
theorem Vm(l:PE X a f):PE X (.UnaryOp .Not a pos) (Ye f):=by
 intro pins s σ H Q I h;refine UnaryOp_ (thn (l pins s σ H _ I h) λv s1 ⟨x,d,m,r1,q⟩=>?_);let⟨c,rfl,q⟩:=q;cases r1;exact not_of (adb ⟨.bl (!c),d,m,rfl,q⟩)
def tIf(t:TT)(f tb:TE):TE:=λσ H Q=>t σ H λc d=>if c=true then f σ d Q else tb σ d Q
theorem JS(p:PT X c g)(t:PE X a f)(n:PE X b tb):PE X (.IfExp c a b pos) (tIf g f tb):=by
 intro pins s σ H Q I h;refine wpAny_IfExp (thn (p pins s σ H _ I h) λd s1 ⟨l,m,q⟩=>?_)
 cases d with
 |true=>exact t pins s1 σ l Q m q
 |false=>exact n pins s1 σ l Q m q
end
def SqL(K:aad)(H:Hp)(a:Addr)(xs:List V):Prop:=
 Rd H a (.lst xs) \/
  ∃(o:Obj) (d:Array Ad) (n:Nat),K.lookup a=some o/\o.cls = .type "list"/\o.dict=none/\o.data = .seq d n/\d.size≤aam/\Vals xs d.toList
def SqT(K:aad)(H:Hp)(a:Addr)(xs:List V):Prop:=
 Rd H a (.tup xs) \/
  ∃(o:Obj) (d:Array Ad) (n:Nat),K.lookup a=some o/\o.cls = .type "tuple"/\o.dict=none/\o.data = .seq d n/\d.size≤aam/\Vals xs d.toList
def absV:Ad->Option V
 | .none=>some .non
 | .bool b=>some (.bl b)
 | .int i _=>some (.int i)
 | .str x _=>some (.str x)
 | .bytes b _=>some (.byt b)
 | .float b _=>some (.flt b)
 | .ref a=>some (.ref a)
 | .type n=>some (.ty n)
 |_=>none
theorem RelV.abs{x:V}(r:RelV x u):absV u=some x:=by
 cases x with
 |non=>cases r;rfl
 |bl _=>cases r;rfl
 |int _=>let⟨t,rfl⟩:=r;rfl
 |str _=>let⟨t,rfl⟩:=r;rfl
 |byt _=>let⟨t,rfl⟩:=r;rfl
 |flt _=>let⟨t,rfl⟩:=r;rfl
 |ref _=>cases r;rfl
 |ty _=>cases r;rfl
def RelV.inj{x y:V}(r:RelV x u)(q:RelV y u):x=y:=aar (r.abs.symm.trans q.abs)
theorem Vals.inj:∀{xs ys:List V}{us:List Ad},Vals xs us->Vals ys us->xs=ys
 |_,_,_,.nil,.nil=>rfl
 |_,_,_,.cons r t,.cons r' t'=>by rw[r.inj r',Vals.inj t t']
section
variable {X:Cx}{b:List (Addr×Obj)}{c:St}{H:Hp}{s:Io}{a:Addr}{xs ys:List V}
def SqL.of(h:H a=some (.lst xs)):SqL K H a xs:=.inl (.inl h)
def SqT.of(h:H a=some (.tup xs)):SqT K H a xs:=.inl (.inl h)
theorem Inv.list(I:Inv X b c H s)(h:SqL X.K H a xs):∃d:List Ad,Vals xs d/\PlainL s.heap a d.toArray/\xs.length≤aam:=by
 rcases h with h|⟨o,d,n,k,l,hd,m,p,r⟩
 .obtain⟨z,d,n,r,e⟩:=h.ok I.hok;exact⟨d,r,⟨_,n,e,rfl,rfl,rfl⟩,z⟩
 .refine⟨d.toList,r,⟨o,n,I.kIn a o k,l,hd,by simpa using m⟩,?_⟩;have e:=r.length
  grind
theorem Inv.tuple(I:Inv X b c H s)(h:SqT X.K H a xs):∃d:List Ad,Vals xs d/\IsTup s.heap a d.toArray/\xs.length≤aam:=by
 rcases h with h|⟨o,d,n,k,l,hd,m,q,r⟩
 .obtain⟨z,d,r,p⟩:=h.ok I.hok;exact⟨d,r,p.tup,z⟩
 .refine⟨d.toList,r,⟨o,I.kIn a o k,l,n,by simpa using m⟩,?_⟩;have e:=r.length
  simp_all
theorem Inv.tupleP(I:Inv X b c H s)(h:SqT X.K H a xs):∃d:List Ad,Vals xs d/\PlainT s.heap a d.toArray/\xs.length≤aam:=by
 rcases h with h|⟨o,d,n,k,l,hd,m,q,r⟩
 .obtain⟨z,d,r,p⟩:=h.ok I.hok;exact⟨d,r,p,z⟩
 .refine⟨d.toList,r,⟨o,I.kIn a o k,l,hd,n,by simpa using m⟩,?_⟩;have e:=r.length
  simp_all
theorem Inv.list_inj(I:Inv X b c H s)(h:SqL X.K H a xs)(h':SqL X.K H a ys):xs=ys:=by
 let⟨p,r,⟨o,n,e,_,_,d⟩,_⟩:=I.list h;let⟨k,q,⟨t,y,m,_,_,l⟩,_⟩:=I.list h';rw[e]at m;cases m;rw[d]at l;injection l with d1 _
 have:=by simpa using congrArg agU d1
 subst this;exact r.inj q
theorem Inv.tuple_inj(I:Inv X b c H s)(h:SqT X.K H a xs)(h':SqT X.K H a ys):xs=ys:=by
 let⟨p,r,⟨o,e,_,n,d⟩,_⟩:=I.tuple h;let⟨k,q,⟨t,m,_,y,l⟩,_⟩:=I.tuple h';rw[e]at m;cases m;rw[d]at l;injection l with d1 _
 have:=by simpa using congrArg agU d1
 subst this;exact r.inj q
end
abbrev Cx.wish(X:Cx)(E:Ad->Io->Prop):Cx:={X with xe:=E}
abbrev Cx.nox(X:Cx):Cx:=X.wish λ_ _=>False
def Cx.Ok.wish(ok:X.Ok)(E:Ad->Io->Prop):(X.wish E).Ok:=
 ⟨ok.mod,ok.kind,ok.glob,ok.blt,ok.above,ok.inj,ok.has,ok.cab,ok.hd,ok.frames,ok.stk,ok.exf,ok.bs,ok.bsz,ok.noex,ok.exfs,ok.funs,ok.frf⟩
def Cx.Ok.unwish(ok:(X.wish E).Ok):X.Ok:=
 ⟨ok.mod,ok.kind,ok.glob,ok.blt,ok.above,ok.inj,ok.has,ok.cab,ok.hd,ok.frames,ok.stk,ok.exf,ok.bs,ok.bsz,ok.noex,ok.exfs,ok.funs,ok.frf⟩
section
variable {X:Cx}{p:List (Addr×Obj)}{a:St}{H:Hp}{s:Io}{E:Ad->Io->Prop}
def Inv.wish(I:Inv X p a H s)(E:Ad->Io->Prop):Inv (X.wish E) p a H s:=⟨I.ok.wish E,I.os,I.bare,I.base,I.loc,I.cell,I.free,I.freeC,I.pin,I.hok,I.len⟩
def Inv.unwish(I:Inv (X.wish E) p a H s):Inv X p a H s:=⟨I.ok.unwish,I.os,I.bare,I.base,I.loc,I.cell,I.free,I.freeC,I.pin,I.hok,I.len⟩
theorem SP.unwish{D:Ends}{f:Flow}{s':Io}(h:SP (X.wish E) p D f s'):SP X p D f s':=by
 cases f with
 |next=>let⟨d,k,I,q⟩:=h;exact⟨d,k,I.unwish,q⟩
 |brk=>let⟨d,k,I,q⟩:=h;exact⟨d,k,I.unwish,q⟩
 |cont=>let⟨d,k,I,q⟩:=h;exact⟨d,k,I.unwish,q⟩
 |ret u=>let⟨v,d,k,I,r,q⟩:=h;exact⟨v,d,k,I.unwish,r,q⟩
theorem PSs.nox{d:List Stmt}{t:TS}(h:PSs X.nox d t):PSs X d t:=λp s a H D I k=>
 acr (h p s a H D (I.wish _) k) (λ_ _ q=>q.unwish) λ_ _ z=>acf z
end
section
variable {X:Cx}{i:Stmt}{rest:List Stmt}{t u:TS}{e:Expr}{g:TE}{pos:Pos}
def XI:TS:=λD σ H=>D.nx σ H
def tSeq(t u:TS):TS:=λD σ H=>t {D with nx:=u D} σ H
theorem Nt:PSs X [] XI:=λ_ _ σ H _ I h=>aeu ⟨σ,H,I,h⟩
theorem wZ(k:PS X i t)(l:PSs X rest u):PSs X (i::rest) (tSeq t u):=by
 intro pins s σ H D I h;refine wpAny_execs_cons (thn (k pins s σ H {D with nx:=u D} I h) λf s1 q=>?_)
 cases f with
 |next=>
  let⟨d,n,m,q⟩:=q;exact l pins s1 d n D m q
 |ret v=>exact q
 |brk=>exact q
 |cont=>exact q
theorem Og(d:PS X i t):PSs X [i] t:=by
 intro pins s σ H D I h;refine wpAny_execs_cons (thn (d pins s σ H D I h) λf s1 q=>?_)
 cases f with
 |next=>exact aeu q
 |ret v=>exact q
 |brk=>exact q
 |cont=>exact q
def Inv.quiet{s:Io}(I:Inv X pins σ H s):interactive X.env=false:=by simp[interactive,I.ok.kind]
def YR(g:TE):TS:=λD σ H=>g σ H λ_ d=>D.nx σ d
theorem OT(k:PE X e g)(m:abz e none pos.line X.env=pure false:=by rfl):PS X (.Expr e pos) (YR g):=by
 intro pins s σ H D I h;exact wpAny_Expr_any (thn (k pins s σ H _ I h)<|by intro v s1 ⟨x,d,l,r1,q⟩;exact⟨σ,d,l,q⟩) I.quiet m
def tRet(g:TE):TS:=λD σ H=>g σ H D.rt
theorem Vy(k:PE X e g):PS X (.Return (some e) pos) (tRet g):=by
 intro pins s σ H D I h;exact wpAny_Return_some (thn (k pins s σ H _ I h)<|by intro v s1 ⟨x,d,l,r1,q⟩;exact⟨x,σ,d,l,r1,q⟩)
def tIfS(c:TT)(t u:TS):TS:=λD σ H=>c σ H λb d=>if b=true then t D σ d else u D σ d
theorem YA{a b:List Stmt}{k:TT}(n:PT X c k)(y:PSs X a t)(p:PSs X b u):PS X (.If c a b pos) (tIfS k t u):=by
 intro pins s σ H D I h;refine wpAny_If (thn (n pins s σ H _ I h) λd s1 ⟨l,m,q⟩=>?_)
 cases d with
 |true=>exact y pins s1 σ l D m q
 |false=>exact p pins s1 σ l D m q
def U5:TS:=λ_ _ _=>False
theorem Jt:PS X i U5:=λ_ _ _ _ _ _ h=>h.elim
end
abbrev TG:=V->St->Hp->(St->Hp->Prop)->Prop
abbrev TGs:=List V->St->Hp->(St->Hp->Prop)->Prop
def PG(X:Cx)(d:Expr)(t:TG):Prop:=
 ∀(pins:List (Addr×Obj)) (s:Io) (σ:St) (H:Hp) (v:V) (u:Ad) (Q:St->Hp->Prop),Inv X pins σ H s->RelV v u->t v σ H Q ->
  wpAny (model X.prog X.w) X.A (afj d X.env u) (λ_ m=>∃k l,Inv X pins k l m/\Q k l) X.xe s
def PGs(X:Cx)(ts:List Expr)(t:TGs):Prop:=
 ∀(pins:List (Addr×Obj)) (s:Io) (σ:St) (H:Hp) (vs:List V) (us:List Ad) (Q:St->Hp->Prop),Inv X pins σ H s->Vals vs us->t vs σ H Q ->
  wpAny (model X.prog X.w) X.A (agC ((aa4 ts X.env).map (·.2)) us) (λ_ l=>∃d k,Inv X pins d k l/\Q d k) X.xe s
abbrev TIp:=V->V->Hp->VK->Prop
def PIp(X:Cx)(op:aeQ)(t:TIp):Prop:=
 ∀(pins:List (Addr×Obj)) (s:Io) (σ:St) (H:Hp) (x y:V) (v u:Ad) (Q:VK),Inv X pins σ H s->RelV x v->RelV y u->t x y H Q ->
  wpAny (model X.prog X.w) X.A (inplaceOp op v u) (EP X pins σ Q) X.xe s
section
variable {X:Cx}{pos:Pos}
def FZ(i:Nat):TG:=λv σ H Q=>Q (σ.set i (some v)) H
theorem QU(l:X.N.Nodup)(m:X.N[i]?=some x)(d:Loc X.env.scope x)(k:X.fn x=true\/X.env.scope.names.lookup x=some .local:=by first|exact .inl rfl|exact .inr rfl|assumption):PG X (.Name x pos) (FZ i):=by
 intro pins s σ H v u Q I r h;exact wpAny_assign_Name (jd I l m d r (λp n=>⟨_,H,n,h⟩) k)
def gNil:TGs:=λvs σ H Q=>vs=[]/\Q σ H
def Yd(t:TG)(u:TGs):TGs:=λvs σ H Q=>∃v r,vs=v::r/\t v σ H λd k=>u r d k Q
theorem OI:PGs X [] gNil:=by
 intro pins s σ H vs us Q I r h;let⟨e,h⟩:=h;exact assignInOrder_nil ⟨σ,H,I,h⟩
theorem Im{t:TG}{u:TGs}(p:PG X e t)(k:PGs X es u)
  (y:(aa4 (e::es) X.env).map (·.2)=afj e X.env::(aa4 es X.env).map (·.2):=by rfl):PGs X (e::es) (Yd t u):=by
 intro pins s σ H vs us Q I r h;let⟨v,z,n,h⟩:=h;subst n
 cases r with
 |cons r rr=>
  rw[y];refine aeR (thn (p pins s σ H _ _ _ I r h) λ_ s1 ⟨d,l,m,q⟩=>?_);exact k pins s1 d l _ _ Q m rr q
def gTup(K:aad)(n:Nat)(t:TGs):TG:=λv σ H Q=>∃a d,v = .ref a/\SqT K H a d/\d.length=n/\t d σ H Q
theorem VY{k:Nat}{t:TGs}{n:Nat}(p:X.calm=true)(h:PGs X es t)
  (q:(aa4 es X.env).length=n:=by rfl) (d:(aa4 es X.env).findIdx? (·.1)=none:=by rfl):PG X (.Tuple es k pos) (gTup X.K n t):=by
 intro pins s σ H v u Q I r l;let⟨a,y,G,D,B,l⟩:=l;subst G;cases r;let⟨L,J,m,O⟩:=I.tuple D;refine assign_Tuple_tuple (I.ok.hd p) m (by simp[q,<-B,J.length]) d λR z=>?_;have F:=I.kept (t':=s.toks) λb o e=>z b o (aaU (aan e)) e;exact h pins _ σ H y _ Q F ‹_› l
def tAsg(te:TE)(g:TG):TS:=λD σ H=>te σ H λx d=>g x σ d D.nx
theorem UQ{g:TG}(n:PE X e te)(l:PG X tg g)(k:ady [tg] e pos.line X.env=pure false:=by rfl)(y:adz [tg] e X.env=pure none:=by rfl)
  (t:(aa4 [tg] X.env).map (·.2)=[afj tg X.env]:=by rfl):PS X (.Assign [tg] e pos) (tAsg te g):=by
 intro pins s σ H D I h;refine wpAny_Assign_stores (thn (n pins s σ H _ I h) λv s1 ⟨x,m,p,r1,d⟩=>?_) k y;rw[t];exact thn (l pins s1 σ m x v _ p r1 d) λ_ s2 q=>q
theorem Tu{p:Pos}(k:X.N.Nodup)(B:X.N[i]?=some x)(m:Loc X.env.scope x)(t:PE X e te)(F:abz e (some (.Name x p)) pos.line X.env=pure false:=by rfl)(d:X.fn x=true\/X.env.scope.names.lookup x=some .local:=by first|exact .inl rfl|exact .inr rfl|assumption) :
  PS X (.Assign [.Name x p] e pos) (tAsg te (FZ i)):=by
 intro pins s σ H D I h;refine wpAny_Assign_Name (thn (t pins s σ H _ I h) λv s1 ⟨y,n,z,r1,q⟩=>?_) F;exact jd z k B m r1 (λs2 l=>⟨_,n,l,q⟩) d
def tPar(i j:Nat)(t:TA):TS:=λD σ H=>t σ H λvs d=>∃v w,vs=[v,w]/\D.nx ((σ.set i (some v)).set j (some w)) d
theorem Vx{y:Str}{a b:Expr}{F:TA}{m n pt:Pos}{kt k2 pt2}(hc:X.calm=true)(O:X.N.Nodup)(hi:X.N[i]?=some x)(V:X.N[j]?=some y)(B:i≠j)
  (J:X.env.scope.names.lookup x=some .local) (G:X.env.scope.names.lookup y=some .local) (W:PA X [a,b] F)
  (hw:adz [.Tuple [.Name x m,.Name y n] kt pt] (.Tuple [a,b] k2 pt2) X.env=pure (some [x,y]))
  (hs:ady [.Tuple [.Name x m,.Name y n] kt pt] (.Tuple [a,b] k2 pt2) pos.line X.env=pure false:=by rfl) :
  PS X (.Assign [.Tuple [.Name x m,.Name y n] kt pt] (.Tuple [a,b] k2 pt2) pos) (tPar i j F):=by
 intro pins s σ H D I h;rw[exec_Assign_arm];refine gT (acJ ?_);rw[hs];refine gT (LD ?_);rw[if_neg (by decide)];refine gT (Tuple_ (thn (W _ pins s σ H _ I h) λus s1 ⟨vs,L,Y,r1,l⟩=>?_));let⟨v,w,e1,l⟩:=l;subst e1;let⟨d,k,rfl,rv,z⟩:∃d k,us=[d,k]/\RelV v d/\RelV w k:=by
  cases r1 with
  | cons p q=>
   cases q with
   |cons Z T=>
    cases T;exact⟨_,_,rfl,p,Z⟩
 refine aa9 ?_ (by show 2≤aam;decide);have S:Inv X pins σ L {s1 with heap:=s1.heap.push {cls:=.type "tuple",data:=.seq [d,k].toArray} }:=Y.kept (t':=s1.toks) λb o e=>GT _ e;rw[hw];refine gT (LD ?_);refine gT (acs (gT (unpackItems_tuple (items:=#[d,k]) (I.ok.hd hc) (IsTup.new s1.heap _) λh' t=>?_)));have U:=S.kept (h':=h') (t':=s1.toks) λb o e=>t b o (aaU (aan e)) e;show wpAny _ _ (agC [λv=>bindName X.env y v,λv=>bindName X.env x v] [k,d] >>= λ_=>pure Flow.next) _ _ _;refine gT (aeR (wpAny_bindName (jd U O V (.inl G) z (λs2 I4=>?_) (.inr G))));refine aeR (wpAny_bindName (jd I4 O hi (.inl J) rv (λs3 R=>assignInOrder_nil (LD ?_)) (.inr J)));rw[List.set_comm _ _ (abx B)]at R;exact⟨_,L,R,l⟩
def tAug(i:Nat)(te:TE)(ti:TIp):TS:=λD σ H=>∃x,σ[i]?=some (some x)/\te σ H λy d=>ti x y d λz k=>D.nx (σ.set i (some z)) k
theorem SX{op:aeQ}{ti:TIp}{q:Pos}(Y:X.N.Nodup)(G:X.N[i]?=some x)(B:Loc X.env.scope x)(he:PE X e te)(Z:PIp X op ti)(L:X.fn x=true\/X.env.scope.names.lookup x=some .local:=by first|exact .inl rfl|exact .inr rfl|assumption) :
  PS X (.AugAssign (.Name x q) op e pos) (tAug i te ti):=by
 intro pins s σ H D I h;let⟨v,e1,h⟩:=h;let⟨m,S,hl⟩:=I.loc;have F:Vis X.env.scope x:=by rcases B with k|k;exact .inl k;exact .inr (.inl k)
 let⟨u,r,l⟩:=hl i x v G e1 F;refine wpAny_AugAssign_Name ?_;have go:wpAny (model X.prog X.w) X.A (eval e X.env) (λw t=>wpAny (model X.prog X.w) X.A (inplaceOp op u w) (λr p=>wpAny (model X.prog X.w) X.A (storeName X.env x r) (λ_=>SP X pins D .next) X.xe p) X.xe t) X.xe s:=by
  refine thn (he pins s σ H _ I h) λw s1 ⟨y,T,U,r1,J⟩=>?_;refine thn (Z pins s1 σ T v y u w _ U r r1 J) λz s2 ⟨zv,H2,O,r2,V⟩=>?_;exact jd O Y G B r2 (λs3 R=>⟨_,H2,R,V⟩) L
 rcases l with⟨d,hm⟩|⟨d,c,W,n⟩
 .exact wpAny_loadName_local I.ok.kind d S hm go
 .rcases d with d|d
  .exact wpAny_loadName_cell I.ok.kind d W n go
  .rcases B with k|k
   .have:X.env.scope.names.lookup x=some .free:=d;rw[k]at this;cases this
   .have:X.env.scope.names.lookup x=some .free:=d;rw[k]at this;cases this
end
section
variable {X:Cx}{pos:Pos}
def Vb(c:TT)(tb:TS):TS:=λD σ H=>∃W:Nat->St->Hp->Prop,(∃m,W m σ H)/\∀m σ H,W m σ H ->
 c σ H λb l=>if b=true then ∃N:St->Hp->Prop,(∀d n,N d n->∃k,k<m/\W k d n)/\tb {D with nx:=N,ct:=N,bk:=D.nx} σ l else D.nx σ l
theorem Gq{L:TT}{tb:TS}(R:afx (model X.prog X.w) X.A X.env X.xe)(Y:PT X c L)(hb:PSs X body tb):PS X (.While c body [] pos) (Vb L tb):=by
 intro pins s σ H D I h;let⟨W,⟨m0,Z⟩,t⟩:=h;refine wpAny_While (codeAny_whileLoop (λn s'=>∃m T,Inv X pins m T s'/\W n m T) ?_ m0 ⟨σ,H,I,Z⟩);intro n s1 ⟨k,O,I1,V⟩;refine acA R (thn (Y pins s1 k O _ I1 (t n k O V)) λb s2 ⟨S,J,p⟩=>?_)
 cases b with
 | true=>
  let⟨N,U,p⟩:=p;rw[if_pos rfl];refine acA R (thn (hb pins s2 k S _ J p) λf s3 q=>?_)
  cases f with
  |next=>
   let⟨d,l,B,y⟩:=q;let⟨z,F,G⟩:=U d l y;exact⟨z,F,d,l,B,G⟩
  |cont=>
   let⟨d,l,B,y⟩:=q;let⟨z,F,G⟩:=U d l y;exact⟨z,F,d,l,B,G⟩
  |brk=>exact q
  |ret v=>exact q
 |false=>
  exact aeu ⟨k,S,J,p⟩
end
structure It where
 go:Nat->Hp->Prop
 yld:Nat->Hp->V->Hp->Prop
 stop:Nat->Hp->Prop
def FpOk(X:Cx)(pins:List (Addr×Obj))(H:Hp)(b:Addr):Prop:=
 H b=none/\b≠X.env.locals/\b∉X.fs/\(b∈X.ex\/X.s₀.heap.objs.size≤b)/\(∀x c,X.env.cells.lookup x=some c->c≠b)/\∀p∈X.pn++pins,p.1≠b
theorem Inv.fpOk{k:Hp}{s:Io}(I:Inv X pins σ H s)(d:s.heap.objs.size≤b)(l:k b=none):FpOk X pins k b:=by
 refine⟨l,abm (aas I.lt d),I.nofs d,.inr (aax I.sz d),λx c e z=>?_,λp m z=>?_⟩
 .obtain⟨v,q⟩:=I.cell x c e;exact absurd (aas q.lt (by simp_all)) (acI _)
 .exact absurd (aas (aan (I.pin p m).1) (by simp_all)) (acI _)
structure Turn(P:aaI)(w:World)(K:aad)(tg:Expr)(J:It)(fp:List Addr)(it:Addr)(tn:Nat->aaQ->Prop):Prop where
 mem:it∈fp
 obj:∀i h,tn i h->∀b∈fp,∃o,h.get? b=some o/\∀v,o.data≠.cell v
 keep:∀i h h',tn i h->(∀b∈fp,∀o,h.get? b=some o->h'.get? b=some o)->tn i h'
 item:∀(X:Cx),X.prog=P->X.w=w->X.K=K->X.calm=true->∀(i:Nat) (pins:List (Addr×Obj)) (s:Io) (σ:St) (H:Hp) (E:Ad->Io->Prop),Inv X pins σ H s->(∀b∈fp,FpOk X pins H b)->tn i s.heap->J.go i H ->
  wpAny (model P w) X.A (act (.ref it)) (λr s1=>∃u,r=some u/\
   wpAny (model P w) X.A (adJ tg (.ref it) u) (λ_ s2=>∃x H',Inv X pins σ H' s2/\RelV x u/\J.yld i H x H'/\tn (i+1) s2.heap/\∀b∈fp,H' b=none) E s1) E s
 done:∀(X:Cx),X.prog=P->X.w=w->X.K=K->X.calm=true->∀(i:Nat) (pins:List (Addr×Obj)) (s:Io) (σ:St) (H:Hp) (E:Ad->Io->Prop),Inv X pins σ H s->(∀b∈fp,FpOk X pins H b)->tn i s.heap->J.stop i H ->
  wpAny (model P w) X.A (act (.ref it)) (λr s1=>r=none/\Inv X pins σ H s1) E s
 self:∀(A:abc) (i:Nat) (s:Io) (Q:Ad->Io->Prop) (E:Ad->Io->Prop),tn i s.heap->Q (.ref it) s->wpAny (model P w) A (afI (.ref it)) Q E s
abbrev TI:=St->Hp->(It->Hp->Prop)->Prop
def PIE(X:Cx)(pins:List (Addr×Obj))(σ:St)(tg:Expr)(R:It->Hp->Prop)(d:Ad)(s2:Io):Prop:=
 ∃(l:Addr) (fp:List Addr) (tn:Nat->aaQ->Prop) (J:It) (k:Hp),d = .ref l/\Inv X pins σ k s2/\Turn X.prog X.w X.K tg J fp l tn/\tn 0 s2.heap/\(∀b∈fp,FpOk X pins k b)/\R J k
def PI(X:Cx)(tg d:Expr)(k:TI):Prop:=
 ∀(pins:List (Addr×Obj)) (s:Io) (σ:St) (H:Hp) (R:It->Hp->Prop),Inv X pins σ H s->k σ H R ->
  wpAny (model X.prog X.w) X.A (eval d X.env) (λv s1=>wpAny (model X.prog X.w) X.A (afI v) (PIE X pins σ tg R) X.xe s1) X.xe s
theorem GI{s:Io}{k:Addr}{o:Obj}{n:String}{vs:Array Ad}{Q:Unit->Io->Prop}(m:s.heap.get? k=some o)(l:o.cls = .type n)(hd:o.data = .fields vs)
  (p:["enumerate","zip","dict_itemiterator","dict_reverseitemiterator","odict_iterator","itertools.zip_longest","itertools.pairwise"].contains n=false) (d:Q () s):wpAny M A (adJ tg (.ref k) u) Q E s:=by
 cases tg<;>first
  |exact LD d
  | (cases u<;>first
    |exact LD d
    | (refine gT (wpAny_load m ?_)
       rw[l,hd];show wpAny M A (if _=true then _ else _) Q E s;rw[if_neg (by grind)];exact LD d))
def Itl(K:aad)(a:Addr):It:=
 ⟨λi H=>∃d x,SqL K H a d/\d[i]?=some x,λi H x k=>k=H/\∀d,SqL K H a d->d[i]?=some x,λi H=>∃d,SqL K H a d/\d.length≤i⟩
def Itt(K:aad)(a:Addr):It:=
 ⟨λi H=>∃d x,SqT K H a d/\d[i]?=some x,λi H x k=>k=H/\∀d,SqT K H a d->d[i]?=some x,λi H=>∃d,SqT K H a d/\d.length≤i⟩
def Itr(lo:Int)(n:Nat):It:=⟨λi _=>i<n,λi H x d=>d=H/\x = .int (lo+i),λi _=>n≤i⟩
theorem Dt(a m:Addr):Turn P w K tg (Itl K a) [m] m (λi h=>h.IsListIter m a i) where
 mem:=by simp
 obj:=λi h l b n=>by
  have e:b=m:=by simpa using n
  subst e;let⟨o,e,c,d⟩:=l;exact⟨o,e,λv z=>by rw[d]at z;cases z⟩
 keep:=λi h y l k=>l.at λo e=>k m (by simp) o e
 item:=by
  intro X L W F Y i pins s σ H E I t l J;subst L W F;let⟨xs,x,B,G⟩:=J;let⟨R,U,p,hz⟩:=I.list B;let⟨u,hu,Z⟩:=U.get G;let⟨D,V,f2,T,O,S⟩:=t m (by simp);refine wpAny_pyNext_list_item l p.isList (x:=u) (by simpa using hu) λy q sb=>?_;have I1:Inv X pins σ H {s with heap:=y }:=I.turned (t':=s.toks) (λb o n e=>(sb.2 b n).trans e) D V T O S;let⟨o,e,c,d⟩:=id q;exact⟨u,rfl,GI (s:={s with heap:=y }) e c d (by decide) ⟨x,H,I1,Z,⟨rfl,λys hy=>by rw[I.list_inj hy B];exact G⟩,q,λb n=>(t b n).1⟩⟩
 done:=by
  intro X L W F Y i pins s σ H E I t l J;subst L W F;let⟨xs,B,G⟩:=J;let⟨R,U,p,hz⟩:=I.list B;let⟨D,V,f2,T,O,S⟩:=t m (by simp);have hl:=U.length;exact wpAny_pyNext_list_end (I.ok.hd Y) l p.isList (by simp;omega) λy eb=>⟨rfl,I.turned (t':=s.toks) (λb o n e=>eb b o n e) D V T O S⟩
 self:=λ_ _ _ _ _ l h=>wpAny_pyIter_listiter l h
theorem yO(a m:Addr):Turn P w K tg (Itt K a) [m] m (λi h=>h.IsTupleIter m a i) where
 mem:=by simp
 obj:=λi h l b q=>by
  have e:b=m:=by simpa using q
  subst e;let⟨o,e,c,d⟩:=l;exact⟨o,e,λv z=>by rw[d]at z;cases z⟩
 keep:=λi h B l k=>l.at λo e=>k m (by simp) o e
 item:=by
  intro X O W G Y i pins s σ H E I y l L;subst O W G;let⟨xs,x,D,J⟩:=L;let⟨n,U,p,hz⟩:=I.tuple D;let⟨u,hu,Z⟩:=U.get J;let⟨F,V,f2,T,R,S⟩:=y m (by simp);refine wpAny_pyNext_tuple_item l (show s.heap.IsTuple a n.toArray from p) (x:=u) (by simpa using hu) λB t sb=>?_;have I1:Inv X pins σ H {s with heap:=B }:=I.turned (t':=s.toks) (λb o q e=>(sb.2 b q).trans e) F V T R S;let⟨o,e,c,d⟩:=id t;exact⟨u,rfl,GI (s:={s with heap:=B }) e c d (by decide) ⟨x,H,I1,Z,⟨rfl,λys hy=>by rw[I.tuple_inj hy D];exact J⟩,t,λb q=>(y b q).1⟩⟩
 done:=by
  intro X O W G Y i pins s σ H E I y l L;subst O W G;let⟨xs,D,J⟩:=L;let⟨n,U,p,hz⟩:=I.tuple D;let⟨F,V,f2,T,R,S⟩:=y m (by simp);have hl:=U.length;exact wpAny_pyNext_tuple_end (I.ok.hd Y) l (show s.heap.IsTuple a n.toArray from p) (by simp;omega) λB eb=>⟨rfl,I.turned (t':=s.toks) (λb o q e=>eb b o q e) F V T R S⟩
 self:=λ_ _ _ _ _ l h=>wpAny_pyIter_tupleiter l h
theorem yJ(l:Addr)(lo:Int)(n:Nat):Turn P w K tg (Itr lo n) [l] l (λi h=>IsRangeIter h l (lo+(i:Nat)*1) ((n:Int)-(i:Nat)) 1) where
 mem:=by simp
 obj:=λi h d b m=>by
  simp_all
 keep:=λi h y d k=>k l (by simp) _ d
 item:=by
  intro X F S B J i pins s σ H E I q d D;subst F S B;let⟨z,R,V,O,G,L⟩:=q l (by simp);have W:=Walks.range (prog:=X.prog) (w:=X.w) (I.ok.hd J) l lo 1 n;refine W.item i s _ _ D d λv y T U p Y=>?_;let⟨t,rfl⟩:=U;have Z:Inv X pins σ H {s with heap:=y,toks:=T}:=I.turned (λb o m e=>Y b o (by simpa using m) e) z R O G L;refine⟨_,rfl,GI (s:={s with heap:=y,toks:=T}) (n:= "range_iterator") p rfl rfl (by decide) ⟨.int (lo+i),H,Z,⟨t,?_⟩,⟨rfl,rfl⟩,p,λb m=>(q b m).1⟩⟩;rw[Int.mul_one]
 done:=by
  intro X F S B J i pins s σ H E I q d D;subst F S B;let⟨z,R,V,O,G,L⟩:=q l (by simp);exact wpAny_pyNext_range_end (I.ok.hd J) d (by have:n≤i:=D;omega) λy eb=>⟨rfl,I.turned (t':=s.toks) (λb o m e=>eb b o m e) z R O G L⟩
 self:=λ_ _ _ _ _ d h=>wpAny_pyIter_rangeiter d h
section
variable {X:Cx}{tg:Expr}
theorem Ju{s:Io}{R:It->Hp->Prop}{lo d:Int}{t u v:Tok}{k:Nat}(I:Inv X pins σ H s)(n : -(2^62)≤lo)(B:lo<2^62)(p : -(2^62)≤d)(z:d<2^62)
  (q:R (Itr lo (d-lo).toNat) H):wpAny (model X.prog X.w) X.A (afI (.ref s.heap.objs.size)) (PIE X pins σ tg R) E {s with heap:=s.heap.push {cls:=.type "range",data:=.fields #[.int lo t,.int d u,.int 1 v]},toks:=k}:=by
 refine wpAny_pyIter_range (IsRange.new ..) (small_one n B p z) ?_;have l:Inv X pins σ H {s with heap:=s.heap.push {cls:=.type "range",data:=.fields #[.int lo t,.int d u,.int 1 v]},toks:=k}:=I.kept λb o e=>GT _ e;refine⟨(s.heap.push {cls:=.type "range",data:=.fields #[.int lo t,.int d u,.int 1 v]}).objs.size,[(s.heap.push {cls:=.type "range",data:=.fields #[.int lo t,.int d u,.int 1 v]}).objs.size],_,_,H,rfl,
  l.kept (t':=k) λb o e=>GT _ e,yJ _ lo (d-lo).toNat,?_,λb y=>?_,q⟩
 .have e1:lo+((0:Nat):Int)*1=lo:=by simp
  have m:(((d-lo).toNat):Int)-((0:Nat):Int)=adc.Range.rangeSize lo d 1:=by rw[rangeSize_one];split<;>omega
  rw[e1,m];exact aak _ rfl
 .have e:b=(s.heap.push {cls:=.type "range",data:=.fields #[.int lo t,.int d u,.int 1 v]}).objs.size:=by simpa using y
  subst e;exact l.fpOk (Mt _) (l.hok.fresh (Mt _))
def Ya(t:TA):TI:=λσ H R=>t σ H λvs d=>∃j:Int,vs=[.int j]/\-(2^62)≤j/\j<2^62/\R (Itr 0 j.toNat) d
theorem Ce{a:Expr}{k:TA}{p:Pos}(n:Gl X "range")(m:X.mg "range" = none)(y:PA X [a] k)(B:aac [a] X.env=[(false,eval a X.env)]:=by rfl):PI X tg (.Call (.Name "range" p) [a] [] pos) (Ya k):=by
 intro pins s σ H R I h;refine Call_ (kl I n m boot_range (acl (thn (y pos pins s σ H _ I h) λus s1 ⟨vs,D,z,r1,d⟩=>?_) B rfl));let⟨j,e,d,l,q⟩:=d;subst e
 cases r1 with
 |cons r rr=>
  cases rr;let⟨t,rfl⟩:=r;exact call_range_1 (Ju z (by decide) (by decide) d l (by simpa))
def tFor(s:TI)(g:TG)(tb:TS):TS:=λD σ H=>s σ H λJ q=>∃W:Nat->Nat->St->Hp->Prop,(∃m,W 0 m σ q)/\∀i m σ H,W i m σ H ->
 (J.stop i H/\D.nx σ H)\/(J.go i H/\∃N:St->Hp->Prop,(∀d k,N d k->∃n,n<m/\W (i+1) n d k)/\∀x k,J.yld i H x k->g x σ k λl p=>tb {D with nx:=N,ct:=N,bk:=D.nx} l p)
def sW(fp:List Addr)(h:aaQ):List (Addr×Obj):=fp.filterMap λb=>(h.get? b).map λo=>(b,o)
def iw{o:Obj}(d:b∈fp)(e:h.get? b=some o):(b,o)∈sW fp h:=List.mem_filterMap.mpr ⟨b,d,by rw[e];rfl⟩
theorem D3{p:Addr×Obj}(k:p∈sW fp h):p.1∈fp/\h.get? p.1=some p.2:=by
 let⟨b,d,e⟩:=List.mem_filterMap.mp k
 cases q:h.get? b with
 |none=>rw[q]at e;cases e
 |some o=>
  rw[q]at e;have l:=aar e;subst l;exact⟨d,q⟩
theorem Inv.pinned{s:Io}(I:Inv X pins σ H s)(k:∀b∈fp,FpOk X pins H b)(l:∀b∈fp,∃o,s.heap.get? b=some o/\∀v,o.data≠.cell v):Inv X (pins++sW fp s.heap) σ H s:=
 I.pins_of λp m=>(aaG.mp m).elim (λz=>I.pin p (aaJ _ z)) λz=>by
  let⟨d,e⟩:=D3 z;let⟨q,t,n,_⟩:=k p.1 d;obtain _:=l p.1 d
  simp_all
def Inv.unpinned{pl:List (Addr×Obj)}{s:Io}(I:Inv X (pins++pl) σ H s):Inv X pins σ H s:=I.pins_of λp d=>I.pin p (aaJ _ (abB _ d))
theorem Vv{y:Expr}{wi:TI}{g:TG}{tb:TS}(V:afx (model X.prog X.w) X.A X.env X.xe)(hc:X.calm=true)(hi:PI X tg y wi)(hg:PG X tg g)(l:PSs X body tb)
  (hs:∀x,aaM y X.env x=pure x:=by intro _;rfl):PS X (.For tg y body [] pos) (tFor wi g tb):=by
 intro pins s σ H D I h;refine wpAny_For (thn (hi pins s σ H _ I h) λv s1 h1=>thn h1 λitv s2 h2=>?_) hs;let⟨it,fp,tn,J,H2,e,I2,T,st2,f2,W,⟨m0,w0⟩,S⟩:=h2;subst e;have F:∀{G:Hp},(∀b∈fp,G b=none)->∀b∈fp,FpOk X pins G b:=λhn b l=>⟨hn b l,(f2 b l).2⟩;refine codeAny_forLoop_any (λn s'=>∃i q G,Inv X pins q G s'/\tn i s'.heap/\(∀b∈fp,G b=none)/\W i n q G) ?_ m0 ⟨0,σ,H2,I2,st2,λb l=>(f2 b l).1,w0⟩;intro n s3 ⟨i,t,Z,I3,R,U,w3⟩;rcases S i n t Z w3 with⟨stop,qn⟩|⟨go,N,hN,step⟩
 .refine acA V (thn (T.done X rfl rfl rfl hc i pins s3 t Z X.xe I3 (F U) R stop) λr s4 ⟨hr,I4⟩=>?_);subst hr;exact aeu ⟨t,Z,I4,qn⟩
 .refine acA V (thn (T.item X rfl rfl rfl hc i pins s3 t Z X.xe I3 (F U) R go) λr s4 ⟨u,hr,h4⟩=>?_);subst hr;refine acA V (thn h4 λ_ s5 ⟨x,H5,I5,r5,y5,O,fr5⟩=>?_);have I5':=I5.pinned (F fr5) (T.obj _ _ O);refine acA V (thn (hg _ s5 t H5 x u _ I5' r5 (step x H5 y5)) λ_ s6 ⟨σ6,H6,I6,q6⟩=>?_);refine acA V (thn (l _ s6 σ6 H6 _ I6 q6) λf s7 L=>?_);have p:∀{k:St}{z:Hp},Inv X (pins++sW fp s5.heap) k z s7->N k z->∃m,m<n/\∃i q G,Inv X pins q G s7/\tn i s7.heap/\(∀b∈fp,G b=none)/\W i m q G:=λ{k z} B Y=>by
   let⟨m',hm,w7⟩:=hN k z Y;refine⟨m',hm,i+1,k,z,B.unpinned,T.keep _ _ _ O λb l o e=>(B.pin (b,o) (aaJ _ (aaJ _ (iw l e)))).1,λb l=>?_,w7⟩;let⟨o,e,d⟩:=T.obj _ _ O b l;exact(B.pin (b,o) (aaJ _ (aaJ _ (iw l e)))).2.1
  cases f with
  |next=>let⟨k,z,B,Y⟩:=L;exact p B Y
  |cont=>let⟨k,z,B,Y⟩:=L;exact p B Y
  |brk=>let⟨k,z,B,L⟩:=L;exact⟨k,z,B.unpinned,L⟩
  |ret v=>let⟨x7,k,z,B,r7,L⟩:=L;exact⟨x7,k,z,B.unpinned,r7,L⟩
end
abbrev R2:=V->V->Hp->VK->Prop
def OpR(X:Cx)(f:Ad->Ad->Sem Ad)(r:R2):Prop:=
 ∀(pins:List (Addr×Obj)) (s:Io) (σ:St) (H:Hp) (x y:V) (v u:Ad) (Q:VK),Inv X pins σ H s->RelV x v->RelV y u->r x y H Q ->
  wpAny (model X.prog X.w) X.A (f v u) (EP X pins σ Q) X.xe s
def UnR(X:Cx)(f:Ad->Sem Ad)(r:V->Hp->VK->Prop):Prop:=
 ∀(pins:List (Addr×Obj)) (s:Io) (σ:St) (H:Hp) (x:V) (v:Ad) (Q:VK),Inv X pins σ H s->RelV x v->r x H Q ->
  wpAny (model X.prog X.w) X.A (f v) (EP X pins σ Q) X.xe s
def d3(X:Cx)(f:Ad)(r:List V->Hp->VK->Prop):Prop:=
 ∀(pins:List (Addr×Obj)) (s:Io) (σ:St) (H:Hp) (d:List V) (us:List Ad) (Q:VK),Inv X pins σ H s->Vals d us->r d H Q ->
  wpAny (model X.prog X.w) X.A (call f us) (EP X pins σ Q) X.xe s
def tOp(r:R2)(t tb:TE):TE:=λσ H Q=>t σ H λx k=>tb σ k λy d=>r x y d Q
def tUn(r:V->Hp->VK->Prop)(t:TE):TE:=λσ H Q=>t σ H λx d=>r x d Q
def rI(C:Int->Int->Prop)(g:Int->Int->V):R2:=λx y H Q=>∃i j,x = .int i/\y = .int j/\C i j/\Q (g i j) H
def rI0(g:Int->Int->V):R2:=λx y H Q=>∃i j,x = .int i/\y = .int j/\Q (g i j) H
def rU(g:Int->V):V->Hp->VK->Prop:=λx H Q=>∃i,x = .int i/\Q (g i) H
section
variable {X:Cx}{a b c:Expr}{d tb e:TE}{pos:Pos}
def binT(F:PE X a d)(D:PE X b tb){s:Io}{R:V->V->Hp->Prop}(I:Inv X pins σ H s)
  (h:d σ H λx n=>tb σ n λy k=>R x y k) 
  (t:∀v u s2 x y k,Inv X pins σ k s2->RelV x v->RelV y u->R x y k->wpAny (model X.prog X.w) X.A (f v u) Q X.xe s2) :
  wpAny (model X.prog X.w) X.A (eval a X.env) (λv l=>wpAny (model X.prog X.w) X.A (eval b X.env) (λu m=>wpAny (model X.prog X.w) X.A (f v u) Q X.xe m) X.xe l) X.xe s:=by
 refine thn (F pins s σ H _ I h) λv s1 ⟨x,n,G,r1,p⟩=>?_;refine thn (D pins s1 σ n _ G p) λu s2 ⟨y,k,z,B,q⟩=>?_;exact t v u s2 x y k z r1 B q
theorem Yc{op:aeQ}(n:OpR X (ab8 op) r)(m:PE X a d)(p:PE X b tb):PE X (.BinOp a op b pos) (tOp r d tb):=by
 intro pins s σ H Q I h;exact wpAny_BinOp (binT m p I h λv u s2 x y z k t l q=>n pins s2 σ z x y v u Q k t l q)
theorem Ym{op:UnaryOp}{r:V->Hp->VK->Prop}(n:UnR X (unaryOp op) r)(l:PE X a d):PE X (.UnaryOp op a pos) (tUn r d):=by
 intro pins s σ H Q I h;exact UnaryOp_ (thn (l pins s σ H _ I h)<|by intro v s1 ⟨x,k,m,r1,q⟩;exact n pins s1 σ k x v Q m r1 q)
theorem opI{C:Int->Int->Prop}
  (k:∀(i j:Int) (t u:Tok) (s:Io) (Q:Ad->Io->Prop) (E:Ad->Io->Prop),C i j->Q (.int (g i j) s.toks) {s with toks:=s.toks+1}->wpAny (model X.prog X.w) X.A (f (.int i t) (.int j u)) Q E s) :
  OpR X f (rI C λi j=>.int (g i j)):=by
 intro pins s σ H x y v u Q I n l h;let⟨i,j,rfl,rfl,m,q⟩:=h;let⟨t,rfl⟩:=n;let⟨t',rfl⟩:=l;exact k i j t t' s _ _ m ⟨.int _,H,I.tok _,⟨_,rfl⟩,q⟩
theorem opI0
  (k:∀(i j:Int) (t u:Tok) (s:Io) (Q:Ad->Io->Prop) (E:Ad->Io->Prop),Q (.int (g i j) s.toks) {s with toks:=s.toks+1}->wpAny (model X.prog X.w) X.A (f (.int i t) (.int j u)) Q E s) :
  OpR X f (rI0 λi j=>.int (g i j)):=by
 intro pins s σ H x y v u Q I m l h;let⟨i,j,rfl,rfl,q⟩:=h;let⟨t,rfl⟩:=m;let⟨t',rfl⟩:=l;exact k i j t t' s _ _ ⟨.int _,H,I.tok _,⟨_,rfl⟩,q⟩
theorem opB0{g:Int->Int->Bool}
  (k:∀(i j:Int) (t u:Tok) (s:Io) (Q:Ad->Io->Prop) (E:Ad->Io->Prop),Q (.bool (g i j)) s->wpAny (model X.prog X.w) X.A (f (.int i t) (.int j u)) Q E s) :
  OpR X f (rI0 λi j=>.bl (g i j)):=by
 intro pins s σ H x y v u Q I m l h;let⟨i,j,rfl,rfl,q⟩:=h;let⟨t,rfl⟩:=m;let⟨t',rfl⟩:=l;exact k i j t t' s _ _ ⟨.bl _,H,I,rfl,q⟩
def CPow(i j:Int):Prop:=0≤j/\j≤1000000/\i.natAbs<2^64
def CMul(i j:Int):Prop:=(-(2^64)<i/\i<2^64)\/(-(2^64)<j/\j<2^64)
def CMul.ok{i j:Int}(h:CMul i j):agW i j:=by
 rcases h with⟨l,k⟩|⟨l,k⟩
 .exact .of_left (intBits_le_64 l k)
 .exact .of_right (intBits_le_64 l k)
def UK:OpR X (ab8 .Add) (rI0 λi j=>.int (i+j)):=opI0 λ_ _ _ _ _ _ _ q=>add_int q
def Vk:OpR X (ab8 .Mod) (rI (λ_ j=>0<j) λi j=>.int (i%j)):=opI λi j _ _ _ _ _ k q=>by
 exact mod_int' (by omega) (by rw[Int.fmod_eq_emod_of_nonneg i (by omega)];exact q)
def VD:OpR X (ab8 .Pow) (rI CPow λi j=>.int (i^j.toNat)):=opI λ_ _ _ _ _ _ _ k q=>pow_int_small k.1 k.2.1 k.2.2 q
theorem unI{f:Ad->Sem Ad}{g:Int->Int}
  (k:∀(i:Int) (t:Tok) (s:Io) (Q:Ad->Io->Prop) (E:Ad->Io->Prop),Q (.int (g i) s.toks) {s with toks:=s.toks+1}->wpAny (model X.prog X.w) X.A (f (.int i t)) Q E s) :
  UnR X f (rU λi=>.int (g i)):=by
 intro pins s σ H x v Q I l h;let⟨i,rfl,q⟩:=h;let⟨t,rfl⟩:=l;exact k i t s _ _ ⟨.int _,H,I.tok _,⟨_,rfl⟩,q⟩
def SE:UnR X (unaryOp .USub) (rU λi=>.int (-i)):=unI λ_ _ _ _ _ q=>neg_int q
end
def scal:V->V->Bool
 | .non,.non=>true | .non,.int _=>true | .int _,.non=>true | .non,.bl _=>true | .bl _,.non=>true | .non,.str _=>true | .str _,.non=>true
 | .int _,.int _=>true | .bl _,.bl _=>true | .str _,.str _=>true | .byt _,.byt _=>true
 | .int _,.str _=>true | .str _,.int _=>true | .bl _,.str _=>true | .str _,.bl _=>true
 |_,_=>false
def rEq:R2:=λx y H Q=>scal x y=true/\Q (.bl (decide (x=y))) H
def rNe:R2:=λx y H Q=>scal x y=true/\Q (.bl (!decide (x=y))) H
def zF{i j:Int}:decide (V.int i=V.int j)=(i==j):=by
 rw[abX];simp
def LC{i j:Bool}:decide (V.bl i=V.bl j)=(i==j):=by
 rw[abX];simp
def qx{i j:Str}:decide (V.str i=V.str j)=(i==j):=by
 rw[abX];simp
def AC{i j:Array UInt8}:decide (V.byt i=V.byt j)=(i.toList==j.toList):=by
 rw[abX];simp
section
variable {X:Cx}{a b c:Expr}{f tb g:TE}{pos:Pos}
def bt{s:Io}{Q:VK}{k k':Bool}(I:Inv X pins σ H s)(q:Q (.bl k) H)(e:k=k'):EP X pins σ Q (.bool k') s:=by
 subst e;exact⟨.bl k,H,I,rfl,q⟩
theorem Xj:OpR X (aaS .Eq) rEq:=by
 intro pins s σ H x y v u Q I l d h;let⟨k,q⟩:=h
 cases x with
 |non=>
  cases l
  cases y with
  |non=>cases d;exact PySem.EqNone.eq_none_none (bt I q (by simp))
  |bl j=>cases d;exact PySem.EqNone.eq_none_bool (bt I q (by simp))
  |int j=>let⟨t',rfl⟩:=d;exact PySem.EqNone.eq_none_int (bt I q (by simp))
  |str j=>let⟨t',rfl⟩:=d;exact PySem.EqNone.eq_none_str (bt I q (by simp))
  |_=>exact absurd (show false=true from k) aai
 |bl i=>
  cases l
  cases y with
  |non=>cases d;exact PySem.EqNone.eq_bool_none (bt I q (by simp))
  |bl j=>cases d;exact eq_bool (bt I q LC)
  |str j=>let⟨t',rfl⟩:=d;exact PySem.EqMixed.eq_bool_str (bt I q (by simp))
  |_=>exact absurd (show false=true from k) aai
 |int i=>
  let⟨t,rfl⟩:=l
  cases y with
  |non=>cases d;exact PySem.EqNone.eq_int_none (bt I q (by simp))
  |int j=>let⟨t',rfl⟩:=d;exact eq_int (bt I q zF)
  |str j=>let⟨t',rfl⟩:=d;exact PySem.EqMixed.eq_int_str (bt I q (by simp))
  |_=>exact absurd (show false=true from k) aai
 |str i=>
  let⟨t,rfl⟩:=l
  cases y with
  |non=>cases d;exact PySem.EqNone.eq_str_none (bt I q (by simp))
  |bl j=>cases d;exact PySem.EqMixed.eq_str_bool (bt I q (by simp))
  |int j=>let⟨t',rfl⟩:=d;exact PySem.EqMixed.eq_str_int (bt I q (by simp))
  |str j=>let⟨t',rfl⟩:=d;exact eq_str (bt I q qx)
  |_=>exact absurd (show false=true from k) aai
 |byt i=>
  let⟨t,rfl⟩:=l
  cases y with
  |byt j=>let⟨t',rfl⟩:=d;exact PySem.W.eq_bytes (bt I q AC)
  |_=>exact absurd (show false=true from k) aai
 |_=>cases y<;>exact absurd (show false=true from k) aai
theorem YC:OpR X (aaS .NotEq) rNe:=by
 intro pins s σ H x y v u Q I l d h;let⟨k,q⟩:=h
 cases x with
 |non=>
  cases l
  cases y with
  |non=>cases d;exact PySem.EqNone.ne_none_none (bt I q (by rfl))
  |bl j=>cases d;exact PySem.EqNone.ne_none_bool (bt I q (by simp))
  |int j=>let⟨t',rfl⟩:=d;exact PySem.EqNone.ne_none_int (bt I q (by simp))
  |str j=>let⟨t',rfl⟩:=d;exact PySem.EqNone.ne_none_str (bt I q (by simp))
  |_=>exact absurd (show false=true from k) aai
 |bl i=>
  cases l
  cases y with
  |non=>cases d;exact PySem.EqNone.ne_bool_none (bt I q (by simp))
  |bl j=>cases d;exact ne_bool (bt I q (congrArg not LC))
  |str j=>let⟨t',rfl⟩:=d;exact PySem.EqMixed.ne_bool_str (bt I q (by simp))
  |_=>exact absurd (show false=true from k) aai
 |int i=>
  let⟨t,rfl⟩:=l
  cases y with
  |non=>cases d;exact PySem.EqNone.ne_int_none (bt I q (by simp))
  |int j=>let⟨t',rfl⟩:=d;exact ne_int (bt I q (congrArg not zF))
  |str j=>let⟨t',rfl⟩:=d;exact PySem.EqMixed.ne_int_str (bt I q (by simp))
  |_=>exact absurd (show false=true from k) aai
 |str i=>
  let⟨t,rfl⟩:=l
  cases y with
  |non=>cases d;exact PySem.EqNone.ne_str_none (bt I q (by simp))
  |bl j=>cases d;exact PySem.EqMixed.ne_str_bool (bt I q (by simp))
  |int j=>let⟨t',rfl⟩:=d;exact PySem.EqMixed.ne_str_int (bt I q (by simp))
  |str j=>let⟨t',rfl⟩:=d;exact ne_str (bt I q (congrArg not qx))
  |_=>exact absurd (show false=true from k) aai
 |byt i=>
  let⟨t,rfl⟩:=l
  cases y with
  |byt j=>let⟨t',rfl⟩:=d;exact PySem.W.ne_bytes (bt I q (congrArg not AC))
  |_=>exact absurd (show false=true from k) aai
 |_=>cases y<;>exact absurd (show false=true from k) aai
def Yt:OpR X (aaS .Lt) (rI0 λi j=>.bl (decide (i<j))):=opB0 λ_ _ _ _ _ _ _ q=>lt_int q
def XU:OpR X (aaS .LtE) (rI0 λi j=>.bl (decide (i≤j))):=opB0 λ_ _ _ _ _ _ _ q=>le_int q
def YG:OpR X (aaS .Gt) (rI0 λi j=>.bl (decide (j<i))):=opB0 λ_ _ _ _ _ _ _ q=>gt_int q
def Xp:OpR X (aaS .GtE) (rI0 λi j=>.bl (decide (j≤i))):=opB0 λ_ _ _ _ _ _ _ q=>ge_int q
theorem Wj:OpR X (aaS .Is) (λx y H Q=>y = .non/\Q (.bl (decide (x = .non))) H):=by
 intro pins s σ H x y v u Q I d k h;let⟨rfl,q⟩:=h;cases k;refine is_none_gen (bt I q ?_)
 cases x<;>first
  |(cases d;rfl)
  |(let⟨t,rfl⟩:=d;rfl)
theorem R8:OpR X (aaS .IsNot) (λx y H Q=>y = .non/\Q (.bl (!decide (x = .non))) H):=by
 intro pins s σ H x y v u Q I d k h;let⟨rfl,q⟩:=h;cases k;refine isnot_none_gen (bt I q ?_)
 cases x<;>first
  |(cases d;rfl)
  |(let⟨t,rfl⟩:=d;rfl)
theorem uA:OpR X (aaS .NotIn) (λx y H Q=>∃i j,x = .str i/\y = .str j/\Q (.bl (!(!(afy j i 0 j.length 1).isEmpty))) H):=by
 intro pins s σ H x y v u Q I d k h;let⟨i,j,rfl,rfl,q⟩:=h;let⟨t,rfl⟩:=d;let⟨t',rfl⟩:=k;exact notIn_str (bt I q rfl)
def aG(b:Expr)(h:op≠.In:=by decide)(d:op≠.NotIn:=by decide):acK op b=false:=by
 have k:(op==CmpOp.In)=false:=by cases op<;>first|rfl|exact absurd rfl h
 have l:(op==CmpOp.NotIn)=false:=by cases op<;>first|rfl|exact absurd rfl d
 cases b<;>simp[acK,k,l]
theorem Rh(m:OpR X (aaS op) r)(l:PE X a f)(n:PE X b tb)(p:acK op b=false):PE X (.Compare a [op] [b] pos) (tOp r f tb):=by
 intro pins s σ H Q I h;exact wpAny_Compare1 (binT l n I h λv u s2 x y z d t k q=>m pins s2 σ z x y v u Q d t k q) p
def Vn(t:TE):TT:=λσ H Q=>t σ H λx d=>∃k,x = .bl k/\Q k d
theorem Qy(F:OpR X (aaS op) r)(p:PE X a f)(J:PE X b tb)(L:acK op b=false):PT X (.Compare a [op] [b] pos) (Vn (tOp r f tb)):=by
 intro pins s σ H Q I h;refine wpAny_isTrue_Compare1 (thn (p pins s σ H _ I h) λv s1 ⟨x,n,t,r1,q⟩=>thn (J pins s1 σ n _ t q) λu s2 ⟨y,O,d,G,B⟩=>
  thn (F pins s2 σ O x y v u _ d r1 G B) λc S ⟨z,m,l,D,k,e,R⟩=>?_) L
 subst e;cases D;exact adb ⟨m,l,R⟩
def L8(r n:R2)(f tb g:TE):TE:=λσ H Q=>f σ H λx q=>tb σ q λy p=>r x y p λz d=>∃k,z = .bl k/\
 (if k=true then g σ d λl m=>n y l m Q else Q (.bl false) d)
theorem II{l:CmpOp}{n:R2}(R:OpR X (aaS op) r)(m:OpR X (aaS l) n)(Z:PE X a f)(S:PE X b tb)(L:PE X c g)
  (hm:lastMarks [op,l] [b,c]=false:=by with_unfolding_all rfl):PE X (.Compare a [op,l] [b,c] pos) (L8 r n f tb g):=by
 intro pins s σ H Q I h;refine Compare_chain (thn (Z pins s σ H _ I h) λv s1 ⟨x,J,I1,r1,W⟩=>chain_link (thn (S pins s1 σ J _ I1 W) λu s2 ⟨y,T,F,q,q2⟩=>
  thn (R pins s2 σ T x y v u _ F r1 q q2) λd Y ⟨z,p,B,r3,k,e,t⟩=>?_)) hm
 subst e;cases r3;refine adb ?_
 cases k with
 |false=>exact ite_ff ⟨.bl false,p,B,rfl,t⟩
 |true=>exact ite_tt (chain_last (thn (L pins Y σ p _ B t)<|by intro V s4 ⟨z',O,U,G,D⟩;exact m pins s4 σ O y z' u V Q U q G D))
def ug:(aam:Nat)<2^63:=by  decide
theorem za:OpR X (ab8 .Add) (λx y H Q=>∃i j,x = .str i/\y = .str j/\i.length+j.length≤aam/\Q (.str (i++j)) H):=by
 intro pins s σ H x y v u Q I l k h;let⟨i,j,rfl,rfl,d,q⟩:=h;let⟨t,rfl⟩:=l;let⟨t',rfl⟩:=k;exact add_str (λt' m=>⟨.str _,H,I.tok _,⟨_,rfl⟩,q⟩) d
theorem Jj{x:V}(r:Vals [x] us):∃u,us=[u]/\RelV x u:=by
 cases r with
 |cons r1 d=>cases d;exact⟨_,rfl,r1⟩
theorem YT{x y:V}(r:Vals [x,y] us):∃u d,us=[u,d]/\RelV x u/\RelV y d:=by
 cases r with
 |cons r1 k=>
  cases k with
  |cons m l=>cases l;exact⟨_,_,rfl,r1,m⟩
theorem z6(l:X.calm=true):d3 X (.builtin "max") (λxs H Q=>∃i j,xs=[.int i,.int j]/\Q (.int (if j>i then j else i)) H):=by
 intro pins s σ H xs us Q I r h;let⟨i,j,rfl,q⟩:=h;let⟨u,m,rfl,⟨t,rfl⟩,⟨t',rfl⟩⟩:=YT r;refine max_two_ints (I.ok.hd l) λn p k=>⟨_,H,I.kept k,?_,q⟩
 by_cases d:j>i
 .rw[if_pos d,if_pos d];exact⟨_,rfl⟩
 .rw[if_neg d,if_neg d];exact⟨_,rfl⟩
theorem uV:d3 X (.type "str") (λxs H Q=>∃i,xs=[.int i]/\i.natAbs.log2<1920/\Q (.str (agX i)) H):=by
 intro pins s σ H xs us Q I r h;let⟨i,rfl,d,q⟩:=h;let⟨u,rfl,t,rfl⟩:=Jj r;exact PySem.P.str_of_int d ⟨.str _,H,I.tok _,⟨_,rfl⟩,q⟩
end
structure ObjM(h:aaQ)(x dx C:Addr)(mA:Str->Option Ad):Prop where
 obj:h.get? x=some (ace C dx)
 ns:h.Ns1 dx mA
 ne:dx≠x
theorem Ah{dx:Addr}(n:h.Ns1 dx mA):∃k,h.get? dx=some k/\∀name,aeS name k=some (mA name):=by
 let⟨o,es,D,p,hd,B,_,s⟩:=n;refine⟨o,p,λname=>?_⟩;have e:=s name;unfold nsFind findBy at e;rw[<-Array.find?_toList]at e;unfold aeS;rw[hd];dsimp;split
 .rename_i y q;rw[q]at e;exact congrArg some e
 .rename_i q;rw[q]at e;have a:es.toList.any (·.refKey)=false:=by
   rw[List.any_eq_false];intro y m;let⟨z,t,d⟩:=B y (Array.mem_toList_iff.mp m);simp[ab2.refKey,d]
  have l:¬es.toList.any (·.refKey)=true:=by rw[a];exact aai
  rw[if_neg l];exact congrArg some e
def ObjM.look{x dx:Addr}(I:ObjM h x dx C mA):∃d,PySem.W.InstAt h x (ace C dx) C (some d)/\∀name,aeS name d=some (mA name):=
 let ⟨d,ho,hl⟩:=Ah I.ns
 ⟨d,⟨I.obj,rfl,rfl,ho⟩,hl⟩
section
variable {prog:aaI}{w:World}{A:abc}{E:Ad->Io->Prop}{s:Io}{K:aad}{x dx C f:Addr}{m:Str->Option Ad}{name:Str}{v:Ad}
def Qh{d:Bool}(X:K.In s.heap)(I:ObjM s.heap x dx C m)(n:acO K C name=true)(t:add K C=true)
  (q:abo K (.ref C) name=some none) (l:m name=some v) (k:ag9 v=true) (h:Q v {s with toks:=s.toks+1}) :
  wpAny (model prog w) A (getAttr (.ref x) name d) Q E s:=by
 let⟨y,J,p⟩:=I.look;exact PySem.W.get_value X J (aeF n).1 (PySem.W.findObj_own t q rfl (by rw[p,l])) k h
def JD{Q:Ad×List Ad->Io->Prop}(X:K.In s.heap)(I:ObjM s.heap x dx C m)(d:acO K C name=true)
  (n:abo K (.ref C) name=some (some (.ref f))) (l:aeG K (.ref f)=true) (k:m name=none) (h:Q (.ref f,[.ref x]) s) :
  wpAny (model prog w) A (aef (.ref x) name pl) Q E s:=by
 let⟨q,J,p⟩:=I.look;exact PySem.W.method_fn X J (aeF d).1 (aeF d).2 n (beq_iff_eq.mp l) (by show(aeS name q).map (·.isSome)=some false;rw[p,k];rfl) h
theorem RZ{ns:List Str}{Q:Unit->Io->Prop}(X:K.In s.heap)(I:ObjM s.heap x dx C m)
  (R:abo K (.ref C) "__setattr__" = some (some (.builtin "object.__setattr__"))) (L:ad1 K C=true) (t:af1 K C name=some none) (z:add K C=true)
  (O:afH m ns) (hsz:ns.length≤aam)
  (h:∀h',ObjM h' x dx C (λy=>if y=name then some v else m y)->abd dx s.heap h'->Q () {s with heap:=h',toks:=s.toks+2}) :
  wpAny (model prog w) A (setAttr (.ref x) name v) Q E s:=by
 let⟨T,J,V⟩:=I.look;refine PySem.W.set_plain X J R (PySem.W.osa_open (s:={s with toks:=s.toks+1}) (r:=none) X J L t λb=>?_);let⟨S,F,p⟩:=PySem.W.any_some z;have B:s.heap.get? x=some ⟨.ref C,some dx,.plain,#[]⟩:=I.obj;refine gT (LD (gT (gT (wpAny_loadPart B (gT (PySem.W.Looks.here (s:={s with toks:=s.toks+1}) (PySem.W.looks_clsIn X F) ?_))))));rw[p];refine LD (a:=some dx) (gT (LD (gT ?_)));refine wpAny_nsSet1 (s:={s with toks:=s.toks+1}) I.ns λh' d k=>?_;let⟨U,D,G,q,l,n⟩:=d.count (afH.cons name v O);refine gT (wpAny_lookBehind q (by rw[l];exact pastItsLine_dict (aax n (by rw[aaq];omega))) ?_);exact LD (h _ ⟨(k.2 _ (abx I.ne)).trans I.obj,d,I.ne⟩ k)
theorem F9{R:Result->Io->Prop}{vs:List Ad}(X:K.In s.heap)(l:af2 K C=true)
  (n:abo K (.ref C) "__init__" = some (some (.ref f))) (k:PySem.W.typeIn K (.ref f)=some (.type "function"))
  (h:adK (model prog w) (A.under (.builtin "type.__call__" ⟨.ref C::vs,kw⟩)) (.call (.ref f) ⟨.ref (s.heap.objs.size+1)::vs,kw⟩) (PySem.W.InitBack (s.heap.objs.size+1) R)
   {s with heap:=(s.heap.push abH).push (ace C s.heap.objs.size)}) :
  adK (model prog w) A (.call (.ref C) ⟨vs,kw⟩) R s:=by
 let⟨p,g,d,t,os⟩:=s;exact PySem.W.make_core (PySem.W.makes_of X l) (PySem.W.looks_findIn X n) (λself=>PySem.W.bind_fn X self k) (.inl rfl) h
end
def putF(f:Str)(v:V):List (Str×V)->List (Str×V)
 |[]=>[(f,v)]
 |(g,x)::r=>if g=f then(g,v)::r else(g,x)::putF f v r
theorem k8(f g:Str)(v:V):∀fs:List (Str×V),(putF f v fs).lookup g=if g=f then some v else fs.lookup g
 |[]=>by
  show aeo g [(f,v)]=_
  by_cases h:g=f
  .simp_all
  .have hb:=beq_eq_false_iff_ne.mpr h;simp only[aeo,hb,if_neg h]
 | (k,x)::r=>by
  have l:=k8 f g v r;rw[show putF f v ((k,x)::r)=(if k=f then(k,v)::r else(k,x)::putF f v r)from rfl]
  by_cases d:k=f
  .rw[if_pos d]
   by_cases h:g=k
   .simp_all
   .have hb:(g==k)=false:=beq_eq_false_iff_ne.mpr h;simp only[aeo,hb,if_neg (λe:g=f=>h (e.trans d.symm))]
  .rw[if_neg d]
   by_cases h:g=k
   .simp_all
   .have hb:=beq_eq_false_iff_ne.mpr h;simp only[aeo,hb];exact l
theorem nQ(f:Str)(v:V):∀fs:List (Str×V),f∈(putF f v fs).map (·.1)/\∀g,g∈fs.map (·.1)->g∈(putF f v fs).map (·.1)
 |[]=>⟨by simp[putF],λg h=>by simp at h⟩
 | (k,x)::r=>by
  let⟨m,l⟩:=nQ f v r;rw[show putF f v ((k,x)::r)=(if k=f then(k,v)::r else(k,x)::putF f v r)from rfl]
  by_cases d:k=f
  .rw[if_pos d];subst d;exact⟨by simp,λg h=>by simpa using h⟩
  .rw[if_neg d];refine⟨?_,λg h=>?_⟩
   .rw[aah];exact aab _ m
   .rw[aah]at h⊢;rcases aae.mp h with e|e
    .exact aae.mpr (.inl e)
    .exact aab _ (l g e)
theorem ng(f:Str)(v:V):∀fs:List (Str×V),(putF f v fs).length≤fs.length+1
 |[]=>by simp[putF]
 |(k,x)::r=>by
  have l:=ng f v r;rw[show putF f v ((k,x)::r)=(if k=f then(k,v)::r else(k,x)::putF f v r)from rfl]
  by_cases d:k=f
  .rw[if_pos d,aaq,aaq];omega
  .rw[if_neg d,aaq,aaq];omega
theorem RelO.some_of{o:Option Ad}(r:RelO (some v) o):∃u,o=some u/\RelV v u:=by
 cases o with
 |none=>exact(r).elim
 |some u=>exact⟨u,rfl,r⟩
theorem RelO.none_of{o:Option Ad}(r:RelO none o):o=none:=by
 cases o with
 |none=>rfl
 |some u=>exact(r).elim
theorem Da(r:RelV v u):ag9 u=true:=by
 cases v with
 |non=>cases (r);rfl
 |bl b=>cases (r);rfl
 |int i=>let⟨t,e⟩:=(r);cases e;rfl
 |str x=>let⟨t,e⟩:=(r);cases e;rfl
 |byt b=>let⟨t,e⟩:=(r);cases e;rfl
 |flt b=>let⟨t,e⟩:=(r);cases e;rfl
 |ref a=>cases (r);rfl
 |ty n=>cases (r);rfl
section
variable {P:aaI}{w:World}{H c:Hp}{h h':aaQ}{a C dx:Addr}{fs b:List (Str×V)}
theorem u3(hok:HOk P w H h)(e:H a=some (.ins C dx fs)):∃mA,ObjM h a dx C mA/\(∀f,RelO (fs.lookup f) (mA f))/\afH mA (fs.map (·.1))/\fs.length≤1000/\H dx=some (.own a):=by
 let⟨d,z,ne,k,mA,n,r,q⟩:=(show ObjOk P w H h a (.ins C dx fs)from hok a _ e);exact⟨mA,⟨k,n,ne⟩,r,q,z,d⟩
end
structure Cls(K:aad)(C:Addr):Prop where
 pg:acO K C aeN=true
 hd:add K C=true
 po:ad1 K C=true
 sa:abo K (.ref C) "__setattr__" = some (some (.builtin "object.__setattr__"))
def Cls.get(c:Cls K C)(f:Str):acO K C f=true:=c.pg
def NoAttr(K:aad)(C:Addr)(f:Str):Prop:=abo K (.ref C) f=some none
def NoAttr.taker{f:Str}(n:NoAttr K C f):af1 K C f=some none:=by
 unfold af1;rw[show abo K (.ref C) f=some none from n];rfl
structure Meth(K:aad)(C:Addr)(m:Str)(f:Addr):Prop where
 at_:abo K (.ref C) m=some (some (.ref f))
 fn:aeG K (.ref f)=true
 kp:abJ K (.ref f)=true
section
variable {X:Cx}{p:List (Addr×Obj)}{d:St}{H:Hp}{s:Io}{a C dx:Addr}{fs:List (Str×V)}{f:Str}{v:V}{A:abc}{E:Ad->Io->Prop}
theorem yF{b:Bool}(I:Inv X p d H s)(e:H a=some (.ins C dx fs))(c:Cls X.K C)(n:NoAttr X.K C f)(l:fs.lookup f=some v)
  (h:∀u s',Inv X p d H s'->RelV v u->Q u s'):wpAny (model X.prog X.w) A (getAttr (.ref a) f b) Q E s:=by
 let⟨mA,O,r,_,_,_⟩:=u3 I.hok e;let⟨u,m,k⟩:=RelO.some_of (v:=v) (o:=mA f) (by rw[<-l];exact r f);exact Qh I.kIn O (c.get f) c.hd n m (Da k) (h u _ (I.tok _) k)
theorem oU{m:Str}{g:Addr}{Q:Ad×List Ad->Io->Prop}(I:Inv X p d H s)(e:H a=some (.ins C dx fs))(c:Cls X.K C)(k:Meth X.K C m g)(l:fs.lookup m=none)
  (h:Q (.ref g,[.ref a]) s):wpAny (model X.prog X.w) A (aef (.ref a) m pl) Q E s:=by
 let⟨mA,O,r,_,_,_⟩:=u3 I.hok e;have n:mA m=none:=RelO.none_of (by rw[<-l];exact r m);exact JD I.kIn O (c.get m) k.at_ k.fn n h
theorem y7{y:V}{Q:Unit->Io->Prop}(I:Inv X p d H s)(e:H a=some (.ins C dx fs))(c:Cls X.K C)(n:NoAttr X.K C f)(L:fs.length<1000)(D:RelV y u)
  (h:∀s',Inv X p d (upd H a (.ins C dx (putF f y fs))) s'->Q () s'):wpAny (model X.prog X.w) A (setAttr (.ref a) f u) Q E s:=by
 let⟨mA,O,r,l,_,m⟩:=u3 I.hok e;have B:(fs.map (·.1)).length≤aam:=by rw[iO,aag];omega
 refine RZ I.kIn O c.sa c.po n.taker c.hd l B λF k t=>h _ ?_;have hd:∃o,F.get? dx=some o:=let ⟨o,_,_,e',_⟩:=k.ns;⟨o,e'⟩;refine I.write (x:=a) (e:=dx) (by rw[e];exact acu) (.inr m) (λb q J z=>(t.2 b J).trans z) hd ?_;refine⟨by rw[aA O.ne];exact m,?_,O.ne,k.obj,_,k.ns,λg=>?_,λg G=>?_⟩
 .have:=ng f y fs;omega
 .show RelO ((putF f y fs).lookup g) (if g=f then some u else mA g);rw[k8]
  by_cases q:g=f
  .rw[if_pos q,if_pos q];exact D
  .rw[if_neg q,if_neg q];exact r g
 .by_cases q:g=f
  .rw[q];exact(nQ f y fs).1
  .refine(nQ f y fs).2 g (l g λz=>G ?_);show(if g=f then some u else mA g)=none;rw[if_neg q];exact z
theorem Inv.made(I:Inv X p d H s):Inv X p d (upd (upd H s.heap.objs.size (.own (s.heap.objs.size+1))) (s.heap.objs.size+1) (.ins C s.heap.objs.size []))
  {s with heap:=(s.heap.push abH).push (ace C s.heap.objs.size)}:=by
 have k:(s.heap.push abH).get? s.heap.objs.size=some abH:=aak s.heap rfl;have z:((s.heap.push abH).push (ace C s.heap.objs.size)).get? (s.heap.objs.size+1)=some (ace C s.heap.objs.size):=by
  have:=aak (s.heap.push abH) (o:=ace C s.heap.objs.size) rfl;rwa[abp]at this
 have t:(s.heap.push abH).Ns s.heap.objs.size (λ_=>none):=⟨abH,#[],_,k,rfl,(λe m=>absurd m (by simp)),λ_=>rfl⟩;have n:=I.laid (a:=s.heap.objs.size) (o:=.own (s.heap.objs.size+1)) (h':=s.heap.push abH) (t':=s.toks) (λb u q=>GT _ q) (Mt _) ⟨_,k⟩;refine n.laid (a:=s.heap.objs.size+1) (o:=.ins C s.heap.objs.size []) (t':=s.toks) (λb u q=>GT _ q) (afJ (abp _ _)) ?_;have ne:s.heap.objs.size≠s.heap.objs.size+1:=aaU (abu _);refine⟨by rw[aA ne,aB],abw _,ne,z,λ_=>none,(aaQ.Ns1.of_empty t).at λo q=>GT _ q,λ_=>acu,λy l=>absurd rfl l⟩
def OY{prog:aaI}{env:Env}{f:Str}{s:Io}(l:abv e f env (eval e env)=eval e env)
  (h:wpAny (model prog w) A (eval e env) (λo k=>wpAny (model prog w) A (getAttr o f true) Q E k) E s):wpAny (model prog w) A (eval (.Attribute e f pos) env) Q E s:=
 Attribute_any_ h (by rw[arm_eval_Attribute,l])
end
def tFld(K:aad)(t:TE)(f:Str):TE:=λσ H Q=>t σ H λx d=>∃a C dx fs v,x = .ref a/\d a=some (.ins C dx fs)/\Cls K C/\NoAttr K C f/\fs.lookup f=some v/\Q v d
def sFld(K:aad)(l t:TE)(f:Str):TS:=λD σ H=>t σ H λy k=>l σ k λx d=>∃a C dx fs,x = .ref a/\d a=some (.ins C dx fs)/\Cls K C/\NoAttr K C f/\fs.length<1000/\
 D.nx σ (upd d a (.ins C dx (putF f y fs)))
def InOp(X:Cx)(op:aeQ)(d:V->V->Hp->VK->Prop):Prop:=
 ∀(pins:List (Addr×Obj)) (s:Io) (σ:St) (H:Hp) (x y:V) (u v:Ad) (Q:VK),Inv X pins σ H s->RelV x u->RelV y v->d x y H Q->wpAny (model X.prog X.w) X.A (inplaceOp op u v) (EP X pins σ Q) X.xe s
section
variable {X:Cx}{o e b:Expr}{f:Str}{pos p g:Pos}{d k:TE}
theorem Ug(G:PE X e d)(D:abv e f X.env (eval e X.env)=eval e X.env):PE X (.Attribute e f pos) (tFld X.K d f):=by
 intro pins s σ H Q I h;refine OY D (thn (G pins s σ H _ I h) λu s1 ⟨x,y,z,F,a,C,dx,fs,v,ex,B,c,n,l,q⟩=>?_);subst ex;obtain rfl:u=abk a:=F;exact yF z B c n l λJ s2 t m=>⟨v,y,t,m,q⟩
theorem WJ(J:PE X o d)(m:PE X b k)(T:abz b (some (.Attribute o f p)) pos.line X.env=pure false):PS X (.Assign [.Attribute o f p] b pos) (sFld X.K d k f):=by
 intro pins s σ H D I h;refine plainObj_wpAny_Assign_Attribute (thn (m pins s σ H _ I h) λu s1 ⟨y,G,L,B,q⟩=>thn (J pins s1 σ G _ L q) λt s2 ⟨x,V,z,S,a,C,dx,fs,ex,R,c,n,l,O⟩=>?_) T;subst ex;obtain rfl:t=abk a:=S;exact y7 z R c n l B λU F=>⟨σ,_,F,O⟩
def rAdd:V->V->Hp->VK->Prop:=λx y H Q=>∃i j,x = .int i/\y = .int j/\Q (.int (i+j)) H
def rSub:V->V->Hp->VK->Prop:=λx y H Q=>∃i j,x = .int i/\y = .int j/\Q (.int (i-j)) H
theorem Vg:InOp X .Add rAdd:=by
 intro pins s σ H x y u v Q I l m ⟨i,j,rfl,rfl,q⟩;let⟨t,rfl⟩:=(l);let⟨t',rfl⟩:=(m);exact PyProof.Rows.iadd_int ⟨.int _,H,I.tok _,⟨_,rfl⟩,q⟩
theorem SI:InOp X .Sub rSub:=by
 intro pins s σ H x y u v Q I l m ⟨i,j,rfl,rfl,q⟩;let⟨t,rfl⟩:=(show ∃t,u=agq i t from l);let⟨t',rfl⟩:=(show ∃t',v=agq j t' from m);exact PyProof.Rows.isub_int ⟨.int (i-j),H,I.tok _,⟨_,rfl⟩,q⟩
end
structure Room(k:Nat)(A:abc):Prop where
 hd:A.handled=none
 dp:A.depth+3*k+5<recursionLimit
 un:A.units+16*k+200<cLine
 gd:A.guards=some []
def Room.mono{k:Nat}(r:Room k A)(h:j≤k):Room j A:=⟨r.hd,by have:=r.dp;omega,by have:=r.un;omega,r.gd⟩
def Room.deeper{k:Nat}(r:Room (k+1) A)(env:Env):Room k (A.deeper env):=
 ⟨r.hd,by have:=r.dp;show A.depth+1+3*k+5<_;omega,by have:=r.un;show A.units+3+16*k+200<_;omega,r.gd⟩
def yH:(A.under (.builtin "type.__call__" ⟨.ref C::us,kw⟩)).depth=A.depth+1:=rfl
def yD:(A.under (.builtin "type.__call__" ⟨.ref C::us,kw⟩)).units=A.units+1:=rfl
def vO:(A.under (.builtin "type.__call__" ⟨.ref C::us,kw⟩)).guards=A.guards:=rfl
def Room.make{k:Nat}(r:Room (k+1) A)(C:Addr)(us:List Ad)(kw:List (Str×Ad)):Room k (A.under (.builtin "type.__call__" ⟨.ref C::us,kw⟩)):=
 ⟨r.hd,by have:=r.dp;rw[yH];omega,by have:=r.un;rw[yD];omega,by rw[vO];exact r.gd⟩
def Room.depth{k:Nat}(r:Room k A):A.depth<recursionLimit:=by have:=r.dp;omega
def Room.units{k:Nat}(r:Room k A):A.units+64<cLine:=by have:=r.un;omega
def tNil:TA:=λ_ H Q=>Q [] H
def YD(t:TE)(tr:TA):TA:=λσ H Q=>t σ H λx l=>tr σ l λd k=>Q (x::d) k
section
variable {X:Cx}{e:Expr}{a:List Expr}{c:TE}{t:TA}{pos:Pos}
theorem KI:PA X [] tNil:=λ_ _ _ _ H Q I h=>agY ⟨[],H,I,.nil,h⟩
theorem vP(y:PE X e c)(z:PA X a t)(D:aac (e::a) X.env=(false,eval e X.env)::aac a X.env:=by rfl):PA X (e::a) (YD c t):=by
 intro pos pins s σ H Q I h;rw[D];show wpAny _ _ (spliced ((false,eval e X.env)::abn pos _)) _ _ s;refine agH (thn (y pins s σ H _ I h) λu s1 ⟨x,p,B,r1,d⟩=>?_);exact thn (z pos pins s1 σ p _ B d)<|by intro us s2 ⟨l,n,k,m,q⟩;exact⟨x::l,n,k,.cons r1 m,q⟩
def tTup(t:TA):TE:=λσ H Q=>t σ H λd k=>d.length≤aam/\∀p,k p=none->Q (.ref p) (upd k p (.tup d))
def tLst(t:TA):TE:=λσ H Q=>t σ H λd k=>d.length≤aam/\∀p,k p=none->Q (.ref p) (upd k p (.lst d))
theorem WR{x1}(h:PA X a t):PE X (.Tuple a x1 pos) (tTup t):=by
 intro pins s σ H Q I m;refine wpAny_Tuple_spliced (thn (h pos pins s σ H _ I m) λus s1 ⟨n,l,d,r,z,q⟩=>⟨by rw[<-r.length];exact z,?_⟩);have k:=d.hok.fresh (Mt _);refine⟨.ref s1.heap.objs.size,upd l s1.heap.objs.size _,d.laid (t':=s1.toks) (λb u e=>GT _ e) (Mt _) ?_,rfl,q _ k⟩;exact⟨z,us,r,⟨_,aak _ rfl,rfl,rfl,_,rfl⟩⟩
theorem SN(h:PA X a t):PE X (.List a pos) (tLst t):=by
 intro pins s σ H Q I m;refine wpAny_List_spliced (thn (h pos pins s σ H _ I m) λus s1 ⟨n,l,d,r,z,q⟩=>⟨by rw[<-r.length];exact z,?_⟩);have k:=d.hok.fresh (Mt _);refine⟨.ref s1.heap.objs.size,upd l s1.heap.objs.size _,d.laid (t':=s1.toks) (λb u e=>GT _ e) (Mt _) ?_,rfl,q _ k⟩;exact⟨z,us,0,r,aak _ rfl⟩
end
abbrev Sp:=List V->Hp->VK->XK->Prop
abbrev CXT:=List Env->Hp->Io->XK->Ad->Io->Prop
structure Env0(P:aaI)(w:World)(K:aad)(mg:Str->Option Ad)(base:aaQ)(A:abc)(outer:List Env)(s:Io)(H:Hp):Prop where
 frames:A.frames=some outer
 mod:Mod K mg base
 bs:∀b o,base.get? b=some o->s.heap.get? b=some o/\H b=none
 bsz:base.objs.size≤s.heap.objs.size
 funs:s.heap.FunFrames base outer
 frf:∀b∈frs outer,H b=none
 hok:HOk P w H s.heap
 bare:afb s.gens
def CE(outer:List Env)(P:aaI)(w:World)(H:Hp)(s:Io)(Q:VK)(u:Ad)(s':Io):Prop:=
 ∃v d,s'.os=s.os/\afb s'.gens/\Un (frs outer) [] H d s.heap s'.heap/\HOk P w d s'.heap/\RelV v u/\Q v d
def CR(CX:CXT)(outer:List Env)(P:aaI)(w:World)(H:Hp)(s:Io)(Q:VK)(E:XK)(r:Result)(s':Io):Prop:=
 match r with
 | .ok (.ret u)=>CE outer P w H s Q u s'
 | .ok _=>False
 | .error e=>CX outer H s E e s'
structure FnOk(P:aaI)(w:World)(K:aad)(mg:Str->Option Ad)(base:aaQ)(CX:CXT)(k:Nat)(f:Addr)(fd:abU)(ps:List Str)(sp:Sp):Prop where
 len:∀vs H Q E,sp vs H Q E->vs.length=ps.length
 run:∀(A:abc) (outer:List Env) (s:Io) (H:Hp) (args:Args) (us:List Ad) (vs:List V) (Q:VK) (E:XK),Room k A->Env0 P w K mg base A outer s H->agZ s fd args (ps.zip us)->Vals vs us->sp vs H Q E ->
  adK (model P w) A (.call (.ref f) args) (CR CX outer P w H s Q E) s
def Env0.make{base:aaQ}{s:Io}(e:Env0 P w K mg base A outer s H)(C:Addr)(us:List Ad)(kw:List (Str×Ad)) :
  Env0 P w K mg base (A.under (.builtin "type.__call__" ⟨.ref C::us,kw⟩)) outer s H:=⟨by first|exact e.frames|(simpa[ pushEnvs]),e.mod,e.bs,e.bsz,e.funs,e.frf,e.hok,e.bare⟩
section
variable {X:Cx}{p:List (Addr×Obj)}{a:St}{H:Hp}{s s':Io}
def Inv.env0(I:Inv X p a H s):Env0 X.prog X.w X.K X.mg X.base X.A X.stack s H:=
 ⟨I.ok.frames,I.ok.mod,I.bs,aax I.ok.bsz I.sz,I.stack,I.stkFree,I.hok,I.bare⟩
theorem Inv.after{Q:VK}(I:Inv X p a H s)(h:CE X.stack X.prog X.w H s Q u s'):EP X p a Q u s':=by
 let⟨v,m,os,bare,un,hok,r,q⟩:=h;let⟨l,g,d,t,k⟩:=s';obtain rfl:k=s.os:=os;exact⟨v,m,I.call (h':=l) (g':=g) (d':=d) (t':=t) un hok bare (λb z=>absurd z (by simp)),r,q⟩
end
def VB(sp:Sp)(d:List V)(E:XK)(t:TA):TE:=λσ H Q=>t σ H λvs k=>sp (vs++d) k Q E
def Qk(C:Addr)(m:Str)(sp:Sp)(d:List V)(E:XK)(l:TE)(t:TA):TE:=λσ H Q=>l σ H λx k=>∃a dx fs,x = .ref a/\k a=some (.ins C dx fs)/\fs.lookup m=none/\
 t σ k λvs n=>sp (x::(vs++d)) n Q E
def VA(C:Addr)(sp:Sp)(d:List V)(E:XK)(t:TA):TE:=λσ H Q=>t σ H λvs k=>∀x dx,k x=none->k dx=none->dx≠x ->
 sp (.ref x::(vs++d)) (upd (upd k dx (.own x)) x (.ins C dx [])) (λv l=>v = .non/\Q (.ref x) l) E
def Binds(K:aad)(fd:abU)(ps:List Str)(ds:List Ad):Prop:=
 ∀(s:Io) (us:List Ad),K.In s.heap->(us++ds).length=ps.length->agZ s fd ⟨us,[]⟩ (ps.zip (us++ds))
def Binds.all{fd:abU}(h:∀us:List Ad,us.length=ps.length->adA fd ⟨us,[]⟩=pure (ps.zip us)):Binds K fd ps []:=λs us _ d=>by
 rw[aaZ]at d⊢;exact .of_eq (h us d)
def kh(CX:CXT)(X:Cx)(E:XK):Prop:=∀(pins:List (Addr×Obj)) (σ:St) (H:Hp) (s:Io) (e:Ad) (d:Io),Inv X pins σ H s->CX X.stack H s E e d->X.xe e d
section
variable {X:Cx}{CX:CXT}{k:Nat}{f C:Addr}{fd:abU}{ps:List Str}{sp:Sp}{dvs:List V}{ds:List Ad}{E:XK}{x m:Str}{p pos apos:Pos}{e o:Expr}{es:List Expr}{ta:TE}{t:TA}
theorem zQ{s:Io}{Q:VK}(F:FnOk X.prog X.w X.K X.mg X.base CX k f fd ps sp)(z:Room k X.A)(n:Binds X.K fd ps ds)(hd:Vals dvs ds)(q:kh CX X E)
  (I:Inv X pins σ H s) (r:Vals vs us) (h:sp (vs++dvs) H Q E):wpAny (model X.prog X.w) X.A (call (.ref f) us) (EP X pins σ Q) X.xe s:=by
 have l:=r.append hd;have y:(us++ds).length=ps.length:=by rw[<-l.length];exact F.len _ _ _ _ h
 refine wpAny_call (ad2 (F.run X.A X.stack s H _ _ _ Q E z I.env0 (n s us I.kIn y) l h) λr B d=>?_)
 cases r with
 |error e=>exact q pins σ H s e B I d
 |ok D=>
  cases D with
  |ret u=>exact I.after d
  |next=>exact acf d
  |brk=>exact acf d
  |cont=>exact acf d
theorem NG(F:FnOk X.prog X.w X.K X.mg X.base CX k f fd ps sp)(B:Room k X.A)(z:Gl X x)(J:X.mg x=some (.ref f))(L:abJ X.K (.ref f)=true)(G:Binds X.K fd ps ds)(hd:Vals dvs ds)(y:kh CX X E)
  (D:PA X (e::es) t) (l:(x==("__debug__" : Str))=false:=by decide) (O:aac (e::es) X.env=(false,eval e X.env)::aac es X.env:=by rfl) (d:(abn pos (aac es X.env)).any (·.1)=false:=by rfl) :
  PE X (.Call (.Name x p) (e::es) [] pos) (VB sp dvs E t):=by
 intro pins s σ H Q I h;refine acv (vk I z J ?_ l);refine aeT I.ok.mod.kin L (thn (D pos pins s σ H _ I h) λus s1 ⟨vs,R,n,r,q⟩=>⟨n.kIn,?_⟩) O d;exact zQ F B G hd y n r q
theorem O3(V:PE X o ta)(c:Cls X.K C)(B:Meth X.K C m f)(F:FnOk X.prog X.w X.K X.mg X.base CX k f fd ps sp)(L:Room k X.A)(T:Binds X.K fd ps ds)(hd:Vals dvs ds)(G:kh CX X E)(O:PA X (e::es) t)
  (n:aac (e::es) X.env=(false,eval e X.env)::aac es X.env:=by rfl) (d:(abn pos (aac es X.env)).any (·.1)=false:=by rfl)
  (D:eval (.Call (.Attribute o m apos) (e::es) [] pos) X.env=(do
   let ov <- eval o X.env
   acE apos.atName
   let (f,first) <- adl [ov] (aef ov m pl)
   agi pos f first (abn pos (aac (e::es) X.env)) (ac4 pos (abY [] X.env))):=by rfl) :
  PE X (.Call (.Attribute o m apos) (e::es) [] pos) (Qk C m sp dvs E ta t):=by
 intro pins s σ H Q I h;refine af9 (pl:=pl) (thn (V pins s σ H _ I h) λu s1 ⟨x,J,z,U,a,dx,fs,ex,S,l,q⟩=>?_) D;subst ex;obtain rfl:u=abk a:=U;refine oU z S c B l ?_;refine aeT (first:=[.ref a]) (h₀:=X.base) I.ok.mod.kin B.kp (thn (O pos pins s1 σ J _ z q) λus s2 ⟨vs,W,y,r,R⟩=>⟨y.kIn,?_⟩) n d;exact zQ (us:=.ref a::us) (vs:=.ref a::vs) F L T hd G y (.cons rfl r) R
theorem GC(L:PE X o ta)(c:Cls X.K C)(n:Meth X.K C m f)(F:FnOk X.prog X.w X.K X.mg X.base CX k f fd ps sp)(B:Room k X.A)(G:Binds X.K fd ps ds)(hd:Vals dvs ds)(z:kh CX X E)
  (y:eval (.Call (.Attribute o m apos) [] [] pos) X.env=(do
   let ov <- eval o X.env
   acE apos.atName
   let (f,first) <- adl [ov] (aef ov m pl)
   agi pos f first (abn pos (aac [] X.env)) (ac4 pos (abY [] X.env))):=by rfl) :
  PE X (.Call (.Attribute o m apos) [] [] pos) (Qk C m sp dvs E ta tNil):=by
 intro pins s σ H Q I h;refine af9 (pl:=pl) (thn (L pins s σ H _ I h) λu s1 ⟨x,O,d,J,a,dx,fs,ex,D,l,q⟩=>?_) y;subst ex;obtain rfl:u=abk a:=J;refine oU d D c n l ?_;exact PySem.W.callWith_K0 (first:=[.ref a]) d.kIn n.kp (zQ (us:=[.ref a]) (vs:=[.ref a]) F B G hd z d (.cons rfl .nil) q)
structure Mk(K:aad)(C f:Addr):Prop where
 makes:af2 K C=true
 init:abo K (.ref C) "__init__" = some (some (.ref f))
 fn:aeG K (.ref f)=true
 kp:abJ K (.ref C)=true
theorem IW{s:Io}{Q:VK}(M:Mk X.K C f)(F:FnOk X.prog X.w X.K X.mg X.base CX k f fd ps sp)(G:Room (k+1) X.A)(J:Binds X.K fd ps ds)(hd:Vals dvs ds)
  (D:kh CX X E) (I:Inv X pins σ H s) (r:Vals vs us)
  (h:∀x dx,H x=none->H dx=none->dx≠x->sp (.ref x::(vs++dvs)) (upd (upd H dx (.own x)) x (.ins C dx [])) (λv L=>v = .non/\Q (.ref x) L) E) :
  wpAny (model X.prog X.w) X.A (call (.ref C) us) (EP X pins σ Q) X.xe s:=by
 have q:=h (s.heap.objs.size+1) s.heap.objs.size (I.hok.fresh (afc _)) (I.hok.fresh (Mt _)) (aaU (abu _));have l:=Inv.made (C:=C) I;have n:Vals (V.ref (s.heap.objs.size+1)::(vs++dvs)) (abk (s.heap.objs.size+1)::(us++ds)):=.cons rfl (r.append hd);have O:(abk (s.heap.objs.size+1)::us++ds).length=ps.length:=by
  have e:=n.length;rw[F.len _ _ _ _ q]at e;exact e.symm
 refine wpAny_call (F9 (f:=f) I.kIn M.makes M.init (beq_iff_eq.mp M.fn) (ad2 (F.run _ X.stack _ _ ⟨abk (s.heap.objs.size+1)::us,[]⟩ (abk (s.heap.objs.size+1)::(us++ds)) _ _ E (G.make C us [])
  (l.env0.make C us []) (J _ (abk (s.heap.objs.size+1)::us) l.kIn O) n q) λr y d=>?_))
 cases r with
 |error e=>exact D pins σ _ _ e y l d
 | ok U=>
  cases U with
  |ret u=>
   let⟨v,S,B,T,z,R⟩:=l.after d;subst z;exact⟨T,⟨V.ref (s.heap.objs.size+1),S,B,rfl,R⟩⟩
  |next=>exact acf d
  |brk=>exact acf d
  |cont=>exact acf d
theorem O7(M:Mk X.K C f)(F:FnOk X.prog X.w X.K X.mg X.base CX k f fd ps sp)(B:Room (k+1) X.A)(z:Gl X x)(J:X.mg x=some (.ref C))(G:Binds X.K fd ps ds)(hd:Vals dvs ds)(y:kh CX X E)
  (D:PA X (e::es) t) (l:(x==("__debug__" : Str))=false:=by decide) (L:aac (e::es) X.env=(false,eval e X.env)::aac es X.env:=by rfl) (d:(abn pos (aac es X.env)).any (·.1)=false:=by rfl) :
  PE X (.Call (.Name x p) (e::es) [] pos) (VA C sp dvs E t):=by
 intro pins s σ H Q I h;refine acv (vk I z J ?_ l);refine aeT (h₀:=X.base) I.ok.mod.kin M.kp (thn (D pos pins s σ H _ I h) λus s1 ⟨vs,O,n,r,q⟩=>⟨n.kIn,?_⟩) L d;exact IW M F B G hd y n r q
end
structure ah(N P:List Str)(sc:Scope):Prop where
 kind:sc.kind = .function
 co:sc.isCoroutine=false
 gen:sc.isGenerator=false
 nd:N.Nodup
 pre:N.take P.length=P
 par:∀x∈P,sc.names.lookup x=some .local\/sc.names.lookup x=some .cell
 nofree:∀y∈sc.names,y.2≠.free
theorem uf{k:Str->Option aep}{x:Str}:∀{binds:List (Str×Ad)}{m:Str->Option Ad},(∀v,(x,v)∉binds)->bindL k binds m x=m x
 |[],_,_=>rfl
 | (n,v)::r,m,h=>by
  unfold bindL;rw[uf λw d=>h w (aab _ d)];split
  .have:x≠n:=by rintro rfl;exact h v aaa
   simp[this]
  .rfl
theorem uD{k:Str->Option aep}{x:Str}:∀{binds:List (Str×Ad)}{m:Str->Option Ad},(∀v,(x,v)∉binds)->bindC k binds m x=m x
 |[],_,_=>rfl
 | (n,v)::r,m,h=>by
  unfold bindC;rw[uD λw d=>h w (aab _ d)];split
  .rfl
  .have:x≠n:=by rintro rfl;exact h v aaa
   simp[this]
theorem tZ{k:Str->Option aep}{x:Str}{v:Ad}:∀{P:List Str}{vs:List Ad}{i:Nat}{m:Str->Option Ad},P.Nodup->P[i]?=some x->vs[i]?=some v->k x=some .local ->
  bindL k (P.zip vs) m x=some v
 |[],_,_,_,_,h,_,_=>by simp at h
 |_::_,[],_,_,_,_,h,_=>by simp at h
 |p::P,w::vs,0,m,nd,h1,h2,hk=>by
  simp at h1 h2;subst h1;subst h2;show bindL k ((p,w)::P.zip vs) m p=_;unfold bindL;rw[uf λv d=>(aa5.mp nd).1 (af3 d).1,if_pos hk];simp
 |p::P,w::vs,i+1,m,nd,h1,h2,hk=>by
  unfold bindL;exact tZ (aa5.mp nd).2 ‹_› ‹_› hk
theorem uH{k:Str->Option aep}{x:Str}{v:Ad}:∀{P:List Str}{vs:List Ad}{i:Nat}{m:Str->Option Ad},P.Nodup->P[i]?=some x->vs[i]?=some v->k x≠some .local ->
  bindC k (P.zip vs) m x=some v
 |[],_,_,_,_,h,_,_=>by simp at h
 |_::_,[],_,_,_,_,h,_=>by simp at h
 |p::P,w::vs,0,m,nd,h1,h2,hk=>by
  simp at h1 h2;subst h1;subst h2;show bindC k (_::P.zip vs) m p=_;unfold bindC;rw[uD λv d=>(aa5.mp nd).1 (af3 d).1,if_neg hk];simp
 |p::P,w::vs,i+1,m,nd,h1,h2,hk=>by
  unfold bindC;exact uH (aa5.mp nd).2 ‹_› ‹_› hk
def start(N:List Str)(vs:List V):St:=vs.map some++aaz (N.length-vs.length) none
def cxOf(CX:CXT)(P:aaI)(w:World)(K:aad)(mg:Str->Option Ad)(base:aaQ)(N:List Str)(q:Str)(scope:Scope)(f:Addr)(k:Ad)(A:abc)(outer:List Env)(s:Io)(H:Hp)(E:XK):Cx where
 prog:=P
 w:=w
 K:=K
 mg:=mg
 base:=base
 A:=A.deeper (ad3 q scope s.heap.objs.size f k)
 N:=N
 s₀:=s
 H₀:=H
 env:=ad3 q scope s.heap.objs.size f k
 outer:=outer
 stack:=ad3 q scope s.heap.objs.size f k::outer
 ex:=[]
 calm:=true
 fn:=λ_=>true
 pn:=[]
 xe:=λe l=>wpAny (model P w) (A.deeper (ad3 q scope s.heap.objs.size f k)) (leaving (ad3 q scope s.heap.objs.size f k) e) (λ_ d=>CX outer H s E e d) (λm d=>CX outer H s E m d) l
def yj{sc:Scope}{n:Nat}(h:sc.names.lookup x=some .cell):∃c,(cellsFrom n sc.names []).lookup x=some c:=by
 have q:=afK sc.names n [] (.inl h);exact adB.mp q
theorem Bp{CX:CXT}{base:aaQ}{d:Str}{f:Addr}{G:Ad}{s s1:Io}{E:XK}
  (S:ah N ps scope) (hd:A.handled=none) (m:Env0 P w K mg base A outer s H) (Y:vs.length=ps.length) (r:Vals vs us)
  (x:InCallC s s.heap.objs.size (bindL (ad3 d scope s.heap.objs.size f G).kindOf (ps.zip us) λ_=>none) (cellsFrom (s.heap.objs.size+1) scope.names []) (bindC (ad3 d scope s.heap.objs.size f G).kindOf (ps.zip us) λ_=>none) s1) :
  Inv (cxOf CX P w K mg base N d scope f G A outer s H E) [] (start N vs) H s1:=by
 have R:ps.length≤N.length:=by have:=congrArg ab9 S.pre;rw[aaB]at this;omega
 let⟨I,V,rfl,O⟩:=x.done;have t:∀b:Addr,b∉(cxOf CX P w K mg base N d scope f G A outer s H E).ex:=λb z=>absurd (show b∈([]:List Addr)from z) (by simp);refine⟨⟨m.mod,S.kind,rfl,rfl,Mt _,λy z c I l=>?_,λy D=>?_,λy c _ h=>?_,λ_=>hd,abc.frames_deeper m.frames,.inr ⟨rfl,rfl⟩,λb z=>absurd z (t b),m.bs,m.bsz,λb _ _=>t b,λb z=>absurd z (t b),m.funs,m.frf⟩,
  rfl,m.bare,Un.kept O,⟨_,x.toInCall.ns,λi y v I l W=>?_⟩,λy c h=>⟨_,x.cell y c h⟩,m.hok.fresh (Mt _),λy c h=>?_,λp F=>absurd (show p∈([]:List (Addr×Obj))from F) (by simp),m.hok.kept O,?_⟩
 .exact name_of_addr x.apart (acg I) (acg l)
 .rcases D with D|D
  .exact yj D
  .exact absurd rfl (S.nofree _ (acg D))
 .exact acD (x.above y c (acg h))
 .have J:i<vs.length:=by
   unfold start at l
   by_cases J:i<vs.length
   .exact J
   .rw[aav (by simpa using J)]at l;rw[adU]at l
    split at l<;>cases l
  have T:vs[i]?=some v:=by
   unfold start at l;rw[aaD (by simpa using J),aao]at l
   cases e:vs[i]? with
   |none=>rw[e]at l;cases l
   |some a=>rw[e]at l;cases l;rfl
  let⟨u,L,U⟩:=r.get T;have F:ps[i]?=some y:=by
   rw[<-S.pre,List.getElem?_take_of_lt (by omega)];exact I
  have B:ps.Nodup:=by rw[<-S.pre];exact S.nd.sublist (List.take_sublist _ _)
  refine⟨u,U,?_⟩;rcases S.par y (Ld F)with k|k
  .exact .inl ⟨k,tZ B F L k⟩
  .obtain⟨c,e⟩:=yj (n:=s.heap.objs.size+1) k;refine .inr ⟨.inl k,c,e,?_⟩;have q:=x.cell y c e;rw[uH B F L (by show scope.names.lookup y≠_;rw[k];decide)]at q;exact q
 .exact m.hok.fresh (acD (x.above y c (acg h)))
 .unfold start;show _=N.length;rw[aal,iO,ac8];omega
theorem YV{CX:CXT}{base:aaQ}{k:Nat}{f:Addr}{name d:Str}{p:Arguments}{dV kV L pm l ct oc:Ad}{an od:Option Addr}
  {T:Array (Option Ad)}{sp:Sp} (lk:K.lookup f=some ⟨oc,od,.func (abe name d p body scope dV kV L pm an l ct),T⟩) (Z:adh K l d=true) (S:ah N ps scope)
  (len:∀vs H Q E,sp vs H Q E->vs.length=ps.length)
  (D:∀(A:abc) (outer:List Env) (s:Io) (H:Hp) (vs:List V) (Q:VK) (E:XK),Room k (A.deeper (ad3 d scope s.heap.objs.size f l))->sp vs H Q E ->
   ∃t,PSs (cxOf CX P w K mg base N d scope f l A outer s H E) body t/\t {nx:=λ_ z=>Q .non z,rt:=Q} (start N vs) H) :
  FnOk P w K mg base CX (k+1) f (abe name d p body scope dV kV L pm an l ct) ps sp:=by
 refine⟨len,λA outer s H args us vs Q E Y O hb r R=>?_⟩;have hl:=len _ _ _ _ R;have KX:K.In s.heap:=O.mod.kin.keeps λb o e=>(O.bs b o e).1;have U:s.heap.NoLimit:=O.mod.nolimit.keeps λb o e=>(O.bs b o e).1;have B:∀y∈ps.zip us,scope.names.lookup y.1=some .local\/(scope.names.lookup y.1=some .cell/\((cellsFrom (s.heap.objs.size+1) scope.names []).lookup y.1).isSome=true):=by
  intro⟨n,v⟩ hy;rcases S.par n (af3 hy).1 with q|q
  .exact .inl q
  .exact .inr ⟨q,afK _ _ _ (.inl q)⟩
 refine codeAny_call_function Y.depth (KX _ _ lk) rfl S.co S.gen rfl (PySem.W.codeRec_of KX Z) (hb _ _ _ _ ?_);refine wpAny_newFunctionEnv_cells S.kind B λenv he s1 x=>?_;subst he;refine⟨U.keeps x.toInCall.keep,codeAny_func ?_⟩;let⟨t,ht,hq⟩:=D A outer s H vs Q E (Y.deeper _) R;have I:Inv (cxOf CX P w K mg base N d scope f l A outer s H E) [] (start N vs) H s1:=Bp S Y.hd O hl r x;refine acr (ht [] s1 (start N vs) H _ I hq) (λfl W F=>?_) λe W F=>F;have G:∀{m:St}{z:Hp}{v:V}{u:Ad},Inv (cxOf CX P w K mg base N d scope f l A outer s H E) [] m z W->RelV v u->Q v z->CE outer P w H s Q u W:=
  λ{m z v u} J rv q=>⟨v,z,J.os,J.bare,J.base,J.hok,rv,q⟩
 cases fl with
 |ret u=>
  let⟨v,m,z,J,rv,q⟩:=F;exact G J rv q
 |next=>
  let⟨m,z,J,q⟩:=F;exact G (v:=V.non) (u:=afG) J rfl q
 |brk=>
  let⟨_,_,_,q⟩:=F;exact acf q
 |cont=>
  let⟨_,_,_,q⟩:=F;exact acf q
section
variable {X:Cx}{x:Str}{p pos:Pos}{e:Expr}{a:List Expr}{t:TA}{id T:String}{r:List V->Hp->VK->Prop}
def tCB(r:List V->Hp->VK->Prop)(t:TA):TE:=λσ H Q=>t σ H λvs d=>r vs d Q
theorem w5(D:d3 X (.builtin id) r)(n:Gl X x)(F:X.mg x=none)(l:aaO x=some (.builtin id))(z:PA X (e::a) t)(m:x ≠ "__name__":=by decide)(k:(x==("__debug__" : Str))=false:=by decide)
  (G:aac (e::a) X.env=(false,eval e X.env)::aac a X.env:=by rfl) (d:(abn pos (aac a X.env)).any (·.1)=false:=by rfl):PE X (.Call (.Name x p) (e::a) [] pos) (tCB r t):=by
 intro pins s σ H Q I h;refine acv (kl I n F l ?_ m k);exact aeg (thn (z pos pins s σ H _ I h)<|by intro us s1 ⟨vs,y,B,r1,q⟩;exact D pins s1 σ y vs us Q B r1 q) G d
theorem zH(D:d3 X (.type T) r)(n:Gl X x)(F:X.mg x=none)(l:aaO x=some (.type T))(z:PA X (e::a) t)(m:x ≠ "__name__":=by decide)(k:(x==("__debug__" : Str))=false:=by decide)
  (G:aac (e::a) X.env=(false,eval e X.env)::aac a X.env:=by rfl) (d:(abn pos (aac a X.env)).any (·.1)=false:=by rfl):PE X (.Call (.Name x p) (e::a) [] pos) (tCB r t):=by
 intro pins s σ H Q I h;refine acv (kl I n F l ?_ m k);exact acl (thn (z pos pins s σ H _ I h) λus s1 ⟨vs,y,B,r1,q⟩=>D pins s1 σ y vs us Q B r1 q) G d
end
end L2
namespace HT
open PySem PyProof.Rows
variable{Q:Ad->Io->Prop}{hi lo:Option Int}
section
variable {prog:aaI}{w:World}{A:abc}{E:Ad->Io->Prop}{s:Io}
theorem cat_tup{t b:Addr}{vs a:List Ad}(r:IsTup s.heap t vs.toArray)(v:IsTup s.heap b a.toArray)(q:vs≠[])
  (u:a=[]->Q (.ref t) s) (x:a≠[]->Q (.ref s.heap.objs.size) {s with heap:=s.heap.push {cls:=.type "tuple",data:=.seq (vs++a).toArray} })
  (hsz:vs.length+a.length≤aam):wpAny (model prog w) A (ab8 .Add (.ref t) (.ref b)) Q E s:=by
 let⟨⟨cls,m,data,l⟩,i,o,n,hd⟩:=id r;let⟨⟨p,d,j,c⟩,h,g,n2,f⟩:=id v;simp only at o hd g f;subst o hd g f;have e:vs.toArray++a.toArray=(vs++a).toArray:=by simp
 by_cases k:a=[]
 .exact afL ⟨_,i,rfl⟩ ⟨_,h,rfl⟩ afz agD ad4 adV (adC _ _)
   (tuple_addW1 t b vs.toArray a.toArray n n2 m d l c (by simpa) (by simp[k])) ⟨i,h,u k⟩
 .refine afL ⟨_,i,rfl⟩ ⟨_,h,rfl⟩ afz agD ad4 adV (adC _ _)
   (tuple_addW2 t b vs.toArray a.toArray n n2 m d l c (by simpa using q) (by simpa) ‹_›) ⟨i,h,?_⟩
  rw[e];exact x k
def sIx(n d:Nat):Option Int->Nat
 |none=>d
 |some v=>if v<0 then(v+(n:Int)).toNat else min v.toNat n
def sIx_none(n d:Nat):sIx n d none=d:=rfl
def sIx_nat(n d k:Nat):sIx n d (some (k:Int))=min k n:=rfl
theorem UZ(n d:Nat)(hd:d≤n)(o:Option Int):sIx n d o≤n:=by
 cases o with
 |none=>exact hd
 |some v=>
  show(if v<0 then(v+n).toNat else min v.toNat n)≤n
  by_cases h:v<0
  .grind
  .rw[if_neg h];exact afA _ _
theorem zG(v:Int)(n d:Nat):(if v<0 then max (v+(n:Int)) 0 else min v (n:Int))=((sIx n d (some v):Nat):Int):=by
 show _=(((if v<0 then(v+_).toNat else min v.toNat n):Nat):Int)
 grind
theorem yX(lo hi:Option Int)(n:Nat):ae7 lo hi 1 (n:Int)=(((sIx n 0 lo:Nat):Int),((sIx n n hi:Nat):Int)):=by
 refine aeU ?_ ?_
 .cases lo with
  |none=>rfl
  |some v=>exact zG v n 0
 .cases hi with
  |none=>rfl
  |some v=>exact zG v n n
theorem yT(i j:Nat):adr (i:Int) (j:Int) 1=j-i:=by
 unfold adr
 grind
theorem qb{v:Ad}{o:Option Int}{Q:Option Int->Io->Prop}(p:afM v o)(h:Q o s):wpAny (model prog w) A (adc.Slice.slicePartIndex v) Q E s:=by
 cases p with
 |none=>exact slicePart_none h
 |int i t=>exact slicePart_int h
def gl{sl:Addr}{vl v:Ad}{n:Nat}{Q:Int×Int×Nat->Io->Prop}(d:s.heap.IsSliceOf sl vl v .none)(pl:afM vl lo)(p:afM v hi)
  (h:Q (((sIx n 0 lo:Nat):Int),1,sIx n n hi-sIx n 0 lo) s):wpAny (model prog w) A (adc.Slice.sliceApplied (.ref sl) (pure (n:Int))) Q E s:=by
 let⟨os,a,c,b⟩:=id d;refine gT (gT (aa7 a b (x:=vl) rfl (gT (aa7 a b (x:=v) rfl (gT (aa7 a b (x:=.none) rfl (LD ?_)))))));refine gT (slicePart_none ?_);refine gT (qb pl (gT (qb p (gT (LD ?_)))));show wpAny _ _ (match ae7 lo hi 1 (n:Int)with|(lo,hi)=>pure (lo,(1:Int),adr lo hi 1)) _ _ s;rw[yX lo hi n];show wpAny _ _ (pure _) _ _ s;rw[yT];exact LD h
def Ie(xs:Array Ad)(i k:Nat):((aaL k).filterMap λ(m:Nat)=>xs[((i:Int)+(m:Int)*1).toNat]?).toArray=((xs.toList.drop i).take k).toArray:=by
 have e:(λ(m:Nat)=>xs[(i+(m:Int)*1).toNat]?)=λm=>xs[i+m]?:=by
  funext m
  have:(i+(m:Int)*1).toNat=i+m:=by omega
  rw[this]
 rw[e];have:=pick_run xs i k;rw[agI]at this;have a:(_∘λx=>i+x)=λm=>xs[i+m]?:=rfl;rw[a]at this;rw[this]
theorem getItem_tuple_cut{t sl:Addr}{items:Array Ad}{vl v:Ad}(b:IsTup s.heap t items)(g:s.heap.IsSliceOf sl vl v .none)(pl:afM vl lo)(p:afM v hi)
  (k:¬(sIx items.size 0 lo=0/\sIx items.size items.size hi=items.size))
  (h:Q (.ref s.heap.objs.size) {s with heap:=s.heap.push {cls:=.type "tuple",data:=.seq ((items.toList.drop (sIx items.size 0 lo)).take (sIx items.size items.size hi-sIx items.size 0 lo)).toArray} })
  (hsz:items.size≤aam):wpAny (model prog w) A (ael (.ref t) (.ref sl)) Q E s:=by
 have a:sizeOk (.seq ((items.toList.drop (sIx items.size 0 lo)).take (sIx items.size items.size hi-sIx items.size 0 lo)).toArray):=by
  show((items.toList.drop (sIx items.size 0 lo)).take (sIx items.size items.size hi-sIx items.size 0 lo)).toArray.size≤aam;rw[aaK,aaB,aeh,abW];omega
 have j:sIx items.size items.size hi≤items.size:=UZ _ _ (Mt _) hi;let⟨os,f,e,i⟩:=id g;have d:s.TypeIs (.ref sl) "slice":=⟨os,f,e⟩;unfold ael
 try with_reducible refine abR ?_
 first|refine gT (LD ?_)|skip
 refine gT (afd b.typeIs (by decide) ?_);refine gT (aaT (name:=abO "__getitem__") b.typeIs abl
  (aa2 abl b.typeIs entry_tuple_getitem ?_ (args_tuple_getitem _ _)))
 show wpAny _ _ (adi (.ref t) >>= _) _ _ s;refine gT (agE b ?_);refine gT (acV d ?_);rw[if_pos (by decide)];refine gT (gl g pl p ?_);have c:¬((((sIx items.size 0 lo:Nat):Int)==0&&(1:Int)==1&&(sIx items.size items.size hi-sIx items.size 0 lo)==items.size)=true):=by
  grind
 show wpAny _ _ (if (((sIx items.size 0 lo:Nat):Int)==0&&(1:Int)==1&&(sIx items.size items.size hi-sIx items.size 0 lo)==items.size)=true then _ else _) _ _ s;rw[if_neg c,Ie]
 first
  |exact gT (m:=abK _) (aa9 (LD ⟨_,rfl,LD h⟩) a)
  |exact gT (m:=abK _) (aa9 (gT (LD (LD ⟨_,rfl,LD h⟩))) a)
  |exact gT (gT (m:=abK _) (aa9 (LD (LD ⟨_,rfl,LD h⟩)) a))
  |exact gT (gT (m:=abK _) (aa9 (LD ⟨_,rfl,LD h⟩) a))
end
end HT
namespace L2
open PySem PySem.Spec PyProof.Rows
variable{n:Nat}{α:Type}{its:List Ad}
abbrev TO:=St->Hp->(Option Int->Hp->Prop)->Prop
def PO(X:Cx)(e:Option Expr)(t:TO):Prop:=
 ∀(p:List (Addr×Obj)) (s:Io) (a:St) (H:Hp) (Q:Option Int->Hp->Prop),Inv X p a H s->t a H Q ->
  wpAny (model X.prog X.w) X.A (evalPart e X.env) (λu c=>∃o b,Inv X p a b c/\afM u o/\Q o b) X.xe s
def MF:TO:=λ_ H Q=>Q none H
def Yh(t:TE):TO:=λb H Q=>t b H λx a=>∃i,x = .int i/\Q (some i) a
theorem fq{ns:List Int}:∀{us:List Ad},Vals (ns.map V.int) us->aeH us ns:=by
 induction ns with
 |nil=>intro us r;cases r;exact .nil
 | cons n ns i=>
  intro us r
  cases r with
  |cons r1 a=>
   let⟨t,e⟩:=r1;subst e;exact .cons n t (i a)
section
variable {X:Cx}{e:Expr}{d:TE}{lo c:Option Expr}{tl f:TO}{pos g:Pos}
def P8:PO X none MF:=by
 intro p s a H Q I h;exact LD ⟨none,H,I,.none,h⟩
def Oo(h:PE X e d):PO X (some e) (Yh d):=by
 intro p s k H Q I l;refine thn (h p s k H _ I l) λu s1 ⟨x,b,j,r1,a⟩=>?_;let⟨i,rfl,q⟩:=a;let⟨t,rfl⟩:=r1;exact⟨some i,b,j,.int i t,q⟩
def SlR(X:Cx)(r:V->Option Int->Option Int->Hp->VK->Prop):Prop:=
 ∀(p:List (Addr×Obj)) (s:Io) (h:St) (H:Hp) (x:V) (v vl b:Ad) (lo c:Option Int) (a:Addr) (Q:VK),Inv X p h H s->RelV x v->s.heap.IsSliceOf a vl b .none->afM vl lo->afM b c->r x lo c H Q ->
  ∃T id,typeLookup (.type T) "__getitem__" = pure (some (.builtin id))/\s.TypeIs v T/\wpAny (model X.prog X.w) X.A (ael v (.ref a)) (EP X p h Q) X.xe s
def tSl(r:V->Option Int->Option Int->Hp->VK->Prop)(d:TE)(tl f:TO):TE:=λa H Q=>d a H λx i=>tl a i λl h=>f a h λu b=>r x l u b Q
def IZ{r:V->Option Int->Option Int->Hp->VK->Prop}(J:SlR X r)(N:PE X e d)(M:PO X lo tl)(y:PO X c f):PE X (.Subscript e (.Slice lo c none g) pos) (tSl r d tl f):=by
 intro p s i H Q I h;refine agJ (thn (N p s i H _ I h) λv s1 ⟨x,w,K,r1,E⟩=>?_);refine wpAny_Slice (thn (M p s1 i w _ K E) λvl s2 ⟨l,A,m,F,L⟩=>thn (y p s2 i A _ m L) λj a ⟨u,k,G,z,B⟩=>?_);refine LD ?_;have C:Inv X p i k {a with heap:=a.heap.push {cls:=.type "slice",data:=.fields #[vl,j,.none]} }:=G.kept (t':=a.toks) λb O q=>GT _ q;let⟨T,id,o,D,t⟩:=J p {a with heap:=a.heap.push {cls:=.type "slice",data:=.fields #[vl,j,.none]} } i k x v vl j l u a.heap.objs.size Q C r1 (aaQ.IsSliceOf.new ..) F z B;exact tail_any D o t rfl
def cutV(xs:List V)(lo c:Option Int):List V:=(xs.drop (HT.sIx xs.length 0 lo)).take (HT.sIx xs.length xs.length c-HT.sIx xs.length 0 lo)
def l6(xs:List V)(lo c:Option Int):(cutV xs lo c).length≤xs.length:=by
 unfold cutV;rw[aaB,aeh];omega
def rSlT(K:aad):V->Option Int->Option Int->Hp->VK->Prop:=λx lo c H Q=>∃a b,x = .ref a/\SqT K H a b/\
 ¬(HT.sIx b.length 0 lo=0/\HT.sIx b.length b.length c=b.length)/\∀p,H p=none->Q (.ref p) (upd H p (.tup (cutV b lo c)))
theorem TW:SlR X (rSlT X.K):=by
 intro p s C H x v vl B lo c A Q I u y m t h;let⟨a,l,rfl,o,w,q⟩:=h;cases u;let⟨its,r,j,k⟩:=I.tuple o;have i:its.toArray.size=l.length:=by rw[aaK];exact r.length.symm
 refine⟨"tuple",_,abl.lookup,j.typeIs,?_⟩;refine HT.getItem_tuple_cut j y m t (by rw[i];exact w) ?_ (by rw[i];exact k);rw[i];refine⟨.ref s.heap.objs.size,_,I.laid (t':=s.toks) (λb z q=>GT _ q) (Mt _) ?_,rfl,q _ (I.hok.fresh (Mt _))⟩;exact⟨aax (l6 l lo c) k,_,(r.drop _).take _,PlainT.new _ _⟩
def Xz(K:aad):R2:=λx y H Q=>∃a b i h,x = .ref a/\y = .ref b/\SqT K H a i/\SqT K H b h/\i≠[]/\i.length+h.length≤aam/\
 (h=[]->Q (.ref a) H)/\(h≠[]->∀p,H p=none->Q (.ref p) (upd H p (.tup (i++h))))
theorem Vals.nil_iff{xs:List V}{us:List Ad}(r:Vals xs us):us=[]↔xs=[]:=by
 cases r with
 |nil=>simp
 |cons _ _=>simp
theorem NW:OpR X (ab8 .Add) (Xz X.K):=by
 intro p s F H x y v u Q I C l h;let⟨a,b,E,G,rfl,rfl,o,B,m,i,k,A⟩:=h;cases C;cases l;let⟨its,r1,t,_⟩:=I.tuple o;let⟨j,r,g,_⟩:=I.tuple B;refine HT.cat_tup t g (λz=>m (r1.nil_iff.mp z)) (λz=>⟨.ref a,H,I,rfl,k (r.nil_iff.mp z)⟩) (λz=>?_) (by rw[<-r1.length,<-r.length];exact i);refine⟨.ref s.heap.objs.size,_,I.laid (t':=s.toks) (λb D q=>GT _ q) (Mt _) ?_,rfl,A (λw=>z (r.nil_iff.mpr w)) _ (I.hok.fresh (Mt _))⟩;exact⟨by rw[aal];exact i,_,r1.append r,PlainT.new _ _⟩
end
def ixN(n:Nat)(i:Int):Option Nat:=if 0≤i then(if i<n then some i.toNat else none)else if -(n:Int)≤i then some (i+n).toNat else none
def atI{α:Type}(xs:List α)(i:Int):Option α:=(ixN xs.length i).bind λj=>xs[j]?
theorem MJ{i:Int}{j:Nat}(h:ixN n i=some j):seqIndex? i n=some j/\j<n/\-(n:Int)≤i/\i<n:=by
 unfold ixN at h
 by_cases b:0≤i
 .rw[if_pos b]at h
  by_cases a:i<n
  .rw[if_pos a]at h;have e:=aar h;exact⟨by rw[seqIndex_of b a,e],by omega,by omega,a⟩
  .simp_all
 .rw[if_neg b]at h
  by_cases a : -(n:Int)≤i
  .rw[if_pos a]at h;have e:=aar h;exact⟨by rw[seqIndex_neg (by omega) a,e],by omega,a,by omega⟩
  .simp_all
theorem v8{xs:List α}{i:Int}{v:α}(h:atI xs i=some v):∃j,seqIndex? i xs.length=some j/\xs[j]?=some v/\j<xs.length/\-(xs.length:Int)≤i/\i<xs.length:=by
 unfold atI at h
 cases e:ixN xs.length i with
 |none=>rw[e]at h;cases h
 |some j=>
  rw[e]at h;let⟨a,c,b,d⟩:=MJ e;exact⟨j,a,h,c,b,d⟩
theorem ca{xs:List α}{j:Nat}{v:α}(h:xs[j]?=some v):atI xs (j:Int)=some v:=by
 have a:=(AD.mp h).1;have e:ixN xs.length j=some j:=by
  unfold ixN
  simp_all
 unfold atI;rw[e];exact h
def k7(b:Expr):Prop:=∀o i,agj b false o i=operate [o,i] (ael o i)
def IxR(X:Cx)(r:R2):Prop:=
 ∀(b a:Expr) (p:List (Addr×Obj)) (s:Io) (c:St) (H:Hp) (x y:V) (v u:Ad) (Q:VK),Inv X p c H s->RelV x v->RelV y u->r x y H Q ->
  agj a false v u=operate [v,u] (ael v u)->wpAny (model X.prog X.w) X.A (agF b a v u) (EP X p c Q) X.xe s
def MtR(X:Cx)(id:String)(r:V->List V->Hp->VK->Prop):Prop:=
 ∀(p:List (Addr×Obj)) (s:Io) (a:St) (H:Hp) (x:V) (b:List V) (v:Ad) (u:List Ad) (Q:VK),Inv X p a H s->RelV x v->Vals b u->r x b H Q ->
  wpAny (model X.prog X.w) X.A (call (.builtin id) (v::u)) (EP X p a Q) X.xe s
section
variable {X:Cx}{a b:Expr}{k tb:TE}{pos:Pos}
def TM{r:R2}(j:IxR X r)(l:PE X a k)(f:PE X b tb)(m:k7 b):PE X (.Subscript a b pos) (tOp r k tb):=by
 intro p s e H Q I h;exact agJ (binT l f I h λv u s2 x y i c g d q=>j a b p s2 e i x y v u Q c g d q (m _ _))
def rIxL(K:aad):R2:=λx y H Q=>∃p c i v,x = .ref p/\y = .int i/\SqL K H p c/\atI c i=some v/\Q v H
def rIxT(K:aad):R2:=λx y H Q=>∃p c i v,x = .ref p/\y = .int i/\SqT K H p c/\atI c i=some v/\Q v H
def rIxS:R2:=λx y H Q=>∃z i c,x = .str z/\y = .int i/\z.length≤aam/\atI z.cps.toList i=some c/\Q (.str ⟨#[c]⟩) H
theorem Bz:IxR X (rIxL X.K):=by
 intro l e c s E H x y v u Q I F C h B;let⟨p,P,i,z,rfl,rfl,M,J,q⟩:=h;cases F;let⟨t,rfl⟩:=C;let⟨its,r,g,N⟩:=I.list M;let⟨j,d,G,R,K,D⟩:=v8 J;let⟨w,o,m⟩:=r.get G;have L:=r.length;have O:=ug;have f:EP X c E Q w s:=⟨z,H,I,m,q⟩
 by_cases A:0≤i
 .have hj:i.toNat=j:=by
   rw[seqIndex_of A D]at d;exact aar d
  exact item_listR g.isList A (by omega) (by rw[hj];simpa using o) f B
 .have hj:(i+(its.toArray.size:Int)).toNat=j:=by
   rw[seqIndex_neg (by omega) K]at d;rw[aaK,<-L];exact aar d
  exact afN (x:=w) g.isList.typeIs afe.lookup
   (wpAny_getItem_list_neg g.isList (by omega) (by simp_all) (by omega) (by rw[hj];simpa using o) ⟨rfl,f⟩) B
theorem Se:IxR X (rIxT X.K):=by
 intro e d c s A H x y v u Q I B m h G;let⟨p,L,i,z,rfl,rfl,F,D,q⟩:=h;cases B;let⟨t,rfl⟩:=m;let⟨its,r,l,J⟩:=I.tuple F;let⟨j,o,C,O,P,N⟩:=v8 D;let⟨w,M,g⟩:=r.get C;have E:=r.length;have K:=ug;have f:EP X c A Q w s:=⟨z,H,I,g,q⟩;exact afN l.typeIs slot_tuple_getitem.lookup
  (getItem_tuple l (by omega) (by omega) (by rw[aaK,<-E];exact o) (by simpa) ⟨rfl,f⟩) G
def U9:IxR X rIxS:=by
 intro e d p s J H x y v u Q I m r h D;let⟨z,i,c,rfl,rfl,E,w,q⟩:=h;let⟨t,rfl⟩:=m;let⟨G,rfl⟩:=r;let⟨j,f,o,K,A,l⟩:=v8 w;have B:z.cps.toList.length=z.length:=by simp[Str.length]
 rw[B]at f A l;have F:=ug;exact tail_any (afO s z t) slot_str_getitem.lookup (getItem_str (by
  have C:decide (i < -(2^63:Int))=false:=decide_eq_false (by omega);have g:decide (i≥2^63)=false:=decide_eq_false (by omega);rw[C,g,Bool.or_false]) (by rw[f];simpa using o) ⟨.str ⟨#[c]⟩,H,I.tok _,⟨_,rfl⟩,q⟩) D
theorem sY(lo c:Option Int)(n:Nat):(adW lo c none n).1=((HT.sIx n 0 lo:Nat):Int)/\(adW lo c none n).2.1=((HT.sIx n n c:Nat):Int)/\(adW lo c none n).2.2=1:=by
 refine⟨?_,?_,rfl⟩
 .cases lo with
  |none=>simp[adW,HT.sIx]
  |some i=>
   simp only[adW,HT.sIx,aha,show(1:Int)>0 by decide,if_true]
   by_cases h:i<0
   .simp only[h,if_true]<;>omega
   .simp only[h,if_false]<;>omega
 .cases c with
  |none=>simp[adW,HT.sIx]
  |some i=>
   simp[adW,HT.sIx,aha,show(1:Int)>0 by decide,if_true]
   by_cases h:i<0
   .simp only[h,if_true]<;>omega
   .simp only[h,if_false]<;>omega
def qL(its:List Ad)(lo h:Option Int):ahb its.toArray lo h none=((its.drop (HT.sIx its.length 0 lo)).take (HT.sIx its.length its.length h-HT.sIx its.length 0 lo)).toArray:=by
 let⟨e,d,c⟩:=sY lo h its.toArray.size;unfold ahb;rw[e,d,c];simp only[sliceRange_one,pick_run]<;>rfl
def rSlL(K:aad):V->Option Int->Option Int->Hp->VK->Prop:=λx l h H Q=>∃a c,x = .ref a/\SqL K H a c/\∀p,H p=none->Q (.ref p) (upd H p (.lst (cutV c l h)))
theorem Qb:SlR X (rSlL X.K):=by
 intro p s z H x v vl y l o w Q I m t f j h;let⟨a,g,rfl,i,q⟩:=h;cases m;let⟨its,r,d,e⟩:=I.list i;have c:=r.length;refine⟨"list",_,afe.lookup,d.isList.typeIs,?_⟩;refine afk d.isList t f j .none (by simp) ?_ (by grind);rw[qL,<-c];refine⟨.ref s.heap.objs.size,_,I.laid (t':=s.toks) (λb u q=>GT _ q) (Mt _) ?_,rfl,q _ (I.hok.fresh (Mt _))⟩;exact⟨aax (l6 g l o) e,_,0,(r.drop _).take _,aak _ rfl⟩
theorem km:d3 X (.builtin "len") (λxs H Q=>∃p ys,xs=[.ref p]/\(SqL X.K H p ys\/SqT X.K H p ys)/\Q (.int ys.length) H):=by
 intro e s i H xs g Q I r h;let⟨p,ys,rfl,d,q⟩:=h;let⟨u,rfl,f⟩:=Jj r;cases f;have j:=ug;rcases d with d|d
 .obtain⟨its,r',pl,hz⟩:=I.list d;have c:=r'.length;exact Calls.call_len_list pl.isList (by simp only[aaK]<;>omega) ⟨.int ys.length,H,I.tok _,⟨s.toks+1,by rw[aaK,c]⟩,q⟩
 .obtain⟨its,r',pl,hz⟩:=I.tuple d;have c:=r'.length;exact len_tuple pl (by simp only[aaK]<;>omega) ⟨.int ys.length,H,I.tok _,⟨s.toks+1,by rw[aaK,c]⟩,q⟩
def ud:d3 X (.builtin "len") (λxs H Q=>∃z,xs=[.str z]/\z.length≤aam/\Q (.int z.length) H):=by
 intro p s d H xs c Q I r h;let⟨z,rfl,e,q⟩:=h;let⟨u,rfl,t,rfl⟩:=Jj r;have f:=ug;exact len_str (by omega) ⟨.int z.length,H,I.tok _,⟨_,rfl⟩,q⟩
theorem rj:d3 X (.type "tuple") (λxs H Q=>∃p ys,xs=[.ref p]/\((SqL X.K H p ys/\∀l,H l=none->Q (.ref l) (upd H l (.tup ys)))\/(SqT X.K H p ys/\Q (.ref p) H))):=by
 intro g s v H xs t Q I r h;let⟨p,ys,rfl,h⟩:=h;let⟨u,rfl,m⟩:=Jj r;cases m;rcases h with⟨c,q⟩|⟨c,q⟩
 .obtain⟨its,r',pl,hz⟩:=I.list c;have d:=r'.length;refine call_tuple_list pl.isList (λj kp=>?_) (by simp_all);have f:=I.kept (t':=s.toks) kp;have i:=
   f.laid (t':=s.toks) (λb o e=>GT _ e) (Mt _) (show ObjOk X.prog X.w _ _ _ (.tup ys)from⟨hz,its,r',PlainT.new _ _⟩)
  exact⟨.ref j.objs.size,_,i,rfl,q _ (f.hok.fresh (Mt _))⟩
 .obtain⟨its,r',pl,hz⟩:=I.tuple c;exact call_tuple_same pl ⟨.ref p,H,I,rfl,q⟩
def tyV(K:aad)(T:String)(x:V)(H:Hp):Prop:=match x with
 | .str _=>T = "str"
 | .int _=>T = "int"
 | .ref p=>(T = "list"/\∃d,SqL K H p d)\/(T = "tuple"/\∃d,SqT K H p d) \/
   (T = "dict"/\((∃c,H p=some (.dK c))\/∃c,H p=some (.dT c)))\/(T = "set"/\∃S n,H p=some (.set S n))
 |_=>False
theorem UB{d:List (Addr×Obj)}{q:St}{H:Hp}{s:Io}{T:String}{x:V}{v:Ad}(I:Inv X d q H s)(r:RelV x v)(ty:tyV X.K T x H) :
  s.TypeIs v T/\∀a,v = .ref a->∃l,s.heap.get? a=some l/\l.dict=none:=by
 cases x with
 |str z=>
  let⟨t,rfl⟩:=r
  cases (show T = "str" from ty)
  exact⟨afO s z t,λ_ e=>nomatch e⟩
 |int i=>
  let⟨t,rfl⟩:=r
  cases (show T = "int" from ty)
  exact⟨afP s i t,λ_ e=>nomatch e⟩
 | ref p=>
  cases r;rcases ty with⟨rfl,m,j⟩|⟨rfl,m,j⟩|⟨rfl,h⟩|⟨rfl,S,n,h⟩
  .obtain⟨its,_,pl,_⟩:=I.list j;refine⟨pl.isList.typeIs,λa e=>?_⟩;cases e;let⟨o,n,e,c,hd,_⟩:=pl;exact⟨o,e,hd⟩
  .obtain⟨its,_,⟨o,e0,hc,hd,_⟩,_⟩:=I.tupleP j;refine⟨⟨o,e0,hc⟩,λa e=>?_⟩;cases e;exact⟨o,e0,hd⟩
  .have z:∃o,s.heap.get? p=some o/\o.ExactDict:=by
    rcases h with⟨f,h⟩|⟨f,h⟩
    .obtain⟨_,_,_,_,o,_,_,e,ex,_⟩:=I.hok p _ h;exact⟨o,e,ex⟩
    .obtain⟨_,_,_,_,o,_,_,e,ex,_⟩:=I.hok p _ h;exact⟨o,e,ex⟩
   let⟨o,e,ex⟩:=z;refine⟨⟨o,e,ex.1⟩,λa g=>?_⟩;cases g;exact⟨o,e,ex.2.1⟩
  .obtain⟨o,_,_,_,e,ex,_⟩:=I.hok p _ h;refine⟨⟨o,e,ex.1⟩,λa g=>?_⟩;cases g;exact⟨o,e,ex.2.1⟩
 |_=>exact acf ty
def tBM(K:aad)(T:String)(r:V->List V->Hp->VK->Prop)(to:TE)(t:TA):TE:=λc H Q=>to c H λx d=>tyV K T x d/\t c d λe f=>r x e f Q
variable {o e:Expr}{g:List Expr}{to:TE}{t:TA}{name:Str}{f d:Pos}{T id:String}{r:V->List V->Hp->VK->Prop}
theorem Pc(D:PlainAttrs T)(slot:Slot T name id)(m:agK (.builtin id)=pure (.type "method_descriptor"))(K:MtR X id r)(G:PE X o to)(B:PA X (e::g) t)
  (c:abv o name X.env (eval o X.env)=eval o X.env:=by rfl)
  (j:((abn d (aac (e::g) X.env)).all (λx=>!x.1)&&(ac4 d (abY [] X.env)).all (λx=>x.1.isSome)
   && decide ((e::g).length+([]:List adm).length+(if ([]:List adm).isEmpty then 0 else 1)<30))=true:=by rfl)
  (i:(f.endLine==d.line)=true:=by rfl) (N:aac (e::g) X.env=(false,eval e X.env)::aac g X.env:=by rfl) (l:(abn d (aac g X.env)).any (·.1)=false:=by rfl) :
  PE X (.Call (.Attribute o name f) (e::g) [] d) (tBM X.K T r to t):=by
 intro p s q H Q I h;refine wpAny_Call_method_late c j i rfl (thn (G p s q H _ I h) λv s1 ⟨x,A,w,r1,ty,y⟩=>?_);let⟨C,M⟩:=UB w r1 ty;refine⟨T,id,D,slot,m,C,M,?_⟩;have u:=B d p s1 q A _ w y;rw[N]at u⊢;refine afQ ‹_› (Calls.evalArgs_plain ?_);exact thn u<|by intro E s2 ⟨vs,L,z,J,F⟩;exact K p s2 q L x vs v E Q z r1 J F
end
def MtM(X:Cx)(id:String)(r:V->List V->Hp->VK->Prop):Prop:=
 ∀(p:List (Addr×Obj)) (s:Io) (a:St) (H:Hp) (x:V) (b:List V) (v:Ad) (u:List Ad) (Q:VK),Inv X p a H s->RelV x v->Vals b u->r x b H Q ->
  wpAny (model X.prog X.w) X.A (call (.builtin id) (v::u)) (EP X p a Q) X.xe s
theorem Vals.one:∀{x:V}{us:List Ad},Vals [x] us->∃u,us=[u]/\RelV x u
 |_,_,.cons r .nil=>⟨_,rfl,r⟩
theorem Vals.two:∀{x y:V}{us:List Ad},Vals [x,y] us->∃u v,us=[u,v]/\RelV x u/\RelV y v
 |_,_,_,.cons r (.cons q .nil)=>⟨_,_,rfl,r,q⟩
theorem Vals.rep{xs:List V}{us:List Ad}(h:Vals xs us):∀k:Nat,Vals (aaz k xs).flatten (aaz k us).flatten
 |0=>.nil
 |k+1=>by
  exact Vals.append h (Vals.rep h k)
theorem m7(its:List Ad):∀(k:Nat) (acc:List Ad),
  ahu (λa x=>a++x) acc.toArray (aaz k its.toArray)=(acc++(aaz k its).flatten).toArray
 |0,acc=>by simp
 | k+1,acc=>by
  have e:acc.toArray++its.toArray=(acc++its).toArray:=by simp
  have b:(acc++its)++(aaz k its).flatten=acc++(aaz (k+1) its).flatten:=by
   rw[ach,ag0,aa3]
  rw[<-b,<-m7 its k _,<-e,ach,aev]
section
variable {X:Cx}{p:List (Addr×Obj)}{a:St}{H:Hp}{s:Io}{l b:Addr}{xs ys c:List V}
def Inv.lset{its':List Ad}{f:Array Ad->Array Ad}{t':Nat}(I:Inv X p a H s)(k:H l=some (.lst xs))
  (e:s.heap.get? l=some {cls:=.type "list",data:=.seq its.toArray n}) (g:f its.toArray=its'.toArray) (h:Vals ys its') (i:ys.length≤aam) :
  Inv X p a (upd H l (.lst ys)) {s with heap:=s.heap.update l (acw f),toks:=t' }:=by
 have q:=PySem.IsL.update e f;rw[g]at q;refine I.write (by rw[k];exact trivial) (.inl rfl) (λm u d j=>(acW s.heap _ (abx d)).trans j) ⟨_,q⟩ ?_;exact⟨i,its',_,h,q⟩
def Inv.lnew{t':Nat}(I:Inv X p a H s)(h:Vals ys its)(d:ys.length≤aam) :
  Inv X p a (upd H s.heap.objs.size (.lst ys)) {s with heap:=s.heap.push {cls:=.type "list",data:=.seq its.toArray},toks:=t' }:=
 I.laid (λ_ _ q=>GT _ q) (Mt _) ⟨d,its,0,h,aak _ rfl⟩
def Inv.fresh(I:Inv X p a H s):H s.heap.objs.size=none:=I.hok.fresh (Mt _)
def Inv.lstM(I:Inv X p a H s)(h:H l=some (.lst xs)):xs.length≤aam/\∃(its:List Ad) (n:Nat),Vals xs its/\xs.length=its.length/\s.heap.get? l=some {cls:=.type "list",data:=.seq its.toArray n}:=by
 let⟨z,its,n,r,e⟩:=I.hok l _ h;exact⟨z,its,n,r,r.length,e⟩
def ym(h:n≤aam):adD n=false:=by
 exact decide_eq_false (by omega)
end
section
variable {X:Cx}
def RM:V->List V->Hp->VK->Prop:=λx vs H Q=>∃l a y,x = .ref l/\vs=[y]/\H l=some (.lst a)/\a.length<aam/\Q .non (upd H l (.lst (a++[y])))
theorem kQ:MtM X "list.append" RM:=by
 intro p s j H x vs v i Q I c d h;let⟨l,g,y,rfl,rfl,a,f,q⟩:=h;cases c;let⟨u,rfl,b⟩:=d.one;let⟨z,its,n,r,k,e⟩:=I.lstM a;refine acX F.slot_list_append ⟨_,e,rfl⟩ F.entry_list_append (F.args_list_append_2 _ _) (PySem.list_append l its.toArray n u (by grind)) ⟨e,?_⟩;refine⟨.non,_,I.lset (its':=its++[u]) a e (by simp) (r.append (.cons b .nil)) ?_,rfl,q⟩
 grind
def P7:V->List V->Hp->VK->Prop:=λx vs H Q=>∃l b a z,x = .ref l/\vs=[.ref b]/\H l=some (.lst a)/\H b=some (.lst z)/\a.length+z.length≤aam/\Q .non (upd H l (.lst (a++z)))
theorem D8:MtM X "list.extend" P7:=by
 intro p s D H x vs v C Q I o t h;let⟨l,b,A,B,rfl,rfl,d,k,y,q⟩:=h;cases o;let⟨u,rfl,f⟩:=t.one;cases f;let⟨z,its,n,r,E,e⟩:=I.lstM d;let⟨w,i,n2,m,g,j⟩:=I.lstM k;have c:its.toArray.size+i.toArray.size≤aam:=by rw[aaK,aaK];omega
 have a:¬(!its.toArray.isEmpty&&adD (its.toArray.size+i.toArray.size))=true:=by
  rw[ym c,agk];exact aai
 refine acX F.slot_list_extend ⟨_,e,rfl⟩ F.entry_list_extend (F.args_list_extend_2 _ _)
  (AutoSeq1.list_extend_list_list_0 l its.toArray n b i.toArray n2 a (by grind) (by omega)) ⟨e,j,?_⟩
 refine⟨.non,_,I.lset (its':=its++i) d e (by simp) (r.append m) ?_,rfl,q⟩;rw[aal];omega
def rRep:R2:=λx y H Q=>∃l k a,x = .ref l/\y = .int k/\H l=some (.lst a)/\-(2^63)≤k/\k<2^63/\a.length*k.toNat≤aam/\
 ∀p,H p=none->Q (.ref p) (upd H p (.lst (aaz k.toNat a).flatten))
def Cz(xs:List α)(k:Nat):(aaz k xs).flatten.length=k*xs.length:=by simp
theorem Sj:OpR X (ab8 .Mult) rRep:=by
 intro p s M H x y v u Q I D A h;let⟨l,k,K,rfl,rfl,C,B,E,i,q⟩:=h;cases D;let⟨t,rfl⟩:=A;let⟨z,its,n,r,G,e⟩:=I.lstM C;have c:its.toArray.size*k.toNat≤aam:=by rw[aaK,<-G];exact i
 have g:¬its.toArray.size*k.toNat>(2^63-1)/8:=by
  have:(aam:Nat)≤(2^63-1)/8:=by decide
  omega
 have d:¬(!adc.List.listFitsIndex k)=true:=by
  rw[fitsIndex_both B E];exact aai
 have b:¬adD (its.toArray.size*k.toNat)=true:=by
  rw[ym c];exact aai
 have f:ahu (λJ o=>J++o) #[] (aaz (if its.toArray.isEmpty=true then 0 else k.toNat) its.toArray)=(aaz k.toNat its).flatten.toArray:=by
  have w:=λm=>by
   have:=m7 its m [];rw[aba]at this;exact this
  rw[w]
  cases its with
  |nil=>simp
  |cons a L=>rw[if_neg (by simp)]
 refine ae8 (T:= "list") (U:= "int") (by decide) ⟨_,e,rfl⟩ (λj=>afP j k t) noFill_list_mul F.fills_int_mul F.slot_int_rmul repeat_list F.slot_int_index.lookup
  (acX F.slot_int_rmul (afP s k t) F.entry_int_rmul (F.args_int_rmul_2 _ _) (int___rmul___int_list k t l its.toArray n)
   ⟨e,rfl,⟨_,e,rfl⟩,acX F.slot_list_mul ⟨_,e,rfl⟩ F.entry_list_mul (F.args_list_mul_2 _ _) (AutoListH.list___mul___list_int_3 l its.toArray n k t d g b) ⟨e,?_⟩⟩)
 rw[f];exact⟨.ref _,_,I.lnew (t':=s.toks) (r.rep k.toNat) (by rw[Cz,aeI];exact i),rfl,q _ I.fresh⟩
end
end L2
namespace Att
open PySem PySem.W PySem.Calls PyProof.Rows
theorem mF{P:Params}{h:aaQ}:∀(ns:List Int) (vs:List Ad),WellAll P h vs (ns.map WData.int)->aeH vs ns:=by
 intro ns
 induction ns with
 |nil=>
  intro vs w;cases w;exact .nil
 | cons n ns i=>
  intro vs w
  cases w with
  |cons a b=>
   cases a;exact .cons _ _ (i _ b)
theorem Di{l:OpenLaw}{n:Nat}(j:l.most=some n){P:Params}{h:aaQ}{args:List WData}{v:List Ad}
  (b:l.row.toRowW.claim.pre args=true) (f:WellAll P h v args) :
  ∃a vs ns,v=[abk a]/\args=[WData.list (ns.map WData.int)]/\h.get? a=some {cls:=.type "list",data:=.seq vs.toArray}/\aeH vs ns/\ns.length≤n:=by
 have g:WShape.hasAll [] args [.list .int]=true:=(pre_splitW b).1;have m:l.pre.holds [] {args:=args}=true:=(pre_splitW b).2;let⟨d,r,rfl,k,q⟩:=hasAllW_cons g;obtain rfl:=hasAllW_nil q;let⟨x,rfl,o⟩:=hasW_list k;let⟨ns,rfl⟩:=items_int o;have c:ns.length≤n:=by
  have i:=by
   have i:=(holds_andW m).1;rw[j]at i;omega
  have t:=condW_of i (w_not (w_lt w_lit (w_len_list (w_arg rfl))))
  simp_all
 cases f with
 |cons w s=>
  cases s
  cases w with
  |list p e=>exact⟨_,_,ns,rfl,rfl,p,mF ns _ e,c⟩
def AF(l:OpenLaw)(args:List WData):l.row.toRowW.claim.post args (.bool true) args=true:=
 postW_of
  rfl
  (w_eq_bool (w_res rfl) w_lit) rfl
def attach_call{l:OpenLaw}{n:Nat}{q:aaI}{b:List Str}{X:(Str->Option Ad)->aaQ->Prop}{x:World->aaQ->Prop}{d:DefRec}
  (J:l.most=some n) (p:d.params.defaults=[])
  (call:∀(w:World) (s₀ s:Io) (mg m:Str->Option Ad) (j:Addr) (o:Obj) (pm k c:Ad) (a:Addr) (vs:List Ad) (ns:List Int),
   Ground q b [] X w s₀ mg m s.heap->x w s.heap ->
   s.heap.get? j=some o->o.data = .func (docDef d.name d.params d.body d.scope pm k c)->s.heap.CodeRec k d.name->mg d.name=some (.ref j) ->
   s.heap.get? a=some {cls:=.type "list",data:=.seq vs.toArray}->aeH vs ns->ns.length≤n->s.gens = #[] ->
   adK (model l.prog w) ags (.call (.ref j) ⟨[.ref a],[]⟩) (λr s'=>r = .ok (.ret (.bool true))/\OldK s.heap s'.heap/\s'.os=s.os/\afb s'.gens) s) :
  WalkO q b X x l.row.toRowW d [] (λf vs=>ahv f vs):=by
 intro w s₀ s mg m G Y j o pm k c C kV F hd t z v E B A O g y K u D;obtain rfl:C = .none:=Dflts.none z p;obtain rfl:kV = .none:=Dflts.noKw z;let⟨a,vs,ns,rfl,rfl,i,h,e⟩:=Di J g u;refine enter_call (ad2 (call w s₀ s mg m j o pm k c a vs ns G Y F (fd_plain hd) t v i h e E) λr s' I=>?_);let⟨rfl,N,L,H⟩:=I;exact⟨.inl ⟨.bool true,.bool true,[],rfl,λ_=>rfl,.bool true,AF l _,λ_=>⟨ag1,λ_ M=>(nomatch M)⟩⟩,N,L,H⟩
end Att
namespace L2
open PySem PySem.Spec PyProof.Rows
variable{P:MSt->Prop}{w:WS}{K:Kd}{mg:Str->Option Ad}{a l:Addr}{fd:abU}{qual x y:Str}{ns:List Int}{i j n nN q:Nat}{X:Cx}{st:Stmt}{f:String->Bool}{N ps:List Str}{od:Option Addr}{A B:Prop}{env:Env}{scope:Scope}{c e elt t tg:Expr}{p pos:Pos}{ifs:List Expr}{tb:TS}{J:It}{fp:List Addr}{tn:Nat->aaQ->Prop}{pins:List (Addr×Obj)}{σ σ':St}{H H' H0 H1 H2 Hb:Hp}{D:Ends}{E:Ad->Io->Prop}{Q:VK}{vs xs:List V}{b ds ds':List aD}{v:V}{ao:Ao}{α α' α1 β:Al}{τ:List (List Nat×Addr)}{r:R}{o o':WO}{op:CmpOp}{T:String}{sp:SpM}{ks:List Nat}{De:iy}{g:WG}{gs:WGs}{m1:MSt}{ob:R->Option Int->Option Int->MSt->(R->Prop)->Prop}{hi lo:Option Expr}{as:List Ag}{Ks:Src->MSt->Prop}
theorem m8:∀{vs:List Ad}{ns:List Int},aeH vs ns->Vals (ns.map V.int) vs
 |_,_,.nil=>.nil
 |_,_,.cons n t h=>.cons ⟨t,rfl⟩ (m8 h)
def Only(H:Hp):Prop:=∀b,H b=none\/∃o xs,H b=some (.frz o (.lst xs))
theorem Jc{P:aaI}{w:World}{K:aad}{mb:Str->Option Ad}{CX:CXT}{k:Nat}{fa:Addr}{sp:Sp}{C:Io}{vs:List Ad}
  (KX:K.In C.heap) (R:C.heap.Ns aay mg) (I:C.heap.Ns builtinsNs mb) (hbb:∀x:Str,x ≠ "__name__" -> mb x=aaO x) (Y:C.heap.NoLimit) (hsy:∃m,C.heap.Ns abA m) (hg:C.gens = #[])
  (ha:C.heap.get? a=some {cls:=.type "list",data:=.seq vs.toArray}) (hi:aeH vs ns) (hl:ns.length≤aam) (hr:Room k ags)
  (F:∀base:aaQ,K.In base->base.Ns aay mg->FnOk P w K mg base CX k fa fd [x] sp) (O:∀(s:Io) (u:Ad),agZ s fd ⟨[u],[]⟩ [(x,u)])
  (hsp:∀H:Hp,Only H->SqL K H a (ns.map V.int)->sp [.ref a] H (λv _=>v = .bl true) λ_ _ _=>False)
  (hCX:∀H e s',CX [] H C (λ_ _ _=>False) e s'->False) :
  adK (model P w) ags (.call (.ref fa) ⟨[.ref a],[]⟩) (λr s'=>r = .ok (.ret (.bool true))/\OldK C.heap s'.heap/\s'.os=C.os/\afb s'.gens) C:=by
 have rv:=m8 hi;have S:=hi.length;have M:∀H:Hp,Only H->SqL K H a (ns.map V.int)->HOk P w H C.heap->(∀b,H b≠none->b=a)->(H a≠none->K.lookup a=none) ->
   adK (model P w) ags (.call (.ref fa) ⟨[.ref a],[]⟩) (λr s'=>r = .ok (.ret (.bool true))/\OldK C.heap s'.heap/\s'.os=C.os/\afb s'.gens) C:=by
  intro H hO hS hok hA hK;have G:∀{b:Addr}{o:Obj},C.heap.get? b=some o->H b=none->(hidT C.heap H).get? b=some o:=λe n=>JO e n;have noA:∀{b:Addr}{o:Obj}{W:Array ab2}{Z:Nat},C.heap.get? b=some o->o.data = .dict W Z->H b=none:=λ{b o W Z} e d=>by
   cases q:H b with
   |none=>rfl
   |some u=>
    have e':b=a:=hA b (by rw[q];simp);subst e';rw[ha]at e;cases e;have d':Data.seq vs.toArray _=Data.dict W Z:=d;cases d'
  have L:∀{b:Addr}{m:Str->Option Ad},C.heap.Ns b m->(hidT C.heap H).Ns b m:=λ{b m} ⟨o,W,Z,e,d,r⟩=>⟨o,W,Z,G e (noA e d),d,r⟩;have hKb:K.In (hidT C.heap H):=λb o e=>G (KX b o e) (by
   cases q:H b with
   |none=>rfl
   |some u=>
    have e':b=a:=hA b (by rw[q];simp);subst e';rw[hK (by rw[q];simp)]at e;cases e)
  have hM:Mod K mg (hidT C.heap H):=⟨hKb,L R,⟨mb,L I,hbb⟩,let ⟨mc,h1,h2⟩:=Y;⟨mc,L h1,h2⟩,let ⟨m,h⟩:=hsy;⟨m,L h⟩⟩;have e0:Env0 P w K mg (hidT C.heap H) ags [] C H:=⟨rfl,hM,λb o e=>OU e,afJ (Aa _ _),trivial,λb I=>absurd (show b∈([]:List Addr)from I) (by simp),hok,.of_eq hg⟩;refine ad2 ((F _ hKb (L R)).run ags [] C H ⟨[.ref a],[]⟩ [.ref a] [.ref a] _ _ hr e0 (O C (.ref a)) (.cons rfl .nil) (hsp H hO hS)) λr s' h=>?_
  cases r with
  |error e=>exact(hCX H e s' h).elim
  | ok fl=>
   cases fl with
   |next=>exact acf h
   |brk=>exact acf h
   |cont=>exact acf h
   | ret u=>
    let⟨v,H',os,bare,un,U,r',q⟩:=h;have q':v = .bl true:=q;subst q';obtain rfl:u=aht true:=r';refine⟨rfl,OldK.of_keep λb o e=>?_,os,bare⟩
    cases q:H b with
    |none=>exact un.keep b o e q (by intro z;exact absurd (show b∈([]:List Addr)from z) (by simp)) (by simp)
    |some u=>
     rcases hO b with z|⟨ob,xs,z⟩
     .rw[q]at z;cases z
     .have z2:=un.frzs b ob _ z;let⟨e1,_⟩:=hok b _ z;let⟨e2,_⟩:=U b _ z2;rw[e]at e1;cases e1;exact e2
 cases hk:K.lookup a with
 |some o=>
  have e:=KX a o hk;rw[ha]at e;cases e;refine M (λ_=>none) (λ_=>.inl rfl) (.inr ⟨_,vs.toArray,_,hk,rfl,rfl,rfl,by rw[aaK,S];exact hl,by simpa using rv⟩) (λb u z=>by have z':(none:Option HO)=some u:=z;cases z') (λb z=>absurd rfl z) λz=>absurd rfl z
 | none=>
  refine M (λb=>if b=a then some (.frz {cls:=.type "list",data:=.seq vs.toArray} (.lst (ns.map V.int)))else none) (λb=>?_) (.inl (.inr ⟨{cls:=.type "list",data:=.seq vs.toArray},if_pos rfl⟩)) (λb u z=>?_) (λb z=>?_) λ_=>hk
  .by_cases I:b=a
   .exact .inr ⟨_,_,if_pos I⟩
   .exact .inl (if_neg I)
  .by_cases I:b=a
   .have z':=(if_pos I).symm.trans z;cases z';subst I;exact⟨ha,by rw[iO];exact hl,vs,_,rv,ha⟩
   .have z':=(if_neg I).symm.trans z;cases z'
  .by_cases I:b=a
   .exact I
   .exact absurd (if_neg I) z
theorem OL{l:af4}{k:Nat}{q:aaI}{I:List Str}{XP:(Str->Option Ad)->aaQ->Prop}{YP:World->aaQ->Prop}{d:DefRec}{K:Params->aad}{CX:World->CXT}{sp:World->Sp}
  (hq:importsNone q=true) (hn:l.most=some n) (R:n≤aam) (W:d.params.defaults=[]) (hr:Room k ags)
  (hY:∀(w:World) (h:aaQ),YP w h->(K w.params).In h)
  (F:∀(w:World) (mg:Str->Option Ad) (O:Addr) (h:aaQ),(K w.params).In h->h.Ns aay mg->mg d.name=some (.ref O) ->
   ∃fd:abU,(∀(s:Io) (u:Ad),agZ s fd ⟨[u],[]⟩ [(x,u)])/\
    ∀base:aaQ,(K w.params).In base->base.Ns aay mg->FnOk l.prog w (K w.params) mg base (CX w) k O fd [x] (sp w))
  (S:∀(w:World) (H:Hp) (a:Addr) (ns:List Int),ns.length≤n->Only H->SqL (K w.params) H a (ns.map V.int)->sp w [.ref a] H (λv _=>v = .bl true) λ_ _ _=>False)
  (U:∀(w:World) (H:Hp) (s:Io) (e:Ad) (s':Io),CX w [] H s (λ_ _ _=>False) e s'->False) :
  ahy q I XP YP l.row.toRowW d [] (λf vs=>ahv f vs):=by
 refine Att.attach_call hn W λw s₀ L mg mb O o pm cd doc a vs ns G Y ho hd hcd Z M C z hg=>?_;have KX:=hY w _ Y;let⟨fd,hb,hF⟩:=F w mg O _ KX G.T.g Z;exact Jc KX G.T.g G.T.b G.T.builtins G.T.nolimit (by let⟨m,h,_⟩:=(G.T.seer hq).mods;exact⟨m,h⟩) hg M C (aax z R) hr hF hb (λH hO hS=>S w H a ns z hO hS) λH e s'=>U w H L e s'
def cw(s:Stmt):Arguments:=match s with
 | .FunctionDef _ a _ _ _ _ _ _ _ _=>a
 |_=>{posonlyargs:=[],args:=[],vararg:=none,kwonlyargs:=[],kw_defaults:=[],kwarg:=none,defaults:=[]}
def bI(s:Stmt):List Stmt:=match s with
 | .FunctionDef _ _ b _ _ _ _ _ _ _=>b
 |_=>[]
def ab(s:Stmt):Scope:=match s with
 | .FunctionDef _ _ _ _ _ _ d _ _ _=>d
 |_=>{kind:=.function,names:=[],isGenerator:=false,isCoroutine:=false}
abbrev CX0:CXT:=λ_ _ _ _ _ _=>False
abbrev E0:XK:=λ_ _ _=>False
def JE:kh CX0 X E0:=λ_ _ _ _ _ _ _ h=>h.elim
structure Fun(K:aad)(x qual:Str)(st:Stmt)(f:Addr)(fd:abU):Prop where
 ex:∃(oc:Ad) (od:Option Addr) (kV doc pm:Ad) (an:Option Addr) (cdv ct:Ad) (osl:Array (Option Ad)),
  fd=abe x qual (cw st) (bI st) (ab st) .none kV doc pm an cdv ct/\K.lookup f=some ⟨oc,od,.func fd,osl⟩/\adh K cdv qual=true
 kp:abJ K (.ref f)=true
section
variable {P:aaI}{w:World}{K:aad}{mg:Str->Option Ad}{base:aaQ}
theorem Fun.ok{f:Addr}{k:Nat}{sp:Sp}(F:Fun K x qual st f fd)(S:ah N ps (ab st))(len:∀vs H Q E,sp vs H Q E->vs.length=ps.length)
  (m:∀(d:Ad) (A:abc) (outer:List Env) (s:Io) (H:Hp) (vs:List V) (Q:VK) (E:XK),Room k (A.deeper (ad3 qual (ab st) s.heap.objs.size f d))->sp vs H Q E ->
   ∃t,PSs (cxOf CX0 P w K mg base N qual (ab st) f d A outer s H E).nox (bI st) t/\t {nx:=λ_ H'=>Q .non H',rt:=Q} (start N vs) H):FnOk P w K mg base CX0 (k+1) f fd ps sp:=by
 let⟨M,od,kV,C,pm,an,d,ct,L,rfl,G,u⟩:=F.ex;refine YV G u S len λA outer s H vs Q E I z=>?_;let⟨t,h,q⟩:=m d A outer s H vs Q E I z;exact⟨t,h.nox,q⟩
theorem Fun.binds{f:Addr}(F:Fun K x qual st f fd)
  (h:∀(kV d pm:Ad) (an:Option Addr) (k ct:Ad) (us:List Ad),us.length=ps.length->adA (abe x qual (cw st) (bI st) (ab st) .none kV d pm an k ct) ⟨us,[]⟩=pure (ps.zip us)):Binds K fd ps []:=by
 let⟨u,od,kV,d,pm,an,k,ct,s,rfl,z,m⟩:=F.ex;exact .all (h kV d pm an k ct)
def ua{f:Addr}{s:Ad}{an:Option Addr}{m:Array (Option Ad)}{kV h pm d ct:Ad}(l:K.lookup f=some ⟨s,od,.func (abe x qual (cw st) (bI st) (ab st) .none kV h pm an d ct),m⟩)
  (c:adh K d qual=true) (k:abJ K (.ref f)=true):Fun K x qual st f (abe x qual (cw st) (bI st) (ab st) .none kV h pm an d ct):=⟨⟨s,od,kV,h,pm,an,d,ct,m,rfl,l,c⟩,k⟩
end
theorem iteF(h:B):if false=true then A else B:=by simp_all
theorem iteT(h:A):if true=true then A else B:=by simp_all
def aY(X:Cx)(scope:Scope)(cl:List (Str×Addr))(N:List Str)(s:Io)(H:Hp)(C:Addr)(ex:List Addr):Cx where
 prog:=X.prog
 w:=X.w
 K:=X.K
 mg:=X.mg
 base:=X.base
 A:=X.A
 N:=N
 s₀:=s
 H₀:=H
 env:=agm scope cl C X.env
 outer:=X.stack
 stack:=X.stack
 ex:=ex
 fn:=λ_=>false
 calm:=X.calm
 eb:=X.eb
 pn:=[]
 xe:=λ_ _=>False
theorem jV{env:Env}:∀{names:List (Str×aep)}{acc:List (Str×Addr)},(∀y∈names,y.2 = .free->∃c,env.cells.lookup y.1=some c)->(∀x c,acc.lookup x=some c->env.cells.lookup x=some c) ->
  ∃cl,(forIn names acc λ(x:Str×aep) (M:List (Str×Addr))=>if (x.2==aem)=true then do let c <- cellOf env x.1;pure (aew ((x.1,c)::M))else pure (aew M):Sem (List (Str×Addr)))=pure cl/\
   (∀x c,cl.lookup x=some c->env.cells.lookup x=some c)/\(∀y∈names,y.2 = .free->∃c,cl.lookup y.1=some c)/\(∀x,(∃c,acc.lookup x=some c)->∃c,cl.lookup x=some c)
 |[],acc,_,ha=>⟨acc,rfl,ha,λy m=>absurd m (by simp),λ_ h=>h⟩
 | (n,k)::r,acc,h,ha=>by
  rw[af5]
  by_cases G:k = .free
  .subst G;let⟨c,O⟩:=h (n,.free) aaa rfl;have z:env.cells.lookup n=some c:=O;have R:cellOf env n=pure c:=by unfold cellOf;rw[z]
   let⟨cl,L,I,F,C⟩:=jV (env:=env) (names:=r) (acc:=(n,c)::acc) (λy m=>h y (aab _ m)) (λx d u=>by
    rw[aaX]at u
    cases hb:x==n with
    |true=>rw[hb]at u;cases u;rw[eq_of_beq hb];exact z
    |false=>rw[hb]at u;exact ha x d u)
   refine⟨cl,?_,I,λy m s=>?_,λx u=>C x ?_⟩
   .simp only[beq_self_eq_true,if_true,R,pure_bind];exact L
   .obtain rfl|m:=aae.mp m
    .exact C n ⟨c,by rw[aaX];simp⟩
    .exact F y m s
   .obtain⟨d,hd⟩:=u;rw[aaX]
    cases hb:x==n with
    |true=>exact⟨c,rfl⟩
    |false=>exact⟨d,hd⟩
  .have hb:(k==aem)=false:=by simpa using G
   let⟨cl,L,I,F,C⟩:=jV (env:=env) (names:=r) (acc:=acc) (λy m=>h y (aab _ m)) ha;refine⟨cl,?_,I,λy m s=>?_,C⟩
   .simp only[hb,acY,if_false,pure_bind];exact L
   .obtain rfl|m:=aae.mp m
    .exact absurd s G
    .exact F y m s
theorem gh(h:∀y∈scope.names,y.2 = .free->∃c,env.cells.lookup y.1=some c) :
  ∃cl,closureFor scope env=pure cl/\(∀x c,cl.lookup x=some c->env.cells.lookup x=some c)/\∀y∈scope.names,y.2 = .free->∃c,cl.lookup y.1=some c:=by
 let⟨cl,e,m,k,_⟩:=jV (acc:=[]) h (λx c d=>by cases d);refine⟨cl,?_,m,k⟩;simp[closureFor]
 simp_all
def PTs(X:Cx)(ifs:List Expr)(t:TT):Prop:=
 ∀(pins:List (Addr×Obj)) (s:Io) (σ:St) (H:Hp) (Q:Bool->Hp->Prop),Inv X pins σ H s->t σ H Q ->
  wpAny (model X.prog X.w) X.A (forIn ifs true λc r=>if r=true then do let ok <- isTrue c X.env (eval c X.env);pure (aew ok)else pure (aew r)) (TP X pins σ Q) X.xe s
def OH:TT:=λ_ H Q=>Q true H
theorem Q9:PTs X [] OH:=λ_ _ _ H _ I h=>wpAny_tests_nil ⟨H,I,h⟩
theorem Mn{t:TT}(d:PT X c t):PTs X [c] t:=λpins s σ H Q I h=>wpAny_tests_one (d pins s σ H Q I h)
def PB(X:Cx)(bd:Sem PUnit)(t:TS):Prop:=
 ∀(pins:List (Addr×Obj)) (s:Io) (σ:St) (H:Hp) (D:Ends),Inv X pins σ H s->t D σ H->wpAny (model X.prog X.w) X.A bd (λ_ d=>∃σ' H',Inv X pins σ' H' d/\D.nx σ' H') X.xe s
def uj(J:It)(g:TG)(tb:TS):TS:=λD σ H=>∃W:Nat->Nat->St->Hp->Prop,(∃m,W 0 m σ H)/\∀i m σ H,W i m σ H ->
 (J.stop i H/\D.nx σ H)\/(J.go i H/\∃N:St->Hp->Prop,(∀σ' H',N σ' H'->∃h,h<m/\W (i+1) h σ' H')/\∀x H',J.yld i H x H'->g x σ H' λd H2=>tb {D with nx:=N,ct:=N,bk:=D.nx} d H2)
def tIfT(tt:TT)(tb:TS):TS:=λD σ H=>tt σ H λb H1=>if b=true then tb D σ H1 else D.nx σ H1
def zq(l:Addr)(d:TE):TS:=λD σ H=>d σ H λx H1=>∃xs,H1 l=some (.lst xs)/\xs.length<aam/\D.nx σ (upd H1 l (.lst (xs++[x])))
theorem sD{gens:List Comprehension}{d:Nat}{O:Addr}{acc:Ad}{ipos:Pos}{bd:Sem PUnit}{g:TG}{tt:TT}
  (M:compTurn (.ListComp elt gens scope pos) d (.ref O) acc X.env=(do
   acE ipos
   match <- act (.ref O)with
   |none=>pure (.done .next)
   | some v=>
    adJ tg (.ref O) v
    afj tg X.env v
    let mut ok:=true
    for c in ifs do
     if ok then ok <- isTrue c X.env (eval c X.env)
    if ok then bd
    again (.compLoop (.ListComp elt gens scope pos) d (.ref O) acc X.env)))
  (hx:X.xe=λ_ _=>False) (hc:X.calm=true) (T:Turn X.prog X.w X.K tg J fp O tn) (hg:PG X tg g) (ht:PTs X ifs tt) (C:PB X bd tb)
  {s:Io} (I:Inv X pins σ H s) (st:tn 0 s.heap) (f:∀b∈fp,FpOk X pins H b) (h:uj J g (tIfT tt tb) D σ H) :
  adK (model X.prog X.w) X.A (.compLoop (.ListComp elt gens scope pos) d (.ref O) acc X.env) (λr s'=>r = .ok .next/\∃σ' H',Inv X pins σ' H' s'/\D.nx σ' H') s:=by
 let⟨W,⟨m0,w0⟩,V⟩:=h;have G:∀{H':Hp},(∀b∈fp,H' b=none)->∀b∈fp,FpOk X pins H' b:=λhn b C=>⟨hn b C,(f b C).2⟩;have nox:∀{α:Type}{t:Sem α}{Q:α->Io->Prop}{E:Ad->Io->Prop}{s:Io},wpAny (model X.prog X.w) X.A t Q X.xe s->wpAny (model X.prog X.w) X.A t Q E s:=λh=>acr h (λ_ _ q=>q) λ_ _ z=>by
  rw[hx]at z;exact z.elim
 refine codeAny_loop rfl (λn s'=>∃i σ' H',Inv X pins σ' H' s'/\tn i s'.heap/\(∀b∈fp,H' b=none)/\W i n σ' H') ?_ m0 ⟨0,σ,H,I,st,λb C=>(f b C).1,w0⟩;intro n s3 ⟨i,F,H3,I3,S,fr3,w3⟩;show wpAny _ X.A ((compTurn (.ListComp elt gens scope pos) d (.ref O) acc X.env).onRaise (λx=>do noteFrame x X.env;theTreesLotGoes x)) _ _ s3;refine wpAny_noted ?_;rw[M];refine gT (m:=acE _) (acJ (gT ?_));rcases V i n F H3 w3 with⟨stop,qn⟩|⟨go,N,hN,step⟩
 .refine thn (T.done X rfl rfl rfl hc i pins s3 F H3 _ I3 (G fr3) S stop) λr s4 ⟨hr,I4⟩=>?_;subst hr;exact LD ⟨rfl,F,H3,I4,qn⟩
 .refine thn (T.item X rfl rfl rfl hc i pins s3 F H3 _ I3 (G fr3) S go) λr s4 ⟨u,hr,h4⟩=>?_;subst hr;refine gT (thn h4 λ_ s5 ⟨x,H5,I5,r5,y5,L,fr5⟩=>?_);have I5':=I5.pinned (G fr5) (T.obj _ _ L);refine gT (nox (thn (hg _ s5 F H5 x u _ I5' r5 (step x H5 y5)) λ_ s6 ⟨Y,H6,I6,q6⟩=>?_));refine gT (nox (thn (ht _ s6 Y H6 _ I6 q6) λok s7 ⟨H7,I7,q7⟩=>?_));have fin:∀{k:St}{R:Hp}{Z:Io},Inv X (pins++sW fp s5.heap) k R Z->N k R->∃m,m<n/\∃i σ' H',Inv X pins σ' H' Z/\tn i Z.heap/\(∀b∈fp,H' b=none)/\W i m σ' H':=λ{k R Z} U n8=>by
   let⟨m',hm,w8⟩:=hN k R n8;refine⟨m',hm,i+1,k,R,U.unpinned,T.keep _ _ _ L λb C o e=>(U.pin (b,o) (aaJ _ (aaJ _ (iw C e)))).1,λb C=>?_,w8⟩;let⟨o,e,_⟩:=T.obj _ _ L b C;exact(U.pin (b,o) (aaJ _ (aaJ _ (iw C e)))).2.1
  cases ok with
  |false=>
   rw[if_neg aai]at q7;exact LD ⟨rfl,fin I7 q7⟩
  |true=>
   rw[if_pos rfl]at q7;exact gT (nox (thn (C _ s7 Y H7 _ I7 q7)<|by intro _ Z ⟨k,R,U,q8⟩;exact LD ⟨rfl,fin U q8⟩))
theorem v7{d:TE}(G:PE X elt d):PB X (do let _ <- call (.builtin "list.append") [.ref l,<-eval elt X.env]) (zq l d):=by
 intro pins s σ H D I h;refine gT (thn (G pins s σ H _ I h) λu s1 ⟨x,H1,C,r1,xs,F,m,q⟩=>?_);refine gT (thn ?_ λ_ k L=>LD L);exact thn (kQ pins s1 σ H1 (.ref l) [x] _ [u] (λv H'=>v = .non/\D.nx σ H') C rfl (.cons r1 .nil) ⟨l,xs,x,rfl,rfl,F,m,rfl,q⟩)<|by intro v k ⟨_,H',M,_,_,z⟩;exact⟨σ,H',M,z⟩
theorem fe(env:Env)(x:Str):∀names:List (Str×aep),(names.map λ(n,k)=>if (k==aem&&env.scope.kind == .function&&env.kindOf n==some .cell)then(n,ahz)else(n,k)).lookup x =
  (names.lookup x).map λk=>if (k==aem&&env.scope.kind == .function&&env.kindOf x==some .cell)then ahz else k
 |[]=>rfl
 | (n,k)::r=>by
  have d:=fe env x r;rw[aah];dsimp only
  cases hx:x==n with
  |true=>
   have e:=eq_of_beq hx;subst e
   by_cases h:(k==aem&&env.scope.kind == .function&&env.kindOf x==some .cell)=true
   .simp only[aaX,hx,adL,if_pos h]
   .simp only[aaX,hx,adL,if_neg h]
  |false=>
   split
   .simp only[aaX,hx];exact d
   .simp only[aaX,hx];exact d
def ip{k:aep}:∀{names:List (Str×aep)},names.lookup x=some k->(x,k)∈names:=λh=>acg h
theorem lh(d:∀y∈scope.names,y.2≠.cell)(h:(agt scope env).names.lookup x=some .cell\/(agt scope env).names.lookup x=some .free):scope.names.lookup x=some .free:=by
 unfold agt at h;simp only[fe]at h
 cases e:scope.names.lookup x with
 |none=>rw[e]at h;rcases h with h|h<;>cases h
 |some k=>
  rw[e]at h;simp only[adL]at h;have s:=d _ (ip e)
  by_cases m:k = .free
  .rw[m]
  .simp_all
def sw(h:scope.names.lookup x=some .free):(agt scope env).names.lookup x=some .cell\/(agt scope env).names.lookup x=some .free:=by
 unfold agt;simp only[fe,h,adL];split
 .exact .inl rfl
 .exact .inr rfl
def iJ(own:List Str)(ps:List Nat)(σ:St):St:=own.map (λ_=>none)++ps.map λi=>(σ[i]?).join
structure cj(own fr:List Str)(scope sc:Scope):Prop where
 kind:scope.kind = .function
 nocell:∀y∈scope.names,y.2≠.cell
 names:∀y∈scope.names,y.2 = .local->scope.names.lookup y.1=some .local
 there:∀y∈scope.names,y.2 = .free->sc.names.lookup y.1=some .cell\/sc.names.lookup y.1=some .free
 fr:∀x∈fr,scope.names.lookup x=some .free
section
variable {X:Cx}{scope sc:Scope}{own fr:List Str}{ps:List Nat}
theorem lJ{n:Expr}{rest:List Comprehension}{bdy:Env->Ad->Sem PUnit}{g:TG}{tt:TT}{tb:Addr->TS}{cl:List (Str×Addr)}{R:Ad->Addr->Result->Io->Prop}
  (S:cj own fr scope sc) (hsc:X.env.scope=sc) (hps:ps.map (λi=>X.N[i]?)=fr.map some) (hc:X.calm=true) (G:∀x c,cl.lookup x=some c->X.env.cells.lookup x=some c) (hcl2:∀y∈scope.names,y.2 = .free->∃c,cl.lookup y.1=some c)
  (hturn:∀env it acc,compTurn (.ListComp elt (⟨tg,n,ifs,0⟩::rest) scope pos) 0 it acc env=(do
   acE n.pos
   match <- act it with
   |none=>pure (.done .next)
   | some v=>
    adJ tg it v
    afj tg env v
    let mut ok:=true
    for c in ifs do
     if ok=true then ok <- isTrue c env (eval c env)
    if ok then bdy env acc
    again (.compLoop (.ListComp elt (⟨tg,n,ifs,0⟩::rest) scope pos) 0 it acc env)))
  (hg:∀s H C ex,PG (aY X scope cl (own++fr) s H C ex) tg g) (ht:∀s H C ex,PTs (aY X scope cl (own++fr) s H C ex) ifs tt)
  (d:∀s H C ex l,PB (aY X scope cl (own++fr) s H C ex) (bdy (agm scope cl C X.env) (.ref l)) (tb l))
  {s:Io}{it:Addr} (I:Inv X pins σ H s) (T:Turn X.prog X.w X.K tg J fp it tn) (st:tn 0 s.heap) (f:∀b∈fp,FpOk X pins H b)
  (h:∀l,H l=none->uj J g (tIfT tt (tb l)) {nx:=λ_ H'=>Q (.ref l) H',rt:=λ_ _=>False} (iJ own ps σ) (upd H l (.lst [])))
  (hR:∀l C H' s',(∃m,s'.heap.Ns C m)->Inv X pins σ H' s'->FpOk X pins H' C->Q (.ref l) H'->R (.ref l) C (.ok .next) s') :
  wpAny (model X.prog X.w) X.A (ag2 []) (λacc s₃=>wpAny (model X.prog X.w) X.A (newFunctionEnv scope X.env.globals cl [] X.env.qual none .none (some X.env)) (λZ s₄=>
   adK (model X.prog X.w) X.A (.compStart (.ListComp elt (⟨tg,n,ifs,0⟩::rest) scope pos) 0 (.ref it) acc {Z with scope:=agt scope X.env}) (R acc Z.locals) s₄) E s₃) E s:=by
 refine aa9 (wpAny_newFunctionEnv S.nocell (by intro y hy;simp at hy) (λU O V=>?_) S.kind);have M:Inv X pins σ (upd H s.heap.objs.size (.lst [])) {s with heap:=s.heap.push {cls:=.type "list",data:=.seq ([]:List Ad).toArray} }:=I.lnew (t':=s.toks) (ys:=[]) .nil (abw _);generalize hS3:({s with heap:=s.heap.push {cls:=.type "list",data:=.seq ([]:List Ad).toArray} }:Io)=L at M O V⊢;have hsz:L.heap.objs.size=s.heap.objs.size+1:=by rw[<-hS3];exact abp _ _
 have hl:H s.heap.objs.size=none:=I.hok.fresh (Mt _);have kept0:∀b o,s.heap.get? b=some o->L.heap.get? b=some o:=λb o e=>by rw[<-hS3];exact GT _ e
 have F:∀b o,L.heap.get? b=some o->U.get? b=some o:=λb o e=>V.extBut b o (aaU (aan e)) (GT _ e);have fpl:∀b∈fp,b<s.heap.objs.size:=λb d=>by let⟨o,e,_⟩:=T.obj _ _ st b d;exact aan e
 have fpH:∀b∈fp,(upd H s.heap.objs.size (.lst [])) b=none:=λb d=>by rw[aA (aaU (fpl b d))];exact(f b d).1
 have fpS:∀b∈fp,b∉frs X.stack:=λb d z=>by
  rcases aae.mp (I.stkSub b z)with e|e
  .exact(f b d).2.1 e
  .exact(f b d).2.2.1 e
 have ok':(aY X scope cl (own++fr) L (upd H s.heap.objs.size (.lst [])) L.heap.objs.size fp).Ok:=by
  refine⟨I.ok.mod,S.kind,I.ok.glob,I.ok.blt,Mt _,λx y c h1 h2=>I.ok.inj x y c (G x c h1) (G y c h2),λx hx=>?_,λx c hf=>(by cases hf),I.ok.hd,I.ok.frames,.inl rfl,λb d=>⟨?_,λx c hx=>(f b d).2.2.2.2.1 x c (G x c hx)⟩,
   λb o e=>M.bs b o e,aax M.ok.bsz M.sz,λb o e d=>?_,λb d=>fpS b d,M.stack,M.stkFree⟩
  .exact hcl2 (x,.free) (ip (lh S.nocell hx)) rfl
  .exact aaU (aas (fpl b d) (by rw[hsz];exact afc _))
  .rcases (f b d).2.2.2.1 with z|z
   .exact I.ok.noex b o e z
   .exact absurd (aas (aan (I.ok.bs b o e).1) z) (acI _)
 have I4:Inv (aY X scope cl (own++fr) L (upd H s.heap.objs.size (.lst [])) L.heap.objs.size fp) [] (iJ own ps σ) (upd H s.heap.objs.size (.lst [])) {L with heap:=U,toks:=L.toks+([]:List (Str×Ad)).length}:=by
  refine⟨ok',rfl,M.bare,Un.kept F,⟨_,O,λi x v e1 W e3=>?_⟩,λx c e=>?_,M.hok.fresh (Mt _),λx c e=>M.freeC x c (G x c e),λp hp=>absurd (show p∈([]:List (Addr×Obj))from hp) (by simp),M.hok.kept F,?_⟩
  .have e1':(own++fr)[i]?=some x:=e1;unfold iJ at W
   by_cases hi:i<own.length
   .rw[aaD (by simpa using hi),aao]at W
    cases q:own[i]? with
    |none=>rw[q]at W;cases W
    |some z=>rw[q]at W;cases W
   .rw[aav (by simpa using hi),iO,aao]at W;rw[aav (by simpa using hi)]at e1'
    cases q:ps[i-own.length]? with
    |none=>rw[q]at W;cases W
    | some p=>
     rw[q]at W;have Y:(σ[p]?).join=some v:=aar W;have hσ:σ[p]?=some (some v):=by
      cases z:σ[p]? with
      |none=>rw[z]at Y;cases Y
      |some w=>rw[z]at Y;cases w with
       |none=>cases Y
       |some w=>cases Y;rfl
     have hN:X.N[p]?=some x:=by
      have z:=congrArg (λl=>l[i-own.length]?) hps;simp only[aao,q,e1',adL,Option.some.injEq]at z;exact z
     have hx:x∈fr:=Ld e1';have hfr:=S.fr x hx;have hsee:=S.there (x,.free) (ip hfr) rfl;let⟨m,hn,hlk⟩:=M.loc;let⟨u,ru,lk⟩:=hlk p x v hN hσ (by rw[hsc];exact .inr hsee);refine⟨u,ru,.inr ⟨sw hfr,?_⟩⟩;rcases lk with⟨k,_⟩|⟨_,c,ec,z⟩
     .have k':X.env.scope.names.lookup x=some .local:=k;rw[hsc]at k';rcases hsee with q2|q2<;>(rw[k']at q2;cases q2)
     .obtain⟨c',ec'⟩:=hcl2 (x,.free) (ip hfr) rfl;have:=G x c' ec';rw[ec]at this;cases this;let⟨o,ho,hd⟩:=z;exact⟨c,ec',o,F _ _ ho,hd⟩
  .obtain⟨v,o,ho,hd⟩:=M.cell x c (G x c e);exact⟨v,o,F _ _ ho,hd⟩
  .show(iJ own ps σ).length=(own++fr).length;have:=congrArg ab9 hps;rw[iO,iO]at this;unfold iJ;rw[aal,aal,iO,iO,this]
 have f4:∀b∈fp,FpOk (aY X scope cl (own++fr) L (upd H s.heap.objs.size (.lst [])) L.heap.objs.size fp) [] (upd H s.heap.objs.size (.lst [])) b:=λb d=>
  ⟨fpH b d,(ok'.exf b d).1,fpS b d,.inl d,(ok'.exf b d).2,λp hp=>absurd (show p∈([]:List (Addr×Obj))from hp) (by simp)⟩
 have st4:tn 0 U:=T.keep 0 _ _ st λb d o e=>F b o (kept0 b o e);have loop:adK (model X.prog X.w) X.A (.compLoop (.ListComp elt (⟨tg,n,ifs,0⟩::rest) scope pos) 0 (.ref it) (.ref s.heap.objs.size) (agm scope cl L.heap.objs.size X.env)) (R (.ref s.heap.objs.size) L.heap.objs.size) {L with heap:=U,toks:=L.toks+([]:List (Str×Ad)).length}:=by
  refine ad2 (sD (X:=aY X scope cl (own++fr) L (upd H s.heap.objs.size (.lst [])) L.heap.objs.size fp) (hturn _ _ _) rfl hc T (hg _ _ _ _) (ht _ _ _ _) (d _ _ _ _ _) I4 st4 f4 (h _ hl)) λr s' ⟨er,σ5,H5,I5,q5⟩=>?_;subst er;have I6:Inv X pins σ H5 s':=M.call' (s':=s') I5.os I5.base I5.hok I5.bare λb d=>⟨(f b d).2.2.2.1,(f b d).2.1,(f b d).2.2.2.2.1,(f b d).2.2.2.2.2⟩;have hm:∃m,s'.heap.Ns L.heap.objs.size m:=let ⟨m,hn,_⟩:=I5.loc;⟨m,hn⟩;exact hR _ _ H5 s' hm I6 (M.fpOk (Mt _) I5.free) q5
 exact codeAny_compStart_list loop (T.self _ 0 _ _ _ st4 loop)
def Cp(L:TI)(own:List Str)(ps:List Nat)(tl:Addr->It->TS):TE:=λσ H Q=>L σ H λJ H1=>∀l,H1 l=none->tl l J {nx:=λ_ H'=>Q (.ref l) H',rt:=λ_ _=>False} (iJ own ps σ) (upd H1 l (.lst []))
def tl1(g:TG)(tt:TT)(K:TE):Addr->It->TS:=λl J=>uj J g (tIfT tt (zq l K))
def tl2(g:TG)(tt:TT)(B:TI)(M:TG)(F:TT)(K:TE):Addr->It->TS:=λl J=>uj J g (tIfT tt λD σ H=>B σ H λd H1=>uj d M (tIfT F (zq l K)) D σ H1)
theorem Jk{Y:Cx}{C k A j:Expr}{z t:List Expr}{B:TI}{M:TG}{F:TT}{K:TE}(V:Y.xe=λ_ _=>False)(hc:Y.calm=true)(hi:PI Y A j B)(W:PG Y A M)(S:PTs Y t F)(he:PE Y elt K)
  (hs:∀x,aaM j Y.env x=pure x) :
  PB Y (do
   let x <- eval j Y.env
   acE j.pos
   let x <- aaM j Y.env x
   let _ <- runOwn (.compStart (.ListComp elt [⟨C,k,z,0⟩,⟨A,j,t,0⟩] scope pos) 1 (<- adl [x] (afI x)) (.ref l) Y.env) Y.env) (λD σ H=>B σ H λJ2 H1=>uj J2 M (tIfT F (zq l K)) D σ H1):=by
 intro pins s σ H D I h;refine gT (thn (hi pins s σ H _ I h) λv s1 h1=>?_);refine gT (acJ (gT (wpAny_of_eq (hs v) (gT (abR (thn h1 λitv s2 h2=>?_))))));let⟨it,fp,tn,J,H2,e,U,T,G,R,q⟩:=h2;subst e;have u:∀O,O=s2->adK (model Y.prog Y.w) Y.A (.compLoop (.ListComp elt [⟨C,k,z,0⟩,⟨A,j,t,0⟩] scope pos) 1 (.ref it) (.ref l) Y.env) (λr L=>match r with| .ok f=>wpAny (model Y.prog Y.w) Y.A (pure PUnit.unit) (λ_ L=>∃σ' H',Inv Y pins σ' H' L/\D.nx σ' H') Y.xe L | .error e=>cameBackBy (model Y.prog Y.w) Y.A Y.env Y.xe e L) O:=by
  rintro O rfl;refine ad2 (sD (X:=Y) (elt:=elt) (gens:=[⟨C,k,z,0⟩,⟨A,j,t,0⟩]) (scope:=scope) (pos:=pos) (d:=1) (acc:=.ref l) (ipos:=j.pos) (ifs:=t)
   (bd:=do let _ <- call (.builtin "list.append") [.ref l,<-eval elt Y.env]) rfl V hc T W S (v7 he) U G R q) λr L ⟨Z,hq⟩=>?_
  subst Z;exact LD hq
 refine gT (wpAny_runOwn ?_);show adK (model Y.prog Y.w) Y.A _ _ s2;refine codeAny_of_tree ?_;refine wpAny_notedAt ?_;unfold compStart;show wpAny _ _ (ask >>= _) _ _ s2;refine gT (m:=ask) (wpAny_askSetting (wpAny_ite ?_));split
 .first
   |exact gT (LD (LD (ahc rfl (u _ rfl))))
   |exact LD (ahc rfl (u _ rfl))
 .first
   |exact gT (acs (gT (acJ (gT (T.self _ 0 _ _ _ G (LD (ahc rfl (u _ rfl))))))))
   |(refine gT (acs ?_);show wpAny _ _ (acE j.pos >>= _) _ _ s2;exact gT (acJ (gT (T.self _ 0 _ _ _ G (LD (ahc rfl (u _ rfl)))))))
theorem Inv.junk{s:Io}{C:Addr}(I:Inv X pins σ H s)(f:FpOk X pins H C){h':aaQ}(h:abd C s.heap h'):Inv X pins σ H {s with heap:=h' }:=
 I.turned (t':=s.toks) (λb o ne e=>(h.2 b ne).trans e) f.1 f.2.1 f.2.2.2.1 f.2.2.2.2.1 f.2.2.2.2.2
variable {elt tg n:Expr}{ifs:List Expr}{pos G N:Pos}{L:TI}{g:TG}{tt:TT}{K:TE}
def qG{s:Io}(S:cj own fr scope sc)(h:X.env.scope=sc)(I:Inv X pins σ H s):∀y∈scope.names,y.2 = .free->∃c,X.env.cells.lookup y.1=some c:=λy d k=>
 I.ok.has y.1 (by show X.env.scope.names.lookup y.1=_\/X.env.scope.names.lookup y.1=_;rw[h];exact S.there y d k)
theorem JT(S:cj own fr scope sc)(hi:PI X tg n L)(hg:∀cl s H C ex,PG (aY X scope cl (own++fr) s H C ex) tg g)(R:∀cl s H C ex,PTs (aY X scope cl (own++fr) s H C ex) ifs tt)
  (he:∀cl s H C ex,PE (aY X scope cl (own++fr) s H C ex) elt K) (d:X.env.scope=sc:=by rfl) (z:ps.map (λi=>X.N[i]?)=fr.map some:=by rfl) (hc:X.calm=true:=by rfl) (hs:∀x,aaM n X.env x=pure x:=by intro _;rfl) :
  PE X (.ListComp elt [⟨tg,n,ifs,0⟩] scope pos) (Cp L own ps (tl1 g tt K)):=by
 intro pins s σ H Q I h;let⟨cl,ec,h1,h2⟩:=gh (qG S d I);refine adE (use:=none) rfl hs ec S.kind S.names (thn (hi pins s σ H _ I h) λv s1 U=>thn U λitv s2 q2=>?_);let⟨M,fp,tn,J,H2,e,V,T,F,O,q⟩:=q2;subst e;exact lJ S d z hc h1 h2 (λenv M k=>compTurn_list elt tg n ifs scope pos M k env)
  (hg cl) (R cl) (λs H C ex l=>v7 (he cl s H C ex)) V T F O q λl C H' s' hm I' Z W=>by
   let⟨m,Y⟩:=hm;exact⟨m,Y,λh' u=>⟨.ref l,H',I'.junk Z u,rfl,W⟩⟩
theorem ui{s':Io}{C:Addr}{Q:St->Hp->Prop}(U:X.N.Nodup)(S:X.N[i]?=some y)(h:X.env.scope.names.lookup y=some .local)(W:∃m,s'.heap.Ns C m)(I:Inv X pins σ H' s')(F:FpOk X pins H' C)(q:Q (σ.set i (some (.ref l))) H') :
  wpAny (model X.prog X.w) X.A (afj (.Name y N) X.env (.ref l)) (λ_ s=>∃m,s.heap.Ns C m/\∀h',abd C s.heap h'->∃σ' k,Inv X pins σ' k {s with heap:=h' }/\Q σ' k) E s':=by
 let⟨m,R⟩:=W;refine wpAny_assign_Name (uR I U S (.inl h) (v:=.ref l) rfl (λs O ⟨a,V,d⟩=>?_) (.inr h));have M:C≠a:=by
  rcases d with d|d
  .rw[d];exact F.2.1
  .exact λz=>F.2.2.2.2.1 _ _ d z.symm
 exact⟨m,R.sameBut V M,λh' u=>⟨_,H',O.junk F u,q⟩⟩
theorem JG(S:cj own fr scope sc)(hN:X.N.Nodup)(hy:X.N[i]?=some y)(k:X.env.scope.names.lookup y=some .local)(hi:PI X tg n L)(U:∀cl s H C ex,PG (aY X scope cl (own++fr) s H C ex) tg g)(ht:∀cl s H C ex,PTs (aY X scope cl (own++fr) s H C ex) ifs tt)
  (he:∀cl s H C ex,PE (aY X scope cl (own++fr) s H C ex) elt K) (M:abz (.ListComp elt [⟨tg,n,ifs,0⟩] scope pos) (some (.Name y N)) G.line X.env=pure true:=by rfl)
  (d:X.env.scope=sc:=by rfl) (u:ps.map (λi=>X.N[i]?)=fr.map some:=by rfl) (V:X.calm=true:=by rfl) (hs:∀x,aaM n X.env x=pure x:=by intro _;rfl) :
  PS X (.Assign [.Name y N] (.ListComp elt [⟨tg,n,ifs,0⟩] scope pos) G) (tAsg (Cp L own ps (tl1 g tt K)) (FZ i)):=by
 intro pins s σ H D I h;let⟨cl,ec,h1,h2⟩:=gh (qG S d I);rw[show exec _ X.env=_ from aga _ _ _ _ M];refine gT (m:=acE _) (acJ (gT ?_));refine gT (acr (adE rfl hs ec S.kind S.names (thn (hi pins s σ H _ I h) λv s1 q1=>thn q1 λZ s2 q2=>?_)) (λ_ s' W=>LD (LD W)) λ_ _ e=>e);let⟨O,fp,tn,J,H2,e,R,T,F,f2,q⟩:=q2;subst e;exact lJ (Q:=λv H'=>D.nx (σ.set i (some v)) H') (tb:=λl=>zq l K) S d u V h1 h2 (λenv O z=>compTurn_list elt tg n ifs scope pos O z env)
  (U cl) (ht cl) (λs H C ex l=>v7 (he cl s H C ex)) R T F f2 q λl C H' s' hm Y fk q'=>ui hN hy k hm Y fk q'
variable {A j:Expr}{t:List Expr}{B:TI}{M:TG}{F:TT}
theorem oH(elt d n:Expr)(ifs:List Expr)(A j:Expr)(t:List Expr)(scope:Scope)(pos:Pos)(h acc:Ad)(env:Env) :
  compTurn (.ListComp elt [⟨d,n,ifs,0⟩,⟨A,j,t,0⟩] scope pos) 0 h acc env=(do
   acE n.pos
   match <- act h with
   |none=>pure (.done .next)
   | some v=>
    adJ d h v
    afj d env v
    let mut ok:=true
    for c in ifs do
     if ok=true then ok <- isTrue c env (eval c env)
    if ok then
     (do
      let x <- eval j env
      acE j.pos
      let x <- aaM j env x
      let _ <- runOwn (.compStart (.ListComp elt [⟨d,n,ifs,0⟩,⟨A,j,t,0⟩] scope pos) 1 (<- adl [x] (afI x)) acc env) env)
    again (.compLoop (.ListComp elt [⟨d,n,ifs,0⟩,⟨A,j,t,0⟩] scope pos) 0 h acc env)):=by
 simp only[ bind_assoc];rfl
theorem Ja(S:cj own fr scope sc)(hN:X.N.Nodup)(hy:X.N[i]?=some y)(k:X.env.scope.names.lookup y=some .local)(hi:PI X tg n L)(hg:∀cl s H C ex,PG (aY X scope cl (own++fr) s H C ex) tg g)(ht:∀cl s H C ex,PTs (aY X scope cl (own++fr) s H C ex) ifs tt)
  (U:∀cl s H C ex,PI (aY X scope cl (own++fr) s H C ex) A j B) (R:∀cl s H C ex,PG (aY X scope cl (own++fr) s H C ex) A M) (Z:∀cl s H C ex,PTs (aY X scope cl (own++fr) s H C ex) t F)
  (he:∀cl s H C ex,PE (aY X scope cl (own++fr) s H C ex) elt K) (Y:abz (.ListComp elt [⟨tg,n,ifs,0⟩,⟨A,j,t,0⟩] scope pos) (some (.Name y N)) G.line X.env=pure true:=by rfl)
  (d:X.env.scope=sc:=by rfl) (u:ps.map (λi=>X.N[i]?)=fr.map some:=by rfl) (hc:X.calm=true:=by rfl) (hs:∀x,aaM n X.env x=pure x:=by intro _;rfl)
  (W:∀cl C x,aaM j (agm scope cl C X.env) x=pure x:=by intro _ _ _;rfl) :
  PS X (.Assign [.Name y N] (.ListComp elt [⟨tg,n,ifs,0⟩,⟨A,j,t,0⟩] scope pos) G) (tAsg (Cp L own ps (tl2 g tt B M F K)) (FZ i)):=by
 intro pins s σ H D I h;let⟨cl,ec,h1,h2⟩:=gh (qG S d I);rw[show exec _ X.env=_ from aga _ _ _ _ Y];refine gT (m:=acE _) (acJ (gT ?_));refine gT (acr (adE (Q:=λ_ O=>SP X pins D .next O) rfl hs ec S.kind S.names (thn (hi pins s σ H _ I h) λv s1 q1=>thn q1 λitv s2 q2=>?_)) (λ_ O hq=>LD (LD hq)) λ_ _ e=>e);let⟨it,fp,tn,J,H2,e,I2,T,V,f2,q⟩:=q2;subst e;exact lJ (Q:=λv H'=>D.nx (σ.set i (some v)) H') S d u hc h1 h2 (λenv it z=>oH elt tg n ifs A j t scope pos it z env)
  (hg cl) (ht cl) (λs H C ex l=>Jk rfl hc (U cl s H C ex) (R cl s H C ex) (Z cl s H C ex) (he cl s H C ex) (W cl C)) I2 T V f2 q λl C H' O hm I' fk q'=>ui hN hy k hm I' fk q'
end
def FzL(K:aad)(H:Hp)(a:Addr)(xs:List V):Prop:=
 (∃o,H a=some (.frz o (.lst xs))) \/
  ∃(o:Obj) (d:Array Ad) (n:Nat),K.lookup a=some o/\o.cls = .type "list"/\o.dict=none/\o.data = .seq d n/\d.size≤aam/\Vals xs d.toList
theorem FzL.sq{K:aad}(h:FzL K H a xs):SqL K H a xs:=by
 rcases h with⟨o,h⟩|h
 .exact .inl (.inr ⟨o,h⟩)
 .exact .inr h
structure Kd where
 K:aad
 w:World
instance:Coe Kd aad:=⟨Kd.K⟩
mutual
def iz(w:World):aD->Int
 | .int i=>hashInt i
 | .str x=>hashStr w x
 | .tuple ds=>reduceHash (abE (i6 w ds))
 |_=>0
def i6(w:World):List aD->List Int
 |[]=>[]
 |d::ds=>iz w d::i6 w ds
end
mutual
def hkD:aD->Bool
 | .int _=>true
 | .str _=>true
 | .tuple ds=>hkA ds
 |_=>false
def hkA:List aD->Bool
 |[]=>true
 |d::ds=>hkD d&&hkA ds
end
def isKd(kvs:List (aD×aD)):Bool:=kvs.all λk=>match k.1 with| .int _=>true | .str _=>true|_=>false
def Cu(kvs:List (aD×aD)):Prop:=isKd kvs=false/\(kvs.map (·.1)).Nodup/\∀k∈kvs.map (·.1),hkD k=true
def dXp(a:Addr)(c:List (Int×V×V))(h:aaQ):Prop:=
 (a==abA)=false/\c.length≤aam/\∃(o:Obj) (b:Array ab2) (f:Nat),h.get? a=some o/\o.ExactDict/\o.data = .dict b f/\
  abI (λ(e:Int×V×V) (d:ab2)=>d.hash=e.1/\RelV e.2.1 d.key/\RelV e.2.2 d.val) c b.toList
abbrev dX(a:Addr)(e:List (Int×V×V)):HO:=.ext (dXp a e)
def FzD(H:Hp)(a:Addr)(e:List (Int×V×V)):Prop:=∃o,H a=some (.frz o (dX a e))
def ClsN(K:Kd)(c:Str)(C:Addr):Prop:=aaF K.K aay c=some (some (.ref C))
def XX(K:Kd)(H:Hp)(a:Addr)(c:Str)(xs:List (Str×V)):Prop:=
 ∃(o:Obj) (u:HO) (C:Addr),H a=some (.frz o u)/\o.cls = .ref C/\(∃vs,o.data = .fields vs)/\ClsN K c C/\((o.dict=none/\xs=[])\/∃(dx:Addr) (b:Obj),o.dict=some dx/\H dx=some (.frz b (.xd xs)))
def keyD:Key->aD
 | .inl i=>.int i
 | .inr x=>.str x
def excC:List (aD×aD)->Option Str
 |(.none,.str c)::_=>some c
 |_=>none
mutual
def Den(K:Kd)(H:Hp):aD->V->Prop
 | .none,v=>v = .non
 | .bool b,v=>v = .bl b
 | .int i,v=>v = .int i
 | .str x,v=>v = .str x
 | .list ds,v=>∃a d,v = .ref a/\FzL K H a d/\DenAll K H ds d
 | .tuple ds,v=>∃a d,v = .ref a/\SqT K H a d/\DenAll K H ds d
 | .dict kvs,v=>∃a,v = .ref a/\((∃e,FzD H a e/\Cu kvs/\DenKV K H kvs e)\/(∃e o,H a=some (.frz o (.dK e))/\DenKK K H kvs e)\/∃c d,excC kvs=some c/\XX K H a c d/\DenXF K H kvs d)
def DenAll(K:Kd)(H:Hp):List aD->List V->Prop
 |[],xs=>xs=[]
 |d::ds,xs=>∃v vs,xs=v::vs/\Den K H d v/\DenAll K H ds vs
def DenKV(K:Kd)(H:Hp):List (aD×aD)->List (Int×V×V)->Prop
 |[],es=>es=[]
 |(k,d)::r,es=>∃u v vs,es=(iz K.w k,u,v)::vs/\Den K H k u/\Den K H d v/\DenKV K H r vs
def DenKK(K:Kd)(H:Hp):List (aD×aD)->List (Key×V)->Prop
 |[],es=>es=[]
 |(k,d)::r,es=>∃a v vs,es=(a,v)::vs/\(k=keyD a/\∀x∈vs,x.1≠a)/\Den K H d v/\DenKK K H r vs
def DenXF(K:Kd)(H:Hp):List (aD×aD)->List (Str×V)->Prop
 |[],xs=>xs=[]
 |(k,d)::r,xs=>match k with
  | .str f=>∃v vs,xs=(f,v)::vs/\Den K H d v/\DenXF K H r vs
  |_=>DenXF K H r xs
end
structure Pers(H H':Hp):Prop where
 tups:∀b xs,H b=some (.tup xs)->H' b=some (.tup xs)
 frzs:∀b o u,H b=some (.frz o u)->H' b=some (.frz o u)
theorem Pers.trans(a:Pers H H1)(b:Pers H1 H2):Pers H H2:=⟨λc x e=>b.tups c x (a.tups c x e),λc o u e=>b.frzs c o u (a.frzs c o u e)⟩
section
variable {K:Kd}{H H':Hp}
theorem FzL.mono(p:Pers H H')(h:FzL K H a xs):FzL K H' a xs:=by
 rcases h with⟨o,h⟩|h
 .exact .inl ⟨o,p.frzs _ _ _ h⟩
 .exact .inr h
theorem SqT.mono(p:Pers H H')(h:SqT K H a xs):SqT K H' a xs:=by
 rcases h with(h|⟨o,h⟩)|h
 .exact .inl (.inl (p.tups _ _ h))
 .exact .inl (.inr ⟨o,p.frzs _ _ _ h⟩)
 .exact .inr h
mutual
theorem Den.mono(p:Pers H H'):∀{d:aD}{v:V},Den K H d v->Den K H' d v
 | .none,_,h=>h
 | .bool _,_,h=>h
 | .int _,_,h=>h
 | .str _,_,h=>h
 | .list ds,_,h=>by
  simp only[Den]at h⊢;let⟨a,x,e,f,g⟩:=h;exact⟨a,x,e,f.mono p,DenAll.mono p g⟩
 | .tuple ds,_,h=>by
  simp only[Den]at h⊢;let⟨a,x,e,f,g⟩:=h;exact⟨a,x,e,f.mono p,DenAll.mono p g⟩
 | .dict kvs,_,h=>by
  simp only[Den]at h⊢;let⟨a,e,h⟩:=h;refine⟨a,e,?_⟩;rcases h with⟨i,⟨o,f⟩,l,g⟩|⟨i,o,f,g⟩|⟨c,x,s,⟨o,u,C,t,j,k,r,b⟩,g⟩
  .exact .inl ⟨i,⟨o,p.frzs _ _ _ f⟩,l,DenKV.mono p g⟩
  .exact .inr (.inl ⟨i,o,p.frzs _ _ _ f,DenKK.mono p g⟩)
  .refine .inr <| .inr ⟨c,x,s,⟨o,u,C,p.frzs _ _ _ t,j,k,r,?_⟩,DenXF.mono p g⟩;rcases b with b|⟨dx,n,q,m⟩
   .exact .inl b
   .exact .inr ⟨dx,n,q,p.frzs _ _ _ m⟩
theorem DenAll.mono(p:Pers H H'):∀{ds:List aD}{xs:List V},DenAll K H ds xs->DenAll K H' ds xs
 |[],_,h=>h
 |d::ds,_,h=>by
  simp only[DenAll]at h⊢;let⟨v,vs,e,f,g⟩:=h;exact⟨v,vs,e,Den.mono p f,DenAll.mono p g⟩
theorem DenKV.mono(p:Pers H H'):∀{ds:List (aD×aD)}{xs:List (Int×V×V)},DenKV K H ds xs->DenKV K H' ds xs
 |[],_,h=>by simpa only[DenKV]using h
 |(k,d)::r,_,h=>by
  simp only[DenKV]at h⊢;let⟨u,v,vs,e,a,f,g⟩:=h;exact⟨u,v,vs,e,Den.mono p a,Den.mono p f,DenKV.mono p g⟩
theorem DenKK.mono(p:Pers H H'):∀{ds:List (aD×aD)}{xs:List (Key×V)},DenKK K H ds xs->DenKK K H' ds xs
 |[],_,h=>by simpa only[DenKK]using h
 |(k,d)::r,_,h=>by
  simp only[DenKK]at h⊢;let⟨u,v,vs,e,a,f,g⟩:=h;exact⟨u,v,vs,e,a,Den.mono p f,DenKK.mono p g⟩
theorem DenXF.mono(p:Pers H H'):∀{ds:List (aD×aD)}{xs:List (Str×V)},DenXF K H ds xs->DenXF K H' ds xs
 |[],_,h=>by simpa only[DenXF]using h
 |(.str f,d)::r,_,h=>by
  simp only[DenXF]at h⊢;let⟨v,vs,e,a,g⟩:=h;exact⟨v,vs,e,Den.mono p a,DenXF.mono p g⟩
 |(.none,d)::r,_,h=>by simp only[DenXF]at h⊢;exact DenXF.mono p h
 |(.bool _,d)::r,_,h=>by simp only[DenXF]at h⊢;exact DenXF.mono p h
 |(.int _,d)::r,_,h=>by simp only[DenXF]at h⊢;exact DenXF.mono p h
 |(.list _,d)::r,_,h=>by simp only[DenXF]at h⊢;exact DenXF.mono p h
 |(.tuple _,d)::r,_,h=>by simp only[DenXF]at h⊢;exact DenXF.mono p h
 |(.dict _,d)::r,_,h=>by simp only[DenXF]at h⊢;exact DenXF.mono p h
end
def DenAll.nil:DenAll K H [] []:=rfl
def DenAll.cons{d:aD}(h:Den K H d v)(t:DenAll K H ds vs):DenAll K H (d::ds) (v::vs):=by
   exact⟨v,vs,rfl,h,t⟩
theorem DenAll.paired:∀{ds:List aD}{xs:List V},DenAll K H ds xs->abI (Den K H) ds xs
 |[],_,h=>by simp[DenAll]at h;subst h;exact .nil
 |d::ds,_,h=>by
  let⟨v,vs,e,f,g⟩:=h;subst e;exact .cons f g.paired
theorem jx:∀{ds:List aD}{xs:List V},abI (Den K H) ds xs->DenAll K H ds xs
 |_,_,.nil=>DenAll.nil
 |_,_,.cons f t=>DenAll.cons f (jx t)
def DenAll.length(h:DenAll K H ds xs):ds.length=xs.length:=h.paired.length
theorem Paired.get'{d β:Type}{F:d->β->Prop}:∀{c:List d}{l:List β}{i:Nat}{a:d},abI F c l->c[i]?=some a->∃b,l[i]?=some b/\F a b
 |_,_,_,_,.nil,e=>by simp at e
 |_,_,0,_,.cons f _,e=>by simp at e;subst e;exact⟨_,rfl,f⟩
 |_,_,i+1,a,.cons _ t,e=>by
  let⟨b,g,h⟩:=Paired.get' t ‹_›;exact⟨b,by simpa using g,h⟩
def DenAll.get{d:aD}(h:DenAll K H ds xs)(e:ds[i]?=some d):∃v,xs[i]?=some v/\Den K H d v:=Paired.get' h.paired e
theorem Paired.get2{d β:Type}{F:d->β->Prop}:∀{c:List d}{l:List β}{i:Nat}{b:β},abI F c l->l[i]?=some b->∃a,c[i]?=some a/\F a b
 |_,_,_,_,.nil,e=>by simp at e
 |_,_,0,_,.cons f _,e=>by simp at e;subst e;exact⟨_,rfl,f⟩
 |_,_,i+1,b,.cons _ t,e=>by
  let⟨a,g,h⟩:=Paired.get2 t ‹_›;exact⟨a,by simpa using g,h⟩
def DenAll.get2(h:DenAll K H ds xs)(e:xs[i]?=some v):∃d,ds[i]?=some d/\Den K H d v:=Paired.get2 h.paired e
theorem Paired.append'{e β:Type}{F:e->β->Prop}:∀{a b:List e}{c d:List β},abI F a c->abI F b d->abI F (a++b) (c++d)
 |_,_,_,_,.nil,s=>s
 |_,_,_,_,.cons r t,s=>.cons r (Paired.append' t s)
def DenAll.append{e:List aD}{ys:List V}(h:DenAll K H ds xs)(g:DenAll K H e ys):DenAll K H (ds++e) (xs++ys):=jx (Paired.append' h.paired g.paired)
theorem Paired.take'{b β:Type}{F:b->β->Prop}:∀{a:List b}{l:List β} (n:Nat),abI F a l->abI F (a.take n) (l.take n)
 |_,_,0,_=>.nil
 |_,_,_+1,.nil=>.nil
 |_,_,n+1,.cons r t=>.cons r (Paired.take' n t)
theorem Paired.drop'{b β:Type}{F:b->β->Prop}:∀{a:List b}{l:List β} (n:Nat),abI F a l->abI F (a.drop n) (l.drop n)
 |_,_,0,h=>h
 |_,_,_+1,.nil=>.nil
 |_,_,n+1,.cons _ t=>Paired.drop' n t
def DenAll.take(h:DenAll K H ds xs)(n:Nat):DenAll K H (ds.take n) (xs.take n):=jx (Paired.take' n h.paired)
def DenAll.drop(h:DenAll K H ds xs)(n:Nat):DenAll K H (ds.drop n) (xs.drop n):=jx (Paired.drop' n h.paired)
theorem DenAll.ints:∀ns:List Int,DenAll K H (ns.map .int) (ns.map V.int)
 |[]=>DenAll.nil
 |n::ns=>DenAll.cons rfl (DenAll.ints ns)
end
def fzOf:List (aD×aD)->Option aD
 |[(.none,.list ds)]=>some (.list ds)
 |[(.none,.dict es)]=>some (.dict es)
 |_=>none
mutual
def TAt(K:Kd)(H:Hp)(τ:List (List Nat×Addr))(p:List Nat):aD->V->Prop
 | .list ts,v=>∃a e,τ.lookup p=some a/\v = .ref a/\H a=some (.lst e)/\TAtL K H τ p 0 ts e
 | .dict kvs,v=>(∃d,fzOf kvs=some d/\Den K H d v) \/
   (fzOf kvs=none/\excC kvs=none/\∃a f,τ.lookup p=some a/\v = .ref a/\H a=some (dX a f)/\Cu kvs/\TAtD K H τ p 0 kvs f) \/
   (fzOf kvs=none/\excC kvs=none/\∃a f,τ.lookup p=some a/\v = .ref a/\H a=some (.dK f)/\TAtK K H τ p 0 kvs f) \/
   ∃c a dx C e,excC kvs=some c/\τ.lookup p=some a/\v = .ref a/\H a=some (.ins C dx e)/\ClsN K c C/\TAtF K H τ p 0 kvs e
 | .none,v=>Den K H .none v
 | .bool b,v=>Den K H (.bool b) v
 | .int i,v=>Den K H (.int i) v
 | .str x,v=>Den K H (.str x) v
 | .tuple ds,v=>Den K H (.tuple ds) v
def TAtL(K:Kd)(H:Hp)(τ:List (List Nat×Addr))(p:List Nat)(i:Nat):List aD->List V->Prop
 |[],xs=>xs=[]
 |t::ts,xs=>∃v vs,xs=v::vs/\TAt K H τ (p++[i]) t v/\TAtL K H τ p (i+1) ts vs
def TAtD(K:Kd)(H:Hp)(τ:List (List Nat×Addr))(p:List Nat)(i:Nat):List (aD×aD)->List (Int×V×V)->Prop
 |[],es=>es=[]
 |(k,t)::r,es=>∃u v vs,es=(iz K.w k,u,v)::vs/\Den K H k u/\TAt K H τ (p++[i]) t v/\TAtD K H τ p (i+1) r vs
def TAtK(K:Kd)(H:Hp)(τ:List (List Nat×Addr))(p:List Nat)(i:Nat):List (aD×aD)->List (Key×V)->Prop
 |[],es=>es=[]
 |(k,t)::r,es=>∃a v vs,es=(a,v)::vs/\(k=keyD a/\∀x∈vs,x.1≠a)/\TAt K H τ (p++[i]) t v/\TAtK K H τ p (i+1) r vs
def TAtF(K:Kd)(H:Hp)(τ:List (List Nat×Addr))(p:List Nat)(i:Nat):List (aD×aD)->List (Str×V)->Prop
 |[],xs=>xs=[]
 |(k,t)::r,xs=>match k with
  | .str f=>∃v vs,xs=(f,v)::vs/\TAt K H τ (p++[i]) t v/\TAtF K H τ p (i+1) r vs
  | .none=>TAtF K H τ p (i+1) r xs
  |_=>False
end
theorem bZ{β b:Type}[BEq β][LawfulBEq β]{l:List (β×b)}{p:β}{a:b}(h:l.lookup p=some a):a∈l.map (·.2):=by
 induction l with
 |nil=>cases h
 |cons x l i=>
  grind
section
variable {K:Kd}{H H':Hp}{τ:List (List Nat×Addr)}
mutual
theorem TAt.mono(f:Pers H H')(e:∀a∈τ.map (·.2),H' a=H a):∀{d:aD}{p:List Nat}{v:V},TAt K H τ p d v->TAt K H' τ p d v
 | .none,_,_,h=>by simp only[TAt]at h⊢;exact h.mono f
 | .bool _,_,_,h=>by simp only[TAt]at h⊢;exact h.mono f
 | .int _,_,_,h=>by simp only[TAt]at h⊢;exact h.mono f
 | .str _,_,_,h=>by simp only[TAt]at h⊢;exact h.mono f
 | .tuple _,_,_,h=>by simp only[TAt]at h⊢;exact h.mono f
 | .list ts,_,_,h=>by
  simp only[TAt]at h⊢;let⟨a,x,b,j,i,g⟩:=h;exact⟨a,x,b,j,(e a (bZ b)).trans i,TAtL.mono f e g⟩
 | .dict kvs,_,_,h=>by
  simp only[TAt]at h⊢;rcases h with⟨d,b,h⟩|⟨m,z,a,l,b,j,i,k,g⟩|⟨m,z,a,l,b,j,i,g⟩|⟨c,a,dx,C,x,n,b,j,i,k,g⟩
  .exact .inl ⟨d,b,h.mono f⟩
  .exact .inr (.inl ⟨m,z,a,l,b,j,(e a (bZ b)).trans i,k,TAtD.mono f e g⟩)
  .exact .inr (.inr (.inl ⟨m,z,a,l,b,j,(e a (bZ b)).trans i,TAtK.mono f e g⟩))
  .exact .inr (.inr <| .inr ⟨c,a,dx,C,x,n,b,j,(e a (bZ b)).trans i,k,TAtF.mono f e g⟩)
theorem TAtL.mono(b:Pers H H')(e:∀a∈τ.map (·.2),H' a=H a):∀{ds:List aD}{p:List Nat}{i:Nat}{xs:List V},TAtL K H τ p i ds xs->TAtL K H' τ p i ds xs
 |[],_,_,_,h=>by simpa only[TAtL]using h
 |t::ts,_,_,_,h=>by
  simp only[TAtL]at h⊢;let⟨v,vs,d,c,g⟩:=h;exact⟨v,vs,d,TAt.mono b e c,TAtL.mono b e g⟩
theorem TAtD.mono(b:Pers H H')(e:∀a∈τ.map (·.2),H' a=H a):∀{ds:List (aD×aD)}{p:List Nat}{i:Nat}{xs:List (Int×V×V)},TAtD K H τ p i ds xs->TAtD K H' τ p i ds xs
 |[],_,_,_,h=>by simpa only[TAtD]using h
 |(k,t)::r,_,_,_,h=>by
  simp only[TAtD]at h⊢;let⟨u,v,vs,f,g,d,c⟩:=h;exact⟨u,v,vs,f,g.mono b,TAt.mono b e d,TAtD.mono b e c⟩
theorem TAtK.mono(b:Pers H H')(e:∀a∈τ.map (·.2),H' a=H a):∀{ds:List (aD×aD)}{p:List Nat}{i:Nat}{xs:List (Key×V)},TAtK K H τ p i ds xs->TAtK K H' τ p i ds xs
 |[],_,_,_,h=>by simpa only[TAtK]using h
 |(k,t)::r,_,_,_,h=>by
  simp only[TAtK]at h⊢;let⟨u,v,vs,f,g,d,c⟩:=h;exact⟨u,v,vs,f,g,TAt.mono b e d,TAtK.mono b e c⟩
theorem TAtF.mono(b:Pers H H')(e:∀a∈τ.map (·.2),H' a=H a):∀{ds:List (aD×aD)}{p:List Nat}{i:Nat}{xs:List (Str×V)},TAtF K H τ p i ds xs->TAtF K H' τ p i ds xs
 |[],_,_,_,h=>by simpa only[TAtF]using h
 |(.str f,t)::r,_,_,_,h=>by
  simp only[TAtF]at h⊢;let⟨v,vs,j,c,g⟩:=h;exact⟨v,vs,j,TAt.mono b e c,TAtF.mono b e g⟩
 |(.none,d)::r,_,_,_,h=>by simp only[TAtF]at h⊢;exact TAtF.mono b e h
 |(.bool _,d)::r,_,_,_,h=>by simp only[TAtF]at h
 |(.int _,d)::r,_,_,_,h=>by simp only[TAtF]at h
 |(.list _,d)::r,_,_,_,h=>by simp only[TAtF]at h
 |(.tuple _,d)::r,_,_,_,h=>by simp only[TAtF]at h
 |(.dict _,d)::r,_,_,_,h=>by simp only[TAtF]at h
end
end
abbrev Cx.kd(X:Cx):Kd:=⟨X.K,X.w⟩
section
variable {X:Cx}{pins:List (Addr×Obj)}{σ:St}{H:Hp}{s:Io}
mutual
theorem Den.reads(I:Inv X pins σ H s):∀{d:aD}{v:V}{u:Ad},d.hasDict=false->Den X.kd H d v->RelV v u->∃as,Reads s.heap u d as
 | .none,v,u,_,h,r=>by simp only[Den]at h;subst h;cases r;exact⟨_,.none⟩
 | .bool b,v,u,nd,h,r=>by simp only[Den]at h;subst h;cases r;exact⟨_,.bool b⟩
 | .int i,v,u,nd,h,r=>by simp only[Den]at h;subst h;let⟨t,rfl⟩:=r;exact⟨_,.int i t⟩
 | .str x,v,u,nd,h,r=>by simp only[Den]at h;subst h;let⟨t,rfl⟩:=r;exact⟨_,.str x t⟩
 | .list ds,v,u,nd,h,r=>by
  simp only[Den]at h;let⟨a,p,rfl,f,g⟩:=h;cases r;let⟨l,m,⟨o,n,e,c,_,k⟩,_⟩:=I.list f.sq;let⟨as,j⟩:=DenAll.reads I (by simpa only[acx]using nd) g m;exact⟨_,.list e c k (by simpa using j)⟩
 | .tuple ds,v,u,nd,h,r=>by
  simp only[Den]at h;let⟨a,p,rfl,f,g⟩:=h;cases r;let⟨l,m,⟨o,e,c,n,k⟩,_⟩:=I.tuple f;let⟨as,j⟩:=DenAll.reads I (by simpa only[acx]using nd) g m;exact⟨_,.tuple e c k (by simpa using j)⟩
 | .dict _,v,u,nd,h,r=>by simp[acx]at nd
theorem DenAll.reads(I:Inv X pins σ H s):∀{ds:List aD}{xs:List V}{us:List Ad},acb ds=false->DenAll X.kd H ds xs->Vals xs us->∃as,adF s.heap us ds as
 |[],xs,us,_,h,r=>by simp only[DenAll]at h;subst h;cases r;exact⟨_,.nil⟩
 | d::ds,xs,us,nd,h,r=>by
  simp only[acb,aeq]at nd;simp only[DenAll]at h;let⟨v,vs,rfl,f,g⟩:=h
  cases r with
  |cons r1 a=>
   let⟨a1,b⟩:=Den.reads I nd.1 f r1;let⟨a2,c⟩:=DenAll.reads I nd.2 g a;exact⟨_,.cons b c⟩
end
theorem Inv.freeze(I:Inv X pins σ H s)(h:H a=some (.lst xs)):∃o,Inv X pins σ (upd H a (.frz o (.lst xs))) s:=by
 let⟨f,i,n,r,e⟩:=I.hok a _ h;refine⟨{cls:=.type "list",data:=.seq i.toArray n},I.un (h':=s.heap) (t':=s.toks) ⟨λb d q _ _ _=>q,λb d q _ _ _=>⟨d.slots,q⟩,λb d q z _=>?_,λb d q _=>⟨d,q⟩,λb y q=>?_,λb d u q=>?_,λb p q=>⟨#[],?_⟩⟩ λb d q=>?_⟩
 .rw[aA (abx (bx h z))];exact z
 .rw[aA (zm q h (by simp))];exact q
 .rw[aA (zm q h (by intro z;cases z))];exact q
 .rw[aA (zm q h (by simp)),q];simp
 .by_cases hb:b=a
  .subst hb;rw[aB]at q;cases q;exact⟨e,f,i,n,r,e⟩
  .rw[aA hb]at q;exact(I.hok b d q).stay (λ_ _ _ z=>z) (λc z=>by rw[aA (zm z h (by simp))];exact z) λc y z=>by rw[aA (zm z h (by simp))];exact z
end
def Lh:Expr->Bool
 | .Starred ..=>true
 |_=>false
def aI{a:List Expr}(h:Lh e=false):aac (e::a) env=(false,eval e env)::aac a env:=by
 cases e<;>first|rfl|cases h
def cU(h:Lh e=false):aac [e] env=[(false,eval e env)]:=aI h
inductive R where
 |imm (d:aD)|obj (k:Nat)|new (ds:List aD)|at (k:Nat) (p:List Nat)|newT (t:aD)
structure MSt where
 vs:List (Option R)
 os:List (List aD)
 np:Nat
structure Kx extends Kd where
 eb:EB
instance:Coe Kx Kd:=⟨Kx.toKd⟩
abbrev Cx.kx(X:Cx):Kx:=⟨X.kd,X.eb⟩
abbrev Al:=List Ao
def Ao.ads:Ao->List Addr
 | .L a=>[a]
 | .T t=>t.map (·.2)
def ads(a:Al):List Addr:=a.flatMap Ao.ads
def jN(a β:Al):ads (a++β)=ads a++ads β:=by unfold ads;rw[agv]
def Mu:HO->Bool
 | .tup _=>false
 | .frz _ _=>false
 |_=>true
def OwnAt(K:Kd)(H:Hp):Ao->List aD->Prop
 | .L a,ds=>∃x,H a=some (.lst x)/\DenAll K H ds x
 | .T τ,ds=>(∃t v,ds=[t]/\TAt K H τ [] t v/\∃a,τ.lookup []=some a/\v = .ref a)/\∀a∈τ.map (·.2),∃o,H a=some o/\Mu o=true
theorem OwnAt.mem(h:OwnAt K H ao ds)(c:a∈ao.ads):∃o,H a=some o/\Mu o=true:=by
 cases ao with
 |L b=>cases aaf.mp c;let⟨x,e,_⟩:=h;exact⟨_,e,rfl⟩
 |T d=>exact h.2 a c
theorem OwnAt.mono(h:OwnAt K H ao ds)(p:Pers H H')(e:∀a∈ao.ads,H' a=H a):OwnAt K H' ao ds:=by
 cases ao with
 |L b=>
  let⟨x,q,g⟩:=h;exact⟨x,(e b (aaf.mpr rfl)).trans q,g.mono p⟩
 |T f=>
  let⟨⟨t,v,d,g,r⟩,m⟩:=h;exact⟨⟨t,v,d,g.mono p e,r⟩,λa c=>by rw[e a c];exact m a c⟩
def RelS(K:Kd)(c:Al)(H:Hp):R->V->Prop
 | .imm d,v=>Den K H d v
 | .obj k,v=>∃a,c[k]?=some (.L a)/\v = .ref a
 | .at k p,v=>∃b a,c[k]?=some (.T b)/\b.lookup p=some a/\v = .ref a
 | .new _,_=>False
 | .newT _,_=>False
def RelR(K:Kd)(e:Al)(f H:Hp):R->V->Prop
 | .imm d,v=>Den K H d v
 | .obj k,v=>∃a,e[k]?=some (.L a)/\v = .ref a
 | .at k p,v=>∃c a,e[k]?=some (.T c)/\c.lookup p=some a/\v = .ref a
 | .new ds,v=>∃a x,v = .ref a/\f a=none/\H a=some (.lst x)/\DenAll K H ds x
 | .newT t,v=>∃c a,v = .ref a/\c.lookup []=some a/\(c.map (·.2)).Nodup/\(∀b∈c.map (·.2),f b=none)/\OwnAt K H (.T c) [t]
def Frm(a:Al)(H c:Hp):Prop:=∀b o,H b=some o->b∉ads a->c b=some o
theorem Frm.refl(a:Al)(H:Hp):Frm a H H:=λ_ _ e _=>e
theorem Frm.trans(a:Frm α H H1)(b:Frm α H1 H2):Frm α H H2:=λc o e n=>b c o (a c o e n) n
structure Ext(np:Nat)(α:Al)(H:Hp)(α':Al)(H':Hp):Prop where
 pre:α'.take np=α.take np
 frm:Frm α H H'
 new:∀a∈ads α',a∈ads α\/H a=none
 old:∀a∈ads α,∃o,H' a=some o
theorem Ext.trans{np:Nat}{c:Al}(x:Ext np α H α1 H1)(y:Ext np α1 H1 c H2):Ext np α H c H2:=by
 have out:∀b o,H b=some o->b∉ads α->b∉ads α1:=λb o e n f=>by
  rcases x.new b f with z|z
  .exact n z
  .grind
 refine⟨y.pre.trans x.pre,λb o e n=>y.frm b o (x.frm b o e n) (out b o e n),λa d=>?_,λa d=>?_⟩
 .rcases y.new a d with z|z
  .exact x.new a z
  .cases q:H a with
   |none=>exact .inr rfl
   | some o=>
    by_cases h:a∈ads α
    .exact .inl h
    .have:=x.frm a o q h
     grind
 .obtain⟨o,e⟩:=x.old a d
  by_cases h:a∈ads α1
  .exact y.old a h
  .exact⟨o,y.frm a o e h⟩
theorem Ext.nil{np:Nat}(x:Ext np α H α1 H1)(h:H1 a=none):H a=none:=by
 cases q:H a with
 |none=>rfl
 | some o=>
  by_cases b:a∈ads α
  .obtain⟨o',e⟩:=x.old a b
   grind
  .have:=x.frm a o q b
   grind
def Ext.less{np n1:Nat}(x:Ext n1 α H α' H')(h:np≤n1):Ext np α H α' H':=by
 refine⟨?_,x.frm,x.new,x.old⟩;have:=congrArg (List.take np) x.pre;rw[List.take_take,List.take_take,aex h]at this;omega
structure Rel(K:Kx)(α:Al)(m:MSt)(σ:St)(H:Hp):Prop where
 nd:(ads α).Nodup
 len:α.length=m.os.length
 own:∀(k:Nat) (ao:Ao) (ds:List aD),α[k]?=some ao->m.os[k]?=some ds->OwnAt K H ao ds
 vlen:σ.length=m.vs.length
 var:∀(i:Nat) (r:R),m.vs[i]?=some (some r)->∃v,σ[i]?=some (some v)/\RelS K α H r v
 npl:m.np≤α.length
 ebl:K.eb.np≤m.np
 ebx:Ext K.eb.np K.eb.be K.eb.H α H
section
variable {K:Kx}{α:Al}{m m':MSt}{σ:St}{H H0 H1 H':Hp}{r:R}{v:V}
theorem RelS.rr{K:Kd}(h:RelS K α H r v):RelR K α Hb H r v:=by
 cases r with
 |imm d=>exact h
 |obj k=>exact h
 | «at» k p=>exact h
 |new ds=>exact h.elim
 |newT t=>exact h.elim
theorem Rel.mem(R:Rel K α m σ H)(g:a∈ads α):∃o,H a=some o/\Mu o=true:=by
 let⟨d,b,f⟩:=ab3.mp g;let⟨k,c,e⟩:=abQ.mp b;have b:α[k]?=some d:=by rw[mT c,e]
 have h:m.os[k]?=some (m.os[k]'(by rw[<-R.len];exact c)):=mT _;exact(R.own k d _ b h).mem f
theorem Rel.out(R:Rel K α m σ H)(h:H a=none):a∉ads α:=λb=>by
 obtain _:=R.mem b
 grind
theorem Rel.pers(R:Rel K α m σ H)(F:Frm α H H'):Pers H H' where
 tups:=λb x e=>F b _ e λh=>by let⟨y,q,z⟩:=R.mem h;rw[e]at q;cases q;cases z
 frzs:=λb o u e=>F b _ e λh=>by let⟨y,q,z⟩:=R.mem h;rw[e]at q;cases q;cases z
theorem Ext.of{np:Nat}(R:Rel K α m σ H')(F:Frm α H H'):Ext np α H α H':=
 ⟨rfl,F,λ_ h=>.inl h,λa b=>let ⟨xs,q,_⟩:=R.mem b;⟨_,q⟩⟩
theorem OwnAt.keep{K:Kd}(h:OwnAt K H1 ao ds)(p:Pers H1 H)(F:Frm α H1 H)(n:∀b∈ao.ads,b∉ads α):OwnAt K H ao ds:=
 h.mono p λa c=>by
  let⟨o,e,_⟩:=h.mem c;rw[e];exact F a o e (n a c)
theorem RelR.keep(c:Rel K α m σ H0)(R:Rel K α m' σ H1)(F:Frm α H1 H)(h:RelR K α H0 H1 r v):RelR K α H0 H r v:=by
 cases r with
 |imm d=>exact Den.mono (R.pers F) h
 |obj k=>exact h
 | «at» k p=>exact h
 |new ds=>
  let⟨a,x,e,n,q,g⟩:=h;exact⟨a,x,e,n,F a _ q (c.out n),g.mono (R.pers F)⟩
 |newT t=>
  let⟨f,a,e,j,nd,n,g⟩:=h;exact⟨f,a,e,j,nd,n,g.keep (R.pers F) F λb i=>c.out (n b i)⟩
theorem RelR.base(R:Rel K α m σ H)(F:Frm α H0 H)(h:RelR K α H H' r v):RelR K α H0 H' r v:=by
 have old:∀a,H a=none->H0 a=none:=λa n=>by
  cases z:H0 a with
  |none=>rfl
  |some o=>
   have:=F a o z (R.out n)
   grind
 cases r with
 |imm d=>exact h
 |obj k=>exact h
 | «at» k p=>exact h
 |new ds=>
  let⟨a,x,e,n,q,g⟩:=h;exact⟨a,x,e,old a n,q,g⟩
 |newT t=>
  let⟨c,a,e,i,nd,n,g⟩:=h;exact⟨c,a,e,i,nd,λb f=>old b (n b f),g⟩
def chD:aD->Nat->Option aD
 | .list ts,i=>ts[i]?
 | .dict kvs,i=>match kvs[i]? with
  |some (.none,_)=>none
  |some (_,t)=>some t
  |none=>none
 |_,_=>none
def getT:aD->List Nat->Option aD
 |t,[]=>some t
 |t,i::p=>(chD t i).bind λa=>getT a p
def iQ:aD->Option aD
 | .list _=>none
 | .dict k=>fzOf k
 |d=>some d
def db:List aD->Option (List aD)
 |[]=>some []
 |t::ts=>match iQ t,db ts with|some d,some ds=>some (d::ds)|_,_=>none
def ndL(m:MSt)(k:Nat)(p:List Nat):Option (List aD):=match m.os[k]? with
 |some [t]=>match getT t p with
  |some (.list ts)=>db ts
  |_=>none
 |_=>none
theorem jz{K:Kd}{p:List Nat}{t d:aD}(h:TAt K H τ p t v)(e:iQ t=some d):Den K H d v:=by
 cases t with
 |list ts=>cases e
 | dict k=>
  have b:fzOf k=some d:=e;rcases h with _|⟨z,_⟩|⟨z,_⟩|⟨c,a,dx,C,x,f,_⟩
  .simp_all
  .simp_all
  .rw[b]at z;cases z
  .exfalso;unfold fzOf at b;unfold excC at f
   split at b<;>contradiction
 |none=>cases e;simpa only[TAt]using h
 |bool _=>cases e;simpa only[TAt]using h
 |int _=>cases e;simpa only[TAt]using h
 |str _=>cases e;simpa only[TAt]using h
 |tuple _=>cases e;simpa only[TAt]using h
theorem j0{K:Kd}{τ:List (List Nat×Addr)}{p:List Nat}:∀{ts ds:List aD}{i:Nat}{xs:List V},TAtL K H τ p i ts xs->db ts=some ds->DenAll K H ds xs
 |[],ds,i,xs,h,e=>by
  cases e;subst h;rfl
 | t::ts,ds,i,xs,h,e=>by
  let⟨v,vs,rfl,b,g⟩:=h;simp[db]at e
  cases q1:iQ t with
  |none=>rw[q1]at e;cases e
  | some d=>
   cases q2:db ts with
   |none=>rw[q1,q2]at e;cases e
   |some a=>
    rw[q1,q2]at e;cases e;exact DenAll.cons (jz b q1) (j0 g q2)
theorem TAtL.get{K:Kd}{τ:List (List Nat×Addr)}{p:List Nat}:∀{ts:List aD}{i j:Nat}{xs:List V}{t:aD},TAtL K H τ p i ts xs->ts[j]?=some t->∃v,xs[j]?=some v/\TAt K H τ (p++[i+j]) t v
 |[],_,_,_,_,_,e=>by simp at e
 |t::ts,i,0,xs,t',h,e=>by
  let⟨v,vs,rfl,a,_⟩:=h;simp at e;subst e;exact⟨v,rfl,a⟩
 |t::ts,i,j+1,xs,t',h,e=>by
  let⟨v,vs,rfl,_,g⟩:=h;let⟨b,c,d⟩:=TAtL.get g ‹_›;exact⟨b,by simpa using c,by rw[show i+(j+1)=i+1+j by omega];exact d⟩
theorem TAtD.get{K:Kd}{τ:List (List Nat×Addr)}{p:List Nat}:∀{ts:List (aD×aD)}{i j:Nat}{xs:List (Int×V×V)}{k t:aD},TAtD K H τ p i ts xs->ts[j]?=some (k,t)->∃u v,xs[j]?=some (iz K.w k,u,v)/\Den K H k u/\TAt K H τ (p++[i+j]) t v
 |[],_,_,_,_,_,_,e=>by simp at e
 |(k,t)::ts,i,0,xs,k',t',h,e=>by
  let⟨u,v,vs,rfl,f,b,_⟩:=h;simp at e;let⟨rfl,rfl⟩:=e;exact⟨u,v,rfl,f,b⟩
 |(k,t)::ts,i,j+1,xs,k',t',h,e=>by
  let⟨u,v,vs,rfl,_,_,g⟩:=h;let⟨c,d,l,n,a⟩:=TAtD.get g ‹_›;exact⟨c,d,by simpa using l,n,by rw[show i+(j+1)=i+1+j by omega];exact a⟩
theorem TAtK.get{K:Kd}{τ:List (List Nat×Addr)}{p:List Nat}:∀{ts:List (aD×aD)}{i j:Nat}{xs:List (Key×V)}{k t:aD},TAtK K H τ p i ts xs->ts[j]?=some (k,t)->∃v,TAt K H τ (p++[i+j]) t v
 |[],_,_,_,_,_,_,e=>by simp at e
 |(k,t)::ts,i,0,xs,k',t',h,e=>by
  let⟨u,v,vs,rfl,d,a,_⟩:=h;simp at e;let⟨rfl,rfl⟩:=e;exact⟨v,a⟩
 |(k,t)::ts,i,j+1,xs,k',t',h,e=>by
  let⟨u,v,vs,rfl,_,_,g⟩:=h;let⟨b,c⟩:=TAtK.get g ‹_›;exact⟨b,by rw[show i+_=i+1+j by omega];exact c⟩
theorem TAtF.get{K:Kd}{τ:List (List Nat×Addr)}{p:List Nat}:∀{ts:List (aD×aD)}{i j:Nat}{xs:List (Str×V)}{f:Str}{t:aD},TAtF K H τ p i ts xs->ts[j]?=some (.str f,t)->∃v,(f,v)∈xs/\TAt K H τ (p++[i+j]) t v
 |[],_,_,_,_,_,_,e=>by simp at e
 |(k,t)::ts,i,0,xs,f,t',h,e=>by
  simp_all
  let⟨v,vs,rfl,d,_⟩:=h;exact⟨v,aaa,d⟩
 | (k,t)::ts,i,j+1,xs,f,t',h,e=>by
  have go:∀{y:List (Str×V)},TAtF K H τ p (i+1) ts y->∃v,(f,v)∈y/\TAt K H τ (p++[i+(j+1)]) t' v:=λ{y} g=>by
   let⟨a,b,c⟩:=TAtF.get (j:=j) g (by simpa using e);exact⟨a,b,by rw[show i+(j+1)=i+1+j by omega];exact c⟩
  cases k with
  |str l=>
   simp only[TAtF]at h;let⟨v,vs,rfl,_,g⟩:=h;let⟨a,b,c⟩:=go g;exact⟨a,aab _ b,c⟩
  |none=>simp only[TAtF]at h;exact go h
  |bool _=>simp only[TAtF]at h
  |int _=>simp only[TAtF]at h
  |list _=>simp only[TAtF]at h
  |tuple _=>simp only[TAtF]at h
  |dict _=>simp only[TAtF]at h
theorem TAtF.key{K:Kd}{p:List Nat}:∀{ts:List (aD×aD)}{i:Nat}{xs:List (Str×V)}{k t:aD},TAtF K H τ p i ts xs->(k,t)∈ts->k≠.none->∃f,k = .str f
 |[],_,_,_,_,_,e,_=>by simp at e
 | (k,t)::ts,i,xs,k',t',h,e,kn=>by
  cases k with
  |str a=>
   let⟨v,vs,rfl,_,g⟩:=h;rcases aae.mp e with e|e
   .grind
   .exact g.key e kn
  |none=>
   simp only[TAtF]at h;rcases aae.mp e with e|e
   .grind
   .exact h.key e kn
  |bool _=>simp[TAtF]at h
  |int _=>simp[TAtF]at h
  |list _=>simp only[TAtF]at h
  |tuple _=>simp only[TAtF]at h
  |dict _=>simp[TAtF]at h
theorem TAt.get{K:Kd}{τ:List (List Nat×Addr)}:∀{q p:List Nat}{t t':aD}{v:V},TAt K H τ p t v->getT t q=some t'->∃v',TAt K H τ (p++q) t' v'
 |[],p,t,t',v,h,e=>by cases e;exact⟨v,by rw[aaZ];exact h⟩
 | i::q,p,t,t',v,h,e=>by
  simp only[getT]at e
  cases z:chD t i with
  |none=>rw[z]at e;cases e
  | some o=>
   rw[z]at e;have G:getT o q=some t':=e;have step:∃l,TAt K H τ (p++[i]) o l:=by
    cases t with
    |list ts=>
     simp only[TAt]at h;let⟨a,B,_,_,_,g⟩:=h;let⟨l,_,b⟩:=g.get (j:=i) z;exact⟨l,by rw[acm]at b;exact b⟩
    | dict s=>
     simp only[chD]at z
     cases zi:s[i]? with
     |none=>rw[zi]at z;cases z
     | some A=>
      let⟨k,y⟩:=A;rw[zi]at z;have n:k≠.none:=λq=>by subst q;cases z
      have E:y=o:=by
       split at z<;>simp_all
      subst E;simp only[TAt]at h;rcases h with⟨d,w,_⟩|⟨_,_,a,D,_,_,_,_,g⟩|⟨_,_,a,D,_,_,_,g⟩|⟨c,a,dx,C,B,I,_,_,_,_,g⟩
      .exfalso;unfold fzOf at w
       split at w
       .cases i<;>simp at zi;exact n zi.1.symm
       .cases i<;>simp at zi;exact n zi.1.symm
       .cases w
      .obtain⟨u,l,_,_,b⟩:=g.get (j:=i) zi;exact⟨l,by rw[acm]at b;exact b⟩
      .obtain⟨l,b⟩:=g.get (j:=i) zi;exact⟨l,by rw[acm]at b;exact b⟩
      .obtain⟨f,rfl⟩:=g.key (Ld zi) n;let⟨l,_,b⟩:=g.get (j:=i) zi;exact⟨l,by rw[acm]at b;exact b⟩
    |none=>cases z
    |bool _=>cases z
    |int _=>cases z
    |str _=>cases z
    |tuple _=>cases z
   let⟨l,F⟩:=step;let⟨v',x⟩:=TAt.get F G;exact⟨v',by rw[aa3]at x;exact x⟩
def lsOf(m:MSt):R->Option (List aD)
 | .imm (.list ds)=>some ds
 | .obj k=>m.os[k]?
 | .new ds=>some ds
 | .at k p=>ndL m k p
 |_=>none
mutual
def eraT:aD->Option aD
 | .list ts=>(eraL ts).map .list
 | .dict k=>fzOf k
 | .none=>some .none
 | .bool b=>some (.bool b)
 | .int i=>some (.int i)
 | .str x=>some (.str x)
 | .tuple ds=>some (.tuple ds)
def eraL:List aD->Option (List aD)
 |[]=>some []
 |t::ts=>match eraT t,eraL ts with|some d,some ds=>some (d::ds)|_,_=>none
end
def ndT(m:MSt)(k:Nat)(p:List Nat):Option aD:=match m.os[k]? with
 |some [t]=>getT t p
 |_=>none
def asD(m:MSt):R->Option aD
 | .imm d=>some d
 | .obj k=>(m.os[k]?).map .list
 | .new ds=>some (.list ds)
 | .at k p=>match ndT m k p with
  |some (.list ts)=>(eraL ts).map .list
  |_=>none
 | .newT _=>none
theorem RelR.node(R:Rel K α m σ H){k:Nat}{p:List Nat}(h:RelR K α H0 H (.at k p) v){t:aD}(e:ndT m k p=some t):∃τ a v',α[k]?=some (.T τ)/\τ.lookup p=some a/\v = .ref a/\TAt K H τ p t v':=by
 let⟨τ,a,b,i,d⟩:=h;unfold ndT at e
 split at e
 .rename_i t0 e0;let⟨⟨j,l,f,g,_⟩,_⟩:=R.own k _ _ b e0;cases f;let⟨v',c⟩:=g.get e;exact⟨τ,a,v',b,i,d,by simpa using c⟩
 .cases e
theorem RelR.list(R:Rel K α m σ H)(h:RelR K α H0 H r v)(e:lsOf m r=some ds):∃a xs,v = .ref a/\SqL K H a xs/\DenAll K H ds xs:=by
 cases r with
 | imm d=>
  cases d with
  |list s=>
   cases e;have j:Den K H (.list ds) v:=h;let⟨a,xs,b,f,g⟩:=j;exact⟨a,xs,b,f.sq,g⟩
  |none=>cases e
  |bool _=>cases e
  |int _=>cases e
  |str _=>cases e
  |tuple _=>cases e
  |dict _=>cases e
 |obj k=>
  let⟨a,b,rfl⟩:=h;let⟨xs,q,g⟩:=R.own k _ ds b e;exact⟨a,xs,rfl,SqL.of q,g⟩
 |new s=>
  cases e;let⟨a,xs,b,n,q,g⟩:=h;exact⟨a,xs,b,SqL.of q,g⟩
 | «at» k p=>
  have c:ndL m k p=some ds:=e;let⟨ts,b,l⟩:∃ts,ndT m k p=some (.list ts)/\db ts=some ds:=by
   unfold ndL at c;unfold ndT
   split at c
   .split at c
    .rename_i h0 _ ts h1;exact⟨ts,h1,c⟩
    .cases c
   .cases c
  let⟨t,a,w,_,o,rfl,g⟩:=RelR.node R h b;simp only[TAt]at g;let⟨u,xs,i,_,q,g⟩:=g;rw[o]at i;cases i;exact⟨a,xs,rfl,SqL.of q,j0 g l⟩
 |newT _=>cases e
end
section
variable {X:Cx}{pins:List (Addr×Obj)}{σ:St}{H:Hp}{s:Io}{τ:List (List Nat×Addr)}
mutual
theorem TAt.reads(I:Inv X pins σ H s):∀{t d:aD}{p:List Nat}{v:V}{u:Ad},eraT t=some d->d.hasDict=false->TAt X.kd H τ p t v->RelV v u->∃as,Reads s.heap u d as
 | .none,d,p,v,u,e,nd,h,r=>by simp only[eraT]at e;cases e;simp only[TAt]at h;exact h.reads I nd r
 | .bool b,d,p,v,u,e,nd,h,r=>by simp only[eraT]at e;cases e;simp only[TAt]at h;exact h.reads I nd r
 | .int i,d,p,v,u,e,nd,h,r=>by simp only[eraT]at e;cases e;simp only[TAt]at h;exact h.reads I nd r
 | .str x,d,p,v,u,e,nd,h,r=>by simp only[eraT]at e;cases e;simp only[TAt]at h;exact h.reads I nd r
 | .tuple ds,d,p,v,u,e,nd,h,r=>by simp only[eraT]at e;cases e;simp only[TAt]at h;exact h.reads I nd r
 | .dict kvs,d,p,v,u,e,nd,h,r=>by
  simp only[eraT]at e;exact(jz h (show iQ (.dict kvs)=some d from e)).reads I nd r
 | .list ts,d,p,v,u,e,nd,h,r=>by
  simp only[eraT]at e
  cases q:eraL ts with
  |none=>rw[q]at e;cases e
  |some ds=>
   rw[q]at e;cases e;simp only[TAt]at h;let⟨a,w,_,rfl,f,g⟩:=h;cases r;let⟨m,l,⟨o,n,e,c,_,j⟩,_⟩:=I.list (SqL.of f);let⟨as,k⟩:=TAtL.reads I q (by simpa only[acx]using nd) g l;exact⟨_,.list e c j (by simpa using k)⟩
theorem TAtL.reads(I:Inv X pins σ H s):∀{ts ds:List aD}{p:List Nat}{i:Nat}{xs:List V}{us:List Ad},eraL ts=some ds->acb ds=false->TAtL X.kd H τ p i ts xs->Vals xs us->∃as,adF s.heap us ds as
 |[],ds,p,i,xs,us,e,nd,h,r=>by
  simp only[eraL]at e;cases e;simp only[TAtL]at h;subst h
  cases r;exact⟨_,.nil⟩
 | t::ts,ds,p,i,xs,us,e,nd,h,r=>by
  simp only[eraL]at e
  cases q1:eraT t with
  |none=>rw[q1]at e;cases e
  | some d=>
   cases q2:eraL ts with
   |none=>rw[q1,q2]at e;cases e
   | some b=>
    rw[q1,q2]at e;cases e;simp only[acb,aeq]at nd;simp only[TAtL]at h;let⟨v,vs,rfl,c,g⟩:=h
    cases r with
    |cons r1 a=>
     let⟨a1,j⟩:=TAt.reads I q1 nd.1 c r1;let⟨a2,f⟩:=TAtL.reads I q2 nd.2 g a;exact⟨_,.cons j f⟩
end
end
theorem RelR.reads{s:Io}{m:MSt}{u:Ad}{d:aD}(I:Inv X pins σ H s)(R:Rel X.kx α m σ' H)(h:RelR X.kd α H0 H r v)(j:RelV v u)(e:asD m r=some d)(nd:d.hasDict=false):∃as,Reads s.heap u d as:=by
 have t:∀{ds:List aD},lsOf m r=some ds->acb ds=false->∃as,Reads s.heap u (.list ds) as:=λ{ds} e nd=>by
  let⟨a,x,rfl,f,g⟩:=RelR.list R h e;cases j;let⟨y,j,⟨o,n,e,c,_,z⟩,_⟩:=I.list f;let⟨as,B⟩:=DenAll.reads I nd g j;exact⟨_,.list e c z (by simpa using B)⟩
 cases r with
 |imm E=>cases e;exact Den.reads I nd h j
 | obj k=>
  cases q:m.os[k]? with
  |none=>simp[asD,q]at e
  |some ds=>
   simp[asD,q]at e;subst e;exact t q ‹_›
 |new ds=>cases e;exact t rfl (by simpa only[acx]using nd)
 | «at» k p=>
  let⟨ts,ds,q,i,rfl⟩:∃ts ds,ndT m k p=some (.list ts)/\eraL ts=some ds/\d = .list ds:=by
   unfold asD at e;simp only at e
   split at e
   .rename_i ts q
    cases i:eraL ts with
    |none=>rw[i]at e;cases e
    |some ds=>rw[i]at e;cases e;exact⟨ts,ds,q,i,rfl⟩
   .cases e
  let⟨C,a,F,_,A,rfl,g⟩:=RelR.node R h q;have l:=g;simp only[TAt]at l;let⟨D,x,b,w,_⟩:=l;rw[A]at b;cases b;subst w;exact TAt.reads I (by simp only[eraT,i,Option.map]) nd g j
 |newT _=>cases e
abbrev WE:=MSt->(R->MSt->Prop)->Prop
abbrev WT:=MSt->(Bool->MSt->Prop)->Prop
abbrev WA:=MSt->(List R->MSt->Prop)->Prop
def tM(K:Kx)(w:WE):TE:=λe H Q=>∃a m d,Rel K a m e H/\w m d/\∀r c v b,d r c->c.np=m.np->Rel K a c e b->RelR K a H b r v->Frm a H b->Q v b
def tMT(K:Kx)(w:WT):TT:=λf H Q=>∃a m e,Rel K a m f H/\w m e/\∀b c d,e b c->c.np=m.np->Rel K a c f d->Frm a H d->Q b d
inductive RelRs(K:Kd)(α:Al)(Hb H:Hp):List R->List V->Prop where
 |nil:RelRs K α Hb H [] []
 |cons {r:R}{rs:List R}{v:V}{vs:List V}:RelR K α Hb H r v->RelRs K α Hb H rs vs->RelRs K α Hb H (r::rs) (v::vs)
def tMA(K:Kx)(w:WA):TA:=λe H Q=>∃a m d,Rel K a m e H/\w m d/\∀rs c vs b,d rs c->c.np=m.np->Rel K a c e b->RelRs K a H b rs vs->Frm a H b->Q vs b
theorem PE.wk{t t':TE}(h:PE X e t)(k:∀a H Q,t' a H Q->t a H Q):PE X e t':=λp s a H Q I q=>h p s a H Q I (k _ _ _ q)
theorem PT.wk{t t':TT}(h:PT X e t)(k:∀a H Q,t' a H Q->t a H Q):PT X e t':=λp s a H Q I q=>h p s a H Q I (k _ _ _ q)
theorem PW.wk{t t':TT}(h:PW X e t)(k:∀a H Q,t' a H Q->t a H Q):PW X e t':=λw p s a H Q I q=>h w p s a H Q I (k _ _ _ q)
theorem PA.wk{e:List Expr}{t t':TA}(h:PA X e t)(k:∀a H Q,t' a H Q->t a H Q):PA X e t':=λb p s a H Q I q=>h b p s a H Q I (k _ _ _ q)
theorem PS.wk{e:Stmt}{t t':TS}(h:PS X e t)(k:∀D a H,t' D a H->t D a H):PS X e t':=λp s a H D I q=>h p s a H D I (k _ _ _ q)
theorem PSs.wk{e:List Stmt}{t t':TS}(h:PSs X e t)(k:∀D a H,t' D a H->t D a H):PSs X e t':=λp s a H D I q=>h p s a H D I (k _ _ _ q)
abbrev ME(X:Cx)(e:Expr)(w:WE):Prop:=PE X e (tM X.kx w)
abbrev MT(X:Cx)(e:Expr)(w:WT):Prop:=PT X e (tMT X.kx w)
abbrev MW(X:Cx)(e:Expr)(w:WT):Prop:=PW X e (tMT X.kx w)
abbrev MA(X:Cx)(e:List Expr)(w:WA):Prop:=PA X e (tMA X.kx w)
section
variable {X:Cx}{a b c:Expr}{n:List Expr}{f g l:WE}{pos:Pos}
def wVar(i:Nat):WE:=λm K=>∃r,m.vs[i]?=some (some r)/\K r m
abbrev wC(d:aD):WE:=λm K=>K (.imm d) m
theorem QI{t:TE}{w:WE}(h:PE X a t)(k:∀d m e H K Q,Rel X.kx d m e H->w m K->(∀r o v i,K r o->o.np=m.np->Rel X.kx d o e i->RelR X.kx d H i r v->Frm d H i->Q v i)->t e H Q):ME X a w:=
 h.wk<|by intro e H Q ⟨d,m,K,R,p,j⟩;exact k d m e H K Q R p j
theorem me_c{d:aD}(h:PE X a (tC v))(hd:∀(K:Kd) H,Den K H d v):ME X a (wC d):=
 QI h λk m o H j Q R i e=>e _ m v H i rfl R (hd _ _) (Frm.refl _ _)
def Tz{i j pos}:ME X (.Constant (.int i) j pos) (wC (.int i)):=me_c Ua λ_ _=>by simp[Den]
def X6{i j pos}:ME X (.Constant (.bool i) j pos) (wC (.bool i)):=me_c X8 λ_ _=>by simp[Den]
def TQ{i j pos}:ME X (.Constant (.str i) j pos) (wC (.str i)):=me_c TJ λ_ _=>by simp[Den]
def WF{j pos}:ME X (.Constant .none j pos) (wC .none):=me_c Wx λ_ _=>by simp[Den]
theorem Uy(h:PE X a (tVar i)):ME X a (wVar i):=
 QI h λq m s H K Q R p d=>by
  let⟨r,e,k⟩:=p;let⟨v,o,j⟩:=R.var i r e;exact⟨v,o,d r m v H k rfl R j.rr (Frm.refl _ _)⟩
def mv(i:Nat){pos:Pos}(e:X.N[i]?=some x:=by rfl)(d:Vis X.env.scope x:=by first|exact afl rfl|exact adQ (afl rfl)|exact adQ (adQ rfl))(hd:(x==("__debug__" : Str))=false:=by decide)(h:(x==("__classdict__" : Str))=false:=by decide):ME X (.Name x pos) (wVar i):=Uy (KQ e d hd h)
abbrev WO:=R->R->MSt->(R->Prop)->Prop
def rM(K:Kx)(o:WO):R2:=λx y H Q=>∃d m j k p r1 h i,Rel K d m j H/\RelR K d k H r1 x/\RelR K d p H h y/\o r1 h m i/\∀r v e,i r->Rel K d m j e->RelR K d H e r v->Frm d H e->Q v e
abbrev wBin(o:WO)(f g:WE):WE:=λm K=>f m λr1 m1=>g m1 λd m2=>o r1 d m2 λr=>K r m2
theorem tf(h:tM X.kx (wBin o f g) σ H Q):tOp (rM X.kx o) (tM X.kx f) (tM X.kx g) σ H Q:=by
 let⟨s,m,K,t,B,p⟩:=h;refine⟨s,m,_,t,B,λr1 m1 x w k1 n1 R i u=>⟨s,m1,_,R,k1,λz m2 y C k2 n2 d j e=>?_⟩⟩;refine⟨s,m2,σ,H,w,r1,z,_,d,i.keep t R e,j,k2,λr v A k q rr F=>?_⟩;exact p r m2 v A k (n2.trans n1) q (rr.base d (u.trans e)) ((u.trans e).trans F)
def UO{op:aeQ}(i:OpR X (ab8 op) (rM X.kx o))(e:ME X a f)(d:ME X b g):ME X (.BinOp a op b pos) (wBin o f g):=(Yc i e d).wk λ_ _ _ h=>tf h
def Uw(j:OpR X (aaS op) (rM X.kx o))(i:ME X a f)(d:ME X b g)(e:acK op b=false):ME X (.Compare a [op] [b] pos) (wBin o f g):=(Rh j i d e).wk λ_ _ _ h=>tf h
abbrev onBl(P:Bool->Prop):R->Prop
 | .imm (.bool k)=>P k
 |_=>False
theorem yb{K:Kx}{P:Bool->Prop}(rr:RelR K α Hb H r v)(h:onBl P r):∃b,r = .imm (.bool b)/\v = .bl b/\P b:=by
 cases r with
 |obj _=>exact h.elim
 |new _=>exact h.elim
 | «at» _ _=>exact h.elim
 |newT _=>exact h.elim
 | imm d=>
  cases d with
  |bool b=>
   have e:=rr;exact⟨b,rfl,e,h⟩
  |none=>exact h.elim
  |int _=>exact h.elim
  |str _=>exact h.elim
  |list _=>exact h.elim
  |tuple _=>exact h.elim
  |dict _=>exact h.elim
abbrev AG(w:WE):WT:=λm K=>w m λr d=>onBl (λk=>K k d) r
theorem Am{t:TE}{Q:Bool->Hp->Prop}{w:WE}(k:∀i,tM X.kx w σ H i->t σ H i)(h:tMT X.kx (AG w) σ H Q):Vn t σ H Q:=by
 let⟨p,m,K,o,u,e⟩:=h;refine k _ ⟨p,m,_,o,u,λr j v q d n1 R rr F=>?_⟩;let⟨b,x,s,d⟩:=yb rr d;exact⟨b,s,e b j q d n1 R F⟩
def Vh(j:OpR X (aaS op) (rM X.kx o))(i:ME X a f)(d:ME X b g)(e:acK op b=false):MT X (.Compare a [op] [b] pos) (AG (wBin o f g)):=(Qy j i d e).wk λ_ _ _ h=>Am (λ_=>tf) h
def T9(d:ME X a f)(e:∀w,isTrue a X.env w=(do let v <- w;acE a.pos;adl [v] (truthy v)):=by intro _;rfl):MT X a (AG f):=(Uv d e).wk λ_ _ _ h=>Am (λ_ h=>h) h
abbrev CA(o i:WO)(f g l:WE):WE:=λm K=>f m λr1 m1=>g m1 λe m2=>o r1 e m2 (onBl λk=>if k=true then l m2 λh d=>i e h d λr=>K r d else K (.imm (.bool false)) m2)
end
section
variable {X:Cx}{a b c:Expr}{l:List Expr}{f A B:WE}{pos:Pos}
theorem Jg(h:tM X.kx (CA o o' f A B) σ H Q):L8 (rM X.kx o) (rM X.kx o') (tM X.kx f) (tM X.kx A) (tM X.kx B) σ H Q:=by
 let⟨p,m,Z,J,W,j⟩:=h;refine⟨p,m,_,J,W,λr1 m1 x I k1 n1 R w S=>⟨p,m1,_,R,k1,λL m2 y H2 k2 n2 q i E=>?_⟩⟩;refine⟨p,m2,σ,H,I,r1,L,_,q,w.keep J R E,i,k2,λr v u k d rr M=>?_⟩;let⟨K,O,V,s⟩:=yb rr k;subst O V;refine⟨K,rfl,?_⟩;have e:=(S.trans E).trans M
 cases K with
 |true=>
  rw[if_pos rfl]at s⊢;refine⟨p,m2,_,d,s,λP G z Y T N n D t=>?_⟩;have g:=((i.keep R q M).keep R d t);exact⟨p,G,σ,I,u,L,P,_,n,g,D,T,λr v U k C rr F=>j r G v U k (N.trans (n2.trans n1)) C (rr.base n (e.trans t)) ((e.trans t).trans F)⟩
 |false=>
  rw[if_neg aai]at s⊢;exact j _ m2 _ u s (n2.trans n1) d (show Den X.kx u (.bool false) (.bl false) by simp only[Den]) e
theorem F8{d:CmpOp}(m:OpR X (aaS op) (rM X.kx o))(e:OpR X (aaS d) (rM X.kx o'))(g:ME X a f)(i:ME X b A)(j:ME X c B)
  (k:lastMarks [op,d] [b,c]=false:=by with_unfolding_all rfl):ME X (.Compare a [op,d] [b,c] pos) (CA o o' f A B):=(II m e g i j k).wk λ_ _ _ h=>Jg h
variable {wt C:WT}{rest:List Expr}
abbrev wAnd(t u:WT):WT:=λm K=>t m λc m1=>if c=true then u m1 K else K false m1
abbrev wOr(t u:WT):WT:=λm K=>t m λc m1=>if c=true then K true m1 else u m1 K
abbrev wNot(t:WT):WT:=λm K=>t m λc m1=>K (!c) m1
def Qt(h:MT X a wt):MW X (.BoolOp .And [a] pos) wt:=Ox h
def SW(h:MT X a wt):MW X (.BoolOp .Or [a] pos) wt:=T7 h
theorem Uf(j:MT X a wt)(p:MW X (.BoolOp .And (b::rest) pos) C):MW X (.BoolOp .And (a::b::rest) pos) (wAnd wt C):=(W9 j p).wk<|by
 intro s H Q ⟨g,m,K,n,r,d⟩;refine⟨g,m,_,n,r,λo m1 i k n1 R F=>?_⟩
 cases o with
 |true=>rw[if_pos rfl];exact⟨g,m1,K,R,k,λb2 m2 q k2 n2 e h=>d b2 m2 q k2 (n2.trans n1) e (F.trans h)⟩
 |false=>rw[if_neg aai];exact d _ m1 i k n1 R F
theorem Yj(j:MT X a wt)(p:MW X (.BoolOp .Or (b::rest) pos) C):MW X (.BoolOp .Or (a::b::rest) pos) (wOr wt C):=(YM j p).wk<|by
 intro s H Q ⟨g,m,K,n,r,d⟩;refine⟨g,m,_,n,r,λo m1 i k n1 R F=>?_⟩
 cases o with
 |true=>rw[if_pos rfl];exact d _ m1 i k n1 R F
 |false=>rw[if_neg aai];exact⟨g,m1,K,R,k,λb2 m2 q k2 n2 e h=>d b2 m2 q k2 (n2.trans n1) e (F.trans h)⟩
theorem UY(h:MT X a wt):MT X (.UnaryOp .Not a pos) (wNot wt):=(VF h).wk<|by intro o H Q ⟨e,m,K,i,j,d⟩;exact
 ⟨e,m,_,i,j,λn m1 g k n1 R F=>d _ m1 g k n1 R F⟩
abbrev Sv(f A:WE):WE:=λm K=>f m λr m1=>onBl (λc=>if c=true then A m1 K else K (.imm (.bool false)) m1) r
abbrev TZ(f:WE):WE:=λm K=>f m λr m1=>onBl (λc=>K (.imm (.bool (!c))) m1) r
def Ke(b:Bool):Den K H (.bool b) (.bl b):=rfl
def vH(b:Int):Den K H (.int b) (.int b):=rfl
def MM(b:Str):Den K H (.str b) (.str b):=rfl
def Uj{op}(h:ME X a f):ME X (.BoolOp op [a] pos) f:=UG h
theorem SD(q:ME X a f)(t:ME X (.BoolOp .And (b::rest) pos) A):ME X (.BoolOp .And (a::b::rest) pos) (Sv f A):=(Tf q t).wk<|by
 intro z H Q ⟨n,m,u,s,y,d⟩;refine⟨n,m,_,s,y,λr m1 v i k n1 R rr F=>?_⟩;let⟨j,p,x,e⟩:=yb rr k;subst p x;refine⟨j,rfl,?_⟩
 cases j with
 |true=>rw[if_pos rfl]at e⊢;exact⟨n,m1,u,R,e,λr m2 v w k2 n2 h g o=>d r m2 v w k2 (n2.trans n1) h (g.base R F) (F.trans o)⟩
 |false=>rw[if_neg aai]at e⊢;exact d _ m1 _ i e n1 R (Ke (K:=X.kx) (H:=i) _) F
theorem VE(i:ME X a f):ME X (.UnaryOp .Not a pos) (TZ f):=(Vm i).wk<|by
 intro s H Q ⟨o,m,t,j,q,d⟩;refine⟨o,m,_,j,q,λr m1 v e k n1 R rr F=>?_⟩;let⟨n,h,p,g⟩:=yb rr k;subst h p;exact⟨n,rfl,d _ m1 _ e g n1 R (Ke (K:=X.kx) (H:=e) _) F⟩
def wIfE(t:WT)(f A:WE):WE:=λm K=>t m λc m1=>if c=true then f m1 K else A m1 K
theorem Yo(n:MT X t wt)(o:ME X a f)(s:ME X b A):ME X (.IfExp t a b pos) (wIfE wt f A):=(JS n o s).wk<|by
 intro x H Q ⟨i,m,K,p,u,g⟩;refine⟨i,m,_,p,u,λq m1 w k n1 R F=>?_⟩
 cases q with
 |true=>rw[if_pos rfl];exact⟨i,m1,K,R,k,λr m2 v j k2 n2 e d h=>g r m2 v j k2 (n2.trans n1) e (d.base R F) (F.trans h)⟩
 |false=>rw[if_neg aai];exact⟨i,m1,K,R,k,λr m2 v j k2 n2 e d h=>g r m2 v j k2 (n2.trans n1) e (d.base R F) (F.trans h)⟩
abbrev WU:=R->MSt->(R->Prop)->Prop
def uM(K:Kx)(o:WU):V->Hp->VK->Prop:=λx H Q=>∃d m h i r1 g,Rel K d m h H/\RelR K d i H r1 x/\o r1 m g/\∀r v e,g r->Rel K d m h e->RelR K d H e r v->Frm d H e->Q v e
abbrev wUn(o:WU)(f:WE):WE:=λm K=>f m λr1 m1=>o r1 m1 λr=>K r m1
theorem Yy{op:UnaryOp}{o:WU}(q:UnR X (unaryOp op) (uM X.kx o))(j:ME X a f):ME X (.UnaryOp op a pos) (wUn o f):=(Ym q j).wk<|by intro p H Q ⟨i,m,K,n,t,e⟩;exact
 ⟨i,m,_,n,t,λr1 m1 x u k1 n1 R d h=>⟨i,m1,p,H,r1,_,R,d,k1,λr v s k g rr F=>e r m1 v s k n1 g (rr.base R h) (h.trans F)⟩⟩
def tFz(t:TE):TE:=λe H Q=>t e H λv d=>Q v d\/∃a x,d a=some (.lst x)/\∀o,Q v (upd d a (.frz o (.lst x)))
theorem YW{t:TE}(h:PE X a t):PE X a (tFz t):=by
 intro g s k H Q I q;refine thn (h g s k H _ I q) λu s1 ⟨v,j,i,r1,d⟩=>?_;rcases d with d|⟨p,x,e,d⟩
 .exact⟨v,j,i,r1,d⟩
 .obtain⟨o,I2⟩:=i.freeze e;exact⟨v,_,I2,r1,d o⟩
theorem Rel.at{K:Kx}{m:MSt}(R:Rel K α m σ H)(p:Pers H H')(e:∀a∈ads α,H' a=H a)(x:Frm α H H'):Rel K α m σ H':=by
 refine⟨R.nd,R.len,λk j ds n s=>?_,R.vlen,λi r h=>?_,R.npl,R.ebl,R.ebx.trans ⟨rfl,x,λ_ h=>.inl h,λa g=>?_⟩⟩
 .exact(R.own k j ds n s).mono p λa g=>e a (ab3.mpr ⟨j,Ld n,g⟩)
 .obtain⟨v,ev,rv⟩:=R.var i r h;refine⟨v,ev,?_⟩
  cases r with
  |imm d=>exact Den.mono p rv
  |obj k=>exact rv
  | «at» k p=>exact rv
  |new ds=>exact rv
  |newT t=>exact rv
 .obtain⟨o,q,_⟩:=R.mem g;exact⟨o,(e a g).trans q⟩
theorem Rel.at'{K:Kx}{m:MSt}(R:Rel K α m σ H)(p:Pers H H')(e:∀a∈ads α,H' a=H a)(x:Ext K.eb.np K.eb.be K.eb.H α H'):Rel K α m σ H':=by
 refine⟨R.nd,R.len,λk g ds j n=>?_,R.vlen,λi r h=>?_,R.npl,R.ebl,x⟩
 .exact(R.own k g ds j n).mono p λa o=>e a (ab3.mpr ⟨g,Ld j,o⟩)
 .obtain⟨v,ev,rv⟩:=R.var i r h;refine⟨v,ev,?_⟩
  cases r with
  |imm d=>exact Den.mono p rv
  |obj k=>exact rv
  | «at» k p=>exact rv
  |new ds=>exact rv
  |newT t=>exact rv
theorem bu{a:Addr}{o:HO}(h:H a=none\/∃u,H a=some u/\Mu u=true):Pers H (upd H a o) where
 tups:=λb x e=>by
  rw[aA];exact e;rintro rfl;rcases h with h|⟨y,h,z⟩<;>(rw[e]at h;cases h)
  cases z
 frzs:=λb o u e=>by
  rw[aA];exact e;rintro rfl;rcases h with h|⟨y,h,z⟩<;>(rw[e]at h;cases h)
  cases z
def yc{a:Addr}{o:HO}(h:H a=some (.lst xs)):Pers H (upd H a o):=bu (.inr ⟨_,h,rfl⟩)
theorem cu{a:Addr}{o:HO}(h:H a=none):Frm α H (upd H a o):=λb d e _=>by
 rw[aA (bx e h)];exact e
theorem Rel.lay{K:Kx}{m:MSt}{a:Addr}{o:HO}(R:Rel K α m σ H)(h:H a=none):Rel K α m σ (upd H a o):=
 R.at (bu (.inl h)) (λb d=>aA λe=>R.out h (e▸d)) (cu h)
abbrev wImm(w:WE):WE:=λm K=>w m λr e=>match r with| .imm d=>K (.imm d) e | .new ds=>K (.imm (.list ds)) e|_=>False
theorem Vi(G:ME X a f):ME X a (wImm f):=(YW G).wk<|by
 intro K H Q ⟨u,m,L,s,J,i⟩;refine⟨u,m,_,s,J,λr m1 v j k n1 R rr F=>?_⟩
 cases r with
 |imm d=>exact .inl (i _ m1 v j k n1 R rr F)
 |obj _=>exact k.elim
 | «at» _ _=>exact k.elim
 |newT _=>exact k.elim
 | new ds=>
  let⟨p,x,I,n,q,g⟩:=rr;refine .inr ⟨p,x,q,λo=>?_⟩;have z:Pers j (upd j p (.frz o (.lst x))):=yc q;have fr:Frm u H (upd j p (.frz o (.lst x))):=λb w e nb=>by
   rw[aA (bx e n)];exact F b w e nb
  have old:Ext X.kx.eb.np u H u _:=⟨rfl,fr,λ_ h=>.inl h,λb t=>by
   have y:b≠p:=λe=>s.out n (e▸t);rw[aA y];let⟨E,D,_⟩:=R.mem t;exact⟨E,D⟩⟩
  refine i _ m1 v _ k n1 (R.at' z (λb t=>aA λe=>s.out n (e▸t)) (s.ebx.trans old)) (?_) λb w e nb=>?_
  .exact⟨p,x,I,.inl ⟨o,aB⟩,g.mono z⟩
  .rw[aA (bx e n)];exact F b w e nb
abbrev wNil:WA:=λm K=>K [] m
abbrev UL(w:WE)(j:WA):WA:=λm K=>w m λr m1=>j m1 λrs m2=>K (r::rs) m2
theorem RelRs.base{K:Kx}{m:MSt}(d:Rel K α m σ H)(F:Frm α H0 H):∀{rs:List R}{vs:List V},RelRs K α H H' rs vs->RelRs K α H0 H' rs vs
 |_,_,.nil=>.nil
 |_,_,.cons h t=>.cons (h.base d F) (t.base d F)
variable {j:WA}
theorem U8:MA X [] wNil:=(KI).wk<|by intro g H Q ⟨e,m,K,R,h,d⟩;exact d _ m _ H h rfl R .nil (Frm.refl _ _)
theorem PF(p:ME X a f)(q:MA X l j)(t:aac (a::l) X.env=(false,eval a X.env)::aac l X.env:=by first|exact aI rfl|rfl):MA X (a::l) (UL f j):=(vP p q t).wk<|by intro u H Q ⟨i,m,K,n,s,g⟩;exact
 ⟨i,m,_,n,s,λr m1 v w k n1 R rr h=>⟨i,m1,_,R,k,λrs m2 vs o k2 n2 d e F=>g _ m2 _ o k2 (n2.trans n1) d (.cons (rr.keep n R F) (e.base R h)) (h.trans F)⟩⟩
def iK:List R->Option (List aD)
 |[]=>some []
 | .imm d::rs=>(iK rs).map (d :: ·)
 |_::_=>none
theorem RelRs.imm{K:Kx}:∀{rs:List R}{vs:List V}{ds:List aD},RelRs K α H0 H rs vs->iK rs=some ds->DenAll K H ds vs
 |_,_,_,.nil,e=>by cases e;exact DenAll.nil
 |_,_,ds,.cons (r:=.imm d) (rs:=rs) h t,e=>by
  simp only[iK]at e
  cases q:iK rs with
  |none=>rw[q]at e;cases e
  |some g=>rw[q]at e;cases e;exact DenAll.cons h (t.imm q)
 |_,_,_,.cons (r:=.obj _) h t,e=>by cases e
 |_,_,_,.cons (r:=.new _) h t,e=>by cases e
 |_,_,_,.cons (r:=.at _ _) h t,e=>by cases e
 |_,_,_,.cons (r:=.newT _) h t,e=>by cases e
def QV(P:List aD->Prop):Option (List aD)->Prop
 |some ds=>ds.length≤aam/\P ds
 |none=>False
abbrev wTup(j:WA):WE:=λm K=>j m λrs d=>QV (λds=>K (.imm (.tuple ds)) d) (iK rs)
abbrev wLst(j:WA):WE:=λm K=>j m λrs d=>QV (λds=>K (.new ds) d) (iK rs)
theorem UV{x1}(h:MA X l j):ME X (.Tuple l x1 pos) (wTup j):=(WR h).wk<|by
 intro t H Q ⟨q,m,K,o,r,d⟩;refine⟨q,m,_,o,r,λrs m1 vs s k n1 R rr F=>?_⟩
 cases e:iK rs with
 |none=>rw[e]at k;exact k.elim
 |some ds=>
  rw[e]at k;let⟨n,k⟩:=k;have g:=rr.imm e;refine⟨by rw[<-g.length];exact n,λp i=>d _ m1 _ _ k n1 (R.lay i) (?_) (F.trans (cu i))⟩;exact⟨p,vs,rfl,SqT.of aB,g.mono (bu (.inl i))⟩
theorem V5(h:MA X l j):ME X (.List l pos) (wLst j):=(SN h).wk<|by
 intro t H Q ⟨q,m,K,o,r,i⟩;refine⟨q,m,_,o,r,λrs m1 vs s k n1 R rr F=>?_⟩
 cases e:iK rs with
 |none=>rw[e]at k;exact k.elim
 |some ds=>
  rw[e]at k;let⟨n,k⟩:=k;have g:=rr.imm e;refine⟨by rw[<-g.length];exact n,λp d=>i _ m1 _ _ k n1 (R.lay d) ((RelR.base R F (⟨p,vs,rfl,d,aB,g.mono (bu (.inl d))⟩))) (F.trans (cu d))⟩
abbrev WC:=List R->MSt->(R->Prop)->Prop
def cM(K:Kx)(o:WC):List V->Hp->VK->Prop:=λx H Q=>∃d m h i rs g,Rel K d m h H/\RelRs K d i H rs x/\o rs m g/\∀r v e,g r->Rel K d m h e->RelR K d H e r v->Frm d H e->Q v e
abbrev wCB(o:WC)(j:WA):WE:=λm K=>j m λrs m1=>o rs m1 λr=>K r m1
theorem QJ{o:WC}(h:tM X.kx (wCB o j) σ H Q):tCB (cM X.kx o) (tMA X.kx j) σ H Q:=by
 let⟨n,m,K,p,s,e⟩:=h;exact⟨n,m,_,p,s,λrs m1 vs t k n1 R rr i=>⟨n,m1,σ,H,rs,_,R,rr,k,λr v q k g d F=>e r m1 v q k n1 g (d.base R i) (i.trans F)⟩⟩
theorem Gf{id:String}{o:WC}(m:d3 X (.builtin id) (cM X.kx o))(k:Gl X x)(i:X.mg x=none)(g:aaO x=some (.builtin id))(n:MA X (a::l) j)(r:x ≠ "__name__":=by decide)(e:(x==("__debug__" : Str))=false:=by decide)
  (q:aac (a::l) X.env=(false,eval a X.env)::aac l X.env:=by first|exact aI rfl|rfl) (d:(abn pos (aac l X.env)).any (·.1)=false:=by rfl):ME X (.Call (.Name x p) (a::l) [] pos) (wCB o j):=(w5 m k i g n r e q d).wk λ_ _ _ h=>QJ h
theorem zy{o:WC}(m:d3 X (.type T) (cM X.kx o))(k:Gl X x)(i:X.mg x=none)(g:aaO x=some (.type T))(n:MA X (a::l) j)(r:x ≠ "__name__":=by decide)(e:(x==("__debug__" : Str))=false:=by decide)
  (q:aac (a::l) X.env=(false,eval a X.env)::aac l X.env:=by first|exact aI rfl|rfl) (d:(abn pos (aac l X.env)).any (·.1)=false:=by rfl):ME X (.Call (.Name x p) (a::l) [] pos) (wCB o j):=(zH m k i g n r e q d).wk λ_ _ _ h=>QJ h
end
inductive Ag where
 |imm (d:aD)|own (ds:List aD)|tr (t:aD)
abbrev SpM:=List Ag->(R->List (List aD)->Prop)->Prop
inductive RelAs(K:Kd)(H:Hp):List Ag->List V->Al->Prop where
 |nil:RelAs K H [] [] []
 |imm {d:aD}{v:V}{as:List Ag}{vs:List V}{β:Al}:Den K H d v->RelAs K H as vs β->RelAs K H (.imm d::as) (v::vs) β
 |own {ds:List aD}{a:Addr}{as:List Ag}{vs:List V}{β:Al}:OwnAt K H (.L a) ds->RelAs K H as vs β->RelAs K H (.own ds::as) (.ref a::vs) (.L a::β)
 |tr {t:aD}{a:Addr}{τ:List (List Nat×Addr)}{as:List Ag}{vs:List V}{β:Al}:OwnAt K H (.T τ) [t]->τ.lookup []=some a->RelAs K H as vs β->RelAs K H (.tr t::as) (.ref a::vs) (.T τ::β)
theorem RelAs.length:∀{as:List Ag}{vs:List V}{β:Al},RelAs K H as vs β->as.length=vs.length
 |_,_,_,.nil=>rfl
 |_,_,_,.imm _ t=>by simp[t.length]
 |_,_,_,.own _ t=>by simp[t.length]
 |_,_,_,.tr _ _ t=>by simp[t.length]
structure AH(K:Kd)(H:Hp)(β:Al)(outs:List (List aD)):Prop where
 len:outs.length=β.length
 at_:∀(j:Nat) (ao:Ao) (ds:List aD),β[j]?=some ao->outs[j]?=some ds->OwnAt K H ao ds
def spOf(K:Kd)(n:Nat)(sp:SpM):Sp:=λvs H Q _=>∃c a d,c.length=n/\(ads a).Nodup/\RelAs K H c vs a/\sp c d/\∀r o v b,d r o->AH K b a o->RelR K a H b r v->Frm a H b->Q v b
theorem spOf.len{E:XK}(h:spOf K n sp vs H Q E):vs.length=n:=by
 let⟨c,d,b,a,_,r,_⟩:=h;rw[<-r.length];exact a
def iZ(m:MSt):List R->Option (List Ag×List Nat)
 |[]=>some ([],[])
 | .imm d::rs=>match iZ m rs with|some (as,ks)=>some (.imm d::as,ks)|none=>none
 | .obj k::rs=>match m.os[k]?,iZ m rs with|some ds,some (as,ks)=>some (.own ds::as,k::ks)|_,_=>none
 | .at k []::rs=>match m.os[k]?,iZ m rs with|some [t],some (as,ks)=>some (.tr t::as,k::ks)|_,_=>none
 |_::_=>none
def cK:List (List aD)->List Nat->List (List aD)->List (List aD)
 |os,k::ks,o::outs=>cK (os.set k o) ks outs
 |os,_,_=>os
def mapR(ks:List Nat):R->R
 | .imm d=>.imm d
 | .new ds=>.new ds
 | .obj j=>.obj (ks.getD j 0)
 | .at j p=>.at (ks.getD j 0) p
 | .newT t=>.newT t
def zJ(sp:SpM)(w:WA):WE:=λm K=>w m λrs m1=>match iZ m1 rs with
 |some (as,ks)=>ks.Nodup/\sp as λr o=>K (mapR ks r) {m1 with os:=cK m1.os ks o}
 |none=>False
theorem j1:∀(ks:List Nat) (os a:List (List aD)),(cK os ks a).length=os.length
 |[],_,_=>by simp[cK]
 |_::_,_,[]=>by simp[cK]
 |k::ks,os,o::a=>by simp[cK,j1 ks]
theorem jT:∀(ks:List Nat) (os a:List (List aD)) (k:Nat),k∉ks->(cK os ks a)[k]?=os[k]?
 |[],_,_,_,_=>by simp[cK]
 |_::_,_,[],_,_=>by simp[cK]
 |k'::ks,os,o::a,k,h=>by
  rw[aae]at h;rw[not_or]at h;show(cK _ ks a)[k]?=_;rw[jT ks _ _ k h.2,aaR (abx h.1)]
theorem uy:∀(ks:List Nat) (os a:List (List aD)) (j k:Nat) (ds:List aD),ks.Nodup->ks[j]?=some k->a[j]?=some ds->k<os.length->(cK os ks a)[k]?=some ds
 |[],_,_,_,_,_,_,h,_,_=>by simp at h
 |_::_,_,[],_,_,_,_,_,h,_=>by simp at h
 |k'::ks,os,o::a,0,k,ds,nd,h1,h2,hk=>by
  simp at h1 h2;subst h1;subst h2;show(cK _ ks a)[k']?=_;rw[jT ks _ _ k' (aa5.mp nd).1,aa0 hk]
 |k'::ks,os,o::a,j+1,k,ds,nd,h1,h2,hk=>by
  exact uy ks _ a j k ds (aa5.mp nd).2 ‹_› ‹_› (by simpa)
def f9(c:Al):(ads c).Nodup↔(∀ao∈c,ao.ads.Nodup)/\c.Pairwise λx y=>∀a∈x.ads,∀b∈y.ads,a≠b:=List.pairwise_flatMap
theorem jo(nd:(ads α).Nodup){x y:Ao}(k:α[i]?=some x)(g:α[j]?=some y)(h:i≠j)(d:a∈x.ads)(c:a∈y.ads):False:=by
 have b:=((f9 α).mp nd).2;let⟨e,f⟩:=AD.mp k;let⟨p,q⟩:=AD.mp g;subst f q;rcases aeV h with l|l
 .exact abF.mp b i j e p l a d a c rfl
 .exact abF.mp b j i p e l a c a d rfl
def oY{x:Ao}(b:α[i]?=some x)(h:a∈x.ads):a∈ads α:=ab3.mpr ⟨x,Ld b,h⟩
theorem n6(h:a∈ads α):∃(i:Nat) (x:Ao),α[i]?=some x/\a∈x.ads:=by
 let⟨d,f,c⟩:=ab3.mp h;let⟨k,b,e⟩:=abQ.mp f;exact⟨k,d,by rw[mT b,e],c⟩
section
variable {K:Kx}{c:Al}{m:MSt}{g:St}{H l f:Hp}
theorem h7(b:Rel K c m g H):∀{rs:List R}{vs:List V}{as:List Ag}{ks:List Nat},RelRs K c l H rs vs->iZ m rs=some (as,ks)->∃β,RelAs K H as vs β/\abI (λ(k:Nat) (ao:Ao)=>c[k]?=some ao) ks β
 |_,_,_,_,.nil,e=>by cases e;exact⟨[],.nil,.nil⟩
 | _,_,as,ks,.cons (r:=.imm d) (rs:=rs) h t,e=>by
  simp only[iZ]at e
  cases q:iZ m rs with
  |none=>rw[q]at e;cases e
  |some p=>
   rw[q]at e;cases e;let⟨β,i,n⟩:=h7 b t q;exact⟨β,.imm h i,n⟩
 | _,_,as,ks,.cons (r:=.obj k) (rs:=rs) h t,e=>by
  simp only[iZ]at e
  cases q1:m.os[k]? with
  |none=>rw[q1]at e;cases e
  | some ds=>
   cases q:iZ m rs with
   |none=>rw[q1,q]at e;cases e
   |some p=>
    let⟨o,s⟩:=p;rw[q1,q]at e;cases e;let⟨β,i,n⟩:=h7 b t q;let⟨a,j,rfl⟩:=h;exact⟨.L a::β,.own (b.own k _ ds j q1) i,.cons j n⟩
 |_,_,as,ks,.cons (r:=.at k []) (rs:=rs) h t,e=>by
  simp only[iZ]at e
  split at e
  .rename_i t' o s q1 q;cases e;let⟨β,i,n⟩:=h7 b t q;let⟨u,a,j,v,rfl⟩:=h;exact⟨.T u::β,.tr (b.own k _ _ j q1) v i,.cons j n⟩
  .cases e
 |_,_,_,_,.cons (r:=.at _ (_::_)) h t,e=>by cases e
 |_,_,_,_,.cons (r:=.new _) h t,e=>by cases e
 |_,_,_,_,.cons (r:=.newT _) h t,e=>by cases e
theorem g9(nd:(ads c).Nodup)(h:ks.Nodup)(p:abI (λ(k:Nat) (ao:Ao)=>c[k]?=some ao) ks β):(ads β).Nodup:=by
 have one:=((f9 c).mp nd).1
 induction p with
 |nil=>exact abL
 | @cons k ao ks β e t ih=>
  have d:=ih (aa5.mp h).2;rw[f9]at d⊢;refine⟨λx n=>?_,acy.mpr ⟨λy q a r b u z=>?_,d.2⟩⟩
  .rcases aae.mp n with rfl|n
   .exact one _ (Ld e)
   .exact d.1 x n
  .subst z;let⟨j,w,ej⟩:=abQ.mp q;let⟨A,v,s⟩:=Paired.get2 t (i:=j) (b:=y) (by simp_all);have o:=Classical.byContradiction λne=>jo nd e s ne r u;exact(aa5.mp h).1 (o▸Ld v)
theorem wz(R:Rel K c m g H){s:List (List aD)}(nd:ks.Nodup)(p:abI (λ(k:Nat) (ao:Ao)=>c[k]?=some ao) ks β)(O:AH K f β s)(F:Frm β H f) :
  Rel K c {m with os:=cK m.os ks s} g f/\Frm c H f:=by
 have C:∀a∈ads β,∃k ao,k∈ks/\c[k]?=some ao/\a∈ao.ads:=λa B=>by
  let⟨j,ao,ej,w⟩:=n6 B;let⟨V,x,E⟩:=Paired.get2 p ej;exact⟨V,ao,Ld x,E,w⟩
 have A:Frm c H f:=λb o e n=>F b o e λz=>by
  let⟨k,ao,_,E,w⟩:=C b z;exact n (oY E w)
 have L:=R.pers A;have y:∀(k:Nat) (ao:Ao) (ds:List aD),c[k]?=some ao->(cK m.os ks s)[k]?=some ds->OwnAt K f ao ds:=λk ao ds x u=>by
  have G:k<m.os.length:=by rw[<-R.len];exact(AD.mp x).1
  by_cases w:k∈ks
  .obtain⟨j,hj,ej⟩:=abQ.mp w;have S:ks[j]?=some k:=by rw[mT hj,ej]
   let⟨W,M,P⟩:=Paired.get' p S;rw[x]at P;cases P;have I:j<s.length:=by rw[O.len];exact(AD.mp M).1
   have Q:s[j]?=some s[j]:=mT I;rw[uy ks m.os s j k _ nd S Q G]at u;cases u;exact O.at_ j _ _ M Q
  .rw[jT ks _ _ k w]at u;have q:=R.own k ao ds x u;refine q.mono L λa B=>?_;let⟨o,N,_⟩:=q.mem B;rw[N];refine F a o N λz=>?_;let⟨k2,U,J,T,D⟩:=C a z;exact jo R.nd x T (λz=>w (z▸J)) B D
 refine⟨⟨R.nd,by show c.length=(cK m.os ks s).length;rw[j1];exact R.len,y,R.vlen,λi r h=>?_,R.npl,R.ebl,R.ebx.trans ⟨rfl,A,λ_ h=>.inl h,λa B=>?_⟩⟩,A⟩
 .obtain⟨v,ev,rv⟩:=R.var i r h;refine⟨v,ev,?_⟩
  cases r with
  |imm d=>exact Den.mono L rv
  |obj k=>exact rv
  | «at» k p=>exact rv
  |new ds=>exact rv
  |newT t=>exact rv
 .obtain⟨k,ao,x,w⟩:=n6 B;have G:k<(cK m.os ks s).length:=by rw[j1,<-R.len];exact(AD.mp x).1
  let⟨o,q,_⟩:=(y k ao _ x (mT G)).mem w;exact⟨o,q⟩
theorem w9{K:Kd}(p:abI (λ(k:Nat) (ao:Ao)=>c[k]?=some ao) ks β)(h:RelR K β H f r v):RelR K c H f (mapR ks r) v:=by
 have get:∀{j:Nat}{ao:Ao},β[j]?=some ao->c[ks.getD j 0]?=some ao:=λ{j ao} b=>by
  let⟨k,o,z⟩:=Paired.get2 p b
  simp_all
 cases r with
 |imm d=>exact h
 |new ds=>exact h
 |newT t=>exact h
 |obj j=>
  let⟨a,b,e⟩:=h;exact⟨a,get b,e⟩
 | «at» j q=>
  let⟨i,a,b,n,e⟩:=h;exact⟨i,a,get b,n,e⟩
end
section
variable {X:Cx}{a:Expr}{b:List Expr}{w:WA}{pos p:Pos}{k n:Nat}{f:Addr}{fd:abU}{ps:List Str}{sp:SpM}{x:Str}{CX:CXT}
theorem O5{E:XK}(h:tM X.kx (zJ sp w) σ H Q)(y:∀as K,sp as K->as.length=n):VB (spOf X.kd n sp) [] E (tMA X.kx w) σ H Q:=by
 let⟨C,m,K,A,G,i⟩:=h;refine⟨C,m,_,A,G,λrs m1 vs J d n1 R rr t=>?_⟩
 cases e:iZ m1 rs with
 |none=>rw[e]at d;exact d.elim
 |some q=>
  let⟨as,I⟩:=q;rw[e]at d;let⟨nd,c⟩:=d;let⟨B,D,j⟩:=h7 R rr e;refine⟨as,B,_,y _ _ c,g9 R.nd nd j,by rw[aaZ];exact D,c,λr s v z o O g F=>?_⟩;let⟨l,u⟩:=wz R nd j O F;exact i _ _ v z o n1 l ((w9 j g).base R t) (t.trans u)
theorem OJ{E:XK}(F:FnOk X.prog X.w X.K X.mg X.base CX k f fd ps (spOf X.kd n sp))(m:Room k X.A)(l:Gl X x)(g:X.mg x=some (.ref f))(j:abJ X.K (.ref f)=true)(e:Binds X.K fd ps [])(i:kh CX X E)(r:∀as K,sp as K->as.length=n)
  (o:MA X (a::b) w) (d:(x==("__debug__" : Str))=false:=by decide) (q:aac (a::b) X.env=(false,eval a X.env)::aac b X.env:=by first|exact aI rfl|rfl) (c:(abn pos (aac b X.env)).any (·.1)=false:=by rfl) :
  ME X (.Call (.Name x p) (a::b) [] pos) (zJ sp w):=(NG F m l g j e .nil i o d q c).wk λ_ _ _ h=>O5 h r
end
structure iy where
 nx:MSt->Prop
 rt:R->MSt->Prop
 bk:MSt->Prop:=λ_=>False
 ct:MSt->Prop:=λ_=>False
abbrev WS:=iy->MSt->Prop
theorem RelR.ext{np:Nat}{c:Al}(x:Ext np α H α1 H1)(h:RelR K c H1 H2 r v):RelR K c H H2 r v:=by
 cases r with
 |imm d=>exact h
 |obj k=>exact h
 | «at» k p=>exact h
 |new ds=>
  let⟨a,i,e,n,q,g⟩:=h;exact⟨a,i,e,x.nil n,q,g⟩
 |newT t=>
  let⟨f,a,e,l,nd,n,g⟩:=h;exact⟨f,a,e,l,nd,λb j=>x.nil (n b j),g⟩
structure EndsOk(K:Kx)(np:Nat)(α:Al)(H:Hp)(De:iy)(D:Ends):Prop where
 nx:∀α' m' σ' H',De.nx m'->m'.np=np->Rel K α' m' σ' H'->Ext np α H α' H'->D.nx σ' H'
 rt:∀r α' m' σ' v H',De.rt r m'->m'.np=np->Rel K α' m' σ' H'->RelR K α' H H' r v->Ext np α H α' H'->D.rt v H'
 bk:∀α' m' σ' H',De.bk m'->m'.np=np->Rel K α' m' σ' H'->Ext np α H α' H'->D.bk σ' H'
 ct:∀α' m' σ' H',De.ct m'->m'.np=np->Rel K α' m' σ' H'->Ext np α H α' H'->D.ct σ' H'
theorem EndsOk.ext{K:Kx}{np:Nat}(h:EndsOk K np α H De D)(x:Ext np α H α1 H1):EndsOk K np α1 H1 De D where
 nx:=λa m b c k n R y=>h.nx a m b c k n R (x.trans y)
 rt:=λr a m b v c k n R rr y=>h.rt r a m b v c k n R (rr.ext x) (x.trans y)
 bk:=λa m b c k n R y=>h.bk a m b c k n R (x.trans y)
 ct:=λa m b c k n R y=>h.ct a m b c k n R (x.trans y)
def tMS(K:Kx)(w:WS):TS:=λD c H=>∃a m b,Rel K a m c H/\w b m/\EndsOk K m.np a H b D
abbrev MS(X:Cx)(s:Stmt)(w:WS):Prop:=PS X s (tMS X.kx w)
abbrev MSs(X:Cx)(s:List Stmt)(w:WS):Prop:=PSs X s (tMS X.kx w)
section
variable {X:Cx}{a b c e:Expr}{d:List Expr}{f g i j:WE}{pos:Pos}{s:Stmt}{rest:List Stmt}{w u:WS}
abbrev T8:WS:=λD m=>D.nx m
abbrev wSeq(w u:WS):WS:=λD m=>w {D with nx:=λh=>u D h } m
theorem OG:MSs X [] T8:=(Nt).wk<|by intro D l H ⟨h,m,o,R,n,k⟩;exact k.nx h m l H n rfl R (.of R (Frm.refl _ _))
theorem Iy(r:MS X s w)(x:MSs X rest u):MSs X (s::rest) (wSeq w u):=(wZ r x).wk<|by intro D A H ⟨v,m,o,p,z,k⟩;exact
 ⟨v,m,_,p,z,⟨λh l t B q n R y=>⟨h,l,o,R,q,by rw[n];exact k.ext y⟩,k.rt,k.bk,k.ct⟩⟩
theorem Qw(k:MS X s w):MSs X [s] w:=(Og k).wk λD l H h=>h
end
section
variable {X:Cx}{a b c e:Expr}{es:List Expr}{wa wb wc we:WE}{ws:WA}{wt:WT}{pos:Pos}{st:Stmt}{rest body body2:List Stmt}{w u:WS}
abbrev wRet(we:WE):WS:=λD m=>we m λr d=>D.rt r d
theorem VH(i:ME X e we):MS X (.Return (some e) pos) (wRet we):=(Vy i).wk<|by intro D h H ⟨d,m,o,g,l,k⟩;exact
 ⟨d,m,_,g,l,λr f v j q n R rr F=>k.rt r d f h v j q n R rr (.of R F)⟩
abbrev VX(we:WE):WS:=λD m=>we m λ_ d=>D.nx d
theorem Nh(i:ME X e we)(o:abz e none pos.line X.env=pure false:=by rfl):MS X (.Expr e pos) (VX we):=(OT i o).wk<|by intro D h H ⟨d,m,p,g,l,k⟩;exact
 ⟨d,m,_,g,l,λr f v j q n R rr F=>k.nx d f h j q n R (.of R F)⟩
abbrev wIfS(t:WT)(w u:WS):WS:=λD m=>t m λc d=>if c=true then w D d else u D d
theorem Yi(i:MT X t wt)(l:MSs X body w)(p:MSs X body2 u):MS X (.If t body body2 pos) (wIfS wt w u):=(YA i l p).wk<|by
 intro D v H ⟨d,m,g,j,s,k⟩;refine⟨d,m,_,j,s,λo f r q n R F=>?_⟩;have h:EndsOk X.kx f.np d r g D:=by rw[n];exact k.ext (.of R F)
 cases o with
 |true=>rw[if_pos rfl]at q;exact iteT ⟨d,f,g,R,q,h⟩
 |false=>rw[if_neg aai]at q;exact iteF ⟨d,f,g,R,q,h⟩
def JZ:WS:=λ_ _=>False
theorem IJ:MS X st JZ:=(Jt).wk<|by intro D g H ⟨d,m,f,R,h,k⟩;exact h
def MSt.setV(m:MSt)(i:Nat)(r:R):MSt:={m with vs:=m.vs.set i (some r)}
def RenR(f:List Nat)(o:Option (Option R)):R->Prop
 | .imm d=>o=some (some (.imm d))
 | .obj k=>∃j,f[k]?=some j/\o=some (some (.obj j))
 | .at k p=>∃j,f[k]?=some j/\o=some (some (.at j p))
 | .new _=>False
 | .newT _=>False
structure Ren(ρ:List Nat)(m m2:MSt):Prop where
 nd:ρ.Nodup
 lt:∀k∈ρ,k<m.os.length
 pre:ρ.take m.np=aaL m.np
 npl:m.np≤ρ.length
 os:m2.os=ρ.map λk=>m.os.getD k []
 np:m2.np=m.np
 vl:m2.vs.length=m.vs.length
 vs:∀(j:Nat) (r:R),m2.vs[j]?=some (some r)->RenR ρ m.vs[j]? r
def upR(D:MSt->Prop)(m:MSt):Prop:=D m\/∃d m2,Ren d m m2/\D m2
def sf(i:Nat)(D:MSt->Prop)(m:MSt):R->Prop
 | .imm d=>upR D (m.setV i (.imm d))
 | .obj k=>upR D (m.setV i (.obj k))
 | .at k p=>upR D (m.setV i (.at k p))
 | .new ds=>upR D {vs:=m.vs.set i (some (.obj m.os.length)),os:=m.os++[ds],np:=m.np} \/
   ∃k,m.vs[i]?=some (some (.obj k))/\m.np≤k/\(∀j:Nat,j≠i->m.vs[j]?≠some (some (.obj k)))/\D {m with os:=m.os.set k ds}
 | .newT t=>upR D {vs:=m.vs.set i (some (.at m.os.length [])),os:=m.os++[[t]],np:=m.np}
theorem pC{d:Al}{n:Nat}(g:d.length=n):∀{f:List Nat},(∀k∈f,k<n)->abI (λ(k:Nat) (ao:Ao)=>d[k]?=some ao) f (f.map λk=>d.getD k (.L 0))
 |[],_=>.nil
 | k::f,h=>.cons (by
   have i:k<d.length:=by rw[g];exact h k aaa
   show d[k]?=some (d.getD k _);rw[aaA,mT i];rfl) (pC g λj l=>h j (aab _ l))
theorem Oz{K:Kx}{m m2:MSt}{g:List Nat}(R:Rel K α m σ H)(N:Ren g m m2):∃x,Rel K x m2 σ H/\Ext m.np α H x H:=by
 have G:=pC R.len N.lt;have get:∀(k:Nat) (f:Ao),(g.map λk=>α.getD k (.L 0))[k]?=some f->∃j:Nat,g[k]?=some j/\α[j]?=some f:=λk f z=>by
  let⟨j,S,U⟩:=Paired.get2 G z;exact⟨j,S,U⟩
 have i:∀(k j:Nat) (f:Ao),g[k]?=some j->α[j]?=some f->(g.map λk=>α.getD k (.L 0))[k]?=some f:=λk j f F A=>by
  let⟨V,Q,I⟩:=Paired.get' G F;rw[A]at I;cases I;exact Q
 have s:(g.map λk=>α.getD k (.L 0)).take m.np=α.take m.np:=by
  apply ade;intro l;rw[aaY,aaY]
  by_cases n:l<m.np
  .rw[if_pos n,if_pos n];have:g[l]?=some l:=by
    have e:=congrArg (·[l]?) N.pre;simp only[aaY,if_pos n]at e;rw[e,aci n]
   have t:l<α.length:=aas n R.npl;rw[i l l α[l] this (mT t),mT t]
  .rw[if_neg n,if_neg n]
 have ext:Ext m.np α H (g.map λk=>α.getD k (.L 0)) H:=⟨s,Frm.refl _ _,λa D=>by
  let⟨k,f,O,T⟩:=n6 D;let⟨j,_,M⟩:=get k f O;exact .inl (oY M T),λa D=>by
  let⟨o,q,_⟩:=R.mem D;exact⟨_,q⟩⟩
 refine⟨g.map λk=>α.getD k (.L 0),⟨g9 R.nd N.nd G,?_,λk f ds F A=>?_,?_,λj r z=>?_,?_,by rw[N.np];exact R.ebl,R.ebx.trans (ext.less R.ebl)⟩,ext⟩
 .rw[N.os,iO,iO]
 .obtain⟨j,q,qa⟩:=get k f F;rw[N.os,aao,q]at A;have P:j<m.os.length:=N.lt j (Ld q);have E:m.os.getD j []=ds:=aar A;refine R.own j f ds qa ?_;rw[<-E,aaA,mT P];rfl
 .rw[N.vl];exact R.vlen
 .have h:=N.vs j r z
  cases r with
  |imm d=>exact R.var j (.imm d) h
  |new _=>exact h.elim
  |newT _=>exact h.elim
  |obj k=>
   let⟨y,q,h⟩:=h;let⟨v,C,a,B,e⟩:=R.var j (.obj y) h;exact⟨v,C,a,i k y _ q B,e⟩
  | «at» k p=>
   let⟨y,q,h⟩:=h;let⟨v,C,J,a,B,L,e⟩:=R.var j (.at y p) h;exact⟨v,C,J,a,i k y _ q B,L,e⟩
 .rw[N.np,iO];exact N.npl
abbrev wSet(i:Nat)(we:WE):WS:=λD m=>we m λr d=>sf i D.nx d r
theorem cB{K:Kx}{m:MSt}(R:Rel K α m σ H)(h:RelS K α H r v):Rel K α (m.setV i r) (σ.set i (some v)) H:=by
 refine⟨R.nd,R.len,R.own,?_,λj g e=>?_,R.npl,R.ebl,R.ebx⟩
 .show(σ.set i _).length=(m.vs.set i _).length;rw[abt,abt];exact R.vlen
 .have e':(m.vs.set i (some r))[j]?=some _:=e
  by_cases d:i=j
  .subst d
   by_cases f:i<m.vs.length
   .rw[aa0 f]at e';cases e';exact⟨v,aa0 (by rw[R.vlen];exact f),h⟩
   .simp_all
  .rw[aaR d]at e'⊢;exact R.var j g e'
theorem r9{K:Kx}{m:MSt}(R:Rel K α m σ H)(M:∃D l,Rel K α D l H0)(F:Frm α H0 H)(nd:ao.ads.Nodup)(A:∀b∈ao.ads,H0 b=none)(g:OwnAt K H ao ds) :
  Rel K (α++[ao]) {m with os:=m.os++[ds]} σ H/\∀np,np≤α.length->Ext np α H0 (α++[ao]) H:=by
 let⟨D,l,f⟩:=M;have s:∀b∈ao.ads,b∉ads α:=λb L=>f.out (A b L);have one:ads [ao]=ao.ads:=by simp[ads]
 have ext:∀np,np≤α.length->Ext np α H0 (α++[ao]) H:=λnp t=>⟨by rw[List.take_append_of_le_length t],F,λa r=>by
  rw[jN,one]at r;rcases aaG.mp r with z|z
  .exact .inl z
  .exact .inr (A a z),λa r=>by
  let⟨o,q,_⟩:=R.mem r;exact⟨_,q⟩⟩
 refine⟨⟨?_,by simp[R.len],λk a es n G=>?_,R.vlen,λj B z=>?_,by have:=R.npl;show m.np≤(α++[ao]).length;rw[aal];omega,R.ebl,f.ebx.trans (ext _ ?_)⟩,ext⟩
 .rw[jN,one];exact acF.mpr ⟨R.nd,nd,λx J y I e=>s y I (e▸J)⟩
 .have z2':(m.os++[ds])[k]?=some es:=G
  by_cases C:k<α.length
  .rw[aaD C]at n;rw[aaD (by rw[<-R.len];exact C)]at z2';exact R.own k a es n z2'
  .rw[aav (by omega)]at n;rw[aav (by rw[<-R.len];omega)]at z2';have h:k-α.length=0:=by
    have:=(AD.mp n).1;simp at this;omega
   rw[h]at n;rw[<-R.len,h]at z2'
   simp_all
 .obtain⟨v,ev,rv⟩:=R.var j B z;refine⟨v,ev,?_⟩
  cases B with
  |imm d=>exact rv
  |new _=>exact rv
  |newT _=>exact rv
  |obj k=>
   let⟨a,i,e⟩:=rv;exact⟨a,by rw[aaD (AD.mp i).1];exact i,e⟩
  | «at» k p=>
   let⟨E,a,i,e⟩:=rv;exact⟨E,a,by rw[aaD (AD.mp i).1];exact i,e⟩
 .exact aax R.ebl R.npl
theorem vQ{K:Kx}{m:MSt}{Q:St->Hp->Prop}{np:Nat}(f:Rel K α m σ H)(n:m.np=np)(F:Frm α H0 H)(h:RelR K α H0 H r v)(q:sf i P m r)
  (k:∀A E s D,P E->E.np=np->Rel K A E s D->Ext np α H0 A D->Q s D) (R0:∃m0 Y,Rel K α m0 Y H0):Q (σ.set i (some v)) H:=by
 have W:∀A E s D,upR P E->E.np=np->Rel K A E s D->Ext np α H0 A D->Q s D:=λA E s D q n R x=>by
  rcases q with q|⟨ρ,m2,N,q⟩
  .exact k A E s D q n R x
  .obtain⟨α2,R2,x2⟩:=Oz R N;rw[n]at x2;exact k α2 m2 s D q (N.np.trans n) R2 (x.trans x2)
 have I:np≤α.length:=by rw[<-n];exact f.npl
 cases r with
 |imm d=>exact W α _ _ H q n (cB f (r:=.imm d) h) (.of (cB (i:=i) f (r:=.imm d) h) F)
 |obj j=>exact W α _ _ H q n (cB f (r:=.obj j) h) (.of (cB (i:=i) f (r:=.obj j) h) F)
 | «at» j p=>exact W α _ _ H q n (cB f (r:=.at j p) h) (.of (cB (i:=i) f (r:=.at j p) h) F)
 |newT t=>
  let⟨O,p,rfl,M,nd,U,g⟩:=h;let⟨base,ext⟩:=r9 f R0 F (ao:=.T O) nd U g;exact W (α++[.T O]) _ _ H q n (cB base (r:=.at m.os.length []) ⟨O,p,by rw[aav (by rw[f.len];exact Mt _),<-f.len];simp,M,rfl⟩) (ext np I)
 | new ds=>
  let⟨p,xs,rfl,U,hp,g⟩:=h;have R0':=R0;let⟨m0,Y,T⟩:=R0';have S:p∉ads α:=T.out U;rcases q with q|⟨j,e1,e2,e3,q⟩
  .
   let⟨base,ext⟩:=r9 f R0 F (ao:=.L p) (by simp[Ao.ads]) (λb J=>by cases aaf.mp J;exact U) ⟨xs,hp,g⟩;exact W (α++[.L p]) _ _ H q n (cB base (r:=.obj m.os.length) ⟨p,by rw[aav (by rw[f.len];exact Mt _),<-f.len];simp,rfl⟩) (ext np I)
  .
   let⟨aj,V⟩:∃aj,α[j]?=some (.L aj):=by
    let⟨v,_,a,L,_⟩:=f.var i _ e1;exact⟨a,L⟩
   have Z:j<α.length:=(AD.mp V).1;have hi:i<m.vs.length:=(AD.mp e1).1;have ndS:(ads (α.set j (.L p))).Nodup:=by
    have z:=(f9 α).mp f.nd;rw[f9];refine⟨λao B=>?_,abF.mpr λi1 i2 h1 h2 hlt a B b J e=>?_⟩
    .rcases ae9 B with y|y
     .exact z.1 ao y
     .subst y;simp[Ao.ads]
    .subst e;rw[abt]at h1 h2;have mem:∀(l:Nat) (C:l<α.length),a∈(α[l]).ads->a∈ads α:=λl C h=>oY (mT C) h
     by_cases G:j=i1
     .subst G;rw[agb]at B;rw[adu (by exact aaU ‹_›)]at J
      cases aaf.mp B
      exact S (mem i2 h2 J)
     .rw[adu G]at B
      by_cases c2:j=i2
      .subst c2;rw[agb]at J
       cases aaf.mp J
       exact S (mem i1 h1 B)
      .rw[adu c2]at J;exact jo f.nd (mT h1) (mT h2) (aaU hlt) B J
   have ext:Ext np α H0 (α.set j (.L p)) H:=by
    refine⟨?_,F,λa B=>?_,λa B=>?_⟩
    .apply ade;intro l;rw[aaY,aaY]
     by_cases C:l<np
     .rw[if_pos C,if_pos C,aaR (by omega)]
     .rw[if_neg C,if_neg C]
    .obtain⟨l,ao,M,hm⟩:=n6 B
     by_cases G:j=l
     .subst G;rw[aa0 Z]at M;cases M
      cases aaf.mp hm
      exact .inr U
     .rw[aaR G]at M;exact .inl (oY M hm)
    .obtain⟨o,q,_⟩:=f.mem B;exact⟨_,q⟩
   have Rl':Rel K (α.set j (.L p)) {m with os:=m.os.set j ds} (σ.set i (some (.ref p))) H:=by
    refine⟨ndS,by simp[f.len],λk a es z1 z2=>?_,by rw[abt];exact f.vlen,λl r' z=>?_,by rw[abt];exact f.npl,f.ebl,T.ebx.trans (ext.less (by have:=f.ebl;omega))⟩
    .have z2':(m.os.set j ds)[k]?=some es:=z2
     by_cases G:j=k
     .subst G;rw[aa0 Z]at z1;rw[aa0 (by rw[<-f.len];exact Z)]at z2'
      cases z1;cases z2'
      exact⟨xs,hp,g⟩
     .rw[aaR G]at z1 z2';exact f.own k a es z1 z2'
    .have z':m.vs[l]?=some (some r'):=z
     by_cases C:i=l
     .subst C;rw[e1]at z';cases z';exact⟨.ref p,aa0 (by rw[f.vlen];exact hi),p,aa0 Z,rfl⟩
     .obtain⟨v,ev,rv⟩:=f.var l r' z';refine⟨v,by rw[aaR C];exact ev,?_⟩
      cases r' with
      |imm d=>exact rv
      |new _=>exact rv
      |newT _=>exact rv
      |obj k=>
       let⟨a,L,e⟩:=rv;refine⟨a,?_,e⟩;rw[aaR]
       .exact L
       .rintro rfl;exact e3 l (abx C) z'
      | «at» k p'=>
       let⟨O,a,L,e⟩:=rv;refine⟨O,a,?_,e⟩;rw[aaR]
       .exact L
       .rintro rfl;rw[V]at L;cases L
   exact k (α.set j (.L p)) _ _ H q n Rl' ext
theorem Ur{p:Pos}(f:X.N.Nodup)(s:X.N[i]?=some x)(j:Loc X.env.scope x)(o:ME X e we)(y:abz e (some (.Name x p)) pos.line X.env=pure false:=by rfl)(h:X.fn x=true\/X.env.scope.names.lookup x=some .local:=by first|exact .inl rfl|exact .inr rfl|assumption) :
  MS X (.Assign [.Name x p] e pos) (wSet i we):=(Tu f s j o y h).wk<|by intro D g H ⟨l,m,A,d,t,k⟩;exact
 ⟨l,m,_,d,t,λr z v B q n R rr F=>vQ R n F rr q k.nx ⟨m,g,d⟩⟩
abbrev WG:=aD->MSt->(MSt->Prop)->Prop
abbrev WGs:=List aD->MSt->(MSt->Prop)->Prop
def tMG(K:Kx)(g:WG):TG:=λv k H Q=>∃j m d i,Rel K j m k H/\Den K H d v/\g d m i/\∀h f,i h->h.np=m.np->Rel K j h f H->Q f H
def tMGs(K:Kx)(g:WGs):TGs:=λvs j H Q=>∃i m ds h,Rel K i m j H/\DenAll K H ds vs/\g ds m h/\∀f d,h f->f.np=m.np->Rel K i f d H->Q d H
theorem PG.wk{X:Cx}{e:Expr}{t t':TG}(h:PG X e t)(k:∀v d H Q,t' v d H Q->t v d H Q):PG X e t':=λp s d H v u Q I r q=>h p s d H v u Q I r (k _ _ _ _ q)
theorem PGs.wk{X:Cx}{e:List Expr}{t t':TGs}(h:PGs X e t)(k:∀v d H Q,t' v d H Q->t v d H Q):PGs X e t':=λp s d H v u Q I r q=>h p s d H v u Q I r (k _ _ _ _ q)
abbrev MG(X:Cx)(e:Expr)(g:WG):Prop:=PG X e (tMG X.kx g)
abbrev MGs(X:Cx)(es:List Expr)(g:WGs):Prop:=PGs X es (tMGs X.kx g)
abbrev gM(i:Nat):WG:=λd m K=>K (m.setV i (.imm d))
def Ot:WGs:=λds m K=>ds=[]/\K m
abbrev zR(g:WG)(f:WGs):WGs:=λds m K=>match ds with|d::r=>g d m λh=>f r h K|[]=>False
def Mh(n:Nat)(g:WGs):WG:=λd m K=>match d with| .tuple ds=>ds.length=n/\g ds m K|_=>False
theorem NU(j:X.N.Nodup)(k:X.N[i]?=some x)(h:Loc X.env.scope x)(g:X.fn x=true\/X.env.scope.names.lookup x=some .local:=by first|exact .inl rfl|exact .inr rfl|assumption):MG X (.Name x pos) (gM i):=(QU j k h g).wk λv o H Q ⟨n,m,d,K,R,hd,l,f⟩=>
 f _ _ l rfl (cB R hd)
theorem O6:MGs X [] Ot:=(OI).wk<|by
 intro v g H Q ⟨i,m,d,K,R,hd,h,f⟩;let⟨rfl,h⟩:=h;exact⟨hd,f m g h rfl R⟩
theorem Jn{e:Expr}{es:List Expr}(A:MG X e g)(z:MGs X es gs)
  (B:(aa4 (e::es) X.env).map (·.2)=afj e X.env::(aa4 es X.env).map (·.2):=by rfl):MGs X (e::es) (zR g gs):=(Im A z B).wk<|by
 intro v C H Q ⟨j,m,ds,K,p,hd,l,i⟩
 cases ds with
 |nil=>exact l.elim
 |cons d r=>
  let⟨x,s,rfl,q,y⟩:=hd;exact⟨x,s,rfl,j,m,d,_,p,q,l,λt o k n R=>⟨j,t,r,_,R,y,k,λm2 f k2 n2 h=>i m2 f k2 (n2.trans n) h⟩⟩
theorem UX{es:List Expr}{k:Nat}(h:MGs X es gs)(o:X.calm=true:=by rfl)
  (p:(aa4 es X.env).length=n:=by rfl) (j:(aa4 es X.env).findIdx? (·.1)=none:=by rfl):MG X (.Tuple es k pos) (Mh n gs):=(VY o h p j).wk<|by
 intro v r H Q ⟨q,m,d,K,R,hd,i,l⟩
 cases d with
 |tuple ds=>
  let⟨a,x,e,f,g⟩:=hd;exact⟨a,x,e,f,g.length.symm.trans i.1,q,m,ds,K,R,g,i.2,l⟩
 |none=>exact i.elim
 |bool _=>exact i.elim
 |int _=>exact i.elim
 |str _=>exact i.elim
 |list _=>exact i.elim
 |dict _=>exact i.elim
abbrev iA(P:aD->Prop):R->Prop
 | .imm d=>P d
 |_=>False
theorem eF{K:Kx}{P:aD->Prop}(rr:RelR K α Hb H r v)(h:iA P r):∃d,r = .imm d/\Den K H d v/\P d:=by
 cases r with
 |imm d=>exact⟨d,rfl,rr,h⟩
 |obj _=>exact h.elim
 |new _=>exact h.elim
 | «at» _ _=>exact h.elim
 |newT _=>exact h.elim
abbrev wAsg(we:WE)(g:WG):WS:=λD m=>we m λr f=>iA (λd=>g d f D.nx) r
theorem VP(s:ME X e we)(p:MG X tg g)(z:ady [tg] e pos.line X.env=pure false:=by rfl)(j:adz [tg] e X.env=pure none:=by rfl)
  (y:(aa4 [tg] X.env).map (·.2)=[afj tg X.env]:=by rfl):MS X (.Assign [tg] e pos) (wAsg we g):=(UQ s p z j y).wk<|by
 intro D A H ⟨i,m,B,t,j,k⟩;refine⟨i,m,_,t,j,λr o v x q n h rr F=>?_⟩;let⟨d,C,hd,q⟩:=eF rr q;exact⟨i,o,d,_,h,hd,q,λm2 f l n2 R=>k.nx i m2 f x l (n2.trans n) R (.of R F)⟩
def wPar(i j:Nat)(ws:WA):WS:=λD m=>ws m λrs d=>match rs with|[.imm d1,.imm d2]=>D.nx ((d.setV i (.imm d1)).setV j (.imm d2))|_=>False
theorem Tw{p f pt:Pos}{kt k2 pt2}(G:X.N.Nodup)(J:X.N[i]?=some x)(v:X.N[j]?=some y)(h:i≠j)
  (s:X.env.scope.names.lookup x=some .local) (r:X.env.scope.names.lookup y=some .local) (z:MA X [a,b] ws)
  (g:adz [.Tuple [.Name x p,.Name y f] kt pt] (.Tuple [a,b] k2 pt2) X.env=pure (some [x,y])) (E:X.calm=true:=by rfl)
  (L:ady [.Tuple [.Name x p,.Name y f] kt pt] (.Tuple [a,b] k2 pt2) pos.line X.env=pure false:=by rfl) :
  MS X (.Assign [.Tuple [.Name x p,.Name y f] kt pt] (.Tuple [a,b] k2 pt2) pos) (wPar i j ws):=(Vx E G J v h s r z g L).wk<|by
 intro D M H ⟨l,m,t,B,g,k⟩;refine⟨l,m,_,B,g,λrs o vs K q n R rr F=>?_⟩;let⟨d1,d,A,q⟩:∃d1 d,rs=[.imm d1,.imm d]/\t.nx ((o.setV i (.imm d1)).setV j (.imm d)):=by
  split at q
  .exact⟨_,_,rfl,q⟩
  .exact q.elim
 subst A
 cases rr with
 |cons C rr=>
  cases rr with
  |cons I rr=>
  cases rr;exact⟨_,_,rfl,k.nx l _ _ K q n (cB (cB R C) I) (.of R F)⟩
end
structure Src where
 ds:List aD
 own:Option (Nat×List aD)
structure Wks(K:Kd)(J:It)(ds:List aD)(C:Hp->Prop):Prop where
 stop:∀H,C H->J.stop ds.length H
 go:∀i H,i<ds.length->C H->J.go i H
 yld:∀i H x H',i<ds.length->C H->J.yld i H x H'->(∀b o,H b=some o->H' b=some o)/\∃d,ds[i]?=some d/\Den K H' d x
def vB(K:Kd)(d:Al)(H:Hp)(s:Src)(J:It):Prop:=
 match s.own with
 |none=>∃C:Hp->Prop,Wks K J s.ds C/\C H/\∀c b,C c->Pers c b->C b
 |some k=>∃a,d[k.1]?=some (.L a)/\Wks K J s.ds λH=>∃x,H a=some (.lst x)/\DenAll K H k.2 x
abbrev WI:=MSt->(Src->MSt->Prop)->Prop
def tMI(K:Kx)(w:WI):TI:=λe H R=>∃a m d,Rel K a m e H/\w m d/\∀s c J b,d s c->c.np=m.np->Rel K a c e b->Frm a H b->vB K a b s J->R J b
theorem PI.wk{t t':TI}(h:PI X tg e t)(k:∀a H Q,t' a H Q->t a H Q):PI X tg e t':=λp s a H Q I q=>h p s a H Q I (k _ _ _ q)
abbrev MI(X:Cx)(tg e:Expr)(w:WI):Prop:=PI X tg e (tMI X.kx w)
section
variable {X:Cx}{tg a b c e B:Expr}{M:List Expr}{N O Q E:WE}{G:WA}{wt:WT}{pos:Pos}{S:Stmt}{rest A L:List Stmt}{w u:WS}
def iSeq(K:aad)(tl:TE):TI:=λg H R=>tl g H λx d=>∃a,x = .ref a/\(((∃f,SqL K d a f)/\R (Itl K a) d)\/((∃f,SqT K d a f)/\R (Itt K a) d))
theorem Vc{l:Expr}{tl:TE}(r:PE X l tl):PI X tg l (iSeq X.K tl):=by
 intro f s n H R I h;refine thn (r f s n H _ I h) λv s1 ⟨x,j,d,r1,k⟩=>?_;let⟨a,e,q⟩:=k;subst e;cases r1;rcases q with⟨⟨m,i⟩,q⟩|⟨⟨m,i⟩,q⟩
 .obtain⟨its,rv,p,hz⟩:=d.list i;refine wpAny_pyIter_list p.isList ?_;refine⟨s1.heap.objs.size,[s1.heap.objs.size],_,_,j,rfl,d.kept (t':=s1.toks) λb o e=>GT _ e,Dt a _,⟨_,aak _ rfl,rfl,rfl⟩,λb g=>?_,q⟩;have e:=by simpa using g
  subst e;exact d.fpOk (Mt _) (d.hok.fresh (Mt _))
 .obtain⟨its,rv,p,hz⟩:=d.tuple i;refine wpAny_pyIter_tuple (p) ?_;refine⟨s1.heap.objs.size,[s1.heap.objs.size],_,_,j,rfl,d.kept (t':=s1.toks) λb o e=>GT _ e,yO a _,⟨_,aak _ rfl,rfl,rfl⟩,λb g=>?_,q⟩;have e:=by simpa using g
  subst e;exact d.fpOk (Mt _) (d.hok.fresh (Mt _))
def srcR(m:MSt)(K:Src->MSt->Prop):R->Prop
 | .imm (.list ds)=>K ⟨ds,none⟩ m
 | .imm (.tuple ds)=>K ⟨ds,none⟩ m
 | .obj k=>∃ds,m.os[k]?=some ds/\K ⟨ds,some (k,ds)⟩ m
 |_=>False
abbrev UR(E:WE):WI:=λm K=>E m λr d=>srcR d K r
theorem wks_list{a:Addr}:Wks K (Itl K a) ds λH=>∃xs,SqL K H a xs/\DenAll K H ds xs where
 stop:=λH ⟨xs,q,g⟩=>⟨xs,q,by rw[g.length];exact Mt _⟩
 go:=λi H h ⟨xs,q,g⟩=>⟨xs,xs[i]'(by rw[<-g.length];exact h),q,mT _⟩
 yld:=λi H x k h ⟨xs,q,g⟩ y=>by
  let⟨e,y⟩:=y;subst e;let⟨d,f,j⟩:=g.get2 (y xs q);exact⟨λ_ _ z=>z,d,f,j⟩
theorem Qz{a:Addr}:Wks K (Itt K a) ds λH=>∃xs,SqT K H a xs/\DenAll K H ds xs where
 stop:=λH ⟨xs,q,g⟩=>⟨xs,q,by rw[g.length];exact Mt _⟩
 go:=λi H h ⟨xs,q,g⟩=>⟨xs,xs[i]'(by rw[<-g.length];exact h),q,mT _⟩
 yld:=λi H x k h ⟨xs,q,g⟩ y=>by
  let⟨e,y⟩:=y;subst e;let⟨d,f,j⟩:=g.get2 (y xs q);exact⟨λ_ _ z=>z,d,f,j⟩
theorem Wks.imp{C f:Hp->Prop}(h:Wks K J ds C)(k:∀H,f H->C H):Wks K J ds f:=⟨λH c=>h.stop H (k H c),λi H d c=>h.go i H d (k H c),λi H x g d c=>h.yld i H x g d (k H c)⟩
theorem WZ(I:ME X e E):MI X tg e (UR E):=(Vc (tg:=tg) I).wk<|by
 intro P H U ⟨C,m,T,z,K,i⟩;refine⟨C,m,_,z,K,λr o v s k n R rr F=>?_⟩
 cases r with
 |new _=>exact k.elim
 | «at» _ _=>exact k.elim
 |newT _=>exact k.elim
 |obj j=>
  let⟨ds,J,k⟩:=k;let⟨p,t,rfl⟩:=rr;let⟨x,q,g⟩:=R.own j _ ds t J;exact⟨p,rfl,.inl ⟨⟨x,SqL.of q⟩,i _ o _ s k n R F ⟨p,t,wks_list.imp<|by intro H ⟨x,q,g⟩;exact⟨x,SqL.of q,g⟩⟩⟩⟩
 | imm d=>
  cases d with
  |list ds=>
   have h:=rr;simp only[Den]at h;let⟨p,x,rfl,f,g⟩:=h;refine⟨p,rfl,.inl ⟨⟨x,f.sq⟩,i _ o _ s k n R F ⟨λH=>∃x,FzL X.kx H p x/\DenAll X.kx H ds x,wks_list.imp λH ⟨x,q,g⟩=>⟨x,q.sq,g⟩,⟨x,f,g⟩,λy D ⟨x,q,g⟩ l=>⟨x,q.mono l,g.mono l⟩⟩⟩⟩
  |tuple ds=>
   have h:=rr;simp only[Den]at h;let⟨p,x,rfl,f,g⟩:=h;refine⟨p,rfl,.inr ⟨⟨x,f⟩,i _ o _ s k n R F ⟨λH=>∃x,SqT X.kx H p x/\DenAll X.kx H ds x,Qz,⟨x,f,g⟩,λy D ⟨x,q,g⟩ l=>⟨x,q.mono l,g.mono l⟩⟩⟩⟩
  |none=>exact k.elim
  |bool _=>exact k.elim
  |int _=>exact k.elim
  |str _=>exact k.elim
  |dict _=>exact k.elim
def ju(lo:Int)(n:Nat):List aD:=(aaL n).map λ(i:Nat)=>ab4 (lo+(i:Int))
def aH(lo:Int)(n:Nat):(ju lo n).length=n:=by simp[ju]
def jF{lo:Int}(h:i<n):(ju lo n)[i]?=some (.int (lo+(i:Int))):=by simp[ju,h]
theorem BF{lo:Int}:Wks K (Itr lo n) (ju lo n) λ_=>True where
 stop:=λH _=>by rw[aH];exact Mt _
 go:=λi H h _=>by rw[aH]at h;exact h
 yld:=λi H x d h _ y=>by
  rw[aH]at h;let⟨e,y⟩:=y;subst e y;exact⟨λ_ _ z=>z,_,jF h,vH _⟩
abbrev KG(G:WA):WI:=λm K=>G m λrs d=>match rs with|[.imm (.int j)]=>-(2^62)≤j/\j<2^62/\K ⟨ju 0 j.toNat,none⟩ d|_=>False
def aF{i:Int}(h:Den K H (.int i) v):v = .int i:=by simpa[Den]
theorem zO(h:Gl X "range")(s:X.mg "range" = none)(l:MA X [a] G)(x:aac [a] X.env=[(false,eval a X.env)]:=by first|exact cU rfl|rfl):MI X tg (.Call (.Name "range" p) [a] [] pos) (KG G):=(Ce h s l x).wk<|by
 intro y H z ⟨t,m,K,o,v,f⟩;refine⟨t,m,_,o,v,λrs d vs g k n R rr F=>?_⟩;let⟨j,i,k1,k2,q⟩:∃j:Int,rs=[.imm (.int j)]/\-(2^62)≤j/\j<2^62/\K ⟨ju 0 j.toNat,none⟩ d:=by
  split at k
  .exact⟨_,rfl,k⟩
  .exact k.elim
 subst i
 cases rr with
 |cons r rr=>
  cases rr;have e:=aF (show Den X.kx g _ _ from r);subst e;exact⟨j,rfl,k1,k2,f _ d _ g q n R F ⟨λ_=>True,BF,trivial,λ_ _ _ _=>trivial⟩⟩
def MSt.setN(m:MSt)(n:Nat):MSt:={m with np:=n}
def Src.np(s:Src)(m:MSt):Nat:=match s.own with|none=>m.np|some k=>max m.np (k.1+1)
def Src.ok(s:Src)(m:MSt):Prop:=match s.own with|none=>True|some k=>m.os[k.1]?=some k.2
def qj(s:Src)(g:WG)(w:WS):WS:=λD m1=>∃P:Nat->MSt->Prop,P 0 (m1.setN (s.np m1))/\
 (∀(i:Nat) (d:aD) (m:MSt),s.ds[i]?=some d->m.np=s.np m1->P i m->s.ok m/\g d m λm2=>w {nx:=P (i+1),ct:=P (i+1),bk:=λf=>D.nx (f.setN m1.np),rt:=λr f=>D.rt r (f.setN m1.np)} m2)/\
 ∀m,m.np=s.np m1->P s.ds.length m->s.ok m/\D.nx (m.setN m1.np)
abbrev wFor(d:WI)(g:WG)(w:WS):WS:=λD m=>d m λs m1=>qj s g w D m1
def Rel.setN{K:Kx}{m:MSt}(R:Rel K α m σ H)(h:n≤α.length)(d:K.eb.np≤n):Rel K α (m.setN n) σ H:=⟨R.nd,R.len,R.own,R.vlen,R.var,h,d,R.ebx⟩
theorem vx{K:Kx}{s:Src}{w:WS}(Rl:Rel K α m1 σ H)(hJ:vB K α H s J)(h:qj s g w De m1)(k:EndsOk K m1.np α H De D)
  (hb:∀f t m F De' D',f.take (s.np m1)=α.take (s.np m1)->t.np=s.np m1->Rel K f t m F->w De' t->EndsOk K t.np f F De' D'->tb D' m F):uj J (tMG K g) tb D σ H:=by
 let⟨P,p0,turn,fin⟩:=h;have npk:s.np m1≤α.length:=by
  unfold Src.np;unfold vB at hJ
  cases e:s.own with
  |none=>exact Rl.npl
  |some j=>
   rw[e]at hJ;let⟨a,ea,_⟩:=hJ;have:=(AD.mp ea).1;have:=Rl.npl;show max m1.np (j.1+1)≤α.length;omega
 have T:m1.np≤s.np m1:=by
  unfold Src.np;split
  .exact Mt _
  .exact aey _ _
 let⟨C,wk,hC⟩:∃C:Hp->Prop,Wks K J s.ds C/\∀f t m F,Rel K f t m F->Ext (s.np m1) α H f F->s.ok t->C F:=by
  unfold vB at hJ
  cases e:s.own with
  |none=>
   rw[e]at hJ;let⟨C,wk,c0,cm⟩:=hJ;exact⟨C,wk,λf t m F _ x _=>cm H F c0 (Rl.pers x.frm)⟩
  | some j=>
   rw[e]at hJ;let⟨a,ea,wk⟩:=hJ;refine⟨_,wk,λf t m F U x ok=>?_⟩;have hj:j.1<s.np m1:=by unfold Src.np;rw[e];show j.1<max _ _;omega
   have ea':f[j.1]?=some (.L a):=by
    have:=congrArg (λl=>l[j.1]?) x.pre;simp only[aaY,if_pos hj]at this;rw[this];exact ea
   unfold Src.ok at ok;rw[e]at ok;exact U.own j.1 _ j.2 ea' ok
 have W:∀{f:Al}{t:MSt}{m:St}{F:Hp},Rel K f t m F->t.np=s.np m1->Ext (s.np m1) α H f F->Rel K f (t.setN m1.np) m F:=λU n x=>U.setN (by
  have:=U.npl;rw[n]at this;exact aax ‹_› ‹_›) Rl.ebl
 refine⟨λi n m F=>n=s.ds.length-i/\i≤s.ds.length/\∃f t,P i t/\t.np=s.np m1/\Rel K f t m F/\Ext (s.np m1) α H f F,⟨s.ds.length,by simp,abw _,α,_,p0,rfl,Rl.setN npk (aax Rl.ebl T),.of Rl (Frm.refl _ _)⟩,?_⟩;intro i n m F ⟨rfl,hi,f,t,p,hn,U,x⟩
 by_cases Z:i<s.ds.length
 .have hd:s.ds[i]?=some s.ds[i]:=mT Z;let⟨ok,hg⟩:=turn i _ t hd hn p;have c:=hC f t m F U x ok;refine .inr ⟨wk.go i F Z c,λσ2 Y=>∃α2 m2,P (i+1) m2/\m2.np=s.np m1/\Rel K α2 m2 σ2 Y/\Ext (s.np m1) α H α2 Y,λσ2 Y h2=>⟨s.ds.length-(i+1),by omega,rfl,Z,h2⟩,λv Y y=>?_⟩;let⟨grow,d,e1,e2⟩:=wk.yld i F v Y Z c y;rw[hd]at e1;cases e1;have F2:Frm f F Y:=λb o z _=>grow b o z;have R2:Rel K f t m Y:=U.at (U.pers F2) (λb hb=>by
   let⟨ys,z,_⟩:=U.mem hb;rw[z];exact grow b _ z) F2
  have x2:Ext (s.np m1) α H f Y:=x.trans (.of R2 F2);refine⟨f,t,_,_,R2,e2,hg,λm3 σ3 q3 n3 R3=>hb f m3 σ3 Y _ _ x2.pre (n3.trans hn) R3 q3 ?_⟩;have R:m3.np=s.np m1:=n3.trans hn;have x3:Ext m3.np α H f Y:=by rw[R];exact x2
  refine⟨λI m4 V H4 q4 n4 R4 x4=>⟨I,m4,q4,n4.trans R,R4,?_⟩,λr I m4 V v4 H4 q4 n4 R4 rr x4=>?_,λI m4 V H4 q4 n4 R4 x4=>?_,λI m4 V H4 q4 n4 R4 x4=>⟨I,m4,q4,n4.trans R,R4,?_⟩⟩
  .rw[<-R];exact x3.trans x4
  .have x5:Ext (s.np m1) α H I H4:=by rw[<-R];exact x3.trans x4
   exact k.rt r I (m4.setN m1.np) V v4 H4 q4 rfl (W R4 (n4.trans R) x5) (rr.ext x3) (x5.less T)
  .have x5:Ext (s.np m1) α H I H4:=by rw[<-R];exact x3.trans x4
   exact k.nx I (m4.setN m1.np) V H4 q4 rfl (W R4 (n4.trans R) x5) (x5.less T)
  .rw[<-R];exact x3.trans x4
 .have e:i=s.ds.length:=by omega
  subst e;let⟨ok,q⟩:=fin t hn p;exact .inl ⟨wk.stop F (hC f t m F U x ok),k.nx f (t.setN m1.np) m F q rfl (W U hn x) (x.less T)⟩
theorem Si{h:WI}(C:MI X tg B h)(y:MG X tg g)(p:MSs X A w)(r:afx (model X.prog X.w) X.A X.env X.xe)(j:X.calm=true:=by rfl)
  (U:∀x,aaM B X.env x=pure x:=by intro _;rfl):MS X (.For tg B A [] pos) (wFor h g w):=(Vv r j C y p U).wk<|by intro D W H ⟨v,m,Y,I,T,k⟩;exact
 ⟨v,m,_,I,T,λs i J P q n R F t=>vx R t q (by rw[n];exact k.ext (.of R F)) λf i l P d V _ _ K o z=>⟨f,i,d,K,o,z⟩⟩
def Bm(t:WT)(w:WS):WS:=λD f=>∃P:Nat->MSt->Prop,(∃n,P n f)/\∀n m,m.np=f.np->P n m->t m λc g=>if c=true then w {D with nx:=λm2=>∃d,d<n/\P d m2,ct:=λm2=>∃d,d<n/\P d m2,bk:=D.nx} g else D.nx g
theorem JV(U:MT X t wt)(Z:MSs X A w)(hp:afx (model X.prog X.w) X.A X.env X.xe):MS X (.While t A [] pos) (Bm wt w):=(Gq hp U Z).wk<|by
 intro D σ H ⟨I,m,De,J,⟨P,⟨T,p0⟩,p⟩,k⟩;refine⟨λn g i=>∃d f,P n f/\f.np=m.np/\Rel X.kx d f g i/\Ext m.np I H d i,⟨T,I,m,p0,rfl,J,.of J (Frm.refl _ _)⟩,?_⟩;intro n F H1 ⟨j,m1,W,n1,K,x1⟩;refine⟨j,m1,_,K,p n m1 n1 W,λY m2 H2 q n2 R2 V=>?_⟩;have x:=x1.trans (.of R2 V);have l:m2.np=m.np:=n2.trans n1
 cases Y with
 |true=>
  refine iteT ⟨λo C=>∃h,h<n/\∃d f,P h f/\f.np=m.np/\Rel X.kx d f o C/\Ext m.np I H d C,by intro o C ⟨h,s,z⟩;exact⟨h,s,z⟩,j,m2,_,R2,q,?_⟩;rw[l];exact⟨λd f g i ⟨h,s,q⟩ nn R y=>⟨h,s,d,f,q,nn,R,x.trans y⟩,λr d f g v i q nn R rr y=>k.rt r d f g v i q nn R (rr.ext x) (x.trans y),λd f g i q nn R y=>k.nx d f g i q nn R (x.trans y),λd f g i ⟨h,s,q⟩ nn R y=>⟨h,s,d,f,q,nn,R,x.trans y⟩⟩
 |false=>
  exact iteF (k.nx j m2 F H2 q l R2 x)
end
section
variable {K:Kx}{f:Al}{m:MSt}{j:St}{H:Hp}
theorem Rel.setW(R:Rel K f m j H)(s:f[q]?=some ao)(x:Pers H H')(F:∀b,b∉ao.ads->H' b=H b)(g:OwnAt K H' ao ds'):Rel K f {m with os:=m.os.set q ds' } j H'/\Frm f H H':=by
 have u:Frm f H H':=λb o e nb=>by rw[F b λz=>nb (oY s z)];exact e
 have l:∀(k:Nat) (a:Ao) w,f[k]?=some a->(m.os.set q ds')[k]?=some w->OwnAt K H' a w:=λk a w y n=>by
  by_cases c:q=k
  .subst c;rw[aa0 (by rw[<-R.len];exact(AD.mp s).1)]at n
   grind
  .rw[aaR c]at n;exact(R.own k a w y n).mono x λb A=>F b λz=>jo R.nd s y c z A
 refine⟨⟨R.nd,by simp[R.len],l,R.vlen,λi r h=>?_,R.npl,R.ebl,R.ebx.trans ⟨rfl,u,λ_ h=>.inl h,λa s=>?_⟩⟩,u⟩
 .obtain⟨v,ev,rv⟩:=R.var i r h;refine⟨v,ev,?_⟩
  cases r with
  |imm d=>exact Den.mono x rv
  |obj k=>exact rv
  | «at» k p=>exact rv
  |new ds=>exact rv
  |newT t=>exact rv
 .obtain⟨k,ao,e1,hm⟩:=n6 s;have B:k<(m.os.set q ds').length:=by rw[abt,<-R.len];exact(AD.mp e1).1
  let⟨o,q,_⟩:=(l k ao _ e1 (mT B)).mem hm;exact⟨o,q⟩
theorem Rel.setO{x:List V}(R:Rel K f m j H)(c:f[q]?=some (.L l))(a:H l=some (.lst xs))(g:DenAll K H ds' x):Rel K f {m with os:=m.os.set q ds' } j (upd H l (.lst x))/\Frm f H (upd H l (.lst x)):=by
 have p:Pers H (upd H l (.lst x)):=yc a;exact R.setW c p (λb h=>aA λe=>h (aaf.mpr e)) ⟨x,aB,g.mono p⟩
end
def zf(own:List Str)(ps:List Nat)(vs:List (Option R)):List (Option R):=own.map (λ_=>none)++ps.map λi=>(vs[i]?).join
def oO(own:List Str)(ps:List Nat)(m:MSt):MSt:=⟨zf own ps m.vs,m.os++[[]],m.os.length+1⟩
abbrev wIfT(tt:WT)(w:WS):WS:=λD m=>tt m λb a=>if b=true then w D a else D.nx a
abbrev Qm(q:Nat)(w:WE):WS:=λD m=>w m λr a=>iA (λd=>∃ds,a.os[q]?=some ds/\ds.length<aam/\D.nx {a with os:=a.os.set q (ds++[d])}) r
abbrev p9(b:WI)(own:List Str)(ps:List Nat)(g:WG)(tt:WT)(w:WE):WE:=λm K=>b m λs m1=>
 qj s g (wIfT tt (Qm m1.os.length w)) {nx:=λa=>K (.new (a.os.getD m1.os.length [])) {m1 with os:=a.os.take m1.os.length},rt:=λ_ _=>False} (oO own ps m1)
abbrev Ci(d:WI)(own:List Str)(ps:List Nat)(g:WG)(tt:WT)(w:WI)(e:WG)(t:WT)(c:WE):WE:=λm K=>d m λs m1=>
 qj s g (wIfT tt λD m2=>w m2 λs2 b=>qj s2 e (wIfT t (Qm m1.os.length c)) D b) {nx:=λa=>K (.new (a.os.getD m1.os.length [])) {m1 with os:=a.os.take m1.os.length},rt:=λ_ _=>False} (oO own ps m1)
abbrev Bq:WT:=λm K=>K true m
section
variable {K:Kx}
theorem zu{w:WE}{m:MSt}(c:α[q]?=some (.L l))(i:Rel K α m σ H)(h:Qm q w De m)(k:EndsOk K m.np α H De D):zq l (tM K w) D σ H:=by
 refine⟨α,m,_,i,h,λr o v s a n R rr F=>?_⟩;let⟨d,p,hd,ds,j,f,a⟩:=eF rr a;let⟨x,b,g⟩:=R.own q _ ds c j;let⟨R2,e⟩:=R.setO c b (g.append (DenAll.cons hd DenAll.nil));exact⟨x,b,by rw[<-g.length];exact f,k.nx α _ σ _ a n R2 (.of R2 (F.trans e))⟩
theorem Ab{tt:WT}{m:MSt}(f:Rel K α m σ H)(h:wIfT tt w De m)(k:EndsOk K m.np α H De D)
  (e:∀a b,a.np=m.np->Rel K α a σ b->w De a->EndsOk K a.np α b De D->tb D σ b):tIfT (tMT K tt) tb D σ H:=by
 refine⟨α,m,_,f,h,λd a b q n R F=>?_⟩;have c:EndsOk K a.np α b De D:=by rw[n];exact k.ext (.of R F)
 cases d with
 |true=>rw[if_pos rfl]at q;exact iteT (e a b n R q c)
 |false=>rw[if_neg aai]at q;exact iteF (c.nx α a σ b q rfl R (.of R (Frm.refl _ _)))
theorem E9{own:List Str}{ps:List Nat}{s:Src}{m:MSt}{Kc:R->MSt->Prop}(Rl:Rel K α m σ H)(n1:m1.np=m.np)(c:Rel K α m1 σ H1)(F1:Frm α H H1)(T:vB K α H1 s J)(M:H1 l=none)
  (h:qj s g w {nx:=λf=>Kc (.new (f.os.getD m1.os.length [])) {m1 with os:=f.os.take m1.os.length},rt:=λ_ _=>False} (oO own ps m1))
  (fin:∀r f v u,Kc r f->f.np=m.np->Rel K α f σ u->RelR K α H u r v->Frm α H u->Q v u)
  (hb:∀A f D u F D',A[m1.os.length]?=some (.L l)->m1.os.length<f.np->Rel K A f D u->w F f->EndsOk K f.np A u F D'->tb D' D u) :
  uj J (tMG K g) tb {nx:=λ_ u=>Q (.ref l) u,rt:=λ_ _=>False} (iJ own ps σ) (upd H1 l (.lst [])):=by
 have pα:l∉ads α:=c.out M;have pe:Pers H1 (upd H1 l (.lst [])):=bu (.inl M);have B:α.length=m1.os.length:=c.len;have W:(α++[.L l])[m1.os.length]?=some (.L l):=by rw[aav (by omega),<-B];simp
 have Y:Rel K α m1 σ (upd H1 l (.lst [])):=c.lay M;let⟨Rm,extm⟩:=r9 (ao:=.L l) (ds:=[]) Y ⟨m1,σ,c⟩ (cu M) (by simp[Ao.ads]) (λb hb=>by cases aaf.mp hb;exact M) ⟨[],aB,DenAll.nil⟩;have R0:Rel K (α++[.L l]) (oO own ps m1) (iJ own ps σ) (upd H1 l (.lst [])):=by
  refine⟨Rm.nd,by simp[oO,B],Rm.own,by simp[iJ,oO,zf],λi r z=>?_,by simp[oO,B],by have:=c.ebl;have:=c.npl;show K.eb.np≤m1.os.length+1;omega,Rm.ebx⟩;have E:(zf own ps m1.vs)[i]?=some (some r):=z;unfold zf at E
  by_cases hi:i<own.length
  .rw[aaD (by simpa using hi),aao]at E
   cases q:own[i]? with
   |none=>rw[q]at E;cases E
   |some y=>rw[q]at E;cases E
  .rw[aav (by simpa using hi),iO,aao]at E
   cases q:ps[i-own.length]? with
   |none=>rw[q]at E;cases E
   | some p=>
    rw[q]at E;have P:(m1.vs[p]?).join=some r:=aar E;have hv:m1.vs[p]?=some (some r):=by
     cases y:m1.vs[p]? with
     |none=>rw[y]at P;cases P
     |some y'=>rw[y]at P;cases y' with
      |none=>cases P
      |some y'=>cases P;rfl
    let⟨v,ev,N⟩:=Rm.var p r hv;refine⟨v,?_,N⟩;unfold iJ;rw[aav (by simpa using hi),iO,aao,q];show some ((σ[p]?).join)=some (some v);rw[ev];rfl
 have hJ':vB K (α++[.L l]) (upd H1 l (.lst [])) s J:=by
  unfold vB at T⊢
  cases e:s.own with
  |none=>
   rw[e]at T;let⟨C,wk,c0,cm⟩:=T;exact⟨C,wk,cm _ _ c0 pe,cm⟩
  |some j=>
   rw[e]at T;let⟨a,ea,wk⟩:=T;exact⟨a,by rw[aaD (AD.mp ea).1];exact ea,wk⟩
 have U:m1.os.length<s.np (oO own ps m1):=by
  unfold Src.np;split
  .exact abu _
  .exact aas (abu _) (aey _ _)
 refine vx R0 hJ' h ⟨λA f D u q n O x=>?_,λ_ _ _ _ _ _ z=>z.elim,λ_ _ _ _ z=>z.elim,λ_ _ _ _ z=>z.elim⟩ λA f D u F D' hp hnp O h' k'=>hb A f D u F D' ?_ (by rw[hnp];exact U) O h' k'
 .
  have n':f.np=m1.os.length+1:=n;have x':Ext (m1.os.length+1) (α++[.L l]) (upd H1 l (.lst [])) A u:=x;have F':Frm α H1 u:=λb o e nb=>by
   have S:b≠l:=bx e M;refine x'.frm b o (by rw[aA S];exact e) λz=>?_;rw[jN]at z;rcases aaG.mp z with z|z
   .exact nb z
   .exact S (by simpa[ads,Ao.ads]using z)
  have pe':Pers H1 u:=c.pers F';have I:∀k,k<m1.os.length+1->A[k]?=(α++[.L l])[k]?:=λk X=>by
   have:=congrArg (λz=>z[k]?) x'.pre;simp only[aaY,if_pos X]at this;exact this
  have hlen':m1.os.length+1≤f.os.length:=by
   have:=O.npl;rw[n',O.len]at this;exact this
  have hq:m1.os.length<f.os.length:=by assumption
  have eq1:f.os[m1.os.length]?=some (f.os.getD m1.os.length []):=by
   rw[aaA,mT hq];rfl
  let⟨xs,y1,y2⟩:=O.own m1.os.length (.L l) _ (by rw[I _ (abu _)];exact W) eq1;have G:∀(k:Nat) (a:Ao) (Z:List aD),α[k]?=some a->(f.os.take m1.os.length)[k]?=some Z->OwnAt K u a Z:=λk a Z z1 L=>by
   rw[aaY]at L;have X:k<m1.os.length:=by rw[<-B];exact(AD.mp z1).1
   rw[if_pos X]at L;exact O.own k a Z (by rw[I k (by omega),aaD (by omega)];exact z1) L
  have tl:(f.os.take m1.os.length).length=α.length:=by rw[aaB];omega
  have V:Ext K.eb.np α H1 α u:=⟨rfl,F',λ_ h=>.inl h,λa ha=>by
   let⟨k,ao,e1,hm⟩:=n6 ha;have X:k<(f.os.take m1.os.length).length:=by rw[tl];exact(AD.mp e1).1
   let⟨o,q,_⟩:=(G k ao _ e1 (mT X)).mem hm;exact⟨o,q⟩⟩
  refine fin _ _ (.ref l) u q n1 ⟨c.nd,tl.symm,G,c.vlen,λi r z=>?_,c.npl,c.ebl,c.ebx.trans V⟩ ?_ (F1.trans F')
  .obtain⟨v,ev,N⟩:=c.var i r z;refine⟨v,ev,?_⟩
   cases r with
   |imm d=>exact Den.mono pe' N
   |obj k=>exact N
   | «at» k p=>exact N
   |new ds=>exact N
   |newT t=>exact N
  .refine⟨l,xs,rfl,?_,y1,y2⟩
   cases z:H l with
   |none=>rfl
   |some o=>
    have:=F1 l o z pα;rw[M]at this;cases this
 .have:=congrArg (λz=>z[m1.os.length]?) hp;simp only[aaY,if_pos U]at this;rw[this];exact W
end
section
variable {X:Cx}{scope sc:Scope}{own fr:List Str}{ps:List Nat}{elt tg a j b:Expr}{ifs e:List Expr}{pos d u:Pos}{w o:WI}{g A:WG}{tt p:WT}{f:WE}
theorem xJ(h:tM X.kx (p9 w own ps g tt f) σ H Q):Cp (tMI X.kx w) own ps (tl1 (tMG X.kx g) (tMT X.kx tt) (tM X.kx f)) σ H Q:=by
 let⟨x,m,M,i,G,c⟩:=h;refine⟨x,m,_,i,G,λs m1 J K k n1 R F q l C=>?_⟩;exact E9 i n1 R F q C k c λy I v O D L r z t n E=>Ab t n E λm2 N n2 R2 B k2=>zu r R2 B k2
theorem Jb(h:tM X.kx (Ci w own ps g tt o A p f) σ H Q):Cp (tMI X.kx w) own ps (tl2 (tMG X.kx g) (tMT X.kx tt) (tMI X.kx o) (tMG X.kx A) (tMT X.kx p) (tM X.kx f)) σ H Q:=by
 let⟨V,m,Kc,x,hw,i⟩:=h;refine⟨V,m,_,x,hw,λs m1 J H1 k n1 R T F l Y=>?_⟩;refine E9 x n1 R T F Y k i λq m' P H' D D' I r K C Z=>Ab K C Z λm2 H2 n2 R2 W k2=>?_;refine⟨q,m2,_,R2,W,λs2 v J2 H3 q3 t y U n=>?_⟩;have hq:m1.os.length<s2.np v:=by
  have:m1.os.length<v.np:=by rw[t,n2];exact r
  unfold Src.np;split
  .omega
  .exact aas this (aey _ _)
 refine vx y n q3 (by rw[t];exact k2.ext (.of y U)) λM m4 B H4 E D4 c S G h4 k4=>Ab G h4 k4 λm5 H5 n5 N O L=>zu ?_ N O L;have:=congrArg (λz=>z[m1.os.length]?) c;simp[aaY,if_pos hq]at this;rw[this];exact I
theorem Gu(S:cj own fr scope sc)(t:MI X tg a w)(m:∀cl s H C ex,MG (aY X scope cl (own++fr) s H C ex) tg g)(l:∀cl s H C ex,PTs (aY X scope cl (own++fr) s H C ex) ifs (tMT X.kx tt))
  (q:∀cl s H C ex,ME (aY X scope cl (own++fr) s H C ex) elt f) (k:X.env.scope=sc:=by rfl) (c:ps.map (λi=>X.N[i]?)=fr.map some:=by rfl) (r:X.calm=true:=by rfl) (n:∀x,aaM a X.env x=pure x:=by intro _;rfl) :
  ME X (.ListComp elt [⟨tg,a,ifs,0⟩] scope pos) (p9 w own ps g tt f):=(JT S t m l q k c r n).wk λ_ _ _ h=>xJ h
theorem QB:PTs X [] (tMT X.kx Bq):=by intro c s i H Q I ⟨l,m,K,R,k,h⟩;exact Q9 c s i H Q I (h true m H k rfl R (Frm.refl _ _))
def QZ{t:WT}(h:MT X c t):PTs X [c] (tMT X.kx t):=Mn h
theorem JN(S:cj own fr scope sc)(E:X.N.Nodup)(K:X.N[i]?=some y)(h:X.env.scope.names.lookup y=some .local)(O:MI X tg a w)(M:∀cl s H C ex,MG (aY X scope cl (own++fr) s H C ex) tg g)(B:∀cl s H C ex,PTs (aY X scope cl (own++fr) s H C ex) ifs (tMT X.kx tt))
  (N:∀cl s H C ex,ME (aY X scope cl (own++fr) s H C ex) elt f) (t:abz (.ListComp elt [⟨tg,a,ifs,0⟩] scope pos) (some (.Name y u)) d.line X.env=pure true:=by rfl)
  (l:X.env.scope=sc:=by rfl) (c:ps.map (λi=>X.N[i]?)=fr.map some:=by rfl) (G:X.calm=true:=by rfl) (J:∀x,aaM a X.env x=pure x:=by intro _;rfl) :
  MS X (.Assign [.Name y u] (.ListComp elt [⟨tg,a,ifs,0⟩] scope pos) d) (wSet i (p9 w own ps g tt f)):=(JG S E K h O M B N t l c G J).wk λD I H ⟨L,m,T,z,P,k⟩=>
 xJ ⟨L,m,_,z,P,λr Q v U q n R rr F=>vQ R n F rr q k.nx ⟨m,I,z⟩⟩
theorem Jp(S:cj own fr scope sc)(Q:X.N.Nodup)(P:X.N[i]?=some y)(h:X.env.scope.names.lookup y=some .local)(M:MI X tg a w)(J:∀cl s H C ex,MG (aY X scope cl (own++fr) s H C ex) tg g)(O:∀cl s H C ex,PTs (aY X scope cl (own++fr) s H C ex) ifs (tMT X.kx tt))
  (z:∀cl s H C ex,MI (aY X scope cl (own++fr) s H C ex) j b o) (t:∀cl s H C ex,MG (aY X scope cl (own++fr) s H C ex) j A) (G:∀cl s H C ex,PTs (aY X scope cl (own++fr) s H C ex) e (tMT X.kx p))
  (U:∀cl s H C ex,ME (aY X scope cl (own++fr) s H C ex) elt f) (E:abz (.ListComp elt [⟨tg,a,ifs,0⟩,⟨j,b,e,0⟩] scope pos) (some (.Name y u)) d.line X.env=pure true:=by rfl)
  (l:X.env.scope=sc:=by rfl) (c:ps.map (λi=>X.N[i]?)=fr.map some:=by rfl) (K:X.calm=true:=by rfl) (N:∀x,aaM a X.env x=pure x:=by intro _;rfl)
  (B:∀cl C x,aaM b (agm scope cl C X.env) x=pure x:=by intro _ _ _;rfl) :
  MS X (.Assign [.Name y u] (.ListComp elt [⟨tg,a,ifs,0⟩,⟨j,b,e,0⟩] scope pos) d) (wSet i (Ci w own ps g tt o A p f)):=(Ja S Q P h M J O z t G U E l c K N B).wk λD T H ⟨L,m,Z,I,V,k⟩=>
 Jb ⟨L,m,_,I,V,λr W v Y q n R rr F=>vQ R n F rr q k.nx ⟨m,T,I⟩⟩
end
def bm{i:Str}(h:Den K H (.str i) v):v = .str i:=by simpa[Den]
def nH{i:Bool}(h:Den K H (.bool i) v):v = .bl i:=by simpa[Den]
def ie(h:Den K H .none v):v = .non:=by simpa[Den]
def gq(i:Int):RelR K α Hb H (.imm (.int i)) (.int i):=rfl
def mD(i:Bool):RelR K α Hb H (.imm (.bool i)) (.bl i):=rfl
def zP(i:Str):RelR K α Hb H (.imm (.str i)) (.str i):=rfl
def xR:RelR K α Hb H (.imm .none) .non:=rfl
def j2{d:aD}(h:Den K H d v):RelR K α Hb H (.imm d) v:=h
def bO(h:Den K H (.tuple ds) v):∃a xs,v = .ref a/\SqT K H a xs/\DenAll K H ds xs:=by simpa only[Den]
def fc(f:SqT K H a xs)(g:DenAll K H ds xs):Den K H (.tuple ds) (.ref a):=by  exact⟨a,xs,rfl,f,g⟩
section
variable {X:Cx}
def oAdd:WO
 | .imm (.int i),.imm (.int j),_,K=>K (.imm (.int (i+j)))
 | .imm (.str x),.imm (.str y),_,K=>x.length+y.length≤aam/\K (.imm (.str (x++y)))
 | .imm (.tuple a),.imm (.tuple b),_,K=>a.length+b.length≤aam/\K (.imm (.tuple (a++b)))
 |r1,r2,m,K=>∃c d,lsOf m r1=some c/\lsOf m r2=some d/\c.length+d.length≤aam/\K (.new (c++d))
theorem aM:OpR X (ab8 .Add) (rM X.kx oAdd):=by
 intro l s B H x y v u Q I N G ⟨α,m,σ,H0,H1,r1,r2,Kc,R,L,O,h,f⟩;unfold oAdd at h
 split at h
 .rename_i _ _ i j;have S:=aF (show Den X.kx H (.int i) x from L);have K:=aF (show Den X.kx H (.int j) y from O);subst S K;exact UK l s B H _ _ v u Q I N G ⟨i,j,rfl,rfl,f _ _ H h R (gq _) (Frm.refl _ _)⟩
 .rename_i _ _ i j;have S:=bm (show Den X.kx H (.str i) x from L);have K:=bm (show Den X.kx H (.str j) y from O);subst S K;exact za l s B H _ _ v u Q I N G ⟨i,j,rfl,rfl,h.1,f _ _ H h.2 R (zP _) (Frm.refl _ _)⟩
 .rename_i _ _ ds es;let⟨a,J,rfl,U,E⟩:=bO (show Den X.kx H (.tuple ds) x from L);let⟨b,V,rfl,T,D⟩:=bO (show Den X.kx H (.tuple es) y from O);let⟨W,h⟩:=h
  by_cases hx:J=[]
  .subst hx
   cases N;cases G
   let⟨q,r,p1,_⟩:=I.tuple U;let⟨c,z,p2,_⟩:=I.tuple T;cases r;let⟨⟨Y,dd,F,Z⟩,d,M,n,hd⟩:=id p1;let⟨⟨P,w,C,A⟩,o,k,n2,g⟩:=id p2;simp only at M hd k g;subst M hd k g;have e0:ds=[]:=by cases ds with|nil=>rfl|cons _ _=>have:=E.length;simp at this
   subst e0;exact afL ⟨_,d,rfl⟩ ⟨_,o,rfl⟩ afz agD ad4 adV (adC _ _)
    (tuple_addW0 a b _ c.toArray n n2 dd w Z A (by simp)) ⟨d,o,⟨.ref b,H,I,rfl,f _ _ H h R (show Den X.kx H (.tuple ([]++es)) (.ref b)from O) (Frm.refl _ _)⟩⟩
  .refine NW l s B H _ _ v u Q I N G ⟨a,b,J,V,rfl,rfl,U,T,hx,by rw[<-E.length,<-D.length];exact W,λe=>?_,λe p t=>?_⟩
   .subst e;have e0:es=[]:=by cases es with|nil=>rfl|cons _ _=>have:=D.length;simp at this
    subst e0;exact f _ _ H (by rw[aaZ]at h;exact h) R (j2 L) (Frm.refl _ _)
   .exact f _ _ _ h (R.lay t) (j2<|fc (SqT.of aB) ((E.append D).mono (bu (.inl t)))) (cu t)
 .obtain⟨ds,es,S,K,W,h⟩:=h;let⟨a,J,rfl,U,E⟩:=L.list R S;let⟨b,V,rfl,T,D⟩:=O.list R K
  cases N;cases G
  let⟨q,r,⟨⟨Y,dd,F,Z⟩,n,d,M,hdd,hd⟩,_⟩:=I.list U;let⟨c,z,⟨⟨P,w,C,A⟩,n2,o,k,hdd2,g⟩,_⟩:=I.list T;simp only at M hd k g;subst M hd k g;have hzz:J.length+V.length≤aam:=by rw[<-E.length,<-D.length];exact W
  refine afL ⟨_,d,rfl⟩ ⟨_,o,rfl⟩ noFill_list_add seq_list_add PySem.F.slot_list_add PySem.F.entry_list_add (PySem.F.args_list_add_2 _ _) (list_addW a b q.toArray c.toArray n n2 dd w Z A (by have:=r.length;have:=z.length;simp only[aaK];omega)) ⟨d,o,?_⟩;have ea:q.toArray++c.toArray=(q++c).toArray:=by simp
  rw[ea];have t:H s.heap.objs.size=none:=I.fresh;exact⟨.ref _,_,I.lnew (t':=s.toks) (r.append z) (by rw[aal];omega),rfl,f _ _ _ h (R.lay t) ⟨_,J++V,rfl,t,aB,(E.append D).mono (bu (.inl t))⟩ (cu t)⟩
def oII(C:Int->Int->Prop)(g:Int->Int->Int):WO
 | .imm (.int i),.imm (.int j),_,K=>C i j/\K (.imm (.int (g i j)))
 |_,_,_,_=>False
def oIB(g:Int->Int->Bool):WO
 | .imm (.int i),.imm (.int j),_,K=>K (.imm (.bool (g i j)))
 |_,_,_,_=>False
theorem uv{f:Ad->Ad->Sem Ad}{C:Int->Int->Prop}{g:Int->Int->Int}(h:OpR X f (rI C λi j=>.int (g i j))):OpR X f (rM X.kx (oII C g)):=by
 intro p s c H x y v u Q I k r ⟨z,m,q,w,o,r1,t,K,R,d,l,a,b⟩;unfold oII at a
 split at a
 .rename_i _ _ i j;have n:=aF (show Den X.kx H _ x from d);have e:=aF (show Den X.kx H _ y from l);subst n e;exact h p s c H _ _ v u Q I k r ⟨i,j,rfl,rfl,a.1,b _ _ H a.2 R (gq _) (Frm.refl _ _)⟩
 .simp_all
theorem yx{f:Ad->Ad->Sem Ad}{g:Int->Int->Bool}(h:OpR X f (rI0 λi j=>.bl (g i j))):OpR X f (rM X.kx (oIB g)):=by
 intro p s b H x y v u Q I k r ⟨z,m,q,w,o,r1,t,K,R,d,l,c,a⟩;unfold oIB at c
 split at c
 .rename_i _ _ i j;have n:=aF (show Den X.kx H _ x from d);have e:=aF (show Den X.kx H _ y from l);subst n e;exact h p s b H _ _ v u Q I k r ⟨i,j,rfl,rfl,a _ _ H c R (mD _) (Frm.refl _ _)⟩
 .simp_all
def oSub:WO:=oII (λ_ _=>True) λi j=>i-j
theorem z9:OpR X (ab8 .Sub) (rM X.kx oSub):=uv (opI λ_ _ _ _ _ _ _ _ q=>sub_int q)
def oMul:WO:=oII agW λi j=>i*j
theorem NT:OpR X (ab8 .Mult) (rM X.kx oMul):=uv (opI λ_ _ _ _ _ _ _ h q=>mul_int q h)
def CFd(_ j:Int):Prop:=0<j/\j.natAbs.log2<9000
def VZ:WO:=oII CFd λi j=>i/j
theorem il:OpR X (ab8 .FloorDiv) (rM X.kx VZ):=uv (opI λi j _ _ _ _ _ h q=>floordiv_int (by have:=h.1;omega) (by rw[Int.fdiv_eq_ediv_of_nonneg _ (by have:=h.1;omega)];exact q) (.inl (PyProof.noPylong_of_log2 h.2)))
def oMod:WO:=oII (λ_ j=>0<j) λi j=>i%j
def fJ:OpR X (ab8 .Mod) (rM X.kx oMod):=uv Vk
def oPow:WO:=oII CPow λi j=>i^j.toNat
def v6:OpR X (ab8 .Pow) (rM X.kx oPow):=uv VD
def oLt:WO:=oIB λi j=>decide (i<j)
def oLe:WO:=oIB λi j=>decide (i≤j)
def oGt:WO:=oIB λi j=>decide (j<i)
def oGe:WO:=oIB λi j=>decide (j≤i)
def lr:OpR X (aaS .Lt) (rM X.kx oLt):=yx Yt
def J6:OpR X (aaS .LtE) (rM X.kx oLe):=yx XU
def o3:OpR X (aaS .Gt) (rM X.kx oGt):=yx YG
def L5:OpR X (aaS .GtE) (rM X.kx oGe):=yx Xp
def eqD(f:Bool->Bool):WO:=λr1 r m K=>match asD m r1,asD m r with
 |some d1,some d2=>ab7 d1=true/\ab7 d2=true/\K (.imm (.bool (f (aaj d1 d2))))
 |_,_=>False
def eqS(f:Bool->Bool):WO:=λr1 r m K=>∃x y:Str,r1 = .imm (.str x)/\r = .imm (.str y)/\K (.imm (.bool (f (decide (x=y)))))
def eqSs(f:Bool->Bool):WO:=λr1 r m K=>∃x y:List Str,lsOf m r1=some (x.map .str)/\lsOf m r=some (y.map .str)/\x.length=y.length/\K (.imm (.bool (f (decide (x=y)))))
def oEq:WO:=λr1 r m K=>eqD id r1 r m K\/eqS id r1 r m K\/eqSs id r1 r m K
def oNe:WO:=λr1 r m K=>eqD (!·) r1 r m K\/eqS (!·) r1 r m K
theorem fH{K:Kd}{H:Hp}:∀{ns:List Str}{xs:List V},DenAll K H (ns.map .str) xs->xs=ns.map V.str
 |[],_,h=>by simpa only[ DenAll]
 |n::ns,_,h=>by
  let⟨v,vs,rfl,a,b⟩:=h;have e:=bm a;rw[e,fH b];rfl
theorem rq:∀{ns:List Str}{us:List Ad}{j:Nat}{u:Ad},Vals (ns.map V.str) us->us[j]?=some u->∃x t,ns[j]?=some x/\u = .str x t
 |[],_,_,_,.nil,e=>by simp at e
 |n::ns,_,0,_,.cons r _,e=>by
  simp at e;subst e;let⟨t,h⟩:=r;exact⟨n,t,rfl,h⟩
 |n::ns,_,j+1,u,.cons _ t,e=>by
  let⟨x,a,c,b⟩:=rq t ‹_›;exact⟨x,a,by simpa using c,b⟩
theorem u9(xs ys:List Str)(h:xs.length=ys.length):(aaL xs.length).all (λj=>decide (xs.getD j aeN=ys.getD j aeN))=decide (xs=ys):=by
 rw[abX,abD,decide_eq_true_eq];constructor
 .intro q;apply ahd h;intro i a b;have:=q i (by simpa);rw[decide_eq_true_eq,aaA,aaA,mT a,mT b]at this;exact this
 .rintro rfl j _;exact decide_eq_true rfl
theorem Oi{s:Io}{x y:V}{v u:Ad}{m:MSt}{r1 r2:R}{xs ys:List Str}(I:Inv X pins σ' H s)(f:Rel X.kx α m σ H)(G:RelR X.kx α H0 H r1 x)(P:RelR X.kx α H1 H r2 y)(q:RelV x v)(k:RelV y u)
  (C:lsOf m r1=some (xs.map .str)) (n:lsOf m r2=some (ys.map .str)) (Q:xs.length=ys.length) (T:X.A.units+64<cLine):∃l b c i,v = .ref l/\u = .ref b/\s.heap.IsList l c/\s.heap.IsList b i/\c.size=xs.length/\i.size=xs.length/\
   ∀j (N:j<c.size) (z:j<i.size),afF X.A.in1 s c[j] i[j] (decide (xs.getD j aeN=ys.getD j aeN)):=by
 let⟨a,U,rfl,S,O⟩:=G.list f C;let⟨b,W,rfl,D,w⟩:=P.list f n;have E:=fH O;have K:=fH w;subst E K
 cases q;cases k
 let⟨c,r,F,_⟩:=I.list S;let⟨i,d,p,_⟩:=I.list D;have g:=r.length;have h:=d.length;rw[iO]at g h;refine⟨a,b,c.toArray,i.toArray,rfl,rfl,F.isList,p.isList,by simp[g],by simp[<-h,Q],λj N z=>?_⟩;let⟨x,t,M,B⟩:=rq r (j:=j) (u:=c.toArray[j]) (by simp);let⟨y,J,o,L⟩:=rq d (j:=j) (u:=i.toArray[j]) (by simp);rw[B,L,aaA,aaA,M,o];have:=afF.str_str (A:=X.A.in1) (s:=s) x t y J;have e:(x==y)=decide (x=y):=by rw[aeb]
 simp_all
theorem cg(j:X.A.units+64<cLine):OpR X (aaS .Eq) (rM X.kx oEq):=by
 intro p s d H x y v u Q I g r ⟨F,m,C,E,A,r1,D,K,R,c,i,h,f⟩;rcases h with h|⟨z,t,rfl,rfl,h⟩|⟨n,w,a,e,k,h⟩
 .unfold eqD at h
  split at h
  .rename_i d1 d2 a e;let⟨B,q⟩:=c.reads I R g a (abh _ (acZ h.1));let⟨bs,o⟩:=i.reads I R r e (abh _ (acZ h.2.1));exact eq_dataH q o h.1 h.2.1 j ⟨.bl _,H,I,rfl,f _ _ H h.2.2 R (mD _) (Frm.refl _ _)⟩
  .exact h.elim
 .have a:=bm (show Den X.kx H (.str z) x from c);have e:=bm (show Den X.kx H (.str t) y from i);subst a e;refine Xj p s d H _ _ v u Q I g r ⟨rfl,?_⟩;rw[qx];exact f _ _ H h R (mD _) (Frm.refl _ _)
 .obtain⟨l,b,its,its2,rfl,rfl,p1,p2,s1,s2,he⟩:=Oi I R c i g r a e k j;refine SeqAt.eq_listAt p1 p2 (s1.trans s2.symm) (by omega) he ?_;rw[s1,u9 n w k];exact⟨.bl _,H,I,rfl,f _ _ H h R (mD _) (Frm.refl _ _)⟩
theorem gn(g:X.A.units+64<cLine):OpR X (aaS .NotEq) (rM X.kx oNe):=by
 intro p s a H x y v u Q I c r ⟨w,m,l,o,j,r1,n,K,R,b,d,h,f⟩;rcases h with h|⟨z,t,rfl,rfl,h⟩
 .unfold eqD at h
  split at h
  .rename_i d1 d2 e1 e;let⟨k,q⟩:=b.reads I R c e1 (abh _ (acZ h.1));let⟨bs,i⟩:=d.reads I R r e (abh _ (acZ h.2.1));exact ne_dataH q i h.1 h.2.1 g ⟨.bl _,H,I,rfl,f _ _ H h.2.2 R (mD _) (Frm.refl _ _)⟩
  .simp_all
 .have e1:=bm (show Den X.kx H (.str z) x from b);have e:=bm (show Den X.kx H _ y from d);subst e1 e;refine YC p s a H _ _ v u Q I c r ⟨rfl,?_⟩;rw[qx];exact f _ _ H h R (mD _) (Frm.refl _ _)
def l7:R->Bool
 | .imm .none=>true
 |_=>false
def oIsN:WO:=λr1 r _ K=>r = .imm .none/\K (.imm (.bool (l7 r1)))
def BO:WO:=λr1 r _ K=>r = .imm .none/\K (.imm (.bool (!l7 r1)))
theorem pc(h:RelR K α Hb H r v):decide (v = .non)=l7 r:=by
 cases r with
 |obj k=>let⟨a,_,rfl⟩:=h;rfl
 |new ds=>let⟨a,_,rfl,_⟩:=h;rfl
 | «at» k p=>let⟨f,a,_,_,rfl⟩:=h;rfl
 |newT t=>let⟨f,a,rfl,_⟩:=h;rfl
 |imm d=>
  cases d with
  |none=>have e:=ie (show Den K H .none v from h);subst e;rfl
  |bool b=>have e:=nH (show Den K H _ v from h);subst e;rfl
  |int b=>have e:=aF (show Den K H _ v from h);subst e;rfl
  |str b=>have e:=bm (show Den K H _ v from h);subst e;rfl
  |list ds=>have c:=h;let⟨a,_,rfl,_⟩:=c;rfl
  |tuple ds=>let⟨a,_,rfl,_⟩:=bO (h);rfl
  |dict g=>have c:=h;let⟨a,rfl,_⟩:=c;rfl
theorem vi:OpR X (aaS .Is) (rM X.kx oIsN):=by
 intro p s a H x y v u Q I c r ⟨n,m,j,l,i,r1,k,K,R,b,g,h,f⟩;let⟨e,h⟩:=h;subst e;have d:=ie (show Den X.kx H .none y from g);exact Wj p s a H _ _ v u Q I c r ⟨d,by rw[pc b];exact f _ _ H h R (mD _) (Frm.refl _ _)⟩
theorem o9:OpR X (aaS .IsNot) (rM X.kx BO):=by
 intro p s a H x y v u Q I c r ⟨n,m,j,l,i,r1,k,K,R,b,g,h,f⟩;let⟨e,h⟩:=h;subst e;have d:=ie (show Den X.kx H .none y from g);exact R8 p s a H _ _ v u Q I c r ⟨d,by rw[pc b];exact f _ _ H h R (mD _) (Frm.refl _ _)⟩
def uNeg:WU
 | .imm (.int i),_,K=>K (.imm (.int (-i)))
 |_,_,_=>False
theorem lQ:UnR X (unaryOp .USub) (uM X.kx uNeg):=by
 intro p s a H x v Q I r ⟨g,m,c,d,r1,K,R,b,h,f⟩;unfold uNeg at h
 split at h
 .rename_i _ i;have e:=aF (show Den X.kx H _ x from b);subst e;exact SE p s a H _ v Q I r ⟨i,rfl,f _ _ H h R (gq _) (Frm.refl _ _)⟩
 .simp_all
def zX(m:MSt)(K:R->Prop):R->R->Prop
 | .imm (.tuple ds),.imm (.int i)=>∃d,atI ds i=some d/\K (.imm d)
 | .imm (.str x),.imm (.int i)=>∃c,x.length≤aam/\atI x.cps.toList i=some c/\K (.imm (.str ⟨#[c]⟩))
 |r,.imm (.int i)=>∃ds d,lsOf m r=some ds/\atI ds i=some d/\K (.imm d)
 |_,_=>False
def qP:WO:=λr1 r m K=>zX m K r1 r
theorem D7{K:Kx}{i:Int}{d:aD}(g:DenAll K H ds xs)(e:atI ds i=some d):∃v,atI xs i=some v/\Den K H d v:=by
 unfold atI at e⊢;rw[<-g.length]
 cases q:ixN ds.length i with
 |none=>rw[q]at e;cases e
 |some j=>
  rw[q]at e;let⟨v,a,h⟩:=g.get (e);exact⟨v,a,h⟩
theorem Rg:IxR X (rM X.kx qP):=by
 intro h b p s o H x y v u Q I C t ⟨S,m,O,P,N,r1,K,L,R,B,E,J,n⟩ l;have j:zX m L r1 K:=J;unfold zX at j
 split at j
 .rename_i ds i;let⟨d,e,k⟩:=j;let⟨a,A,rfl,f,g⟩:=bO (B);have q:=aF (show Den X.kx H (.int i) y from E);let⟨z,D,r⟩:=D7 g e;exact Se h b p s o H _ _ v u Q I C t ⟨a,A,i,z,rfl,q,f,D,n _ _ H k R (j2 r) (Frm.refl _ _)⟩ l
 .rename_i w i;let⟨c,F,e,k⟩:=j;have M:=bm (show Den X.kx H (.str w) x from B);have q:=aF (show Den X.kx H (.int i) y from E);exact U9 h b p s o H _ _ v u Q I C t ⟨w,i,c,M,q,F,e,n _ _ H k R (zP _) (Frm.refl _ _)⟩ l
 .rename_i i _ _;let⟨ds,d,G,e,k⟩:=j;let⟨a,A,rfl,f,g⟩:=B.list R G;have q:=aF (show Den X.kx H (.int i) y from E);let⟨z,D,r⟩:=D7 g e;exact Bz h b p s o H _ _ v u Q I C t ⟨a,A,i,z,rfl,q,f,D,n _ _ H k R (j2 r) (Frm.refl _ _)⟩ l
 .exact j.elim
theorem YJ{a b:Expr}{c w:WE}(d:ME X a c)(e:ME X b w)(f:k7 b:=by intro _ _;rfl):ME X (.Subscript a b pos) (wBin qP c w):=(TM Rg d e f).wk λ_ _ _ h=>tf h
end
abbrev BP(P:Int->Prop):R->Prop
 | .imm (.int i)=>P i
 |_=>False
abbrev JI(P:Nat->Prop):R->Prop
 | .obj k=>P k
 |_=>False
abbrev on1(P:R->Prop):List R->Prop
 |[r]=>P r
 |_=>False
section
variable {K:Kx}{b:Al}{c H:Hp}{r:R}{v:V}
theorem Fi{P:Int->Prop}(rr:RelR K b c H r v)(h:BP P r):∃i,r = .imm (.int i)/\v = .int i/\P i:=by
 unfold BP at h
 split at h
 .exact⟨_,rfl,aF (K:=K) (H:=H) rr,h⟩
 .simp_all
theorem KL{P:Nat->Prop}(rr:RelR K b c H r v)(h:JI P r):∃k a,r = .obj k/\b[k]?=some (.L a)/\v = .ref a/\P k:=by
 unfold JI at h
 split at h
 .obtain⟨a,e1,e2⟩:=rr;exact⟨_,a,rfl,e1,e2,h⟩
 .simp_all
theorem de{P:R->Prop}{rs:List R}(rr:RelRs K b c H rs xs)(h:on1 P rs):∃r v,rs=[r]/\xs=[v]/\RelR K b c H r v/\P r:=by
 cases rr with
 |nil=>exact h.elim
 |cons a t=>
  cases t with
  |nil=>exact⟨_,_,rfl,rfl,a,h⟩
  |cons _ _=>exact h.elim
end
section
variable {X:Cx}{o a b c e:Expr}{A:List Expr}{B E G J C L:WE}{D:WA}{pos y j:Pos}
abbrev WM:=R->List R->MSt->(R->MSt->Prop)->Prop
def mM(K:Kx)(n:WM):V->List V->Hp->VK->Prop:=λx p H Q=>∃d m i k l r rs h,Rel K d m i H/\RelR K d k H r x/\RelRs K d l H rs p/\n r rs m h/\∀r g v f,h r g->g.np=m.np->Rel K d g i f->RelR K d H f r v->Frm d H f->Q v f
abbrev wML(d:WM)(B:WE)(D:WA):WE:=λm K=>B m λr m1=>(∃ds,lsOf m1 r=some ds)/\D m1 λrs m2=>d r rs m2 K
theorem Xq{u:WM}(h:tM X.kx (wML u B D) σ H Q):tBM X.K "list" (mM X.kx u) (tM X.kx B) (tMA X.kx D) σ H Q:=by
 let⟨t,m,N,w,P,q⟩:=h;refine⟨t,m,_,w,P,λr m1 v M k n1 R rr x=>?_⟩;let⟨⟨ds,z⟩,k⟩:=k;let⟨a,I,rfl,f,g⟩:=rr.list R z;refine⟨.inl ⟨rfl,I,f⟩,t,m1,_,R,k,λrs m2 vs S k2 n2 d p i=>?_⟩;exact⟨t,m2,σ,H,M,r,rs,N,d,rr.keep w R i,p,k2,λr K v O k n s l F=>q r K v O k (n.trans (n2.trans n1)) s (l.base d (x.trans i)) ((x.trans i).trans F)⟩
theorem Yx{name:Str}{id:String}{l:WM}(slot:Slot "list" name id)(k:agK (.builtin id)=pure (.type "method_descriptor"))(m:MtM X id (mM X.kx l))(p:ME X o B)(n:MA X (e::A) D)
  (g:abv o name X.env (eval o X.env)=eval o X.env:=by rfl)
  (i:((abn j (aac (e::A) X.env)).all (λx=>!x.1)&&(ac4 j (abY [] X.env)).all (λx=>x.1.isSome)
   && decide ((e::A).length+([]:List adm).length+(if ([]:List adm).isEmpty then 0 else 1)<30))=true:=by rfl)
  (f:(y.endLine==j.line)=true:=by rfl) (q:aac (e::A) X.env=(false,eval e X.env)::aac A X.env:=by first|exact aI rfl|rfl) (d:(abn j (aac A X.env)).any (·.1)=false:=by rfl) :
  ME X (.Call (.Attribute o name y) (e::A) [] j) (wML l B D):=(Pc PySem.F.plainAttrs_list slot k m p n g i f q d).wk λ_ _ _ h=>Xq h
def BQ:WM:=λr rs m K=>JI (λk=>on1 (iA λd=>∃ds,m.os[k]?=some ds/\ds.length<aam/\K (.imm .none) {m with os:=m.os.set k (ds++[d])}) rs) r
theorem dB:MtM X "list.append" (mM X.kx BQ):=by
 intro p s i H x P v w Q I z M ⟨Y,m,T,V,S,r,rs,W,R,u,l,h,f⟩;let⟨k,a,rfl,n,rfl,h⟩:=KL u h;let⟨U,O,rfl,rfl,l,h⟩:=de l h;let⟨d,rfl,hd,ds,K,t,h⟩:=eF l h;let⟨N,q,g⟩:=R.own _ _ ds n K;let⟨R2,F⟩:=R.setO n q (g.append (DenAll.cons hd DenAll.nil));exact kQ p s i H _ _ v w Q I z M ⟨a,N,_,rfl,rfl,q,by rw[<-g.length];exact t,f _ _ _ _ h rfl R2 xR F⟩
def lenR(m:MSt)(K:R->Prop):R->Prop
 | .imm (.str x)=>x.length≤aam/\K (.imm (.int x.length))
 | .imm (.tuple ds)=>K (.imm (.int ds.length))
 |r=>∃ds,lsOf m r=some ds/\K (.imm (.int ds.length))
abbrev oLen:WC:=λrs m K=>on1 (lenR m K) rs
theorem bH:d3 X (.builtin "len") (cM X.kx oLen):=by
 intro p s k H t u Q I n ⟨F,m,w,z,rs,K,R,h,d,i⟩;let⟨r,v,rfl,rfl,l,d⟩:=de h d;unfold lenR at d
 split at d
 .rename_i x _;have e:=bm (show Den X.kx H _ _ from l);subst e;exact ud p s k H _ u Q I n ⟨x,rfl,d.1,i _ _ H d.2 R (gq _) (Frm.refl _ _)⟩
 .obtain⟨a,q,rfl,f,g⟩:=bO (l);exact km p s k H _ u Q I n ⟨a,q,rfl,.inr f,by rw[<-g.length];exact i _ _ H d R (gq _) (Frm.refl _ _)⟩
 .obtain⟨ds,el,d⟩:=d;let⟨a,q,rfl,f,g⟩:=l.list R el;exact km p s k H _ u Q I n ⟨a,q,rfl,.inl f,by rw[<-g.length];exact i _ _ H d R (gq _) (Frm.refl _ _)⟩
def sqOf(m:MSt):R->Option (List aD)
 | .imm (.tuple ds)=>some ds
 |r=>lsOf m r
theorem RelR.seq{K:Kx}{m:MSt}(R:Rel K α m σ H)(h:RelR K α H0 H r v)(e:sqOf m r=some ds):∃a xs,v = .ref a/\(SqL K H a xs\/SqT K H a xs)/\DenAll K H ds xs:=by
 unfold sqOf at e
 split at e
 .cases e;let⟨a,d,e,f,g⟩:=bO (h);exact⟨a,d,e,.inr f,g⟩
 .obtain⟨a,d,e,f,g⟩:=h.list R e;exact⟨a,d,e,.inl f,g⟩
def Kg:WC:=λrs m K=>on1 (λr=>∃ds,sqOf m r=some ds/\K (.imm (.tuple ds))) rs
theorem bU:d3 X (.type "tuple") (cM X.kx Kg):=by
 intro p s k H x u Q I t ⟨M,m,z,F,rs,K,R,h,d,i⟩;let⟨r,v,rfl,rfl,q,d⟩:=de h d
 .obtain⟨ds,e,d⟩:=d;let⟨a,w,rfl,f,g⟩:=q.seq R e;refine rj p s k H _ u Q I t ⟨a,w,rfl,?_⟩;rcases f with f|f
  .exact .inl ⟨f,λl n=>i _ _ _ d (R.lay n) (j2 (fc (SqT.of aB) (g.mono (bu (.inl n))))) (cu n)⟩
  .exact .inr ⟨f,i _ _ _ d R (j2 (fc f g)) (Frm.refl _ _)⟩
def PC:WC:=λrs m K=>on1 (λr=>∃d,asD m r=some d/\d.showable=true/\d.hasDict=false/\d.shown.length≤aam/\d.depth≤100/\K (.imm (.str d.shown))) rs
theorem cJ(R:X.A.guards=some [])(Z:X.A.units+200<cLine):d3 X (.builtin "repr") (cM X.kx PC):=by
 intro p s P H Y us Q I V ⟨α,m,σ,H0,rs,Kc,S,h,l,O⟩;let⟨r,v,rfl,rfl,U,l⟩:=de h l
 .obtain⟨d,e,hs,hnd,hz,hdp,l⟩:=l;let⟨u,rfl,T⟩:=V.one;let⟨as,q⟩:=U.reads I S T e hnd;have done:∀f k g,_->EP X p P Q (.str d.shown k) {s with heap:=g,toks:=f}:=λf k g n=>⟨.str d.shown,H,I.kept (t':=f) n,⟨_,rfl⟩,O _ _ H l S (zP _) (Frm.refl _ _)⟩
  cases q with
  |none=>exact PySem.P.repr_of_none (done _ _ _ λ_ _ z=>z)
  |bool b=>
   have:=done (s.toks+1) s.toks s.heap λ_ _ z=>z;simp only[aeJ]at this;exact PySem.P.repr_of_bool (by cases b<;>exact this)
  |int i t=>
   refine PySem.P.repr_of_int (by simpa[aD.showable]using hs) ?_;have:=done (s.toks+1) s.toks s.heap λ_ _ z=>z;simp only[aeJ]at this;exact this
  |str x t=>
   have N:=by simpa only[aeJ]using hz
   refine PySem.P.repr_of_str ?_ N;have:=done (s.toks+1) s.toks s.heap λ_ _ z=>z;simp only[aeJ]at this;exact this
  |list M w F K=>exact repr_of_reads' (.list M w F K) hs (ag3 hnd) R (by omega) (λ_ _ z=>z) (λg u f n=>done f u g n) hz
  |tuple M w F K=>exact repr_of_reads' (.tuple M w F K) hs (ag3 hnd) R (by omega) (λ_ _ z=>z) (λg u f n=>done f u g n) hz
  |dict M w F K W=>simp[acx]at hnd
def sM(K:Kx)(o:R->Option Int->Option Int->MSt->(R->Prop)->Prop):V->Option Int->Option Int->Hp->VK->Prop:=λx l k H Q=>∃d m h i r g,Rel K d m h H/\RelR K d i H r x/\o r l k m g/\∀r v f,g r->Rel K d m h f->RelR K d H f r v->Frm d H f->Q v f
def cutD(xs:List aD)(lo h:Option Int):List aD:=(xs.drop (HT.sIx xs.length 0 lo)).take (HT.sIx xs.length xs.length h-HT.sIx xs.length 0 lo)
def AA(g:DenAll K H ds xs)(lo h:Option Int):DenAll K H (cutD ds lo h) (cutV xs lo h):=by
 unfold cutD cutV;rw[<-g.length];exact(g.drop _).take _
def XZ:R->Option Int->Option Int->MSt->(R->Prop)->Prop:=λr l h m K=>∃ds,lsOf m r=some ds/\K (.new (cutD ds l h))
theorem IA:SlR X (sM X.kx XZ):=by
 intro d s n H x v vl F q t w Q I K O u z M;let⟨U,m,P,S,r,T,R,h,⟨ds,e,k⟩,l⟩:=M;let⟨a,N,rfl,f,g⟩:=h.list R e;exact Qb d s n H _ v vl F q t w Q I K O u z ⟨a,N,rfl,f,λp i=>l _ _ _ k (R.lay i) ⟨p,_,rfl,i,aB,(AA g q t).mono (bu (.inl i))⟩ (cu i)⟩
def WO1:=MSt->(Option Int->MSt->Prop)->Prop
def tMO(K:Kx)(w:WO1):TO:=λi H Q=>∃d m h,Rel K d m i H/\w m h/\∀r g f,h r g->g.np=m.np->Rel K d g i f->Frm d H f->Q r f
abbrev C9:WO1:=λm K=>K none m
abbrev Ul(w:WE):WO1:=λm K=>w m λr d=>BP (λi=>K (some i) d) r
theorem PO.wk{X:Cx}{e:Option Expr}{t t':TO}(h:PO X e t)(k:∀d H Q,t' d H Q->t d H Q):PO X e t':=λp s d H Q I q=>h p s d H Q I (k _ _ _ q)
abbrev MO(X:Cx)(e:Option Expr)(w:WO1):Prop:=PO X e (tMO X.kx w)
theorem RB:MO X none C9:=(P8).wk<|by intro g H Q ⟨d,m,K,R,h,f⟩;exact f none m H h rfl R (Frm.refl _ _)
theorem Ql(l:ME X e C):MO X (some e) (Ul C):=(Oo l).wk<|by
 intro p H Q ⟨h,m,K,g,n,f⟩;refine⟨h,m,_,g,n,λr m1 v d k n1 R rr F=>?_⟩;let⟨i,rfl,rfl,k⟩:=Fi rr k;exact⟨i,rfl,f _ m1 d k n1 R F⟩
abbrev wSl(f:R->Option Int->Option Int->MSt->(R->Prop)->Prop)(C:WE)(w wh:WO1):WE:=λm K=>C m λr m1=>w m1 λl m2=>wh m2 λu d=>f r l u d λg=>K g d
theorem IG{w wh:WO1}{x:Pos}(U:SlR X (sM X.kx ob))(Y:ME X e C)(W:MO X lo w)(M:MO X hi wh):ME X (.Subscript e (.Slice lo hi none x) pos) (wSl ob C w wh):=(IZ U Y W M).wk<|by intro V H Q ⟨g,m,Kc,h,T,i⟩;exact
 ⟨g,m,_,h,T,λr m1 v H1 k n1 R rr t=>⟨g,m1,_,R,k,λl m2 H2 k2 n2 f F=>⟨g,m2,_,f,k2,λu s Z N I d p=>⟨g,s,V,H,r,_,d,(rr.keep h R F).keep h f p,N,λK O S P n q z=>i K s O S P (I.trans (n2.trans n1)) n (q.base d ((t.trans F).trans p)) (((t.trans F).trans p).trans z)⟩⟩⟩⟩
end
def agV:Nat->List Ag->List (Option R)
 |_,[]=>[]
 |k,.imm d::as=>some (.imm d)::agV k as
 |k,.own _::as=>some (.obj k)::agV (k+1) as
 |k,.tr _::as=>some (.at k [])::agV (k+1) as
def agO:List Ag->List (List aD)
 |[]=>[]
 | .imm _::as=>agO as
 | .own ds::as=>ds::agO as
 | .tr t::as=>[t]::agO as
def d9(n:Nat)(as:List Ag):MSt:=⟨agV 0 as++aaz (n-as.length) none,agO as,(agO as).length⟩
def outR(m:MSt):R->R
 | .imm d=>.imm d
 | .new ds=>.new ds
 | .newT t=>.newT t
 | .obj k=>if k<m.np then .obj k else .new (m.os.getD k [])
 | .at k p=>if k<m.np then .at k p else match p,m.os[k]? with
  |[],some [t]=>.newT t
  |_,_=>.at k p
theorem dA:∀(k:Nat) (as:List Ag),(agV k as).length=as.length
 |_,[]=>rfl
 |k,.imm d::as=>by simp[agV,dA k as]
 |k,.own _::as=>by simp[agV,dA (k+1) as]
 |k,.tr _::as=>by simp[agV,dA (k+1) as]
section
variable {K:Kx}{H:Hp}
theorem RelAs.facts{K:Kd}:∀{as:List Ag}{vs:List V}{β:Al}{pre:Al},RelAs K H as vs β ->
  (agO as).length=β.length/\(∀(k:Nat) (ao:Ao) (ds:List aD),β[k]?=some ao->(agO as)[k]?=some ds->OwnAt K H ao ds)/\
   ∀(i:Nat) (r:R),(agV pre.length as)[i]?=some (some r)->∃v,vs[i]?=some v/\RelS K (pre++β) H r v
 |_,_,_,_,.nil=>⟨rfl,λk a ds h=>by simp at h,λi r h=>by simp[agV]at h⟩
 | _,_,β,pre,.imm (as:=as) hd t=>by
  let⟨g,f,d⟩:=t.facts (pre:=pre);refine⟨g,f,λi r h=>?_⟩
  cases i with
  |zero=>simp[agV]at h;subst h;exact⟨_,rfl,hd⟩
  |succ i=>
   let⟨v,e,q⟩:=d i r (by simpa[agV]using h);exact⟨v,by simpa using e,q⟩
 | _,_,_,pre,.own (a:=a) (β:=β) ha t=>by
  let⟨g,f,d⟩:=t.facts (pre:=pre++[.L a]);refine⟨by simp[agO,g],λk b ds c z=>?_,λi r h=>?_⟩
  .cases k with
   |zero=>simp[agO]at c z;subst c;subst z;exact ha
   |succ k=>exact f k b ds (by simpa using c) (by simpa[agO]using z)
  .cases i with
   |zero=>simp[agV]at h;subst h;exact⟨_,rfl,a,by simp,rfl⟩
   |succ i=>
    let⟨v,e,q⟩:=d i r (by simpa[agV]using h);refine⟨v,by simpa using e,?_⟩;rw[aa3]at q;exact q
 | _,_,_,pre,.tr (a:=a) (τ:=τ) (β:=β) ha el t=>by
  let⟨g,f,d⟩:=t.facts (pre:=pre++[.T τ]);refine⟨by simp[agO,g],λk b ds c z=>?_,λi r h=>?_⟩
  .cases k with
   |zero=>simp[agO]at c z;subst c;subst z;exact ha
   |succ k=>exact f k b ds (by simpa using c) (by simpa[agO]using z)
  .cases i with
   |zero=>simp[agV]at h;subst h;exact⟨_,rfl,τ,a,by simp,el,rfl⟩
   |succ i=>
    let⟨v,e,q⟩:=d i r (by simpa[agV]using h);refine⟨v,by simpa using e,?_⟩;rw[aa3]at q;exact q
theorem uz(m:N.length=nN)(f:n≤nN)(o:as.length=n)(nd:(ads β).Nodup)(a:RelAs K H as vs β)(c:K.eb.np≤(agO as).length)(d:Ext K.eb.np K.eb.be K.eb.H β H):Rel K β (d9 nN as) (start N vs) H:=by
 let⟨h,g,b⟩:=a.facts (pre:=[]);have j:=a.length;refine⟨nd,by rw[<-h];rfl,g,?_,λi r e=>?_,by rw[<-h];exact Mt _,c,d⟩
 .unfold start d9;simp only[aal,iO,ac8,dA];omega
 .have e':(agV 0 as++aaz (nN-as.length) none)[i]?=some (some r):=e
  by_cases k:i<as.length
  .rw[aaD (by rw[dA];exact k)]at e';let⟨v,l,q⟩:=b i r e';refine⟨v,?_,by simpa using q⟩;unfold start;rw[aaD (by rw[iO];omega),aao,l];rfl
  .rw[aav (by rw[dA];omega),adU]at e'
   split at e'<;>cases e'
theorem rQ{m:MSt}(r:RelAs K H as vs β)(c:m.np=(agO as).length)(R:Rel K α' m σ' H')(x:Ext (agO as).length β H α' H'):AH K H' β (m.os.take m.np)/\Frm β H H'/\β=α'.take (agO as).length:=by
 let⟨d,f,g⟩:=r.facts (pre:=[]);have e:α'.take (agO as).length=β:=by rw[x.pre,d,aat]
 refine⟨⟨?_,λj a ds z b=>?_⟩,x.frm,e.symm⟩
 .have:=R.npl;rw[R.len]at this
  grind
 .rw[<-e,aaY]at z;rw[c,aaY]at b
  by_cases h:j<(agO as).length
  .rw[if_pos h]at z b;exact R.own j a ds z b
  .simp_all
theorem Rb{m:MSt}(E:m.np=(agO as).length)(R:Rel K α' m σ' H')(x:Ext (agO as).length β H α' H')(l:β=α'.take (agO as).length)(rr:RelR K α' H H' r v)
  (ok:∀k p,r = .at k p->k<m.np\/(p=[]/\∃t,m.os[k]?=some [t])):RelR K β H H' (outR m r) v:=by
 have out:∀{k:Nat}{c:Ao},¬k<m.np->α'[k]?=some c->∀b∈c.ads,H b=none:=λ{k c} h e b q=>by
  rcases x.new b (oY e q)with z|z
  .exfalso;rw[l]at z;let⟨j,C,ej,B⟩:=n6 z;rw[aaY]at ej
   by_cases u:j<(agO as).length
   .rw[if_pos u]at ej;exact jo R.nd e ej (by omega) q B
   .rw[if_neg u]at ej;cases ej
  .exact z
 have i:∀{k:Nat}{c:Ao},k<m.np->α'[k]?=some c->β[k]?=some c:=λ{k c} h e=>by
  simp_all
 cases r with
 |imm d=>exact rr
 |new ds=>exact rr
 |newT t=>exact rr
 | obj k=>
  let⟨a,e,rfl⟩:=rr;unfold outR
  by_cases h:k<m.np
  .simp only[h,if_true];exact⟨a,i h e,rfl⟩
  .simp only[h,if_false];have f:k<m.os.length:=by rw[<-R.len];exact(AD.mp e).1
   have w:m.os[k]?=some (m.os.getD k []):=by rw[aaA,mT f];rfl
   let⟨A,y,D⟩:=R.own k _ _ e w;exact⟨a,A,rfl,out h e a (aaf.mpr rfl),y,D⟩
 | «at» k p=>
  let⟨n,a,e,o,rfl⟩:=rr;unfold outR
  by_cases h:k<m.np
  .simp only[h,if_true];exact⟨n,a,i h e,o,rfl⟩
  .simp only[h,if_false];rcases ok k p rfl with z|⟨rfl,t,s⟩
   .exact(h z).elim
   .rw[s];have g:=R.own k _ _ e s;exact⟨n,a,rfl,o,((f9 α').mp R.nd).1 _ (Ld e),out h e,g⟩
def okR(m:MSt):R->Prop
 | .at k p=>k<m.np\/(p=[]/\∃t,m.os[k]?=some [t])
 |_=>True
theorem okR.at{m:MSt}(h:okR m r):∀k p,r = .at k p->k<m.np\/(p=[]/\∃t,m.os[k]?=some [t]):=λk p e=>by subst e;exact h
def retK(a:R->List (List aD)->Prop)(m:MSt):R->Prop
 | .at k p=>okR m (.at k p)/\a (outR m (.at k p)) (m.os.take m.np)
 | .imm d=>a (.imm d) (m.os.take m.np)
 | .new ds=>a (.new ds) (m.os.take m.np)
 | .obj k=>a (outR m (.obj k)) (m.os.take m.np)
 | .newT t=>a (.newT t) (m.os.take m.np)
theorem retK.ok{a:R->List (List aD)->Prop}{m:MSt}(h:retK a m r):okR m r/\a (outR m r) (m.os.take m.np):=by
 cases r with
 | «at» k p=>exact h
 |imm d=>exact⟨trivial,h⟩
 |new ds=>exact⟨trivial,h⟩
 |obj k=>exact⟨trivial,h⟩
 |newT t=>exact⟨trivial,h⟩
theorem fn_m{E:XK}(p:K.eb=⟨0,[],λ_=>none⟩)(h:spOf K n sp vs H Q E)(u:N.length=nN)(g:n≤nN)
  (B:∀as c,as.length=n->sp as c->w {nx:=λm=>c (.imm .none) (m.os.take m.np),rt:=λr m=>retK c m r} (d9 nN as)):tMS K w {nx:=λ_ b=>Q .non b,rt:=Q} (start N vs) H:=by
 let⟨as,y,c,o,nd,k,e,f⟩:=h;have A:=uz u g o nd k (by rw[p];exact abw _) (by rw[p];exact⟨rfl,λ_ _ z=>(by cases z),λ_ _=>.inr rfl,λa t=>(by cases t)⟩);refine⟨y,d9 nN as,_,A,B as c o e,⟨λj s i b q d R x=>?_,λr j s i v b q d R rr x=>?_,λ_ _ _ _ z=>z.elim,λ_ _ _ _ z=>z.elim⟩⟩
 .obtain⟨O,F,_⟩:=rQ k d R x;exact f _ _ .non b q O xR F
 .obtain⟨O,F,eβ⟩:=rQ k d R x;have l:=retK.ok q;exact f _ _ v b l.2 O (Rb d R x eβ rr l.1.at) F
end
structure FnM(P:aaI)(w:World)(K:aad)(mg:Str->Option Ad)(base:aaQ)(x:Str)(k n:Nat)(sp:SpM):Prop where
 ex:∃(f:Addr) (fd:abU) (ps:List Str),FnOk P w K mg base CX0 k f fd ps (spOf ⟨K,w⟩ n sp)/\mg x=some (.ref f)/\abJ K (.ref f)=true/\Binds K fd ps []
 ar:∀as Kc,sp as Kc->as.length=n
structure DefM(K:aad)(mg:Str->Option Ad)(x:Str)(st:Stmt)(ps:List Str):Prop where
 ex:∃(f:Addr) (fd:abU),Fun K x x st f fd/\mg x=some (.ref f)/\Binds K fd ps []
theorem Yf{P:aaI}{w:World}{K:aad}{base:aaQ}{k:Nat}(D:DefM K mg x st ps)(S:ah N ps (ab st))(i:ps.length=n)(g:N.length=nN)(e:n≤nN)(ar:∀as b,sp as b->as.length=n)
  (a:∀(c:Ad) (A:abc) (outer:List Env) (s:Io) (H:Hp) (E:XK) (f:Addr),Room k (A.deeper (ad3 x (ab st) s.heap.objs.size f c)) ->
   ∃d,MSs (cxOf CX0 P w K mg base N x (ab st) f c A outer s H E).nox (bI st) d/\∀as b,as.length=n->sp as b->d {nx:=λm=>b (.imm .none) (m.os.take m.np),rt:=λr m=>retK b m r} (d9 nN as)) :
  FnM P w K mg base x (k+1) n sp:=by
 let⟨f,fd,F,l,j⟩:=D.ex;refine⟨⟨f,fd,ps,F.ok S (λvs H Q E h=>by rw[i];exact h.len) (λc A outer s H vs Q E p h=>?_),l,F.kp,j⟩,ar⟩;let⟨d,q,o⟩:=a c A outer s H E f p;exact⟨_,q,fn_m rfl h g e o⟩
section
variable {X:Cx}{a:Expr}{e:List Expr}{w:WA}{pos p:Pos}{k n:Nat}{sp:SpM}{x:Str}
theorem Ip(F:FnM X.prog X.w X.K X.mg X.base x k n sp)(l:Room k X.A)(j:MA X (a::e) w)(i:Gl X x:=by rfl)(b:(x==("__debug__" : Str))=false:=by decide)(m:aac (a::e) X.env=(false,eval a X.env)::aac e X.env:=by first|exact aI rfl|rfl)(h:(abn pos (aac e X.env)).any (·.1)=false:=by rfl) :
  ME X (.Call (.Name x p) (a::e) [] pos) (zJ sp w):=by
 let⟨f,fd,o,G,d,g,c⟩:=F.ex;exact OJ G l i d g c JE F.ar j b m h
def Room.u200{k:Nat}{A:abc}(r:Room k A):A.units+200<cLine:=by have:=r.un;omega
def d7:aaO "len" = some (.builtin "len"):=by rfl
def A9:aaO "sum" = some (.builtin "sum"):=by rfl
def xy:aaO "max" = some (.builtin "max"):=by rfl
def ia:aaO "repr" = some (.builtin "repr"):=by rfl
def qz:aaO "isinstance" = some (.builtin "isinstance"):=by rfl
def cW:aaO "tuple" = some (.type "tuple"):=by rfl
def CK:aaO "int" = some (.type "int"):=by rfl
def su:aaO "str" = some (.type "str"):=by decide +kernel
def P9:aaO "bool" = some (.type "bool"):=by decide +kernel
def t7:aaO "enumerate" = some (.type "enumerate"):=by rfl
end
section
variable {m:MSt}{K:R->MSt->Prop}{t:Bool->MSt->Prop}{v:List R->MSt->Prop}{f:R->Prop}{D:iy}{p q z s C E:WE}{l:WA}{wt F:WT}{w u:WS}{o:WO}{d:aD}{r r1 r2:R}{i j:Int}{k:Nat}
theorem uo(h:w {D with nx:=λa=>u D a } m):wSeq w u D m:=h
def UI(e:m.vs[n]?=some (some r))(h:K r m):wVar n m K:=⟨r,e,h⟩
def WX(h:wt m λc a=>if c=true then w D a else u D a):wIfS wt w u D m:=h
def Sy(h:wt m λc a=>if c=true then p a K else q a K):wIfE wt p q m K:=h
def wm{P:Bool->Prop}{b:Bool}(h:P b):onBl P (.imm (.bool b)):=h
theorem iE(h:A):if true=true then A else B:=by simp_all
theorem gm(h:B):if false=true then A else B:=by simp_all
theorem bi{c:Prop}[Decidable c](h:c->A)(a:¬c->B):if decide c=true then A else B:=by simp_all
def Yu(h:f (.imm (.int (-i)))):uNeg (.imm (.int i)) m f:=h
def Yn{rs:List R}{P:List aD->Prop}(e:iK rs=some ds)(a:ds.length≤aam)(h:P ds):QV P (iK rs):=by rw[e];exact⟨a,h⟩
def Wn(h:l m λrs m1=>match iZ m1 rs with|some (as,ks)=>ks.Nodup/\sp as λr a=>K (mapR ks r) {m1 with os:=cK m1.os ks a}|none=>False):zJ sp l m K:=h
def Xw{rs:List R}{P:List Ag->List Nat->Prop}(e:iZ m rs=some (as,ks))(a:ks.Nodup)(h:P as ks):match iZ m rs with|some (as,ks)=>ks.Nodup/\P as ks|none=>False:=by rw[e];exact⟨a,h⟩
def YN(h:s m λr a=>sf n D.nx a r):wSet n s D m:=h
def fE(h:P (m.setV n (.imm d))):sf n P m (.imm d):=.inl h
theorem dQ(h:P {vs:=m.vs.set n (some (.obj m.os.length)),os:=m.os++[ds],np:=m.np}):sf n P m (.new ds):=.inl (.inl h)
def Yv{a:Nat}(h:l m λrs b=>match rs with|[.imm d1,.imm d2]=>D.nx ((b.setV n (.imm d1)).setV a (.imm d2))|_=>False):wPar n a l D m:=h
def x_ls{P:Prop}(e:lsOf m r=some ds)(h:P):(∃ds,lsOf m r=some ds)/\P:=⟨⟨ds,e⟩,h⟩
theorem gc(e:m.os[k]?=some ds)(a:ds.length<aam)(h:K (.imm .none) {m with os:=m.os.set k (ds++[d])}):BQ (.obj k) [.imm d] m K:=⟨ds,e,a,h⟩
def Uq(h:f (.imm (.int (i+j)))):oAdd (.imm (.int i)) (.imm (.int j)) m f:=h
def yq(a:x.length+y.length≤aam)(h:f (.imm (.str (x++y)))):oAdd (.imm (.str x)) (.imm (.str y)) m f:=⟨a,h⟩
def uc{a:List aD}(c:a.length+b.length≤aam)(h:f (.imm (.tuple (a++b)))):oAdd (.imm (.tuple a)) (.imm (.tuple b)) m f:=⟨c,h⟩
def qM{a:List aD}(c:a.length+b.length≤aam)(h:f (.new (a++b))):oAdd (.new a) (.new b) m f:=⟨a,b,rfl,rfl,c,h⟩
def U3(h:f (.imm (.int (i-j)))):oSub (.imm (.int i)) (.imm (.int j)) m f:=⟨trivial,h⟩
def Su(a:CFd i j)(h:f (.imm (.int (i/j)))):VZ (.imm (.int i)) (.imm (.int j)) m f:=⟨a,h⟩
def Ng(a:0<j)(h:f (.imm (.int (i%j)))):oMod (.imm (.int i)) (.imm (.int j)) m f:=⟨a,h⟩
def Yg(a:CPow i j)(h:f (.imm (.int (i^j.toNat)))):oPow (.imm (.int i)) (.imm (.int j)) m f:=⟨a,h⟩
def x_lt(h:f (.imm (.bool (decide (i<j))))):oLt (.imm (.int i)) (.imm (.int j)) m f:=h
def x_le(h:f (.imm (.bool (decide (i≤j))))):oLe (.imm (.int i)) (.imm (.int j)) m f:=h
def x_gt(h:f (.imm (.bool (decide (j<i))))):oGt (.imm (.int i)) (.imm (.int j)) m f:=h
def x_ge(h:f (.imm (.bool (decide (j≤i))))):oGe (.imm (.int i)) (.imm (.int j)) m f:=h
def x_eq{d1 d2:aD}(e:asD m r1=some d1)(a:asD m r2=some d2)(s1:ab7 d1=true)(s2:ab7 d2=true)(h:f (.imm (.bool (aaj d1 d2)))):oEq r1 r2 m f:=by refine afl ?_;unfold eqD;rw[e,a];exact⟨s1,s2,h⟩
def x_ne{d1 d2:aD}(e:asD m r1=some d1)(a:asD m r2=some d2)(s1:ab7 d1=true)(s2:ab7 d2=true)(h:f (.imm (.bool (!aaj d1 d2)))):oNe r1 r2 m f:=by refine afl ?_;unfold eqD;rw[e,a];exact⟨s1,s2,h⟩
theorem Yb(h:f (.imm (.bool (decide (i=j))))):oEq (.imm (.int i)) (.imm (.int j)) m f:=x_eq rfl rfl rfl rfl ‹_›
def YQ(h:f (.imm (.bool (decide (i≠j))))):oNe (.imm (.int i)) (.imm (.int j)) m f:=x_ne rfl rfl rfl rfl (by simp[aaj];rw[aeb,<-decide_not];exact h)
def Xu(h:f (.imm (.bool (decide (x=y))))):oEq (.imm (.str x)) (.imm (.str y)) m f:=adQ (afl ⟨x,y,rfl,rfl,h⟩)
def YX(h:f (.imm (.bool (!decide (x=y))))):oNe (.imm (.str x)) (.imm (.str y)) m f:=adQ ⟨x,y,rfl,rfl,h⟩
def Xy(h:f (.imm (.bool (l7 r)))):oIsN r (.imm .none) m f:=⟨rfl,h⟩
def JP(h:f (.imm (.bool (!l7 r)))):BO r (.imm .none) m f:=⟨rfl,h⟩
def cb(e:atI ds i=some d)(h:f (.imm d)):qP (.imm (.tuple ds)) (.imm (.int i)) m f:=⟨d,e,h⟩
def mI(e:atI ds i=some d)(h:f (.imm d)):qP (.imm (.list ds)) (.imm (.int i)) m f:=⟨ds,d,rfl,e,h⟩
def B7(a:m.os[k]?=some ds)(e:atI ds i=some d)(h:f (.imm d)):qP (.obj k) (.imm (.int i)) m f:=⟨ds,d,a,e,h⟩
def qR(e:atI ds i=some d)(h:f (.imm d)):qP (.new ds) (.imm (.int i)) m f:=⟨ds,d,rfl,e,h⟩
def UA(h:f (.imm (.int ds.length))):lenR m f (.imm (.tuple ds)):=h
def Va(h:f (.imm (.int ds.length))):lenR m f (.imm (.list ds)):=⟨ds,rfl,h⟩
def V7(h:f (.imm (.int ds.length))):lenR m f (.new ds):=⟨ds,rfl,h⟩
def NH(e:sqOf m r=some ds)(h:f (.imm (.tuple ds))):Kg [r] m f:=⟨ds,e,h⟩
def VI(e:asD m r=some d)(b:d.showable=true)(g:d.hasDict=false)(c:d.shown.length≤aam)(a:d.depth≤100)(h:f (.imm (.str d.shown))):PC [r] m f:=⟨d,e,b,g,c,a,h⟩
def x_gM(h:P (m.setV n (.imm d))):gM n d m P:=h
def Ay(h:P m):Ot [] m P:=⟨rfl,h⟩
def mm(h:g d m λa=>gs ds a P):zR g gs (d::ds) m P:=h
def SV(e:ds.length=n)(h:gs ds m P):Mh n gs (.tuple ds) m P:=⟨e,h⟩
def Wq(h:Ks ⟨ds,none⟩ m):srcR m Ks (.imm (.list ds)):=h
def J3(h:Ks ⟨ds,none⟩ m):srcR m Ks (.imm (.tuple ds)):=h
def Vz(e:m.os[k]?=some ds)(h:Ks ⟨ds,some (k,ds)⟩ m):srcR m Ks (.obj k):=⟨ds,e,h⟩
end
def ag{D:iy}{m:MSt}(a:MSt)(e:m=a)(h:w D a):w D m:=e▸h
theorem Yp{i j:Int}(h:(-18446744073709551616<i/\i<18446744073709551616)\/(-18446744073709551616<j/\j<18446744073709551616)):agW i j:=CMul.ok ‹_›
def cfd{i j:Int}(h:0<j)(a:j<1152921504606846976):CFd i j:=⟨h,by
 have:j.natAbs<2^60:=by omega
 have:=(agn (by omega)).mpr this;omega⟩
theorem lq:∀ns:List Int,aby (ns.map .int)=true
 |[]=>rfl
 |n::ns=>by simp[ aby,aeW,lq ns]
theorem pk:∀ns:List Int,aaC (ns.map .int)≤1
 |[]=>abw 1
 |n::ns=>by
  have:=pk ns;simp[aaC,PyData.depth];omega
theorem vI(ns:List Int):ab7 (.list (ns.map .int))=true:=by
 have h:=pk ns;have b:(adj (ns.map .int)).depth≤64:=by simp only[PyData.depth];omega
 have a:(adj (ns.map .int)).canLay0=true:=by simp only[aeW,lq]
 unfold ab7;rw[a,decide_eq_true b];rfl
theorem KB{a:Type}{xs:List a}{i:Int}(c:0≤i)(b:i<xs.length):∃d,xs[i.toNat]?=some d/\atI xs i=some d:=by
 have h:i.toNat<xs.length:=by omega
 refine⟨xs[i.toNat],mT h,?_⟩;unfold atI ixN
 simp_all
theorem Je{i:Int}(a:0≤i)(b:i<ns.length):∃x:Int,atI (ns.map ab4) i=some (.int x):=by
 let⟨d,e,h⟩:=KB (xs:=ns.map ab4) a (by simp_all);rw[aao]at e
 cases q:ns[i.toNat]? with
 |none=>rw[q]at e;cases e
 |some x=>rw[q]at e;cases e;exact⟨x,h⟩
section
variable {X:Cx}{tg a b c e:Expr}{l:List Expr}{y A B C w D:WE}{E:WA}{pos p j:Pos}
def df:List aD->Option (List Int)
 |[]=>some []
 | .int i::ds=>(df ds).map (i :: ·)
 |_::_=>none
theorem iq(h:df ds=some ns):ds=ns.map .int:=by
 induction ds generalizing ns with
 |nil=>cases h;rfl
 | cons d ds f=>
  cases d with
  |int i=>
   simp only[df]at h
   cases q:df ds with
   |none=>rw[q]at h;cases h
   |some m=>rw[q]at h;cases h;rw[f q];rfl
  |none=>cases h
  |bool _=>cases h
  |str _=>cases h
  |list _=>cases h
  |tuple _=>cases h
  |dict _=>cases h
theorem fZ:∀ns:List Int,df (ns.map .int)=some ns
 |[]=>rfl
 |n::ns=>by simp[ df,fZ ns]
theorem d6{K:Kd}{H:Hp}:∀{ns:List Int}{xs:List V},DenAll K H (ns.map .int) xs->xs=ns.map V.int
 |[],_,h=>by simpa only[ DenAll]
 |n::ns,_,h=>by
  let⟨v,vs,rfl,d,f⟩:=h;have e:=aF d;rw[e,d6 f];rfl
def oSum:WC:=λrs m K=>on1 (λr=>∃ds ns,lsOf m r=some ds/\df ds=some ns/\K (.imm (.int ns.sum))) rs
theorem DQ(O:X.calm=true):d3 X (.builtin "sum") (cM X.kx oSum):=by
 intro q s P H x us Q I Y ⟨α,m,σ,H0,rs,Kc,R,h,o,n⟩;let⟨r,v,rfl,rfl,N,ds,ns,G,L,o⟩:=de h o;let⟨a,ys,rfl,f,g⟩:=N.list R G;rw[iq L]at g;have U:=d6 g;subst U;let⟨u,rfl,z⟩:=Y.one;cases z;let⟨i,k,F,_⟩:=I.list f;have t:=fq k;have d:AllInts i.toArray:=t.allInts;let⟨x,ex⟩:=d.items;have V:s.heap.IsList a (intItems x):=by rw[<-ex];exact F.isList
 refine sum_intListG (I.ok.hd O) V λZ K t' T=>?_;have W:preSum (numAt x) x.size=ns.sum:=by
  have M:(numsOf i).sum=ns.sum:=by rw[t.numsOf]
  rw[<-M];have J:=congrArg agU ex;have S:i=(intItems x).toList:=by simpa using J
  rw[S,nums_intItems,preSum_eq,afR (by simp)]
 rw[W];exact⟨.int ns.sum,H,I.kept (t':=K) T,⟨_,rfl⟩,n _ _ H o R (gq _) (Frm.refl _ _)⟩
def tyN:aD->String
 | .none=> "NoneType"
 | .bool _=> "bool"
 | .int _=> "int"
 | .str _=> "str"
 | .list _=> "list"
 | .tuple _=> "tuple"
 | .dict _=> "dict"
def tyR:R->String
 | .imm d=>tyN d
 |_=> "list"
def ndR:R->Bool
 | .imm (.dict _)=>false
 | .at _ _=>false
 | .newT _=>false
 |_=>true
def IsT(T:String)(f:String->Bool):Prop:=∀(K:aad) (n:String),n∈["NoneType","bool","int","str","list","tuple"]->PySem.W.kitOne K (.type n) (.type T)=some (f n)
def EF(h:∀n∈["NoneType","bool","int","str","list","tuple"],(if ((acU n)==(acU T))=true then some true else if PySem.W.kitMeta T=true then(fastBuiltinMro n).map (·.contains (.type T))else none)=some (f n)):IsT T f:=λK n d=>by
 have:=h n d;exact this
def fInt(n:String):Bool:=n == "int" ||n == "bool"
def N9:IsT "int" fInt:=EF (by decide +kernel)
def Jh:IsT "bool" (λn=>n == "bool"):=EF (by decide +kernel)
def DT:IsT "tuple" (λn=>n == "tuple"):=EF (by decide +kernel)
def rIsI(K:Kx)(T:String)(f:String->Bool):List V->Hp->VK->Prop:=λx H Q=>∃d m h g r v,Rel K d m h H/\RelR K d g H r v/\ndR r=true/\x=[v,.ty T]/\Q (.bl (f (tyR r))) H
theorem Iq(J:IsT T f):d3 X (.builtin "isinstance") (rIsI X.kx T f):=by
 intro g s L H xs us Q I rv ⟨α,m,σ,H0,r,v,S,h,i,ex,q⟩;subst ex;let⟨u,c,rfl,G,W⟩:=rv.two
 cases (show c=acU T from W)
 have done:∀N,EP X g L Q (.bool (f (tyR r))) {s with toks:=N}:=λN=>⟨.bl _,H,I.tok N,rfl,q⟩;have lst:∀{a:Addr}{K:List V},v = .ref a->SqL X.kx H a K->tyR r = "list" -> wpAny (model X.prog X.w) X.A (call (.builtin "isinstance") [u,.type T]) (EP X g L Q) X.xe s:=λ{a K} Y M et=>by
  subst Y
  cases (show u=abk a from G)
  let⟨P,_,⟨o,n,F,O,_⟩,_⟩:=I.list M;exact ac5 PySem.W.kitx_list I.kIn ⟨o,F,O⟩ (by rw[et];exact J X.K "list" (by decide)) (λz=>nomatch z) done
 cases r with
 |obj k=>
  have Z:=h;let⟨a,U,rfl⟩:=Z;have hk:k<m.os.length:=by rw[<-S.len];exact(AD.mp U).1
  let⟨K,F,_⟩:=S.own k _ _ U (mT hk);exact lst rfl (SqL.of F) rfl
 |new ds=>let⟨a,K,rfl,_,F,_⟩:=h;exact lst rfl (SqL.of F) rfl
 | «at» _ _=>cases i
 |newT _=>cases i
 | imm d=>
  cases d with
  |none=>have e:=ie (show Den X.kx H .none v from h);subst e;cases (show u=afG from G);exact ac5 PySem.W.kitx_none I.kIn acu (J X.K "NoneType" (by decide)) (λz=>nomatch z) done
  |bool x=>have e:=nH (show Den X.kx H (.bool x) v from h);subst e;cases (show u=aht x from G);exact ac5 PySem.W.kitx_bool I.kIn acu (J X.K "bool" (by decide)) (λz=>nomatch z) done
  |int x=>have e:=aF (show Den X.kx H (.int x) v from h);subst e;let⟨t,q⟩:=(show ∃t,u=agq x t from G);cases q;exact ac5 PySem.W.kitx_int I.kIn acu (J X.K "int" (by decide)) (λz=>nomatch z) done
  |str x=>have e:=bm (show Den X.kx H (.str x) v from h);subst e;let⟨t,q⟩:=(show ∃t,u=ahA x t from G);cases q;exact ac5 PySem.W.kitx_str I.kIn acu (J X.K "str" (by decide)) (λz=>nomatch z) done
  |list ds=>
   have R:Den X.kx H (.list ds) v:=h;simp only[Den]at R;let⟨a,K,e,M,_⟩:=R;exact lst e M.sq rfl
  |tuple ds=>
   let⟨a,K,rfl,M,_⟩:=bO (show Den X.kx H (.tuple ds) v from h)
   cases (show u=abk a from G)
   let⟨P,_,⟨o,F,O,_⟩,_⟩:=I.tuple M;exact ac5 PySem.W.kitx_tuple I.kIn ⟨o,F,O⟩ (J X.K "tuple" (by decide)) (λz=>nomatch z) done
  |dict l=>cases i
abbrev wIsT(f:String->Bool)(w:WE):WE:=λm K=>w m λr d=>ndR r=true/\K (.imm (.bool (f (tyR r)))) d
theorem U6(M:ME X e w)(z:IsT T f)(i:X.mg "isinstance" = none)(L:X.mg x=none)(u:aaO x=some (.type T))(o:Gl X "isinstance":=by rfl)(I:Gl X x:=by rfl)(G:x ≠ "__name__":=by decide)(hd:(x==("__debug__" : Str))=false:=by decide)
  (h:aac [e,.Name x j] X.env=(false,eval e X.env)::aac [.Name x j] X.env:=by rfl) (q:aac [.Name x j] X.env=(false,eval (.Name x j) X.env)::aac [] X.env:=by rfl) (d:(abn pos (aac [.Name x j] X.env)).any (·.1)=false:=by rfl) :
  ME X (.Call (.Name "isinstance" p) [e,.Name x j] [] pos) (wIsT f w):=(w5 (Iq z) o i qz (vP M (vP (QO I L u (v:=.ty T) rfl G hd) KI q) h) (by decide) rfl h d).wk<|by intro K H Q ⟨t,m,P,J,O,g⟩;exact
 ⟨t,m,_,J,O,λr s v N k n R rr F=>⟨t,s,K,H,r,v,R,rr,k.1,rfl,g _ s _ N k.2 n R (mD _) F⟩⟩
def x_nd{P:Prop}(e:ndR r=true)(h:P):ndR r=true/\P:=⟨e,h⟩
end
theorem bV{D:iy}(P:Nat->MSt->Prop)(p0:P 0 m1)
  (step:∀(i:Nat) (d:aD) (m:MSt),ds[i]?=some d->m.np=m1.np->P i m->g d m λm2=>w {nx:=P (i+1),ct:=P (i+1),bk:=λf=>D.nx (f.setN m1.np),rt:=λr f=>D.rt r (f.setN m1.np)} m2)
  (h:∀m,m.np=m1.np->P ds.length m->D.nx m):qj ⟨ds,none⟩ g w D m1:=by
 refine⟨P,p0,λi d m e n p=>⟨trivial,step i d m e n p⟩,λm n p=>⟨trivial,?_⟩⟩;have e:m.setN m1.np=m:=by
  let⟨a,b,c⟩:=m;have j:c=m1.np:=n;subst j;rfl
 rw[e];exact h m n p
theorem gC{k:Nat}{a:List aD}{D:iy}(P:Nat->MSt->Prop)(p0:P 0 (m1.setN (max m1.np (k+1))))
  (ok:∀i m,P i m->m.os[k]?=some a)
  (step:∀(i:Nat) (d:aD) (m:MSt),ds[i]?=some d->m.np=max m1.np (k+1)->P i m->g d m λm2=>w {nx:=P (i+1),ct:=P (i+1),bk:=λb=>D.nx (b.setN m1.np),rt:=λr b=>D.rt r (b.setN m1.np)} m2)
  (f:∀m,m.np=max m1.np (k+1)->P ds.length m->D.nx (m.setN m1.np)):qj ⟨ds,some (k,a)⟩ g w D m1:=
 ⟨P,p0,λi d m e n p=>⟨ok i m p,step i d m e n p⟩,λm n p=>⟨ok _ m p,f m n p⟩⟩
theorem lj{t:WT}{D:iy}{b:MSt}(P:Nat->MSt->Prop)(d:Nat)(p0:P d b)
  (step:∀n m,m.np=b.np->P n m->t m λc e=>if c=true then w {D with nx:=λm2=>∃a,a<n/\P a m2,ct:=λm2=>∃a,a<n/\P a m2,bk:=D.nx} e else D.nx e):Bm t w D b:=⟨P,⟨d,p0⟩,step⟩
def JH(h:ds.length≤n):cutD ds none (some (n:Int))=ds:=by
 unfold cutD;rw[HT.sIx_none,HT.sIx_nat,Nat.min_eq_right h,Nat.sub_zero,List.drop_zero,aat]
def O4{k:Nat}(h:k<n):ixN n (k:Int)=some k:=by
 unfold ixN;rw[if_pos (by omega),if_pos (by omega)];simp
theorem ig{k:Nat}{m:MSt}(a:m.vs[n]?=some (some (.obj k)))(c:m.np≤k)(b:∀j:Nat,j≠n->m.vs[j]?≠some (some (.obj k)))(h:P {m with os:=m.os.set k ds}):sf n P m (.new ds):=.inr ⟨k,a,c,b,h⟩
theorem bJ{a:Type}{xs:List a}{k:Nat}{d x:a}(h:xs[k]?=some x):xs.getD k d=x:=by simp_all
def x_JT{w:WT}{m:MSt}{K:Bool->MSt->Prop}(b:Bool->MSt->Prop)(h:∀c:Bool->MSt->Prop,(∀r a,b r a->c r a)->w m c)(J:∀r a,b r a->K r a):w m K:=h K J
theorem x_JS{m:MSt}{D:iy}(b:MSt->Prop)(h:∀N:MSt->Prop,(∀a,b a->N a)->w {D with nx:=N} m)(J:∀a,b a->D.nx a):w D m:=h D.nx J
structure Fine(n k:Nat)(d:aD):Prop where
 sh:d.showable=true
 nd:d.hasDict=false
 ln:d.shown.length≤n
 dp:d.depth≤k
def Fine.mono{k a k':Nat}{d:aD}(h:Fine n k d)(c:n≤a)(b:k≤k'):Fine a k' d:=⟨h.sh,h.nd,aax h.ln c,aax h.dp b⟩
theorem o8{k:Nat}(h:n<2^k)(b:0<k):n.log2<k:=by
 by_cases a:n=0
 .simp_all
 .rw[agn a];exact h
def Ii{i:Int}(h:i.natAbs<10^12):Fine 13 0 (.int i):=by
 refine⟨?_,rfl,aD.shown_int_le h,Mt _⟩;have:i.natAbs.log2<40:=o8 (aas h (by decide)) (by decide);apply decide_eq_true;omega
theorem qV{n k:Nat}:∀{ds:List aD},(∀d∈ds,Fine n k d)->agM ds=true/\acb ds=false/\((acB ds).map (·.length)).sum≤ds.length*n/\(acB ds).length=ds.length/\aaC ds≤k
 |[],_=>⟨rfl,rfl,by simp[acB],rfl,by simp[aaC]⟩
 |d::ds,h=>by
  let⟨g,f,j,e,i⟩:=qV λb c=>h b (aab _ c);have a:=h d aaa;refine⟨?_,?_,?_,?_,?_⟩
  .show(d.showable&&agM ds)=true;rw[a.sh,g];rfl
  .show(d.hasDict||acb ds)=false;rw[a.nd,f];rfl
  .show(d.shown.length::(acB ds).map _).sum≤_;rw[abC,aaq,aeK];have:=a.ln;omega
  .show(acB ds).length+1=_;rw[e];rfl
  .show max d.depth _≤k;have:=a.dp;omega
theorem jM{k c:Nat}(h:∀d∈ds,Fine n k d)(a:ds.length≤c):Fine (c*(n+2)+3) (k+1) (.tuple ds):=by
 let⟨f,b,i,j,g⟩:=qV h;refine⟨f,b,?_,?_⟩
 .show(tupleText _).length≤_;have:=tupleText_len_le (acB ds);have e:ds.length*(n+2)≤c*_:=acG _ a
  grind
 .show aaC ds+1≤_;omega
theorem zT{k c:Nat}(h:∀d∈ds,Fine n k d)(a:ds.length≤c):Fine (c*(n+2)+3) (k+1) (.list ds):=by
 let⟨f,b,i,j,g⟩:=qV h;refine⟨f,b,?_,?_⟩
 .show(listText _).length≤_;have:=listText_len_le (acB ds);have e:ds.length*(n+2)≤c*_:=acG _ a
  grind
 .show aaC ds+1≤_;omega
structure Shp(k:Nat)(d:aD):Prop where
 cl:d.canLay0=true
 dp:d.depth≤k
def Shp.mono{k k':Nat}{d:aD}(h:Shp k d)(a:k≤k'):Shp k' d:=⟨h.cl,aax h.dp a⟩
def Shp.ok{k:Nat}{d:aD}(h:Shp k d)(a:k≤64):ab7 d=true:=by
 unfold ab7;rw[h.cl,decide_eq_true (aax h.dp a)];rfl
def dW(i:Int):Shp 0 (.int i):=⟨rfl,Mt _⟩
theorem kZ{k:Nat}:∀{ds:List aD},(∀d∈ds,Shp k d)->aby ds=true/\aaC ds≤k
 |[],_=>⟨rfl,by simp[aaC]⟩
 |d::ds,h=>by
  let⟨e,f⟩:=kZ λb c=>h b (aab _ c);have a:=h d aaa;refine⟨?_,?_⟩
  .simp only[aby];rw[a.cl,e];rfl
  .show max d.depth _≤k;have:=a.dp;omega
theorem bF{k:Nat}(h:∀d∈ds,Shp k d):Shp (k+1) (.tuple ds):=by
 let⟨a,b⟩:=kZ h;exact⟨by simp[aeW];exact a,by show aaC ds+1≤_;omega⟩
theorem yf{k:Nat}(h:∀d∈ds,Shp k d):Shp (k+1) (.list ds):=by
 let⟨a,b⟩:=kZ h;exact⟨by simp only[aeW];exact a,by show aaC ds+1≤_;omega⟩
def gJ{m:MSt}{d:aD}{K:R->Prop}{k:Nat}(h:Fine n k d)(e:asD m r=some d)(c:n≤16777216)(a:k≤100)(b:K (.imm (.str d.shown))):PC [r] m K:=VI e h.sh h.nd (by rw[aag];exact aax h.ln c) (aax h.dp a) b
theorem zc(b:Only H)(h:SqL K H a (ns.map V.int)):Den K H (.list (ns.map .int)) (.ref a):=by
 refine⟨a,_,rfl,?_,DenAll.ints _⟩;rcases h with(h|⟨o,h⟩)|h
 .rcases b a with z|_
  .grind
  .grind
 .exact .inl ⟨o,h⟩
 .exact .inr h
theorem S9{P:aaI}{w:World}{K:aad}{base:aaQ}{k:Nat}{f:Addr}(F:Fun K x x st f fd)(S:ah N ps (ab st))(i:ps.length=n)(g:N.length=nN)(e:n≤nN)
  (a:∀(c:Ad) (A:abc) (outer:List Env) (s:Io) (H:Hp) (E:XK) (f:Addr),Room k (A.deeper (ad3 x (ab st) s.heap.objs.size f c)) ->
   ∃b,MSs (cxOf CX0 P w K mg base N x (ab st) f c A outer s H E).nox (bI st) b/\∀as d,as.length=n->sp as d->b {nx:=λm=>d (.imm .none) (m.os.take m.np),rt:=λr m=>retK d m r} (d9 nN as)) :
  FnOk P w K mg base CX0 (k+1) f fd ps (spOf ⟨K,w⟩ n sp):=by
 refine F.ok S (λvs H Q E h=>by rw[i];exact h.len) (λc A outer s H vs Q E l h=>?_);let⟨b,o,j⟩:=a c A outer s H E f l;exact⟨_,o,fn_m rfl h g e j⟩
structure DefK(K:aad)(x:Str)(st:Stmt):Prop where
 ex:∃(f:Addr) (fd:abU),aaF K aay x=some (some (.ref f))/\Fun K x x st f fd
def DefK.of{K:aad}{f:Addr}{o kV d pm b ct:Ad}{an:Option Addr}{sl:Array (Option Ad)}(a:aaF K aay x=some (some (.ref f)))
  (l:K.lookup f=some ⟨o,od,.func (abe x x (cw st) (bI st) (ab st) .none kV d pm an b ct),sl⟩) (c:adh K b x=true) (k:abJ K (.ref f)=true):DefK K x st:=⟨f,_,a,ua l c k⟩
theorem DefK.m{K:aad}{h:aaQ}(D:DefK K x st)(X:K.In h)(G:h.Ns aay mg)(b:∀(f:Addr) (fd:abU),Fun K x x st f fd->Binds K fd ps []):DefM K mg x st ps:=by
 let⟨f,fd,a,F⟩:=D.ex;exact⟨f,fd,F,afm X G a,b f fd F⟩
structure EE(X:Cx)(e:Expr)(w:WE):Prop where
 h:ME X e w
structure ET(X:Cx)(e:Expr)(w:WT):Prop where
 h:MT X e w
structure EW(X:Cx)(e:Expr)(w:WT):Prop where
 h:MW X e w
structure EA(X:Cx)(es:List Expr)(w:WA):Prop where
 h:MA X es w
structure ES(X:Cx)(st:Stmt)(w:WS):Prop where
 h:MS X st w
structure ESs(X:Cx)(st:List Stmt)(w:WS):Prop where
 h:MSs X st w
structure EI(X:Cx)(tg e:Expr)(w:WI):Prop where
 h:MI X tg e w
structure EG(X:Cx)(t:Expr)(w:WG):Prop where
 h:MG X t w
structure EGs(X:Cx)(ts:List Expr)(w:WGs):Prop where
 h:MGs X ts w
structure EO(X:Cx)(e:Option Expr)(w:WO1):Prop where
 h:MO X e w
structure ETs(X:Cx)(ifs:List Expr)(w:WT):Prop where
 h:PTs X ifs (tMT X.kx w)
def EW.pt{w:WT}(h:EW X e w):ET X e w:=⟨h.h.pt⟩
section
variable {X:Cx}{a b c:Expr}{e:List Expr}{w d f:WE}{pos:Pos}
def mh'{i j pos}:EE X (.Constant (.int i) j pos) (wC (.int i)):=⟨Tz⟩
def d4{i j pos}:EE X (.Constant (.bool i) j pos) (wC (.bool i)):=⟨X6⟩
def au{i j pos}:EE X (.Constant (.str i) j pos) (wC (.str i)):=⟨TQ⟩
def cQ{j pos}:EE X (.Constant .none j pos) (wC .none):=⟨WF⟩
theorem mv'(i:Nat){pos:Pos}(j:X.N[i]?=some x:=by rfl)(g:Vis X.env.scope x:=by first|exact afl rfl|exact adQ (afl rfl)|exact adQ (adQ rfl))(hd:(x==("__debug__" : Str))=false:=by decide)(h:(x==("__classdict__" : Str))=false:=by decide):EE X (.Name x pos) (wVar i):=⟨mv i j g hd h⟩
def af{op:aeQ}(i:OpR X (ab8 op) (rM X.kx o))(h:EE X a w)(g:EE X b d):EE X (.BinOp a op b pos) (wBin o w d):=⟨UO i h.h g.h⟩
def jB(j:OpR X (aaS op) (rM X.kx o))(h:EE X a w)(g:EE X b d)(i:acK op b=false):EE X (.Compare a [op] [b] pos) (wBin o w d):=⟨Uw j h.h g.h i⟩
def ak(j:OpR X (aaS op) (rM X.kx o))(h:EE X a w)(g:EE X b d)(i:acK op b=false):ET X (.Compare a [op] [b] pos) (AG (wBin o w d)):=⟨Vh j h.h g.h i⟩
def ck(h:EE X a w)(i:∀g,isTrue a X.env g=(do let v <- g;acE a.pos;adl [v] (truthy v)):=by intro _;rfl):ET X a (AG w):=⟨T9 h.h i⟩
end
section
variable {X:Cx}{a b c:Expr}{f:List Expr}{w d e:WE}{pos:Pos}
theorem E8{g:CmpOp}(m:OpR X (aaS op) (rM X.kx o))(h:OpR X (aaS g) (rM X.kx o'))(i:EE X a w)(j:EE X b d)(k:EE X c e)(l:lastMarks [op,g] [b,c]=false:=by with_unfolding_all rfl):EE X (.Compare a [op,g] [b,c] pos) (CA o o' w d e):=⟨F8 m h i.h j.h k.h l⟩
end
section
variable {X:Cx}{a b c:Expr}{f:List Expr}{w d g:WE}{pos:Pos}
variable {wt e:WT}{rest:List Expr}
def jj(h:ET X a wt):EW X (.BoolOp .And [a] pos) wt:=⟨Qt h.h⟩
def gg(h:ET X a wt):EW X (.BoolOp .Or [a] pos) wt:=⟨SW h.h⟩
def nq(h:ET X a wt)(i:EW X (.BoolOp .And (b::rest) pos) e):EW X (.BoolOp .And (a::b::rest) pos) (wAnd wt e):=⟨Uf h.h i.h⟩
def fv(h:ET X a wt)(i:EW X (.BoolOp .Or (b::rest) pos) e):EW X (.BoolOp .Or (a::b::rest) pos) (wOr wt e):=⟨Yj h.h i.h⟩
def fQ(h:ET X a wt):ET X (.UnaryOp .Not a pos) (wNot wt):=⟨UY h.h⟩
def v5{op}(h:EE X a w):EE X (.BoolOp op [a] pos) w:=⟨Uj h.h⟩
def vZ(h:EE X a w)(i:EE X (.BoolOp .And (b::rest) pos) d):EE X (.BoolOp .And (a::b::rest) pos) (Sv w d):=⟨SD h.h i.h⟩
def QK(h:EE X a w):EE X (.UnaryOp .Not a pos) (TZ w):=⟨VE h.h⟩
def KM(i:ET X t wt)(h:EE X a w)(j:EE X b d):EE X (.IfExp t a b pos) (wIfE wt w d):=⟨Yo i.h h.h j.h⟩
def sv{op:UnaryOp}{o:WU}(i:UnR X (unaryOp op) (uM X.kx o))(h:EE X a w):EE X (.UnaryOp op a pos) (wUn o w):=⟨Yy i h.h⟩
def c6(h:EE X a w):EE X a (wImm w):=⟨Vi h.h⟩
end
section
variable {X:Cx}{a b c:Expr}{e:List Expr}{d f g:WE}{pos:Pos}
variable {wt i:WT}{rest:List Expr}
variable {w:WA}
def mn'  : EA X [] wNil:=⟨U8⟩
def mc'(h:EE X a d)(j:EA X e w)(k:aac (a::e) X.env=(false,eval a X.env)::aac e X.env:=by first|exact aI rfl|rfl):EA X (a::e) (UL d w):=⟨PF h.h j.h k⟩
def aE{x1}(h:EA X e w):EE X (.Tuple e x1 pos) (wTup w):=⟨UV h.h⟩
def b5(h:EA X e w):EE X (.List e pos) (wLst w):=⟨V5 h.h⟩
theorem ay{id:String}{o:WC}(n:d3 X (.builtin id) (cM X.kx o))(m:Gl X x)(l:X.mg x=none)(k:aaO x=some (.builtin id))(q:EA X (a::e) w)(s:x ≠ "__name__":=by decide)(j:(x==("__debug__" : Str))=false:=by decide)(r:aac (a::e) X.env=(false,eval a X.env)::aac e X.env:=by first|exact aI rfl|rfl)(h:(abn pos (aac e X.env)).any (·.1)=false:=by rfl):EE X (.Call (.Name x p) (a::e) [] pos) (wCB o w):=⟨Gf n m l k q.h s j r h⟩
theorem bf{o:WC}(n:d3 X (.type T) (cM X.kx o))(m:Gl X x)(l:X.mg x=none)(k:aaO x=some (.type T))(q:EA X (a::e) w)(s:x ≠ "__name__":=by decide)(j:(x==("__debug__" : Str))=false:=by decide)(r:aac (a::e) X.env=(false,eval a X.env)::aac e X.env:=by first|exact aI rfl|rfl)(h:(abn pos (aac e X.env)).any (·.1)=false:=by rfl):EE X (.Call (.Name x p) (a::e) [] pos) (wCB o w):=⟨zy n m l k q.h s j r h⟩
end
section
variable {X:Cx}{a b c e:Expr}{d:List Expr}{f g h i:WE}{pos:Pos}{s:Stmt}{rest:List Stmt}{w u:WS}
def am  : ESs X [] T8:=⟨OG⟩
def mz'(j:ES X s w)(k:ESs X rest u):ESs X (s::rest) (wSeq w u):=⟨Iy j.h k.h⟩
def aa(j:ES X s w):ESs X [s] w:=⟨Qw j.h⟩
end
section
variable {X:Cx}{a b c e:Expr}{f:List Expr}{p q r l:WE}{o:WA}{wt:WT}{pos:Pos}{s:Stmt}{rest m d:List Stmt}{w u:WS}
def ae(h:EE X e l):ES X (.Return (some e) pos) (wRet l):=⟨VH h.h⟩
def cz(h:EE X e l)(g:abz e none pos.line X.env=pure false:=by rfl):ES X (.Expr e pos) (VX l):=⟨Nh h.h g⟩
def a9(h:ET X t wt)(g:ESs X m w)(i:ESs X d u):ES X (.If t m d pos) (wIfS wt w u):=⟨Yi h.h g.h i.h⟩
def k9  : ES X s JZ:=⟨IJ⟩
theorem rg{g:Pos}(k:X.N.Nodup)(n:X.N[i]?=some x)(j:Loc X.env.scope x)(h:EE X e l)(v:abz e (some (.Name x g)) pos.line X.env=pure false:=by rfl)(t:X.fn x=true\/X.env.scope.names.lookup x=some .local:=by first|exact .inl rfl|exact .inr rfl|assumption):ES X (.Assign [.Name x g] e pos) (wSet i l):=⟨Ur k n j h.h v t⟩
theorem qW(g:X.N.Nodup)(j:X.N[i]?=some x)(h:Loc X.env.scope x)(k:X.fn x=true\/X.env.scope.names.lookup x=some .local:=by first|exact .inl rfl|exact .inr rfl|assumption):EG X (.Name x pos) (gM i):=⟨NU g j h k⟩
def aU  : EGs X [] Ot:=⟨O6⟩
def ac{e:Expr}{f:List Expr}(h:EG X e g)(i:EGs X f gs)(j:(aa4 (e::f) X.env).map (·.2)=afj e X.env::(aa4 f X.env).map (·.2):=by rfl):EGs X (e::f) (zR g gs):=⟨Jn h.h i.h j⟩
theorem bh{f:List Expr}{k:Nat}(h:EGs X f gs)(i:X.calm=true:=by rfl)(j:(aa4 f X.env).length=n:=by rfl)(g:(aa4 f X.env).findIdx? (·.1)=none:=by rfl):EG X (.Tuple f k pos) (Mh n gs):=⟨UX h.h i j g⟩
theorem cP(h:EE X e l)(i:EG X tg g)(n:ady [tg] e pos.line X.env=pure false:=by rfl)(k:adz [tg] e X.env=pure none:=by rfl)(j:(aa4 [tg] X.env).map (·.2)=[afj tg X.env]:=by rfl):ES X (.Assign [tg] e pos) (wAsg l g):=⟨VP h.h i.h n k j⟩
theorem u7{g k pt:Pos}{kt k2 pt2}(A:X.N.Nodup)(C:X.N[i]?=some x)(v:X.N[j]?=some y)(h:i≠j)(t:X.env.scope.names.lookup x=some .local)(n:X.env.scope.names.lookup y=some .local)(z:EA X [a,b] o)(D:adz [.Tuple [.Name x g,.Name y k] kt pt] (.Tuple [a,b] k2 pt2) X.env=pure (some [x,y]))(B:X.calm=true:=by rfl)(E:ady [.Tuple [.Name x g,.Name y k] kt pt] (.Tuple [a,b] k2 pt2) pos.line X.env=pure false:=by rfl):ES X (.Assign [.Tuple [.Name x g,.Name y k] kt pt] (.Tuple [a,b] k2 pt2) pos) (wPar i j o):=⟨Tw A C v h t n z.h D B E⟩
end
section
variable {X:Cx}{tg a b c e i:Expr}{k:List Expr}{l m n h:WE}{j:WA}{wt:WT}{pos:Pos}{s:Stmt}{rest d f:List Stmt}{w u:WS}
def bM(g:EE X e h):EI X tg e (UR h):=⟨WZ g.h⟩
theorem cp(o:Gl X "range")(r:X.mg "range" = none)(g:EA X [a] j)(q:aac [a] X.env=[(false,eval a X.env)]:=by first|exact cU rfl|rfl):EI X tg (.Call (.Name "range" p) [a] [] pos) (KG j):=⟨zO o r g.h q⟩
theorem cr{o:WI}(t:EI X tg i o)(v:EG X tg g)(q:ESs X d w)(r:afx (model X.prog X.w) X.A X.env X.xe)(p:X.calm=true:=by rfl)(y:∀x,aaM i X.env x=pure x:=by intro _;rfl):ES X (.For tg i d [] pos) (wFor o g w):=⟨Si t.h v.h q.h r p y⟩
def gI(g:ET X t wt)(o:ESs X d w)(p:afx (model X.prog X.w) X.A X.env X.xe):ES X (.While t d [] pos) (Bm wt w):=⟨JV g.h o.h p⟩
end
section
variable {X:Cx}{scope sc:Scope}{own fr:List Str}{ps:List Nat}{elt tg a f b:Expr}{ifs e:List Expr}{pos d p:Pos}{w k:WI}{g m:WG}{tt l:WT}{j:WE}
theorem bj(S:cj own fr scope sc)(u:EI X tg a w)(o:∀cl s H C ex,EG (aY X scope cl (own++fr) s H C ex) tg g)(n:∀cl s H C ex,ETs (aY X scope cl (own++fr) s H C ex) ifs tt)(r:∀cl s H C ex,EE (aY X scope cl (own++fr) s H C ex) elt j)(c:X.env.scope=sc:=by rfl)(h:ps.map (λi=>X.N[i]?)=fr.map some:=by rfl)(t:X.calm=true:=by rfl)(q:∀x,aaM a X.env x=pure x:=by intro _;rfl):EE X (.ListComp elt [⟨tg,a,ifs,0⟩] scope pos) (p9 w own ps g tt j):=⟨Gu S u.h (λcl s H C ex=>(o cl s H C ex).h) (λcl s H C ex=>(n cl s H C ex).h) (λcl s H C ex=>(r cl s H C ex).h) c h t q⟩
def bp  : ETs X [] Bq:=⟨QB⟩
def yo{t:WT}(h:ET X c t):ETs X [c] t:=⟨QZ h.h⟩
theorem mJ(S:cj own fr scope sc)(r:X.N.Nodup)(v:X.N[i]?=some y)(h:X.env.scope.names.lookup y=some .local)(B:EI X tg a w)(z:∀cl s H C ex,EG (aY X scope cl (own++fr) s H C ex) tg g)(q:∀cl s H C ex,ETs (aY X scope cl (own++fr) s H C ex) ifs tt)(A:∀cl s H C ex,EE (aY X scope cl (own++fr) s H C ex) elt j)(o:abz (.ListComp elt [⟨tg,a,ifs,0⟩] scope pos) (some (.Name y p)) d.line X.env=pure true:=by rfl)(n:X.env.scope=sc:=by rfl)(c:ps.map (λi=>X.N[i]?)=fr.map some:=by rfl)(t:X.calm=true:=by rfl)(u:∀x,aaM a X.env x=pure x:=by intro _;rfl):ES X (.Assign [.Name y p] (.ListComp elt [⟨tg,a,ifs,0⟩] scope pos) d) (wSet i (p9 w own ps g tt j)):=⟨JN S r v h B.h (λcl s H C ex=>(z cl s H C ex).h) (λcl s H C ex=>(q cl s H C ex).h) (λcl s H C ex=>(A cl s H C ex).h) o n c t u⟩
theorem C5(S:cj own fr scope sc)(z:X.N.Nodup)(D:X.N[i]?=some y)(h:X.env.scope.names.lookup y=some .local)(G:EI X tg a w)(E:∀cl s H C ex,EG (aY X scope cl (own++fr) s H C ex) tg g)(v:∀cl s H C ex,ETs (aY X scope cl (own++fr) s H C ex) ifs tt)(r:∀cl s H C ex,EI (aY X scope cl (own++fr) s H C ex) f b k)(q:∀cl s H C ex,EG (aY X scope cl (own++fr) s H C ex) f m)(u:∀cl s H C ex,ETs (aY X scope cl (own++fr) s H C ex) e l)(F:∀cl s H C ex,EE (aY X scope cl (own++fr) s H C ex) elt j)(t:abz (.ListComp elt [⟨tg,a,ifs,0⟩,⟨f,b,e,0⟩] scope pos) (some (.Name y p)) d.line X.env=pure true:=by rfl)(n:X.env.scope=sc:=by rfl)(c:ps.map (λi=>X.N[i]?)=fr.map some:=by rfl)(A:X.calm=true:=by rfl)(B:∀x,aaM a X.env x=pure x:=by intro _;rfl)(o:∀cl C x,aaM b (agm scope cl C X.env) x=pure x:=by intro _ _ _;rfl):ES X (.Assign [.Name y p] (.ListComp elt [⟨tg,a,ifs,0⟩,⟨f,b,e,0⟩] scope pos) d) (wSet i (Ci w own ps g tt k m l j)):=⟨Jp S z D h G.h (λcl s H C ex=>(E cl s H C ex).h) (λcl s H C ex=>(v cl s H C ex).h) (λcl s H C ex=>(r cl s H C ex).h) (λcl s H C ex=>(q cl s H C ex).h) (λcl s H C ex=>(u cl s H C ex).h) (λcl s H C ex=>(F cl s H C ex).h) t n c A B o⟩
end
section
variable {X:Cx}
theorem av{a b:Expr}{c w:WE}(h:EE X a c)(d:EE X b w)(e:k7 b:=by intro _ _;rfl):EE X (.Subscript a b pos) (wBin qP c w):=⟨YJ h.h d.h e⟩
end
section
variable {X:Cx}{o a b c e:Expr}{g:List Expr}{h j k l w m:WE}{i:WA}{pos f d:Pos}
theorem js{name:Str}{id:String}{t:WM}(slot:Slot "list" name id)(s:agK (.builtin id)=pure (.type "method_descriptor"))(u:MtM X id (mM X.kx t))(y:EE X o h)(v:EA X (e::g) i)(q:abv o name X.env (eval o X.env)=eval o X.env:=by rfl)(r:((abn d (aac (e::g) X.env)).all (λx=>!x.1)&&(ac4 d (abY [] X.env)).all (λx=>x.1.isSome)
   && decide ((e::g).length+([]:List adm).length+(if ([]:List adm).isEmpty then 0 else 1)<30))=true:=by rfl) (p:(f.endLine==d.line)=true:=by rfl) (z:aac (e::g) X.env=(false,eval e X.env)::aac g X.env:=by first|exact aI rfl|rfl) (n:(abn d (aac g X.env)).any (·.1)=false:=by rfl):EE X (.Call (.Attribute o name f) (e::g) [] d) (wML t h i):=⟨Yx slot s u y.h v.h q r p z n⟩
def ij  : EO X none C9:=⟨RB⟩
def e8(n:EE X e w):EO X (some e) (Ul w):=⟨Ql n.h⟩
def dM{n wh:WO1}{p:Pos}(q:SlR X (sM X.kx ob))(r:EE X e w)(t:EO X lo n)(s:EO X hi wh):EE X (.Subscript e (.Slice lo hi none p) pos) (wSl ob w n wh):=⟨IG q r.h t.h s.h⟩
end
section
variable {X:Cx}{a:Expr}{e:List Expr}{w:WA}{pos p:Pos}{k n:Nat}{sp:SpM}{x:Str}
theorem mf'(F:FnM X.prog X.w X.K X.mg X.base x k n sp)(f:Room k X.A)(d:EA X (a::e) w)(c:Gl X x:=by rfl)(b:(x==("__debug__" : Str))=false:=by decide)(g:aac (a::e) X.env=(false,eval a X.env)::aac e X.env:=by first|exact aI rfl|rfl)(h:(abn pos (aac e X.env)).any (·.1)=false:=by rfl):EE X (.Call (.Name x p) (a::e) [] pos) (zJ sp w):=⟨Ip F f d.h c b g h⟩
end
section
variable {X:Cx}{tg a b c e:Expr}{g:List Expr}{h i j k w l:WE}{m:WA}{pos p d:Pos}
theorem v9(z:EE X e w)(y:IsT T f)(r:X.mg "isinstance" = none)(u:X.mg x=none)(t:aaO x=some (.type T))(s:Gl X "isinstance":=by rfl)(v:Gl X x:=by rfl)(A:x ≠ "__name__":=by decide)(hd:(x==("__debug__" : Str))=false:=by decide)(q:aac [e,.Name x d] X.env=(false,eval e X.env)::aac [.Name x d] X.env:=by rfl)(o:aac [.Name x d] X.env=(false,eval (.Name x d) X.env)::aac [] X.env:=by rfl)(n:(abn pos (aac [.Name x d] X.env)).any (·.1)=false:=by rfl):EE X (.Call (.Name "isinstance" p) [e,.Name x d] [] pos) (wIsT f w):=⟨U6 z.h y r u t s v A hd q o n⟩
end
theorem aV{P:aaI}{w:World}{K:aad}{base:aaQ}{k:Nat}(D:DefM K mg x st ps)(S:ah N ps (ab st))(g:ps.length=n)(e:N.length=nN)(d:n≤nN)(ar:∀as a,sp as a->as.length=n)
  (h:∀(c:Ad) (A:abc) (outer:List Env) (s:Io) (H:Hp) (E:XK) (f:Addr),Room k (A.deeper (ad3 x (ab st) s.heap.objs.size f c)) ->
   ∃b,ESs (cxOf CX0 P w K mg base N x (ab st) f c A outer s H E).nox (bI st) b/\∀as a,as.length=n->sp as a->b {nx:=λm=>a (.imm .none) (m.os.take m.np),rt:=λr m=>retK a m r} (d9 nN as)) :
  FnM P w K mg base x (k+1) n sp:=Yf D S g e d ar λc A outer s H E f i=>let ⟨b,h1,h2⟩:=h c A outer s H E f i;⟨b,h1.h,h2⟩
theorem L9{P:aaI}{w:World}{K:aad}{base:aaQ}{k:Nat}{f:Addr}(F:Fun K x x st f fd)(S:ah N ps (ab st))(g:ps.length=n)(e:N.length=nN)(d:n≤nN)
  (h:∀(c:Ad) (A:abc) (outer:List Env) (s:Io) (H:Hp) (E:XK) (f:Addr),Room k (A.deeper (ad3 x (ab st) s.heap.objs.size f c)) ->
   ∃a,ESs (cxOf CX0 P w K mg base N x (ab st) f c A outer s H E).nox (bI st) a/\∀as b,as.length=n->sp as b->a {nx:=λm=>b (.imm .none) (m.os.take m.np),rt:=λr m=>retK b m r} (d9 nN as)) :
  FnOk P w K mg base CX0 (k+1) f fd ps (spOf ⟨K,w⟩ n sp):=S9 F S g e d λc A outer s H E f i=>let ⟨a,h1,h2⟩:=h c A outer s H E f i;⟨a,h1.h,h2⟩
end L2
namespace HT
open PySem PySem.Spec PyProof.Rows
section
variable {prog:aaI}{w:World}{A:abc}{E:Ad->Io->Prop}{s:Io}
def cut_whole{t sl:Addr}{items:Array Ad}{vl v:Ad}{lo e:Option Int}{Q:Ad->Io->Prop}(a:IsTup s.heap t items)(i:s.heap.IsSliceOf sl vl v .none)(pl:afM vl lo)(p:afM v e)
  (g:sIx items.size 0 lo=0/\sIx items.size items.size e=items.size) (h:Q (.ref t) s):wpAny (model prog w) A (ael (.ref t) (.ref sl)) Q E s:=by
 let⟨os,f,d,j⟩:=id i;have c:s.TypeIs (.ref sl) "slice":=⟨os,f,d⟩;unfold ael
 try with_reducible refine abR ?_
 refine gT (afd a.typeIs (by decide) (gT (aaT (name:=abO "__getitem__") a.typeIs abl (aa2 abl a.typeIs entry_tuple_getitem ?_ (args_tuple_getitem _ _)))));show wpAny _ _ (adi (.ref t) >>= _) _ _ s;refine gT (agE a (gT (acV c ?_)));rw[if_pos (by decide)];refine gT (gl i pl p ?_);have b:(((sIx items.size 0 lo:Nat):Int)==0&&(1:Int)==1&&(sIx items.size items.size e-sIx items.size 0 lo)==items.size)=true:=by
  rw[g.1,g.2];simp
 show wpAny _ _ (if _=true then _ else _) _ _ s;rw[if_pos b];refine gT ?_;unfold aeX;refine gT (acV a.typeIs (LD ?_));rw[if_pos (by rfl)];exact gT (acs (LD ⟨_,rfl,LD h⟩))
end
end HT
namespace L2
open PySem PySem.Spec PyProof.Rows
variable{hi lo:Option Int}{Kr:R->Prop}{ds es:List aD}{X:Cx}{pins:List (Addr×Obj)}{σ:St}{H:Hp}{h h':aaQ}{t t1 t2:Bool}{a b i1 i2 it l l1 l2 z:Addr}{i n:Nat}{items its xs ys:Array Ad}{α:Type}{Q:Ad->Io->Prop}{f:Ad}{elts:List Expr}
section
variable {X:Cx}
def oCut:R->Option Int->Option Int->MSt->(R->Prop)->Prop:=λr lo hi m K=>(∃ds,lsOf m r=some ds/\K (.new (cutD ds lo hi)))\/∃ds,r = .imm (.tuple ds)/\K (.imm (.tuple (cutD ds lo hi)))
theorem iY:SlR X (sM X.kx oCut):=by
 intro pins s j H x v vl D lo hi C Q I w A q u F;obtain⟨α,m,σ,E,r,K,R,h,k|⟨ds,rfl,k⟩,c⟩:=F
 .exact IA pins s j H x v vl D lo hi C Q I w A q u ⟨α,m,σ,E,r,K,R,h,k,c⟩
 .obtain⟨a,xs,rfl,f,g⟩:=bO (h)
  by_cases o:HT.sIx xs.length 0 lo=0/\HT.sIx xs.length xs.length hi=xs.length
  .cases w;let⟨its,G,B,J⟩:=I.tuple f;have d:its.toArray.size=xs.length:=by rw[aaK];exact G.length.symm
   refine⟨"tuple",_,abl.lookup,B.typeIs,?_⟩;refine HT.cut_whole B A q u (by rw[d];exact o) ⟨.ref a,H,I,rfl,c _ _ H k R (j2 (fc f ?_)) (Frm.refl _ _)⟩;have e:cutD ds lo hi=ds:=by
    unfold cutD;rw[g.length,o.1,o.2,List.drop_zero,Nat.sub_zero,<-g.length,aat]
   rw[e];exact g
  .exact TW pins s j H _ v vl D lo hi C Q I w A q u ⟨a,xs,rfl,f,o,λp y=>c _ _ _ k (R.lay y) (j2 (fc (SqT.of aB) ((AA g lo hi).mono (bu (.inl y))))) (cu y)⟩
def QL{m:MSt}{r:R}(e:lsOf m r=some ds)(h:Kr (.new (cutD ds lo hi))):oCut r lo hi m Kr:=.inl ⟨ds,e,h⟩
def Ub{m:MSt}(h:Kr (.imm (.tuple (cutD ds lo hi)))):oCut (.imm (.tuple ds)) lo hi m Kr:=.inr ⟨ds,rfl,h⟩
def vj(n:Nat):cutD ds none (some (n:Int))=ds.take n:=by
 unfold cutD;rw[HT.sIx_none,HT.sIx_nat];simp
theorem tm(n:Nat):cutD ds (some (n:Int)) none=ds.drop n:=by
 unfold cutD;rw[HT.sIx_none,HT.sIx_nat]
 by_cases h:n≤ds.length
 .rw[aex h];exact afR (by simp)
 .rw[Nat.min_eq_right (by omega),List.drop_length,List.drop_eq_nil_of_le (by omega),List.take_nil]
def oIn(c:Bool):WO:=λr1 r m K=>∃d ds,asD m r1=some d/\(asD m r=some (.list ds)\/asD m r=some (.tuple ds))/\d.canLay0=true/\aby ds=true/\d.depth≤60/\K (.imm (.bool (if c then !ds.any (λy=>aaj y d)else ds.any λy=>aaj y d)))
theorem sy(F:X.A.units+64<cLine):OpR X (aaS .NotIn) (rM X.kx (oIn true)):=by
 intro pins s o H x y v u Q I C r ⟨α,m,σ,K,E,r1,J,L,R,A,w,⟨d,ds,D,e,j,g,dp,B⟩,k⟩;let⟨G,q⟩:=A.reads I R C D (abh _ j);have c:EP X pins o Q _ s:=⟨.bl _,H,I,rfl,k _ _ H B R (mD _) (Frm.refl _ _)⟩;have p:X.A.units+1+min (aaC ds) d.depth<cLine:=by have:=afA (aaC ds) d.depth;omega
 rcases e with e|e
 .obtain⟨bs,q2⟩:=w.reads I R r e (by simp[acx];exact acP _ g);exact SeqAt.notIn_list_reads q2 q g j p c
 .obtain⟨bs,q2⟩:=w.reads I R r e (by simp only[acx];exact acP _ g);exact SeqAt.notIn_tuple_reads q2 q g j p c
def x_in{m:MSt}{r1 r2:R}{c:Bool}{d:aD}{k k':Nat}(g:asD m r1=some d)(j:asD m r2=some (.list ds)\/asD m r2=some (.tuple ds))(s1:Shp k d)(s2:∀y∈ds,Shp k' y)(e:k≤60)(h:Kr (.imm (.bool (if c then !ds.any (λy=>aaj y d)else ds.any λy=>aaj y d)))):oIn c r1 r2 m Kr:=
 ⟨d,ds,g,j,s1.cl,(kZ s2).1,aax s1.dp e,h⟩
abbrev oMax:WC:=λrs _ K=>match rs with|[.imm (.int i),.imm (.int j)]=>K (.imm (.int (if j>i then j else i)))|_=>False
theorem FC(k:X.calm=true):d3 X (.builtin "max") (cM X.kx oMax):=by
 intro pins s d H xs u Q I r ⟨α,m,σ,p,rs,K,R,h,e,c⟩
 match rs,h,e with
 |[.imm (.int i),.imm (.int j)],.cons h1 (.cons h2 .nil),e=>
  have o:=aF (show Den X.kx H (.int i) _ from h1);have g:=aF (show Den X.kx H (.int j) _ from h2);subst o g;exact z6 k pins s d H _ u Q I r ⟨i,j,rfl,c _ _ H e R (gq _) (Frm.refl _ _)⟩
def YL(P:List aD->Prop):R->Prop
 | .new ds=>P ds
 |_=>False
def Bu:WM:=λr rs m K=>JI (λk=>on1 (YL λes=>∃ds,m.os[k]?=some ds/\ds.length+es.length≤aam/\K (.imm .none) {m with os:=m.os.set k (ds++es)}) rs) r
theorem yE:MtM X "list.extend" (mM X.kx Bu):=by
 intro pins s e H x xs v B Q I E J ⟨α,m,σ,M,L,r,rs,N,R,A,j,c,d⟩;let⟨k,a,rfl,o,rfl,c⟩:=KL A c;let⟨C,K,rfl,rfl,j,c⟩:=de j c
 cases C with
 |imm _=>exact c.elim
 |obj _=>exact c.elim
 | «at» _ _=>exact c.elim
 |newT _=>exact c.elim
 |new es=>
  let⟨ds,G,u,c⟩:=c;let⟨b,w,rfl,y,D,p⟩:=j;let⟨ys,q,g⟩:=R.own _ _ ds o G;let⟨R2,F⟩:=R.setO o q (g.append p);exact D8 pins s e H _ _ v B Q I E J ⟨a,b,ys,w,rfl,rfl,q,D,by rw[<-g.length,<-p.length];exact u,d _ _ _ _ c rfl R2 xR F⟩
def Gw{m:MSt}{k:Nat}{K:R->MSt->Prop}(e:m.os[k]?=some ds)(c:ds.length+es.length≤aam)(h:K (.imm .none) {m with os:=m.os.set k (ds++es)}):Bu (.obj k) [.new es] m K:=⟨ds,e,c,h⟩
end
theorem Inv.turneds{s:Io}{t':Nat}{ch:List Addr}(I:Inv X pins σ H s)(k:∀b o,b∉ch->s.heap.get? b=some o->h'.get? b=some o)(j:∀b∈ch,FpOk X pins H b):Inv X pins σ H {s with heap:=h',toks:=t' }:=by
 have g:∀b u,H b=some u->b∉ch:=λb u e z=>by have:=(j b z).1;grind
 have p:=λz=>(j _ z).2.1 rfl;refine I.step (g':=s.gens) (d':=s.drawn) (λb w=>?_) (λb o _ _ d e _=>k b o d e) (λb o _ _ d e _=>⟨o.slots,k b o d e⟩) (λ_ _ _ _ n=>n)
  (λb o d e=>⟨o,k b o d e⟩) (λ_ _ e=>e) (λ_ _ _ e=>e) (λb y e=>⟨#[],by rw[e];simp⟩) (λm x=>?_) (λb u e=>?_) I.bare
 .obtain⟨_,f1,_,f3,f4,f5⟩:=j b w;exact⟨f3,f1,f4,f5⟩
 .obtain⟨o,es,ep,ho,r⟩:=x;exact⟨o,es,ep,k _ o p ho,r⟩
 .refine(I.hok b u e).stay (λc v d q=>k c v ?_ q) (λ_ q=>q) λ_ _ q=>q;rcases d with z|z
  .rw[z];exact g b u e
  .exact g c _ z
def SubI(t:Bool)(h:aaQ)(i l:Addr)(k:Nat):Prop:=if t then h.IsTupleIter i l k else h.IsListIter i l k
def SubS(t:Bool)(h:aaQ)(l:Addr)(its:Array Ad):Prop:=if t then h.IsTuple l its else h.IsList l its
def SubI.ext{i:Addr}{k:Nat}(x:SubI t h i l k)(e:aff b h h')(n:i≠b):SubI t h' i l k:=by
 cases t
 .exact aaQ.IsListIter.extBut (x) e n
 .exact aaQ.IsTupleIter.extBut (x) e n
def SubI.obj{i:Addr}{k:Nat}(x:SubI t h i l k):∃o vs,h.get? i=some o/\o.data = .fields vs:=by
 cases t
 .obtain⟨o,e,_,d⟩:=(x);exact⟨o,_,e,d⟩
 .obtain⟨o,e,_,d⟩:=(x);exact⟨o,_,e,d⟩
def SubI.keep{i:Addr}{k:Nat}(x:SubI t h i l k)(e:∀o,h.get? i=some o->h'.get? i=some o):SubI t h' i l k:=by
 cases t
 .obtain⟨o,q,r⟩:=(x);exact⟨o,e o q,r⟩
 .obtain⟨o,q,r⟩:=(x);exact⟨o,e o q,r⟩
def SubS.keep(x:SubS t h l its)(e:∀o,h.get? l=some o->h'.get? l=some o):SubS t h' l its:=by
 cases t
 .obtain⟨o,q,r⟩:=(x);exact⟨o,e o q,r⟩
 .obtain⟨o,q,r⟩:=(x);exact⟨o,e o q,r⟩
def SubS.ext(x:SubS t h l its)(e:aff b h h')(n:l≠b):SubS t h' l its:=x.keep λo q=>e l o n q
section
variable {prog:aaI}{w:World}{A:abc}{E:Ad->Io->Prop}{s:Io}
theorem rb{Q:α->Io->Prop}(c:A.handled=none)(h:∀h' e,(∀b o,s.heap.get? b=some o->h'.get? b=some o)->(∃o,h'.get? e=some o/\o.cls = .type "StopIteration")->E (.ref e) {s with heap:=h' }) :
  wpAny (model prog w) A (do raiseNew (<- newExc (.type "StopIteration") []):Sem α) Q E s:=by
 refine gT ?_;refine gT ?_;refine aa9 ?_ (by size_fits);refine gT (wpAny_of_eq (a:=afG) (by rfl) (aa9 ?_ (by size_fits)));refine gT (m:=handled) (wpAny_handled ?_);rw[c];refine gT (LD (wpAny_throw (h _ _ (λb o q=>GT _ (GT _ q)) ⟨_,aak _ rfl,rfl⟩)))
def YE(c:s.heap.IsTupleIter it l i)(h:Q (.ref l) s):wpAny (model prog w) A (field (.ref it) 0) Q E s:=let ⟨_,ho,_,hd⟩:=c;aa7 ho hd (x:=.ref l) rfl h
def YY(c:s.heap.IsTupleIter it l i)(h:Q (.int i 0) s):wpAny (model prog w) A (field (.ref it) 1) Q E s:=let ⟨_,ho,_,hd⟩:=c;aa7 ho hd (x:=.int i 0) rfl h
def Xo{Q:Option (Array Ad)->Io->Prop}(c:s.heap.IsTuple l items)(h:Q (some items) s):wpAny (model prog w) A (seqItems? (.ref l)) Q E s:=let ⟨_,ho,_,_,hd⟩:=c;acz ho hd h
theorem yt{Q:Option Ad->Io->Prop}(c:s.heap.IsTupleIter it l i)(u:s.heap.IsTuple l items)
  (v:∀x,items[i]?=some x->∀h',h'.IsTupleIter it l (i+1)->abd it s.heap h'->Q (some x) {s with heap:=h' })
  (d:items[i]?=none->A.handled=none/\∀h' e,aff it s.heap h'->(∃o,h'.get? e=some o/\o.cls = .type "StopIteration")->E (.ref e) {s with heap:=h' }) :
  wpAny (model prog w) A (callSpecial? (.ref it) "__next__" []) Q E s:=by
 refine aaT (name:=abO "__next__") c.typeIs aeY (aa2 aeY c.typeIs F.entry_tuple_iterator_next ?_ (F.args_tuple_iterator_next_1 _))
 wp_walk using YE c,YY c,Xo u
 rcases id c with⟨o,g,r,hd⟩;rw[abf]
 cases q:items[i]? with
 | some x=>
  have new:(s.heap.update it (Obj.mapFields (·.setIfInBounds 1 (adk ((i:Int)+1))))).IsTupleIter it l (i+1):=by
   refine⟨_,ac9 _ g (Obj.isFreed_of_fields (agN hd _)),?_,?_⟩
   .exact(Obj.cls_mapFields ..).trans r
   .rw[agN hd];simp[adk]
  exact gT (m:=acQ (.ref it) 1 _) (wpAny_setField g hd (by simp) (LD ⟨x,rfl,v x q _ new (agw ..)⟩))
 |none=>
  let⟨p,d⟩:=d q;refine gT (m:=rule _) (acs (gT (m:=acQ (.ref it) 0 _) (wpAny_setField g hd (by simp) ?_)));exact rb (A:=A.in1) p λh' e k x=>d h' e (λb j nb z=>k b j ((agw ..).extBut b j nb z)) x
theorem kM{x:Ad}(c:SubI t s.heap it l i)(j:SubS t s.heap l items)(d:items[i]?=some x)
  (g:∀h',SubI t h' it l (i+1)->abd it s.heap h'->Q x {s with heap:=h' }):wpAny (model prog w) A (abG (.ref it)) Q E s:=by
 cases t with
 |false=>exact wpAny_nextOf_list_item (c) (j) d g
 |true=>exact gT (yt (c) (j) (λy e h' a b=>by rw[d]at e;cases e;exact LD (g h' a b)) λno=>by rw[d]at no;cases no)
theorem ve(g:A.handled=none)(c:SubI t s.heap it l i)(m:SubS t s.heap l items)(j:items[i]?=none)
  (d:∀h' e,aff it s.heap h'->(∃o,h'.get? e=some o/\o.cls = .type "StopIteration")->E (.ref e) {s with heap:=h' }):wpAny (model prog w) A (abG (.ref it)) Q E s:=by
 cases t with
 |false=>exact wpAny_nextOf_list_end g (c) (m) j d
 |true=>exact gT (yt (c) (m) (λy k=>by rw[j]at k;cases k) λ_=>⟨g,d⟩)
structure Apart(z TI TO i1 i2 l1 l2:Addr):Prop where
 d:[z,TI,TO,i1,i2].Nodup
 m1:l1∉[z,TI,TO,i1,i2]
 m2:l2∉[z,TI,TO,i1,i2]
def Apart.old{TI TO:Addr}(D:Apart z TI TO i1 i2 l1 l2):ZipApart z TI TO i1 i2 l1 l2:=by
 let⟨d,m1,m2⟩:=D;simp at d m1 m2;let⟨⟨a1,a2,j,c⟩,⟨b1,b2,g⟩,⟨k,e⟩,d1⟩:=d;exact⟨abx a1,abx a2,abx j,abx c,b1,b2,g,k,e,d1,m1.1,m1.2.2.1,m1.2.2.2.1,m1.2.2.2.2,m2.1,m2.2.2.1,m2.2.2.2.1,m2.2.2.2.2⟩
structure Iz(t1 t2:Bool)(z TI TO i1 i2 l1 l2:Addr)(k:Nat)(h:aaQ):Prop where
 z:IsZip h z TI TO .none
 ti:aez h TI (.ref i1) (.ref i2)
 to:∃a b,aez h TO a b
 s1:SubI t1 h i1 l1 k
 s2:SubI t2 h i2 l2 k
def zf0{TI TO:Addr}(c:IsZip s.heap z TI TO f)(h:Q f s):wpAny (model prog w) A (field (.ref z) 0) Q E s:=aa7 c rfl (x:=f) rfl h
def zf2{TI TO:Addr}(c:IsZip s.heap z TI TO f)(h:Q (.bool false) s):wpAny (model prog w) A (field (.ref z) 2) Q E s:=aa7 c rfl (x:=.bool false) rfl h
def zf3{TI TO:Addr}(c:IsZip s.heap z TI TO f)(h:Q (.ref TI) s):wpAny (model prog w) A (field (.ref z) 3) Q E s:=aa7 c rfl (x:=.ref TI) rfl h
theorem GU{TI TO:Addr}{k:Nat}{x y:Ad}{Q:Option Ad->Io->Prop}(D0:Apart z TI TO i1 i2 l1 l2)(Z:Iz t1 t2 z TI TO i1 i2 l1 l2 k s.heap)
  (Y:SubS t1 s.heap l1 xs) (S:SubS t2 s.heap l2 ys) (hx:xs[k]?=some x) (hy:ys[k]?=some y)
  (hQ:∀h',IsZip h' z TI TO (adk s.heap.objs.size)->aez h' TO x y->SubI t1 h' i1 l1 (k+1)->SubI t2 h' i2 l2 (k+1)->aez h' s.heap.objs.size x y->h'.objs.size=s.heap.objs.size+1 ->
   (∀c o,c∉[z,TO,i1,i2]->s.heap.get? c=some o->h'.get? c=some o)->Q (some (.ref s.heap.objs.size)) {s with heap:=h' }):wpAny (model prog w) A (act (.ref z)) Q E s:=by
 have D:=D0.old;let⟨I,V,⟨a,b,hTO⟩,h1,h2⟩:=Z;have hT:s.TypeIs (.ref z) "zip":=(⟨_,I,rfl⟩);unfold act;refine gT (acL (aaT (name:=abO "__next__") hT aeA (aa2 aeA hT F.entry_zip_next ?_ (F.args_zip_next_1 _))));refine gT (m:=field (.ref z) 2) (zf2 I (gT (m:=field (.ref z) 3) (zf3 I (gT (acz V rfl ?_)))));refine gT (m:=abM (.ref z)) (gT (m:=field (.ref z) 0) (zf0 I (LD ?_)));simp only[if_true];refine gT (acs (gT (aa7 I rfl (x:=.ref TO) rfl (gT (aaH I (by simp) λg1 C s1=>?_)))));replace C:IsZip g1 z TI TO .ellipsis:=C;refine gT ?_;simp only[af5,List.forIn_nil,ahe,List.zipIdx_nil];refine gT (gT (afn (gT (m:=abG (.ref i1)) ?_)));refine(kM (h1.ext s1.extBut D.i1z) (Y.ext s1.extBut D.l1z) hx λg2 n1 s2=>LD ?_);have v:aez g2 TO a b:=s2.extBut _ _ D.TOi1 (s1.extBut _ _ D.TOz hTO);refine gT (acz v rfl (gT (aer v λg3 j G=>?_)));replace j:aez g3 TO x b:=j;refine gT (afg (LD (gT (gT (afn ?_)))));refine gT (m:=abG (.ref i2)) (kM (((h2.ext s1.extBut D.i2z).ext s2.extBut D.i12.symm).ext G.extBut D.TOi2.symm) (((S.ext s1.extBut D.l2z).ext s2.extBut D.l2i1).ext G.extBut D.l2TO) hy λg4 n2 O=>LD ?_);have u:aez g4 TO x b:=O.extBut _ _ D.TOi2 j;refine gT (acz u rfl (gT (aer u λg d L=>?_)));replace d:aez g TO x y:=d;refine gT (afg (LD (LD (gT (acz d rfl (gT (aeZ ?_)))))));have M:g.objs.size=s.heap.objs.size:=by rw[L.1,O.1,G.1,s2.1,s1.1]
 have K:IsZip g z TI TO .ellipsis:=L.extBut _ _ D.TOz.symm (O.extBut _ _ D.i2z.symm (G.extBut _ _ D.TOz.symm (s2.extBut _ _ D.i1z.symm C)));have k5:∀c o,c∉[z,TO,i1,i2]->s.heap.get? c=some o->g.get? c=some o:=λc o p e=>by
  simp only[aae,aa8,not_or,or_false]at p;exact L.extBut _ _ p.2.1 (O.extBut _ _ p.2.2.2 (G.extBut _ _ p.2.1 (s2.extBut _ _ p.2.2.1 (s1.extBut _ _ p.1 e))))
 have n15:SubI t1 g i1 l1 (k+1):=((n1.ext G.extBut D.TOi1.symm).ext O.extBut D.i12).ext L.extBut D.TOi1.symm;have U:SubI t2 g i2 l2 (k+1):=n2.ext L.extBut D.TOi2.symm;have N:z<g.objs.size:=aan K;refine gT (m:=acj (.ref z) (.ref g.objs.size)) ?_;have hz6:IsZip (g.push {cls:=.type "tuple",data:=.seq #[x,y]}) z TI TO .ellipsis:=GT _ K;refine gT (m:=acQ (.ref z) 0 _) (aaH hz6 (by simp) λg7 B T=>?_);replace B:IsZip g7 z TI TO (adk g.objs.size):=B;refine aaH B (by simp) λJ r s8=>?_;replace r:IsZip J z TI TO (adk g.objs.size):=r;have R:∀c o,c≠z->g.get? c=some o->J.get? c=some o:=λc o c1 e=>s8.extBut _ _ c1 (T.extBut _ _ c1 (GT _ e));have P:aez J g.objs.size x y:=s8.extBut _ _ (abm N) (T.extBut _ _ (abm N) (aak _ rfl));have z8:J.objs.size=g.objs.size+1:=by rw[s8.1,T.1,abp]
 rw[M]at r P z8;have W:wpAny (model prog w) A (pure (some (abk g.objs.size))) Q E {s with heap:=J}:=by
  rw[M];exact LD (hQ J r (R _ _ D.TOz d) (n15.keep λo e=>R _ o D.i1z e) (U.keep λo e=>R _ o D.i2z e) P z8 λc o p e=>R c o (λq=>p (by simp[q])) (k5 c o p e))
 exact LD ⟨_,rfl,W⟩
theorem Ma{TI TO:Addr}{k:Nat}{Q:Option Ad->Io->Prop}(U:A.handled=none)(D0:Apart z TI TO i1 i2 l1 l2)(Z:Iz t1 t2 z TI TO i1 i2 l1 l2 k s.heap)
  (K:SubS t1 s.heap l1 xs) (L:SubS t2 s.heap l2 ys) (G:xs[k]?=none\/ys[k]?=none)
  (hQ:∀h',(∀c o,c∉[z,TO,i1,i2]->s.heap.get? c=some o->h'.get? c=some o)->Q none {s with heap:=h' }):wpAny (model prog w) A (act (.ref z)) Q E s:=by
 have D:=D0.old;let⟨y,O,⟨a,b,P⟩,h1,h2⟩:=Z;have V:s.TypeIs (.ref z) "zip":=(⟨_,y,rfl⟩);have out:∀{c:Addr},c∉[z,TO,i1,i2]->c≠z/\c≠TO/\c≠i1/\c≠i2:=λv=>by simpa only[aae,aa8,not_or,or_false]using v
 have J:∀h' e,(∀c o,c∉[z,TO,i1,i2]->s.heap.get? c=some o->h'.get? c=some o)->(∃o,h'.get? e=some o/\o.cls = .type "StopIteration") ->
   wpAny (model prog w) A (do if <- isInstance (.ref e) (.type "StopIteration")then pure none else throw (.ref e):Sem (Option Ad)) Q E {s with heap:=h' }:=λh' e hk ⟨o,ho,v⟩=>
  gT (acR (T:= "StopIteration") (b:=true) ⟨o,ho,v⟩ ae0 (LD (hQ _ hk)))
 unfold act;refine gT (acL (aaT (name:=abO "__next__") V aeA (aa2 aeA V F.entry_zip_next ?_ (F.args_zip_next_1 _))));refine gT (m:=field (.ref z) 2) (zf2 y (gT (m:=field (.ref z) 3) (zf3 y (gT (acz O rfl ?_)))));refine gT (m:=abM (.ref z)) (gT (m:=field (.ref z) 0) (zf0 y (LD ?_)));simp only[if_true];refine gT (acs (gT (aa7 y rfl (x:=.ref TO) rfl (gT (aaH y (by simp) λg1 j s1=>?_)))));replace j:IsZip g1 z TI TO .ellipsis:=j;refine gT ?_;simp only[af5,List.forIn_nil,ahe,List.zipIdx_nil];refine gT (gT (afn (gT (m:=abG (.ref i1)) ?_)))
 cases hx:xs[k]? with
 |none=>
  refine(ve U (h1.ext s1.extBut D.i1z) (K.ext s1.extBut D.l1z) hx λR e s2 S=>?_);let⟨M,d,g⟩:=S;have I:IsZip R z TI TO .ellipsis:=s2 _ _ D.i1z.symm j;have u:e≠z:=λq=>by subst q;rw[I]at d;cases d;simp at g
  refine aaH I (by simp) λg3 _ r=>J g3 e (λc o v q=>?_) ⟨M,r.extBut _ _ u d,g⟩;let⟨C,_,N,_⟩:=out v;exact r.extBut _ _ C (s2 _ _ N (s1.extBut _ _ C q))
 |some x=>
  have hy:ys[k]?=none:=by rcases G with q|q;rw[hx]at q;cases q;exact q
  refine(kM (h1.ext s1.extBut D.i1z) (K.ext s1.extBut D.l1z) hx λR n1 s2=>LD ?_);have p:aez R TO a b:=s2.extBut _ _ D.TOi1 (s1.extBut _ _ D.TOz P);refine gT (acz p rfl (gT (aer p λg3 W r=>?_)));refine gT (afg (LD (gT (gT (afn ?_)))));refine gT (m:=abG (.ref i2)) (ve U (((h2.ext s1.extBut D.i2z).ext s2.extBut D.i12.symm).ext r.extBut D.TOi2.symm) (((L.ext s1.extBut D.l2z).ext s2.extBut D.l2i1).ext r.extBut D.l2TO) hy λg4 e s4 S=>?_);let⟨M,d,g⟩:=S;have B:IsZip g4 z TI TO .ellipsis:=s4 _ _ D.i2z.symm (r.extBut _ _ D.TOz.symm (s2.extBut _ _ D.i1z.symm j));have u:e≠z:=λq=>by subst q;rw[B]at d;cases d;simp at g
  refine aaH B (by simp) λg5 _ Y=>J g5 e (λc o v q=>?_) ⟨M,Y.extBut _ _ u d,g⟩;let⟨C,c2,N,c4⟩:=out v;exact Y.extBut _ _ C (s4 _ _ c4 (r.extBut _ _ c2 (s2.extBut _ _ N (s1.extBut _ _ C q))))
end
def zit(t:Bool):String:=if t then "tuple_iterator" else "list_iterator"
abbrev itO(t:Bool)(l:Addr):Obj:={cls:=.type (zit t),data:=.fields #[.ref l,.int 0 0]}
abbrev zA(t1:Bool)(h:aaQ)(l1:Addr):aaQ:=h.push (itO t1 l1)
abbrev zB(t1 t2:Bool)(h:aaQ)(l1 l2:Addr):aaQ:=(zA t1 h l1).push (itO t2 l2)
abbrev zC(t1 t2:Bool)(h:aaQ)(l1 l2:Addr):aaQ:=(zB t1 t2 h l1 l2).push {cls:=.type "tuple",data:=.seq #[.ref h.objs.size,.ref (zA t1 h l1).objs.size]}
abbrev zD(t1 t2:Bool)(h:aaQ)(l1 l2:Addr):aaQ:=(zC t1 t2 h l1 l2).push {cls:=.type "tuple",data:=.seq #[.none,.none]}
abbrev zE(t1 t2:Bool)(h:aaQ)(l1 l2:Addr):aaQ:=(zD t1 t2 h l1 l2).push {cls:=.type "zip",data:=.fields #[.none,.bool false,.bool false,.ref (zB t1 t2 h l1 l2).objs.size,.ref (zC t1 t2 h l1 l2).objs.size]}
def dw{prog:aaI}{w:World}{A:abc}{E:Ad->Io->Prop}{s:Io}(h:SubS t s.heap l its)
  (c:Q (.ref s.heap.objs.size) {s with heap:=s.heap.push (itO t l)}):wpAny (model prog w) A (afI (.ref l)) Q E s:=by
 cases t
 .exact wpAny_pyIter_list (h) c
 .exact wpAny_pyIter_tuple (h) c
theorem Rj(t1 t2:Bool)(l1 l2:Addr)(xs ys:Array Ad) :
  Meets (adc.«zip.__new__» ⟨[.type "zip",.ref l1,.ref l2],[]⟩) (λ_ R s=>SubS t1 s.heap l1 xs/\SubS t2 s.heap l2 ys/\R (.ok (.ret (.ref (zD t1 t2 s.heap l1 l2).objs.size))) {s with heap:=zE t1 t2 s.heap l1 l2}):=
 .of_wp λprog w A R s h=>by
  rcases s with⟨q,g,d,r,os⟩;rcases h with⟨j,k,h⟩;have p:=sub_zip;have m:=j;have c:SubS t2 (ahl ⟨q.push (itO t1 l1),g,d,r,os⟩) l2 ys:=k.keep λo e=>GT _ e
  wp_walk using dw m,dw c
  exact⟨_,rfl,h⟩
section
variable {prog:aaI}{w:World}{A:abc}{E:Ad->Io->Prop}{s:Io}
theorem FV(r:SubS t1 s.heap l1 xs)(p:SubS t2 s.heap l2 ys)
  (h:∀h',Iz t1 t2 (s.heap.objs.size+4) (s.heap.objs.size+2) (s.heap.objs.size+3) s.heap.objs.size (s.heap.objs.size+1) l1 l2 0 h'->(∀c o,s.heap.get? c=some o->h'.get? c=some o)->Q (.ref (s.heap.objs.size+4)) {s with heap:=h' }):wpAny (model prog w) A (call (.type "zip") [.ref l1,.ref l2]) Q E s:=by
 refine callType_new F.called_zip (by decide) (F.typeCall_zip_2 _ _) (F.newCall_zip_2 _ _) (λobj=>F.args_object_init_3 obj _ _) F.entry_zip_new (Rj t1 t2 l1 l2 xs ys) ⟨r,p,?_⟩;have v:(zA t1 s.heap l1).objs.size=s.heap.objs.size+1:=abp ..;have m:(zB t1 t2 s.heap l1 l2).objs.size=s.heap.objs.size+2:=by rw[abp,v]
 have q:(zC t1 t2 s.heap l1 l2).objs.size=s.heap.objs.size+3:=by rw[abp,m]
 have B:(zD t1 t2 s.heap l1 l2).objs.size=s.heap.objs.size+4:=by rw[abp,q]
 have u:∀c o,(zD t1 t2 s.heap l1 l2).get? c=some o->(zE t1 t2 s.heap l1 l2).get? c=some o:=λc o e=>GT _ e;have j:∀c o,(zC t1 t2 s.heap l1 l2).get? c=some o->(zE t1 t2 s.heap l1 l2).get? c=some o:=λc o e=>u c o (GT _ e);have d:∀c o,(zB t1 t2 s.heap l1 l2).get? c=some o->(zE t1 t2 s.heap l1 l2).get? c=some o:=λc o e=>j c o (GT _ e);have g:∀c o,(zA t1 s.heap l1).get? c=some o->(zE t1 t2 s.heap l1 l2).get? c=some o:=λc o e=>d c o (GT _ e);have y:(zE t1 t2 s.heap l1 l2).get? (s.heap.objs.size+4)=some {cls:=.type "zip",data:=.fields #[.none,.bool false,.bool false,.ref (s.heap.objs.size+2),.ref (s.heap.objs.size+3)]}:=by
  rw[<-B,<-q,<-m];exact aak _ rfl
 have D:(zE t1 t2 s.heap l1 l2).get? (s.heap.objs.size+3)=some {cls:=.type "tuple",data:=.seq #[.none,.none]}:=by
  rw[<-q];exact u _ _ (aak _ rfl)
 have C:(zE t1 t2 s.heap l1 l2).get? (s.heap.objs.size+2)=some {cls:=.type "tuple",data:=.seq #[.ref s.heap.objs.size,.ref (s.heap.objs.size+1)]}:=by
  rw[<-m,<-v];exact j _ _ (aak _ rfl)
 have G:(zE t1 t2 s.heap l1 l2).get? (s.heap.objs.size+1)=some (itO t2 l2):=by
  rw[<-v];exact d _ _ (aak _ rfl)
 have I:(zE t1 t2 s.heap l1 l2).get? s.heap.objs.size=some (itO t1 l1):=g _ _ (aak _ rfl);have k:∀{t:Bool}{i l:Addr},(zE t1 t2 s.heap l1 l2).get? i=some (itO t l)->SubI t (zE t1 t2 s.heap l1 l2) i l 0:=λ{t i l} e=>by
  cases t
  .exact⟨_,e,rfl,rfl⟩
  .exact⟨_,e,rfl,rfl⟩
 show _/\_;rw[B];exact⟨⟨_,y,rfl⟩,h _ ⟨y,C,⟨_,_,D⟩,k I,k G⟩ λc o x=>g c o (GT _ x)⟩
end
theorem Fc{l1 l2:Nat}(c:l1<n)(e:l2<n):Apart (n+4) (n+2) (n+3) n (n+1) l1 l2 where
 d:=by
  simp
 m1:=by
  grind
 m2:=by
  grind
def SqB(t:Bool)(K:aad)(H:Hp)(a:Addr)(xs:List V):Prop:=if t then SqT K H a xs else SqL K H a xs
def Itz(t1 t2:Bool)(K:aad)(a b:Addr):It where
 go:=λi H=>∃xs ys x y,SqB t1 K H a xs/\SqB t2 K H b ys/\xs[i]?=some x/\ys[i]?=some y
 yld:=λi H v c=>∃T x y,v = .ref T/\H T=none/\c=upd H T (.tup [x,y])/\(∀xs,SqB t1 K H a xs->xs[i]?=some x)/\∀ys,SqB t2 K H b ys->ys[i]?=some y
 stop:=λi H=>∃xs ys,SqB t1 K H a xs/\SqB t2 K H b ys/\(xs.length≤i\/ys.length≤i)
theorem Inv.sqb{s:Io}{xs:List V}(I:Inv X pins σ H s)(h:SqB t X.kx H a xs):∃its:List Ad,Vals xs its/\SubS t s.heap a its.toArray/\xs.length≤aam:=by
 cases t
 .obtain⟨its,r,p,z⟩:=I.list (h);exact⟨its,r,p.isList,z⟩
 .obtain⟨its,r,p,z⟩:=I.tuple (h);exact⟨its,r,p,z⟩
def Inv.sqb_inj{s:Io}{xs ys:List V}(I:Inv X pins σ H s)(h:SqB t X.kx H a xs)(h':SqB t X.kx H a ys):xs=ys:=by
 cases t
 .exact I.list_inj (h) (h')
 .exact I.tuple_inj (h) (h')
theorem Jr{P:aaI}{w:World}{K:aad}{x1:Nat}{pos:Pos}{TI TO:Addr}(D:Apart z TI TO i1 i2 a b):Turn P w K (.Tuple elts x1 pos) (Itz t1 t2 K a b) [z,TI,TO,i1,i2] z (λi h=>Iz t1 t2 z TI TO i1 i2 a b i h) where
 mem:=by simp
 obj:=λi h j c g=>by
  let⟨A,p,⟨u,v,m⟩,R,r⟩:=j;simp only[aae,aa8,or_false]at g;rcases g with rfl|rfl|rfl|rfl|rfl
  .exact⟨_,A,λv q=>by cases q⟩
  .exact⟨_,p,λv q=>by cases q⟩
  .exact⟨_,m,λv q=>by cases q⟩
  .obtain⟨o,vs,e,d⟩:=R.obj;exact⟨o,e,λv q=>by rw[d]at q;cases q⟩
  .obtain⟨o,vs,e,d⟩:=r.obj;exact⟨o,e,λv q=>by rw[d]at q;cases q⟩
 keep:=λi h h' j k=>by
  let⟨A,p,⟨u,v,m⟩,R,r⟩:=j;exact⟨k z (by simp) _ A,k TI (by simp) _ p,⟨u,v,k TO (by simp) _ m⟩,R.keep λo e=>k i1 (by simp) o e,r.keep λo e=>k i2 (by simp) o e⟩
 item:=by
  intro X hP hw V g i pins s σ H E I T j W;subst hP hw V;let⟨xs,ys,x,y,B,C,hx,hy⟩:=W;let⟨M,G,p1,_⟩:=I.sqb B;let⟨O,J,U,_⟩:=I.sqb C;let⟨N,e1,ru1⟩:=G.get hx;let⟨S,e2,Z⟩:=J.get hy;refine GU D j p1 U (x:=N) (y:=S) (by simpa using e1) (by simpa using e2) λh' a1 a2 a3 a4 a5 a6 a7=>⟨.ref s.heap.objs.size,rfl,?_⟩;refine wpAny_letOwnedTupleGo_zip (s:={s with heap:=h' }) a1 λr b1 sb=>?_;have hfT:H s.heap.objs.size=none:=I.hok.fresh (Mt _);have Y:∀c∈[z,TI,TO,i1,i2],c<s.heap.objs.size:=λc g=>by
   let⟨A,p,⟨u,v,m⟩,R,r⟩:=j;simp only[aae,aa8,or_false]at g;rcases g with rfl|rfl|rfl|rfl|rfl
   .exact aan A
   .exact aan p
   .exact aan m
   .obtain⟨o,vs,e,d⟩:=R.obj;exact aan e
   .obtain⟨o,vs,e,d⟩:=r.obj;exact aan e
  have nz:∀c∈[z,TI,TO,i1,i2],c≠s.heap.objs.size:=λc g=>aaU (Y c g);have F:=D.old;have L:∀c o,c≠z->h'.get? c=some o->r.get? c=some o:=λc o n e=>sb.extBut c o n e;have T2:aez r s.heap.objs.size N S:=L _ _ (abx (nz z (by simp))) a5;have I0:Inv X pins σ (upd H s.heap.objs.size (.tup [x,y])) {s with heap:=s.heap.push {cls:=.type "tuple",data:=.seq #[N,S]},toks:=s.toks}:=
   I.laid (o:=.tup [x,y]) (λc o e=>GT _ e) (Mt _) ⟨by show 2≤aam;rw[aag];decide,[N,S],.cons ru1 (.cons Z .nil),PlainT.new _ _⟩
  have Il:Inv X pins σ (upd H s.heap.objs.size (.tup [x,y])) {s with heap:=r,toks:=s.toks}:=by
   refine Inv.turneds (s:={s with heap:=s.heap.push {cls:=.type "tuple",data:=.seq #[N,S]},toks:=s.toks}) (h':=r) (t':=s.toks) (ch:=[z,TI,TO,i1,i2]) I0 (λc o g e=>?_) λc g=>?_
   .rcases ago e with⟨rfl,rfl⟩|e
    .exact T2
    .exact L c o (λq=>g (by simp[q])) (a7 c o (λq=>g (by simp only[aae,aa8,or_false]at q⊢;rcases q with q|q|q|q<;>simp[q])) e)
   .obtain⟨f0,f1⟩:=T c g;exact⟨by rw[aA (nz c g)];exact f0,f1⟩
  refine⟨.ref s.heap.objs.size,upd H s.heap.objs.size (.tup [x,y]),Il,rfl,⟨_,x,y,rfl,hfT,rfl,λzs A=>by rw[I.sqb_inj A B];exact hx,λzs A=>by rw[I.sqb_inj A C];exact hy⟩,⟨b1,L _ _ F.TIz (a7 _ _ (by simp only[aae,aa8,or_false,not_or];exact⟨F.TIz,F.TITO,F.TIi1,F.TIi2⟩) j.ti),⟨_,_,L _ _ F.TOz a2⟩,a3.keep λo e=>L _ o F.i1z e,a4.keep λo e=>L _ o F.i2z e⟩,λc g=>?_⟩;rw[aA (nz c g)];exact(T c g).1
 done:=by
  intro X hP hw V g i pins s σ H E I T j W;subst hP hw V;let⟨xs,ys,B,C,he⟩:=W;let⟨M,G,p1,_⟩:=I.sqb B;let⟨O,J,U,_⟩:=I.sqb C;have l1:=G.length;have l2:=J.length;refine Ma (I.ok.hd g) D j p1 U (by rcases he with q|q;(left;simp;omega);(right;simp;omega)) λh' hk=>⟨rfl,I.turneds (t':=s.toks) (ch:=[z,TI,TO,i1,i2]) (λc o g e=>hk c o (λq=>g (by simp only[aae,aa8,or_false]at q⊢;rcases q with q|q|q|q<;>simp[q])) e) T⟩
 self:=λ_ _ _ _ _ j h=>wpAny_pyIter_zip j.z h
section
variable {X:Cx}{j:List Expr}{B:Nat}{w:Pos}{a b:Expr}{A:WA}{p pos:Pos}
def iZip(K:aad)(d:TA):TI:=λσ H R=>d σ H λvs c=>∃t1 t2 l1 l2,vs=[.ref l1,.ref l2]/\(∃xs,SqB t1 K c l1 xs)/\(∃ys,SqB t2 K c l2 ys)/\R (Itz t1 t2 K l1 l2) c
def Nu:aaO "zip" = some (.type "zip"):=by rfl
theorem WQ{y:TA}(F:Gl X "zip")(P:X.mg "zip" = none)(N:PA X [a,b] y)(K:aac [a,b] X.env=[(false,eval a X.env),(false,eval b X.env)]:=by first|exact(aI rfl).trans (congrArg _ (cU rfl))|rfl)(m:aac [b] X.env=[(false,eval b X.env)]:=by first|exact cU rfl|rfl):PI X (.Tuple j B w) (.Call (.Name "zip" p) [a,b] [] pos) (iZip X.K y):=by
 intro pins s σ H U I h;refine Call_ (kl I F P Nu (acl (thn (N pos pins s σ H _ I h) λT s1 ⟨vs,G,k,r1,M⟩=>?_) (by rw[K,m]) (by rw[m];rfl)));let⟨t1,t2,l1,l2,e,⟨xs,O⟩,⟨ys,S⟩,q⟩:=M;subst e
 cases r1 with
 | cons r rr=>
  cases rr with
  | cons E rr=>
   cases rr;cases r;cases E;let⟨v,D,C,_⟩:=k.sqb O;let⟨x,L,u,_⟩:=k.sqb S;refine FV C u λh' Z R=>?_;refine wpAny_pyIter_zip Z.z ?_;have lt:∀{t:Bool}{l:Addr}{its:Array Ad},SubS t s1.heap l its->l<s1.heap.objs.size:=λ{t l its} p=>by
    cases t
    .obtain⟨o,e,_⟩:=(show s1.heap.IsList l its from p);exact aan e
    .obtain⟨o,e,_⟩:=(show s1.heap.IsTuple l its from p);exact aan e
   refine⟨s1.heap.objs.size+4,_,_,_,G,rfl,k.kept (t':=s1.toks) R,Jr (Fc (lt C) (lt u)),Z,λc J=>?_,q⟩;have d:s1.heap.objs.size≤c:=by
    have g:=J;simp at g;rcases g with rfl|rfl|rfl|rfl|rfl<;>first|exact ab5 _ _|exact Mt _
   exact k.fpOk d (k.hok.fresh d)
def imS:R->Option (Bool×List aD)
 | .imm (.tuple ds)=>some (true,ds)
 | .imm (.list ds)=>some (false,ds)
 |_=>none
def zipD(ds es:List aD):List aD:=(ds.zip es).map λp=>.tuple [p.1,p.2]
abbrev VM(A:WA):WI:=λm K=>A m λrs c=>match rs with|[r1,r2]=>∃t1 ds t2 es,imS r1=some (t1,ds)/\imS r2=some (t2,es)/\K ⟨zipD ds es,none⟩ c|_=>False
theorem CW{K:Kd}{α:Al}{d:Hp}{r:R}{v:V}(h:RelR K α d H r v)(e:imS r=some (t,ds)):∃l xs,v = .ref l/\DenAll K H ds xs/\(SqB t K H l xs)/\∀c,Pers H c->SqB t K c l xs:=by
 unfold imS at e
 split at e
 .cases e;let⟨l,xs,e,f,g⟩:=bO (h);exact⟨l,xs,e,g,f,λc p=>f.mono p⟩
 .cases e;have h':=h;let⟨l,xs,e,f,g⟩:=h';exact⟨l,xs,e,g,f.sq,λc p=>(f.mono p).sq⟩
 .cases e
def cE(ds es:List aD):(zipD ds es).length=min ds.length es.length:=by simp[zipD]
theorem xh{d e:aD}(c:ds[i]?=some d)(g:es[i]?=some e):(zipD ds es)[i]?=some (.tuple [d,e]):=by
 unfold zipD;rw[aao,(List.getElem?_zip_eq_some (z:=(d,e))).mpr ⟨c,g⟩];rfl
theorem wks_zip{K:Kd}:Wks K (Itz t1 t2 K l1 l2) (zipD ds es) λH=>∃xs ys,SqB t1 K H l1 xs/\SqB t2 K H l2 ys/\DenAll K H ds xs/\DenAll K H es ys where
 stop:=λH ⟨xs,ys,c,g,m,k⟩=>⟨xs,ys,c,g,by rw[cE,<-m.length,<-k.length];omega⟩
 go:=λi H hi ⟨xs,ys,c,g,m,k⟩=>by
  rw[cE]at hi;exact⟨xs,ys,xs[i]'(by rw[<-m.length];omega),ys[i]'(by rw[<-k.length];omega),c,g,mT _,mT _⟩
 yld:=λi H x I hi ⟨xs,ys,c,g,m,k⟩ y=>by
  let⟨T,u,v,rfl,C,rfl,G,D⟩:=y;let⟨d,E,k1⟩:=m.get2 (G xs c);let⟨e,F,k2⟩:=k.get2 (D ys g);have r:∀b o,H b=some o->upd H T (.tup [u,v]) b=some o:=λb o q=>by rw[aA (bx q C)];exact q
  have s:Pers H _:=⟨λb xs q=>r b _ q,λb o u q=>r b _ q⟩;refine⟨r,_,xh E F,?_⟩;exact fc (SqT.of aB) (DenAll.cons (k1.mono s) (DenAll.cons (k2.mono s) DenAll.nil))
theorem UH(P:X.mg "zip" = none)(M:MA X [a,b] A)(D:Gl X "zip":=by rfl)(L:aac [a,b] X.env=[(false,eval a X.env),(false,eval b X.env)]:=by first|exact(aI rfl).trans (congrArg _ (cU rfl))|rfl)(q:aac [b] X.env=[(false,eval b X.env)]:=by first|exact cU rfl|rfl):MI X (.Tuple j B w) (.Call (.Name "zip" p) [a,b] [] pos) (VM A):=(WQ D P M L q).wk<|by
 intro σ H Y ⟨α,m,W,E,U,o⟩;refine⟨α,m,_,E,U,λrs C vs K k n R rr F=>?_⟩
 cases rr with
 |nil=>exact k.elim
 |cons O rr=>
  cases rr with
  |nil=>exact k.elim
  |cons T rr=>
  cases rr with
  |cons _ _=>exact k.elim
  |nil=>
  let⟨t1,ds,t2,es,J,G,k⟩:=k;let⟨l1,xs,rfl,S,u,N⟩:=CW O J;let⟨l2,ys,rfl,I,v,y⟩:=CW T G;refine⟨t1,t2,l1,l2,rfl,⟨xs,u⟩,⟨ys,v⟩,o _ C _ K k n R F ⟨λH=>∃xs ys,SqB t1 X.kx H l1 xs/\SqB t2 X.kx H l2 ys/\DenAll X.kx H ds xs/\DenAll X.kx H es ys/\(∀e,Pers H e->SqB t1 X.kx e l1 xs)/\∀e,Pers H e->SqB t2 X.kx e l2 ys,wks_zip.imp<|by intro H ⟨xs,ys,a,b,c,d,_⟩;exact⟨xs,ys,a,b,c,d⟩,⟨xs,ys,u,v,S,I,N,y⟩,by intro V s ⟨xs,ys,a,b,c,d,r,x⟩ g;exact⟨xs,ys,r s g,x s g,c.mono g,d.mono g,λe p=>r e (g.trans p),λe p=>x e (g.trans p)⟩⟩⟩
end
theorem qH{x:Nat}{c:Pos}{a b:Expr}{w:WA}{p pos:Pos}(e:X.mg "zip" = none)(j:EA X [a,b] w)(g:Gl X "zip":=by rfl)(k:aac [a,b] X.env=[(false,eval a X.env),(false,eval b X.env)]:=by first|exact(aI rfl).trans (congrArg _ (cU rfl))|rfl)(d:aac [b] X.env=[(false,eval b X.env)]:=by first|exact cU rfl|rfl):EI X (.Tuple elts x c) (.Call (.Name "zip" p) [a,b] [] pos) (VM w):=⟨UH e j.h g k d⟩
def bv{β:Type}{xs:List α}{x:α}(f:α->β)(h:xs[i]?=some x):(xs.take (i+1)).map f=(xs.take i).map f++[f x]:=by
 rw[abb,h,aaw];rfl
theorem gmap{β:Type}{xs:List α}{y:β}{f:α->β}(h:(xs.map f)[i]?=some y):∃x,xs[i]?=some x/\y=f x/\i<xs.length:=by
 rw[aao]at h
 cases q:xs[i]? with
 |none=>rw[q]at h;cases h
 |some x=>rw[q]at h;exact⟨x,rfl,(aar h).symm,(AD.mp q).1⟩
theorem cY{lo:Int}{d:aD}(h:(ju lo n)[i]?=some d):i<n/\d = .int (lo+(i:Int)):=by
 have hi:=by
  have:=(AD.mp h).1;rwa[aH]at this
 rw[jF hi]at h;exact⟨hi,(aar h).symm⟩
def FI{k:Nat}{P:MSt->Prop}{m:MSt}(c:List Nat)(m2:MSt)(N:Ren c (m.setV n (.obj k)) m2)(h:P m2):sf n P m (.obj k):=.inr ⟨c,m2,N,h⟩
theorem y9{P:MSt->Prop}{m:MSt}(c:List Nat)(m2:MSt)(N:Ren c {vs:=m.vs.set n (some (.obj m.os.length)),os:=m.os++[ds],np:=m.np} m2)(h:P m2):sf n P m (.new ds):=.inl (.inr ⟨c,m2,N,h⟩)
def RenO(c:List Nat)(o:Option R):Option R->Prop
 |none=>True
 |some r=>RenR c (some o) r
def RenVs(c:List Nat):List (Option R)->List (Option R)->Prop
 |o::os,q::qs=>RenO c o q/\RenVs c os qs
 |[],[]=>True
 |_,_=>False
theorem RenVs.len{c:List Nat}:∀{os q:List (Option R)},RenVs c os q->q.length=os.length
 |[],[],_=>rfl
 |_::_,_::_,h=>congrArg (· + 1) (RenVs.len h.2)
 |[],_::_,h=>h.elim
 |_::_,[],h=>h.elim
theorem RenVs.get{d:List Nat}:∀{os c:List (Option R)},RenVs d os c->∀(j:Nat) (r:R),c[j]?=some (some r)->RenR d os[j]? r
 |o::os,q::c,h,0,r,e=>by
  have g:=by simpa using e
  subst g;exact h.1
 |o::os,q::c,h,j+1,r,e=>by simpa using RenVs.get h.2 j r ‹_›
 |[],[],_,_,_,e=>by simp at e
 |[],_::_,h,_,_,_=>h.elim
 |_::_,[],h,_,_,_=>h.elim
def JX{c:List Nat}{m m2:MSt}(nd:decide c.Nodup=true)(lt:(c.all λk=>Nat.blt k m.os.length)=true)(pre:c.take m.np=aaL m.np)(npl:Nat.ble m.np c.length=true)(os:m2.os=c.map λk=>m.os.getD k [])(np:m2.np=m.np)(vs:RenVs c m.vs m2.vs):Ren c m m2:=
 ⟨of_decide_eq_true nd,λk d=>Nat.blt_eq.mp (abD.mp lt k d),pre,Nat.le_of_ble_eq_true npl,os,np,vs.len,λj r e=>vs.get j r e⟩
def qr{d:aD}(h:(zipD ds es)[i]?=some d):∃a b,ds[i]?=some a/\es[i]?=some b/\d = .tuple [a,b]:=by
 let⟨p,e,rfl,_⟩:=gmap h;let⟨c,g⟩:=List.getElem?_zip_eq_some.mp e;exact⟨p.1,p.2,c,g,rfl⟩
def Rf{x:Str}(h:(aei x).canLay0=true):Shp 0 (.str x):=⟨h,Mt _⟩
end L2
namespace M3
def stepL(xs:List (List Nat))(r:Nat):List (List Nat):=xs.flatMap λa=>(aaL (r+1)).map λk=>a++[k]
def allL(rs:List Nat):List (List Nat):=rs.foldl stepL [[]]
def allR:List Nat->List (List Nat)
 |[]=>[[]]
 |r::rs=>(aaL (r+1)).flatMap λk=>(allR rs).map (k :: ·)
theorem tW:∀(rs:List Nat) (xs:List (List Nat)),rs.foldl stepL xs=xs.flatMap λa=>(allR rs).map (a++·)
 |[],xs=>by
  simp[allR]
 |r::rs,xs=>by
  rw[aev,tW rs];simp only[stepL,allR,List.flatMap_assoc,List.map_flatMap,List.flatMap_map,aaW]
  congr 1
  funext a
  congr 1
  funext k
  congr 1
  funext l
  simp
def allL_eq(rs:List Nat):allL rs=allR rs:=by
 unfold allL;rw[tW];simp
theorem allR_len:∀{rs l:List Nat},l∈allR rs->l.length=rs.length
 |[],l,h=>by simp[allR]at h;subst h;rfl
 |r::rs,l,h=>by
  simp only[allR,ab3,aap]at h;let⟨k,_,a,h,rfl⟩:=h;simp[allR_len h]
theorem stepL_length(xs:List (List Nat))(r:Nat):(stepL xs r).length=xs.length*(r+1):=by
 unfold stepL
 induction xs with
 |nil=>simp
 |cons a xs i=>
  grind
theorem wX:∀{rs:List Nat}{xs:List (List Nat)},(∀r∈rs,r≤6)->(rs.foldl stepL xs).length≤xs.length*7^rs.length
 |[],xs,_=>by simp
 |r::rs,xs,h=>by
  rw[aev];refine aax (wX λb a=>h b (aab _ a)) ?_;rw[stepL_length,aaq,Nat.pow_succ,Nat.mul_assoc,aeI (7^rs.length)];refine Nat.mul_le_mul_left _ (acG _ ?_)
  simp_all
def fold_small{rs:List Nat}(a:rs.length≤4)(h:∀r∈rs,r≤6):(rs.foldl stepL [[]]).length≤2401:=by
 refine aax (wX h) ?_;have:7^rs.length≤7^4:=Nat.pow_le_pow_right (by decide) a;simpa
def stepL_take{xs:List (List Nat)}{r j:Nat}{l:List Nat}(h:xs[j]?=some l):stepL (xs.take (j+1)) r=stepL (xs.take j) r++(aaL (r+1)).map λy=>l++[y]:=by
 unfold stepL;rw[abb,h];simp
end M3
set_option maxHeartbeats 4100000
namespace K
open PySem L2
def Ji:SpM:=λa K=>∃ns:List Int,a=[.imm (.list (ns.map .int))]/\ns.length≤63/\K (.imm (.bool true)) []
def frD(a b:Int):aD:=.tuple [.int a,.int b]
def Ue:SpM:=λc K=>∃a b:Nat,c=[.imm (.int a),.imm (.int b)]/\a<1000000000/\0<b/\b<1000000000/\K (.imm (frD (a/a.gcd b:Nat) (b/a.gcd b:Nat))) []
structure Srv where
 a:Nat
 b:Nat
 r:Nat
def Srv.d(s:Srv):aD:=.tuple [.tuple [.int s.a,.int s.b],.int s.r]
structure Srv.Ok(s:Srv):Prop where
 a1:1≤s.a
 a2:s.a<1000000
 b1:1≤s.b
 b2:s.b<1000000
 r1:1≤s.r
 r6:s.r≤6
structure Hall where
 a:Nat
 b:Nat
 ss:List Srv
 mv:Bool
def Hall.d(h:Hall):aD:=.tuple [.tuple [.int h.a,.int h.b],.tuple (h.ss.map Srv.d),.bool h.mv]
structure Hall.Ok(h:Hall):Prop where
 a1:1≤h.a
 a2:h.a<1000000
 b1:1≤h.b
 b2:h.b<1000000
 n1:1≤h.ss.length
 n4:h.ss.length≤4
 ok:∀s∈h.ss,s.Ok
def Hall.rs(h:Hall):List Nat:=h.ss.map Srv.r
def Hall.rsl(h:Hall):h.rs.length=h.ss.length:=by simp[Hall.rs]
def Hall.rs_get{h:Hall}{i:Nat}{s:Srv}(e:h.ss[i]?=some s):h.rs[i]?=some s.r:=by simp[Hall.rs,e]
def prD(p:Nat×Nat):aD:=.tuple [.int (p.1:Int),.int (p.2:Int)]
def natD(l:List Nat):List aD:=l.map λ(k:Nat)=>.int (k:Int)
def lnD(l:List Nat):aD:=.tuple (natD l)
def bg(l:List Nat):(natD l).length=l.length:=by simp[natD]
def cA{l:List Nat}{i x:Nat}(h:l[i]?=some x):(natD l)[i]?=some (.int (x:Int)):=by simp[natD,h]
inductive Rule where
 |random|turns|two|least|quick
 |told (ps:List Nat)
def Rule.word:Rule->Str
 | .random=> "random" | .turns=> "turns" | .two=> "two" | .least=> "least" | .quick=> "quick" | .told _=> "told"
def Rule.d:Rule->aD
 | .told p=>.tuple [.str "told",lnD p]
 |r=>.tuple [.str r.word]
def Rule.Ok(h:Hall):Rule->Prop
 | .told a=>a.length=(M3.allR h.rs).length/\∀p∈a,p<h.ss.length
 |_=>True
def Lines(h:Hall)(l:List Nat):Prop:=l.length=h.ss.length/\∀(i:Nat) s x,h.ss[i]?=some s->l[i]?=some x->x≤s.r
theorem Lines.le{h:Hall}{l:List Nat}(o:h.Ok)(k:Lines h l):∀x∈l,x≤6:=λx c=>by
 let⟨i,b,rfl⟩:=abQ.mp c;have a:i<h.ss.length:=by rw[<-k.1];exact b
 have:=k.2 i _ _ (mT a) (mT b);have:=(o.ok _ (acq a)).r6;exact aax ‹_› ‹_›
end K
namespace M7
open M3
def placeF:Nat->List Nat->List Nat->Nat
 |acc,r::rs,x::l=>placeF (acc*(r+1)+x) rs l
 |acc,_,_=>acc
def cnt:List Nat->Nat
 |[]=>1
 |r::rs=>(r+1)*cnt rs
theorem allR_cnt:∀rs:List Nat,(allR rs).length=cnt rs
 |[]=>rfl
 | r::rs=>by
  have a:=allR_cnt rs;have:∀n:Nat,((aaL n).flatMap λk=>(allR rs).map (k :: ·)).length=n*cnt rs:=by
   intro n
   induction n with
   |zero=>simp
   |succ n i=>rw[adM,agv,aal,i];simp[a,aeK]
  exact this _
theorem j3:∀{rs l:List Nat}{acc:Nat},l.length=rs.length->placeF acc rs l=acc*cnt rs+placeF 0 rs l
 |[],[],acc,_=>by simp[placeF,cnt]
 |r::rs,x::l,acc,h=>by
  have a:=by simpa using h
  simp only[placeF,cnt];rw[j3 a,j3 (acc:=0*_+x) a,Nat.add_mul,Nat.mul_assoc];simp[afo]
 |[],_::_,_,h=>by simp at h
 |_::_,[],_,h=>by simp at h
def vN{r x:Nat}{rs l:List Nat}(h:l.length=rs.length):placeF 0 (r::rs) (x::l)=x*cnt rs+placeF 0 rs l:=by
 simp only[placeF];rw[j3 h];simp
def Fits:List Nat->List Nat->Prop
 |r::rs,x::l=>x≤r/\Fits rs l
 |[],[]=>True
 |_,_=>False
theorem Fits.len:∀{rs l:List Nat},Fits rs l->l.length=rs.length
 |[],[],_=>rfl
 |_::_,_::_,h=>congrArg (· + 1) h.2.len
 |[],_::_,h=>h.elim
 |_::_,[],h=>h.elim
theorem place_lt:∀{rs l:List Nat},Fits rs l->placeF 0 rs l<cnt rs
 |[],[],_=>by simp[placeF,cnt]
 |r::rs,x::l,h=>by
  rw[vN h.2.len,cnt];have:=place_lt h.2;have a:=acG (cnt rs) (by have:=h.1;omega)
  grind
 |[],_::_,h=>h.elim
 |_::_,[],h=>h.elim
def pick(lt:Nat->Nat->Bool):Nat->List Nat->Nat
 |b,[]=>b
 |b,k::ks=>pick lt (if lt k b then k else b) ks
theorem yr{lt:Nat->Nat->Bool}:∀{ks:List Nat}{b:Nat},pick lt b ks=b\/pick lt b ks∈ks
 |[],b=>.inl rfl
 | k::ks,b=>by
  simp only[pick];rcases yr with h|h
  .rw[h]
   by_cases q:lt k b=true
   .rw[if_pos q];exact .inr aaa
   .rw[if_neg q];exact .inl rfl
  .exact .inr (aab _ h)
theorem pick_app{lt:Nat->Nat->Bool}:∀{ks:List Nat}{b k:Nat},pick lt b (ks++[k])=if lt k (pick lt b ks)then k else pick lt b ks
 |[],b,k=>rfl
 |j::ks,b,k=>by simp;exact pick_app
theorem placeF_take:∀{rs l:List Nat}{i acc r x:Nat},rs[i]?=some r->l[i]?=some x->placeF acc (rs.take (i+1)) (l.take (i+1))=placeF acc (rs.take i) (l.take i)*(r+1)+x
 |r0::rs,x0::l,0,acc,r,x,h1,h2=>by
  have e:=by simpa using h1
  have a:=by simpa using h2
  subst e a;rfl
 |r0::rs,x0::l,i+1,acc,r,x,h1,h2=>by
  simp;exact placeF_take ‹_› ‹_›
 |[],_,_,_,_,_,h1,_=>by simp at h1
 |_::_,[],_,_,_,_,_,h2=>by simp at h2
end M7
namespace K
open PySem L2 M7
variable{n:Nat}
def Hall.an(h:Hall)(k:Nat):Nat:=(h.ss.map Srv.a).getD k 0
def Hall.bn(h:Hall)(k:Nat):Nat:=(h.ss.map Srv.b).getD k 0
def fj(l:List Nat)(k b:Nat):Bool:=decide (l.getD k 0<l.getD b 0)
def c9(h:Hall)(l:List Nat)(k b:Nat):Bool:=decide ((l.getD k 0+1)*h.bn k*h.an b<(l.getD b 0+1)*h.bn b*h.an k)
def sent(h:Hall)(r:Rule)(l:List Nat)(t:Nat)(o:List Nat):Nat:=match r with
 | .random=>o.headD 0
 | .turns=>t
 | .two=>pick (fj l) (o.headD 0) (o.take 2)
 | .least=>pick (fj l) (o.headD 0) o
 | .quick=>pick (c9 h l) (o.headD 0) o
 | .told p=>p.getD (placeF 0 h.rs l) 0
structure Ord(n:Nat)(o:List Nat):Prop where
 ne:o≠[]
 lt:∀k∈o,k<n
 le:o.length≤4
theorem Lines.fits{h:Hall}{l:List Nat}(k:Lines h l):Fits h.rs l:=by
 let⟨k1,k2⟩:=k;unfold Hall.rs;generalize h.ss=ss at k1 k2
 induction ss generalizing l with
 |nil=>cases l with
  |nil=>trivial
  |cons _ _=>simp at k1
 |cons s ss a=>cases l with
  |nil=>simp at k1
  |cons x l=>exact⟨k2 0 s x rfl rfl,a (by simpa using k1) λi s x e b=>k2 (i+1) s x ‹_› ‹_›⟩
theorem getN{l:List Nat}{k:Nat}(a:l.length=n)(h:k<n):l[k]?=some (l.getD k 0):=by simp_all
def Hall.srv{h:Hall}{k:Nat}(a:k<h.ss.length):∃s,h.ss[k]?=some s/\h.an k=s.a/\h.bn k=s.b/\s∈h.ss:=by
 refine⟨h.ss[k],mT a,?_,?_,acq a⟩
 .exact bJ (by rw[aao,mT a];rfl)
 .exact bJ (by rw[aao,mT a];rfl)
def J1:SpM:=λe K=>∃a b c d:Nat,e=[.imm (frD a b),.imm (frD c d)]/\a<1000000000000/\b<1000000000000/\c<1000000000000/\d<1000000000000/\K (.imm (.bool (decide (a*d<c*b)))) []
def AE:SpM:=λa K=>∃(h:Hall) (l:List Nat),a=[.imm h.d,.imm (lnD l)]/\h.Ok/\Lines h l/\K (.imm (.int (placeF 0 h.rs l:Nat))) []
def o6:SpM:=λa K=>∃(l o:List Nat),a=[.imm (lnD l),.imm (lnD o)]/\Ord l.length o/\K (.imm (.int (pick (fj l) (o.headD 0) o:Nat))) []
def Lr:SpM:=λa K=>∃(h:Hall) (l:List Nat) (k:Nat),a=[.imm h.d,.imm (lnD l),.imm (.int (k:Int))]/\h.Ok/\Lines h l/\k<h.ss.length/\K (.imm (frD ((l.getD k 0+1)*h.bn k:Nat) (h.an k:Nat))) []
def p6:SpM:=λa K=>∃(h:Hall) (l o:List Nat),a=[.imm h.d,.imm (lnD l),.imm (lnD o)]/\h.Ok/\Lines h l/\Ord h.ss.length o/\K (.imm (.int (pick (c9 h l) (o.headD 0) o:Nat))) []
def stD(l:List Nat)(t:Nat):aD:=.tuple [lnD l,.int (t:Int)]
def wJ:SpM:=λa K=>∃(h:Hall) (r:Rule) (l:List Nat) (t:Nat) (o:List Nat),a=[.imm h.d,.imm r.d,.imm (stD l t),.imm (lnD o)]/\h.Ok/\r.Ok h/\Lines h l/\Ord h.ss.length o/\K (.imm (.int (sent h r l t o:Nat))) []
theorem Ord.cons{o:List Nat}(h:Ord n o):∃k ks,o=k::ks/\k<n:=by
 cases o with
 |nil=>exact(h.ne rfl).elim
 |cons k ks=>exact⟨k,ks,rfl,h.lt k aaa⟩
def m9{lt:Nat->Nat->Bool}{o:List Nat}(h:Ord n o)(i:Nat):pick lt (o.headD 0) (o.take i)<n:=by
 let⟨k,b,rfl,a⟩:=h.cons;rcases yr with e|e
 .rw[e];exact a
 .exact h.lt _ (acH e)
def Rule.tl:Rule->List aD
 | .told p=>[lnD p]
 |_=>[]
def Rule.dc(r:Rule):r.d = .tuple (.str r.word::r.tl):=by cases r<;>rfl
def CZ{m:MSt}{K:R->Prop}{d x:aD}{ds:List aD}{i:Int}(e:d = .tuple ds)(h:atI ds i=some x)(k:K (.imm x)):qP (.imm d) (.imm (.int i)) m K:=by
 subst e;exact cb h k
end K
namespace L2
open PySem PySem.Spec PyProof.Rows
variable{t:Bool}{e it l:Addr}{items:Array Ad}{Q:Option Ad->Io->Prop}{ns:List Int}{i:Nat}{ds:List aD}{Kr:R->Prop}
def uB{prog:aaI}{w:World}{A:abc}(t:Bool)(c:A.handled=none)(I a:Addr)(b:a≠I)(items:Array Ad):Walks prog w A I [I,a] [I] items.size (λi v=>items[i]?=some v) (λi h=>SubI t h I a i/\SubS t h a items):=by
 cases t
 .exact Walks.list c I a b items
 .exact Walks.tuple c I a b items
section
variable {prog:aaI}{w:World}{A:abc}{E:Ad->Io->Prop}{s:Io}
theorem xT{Q:Ad->Io->Prop}(c:SubS t s.heap l items)
  (h:∀s2:Io,s2={s with heap:=s.heap.push (itO t l)}->(SubI t s2.heap s.heap.objs.size l 0/\SubS t s2.heap l items)->(∀b∈[s.heap.objs.size,l],b<s2.heap.objs.size)->l≠s.heap.objs.size->Q (.ref s.heap.objs.size) s2):wpAny (model prog w) A (afI (.ref l)) Q E s:=by
 have a:l<s.heap.objs.size:=by
  cases t
  .obtain⟨_,e,_⟩:=(c);exact aan e
  .obtain⟨_,e,_⟩:=(c);exact aan e
 refine dw c (h _ rfl ⟨?_,c.keep λo e=>GT _ e⟩ (λb d=>?_) (aaU a))
 .cases t
  .exact⟨_,aak _ rfl,rfl,rfl⟩
  .exact⟨_,aak _ rfl,rfl,rfl⟩
 .rw[abp];simp at d;rcases d with rfl|rfl
  .simp
  .exact ad5 a
theorem xP{h':aaQ}(a:∀b o,b∉[s.heap.objs.size]->(s.heap.push (itO t l)).get? b=some o->h'.get? b=some o):∀b o,s.heap.get? b=some o->h'.get? b=some o:=λb o e=>
 a b o (λh=>absurd (aan e) (by rw[aaf.mp h];exact acI _)) (GT _ e)
theorem vY(h:aeH items.toList ns):∀(i:Nat) (v:Ad),items[i]?=some v->∃t,v = .int (ns.getD i 0) t:=λi v e=>h.int_at i v (by simpa)
end
section
variable {X:Cx}
def rMax(K:aad):List V->Hp->VK->Prop:=λa H Q=>∃t l ns,a=[.ref l]/\SqB t K H l (ns.map V.int)/\ns≠[]/\∀x,x∈ns->(∀y∈ns,y≤x)->Q (.int x) H
def GG{b:Nat}(c:b≤ns.length-1)(h:ns≠[]):ns.getD b 0∈ns:=by
 have a:b<ns.length:=by
  have:ns.length≠0:=λz=>h (abr z);omega
 rw[bJ (mT a)];simp
theorem uI(B:X.calm=true):d3 X (.builtin "max") (rMax X.K):=by
 intro p s K H F J Q I o ⟨t,l,ns,ex,E,d,q⟩;subst ex;let⟨u,rfl,g⟩:=o.one;cases g;let⟨a,r,k,_⟩:=I.sqb E;have f:=fq r;have D:a.length=ns.length:=by have:=r.length;rw[iO]at this;omega
 refine call_max_walk (xT k λs2 e w c b=>?_);subst e;refine⟨s.heap.objs.size,[s.heap.objs.size,l],[s.heap.objs.size],a.toArray.size,λi v=>a.toArray[i]?=some v,λi h=>SubI t h s.heap.objs.size l i/\SubS t h l a.toArray,_,rfl,uB (A:=X.A.in1) t (I.ok.hd B) _ l b a.toArray,w,c,?_,CmpOf.ints_gt (λi=>ns.getD i 0) (vY f),λv G n x C=>?_⟩
 .grind
 .obtain⟨tt,rfl⟩:=vY f _ v x;rw[aaK,D]at *;let⟨b1,b2⟩:=PySem.argBest_gt (λi=>ns.getD i 0) (ns.length-1);refine⟨.int _,H,I.kept (t':=n) (xP C),⟨_,rfl⟩,q _ (GG b1 d) λy m=>?_⟩;let⟨j,z,rfl⟩:=abQ.mp m;have:=b2 j (by omega);rwa[bJ (mT z)]at this
end
section
variable {prog:aaI}{w:World}{A:abc}{E:Ad->Io->Prop}{s:Io}
structure wn(t:Bool)(e it l:Addr)(k:Nat)(h:aaQ):Prop where
 e:∃old,IsEnum h e it (k:Int) old
 s:SubI t h it l k
def D6{x:Ad}(Z:wn t e it l i s.heap)(hl:SubS t s.heap l items)(X:items[i]?=some x)(f:e≠it)
  (Y:∀h',IsEnumOut h' e it ((i:Int)+1) x s.heap.objs.size->SubI t h' it l (i+1)->aez h' s.heap.objs.size (.int i s.toks) x->h'.objs.size=s.heap.objs.size+1 ->
   (∀b o,b∉[e,it]->s.heap.get? b=some o->h'.get? b=some o)->Q (some (.ref s.heap.objs.size)) {s with heap:=h',toks:=s.toks+1}):wpAny (model prog w) A (act (.ref e)) Q E s:=by
 let⟨⟨old,H⟩,K⟩:=Z;have T:s.TypeIs (.ref e) "enumerate":=(⟨_,H,rfl⟩);unfold act;refine gT (acL (aaT (name:=abO "__next__") T ada (aa2 ada T afS ?_ (afB _))));rcases s with⟨h,g,d,a,os⟩;refine gT (m:=field (.ref e) 2) (aa7 H rfl (x:=.ref it) rfl (gT (kM K hl X λp n1 s1=>?_)));replace s1:abd it h p:=s1;have S:IsEnum p e it i old:=(s1.2 e f).trans H;show wpAny _ _ (field (.ref e) 3 >>= _) _ _ ⟨p,g,d,a,os⟩;refine gT (aa7 S rfl (x:=adk i) rfl ?_);show wpAny _ _ (field (.ref e) 4 >>= _) _ _ ⟨p,g,d,a,os⟩;refine gT (aa7 S rfl (x:=.none) rfl ?_);refine gT (m:=mkInt i) (wpAny_mkInt ?_);show wpAny _ _ (acQ (.ref e) 3 (adk ((i:Int)+1)) >>= _) _ _ ⟨p,g,d,a+1,os⟩;refine gT (aaH S (by simp) λG L s2=>?_);replace s2:abd e p G:=s2;replace L:IsEnum G e it ((i:Int)+1) old:=L;show wpAny _ _ (acQ (.ref e) 4 .none >>= _) _ _ ⟨G,g,d,a+1,os⟩;refine gT (aaH L (by simp) λc J r=>?_);replace r:abd e G c:=r;replace J:IsEnum c e it ((i:Int)+1) old:=J;refine gT (m:=newTuple [.int i a,x]) (aeZ ?_);have F:IsEnum (c.push {cls:=.type "tuple",data:=.seq #[.int i a,x]}) e it ((i:Int)+1) old:=GT _ J;have j:c.objs.size=h.objs.size:=by rw[r.1,s2.1,s1.1]
 have y:e<h.objs.size:=aan H;have W:(c.push {cls:=.type "tuple",data:=.seq #[.int i a,x]}).get? h.objs.size=some {cls:=.type "tuple",data:=.seq #[.int i a,x]}:=by rw[<-j];exact aak _ rfl
 have U:(c.push {cls:=.type "tuple",data:=.seq #[.int i a,x]}).objs.size=h.objs.size+1:=by rw[abp,j]
 have V:∀b o,b∉[e,it]->h.get? b=some o->(c.push {cls:=.type "tuple",data:=.seq #[.int i a,x]}).get? b=some o:=λb o k q=>by
  simp only[aae,aa8,not_or,or_false]at k;exact GT _ (r.extBut b o k.1 (s2.extBut b o k.1 (s1.extBut b o k.2 q)))
 have n4:SubI t (c.push {cls:=.type "tuple",data:=.seq #[.int i a,x]}) it l (i+1):=((n1.ext s2.extBut (abx f)).ext r.extBut (abx f)).keep λo q=>GT _ q;generalize c.push {cls:=.type "tuple",data:=.seq #[.int i a,x]}=O at F W U V n4;show wpAny _ _ (abM (.ref e) >>= _) _ _ ⟨O,g,d,a+1,os⟩;rw[j];refine gT (m:=abM (.ref e)) (gT (m:=field (.ref e) 0) (aa7 F rfl (x:=.none) rfl (LD ?_)));simp only[if_true];refine gT (acs (gT (aa7 F rfl (x:=old) rfl (gT (aaH F (by simp) λC N B=>?_)))));replace B:abd e O C:=B;replace N:IsEnum C e it ((i:Int)+1) x:=N;show wpAny _ _ (acj (.ref e) (.ref h.objs.size) >>= _) _ _ ⟨C,g,d,a+1,os⟩;refine gT (m:=acj (.ref e) (.ref h.objs.size)) ?_;refine gT (m:=acQ (.ref e) 0 _) (aaH N (by simp) λI M D=>?_);replace D:abd e C I:=D;replace M:IsEnumOut I e it ((i:Int)+1) x h.objs.size:=M;refine aaH M (by simp) λu R v=>?_;replace v:abd e I u:=v;replace R:IsEnumOut u e it ((i:Int)+1) x h.objs.size:=R;have P:∀b o,b≠e->O.get? b=some o->u.get? b=some o:=λb o n q=>v.extBut b o n (D.extBut b o n (B.extBut b o n q));refine gT (afg (LD ⟨_,rfl,LD (Y u R (n4.keep λo q=>P _ o (abx f) q) (P _ _ (abm y) W) (by rw[v.1,D.1,B.1,U]) λb o k q=>P b o (λz=>k (by simp[z])) (V b o k q))⟩))
def GF(j:A.handled=none)(Z:wn t e it l i s.heap)(q:SubS t s.heap l items)(n:items[i]?=none)
  (p:∀c,aff it s.heap c->Q none {s with heap:=c}):wpAny (model prog w) A (act (.ref e)) Q E s:=by
 let⟨⟨old,f⟩,h⟩:=Z;have d:s.TypeIs (.ref e) "enumerate":=(⟨_,f,rfl⟩);refine gT (acL (aaT d ada (aa2 ada d afS ?_ (afB _))));refine gT (m:=field _ 2) (aa7 f rfl (x:=.ref it) rfl (gT (ve j h q n λr x b a=>?_)));let⟨o,k,g⟩:=a;exact gT (acR ⟨o,k,g⟩ ae0 (LD (p _ b)))
end
open AutoSeq1 (wpAny_loadPart') in
set_option maxHeartbeats 1100000 in
def Iw(t:Bool)(l:Addr)(items:Array Ad) :
  Meets (adc.«enumerate.__new__» ⟨[.type "enumerate",.ref l],[]⟩) (λ_ R s=>SubS t s.heap l items/\
   R (.ok (.ret (.ref (s.heap.push (itO t l)).objs.size))) {s with heap:=(s.heap.push (itO t l)).push {cls:=.type "enumerate",data:=.fields #[.none,.bool false,.ref s.heap.objs.size,adk 0,.none,.none]} }):=
 .of_wp λprog w A R s h=>by
  rcases s with⟨j,g,d,f,os⟩;rcases h with⟨k,h⟩;have b:=sub_enumerate;have a:SubS t (ahl ⟨j,g,d,f,os⟩) l items:=k
  wp_walk
  refine wpAny_stack_any λm=>?_;refine LD ?_;split
  .rename_i c _ _ _ _ _
   cases c==acU "enumerate"
   .wp_walk using dw a
    exact⟨_,rfl,h⟩
   .wp_walk using dw a
    exact⟨_,rfl,h⟩
  .wp_walk using dw a
   exact⟨_,rfl,h⟩
section
variable {prog:aaI}{w:World}{A:abc}{E:Ad->Io->Prop}{s:Io}
def C6{Q:Ad->Io->Prop}(f:SubS t s.heap l items)
  (h:∀h',wn t (s.heap.objs.size+1) s.heap.objs.size l 0 h'->(∀b o,s.heap.get? b=some o->h'.get? b=some o)->Q (.ref (s.heap.objs.size+1)) {s with heap:=h' }):wpAny (model prog w) A (call (.type "enumerate") [.ref l]) Q E s:=by
 refine callType_new F.called_enumerate (by decide) (F.typeCall_enumerate_1 _) (F.newCall_enumerate_1 _) (λobj=>F.args_object_init_2 obj _) F.entry_enumerate_new (Iw t l items) ⟨f,?_⟩;have c:(s.heap.push (itO t l)).objs.size=s.heap.objs.size+1:=abp ..;rw[c];have a:((s.heap.push (itO t l)).push {cls:=.type "enumerate",data:=.fields #[.none,.bool false,.ref s.heap.objs.size,adk 0,.none,.none]}).get? (s.heap.objs.size+1)=some {cls:=.type "enumerate",data:=.fields #[.none,.bool false,.ref s.heap.objs.size,adk 0,.none,.none]}:=by
  rw[<-c];exact aak _ rfl
 have d:((s.heap.push (itO t l)).push {cls:=.type "enumerate",data:=.fields #[.none,.bool false,.ref s.heap.objs.size,adk 0,.none,.none]}).get? s.heap.objs.size=some (itO t l):=GT _ (aak _ rfl);refine⟨⟨_,a,rfl⟩,h _ ⟨⟨.none,a⟩,?_⟩ λb o x=>GT _ (GT _ x)⟩;cases t
 .exact⟨_,d,rfl,rfl⟩
 .exact⟨_,d,rfl,rfl⟩
end
def Ite(t:Bool)(K:aad)(a:Addr):It where
 go:=λi H=>∃b x,SqB t K H a b/\b[i]?=some x
 yld:=λi H v c=>∃T x,v = .ref T/\H T=none/\c=upd H T (.tup [.int (i:Int),x])/\∀b,SqB t K H a b->b[i]?=some x
 stop:=λi H=>∃b,SqB t K H a b/\b.length≤i
def BU{P:aaI}{w:World}{K:aad}{r:List Expr}{x1:Nat}{pos:Pos}{a:Addr}(y:e≠it):Turn P w K (.Tuple r x1 pos) (Ite t K a) [e,it] e (λi h=>wn t e it a i h) where
 mem:=by simp
 obj:=λi h g c b=>by
  let⟨⟨old,j⟩,m⟩:=g;simp only[aae,aa8,or_false]at b;rcases b with rfl|rfl
  .exact⟨_,j,λv q=>by cases q⟩
  .obtain⟨o,vs,e,d⟩:=m.obj;exact⟨o,e,λv q=>by rw[d]at q;cases q⟩
 keep:=λi h h' g k=>by
  let⟨⟨old,j⟩,m⟩:=g;exact⟨⟨old,k e (by simp) _ j⟩,m.keep λo q=>k it (by simp) o q⟩
 item:=by
  intro X M T D b i f s R H E I A g F;subst M T D;let⟨xs,x,B,U⟩:=F;let⟨O,S,p,_⟩:=I.sqb B;let⟨u,eu,ru⟩:=S.get U;refine D6 g p (x:=u) (by simpa using eu) y λh' a1 a2 a3 a4 a5=>⟨.ref s.heap.objs.size,rfl,?_⟩;refine wpAny_letOwnedTupleGo_enum (s:={s with heap:=h',toks:=s.toks+1}) a1 λC b1 V=>?_;have N:H s.heap.objs.size=none:=I.hok.fresh (Mt _);have G:∀c∈[e,it],c<s.heap.objs.size:=λc b=>by
   let⟨⟨old,j⟩,m⟩:=g;simp only[aae,aa8,or_false]at b;rcases b with rfl|rfl
   .exact aan j
   .obtain⟨o,vs,e,d⟩:=m.obj;exact aan e
  have L:∀c∈[e,it],c≠s.heap.objs.size:=λc b=>aaU (G c b);have J:∀c o,c≠e->h'.get? c=some o->C.get? c=some o:=λc o n q=>V.extBut c o n q;have Z:aez C s.heap.objs.size (.int i s.toks) u:=J _ _ (abx (L e (by simp))) a3;have Y:Inv X f R (upd H s.heap.objs.size (.tup [.int (i:Int),x])) {s with heap:=s.heap.push {cls:=.type "tuple",data:=.seq #[.int i s.toks,u]},toks:=s.toks+1}:=
   I.laid (o:=.tup [.int (i:Int),x]) (λc o q=>GT _ q) (Mt _) ⟨by show 2≤aam;rw[aag];decide,[.int i s.toks,u],.cons ⟨_,rfl⟩ (.cons ru .nil),PlainT.new _ _⟩
  have Il:Inv X f R (upd H s.heap.objs.size (.tup [.int (i:Int),x])) {s with heap:=C,toks:=s.toks+1}:=by
   refine Inv.turneds (s:={s with heap:=s.heap.push {cls:=.type "tuple",data:=.seq #[.int i s.toks,u]},toks:=s.toks+1}) (h':=C) (t':=s.toks+1) (ch:=[e,it]) Y (λc o b q=>?_) λc b=>?_
   .rcases ago q with⟨rfl,rfl⟩|q
    .exact Z
    .exact J c o (λz=>b (by simp[z])) (a5 c o b q)
   .obtain⟨f0,f1⟩:=A c b;exact⟨by rw[aA (L c b)];exact f0,f1⟩
  refine⟨.ref s.heap.objs.size,upd H s.heap.objs.size (.tup [.int (i:Int),x]),Il,rfl,⟨_,x,rfl,N,rfl,λzs W=>by rw[I.sqb_inj W B];exact U⟩,⟨⟨u,?_⟩,a2.keep λo q=>J _ o (abx y) q⟩,λc b=>?_⟩
  .have:((i+1:Nat):Int)=(i:Int)+1:=by rfl
   rw[this];exact b1
  .rw[aA (L c b)];exact(A c b).1
 done:=by
  intro X M T D b i f s R H E I A g F;subst M T D;let⟨xs,B,j⟩:=F;let⟨O,S,p,_⟩:=I.sqb B;have l1:=S.length;exact GF (I.ok.hd b) g p (by simp;omega) λh' hk=>⟨rfl,I.turneds (t':=s.toks) (ch:=[e,it]) (λc o b q=>hk c o (λz=>b (by simp[z])) q) A⟩
 self:=λ_ _ _ _ _ g h=>by let⟨⟨old,j⟩,_⟩:=g;exact wpAny_pyIter_enum j h
section
variable {X:Cx}{f:List Expr}{A:Nat}{w:Pos}{a:Expr}{z:WA}{p pos:Pos}
def Yz(K:aad)(d:TA):TI:=λc H R=>d c H λvs b=>∃t l,vs=[.ref l]/\(∃x,SqB t K b l x)/\R (Ite t K l) b
theorem Oy{k:TA}(n:Gl X "enumerate")(E:X.mg "enumerate" = none)(y:PA X [a] k)(v:aac [a] X.env=[(false,eval a X.env)]:=by first|exact cU rfl|rfl):PI X (.Tuple f A w) (.Call (.Name "enumerate" p) [a] [] pos) (Yz X.K k):=by
 intro g s D H R I h;refine Call_ (kl I n E t7 (acl (thn (y pos g s D H _ I h) λJ s1 ⟨vs,o,j,r1,x⟩=>?_) v rfl));let⟨t,l,e,⟨K,B⟩,q⟩:=x;subst e
 cases r1 with
 | cons r rr=>
  cases rr;cases r;let⟨C,M,m,_⟩:=j.sqb B;refine C6 m λL Z F=>?_;let⟨old,G⟩:=Z.e;refine wpAny_pyIter_enum G ⟨s1.heap.objs.size+1,_,_,_,o,rfl,j.kept (t':=s1.toks) F,BU (Nat.succ_ne_self _),Z,λc u=>?_,q⟩;have b:s1.heap.objs.size≤c:=by
   have d:=u;simp at d;rcases d with rfl|rfl<;>first|exact ab5 _ _|exact Mt _
  exact j.fpOk b (j.hok.fresh b)
def yY(ds:List aD):List aD:=zipD (ju 0 ds.length) ds
def Xx(m:MSt)(K:Src->MSt->Prop)(r:R):Prop:=(∃t ds,imS r=some (t,ds)/\K ⟨yY ds,none⟩ m)\/∃k ds,r = .obj k/\m.os[k]?=some ds/\K ⟨yY ds,some (k,ds)⟩ m
abbrev L6(z:WA):WI:=λm K=>z m λrs b=>on1 (Xx b K) rs
def cI(ds:List aD):(yY ds).length=ds.length:=by unfold yY;rw[cE,aH];simp
def mi{d:aD}(h:ds[i]?=some d):(yY ds)[i]?=some (.tuple [.int (i:Int),d]):=by
 have b:=(AD.mp h).1;have:=xh (jF (lo:=0) b) h;rw[Int.zero_add]at this;exact this
theorem wks_enum{K:Kd}:Wks K (Ite t K l) (yY ds) λH=>∃xs,SqB t K H l xs/\DenAll K H ds xs where
 stop:=λH ⟨xs,q,g⟩=>⟨xs,q,by rw[cI,g.length];exact Mt _⟩
 go:=λi H h ⟨xs,q,g⟩=>by
  rw[cI]at h;exact⟨xs,xs[i]'(by rw[<-g.length];exact h),q,mT _⟩
 yld:=λi H x r h ⟨xs,q,g⟩ y=>by
  let⟨T,u,rfl,k,rfl,n⟩:=y;let⟨d,m,k1⟩:=g.get2 (n xs q);have c:∀b o,H b=some o->upd H T (.tup [.int i,u]) b=some o:=λb o q=>by rw[aA (bx q k)];exact q
  have j:Pers H _:=⟨λb xs q=>c b _ q,λb o u q=>c b _ q⟩;exact⟨c,_,mi m,fc (SqT.of aB) (DenAll.cons (vH _) (DenAll.cons (k1.mono j) DenAll.nil))⟩
theorem Oh(K:X.mg "enumerate" = none)(E:MA X [a] z)(D:Gl X "enumerate":=by rfl)(P:aac [a] X.env=[(false,eval a X.env)]:=by first|exact cU rfl|rfl):MI X (.Tuple f A w) (.Call (.Name "enumerate" p) [a] [] pos) (L6 z):=(Oy D K E P).wk<|by
 intro T H V ⟨L,m,U,G,O,b⟩;refine⟨L,m,_,G,O,λrs u vs C k n R rr F=>?_⟩;let⟨r,v,rfl,rfl,y,k⟩:=de rr k;rcases k with⟨t,ds,o,k⟩|⟨j,ds,rfl,o,k⟩
 rotate_left
 .obtain⟨p,ep,rfl⟩:=y;let⟨N,q,_⟩:=R.own j _ ds ep o;exact⟨false,p,rfl,⟨N,SqL.of q⟩,b _ u _ C k n R F ⟨p,ep,wks_enum.imp λH ⟨x,q,g⟩=>⟨x,SqL.of q,g⟩⟩⟩
 let⟨l,x,rfl,M,s,I⟩:=CW y o;refine⟨t,l,rfl,⟨x,s⟩,b _ u _ C k n R F ⟨λH=>∃x,SqB t X.kx H l x/\DenAll X.kx H ds x/\∀d,Pers H d->SqB t X.kx d l x,wks_enum.imp λH ⟨x,a,c,_⟩=>⟨x,a,c⟩,⟨x,s,M,I⟩,λS J ⟨x,a,c,B⟩ h=>⟨x,B J h,c.mono h,λd p=>B d (h.trans p)⟩⟩⟩
theorem xt(c:X.mg "enumerate" = none)(h:EA X [a] z)(b:Gl X "enumerate":=by rfl)(d:aac [a] X.env=[(false,eval a X.env)]:=by first|exact cU rfl|rfl):EI X (.Tuple f A w) (.Call (.Name "enumerate" p) [a] [] pos) (L6 z):=⟨Oh c h.h b d⟩
end
section
variable {X:Cx}
def V8:WC:=λrs m K=>on1 (λr=>∃ds ns,sqOf m r=some ds/\df ds=some ns/\ns≠[]/\∀x,x∈ns->(∀y∈ns,y≤x)->K (.imm (.int x))) rs
theorem jD(n:X.calm=true):d3 X (.builtin "max") (cM X.kx V8):=by
 intro p s b H A u Q I o ⟨D,m,B,C,rs,K,R,h,k,d⟩;let⟨r,v,rfl,rfl,j,ds,ns,z,q,c,k⟩:=de h k;let⟨a,E,rfl,f,g⟩:=j.seq R z;rw[iq q]at g;have w:=d6 g;subst w;have go:=λx j y=>d _ _ H (k x j y) R (gq _) (Frm.refl _ _);rcases f with f|f
 .exact uI n p s b H _ u Q I o ⟨false,a,ns,rfl,f,c,go⟩
 .exact uI n p s b H _ u Q I o ⟨true,a,ns,rfl,f,c,go⟩
def z7{m:MSt}{r:R}(b:sqOf m r=some ds)(c:df ds=some ns)(a:ns≠[])(h:∀x,x∈ns->(∀y∈ns,y≤x)->Kr (.imm (.int x))):V8 [r] m Kr:=⟨ds,ns,b,c,a,h⟩
end
open SeqAt in
open AutoSeq1 (wpAny_loadPart') in
theorem u8(l:Addr)(items:Array Ad)(n:Nat)(v:Option Addr)(sl:Array (Option Ad))(x:Ad)(e:Ad->Bool)(j:Nat)(F:j<items.size)(p:e items[j]=true)(q:∀m (G:m<items.size),m<j->e items[m]=false) :
  Meets (adc.«tuple.index» ⟨[.ref l,x],[]⟩)
   (λA R s=>s.heap.get? l=some {cls:=.type "tuple",dict:=v,data:=.seq items n,slots:=sl}/\(∀y,y∈items->EqAt A.in1 s y x (e y))/\R (.ok (.ret (.int j s.toks))) {s with toks:=s.toks+1}):=
 .of_wp λprog w A R s h=>by
  rcases s with⟨C,g,d,u,os⟩;rcases h with⟨D,E,h⟩
  (wp_walk using aeB D)
  refine(show wpAny (model prog w) A.in1 (forIn ([:min items.size items.size]:Std.Legacy.Range) _ _) _ _ _ from ?_);simp only[Std.Legacy.Range.forIn_eq_forIn_range'];have H:ahm (0:Nat) (min items.size items.size) 1=ahm 0 items.size 1:=by rw[ag4]
  refine aej _ (λrest (b:Option _×Unit) k=>b.1=none/\k=⟨C,g,d,u,os⟩/\∃i,i≤j/\rest=ahm i (items.size-i) 1) _ ?turn ?fin _ _ ?start
  case turn=>
   intro i rest b k ⟨B,rfl,c,o,f⟩;have a:c<items.size:=by omega
   have z:items.size-c=(items.size-(c+1))+1:=by omega
   rw[z,List.range'_succ]at f;cases f;rw[show items[i]?=some items[i]from ab0 a];refine gT (E items[i] (Array.getElem_mem a) prog w _ _ ?_)
   by_cases r:i=j
   .subst r;rw[p]
    wp_walk
    exact⟨_,rfl,h⟩
   .rw[q i a (by omega)]
    wp_walk
    exact⟨rfl,rfl,i+1,by omega,rfl⟩
  case fin=>
   intro⟨b1,b2⟩ k ⟨B,rfl,c,o,f⟩;have:=congrArg ab9 f;simp at this;omega
  case start=>
   refine⟨rfl,rfl,0,abw _,?_⟩;simp[Std.Legacy.Range.size]
section
variable {X:Cx}{o e:Expr}{b:List Expr}{w:WE}{p:WA}{l c:Pos}
abbrev wMT(a:WM)(w:WE)(p:WA):WE:=λm K=>w m λr m1=>(∃ds,r = .imm (.tuple ds))/\p m1 λrs m2=>a r rs m2 K
theorem YK{name:Str}{id:String}{E:WM}(slot:Slot "tuple" name id)(z:agK (.builtin id)=pure (.type "method_descriptor"))(P:MtM X id (mM X.kx E))(O:ME X o w)(M:MA X (e::b) p)
  (d:abv o name X.env (eval o X.env)=eval o X.env:=by rfl)
  (q:((abn c (aac (e::b) X.env)).all (λx=>!x.1)&&(ac4 c (abY [] X.env)).all (λx=>x.1.isSome)
   && decide ((e::b).length+([]:List adm).length+(if ([]:List adm).isEmpty then 0 else 1)<30))=true:=by rfl)
  (j:(l.endLine==c.line)=true:=by rfl) (V:aac (e::b) X.env=(false,eval e X.env)::aac b X.env:=by first|exact aI rfl|rfl) (h:(abn c (aac b X.env)).any (·.1)=false:=by rfl) :
  ME X (.Call (.Attribute o name l) (e::b) [] c) (wMT E w p):=(Pc PySem.F.plainAttrs_tuple slot z P O M d q j V h).wk<|by
 intro N H Q ⟨D,m,S,G,U,B⟩;refine⟨D,m,_,G,U,λr m1 v L k n1 R rr I=>?_⟩;let⟨⟨ds,rfl⟩,k⟩:=k;let⟨a,J,rfl,f,g⟩:=bO (rr);refine⟨.inr (.inl ⟨rfl,J,f⟩),D,m1,_,R,k,λrs m2 vs W k2 n2 s A u=>?_⟩;exact⟨D,m2,N,H,L,.imm _,rs,S,s,rr.keep G R u,A,k2,λr K v T k n C y F=>B r K v T k (n.trans (n2.trans n1)) C (y.base s (I.trans u)) ((I.trans u).trans F)⟩
theorem J8{name:Str}{id:String}{j:WM}(slot:Slot "tuple" name id)(g:agK (.builtin id)=pure (.type "method_descriptor"))(k:MtM X id (mM X.kx j))(n:EE X o w)(m:EA X (e::b) p)
  (d:abv o name X.env (eval o X.env)=eval o X.env:=by rfl)
  (f:((abn c (aac (e::b) X.env)).all (λx=>!x.1)&&(ac4 c (abY [] X.env)).all (λx=>x.1.isSome)
   && decide ((e::b).length+([]:List adm).length+(if ([]:List adm).isEmpty then 0 else 1)<30))=true:=by rfl)
  (a:(l.endLine==c.line)=true:=by rfl) (q:aac (e::b) X.env=(false,eval e X.env)::aac b X.env:=by first|exact aI rfl|rfl) (h:(abn c (aac b X.env)).any (·.1)=false:=by rfl) :
  EE X (.Call (.Attribute o name l) (e::b) [] c) (wMT j w p):=⟨YK slot g k n.h m.h d f a q h⟩
def x_ts{P:Prop}(h:P):(∃b,R.imm (.tuple ds) = .imm (.tuple b))/\P:=⟨⟨ds,rfl⟩,h⟩
def B6:WM:=λr rs m K=>on1 (iA λd=>∃ds j,r = .imm (.tuple ds)/\d.canLay0=true/\aby ds=true/\d.depth≤60/\(∃y,ds[j]?=some y/\aaj y d=true)/\(∀(i:Nat) y,i<j->ds[i]?=some y->aaj y d=false)/\K (.imm (.int (j:Nat))) m) rs
theorem pf(hu:X.A.units+64<cLine):MtM X "tuple.index" (mM X.kx B6):=by
 intro T s σ' H x xs v us Q I rx rv ⟨α,m,σ,H0,H1,r,rs,Kc,Rl,h1,L,B,G⟩;let⟨r2,v2,rfl,rfl,L,B⟩:=de L B;let⟨d,rfl,hd,ds,j,rfl,P,K,dp,⟨y,U,eq⟩,J,B⟩:=eF L B;let⟨a,zs,rfl,f,g⟩:=bO (show Den X.kx H (.tuple ds) x from h1);cases rx;let⟨u,rfl,W⟩:=rv.one;let⟨bs,qd⟩:=Den.reads I (abh _ P) hd W;let⟨h,M,⟨o,A,S,F,n,k⟩,hz⟩:=I.tupleP f;let⟨as,D⟩:=DenAll.reads I (acP _ K) g M;have hm:X.A.units+1+min (aaC ds) d.depth<cLine:=by have:=afA (aaC ds) d.depth;omega
 have q:=SeqAt.readsAll_map ds _ _ K D;have V:h.length=ds.length:=by rw[<-q,iO]
 have R:j<h.length:=by rw[V];exact(AD.mp U).1
 have O:∀(i:Nat) (E:i<h.length) y,ds[i]?=some y->afT s.heap h[i]=y:=λi E y e=>by
  rw[<-q,aao,mT E]at e;exact aar e
 let⟨Y,dd,N,Z⟩:=o;dsimp only at S k;subst S;subst k;refine acX adG ⟨_,A,rfl⟩ PySem.F.entry_tuple_index (PySem.F.args_tuple_index_2 _ _)
  (u8 a h.toArray _ dd Z u (λy=>aaj (afT s.heap y) d) j (by simpa using R) ?_ ?_) ⟨A,SeqAt.items_eqAt (by simpa using D) qd K P hm,?_⟩
 .show aaj (afT s.heap h[j]) d=true;rw[O j R y U];exact eq
 .intro i E hlt;have C:i<h.length:=by simpa using E
  show aaj (afT s.heap h[i]) d=false;have z:i<ds.length:=by rw[<-V];exact C
  rw[O i C _ (mT z)];exact J i _ hlt (mT z)
 .exact⟨.int (j:Nat),H,I.tok _,⟨_,rfl⟩,G _ _ _ H B rfl Rl (gq _) (Frm.refl _ _)⟩
def x8{m:MSt}{d y:aD}{j k k':Nat}{K:R->MSt->Prop}(s1:Shp k d)(s2:∀y∈ds,Shp k' y)(f:k≤60)(g:ds[j]?=some y)(eq:aaj y d=true)(a:∀(i:Nat) y,i<j->ds[i]?=some y->aaj y d=false)(h:K (.imm (.int (j:Nat))) m):B6 (.imm (.tuple ds)) [.imm d] m K:=
 ⟨ds,j,rfl,s1.cl,(kZ s2).1,aax s1.dp f,⟨y,g,eq⟩,a,h⟩
end
def yC:fillsNumberSlot (.type "tuple") "mul" = pure false:=
 PySem.fillsNumberSlot_seq ad6.lookup rfl afC.lookup rfl
def Qp:seqRepeat? (.type "tuple")=pure (some (.builtin "tuple.__mul__")):=by
 unfold seqRepeat?;rw[ahf (name:= "__mul__") ad6.lookup rfl,ahf (name:= "__rmul__") afC.lookup rfl];rfl
def GM(a:Int)(t:Tok)(l:Addr)(items:Array Ad)(n:Nat)(d:Option Addr)(sl:Array (Option Ad)) :
  Meets (adc.«int.__rmul__» ⟨[.int a t,.ref l],[]⟩) (λ_ R s=>s.heap.get? l=some {cls:=.type "tuple",dict:=d,data:=.seq items n,slots:=sl}/\R (.ok (.ret Ad.notImplemented)) s):=
 .of_wp λprog w A R s h=>by
  rcases h with⟨b,h⟩
  wp_walk
  exact⟨_,rfl,h⟩
open AutoSeq1 (wpAny_loadPart') in
theorem QY(l:Addr)(items:Array Ad)(n:Nat)(D:Option Addr)(sl:Array (Option Ad))(k:Int)(t:Tok)(H:0≤k)(I:k<2^20)(G:items.size*k.toNat≤1000000) :
  Meets (adc.«tuple.__mul__» ⟨[.ref l,.int k t],[]⟩) (λ_ R s=>s.heap.get? l=some {cls:=.type "tuple",dict:=D,data:=.seq items n,slots:=sl}/\
   if (items.isEmpty||k==1)=true then R (.ok (.ret (.ref l))) s else R (.ok (.ret (.ref s.heap.objs.size))) {s with heap:=s.heap.push {cls:=.type "tuple",data:=.seq ((aaz k.toNat items).foldl (λf x=>f++x) #[])} }):=
 .of_wp λprog w A R s h=>by
  rcases s with⟨v,g,d,u,os⟩;rcases h with⟨r,h⟩
  (wp_walk using aeB r)
  have z:(⟨v,g,d,u,os⟩:Io).TypeIs (.ref l) "tuple":=(⟨_,r,rfl⟩);have o:IsTup (⟨v,g,d,u,os⟩:Io).heap l items:=⟨_,r,rfl,n,rfl⟩;have B:((items.size:Nat):Int)*k≤1000000:=by
   have y:k=((k.toNat:Nat):Int):=by omega
   rw[y,<-adN];omega
  rw[if_neg (show ¬_ by simp only[decide_eq_true_eq,af6];omega)];refine gT (agE o ?_)
  by_cases j:(items.isEmpty||k==1)=true
  .rw[if_pos j]at h⊢;refine gT ?_;unfold aeX;refine gT (acV z (LD ?_));rw[if_pos (by rfl)];exact gT (acs (LD ⟨_,rfl,h⟩))
  .rw[if_neg j]at h⊢;have E:items.isEmpty=false:=by
    cases q:items.isEmpty with
    |false=>rfl
    |true=>rw[q]at j;exact(j rfl).elim
   by_cases p:k=0
   .subst p;show wpAny _ _ (if (decide ((0:Int)≤0)||items.isEmpty)=true then _ else _) _ _ _;rw[if_pos (by rfl)];exact gT (m:=abK #[]) (aa9 (LD ⟨_,rfl,h⟩) (by show(0:Nat)≤aam;exact abw _))
   have F:(decide (k≤0)||items.isEmpty)=false:=by rw[E,decide_eq_false (by omega)];rfl
   have b:∀(m:Nat) (a:Array Ad),(ahu (λf x=>f++x) a (aaz m items)).size=a.size+m*items.size:=by
    intro m
    induction m with
    |zero=>intro a;simp
    |succ m C=>intro a;rw[ach,aev,C,Array.size_append,aeK];omega
   have c:((aaz k.toNat items).foldl (λf x=>f++x) #[]).size≤aam:=by
    rw[b,aag,aeI];simp;omega
   show wpAny _ _ (if (decide (k≤0)||items.isEmpty)=true then _ else _) _ _ _;rw[if_neg (by rw[F];exact aai)];show wpAny _ _ (if ((items.size:Nat):Int)*k>(2^63-1)/8 then _ else _) _ _ _;rw[if_neg (by omega)];show wpAny _ _ (if ae1 (((items.size:Nat):Int)*k)=true then _ else _) _ _ _;rw[if_neg (by unfold ae1;rw[decide_eq_true_eq,aag];omega)];exact gT (m:=abK _) (aa9 (LD ⟨_,rfl,h⟩) c)
section
variable {X:Cx}
def Xr(K:aad):R2:=λx y H Q=>∃a b k,x = .ref a/\y = .int k/\SqT K H a b/\0≤k/\k<2^20/\b.length*k.toNat≤1000000/\
 if (b.isEmpty||k==1)=true then Q (.ref a) H else ∀p,H p=none->Q (.ref p) (upd H p (.tup (aaz k.toNat b).flatten))
theorem Md:OpR X (ab8 .Mult) (Xr X.K):=by
 intro C s R H x y v u Q I L F h;let⟨a,d,k,rfl,rfl,O,K,N,E,q⟩:=h;cases L;let⟨t,rfl⟩:=F;let⟨c,r,⟨o,j,g,hd,n,f⟩,J⟩:=I.tupleP O;let⟨G,B,z,A⟩:=o;dsimp only at g f;subst g f;have w:d.length=c.length:=r.length;have p:c.toArray.isEmpty=d.isEmpty:=by
  cases c with
  |nil=>have:d=[]:=abr (by simpa using w);subst this;rfl
  |cons _ _=>cases d with
   |nil=>simp at w
   |cons _ _=>rfl
 have m:=by
  have:=m7 c k.toNat [];omega
 refine ae8 (T:= "tuple") (U:= "int") (by decide) ⟨_,j,rfl⟩ (λD=>afP D k t) yC PySem.F.fills_int_mul agc Qp PySem.F.slot_int_index.lookup
  (acX agc (afP s k t) PySem.F.entry_int_rmul (PySem.F.args_int_rmul_2 _ _) (GM k t a c.toArray n B A)
   ⟨j,rfl,⟨_,j,rfl⟩,acX ad6 ⟨_,j,rfl⟩ PySem.F.entry_tuple_mul (PySem.F.args_tuple_mul_2 _ _) (QY a c.toArray n B A k t K N (by rw[aaK,<-w];exact E)) ⟨j,?_⟩⟩)
 rw[p,m]
 by_cases g:(d.isEmpty||k==1)=true
 .rw[if_pos g]at q⊢;exact⟨.ref a,H,I,rfl,q⟩
 .rw[if_neg g]at q⊢;have M:H s.heap.objs.size=none:=I.hok.fresh (Mt _);refine⟨.ref s.heap.objs.size,_,I.laid (t':=s.toks) (o:=.tup (aaz k.toNat d).flatten) (λb P e=>GT _ e) (Mt _) ⟨?_,_,r.rep k.toNat,PlainT.new _ _⟩,rfl,q _ M⟩;rw[Cz,aeI,aag];omega
def Bi:WO
 | .imm (.int i),.imm (.int j),_,K=>agW i j/\K (.imm (.int (i*j)))
 | .imm (.tuple ds),.imm (.int k),_,K=>0≤k/\k<2^20/\ds.length*k.toNat≤1000000/\K (.imm (.tuple (aaz k.toNat ds).flatten))
 | .new ds,.imm (.int k),_,K=>0≤k/\k<2^20/\ds.length*k.toNat≤1000000/\K (.new (aaz k.toNat ds).flatten)
 |_,_,_,_=>False
theorem jW{K:Kd}{H:Hp}{ds:List aD}{xs:List V}(g:DenAll K H ds xs):∀k:Nat,DenAll K H (aaz k ds).flatten (aaz k xs).flatten
 |0=>by simp[ DenAll]
 |k+1=>by rw[ ach];exact g.append (jW g k)
theorem cc:OpR X (ab8 .Mult) (rM X.kx Bi):=by
 intro b s o H x y v u Q I A r ⟨J,m,F,G,D,r1,L,K,R,z,B,h,c⟩;unfold Bi at h
 split at h
 .rename_i i j;exact NT b s o H x y v u Q I A r ⟨J,m,F,G,D,.imm (.int i),.imm (.int j),K,R,z,B,h,c⟩
 .rename_i ds k;let⟨k1,k2,C,h⟩:=h;let⟨a,q,rfl,f,g⟩:=bO (show Den X.kx H (.tuple ds) x from z);have w:=aF (show Den X.kx H (.int k) y from B);subst w;refine Md b s o H _ _ v u Q I A r ⟨a,q,k,rfl,rfl,f,k1,k2,by rw[<-g.length];exact C,?_⟩
  by_cases n:(q.isEmpty||k==1)=true
  .rw[if_pos n];refine c _ _ H h R (j2 (fc f ?_)) (Frm.refl _ _);have e:(aaz k.toNat ds).flatten=ds:=by
    rw[af6]at n;rcases n with n|n
    .have hx:q=[]:=List.isEmpty_iff.mp n;have hd:ds=[]:=abr (by rw[g.length,hx];rfl);subst hd;simp
    .simp_all
   rw[e];exact g
  .rw[if_neg n];exact λp d=>c _ _ _ h (R.lay d) (j2 (fc (SqT.of aB) ((jW g k.toNat).mono (bu (.inl d))))) (cu d)
 .rename_i ds k;let⟨k1,k2,C,h⟩:=h;let⟨a,q,rfl,M,E,g⟩:=z;have w:=aF (show Den X.kx H (.int k) y from B);subst w;refine Sj b s o H _ _ v u Q I A r ⟨a,k,q,rfl,rfl,E,by omega,by omega,by rw[<-g.length,aag];omega,λp d=>?_⟩;exact c _ _ _ h (R.lay d) ⟨p,_,rfl,d,aB,(jW g k.toNat).mono (bu (.inl d))⟩ (cu d)
 .exact h.elim
def MQ{m:MSt}{i j:Int}(a:agW i j)(h:Kr (.imm (.int (i*j)))):Bi (.imm (.int i)) (.imm (.int j)) m Kr:=⟨a,h⟩
def WN{m:MSt}{k:Int}(a:0≤k)(c:k<2^20)(b:ds.length*k.toNat≤1000000)(h:Kr (.imm (.tuple (aaz k.toNat ds).flatten))):Bi (.imm (.tuple ds)) (.imm (.int k)) m Kr:=⟨a,c,b,h⟩
def Wr{m:MSt}{k:Int}(a:0≤k)(c:k<2^20)(b:ds.length*k.toNat≤1000000)(h:Kr (.new (aaz k.toNat ds).flatten)):Bi (.new ds) (.imm (.int k)) m Kr:=⟨a,c,b,h⟩
end
end L2
namespace K
open PySem L2 M7
variable{l:List Nat}{h:Hall}{r:Rule}{t:Nat}
inductive Mv where
 |come (o:List Nat)|done (k:Nat)|still
def Mv.d:Mv->aD
 | .come o=>.tuple [.str "come",lnD o]
 | .done k=>.tuple [.str "done",.int (k:Int)]
 | .still=>.tuple [.str "still"]
def Mv.Ok(h:Hall):Mv->Prop
 | .come o=>Ord h.ss.length o
 | .done k=>k<h.ss.length
 | .still=>True
inductive Wd where
 |taken|away|served|none
def Wd.s:Wd->Str
 | .taken=> "taken" | .away=> "away" | .served=> "served" | .none=> "none"
def Hall.rn(h:Hall)(k:Nat):Nat:=h.rs.getD k 0
def ji(h:Hall)(l:List Nat)(k:Nat):List Nat×Wd:=if l.getD k 0=h.rn k then(l,.away)else(l.set k (l.getD k 0+1),.taken)
def je(l:List Nat)(k:Nat):List Nat×Wd:=if l.getD k 0=0 then(l,.none)else(l.set k (l.getD k 0-1),.served)
def idx(l:List Nat)(x:Nat):Nat:=l.findIdx (λy=>y==x)
def maxN(l:List Nat):Nat:=l.foldl max 0
def fz(h:Hall)(l:List Nat):Option (Nat×Nat):=if h.mv=true/\0∈l/\2≤maxN l then some (idx l (maxN l),idx l 0)else none
def dE(l:List Nat)(p:Nat×Nat):List Nat:=(l.set p.1 (l.getD p.1 0-1)).set p.2 ((l.set p.1 (l.getD p.1 0-1)).getD p.2 0+1)
def fI(h:Hall):Nat->List Nat->List Nat
 |0,l=>l
 |n+1,l=>match fz h l with
  |none=>l
  |some p=>fI h n (dE l p)
def p8(h:Hall)(l:List Nat):List Nat:=fI h (l.count 0) l
theorem lU:∀(l:List Nat) (a:Nat),a≤l.foldl max a/\(∀x∈l,x≤l.foldl max a)/\(l.foldl max a=a\/l.foldl max a∈l)
 |[],a=>⟨Mt _,(λ_ h=>by cases h),.inl rfl⟩
 | y::l,a=>by
  let⟨c,d,e⟩:=lU l _;refine⟨aax (aey a y) c,λx b=>?_,?_⟩
  .rcases aae.mp b with rfl|b
   .exact aax (Nat.le_max_right a x) c
   .exact d x b
  .grind
def CN:∀x∈l,x≤maxN l:=(lU l 0).2.1
theorem qk(h:l≠[]):maxN l∈l:=by
 rcases (lU l 0).2.2 with e|e
 .cases l with
  |nil=>exact(h rfl).elim
  |cons x l=>
   have:x≤maxN (x::l):=CN x aaa;have a:maxN _=0:=e
   grind
 .exact e
theorem kJ{x:Nat}(h:x∈l):l[idx l x]?=some x/\∀i y,i<idx l x->l[i]?=some y->y≠x:=by
 have a:idx l x<l.length:=List.findIdx_lt_length_of_exists ⟨x,h,by simp⟩;refine⟨?_,λi y b c e=>?_⟩
 .rw[mT a];have:=List.findIdx_getElem (w:=a);simp at this;exact congrArg some this
 .have:=List.not_of_lt_findIdx b
  grind
theorem dJ(a b:Nat):aaj (.int (a:Int)) (.int (b:Int))=decide (a=b):=by
 simp[aaj]
 by_cases h:a=b
 .subst h;simp
 .have:¬_:=λz=>h (Int.ofNat.inj z)
  simp_all
def cN(l:List Nat):∀y∈natD l,Shp 0 y:=λy a=>by
 let⟨x,_,rfl⟩:=aap.mp a;exact dW _
def JF(l:List Nat)(k x:Nat):(natD l).set k (.int (x:Int))=natD (l.set k x):=by
 unfold natD;rw[List.map_set]
def xW:SpM:=λa K=>∃(l:List Nat) (k:Nat) (d:Int) (x:Nat),a=[.imm (lnD l),.imm (.int (k:Int)),.imm (.int d)]/\k<l.length/\l.length≤1000/\(l.getD k 0:Int)+d=(x:Int)/\K (.imm (lnD (l.set k x))) []
def lwD(p:List Nat×Wd):aD:=.tuple [lnD p.1,.str p.2.s]
def LL:SpM:=λa K=>∃(h:Hall) (l:List Nat) (k:Nat),a=[.imm h.d,.imm (lnD l),.imm (.int (k:Int))]/\h.Ok/\Lines h l/\k<h.ss.length/\K (.imm (lwD (ji h l k))) []
def LH:SpM:=λa K=>∃(l:List Nat) (k:Nat),a=[.imm (lnD l),.imm (.int (k:Int))]/\k<l.length/\l.length≤1000/\K (.imm (lwD (je l k))) []
def optP:Option (Nat×Nat)->aD
 |none=>.none
 |some p=>.tuple [.int (p.1:Int),.int (p.2:Int)]
def Bg:SpM:=λa K=>∃(h:Hall) (l:List Nat),a=[.imm h.d,.imm (lnD l)]/\l≠[]/\l.length≤1000/\K (.imm (optP (fz h l))) []
def tQ:SpM:=λa K=>∃(h:Hall) (l:List Nat),a=[.imm h.d,.imm (lnD l)]/\l≠[]/\l.length≤1000/\K (.imm (lnD (p8 h l))) []
theorem jO{p:Nat×Nat}(e:fz h l=some p):h.mv=true/\l[p.1]?=some (maxN l)/\2≤maxN l/\l[p.2]?=some 0/\p.1≠p.2:=by
 unfold fz at e
 split at e
 .rename_i q;let⟨c,b,d⟩:=q;have a:l≠[]:=λz=>by rw[z]at b;cases b
  have s1:=(kJ (qk a)).1;have s:=(kJ b).1
  grind
 .cases e
theorem ph{p:Nat×Nat}(e:fz h l=some p):dE l p=(l.set p.1 (maxN l-1)).set p.2 1/\p.1<l.length/\p.2<l.length/\(dE l p).count 0+1=l.count 0/\(dE l p).length=l.length:=by
 let⟨s,b,u,a,i⟩:=jO e;have g:=(AD.mp b).1;have d:=(AD.mp a).1;have n:l.getD p.1 0=maxN l:=bJ b;have m:(l.set p.1 (maxN l-1)).getD p.2 0=0:=bJ (by rw[aaR i];exact a);have f:dE l p=(l.set p.1 (maxN l-1)).set p.2 1:=by unfold dE;rw[n,m]
 have j:=by rw[mT g]at b;exact aar b
 have k:l[p.2]=0:=by rw[mT d]at a;exact aar a
 refine⟨f,g,d,?_,by rw[f,abt,abt]⟩;have q:0<l.count 0:=List.count_pos_iff.mpr (Ld a);have c:p.2<(l.set p.1 (maxN l-1)).length:=by rw[abt];exact d
 have v:(l.set p.1 (maxN l-1))[p.2]=0:=by rw[adu i];exact k
 rw[f,List.count_set c,List.count_set g,v,j];have d1:(maxN l==0)=false:=by simp;omega
 have o:(maxN l-1==0)=false:=by simp;omega
 simp_all
theorem t5(e:fz h l=none):∀n,fI h n l=l
 |0=>rfl
 |n+1=>by simp[fI,e]
def Fh(h:Hall)(r:Rule)(t:Nat):Nat:=match r with
 | .turns=>(t+1)%h.ss.length
 |_=>t
def Cq:SpM:=λa K=>∃(h:Hall) (r:Rule) (t:Nat),a=[.imm h.d,.imm r.d,.imm (.int (t:Int))]/\h.Ok/\K (.imm (.int (Fh h r t:Nat))) []
def Iu(h:Hall)(r:Rule)(l:List Nat)(t:Nat):Mv->aD
 | .come o=>.int (sent h r l t o:Nat)
 | .done k=>.int (k:Int)
 | .still=>.none
def wD:SpM:=λa K=>∃(h:Hall) (r:Rule) (l:List Nat) (t:Nat) (mv:Mv),a=[.imm h.d,.imm r.d,.imm (stD l t),.imm mv.d]/\h.Ok/\r.Ok h/\Lines h l/\mv.Ok h/\K (.imm (Iu h r l t mv)) []
def ze(h:Hall)(r:Rule)(l:List Nat)(t:Nat):Mv->List Nat×Nat×Wd
 | .come o=>(p8 h (ji h l (sent h r l t o)).1,Fh h r t,(ji h l (sent h r l t o)).2)
 | .done k=>(p8 h (je l k).1,t,(je l k).2)
 | .still=>(p8 h l,t,.none)
def mvD(p:List Nat×Nat×Wd):aD:=.tuple [stD p.1 p.2.1,.str p.2.2.s]
def Av:SpM:=λa K=>∃(h:Hall) (r:Rule) (l:List Nat) (t:Nat) (mv:Mv),a=[.imm h.d,.imm r.d,.imm (stD l t),.imm mv.d]/\h.Ok/\r.Ok h/\Lines h l/\mv.Ok h/\(r = .turns->t<h.ss.length)/\K (.imm (mvD (ze h r l t mv))) []
theorem Cg{o:List Nat}(g:h.Ok)(c:r.Ok h)(e:Lines h l)(a:Ord h.ss.length o)(d:r = .turns->t<h.ss.length):sent h r l t o<h.ss.length:=by
 cases r with
 |random=>let⟨k,k1,rfl,f⟩:=a.cons;exact f
 |turns=>exact d rfl
 |two=>exact m9 a 2
 |least=>have:=m9 (lt:=fj l) a o.length;rw[aat]at this;exact this
 |quick=>have:=m9 (lt:=c9 h l) a o.length;rw[aat]at this;exact this
 |told p=>
  have b:placeF 0 h.rs l<p.length:=by rw[c.1,allR_cnt];exact place_lt e.fits
  exact c.2 _ (Ld (getN rfl b))
theorem Lines.set{k x:Nat}(a:Lines h l)(f:∀s,h.ss[k]?=some s->x≤s.r):Lines h (l.set k x):=by
 refine⟨by rw[abt];exact a.1,λi s y e c=>?_⟩
 by_cases b:k=i
 .subst b;have d:k<l.length:=by rw[a.1];exact(AD.mp e).1
  simp_all
 .rw[aaR b]at c;exact a.2 i s y e c
def Lines.at{k:Nat}(b:Lines h l)(a:k<h.ss.length):∃s,h.ss[k]?=some s/\l.getD k 0≤s.r/\h.rn k=s.r/\s∈h.ss:=by
 let⟨s,e,d,eb,c⟩:=h.srv a;exact⟨s,e,b.2 k s _ e (getN b.1 a),bJ (Hall.rs_get e),c⟩
theorem y8{k:Nat}(a:Lines h l)(b:k<h.ss.length):Lines h (ji h l k).1:=by
 let⟨s,g,c,e,i⟩:=a.at b;unfold ji;split
 .omega
 .refine a.set λd f=>?_
  grind
theorem yV{k:Nat}(a:Lines h l)(b:k<h.ss.length):Lines h (je l k).1:=by
 let⟨s,g,c,e,i⟩:=a.at b;unfold je;split
 .omega
 .refine a.set λd f=>?_
  grind
theorem jq{h:Hall}(c:h.Ok):∀(n:Nat) (l:List Nat),Lines h l->Lines h (fI h n l)
 |0,l,hL=>hL
 | n+1,l,hL=>by
  simp[fI]
  cases e:fz h l with
  |none=>exact hL
  |some p=>
   let⟨d,f,g,i,b⟩:=ph e;let⟨k,m1,m2,j,m⟩:=jO e;refine jq c n _ ?_;rw[d];refine(hL.set λs a=>?_).set λs a=>(c.ok s (Ld a)).r1;have:=hL.2 p.1 s _ a m1;omega
def gN(b:h.Ok)(a:Lines h l):Lines h (p8 h l):=jq b _ _ a
structure St(h:Hall)(r:Rule)(l:List Nat)(t:Nat):Prop where
 ln:Lines h l
 tn:r = .turns->t<h.ss.length
 ts:t<4
theorem Gn(a:h.Ok)(b:t<4)(c:r = .turns->t<h.ss.length):(r = .turns->Fh h r t<h.ss.length)/\Fh h r t<4:=by
 have n1:=a.n1;have n4:=a.n4
 cases r with
 |turns=>
  have:=ahx (t+1) (show h.ss.length>0 by assumption);exact⟨λ_=>this,by show(t+1)%h.ss.length<4;exact aas ‹_› ‹_›⟩
 |_=>exact⟨(λz=>by cases z),b⟩
theorem sg(a:h.Ok)(c:r.Ok h)(S:St h r l t){mv:Mv}(b:mv.Ok h):St h r (ze h r l t mv).1 (ze h r l t mv).2.1:=by
 cases mv with
 |come o=>
  have:=Gn a S.ts S.tn;exact⟨gN a (y8 S.ln (Cg a c S.ln b S.tn)),this.1,this.2⟩
 |done k=>exact⟨gN a (yV S.ln b),S.tn,S.ts⟩
 |still=>exact⟨gN a S.ln,S.tn,S.ts⟩
def zer(h:Hall):List Nat:=aaz h.ss.length 0
def jn(a:h.Ok)(r:Rule):St h r (zer h) 0:=by
 refine⟨⟨by simp[zer],λi s x b e=>?_⟩,λ_=>a.n1,by decide⟩;have:=by
  have:=Ld e;exact(List.mem_replicate.mp this).2
 omega
def Cf:SpM:=λa K=>∃h:Hall,a=[.imm h.d]/\h.Ok/\K (.imm (stD (zer h) 0)) []
end K
namespace L2
open PySem PySem.Spec PyProof.Rows
variable{l:Addr}{vs:List Ad}{Q:Ad->Io->Prop}{ns:List Int}{ds:List aD}
section
variable {prog:aaI}{w:World}{A:abc}{E:Ad->Io->Prop}{s:Io}
abbrev colH(h:aaQ)(vs:List Ad):aaQ:=(h.push (acS "list" #[] 0)).update h.objs.size (acw (·++vs.toArray))
abbrev srtH(h:aaQ)(vs:List Ad):aaQ:=(colH h vs).push (acS "list" vs.toArray 0)
def sI(h:aaQ)(vs:List Ad):(colH h vs).objs.size=h.objs.size+1:=(aek ..).trans (size_push' ..)
def Nr(h:aaQ)(vs:List Ad):(srtH h vs).get? (h.objs.size+1)=some (acS "list" vs.toArray 0):=by
 have e:(srtH h vs).get? (colH h vs).objs.size=some (acS "list" vs.toArray 0):=aak _ rfl;rwa[sI]at e
def O8{d:Addr}{o:Obj}{P:PySem.Fin->Io->Prop}(hd:s.heap.get? d=some (acS "list" #[] 0))(a:s.heap.get? l=some o)(c:o.cls = .type "tuple"){n:Nat}(b:o.data = .seq vs.toArray n)(hsz:vs.length≤aam)
  (h:P (.done (.ret (.ref d))) {s with heap:=s.heap.update d (acw (·++vs.toArray))}):wpAny (model prog w) A (aeL (.ref d) (.ref l) (.ref d)) P E s:=by
 have fits:(#[]++vs.toArray:Array Ad).size≤aam+1:=by simp;omega
 refine gT (m:=agK (.ref l)) (acV (T:= "tuple") ⟨o,a,c⟩ ?_);rw[if_pos (show(adH (abk d) (abk l)||_||acU "tuple" == acU "tuple")=true from Bool.or_eq_true_iff.mpr (.inr rfl))];refine gT (ag5 a b (gT (ag5 (xs:=#[]) (n:=0) hd rfl ?_)));rw[if_neg (show ¬_ by simp)];exact gT (afp (xs:=#[]) (n:=0) hd rfl (LD h) (abw _) fits)
def u5{Q:List Ad->Io->Prop}(b:s.heap.IsTuple l vs.toArray)
  (h:Q vs {s with heap:=colH s.heap vs}) (hsz:vs.length≤aam):wpAny (model prog w) A (collect (.ref l)) Q E s:=by
 let⟨o,d,c,nn,hd⟩:=id b;have new:(s.heap.push (acS "list" #[] 0)).get? s.heap.objs.size=some (acS "list" #[] 0):=aak _ rfl;have a:(colH s.heap vs).get? s.heap.objs.size=some _:=get?_update_seq new (·++vs.toArray);have all:((#[]:Array Ad)++vs.toArray).toList=vs:=by simp
 refine gT (m:=runValue _) (wpAny_runValue (ac6 entry_proto_collect' (gT (m:=ag2 []) (afq (LD ⟨Code.quiet_builtin _ (by decide +kernel),ac6 entry_list_iadd' ?_⟩)))));refine O8 (s:={s with heap:=s.heap.push (acS "list" #[] 0)}) new (GT _ d) c hd hsz (gT (m:=load s.heap.objs.size) (wpAny_load a ?_));exact LD (all.symm▸h)
def yh{k:List (Str×Ad)}(a:s.heap.IsTuple l vs.toArray\/s.heap.IsList l vs.toArray)(hsz:vs.length≤aam)
  (h:wpAny (model prog w) A (call (.builtin "list.sort") [.ref (s.heap.objs.size+1)] k) (λ_ s'=>Q (.ref (s.heap.objs.size+1)) s') E {s with heap:=srtH s.heap vs}) :
  wpAny (model prog w) A (adc.«sorted» ⟨[.ref l],k⟩) (λf s'=>∃v,f = .done (.ret v)/\Q v s') E s:=by
 have c:∀{P:List Ad->Io->Prop},P vs {s with heap:=colH s.heap vs}->wpAny (model prog w) A (collect (.ref l)) P E s:=λp=>a.elim (λt=>u5 t p hsz) λt=>collect_list t p hsz;refine gT (m:=checkCount "sorted" 1 1 _) (LD (gT (c (gT (m:=ag2 vs) (afq ?_)))));have e:(ahl {s with heap:=colH s.heap vs}).objs.size=s.heap.objs.size+1:=sI ..;rw[e];exact gT (m:=adl _ _) (abR (acr h (λ_ s' q=>LD ⟨_,rfl,q⟩) λ_ _ z=>z))
def oj{b:Bool}(d:s.heap.IsTuple l vs.toArray)(c:aeH vs ns)(a:vs.length<64)
  (h:∀(out:Array Ad) (n:List Int),aeH out.toList n->n.Perm ns->Ordered b n->Q (.ref (s.heap.objs.size+1)) {s with heap:=sortedAll s.heap vs out}):wpAny (model prog w) A (call (.builtin "sorted") [.ref l] [(abO "reverse",.bool b)]) Q E s:=by
 have at1:=Nr s.heap vs;refine call_function_entry_kw kind_sorted plain_sorted entry_sorted (args_sorted_rev _ _) (yh (A:=A.in1) (.inl d) (by rw[aag];omega) ?_);exact wpAny_call_entry_kw slot_list_sort ⟨_,at1,rfl⟩ entry_list_sort (list_sort_tree_rev at1 c a λout n p q r=>⟨_,rfl,h out n p q r⟩) (args_list_sort_rev _ _)
end
section
variable {X:Cx}{a:Expr}{b:List Expr}{w:WA}{pos p c d:Pos}
def Xi(K:aad):List V->Hp->VK->Prop:=λx H Q=>∃(t:Bool) (l:Addr) (ns:List Int),x=[.ref l]/\SqB t K H l (ns.map V.int)/\Q (.int ns.sum) H
theorem nt(ns:List Int):∀n,n≤ns.length->preSum (λi=>ns.getD i 0) n=(ns.take n).sum
 |0,_=>by simp[preSum]
 |n+1,h=>by
  show preSum _ n+ns.getD n 0=_;have e:=by omega
  rw[nt ns n (by exact acD ‹_›),abb,mT e,bJ (mT e),List.sum_append];simp
theorem tj(z:X.calm=true):d3 X (.builtin "sum") (Xi X.K):=by
 intro k s K H F J Q I x ⟨t,l,ns,ex,D,q⟩;subst ex;let⟨u,rfl,m⟩:=x.one;cases m;let⟨f,r,n,_⟩:=I.sqb D;have E:=fq r;have C:f.length=ns.length:=by have:=r.length;grind
 refine call_sum_walkG (xT n λs2 e y j g=>?_);subst e;refine⟨s.heap.objs.size,[s.heap.objs.size,l],[s.heap.objs.size],f.toArray.size,λi v=>f.toArray[i]?=some v,λi h=>SubI t h s.heap.objs.size l i/\SubS t h l f.toArray,λi=>ns.getD i 0,rfl,uB (A:=X.A.in1) t (I.ok.hd z) _ l g f.toArray,y,j,vY E,λG o t' B=>?_⟩;have e:preSum (λi=>ns.getD i 0) f.toArray.size=ns.sum:=by
  rw[aaK,C,nt ns ns.length (Mt _),aat]
 rw[e];exact⟨.int ns.sum,H,I.kept (t':=o) (xP B),⟨_,rfl⟩,q⟩
def Vo:WC:=λrs m K=>on1 (λr=>∃ds ns,sqOf m r=some ds/\df ds=some ns/\K (.imm (.int ns.sum))) rs
theorem oZ(n:X.calm=true):d3 X (.builtin "sum") (cM X.kx Vo):=by
 intro e s i H z u Q I o ⟨C,m,A,B,rs,K,R,h,k,j⟩;let⟨r,v,rfl,rfl,t,ds,ns,y,q,k⟩:=de h k;let⟨a,D,rfl,f,g⟩:=t.seq R y;rw[iq q]at g;have x:=d6 g;subst x;have go:=j _ _ H k R (gq _) (Frm.refl _ _);rcases f with f|f
 .exact tj n e s i H _ u Q I o ⟨false,a,ns,rfl,f,go⟩
 .exact tj n e s i H _ u Q I o ⟨true,a,ns,rfl,f,go⟩
def LR{m:MSt}{r:R}{K:R->Prop}(e:sqOf m r=some ds)(f:df ds=some ns)(h:K (.imm (.int ns.sum))):Vo [r] m K:=⟨ds,ns,e,f,h⟩
def zx(X:Cx)(f:Ad)(k:List (Str×Ad))(r:List V->Hp->VK->Prop):Prop:=
 ∀(e:List (Addr×Obj)) (s:Io) (g:St) (H:Hp) (x:List V) (u:List Ad) (Q:VK),Inv X e g H s->Vals x u->r x H Q ->
  wpAny (model X.prog X.w) X.A (call f u k) (EP X e g Q) X.xe s
def Ku:WC:=λrs m K=>on1 (λr=>∃ds ns,sqOf m r=some ds/\df ds=some ns/\ns.length<64/\∀n:List Int,n.Perm ns->n.Pairwise (· ≥ ·)->K (.new (n.map .int))) rs
theorem iG{K:Kd}{H:Hp}:∀ns:List Int,DenAll K H (ns.map .int) (ns.map V.int)
 |[]=>by simp[ DenAll]
 |n::ns=>by
  exact⟨.int n,_,rfl,by simp[Den],iG ns⟩
theorem mn:zx X (.builtin "sorted") [(abO "reverse",.bool true)] (cM X.kx Ku):=by
 intro o s x H M N Q I L ⟨T,m,O,P,rs,S,R,h,y,t⟩;let⟨r,v,rfl,rfl,F,ds,ns,K,E,D,y⟩:=de h y;let⟨l,U,rfl,f,g⟩:=F.seq R K;rw[iq E]at g;have G:=d6 g;subst G;let⟨u,rfl,B⟩:=L.one;cases B;have go:∀(i:List Ad),Vals (ns.map V.int) i->∀(out:Array Ad) (n:List Int),aeH out.toList n->n.Perm ns->Ordered true n->EP X o x Q (.ref (s.heap.objs.size+1)) {s with heap:=sortedAll s.heap i out}:=by
  intro i j out n a1 a2 q;let⟨e,J⟩:=sortedAll_at s.heap i out;have k:H (s.heap.objs.size+1)=none:=I.hok.fresh (afc _);have A:Vals (n.map V.int) out.toList:=m8 a1;have C:(n.map V.int).length≤aam:=by rw[iO,a2.length_eq,aag];omega
  refine⟨.ref (s.heap.objs.size+1),_,I.laid (t':=s.toks) (λ_ _=>sortedAll_old) (afc _) (show ObjOk X.prog X.w _ _ _ (.lst (n.map V.int))from⟨C,out.toList,e,A,by rw[J]⟩),rfl,?_⟩;exact t _ _ _ (y n a2 q) (R.lay k) ⟨_,_,rfl,k,aB,iG n⟩ (cu k)
 rcases f with f|f
 .obtain⟨i,j,pl,_⟩:=I.list f;have z:=j.length;rw[iO]at z;exact sorted_ints_rev pl.isList (fq j) (by omega) λout n a1 a2 q=>go i j out n a1 a2 q
 .obtain⟨i,j,pl,_⟩:=I.tuple f;have z:=j.length;rw[iO]at z;exact oj pl (fq j) (by omega) λout n a1 a2 q=>go i j out n a1 a2 q
def C7{m:MSt}{r:R}{K:R->Prop}(f:sqOf m r=some ds)(g:df ds=some ns)(e:ns.length<64)(h:∀n:List Int,n.Perm ns->n.Pairwise (· ≥ ·)->K (.new (n.map .int))):Ku [r] m K:=⟨ds,ns,f,g,e,h⟩
theorem Cb{id:String}{x k:Str}{j:Nat}{o:WC}(A:zx X (.builtin id) [(k,.bool true)] (cM X.kx o))(t:Gl X x)(B:X.mg x=none)(m:aaO x=some (.builtin id))(v:MA X (a::b) w)(n:x ≠ "__name__":=by decide)(g:(x==("__debug__" : Str))=false:=by decide)
  (C:aac (a::b) X.env=(false,eval a X.env)::aac b X.env:=by first|exact aI rfl|rfl) (f:(abn pos (aac (a::b) X.env)).any (·.1)=false:=by rfl):ME X (.Call (.Name x p) (a::b) [⟨some k,.Constant (.bool true) j c,d⟩] pos) (wCB o w):=by
 intro e s i H Q I h;have r:=QJ h;refine acv (kl I t B m ?_ n g);refine callWith_kw (thn (v pos e s i H _ I r) λz s1 ⟨vs,u,y,r1,q⟩=>?_) (by rw[C];rfl) f rfl rfl;refine kws_cons (Constant_bool (kws_nil ?_));exact A e s1 i u vs z Q y r1 q
end
section
variable {X:Cx}{a:Expr}{e:List Expr}{w:WA}{pos p b c:Pos}
theorem o7{id:String}{x k:Str}{j:Nat}{o:WC}(m:zx X (.builtin id) [(k,.bool true)] (cM X.kx o))(i:Gl X x)(g:X.mg x=none)(f:aaO x=some (.builtin id))(n:EA X (a::e) w)(r:x ≠ "__name__":=by decide)(d:(x==("__debug__" : Str))=false:=by decide)
  (q:aac (a::e) X.env=(false,eval a X.env)::aac e X.env:=by first|exact aI rfl|rfl) (h:(abn pos (aac (a::e) X.env)).any (·.1)=false:=by rfl):EE X (.Call (.Name x p) (a::e) [⟨some k,.Constant (.bool true) j b,c⟩] pos) (wCB o w):=⟨Cb m i g f n.h r d q h⟩
def nw:aaO "sorted" = some (.builtin "sorted"):=by rfl
end
end L2
namespace M8
def ins(x:Nat):List Nat->List Nat
 |[]=>[x]
 |y::l=>if y≤x then x::y::l else y::ins x l
def srt:List Nat->List Nat
 |[]=>[]
 |x::l=>ins x (srt l)
def Fall(l:List Nat):Prop:=l.Pairwise (· ≥ ·)
theorem qy(x:Nat):∀l,(ins x l).Perm (x::l)
 |[]=>.refl _
 |y::l=>by
  unfold ins;split
  .exact .refl _
  .exact((qy x l).cons y).trans (.swap x y l)
theorem wG{x:Nat}:∀{l},Fall l->Fall (ins x l)
 |[],_=>acT _ _
 | y::l,h=>by
  unfold ins;rcases acy.mp h with⟨b,c⟩;split
  .rename_i hy;refine acy.mpr ⟨λz a=>?_,h⟩;obtain rfl|a:=aae.mp a
   .exact hy
   .have:=b z a;show z≤x;omega
  .rename_i hy;refine acy.mpr ⟨λz a=>?_,wG c⟩;rcases aae.mp ((qy x l).mem_iff.mp a)with rfl|a
   .show z≤y;omega
   .exact b z a
theorem kL:∀l,(srt l).Perm l
 |[]=>.refl _
 |x::l=>(qy x (srt l)).trans ((kL l).cons x)
theorem qJ:∀l,Fall (srt l)
 |[]=>ag1
 |_::l=>wG (qJ l)
theorem w4:∀{a b:List Nat},Fall a->Fall b->a.Perm b->a=b
 |[],b,_,_,p=>(List.nil_perm.mp p).symm
 |x::a,[],_,_,p=>by simpa using p.length_eq
 | x::a,y::b,ha,hb,p=>by
  let⟨a1,a2⟩:=acy.mp ha;let⟨b1,b2⟩:=acy.mp hb;have h:x=y:=by
   have d:x≤y:=by
    rcases aae.mp (p.mem_iff.mp aaa)with e|e
    .omega
    .exact b1 x e
   have c:y≤x:=by
    rcases aae.mp (p.mem_iff.mpr (aaa (a:=y)))with e|e
    .omega
    .exact a1 y e
   omega
  subst h;rw[w4 a2 b2 (List.Perm.cons_inv p)]
def yh{a l:List Nat}(h:Fall a)(p:a.Perm l):srt l=a:=w4 (qJ l) h ((kL l).trans p.symm)
def TX{l:List Nat}(h:Fall l):srt l=l:=yh h (.refl _)
end M8
namespace L2
open PySem PySem.Spec PyProof.Rows
variable{v y:V}{u:Ad}{P:aaI}{w:World}{H H':Hp}{kvs:List (aD×aD)}{xs:List (List Key×Addr×Ad)}{a:Addr}{Q:Ad->Io->Prop}{pos:Pos}{X:Cx}{ks:List (Option Expr)}{vs:List (Key×V)}{trs:List (TE×TE)}{values:List Expr}{τ:List (List Nat×Addr)}{p:List Nat}{kk:Key}{t t':aD}{j:Nat}{wv:WE}{ws:List (WE×WE)}{K:List (R×R)->MSt->Prop}
section
variable {a:Type} [DecidableEq a]
def valV(kvs:List (a×V))(k:a):Option V:=(kvs.find? λb=>decide (b.1=k)).map (·.2)
def putK(kvs:List (a×V))(k:a)(v:V):List (a×V):=
 if (kvs.any λb=>decide (b.1=k))=true then kvs.map (λb=>if b.1=k then(b.1,v)else b)else kvs++[(k,v)]
theorem dj{p:a×V}{r:List (a×V)}{k:a}(e:p.1=k):valV (p::r) k=some p.2:=by simp[valV,e]
theorem dh{p:a×V}{r:List (a×V)}{k:a}(e:¬p.1=k):valV (p::r) k=valV r k:=by simp[valV,e]
theorem qg(k:a):∀kvs:List (a×V),(kvs.any λb=>decide (b.1=k))=(valV kvs k).isSome
 |[]=>rfl
 |p::r=>by
  rw[afr]
  by_cases e:p.1=k
  .simp[dj e,decide_eq_true e]
  .rw[dh e,decide_eq_false e];exact qg k r
theorem uk(k j:a)(y:V):∀kvs:List (a×V),valV kvs k=none->valV (kvs++[(k,y)]) j=if j=k then some y else valV kvs j
 |[],_=>by
  by_cases e:k=j
  .rw[if_pos e.symm];exact dj (p:=(k,y)) e
  .rw[if_neg (λz=>e z.symm)];exact dh (p:=(k,y)) e
 |p::r,hn=>by
  rw[adn];have h:¬p.1=k:=λz=>by rw[dj z]at hn;cases hn
  rw[dh h]at hn;have i:=uk k j y r hn
  by_cases e:p.1=j
  .rw[dj e,dj e,if_neg (λz=>h (e.trans z))]
  .rw[dh e,dh e,i]
theorem ja(kvs:List (a×V))(k:a)(v:V):(putK kvs k v).length≤kvs.length+1:=by
 unfold putK
 grind
theorem GH{kvs:List (a×V)}{k:a}(v:V)(h:valV kvs k=none):putK kvs k v=kvs++[(k,v)]:=by
 unfold putK;rw[qg,h];exact if_neg (by decide)
theorem RelO.isSome_eq{o:Option V}{u:Option Ad}(r:RelO o u):o.isSome=u.isSome:=by
 cases o with
 |none=>cases u with
  |none=>rfl
  |some _=>exact(r).elim
 |some _=>cases u with
  |none=>exact(r).elim
  |some _=>rfl
theorem KV.val{kvs:List (a×V)}{vs:List (a×Ad)}(r:KV kvs vs)(k:a):RelO (valV kvs k) (agu vs k):=by
 induction r with
 |nil=>exact acu
 | @cons p q ps qs h t ih=>
  let⟨c,d⟩:=h
  by_cases e:p.1=k
  .have e':=c.symm.trans e;have b:agu (q::qs) k=some q.2:=by simp[agu,e']
   rw[dj e,b];exact d
  .have e':¬q.1=k:=λz=>e (c.trans z);have b:agu (q::qs) k=agu qs k:=by simp[agu,e']
   rw[dh e,b];exact ih
theorem KV.any{kvs:List (a×V)}{vs:List (a×Ad)}(r:KV kvs vs)(k:a):(kvs.any λb=>decide (b.1=k))=vs.any λb=>decide (b.1=k):=by
 induction r with
 |nil=>rfl
 |cons h t i=>rw[afr,afr,i,h.1]
theorem KV.repl{kvs:List (a×V)}{vs:List (a×Ad)}(r:KV kvs vs)(k:a)(d:RelV y u) :
  KV (kvs.map λb=>if b.1=k then(b.1,y)else b) (vs.map λb=>if b.1=k then(b.1,u)else b):=by
 induction r with
 |nil=>exact .nil
 | @cons p q ps qs h t ih=>
  rw[aah,aah];refine .cons ?_ ih;let⟨c,f⟩:=h
  by_cases e:p.1=k
  .rw[if_pos e,if_pos (c.symm.trans e)];exact⟨c,d⟩
  .rw[if_neg e,if_neg (λz=>e (c.trans z))];exact⟨c,f⟩
theorem KV.put{kvs:List (a×V)}{vs:List (a×Ad)}(r:KV kvs vs)(k:a)(b:RelV y u):KV (putK kvs k y) (stored vs k u):=by
 unfold putK stored;rw[r.any k]
 by_cases e:(vs.any λc=>decide (c.1=k))=true
 .rw[if_pos e,if_pos e];exact r.repl k b
 .rw[if_neg e,if_neg e];exact Paired.snoc r ⟨rfl,b⟩
theorem KV.length{kvs:List (a×V)}{vs:List (a×Ad)}(r:KV kvs vs):kvs.length=vs.length:=agB r
end
theorem zk{k:Key}(r:RelV (kV k) u):(cx P w).is k u=true:=by
 cases k with
 |inl i=>let⟨t,e⟩:=(r);subst e;exact vb P w i t
 |inr x=>let⟨t,e⟩:=(r);subst e;exact wd P w x t
theorem sX{P:aaI}{w:World}:∀{ks:List Key}{us:List Ad},Vals (ks.map kV) us->ItemsAre (cx P w) ks us
 |[],_,r=>by rw[acn]at r;cases r;exact .nil
 |k::ks,_,r=>by
  cases r with
  |cons h t=>exact .cons (zk h) (sX t)
abbrev KT(H:Hp):List (List Key×V)->List (List Key×Addr×Ad)->Prop:=abI λp q=>p.1=q.1/\H q.2.1=some (.tup (p.1.map kV))/\RelV p.2 q.2.2
theorem KT.val{kvs:List (List Key×V)}(r:KT H kvs xs)(k:List Key):RelO (valV kvs k) ((atKey xs k).map (·.2)):=by
 induction r with
 |nil=>exact acu
 | @cons p q ps qs h t ih=>
  let⟨c,_,d⟩:=h
  by_cases e:p.1=k
  .have e':=c.symm.trans e;have b:atKey (q::qs) k=some q.2:=by simp[atKey,e']
   rw[dj e,b];exact d
  .have e':¬q.1=k:=λz=>e (c.trans z);have b:atKey (q::qs) k=atKey qs k:=by simp[atKey,e']
   rw[dh e,b];exact ih
theorem KT.repl{kvs:List (List Key×V)}(r:KT H kvs xs)(k:List Key)(f:RelV y u) :
  KT H (kvs.map λc=>if c.1=k then(c.1,y)else c) (xs.map (putAt k u)):=by
 induction r with
 |nil=>exact .nil
 | @cons p q ps qs h t ih=>
  rw[aah];refine .cons ?_ ih;let⟨b,d,g⟩:=h;unfold putAt
  by_cases e:p.1=k
  .rw[if_pos e,if_pos (b.symm.trans e)];exact⟨b,d,f⟩
  .rw[if_neg e,if_neg (λz=>e (b.trans z))];exact⟨b,d,g⟩
def KT.put{kvs:List (List Key×V)}(r:KT H kvs xs)(k:List Key){b:Addr}(h:H b=some (.tup (k.map kV)))(c:RelV y u) :
  KT H (putK kvs k y) (storedH xs k b u):=by
 have e:(kvs.any λd=>decide (d.1=k))=(atKey xs k).isSome:=by
  rw[qg,(r.val k).isSome_eq,afh]
 unfold putK storedH;rw[e]
 by_cases q:(atKey xs k).isSome=true
 .rw[if_pos q,if_pos q];exact r.repl k c
 .rw[if_neg q,if_neg q];exact Paired.snoc r ⟨rfl,h,c⟩
def KT.keeps{kvs:List (List Key×V)}(r:KT H kvs xs)(h:∀b ys,H b=some (.tup ys)->H' b=some (.tup ys)):KT H' kvs xs:=
 Paired.mapP r λ_ _ z=>⟨z.1,h _ _ z.2.1,z.2.2⟩
section
variable {P:aaI}{w:World}{H:Hp}{h:aaQ}{a:Addr}
def Sn{u:HO}(ok:HOk P w H h)(e:Rd H a u):ObjOk P w H h a u:=e.ok ok
def uE{kvs:List (Key×V)}(ok:HOk P w H h)(e:Rd H a (.dK kvs)):kvs.length≤aam/\(a==abA)=false/\∃vs,KV kvs vs/\h.DictOf (cx P w) a vs:=
 Sn ok e
def UF{kvs:List (Key×V)}(ok:HOk P w H h)(e:H a=some (.dK kvs)):kvs.length≤aam/\(a==abA)=false/\∃vs,KV kvs vs/\h.DictOf (cx P w) a vs:=uE ok (.inl e)
def ur{ks:List Key}(ok:HOk P w H h)(e:H a=some (.tup (ks.map kV))):(agr (cx P w)).is h ks a:=by
 let⟨_,i,r,o,d,c,hd,n,b⟩:=(ok a _ e);exact⟨o,i.toArray,n,d,c,b,by simpa using sX r⟩
theorem Fe{kvs:List (List Key×V)}(ok:HOk P w H h)(e:Rd H a (.dT kvs)):kvs.length≤aam/\(a==abA)=false/\
  ∃xs,KT H kvs xs/\h.DictOfH (agr (cx P w)) a xs:=by
 let⟨z,y,xs,r,o,i,c,d,n,g,k,f⟩:=(Sn ok e);refine⟨z,y,xs,r,o,i,c,d,n,g,k,λx b=>?_,f⟩;have all:∀{l:List _}{m:List _},KT H l m->∀x∈m,(agr (cx P w)).is h x.1 x.2.1:=by
  intro l m q
  induction q with
  |nil=>intro x b;exact nomatch b
  | @cons p q ps qs hq t ih=>
   intro x b;rcases aae.mp b with e|b
   .subst e;exact ur ok (by simp_all)
   .exact ih x b
 exact all r x b
def XH{kvs:List (List Key×V)}(ok:HOk P w H h)(e:H a=some (.dT kvs)):kvs.length≤aam/\(a==abA)=false/\
  ∃xs,KT H kvs xs/\h.DictOfH (agr (cx P w)) a xs:=Fe ok (.inl e)
end
def DGet(H:Hp)(a:Addr)(y:V)(r:Option V):Prop:=
 (∃kvs k,Rd H a (.dK kvs)/\y=kV k/\r=valV kvs k)\/∃kvs k b,Rd H a (.dT kvs)/\y = .ref b/\H b=some (.tup (k.map kV))/\r=valV kvs k
def DPut(H:Hp)(a:Addr)(y v:V)(H':Hp):Prop:=
 (∃kvs k,H a=some (.dK kvs)/\y=kV k/\kvs.length<aam/\H'=upd H a (.dK (putK kvs k v))) \/
 ∃kvs k b,H a=some (.dT kvs)/\y = .ref b/\H b=some (.tup (k.map kV))/\kvs.length<aam/\H'=upd H a (.dT (putK kvs k v))
theorem DGet.k{kvs:List (Key×V)}{k:Key}(e:H a=some (.dK kvs)):DGet H a (kV k) (valV kvs k):=.inl ⟨kvs,k,.inl e,rfl,rfl⟩
theorem DPut.k{kvs:List (Key×V)}{k:Key}(e:H a=some (.dK kvs))(h:kvs.length<aam):DPut H a (kV k) v (upd H a (.dK (putK kvs k v))):=.inl ⟨kvs,k,e,rfl,h,rfl⟩
section
variable {X:Cx}{d:List (Addr×Obj)}{f:St}{H:Hp}{s:Io}{a:Addr}{y v:V}{u r:Ad}{o:Option V}{A:abc}{E:Ad->Io->Prop}
def Inv.big(I:Inv X d f H s):abA<s.heap.objs.size:=by
 have h:=(I.mod.glob.keeps I.bk).lt;exact ado (by decide) h
theorem sF(F:A.units+1<cLine)(I:Inv X d f H s)(g:DGet H a y (some v))(C:RelV y u)(h:∀m s',Inv X d f H s'->RelV v m->Q m s') :
  wpAny (model X.prog X.w) A (ael (.ref a) u) Q E s:=by
 rcases g with⟨kvs,k,e,q,l⟩|⟨kvs,k,b,e,q,eb,l⟩
 .subst q;let⟨z,hd,vs,c,n⟩:=uE I.hok e;let⟨m,B,i⟩:=RelO.some_of (v:=v) (o:=agu vs k) (by rw[l];exact c.val k);exact wpAny_getItem_of (zk C) n.mapOf B (h m _ (I.tok _) i)
 .subst q
  cases (show u=abk b from C)
  let⟨z,hd,xs,c,n⟩:=Fe I.hok e;let⟨m,B,i⟩:=RelO.some_of (v:=v) (o:=(atKey xs k).map (·.2)) (by rw[l];exact c.val k);let⟨p,D,x⟩:=ad7.mp B;refine wpAny_getItem_heap (adR F) (ur I.hok eb) n D ?_;rw[x];exact h m _ (I.tok _) i
theorem d_in(x:A.units+1<cLine)(I:Inv X d f H s)(g:DGet H a y o)(n:RelV y u)(h:∀s',Inv X d f H s'->Q (.bool o.isSome) s') :
  wpAny (model X.prog X.w) A (aaS .In u (.ref a)) Q E s:=by
 rcases g with⟨kvs,k,e,m,l⟩|⟨kvs,k,b,e,m,eb,l⟩
 .subst m;let⟨z,hd,vs,c,i⟩:=uE I.hok e;refine wpAny_in_of (zk n) hd i.mapOf ?_;rw[<-(c.val k).isSome_eq,<-l];exact h _ (I.tok _)
 .subst m;cases (n);let⟨z,hd,xs,c,i⟩:=Fe I.hok e;refine wpAny_in_heap (adR x) (ur I.hok eb) hd i ?_;have q:=(c.val k).isSome_eq;rw[afh]at q;rw[<-q,<-l];exact h _ (I.tok _)
theorem Oa(x:A.units+1<cLine)(I:Inv X d f H s)(g:DGet H a y o)(n:RelV y u)(h:∀s',Inv X d f H s'->Q (.bool (!o.isSome)) s') :
  wpAny (model X.prog X.w) A (aaS .NotIn u (.ref a)) Q E s:=by
 rcases g with⟨kvs,k,e,m,l⟩|⟨kvs,k,b,e,m,eb,l⟩
 .subst m;let⟨z,hd,vs,c,i⟩:=uE I.hok e;refine wpAny_notIn_of (zk n) hd i.mapOf ?_;rw[<-(c.val k).isSome_eq,<-l];exact h _ (I.tok _)
 .subst m;cases (n);let⟨z,hd,xs,c,i⟩:=Fe I.hok e;refine wpAny_notIn_heap (adR x) (ur I.hok eb) hd i ?_;have q:=(c.val k).isSome_eq;rw[afh]at q;rw[<-q,<-l];exact h _ (I.tok _)
def qw{h':aaQ}{t':Nat}{c:HO}(I:Inv X d f H s)(mu:Mut (H a))(g:abd a s.heap h')(e:∃q,h'.get? a=some q)(new:ObjOk X.prog X.w (upd H a c) h' a c) :
  Inv X d f (upd H a c) {s with heap:=h',toks:=t' }:=
 I.write mu (.inl rfl) (λb q h z=>(g.2 b h).trans z) e new
def JY{h':aaQ}{kvs:List (Key×V)}{vs:List (Key×Ad)}(z:kvs.length≤aam)(hd:(a==abA)=false)(b:KV kvs vs)(c:h'.DictOf (cx P w) a vs) :
  ObjOk P w H' h' a (.dK kvs):=⟨z,hd,vs,b,c⟩
theorem CI{Q:Unit->Io->Prop}(O:A.units+1<cLine)(I:Inv X d f H s)(g:DPut H a y v H')(J:RelV y u)(N:RelV v r)(h:∀s',Inv X d f H' s'->Q () s') :
  wpAny (model X.prog X.w) A (setItem (.ref a) u r) Q E s:=by
 rcases g with⟨kvs,k,e,F,l,B⟩|⟨kvs,k,b,e,F,eb,l,B⟩
 .subst F B;let⟨z,hd,vs,i,D⟩:=UF I.hok e;have x:vs.length≤aam:=by rw[<-i.length];exact z
  have G:(putK kvs k v).length≤aam:=by have:=ja kvs k v;exact aax ‹_› ‹_›
  refine wpAny_setItem_pairs (hsz:=x) (zk J) D λL m C=>h _ ?_;have Y:∃q,L.get? a=some q:=let ⟨q,_,_,n,_⟩:=m;⟨q,n⟩;exact qw I (by rw[e];exact acu) C Y (JY G hd (i.put k N) m)
 .subst F B;cases (J);let⟨z,hd,xs,i,D⟩:=XH I.hok e;have x:xs.length≤aam:=by rw[<-agB i];exact z
  have G:(putK kvs k v).length≤aam:=by have:=ja kvs k v;exact aax ‹_› ‹_›
  refine wpAny_setItem_heap (hsz:=x) (adR O) (ur I.hok eb) D λL m C=>h _ ?_;let⟨q,S,U,n,W,V,T,_,R⟩:=m;refine qw I (by rw[e];exact acu) C ⟨q,n⟩ ⟨G,hd,_,(i.put k eb N).keeps λc Z M=>?_,q,S,U,n,W,V,T,R⟩;rw[aA (zm M e (λz=>nomatch z))];exact M
end
def NoSl(i:Expr):Prop:=∀o b,agj i false o b=operate [o,b] (ael o b)
theorem Ca{prog:aaI}{A:abc}{E:Ad->Io->Prop}{s:Io}{env:Env}{c b:Expr}{T id:String}
  (q:typeLookup (.type T) "__getitem__" = pure (some (.builtin id))) (z:NoSl b)
  (h:wpAny (model prog w) A (eval c env) (λo f=>wpAny (model prog w) A (eval b env) (λi d=>d.TypeIs o T/\wpAny (model prog w) A (ael o i) Q E d) E f) E s) :
  wpAny (model prog w) A (eval (.Subscript c b pos) env) Q E s:=by
 refine agJ (acr h (λo f m=>acr m (λi d e=>?_) λ_ _ x=>x) λ_ _ x=>x);let⟨n,e⟩:=e;unfold agF;refine gT ?_;rw[getitemInPython_of_ne n.not_modules];refine gT (aeC n q ?_);have k:wpAny (model prog w) A (agj b false o i) (λr g=>wpAny (model prog w) A (letTemporaryGo c o r >>= λ_=>pure r) Q E g) E d:=by
  rw[z o i];exact wpAny_operating (acr e (λr g l=>gT (wpAny_letTemporaryGo (LD l))) λ_ _ x=>x)
 first
  |exact LD (gT k)
  |exact gT (LD (gT k))
  |exact gT k
theorem vE{c:List (Addr×Obj)}{d:St}{s:Io}{o:Option V}(I:Inv X c d H s)(g:DGet H a y o):s.TypeIs (.ref a) "dict":=by
 rcases g with⟨kvs,k,e,_,_⟩|⟨kvs,k,b,e,_,_,_⟩
 .obtain⟨_,_,vs,_,dd⟩:=uE I.hok e;exact dd.typeIs
 .obtain⟨_,_,xs,_,dd⟩:=Fe I.hok e;exact dd.typeIs
def YB(e ty:TE):TE:=λc H Q=>e c H λx d=>ty c d λy b=>∃a v,x = .ref a/\DGet b a y (some v)/\Q v b
def XR(h ty e:TE):TS:=λD b H=>e b H λv g=>h b g λx f=>ty b f λy d=>∃a c,x = .ref a/\DPut d a y v c/\D.nx b c
section
variable {X:Cx}{o i e b:Expr}{pos p c:Pos}{t ty d:TE}
theorem Qj(A:X.A.units+1<cLine)(D:PE X o t)(G:PE X i ty)(J:NoSl i):PE X (.Subscript o i pos) (YB t ty):=by
 intro f s l H Q I h;refine Ca afa.lookup J (thn (D f s l H _ I h) λu s1 ⟨x,z,B,E,q⟩=>thn (G f s1 l z _ B q) λN s2 ⟨y,F,k,m,a,v,ex,g,C⟩=>?_);subst ex;obtain rfl:u=abk a:=E;exact⟨vE k g,sF A k g m λL M n r=>⟨v,F,n,r,C⟩⟩
theorem QX(A:X.A.units+1<cLine)(C:PE X o t)(J:PE X i ty)(l:PE X b d)(M:abz b (some (.Subscript o i p)) pos.line X.env=pure false) :
  PS X (.Assign [.Subscript o i p] b pos) (XR t ty d):=by
 intro f s k H D I h;refine afU (thn (l f s k H _ I h) λr s1 ⟨v,q,R,z,N⟩=>thn (C f s1 k q _ R N) λu s2 ⟨x,F,m,E,S⟩=>thn (J f s2 k F _ m S) λW U ⟨y,T,O,n,a,B,ex,g,G⟩=>?_) M;subst ex;obtain rfl:u=abk a:=E;exact CI A O g n z λV L=>⟨k,B,L,G⟩
end
def x9(h:aaQ)(b:abA<h.objs.size):ObjOk P w H (h.push {cls:=.type "dict",data:=.dict #[]}) h.objs.size (.dK []):=
 ⟨abw _,beq_eq_false_iff_ne.mpr (abx (aaU b)),[],.nil,aaQ.DictOf.new h⟩
def UM:TE:=λ_ H Q=>∀p,H p=none->Q (.ref p) (upd H p (.dK []))
section
variable {X:Cx}{pos:Pos}
theorem pe_dnewK:PE X (.Dict [] [] pos) UM:=λb s c H Q I h=>
 wpAny_Dict_empty ⟨.ref s.heap.objs.size,_,I.laid (t':=s.toks) (λ_ _ q=>GT _ q) (Mt _) (x9 s.heap I.big),rfl,h _ (I.hok.fresh (Mt _))⟩
end
def xu:List (TE×TE)->St->Hp->(List (V×V)->Hp->Prop)->Prop
 |[],_,H,Q=>Q [] H
 |(tk,tv)::r,σ,H,Q=>tk σ H λx e=>tv σ e λy d=>xu r σ d λc b=>Q ((x,y)::c) b
abbrev VV:List (V×V)->List (Ad×Ad)->Prop:=abI λp q=>RelV p.1 q.1/\RelV p.2 q.2
def PPs(X:Cx)(pos:Pos)(keys:List (Option Expr))(values:List Expr)(trs:List (TE×TE)):Prop:=
 ∀(b:List (Addr×Obj)) (s:Io) (c:St) (H:Hp) (Q:List (V×V)->Hp->Prop),Inv X b c H s->xu trs c H Q ->
  wpAny (model X.prog X.w) X.A (evalPairs (pairTrees keys values X.env pos)) (λvs e=>∃d H',Inv X b c H' e/\VV d vs/\Q d H') X.xe s
theorem Mi:PPs X pos [] [] []:=λb s c H Q I h=>pairTrees_nil_walk ⟨[],H,I,.nil,h⟩
theorem GN{k v:Expr}{vs:List Expr}{e d:TE}(D:PE X k e)(f:PE X v d)(z:PPs X pos ks vs trs) :
  PPs X pos (some k::ks) (v::vs) ((e,d)::trs):=λb s c H Q I h=>
 pairTrees_cons_walk (thn (D b s c H _ I h) λu s1 ⟨x,o,A,C,q⟩=>thn (f b s1 c o _ A q) λJ s2 ⟨y,E,g,i,B⟩=>
  thn (z b s2 c E _ g B)<|by intro ws G ⟨n,m,l,r,F⟩;exact⟨(x,y)::n,m,l,.cons ⟨C,i⟩ r,F⟩)
def kb(kvs more:List (Key×V)):List (Key×V):=more.foldl (λb k=>putK b k.1 k.2) kvs
theorem KV.merge:∀{more:List (Key×V)}{rs:List (Key×Ad)}{kvs:List (Key×V)}{vs:List (Key×Ad)},KV more rs->KV kvs vs->KV (kb kvs more) (merged vs rs):=by
 intro more rs kvs vs r;unfold KV at r
 induction r generalizing kvs vs with
 |nil=>intro q;exact q
 | @cons p q ps qs h t ih=>
  intro b;have e:KV (putK kvs p.1 p.2) (stored vs q.1 q.2):=by
   have:=b.put p.1 h.2;rw[<-h.1];exact this
  exact ih e
theorem jf:∀(more kvs:List (Key×V)),(kb kvs more).length≤kvs.length+more.length
 |[],kvs=>by show kvs.length≤kvs.length+0;omega
 |p::r,kvs=>by
  have h:=jf r (putK kvs p.1 p.2);have b:=ja kvs p.1 p.2;show(kb (putK kvs p.1 p.2) r).length≤_;rw[aaq];omega
theorem pF{P:aaI}{w:World}:∀{kvs:List (Key×V)}{ws:List (Ad×Ad)},VV (kvs.map λk=>(kV k.1,k.2)) ws->∃rs,Carries (cx P w) ws rs/\KV kvs rs
 |[],_,r=>by rw[acn]at r;cases r;exact⟨[],acu,.nil⟩
 | p::kvs,_,r=>by
  rw[aah]at r
  cases r with
  | @cons a b as bs h t=>
   let⟨rs,c,q⟩:=pF (P:=P) (w:=w) t;let⟨b1,b2⟩:=b;exact⟨(p.1,b2)::rs,⟨zk h.1,rfl,c⟩,.cons ⟨rfl,h.2⟩ q⟩
def XT(trs:List (TE×TE)):TE:=λd H Q=>∀p,H p=none->xu trs d (upd H p (.dK [])) λc b=>b p=some (.dK [])/\∃kvs:List (Key×V),c=kvs.map (λk=>(kV k.1,k.2))/\kvs.length≤15/\Q (.ref p) (upd b p (.dK (kb [] kvs)))
theorem NR{keys:List (Option Expr)}(h:PPs X pos keys values trs)(b:keys.all (·.isSome)=true)(L:keys.length=values.length)(G:keys≠[])
  (g:keys.length≤15):PE X (.Dict keys values pos) (XT trs):=by
 intro f s J H Q I q;have A:=I.hok.fresh (Mt s.heap.objs.size);have B:=I.laid (a:=s.heap.objs.size) (o:=.dK []) (h':=s.heap.push {cls:=.type "dict",data:=.dict #[]}) (t':=s.toks) (λ_ _ q=>GT _ q) (Mt _) (x9 s.heap I.big);refine wpAny_Dict_walk (knd:=cx X.prog X.w) b L G g (thn (h f _ J _ _ B (q _ A)) λws s2 ⟨O,N,i,r,e,kvs,x,R,E⟩=>?_);subst x;let⟨rs,c,C⟩:=pF (P:=X.prog) (w:=X.w) r;let⟨z,hd,n,l,F⟩:=UF i.hok e;cases l;refine⟨rs,c,F,λh' d m=>⟨.ref s.heap.objs.size,_,?_,rfl,E⟩⟩;have k:(kb [] kvs).length≤aam:=by
  have D:=jf kvs [];rw[ac7]at D;rw[aag];omega
 have M:∃q,h'.get? s.heap.objs.size=some q:=let ⟨q,_,_,hq,_⟩:=d;⟨q,hq⟩;exact qw i (by rw[e];exact acu) m M (JY k hd (C.merge .nil) d)
section
variable {K:Kd}{H H':Hp}{τ:List (List Nat×Addr)}
mutual
theorem TAt.monoP(f:Pers H H'):∀{d:aD}{p:List Nat}{v:V},(∀q a,τ.lookup (p++q)=some a->H' a=H a)->TAt K H τ p d v->TAt K H' τ p d v
 | .none,_,_,_,h=>by simp only[TAt]at h⊢;exact h.mono f
 | .bool _,_,_,_,h=>by simp only[TAt]at h⊢;exact h.mono f
 | .int _,_,_,_,h=>by simp only[TAt]at h⊢;exact h.mono f
 | .str _,_,_,_,h=>by simp only[TAt]at h⊢;exact h.mono f
 | .tuple _,_,_,_,h=>by simp only[TAt]at h⊢;exact h.mono f
 | .list ts,p,_,e,h=>by
  simp only[TAt]at h⊢;let⟨a,xs,b,m,l,g⟩:=h;exact⟨a,xs,b,m,(e [] a (by rw[aaZ];exact b)).trans l,TAtL.monoP f (λi q a z=>e (i::q) a z) g⟩
 | .dict kvs,p,_,e,h=>by
  simp only[TAt]at h⊢;rcases h with⟨d,b,h⟩|⟨r,n,a,o,b,m,l,k,g⟩|⟨r,n,a,o,b,m,l,g⟩|⟨c,a,dx,C,xs,s,b,m,l,k,g⟩
  .exact .inl ⟨d,b,h.mono f⟩
  .exact .inr (.inl ⟨r,n,a,o,b,m,(e [] a (by rw[aaZ];exact b)).trans l,k,TAtD.monoP f (λi q a z=>e (i::q) a z) g⟩)
  .exact .inr (.inr (.inl ⟨r,n,a,o,b,m,(e [] a (by rw[aaZ];exact b)).trans l,TAtK.monoP f (λi q a z=>e (i::q) a z) g⟩))
  .exact .inr (.inr (.inr ⟨c,a,dx,C,xs,s,b,m,(e [] a (by rw[aaZ];exact b)).trans l,k,TAtF.monoP f (λi q a z=>e (i::q) a z) g⟩))
theorem TAtL.monoP(b:Pers H H'):∀{ds:List aD}{p:List Nat}{i:Nat}{xs:List V},(∀i q a,τ.lookup (p++i::q)=some a->H' a=H a)->TAtL K H τ p i ds xs->TAtL K H' τ p i ds xs
 |[],_,_,_,_,h=>by simpa only[TAtL]using h
 |t::ts,p,i,_,e,h=>by
  simp only[TAtL]at h⊢;let⟨v,vs,d,c,g⟩:=h;exact⟨v,vs,d,TAt.monoP b (λq a z=>e i q a (by simpa using z)) c,TAtL.monoP b e g⟩
theorem TAtD.monoP(b:Pers H H'):∀{ds:List (aD×aD)}{p:List Nat}{i:Nat}{xs:List (Int×V×V)},(∀i q a,τ.lookup (p++i::q)=some a->H' a=H a)->TAtD K H τ p i ds xs->TAtD K H' τ p i ds xs
 |[],_,_,_,_,h=>by simpa only[TAtD]using h
 |(k,t)::r,p,i,_,e,h=>by
  simp only[TAtD]at h⊢;let⟨u,v,vs,f,g,d,c⟩:=h;exact⟨u,v,vs,f,g.mono b,TAt.monoP b (λq a z=>e i q a (by simpa using z)) d,TAtD.monoP b e c⟩
theorem TAtK.monoP(b:Pers H H'):∀{ds:List (aD×aD)}{p:List Nat}{i:Nat}{xs:List (Key×V)},(∀i q a,τ.lookup (p++i::q)=some a->H' a=H a)->TAtK K H τ p i ds xs->TAtK K H' τ p i ds xs
 |[],_,_,_,_,h=>by simpa only[TAtK]using h
 |(k,t)::r,p,i,_,e,h=>by
  simp only[TAtK]at h⊢;let⟨u,v,vs,f,g,d,c⟩:=h;exact⟨u,v,vs,f,g,TAt.monoP b (λq a z=>e i q a (by simpa using z)) d,TAtK.monoP b e c⟩
theorem TAtF.monoP(b:Pers H H'):∀{ds:List (aD×aD)}{p:List Nat}{i:Nat}{xs:List (Str×V)},(∀i q a,τ.lookup (p++i::q)=some a->H' a=H a)->TAtF K H τ p i ds xs->TAtF K H' τ p i ds xs
 |[],_,_,_,_,h=>by simpa only[TAtF]using h
 |(.str f,t)::r,p,i,_,e,h=>by
  simp only[TAtF]at h⊢;let⟨v,vs,k,c,g⟩:=h;exact⟨v,vs,k,TAt.monoP b (λq a z=>e i q a (by simpa using z)) c,TAtF.monoP b e g⟩
 |(.none,d)::r,_,_,_,e,h=>by simp only[TAtF]at h⊢;exact TAtF.monoP b e h
 |(.bool _,d)::r,_,_,_,_,h=>by simp only[TAtF]at h
 |(.int _,d)::r,_,_,_,_,h=>by simp only[TAtF]at h
 |(.list _,d)::r,_,_,_,_,h=>by simp only[TAtF]at h
 |(.tuple _,d)::r,_,_,_,_,h=>by simp only[TAtF]at h
 |(.dict _,d)::r,_,_,_,_,h=>by simp only[TAtF]at h
end
end
def setT:aD->List Nat->aD->aD
 |_,[],n=>n
 | .list ts,i::p,n=>.list (ts.set i (setT (ts.getD i .none) p n))
 | .dict kvs,i::p,n=>.dict (kvs.set i ((kvs.getD i (.none,.none)).1,setT (kvs.getD i (.none,.none)).2 p n))
 |t,_::_,_=>t
section
variable {K:Kd}{H b:Hp}{τ:List (List Nat×Addr)}{p q:List Nat}{P:List Nat}
theorem TAtL.setL(f:Pers H b){t':aD}:∀{ts:List aD}{i j:Nat}{xs:List V},TAtL K H τ p i ts xs->(∀v,xs[j]?=some v->TAt K b τ (p++[i+j]) t' v)->(∀l,l≠i+j->∀q a,τ.lookup (p++l::q)=some a->b a=H a)->TAtL K b τ p i (ts.set j t') xs
 |[],_,_,_,h,_,_=>by simpa only[List.set_nil,TAtL]using h
 | t::ts,i,0,xs,h,c,e=>by
  simp only[TAtL]at h;let⟨v,vs,rfl,_,g⟩:=h;refine⟨v,vs,rfl,c v rfl,?_⟩;clear c;have:∀{ts:List aD}{d:Nat}{vs:List V},i<d->TAtL K H τ p d ts vs->TAtL K b τ p d ts vs:=by
   intro ts
   induction ts with
   |nil=>intro d vs _ h;simpa only[TAtL]using h
   |cons t ts m=>
    intro d vs n h;simp only[TAtL]at h⊢;let⟨v,vs,rfl,k,g⟩:=h;exact⟨v,vs,rfl,TAt.monoP f (λq a z=>e d (by exact abm ‹_›) q a (by simpa using z)) k,m (by omega) g⟩
  exact this (abu i) g
 |t::ts,i,j+1,xs,h,c,e=>by
  simp only[TAtL]at h;let⟨v,vs,rfl,k,g⟩:=h;exact⟨v,vs,rfl,TAt.monoP f (λq a z=>e i (by simp) q a (by simpa using z)) k,TAtL.setL f g (λo z=>by rw[show i+1+j=i+(j+1) by omega];exact c o (by simpa using z)) λl n=>e l (by omega)⟩
theorem TAtK.rest(d:Pers H b){i:Nat}(e:∀l,l≠i->∀q a,τ.lookup (p++l::q)=some a->b a=H a):∀{ts:List (aD×aD)}{c:Nat}{vs:List (Key×V)},i<c->TAtK K H τ p c ts vs->TAtK K b τ p c ts vs
 |[],_,_,_,h=>by simpa[TAtK]
 |_::ts,c,vs,hl,h=>by
  let⟨k,v,vs,rfl,j,f,g⟩:=h;exact⟨k,v,vs,rfl,j,TAt.monoP d (λq a z=>e c (by exact abm ‹_›) q a (by simpa using z)) f,TAtK.rest d e (by omega) g⟩
theorem TAtK.setK(f:Pers H b){t':aD}:∀{ts:List (aD×aD)}{i j:Nat}{xs:List (Key×V)}{d m:aD},TAtK K H τ p i ts xs->ts[j]?=some (d,m)->(∀v,(∃kk,xs[j]?=some (kk,v))->TAt K b τ (p++[i+j]) t' v)->(∀l,l≠i+j->∀q a,τ.lookup (p++l::q)=some a->b a=H a)->TAtK K b τ p i (ts.set j (d,t')) xs
 |[],_,_,_,_,_,_,z,_,_=>by simp at z
 |(k,t)::ts,i,0,xs,d,m,h,z,c,e=>by
  simp at z;let⟨rfl,rfl⟩:=z;simp only[TAtK]at h;let⟨kk,v,vs,rfl,o,_,n⟩:=h;exact⟨kk,v,vs,rfl,o,c v ⟨kk,rfl⟩,TAtK.rest f e (abu i) n⟩
 |(k,t)::ts,i,j+1,xs,d,m,h,z,c,e=>by
  let⟨kk,v,vs,rfl,o,r,n⟩:=h;exact⟨kk,v,vs,rfl,o,TAt.monoP f (λq a z=>e i (by omega) q a (by simpa using z)) r,TAtK.setK f n (by simpa using z) (by intro s ⟨g,z⟩;rw[show i+1+j=i+(j+1) by omega];exact c s ⟨g,by simpa using z⟩) λl u=>e l (by omega)⟩
end
theorem xo(nd:(τ.map (·.2)).Nodup){q:List Nat}(c:τ.lookup p=some a)(h:τ.lookup q=some a):p=q:=by
 induction τ with
 |nil=>cases c
 | cons x τ i=>
  let⟨r,b⟩:=x;rw[aah,aa5]at nd;rw[aaX]at c h
  by_cases d:p==r
  .rw[d]at c;cases c
   by_cases e:q==r
   .simp_all
   .simp only[afD]at e;rw[e]at h;exact(nd.1 (bZ h)).elim
  .simp only[afD]at d;rw[d]at c
   by_cases e:q==r
   .rw[e]at h;cases h;exact(nd.1 (bZ c)).elim
   .simp only[afD]at e;rw[e]at h;exact i nd.2 c h
def mf:aD->aD->Bool
 | .int a,.int b=>decide (a=b)
 | .str a,.str b=>decide (a=b)
 |_,_=>false
def l9(a b:Key):mf (keyD a) (keyD b)=decide (a=b):=by
 cases a<;>cases b<;>simp[keyD,mf]
def oT(k:aD):Nat->List (aD×aD)->Option (Nat×aD)
 |_,[]=>none
 |i,(k',t)::r=>if mf k' k=true then some (i,t)else oT k (i+1) r
def putD(k t:aD):List (aD×aD)->List (aD×aD)
 |[]=>[(k,t)]
 |(k',t')::r=>if mf k' k=true then(k',t)::r else(k',t')::putD k t r
def lfD:aD->aD
 | .list ds=>.dict [(.none,.list ds)]
 | .dict ds=>.dict [(.none,.dict ds)]
 |d=>d
theorem qU(h:isKd kvs=true):fzOf kvs=none/\excC kvs=none:=by
 cases kvs with
 |nil=>exact⟨rfl,rfl⟩
 |cons x r=>
  let⟨k,d⟩:=x
  cases k with
  |int _=>exact⟨rfl,rfl⟩
  |str _=>exact⟨rfl,rfl⟩
  |none=>simp[isKd]at h
  |bool _=>simp[isKd]at h
  |list _=>simp[isKd]at h
  |tuple _=>simp[isKd]at h
  |dict _=>simp[isKd]at h
section
variable {K:Kd}{H:Hp}{τ:List (List Nat×Addr)}{p:List Nat}
theorem TAtK.get':∀{ts:List (aD×aD)}{i j:Nat}{xs:List (Key×V)}{k t:aD},TAtK K H τ p i ts xs->ts[j]?=some (k,t)->∃kk v,xs[j]?=some (kk,v)/\k=keyD kk/\TAt K H τ (p++[i+j]) t v
 |[],_,_,_,_,_,_,e=>by simp at e
 |(k,t)::ts,i,0,xs,k',t',h,e=>by
  let⟨u,v,vs,rfl,c,a,_⟩:=h;simp at e;let⟨rfl,rfl⟩:=e;exact⟨u,v,rfl,c.1,a⟩
 |(k,t)::ts,i,j+1,xs,k',t',h,e=>by
  let⟨u,v,vs,rfl,_,_,g⟩:=h;let⟨kk,b,d,l,f⟩:=TAtK.get' (j:=j) g ‹_›;exact⟨kk,b,by simpa using d,l,by rw[show i+(j+1)=i+1+j by omega];exact f⟩
theorem TAtK.kd:∀{ts:List (aD×aD)}{i:Nat}{xs:List (Key×V)},TAtK K H τ p i ts xs->isKd ts=true
 |[],_,_,_=>rfl
 |_::ts,i,xs,h=>by
  let⟨u,v,vs,rfl,a,_,g⟩:=h;have:=g.kd;unfold isKd at this⊢;rw[abT,this,a.1]
  cases u<;>rfl
theorem TAtK.len:∀{ts:List (aD×aD)}{i:Nat}{xs:List (Key×V)},TAtK K H τ p i ts xs->ts.length=xs.length
 |[],_,_,h=>by simp[TAtK]at h;subst h;rfl
 |(k,t)::ts,i,xs,h=>by
  let⟨u,v,vs,rfl,a,_,g⟩:=h;simp[g.len]
theorem TAtK.look{kk:Key}:∀{ts:List (aD×aD)}{i j:Nat}{xs:List (Key×V)}{t:aD},TAtK K H τ p i ts xs->oT (keyD kk) i ts=some (j,t)->∃v,valV xs kk=some v/\TAt K H τ (p++[j]) t v
 |[],_,_,_,_,_,e=>by cases e
 |(k,t)::ts,i,j,xs,t',h,e=>by
  simp only[TAtK]at h;let⟨u,v,vs,rfl,d,a,g⟩:=h;let⟨rfl,_⟩:=d;simp only[oT,l9]at e
  by_cases c:u=kk
  .rw[if_pos (decide_eq_true c)]at e;cases e;exact⟨v,dj (p:=(u,v)) c,a⟩
  .rw[if_neg (by simpa using c)]at e;let⟨b,f,l⟩:=TAtK.look g e;exact⟨b,by rw[dh (p:=(u,v)) c];exact f,l⟩
theorem tu{u:Key}{w:V}(c:u≠kk):putK ((u,w)::vs) kk v=(u,w)::putK vs kk v:=by
 unfold putK
 grind
theorem uJ{w:V}(h:∀x∈vs,x.1≠kk):putK ((kk,w)::vs) kk v=(kk,v)::vs:=by
 unfold putK;rw[afr,decide_eq_true (rfl),Bool.true_or,if_pos rfl,aah,if_pos rfl]
 congr 1
 exact(ack λx a=>if_neg (h x a)).trans (ahn _)
def Jv{x:Key×V}(h:x∈putK vs kk v):x.1=kk\/∃y∈vs,y.1=x.1:=by
 unfold putK at h
 split at h
 .obtain⟨y,h1,h2⟩:=aap.mp h;subst h2;refine .inr ⟨y,h1,?_⟩
  split<;>rfl
 .obtain h|h:=aaG.mp h
  .exact .inr ⟨x,h,rfl⟩
  .cases aaf.mp h
   exact .inl rfl
theorem TAtK.put{v':V}(c:∀j,TAt K H τ (p++[j]) t' v'):∀{ts:List (aD×aD)}{i:Nat}{xs:List (Key×V)},TAtK K H τ p i ts xs->TAtK K H τ p i (putD (keyD kk) t' ts) (putK xs kk v')
 |[],i,xs,h=>by
  simp only[TAtK]at h;subst h;exact⟨kk,v',[],rfl,⟨rfl,λx a=>by cases a⟩,c i,rfl⟩
 | (k,t)::ts,i,xs,h=>by
  let⟨u,v,vs,rfl,g,f,b⟩:=h;let⟨rfl,g⟩:=g;simp only[putD,l9]
  by_cases e:u=kk
  .subst e;rw[if_pos (decide_eq_true rfl),uJ g];simp only[TAtK];exact⟨u,v',vs,rfl,⟨rfl,g⟩,c i,b⟩
  .rw[if_neg (by simpa using e),tu e];simp only[TAtK];refine⟨u,v,_,rfl,⟨rfl,λx a=>?_⟩,f,b.put c⟩;rcases Jv a with z|⟨y,d,z⟩
   .rw[z];exact λw=>e w.symm
   .rw[<-z];exact g y d
theorem ma{d:aD}(h:Den K H d v):TAt K H τ p (lfD d) v:=by
 cases d with
 |list ds=>simp[lfD];exact .inl ⟨_,rfl,h⟩
 |dict ds=>simp[lfD];exact .inl ⟨_,rfl,h⟩
 |none=>simpa[ TAt]
 |bool _=>simpa[lfD]
 |int _=>simpa[ TAt]
 |str _=>simpa[lfD]
 |tuple _=>simpa[ TAt]
theorem TAt.kd(h:TAt K H τ p (.dict kvs) v)(e:isKd kvs=true):∃a c,τ.lookup p=some a/\v = .ref a/\H a=some (.dK c)/\TAtK K H τ p 0 kvs c:=by
 obtain _:=qU e;rcases h with _|⟨_,_,b,c,d,i,f,k,g⟩|⟨_,_,b,c,d,i,f,g⟩|_
 .simp_all
 .rw[k.1]at e;cases e
 .exact⟨b,c,d,i,f,g⟩
 .simp_all
theorem TAt.node(h:TAt K H τ p t v)(e:iQ t=none):∃a,τ.lookup p=some a/\v = .ref a:=by
 cases t with
 |list ts=>
  simp only[TAt]at h;let⟨a,x,f,i,_⟩:=h;exact⟨a,f,i⟩
 |dict k=>
  have n:fzOf k=none:=e;simp only[TAt]at h;rcases h with⟨d,f,_⟩|⟨_,_,b,m,f,i,j,l,g⟩|⟨_,_,b,m,f,i,j,g⟩|⟨c,b,dx,C,x,o,f,i,j,l,g⟩
  .rw[n]at f;cases f
  .exact⟨b,f,i⟩
  .exact⟨b,f,i⟩
  .exact⟨b,f,i⟩
 |none=>cases e
 |bool _=>cases e
 |int _=>cases e
 |str _=>cases e
 |tuple _=>cases e
end
def okW:aD->List Nat->Bool
 |_,[]=>true
 | .list ts,i::q=>okW (ts.getD i .none) q
 | .dict kvs,i::q=>(isKd kvs||(excC kvs).isSome)&&okW (kvs.getD i (.none,.none)).2 q
 |_,_::_=>false
theorem Gc{i:Nat}{k:aD}(h:isKd kvs=true)(e:kvs[i]?=some (k,t)):isKd (kvs.set i (k,t'))=true:=by
 unfold isKd at h⊢;rw[abD]at h⊢;intro x a;rcases ae9 a with z|z
 .exact h x z
 .subst z;exact h (k,t) (Ld e)
theorem TAtF.restF{K:Kd}{H g:Hp}{τ:List (List Nat×Addr)}{p:List Nat}(c:Pers H g){i:Nat}(e:∀l,l≠i->∀q a,τ.lookup (p++l::q)=some a->g a=H a):∀{ts:List (aD×aD)}{b:Nat}{vs:List (Str×V)},i<b->TAtF K H τ p b ts vs->TAtF K g τ p b ts vs
 |[],_,_,_,h=>by simpa only[TAtF]
 |(.str f,t)::ts,b,vs,hl,h=>by
  let⟨v,vs,rfl,k,j⟩:=h;exact⟨v,vs,rfl,TAt.monoP c (λq a z=>e b (by omega) q a (by simpa using z)) k,TAtF.restF c e (by omega) j⟩
 |(.none,d)::r,_,_,hl,h=>by simp only[TAtF];exact TAtF.restF c e (by omega) h
 |(.bool _,d)::r,_,_,_,h=>by simp[TAtF]at h
 |(.int _,d)::r,_,_,_,h=>by simp only[TAtF]at h
 |(.list _,d)::r,_,_,_,h=>by simp only[TAtF]at h
 |(.tuple _,d)::r,_,_,_,h=>by simp[TAtF]at h
 |(.dict _,d)::r,_,_,_,h=>by simp[TAtF]at h
theorem TAtF.setF{K:Kd}{H m:Hp}{τ:List (List Nat×Addr)}{p:List Nat}(g:Pers H m){t' u:aD}{w:Str}:∀{ts:List (aD×aD)}{i j:Nat}{xs:List (Str×V)},TAtF K H τ p i ts xs->ts[j]?=some (.str w,u)->(∀v,TAt K H τ (p++[i+j]) u v->TAt K m τ (p++[i+j]) t' v)->(∀l,l≠i+j->∀q a,τ.lookup (p++l::q)=some a->m a=H a)->TAtF K m τ p i (ts.set j (.str w,t')) xs
 |[],_,_,_,_,z,_,_=>by simp at z
 |(k,t)::ts,i,0,xs,h,z,c,e=>by
  simp at z;let⟨rfl,rfl⟩:=z;simp only[TAtF]at h;let⟨v,vs,rfl,o,n⟩:=h;simp only[agP,TAtF];exact⟨v,vs,rfl,c v o,TAtF.restF g e (abu i) n⟩
 |(.str f,t)::ts,i,j+1,xs,h,z,c,e=>by
  simp only[TAtF]at h;let⟨v,vs,rfl,o,n⟩:=h;exact⟨v,vs,rfl,TAt.monoP g (λq a z=>e i (by omega) q a (by simpa using z)) o,TAtF.setF g n (by simpa using z) (λs b=>by rw[show i+1+j=i+(j+1) by omega]at b⊢;exact c s b) λl x=>e l (by omega)⟩
 |(.none,d)::ts,i,j+1,xs,h,z,c,e=>by
  simp only[TAtF]at h;simp only[agQ,TAtF];exact TAtF.setF g h (by simpa using z) (λs b=>by rw[show i+1+j=i+(j+1) by omega]at b⊢;exact c s b) λl x=>e l (by omega)
 |(.bool _,d)::r,_,_+1,_,h,_,_,_=>by simp only[TAtF]at h
 |(.int _,d)::r,_,_+1,_,h,_,_,_=>by simp only[TAtF]at h
 |(.list _,d)::r,_,_+1,_,h,_,_,_=>by simp only[TAtF]at h
 |(.tuple _,d)::r,_,_+1,_,h,_,_,_=>by simp only[TAtF]at h
 |(.dict _,d)::r,_,_+1,_,h,_,_,_=>by simp only[TAtF]at h
theorem TAt.ins{K:Kd}{c:Str}(h:TAt K H τ p (.dict kvs) v)(e:excC kvs=some c):∃a dx C xs,τ.lookup p=some a/\v = .ref a/\H a=some (.ins C dx xs)/\ClsN K c C/\TAtF K H τ p 0 kvs xs:=by
 have b:fzOf kvs=none:=by
  unfold excC at e
  split at e
  .rfl
  .cases e
 simp only[TAt]at h
 grind
theorem Jo{i:Nat}{x:aD×aD}{c:Str}{k:aD}(h:excC kvs=some c)(e:kvs[i]?=some (k,t))(a:k≠.none):excC (kvs.set i x)=some c:=by
 cases kvs with
 |nil=>cases h
 | cons y r=>
  cases i with
  |zero=>
   simp;unfold excC at h
   simp_all
  |succ i=>
   unfold excC at h⊢
   split at h
   .rename_i z;simp at z;let⟨rfl,rfl⟩:=z;exact h
   .cases h
theorem TAt.set{K:Kd}{H:Hp}{τ:List (List Nat×Addr)}(nd:(τ.map (·.2)).Nodup){a:Addr}{o:HO}{n:aD}(M:Pers H (upd H a o)):∀{q p:List Nat}{t J:aD}{v:V},TAt K H τ p t v->getT t q=some J->okW t q=true->τ.lookup (p++q)=some a->TAt K (upd H a o) τ (p++q) n (.ref a)->(∀u,TAt K H τ (p++q) J u->u = .ref a)->TAt K (upd H a o) τ p (setT t q n) v
 |[],p,t,J,v,h,e,_,_,hn,hu=>by
  cases e;rw[aaZ]at hn hu;rw[hu v h];unfold setT;exact hn
 | i::q,p,t,J,v,h,e,ok,ea,hn,hu=>by
  have f:∀(r:List Nat) (b:Addr),τ.lookup r=some b->r≠p++i::q->(upd H a o) b=H b:=λr b z ne=>aA λeb=>by
   subst eb;exact ne (xo nd z ea)
  have I:τ.lookup ((p++[i])++q)=some a:=by simpa using ea
  have G:TAt K (upd H a o) τ ((p++[i])++q) n (.ref a):=by simpa using hn
  have D:∀u,TAt K H τ ((p++[i])++q) J u->u = .ref a:=λu z=>hu u (by simpa using z);simp only[getT]at e
  cases z:chD t i with
  |none=>rw[z]at e;cases e
  | some P=>
   rw[z]at e;have W:getT P q=some J:=e;have E:∀l,l≠0+i->∀r b,τ.lookup (p++l::r)=some b->(upd H a o) b=H b:=λl hl r b Q=>f _ _ Q λy=>by
    have:=List.append_cancel_left y;injection this with h1 _
    omega
   have self:∀b,τ.lookup p=some b->(upd H a o) b=H b:=λb Q=>f _ _ Q λy=>by
    have:=congrArg ab9 y;simp at this
   cases t with
   |list ts=>
    have d:ts[i]?=some P:=z;have L:ts.getD i .none=P:=by rw[aaA,d];rfl
    simp only[TAt]at h;let⟨b,U,B,F,N,g⟩:=h;simp only[setT,L,TAt];refine⟨b,U,B,F,(self b B).trans N,TAtL.setL M g (λY S=>?_) E⟩;let⟨v2,m,A⟩:=g.get (j:=i) d;rw[S]at m;cases m;rw[acm]at A⊢;exact TAt.set nd M A W (by simp only[okW,L]at ok;exact ok) I G D
   | dict s=>
    simp only[chD]at z
    cases d:s[i]? with
    |none=>rw[d]at z;cases z
    |some kt=>
     let⟨k,O⟩:=kt;rw[d]at z;have X:k≠.none:=λw=>by subst w;cases z
     have F:O=P:=by split at z<;>simp_all
     subst F;have L:s.getD i (.none,.none)=(k,O):=by rw[aaA,d];rfl
     simp only[okW,L,aaE,af6]at ok;rcases ok.1 with x|x
     .obtain⟨b,es,B,F,N,g⟩:=h.kd x;have T:isKd (s.set i (k,setT O q n))=true:=Gc x d;let⟨n1,n2⟩:=qU T;simp only[setT,L,TAt];refine .inr (.inr (.inl ⟨n1,n2,b,es,B,F,(self b B).trans N,TAtK.setK M g d (λY ⟨kk,S⟩=>?_) E⟩));let⟨kk2,v2,m,_,A⟩:=g.get' (j:=i) d;rw[S]at m;cases m;rw[acm]at A⊢;exact TAt.set nd M A W ok.2 I G D
     .obtain⟨c,ec⟩:=adB.mp x;let⟨b,dx,C,U,B,F,N,kc,g⟩:=h.ins ec;let⟨Z,rfl⟩:=g.key (Ld d) X;have R:excC (s.set i (.str Z,setT O q n))=some c:=Jo ec d X;simp only[setT,L,TAt];refine .inr (.inr (.inr ⟨c,b,dx,C,U,R,B,F,(self b B).trans N,kc,TAtF.setF M g d (λY A=>?_) E⟩));rw[acm]at A⊢;exact TAt.set nd M A W ok.2 I G D
   |none=>cases z
   |bool _=>cases z
   |int _=>cases z
   |str _=>cases z
   |tuple _=>cases z
abbrev onAt(P:Nat->List Nat->Prop):R->Prop
 | .at k p=>P k p
 |_=>False
abbrev Gi(P:aD->Prop):R->Prop
 | .imm (.int i)=>P (.int i)
 | .imm (.str x)=>P (.str x)
 |_=>False
def gj(k:Nat)(p:List Nat)(j:Nat)(t:aD):R:=match iQ t with
 |some d=>.imm d
 |none=>.at k (p++[j])
section
variable {K:Kx}{b:Al}{c H:Hp}{r:R}{v:V}{m:MSt}{f:St}
theorem yP{P:Nat->List Nat->Prop}(rr:RelR K b c H r v)(h:onAt P r):∃k p τ a,r = .at k p/\b[k]?=some (.T τ)/\τ.lookup p=some a/\v = .ref a/\P k p:=by
 unfold onAt at h
 split at h
 .obtain⟨τ,a,e1,e2,e3⟩:=rr;exact⟨_,_,τ,a,rfl,e1,e2,e3,h⟩
 .simp_all
theorem Ki{P:aD->Prop}(rr:RelR K b c H r v)(h:Gi P r):∃kk:Key,r = .imm (keyD kk)/\v=kV kk/\P (keyD kk):=by
 unfold Gi at h
 split at h
 .rename_i i;exact⟨.inl i,rfl,aF (show Den K H _ v from rr),h⟩
 .rename_i x;exact⟨.inr x,rfl,bm (show Den K H _ v from rr),h⟩
 .simp_all
theorem Rel.dict(R:Rel K b m f H){k:Nat}(j:b[k]?=some (.T τ))(s:τ.lookup p=some a)(h:m.os[k]?=some [t])(i:getT t p=some (.dict kvs))(l:isKd kvs=true) :
  ∃e,H a=some (.dK e)/\TAtK K H τ p 0 kvs e:=by
 let⟨⟨n,o,z,g,_⟩,_⟩:=R.own k _ _ j h;cases z;let⟨q,d⟩:=g.get i;obtain _:=d.kd l
 simp_all
theorem j6(R:Rel K b m f H){k:Nat}(g:b[k]?=some (.T τ))(h:TAt K H τ (p++[j]) t v):RelR K b c H (gj k p j t) v:=by
 unfold gj
 cases e:iQ t with
 |some d=>exact jz h e
 |none=>
  let⟨a,l,i⟩:=h.node e;exact⟨τ,a,g,l,i⟩
end
section
variable {X:Cx}{o i e:Expr}{wo wi we:WE}{pos pos':Pos}
def dGot(m:MSt)(k:Nat)(p:List Nat)(y:aD)(K:R->Prop):Prop:=∃t a j b,m.os[k]?=some [t]/\getT t p=some (.dict a)/\isKd a=true/\oT y 0 a=some (j,b)/\K (gj k p j b)
def T6(m:MSt)(k:Nat)(p:List Nat)(y d:aD)(P:aD->Prop):Prop:=∃t a,m.os[k]?=some [t]/\getT t p=some (.dict a)/\isKd a=true/\okW t p=true/\a.length<aam/\P (setT t p (.dict (putD y (lfD d) a)))
abbrev wDIx(wo wi:WE):WE:=λm K=>wo m λb m1=>wi m1 λa m2=>onAt (λk p=>Gi (λy=>dGot m2 k p y λr=>K r m2) a) b
theorem Um(P:X.A.units+64<cLine)(z:ME X o wo)(E:ME X i wi)(A:NoSl i:=by intro _ _;rfl):ME X (.Subscript o i pos) (wDIx wo wi):=(Qj (by omega) z E A).wk<|by
 intro T H Q ⟨d,m,V,s,I,f⟩;refine⟨d,m,_,s,I,λW m1 K O k1 n1 b r C=>⟨d,m1,_,b,k1,λN m2 L D k2 n2 R c F=>?_⟩⟩;let⟨k,p,J,a,rfl,g,u,rfl,k2⟩:=yP r k2;let⟨M,rfl,rfl,t,n,j,S,l,B,x,w,k2⟩:=Ki c k2;let⟨U,y,q⟩:=R.dict g u l B x;let⟨v,G,h⟩:=q.look w;refine⟨a,v,rfl,by rw[<-G];exact DGet.k y,f _ m2 v D k2 (n2.trans n1) R ?_ (C.trans F)⟩;exact j6 R g h
abbrev Uk(we wo wi:WE):WS:=λD m=>we m λb m1=>iA (λd=>wo m1 λc m2=>wi m2 λr a=>onAt (λk p=>Gi (λy=>T6 a k p y d λt=>D.nx {a with os:=a.os.set k [t]}) r) c) b
theorem Qi(hu:X.A.units+64<cLine)(he:ME X e we)(ho:ME X o wo)(hi:ME X i wi)(hs:abz e (some (.Subscript o i pos')) pos.line X.env=pure false:=by rfl):MS X (.Assign [.Subscript o i pos'] e pos) (Uk we wo wi):=(QX (by omega) ho hi he hs).wk<|by
 intro D σ H ⟨s,m,De,Rl,hw,k⟩;refine⟨s,m,_,Rl,hw,λr m1 v H1 q n1 x rr F1=>?_⟩;let⟨d,er,hd,q⟩:=eF rr q;refine⟨s,m1,_,x,q,λro m2 ov H2 q2 n2 B K O=>⟨s,m2,_,B,q2,λri m3 iv n w n3 R N Y=>?_⟩⟩;let⟨kk,p,h,a,rfl,E,f,rfl,w⟩:=yP K w;let⟨y,rfl,rfl,t,c,U,T,S,e6,e7,w⟩:=Ki N w;let⟨C,W,P⟩:=R.dict E f U T S;have G:Den X.kx n d v:=(hd.mono (x.pers O)).mono (B.pers Y);let⟨⟨t1,v0,z,g,a0,M,J⟩,mu⟩:=R.own kk (.T h) _ E U;cases z;have F:Pers n (upd n a (.dK (putK C y v))):=bu (.inr ⟨_,W,rfl⟩);have nd:(h.map (·.2)).Nodup:=((f9 s).mp R.nd).1 (.T h) (Ld E);have I:TAtK X.kx (upd n a (.dK (putK C y v))) h p 0 c C:=TAtK.monoP F (λi q b zb=>aA λeb=>by
  subst eb;have:=congrArg ab9 (xo nd zb f);simp at this) P
 have new:TAt X.kx (upd n a (.dK (putK C y v))) h p (.dict (putD (keyD y) (lfD d) c)) (.ref a):=by
  have V:=I.put (kk:=y) (t':=lfD d) (v':=v) λj=>ma (G.mono F);let⟨z1,z2⟩:=qU V.kd;simp only[TAt];exact .inr (.inr (.inl ⟨z1,z2,a,_,f,rfl,aB,V⟩))
 have all:=TAt.set nd F g T e6 (by rw[aba];exact f) (by rw[aba];exact new) λu l=>by
  rw[aba]at l;let⟨a',es',A,eu,_⟩:=l.kd S;rw[f]at A;cases A;exact eu
 let⟨Q,Z⟩:=R.setW E F (ds':=[setT t p (.dict (putD (keyD y) (lfD d) c))]) (λb L=>aA λeb=>L (eb▸bZ f)) ⟨⟨_,v0,rfl,all,a0,M,J⟩,λb L=>by
  by_cases eb:b=a
  .subst eb;exact⟨_,aB,rfl⟩
  .rw[aA eb];exact mu b L⟩
 exact⟨a,_,rfl,DPut.k W (by rw[<-P.len];exact e7),k.nx s _ σ _ w (n3.trans (n2.trans n1)) Q (.of Q (((F1.trans O).trans Y).trans Z))⟩
def pJ:List (WE×WE)->MSt->(List (R×R)->MSt->Prop)->Prop
 |[],m,K=>K [] m
 |(wk,wv)::r,m,K=>wk m λb m1=>wv m1 λc m2=>pJ r m2 λp a=>K ((b,c)::p) a
inductive RelPs(K:Kd)(α:Al)(Hb H:Hp):List (R×R)->List (V×V)->Prop where
 |nil:RelPs K α Hb H [] []
 |cons {r1 r2:R}{rs:List (R×R)}{v1 v2:V}{vs:List (V×V)}:RelR K α Hb H r1 v1->RelR K α Hb H r2 v2->RelPs K α Hb H rs vs->RelPs K α Hb H ((r1,r2)::rs) ((v1,v2)::vs)
theorem RelPs.base{K:Kx}{a:Al}{m:MSt}{d:St}{c:Hp}(b:Rel K a m d H)(F:Frm a c H):∀{rs:List (R×R)}{vs:List (V×V)},RelPs K a H H' rs vs->RelPs K a c H' rs vs
 |_,_,.nil=>.nil
 |_,_,.cons h1 h2 t=>.cons (h1.base b F) (h2.base b F) (t.base b F)
theorem yA{K:Kx}:∀{s:List (WE×WE)}{c:Al}{m:MSt}{d:St}{H:Hp}{g:List (R×R)->MSt->Prop}{Q:List (V×V)->Hp->Prop},Rel K c m d H->pJ s m g ->
  (∀ps j vs f,g ps j->j.np=m.np->Rel K c j d f->RelPs K c H f ps vs->Frm c H f->Q vs f)->xu (s.map λw=>(tM K w.1,tM K w.2)) d H Q
 |[],c,m,d,H,g,Q,Rl,h,fin=>fin _ m _ H h rfl Rl .nil (Frm.refl _ _)
 | (wk,wv)::r,c,m,d,H,g,Q,Rl,h,fin=>
  ⟨c,m,_,Rl,h,λr1 m1 y A k1 n1 a n l=>⟨c,m1,_,a,k1,λB m2 z C k2 n2 b k F=>
   yA b k2 λps u vs v x t p rs q=>fin _ u _ v x (t.trans (n2.trans n1)) p
    (.cons ((n.keep Rl a F).keep Rl b q) ((k.keep a b q).base a l) (rs.base b (l.trans F))) ((l.trans F).trans q)⟩⟩
def ke:List (R×R)->Option (List (aD×aD))
 |[]=>some []
 |(.imm (.int i),.imm d)::r=>(ke r).map ((.int i,d) :: ·)
 |(.imm (.str x),.imm d)::r=>(ke r).map ((.str x,d) :: ·)
 |_::_=>none
def lfKV(kvs:List (aD×aD)):List (aD×aD):=kvs.map λk=>(k.1,lfD k.2)
def uO:List (aD×aD)->Bool
 |[]=>true
 |(k,_)::r=>r.all (λa=>!mf a.1 k)&&uO r
theorem Ac{K:Kx}{s:Al}{j:Hp}{ps:List (R×R)}{vs:List (V×V)}(h:RelPs K s j H ps vs):∀{kvs:List (aD×aD)}{i:Nat},ke ps=some kvs->uO kvs=true->∃a:List (Key×V),vs=a.map (λk=>(kV k.1,k.2))/\TAtK K H τ p i (lfKV kvs) a/\∀kk,(kvs.all λk=>!mf k.1 (keyD kk))=true->∀x∈a,x.1≠kk:=by
 induction h with
 |nil=>intro kvs i e _;cases e;exact⟨[],rfl,by simp[lfKV,TAtK],λ_ _ _ h=>by cases h⟩
 | @cons r1 r2 rs v1 v2 vs h1 h2 t ih=>
  intro kvs i e n;have go:∀(kk:Key) (d:aD),r1 = .imm (keyD kk)->r2 = .imm d->(ke rs).map ((keyD kk,d) :: ·)=some kvs->∃a:List (Key×V),(v1,v2)::vs=a.map (λk=>(kV k.1,k.2))/\TAtK K H τ p i (lfKV kvs) a/\∀kk,(kvs.all λk=>!mf k.1 (keyD kk))=true->∀x∈a,x.1≠kk:=by
   clear e;intro kk d m f e;subst m f
   cases q:ke rs with
   |none=>rw[q]at e;cases e
   | some c=>
    rw[q]at e;cases e;simp only[uO,aaE]at n;let⟨a,w,g,un⟩:=ih (i:=i+1) q n.2;have v:v1=kV kk:=by
     cases kk with
     |inl i=>exact aF (show Den K H (.int i) v1 from h1)
     |inr x=>exact bm (show Den K H (.str x) v1 from h1)
    subst v;refine⟨(kk,v2)::a,by rw[aah,<-w],?_,λu b x l=>?_⟩
    .simp only[lfKV,aah,TAtK];exact⟨kk,v2,a,rfl,⟨rfl,un kk n.1⟩,ma h2,g⟩
    .rw[abT,aaE,l9]at b;rcases aae.mp l with z|z
     .subst z;simpa using b.1
     .exact un u b.2 x z
  unfold ke at e
  split at e
  .rename_i z;cases z
  .rename_i i' d r z;cases z;exact go (.inl i') d rfl rfl e
  .rename_i x d r z;cases z;exact go (.inr x) d rfl rfl e
  .cases e
theorem tU:∀{more kvs:List (Key×V)},(more.map (·.1)).Nodup->(∀x∈more,valV kvs x.1=none)->kb kvs more=kvs++more
 |[],kvs,_,_=>(aaZ _).symm
 | (k,v)::more,kvs,nd,h=>by
  show kb (putK kvs k v) more=_;rw[aah,aa5]at nd;rw[GH v (h (k,v) aaa),tU nd.2 λx a=>?_,aa3]
  .rfl
  .rw[uk _ _ _ _ (h (k,v) aaa),if_neg]
   .exact h x (aab _ a)
   .exact λz=>nd.1 (z▸List.mem_map_of_mem a)
theorem TAtK.nodup{K:Kd}:∀{ts:List (aD×aD)}{i:Nat}{xs:List (Key×V)},TAtK K H τ p i ts xs->(xs.map (·.1)).Nodup
 |[],_,_,h=>by simp only[TAtK]at h;subst h;exact abL
 |(k,t)::ts,i,xs,h=>by
  simp only[TAtK]at h;let⟨u,v,vs,rfl,c,_,g⟩:=h;rw[aah];rw[aa5];refine⟨λz=>?_,g.nodup⟩;let⟨x,a,b⟩:=aap.mp z;exact c.2 x a b
def Ef(P:List (aD×aD)->Prop):Option (List (aD×aD))->Prop
 |some k=>uO k=true/\k.length≤15/\P (lfKV k)
 |none=>False
abbrev UC(w:List (WE×WE)):WE:=λm K=>pJ w m λp a=>Ef (λk=>K (.newT (.dict k)) a) (ke p)
def MPs(X:Cx)(pos:Pos)(keys:List (Option Expr))(v:List Expr)(a:List (WE×WE)):Prop:=PPs X pos keys v (a.map λw=>(tM X.kx w.1,tM X.kx w.2))
def QR:MPs X pos [] [] []:=Mi
def Jw{k v:Expr}{vs:List Expr}{wk:WE}(b:ME X k wk)(h:ME X v wv)(a:MPs X pos ks vs ws):MPs X pos (some k::ks) (v::vs) ((wk,wv)::ws):=GN b h a
theorem P6{keys:List (Option Expr)}(h:MPs X pos keys values ws)(j:keys.all (·.isSome)=true:=by rfl)(u:keys.length=values.length:=by rfl)(K:keys≠[]:=by exact λz=>by cases z)(r:keys.length≤15:=by decide):ME X (.Dict keys values pos) (UC ws):=
 (NR h j u K r).wk<|by
 intro O H Q ⟨l,m,P,s,E,t⟩;intro p k;refine yA (s.lay k) E λG m1 vs f k1 n1 R y F=>?_
 cases e:ke G with
 |none=>rw[e]at k1;exact k1.elim
 | some kvs=>
  rw[e]at k1;let⟨N,u,k1⟩:=k1;have a:p∉ads l:=s.out k;have w:f p=some (.dK []):=F p _ aB a;let⟨d,I,g,_⟩:=Ac (τ:=[([],p)]) (p:=[]) (i:=0) y e N;refine⟨w,d,I,by rw[<-g.len];simpa[lfKV]using u,?_⟩;have B:kb [] d=d:=by
   have:=tU (more:=d) (kvs:=[]) g.nodup λx _=>rfl;rwa[aba]at this
  rw[B];have v:Pers f (upd f p (.dK d)):=bu (.inr ⟨_,w,rfl⟩);have fr:Frm l H (upd f p (.dK d)):=λb C eb nb=>by
   have ne:b≠p:=bx eb k;rw[aA ne];exact F b C (by rw[aA ne];exact eb) nb
  have old:Ext X.kx.eb.np l H l (upd f p (.dK d)):=⟨rfl,fr,λ_ h=>.inl h,λb c=>by
   have n:b≠p:=λe=>a (e▸c);rw[aA n];let⟨D,M,_⟩:=R.mem c;exact⟨D,M⟩⟩
  refine t _ m1 _ _ k1 n1 (R.at' v (λb c=>aA λe=>a (e▸c)) (s.ebx.trans old)) ⟨[([],p)],p,rfl,rfl,by simp,λb c=>by simp at c;subst c;exact k,⟨⟨_,.ref p,rfl,?_,p,rfl,rfl⟩,λb c=>by simp at c;subst c;exact⟨_,aB,rfl⟩⟩⟩ fr;let⟨L,A⟩:=qU g.kd;simp only[TAt];refine .inr (.inr (.inl ⟨L,A,p,d,rfl,rfl,aB,TAtK.monoP v (λi q b J=>?_) g⟩));simp[aeo]at J
end
section
variable {m:MSt}{Q:R->MSt->Prop}{w f g:WE}{D:iy}
def Tq{k:Nat}{y d:aD}{K:R->Prop}(b:m.os[k]?=some [t])(c:getT t p=some (.dict kvs))(a:isKd kvs=true)(e:oT y 0 kvs=some (j,t'))(i:iQ t'=some d)(h:K (.imm d)) :
  dGot m k p y K:=⟨t,kvs,j,t',b,c,a,e,by unfold gj;rw[i];exact h⟩
theorem ya{y t t':aD}:∀{kvs:List (aD×aD)}{i j:Nat},oT y i kvs=some (i+j,t')->∃k',mf k' y=true/\putD y t kvs=kvs.set j (k',t)
 |[],_,_,e=>by cases e
 | (k',t0)::r,i,j,e=>by
  simp only[oT]at e
  by_cases c:mf k' y=true
  .rw[if_pos c]at e;have:i=i+j:=by simpa using congrArg (Option.map (·.1)) e
   obtain rfl:j=0:=by omega
   exact⟨k',c,by simp only[putD,if_pos c,agP]⟩
  .rw[if_neg c]at e
   cases j with
   | zero=>
    exfalso;have d:∀{kvs:List (aD×aD)}{i j:Nat}{a:aD},oT y i kvs=some (j,a)->i≤j:=by
     intro kvs
     induction kvs with
     |nil=>intro i j a e;cases e
     |cons x r b=>
      intro i j a e;let⟨k1,l⟩:=x;simp only[oT]at e
      split at e
      .cases e;exact Mt _
      .have:=b e;omega
    have:=d e;omega
   |succ j=>
    let⟨k2,k,h⟩:=ya (t:=t) (i:=i+1) (j:=j) (by rw[e];congr 2;omega);exact⟨k2,k,by simp only[putD,if_neg c,agQ,h]⟩
def IQ{a b:aD}(h:mf a b=true):a=b:=by
 unfold mf at h
 split at h
 .rw[of_decide_eq_true h]
 .rw[of_decide_eq_true h]
 .cases h
theorem Mf{k:Nat}{y d:aD}{P:aD->Prop}(c:m.os[k]?=some [t])(n:getT t p=some (.dict kvs))(l:isKd kvs=true)(e:okW t p=true)(q:kvs.length<aam)(o:oT y 0 kvs=some (j,t'))(h:P (setT t p (.dict (kvs.set j (y,lfD d))))) :
  T6 m k p y d P:=by
 let⟨r,b,a⟩:=ya (t:=lfD d) (i:=0) (j:=j) (by rw[o,acm]);rw[IQ b]at a;exact⟨t,kvs,c,n,l,e,q,by rw[a];exact h⟩
def Xh(h:K [] m):pJ [] m K:=h
def Ol{wk:WE}{r:List (WE×WE)}(h:wk m λb m1=>wv m1 λc m2=>pJ r m2 λps a=>K ((b,c)::ps) a):pJ ((wk,wv)::r) m K:=h
def Dh{P:List (aD×aD)->Prop}{o:Option (List (aD×aD))}{k:List (aD×aD)}(e:o=some kvs)(c:uO kvs=true)(b:kvs.length≤15)(a:lfKV kvs=k)(h:P k):Ef P o:=by subst e;subst a;exact⟨c,b,h⟩
theorem xY{n:Nat}{P:MSt->Prop}(h:P {vs:=m.vs.set n (some (.at m.os.length [])),os:=m.os++[[t]],np:=m.np}):sf n P m (.newT t):=.inl h
end
section
variable {X:Cx}{o i e:Expr}{wo wi we:WE}{pos pos':Pos}
theorem gH(h:X.A.units+64<cLine)(a:EE X o wo)(b:EE X i wi)(c:NoSl i:=by intro _ _;rfl):EE X (.Subscript o i pos) (wDIx wo wi):=⟨Um h a.h b.h c⟩
def qc(a:X.A.units+64<cLine)(h:EE X e we)(c:EE X o wo)(b:EE X i wi)(d:abz e (some (.Subscript o i pos')) pos.line X.env=pure false:=by rfl):ES X (.Assign [.Subscript o i pos'] e pos) (Uk we wo wi):=⟨Qi a h.h c.h b.h d⟩
structure EPs(X:Cx)(pos:Pos)(keys:List (Option Expr))(values:List Expr)(ws:List (WE×WE)):Prop where
 h:MPs X pos keys values ws
def I9:EPs X pos [] [] []:=⟨QR⟩
def lc{k v:Expr}{vs:List Expr}{wk:WE}(b:EE X k wk)(h:EE X v wv)(a:EPs X pos ks vs ws):EPs X pos (some k::ks) (v::vs) ((wk,wv)::ws):=⟨Jw b.h h.h a.h⟩
def IC{keys:List (Option Expr)}(h:EPs X pos keys values ws)(a:keys.all (·.isSome)=true:=by rfl)(d:keys.length=values.length:=by rfl)(c:keys≠[]:=by exact λz=>by cases z)(b:keys.length≤15:=by decide):EE X (.Dict keys values pos) (UC ws):=⟨P6 h.h a d c b⟩
end
end L2
namespace K
open PySem L2 M7
variable{ps:List (Nat×Nat)}
def Qr(ns:List Int)(p q:Int):aD:=.dict [(.str "script",.dict [(.none,.list (ns.map .int))]),(.str "turn",.int p),(.str "left",.int q)]
def TapeK(c:Nat)(t:aD):Prop:=∃(ns:List Int) (p q:Int),t=Qr ns p q/\ns.length≤63/\0≤p/\p≤c/\0≤q
def TapeK.mono{c c':Nat}{t:aD}(h:TapeK c t)(f:c≤c'):TapeK c' t:=by
 let⟨ns,p,q,e,d,b,g,a⟩:=h;exact⟨ns,p,q,e,d,b,by omega,a⟩
def zY:SpM:=λa K=>∃ns:List Int,a=[.imm (.list (ns.map .int))]/\ns.length≤63/\∀t,TapeK 0 t->K (.newT t) []
def vz:SpM:=λb K=>∃(t:aD) (m:Int) (c:Nat),b=[.tr t,.imm (.int m)]/\TapeK c t/\c<1000000000/\0<m/\m<1099511627776/\∀(r:Int) (a:aD),0≤r->r<m->TapeK (c+1) a->K (.imm (.int r)) [[a]]
def yB:SpM:=λa K=>∃rs:List Nat,a=[.imm (.list (rs.map λ(r:Nat)=>.int (r:Int)))]/\rs.length≤4/\(∀r∈rs,r≤6)/\K (.new ((M3.allR rs).map lnD)) []
def SvK(ps:List (Nat×Nat)):Prop:=1≤ps.length/\ps.length≤4/\∀p∈ps,1≤p.1/\p.1≤3/\1≤p.2/\p.2≤4
def bq(ps:List (Nat×Nat)):List Nat:=ps.map λp=>p.2
def jU(ps:List (Nat×Nat)):List (Nat×Nat):=ps.map λp=>(p.1,max 1 (p.2-1))
def IB(h:SvK ps):SvK (jU ps):=by
 refine⟨by simpa[jU]using h.1,by simpa[jU]using h.2.1,λp a=>?_⟩;let⟨q,b,rfl⟩:=aap.mp a;have:=h.2.2 q b;exact⟨this.1,this.2.1,by show 1≤max 1 (q.2-1);omega,by show max 1 (q.2-1)≤4;omega⟩
theorem CU:∀{rs:List Nat},(∀r∈rs,r≤1)->M7.cnt rs≤2^rs.length
 |[],_=>Mt _
 |r::rs,h=>by
  have c:=h r aaa;have b:=CU (rs:=rs) λx a=>h x (aab _ a);show(r+1)*M7.cnt rs≤2^(rs.length+1);rw[Nat.pow_succ,aeI];exact ad8 b (by omega)
theorem m6:∀{ps:List (Nat×Nat)},(∀p∈ps,1≤p.2)->(bq (jU ps)).sum≤(bq ps).sum/\((∃p∈ps,2≤p.2)->(bq (jU ps)).sum<(bq ps).sum)
 |[],_=>⟨Mt _,by intro⟨p,b,_⟩;cases b⟩
 |p::ps,h=>by
  have i:=m6 (ps:=ps) λx c=>h x (aab _ c);have b:=h p aaa;have e:(bq (jU (p::ps))).sum=max 1 (p.2-1)+(bq (jU ps)).sum:=by simp[bq,jU]
  have f:(bq (p::ps)).sum=p.2+(bq ps).sum:=by simp[bq]
  rw[e,f];refine⟨by have:=i.1;omega,λ⟨q,a,d⟩=>?_⟩;obtain rfl|a:=aae.mp a
  .have:=i.1;omega
  .have:=i.2 ⟨q,a,d⟩;omega
def SvK.six(h:SvK ps):(bq ps).length≤4/\∀r∈bq ps,r≤6:=by
 refine⟨by simpa[bq]using h.2.1,λr b=>?_⟩;let⟨p,a,rfl⟩:=aap.mp b;have:=(h.2.2 p a).2.2.2;omega
def SvK.rep(h:SvK ps){p:Nat×Nat}(a:p∈ps){n:Nat}(c:1≤n)(d:n≤4):SvK (aaz n p):=
 ⟨by rw[ac8];exact c,by rw[ac8];exact d,λq b=>by rw[List.eq_of_mem_replicate b];exact h.2.2 p a⟩
theorem zM{a:Type}(n:Nat)(x:a):(aaz n [x]).flatten=aaz n x:=by
 induction n with
 |zero=>rfl
 |succ n i=>rw[ach,ag0,i,ach];rfl
def Rz(p:Nat×Nat):aD:=.int (p.2:Int)
def topD(p:Nat×Nat):aD:=.int (p.1:Int)
def Sf(p:Nat×Nat):aD:=prD (p.1,max 1 (p.2-1))
def uK(ps:List (Nat×Nat)):ps.map Rz=(bq ps).map λ(r:Nat)=>.int (r:Int):=by rw[bq,aaW];rfl
def Ak(ps:List (Nat×Nat)):ps.map Sf=(jU ps).map prD:=by rw[jU,aaW];rfl
def srvK(wh:Nat)(p:Nat×Nat):Srv:=⟨p.1/p.1.gcd wh,wh/p.1.gcd wh,p.2⟩
def Dj{p wh:Nat}(c:1≤p)(f:p<1000000)(h:1≤wh)(e:wh<1000000):1≤p/p.gcd wh/\p/p.gcd wh<1000000/\1≤wh/p.gcd wh/\wh/p.gcd wh<1000000:=by
 have g:0<p.gcd wh:=afs _ h;have a:p.gcd wh≤wh:=Nat.gcd_le_right _ h;have b:p.gcd wh≤p:=Nat.gcd_le_left _ c;have d1:=Nat.div_le_self p (p.gcd wh);have d:=Nat.div_le_self wh (p.gcd wh);exact⟨Nat.div_pos b g,by omega,Nat.div_pos a g,by omega⟩
def vD(ps:List (Nat×Nat)):List Nat:=ps.map λp=>p.1
def FQ(ps:List (Nat×Nat)):ps.map topD=natD (vD ps):=by rw[vD,natD,aaW];rfl
theorem yw:∀{ps:List (Nat×Nat)},(∀p∈ps,p.1≤3)->(vD ps).sum≤3*ps.length
 |[],_=>Mt _
 |p::ps,h=>by
  have i:=yw (ps:=ps) λx a=>h x (aab _ a);have:=h p aaa;simp only[vD,aah,abC,aaq]at i⊢;omega
theorem sumK:∀l:List Nat,(l.map λ(x:Nat)=>(x:Int)).sum=((l.sum:Nat):Int)
 |[]=>rfl
 |x::l=>by rw[aah,abC,abC,sumK l,aeD]
def CF(l:List Nat):df (natD l)=some (l.map λ(k:Nat)=>(k:Int)):=by unfold natD;rw[show(l.map λ(k:Nat)=>ab4 (k:Int))=(l.map λ(k:Nat)=>(k:Int)).map .int by rw[aaW];rfl,fZ]
end K
namespace L2
open PySem PySem.Spec PyProof.Rows
variable{K:aad}{x:Str}
structure ConM(K:aad)(mg:Str->Option Ad)(x:Str)(d:aD):Prop where
 ex:∃(v:V) (u:Ad),mg x=some u/\RelV v u/\∀(w:World) (H:Hp),Den ⟨K,w⟩ H d v
structure ConK(K:aad)(x:Str)(d:aD):Prop where
 ex:∃(v:V) (u:Ad),aaF K aay x=some (some u)/\RelV v u/\∀(w:World) (H:Hp),Den ⟨K,w⟩ H d v
def ConK.m{mg:Str->Option Ad}{h:aaQ}{d:aD}(D:ConK K x d)(X:K.In h)(G:h.Ns aay mg):ConM K mg x d:=by
 let⟨v,u,a,r,q⟩:=D.ex;exact⟨v,u,afm X G a,r,q⟩
def ConK.str{z:Str}{t:Tok}(a:aaF K aay x=some (some (.str z t))):ConK K x (.str z):=⟨.str z,_,a,⟨t,rfl⟩,λ_ H=>by simp only[Den]⟩
def ConK.int{z:Int}{t:Tok}(a:aaF K aay x=some (some (.int z t))):ConK K x (.int z):=⟨.int z,_,a,⟨t,rfl⟩,λ_ H=>by simp[Den]⟩
theorem iB{K:Kd}{H:Hp}:∀a:List Str,DenAll K H (a.map .str) (a.map V.str)
 |[]=>by simp only[acn,DenAll]
 |z::a=>by
  simp only[aah,DenAll];exact⟨.str z,_,rfl,by simp only[Den],iB a⟩
section
variable {X:Cx}{a b o e:Expr}{g:List Expr}{B D:WE}{G:WA}{A f pos p:Pos}{tg:Expr}
theorem SU{d:aD}(C:ConM X.K X.mg x d)(i:Gl X x)(hd:(x==("__debug__" : Str))=false:=by decide):ME X (.Name x pos) (wC d):=by
 let⟨v,u,h,r,q⟩:=C.ex;exact QI (Re i h r hd) λl m n H k Q R j c=>c _ m v H j rfl R (q _ _) (Frm.refl _ _)
theorem jC{d:aD}(C:ConM X.K X.mg x d)(h:Gl X x)(hd:(x==("__debug__" : Str))=false:=by decide):EE X (.Name x pos) (wC d):=⟨SU C h hd⟩
def zn(x:Str):List aD:=x.cps.toList.map λc=>aei ⟨#[c]⟩
def Its(x:Str):It:=⟨λi _=>i<x.cps.size,λi H v d=>d=H/\∃c,x.cps[i]?=some c/\v = .str ⟨#[c]⟩,λi _=>x.cps.size≤i⟩
theorem Gg{P:aaI}{w:World}(n:Addr)(x:Str)(t:Tok):Turn P w K tg (Its x) [n] n (λi h=>h.IsStrIter n "str_ascii_iterator" x t i) where
 mem:=by simp
 obj:=λi h j c q=>by
  have e:c=n:=by simpa using q
  subst e;let⟨l,e,_,d⟩:=j;exact⟨l,e,λv z=>by rw[d]at z;cases z⟩
 keep:=λi h C j k=>let ⟨l,ho,r⟩:=j;⟨l,k n (by simp) l ho,r⟩
 item:=by
  intro X N T L U i m s V H E I y j M;subst N T L;let⟨J,S,Y,R,O,Q⟩:=y n (by simp);have F:i<x.cps.size:=M;refine wpAny_pyNext_ascii_item j (c:=x.cps[i]) (by simp[F]) λC u W=>?_;have Z:Inv X m V H {s with heap:=C,toks:=s.toks+1}:=I.turned (λb l q e=>(W.2 b q).trans e) J S R O Q;let⟨l,e,cl,d⟩:=id u;exact⟨_,rfl,GI (s:={s with heap:=C,toks:=s.toks+1}) e cl d (by decide) ⟨.str ⟨#[x.cps[i]]⟩,H,Z,⟨_,rfl⟩,⟨rfl,_,by simp[F],rfl⟩,u,λb q=>(y b q).1⟩⟩
 done:=by
  intro X N T L U i m s V H E I y j M;subst N T L;let⟨J,S,Y,R,O,Q⟩:=y n (by simp);have F:x.cps.size≤i:=M;exact wpAny_pyNext_ascii_end (I.ok.hd U) j (by simp[F]) λC eb=>⟨rfl,I.turned (t':=s.toks) (λb l q e=>eb b l q e) J S R O Q⟩
 self:=λ_ _ _ _ _ j h=>wpAny_pyIter_striter_ascii j h
def iStr(tl:TE):TI:=λd H R=>tl d H λv c=>∃x,v = .str x/\x.cps.all (· < 128)=true/\R (Its x) c
theorem UT{l:Expr}{tl:TE}(r:PE X l tl):PI X tg l (iStr tl):=by
 intro c s m H R I h;refine thn (r c s m H _ I h) λv s1 ⟨w,j,d,r1,i⟩=>?_;let⟨x,e,k,q⟩:=i;subst e;let⟨t,rfl⟩:=r1;refine wpAny_pyIter_ascii k ?_;refine⟨s1.heap.objs.size,[s1.heap.objs.size],_,_,j,rfl,d.kept (t':=s1.toks) λb u e=>GT _ e,Gg _ x t,⟨_,aak _ rfl,rfl,rfl⟩,λb n=>?_,q⟩;have e:b=s1.heap.objs.size:=by simpa using n
 subst e;exact d.fpOk (Mt _) (d.hok.fresh (Mt _))
def kO(x:Str):(zn x).length=x.cps.size:=by simp[zn]
theorem RQ{K:Kd}:Wks K (Its x) (zn x) λ_=>True where
 stop:=λH _=>by rw[kO];exact Mt _
 go:=λi H h _=>by rw[kO]at h;exact h
 yld:=λi H v j h _ y=>by
  rw[kO]at h;let⟨e,c,d,rfl⟩:=y;subst e;refine⟨λ_ _ z=>z,.str ⟨#[c]⟩,?_,by simp only[Den]⟩;unfold zn;rw[aao,ab1,d];rfl
abbrev Uc(D:WE):WI:=λm K=>D m λr c=>iA (λd=>∃x,d = .str x/\x.cps.all (· < 128)=true/\K ⟨zn x,none⟩ c) r
def ce{K:Kd}{H:Hp}{v:V}(h:Den K H (.str x) v):v = .str x:=by simpa only[Den]using h
theorem UW(t:ME X e D):MI X tg e (Uc D):=(UT (tg:=tg) t).wk<|by
 intro w H z ⟨s,m,y,q,u,c⟩;refine⟨s,m,_,q,u,λr i v h k n R rr F=>?_⟩
 cases r with
 |new _=>exact k.elim
 |obj j=>exact k.elim
 | «at» _ _=>exact k.elim
 |newT _=>exact k.elim
 |imm d=>
  let⟨x,rfl,l,k⟩:=k;have e:=ce (show Den X.kx h (.str x) v from rr);subst e;exact⟨x,rfl,l,c _ i _ h k n R F ⟨λ_=>True,RQ,trivial,λ_ _ _ _=>trivial⟩⟩
def Qo(h:EE X e D):EI X tg e (Uc D):=⟨UW h.h⟩
abbrev wMS(c:WM)(B:WE)(G:WA):WE:=λm K=>B m λr m1=>(∃x,r = .imm (.str x))/\G m1 λrs m2=>c r rs m2 K
theorem YF{name:Str}{id:String}{z:WM}(slot:Slot "str" name id)(s:agK (.builtin id)=pure (.type "method_descriptor"))(O:MtM X id (mM X.kx z))(N:ME X o B)(L:MA X (e::g) G)
  (c:abv o name X.env (eval o X.env)=eval o X.env:=by rfl)
  (i:((abn f (aac (e::g) X.env)).all (λx=>!x.1)&&(ac4 f (abY [] X.env)).all (λx=>x.1.isSome)
   && decide ((e::g).length+([]:List adm).length+(if ([]:List adm).isEmpty then 0 else 1)<30))=true:=by rfl)
  (d:(A.endLine==f.line)=true:=by rfl) (V:aac (e::g) X.env=(false,eval e X.env)::aac g X.env:=by first|exact aI rfl|rfl) (h:(abn f (aac g X.env)).any (·.1)=false:=by rfl) :
  ME X (.Call (.Attribute o name A) (e::g) [] f) (wMS z B G):=(Pc PySem.F.plainAttrs_str slot s O N L c i d V h).wk<|by
 intro M H Q ⟨y,m,P,E,U,u⟩;refine⟨y,m,_,E,U,λr m1 v C k n1 R rr I=>?_⟩;let⟨⟨x,rfl⟩,k⟩:=k;have T:=ce (show Den X.kx C (.str x) v from rr);subst T;refine⟨rfl,y,m1,_,R,k,λrs m2 vs W k2 n2 j t l=>?_⟩;exact⟨y,m2,M,H,C,.imm (.str x),rs,P,j,rr.keep E R l,t,k2,λr J v S k n w q F=>u r J v S k (n.trans (n2.trans n1)) w (q.base j (I.trans l)) ((I.trans l).trans F)⟩
theorem yp{name:Str}{id:String}{k:WM}(slot:Slot "str" name id)(j:agK (.builtin id)=pure (.type "method_descriptor"))(l:MtM X id (mM X.kx k))(n:EE X o B)(m:EA X (e::g) G)
  (d:abv o name X.env (eval o X.env)=eval o X.env:=by rfl)
  (i:((abn f (aac (e::g) X.env)).all (λx=>!x.1)&&(ac4 f (abY [] X.env)).all (λx=>x.1.isSome)
   && decide ((e::g).length+([]:List adm).length+(if ([]:List adm).isEmpty then 0 else 1)<30))=true:=by rfl)
  (c:(A.endLine==f.line)=true:=by rfl) (q:aac (e::g) X.env=(false,eval e X.env)::aac g X.env:=by first|exact aI rfl|rfl) (h:(abn f (aac g X.env)).any (·.1)=false:=by rfl) :
  EE X (.Call (.Attribute o name A) (e::g) [] f) (wMS k B G):=⟨YF slot j l n.h m.h d i c q h⟩
end
end L2
namespace L2
open PySem PySem.Spec PyProof.Rows Builtin.Str
variable{K:R->MSt->Prop}{Kr:R->Prop}
theorem ki:∀{ts:List Str}{i:List Ad},Vals (ts.map V.str) i->∃l:List (Str×Tok),i=ahg l/\l.map (·.1)=ts
 |[],_,.nil=>⟨[],rfl,rfl⟩
 |x::ts,_,.cons r rs=>by
  let⟨t,rfl⟩:=r;let⟨l,rfl,rfl⟩:=ki rs;exact⟨(x,t)::l,rfl,rfl⟩
theorem ko:∀l:List (Str×Tok),Vals ((l.map (·.1)).map V.str) (ahg l)
 |[]=>.nil
 |(x,t)::l=>.cons ⟨t,rfl⟩ (ko l)
section
variable {X:Cx}
def Uo:WM:=λr rs m K=>on1 (λa=>∃s ds ts,r = .imm (.str s)/\lsOf m a=some ds/\ds=ts.map .str/\JoinOk s ts=true/\K (.imm (.str (ad9 s ts))) m) rs
def rE:MtM X "str.join" (mM X.kx Uo):=by
 intro p s z H x G v L Q I A E ⟨T,m,N,P,J,r,rs,S,R,w,e,h,d⟩;let⟨O,F,rfl,rfl,e,c,ds,ts,rfl,D,q,o,h⟩:=de e h;have j:=ce (show Den X.kx H (.str c) x from w);subst j;let⟨t,rfl⟩:=A;let⟨a,U,rfl,f,g⟩:=e.list R D;rw[q]at g;have B:=fH g;subst B;let⟨u,rfl,i⟩:=E.one;cases i;let⟨y,b,n,_⟩:=I.list f;let⟨l,rfl,C⟩:=ki b;exact SC.join n.isList C o λM k=>⟨.str _,H,I.tok _,⟨_,rfl⟩,d _ _ _ H h rfl R (j2 (by simp only[Den])) (Frm.refl _ _)⟩
def FE{m:MSt}{r2:R}{s:Str}{ts:List Str}(e:lsOf m r2=some (ts.map .str))(a:JoinOk s ts=true)(h:K (.imm (.str (ad9 s ts))) m):Uo (.imm (.str s)) [r2] m K:=⟨s,_,ts,rfl,e,rfl,a,h⟩
def K6:WM:=λr rs m K=>on1 (iA λd=>∃x y,r = .imm (.str x)/\d = .str y/\(y.length==0)=false/\x.length≤1000000/\K (.new ((abq x y).map .str)) m) rs
def DI:MtM X "str.split" (mM X.kx K6):=by
 intro p s j H x D v G Q I B C ⟨O,m,J,M,F,r,rs,N,R,A,k,c,i⟩;let⟨L,o,rfl,rfl,k,c⟩:=de k c;let⟨d,rfl,hd,a,y,rfl,rfl,n,E,c⟩:=eF k c;have e:=ce (show Den X.kx H (.str a) x from A);subst e;have e:=ce (show Den X.kx H (.str y) o from hd);subst e;let⟨t,rfl⟩:=B;let⟨w,rfl,u,rfl⟩:=C.one;have f:a.length≤aam:=by rw[aag];omega
 have go:∀(l:List (Str×Tok)) (g:Nat),l.map (·.1)=abq a y->EP X p j Q (.ref s.heap.objs.size) {s with toks:=g,heap:=s.heap.push {cls:=.type "list",data:=.seq (ahg l).toArray} }:=by
  intro l g q;have h:H s.heap.objs.size=none:=I.hok.fresh (Mt _);have b:((abq a y).map V.str).length≤aam:=by
   have:=agd a y;rw[iO,aag];omega
  refine⟨.ref s.heap.objs.size,_,I.laid (t':=g) (λ_ _=>GT _) (Mt _) (show ObjOk X.prog X.w _ _ _ (.lst ((abq a y).map V.str))from⟨b,ahg l,0,by rw[<-q];exact ko l,aak _ rfl⟩),rfl,?_⟩;exact i _ _ _ _ c rfl (R.lay h) ⟨_,_,rfl,h,aB,iB _⟩ (cu h)
 cases c1:(decide (a.length<y.length)||decide (strKind a<strKind y))
 .cases hf:(occurrences a y 0 a.length (a.length+1)).isEmpty
  .have es:abq a y=partsBetween a (occurrences a y 0 a.length (a.length+1)) y.length:=(if_neg (ne_true_of_eq_false c1)).trans (if_neg (ne_true_of_eq_false hf));have z:(partsBetween a (occurrences a y 0 a.length (a.length+1)) y.length).length≤aam:=by
    have:=agd a y;rw[es]at this;rw[aag];omega
   refine acX ac0 (afO _ _ _) adX (adI _ _) (meets_str_split_sep a y t u c1 n hf f z) ?_;have:=go (numbered s.toks (partsBetween a (occurrences a y 0 a.length (a.length+1)) y.length)) (s.toks+(partsBetween a (occurrences a y 0 a.length (a.length+1)) y.length).length) (by rw[numbered_texts,es]);rw[<-strsFrom_eq]at this;exact this
  .exact acX ac0 (afO _ _ _) adX (adI _ _) (meets_str_split_not_found a y t u c1 n hf) (go [(a,t)] s.toks ((if_neg (ne_true_of_eq_false c1)).trans (if_pos hf)).symm)
 .exact acX ac0 (afO _ _ _) adX (adI _ _) (meets_str_split_cannot_occur a y t u c1) (go [(a,t)] s.toks (if_pos c1).symm)
def Ph{m:MSt}{x y:Str}(a:(y.length==0)=false)(b:x.length≤1000000)(h:K (.new ((abq x y).map .str)) m):K6 (.imm (.str x)) [.imm (.str y)] m K:=⟨x,y,rfl,rfl,a,b,h⟩
def oStr:WC:=λrs m K=>on1 (BP λi=>i.natAbs.log2<1920/\K (.imm (.str (agX i)))) rs
def gU:d3 X (.type "str") (cM X.kx oStr):=by
 intro p s b H x u Q I e ⟨l,m,g,j,rs,k,R,h,a,f⟩;let⟨r,v,rfl,rfl,d,a⟩:=de h a;let⟨i,rfl,rfl,c,a⟩:=Fi d a;exact uV p s b H _ u Q I e ⟨i,rfl,c,f _ _ H a R (j2 (by simp only[Den])) (Frm.refl _ _)⟩
def Db{m:MSt}{i:Int}(a:i.natAbs.log2<1920)(h:Kr (.imm (.str (agX i)))):oStr [.imm (.int i)] m Kr:=⟨a,h⟩
def SK:WC:=λrs m K=>on1 (iA λd=>∃x n,d = .str x/\ae2 x=some n/\x.length≤640/\K (.imm (.int n))) rs
def p7:d3 X (.type "int") (cM X.kx SK):=by
 intro p s g H k u Q I j ⟨y,m,l,o,rs,q,R,h,a,f⟩;let⟨r,v,rfl,rfl,c,a⟩:=de h a;let⟨d,rfl,hd,x,n,rfl,b,i,a⟩:=eF c a;have e:=ce (show Den X.kx H (.str x) v from hd);subst e;let⟨w,rfl,t,rfl⟩:=j.one;exact PySem.W.KIN.call_text b i ⟨.int n,H,I.tok _,⟨_,rfl⟩,f _ _ H a R (gq _) (Frm.refl _ _)⟩
def Bt{m:MSt}{x:Str}{n:Int}(a:ae2 x=some n)(b:x.length≤640)(h:Kr (.imm (.int n))):SK [.imm (.str x)] m Kr:=⟨x,n,rfl,a,b,h⟩
def inS(i j:Str):Bool:=!(afy j i 0 j.length 1).isEmpty
def oInS(n:Bool):WO:=λr1 r m K=>iA (λd1=>iA (λd=>∃i j,d1 = .str i/\d = .str j/\K (.imm (.bool (if n then !inS i j else inS i j)))) r) r1
def zo:OpR X (aaS .NotIn) (rM X.kx (oInS true)):=by
 intro p s b H x y v u Q I o r ⟨D,m,z,B,w,r1,A,C,R,l,q,c,f⟩;let⟨d1,rfl,a,c⟩:=eF l c;let⟨t,k,h,i,j,g,n,d⟩:=eF q c;subst k g n;have e:=ce (show Den X.kx H (.str i) x from a);subst e;have e:=ce (show Den X.kx H (.str j) y from h);subst e;exact uA p s b H _ _ v u Q I o r ⟨i,j,rfl,rfl,f _ _ H d R (j2 (by simp only[Den];rfl)) (Frm.refl _ _)⟩
def YH{m:MSt}{i j:Str}{n:Bool}(h:Kr (.imm (.bool (if n then !inS i j else inS i j)))):oInS n (.imm (.str i)) (.imm (.str j)) m Kr:=⟨i,j,rfl,rfl,h⟩
end
end L2
namespace K
open PySem L2 M7
def jl(c:Nat):List (List Nat)->List Nat
 |[]=>[]
 |[x]=>x
 |x::r=>x++c::jl c r
theorem jZ(c:Nat):∀ts:List Str,(aes ⟨#[c]⟩ ts).cps.toList=jl c (ts.map λx=>x.cps.toList)
 |[]=>rfl
 |[x]=>rfl
 |x::y::r=>by
  have i:=jZ c (y::r);show(x++⟨#[c]⟩++aes ⟨#[c]⟩ (y::r)).cps.toList=_;have e:(x++(⟨#[c]⟩:Str)++aes ⟨#[c]⟩ (y::r)).cps=x.cps++#[c]++(aes ⟨#[c]⟩ (y::r)).cps:=rfl;rw[e,agx,agx,i];simp[jl]
theorem Fu{c:Nat}:∀{x y A B:List Nat},c∉x->c∉y->x++c::A=y++c::B->x=y/\A=B
 |[],[],A,B,_,_,h=>⟨rfl,(aen h).2⟩
 |[],b::y,A,B,_,hy,h=>by
  have:=(aen h).1;subst this;exact(hy aaa).elim
 |a::x,[],A,B,hx,_,h=>by
  have:=(aen h).1;subst this;exact(hx aaa).elim
 |a::x,b::y,A,B,hx,hy,h=>by
  let⟨f,e⟩:=aen h;let⟨g,d⟩:=Fu (λz=>hx (aab _ z)) (λz=>hy (aab _ z)) e;exact⟨by rw[f,g],d⟩
theorem JW{c:Nat}:∀{a b:List (List Nat)},a≠[]->b≠[]->(∀x∈a,c∉x)->(∀x∈b,c∉x)->jl c a=jl c b->a=b
 |[],_,h,_,_,_,_=>(h rfl).elim
 |_::_,[],_,h,_,_,_=>(h rfl).elim
 |[x],[y],_,_,_,_,h=>by rw[show x=y from h]
 |[x],y::z::r,_,_,ha,hb,h=>by
  have e:x=y++c::jl c (z::r):=h;exact(ha x aaa (by rw[e];simp)).elim
 |x::z::r,[y],_,_,ha,hb,h=>by
  have e:x++c::jl c (z::r)=y:=h;exact(hb y aaa (by rw[<-e];simp)).elim
 |x::z::r,y::f::r',_,_,ha,hb,h=>by
  let⟨i,g⟩:=Fu (ha x aaa) (hb y aaa) (show x++c::jl c (z::r)=y++c::jl c (f::r')from h);rw[i,JW (by simp) (by simp) (λw d=>ha w (aab _ d)) (λw d=>hb w (aab _ d)) g]
def uZ{x y:Str}(h:x.cps.toList=y.cps.toList):x=y:=by
 cases x;cases y
 congr 1
 exact Array.ext' h
theorem nr:∀{a b:List Str},(a.map λx=>x.cps.toList)=(b.map λx=>x.cps.toList)->a=b
 |[],[],_=>rfl
 |[],_::_,h=>by cases h
 |_::_,[],h=>by cases h
 |x::a,y::b,h=>by
  let⟨d,c⟩:=aen h;rw[uZ d,nr c]
def yK{c:Nat}{ts:List Str}(h:ts≠[])(b:∀x∈ts,c∉x.cps.toList):abq (aes ⟨#[c]⟩ ts) ⟨#[c]⟩=ts:=by
 refine nr (JW (c:=c) ?_ ?_ ?_ ?_ ?_)
 .intro z;have e:=adv.mp z;have:=afV (aes ⟨#[c]⟩ ts) ⟨#[c]⟩;rw[e]at this;exact absurd this (by decide)
 .intro z;exact h (adv.mp z)
 .intro x hx;let⟨p,a,rfl⟩:=aap.mp hx;exact StrLaws.split_free _ c p a
 .intro x hx;let⟨p,a,rfl⟩:=aap.mp hx;exact b p a
 .rw[<-jZ,<-jZ,agR]
def fig(p:Nat):Str:=agX (p:Int)
def C8{p:Nat}(h:p<10):(32∉(fig p).cps.toList)/\(fig p).length=1/\(fig p).cps.all (· < 128)=true/\inS (fig p) "0123456789" = true/\ae2 (fig p)=some (p:Int)/\((fig p == "")=false)/\(fig p).cps.toList.map (λc=>(⟨#[c]⟩:Str))=[fig p]:=by
 rcases (show p=0\/p=1\/p=2\/p=3\/p=4\/p=5\/p=6\/p=7\/p=8\/p=9 by omega)with rfl|rfl|rfl|rfl|rfl|rfl|rfl|rfl|rfl|rfl<;>exact⟨by decide +kernel,by decide +kernel,by decide +kernel,by decide +kernel,by decide +kernel,by decide +kernel,by decide +kernel⟩
theorem Ll(c:Nat):∀a:List (List Nat),(jl c a).length≤(a.map ab9).sum+a.length
 |[]=>Mt _
 |[x]=>by simp[jl]
 |x::y::r=>by
  have i:=Ll c (y::r);show(x++c::jl c (y::r)).length≤_;rw[aal,aaq,aah,abC,aaq];omega
theorem LG{c d:Nat}:∀{a:List (List Nat)},d∈jl c a->d=c\/∃x∈a,d∈x
 |[],h=>by cases h
 |[x],h=>.inr ⟨x,aaa,h⟩
 | x::y::r,h=>by
  rcases aaG.mp (show d∈x++c::jl c (y::r)from h)with h|h
  .exact .inr ⟨x,aaa,h⟩
  .rcases aae.mp h with h|h
   .exact .inl h
   .rcases LG h with h|⟨z,hz,h⟩
    .exact .inl h
    .exact .inr ⟨z,aab _ hz,h⟩
end K
namespace HT
open PySem PySem.Spec PyProof.Rows
section
variable {prog:aaI}{w:World}{A:abc}{E:Ad->Io->Prop}{s:Io}
theorem rev_items(xs:Array Ad):((aaL xs.size).filterMap λ(m:Nat)=>xs[((xs.size:Int)-1+(m:Int) * -1).toNat]?)=xs.toList.reverse:=by
 apply ade;intro i;have c:∀k,k≤xs.size->((aaL k).filterMap λ(m:Nat)=>xs[((xs.size:Int)-1+(m:Int) * -1).toNat]?)=(aaL k).map λm=>xs.getD (xs.size-1-m) .none:=by
  intro k
  induction k with
  |zero=>intro _;rfl
  | succ k b=>
   intro f;rw[adM,List.filterMap_append,aaw,b (by omega)];have e:((xs.size:Int)-1+(k:Int) * -1).toNat=xs.size-1-k:=by omega
   have h:xs.size-1-k<xs.size:=by omega
   have d:(List.filterMap (λ(m:Nat)=>xs[((xs.size:Int)-1+(m:Int) * -1).toNat]?) [k])=[xs.getD (xs.size-1-k) .none]:=by
    rw[adt,e,ab0 h];simp[h]
   rw[d];rfl
 rw[c xs.size (Mt _)]
 by_cases a:i<xs.size
 .rw[aao,aci a,List.getElem?_reverse (by simpa using a)];have h:xs.size-1-i<xs.size:=by omega
  simp[h]
 .rw[age (by simp;omega),age (by simp;omega)]
end
end HT
namespace L2
open PySem PySem.Spec PyProof.Rows
section
variable {X:Cx}{a b e s:Expr}{c w:WE}{pos p:Pos}
theorem yn:∀{xs:List V}{us:List Ad},Vals xs us->Vals xs.reverse us.reverse
 |_,_,.nil=>.nil
 |_,_,.cons r rs=>by
  rw[adf];rw[adf];exact(yn rs).append (.cons r .nil)
theorem B5{K:Kd}{H:Hp}:∀{ds:List aD}{xs:List V},DenAll K H ds xs->DenAll K H ds.reverse xs.reverse
 |[],xs,h=>by
  have:xs=[]:=by simpa only[DenAll]using h
  subst this;simp only[List.reverse_nil,DenAll]
 |d::ds,xs,h=>by
  simp only[DenAll]at h;let⟨v,vs,rfl,f,g⟩:=h;rw[adf];rw[adf];exact(B5 g).append (by simp only[DenAll];exact⟨v,[],rfl,f,rfl⟩)
end
end L2
namespace K
open PySem L2 M7
mutual
def Gd(b:Nat):aD->Prop
 | .none=>True
 | .bool _=>True
 | .int i=>i.natAbs≤b
 | .str x=>x.length≤b/\x.cps.all (· < 128)=true
 | .list ds=>GdA b ds
 | .tuple ds=>GdA b ds
 | .dict _=>False
def GdA(b:Nat):List aD->Prop
 |[]=>True
 |d::ds=>Gd b d/\GdA b ds
end
theorem BR{b:Nat}:∀{ds:List aD},GdA b ds↔∀d∈ds,Gd b d
 |[]=>by simp[GdA]
 |d::ds=>by simp[GdA,BR (ds:=ds)]
def inW(a b:Int):aD->Bool
 | .int i=>decide (a≤i)&&decide (i≤b)
 |_=>false
def isWh:aD->Bool
 | .int _=>true
 |_=>false
def tupN(n:Nat):aD->Bool
 | .tuple ds=>decide (ds.length=n)
 |_=>false
def QG:aD->Bool
 | .tuple _=>true
 |_=>false
def Ui(d:aD):(tyR (.imm d) == "tuple")=QG d:=by cases d<;>rfl
def OZ{d:aD}(h:QG d=false)(n:Nat):tupN n d=false:=by cases d<;>first|rfl|cases h
def gd_tup{b:Nat}{ds:List aD}:Gd b (.tuple ds)↔∀d∈ds,Gd b d:=by simp only[Gd];exact BR
end K
namespace L2
open PySem PySem.Spec PySem.W PyProof.Rows
def runC{b:Type}(n:Nat)(f:Nat->Nat->Bool):KasT b->Option b
 | .ret a=>some a
 | .ask i j k=>if i<n/\j<n then runC n f (k (f i j))else none
theorem AK{d:Type}{n:Nat}{f:Nat->Nat->Bool}{c:Nat->Nat->(Bool->Io->Prop)->Io->Prop}{s:Io}(g:∀i j C,i<n->j<n->C (f i j) s->c i j C s){Q:d->Io->Prop}:∀(t:KasT d) (a:d),runC n f t=some a->Q a s->t.kasWp c Q s
 | .ret b,a,e,q=>by
  have l:=aar e;subst l;exact q
 | .ask i j k,a,e,q=>by
  unfold runC at e
  split at e
  .rename_i h;exact g i j _ h.1 h.2 (AK g _ a e q)
  .cases e
section
variable {X:Cx}
theorem wQ{K:Kd}{H:Hp}{ds:List aD}{xs:List V}(g:DenAll K H ds xs):∀p:List Nat,DenAll K H (p.map λi=>ds.getD i .none) (p.map λi=>xs.getD i .non)
 |[]=>by simp only[acn,DenAll]
 | i::p=>by
  simp only[aah];refine⟨_,_,rfl,?_,wQ g p⟩
  cases e:ds[i]? with
  |some d=>
   let⟨v,a,hd⟩:=g.get e;rw[bJ e,bJ a];exact hd
  |none=>
   have a:xs[i]?=none:=by rw[List.getElem?_eq_none_iff]at e⊢;rw[<-g.length];exact e
   rw[aaA,aaA,e,a];rfl
theorem tF{xs:List V}{us:List Ad}(r:Vals xs us):∀p:List Nat,Vals (p.map λi=>xs.getD i .non) (p.map λi=>us.getD i .none)
 |[]=>.nil
 | i::p=>by
  rw[aah,aah];refine .cons ?_ (tF r p)
  cases e:xs[i]? with
  |some x=>
   let⟨u,a,h⟩:=r.get e;rw[bJ e,bJ a];exact h
  |none=>
   rw[aaA,aaA,e,r.none_of e];rfl
end
end L2
namespace K
open PySem L2 M7
def fitD:List Nat->List aD->Bool
 |r::rs,d::ds=>inW 0 (r:Int) d&&fitD rs ds
 |[],[]=>true
 |_,_=>false
theorem yu:∀{rs:List Nat}{ds:List aD},fitD rs ds=true->ds.length=rs.length
 |[],[],_=>rfl
 |r::rs,d::ds,h=>by
  simp only[fitD,aaE]at h;rw[aaq,aaq,yu h.2]
 |[],_::_,h=>by cases h
 |_::_,[],h=>by cases h
theorem DJ:∀{rs:List Nat}{ds:List aD}{i r:Nat}{d:aD},fitD rs ds=true->rs[i]?=some r->ds[i]?=some d->inW 0 (r:Int) d=true
 |r::rs,d::ds,0,r',d',h,e1,e2=>by
  simp only[fitD,aaE]at h
  cases e1;cases e2;exact h.1
 |r::rs,d::ds,i+1,r',d',h,e1,e2=>by
  simp only[fitD,aaE]at h;exact DJ h.2 (by simpa using e1) (by simpa using e2)
 |[],_,_,_,_,_,e1,_=>by simp at e1
 |_::_,[],_,_,_,h,_,_=>by cases h
theorem vJ:∀{rs:List Nat}{ds:List aD},ds.length=rs.length->(∀(i r:Nat) (d:aD),rs[i]?=some r->ds[i]?=some d->inW 0 (r:Int) d=true)->fitD rs ds=true
 |[],[],_,_=>rfl
 |r::rs,d::ds,hl,h=>by
  simp only[fitD,aaE];exact⟨h 0 r d rfl rfl,vJ (by simpa using hl) λi r d e a=>h (i+1) r d (by simpa using e) (by simpa using a)⟩
 |[],_::_,hl,_=>nomatch hl
 |_::_,[],hl,_=>nomatch hl
def jE(h:Hall):aD->Bool
 | .tuple ds=>fitD h.rs ds
 |_=>false
theorem Yl{n:Nat}{d:aD}(e:tupN n d=true):∃ds,d = .tuple ds/\ds.length=n:=by
 cases d with
 |tuple ds=>exact⟨ds,rfl,by simpa[tupN]using e⟩
 |_=>cases e
theorem CB(h:Hall){d:aD}(e:tupN h.ss.length d=false):jE h d=false:=by
 cases d with
 | tuple ds=>
  cases q:jE h (.tuple ds)with
  |false=>rfl
  |true=>
   have:=yu q;rw[h.rsl]at this;simp[tupN,this]at e
 |_=>rfl
def oy(n:Nat)(os:List (List Nat)):List (List Nat):=os.flatMap λa=>((aaL n).filter λl=>!a.contains l).map λl=>a++[l]
def ordK(n:Nat):Nat->List (List Nat)
 |0=>[[]]
 |k+1=>oy n (ordK n k)
def zr{n:Nat}{os:List (List Nat)}{j:Nat}{a:List Nat}(h:os[j]?=some a):oy n (os.take (j+1))=oy n (os.take j)++((aaL n).filter λl=>!a.contains l).map λl=>a++[l]:=by
 unfold oy;rw[abb,h];simp
def pj:∀n≤4,∀k≤4,(ordK n k).length≤24/\∀a∈ordK n k,a.length≤4/\∀x∈a,x≤3:=by decide +kernel
def ox:∀n≤4,∀k≤3,∀j≤24,(oy n ((ordK n k).take j)).length≤24:=by decide +kernel
end K
namespace L2
open PySem PySem.Spec PyProof.Rows
variable{i:Int}{j:Nat}{p3 p4:Pos}{ds ts:List aD}{kvs:List (aD×aD)}{H:Hp}{K:Kd}{xs:List (aD×Addr×Ad)}{a:Addr}{es:List (Key×V)}{Q:Ad->Io->Prop}
section
variable {X:Cx}{a b e n:Expr}{d c:WE}{pos l:Pos}
theorem Jz(xs:Array Ad):ahb xs none none (some (-1))=xs.toList.reverse.toArray:=by
 unfold ahb
 congr 1
 rw[<-HT.rev_items xs];show(sliceRange ((xs.size:Int)-1) (-1) (-1)).filterMap _=_;unfold sliceRange;rw[if_neg (by decide)];have e:(if ((xs.size:Int)-1) > -1 then(((xs.size:Int)-1) - -1 - -1-1)/(- -1)else 0).toNat=xs.size:=by
  by_cases h:((xs.size:Int)-1) > -1
  .rw[if_pos h,show(- -1:Int)=1 from rfl,Int.ediv_one];omega
  .rw[if_neg h];omega
 simp only[e,agI]
 congr 1
 funext m
 show xs[((xs.size:Int)-1 + -1*(m:Int)).toNat]?=_;rw[Int.mul_comm]
def Xt(K:aad)(t ts:TE):TE:=λg H Q=>t g H λx h=>ts g h λy f=>∃p xs,x = .ref p/\y = .int (-1)/\SqL K f p xs/\∀q,f q=none->Q (.ref q) (upd f q (.lst xs.reverse))
theorem RE{F ts:TE}(U:PE X e F)(z:PE X (.UnaryOp .USub (.Constant (.int i) j p3) p4) ts):PE X (.Subscript e (.Slice none none (some (.UnaryOp .USub (.Constant (.int i) j p3) p4)) l) pos) (Xt X.K F ts):=by
 intro f s k H Q I h;refine agJ (thn (U f s k H _ I h) λv s1 ⟨x,M,S,r1,P⟩=>?_);refine wpAny_Slice ?_;rw[evalPart_none];refine LD (a:=_) (LD ?_);rw[evalPart_some];refine thn (z f s1 k M _ S P) λvs g ⟨y,C,R,T,O⟩=>?_;let⟨p,xs,rfl,rfl,N,q⟩:=O;cases r1;let⟨t,rfl⟩:=T;have m:Inv X f k C {g with heap:=g.heap.push {cls:=.type "slice",data:=.fields #[.none,.none,.int (-1) t]} }:=R.kept (t':=g.toks) λb V q=>GT _ q;let⟨u,G,D,J⟩:=m.list N;have B:=G.length;have r:C {g with heap:=g.heap.push {cls:=.type "slice",data:=.fields #[.none,.none,.int (-1) t]} }.heap.objs.size=none:=m.hok.fresh (Mt _);have L:=afk (prog:=X.prog) (w:=X.w) (A:=X.A) (E:=X.xe) (Q:=EP X f k Q) (s:={g with heap:=g.heap.push {cls:=.type "slice",data:=.fields #[.none,.none,.int (-1) t]} }) (sl:=g.heap.objs.size) D.isList ⟨_,aak _ rfl,rfl,rfl⟩ .none .none (.int (-1) t) (by decide) (by
  rw[Jz];exact⟨.ref _,_,m.laid (t':=g.toks) (o:=.lst xs.reverse) (λ_ _=>GT _) (Mt _) ⟨by rw[agy];exact J,u.reverse,0,yn G,aak _ rfl⟩,rfl,q _ r⟩) (by rw[aaK];omega)
 show wpAny (model X.prog X.w) X.A (agF e (.Slice none none (some (.UnaryOp .USub (.Constant (.int i) j p3) p4)) l) (.ref p) (.ref g.heap.objs.size)) (EP X f k Q) X.xe {g with heap:=g.heap.push {cls:=.type "slice",data:=.fields #[.none,.none,.int (-1) t]} };exact tail_any (ops:=[.ref p,.ref g.heap.objs.size]) D.isList.typeIs afe.lookup L (by with_unfolding_all rfl)
abbrev U4(d c:WE):WE:=λm K=>d m λr m1=>c m1 λf m2=>∃ds,lsOf m2 r=some ds/\f = .imm (.int (-1))/\K (.new ds.reverse) m2
theorem M6(C:ME X e d)(t:ME X (.UnaryOp .USub (.Constant (.int i) j p3) p4) c):ME X (.Subscript e (.Slice none none (some (.UnaryOp .USub (.Constant (.int i) j p3) p4)) l) pos) (U4 d c):=(RE C t).wk<|by
 intro G H Q ⟨u,m,J,w,D,s⟩;refine⟨u,m,_,w,D,λr m1 v E k n1 h rr x=>⟨u,m1,_,h,k,λI m2 z y k2 n2 R p F=>?_⟩⟩;let⟨ds,A,rfl,k2⟩:=k2;let⟨a,xs,rfl,f,g⟩:=(rr.keep w h F).list R A;have B:=aF (show Den X.kx y (.int (-1)) z from p);subst B;refine⟨a,xs,rfl,rfl,f,λq o=>?_⟩;exact s _ m2 _ _ k2 (n2.trans n1) (R.lay o) ((show RelR X.kx.toKd u y _ (.new ds.reverse) (.ref q)from⟨q,_,rfl,o,aB,(B5 g).mono (bu (.inl o))⟩).base R (x.trans F)) ((x.trans F).trans (cu o))
def IM(f:EE X e d)(h:EE X (.UnaryOp .USub (.Constant (.int i) j p3) p4) c):EE X (.Subscript e (.Slice none none (some (.UnaryOp .USub (.Constant (.int i) j p3) p4)) l) pos) (U4 d c):=⟨M6 f.h h.h⟩
end
section
variable {X:Cx}{s:Stmt}{w:WS}
def zL(d:aD):iQ (lfD d)=some d:=by cases d<;>rfl
theorem fzKK{K:Kd}{H:Hp}{τ:List (List Nat×Addr)}{p:List Nat}:∀{kvs:List (aD×aD)}{i:Nat}{es:List (Key×V)},TAtK K H τ p i (lfKV kvs) es->DenKK K H kvs es
 |[],_,_,h=>by simpa[ TAtK]
 |(k,d)::r,i,es,h=>by
  let⟨c,v,vs,rfl,e,b,g⟩:=h;exact⟨c,v,vs,rfl,e,jz b (zL d),fzKK g⟩
end
noncomputable instance instDecPyData:DecidableEq aD:=λa b=>Classical.propDecidable (a=b)
mutual
def j9:aD->Nat
 | .int _=>1
 | .str _=>1
 | .tuple ds=>fy ds+1
 |_=>0
def fy:List aD->Nat
 |[]=>0
 |d::ds=>j9 d+fy ds
end
def kyD(d:aD):Bool:=(match d with| .tuple _=>true|_=>false)&&(hkD d&&(d.canLay0&&decide (d.depth≤7)))
theorem iC{d:aD}(h:kyD d=true):∃ds,d = .tuple ds/\hkA ds=true/\d.canLay0=true/\d.depth≤7:=by
 unfold kyD at h;rw[aaE,aaE,aaE,decide_eq_true_eq]at h
 cases d with
 |tuple ds=>exact⟨ds,rfl,by simpa[hkD]using h.2.1,h.2.2.1,h.2.2.2⟩
 |_=>simp at h
section
variable {w:World}{prog:aaI}
theorem um(w:World):∀a b:List aD,i6 w (a++b)=i6 w a++i6 w b
 |[],b=>by simp[i6]
 |d::a,b=>by simp[ i6,um w a b]
theorem pK:∀a b:List aD,fy (a++b)=fy a+fy b
 |[],b=>by simp[fy]
 |d::a,b=>by simp[ fy,pK a b];omega
theorem vG:∀{ds:List aD}{d:aD},hkA ds=true->d∈ds->hkD d=true
 |x::ds,d,h,a=>by
  simp[hkA]at h;obtain rfl|a:=aae.mp a
  .exact h.1
  .exact vG h.2 a
theorem kg{d:aD}(h:d∈ds):d.depth≤aaC ds:=by
 induction ds with
 |nil=>cases h
 |cons x ds i=>
  show _≤max x.depth _
  grind
mutual
theorem pH:∀(d:aD) {A:abc}{E:Ad->Io->Prop}{s:Io}{v:Ad}{as:List Addr}{Q:Int->Io->Prop},hkD d=true->Reads s.heap v d as->A.units+d.depth<cLine->Q (iz w d) {s with toks:=s.toks+j9 d}->wpAny (model prog w) A (pyHash v) Q E s
 | .int i,A,E,s,v,as,Q,_,r,_,h=>by
  cases r;exact wpAny_pyHash_int (by simpa only[iz,j9]using h)
 | .str x,A,E,s,v,as,Q,_,r,_,h=>by
  cases r;exact wpAny_pyHash_str (by simpa only[iz,j9]using h)
 | .tuple ds,A,E,s,v,as,Q,hk,r,hu,h=>by
  cases r with
  | @tuple a o vs n _ _ ho hc hd f=>
   have k:s.TypeIs (.ref a) "tuple":=⟨o,ho,hc⟩;have t:A.units<cLine:=Nat.lt_of_le_of_lt (ab5 _ _) hu;have u:∀{P:Option Ad->Io->Prop},P (some (.builtin "tuple.__hash__")) s->wpAny (model prog w) A (ahh (.ref a) "__hash__") P E s:=λp=>aeC k afi.lookup p;simp only[iz,j9]at h;refine gT (m:=cRoomFor "hash" [.ref a]) (wpAny_cRoomFor_or (.inr t) (gT (m:=ahh _ _) (u ?_)));rw[if_neg (show ¬(some (Ad.builtin "tuple.__hash__")==some afG)=true by rw[beq_builtin_none];decide)];refine gT (m:=ahh _ _) (u (gT (m:=callSpecialIfBoundUnlessNone? (.ref a) "__hash__" _) ?_));refine wpAny_callSpecialIfBoundUnlessNone?_slot k afi (aa2 afi k F.entry_tuple_hash (gT (m:=adi (.ref a)) (wpAny_tupleItemsOf ho hd ?_)) (F.args_tuple_hash_1 _));refine gT ?_;rw[<-agS];refine aej _
    (λrest (b:Array Int) j=>∃done left bs,ds=done++left/\adF s.heap rest left bs/\b.toList=i6 w done/\j={s with toks:=s.toks+fy done})
    _ ?_ ?_ _ _ ⟨[],ds,_,rfl,f,by simp[i6],by simp[fy]⟩
   .rintro x rest b j ⟨done,left,bs,hds,hl,hb,rfl⟩
    cases hl with
    | @cons _ _ d ds' as1 bs1 r1 r2=>
     have q:d∈ds:=by rw[hds];simp
     refine gT (xz ds d q (vG (by simpa only[hkD]using hk) q) (s:={s with toks:=s.toks+fy done}) r1 ?_ ?_)
     .have:=kg q;have e:(ac1 ds).depth=aaC ds+1:=rfl;show A.units+1+d.depth<cLine;omega
     .have fin:∃c l g,ds=c++l/\adF s.heap rest l g/\(b.push (iz w d)).toList=i6 w c/\({s with toks:=s.toks+fy done+j9 d}:Io)={s with toks:=s.toks+fy c }:=by
       refine⟨done++[d],ds',_,by rw[hds];simp,r2,?_,?_⟩
       .rw[Array.toList_push,hb,um];simp[i6]
       .rw[pK,afo];simp[fy]
      first
       |exact LD fin
       |exact gT (LD (LD fin))
   .rintro b j ⟨done,left,bs,hds,hl,hb,rfl⟩;cases hl;rw[aaZ]at hds;subst hds;change wpAny _ _ (retInt (abE (b.toList:List Int))) _ _ _;rw[hb];refine wpAny_ret_mkInt ?_;show wpAny _ _ (if (decide (-(2:Int)^63≤abE (i6 w ds))&&decide (abE (i6 w ds)<2^63))=true then _ else _) Q E _;unfold reduceHash at h
    by_cases f:(decide (-(2:Int)^63≤abE (i6 w ds))&&decide (abE (i6 w ds)<2^63))=true
    .rw[if_pos f];rw[if_pos f]at h;refine LD ?_;simpa[afo]using h
    .rw[if_neg f];rw[if_neg f]at h;refine gT (m:=rule _) (acs (LD ?_));simpa[afo]using h
 | .none,_,_,_,_,_,_,hk,_,_,_=>by simp only[hkD]at hk;cases hk
 | .bool _,_,_,_,_,_,_,hk,_,_,_=>by simp only[hkD]at hk;cases hk
 | .list _,_,_,_,_,_,_,hk,_,_,_=>by simp only[hkD]at hk;cases hk
 | .dict _,_,_,_,_,_,_,hk,_,_,_=>by simp only[hkD]at hk;cases hk
theorem xz:∀(ds:List aD) (d:aD),d∈ds->∀{A:abc}{E:Ad->Io->Prop}{s:Io}{v:Ad}{as:List Addr}{Q:Int->Io->Prop},hkD d=true->Reads s.heap v d as->A.units+d.depth<cLine->Q (iz w d) {s with toks:=s.toks+j9 d}->wpAny (model prog w) A (pyHash v) Q E s
 |x::ds,d,hm=>by
  intro a r c h;rcases aae.mp hm with e|b
  .rw[e]at a r c h;exact pH x a r c h
  .exact xz ds d b a r c h
end
mutual
theorem sj:∀(a b:aD),hkD a=true->hkD b=true->aaj a b=decide (a=b)
 | .int i,b,_,hb=>by
  cases b with
  |int j=>
   show decide (i=j)=_
   by_cases h:i=j
   .subst h;rw[decide_eq_true rfl,decide_eq_true rfl]
   .rw[decide_eq_false h,decide_eq_false (λz=>h (by cases z;rfl))]
  |str _=>rw[decide_eq_false (λz=>by cases z)];rfl
  |tuple _=>rw[decide_eq_false (λz=>by cases z)];rfl
  |none=>simp only[hkD]at hb;cases hb
  |bool _=>simp only[hkD]at hb;cases hb
  |list _=>simp only[hkD]at hb;cases hb
  |dict _=>simp only[hkD]at hb;cases hb
 | .str i,b,_,hb=>by
  cases b with
  |str j=>
   show decide (i=j)=_
   by_cases h:i=j
   .subst h;rw[decide_eq_true rfl,decide_eq_true rfl]
   .rw[decide_eq_false h,decide_eq_false (λz=>h (by cases z;rfl))]
  |int _=>rw[decide_eq_false (λz=>by cases z)];rfl
  |tuple _=>rw[decide_eq_false (λz=>by cases z)];rfl
  |none=>simp only[hkD]at hb;cases hb
  |bool _=>simp only[hkD]at hb;cases hb
  |list _=>simp only[hkD]at hb;cases hb
  |dict _=>simp only[hkD]at hb;cases hb
 | .tuple ds,b,ha,hb=>by
  cases b with
  |tuple e=>
   simp only[aaj];rw[BW ds e (by simpa only[hkD]using ha) (by simpa only[hkD]using hb)]
   by_cases h:ds=e
   .subst h;rw[decide_eq_true rfl,decide_eq_true rfl]
   .rw[decide_eq_false h,decide_eq_false (λz=>h (by cases z;rfl))]
  |int _=>rw[decide_eq_false (λz=>by cases z)];rfl
  |str _=>rw[decide_eq_false (λz=>by cases z)];rfl
  |none=>simp only[hkD]at hb;cases hb
  |bool _=>simp only[hkD]at hb;cases hb
  |list _=>simp only[hkD]at hb;cases hb
  |dict _=>simp only[hkD]at hb;cases hb
 | .none,_,ha,_=>by simp only[hkD]at ha;cases ha
 | .bool _,_,ha,_=>by simp only[hkD]at ha;cases ha
 | .list _,_,ha,_=>by simp only[hkD]at ha;cases ha
 | .dict _,_,ha,_=>by simp only[hkD]at ha;cases ha
theorem BW:∀(a b:List aD),hkA a=true->hkA b=true->aft a b=decide (a=b)
 |[],[],_,_=>by rw[decide_eq_true rfl];rfl
 |[],_::_,_,_=>by rw[decide_eq_false (λz=>by cases z)];rfl
 |_::_,[],_,_=>by rw[decide_eq_false (λz=>by cases z)];rfl
 | x::a,y::b,ha,hb=>by
  simp only[hkA,aaE]at ha hb;simp only[aft];rw[sj x y ha.1 hb.1,BW a b ha.2 hb.2]
  by_cases h:x=y
  .by_cases h2:a=b
   .subst h h2;rw[decide_eq_true rfl,decide_eq_true rfl,decide_eq_true rfl];rfl
   .rw[decide_eq_false h2,agk,decide_eq_false (λz=>h2 (by cases z;rfl))]
  .rw[decide_eq_false h,agp,decide_eq_false (λz=>h (by cases z;rfl))]
end
mutual
theorem Reads.hkeep{h h':aaQ}{d:Addr}{o:Obj}{g:Array ab2}{f:Nat}(c:h.get? d=some o)(hd:o.data = .dict g f)(e:abd d h h'):∀(k:aD) {v:Ad}{as:List Addr},hkD k=true->Reads h v k as->Reads h' v k as
 | .int _,_,_,_,r=>by cases r;exact .int _ _
 | .str _,_,_,_,r=>by cases r;exact .str _ _
 | .tuple ds,_,_,hk,r=>by
  cases r with
  | @tuple a o' vs n _ _ h1 h2 h3 h4=>
   have b:a≠d:=by
    rintro rfl;rw[c]at h1;cases h1;rw[hd]at h3;cases h3
   exact .tuple ((e.2 a b).trans h1) h2 h3 (ReadsAll.hkeep c hd e ds (by simpa only[hkD]using hk) h4)
 | .none,_,_,hk,_=>by simp only[hkD]at hk;cases hk
 | .bool _,_,_,hk,_=>by simp only[hkD]at hk;cases hk
 | .list _,_,_,hk,_=>by simp only[hkD]at hk;cases hk
 | .dict _,_,_,hk,_=>by simp only[hkD]at hk;cases hk
theorem ReadsAll.hkeep{h h':aaQ}{d:Addr}{o:Obj}{f:Array ab2}{e:Nat}(a:h.get? d=some o)(hd:o.data = .dict f e)(b:abd d h h'):∀(ks:List aD) {vs:List Ad}{as:List Addr},hkA ks=true->adF h vs ks as->adF h' vs ks as
 |[],_,_,_,r=>by cases r;exact .nil
 |k::ks,_,_,hk,r=>by
  simp only[hkA,aaE]at hk
  cases r with
  |cons r1 c=>exact .cons (Reads.hkeep a hd b k hk.1 r1) (ReadsAll.hkeep a hd b ks hk.2 c)
end
mutual
theorem nR:∀(d:aD) {A:abc}{E:Ad->Io->Prop}{s:Io}{v:Ad}{as:List Addr}{n:Nat}{Q:Bool->Io->Prop},hkD d=true->Reads s.heap v d as->d.depth≤n->Q true s->wpAny (model prog w) A (eqIsQuiet n v) Q E s
 | .int _,_,_,_,_,_,_,_,_,r,_,h=>by cases r;rw[eqIsQuiet_byValue _ rfl];exact LD h
 | .str _,_,_,_,_,_,_,_,_,r,_,h=>by cases r;rw[eqIsQuiet_byValue _ rfl];exact LD h
 | .tuple ds,A,E,s,v,as,n,Q,hk,r,hn,h=>by
  cases r with
  | @tuple a o vs nn _ _ ho hc hd hr=>
   have f:s.TypeIs (.ref a) "tuple":=⟨o,ho,hc⟩;have e:(ac1 ds).depth=aaC ds+1:=rfl
   cases n with
   |zero=>omega
   | succ n=>
    unfold eqIsQuiet;refine gT (m:=ahh _ _) (aeC f F.slot_tuple_eq.lookup (gT (m:=isInstance (.ref a) (.type "tuple")) (acR f isSubtype_tuple_tuple ?_)));simp only[if_false,acY,Bool.not_true];refine gT (m:=seqItems? (.ref a)) (acz ho hd ?_);refine gT ?_;show wpAny _ _ (forIn vs _ _) _ _ s;rw[<-agS];refine aej _ (λrest r b=>r.1=none/\b=s/\∃left bs,(∀d∈left,d∈ds)/\adF s.heap rest left bs) _ ?_ ?_ _ _ ⟨rfl,rfl,ds,_,λ_ h=>h,hr⟩
    .rintro x rest r b ⟨hr',rfl,left,bs,hsub,hl⟩
     cases hl with
     | @cons _ _ d ds' as1 bs1 r1 r2=>
      have c:d∈ds:=hsub d aaa;refine gT (sN ds d c (vG (by simpa only[hkD]using hk) c) r1 (by have:=kg c;omega) ?_);simp only[if_false,acY,Bool.not_true];exact LD ⟨rfl,rfl,ds',_,λz g=>hsub z (aab _ g),r2⟩
    .rintro⟨r1,r2⟩ b ⟨hr',rfl,_⟩;simp only at hr';subst hr';exact LD h
 | .none,_,_,_,_,_,_,_,hk,_,_,_=>by simp only[hkD]at hk;cases hk
 | .bool _,_,_,_,_,_,_,_,hk,_,_,_=>by simp only[hkD]at hk;cases hk
 | .list _,_,_,_,_,_,_,_,hk,_,_,_=>by simp only[hkD]at hk;cases hk
 | .dict _,_,_,_,_,_,_,_,hk,_,_,_=>by simp only[hkD]at hk;cases hk
theorem sN:∀(ds:List aD) (d:aD),d∈ds->∀{A:abc}{E:Ad->Io->Prop}{s:Io}{v:Ad}{as:List Addr}{n:Nat}{Q:Bool->Io->Prop},hkD d=true->Reads s.heap v d as->d.depth≤n->Q true s->wpAny (model prog w) A (eqIsQuiet n v) Q E s
 |x::ds,d,hm=>by
  intro a r c h;rcases aae.mp hm with e|b
  .rw[e]at a r c;exact nR x a r c h
  .exact sN ds d b a r c h
end
theorem oI{d:aD}(h:kyD d=true):hkD d=true:=by
 let⟨ds,rfl,a,_⟩:=iC h;simpa[hkD]
noncomputable def oo (prog:aaI) (w:World):HeapKind prog w aD where
 is:=λh d a=>(∃c,Reads h (.ref a) d c)/\kyD d=true
 hash:=iz w
 draws:=j9
 room:=λA=>A.units+20<cLine
 inj:=λ{h a x y} ⟨⟨c,r1⟩,k1⟩ ⟨⟨bs,g⟩,k2⟩=>by
  let⟨ds,rfl,_,n,_⟩:=iC k1;exact SeqAt.Reads.unique _ _ _ _ _ n r1 g
 keeps:=λ⟨⟨c,r⟩,k⟩ j hd o=>⟨⟨c,Reads.hkeep j hd o _ (oI k) r⟩,k⟩
 pyHash:=λ{A E s k a Q} i ⟨⟨c,r⟩,f⟩ h=>by
  let⟨ds,e,_,_,hd⟩:=iC f;exact pH k (oI f) r (by omega) h
 eqBool:=λ{A E s x y a b Q} i ⟨⟨c,r1⟩,k1⟩ ⟨⟨bs,g⟩,k2⟩ h=>by
  let⟨ds,u,_,m,d1⟩:=iC k1;let⟨t,q,_,l,p⟩:=iC k2;refine ahi x y A s _ _ _ _ r1 g m l (by omega) prog w E Q ?_;rw[sj x y (oI k1) (oI k2)];exact h
 quiet:=λ{A E s k a Q} ⟨⟨c,r⟩,f⟩ h=>by
  let⟨ds,e,_,_,hd⟩:=iC f;exact nR k (oI f) r (by omega) h
end
def d8(k:aD):List (aD×aD)->Option aD
 |[]=>none
 |(k',d)::r=>if aaj k' k=true then some d else d8 k r
def putP(k d:aD):List (aD×aD)->List (aD×aD)
 |[]=>[(k,d)]
 |(k',d')::r=>if aaj k' k=true then(k',d)::r else(k',d')::putP k d r
def kyA(kvs:List (aD×aD)):Bool:=kvs.all λk=>kyD k.1
def kdD:aD->Bool
 | .int _=>true
 | .str _=>true
 |_=>false
def oneK(kvs:List (aD×aD))(k:aD):Bool:=(isKd kvs&&kdD k)||(kyA kvs&&kyD k)
theorem BH{k:aD}(h:kdD k=true):∃kk:Key,k=keyD kk:=by
 cases k with
 |int i=>exact⟨.inl i,rfl⟩
 |str x=>exact⟨.inr x,rfl⟩
 |_=>cases h
def MN(a b:Key):aaj (keyD a) (keyD b)=decide (a=b):=by
 cases a<;>cases b<;>simp[keyD,aaj,aeb]
def IsDc(K:Kd)(H:Hp)(a:Addr)(kvs:List (aD×aD)):Prop:=
 (∃e,Rd H a (.dK e)/\DenKK K H kvs e)\/∃e,Rd H a (dX a e)/\isKd kvs=false/\(kvs.map (·.1)).Nodup/\DenKV K H kvs e
section
variable {K:Kd}{H a:Hp}
theorem fzKV{τ:List (List Nat×Addr)}{p:List Nat}:∀{kvs:List (aD×aD)}{i:Nat}{e:List (Int×V×V)},TAtD K H τ p i (lfKV kvs) e->DenKV K H kvs e
 |[],_,_,h=>by simpa[lfKV]
 |(k,d)::r,i,e,h=>by
  let⟨u,v,vs,rfl,c,b,g⟩:=h;exact⟨u,v,vs,rfl,c,jz b (zL d),fzKV g⟩
theorem V9{τ:List (List Nat×Addr)}{p:List Nat}:∀{kvs:List (aD×aD)}{i:Nat}{e:List (Int×V×V)},DenKV K H kvs e->TAtD K H τ p i (lfKV kvs) e
 |[],_,_,h=>by simpa only[lfKV]
 |_::r,i,e,h=>by
  let⟨u,v,vs,rfl,c,b,g⟩:=h;exact⟨u,v,vs,rfl,c,ma b,V9 g⟩
def jr(kvs:List (aD×aD)):(lfKV kvs).map (·.1)=kvs.map (·.1):=by
 unfold lfKV;rw[aaW];rfl
def vo(kvs:List (aD×aD)):isKd (lfKV kvs)=isKd kvs:=by
 unfold isKd lfKV;rw[aea];rfl
theorem sU(h:isKd kvs=true\/kyA kvs=true):fzOf kvs=none/\excC kvs=none:=by
 cases kvs with
 |nil=>exact⟨rfl,rfl⟩
 | cons x r=>
  let⟨k,d⟩:=x
  cases k with
  |none=>
   rcases h with h|h
   .simp[isKd]at h
   .simp[kyA,kyD]at h
  |int _=>exact⟨rfl,rfl⟩
  |str _=>exact⟨rfl,rfl⟩
  |bool _=>exact⟨rfl,rfl⟩
  |list _=>exact⟨rfl,rfl⟩
  |tuple _=>exact⟨rfl,rfl⟩
  |dict _=>exact⟨rfl,rfl⟩
end
def dcM(m:MSt)(kvs:List (aD×aD)):R->Prop
 | .imm (.dict es)=>es=kvs
 | .at k p=>p=p/\ndT m k p=some (.dict (lfKV kvs))
 |_=>False
theorem RelR.dc{K:Kx}{y:Al}{m:MSt}{B:St}{D:Hp}{r:R}{v:V}(R:Rel K y m B H)(h:RelR K y D H r v)(e:dcM m kvs r)(l:isKd kvs=true\/kyA kvs=true):∃a,v = .ref a/\IsDc K H a kvs:=by
 let⟨n1,n2⟩:=sU l
 cases r with
 | imm d=>
  cases d with
  |dict j=>
   have E:j=kvs:=e;subst E;have q:Den K H (.dict j) v:=h;simp only[Den]at q;let⟨a,rfl,q⟩:=q;refine⟨a,rfl,?_⟩;rcases q with⟨x,⟨o,f⟩,n,g⟩|⟨x,o,f,g⟩|⟨c,x,z,_⟩
   .exact .inr ⟨x,.inr ⟨o,f⟩,n.1,n.2.1,g⟩
   .exact .inl ⟨x,.inr ⟨o,f⟩,g⟩
   .rw[n2]at z;cases z
  |none=>exact e.elim
  |bool _=>exact e.elim
  |int _=>exact e.elim
  |str _=>exact e.elim
  |list _=>exact e.elim
  |tuple _=>exact e.elim
 | «at» k p=>
  let⟨F,a,G,_,w,rfl,g⟩:=RelR.node R h e.2;refine⟨a,rfl,?_⟩;have t:=sU (by
   rcases l with l|l
   .exact .inl (by rw[vo];exact l)
   .refine .inr ?_;unfold kyA lfKV at *;rw[aea];exact l)
  simp only[TAt]at g;rcases g with⟨d,i,_⟩|⟨_,_,b,j,i,A,s,n,g⟩|⟨_,_,b,j,i,A,s,g⟩|⟨c,b,dx,C,x,u,_⟩
  .rw[t.1]at i;cases i
  .rw[w]at i;cases i;exact .inr ⟨j,.inl s,by rw[<-vo];exact n.1,by rw[<-jr];exact n.2.1,fzKV g⟩
  .rw[w]at i;cases i;exact .inl ⟨j,.inl s,fzKK g⟩
  .rw[t.2]at u;cases u
 |obj _=>exact e.elim
 |new _=>exact e.elim
 |newT _=>exact e.elim
theorem DenKV.len{K:Kd}{H:Hp}:∀{kvs:List (aD×aD)}{e:List (Int×V×V)},DenKV K H kvs e->kvs.length=e.length
 |[],_,g=>by simp[DenKV]at g;subst g;rfl
 |_::r,_,g=>by
  let⟨u,v,vs,rfl,_,_,g⟩:=g;simp[DenKV.len g]
section
variable {X:Cx}{pins:List (Addr×Obj)}{σ:St}{H:Hp}{s:Io}
abbrev PxV(K:Kd)(H:Hp):List (aD×aD)->List (aD×Addr×Ad)->Prop:=abI λp q=>p.1=q.1/\Den K H p.1 (.ref q.2.1)/\∃v,Den K H p.2 v/\RelV v q.2.2
theorem PxV.keys{H:Hp}(p:PxV K H kvs xs):xs.map (·.1)=kvs.map (·.1):=by
 induction p with
 |nil=>rfl
 |cons h t i=>rw[aah,aah,i,h.1]
theorem yv{k:aD}{u:V}(c:kyD k=true)(h:Den K H k u):∃b,u = .ref b:=by
 let⟨ds,rfl,_⟩:=iC c;let⟨a,x,e,_⟩:=h;exact⟨a,e⟩
theorem Bx{k:aD}(h:kyD k=true):k.hasDict=false:=by
 let⟨ds,rfl,_,a,_⟩:=iC h;exact abh _ a
def Inv.ky(I:Inv X pins σ H s){k:aD}{b:Addr}(a:kyD k=true)(h:Den X.kd H k (.ref b)):(oo X.prog X.w).is s.heap k b:=⟨h.reads I (Bx a) (rfl),a⟩
abbrev ExV(w:World):List (Int×V×V)->List (aD×Addr×Ad)->Prop:=abI λe q=>e.1=iz w q.1/\e.2.1 = .ref q.2.1/\RelV e.2.2 q.2.2
theorem Inv.dcE(I:Inv X pins σ H s){f:List (Int×V×V)}(R:Rd H a (dX a f))(g:DenKV X.kd H kvs f)(nd:(kvs.map (·.1)).Nodup)(i:kyA kvs=true):(a==abA)=false/\f.length≤aam/\∃xs,s.heap.DictOfH (oo X.prog X.w) a xs/\PxV X.kd H kvs xs/\ExV X.w f xs:=by
 let⟨⟨M,F,o,c,N,P,T,Q,L⟩,_⟩:=(show ObjOk X.prog X.w H s.heap a (dX a f)from R.ok I.hok);have key:∀{kvs:List (aD×aD)}{f:List (Int×V×V)}{c:List ab2},kyA kvs=true->DenKV X.kd H kvs f->abI (λ(e:Int×V×V) (d:ab2)=>d.hash=e.1/\RelV e.2.1 d.key/\RelV e.2.2 d.val) f c->∃xs,c=xs.map (entryOfKey (oo X.prog X.w))/\PxV X.kd H kvs xs/\ExV X.w f xs:=by
  intro kvs
  induction kvs with
  |nil=>
   intro f c _ g p;simp only[DenKV]at g;subst g;cases p;exact⟨[],rfl,.nil,.nil⟩
  | cons x r y=>
   intro f c i g p;let⟨k,d⟩:=x;rw[kyA,abT,aaE]at i;simp only[DenKV]at g;let⟨u,v,vs,rfl,C,S,J⟩:=g
   cases p with
   |cons O D=>
    rename_i G z;let⟨xs,m,l,w⟩:=y i.2 J D;let⟨b,rfl⟩:=yv i.1 C;let⟨U,K,A⟩:=O;let⟨B,E,n⟩:=G
    cases (show E=abk b from K)
    refine⟨(k,b,n)::xs,?_,.cons ⟨rfl,C,v,S,A⟩ l,.cons ⟨rfl,rfl,A⟩ w⟩;rw[aah,<-m]
    congr 1
    show ab2.mk B (.ref b) n=⟨iz X.w k,.ref b,n⟩;rw[show B=iz X.w k from U]
 let⟨xs,m,l,w⟩:=key i g L;refine⟨M,F,xs,⟨o,c,N,P,T,Q,m,λx j=>?_,by rw[l.keys];exact nd⟩,l,w⟩;have all:∀{kvs:List (aD×aD)}{xs:List (aD×Addr×Ad)},kyA kvs=true->PxV X.kd H kvs xs->∀x∈xs,(oo X.prog X.w).is s.heap x.1 x.2.1:=by
  intro kvs xs i p
  induction p with
  |nil=>intro x j;cases j
  | @cons q x0 qs xs0 h t y=>
   rw[kyA,abT,aaE]at i;intro x j;obtain rfl|j:=aae.mp j
   .rw[<-h.1];exact I.ky i.1 h.2.1
   .exact y i.2 x j
 exact all i l x j
theorem Inv.dc0(I:Inv X pins σ H s)(r:Rd H a (.dK [])):(a==abA)=false/\s.heap.DictOfH (oo X.prog X.w) a []:=by
 let⟨_,m,vs,k,f⟩:=uE I.hok r;cases k;let⟨o,e,g,j,d,l,c⟩:=f;refine⟨m,o,e,g,j,d,l,?_,⟨(λx h=>absurd h (by simp)),abL⟩⟩;have i:e.toList=[]:=by
  let⟨_,b,_⟩:=c;exact abr (by have:=b.length;simpa)
 rw[i];rfl
theorem VG(g:DenKK K H kvs es)(a:kyA kvs=true):kvs=[]/\es=[]:=by
 cases kvs with
 |nil=>simp[DenKK]at g;exact⟨rfl,g⟩
 |cons x r=>
  let⟨k,d⟩:=x;let⟨b,v,vs,_,⟨e,_⟩,_⟩:=g;rw[kyA,abT,aaE]at a;have h:kyD k=true:=a.1;rw[e]at h
  cases b<;>cases h
def Inv.dcX(I:Inv X pins σ H s)(h:IsDc X.kd H a kvs)(c:kyA kvs=true):(a==abA)=false/\∃xs,s.heap.DictOfH (oo X.prog X.w) a xs/\PxV X.kd H kvs xs:=by
 rcases h with⟨e,r,g⟩|⟨e,r,_,nd,g⟩
 .obtain⟨rfl,rfl⟩:=VG g c;let⟨b,d⟩:=I.dc0 r;exact⟨b,[],d,.nil⟩
 .obtain⟨b,_,xs,d,p,_⟩:=I.dcE r g nd c;exact⟨b,xs,d,p⟩
theorem PxV.val{k:aD}(c:kyA kvs=true)(f:kyD k=true)(p:PxV K H kvs xs) :
  (d8 k kvs=none/\atKey xs k=none)\/∃d v q,d8 k kvs=some d/\atKey xs k=some q/\Den K H d v/\RelV v q.2:=by
 induction p with
 |nil=>exact(.inl ⟨rfl,rfl⟩)
 | @cons x q xs0 qs h t ih=>
  rw[kyA,abT,aaE]at c;let⟨g,d⟩:=x;let⟨m,n,v,j,l⟩:=h;have a:g=q.1:=m;have i:=sj _ _ (oI c.1) (oI f);unfold d8
  by_cases e:g=k
  .have b:atKey (q::qs) k=some q.2:=by simp[atKey,List.find?_cons,<-a,e]
   rw[i,decide_eq_true e,if_pos rfl];exact .inr ⟨d,v,q.2,rfl,b,j,l⟩
  .have b:atKey (q::qs) k=atKey qs k:=by simp[atKey,<-a,e]
   rw[i,decide_eq_false e,b];exact ih c.2
theorem DenKK.val{kk:Key}(g:DenKK K H kvs es) :
  (d8 (keyD kk) kvs=none/\valV es kk=none)\/∃d v,d8 (keyD kk) kvs=some d/\valV es kk=some v/\Den K H d v:=by
 induction kvs generalizing es with
 |nil=>simp[DenKK]at g;subst g;exact .inl ⟨rfl,rfl⟩
 |cons x r i=>
  let⟨k,d⟩:=x;let⟨c,v,vs,rfl,⟨rfl,_⟩,b,a⟩:=g;unfold d8;rw[MN]
  by_cases e:c=kk
  .rw[decide_eq_true e];exact .inr ⟨d,v,rfl,dj e,b⟩
  .rw[decide_eq_false e,dh e];exact i a
def DGet.kr{H:Hp}{kvs:List (Key×V)}{k:Key}(e:Rd H a (.dK kvs)):DGet H a (kV k) (valV kvs k):=.inl ⟨kvs,k,e,rfl,rfl⟩
theorem qE{k:aD}(h:oneK kvs k=true):(isKd kvs=true/\kdD k=true)\/(kyA kvs=true/\kyD k=true):=by
 unfold oneK at h
 simp_all
def Inv.dcT(I:Inv X pins σ H s)(h:IsDc X.kd H a kvs):s.TypeIs (.ref a) "dict"/\∀b,abk a = .ref b->∃c,s.heap.get? b=some c/\c.dict=none:=by
 rcases h with⟨d,r,g⟩|⟨d,r,_,nd,g⟩
 .obtain⟨_,hs,vs,kv,o,_,_,h1,h2,_⟩:=uE I.hok r;exact⟨⟨o,h1,h2.1⟩,λb e=>by cases e;exact⟨o,h1,h2.2.1⟩⟩
 .obtain⟨⟨hs,hz,o,ents,ep,h1,h2,h3,h4⟩,_⟩:=(r.ok I.hok);exact⟨⟨o,h1,h2.1⟩,λb e=>by cases e;exact⟨o,h1,h2.2.1⟩⟩
theorem BX{kk:Key}{y:V}(h:Den K H (keyD kk) y):y=kV kk:=by
 cases kk with
 |inl i=>exact aF h
 |inr x=>exact bm h
section
variable {a:Addr}{kvs:List (aD×aD)}{k:aD}{y z:V}{u c:Ad}{A:abc}{E:Ad->Io->Prop}
theorem YZ(F:A.units+64<cLine)(I:Inv X pins σ H s)(h:IsDc X.kd H a kvs)(ok:oneK kvs k=true)(m:Den X.kd H k y)(r:RelV y u)(n:Bool)
  (f:∀s',Inv X pins σ H s'->Q (.bool (if n=true then !(d8 k kvs).isSome else(d8 k kvs).isSome)) s'):wpAny (model X.prog X.w) A (aaS (if n=true then .NotIn else .In) u (.ref a)) Q E s:=by
 rcases qE ok with⟨l,o⟩|⟨l,o⟩
 .obtain⟨kk,rfl⟩:=BH o;have C:=BX m;subst C;rcases h with⟨x,t,g⟩|⟨x,t,kd,nd,g⟩
  .have e:(d8 (keyD kk) kvs).isSome=(valV x kk).isSome:=by
    rcases g.val (kk:=kk)with⟨i,j⟩|⟨d,v,i,j,B⟩
    .rw[i,j];rfl
    .rw[i,j];rfl
   cases n with
   |false=>exact d_in (by omega) I (DGet.kr t) r λs' w=>by rw[<-e];exact f s' w
   |true=>exact Oa (by omega) I (DGet.kr t) r λs' w=>by rw[<-e];exact f s' w
  .rw[l]at kd;cases kd
 .obtain⟨hs,xs,dd,p⟩:=I.dcX h l;let⟨b,rfl⟩:=yv o m
  cases (show u=abk b from r)
  have e:(d8 k kvs).isSome=(atKey xs k).isSome:=by
   rcases p.val l o with⟨i,j⟩|⟨d,v,q,i,j,B,D⟩
   .rw[i,j];rfl
   .rw[i,j];rfl
  cases n with
  |false=>exact wpAny_in_heap (by show A.units+1+20<cLine;omega) (I.ky o m) hs dd (by rw[<-e];exact f _ (I.tok _))
  |true=>exact PyProof.Rows.wpAny_notIn_heap (knd:=oo X.prog X.w) (by show A.units+1+20<cLine;omega) (I.ky o m) hs dd (by rw[<-e];exact f _ (I.tok _))
theorem yN{d:aD}(J:A.units+64<cLine)(I:Inv X pins σ H s)(h:IsDc X.kd H a kvs)(ok:oneK kvs k=true)(n:Den X.kd H k y)(t:RelV y u)(l:d8 k kvs=some d)
  (f:∀v w s',Inv X pins σ H s'->RelV v w->Den X.kd H d v->Q w s'):wpAny (model X.prog X.w) A (ael (.ref a) u) Q E s:=by
 rcases qE ok with⟨j,o⟩|⟨j,o⟩
 .obtain⟨kk,rfl⟩:=BH o;have G:=BX n;subst G;rcases h with⟨D,x,g⟩|⟨D,x,kd,nd,g⟩
  .rcases g.val (kk:=kk)with⟨e,i⟩|⟨B,v,e,i,m⟩
   .rw[l]at e;cases e
   .rw[l]at e;cases e;exact sF (by omega) I (by rw[<-i];exact DGet.kr x) t λw s' C r=>f v w s' C r m
  .rw[j]at kd;cases kd
 .obtain⟨hs,xs,dd,p⟩:=I.dcX h j;let⟨b,rfl⟩:=yv o n
  cases (show u=abk b from t)
  rcases p.val j o with⟨e,i⟩|⟨B,v,q,e,i,m,F⟩
  .rw[l]at e;cases e
  .rw[l]at e;cases e;exact wpAny_getItem_heap (knd:=oo X.prog X.w) (by show A.units+1+20<cLine;omega) (I.ky o n) dd i (f v q.2 _ (I.tok _) F m)
end
end
section
variable {X:Cx}{a:Expr}{w:WE}{pos:Pos}
abbrev Vj:WE:=λm K=>K (.newT (.dict [])) m
theorem PH:ME X (.Dict [] [] pos) Vj:=pe_dnewK.wk<|by
 intro g H Q ⟨e,m,K,R,d,f⟩;intro p c;refine f _ m _ _ d rfl (R.lay c) ⟨[([],p)],p,rfl,rfl,by simp,λb h=>by simp at h;subst h;exact c,⟨⟨_,.ref p,rfl,?_,p,rfl,rfl⟩,λb h=>by simp at h;subst h;exact⟨_,aB,rfl⟩⟩⟩ (cu c);refine .inr (.inr (.inl ⟨rfl,rfl,p,[],rfl,rfl,aB,?_⟩));rfl
def xQ:EE X (.Dict [] [] pos) Vj:=⟨PH⟩
end
section
variable {K:Kd}{H:Hp}{τ:List (List Nat×Addr)}{p:List Nat}
theorem jX:∀{ds:List aD}{i:Nat}{xs:List V},DenAll K H ds xs->TAtL K H τ p i (ds.map lfD) xs
 |[],_,_,h=>by simpa only[acn,TAtL,DenAll]using h
 |d::ds,i,_,h=>by
  simp only[DenAll]at h;let⟨v,vs,rfl,a,b⟩:=h;simp only[aah,TAtL];exact⟨v,vs,rfl,ma a,jX b⟩
end
section
variable {K:Kx}{c:Al}{m:MSt}{d:St}{H:Hp}{k:Nat}{p:List Nat}{τ:List (List Nat×Addr)}{a:Addr}{t:aD}{ts ds:List aD}
theorem Rel.listN(R:Rel K c m d H)(l:c[k]?=some (.T τ))(n:τ.lookup p=some a)(h:m.os[k]?=some [t])(i:getT t p=some (.list ts)):∃xs,H a=some (.lst xs)/\TAtL K H τ p 0 ts xs:=by
 let⟨⟨q,v,z,g,_⟩,_⟩:=R.own k (.T τ) _ l h;cases z;let⟨r,b⟩:=g.get i;rw[aba]at b;simp only[TAt]at b;let⟨o,xs,e,_,f,j⟩:=b;rw[n]at e;cases e;exact⟨xs,f,j⟩
theorem Rel.setLs{xs x:List V}{ds':List aD}(R:Rel K c m d H)(n:c[k]?=some (.T τ))(f:τ.lookup p=some a)(q:m.os[k]?=some [t])(y:getT t p=some (.list ts))(ok:okW t p=true)(r:H a=some (.lst xs))(g':DenAll K H ds' x) :
  Rel K c {m with os:=m.os.set k [setT t p (.list (ds'.map lfD))]} d (upd H a (.lst x))/\Frm c H (upd H a (.lst x)):=by
 let⟨⟨B,v,z,g,w,o,j⟩,mu⟩:=R.own k (.T τ) _ n q;cases z;have i:Pers H (upd H a (.lst x)):=bu (.inr ⟨_,r,rfl⟩);have nd:(τ.map (·.2)).Nodup:=((f9 c).mp R.nd).1 (.T τ) (Ld n);have new:TAt K (upd H a (.lst x)) τ p (.list (ds'.map lfD)) (.ref a):=by
  simp only[TAt];exact⟨a,x,f,rfl,aB,jX (g'.mono i)⟩
 have all:TAt K (upd H a (.lst x)) τ [] (setT t p (.list (ds'.map lfD))) v:=TAt.set nd i g y ok (by rw[aba];exact f) (by rw[aba];exact new) λu h=>by
  rw[aba]at h;simp only[TAt]at h;let⟨A,_,e,s,_⟩:=h;rw[f]at e;cases e;exact s
 exact R.setW n i (ds':=[setT t p (.list (ds'.map lfD))]) (λb l=>aA λeb=>l (eb▸bZ f)) ⟨⟨_,v,rfl,all,w,o,j⟩,λb l=>by
  by_cases eb:b=a
  .subst eb;exact⟨_,aB,rfl⟩
  .rw[aA eb];exact mu b l⟩
end
section
variable {X:Cx}{o e:Expr}{n:WE}{c l:Pos}
def YU(m:MSt)(k:Nat)(p:List Nat)(P:List aD->(List aD->MSt)->Prop):Prop:=∃t ts ds,m.os[k]?=some [t]/\getT t p=some (.list ts)/\db ts=some ds/\okW t p=true/\P ds λd=>{m with os:=m.os.set k [setT t p (.list (d.map lfD))]}
def rJ:WM:=λr rs m K=>onAt (λk p=>on1 (iA λd=>YU m k p λds f=>ds.length<aam/\K (.imm .none) (f (ds++[d]))) rs) r
theorem yW:MtM X "list.append" (mM X.kx rJ):=by
 intro b s i H x N v D Q I G J ⟨V,m,P,T,O,r,rs,U,R,B,j,h,f⟩;let⟨k,p,L,a,rfl,z,w,rfl,h⟩:=yP B h;let⟨S,M,rfl,rfl,j,h⟩:=de j h;let⟨d,rfl,hd,t,ts,ds,u,y,C,ok,A,h⟩:=eF j h;let⟨K,q,E⟩:=R.listN z w u y;have g:=j0 E C;let⟨R2,F⟩:=R.setLs z w u y ok q (g.append (DenAll.cons hd DenAll.nil));exact kQ b s i H _ _ v D Q I G J ⟨a,K,_,rfl,rfl,q,by rw[<-g.length];exact A,f _ _ _ _ h rfl R2 xR F⟩
def xO:WO:=λr1 r m K=>onAt (λk p=>BP (λi=>∃t ts j a,m.os[k]?=some [t]/\getT t p=some (.list ts)/\ixN ts.length i=some j/\ts[j]?=some a/\K (gj k p j a)) r) r1
theorem TAtL.get'{K:Kd}{H:Hp}{τ:List (List Nat×Addr)}{p:List Nat}:∀{ts:List aD}{i j:Nat}{xs:List V}{t:aD},TAtL K H τ p i ts xs->ts[j]?=some t->∃v,xs[j]?=some v/\TAt K H τ (p++[i+j]) t v
 |[],_,_,_,_,_,e=>by simp at e
 |t::ts,i,0,_,_,h,e=>by
  simp only[TAtL]at h;let⟨v,vs,rfl,a,_⟩:=h;simp at e;subst e;exact⟨v,rfl,a⟩
 |t::ts,i,j+1,_,_,h,e=>by
  simp only[TAtL]at h;let⟨v,vs,rfl,_,b⟩:=h;let⟨w,z,d⟩:=TAtL.get' b (j:=j) (by simpa using e);exact⟨w,by simpa using z,by rw[show i+(j+1)=i+1+j by omega];exact d⟩
theorem TAtL.len{K:Kd}{H:Hp}{τ:List (List Nat×Addr)}{p:List Nat}:∀{ts:List aD}{i:Nat}{xs:List V},TAtL K H τ p i ts xs->ts.length=xs.length
 |[],_,_,h=>by simp only[TAtL]at h;subst h;rfl
 |t::ts,i,_,h=>by
  simp only[TAtL]at h;let⟨v,vs,rfl,_,a⟩:=h;simp[TAtL.len a]
theorem F7:IxR X (rM X.kx xO):=by
 intro d b f s A H x y v u Q I M D ⟨α,m,V,Y,T,r1,W,Z,R,G,O,r,z⟩ h;let⟨k,p,S,a,rfl,C,F,rfl,r⟩:=yP G r;let⟨i,rfl,rfl,t,ts,j,U,E,L,K,J,r⟩:=Fi O r;let⟨P,q,g⟩:=R.listN C F E L;let⟨w,N,B⟩:=g.get' J;rw[acm]at B;refine Bz d b f s A H _ _ v u Q I M D ⟨a,P,i,w,rfl,rfl,SqL.of q,?_,z _ _ H r R (j6 R C B) (Frm.refl _ _)⟩ h;unfold atI;rw[<-g.len,K];exact N
def U7{a b:Expr}{d w:WE}{pos:Pos}(g:ME X a d)(f:ME X b w)(i:k7 b:=by intro _ _;rfl):ME X (.Subscript a b pos) (wBin xO d w):=(TM F7 g f i).wk λ_ _ _ h=>tf h
end
def FY{a:Hp}(old:∀b o,H b=some o->a b=some o):Pers H a:=⟨λb x q=>old b _ q,λb o u q=>old b _ q⟩
section
variable {K:Kd}{H:Hp}{τ τ':List (List Nat×Addr)}{w:List Nat}
mutual
theorem TAt.shift(e:∀q a,τ.lookup q=some a->τ'.lookup (w++q)=some a):∀{t:aD}{p:List Nat}{v:V},TAt K H τ p t v->TAt K H τ' (w++p) t v
 | .none,_,_,h=>by simp only[TAt]at h⊢;exact h
 | .bool _,_,_,h=>by simp only[TAt]at h⊢;exact h
 | .int _,_,_,h=>by simp only[TAt]at h⊢;exact h
 | .str _,_,_,h=>by simp only[TAt]at h⊢;exact h
 | .tuple _,_,_,h=>by simp only[TAt]at h⊢;exact h
 | .list ts,p,_,h=>by
  simp only[TAt]at h⊢;let⟨a,x,b,i,f,g⟩:=h;exact⟨a,x,e _ _ b,i,f,TAtL.shift e g⟩
 | .dict kvs,p,_,h=>by
  simp only[TAt]at h⊢;rcases h with⟨d,b,h⟩|⟨l,z,a,j,b,i,f,k,g⟩|⟨l,z,a,j,b,i,f,g⟩|⟨c,a,dx,C,x,m,b,i,f,k,g⟩
  .exact .inl ⟨d,b,h⟩
  .exact .inr (.inl ⟨l,z,a,j,e _ _ b,i,f,k,TAtD.shift e g⟩)
  .exact .inr (.inr (.inl ⟨l,z,a,j,e _ _ b,i,f,TAtK.shift e g⟩))
  .exact .inr (.inr (.inr ⟨c,a,dx,C,x,m,e _ _ b,i,f,k,TAtF.shift e g⟩))
theorem TAtL.shift(e:∀q a,τ.lookup q=some a->τ'.lookup (w++q)=some a):∀{ts:List aD}{p:List Nat}{i:Nat}{xs:List V},TAtL K H τ p i ts xs->TAtL K H τ' (w++p) i ts xs
 |[],_,_,_,h=>by simpa only[TAtL]using h
 |t::ts,p,i,_,h=>by
  simp only[TAtL]at h⊢;let⟨v,vs,c,b,g⟩:=h;exact⟨v,vs,c,by rw[aa3];exact TAt.shift e b,TAtL.shift e g⟩
theorem TAtD.shift(e:∀q a,τ.lookup q=some a->τ'.lookup (w++q)=some a):∀{ts:List (aD×aD)}{p:List Nat}{i:Nat}{xs:List (Int×V×V)},TAtD K H τ p i ts xs->TAtD K H τ' (w++p) i ts xs
 |[],_,_,_,h=>by simpa only[TAtD]using h
 |(k,t)::ts,p,i,_,h=>by
  simp only[TAtD]at h⊢;let⟨u,v,vs,d,c,b,g⟩:=h;exact⟨u,v,vs,d,c,by rw[aa3];exact TAt.shift e b,TAtD.shift e g⟩
theorem TAtK.shift(e:∀q a,τ.lookup q=some a->τ'.lookup (w++q)=some a):∀{ts:List (aD×aD)}{p:List Nat}{i:Nat}{xs:List (Key×V)},TAtK K H τ p i ts xs->TAtK K H τ' (w++p) i ts xs
 |[],_,_,_,h=>by simpa only[TAtK]using h
 |(k,t)::ts,p,i,_,h=>by
  simp only[TAtK]at h⊢;let⟨u,v,vs,d,c,b,g⟩:=h;exact⟨u,v,vs,d,c,by rw[aa3];exact TAt.shift e b,TAtK.shift e g⟩
theorem TAtF.shift(e:∀q a,τ.lookup q=some a->τ'.lookup (w++q)=some a):∀{ts:List (aD×aD)}{p:List Nat}{i:Nat}{xs:List (Str×V)},TAtF K H τ p i ts xs->TAtF K H τ' (w++p) i ts xs
 |[],_,_,_,h=>by simpa only[TAtF]using h
 |(.str f,t)::ts,p,i,_,h=>by
  simp only[TAtF]at h⊢;let⟨v,vs,c,b,g⟩:=h;exact⟨v,vs,c,by rw[aa3];exact TAt.shift e b,TAtF.shift e g⟩
 |(.none,d)::r,_,_,_,h=>by simp only[TAtF]at h⊢;exact TAtF.shift e h
 |(.bool _,d)::r,_,_,_,h=>by simp only[TAtF]at h
 |(.int _,d)::r,_,_,_,h=>by simp only[TAtF]at h
 |(.list _,d)::r,_,_,_,h=>by simp only[TAtF]at h
 |(.tuple _,d)::r,_,_,_,h=>by simp only[TAtF]at h
 |(.dict _,d)::r,_,_,_,h=>by simp only[TAtF]at h
end
end
def trR:R->Option aD
 | .imm d=>some (lfD d)
 | .new ds=>some (.list (ds.map lfD))
 | .newT t=>some t
 |_=>none
def allA:List (List (List Nat×Addr))->List Addr
 |[]=>[]
 |τ::τs=>τ.map (·.2)++allA τs
theorem Tj{j:Al}{c:Hp}{r:R}{v:V}(h:RelR K j c H r v):∃τ:List (List Nat×Addr),(∀t,trR r=some t->TAt K H τ [] t v)/\(τ.map (·.2)).Nodup/\(∀a∈τ.map (·.2),∃o,H a=some o/\Mu o=true)/\∀a∈τ.map (·.2),c a=none:=by
 cases r with
 |imm d=>exact⟨[],λt e=>(by cases e;exact ma h),abL,λ_ z=>(by simp at z),λ_ z=>(by simp at z)⟩
 |new ds=>
  let⟨a,x,rfl,n,q,g⟩:=h;refine⟨[([],a)],λt e=>?_,by simp,λb z=>?_,λb z=>?_⟩
  .cases e;simp only[TAt];exact⟨a,x,rfl,rfl,q,jX g⟩
  .simp at z;subst z;exact⟨_,q,rfl⟩
  .simp at z;subst z;exact n
 |newT t=>
  let⟨τ,a,rfl,k,nd,n,⟨m,p,z,g,l,f,i⟩,mu⟩:=h;cases z;rw[k]at f;cases f;subst i;exact⟨τ,λt e=>(by cases e;exact g),nd,mu,n⟩
 |obj _=>exact⟨[],λt e=>(by cases e),abL,λ_ z=>(by simp at z),λ_ z=>(by simp at z)⟩
 | «at» _ _=>exact⟨[],λt e=>(by cases e),abL,λ_ z=>(by simp at z),λ_ z=>(by simp at z)⟩
def kq(i:Nat):List (List (List Nat×Addr))->List (List Nat×Addr)
 |[]=>[]
 |τ::τs=>τ.map (λq=>(i::q.1,q.2))++kq (i+1) τs
theorem fC:∀(i:Nat) (τs:List (List (List Nat×Addr))),(kq i τs).map (·.2)=allA τs
 |_,[]=>rfl
 |i,τ::τs=>by rw[kq,aaw,fC,aaW];rfl
theorem xj{i:Nat}{q:List Nat}:∀τ:List (List Nat×Addr),(τ.map λa=>(i::a.1,a.2)).lookup (i::q)=τ.lookup q
 |[]=>rfl
 |(r,b)::τ=>by
  rw[aah,aaX,aaX,xj τ];have:((i::q)==(i::r))=(q==r):=by simp
  rw[this]
theorem lR{i j:Nat}{q:List Nat}(h:j≠i):∀τ:List (List Nat×Addr),(τ.map λa=>(i::a.1,a.2)).lookup (j::q)=none
 |[]=>rfl
 |(r,b)::τ=>by
  rw[aah,aaX,lR h τ];have:((j::q)==(i::r))=false:=by simp[h]
  rw[this]
theorem wg{β c:Type}[BEq β]{a b:List (β×c)}{k:β}:(a++b).lookup k=(a.lookup k).or (b.lookup k):=by
 induction a with
 |nil=>simp
 |cons x a i=>
  let⟨d,v⟩:=x;rw[adn,aaX,aaX,i]
  split<;>simp
theorem o4:∀{τs:List (List (List Nat×Addr))}{i j:Nat}{τ:List (List Nat×Addr)}{q:List Nat}{a:Addr},τs[j]?=some τ->τ.lookup q=some a->(kq i τs).lookup ((i+j)::q)=some a
 |[],_,_,_,_,_,e,_=>by simp at e
 |τ0::τs,i,0,τ,q,a,e,h=>by
  simp at e;subst e;rw[kq,wg,Nat.add_zero,xj,h];rfl
 |τ0::τs,i,j+1,τ,q,a,e,h=>by
  rw[kq,wg,lR (by omega)];have:=o4 (i:=i+1) (j:=j) (τs:=τs) (by simpa using e) h;rw[show i+1+j=i+(j+1) by omega]at this;rw[this];rfl
section
variable {X:Cx}{scope sc:Scope}{own fr:List Str}{ps:List Nat}{elt c o:Expr}{ifs:List Expr}{pos np l s p d e:Pos}{tt:WT}{w f:WE}{g:WI}{x y:Str}{i:Nat}
def vn{a b:Expr}{j h:WE}{pos:Pos}(k:EE X a j)(m:EE X b h)(n:k7 b:=by intro _ _;rfl):EE X (.Subscript a b pos) (wBin xO j h):=⟨U7 k.h m.h n⟩
end
def nh{X:Cx}:MtM X "list.append" (mM X.kx rJ):=yW
section
variable {m:MSt}{Q:R->MSt->Prop}{w a:WE}{b:WI}{tt:WT}{own:List Str}{ps:List Nat}
def t6{k:Nat}{p:List Nat}{t d:aD}(f:m.os[k]?=some [t])(i:getT t p=some (.list ts))(g:db ts=some ds)(e:okW t p=true)(c:ds.length<aam)(h:Q (.imm .none) {m with os:=m.os.set k [setT t p (.list ((ds++[d]).map lfD))]}):rJ (.at k p) [.imm d] m Q:=⟨t,ts,ds,f,i,g,e,c,h⟩
def uW{k:Nat}{p:List Nat}{t t':aD}{K:R->Prop}(c:m.os[k]?=some [t])(f:getT t p=some (.list ts))(d:ixN ts.length i=some j)(e:ts[j]?=some t')(h:K (gj k p j t')):xO (.at k p) (.imm (.int i)) m K:=⟨t,ts,j,t',c,f,d,e,h⟩
end
section
variable {X:Cx}{o e d:Expr}{f:List Expr}{w:WE}{g:WA}{b c:Pos}
def oInD(n:Bool):WO:=λr1 r m K=>iA (λk=>∃a,dcM m a r/\oneK a k=true/\K (.imm (.bool (if n=true then !(d8 k a).isSome else(d8 k a).isSome)))) r1
theorem Qu(q:X.A.units+64<cLine)(n:Bool):OpR X (aaS (if n=true then .NotIn else .In)) (rM X.kx (oInD n)):=by
 intro p s A H x y v u Q I B r ⟨N,m,J,L,G,r1,K,M,R,t,D,i,h⟩;let⟨k,rfl,C,j,E,ok,i⟩:=eF t i;let⟨a,rfl,dc⟩:=RelR.dc R D E (by
  rcases qE ok with z|z
  .exact .inl z.1
  .exact .inr z.1)
 cases (r);exact YZ q I dc ok C B n λF l=>⟨.bl _,H,l,rfl,h _ _ H i R (mD _) (Frm.refl _ _)⟩
def o5(h:X.A.units+64<cLine):OpR X (aaS .NotIn) (rM X.kx (oInD true)):=Qu h true
end
def onTr(P:aD->Prop)(r:R):Prop:=match trR r with
 |some t=>P t
 |none=>False
end L2
namespace L2
open PySem PySem.Spec PyProof.Rows
open Sem (wp)
variable{H:Hp}{p:List Nat}{t:aD}{kvs:List (aD×aD)}{c qual:Str}{K:aad}{C:Addr}{st:Stmt}{N ps:List Str}{od:Option Addr}{sl:Array (Option Ad)}{mg:Str->Option Ad}{n nN:Nat}{pl:Sem Bool}{ts:List (Str×aD)}{xs:List (Str×V)}{τs:List (List (List Nat×Addr))}{sp:SpI}{ds:List aD}{P:aD->Prop}
def iU(s:Stmt):List Stmt:=match s with
 | .ClassDef _ _ _ b _ _ _ _ _ _ _=>b
 |_=>[]
def fdAt(f:Str):Nat->List (aD×aD)->Option (Nat×aD)
 |_,[]=>none
 |i,(.str g,t)::r=>if decide (g=f)=true then some (i,t)else fdAt f (i+1) r
 |i,(.none,_)::r=>fdAt f (i+1) r
 |i,(.bool _,_)::r=>fdAt f (i+1) r
 |i,(.int _,_)::r=>fdAt f (i+1) r
 |i,(.list _,_)::r=>fdAt f (i+1) r
 |i,(.tuple _,_)::r=>fdAt f (i+1) r
 |i,(.dict _,_)::r=>fdAt f (i+1) r
section
variable {K:Kd}{H:Hp}{τ:List (List Nat×Addr)}{p:List Nat}{f:Str}
theorem TAtF.look:∀{ts:List (aD×aD)}{i j:Nat}{xs:List (Str×V)}{t:aD},TAtF K H τ p i ts xs->fdAt f i ts=some (j,t)->∃v,xs.lookup f=some v/\TAt K H τ (p++[j]) t v
 |[],_,_,_,_,_,e=>by cases e
 | (.str g,t)::ts,i,j,xs,t',h,e=>by
  simp only[TAtF]at h;let⟨v,vs,rfl,b,a⟩:=h;simp only[fdAt]at e
  by_cases c:g=f
  .rw[if_pos (decide_eq_true c)]at e;cases e;subst c;exact⟨v,by simp[aeo],b⟩
  .rw[if_neg (by simpa using c)]at e;let⟨k,l,m⟩:=TAtF.look a e;refine⟨k,?_,m⟩;rw[aaX];have:(f==g)=false:=by simp only[beq_eq_false_iff_ne,ne_eq];exact λz=>c z.symm
   rw[this];exact l
 |(.none,d)::r,i,j,xs,t',h,e=>by simp only[TAtF]at h;simp only[fdAt]at e;exact TAtF.look h e
 |(.bool _,d)::r,_,_,_,_,h,_=>by simp only[TAtF]at h
 |(.int _,d)::r,_,_,_,_,h,_=>by simp only[TAtF]at h
 |(.list _,d)::r,_,_,_,_,h,_=>by simp only[TAtF]at h
 |(.tuple _,d)::r,_,_,_,_,h,_=>by simp only[TAtF]at h
 |(.dict _,d)::r,_,_,_,_,h,_=>by simp only[TAtF]at h
theorem TAtF.noF:∀{ts:List (aD×aD)}{i:Nat}{xs:List (Str×V)},TAtF K H τ p i ts xs->fdAt f i ts=none->xs.lookup f=none
 |[],_,_,h,_=>by simp only[TAtF]at h;subst h;rfl
 | (.str g,t)::ts,i,xs,h,e=>by
  simp only[TAtF]at h;let⟨v,vs,rfl,b,a⟩:=h;simp only[fdAt]at e
  by_cases c:g=f
  .rw[if_pos (decide_eq_true c)]at e;cases e
  .rw[if_neg (by simpa using c)]at e;rw[aaX];have:(f==g)=false:=by simp only[beq_eq_false_iff_ne,ne_eq];exact λz=>c z.symm
   rw[this];exact TAtF.noF a e
 |(.none,d)::r,i,xs,h,e=>by simp only[TAtF]at h;simp only[fdAt]at e;exact TAtF.noF h e
 |(.bool _,d)::r,_,_,h,_=>by simp only[TAtF]at h
 |(.int _,d)::r,_,_,h,_=>by simp only[TAtF]at h
 |(.list _,d)::r,_,_,h,_=>by simp only[TAtF]at h
 |(.tuple _,d)::r,_,_,h,_=>by simp only[TAtF]at h
 |(.dict _,d)::r,_,_,h,_=>by simp only[TAtF]at h
end
def Rel.insN{K:Kx}{d:Al}{m:MSt}{q:St}(R:Rel K d m q H){k:Nat}{τ:List (List Nat×Addr)}{a:Addr}(s:d[k]?=some (.T τ))(j:τ.lookup p=some a)(f:m.os[k]?=some [t])(r:getT t p=some (.dict kvs))(l:excC kvs=some c) :
  ∃dx C xs,H a=some (.ins C dx xs)/\ClsN K c C/\TAtF K H τ p 0 kvs xs:=by
 let⟨⟨w,v,z,g,_⟩,_⟩:=R.own k (.T τ) _ s f;cases z;let⟨x,b⟩:=g.get r;rw[aba]at b;let⟨u,dx,C,xs,e,_,o,h,i⟩:=b.ins l;rw[j]at e;cases e;exact⟨dx,C,xs,o,h,i⟩
structure InsF(K:aad)(c f:Str):Prop where
 ex:∃C,aaF K aay c=some (some (.ref C))/\Cls K C/\NoAttr K C f
def InsF.of{f:Str}(a:aaF K aay c=some (some (.ref C)))(b1:acO K C aeN=true)(b2:add K C=true)(b:ad1 K C=true)(e:abo K (.ref C) "__setattr__" = some (some (.builtin "object.__setattr__")))(d:abo K (.ref C) f=some none):InsF K c f:=⟨C,a,⟨b1,b2,b,e⟩,d⟩
def fGot(m:MSt)(c:Str)(k:Nat)(p:List Nat)(f:Str)(K:R->Prop):Prop:=∃t kvs j a,m.os[k]?=some [t]/\getT t p=some (.dict kvs)/\excC kvs=some c/\fdAt f 0 kvs=some (j,a)/\K (gj k p j a)
abbrev wFld(c f:Str)(w:WE):WE:=λm K=>w m λr m1=>onAt (λk p=>fGot m1 c k p f λr=>K r m1) r
section
variable {X:Cx}{o:Expr}{w:WE}{pos:Pos}{c f:Str}
theorem WD(C:InsF X.K c f)(F:ME X o w)(G:abv o f X.env (eval o X.env)=eval o X.env:=by rfl):ME X (.Attribute o f pos) (wFld c f w):=(Ug F G).wk<|by
 intro V H Q ⟨J,m,W,s,S,b⟩;refine⟨J,m,_,s,S,λr m1 v l q n1 R rr I=>?_⟩;let⟨k,p,T,a,rfl,e,x,rfl,t,kvs,j,U,h,L,A,y,q⟩:=yP rr q;let⟨dx,d,xs,z,E,g⟩:=R.insN e x h L A;let⟨u,i,cl,B⟩:=C.ex;have M:d=u:=by
  have:=E.symm.trans i;simpa using this
 subst M;let⟨v,O,D⟩:=g.look y;exact⟨a,d,dx,xs,v,rfl,z,cl,B,O,b _ m1 v l q n1 R (j6 R e D) I⟩
theorem ci(C:InsF X.K c f)(a:EE X o w)(h:abv o f X.env (eval o X.env)=eval o X.env:=by rfl):EE X (.Attribute o f pos) (wFld c f w):=⟨WD C a.h h⟩
end
structure gu(P:aaI)(w:World)(K:aad)(mg:Str->Option Ad)(base:aaQ)(c m:Str)(k n:Nat)(sp:SpM):Prop where
 ex:∃(C f:Addr) (fd:abU) (ps:List Str),FnOk P w K mg base CX0 k f fd ps (spOf ⟨K,w⟩ n sp)/\aaF K aay c=some (some (.ref C))/\Cls K C/\Meth K C m f/\Binds K fd ps []
 ar:∀as Kc,sp as Kc->as.length=n
structure MthD(K:aad)(c m qual:Str)(st:Stmt)(ps:List Str):Prop where
 ex:∃(C f:Addr) (fd:abU),Fun K m qual st f fd/\aaF K aay c=some (some (.ref C))/\Cls K C/\Meth K C m f/\Binds K fd ps []
def MthD.of{m:Str}{f:Addr}{o kV g pm b ct:Ad}{an:Option Addr}(j:∀(kV g pm:Ad) (an:Option Addr) (b ct:Ad) (us:List Ad),us.length=ps.length->adA (abe m qual (cw st) (bI st) (ab st) .none kV g pm an b ct) ⟨us,[]⟩=pure (ps.zip us))
  (a:aaF K aay c=some (some (.ref C))) (b1:acO K C aeN=true) (b2:add K C=true) (h:ad1 K C=true) (i:abo K (.ref C) "__setattr__" = some (some (.builtin "object.__setattr__")))
  (d:abo K (.ref C) m=some (some (.ref f))) (l:K.lookup f=some ⟨o,od,.func (abe m qual (cw st) (bI st) (ab st) .none kV g pm an b ct),sl⟩) (e:adh K b qual=true) (k:abJ K (.ref f)=true) (fn:aeG K (.ref f)=true):MthD K c m qual st ps:=
 ⟨C,f,_,ua l e k,a,⟨b1,b2,h,i⟩,⟨d,fn,k⟩,(ua l e k).binds j⟩
theorem jY{P:aaI}{w:World}{base:aaQ}{m:Str}{k:Nat}{sp:SpM}(D:MthD K c m qual st ps)(S:ah N ps (ab st))(l:ps.length=n)(u:N.length=nN)(i:n≤nN)(ar:∀as e,sp as e->as.length=n)
  (d:∀(b:Ad) (A:abc) (outer:List Env) (s:Io) (H:Hp) (E:XK) (f:Addr),Room k (A.deeper (ad3 qual (ab st) s.heap.objs.size f b)) ->
   ∃g,ESs (cxOf CX0 P w K mg base N qual (ab st) f b A outer s H E).nox (bI st) g/\∀as e,as.length=n->sp as e->g {nx:=λm=>e (.imm .none) (m.os.take m.np),rt:=λr m=>retK e m r} (d9 nN as)) :
  gu P w K mg base c m (k+1) n sp:=by
 let⟨C,f,fd,F,a,cl,x,j⟩:=D.ex;refine⟨⟨C,f,fd,ps,F.ok S (λvs H Q E h=>by rw[l];exact h.len) (λb A outer s H vs Q E o h=>?_),a,cl,x,j⟩,ar⟩;let⟨g,q,v⟩:=d b A outer s H E f o;exact⟨_,q.h,fn_m (K:=(cxOf CX0 P w K mg base N qual (ab st) f b A outer s H E).nox.kx) rfl h u i v⟩
def insR(m:MSt)(c f:Str)(r:R)(P:Prop):Prop:=∃k kvs,r = .at k []/\m.os[k]?=some [.dict kvs]/\excC kvs=some c/\fdAt f 0 kvs=none/\P
def Vp(P:List Ag->List Nat->Prop)(o:Option (List Ag×List Nat)):Prop:=∃a k,o=some (a,k)/\P a k
abbrev Af(c f:Str)(sp:SpM)(w:WE)(b:WA):WE:=λm K=>w m λa m1=>insR m1 c f a (b m1 λrs m2=>Vp (λd k=>k.Nodup/\sp d λr o=>K (mapR k r) {m2 with os:=cK m2.os k o}) (iZ m2 (a::rs)))
section
variable {X:Cx}{o a:Expr}{d:List Expr}{w:WE}{i:WA}{pos b:Pos}{c f:Str}{k n:Nat}{sp:SpM}{E:XK}{j:St}{H:Hp}{Q:VK}{C:Addr}
theorem Dm(h:tM X.kx (Af c f sp w i) j H Q)(hC:aaF X.K aay c=some (some (.ref C)))(Y:∀as S,sp as S->as.length=n):Qk C f (spOf X.kd n sp) [] E (tM X.kx w) (tMA X.kx i) j H Q:=by
 let⟨s,m,S,Rl,hw,z⟩:=h;refine⟨s,m,_,Rl,hw,λro m1 v H1 q n1 l rr D=>?_⟩;let⟨L,kvs,rfl,W,e5,e6,q⟩:=q;let⟨V,a,U,M,rfl⟩:=id rr;let⟨dx,Z,xs,hH,hc,g⟩:=l.insN U M W (p:=[]) rfl e5;have ec:Z=C:=by
  have:=hc.symm.trans hC;simpa using this
 subst ec;refine⟨a,dx,xs,rfl,hH,g.noF e6,s,m1,_,l,q,λrs m2 vs T q2 n2 R y J=>?_⟩
 .obtain⟨as,ks,e,nd,hsp⟩:=q2;have B:RelRs X.kx s H (T) (.at L []::rs) (.ref a::vs):=.cons (show RelR X.kx s H T (.at L []) (.ref a)from⟨V,a,U,M,rfl⟩) (y.base l D);let⟨β,ra,A⟩:=h7 R B e;refine⟨as,β,_,Y _ _ hsp,g9 R.nd nd A,by rw[aaZ];exact ra,hsp,λr I v H' G O u F=>?_⟩;let⟨x,F3⟩:=wz R nd A O F;exact z _ _ v H' G (n2.trans n1) x ((w9 A u).base R (D.trans J)) ((D.trans J).trans F3)
theorem Nq(F:gu X.prog X.w X.K X.mg X.base c f k n sp)(v:Room k X.A)(q:ME X o w)(u:MA X (a::d) i)
  (e:aac (a::d) X.env=(false,eval a X.env)::aac d X.env:=by first|exact aI rfl|rfl) (l:(abn pos (aac d X.env)).any (·.1)=false:=by rfl)
  (m:eval (.Call (.Attribute o f b) (a::d) [] pos) X.env=(do
   let ov <- eval o X.env
   acE b.atName
   let (f,first) <- adl [ov] (aef ov f pl)
   agi pos f first (abn pos (aac (a::d) X.env)) (ac4 pos (abY [] X.env))):=by rfl):ME X (.Call (.Attribute o f b) (a::d) [] pos) (Af c f sp w i):=by
 let⟨C,g,fd,ps,G,s,cl,x,r⟩:=F.ex;exact(O3 (E:=E0) (pl:=pl) q cl x G v r .nil JE u e l m).wk λ_ _ _ h=>Dm h s F.ar
theorem Ia(F:gu X.prog X.w X.K X.mg X.base c f k n sp)(A:Room k X.A)(J:ME X o w)
  (y:eval (.Call (.Attribute o f b) [] [] pos) X.env=(do
   let ov <- eval o X.env
   acE b.atName
   let (f,first) <- adl [ov] (aef ov f pl)
   agi pos f first (abn pos (aac [] X.env)) (ac4 pos (abY [] X.env))):=by rfl):ME X (.Call (.Attribute o f b) [] [] pos) (Af c f sp w wNil):=by
 let⟨C,g,fd,ps,G,T,cl,V,L⟩:=F.ex;refine(GC (E:=E0) (pl:=pl) J cl V G A L .nil JE y).wk λj H Q h=>?_;let⟨S,m,M,D,W,s⟩:=Dm (E:=E0) h T F.ar;refine⟨S,m,M,D,W,λr m1 v x q n1 R rr O=>?_⟩;let⟨a,dx,fs,U,I,z,B,m2,Y,u,l,e⟩:=s r m1 v x q n1 R rr O;exact⟨a,dx,fs,U,I,z,e [] m2 [] x l rfl u .nil (Frm.refl _ _)⟩
theorem ik(F:gu X.prog X.w X.K X.mg X.base c f k n sp)(m:Room k X.A)(q:EE X o w)(l:EA X (a::d) i)
  (e:aac (a::d) X.env=(false,eval a X.env)::aac d X.env:=by first|exact aI rfl|rfl) (h:(abn pos (aac d X.env)).any (·.1)=false:=by rfl)
  (g:eval (.Call (.Attribute o f b) (a::d) [] pos) X.env=(do
   let ov <- eval o X.env
   acE b.atName
   let (f,first) <- adl [ov] (aef ov f pl)
   agi pos f first (abn pos (aac (a::d) X.env)) (ac4 pos (abY [] X.env))):=by rfl):EE X (.Call (.Attribute o f b) (a::d) [] pos) (Af c f sp w i):=⟨Nq (pl:=pl) F m q.h l.h e h g⟩
def tx(F:gu X.prog X.w X.K X.mg X.base c f k n sp)(h:Room k X.A)(g:EE X o w)
  (e:eval (.Call (.Attribute o f b) [] [] pos) X.env=(do
   let ov <- eval o X.env
   acE b.atName
   let (f,first) <- adl [ov] (aef ov f pl)
   agi pos f first (abn pos (aac [] X.env)) (ac4 pos (abY [] X.env))):=by rfl):EE X (.Call (.Attribute o f b) [] [] pos) (Af c f sp w wNil):=⟨Ia (pl:=pl) F h g.h e⟩
end
inductive FsOk(K:Kd)(H:Hp):List (Str×aD)->List (Str×V)->List (List (List Nat×Addr))->Prop where
 |nil:FsOk K H [] [] []
 |cons {f:Str}{t:aD}{v:V}{τ:List (List Nat×Addr)}{ts:List (Str×aD)}{xs:List (Str×V)}{τs:List (List (List Nat×Addr))}:TAt K H τ [] t v->(∀a∈τ.map (·.2),∃o,H a=some o/\Mu o=true)->FsOk K H ts xs τs->FsOk K H ((f,t)::ts) ((f,v)::xs) (τ::τs)
theorem FsOk.snoc{K:Kd}{H:Hp}{f:Str}{t:aD}{v:V}{τ:List (List Nat×Addr)}(d:TAt K H τ [] t v)(h:∀a∈τ.map (·.2),∃o,H a=some o/\Mu o=true):∀{ts:List (Str×aD)}{xs:List (Str×V)}{τs:List (List (List Nat×Addr))},FsOk K H ts xs τs->FsOk K H (ts++[(f,t)]) (xs++[(f,v)]) (τs++[τ])
 |_,_,_,.nil=>FsOk.cons d h .nil
 |_,_,_,.cons (f:=g) a b c=>FsOk.cons (f:=g) a b (FsOk.snoc d h c)
theorem FsOk.mono{K:Kd}{f:Hp}(g:Pers H f)(h:FsOk K H ts xs τs):(∀a∈allA τs,f a=H a)->FsOk K f ts xs τs:=by
 induction h with
 |nil=>intro _;exact .nil
 |cons a b c i=>
  intro e;exact .cons (TAt.mono g (λx d=>e x (abB _ d)) a) (λx d=>by rw[e x (abB _ d)];exact b x d) (i λx d=>e x (aaJ _ d))
theorem FsOk.names{K:Kd}:∀{ts:List (Str×aD)}{xs:List (Str×V)}{τs:List (List (List Nat×Addr))},FsOk K H ts xs τs->xs.map (·.1)=ts.map (·.1)
 |_,_,_,.nil=>rfl
 |_,_,_,.cons _ _ c=>by rw[aah,aah,c.names]
theorem FsOk.mu{K:Kd}:∀{ts:List (Str×aD)}{xs:List (Str×V)}{τs:List (List (List Nat×Addr))},FsOk K H ts xs τs->∀a∈allA τs,∃o,H a=some o/\Mu o=true
 |_,_,_,.nil,a,ha=>by cases ha
 |_,_,_,.cons _ b c,a,ha=>by
  rcases aaG.mp ha with z|z
  .exact b a z
  .exact c.mu a z
theorem lL:∀(τs:List (List (List Nat×Addr))) (τ:List (List Nat×Addr)),allA (τs++[τ])=allA τs++τ.map (·.2)
 |[],τ=>by simp[allA]
 |σ::τs,τ=>by rw[adn,allA,allA,lL τs,aa3]
def insT(c:Str)(ts:List (Str×aD)):aD:=.dict ((.none,.str c)::ts.map λf=>(.str f.1,f.2))
theorem FsOk.at{K:Kd}{τ':List (List Nat×Addr)}(h:FsOk K H ts xs τs):∀{i:Nat},(∀(j:Nat) (τ:List (List Nat×Addr)) (q:List Nat) (a:Addr),τs[j]?=some τ->τ.lookup q=some a->τ'.lookup ((i+j)::q)=some a)->TAtF K H τ' [] i (ts.map λd=>(.str d.1,d.2)) xs:=by
 induction h with
 |nil=>intro i _;simp only[acn,TAtF]
 | @cons f t v τ ts xs τs a b c ih=>
  intro i l;simp only[aah,TAtF];refine⟨v,xs,rfl,?_,ih λj τ q a g k=>?_⟩
  .have:=TAt.shift (τ':=τ') (w:=[i]) (λq a e=>l 0 τ q a rfl e) a;simpa using this
  .rw[show i+1+j=i+(j+1) by omega];exact l (j+1) τ q a (by simpa using g) k
theorem wF{f:Str}{v:V}:∀{xs:List (Str×V)},f∉xs.map (·.1)->putF f v xs=xs++[(f,v)]
 |[],_=>rfl
 |(g,x)::r,h=>by
  rw[aah,aae,not_or]at h;rw[show putF f v ((g,x)::r)=(if g=f then(g,v)::r else(g,x)::putF f v r)from rfl,if_neg (λz=>h.1 z.symm),wF h.2];rfl
def Gh(K:aad):List (Str×TE)->TS->TS
 |[],w=>w
 |(f,tv)::r,w=>tSeq (sFld K (tVar 0) tv f) (Gh K r w)
def wFs:List (Str×WE)->MSt->(List (Str×aD)->MSt->Prop)->Prop
 |[],m,K=>K [] m
 |(f,we)::r,m,K=>we m λa m1=>onTr (λt=>wFs r m1 λts m2=>K ((f,t)::ts) m2) a
abbrev SpI:=List aD->(aD->Prop)->Prop
def mH(n:Nat)(ds:List aD):MSt:=⟨none::(ds.map λd=>some (.imm d))++aaz (n-(ds.length+1)) none,[],0⟩
def Pf(c:Str)(nN:Nat)(fs:List (Str×WE))(w:WS)(ds:List aD)(a:aD->Prop):Prop:=
 wFs fs (mH nN ds) λts _=>w {nx:=λm=>∃t,m.os[0]?=some [t]/\a t,rt:=λ_ _=>False} (d9 nN (.tr (insT c ts)::ds.map .imm))
def spIn(K:Kd)(c:Str)(n:Nat)(sp:SpI):Sp:=λvs H Q _=>∃a C dx ds v f,vs = .ref a::v/\ds.length=n/\H a=some (.ins C dx [])/\ClsN K c C/\DenAll K H ds v/\sp ds f/\
 ∀t d e,f t->d.lookup []=some a->(d.map (·.2)).Nodup->(∀b∈d.map (·.2),b=a\/H b=none)->OwnAt K e (.T d) [t]->(∀b o,H b=some o->b≠a->e b=some o)->Q .non e
theorem spIn.len{K:Kd}{vs:List V}{Q:VK}{E:XK}(h:spIn K c n sp vs H Q E):vs.length=n+1:=by
 let⟨a,C,dx,ds,v,d,rfl,b,_,_,hd,_⟩:=h;rw[aaq,<-hd.length,b]
structure EIn(X:Cx)(c:Str)(body:List Stmt)(fs:List (Str×WE))(w:WS):Prop where
 h:PSs X body (Gh X.K (fs.map λfw=>(fw.1,tM X.kx fw.2)) (tMS X.kx w))
 all:∀f∈fs.map (·.1),InsF X.K c f
section
variable {X:Cx}{c f:Str}{b:List Stmt}{fs:List (Str×WE)}{w:WS}{a:WE}{e:Expr}{p d pos:Pos}
def Gm(h:ESs X b w):EIn X c b [] w:=⟨h.h,λ_ z=>by cases z⟩
theorem iL(I:InsF X.K c f)(o:EE X e a)(j:EIn X c b fs w)(l:X.N[0]?=some ("self" : Str):=by rfl)(k:Vis X.env.scope "self":=by first|exact afl rfl|exact adQ (afl rfl)|exact adQ (adQ rfl))(m:abz e (some (.Attribute (.Name "self" p) f d)) pos.line X.env=pure false:=by rfl):EIn X c (.Assign [.Attribute (.Name "self" p) f d] e pos::b) ((f,a)::fs) w:=
 ⟨wZ (WJ (KQ (i:=0) l k) o.h m) j.h,λg h=>by
  rcases aae.mp h with rfl|h
  .exact I
  .exact j.all g h⟩
end
theorem QP{K:Kx}{m:MSt}{f:St}{g:Hp}(j:K.eb=⟨0,[],λ_=>none⟩)(h:Pers H g)(R:Rel K [] m f H):Rel K [] m f g:=by
 refine⟨R.nd,R.len,λk s ds z=>by simp at z,R.vlen,λi r z=>?_,R.npl,R.ebl,by rw[j];exact⟨rfl,λ_ _ z=>(by cases z),λ_ _=>.inr rfl,λa l=>(by cases l)⟩⟩;let⟨v,o,b⟩:=R.var i r z;refine⟨v,o,?_⟩
 cases r with
 |imm d=>exact Den.mono h b
 |obj k=>let⟨a,e,_⟩:=b;simp at e
 | «at» k p=>let⟨q,a,e,_⟩:=b;simp at e
 |new ds=>exact b
 |newT t=>exact b
theorem oX{K:Kd}{H:Hp}:∀{ds:List aD}{vs:List V},DenAll K H ds vs->RelAs K H (ds.map .imm) vs []
 |[],_,h=>by simp only[DenAll]at h;subst h;exact .nil
 |d::ds,_,h=>by
  simp only[DenAll]at h;let⟨v,vs,rfl,f,g⟩:=h;exact .imm f (oX g)
theorem wj:∀ds:List aD,agO (ds.map .imm)=[]
 |[]=>rfl
 |d::ds=>by simp only[aah,agO,wj ds]
theorem Ux{X:Cx}{fs:List (Str×WE)}{w:WS}{vs:List V}{Q:VK}{E:XK}(he:X.kx.eb=⟨0,[],λ_=>none⟩)(hN:N.length=nN)(hle:n+1≤nN)(all:∀f∈fs.map (·.1),InsF X.K c f)(nd:(fs.map (·.1)).Nodup)(h9:fs.length<900)
  (h:spIn X.kd c n sp vs H Q E) (hw:∀ds T,ds.length=n->sp ds T->Pf c nN fs w ds T):Gh X.K (fs.map λfw=>(fw.1,tM X.kx fw.2)) (tMS X.kx w) {nx:=λ_ W=>Q .non W,rt:=Q} (start N vs) H:=by
 let⟨a,C,dx,ds,l,T,rfl,hl,G,hc,hd,hsp,fin⟩:=h;have hw0:=hw ds T hl hsp;have hvl:ds.length=l.length:=hd.length;have σ0:(start N (.ref a::l))[0]?=some (some (.ref a)):=rfl;have R0:Rel X.kx [] (mH nN ds) (start N (.ref a::l)) H:=by
  refine⟨abL,rfl,λk ao es z=>by simp at z,?_,λi r z=>?_,Mt _,by rw[he];exact Mt _,by rw[he];exact⟨rfl,λ_ _ z=>(by cases z),λ_ _=>.inr rfl,λa G=>(by cases G)⟩⟩
  .simp[start,mH];omega
  .cases i with
   |zero=>simp[mH]at z
   | succ i=>
    have M:((ds.map λd=>some (R.imm d))++aaz (nN-(ds.length+1)) none)[i]?=some (some r):=by simpa[mH]using z
    by_cases hi:i<ds.length
    .rw[aaD (by rw[iO];exact hi),aao]at M
     cases q:ds[i]? with
     |none=>rw[q]at M;cases M
     |some d=>
      rw[q]at M;cases M;let⟨v,ev,gv⟩:=hd.get q;refine⟨v,?_,gv⟩;show(some (V.ref a)::l.map some++aaz (N.length-(l.length+1)) none)[i+1]?=_;rw[adn,adY,aaD (by rw[iO];omega),aao,ev];rfl
    .rw[aav (by rw[iO];omega),adU]at M
     split at M<;>cases M
 have go:∀(I:List (Str×WE)) (m:MSt) (A:Hp) (done:List (Str×aD)) (xs:List (Str×V)) (τs:List (List (List Nat×Addr))),(∀f∈I.map (·.1),InsF X.K c f)->(done.map (·.1)++I.map (·.1)).Nodup->done.length+I.length<900 ->
   Rel X.kx [] m (start N (.ref a::l)) A->A a=some (.ins C dx xs)->FsOk X.kd A done xs τs->(allA τs).Nodup->(∀b∈allA τs,H b=none)->(∀b o,H b=some o->b≠a->A b=some o) ->
   wFs I m (λts _=>w {nx:=λm=>∃t,m.os[0]?=some [t]/\T t,rt:=λ_ _=>False} (d9 nN (.tr (insT c (done++ts))::ds.map .imm))) ->
   Gh X.K (I.map λfw=>(fw.1,tM X.kx fw.2)) (tMS X.kx w) {nx:=λ_ W=>Q .non W,rt:=Q} (start N (.ref a::l)) A:=by
  intro I
  induction I with
  | nil=>
   intro m A done xs τs _ _ _ Rl B J D fr old hk;have hk':w {nx:=λm=>∃t,m.os[0]?=some [t]/\T t,rt:=λ_ _=>False} (d9 nN (.tr (insT c done)::ds.map .imm)):=by
    have hk2:w {nx:=λm=>∃t,m.os[0]?=some [t]/\T t,rt:=λ_ _=>False} (d9 nN (.tr (insT c (done++[]))::ds.map .imm)):=hk;rwa[aaZ]at hk2
   have an:a∉allA τs:=λz=>by have:=fr a z;rw[G]at this;cases this
   have pe:Pers H A:=⟨λb xs e=>old b _ e λz=>(by rw[z,G]at e;cases e),λb o u e=>old b _ e λz=>(by rw[z,G]at e;cases e)⟩;have ow:OwnAt X.kx A (.T (([],a)::kq 1 τs)) [insT c done]:=by
    refine⟨⟨_,.ref a,rfl,?_,a,rfl,rfl⟩,λb s=>?_⟩
    .unfold insT;simp only[TAt];refine .inr (.inr (.inr ⟨c,a,dx,C,xs,rfl,rfl,rfl,B,hc,?_⟩));simp only[TAtF];refine J.at λj τ q b e1 e2=>?_;rw[aaX];have:(((0+1+j)::q)==([]:List Nat))=false:=rfl;rw[this];exact o4 (i:=1) e1 e2
    .rw[aah,fC]at s;obtain rfl|s:=aae.mp s
     .exact⟨_,B,rfl⟩
     .exact J.mu b s
   have ra:RelAs X.kx A (.tr (insT c done)::ds.map .imm) (.ref a::l) [.T (([],a)::kq 1 τs)]:=.tr ow rfl (oX (hd.mono pe));have Y:(ads [Ao.T (([],a)::kq 1 τs)]).Nodup:=by
    have:ads [Ao.T (([],a)::kq 1 τs)]=a::allA τs:=by simp[ads,Ao.ads,fC]
    rw[this,aa5];exact⟨an,D⟩
   have agl:(agO (.tr (insT c done)::ds.map .imm)).length=1:=by simp only[agO,wj,aaq,ac7]
   have R1:=uz (K:=X.kx) (N:=N) (n:=n+1) hN hle (by simp[hl]) Y ra (by rw[he];exact abw _) (by rw[he];exact⟨rfl,λ_ _ z=>(by cases z),λ_ _=>.inr rfl,λa G=>(by cases G)⟩);refine⟨_,_,_,R1,hk',⟨λα' m' σ' W q hn R' x=>?_,λr α' m' σ' v W q _ _ _ _=>q.elim,λ_ _ _ _ z=>z.elim,λ_ _ _ _ z=>z.elim⟩⟩;let⟨O,F,_⟩:=rQ ra hn R' x;let⟨t,et,kt⟩:=q;have hn1:m'.np=1:=hn.trans agl;refine fin t (([],a)::kq 1 τs) W kt rfl (by rw[aah,fC,aa5];exact⟨an,D⟩) (λb s=>?_) (O.at_ 0 _ _ rfl (by rw[hn1,aaY,if_pos (by decide)];exact et)) λb o eb nb=>?_
   .rw[aah,fC]at s;obtain rfl|s:=aae.mp s
    .exact .inl rfl
    .exact .inr (fr b s)
   .refine F b o (old b o eb nb) λz=>?_;have:ads [Ao.T (([],a)::kq 1 τs)]=a::allA τs:=by simp[ads,Ao.ads,fC]
    rw[this]at z;rcases aae.mp z with z|z
    .exact nb z
    .rw[fr b z]at eb;cases eb
  | cons g I ih=>
   let⟨f,we⟩:=g;intro m A done xs τs al S hz Rl B J D fr old hk;refine⟨[],m,_,Rl,hk,λr m1 v H1 q n1 Rl1 rr F1=>?_⟩;unfold onTr at q
   cases et:trR r with
   |none=>rw[et]at q;exact q.elim
   | some t=>
    rw[et]at q;let⟨τ,t1,t2,t3,t4⟩:=Tj rr;have Z:∀b o,A b=some o->H1 b=some o:=λb o e=>F1 b o e (by simp[ads]);have hH1:=Z a _ B;let⟨C0,hn,cl,na⟩:=(al f (by simp)).ex;have ec:C=C0:=by
     have:=hc.symm.trans hn;simpa using this
    subst ec;have fn:f∉xs.map (·.1):=by
     rw[J.names];intro z;rw[aah,acF]at S;exact S.2.2 f z f aaa rfl
    have xl:xs.length=done.length:=by have:=congrArg ab9 J.names;simpa using this
    refine⟨.ref a,σ0,a,C,dx,xs,rfl,hH1,cl,na,by rw[xl];omega,?_⟩;rw[wF fn];have U:Pers H1 (upd H1 a (.ins C dx (xs++[(f,v)]))):=bu (.inr ⟨_,hH1,rfl⟩);have pec:Pers A H1:=⟨λb xs e=>Z b _ e,λb o u e=>Z b _ e⟩;have an:a∉allA τs:=λz=>by have:=fr a z;rw[G]at this;cases this
    have L:a∉τ.map (·.2):=λz=>by have:=t4 a z;rw[B]at this;cases this
    have old0:∀b,A b=none->H b=none:=λb q=>by
     cases z:H b with
     |none=>rfl
     |some o=>
      have ne:b≠a:=λy=>by rw[y,B]at q;cases q
      have:=old b o z ne;rw[q]at this;cases this
    refine ih m1 _ (done++[(f,t)]) (xs++[(f,v)]) (τs++[τ]) (λg hg=>al g (aab _ hg)) ?_ ?_ (QP he U Rl1) aB ?_ ?_ ?_ ?_ ?_
    .rw[aaw,aa3];exact S
    .rw[aal];simp at hz⊢;omega
    .refine FsOk.snoc (TAt.mono U (λb s=>aA (λ(z:b=a)=>L (z▸s))) (t1 t et)) (λb s=>by rw[aA (λ(z:b=a)=>L (z▸s))];exact t3 b s) ?_;refine FsOk.mono (pec.trans U) J (λb s=>?_);rw[aA (λ(z:b=a)=>an (z▸s))];let⟨o,q,_⟩:=J.mu b s;rw[q];exact Z b o q
    .rw[lL,acF];refine⟨D,t2,λb s b' hb' z=>?_⟩;subst z;let⟨o,q,_⟩:=J.mu b s;rw[t4 b hb']at q;cases q
    .intro b s;rw[lL]at s;rcases aaG.mp s with z|z
     .exact fr b z
     .exact old0 b (t4 b z)
    .intro b o eb nb;rw[aA nb];exact Z b o (old b o eb nb)
    .have:=q;simp only[aa3,adn,aba]at this⊢;exact this
 exact go fs (mH nN ds) H [] [] [] all (by simpa using nd) (by simpa using h9) R0 G .nil abL (λ_ z=>by cases z) (λ_ _ e _=>e) hw0
structure zU(P:aaI)(w:World)(K:aad)(mg:Str->Option Ad)(base:aaQ)(c:Str)(k n:Nat)(sp:SpI):Prop where
 ex:∃(C f:Addr) (fd:abU) (ps:List Str),Mk K C f/\FnOk P w K mg base CX0 k f fd ps (spIn ⟨K,w⟩ c n sp)/\aaF K aay c=some (some (.ref C))/\mg c=some (.ref C)/\Binds K fd ps []
 ar:∀ds Kc,sp ds Kc->ds.length=n
structure IniD(K:aad)(mg:Str->Option Ad)(c qual:Str)(st:Stmt)(ps:List Str):Prop where
 ex:∃(C f:Addr) (fd:abU),Fun K "__init__" qual st f fd/\Mk K C f/\aaF K aay c=some (some (.ref C))/\mg c=some (.ref C)/\Binds K fd ps []
structure IniDK(K:aad)(c qual:Str)(st:Stmt)(ps:List Str):Prop where
 ex:∃(C f:Addr) (fd:abU),Fun K "__init__" qual st f fd/\Mk K C f/\aaF K aay c=some (some (.ref C))/\Binds K fd ps []
def IniDK.of{f:Addr}{o kV g pm b ct:Ad}{an:Option Addr}(i:∀(kV g pm:Ad) (an:Option Addr) (b ct:Ad) (us:List Ad),us.length=ps.length->adA (abe "__init__" qual (cw st) (bI st) (ab st) .none kV g pm an b ct) ⟨us,[]⟩=pure (ps.zip us))
  (a:aaF K aay c=some (some (.ref C))) (d:abo K (.ref C) "__init__" = some (some (.ref f))) (l:K.lookup f=some ⟨o,od,.func (abe "__init__" qual (cw st) (bI st) (ab st) .none kV g pm an b ct),sl⟩) (e:adh K b qual=true) (k:abJ K (.ref f)=true) (fn:aeG K (.ref f)=true) (m:af2 K C=true) (h:abJ K (.ref C)=true):IniDK K c qual st ps:=
 ⟨C,f,_,ua l e k,⟨m,d,fn,h⟩,a,(ua l e k).binds i⟩
theorem IniDK.m{h:aaQ}(D:IniDK K c qual st ps)(X:K.In h)(G:h.Ns aay mg):IniD K mg c qual st ps:=by
 let⟨C,f,fd,F,M,a,b⟩:=D.ex;exact⟨C,f,fd,F,M,a,afm X G a,b⟩
theorem QW{P:aaI}{w:World}{base:aaQ}{k:Nat}(D:IniD K mg c qual st ps)(S:ah N ps (ab st))(o:ps.length=n+1)(m:N.length=nN)(i:n+1≤nN)(ar:∀ds e,sp ds e->ds.length=n)
  (d:∀(b:Ad) (A:abc) (outer:List Env) (s:Io) (H:Hp) (E:XK) (f:Addr),Room k (A.deeper (ad3 qual (ab st) s.heap.objs.size f b)) ->
   ∃fs g,EIn (cxOf CX0 P w K mg base N qual (ab st) f b A outer s H E).nox c (bI st) fs g/\(decide (fs.map (·.1)).Nodup=true/\fs.length<900)/\∀ds e,ds.length=n->sp ds e->Pf c nN fs g ds e) :
  zU P w K mg base c (k+1) n sp:=by
 let⟨C,f,fd,F,M,a,r,q⟩:=D.ex;refine⟨⟨C,f,fd,ps,M,F.ok S (λvs H Q E h=>by rw[o];exact h.len) (λb A outer s H vs Q E v h=>?_),a,r,q⟩,ar⟩;let⟨fs,g,l,j,u⟩:=d b A outer s H E f v;exact⟨_,l.h,Ux (X:=(cxOf CX0 P w K mg base N qual (ab st) f b A outer s H E).nox) rfl m i l.all (of_decide_eq_true j.1) j.2 h u⟩
def n9:List R->Option (List aD)
 |[]=>some []
 | .imm d::rs=>(n9 rs).map (d :: ·)
 |_::_=>none
def xp(P:List aD->Prop)(rs:List R):Prop:=match n9 rs with
 |some ds=>P ds
 |none=>False
abbrev M9(sp:SpI)(w:WA):WE:=λm K=>w m λrs m1=>xp (λds=>sp ds λt=>K (.newT t) m1) rs
theorem xU{K:Kd}{b:Al}{f H:Hp}:∀{rs:List R}{vs:List V}{ds:List aD},RelRs K b f H rs vs->n9 rs=some ds->DenAll K H ds vs
 |_,_,ds,.nil,e=>by cases e;exact DenAll.nil
 | _,_,ds,.cons (r:=.imm d) (rs:=rs) h t,e=>by
  simp only[n9]at e
  cases q:n9 rs with
  |none=>rw[q]at e;cases e
  |some a=>
   rw[q]at e;cases e;exact DenAll.cons h (xU t q)
 |_,_,_,.cons (r:=.obj _) _ _,e=>by cases e
 |_,_,_,.cons (r:=.at _ _) _ _,e=>by cases e
 |_,_,_,.cons (r:=.new _) _ _,e=>by cases e
 |_,_,_,.cons (r:=.newT _) _ _,e=>by cases e
section
variable {X:Cx}{a:Expr}{d:List Expr}{w:WA}{p pos:Pos}{c:Str}{k n:Nat}{sp:SpI}{E:XK}{g:St}{H:Hp}{Q:VK}{C:Addr}
theorem OX(h:tM X.kx (M9 sp w) g H Q)(Z:aaF X.K aay c=some (some (.ref C)))(T:∀ds J,sp ds J->ds.length=n):VA C (spIn X.kd c n sp) [] E (tMA X.kx w) g H Q:=by
 let⟨s,m,J,U,hw,B⟩:=h;refine⟨s,m,_,U,hw,λrs m1 vs i q n1 R rr L x dx A F ne=>?_⟩;unfold xp at q
 cases e:n9 rs with
 |none=>rw[e]at q;exact q.elim
 | some ds=>
  rw[e]at q;have hd:=xU rr e;have r:∀b o,i b=some o->(upd (upd i dx (.own x)) x (.ins C dx [])) b=some o:=λb o eb=>by
   have b1:b≠x:=λz=>by rw[z,A]at eb;cases eb
   have b2:b≠dx:=λz=>by rw[z,F]at eb;cases eb
   rw[aA b1,aA b2];exact eb
  have f:∀b,i b=none->H b=none:=λb q=>by
   cases z:H b with
   |none=>rfl
   |some o=>
    by_cases l:b∈ads s
    .obtain⟨o,q2,_⟩:=R.mem l;rw[q]at q2;cases q2
    .have:=L b o z l;rw[q]at this;cases this
  have D:Pers i (upd (upd i dx (.own x)) x (.ins C dx [])):=⟨λb xs e=>r b _ e,λb o u e=>r b _ e⟩;refine⟨x,C,dx,ds,vs,_,by rw[aaZ],T _ _ q,aB,Z,hd.mono D,q,λt M v O Y V S e4 W=>⟨rfl,?_⟩⟩;have j:∀b o,i b=some o->v b=some o:=λb o eb=>W b o (r b o eb) λz=>by rw[z,A]at eb;cases eb
  have I:Frm s i v:=λb o eb _=>j b o eb;have G:Rel X.kx s m1 g v:=R.at (FY j) (λb l=>by let⟨o,q,_⟩:=R.mem l;rw[q];exact j b o q) I;refine B _ m1 (.ref x) v O n1 G ⟨M,x,rfl,Y,V,λb l=>?_,e4⟩ (L.trans I);rcases S b l with rfl|z
  .exact f _ A
  .refine f b ?_
   cases y:i b with
   |none=>rfl
   |some o=>rw[r b o y]at z;cases z
theorem O9(F:zU X.prog X.w X.K X.mg X.base c k n sp)(l:Room (k+1) X.A)(j:MA X (a::d) w)(i:Gl X c:=by rfl)(e:(c==("__debug__" : Str))=false:=by decide)(r:aac (a::d) X.env=(false,eval a X.env)::aac d X.env:=by first|exact aI rfl|rfl)(b:(abn pos (aac d X.env)).any (·.1)=false:=by rfl):ME X (.Call (.Name c p) (a::d) [] pos) (M9 sp w):=by
 let⟨C,f,fd,ps,M,G,q,o,m⟩:=F.ex;exact(O7 (E:=E0) M G l i o m .nil JE j e r b).wk λ_ _ _ h=>OX h q F.ar
theorem Jy(F:zU X.prog X.w X.K X.mg X.base c k n sp)(i:Room (k+1) X.A)(f:EA X (a::d) w)(e:Gl X c:=by rfl)(b:(c==("__debug__" : Str))=false:=by decide)(j:aac (a::d) X.env=(false,eval a X.env)::aac d X.env:=by first|exact aI rfl|rfl)(h:(abn pos (aac d X.env)).any (·.1)=false:=by rfl):EE X (.Call (.Name c p) (a::d) [] pos) (M9 sp w):=⟨O9 F i f.h e b j h⟩
end
section
variable {m:MSt}{Q:R->MSt->Prop}{a:WE}{b:WA}{c f:Str}{sp:SpM}{s:SpI}
def Uh{k j:Nat}{t' d:aD}{K:R->Prop}(i:m.os[k]?=some [t])(l:getT t p=some (.dict kvs))(g:excC kvs=some c)(e:fdAt f 0 kvs=some (j,t'))(o:iQ t'=some d)(h:K (.imm d)):fGot m c k p f K:=⟨t,kvs,j,t',i,l,g,e,by unfold gj;rw[o];exact h⟩
def uY{k j:Nat}{t':aD}{K:R->Prop}(g:m.os[k]?=some [t])(i:getT t p=some (.dict kvs))(d:excC kvs=some c)(e:fdAt f 0 kvs=some (j,t'))(l:iQ t'=none)(h:K (.at k (p++[j]))):fGot m c k p f K:=⟨t,kvs,j,t',g,i,d,e,by unfold gj;rw[l];exact h⟩
def Dq{p:List Ag->List Nat->Prop}{as:List Ag}{ks:List Nat}{o:Option (List Ag×List Nat)}(e:o=some (as,ks))(nd:ks.Nodup)(h:p as ks):Vp (λas ks=>ks.Nodup/\p as ks) o:=⟨as,ks,e,nd,h⟩
def Wz{k:Nat}{P:Prop}(e:m.os[k]?=some [.dict kvs])(g:excC kvs=some c)(d:fdAt f 0 kvs=none)(h:P):insR m c f (.at k []) P:=⟨k,kvs,rfl,e,g,d,h⟩
def Jq{P:List aD->Prop}{rs:List R}(e:n9 rs=some ds)(h:P ds):xp P rs:=by unfold xp;rw[e];exact h
def NQ{fs:List (Str×WE)}{w:WS}{d:aD->Prop}(g:MSt)(e:g=mH nN ds)(h:wFs fs g λts _=>w {nx:=λm=>∃t,m.os[0]?=some [t]/\d t,rt:=λ_ _=>False} (d9 nN (.tr (insT c ts)::ds.map .imm))):Pf c nN fs w ds d:=by subst e;exact h
def XW{r:List (Str×WE)}{w:WE}{K:List (Str×aD)->MSt->Prop}(h:w m λd m1=>onTr (λt=>wFs r m1 λts m2=>K ((f,t)::ts) m2) d):wFs ((f,w)::r) m K:=h
def YI{K:List (Str×aD)->MSt->Prop}(h:K [] m):wFs [] m K:=h
def XQ{d:aD}(h:P (lfD d)):onTr P (.imm d):=h
def Yq(h:P (.list (ds.map lfD))):onTr P (.new ds):=h
def Yk(h:P t):onTr P (.newT t):=h
end
def XJ(K:Kd)(to ti:TE):TE:=λe H Q=>to e H λx f=>ti e f λy b=>∃a kvs k d,x = .ref a/\IsDc K b a kvs/\oneK kvs k=true/\Den K b k y/\d8 k kvs=some d/\∀v,Den K b d v->Q v b
section
variable {X:Cx}{o i:Expr}{w b:WE}{pos:Pos}{to ti:TE}
theorem QC(z:X.A.units+64<cLine)(D:PE X o to)(L:PE X i ti)(M:NoSl i):PE X (.Subscript o i pos) (XJ X.kd to ti):=by
 intro e s g H Q I h;refine Ca afa.lookup M (thn (D e s g H _ I h) λu s1 ⟨x,j,A,E,q⟩=>thn (L e s1 g j _ A q) λS s2 ⟨y,G,f,r,a,kvs,k,d,ex,dc,ok,F,J,B⟩=>?_);subst ex;obtain rfl:u=abk a:=E;exact⟨(f.dcT dc).1,yN z f dc ok F r J λv O R l m hd=>⟨v,G,l,m,B v hd⟩⟩
abbrev Uz(w b:WE):WE:=λm K=>w m λa m1=>b m1 λr m2=>iA (λk=>∃kvs d,dcM m2 kvs a/\oneK kvs k=true/\d8 k kvs=some d/\K (.imm d) m2) r
theorem MH(q:X.A.units+64<cLine)(s:ME X o w)(B:ME X i b)(u:NoSl i:=by intro _ _;rfl):ME X (.Subscript o i pos) (Uz w b):=(QC q s B u).wk<|by
 intro M H Q ⟨j,m,O,h,E,g⟩;refine⟨j,m,_,h,E,λS m1 G L k1 n1 R r x=>⟨j,m1,_,R,k1,λJ m2 I A k2 n2 e f F=>?_⟩⟩;let⟨k,rfl,y,kvs,d,D,ok,l,k2⟩:=eF f k2;let⟨a,rfl,dc⟩:=RelR.dc e (r.keep h R F) D (by
  rcases qE ok with z|z
  .exact .inl z.1
  .exact .inr z.1)
 exact⟨a,kvs,k,d,rfl,dc,ok,y,l,λv hd=>g _ m2 v A k2 (n2.trans n1) e hd (x.trans F)⟩
theorem yl(h:X.A.units+64<cLine)(a:EE X o w)(d:EE X i b)(e:NoSl i:=by intro _ _;rfl):EE X (.Subscript o i pos) (Uz w b):=⟨MH h a.h d.h e⟩
end
end L2
set_option maxHeartbeats 1100000
namespace L2
open PySem PySem.Spec PyProof.Rows
open Sem (wp)
variable{Q:Option Ad->Io->Prop}{kvs:List (aD×aD)}
structure EntAt(h:aaQ)(d:Addr)(es:Array ab2)(ep:Nat):Prop where
 ex:∃o,h.get? d=some o/\o.ExactDict/\o.data = .dict es ep
section
variable {prog:aaI}{w:World}{A:abc}{E:Ad->Io->Prop}{s:Io}{f d:Addr}{l:Array ab2}{i p:Nat}{ok r:Ad}
def uG{Q:String->Io->Prop}(a:s.TypeIs (.ref f) "dict_itemiterator")(h:Q "dict_itemiterator" s):wpAny (model prog w) A (typeNameOfWhole (.ref f)) Q E s:=wpAny_typeNameOfWhole_itemiter a h
def y6{j n:Nat}{k v:Ad}{Q:Ad->Io->Prop}(a:ac2 s.heap f d j n p ok r)
  (L:∀h',afu h' f d j n p k v s.heap.objs.size->h'.get? s.heap.objs.size=some {cls:=.type "tuple",data:=.seq #[k,v]}->h'.objs.size=s.heap.objs.size+1 ->
   (∀b o,b≠f->s.heap.get? b=some o->h'.get? b=some o)->Q (.ref s.heap.objs.size) {s with heap:=h' }):wpAny (model prog w) A (abV (.ref f) 6 k v) Q E s:=by
 have lt:f<s.heap.objs.size:=aan a;rcases s with⟨h,g,R,K,os⟩;refine gT (m:=newTuple [k,v]) (aeZ ?_);have H:(h.push {cls:=.type "tuple",data:=.seq #[k,v]}).objs.size=h.objs.size+1:=abp ..;have F:(h.push {cls:=.type "tuple",data:=.seq #[k,v]}).get? h.objs.size=some {cls:=.type "tuple",data:=.seq #[k,v]}:=aak _ rfl;have u:∀b o,h.get? b=some o->(h.push {cls:=.type "tuple",data:=.seq #[k,v]}).get? b=some o:=λb o q=>GT _ q;have c:ac2 (h.push {cls:=.type "tuple",data:=.seq #[k,v]}) f d j n p ok r:=u _ _ a;show wpAny _ _ (abN (.ref f) >>= _) _ _ ⟨h.push {cls:=.type "tuple",data:=.seq #[k,v]},g,R,K,os⟩;generalize h.push {cls:=.type "tuple",data:=.seq #[k,v]}=C at H F u c;refine gT (m:=abN (.ref f)) ?_;refine gT (m:=field (.ref f) 0) (aa7 c rfl (x:=.none) rfl (LD ?_));refine gT (m:=field (.ref f) 6) (aa7 c rfl (x:=ok) rfl (gT (m:=field (.ref f) 7) (aa7 c rfl (x:=r) rfl ?_)));refine gT (m:=acQ (.ref f) 6 k) (aaH c (by simp) λJ N s1=>?_);have B:ac2 J f d j n p k r:=N;refine gT (m:=acQ (.ref f) 7 v) (aaH B (by simp) λP M s2=>?_);have y:ac2 P f d j n p k v:=M;refine gT (m:=acQ (.ref f) 0 (adk h.objs.size)) (aaH y (by simp) λU T D=>?_);have t:afu U f d j n p k v h.objs.size:=T;refine gT (m:=acQ (.ref f) 1 (.bool false)) (aaH t (by simp) λe S G=>?_);have z:afu e f d j n p k v h.objs.size:=S;have I:∀b o,b≠f->C.get? b=some o->e.get? b=some o:=λb o nb q=>G.extBut b o nb (D.extBut b o nb (s2.extBut b o nb (s1.extBut b o nb q)));have O:e.objs.size=C.objs.size:=by rw[G.1,D.1,s2.1,s1.1]
 exact gT (m:=letGo _ _) (afg (LD (L e z (I _ _ (abm lt) F) (O.trans H) λb o nb q=>I b o nb (u b o q))))
def FJ(h:ac2 s.heap f d i l.size p ok r)(G:EntAt s.heap d l p)(H:i<l.size)
  (B:∀h',afu h' f d (i+1) l.size p l[i].key l[i].val s.heap.objs.size->h'.get? s.heap.objs.size=some {cls:=.type "tuple",data:=.seq #[l[i].key,l[i].val]}->h'.objs.size=s.heap.objs.size+1 ->
   (∀b o,b≠f->s.heap.get? b=some o->h'.get? b=some o)->Q (some (.ref s.heap.objs.size)) {s with heap:=h' }):wpAny (model prog w) A (act (.ref f)) Q E s:=by
 let⟨J,k,C,c⟩:=G.ex;have a:s.TypeIs (.ref f) "dict_itemiterator":=(⟨_,h,rfl⟩);have own:abP "dict_itemiterator" = true:=by decide
 unfold act;refine gT (acL (aaT (name:=abO "__next__") a aa1 (aa2 aa1 a ab6 ?_ (abZ _))))
 wp_walk using uG a,ae3 h rfl,adg k c,adO k c,aa6 a
 have y:(if (i:Int)<0 then none else l[((i:Nat):Int).toNat]?)=some l[i]:=by
  rw[if_neg (by omega),abf,ab0 H]
 rw[y];rcases s with⟨x,g,v,n,os⟩;refine gT ?_;refine gT (uG a (LD ?_));refine gT (m:=ae4 _ _) (aa6 a ?_);show wpAny _ _ (acQ (.ref f) 3 (adk ((i:Int)+1)) >>= _) _ _ _;refine gT (aaH h (by simp) λj I s1=>?_);replace s1:abd f x j:=s1;have e:ac2 j f d (i+1) l.size p ok r:=by
  have q:((i+1:Nat):Int)=(i:Int)+1:=rfl;unfold ac2;rw[q];simpa[adk]using I
 have T:afv ⟨j,g,v,n,os⟩ (.ref f) "dict_itemiterator":=(⟨_,e,rfl⟩);refine gT (abR (gT (aa6 T (gT (aa6 T ?_)))));show wpAny _ _ (abV (.ref f) 6 l[i].key l[i].val) _ _ ⟨j,g,v,n,os⟩;have D:j.objs.size=x.objs.size:=s1.1;refine y6 e λF u t z k2=>?_;rw[D]at u t z⊢;exact LD ⟨_,rfl,LD (B F u t z λb o nb q=>k2 b o nb (s1.extBut b o nb q))⟩
def DB(t:A.handled=none)(h:ac2 s.heap f d i l.size p ok r)(z:EntAt s.heap d l p)(B:l.size≤i)
  (x:∀h',(∀b o,b≠f->s.heap.get? b=some o->h'.get? b=some o)->Q none {s with heap:=h' }):wpAny (model prog w) A (act (.ref f)) Q E s:=by
 let⟨D,c,j,a⟩:=z.ex;have g:s.TypeIs (.ref f) "dict_itemiterator":=(⟨_,h,rfl⟩);have own:abP "dict_itemiterator" = true:=by decide
 unfold act;refine gT (acL (aaT (name:=abO "__next__") g aa1 (aa2 aa1 g ab6 ?_ (abZ _))))
 wp_walk using uG g,ae3 h rfl,adg c a,adO c a,aa6 g
 have v:(if (i:Int)<0 then none else l[((i:Nat):Int).toNat]?)=none:=by
  rw[if_neg (by omega),abf,afW B]
 rw[v];refine gT (gT (uG g (LD ?_)));refine gT (m:=acQ (.ref f) 2 .none) (aaH h (by simp) λC F s1=>?_);refine rb t λy e k2 ⟨u,n,k⟩=>?_;exact gT (acR (T:= "StopIteration") (b:=true) ⟨u,n,k⟩ ae0 (LD (x y λb o nb q=>k2 b o (s1.extBut b o nb q))))
def EntAt.keep{h h':aaQ}(x:EntAt h d l p)(k:∀o,h.get? d=some o->h'.get? d=some o):EntAt h' d l p:=let ⟨o,a,b,c⟩:=x.ex;⟨o,k o a,b,c⟩
def EntAt.ty(x:EntAt s.heap d l p):s.TypeIs (.ref d) "dict":=let ⟨o,a,b,_⟩:=x.ex;⟨o,a,b.1⟩
def zt{Q:Ad->Io->Prop}(hd:(d==abA)=false)(a:EntAt s.heap d l p)(h:Q (.ref s.heap.objs.size) {s with heap:=s.heap.push {cls:=.type "dict_items",data:=.fields #[.ref d]} }):wpAny (model prog w) A (call (.builtin "dict.items") [.ref d]) Q E s:=by
 refine call_meetsIn (S:=λ_ R s=>EntAt s.heap d l p/\R (.ok (.ret (.ref s.heap.objs.size))) {s with heap:=s.heap.push {cls:=.type "dict_items",data:=.fields #[.ref d]} }) afE a.ty PySem.F.entry_dict_items (PySem.F.args_dict_items_1 _) (.of_wp λA R s ⟨b,h⟩=>?_) ⟨a,h⟩;refine gT (gT (agf b.ty ?_));refine LD ?_;refine gT ?_;unfold adc.Dict.showsAll;rw[hd];exact LD (gT (aa9 (LD ⟨_,rfl,h⟩)))
end
section
variable {X:Cx}{p:List (Addr×Obj)}{a:St}{H:Hp}{s:Io}
def N6{P:aaI}{w:World}{kk:Key}{u:Ad}(e:(cx P w).is kk u=true):RelV (kV kk) u:=by
 rcases bW e with⟨i,t,rfl,rfl⟩|⟨x,t,rfl,rfl⟩
 .exact⟨t,rfl⟩
 .exact⟨t,rfl⟩
end
theorem Paired.at{a β:Type}{R:a->β->Prop}:∀{xs:List a}{ys:List β}{i:Nat}{y:β},abI R xs ys->ys[i]?=some y->∃x,xs[i]?=some x/\R x y
 |_,_,i,y,.nil,e=>by simp at e
 |_,_,0,y,.cons h _,e=>by simp at e;subst e;exact⟨_,rfl,h⟩
 |_,_,i+1,y,.cons _ t,e=>by
  let⟨x,c,b⟩:=Paired.at t ‹_›;exact⟨x,by simpa using c,b⟩
theorem Bj{K:Kd}{H:Hp}:∀{kvs:List (aD×aD)}{xs:List (Int×V×V)},DenKV K H kvs xs->abI (λ(p:aD×aD) (e:V×V)=>Den K H p.1 e.1/\Den K H p.2 e.2) kvs (xs.map (·.2))
 |[],_,h=>by simp[DenKV]at h;subst h;exact .nil
 |_::r,_,h=>by
  let⟨u,v,vs,rfl,a,c,b⟩:=h;exact .cons ⟨a,c⟩ (Bj b)
theorem DA{K:Kd}{H:Hp}:∀{kvs:List (aD×aD)}{xs:List (Key×V)},DenKK K H kvs xs->abI (λ(p:aD×aD) (e:V×V)=>Den K H p.1 e.1/\Den K H p.2 e.2) kvs (xs.map λp=>(kV p.1,p.2))
 |[],_,h=>by simp[DenKK]at h;subst h;exact .nil
 |(k,d)::r,_,h=>by
  let⟨c,v,vs,rfl,⟨rfl,_⟩,b,a⟩:=h;refine .cons ⟨?_,b⟩ (DA a)
  cases c with
  |inl i=>exact vH i
  |inr x=>exact MM x
abbrev PDc(K:Kd)(H:Hp):List (aD×aD)->List (V×V)->Prop:=abI λp e=>Den K H p.1 e.1/\Den K H p.2 e.2
def gG(kvs:List (aD×aD)):List aD:=kvs.map λp=>.tuple [p.1,p.2]
theorem Paired.at1{a β:Type}{R:a->β->Prop}:∀{xs:List a}{ys:List β}{i:Nat}{x:a},abI R xs ys->xs[i]?=some x->∃y,ys[i]?=some y/\R x y
 |_,_,i,y,.nil,e=>by simp at e
 |_,_,0,y,.cons h _,e=>by simp at e;subst e;exact⟨_,rfl,h⟩
 |_,_,i+1,y,.cons _ t,e=>by
  let⟨x,c,b⟩:=Paired.at1 t ‹_›;exact⟨x,by simpa using c,b⟩
noncomputable def putX (k:aD) (b:Addr) (r:Ad):List (aD×Addr×Ad)->List (aD×Addr×Ad)
 |[]=>[(k,b,r)]
 |x::xs=>if x.1=k then(x.1,x.2.1,r)::xs else x::putX k b r xs
theorem yk{k:aD}{r:Ad}:∀{xs:List (aD×Addr×Ad)},k∉xs.map (·.1)->xs.map (putAt k r)=xs
 |[],_=>rfl
 |x::xs,h=>by
  rw[aah,aae,not_or]at h;rw[aah,yk h.2];unfold putAt;rw[if_neg (λz=>h.1 z.symm)]
theorem md{k:aD}{b:Addr}{r:Ad}:∀{xs:List (aD×Addr×Ad)},(xs.map (·.1)).Nodup->storedH xs k b r=putX k b r xs
 |[],_=>rfl
 | x::xs,h=>by
  rw[aah,aa5]at h
  by_cases e:x.1=k
  .have a:atKey (x::xs) k=some x.2:=by simp[atKey,e]
   rw[storedH_old a,aah,yk (by rw[<-e];exact h.1)];unfold putX putAt;rw[if_pos e,if_pos e]
  .have a:atKey (x::xs) k=atKey xs k:=by simp[atKey,e]
   have i:=md (k:=k) (b:=b) (r:=r) h.2;unfold putX;rw[if_neg e,<-i];unfold storedH;rw[a];split
   .rw[aah];unfold putAt;rw[if_neg e]
   .rfl
noncomputable def putE (w:World) (k:aD) (y v:V):List (aD×aD)->List (Int×V×V)->List (Int×V×V)
 |(k',_)::r,e::es=>if k'=k then(e.1,e.2.1,v)::es else e::putE w k y v r es
 |_,_=>[(iz w k,y,v)]
def AB{k d k' d':aD}{r:List (aD×aD)}(h:kyD k'=true)(a:kyD k=true):putP k d ((k',d')::r)=if k'=k then(k',d)::r else(k',d')::putP k d r:=by
 show(if aaj k' k=true then _ else _)=_;rw[sj _ _ (oI h) (oI a)];simp
theorem wq(w:World)(k:aD)(y v:V):∀(kvs:List (aD×aD)) (a:List (Int×V×V)),kvs.length=a.length->(putE w k y v kvs a).length≤a.length+1
 |[],[],_=>Mt _
 |_::r,e::a,h=>by
  unfold putE;split
  .simp
  .rw[aaq,aaq];have:=wq w k y v r a (by simpa using h);omega
 |[],_::_,h=>by simp at h
 |_::_,[],h=>by simp at h
theorem yy{K:Kd}{H:Hp}{k d:aD}{y v:V}(h:kyD k=true)(dk:Den K H k y)(b:Den K H d v):∀{kvs:List (aD×aD)}{a:List (Int×V×V)},kyA kvs=true->DenKV K H kvs a->DenKV K H (putP k d kvs) (putE K.w k y v kvs a)
 |[],a,_,g=>by
  subst g;show DenKV K H [(k,d)] [(iz K.w k,y,v)];simp only[DenKV];exact⟨y,v,[],rfl,dk,b,rfl⟩
 |(k',d')::r,a,ha,g=>by
  rw[kyA,abT,aaE]at ha;let⟨u,j,vs,rfl,f,i,c⟩:=g;rw[AB ha.1 h];unfold putE
  by_cases e:k'=k
  .rw[if_pos e,if_pos e];simp only[DenKV];exact⟨u,v,vs,rfl,f,b,c⟩
  .rw[if_neg e,if_neg e];simp only[DenKV];exact⟨u,j,_,rfl,f,i,yy h dk b ha.2 c⟩
theorem Oj{w:World}{k:aD}{b:Addr}{v:V}{r:Ad}(d:RelV v r):∀{kvs:List (aD×aD)}{e:List (Int×V×V)}{xs:List (aD×Addr×Ad)},xs.map (·.1)=kvs.map (·.1)->ExV w e xs->ExV w (putE w k (.ref b) v kvs e) (putX k b r xs):=by
 intro kvs
 induction kvs with
 |nil=>
  intro e xs a ex;have:=by simpa using a
  subst this;exact .cons ⟨rfl,rfl,d⟩ .nil
 | cons q kvs i=>
  intro e xs a ex;let⟨f,g⟩:=q
  cases ex with
  |nil=>simp at a
  |cons h t=>
   simp at a;unfold putE putX
   by_cases c:f=k
   .rw[if_pos c,if_pos (a.1.trans c)];exact .cons ⟨h.1,h.2.1,d⟩ t
   .rw[if_neg c,if_neg (λz=>c (a.1.symm.trans z))];exact .cons h (i a.2 t)
def DxM(K:Kd)(H:Hp)(a:Addr)(kvs:List (aD×aD))(e:List (Int×V×V)):Prop:=
 DenKV K H kvs e/\(kvs.map (·.1)).Nodup/\kyA kvs=true/\((H a=some (dX a e)/\kvs≠[])\/(H a=some (.dK [])/\kvs=[]))
section
variable {X:Cx}{c:List (Addr×Obj)}{i:St}{H:Hp}{s:Io}{a:Addr}{kvs:List (aD×aD)}{f:List (Int×V×V)}{k d:aD}{y v:V}{u r:Ad}{A:abc}{E:Ad->Io->Prop}
def DxM.is(I:Inv X c i H s)(h:DxM X.kd H a kvs f):(a==abA)=false/\∃xs,s.heap.DictOfH (oo X.prog X.w) a xs/\PxV X.kd H kvs xs/\ExV X.w f xs:=by
 obtain⟨g,nd,ky,⟨q,_⟩|⟨q,rfl⟩⟩:=h
 .obtain⟨hs,_,xs,dd,p,e⟩:=I.dcE (.inl q) g nd ky;exact⟨hs,xs,dd,p,e⟩
 .obtain⟨hs,dd⟩:=I.dc0 (.inl q);subst g;exact⟨hs,[],dd,.nil,.nil⟩
theorem Wg{Q:Unit->Io->Prop}(F:A.units+20<cLine)(I:Inv X c i H s)(h:DxM X.kd H a kvs f)(n:kyD k=true)(dk:Den X.kd H k y)(B:RelV y u)(D:RelV v r)(Y:kvs.length<aam)
  (j:∀s',Inv X c i (upd H a (dX a (putE X.w k y v kvs f))) s'->Q () s'):wpAny (model X.prog X.w) A (dictSet a u r) Q E s:=by
 let⟨P,x,J,p,ex⟩:=h.is I;let⟨b,rfl⟩:=yv n dk;cases (B);have le:f.length=kvs.length:=h.1.len.symm;have U:x.length=kvs.length:=by have:=congrArg ab9 p.keys;simpa using this
 refine wpAny_dictSet_heap (knd:=oo X.prog X.w) F (I.ky n dk) J (λR e m=>j _ ?_) (by omega);rw[md (by rw[p.keys];exact h.2.1)]at e;let⟨o,g,z,l,N,M,t,K,L⟩:=e;have mu:Mut (H a):=by
  rcases h.2.2.2 with⟨q,_⟩|⟨q,_⟩
  .rw[q];exact trivial
  .rw[q];exact trivial
 refine qw I mu m ⟨o,l⟩ ⟨⟨P,?_,o,g,z,l,N,M,?_⟩,⟨o,l⟩,λS V O C=>?_⟩
 .have:=wq X.w k (.ref b) v kvs f le.symm;omega
 .rw[t];have:=Oj (w:=X.w) (k:=k) (b:=b) D p.keys ex;generalize putE X.w k (.ref b) v kvs f=W at this;generalize putX k b r x=T at this;clear t K L
  induction this with
  |nil=>exact .nil
  |cons q _ G=>exact .cons ⟨q.1.symm,by rw[q.2.1];rfl,q.2.2⟩ G
 .obtain⟨z1,z2,o',ents',ep',z3,z4⟩:=O;exact⟨z1,z2,o',ents',ep',C o' z3,z4⟩
theorem zg{Q:Unit->Io->Prop}(p:A.units+64<cLine)(I:Inv X c i H s)(h:DxM X.kd H a kvs f)(g:kyD k=true)(dk:Den X.kd H k y)(l:RelV y u)(o:RelV v r)(j:kvs.length<aam)
  (e:∀s',Inv X c i (upd H a (dX a (putE X.w k y v kvs f))) s'->Q () s'):wpAny (model X.prog X.w) A (setItem (.ref a) u r) Q E s:=by
 let⟨t,x,b,q,ex⟩:=h.is I;refine abR ?_;refine gT (afd b.typeIs (by decide) ?_);refine gT (aaT b.typeIs slot_dict_setitem (aa2 slot_dict_setitem b.typeIs entry_dict_setitem ?_ (args_dict_setitem _ _ _)));refine gT (agf b.typeIs ?_);refine gT (m:=dictSet a u r) (Wg (by grind) I h g dk l o j λs' n=>LD ⟨.none,rfl,LD (e s' n)⟩)
end
def UD(K:Kd)(g ty t:TE):TS:=λD b H=>t b H λv f=>g b f λx d=>ty b d λy c=>∃a kvs e k,x = .ref a/\DxM K c a kvs e/\kyD k=true/\Den K c k y/\kvs.length<aam/\D.nx b (upd c a (dX a (putE K.w k y v kvs e)))
section
variable {X:Cx}{o i e:Expr}{w j A:WE}{pos f:Pos}{B ty E:TE}
theorem Ib(n:X.A.units+64<cLine)(q:PE X o B)(F:PE X i ty)(c:PE X e E)(J:abz e (some (.Subscript o i f)) pos.line X.env=pure false):PS X (.Assign [.Subscript o i f] e pos) (UD X.kd B ty E):=by
 intro p s b H D I h;refine afU (thn (c p s b H _ I h) λr s1 ⟨v,l,M,m,K⟩=>thn (q p s1 b l _ M K) λu s2 ⟨x,z,d,t,N⟩=>thn (F p s2 b z _ d N) λU S ⟨y,P,L,g,a,kvs,R,k,ex,dx,ky,dk,O,C⟩=>?_) J;subst ex;obtain rfl:u=abk a:=t;exact zg n L dx ky dk g m O λT G=>⟨b,_,G,C⟩
theorem k6{k d:aD}(a:kyD k=true):∀{kvs:List (aD×aD)},kyA kvs=true->(putP k d kvs).map (·.1)=if k∈kvs.map (·.1)then kvs.map (·.1)else kvs.map (·.1)++[k]
 |[],_=>rfl
 | (k',d')::r,h=>by
  rw[kyA,abT,aaE]at h;rw[AB h.1 a]
  by_cases e:k'=k
  .rw[if_pos e,if_pos (by simp[e])];rfl
  .rw[if_neg e,aah,k6 a h.2]
   by_cases c:k∈r.map (·.1)
   .rw[if_pos c,if_pos (by simp[c])];rfl
   .rw[if_neg c,if_neg (by simp only[aah,aae,not_or];exact⟨λz=>e z.symm,c⟩)];rfl
def zl{k d:aD}(l:kyD k=true)(h:kyA kvs=true)(nd:(kvs.map (·.1)).Nodup):((putP k d kvs).map (·.1)).Nodup:=by
 rw[k6 l h];split
 .omega
 .rename_i c;exact acF.mpr ⟨nd,by simp,λa m b g=>by simp at g;subst g;exact λz=>c (z▸m)⟩
theorem wr{k d:aD}(a:kyD k=true)(h:kyA kvs=true):kyA (putP k d kvs)=true:=by
 have e:∀l:List _,kyA l=(l.map _).all kyD:=λl=>by unfold kyA;rw[aea];rfl
 rw[e,k6 a h];rw[e]at h;split
 .exact h
 .rw[List.all_append,h];simp[a]
theorem PJ(k d:aD)(kvs:List (aD×aD)):putP k d kvs≠[]:=by
 cases kvs with
 |nil=>intro h;cases h
 |cons x r=>
  show(if _ then _ else _)≠_
  split<;>simp
theorem Jx(h:kyA kvs=true)(n:kvs≠[]):isKd kvs=false:=by
 cases kvs with
 |nil=>exact(n rfl).elim
 |cons x r=>
  let⟨k,d⟩:=x;rw[kyA,abT,aaE]at h;let⟨ds,rfl,_⟩:=iC h.1;rfl
def Cy(h:kyA kvs=true)(n:kvs≠[])(nd:(kvs.map (·.1)).Nodup):Cu kvs:=
 ⟨Jx h n,nd,λk b=>by
  let⟨x,a,rfl⟩:=aap.mp b;exact oI (abD.mp h x a)⟩
abbrev Km(A w j:WE):WS:=λD m=>A m λb m1=>iA (λd=>w m1 λc m2=>j m2 λr a=>onAt (λk p=>iA (λy=>∃t kvs,a.os[k]?=some [t]/\getT t p=some (.dict (lfKV kvs))/\okW t p=true/\kyA kvs=true/\kyD y=true/\kvs.length<aam/\D.nx {a with os:=a.os.set k [setT t p (.dict (lfKV (putP y d kvs)))]}) r) c) b
def BI(kvs:List (aD×aD)):kyA (lfKV kvs)=kyA kvs:=by
 unfold kyA lfKV;rw[aea];rfl
theorem Rel.dx{K:Kx}{r:Al}{m:MSt}{x:St}{H:Hp}{k:Nat}{τ:List (List Nat×Addr)}{a:Addr}{p:List Nat}{t:aD}(R:Rel K r m x H)(D:r[k]?=some (.T τ))(v:τ.lookup p=some a)(s:m.os[k]?=some [t])(y:getT t p=some (.dict (lfKV kvs)))(ky:kyA kvs=true):∃l,DxM K H a kvs l:=by
 let⟨⟨L,I,z,g,_⟩,_⟩:=R.own k (.T τ) _ D s;cases z;let⟨F,g⟩:=g.get y;rw[aba]at g;let⟨n1,n2⟩:=sU (.inr (by rw[BI];exact ky));rcases g with⟨d,h,_⟩|⟨_,_,b,l,h,u,n,q,g⟩|⟨_,_,b,l,h,u,n,g⟩|⟨c,b,dx,C,G,J,_⟩
 .rw[n1]at h;cases h
 .rw[v]at h;cases h;exact⟨l,fzKV g,by rw[<-jr];exact q.2.1,ky,.inl ⟨n,λz=>by subst z;exact absurd q.1 (by decide)⟩⟩
 .simp_all
  let⟨rfl,rfl⟩:=VG (fzKK g) ky;exact⟨[],by simp only[DenKV],abL,rfl,.inr ⟨n,rfl⟩⟩
 .grind
theorem JA(hu:X.A.units+64<cLine)(he:ME X e A)(ho:ME X o w)(hi:ME X i j)(hs:abz e (some (.Subscript o i f)) pos.line X.env=pure false:=by rfl):MS X (.Assign [.Subscript o i f] e pos) (Km A w j):=(Ib hu ho hi he hs).wk<|by
 intro D σ H ⟨I,m,De,Rl,hw,k⟩;refine⟨I,m,_,Rl,hw,λr m1 v H1 q n1 L rr F1=>?_⟩;let⟨d,er,hd,q⟩:=eF rr q;refine⟨I,m1,_,L,q,λro m2 ov H2 q2 n2 M U F2=>⟨I,m2,_,M,q2,λri m3 iv s J n3 R rr3 F3=>?_⟩⟩;let⟨kk,p,G,a,rfl,N,x,rfl,J⟩:=yP U J;let⟨y,rfl,hy,t,kvs,e3,et,S,ky,h,hl,J⟩:=eF rr3 J;let⟨F,dx⟩:=R.dx N x e3 et ky;have O:Den X.kx s d v:=(hd.mono (L.pers F2)).mono (M.pers F3);let⟨⟨t1,v0,z,g,a0,Z,T⟩,mu⟩:=R.own kk (.T G) _ N e3;cases z;let⟨u0,Y,mu0⟩:∃u,s a=some u/\Mu u=true:=by
  rcases dx.2.2.2 with⟨q,_⟩|⟨q,_⟩
  .exact⟨_,q,rfl⟩
  .exact⟨_,q,rfl⟩
 have K:Pers s (upd s a (dX a (putE X.w y iv v kvs F))):=bu (.inr ⟨u0,Y,mu0⟩);have ok:=Cy (kvs:=putP y d kvs) (wr h ky) (PJ y d kvs) (zl h ky dx.2.1);have nd:(G.map (·.2)).Nodup:=((f9 I).mp R.nd).1 (.T G) (Ld N);have new:TAt X.kx (upd s a (dX a (putE X.w y iv v kvs F))) G p (.dict (lfKV (putP y d kvs))) (.ref a):=by
  let⟨z1,P⟩:=sU (.inr (by rw[BI];exact wr h ky):isKd (lfKV (putP y d kvs))=true\/kyA (lfKV (putP y d kvs))=true);simp only[TAt];refine .inr (.inl ⟨z1,P,a,_,x,rfl,aB,⟨by rw[vo];exact ok.1,by rw[jr];exact ok.2.1,by rw[jr];exact ok.2.2⟩,V9 ?_⟩);exact yy h (hy.mono K) (O.mono K) ky (DenKV.mono K dx.1)
 have all:TAt X.kx (upd s a (dX a (putE X.w y iv v kvs F))) G [] (setT t p (.dict (lfKV (putP y d kvs)))) v0:=TAt.set nd K g et S (by rw[aba];exact x) (by rw[aba];exact new) λu n=>by
  let⟨z1,P⟩:=sU (.inr (by rw[BI];exact ky):isKd (lfKV kvs)=true\/kyA (lfKV kvs)=true);rw[aba]at n;simp only[TAt]at n;rcases n with⟨d,l,_⟩|⟨_,_,b,F,l,V,_⟩|⟨_,_,b,F,l,V,_⟩|⟨c,b,dx,C,xs,y0,_⟩
  .rw[z1]at l;cases l
  .rw[x]at l;cases l;exact V
  .rw[x]at l;cases l;exact V
  .rw[P]at y0;cases y0
 let⟨R4,F4⟩:=R.setW N K (ds':=[setT t p (.dict (lfKV (putP y d kvs)))]) (λb W=>aA λeb=>W (eb▸bZ x)) ⟨⟨_,v0,rfl,all,a0,Z,T⟩,λb W=>by
  by_cases eb:b=a
  .subst eb;exact⟨_,aB,rfl⟩
  .rw[aA eb];exact mu b W⟩
 exact⟨a,kvs,F,y,rfl,dx,h,hy,hl,k.nx I _ σ _ J (n3.trans (n2.trans n1)) R4 (.of R4 (((F1.trans F2).trans F3).trans F4))⟩
def tw(a:X.A.units+64<cLine)(h:EE X e A)(c:EE X o w)(b:EE X i j)(d:abz e (some (.Subscript o i f)) pos.line X.env=pure false:=by rfl):ES X (.Assign [.Subscript o i f] e pos) (Km A w j):=⟨JA a h.h c.h b.h d⟩
end
end L2
namespace K
open PySem L2 M7
abbrev Pt:=List Nat×Nat
def ptD(p:Pt):aD:=stD p.1 p.2
theorem wx:∀{a b:List Nat},natD a=natD b->a=b
 |[],[],_=>rfl
 |x::a,y::b,h=>by
  simp[natD]at h;rw[show x=y by omega,wx h.2]
 |[],_::_,h=>nomatch h
 |_::_,[],h=>nomatch h
theorem UU(p:Pt):hkD (ptD p)=true:=by
 have n:∀l:List Nat,hkA (natD l)=true:=λl=>by
  induction l with
  |nil=>rfl
  |cons x l i=>show(hkD _&&hkA (natD l))=true;rw[i];rfl
 show(hkD _&&_)=true;rw[show hkD (lnD p.1)=true from n p.1];rfl
def V3(p q:Pt):aaj (ptD p) (ptD q)=decide (p=q):=by
 rw[sj _ _ (UU p) (UU q)];refine decide_eq_decide.mpr ⟨λh=>?_,λh=>by rw[h]⟩;have a:=by injection h
 simp at a;have b:=by have:=a.1;injection this
 exact aeU (wx b) (by omega)
instance decWd:DecidableEq Wd:=λa b=>by cases a<;>cases b<;>first|exact isTrue rfl|exact isFalse (λh=>nomatch h)
def Ko:SpM:=λa K=>∃h:Hall,a=[.imm h.d]/\h.Ok/\K (.new ((ordK h.ss.length h.ss.length).map lnD)) []
def IL:∀n≤4,1≤n->∀o∈ordK n n,o≠[]/\o.length≤4/\∀k∈o,k<n:=by decide +kernel
def kI(l:List Nat):df (natD l)=some (l.map λ(x:Nat)=>(x:Int)):=by
 have:=fZ (l.map λ(x:Nat)=>(x:Int));rwa[aaW]at this
theorem vX:∀l:List Nat,(l.map λ(x:Nat)=>(x:Int)).sum=(l.sum:Int)
 |[]=>rfl
 |x::l=>by rw[aah,abC];rw[abC,vX l];rfl
theorem jt{d:Type}[DecidableEq d]:∀{l m:List d},l.Nodup->(∀x∈l,x∈m)->l.length≤m.length
 |[],_,_,_=>abw _
 | a::l,m,h,hs=>by
  rw[aa5]at h;have e:=hs a aaa;have i:=jt (l:=l) (m:=m.erase a) h.2 λx c=>by
   have b:x≠a:=λz=>h.1 (z▸c);exact(List.mem_erase_of_ne b).mpr (hs x (aab _ c))
  have:=List.length_erase_of_mem e;have:=List.length_pos_of_mem e;rw[aaq];omega
theorem jh:∀{rs l:List Nat},M7.Fits rs l->l∈M3.allR rs
 |[],[],_=>aaf.mpr rfl
 |r::rs,x::l,h=>by
  have a:x≤r:=h.1;exact ab3.mpr ⟨x,ad0.mpr (by omega),aap.mpr ⟨l,jh h.2,rfl⟩⟩
 |[],_::_,h=>h.elim
 |_::_,[],h=>h.elim
end K
namespace L2
open PySem PySem.W PyProof.Rows
variable{i j n:Nat}{p:Array Nat}
structure TotF(n:Nat)(f:Nat->Nat->Bool):Prop where
 tr:∀a b c,a<n->b<n->c<n->f a b=true->f b c=true->f a c=true
 tot:∀a b,a<n->b<n->a≠b->f a b=true\/f b a=true
theorem fx{b β:Type}{n:Nat}{f:Nat->Nat->Bool}(g:b->KasT β):∀t:KasT b,runC n f (t.bind g)=(runC n f t).bind λa=>runC n f (g a)
 | .ret a=>rfl
 | .ask i j k=>by
  show(if i<n/\j<n then runC n f _ else none)=(if i<n/\j<n then runC n f _ else none).bind _
  by_cases h:i<n/\j<n
  .rw[if_pos h,if_pos h];exact fx g _
  .rw[if_neg h,if_neg h];rfl
def jp{a:Type}{f:Nat->Nat->Bool}{k:Bool->KasT a}(h:i<n)(b:j<n):runC n f (.ask i j k)=runC n f (k (f i j)):=if_pos ⟨h,b⟩
structure PermA(n:Nat)(p:Array Nat):Prop where
 sz:p.size=n
 pm:p.toList.Perm (aaL n)
abbrev pA(p:Array Nat)(k:Nat):Nat:=p.getD k 0
theorem dU{k:Nat}(h:k<p.size):p[k]?=some (pA p k):=by simp_all
def PermA.lt(h:PermA n p){k:Nat}(a:k<n):pA p k<n:=by
 have e:=dU (by rw[h.sz];exact a);have:pA p k∈p.toList:=by
  rw[Array.mem_toList_iff];exact Array.mem_of_getElem? e
 exact ad0.mp (h.pm.mem_iff.mp this)
def PermA.inj(h:PermA n p)(d:i<n)(c:j<n)(e:pA p i=pA p j):i=j:=by
 have nd:=h.pm.nodup_iff.mpr List.nodup_range;have b:p.toList[i]?=some (pA p i):=by rw[ab1];exact dU (by rw[h.sz];exact d)
 have g:p.toList[j]?=some (pA p j):=by rw[ab1];exact dU (by rw[h.sz];exact c)
 have l:i<p.toList.length:=by rw[abW,h.sz];exact d
 have a:j<p.toList.length:=by rw[abW,h.sz];exact c
 rw[mT l]at b;rw[mT a]at g;have f:p.toList[i]=p.toList[j]:=by rw[aar b,aar g,e]
 have k:=abF.mp nd;rcases Nat.lt_trichotomy i j with z|z|z
 .exact absurd f (k i j l a z)
 .exact z
 .exact absurd f.symm (k j i a l z)
def AscA(f:Nat->Nat->Bool)(p:Array Nat)(k:Nat):Prop:=∀i j,i<j->j<k->f (pA p i) (pA p j)=true
def DscA(f:Nat->Nat->Bool)(p:Array Nat)(k:Nat):Prop:=∀i j,i<j->j<k->f (pA p j) (pA p i)=true
section
variable {n:Nat}{f:Nat->Nat->Bool} (T:TotF n f)
include T
theorem TotF.no(h:PermA n p)(b:i<n)(c:j<n)(a:i≠j)(e:f (pA p i) (pA p j)=false):f (pA p j) (pA p i)=true:=by
 rcases T.tot _ _ (h.lt b) (h.lt c) (λz=>a (h.inj b c z))with z|z
 .simp_all
 .exact z
theorem Ik(h:PermA n p){k:Nat}(g:1≤k)(c:k<n)(a:AscA f p k)(e:f (pA p (k-1)) (pA p k)=true):AscA f p (k+1):=λi j b d=>by
 by_cases z:j=k
 .subst z
  by_cases y:i=j-1
  .rw[y];exact e
  .exact T.tr _ _ _ (h.lt (by omega)) (h.lt (by omega)) (h.lt c) (a i _ (by omega) (by omega)) e
 .exact a i j b (by omega)
theorem vF{p:Array Nat}(h:PermA n p):∀(u k:Nat),1≤k->k+u≤n->AscA f p k->∃m,runC n f (kas_asc p u k)=some m/\k≤m/\m≤k+u/\AscA f p m/\(m<k+u->f (pA p m) (pA p (m-1))=true)
 |0,k,_,_,a=>⟨k,rfl,Mt _,Mt _,a,λz=>by omega⟩
 | u+1,k,h1,hk,a=>by
  unfold kas_asc;rw[jp (h.lt (k:=k) (by omega)) (h.lt (k:=k-1) (by omega))]
  cases e:f (p.getD k 0) _ with
  |true=>
   exact⟨k,rfl,Mt _,by simp,a,λ_=>e⟩
  |false=>
   have d:=T.no h (i:=k) (j:=k-1) (by omega) (by omega) (by omega) e;let⟨m,r,m1,m2,c,b⟩:=vF h u (k+1) (by exact ag6 _) (by omega) (Ik T h h1 (by omega) a d);exact⟨m,r,by exact acD ‹_›,by omega,c,λz=>b (by omega)⟩
theorem yz{p:Array Nat}(h:PermA n p):∀(u k:Nat),1≤k->k+u≤n->DscA f p k->∃m,runC n f (kas_desc u p k 0)=some (p,m,0)/\k≤m/\m≤k+u/\DscA f p m
 |0,k,_,_,a=>⟨k,rfl,Mt _,Mt _,a⟩
 | u+1,k,h1,hk,a=>by
  unfold kas_desc;rw[jp (h.lt (k:=k) (by omega)) (h.lt (k:=k-1) (by omega))]
  cases e:f (p.getD k 0) (p.getD (k-1) 0)with
  | true=>
   have d:DscA f p (k+1):=λi j b l=>by
    by_cases z:j=k
    .subst z
     by_cases y:i=j-1
     .rw[y];exact e
     .exact T.tr _ _ _ (h.lt (by omega)) (h.lt (by omega)) (h.lt (by omega)) e (a i (j-1) (by omega) (by omega))
    .exact a i j b (by omega)
   let⟨m,r,m1,m2,c⟩:=yz h u (k+1) (by omega) (by omega) d;exact⟨m,r,by omega,by omega,c⟩
  |false=>
   rw[if_neg (by decide),jp (h.lt (k:=k-1) (by omega)) (h.lt (k:=k) (by omega))];have g:=T.no h (i:=k) (j:=k-1) (by omega) (by omega) (by omega) e;rw[g,if_pos rfl];exact⟨k,rfl,Mt _,by omega,a⟩
theorem Ic(h:PermA n p)(i j:Nat):PermA n (kas_rev p i j):=by
 refine⟨by rw[kas_rev_size];exact h.sz,?_⟩;exact((mirror_perm p i j _).toList).trans h.pm
theorem J9(h:PermA n p){m:Nat}(b:m≤n){k:Nat}(c:k<n):pA (kas_rev p 0 m) k=if k<m then pA p (m-1-k)else pA p k:=by
 have e:=getElem?_mirror_all (i:=0) (j:=m) (by rw[h.sz];exact b) k;have a:(kas_rev p 0 m)[k]?=some _:=dU (by rw[kas_rev_size,h.sz];exact c);unfold kas_rev at a⊢;rw[e]at a
 by_cases z:k<m
 .rw[if_pos ⟨abw _,z⟩,acm,dU (by rw[h.sz];omega)]at a;rw[if_pos z];exact(aar a).symm
 .rw[if_neg (λy=>z y.2),dU (by rw[h.sz];omega)]at a;rw[if_neg z];exact(aar a).symm
theorem Jm(h:PermA n p){m:Nat}(q:1≤m)(e:m≤n)(a:DscA f p m):∃b c,runC n f (kas_tail3 m n p)=some (b,c)/\PermA n c/\m≤b/\b≤n/\AscA f c b:=by
 have d:=Ic T h 0 m;have k:AscA f _ m:=λi j l o=>by
  rw[J9 T h e (by omega),J9 T h e (by exact aas ‹_› ‹_›),if_pos (by omega),if_pos o];exact a _ _ (by omega) (by omega)
 let⟨b,r,m1,m2,g,_⟩:=vF T d (n-m) m q (by omega) k;refine⟨b,kas_rev p 0 m,?_,d,m1,by omega,g⟩;unfold kas_tail3;rw[fx,r];rfl
theorem Ai(h:PermA n p)(A:1≤n):∃a b,runC n f (kas_count n p)=some (a,b)/\PermA n b/\1≤a/\a≤n/\AscA f b a:=by
 let⟨m,r,m1,m2,c,s⟩:=vF T h (n-1) 1 (Mt _) (by omega) (λi j d t=>by omega);unfold kas_count;rw[fx,r];show ∃a b,runC n f (if (m==n)=true then .ret (m,p)else _)=some (a,b)/\_
 by_cases z:m=n
 .rw[if_pos (by rw[z];exact beq_self_eq_true n)];exact⟨m,p,rfl,h,m1,by omega,c⟩
 .rw[if_neg (λy=>z (eq_of_beq y))]
  by_cases y:m>1
  .rw[if_pos y,jp (h.lt (k:=0) (by assumption)) (h.lt (k:=m-1) (by omega))];have e:=c 0 (m-1) (by omega) (by omega);rw[e,if_pos rfl];exact⟨m,p,rfl,h,m1,by omega,c⟩
  .rw[if_neg y];have g:m=1:=by omega
   subst g;have l:DscA f p 2:=λi j d t=>by
    have u:i=0:=by omega
    have ej:j=1:=by omega
    rw[u,ej];exact s (by omega)
   let⟨k,v,k1,k2,w⟩:=yz T h (n-2) 2 (by exact ag6 _) (by omega) l;let⟨a,b,q,o,a1,a2,x⟩:=Jm T h (m:=k) (by exact acD ‹_›) (by omega) w;refine⟨a,b,?_,o,by omega,a2,x⟩;unfold kas_descPart;rw[fx,v];show runC n f (if (0:Nat)>0 then _ else kas_tail3 k n p)=_;rw[if_neg (by decide)];exact q
theorem mh{p:Array Nat}(h:PermA n p){k:Nat}(b:k<n)(a:AscA f p k):∀(u l r:Nat),l≤r->r≤k->r-l≤u->(∀i,i<l->f (pA p i) (pA p k)=true)->(∀i,r≤i->i<k->f (pA p k) (pA p i)=true)->∃m,runC n f (kas_place p k u l r)=some m/\m≤k/\(∀i,i<m->f (pA p i) (pA p k)=true)/\∀i,m≤i->i<k->f (pA p k) (pA p i)=true
 |0,l,r,hl,hr,hu,b1,b2=>⟨l,rfl,by exact aax ‹_› ‹_›,b1,λi d=>b2 i (by omega)⟩
 | u+1,l,r,hl,hr,hu,b1,b2=>by
  unfold kas_place
  by_cases z:l≥r
  .rw[if_pos z];exact⟨l,rfl,by exact aax ‹_› ‹_›,b1,λi d=>b2 i (by exact aax ‹_› ‹_›)⟩
  .rw[if_neg z,jp (h.lt b) (h.lt (k:=(l+r)/2) (by omega))]
   cases e:f (p.getD k 0) (p.getD ((l+r)/2) 0)with
   | true=>
    rw[if_pos rfl];exact mh h b a u l ((l+r)/2) (by omega) (by omega) (by omega) b1 λi d c=>by
     by_cases y:i=(l+r)/2
     .rw[y];exact e
     .exact T.tr _ _ _ (h.lt b) (h.lt (k:=(l+r)/2) (by omega)) (h.lt (by omega)) e (a _ _ (by omega) c)
   | false=>
    have g:=T.no h (i:=k) (j:=(l+r)/2) b (by omega) (by omega) e;exact mh h b a u ((l+r)/2+1) r (by omega) hr (by omega) (λi d=>by
     by_cases y:i=(l+r)/2
     .rw[y];exact g
     .exact T.tr _ _ _ (h.lt (by omega)) (h.lt (k:=(l+r)/2) (by omega)) (h.lt b) (a _ _ (by omega) (by omega)) g) b2
theorem Kj(h:PermA n p){k l:Nat}(b:k<n)(d:l≤k)(c:i<n):pA (bubble p k (k-l)) i=if i=l then pA p k else if l<i/\i≤k then pA p (i-1)else pA p i:=by
 have e:=getElem?_bubble (xs:=p) (src:=k) (by rw[h.sz];exact b) (k-l) (by simp) i;have a:(bubble p k (k-l))[i]?=some _:=dU (by rw[bubble_size,h.sz];exact c);rw[e,show k-(k-l)=l by omega]at a
 by_cases z:i=l
 .rw[if_pos z,dU (by rw[h.sz];exact b)]at a;rw[if_pos z];exact(aar a).symm
 .rw[if_neg z]at a⊢
  by_cases y:l<i/\i≤k
  .rw[if_pos y,dU (by rw[h.sz];omega)]at a;rw[if_pos y];exact(aar a).symm
  .rw[if_neg y,dU (by rw[h.sz];omega)]at a;rw[if_neg y];exact(aar a).symm
theorem Fb:∀(u:Nat) {p:Array Nat}{k:Nat},PermA n p->k+u=n->AscA f p k->∃b,runC n f (kas_bin u p k)=some b/\PermA n b/\AscA f b n
 |0,p,k,h,hk,a=>⟨p,rfl,h,by rw[<-hk];exact a⟩
 | u+1,p,k,h,hk,a=>by
  let⟨l,r,g,b1,b2⟩:=mh T h (k:=k) (by omega) a k 0 k (by exact abw _) (Mt _) (by exact Mt _) (λi s=>by contradiction) (λi s o=>by omega);unfold kas_bin;rw[fx,r];have m:PermA n (bubble p k (k-l)):=⟨by rw[bubble_size];exact h.sz,((bubble_perm p k (k-l)).toList).trans h.pm⟩;refine Fb u m (by omega) λi j c t=>?_;rw[Kj T h (by omega) g (by omega),Kj T h (by omega) g (by omega)]
  by_cases q:i=l
  .grind
  .rw[if_neg q]
   by_cases d:j=l
   .rw[if_pos d,if_neg (by omega)];exact b1 _ (by omega)
   .rw[if_neg d]
    by_cases e:l<i/\i≤k
    .rw[if_pos e,if_pos (by omega)];exact a _ _ (by omega) (by omega)
    .rw[if_neg e]
     by_cases z:l<j/\j≤k
     .rw[if_pos z];exact a _ _ (by omega) (by omega)
     .rw[if_neg z];exact a _ _ c (by omega)
theorem JJ(d:1≤n):∃p,runC n f (kas_sort n)=some p/\PermA n p/\AscA f p n:=by
 have c:PermA n (List.toArray (aaL n)):=⟨by simp,by simp⟩;let⟨m,p,r,h,m1,m2,a⟩:=Ai T c d;unfold kas_sort;rw[fx,r];show ∃b,runC n f _=some b/\_
 by_cases z:m<n
 .rw[if_pos z,show max m 1=m by omega];exact Fb T _ h (by omega) a
 .rw[if_neg z];have:m=n:=by omega
  subst this;exact⟨p,rfl,h,a⟩
end
end L2
namespace L2
open PySem PySem.Spec PySem.W PyProof.Rows
def LtAt(A:abc)(s:Io)(x y:Ad)(b:Bool):Prop:=
 ∀(prog:aaI) (w:World) (E:Ad->Io->Prop) (Q:Ad->Io->Prop),Q (.bool b) s->wpAny (model prog w) A (richCompare .Lt x y) Q E s
def D5(A:abc)(s:Io)(f r:Bool):List (Ad×Ad)->Prop
 |[]=>r=f
 |p::ps=>∃e,afF A s p.1 p.2 e/\((e=true->D5 A s f r ps)/\(e=false->LtAt A s p.1 p.2 r))
theorem oA(l b:Addr)(xs ys:Array Ad)(n m:Nat)(d1 d2:Option Addr)(s1 s2:Array (Option Ad))(r:Bool) :
  Meets (adc.«tuple.__lt__» ⟨[.ref l,.ref b],[]⟩)
   (λA R s=>s.heap.get? l=some {cls:=.type "tuple",dict:=d1,data:=.seq xs n,slots:=s1}/\s.heap.get? b=some {cls:=.type "tuple",dict:=d2,data:=.seq ys m,slots:=s2}/\D5 A.in1 s (decide (xs.size<ys.size)) r (xs.toList.zip ys.toList)/\R (.ok (.ret (.bool r))) s):=
 .of_wp λprog w A R s h=>by
  let⟨i,g,k,d⟩:=h;have q:=AutoSeq1.sub_tuple_tuple
  wp_walk using aeB i,aeB g,aej _ (λrest z a=>z.1=none/\a=s/\D5 A.in1 s (decide (xs.size<ys.size)) r rest) _
  case turn=>
   intro⟨u,v⟩ rest z a ⟨f,rfl,e,p,j,o⟩;refine gT (p prog w _ _ ?_)
   cases e with
   |true=>exact LD ⟨rfl,rfl,j rfl⟩
   |false=>
    refine gT (acs (gT (o rfl prog w _ _ ?_)))
    wp_walk
    exact⟨_,rfl,d⟩
  case fin=>
   intro⟨z,u⟩ a ⟨f,rfl,e⟩;have c:z=none:=f;subst c
   wp_walk
   refine⟨_,rfl,?_⟩;rw[e]at d;exact d
  case h=>exact⟨rfl,rfl,k⟩
mutual
def ltD:aD->aD->Bool
 | .int a,.int b=>decide (a<b)
 | .tuple xs,.tuple ys=>ltDs xs ys
 |_,_=>false
def ltDs:List aD->List aD->Bool
 |x::xs,y::ys=>if aaj x y=true then ltDs xs ys else ltD x y
 |[],_::_=>true
 |_,_=>false
end
mutual
def smD:aD->aD->Bool
 | .int _,.int _=>true
 | .tuple xs,.tuple ys=>smDs xs ys
 |_,_=>false
def smDs:List aD->List aD->Bool
 |[],[]=>true
 |x::xs,y::ys=>smD x y&&smDs xs ys
 |_,_=>false
end
mutual
theorem Dw:∀{x y:aD},smD x y=true->x.canLay0=true/\y.canLay0=true
 | .int _,.int _,_=>⟨rfl,rfl⟩
 | .tuple xs,.tuple ys,h=>by
  simp only[smD]at h;have:=DF h;exact⟨this.1,this.2⟩
theorem DF:∀{xs ys:List aD},smDs xs ys=true->aby xs=true/\aby ys=true
 |[],[],_=>⟨rfl,rfl⟩
 |x::xs,y::ys,h=>by
  simp only[smDs,aaE]at h;have a:=Dw h.1;have b:=DF h.2;exact⟨by simp only[aby,a.1,b.1,Bool.and_self],by simp only[aby,a.2,b.2,Bool.and_self]⟩
end
def LtUp(k:Nat):Prop:=∀(x y:aD) (A:abc) (s:Io) (u v:Ad) (a bs:List Addr),x.depth≤k->Reads s.heap u x a->Reads s.heap v y bs->smD x y=true->A.units+x.depth<cLine->LtAt A s u v (ltD x y)
theorem l8{k:Nat}(I:LtUp k)(A:abc)(s:Io):∀(xs ys:List aD) (us vs:List Ad) (as bs:List Addr),aaC xs≤k->adF s.heap us xs as->adF s.heap vs ys bs->smDs xs ys=true->A.units+aaC xs<cLine->us.length=vs.length/\D5 A s false (ltDs xs ys) (us.zip vs)
 | [],ys,us,vs,as,bs,hk,r1,r2,h,hu=>by
  cases ys with
  |cons y ys=>exact absurd h (by simp only[smDs];decide)
  |nil=>
   cases r1;cases r2;exact⟨rfl,rfl⟩
 | x::xs,ys,us,vs,as,bs,hk,r1,r2,h,hu=>by
  cases ys with
  |nil=>exact absurd h (by simp only[smDs];decide)
  | cons y ys=>
   simp only[smDs,aaE]at h
   cases r1 with
   | cons a1 a2=>
    cases r2 with
    |cons b1 b2=>
     have a:max x.depth _≤k:=hk;have dp:A.units+max x.depth _<cLine:=hu;have ly:=Dw h.1;let⟨b,l⟩:=l8 I A s xs ys _ _ _ _ (by omega) a2 b2 h.2 (by omega);refine⟨by rw[aaq,aaq,b],aaj x y,ahi x y A s _ _ _ _ a1 b1 ly.1 ly.2 (by have:=Nat.min_le_left x.depth y.depth;omega),λe=>?_,λe=>?_⟩
     .rw[ltDs,if_pos e];exact l
     .rw[ltDs,if_neg (by rw[e];decide)];exact I x y A s _ _ _ _ (by omega) a1 b1 h.1 (by omega)
theorem x6:∀k,LtUp k
 | 0,x,y,A,s,u,v,as,bs,hk,r1,r2,h,hu=>by
  cases x with
  | int a=>
   cases y with
   |int b=>
    cases r1;cases r2;exact λprog w E Q h=>wpAny_lt_int h
   |_=>exact absurd h (by simp only[smD];decide)
  |tuple c=>exact absurd hk (by show ¬aaC c+1≤0;contradiction)
  |_=>exact absurd h (by simp only[smD];decide)
 | k+1,x,y,A,s,u,v,as,bs,hk,r1,r2,h,hu=>by
  cases x with
  | int a=>
   cases y with
   |int b=>
    cases r1;cases r2;exact λprog w E Q h=>wpAny_lt_int h
   |_=>exact absurd h (by simp only[smD];decide)
  | tuple c=>
   cases y with
   | tuple G=>
    simp only[smD]at h
    cases r1 with
    | tuple D j q R=>
     cases r2 with
     |tuple r C t H=>
      rename_i l o vs n m J d K;let⟨I,O,i,L⟩:=o;let⟨B,f,e,g⟩:=J;dsimp only at j q C t;subst j q C t;have N:aaC c+1≤k+1:=hk;have dp:A.units+(aaC c+1)<cLine:=hu;let⟨S,P⟩:=l8 (x6 k) A.in1 s c G vs.toList d.toList _ _ (by omega) R H h (show A.units+1+aaC c<cLine by omega);rw[abW,abW]at S;intro prog w E Q M;refine richCompare_meets_room (op:=.Lt) ⟨_,D,rfl⟩ ⟨_,r,rfl⟩ F.slot_tuple_lt F.entry_tuple_lt (F.args_tuple_lt_2 _ _) (oA l m vs d n K O f L g (ltDs c G)) ⟨D,r,?_,⟨(λz=>nomatch z),M⟩⟩ (by omega);rw[decide_eq_false (p:=_) (by omega)];exact P
   |_=>exact absurd h (by simp only[smD];decide)
  |_=>exact absurd h (by simp only[smD];decide)
end L2
namespace L2
open PySem PySem.Spec PyProof.Rows
variable{n:Nat}{T v:Addr}{b:Bool}{o:Obj}{Q:Option Ad->Io->Prop}{P:Addr->aaQ->Nat->Ad->Prop}
section
variable {X:Cx}
def T5{m:MSt}{r2:R}{a:Bool}{k:aD}{kvs:List (aD×aD)}{K:R->Prop}(e:dcM m kvs r2)(c:oneK kvs k=true)(h:K (.imm (.bool (if a=true then !(d8 k kvs).isSome else(d8 k kvs).isSome)))):oInD a (.imm k) r2 m K:=⟨kvs,e,c,h⟩
theorem fb{ds:List aD}{g:WG}{w:WS}{D:iy}{m1:MSt}(P:Nat->MSt->Prop)(p0:P 0 m1)
  (step:∀(i:Nat) (d:aD) (m:MSt),ds[i]?=some d->m.np=m1.np->P i m->∀c:iy,(∀a,P (i+1) a->c.nx a)->(∀r a,D.rt r (a.setN m1.np)->c.rt r a)->g d m λm2=>w c m2)
  (f:∀m,m.np=m1.np->P ds.length m->D.nx m):qj ⟨ds,none⟩ g w D m1:=bV P p0 (λi d m e n p=>step i d m e n p _ (λ_ z=>z) λ_ _ z=>z) f
theorem aC{e:Expr}{w:WE}{pos p:Pos}{x:Str}(i:Nat)(d:X.N.Nodup)(c:EE X e w)(f:X.N[i]?=some x:=by rfl)(h:Loc X.env.scope x:=by exact afl rfl)(g:abz e (some (.Name x p)) pos.line X.env=pure false:=by rfl)(a:X.fn x=true\/X.env.scope.names.lookup x=some .local:=by first|exact .inl rfl|exact .inr rfl|assumption):ES X (.Assign [.Name x p] e pos) (wSet i w):=rg d f h c g a
theorem ai{pos:Pos}{x:Str}(i:Nat)(h:X.N.Nodup)(c:X.N[i]?=some x:=by rfl)(a:Loc X.env.scope x:=by exact afl rfl)(d:X.fn x=true\/X.env.scope.names.lookup x=some .local:=by first|exact .inl rfl|exact .inr rfl|assumption):EG X (.Name x pos) (gM i):=qW h c a d
end
section
variable {prog:aaI}{w:World}{A:abc}{E:Ad->Io->Prop}{s:Io}{it d:Addr}{es:Array ab2}{i ep:Nat}{ok ov:Ad}
def oi(h:aaQ)(it d:Addr)(i n ep:Nat)(k v:Ad)(T:Addr)(b:Bool):Prop:=h.get? it=some {cls:=.type "dict_itemiterator",data:=.fields #[adk T,.bool b,.ref d,.int i 0,.int n 0,.int ep 0,k,v]}
def Sk{a:Addr}{Q:Option Obj->Io->Prop}(h:Q (s.heap.get? a) s):wpAny (model prog w) A (loadIfAlive a) Q E s:=λ_ _ _=>h
theorem Ou{j:Nat}{Q:Bool->Io->Prop}(h:oi s.heap it d j n ep ok ov T b)(k:s.heap.get? T=some o)
  (a:∀h',oi h' it d j n ep ok ov T true->h'.objs.size=s.heap.objs.size->(∀c o,c≠it->s.heap.get? c=some o->h'.get? c=some o)->Q false {s with heap:=h' }):wpAny (model prog w) A (abN (.ref it)) Q E s:=by
 refine gT (aa7 h rfl (x:=adk T) rfl ?_);refine gT (Sk ?_);rw[show((T:Int)).toNat=T by rfl,k];refine gT (aa7 h rfl (x:=.bool b) rfl ?_)
 cases b with
 |true=>exact LD (a s.heap h rfl λc o _ q=>q)
 |false=>
  refine gT (aaH h (by simp) λf g s1=>?_);exact LD (a f g s1.1 λc o e q=>s1.extBut c o e q)
def Js{j:Nat}{k v:Ad}{Q:Ad->Io->Prop}(h:oi s.heap it d j n ep ok ov T b)(e:s.heap.get? T=some o)
  (f:∀h',oi h' it d j n ep ok ov T true->h'.get? s.heap.objs.size=some {cls:=.type "tuple",data:=.seq #[k,v]}->h'.objs.size=s.heap.objs.size+1 ->
   (∀c o,c≠it->s.heap.get? c=some o->h'.get? c=some o)->Q (.ref s.heap.objs.size) {s with heap:=h' }):wpAny (model prog w) A (abV (.ref it) 6 k v) Q E s:=by
 have lt:=aan h;have p:∀c o,s.heap.get? c=some o->(s.heap.push {cls:=.type "tuple",data:=.seq #[k,v]}).get? c=some o:=λc o q=>GT _ q;refine gT (m:=abN _) (Ou (p _ _ h) (p _ _ e) λh' a1 a2 a=>?_);refine LD (f h' a1 (a _ _ (abm lt) (aak _ rfl)) (a2.trans (abp ..)) λc o g q=>a c o g (p c o q))
def JC(h:oi s.heap it d i es.size ep ok ov T b)(p:s.heap.get? T=some o)(B:T≠it)(L:EntAt s.heap d es ep)(F:i<es.size)
  (C:∀h',oi h' it d (i+1) es.size ep ok ov T true->h'.get? s.heap.objs.size=some {cls:=.type "tuple",data:=.seq #[es[i].key,es[i].val]}->h'.objs.size=s.heap.objs.size+1 ->
   (∀c o,c≠it->s.heap.get? c=some o->h'.get? c=some o)->Q (some (.ref s.heap.objs.size)) {s with heap:=h' }):wpAny (model prog w) A (act (.ref it)) Q E s:=by
 let⟨M,f,I,k⟩:=L.ex;have a:s.TypeIs (.ref it) "dict_itemiterator":=(⟨_,h,rfl⟩);have own:abP "dict_itemiterator" = true:=by decide
 unfold act;refine gT (acL (aaT (name:=abO "__next__") a aa1 (aa2 aa1 a ab6 ?_ (abZ _))))
 wp_walk using uG a,ae3 h rfl,adg f k,adO f k,aa6 a
 have H:(if (i:Int)<0 then none else es[((i:Nat):Int).toNat]?)=some es[i]:=by
  rw[if_neg (by omega),abf,ab0 F]
 rw[H];rcases s with⟨r,g,l,t,os⟩;refine gT ?_;refine gT (uG a (LD ?_));refine gT (m:=ae4 _ _) (aa6 a ?_);show wpAny _ _ (acQ (.ref it) 3 (adk ((i:Int)+1)) >>= _) _ _ _;refine gT (aaH h (by simp) λe G s1=>?_);replace s1:abd it r e:=s1;have j:oi e it d (i+1) es.size ep ok ov T b:=by
  have q:((i+1:Nat):Int)=(i:Int)+1:=rfl;unfold oi;rw[q];simpa[adk]using G
 have y:afv ⟨e,g,l,t,os⟩ (.ref it) "dict_itemiterator":=(⟨_,j,rfl⟩);refine gT (abR (gT (aa6 y (gT (aa6 y ?_)))));show wpAny _ _ (abV (.ref it) 6 es[i].key es[i].val) _ _ ⟨e,g,l,t,os⟩;have J:e.objs.size=r.objs.size:=s1.1;refine Js (s:=⟨e,g,l,t,os⟩) j (s1.extBut T o B p) λK D x z k2=>?_;rw[J]at x z⊢;exact LD ⟨_,rfl,LD (C K D x z λc o u q=>k2 c o u (s1.extBut c o u q))⟩
def Jf(p:A.handled=none)(h:oi s.heap it d i es.size ep ok ov T b)(z:EntAt s.heap d es ep)(B:es.size≤i)
  (x:∀h',(∀c o,c≠it->s.heap.get? c=some o->h'.get? c=some o)->Q none {s with heap:=h' }):wpAny (model prog w) A (act (.ref it)) Q E s:=by
 let⟨D,f,j,a⟩:=z.ex;have g:s.TypeIs (.ref it) "dict_itemiterator":=(⟨_,h,rfl⟩);have own:abP "dict_itemiterator" = true:=by decide
 unfold act;refine gT (acL (aaT (name:=abO "__next__") g aa1 (aa2 aa1 g ab6 ?_ (abZ _))))
 wp_walk using uG g,ae3 h rfl,adg f a,adO f a,aa6 g
 have u:(if (i:Int)<0 then none else es[((i:Nat):Int).toNat]?)=none:=by
  rw[if_neg (by omega),abf,afW B]
 rw[u];refine gT (gT (uG g (LD ?_)));refine gT (m:=acQ (.ref it) 2 .none) (aaH h (by simp) λC F s1=>?_);refine rb p λy e k2 ⟨r,l,k⟩=>?_;exact gT (acR (T:= "StopIteration") (b:=true) ⟨r,l,k⟩ ae0 (LD (x y λc o t q=>k2 c o (s1.extBut c o t q))))
structure Nx(prog:aaI)(w:World)(A:abc)(S it:Addr)(n:Nat)(St:Nat->aaQ->Prop)(P:aaQ->Nat->Ad->Prop):Prop where
 item:∀(i:Nat) (s:Io) (Q:Option Ad->Io->Prop) (E:Ad->Io->Prop),i<n->St i s.heap->(∃o,s.heap.get? S=some o)->(∀h' v,St (i+1) h'->P h' i v->(∀c o,c≠it->s.heap.get? c=some o->h'.get? c=some o)->Q (some v) {s with heap:=h' })->wpAny (model prog w) A (act (.ref it)) Q E s
 done:∀(s:Io) (Q:Option Ad->Io->Prop) (E:Ad->Io->Prop),St n s.heap->(∀h',(∀c o,c≠it->s.heap.get? c=some o->h'.get? c=some o)->Q none {s with heap:=h' })->wpAny (model prog w) A (act (.ref it)) Q E s
 keep:∀i h h',St i h->h'.objs.size=h.objs.size->(∀c o,c≠S->h.get? c=some o->h'.get? c=some o)->St i h'
 more:∀h h' i v,P h i v->(∀c o,c≠S->c≠it->h.get? c=some o->h'.get? c=some o)->P h' i v
def ou(h:aaQ)(S:Addr)(acc:Array Ad)(c:Nat):Prop:=h.get? S=some {cls:=.type "list",data:=.seq acc c}
theorem yg{S it:Addr}{n:Nat}{St:Nat->aaQ->Prop}{P:aaQ->Nat->Ad->Prop}{R:Result->Io->Prop}{r:Ad}(N:Nx prog w A.in1 S it n St P)(ne:S≠it)(B:n≤aam):∀(k i:Nat) (s:Io) (acc:Array Ad) (c:Nat),n-i=k->i≤n->St i s.heap->ou s.heap S acc c->acc.size=i->(∀j v,acc[j]?=some v->P s.heap j v) ->
  (∀h' a c',(∀b o,b≠it->b≠S->s.heap.get? b=some o->h'.get? b=some o)->ou h' S a c'->a.size=n->(∀j v,a[j]?=some v->P h' j v)->R (.ok (.ret r)) {s with heap:=h' })->adK (model prog w) A (.builtin "list.extend.loop" ⟨[.ref S,.ref it,r],[]⟩) R s
 |0,i,s,acc,c,hk,hi,st,hl,ha,hp,fin=>by
  have e:i=n:=by omega
  subst e;refine ac6 agz ((aet adw _).symm▸?_);refine gT (m:=act (.ref it)) (N.done s _ _ st λh' kp=>LD (fin h' acc c (λb o nb _ q=>kp b o nb q) (kp S _ ne hl) ha λj v e=>N.more _ _ _ _ (hp j v e) λc o _ f q=>kp c o f q))
 | k+1,i,s,acc,c,hk,hi,st,hl,ha,hp,fin=>by
  refine ac6 agz ((aet adw _).symm▸?_);refine gT (m:=act (.ref it)) (N.item i s _ _ (by omega) st ⟨_,hl⟩ λh' v t C kp=>?_);have h:ou h' S acc c:=kp S _ ne hl;refine gT (m:=updateSeq S (·.push v)) (af7 (s:={s with heap:=h' }) h rfl (LD ⟨agG adw _,?_⟩) (by rw[ha];exact aax ‹_› ‹_›) (by show(acc.push v).size≤aam+1;rw[aho,ha];omega));have l:∀b o,b≠S->h'.get? b=some o->(h'.update S (acw (·.push v))).get? b=some o:=λb o nb q=>(acW _ _ (abx nb)).trans q;have p:∀j u,(acc.push v)[j]?=some u->P (h'.update S (acw (·.push v))) j u:=λj u e=>by
   rw[Array.getElem?_push]at e
   split at e
   .rename_i z;rw[ha]at z;subst z;rw[<-aar e];exact N.more _ _ _ _ C λc o f _ q=>l c o f q
   .exact N.more _ _ _ _ (hp j u e) λc o f F q=>l c o f (kp c o F q)
  refine yg N ne B k (i+1) _ (acc.push v) _ (by omega) (by omega) (N.keep _ _ _ t (aek ..) l) (ac9 _ h rfl) (by rw[aho,ha]) p λH g G k2 D y x=>fin H g G (λb o n1 n2 q=>k2 b o n1 n2 (l b o n2 (kp b o n1 q))) D y x
end
section
variable {prog:aaI}{w:World}{A:abc}{E:Ad->Io->Prop}{s:Io}{f d S:Addr}{g:Array ab2}{i r:Nat}{ok t:Ad}
def StI(S f d:Addr)(g:Array ab2)(r:Nat)(i:Nat)(h:aaQ):Prop:=EntAt h d g r/\h.objs.size=f+1+i/\((∃ok t,ac2 h f d i g.size r ok t)\/∃k v T b o,oi h f d i g.size r k v T b/\h.get? T=some o/\T≠f/\T≠S)
def PrI(S f:Addr)(g:Array ab2)(h:aaQ)(i:Nat)(v:Ad):Prop:=S<f/\v = .ref (f+1+i)/\∃a:i<g.size,h.get? (f+1+i)=some {cls:=.type "tuple",data:=.seq #[g[i].key,g[i].val]}
def Cr(f:Addr)(i:Nat):f+1+i≠f:=abm (aas (abu f) (ab5 _ i))
def BZ{S f:Addr}(h:S<f)(i:Nat):f+1+i≠S:=abm (ado h (aas (abu f) (ab5 _ i)))
theorem GJ(G:A.handled=none)(n1:S<f)(n2:S≠d)(F:f≠d):Nx prog w A S f g.size (StI S f d g r) (PrI S f g) where
 item:=by
  intro i s Q E p ⟨j,z,c⟩ ⟨I,J⟩ y;rcases c with⟨ok,t,c⟩|⟨k,v,T,b,o,c,D,u,C⟩
  .refine FJ c j p λx a1 a2 B m=>?_;rw[z]at a1 a2 B⊢;exact y x _ ⟨j.keep λo q=>m d o (abx F) q,B,.inr ⟨_,_,_,false,_,a1,a2,(Cr f i),(BZ n1 i)⟩⟩ ⟨n1,rfl,p,a2⟩ m
  .refine JC c D u j p λx a1 a2 B m=>?_;rw[z]at a2 B⊢;exact y x _ ⟨j.keep λo q=>m d o (abx F) q,B,.inr ⟨_,_,_,true,o,a1,m T o u D,u,C⟩⟩ ⟨n1,rfl,p,a2⟩ m
 done:=by
  intro s Q E ⟨j,z,c⟩ y;rcases c with⟨ok,t,c⟩|⟨k,v,T,b,o,c,_⟩
  .exact DB G c j (Mt _) y
  .exact Jf G c j (Mt _) y
 keep:=by
  intro i h x ⟨j,z,c⟩ H k;refine⟨j.keep λo q=>k d o (abx n2) q,H.trans z,?_⟩;rcases c with⟨ok,t,c⟩|⟨a,v,T,b,o,c,D,u,C⟩
  .exact .inl ⟨ok,t,k f _ (abm n1) c⟩
  .exact .inr ⟨a,v,T,b,o,k f _ (abm n1) c,k T o C D,u,C⟩
 more:=by intro h x i v ⟨l,e,p,q⟩ k;exact⟨l,e,p,k _ _ (BZ n1 i) (Cr f i) q⟩
def zK{Q:Ad->Io->Prop}(c:s.heap.get? v=some {cls:=.type "dict_items",data:=.fields #[.ref d]})(l:EntAt s.heap d g r)
  (k:∀h',ac2 h' s.heap.objs.size d 0 g.size r .none .none->h'.objs.size=s.heap.objs.size+1->(∀b o,s.heap.get? b=some o->h'.get? b=some o)->Q (.ref s.heap.objs.size) {s with heap:=h' }):wpAny (model prog w) A (afI (.ref v)) Q E s:=by
 let⟨m,a,j,h⟩:=l.ex;have e:s.TypeIs (.ref v) "dict_items":=(⟨_,c,rfl⟩);have own:abP "dict_itemiterator" = true:=by decide
 refine wpAny_pyIter_slot e aeE (aa2 aeE e PySem.F.entry_dict_items_iter ?_ (PySem.F.args_dict_items_iter_1 _));refine gT (LD (gT (gT (aa7 c rfl (x:=.ref d) rfl (LD (gT (gT (adg a h (gT (adO a h ?_))))))))));simp only[own,if_true];refine aa9 (LD ⟨_,rfl,"dict_itemiterator",_,⟨_,aak _ rfl,rfl⟩,PySem.F.slot_dict_itemiterator_next.lookup,?_⟩) (by simp only[sizeOk,adc.Dict_items.ownedTupleFields,aaK,aal,aaq,ac7,aag];decide);exact k _ (aak _ rfl) (abp ..) λb o q=>GT _ q
def CP:typeLookup (.type "dict_items") "__len__" = pure (some (.builtin "dict_items.__len__")):=by rfl
theorem zj{Q:Bool->Io->Prop}(a:s.TypeIs (.ref v) "dict_items")(h:Q false s):wpAny (model prog w) A (aco (.ref v)) Q E s:=by
 rw[aco];refine gT (aeC a CP ?_);have c:splitId "dict_items.__len__" = some ("dict_items","__len__"):=by decide +kernel
 dsimp only;rw[c];dsimp only;refine gT (acR (b:=true) a (by rw[isSubtype_type];kernel_rfl) ?_);rw[if_neg (by decide)];rw[if_pos (by decide +kernel)];exact gT (acV a (LD h))
def VJ{c:Nat}{Q:Unit->Io->Prop}(a:ou s.heap S #[] c)(h:∀h' c',ou h' S #[] c'->h'.objs.size=s.heap.objs.size->(∀b o,b≠S->s.heap.get? b=some o->h'.get? b=some o)->Q () {s with heap:=h' }):wpAny (model prog w) A (adc.List.listTouch (.ref S)) Q E s:=by
 refine gT (af7 a rfl ?_ (by simp) (by trivial));have l:ou (s.heap.update S (acw (·.push .none))) S (#[].push .none) _:=ac9 _ a rfl;refine af7 l rfl ?_ (by show(1:Nat)≤aam;rw[aag];decide) (by trivial);have e:ou ((s.heap.update S (acw (·.push .none))).update S (acw (·.pop))) S #[] _:=ac9 _ l rfl;exact h _ _ e ((aek ..).trans (aek ..)) λb o nb q=>(acW _ _ (abx nb)).trans ((acW _ _ (abx nb)).trans q)
def Ig{T:String}{c:Nat}{St:Addr->Nat->aaQ->Prop}{R:Result->Io->Prop}(x:s.TypeIs (.ref v) T)(k:T = "dict_items" \/ T = "dict")(I:S≠v)(X:ou s.heap S #[] c)(K:n≤aam)
  (h:∀(s:Io) (Q:Bool->Io->Prop) (E:Ad->Io->Prop),s.TypeIs (.ref v) T->Q false s->wpAny (model prog w) A.in1 (aco (.ref v)) Q E s)
  (a:∀(Q:Ad->Io->Prop) (E:Ad->Io->Prop),(∀h' f,f≠S->Nx prog w A.in1 S f n (St f) (P f)->St f 0 h'->(∀b o,s.heap.get? b=some o->h'.get? b=some o)->s.heap.get? f=none->Q (.ref f) {s with heap:=h' })->wpAny (model prog w) A.in1 (afI (.ref v)) Q E s)
  (m:∀f h' (acc:Array Ad) c',(∀b o,b≠S->s.heap.get? b=some o->h'.get? b=some o)->ou h' S acc c'->acc.size=n->(∀j u,acc[j]?=some u->P f h' j u)->R (.ok (.ret (.ref S))) {s with heap:=h' }):adK (model prog w) A (.builtin "list.__iadd__" ⟨[.ref S,.ref v],[]⟩) R s:=by
 refine ac6 F.entry_list_iadd ((aet F.plain_list_iadd _).symm▸?_);show wpAny _ A.in1 (aeL (.ref S) (.ref v) (.ref S)) _ _ _;refine gT ?_;refine acV x ?_;have L:adH (.ref S) (.ref v)=false:=by simp[adH,I]
 rw[L,if_neg (by rcases k with rfl|rfl<;>decide)];refine gT (a _ _ λy f V N C k1 nn=>?_);have p:afv {s with heap:=y} (.ref v) T:=by
  let⟨o,J,O⟩:=x;exact⟨o,k1 _ _ J,O⟩
 refine gT (abR (h _ _ _ p ?_));dsimp only;rw[if_pos (by rcases k with rfl|rfl<;>decide)];refine gT (acs (gT (VJ (s:={s with heap:=y}) (k1 _ _ X) λZ G U l k2=>?_)));refine LD ⟨agG adw _,yg N (abx V) K n 0 _ #[] G rfl (abw _) (N.keep _ _ _ C l k2) U rfl (λj u e=>by simp at e) λW acc D H B M Y=>m f W acc D (λb o nb q=>H b o (λz=>by rw[z,nn]at q;cases q) nb (k2 b o nb (k1 b o q))) B M Y⟩
def yL{T:String}{St:Addr->Nat->aaQ->Prop}{Q:List Ad->Io->Prop}(C:s.TypeIs (.ref v) T)(y:T = "dict_items" \/ T = "dict")(H:n≤aam)
  (c:∀(s:Io) (Q:Bool->Io->Prop) (E:Ad->Io->Prop),s.TypeIs (.ref v) T->Q false s->wpAny (model prog w) A.in1 (aco (.ref v)) Q E s)
  (a:∀(s1:Io) (Q:Ad->Io->Prop) (E:Ad->Io->Prop),(∀b o,s.heap.get? b=some o->s1.heap.get? b=some o)->(∃o,s1.heap.get? s.heap.objs.size=some o)->(∀h' f,f≠s.heap.objs.size->Nx prog w A.in1 s.heap.objs.size f n (St f) (P f)->St f 0 h'->(∀b o,s1.heap.get? b=some o->h'.get? b=some o)->s1.heap.get? f=none->Q (.ref f) {s1 with heap:=h' })->wpAny (model prog w) A.in1 (afI (.ref v)) Q E s1)
  (x:∀f h' (acc:Array Ad),(∀b o,s.heap.get? b=some o->h'.get? b=some o)->s.heap.objs.size<h'.objs.size->acc.size=n->(∀j u,acc[j]?=some u->P f h' j u)->Q acc.toList {s with heap:=h' }):wpAny (model prog w) A (collect (.ref v)) Q E s:=by
 have new:ou _ s.heap.objs.size #[] 0:=aak _ rfl;have e:∀b o,s.heap.get? b=some o->(s.heap.push {cls:=.type "list",data:=.seq #[]}).get? b=some o:=λb o q=>GT _ q;have D:s.heap.objs.size≠v:=by
  let⟨o,q,_⟩:=C;exact abm (aan q)
 have B:afv {s with heap:=s.heap.push {cls:=.type "list",data:=.seq #[]} } (.ref v) T:=by
  let⟨o,G,I⟩:=C;exact⟨o,e _ _ G,I⟩
 refine gT (m:=runValue _) (wpAny_runValue (ac6 F.entry_proto_collect (gT (m:=ag2 []) (aa9 (LD ⟨agG F.plain_list_iadd _,?_⟩)))));refine Ig B y D new H c (λQ E h=>a {s with heap:=s.heap.push {cls:=.type "list",data:=.seq #[]} } Q E e ⟨_,new⟩ h) λf h' acc J k l z p=>?_;refine gT (m:=load s.heap.objs.size) (wpAny_load l ?_);exact LD (x f h' acc (λb o q=>k b o (aaU (aan q)) (e b o q)) (aan l) z p)
end
end L2
namespace L2
open PySem PySem.Spec PySem.W PyProof.Rows
variable{vs:List Ad}{ds:List aD}{B a b:Addr}{n:Nat}{g:Nat->HO}{kvs:List (aD×aD)}{es:List (V×V)}{o:Expr}{apos cpos p0 pos:Pos}
section
variable {prog:aaI}{w:World}{A:abc}{E:Ad->Io->Prop}{s:Io}
def Qg(h h':aaQ):Prop:=∀b o,h.get? b=some o->o.cls = .type "tuple" -> h'.get? b=some o
theorem yd{h h':aaQ}{k:Nat}(K:Qg h h')(I:∀x y u as,x.depth≤k->smD x y=true->Reads h u x as->∃bs,Reads h' u x bs):∀(xs ys:List aD) us as,aaC xs≤k->smDs xs ys=true->adF h us xs as->∃bs,adF h' us xs bs
 |[],ys,us,as,_,_,r=>by cases r;exact⟨[],.nil⟩
 | x::xs,ys,us,as,hk,sm,r=>by
  cases ys with
  |nil=>exact absurd sm (by simp only[smDs];decide)
  | cons y ys=>
   simp[smDs]at sm;have e:max x.depth _≤k:=hk
   cases r with
   |cons r1 d=>
    let⟨b1,c⟩:=I x y _ _ (by omega) sm.1 r1;let⟨b2,q⟩:=yd K I xs ys _ _ (by omega) sm.2 d;exact⟨_,.cons c q⟩
theorem B9{h h':aaQ}(K:Qg h h'):∀(k:Nat) (x y:aD) (u:Ad) (as:List Addr),x.depth≤k->smD x y=true->Reads h u x as->∃bs,Reads h' u x bs
 |k,.int a,y,u,as,_,_,r=>by cases r;exact⟨_,.int _ _⟩
 |0,.tuple xs,y,u,as,hk,_,_=>absurd hk (by show ¬aaC xs+1≤0;contradiction)
 | k+1,.tuple xs,y,u,as,hk,sm,r=>by
  cases y with
  | tuple f=>
   have i:aaC xs+1≤k+1:=hk
   cases r with
   |tuple e c q z=>
    let⟨bs,d⟩:=yd K (B9 K k) xs f _ _ (by omega) sm z;exact⟨_,.tuple (K _ _ e c) c q d⟩
  |_=>exact absurd sm (by simp only[smD];decide)
 |k,.none,y,u,as,_,sm,_=>absurd sm (by simp only[smD];decide)
 |k,.bool _,y,u,as,_,sm,_=>absurd sm (by simp only[smD];decide)
 |k,.str _,y,u,as,_,sm,_=>absurd sm (by simp only[smD];decide)
 |k,.list _,y,u,as,_,sm,_=>absurd sm (by simp only[smD];decide)
 |k,.dict _,y,u,as,_,sm,_=>absurd sm (by simp only[smD];decide)
theorem BV{f r:Bool}{Q:Bool->Io->Prop}(q:Q r s):∀(ps:List (Ad×Ad)) (i:Nat),D5 A s f r ps->KatLex prog w A false f Q ps i s
 |[],i,h=>kat_nil (by have c:=h;rw[<-c];exact q)
 |p::ps,i,⟨e,he,h1,h2⟩=>by
  refine kat_cons (he prog w _ _ ?_)
  cases e with
  |true=>exact kat_yes (BV q ps _ (h1 rfl))
  |false=>exact kat_no (kat_one _ _ (h2 rfl prog w _ _ q))
def RdL(h:aaQ):List Ad->List aD->Prop
 |[],[]=>True
 |v::vs,d::ds=>(∃c,Reads h v d c)/\RdL h vs ds
 |_,_=>False
theorem RdL.len{h:aaQ}:∀{vs:List Ad}{ds:List aD},RdL h vs ds->vs.length=ds.length
 |[],[],_=>rfl
 |v::vs,d::ds,t=>by rw[aaq,aaq,RdL.len t.2]
 |[],_::_,t=>t.elim
 |_::_,[],t=>t.elim
theorem RdL.get{h:aaQ}:∀{vs:List Ad}{ds:List aD}{i:Nat},RdL h vs ds->i<vs.length->∃as,Reads h (vs.getD i .none) (ds.getD i .none) as
 |[],[],_,_,z=>by simp at z
 |v::vs,d::ds,0,t,_=>t.1
 |v::vs,d::ds,i+1,t,z=>by
  rw[List.getD_cons_succ];exact RdL.get t.2 (by simp_all)
 |[],_::_,_,t,_=>(t.elim)
 |_::_,[],_,t,_=>(t.elim)
def tt1:aD->Bool
 | .tuple (.tuple _::_)=>true
 |_=>false
theorem CJ{h:aaQ}:∀{vs:List Ad}{ds:List aD},RdL h vs ds->(∀d∈ds,tt1 d=true)->∃fs,KatTups h vs fs/\fs.length=vs.length/\∀v∈fs,∃b o,v = .ref b/\h.get? b=some o/\o.cls = .type "tuple"
 |[],[],_,_=>⟨[],.nil,rfl,λ_ h=>by cases h⟩
 | v::vs,d::ds,⟨⟨as,r⟩,t⟩,hd=>by
  let⟨fs,k1,k2,D⟩:=CJ t λx f=>hd x (aab _ f);have j:=hd d aaa;let⟨y,k,rfl⟩:∃y k,d = .tuple (.tuple y::k):=by
   unfold tt1 at j
   split at j
   .exact⟨_,_,rfl⟩
   .cases j
  cases r with
  | tuple e c q z=>
   rename_i a o i n;generalize p:i.toList=L at z
   cases z with
   | cons r1 J=>
    rename_i u H l bs;have F:i[0]?=some u:=by
     rw[<-ab1,p];rfl
    cases r1 with
    |tuple m C I G=>
     refine⟨_::fs,.cons e c q F k1,by rw[aaq,aaq,k2],λx f=>?_⟩;exact(aae.mp f).elim (λz=>by subst z;exact⟨_,_,rfl,m,C⟩) (D x)
 |[],_::_,t,_=>t.elim
 |_::_,[],t,_=>t.elim
theorem RdL.keep{h h':aaQ}(K:Qg h h'):∀{vs:List Ad}{ds:List aD},(∀d∈ds,smD d d=true)->RdL h vs ds->RdL h' vs ds
 |[],[],_,_=>trivial
 |v::vs,d::ds,hs,⟨⟨as,r⟩,t⟩=>⟨B9 K d.depth d d v as (Mt _) (hs d aaa) r,RdL.keep K (λx c=>hs x (aab _ c)) t⟩
 |[],_::_,_,t=>t.elim
 |_::_,[],_,t=>t.elim
structure SrtOk(ds:List aD):Prop where
 n:ds.length<64
 sm:∀x∈ds,∀y∈ds,smD x y=true
 tt:∀x∈ds,tt1 x=true
 dp:∀x∈ds,x.depth≤7
theorem Ut{u v:Ad}{x y:aD}{as bs:List Addr}{Q:Bool->Io->Prop}(r1:Reads s.heap u x as)(r2:Reads s.heap v y bs)(sm:smD x y=true)(d:tt1 x=true)(t:tt1 y=true)(k:A.units+x.depth<cLine)(h:Q (ltD x y) s):wpAny (model prog w) A (keyLt' (tuples' false) u v) Q E s:=by
 let⟨a1,b1,rfl⟩:∃a b,x = .tuple (.tuple a::b):=by
  unfold tt1 at d
  split at d
  .exact⟨_,_,rfl⟩
  .cases d
 let⟨a2,b2,rfl⟩:∃a b,y = .tuple (.tuple a::b):=by
  unfold tt1 at t
  split at t
  .exact⟨_,_,rfl⟩
  .cases t
 cases r1 with
 | tuple e c q z=>
  cases r2 with
  |tuple l r m i=>
   have f:A.units+(aaC _+1)<cLine:=k;let⟨C,p⟩:=l8 (x6 _) A s _ _ _ _ _ _ (Mt _) z i sm (by exact acD ‹_›);have j:Q (ltDs (.tuple a1::b1) _) s:=h;refine kat_lt e q l m (BV j _ 0 ?_)
   grind
def ordP(ds:List aD)(p:List Nat):Prop:=p.Perm (aaL ds.length)/\∀i j,i<j->j<ds.length->ltD (ds.getD (p.getD i 0) .none) (ds.getD (p.getD j 0) .none)=true
def Qc(r6:RdL s.heap vs ds)(ok:SrtOk ds)(u:TotF ds.length λi j=>ltD (ds.getD i .none) (ds.getD j .none))(N:2≤vs.length)(L:A.units+7<cLine) :
  wpAny (model prog w) A ((sortRuns').run (SortSt.mk' (tuples' false) (vs.toArray.zip vs.toArray) #[] 7 none)) (λr s'=>∃q:List Nat,ordP ds q/\(arrOf r.2).map (·.2)=(q.map λi=>vs.getD i .none).toArray/\q.length=vs.length/\failedOf r.2=none/\s'=s) E s:=by
 have h:=r6.len;have v:=ok.n;let⟨q,eq,m,x⟩:=JJ u (by omega);refine kat_run (ks:=vs) (Q:=λc s'=>∃q:List Nat,ordP ds q/\(arrOf c).map (·.2)=(q.map λi=>vs.getD i .none).toArray/\q.length=vs.length/\failedOf c=none/\s'=s)
  (G:=λp s'=>p=q/\s'=s) rfl (by omega) (by omega) (λp c s' H z y D=>by
   let⟨rfl,rfl⟩:=D;refine⟨p.toList,⟨m.pm,λi j e d=>?_⟩,kat_snds rfl z,by simpa using H,y,rfl⟩;have t:∀k,k<ds.length->p.toList.getD k 0=pA p k:=λk I=>by
    rw[aaA,ab1,dU (by rw[m.sz];exact I)];rfl
   rw[t i (by omega),t j d];exact x i j e d) ?_
 rw[h];refine AK (λi j C K d J=>?_) _ q eq ⟨rfl,rfl⟩;have f:i<ds.length:=K;have l:j<ds.length:=d;let⟨M,r1⟩:=r6.get (i:=i) (by omega);let⟨bs,F⟩:=r6.get (i:=j) (by omega);have m1:ds.getD i .none∈ds:=by rw[bJ (mT f)];exact acq _
 have m2:ds.getD j .none∈ds:=by rw[bJ (mT l)];exact acq _
 exact Ut r1 F (ok.sm _ m1 _ m2) (ok.tt _ m1) (ok.tt _ m2) (by have:=ok.dp _ m1;omega) J
theorem rz{P:PySem.Fin->Io->Prop}(t:s.heap.get? a=some (acS "list" vs.toArray n))(y:RdL s.heap vs ds)(ok:SrtOk ds)(K:TotF ds.length λi j=>ltD (ds.getD i .none) (ds.getD j .none))(N:A.units+7<cLine)
  (h:∀p:List Nat,ordP ds p->P (.done (.ret .none)) {s with heap:=afX s.heap a vs (p.map λi=>vs.getD i .none).toArray}):wpAny (model prog w) A
  (adc.«list.sort» ⟨[.ref a],[]⟩) P E s:=by
 have k:=y.len;have O:=ok.n;rw[list_sort_plain];have r:(s.heap.update a (acw λ_=>#[])).get? a=some (acS "list" #[] _):=get?_update_seq t λ_=>#[];have f:(((s.heap.update a (acw λ_=>#[])).push (acS "tuple" vs.toArray 0)).push (acS "list" #[] 0)).get? a=some (acS "list" #[] _):=GT _ (GT _ r);refine gT (ag5 t rfl (gT (afp t rfl (gT (seqEpoch_at r rfl (gT (m:=newTuple _) (aeZ (gT (m:=ag2 _) (afq (abR ?_))))))))));have r6:RdL (((s.heap.update a (acw λ_=>#[])).push (acS "tuple" vs.toArray 0)).push (acS "list" #[] 0)) vs ds:=y.keep (λb o e c=>by
  have U:b≠a:=λz=>by
   rw[z,t]at e;have G:o.cls=acU "list":=by rw[<-aar e]
   rw[G]at c;exact absurd c (by decide)
  refine GT _ (GT _ ?_);rw[aaQ.get?_update_ne _ _ _ _ U];exact e) λd hd=>ok.sm d hd d hd
 generalize C:((s.heap.update a (acw λ_=>#[])).push (acS "tuple" vs.toArray 0)).push (acS "list" #[] 0)=x at f r6;have Y:afX s.heap a vs=λout=>afX s.heap a vs out:=rfl;change wpAny _ A _ P E ({s with heap:=x}:Io);dsimp only;have M:(vs.toArray:Array Ad).size=vs.length:=aaK
 by_cases u:(vs.toArray:Array Ad).size<2
 .rw[if_pos u,if_pos u];refine gT (LD ?_);rw[StateT.run_pure];refine gT (LD ?_);dsimp only;refine gT (seqEpoch_at f rfl ?_);refine gT (afp f rfl ?_ (hsz2:=by rw[Array.size_map];show(pairsOf vs).size≤_;rw[pairsOf_size,aag];omega));simp only[if_false,acY,bne_self_eq_false];refine LD ?_;have l:=h (aaL ds.length) ⟨List.Perm.refl _,λi j V Z=>by omega⟩;have I:((aaL ds.length).map λi=>vs.getD i .none).toArray=(arrOf (SortSt.mk' general' (vs.toArray.zip vs.toArray) #[] 7 none)).map (·.2):=by
   show _=(vs.toArray.zip vs.toArray).map (·.2);apply Array.toList_inj.mp;rw[Array.toList_map,Array.toList_zip];refine ade λi=>?_
   by_cases D:i<vs.length
   .simp[aci,D,<-k]
   .simp[aci,D,<-k]
  rw[I]at l;unfold afX at l;rw[C]at l;exact l
 .rw[if_neg u,if_neg u];let⟨fs,k1,k2,X⟩:=CJ r6 ok.tt;refine gT (kat_kind (s:={s with heap:=x}) (T:=.type "tuple") k1 (by omega) (λv F=>?_) rfl ?_)
  .obtain⟨b,o,rfl,e1,c1⟩:=X v F;exact λA' Q' E' J L q=>acV ⟨o,L _ _ e1,c1⟩ q
  rw[show(acU "tuple" != acU "tuple")=false by decide];refine gT (acr (Qc (s:={s with heap:=x}) r6 ok K (by omega) N) ?_ λ_ _ e=>e);rintro⟨⟨⟩,R⟩ J ⟨q,S,H,W,Q,rfl⟩;dsimp only;rw[H];refine gT (seqEpoch_at f rfl ?_);refine gT (afp f rfl ?_ (hsz2:=by simp;rw[W,aag];omega));rw[Q];simp only[if_false,acY,bne_self_eq_false];have l:=h q S;unfold afX at l;rw[C]at l;exact LD l
end
section
variable {prog:aaI}{w:World}{A:abc}{E:Ad->Io->Prop}{s:Io}
theorem y3{v:Ad}{C:aaQ->List Ad->Prop}{Q:Ad->Io->Prop}(ok:SrtOk ds)(l:TotF ds.length λi j=>ltD (ds.getD i .none) (ds.getD j .none))(D:A.units+10<cLine)
  (f:∀(P:List Ad->Io->Prop) (E:Ad->Io->Prop),(∀h' vs,(∀b o,s.heap.get? b=some o->h'.get? b=some o)->RdL h' vs ds->C h' vs->P vs {s with heap:=h' })->wpAny (model prog w) A.in1 (collect v) P E s)
  (h:∀(c k:aaQ) (vs:List Ad) (p:List Nat) (L:Addr) (e:Nat),(∀b o,s.heap.get? b=some o->c.get? b=some o)->C c vs->RdL c vs ds->(∀b o,c.get? b=some o->k.get? b=some o)->L=c.objs.size->k.get? L=some (acS "list" (p.map λi=>vs.getD i .none).toArray e)->ordP ds p->Q (.ref L) {s with heap:=k}) :
  wpAny (model prog w) A (call (.builtin "sorted") [v]) Q E s:=by
 refine Calls.call_function_entry kind_sorted plain_sorted entry_sorted (args:=_) (args_sorted1 v) ?_;refine gT (m:=checkCount "sorted" 1 1 _) (LD (gT (f _ _ λc vs k1 r1 x=>gT (m:=ag2 vs) (afq ?_ (hsz:=by rw[r1.len,aag];have:=ok.n;omega)))));have at1:(c.push (acS "list" vs.toArray 0)).get? c.objs.size=some (acS "list" vs.toArray 0):=aak _ rfl;have k2:∀b o,c.get? b=some o->(c.push (acS "list" vs.toArray 0)).get? b=some o:=λb o q=>GT _ q;have r:=r1.keep (λb o q _=>k2 b o q) λd hd=>ok.sm d hd d hd;refine gT (m:=adl _ _) (abR (acr (aa2 slot_list_sort ⟨_,at1,rfl⟩ entry_list_sort (rz at1 r ok l (show A.units+1+1+7<cLine by exact acD ‹_›) λp t=>⟨_,rfl,?_⟩) (args_list_sort _)) (λF u (q:Q (.ref c.objs.size) u)=>LD ⟨_,rfl,q⟩) λ_ _ z=>z));let⟨e,y⟩:=sortedHeap_at at1;exact h c _ vs p _ e k1 x r1 (λb o q=>by
  have lt:b<c.objs.size:=aan q;rw[sortedHeap_old (aaU lt) (by rw[size_push'];exact ad5 lt)];exact k2 b o q) rfl y t
end
theorem AV(h:aaQ):h.get? h.objs.size=none:=by
 cases e:h.get? h.objs.size with
 |none=>rfl
 |some o=>exact(acI _ (aan e)).elim
def updR(H:Hp)(B:Addr)(g:Nat->HO):Nat->Hp
 |0=>H
 |n+1=>upd (updR H B g n) (B+n) (g n)
theorem jm{H:Hp}{B:Addr}{g:Nat->HO}{b:Addr}:∀{n:Nat},(∀j,j<n->b≠B+j)->updR H B g n b=H b
 |0,_=>rfl
 |n+1,h=>by
  show upd _ _ _ b=_;rw[aA (h n (abu n))];exact jm λj c=>h j (ad5 c)
theorem wf{H:Hp}{B:Addr}{g:Nat->HO}{j:Nat}:∀{n:Nat},j<n->updR H B g n (B+j)=some (g j)
 |0,h=>absurd h (Nat.not_lt_zero _)
 |n+1,h=>by
  by_cases e:j=n
  .subst e;exact aB
  .show upd _ _ _ _=_;rw[aA (λz=>e (agA z))];exact wf (by omega)
section
variable {X:Cx}{pins:List (Addr×Obj)}{σ:List (Option V)}{H:Hp}{s:Io}{h':aaQ}
def JK(h:b<B):updR H B g n b=H b:=jm λj _=>aaU (aas h (ab5 _ _))
def du{o:HO}(fr:∀j,H (B+j)=none)(h:H b=some o):updR H B g n b=some o:=by
 rw[jm λj _ z=>by rw[z,fr j]at h;cases h];exact h
def Inv.laidR{t':Nat}(I:Inv X pins σ H s)(k:∀b u,s.heap.get? b=some u->h'.get? b=some u)(d:s.heap.objs.size≤B)(new:∀j,j<n->ObjOk X.prog X.w (updR H B g n) h' (B+j) (g j)) :
  Inv X pins σ (updR H B g n) {s with heap:=h',toks:=t' }:=by
 have fr:∀j,H (B+j)=none:=λj=>I.hok.fresh (aax d (ab5 _ _));refine I.un ⟨λb u q _ _ _=>k b u q,λb u q _ _ _=>⟨u.slots,k b u q⟩,λb u q n _=>?_,λb u q _=>⟨u,k b u q⟩,λb x q=>du fr q,λb u x q=>du fr q,λb p q=>⟨#[],?_⟩⟩ λb u e=>?_
 .rw[JK (aas (aan q) d)];exact n
 .rw[du fr q];simp
 .by_cases hb:∃j,j<n/\b=B+j
  .obtain⟨j,h,rfl⟩:=hb;rw[wf h]at e;rw[<-aar e];exact new j h
  .rw[jm λj h z=>hb ⟨j,h,z⟩]at e;exact(I.hok b u e).stay (λc v _ q=>k c v q) (λc q=>du fr q) λc x q=>du fr q
theorem PK{p:List Nat}(h:ordP ds p):(p.map λi=>ds.getD i .none).Perm ds/\(p.map λi=>ds.getD i .none).Pairwise λa b=>ltD a b=true:=by
 have k:p.length=ds.length:=by rw[h.1.length_eq,abg]
 constructor
 .have e:(aaL ds.length).map (λi=>ds.getD i .none)=ds:=ade λi=>by
   by_cases d:i<ds.length
   .simp_all
   .simp_all
  have:=h.1.map λi=>ds.getD i .none;rwa[e]at this
 .refine abF.mpr λi j d f c=>?_;rw[iO]at d f;rw[adp,adp];have:=h.2 i j c (by omega);rwa[bJ (mT d),bJ (mT f)]at this
theorem J5(I:Inv X pins σ H s):∀{ds:List aD}{xs:List V}{us:List Ad},(∀d∈ds,d.canLay0=true)->DenAll X.kx H ds xs->Vals xs us->RdL s.heap us ds
 |[],xs,us,_,g,r=>by
  subst g;cases r;trivial
 |d::ds,xs,us,hl,g,r=>by
  let⟨x,i,rfl,f,e⟩:=g
  cases r with
  |cons h t=>exact⟨Den.reads I (abh _ (hl d aaa)) f h,J5 I (λx c=>hl x (aab _ c)) e t⟩
def SrtOk.lay(ok:SrtOk ds):∀d∈ds,d.canLay0=true:=λd hd=>(Dw (ok.sm d hd d hd)).1
structure SrtT(ds:List aD):Prop where
 ok:SrtOk ds
 tot:TotF ds.length λi j=>ltD (ds.getD i .none) (ds.getD j .none)
def srtR(ds:List aD)(K:List aD->Prop):Prop:=SrtT ds/\∀d:List aD,d.Perm ds->d.Pairwise (λa b=>ltD a b=true)->K d
theorem AY:∀{xs:List V}{us:List Ad},xs.length=us.length->(∀(j:Nat) (x:V) (u:Ad),xs[j]?=some x->us[j]?=some u->RelV x u)->Vals xs us
 |[],[],_,_=>.nil
 |x::xs,u::us,hl,h=>.cons (h 0 x u rfl rfl) (AY (by simpa using hl) λj x u e c=>h (j+1) x u ‹_› ‹_›)
 |[],_::_,hl,_=>(adx _ hl).elim
 |_::_,[],hl,_=>(adx _ hl.symm).elim
theorem ub{K:Kd}{H:Hp}:∀{ds:List aD}{xs:List V},ds.length=xs.length->(∀(j:Nat) (d:aD) (x:V),ds[j]?=some d->xs[j]?=some x->Den K H d x)->DenAll K H ds xs
 |[],[],_,_=>by simp[DenAll]
 |d::ds,x::xs,hl,h=>by
  exact⟨x,xs,rfl,h 0 d x rfl rfl,ub (by simpa using hl) λj d x e c=>h (j+1) d x ‹_› ‹_›⟩
 |[],_::_,hl,_=>(adx _ hl).elim
 |_::_,[],hl,_=>(adx _ hl.symm).elim
theorem BG{H:Hp}(fr:∀j,H (B+j)=none)(n:Nat):Pers H (updR H B g n):=⟨λb x q=>du fr q,λb o u q=>du fr q⟩
def itmG(es:List (V×V))(j:Nat):HO:=.tup [(es.getD j (.non,.non)).1,(es.getD j (.non,.non)).2]
def ut(B:Addr)(n:Nat):List V:=(aaL n).map λj=>.ref (B+j)
theorem sk{K:Kd}{H:Hp}(fr:∀j,H (B+j)=none)(l:PDc K H kvs es):DenAll K (updR H B (itmG es) es.length) (gG kvs) (ut B es.length):=by
 have h:=BG (g:=itmG es) fr es.length;refine ub (by unfold gG ut;rw[iO,iO,abg,l.length]) λj d x c f=>?_;unfold gG at c;rw[aao]at c;let⟨p,r,rfl⟩:=ad7.mp c;let⟨i,k,d1,q⟩:=Paired.at1 l r;have m:=(AD.mp k).1;unfold ut at f;rw[aao,aci m]at f;have e:=aar f;subst e;have t:itmG es j = .tup [i.1,i.2]:=by unfold itmG;rw[bJ k]
 exact fc (SqT.of ((wf m).trans (by rw[t]))) (DenAll.cons (d1.mono h) (DenAll.cons (q.mono h) DenAll.nil))
def DcR(H:Hp)(a:Addr)(es:List (V×V)):Prop:=(∃x,Rd H a (dX a x)/\es=x.map (·.2))\/∃x,Rd H a (.dK x)/\es=x.map λp=>(kV p.1,p.2)
theorem Inv.dcr{X:Cx}{pins:List (Addr×Obj)}{σ:St}{H:Hp}{s:Io}(I:Inv X pins σ H s)(h:DcR H a es):(a==abA)=false/\∃o c f,s.heap.get? a=some o/\o.ExactDict/\o.data = .dict c f/\abI (λ(e:V×V) (d:ab2)=>RelV e.1 d.key/\RelV e.2 d.val) es c.toList:=by
 rcases h with⟨x,e,rfl⟩|⟨x,e,rfl⟩
 .obtain⟨⟨hs,hz,o,c,f,h1,h2,h3,h4⟩,_⟩:=(show ObjOk X.prog X.w H s.heap a (dX a x)from e.ok I.hok);refine⟨hs,o,c,f,h1,h2,h3,?_⟩;clear e hz;generalize c.toList=l at h4;rename_i z;clear z
  induction h4 with
  |nil=>exact .nil
  |cons q _ i=>exact .cons q.2 i
 .obtain⟨hz,hs,vs,kv,o,c,f,h1,h2,h3,h4,h5,h6⟩:=uE I.hok e;refine⟨hs,o,c,f,h1,h2,h3,?_⟩;generalize c.toList=l at h5;clear h6 h4 h3 h2 hz e
  induction kv generalizing l with
  |nil=>cases h5;exact .nil
  | cons q _ i=>
   cases h5 with
   |cons p j k=>
    rw[aah];refine .cons ⟨?_,?_⟩ (i _ k)
    .rw[<-q.1]at p;exact N6 p
    .rw[j];exact q.2
theorem IsDc.dcr{K:Kd}{H:Hp}(h:IsDc K H a kvs):∃es,DcR H a es/\PDc K H kvs es:=by
 rcases h with⟨es,r,g⟩|⟨es,r,_,_,g⟩
 .exact⟨_,.inr ⟨es,r,rfl⟩,DA g⟩
 .exact⟨_,.inl ⟨es,r,rfl⟩,Bj g⟩
def TF(K:Kd)(to:TE):TE:=λσ H Q=>to σ H λx c=>∃a es kvs,x = .ref a/\DcR c a es/\PDc K c kvs es/\SrtT (gG kvs)/\∀(d:List aD) (B:Addr) (g:Nat->HO) (n:Nat) (L:Addr) (e:List V),d.Perm (gG kvs)->d.Pairwise (λa b=>ltD a b=true)->(∀j,c (B+j)=none)->updR c B g n L=none->DenAll K (upd (updR c B g n) L (.lst e)) d e->Q (.ref L) (upd (updR c B g n) L (.lst e))
theorem IK{to:TE}(hc:X.calm=true)(hu:X.A.units+64<cLine)(hg:Gl X "sorted")(hm:X.mg "sorted" = none)(ho:PE X o to)(r:abv o "items" X.env (eval o X.env)=eval o X.env:=by rfl)(w:(apos.endLine==cpos.line)=true:=by rfl)
  (M:aac [.Call (.Attribute o "items" apos) [] [] cpos] X.env=[(false,eval (.Call (.Attribute o "items" apos) [] [] cpos) X.env)]:=by rfl):PE X (.Call (.Name "sorted" p0) [.Call (.Attribute o "items" apos) [] [] cpos] [] pos) (TF X.kx to):=by
 intro pins s σ H Q I h;refine acv (kl I hg hm nw ?_);refine aeg ?_ M rfl;rw[M];refine agH ?_;refine wpAny_Call_method0_late r w (thn (ho pins s σ H _ I h) λv s1 ⟨x,Y,I1,r1,q1⟩=>?_);let⟨a,es,kvs,rfl,dc,pd,S,q⟩:=q1;cases r1;let⟨D,ob,c,U,V,g2,g3,g4⟩:=I1.dcr dc;have he:EntAt s1.heap a c U:=⟨ob,V,g2,g3⟩;refine⟨"dict","dict.items",PySem.F.plainAttrs_dict,afE,PySem.F.type_dict_items,⟨ob,V,g2.1⟩,λb e=>by cases e;exact⟨ob,V,g2.2.1⟩,afQ rfl (PySem.evalArgs_none (zt D he ?_))⟩;refine agY ?_;have kv:∀b o,s1.heap.get? b=some o->(s1.heap.push {cls:=.type "dict_items",data:=.fields #[.ref a]}).get? b=some o:=λb o q=>GT _ q;have hl:es.length=c.size:=by have:=g4.length;simpa using this
 have hil:(gG kvs).length=es.length:=by unfold gG;rw[iO,pd.length]
 have hn:=S.ok.n;have R:Inv X pins σ Y {s1 with heap:=s1.heap.push {cls:=.type "dict_items",data:=.fields #[.ref a]} }:=I1.kept (t':=s1.toks) kv;have m:(s1.heap.push {cls:=.type "dict_items",data:=.fields #[.ref a]}).get? s1.heap.objs.size=some {cls:=.type "dict_items",data:=.fields #[.ref a]}:=aak _ rfl;have N:EntAt (s1.heap.push {cls:=.type "dict_items",data:=.fields #[.ref a]}) a c U:=he.keep λo q=>kv _ _ q;have la:a<s1.heap.objs.size:=aan V;generalize hS2:({s1 with heap:=s1.heap.push {cls:=.type "dict_items",data:=.fields #[.ref a]} }:Io)=s2 at R⊢;have hh2:s2.heap=s1.heap.push {cls:=.type "dict_items",data:=.fields #[.ref a]}:=by rw[<-hS2]
 rw[<-hh2]at m N;have lv:s1.heap.objs.size<s2.heap.objs.size:=aan m;have lay:∀(h':aaQ) (d:Addr),(∀b o,s2.heap.get? b=some o->h'.get? b=some o)->s2.heap.objs.size≤d+1->(∀j (A:j<c.size),h'.get? (d+1+j)=some {cls:=.type "tuple",data:=.seq #[c[j].key,c[j].val]})->Inv X pins σ (updR Y (d+1) (itmG es) es.length) {s2 with heap:=h' }:=λh' d k z tp=>by
  refine R.laidR (t':=s2.toks) k z λj A=>?_;let⟨ev,t,T,O⟩:=Paired.at g4 (i:=j) (y:=c[j]) (by simp[show j<c.size by omega]);have eg:itmG es j = .tup [ev.1,ev.2]:=by unfold itmG;rw[bJ t]
  rw[eg];exact⟨by show 2≤aam;rw[aag];decide,[c[j].key,c[j].val],.cons T (.cons O .nil),⟨_,tp j (by omega),rfl,rfl,_,rfl⟩⟩
 have F:∀(d:Addr) (f:Array Ad),f.size=c.size->(∀(j:Nat) u,f[j]?=some u->u = .ref (d+1+j))->Vals (ut (d+1) es.length) f.toList:=λd f az ar=>AY (by have z1:f.toList.length=f.size:=abW;unfold ut;rw[iO,abg,z1,az,hl]) λj x u t T=>by
  unfold ut at t;rw[aao]at t;let⟨j',O,rfl⟩:=ad7.mp t;have J:j<es.length:=by have:=(AD.mp O).1;rwa[abg]at this
  rw[aci J]at O;rw[ab1]at T;rw[ar j u T,aar O];exact rfl
 have fr:∀(d:Addr),s2.heap.objs.size≤d+1->∀j,Y (d+1+j)=none:=λd z j=>R.hok.fresh (aax z (ab5 _ _));refine y3 (s:=s2) (C:=λh vs=>∃d:Addr,s2.heap.objs.size≤d+1/\(∀j (A:j<c.size),h.get? (d+1+j)=some {cls:=.type "tuple",data:=.seq #[c[j].key,c[j].val]})/\Vals (ut (d+1) es.length) vs) S.ok S.tot (by omega) (λP E hP=>?_) ?_
 .refine yL (St:=λd=>StI s2.heap.objs.size d a c U) (P:=λd=>PrI s2.heap.objs.size d c) (n:=c.size) ⟨_,m,rfl⟩ (.inl rfl) (by rw[aag];omega) (λs3 Q3 E3 hT q=>zj hT q) (λs3 Q3 E3 k0 ⟨oS,hS⟩ hq=>?_) λd h' f k zz az pz=>?_
  .have lS:s2.heap.objs.size<s3.heap.objs.size:=aan hS;have G:EntAt s3.heap a c U:=N.keep λo q=>k0 _ _ q;refine zK (k0 _ _ m) G λh' Z sz hk=>hq h' _ (abm lS) (GJ (R.ok.hd hc) lS (abm (ado la lv)) (abm (ado la (ado lv lS)))) ⟨G.keep λo q=>hk _ _ q,sz,.inl ⟨_,_,Z⟩⟩ hk (AV _)
  .obtain⟨l,z',tp',ar'⟩:∃l:Addr,s2.heap.objs.size≤l+1/\(∀j (A:j<c.size),h'.get? (l+1+j)=some {cls:=.type "tuple",data:=.seq #[c[j].key,c[j].val]})/\∀(j:Nat) u,f[j]?=some u->u = .ref (l+1+j):=by
    by_cases e0:c.size=0
    .exact⟨s2.heap.objs.size,afc _,λj A=>by omega,λj u e=>by have:=(Array.getElem?_eq_some_iff.mp e).1;omega⟩
    .have get:∀j,j<c.size->∃u,f[j]?=some u:=λj A=>⟨_,ab0 (show j<f.size by omega)⟩;let⟨u0,t⟩:=get 0 (by omega);have l0:=(pz 0 u0 t).1;refine⟨d,acD (ad5 l0),λj A=>?_,λj u e=>(pz j u e).2.1⟩;let⟨u,e⟩:=get j A;let⟨_,_,J,q⟩:=pz j u e;exact q
   have W:=F l f az ar';have I':=lay h' l k z' tp';exact hP h' f.toList k (J5 I' S.ok.lay (sk (fr l z') pd) W) ⟨l,z',tp',W⟩
 .rintro h1 h2 vs p L e k1 ⟨d,z,tp,W⟩ r1 k2 hL hl2 hp;subst hL;have I3:=lay h1 d k1 z tp;have K:updR Y (d+1) (itmG es) es.length h1.objs.size=none:=I3.hok.fresh (Mt _);let⟨o1,o2⟩:=PK hp;have hpl:p.length=c.size:=by have:=hp.1.length_eq;rw[abg]at this;omega
  exact⟨.ref h1.objs.size,_,I3.laid (t':=s2.toks) k2 (Mt _) (show ObjOk X.prog X.w _ _ _ (.lst (p.map λi=>(ut (d+1) es.length).getD i .non))from⟨by rw[iO,aag];omega,_,e,tF W p,by rw[hl2]⟩),rfl,q _ _ _ _ _ _ o1 o2 (fr d z) K ((wQ (sk (fr d z) pd) p).mono (bu (.inl K)))⟩
theorem FH{H:Hp}(fr:∀j,H (B+j)=none)(h:updR H B g n b=none):H b=none:=by
 cases e:H b with
 |none=>rfl
 |some o=>rw[du fr e]at h;cases h
theorem Rel.layR{K:Kx}{c:Al}{m:MSt}{σ:St}{H:Hp}{B:Addr}{g:Nat->HO}(R:Rel K c m σ H)(fr:∀j,H (B+j)=none):∀n,Rel K c m σ (updR H B g n)
 |0=>R
 |n+1=>(Rel.layR R fr n).lay (by rw[jm λj h z=>abm h (agA z)];exact fr n)
theorem IP{c:Al}{H:Hp}(fr:∀j,H (B+j)=none)(n:Nat):Frm c H (updR H B g n):=λb o e _=>du fr e
abbrev J4(w:WE):WE:=λm K=>w m λr c=>∃kvs,dcM c kvs r/\(isKd kvs=true\/kyA kvs=true)/\srtR (gG kvs) λd=>K (.new d) c
theorem IU{w:WE}(z:X.A.units+64<cLine)(G:X.mg "sorted" = none)(E:ME X o w)(D:X.calm=true:=by rfl)(u:Gl X "sorted":=by rfl)(h:abv o "items" X.env (eval o X.env)=eval o X.env:=by rfl)(c:(apos.endLine==cpos.line)=true:=by rfl)
  (e:aac [.Call (.Attribute o "items" apos) [] [] cpos] X.env=[(false,eval (.Call (.Attribute o "items" apos) [] [] cpos) X.env)]:=by rfl):ME X (.Call (.Name "sorted" p0) [.Call (.Attribute o "items" apos) [] [] cpos] [] pos) (J4 w):=(IK D z u G E h c e).wk<|by
 intro σ H Q ⟨K,m,O,A,N,f⟩;refine⟨K,m,_,A,N,λr t v P k n R rr F=>?_⟩;let⟨kvs,dk,I,y,k⟩:=k;let⟨a,rfl,dc⟩:=rr.dc R dk I;let⟨es,dc,M⟩:=dc.dcr;refine⟨a,es,kvs,rfl,dc,M,y,λd B g l L x C p fr i j=>?_⟩;have q:=Rel.layR (g:=g) R fr l;have J:=F.trans (IP (g:=g) fr l);exact f _ t _ _ (k d C p) n (q.lay i) (RelR.base R F (⟨L,x,rfl,FH fr i,aB,j⟩)) (J.trans (cu i))
theorem Ae{w:WE}(j:X.A.units+64<cLine)(e:X.mg "sorted" = none)(k:EE X o w)(i:X.calm=true:=by rfl)(f:Gl X "sorted":=by rfl)(c:abv o "items" X.env (eval o X.env)=eval o X.env:=by rfl)(h:(apos.endLine==cpos.line)=true:=by rfl)
  (d:aac [.Call (.Attribute o "items" apos) [] [] cpos] X.env=[(false,eval (.Call (.Attribute o "items" apos) [] [] cpos) X.env)]:=by rfl):EE X (.Call (.Name "sorted" p0) [.Call (.Attribute o "items" apos) [] [] cpos] [] pos) (J4 w):=⟨IU j e k.h i f c h d⟩
end
end L2
namespace L2
open PySem PySem.Spec PyProof.Rows
section
variable {X:Cx}{i:Nat}{x:Str}{e:Expr}{w:WE}{op:aeQ}{p pos:Pos}{f:Int->Int->Int}
def JQ(X:Cx)(op:aeQ)(f:Int->Int->Int):Prop:=PIp X op λx y H Q=>∃i j,x = .int i/\y = .int j/\Q (.int (f i j)) H
def K7:JQ X .Add (· + ·):=Vg
def R9:JQ X .Sub (· - ·):=SI
def wAug(i:Nat)(w:WE)(f:Int->Int->Int):WS:=λD m=>∃a:Int,m.vs[i]?=some (some (.imm (.int a)))/\w m λr c=>∃b:Int,r = .imm (.int b)/\D.nx (c.setV i (.imm (.int (f a b))))
theorem Vd(o:X.N.Nodup)(A:X.N[i]?=some x)(u:ME X e w)(h:JQ X op f)(c:X.env.scope.names.lookup x=some .local:=by rfl):MS X (.AugAssign (.Name x p) op e pos) (wAug i w f):=(SX o A (.inl c) u h (.inr c)).wk<|by
 intro D G H ⟨d,m,J,g,⟨a,s,E⟩,k⟩;let⟨v,C,t⟩:=g.var i _ s;have B:=t;refine⟨v,C,d,m,_,g,E,λr I y j ⟨b,z,q⟩ n R rr F=>?_⟩;subst z;have l:=rr;have R2:=cB (i:=i) (r:=.imm (.int (f a b))) R (show Den X.kx.toKd j (.int (f a b)) (.int (f a b)) by simp only[Den]);exact⟨a,b,B,l,k.nx d _ _ j q n R2 (.of R2 F)⟩
theorem vy(i:Nat)(b:X.N.Nodup)(a:EE X e w)(h:JQ X op f)(d:X.N[i]?=some x:=by rfl)(c:X.env.scope.names.lookup x=some .local:=by rfl):ES X (.AugAssign (.Name x p) op e pos) (wAug i w f):=⟨Vd b d a.h h c⟩
def Mj{D:iy}{m:MSt}(a:Int)(c:m.vs[i]?=some (some (.imm (.int a))))(h:w m λr d=>∃b:Int,r = .imm (.int b)/\D.nx (d.setV i (.imm (.int (f a b))))):wAug i w f D m:=⟨a,c,h⟩
end
end L2
namespace K
open PySem L2 M7 M8
variable{h:Hall}
def alk(h:Hall):Bool:=(h.ss.map Srv.d).all λd=>aaj d ((h.ss.map Srv.d).getD 0 .none)
def cZ(h:Hall)(l:List Nat):List Nat:=if alk h=true then srt l else l
def zp(h:Hall)(l:List Nat):(cZ h l).Perm l:=by
 unfold cZ;split
 .exact kL l
 .exact .refl _
def uF(h:Hall)(l:List Nat):cZ h (cZ h l)=cZ h l:=by
 unfold cZ;split
 .exact TX (qJ l)
 .rfl
theorem Br(a:alk h=true){s t:Srv}(c:s∈h.ss)(f:t∈h.ss):s.r=t.r:=by
 have one:∀s∈h.ss,aaj s.d ((h.ss.map Srv.d).getD 0 .none)=true:=λs c=>abD.mp a _ (aap.mpr ⟨s,c,rfl⟩);let⟨d,ss,e⟩:∃d ss,h.ss=d::ss:=by
  cases e:h.ss with
  |nil=>rw[e]at c;cases c
  |cons a b=>exact⟨a,b,rfl⟩
 have key:∀s∈h.ss,s.r=d.r:=λs c=>by
  have:=one s c;rw[e]at this;have q:(aaj (.tuple [.int s.a,.int s.b]) (.tuple [.int d.a,.int d.b])&&(aaj (.int (s.r:Int)) (.int (d.r:Int))&&true))=true:=this;simp only[acM,aaE]at q;rw[dJ]at q;exact of_decide_eq_true q.2
 rw[key s c,key t f]
def gi{l:List Nat}(L:Lines h l):Lines h (cZ h l):=by
 unfold cZ;split
 .rename_i a;have p:=(kL l);refine⟨p.length_eq.trans L.1,λi s x e f=>?_⟩;have d:=p.mem_iff.mp (Ld f);let⟨j,c⟩:∃j,l[j]?=some _:=aca d;have b:j<h.ss.length:=by rw[<-L.1];exact(AD.mp c).1
  have:=L.2 j _ x (mT b) c;rw[Br a (Ld e) (acq b)];exact this
 .exact L
def xi{l:List Nat}{ns:List Int}(f:ns.Perm (l.map λ(k:Nat)=>(k:Int)))(o:ns.Pairwise (· ≥ ·)):ns=(srt l).map λ(k:Nat)=>(k:Int):=by
 have c:∀x∈ns,((x.toNat:Nat):Int)=x:=λx e=>by
  let⟨k,_,rfl⟩:=aap.mp (f.mem_iff.mp e);rfl
 have j:(ns.map aeO).map (λ(k:Nat)=>(k:Int))=ns:=by
  rw[aaW]
  conv=>rhs;rw[<-ahn ns]
  exact ack λx e=>c x e
 have p:(ns.map aeO).Perm l:=by
  have:=f.map aeO;rw[aaW]at this;have m:(l.map (aeO∘λ(k:Nat)=>(k:Int)))=l:=by
   (conv=>rhs;rw[<-ahn l])
   exact ack λx _=>rfl
  rwa[m]at this
 have n:Fall (ns.map aeO):=by
  unfold Fall;rw[List.pairwise_map];refine o.imp_of_mem λ{a b} i g d=>?_;have:=c a i;have:=c b g;show b.toNat≤a.toNat;have:b≤a:=d;omega
 rw[yh n p,j]
def tz(l:List Nat):natD l=(l.map λ(k:Nat)=>(k:Int)).map .int:=by unfold natD;rw[aaW];rfl
def kst(h:Hall)(r:Rule)(l:List Nat)(m:Mv):List Nat×Wd:=(cZ h (ze h r l 0 m).1,(ze h r l 0 m).2.2)
def aw(w:Wd):Int:=if w = .away then 1 else 0
abbrev Tr:=List Nat×List Nat×Int
def bth(h:Hall)(r1 r2:Rule)(t:Tr)(m:Mv):Tr:=((kst h r1 t.1 m).1,(kst h r2 t.2.1 m).1,t.2.2+aw (kst h r2 t.2.1 m).2-aw (kst h r1 t.1 m).2)
def bad(t:Tr):Bool:=decide (t.2.2<0)||decide (((t.2.1.sum:Nat):Int)+t.2.2<((t.1.sum:Nat):Int))
def mvs(h:Hall):List Mv:=(ordK h.ss.length h.ss.length).map Mv.come++(aaL h.ss.length).map Mv.done++[.still]
def Lq(a:h.Ok):∀m∈mvs h,m.Ok h:=λm b=>by
 rcases aaG.mp b with q|q
 .obtain q|q:=aaG.mp q
  .obtain⟨o,ho',rfl⟩:=aap.mp q;let⟨e,d,c⟩:=IL _ a.n4 a.n1 o ho';exact⟨e,c,d⟩
  .obtain⟨k,hk,rfl⟩:=aap.mp q;exact ad0.mp hk
 .rw[aaf.mp q];exact trivial
inductive RcT(h:Hall)(r1 r2:Rule):Tr->Prop
 |here:RcT h r1 r2 (zer h,zer h,0)
 |next {t:Tr}{m:Mv}:RcT h r1 r2 t->m∈mvs h->RcT h r1 r2 (bth h r1 r2 t m)
structure Nvr(h:Hall)(r1 r2:Rule)(P:List Tr):Prop where
 b0:(zer h,zer h,0)∈P
 nb:∀t∈P,bad t=false
 cl:∀t∈P,∀m∈mvs h,∃u∈P,u.1=(bth h r1 r2 t m).1/\u.2.1=(bth h r1 r2 t m).2.1/\u.2.2≤(bth h r1 r2 t m).2.2
def trD(t:Tr):aD:=.tuple [lnD t.1,lnD t.2.1,.int t.2.2]
structure TrOk(h:Hall)(t:Tr):Prop where
 x:Lines h t.1
 y:Lines h t.2.1
 kx:cZ h t.1=t.1
 ky:cZ h t.2.1=t.2.1
 d0:0≤t.2.2
 d1:t.2.2<10^15
end K
namespace K
open PySem L2 M7
def lexN:List Nat->List Nat->Bool
 |x::xs,y::ys=>if x=y then lexN xs ys else decide (x<y)
 |_,_=>false
theorem xr:∀a:List Nat,lexN a a=false
 |[]=>rfl
 |x::xs=>by show(if x=x then lexN xs xs else _)=false;rw[if_pos rfl];exact xr xs
theorem Au:∀{a b c:List Nat},a.length=b.length->b.length=c.length->lexN a b=true->lexN b c=true->lexN a c=true
 |[],[],_,_,_,h,_=>by cases h
 | x::a,y::b,z::c,h1,h2,h,h'=>by
  have f:(if x=y then lexN a b else decide _)=true:=h;have d:(if y=z then lexN b c else decide _)=true:=h';show(if x=z then lexN a c else decide _)=true
  by_cases g:x=y
  .subst g;rw[if_pos rfl]at f
   by_cases e:x=z
   .rw[if_pos e]at d⊢;exact Au (by simpa using h1) (by simpa using h2) f d
   .rw[if_neg e]at d⊢;exact d
  .grind
theorem yi:∀{a b:List Nat},a.length=b.length->a≠b->lexN a b=true\/lexN b a=true
 |[],[],_,h=>(h rfl).elim
 | x::a,y::b,hl,h=>by
  show(if x=y then lexN a b else decide _)=true\/(if y=x then lexN b a else decide _)=true
  by_cases e:x=y
  .subst e;rw[if_pos rfl,if_pos rfl];exact yi (by simpa using hl) λz=>h (by rw[z])
  .rw[if_neg e,if_neg (abx e)];rcases aeV e with z|z
   .exact .inl (decide_eq_true z)
   .exact .inr (decide_eq_true z)
theorem vV:∀{a b:List Nat},a.length=b.length->ltDs (natD a) (natD b)=lexN a b
 |[],[],_=>rfl
 |x::a,y::b,h=>by
  show(if aaj _ _=true then ltDs (natD a) (natD b)else decide _)=if x=y then lexN a b else decide _;rw[dJ,vV (by simpa using h)];simp
end K
namespace K
open PySem L2 M7 M8
variable{h:Hall}{L:List (Pk×Int)}{a:Pk}{r1 r2:Rule}{t:Tr}{α:Type}
abbrev Pk:=List Nat×List Nat
def pkD(p:Pk):aD:=.tuple [lnD p.1,lnD p.2]
def ldD(L:List (Pk×Int)):List (aD×aD):=L.map λq=>(pkD q.1,.int q.2)
def mQ(a b:List Nat):aaj (lnD a) (lnD b)=decide (a=b):=by
 have:=V3 (a,0) (b,0);have e:aaj (ptD (a,0)) (ptD (b,0))=aaj (lnD a) (lnD b):=by
  show(aaj (lnD a) (lnD b)&&(aaj (.int 0) (.int 0)&&true))=_;rw[show aaj (.int 0) (.int 0)=true from rfl,acp,acM]
 rw[<-e,this];simp
def wN(p q:Pk):aaj (pkD p) (pkD q)=decide (p=q):=by
 show(aaj (lnD p.1) (lnD q.1)&&(aaj (lnD p.2) (lnD q.2)&&true))=_;rw[mQ,mQ,acM,abX];simp[Prod.ext_iff]
def setL(a:Pk)(v:Int):List (Pk×Int)->List (Pk×Int)
 |[]=>[(a,v)]
 |q::L=>if q.1=a then(q.1,v)::L else q::setL a v L
theorem KU(a:Pk)(v:Int):∀L:List (Pk×Int),putP (pkD a) (.int v) (ldD L)=ldD (setL a v L)
 |[]=>rfl
 |q::L=>by
  show(if aaj (pkD q.1) (pkD a)=true then _ else _::putP (pkD a) (.int v) (ldD L))=ldD (if q.1=a then(q.1,v)::L else q::setL a v L);rw[wN]
  by_cases e:q.1=a
  .rw[if_pos (decide_eq_true e),if_pos e];rfl
  .rw[if_neg (by rw[decide_eq_false e];exact aai),if_neg e,KU a v L];rfl
theorem jv{a:Pk}{v:Int}:∀{L:List (Pk×Int)}{p:Pk×Int},p∈setL a v L->p=(a,v)\/p∈L
 |[],p,h=>.inl (aaf.mp h)
 | q::L,p,h=>by
  unfold setL at h
  split at h
  .rename_i e;rcases aae.mp h with z|z
   .rw[z,e];exact .inl rfl
   .exact .inr (aab _ z)
  .rcases aae.mp h with z|z
   .rw[z];exact .inr aaa
   .exact(jv z).imp id λy=>aab _ y
theorem Vf{p:Pk}(g:h.Ok)(f:Lines h p.1)(c:Lines h p.2):kyD (pkD p)=true:=by
 have n:∀l:List Nat,hkA (natD l)=true:=λl=>by
  induction l with
  |nil=>rfl
  |cons x l i=>show(hkD _&&hkA (natD l))=true;rw[i];rfl
 have s:=bF (k:=1) (ds:=[lnD p.1,lnD p.2]) λd hd=>by
  rcases aae.mp hd with e|e
  .rw[e];exact bF (cN _)
  .rw[aaf.mp e];exact bF (cN _)
 have b:hkD (pkD p)=true:=by
  show(hkD (lnD p.1)&&(hkD (lnD p.2)&&true))=true;rw[show hkD (lnD p.1)=true from n p.1,show hkD (lnD p.2)=true from n p.2];rfl
 unfold kyD;rw[b,show(pkD p).canLay0=true from s.cl,decide_eq_true (show(pkD p).depth≤7 from aax s.dp (by decide))];rfl
def Ve(c:h.Ok)(X:∀p∈L,Lines h p.1.1/\Lines h p.1.2):kyA (ldD L)=true:=by
 unfold kyA ldD;rw[aea,abD];exact λp b=>Vf c (X p b).1 (X p b).2
def jk:cZ h (zer h)=zer h:=List.perm_replicate.mp (zp h (zer h))
def lkL(a:Pk):List (Pk×Int)->Option Int
 |[]=>none
 |q::L=>if q.1=a then some q.2 else lkL a L
theorem QT(a:Pk):∀L:List (Pk×Int),d8 (pkD a) (ldD L)=(lkL a L).map .int
 |[]=>rfl
 |q::L=>by
  show(if aaj (pkD q.1) (pkD a)=true then some (ab4 q.2)else d8 (pkD a) (ldD L))=(if q.1=a then some q.2 else lkL a L).map .int;rw[wN]
  by_cases e:q.1=a
  .rw[if_pos (decide_eq_true e),if_pos e];rfl
  .rw[if_neg (by rw[decide_eq_false e];exact aai),if_neg e];exact QT a L
def smL(L:List (Pk×Int)):Nat:=(L.map λq=>q.2.toNat).sum
theorem ux{a:Pk}{v:Int}:∀{L:List (Pk×Int)},lkL a L=none->setL a v L=L++[(a,v)]
 |[],_=>rfl
 |q::L,h=>by
  unfold lkL at h;unfold setL
  split at h
  .cases h
  .rename_i e;rw[if_neg e,ux h];rfl
theorem ue{a:Pk}{v w:Int}:∀{L:List (Pk×Int)},lkL a L=some w->smL (setL a v L)+w.toNat=smL L+v.toNat/\(setL a v L).length=L.length/\(setL a v L).map (·.1)=L.map (·.1)
 |q::L,h=>by
  unfold lkL at h;unfold setL
  split at h
  .rename_i e;cases h;rw[if_pos e];refine⟨?_,rfl,rfl⟩;simp only[smL,aah,abC];omega
  .rename_i e;let⟨c,d,b⟩:=ue (v:=v) h;rw[if_neg e];refine⟨?_,by simp[d],by simp[b]⟩;simp only[smL,aah,abC]at c⊢;omega
theorem K8{a:Pk}:∀{L:List (Pk×Int)},lkL a L=none->a∉L.map (·.1)
 |[],_,h=>by cases h
 | q::L,e,h=>by
  unfold lkL at e
  split at e
  .cases e
  .rename_i n;rcases aae.mp h with z|z
   .exact n z.symm
   .exact K8 e z
theorem vv{a:Pk}{w:Int}:∀{L:List (Pk×Int)},lkL a L=some w->(a,w)∈L
 |q::L,e=>by
  unfold lkL at e
  split at e
  .rename_i n;cases e;rw[<-n];exact aaa
  .exact aab _ (vv e)
structure DkOk(h:Hall)(L:List (Pk×Int)):Prop where
 nd:(L.map (·.1)).Nodup
 ln:∀p∈L,Lines h p.1.1/\Lines h p.1.2
 nn:∀p∈L,0≤p.2
 kp:∀p∈L,cZ h p.1.1=p.1.1/\cZ h p.1.2=p.1.2
def nP(h:Hall):Nat:=(M3.allR h.rs).length*(M3.allR h.rs).length
theorem DkOk.len(D:DkOk h L):L.length≤nP h:=by
 have:=jt D.nd (m:=(M3.allR h.rs).flatMap λl=>(M3.allR h.rs).map λk=>(l,k)) λy d=>by
  let⟨p,c,rfl⟩:=aap.mp d;exact ab3.mpr ⟨p.1.1,jh (D.ln p c).1.fits,aap.mpr ⟨p.1.2,jh (D.ln p c).2.fits,rfl⟩⟩
 rw[iO]at this;refine aax this (afJ ?_);unfold nP;generalize M3.allR h.rs=A;have:∀B:List (List Nat),(B.flatMap λl=>A.map λk=>(l,k)).length=B.length*A.length:=λB=>by
  induction B with
  |nil=>simp
  |cons b B i=>rw[List.flatMap_cons,aal,i,iO,aaq,aeK,Nat.add_comm]
 exact this A
def pot(h:Hall)(M:Nat)(L:List (Pk×Int)):Nat:=smL L+(nP h-L.length)*(M+2)
theorem DkOk.put{M:Nat}{v:Int}(D:DkOk h L)(j:Lines h a.1)(l:Lines h a.2)(m:cZ h a.1=a.1/\cZ h a.2=a.2)(f:0≤v)(C:v≤(M:Int)+1)(d:v<(lkL a L).getD (v+1)):DkOk h (setL a v L)/\pot h M (setL a v L)+1≤pot h M L/\((setL a v L).length=L.length->∃w,(a,w)∈L/\v<w)/\L.length≤(setL a v L).length:=by
 cases e:lkL a L with
 | none=>
  have u:=ux (v:=v) e;have i:DkOk h (L++[(a,v)]):=by
   refine⟨?_,λp b=>?_,λp b=>?_,λp b=>?_⟩
   .rw[aaw];exact acF.mpr ⟨D.nd,acT _ _,λx g y r z=>K8 e (by have:=z.trans (aaf.mp r);rw[show x=a from this]at g;exact g)⟩
   .rcases aaG.mp b with z|z
    .exact D.ln p z
    .rw[aaf.mp z];exact⟨j,l⟩
   .rcases aaG.mp b with z|z
    .exact D.nn p z
    .rw[aaf.mp z];exact f
   .rcases aaG.mp b with z|z
    .exact D.kp p z
    .rw[aaf.mp z];exact m
  have le:=i.len;rw[u];refine⟨i,?_,λz=>?_,by simp⟩
  .rw[aal]at le;have q:L.length+1≤nP h:=le;unfold pot;rw[aal,show smL (L++[(a,v)])=smL L+v.toNat by simp[smL]];let⟨k,B⟩:∃k,nP h=L.length+1+k:=⟨nP h-(L.length+1),by omega⟩;rw[B,show L.length+1+k-(L.length+[(a,v)].length)=k by simp,show L.length+1+k-L.length=k+1 by omega,aeK];omega
  .simp at z
 | some w=>
  rw[e]at d;have c:v<w:=d;let⟨E,n,s⟩:=ue (v:=v) e;have o:=vv e;have A:=D.nn _ o;refine⟨⟨by rw[s];exact D.nd,λp b=>?_,λp b=>?_,λp b=>?_⟩,?_,λ_=>⟨w,o,c⟩,afJ n.symm⟩
  .rcases jv b with z|z
   .rw[z];exact⟨j,l⟩
   .exact D.ln p z
  .rcases jv b with z|z
   .rw[z];exact f
   .exact D.nn p z
  .rcases jv b with z|z
   .rw[z];exact m
   .exact D.kp p z
  .unfold pot;rw[n];dsimp only at A;omega
def ul(b:h.Ok)(d:r1.Ok h)(c:r2.Ok h)(n1:r1≠.turns)(n2:r2≠.turns){m:Mv}(R:Lines h t.1/\Lines h t.2.1)(e:m∈mvs h):Lines h (bth h r1 r2 t m).1/\Lines h (bth h r1 r2 t m).2.1:=by
 have o:=Lq b _ e;exact⟨gi (sg b d (t:=0) ⟨R.1,λz=>(n1 z).elim,by decide⟩ o).ln,gi (sg b c (t:=0) ⟨R.2,λz=>(n2 z).elim,by decide⟩ o).ln⟩
theorem lH(c:h.Ok)(b:r1.Ok h)(d:r2.Ok h)(n1:r1≠.turns)(n2:r2≠.turns)(R:RcT h r1 r2 t):Lines h t.1/\Lines h t.2.1:=by
 induction R with
 |here=>exact⟨(jn c r1).ln,(jn c r1).ln⟩
 |next _ e i=>exact ul c b d n1 n2 i e
def Sx{m:Mv}:(bth h r1 r2 t m).2.2≤t.2.2+1:=by
 unfold bth aw;dsimp only
 split<;>split<;>omega
def SY(b:bad t=false):0≤t.2.2:=by
 unfold bad at b;simp at b;exact b.1
def ldT(L:List (Pk×Int)):List Tr:=L.map λp=>(p.1.1,p.1.2,p.2)
def W4(D:DkOk h L)(V:∀p∈L,p.2≤1000000):∀t∈ldT L,TrOk h t:=λt c=>by
 let⟨p,b,rfl⟩:=aap.mp c;have v:=V p b;exact⟨(D.ln p b).1,(D.ln p b).2,(D.kp p b).1,(D.kp p b).2,D.nn p b,show p.2<10^15 by omega⟩
theorem xX:∀{L:List (Pk×Int)},(L.map (·.1)).Nodup->∀p∈L,lkL p.1 L=some p.2
 |q::L,nd,p,b=>by
  rw[aah,aa5]at nd;unfold lkL;rcases aae.mp b with rfl|b
  .rw[if_pos rfl]
  .rw[if_neg λz=>nd.1 (by rw[z];exact aap.mpr ⟨p,b,rfl⟩)];exact xX nd.2 p b
def stT(h:Hall):Tr:=(zer h,zer h,0)
def wlk(h:Hall)(r1 r2:Rule)(R:List Mv):Tr:=R.foldl (bth h r1 r2) (stT h)
def RunK(h:Hall)(R:List Mv):Prop:=∀m∈R,m∈mvs h
section
variable {h:Hall}{r1 r2:Rule}{R:List Mv}{m:Mv}{t u:Tr}{L:List (Pk×Int)}
def jg:wlk h r1 r2 (R++[m])=bth h r1 r2 (wlk h r1 r2 R) m:=by unfold wlk;rw[ag7];rfl
def RunK.snoc(k:RunK h R)(c:m∈mvs h):RunK h (R++[m]):=λx b=>by
 rcases aaG.mp b with z|z
 .exact k x z
 .rwa[aaf.mp z]
def RunK.cut(k:RunK h (R++[m])):RunK h R/\m∈mvs h:=⟨λx b=>k x (abB _ b),k m (aaJ _ aaa)⟩
structure LeT(u t:Tr):Prop where
 x:u.1=t.1
 y:u.2.1=t.2.1
 d:u.2.2≤t.2.2
def LeT.refl(t:Tr):LeT t t:=⟨rfl,rfl,Int.le_refl _⟩
def LeT.trans{v:Tr}(a:LeT u t)(b:LeT t v):LeT u v:=⟨a.x.trans b.x,a.y.trans b.y,aeM a.d b.d⟩
theorem LeT.bth(a:LeT u t):LeT (bth h r1 r2 u m) (bth h r1 r2 t m):=by
 unfold K.bth;have:=a.d;refine⟨by rw[a.x],by rw[a.y],?_⟩;dsimp only;rw[a.x,a.y];omega
def LeT.good(a:LeT u t)(b:bad u=false):bad t=false:=by
 have:=a.d;unfold bad at b⊢;rw[a.x,a.y]at b;simp only[aeq,decide_eq_false_iff_not]at b⊢;omega
def wR:bad (stT h)=false:=by
 unfold bad stT;simp
def Cv(L:List (Pk×Int))(t:Tr):Prop:=∃p∈L,LeT (p.1.1,p.1.2,p.2) t
theorem rH{a:Pk}{v:Int}:∀L:List (Pk×Int),(a,v)∈setL a v L
 |[]=>aaa
 |q::L=>by
  unfold setL;split
  .rename_i e;rw[<-e];exact aaa
  .exact aab _ (rH L)
theorem tJ{a:Pk}{v:Int}{p:Pk×Int}(n:p.1≠a):∀{L:List (Pk×Int)},p∈L->p∈setL a v L
 | q::L,b=>by
  unfold setL;rcases aae.mp b with rfl|b
  .rw[if_neg n];exact aaa
  .split
   .exact aab _ b
   .exact aab _ (tJ n b)
def Cv.set{v:Int}(c:Cv L t)(D:DkOk h L)(f:v<(lkL a L).getD (v+1)):Cv (setL a v L) t:=by
 let⟨p,g,b⟩:=c
 by_cases e:p.1=a
 .have el:=xX D.nd p g;rw[e]at el;rw[el]at f;have f:v<p.2:=f;refine⟨(a,v),rH L,?_⟩;have d:p.2≤t.2.2:=b.d;subst e;exact⟨b.x,b.y,show v≤t.2.2 by omega⟩
 .exact⟨p,tJ e g,b⟩
def Yr{w:Int}(e:lkL a L=some w)(b:w≤t.2.2)(c:a=(t.1,t.2.1)):Cv L t:=⟨_,vv e,by subst c;exact⟨rfl,rfl,b⟩⟩
def Min(h:Hall)(r1 r2:Rule)(n:Nat):Prop:=∀R,RunK h R->R.length<n->bad (wlk h r1 r2 R)=false
def Ga(h:Hall)(r1 r2:Rule):Prop:=∀R,RunK h R->bad (wlk h r1 r2 R)=false
def Cov(h:Hall)(r1 r2:Rule)(k:Nat):Prop:=∃A:List Pk,A.length≤k/\∀R,RunK h R->((wlk h r1 r2 R).1,(wlk h r1 r2 R).2.1)∈A
theorem Df(k:RunK h R):RcT h r1 r2 (wlk h r1 r2 R):=by
 have go:∀(R:List Mv) (t:Tr),RunK h R->RcT h r1 r2 t->RcT h r1 r2 (R.foldl (bth h r1 r2) t):=λR=>by
  induction R with
  |nil=>exact λt _ q=>q
  |cons m R i=>exact λt k q=>i _ (λx b=>k x (aab _ b)) (.next q (k m aaa))
 exact go R _ k .here
theorem IE(R:List Mv):cZ h (wlk h r1 r2 R).1=(wlk h r1 r2 R).1/\cZ h (wlk h r1 r2 R).2.1=(wlk h r1 r2 R).2.1:=by
 have go:∀(R:List Mv) (t:Tr),cZ h t.1=t.1/\cZ h t.2.1=t.2.1->cZ h (R.foldl (bth h r1 r2) t).1=(R.foldl (bth h r1 r2) t).1/\cZ h (R.foldl (bth h r1 r2) t).2.1=(R.foldl (bth h r1 r2) t).2.1:=λR=>by
  induction R with
  |nil=>exact λt q=>q
  |cons m R i=>exact λt q=>i _ ⟨uF h _,uF h _⟩
 exact go R _ ⟨jk,jk⟩
theorem OA:∀{R:List α},R≠[]->∃b m,R=b++[m]:=λ{R} h=>⟨R.dropLast,R.getLast h,(List.dropLast_concat_getLast h).symm⟩
end
abbrev Wy:=Option (Nat×Mv)
def CvD(T:List Tr)(P:List (List Mv))(d:Nat)(u:Tr):Prop:=∃(j:Nat) (p:List Mv) (t:Tr),P[j]?=some p/\T[j]?=some t/\p.length≤d/\LeT t u
def dm{l m:List α}{x:α}{k:Nat}(e:l[k]?=some x):(l++m)[k]?=some x:=by rw[aaD (AD.mp e).1];exact e
section
variable {h:Hall}{r1 r2:Rule}{L L':List (Pk×Int)}{T:List Tr}{Y:List Wy}{P:List (List Mv)}{C i j:Nat}{m:Mv}{p:List Mv}{t u:Tr}
theorem CvD.le{d d':Nat}(c:CvD T P d u)(hd:d≤d')(a:LeT u t):CvD T P d' t:=let ⟨j,p,x,e1,e2,e3,b⟩:=c;⟨j,p,x,e1,e2,aax e3 hd,b.trans a⟩
theorem CvD.snoc{d:Nat}{x:Tr}{y:List Mv}(c:CvD T P d u):CvD (T++[x]) (P++[y]) d u:=let ⟨j,p,t,e1,e2,e3,b⟩:=c;⟨j,p,t,dm e1,dm e2,e3,b⟩
structure Qv(h:Hall)(r1 r2:Rule)(C:Nat)(L:List (Pk×Int))(T:List Tr)(Y:List Wy)(P:List (List Mv))(i j:Nat):Prop where
 dk:DkOk h L
 lt:T.length=P.length
 ly:Y.length=P.length
 tr:∀(k:Nat) (p:List Mv),P[k]?=some p->RunK h p/\T[k]?=some (wlk h r1 r2 p)
 wy:∀(k:Nat) (p:List Mv),P[k]?=some p->(p=[]/\Y[k]?=some none)\/∃(a:Nat) (m:Mv) (q:List Mv),a<k/\P[a]?=some q/\p=q++[m]/\Y[k]?=some (some (a,m))
 mo:∀(k l:Nat) (p q:List Mv),P[k]?=some p->P[l]?=some q->k≤l->p.length≤q.length
 cv:∀t∈T,Cv L t
 dl:∀x∈L,(x.1.1,x.1.2,x.2)∈T
 gd:∀t∈T,bad t=false
 p0:P[0]?=some []
 vt:∀t∈T,t.2.2≤(L.length:Int)
 pt:T.length+pot h (nP h) L≤C
 ex:∀(k:Nat) (p:List Mv) (m:Mv),k<i->P[k]?=some p->m∈mvs h->bad (wlk h r1 r2 (p++[m]))=false/\CvD T P (p.length+1) (wlk h r1 r2 (p++[m]))
 ej:∀(k:Nat) (p:List Mv) (m:Mv),k<j->P[i]?=some p->(mvs h)[k]?=some m->bad (wlk h r1 r2 (p++[m]))=false/\CvD T P (p.length+1) (wlk h r1 r2 (p++[m]))
 dp:∀(k:Nat) (p q:List Mv),P[i]?=some p->P[k]?=some q->q.length≤p.length+1
theorem Qv.zero(d:h.Ok):Qv h r1 r2 (1+pot h (nP h) [((zer h,zer h),0)]) [((zer h,zer h),0)] [stT h] [none] [[]] 0 0:=by
 have one:∀{α:Type}{x y:α}{k:Nat},[x][k]?=some y->y=x/\k=0:=λ{α x y k} e=>by
  cases k with
  |zero=>cases e;exact⟨rfl,rfl⟩
  |succ k=>simp at e
 exact {
  dk:=⟨acT _ _,λp c=>by rw[aaf.mp c];exact⟨(jn d r1).ln,(jn d r1).ln⟩,λp c=>by rw[aaf.mp c];exact Int.le_refl _,λp c=>by rw[aaf.mp c];exact⟨jk,jk⟩⟩
  lt:=rfl
  ly:=rfl
  tr:=λk p e=>by let⟨rfl,rfl⟩:=one e;exact⟨(λ_ z=>(by cases z)),rfl⟩
  wy:=λk p e=>by let⟨rfl,rfl⟩:=one e;exact .inl ⟨rfl,rfl⟩
  mo:=λk l p q f g _=>by let⟨rfl,_⟩:=one f;exact abw _
  cv:=λt b=>⟨_,aaa,by rw[aaf.mp b];exact .refl _⟩
  dl:=λx n=>by rw[aaf.mp n];exact aaa
  gd:=λt b=>by rw[aaf.mp b];exact wR
  p0:=rfl
  vt:=λt b=>by rw[aaf.mp b];exact(by decide:(0:Int)≤1)
  pt:=Mt _
  ex:=λk p m z=>(by cases z)
  ej:=λk p m z=>(by cases z)
  dp:=λk p q f g=>by let⟨rfl,_⟩:=one g;exact abw _}
def Qv.here(X:Qv h r1 r2 C L T Y P i j)(b:T[i]?=some t):∃p,P[i]?=some p/\RunK h p/\t=wlk h r1 r2 p:=by
 have d:i<P.length:=by rw[<-X.lt];exact(AD.mp b).1
 have c:=mT d;let⟨k,e⟩:=X.tr i _ c;rw[b]at e;exact⟨_,c,k,aar e⟩
theorem Qv.runs(X:Qv h r1 r2 C L T Y P i j){N:Nat}(d:∀k q,P[k]?=some q->q.length<N->k<i):∀n R,R.length=n->n≤N->RunK h R->bad (wlk h r1 r2 R)=false/\CvD T P n (wlk h r1 r2 R)
 |0,R,l,_,_=>by
  rw[abr l];exact⟨wR,0,[],_,X.p0,(X.tr 0 [] X.p0).2,Mt _,.refl _⟩
 |n+1,R,l,hn,k=>by
  let⟨f,m,rfl⟩:=OA (R:=R) (λz=>by rw[z]at l;cases l);let⟨o,s⟩:=k.cut;let⟨_,a,q,t,e,r,v,b⟩:=X.runs d n f (by simpa using l) (by omega) o;let⟨x,y⟩:=X.ex a q m (d a q e (by omega)) e s;have g:=(X.tr a q e).2;rw[r]at g;cases g;have c:LeT (wlk h r1 r2 (q++[m])) (wlk h r1 r2 (f++[m])):=by rw[jg,jg];exact b.bth
  exact⟨c.good x,y.le (by omega) c⟩
def Qv.min(X:Qv h r1 r2 C L T Y P i j)(b:P[i]?=some p):Min h r1 r2 (p.length+1):=λR k l=>(X.runs (N:=p.length) (λk q e z=>by
 rcases Nat.lt_or_ge k i with y|y
 .exact y
 .have:=X.mo i k p q b e y;omega) _ R rfl (by omega) k).1
def Qv.done(X:Qv h r1 r2 C L T Y P i j)(b:T.length≤i){R:List Mv}(k:RunK h R):bad (wlk h r1 r2 R)=false/\CvD T P R.length (wlk h r1 r2 R):=X.runs (N:=R.length) (λk q e _=>by
 have:=(AD.mp e).1;have:=X.lt;omega) _ R rfl (Mt _) k
def Qv.next(X:Qv h r1 r2 C L T Y P i (mvs h).length):Qv h r1 r2 C L T Y P (i+1) 0:={X with
 ex:=λk p m o e b=>by
  by_cases z:k<i
  .exact X.ex k p m z e b
  .have:k=i:=by omega
   subst this;let⟨l,f⟩:=aca b;exact X.ej l p m (AD.mp f).1 e f
 ej:=λ_ _ _ z=>(by cases z)
 dp:=λk p q c n=>by
  have g:i<P.length:=by have:=(AD.mp c).1;omega
  have d:=mT g;have:=X.dp k _ q d n;have:=X.mo i (i+1) _ p d c (by omega);omega}
theorem Qv.old(X:Qv h r1 r2 C L T Y P i j)(f:P[i]?=some p)(q:(mvs h)[j]?=some m)(b:bad (wlk h r1 r2 (p++[m]))=false)(c:Cv L (wlk h r1 r2 (p++[m]))):Qv h r1 r2 C L T Y P i (j+1):={X with
 ej:=λk o r v e d=>by
  by_cases z:k<j
  .exact X.ej k o r z e d
  .have:k=j:=by omega
   subst this;rw[f]at e;rw[q]at d
   cases e;cases d
   let⟨x,s,a⟩:=c;let⟨l,g⟩:=aca (X.dl x s);have n:l<P.length:=by rw[<-X.lt];exact(AD.mp g).1
   exact⟨b,l,_,_,mT n,g,X.dp l p _ f (mT n),a⟩}
def dt{l:List α}{x y:α}{k:Nat}(e:(l++[x])[k]?=some y):l[k]?=some y\/(k=l.length/\y=x):=by
 rw[List.getElem?_append]at e
 split at e
 .exact .inl e
 .have hk:=(AD.mp e).1;simp at hk;have:k=l.length:=by omega
  subst this;simp at e;exact .inr ⟨rfl,e.symm⟩
def qX{l:List α}{x:α}:(l++[x])[l.length]?=some x:=by simp
theorem Qv.new(X:Qv h r1 r2 C L T Y P i j)(R:h.Ok)(B:r1.Ok h)(A:r2.Ok h)(n1:r1≠.turns)(n2:r2≠.turns)(f:P[i]?=some p)(H:(mvs h)[j]?=some m)(r:u=wlk h r1 r2 (p++[m]))(b:bad u=false)(G:u.2.2<(lkL (u.1,u.2.1) L).getD (u.2.2+1)):Qv h r1 r2 C (setL (u.1,u.2.1) u.2.2 L) (T++[u]) (Y++[some (i,m)]) (P++[p++[m]]) i (j+1):=by
 have S:=Ld H;let⟨kp,Q⟩:=X.tr i p f;have kr:=kp.snoc S;have s:=lH R B A n1 n2 (Df (r1:=r1) (r2:=r2) kr);have K:=IE (h:=h) (r1:=r1) (r2:=r2) (p++[m]);rw[<-r]at s K;have N:=SY b;have V:u.2.2≤(L.length:Int)+1:=by
  rw[r,jg];exact aeM Sx (Int.add_le_add_right (X.vt _ (Ld Q)) 1)
 have U:=X.dk.len;let⟨D,pt,q,le⟩:=X.dk.put (M:=nP h) (a:=(u.1,u.2.1)) s.1 s.2 K N (by omega) G;have O:u.2.2≤((setL (u.1,u.2.1) u.2.2 L).length:Int):=by
  by_cases e:(setL (u.1,u.2.1) u.2.2 L).length=L.length
  .obtain⟨w,hw,vw⟩:=q e;have:=X.vt _ (X.dl _ hw);dsimp only at this;omega
  .omega
 have J:i<P.length:=(AD.mp f).1;exact {
  dk:=D
  lt:=by rw[aal,aal,X.lt];rfl
  ly:=by rw[aal,aal,X.ly];rfl
  tr:=λk q e=>by
   rcases dt e with e|⟨rfl,rfl⟩
   .exact(X.tr k q e).imp id dm
   .exact⟨kr,by rw[<-X.lt,<-r];exact qX⟩
  wy:=λk q e=>by
   rcases dt e with e|⟨rfl,rfl⟩
   .rcases X.wy k q e with⟨z1,z2⟩|⟨a,o,n,z1,z2,z3,z4⟩
    .exact .inl ⟨z1,dm z2⟩
    .exact .inr ⟨a,o,n,z1,dm z2,z3,dm z4⟩
   .exact .inr ⟨i,m,p,J,dm f,rfl,by rw[<-X.ly];exact qX⟩
  mo:=λk l q n d c y=>by
   rcases dt d with d|⟨rfl,rfl⟩
   .rcases dt c with c|⟨rfl,rfl⟩
    .exact X.mo k l q n d c y
    .have:=X.dp k p q f d;rw[aal];exact this
   .rcases dt c with c|⟨rfl,rfl⟩
    .have:=(AD.mp c).1;omega
    .exact Mt _
  cv:=λt g=>by
   rcases aaG.mp g with z|z
   .exact(X.cv t z).set X.dk G
   .rw[aaf.mp z];exact⟨_,rH L,.refl _⟩
  dl:=λx v=>by
   rcases jv v with rfl|v
   .exact aaJ _ aaa
   .exact abB _ (X.dl x v)
  gd:=λt g=>by
   rcases aaG.mp g with z|z
   .exact X.gd t z
   .rw[aaf.mp z];exact b
  p0:=dm X.p0
  vt:=λt g=>by
   rcases aaG.mp g with z|z
   .have:=X.vt t z;omega
   .rw[aaf.mp z];exact O
  pt:=by rw[aal,agg];have:=X.pt;omega
  ex:=λk q o I e E=>by
   rcases dt e with e|⟨rfl,rfl⟩
   .exact(X.ex k q o I e E).imp id .snoc
   .omega
  ej:=λk q o I e F=>by
   rcases dt e with e|⟨z,rfl⟩
   .by_cases z:k<j
    .exact(X.ej k q o z e F).imp id .snoc
    .have:k=j:=by omega
     subst this;rw[f]at e;rw[H]at F
     cases e;cases F
     rw[<-r];exact⟨b,P.length,p++[m],u,qX,by rw[<-X.lt];exact qX,by simp,.refl _⟩
   .omega
  dp:=λk q n d c=>by
   rcases dt d with d|⟨z,rfl⟩
   .rw[f]at d;cases d;rcases dt c with c|⟨rfl,rfl⟩
    .exact X.dp k p n f c
    .simp
   .omega}
theorem Qv.dep(X:Qv h r1 r2 C L T Y P i j):∀(k:Nat) (p:List Mv),P[k]?=some p->p.length≤k:=λk=>by
 induction k using Nat.strongRecOn with
 |ind k b=>
  intro p e;rcases X.wy k p e with⟨rfl,_⟩|⟨a,m,q,l,c,rfl,_⟩
  .exact abw _
  .have:=b a l q c;rw[aal];simp only[agg];omega
theorem Qv.nvr(X:Qv h r1 r2 C L T Y P i j)(G:T.length≤i){Z:List Tr}(s:Z.Perm (ldT L)):Nvr h r1 r2 Z:=by
 have g:∀{t:Tr},t∈Z->∃x∈L,t=(x.1.1,x.1.2,x.2):=λ{t} f=>by
  let⟨x,d,e⟩:=aap.mp (s.mem_iff.mp f);exact⟨x,d,e.symm⟩
 have n:∀{x:Pk×Int},x∈L->(x.1.1,x.1.2,x.2)∈Z:=λ{x} d=>s.mem_iff.mpr (aap.mpr ⟨x,d,rfl⟩);refine⟨?_,λt f=>?_,λt f m B=>?_⟩
 .obtain⟨x,d,b⟩:=X.cv (stT h) (Ld (X.tr 0 [] X.p0).2);have F:=X.dk.nn x d;have E:x.2≤0:=b.d;have:(x.1.1,x.1.2,x.2)=(zer h,zer h,(0:Int)):=aeU b.x (aeU b.y (show x.2=0 by omega));rw[<-this];exact n d
 .obtain⟨x,d,rfl⟩:=g f;exact X.gd _ (X.dl x d)
 .obtain⟨x,d,rfl⟩:=g f;let⟨k,o⟩:=aca (X.dl x d);have D:=(AD.mp o).1;have r:=mT (show k<P.length by rw[<-X.lt];exact D);have v:=(X.tr k _ r).2;rw[o]at v;have:=(X.ex k _ m (by omega) r B).2;rw[jg,<-aar v]at this;let⟨l,q,A,H,z,_,b⟩:=this;let⟨y,w,c⟩:=X.cv A (Ld z);exact⟨_,n w,c.x.trans b.x,c.y.trans b.y,aeM c.d b.d⟩
theorem Qv.keys(X:Qv h r1 r2 C L T Y P i j){k:Nat}(c:Cov h r1 r2 k):L.length≤k:=by
 let⟨A,q,f⟩:=c;have:=jt X.dk.nd (m:=A) λa g=>by
  let⟨x,d,rfl⟩:=aap.mp g;let⟨l,b⟩:=aca (X.dl x d);have n:=(AD.mp b).1;have o:=mT (show l<P.length by rw[<-X.lt];exact n);let⟨k,e⟩:=X.tr l _ o;rw[b]at e;have:=f _ k;rw[<-aar e]at this;exact this
 rw[iO]at this;omega
end
end K
namespace K
open PySem L2 M7
variable{n:Nat}{w x:Str}{ws:List Str}
def qp(n:Nat):(fig n).cps.toList=(afY 10 n).map Char.toNat:=PySem.W.KIN.signs_num n
def vK(n:Nat):∀c∈(fig n).cps.toList,48≤c/\c≤57:=λc d=>by
 rw[qp]at d;rcases aap.mp d with⟨f,h,e⟩;have r:=Nat.isDigit_of_mem_toDigits (by decide) (by decide) h;rw[<-e];simp[Char.isDigit]at r;have i:f.val.toNat=f.toNat:=rfl;let⟨r1,g⟩:=r;have a:=afZ.mp r1;have b:=afZ.mp g;exact⟨a,b⟩
theorem RF:∀m:Nat,1≤m->∃c r,afY 10 m=c::r/\c≠'0':=by
 intro m
 induction m using Nat.strongRecOn with|_ m i=>
  intro f
  by_cases h:m<10
  .have e0:=Nat.toDigits_of_lt_base h;rw[e0];refine⟨_,[],rfl,?_⟩;have:∀d:Nat,d<10->1≤d->Nat.digitChar d≠'0':=by decide
   exact this m h f
  .have t:=Nat.toDigits_append_toDigits (b:=10) (n:=m/10) (d:=m%10) (by decide) (by omega) (ahx m (by decide));rw[Nat.div_add_mod]at t;let⟨c,r,e,a⟩:=i (m/10) (by omega) (by omega);exact⟨c,r++afY 10 (m%10),by rw[<-t,e];rfl,a⟩
def GA(h:1<(fig n).length):∃c r,(fig n).cps.toList=c::r/\c≠48:=by
 rcases ae5 n with rfl|a
 .exact absurd h (by decide +kernel)
 .obtain⟨c,r,e,hc⟩:=RF n a;refine⟨c.toNat,r.map Char.toNat,by rw[qp,e];rfl,λz=>hc ?_⟩;exact Char.toNat_inj.mp z
def nW(n:Nat):(fig n).cps.all (· < 128)=true:=by
 rw[adT];intro c h;have:=vK n c (by simpa using h);apply decide_eq_true;omega
def Nw{c:Nat}(h:c<48\/57<c):c∉(fig n).cps.toList:=λz=>by have:=vK n c z;omega
def fi(x y:Str):(x++y).length=x.length+y.length:=by show(x.cps++y.cps).size=x.cps.size+y.cps.size;simp
def lu(h:n<1000000):((n:Int).natAbs).log2<1920:=by
 show n.log2<1920;exact aas (o8 (k:=20) (aas h (by decide)) (by decide)) (by decide)
def G9(h:x.cps.all (· < 128)=true)(d:x.length≤n):Fine (10*n+2) 0 (.str x):=by
 have a:∀c∈x.cps.toList,c<16^8:=λc b=>by
  rw[adT]at h;have:=of_decide_eq_true (h c (by simpa using b));omega
 have e:=StrLaws.reprText_len x a;exact⟨rfl,rfl,(show(reprText x).length≤10*n+2 by omega),Mt _⟩
def VO{z:Nat}{d:aD}(h:Gd z d):ndR (.imm d)=true:=by cases d<;>first|rfl|(simp only[Gd]at h)
def Lg:SpM:=λa K=>∃(b:Nat) (d:aD),a=[.imm d]/\Gd b d/\K (.imm (.bool (isWh d))) []
def Sd:SpM:=λc K=>∃(z:Nat) (d:aD) (a b:Int),c=[.imm d,.imm (.int a),.imm (.int b)]/\Gd z d/\K (.imm (.bool (inW a b d))) []
structure AT(n:Nat)(x:Str):Prop where
 len:x.length≤n
 asc:x.cps.all (· < 128)=true
def AT.lay(h:AT n x):(aei x).canLay0=true:=by
 show x.cps.all (· < 0x110000)=true;have:=h.asc;rw[adT]at this⊢;exact λc a=>decide_eq_true (by have:=of_decide_eq_true (this c a);omega)
def asc_iff:x.cps.all (· < 128)=true↔∀c∈x.cps.toList,c<128:=by
 rw[adT];exact⟨λh c a=>of_decide_eq_true (h c (by simpa using a)),λh c a=>decide_eq_true (h c (by simpa using a))⟩
def figN(w:Str):Option Nat:=(aaL 10).find? λp=>decide (w=fig p)
def figD(w:Str):aD:=match figN w with|some p=>.int (p:Int)|none=>.none
def lM{p:Nat}(h:figN w=some p):w=fig p/\p<10:=by
 unfold figN at h;let⟨a,b,_⟩:=List.find?_range_eq_some.mp h;exact⟨of_decide_eq_true a,ad0.mp b⟩
def Jd:∀p:Nat,p<10->figN (fig p)=some p:=by decide +kernel
def GW:∀c:Nat,c<128->inS ⟨#[c]⟩ "0123456789" = (figN ⟨#[c]⟩).isSome:=by decide +kernel
theorem SF(h:w.length=1):∃c,w=⟨#[c]⟩:=by
 let⟨⟨l⟩⟩:=w
 match l,h with
 |[c],_=>exact⟨c,rfl⟩
def FU(h:(figN w).isSome=true):w.length=1:=by
 let⟨p,b⟩:=adB.mp h;let⟨rfl,a⟩:=lM b;exact(C8 a).2.1
theorem QH(w:Str):Gd 9 (figD w):=by
 unfold figD
 cases h:figN w with
 |none=>trivial
 |some p=>
  have:=(lM h).2;simp only[Gd];omega
def KZ:SpM:=λa K=>∃(n:Nat) (w:Str),a=[.imm (.str w)]/\AT n w/\n≤1000000/\K (.imm (figD w)) []
structure WS(n:Nat)(ws:List Str):Prop where
 wt:(ws.map (·.length)).sum+ws.length≤n
 asc:∀w∈ws,w.cps.all (· < 128)=true
theorem WS.at(h:WS n ws)(a:w∈ws):AT n w:=by
 refine⟨?_,h.asc w a⟩;have b:=h.wt;have:w.length≤(ws.map (·.length)).sum:=by
  clear b h
  induction ws with
  |nil=>cases a
  |cons x r i=>
   rw[aah];rw[abC];rcases aae.mp a with rfl|a
   .omega
   .have:=i a;omega
 omega
theorem DW(c:Nat):∀a:List (List Nat),a≠[]->(jl c a).length+1=(a.map ab9).sum+a.length
 |[],h=>(h rfl).elim
 |[x],_=>by simp[jl]
 |x::y::r,_=>by
  have i:=DW c (y::r) (by simp);show(x++c::jl c (y::r)).length+1=_;rw[aal,aaq,aah,abC,aaq];omega
theorem Kz{c d:Nat}:∀{a:List (List Nat)}{x:List Nat},x∈a->d∈x->d∈jl c a
 |[],_,h,_=>by cases h
 |[y],x,h,hd=>by rw[aaf.mp h]at hd;exact hd
 |y::z::r,x,h,hd=>by
  show d∈y++c::jl c (z::r);obtain rfl|h:=aae.mp h
  .exact abB _ hd
  .exact aaJ _ (aab _ (Kz h hd))
def Ij(x:Str):abq x " " ≠ []:=λz=>by
 have:=afV x " ";rw[z]at this;exact absurd this (by decide)
def JM(x:Str):jl 32 ((abq x " ").map λw=>w.cps.toList)=x.cps.toList:=by
 have e:(" " : Str)=⟨#[32]⟩:=by decide +kernel
 have:=jZ 32 (abq x " ");rw[<-this,<-e,agR]
theorem JB(h:AT n x):WS (n+1) (abq x " "):=by
 have e:=JM x;have l:=DW 32 ((abq x " ").map λw=>w.cps.toList) (by simpa using Ij x);rw[e,iO]at l;have b:((abq x " ").map λw=>w.cps.toList).map ab9=(abq x " ").map (·.length):=by rw[aaW];rfl
 rw[b]at l;have f:x.cps.toList.length=x.length:=rfl;refine⟨by have:=h.len;omega,λw d=>asc_iff.mpr λc a=>asc_iff.mp h.asc c ?_⟩;rw[<-e];exact Kz (aap.mpr ⟨w,d,rfl⟩) a
theorem RG(h:WS n ws):AT n (ad9 " " ws):=by
 have g:(" " : Str)=⟨#[32]⟩:=by decide +kernel
 have d:ad9 " " ws=aes ⟨#[32]⟩ ws:=by rw[<-g];exact aec _ _
 have e:=jZ 32 ws;have l:=Ll 32 (ws.map λw=>w.cps.toList);have i:(ws.map λw=>w.cps.toList).map ab9=ws.map (·.length):=by rw[aaW];rfl
 rw[i,iO]at l;have b:=h.wt;refine⟨?_,?_⟩
 .have:(ad9 " " ws).length=(jl 32 (ws.map λw=>w.cps.toList)).length:=by rw[d,<-e];rfl
  omega
 .rw[asc_iff,d,e];intro c a;rcases LG a with rfl|⟨y,f,a⟩
  .decide
  .obtain⟨w,b,rfl⟩:=aap.mp f;exact asc_iff.mp (h.asc w b) c a
def vh(h:WS n ws)(a:n≤1000000):JoinOk " " ws=true:=PyProof.Rows.joinOk_of_weight (by have:=h.wt;omega) (by decide +kernel)
def OO{m:MSt}{k:Nat}{a b:List aD}{K:L2.R->Prop}(e:m.os[k]?=some b)(c:a.length+b.length≤aam)(h:K (.new (a++b))):oAdd (.new a) (.obj k) m K:=⟨a,b,rfl,e,c,h⟩
def KO:SpM:=λa K=>∃(z:Nat) (d:aD) (n:Nat),a=[.imm d,.imm (.int (n:Int))]/\Gd z d/\K (.imm (.bool (tupN n d))) []
def CQ{i:Int}(h:i.natAbs<10^100):Fine 101 0 (.int i):=by
 have s:(aeJ (.int i)).length≤101:=by
  have e:=PySem.int_text_length_le10 (k:=100) (by decide) h;show(abO (agX i)).length≤101;rw[PySem.ofString_length];exact e
 refine⟨?_,rfl,s,Mt _⟩;have:i.natAbs.log2<400\/i.natAbs=0:=by
  by_cases z:i.natAbs=0
  .exact .inr z
  .exact .inl ((agn z).mpr (ado h (show 10^100<2^400 by decide)))
 show decide (i.natAbs.log2<1920)=true;rcases this with h|h
 .exact decide_eq_true (by omega)
 .rw[h];decide
def digB(c:Nat):Bool:=decide (48≤c)&&decide (c≤57)
def iW(w:Str):Bool:=!w.cps.toList.isEmpty&&w.cps.toList.all digB
def numN(w:Str):Option Nat:=if (iW w&&(decide (w.length≤40)&&(decide (w.length≤1) || !(w.cps.toList.head? == some 48))))=true then some (adZ w.cps.toList)else none
def numD(w:Str):aD:=match numN w with|some n=>.int (n:Int)|none=>.none
def xI:∀c:Nat,c<128->inS ⟨#[c]⟩ "0123456789" = digB c:=by decide +kernel
def vm:SpM:=λa K=>∃(n:Nat) (w:Str),a=[.imm (.str w)]/\AT n w/\n≤1000000/\K (.imm (.bool (iW w))) []
def LQ:SpM:=λa K=>∃(n:Nat) (w:Str),a=[.imm (.str w)]/\AT n w/\n≤1000000/\K (.imm (numD w)) []
def Cj(h:w.length=1)(b:AT n w):iW w=(figN w).isSome:=by
 let⟨c,rfl⟩:=SF h;have a:c<128:=asc_iff.mp b.asc c (by simp);rw[<-GW c a,xI c a];show(true&&(digB c&&true))=digB c;rw[acM,acp]
def v3(h:numN w=none):numD w = .none:=by unfold numD;rw[h]
def IY(h:40<w.length):numN w=none:=by
 unfold numN;rw[if_neg];rw[decide_eq_false (show ¬w.length≤40 by omega),agp,agk];decide
def Fx(h:iW w=false):numN w=none:=by
 unfold numN;rw[if_neg];rw[h,agp];decide
def JU(h:1<w.length)(a:w.cps.toList.head? = some 48):numN w=none:=by
 unfold numN;rw[if_neg];rw[a,decide_eq_false (show ¬w.length≤1 by omega)];simp
def xZ(h:iW w=true)(b:w.length≤40)(a:w.length≤1\/w.cps.toList.head?≠some 48):numD w = .int ((adZ w.cps.toList:Nat):Int):=by
 unfold numD numN;have:(iW w&&(decide (w.length≤40)&&(decide (w.length≤1) || !(w.cps.toList.head? == some 48))))=true:=by
  rw[h,decide_eq_true b,acp,acp];rcases a with a|a
  .rw[decide_eq_true a];rfl
  .rw[show(w.cps.toList.head? == some 48)=false by simpa using a];simp
 rw[if_pos this]
theorem Fv(h:iW w=true):∃c,w.cps.toList.head? = some c:=by
 unfold iW at h
 cases q:w.cps.toList with
 |nil=>rw[q]at h;cases h
 |cons c r=>exact⟨c,rfl⟩
def Bw(h:iW w=true)(d:w.length≤40):ae2 w=some ((adZ w.cps.toList:Nat):Int):=by
 unfold iW at h;have a:=Bool.and_eq_true_iff.mp h;refine PySem.intText_digits (λc b=>?_) (λz=>?_) (by omega)
 .have:=abD.mp a.2 c b;simp only[digB,aaE,decide_eq_true_eq]at this;exact this
 .rw[z]at a;cases a.1
def Ud(c k:Nat)(x:Str)(h:x=⟨#[k]⟩):decide ((⟨#[c]⟩:Str)=x)=decide (c=k):=by
 rw[h]
 by_cases e:c=k
 .rw[e];simp
 .rw[decide_eq_false e,decide_eq_false λz=>e ?_];have:=congrArg (λs:Str=>s.cps.toList) z;simpa using this
def lD(l:List Str):aD:=.list (l.map .str)
theorem lm:∀l:List Str,aft (l.map .str) (l.map .str)=true
 |[]=>rfl
 |w::r=>by
  rw[aah,aft,lm r,acM];simp[aaj]
def GQ(l:List Str):aaj (lD l) (lD l)=true:=by
 unfold lD;rw[aaj];exact lm l
end K
namespace K
open PySem L2 M7 M8
variable{n:Nat}
theorem xw{c:Nat}:∀{a b:List (List Nat)},a≠[]->b≠[]->jl c (a++b)=jl c a++c::jl c b
 |[],_,h,_=>(h rfl).elim
 |[x],[],_,h=>(h rfl).elim
 |[x],y::b,_,_=>rfl
 |x::y::a,b,_,h=>by
  have i:=xw (c:=c) (a:=y::a) (b:=b) (by simp) h;show x++c::jl c (y::a++b)=_;rw[i];show _=(x++c::jl c (y::a))++_;simp
def sG(h:n<10^40):(fig n).length≤40:=by
 have lt:(afY 10 n).length≤40:=by
  rcases ae5 n with rfl|z
  .decide
  .exact(Nat.length_toDigits_le_iff (b:=10) (k:=40) (by decide) (by decide)).mpr h
 show(fig n).cps.size≤40;rw[<-abW,qp n,iO];exact lt
def t8(h:n<10^40):((n:Int).natAbs).log2<1920:=by
 rcases ae5 n with rfl|z
 .decide
 .exact(agn (show(n:Int).natAbs≠0 by omega)).mpr (ado (show(n:Int).natAbs<10^40 by omega) (by decide +kernel))
theorem JR(h:n<10^40):numN (fig n)=some n:=by
 have e:=qp n;have d:=vK n;have ne:(fig n).cps.toList≠[]:=by
  rw[e];intro z;have:=Nat.toDigits_ne_nil (b:=10) (n:=n);exact this (adv.mp z)
 have len:=sG h;unfold numN;rw[if_pos]
 .rw[e,PySem.W.KIN.val_back]
 .unfold iW;rw[decide_eq_true len];have a1:(fig n).cps.toList.isEmpty=false:=by cases q:(fig n).cps.toList with
   |nil=>exact(ne q).elim
   |cons _ _=>rfl
  have a2:(fig n).cps.toList.all digB=true:=abD.mpr λc a=>by
   have:=d c a;unfold digB;rw[decide_eq_true this.1,decide_eq_true this.2];rfl
  rw[a1,a2]
  by_cases z:(fig n).length≤1
  .rw[decide_eq_true z];rfl
  .obtain⟨c,r,q,a⟩:=GA (show 1<(fig n).length by omega);rw[q];have:((c::r).head? == some 48)=false:=by
    show(some c==some 48)=false;simp[a]
   rw[this,decide_eq_false z];rfl
end K
namespace L2
open PySem PySem.Spec PyProof.Rows
variable{es:List Expr}{n:Nat}{gs:WGs}
section
variable {X:Cx}{pos:Pos}
def gLst(K:aad)(n:Nat)(t:TGs):TG:=λv b H Q=>∃a x,v = .ref a/\SqL K H a x/\x.length=n/\t x b H Q
theorem UJ{k:Nat}{t:TGs}(l:X.calm=true)(h:PGs X es t)(q:(aa4 es X.env).length=n:=by rfl)(d:(aa4 es X.env).findIdx? (·.1)=none:=by rfl):PG X (.Tuple es k pos) (gLst X.K n t):=by
 intro p s w H v u Q I r f;let⟨a,x,rfl,B,z,f⟩:=f;cases r;let⟨i,C,j,_⟩:=I.list B;have A:(aa4 es X.env).length=i.toArray.size:=by rw[q,<-z,C.length];rfl
 have go:wpAny (model X.prog X.w) X.A (unpack (.ref a) (aa4 es X.env)) (λ_ m=>∃c g,Inv X p c g m/\Q c g) X.xe s:=by
  rw[show unpack (.ref a) (aa4 es X.env)=adl [.ref a] (unpackItems (.ref a) i.toArray.size none) >>= agC ((aa4 es X.env).map (·.2)) by unfold unpack;rw[A,d]];exact gT (abR (PySem.W.kun_itemsOf (I.ok.hd l) j.isList λD y=>h p _ w H x _ Q (I.kept (t':=s.toks) λb o e=>y b o (aaU (aan e)) e) ‹_› f))
 exact(assign_Tuple es k pos (.ref a))▸gT (acJ go)
def Mq(n:Nat)(gs:WGs):WG:=λd m K=>match d with| .list ds=>ds.length=n/\gs ds m K|_=>False
theorem VQ{k:Nat}(h:MGs X es gs)(j:X.calm=true:=by rfl)(l:(aa4 es X.env).length=n:=by rfl)(b:(aa4 es X.env).findIdx? (·.1)=none:=by rfl):MG X (.Tuple es k pos) (Mq n gs):=(UJ j h l b).wk<|by
 intro v p H Q ⟨o,m,d,K,R,hd,i,c⟩
 cases d with
 |list ds=>
  let⟨a,x,e,f,g⟩:=hd;exact⟨a,x,e,f.sq,g.length.symm.trans i.1,o,m,ds,K,R,g,i.2,c⟩
 |_=>exact i.elim
theorem Qe{k:Nat}(h:EGs X es gs)(b:X.calm=true:=by rfl)(c:(aa4 es X.env).length=n:=by rfl)(a:(aa4 es X.env).findIdx? (·.1)=none:=by rfl):EG X (.Tuple es k pos) (Mq n gs):=⟨VQ h.h b c a⟩
def UE{ds:List aD}{m:MSt}{P:MSt->Prop}(e:ds.length=n)(h:gs ds m P):Mq n gs (.list ds) m P:=⟨e,h⟩
end
section
variable {X:Cx}{scope sc:Scope}{own fr:List Str}{ps:List Nat}
variable {elt tg a:Expr}{ifs:List Expr}{pos b p:Pos}
variable {w:WI}{g:WG}{tt:WT}{c:WE}
theorem yM(t:scope.kind = .function)(k:∀y∈scope.names,y.2≠.cell)(r:∀y∈scope.names,y.2 = .local->scope.names.lookup y.1=some .local)(j:∀y∈scope.names,y.2 = .free->y.1∈fr)(d:∀x∈fr,scope.names.lookup x=some .free)(m:∀x∈fr,X.env.scope.names.lookup x=some .cell\/X.env.scope.names.lookup x=some .free)
  (v:EI X tg a w) (o:∀cl s H C ex,EG (aY X scope cl (own++fr) s H C ex) tg g) (f:∀cl s H C ex,ETs (aY X scope cl (own++fr) s H C ex) ifs tt)
  (u:∀cl s H C ex,EE (aY X scope cl (own++fr) s H C ex) elt c) (h:ps.map (λi=>X.N[i]?)=fr.map some:=by rfl) (q:X.calm=true:=by rfl) (z:∀x,aaM a X.env x=pure x:=by intro _;rfl) :
  EE X (.ListComp elt [⟨tg,a,ifs,0⟩] scope pos) (p9 w own ps g tt c):=bj (sc:=X.env.scope) ⟨t,k,r,λy l e=>m y.1 (j y l e),d⟩ v o f u rfl h q z
end
end L2
namespace K
open PySem L2
variable{r:Rule}{h:Hall}{α:Type}{l:List Nat}{t:Tr}{P:List Tr}
local macro_rules | `(tactic| walk_at"1") => `(tactic| first
 |((with_reducible refine' UI ?xe ?_);(case xe=>rfl))|(with_reducible first        |apply Uq|apply U3|apply x_lt|apply x_le|apply x_gt|apply x_ge     |apply Yb|apply YQ|apply Xu|apply YX )|((with_reducible refine' x_nd ?xe ?_);(case xe=>first|rfl|assumption))  |(with_reducible first   |apply x_ts)
 |((with_reducible refine' cb ?xe ?_);(case xe=>rfl))|((with_reducible refine' B7 ?xf ?xe ?_);(case xf=>rfl);(case xe=>rfl))|((with_reducible refine' mI ?xe ?_);(case xe=>rfl))|((with_reducible refine' qR ?xe ?_);(case xe=>rfl))
 |((with_reducible refine' Ng ?xe ?_);(case xe=>omega))|((with_reducible refine' Su ?xe ?_);(case xe=>exact cfd (by omega) (by omega)))|((with_reducible refine' MQ ?xe ?_);(case xe=>exact Yp (by omega)))|((with_reducible refine' Yg ?xe ?_);(case xe=>exact⟨by decide,by decide,by decide⟩))
 |(with_reducible first  |apply fE|apply x_bindO    )|((with_reducible refine' x_put ?xe ?xf ?_);(case xe=>rfl);(case xf=>rfl))
 |with_reducible apply Wn|((with_reducible refine' Xw ?xe ?xf ?_);(case xe=>rfl);(case xf=>decide))
 |((with_reducible refine' Yn ?xe ?xf ?_);(case xe=>rfl);(case xf=>exact of_decide_eq_true rfl))|(with_reducible first       |apply Xh|apply Ol|apply xY|apply x_bindA)|((with_reducible refine' Tq ?xa ?xb ?xc ?xd ?xe ?_);(case xa=>rfl);(case xb=>rfl);(case xc=>rfl);(case xd=>rfl);(case xe=>rfl))|((with_reducible refine' x_dgotN ?xa ?xb ?xc ?xd ?xe ?_);(case xa=>rfl);(case xb=>rfl);(case xc=>rfl);(case xd=>rfl);(case xe=>rfl))|((with_reducible refine' Mf ?xa ?xb ?xc ?xd ?xe ?xf ?_);(case xa=>rfl);(case xb=>rfl);(case xc=>rfl);(case xd=>rfl);(case xe=>exact of_decide_eq_true rfl);(case xf=>rfl))|((with_reducible refine' Dh ?xa ?xb ?xc ?xd ?_);(case xa=>rfl);(case xb=>rfl);(case xc=>exact of_decide_eq_true rfl);(case xd=>rfl))
 |((with_reducible refine' x_agsX ?xe ?xf ?_);(case xe=>rfl);(case xf=>decide))  |((with_reducible refine' x_rz ?xe ?_);(case xe=>exact of_decide_eq_true rfl))
 |((with_reducible refine' Dq ?xa ?xb ?_);(case xa=>rfl);(case xb=>decide))|(with_reducible first    |apply XW|apply YI|apply XQ|apply Yq|apply Yk    )|((with_reducible refine' Uh ?xa ?xb ?xc ?xd ?xe ?_);(case xa=>rfl);(case xb=>rfl);(case xc=>rfl);(case xd=>rfl);(case xe=>rfl))|((with_reducible refine' uY ?xa ?xb ?xc ?xd ?xe ?_);(case xa=>rfl);(case xb=>rfl);(case xc=>rfl);(case xd=>rfl);(case xe=>rfl))  |((with_reducible refine' Wz ?xa ?xb ?xc ?_);(case xa=>rfl);(case xb=>rfl);(case xc=>rfl))  |((with_reducible refine' Jq ?xa ?_);(case xa=>rfl))  |((with_reducible refine' x_onPairsT ?xa ?xb ?xc ?_);(case xa=>rfl);(case xb=>rfl);(case xc=>exact of_decide_eq_true rfl))
 |(with_reducible first  |apply Yu     |apply UA|apply Va)|((with_reducible refine' x_lenO ?xe ?_);(case xe=>rfl))|(with_reducible first|apply V7  |apply Yv    )|((with_reducible refine' x_ls ?xe ?_);(case xe=>rfl))
 |(with_reducible first|apply Xy|apply x_isB|apply JP  |apply Ay  |apply SV)
 |((with_reducible refine' QL ?xe ?_);(case xe=>rfl))|with_reducible apply Ub|((with_reducible refine' x_list ?xe ?_);(case xe=>rfl))|((with_reducible refine' NH ?xe ?_);(case xe=>rfl))|(with_reducible first       |apply Wq|apply J3)|((with_reducible refine' Vz ?xe ?_);(case xe=>rfl))|(with_reducible first        |apply iE)|with_reducible apply gm)
local macro_rules | `(tactic| walk_at"s") => `(tactic| ((repeat walk_at"1"); try (with_reducible conv => whnf)))
local macro_rules | `(tactic| walk_at"n") => `(tactic| first | dsimp only [mapR, cK, List.set, MSt.setV, MSt.setN, List.take, List.length, List.append, oO, zf, Nat.reduceAdd, List.getD_cons_succ, List.getD_cons_zero, List.nil_append, List.cons_append, setT, lfD] | dsimp only [mapR, cK, List.set, MSt.setV, MSt.setN, List.take, List.length, List.append, oO, zf, Nat.reduceAdd, List.getD_cons_succ, List.getD_cons_zero, List.nil_append, List.cons_append] | skip)
local macro_rules | `(tactic| walk_at "sc") => `(tactic| exact ⟨rfl, rfl, rfl, by decide +kernel, rfl, by decide +kernel, by decide +kernel⟩)
local macro_rules | `(tactic| walk_at"x") => `(tactic| (walk_at"n"; walk_at"s"))
local macro_rules | `(tactic| walk_at "a") => `(tactic| (refine bi (λz=>absurd z (by decide +kernel)) (λ_=>?_);walk_at"s";refine bi (λz=>absurd z (by decide +kernel)) (λ_=>?_);walk_at"s"))
local macro_rules | `(tactic| walk_at "b") => `(tactic| (refine bi (λz=>absurd z (by decide +kernel)) (λ_=>?_);walk_at"s";refine bi (λ_=>?_) (λz=>(z rfl).elim);walk_at"s"))
local macro_rules | `(tactic| walk_at "c") => `(tactic| (walk_at"s";refine dQ ?_;walk_at"x"))
local macro_rules | `(tactic| walk_at "d") => `(tactic| (walk_at"n";refine fE ?_;walk_at"x"))
local macro_rules | `(tactic| walk_at "e") => `(tactic| (rw[if_neg (show ¬(!true)=true by decide)]))
local macro_rules | `(tactic| walk_at "f") => `(tactic| (refine gm ?_;walk_at"s"))
def top(i:Nat):Stmt:=PySem.Challenge.pw_shorterline_k63_never_papers_as_lines.main.body.getD i (.Pass ⟨0,0,0,0⟩)
abbrev ll:Stmt:=top 7
abbrev da:Stmt:=top 8
abbrev gF:Stmt:=top 9
abbrev i7:Stmt:=top 10
abbrev gA:Stmt:=top 11
abbrev ib:Stmt:=top 12
abbrev sd:Stmt:=top 14
abbrev mj:Stmt:=top 16
abbrev lC:Stmt:=top 17
abbrev d5:Stmt:=top 18
abbrev dH:Stmt:=top 20
abbrev qO:Stmt:=top 21
abbrev dF:Stmt:=top 22
abbrev qh:Stmt:=top 23
abbrev h8:Stmt:=top 25
abbrev fU:Stmt:=top 26
abbrev fB:Stmt:=top 27
abbrev jH:Stmt:=top 28
abbrev qi:Stmt:=top 29
abbrev qC:Stmt:=top 30
abbrev iM:Stmt:=top 31
abbrev qY:Stmt:=top 32
abbrev gW:Stmt:=top 33
abbrev qK:Stmt:=top 34
abbrev kU:Stmt:=top 35
abbrev fX:Stmt:=top 38
abbrev di:Stmt:=top 39
abbrev gL:Stmt:=top 40
abbrev e9:Stmt:=top 41
abbrev ic:Stmt:=top 42
abbrev f8:Stmt:=top 43
abbrev i9:Stmt:=top 45
abbrev fV:Stmt:=top 46
abbrev fY:Stmt:=top 47
abbrev jP:Stmt:=top 48
abbrev fh:Stmt:=top 49
abbrev nU:Stmt:=top 50
abbrev br:Stmt:=(iU (top 52)).getD 1 (.Pass ⟨0,0,0,0⟩)
abbrev aK:Stmt:=(iU (top 52)).getD 2 (.Pass ⟨0,0,0,0⟩)
abbrev c5:Stmt:=(iU (top 52)).getD 3 (.Pass ⟨0,0,0,0⟩)
abbrev b9:Stmt:=(iU (top 52)).getD 4 (.Pass ⟨0,0,0,0⟩)
abbrev bz:Stmt:=(iU (top 52)).getD 5 (.Pass ⟨0,0,0,0⟩)
abbrev bX:Stmt:=(iU (top 52)).getD 6 (.Pass ⟨0,0,0,0⟩)
abbrev bT:Stmt:=(iU (top 52)).getD 0 (.Pass ⟨0,0,0,0⟩)
abbrev gQ:Stmt:=top 53
abbrev j8:Stmt:=top 55
abbrev jS:Stmt:=top 56
abbrev jI:Stmt:=top 57
abbrev cX:Stmt:=top 59
abbrev cn:Stmt:=top 58
abbrev im:Stmt:=top 60
abbrev gf:Stmt:=top 61
abbrev dI:Stmt:=top 62
abbrev i8:Stmt:=top 63
abbrev slaw:Stmt:=top 64
structure Bl(K:aad)(mg:Str->Option Ad):Prop where
 len:mg "len" = none
 abs:mg "abs" = none
 range:mg "range" = none
 list:mg "list" = none
 tuple:mg "tuple" = none
 int:mg "int" = none
 sum:mg "sum" = none
 max:mg "max" = none
 min:mg "min" = none
 isinstance:mg "isinstance" = none
 bool:mg "bool" = none
 sorted:mg "sorted" = none
 zip:mg "zip" = none
 enumerate:mg "enumerate" = none
 repr:mg "repr" = none
 str:mg "str" = none
 c_FIGURES:ConM K mg "FIGURES" (.str "0123456789")
 c_MOST_FIGURES:ConM K mg "MOST_FIGURES" (.int 40)
 c_BETWEEN:ConM K mg "BETWEEN" (.str "|")
 f_Search_hall:InsF K "Search" "hall"
 f_Search_rules:InsF K "Search" "rules"
 f_Search_moves:InsF K "Search" "moves"
 f_Search_steps:InsF K "Search" "steps"
 f_Search_leads:InsF K "Search" "leads"
 f_Search_triples:InsF K "Search" "triples"
 f_Search_ways:InsF K "Search" "ways"
def yZ:ah ["thing"] ["thing"] (ab ll):=by ext sc
def jR:ah ["thing","least","most"] ["thing","least","most"] (ab da):=by ext sc
def re:ah ["thing","many"] ["thing","many"] (ab gF):=by ext sc
def kj:ah ["word","sign"] ["word"] (ab i7):=by ext sc
def qm:ah ["word"] ["word"] (ab gA):=by ext sc
def rf:ah ["word"] ["word"] (ab ib):=by ext sc
def AU:ah ["one","other"] ["one","other"] (ab sd):=by ext sc
def jQ:ah ["hall","servers","server"] ["hall"] (ab mj):=by ext sc
def iu:ah ["hall","thing","servers","many","server"] ["hall","thing"] (ab lC):=by ext sc
def b7:ah ["hall","lines","place","many","server"] ["hall","lines"] (ab d5):=by ext sc
def cy:ah ["lines","order","best","line"] ["lines","order"] (ab dH):=by ext sc
def mN:ah ["hall","lines","line","top","bottom"] ["hall","lines","line"] (ab qO):=by ext sc
def bP:ah ["hall","lines","order","best","least","line","wait"] ["hall","lines","order"] (ab dF):=by ext sc
def jc:ah ["hall","rule","stand","order","lines","turn","word"] ["hall","rule","stand","order"] (ab qh):=by ext sc
def rm:ah ["hall"] ["hall"] (ab h8):=by ext sc
def c7:ah ["hall","many","orders","place"] ["hall"] (ab fU):=by ext sc
def lG:ah ["hall","dones"] ["hall"] (ab fB):=by ext sc
def va:ah ["lines","line","more"] ["lines","line","more"] (ab jH):=by ext sc
def zw:ah ["hall","lines","line"] ["hall","lines","line"] (ab qi):=by ext sc
def DU:ah ["lines","line"] ["lines","line"] (ab qC):=by ext sc
def tX:ah ["hall","lines"] ["hall","lines"] (ab iM):=by ext sc
def jy:ah ["hall","lines","shift"] ["hall","lines"] (ab qY):=by ext sc
def qe:ah ["hall","rule","turn"] ["hall","rule","turn"] (ab gW):=by ext sc
def Bh:ah ["hall","rule","stand","move"] ["hall","rule","stand","move"] (ab qK):=by ext sc
def b8:ah ["hall","rule","stand","move","lines","turn","word","line"] ["hall","rule","stand","move"] (ab kU):=by ext sc
def uQ:ah ["numbers"] ["numbers"] (ab fX):=by ext sc
def ol:ah ["signs"] ["signs"] (ab di):=by ext sc
def dq:ah ["triple","x","y","lead"] ["triple"] (ab gL):=by ext sc
def rh:ah ["paper"] ["paper"] (ab e9):=by ext sc
def cq:ah ["hall","line","many","words","x","y","lead"] ["hall","line"] (ab ic):=by ext sc
def bw:ah ["hall","lines","triples","row","line","triple"] ["hall","lines"] (ab f8):=by ext sc
def t9:ah ["hall","lines"] ["hall","lines"] (ab i9):=by ext sc
def oh:ah ["one","other"] ["one","other"] (ab fV):=by ext sc
def iI:ah ["hall","void"] ["hall"] (ab fY):=by ext sc
def i5:ah ["hall","rule","lines","move","stand","word"] ["hall","rule","lines","move"] (ab jP):=by ext sc
def bG:ah ["one_step","other_step","lead","x","one_away","y","other_away"] ["one_step","other_step","lead"] (ab fh):=by ext sc
def ii:ah ["triple","x","y","lead"] ["triple"] (ab nU):=by ext sc
def fu:ah ["self","side","lines","rule"] ["self","side","lines"] (ab br):=by ext sc
def a8:ah ["self","triple","x","y","lead","one_steps","other_steps"] ["self","triple"] (ab aK):=by ext sc
def ef:ah ["self","triple","ahead","move","x","y","lead"] ["self","triple","ahead","move"] (ab c5):=by ext sc
def cR:ah ["self","at","moves","move"] ["self","at"] (ab b9):=by ext sc
def bo:ah ["self","at","behind","move","triple"] ["self"] (ab bz):=by ext sc
def oz:ah ["self"] ["self"] (ab bX):=by ext sc
def j5:ah ["self","hall","one","other"] ["self","hall","one","other"] (ab bT):=by ext sc
def ga:ah ["hall","one","other","search","run"] ["hall","one","other"] (ab gQ):=by ext sc
def vc:ah ["_law_script"] ["_law_script"] (ab j8):=by ext sc
def cC:ah ["_law_tape_here","_law_many","_law_found","_law_turn","_law_cell","_law_mixed"] ["_law_tape_here","_law_many"] (ab jS):=by ext sc
def jb:ah ["_law_top","_law_bottom","_law_one","_law_other"] ["_law_top","_law_bottom"] (ab jI):=by ext sc
def bQ:ah ["_law_rooms","_law_found","_law_room","_law_longer","_law_lines_here"] ["_law_rooms"] (ab cX):=by ext sc
def b6:ah ["_law_tape_here","_law_most","_law_many","_law_servers","_law_come","_law_whole","_law_speeds"] ["_law_tape_here","_law_most"] (ab cn):=by ext sc
def nG:ah ["_law_hall_here","_law_lines_here","_law_alike"] ["_law_hall_here","_law_lines_here"] (ab im):=by ext sc
def cG:ah ["_law_tape_here","_law_hall_here","_law_by_fall","_law_paper_here","_law_k","_law_x","_law_y","_law_more"] ["_law_tape_here","_law_hall_here","_law_by_fall"] (ab gf):=by ext sc
def cF:ah ["_law_paper_here","_law_found","_law_x","_law_y","_law_more","_law_first"] ["_law_paper_here"] (ab dI):=by ext sc
def c8:ah ["_law_hall_here","_law_paper_here","_law_former","_law_turn","_law_told","_law_handed"] ["_law_hall_here","_law_paper_here"] (ab i8):=by ext sc
def zd:ah ["_law_script","_law_tape_here","_law_k","_law_hall_here","_law_paper_here"] ["_law_script"] (ab slaw):=by ext sc
def kE:∀(kV d pm:Ad) (an:Option Addr) (c ct:Ad) (us:List Ad),us.length=(["self","side","lines"]:List Str).length->adA (abe "steps_of" "Search.steps_of" (cw br) (bI br) (ab br) .none kV d pm an c ct) ⟨us,[]⟩=pure ((["self","side","lines"]:List Str).zip us):=λ_ _ _ _ _ _ us a=>match us,a with|[_,_,_],_=>rfl
def gw:∀(kV d pm:Ad) (an:Option Addr) (c ct:Ad) (us:List Ad),us.length=(["self","triple"]:List Str).length->adA (abe "triples_behind" "Search.triples_behind" (cw aK) (bI aK) (ab aK) .none kV d pm an c ct) ⟨us,[]⟩=pure ((["self","triple"]:List Str).zip us):=λ_ _ _ _ _ _ us a=>match us,a with|[_,_],_=>rfl
def vg:∀(kV d pm:Ad) (an:Option Addr) (c ct:Ad) (us:List Ad),us.length=(["self","triple","ahead","move"]:List Str).length->adA (abe "met" "Search.met" (cw c5) (bI c5) (ab c5) .none kV d pm an c ct) ⟨us,[]⟩=pure ((["self","triple","ahead","move"]:List Str).zip us):=λ_ _ _ _ _ _ us a=>match us,a with|[_,_,_,_],_=>rfl
def og:∀(kV d pm:Ad) (an:Option Addr) (c ct:Ad) (us:List Ad),us.length=(["self","at"]:List Str).length->adA (abe "run_to" "Search.run_to" (cw b9) (bI b9) (ab b9) .none kV d pm an c ct) ⟨us,[]⟩=pure ((["self","at"]:List Str).zip us):=λ_ _ _ _ _ _ us a=>match us,a with|[_,_],_=>rfl
def jK:∀(kV d pm:Ad) (an:Option Addr) (c ct:Ad) (us:List Ad),us.length=(["self"]:List Str).length->adA (abe "worse_run" "Search.worse_run" (cw bz) (bI bz) (ab bz) .none kV d pm an c ct) ⟨us,[]⟩=pure ((["self"]:List Str).zip us):=λ_ _ _ _ _ _ us a=>match us,a with|[_],_=>rfl
def qo:∀(kV d pm:Ad) (an:Option Addr) (c ct:Ad) (us:List Ad),us.length=(["self"]:List Str).length->adA (abe "paper" "Search.paper" (cw bX) (bI bX) (ab bX) .none kV d pm an c ct) ⟨us,[]⟩=pure ((["self"]:List Str).zip us):=λ_ _ _ _ _ _ us a=>match us,a with|[_],_=>rfl
def kH:∀(kV d pm:Ad) (an:Option Addr) (c ct:Ad) (us:List Ad),us.length=(["self","hall","one","other"]:List Str).length->adA (abe "__init__" "Search.__init__" (cw bT) (bI bT) (ab bT) .none kV d pm an c ct) ⟨us,[]⟩=pure ((["self","hall","one","other"]:List Str).zip us):=λ_ _ _ _ _ _ us a=>match us,a with|[_,_,_,_],_=>rfl
def Lj:SpM:=λa K=>∃h:Hall,a=[.imm h.d]/\h.Ok/\K (.imm (.bool (alk h))) []
def si:SpM:=λa K=>∃(h:Hall) (l:List Nat),a=[.imm h.d,.imm (lnD l)]/\h.Ok/\l.length≤4/\K (.imm (lnD (cZ h l))) []
def Du:SpM:=λa K=>∃h:Hall,a=[.imm h.d]/\h.Ok/\K (.new ((mvs h).map Mv.d)) []
def prD'(P:List Tr):aD:=.tuple (P.map trD)
def LM:SpM:=λb K=>∃r1 a:Rule,b=[.imm r1.d,.imm a.d]/\r1≠.turns/\a≠.turns/\K (.imm .none) []
def Kh:SpM:=λa K=>∃h:Hall,a=[.imm h.d]/\h.Ok/\K (.imm (trD (zer h,zer h,0))) []
def ksD(p:List Nat×Wd):aD:=.tuple [lnD p.1,.bool (decide (p.2 = .away))]
def W6:SpM:=λa K=>∃(h:Hall) (r:Rule) (l:List Nat) (m:Mv),a=[.imm h.d,.imm r.d,.imm (lnD l),.imm m.d]/\h.Ok/\r.Ok h/\r≠.turns/\Lines h l/\m.Ok h/\K (.imm (ksD (kst h r l m))) []
def VC:SpM:=λa K=>∃(p q:List Nat×Wd) (d:Int),a=[.imm (ksD p),.imm (ksD q),.imm (.int d)]/\K (.imm (trD (p.1,q.1,d+aw q.2-aw p.2))) []
def J0:SpM:=λa K=>∃t:Tr,a=[.imm (trD t)]/\K (.imm (.bool (decide (((t.2.1.sum:Nat):Int)+t.2.2<((t.1.sum:Nat):Int))))) []
def rG{d x:aD}{tl:List aD}{m:MSt}{K:L2.R->Prop}(e:d = .tuple (x::tl))(h:K (.imm x)):qP (.imm d) (.imm (.int 0)) m K:=by
 subst e;exact cb (ca (j:=0) rfl) h
def J7(r:Rule):∃tl,r.d = .tuple (.str r.word::tl):=by cases r<;>exact⟨_,rfl⟩
theorem Bf(h:r≠.turns):decide (r.word = "turns")=false:=by
 cases r with
 |turns=>exact(h rfl).elim
 |told p=>exact(show decide (("told" : Str) = "turns")=false by decide +kernel)
 |random=>decide +kernel
 |two=>decide +kernel
 |least=>decide +kernel
 |quick=>decide +kernel
def GL(w:Wd):decide (w.s = "away")=decide (w = .away):=by cases w<;>decide +kernel
def X9(h:Hall):(mvs h).map Mv.d=(ordK h.ss.length h.ss.length).map (λo=>(Mv.come o).d)++(aaL h.ss.length).map (λk=>(Mv.done k).d)++[.tuple [.str "still"]]:=by
 unfold mvs;rw[aaw,aaw,aaW,aaW];rfl
def xH:SpM:=λb K=>∃(t:aD) (c mo:Nat),b=[.tr t,.imm (.int (mo:Int))]/\TapeK c t/\c<800000000/\2≤mo/\∀(h:Hall) (a:aD),h.Ok->(M3.allR h.rs).length≤mo->TapeK (c+20) a->K (.imm h.d) [[a]]
theorem SvK.tail{p:Nat×Nat}{ps:List (Nat×Nat)}{mo:Nat}(h:SvK (p::ps))(e:∀r∈bq (p::ps),r≤1)(g:2≤mo)(c:mo<(M3.allR (bq (p::ps))).length):SvK ps/\(bq (jU ps)).sum<(bq (p::ps)).sum:=by
 rw[M7.allR_cnt]at c;have b:=CU e;have l:(bq (p::ps)).length=ps.length+1:=by simp[bq]
 have f:=h.2.2 p aaa;have d:=h.2.1;rw[aaq]at d;refine⟨⟨?_,by omega,λq a=>h.2.2 q (aab _ a)⟩,?_⟩
 .cases ps with
  |nil=>rw[l]at b;simp at b;omega
  |cons q ps=>simp
 .have:=(m6 (ps:=ps) λq a=>(h.2.2 q (aab _ a)).2.2.1).1;have i:(bq (p::ps)).sum=p.2+(bq ps).sum:=by simp[bq]
  omega
def DH(a:h.Ok):1≤(mvs h).length/\(mvs h).length≤1000:=by
 have n1:=a.n1;have n4:=a.n4;unfold mvs;rw[aal,aal,iO,iO,abg];generalize h.ss.length=n at *;have:(ordK n n).length≤24:=by
  rcases (show n=1\/n=2\/n=3\/n=4 by omega)with rfl|rfl|rfl|rfl<;>decide
 simp;omega
theorem QE{f:α->aD}{key:α->List Nat}{W:List α}(n:W.length<64)(B:∀a∈W,∀b∈W,(key a).length=(key b).length)(nd:(W.map key).Nodup)(lt:∀a∈W,∀b∈W,key a≠key b->ltD (f a) (f b)=lexN (key a) (key b))(D:∀a∈W,∀b∈W,key a=key b->ltD (f a) (f b)=true->key a≠key b)(sm:∀a∈W,∀b∈W,smD (f a) (f b)=true)(tt:∀a∈W,tt1 (f a)=true)(dp:∀a∈W,(f a).depth≤7):SrtT (W.map f):=by
 have get:∀i,i<W.length->∃a,W[i]?=some a/\a∈W/\(W.map f).getD i .none=f a:=λi E=>by
  have e:=mT E;exact⟨_,e,Ld e,bJ (by rw[aao,e];rfl)⟩
 have inj:∀{i j:Nat}{a b:α},W[i]?=some a->W[j]?=some b->i<j->key a≠key b:=λ{i j a b} J I v=>by
  let⟨E,rfl⟩:=AD.mp J;let⟨K,rfl⟩:=AD.mp I;have:=abF.mp nd i j (by rwa[iO]) (by rwa[iO]) v;rwa[adp,adp]at this
 refine⟨⟨by rw[iO];exact n,λx o y G=>?_,λx o=>?_,λx o=>?_⟩,⟨λa b c d k C=>?_,λa b d k ne=>?_⟩⟩
 .obtain⟨a,d,rfl⟩:=aap.mp o;let⟨b,k,rfl⟩:∃b,b∈W/\f b=y:=aap.mp G;exact sm a d b k
 .obtain⟨a,d,rfl⟩:=aap.mp o;exact tt a d
 .obtain⟨a,d,rfl⟩:=aap.mp o;exact dp a d
 .rw[iO]at d k C;let⟨x,ex,g,q⟩:=get a d;let⟨y,w,m,u⟩:=get b k;let⟨z,L,p,H⟩:=get c C;rw[q,u,H];intro A s;have n1:key x≠key y:=λe=>D x g y m e A e;have n2:key y≠key z:=λe=>D y m z p e s e;rw[lt x g y m n1]at A;rw[lt y m z p n2]at s;have t:=Au (B x g y m) (B y m z p) A s;have F:key x≠key z:=λe=>by rw[e,xr]at t;cases t
  rw[lt x g z p F];exact t
 .rw[iO]at d k;let⟨x,ex,g,q⟩:=get a d;let⟨y,w,m,u⟩:=get b k;rw[q,u];have n:key x≠key y:=by
   rcases aeV ne with z|z
   .exact inj ex w z
   .exact λe=>inj w ex z e.symm
  rw[lt x g y m n,lt y m x g (abx n)];exact yi (B x g y m) n
def wyD:Wy->aD
 |none=>.tuple [.int (-1),.none]
 |some (a,m)=>.tuple [.int (a:Int),m.d]
def rl(r1 r2:Rule)(s:Nat):Rule:=if s=0 then r1 else r2
abbrev Ck:=Nat×List Nat
def skD(p:Ck):aD:=.tuple [.int (p.1:Int),lnD p.2]
def stv(h:Hall)(r1 r2:Rule)(p:Ck):List aD:=(mvs h).map λm=>ksD (kst h (rl r1 r2 p.1) p.2 m)
def j4(h:Hall)(r1 r2:Rule)(C:List Ck):List (aD×aD):=C.map λp=>(skD p,.list (stv h r1 r2 p))
structure CaOk(h:Hall)(C:List Ck):Prop where
 nd:C.Nodup
 ok:∀p∈C,p.1<2/\Lines h p.2
theorem CaOk.len{C:List Ck}(X:CaOk h C):C.length≤2*(M3.allR h.rs).length:=by
 have:=jt X.nd (m:=(M3.allR h.rs).map (λl=>(0,l))++(M3.allR h.rs).map (λl=>(1,l))) λp a=>by
  let⟨b,q⟩:=X.ok p a;have m:=jh q.fits;rcases (show p.1=0\/p.1=1 by omega)with e|e
  .exact abB _ (aap.mpr ⟨p.2,m,by rw[<-e]⟩)
  .exact aaJ _ (aap.mpr ⟨p.2,m,by rw[<-e]⟩)
 rw[aal,iO,iO]at this;omega
def Lm(p q:Ck):aaj (skD p) (skD q)=decide (p=q):=by
 show(aaj (.int _) (.int _)&&(aaj (lnD p.2) (lnD q.2)&&true))=_;rw[mQ,acM,dJ,abX];simp[Prod.ext_iff]
theorem st_look{h:Hall}{r1 r2:Rule}{p:Ck}:∀{C:List Ck},d8 (skD p) (j4 h r1 r2 C)=if p∈C then some (.list (stv h r1 r2 p))else none
 |[]=>rfl
 | q::C=>by
  show(if aaj (skD q) (skD p)=true then some (adj (stv h r1 r2 q))else d8 (skD p) (j4 h r1 r2 C))=_;rw[Lm]
  by_cases e:q=p
  .rw[if_pos (decide_eq_true e),if_pos (by rw[e];exact aaa),e]
  .rw[if_neg (by rw[decide_eq_false e];exact aai),st_look]
   by_cases c:p∈C
   .rw[if_pos c,if_pos (aab _ c)]
   .rw[if_neg c,if_neg λz=>(aae.mp z).elim (λz=>e z.symm) c]
theorem L7{h:Hall}{r1 r2:Rule}{p:Ck}:∀{C:List Ck},p∉C->putP (skD p) (.list (stv h r1 r2 p)) (j4 h r1 r2 C)=j4 h r1 r2 (C++[p])
 |[],_=>rfl
 |q::C,n=>by
  let⟨n1,n2⟩:=not_or.mp λw=>n (aae.mpr w);show(if aaj (skD q) (skD p)=true then _ else _::putP (skD p) _ (j4 h r1 r2 C))=_;rw[Lm,if_neg (by rw[decide_eq_false λe=>n1 e.symm];exact aai),L7 n2];rfl
theorem Qx{h:Hall}{s:Nat}:kyD (skD (s,l))=true:=by
 have n:∀l:List Nat,hkA (natD l)=true:=λl=>by
  induction l with
  |nil=>rfl
  |cons x l i=>show(hkD _&&hkA (natD l))=true;rw[i];rfl
 have q:=bF (k:=1) (ds:=[.int (s:Int),lnD l]) λd hd=>by
  rcases aae.mp hd with e|e
  .rw[e];exact(dW _).mono (by decide)
  .rw[aaf.mp e];exact bF (cN _)
 have a:hkD (skD (s,l))=true:=by
  show(true&&(hkD (lnD l)&&true))=true;rw[show hkD (lnD l)=true from n l];rfl
 unfold kyD;rw[a,show(skD (s,l)).canLay0=true from q.cl,decide_eq_true (show(skD (s,l)).depth≤7 from aax q.dp (by decide))];rfl
def MD{r1 r2:Rule}(C:List Ck):kyA (j4 h r1 r2 C)=true:=by
 unfold kyA j4;rw[aea,abD];exact λp _=>Qx (h:=h)
theorem CG{kvs:List (aD×aD)}(h:kyA kvs=true):iQ (.dict (lfKV kvs))=none:=by
 cases kvs with
 |nil=>rfl
 |cons q kvs=>
  let⟨k,d⟩:=q;rw[kyA,abT,aaE]at h;let⟨ds,rfl,_⟩:=iC h.1;rfl
def scT(h:Hall)(r1 r2:Rule)(C:List Ck)(L:List (Pk×Int))(T:List Tr)(Y:List Wy):aD:=insT "Search" [("hall",h.d),("rules",.tuple [r1.d,r2.d]),("moves",.dict [(.none,.list ((mvs h).map Mv.d))]),("steps",.dict (lfKV (j4 h r1 r2 C))),("leads",.dict (lfKV (ldD L))),("triples",.list (T.map trD)),("ways",.list (Y.map wyD))]
theorem nu(T:List Tr):db (T.map trD)=some (T.map trD):=by
 induction T with
 |nil=>rfl
 |cons x l i=>show(match iQ (trD x),db (l.map trD)with|some d,some ds=>some (d::ds)|_,_=>none)=_;rw[i];rfl
def Bo(y:Wy):iQ (wyD y)=some (wyD y):=by rcases y with _|⟨a,m⟩<;>rfl
theorem sK(Y:List Wy):db (Y.map wyD)=some (Y.map wyD):=by
 induction Y with
 |nil=>rfl
 |cons x l i=>show(match iQ (wyD x),db (l.map wyD)with|some d,some ds=>some (d::ds)|_,_=>none)=_;rw[i,Bo];rfl
def XY(T:List Tr):(T.map trD).map lfD=T.map trD:=by
 rw[aaW];exact ack λx _=>rfl
def YO(Y:List Wy):(Y.map wyD).map lfD=Y.map wyD:=by
 rw[aaW];exact ack λy _=>by rcases y with _|⟨a,m⟩<;>rfl
structure GoodR(h:Hall)(r1 r2:Rule):Prop where
 o:h.Ok
 k1:r1.Ok h
 k2:r2.Ok h
 n1:r1≠.turns
 n2:r2≠.turns
theorem GoodR.rl{r1 r2:Rule}(G:GoodR h r1 r2)(s:Nat):(rl r1 r2 s).Ok h/\rl r1 r2 s≠.turns:=by
 unfold K.rl;split
 .exact⟨G.k1,G.n1⟩
 .exact⟨G.k2,G.n2⟩
def uC:SpM:=λc K=>∃(h:Hall) (r1 a:Rule) (C:List Ck) (L:List (Pk×Int)) (T:List Tr) (Y:List Wy) (s:Nat) (l:List Nat),c=[.tr (scT h r1 a C L T Y),.imm (.int (s:Int)),.imm (lnD l)]/\GoodR h r1 a/\(M3.allR h.rs).length≤400/\CaOk h C/\s<2/\Lines h l/\∀b,CaOk h b->K (.imm (.list (stv h r1 a (s,l)))) [[scT h r1 a b L T Y]]
def Kl:SpM:=λc K=>∃(h:Hall) (r1 a:Rule) (C:List Ck) (L:List (Pk×Int)) (T:List Tr) (Y:List Wy) (t:Tr),c=[.tr (scT h r1 a C L T Y),.imm (trD t)]/\GoodR h r1 a/\(M3.allR h.rs).length≤400/\CaOk h C/\Lines h t.1/\Lines h t.2.1/\∀b,CaOk h b->K (.new ((mvs h).map λm=>trD (bth h r1 a t m))) [[scT h r1 a b L T Y]]
def QM:SpM:=λc K=>∃(h:Hall) (r1 b:Rule) (C:List Ck) (L:List (Pk×Int)) (T:List Tr) (Y:List Wy) (t:Tr) (y:Wy) (a:Int) (d:aD),c=[.tr (scT h r1 b C L T Y),.imm (trD t),.imm (.int a),.imm d]/\wyD y = .tuple [.int a,d]/\h.Ok/\(∀p∈L,Lines h p.1.1/\Lines h p.1.2)/\Lines h t.1/\Lines h t.2.1/\L.length≤200000/\T.length≤200000/\Y.length≤200000/\(t.2.2<(lkL (t.1,t.2.1) L).getD (t.2.2+1)->K (.imm .none) [[scT h r1 b C (setL (t.1,t.2.1) t.2.2 L) (T++[t]) (Y++[y])]])/\(∀w,lkL (t.1,t.2.1) L=some w->w≤t.2.2->K (.imm .none) [[scT h r1 b C L T Y]])
structure WyOk(Y:List Wy)(P:List (List Mv)):Prop where
 ly:Y.length=P.length
 wy:∀(k:Nat) (p:List Mv),P[k]?=some p->(p=[]/\Y[k]?=some none)\/∃(a:Nat) (m:Mv) (q:List Mv),a<k/\P[a]?=some q/\p=q++[m]/\Y[k]?=some (some (a,m))
def B8:SpM:=λb K=>∃(h:Hall) (r1 a:Rule) (C:List Ck) (L:List (Pk×Int)) (T:List Tr) (Y:List Wy) (P:List (List Mv)) (i:Nat) (p:List Mv),b=[.tr (scT h r1 a C L T Y),.imm (.int (i:Int))]/\WyOk Y P/\Y.length≤200000/\P[i]?=some p/\K (.imm (.tuple (p.map Mv.d))) [[scT h r1 a C L T Y]]
def zW:SpM:=λb K=>∃(h:Hall) (r1 a:Rule) (k:Nat),b=[.tr (scT h r1 a [] [((zer h,zer h),0)] [stT h] [none])]/\GoodR h r1 a/\(M3.allR h.rs).length≤400/\nP h*(nP h+2)≤190000/\(Ga h r1 a->Cov h r1 a k)/\(∀(R:List Mv) (C:List Ck) (L:List (Pk×Int)) (T:List Tr) (Y:List Wy),RunK h R->bad (wlk h r1 a R)=true->Min h r1 a R.length->K (.imm (.tuple (R.map Mv.d))) [[scT h r1 a C L T Y]])/\(∀(C:List Ck) (L:List (Pk×Int)) (T:List Tr) (Y:List Wy),Ga h r1 a->DkOk h L->L.length≤k->(∀Z:List Tr,Z.Perm (ldT L)->Nvr h r1 a Z/\∀t∈Z,TrOk h t)->K (.imm .none) [[scT h r1 a C L T Y]])
def Cw:SpM:=λb K=>∃(h:Hall) (r1 a:Rule) (C:List Ck) (L:List (Pk×Int)) (T:List Tr) (Y:List Wy),b=[.tr (scT h r1 a C L T Y)]/\h.Ok/\DkOk h L/\L.length<64/\∀Z:List Tr,Z.Perm (ldT L)->K (.imm (prD' Z)) [[scT h r1 a C L T Y]]
def D9:SpI:=λds K=>∃(h:Hall) (r1 a:Rule),ds=[h.d,r1.d,a.d]/\h.Ok/\K (scT h r1 a [] [((zer h,zer h),0)] [stT h] [none])
def BJ:SpM:=λb K=>∃(h:Hall) (r1 a:Rule),b=[.imm h.d,.imm r1.d,.imm a.d]/\GoodR h r1 a/\(M3.allR h.rs).length≤400/\nP h*(nP h+2)≤190000/\(Ga h r1 a->Cov h r1 a 63)/\(∀R:List Mv,RunK h R->bad (wlk h r1 a R)=true->Min h r1 a R.length->K (.imm (.tuple [.str "worse",.tuple (R.map Mv.d)])) [])/\(∀Z:List Tr,Ga h r1 a->Nvr h r1 a Z->(∀t∈Z,TrOk h t)->Z.length≤63->K (.imm (.tuple [.str "never",prD' Z])) [])
section
variable {h:Hall}{r1 r2:Rule}{C:List Ck}{L:List (Pk×Int)}{T:List Tr}{Y:List Wy}{m:MSt}{k:Nat}{P:L2.R->Prop}
def qv(e:m.os[k]?=some [scT h r1 r2 C L T Y])(ky:kyA (ldD L)=true)(a:P (.at k [5])):fGot m "Search" k [] "leads" P:=uY e rfl rfl rfl (CG ky) a
def vq(e:m.os[k]?=some [scT h r1 r2 C L T Y])(a:P (.at k [4])):fGot m "Search" k [] "steps" P:=uY e rfl rfl rfl (CG (MD (h:=h) C)) a
end
def w6{k:Nat}{p:List Nat}{j:Nat}(y:Wy):gj k p j (wyD y) = .imm (wyD y):=by unfold gj;rw[Bo]
def Cn{l:List α}{f:α->aD}{j:Nat}{x:α}(e:l[j]?=some x):ixN (l.map f).length (j:Int)=some j/\(l.map f)[j]?=some (f x):=⟨O4 (by rw[iO];exact(AD.mp e).1),by rw[aao,e];rfl⟩
theorem xx:∀{a a' b c:List Nat},a.length=a'.length->b.length=c.length->lexN (a++b) (a'++c)=if a=a' then lexN b c else lexN a a'
 |[],[],_,_,_,_=>by rw[if_pos rfl];rfl
 | x::a,y::a',b,c,h1,h2=>by
  have i:=xx (a:=a) (a':=a') (by simpa using h1) h2;show(if x=y then lexN (a++b) (a'++c)else decide _)=_
  by_cases e:x=y
  .subst e;rw[if_pos rfl,i]
   by_cases d:a=a'
   .rw[if_pos d,if_pos (by rw[d])]
   .rw[if_neg d,if_neg λz=>d (by injection z)];show _=if x=x then _ else _;rw[if_pos rfl]
  .rw[if_neg e,if_neg λz=>e (by injection z)];show _=if x=y then _ else _;rw[if_neg e]
theorem rB:∀{a b:List Nat},a.length=b.length->smDs (natD a) (natD b)=true
 |[],[],_=>rfl
 |x::a,y::b,e=>by
  show(true&&smDs (natD a) (natD b))=true;rw[rB (by simpa using e)];rfl
theorem DM{β:Type}{f:α->β}{z l:List β}(p:z.Perm l):∀{m:List α},z=m.map f->∃g:List α,g.Perm m/\l=g.map f:=by
 induction p with
 |nil=>intro m e;exact⟨m,.refl _,e⟩
 | cons a p n=>
  intro m e
  cases m with
  |nil=>cases e
  |cons b m=>
   injection e with d c
   let⟨g,k,s⟩:=n c;exact⟨b::g,k.cons b,by rw[aah,d,s]⟩
 | swap a b l=>
  intro m e
  cases m with
  |nil=>cases e
  | cons x m=>
   cases m with
   |nil=>cases e
   |cons y m=>
    injection e with d c
    injection c with c e3
    exact⟨y::x::m,.swap _ _ _,by rw[aah,aah,d,c,e3]⟩
 |trans v u j i=>
  intro m e;let⟨m1,o,d⟩:=j e;let⟨m2,q,c⟩:=i d;exact⟨m2,q.trans o,c⟩
def itL(q:Pk×Int):aD:=.tuple [pkD q.1,.int q.2]
def K9(L:List (Pk×Int)):gG (ldD L)=L.map itL:=by unfold gG ldD;rw[aaW];rfl
theorem Uu{L:List (Pk×Int)}(u:h.Ok)(D:DkOk h L)(n:L.length<64):SrtT (gG (ldD L)):=by
 rw[K9];have ln:∀a∈L,a.1.1.length=h.ss.length/\a.1.2.length=h.ss.length:=λa c=>⟨(D.ln a c).1.1,(D.ln a c).2.1⟩;have s:(L.map λq:Pk×Int=>q.1.1++q.1.2).Nodup:=by
  refine List.pairwise_map.mpr ((List.pairwise_map.mp D.nd).imp_of_mem λ{a b} c f ne e=>ne ?_);let⟨g,j⟩:=List.append_inj e ((ln a c).1.trans (ln b f).1.symm);exact aeU g j
 have m:∀a∈L,∀b∈L,a.1.1++a.1.2=b.1.1++b.1.2->a.1=b.1:=λa c b f e=>by
  let⟨g,j⟩:=List.append_inj e ((ln a c).1.trans (ln b f).1.symm);exact aeU g j
 have lt:∀a∈L,∀b∈L,a.1≠b.1->ltD (itL a) (itL b)=lexN (a.1.1++a.1.2) (b.1.1++b.1.2):=λa c b f ne=>by
  show(if aaj (pkD a.1) (pkD b.1)=true then _ else ltD (pkD a.1) (pkD b.1))=_;rw[wN,if_neg (by rw[decide_eq_false ne];exact aai),xx ((ln a c).1.trans (ln b f).1.symm) ((ln a c).2.trans (ln b f).2.symm)];show(if aaj (lnD a.1.1) (lnD b.1.1)=true then(if aaj (lnD a.1.2) (lnD b.1.2)=true then ltDs [] []else ltDs (natD a.1.2) (natD b.1.2))else ltDs (natD a.1.1) (natD b.1.1))=_;rw[mQ,mQ,vV ((ln a c).1.trans (ln b f).1.symm),vV ((ln a c).2.trans (ln b f).2.symm)]
  by_cases g:a.1.1=b.1.1
  .rw[if_pos (decide_eq_true g),if_pos g,if_neg λz=>ne (aeU g (of_decide_eq_true z))]
  .rw[if_neg λz=>g (of_decide_eq_true z),if_neg g]
 refine QE (key:=λq=>q.1.1++q.1.2) n (λa c b f=>?_) s (λa c b f ne=>lt a c b f λz=>ne (by rw[z])) (λa c b f e l=>?_) (λa c b f=>?_) (λa c=>rfl) λa c=>?_
 .rw[aal,aal,(ln a c).1,(ln a c).2,(ln b f).1,(ln b f).2]
 .have e0:=m a c b f e;have:a=b:=by
   let⟨i,v⟩:=aca c;have x:=xX D.nd a c;have p:=xX D.nd b f;rw[e0,p]at x;exact aeU e0 (aar x).symm
  subst this;have o:(if aaj (pkD a.1) (pkD a.1)=true then(if aaj (.int a.2) (.int a.2)=true then ltDs [] []else decide (a.2<a.2))else ltD (pkD a.1) (pkD a.1))=true:=l;rw[wN,if_pos (decide_eq_true rfl),if_pos (show aaj (.int a.2) (.int a.2)=true by simp[aaj])]at o;cases o
 .show((smDs (natD a.1.1) (natD b.1.1)&&(smDs (natD a.1.2) (natD b.1.2)&&true))&&(true&&true))=true;rw[rB ((ln a c).1.trans (ln b f).1.symm),rB ((ln a c).2.trans (ln b f).2.symm)];rfl
 .have s1:=(bF (cN a.1.1)).dp;have s2:=(bF (cN a.1.2)).dp;exact aax (bF (k:=2) (ds:=[pkD a.1,.int a.2]) λd hd=>by
   obtain rfl|hd:=aae.mp hd
   .exact bF λd hd=>by
     obtain rfl|hd:=aae.mp hd
     .exact bF (cN _)
     .rw[aaf.mp hd];exact bF (cN _)
   .rw[aaf.mp hd];exact(dW _).mono (by decide)).dp (by decide)
def AM:SpM:=λa K=>∃(z:Nat) (h:Hall) (d:aD),a=[.imm h.d,.imm d]/\h.Ok/\Gd z d/\K (.imm (.bool (jE h d))) []
def jA(w:List Str):aD:=.tuple (w.map figD)
def trB(h:Hall)(w:List Str):Bool:=decide (w.length=2*h.ss.length+3)&&(decide (w.getD h.ss.length "" = "|")&&(decide (w.getD (2*h.ss.length+1) "" = "|")&&(jE h (jA (w.take h.ss.length))&&(jE h (jA ((w.drop (h.ss.length+1)).take h.ss.length))&&(numN (w.getD (2*h.ss.length+2) "")).isSome))))
def trDx(h:Hall)(w:List Str):aD:=.tuple [jA (w.take h.ss.length),jA ((w.drop (h.ss.length+1)).take h.ss.length),numD (w.getD (2*h.ss.length+2) "")]
def trRx(h:Hall)(x:Str):aD:=if trB h (abq x " ")=true then trDx h (abq x " ")else .none
def Sw{x:Str}(e:trB h (abq x " ")=false):trRx h x = .none:=by unfold trRx;rw[e];rfl
def Cc{x:Str}(e:trB h (abq x " ")=true):trRx h x=trDx h (abq x " "):=by unfold trRx;rw[e];rfl
def Lu:SpM:=λb K=>∃(n:Nat) (a:List Str),b=[.imm (.list (a.map .str))]/\(∀w∈a,AT n w)/\n≤1000000/\a.length≤1000000/\K (.imm (jA a)) []
def Fj:SpM:=λa K=>∃(n:Nat) (h:Hall) (x:Str),a=[.imm h.d,.imm (.str x)]/\h.Ok/\AT n x/\n≤900000/\K (.imm (trRx h x)) []
def wM(a:List Str):Gd 9 (jA a):=gd_tup.mpr λd hd=>by
 let⟨w,_,rfl⟩:=aap.mp hd;exact QH _
def vM{w:List Str}{i:Nat}(h:i<w.length):w[i]?=some (w.getD i ""):=by
 unfold ahj;rw[mT h];rfl
def FX{ds:List aD}{a b:Nat}(d:a≤b)(c:b≤ds.length):cutD ds (some (a:Int)) (some (b:Int))=(ds.drop a).take (b-a):=by
 unfold cutD;rw[HT.sIx_nat,HT.sIx_nat,aex c,aex (aax d c)]
def Gj{xs:List α}{k:Nat}(h:xs.length=k+1):atI xs (-1)=xs[k]?:=by
 unfold atI ixN;rw[if_neg (by decide),h,if_pos (by omega),show(-1+((k+1:Nat):Int)).toNat=k by omega];rfl
def Kq:SpM:=λa K=>∃(o:List Nat),a=[.imm (lnD o)]/\o.length≤4/\(∀x∈o,x<10)/\K (.new ((o.map fig).map .str)) []
structure T63(h:Hall)(t:Tr):Prop where
 x:Lines h t.1
 y:Lines h t.2.1
 d0:0≤t.2.2
 d1:t.2.2<10^40
def wsT(t:Tr):List Str:=((t.1.map fig++[("|" : Str)])++t.2.1.map fig)++[("|" : Str),fig t.2.2.toNat]
def cf(a:h.Ok)(L:Lines h l):l.length≤4/\∀x∈l,x<10:=⟨by have:=L.1;have:=a.n4;omega,λx b=>by have:=L.le a x b;omega⟩
theorem rF:∀{l:List Nat},(∀x∈l,x<10)->((l.map fig).map (·.length)).sum=l.length
 |[],_=>rfl
 |x::l,h=>by
  have b:=rF λy a=>h y (aab _ a);have c:=(C8 (h x aaa)).2.1;simp only[aah,abC,aaq]at b⊢;omega
theorem LU(c:h.Ok)(T:T63 h t):WS 100 (wsT t):=by
 let⟨g,x⟩:=cf c T.x;let⟨e,y⟩:=cf c T.y;have f:=sG (n:=t.2.2.toNat) (by have:=T.d0;have:=T.d1;omega);have b1:("|" : Str).length=1:=by decide +kernel
 refine⟨?_,λw a=>?_⟩
 .unfold wsT;simp only[aaw,List.sum_append,aal,iO,aah,acn,abC,List.sum_nil,aaq,ac7,rF x,rF y,b1];omega
 .have fa:∀l:List Nat,w∈l.map fig->w.cps.all (· < 128)=true:=λl d=>by
   let⟨n,_,rfl⟩:=aap.mp d;exact nW n
  have b:("|" : Str).cps.all (· < 128)=true:=by decide +kernel
  unfold wsT at a;rcases aaG.mp a with a|a
  .rcases aaG.mp a with a|a
   .rcases aaG.mp a with a|a
    .exact fa _ a
    .rw[aaf.mp a];exact b
   .exact fa _ a
  .rcases aae.mp a with rfl|a
   .exact b
   .rw[aaf.mp a];exact nW _
def lnT(t:Tr):Str:=ad9 " " (wsT t)
def AI{N:Nat}{A B:List Str}{b F:Str}(a:A.length=N)(c:B.length=N):∃w,w=((A++[b])++B)++[b,F]/\w.length=2*N+3/\w.getD N "" = b/\w.getD (2*N+1) "" = b/\w.take N=A/\(w.drop (N+1)).take N=B/\w.getD (2*N+2) "" = F:=by
 refine⟨A++b::(B++[b,F]),by simp,by simp;omega,?_,?_,?_,?_,?_⟩
 .unfold ahj;rw[aav (by omega),a,Nat.sub_self];rfl
 .unfold ahj;rw[aav (by omega),show 2*N+1-A.length=N+1 by omega,adY,aav (by omega),show N-B.length=0 by omega];rfl
 .rw[<-a];exact List.take_left
 .rw[show A++b::(B++[b,F])=(A++[b])++(B++[b,F]) by simp,show N+1=(A++[b]).length by simp[a],List.drop_left,<-c];exact List.take_left
 .unfold ahj;rw[aav (by omega),show 2*N+2-A.length=N+1+1 by omega,adY,aav (by omega),show N+1-B.length=1 by omega];rfl
def qu(h:∀x∈l,x<10):jA (l.map fig)=lnD l:=by
 show ac1 ((l.map fig).map figD) = .tuple (natD l);rw[aaW]
 congr 1
 refine ack λx a=>?_;show figD (fig x)=_;unfold figD;rw[Jd x (h x a)]
theorem KJ(L:Lines h l):jE h (lnD l)=true:=by
 show fitD h.rs (natD l)=true;refine vJ (by rw[bg,h.rsl];exact L.1) λi r d a b=>?_;let⟨x,ex,rfl,_⟩:=gmap b;let⟨s,c,rfl⟩:∃s,h.ss[i]?=some s/\s.r=r:=by
  have e:(h.ss.map Srv.r)[i]?=some r:=a;rw[aao]at e
  cases q:h.ss[i]? with
  |none=>rw[q]at e;cases e
  |some s=>rw[q]at e;exact⟨s,rfl,aar e⟩
 have:=L.2 i s x c ex;show(decide ((0:Int)≤(x:Int))&&decide ((x:Int)≤(s.r:Int)))=true;rw[decide_eq_true (by omega),decide_eq_true (by omega)];rfl
def Lc(v:h.Ok)(T:T63 h t):trRx h (lnT t)=trD t:=by
 let⟨x,y,d⟩:=t;let⟨n,rfl⟩:∃n:Nat,d=(n:Int):=⟨d.toNat,by have:=T.d0;dsimp only at this;omega⟩;have H:n<10^40:=by have:=T.d1;dsimp only at this;omega
 have g:=T.x;have i:=T.y;dsimp only at g i;let⟨K,f⟩:=cf v g;let⟨J,a⟩:=cf v i;have s:abq (lnT (x,y,(n:Int))) " " = wsT (x,y,(n:Int)):=by
  rw[show lnT (x,y,(n:Int))=aes " " (wsT (x,y,(n:Int)))from aec _ _];refine yK (c:=32) (ts:=wsT (x,y,(n:Int))) (by unfold wsT;simp) λw o=>?_;have j:∀k:Nat,32∉(fig k).cps.toList:=λk=>Nw (.inl (by decide));have m:32∉("|" : Str).cps.toList:=by decide +kernel
  unfold wsT at o;simp only[aaG,aae,aap,aa8,or_false]at o;rcases o with((⟨k,_,rfl⟩|rfl)|⟨k,_,rfl⟩)|rfl|rfl<;>first|exact j _|exact m
 let⟨u,E,p0,G,D,C,z,p⟩:=AI (N:=h.ss.length) (A:=x.map fig) (B:=y.map fig) (b:= "|") (F:=fig n) (by rw[iO];exact g.1) (by rw[iO];exact i.1);have e:wsT (x,y,(n:Int))=u:=E.symm;rw[e]at s;have q:=JR H;have I:trB h u=true:=by
  unfold trB;rw[p0,G,D,C,z,p,qu f,qu a,KJ g,KJ i,q];simp
 rw[Cc (by rw[s];exact I),s];unfold trDx;rw[C,z,p,qu f,qu a];unfold numD;rw[q];rfl
def sJ(a:h.Ok)(T:T63 h t):AT 100 (lnT t):=RG (LU a T)
def Sg{x y:List Nat}{n:Nat}(k:x≠[])(i:y≠[]):lnT (x,y,(n:Int))=ad9 " " (x.map fig) ++ " | " ++ ad9 " " (y.map fig) ++ " | " ++ fig n:=by
 have j:∀c:List Str,(ad9 " " c).cps.toList=jl 32 (c.map λw=>w.cps.toList):=λc=>by
  rw[show ad9 " " c=aes ⟨#[32]⟩ c by rw[<-(show(" " : Str)=⟨#[32]⟩ by decide +kernel)];exact aec _ _];exact jZ 32 c
 have d:∀a b:Str,(a++b).cps.toList=a.cps.toList++b.cps.toList:=λa b=>by
  show(a.cps++b.cps).toList=_;simp
 have f:("|" : Str).cps.toList=[124]:=by decide +kernel
 have g:(" | " : Str).cps.toList=[32,124,32]:=by decide +kernel
 refine uZ ?_;rw[d,d,d,d,j,j,g];unfold lnT wsT;rw[j];simp only[aaw,aah,acn,f,abf];have e:(x.map fig).map (λw=>w.cps.toList)≠[]:=by simpa using k
 have b0:(y.map fig).map (λw=>w.cps.toList)≠[]:=by simpa using i
 generalize (x.map fig).map (λw=>w.cps.toList)=A at e;generalize (y.map fig).map (λw=>w.cps.toList)=B at b0;rw[xw (by simp) (by simp),xw (by simp) b0,xw e (by simp)];show((jl 32 A++32::[124])++32::jl 32 B)++32::([124]++32::(fig n).cps.toList)=_;simp
def A8(h:∀x∈l,x<10)(b:l.length≤4):WS 10 (l.map fig):=⟨by rw[rF h,iO];omega,λw a=>by
 let⟨n,_,rfl⟩:=aap.mp a;exact nW n⟩
def pl63(P:List Tr):List aD:=P.map λt=>.str (lnT t)
theorem Mm(f:h.Ok)(T:T63 h t):Fine 400 2 (trD t):=by
 have ln:∀{l:List Nat},Lines h l->Fine 101 1 (lnD l):=λL=>by
  let⟨e,a⟩:=cf f L;refine(jM (n:=13) (k:=0) (c:=4) (λd hd=>?_) (by rw[bg];exact e)).mono (by decide) (by decide);let⟨x,b,rfl⟩:=aap.mp hd;have:=a x b;exact Ii (by omega)
 refine(jM (n:=101) (k:=1) (c:=3) (ds:=[lnD t.1,lnD t.2.1,.int t.2.2]) (λd hd=>?_) (Mt 3)).mono (by decide) (by decide);obtain rfl|hd:=aae.mp hd
 .exact ln T.x
 .obtain rfl|hd:=aae.mp hd
  .exact ln T.y
  .rw[aaf.mp hd];have:=T.d0;have:=T.d1;exact(CQ (by omega)).mono (by decide) (by decide)
def ye(b:h.Ok)(e:∀t∈P,T63 h t)(f:P.length≤100):Fine 50000 4 (prD' P):=(jM (n:=400) (k:=2) (c:=100) (λd hd=>by
 let⟨t,a,rfl⟩:=aap.mp hd;exact Mm b (e t a)) (by rw[iO];exact f)).mono (by decide) (by decide)
def RH(b:h.Ok)(e:∀t∈P,T63 h t)(f:P.length≤100):Fine 200000 4 (.list (pl63 P)):=(zT (n:=1002) (k:=0) (c:=100) (λd hd=>by
 let⟨t,a,rfl⟩:=aap.mp hd;have:=sJ b (e t a);exact G9 this.asc this.len) (by rw[pl63,iO];exact f)).mono (by decide) (by decide)
def SG(c:h.Ok)(b:∀t∈P,T63 h t):ab7 (.list (pl63 P))=true:=(yf (k:=0) λd hd=>by
 let⟨t,a,rfl⟩:=aap.mp hd;exact Rf (sJ c (b t a)).lay).ok (by decide)
def VN(P:List Tr):aaj (.list (pl63 P)) (.list (pl63 P))=true:=by
 have:=GQ (P.map lnT);unfold lD at this;rw[aaW]at this;exact this
def TrOk.t63(T:TrOk h t):T63 h t:=⟨T.x,T.y,T.d0,Int.lt_trans T.d1 (by decide)⟩
theorem Fq(R:List Mv):(wlk h r r R).1=(wlk h r r R).2.1/\(wlk h r r R).2.2=0:=by
 have go:∀(R:List Mv) (t:Tr),t.1=t.2.1/\t.2.2=0->(R.foldl (bth h r r) t).1=(R.foldl (bth h r r) t).2.1/\(R.foldl (bth h r r) t).2.2=0:=λR=>by
  induction R with
  |nil=>exact λt q=>q
  |cons m R i=>
   intro⟨x,y,d⟩ ⟨e,a⟩;dsimp only at e a;subst e a;refine i _ ⟨rfl,?_⟩;show(0:Int)+aw (kst h r x m).2-aw (kst h r x m).2=0;omega
 exact go R _ ⟨rfl,rfl⟩
def Pj{R:List Mv}(_:RunK h R):bad (wlk h r r R)=false:=by
 let⟨e,a⟩:=Fq (h:=h) (r:=r) R;unfold bad;rw[<-e,a,decide_eq_false (by decide),decide_eq_false (by omega)];rfl
theorem RJ(b:h.Ok)(a:(M3.allR h.rs).length≤10):Cov h .two .two 63:=⟨(M3.allR h.rs).map λl=>(l,l),by rw[iO];omega,λR k=>by
 have L:=lH b (r1:=.two) (r2:=.two) trivial trivial (λz=>by cases z) (λz=>by cases z) (Df k);let⟨e,_⟩:=Fq (h:=h) (r:=.two) R;rw[<-e];exact aap.mpr ⟨_,jh L.1.fits,rfl⟩⟩
def KH:SpM:=λa K=>∃(h:Hall) (t:Tr),a=[.imm (trD t)]/\h.Ok/\T63 h t/\K (.imm (.str (lnT t))) []
def LJ:SpM:=λa K=>∃(h:Hall) (P:List Tr),a=[.imm (prD' P)]/\h.Ok/\(∀t∈P,T63 h t)/\P.length≤100/\K (.new (pl63 P)) []
def Vq:SpM:=λa K=>∃(h:Hall) (P:List Tr),a=[.imm h.d,.imm (.list (pl63 P))]/\h.Ok/\(∀t∈P,T63 h t)/\P.length≤100/\K (.imm (prD' P)) []
def V6:SpM:=λa K=>∃(h:Hall) (P:List Tr),a=[.imm h.d,.own (pl63 P)]/\h.Ok/\(∀t∈P,T63 h t)/\P.length≤100/\K (.imm (prD' P)) [pl63 P]
def sx:SpM:=λd K=>∃(t:aD) (c:Nat) (h:Hall) (b:Bool),d=[.tr t,.imm h.d,.imm (.bool b)]/\TapeK c t/\c<700000000/\h.Ok/\∀(P:List Tr) (a:aD),(∀t∈P,T63 h t)->P.length≤100->TapeK (c+200) a->K (.imm (prD' P)) [[a]]
def q9:SpM:=λa K=>∃(h:Hall) (P:List Tr),a=[.imm (prD' P)]/\h.Ok/\(∀t∈P,T63 h t)/\P.length≤100/\K (.new (pl63 P)) []
def uh:SpM:=λa K=>∃(h:Hall) (P:List Tr),a=[.imm h.d,.imm (prD' P)]/\h.Ok/\(∀t∈P,T63 h t)/\P.length≤100/\K (.imm (.bool true)) []
section
variable {P:aaI}{w:World}{K:aad}{mg:Str->Option Ad}{base:aaQ}
theorem yI(T:Bl K mg)(D:DefM K mg "is_whole" ll ["thing"]):FnM P w K mg base "is_whole" 1 1 Lg:=by
 refine aV D yZ rfl (nN:=1) rfl (by decide) ?ar λc A outer s H E f g=>⟨_,(aa (ae (vZ (v9 (mv' 0) N9 T.isinstance T.int CK) (v5 (QK (v9 (mv' 0) Jh T.isinstance T.bool P9)))))),?_⟩
 case ar=>intro a e ⟨z,d,rfl,_⟩;rfl
 intro a e j ⟨z,d,rfl,hd,k⟩;have b:=VO hd;refine ag (MSt.mk [some (.imm d)] [] 0) rfl ?_;ext s
 cases d with
 |int i=>rw[if_pos (show fInt (tyR (L2.R.imm (ab4 i)))=true from rfl)];ext s;exact k
 |bool i=>rw[if_pos (show fInt (tyR (L2.R.imm (PyData.bool i)))=true from rfl)];ext s;exact k
 |none=>rw[if_neg (show ¬fInt (tyR (L2.R.imm PyData.none))=true by decide +kernel)];exact k
 |str x=>rw[if_neg (show ¬fInt (tyR (L2.R.imm (aei x)))=true by show ¬fInt "str" = true;decide +kernel)];exact k
 |list x=>rw[if_neg (show ¬fInt (tyR (L2.R.imm (adj x)))=true by show ¬fInt "list" = true;decide +kernel)];exact k
 |tuple x=>rw[if_neg (show ¬fInt (tyR (L2.R.imm (ac1 x)))=true by show ¬fInt "tuple" = true;decide +kernel)];exact k
 |dict x=>exact hd.elim
theorem j7(T:Bl K mg)(D:DefM K mg "is_whole_within" da ["thing","least","most"])(G:FnM P w K mg base "is_whole" 1 1 Lg):FnM P w K mg base "is_whole_within" 2 3 Sd:=by
 refine aV D jR rfl (nN:=3) rfl (by decide) ?ar λc A outer s H E f e=>⟨_,(aa (ae (vZ (mf' G (e.mono (by decide)) (mc' (mv' 0) mn')) (v5 (E8 J6 J6 (mv' 1) (mv' 0) (mv' 2)))))),?_⟩
 case ar=>intro g j ⟨z,d,a,b,rfl,_⟩;rfl
 intro g j m ⟨z,d,a,b,rfl,hd,k⟩;refine ag (MSt.mk [some (.imm d),some (.imm (.int a)),some (.imm (.int b))] [] 0) rfl ?_;ext s;refine⟨z,d,rfl,hd,?_⟩;ext x
 cases d with
 |int i=>
  rw[if_pos (show isWh (ab4 i)=true from rfl)];ext s;refine bi (λh=>?_) (λh=>?_)
  .ext s;rw[show inW a b (.int i)=decide (i≤b) by simp[inW,h]]at k;exact k
  .rw[show inW a b (.int i)=false by simp[inW,h]]at k;exact k
 |bool i=>rw[if_neg (show ¬isWh (PyData.bool i)=true by simp[isWh])];exact k
 |none=>rw[if_neg (show ¬isWh PyData.none=true by simp[isWh])];exact k
 |str x=>rw[if_neg (show ¬isWh (aei x)=true by simp[isWh])];exact k
 |list x=>rw[if_neg (show ¬isWh (adj x)=true by simp[isWh])];exact k
 |tuple x=>rw[if_neg (show ¬isWh (ac1 x)=true by simp[isWh])];exact k
 |dict x=>exact hd.elim
theorem qI(T:Bl K mg)(D:DefM K mg "is_tuple_of" gF ["thing","many"]):FnM P w K mg base "is_tuple_of" 1 2 KO:=by
 refine aV D re rfl (nN:=2) rfl (by decide) ?ar λc A outer s H E f a=>⟨_,(aa (ae (vZ (v9 (mv' 0) DT T.isinstance T.tuple cW) (v5 (jB (cg a.units) (ay bH (by rfl) T.len d7 (mc' (mv' 0) mn')) (mv' 1) (aG _)))))),?_⟩
 case ar=>intro b i ⟨z,d,n,rfl,_⟩;rfl
 intro b i j ⟨z,d,n,rfl,hd,k⟩;have g:=VO hd;refine ag (MSt.mk [some (.imm d),some (.imm (.int (n:Int)))] [] 0) rfl ?_;ext s;show if (tyR (R.imm d) == "tuple")=true then _ else _;rw[Ui]
 cases e:QG d with
 |false=>
  refine gm ?_;rw[OZ e]at k;exact k
 | true=>
  cases d with
  |tuple x=>
   refine iE ?_;ext s;rw[show tupN n (.tuple x)=decide ((x.length:Int)=(n:Int)) by unfold tupN;exact decide_eq_decide.mpr (by omega)]at k;exact k
  |_=>cases e
theorem uT(T:Bl K mg)(D:DefM K mg "is_figures" i7 ["word"]):FnM P w K mg base "is_figures" 1 1 vm:=by
 refine aV D kj rfl (nN:=2) rfl (by decide) ?ar λo A outer s H E f p=>⟨_,(mz' (a9 (ak (cg p.units) (mv' 0) au (aG _)) (aa (ae d4)) am)
   (mz' (cr (Qo (mv' 0)) (ai 1 kj.nd) (aa (a9 (ak zo (mv' 1) (jC T.c_FIGURES (by rfl)) (by with_unfolding_all rfl)) (aa (ae d4)) am)) aaN)
   (aa (ae d4)))),?_⟩
 case ar=>intro u x ⟨n,w,rfl,_⟩;rfl
 intro u x C ⟨n,w,rfl,j,B,k⟩;refine ag (MSt.mk [some (.imm (.str w)),none] [] 0) rfl ?_;ext s;refine bi (λz=>?_) (λz=>?_)
 .ext s;rw[show iW w=false by rw[z];decide +kernel]at k;exact k
 .ext s;refine⟨w,rfl,j.asc,?_⟩;have g:w.cps.toList.isEmpty=false:=by
   cases q:w.cps.toList with
   |nil=>exact(z (uZ (by rw[q];decide +kernel))).elim
   |cons _ _=>rfl
  have y:iW w=w.cps.toList.all digB:=by unfold iW;rw[g];rfl
  rw[y]at k;have b:zn w=w.cps.toList.map λc=>.str ⟨#[c]⟩:=rfl;rw[b];refine bV (λi m=>∃a,m=MSt.mk [some (.imm (.str w)),a] [] 0/\(w.cps.toList.take i).all digB=true) ⟨none,rfl,rfl⟩ ?_ ?_
  .rintro i d m e hnp ⟨a,rfl,hd⟩;rw[aao]at e
   cases q:w.cps.toList[i]? with
   |none=>rw[q]at e;cases e
   | some c=>
    rw[q]at e;cases e;have v:=asc_iff.mp j.asc c (Ld q);ext s;refine YH ?_;rw[xI c v];ext s
    cases qd:digB c with
    |true=>
     ext s;refine⟨_,rfl,?_⟩;rw[abb,q,List.all_append,hd];simp[qd]
    |false=>
     ext s;rw[show w.cps.toList.all digB=false from ag8.mpr ⟨c,Ld q,by rw[qd];decide⟩]at k;exact k
  .rintro m hnp ⟨a,rfl,hd⟩;rw[iO,aat]at hd;ext s;rw[hd]at k;exact k
theorem qB(T:Bl K mg)(D:DefM K mg "read_figure" gA ["word"])(G:FnM P w K mg base "is_figures" 1 1 vm):FnM P w K mg base "read_figure" 2 1 KZ:=by
 refine aV D qm rfl (nN:=1) rfl (by decide) ?ar λe A outer s H E f c=>⟨_,(mz' (a9 (EW.pt (nq (ak (cg c.units) (ay bH (by rfl) T.len d7 (mc' (mv' 0) mn')) mh' (aG _)) (jj (ck (mf' G (c.mono (by decide)) (mc' (mv' 0) mn')))))) (aa (ae (bf p7 (by rfl) T.int CK (mc' (mv' 0) mn')))) am)
   (aa (ae cQ))),?_⟩
 case ar=>intro g m ⟨n,w,rfl,_⟩;rfl
 intro g m u ⟨n,w,rfl,b,d,k⟩;have i:=b.len;refine ag (MSt.mk [some (.imm (.str w))] [] 0) rfl ?_;ext s;refine⟨by rw[aag];omega,?_⟩;ext s;refine bi (λj=>?_) (λj=>?_)
 .ext s;have a:w.length=1:=by omega
  refine⟨n,w,rfl,b,d,?_⟩;rw[Cj a b];ext x
  cases q:figN w with
  |some p=>
   let⟨rfl,o⟩:=lM q;rw[show figD (fig p) = .int (p:Int) by unfold figD;rw[q]]at k;rw[if_pos (show(some p).isSome=true from rfl)];ext s;refine Bt (C8 o).2.2.2.2.1 (by omega) ?_;ext s;exact k
  |none=>
   rw[show figD w = .none by unfold figD;rw[q]]at k;rw[if_neg (show ¬(none:Option Nat).isSome=true by decide)];ext s;exact k
 .ext s;have:figN w=none:=by
   cases q:figN w with
   |none=>rfl
   |some p=>exact absurd (FU (by rw[q];rfl)) (by omega)
  rw[show figD w = .none by unfold figD;rw[this]]at k;exact k
theorem ql(T:Bl K mg)(D:DefM K mg "read_number" ib ["word"])(G:FnM P w K mg base "is_figures" 1 1 vm):FnM P w K mg base "read_number" 2 1 LQ:=by
 refine aV D rf rfl (nN:=1) rfl (by decide) ?ar λm A outer s H E f d=>⟨_,(mz' (a9 (EW.pt (fv (ak o3 (ay bH (by rfl) T.len d7 (mc' (mv' 0) mn')) (jC T.c_MOST_FIGURES (by rfl)) (aG _)) (gg (fQ (ck (mf' G (d.mono (by decide)) (mc' (mv' 0) mn'))))))) (aa (ae cQ)) am)
   (mz' (a9 (EW.pt (nq (ak o3 (ay bH (by rfl) T.len d7 (mc' (mv' 0) mn')) mh' (aG _)) (jj (ak (cg d.units) (av (mv' 0) mh') au (aG _))))) (aa (ae cQ)) am)
   (aa (ae (bf p7 (by rfl) T.int CK (mc' (mv' 0) mn')))))),?_⟩
 case ar=>intro o q ⟨n,w,rfl,_⟩;rfl
 intro o q v ⟨n,w,rfl,g,i,k⟩;have p:=g.len;refine ag (MSt.mk [some (.imm (.str w))] [] 0) rfl ?_;ext s;refine⟨by rw[aag];omega,?_⟩;ext s;refine bi (λz=>?_) (λz=>?_)
 .ext s;rw[v3 (IY (by omega))]at k;exact k
 .ext s;refine⟨n,w,rfl,g,i,?_⟩;ext x
  cases qf:iW w with
  |false=>
   rw[if_pos (c:=(!false)=true) rfl];ext s;rw[v3 (Fx qf)]at k;exact k
  | true=>
   ext e;let⟨c,b⟩:=Fv qf;ext s;refine⟨by rw[aag];omega,?_⟩;ext s;refine bi (λu=>?_) (λu=>?_)
   .ext s;refine⟨c,by rw[aag];omega,ca (j:=0) (by rw[<-List.head?_eq_getElem?];exact b),?_⟩;ext s;rw[Ud c 48 "0" (by decide +kernel)];refine bi (λa=>?_) (λa=>?_)
    .ext s;rw[v3 (JU (by omega) (by rw[b,a]))]at k;exact k
    .ext s;refine Bt (Bw qf (by omega)) (by omega) ?_;ext s;rw[xZ qf (by omega) (.inr (by rw[b];exact λe=>a (aar e)))]at k;exact k
   .ext s;refine Bt (Bw qf (by omega)) (by omega) ?_;ext s;rw[xZ qf (by omega) (.inl (by omega))]at k;exact k
def Bv(T:Bl K mg)(D:DefM K mg "is_less" sd ["one","other"]):FnM P w K mg base "is_less" 1 2 J1:=by
 refine aV D AU rfl (nN:=2) rfl (by decide) ?ar λg A outer s H E f m=>⟨_,(aa (ae (jB lr (af cc (av (mv' 0) mh') (av (mv' 1) mh')) (af cc (av (mv' 1) mh') (av (mv' 0) mh')) (aG _)))),?_⟩
 case ar=>intro i j ⟨a,b,c,d,rfl,_⟩;rfl
 intro i j q ⟨a,b,c,d,rfl,n,p,o,hd,k⟩;refine ag (MSt.mk [some (.imm (.tuple [.int a,.int b])),some (.imm (.tuple [.int c,.int d]))] [] 0) rfl ?_;ext s;have e:decide ((a:Int)*(d:Int)<(c:Int)*(b:Int))=decide (a*d<c*b):=by
  rw[<-adN,<-adN];exact decide_eq_decide.mpr Int.ofNat_lt
 rw[e];exact k
theorem yQ(T:Bl K mg)(D:DefM K mg "is_alike" mj ["hall"]):FnM P w K mg base "is_alike" 1 1 Lj:=by
 refine aV D jQ rfl (nN:=3) rfl (by decide) ?ar λv A outer s H E f x=>⟨_,(mz' (aC 1 jQ.nd (av (mv' 0) mh'))
   (mz' (cr (bM (mv' 1)) (ai 2 jQ.nd) (aa (a9 (ak (gn x.units) (mv' 2) (av (mv' 1) mh') (aG _)) (aa (ae d4)) am)) aaN)
   (aa (ae d4)))),?_⟩
 case ar=>intro y C ⟨h,rfl,_⟩;rfl
 intro y C I ⟨h,rfl,B,k⟩;have n1:=B.n1;refine ag (MSt.mk [some (.imm (.tuple [.tuple [.int h.a,.int h.b],.tuple (h.ss.map Srv.d),.bool h.mv])),none,none] [] 0) rfl ?_;ext s;have sh:∀d∈h.ss.map Srv.d,Shp 2 d:=λd hd=>by
  let⟨s,_,rfl⟩:=aap.mp hd;exact bF (k:=1) λd hd=>by
   simp at hd;rcases hd with rfl|rfl
   .exact bF (k:=0) λd hd=>by
     simp at hd;rcases hd with rfl|rfl<;>exact dW _
   .exact(dW _).mono (by decide)
 have p:(h.ss.map Srv.d).length=h.ss.length:=iO ..;unfold alk at k;generalize h.ss.map Srv.d=ss at *;let⟨a,u,z⟩:=KB (xs:=ss) (i:=0) (by decide) (by omega);have G:ss.getD 0 .none=a:=by rw[aaA];have:ss[0]?=some a:=u;rw[this];rfl
 rw[G]at k;refine bV (λi m=>∃g,m=MSt.mk [some (.imm (.tuple [.tuple [.int h.a,.int h.b],.tuple ss,.bool h.mv])),some (.imm (.tuple ss)),g] [] 0/\∀(j:Nat) s,j<i->ss[j]?=some s->aaj s a=true) ⟨none,rfl,λj s b=>by omega⟩ ?_ ?_
 .rintro i s m e n ⟨g,rfl,hp⟩;ext s;refine' cb (d:=a) ?ea ?_
  case ea=>exact z
  refine x_ne rfl rfl ((sh s (Ld e)).ok (by decide)) ((sh a (Ld u)).ok (by decide)) ?_;ext s
  cases q:aaj s a with
  |false=>
   refine iE ?_;ext s;have:(ss.all λs=>aaj s a)=false:=ag8.mpr ⟨s,Ld e,by rw[q];exact aai⟩;rw[this]at k;exact k
  |true=>
   ext f;refine⟨_,rfl,λj t b c=>?_⟩
   by_cases o:j=i
   .subst o;rw[e]at c;cases c;exact q
   .exact hp j t (by omega) c
 .rintro m n ⟨g,rfl,hp⟩;ext s;have:(ss.all λs=>aaj s a)=true:=abD.mpr λs F=>by
   let⟨j,b,ej⟩:=abQ.mp F;exact hp j s b (by rw[mT b,ej])
  rw[this]at k;exact k
theorem yR(T:Bl K mg)(D:DefM K mg "is_lines" lC ["hall","thing"])(g:FnM P w K mg base "is_tuple_of" 1 2 KO)(G:FnM P w K mg base "is_whole_within" 2 3 Sd):FnM P w K mg base "is_lines" 3 2 AM:=by
 refine aV D iu rfl (nN:=5) rfl (by decide) ?ar λM A outer s H E f B=>⟨_,(mz' (aC 2 iu.nd (av (mv' 0) mh'))
   (mz' (a9 (fQ (ck (mf' g (B.mono (by decide)) (mc' (mv' 1) (mc' (ay bH (by rfl) T.len d7 (mc' (mv' 2) mn')) mn'))))) (aa (ae d4)) am)
   (mz' (cr (qH T.zip (mc' (mv' 1) (mc' (mv' 2) mn'))) (bh (n:=2) (ac (ai 3 iu.nd) (ac (ai 4 iu.nd) aU))) (aa (a9 (fQ (ck (mf' G (B.mono (by decide)) (mc' (mv' 3) (mc' mh' (mc' (av (mv' 4) mh') mn')))))) (aa (ae d4)) am)) aaN)
   (aa (ae d4))))),?_⟩
 case ar=>intro I Q ⟨z,h,d,rfl,_⟩;rfl
 intro I Q U ⟨z,h,d,rfl,R,hd,k⟩;refine ag (MSt.mk [some (.imm (.tuple [.tuple [.int h.a,.int h.b],.tuple (h.ss.map Srv.d),.bool h.mv])),some (.imm d),none,none,none] [] 0) rfl ?_;ext s;rw[iO];refine⟨z,d,h.ss.length,rfl,hd,?_⟩;ext x
 cases e:tupN h.ss.length d with
 |false=>
  rw[if_pos (c:=(!false)=true) rfl];ext s;rw[CB h e]at k;exact k
 | true=>
  ext e;let⟨ds,rfl,v⟩:=Yl e;have C:=gd_tup.mp hd;ext s;refine⟨true,_,true,_,rfl,rfl,?_⟩;refine bV (λi m=>∃a b,m=MSt.mk [some (.imm (.tuple [.tuple [.int h.a,.int h.b],.tuple (h.ss.map Srv.d),.bool h.mv])),some (.imm (.tuple ds)),some (.imm (.tuple (h.ss.map Srv.d))),a,b] [] 0/\∀(j r:Nat) (x:aD),j<i->h.rs[j]?=some r->ds[j]?=some x->inW 0 (r:Int) x=true) ⟨none,none,rfl,λj r x N=>by omega⟩ ?_ ?_
  .rintro i d m e n ⟨a,b,rfl,hall⟩;let⟨a1,b1,u,J,rfl⟩:=qr e;let⟨s,y,rfl,N⟩:=gmap J;dsimp only[Srv.d];ext s
   .rfl
   ext s;refine⟨z,a1,_,_,rfl,C a1 (Ld u),?_⟩;ext x
   cases q:inW 0 (s.r:Int) a1 with
   | false=>
    rw[if_pos (c:=(!false)=true) rfl];ext s;rw[show jE h (.tuple ds)=false by
     cases qq:jE h (.tuple ds)with
     |false=>rfl
     |true=>rw[DJ qq (Hall.rs_get y) u]at q;cases q]at k
    exact k
   | true=>
    ext e;ext s;refine⟨_,_,rfl,λj r x L o ex=>?_⟩;rcases Nat.lt_or_ge j i with p|F
    .exact hall j r x p o ex
    .have:j=i:=by omega
     subst this;rw[Hall.rs_get y]at o;rw[u]at ex
     cases o;cases ex;exact q
  .rintro m n ⟨a,b,rfl,hall⟩;ext s;rw[show jE h (.tuple ds)=true from vJ (by rw[h.rsl];exact v) λi r x o ex=>hall i r x (by
    have O:=(AD.mp o).1;have S:=(AD.mp ex).1;rw[h.rsl]at O;rw[cE,iO];omega) o ex]at k
   exact k
theorem ku(T:Bl K mg)(D:DefM K mg "place_of_lines" d5 ["hall","lines"]):FnM P w K mg base "place_of_lines" 1 2 AE:=by
 refine aV D b7 rfl (nN:=5) rfl (by decide) ?ar λp A outer s H E f B=>⟨_,(mz' (aC 2 b7.nd mh')
   (mz' (cr (qH T.zip (mc' (mv' 1) (mc' (av (mv' 0) mh') mn'))) (bh (n:=2) (ac (ai 3 b7.nd) (ac (ai 4 b7.nd) aU))) (aa (aC 2 b7.nd (af aM (af cc (mv' 2) (af aM (av (mv' 4) mh') mh')) (mv' 3)))) aaN)
   (aa (ae (mv' 2))))),?_⟩
 case ar=>intro q v ⟨h,l,rfl,_⟩;rfl
 intro q v C ⟨h,l,rfl,u,j,k⟩;refine ag (MSt.mk [some (.imm (.tuple [.tuple [.int h.a,.int h.b],.tuple (h.ss.map Srv.d),.bool h.mv])),some (.imm (.tuple (natD l))),none,none,none] [] 0) rfl ?_;ext s;refine⟨true,_,true,_,rfl,rfl,?_⟩;refine bV (λi m=>∃a b,m=MSt.mk [some (.imm (.tuple [.tuple [.int h.a,.int h.b],.tuple (h.ss.map Srv.d),.bool h.mv])),some (.imm (.tuple (natD l))),some (.imm (.int (M7.placeF 0 (h.rs.take i) (l.take i):Nat))),a,b] [] 0) ⟨none,none,rfl⟩ ?_ ?_
 .rintro i d m e n ⟨a,b,rfl⟩;let⟨a1,b1,g,c,rfl⟩:=qr e;let⟨x,ex,rfl,F⟩:=gmap g;let⟨s,o,rfl,z⟩:=gmap c;have r6:=(u.ok s (Ld o)).r6;rw[M7.placeF_take (Hall.rs_get o) ex];dsimp only[Srv.d];ext s
  .rfl
  ext s;generalize M7.placeF 0 (h.rs.take i) (l.take i)=P;have y:(P:Int)*((s.r:Int)+1)+(x:Int)=((P*(s.r+1)+x:Nat):Int):=by
   rw[aeD,adN,aeD];rfl
  rw[y];exact⟨_,_,rfl⟩
 .rintro m n ⟨a,b,rfl⟩;have g:min (natD l).length (h.ss.map Srv.d).length=l.length:=by rw[bg,iO];have:=j.1;omega
  rw[cE,g];have c:h.rs.take l.length=h.rs:=by rw[j.1,<-h.rsl];exact aat
  rw[c,aat];ext s;exact k
theorem kB(T:Bl K mg)(D:DefM K mg "first_shortest" dH ["lines","order"]):FnM P w K mg base "first_shortest" 1 2 o6:=by
 refine aV D cy rfl (nN:=4) rfl (by decide) ?ar λq A outer s H E f z=>⟨_,(mz' (aC 2 cy.nd (av (mv' 1) mh'))
   (mz' (cr (bM (mv' 1)) (ai 3 cy.nd) (aa (a9 (ak lr (av (mv' 0) (mv' 3)) (av (mv' 0) (mv' 2)) (aG _)) (aa (aC 2 cy.nd (mv' 3))) am)) aaN)
   (aa (ae (mv' 2))))),?_⟩
 case ar=>intro v x ⟨l,o,rfl,_⟩;rfl
 intro v x C ⟨l,o,rfl,g,k⟩;let⟨c,os,rfl,B⟩:=g.cons;refine ag (MSt.mk [some (.imm (.tuple (natD l))),some (.imm (.tuple (natD (c::os)))),none,none] [] 0) rfl ?_;ext s;refine cb (ca (j:=0) (cA rfl)) ?_;ext s;refine bV (λi m=>∃a,m=MSt.mk [some (.imm (.tuple (natD l))),some (.imm (.tuple (natD (c::os)))),some (.imm (.int (M7.pick (fj l) c ((c::os).take i):Nat))),a] [] 0) ⟨none,rfl⟩ ?_ ?_
 .rintro i d m e n ⟨a,rfl⟩;let⟨j,ej,rfl,F⟩:=gmap e;have u:=g.lt j (Ld ej);have p:M7.pick (fj l) c ((c::os).take i)<l.length:=m9 g i;have y:(c::os).take (i+1)=(c::os).take i++[j]:=by rw[abb,ej];rfl
  rw[y,M7.pick_app];generalize M7.pick (fj l) c ((c::os).take i)=b at p;ext s;refine cb (ca (cA (getN rfl u))) ?_;ext s;refine cb (ca (cA (getN rfl p))) ?_;ext s;refine bi (λh=>?_) (λh=>?_)
  .ext s;rw[if_pos (show fj l j b=true from decide_eq_true (by omega))];exact⟨_,rfl⟩
  .ext s;rw[if_neg (show ¬fj l j b=true by unfold fj;rw[decide_eq_true_eq];omega)];exact⟨_,rfl⟩
 .rintro m n ⟨a,rfl⟩;rw[bg,aat];ext s;exact k
theorem DE(T:Bl K mg)(D:DefM K mg "wait_at" qO ["hall","lines","line"]):FnM P w K mg base "wait_at" 1 3 Lr:=by
 refine aV D mN rfl (nN:=5) rfl (by decide) ?ar λg A outer s H E f x=>⟨_,(mz' (cP (av (av (av (mv' 0) mh') (mv' 2)) mh') (bh (n:=2) (ac (ai 3 mN.nd) (ac (ai 4 mN.nd) aU))))
   (aa (ae (aE (mc' (af cc (af aM (av (mv' 1) (mv' 2)) mh') (mv' 4)) (mc' (mv' 3) mn')))))),?_⟩
 case ar=>intro i u ⟨h,l,j,rfl,_⟩;rfl
 intro i u y ⟨h,l,j,rfl,p,o,a,k⟩;let⟨s,q,m,eb,v⟩:=h.srv a;have b:=p.ok s v;have b2:=b.b2;rw[m,eb]at k;have c:=getN o.1 a;refine ag (MSt.mk [some (.imm (.tuple [.tuple [.int h.a,.int h.b],.tuple (h.ss.map Srv.d),.bool h.mv])),some (.imm (.tuple (natD l))),some (.imm (.int (j:Int))),none,none] [] 0) rfl ?_;ext s;refine cb (d:=s.d) (ca (by rw[aao,q];rfl)) ?_;dsimp only[Srv.d];ext s
 .rfl
 ext s;refine cb (ca (cA c)) ?_;ext s;have e:(((l.getD j 0:Nat):Int)+1)*(s.b:Int)=(((l.getD j 0+1)*s.b:Nat):Int):=by
  rw[adN,aeD];rfl
 rw[e];exact k
theorem kG(T:Bl K mg)(D:DefM K mg "first_quickest" dF ["hall","lines","order"])(G:FnM P w K mg base "wait_at" 1 3 Lr)(g:FnM P w K mg base "is_less" 1 2 J1):FnM P w K mg base "first_quickest" 2 3 p6:=by
 refine aV D bP rfl (nN:=7) rfl (by decide) ?ar λM A outer s H E f x=>⟨_,(mz' (aC 3 bP.nd (av (mv' 2) mh'))
   (mz' (aC 4 bP.nd (mf' G (x.mono (by decide)) (mc' (mv' 0) (mc' (mv' 1) (mc' (mv' 3) mn')))))
   (mz' (cr (bM (mv' 2)) (ai 5 bP.nd) (mz' (aC 6 bP.nd (mf' G (x.mono (by decide)) (mc' (mv' 0) (mc' (mv' 1) (mc' (mv' 5) mn')))))
   (aa (a9 (ck (mf' g (x.mono (by decide)) (mc' (mv' 6) (mc' (mv' 4) mn')))) (aa (u7 (i:=3) (j:=4) bP.nd rfl rfl (by decide) rfl rfl (mc' (mv' 5) (mc' (mv' 6) mn')) rfl)) am))) aaN)
   (aa (ae (mv' 3)))))),?_⟩
 case ar=>intro I Q ⟨h,l,o,rfl,_⟩;rfl
 intro I Q W ⟨h,l,o,rfl,u,v,y,k⟩;let⟨c,os,rfl,O⟩:=y.cons;have C:∀j,j<h.ss.length->(l.getD j 0+1)*h.bn j<1000000000000/\h.an j<1000000000000:=λj p=>by
  let⟨s,S,J,eb,L⟩:=h.srv p;have z:=u.ok s L;have V:=v.le u _ (Ld (getN v.1 p));rw[J,eb];have:=z.a2;have:(l.getD j 0+1)*s.b≤7*1000000:=ad8 (by omega) (by have:=z.b2;omega);omega
 refine ag (MSt.mk [some (.imm h.d),some (.imm (.tuple (natD l))),some (.imm (.tuple (natD (c::os)))),none,none,none,none] [] 0) rfl ?_;ext s;refine cb (ca (j:=0) (cA rfl)) ?_;ext s;refine⟨h,l,c,rfl,u,v,O,?_⟩;ext x;refine bV (λi m=>∃a b,m=MSt.mk [some (.imm h.d),some (.imm (.tuple (natD l))),some (.imm (.tuple (natD (c::os)))),some (.imm (.int (M7.pick (c9 h l) c ((c::os).take i):Nat))),some (.imm (frD ((l.getD (M7.pick (c9 h l) c ((c::os).take i)) 0+1)*h.bn (M7.pick (c9 h l) c ((c::os).take i)):Nat) (h.an (M7.pick (c9 h l) c ((c::os).take i)):Nat))),a,b] [] 0) ⟨none,none,rfl⟩ ?_ ?_
 .rintro i d m e n ⟨a,b,rfl⟩;let⟨j,ej,rfl,U⟩:=gmap e;have p:=y.lt j (Ld ej);have B:M7.pick (c9 h l) c ((c::os).take i)<h.ss.length:=m9 y i;have R:(c::os).take (i+1)=(c::os).take i++[j]:=by rw[abb,ej];rfl
  rw[R,M7.pick_app];generalize M7.pick (c9 h l) c ((c::os).take i)=b at B;ext s;refine⟨h,l,j,rfl,u,v,p,?_⟩;ext x;let⟨b1,b2⟩:=C j p;let⟨F,N⟩:=C b B;refine⟨_,_,_,_,rfl,b1,b2,F,N,?_⟩;ext x;refine bi (λq=>?_) (λq=>?_)
  .ext s;rw[if_pos (show c9 h l j b=true from decide_eq_true q)];exact⟨_,_,rfl⟩
  .ext s;rw[if_neg (show ¬c9 h l j b=true by unfold c9;rw[decide_eq_true_eq];exact q)];exact⟨_,_,rfl⟩
 .rintro m n ⟨a,b,rfl⟩;rw[bg,aat];ext s;exact k
theorem CY(T:Bl K mg)(D:DefM K mg "sent_to" qh ["hall","rule","stand","order"])(G:FnM P w K mg base "first_shortest" 1 2 o6)(a:FnM P w K mg base "first_quickest" 2 3 p6)(b:FnM P w K mg base "place_of_lines" 1 2 AE):FnM P w K mg base "sent_to" 3 4 wJ:=by
 refine aV D jc rfl (nN:=7) rfl (by decide) ?ar λy A outer s H E f c=>⟨_,(mz' (cP (mv' 2) (bh (n:=2) (ac (ai 4 jc.nd) (ac (ai 5 jc.nd) aU))))
   (mz' (aC 6 jc.nd (av (mv' 1) mh'))
   (mz' (a9 (ak (cg c.units) (mv' 6) au (aG _)) (aa (ae (av (mv' 3) mh'))) am)
   (mz' (a9 (ak (cg c.units) (mv' 6) au (aG _)) (aa (ae (mv' 5))) am)
   (mz' (a9 (ak (cg c.units) (mv' 6) au (aG _)) (aa (ae (mf' G (c.mono (by decide)) (mc' (mv' 4) (mc' (c6 (dM iY (mv' 3) ij (e8 mh'))) mn'))))) am)
   (mz' (a9 (ak (cg c.units) (mv' 6) au (aG _)) (aa (ae (mf' G (c.mono (by decide)) (mc' (mv' 4) (mc' (mv' 3) mn'))))) am)
   (mz' (a9 (ak (cg c.units) (mv' 6) au (aG _)) (aa (ae (mf' a (c.mono (by decide)) (mc' (mv' 0) (mc' (mv' 4) (mc' (mv' 3) mn')))))) am)
   (aa (ae (av (av (mv' 1) mh') (mf' b (c.mono (by decide)) (mc' (mv' 0) (mc' (mv' 4) mn'))))))))))))),?_⟩
 case ar=>intro B F ⟨h,r,l,t,o,rfl,_⟩;rfl
 intro B F J ⟨h,r,l,t,o,rfl,v,p,i,g,k⟩;have m:=i.1;have d:Ord l.length o:=by rw[m];exact g
 cases r with
 |random=>
  refine ag (MSt.mk [some (.imm h.d),some (.imm (.tuple [.str "random"])),some (.imm (.tuple [lnD l,.int (t:Int)])),some (.imm (.tuple (natD o))),none,none,none] [] 0) rfl ?_;ext s
  .rfl
  ext s;refine bi (λ_=>?_) (λz=>(z rfl).elim);let⟨x,os,rfl,C⟩:=g.cons;ext s;refine cb (ca (j:=0) (cA rfl)) ?_;ext s;exact k
 |turns=>
  refine ag (MSt.mk [some (.imm h.d),some (.imm (.tuple [.str "turns"])),some (.imm (.tuple [lnD l,.int (t:Int)])),some (.imm (.tuple (natD o))),none,none,none] [] 0) rfl ?_;ext s
  .rfl
  ext s;ext b;exact k
 | two=>
  refine ag (MSt.mk [some (.imm h.d),some (.imm (.tuple [.str "two"])),some (.imm (.tuple [lnD l,.int (t:Int)])),some (.imm (.tuple (natD o))),none,none,none] [] 0) rfl ?_;ext s
  .rfl
  ext s;ext a;refine bi (λ_=>?_) (λz=>(z rfl).elim);ext s;have e:cutD (natD o) none (some 2)=natD (o.take 2):=by
   rw[show(2:Int)=((2:Nat):Int)from rfl,vj];simp[natD]
  rw[e];let⟨x,os,rfl,C⟩:=g.cons;refine⟨l,(x::os).take 2,rfl,⟨by simp,λk I=>d.lt k (acH I),by rw[aaB];omega⟩,?_⟩;ext n;exact k
 |least=>
  refine ag (MSt.mk [some (.imm h.d),some (.imm (.tuple [.str "least"])),some (.imm (.tuple [lnD l,.int (t:Int)])),some (.imm (.tuple (natD o))),none,none,none] [] 0) rfl ?_;ext s
  .rfl
  ext s;ext a;ext b;refine⟨l,o,rfl,d,?_⟩;ext n;exact k
 |quick=>
  refine ag (MSt.mk [some (.imm h.d),some (.imm (.tuple [.str "quick"])),some (.imm (.tuple [lnD l,.int (t:Int)])),some (.imm (.tuple (natD o))),none,none,none] [] 0) rfl ?_;ext s
  .rfl
  ext s;ext a;ext a;refine bi (λ_=>?_) (λz=>(z rfl).elim);ext s;refine⟨h,l,o,rfl,v,i,g,?_⟩;ext n;exact k
 |told u=>
  refine ag (MSt.mk [some (.imm h.d),some (.imm (.tuple [.str "told",.tuple (natD u)])),some (.imm (.tuple [lnD l,.int (t:Int)])),some (.imm (.tuple (natD o))),none,none,none] [] 0) rfl ?_;ext s
  .rfl
  ext s;ext a;ext a;refine bi (λz=>absurd z (by decide +kernel)) (λ_=>?_);ext s;refine⟨h,l,rfl,v,i,?_⟩;ext n;have q:M7.placeF 0 h.rs l<u.length:=by rw[p.1,M7.allR_cnt];exact M7.place_lt i.fits
  refine cb (ca (cA (getN rfl q))) ?_;exact k
theorem qt(T:Bl K mg)(D:DefM K mg "first_stand" h8 ["hall"]):FnM P w K mg base "first_stand" 1 1 Cf:=by
 refine aV D rm rfl (nN:=1) rfl (by decide) ?ar λc A outer s H E f g=>⟨_,(aa (ae (aE (mc' (af cc (aE (mc' mh' mn')) (ay bH (by rfl) T.len d7 (mc' (av (mv' 0) mh') mn'))) (mc' mh' mn'))))),?_⟩
 case ar=>intro b d ⟨h,rfl,_⟩;rfl
 intro b d i ⟨h,rfl,a,k⟩;have n1:=a.n1;have n4:=a.n4;refine ag (MSt.mk [some (.imm (.tuple [.tuple [.int h.a,.int h.b],.tuple (h.ss.map Srv.d),.bool h.mv]))] [] 0) rfl ?_;ext s;rw[iO];refine WN (by omega) (by omega) (by simp;omega) ?_;ext s;have e:(aaz ((h.ss.length:Nat):Int).toNat [ab4 0]).flatten=natD (zer h):=by
  rw[abf];simp[zer,natD]
 rw[e];exact k
theorem s9(T:Bl K mg)(D:DefM K mg "all_orders" fU ["hall"]):FnM P w K mg base "all_orders" 1 1 Ko:=by
 refine aV D c7 rfl (nN:=4) rfl (by decide) ?ar λO A outer s H E f U=>⟨_,(mz' (rg (i:=1) c7.nd rfl (adQ rfl) (ay bH (by rfl) T.len d7 (mc' (av (mv' 0) mh') mn')))
   (mz' (aC 2 c7.nd (b5 (mc' (aE mn') mn')))
   (mz' (cr (cp (by rfl) T.range (mc' (mv' 1) mn')) (ai 3 c7.nd) (aa (C5 (i:=2) (own:=["ahead","line"]) (fr:=["many"]) (ps:=[1]) (sc:=(ab fU)) (by exact⟨rfl,by decide +kernel,by decide +kernel,by decide +kernel,by decide +kernel⟩) c7.nd rfl rfl (bM (mv' 2)) (λ_ _ _ _ _=>(ai 0 (show aaV ((["ahead","line"]:List Str)++(["many"]:List Str))from by decide +kernel))) (λ_ _ _ _ _=>bp) (λ_ _ _ _ _=>(cp (by rfl) T.range (mc' (mv' 2) mn'))) (λ_ _ _ _ _=>(ai 1 (show aaV ((["ahead","line"]:List Str)++(["many"]:List Str))from by decide +kernel))) (λ_ _ _ _ _=>(yo (ak (sy U.units) (mv' 1) (mv' 0) (by with_unfolding_all rfl)))) (λ_ _ _ _ _=>(af aM (mv' 0) (aE (mc' (mv' 1) mn')))))) aaN)
   (aa (ae (mv' 2)))))),?_⟩
 case ar=>intro V W ⟨h,rfl,_⟩;rfl
 intro V W hl ⟨h,rfl,N,k⟩;have n1:=N.n1;have n4:=N.n4;refine ag (MSt.mk [some (.imm (.tuple [.tuple [.int h.a,.int h.b],.tuple (h.ss.map Srv.d),.bool h.mv])),none,none,none] [] 0) rfl ?_;ext c;rw[iO];refine⟨by omega,by omega,?_⟩;rw[abf];refine bV (λi m=>∃a,m=MSt.mk [some (.imm (.tuple [.tuple [.int h.a,.int h.b],.tuple (h.ss.map Srv.d),.bool h.mv])),some (.imm (.int (h.ss.length:Nat))),some (.obj 0),a] [(ordK h.ss.length i).map lnD] 0) ⟨none,rfl⟩ ?_ ?_
 .rintro i d m e n ⟨a,rfl⟩;let⟨hi,rfl⟩:=cY e;let⟨v,o⟩:=pj h.ss.length n4 i (by omega);have p:=ox h.ss.length n4 i (by omega);rw[show ordK h.ss.length (i+1)=oy h.ss.length (ordK h.ss.length i)from rfl];generalize ordK h.ss.length i=os at v o p;ext s;ext n;refine gC (λz m=>∃b c,m=MSt.mk [b,c,some (.imm (.int (h.ss.length:Nat)))] [os.map lnD,(oy h.ss.length (os.take z)).map lnD] 2) ⟨none,none,rfl⟩ ?_ ?_ ?_
  .rintro z m ⟨b,c,rfl⟩;rfl
  .rintro z d m ez nz ⟨b,c,rfl⟩;let⟨l,B,rfl,hz⟩:=gmap ez;let⟨X,R⟩:=o l (Ld B);have Y:=(AD.mp B).1;have M:=p z (by omega);ext s;refine⟨by omega,by omega,?_⟩;rw[abf];let⟨G,u⟩:∃G:Nat->List (List Nat),G=λy=>oy h.ss.length (os.take z)++((aaL y).filter λq=>!l.contains q).map λq=>l++[q]:=⟨_,rfl⟩;have F:G 0=oy h.ss.length (os.take z):=by rw[u];simp
   have J:G h.ss.length=oy h.ss.length (os.take (z+1)):=by rw[u,zr B]
   have g:∀y,G (y+1)=G y++([y].filter λq=>!l.contains q).map λq=>l++[q]:=λy=>by
    rw[u];show _++((aaL (y+1)).filter _).map _=_;rw[adM,agT,aaw,aa3]
   have C:∀y,y≤4->(G y).length≤28:=λy Q=>by
    rw[u];dsimp only;rw[aal,iO];have:=agh (λq=>!l.contains q) (aaL y);rw[abg]at this;omega
   clear u;rw[<-F];refine fb (λy m=>∃c,m=MSt.mk [some (.imm (lnD l)),c,some (.imm (.int (h.ss.length:Nat)))] [os.map lnD,(G y).map lnD] 2) ⟨c,rfl⟩ ?_ ?_
   .rintro y d m ey ny ⟨c,rfl⟩ D1 hD1 hR1;let⟨Q,rfl⟩:=cY ey;rw[show(0:Int)+(y:Int)=((y:Nat):Int) by omega];have L:=C y (by omega);have I:(natD l).any (λx=>aaj x (.int (y:Int)))=l.contains y:=by
     rw[abX,ahk,List.contains_iff_mem];constructor
     .rintro⟨x,hx,ex⟩;let⟨w,Z,rfl⟩:=aap.mp hx;rw[dJ]at ex;rw[<-of_decide_eq_true ex];exact Z
     .intro hm;exact⟨_,aap.mpr ⟨y,hm,rfl⟩,by rw[dJ];exact decide_eq_true rfl⟩
    ext s;refine x_in (d:=.int (y:Int)) (ds:=natD l) rfl (.inr rfl) (dW _) (cN l) (by decide) ?_;ext s;rw[I]
    cases hc:l.contains y with
    |true=>
     ext f;refine hD1 _ ⟨some (.imm (.int (y:Int))),?_⟩;rw[g,show([y].filter λq=>!l.contains q)=[] by rw[adq,hc];rfl,acn,aaZ];rfl
    |false=>
     refine iE ?_;ext s;refine uc (by rw[aag,bg];simp;omega) ?_;ext s;refine⟨_,rfl,by rw[aag,iO];omega,hD1 _ ⟨some (.imm (.int (y:Int))),?_⟩⟩;rw[g,show([y].filter λq=>!l.contains q)=[y] by rw[adq,hc];rfl,aaw];simp[lnD,natD,MSt.setV]
   .rintro m ny ⟨c,rfl⟩;rw[aH,J];ext s;exact⟨_,_,rfl⟩
  .rintro m nz ⟨b,c,rfl⟩;rw[iO,aat];ext n;refine ig (k:=0) rfl (Mt _) (λj S=>?_) ⟨_,rfl⟩
   match j with
   |0|1|3=>exact λz=>by cases z
   |2=>exact(S rfl).elim
   |n+4=>exact λz=>by cases z
 .rintro m n ⟨a,rfl⟩;rw[aH];ext s;exact k
theorem uX(T:Bl K mg)(D:DefM K mg "all_moves" fB ["hall"])(G:FnM P w K mg base "all_orders" 1 1 Ko):FnM P w K mg base "all_moves" 2 1 Du:=by
 refine aV D lG rfl (nN:=2) rfl (by decide) ?ar λn A outer s H E f p=>⟨_,(mz' (mJ (i:=1) (own:=["line"]) (fr:=[]) (ps:=[]) (sc:=(ab fB)) (by exact⟨rfl,by decide +kernel,by decide +kernel,by decide +kernel,by decide +kernel⟩) lG.nd rfl rfl (cp (by rfl) T.range (mc' (ay bH (by rfl) T.len d7 (mc' (av (mv' 0) mh') mn')) mn')) (λ_ _ _ _ _=>(ai 0 (show aaV ((["line"]:List Str)++([]:List Str))from by decide +kernel))) (λ_ _ _ _ _=>bp) (λ_ _ _ _ _=>(aE (mc' au (mc' (mv' 0) mn')))))
   (aa (ae (af aM (af aM (bj (own:=["order"]) (fr:=[]) (ps:=[]) (sc:=(ab fB)) (by exact⟨rfl,by decide +kernel,by decide +kernel,by decide +kernel,by decide +kernel⟩) (bM (c6 (mf' G (p.mono (by decide)) (mc' (mv' 0) mn')))) (λ_ _ _ _ _=>(ai 0 (show aaV ((["order"]:List Str)++([]:List Str))from by decide +kernel))) (λ_ _ _ _ _=>bp) (λ_ _ _ _ _=>(aE (mc' au (mc' (mv' 0) mn'))))) (mv' 1)) (b5 (mc' (aE (mc' au mn')) mn')))))),?_⟩
 case ar=>intro q u ⟨h,rfl,_⟩;rfl
 intro q u x ⟨h,rfl,g,k⟩;have n4:=g.n4;have no:(ordK h.ss.length h.ss.length).length≤24:=(pj _ n4 _ n4).1;refine ag (MSt.mk [some (.imm (.tuple [.tuple [.int h.a,.int h.b],.tuple (h.ss.map Srv.d),.bool h.mv])),none] [] 0) rfl ?_;ext s;refine⟨by rw[iO];omega,by rw[iO];omega,?_⟩;rw[iO,abf];refine fb (λi m=>∃a:Option L2.R,m=MSt.mk [a] [(aaL i).map λk=>(Mv.done k).d] 1) ⟨none,rfl⟩ ?_ ?_
 .rintro i d m e c ⟨a,rfl⟩ D1 hD1 hR1;let⟨v,rfl⟩:=cY e;ext s;refine⟨_,rfl,by rw[aag,iO,abg];omega,hD1 _ ⟨some (.imm (.int (0+(i:Int)))),?_⟩⟩;rw[adM,aaw,show(0:Int)+(i:Int)=((i:Nat):Int) by omega];rfl
 intro m c ⟨a,rfl⟩;rw[aH];ext n;refine dQ ?_;ext x;refine⟨h,rfl,g,?_⟩;ext x;refine fb (λi m=>∃a:Option L2.R,m=MSt.mk [a] [(aaL h.ss.length).map λk=>(Mv.done k).d,((ordK h.ss.length h.ss.length).take i).map λo=>(Mv.come o).d] 2) ⟨none,rfl⟩ ?_ ?_
 .rintro i d m e c ⟨a,rfl⟩ D1 hD1 hR1;let⟨o,j,rfl,v⟩:=gmap e;ext s;refine⟨_,rfl,by rw[aag,iO,aaB];omega,hD1 _ ⟨some (.imm (lnD o)),?_⟩⟩;rw[abb,j,aaw];rfl
 intro m c ⟨a,rfl⟩;rw[iO,aat];ext x;refine OO (a:=(ordK h.ss.length h.ss.length).map λo=>(Mv.come o).d) (b:=(aaL h.ss.length).map λk=>(Mv.done k).d) rfl (by rw[iO,iO,abg,aag];omega) ?_;ext s;refine qM (by rw[aal,iO,iO,abg,aag];simp;omega) ?_;rw[X9]at k;ext s;exact k
theorem u6(T:Bl K mg)(D:DefM K mg "with_more" jH ["lines","line","more"]):FnM P w K mg base "with_more" 1 3 xW:=by
 refine aV D va rfl (nN:=3) rfl (by decide) ?ar λc A outer s H E f n=>⟨_,(aa (ae (af aM (af aM (dM iY (mv' 0) ij (e8 (mv' 1))) (aE (mc' (af aM (av (mv' 0) (mv' 1)) (mv' 2)) mn'))) (dM iY (mv' 0) (e8 (af aM (mv' 1) mh')) ij)))),?_⟩
 case ar=>intro g i ⟨l,j,d,x,rfl,_⟩;rfl
 intro g i o ⟨l,j,d,x,rfl,a,m,b,k⟩;refine ag (MSt.mk [some (.imm (.tuple (natD l))),some (.imm (.int (j:Int))),some (.imm (.int d))] [] 0) rfl ?_;ext s;refine cb (ca (cA (getN rfl a))) ?_;ext s;rw[b,vj];refine uc (by rw[aag,aaB,bg];simp;omega) ?_;ext s;rw[show(j:Int)+1=((j+1:Nat):Int)from rfl,tm];refine uc (by rw[aag,aal,aaB,aeh,bg];simp;omega) ?_;ext s;have e:(natD l).take j++[.int (x:Int)]++(natD l).drop (j+1)=natD (l.set j x):=by
  rw[<-JF,List.set_eq_take_append_cons_drop,if_pos (by rw[bg];exact a)];simp
 rw[e];exact k
theorem FB(T:Bl K mg)(D:DefM K mg "come_to" qi ["hall","lines","line"])(G:FnM P w K mg base "with_more" 1 3 xW):FnM P w K mg base "come_to" 2 3 LL:=by
 refine aV D zw rfl (nN:=3) rfl (by decide) ?ar λm A outer s H E f g=>⟨_,(mz' (a9 (ak (cg g.units) (av (mv' 1) (mv' 2)) (av (av (av (mv' 0) mh') (mv' 2)) mh') (aG _)) (aa (ae (aE (mc' (mv' 1) (mc' au mn'))))) am)
   (aa (ae (aE (mc' (mf' G (g.mono (by decide)) (mc' (mv' 1) (mc' (mv' 2) (mc' mh' mn')))) (mc' au mn')))))),?_⟩
 case ar=>intro n q ⟨h,l,j,rfl,_⟩;rfl
 intro n q v ⟨h,l,j,rfl,p,o,c,k⟩;have a:=o.1;have n4:=p.n4;let⟨s,i,u,eb,x⟩:=h.srv c;have b:h.rn j=s.r:=bJ (Hall.rs_get i);refine ag (MSt.mk [some (.imm (.tuple [.tuple [.int h.a,.int h.b],.tuple (h.ss.map Srv.d),.bool h.mv])),some (.imm (.tuple (natD l))),some (.imm (.int (j:Int)))] [] 0) rfl ?_;ext s;refine cb (ca (cA (getN a c))) ?_;ext s;refine cb (d:=s.d) (ca (by rw[aao,i];rfl)) ?_;dsimp only[Srv.d];ext s;refine bi (λz=>?_) (λz=>?_)
 .ext s;have e:ji h l j=(l,.away):=if_pos (by rw[b];omega);rw[e]at k;exact k
 .ext s;refine⟨l,j,1,l.getD j 0+1,rfl,by omega,by omega,rfl,?_⟩;ext x;have e:ji h l j=(l.set j (l.getD j 0+1),.taken):=if_neg (by rw[b];omega);rw[e]at k;exact k
theorem BM(T:Bl K mg)(D:DefM K mg "done_at" qC ["lines","line"])(G:FnM P w K mg base "with_more" 1 3 xW):FnM P w K mg base "done_at" 2 2 LH:=by
 refine aV D DU rfl (nN:=2) rfl (by decide) ?ar λd A outer s H E f c=>⟨_,(mz' (a9 (ak (cg c.units) (av (mv' 0) (mv' 1)) mh' (aG _)) (aa (ae (aE (mc' (mv' 0) (mc' au mn'))))) am)
   (aa (ae (aE (mc' (mf' G (c.mono (by decide)) (mc' (mv' 0) (mc' (mv' 1) (mc' (sv lQ mh') mn')))) (mc' au mn')))))),?_⟩
 case ar=>intro g i ⟨l,j,rfl,_⟩;rfl
 intro g i m ⟨l,j,rfl,b,a,k⟩;refine ag (MSt.mk [some (.imm (.tuple (natD l))),some (.imm (.int (j:Int)))] [] 0) rfl ?_;ext s;refine cb (ca (cA (getN rfl b))) ?_;ext s;refine bi (λz=>?_) (λz=>?_)
 .ext s;have e:je l j=(l,.none):=if_pos (by omega);rw[e]at k;exact k
 .ext s;refine⟨l,j,-1,l.getD j 0-1,rfl,b,a,by omega,?_⟩;ext x;have e:je l j=(l.set j (l.getD j 0-1),.served):=if_neg (by omega);rw[e]at k;exact k
theorem uU(T:Bl K mg)(D:DefM K mg "next_shift" iM ["hall","lines"]):FnM P w K mg base "next_shift" 1 2 Bg:=by
 refine aV D tX rfl (nN:=2) rfl (by decide) ?ar λI A outer s H E f u=>⟨_,(mz' (a9 (EW.pt (fv (fQ (ck (av (mv' 0) mh'))) (fv (ak (sy u.units) mh' (mv' 1) (by with_unfolding_all rfl)) (gg (ak lr (ay (jD rfl) (by rfl) T.max xy (mc' (mv' 1) mn')) mh' (aG _)))))) (aa (ae cQ)) am)
   (aa (ae (aE (mc' (J8 adG afw (pf u.units) (mv' 1) (mc' (ay (jD rfl) (by rfl) T.max xy (mc' (mv' 1) mn')) mn')) (mc' (J8 adG afw (pf u.units) (mv' 1) (mc' mh' mn')) mn')))))),?_⟩
 case ar=>intro J L ⟨h,l,rfl,_⟩;rfl
 intro J L Q ⟨h,l,rfl,p,M,k⟩;have a:df (natD l)=some (l.map λ(x:Nat)=>(x:Int)):=by
  have:=fZ (l.map λ(x:Nat)=>(x:Int));rwa[aaW]at this
 have g:(l.map λ(x:Nat)=>(x:Int))≠[]:=λz=>p (adv.mp z);have c:∀x:Int,x∈(l.map λ(x:Nat)=>(x:Int))->(∀y∈(l.map λ(x:Nat)=>(x:Int)),y≤x)->x=(maxN l:Int):=λx m b=>by
  let⟨n,G,rfl⟩:=aap.mp m;have N:=CN n G;have O:=b (maxN l:Int) (aap.mpr ⟨maxN l,qk p,rfl⟩);omega
 have v:(natD l).any (λy=>aaj y (.int 0))=decide (0∈l):=by
  rw[abX];rw[ahk,decide_eq_true_eq];constructor
  .rintro⟨y,b,e⟩;let⟨x,m,rfl⟩:=aap.mp b;have F:=dJ x 0;rw[show((0:Nat):Int)=0 from rfl,e]at F;have:x=0:=of_decide_eq_true F.symm;rw[<-this];exact m
  .intro o;exact⟨.int 0,aap.mpr ⟨0,o,rfl⟩,dJ 0 0⟩
 refine ag (MSt.mk [some (.imm (.tuple [.tuple [.int h.a,.int h.b],.tuple (h.ss.map Srv.d),.bool h.mv])),some (.imm (.tuple (natD l)))] [] 0) rfl ?_;ext s
 cases hmv:h.mv with
 |false=>
  refine iE ?_;ext s;have e:fz h l=none:=if_neg (by rw[hmv];exact λz=>by cases z.1);rw[e]at k;exact k
 | true=>
  ext f;refine x_in (d:=.int 0) (ds:=natD l) rfl (.inr rfl) (dW 0) (cN l) (by decide) ?_;ext s;rw[v]
  by_cases o:0∈l
  .rw[decide_eq_true o];ext f;refine z7 rfl a g λx m b=>?_;rw[c x m b];ext s;refine bi (λz=>?_) (λz=>?_)
   .ext s;have e:fz h l=none:=if_neg (λq=>by have:=q.2.2;omega);rw[e]at k;exact k
   .ext s;refine z7 rfl a g λx m b=>?_;rw[c x m b];have s1:=kJ (qk p);have C:=kJ o;ext s;refine x8 (j:=idx l (maxN l)) (k':=0) (dW _) (cN l) (by decide) (cA s1.1) (by rw[dJ];exact decide_eq_true rfl) (λi y B b=>?_) ?_
    .obtain⟨z,ez,rfl,_⟩:=gmap b;rw[dJ];exact decide_eq_false (s1.2 i z B ez)
    ext s;refine x8 (j:=idx l 0) (k':=0) (dW _) (cN l) (by decide) (cA C.1) (dJ 0 0) (λi y B b=>?_) ?_
    .obtain⟨z',ez,rfl,_⟩:=gmap b;have:=dJ z' 0;rw[show((0:Nat):Int)=0 from rfl]at this;rw[this];exact decide_eq_false (C.2 i z' B ez)
    ext s;have e:fz h l=some (idx l (maxN l),idx l 0):=if_pos ⟨hmv,o,by omega⟩;rw[e]at k;exact k
  .rw[decide_eq_false o];refine iE ?_;ext s;have e:fz h l=none:=if_neg (λq=>o q.2.1);rw[e]at k;exact k
theorem Fy(T:Bl K mg)(D:DefM K mg "settled" qY ["hall","lines"])(G:FnM P w K mg base "next_shift" 1 2 Bg)(a:FnM P w K mg base "with_more" 1 3 xW):FnM P w K mg base "settled" 2 2 tQ:=by
 refine aV D jy rfl (nN:=3) rfl (by decide) ?ar λI A outer s H E f q=>⟨_,(mz' (aC 2 jy.nd (mf' G (q.mono (by decide)) (mc' (mv' 0) (mc' (mv' 1) mn'))))
   (mz' (gI (ak o9 (mv' 2) cQ (aG _)) (mz' (aC 1 jy.nd (mf' a (q.mono (by decide)) (mc' (mf' a (q.mono (by decide)) (mc' (mv' 1) (mc' (av (mv' 2) mh') (mc' (sv lQ mh') mn')))) (mc' (av (mv' 2) mh') (mc' mh' mn')))))
   (aa (aC 2 jy.nd (mf' G (q.mono (by decide)) (mc' (mv' 0) (mc' (mv' 1) mn')))))) aaN)
   (aa (ae (mv' 1))))),?_⟩
 case ar=>intro y L ⟨h,l,rfl,_⟩;rfl
 intro y L Q ⟨h,l,rfl,j,g,k⟩;refine ag (MSt.mk [some (.imm h.d),some (.imm (lnD l)),none] [] 0) rfl ?_;ext s;refine⟨h,l,rfl,j,g,?_⟩;ext x;refine lj (λn m=>∃b:List Nat,m=MSt.mk [some (.imm h.d),some (.imm (lnD b)),some (.imm (optP (fz h b)))] [] 0/\n=b.count 0/\fI h n b=p8 h l/\b≠[]/\b.length≤1000) (l.count 0) ⟨l,rfl,rfl,rfl,j,g⟩ ?_;intro n m N ⟨b,rfl,rfl,u,o,i⟩;ext s
 cases e:fz h b with
 |none=>
  ext f;rw[t5 e]at u;rw[<-u]at k;exact k
 | some p=>
  refine iE ?_;let⟨C,F,J,B,c⟩:=ph e;let⟨R,m1,m2,v,x⟩:=jO e;have O:b.getD p.1 0=maxN b:=bJ m1;have M:(b.set p.1 (maxN b-1)).getD p.2 0=0:=bJ (by rw[aaR x];exact v);dsimp only[optP];ext s;refine⟨b,p.1,-1,maxN b-1,rfl,F,i,by omega,?_⟩;ext x;refine⟨b.set p.1 (maxN b-1),p.2,1,1,rfl,by rw[abt];exact J,by rw[abt];exact i,by omega,?_⟩;rw[<-C];ext x;have d:dE b p≠[]:=λz=>by
   rw[z]at c;exact o (abr c.symm)
  refine⟨h,dE b p,rfl,d,by omega,?_⟩;ext x;refine⟨(dE b p).count 0,by omega,dE b p,rfl,rfl,?_,d,by omega⟩;rw[<-u,<-B];show _=fI h ((dE b p).count 0+1) b;simp only[fI,e]
theorem rZ(T:Bl K mg)(D:DefM K mg "turn_behind" gW ["hall","rule","turn"]):FnM P w K mg base "turn_behind" 1 3 Cq:=by
 refine aV D qe rfl (nN:=3) rfl (by decide) ?ar λc A outer s H E f a=>⟨_,(mz' (a9 (ak (cg a.units) (av (mv' 1) mh') au (aG _)) (aa (ae (af fJ (af aM (mv' 2) mh') (ay bH (by rfl) T.len d7 (mc' (av (mv' 0) mh') mn'))))) am)
   (aa (ae (mv' 2)))),?_⟩
 case ar=>intro b g ⟨h,r,t,rfl,_⟩;rfl
 intro b g i ⟨h,r,t,rfl,d,k⟩;have n1:=d.n1;refine ag (MSt.mk [some (.imm (.tuple [.tuple [.int h.a,.int h.b],.tuple (h.ss.map Srv.d),.bool h.mv])),some (.imm r.d),some (.imm (.int (t:Int)))] [] 0) rfl ?_;ext s;refine CZ r.dc (ca (j:=0) rfl) ?_;ext s;refine bi (λz=>?_) (λz=>?_)
 .have a:r = .turns:=by cases r<;>first|rfl|exact absurd z (by decide +kernel)|exact absurd (show("told" : Str) = "turns" from z) (by decide +kernel)
  subst a;ext s;refine Ng (by rw[iO];omega) ?_;rw[iO];exact k
 .ext s;have e:Fh h r t=t:=by cases r<;>first|rfl|exact absurd rfl z
  rw[e]at k;exact k
theorem Fz(T:Bl K mg)(D:DefM K mg "line_of" qK ["hall","rule","stand","move"])(G:FnM P w K mg base "sent_to" 3 4 wJ):FnM P w K mg base "line_of" 4 4 wD:=by
 refine aV D Bh rfl (nN:=4) rfl (by decide) ?ar λc A outer s H E f b=>⟨_,(mz' (a9 (ak (cg b.units) (av (mv' 3) mh') au (aG _)) (aa (ae (mf' G (b.mono (by decide)) (mc' (mv' 0) (mc' (mv' 1) (mc' (mv' 2) (mc' (av (mv' 3) mh') mn'))))))) am)
   (mz' (a9 (ak (cg b.units) (av (mv' 3) mh') au (aG _)) (aa (ae (av (mv' 3) mh'))) am)
   (aa (ae cQ)))),?_⟩
 case ar=>intro d i ⟨h,r,l,t,mv,rfl,_⟩;rfl
 intro d i n ⟨h,r,l,t,mv,rfl,g,a,e,m,k⟩
 cases mv with
 |come o=>
  refine ag (MSt.mk [some (.imm h.d),some (.imm r.d),some (.imm (stD l t)),some (.imm (.tuple [.str "come",lnD o]))] [] 0) rfl ?_;ext s;refine bi (λ_=>?_) (λz=>(z rfl).elim);ext s;refine⟨h,r,l,t,o,rfl,g,a,e,m,?_⟩;ext n;exact k
 |done j=>
  refine ag (MSt.mk [some (.imm h.d),some (.imm r.d),some (.imm (stD l t)),some (.imm (.tuple [.str "done",.int (j:Int)]))] [] 0) rfl ?_;ext s;ext b;exact k
 |still=>
  refine ag (MSt.mk [some (.imm h.d),some (.imm r.d),some (.imm (stD l t)),some (.imm (.tuple [.str "still"]))] [] 0) rfl ?_;ext s;ext a;exact k
theorem zh(T:Bl K mg)(D:DefM K mg "moved_on" kU ["hall","rule","stand","move"])(c:FnM P w K mg base "line_of" 4 4 wD)(b:FnM P w K mg base "come_to" 2 3 LL)(G:FnM P w K mg base "turn_behind" 1 3 Cq)(a:FnM P w K mg base "done_at" 2 2 LH)(d:FnM P w K mg base "settled" 2 2 tQ):FnM P w K mg base "moved_on" 5 4 Av:=by
 refine aV D b8 rfl (nN:=8) rfl (by decide) ?ar λC A outer s H E f p=>⟨_,(mz' (cP (mv' 2) (bh (n:=2) (ac (ai 4 b8.nd) (ac (ai 5 b8.nd) aU))))
   (mz' (aC 6 b8.nd au)
   (mz' (aC 7 b8.nd (mf' c (p.mono (by decide)) (mc' (mv' 0) (mc' (mv' 1) (mc' (mv' 2) (mc' (mv' 3) mn'))))))
   (mz' (a9 (ak (cg p.units) (av (mv' 3) mh') au (aG _)) (mz' (cP (mf' b (p.mono (by decide)) (mc' (mv' 0) (mc' (mv' 4) (mc' (mv' 7) mn')))) (bh (n:=2) (ac (ai 4 b8.nd) (ac (ai 6 b8.nd) aU))))
   (aa (aC 5 b8.nd (mf' G (p.mono (by decide)) (mc' (mv' 0) (mc' (mv' 1) (mc' (mv' 5) mn'))))))) (aa (a9 (ak (cg p.units) (av (mv' 3) mh') au (aG _)) (aa (cP (mf' a (p.mono (by decide)) (mc' (mv' 4) (mc' (mv' 7) mn'))) (bh (n:=2) (ac (ai 4 b8.nd) (ac (ai 6 b8.nd) aU))))) am)))
   (aa (ae (aE (mc' (aE (mc' (mf' d (p.mono (by decide)) (mc' (mv' 0) (mc' (mv' 4) mn'))) (mc' (mv' 5) mn'))) (mc' (mv' 6) mn'))))))))),?_⟩
 case ar=>intro y F ⟨h,r,l,t,mv,rfl,_⟩;rfl
 intro y F I ⟨h,r,l,t,mv,rfl,m,i,q,u,B,k⟩;have v:=q.1;have n1:=m.n1;have n4:=m.n4;have ne:∀x:List Nat,x.length=l.length->x≠[]:=λx e z=>by rw[z]at e;simp at e;omega
 cases mv with
 |come o=>
  refine ag (MSt.mk [some (.imm h.d),some (.imm r.d),some (.imm (.tuple [lnD l,.int (t:Int)])),some (.imm (.tuple [.str "come",lnD o])),none,none,none,none] [] 0) rfl ?_;ext s
  .rfl
  ext s;refine⟨h,r,l,t,.come o,rfl,m,i,q,u,?_⟩;dsimp only[Iu];ext x;refine bi (λ_=>?_) (λz=>(z rfl).elim);ext s;refine⟨h,l,sent h r l t o,rfl,m,q,Cg m i q u B,?_⟩;ext n;dsimp only[lwD];ext s
  .rfl
  ext s;refine⟨h,r,t,rfl,m,?_⟩;ext x;have g:(ji h l (sent h r l t o)).1.length=l.length:=by unfold ji;split<;>simp
  refine⟨h,_,rfl,ne _ g,by omega,?_⟩;ext x;exact k
 |done j=>
  refine ag (MSt.mk [some (.imm h.d),some (.imm r.d),some (.imm (.tuple [lnD l,.int (t:Int)])),some (.imm (.tuple [.str "done",.int (j:Int)])),none,none,none,none] [] 0) rfl ?_;ext s
  .rfl
  ext s;refine⟨h,r,l,t,.done j,rfl,m,i,q,u,?_⟩;dsimp only[Iu];ext x;ext b;refine⟨l,j,rfl,by rw[v];exact u,by omega,?_⟩;ext n;dsimp only[lwD];ext s
  .rfl
  ext s;have g:(je l j).1.length=l.length:=by unfold je;split<;>simp
  refine⟨h,_,rfl,ne _ g,by omega,?_⟩;ext x;exact k
 |still=>
  refine ag (MSt.mk [some (.imm h.d),some (.imm r.d),some (.imm (.tuple [lnD l,.int (t:Int)])),some (.imm (.tuple [.str "still"])),none,none,none,none] [] 0) rfl ?_;ext s
  .rfl
  ext s;refine⟨h,r,l,t,.still,rfl,m,i,q,u,?_⟩;dsimp only[Iu];ext x;ext a;refine⟨h,l,rfl,ne _ rfl,by omega,?_⟩;ext x;exact k
def sV(T:Bl K mg)(D:DefM K mg "figures_of" fX ["numbers"]):FnM P w K mg base "figures_of" 1 1 Kq:=by
 refine aV D uQ rfl (nN:=1) rfl (by decide) ?ar λc A outer s H E f q=>⟨_,(aa (ae (bj (own:=["number"]) (fr:=[]) (ps:=[]) (sc:=(ab fX)) (by exact⟨rfl,by decide +kernel,by decide +kernel,by decide +kernel,by decide +kernel⟩) (bM (mv' 0)) (λ_ _ _ _ _=>(ai 0 (show aaV ((["number"]:List Str)++([]:List Str))from by decide +kernel))) (λ_ _ _ _ _=>bp) (λ_ _ _ _ _=>(bf gU (by rfl) T.str su (mc' (mv' 0) mn')))))),?_⟩
 case ar=>intro j p ⟨o,rfl,_⟩;rfl
 intro j p u ⟨o,rfl,b,g,k⟩;refine ag (MSt.mk [some (.imm (.tuple (natD o)))] [] 0) rfl ?_;ext s;refine bV (λi m=>∃a,m=MSt.mk [a] [((o.take i).map fig).map .str] 1) ⟨none,rfl⟩ ?_ ?_
 .rintro i d m e n ⟨a,rfl⟩;let⟨x,ex,rfl,v⟩:=gmap e;have:=g x (Ld ex);ext s;refine Db (lu (by omega)) ?_;ext s;refine⟨_,rfl,by rw[iO,iO,aaB,aag];omega,some (.imm (.int (x:Int))),?_⟩;rw[ae6,ex,aaw,aaw];rfl
 .rintro m n ⟨a,rfl⟩;rw[bg,aat];ext s;exact k
def oJ(T:Bl K mg)(D:DefM K mg "read_figures" di ["signs"])(G:FnM P w K mg base "read_figure" 2 1 KZ):FnM P w K mg base "read_figures" 3 1 Lu:=by
 refine aV D ol rfl (nN:=1) rfl (by decide) ?ar λj A outer s H E f o=>⟨_,(aa (ae (bf bU (by rfl) T.tuple cW (mc' (bj (own:=["sign"]) (fr:=[]) (ps:=[]) (sc:=(ab di)) (by exact⟨rfl,by decide +kernel,by decide +kernel,by decide +kernel,by decide +kernel⟩) (bM (mv' 0)) (λ_ _ _ _ _=>(ai 0 (show aaV ((["sign"]:List Str)++([]:List Str))from by decide +kernel))) (λ_ _ _ _ _=>bp) (λ_ _ _ _ _=>(mf' G (o.mono (by decide)) (mc' (mv' 0) mn')))) mn')))),?_⟩
 case ar=>intro p u ⟨n,b,rfl,_⟩;rfl
 intro p u x ⟨n,b,rfl,v,g,q,k⟩;refine ag (MSt.mk [some (.imm (.list (b.map .str)))] [] 0) rfl ?_;ext s;ext n;refine bV (λi m=>∃a,m=MSt.mk [a] [(b.take i).map figD] 1) ⟨none,rfl⟩ ?_ ?_
 .rintro i d m e hnp ⟨a,rfl⟩;let⟨w,c,rfl,y⟩:=gmap e;ext s;refine⟨n,w,rfl,v w (Ld c),g,?_⟩;ext x;refine⟨_,rfl,by rw[aag];simp;omega,some (.imm (.str w)),?_⟩;rw[bv _ c]
 .rintro m hnp ⟨a,rfl⟩;rw[iO,aat];ext x;exact k
theorem se(T:Bl K mg)(D:DefM K mg "triple_line" gL ["triple"])(G:FnM P w K mg base "figures_of" 1 1 Kq):FnM P w K mg base "triple_line" 2 1 KH:=by
 refine aV D dq rfl (nN:=4) rfl (by decide) ?ar λm A outer s H E f i=>⟨_,(mz' (cP (mv' 0) (bh (n:=3) (ac (ai 1 dq.nd) (ac (ai 2 dq.nd) (ac (ai 3 dq.nd) aU)))))
   (aa (ae (yp aed aee rE au (mc' (af aM (af aM (af aM (mf' G (i.mono (by decide)) (mc' (mv' 1) mn')) (b5 (mc' (jC T.c_BETWEEN (by rfl)) mn'))) (mf' G (i.mono (by decide)) (mc' (mv' 2) mn'))) (b5 (mc' (jC T.c_BETWEEN (by rfl)) (mc' (bf gU (by rfl) T.str su (mc' (mv' 3) mn')) mn')))) mn'))))),?_⟩
 case ar=>intro o q ⟨h,t,rfl,_⟩;rfl
 intro o q u ⟨h,⟨x,y,d⟩,rfl,c,T,k⟩;let⟨j,b⟩:=cf c T.x;let⟨g,a⟩:=cf c T.y;let⟨n,rfl⟩:∃n:Nat,d=(n:Int):=⟨d.toNat,by have:=T.d0;dsimp only at this;omega⟩;have p:n<10^40:=by have:=T.d1;dsimp only at this;omega
 dsimp only at j b g a;refine ag (MSt.mk [some (.imm (.tuple [lnD x,lnD y,.int (n:Int)])),none,none,none] [] 0) rfl ?_;ext s
 .rfl
 ext s;refine⟨⟨_,rfl⟩,?_⟩;ext s;refine⟨x,rfl,j,b,?_⟩;ext x;refine qM (by rw[iO,iO,aag];simp;omega) ?_;ext s;refine⟨y,rfl,g,a,?_⟩;ext x;refine qM (by rw[aag];simp;omega) ?_;ext s;refine Db (t8 p) ?_;ext s;refine qM (by rw[aag];simp;omega) ?_;ext s;refine FE (ts:=wsT (x,y,(n:Int))) ?e (vh (LU c T) (by decide)) ?_
 case e=>unfold wsT;simp only[aaw,aah,acn];rfl
 ext s;exact k
theorem qT(T:Bl K mg)(D:DefM K mg "paper_lines" e9 ["paper"])(G:FnM P w K mg base "triple_line" 2 1 KH):FnM P w K mg base "paper_lines" 3 1 LJ:=by
 refine aV D rh rfl (nN:=1) rfl (by decide) ?ar λc A outer s H E f j=>⟨_,(aa (ae (bj (own:=["triple"]) (fr:=[]) (ps:=[]) (sc:=(ab e9)) (by exact⟨rfl,by decide +kernel,by decide +kernel,by decide +kernel,by decide +kernel⟩) (bM (mv' 0)) (λ_ _ _ _ _=>(ai 0 (show aaV ((["triple"]:List Str)++([]:List Str))from by decide +kernel))) (λ_ _ _ _ _=>bp) (λ_ _ _ _ _=>(mf' G (j.mono (by decide)) (mc' (mv' 0) mn')))))),?_⟩
 case ar=>intro o q ⟨h,P,rfl,_⟩;rfl
 intro o q u ⟨h,P,rfl,p,g,u,k⟩;refine ag (MSt.mk [some (.imm (.tuple (P.map trD)))] [] 0) rfl ?_;ext s;refine bV (λi m=>∃a,m=MSt.mk [a] [(P.take i).map λt=>.str (lnT t)] 1) ⟨none,rfl⟩ ?_ ?_
 .rintro i d m e n ⟨a,rfl⟩;let⟨t,b,rfl,v⟩:=gmap e;ext s;refine⟨h,t,rfl,p,g t (Ld b),?_⟩;ext x;refine⟨_,rfl,by rw[iO,aaB,aag];omega,some (.imm (trD t)),?_⟩;rw[ae6,b,aaw];rfl
 .rintro m n ⟨a,rfl⟩;rw[iO,aat];ext s;exact k
theorem r8(T:Bl K mg)(D:DefM K mg "read_triple" ic ["hall","line"])(G:FnM P w K mg base "read_figures" 3 1 Lu)(g:FnM P w K mg base "read_number" 2 1 LQ)(b:FnM P w K mg base "is_lines" 3 2 AM):FnM P w K mg base "read_triple" 4 2 Fj:=by
 refine aV D cq rfl (nN:=7) rfl (by decide) ?ar λU A outer s H E f o=>⟨_,(mz' (aC 2 cq.nd (ay bH (by rfl) T.len d7 (mc' (av (mv' 0) mh') mn')))
   (mz' (aC 3 cq.nd (c6 (yp ac0 PySem.F.type_str_split DI (mv' 1) (mc' au mn'))))
   (mz' (a9 (EW.pt (fv (ak (gn o.units) (ay bH (by rfl) T.len d7 (mc' (mv' 3) mn')) (af aM (af cc mh' (mv' 2)) mh') (aG _)) (fv (ak (gn o.units) (av (mv' 3) (mv' 2)) (jC T.c_BETWEEN (by rfl)) (aG _)) (gg (ak (gn o.units) (av (mv' 3) (af aM (af cc mh' (mv' 2)) mh')) (jC T.c_BETWEEN (by rfl)) (aG _)))))) (aa (ae cQ)) am)
   (mz' (aC 4 cq.nd (mf' G (o.mono (by decide)) (mc' (c6 (dM iY (mv' 3) ij (e8 (mv' 2)))) mn')))
   (mz' (aC 5 cq.nd (mf' G (o.mono (by decide)) (mc' (c6 (dM iY (mv' 3) (e8 (af aM (mv' 2) mh')) (e8 (af aM (af cc mh' (mv' 2)) mh')))) mn')))
   (mz' (aC 6 cq.nd (mf' g (o.mono (by decide)) (mc' (av (mv' 3) (sv lQ mh')) mn')))
   (mz' (a9 (EW.pt (fv (fQ (ck (mf' b (o.mono (by decide)) (mc' (mv' 0) (mc' (mv' 4) mn'))))) (fv (fQ (ck (mf' b (o.mono (by decide)) (mc' (mv' 0) (mc' (mv' 5) mn'))))) (gg (ak vi (mv' 6) cQ (aG _)))))) (aa (ae cQ)) am)
   (aa (ae (aE (mc' (mv' 4) (mc' (mv' 5) (mc' (mv' 6) mn'))))))))))))),?_⟩
 case ar=>intro X N ⟨n,h,x,rfl,_⟩;rfl
 intro X N hl ⟨n,h,x,rfl,J,R,Z,k⟩;have Q:=R.len;have n1:=J.n1;have n4:=J.n4;have u:=JB R;have no:trB h (abq x " ")=false->N (.imm .none) []:=λe=>by rw[Sw e]at k;exact k
 have y:trB h (abq x " ")=true->N (.imm (trDx h (abq x " "))) []:=λe=>by rw[Cc e]at k;exact k
 clear k;refine ag (MSt.mk [some (.imm (.tuple [.tuple [.int h.a,.int h.b],.tuple (h.ss.map Srv.d),.bool h.mv])),some (.imm (.str x)),none,none,none,none,none] [] 0) rfl ?_;ext s;rw[iO];ext n;refine⟨⟨_,rfl⟩,?_⟩;ext s;refine Ph (by decide +kernel) (by omega) ?_;generalize abq x " " = a at u no y;ext s;rw[iO];have q:¬a.length=2*h.ss.length+3->trB h a=false:=λz=>by unfold trB;rw[decide_eq_false z];rfl
 refine bi (λz=>?_) (λz=>?_)
 .ext s;exact no (q (by omega))
 have M:a.length=2*h.ss.length+3:=by omega
 have m:trB h a=(decide (a.getD h.ss.length "" = "|")&&(decide (a.getD (2*h.ss.length+1) "" = "|")&&(jE h (jA (a.take h.ss.length))&&(jE h (jA ((a.drop (h.ss.length+1)).take h.ss.length))&&(numN (a.getD (2*h.ss.length+2) "")).isSome)))):=by unfold trB;rw[decide_eq_true M,acp]
 have S:∀(i:Int) (j:Nat),i=(j:Int)->j<a.length->atI (a.map aei) i=some (.str (a.getD j "")):=λi j e V=>by
  rw[e];exact ca (by rw[aao,vM V];rfl)
 ext s;refine mI (S _ h.ss.length rfl (by omega)) ?_;ext s
 by_cases F:a.getD h.ss.length "" = "|"
 rotate_left
 .rw[decide_eq_false F,if_pos (show(!false)=true from rfl)];ext s;exact no (by rw[m,decide_eq_false F];rfl)
 rw[decide_eq_true F,if_neg (show ¬(!true)=true by decide)];rw[decide_eq_true F,acp]at m;ext s;refine mI (S _ (2*h.ss.length+1) (by omega) (by omega)) ?_;ext s
 by_cases I:a.getD (2*h.ss.length+1) "" = "|"
 rotate_left
 .rw[decide_eq_false I,if_pos (show(!false)=true from rfl)];ext s;exact no (by rw[m,decide_eq_false I];rfl)
 rw[decide_eq_true I,if_neg (show ¬(!true)=true by decide)];rw[decide_eq_true I,acp]at m;ext s;have p:∀w∈a,AT (n+1) w:=λw B=>u.at B;rw[vj,<-List.map_take];refine⟨n+1,a.take h.ss.length,rfl,λw B=>p w (acH B),by omega,by rw[aaB];omega,?_⟩;ext x;have Y:cutD (a.map aei) (some ((h.ss.length:Int)+1)) (some (2*(h.ss.length:Int)+1))=((a.drop (h.ss.length+1)).take h.ss.length).map .str:=by
  rw[show(h.ss.length:Int)+1=((h.ss.length+1:Nat):Int) by omega,show 2*(h.ss.length:Int)+1=((2*h.ss.length+1:Nat):Int) by omega,FX (by omega) (by rw[iO];omega),<-List.map_drop,<-List.map_take,show 2*h.ss.length+1-(h.ss.length+1)=h.ss.length by omega]
 rw[Y];refine⟨n+1,(a.drop (h.ss.length+1)).take h.ss.length,rfl,λw B=>p w (List.mem_of_mem_drop (acH B)),by omega,by rw[aaB,aeh];omega,?_⟩;ext x;refine mI (d:=.str (a.getD (2*h.ss.length+2) "")) (by
  rw[Gj (k:=2*h.ss.length+2) (by rw[iO];omega),aao,vM (by omega)];rfl) ?_
 ext s;have C:AT (n+1) (a.getD (2*h.ss.length+2) ""):=p _ (Ld (vM (i:=2*h.ss.length+2) (by omega)));unfold trDx at y;generalize a.getD (2*h.ss.length+2) "" = v at C m y;generalize a.take h.ss.length=L at m y;generalize (a.drop (h.ss.length+1)).take h.ss.length=O at m y;refine⟨n+1,v,rfl,C,by omega,?_⟩;ext d;refine⟨9,h,jA L,rfl,J,wM L,?_⟩;ext x
 cases q1:jE h (jA L)with
 |false=>
  rw[if_pos (c:=(!false)=true) rfl];ext s;exact no (by rw[m,q1];rfl)
 | true=>
  rw[q1,acp]at m;ext e;ext s;refine⟨9,h,jA O,rfl,J,wM O,?_⟩;ext x
  cases q2:jE h (jA O)with
  |false=>
   rw[if_pos (c:=(!false)=true) rfl];ext s;exact no (by rw[m,q2];rfl)
  | true=>
   rw[q2,acp]at m;ext e;ext s;have W:l7 (.imm (numD v)) = !(numN v).isSome:=by
    unfold numD
    cases numN v<;>rfl
   rw[W]
   cases q3:(numN v).isSome with
   |false=>
    rw[if_pos (c:=(!false)=true) rfl];ext s;exact no (by rw[m,q3])
   |true=>
    ext e;ext s;exact y (by rw[m,q3])
theorem tq(T:Bl K mg)(D:DefM K mg "read_paper" f8 ["hall","lines"])(G:FnM P w K mg base "read_triple" 4 2 Fj):FnM P w K mg base "read_paper" 5 2 Vq:=by
 refine aV D bw rfl (nN:=6) rfl (by decide) ?ar λq A outer s H E f v=>⟨_,(mz' (aC 2 bw.nd (b5 mn'))
   (mz' (cr (xt T.enumerate (mc' (mv' 1) mn')) (bh (n:=2) (ac (ai 3 bw.nd) (ac (ai 4 bw.nd) aU))) (mz' (aC 5 bw.nd (mf' G (v.mono (by decide)) (mc' (mv' 0) (mc' (mv' 4) mn'))))
   (mz' (a9 (ak vi (mv' 5) cQ (aG _)) (aa k9) am)
   (aa (cz (js abi abj dB (mv' 2) (mc' (mv' 5) mn')))))) aaN)
   (aa (ae (bf bU (by rfl) T.tuple cW (mc' (mv' 2) mn')))))),?_⟩
 case ar=>intro x z ⟨h,P,rfl,_⟩;rfl
 intro x z B ⟨h,P,rfl,o,u,y,k⟩;refine ag (MSt.mk [some (.imm h.d),some (.imm (.list (pl63 P))),none,none,none,none] [] 0) rfl ?_;ext c;refine .inl ⟨false,_,rfl,?_⟩;refine bV (λi m=>∃a b c,m=MSt.mk [some (.imm h.d),some (.imm (.list (pl63 P))),some (.obj 0),a,b,c] [(P.take i).map trD] 0) ⟨none,none,none,rfl⟩ ?_ ?_
 .rintro i d m e hnp ⟨a,b,c,rfl⟩;have p:i<P.length:=by have:=(AD.mp e).1;rwa[cI,pl63,iO]at this
  have j:P[i]?=some P[i]:=mT p;have g:=u _ (acq p);generalize P[i]=t at j g;rw[mi (d:=.str (lnT t)) (by rw[pl63,aao,j];rfl)]at e;cases e;ext s
  .rfl
  ext s;refine⟨100,h,lnT t,rfl,o,sJ o g,by decide,?_⟩;rw[Lc o g];ext d;ext f;refine' gc (ds:=(P.take i).map trD) ?eb (by rw[iO,aaB,aag];omega) ?_
  case eb=>rfl
  ext n;rw[bv _ j];exact⟨_,_,_,rfl⟩
 .rintro m hnp ⟨a,b,c,rfl⟩;rw[cI,pl63,iO,aat];ext s;exact k
theorem mq(T:Bl K mg)(D:DefM K mg "read_paper" f8 ["hall","lines"])(G:FnM P w K mg base "read_triple" 4 2 Fj):FnM P w K mg base "read_paper" 5 2 V6:=by
 refine aV D bw rfl (nN:=6) rfl (by decide) ?ar λq A outer s H E f v=>⟨_,(mz' (aC 2 bw.nd (b5 mn'))
   (mz' (cr (xt T.enumerate (mc' (mv' 1) mn')) (bh (n:=2) (ac (ai 3 bw.nd) (ac (ai 4 bw.nd) aU))) (mz' (aC 5 bw.nd (mf' G (v.mono (by decide)) (mc' (mv' 0) (mc' (mv' 4) mn'))))
   (mz' (a9 (ak vi (mv' 5) cQ (aG _)) (aa k9) am)
   (aa (cz (js abi abj dB (mv' 2) (mc' (mv' 5) mn')))))) aaN)
   (aa (ae (bf bU (by rfl) T.tuple cW (mc' (mv' 2) mn')))))),?_⟩
 case ar=>intro x z ⟨h,P,rfl,_⟩;rfl
 intro x z B ⟨h,P,rfl,o,u,y,k⟩;refine ag (MSt.mk [some (.imm h.d),some (.obj 0),none,none,none,none] [pl63 P] 1) rfl ?_;ext c;refine .inr ⟨0,_,rfl,rfl,?_⟩;refine gC (λi m=>∃a b c,m=MSt.mk [some (.imm h.d),some (.obj 0),some (.obj 1),a,b,c] [pl63 P,(P.take i).map trD] 1) ⟨none,none,none,rfl⟩ (by intro i m ⟨a,b,c,rfl⟩;rfl) ?_ ?_
 .rintro i d m e hnp ⟨a,b,c,rfl⟩;have p:i<P.length:=by have:=(AD.mp e).1;rwa[cI,pl63,iO]at this
  have j:P[i]?=some P[i]:=mT p;have g:=u _ (acq p);generalize P[i]=t at j g;rw[mi (d:=.str (lnT t)) (by rw[pl63,aao,j];rfl)]at e;cases e;ext s
  .rfl
  ext s;refine⟨100,h,lnT t,rfl,o,sJ o g,by decide,?_⟩;rw[Lc o g];ext d;ext f;refine' gc (ds:=(P.take i).map trD) ?eb (by rw[iO,aaB,aag];omega) ?_
  case eb=>rfl
  ext n;rw[bv _ j];exact⟨_,_,_,rfl⟩
 .rintro m hnp ⟨a,b,c,rfl⟩;rw[cI,pl63,iO,aat];ext s;exact k
theorem sn(T:Bl K mg)(D:DefM K mg "kept_lines" i9 ["hall","lines"])(G:FnM P w K mg base "is_alike" 1 1 Lj):FnM P w K mg base "kept_lines" 2 2 si:=by
 refine aV D t9 rfl (nN:=2) rfl (by decide) ?ar λc A outer s H E f a=>⟨_,(mz' (a9 (ck (mf' G (a.mono (by decide)) (mc' (mv' 0) mn'))) (aa (ae (bf bU (by rfl) T.tuple cW (mc' (o7 mn (by rfl) T.sorted nw (mc' (mv' 1) mn')) mn')))) am)
   (aa (ae (mv' 1)))),?_⟩
 case ar=>intro b g ⟨h,l,rfl,_⟩;rfl
 intro b g o ⟨h,l,rfl,d,j,k⟩;refine ag (MSt.mk [some (.imm h.d),some (.imm (.tuple (natD l)))] [] 0) rfl ?_;ext s;refine⟨h,rfl,d,?_⟩;ext n;unfold cZ at k
 cases q:alk h with
 |true=>
  rw[q,if_pos rfl]at k;ext s;refine C7 rfl (kI l) (by rw[iO];omega) λn i m=>?_;have e:=xi i m;subst e;rw[<-tz];ext s;exact k
 |false=>
  rw[q,if_neg aai]at k;ext s;exact k
def ot(T:Bl K mg)(D:DefM K mg "refuse_turns" fV ["one","other"]):FnM P w K mg base "refuse_turns" 1 2 LM:=by
 refine aV D oh rfl (nN:=2) rfl (by decide) ?ar λc A outer s H E f b=>⟨_,(aa (a9 (EW.pt (fv (ak (cg b.units) (av (mv' 0) mh') au (aG _)) (gg (ak (cg b.units) (av (mv' 1) mh') au (aG _))))) (aa k9) am)),?_⟩
 case ar=>intro d i ⟨r1,a,rfl,_⟩;rfl
 intro d i p ⟨r1,a,rfl,g,j,k⟩;refine ag (MSt.mk [some (.imm r1.d),some (.imm a.d)] [] 0) rfl ?_;ext s;let⟨o,m⟩:=J7 r1;let⟨n,e⟩:=J7 a;refine rG m ?_;ext s;rw[Bf g];ext s;refine rG e ?_;ext s;rw[Bf j];ext s;exact k
theorem oa(T:Bl K mg)(D:DefM K mg "first_triple" fY ["hall"])(G:FnM P w K mg base "first_stand" 1 1 Cf):FnM P w K mg base "first_triple" 2 1 Kh:=by
 refine aV D iI rfl (nN:=2) rfl (by decide) ?ar λc A outer s H E f d=>⟨_,(mz' (aC 1 iI.nd (av (mf' G (d.mono (by decide)) (mc' (mv' 0) mn')) mh'))
   (aa (ae (aE (mc' (mv' 1) (mc' (mv' 1) (mc' mh' mn'))))))),?_⟩
 case ar=>intro e b ⟨h,rfl,_⟩;rfl
 intro e b g ⟨h,rfl,a,k⟩;refine ag (MSt.mk [some (.imm h.d),none] [] 0) rfl ?_;ext s;refine⟨h,rfl,a,?_⟩;ext x;refine rG (tl:=[.int 0]) rfl ?_;ext s;exact k
theorem vd(T:Bl K mg)(D:DefM K mg "kept_step" jP ["hall","rule","lines","move"])(a:FnM P w K mg base "moved_on" 5 4 Av)(G:FnM P w K mg base "kept_lines" 2 2 si):FnM P w K mg base "kept_step" 6 4 W6:=by
 refine aV D i5 rfl (nN:=6) rfl (by decide) ?ar λi A outer s H E f b=>⟨_,(mz' (cP (mf' a (b.mono (by decide)) (mc' (mv' 0) (mc' (mv' 1) (mc' (aE (mc' (mv' 2) (mc' mh' mn'))) (mc' (mv' 3) mn'))))) (bh (n:=2) (ac (ai 4 i5.nd) (ac (ai 5 i5.nd) aU))))
   (aa (ae (aE (mc' (mf' G (b.mono (by decide)) (mc' (mv' 0) (mc' (av (mv' 4) mh') mn'))) (mc' (jB (cg b.units) (mv' 5) au (aG _)) mn')))))),?_⟩
 case ar=>intro o j ⟨h,r,l,m,rfl,_⟩;rfl
 intro o j q ⟨h,r,l,m,rfl,c,b,d,e,g,k⟩;have n4:=c.n4;have S:=sg c b (t:=0) ⟨e,λz=>(d z).elim,by decide⟩ g;have p:=S.ln.1;refine ag (MSt.mk [some (.imm h.d),some (.imm r.d),some (.imm (lnD l)),some (.imm m.d),none,none] [] 0) rfl ?_;ext s;refine⟨h,r,l,0,m,rfl,c,b,e,g,λz=>(d z).elim,?_⟩;ext n;unfold mvD;ext s
 .rfl
 ext s;refine rG (tl:=[.int ((ze h r l 0 m).2.1:Int)]) rfl ?_;ext s;refine⟨h,_,rfl,c,by omega,?_⟩;ext x;rw[GL];exact k
def l5(T:Bl K mg)(D:DefM K mg "triple_behind" fh ["one_step","other_step","lead"]):FnM P w K mg base "triple_behind" 1 3 VC:=by
 refine aV D bG rfl (nN:=7) rfl (by decide) ?ar λc A outer s H E f i=>⟨_,(mz' (cP (mv' 0) (bh (n:=2) (ac (ai 3 bG.nd) (ac (ai 4 bG.nd) aU))))
   (mz' (cP (mv' 1) (bh (n:=2) (ac (ai 5 bG.nd) (ac (ai 6 bG.nd) aU))))
   (mz' (a9 (EW.pt (nq (ck (mv' 6)) (jj (fQ (ck (mv' 4)))))) (aa (vy 2 bG.nd mh' K7)) am)
   (mz' (a9 (EW.pt (nq (ck (mv' 4)) (jj (fQ (ck (mv' 6)))))) (aa (vy 2 bG.nd mh' R9)) am)
   (aa (ae (aE (mc' (mv' 3) (mc' (mv' 5) (mc' (mv' 2) mn')))))))))),?_⟩
 case ar=>intro e g ⟨p,q,d,rfl,_⟩;rfl
 intro e g j ⟨p,q,d,rfl,k⟩;unfold aw at k;refine ag (MSt.mk [some (.imm (.tuple [lnD p.1,.bool (decide (p.2 = .away))])),some (.imm (.tuple [lnD q.1,.bool (decide (q.2 = .away))])),some (.imm (.int d)),none,none,none,none] [] 0) rfl ?_;ext s
 .rfl
 ext s
 .rfl
 ext s
 by_cases a:p.2 = .away<;>by_cases b:q.2 = .away
 .rw[if_pos a,if_pos b,show d+1-1=d by omega]at k;rw[decide_eq_true a,decide_eq_true b];ext s;rw[if_neg (by decide)];ext s;rw[if_neg (by decide)];ext s;exact k
 .rw[if_pos a,if_neg b,show d+0-1=d-1 by omega]at k;rw[decide_eq_true a,decide_eq_false b];ext s;rw[if_pos (by decide)];refine Mj d rfl ?_;ext s;refine⟨1,rfl,?_⟩;ext x;exact k
 .rw[if_neg a,if_pos b,show d+1-0=d+1 by omega]at k;rw[decide_eq_false a,decide_eq_true b];ext s;rw[if_pos (by decide)];refine Mj d rfl ?_;ext s;refine⟨1,rfl,?_⟩;ext s;exact k
 .rw[if_neg a,if_neg b,show d+0-0=d by omega]at k;rw[decide_eq_false a,decide_eq_false b];ext s;exact k
theorem yG(T:Bl K mg)(D:DefM K mg "is_worse" nU ["triple"]):FnM P w K mg base "is_worse" 1 1 J0:=by
 refine aV D ii rfl (nN:=4) rfl (by decide) ?ar λc A outer s H E f e=>⟨_,(mz' (cP (mv' 0) (bh (n:=3) (ac (ai 1 ii.nd) (ac (ai 2 ii.nd) (ac (ai 3 ii.nd) aU)))))
   (aa (ae (jB o3 (ay (oZ rfl) (by rfl) T.sum A9 (mc' (mv' 1) mn')) (af aM (ay (oZ rfl) (by rfl) T.sum A9 (mc' (mv' 2) mn')) (mv' 3)) (aG _))))),?_⟩
 case ar=>intro b a ⟨t,rfl,_⟩;rfl
 intro b a d ⟨t,rfl,k⟩;refine ag (MSt.mk [some (.imm (.tuple [lnD t.1,lnD t.2.1,.int t.2.2])),none,none,none] [] 0) rfl ?_;ext s
 .rfl
 ext s;refine LR rfl (kI t.1) ?_;rw[vX];ext s;refine LR rfl (kI t.2.1) ?_;rw[vX];ext s;exact k
theorem jJ(T:Bl K mg)(D:MthD K "Search" "steps_of" "Search.steps_of" br ["self","side","lines"])(j:FnM P w K mg base "kept_step" 6 4 W6):gu P w K mg base "Search" "steps_of" 7 3 uC:=by
 refine jY D fu rfl (nN:=4) rfl (by decide) ?ar λF A outer s H E f o=>⟨_,(mz' (a9 (ak (o5 o.units) (aE (mc' (mv' 1) (mc' (mv' 2) mn'))) (ci T.f_Search_steps (mv' 0)) (by with_unfolding_all rfl)) (mz' (rg (i:=3) fu.nd rfl (adQ rfl) (av (ci T.f_Search_rules (mv' 0)) (mv' 1)))
   (aa (tw o.units (c6 (bj (own:=["move"]) (fr:=["self","rule","lines"]) (ps:=[0,3,2]) (sc:=(ab br)) (by exact⟨rfl,by decide +kernel,by decide +kernel,by decide +kernel,by decide +kernel⟩) (bM (ci T.f_Search_moves (mv' 0))) (λ_ _ _ _ _=>(ai 0 (show aaV ((["move"]:List Str)++(["self","rule","lines"]:List Str))from by decide +kernel))) (λ_ _ _ _ _=>bp) (λ_ _ _ _ _=>(mf' j (o.mono (by decide)) (mc' (ci T.f_Search_hall (mv' 1)) (mc' (mv' 2) (mc' (mv' 3) (mc' (mv' 0) mn')))))))) (ci T.f_Search_steps (mv' 0)) (aE (mc' (mv' 1) (mc' (mv' 2) mn')))))) am)
   (aa (ae (yl o.units (ci T.f_Search_steps (mv' 0)) (aE (mc' (mv' 1) (mc' (mv' 2) mn'))))))),?_⟩
 case ar=>intro M O ⟨h,r1,g,C,L,T,Y,s,l,rfl,_⟩;rfl
 intro M O V ⟨h,r1,g,C,L,T,Y,s,l,rfl,G,U,X,s2,v,k⟩;have B:∀C,oneK (j4 h r1 g C) (skD (s,l))=true:=λC=>by unfold oneK;rw[MD (h:=h) C,Qx (h:=h),acM,Bool.or_true]
 refine ag (MSt.mk [some (.at 0 []),some (.imm (.int (s:Int))),some (.imm (lnD l)),none] [[scT h r1 g C L T Y]] 1) rfl ?_;refine uo ?_;refine x_JS (λm=>∃(a:Option L2.R) (n:List Ck),m=MSt.mk [some (.at 0 []),some (.imm (.int (s:Int))),some (.imm (lnD l)),a] [[scT h r1 g n L T Y]] 1/\CaOk h n/\(s,l)∈n) (λN u=>?_) ?_
 .ext s;refine vq rfl (T5 (k:=skD (s,l)) (kvs:=j4 h r1 g C) ⟨rfl,rfl⟩ (B C) ?_);rw[st_look]
  by_cases c:(s,l)∈C
  .rw[if_pos c];refine wm (b:=false) ?_;ext s;exact u _ ⟨_,C,rfl,X,c⟩
  .rw[if_neg c];refine wm (b:=true) ?_;ext s;refine cb (d:=(rl r1 g s).d) (by rcases (show s=0\/s=1 by omega)with rfl|rfl<;>rfl) ?_;ext s;ext n;refine fb (λi m=>∃a:Option L2.R,m=MSt.mk [a,some (.at 0 []),some (.imm (rl r1 g s).d),some (.imm (lnD l))] [[scT h r1 g C L T Y],(stv h r1 g (s,l)).take i] 2) ⟨none,rfl⟩ ?_ ?_
   .rintro i d m e hnp ⟨a,rfl⟩ D1 hD1 hR1;let⟨mv,q,rfl,W⟩:=gmap e;ext s;refine⟨h,_,l,mv,rfl,G.o,(G.rl s).1,(G.rl s).2,v,Lq G.o mv (Ld q),?_⟩;ext x;have S:=(DH G.o).2;refine⟨_,rfl,by unfold stv;rw[aaB,iO,aag];omega,hD1 _ ⟨some (.imm mv.d),?_⟩⟩;rw[abb,show(stv h r1 g (s,l))[i]?=some (ksD (kst h (rl r1 g s) l mv)) by unfold stv;rw[aao,q];rfl];rfl
   .rintro m hnp ⟨a,rfl⟩;ext x;refine vq rfl ?_;ext s;have R:=X.len;refine⟨_,j4 h r1 g C,rfl,rfl,rfl,MD (h:=h) C,Qx (h:=h),by unfold j4;rw[iO,aag];omega,?_⟩;ext n;rw[show adj ([[scT h r1 g C L T Y],(stv h r1 g (s,l)).take ((mvs h).map Mv.d).length].getD 1 []) = .list ((stv h r1 g (s,l)).take ((mvs h).map Mv.d).length)from rfl,show adj ((stv h r1 g (s,l)).take ((mvs h).map Mv.d).length) = .list (stv h r1 g (s,l)) by rw[show((mvs h).map Mv.d).length=(stv h r1 g (s,l)).length by unfold stv;rw[iO,iO],aat],show ac1 [.int (s:Int),lnD l]=skD (s,l)from rfl,L7 c];refine u _ ⟨some (.imm (rl r1 g s).d),C++[(s,l)],rfl,⟨?_,λp Q=>?_⟩,aaJ _ aaa⟩
    .exact acF.mpr ⟨X.nd,acT _ _,λx I y J z=>c (by rw[aaf.mp J]at z;rw[<-z];exact I)⟩
    .rcases aaG.mp Q with z|z
     .exact X.ok p z
     .rw[aaf.mp z];exact⟨s2,v⟩
 .rintro m ⟨a,n,rfl,X',c⟩;ext s;refine vq rfl ?_;ext s;refine⟨j4 h r1 g n,.list (stv h r1 g (s,l)),⟨rfl,rfl⟩,B n,st_look.trans (if_pos c),?_⟩;ext s;exact k n X'
theorem f7(T:Bl K mg)(D:MthD K "Search" "triples_behind" "Search.triples_behind" aK ["self","triple"])(c:gu P w K mg base "Search" "steps_of" 7 3 uC)(g:FnM P w K mg base "triple_behind" 1 3 VC):gu P w K mg base "Search" "triples_behind" 8 2 Kl:=by
 refine jY D a8 rfl (nN:=7) rfl (by decide) ?ar λM A outer s H E f p=>⟨_,(mz' (cP (mv' 1) (bh (n:=3) (ac (ai 2 a8.nd) (ac (ai 3 a8.nd) (ac (qW (i:=4) a8.nd rfl (adQ rfl)) aU)))))
   (mz' (aC 5 a8.nd (ik c (p.mono (by decide)) (mv' 0) (mc' mh' (mc' (mv' 2) mn'))))
   (mz' (aC 6 a8.nd (ik c (p.mono (by decide)) (mv' 0) (mc' mh' (mc' (mv' 3) mn'))))
   (aa (ae (bj (own:=["one_step","other_step"]) (fr:=["lead"]) (ps:=[4]) (sc:=(ab aK)) (by exact⟨rfl,by decide +kernel,by decide +kernel,by decide +kernel,by decide +kernel⟩) (qH T.zip (mc' (mv' 5) (mc' (mv' 6) mn'))) (λ_ _ _ _ _=>(bh (n:=2) (ac (ai 0 (show aaV ((["one_step","other_step"]:List Str)++(["lead"]:List Str))from by decide +kernel)) (ac (ai 1 (show aaV ((["one_step","other_step"]:List Str)++(["lead"]:List Str))from by decide +kernel)) aU)))) (λ_ _ _ _ _=>bp) (λ_ _ _ _ _=>(mf' g (p.mono (by decide)) (mc' (mv' 0) (mc' (mv' 1) (mc' (mv' 2) mn'))))))))))),?_⟩
 case ar=>intro z O ⟨h,r1,j,C,L,T,Y,t,rfl,_⟩;rfl
 intro z O W ⟨h,r1,j,C,L,T,Y,t,rfl,G,u,X,F,ly,k⟩;refine ag (MSt.mk [some (.at 0 []),some (.imm (.tuple [lnD t.1,lnD t.2.1,.int t.2.2])),none,none,none,none,none] [[scT h r1 j C L T Y]] 1) rfl ?_;ext s
 .rfl
 ext s;refine⟨h,r1,j,C,L,T,Y,0,t.1,rfl,G,u,X,by decide,F,λx I=>?_⟩;ext x;refine⟨h,r1,j,x,L,T,Y,1,t.2.1,rfl,G,u,I,by decide,ly,λq N=>?_⟩;ext x;refine⟨false,_,false,_,rfl,rfl,?_⟩;refine fb (λi m=>∃a b:Option L2.R,m=MSt.mk [a,b,some (.imm (.int t.2.2))] [[scT h r1 j q L T Y],((mvs h).map λm=>trD (bth h r1 j t m)).take i] 2) ⟨none,none,rfl⟩ ?_ ?_
 .rintro i d m e hnp ⟨a,b,rfl⟩ D1 hD1 hR1;let⟨U,V,J,B,rfl⟩:=qr e;let⟨mv,v,rfl,S⟩:=gmap J;let⟨mv',o,rfl,Q⟩:=gmap B;rw[v]at o;cases o;ext s
  .rfl
  ext s;refine⟨_,_,t.2.2,rfl,?_⟩;ext x;have R:=(DH G.o).2;refine⟨_,rfl,by rw[aaB,iO,aag];omega,hD1 _ ⟨some (.imm (ksD (kst h (rl r1 j 0) t.1 mv))),some (.imm (ksD (kst h (rl r1 j 1) t.2.1 mv))),?_⟩⟩;rw[abb,aao,v];rfl
 .rintro m hnp ⟨a,b,rfl⟩;ext x;have y:(zipD (stv h r1 j (0,t.1)) (stv h r1 j (1,t.2.1))).length=((mvs h).map λm=>trD (bth h r1 j t m)).length:=by unfold stv;rw[cE,iO,iO,iO];exact ag4 _
  rw[y,aat];exact k q N
theorem uL(T:Bl K mg)(D:MthD K "Search" "met" "Search.met" c5 ["self","triple","ahead","move"]):gu P w K mg base "Search" "met" 1 4 QM:=by
 refine jY D ef rfl (nN:=7) rfl (by decide) ?ar λB A outer s H E f o=>⟨_,(mz' (cP (mv' 1) (bh (n:=3) (ac (ai 4 ef.nd) (ac (ai 5 ef.nd) (ac (ai 6 ef.nd) aU)))))
   (aa (a9 (EW.pt (fv (ak (o5 o.units) (aE (mc' (mv' 4) (mc' (mv' 5) mn'))) (ci T.f_Search_leads (mv' 0)) (by with_unfolding_all rfl)) (gg (ak lr (mv' 6) (yl o.units (ci T.f_Search_leads (mv' 0)) (aE (mc' (mv' 4) (mc' (mv' 5) mn')))) (aG _))))) (mz' (tw o.units (mv' 6) (ci T.f_Search_leads (mv' 0)) (aE (mc' (mv' 4) (mc' (mv' 5) mn'))))
   (mz' (cz (js abi abj nh (ci T.f_Search_triples (mv' 0)) (mc' (mv' 1) mn')))
   (aa (cz (js abi abj nh (ci T.f_Search_ways (mv' 0)) (mc' (aE (mc' (mv' 2) (mc' (mv' 3) mn'))) mn')))))) am))),?_⟩
 case ar=>intro I O ⟨h,r1,i,C,L,T,Y,t,y,a,d,rfl,_⟩;rfl
 intro I O Z ⟨h,r1,i,C,L,T,Y,t,y,a,d,rfl,Q,v,M,N,ly,S,U,W,k1,k2⟩;have g:kyA (ldD L)=true:=Ve v M;have u:kyD (pkD (t.1,t.2.1))=true:=Vf v N ly;have x:oneK (ldD L) (pkD (t.1,t.2.1))=true:=by unfold oneK;rw[g,u,acM,Bool.or_true]
 refine ag (MSt.mk [some (.at 0 []),some (.imm (.tuple [lnD t.1,lnD t.2.1,.int t.2.2])),some (.imm (.int a)),some (.imm d),none,none,none] [[scT h r1 i C L T Y]] 1) rfl ?_;refine uo ?_;ext s
 .rfl
 refine mm (x_gM (mm (x_gM (mm (x_gM (Ay ?_))))));ext n;refine WX ?_;refine x_JT (λc m=>m=MSt.mk [some (.at 0 []),some (.imm (.tuple [lnD t.1,lnD t.2.1,.int t.2.2])),some (.imm (.int a)),some (.imm d),some (.imm (lnD t.1)),some (.imm (lnD t.2.1)),some (.imm (.int t.2.2))] [[scT h r1 i C L T Y]] 1/\(c=true->t.2.2<(lkL (t.1,t.2.1) L).getD (t.2.2+1))/\(c=false->∃w,lkL (t.1,t.2.1) L=some w/\w≤t.2.2)) (λV q=>?_) ?_
 .ext x;refine qv rfl g (T5 (k:=pkD (t.1,t.2.1)) (kvs:=ldD L) ⟨rfl,rfl⟩ x ?_);rw[QT]
  cases e:lkL (t.1,t.2.1) L with
  |none=>
   refine wm (b:=true) ?_;exact q _ _ ⟨rfl,λ_=>by rw[e];exact(show t.2.2<t.2.2+1 by omega),λz=>by cases z⟩
  |some w=>
   refine wm (b:=false) ?_;ext s;refine qv rfl g ?_;ext s;refine⟨ldD L,.int w,⟨rfl,rfl⟩,x,(QT (t.1,t.2.1) L).trans (by rw[e];rfl),?_⟩;ext s;refine q _ _ ⟨rfl,λz=>by rw[e];exact of_decide_eq_true z,λz=>⟨w,e,?_⟩⟩;have:=of_decide_eq_false z;omega
 .rintro c m ⟨rfl,h1,h2⟩
  cases c with
  |false=>
   let⟨w,G,F⟩:=h2 rfl;ext s;exact k2 w G F
  | true=>
   ext s;refine qv rfl g ?_;ext s;refine⟨_,ldD L,rfl,rfl,rfl,g,u,by unfold ldD;rw[iO,aag];omega,?_⟩;rw[show ac1 [lnD t.1,lnD t.2.1]=pkD (t.1,t.2.1)from rfl,KU];ext n;have X:setT (scT h r1 i C L T Y) [5] (.dict (lfKV (ldD (setL (t.1,t.2.1) t.2.2 L))))=scT h r1 i C (setL (t.1,t.2.1) t.2.2 L) T Y:=rfl;generalize setL (t.1,t.2.1) t.2.2 L=j at *;ext s;refine⟨⟨_,nu T⟩,?_⟩;ext s;refine t6 (p:=[6]) (m:=MSt.mk _ [[scT h r1 i C j T Y]] 1) rfl rfl (nu T) rfl (by rw[iO,aag];omega) ?_;have R:setT (scT h r1 i C j T Y) [6] (.list ((T.map trD++[trD t]).map lfD))=scT h r1 i C j (T++[t]) Y:=by
    rw[show T.map trD++[trD t]=(T++[t]).map trD by rw[aaw];rfl,XY];rfl
   ext n;rw[show ac1 [lnD t.1,lnD t.2.1,.int t.2.2]=trD t from rfl,R];ext s;refine⟨⟨_,sK Y⟩,?_⟩;ext s;refine t6 (p:=[7]) rfl rfl (sK Y) rfl (by rw[iO,aag];omega) ?_;have J:setT (scT h r1 i C j (T++[t]) Y) [7] (.list ((Y.map wyD++[wyD y]).map lfD))=scT h r1 i C j (T++[t]) (Y++[y]):=by
    rw[show Y.map wyD++[wyD y]=(Y++[y]).map wyD by rw[aaw];rfl,YO];rfl
   rw[<-Q,J];ext s;exact k1 (h1 rfl)
theorem lg(T:Bl K mg)(D:MthD K "Search" "run_to" "Search.run_to" b9 ["self","at"]):gu P w K mg base "Search" "run_to" 1 2 B8:=by
 refine jY D cR rfl (nN:=4) rfl (by decide) ?ar λx A outer s H E f J=>⟨_,(mz' (aC 2 cR.nd (b5 mn'))
   (mz' (gI (ak L5 (av (vn (ci T.f_Search_ways (mv' 0)) (mv' 1)) mh') mh' (aG _)) (mz' (cP (vn (ci T.f_Search_ways (mv' 0)) (mv' 1)) (bh (n:=2) (ac (ai 1 cR.nd) (ac (ai 3 cR.nd) aU))))
   (aa (cz (js abi abj dB (mv' 2) (mc' (mv' 3) mn'))))) aaN)
   (aa (ae (bf bU (by rfl) T.tuple cW (mc' (IM (mv' 2) (sv lQ mh')) mn')))))),?_⟩
 case ar=>intro B F ⟨h,r1,c,C,L,T,Y,P,i,p,rfl,_⟩;rfl
 intro B F N ⟨h,r1,c,C,L,T,Y,P,i,p,rfl,W,M,d,k⟩;refine ag (MSt.mk [some (.at 0 []),some (.imm (.int (i:Int))),none,none] [[scT h r1 c C L T Y]] 1) rfl ?_;ext c;refine lj (λn m=>∃(a:Option L2.R) (q s:List Mv),m=MSt.mk [some (.at 0 []),some (.imm (.int (n:Int))),some (.obj 1),a] [[scT h r1 c C L T Y],s.reverse.map Mv.d] 1/\P[n]?=some q/\p=q++s/\s.length+n≤i) i ⟨none,p,[],rfl,d,(aaZ p).symm,by rw[ac7];omega⟩ ?_;intro n m G ⟨a,q,s,rfl,eq,o,I⟩;have O:i<Y.length:=by rw[W.ly];exact(AD.mp d).1
 let⟨y,e⟩:∃y,Y[n]?=some y:=⟨_,mT (show n<Y.length by omega)⟩;let⟨j,g⟩:=Cn (f:=wyD) e;ext s;refine uW (p:=[7]) rfl rfl j g ?_;rw[w6];rcases W.wy n q eq with⟨rfl,z⟩|⟨b,mv,v,u,eb,rfl,z⟩
 .rw[e]at z;cases z;rw[show wyD none = .tuple [.int (-1),.none]from rfl];ext s;rw[if_neg (by decide)];ext s;refine⟨_,rfl,rfl,?_⟩;ext s;rw[<-List.map_reverse,List.reverse_reverse,show s=p from o.symm];exact k
 .rw[e]at z;cases z;rw[show wyD (some (b,mv)) = .tuple [.int (b:Int),mv.d]from rfl];ext s;rw[if_pos (decide_eq_true (by omega))];ext s;refine uW (p:=[7]) rfl rfl j g ?_;rw[w6,show wyD (some (b,mv)) = .tuple [.int (b:Int),mv.d]from rfl];ext s
  .rfl
  ext s;refine' gc (ds:=s.reverse.map Mv.d) ?eb (by rw[aag,iO,agy];omega) ?_
  case eb=>rfl
  refine⟨b,u,some (.imm mv.d),v,mv::s,?_,eb,by rw[o,aa3];rfl,by rw[aaq];omega⟩;rw[adf,aaw];rfl
theorem jw(T:Bl K mg)(D:MthD K "Search" "worse_run" "Search.worse_run" bz ["self"])(g:gu P w K mg base "Search" "triples_behind" 8 2 Kl)(v:FnM P w K mg base "is_worse" 1 1 J0)(k:gu P w K mg base "Search" "run_to" 1 2 B8)(o:gu P w K mg base "Search" "met" 1 4 QM):gu P w K mg base "Search" "worse_run" 9 1 zW:=by
 refine jY D bo rfl (nN:=5) rfl (by decide) ?ar λcdv A outer s H E f O=>⟨_,(mz' (aC 1 bo.nd mh')
   (mz' (gI (ak lr (mv' 1) (ay bH (by rfl) T.len d7 (mc' (ci T.f_Search_triples (mv' 0)) mn')) (aG _)) (mz' (aC 2 bo.nd (c6 (ik g (O.mono (by decide)) (mv' 0) (mc' (vn (ci T.f_Search_triples (mv' 0)) (mv' 1)) mn'))))
   (mz' (cr (qH T.zip (mc' (ci T.f_Search_moves (mv' 0)) (mc' (mv' 2) mn'))) (bh (n:=2) (ac (ai 3 bo.nd) (ac (ai 4 bo.nd) aU))) (mz' (a9 (EW.pt (fv (ak lr (av (mv' 4) mh') mh' (aG _)) (gg (ck (mf' v (O.mono (by decide)) (mc' (mv' 4) mn')))))) (aa (ae (af aM (ik k (O.mono (by decide)) (mv' 0) (mc' (mv' 1) mn')) (aE (mc' (mv' 3) mn'))))) am)
   (aa (cz (ik o (O.mono (by decide)) (mv' 0) (mc' (mv' 4) (mc' (mv' 1) (mc' (mv' 3) mn'))))))) aaN)
   (aa (vy 1 bo.nd mh' K7)))) aaN)
   (aa (ae cQ)))),?_⟩
 case ar=>intro as Kc ⟨h,r1,r2,q,rfl,_⟩;rfl
 intro as Kc hl ⟨h,r1,r2,q,rfl,G,a4,hp,hc,k1,k2⟩;refine ag (MSt.mk [some (.at 0 []),none,none,none,none] [[scT h r1 r2 [] [((zer h,zer h),0)] [stT h] [none]]] 1) rfl ?_;ext s;have C0:1+pot h (nP h) [((zer h,zer h),0)]≤190001:=by
  unfold pot smL;have:(nP h-1)*(nP h+2)≤nP h*(nP h+2):=acG _ (Nat.sub_le _ _);simp;omega
 refine lj (λn m=>∃(i:Nat) (a b c:Option L2.R) (C:List Ck) (L:List (Pk×Int)) (T:List Tr) (Y:List Wy) (P:List (List Mv)),m=MSt.mk [some (.at 0 []),some (.imm (.int (i:Int))),a,b,c] [[scT h r1 r2 C L T Y]] 1/\CaOk h C/\Qv h r1 r2 (1+pot h (nP h) [((zer h,zer h),0)]) L T Y P i 0/\n=190001-i) _ ⟨0,none,none,none,[],_,_,_,_,rfl,⟨abL,λ_ z=>by cases z⟩,Qv.zero G.o,rfl⟩ ?_;intro n m M ⟨i,a,b,c,C,L,T,Y,P,rfl,X,V,hn⟩;have nT:=V.pt;have nPb:nP h≤190000:=aax (Nat.le_mul_of_pos_right _ (ag6 _)) hp;ext s;refine⟨T.map trD,nu T,?_⟩;rw[iO];ext s;refine bi (λz=>?_) (λz=>?_)
 .have hi:i<T.length:=by omega
  let⟨t,S⟩:∃t,T[i]?=some t:=⟨_,mT hi⟩;let⟨p,y,kp,rfl⟩:=V.here S;have Q:=lH G.o G.k1 G.k2 G.n1 G.n2 (Df (r1:=r1) (r2:=r2) kp);let⟨i1,i2⟩:=Cn (f:=trD) S;ext s;refine uW (p:=[6]) rfl rfl i1 i2 ?_;rw[show ∀j,gj 0 [6] j (trD (wlk h r1 r2 p)) = .imm (trD (wlk h r1 r2 p))from λ_=>rfl];ext s;refine⟨h,r1,r2,C,L,T,Y,wlk h r1 r2 p,rfl,G,a4,X,Q.1,Q.2,λB X1=>?_⟩;ext x;refine⟨false,_,false,_,rfl,rfl,?_⟩;refine fb (λj m=>∃(b c:Option L2.R) (L:List (Pk×Int)) (T:List Tr) (Y:List Wy) (P:List (List Mv)),m=MSt.mk [some (.at 0 []),some (.imm (.int (i:Int))),some (.imm (.list ((mvs h).map λm=>trD (bth h r1 r2 (wlk h r1 r2 p) m)))),b,c] [[scT h r1 r2 B L T Y]] 1/\Qv h r1 r2 (1+pot h (nP h) [((zer h,zer h),0)]) L T Y P i j/\P[i]?=some p) ⟨b,c,L,T,Y,P,rfl,V,y⟩ ?_ ?_
  .clear V y i1 i2 S hi z nT;intro j d m e M ⟨b,c,L,T,Y,P,rfl,V,y⟩ D1 J U;let⟨x1,x2,e1,e2,rfl⟩:=qr e;let⟨mv,F,rfl,hj⟩:=gmap e1;let⟨mv',I,rfl,hj'⟩:=gmap e2;rw[F]at I;cases I;have N:=(jg (h:=h) (r1:=r1) (r2:=r2) (R:=p) (m:=mv)).symm;have LB:=ul G.o G.k1 G.k2 G.n1 G.n2 Q (Ld F);generalize bth h r1 r2 (wlk h r1 r2 p) mv=u at *;have nT:=V.pt;have nY:=V.ly;have nP:=V.lt;have nL:=V.dk.len;ext s
   .rfl
   refine mm (x_gM (mm (x_gM (Ay ?_))));ext n;refine uo (WX ?_);refine x_JT (λc m=>c=bad u/\m=MSt.mk [some (.at 0 []),some (.imm (.int (i:Int))),some (.imm (.list ((mvs h).map λm=>trD (bth h r1 r2 (wlk h r1 r2 p) m)))),some (.imm mv.d),some (.imm (trD u))] [[scT h r1 r2 B L T Y]] 1) (λK' hK=>?_) ?_
   .rw[show trD u = .tuple [lnD u.1,lnD u.2.1,.int u.2.2]from rfl];ext s;refine bi (λz=>?_) (λz=>?_)
    .exact hK _ _ ⟨by unfold bad;rw[decide_eq_true z];rfl,rfl⟩
    .ext s;refine⟨u,rfl,?_⟩;ext x;exact hK _ _ ⟨by unfold bad;rw[decide_eq_false z];rfl,rfl⟩
   .rintro c m ⟨rfl,rfl⟩
    cases hb:bad u with
    |true=>
     ext s;refine⟨h,r1,r2,B,L,T,Y,P,i,p,rfl,⟨V.ly,V.wy⟩,by omega,y,?_⟩;ext x;have dp:=V.dep i p y;have iP:=(AD.mp y).1;refine uc (by rw[iO,aag];show p.length+1≤_;omega) ?_;have R1:=k1 (p++[mv]) B L T Y (kp.snoc (Ld F)) (by rw[<-N];exact hb) (by rw[aal];exact V.min y);rw[aaw]at R1;exact U _ _ R1
    |false=>
     ext s;refine⟨h,r1,r2,B,L,T,Y,u,some (i,mv),(i:Int),mv.d,rfl,rfl,G.o,V.dk.ln,LB.1,LB.2,by omega,by omega,by omega,λhv=>?_,λw ew hw=>?_⟩
     .ext x;exact J _ ⟨_,_,_,_,_,_,rfl,V.new G.o G.k1 G.k2 G.n1 G.n2 y F N hb hv,dm y⟩
     .ext x;exact J _ ⟨_,_,_,_,_,_,rfl,V.old y F (by rw[<-N];exact hb) (by rw[<-N];exact Yr ew hw rfl),y⟩
  .rintro m M ⟨b,c,L,T,Y,P,rfl,V,y⟩;ext n;refine Mj (i:Int) rfl ?_;ext s;refine⟨1,rfl,?_⟩;ext n;have e0:(zipD ((mvs h).map Mv.d) ((mvs h).map λm=>trD (bth h r1 r2 (wlk h r1 r2 p) m))).length=(mvs h).length:=by rw[cE,iO,iO];exact ag4 _
   rw[e0]at V;have iP:=(AD.mp y).1;have n1:=V.pt;have n2:=V.lt;exact⟨190001-(i+1),by omega,i+1,_,b,c,B,L,T,Y,P,rfl,X1,V.next,rfl⟩
 .ext s;refine k2 C L T Y (λR W=>(V.done (by omega) W).1) V.dk (V.keys (hc λR W=>(V.done (by omega) W).1)) λZ pZ=>⟨V.nvr (by omega) pZ,λt ht=>W4 V.dk (λx hx=>?_) t (pZ.mem_iff.mp ht)⟩;have v1:=V.vt _ (V.dl x hx);have v2:=V.dk.len;dsimp only at v1;omega
theorem oG(T:Bl K mg)(D:MthD K "Search" "paper" "Search.paper" bX ["self"]):gu P w K mg base "Search" "paper" 1 1 Cw:=by
 refine jY D oz rfl (nN:=1) rfl (by decide) ?ar λx A outer s H E f z=>⟨_,(aa (ae (bf bU (by rfl) T.tuple cW (mc' (bj (own:=["x","y","lead"]) (fr:=[]) (ps:=[]) (sc:=(ab bX)) (by exact⟨rfl,by decide +kernel,by decide +kernel,by decide +kernel,by decide +kernel⟩) (bM (c6 (Ae z.units T.sorted (ci T.f_Search_leads (mv' 0))))) (λ_ _ _ _ _=>(bh (n:=2) (ac (bh (n:=2) (ac (ai 0 (show aaV ((["x","y","lead"]:List Str)++([]:List Str))from by decide +kernel)) (ac (ai 1 (show aaV ((["x","y","lead"]:List Str)++([]:List Str))from by decide +kernel)) aU))) (ac (ai 2 (show aaV ((["x","y","lead"]:List Str)++([]:List Str))from by decide +kernel)) aU)))) (λ_ _ _ _ _=>bp) (λ_ _ _ _ _=>(aE (mc' (mv' 0) (mc' (mv' 1) (mc' (mv' 2) mn')))))) mn')))),?_⟩
 case ar=>intro B F ⟨h,r1,j,C,L,T,Y,rfl,_⟩;rfl
 intro B F J ⟨h,r1,j,C,L,T,Y,rfl,v,D,n,k⟩;have g:kyA (ldD L)=true:=Ve v D.ln;refine ag (MSt.mk [some (.at 0 [])] [[scT h r1 j C L T Y]] 1) rfl ?_;ext s;refine qv rfl g ⟨ldD L,⟨rfl,rfl⟩,.inr g,Uu v D n,λy p G=>?_⟩;rw[K9]at p;let⟨o,u,rfl⟩:=DM p.symm rfl;ext s;refine fb (λi m=>∃a b c:Option L2.R,m=MSt.mk [a,b,c] [[scT h r1 j C L T Y],(ldT (o.take i)).map trD] 2) ⟨none,none,none,rfl⟩ ?_ ?_
 .rintro i d m e hnp ⟨a,b,c,rfl⟩ D1 hD1 hR1;let⟨q,eq,rfl,M⟩:=gmap e;unfold itL pkD;ext s
  .rfl
  ext s
  .rfl
  ext s;ext n;have I:o.length<64:=by rw[u.length_eq];exact n
  refine⟨_,rfl,by unfold ldT;rw[iO,iO,aaB,aag];omega,hD1 _ ⟨some (.imm (lnD q.1.1)),some (.imm (lnD q.1.2)),some (.imm (.int q.2)),?_⟩⟩;rw[abb,eq];unfold ldT;rw[aaw,aaw];rfl
 .rintro m hnp ⟨a,b,c,rfl⟩;ext s;rw[iO,aat];exact k _ (u.map _)
theorem jG(T:Bl K mg)(D:IniD K mg "Search" "Search.__init__" bT ["self","hall","one","other"])(b:FnM P w K mg base "all_moves" 2 1 Du)(G:FnM P w K mg base "first_triple" 2 1 Kh)(a:gu P w K mg base "Search" "met" 1 4 QM):zU P w K mg base "Search" 3 3 D9:=by
 refine QW D j5 rfl (nN:=4) rfl (by decide) ?ar λi A outer s H E f e=>⟨_,_,(iL T.f_Search_hall (mv' 1) (iL T.f_Search_rules (aE (mc' (mv' 2) (mc' (mv' 3) mn'))) (iL T.f_Search_moves (c6 (mf' b (e.mono (by decide)) (mc' (mv' 1) mn'))) (iL T.f_Search_steps xQ (iL T.f_Search_leads xQ (iL T.f_Search_triples (b5 mn') (iL T.f_Search_ways (b5 mn') (Gm (aa (cz (ik a (e.mono (by decide)) (mv' 0) (mc' (mf' G (e.mono (by decide)) (mc' (mv' 1) mn')) (mc' (sv lQ mh') (mc' cQ mn')))))))))))))),⟨by rfl,by decide⟩,?_⟩
 case ar=>intro ds j ⟨h,r1,d,rfl,_⟩;rfl
 intro ds j o ⟨h,r1,d,rfl,c,k⟩;refine NQ (MSt.mk [none,some (.imm h.d),some (.imm r1.d),some (.imm d.d)] [] 0) rfl ?_;ext s;refine⟨h,rfl,c,?_⟩;ext x;refine⟨h,rfl,c,?_⟩;ext x;have g:=(jn c r1).ln;refine⟨h,r1,d,[],[],[],[],stT h,none,-1,.none,rfl,rfl,c,(λ_ z=>by cases z),g,g,by decide,by decide,by decide,λn=>?_,λw m=>by cases m⟩;ext x;exact⟨_,rfl,k⟩
theorem qZ(T:Bl K mg)(D:DefM K mg "never_worse" gQ ["hall","one","other"])(d:FnM P w K mg base "refuse_turns" 1 2 LM)(b:zU P w K mg base "Search" 3 3 D9)(a:gu P w K mg base "Search" "worse_run" 9 1 zW)(e:gu P w K mg base "Search" "paper" 1 1 Cw):FnM P w K mg base "never_worse" 10 3 BJ:=by
 refine aV D ga rfl (nN:=5) rfl (by decide) ?ar λx A outer s H E f i=>⟨_,(mz' (cz (mf' d (i.mono (by decide)) (mc' (mv' 1) (mc' (mv' 2) mn'))))
   (mz' (aC 3 ga.nd (Jy b (i.mono (by decide)) (mc' (mv' 0) (mc' (mv' 1) (mc' (mv' 2) mn')))))
   (mz' (aC 4 ga.nd (tx a (i.mono (by decide)) (mv' 3)))
   (mz' (a9 (ak o9 (mv' 4) cQ (aG _)) (aa (ae (aE (mc' au (mc' (mv' 4) mn'))))) am)
   (aa (ae (aE (mc' au (mc' (tx e (i.mono (by decide)) (mv' 3)) mn'))))))))),?_⟩
 case ar=>intro o B ⟨h,r1,g,rfl,_⟩;rfl
 intro o B F ⟨h,r1,g,rfl,G,u,v,q,k1,k2⟩;refine ag (MSt.mk [some (.imm h.d),some (.imm r1.d),some (.imm g.d),none,none] [] 0) rfl ?_;ext s;refine⟨r1,g,rfl,G.n1,G.n2,?_⟩;ext x;refine⟨h,r1,g,rfl,G.o,?_⟩;ext s;ext n;refine Dq rfl (by decide) ?_;refine⟨h,r1,g,63,rfl,G,u,v,q,λR C L k Y z y n=>?_,λC L k Y S D l Z=>?_⟩
 .ext x;rw[if_pos (c:=(!l7 (L2.R.imm (.tuple (R.map Mv.d))))=true) rfl];ext s;exact k1 R z y n
 .ext x;rw[if_neg (by decide)];ext s;refine⟨h,r1,g,C,L,k,Y,rfl,G.o,D,by omega,λj p=>?_⟩;ext x;have m:=p.length_eq;unfold ldT at m;rw[iO]at m;exact k2 j S (Z j p).1 (Z j p).2 (by omega)
def vA(T:Bl K mg)(D:DefM K mg "_law_tape" j8 ["_law_script"]):FnM P w K mg base "_law_tape" 1 1 zY:=by
 refine aV D vc rfl (nN:=1) rfl (by decide) ?ar λc A outer s H E f i=>⟨_,(aa (ae (IC (lc au (c6 (dM iY (mv' 0) ij (e8 mh'))) (lc au mh' (lc au mh' I9)))))),?_⟩
 case ar=>intro d b ⟨ns,rfl,_⟩;rfl
 intro d b g ⟨ns,rfl,a,k⟩;refine ag (MSt.mk [some (.imm (.list (ns.map .int)))] [] 0) rfl ?_;ext s;have e:cutD (ns.map ab4) none (some 63)=ns.map .int:=JH (n:=63) (by rw[iO];exact a);rw[e];exact k _ ⟨ns,0,0,rfl,a,by omega,by omega,by omega⟩
theorem vC(T:Bl K mg)(D:DefM K mg "_law_draw" jS ["_law_tape_here","_law_many"]):FnM P w K mg base "_law_draw" 1 2 vz:=by
 refine aV D cC rfl (nN:=6) rfl (by decide) ?ar λF A outer s H E f d=>⟨_,(mz' (a9 (ak o3 (gH d.units (mv' 0) au) mh' (aG _)) (mz' (aC 2 cC.nd (af fJ (gH d.units (mv' 0) au) (mv' 1)))
   (mz' (qc d.units (af il (gH d.units (mv' 0) au) (mv' 1)) (mv' 0) au)
   (aa (ae (mv' 2))))) am)
   (mz' (aC 3 cC.nd (gH d.units (mv' 0) au))
   (mz' (qc d.units (af aM (mv' 3) mh') (mv' 0) au)
   (mz' (aC 4 cC.nd (af cc mh' (mv' 3)))
   (mz' (a9 (ak (gn d.units) (gH d.units (mv' 0) au) (b5 mn') (aG _)) (aa (aC 4 cC.nd (av (gH d.units (mv' 0) au) (af fJ (mv' 3) (ay bH (by rfl) T.len d7 (mc' (gH d.units (mv' 0) au) mn')))))) am)
   (mz' (a9 (EW.pt (nq (ak L5 (mv' 4) (af v6 mh' mh') (aG _)) (jj (ak lr (mv' 3) (ay bH (by rfl) T.len d7 (mc' (gH d.units (mv' 0) au) mn')) (aG _))))) (mz' (qc d.units (af il (mv' 4) (mv' 1)) (mv' 0) au)
   (aa (ae (af fJ (mv' 4) (mv' 1))))) am)
   (mz' (aC 5 cC.nd (af fJ (af cc (af aM (af aM (af fJ (mv' 4) mh') (af cc mh' (mv' 3))) mh') mh') mh'))
   (mz' (aC 5 cC.nd (af fJ (af cc (af aM (af aM (af il (mv' 5) mh') (af cc mh' (mv' 3))) mh') mh') mh'))
   (aa (ae (af fJ (af il (mv' 5) mh') (mv' 1)))))))))))),?_⟩
 case ar=>intro I C ⟨ds,m,c,rfl,_⟩;rfl
 intro I C O ⟨ds,m,c,rfl,⟨ns,p,q,rfl,B,z,N,o⟩,M,e,L,k⟩;refine ag (MSt.mk [some (.at 0 []),some (.imm (.int m)),none,none,none,none] [[Qr ns p q]] 1) rfl ?_;ext s;refine bi (λh=>?_) (λh=>?_)
 .ext s;exact k _ _ (adP _ (by omega)) (ac3 _ e) ⟨ns,p,q/m,rfl,B,z,by omega,af8 o (by omega)⟩
 .ext s;have b:∀x:Int,0≤x->x<m->∀u:Int,0≤u->C (.imm (.int x)) [[Qr ns (p+1) u]]:=λx g n u J=>k _ _ g n ⟨ns,p+1,u,rfl,B,by omega,by omega,J⟩;have a:∀y:Int,0≤y/64%m/\y/64%m<m:=λy=>⟨adP _ (by omega),ac3 _ e⟩
  cases ns with
  | nil=>
   refine x_ne rfl rfl rfl rfl ?_;ext s;ext f;refine bi (λg=>?_) (λg=>?_)
   .ext s;refine bi (λn=>?_) (λn=>?_)
    .ext s;exact b _ (adP _ (by omega)) (ac3 _ e) _ (af8 (aeM (by decide) g) (by omega))
    .ext s;exact b _ (a _).1 (a _).2 _ o
   .ext s;exact b _ (a _).1 (a _).2 _ o
  | cons v ns=>
   refine x_ne rfl rfl (vI _) rfl ?_;ext s;refine iE ?_;ext s;have j:(0:Int)<((List.map ab4 (v::ns)).length:Int):=by simp only[iO,aaq];omega
   refine Ng j ?_;let⟨x,G⟩:=Je (ns:=v::ns) (i:=p%((List.map ab4 (v::ns)).length:Int)) (adP _ (by omega)) (by have:=ac3 p j;simp only[iO]at this⊢;exact this);refine mI G ?_;ext s;refine bi (λg=>?_) (λg=>?_)
   .ext s;refine bi (λn=>?_) (λn=>?_)
    .ext s;exact b _ (adP _ (by omega)) (ac3 _ e) _ (af8 (aeM (by decide) g) (by omega))
    .ext s;exact b _ (a _).1 (a _).2 _ o
   .ext s;exact b _ (a _).1 (a _).2 _ o
def u4(T:Bl K mg)(D:DefM K mg "_law_frac" jI ["_law_top","_law_bottom"]):FnM P w K mg base "_law_frac" 1 2 Ue:=by
 refine aV D jb rfl (nN:=4) rfl (by decide) ?ar λo A outer s H E f J=>⟨_,(mz' (u7 (i:=2) (j:=3) jb.nd rfl rfl (by decide) rfl rfl (mc' (mv' 0) (mc' (mv' 1) mn')) rfl)
   (mz' (gI (ak o3 (mv' 3) mh' (aG _)) (aa (u7 (i:=2) (j:=3) jb.nd rfl rfl (by decide) rfl rfl (mc' (mv' 3) (mc' (af fJ (mv' 2) (mv' 3)) mn')) rfl)) aaN)
   (aa (ae (aE (mc' (af il (mv' 0) (mv' 2)) (mc' (af il (mv' 1) (mv' 2)) mn'))))))),?_⟩
 case ar=>intro v C ⟨a,b,rfl,_⟩;rfl
 intro v C L ⟨a,b,rfl,u,d,B,k⟩;refine ag (MSt.mk [some (.imm (.int a)),some (.imm (.int b)),none,none] [] 0) rfl ?_;ext s;refine lj (λn m=>∃x y:Nat,m=MSt.mk [some (.imm (.int a)),some (.imm (.int b)),some (.imm (.int x)),some (.imm (.int y))] [] 0/\x.gcd y=a.gcd b/\x<1000000000/\y<1000000000/\n=y) b ⟨a,b,rfl,rfl,u,B,rfl⟩ ?_;intro n m I ⟨x,y,rfl,c,z,e,rfl⟩;ext s;refine bi (λg=>?_) (λG=>?_)
 .ext s;have q:0<n:=by omega
  have F:=ahx x q;exact⟨x%n,F,n,x%n,rfl,by rw[Nat.gcd_comm,<-Nat.gcd_rec,Nat.gcd_comm,c],e,by omega,rfl⟩
 .have hy0:n=0:=by omega
  subst hy0;rw[Nat.gcd_zero_right]at c;have p:0<x:=by rw[c];exact afs _ d
  ext s;ext s;rw[c];exact k
theorem kz(T:Bl K mg)(D:DefM K mg "_law_all_lines" cX ["_law_rooms"]):FnM P w K mg base "_law_all_lines" 1 1 yB:=by
 refine aV D bQ rfl (nN:=5) rfl (by decide) ?ar λI A outer s H E f B=>⟨_,(mz' (aC 1 bQ.nd (b5 (mc' (aE mn') mn')))
   (mz' (cr (bM (mv' 0)) (ai 2 bQ.nd) (mz' (aC 3 bQ.nd (b5 mn'))
   (mz' (cr (bM (mv' 1)) (qW (i:=4) bQ.nd rfl (adQ rfl)) (aa (cz (js PySem.F.slot_list_extend PySem.F.type_list_extend yE (mv' 3) (mc' (bj (own:=["_law_k"]) (fr:=["_law_lines_here"]) (ps:=[4]) (sc:=(ab cX)) (by exact⟨rfl,by decide +kernel,by decide +kernel,by decide +kernel,by decide +kernel⟩) (cp (by rfl) T.range (mc' (af aM (mv' 2) mh') mn')) (λ_ _ _ _ _=>(ai 0 (show aaV ((["_law_k"]:List Str)++(["_law_lines_here"]:List Str))from by decide +kernel))) (λ_ _ _ _ _=>bp) (λ_ _ _ _ _=>(af aM (mv' 1) (aE (mc' (mv' 0) mn'))))) mn')))) aaN)
   (aa (aC 1 bQ.nd (mv' 3))))) aaN)
   (aa (ae (mv' 1))))),?_⟩
 case ar=>intro L N ⟨rs,rfl,_⟩;rfl
 intro L N S ⟨rs,rfl,R,F,k⟩;refine ag (MSt.mk [some (.imm (.list (rs.map λ(r:Nat)=>.int (r:Int)))),none,none,none,none] [] 0) rfl ?_;ext c;refine bV (λi m=>∃a c,m=MSt.mk [some (.imm (.list (rs.map λ(r:Nat)=>.int (r:Int)))),some (.obj 0),a,none,c] [(((rs.take i).foldl M3.stepL [[]]).map lnD)] 0) ⟨none,none,rfl⟩ ?_ ?_
 .rintro i d m e n ⟨a,c,rfl⟩;let⟨r,G,rfl,U⟩:=gmap e;have r6:=F r (Ld G);generalize g:(rs.take i).foldl M3.stepL [[]]=p;have q:∀a∈p,a.length≤4:=by
   intro a C;rw[<-g]at C;have:=M3.allR_len (by rw[<-M3.allL_eq];exact C);rw[this,aaB];omega
  have M:p.length≤2401:=by
   rw[<-g];exact M3.fold_small (by rw[aaB];omega) (λr B=>F r (acH B))
  have o:((rs.take (i+1)).foldl M3.stepL [[]])=M3.stepL p r:=by
   rw[abb,G,ag7,g];rfl
  rw[o];ext c;refine gC (λi m=>∃a,m=MSt.mk [some (.imm (.list (rs.map λ(r:Nat)=>.int (r:Int)))),some (.obj 0),some (.imm (.int r)),some (.obj 1),a] [p.map lnD,(M3.stepL (p.take i) r).map lnD] 1) ⟨c,rfl⟩ ?_ ?_ ?_
  .rintro j m ⟨a,rfl⟩;rfl
  .rintro j d m ej nj ⟨a,rfl⟩;let⟨l,x,rfl,Q⟩:=gmap ej;have O:=q l (Ld x);ext s;refine⟨by omega,by omega,?_⟩;have J:((r:Int)+1).toNat=r+1:=by omega
   rw[J];ext n;refine bV (λz m=>∃b,m=MSt.mk [b,some (.imm (lnD l))] [p.map lnD,(M3.stepL (p.take j) r).map lnD,((aaL z).map λy=>l++[y]).map lnD] 3) ⟨none,rfl⟩ ?_ ?_
   .rintro z dz m ez nz ⟨b,rfl⟩;let⟨v,rfl⟩:=cY ez;ext s;refine uc (by rw[aag,bg];simp;omega) ?_;ext s;refine⟨_,rfl,by rw[aag];simp;omega,some (.imm (.int (0+(z:Int)))),?_⟩;have u:((aaL (z+1)).map λy=>l++[y]).map lnD=((aaL z).map λy=>l++[y]).map lnD++[.tuple (natD l++[.int (0+(z:Int))])]:=by
     rw[adM];simp[lnD,natD]
    rw[u];rfl
   .rintro m n ⟨b,rfl⟩;rw[aH];ext s;have v:((M3.stepL (p.take j) r).map lnD).length+(((aaL (r+1)).map λy=>l++[y]).map lnD).length≤aam:=by
     rw[aag,iO,iO,iO,abg,M3.stepL_length,aaB];have:min j p.length*(r+1)≤2401*7:=ad8 (by omega) (by omega);omega
    refine' Gw (ds:=(M3.stepL (p.take j) r).map lnD) ?eb v ?_
    case eb=>rfl
    have u:(M3.stepL (p.take (j+1)) r).map lnD=(M3.stepL (p.take j) r).map lnD++((aaL (r+1)).map λy=>l++[y]).map lnD:=by
     rw[M3.stepL_take x,aaw]
    rw[u];exact⟨_,rfl⟩
  .rintro m n ⟨a,rfl⟩;rw[iO,aat];ext n;refine YN ?_;refine UI rfl ?_;refine FI [1] (MSt.mk [some (.imm (.list (rs.map λ(r:Nat)=>.int (r:Int)))),some (.obj 0),some (.imm (.int r)),none,none] [(M3.stepL p r).map lnD] 0) (JX rfl rfl rfl rfl rfl rfl ⟨rfl,⟨1,rfl,rfl⟩,rfl,trivial,trivial,trivial⟩) ⟨_,_,rfl⟩
 .rintro m n ⟨a,c,rfl⟩;rw[iO,aat,show rs.foldl M3.stepL [[]]=M3.allL rs from rfl,M3.allL_eq];ext s;exact k
theorem vf(T:Bl K mg)(D:DefM K mg "_law_hall" cn ["_law_tape_here","_law_most"])(G:FnM P w K mg base "_law_draw" 1 2 vz)(v:FnM P w K mg base "_law_frac" 1 2 Ue)(u:FnM P w K mg base "_law_all_lines" 1 1 yB):FnM P w K mg base "_law_hall" 3 2 xH:=by
 refine aV D b6 rfl (nN:=7) rfl (by decide) ?ar λcdv A outer s H E f B=>⟨_,(mz' (aC 2 b6.nd (av (b5 (mc' mh' (mc' mh' (mc' mh' (mc' mh' (mc' mh' (mc' mh' (mc' mh' (mc' mh' mn'))))))))) (mf' G (B.mono (by decide)) (mc' (mv' 0) (mc' mh' mn')))))
   (mz' (mJ (i:=3) (own:=["_law_k"]) (fr:=["_law_tape_here"]) (ps:=[0]) (sc:=(ab cn)) (by exact⟨rfl,by decide +kernel,by decide +kernel,by decide +kernel,by decide +kernel⟩) b6.nd rfl rfl (cp (by rfl) T.range (mc' (mv' 2) mn')) (λ_ _ _ _ _=>(ai 0 (show aaV ((["_law_k"]:List Str)++(["_law_tape_here"]:List Str))from by decide +kernel))) (λ_ _ _ _ _=>bp) (λ_ _ _ _ _=>(aE (mc' (af aM mh' (mf' G (B.mono (by decide)) (mc' (mv' 1) (mc' mh' mn')))) (mc' (af aM mh' (mf' G (B.mono (by decide)) (mc' (mv' 1) (mc' mh' mn')))) mn')))))
   (mz' (a9 (ak (cg B.units) (mf' G (B.mono (by decide)) (mc' (mv' 0) (mc' mh' mn'))) mh' (aG _)) (aa (aC 3 b6.nd (af cc (b5 (mc' (av (mv' 3) mh') mn')) (mv' 2)))) am)
   (mz' (gI (ak o3 (ay bH (by rfl) T.len d7 (mc' (mf' u (B.mono (by decide)) (mc' (c6 (bj (own:=["_law_top","_law_room"]) (fr:=[]) (ps:=[]) (sc:=(ab cn)) (by exact⟨rfl,by decide +kernel,by decide +kernel,by decide +kernel,by decide +kernel⟩) (bM (mv' 3)) (λ_ _ _ _ _=>(bh (n:=2) (ac (ai 0 (show aaV ((["_law_top","_law_room"]:List Str)++([]:List Str))from by decide +kernel)) (ac (ai 1 (show aaV ((["_law_top","_law_room"]:List Str)++([]:List Str))from by decide +kernel)) aU)))) (λ_ _ _ _ _=>bp) (λ_ _ _ _ _=>(mv' 1)))) mn')) mn')) (mv' 1) (aG _)) (mz' (a9 (ak (cg B.units) (ay (jD rfl) (by rfl) T.max xy (mc' (bj (own:=["_law_top","_law_room"]) (fr:=[]) (ps:=[]) (sc:=(ab cn)) (by exact⟨rfl,by decide +kernel,by decide +kernel,by decide +kernel,by decide +kernel⟩) (bM (mv' 3)) (λ_ _ _ _ _=>(bh (n:=2) (ac (ai 0 (show aaV ((["_law_top","_law_room"]:List Str)++([]:List Str))from by decide +kernel)) (ac (ai 1 (show aaV ((["_law_top","_law_room"]:List Str)++([]:List Str))from by decide +kernel)) aU)))) (λ_ _ _ _ _=>bp) (λ_ _ _ _ _=>(mv' 1))) mn')) mh' (aG _)) (aa (aC 3 b6.nd (dM iY (mv' 3) (e8 mh') ij))) am)
   (aa (mJ (i:=3) (own:=["_law_top","_law_room"]) (fr:=[]) (ps:=[]) (sc:=(ab cn)) (by exact⟨rfl,by decide +kernel,by decide +kernel,by decide +kernel,by decide +kernel⟩) b6.nd rfl rfl (bM (mv' 3)) (λ_ _ _ _ _=>(bh (n:=2) (ac (ai 0 (show aaV ((["_law_top","_law_room"]:List Str)++([]:List Str))from by decide +kernel)) (ac (ai 1 (show aaV ((["_law_top","_law_room"]:List Str)++([]:List Str))from by decide +kernel)) aU)))) (λ_ _ _ _ _=>bp) (λ_ _ _ _ _=>(aE (mc' (mv' 0) (mc' (ay (FC rfl) (by rfl) T.max xy (mc' mh' (mc' (af z9 (mv' 1) mh') mn'))) mn'))))))) aaN)
   (mz' (aC 4 b6.nd (af aM mh' (mf' G (B.mono (by decide)) (mc' (mv' 0) (mc' mh' mn')))))
   (mz' (rg (i:=5) b6.nd rfl (adQ rfl) (af aM (af aM (mv' 4) (ay (DQ rfl) (by rfl) T.sum A9 (mc' (bj (own:=["_law_top","_law_room"]) (fr:=[]) (ps:=[]) (sc:=(ab cn)) (by exact⟨rfl,by decide +kernel,by decide +kernel,by decide +kernel,by decide +kernel⟩) (bM (mv' 3)) (λ_ _ _ _ _=>(bh (n:=2) (ac (ai 0 (show aaV ((["_law_top","_law_room"]:List Str)++([]:List Str))from by decide +kernel)) (ac (ai 1 (show aaV ((["_law_top","_law_room"]:List Str)++([]:List Str))from by decide +kernel)) aU)))) (λ_ _ _ _ _=>bp) (λ_ _ _ _ _=>(mv' 0))) mn'))) (av (b5 (mc' mh' (mc' mh' (mc' mh' (mc' mh' (mc' mh' mn')))))) (mf' G (B.mono (by decide)) (mc' (mv' 0) (mc' mh' mn'))))))
   (mz' (aC 6 b6.nd (bf bU (by rfl) T.tuple cW (mc' (bj (own:=["_law_top","_law_room"]) (fr:=["_law_whole"]) (ps:=[5]) (sc:=(ab cn)) (by exact⟨rfl,by decide +kernel,by decide +kernel,by decide +kernel,by decide +kernel⟩) (bM (mv' 3)) (λ_ _ _ _ _=>(bh (n:=2) (ac (ai 0 (show aaV ((["_law_top","_law_room"]:List Str)++(["_law_whole"]:List Str))from by decide +kernel)) (ac (ai 1 (show aaV ((["_law_top","_law_room"]:List Str)++(["_law_whole"]:List Str))from by decide +kernel)) aU)))) (λ_ _ _ _ _=>bp) (λ_ _ _ _ _=>(aE (mc' (mf' v (B.mono (by decide)) (mc' (mv' 0) (mc' (mv' 2) mn'))) (mc' (mv' 1) mn'))))) mn')))
   (aa (ae (aE (mc' (mf' v (B.mono (by decide)) (mc' (mv' 4) (mc' (mv' 5) mn'))) (mc' (mv' 6) (mc' (jB (cg B.units) (mf' G (B.mono (by decide)) (mc' (mv' 0) (mc' mh' mn'))) mh' (aG _)) mn'))))))))))))),?_⟩
 case ar=>intro as Kc ⟨t,c,mo,rfl,_⟩;rfl
 intro as Kc hl ⟨t,c,mo,rfl,y,hc,hmo,k⟩;refine ag (MSt.mk [some (.at 0 []),some (.imm (.int (mo:Int))),none,none,none,none,none] [[t]] 1) rfl ?_;ext s;refine⟨t,_,_,rfl,y,by omega,by omega,by omega,λq t I R y=>?_⟩;let⟨n,hn1,hn4,en⟩:∃n:Nat,1≤n/\n≤4/\atI [ab4 2,.int 2,.int 3,.int 1,.int 2,.int 3,.int 2,.int 4] q=some (.int (n:Int)):=by
  have:q=0\/q=1\/q=2\/q=3\/q=4\/q=5\/q=6\/q=7:=by omega
  rcases this with rfl|rfl|rfl|rfl|rfl|rfl|rfl|rfl
  .exact⟨2,by decide,by decide,rfl⟩
  .exact⟨2,by decide,by decide,rfl⟩
  .exact⟨3,by decide,by decide,rfl⟩
  .exact⟨1,by decide,by decide,rfl⟩
  .exact⟨2,by decide,by decide,rfl⟩
  .exact⟨3,by decide,by decide,rfl⟩
  .exact⟨2,by decide,by decide,rfl⟩
  .exact⟨4,by decide,by decide,rfl⟩
 ext n;refine qR en ?_;ext s;refine⟨by omega,by omega,?_⟩;rw[abf];ext n;refine bV (λi m=>∃a t ps,m=MSt.mk [a,some (.at 0 [])] [[t],ps.map prD] 2/\TapeK (c+1+2*i) t/\ps.length=i/\∀p∈ps,1≤p.1/\p.1≤3/\1≤p.2/\p.2≤4) ⟨none,t,[],rfl,y,rfl,λ_ h=>by cases h⟩ ?_ ?_
 .rintro i d m e U ⟨a,t,ps,rfl,y,O,Q⟩;let⟨V,rfl⟩:=cY e;ext s;refine⟨t,_,c+1+2*i,rfl,y,by omega,by omega,by omega,λW t I R y=>?_⟩;ext x;refine⟨t,_,c+1+2*i+1,rfl,y,by omega,by omega,by omega,λq2 t hq2 hq3 y=>?_⟩;ext x;let⟨W,rfl⟩:=acd I;let⟨q2,rfl⟩:=acd hq2;refine⟨_,rfl,by rw[aag,iO];omega,some (.imm (.int (0+(i:Int)))),t,ps++[(1+W,1+q2)],?_,y.mono (by omega),by simp[O],λp F=>?_⟩
  .rw[aaw];rfl
  .obtain h|h:=aaG.mp F
   .exact Q p h
   .cases aaf.mp h
    exact⟨by show 1≤1+W;omega,by show 1+W≤3;omega,by show 1≤1+q2;omega,by show 1+q2≤4;omega⟩
 intro m U ⟨a,t,ps,rfl,y,O,Q⟩;rw[aH]at O;have y:=y.mono (c':=c+9) (by rw[aH];omega);have g:SvK ps:=⟨by omega,by omega,Q⟩;ext n;refine dQ ?_;ext n;refine uo ?_;refine x_JS (λm=>∃ps t,m=MSt.mk [some (.at 0 []),some (.imm (.int (mo:Int))),some (.imm (.int (n:Int))),some (.obj 1),none,none,none] [[t],ps.map prD] 1/\TapeK (c+10) t/\SvK ps) (λN J=>?_) ?_
 .ext s;refine⟨t,_,_,rfl,y,by omega,by omega,by omega,λW t I R y=>?_⟩;ext x;refine bi (λz=>?_) (λz=>?_)
  .obtain⟨p0,o,rfl⟩:∃p0 o,ps=p0::o:=by
    cases ps with
    |nil=>simp at O;omega
    |cons p0 sp=>exact⟨p0,sp,rfl⟩
   ext s;refine B7 (d:=prD p0) rfl (show atI ((p0::o).map prD) 0=some (prD p0)from ca (j:=0) (xs:=(p0::o).map prD) rfl) ?_;ext s;refine Wr (by omega) (by omega) (by simp;omega) ?_;rw[abf,zM];refine ig (k:=1) rfl (show 1≤1 by decide) (λj X=>?_) (J _ ⟨aaz n p0,t,by rw[List.map_replicate];rfl,y,g.rep aaa hn1 hn4⟩)
   match j with
   |0|1|2|4|5|6=>exact λz=>by cases z
   |3=>exact(X rfl).elim
   |n+7=>exact λz=>by cases z
  .ext s;exact J _ ⟨ps,t,rfl,y,g⟩
 clear g O Q y;intro _ ⟨ps,t,rfl,y,g⟩;refine uo ?_;refine lj (λz m=>∃ps,m=MSt.mk [some (.at 0 []),some (.imm (.int (mo:Int))),some (.imm (.int (n:Int))),some (.obj 1),none,none,none] [[t],ps.map prD] 1/\SvK ps/\z=(bq ps).sum) _ ⟨ps,rfl,g,rfl⟩ ?_;clear g;intro z m U ⟨ps,rfl,g,rfl⟩;ext s;let⟨s1,s4,_⟩:=id g;refine gC (λi m=>∃a b,m=MSt.mk [a,b] [[t],ps.map prD,(ps.take i).map Rz] 3) ⟨none,none,rfl⟩ ?_ ?_ ?_
 .rintro i m ⟨a,b,rfl⟩;rfl
 .rintro i d m e hnp2 ⟨a,b,rfl⟩;let⟨p,C,rfl,V⟩:=gmap e;have F:=g.2.2 p (Ld C);rw[bv _ C];dsimp only[prD];ext s
  .rfl
  ext s;exact⟨_,rfl,by rw[aag,iO,aaB];omega,some (.imm (.int (p.1:Int))),some (.imm (.int (p.2:Int))),rfl⟩
 intro m hm ⟨a,b,rfl⟩;rw[iO,aat,uK];ext x;refine⟨bq ps,rfl,g.six.1,g.six.2,?_⟩;ext x;rw[iO];refine bi (λhb=>?_) (λhb=>?_)
 .have hb':mo<(M3.allR (bq ps)).length:=by omega
  refine uo ?_;refine x_JS (λm=>∃o,m=MSt.mk [some (.at 0 []),some (.imm (.int (mo:Int))),some (.imm (.int (n:Int))),some (.obj 1),none,none,none] [[t],o.map prD] 1/\SvK o/\(bq (jU o)).sum<(bq ps).sum) (λN J=>?_) ?_
  .ext s;refine gC (λi m=>∃a b,m=MSt.mk [a,b] [[t],ps.map prD,(ps.take i).map Rz] 3) ⟨none,none,rfl⟩ ?_ ?_ ?_
   .rintro i m ⟨a,b,rfl⟩;rfl
   .rintro i d m e hnp2 ⟨a,b,rfl⟩;let⟨p,C,rfl,V⟩:=gmap e;have F:=g.2.2 p (Ld C);rw[bv _ C];dsimp only[prD];ext s
    .rfl
    ext s;exact⟨_,rfl,by rw[aag,iO,aaB];omega,some (.imm (.int (p.1:Int))),some (.imm (.int (p.2:Int))),rfl⟩
   intro m hm ⟨a,b,rfl⟩;rw[iO,aat,uK];ext x;refine z7 rfl (CF (bq ps)) (λz=>?_) λx hx hx2=>?_
   .have:=congrArg ab9 z;rw[iO,bq,iO,ac7]at this;omega
   ext s;refine bi (λz=>?_) (λz=>?_)
   .ext s;have h1:∀r∈bq ps,r≤1:=λr B=>by
     have:=hx2 (r:Int) (aap.mpr ⟨r,B,rfl⟩);omega
    let⟨p,o,rfl⟩:∃p o,ps=p::o:=by
     cases ps with
     |nil=>simp at s1
     |cons p o=>exact⟨p,o,rfl⟩
    let⟨sv',dec⟩:=g.tail h1 hmo hb';rw[show cutD ((p::o).map prD) (some 1) none=o.map prD from(tm 1)];refine ig (k:=1) rfl (show 1≤1 by decide) (λj X=>?_) (J _ ⟨o,rfl,sv',dec⟩)
    match j with
    |0|1|2|4|5|6=>exact λz=>by cases z
    |3=>exact(X rfl).elim
    |n+7=>exact λz=>by cases z
   .ext s;refine J _ ⟨ps,rfl,g,?_⟩;let⟨r,B,er⟩:=aap.mp hx;let⟨p2,hp2,e2⟩:=aap.mp B;have:=(g.2.2 p2 hp2).2.2.1;exact(m6 (ps:=ps) λp F=>(g.2.2 p F).2.2.1).2 ⟨p2,hp2,by omega⟩
  intro _ ⟨o,rfl,M,Y⟩;have s4':=M.2.1;ext s;refine gC (λi m=>∃a b,m=MSt.mk [a,b] [[t],o.map prD,(o.take i).map Sf] 3) ⟨none,none,rfl⟩ ?_ ?_ ?_
  .rintro i m ⟨a,b,rfl⟩;rfl
  .rintro i d m e hnp2 ⟨a,b,rfl⟩;let⟨p,C,rfl,V⟩:=gmap e;have F:=M.2.2 p (Ld C);rw[bv _ C];dsimp only[prD];ext s
   .rfl
   ext s;have em:(if (p.2:Int)-1>1 then(p.2:Int)-1 else 1)=((max 1 (p.2-1):Nat):Int):=by
    split<;>omega
   rw[em];exact⟨_,rfl,by rw[aag,iO,aaB];omega,some (.imm (.int (p.1:Int))),some (.imm (.int (p.2:Int))),rfl⟩
  intro m hm ⟨a,b,rfl⟩;rw[iO,aat,Ak];ext n;refine ig (k:=1) rfl (show 1≤1 by decide) (λj X=>?_) ⟨_,Y,jU o,rfl,IB M,rfl⟩
  match j with
  |0|1|2|4|5|6=>exact λz=>by cases z
  |3=>exact(X rfl).elim
  |n+7=>exact λz=>by cases z
 .ext s;refine⟨t,_,_,rfl,y,by omega,by omega,by omega,λL t hc0 hc1 y=>?_⟩;let⟨L,rfl⟩:=acd hc0;ext x;refine gC (λi m=>∃a b,m=MSt.mk [a,b] [[t],ps.map prD,(ps.take i).map topD] 3) ⟨none,none,rfl⟩ ?_ ?_ ?_
  .rintro i m ⟨a,b,rfl⟩;rfl
  .rintro i d m e hnp2 ⟨a,b,rfl⟩;let⟨p,C,rfl,V⟩:=gmap e;have F:=g.2.2 p (Ld C);rw[bv _ C];dsimp only[prD];ext s
   .rfl
   ext s;exact⟨_,rfl,by rw[aag,iO,aaB];omega,some (.imm (.int (p.1:Int))),some (.imm (.int (p.2:Int))),rfl⟩
  intro m hm ⟨a,b,rfl⟩;rw[iO,aat,FQ];ext x;refine⟨_,_,rfl,CF (vD ps),?_⟩;rw[sumK];have hsum:(vD ps).sum≤12:=by
   have:=yw (ps:=ps) λp F=>(g.2.2 p F).2.1;omega
  generalize (vD ps).sum=S at hsum;ext s;refine⟨t,_,_,rfl,y,by omega,by omega,by omega,λq t I R y=>?_⟩;let⟨Z,hmr,emr⟩:∃Z:Nat,Z≤40/\atI [ab4 0,.int 0,.int 1,.int 7,.int 40] q=some (.int (Z:Int)):=by
   have:q=0\/q=1\/q=2\/q=3\/q=4:=by omega
   rcases this with rfl|rfl|rfl|rfl|rfl
   .exact⟨0,by decide,rfl⟩
   .exact⟨0,by decide,rfl⟩
   .exact⟨1,by decide,rfl⟩
   .exact⟨7,by decide,rfl⟩
   .exact⟨40,by decide,rfl⟩
  ext n;refine qR emr ?_;ext s;let⟨wh,ewh,hw1,hw2⟩:∃wh:Nat,(1+(L:Int)+(S:Int)+(Z:Int))=(wh:Int)/\1≤wh/\wh<1000:=⟨1+L+S+Z,by omega,by omega,by omega⟩;rw[ewh];ext x;refine gC (λi m=>∃a b,m=MSt.mk [a,b,some (.imm (.int (wh:Int)))] [[t],ps.map prD,(ps.take i).map λp=>(srvK wh p).d] 3) ⟨none,none,rfl⟩ ?_ ?_ ?_
  .rintro i m ⟨a,b,rfl⟩;rfl
  .rintro i d m e hnp2 ⟨a,b,rfl⟩;let⟨p,C,rfl,V⟩:=gmap e;have F:=g.2.2 p (Ld C);rw[bv _ C];dsimp only[prD];ext s
   .rfl
   ext s;refine⟨p.1,wh,rfl,by omega,by omega,by omega,?_⟩;ext x;exact⟨_,rfl,by rw[aag,iO,aaB];omega,some (.imm (.int (p.1:Int))),some (.imm (.int (p.2:Int))),rfl⟩
  intro m hm ⟨a,b,rfl⟩;rw[iO,aat];ext x;refine⟨1+L,wh,rfl,by omega,by omega,by omega,?_⟩;ext x;refine⟨t,_,_,rfl,y,by omega,by omega,by omega,λq t I R y=>?_⟩;ext x;have f1:=Dj (p:=1+L) (wh:=wh) (by omega) (by omega) hw1 (by omega);have hk:=k ⟨(1+L)/(1+L).gcd wh,wh/(1+L).gcd wh,ps.map (srvK wh),decide (q=0)⟩ t ⟨f1.1,f1.2.1,f1.2.2.1,f1.2.2.2,by rw[iO];exact s1,by rw[iO];exact s4,λs hs=>?_⟩ (by
   rw[show Hall.rs ⟨(1+L)/(1+L).gcd wh,wh/(1+L).gcd wh,ps.map (srvK wh),decide (q=0)⟩=bq ps by unfold Hall.rs bq;rw[aaW];rfl];omega) (y.mono (by omega))
  .unfold Hall.d at hk;rw[aaW]at hk;exact hk
  .obtain⟨p,F,rfl⟩:=aap.mp hs;have h:=g.2.2 p F;have f2:=Dj (p:=p.1) (wh:=wh) (by omega) (by omega) hw1 (by omega);exact⟨f2.1,f2.2.1,f2.2.2.1,f2.2.2.2,h.2.2.1,by show p.2≤6;omega⟩
theorem vp(T:Bl K mg)(D:DefM K mg "_law_kept" im ["_law_hall_here","_law_lines_here"]):FnM P w K mg base "_law_kept" 1 2 si:=by
 refine aV D nG rfl (nN:=3) rfl (by decide) ?ar λy A outer s H E f p=>⟨_,(mz' (aC 2 nG.nd (jB (cg p.units) (bj (own:=["_law_server"]) (fr:=["_law_hall_here"]) (ps:=[0]) (sc:=(ab im)) (by exact⟨rfl,by decide +kernel,by decide +kernel,by decide +kernel,by decide +kernel⟩) (bM (av (mv' 0) mh')) (λ_ _ _ _ _=>(ai 0 (show aaV ((["_law_server"]:List Str)++(["_law_hall_here"]:List Str))from by decide +kernel))) (λ_ _ _ _ _=>(yo (ak (gn p.units) (mv' 0) (av (av (mv' 1) mh') mh') (aG _)))) (λ_ _ _ _ _=>(mv' 0))) (b5 mn') (aG _)))
   (aa (ae (KM (ck (mv' 2)) (bf bU (by rfl) T.tuple cW (mc' (o7 mn (by rfl) T.sorted nw (mc' (mv' 1) mn')) mn')) (mv' 1))))),?_⟩
 case ar=>intro C J ⟨h,l,rfl,_⟩;rfl
 intro C J O ⟨h,l,rfl,u,N,k⟩;have n4:=u.n4;refine ag (MSt.mk [some (.imm (.tuple [.tuple [.int h.a,.int h.b],.tuple (h.ss.map Srv.d),.bool h.mv])),some (.imm (.tuple (natD l))),none] [] 0) rfl ?_;ext s;have key:∀d0:aD,(h.ss.map Srv.d).getD 0 .none=d0->(aaj (.list ((h.ss.map Srv.d).filter λd=>!aaj d d0)) (.list []))=alk h:=λd0 o=>by
  unfold alk;rw[o];generalize h.ss.map Srv.d=L
  induction L with
  |nil=>rfl
  |cons x L F=>
   rw[adq,abT]
   cases aaj x d0 with
   |true=>simpa using F
   |false=>rfl
 let⟨c,ss,v⟩:∃c ss,h.ss=c::ss:=by
  cases e:h.ss with
  |nil=>have:=u.n1;rw[e]at this;exact absurd this (by decide)
  |cons a b=>exact⟨a,b,rfl⟩
 have o:(h.ss.map Srv.d).getD 0 .none=c.d:=by rw[v];rfl
 have g:∀s:Srv,Shp 2 s.d:=λs=>bF (k:=1) λd hd=>by
  simp only[aae,aa8,or_false]at hd;rcases hd with rfl|rfl
  .exact bF (k:=0) λd hd=>by
    simp only[aae,aa8,or_false]at hd;rcases hd with rfl|rfl<;>exact dW _
  .exact(dW _).mono (by decide)
 refine fb (λi m=>∃a:Option L2.R,m=MSt.mk [a,some (.imm (.tuple [.tuple [.int h.a,.int h.b],.tuple (h.ss.map Srv.d),.bool h.mv]))] [((h.ss.map Srv.d).take i).filter λd=>!aaj d c.d] 1) ⟨none,rfl⟩ ?_ ?_
 .rintro i d m e n ⟨a,rfl⟩ D1 hD1 hR1;let⟨s,R,rfl,Q⟩:=gmap e;rw[abb,e,agT]at hD1;have z:=agh (λd=>!aaj d c.d) ((h.ss.map Srv.d).take i);rw[aaB,iO]at z;ext s;refine cb (ds:=h.ss.map Srv.d) (d:=c.d) (ca (j:=0) (by rw[v];rfl)) ?_;ext s;refine x_ne (d1:=s.d) (d2:=c.d) rfl rfl ((g s).ok (by decide)) ((g c).ok (by decide)) ?_;ext s
  cases ec:aaj s.d c.d with
  |true=>
   ext f;refine hD1 _ ⟨some (.imm s.d),?_⟩;rw[show((some s.d).toList.filter λd=>!aaj d c.d)=[] by show [s.d].filter _=[];rw[adq,ec];rfl,aaZ];rfl
  |false=>
   refine iE ?_;ext s;refine⟨_,rfl,by rw[aag];omega,hD1 _ ⟨some (.imm s.d),?_⟩⟩;rw[show((some s.d).toList.filter λd=>!aaj d c.d)=[s.d] by show [s.d].filter _=_;rw[adq,ec];rfl];rfl
 intro m n ⟨a,rfl⟩;rw[aat];ext x;have B:Shp 3 (.list ((h.ss.map Srv.d).filter λd=>!aaj d c.d)):=yf λd hd=>by
  let⟨s,_,rfl⟩:=aap.mp (af0.mp hd).1;exact g s
 refine x_eq (d1:=.list ((h.ss.map Srv.d).filter λd=>!aaj d c.d)) (d2:=.list []) rfl rfl (B.ok (by decide)) (by decide +kernel) ?_;rw[key _ o];ext s;unfold cZ at k;refine Sy ?_;ext s
 cases q:alk h with
 |true=>
  rw[q,if_pos rfl]at k;ext s;refine C7 (ds:=natD l) rfl (kI l) (by rw[iO];omega) λG M I=>?_;have e:=xi M I;subst e;rw[<-tz];ext s;exact k
 |false=>
  rw[q,if_neg aai]at k;ext s;exact k
theorem uq(T:Bl K mg)(D:DefM K mg "_law_paper" gf ["_law_tape_here","_law_hall_here","_law_by_fall"])(G:FnM P w K mg base "_law_draw" 1 2 vz)(g:FnM P w K mg base "_law_kept" 1 2 si):FnM P w K mg base "_law_paper" 2 3 sx:=by
 refine aV D cG rfl (nN:=8) rfl (by decide) ?ar λcdv A outer s H E f J=>⟨_,(mz' (aC 3 cG.nd (b5 mn'))
   (mz' (cr (cp (by rfl) T.range (mc' (mf' G (J.mono (by decide)) (mc' (mv' 0) (mc' mh' mn'))) mn')) (ai 4 cG.nd) (mz' (cP (c6 (bj (own:=["_law_j"]) (fr:=["_law_hall_here","_law_tape_here"]) (ps:=[1,0]) (sc:=(ab gf)) (by exact⟨rfl,by decide +kernel,by decide +kernel,by decide +kernel,by decide +kernel⟩) (cp (by rfl) T.range (mc' mh' mn')) (λ_ _ _ _ _=>(ai 0 (show aaV ((["_law_j"]:List Str)++(["_law_hall_here","_law_tape_here"]:List Str))from by decide +kernel))) (λ_ _ _ _ _=>bp) (λ_ _ _ _ _=>(bf bU (by rfl) T.tuple cW (mc' (yM (own:=["_law_speed","_law_room"]) (fr:=["_law_tape_here"]) (ps:=[2]) rfl (by decide +kernel) (by decide +kernel) (by decide +kernel) (by decide +kernel) (by intro x I;simp only[aae,aa8,or_false]at I;rcases I with rfl<;>first|exact .inl rfl|exact .inr rfl) (bM (av (mv' 1) mh')) (λ_ _ _ _ _=>(bh (n:=2) (ac (ai 0 (show aaV ((["_law_speed","_law_room"]:List Str)++(["_law_tape_here"]:List Str))from by decide +kernel)) (ac (ai 1 (show aaV ((["_law_speed","_law_room"]:List Str)++(["_law_tape_here"]:List Str))from by decide +kernel)) aU)))) (λ_ _ _ _ _=>bp) (λ_ _ _ _ _=>(mf' G (J.mono (by decide)) (mc' (mv' 2) (mc' (af aM (mv' 1) mh') mn'))))) mn'))))) (Qe (n:=2) (ac (ai 5 cG.nd) (ac (ai 6 cG.nd) aU))))
   (mz' (aC 7 cG.nd (av (b5 (mc' mh' (mc' (mf' G (J.mono (by decide)) (mc' (mv' 0) (mc' mh' mn'))) (mc' mh' (mc' mh' (mc' mh' (mc' (af v6 mh' mh') (mc' (af z9 (af v6 mh' mh') mh') mn')))))))) (mf' G (J.mono (by decide)) (mc' (mv' 0) (mc' mh' mn')))))
   (aa (cz (js abi abj dB (mv' 3) (mc' (KM (ck (mv' 2)) (aE (mc' (mf' g (J.mono (by decide)) (mc' (mv' 1) (mc' (mv' 5) mn'))) (mc' (mf' g (J.mono (by decide)) (mc' (mv' 1) (mc' (mv' 6) mn'))) (mc' (mv' 7) mn')))) (aE (mc' (mv' 5) (mc' (mv' 6) (mc' (mv' 7) mn'))))) mn')))))) aaN)
   (aa (ae (bf bU (by rfl) T.tuple cW (mc' (mv' 3) mn')))))),?_⟩
 case ar=>intro as Kc ⟨t,c,h,b,rfl,_⟩;rfl
 intro as Kc M ⟨t,c,h,b,rfl,o,hc,C,k⟩;have n1:=C.n1;have n4:=C.n4;refine ag (MSt.mk [some (.at 0 []),some (.imm h.d),some (.imm (.bool b)),none,none,none,none,none] [[t]] 1) rfl ?_;ext c;refine⟨t,_,_,rfl,o,by omega,by omega,by omega,λq t hq0 hq1 o=>?_⟩;ext x;refine⟨by omega,by omega,?_⟩;refine bV (λi m=>∃R X Y O v P,m=MSt.mk [some (.at 0 []),some (.imm h.d),some (.imm (.bool b)),some (.obj 1),R,X,Y,O] [[v],P.map trD] 1/\TapeK (c+1+10*i) v/\P.length=i/\∀t∈P,T63 h t) ⟨none,none,none,none,t,[],rfl,o,rfl,λ_ z=>by cases z⟩ ?_ ?_
 .rintro i d m e hnp ⟨R,X,Y,O,t,P,rfl,o,hPl,hP⟩;let⟨hi,rfl⟩:=cY e;ext s;refine⟨by decide,by decide,?_⟩;refine bV (λj m=>∃a v,∃Q:List (List Nat),m=MSt.mk [a,some (.imm h.d),some (.at 0 [])] [[v],P.map trD,Q.map lnD] 3/\TapeK (c+1+10*i+4*j) v/\Q.length=j/\∀l∈Q,Lines h l) ⟨none,t,[],rfl,o,rfl,λ_ z=>by cases z⟩ ?_ ?_
  .rintro j d m ej nj ⟨a,t,Q,rfl,o,hQl,hQ⟩;let⟨hj,rfl⟩:=cY ej;ext s;refine CZ (ds:=[.tuple [.int h.a,.int h.b],.tuple (h.ss.map Srv.d),.bool h.mv]) rfl rfl ?_;refine J3 (ds:=h.ss.map Srv.d) ?_;refine bV (λz m=>∃a1 a2 v,∃l:List Nat,m=MSt.mk [a1,a2,some (.at 0 [])] [[v],P.map trD,Q.map lnD,natD l] 4/\TapeK (c+1+10*i+4*j+z) v/\l.length=z/\∀(u:Nat) (s:Srv) (x:Nat),h.ss[u]?=some s->l[u]?=some x->x≤s.r) ⟨none,none,t,[],rfl,o,rfl,λ_ _ _ _ e=>by simp at e⟩ ?_ ?_
   .rintro z d m ez nz ⟨a1,a2,t,l,rfl,o,p,M⟩;let⟨s,Z,rfl,hz⟩:=gmap ez;have s6:=C.ok s (Ld Z);have r6:=s6.r6;rw[show s.d = .tuple [.tuple [.int s.a,.int s.b],.int s.r]from rfl];ext s
    .rfl
    ext s;refine⟨t,_,_,rfl,o,by omega,by omega,by omega,λq1 t q0 q1 o=>?_⟩;let⟨w,rfl⟩:=acd q0;ext x;refine⟨_,rfl,by rw[bg,aag];omega,?_⟩;refine⟨_,_,t,l++[w],by rw[show natD (l++[w])=natD l++[.int (w:Int)] by unfold natD;rw[aaw];rfl],o,by rw[aal,p];rfl,λu s' x S F=>?_⟩
    by_cases N:u<l.length
    .rw[aaD N]at F;exact M u s' x S F
    .rw[aav (by omega)]at F;have u0:u-l.length=0:=by
      have:=(AD.mp F).1;simp at this;omega
     rw[u0]at F;cases F;rw[show u=z by omega,Z]at S;cases S;omega
   intro m nz ⟨a1,a2,t,l,rfl,o,p,M⟩;rw[iO]at o p;ext x;refine⟨_,rfl,by rw[iO,hQl,aag];omega,?_⟩;refine⟨_,t,Q++[l],by rw[aaw];rfl,o.mono (by omega),by rw[aal,hQl];rfl,λl' V=>?_⟩;rcases aaG.mp V with z|z
   .exact hQ l' z
   .rw[aaf.mp z];exact⟨p,M⟩
  .rintro m nj ⟨a,t,Q,rfl,o,hQl,hQ⟩;let⟨x,y,rfl⟩:∃x y,Q=[x,y]:=by
    rw[aH]at hQl
    match Q,hQl with
    |[x,y],_=>exact⟨x,y,rfl⟩
   have I:=hQ x (by simp);have W:=hQ y (by simp);rw[aH]at o;ext n;rw[show [[t],P.map trD,[x,y].map lnD].getD 2 []=[lnD x,lnD y]from rfl];refine UE rfl ?_;ext s;ext n;refine⟨t,_,_,rfl,o,by omega,by omega,by omega,λq1 t U q11 o=>?_⟩;ext x;refine⟨t,_,_,rfl,o,by omega,by omega,by omega,λB t q20 q21 o=>?_⟩;let⟨w,rfl⟩:=acd U;let⟨n,dn,en⟩:∃n:Nat,n<10^40/\atI [ab4 0,.int (w:Int),.int 10,.int 99,.int 100,.int (10^aeO 39),.int (10^aeO 40-1)] B=some (.int (n:Int)):=by
    have:B=0\/B=1\/B=2\/B=3\/B=4\/B=5\/B=6:=by omega
    rcases this with rfl|rfl|rfl|rfl|rfl|rfl|rfl
    .exact⟨0,by decide,rfl⟩
    .exact⟨w,by omega,rfl⟩
    .exact⟨10,by decide,rfl⟩
    .exact⟨99,by decide,rfl⟩
    .exact⟨100,by decide,rfl⟩
    .exact⟨10^39,by decide,rfl⟩
    .exact⟨10^40-1,by decide,rfl⟩
   have L:∀a b:List Nat,Lines h a->Lines h b->∀u∈P++[(a,b,(n:Int))],T63 h u:=λa b La Lb u N=>by
    rcases aaG.mp N with z|z
    .exact hP u z
    .rw[aaf.mp z];exact⟨La,Lb,by show(0:Int)≤n;omega,by show(n:Int)<10^40;omega⟩
   ext n;refine qR en ?_;ext d;refine Sy ?_;ext s
   cases b with
   |true=>
    refine iE ?_;ext s;refine⟨h,x,rfl,C,(cf C I).1,?_⟩;ext x;refine⟨h,y,rfl,C,(cf C W).1,?_⟩;ext x;refine' gc (ds:=P.map trD) ?eb (by rw[iO,aag];omega) ?_
    case eb=>rfl
    ext n;exact⟨_,_,_,_,t,P++[(cZ h x,cZ h y,(n:Int))],by rw[aaw];rfl,o.mono (by omega),by rw[aal,hPl];rfl,L _ _ (gi I) (gi W)⟩
   |false=>
    ext f;refine' gc (ds:=P.map trD) ?eb (by rw[iO,aag];omega) ?_
    case eb=>rfl
    ext n;exact⟨_,_,_,_,t,P++[(x,y,(n:Int))],by rw[aaw];rfl,o.mono (by omega),by rw[aal,hPl];rfl,L _ _ I W⟩
 .rintro m hnp ⟨R,X,Y,O,t,P,rfl,o,hPl,hP⟩;rw[aH]at o hPl;ext s;exact k P t hP (by omega) (o.mono (by omega))
theorem uw(T:Bl K mg)(D:DefM K mg "_law_lines" dI ["_law_paper_here"]):FnM P w K mg base "_law_lines" 1 1 q9:=by
 refine aV D cF rfl (nN:=6) rfl (by decide) ?ar λG A outer s H E f V=>⟨_,(mz' (aC 1 cF.nd (b5 mn'))
   (mz' (cr (bM (mv' 0)) (bh (n:=3) (ac (ai 2 cF.nd) (ac (ai 3 cF.nd) (ac (ai 4 cF.nd) aU)))) (mz' (aC 5 cF.nd (yp aed aee rE au (mc' (bj (own:=["_law_many"]) (fr:=[]) (ps:=[]) (sc:=(ab dI)) (by exact⟨rfl,by decide +kernel,by decide +kernel,by decide +kernel,by decide +kernel⟩) (bM (mv' 2)) (λ_ _ _ _ _=>(ai 0 (show aaV ((["_law_many"]:List Str)++([]:List Str))from by decide +kernel))) (λ_ _ _ _ _=>bp) (λ_ _ _ _ _=>(bf gU (by rfl) T.str su (mc' (mv' 0) mn')))) mn')))
   (aa (cz (js abi abj dB (mv' 1) (mc' (af aM (af aM (af aM (af aM (mv' 5) au) (yp aed aee rE au (mc' (bj (own:=["_law_many"]) (fr:=[]) (ps:=[]) (sc:=(ab dI)) (by exact⟨rfl,by decide +kernel,by decide +kernel,by decide +kernel,by decide +kernel⟩) (bM (mv' 3)) (λ_ _ _ _ _=>(ai 0 (show aaV ((["_law_many"]:List Str)++([]:List Str))from by decide +kernel))) (λ_ _ _ _ _=>bp) (λ_ _ _ _ _=>(bf gU (by rfl) T.str su (mc' (mv' 0) mn')))) mn'))) au) (bf gU (by rfl) T.str su (mc' (mv' 4) mn'))) mn'))))) aaN)
   (aa (ae (mv' 1))))),?_⟩
 case ar=>intro M R ⟨h,P,rfl,_⟩;rfl
 intro M R W ⟨h,P,rfl,q,I,Q,k⟩;refine ag (MSt.mk [some (.imm (.tuple (P.map trD))),none,none,none,none,none] [] 0) rfl ?_;ext c;refine bV (λi m=>∃a b c d,m=MSt.mk [some (.imm (.tuple (P.map trD))),some (.obj 0),a,b,c,d] [pl63 (P.take i)] 0) ⟨none,none,none,none,rfl⟩ ?_ ?_
 .rintro i d m e hnp ⟨a1,a2,a3,a4,rfl⟩;let⟨⟨x,y,d⟩,C,rfl,X⟩:=gmap e;have T:=I _ (Ld C);let⟨n,rfl⟩:∃n:Nat,d=(n:Int):=⟨d.toNat,by have:=T.d0;dsimp only at this;omega⟩;have O:n<10^40:=by have:=T.d1;dsimp only at this;omega
  have u:=T.x;have B:=T.y;dsimp only at u B;have n1:=q.n1;have S:x≠[]:=λz=>by have:=u.1;rw[z]at this;simp at this;omega
  have N:y≠[]:=λz=>by have:=B.1;rw[z]at this;simp at this;omega
  let⟨U,o⟩:=cf q u;let⟨F,g⟩:=cf q B;have le:=Sg (n:=n) S N;have L:=(sJ q T).len;rw[le,fi,fi,fi,fi]at L;rw[show trD (x,y,(n:Int)) = .tuple [lnD x,lnD y,.int (n:Int)]from rfl];ext s
  .rfl
  ext s;refine⟨⟨_,rfl⟩,?_⟩;ext s;refine bV (λj m=>∃a,m=MSt.mk [a] [pl63 (P.take i),((x.take j).map fig).map .str] 2) ⟨none,rfl⟩ ?_ ?_
  .rintro j d m ej v ⟨a,rfl⟩;let⟨z,p,rfl,J⟩:=gmap ej;have:=o z (Ld p);ext s;refine Db (lu (by omega)) ?_;ext s;refine⟨_,rfl,by rw[iO,iO,aaB,aag];omega,some (.imm (.int (z:Int))),?_⟩;rw[ae6,p,aaw,aaw];rfl
  intro m v ⟨a,rfl⟩;rw[bg,aat];ext n;refine FE (ts:=x.map fig) rfl (vh (A8 o U) (by decide)) ?_;ext d;refine yq (by rw[aag];omega) ?_;ext s;refine⟨⟨_,rfl⟩,?_⟩;ext s;refine bV (λj m=>∃a,m=MSt.mk [a] [pl63 (P.take i),((y.take j).map fig).map .str] 2) ⟨none,rfl⟩ ?_ ?_
  .rintro j d m ej v ⟨a,rfl⟩;let⟨z,p,rfl,J⟩:=gmap ej;have:=g z (Ld p);ext s;refine Db (lu (by omega)) ?_;ext s;refine⟨_,rfl,by rw[iO,iO,aaB,aag];omega,some (.imm (.int (z:Int))),?_⟩;rw[ae6,p,aaw,aaw];rfl
  intro m v ⟨a,rfl⟩;rw[bg,aat];ext n;refine FE (ts:=y.map fig) rfl (vh (A8 g F) (by decide)) ?_;ext x;refine yq (by rw[fi,aag];omega) ?_;ext s;refine yq (by rw[fi,fi,aag];omega) ?_;ext s;refine Db (t8 O) ?_;ext s;refine yq (y:=fig n) (by rw[fi,fi,fi,aag];omega) ?_;ext s;refine' gc (ds:=pl63 (P.take i)) ?eb (by rw[pl63,iO,aaB,aag];omega) ?_
  case eb=>rfl
  ext n;unfold pl63;rw[bv _ C,le];exact⟨_,_,_,_,rfl⟩
 .rintro m hnp ⟨a1,a2,a3,a4,rfl⟩;rw[iO,aat];ext s;exact k
theorem uu(T:Bl K mg)(D:DefM K mg "_law_right" i8 ["_law_hall_here","_law_paper_here"])(n:FnM P w K mg base "paper_lines" 3 1 LJ)(G:FnM P w K mg base "_law_lines" 1 1 q9)(g:FnM P w K mg base "read_paper" 5 2 V6):FnM P w K mg base "_law_right" 6 2 uh:=by
 refine aV D c8 rfl (nN:=6) rfl (by decide) ?ar λF A outer s H E f j=>⟨_,(mz' (aC 2 c8.nd (ay (cJ j.gd j.u200) (by rfl) T.repr ia (mc' (mv' 1) mn')))
   (mz' (cr (cp (by rfl) T.range (mc' mh' mn')) (ai 3 c8.nd) (mz' (aC 4 c8.nd (mf' n (j.mono (by decide)) (mc' (mv' 1) mn')))
   (mz' (a9 (EW.pt (fv (ak (gn j.units) (ay (cJ j.gd j.u200) (by rfl) T.repr ia (mc' (mv' 4) mn')) (ay (cJ j.gd j.u200) (by rfl) T.repr ia (mc' (mf' G (j.mono (by decide)) (mc' (mv' 1) mn')) mn')) (aG _)) (fv (ak (gn j.units) (ay (cJ j.gd j.u200) (by rfl) T.repr ia (mc' (mf' g (j.mono (by decide)) (mc' (mv' 0) (mc' (mv' 4) mn'))) mn')) (mv' 2) (aG _)) (gg (ak (gn j.units) (ay (cJ j.gd j.u200) (by rfl) T.repr ia (mc' (mv' 1) mn')) (mv' 2) (aG _)))))) (aa (ae d4)) am)
   (mz' (cz (js abi abj dB (mv' 4) (mc' au mn')))
   (mz' (aC 5 c8.nd (mf' G (j.mono (by decide)) (mc' (mv' 1) mn')))
   (aa (a9 (EW.pt (fv (ak (gn j.units) (ay (cJ j.gd j.u200) (by rfl) T.repr ia (mc' (mf' g (j.mono (by decide)) (mc' (mv' 0) (mc' (mv' 5) mn'))) mn')) (mv' 2) (aG _)) (gg (ak (gn j.units) (mv' 5) (mf' G (j.mono (by decide)) (mc' (mv' 1) mn')) (aG _))))) (aa (ae d4)) am)))))) aaN)
   (aa (ae d4)))),?_⟩
 case ar=>intro I J ⟨h,P,rfl,_⟩;rfl
 intro I J L ⟨h,P,rfl,v,q,o,k⟩;have y:=ye v q o;have B:=RH v q o;have C:=SG v q;let⟨p,u⟩:∃p,p=(prD' P).shown:=⟨_,rfl⟩;let⟨z,x⟩:∃z,z=(adj (pl63 P)).shown:=⟨_,rfl⟩;refine ag (MSt.mk [some (.imm h.d),some (.imm (prD' P)),none,none,none,none] [] 0) rfl ?_;ext s;refine gJ y rfl (by decide) (by decide) ?_;rw[<-u];ext s;refine⟨by decide,by decide,?_⟩;refine fb (λi m=>∃a b c os,m=MSt.mk [some (.imm h.d),some (.imm (prD' P)),some (.imm (.str p)),a,b,c] os 0) ⟨none,none,none,[],rfl⟩ ?_ ?_
 .rintro i d m e hnp ⟨a,b,c,os,rfl⟩ D1 hD1 hR1;let⟨M,rfl⟩:=cY e;refine uo ?_;ext s;refine⟨h,P,rfl,v,q,o,?_⟩;ext n;refine y9 [os.length] (MSt.mk [some (.imm h.d),some (.imm (prD' P)),some (.imm (.str p)),some (.imm (.int (0+(i:Int)))),some (.obj 0),none] [pl63 P] 0) (JX (by simp) (by simp) rfl rfl (by simp) rfl ⟨rfl,rfl,rfl,rfl,⟨os.length,rfl,rfl⟩,trivial,trivial⟩) ?_;ext s;refine gJ B rfl (by decide) (by decide) ?_;rw[<-x];ext s;refine⟨h,P,rfl,v,q,o,?_⟩;ext x;refine gJ B rfl (by decide) (by decide) ?_;rw[<-x];ext s;rw[if_neg (c:=(!decide (z=z))=true) (by rw[decide_eq_true rfl];exact aai)];ext s;refine⟨h,P,rfl,v,q,o,?_⟩;ext x;refine gJ y rfl (by decide) (by decide) ?_;rw[<-u];ext s;rw[if_neg (c:=(!decide (p=p))=true) (by rw[decide_eq_true rfl];exact aai)];ext s;refine gJ y rfl (by decide) (by decide) ?_;rw[<-u];ext s;rw[if_neg (c:=(!decide (p=p))=true) (by rw[decide_eq_true rfl];exact aai)];ext s;refine' gc (ds:=pl63 P) ?eb (by rw[pl63,iO,aag];omega) ?_
  case eb=>rfl
  ext n;refine uo ?_;ext s;refine⟨h,P,rfl,v,q,o,?_⟩;ext n;refine dQ ?_;ext x;refine⟨h,P,rfl,v,q,o,?_⟩;ext x;refine gJ y rfl (by decide) (by decide) ?_;rw[<-u];ext s;rw[if_neg (c:=(!decide (p=p))=true) (by rw[decide_eq_true rfl];exact aai)];ext s;refine⟨h,P,rfl,v,q,o,?_⟩;ext x;refine x_ne (d1:=.list (pl63 P)) (d2:=.list (pl63 P)) rfl rfl C C ?_;rw[VN];ext s;rw[if_neg (c:=(!true)=true) (by decide)];ext s;exact hD1 _ ⟨_,_,_,_,rfl⟩
 .rintro m hnp ⟨a,b,c,os,rfl⟩;ext s;exact k
theorem Yw(T:Bl K mg){O:Addr}{fd:abU}(F:Fun K "law" "law" slaw O fd)(p:FnM P w K mg base "_law_tape" 1 1 zY)(b:FnM P w K mg base "_law_hall" 3 2 xH)(a:FnM P w K mg base "_law_paper" 2 3 sx)(G:FnM P w K mg base "_law_right" 6 2 uh)(j:FnM P w K mg base "_law_lines" 1 1 q9)(o:FnM P w K mg base "read_paper" 5 2 Vq)(g:FnM P w K mg base "never_worse" 10 3 BJ):FnOk P w K mg base CX0 12 O fd ["_law_script"] (spOf ⟨K,w⟩ 1 Ji):=by
 refine L9 F zd rfl (nN:=5) rfl (by decide) λU A outer s H E f q=>⟨_,(mz' (aC 1 zd.nd (mf' p (q.mono (by decide)) (mc' (mv' 0) mn')))
   (mz' (cr (cp (by rfl) T.range (mc' mh' mn')) (ai 2 zd.nd) (mz' (aC 3 zd.nd (mf' b (q.mono (by decide)) (mc' (mv' 1) (mc' mh' mn'))))
   (mz' (a9 (fQ (ck (mf' G (q.mono (by decide)) (mc' (mv' 3) (mc' (mf' a (q.mono (by decide)) (mc' (mv' 1) (mc' (mv' 3) (mc' d4 mn')))) mn'))))) (aa (ae d4)) am)
   (mz' (aC 4 zd.nd (mf' a (q.mono (by decide)) (mc' (mv' 1) (mc' (mv' 3) (mc' d4 mn')))))
   (aa (a9 (ak (gn q.units) (ay (cJ q.gd q.u200) (by rfl) T.repr ia (mc' (mf' o (q.mono (by decide)) (mc' (mv' 3) (mc' (c6 (mf' j (q.mono (by decide)) (mc' (mv' 4) mn'))) mn'))) mn')) (ay (cJ q.gd q.u200) (by rfl) T.repr ia (mc' (mv' 4) mn')) (aG _)) (aa (ae d4)) am))))) aaN)
   (mz' (aC 3 zd.nd (mf' b (q.mono (by decide)) (mc' (mv' 1) (mc' mh' mn'))))
   (aa (ae (mf' G (q.mono (by decide)) (mc' (mv' 3) (mc' (av (mf' g (q.mono (by decide)) (mc' (mv' 3) (mc' (aE (mc' au mn')) (mc' (aE (mc' au mn')) mn')))) mh') mn')))))))),?_⟩
 intro Y Kc hl ⟨ns,rfl,S,k⟩;refine ag (MSt.mk [some (.imm (.list (ns.map .int))),none,none,none,none] [] 0) rfl ?_;ext s;refine⟨ns,rfl,S,λt u=>?_⟩;ext n;refine xY ?_;ext x;refine⟨by decide,by decide,?_⟩;refine fb (λi m=>∃a2 J I N,m=MSt.mk [some (.imm (.list (ns.map .int))),some (.at 0 []),a2,J,I] [[N]] 0/\TapeK (20000*i) N) ⟨none,none,none,t,rfl,u⟩ ?_ ?_
 .rintro i d m e n ⟨a2,J,I,t,rfl,u⟩ D1 hD1 hR1;let⟨hi,rfl⟩:=cY e;ext s;refine⟨t,_,400,rfl,u,by omega,by decide,λh t x Q u=>?_⟩;ext d;refine⟨t,_,h,true,rfl,u,by omega,x,λP t B v u=>?_⟩;ext x;refine⟨h,P,rfl,x,B,v,?_⟩;ext x;rw[if_neg (c:=(!true)=true) (by decide)];ext s;refine⟨t,_,h,false,rfl,u,by omega,x,λP t B v u=>?_⟩;ext d;refine⟨h,P,rfl,x,B,v,?_⟩;ext x;have L:=ye x B v;let⟨D,C⟩:∃D,D=(prD' P).shown:=⟨_,rfl⟩;refine⟨h,P,rfl,x,B,v,?_⟩;ext x;refine gJ L rfl (by decide) (by decide) ?_;rw[<-C];ext s;refine gJ L rfl (by decide) (by decide) ?_;rw[<-C];ext s;rw[if_neg (c:=(!decide (D=D))=true) (by rw[decide_eq_true rfl];exact aai)];ext s;exact hD1 _ ⟨_,_,_,t,rfl,u.mono (by omega)⟩
 .rintro m hnp ⟨a2,J,I,t,rfl,u⟩;ext s;refine⟨t,_,10,rfl,u,by rw[aH];exact(by decide),by decide,λh t x y u=>?_⟩;ext d;have V:nP h≤100:=ad8 y y;refine⟨h,.two,.two,rfl,⟨x,trivial,trivial,(λz=>nomatch z),(λz=>nomatch z)⟩,by omega,aax (ad8 V (show nP h+2≤102 by omega)) (by decide),λ_=>RJ x y,λR X M _=>?_,λZ _ _ W lZ=>?_⟩
  .rw[Pj X]at M;cases M
  .ext x;refine⟨h,Z,rfl,x,λt u=>(W t u).t63,by omega,?_⟩;ext n;exact k
end
def ar_{us:List Ad}{n:Nat}(a:us.length=n):us=(aaL n).map λi=>us.getD i .none:=ahd (by rw[a,iO,abg]) λi b c=>by
 rw[adp,List.getElem_range,aaA,mT b];rfl
local macro_rules | `(tactic| walk_at "dm") => `(tactic| exact λf fd F => F.binds λ_ _ _ _ _ _ us hl => by rw [ar_ hl]; rfl)
def SJ{l:af4}{w:World}{K:aad}{h:aaQ}{mg:Str->Option Ad}{fa:Addr}(X:K.In h)(G:h.Ns aay mg)(hfa:mg "law" = some (.ref fa))(dis_whole:DefK K "is_whole" ll)(o:DefK K "is_whole_within" da)(dis_tuple_of:DefK K "is_tuple_of" gF)(dis_figures:DefK K "is_figures" i7)(dread_figure:DefK K "read_figure" gA)(dread_number:DefK K "read_number" ib)(dis_less:DefK K "is_less" sd)(dis_alike:DefK K "is_alike" mj)(dis_lines:DefK K "is_lines" lC)(J:DefK K "place_of_lines" d5)(D:DefK K "first_shortest" dH)(dwait_at:DefK K "wait_at" qO)(E:DefK K "first_quickest" dF)(dsent_to:DefK K "sent_to" qh)(dfirst_stand:DefK K "first_stand" h8)(dall_orders:DefK K "all_orders" fU)(dall_moves:DefK K "all_moves" fB)(dwith_more:DefK K "with_more" jH)(dcome_to:DefK K "come_to" qi)(ddone_at:DefK K "done_at" qC)(dnext_shift:DefK K "next_shift" iM)(dsettled:DefK K "settled" qY)(dturn_behind:DefK K "turn_behind" gW)(dline_of:DefK K "line_of" qK)(dmoved_on:DefK K "moved_on" kU)(dfigures_of:DefK K "figures_of" fX)(dread_figures:DefK K "read_figures" di)(dtriple_line:DefK K "triple_line" gL)(dpaper_lines:DefK K "paper_lines" e9)(dread_triple:DefK K "read_triple" ic)(A:DefK K "read_paper" f8)(dkept_lines:DefK K "kept_lines" i9)(drefuse_turns:DefK K "refuse_turns" fV)(dfirst_triple:DefK K "first_triple" fY)(dkept_step:DefK K "kept_step" jP)(U:DefK K "triple_behind" fh)(dis_worse:DefK K "is_worse" nU)(p:MthD K "Search" "steps_of" "Search.steps_of" br ["self","side","lines"])(d:MthD K "Search" "triples_behind" "Search.triples_behind" aK ["self","triple"])(dSearch_met:MthD K "Search" "met" "Search.met" c5 ["self","triple","ahead","move"])(dSearch_run_to:MthD K "Search" "run_to" "Search.run_to" b9 ["self","at"])(i:MthD K "Search" "worse_run" "Search.worse_run" bz ["self"])(dSearch_paper:MthD K "Search" "paper" "Search.paper" bX ["self"])(m:IniDK K "Search" "Search.__init__" bT ["self","hall","one","other"])(dnever_worse:DefK K "never_worse" gQ)(d_law_tape:DefK K "_law_tape" j8)(d_law_draw:DefK K "_law_draw" jS)(d_law_frac:DefK K "_law_frac" jI)(O:DefK K "_law_all_lines" cX)(d_law_hall:DefK K "_law_hall" cn)(d_law_kept:DefK K "_law_kept" im)(d_law_paper:DefK K "_law_paper" gf)(d_law_lines:DefK K "_law_lines" dI)(d_law_right:DefK K "_law_right" i8)(dlaw:DefK K "law" slaw)(zlen:aaF K aay "len" = some none)(zabs:aaF K aay "abs" = some none)(zrange:aaF K aay "range" = some none)(zlist:aaF K aay "list" = some none)(ztuple:aaF K aay "tuple" = some none)(zint:aaF K aay "int" = some none)(zsum:aaF K aay "sum" = some none)(zmax:aaF K aay "max" = some none)(zmin:aaF K aay "min" = some none)(zisinstance:aaF K aay "isinstance" = some none)(zbool:aaF K aay "bool" = some none)(zsorted:aaF K aay "sorted" = some none)(zzip:aaF K aay "zip" = some none)(zenumerate:aaF K aay "enumerate" = some none)(zrepr:aaF K aay "repr" = some none)(zstr:aaF K aay "str" = some none)(cFIGURES:ConK K "FIGURES" (.str "0123456789"))(cMOST_FIGURES:ConK K "MOST_FIGURES" (.int 40))(cBETWEEN:ConK K "BETWEEN" (.str "|"))   (V:InsF K "Search" "hall")(C:InsF K "Search" "rules")(I:InsF K "Search" "moves")(N:InsF K "Search" "steps")(H:InsF K "Search" "leads")(j:InsF K "Search" "triples")(Y:InsF K "Search" "ways") :
  ∃fd:abU,(∀(s:Io) (v:Ad),agZ s fd ⟨[v],[]⟩ [("_law_script",v)])/\∀base:aaQ,K.In base->base.Ns aay mg->FnOk l.prog w K mg base CX0 12 fa fd ["_law_script"] (spOf ⟨K,w⟩ 1 Ji):=by
 let⟨f,fd,a,F⟩:=dlaw.ex;have e:=hfa.symm.trans (afm X G a);cases e;have T:Bl K mg:=⟨aaP X G zlen,aaP X G zabs,aaP X G zrange,aaP X G zlist,aaP X G ztuple,aaP X G zint,aaP X G zsum,aaP X G zmax,aaP X G zmin,aaP X G zisinstance,aaP X G zbool,aaP X G zsorted,aaP X G zzip,aaP X G zenumerate,aaP X G zrepr,aaP X G zstr,cFIGURES.m X G,cMOST_FIGURES.m X G,cBETWEEN.m X G,V,C,I,N,H,j,Y⟩;refine⟨fd,λs v=>?_,λbase _ _=>?_⟩
 .obtain⟨oc,od,kV,doc,pm,an,cdv,ct,osl,rfl,lk,hcd⟩:=F.ex;exact .of_eq rfl
 .have Gis_whole:=@yI l.prog w K mg base T (dis_whole.m X G (by ext dm));have q:=@j7 l.prog w K mg base T (o.m X G (by ext dm)) Gis_whole;have Gis_tuple_of:=@qI l.prog w K mg base T (dis_tuple_of.m X G (by ext dm));have u:=@uT l.prog w K mg base T (dis_figures.m X G (by ext dm));have Gread_figure:=@qB l.prog w K mg base T (dread_figure.m X G (by ext dm)) u;have Gread_number:=@ql l.prog w K mg base T (dread_number.m X G (by ext dm)) u;have Gis_less:=@Bv l.prog w K mg base T (dis_less.m X G (by ext dm));have Gis_alike:=@yQ l.prog w K mg base T (dis_alike.m X G (by ext dm));have Gis_lines:=@yR l.prog w K mg base T (dis_lines.m X G (by ext dm)) Gis_tuple_of q;have B:=@ku l.prog w K mg base T (J.m X G (by ext dm));have Q:=@kB l.prog w K mg base T (D.m X G (by ext dm));have Gwait_at:=@DE l.prog w K mg base T (dwait_at.m X G (by ext dm));have M:=@kG l.prog w K mg base T (E.m X G (by ext dm)) Gwait_at Gis_less;have Gsent_to:=@CY l.prog w K mg base T (dsent_to.m X G (by ext dm)) Q M B;have Gfirst_stand:=@qt l.prog w K mg base T (dfirst_stand.m X G (by ext dm));have Gall_orders:=@s9 l.prog w K mg base T (dall_orders.m X G (by ext dm));have Gall_moves:=@uX l.prog w K mg base T (dall_moves.m X G (by ext dm)) Gall_orders;have c:=@u6 l.prog w K mg base T (dwith_more.m X G (by ext dm));have Gcome_to:=@FB l.prog w K mg base T (dcome_to.m X G (by ext dm)) c;have Gdone_at:=@BM l.prog w K mg base T (ddone_at.m X G (by ext dm)) c;have Gnext_shift:=@uU l.prog w K mg base T (dnext_shift.m X G (by ext dm));have Gsettled:=@Fy l.prog w K mg base T (dsettled.m X G (by ext dm)) Gnext_shift c;have Gturn_behind:=@rZ l.prog w K mg base T (dturn_behind.m X G (by ext dm));have Gline_of:=@Fz l.prog w K mg base T (dline_of.m X G (by ext dm)) Gsent_to;have Gmoved_on:=@zh l.prog w K mg base T (dmoved_on.m X G (by ext dm)) Gline_of Gcome_to Gturn_behind Gdone_at Gsettled;have Gfigures_of:=@sV l.prog w K mg base T (dfigures_of.m X G (by ext dm));have Gread_figures:=@oJ l.prog w K mg base T (dread_figures.m X G (by ext dm)) Gread_figure;have Gtriple_line:=@se l.prog w K mg base T (dtriple_line.m X G (by ext dm)) Gfigures_of;have Gpaper_lines:=@qT l.prog w K mg base T (dpaper_lines.m X G (by ext dm)) Gtriple_line;have g:=@r8 l.prog w K mg base T (dread_triple.m X G (by ext dm)) Gread_figures Gread_number Gis_lines;have Gread_paper:=@tq l.prog w K mg base T (A.m X G (by ext dm)) g;have Z:=@mq l.prog w K mg base T (A.m X G (by ext dm)) g;have Gkept_lines:=@sn l.prog w K mg base T (dkept_lines.m X G (by ext dm)) Gis_alike;have Grefuse_turns:=@ot l.prog w K mg base T (drefuse_turns.m X G (by ext dm));have Gfirst_triple:=@oa l.prog w K mg base T (dfirst_triple.m X G (by ext dm)) Gfirst_stand;have Gkept_step:=@vd l.prog w K mg base T (dkept_step.m X G (by ext dm)) Gmoved_on Gkept_lines;have W:=@l5 l.prog w K mg base T (U.m X G (by ext dm));have Gis_worse:=@yG l.prog w K mg base T (dis_worse.m X G (by ext dm));have x:=@jJ l.prog w K mg base T p Gkept_step;have b:=@f7 l.prog w K mg base T d x W;have z:=@uL l.prog w K mg base T dSearch_met;have S:=@lg l.prog w K mg base T dSearch_run_to;have k:=@jw l.prog w K mg base T i b Gis_worse S z;have GSearch_paper:=@oG l.prog w K mg base T dSearch_paper;have y:=@jG l.prog w K mg base T (m.m X G) Gall_moves Gfirst_triple z;have Gnever_worse:=@qZ l.prog w K mg base T (dnever_worse.m X G (by ext dm)) Grefuse_turns y k GSearch_paper;have G_law_tape:=@vA l.prog w K mg base T (d_law_tape.m X G (by ext dm));have R:=@vC l.prog w K mg base T (d_law_draw.m X G (by ext dm));have G_law_frac:=@u4 l.prog w K mg base T (d_law_frac.m X G (by ext dm));have L:=@kz l.prog w K mg base T (O.m X G (by ext dm));have G_law_hall:=@vf l.prog w K mg base T (d_law_hall.m X G (by ext dm)) R G_law_frac L;have G_law_kept:=@vp l.prog w K mg base T (d_law_kept.m X G (by ext dm));have G_law_paper:=@uq l.prog w K mg base T (d_law_paper.m X G (by ext dm)) R G_law_kept;have n:=@uw l.prog w K mg base T (d_law_lines.m X G (by ext dm));have G_law_right:=@uu l.prog w K mg base T (d_law_right.m X G (by ext dm)) Gpaper_lines n Z;exact Yw T F G_law_tape G_law_hall G_law_paper G_law_right n Gread_paper Gnever_worse
theorem walk{l:af4}{q:aaI}{b:List Str}{X:(Str->Option Ad)->aaQ->Prop}{Y:World->aaQ->Prop}{d:DefRec}{K:Params->aad}(i:PyProof.Rows.importsNone q=true)(m:l.most=some 63)(c:d.params.defaults=[])
  (g:∀(w:World) (h:aaQ),Y w h->(K w.params).In h)
  (F:∀(w:World) (mg:Str->Option Ad) (e:Addr) (h:aaQ),(K w.params).In h->h.Ns aay mg->mg d.name=some (.ref e) ->
   ∃fd:abU,(∀(s:Io) (u:Ad),agZ s fd ⟨[u],[]⟩ [("_law_script",u)])/\∀base:aaQ,(K w.params).In base->base.Ns aay mg->FnOk l.prog w (K w.params) mg base CX0 12 e fd ["_law_script"] (spOf ⟨K w.params,w⟩ 1 Ji)) :
  ahy q b X Y l.row.toRowW d [] (λf vs=>ahv f vs):=
 L2.OL (n:=63) (k:=12) (x:= "_law_script") (CX:=λ_=>CX0) (sp:=λw=>spOf ⟨K w.params,w⟩ 1 Ji) i m (by decide) c ⟨rfl,by decide,by decide,rfl⟩ g F
  (λw H a ns y p A=>⟨[.imm (.list (ns.map .int))],[],λr _=>r = .imm (.bool true),rfl,abL,.imm (zc p A) .nil,⟨ns,rfl,y,rfl⟩,λr o v j k _ rr _=>by cases k;exact nH (show Den ⟨K w.params,w⟩ j (.bool true) v from rr)⟩) λ_ _ _ _ _ z=>z
end K
namespace PySem.W.Fast
def tw7345301501578416986:=0
def tw5376675620716047862:=0
def tw17334565637958214217:=0
def tw6762193233535280712:=0
def tw1586315407858265767:=0
def tw917359409450035000:=0
def tw4593673114199604464:=0
def tw10275185711547547802:=0
def tw4718525700272092221:=0
def tw13084056465203775783:=0
def tw7102961555431441407:=0
def tw9653938946233384010:=0
def tw18277286893040749591:=0
def tw6219267268961874873:=0
def tw8880358856034027711:=0
def tw15101870315216078067:=0
def tw7673130924527158460:=0
def tw14321515832637665510:=0
def tw6942737269438511177:=0
def tw9050945674459113206:=0
def tw7683983914842953568:=0
def tw12626834403120420195:=0
def tw7245766671912383391:=0
def tw4817693456962811637:=0
def tw2679718716218496972:=0
def tw9334177761810428113:=0
def tw15697209543722317111:=0
def tw562132508286201732:=0
def tw6588074288309957109:=0
def tw9348063977608972919:=0
def tw14274703601411813215:=0
def tw9775768686371636780:=0
def tw11380094795006770268:=0
def tw15740125399534066347:=0
def tw6502395557520487475:=0
def tw8050194840601125017:=0
def tw6133804167448193167:=0
def tw16495362580649257735:=0
def tw4084849514122365430:=0
def tw13447565856167555006:=0
def tw1032907602706607858:=0
def tw15198638527436366272:=0
def tw6485261044632034997:=0
def tw14442978392433026463:=0
def tw4499328570648427238:=0
def tw18109794406771800752:=0
def tw10141365878302832046:=0
def tw104588970443664752:=0
def tw15143383482689935440:=0
def tw14738322313333370006:=0
def tw2428680120359045130:=0
def tw18425416122716055993:=0
def tw18367322955650571026:=0
def tw12358971573857408909:=0
def tw14000421949467869992:=0
def tw7990762044217223380:=0
def tw16051075448663705963:=0
def tw14479819648198719781:=0
def tw14993519837755823476:=0
def tw140082872736567688:=0
def tw14462995684314188148:=0
def tw11871403893410621092:=0
def tw10789209699886114636:=0
def tw11700396826847660978:=0
def tw1243504853176059886:=0
def tw4101463879102772734:=0
def tw7767483588893496308:=0
def tw2589719367126877434:=0
def tw16574871330033735861:=0
def tw7369699906756780405:=0
def tw6059306205857102391:=0
def tw16785093929536969960:=0
def tw5299699516440168083:=0
def tw10243487608190451656:=0
def tw18179760305833049630:=0
def tw17868234447219542592:=0
def tw2921268006781499814:=0
def tw7729108208007279867:=0
def tw12926147091827715093:=0
def tw5238003054477722023:=0
def tw13905039388708495707:=0
def tw10483959271986954946:=0
def tw11055936972963500132:=0
def tw13446554679629957547:=0
def tw2194443530109449697:=0
def tw4641443583951444173:=0
def tw4976652927052246183:=0
def tw13094801730776043305:=0
def tw6718782915005265109:=0
def tw1906232833229460132:=0
def tw13513247342650818425:=0
def tw17944930359387590804:=0
def tw8964191228423745658:=0
def tw14162674994794359890:=0
def tw4204212527577070896:=0
def tw11437929710647142064:=0
def tw16542344930337783231:=0
def tw10939547204293246808:=0
def tw10332540710327718660:=0
def tw18097833649509142359:=0
def tw11834314236488298582:=0
def tw12881230071343799525:=0
def tw2344561446543663179:=0
def tw10074080338809475224:=0
def tw2343851253048875385:=0
def tw478111644679485446:=0
def tw5008702084560422474:=0
def tw15215131686636964120:=0
def tw10268141080698907478:=0
def tw14300507287030031799:=0
def tw15395344714980300761:=0
def tw6892834047069848745:=0
def tw5868318285135610267:=0
def tw6608053008585535058:=0
def tw17518063504654994753:=0
def tw3519158281168329501:=0
def tw15950162274323292454:=0
def tw14276893426233294742:=0
def tw14769238154745581503:=0
def tw2731702708770978354:=0
def tw17650488558951785060:=0
def tw7938610319393043424:=0
def tw8933502270579393647:=0
def tw7683917692685611523:=0
def tw14732890120024887207:=0
def tw8302908244935476513:=0
def tw11687355098368615211:=0
def tw8700480404519285079:=0
def tw10984029235876376187:=0
def tw7005632525015413618:=0
def tw11824762155443328274:=0
def tw11240073428563197086:=0
def tw854819046999474913:=0
def tw1353642971370791549:=0
def tw610431416880162476:=0
def tw11334307603670674433:=0
def tw11607489796205691420:=0
def tw4666601733469439016:=0
def tw10659839163584793965:=0
def tw10376672183249343495:=0
def tw1592984305248049931:=0
def tw6524912443743943420:=0
def tw13164020659234582487:=0
def tw3290199830132661726:=0
def tw10685308237219062120:=0
def tw17381630224564211897:=0
def tw1376929864552434226:=0
def tw3358865142663062083:=0
def tw15434726379413773028:=0
def tw18045047014701016667:=0
def tw16128291207010200649:=0
def tw2040277010229199628:=0
def tw1674237267361469213:=0
def tw12725286853940645217:=0
def tw11271183611503677839:=0
def tw9802892464165192335:=0
def tw2921322100589940215:=0
def tw9405359944853439677:=0
def tw15244393881185751665:=0
def tw8947725276735822787:=0
def tw15880887775736222502:=0
def tw9589253212869679944:=0
def tw12829286194935486814:=0
def tw13058146966418001675:=0
def tw13642537320680456587:=0
def tw4070542863207409185:=0
def tw17281812314823491397:=0
def tw3897794430977799307:=0
def tw13412653544940637:=0
def tw2801206050523848473:=0
def tw8032324103400988231:=0
def tw11171859146216259578:=0
def tw18089030469654196439:=0
def tw4186845942387697012:=0
def tw1399785668658665005:=0
def tw884826742074237071:=0
def tw86758322065209001:=0
def tw13596820294959653094:=0
def tw10417552226358223725:=0
def tw17095802236238244613:=0
def tw18031749597544298064:=0
def tw1384815666043203336:=0
def tw8476707976738818473:=0
def tw11467178529562791046:=0
def tw5296548609848669940:=0
def tw4366016263186148115:=0
def tw15933445384121364744:=0
def tw5292263513142891753:=0
def tw9404888545835091482:=0
def tw17595627634932554587:=0
def tw11727765404419146631:=0
def tw17100239679842992316:=0
def tw10252844547759477121:=0
def tw14324147081822703666:=0
def tw8143037881780115167:=0
def tw3672233738530101883:=0
def tw14940983032264081940:=0
def tw18283404399773217496:=0
def tw4986882623835969606:=0
def tw10878607448230226871:=0
def tw13102353884295305885:=0
def tw3299667903831127000:=0
def tw2023380816284531230:=0
def tw11240263552812574879:=0
def tw2700143153587939258:=0
def tw5138888208408262186:=0
def tw17507983747370693213:=0
def tw9242354564792370065:=0
def tw10099767691841190324:=0
def tw11801656825311421010:=0
def tw762368240173927564:=0
def tw15340280089900974318:=0
def tw325966332227252970:=0
def tw13999520712462445371:=0
def tw16183402316920887933:=0
def tw12294893742231412188:=0
def tw1018740154249270800:=0
def tw13105442508681508942:=0
def tw28680325125125296:=0
def tw3143125780900069912:=0
def tw5089194855973196142:=0
def tw1561228326228353754:=0
def tw17729245973590172584:=0
def tw9488103074289904994:=0
def tw7163462245017599963:=0
def tw11198779289516161970:=0
def tw7903026559236571887:=0
def tw5704598272587164612:=0
def tw8636173824015587851:=0
def tw10570187837901506207:=0
def tw9990430523916274692:=0
def tw16985295458308406991:=0
def tw9349264570331260751:=0
def tw13520547601684806787:=0
def tw12768628303332025922:=0
def tw16090165767390298094:=0
def tw2977274904563728995:=0
def tw15764222649051645464:=0
def tw2694663232098759069:=0
def tw15937098562530806459:=0
def tw11075925155395769189:=0
def tw3256341770137421931:=0
def tw13892125935878184882:=0
def tw15315599129139681624:=0
def tw6845498906993047086:=0
def tw10510648251089096511:=0
def tw15956514892558537983:=0
def tw16919523232302878662:=0
def tw3191320659193702797:=0
def tw12124422602948477766:=0
def tw8656913425167633179:=0
def tw1867003369099740863:=0
def tw13330540996807294905:=0
def tw11365140646521958574:=0
def tw11392187931188766450:=0
def tw16098556567552104770:=0
def tw805690750951058944:=0
def tw15922020589103065447:=0
def tw16316608413870114037:=0
def tw13143188834650722160:=0
def tw10579373482965823550:=0
def tw18310152656899218131:=0
def tw7207899861286604528:=0
def tw15949153737127629651:=0
def tw4868318308558342619:=0
def tw12825053974426265057:=0
def tw4514270891433793310:=0
def tw2561879410804993030:=0
def tw10893759398315118264:=0
def tw17951141052158903293:=0
def tw18146635712840183957:=0
def tw15986014077223059992:=0
def tw6073520903210751485:=0
def tw1324313358778346085:=0
def tw18188557343260525030:=0
def tw5040849920285763695:=0
end PySem.W.Fast
open PySem PySem.W PyProof.Rows
local macro_rules | `(tactic| walk_at "dk") => `(tactic| (refine' L2.DefK.of ?a ?l ?c ?k; (case a => k_is); (case l => k_is); (case c => k_is); (case k => k_is)))
set_option maxRecDepth 100000 in
set_option maxHeartbeats 0 in
theorem PySem.Challenge.cw_shorterline_k63_never_papers_as_lines_holds : PySem.Challenge.rw_shorterline_k63_never_papers_as_lines.Holds := by
 w_on;o_law;k_head;(case hw=>w_witness2)
 k_fill
 refine K.walk (l:=PySem.Challenge.rw_shorterline_k63_never_papers_as_lines) ?hq rfl rfl (λw h Y=>PySem.W.kIn_of Y) ?F
 case hq=>kernel_rfl
 case F=>
  intro w mg fa h KX G hmg;refine' K.SJ KX G hmg ?_ ?_ ?_ ?_ ?_ ?_ ?_ ?_ ?_ ?_ ?_ ?_ ?_ ?_ ?_ ?_ ?_ ?_ ?_ ?_ ?_ ?_ ?_ ?_ ?_ ?_ ?_ ?_ ?_ ?_ ?_ ?_ ?_ ?_ ?_ ?_ ?_ ?_ ?_ ?_ ?_ ?_ ?_ ?_ ?_ ?_ ?_ ?_ ?_ ?_ ?_ ?_ ?_ ?_ ?_ ?_ ?_ ?_ ?_ ?_ ?_ ?_ ?_ ?_ ?_ ?_ ?_ ?_ ?_ ?_ ?_ ?_ ?_ ?_ ?_ ?_ ?_ ?_ ?_ ?_ ?_
  iterate 37 · ext dk
  .refine' L2.MthD.of K.kE ?xa ?xb ?xc ?xd ?xe ?xf ?xl ?xg ?xk ?xn;(case xa=>k_is);(case xb=>k_is);(case xc=>k_is);(case xd=>k_is);(case xe=>k_is);(case xf=>k_is);(case xl=>k_is);(case xg=>k_is);(case xk=>k_is);(case xn=>k_is)
  .refine' L2.MthD.of K.gw ?xa ?xb ?xc ?xd ?xe ?xf ?xl ?xg ?xk ?xn;(case xa=>k_is);(case xb=>k_is);(case xc=>k_is);(case xd=>k_is);(case xe=>k_is);(case xf=>k_is);(case xl=>k_is);(case xg=>k_is);(case xk=>k_is);(case xn=>k_is)
  .refine' L2.MthD.of K.vg ?xa ?xb ?xc ?xd ?xe ?xf ?xl ?xg ?xk ?xn;(case xa=>k_is);(case xb=>k_is);(case xc=>k_is);(case xd=>k_is);(case xe=>k_is);(case xf=>k_is);(case xl=>k_is);(case xg=>k_is);(case xk=>k_is);(case xn=>k_is)
  .refine' L2.MthD.of K.og ?xa ?xb ?xc ?xd ?xe ?xf ?xl ?xg ?xk ?xn;(case xa=>k_is);(case xb=>k_is);(case xc=>k_is);(case xd=>k_is);(case xe=>k_is);(case xf=>k_is);(case xl=>k_is);(case xg=>k_is);(case xk=>k_is);(case xn=>k_is)
  .refine' L2.MthD.of K.jK ?xa ?xb ?xc ?xd ?xe ?xf ?xl ?xg ?xk ?xn;(case xa=>k_is);(case xb=>k_is);(case xc=>k_is);(case xd=>k_is);(case xe=>k_is);(case xf=>k_is);(case xl=>k_is);(case xg=>k_is);(case xk=>k_is);(case xn=>k_is)
  .refine' L2.MthD.of K.qo ?xa ?xb ?xc ?xd ?xe ?xf ?xl ?xg ?xk ?xn;(case xa=>k_is);(case xb=>k_is);(case xc=>k_is);(case xd=>k_is);(case xe=>k_is);(case xf=>k_is);(case xl=>k_is);(case xg=>k_is);(case xk=>k_is);(case xn=>k_is)
  .refine' L2.IniDK.of K.kH ?xa ?xd ?xl ?xe ?xk ?xf ?xm ?xc;(case xa=>k_is);(case xd=>k_is);(case xl=>k_is);(case xe=>k_is);(case xk=>k_is);(case xf=>k_is);(case xm=>k_is);(case xc=>k_is)
  iterate 11 · ext dk
  iterate 16 · k_is
  .refine' L2.ConK.str ?a;(case a=>k_is)
  .refine' L2.ConK.int ?a;(case a=>k_is)
  .refine' L2.ConK.str ?a;(case a=>k_is)
  iterate 7 · (refine' L2.InsF.of ?xa ?xb ?xc ?xd ?xe ?xf;(case xa=>k_is);(case xb=>k_is);(case xc=>k_is);(case xd=>k_is);(case xe=>k_is);(case xf=>k_is))