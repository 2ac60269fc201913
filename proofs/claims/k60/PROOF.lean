import PyProof.Rows.All
import Wide.All
import OpenK.AllK
import Wide.FinOn
import Lean
import PyProof.EqAt
import PyProof.EqKinds
import PyProof.TupleCall
import KE.KRevIter
import PyProof.FactsAll.range
import PyProof.P3In
import PyProof.ZipIter
import PyProof.TupleIter
import PyProof.WalkInts
import PyProof.SeqI3
import PyProof.EnumFor
import PyProof.EnumMake
import PyProof.ListMulRoad
import PyProof.Rows.SortRev
import PyProof.SumWalkG
import PyProof.StrWalks
import PyProof.StrCalls2
import PyProof.StrLawsTight
import KE.KIntText
import PyProof.StrBlockG
import PyProof.Rows.StrItems
import PyProof.StrLawsRepr
import PyProof.SliceStr2
import PyProof.StrBlockI
import PyProof.Rows.IntBool
import PyProof.Rows.FStr
import PyProof.FString
import PyProof.FactsAll.tuple
import KE.KSortTup
import PyProof.AutoListH
import PyProof.StrOps2
import PyProof.ListStr
import PyProof.DictRoadsH
import PyProof.Rows.TupTab
import PyProof.P3Eq
import PyProof.StationsW
import PyProof.RulesAs
import OpenK.KOwn
import KE.KTryMore
import PyProof.NsDelKeeps
import PyProof.ExcArgsOwn
import PyProof.ExcInit
import PyProof.InstStoreFacts
import PyProof.ListRange
import PyProof.TupleOfStr
import PyProof.CollectIter
import PyProof.DictItems
import PyProof.DictWalks
import PyProof.CollectWalk
import PyProof.AutoSeq1
import KE.KDictOf
import PyProof.AttrMissHeap
import PyProof.DictTruth
import KE.RegKIsAll
import KE.RegKTryMore
import PySem.Challenge.RW_shorterline_k60_whole_servers_turned
set_option Elab.async false
set_option linter.all false
set_option maxRecDepth 100000
namespace Zz
theorem e1_1{α:Sort _}{p:α→Prop}{g:Prop}(h:∃a,p a)(k:∀a,p a→g):g:=h.elim λa h=>k a h
theorem e0_2{p q:Prop}{g:Prop}(h:p∧q)(k:p→q→g):g:=k  h.1 h.2
theorem e2_1{α β:Sort _}{p:α→β→Prop}{g:Prop}(h:∃a b,p a b)(k:∀a b,p a b→g):g:=h.elim λa h=>h.elim λb h=>k a b h
theorem e1_2{α:Sort _}{p q:α→Prop}{g:Prop}(h:∃a,p a∧q a)(k:∀a,p a→q a→g):g:=h.elim λa h=>k a h.1 h.2
theorem e0_3{p q r:Prop}{g:Prop}(h:p∧q∧r)(k:p→q→r→g):g:=k  h.1 h.2.1 h.2.2
theorem e3_1{α β γ:Sort _}{p:α→β→γ→Prop}{g:Prop}(h:∃a b c,p a b c)(k:∀a b c,p a b c→g):g:=h.elim λa h=>h.elim λb h=>h.elim λc h=>k a b c h
theorem e2_2{α β:Sort _}{p q:α→β→Prop}{g:Prop}(h:∃a b,p a b∧q a b)(k:∀a b,p a b→q a b→g):g:=h.elim λa h=>h.elim λb h=>k a b h.1 h.2
theorem e1_3{α:Sort _}{p q r:α→Prop}{g:Prop}(h:∃a,p a∧q a∧r a)(k:∀a,p a→q a→r a→g):g:=h.elim λa h=>k a h.1 h.2.1 h.2.2
theorem e0_4{p q r s:Prop}{g:Prop}(h:p∧q∧r∧s)(k:p→q→r→s→g):g:=k  h.1 h.2.1 h.2.2.1 h.2.2.2
theorem e4_1{α β γ δ:Sort _}{p:α→β→γ→δ→Prop}{g:Prop}(h:∃a b c d,p a b c d)(k:∀a b c d,p a b c d→g):g:=h.elim λa h=>h.elim λb h=>h.elim λc h=>h.elim λd h=>k a b c d h
theorem e3_2{α β γ:Sort _}{p q:α→β→γ→Prop}{g:Prop}(h:∃a b c,p a b c∧q a b c)(k:∀a b c,p a b c→q a b c→g):g:=h.elim λa h=>h.elim λb h=>h.elim λc h=>k a b c h.1 h.2
theorem e2_3{α β:Sort _}{p q r:α→β→Prop}{g:Prop}(h:∃a b,p a b∧q a b∧r a b)(k:∀a b,p a b→q a b→r a b→g):g:=h.elim λa h=>h.elim λb h=>k a b h.1 h.2.1 h.2.2
theorem e1_4{α:Sort _}{p q r s:α→Prop}{g:Prop}(h:∃a,p a∧q a∧r a∧s a)(k:∀a,p a→q a→r a→s a→g):g:=h.elim λa h=>k a h.1 h.2.1 h.2.2.1 h.2.2.2
theorem e0_5{p q r s t:Prop}{g:Prop}(h:p∧q∧r∧s∧t)(k:p→q→r→s→t→g):g:=k  h.1 h.2.1 h.2.2.1 h.2.2.2.1 h.2.2.2.2
theorem i2_1{α β:Sort _}{p:α→β→Prop}(a:α)(b:β)(h0:p a b):∃a b,p a b:=⟨a,b,h0⟩
theorem i1_2{α:Sort _}{p q:α→Prop}(a:α)(h0:p a)(h1:q a):∃a,p a∧q a:=⟨a,h0,h1⟩
theorem i0_3{p q r:Prop}(h0:p)(h1:q)(h2:r):p∧q∧r:=⟨h0,h1,h2⟩
theorem i3_1{α β γ:Sort _}{p:α→β→γ→Prop}(a:α)(b:β)(c:γ)(h0:p a b c):∃a b c,p a b c:=⟨a,b,c,h0⟩
theorem i2_2{α β:Sort _}{p q:α→β→Prop}(a:α)(b:β)(h0:p a b)(h1:q a b):∃a b,p a b∧q a b:=⟨a,b,h0,h1⟩
theorem i1_3{α:Sort _}{p q r:α→Prop}(a:α)(h0:p a)(h1:q a)(h2:r a):∃a,p a∧q a∧r a:=⟨a,h0,h1,h2⟩
theorem i0_4{p q r s:Prop}(h0:p)(h1:q)(h2:r)(h3:s):p∧q∧r∧s:=⟨h0,h1,h2,h3⟩
theorem i4_1{α β γ δ:Sort _}{p:α→β→γ→δ→Prop}(a:α)(b:β)(c:γ)(d:δ)(h0:p a b c d):∃a b c d,p a b c d:=⟨a,b,c,d,h0⟩
theorem i3_2{α β γ:Sort _}{p q:α→β→γ→Prop}(a:α)(b:β)(c:γ)(h0:p a b c)(h1:q a b c):∃a b c,p a b c∧q a b c:=⟨a,b,c,h0,h1⟩
theorem i2_3{α β:Sort _}{p q r:α→β→Prop}(a:α)(b:β)(h0:p a b)(h1:q a b)(h2:r a b):∃a b,p a b∧q a b∧r a b:=⟨a,b,h0,h1,h2⟩
theorem i1_4{α:Sort _}{p q r s:α→Prop}(a:α)(h0:p a)(h1:q a)(h2:r a)(h3:s a):∃a,p a∧q a∧r a∧s a:=⟨a,h0,h1,h2,h3⟩
theorem i0_5{p q r s t:Prop}(h0:p)(h1:q)(h2:r)(h3:s)(h4:t):p∧q∧r∧s∧t:=⟨h0,h1,h2,h3,h4⟩
end Zz
local macro_rules
 |`(tactic|let $d:letDecl)=>do
  let D:=d.raw[0];let p:=D[0];let q:=p[1].getSepArgs
  if p.getKind !=``Lean.Parser.Term.anonymousCtor||q.size<2 then Lean.Macro.throwUnsupported
  let mut e:Lean.TSyntax `term:=⟨D[4]⟩
  if D[2].getNumArgs !=0 then e:=←`(($e : $(⟨D[2][0][1]⟩)))
  let T:=Array (Lean.TSyntax `tactic)
  let mut U:T:=#[]
  let mut cl:T:=#[]
  if e.raw.isIdent then cl:=#[←`(tactic|try clear $(⟨e.raw⟩))]
  let K:=Nat.min q.size 5
  for k in [0:K-1] do
   let N:=K-k
   let mut z:=cl
   for i in [0:N] do
    let c:=q[i]!
    if c.isIdent&&c.getId !=`rfl&&(i+1<N||N==q.size) then z:=z.push (←`(tactic|intro $(⟨c⟩):ident))
    else
     let y:=Lean.mkIdent (←Lean.Macro.addMacroScope (.mkSimple s!"x{i}"))
     z:=z.push (←`(tactic|intro $y:ident))
     if i+1==N&&N<q.size then
      let r:Lean.TSyntaxArray `term:=(q.extract i q.size).map (⟨·⟩)
      z:=z.push (←`(tactic|let ⟨$r,*⟩:=$y))
     else if c.getKind==``Lean.Parser.Term.anonymousCtor then z:=z.push (←`(tactic|let $(⟨c⟩):term:=$y))
     else if c.isIdent then z:=z.push (←`(tactic|rcases $y:ident with $(⟨c⟩):ident))
   for i in [0:N] do
    let s:=#[←`(tactic|refine $(Lean.mkIdent (.mkStr2 "Zz" s!"e{N-1-i}_{i+1}")) $e ?_)]++z
    U:=U.push (←`(tactic|($[$s:tactic];*)))
  let rec cv:Nat->Lean.Syntax->Lean.MacroM (Lean.TSyntax `rcasesPat)
   |0,_=>Lean.Macro.throwUnsupported
   |n+1,c=>do
    if c.isIdent then `(rcasesPat|$(⟨c⟩):ident)
    else if c.getKind==``Lean.Parser.Term.anonymousCtor then
     let a:=←c[1].getSepArgs.mapM (cv n)
     `(rcasesPat|⟨$[$a],*⟩)
    else `(rcasesPat|_)
  let m←cv 9 p
  `(tactic|first $[|$U:tactic]*|rcases $e:term with $m:rcasesPat)
 |`(tactic|intro $a*)=>do
  let C:=λx:Lean.Syntax=>x.getKind==``Lean.Parser.Term.anonymousCtor||x.getId==`rfl
  if !a.any (C ·.raw) then Lean.Macro.throwUnsupported
  let mut z:Array (Lean.TSyntax `tactic):=#[]
  for x in a do
   if C x then
    let y:=Lean.mkIdent (←Lean.Macro.addMacroScope `y)
    z:=z.push (←`(tactic|intro $y:ident))
    z:=z.push (←if x.raw.isIdent then `(tactic|rcases $y:ident with $(⟨x⟩):ident) else `(tactic|let $x:term:=$y))
   else z:=z.push (←`(tactic|intro $x:term))
  `(tactic|($[$z:tactic];*))
 |`(tactic|exact ⟨$a,*⟩)=>do
  let q:=a.getElems;let n:=q.size
  if n<3||5<n then Lean.Macro.throwUnsupported
  let mut U:Array (Lean.TSyntax `tactic):=#[]
  for i in [0:n] do U:=U.push (←`(tactic|exact $(Lean.mkIdent (.mkStr2 "Zz" s!"i{n-1-i}_{i+1}")) $q*))
  `(tactic|first $[|$U:tactic]*|exact (⟨$a,*⟩))
 |`(tactic|refine ⟨$a,*⟩)=>do
  let q:=a.getElems;let n:=q.size
  if n<3||5<n then Lean.Macro.throwUnsupported
  let mut U:Array (Lean.TSyntax `tactic):=#[]
  for i in [0:n] do U:=U.push (←`(tactic|refine $(Lean.mkIdent (.mkStr2 "Zz" s!"i{n-1-i}_{i+1}")) $q*))
  `(tactic|first $[|$U:tactic]*|refine (⟨$a,*⟩))
local macro_rules |`(tactic|ext a)=>`(tactic|walk_at"a")|`(tactic|ext b)=>`(tactic|walk_at"b")|`(tactic|ext c)=>`(tactic|walk_at"c")|`(tactic|ext d)=>`(tactic|walk_at"d")|`(tactic|ext dk)=>`(tactic|walk_at"dk")|`(tactic|ext dm)=>`(tactic|walk_at"dm")|`(tactic|ext e)=>`(tactic|walk_at"e")|`(tactic|ext n)=>`(tactic|walk_at"n")|`(tactic|ext s)=>`(tactic|walk_at"s")|`(tactic|ext sc)=>`(tactic|walk_at"sc")|`(tactic|ext x)=>`(tactic|walk_at"x")
open PySem renaming PyData->aD,wpAny_bind->gT,Value->Ad,Shared->GT,wpAny_pure->LD,starEach->aag,sizeLine->aaj,sizeLine_eq->aar,mainGlobals->aay,Program->aaI,foldedSetIterable->aaR,Heap->aaW,wpAny_setField_rec->aaX,Around->aa8,wpAny_callSpecial?_slot->aa9,wpAny_isOneOf_itemiter->abf,wpAny_newObj_type->abg,bootBuiltins->abi,wpAny_call_entry->abk,compareOp->abm,swapsWith->abB,sysModules->abC,backTo->abD,wpAny_field->abG,wpAny_rule->abL,Paired->abO,attributeBase->abQ,assignEach->abX,FuncData->ab4,wpAny_mono->acb,DictEntry->acd,wpAny_holding->ach,binaryOp->acl,mem_of_lookup->acs,keywordEach->acw,wpAny_Call_Name_kw->acy,wpAny_seqItems->acB,wpAny_passesOwn->acF,standAt->acI,behindInMarks->acN,pyNext->acR,wpAny_typeOf->acW,IsItemIter->ac2,codeAny_builtin->ac4,wpAny_standAt->ac6,wpAny_attempt->ac7,wpAny_dictEntries->adg,Builtin->adm,wpAny_isInstance->ado,swapsWithSole->ady,swappedStores->adz,bindArgs->adA,backToKw->adB,wpAny_comprehension_free->adE,ReadsAll->adF,setField->adG,holding->adN,letOwnedTupleGo->adO,codeAny->adP,wpAny_dictEpoch->adR,call_meets->adV,tupleKind_room_in1->adW,sliceBounds->adY,codeAny_mono->ad1,getMethod->aee,wpAny_forIn_list->aeg,getItem->aek,NameKind->aeo,wpAny_updateSeq_pair->aeq,wpAny_execs_nil->aet,wpAny_loadPart'->aey,wpAny_specialOf->aez,Keyword->aeG,Operator->aeO,rawInt->aeW,wpAny_fieldsOf->aeY,wpAny_binaryOp_repeat_ref->ae4,wpAny_truthy_bool->ae8,wpAny_sequenceKey->afb,slot_list_getitem->afc,assign->afh,wpAny_getItem_list_slice->afj,IsPair->afl,wpAny_onRaise->afm,wpAny_newList->afo,IsItemIterOut->afr,PassesOwn->aft,noFill_tuple_add->afu,Within->afD,pyIter->afF,concat_meets->afH,IsPart->afI,typeIs_int->afK,wpAny_Assign_Subscript->afM,wpAny_updateSeq->afV,exec_Assign_Name_used->afY,wpAny_notOrdered_dict->af1,callWith->af5,subscripted->af6,compEnvC->af7,wpAny_letGo->aga,wpAny_newTuple->agb,isSubtype_stop->agc,tupleKind->agi,callerA->agj,relabel->agk,valueAt->agn,seq_tuple_add->agw,plainId_quiet->agA,IntMulOk->agQ,BindsTo->agR,newList->agU,slicePick->ag3,seqSlot_of->ag9,specialOf->aha,call->ahn
open List renaming getElem?_eq_getElem->iO,length_map->lD,getElem?_eq_some_iff->AD,mem_of_getElem?->Io,getD_eq_getElem?_getD->aaa,mem_cons_self->aac,mem_cons_of_mem->aad,getElem?_map->aae,mem_singleton->aah,mem_cons->aak,mem_map->aal,length_append->aam,map_cons->aan,replicate->aas,range->aat,length_take->aau,length_cons->aaw,take_length->aax,mem_append_right->aaz,getElem?_append_left->aaE,size_toArray->aaG,map_append->aaH,getElem?_set_ne->aaK,getElem?_append_right->aaN,take_add_one->aaO,getElem?_set_self->aaP,getElem?_take->aaQ,getElem?_eq_none->aaT,mem_append->aaU,append_assoc->aaV,mem_append_left->aaZ,append_nil->aa0,Nodup->aa2,map_map->aa4,lookup_cons->aa5,ext_getElem?->aba,length_range->abb,nodup_cons->abd,length_set->abe,nil_append->abh,eq_nil_of_length_eq_zero->abj,getElem?_range->abo,all_eq_true->abr,take_of_length_le->aby,mem_of_mem_take->abH,map_congr_left->abM,nodup_nil->abT,mem_iff_getElem->abY,not_mem_nil->abZ,all_cons->ab2,mem_flatMap->ace,getElem_mem->acf,mem_range->ack,getElem?_replicate->acn,replicate_succ->acu,pairwise_cons->acA,length_replicate->acD,pairwise_iff_getElem->acE,range_succ->acH,nodup_append->acK,getElem?_of_mem->acL,length_drop->acT,pairwise_singleton->acV,length_nil->ac5,sum_cons->ac8,take_append_drop->adb,reverse_cons->adf,length->adh,cons_append->adp,drop_eq_getElem_cons->adr,filterMap_cons->adt,flatMap_append->adu,getElem_set_ne->adv,set_eq_take_append_cons_drop->adZ,map_nil->ad6,all_map->aea,filter_cons->aej,lookup->aen,foldl_cons->aeu,mem_or_eq_of_mem_set->ae5,reverse_perm->afg,any_cons->afp,any_eq_true->afB,mem_filter->afP,of_mem_zip->afS,forIn_cons->afT,getElem_set_self->afZ,length_singleton->af3,length_filter_le->af4,range'->af8,map_id->agd,getElem?_mapIdx->age,map->agg,take->agm,length_reverse->agq,reverse_append->ags,map_eq_nil_iff->agu,filterMap_map->agD,foldl->agF,set_cons_zero->agJ,set_cons_succ->agK,map_replicate->agM,filter_append->agP,flatten_cons->agS,foldl_append->agZ,ext_getElem->ag5,range'_succ->ag6,zipIdx_cons->ag8,map_reverse->ahf
open PySem.Heap renaming get?_push_of_some->Ld,get?_push_size->aao,lt_size->aap,size_push->abE,SameBut->ab3,get?_update_other->acX,get?_update_self->ada,size_update->aeh,ExtBut->af9
open Nat renaming le_refl->aab,lt_of_lt_of_le->aav,le_trans->aaD,ne_of_lt->aa3,ne_of_gt->abx,lt_succ_self->abA,zero_le->abF,le_of_lt->abV,le_add_right->acx,zero_add->acJ,lt_irrefl->acM,mul_comm->acY,mul_le_mul_right->adk,mul_le_mul->adl,min_le_right->adn,zero_ne_add_one->adx,add_assoc->adI,lt_succ_of_lt->ad4,lt_trans->ad7,lt_of_succ_lt->aeb,le_of_ble_eq_true->aed,le_max_left->aew,le_of_eq->aeE,succ_mul->aeH,le_succ->afa,gcd_pos_of_pos_right->afq,add_left_cancel->agt,mod_lt->agI,min_self->agX,lt_trichotomy->ag0
open PySem.W renaming Frag->aaf,nsIn->aaM,mg_none_of->aaY,fnOf->abl,findIn->abp,emptyDict->abN,keepIn->abP,instObj->acp,plainGet->acS,hasDictIn->add,codeIn->adi,plainOver->ad0,plainGet_of->aeC,isFn->aeD,lookIn->aeQ,callWith_K->aeS,cellsFrom_some->afG,takerIn->afQ,makesIn->afR,methodCall_KW->afX,mg_of->agz,handedIn->ag1,OpenLaw->ahg,WalkO->aho
open PySem.PyData renaming eqv->aai,depthAll->aaC,hasDict_of_canLay->aa6,int->abq,hasDictAll_of_canLayAll->abt,canLayAll0->abv,tuple->ab6,hasDict->acm,hasDictAll->ade,canLay0->aeT,list->afd
open Bool renaming false_ne_true->aaq,and_eq_true->aaS,eq_iff_iff->abI,false_eq_true->acZ,and_true->adK,beq_eq_decide_eq->aec,or_eq_false_iff->aep,not_eq_true->afx,or_eq_true->afU
open Option.some renaming inj->aaB,injEq->agW
open PyProof.Rows renaming wpS_bind->aaF,pendingOf->aaJ,wpS_pure->aaL,slot_tuple_getitem->abn,SortSt->abu,wpS_forRange->abz,callWith_type1->ab1,wpS_mono->ab8,seqObj->acU,envOfC->ad2,callWith_builtin1->aef,wpS_modify->aei,IntsAre->aeF,wpS_get->aeJ,assignInOrder_cons->aeP,failedOf->ae1,AllBare->ae7,listUpdate_at->afn,SortKind->afz,wpS_lift->afA,subscriptTail_builtinR->afJ,sortedHeap->afO,gallopOf->agf,tupleItemsOf_->agx,subscriptTail->agy,Subscript_->agE,listItems_at->agY
open PySem.PassesOwn renaming never->aa1
open PySem.F renaming slot_dict_itemiterator_next->aa7,args_dict_itemiterator_next_1->ab9,entry_dict_itemiterator_next->acg,slot_tuple_index->acj,type_tuple_index->acO,plain_extend_loop->adw,args_tuple_add_2->adC,slot_list_append->adL,type_list_append->adM,entry_tuple_add->adX,slot_tuple_add->ad3,slot_tuple_mul->ad5,slot_zip_next->aex,slot_dict_items_iter->aeB,slot_tuple_iterator_next->aeV,slot_dict_getitem->ae6,slot_tuple_hash->aff,slot_list_index->afv,slot_tuple_rmul->afw,slot_dict_items->afy,slot_int_rmul->af0,entry_extend_loop->agr
open Int renaming toNat_natCast->abc,eq_ofNat_of_zero_le->aco,emod_lt_of_pos->ac3,natCast_mul->adQ,emod_nonneg->adT,natCast_add->aeA,le_trans->aeK,ediv_nonneg->afW,toNat->ago
open PySem.Value renaming ref->abw,type->aeM,int->agh,none->agC
open PySem.Builtin.Tuple renaming tupleHashOf->abJ,tupleExact->abR,tupleItemsOf->adj,tupleIsExact->aeU,tupleTooMany->aeX
open PySem.Builtin.SmallTypes renaming nextOf->abK,ownedTupleIsFree->adH
open PySem.Builtin.Dict_items renaming ownedTupleIsFree->abU,ownsTuple->abW,pairFromOwner->ab7,isOneOf->aeZ
open Ne renaming symm->ab0
open PySem.SeqAt renaming shaped->ab5,canLay_of_shaped->ac0,readOf->ac1,EqAt->afC,readsAll_map->agG,items_eqAt->ag7,eqAt_reads->ahb
open Array renaming getElem?_eq_getElem->aca,length_toList->act,toList_append->acQ,getElem?_toList->adc,toList_push->ad9,mem_toList_iff->aem,toList_extract->aes,toList_setIfInBounds->ae2,toList->afE,getElem?_eq_none->afN,mem_of_getElem?->af2,forIn_toList->agN,toList_zip->ahc,toList_inj->ahd,toList_map->ahe,size_push->ahh
open PySem.Str renaming ofString->aci,empty->aeL
open False renaming elim->acq
open PySem.Obj renaming mapSeq->acr,data_mapFields->agH
open PySem.Builtin.List renaming listLengthHint->acv,listFitsIndex->acz,listTooLong->adD,listSameRef->adJ,listExtendWith->aeI
open Option renaming map_some->acG,map_eq_some_iff->ad8,isSome_map->afe,isSome_iff_exists->afi,getD_none->ag2
open Or renaming inr->ac9,inl->afk
open PySem.Builtin.Slice renaming slicePlaces->adq,sliceAdjust->ae3
open True renaming intro->adU
open PySem.NameKind renaming free->ael,cell->ahp
open PySem.Around renaming under_plainId->aer
open ForInStep renaming yield->aev
open PySem.Calls renaming Name_function_global->aeN,spliced_cons->aeR,spliced_nil->ae9,callWith_builtin->afL
open PyProof.Rows.SortSt renaming mk'->ae0
open PySem.Shared renaming TypeIs->afs
open PySem.Heap.SameBut renaming update->agp
open PySem.Paired renaming length->agv
open List.cons renaming inj->agB
open List.Pairwise renaming nil->agT
open And renaming intro->ag4
open Sum renaming inl->ahi,inr->ahj
open Prod renaming ext->ahl
namespace L2
open PySem PySem.Spec PyProof.Rows
variable{us:List Ad}{H:Hp}{C a b:Addr}{o:HO}{h:aaW}{P:aaI}{w:World}{g':Array GenState}{i j t':Nat}{ch fp:List Addr}{N ps:List Str}{x:Str}{M:Model}{A:aa8}{E Q:Ad->GT->Prop}{v:V}{u:Ad}{X:Cx}{c e tg:Expr}{pos:Pos}{pins:List (Addr×Obj)}{σ:St}{K:aaf}{es:List Expr}{te:TE}{op:CmpOp}{body:List Stmt}{f:Ad->Ad->Sem Ad}{r:R2}{g:Int->Int->Int}{mA mg:Str->Option Ad}{pl:Sem Bool}{kw:List (Str×Ad)}{outer:List Env}{vs:List V}{scope:Scope}
abbrev Key:=Sum Int Str
def vX:Key->Ad->Bool
 | .inl k,v=>Value.isInt k v
 | .inr x,v=>Value.isStrOf x v
def keyH(w:World):Key->Int
 | .inl k=>hashInt k
 | .inr x=>hashStr w x
theorem bP:∀{k:Key}{v:Ad},vX k v=true->(∃i t,k=ahi i/\v=agh i t)\/(∃x t,k=ahj x/\v=Value.str x t)
 | .inl i,v,h=>by
  let⟨t,e⟩:=Ad.isInt_shape h;exact .inl ⟨i,t,rfl,e⟩
 | .inr x,v,h=>by
  let⟨t,e⟩:=Ad.isStrOf_shape h;exact .inr ⟨x,t,rfl,e⟩
def Bj(i:Int)(t:Tok):vX (.inl i) (.int i t)=true:=by simp[vX,Value.isInt]
def yX(x:Str)(t:Tok):vX (.inr x) (.str x t)=true:=by simp[vX,Value.isStrOf]
theorem Lj(a b:Int):decide ((ahi a:Key)=ahi b)=(a==b):=by
 by_cases e:a=b
 .subst e;simp
 .simp_all
def NW(a b:Str):decide ((ahj a:Key)=ahj b)=decide (a=b):=by simp
def P7(a:Int)(b:Str):decide ((ahi a:Key)=ahj b)=false:=rfl
def Qy(a:Str)(b:Int):decide ((ahj a:Key)=ahi b)=false:=rfl
def cq(prog:aaI)(w:World):PySem.KeyKind prog w Key where
 is:=vX
 hash:=keyH w
 inj:=λv a b n l=>by
  rcases bP n with⟨i,t,rfl,rfl⟩|⟨x,t,rfl,rfl⟩
  .rcases bP l with⟨j,u,rfl,e⟩|⟨y,u,rfl,e⟩
   .injection e with e1 _;rw[e1]
   .exact nomatch e
  .rcases bP l with⟨j,u,rfl,e⟩|⟨y,u,rfl,e⟩
   .exact nomatch e
   .injection e with e1 _;rw[e1]
 byValue:=λk v h=>by
  rcases bP h with⟨i,t,rfl,rfl⟩|⟨x,t,rfl,rfl⟩<;>rfl
 pyHash:=λd h=>by
  rcases bP d with⟨i,t,rfl,rfl⟩|⟨x,t,rfl,rfl⟩
  .exact wpAny_pyHash_int h
  .exact wpAny_pyHash_str h
 eqBool:=λm d h=>by
  rcases bP m with⟨i,t,rfl,rfl⟩|⟨x,t,rfl,rfl⟩
  .rcases bP d with⟨j,u,rfl,rfl⟩|⟨y,u,rfl,rfl⟩
   .rw[Lj]at h;exact wpAny_eqBool_int h
   .rw[P7]at h;exact afC.int_str i t y u _ _ _ _ h
  .rcases bP d with⟨j,u,rfl,rfl⟩|⟨y,u,rfl,rfl⟩
   .rw[Qy]at h;exact afC.str_int x t j u _ _ _ _ h
   .rw[NW]at h;exact wpAny_eqBool_str h
 «strs»:=λk x t v h=>by
  rcases bP h with⟨i,u,rfl,e⟩|⟨y,u,rfl,e⟩
  .exact nomatch e
  .injection e with e1 _
   subst e1
   cases v<;>rfl
def tU(prog:aaI)(w:World)(i:Int)(t:Tok):(cq prog w).is (.inl i) (.int i t)=true:=Bj i t
def uj(prog:aaI)(w:World)(x:Str)(t:Tok):(cq prog w).is (.inr x) (.str x t)=true:=yX x t
inductive V where
 |non|bl (b:Bool)|int (i:Int)|str (x:Str)|byt (b:Array UInt8)|flt (b:UInt64)|ref (a:Addr)|ty (n:String)
 deriving DecidableEq
def RelV:V->Ad->Prop
 | .non,u=>u=agC
 | .bl b,u=>u=Value.bool b
 | .int i,u=>∃t,u=agh i t
 | .str x,u=>∃t,u=Value.str x t
 | .byt b,u=>∃t,u=Ad.bytes b t
 | .flt b,u=>∃t,u=Ad.float b t
 | .ref a,u=>u=abw a
 | .ty n,u=>u=aeM n
abbrev Vals:List V->List Ad->Prop:=abO RelV
def Vals.length{xs:List V}(r:Vals xs us):xs.length=us.length:=agv r
theorem Vals.get:∀{xs:List V}{us:List Ad}{i:Nat}{x:V},Vals xs us->xs[i]?=some x->∃u,us[i]?=some u/\RelV x u
 |_,_,_,_,.nil,e=>by simp at e
 |_,_,0,_,.cons r _,e=>by simp at e;subst e;exact⟨_,rfl,r⟩
 |_,_,i+1,x,.cons _ t,e=>by
  let⟨u,d,k⟩:=Vals.get t ‹_›;exact⟨u,by simpa using d,k⟩
theorem Vals.append:∀{xs ys:List V}{us d:List Ad},Vals xs us->Vals ys d->Vals (xs++ys) (us++d)
 |_,_,_,_,.nil,s=>s
 |_,_,_,_,.cons r t,s=>.cons r (Vals.append t s)
theorem Vals.take:∀{xs:List V}{us:List Ad} (n:Nat),Vals xs us->Vals (xs.take n) (us.take n)
 |_,_,0,_=>.nil
 |_,_,_+1,.nil=>.nil
 |_,_,n+1,.cons r t=>.cons r (Vals.take n t)
theorem Vals.drop:∀{xs:List V}{us:List Ad} (n:Nat),Vals xs us->Vals (xs.drop n) (us.drop n)
 |_,_,0,r=>r
 |_,_,_+1,.nil=>.nil
 |_,_,n+1,.cons _ t=>Vals.drop n t
theorem Vals.none_of:∀{xs:List V}{us:List Ad}{i:Nat},Vals xs us->xs[i]?=none->us[i]?=none:=λ{xs us i} r e=>by
 have d:=r.length
 simp_all
def RelO:Option V->Option Ad->Prop
 |some v,some u=>RelV v u
 |none,none=>True
 |_,_=>False
def KV{d:Type}:List (d×V)->List (d×Ad)->Prop:=abO λ(p:d×V) (q:d×Ad)=>p.1=q.1/\RelV p.2 q.2
def kV:Key->V
 | .inl i=>.int i
 | .inr x=>.str x
inductive HO where
 |lst (xs:List V)
 |tup (xs:List V)
 |dK (kvs:List (Key×V))|dT (kvs:List (List Key×V))
 |set (S:Int->Bool) (n:Nat)
 |ins (C dx:Addr) (fs:List (Str×V))
 |own (x:Addr)
 |xd (fs:List (Str×V))
 |met (f x:Addr)
 |rng (lo hi:Int)
 |frz (o:Obj) (u:HO)
 |tbl (ps:Array Ad)
 |ext (φ:aaW->Prop)
abbrev Hp:=Addr->Option HO
def upd(H:Hp)(a:Addr)(o:HO):Hp:=λb=>if b=a then some o else H b
def av:upd H a o a=some o:=by unfold upd;rw[if_pos rfl]
def au(h:b≠a):upd H a o b=H b:=by unfold upd;rw[if_neg h]
theorem uw{u:HO}(h:H a=some o)(h':H b=some u)(d:o≠u):a≠b:=by
 intro e;subst e;rw[h]at h';exact d (aaB h')
theorem bq(h:H a=some o)(h':H b=none):a≠b:=by grind
def PlainT(h:aaW)(a:Addr)(items:Array Ad):Prop:=∃o,h.get? a=some o/\o.cls = .type "tuple"/\o.dict=none/\∃n,o.data = .seq items n
theorem PlainT.tup{items:Array Ad}(x:PlainT h a items):IsTup h a items:=let ⟨o,e,c,_,d⟩:=x;⟨o,e,c,d⟩
def PlainT.new(h:aaW)(items:Array Ad):PlainT (h.push {cls:=.type "tuple",data:=.seq items}) h.objs.size items:=⟨_,aao _ rfl,rfl,rfl,_,rfl⟩
section
variable (P:aaI) (w:World)
def ObjOk(H:Hp)(h:aaW)(a:Addr):HO->Prop
 | .lst l=>l.length≤aaj/\∃(d:List Ad) (n:Nat),Vals l d/\h.get? a=some {cls:=.type "list",data:=.seq d.toArray n}
 | .tup l=>l.length≤aaj/\∃d:List Ad,Vals l d/\PlainT h a d.toArray
 | .dK k=>k.length≤aaj/\(a==abC)=false/\∃vs,KV k vs/\h.DictOf (cq P w) a vs
 | .dT k=>k.length≤aaj/\(a==abC)=false/\∃l:List (List Key×Addr×Ad),
   abO (λ(p:List Key×V) (q:List Key×Addr×Ad)=>p.1=q.1/\H q.2.1=some (.tup (p.1.map kV))/\RelV p.2 q.2.2) k l/\
   ∃o es D,h.get? a=some o/\o.ExactDict/\o.data = .dict es D/\es.toList=l.map (entryOfKey (agi (cq P w)))/\(l.map (·.1)).Nodup
 | .set S n=>h.SetOf (intKind P w) a S n
 | .ins C dx fs=>H dx=some (.own a)/\fs.length≤1000/\dx≠a/\h.get? a=some (acp C dx)/\
   ∃mA,h.Ns1 dx mA/\(∀f,RelO (fs.lookup f) (mA f))/\afD mA (fs.map (·.1))
 | .own _=>∃o,h.get? a=some o
 | .xd fs=>∃mA,h.Ns1 a mA/\∀f,RelO (fs.lookup f) (mA f)
 | .rng B z=>∃t u v,h.get? a=some {cls:=.type "range",data:=.fields #[.int B t,.int z u,.int 1 v]}
 | .frz o u=>h.get? a=some o/\ObjOk H h a u
 | .tbl ps=>h.get? a=some {cls:=.none,data:=.fields ps}
 | .met f x=>h.get? a=some (PySem.W.methodObj (.ref f) (.ref x))
 | .ext m=>m h/\(∃o,h.get? a=some o)/\∀s y:aaW,m s->(∀o,s.get? a=some o->y.get? a=some o)->m y
def HOk(H:Hp)(h:aaW):Prop:=∀a o,H a=some o->ObjOk P w H h a o
end
section
variable {P:aaI}{w:World}{H g:Hp}{h h':aaW}{a:Addr}{o:HO}
theorem ObjOk.lt(x:ObjOk P w H h a o):a<h.objs.size:=by
 cases o with
 |lst d=>let⟨_,_,_,_,e⟩:=x;exact aap e
 |tup d=>let⟨_,_,_,p⟩:=x;exact p.tup.lt
 |dK k=>let⟨_,_,_,_,o,_,_,e,_⟩:=x;exact aap e
 |dT k=>let⟨_,_,_,_,o,_,_,e,_⟩:=x;exact aap e
 |set S n=>let⟨o,_,_,_,e,_⟩:=x;exact aap e
 |ins C dx fs=>let⟨_,_,_,e,_⟩:=x;exact aap e
 |own y=>let⟨_,e⟩:=x;exact aap e
 |xd fs=>let⟨_,⟨_,_,_,e,_⟩,_⟩:=x;exact aap e
 |rng s l=>let⟨_,_,_,e⟩:=x;exact aap e
 |frz m u=>let⟨e,_⟩:=x;exact aap e
 |tbl ps=>exact aap (x)
 |met f y=>exact aap (x)
 |ext q=>let⟨_,⟨_,e⟩,_⟩:=x;exact aap e
theorem Paired.mapP{k β:Type}{F G:k->β->Prop}:∀{d:List k}{l:List β},abO F d l->(∀a b,F a b->G a b)->abO G d l
 |_,_,.nil,_=>.nil
 |_,_,.cons r t,f=>.cons (f _ _ r) (Paired.mapP t f)
theorem ObjOk.stay(x:ObjOk P w H h a o)(k:∀b u,(b=a\/H b=some (.own a))->h.get? b=some u->h'.get? b=some u)
  (L:∀b,H b=some (.own a)->g b=some (.own a)) (I:∀b xs,H b=some (.tup xs)->g b=some (.tup xs)):ObjOk P w g h' a o:=by
 induction o with
 |lst xs=>let⟨z,s,n,r,e⟩:=x;exact⟨z,s,n,r,k _ _ (.inl rfl) e⟩
 |tup xs=>let⟨z,s,r,l,e,c⟩:=x;exact⟨z,s,r,l,k _ _ (.inl rfl) e,c⟩
 |dK B=>let⟨z,y,vs,r,l,es,m,e,c⟩:=x;exact⟨z,y,vs,r,l,es,m,k _ _ (.inl rfl) e,c⟩
 |dT B=>
  let⟨z,y,xs,r,l,es,m,e,c⟩:=x;exact⟨z,y,xs,Paired.mapP r λp q z=>⟨z.1,I _ _ z.2.1,z.2.2⟩,l,es,m,k _ _ (.inl rfl) e,c⟩
 |set S n=>let⟨l,es,m,t,e,c⟩:=x;exact⟨l,es,m,t,k _ _ (.inl rfl) e,c⟩
 |ins C dx fs=>
  let⟨d,z,ne,e,mA,⟨D,es,m,J,c⟩,r⟩:=x;exact⟨L _ d,z,ne,k _ _ (.inl rfl) e,mA,⟨D,es,m,k _ _ (.inr d) J,c⟩,r⟩
 |own y=>let⟨l,e⟩:=x;exact⟨l,k _ _ (.inl rfl) e⟩
 |xd fs=>let⟨mA,⟨D,es,m,e,c⟩,r⟩:=x;exact⟨mA,⟨D,es,m,k _ _ (.inl rfl) e,c⟩,r⟩
 |rng T O=>let⟨t,u,v,e⟩:=x;exact⟨t,u,v,k _ _ (.inl rfl) e⟩
 |frz l u G=>let⟨e,q⟩:=x;exact⟨k _ _ (.inl rfl) e,G q⟩
 |tbl ps=>
  have e:h.get? a=some {cls:=.none,data:=.fields ps}:=x;exact k a _ (.inl rfl) e
 |met f y=>
  have e:=x;exact k a _ (.inl rfl) e
 |ext R=>let⟨p,⟨o,e⟩,F⟩:=x;exact⟨F _ _ p λo q=>k _ _ (.inl rfl) q,⟨o,k _ _ (.inl rfl) e⟩,F⟩
def HOk.lt(x:HOk P w H h)(e:H a=some o):a<h.objs.size:=(x a o e).lt
theorem HOk.fresh(x:HOk P w H h)(e:h.objs.size≤a):H a=none:=by
 cases q:H a with
 |none=>rfl
 |some u=>exact absurd (aav (x.lt q) e) (acM _)
theorem HOk.kept(x:HOk P w H h)(k:∀b u,h.get? b=some u->h'.get? b=some u):HOk P w H h':=λa o e=>
 (x a o e).stay (λb u _ q=>k b u q) (λ_ q=>q) λ_ _ q=>q
theorem HOk.laid(x:HOk P w H h)(k:∀b u,h.get? b=some u->h'.get? b=some u)(m:h.objs.size≤a)(new:ObjOk P w (upd H a o) h' a o):HOk P w (upd H a o) h':=λb u e=>by
 have l:=x.fresh m
 by_cases d:b=a
 .subst d;rw[av]at e;grind
 .rw[au d]at e;exact(x b u e).stay (λc v _ q=>k c v q) (λc q=>by rw[au (bq q l)];exact q) λc n q=>by rw[au (bq q l)];exact q
end
def Rd(H:Hp)(a:Addr)(u:HO):Prop:=H a=some u\/∃o,H a=some (.frz o u)
theorem Rd.ok{u:HO}(r:Rd H a u)(x:HOk P w H h):ObjOk P w H h a u:=by
 rcases r with r|⟨o,r⟩
 .exact x a u r
 .obtain⟨_,q⟩:=x a _ r;exact q
def Mut:Option HO->Prop
 |some (.lst _)=>True
 |some (.dK _)=>True
 |some (.dT _)=>True
 |some (.set _ _)=>True
 |some (.ins _ _ _)=>True
 |some (.ext _)=>True
 |_=>False
section
variable {P:aaI}{w:World}{H:Hp}{h h':aaW}{x e:Addr}{o:HO}
theorem HOk.write(ok:HOk P w H h)(mu:Mut (H x))(t:e=x\/H e=some (.own x))(k:∀b u,b≠e->h.get? b=some u->h'.get? b=some u)(p:∃u,h'.get? e=some u)
  (new:ObjOk P w (upd H x o) h' x o):HOk P w (upd H x o) h':=λb u q=>by
 have n:∀c y,H c=some (.own y)->c≠x:=λc y r z=>by subst z;rw[r]at mu;exact mu
 have l:∀c m,H c=some (.tup m)->c≠x:=λc m r z=>by subst z;rw[r]at mu;exact mu
 by_cases s:b=x
 .subst s;rw[av]at q;grind
 .rw[au s]at q
  by_cases d:b=e
  .have q':H b=some (.own x):=by
    rcases t with z|z
    .exact absurd (d.trans z) s
    .rw[d];exact z
   rw[q]at q';cases q';let⟨v,B⟩:=p;exact⟨v,by rw[d];exact B⟩
  .refine(ok b u q).stay (λc v D r=>k c v ?_ r) (λc r=>by rw[au (n c b r)];exact r) λc m r=>by rw[au (l c m r)];exact r
   grind
end
structure Un(fs ex:List Addr)(H H':Hp)(h h':aaW):Prop where
 keep:∀b o,h.get? b=some o->H b=none->b∉fs->b∉ex->h'.get? b=some o
 slot:∀b o,h.get? b=some o->H b=none->b∈fs->b∉ex->∃sl,h'.get? b=some {o with slots:=sl}
 free:∀b o,h.get? b=some o->H b=none->b∉ex->H' b=none
 there:∀b o,h.get? b=some o->b∉ex->∃o',h'.get? b=some o'
 tups:∀b xs,H b=some (.tup xs)->H' b=some (.tup xs)
 frzs:∀b o u,H b=some (.frz o u)->H' b=some (.frz o u)
 tbls:∀b ps,H b=some (.tbl ps)->∃more,H' b=some (.tbl (ps++more))
section
variable {fs f ex d:List Addr}{H g i:Hp}{h c j h':aaW}{a x e:Addr}{o:HO}
def Un.any(u:Un fs ex H g h c){k:Obj}(q:h.get? b=some k)(n:H b=none)(m:b∉ex):∃sl,c.get? b=some {k with slots:=sl}:=by
 by_cases l:b∈fs
 .exact u.slot b k q n l m
 .exact⟨k.slots,u.keep b k q n l m⟩
theorem Un.kept(k:∀b u,h.get? b=some u->h'.get? b=some u):Un fs ex H H h h':=
 ⟨λb l q _ _ _=>k b l q,λb l q _ _ _=>⟨l.slots,k b l q⟩,λ_ _ _ n _=>n,λb l q _=>⟨l,k b l q⟩,λ_ _ q=>q,λ_ _ _ q=>q,λ_ ps q=>⟨#[],by rw[q];simp⟩⟩
def Un.refl:Un fs ex H H h h:=Un.kept λ_ _ q=>q
theorem Un.laid(k:∀b u,h.get? b=some u->h'.get? b=some u)(m:h.objs.size≤a)(l:H a=none):Un fs ex H (upd H a o) h h' where
 keep:=λb u q _ _ _=>k b u q
 slot:=λb u q _ _ _=>⟨u.slots,k b u q⟩
 free:=λb u q n _=>by rw[au (aa3 (aav (aap q) m))];exact n
 there:=λb u q _=>⟨u,k b u q⟩
 tups:=λb p q=>by rw[au (bq q l)];exact q
 frzs:=λb u p q=>by rw[au (bq q l)];exact q
 tbls:=λb ps q=>⟨#[],by rw[au (bq q l),q];simp⟩
theorem Un.write(mu:Mut (H x))(D:e=x\/H e=some (.own x))(k:∀b u,b≠e->h.get? b=some u->h'.get? b=some u)(t:∃u,h'.get? e=some u):Un fs ex H (upd H x o) h h':=by
 have s:∀b,H b=none->b≠x:=λb n z=>by subst z;rw[n]at mu;exact mu
 have p:∀b,H b=none->b≠e:=λb n z=>by
  simp_all
 have l:∀b u,H b=some u->¬Mut (some u)->b≠x:=λb u q B z=>by subst z;simp_all
 refine⟨λb u q n _ _=>k b u (p b n) q,λb u q n _ _=>⟨u.slots,k b u (p b n) q⟩,λb u q n _=>by rw[au (s b n)];exact n,λb u q _=>?_,
  λb y q=>by rw[au (l b _ q λz=>z)];exact q,λb u y q=>by rw[au (l b _ q λz=>z)];exact q,λb ps q=>⟨#[],by rw[au (l b _ q λz=>z),q];simp⟩⟩
 by_cases m:b=e
 .simp_all
 .exact⟨u,k b u m q⟩
end
def trk(h:aaW)(H:Hp):List Addr:=(aat h.objs.size).filter λa=>(H a).isSome
def hidT(h:aaW)(H:Hp):aaW:=PySem.W.hideAll h (trk h H)
def yf(h:aaW)(H:Hp):(hidT h H).objs.size=h.objs.size:=PySem.W.hideAll_size _ _
def Cb{o:Obj}(e:h.get? b=some o)(n:H b=none):(hidT h H).get? b=some o:=
 PySem.W.hideAll_get _ e λd=>by
  have q:=(afP.mp d).2;rw[n]at q;simp at q
theorem GU{o:Obj}(e:(hidT h H).get? b=some o):h.get? b=some o/\H b=none:=by
 have d:=PySem.W.of_hideAll _ e;refine⟨d,?_⟩
 cases q:H b with
 |none=>rfl
 |some x=>
  have k:b∈trk h H:=afP.mpr ⟨ack.mpr (aap d),by simp[q]⟩;have z:(hidT h H).get? b=none:=PySem.W.hideAll_none _ k
  grind
structure Mod(K:aaf)(mg:Str->Option Ad)(base:aaW):Prop where
 kin:K.In base
 glob:base.Ns aay mg
 blt:∃mb,base.Ns builtinsNs mb/\∀x:Str,x ≠ "__name__" -> mb x=abi x
 nolimit:base.NoLimit
 sys:∃m,base.Ns abC m
inductive Ao where
 |L (a:Addr)|T (t:List (List Nat×Addr))
structure EB where
 np:Nat
 be:List Ao
 H:Hp
structure Cx where
 prog:aaI
 w:World
 K:aaf
 mg:Str->Option Ad
 base:aaW
 A:aa8
 N:List Str
 s₀:GT
 H₀:Hp
 env:Env
 outer:List Env
 stack:List Env
 ex:List Addr
 fn:Str->Bool
 calm:Bool
 pn:List (Addr×Obj)
 xe:Ad->GT->Prop
 eb:EB:=⟨0,[],λ_=>none⟩
def frs(l:List Env):List Addr:=l.filterMap (·.frame)
abbrev Cx.fs(X:Cx):List Addr:=frs X.outer
def Vis(sc:Scope)(x:Str):Prop:=sc.names.lookup x=some .local\/sc.names.lookup x=some .cell\/sc.names.lookup x=some .free
def Loc(sc:Scope)(x:Str):Prop:=sc.names.lookup x=some .local\/sc.names.lookup x=some .cell
def Look(env:Env)(h:aaW)(m:Str->Option Ad)(x:Str)(u:Ad):Prop:=
 (env.kindOf x=some .local/\m x=some u)\/((env.kindOf x=some .cell\/env.kindOf x=some .free)/\∃c,env.cells.lookup x=some c/\h.IsCell c (some u))
structure Cx.Ok(X:Cx):Prop where
 mod:Mod X.K X.mg X.base
 kind:X.env.scope.kind = .function
 glob:X.env.globals=aay
 blt:X.env.builtins=builtinsNs
 above:X.s₀.heap.objs.size≤X.env.locals
 inj:∀x y c,X.env.cells.lookup x=some c->X.env.cells.lookup y=some c->x=y
 has:∀x,(X.env.kindOf x=some .cell\/X.env.kindOf x=some .free)->∃c,X.env.cells.lookup x=some c
 cab:∀x c,X.fn x=true->X.env.cells.lookup x=some c->X.s₀.heap.objs.size≤c
 hd:X.calm=true->X.A.handled=none
 frames:X.A.frames=some X.stack
 stk:X.stack=X.outer\/(X.stack=X.env::X.outer/\X.env.frame=some X.env.locals)
 exf:∀b∈X.ex,b≠X.env.locals/\∀x c,X.env.cells.lookup x=some c->c≠b
 bs:∀b o,X.base.get? b=some o->X.s₀.heap.get? b=some o/\X.H₀ b=none
 bsz:X.base.objs.size≤X.s₀.heap.objs.size
 noex:∀b o,X.base.get? b=some o->b∉X.ex
 exfs:∀b∈X.ex,b∉X.fs
 funs:X.s₀.heap.FunFrames X.base X.outer
 frf:∀b∈X.fs,X.H₀ b=none
structure Inv(X:Cx)(pins:List (Addr×Obj))(σ:List (Option V))(H:Hp)(s:GT):Prop where
 ok:X.Ok
 os:s.os=X.s₀.os
 bare:ae7 s.gens
 base:Un X.fs X.ex X.H₀ H X.s₀.heap s.heap
 loc:∃m,s.heap.Ns X.env.locals m/\∀(i:Nat) (x:Str) (v:V),X.N[i]?=some x->σ[i]?=some (some v)->Vis X.env.scope x->∃u,RelV v u/\Look X.env s.heap m x u
 cell:∀x c,X.env.cells.lookup x=some c->∃v,s.heap.IsCell c v
 free:H X.env.locals=none
 freeC:∀x c,X.env.cells.lookup x=some c->H c=none
 pin:∀p∈X.pn++pins,s.heap.get? p.1=some p.2/\H p.1=none/\p.1≠X.env.locals/\p.1∉X.fs/\∀v,p.2.data≠.cell v
 hok:HOk X.prog X.w H s.heap
 len:σ.length=X.N.length
section
variable {X:Cx}{f:List (Addr×Obj)}{g:List (Option V)}{H w:Hp}{s:GT}{h':aaW}
theorem Cx.Ok.nofr(ok:X.Ok){o:Obj}(e:X.base.get? b=some o):b∉X.fs:=λd=>by
 have:=(ok.funs.mem d).1
 grind
theorem Inv.bs(I:Inv X f g H s):∀b o,X.base.get? b=some o->s.heap.get? b=some o/\H b=none:=λb o e=>
 ⟨I.base.keep b o (I.ok.bs b o e).1 (I.ok.bs b o e).2 (I.ok.nofr e) (I.ok.noex b o e),I.base.free b o (I.ok.bs b o e).1 (I.ok.bs b o e).2 (I.ok.noex b o e)⟩
theorem Inv.bk(I:Inv X f g H s):∀b o,X.base.get? b=some o->s.heap.get? b=some o:=λb o e=>(I.bs b o e).1
def Inv.mod(I:Inv X f g H s):Mod X.K X.mg X.base:=I.ok.mod
def Inv.kIn(I:Inv X f g H s):X.K.In s.heap:=I.ok.mod.kin.keeps I.bk
def Inv.lt(I:Inv X f g H s):X.env.locals<s.heap.objs.size:=let ⟨_,hn,_⟩:=I.loc;hn.lt
def Inv.sz(I:Inv X f g H s):X.s₀.heap.objs.size≤s.heap.objs.size:=aaD I.ok.above (abV I.lt)
theorem Inv.nofs(I:Inv X f g H s)(h:s.heap.objs.size≤a):a∉X.fs:=λk=>by
 let⟨_,o,d,_⟩:=I.ok.funs.mem k;exact absurd (aav (aap d) (aaD I.sz h)) (acM _)
theorem Inv.cne(I:Inv X f g H s):∀x c,X.env.cells.lookup x=some c->c≠X.env.locals:=λx c e z=>by
 let⟨v,o,n,hd⟩:=I.cell x c e;let⟨m,⟨l,es,p,k,d,_⟩,_⟩:=I.loc
 grind
theorem Inv.funs(I:Inv X f g H s):s.heap.FunFrames X.base X.outer:=by
 have all:∀l,(∀b∈frs l,b∈X.fs)->X.s₀.heap.FunFrames X.base l->s.heap.FunFrames X.base l:=by
  intro l
  induction l with
  |nil=>intro _ _;trivial
  |cons env r p=>
   intro n q;let⟨hk,⟨L,o,m,t,y,hd⟩,B⟩:=q;have d:=n L (by unfold frs;rw[adt,m];exact aac);let⟨D,e⟩:=I.base.slot L o y (I.ok.frf L d) d λz=>I.ok.exfs L z d;exact⟨hk,⟨L,_,m,t,e,hd⟩,p (λb k=>n b (by unfold frs;rw[adt,m];exact aad _ k)) B⟩
 exact all X.outer (λ_ k=>k) I.ok.funs
theorem Inv.stack(I:Inv X f g H s):s.heap.FunFrames X.base X.stack:=by
 rcases I.ok.stk with e|⟨e,k⟩
 .rw[e];exact I.funs
 .rw[e];let⟨m,d,_⟩:=I.loc;refine .cons (by rw[I.ok.kind];decide) k d ?_ I.funs;exact aaW.get?_none_of_le (aaD I.ok.bsz I.ok.above)
theorem Inv.stkSub(I:Inv X f g H s):∀b∈frs X.stack,b∈X.env.locals::X.fs:=λb d=>by
 rcases I.ok.stk with e|⟨e,k⟩
 .rw[e]at d;exact aad _ d
 .rw[e]at d;unfold frs at d;rw[adt,k]at d;exact d
theorem Inv.stkFree(I:Inv X f g H s):∀b∈frs X.stack,H b=none:=λb d=>by
 rcases aak.mp (I.stkSub b d)with e|d
 .rw[e];exact I.free
 .obtain⟨_,o,ho,_⟩:=I.ok.funs.mem d;exact I.base.free b o ho (I.ok.frf b d) λz=>I.ok.exfs b z d
theorem Inv.step{d':Drawn}(I:Inv X f g H s)
  (B:∀b∈ch,(b∈X.ex\/X.s₀.heap.objs.size≤b)/\b≠X.env.locals/\(∀x c,X.env.cells.lookup x=some c->c≠b)/\∀p∈X.pn++f,p.1≠b)
  (keep:∀b o,b≠X.env.locals->b∉X.fs->b∉ch->s.heap.get? b=some o->H b=none->h'.get? b=some o)
  (slot:∀b o,b≠X.env.locals->b∈X.fs->b∉ch->s.heap.get? b=some o->H b=none->∃sl,h'.get? b=some {o with slots:=sl}) (free:∀b o,b∉ch->s.heap.get? b=some o->H b=none->w b=none)
  (there:∀b o,b∉ch->s.heap.get? b=some o->∃R,h'.get? b=some R)
  (tups:∀b xs,H b=some (.tup xs)->w b=some (.tup xs)) (frzs:∀b o u,H b=some (.frz o u)->w b=some (.frz o u)) (tbls:∀b ps,H b=some (.tbl ps)->∃more,w b=some (.tbl (ps++more)))
  (ns:∀m,s.heap.Ns X.env.locals m->h'.Ns X.env.locals m) (hok:HOk X.prog X.w w h') (W:ae7 g') :
  Inv X f g w {s with heap:=h',gens:=g',drawn:=d',toks:=t' }:=by
 have O:∀b o,X.s₀.heap.get? b=some o->b≠X.env.locals:=λb o e=>aa3 (aav (aap e) I.ok.above);have G:∀b o,X.s₀.heap.get? b=some o->b∉X.ex->b∉ch:=λb o e t J=>by
  rcases (B b J).1 with z|z
  .exact t z
  .exact absurd (aav (aap e) z) (acM _)
 have y:∀x c,X.env.cells.lookup x=some c->∀v,s.heap.IsCell c v->h'.IsCell c v:=by
  intro x c e v ⟨o,L,hd⟩;have D:c∉ch:=λz=>(B c z).2.2.1 x c e rfl
  by_cases U:c∈X.fs
  .obtain⟨sl,q⟩:=slot c o (I.cne x c e) U D L (I.freeC x c e);exact⟨_,q,hd⟩
  .exact⟨o,keep c o (I.cne x c e) U D L (I.freeC x c e),hd⟩
 refine⟨I.ok,I.os,W,⟨λb o e n J t=>?_,λb o e n J t=>?_,λb o e n t=>?_,λb o e t=>?_,λb xs e=>tups b xs (I.base.tups b xs e),λb o xs e=>frzs b o xs (I.base.frzs b o xs e),λb ps e=>?_⟩,?_,λx c e=>?_,?_,λx c e=>?_,λp V=>?_,hok,I.len⟩
 .exact keep b o (O b o e) J (G b o e t) (I.base.keep b o e n J t) (I.base.free b o e n t)
 .obtain⟨sl,F⟩:=I.base.slot b o e n J t;let⟨T,S⟩:=slot b _ (O b o e) J (G b o e t) F (I.base.free b o e n t);exact⟨T,S⟩
 .obtain⟨R,F⟩:=I.base.there b o e t;exact free b R (G b o e t) F (I.base.free b o e n t)
 .obtain⟨R,F⟩:=I.base.there b o e t;exact there b R (G b o e t) F
 .obtain⟨m1,F⟩:=I.base.tbls b ps e;let⟨m2,S⟩:=tbls b _ F;exact⟨m1++m2,by rw[S,Array.append_assoc]⟩
 .obtain⟨m,hn,hl⟩:=I.loc;refine⟨m,ns m hn,λi x v F S Y=>?_⟩;let⟨u,r,l⟩:=hl i x v F S Y;refine⟨u,r,?_⟩;rcases l with l|⟨k,c,e,z⟩
  .exact .inl l
  .exact .inr ⟨k,c,e,y x c e _ z⟩
 .obtain⟨v,z⟩:=I.cell x c e;exact⟨v,y x c e v z⟩
 .obtain⟨m,⟨o,_,_,L,_⟩,_⟩:=I.loc;exact free _ o (λz=>(B _ z).2.1 rfl) L I.free
 .obtain⟨v,o,L,hd⟩:=I.cell x c e;exact free c o (λz=>(B c z).2.2.1 x c e rfl) L (I.freeC x c e)
 .obtain⟨e,n,ne,nf,d⟩:=I.pin p V;have D:p.1∉ch:=λz=>(B p.1 z).2.2.2 p V rfl;exact⟨keep p.1 p.2 ne nf D e n,free p.1 p.2 D e n,ne,nf,d⟩
theorem Inv.un(I:Inv X f g H s)(u:Un X.fs [] H w s.heap h')(hok:HOk X.prog X.w w h'):Inv X f g w {s with heap:=h',toks:=t' }:=by
 let⟨m,⟨o,es,F,q,r⟩,_⟩:=id I.loc;let⟨G,t⟩:=u.any q I.free (by simp);exact I.step (g':=s.gens) (d':=s.drawn) (ch:=[]) (λ_ z=>nomatch z) (λb o _ p _ e n=>u.keep b o e n p (by simp)) (λb o _ p _ e n=>u.slot b o e n p (by simp)) (λb o _ e n=>u.free b o e n (by simp)) (λb o _ e=>u.there b o e (by simp)) u.tups u.frzs u.tbls (λD y=>by
  let⟨J,l,k,d,B⟩:=y;rw[q]at d;cases d;exact⟨_,l,k,t,B⟩) hok I.bare
theorem Inv.call{d':Drawn}(I:Inv X f g H s)(u:Un (frs X.stack) ch H w s.heap h')(hok:HOk X.prog X.w w h')(G:ae7 g')
  (l:∀b∈ch,(b∈X.ex\/X.s₀.heap.objs.size≤b)/\b≠X.env.locals/\(∀x c,X.env.cells.lookup x=some c->c≠b)/\∀p∈X.pn++f,p.1≠b) :
  Inv X f g w {s with heap:=h',gens:=g',drawn:=d',toks:=t' }:=by
 let⟨m,⟨o,es,S,B,r⟩,_⟩:=id I.loc;let⟨L,t⟩:=u.any B I.free λz=>(l _ z).2.1 rfl;exact I.step l (λb o t J d e n=>u.keep b o e n (λz=>(aak.mp (I.stkSub b z)).elim t J) d) (λb o _ _ d e n=>u.any e n d) (λb o d e n=>u.free b o e n d) (λb o d e=>u.there b o e d) u.tups u.frzs u.tbls (λR D=>by
  let⟨O,q,y,k,F⟩:=D;rw[B]at k;cases k;exact⟨_,q,y,t,F⟩) hok G
theorem Inv.turned{d:Addr}(I:Inv X f g H s)(k:∀b o,b≠d->s.heap.get? b=some o->h'.get? b=some o)(L:H d=none)(y:d≠X.env.locals)
  (F:d∈X.ex\/X.s₀.heap.objs.size≤d) (G:∀x c,X.env.cells.lookup x=some c->c≠d) (B:∀p∈X.pn++f,p.1≠d):Inv X f g H {s with heap:=h',toks:=t' }:=by
 have t:∀b u,H b=some u->b≠d:=λb u e z=>by rw[z,L]at e;cases e
 refine I.step (g':=s.gens) (d':=s.drawn) (ch:=[d]) (λb J=>?_) (λb o _ _ l e _=>k b o (λz=>l (by simp[z])) e) (λb o _ _ l e _=>⟨o.slots,k b o (λz=>l (by simp[z])) e⟩) (λ_ _ _ _ n=>n)
  (λb o l e=>⟨o,k b o (λz=>l (by simp[z])) e⟩) (λ_ _ e=>e) (λ_ _ _ e=>e) (λb ps e=>⟨#[],by rw[e];simp⟩) (λm D=>?_) (λb u e=>?_) I.bare
 .have e:=by simpa using J
  subst e;exact⟨F,y,G,B⟩
 .obtain⟨o,es,ep,ho,r⟩:=D;exact⟨o,es,ep,k _ o (ab0 y) ho,r⟩
 .refine(I.hok b u e).stay (λc v l q=>k c v ?_ q) (λ_ q=>q) λ_ _ q=>q;rcases l with z|z
  .rw[z];exact t b u e
  .exact t c _ z
theorem Inv.tok(I:Inv X f g H s)(t:Nat):Inv X f g H {s with toks:=t}:=I.un (h':=s.heap) (t':=t) Un.refl I.hok
theorem Inv.kept(I:Inv X f g H s)(k:∀b u,s.heap.get? b=some u->h'.get? b=some u):Inv X f g H {s with heap:=h',toks:=t' }:=I.un (Un.kept k) (I.hok.kept k)
theorem Inv.laid(I:Inv X f g H s)(k:∀b u,s.heap.get? b=some u->h'.get? b=some u)(d:s.heap.objs.size≤a)(new:ObjOk X.prog X.w (upd H a o) h' a o) :
  Inv X f g (upd H a o) {s with heap:=h',toks:=t' }:=I.un (Un.laid k d (I.hok.fresh d)) (I.hok.laid k d new)
theorem Inv.write{x e:Addr}(I:Inv X f g H s)(mu:Mut (H x))(l:e=x\/H e=some (.own x))(k:∀b u,b≠e->s.heap.get? b=some u->h'.get? b=some u)(d:∃u,h'.get? e=some u)
  (new:ObjOk X.prog X.w (upd H x o) h' x o):Inv X f g (upd H x o) {s with heap:=h',toks:=t' }:=I.un (Un.write mu l k d) (I.hok.write mu l k d new)
def Inv.pins_of{d:List (Addr×Obj)}(I:Inv X f g H s)(h:∀p∈d,s.heap.get? p.1=some p.2/\H p.1=none/\p.1≠X.env.locals/\p.1∉X.fs/\∀v,p.2.data≠.cell v):Inv X d g H s:=
 ⟨I.ok,I.os,I.bare,I.base,I.loc,I.cell,I.free,I.freeC,λp k=>(aaU.mp k).elim (λz=>I.pin p (aaZ _ z)) (h p),I.hok,I.len⟩
def vD(d:N.Nodup)(a:N[i]?=some x)(b:N[j]?=some x):i=j:=by
 let⟨m,l⟩:=AD.mp a;let⟨n,k⟩:=AD.mp b;exact(List.getElem_inj d).mp (l.trans k.symm)
theorem rJ{Q:Unit->GT->Prop}(I:Inv X f g H s)(hN:X.N.Nodup)(T:X.N[i]?=some x)(F:Loc X.env.scope x)(r:RelV v u)
  (h:∀s',Inv X f (g.set i (some v)) H s'->(∃a,ab3 a s.heap s'.heap/\(a=X.env.locals\/X.env.cells.lookup x=some a))->Q () s') (hf:X.fn x=true\/X.env.scope.names.lookup x=some .local:=by first|exact .inl rfl|exact .inr rfl|assumption):wpAny M A (storeName X.env x u) Q E s:=by
 let⟨m,hn,hl⟩:=id I.loc;have S:(X.env.scope.kind == .class||(X.env.scope.kind == .module&&X.env.locals != X.env.globals))=false:=by rw[I.ok.kind];rfl
 have L:i<g.length:=by rw[I.len];exact(AD.mp T).1
 have cne:=I.cne;have B:∀{a:Addr}{h':aaW},(∃o,s.heap.get? a=some o/\H a=none)->ab3 a s.heap h'->HOk X.prog X.w H h':=λ{a h'} ha l b ob e=>by
  let⟨_,_,G⟩:=ha;refine(I.hok b ob e).stay (λc Y D q=>(l.2 c ?_).trans q) (λ_ q=>q) λ_ _ q=>q;rintro rfl;rcases D with rfl|D
  .rw[G]at e;cases e
  .rw[G]at D;cases D
 rcases F with hk|hk
 .refine wpAny_storeName_local hk hn (λh' hn' l=>?_) S;let⟨oL,_,_,hoL,_⟩:=id hn;refine h _ ⟨I.ok,I.os,I.bare,⟨λb o e n O F=>?_,λb o e n O F=>?_,I.base.free,λb o e F=>?_,I.base.tups,I.base.frzs,I.base.tbls⟩,⟨_,hn',λj y Z t J e3=>?_⟩,λy c e=>?_,I.free,I.freeC,λp hp=>?_,B ⟨oL,hoL,I.free⟩ l,by simpa using I.len⟩ ⟨_,l,.inl rfl⟩
  .exact(l.2 b (aa3 (aav (aap e) I.ok.above))).trans (I.base.keep b o e n O F)
  .obtain⟨sl,t⟩:=I.base.slot b o e n O F;exact⟨sl,(l.2 b (aa3 (aav (aap e) I.ok.above))).trans t⟩
  .obtain⟨o',t⟩:=I.base.there b o e F;exact⟨o',(l.2 b (aa3 (aav (aap e) I.ok.above))).trans t⟩
  .by_cases hj:j=i
   .subst hj;rw[T]at t;cases t;rw[aaP L]at J;cases J;exact⟨u,r,.inl ⟨hk,by simp⟩⟩
   .rw[aaK (ab0 hj)]at J;let⟨u',r',q⟩:=hl j y Z t J e3;refine⟨u',r',?_⟩;rcases q with⟨k,e⟩|⟨k,c,e,z⟩
    .refine .inl ⟨k,?_⟩;have:y≠x:=λe=>hj (vD hN t (e▸T));simp[this,e]
    .exact .inr ⟨k,c,e,z.sameBut l (cne y c e)⟩
  .obtain⟨Y,z⟩:=I.cell y c e;exact⟨Y,z.sameBut l (cne y c e)⟩
  .obtain⟨e,n,ne,nf,d⟩:=I.pin p hp;exact⟨(l.2 p.1 ne).trans e,n,ne,nf,d⟩
 .have hfn:X.fn x=true:=by
   rcases hf with z|z
   .exact z
   .rw[z]at hk;cases hk
  let⟨c,D⟩:=I.ok.has x (.inl hk);let⟨Y,z⟩:=I.cell x c D;refine wpAny_storeName_cell I.ok.kind hk D z (λh' R l=>?_);let⟨oc,U,V⟩:=id z;refine h {s with heap:=h' } ⟨I.ok,I.os,I.bare,⟨λb o e n O F=>?_,λb o e n O F=>?_,I.base.free,λb o e F=>?_,I.base.tups,I.base.frzs,I.base.tbls⟩,⟨m,hn.sameBut l (ab0 (cne x c D)),λj y Z t J e3=>?_⟩,λy W e=>?_,I.free,I.freeC,λp hp=>?_,B ⟨oc,U,I.freeC x c D⟩ l,by simpa using I.len⟩ ⟨c,l,.inr D⟩
  .exact(l.2 b (aa3 (aav (aap e) (I.ok.cab x c hfn D)))).trans (I.base.keep b o e n O F)
  .obtain⟨sl,t⟩:=I.base.slot b o e n O F;exact⟨sl,(l.2 b (aa3 (aav (aap e) (I.ok.cab x c hfn D)))).trans t⟩
  .obtain⟨o',t⟩:=I.base.there b o e F;exact⟨o',(l.2 b (aa3 (aav (aap e) (I.ok.cab x c hfn D)))).trans t⟩
  .by_cases hj:j=i
   .subst hj;rw[T]at t;cases t;rw[aaP L]at J;cases J;exact⟨u,r,.inr ⟨.inl hk,c,D,R⟩⟩
   .rw[aaK (ab0 hj)]at J;let⟨u',r',q⟩:=hl j y Z t J e3;refine⟨u',r',?_⟩;rcases q with q|⟨k,W,e,z'⟩
    .exact .inl q
    .refine .inr ⟨k,W,e,z'.sameBut l ?_⟩;rintro rfl;exact hj (vD hN t (I.ok.inj _ _ _ e D▸T))
  .by_cases hcc:W=c
   .subst hcc;exact⟨_,R⟩
   .obtain⟨w2,z2⟩:=I.cell y W e;exact⟨w2,z2.sameBut l hcc⟩
  .obtain⟨e,n,ne,nf,d⟩:=I.pin p hp;refine⟨(l.2 p.1 ?_).trans e,n,ne,nf,d⟩;intro q;rw[q,U]at e;have q':oc=p.2:=aaB e;exact d Y (by rw[<-q'];exact V)
theorem iR{Q:Unit->GT->Prop}(I:Inv X f g H s)(d:X.N.Nodup)(m:X.N[i]?=some x)(k:Loc X.env.scope x)(r:RelV v u)
  (h:∀s',Inv X f (g.set i (some v)) H s'->Q () s') (n:X.fn x=true\/X.env.scope.names.lookup x=some .local:=by first|exact .inl rfl|exact .inr rfl|assumption):wpAny M A (storeName X.env x u) Q E s:=
 rJ I d m k r (λs' l _=>h s' l) n
theorem Inv.call'{s':GT}(I:Inv X f g H s)(k:s'.os=s.os)(u:Un (frs X.stack) ch H w s.heap s'.heap)(hok:HOk X.prog X.w w s'.heap)(l:ae7 s'.gens)
  (d:∀b∈ch,(b∈X.ex\/X.s₀.heap.objs.size≤b)/\b≠X.env.locals/\(∀x c,X.env.cells.lookup x=some c->c≠b)/\∀p∈X.pn++f,p.1≠b):Inv X f g w s':=by
 let⟨h',g',d',t',m⟩:=s';have e:=k;subst e;exact I.call (g':=g') (t':=t') (d':=d') u hok l d
end
abbrev XK:=Ad->Option Addr->Hp->Prop
abbrev St:=List (Option V)
abbrev VK:=V->Hp->Prop
abbrev TE:=St->Hp->VK->Prop
abbrev TT:=St->Hp->(Bool->Hp->Prop)->Prop
abbrev TA:=St->Hp->(List V->Hp->Prop)->Prop
structure Ends where
 nx:St->Hp->Prop
 rt:VK
 bk:St->Hp->Prop:=λ_ _=>False
 ct:St->Hp->Prop:=λ_ _=>False
abbrev TS:=Ends->St->Hp->Prop
def EP(X:Cx)(pins:List (Addr×Obj))(σ:St)(Q:VK)(u:Ad)(s':GT):Prop:=∃v d,Inv X pins σ d s'/\RelV v u/\Q v d
def TP(X:Cx)(pins:List (Addr×Obj))(σ:St)(Q:Bool->Hp->Prop)(b:Bool)(s':GT):Prop:=∃d,Inv X pins σ d s'/\Q b d
def AP(X:Cx)(pins:List (Addr×Obj))(σ:St)(Q:List V->Hp->Prop)(us:List Ad)(s':GT):Prop:=∃vs d,Inv X pins σ d s'/\Vals vs us/\Q vs d
def SP(X:Cx)(pins:List (Addr×Obj))(D:Ends)(f:Flow)(s':GT):Prop:=
 match f with
 | .next=>∃d k,Inv X pins d k s'/\D.nx d k
 | .brk=>∃d k,Inv X pins d k s'/\D.bk d k
 | .cont=>∃d k,Inv X pins d k s'/\D.ct d k
 | .ret u=>∃v d k,Inv X pins d k s'/\RelV v u/\D.rt v k
def PE(X:Cx)(e:Expr)(t:TE):Prop:=
 ∀(pins:List (Addr×Obj)) (s:GT) (σ:St) (H:Hp) (Q:VK),Inv X pins σ H s->t σ H Q->wpAny (model X.prog X.w) X.A (eval e X.env) (EP X pins σ Q) X.xe s
def PT(X:Cx)(e:Expr)(t:TT):Prop:=
 ∀(pins:List (Addr×Obj)) (s:GT) (σ:St) (H:Hp) (Q:Bool->Hp->Prop),Inv X pins σ H s->t σ H Q->wpAny (model X.prog X.w) X.A (isTrue e X.env (eval e X.env)) (TP X pins σ Q) X.xe s
def PW(X:Cx)(e:Expr)(t:TT):Prop:=
 ∀(d:Sem Ad) (pins:List (Addr×Obj)) (s:GT) (σ:St) (H:Hp) (Q:Bool->Hp->Prop),Inv X pins σ H s->t σ H Q->wpAny (model X.prog X.w) X.A (isTrue e X.env d) (TP X pins σ Q) X.xe s
def PW.pt{t:TT}(h:PW X e t):PT X e t:=h _
def PA(X:Cx)(es:List Expr)(t:TA):Prop:=
 ∀(pos:Pos) (pins:List (Addr×Obj)) (s:GT) (σ:St) (H:Hp) (Q:List V->Hp->Prop),Inv X pins σ H s->t σ H Q->wpAny (model X.prog X.w) X.A (spliced (abD pos (aag es X.env))) (AP X pins σ Q) X.xe s
def PS(X:Cx)(st:Stmt)(t:TS):Prop:=
 ∀(pins:List (Addr×Obj)) (s:GT) (σ:St) (H:Hp) (D:Ends),Inv X pins σ H s->t D σ H->wpAny (model X.prog X.w) X.A (exec st X.env) (SP X pins D) X.xe s
def PSs(X:Cx)(st:List Stmt)(t:TS):Prop:=
 ∀(pins:List (Addr×Obj)) (s:GT) (σ:St) (H:Hp) (D:Ends),Inv X pins σ H s->t D σ H->wpAny (model X.prog X.w) X.A (execs st X.env) (SP X pins D) X.xe s
theorem thn{k:Type}{t:Sem k}{Q d:k->GT->Prop}{s:GT}(h:wpAny M A t Q E s)(l:∀a s,Q a s->d a s):wpAny M A t d E s:=acb h l λ_ _ x=>x
section
variable {X:Cx}
def tVar(i:Nat):TE:=λσ H Q=>∃v,σ[i]?=some (some v)/\Q v H
def tC(v:V):TE:=λ_ H Q=>Q v H
theorem FY(y:X.N[i]?=some x)(B:Vis X.env.scope x)(hd:(x==("__debug__" : Str))=false:=by decide)(n:(x==("__classdict__" : Str))=false:=by decide):PE X (.Name x pos) (tVar i):=by
 intro pins s σ H Q I h;let⟨v,e,h⟩:=h;let⟨m,t,q⟩:=I.loc;let⟨u,r,l⟩:=q i x v y e B;have k:EP X pins σ Q u s:=⟨v,H,I,r,h⟩;rcases l with⟨hk,z⟩|⟨hk,c,p,d⟩
 .exact wpAny_Name (wpAny_loadName_local I.ok.kind hk t z k) hd
 .rcases hk with hk|hk
  .exact wpAny_Name (wpAny_loadName_cell I.ok.kind hk p d k) hd
  .exact wpAny_Name (wpAny_loadName_free I.ok.kind hk p d k n) hd
theorem L7{i j pos}:PE X (.Constant (.int i) j pos) (tC (.int i)):=λ_ _ _ H _ I h=>wpAny_Constant_int ⟨.int i,H,I.tok _,⟨_,rfl⟩,h⟩
theorem TM{b j pos}:PE X (.Constant (.bool b) j pos) (tC (.bl b)):=λ_ _ _ H _ I h=>Constant_bool ⟨.bl b,H,I,rfl,h⟩
theorem Qw{j pos}:PE X (.Constant .none j pos) (tC .non):=λ_ _ _ H _ I h=>Constant_none ⟨.non,H,I,rfl,h⟩
theorem MH{x j pos}:PE X (.Constant (.str x) j pos) (tC (.str x)):=λ_ _ _ H _ I h=>Calls.Constant_str ⟨.str x,H,I.tok _,⟨_,rfl⟩,h⟩
def Gl(X:Cx)(x:Str):Prop:=X.env.kindOf x=some .globalImplicit
theorem yR{s:GT}(I:Inv X pins σ H s)(d:Gl X x)(k:X.mg x=some u)(h:Q u s)
  (hd:(x==("__debug__" : Str))=false:=by decide):wpAny (model X.prog X.w) X.A (eval (.Name x pos) X.env) Q E s:=
 aeN I.ok.kind d (Calls.loadGlobal_global (by rw[I.ok.glob];exact I.mod.glob.keeps I.bk) k h) hd
theorem jE{s:GT}(I:Inv X pins σ H s)(n:Gl X x)(d:X.mg x=none)(m:abi x=some u)(h:Q u s)
  (p:x ≠ "__name__":=by decide) (hd:(x==("__debug__" : Str))=false:=by decide):wpAny (model X.prog X.w) X.A (eval (.Name x pos) X.env) Q E s:=by
 let⟨mb,k,l⟩:=I.mod.blt;exact aeN I.ok.kind n (Calls.loadGlobal_builtin (by rw[I.ok.glob];exact I.mod.glob.keeps I.bk) d (by rw[I.ok.blt];exact k.keeps I.bk) ((l x p).trans m) h) hd
variable {a b:Expr}{ta tb:TE}{pos:Pos}
def tB(t:TE):TT:=λσ H Q=>t σ H λx d=>∃c,x = .bl c/\Q c d
theorem QR{t:TE}(h:PE X e t)(n:∀k,isTrue e X.env k=(do let v <- k;acI e.pos;adN [v] (truthy v)):=by intro _;rfl):PT X e (tB t):=by
 intro pins s σ H Q I p;refine isTrue_plain (thn (h pins s σ H _ I p) λv s1 ⟨x,l,y,r1,m⟩=>?_) (n _);let⟨d,rfl,q⟩:=m;cases r1;exact ae8 ⟨l,y,q⟩
variable {f g:TT}{rest:List Expr}
def tAnd(t u:TT):TT:=λσ H Q=>t σ H λc d=>if c=true then u σ d Q else Q false d
def tOr(t u:TT):TT:=λσ H Q=>t σ H λc d=>if c=true then Q true d else u σ d Q
def tNot(t:TT):TT:=λσ H Q=>t σ H λc d=>Q (!c) d
theorem JP(d:PT X a f):PW X (.BoolOp .And [a] pos) f:=by
 intro k pins s σ H Q I h;refine isTrue_and (thn (d pins s σ H Q I h) λc s1 e=>?_)
 cases c with
 |true=>exact isTrue_and_nil e
 |false=>exact e
theorem QB(d:PT X a f):PW X (.BoolOp .Or [a] pos) f:=by
 intro k pins s σ H Q I h;refine isTrue_or (thn (d pins s σ H Q I h) λc s1 e=>?_)
 cases c with
 |false=>exact isTrue_or_nil e
 |true=>exact e
theorem QK(m:PT X a f)(n:PW X (.BoolOp .And (b::rest) pos) g):PW X (.BoolOp .And (a::b::rest) pos) (tAnd f g):=by
 intro l pins s σ H Q I h;refine isTrue_and (thn (m pins s σ H _ I h) λc s1 ⟨k,d,q⟩=>?_)
 cases c with
 |true=>exact n l pins s1 σ k Q d q
 |false=>exact⟨k,d,q⟩
theorem RZ(m:PT X a f)(n:PW X (.BoolOp .Or (b::rest) pos) g):PW X (.BoolOp .Or (a::b::rest) pos) (tOr f g):=by
 intro l pins s σ H Q I h;refine isTrue_or (thn (m pins s σ H _ I h) λc s1 ⟨k,d,q⟩=>?_)
 cases c with
 |true=>exact⟨k,d,q⟩
 |false=>exact n l pins s1 σ k Q d q
theorem K9(d:PT X a f):PT X (.UnaryOp .Not a pos) (tNot f):=by
 intro pins s σ H Q I h;exact isTrue_not (d pins s σ H _ I h)
def tOrV(ta tb:TE):TE:=λσ H Q=>ta σ H λx d=>∃c,x = .bl c/\if c=true then Q (.bl true) d else tb σ d Q
theorem Mh{op}{t:TE}(h:PE X a t):PE X (.BoolOp op [a] pos) t:=λpins s σ H Q I d=>BoolOp_one (h pins s σ H Q I d)
theorem Se(l:PE X a ta)(m:PE X (.BoolOp .Or (b::rest) pos) tb):PE X (.BoolOp .Or (a::b::rest) pos) (tOrV ta tb):=by
 intro pins s σ H Q I h;refine BoolOp_or (thn (l pins s σ H _ I h) λv s1 ⟨x,d,k,r1,q⟩=>?_);let⟨c,rfl,q⟩:=q;cases r1;refine ae8 ?_
 cases c with
 |false=>exact m pins s1 σ d Q k q
 |true=>exact⟨.bl true,d,k,rfl,q⟩
def tIf(t:TT)(ta tb:TE):TE:=λσ H Q=>t σ H λc d=>if c=true then ta σ d Q else tb σ d Q
theorem C7(p:PT X c f)(m:PE X a ta)(n:PE X b tb):PE X (.IfExp c a b pos) (tIf f ta tb):=by
 intro pins s σ H Q I h;refine wpAny_IfExp (thn (p pins s σ H _ I h) λd s1 ⟨l,k,q⟩=>?_)
 cases d with
 |true=>exact m pins s1 σ l Q k q
 |false=>exact n pins s1 σ l Q k q
end
def SqL(K:aaf)(H:Hp)(a:Addr)(xs:List V):Prop:=
 Rd H a (.lst xs) \/
  ∃(o:Obj) (d:Array Ad) (n:Nat),K.lookup a=some o/\o.cls = .type "list"/\o.dict=none/\o.data = .seq d n/\d.size≤aaj/\Vals xs d.toList
def SqT(K:aaf)(H:Hp)(a:Addr)(xs:List V):Prop:=
 Rd H a (.tup xs) \/
  ∃(o:Obj) (d:Array Ad) (n:Nat),K.lookup a=some o/\o.cls = .type "tuple"/\o.dict=none/\o.data = .seq d n/\d.size≤aaj/\Vals xs d.toList
def absV:Ad->Option V
 | .none=>some .non
 | .bool b=>some (.bl b)
 | .int i _=>some (.int i)
 | .str x _=>some (.str x)
 | .bytes b _=>some (.byt b)
 | .float b _=>some (.flt b)
 | .ref a=>some (.ref a)
 | .type n=>some (.ty n)
 |_=>none
theorem RelV.abs{x:V}(r:RelV x u):absV u=some x:=by
 cases x with
 |non=>cases r;rfl
 |bl _=>cases r;rfl
 |int _=>let⟨t,rfl⟩:=r;rfl
 |str _=>let⟨t,rfl⟩:=r;rfl
 |byt _=>let⟨t,rfl⟩:=r;rfl
 |flt _=>let⟨t,rfl⟩:=r;rfl
 |ref _=>cases r;rfl
 |ty _=>cases r;rfl
def RelV.inj{x y:V}(r:RelV x u)(q:RelV y u):x=y:=aaB (r.abs.symm.trans q.abs)
theorem Vals.inj:∀{xs ys:List V}{us:List Ad},Vals xs us->Vals ys us->xs=ys
 |_,_,_,.nil,.nil=>rfl
 |_,_,_,.cons r t,.cons r' t'=>by rw[r.inj r',Vals.inj t t']
section
variable {X:Cx}{b:List (Addr×Obj)}{c:St}{H:Hp}{s:GT}{a:Addr}{xs ys:List V}
def SqL.of(h:H a=some (.lst xs)):SqL K H a xs:=.inl (.inl h)
def SqT.of(h:H a=some (.tup xs)):SqT K H a xs:=.inl (.inl h)
theorem Inv.list(I:Inv X b c H s)(h:SqL X.K H a xs):∃d:List Ad,Vals xs d/\PlainL s.heap a d.toArray/\xs.length≤aaj:=by
 rcases h with h|⟨o,d,n,hk,l,hd,k,m,r⟩
 .obtain⟨z,d,n,r,e⟩:=h.ok I.hok;exact⟨d,r,⟨_,n,e,rfl,rfl,rfl⟩,z⟩
 .refine⟨d.toList,r,⟨o,n,I.kIn a o hk,l,hd,by simpa using k⟩,?_⟩;have e:=r.length
  grind
theorem Inv.tuple(I:Inv X b c H s)(h:SqT X.K H a xs):∃d:List Ad,Vals xs d/\IsTup s.heap a d.toArray/\xs.length≤aaj:=by
 rcases h with h|⟨o,d,n,hk,l,hd,k,m,r⟩
 .obtain⟨z,d,r,p⟩:=h.ok I.hok;exact⟨d,r,p.tup,z⟩
 .refine⟨d.toList,r,⟨o,I.kIn a o hk,l,n,by simpa using k⟩,?_⟩;have e:=r.length
  simp_all
theorem Inv.tupleP(I:Inv X b c H s)(h:SqT X.K H a xs):∃d:List Ad,Vals xs d/\PlainT s.heap a d.toArray/\xs.length≤aaj:=by
 rcases h with h|⟨o,d,n,hk,l,hd,k,m,r⟩
 .obtain⟨z,d,r,p⟩:=h.ok I.hok;exact⟨d,r,p,z⟩
 .refine⟨d.toList,r,⟨o,I.kIn a o hk,l,hd,n,by simpa using k⟩,?_⟩;have e:=r.length
  simp_all
theorem Inv.list_inj(I:Inv X b c H s)(h:SqL X.K H a xs)(h':SqL X.K H a ys):xs=ys:=by
 let⟨q,r,⟨o,n,e,_,_,d⟩,_⟩:=I.list h;let⟨m,p,⟨y,t,l,_,_,k⟩,_⟩:=I.list h';rw[e]at l;cases l;rw[d]at k;injection k with d1 _
 have:=by simpa using congrArg afE d1
 subst this;exact r.inj p
theorem Inv.tuple_inj(I:Inv X b c H s)(h:SqT X.K H a xs)(h':SqT X.K H a ys):xs=ys:=by
 let⟨q,r,⟨o,e,_,n,d⟩,_⟩:=I.tuple h;let⟨m,p,⟨y,l,_,t,k⟩,_⟩:=I.tuple h';rw[e]at l;cases l;rw[d]at k;injection k with d1 _
 have:=by simpa using congrArg afE d1
 subst this;exact r.inj p
end
abbrev Cx.wish(X:Cx)(E:Ad->GT->Prop):Cx:={X with xe:=E}
abbrev Cx.nox(X:Cx):Cx:=X.wish λ_ _=>False
def Cx.Ok.wish(ok:X.Ok)(E:Ad->GT->Prop):(X.wish E).Ok:=
 ⟨ok.mod,ok.kind,ok.glob,ok.blt,ok.above,ok.inj,ok.has,ok.cab,ok.hd,ok.frames,ok.stk,ok.exf,ok.bs,ok.bsz,ok.noex,ok.exfs,ok.funs,ok.frf⟩
def Cx.Ok.unwish(ok:(X.wish E).Ok):X.Ok:=
 ⟨ok.mod,ok.kind,ok.glob,ok.blt,ok.above,ok.inj,ok.has,ok.cab,ok.hd,ok.frames,ok.stk,ok.exf,ok.bs,ok.bsz,ok.noex,ok.exfs,ok.funs,ok.frf⟩
section
variable {X:Cx}{p:List (Addr×Obj)}{a:St}{H:Hp}{s:GT}{E:Ad->GT->Prop}
def Inv.wish(I:Inv X p a H s)(E:Ad->GT->Prop):Inv (X.wish E) p a H s:=⟨I.ok.wish E,I.os,I.bare,I.base,I.loc,I.cell,I.free,I.freeC,I.pin,I.hok,I.len⟩
def Inv.unwish(I:Inv (X.wish E) p a H s):Inv X p a H s:=⟨I.ok.unwish,I.os,I.bare,I.base,I.loc,I.cell,I.free,I.freeC,I.pin,I.hok,I.len⟩
theorem SP.unwish{D:Ends}{f:Flow}{s':GT}(h:SP (X.wish E) p D f s'):SP X p D f s':=by
 cases f with
 |next=>let⟨d,k,I,q⟩:=h;exact⟨d,k,I.unwish,q⟩
 |brk=>let⟨d,k,I,q⟩:=h;exact⟨d,k,I.unwish,q⟩
 |cont=>let⟨d,k,I,q⟩:=h;exact⟨d,k,I.unwish,q⟩
 |ret u=>let⟨v,d,k,I,r,q⟩:=h;exact⟨v,d,k,I.unwish,r,q⟩
theorem PSs.nox{st:List Stmt}{t:TS}(h:PSs X.nox st t):PSs X st t:=λp s a H D I d=>
 acb (h p s a H D (I.wish _) d) (λ_ _ q=>q.unwish) λ_ _ z=>acq z
end
section
variable {X:Cx}{st:Stmt}{rest:List Stmt}{t u:TS}{e:Expr}{g:TE}{pos:Pos}
def T7:TS:=λD σ H=>D.nx σ H
def tSeq(t u:TS):TS:=λD σ H=>t {D with nx:=u D} σ H
theorem JQ:PSs X [] T7:=λ_ _ σ H _ I h=>aet ⟨σ,H,I,h⟩
theorem vz(k:PS X st t)(m:PSs X rest u):PSs X (st::rest) (tSeq t u):=by
 intro pins s σ H D I h;refine wpAny_execs_cons (thn (k pins s σ H {D with nx:=u D} I h) λf s1 q=>?_)
 cases f with
 |next=>
  let⟨d,l,n,q⟩:=q;exact m pins s1 d l D n q
 |ret v=>exact q
 |brk=>exact q
 |cont=>exact q
theorem Ja(d:PS X st t):PSs X [st] t:=by
 intro pins s σ H D I h;refine wpAny_execs_cons (thn (d pins s σ H D I h) λf s1 q=>?_)
 cases f with
 |next=>exact aet q
 |ret v=>exact q
 |brk=>exact q
 |cont=>exact q
def Inv.quiet{s:GT}(I:Inv X pins σ H s):interactive X.env=false:=by simp[interactive,I.ok.kind]
def Uu(g:TE):TS:=λD σ H=>g σ H λ_ d=>D.nx σ d
theorem KH(m:PE X e g)(k:abB e none pos.line X.env=pure false:=by rfl):PS X (.Expr e pos) (Uu g):=by
 intro pins s σ H D I h;exact wpAny_Expr_any (thn (m pins s σ H _ I h)<|by intro v s1 ⟨x,l,d,r1,q⟩;exact⟨σ,l,d,q⟩) I.quiet k
def tRet(g:TE):TS:=λD σ H=>g σ H D.rt
theorem QV(l:PE X e g):PS X (.Return (some e) pos) (tRet g):=by
 intro pins s σ H D I h;exact wpAny_Return_some (thn (l pins s σ H _ I h)<|by intro v s1 ⟨x,k,d,r1,q⟩;exact⟨x,σ,k,d,r1,q⟩)
def tIfS(c:TT)(t u:TS):TS:=λD σ H=>c σ H λb d=>if b=true then t D σ d else u D σ d
theorem RF{a b:List Stmt}{m:TT}(n:PT X c m)(p:PSs X a t)(y:PSs X b u):PS X (.If c a b pos) (tIfS m t u):=by
 intro pins s σ H D I h;refine wpAny_If (thn (n pins s σ H _ I h) λd s1 ⟨k,l,q⟩=>?_)
 cases d with
 |true=>exact p pins s1 σ k D l q
 |false=>exact y pins s1 σ k D l q
def Qu:TS:=λ_ _ _=>False
theorem Cq:PS X st Qu:=λ_ _ _ _ _ _ h=>h.elim
end
abbrev TG:=V->St->Hp->(St->Hp->Prop)->Prop
abbrev TGs:=List V->St->Hp->(St->Hp->Prop)->Prop
def PG(X:Cx)(d:Expr)(t:TG):Prop:=
 ∀(pins:List (Addr×Obj)) (s:GT) (σ:St) (H:Hp) (v:V) (u:Ad) (Q:St->Hp->Prop),Inv X pins σ H s->RelV v u->t v σ H Q ->
  wpAny (model X.prog X.w) X.A (afh d X.env u) (λ_ m=>∃k l,Inv X pins k l m/\Q k l) X.xe s
def PGs(X:Cx)(ts:List Expr)(t:TGs):Prop:=
 ∀(pins:List (Addr×Obj)) (s:GT) (σ:St) (H:Hp) (vs:List V) (us:List Ad) (Q:St->Hp->Prop),Inv X pins σ H s->Vals vs us->t vs σ H Q ->
  wpAny (model X.prog X.w) X.A (assignInOrder ((abX ts X.env).map (·.2)) us) (λ_ l=>∃d k,Inv X pins d k l/\Q d k) X.xe s
abbrev TIp:=V->V->Hp->VK->Prop
def PIp(X:Cx)(op:aeO)(t:TIp):Prop:=
 ∀(pins:List (Addr×Obj)) (s:GT) (σ:St) (H:Hp) (x y:V) (v u:Ad) (Q:VK),Inv X pins σ H s->RelV x v->RelV y u->t x y H Q ->
  wpAny (model X.prog X.w) X.A (inplaceOp op v u) (EP X pins σ Q) X.xe s
section
variable {X:Cx}{pos:Pos}
def BM(i:Nat):TG:=λv σ H Q=>Q (σ.set i (some v)) H
theorem Ic(d:X.N.Nodup)(m:X.N[i]?=some x)(k:Loc X.env.scope x)(n:X.fn x=true\/X.env.scope.names.lookup x=some .local:=by first|exact .inl rfl|exact .inr rfl|assumption):PG X (.Name x pos) (BM i):=by
 intro pins s σ H v u Q I r h;exact wpAny_assign_Name (iR I d m k r (λp l=>⟨_,H,l,h⟩) n)
def gNil:TGs:=λvs σ H Q=>vs=[]/\Q σ H
def Sd(t:TG)(u:TGs):TGs:=λvs σ H Q=>∃v r,vs=v::r/\t v σ H λd k=>u r d k Q
theorem Jx:PGs X [] gNil:=by
 intro pins s σ H vs us Q I r h;let⟨e,h⟩:=h;exact assignInOrder_nil ⟨σ,H,I,h⟩
theorem BO{t:TG}{u:TGs}(n:PG X e t)(p:PGs X es u)
  (y:(abX (e::es) X.env).map (·.2)=afh e X.env::(abX es X.env).map (·.2):=by rfl):PGs X (e::es) (Sd t u):=by
 intro pins s σ H vs us Q I r h;let⟨v,z,k,h⟩:=h;subst k
 cases r with
 |cons r rr=>
  rw[y];refine aeP (thn (n pins s σ H _ _ _ I r h) λ_ s1 ⟨d,l,m,q⟩=>?_);exact p pins s1 d l _ _ Q m rr q
def gTup(K:aaf)(n:Nat)(t:TGs):TG:=λv σ H Q=>∃a d,v = .ref a/\SqT K H a d/\d.length=n/\t d σ H Q
theorem MX{k:Nat}{t:TGs}{n:Nat}(q:X.calm=true)(h:PGs X es t)
  (G:(abX es X.env).length=n:=by rfl) (l:(abX es X.env).findIdx? (·.1)=none:=by rfl):PG X (.Tuple es k pos) (gTup X.K n t):=by
 intro pins s σ H v u Q I r d;let⟨a,J,p,m,F,d⟩:=d;subst p;cases r;let⟨L,D,y,R⟩:=I.tuple m;refine assign_Tuple_tuple (I.ok.hd q) y (by simp[G,<-F,D.length]) l λO B=>?_;have z:=I.kept (t':=s.toks) λb o e=>B b o (aa3 (aap e)) e;exact h pins _ σ H J _ Q z ‹_› d
def tAsg(te:TE)(g:TG):TS:=λD σ H=>te σ H λx d=>g x σ d D.nx
theorem QO{g:TG}(m:PE X e te)(y:PG X tg g)(t:ady [tg] e pos.line X.env=pure false:=by rfl)(d:adz [tg] e X.env=pure none:=by rfl)
  (p:(abX [tg] X.env).map (·.2)=[afh tg X.env]:=by rfl):PS X (.Assign [tg] e pos) (tAsg te g):=by
 intro pins s σ H D I h;refine wpAny_Assign_stores (thn (m pins s σ H _ I h) λv s1 ⟨x,k,n,r1,l⟩=>?_) t d;rw[p];exact thn (y pins s1 σ k x v _ n r1 l) λ_ s2 q=>q
theorem MD{p:Pos}(d:X.N.Nodup)(m:X.N[i]?=some x)(B:Loc X.env.scope x)(n:PE X e te)(F:abB e (some (.Name x p)) pos.line X.env=pure false:=by rfl)(z:X.fn x=true\/X.env.scope.names.lookup x=some .local:=by first|exact .inl rfl|exact .inr rfl|assumption) :
  PS X (.Assign [.Name x p] e pos) (tAsg te (BM i)):=by
 intro pins s σ H D I h;refine wpAny_Assign_Name (thn (n pins s σ H _ I h) λv s1 ⟨y,k,t,r1,q⟩=>?_) F;exact iR t d m B r1 (λs2 l=>⟨_,k,l,q⟩) z
def tPar(i j:Nat)(ta:TA):TS:=λD σ H=>ta σ H λvs d=>∃v w,vs=[v,w]/\D.nx ((σ.set i (some v)).set j (some w)) d
theorem LM{y:Str}{a b:Expr}{ta:TA}{z l pt:Pos}{kt k2 pt2}(hc:X.calm=true)(O:X.N.Nodup)(U:X.N[i]?=some x)(Y:X.N[j]?=some y)(t:i≠j)
  (L:X.env.scope.names.lookup x=some .local) (J:X.env.scope.names.lookup y=some .local) (V:PA X [a,b] ta)
  (W:adz [.Tuple [.Name x z,.Name y l] kt pt] (.Tuple [a,b] k2 pt2) X.env=pure (some [x,y]))
  (hs:ady [.Tuple [.Name x z,.Name y l] kt pt] (.Tuple [a,b] k2 pt2) pos.line X.env=pure false:=by rfl) :
  PS X (.Assign [.Tuple [.Name x z,.Name y l] kt pt] (.Tuple [a,b] k2 pt2) pos) (tPar i j ta):=by
 intro pins s σ H D I h;rw[exec_Assign_arm];refine gT (ac6 ?_);rw[hs];refine gT (LD ?_);rw[if_neg (by decide)];refine gT (Tuple_ (thn (V _ pins s σ H _ I h) λus s1 ⟨vs,F,I1,r1,m⟩=>?_));let⟨v,w,S,m⟩:=m;subst S;let⟨d,k,rfl,rv,n⟩:∃d k,us=[d,k]/\RelV v d/\RelV w k:=by
  cases r1 with
  | cons p q=>
   cases q with
   |cons p' q'=>
    cases q';exact⟨_,_,rfl,p,p'⟩
 refine abg ?_ (by show 2≤aaj;decide);have T:Inv X pins σ F {s1 with heap:=s1.heap.push {cls:=.type "tuple",data:=.seq [d,k].toArray} }:=I1.kept (t':=s1.toks) λb o e=>Ld _ e;rw[W];refine gT (LD ?_);refine gT (abL (gT (unpackItems_tuple (items:=#[d,k]) (I.ok.hd hc) (IsTup.new s1.heap _) λh' B=>?_)));have Z:=T.kept (h':=h') (t':=s1.toks) λb o e=>B b o (aa3 (aap e)) e;show wpAny _ _ (assignInOrder [λv=>bindName X.env y v,λv=>bindName X.env x v] [k,d] >>= λ_=>pure Flow.next) _ _ _;refine gT (aeP (wpAny_bindName (iR Z O Y (.inl J) n (λs2 R=>?_) (.inr J))));refine aeP (wpAny_bindName (iR R O U (.inl L) rv (λs3 G=>assignInOrder_nil (LD ?_)) (.inr L)));rw[List.set_comm _ _ (ab0 t)]at G;exact⟨_,F,G,m⟩
def tAug(i:Nat)(te:TE)(ti:TIp):TS:=λD σ H=>∃x,σ[i]?=some (some x)/\te σ H λy k=>ti x y k λz d=>D.nx (σ.set i (some z)) d
theorem Mx{op:aeO}{ti:TIp}{p:Pos}(W:X.N.Nodup)(F:X.N[i]?=some x)(t:Loc X.env.scope x)(S:PE X e te)(ho:PIp X op ti)(hf:X.fn x=true\/X.env.scope.names.lookup x=some .local:=by first|exact .inl rfl|exact .inr rfl|assumption) :
  PS X (.AugAssign (.Name x p) op e pos) (tAug i te ti):=by
 intro pins s σ H D I h;let⟨v,G,h⟩:=h;let⟨m,U,T⟩:=I.loc;have B:Vis X.env.scope x:=by rcases t with k|k;exact .inl k;exact .inr (.inl k)
 let⟨u,r,l⟩:=T i x v F G B;refine wpAny_AugAssign_Name ?_;have go:wpAny (model X.prog X.w) X.A (eval e X.env) (λw q=>wpAny (model X.prog X.w) X.A (inplaceOp op u w) (λr n=>wpAny (model X.prog X.w) X.A (storeName X.env x r) (λ_=>SP X pins D .next) X.xe n) X.xe q) X.xe s:=by
  refine thn (S pins s σ H _ I h) λw s1 ⟨y,L,I1,r1,R⟩=>?_;refine thn (ho pins s1 σ L v y u w _ I1 r r1 R) λz s2 ⟨zv,J,O,r2,V⟩=>?_;exact iR O W F t r2 (λs3 Z=>⟨_,J,Z,V⟩) hf
 rcases l with⟨hk,Y⟩|⟨hk,c,hc,d⟩
 .exact wpAny_loadName_local I.ok.kind hk U Y go
 .rcases hk with hk|hk
  .exact wpAny_loadName_cell I.ok.kind hk hc d go
  .rcases t with k|k
   .have:X.env.scope.names.lookup x=some .free:=hk;rw[k]at this;cases this
   .have:X.env.scope.names.lookup x=some .free:=hk;rw[k]at this;cases this
end
section
variable {X:Cx}{pos:Pos}
def Qo(c:TT)(tb:TS):TS:=λD σ H=>∃W:Nat->St->Hp->Prop,(∃m,W m σ H)/\∀m σ H,W m σ H ->
 c σ H λb n=>if b=true then ∃N:St->Hp->Prop,(∀d k,N d k->∃l,l<m/\W l d k)/\tb {D with nx:=N,ct:=N,bk:=D.nx} σ n else D.nx σ n
theorem Cn{S:TT}{tb:TS}(U:aft (model X.prog X.w) X.A X.env X.xe)(V:PT X c S)(hb:PSs X body tb):PS X (.While c body [] pos) (Qo S tb):=by
 intro pins s σ H D I h;let⟨W,⟨m0,Z⟩,t⟩:=h;refine wpAny_While (codeAny_whileLoop (λn s'=>∃l T,Inv X pins l T s'/\W n l T) ?_ m0 ⟨σ,H,I,Z⟩);intro n s1 ⟨k,L,I1,Y⟩;refine acF U (thn (V pins s1 k L _ I1 (t n k L Y)) λb s2 ⟨J,O,p⟩=>?_)
 cases b with
 | true=>
  let⟨N,R,p⟩:=p;rw[if_pos rfl];refine acF U (thn (hb pins s2 k J _ O p) λf s3 q=>?_)
  cases f with
  |next=>
   let⟨d,m,z,G⟩:=q;let⟨y,F,B⟩:=R d m G;exact⟨y,F,d,m,z,B⟩
  |cont=>
   let⟨d,m,z,G⟩:=q;let⟨y,F,B⟩:=R d m G;exact⟨y,F,d,m,z,B⟩
  |brk=>exact q
  |ret v=>exact q
 |false=>
  exact aet ⟨k,J,O,p⟩
end
structure It where
 go:Nat->Hp->Prop
 yld:Nat->Hp->V->Hp->Prop
 stop:Nat->Hp->Prop
def FpOk(X:Cx)(pins:List (Addr×Obj))(H:Hp)(b:Addr):Prop:=
 H b=none/\b≠X.env.locals/\b∉X.fs/\(b∈X.ex\/X.s₀.heap.objs.size≤b)/\(∀x c,X.env.cells.lookup x=some c->c≠b)/\∀p∈X.pn++pins,p.1≠b
theorem Inv.fpOk{k:Hp}{s:GT}(I:Inv X pins σ H s)(d:s.heap.objs.size≤b)(m:k b=none):FpOk X pins k b:=by
 refine⟨m,abx (aav I.lt d),I.nofs d,.inr (aaD I.sz d),λx c e z=>?_,λp l z=>?_⟩
 .obtain⟨v,q⟩:=I.cell x c e;exact absurd (aav q.lt (by simp_all)) (acM _)
 .exact absurd (aav (aap (I.pin p l).1) (by simp_all)) (acM _)
structure Turn(P:aaI)(w:World)(K:aaf)(tg:Expr)(J:It)(fp:List Addr)(it:Addr)(tn:Nat->aaW->Prop):Prop where
 mem:it∈fp
 obj:∀i h,tn i h->∀b∈fp,∃o,h.get? b=some o/\∀v,o.data≠.cell v
 keep:∀i h h',tn i h->(∀b∈fp,∀o,h.get? b=some o->h'.get? b=some o)->tn i h'
 item:∀(X:Cx),X.prog=P->X.w=w->X.K=K->X.calm=true->∀(i:Nat) (pins:List (Addr×Obj)) (s:GT) (σ:St) (H:Hp) (E:Ad->GT->Prop),Inv X pins σ H s->(∀b∈fp,FpOk X pins H b)->tn i s.heap->J.go i H ->
  wpAny (model P w) X.A (acR (.ref it)) (λr s1=>∃u,r=some u/\
   wpAny (model P w) X.A (adO tg (.ref it) u) (λ_ s2=>∃x H',Inv X pins σ H' s2/\RelV x u/\J.yld i H x H'/\tn (i+1) s2.heap/\∀b∈fp,H' b=none) E s1) E s
 done:∀(X:Cx),X.prog=P->X.w=w->X.K=K->X.calm=true->∀(i:Nat) (pins:List (Addr×Obj)) (s:GT) (σ:St) (H:Hp) (E:Ad->GT->Prop),Inv X pins σ H s->(∀b∈fp,FpOk X pins H b)->tn i s.heap->J.stop i H ->
  wpAny (model P w) X.A (acR (.ref it)) (λr s1=>r=none/\Inv X pins σ H s1) E s
 self:∀(A:aa8) (i:Nat) (s:GT) (Q:Ad->GT->Prop) (E:Ad->GT->Prop),tn i s.heap->Q (.ref it) s->wpAny (model P w) A (afF (.ref it)) Q E s
abbrev TI:=St->Hp->(It->Hp->Prop)->Prop
def PIE(X:Cx)(pins:List (Addr×Obj))(σ:St)(tg:Expr)(R:It->Hp->Prop)(k:Ad)(s2:GT):Prop:=
 ∃(l:Addr) (fp:List Addr) (tn:Nat->aaW->Prop) (J:It) (d:Hp),k = .ref l/\Inv X pins σ d s2/\Turn X.prog X.w X.K tg J fp l tn/\tn 0 s2.heap/\(∀b∈fp,FpOk X pins d b)/\R J d
def PI(X:Cx)(tg d:Expr)(k:TI):Prop:=
 ∀(pins:List (Addr×Obj)) (s:GT) (σ:St) (H:Hp) (R:It->Hp->Prop),Inv X pins σ H s->k σ H R ->
  wpAny (model X.prog X.w) X.A (eval d X.env) (λv s1=>wpAny (model X.prog X.w) X.A (afF v) (PIE X pins σ tg R) X.xe s1) X.xe s
theorem Jj{s:GT}{k:Addr}{o:Obj}{n:String}{vs:Array Ad}{Q:Unit->GT->Prop}(m:s.heap.get? k=some o)(l:o.cls = .type n)(hd:o.data = .fields vs)
  (p:["enumerate","zip","dict_itemiterator","dict_reverseitemiterator","odict_iterator","itertools.zip_longest","itertools.pairwise"].contains n=false) (d:Q () s):wpAny M A (adO tg (.ref k) u) Q E s:=by
 cases tg<;>first
  |exact LD d
  | (cases u<;>first
    |exact LD d
    | (refine gT (wpAny_load m ?_)
       rw[l,hd];show wpAny M A (if _=true then _ else _) Q E s;rw[if_neg (by grind)];exact LD d))
def Itl(K:aaf)(a:Addr):It:=
 ⟨λi H=>∃d x,SqL K H a d/\d[i]?=some x,λi H x k=>k=H/\∀d,SqL K H a d->d[i]?=some x,λi H=>∃d,SqL K H a d/\d.length≤i⟩
def Itt(K:aaf)(a:Addr):It:=
 ⟨λi H=>∃d x,SqT K H a d/\d[i]?=some x,λi H x k=>k=H/\∀d,SqT K H a d->d[i]?=some x,λi H=>∃d,SqT K H a d/\d.length≤i⟩
def Itr(l:Int)(n:Nat):It:=⟨λi _=>i<n,λi H x d=>d=H/\x = .int (l+i),λi _=>n≤i⟩
theorem zl(a m:Addr):Turn P w K tg (Itl K a) [m] m (λi h=>h.IsListIter m a i) where
 mem:=by simp
 obj:=λi h l b n=>by
  have e:b=m:=by simpa using n
  subst e;let⟨o,e,c,d⟩:=l;exact⟨o,e,λv z=>by rw[d]at z;cases z⟩
 keep:=λi h y l k=>l.at λo e=>k m (by simp) o e
 item:=by
  intro X R O W Y i pins s σ H E I B l T;subst R O W;let⟨xs,x,t,F⟩:=T;let⟨U,S,p,hz⟩:=I.list t;let⟨u,Z,ru⟩:=S.get F;let⟨G,J,f2,D,V,L⟩:=B m (by simp);refine wpAny_pyNext_list_item l p.isList (x:=u) (by simpa using Z) λy q sb=>?_;have I1:Inv X pins σ H {s with heap:=y }:=I.turned (t':=s.toks) (λb o n e=>(sb.2 b n).trans e) G J D V L;let⟨o,e,c,d⟩:=id q;exact⟨u,rfl,Jj (s:={s with heap:=y }) e c d (by decide) ⟨x,H,I1,ru,⟨rfl,λys hy=>by rw[I.list_inj hy t];exact F⟩,q,λb n=>(B b n).1⟩⟩
 done:=by
  intro X R O W Y i pins s σ H E I B l T;subst R O W;let⟨xs,t,F⟩:=T;let⟨U,S,p,hz⟩:=I.list t;let⟨G,J,f2,D,V,L⟩:=B m (by simp);have hl:=S.length;exact wpAny_pyNext_list_end (I.ok.hd Y) l p.isList (by simp;omega) λy eb=>⟨rfl,I.turned (t':=s.toks) (λb o n e=>eb b o n e) G J D V L⟩
 self:=λ_ _ _ _ _ l h=>wpAny_pyIter_listiter l h
theorem wX(a m:Addr):Turn P w K tg (Itt K a) [m] m (λi h=>h.IsTupleIter m a i) where
 mem:=by simp
 obj:=λi h l b n=>by
  have e:b=m:=by simpa using n
  subst e;let⟨o,e,c,d⟩:=l;exact⟨o,e,λv z=>by rw[d]at z;cases z⟩
 keep:=λi h B l k=>l.at λo e=>k m (by simp) o e
 item:=by
  intro X S R W Y i pins s σ H E I D l U;subst S R W;let⟨xs,x,y,G⟩:=U;let⟨q,T,p,hz⟩:=I.tuple y;let⟨u,Z,ru⟩:=T.get G;let⟨J,L,f2,F,V,O⟩:=D m (by simp);refine wpAny_pyNext_tuple_item l (show s.heap.IsTuple a q.toArray from p) (x:=u) (by simpa using Z) λB t sb=>?_;have I1:Inv X pins σ H {s with heap:=B }:=I.turned (t':=s.toks) (λb o n e=>(sb.2 b n).trans e) J L F V O;let⟨o,e,c,d⟩:=id t;exact⟨u,rfl,Jj (s:={s with heap:=B }) e c d (by decide) ⟨x,H,I1,ru,⟨rfl,λys hy=>by rw[I.tuple_inj hy y];exact G⟩,t,λb n=>(D b n).1⟩⟩
 done:=by
  intro X S R W Y i pins s σ H E I D l U;subst S R W;let⟨xs,y,G⟩:=U;let⟨q,T,p,hz⟩:=I.tuple y;let⟨J,L,f2,F,V,O⟩:=D m (by simp);have hl:=T.length;exact wpAny_pyNext_tuple_end (I.ok.hd Y) l (show s.heap.IsTuple a q.toArray from p) (by simp;omega) λB eb=>⟨rfl,I.turned (t':=s.toks) (λb o n e=>eb b o n e) J L F V O⟩
 self:=λ_ _ _ _ _ l h=>wpAny_pyIter_tupleiter l h
theorem vK(l:Addr)(y:Int)(n:Nat):Turn P w K tg (Itr y n) [l] l (λi h=>IsRangeIter h l (y+(i:Nat)*1) ((n:Int)-(i:Nat)) 1) where
 mem:=by simp
 obj:=λi h d b m=>by
  simp_all
 keep:=λi h q d k=>k l (by simp) _ d
 item:=by
  intro X O J T L i pins s σ H E I z d R;subst O J T;let⟨D,F,V,B,S,G⟩:=z l (by simp);have W:=Walks.range (prog:=X.prog) (w:=X.w) (I.ok.hd L) l y 1 n;refine W.item i s _ _ R d λv q U hv p Y=>?_;let⟨t,rfl⟩:=hv;have Z:Inv X pins σ H {s with heap:=q,toks:=U}:=I.turned (λb o m e=>Y b o (by simpa using m) e) D F B S G;refine⟨_,rfl,Jj (s:={s with heap:=q,toks:=U}) (n:= "range_iterator") p rfl rfl (by decide) ⟨.int (y+i),H,Z,⟨t,?_⟩,⟨rfl,rfl⟩,p,λb m=>(z b m).1⟩⟩;rw[Int.mul_one]
 done:=by
  intro X O J T L i pins s σ H E I z d R;subst O J T;let⟨D,F,V,B,S,G⟩:=z l (by simp);exact wpAny_pyNext_range_end (I.ok.hd L) d (by have:n≤i:=R;omega) λq eb=>⟨rfl,I.turned (t':=s.toks) (λb o m e=>eb b o m e) D F B S G⟩
 self:=λ_ _ _ _ _ d h=>wpAny_pyIter_rangeiter d h
section
variable {X:Cx}{tg:Expr}
theorem Dn{s:GT}{R:It->Hp->Prop}{l d:Int}{t u v:Tok}{m:Nat}(I:Inv X pins σ H s)(B : -(2^62)≤l)(p:l<2^62)(y : -(2^62)≤d)(n:d<2^62)
  (q:R (Itr l (d-l).toNat) H):wpAny (model X.prog X.w) X.A (afF (.ref s.heap.objs.size)) (PIE X pins σ tg R) E {s with heap:=s.heap.push {cls:=.type "range",data:=.fields #[.int l t,.int d u,.int 1 v]},toks:=m}:=by
 refine wpAny_pyIter_range (IsRange.new ..) (small_one B p y n) ?_;have k:Inv X pins σ H {s with heap:=s.heap.push {cls:=.type "range",data:=.fields #[.int l t,.int d u,.int 1 v]},toks:=m}:=I.kept λb o e=>Ld _ e;refine⟨(s.heap.push {cls:=.type "range",data:=.fields #[.int l t,.int d u,.int 1 v]}).objs.size,[(s.heap.push {cls:=.type "range",data:=.fields #[.int l t,.int d u,.int 1 v]}).objs.size],_,_,H,rfl,
  k.kept (t':=m) λb o e=>Ld _ e,vK _ l (d-l).toNat,?_,λb D=>?_,q⟩
 .have e1:l+((0:Nat):Int)*1=l:=by simp
  have z:(((d-l).toNat):Int)-((0:Nat):Int)=adm.Range.rangeSize l d 1:=by rw[rangeSize_one];split<;>omega
  rw[e1,z];exact aao _ rfl
 .have e:b=(s.heap.push {cls:=.type "range",data:=.fields #[.int l t,.int d u,.int 1 v]}).objs.size:=by simpa using D
  subst e;exact k.fpOk (aab _) (k.hok.fresh (aab _))
def SU(ta:TA):TI:=λσ H R=>ta σ H λvs d=>∃j:Int,vs=[.int j]/\-(2^62)≤j/\j<2^62/\R (Itr 0 j.toNat) d
theorem yA{a:Expr}{ta:TA}{p:Pos}(y:Gl X "range")(l:X.mg "range" = none)(z:PA X [a] ta)(n:aag [a] X.env=[(false,eval a X.env)]:=by rfl):PI X tg (.Call (.Name "range" p) [a] [] pos) (SU ta):=by
 intro pins s σ H R I h;refine Call_ (jE I y l boot_range (ab1 (thn (z pos pins s σ H _ I h) λus s1 ⟨vs,B,m,r1,d⟩=>?_) n rfl));let⟨j,e,d,k,q⟩:=d;subst e
 cases r1 with
 |cons r rr=>
  cases rr;let⟨t,rfl⟩:=r;exact call_range_1 (Dn m (by decide) (by decide) d k (by simpa))
def tFor(q:TI)(g:TG)(tb:TS):TS:=λD σ H=>q σ H λJ s=>∃W:Nat->Nat->St->Hp->Prop,(∃m,W 0 m σ s)/\∀i m σ H,W i m σ H ->
 (J.stop i H/\D.nx σ H)\/(J.go i H/\∃N:St->Hp->Prop,(∀k d,N k d->∃n,n<m/\W (i+1) n k d)/\∀x d,J.yld i H x d->g x σ d λl p=>tb {D with nx:=N,ct:=N,bk:=D.nx} l p)
def qY(fp:List Addr)(h:aaW):List (Addr×Obj):=fp.filterMap λb=>(h.get? b).map λo=>(b,o)
def gu{o:Obj}(d:b∈fp)(e:h.get? b=some o):(b,o)∈qY fp h:=List.mem_filterMap.mpr ⟨b,d,by rw[e];rfl⟩
theorem yK{p:Addr×Obj}(k:p∈qY fp h):p.1∈fp/\h.get? p.1=some p.2:=by
 let⟨b,l,e⟩:=List.mem_filterMap.mp k
 cases q:h.get? b with
 |none=>rw[q]at e;cases e
 |some o=>
  rw[q]at e;have d:=aaB e;subst d;exact⟨l,q⟩
theorem Inv.pinned{s:GT}(I:Inv X pins σ H s)(m:∀b∈fp,FpOk X pins H b)(l:∀b∈fp,∃o,s.heap.get? b=some o/\∀v,o.data≠.cell v):Inv X (pins++qY fp s.heap) σ H s:=
 I.pins_of λp k=>(aaU.mp k).elim (λz=>I.pin p (aaz _ z)) λz=>by
  let⟨d,e⟩:=yK z;let⟨q,t,n,_⟩:=m p.1 d;obtain _:=l p.1 d
  simp_all
def Inv.unpinned{pl:List (Addr×Obj)}{s:GT}(I:Inv X (pins++pl) σ H s):Inv X pins σ H s:=I.pins_of λp d=>I.pin p (aaz _ (aaZ _ d))
theorem QL{p:Expr}{wi:TI}{g:TG}{tb:TS}(Y:aft (model X.prog X.w) X.A X.env X.xe)(hc:X.calm=true)(hi:PI X tg p wi)(hg:PG X tg g)(F:PSs X body tb)
  (hs:∀x,aaR p X.env x=pure x:=by intro _;rfl):PS X (.For tg p body [] pos) (tFor wi g tb):=by
 intro pins s σ H D I h;refine wpAny_For (thn (hi pins s σ H _ I h) λv s1 h1=>thn h1 λitv s2 h2=>?_) hs;let⟨it,fp,tn,J,H2,e,I2,T,st2,f2,W,⟨m0,w0⟩,U⟩:=h2;subst e;have z:∀{G:Hp},(∀b∈fp,G b=none)->∀b∈fp,FpOk X pins G b:=λhn b F=>⟨hn b F,(f2 b F).2⟩;refine codeAny_forLoop_any (λn s'=>∃i B G,Inv X pins B G s'/\tn i s'.heap/\(∀b∈fp,G b=none)/\W i n B G) ?_ m0 ⟨0,σ,H2,I2,st2,λb F=>(f2 b F).1,w0⟩;intro n s3 ⟨i,t,Z,I3,R,V,w3⟩;rcases U i n t Z w3 with⟨stop,qn⟩|⟨go,N,hN,step⟩
 .refine acF Y (thn (T.done X rfl rfl rfl hc i pins s3 t Z X.xe I3 (z V) R stop) λr s4 ⟨hr,I4⟩=>?_);subst hr;exact aet ⟨t,Z,I4,qn⟩
 .refine acF Y (thn (T.item X rfl rfl rfl hc i pins s3 t Z X.xe I3 (z V) R go) λr s4 ⟨u,hr,h4⟩=>?_);subst hr;refine acF Y (thn h4 λ_ s5 ⟨x,H5,I5,r5,y5,O,fr5⟩=>?_);have I5':=I5.pinned (z fr5) (T.obj _ _ O);refine acF Y (thn (hg _ s5 t H5 x u _ I5' r5 (step x H5 y5)) λ_ s6 ⟨σ6,H6,I6,q6⟩=>?_);refine acF Y (thn (F _ s6 σ6 H6 _ I6 q6) λf s7 L=>?_);have q:∀{k:St}{y:Hp},Inv X (pins++qY fp s5.heap) k y s7->N k y->∃m,m<n/\∃i B G,Inv X pins B G s7/\tn i s7.heap/\(∀b∈fp,G b=none)/\W i m B G:=λ{k y} l S=>by
   let⟨m',hm,w7⟩:=hN k y S;refine⟨m',hm,i+1,k,y,l.unpinned,T.keep _ _ _ O λb F o e=>(l.pin (b,o) (aaz _ (aaz _ (gu F e)))).1,λb F=>?_,w7⟩;let⟨o,e,d⟩:=T.obj _ _ O b F;exact(l.pin (b,o) (aaz _ (aaz _ (gu F e)))).2.1
  cases f with
  |next=>let⟨k,y,l,S⟩:=L;exact q l S
  |cont=>let⟨k,y,l,S⟩:=L;exact q l S
  |brk=>let⟨k,y,l,L⟩:=L;exact⟨k,y,l.unpinned,L⟩
  |ret v=>let⟨x7,k,y,l,r7,L⟩:=L;exact⟨x7,k,y,l.unpinned,r7,L⟩
end
abbrev R2:=V->V->Hp->VK->Prop
def OpR(X:Cx)(f:Ad->Ad->Sem Ad)(r:R2):Prop:=
 ∀(pins:List (Addr×Obj)) (s:GT) (σ:St) (H:Hp) (x y:V) (v u:Ad) (Q:VK),Inv X pins σ H s->RelV x v->RelV y u->r x y H Q ->
  wpAny (model X.prog X.w) X.A (f v u) (EP X pins σ Q) X.xe s
def UnR(X:Cx)(f:Ad->Sem Ad)(r:V->Hp->VK->Prop):Prop:=
 ∀(pins:List (Addr×Obj)) (s:GT) (σ:St) (H:Hp) (x:V) (v:Ad) (Q:VK),Inv X pins σ H s->RelV x v->r x H Q ->
  wpAny (model X.prog X.w) X.A (f v) (EP X pins σ Q) X.xe s
def fe(X:Cx)(f:Ad)(r:List V->Hp->VK->Prop):Prop:=
 ∀(pins:List (Addr×Obj)) (s:GT) (σ:St) (H:Hp) (d:List V) (us:List Ad) (Q:VK),Inv X pins σ H s->Vals d us->r d H Q ->
  wpAny (model X.prog X.w) X.A (call f us) (EP X pins σ Q) X.xe s
def tOp(r:R2)(ta tb:TE):TE:=λσ H Q=>ta σ H λx k=>tb σ k λy d=>r x y d Q
def tUn(r:V->Hp->VK->Prop)(ta:TE):TE:=λσ H Q=>ta σ H λx d=>r x d Q
def rI(C:Int->Int->Prop)(g:Int->Int->V):R2:=λx y H Q=>∃i j,x = .int i/\y = .int j/\C i j/\Q (g i j) H
def rI0(g:Int->Int->V):R2:=λx y H Q=>∃i j,x = .int i/\y = .int j/\Q (g i j) H
def rU(g:Int->V):V->Hp->VK->Prop:=λx H Q=>∃i,x = .int i/\Q (g i) H
section
variable {X:Cx}{a b c:Expr}{ta tb d:TE}{pos:Pos}
def binT(B:PE X a ta)(D:PE X b tb){s:GT}{R:V->V->Hp->Prop}(I:Inv X pins σ H s)
  (h:ta σ H λx n=>tb σ n λy k=>R x y k) 
  (G:∀v u s2 x y k,Inv X pins σ k s2->RelV x v->RelV y u->R x y k->wpAny (model X.prog X.w) X.A (f v u) Q X.xe s2) :
  wpAny (model X.prog X.w) X.A (eval a X.env) (λv l=>wpAny (model X.prog X.w) X.A (eval b X.env) (λu m=>wpAny (model X.prog X.w) X.A (f v u) Q X.xe m) X.xe l) X.xe s:=by
 refine thn (B pins s σ H _ I h) λv s1 ⟨x,n,z,r1,t⟩=>?_;refine thn (D pins s1 σ n _ z t) λu s2 ⟨y,k,p,F,q⟩=>?_;exact G v u s2 x y k p r1 F q
theorem Uq{op:aeO}(p:OpR X (acl op) r)(n:PE X a ta)(z:PE X b tb):PE X (.BinOp a op b pos) (tOp r ta tb):=by
 intro pins s σ H Q I h;exact wpAny_BinOp (binT n z I h λv u s2 x y k l m t q=>p pins s2 σ k x y v u Q l m t q)
theorem Uz{op:UnaryOp}{r:V->Hp->VK->Prop}(n:UnR X (unaryOp op) r)(m:PE X a ta):PE X (.UnaryOp op a pos) (tUn r ta):=by
 intro pins s σ H Q I h;exact UnaryOp_ (thn (m pins s σ H _ I h)<|by intro v s1 ⟨x,l,k,r1,q⟩;exact n pins s1 σ l x v Q k r1 q)
theorem opI{C:Int->Int->Prop}
  (k:∀(i j:Int) (t u:Tok) (s:GT) (Q:Ad->GT->Prop) (E:Ad->GT->Prop),C i j->Q (.int (g i j) s.toks) {s with toks:=s.toks+1}->wpAny (model X.prog X.w) X.A (f (.int i t) (.int j u)) Q E s) :
  OpR X f (rI C λi j=>.int (g i j)):=by
 intro pins s σ H x y v u Q I l n h;let⟨i,j,rfl,rfl,m,q⟩:=h;let⟨t,rfl⟩:=l;let⟨t',rfl⟩:=n;exact k i j t t' s _ _ m ⟨.int _,H,I.tok _,⟨_,rfl⟩,q⟩
theorem opI0
  (k:∀(i j:Int) (t u:Tok) (s:GT) (Q:Ad->GT->Prop) (E:Ad->GT->Prop),Q (.int (g i j) s.toks) {s with toks:=s.toks+1}->wpAny (model X.prog X.w) X.A (f (.int i t) (.int j u)) Q E s) :
  OpR X f (rI0 λi j=>.int (g i j)):=by
 intro pins s σ H x y v u Q I l m h;let⟨i,j,rfl,rfl,q⟩:=h;let⟨t,rfl⟩:=l;let⟨t',rfl⟩:=m;exact k i j t t' s _ _ ⟨.int _,H,I.tok _,⟨_,rfl⟩,q⟩
theorem opB0{g:Int->Int->Bool}
  (k:∀(i j:Int) (t u:Tok) (s:GT) (Q:Ad->GT->Prop) (E:Ad->GT->Prop),Q (.bool (g i j)) s->wpAny (model X.prog X.w) X.A (f (.int i t) (.int j u)) Q E s) :
  OpR X f (rI0 λi j=>.bl (g i j)):=by
 intro pins s σ H x y v u Q I l m h;let⟨i,j,rfl,rfl,q⟩:=h;let⟨t,rfl⟩:=l;let⟨t',rfl⟩:=m;exact k i j t t' s _ _ ⟨.bl _,H,I,rfl,q⟩
def CPow(i j:Int):Prop:=0≤j/\j≤1000000/\i.natAbs<2^64
def CMul(i j:Int):Prop:=(-(2^64)<i/\i<2^64)\/(-(2^64)<j/\j<2^64)
def CMul.ok{i j:Int}(h:CMul i j):agQ i j:=by
 rcases h with⟨k,l⟩|⟨k,l⟩
 .exact .of_left (intBits_le_64 k l)
 .exact .of_right (intBits_le_64 k l)
def NR:OpR X (acl .Add) (rI0 λi j=>.int (i+j)):=opI0 λ_ _ _ _ _ _ _ q=>add_int q
def LS:OpR X (acl .Mod) (rI (λ_ j=>0<j) λi j=>.int (i%j)):=opI λi j _ _ _ _ _ k q=>by
 exact mod_int' (by omega) (by rw[Int.fmod_eq_emod_of_nonneg i (by omega)];exact q)
def Lw:OpR X (acl .Pow) (rI CPow λi j=>.int (i^j.toNat)):=opI λ_ _ _ _ _ _ _ k q=>pow_int_small k.1 k.2.1 k.2.2 q
theorem unI{f:Ad->Sem Ad}{g:Int->Int}
  (k:∀(i:Int) (t:Tok) (s:GT) (Q:Ad->GT->Prop) (E:Ad->GT->Prop),Q (.int (g i) s.toks) {s with toks:=s.toks+1}->wpAny (model X.prog X.w) X.A (f (.int i t)) Q E s) :
  UnR X f (rU λi=>.int (g i)):=by
 intro pins s σ H x v Q I l h;let⟨i,rfl,q⟩:=h;let⟨t,rfl⟩:=l;exact k i t s _ _ ⟨.int _,H,I.tok _,⟨_,rfl⟩,q⟩
def Mn:UnR X (unaryOp .USub) (rU λi=>.int (-i)):=unI λ_ _ _ _ _ q=>neg_int q
end
def scal:V->V->Bool
 | .non,.non=>true | .non,.int _=>true | .int _,.non=>true | .non,.bl _=>true | .bl _,.non=>true | .non,.str _=>true | .str _,.non=>true
 | .int _,.int _=>true | .bl _,.bl _=>true | .str _,.str _=>true | .byt _,.byt _=>true
 | .int _,.str _=>true | .str _,.int _=>true | .bl _,.str _=>true | .str _,.bl _=>true
 |_,_=>false
def rEq:R2:=λx y H Q=>scal x y=true/\Q (.bl (decide (x=y))) H
def rNe:R2:=λx y H Q=>scal x y=true/\Q (.bl (!decide (x=y))) H
def yj{i j:Int}:decide (V.int i=V.int j)=(i==j):=by
 rw[abI];simp
def FZ{i j:Bool}:decide (V.bl i=V.bl j)=(i==j):=by
 rw[abI];simp
def o5{i j:Str}:decide (V.str i=V.str j)=(i==j):=by
 rw[abI];simp
def xT{i j:Array UInt8}:decide (V.byt i=V.byt j)=(i.toList==j.toList):=by
 rw[abI];simp
section
variable {X:Cx}{a b c:Expr}{ta tb d:TE}{pos:Pos}
def bx{s:GT}{Q:VK}{k k':Bool}(I:Inv X pins σ H s)(q:Q (.bl k) H)(e:k=k'):EP X pins σ Q (.bool k') s:=by
 subst e;exact⟨.bl k,H,I,rfl,q⟩
theorem SV:OpR X (abm .Eq) rEq:=by
 intro pins s σ H x y v u Q I m k h;let⟨l,q⟩:=h
 cases x with
 |non=>
  cases m
  cases y with
  |non=>cases k;exact PySem.EqNone.eq_none_none (bx I q (by simp))
  |bl j=>cases k;exact PySem.EqNone.eq_none_bool (bx I q (by simp))
  |int j=>let⟨t',rfl⟩:=k;exact PySem.EqNone.eq_none_int (bx I q (by simp))
  |str j=>let⟨t',rfl⟩:=k;exact PySem.EqNone.eq_none_str (bx I q (by simp))
  |_=>exact absurd (show false=true from l) aaq
 |bl i=>
  cases m
  cases y with
  |non=>cases k;exact PySem.EqNone.eq_bool_none (bx I q (by simp))
  |bl j=>cases k;exact eq_bool (bx I q FZ)
  |str j=>let⟨t',rfl⟩:=k;exact PySem.EqMixed.eq_bool_str (bx I q (by simp))
  |_=>exact absurd (show false=true from l) aaq
 |int i=>
  let⟨t,rfl⟩:=m
  cases y with
  |non=>cases k;exact PySem.EqNone.eq_int_none (bx I q (by simp))
  |int j=>let⟨t',rfl⟩:=k;exact eq_int (bx I q yj)
  |str j=>let⟨t',rfl⟩:=k;exact PySem.EqMixed.eq_int_str (bx I q (by simp))
  |_=>exact absurd (show false=true from l) aaq
 |str i=>
  let⟨t,rfl⟩:=m
  cases y with
  |non=>cases k;exact PySem.EqNone.eq_str_none (bx I q (by simp))
  |bl j=>cases k;exact PySem.EqMixed.eq_str_bool (bx I q (by simp))
  |int j=>let⟨t',rfl⟩:=k;exact PySem.EqMixed.eq_str_int (bx I q (by simp))
  |str j=>let⟨t',rfl⟩:=k;exact eq_str (bx I q o5)
  |_=>exact absurd (show false=true from l) aaq
 |byt i=>
  let⟨t,rfl⟩:=m
  cases y with
  |byt j=>let⟨t',rfl⟩:=k;exact PySem.W.eq_bytes (bx I q xT)
  |_=>exact absurd (show false=true from l) aaq
 |_=>cases y<;>exact absurd (show false=true from l) aaq
theorem TU:OpR X (abm .NotEq) rNe:=by
 intro pins s σ H x y v u Q I m k h;let⟨l,q⟩:=h
 cases x with
 |non=>
  cases m
  cases y with
  |non=>cases k;exact PySem.EqNone.ne_none_none (bx I q (by rfl))
  |bl j=>cases k;exact PySem.EqNone.ne_none_bool (bx I q (by simp))
  |int j=>let⟨t',rfl⟩:=k;exact PySem.EqNone.ne_none_int (bx I q (by simp))
  |str j=>let⟨t',rfl⟩:=k;exact PySem.EqNone.ne_none_str (bx I q (by simp))
  |_=>exact absurd (show false=true from l) aaq
 |bl i=>
  cases m
  cases y with
  |non=>cases k;exact PySem.EqNone.ne_bool_none (bx I q (by simp))
  |bl j=>cases k;exact ne_bool (bx I q (congrArg not FZ))
  |str j=>let⟨t',rfl⟩:=k;exact PySem.EqMixed.ne_bool_str (bx I q (by simp))
  |_=>exact absurd (show false=true from l) aaq
 |int i=>
  let⟨t,rfl⟩:=m
  cases y with
  |non=>cases k;exact PySem.EqNone.ne_int_none (bx I q (by simp))
  |int j=>let⟨t',rfl⟩:=k;exact ne_int (bx I q (congrArg not yj))
  |str j=>let⟨t',rfl⟩:=k;exact PySem.EqMixed.ne_int_str (bx I q (by simp))
  |_=>exact absurd (show false=true from l) aaq
 |str i=>
  let⟨t,rfl⟩:=m
  cases y with
  |non=>cases k;exact PySem.EqNone.ne_str_none (bx I q (by simp))
  |bl j=>cases k;exact PySem.EqMixed.ne_str_bool (bx I q (by simp))
  |int j=>let⟨t',rfl⟩:=k;exact PySem.EqMixed.ne_str_int (bx I q (by simp))
  |str j=>let⟨t',rfl⟩:=k;exact ne_str (bx I q (congrArg not o5))
  |_=>exact absurd (show false=true from l) aaq
 |byt i=>
  let⟨t,rfl⟩:=m
  cases y with
  |byt j=>let⟨t',rfl⟩:=k;exact PySem.W.ne_bytes (bx I q (congrArg not xT))
  |_=>exact absurd (show false=true from l) aaq
 |_=>cases y<;>exact absurd (show false=true from l) aaq
def Ue:OpR X (abm .Lt) (rI0 λi j=>.bl (decide (i<j))):=opB0 λ_ _ _ _ _ _ _ q=>lt_int q
def Ui:OpR X (abm .Gt) (rI0 λi j=>.bl (decide (j<i))):=opB0 λ_ _ _ _ _ _ _ q=>gt_int q
def RG:OpR X (abm .GtE) (rI0 λi j=>.bl (decide (j≤i))):=opB0 λ_ _ _ _ _ _ _ q=>ge_int q
theorem Jt:OpR X (abm .IsNot) (λx y H Q=>y = .non/\Q (.bl (!decide (x = .non))) H):=by
 intro pins s σ H x y v u Q I k l h;let⟨rfl,q⟩:=h;cases l;refine isnot_none_gen (bx I q ?_)
 cases x<;>first
  |(cases k;rfl)
  |(let⟨t,rfl⟩:=k;rfl)
def aB(b:Expr)(h:op≠.In:=by decide)(l:op≠.NotIn:=by decide):acN op b=false:=by
 have m:(op==CmpOp.In)=false:=by cases op<;>first|rfl|exact absurd rfl h
 have k:(op==CmpOp.NotIn)=false:=by cases op<;>first|rfl|exact absurd rfl l
 cases b<;>simp[acN,m,k]
theorem Jc(t:OpR X (abm op) r)(n:PE X a ta)(B:PE X b tb)(p:acN op b=false):PE X (.Compare a [op] [b] pos) (tOp r ta tb):=by
 intro pins s σ H Q I h;exact wpAny_Compare1 (binT n B I h λv u s2 x y k l m z q=>t pins s2 σ k x y v u Q l m z q) p
def Qp(t:TE):TT:=λσ H Q=>t σ H λx l=>∃k,x = .bl k/\Q k l
theorem Ij(L:OpR X (abm op) r)(B:PE X a ta)(R:PE X b tb)(F:acN op b=false):PT X (.Compare a [op] [b] pos) (Qp (tOp r ta tb)):=by
 intro pins s σ H Q I h;refine wpAny_isTrue_Compare1 (thn (B pins s σ H _ I h) λv s1 ⟨x,m,O,r1,p⟩=>thn (R pins s1 σ m _ O p) λu s2 ⟨y,l,n,S,D⟩=>
  thn (L pins s2 σ l x y v u _ n r1 S D) λc T ⟨z,G,J,t,k,e,q⟩=>?_) F
 subst e;cases t;exact ae8 ⟨G,J,q⟩
def qq:(aaj:Nat)<2^63:=by  decide
theorem w5:OpR X (acl .Add) (λx y H Q=>∃i j,x = .str i/\y = .str j/\i.length+j.length≤aaj/\Q (.str (i++j)) H):=by
 intro pins s σ H x y v u Q I l m h;let⟨i,j,rfl,rfl,k,q⟩:=h;let⟨t,rfl⟩:=l;let⟨t',rfl⟩:=m;exact add_str (λt' n=>⟨.str _,H,I.tok _,⟨_,rfl⟩,q⟩) k
theorem AU{x:V}(r:Vals [x] us):∃u,us=[u]/\RelV x u:=by
 cases r with
 |cons r1 k=>cases k;exact⟨_,rfl,r1⟩
theorem TZ{x y:V}(r:Vals [x,y] us):∃u k,us=[u,k]/\RelV x u/\RelV y k:=by
 cases r with
 |cons r1 m=>
  cases m with
  |cons l n=>cases n;exact⟨_,_,rfl,r1,l⟩
theorem yO(m:X.calm=true):fe X (.builtin "max") (λxs H Q=>∃i j,xs=[.int i,.int j]/\Q (.int (if j>i then j else i)) H):=by
 intro pins s σ H xs us Q I r h;let⟨i,j,rfl,q⟩:=h;let⟨u,y,rfl,⟨t,rfl⟩,⟨t',rfl⟩⟩:=TZ r;refine max_two_ints (I.ok.hd m) λp n k=>⟨_,H,I.kept k,?_,q⟩
 by_cases l:j>i
 .rw[if_pos l,if_pos l];exact⟨_,rfl⟩
 .rw[if_neg l,if_neg l];exact⟨_,rfl⟩
theorem rf:fe X (.type "int") (λxs H Q=>(∃i,xs=[.int i]/\Q (.int i) H)\/∃k,xs=[.bl k]/\Q (.int (if k then 1 else 0)) H):=by
 intro pins s σ H xs us Q I r h;rcases h with⟨i,rfl,q⟩|⟨k,rfl,q⟩
 .obtain⟨u,rfl,t,rfl⟩:=AU r;exact call_int_int ⟨.int i,H,I,⟨_,rfl⟩,q⟩
 .obtain⟨u,rfl,r1⟩:=AU r;cases r1;exact call_int_bool ⟨.int _,H,I.tok _,⟨_,rfl⟩,q⟩
end
structure ObjM(h:aaW)(x dx C:Addr)(mA:Str->Option Ad):Prop where
 obj:h.get? x=some (acp C dx)
 ns:h.Ns1 dx mA
 ne:dx≠x
theorem yM{dx:Addr}(n:h.Ns1 dx mA):∃k,h.get? dx=some k/\∀name,aeQ name k=some (mA name):=by
 let⟨o,es,B,s,hd,hk,_,p⟩:=n;refine⟨o,s,λname=>?_⟩;have e:=p name;unfold nsFind findBy at e;rw[<-Array.find?_toList]at e;unfold aeQ;rw[hd];dsimp;split
 .rename_i y q;rw[q]at e;exact congrArg some e
 .rename_i q;rw[q]at e;have a:es.toList.any (·.refKey)=false:=by
   rw[List.any_eq_false];intro y l;let⟨z,t,d⟩:=hk y (aem.mp l);simp[acd.refKey,d]
  have m:¬es.toList.any (·.refKey)=true:=by rw[a];exact aaq
  rw[if_neg m];exact congrArg some e
def ObjM.look{x dx:Addr}(I:ObjM h x dx C mA):∃d,PySem.W.InstAt h x (acp C dx) C (some d)/\∀name,aeQ name d=some (mA name):=
 let ⟨d,ho,hl⟩:=yM I.ns
 ⟨d,⟨I.obj,rfl,rfl,ho⟩,hl⟩
section
variable {prog:aaI}{w:World}{A:aa8}{E:Ad->GT->Prop}{s:GT}{K:aaf}{x dx C f:Addr}{m:Str->Option Ad}{name:Str}{v:Ad}
def IY{d:Bool}(X:K.In s.heap)(I:ObjM s.heap x dx C m)(q:acS K C name=true)(n:add K C=true)
  (t:abp K (.ref C) name=some none) (l:m name=some v) (k:ag1 v=true) (h:Q v {s with toks:=s.toks+1}) :
  wpAny (model prog w) A (getAttr (.ref x) name d) Q E s:=by
 let⟨y,J,p⟩:=I.look;exact PySem.W.get_value X J (aeC q).1 (PySem.W.findObj_own n t rfl (by rw[p,l])) k h
def DI{Q:Ad×List Ad->GT->Prop}(X:K.In s.heap)(I:ObjM s.heap x dx C m)(d:acS K C name=true)
  (q:abp K (.ref C) name=some (some (.ref f))) (k:aeD K (.ref f)=true) (n:m name=none) (h:Q (.ref f,[.ref x]) s) :
  wpAny (model prog w) A (aee (.ref x) name pl) Q E s:=by
 let⟨l,J,p⟩:=I.look;exact PySem.W.method_fn X J (aeC d).1 (aeC d).2 q (beq_iff_eq.mp k) (by show(aeQ name l).map (·.isSome)=some false;rw[p,n];rfl) h
theorem JO{ns:List Str}{Q:Unit->GT->Prop}(X:K.In s.heap)(I:ObjM s.heap x dx C m)
  (L:abp K (.ref C) "__setattr__" = some (some (.builtin "object.__setattr__"))) (F:ad0 K C=true) (z:afQ K C name=some none) (t:add K C=true)
  (D:afD m ns) (hsz:ns.length≤aaj)
  (h:∀h',ObjM h' x dx C (λy=>if y=name then some v else m y)->ab3 dx s.heap h'->Q () {s with heap:=h',toks:=s.toks+2}) :
  wpAny (model prog w) A (setAttr (.ref x) name v) Q E s:=by
 let⟨U,J,S⟩:=I.look;refine PySem.W.set_plain X J L (PySem.W.osa_open (s:={s with toks:=s.toks+1}) (r:=none) X J F z λb=>?_);let⟨V,G,l⟩:=PySem.W.any_some t;have B:s.heap.get? x=some ⟨.ref C,some dx,.plain,#[]⟩:=I.obj;refine gT (LD (gT (gT (wpAny_loadPart B (gT (PySem.W.Looks.here (s:={s with toks:=s.toks+1}) (PySem.W.looks_clsIn X G) ?_))))));rw[l];refine LD (a:=some dx) (gT (LD (gT ?_)));refine wpAny_nsSet1 (s:={s with toks:=s.toks+1}) I.ns λh' k d=>?_;let⟨T,O,R,q,p,n⟩:=k.count (afD.cons name v D);refine gT (wpAny_lookBehind q (by rw[p];exact pastItsLine_dict (aaD n (by rw[aaw];omega))) ?_);exact LD (h _ ⟨(d.2 _ (ab0 I.ne)).trans I.obj,k,I.ne⟩ d)
theorem C6{R:Result->GT->Prop}{vs:List Ad}(X:K.In s.heap)(k:afR K C=true)
  (l:abp K (.ref C) "__init__" = some (some (.ref f))) (n:PySem.W.typeIn K (.ref f)=some (.type "function"))
  (h:adP (model prog w) (A.under (.builtin "type.__call__" ⟨.ref C::vs,kw⟩)) (.call (.ref f) ⟨.ref (s.heap.objs.size+1)::vs,kw⟩) (PySem.W.InitBack (s.heap.objs.size+1) R)
   {s with heap:=(s.heap.push abN).push (acp C s.heap.objs.size)}) :
  adP (model prog w) A (.call (.ref C) ⟨vs,kw⟩) R s:=by
 let⟨p,g,d,t,os⟩:=s;exact PySem.W.make_core (PySem.W.makes_of X k) (PySem.W.looks_findIn X l) (λself=>PySem.W.bind_fn X self n) (.inl rfl) h
end
def putF(f:Str)(v:V):List (Str×V)->List (Str×V)
 |[]=>[(f,v)]
 |(g,x)::r=>if g=f then(g,v)::r else(g,x)::putF f v r
theorem ls(f g:Str)(v:V):∀fs:List (Str×V),(putF f v fs).lookup g=if g=f then some v else fs.lookup g
 |[]=>by
  show aen g [(f,v)]=_
  by_cases h:g=f
  .simp_all
  .have hb:=beq_eq_false_iff_ne.mpr h;simp only[aen,hb,if_neg h]
 | (k,x)::r=>by
  have d:=ls f g v r;rw[show putF f v ((k,x)::r)=(if k=f then(k,v)::r else(k,x)::putF f v r)from rfl]
  by_cases hk:k=f
  .rw[if_pos hk]
   by_cases h:g=k
   .simp_all
   .have hb:(g==k)=false:=beq_eq_false_iff_ne.mpr h;simp only[aen,hb,if_neg (λe:g=f=>h (e.trans hk.symm))]
  .rw[if_neg hk]
   by_cases h:g=k
   .simp_all
   .have hb:=beq_eq_false_iff_ne.mpr h;simp only[aen,hb];exact d
theorem lH(f:Str)(v:V):∀fs:List (Str×V),f∈(putF f v fs).map (·.1)/\∀g,g∈fs.map (·.1)->g∈(putF f v fs).map (·.1)
 |[]=>⟨by simp[putF],λg h=>by simp at h⟩
 | (k,x)::r=>by
  let⟨d,l⟩:=lH f v r;rw[show putF f v ((k,x)::r)=(if k=f then(k,v)::r else(k,x)::putF f v r)from rfl]
  by_cases hk:k=f
  .rw[if_pos hk];subst hk;exact⟨by simp,λg h=>by simpa using h⟩
  .rw[if_neg hk];refine⟨?_,λg h=>?_⟩
   .rw[aan];exact aad _ d
   .rw[aan]at h⊢;rcases aak.mp h with e|e
    .exact aak.mpr (.inl e)
    .exact aad _ (l g e)
theorem kJ(f:Str)(v:V):∀fs:List (Str×V),(putF f v fs).length≤fs.length+1
 |[]=>by simp[putF]
 |(k,x)::r=>by
  have d:=kJ f v r;rw[show putF f v ((k,x)::r)=(if k=f then(k,v)::r else(k,x)::putF f v r)from rfl]
  by_cases hk:k=f
  .rw[if_pos hk,aaw,aaw];omega
  .rw[if_neg hk,aaw,aaw];omega
theorem RelO.some_of{o:Option Ad}(r:RelO (some v) o):∃u,o=some u/\RelV v u:=by
 cases o with
 |none=>exact(r).elim
 |some u=>exact⟨u,rfl,r⟩
theorem RelO.none_of{o:Option Ad}(r:RelO none o):o=none:=by
 cases o with
 |none=>rfl
 |some u=>exact(r).elim
theorem xy(r:RelV v u):ag1 u=true:=by
 cases v with
 |non=>cases (r);rfl
 |bl b=>cases (r);rfl
 |int i=>let⟨t,e⟩:=(r);cases e;rfl
 |str x=>let⟨t,e⟩:=(r);cases e;rfl
 |byt b=>let⟨t,e⟩:=(r);cases e;rfl
 |flt b=>let⟨t,e⟩:=(r);cases e;rfl
 |ref a=>cases (r);rfl
 |ty n=>cases (r);rfl
section
variable {P:aaI}{w:World}{H c:Hp}{h h':aaW}{a C dx:Addr}{fs b:List (Str×V)}
theorem ub(hok:HOk P w H h)(e:H a=some (.ins C dx fs)):∃mA,ObjM h a dx C mA/\(∀f,RelO (fs.lookup f) (mA f))/\afD mA (fs.map (·.1))/\fs.length≤1000/\H dx=some (.own a):=by
 let⟨d,z,ne,k,mA,n,r,q⟩:=(show ObjOk P w H h a (.ins C dx fs)from hok a _ e);exact⟨mA,⟨k,n,ne⟩,r,q,z,d⟩
end
structure Cls(K:aaf)(C:Addr):Prop where
 pg:acS K C aeL=true
 hd:add K C=true
 po:ad0 K C=true
 sa:abp K (.ref C) "__setattr__" = some (some (.builtin "object.__setattr__"))
def Cls.get(c:Cls K C)(f:Str):acS K C f=true:=c.pg
def NoAttr(K:aaf)(C:Addr)(f:Str):Prop:=abp K (.ref C) f=some none
def NoAttr.taker{f:Str}(n:NoAttr K C f):afQ K C f=some none:=by
 unfold afQ;rw[show abp K (.ref C) f=some none from n];rfl
structure Meth(K:aaf)(C:Addr)(m:Str)(f:Addr):Prop where
 at_:abp K (.ref C) m=some (some (.ref f))
 fn:aeD K (.ref f)=true
 kp:abP K (.ref f)=true
section
variable {X:Cx}{p:List (Addr×Obj)}{d:St}{H:Hp}{s:GT}{a C dx:Addr}{fs:List (Str×V)}{f:Str}{v:V}{A:aa8}{E:Ad->GT->Prop}
theorem wN{b:Bool}(I:Inv X p d H s)(e:H a=some (.ins C dx fs))(c:Cls X.K C)(n:NoAttr X.K C f)(l:fs.lookup f=some v)
  (h:∀u s',Inv X p d H s'->RelV v u->Q u s'):wpAny (model X.prog X.w) A (getAttr (.ref a) f b) Q E s:=by
 let⟨mA,O,r,_,_,_⟩:=ub I.hok e;let⟨u,m,k⟩:=RelO.some_of (v:=v) (o:=mA f) (by rw[<-l];exact r f);exact IY I.kIn O (c.get f) c.hd n m (xy k) (h u _ (I.tok _) k)
theorem nh{m:Str}{g:Addr}{Q:Ad×List Ad->GT->Prop}(I:Inv X p d H s)(e:H a=some (.ins C dx fs))(c:Cls X.K C)(k:Meth X.K C m g)(l:fs.lookup m=none)
  (h:Q (.ref g,[.ref a]) s):wpAny (model X.prog X.w) A (aee (.ref a) m pl) Q E s:=by
 let⟨mA,O,r,_,_,_⟩:=ub I.hok e;have n:mA m=none:=RelO.none_of (by rw[<-l];exact r m);exact DI I.kIn O (c.get m) k.at_ k.fn n h
theorem xj{y:V}{Q:Unit->GT->Prop}(I:Inv X p d H s)(e:H a=some (.ins C dx fs))(c:Cls X.K C)(n:NoAttr X.K C f)(L:fs.length<1000)(F:RelV y u)
  (h:∀s',Inv X p d (upd H a (.ins C dx (putF f y fs))) s'->Q () s'):wpAny (model X.prog X.w) A (setAttr (.ref a) f u) Q E s:=by
 let⟨mA,O,r,l,_,m⟩:=ub I.hok e;have D:(fs.map (·.1)).length≤aaj:=by rw[lD,aar];omega
 refine JO I.kIn O c.sa c.po n.taker c.hd l D λt k B=>h _ ?_;have hd:∃o,t.get? dx=some o:=let ⟨o,_,_,e',_⟩:=k.ns;⟨o,e'⟩;refine I.write (x:=a) (e:=dx) (by rw[e];exact adU) (.inr m) (λb q G z=>(B.2 b G).trans z) hd ?_;refine⟨by rw[au O.ne];exact m,?_,O.ne,k.obj,_,k.ns,λg=>?_,λg J=>?_⟩
 .have:=kJ f y fs;omega
 .show RelO ((putF f y fs).lookup g) (if g=f then some u else mA g);rw[ls]
  by_cases q:g=f
  .rw[if_pos q,if_pos q];exact F
  .rw[if_neg q,if_neg q];exact r g
 .by_cases q:g=f
  .rw[q];exact(lH f y fs).1
  .refine(lH f y fs).2 g (l g λz=>J ?_);show(if g=f then some u else mA g)=none;rw[if_neg q];exact z
theorem Inv.made(I:Inv X p d H s):Inv X p d (upd (upd H s.heap.objs.size (.own (s.heap.objs.size+1))) (s.heap.objs.size+1) (.ins C s.heap.objs.size []))
  {s with heap:=(s.heap.push abN).push (acp C s.heap.objs.size)}:=by
 have k:(s.heap.push abN).get? s.heap.objs.size=some abN:=aao s.heap rfl;have m:((s.heap.push abN).push (acp C s.heap.objs.size)).get? (s.heap.objs.size+1)=some (acp C s.heap.objs.size):=by
  have:=aao (s.heap.push abN) (o:=acp C s.heap.objs.size) rfl;rwa[abE]at this
 have t:(s.heap.push abN).Ns s.heap.objs.size (λ_=>none):=⟨abN,#[],_,k,rfl,(λe z=>absurd z (by simp)),λ_=>rfl⟩;have l:=I.laid (a:=s.heap.objs.size) (o:=.own (s.heap.objs.size+1)) (h':=s.heap.push abN) (t':=s.toks) (λb u q=>Ld _ q) (aab _) ⟨_,k⟩;refine l.laid (a:=s.heap.objs.size+1) (o:=.ins C s.heap.objs.size []) (t':=s.toks) (λb u q=>Ld _ q) (aeE (abE _ _)) ?_;have ne:s.heap.objs.size≠s.heap.objs.size+1:=aa3 (abA _);refine⟨by rw[au ne,av],abF _,ne,m,λ_=>none,(aaW.Ns1.of_empty t).at λo q=>Ld _ q,λ_=>adU,λy n=>absurd rfl n⟩
def KM{prog:aaI}{env:Env}{f:Str}{s:GT}(l:abQ e f env (eval e env)=eval e env)
  (h:wpAny (model prog w) A (eval e env) (λo k=>wpAny (model prog w) A (getAttr o f true) Q E k) E s):wpAny (model prog w) A (eval (.Attribute e f pos) env) Q E s:=
 Attribute_any_ h (by rw[arm_eval_Attribute,l])
end
def tFld(K:aaf)(ta:TE)(f:Str):TE:=λσ H Q=>ta σ H λx d=>∃a C dx fs v,x = .ref a/\d a=some (.ins C dx fs)/\Cls K C/\NoAttr K C f/\fs.lookup f=some v/\Q v d
def sFld(K:aaf)(ta t:TE)(f:Str):TS:=λD σ H=>t σ H λy k=>ta σ k λx d=>∃a C dx fs,x = .ref a/\d a=some (.ins C dx fs)/\Cls K C/\NoAttr K C f/\fs.length<1000/\
 D.nx σ (upd d a (.ins C dx (putF f y fs)))
def InOp(X:Cx)(op:aeO)(d:V->V->Hp->VK->Prop):Prop:=
 ∀(pins:List (Addr×Obj)) (s:GT) (σ:St) (H:Hp) (x y:V) (u v:Ad) (Q:VK),Inv X pins σ H s->RelV x u->RelV y v->d x y H Q->wpAny (model X.prog X.w) X.A (inplaceOp op u v) (EP X pins σ Q) X.xe s
section
variable {X:Cx}{o e b:Expr}{f:Str}{pos p d:Pos}{ta g:TE}
theorem Mq(z:PE X e ta)(F:abQ e f X.env (eval e X.env)=eval e X.env):PE X (.Attribute e f pos) (tFld X.K ta f):=by
 intro pins s σ H Q I h;refine KM F (thn (z pins s σ H _ I h) λu s1 ⟨x,m,D,B,a,C,dx,fs,v,ex,k,c,n,l,q⟩=>?_);subst ex;obtain rfl:u=abw a:=B;exact wN D k c n l λG s2 t y=>⟨v,m,t,y,q⟩
theorem Pf(F:PE X o ta)(R:PE X b g)(O:abB b (some (.Attribute o f p)) pos.line X.env=pure false):PS X (.Assign [.Attribute o f p] b pos) (sFld X.K ta g f):=by
 intro pins s σ H D I h;refine plainObj_wpAny_Assign_Attribute (thn (R pins s σ H _ I h) λu s1 ⟨y,m,L,S,q⟩=>thn (F pins s1 σ m _ L q) λB s2 ⟨x,U,t,z,a,C,dx,fs,ex,k,c,n,l,G⟩=>?_) O;subst ex;obtain rfl:B=abw a:=z;exact xj t k c n l S λT J=>⟨σ,_,J,G⟩
def rAdd:V->V->Hp->VK->Prop:=λx y H Q=>∃i j,x = .int i/\y = .int j/\Q (.int (i+j)) H
def rSub:V->V->Hp->VK->Prop:=λx y H Q=>∃i j,x = .int i/\y = .int j/\Q (.int (i-j)) H
theorem QP:InOp X .Add rAdd:=by
 intro pins s σ H x y u v Q I k l ⟨i,j,rfl,rfl,q⟩;let⟨t,rfl⟩:=(k);let⟨t',rfl⟩:=(l);exact PyProof.Rows.iadd_int ⟨.int _,H,I.tok _,⟨_,rfl⟩,q⟩
theorem LG:InOp X .Sub rSub:=by
 intro pins s σ H x y u v Q I k l ⟨i,j,rfl,rfl,q⟩;let⟨t,rfl⟩:=(show ∃t,u=agh i t from k);let⟨t',rfl⟩:=(show ∃t',v=agh j t' from l);exact PyProof.Rows.isub_int ⟨.int (i-j),H,I.tok _,⟨_,rfl⟩,q⟩
end
structure Room(k:Nat)(A:aa8):Prop where
 hd:A.handled=none
 dp:A.depth+3*k+5<recursionLimit
 un:A.units+16*k+200<cLine
 gd:A.guards=some []
def Room.mono{k:Nat}(r:Room k A)(h:j≤k):Room j A:=⟨r.hd,by have:=r.dp;omega,by have:=r.un;omega,r.gd⟩
def Room.deeper{k:Nat}(r:Room (k+1) A)(env:Env):Room k (A.deeper env):=
 ⟨r.hd,by have:=r.dp;show A.depth+1+3*k+5<_;omega,by have:=r.un;show A.units+3+16*k+200<_;omega,r.gd⟩
def wj:(A.under (.builtin "type.__call__" ⟨.ref C::us,kw⟩)).depth=A.depth+1:=rfl
def xo:(A.under (.builtin "type.__call__" ⟨.ref C::us,kw⟩)).units=A.units+1:=rfl
def uf:(A.under (.builtin "type.__call__" ⟨.ref C::us,kw⟩)).guards=A.guards:=rfl
def Room.make{k:Nat}(r:Room (k+1) A)(C:Addr)(us:List Ad)(kw:List (Str×Ad)):Room k (A.under (.builtin "type.__call__" ⟨.ref C::us,kw⟩)):=
 ⟨r.hd,by have:=r.dp;rw[wj];omega,by have:=r.un;rw[xo];omega,by rw[uf];exact r.gd⟩
def Room.depth{k:Nat}(r:Room k A):A.depth<recursionLimit:=by have:=r.dp;omega
def Room.units{k:Nat}(r:Room k A):A.units+64<cLine:=by have:=r.un;omega
def tNil:TA:=λ_ H Q=>Q [] H
def Tw(ta:TE)(tr:TA):TA:=λσ H Q=>ta σ H λx k=>tr σ k λl d=>Q (x::l) d
section
variable {X:Cx}{e:Expr}{a:List Expr}{c:TE}{t:TA}{pos:Pos}
theorem Nu:PA X [] tNil:=λ_ _ _ _ H Q I h=>ae9 ⟨[],H,I,.nil,h⟩
theorem JI(B:PE X e c)(y:PA X a t)(z:aag (e::a) X.env=(false,eval e X.env)::aag a X.env:=by rfl):PA X (e::a) (Tw c t):=by
 intro pos pins s σ H Q I h;rw[z];show wpAny _ _ (spliced ((false,eval e X.env)::abD pos _)) _ _ s;refine aeR (thn (B pins s σ H _ I h) λu s1 ⟨x,k,p,r1,m⟩=>?_);exact thn (y pos pins s1 σ k _ p m)<|by intro us s2 ⟨n,d,l,D,q⟩;exact⟨x::n,d,l,.cons r1 D,q⟩
def tTup(t:TA):TE:=λσ H Q=>t σ H λk d=>k.length≤aaj/\∀p,d p=none->Q (.ref p) (upd d p (.tup k))
def tLst(t:TA):TE:=λσ H Q=>t σ H λk d=>k.length≤aaj/\∀p,d p=none->Q (.ref p) (upd d p (.lst k))
theorem QI{x1}(h:PA X a t):PE X (.Tuple a x1 pos) (tTup t):=by
 intro pins s σ H Q I k;refine wpAny_Tuple_spliced (thn (h pos pins s σ H _ I k) λus s1 ⟨n,l,d,r,z,q⟩=>⟨by rw[<-r.length];exact z,?_⟩);have m:=d.hok.fresh (aab _);refine⟨.ref s1.heap.objs.size,upd l s1.heap.objs.size _,d.laid (t':=s1.toks) (λb u e=>Ld _ e) (aab _) ?_,rfl,q _ m⟩;exact⟨z,us,r,⟨_,aao _ rfl,rfl,rfl,_,rfl⟩⟩
theorem Qc(h:PA X a t):PE X (.List a pos) (tLst t):=by
 intro pins s σ H Q I k;refine wpAny_List_spliced (thn (h pos pins s σ H _ I k) λus s1 ⟨n,l,d,r,z,q⟩=>⟨by rw[<-r.length];exact z,?_⟩);have m:=d.hok.fresh (aab _);refine⟨.ref s1.heap.objs.size,upd l s1.heap.objs.size _,d.laid (t':=s1.toks) (λb u e=>Ld _ e) (aab _) ?_,rfl,q _ m⟩;exact⟨z,us,0,r,aao _ rfl⟩
end
abbrev Sp:=List V->Hp->VK->XK->Prop
abbrev CXT:=List Env->Hp->GT->XK->Ad->GT->Prop
structure Env0(P:aaI)(w:World)(K:aaf)(mg:Str->Option Ad)(base:aaW)(A:aa8)(outer:List Env)(s:GT)(H:Hp):Prop where
 frames:A.frames=some outer
 mod:Mod K mg base
 bs:∀b o,base.get? b=some o->s.heap.get? b=some o/\H b=none
 bsz:base.objs.size≤s.heap.objs.size
 funs:s.heap.FunFrames base outer
 frf:∀b∈frs outer,H b=none
 hok:HOk P w H s.heap
 bare:ae7 s.gens
def CE(outer:List Env)(P:aaI)(w:World)(H:Hp)(s:GT)(Q:VK)(u:Ad)(s':GT):Prop:=
 ∃v d,s'.os=s.os/\ae7 s'.gens/\Un (frs outer) [] H d s.heap s'.heap/\HOk P w d s'.heap/\RelV v u/\Q v d
def CR(CX:CXT)(outer:List Env)(P:aaI)(w:World)(H:Hp)(s:GT)(Q:VK)(E:XK)(r:Result)(s':GT):Prop:=
 match r with
 | .ok (.ret u)=>CE outer P w H s Q u s'
 | .ok _=>False
 | .error e=>CX outer H s E e s'
structure FnOk(P:aaI)(w:World)(K:aaf)(mg:Str->Option Ad)(base:aaW)(CX:CXT)(k:Nat)(f:Addr)(fd:ab4)(ps:List Str)(sp:Sp):Prop where
 len:∀vs H Q E,sp vs H Q E->vs.length=ps.length
 run:∀(A:aa8) (outer:List Env) (s:GT) (H:Hp) (args:Args) (us:List Ad) (vs:List V) (Q:VK) (E:XK),Room k A->Env0 P w K mg base A outer s H->agR s fd args (ps.zip us)->Vals vs us->sp vs H Q E ->
  adP (model P w) A (.call (.ref f) args) (CR CX outer P w H s Q E) s
def Env0.make{base:aaW}{s:GT}(e:Env0 P w K mg base A outer s H)(C:Addr)(us:List Ad)(kw:List (Str×Ad)) :
  Env0 P w K mg base (A.under (.builtin "type.__call__" ⟨.ref C::us,kw⟩)) outer s H:=⟨by first|exact e.frames|(simpa[ pushEnvs]),e.mod,e.bs,e.bsz,e.funs,e.frf,e.hok,e.bare⟩
section
variable {X:Cx}{p:List (Addr×Obj)}{a:St}{H:Hp}{s s':GT}
def Inv.env0(I:Inv X p a H s):Env0 X.prog X.w X.K X.mg X.base X.A X.stack s H:=
 ⟨I.ok.frames,I.ok.mod,I.bs,aaD I.ok.bsz I.sz,I.stack,I.stkFree,I.hok,I.bare⟩
theorem Inv.after{Q:VK}(I:Inv X p a H s)(h:CE X.stack X.prog X.w H s Q u s'):EP X p a Q u s':=by
 let⟨v,l,os,bare,un,hok,r,q⟩:=h;let⟨m,g,d,t,k⟩:=s';obtain rfl:k=s.os:=os;exact⟨v,l,I.call (h':=m) (g':=g) (d':=d) (t':=t) un hok bare (λb z=>absurd z (by simp)),r,q⟩
end
def OX(sp:Sp)(d:List V)(E:XK)(t:TA):TE:=λσ H Q=>t σ H λvs k=>sp (vs++d) k Q E
def Je(C:Addr)(m:Str)(sp:Sp)(d:List V)(E:XK)(ta:TE)(t:TA):TE:=λσ H Q=>ta σ H λx k=>∃a dx fs,x = .ref a/\k a=some (.ins C dx fs)/\fs.lookup m=none/\
 t σ k λvs l=>sp (x::(vs++d)) l Q E
def NU(C:Addr)(sp:Sp)(d:List V)(E:XK)(t:TA):TE:=λσ H Q=>t σ H λvs k=>∀x dx,k x=none->k dx=none->dx≠x ->
 sp (.ref x::(vs++d)) (upd (upd k dx (.own x)) x (.ins C dx [])) (λv l=>v = .non/\Q (.ref x) l) E
def Binds(K:aaf)(fd:ab4)(ps:List Str)(ds:List Ad):Prop:=
 ∀(s:GT) (us:List Ad),K.In s.heap->(us++ds).length=ps.length->agR s fd ⟨us,[]⟩ (ps.zip (us++ds))
def Binds.all{fd:ab4}(h:∀us:List Ad,us.length=ps.length->adA fd ⟨us,[]⟩=pure (ps.zip us)):Binds K fd ps []:=λs us _ d=>by
 rw[aa0]at d⊢;exact .of_eq (h us d)
def jH(CX:CXT)(X:Cx)(E:XK):Prop:=∀(pins:List (Addr×Obj)) (σ:St) (H:Hp) (s:GT) (e:Ad) (d:GT),Inv X pins σ H s->CX X.stack H s E e d->X.xe e d
section
variable {X:Cx}{CX:CXT}{k:Nat}{f C:Addr}{fd:ab4}{ps:List Str}{sp:Sp}{dvs:List V}{ds:List Ad}{E:XK}{x m:Str}{p pos apos:Pos}{e o:Expr}{es:List Expr}{ta:TE}{t:TA}
theorem Ae{s:GT}{Q:VK}(F:FnOk X.prog X.w X.K X.mg X.base CX k f fd ps sp)(n:Room k X.A)(z:Binds X.K fd ps ds)(hd:Vals dvs ds)(q:jH CX X E)
  (I:Inv X pins σ H s) (r:Vals vs us) (h:sp (vs++dvs) H Q E):wpAny (model X.prog X.w) X.A (call (.ref f) us) (EP X pins σ Q) X.xe s:=by
 have l:=r.append hd;have y:(us++ds).length=ps.length:=by rw[<-l.length];exact F.len _ _ _ _ h
 refine wpAny_call (ad1 (F.run X.A X.stack s H _ _ _ Q E n I.env0 (z s us I.kIn y) l h) λr B d=>?_)
 cases r with
 |error e=>exact q pins σ H s e B I d
 |ok fl=>
  cases fl with
  |ret u=>exact I.after d
  |next=>exact acq d
  |brk=>exact acq d
  |cont=>exact acq d
theorem Jo(F:FnOk X.prog X.w X.K X.mg X.base CX k f fd ps sp)(G:Room k X.A)(J:Gl X x)(D:X.mg x=some (.ref f))(hk:abP X.K (.ref f)=true)(L:Binds X.K fd ps ds)(hd:Vals dvs ds)(z:jH CX X E)
  (B:PA X (e::es) t) (l:(x==("__debug__" : Str))=false:=by decide) (y:aag (e::es) X.env=(false,eval e X.env)::aag es X.env:=by rfl) (d:(abD pos (aag es X.env)).any (·.1)=false:=by rfl) :
  PE X (.Call (.Name x p) (e::es) [] pos) (OX sp dvs E t):=by
 intro pins s σ H Q I h;refine acy (yR I J D ?_ l);refine aeS I.ok.mod.kin hk (thn (B pos pins s σ H _ I h) λus s1 ⟨vs,O,n,r,q⟩=>⟨n.kIn,?_⟩) y d;exact Ae F G L hd z n r q
theorem JZ(L:PE X o ta)(c:Cls X.K C)(z:Meth X.K C m f)(F:FnOk X.prog X.w X.K X.mg X.base CX k f fd ps sp)(U:Room k X.A)(V:Binds X.K fd ps ds)(hd:Vals dvs ds)(R:jH CX X E)(S:PA X (e::es) t)
  (n:aag (e::es) X.env=(false,eval e X.env)::aag es X.env:=by rfl) (d:(abD pos (aag es X.env)).any (·.1)=false:=by rfl)
  (J:eval (.Call (.Attribute o m apos) (e::es) [] pos) X.env=(do
   let ov <- eval o X.env
   acI apos.atName
   let (f,first) <- adN [ov] (aee ov m pl)
   af5 pos f first (abD pos (aag (e::es) X.env)) (adB pos (acw [] X.env))):=by rfl) :
  PE X (.Call (.Attribute o m apos) (e::es) [] pos) (Je C m sp dvs E ta t):=by
 intro pins s σ H Q I h;refine afX (pl:=pl) (thn (L pins s σ H _ I h) λu s1 ⟨x,G,B,O,a,dx,fs,ex,D,l,q⟩=>?_) J;subst ex;obtain rfl:u=abw a:=O;refine nh B D c z l ?_;refine aeS (first:=[.ref a]) (h₀:=X.base) I.ok.mod.kin z.kp (thn (S pos pins s1 σ G _ B q) λus s2 ⟨vs,W,y,r,T⟩=>⟨y.kIn,?_⟩) n d;exact Ae (us:=.ref a::us) (vs:=.ref a::vs) F U V hd R y (.cons rfl r) T
theorem DW(B:PE X o ta)(c:Cls X.K C)(n:Meth X.K C m f)(F:FnOk X.prog X.w X.K X.mg X.base CX k f fd ps sp)(J:Room k X.A)(L:Binds X.K fd ps ds)(hd:Vals dvs ds)(G:jH CX X E)
  (z:eval (.Call (.Attribute o m apos) [] [] pos) X.env=(do
   let ov <- eval o X.env
   acI apos.atName
   let (f,first) <- adN [ov] (aee ov m pl)
   af5 pos f first (abD pos (aag [] X.env)) (adB pos (acw [] X.env))):=by rfl) :
  PE X (.Call (.Attribute o m apos) [] [] pos) (Je C m sp dvs E ta tNil):=by
 intro pins s σ H Q I h;refine afX (pl:=pl) (thn (B pins s σ H _ I h) λu s1 ⟨x,O,d,D,a,dx,fs,ex,y,l,q⟩=>?_) z;subst ex;obtain rfl:u=abw a:=D;refine nh d y c n l ?_;exact PySem.W.callWith_K0 (first:=[.ref a]) d.kIn n.kp (Ae (us:=[.ref a]) (vs:=[.ref a]) F J L hd G d (.cons rfl .nil) q)
structure Mk(K:aaf)(C f:Addr):Prop where
 makes:afR K C=true
 init:abp K (.ref C) "__init__" = some (some (.ref f))
 fn:aeD K (.ref f)=true
 kp:abP K (.ref C)=true
theorem CW{s:GT}{Q:VK}(M:Mk X.K C f)(F:FnOk X.prog X.w X.K X.mg X.base CX k f fd ps sp)(O:Room (k+1) X.A)(S:Binds X.K fd ps ds)(hd:Vals dvs ds)
  (B:jH CX X E) (I:Inv X pins σ H s) (r:Vals vs us)
  (h:∀x dx,H x=none->H dx=none->dx≠x->sp (.ref x::(vs++dvs)) (upd (upd H dx (.own x)) x (.ins C dx [])) (λv y=>v = .non/\Q (.ref x) y) E) :
  wpAny (model X.prog X.w) X.A (call (.ref C) us) (EP X pins σ Q) X.xe s:=by
 have n:=h (s.heap.objs.size+1) s.heap.objs.size (I.hok.fresh (afa _)) (I.hok.fresh (aab _)) (aa3 (abA _));have l:=Inv.made (C:=C) I;have q:Vals (V.ref (s.heap.objs.size+1)::(vs++dvs)) (abw (s.heap.objs.size+1)::(us++ds)):=.cons rfl (r.append hd);have D:(abw (s.heap.objs.size+1)::us++ds).length=ps.length:=by
  have e:=q.length;rw[F.len _ _ _ _ n]at e;exact e.symm
 refine wpAny_call (C6 (f:=f) I.kIn M.makes M.init (beq_iff_eq.mp M.fn) (ad1 (F.run _ X.stack _ _ ⟨abw (s.heap.objs.size+1)::us,[]⟩ (abw (s.heap.objs.size+1)::(us++ds)) _ _ E (O.make C us [])
  (l.env0.make C us []) (S _ (abw (s.heap.objs.size+1)::us) l.kIn D) q n) λr T d=>?_))
 cases r with
 |error e=>exact B pins σ _ _ e T l d
 | ok fl=>
  cases fl with
  |ret u=>
   let⟨v,G,J,R,L,z⟩:=l.after d;subst L;exact⟨R,⟨V.ref (s.heap.objs.size+1),G,J,rfl,z⟩⟩
  |next=>exact acq d
  |brk=>exact acq d
  |cont=>exact acq d
theorem JS(M:Mk X.K C f)(F:FnOk X.prog X.w X.K X.mg X.base CX k f fd ps sp)(G:Room (k+1) X.A)(J:Gl X x)(D:X.mg x=some (.ref C))(L:Binds X.K fd ps ds)(hd:Vals dvs ds)(z:jH CX X E)
  (B:PA X (e::es) t) (l:(x==("__debug__" : Str))=false:=by decide) (y:aag (e::es) X.env=(false,eval e X.env)::aag es X.env:=by rfl) (d:(abD pos (aag es X.env)).any (·.1)=false:=by rfl) :
  PE X (.Call (.Name x p) (e::es) [] pos) (NU C sp dvs E t):=by
 intro pins s σ H Q I h;refine acy (yR I J D ?_ l);refine aeS (h₀:=X.base) I.ok.mod.kin M.kp (thn (B pos pins s σ H _ I h) λus s1 ⟨vs,O,n,r,q⟩=>⟨n.kIn,?_⟩) y d;exact CW M F G L hd z n r q
end
structure ak(N P:List Str)(sc:Scope):Prop where
 kind:sc.kind = .function
 co:sc.isCoroutine=false
 gen:sc.isGenerator=false
 nd:N.Nodup
 pre:N.take P.length=P
 par:∀x∈P,sc.names.lookup x=some .local\/sc.names.lookup x=some .cell
 nofree:∀y∈sc.names,y.2≠.free
theorem r9{k:Str->Option aeo}{x:Str}:∀{binds:List (Str×Ad)}{m:Str->Option Ad},(∀v,(x,v)∉binds)->bindL k binds m x=m x
 |[],_,_=>rfl
 | (n,v)::r,m,h=>by
  unfold bindL;rw[r9 λw d=>h w (aad _ d)];split
  .have:x≠n:=by rintro rfl;exact h v aac
   simp[this]
  .rfl
theorem qH{k:Str->Option aeo}{x:Str}:∀{binds:List (Str×Ad)}{m:Str->Option Ad},(∀v,(x,v)∉binds)->bindC k binds m x=m x
 |[],_,_=>rfl
 | (n,v)::r,m,h=>by
  unfold bindC;rw[qH λw d=>h w (aad _ d)];split
  .rfl
  .have:x≠n:=by rintro rfl;exact h v aac
   simp[this]
theorem rH{k:Str->Option aeo}{x:Str}{v:Ad}:∀{P:List Str}{vs:List Ad}{i:Nat}{m:Str->Option Ad},P.Nodup->P[i]?=some x->vs[i]?=some v->k x=some .local ->
  bindL k (P.zip vs) m x=some v
 |[],_,_,_,_,h,_,_=>by simp at h
 |_::_,[],_,_,_,_,h,_=>by simp at h
 |p::P,w::vs,0,m,nd,h1,h2,hk=>by
  simp at h1 h2;subst h1;subst h2;show bindL k ((p,w)::P.zip vs) m p=_;unfold bindL;rw[r9 λv d=>(abd.mp nd).1 (afS d).1,if_pos hk];simp
 |p::P,w::vs,i+1,m,nd,h1,h2,hk=>by
  unfold bindL;exact rH (abd.mp nd).2 ‹_› ‹_› hk
theorem qx{k:Str->Option aeo}{x:Str}{v:Ad}:∀{P:List Str}{vs:List Ad}{i:Nat}{m:Str->Option Ad},P.Nodup->P[i]?=some x->vs[i]?=some v->k x≠some .local ->
  bindC k (P.zip vs) m x=some v
 |[],_,_,_,_,h,_,_=>by simp at h
 |_::_,[],_,_,_,_,h,_=>by simp at h
 |p::P,w::vs,0,m,nd,h1,h2,hk=>by
  simp at h1 h2;subst h1;subst h2;show bindC k (_::P.zip vs) m p=_;unfold bindC;rw[qH λv d=>(abd.mp nd).1 (afS d).1,if_neg hk];simp
 |p::P,w::vs,i+1,m,nd,h1,h2,hk=>by
  unfold bindC;exact qx (abd.mp nd).2 ‹_› ‹_› hk
def start(N:List Str)(vs:List V):St:=vs.map some++aas (N.length-vs.length) none
def cxOf(CX:CXT)(P:aaI)(w:World)(K:aaf)(mg:Str->Option Ad)(base:aaW)(N:List Str)(q:Str)(scope:Scope)(f:Addr)(k:Ad)(A:aa8)(outer:List Env)(s:GT)(H:Hp)(E:XK):Cx where
 prog:=P
 w:=w
 K:=K
 mg:=mg
 base:=base
 A:=A.deeper (ad2 q scope s.heap.objs.size f k)
 N:=N
 s₀:=s
 H₀:=H
 env:=ad2 q scope s.heap.objs.size f k
 outer:=outer
 stack:=ad2 q scope s.heap.objs.size f k::outer
 ex:=[]
 calm:=true
 fn:=λ_=>true
 pn:=[]
 xe:=λe m=>wpAny (model P w) (A.deeper (ad2 q scope s.heap.objs.size f k)) (leaving (ad2 q scope s.heap.objs.size f k) e) (λ_ d=>CX outer H s E e d) (λl d=>CX outer H s E l d) m
def uH{sc:Scope}{n:Nat}(h:sc.names.lookup x=some .cell):∃c,(cellsFrom n sc.names []).lookup x=some c:=by
 have q:=afG sc.names n [] (.inl h);exact afi.mp q
theorem AC{CX:CXT}{base:aaW}{d:Str}{f:Addr}{J:Ad}{s s1:GT}{E:XK}
  (S:ak N ps scope) (hd:A.handled=none) (m:Env0 P w K mg base A outer s H) (U:vs.length=ps.length) (r:Vals vs us)
  (x:InCallC s s.heap.objs.size (bindL (ad2 d scope s.heap.objs.size f J).kindOf (ps.zip us) λ_=>none) (cellsFrom (s.heap.objs.size+1) scope.names []) (bindC (ad2 d scope s.heap.objs.size f J).kindOf (ps.zip us) λ_=>none) s1) :
  Inv (cxOf CX P w K mg base N d scope f J A outer s H E) [] (start N vs) H s1:=by
 have O:ps.length≤N.length:=by have:=congrArg adh S.pre;rw[aau]at this;omega
 let⟨I,W,rfl,hk⟩:=x.done;have t:∀b:Addr,b∉(cxOf CX P w K mg base N d scope f J A outer s H E).ex:=λb z=>absurd (show b∈([]:List Addr)from z) (by simp);refine⟨⟨m.mod,S.kind,rfl,rfl,aab _,λy z c I l=>?_,λy B=>?_,λy c _ h=>?_,λ_=>hd,aa8.frames_deeper m.frames,.inr ⟨rfl,rfl⟩,λb z=>absurd z (t b),m.bs,m.bsz,λb _ _=>t b,λb z=>absurd z (t b),m.funs,m.frf⟩,
  rfl,m.bare,Un.kept hk,⟨_,x.toInCall.ns,λi y v I l V=>?_⟩,λy c h=>⟨_,x.cell y c h⟩,m.hok.fresh (aab _),λy c h=>?_,λp D=>absurd (show p∈([]:List (Addr×Obj))from D) (by simp),m.hok.kept hk,?_⟩
 .exact name_of_addr x.apart (acs I) (acs l)
 .rcases B with B|B
  .exact uH B
  .exact absurd rfl (S.nofree _ (acs B))
 .exact abV (x.above y c (acs h))
 .have G:i<vs.length:=by
   unfold start at l
   by_cases G:i<vs.length
   .exact G
   .rw[aaN (by simpa using G)]at l;rw[acn]at l
    split at l<;>cases l
  have R:vs[i]?=some v:=by
   unfold start at l;rw[aaE (by simpa using G),aae]at l
   cases e:vs[i]? with
   |none=>rw[e]at l;cases l
   |some a=>rw[e]at l;cases l;rfl
  let⟨u,L,T⟩:=r.get R;have D:ps[i]?=some y:=by
   rw[<-S.pre,List.getElem?_take_of_lt (by omega)];exact I
  have F:ps.Nodup:=by rw[<-S.pre];exact S.nd.sublist (List.take_sublist _ _)
  refine⟨u,T,?_⟩;rcases S.par y (Io D)with k|k
  .exact .inl ⟨k,rH F D L k⟩
  .obtain⟨c,e⟩:=uH (n:=s.heap.objs.size+1) k;refine .inr ⟨.inl k,c,e,?_⟩;have q:=x.cell y c e;rw[qx F D L (by show scope.names.lookup y≠_;rw[k];decide)]at q;exact q
 .exact m.hok.fresh (abV (x.above y c (acs h)))
 .unfold start;show _=N.length;rw[aam,lD,acD];omega
theorem SW{CX:CXT}{base:aaW}{k:Nat}{f:Addr}{name d:Str}{p:Arguments}{dV kV L pm l ct oc:Ad}{an od:Option Addr}
  {W:Array (Option Ad)}{sp:Sp} (lk:K.lookup f=some ⟨oc,od,.func (abl name d p body scope dV kV L pm an l ct),W⟩) (T:adi K l d=true) (S:ak N ps scope)
  (len:∀vs H Q E,sp vs H Q E->vs.length=ps.length)
  (D:∀(A:aa8) (outer:List Env) (s:GT) (H:Hp) (vs:List V) (Q:VK) (E:XK),Room k (A.deeper (ad2 d scope s.heap.objs.size f l))->sp vs H Q E ->
   ∃t,PSs (cxOf CX P w K mg base N d scope f l A outer s H E) body t/\t {nx:=λ_ z=>Q .non z,rt:=Q} (start N vs) H) :
  FnOk P w K mg base CX (k+1) f (abl name d p body scope dV kV L pm an l ct) ps sp:=by
 refine⟨len,λA outer s H args us vs Q E U O hb r R=>?_⟩;have hl:=len _ _ _ _ R;have KX:K.In s.heap:=O.mod.kin.keeps λb o e=>(O.bs b o e).1;have Y:s.heap.NoLimit:=O.mod.nolimit.keeps λb o e=>(O.bs b o e).1;have B:∀y∈ps.zip us,scope.names.lookup y.1=some .local\/(scope.names.lookup y.1=some .cell/\((cellsFrom (s.heap.objs.size+1) scope.names []).lookup y.1).isSome=true):=by
  intro⟨n,v⟩ hy;rcases S.par n (afS hy).1 with q|q
  .exact .inl q
  .exact .inr ⟨q,afG _ _ _ (.inl q)⟩
 refine codeAny_call_function U.depth (KX _ _ lk) rfl S.co S.gen rfl (PySem.W.codeRec_of KX T) (hb _ _ _ _ ?_);refine wpAny_newFunctionEnv_cells S.kind B λenv he s1 x=>?_;subst he;refine⟨Y.keeps x.toInCall.keep,codeAny_func ?_⟩;let⟨t,ht,hq⟩:=D A outer s H vs Q E (U.deeper _) R;have I:Inv (cxOf CX P w K mg base N d scope f l A outer s H E) [] (start N vs) H s1:=AC S U.hd O hl r x;refine acb (ht [] s1 (start N vs) H _ I hq) (λfl s' F=>?_) λe s' F=>F;have G:∀{m:St}{z:Hp}{v:V}{u:Ad},Inv (cxOf CX P w K mg base N d scope f l A outer s H E) [] m z s'->RelV v u->Q v z->CE outer P w H s Q u s':=
  λ{m z v u} J Z q=>⟨v,z,J.os,J.bare,J.base,J.hok,Z,q⟩
 cases fl with
 |ret u=>
  let⟨v,m,z,J,Z,q⟩:=F;exact G J Z q
 |next=>
  let⟨m,z,J,q⟩:=F;exact G (v:=V.non) (u:=agC) J rfl q
 |brk=>
  let⟨_,_,_,q⟩:=F;exact acq q
 |cont=>
  let⟨_,_,_,q⟩:=F;exact acq q
section
variable {X:Cx}{x:Str}{p pos:Pos}{e:Expr}{a:List Expr}{t:TA}{id T:String}{r:List V->Hp->VK->Prop}
def tCB(r:List V->Hp->VK->Prop)(t:TA):TE:=λσ H Q=>t σ H λvs d=>r vs d Q
theorem CP(B:fe X (.builtin id) r)(G:Gl X x)(z:X.mg x=none)(F:abi x=some (.builtin id))(n:PA X (e::a) t)(y:x ≠ "__name__":=by decide)(k:(x==("__debug__" : Str))=false:=by decide)
  (m:aag (e::a) X.env=(false,eval e X.env)::aag a X.env:=by rfl) (d:(abD pos (aag a X.env)).any (·.1)=false:=by rfl):PE X (.Call (.Name x p) (e::a) [] pos) (tCB r t):=by
 intro pins s σ H Q I h;refine acy (jE I G z F ?_ y k);exact aef (thn (n pos pins s σ H _ I h)<|by intro us s1 ⟨vs,l,D,r1,q⟩;exact B pins s1 σ l vs us Q D r1 q) m d
theorem Bc(B:fe X (.type T) r)(G:Gl X x)(z:X.mg x=none)(F:abi x=some (.type T))(n:PA X (e::a) t)(y:x ≠ "__name__":=by decide)(k:(x==("__debug__" : Str))=false:=by decide)
  (m:aag (e::a) X.env=(false,eval e X.env)::aag a X.env:=by rfl) (d:(abD pos (aag a X.env)).any (·.1)=false:=by rfl):PE X (.Call (.Name x p) (e::a) [] pos) (tCB r t):=by
 intro pins s σ H Q I h;refine acy (jE I G z F ?_ y k);exact ab1 (thn (n pos pins s σ H _ I h) λus s1 ⟨vs,l,D,r1,q⟩=>B pins s1 σ l vs us Q D r1 q) m d
end
end L2
namespace HT
open PySem PyProof.Rows
variable{Q:Ad->GT->Prop}{hi lo:Option Int}
section
variable {prog:aaI}{w:World}{A:aa8}{E:Ad->GT->Prop}{s:GT}
theorem cat_tup{t b:Addr}{vs a:List Ad}(q:IsTup s.heap t vs.toArray)(x:IsTup s.heap b a.toArray)(v:vs≠[])
  (u:a=[]->Q (.ref t) s) (r:a≠[]->Q (.ref s.heap.objs.size) {s with heap:=s.heap.push {cls:=.type "tuple",data:=.seq (vs++a).toArray} })
  (hsz:vs.length+a.length≤aaj):wpAny (model prog w) A (acl .Add (.ref t) (.ref b)) Q E s:=by
 let⟨⟨cls,m,data,o⟩,i,p,n,hd⟩:=id q;let⟨⟨l,f,j,c⟩,h,d,n2,g⟩:=id x;simp only at p hd d g;subst p hd d g;have e:vs.toArray++a.toArray=(vs++a).toArray:=by simp
 by_cases k:a=[]
 .exact afH ⟨_,i,rfl⟩ ⟨_,h,rfl⟩ afu agw ad3 adX (adC _ _)
   (tuple_addW1 t b vs.toArray a.toArray n n2 m f o c (by simpa) (by simp[k])) ⟨i,h,u k⟩
 .refine afH ⟨_,i,rfl⟩ ⟨_,h,rfl⟩ afu agw ad3 adX (adC _ _)
   (tuple_addW2 t b vs.toArray a.toArray n n2 m f o c (by simpa using v) (by simpa) ‹_›) ⟨i,h,?_⟩
  rw[e];exact r k
def sIx(n d:Nat):Option Int->Nat
 |none=>d
 |some v=>if v<0 then(v+(n:Int)).toNat else min v.toNat n
def sIx_none(n d:Nat):sIx n d none=d:=rfl
def sIx_nat(n d k:Nat):sIx n d (some (k:Int))=min k n:=rfl
theorem Nq(n d:Nat)(hd:d≤n)(o:Option Int):sIx n d o≤n:=by
 cases o with
 |none=>exact hd
 |some v=>
  show(if v<0 then(v+n).toNat else min v.toNat n)≤n
  by_cases h:v<0
  .grind
  .rw[if_neg h];exact adn _ _
theorem xw(v:Int)(n d:Nat):(if v<0 then max (v+(n:Int)) 0 else min v (n:Int))=((sIx n d (some v):Nat):Int):=by
 show _=(((if v<0 then(v+_).toNat else min v.toNat n):Nat):Int)
 grind
theorem wg(lo hi:Option Int)(n:Nat):ae3 lo hi 1 (n:Int)=(((sIx n 0 lo:Nat):Int),((sIx n n hi:Nat):Int)):=by
 refine ahl ?_ ?_
 .cases lo with
  |none=>rfl
  |some v=>exact xw v n 0
 .cases hi with
  |none=>rfl
  |some v=>exact xw v n n
theorem wJ(i j:Nat):adq (i:Int) (j:Int) 1=j-i:=by
 unfold adq
 grind
theorem nR{v:Ad}{o:Option Int}{Q:Option Int->GT->Prop}(p:afI v o)(h:Q o s):wpAny (model prog w) A (adm.Slice.slicePartIndex v) Q E s:=by
 cases p with
 |none=>exact slicePart_none h
 |int i t=>exact slicePart_int h
def fE{sl:Addr}{vl v:Ad}{n:Nat}{Q:Int×Int×Nat->GT->Prop}(c:s.heap.IsSliceOf sl vl v .none)(pl:afI vl lo)(p:afI v hi)
  (h:Q (((sIx n 0 lo:Nat):Int),1,sIx n n hi-sIx n 0 lo) s):wpAny (model prog w) A (adm.Slice.sliceApplied (.ref sl) (pure (n:Int))) Q E s:=by
 let⟨os,b,d,a⟩:=id c;refine gT (gT (abG b a (x:=vl) rfl (gT (abG b a (x:=v) rfl (gT (abG b a (x:=.none) rfl (LD ?_)))))));refine gT (slicePart_none ?_);refine gT (nR pl (gT (nR p (gT (LD ?_)))));show wpAny _ _ (match ae3 lo hi 1 (n:Int)with|(lo,hi)=>pure (lo,(1:Int),adq lo hi 1)) _ _ s;rw[wg lo hi n];show wpAny _ _ (pure _) _ _ s;rw[wJ];exact LD h
def C9(xs:Array Ad)(i k:Nat):((aat k).filterMap λ(m:Nat)=>xs[((i:Int)+(m:Int)*1).toNat]?).toArray=((xs.toList.drop i).take k).toArray:=by
 have e:(λ(m:Nat)=>xs[(i+(m:Int)*1).toNat]?)=λm=>xs[i+m]?:=by
  funext m
  have:(i+(m:Int)*1).toNat=i+m:=by omega
  rw[this]
 rw[e];have:=pick_run xs i k;rw[agD]at this;have a:(_∘λx=>i+x)=λm=>xs[i+m]?:=rfl;rw[a]at this;rw[this]
theorem getItem_tuple_cut{t sl:Addr}{items:Array Ad}{vl v:Ad}(b:IsTup s.heap t items)(g:s.heap.IsSliceOf sl vl v .none)(pl:afI vl lo)(p:afI v hi)
  (j:¬(sIx items.size 0 lo=0/\sIx items.size items.size hi=items.size))
  (h:Q (.ref s.heap.objs.size) {s with heap:=s.heap.push {cls:=.type "tuple",data:=.seq ((items.toList.drop (sIx items.size 0 lo)).take (sIx items.size items.size hi-sIx items.size 0 lo)).toArray} })
  (hsz:items.size≤aaj):wpAny (model prog w) A (aek (.ref t) (.ref sl)) Q E s:=by
 have a:sizeOk (.seq ((items.toList.drop (sIx items.size 0 lo)).take (sIx items.size items.size hi-sIx items.size 0 lo)).toArray):=by
  show((items.toList.drop (sIx items.size 0 lo)).take (sIx items.size items.size hi-sIx items.size 0 lo)).toArray.size≤aaj;rw[aaG,aau,acT,act];omega
 have k:sIx items.size items.size hi≤items.size:=Nq _ _ (aab _) hi;let⟨os,e,f,i⟩:=id g;have c:s.TypeIs (.ref sl) "slice":=⟨os,e,f⟩;unfold aek
 try with_reducible refine ach ?_
 first|refine gT (LD ?_)|skip
 refine gT (afb b.typeIs (by decide) ?_);refine gT (aa9 (name:=aci "__getitem__") b.typeIs abn
  (abk abn b.typeIs entry_tuple_getitem ?_ (args_tuple_getitem _ _)))
 show wpAny _ _ (adj (.ref t) >>= _) _ _ s;refine gT (agx b ?_);refine gT (acW c ?_);rw[if_pos (by decide)];refine gT (fE g pl p ?_);have d:¬((((sIx items.size 0 lo:Nat):Int)==0&&(1:Int)==1&&(sIx items.size items.size hi-sIx items.size 0 lo)==items.size)=true):=by
  grind
 show wpAny _ _ (if (((sIx items.size 0 lo:Nat):Int)==0&&(1:Int)==1&&(sIx items.size items.size hi-sIx items.size 0 lo)==items.size)=true then _ else _) _ _ s;rw[if_neg d,C9]
 first
  |exact gT (m:=abR _) (abg (LD ⟨_,rfl,LD h⟩) a)
  |exact gT (m:=abR _) (abg (gT (LD (LD ⟨_,rfl,LD h⟩))) a)
  |exact gT (gT (m:=abR _) (abg (LD (LD ⟨_,rfl,LD h⟩)) a))
  |exact gT (gT (m:=abR _) (abg (LD ⟨_,rfl,LD h⟩) a))
end
end HT
namespace L2
open PySem PySem.Spec PyProof.Rows
variable{n:Nat}{α:Type}{its:List Ad}
abbrev TO:=St->Hp->(Option Int->Hp->Prop)->Prop
def PO(X:Cx)(e:Option Expr)(t:TO):Prop:=
 ∀(p:List (Addr×Obj)) (s:GT) (a:St) (H:Hp) (Q:Option Int->Hp->Prop),Inv X p a H s->t a H Q ->
  wpAny (model X.prog X.w) X.A (evalPart e X.env) (λu c=>∃o b,Inv X p a b c/\afI u o/\Q o b) X.xe s
def Ju:TO:=λ_ H Q=>Q none H
def RC(t:TE):TO:=λb H Q=>t b H λx a=>∃i,x = .int i/\Q (some i) a
theorem eF{ns:List Int}:∀{us:List Ad},Vals (ns.map V.int) us->aeF us ns:=by
 induction ns with
 |nil=>intro us r;cases r;exact .nil
 | cons n ns i=>
  intro us r
  cases r with
  |cons r1 a=>
   let⟨t,e⟩:=r1;subst e;exact .cons n t (i a)
section
variable {X:Cx}{e:Expr}{f:TE}{c d:Option Expr}{tl g:TO}{pos j:Pos}
def Jg:PO X none Ju:=by
 intro p s a H Q I h;exact LD ⟨none,H,I,.none,h⟩
def Jl(h:PE X e f):PO X (some e) (RC f):=by
 intro p s l H Q I b;refine thn (h p s l H _ I b) λu s1 ⟨x,k,a,r1,m⟩=>?_;let⟨i,rfl,q⟩:=m;let⟨t,rfl⟩:=r1;exact⟨some i,k,a,.int i t,q⟩
def SlR(X:Cx)(r:V->Option Int->Option Int->Hp->VK->Prop):Prop:=
 ∀(p:List (Addr×Obj)) (s:GT) (h:St) (H:Hp) (x:V) (v vl a:Ad) (c d:Option Int) (b:Addr) (Q:VK),Inv X p h H s->RelV x v->s.heap.IsSliceOf b vl a .none->afI vl c->afI a d->r x c d H Q ->
  ∃T id,typeLookup (.type T) "__getitem__" = pure (some (.builtin id))/\s.TypeIs v T/\wpAny (model X.prog X.w) X.A (aek v (.ref b)) (EP X p h Q) X.xe s
def tSl(r:V->Option Int->Option Int->Hp->VK->Prop)(f:TE)(tl g:TO):TE:=λa H Q=>f a H λx i=>tl a i λl b=>g a b λu h=>r x l u h Q
def C8{r:V->Option Int->Option Int->Hp->VK->Prop}(D:SlR X r)(J:PE X e f)(A:PO X c tl)(F:PO X d g):PE X (.Subscript e (.Slice c d none j) pos) (tSl r f tl g):=by
 intro p s i H Q I h;refine agE (thn (J p s i H _ I h) λv s1 ⟨x,t,L,r1,G⟩=>?_);refine wpAny_Slice (thn (A p s1 i t _ L G) λvl s2 ⟨l,o,w,N,K⟩=>thn (F p s2 i o _ w K) λk a ⟨u,m,C,B,y⟩=>?_);refine LD ?_;have E:Inv X p i m {a with heap:=a.heap.push {cls:=.type "slice",data:=.fields #[vl,k,.none]} }:=C.kept (t':=a.toks) λb O q=>Ld _ q;let⟨T,id,hT,z,M⟩:=D p {a with heap:=a.heap.push {cls:=.type "slice",data:=.fields #[vl,k,.none]} } i m x v vl k l u a.heap.objs.size Q E r1 (aaW.IsSliceOf.new ..) N B y;exact tail_any z hT M rfl
def cutV(xs:List V)(c d:Option Int):List V:=(xs.drop (HT.sIx xs.length 0 c)).take (HT.sIx xs.length xs.length d-HT.sIx xs.length 0 c)
def lr(xs:List V)(c d:Option Int):(cutV xs c d).length≤xs.length:=by
 unfold cutV;rw[aau,acT];omega
def rSlT(K:aaf):V->Option Int->Option Int->Hp->VK->Prop:=λx c d H Q=>∃a b,x = .ref a/\SqT K H a b/\
 ¬(HT.sIx b.length 0 c=0/\HT.sIx b.length b.length d=b.length)/\∀p,H p=none->Q (.ref p) (upd H p (.tup (cutV b c d)))
theorem Oj:SlR X (rSlT X.K):=by
 intro p s C H x v vl D c d B Q I o y z u h;let⟨a,m,rfl,t,w,q⟩:=h;cases o;let⟨its,r,k,l⟩:=I.tuple t;have i:its.toArray.size=m.length:=by rw[aaG];exact r.length.symm
 refine⟨"tuple",_,abn.lookup,k.typeIs,?_⟩;refine HT.getItem_tuple_cut k y z u (by rw[i];exact w) ?_ (by rw[i];exact l);rw[i];refine⟨.ref s.heap.objs.size,_,I.laid (t':=s.toks) (λb A q=>Ld _ q) (aab _) ?_,rfl,q _ (I.hok.fresh (aab _))⟩;exact⟨aaD (lr m c d) l,_,(r.drop _).take _,PlainT.new _ _⟩
def UB(K:aaf):R2:=λx y H Q=>∃a b i h,x = .ref a/\y = .ref b/\SqT K H a i/\SqT K H b h/\i≠[]/\i.length+h.length≤aaj/\
 (h=[]->Q (.ref a) H)/\(h≠[]->∀p,H p=none->Q (.ref p) (upd H p (.tup (i++h))))
theorem Vals.nil_iff{xs:List V}{us:List Ad}(r:Vals xs us):us=[]↔xs=[]:=by
 cases r with
 |nil=>simp
 |cons _ _=>simp
theorem Gq:OpR X (acl .Add) (UB X.K):=by
 intro p s J H x y v u Q I m B h;let⟨a,b,G,E,rfl,rfl,t,C,o,i,l,A⟩:=h;cases m;cases B;let⟨its,r1,D,_⟩:=I.tuple t;let⟨k,r,j,_⟩:=I.tuple C;refine HT.cat_tup D j (λz=>o (r1.nil_iff.mp z)) (λz=>⟨.ref a,H,I,rfl,l (r.nil_iff.mp z)⟩) (λz=>?_) (by rw[<-r1.length,<-r.length];exact i);refine⟨.ref s.heap.objs.size,_,I.laid (t':=s.toks) (λb F q=>Ld _ q) (aab _) ?_,rfl,A (λw=>z (r.nil_iff.mpr w)) _ (I.hok.fresh (aab _))⟩;exact⟨by rw[aam];exact i,_,r1.append r,PlainT.new _ _⟩
end
def ixN(n:Nat)(i:Int):Option Nat:=if 0≤i then(if i<n then some i.toNat else none)else if -(n:Int)≤i then some (i+n).toNat else none
def atI{α:Type}(xs:List α)(i:Int):Option α:=(ixN xs.length i).bind λj=>xs[j]?
theorem Gu{i:Int}{j:Nat}(h:ixN n i=some j):seqIndex? i n=some j/\j<n/\-(n:Int)≤i/\i<n:=by
 unfold ixN at h
 by_cases b:0≤i
 .rw[if_pos b]at h
  by_cases a:i<n
  .rw[if_pos a]at h;have e:=aaB h;exact⟨by rw[seqIndex_of b a,e],by omega,by omega,a⟩
  .simp_all
 .rw[if_neg b]at h
  by_cases a : -(n:Int)≤i
  .rw[if_pos a]at h;have e:=aaB h;exact⟨by rw[seqIndex_neg (by omega) a,e],by omega,a,by omega⟩
  .simp_all
theorem s9{xs:List α}{i:Int}{v:α}(h:atI xs i=some v):∃j,seqIndex? i xs.length=some j/\xs[j]?=some v/\j<xs.length/\-(xs.length:Int)≤i/\i<xs.length:=by
 unfold atI at h
 cases e:ixN xs.length i with
 |none=>rw[e]at h;cases h
 |some j=>
  rw[e]at h;let⟨a,c,b,d⟩:=Gu e;exact⟨j,a,h,c,b,d⟩
theorem aU{xs:List α}{j:Nat}{v:α}(h:xs[j]?=some v):atI xs (j:Int)=some v:=by
 have a:=(AD.mp h).1;have e:ixN xs.length j=some j:=by
  unfold ixN
  simp_all
 unfold atI;rw[e];exact h
def ku(b:Expr):Prop:=∀o i,af6 b false o i=operate [o,i] (aek o i)
def IxR(X:Cx)(r:R2):Prop:=
 ∀(b a:Expr) (p:List (Addr×Obj)) (s:GT) (c:St) (H:Hp) (x y:V) (v u:Ad) (Q:VK),Inv X p c H s->RelV x v->RelV y u->r x y H Q ->
  af6 a false v u=operate [v,u] (aek v u)->wpAny (model X.prog X.w) X.A (agy b a v u) (EP X p c Q) X.xe s
def MtR(X:Cx)(id:String)(r:V->List V->Hp->VK->Prop):Prop:=
 ∀(p:List (Addr×Obj)) (s:GT) (a:St) (H:Hp) (x:V) (b:List V) (v:Ad) (u:List Ad) (Q:VK),Inv X p a H s->RelV x v->Vals b u->r x b H Q ->
  wpAny (model X.prog X.w) X.A (call (.builtin id) (v::u)) (EP X p a Q) X.xe s
section
variable {X:Cx}{a b:Expr}{ta tb:TE}{pos:Pos}
def LR{r:R2}(g:IxR X r)(k:PE X a ta)(l:PE X b tb)(i:ku b):PE X (.Subscript a b pos) (tOp r ta tb):=by
 intro p s e H Q I h;exact agE (binT k l I h λv u s2 x y c d f j q=>g a b p s2 e c x y v u Q d f j q (i _ _))
def rIxL(K:aaf):R2:=λx y H Q=>∃p c i v,x = .ref p/\y = .int i/\SqL K H p c/\atI c i=some v/\Q v H
def rIxT(K:aaf):R2:=λx y H Q=>∃p c i v,x = .ref p/\y = .int i/\SqT K H p c/\atI c i=some v/\Q v H
def rIxS:R2:=λx y H Q=>∃z i c,x = .str z/\y = .int i/\z.length≤aaj/\atI z.cps.toList i=some c/\Q (.str ⟨#[c]⟩) H
theorem zr:IxR X (rIxL X.K):=by
 intro l g c s K H x y v u Q I E L h A;let⟨p,O,i,z,rfl,rfl,B,D,q⟩:=h;cases E;let⟨t,rfl⟩:=L;let⟨its,r,e,M⟩:=I.list B;let⟨j,d,F,P,C,J⟩:=s9 D;let⟨w,o,k⟩:=r.get F;have G:=r.length;have N:=qq;have f:EP X c K Q w s:=⟨z,H,I,k,q⟩
 by_cases m:0≤i
 .have hj:i.toNat=j:=by
   rw[seqIndex_of m J]at d;exact aaB d
  exact item_listR e.isList m (by omega) (by rw[hj];simpa using o) f A
 .have hj:(i+(its.toArray.size:Int)).toNat=j:=by
   rw[seqIndex_neg (by omega) C]at d;rw[aaG,<-G];exact aaB d
  exact afJ (x:=w) e.isList.typeIs afc.lookup
   (wpAny_getItem_list_neg e.isList (by omega) (by simp_all) (by omega) (by rw[hj];simpa using o) ⟨rfl,f⟩) A
theorem QC:IxR X (rIxT X.K):=by
 intro g d c s C H x y v u Q I o F h E;let⟨p,L,i,z,rfl,rfl,l,m,q⟩:=h;cases o;let⟨t,rfl⟩:=F;let⟨its,r,k,J⟩:=I.tuple l;let⟨j,D,A,M,G,N⟩:=s9 m;let⟨w,O,e⟩:=r.get A;have B:=r.length;have K:=qq;have f:EP X c C Q w s:=⟨z,H,I,e,q⟩;exact afJ k.typeIs slot_tuple_getitem.lookup
  (getItem_tuple k (by omega) (by omega) (by rw[aaG,<-B];exact D) (by simpa) ⟨rfl,f⟩) E
def Lr:IxR X rIxS:=by
 intro e d p s J H x y v u Q I r C h B;let⟨z,i,c,rfl,rfl,E,l,q⟩:=h;let⟨t,rfl⟩:=r;let⟨D,rfl⟩:=C;let⟨j,f,m,G,g,A⟩:=s9 l;have o:z.cps.toList.length=z.length:=by simp[Str.length]
 rw[o]at f g A;have F:=qq;exact tail_any (typeIs_str s z t) slot_str_getitem.lookup (getItem_str (by
  have k:decide (i < -(2^63:Int))=false:=decide_eq_false (by omega);have w:decide (i≥2^63)=false:=decide_eq_false (by omega);rw[k,w,Bool.or_false]) (by rw[f];simpa using m) ⟨.str ⟨#[c]⟩,H,I.tok _,⟨_,rfl⟩,q⟩) B
theorem sJ(l c:Option Int)(n:Nat):(adY l c none n).1=((HT.sIx n 0 l:Nat):Int)/\(adY l c none n).2.1=((HT.sIx n n c:Nat):Int)/\(adY l c none n).2.2=1:=by
 refine⟨?_,?_,rfl⟩
 .cases l with
  |none=>simp[adY,HT.sIx]
  |some i=>
   simp only[adY,HT.sIx,ag2,show(1:Int)>0 by decide,if_true]
   by_cases h:i<0
   .simp only[h,if_true]<;>omega
   .simp only[h,if_false]<;>omega
 .cases c with
  |none=>simp[adY,HT.sIx]
  |some i=>
   simp[adY,HT.sIx,ag2,show(1:Int)>0 by decide,if_true]
   by_cases h:i<0
   .simp only[h,if_true]<;>omega
   .simp only[h,if_false]<;>omega
def pp(its:List Ad)(l h:Option Int):ag3 its.toArray l h none=((its.drop (HT.sIx its.length 0 l)).take (HT.sIx its.length its.length h-HT.sIx its.length 0 l)).toArray:=by
 let⟨c,e,d⟩:=sJ l h its.toArray.size;unfold ag3;rw[c,e,d];simp only[sliceRange_one,pick_run]<;>rfl
def rSlL(K:aaf):V->Option Int->Option Int->Hp->VK->Prop:=λx l h H Q=>∃a c,x = .ref a/\SqL K H a c/\∀p,H p=none->Q (.ref p) (upd H p (.lst (cutV c l h)))
theorem Gy:SlR X (rSlL X.K):=by
 intro p s w H x v vl y m e u Q I g l o j h;let⟨a,k,rfl,i,q⟩:=h;cases g;let⟨its,r,d,f⟩:=I.list i;have c:=r.length;refine⟨"list",_,afc.lookup,d.isList.typeIs,?_⟩;refine afj d.isList l o j .none (by simp) ?_ (by grind);rw[pp,<-c];refine⟨.ref s.heap.objs.size,_,I.laid (t':=s.toks) (λb t q=>Ld _ q) (aab _) ?_,rfl,q _ (I.hok.fresh (aab _))⟩;exact⟨aaD (lr k m e) f,_,0,(r.drop _).take _,aao _ rfl⟩
theorem jM:fe X (.builtin "len") (λxs H Q=>∃p ys,xs=[.ref p]/\(SqL X.K H p ys\/SqT X.K H p ys)/\Q (.int ys.length) H):=by
 intro e s g H xs j Q I r h;let⟨p,ys,rfl,d,q⟩:=h;let⟨u,rfl,f⟩:=AU r;cases f;have i:=qq;rcases d with d|d
 .obtain⟨its,r',pl,hz⟩:=I.list d;have c:=r'.length;exact Calls.call_len_list pl.isList (by simp only[aaG]<;>omega) ⟨.int ys.length,H,I.tok _,⟨s.toks+1,by rw[aaG,c]⟩,q⟩
 .obtain⟨its,r',pl,hz⟩:=I.tuple d;have c:=r'.length;exact len_tuple pl (by simp only[aaG]<;>omega) ⟨.int ys.length,H,I.tok _,⟨s.toks+1,by rw[aaG,c]⟩,q⟩
def qy:fe X (.builtin "len") (λxs H Q=>∃z,xs=[.str z]/\z.length≤aaj/\Q (.int z.length) H):=by
 intro p s d H xs f Q I r h;let⟨z,rfl,c,q⟩:=h;let⟨u,rfl,t,rfl⟩:=AU r;have e:=qq;exact len_str (by omega) ⟨.int z.length,H,I.tok _,⟨_,rfl⟩,q⟩
theorem pH:fe X (.type "tuple") (λxs H Q=>∃p ys,xs=[.ref p]/\((SqL X.K H p ys/\∀l,H l=none->Q (.ref l) (upd H l (.tup ys)))\/(SqT X.K H p ys/\Q (.ref p) H))):=by
 intro d s m H xs t Q I r h;let⟨p,ys,rfl,h⟩:=h;let⟨u,rfl,k⟩:=AU r;cases k;rcases h with⟨c,q⟩|⟨c,q⟩
 .obtain⟨its,r',pl,hz⟩:=I.list c;have g:=r'.length;refine call_tuple_list pl.isList (λj kp=>?_) (by simp_all);have f:=I.kept (t':=s.toks) kp;have i:=
   f.laid (t':=s.toks) (λb o e=>Ld _ e) (aab _) (show ObjOk X.prog X.w _ _ _ (.tup ys)from⟨hz,its,r',PlainT.new _ _⟩)
  exact⟨.ref j.objs.size,_,i,rfl,q _ (f.hok.fresh (aab _))⟩
 .obtain⟨its,r',pl,hz⟩:=I.tuple c;exact call_tuple_same pl ⟨.ref p,H,I,rfl,q⟩
def tyV(K:aaf)(T:String)(x:V)(H:Hp):Prop:=match x with
 | .str _=>T = "str"
 | .int _=>T = "int"
 | .ref p=>(T = "list"/\∃c,SqL K H p c)\/(T = "tuple"/\∃c,SqT K H p c) \/
   (T = "dict"/\((∃k,H p=some (.dK k))\/∃k,H p=some (.dT k)))\/(T = "set"/\∃S n,H p=some (.set S n))
 |_=>False
theorem P9{d:List (Addr×Obj)}{l:St}{H:Hp}{s:GT}{T:String}{x:V}{v:Ad}(I:Inv X d l H s)(r:RelV x v)(ty:tyV X.K T x H) :
  s.TypeIs v T/\∀a,v = .ref a->∃g,s.heap.get? a=some g/\g.dict=none:=by
 cases x with
 |str z=>
  let⟨t,rfl⟩:=r
  cases (show T = "str" from ty)
  exact⟨typeIs_str s z t,λ_ e=>nomatch e⟩
 |int i=>
  let⟨t,rfl⟩:=r
  cases (show T = "int" from ty)
  exact⟨afK s i t,λ_ e=>nomatch e⟩
 | ref p=>
  cases r;rcases ty with⟨rfl,j,h⟩|⟨rfl,j,h⟩|⟨rfl,hk⟩|⟨rfl,S,n,hk⟩
  .obtain⟨its,_,pl,_⟩:=I.list h;refine⟨pl.isList.typeIs,λa e=>?_⟩;cases e;let⟨o,n,e,c,hd,_⟩:=pl;exact⟨o,e,hd⟩
  .obtain⟨its,_,⟨o,e0,hc,hd,_⟩,_⟩:=I.tupleP h;refine⟨⟨o,e0,hc⟩,λa e=>?_⟩;cases e;exact⟨o,e0,hd⟩
  .have z:∃o,s.heap.get? p=some o/\o.ExactDict:=by
    rcases hk with⟨k,hk⟩|⟨k,hk⟩
    .obtain⟨_,_,_,_,o,_,_,e,ex,_⟩:=I.hok p _ hk;exact⟨o,e,ex⟩
    .obtain⟨_,_,_,_,o,_,_,e,ex,_⟩:=I.hok p _ hk;exact⟨o,e,ex⟩
   let⟨o,e,ex⟩:=z;refine⟨⟨o,e,ex.1⟩,λa f=>?_⟩;cases f;exact⟨o,e,ex.2.1⟩
  .obtain⟨o,_,_,_,e,ex,_⟩:=I.hok p _ hk;refine⟨⟨o,e,ex.1⟩,λa f=>?_⟩;cases f;exact⟨o,e,ex.2.1⟩
 |_=>exact acq ty
def tBM(K:aaf)(T:String)(r:V->List V->Hp->VK->Prop)(to:TE)(t:TA):TE:=λd H Q=>to d H λx c=>tyV K T x c/\t d c λf e=>r x f e Q
variable {o e:Expr}{g:List Expr}{to:TE}{t:TA}{name:Str}{f d:Pos}{T id:String}{r:V->List V->Hp->VK->Prop}
theorem Lh(B:PlainAttrs T)(slot:Slot T name id)(l:typeOf (.builtin id)=pure (.type "method_descriptor"))(F:MtR X id r)(G:PE X o to)(D:PA X (e::g) t)
  (c:abQ o name X.env (eval o X.env)=eval o X.env:=by rfl)
  (j:((abD d (aag (e::g) X.env)).all (λx=>!x.1)&&(adB d (acw [] X.env)).all (λx=>x.1.isSome)
   && decide ((e::g).length+([]:List aeG).length+(if ([]:List aeG).isEmpty then 0 else 1)<30))=true:=by rfl)
  (i:(f.endLine==d.line)=true:=by rfl) (L:aag (e::g) X.env=(false,eval e X.env)::aag g X.env:=by rfl) (k:(abD d (aag g X.env)).any (·.1)=false:=by rfl) :
  PE X (.Call (.Attribute o name f) (e::g) [] d) (tBM X.K T r to t):=by
 intro p s m H Q I h;refine wpAny_Call_method_late c j i rfl (thn (G p s m H _ I h) λv s1 ⟨x,y,u,r1,ty,A⟩=>?_);let⟨K,C⟩:=P9 u r1 ty;refine⟨T,id,B,slot,l,K,C,?_⟩;have q:=D d p s1 m y _ u A;rw[L]at q⊢;refine afL ‹_› (Calls.evalArgs_plain ?_);exact thn q<|by intro J s2 ⟨vs,w,z,M,E⟩;exact F p s2 m w x vs v J Q z r1 M E
end
def MtM(X:Cx)(id:String)(r:V->List V->Hp->VK->Prop):Prop:=
 ∀(p:List (Addr×Obj)) (s:GT) (a:St) (H:Hp) (x:V) (b:List V) (v:Ad) (u:List Ad) (Q:VK),Inv X p a H s->RelV x v->Vals b u->r x b H Q ->
  wpAny (model X.prog X.w) X.A (call (.builtin id) (v::u)) (EP X p a Q) X.xe s
theorem Vals.one:∀{x:V}{us:List Ad},Vals [x] us->∃u,us=[u]/\RelV x u
 |_,_,.cons r .nil=>⟨_,rfl,r⟩
theorem Vals.rep{xs:List V}{us:List Ad}(h:Vals xs us):∀k:Nat,Vals (aas k xs).flatten (aas k us).flatten
 |0=>.nil
 |k+1=>by
  exact Vals.append h (Vals.rep h k)
theorem lg(its:List Ad):∀(k:Nat) (acc:List Ad),
  agF (λx b=>x++b) acc.toArray (aas k its.toArray)=(acc++(aas k its).flatten).toArray
 |0,acc=>by simp
 | k+1,acc=>by
  have e:acc.toArray++its.toArray=(acc++its).toArray:=by simp
  have a:(acc++its)++(aas k its).flatten=acc++(aas (k+1) its).flatten:=by
   rw[acu,agS,aaV]
  rw[<-a,<-lg its k _,<-e,acu,aeu]
section
variable {X:Cx}{p:List (Addr×Obj)}{a:St}{H:Hp}{s:GT}{l b:Addr}{xs ys c:List V}
def Inv.lset{its':List Ad}{f:Array Ad->Array Ad}{t':Nat}(I:Inv X p a H s)(i:H l=some (.lst xs))
  (e:s.heap.get? l=some {cls:=.type "list",data:=.seq its.toArray n}) (j:f its.toArray=its'.toArray) (d:Vals ys its') (k:ys.length≤aaj) :
  Inv X p a (upd H l (.lst ys)) {s with heap:=s.heap.update l (acr f),toks:=t' }:=by
 have q:=PySem.IsL.update e f;rw[j]at q;refine I.write (by rw[i];exact trivial) (.inl rfl) (λm u g h=>(acX s.heap _ (ab0 g)).trans h) ⟨_,q⟩ ?_;exact⟨k,its',_,d,q⟩
def Inv.lnew{t':Nat}(I:Inv X p a H s)(h:Vals ys its)(d:ys.length≤aaj) :
  Inv X p a (upd H s.heap.objs.size (.lst ys)) {s with heap:=s.heap.push {cls:=.type "list",data:=.seq its.toArray},toks:=t' }:=
 I.laid (λ_ _ q=>Ld _ q) (aab _) ⟨d,its,0,h,aao _ rfl⟩
def Inv.fresh(I:Inv X p a H s):H s.heap.objs.size=none:=I.hok.fresh (aab _)
def Inv.lstM(I:Inv X p a H s)(h:H l=some (.lst xs)):xs.length≤aaj/\∃(its:List Ad) (n:Nat),Vals xs its/\xs.length=its.length/\s.heap.get? l=some {cls:=.type "list",data:=.seq its.toArray n}:=by
 let⟨z,its,n,r,e⟩:=I.hok l _ h;exact⟨z,its,n,r,r.length,e⟩
def vx(h:n≤aaj):adD n=false:=by
 exact decide_eq_false (by omega)
end
section
variable {X:Cx}
def JV:V->List V->Hp->VK->Prop:=λx vs H Q=>∃l a y,x = .ref l/\vs=[y]/\H l=some (.lst a)/\a.length<aaj/\Q .non (upd H l (.lst (a++[y])))
theorem kO:MtM X "list.append" JV:=by
 intro p s j H x vs v k Q I c d h;let⟨l,i,y,rfl,rfl,a,f,q⟩:=h;cases c;let⟨u,rfl,b⟩:=d.one;let⟨z,its,n,r,g,e⟩:=I.lstM a;refine adV F.slot_list_append ⟨_,e,rfl⟩ F.entry_list_append (F.args_list_append_2 _ _) (PySem.list_append l its.toArray n u (by grind)) ⟨e,?_⟩;refine⟨.non,_,I.lset (its':=its++[u]) a e (by simp) (r.append (.cons b .nil)) ?_,rfl,q⟩
 grind
def J1:V->List V->Hp->VK->Prop:=λx vs H Q=>∃l b a z,x = .ref l/\vs=[.ref b]/\H l=some (.lst a)/\H b=some (.lst z)/\a.length+z.length≤aaj/\Q .non (upd H l (.lst (a++z)))
theorem zc:MtM X "list.extend" J1:=by
 intro p s C H x vs v E Q I g o h;let⟨l,b,A,B,rfl,rfl,d,k,w,q⟩:=h;cases g;let⟨u,rfl,f⟩:=o.one;cases f;let⟨z,its,n,r,y,e⟩:=I.lstM d;let⟨D,i,n2,t,j,m⟩:=I.lstM k;have c:its.toArray.size+i.toArray.size≤aaj:=by rw[aaG,aaG];omega
 have a:¬(!its.toArray.isEmpty&&adD (its.toArray.size+i.toArray.size))=true:=by
  rw[vx c,Bool.and_false];exact aaq
 refine adV F.slot_list_extend ⟨_,e,rfl⟩ F.entry_list_extend (F.args_list_extend_2 _ _)
  (AutoSeq1.list_extend_list_list_0 l its.toArray n b i.toArray n2 a (by grind) (by omega)) ⟨e,m,?_⟩
 refine⟨.non,_,I.lset (its':=its++i) d e (by simp) (r.append t) ?_,rfl,q⟩;rw[aam];omega
def rRep:R2:=λx y H Q=>∃l k a,x = .ref l/\y = .int k/\H l=some (.lst a)/\-(2^63)≤k/\k<2^63/\a.length*k.toNat≤aaj/\
 ∀p,H p=none->Q (.ref p) (upd H p (.lst (aas k.toNat a).flatten))
def yd(xs:List α)(k:Nat):(aas k xs).flatten.length=k*xs.length:=by simp
theorem Mi:OpR X (acl .Mult) rRep:=by
 intro p s M H x y v u Q I j G h;let⟨l,k,K,rfl,rfl,D,E,o,i,q⟩:=h;cases j;let⟨t,rfl⟩:=G;let⟨z,its,n,r,w,e⟩:=I.lstM D;have g:its.toArray.size*k.toNat≤aaj:=by rw[aaG,<-w];exact i
 have f:¬its.toArray.size*k.toNat>(2^63-1)/8:=by
  have:(aaj:Nat)≤(2^63-1)/8:=by decide
  omega
 have d:¬(!acz k)=true:=by
  rw[fitsIndex_both E o];exact aaq
 have b:¬adD (its.toArray.size*k.toNat)=true:=by
  rw[vx g];exact aaq
 have c:agF (λB C=>B++C) #[] (aas (if its.toArray.isEmpty=true then 0 else k.toNat) its.toArray)=(aas k.toNat its).flatten.toArray:=by
  have A:=λm=>by
   have:=lg its m [];rw[abh]at this;exact this
  rw[A]
  cases its with
  |nil=>simp
  |cons a L=>rw[if_neg (by simp)]
 refine ae4 (T:= "list") (U:= "int") (by decide) ⟨_,e,rfl⟩ (λJ=>afK J k t) noFill_list_mul F.fills_int_mul F.slot_int_rmul repeat_list F.slot_int_index.lookup
  (adV F.slot_int_rmul (afK s k t) F.entry_int_rmul (F.args_int_rmul_2 _ _) (int___rmul___int_list k t l its.toArray n)
   ⟨e,rfl,⟨_,e,rfl⟩,adV F.slot_list_mul ⟨_,e,rfl⟩ F.entry_list_mul (F.args_list_mul_2 _ _) (AutoListH.list___mul___list_int_3 l its.toArray n k t d f b) ⟨e,?_⟩⟩)
 rw[c];exact⟨.ref _,_,I.lnew (t':=s.toks) (r.rep k.toNat) (by rw[yd,acY];exact i),rfl,q _ I.fresh⟩
end
end L2
namespace Att
open PySem PySem.W PySem.Calls PyProof.Rows
theorem j8{P:Params}{h:aaW}:∀(ns:List Int) (vs:List Ad),WellAll P h vs (ns.map WData.int)->aeF vs ns:=by
 intro ns
 induction ns with
 |nil=>
  intro vs w;cases w;exact .nil
 | cons n ns i=>
  intro vs w
  cases w with
  |cons a b=>
   cases a;exact .cons _ _ (i _ b)
theorem yl{l:OpenLaw}{n:Nat}(k:l.most=some n){P:Params}{h:aaW}{args:List WData}{v:List Ad}
  (b:l.row.toRowW.claim.pre args=true) (g:WellAll P h v args) :
  ∃a vs ns,v=[abw a]/\args=[WData.list (ns.map WData.int)]/\h.get? a=some {cls:=.type "list",data:=.seq vs.toArray}/\aeF vs ns/\ns.length≤n:=by
 have i:WShape.hasAll [] args [.list .int]=true:=(pre_splitW b).1;have o:l.pre.holds [] {args:=args}=true:=(pre_splitW b).2;let⟨d,r,rfl,s,j⟩:=hasAllW_cons i;obtain rfl:=hasAllW_nil j;let⟨x,rfl,m⟩:=hasW_list s;let⟨ns,rfl⟩:=items_int m;have c:ns.length≤n:=by
  have f:=by
   have f:=(holds_andW o).1;rw[k]at f;omega
  have t:=condW_of f (w_not (w_lt w_lit (w_len_list (w_arg rfl))))
  simp_all
 cases g with
 |cons q w=>
  cases w
  cases q with
  |list p e=>exact⟨_,_,ns,rfl,rfl,p,j8 ns _ e,c⟩
def Am(l:OpenLaw)(args:List WData):l.row.toRowW.claim.post args (.bool true) args=true:=
 postW_of
  rfl
  (w_eq_bool (w_res rfl) w_lit) rfl
def attach_call{l:OpenLaw}{n:Nat}{q:aaI}{b:List Str}{X:(Str->Option Ad)->aaW->Prop}{v:World->aaW->Prop}{d:DefRec}
  (I:l.most=some n) (t:d.params.defaults=[])
  (call:∀(w:World) (s₀ s:GT) (mg mb:Str->Option Ad) (i:Addr) (o:Obj) (pm k c:Ad) (a:Addr) (vs:List Ad) (ns:List Int),
   Ground q b [] X w s₀ mg mb s.heap->v w s.heap ->
   s.heap.get? i=some o->o.data = .func (docDef d.name d.params d.body d.scope pm k c)->s.heap.CodeRec k d.name->mg d.name=some (.ref i) ->
   s.heap.get? a=some {cls:=.type "list",data:=.seq vs.toArray}->aeF vs ns->ns.length≤n->s.gens = #[] ->
   adP (model l.prog w) agj (.call (.ref i) ⟨[.ref a],[]⟩) (λr s'=>r = .ok (.ret (.bool true))/\OldK s.heap s'.heap/\s'.os=s.os/\ae7 s'.gens) s) :
  WalkO q b X v l.row.toRowW d [] (λf vs=>ahn f vs):=by
 intro w s₀ s mg mb G Y i o pm k c H kV K hd m z u M x y N j A F p L;obtain rfl:H = .none:=Dflts.none z t;obtain rfl:kV = .none:=Dflts.noKw z;let⟨a,vs,ns,rfl,rfl,e,h,g⟩:=yl I j p;refine enter_call (ad1 (call w s₀ s mg mb i o pm k c a vs ns G Y K (fd_plain hd) m u e h g M) λr s' B=>?_);let⟨rfl,D,E,C⟩:=B;exact⟨.inl ⟨.bool true,.bool true,[],rfl,λ_=>rfl,.bool true,Am l _,λ_=>⟨agT,λ_ J=>(nomatch J)⟩⟩,D,E,C⟩
end Att
namespace L2
open PySem PySem.Spec PyProof.Rows
variable{P:MSt->Prop}{w:WS}{K:Kd}{mg:Str->Option Ad}{a f l:Addr}{fd:ab4}{qual x y:Str}{ns:List Int}{i j n nN q:Nat}{X:Cx}{st:Stmt}{N ps:List Str}{od:Option Addr}{A B:Prop}{env:Env}{scope:Scope}{c e elt t tg:Expr}{p pos:Pos}{ifs:List Expr}{tb:TS}{J:It}{fp:List Addr}{pins:List (Addr×Obj)}{σ σ':St}{H H' H0 H1 H2 Hb:Hp}{D:Ends}{E:Ad->GT->Prop}{Q:VK}{vs xs:List V}{b ds ds':List aD}{v:V}{ao:Ao}{α α' α1 β:Al}{τ:List (List Nat×Addr)}{r:R}{o:WO}{op:CmpOp}{sp:SpM}{ks:List Nat}{De:fG}{g:WG}{gs:WGs}{m1:MSt}{ob:R->Option Int->Option Int->MSt->(R->Prop)->Prop}{hi lo:Option Expr}{as:List Ag}{Ks:Src->MSt->Prop}
theorem kQ:∀{vs:List Ad}{ns:List Int},aeF vs ns->Vals (ns.map V.int) vs
 |_,_,.nil=>.nil
 |_,_,.cons n t h=>.cons ⟨t,rfl⟩ (kQ h)
def Only(H:Hp):Prop:=∀b,H b=none\/∃o xs,H b=some (.frz o (.lst xs))
theorem Di{P:aaI}{w:World}{K:aaf}{mb:Str->Option Ad}{CX:CXT}{k:Nat}{fa:Addr}{sp:Sp}{C:GT}{vs:List Ad}
  (KX:K.In C.heap) (W:C.heap.Ns aay mg) (I:C.heap.Ns builtinsNs mb) (hbb:∀x:Str,x ≠ "__name__" -> mb x=abi x) (U:C.heap.NoLimit) (hsy:∃m,C.heap.Ns abC m) (hg:C.gens = #[])
  (ha:C.heap.get? a=some {cls:=.type "list",data:=.seq vs.toArray}) (hi:aeF vs ns) (hl:ns.length≤aaj) (hr:Room k agj)
  (F:∀base:aaW,K.In base->base.Ns aay mg->FnOk P w K mg base CX k fa fd [x] sp) (O:∀(s:GT) (u:Ad),agR s fd ⟨[u],[]⟩ [(x,u)])
  (hsp:∀H:Hp,Only H->SqL K H a (ns.map V.int)->sp [.ref a] H (λv _=>v = .bl true) λ_ _ _=>False)
  (hCX:∀H e s',CX [] H C (λ_ _ _=>False) e s'->False) :
  adP (model P w) agj (.call (.ref fa) ⟨[.ref a],[]⟩) (λr s'=>r = .ok (.ret (.bool true))/\OldK C.heap s'.heap/\s'.os=C.os/\ae7 s'.gens) C:=by
 have rv:=kQ hi;have T:=hi.length;have M:∀H:Hp,Only H->SqL K H a (ns.map V.int)->HOk P w H C.heap->(∀b,H b≠none->b=a)->(H a≠none->K.lookup a=none) ->
   adP (model P w) agj (.call (.ref fa) ⟨[.ref a],[]⟩) (λr s'=>r = .ok (.ret (.bool true))/\OldK C.heap s'.heap/\s'.os=C.os/\ae7 s'.gens) C:=by
  intro H hO hS hok hA hK;have G:∀{b:Addr}{o:Obj},C.heap.get? b=some o->H b=none->(hidT C.heap H).get? b=some o:=λe n=>Cb e n;have noA:∀{b:Addr}{o:Obj}{es:Array acd}{R:Nat},C.heap.get? b=some o->o.data = .dict es R->H b=none:=λ{b o es R} e d=>by
   cases q:H b with
   |none=>rfl
   |some u=>
    have e':b=a:=hA b (by rw[q];simp);subst e';rw[ha]at e;cases e;have d':Data.seq vs.toArray _=Data.dict es R:=d;cases d'
  have L:∀{b:Addr}{m:Str->Option Ad},C.heap.Ns b m->(hidT C.heap H).Ns b m:=λ{b m} ⟨o,es,R,e,d,r⟩=>⟨o,es,R,G e (noA e d),d,r⟩;have Y:K.In (hidT C.heap H):=λb o e=>G (KX b o e) (by
   cases q:H b with
   |none=>rfl
   |some u=>
    have e':b=a:=hA b (by rw[q];simp);subst e';rw[hK (by rw[q];simp)]at e;cases e)
  have hM:Mod K mg (hidT C.heap H):=⟨Y,L W,⟨mb,L I,hbb⟩,let ⟨mc,h1,h2⟩:=U;⟨mc,L h1,h2⟩,let ⟨m,h⟩:=hsy;⟨m,L h⟩⟩;have e0:Env0 P w K mg (hidT C.heap H) agj [] C H:=⟨rfl,hM,λb o e=>GU e,aeE (yf _ _),trivial,λb I=>absurd (show b∈([]:List Addr)from I) (by simp),hok,.of_eq hg⟩;refine ad1 ((F _ Y (L W)).run agj [] C H ⟨[.ref a],[]⟩ [.ref a] [.ref a] _ _ hr e0 (O C (.ref a)) (.cons rfl .nil) (hsp H hO hS)) λr s' h=>?_
  cases r with
  |error e=>exact(hCX H e s' h).elim
  | ok fl=>
   cases fl with
   |next=>exact acq h
   |brk=>exact acq h
   |cont=>exact acq h
   | ret u=>
    let⟨v,H',os,bare,un,Z,r',q⟩:=h;have q':v = .bl true:=q;subst q';obtain rfl:u=Value.bool true:=r';refine⟨rfl,OldK.of_keep λb o e=>?_,os,bare⟩
    cases q:H b with
    |none=>exact un.keep b o e q (by intro z;exact absurd (show b∈([]:List Addr)from z) (by simp)) (by simp)
    |some u=>
     rcases hO b with z|⟨ob,xs,z⟩
     .rw[q]at z;cases z
     .have z2:=un.frzs b ob _ z;let⟨e1,_⟩:=hok b _ z;let⟨e2,_⟩:=Z b _ z2;rw[e]at e1;cases e1;exact e2
 cases hk:K.lookup a with
 |some o=>
  have e:=KX a o hk;rw[ha]at e;cases e;refine M (λ_=>none) (λ_=>.inl rfl) (.inr ⟨_,vs.toArray,_,hk,rfl,rfl,rfl,by rw[aaG,T];exact hl,by simpa using rv⟩) (λb u z=>by have S:(none:Option HO)=some u:=z;cases S) (λb z=>absurd rfl z) λz=>absurd rfl z
 | none=>
  refine M (λb=>if b=a then some (.frz {cls:=.type "list",data:=.seq vs.toArray} (.lst (ns.map V.int)))else none) (λb=>?_) (.inl (.inr ⟨{cls:=.type "list",data:=.seq vs.toArray},if_pos rfl⟩)) (λb u z=>?_) (λb z=>?_) λ_=>hk
  .by_cases I:b=a
   .exact .inr ⟨_,_,if_pos I⟩
   .exact .inl (if_neg I)
  .by_cases I:b=a
   .have S:=(if_pos I).symm.trans z;cases S;subst I;exact⟨ha,by rw[lD];exact hl,vs,_,rv,ha⟩
   .have S:=(if_neg I).symm.trans z;cases S
  .by_cases I:b=a
   .exact I
   .exact absurd (if_neg I) z
theorem IJ{l:ahg}{k:Nat}{q:aaI}{C:List Str}{XP:(Str->Option Ad)->aaW->Prop}{Z:World->aaW->Prop}{d:DefRec}{K:Params->aaf}{CX:World->CXT}{sp:World->Sp}
  (hq:importsNone q=true) (hn:l.most=some n) (R:n≤aaj) (T:d.params.defaults=[]) (hr:Room k agj)
  (hY:∀(w:World) (h:aaW),Z w h->(K w.params).In h)
  (F:∀(w:World) (mg:Str->Option Ad) (O:Addr) (h:aaW),(K w.params).In h->h.Ns aay mg->mg d.name=some (.ref O) ->
   ∃fd:ab4,(∀(s:GT) (u:Ad),agR s fd ⟨[u],[]⟩ [(x,u)])/\
    ∀base:aaW,(K w.params).In base->base.Ns aay mg->FnOk l.prog w (K w.params) mg base (CX w) k O fd [x] (sp w))
  (S:∀(w:World) (H:Hp) (a:Addr) (ns:List Int),ns.length≤n->Only H->SqL (K w.params) H a (ns.map V.int)->sp w [.ref a] H (λv _=>v = .bl true) λ_ _ _=>False)
  (U:∀(w:World) (H:Hp) (s:GT) (e:Ad) (s':GT),CX w [] H s (λ_ _ _=>False) e s'->False) :
  aho q C XP Z l.row.toRowW d [] (λf vs=>ahn f vs):=by
 refine Att.attach_call hn T λw s₀ M mg mb O o pm cd doc a vs ns G Y ho hd hcd W L I z hg=>?_;have KX:=hY w _ Y;let⟨fd,hb,hF⟩:=F w mg O _ KX G.T.g W;exact Di KX G.T.g G.T.b G.T.builtins G.T.nolimit (by let⟨m,h,_⟩:=(G.T.seer hq).mods;exact⟨m,h⟩) hg L I (aaD z R) hr hF hb (λH hO hS=>S w H a ns z hO hS) λH e s'=>U w H M e s'
def cp(s:Stmt):Arguments:=match s with
 | .FunctionDef _ a _ _ _ _ _ _ _ _=>a
 |_=>{posonlyargs:=[],args:=[],vararg:=none,kwonlyargs:=[],kw_defaults:=[],kwarg:=none,defaults:=[]}
def bz(s:Stmt):List Stmt:=match s with
 | .FunctionDef _ _ b _ _ _ _ _ _ _=>b
 |_=>[]
def ab(s:Stmt):Scope:=match s with
 | .FunctionDef _ _ _ _ _ _ d _ _ _=>d
 |_=>{kind:=.function,names:=[],isGenerator:=false,isCoroutine:=false}
abbrev CX0:CXT:=λ_ _ _ _ _ _=>False
abbrev E0:XK:=λ_ _ _=>False
def BX:jH CX0 X E0:=λ_ _ _ _ _ _ _ h=>h.elim
structure Fun(K:aaf)(x qual:Str)(st:Stmt)(f:Addr)(fd:ab4):Prop where
 ex:∃(oc:Ad) (od:Option Addr) (kV doc pm:Ad) (an:Option Addr) (cdv ct:Ad) (osl:Array (Option Ad)),
  fd=abl x qual (cp st) (bz st) (ab st) .none kV doc pm an cdv ct/\K.lookup f=some ⟨oc,od,.func fd,osl⟩/\adi K cdv qual=true
 kp:abP K (.ref f)=true
section
variable {P:aaI}{w:World}{K:aaf}{mg:Str->Option Ad}{base:aaW}
theorem Fun.ok{k:Nat}{sp:Sp}(F:Fun K x qual st f fd)(S:ak N ps (ab st))(len:∀vs H Q E,sp vs H Q E->vs.length=ps.length)
  (m:∀(d:Ad) (A:aa8) (outer:List Env) (s:GT) (H:Hp) (vs:List V) (Q:VK) (E:XK),Room k (A.deeper (ad2 qual (ab st) s.heap.objs.size f d))->sp vs H Q E ->
   ∃t,PSs (cxOf CX0 P w K mg base N qual (ab st) f d A outer s H E).nox (bz st) t/\t {nx:=λ_ H'=>Q .non H',rt:=Q} (start N vs) H):FnOk P w K mg base CX0 (k+1) f fd ps sp:=by
 let⟨M,od,kV,C,pm,an,d,ct,L,rfl,G,u⟩:=F.ex;refine SW G u S len λA outer s H vs Q E I z=>?_;let⟨t,h,q⟩:=m d A outer s H vs Q E I z;exact⟨t,h.nox,q⟩
theorem Fun.binds(F:Fun K x qual st f fd)
  (h:∀(kV d pm:Ad) (an:Option Addr) (k ct:Ad) (us:List Ad),us.length=ps.length->adA (abl x qual (cp st) (bz st) (ab st) .none kV d pm an k ct) ⟨us,[]⟩=pure (ps.zip us)):Binds K fd ps []:=by
 let⟨u,od,kV,d,pm,an,k,ct,s,rfl,z,m⟩:=F.ex;exact .all (h kV d pm an k ct)
def qr{s:Ad}{an:Option Addr}{m:Array (Option Ad)}{kV h pm d ct:Ad}(l:K.lookup f=some ⟨s,od,.func (abl x qual (cp st) (bz st) (ab st) .none kV h pm an d ct),m⟩)
  (c:adi K d qual=true) (k:abP K (.ref f)=true):Fun K x qual st f (abl x qual (cp st) (bz st) (ab st) .none kV h pm an d ct):=⟨⟨s,od,kV,h,pm,an,d,ct,m,rfl,l,c⟩,k⟩
end
theorem iteF(h:B):if false=true then A else B:=by simp_all
theorem iteT(h:A):if true=true then A else B:=by simp_all
def aQ(X:Cx)(scope:Scope)(cl:List (Str×Addr))(N:List Str)(s:GT)(H:Hp)(C:Addr)(ex:List Addr):Cx where
 prog:=X.prog
 w:=X.w
 K:=X.K
 mg:=X.mg
 base:=X.base
 A:=X.A
 N:=N
 s₀:=s
 H₀:=H
 env:=af7 scope cl C X.env
 outer:=X.stack
 stack:=X.stack
 ex:=ex
 fn:=λ_=>false
 calm:=X.calm
 eb:=X.eb
 pn:=[]
 xe:=λ_ _=>False
theorem jf{env:Env}:∀{names:List (Str×aeo)}{acc:List (Str×Addr)},(∀y∈names,y.2 = .free->∃c,env.cells.lookup y.1=some c)->(∀x c,acc.lookup x=some c->env.cells.lookup x=some c) ->
  ∃cl,(forIn names acc λ(x:Str×aeo) (L:List (Str×Addr))=>if (x.2==ael)=true then do let c <- cellOf env x.1;pure (aev ((x.1,c)::L))else pure (aev L):Sem (List (Str×Addr)))=pure cl/\
   (∀x c,cl.lookup x=some c->env.cells.lookup x=some c)/\(∀y∈names,y.2 = .free->∃c,cl.lookup y.1=some c)/\(∀x,(∃c,acc.lookup x=some c)->∃c,cl.lookup x=some c)
 |[],acc,_,ha=>⟨acc,rfl,ha,λy m=>absurd m (by simp),λ_ h=>h⟩
 | (n,k)::r,acc,h,ha=>by
  rw[afT]
  by_cases hk:k = .free
  .subst hk;let⟨c,O⟩:=h (n,.free) aac rfl;have z:env.cells.lookup n=some c:=O;have M:cellOf env n=pure c:=by unfold cellOf;rw[z]
   let⟨cl,G,I,F,C⟩:=jf (env:=env) (names:=r) (acc:=(n,c)::acc) (λy m=>h y (aad _ m)) (λx d u=>by
    rw[aa5]at u
    cases hb:x==n with
    |true=>rw[hb]at u;cases u;rw[eq_of_beq hb];exact z
    |false=>rw[hb]at u;exact ha x d u)
   refine⟨cl,?_,I,λy m s=>?_,λx u=>C x ?_⟩
   .simp only[beq_self_eq_true,if_true,M,pure_bind];exact G
   .obtain rfl|m:=aak.mp m
    .exact C n ⟨c,by rw[aa5];simp⟩
    .exact F y m s
   .obtain⟨d,hd⟩:=u;rw[aa5]
    cases hb:x==n with
    |true=>exact⟨c,rfl⟩
    |false=>exact⟨d,hd⟩
  .have hb:(k==ael)=false:=by simpa using hk
   let⟨cl,G,I,F,C⟩:=jf (env:=env) (names:=r) (acc:=acc) (λy m=>h y (aad _ m)) ha;refine⟨cl,?_,I,λy m s=>?_,C⟩
   .simp only[hb,acZ,if_false,pure_bind];exact G
   .obtain rfl|m:=aak.mp m
    .exact absurd s hk
    .exact F y m s
theorem fy(h:∀y∈scope.names,y.2 = .free->∃c,env.cells.lookup y.1=some c) :
  ∃cl,closureFor scope env=pure cl/\(∀x c,cl.lookup x=some c->env.cells.lookup x=some c)/\∀y∈scope.names,y.2 = .free->∃c,cl.lookup y.1=some c:=by
 let⟨cl,e,d,k,_⟩:=jf (acc:=[]) h (λx c m=>by cases m);refine⟨cl,?_,d,k⟩;simp[closureFor]
 simp_all
def PTs(X:Cx)(ifs:List Expr)(t:TT):Prop:=
 ∀(pins:List (Addr×Obj)) (s:GT) (σ:St) (H:Hp) (Q:Bool->Hp->Prop),Inv X pins σ H s->t σ H Q ->
  wpAny (model X.prog X.w) X.A (forIn ifs true λc r=>if r=true then do let ok <- isTrue c X.env (eval c X.env);pure (aev ok)else pure (aev r)) (TP X pins σ Q) X.xe s
def K6:TT:=λ_ H Q=>Q true H
theorem J7:PTs X [] K6:=λ_ _ _ H _ I h=>wpAny_tests_nil ⟨H,I,h⟩
theorem GI{t:TT}(d:PT X c t):PTs X [c] t:=λpins s σ H Q I h=>wpAny_tests_one (d pins s σ H Q I h)
def PB(X:Cx)(bd:Sem PUnit)(t:TS):Prop:=
 ∀(pins:List (Addr×Obj)) (s:GT) (σ:St) (H:Hp) (D:Ends),Inv X pins σ H s->t D σ H->wpAny (model X.prog X.w) X.A bd (λ_ d=>∃σ' H',Inv X pins σ' H' d/\D.nx σ' H') X.xe s
def sw(J:It)(g:TG)(tb:TS):TS:=λD σ H=>∃W:Nat->Nat->St->Hp->Prop,(∃m,W 0 m σ H)/\∀i m σ H,W i m σ H ->
 (J.stop i H/\D.nx σ H)\/(J.go i H/\∃N:St->Hp->Prop,(∀σ' H',N σ' H'->∃h,h<m/\W (i+1) h σ' H')/\∀x H',J.yld i H x H'->g x σ H' λd H2=>tb {D with nx:=N,ct:=N,bk:=D.nx} d H2)
def tIfT(tt:TT)(tb:TS):TS:=λD σ H=>tt σ H λb H1=>if b=true then tb D σ H1 else D.nx σ H1
def vO(l:Addr)(d:TE):TS:=λD σ H=>d σ H λx H1=>∃xs,H1 l=some (.lst xs)/\xs.length<aaj/\D.nx σ (upd H1 l (.lst (xs++[x])))
theorem rg{gens:List Comprehension}{d:Nat}{M:Addr}{acc:Ad}{ipos:Pos}{bd:Sem PUnit}{g:TG}{tt:TT}{tn:Nat->aaW->Prop}
  (L:compTurn (.ListComp elt gens scope pos) d (.ref M) acc X.env=(do
   acI ipos
   match <- acR (.ref M)with
   |none=>pure (.done .next)
   | some v=>
    adO tg (.ref M) v
    afh tg X.env v
    let mut ok:=true
    for c in ifs do
     if ok then ok <- isTrue c X.env (eval c X.env)
    if ok then bd
    again (.compLoop (.ListComp elt gens scope pos) d (.ref M) acc X.env)))
  (hx:X.xe=λ_ _=>False) (hc:X.calm=true) (T:Turn X.prog X.w X.K tg J fp M tn) (hg:PG X tg g) (ht:PTs X ifs tt) (G:PB X bd tb)
  {s:GT} (I:Inv X pins σ H s) (st:tn 0 s.heap) (f:∀b∈fp,FpOk X pins H b) (h:sw J g (tIfT tt tb) D σ H) :
  adP (model X.prog X.w) X.A (.compLoop (.ListComp elt gens scope pos) d (.ref M) acc X.env) (λr s'=>r = .ok .next/\∃σ' H',Inv X pins σ' H' s'/\D.nx σ' H') s:=by
 let⟨W,⟨m0,w0⟩,turn⟩:=h;have F:∀{H':Hp},(∀b∈fp,H' b=none)->∀b∈fp,FpOk X pins H' b:=λhn b G=>⟨hn b G,(f b G).2⟩;have nox:∀{α:Type}{t:Sem α}{Q:α->GT->Prop}{E:Ad->GT->Prop}{s:GT},wpAny (model X.prog X.w) X.A t Q X.xe s->wpAny (model X.prog X.w) X.A t Q E s:=λh=>acb h (λ_ _ q=>q) λ_ _ z=>by
  rw[hx]at z;exact z.elim
 refine codeAny_loop rfl (λn s'=>∃i σ' H',Inv X pins σ' H' s'/\tn i s'.heap/\(∀b∈fp,H' b=none)/\W i n σ' H') ?_ m0 ⟨0,σ,H,I,st,λb G=>(f b G).1,w0⟩;intro n s3 ⟨i,C,H3,I3,S,fr3,w3⟩;show wpAny _ X.A ((compTurn (.ListComp elt gens scope pos) d (.ref M) acc X.env).onRaise (λx=>do noteFrame x X.env;theTreesLotGoes x)) _ _ s3;refine wpAny_noted ?_;rw[L];refine gT (m:=acI _) (ac6 (gT ?_));rcases turn i n C H3 w3 with⟨stop,qn⟩|⟨go,N,hN,step⟩
 .refine thn (T.done X rfl rfl rfl hc i pins s3 C H3 _ I3 (F fr3) S stop) λr s4 ⟨hr,I4⟩=>?_;subst hr;exact LD ⟨rfl,C,H3,I4,qn⟩
 .refine thn (T.item X rfl rfl rfl hc i pins s3 C H3 _ I3 (F fr3) S go) λr s4 ⟨u,hr,h4⟩=>?_;subst hr;refine gT (thn h4 λ_ s5 ⟨x,H5,I5,r5,y5,O,fr5⟩=>?_);have I5':=I5.pinned (F fr5) (T.obj _ _ O);refine gT (nox (thn (hg _ s5 C H5 x u _ I5' r5 (step x H5 y5)) λ_ s6 ⟨U,H6,I6,q6⟩=>?_));refine gT (nox (thn (ht _ s6 U H6 _ I6 q6) λok s7 ⟨H7,I7,q7⟩=>?_));have Z:∀{k:St}{R:Hp}{Y:GT},Inv X (pins++qY fp s5.heap) k R Y->N k R->∃m,m<n/\∃i σ' H',Inv X pins σ' H' Y/\tn i Y.heap/\(∀b∈fp,H' b=none)/\W i m σ' H':=λ{k R Y} V n8=>by
   let⟨m',hm,w8⟩:=hN k R n8;refine⟨m',hm,i+1,k,R,V.unpinned,T.keep _ _ _ O λb G o e=>(V.pin (b,o) (aaz _ (aaz _ (gu G e)))).1,λb G=>?_,w8⟩;let⟨o,e,_⟩:=T.obj _ _ O b G;exact(V.pin (b,o) (aaz _ (aaz _ (gu G e)))).2.1
  cases ok with
  |false=>
   rw[if_neg aaq]at q7;exact LD ⟨rfl,Z I7 q7⟩
  |true=>
   rw[if_pos rfl]at q7;exact gT (nox (thn (G _ s7 U H7 _ I7 q7)<|by intro _ Y ⟨k,R,V,q8⟩;exact LD ⟨rfl,Z V q8⟩))
theorem tm{d:TE}(z:PE X elt d):PB X (do let _ <- call (.builtin "list.append") [.ref l,<-eval elt X.env]) (vO l d):=by
 intro pins s σ H D I h;refine gT (thn (z pins s σ H _ I h) λu s1 ⟨x,H1,F,r1,xs,C,m,q⟩=>?_);refine gT (thn ?_ λ_ M k=>LD k);exact thn (kO pins s1 σ H1 (.ref l) [x] _ [u] (λv H'=>v = .non/\D.nx σ H') F rfl (.cons r1 .nil) ⟨l,xs,x,rfl,rfl,C,m,rfl,q⟩)<|by intro v M ⟨_,H',L,_,_,G⟩;exact⟨σ,H',L,G⟩
theorem d5(env:Env)(x:Str):∀names:List (Str×aeo),(names.map λ(n,k)=>if (k==ael&&env.scope.kind == .function&&env.kindOf n==some .cell)then(n,ahp)else(n,k)).lookup x =
  (names.lookup x).map λk=>if (k==ael&&env.scope.kind == .function&&env.kindOf x==some .cell)then ahp else k
 |[]=>rfl
 | (n,k)::r=>by
  have d:=d5 env x r;rw[aan];dsimp only
  cases hx:x==n with
  |true=>
   have e:=eq_of_beq hx;subst e
   by_cases h:(k==ael&&env.scope.kind == .function&&env.kindOf x==some .cell)=true
   .simp only[aa5,hx,acG,if_pos h]
   .simp only[aa5,hx,acG,if_neg h]
  |false=>
   split
   .simp only[aa5,hx];exact d
   .simp only[aa5,hx];exact d
def gg{k:aeo}:∀{names:List (Str×aeo)},names.lookup x=some k->(x,k)∈names:=λh=>acs h
theorem j3(d:∀y∈scope.names,y.2≠.cell)(h:(agk scope env).names.lookup x=some .cell\/(agk scope env).names.lookup x=some .free):scope.names.lookup x=some .free:=by
 unfold agk at h;simp only[d5]at h
 cases e:scope.names.lookup x with
 |none=>rw[e]at h;rcases h with h|h<;>cases h
 |some k=>
  rw[e]at h;simp only[acG]at h;have hk:=d _ (gg e)
  by_cases m:k = .free
  .rw[m]
  .simp_all
def rF(h:scope.names.lookup x=some .free):(agk scope env).names.lookup x=some .cell\/(agk scope env).names.lookup x=some .free:=by
 unfold agk;simp only[d5,h,acG];split
 .exact .inl rfl
 .exact .inr rfl
def gQ(own:List Str)(ps:List Nat)(σ:St):St:=own.map (λ_=>none)++ps.map λi=>(σ[i]?).join
structure ci(own fr:List Str)(scope sc:Scope):Prop where
 kind:scope.kind = .function
 nocell:∀y∈scope.names,y.2≠.cell
 names:∀y∈scope.names,y.2 = .local->scope.names.lookup y.1=some .local
 there:∀y∈scope.names,y.2 = .free->sc.names.lookup y.1=some .cell\/sc.names.lookup y.1=some .free
 fr:∀x∈fr,scope.names.lookup x=some .free
section
variable {X:Cx}{scope sc:Scope}{own fr:List Str}{ps:List Nat}
theorem l6{n:Expr}{rest:List Comprehension}{bdy:Env->Ad->Sem PUnit}{g:TG}{tt:TT}{tb:Addr->TS}{cl:List (Str×Addr)}{R:Ad->Addr->Result->GT->Prop}
  (S:ci own fr scope sc) (hsc:X.env.scope=sc) (hps:ps.map (λi=>X.N[i]?)=fr.map some) (hc:X.calm=true) (G:∀x c,cl.lookup x=some c->X.env.cells.lookup x=some c) (hcl2:∀y∈scope.names,y.2 = .free->∃c,cl.lookup y.1=some c)
  (hturn:∀env it acc,compTurn (.ListComp elt (⟨tg,n,ifs,0⟩::rest) scope pos) 0 it acc env=(do
   acI n.pos
   match <- acR it with
   |none=>pure (.done .next)
   | some v=>
    adO tg it v
    afh tg env v
    let mut ok:=true
    for c in ifs do
     if ok=true then ok <- isTrue c env (eval c env)
    if ok then bdy env acc
    again (.compLoop (.ListComp elt (⟨tg,n,ifs,0⟩::rest) scope pos) 0 it acc env)))
  (hg:∀s H C ex,PG (aQ X scope cl (own++fr) s H C ex) tg g) (ht:∀s H C ex,PTs (aQ X scope cl (own++fr) s H C ex) ifs tt)
  (d:∀s H C ex l,PB (aQ X scope cl (own++fr) s H C ex) (bdy (af7 scope cl C X.env) (.ref l)) (tb l))
  {s:GT}{it:Addr}{tn:Nat->aaW->Prop} (I:Inv X pins σ H s) (T:Turn X.prog X.w X.K tg J fp it tn) (st:tn 0 s.heap) (f:∀b∈fp,FpOk X pins H b)
  (h:∀l,H l=none->sw J g (tIfT tt (tb l)) {nx:=λ_ H'=>Q (.ref l) H',rt:=λ_ _=>False} (gQ own ps σ) (upd H l (.lst [])))
  (hR:∀l C H' s',(∃m,s'.heap.Ns C m)->Inv X pins σ H' s'->FpOk X pins H' C->Q (.ref l) H'->R (.ref l) C (.ok .next) s') :
  wpAny (model X.prog X.w) X.A (agU []) (λacc s₃=>wpAny (model X.prog X.w) X.A (newFunctionEnv scope X.env.globals cl [] X.env.qual none .none (some X.env)) (λcenv s₄=>
   adP (model X.prog X.w) X.A (.compStart (.ListComp elt (⟨tg,n,ifs,0⟩::rest) scope pos) 0 (.ref it) acc {cenv with scope:=agk scope X.env}) (R acc cenv.locals) s₄) E s₃) E s:=by
 refine abg (wpAny_newFunctionEnv S.nocell (by intro y hy;simp at hy) (λU O V=>?_) S.kind);have M:Inv X pins σ (upd H s.heap.objs.size (.lst [])) {s with heap:=s.heap.push {cls:=.type "list",data:=.seq ([]:List Ad).toArray} }:=I.lnew (t':=s.toks) (ys:=[]) .nil (abF _);generalize hS3:({s with heap:=s.heap.push {cls:=.type "list",data:=.seq ([]:List Ad).toArray} }:GT)=L at M O V⊢;have hsz:L.heap.objs.size=s.heap.objs.size+1:=by rw[<-hS3];exact abE _ _
 have hl:H s.heap.objs.size=none:=I.hok.fresh (aab _);have kept0:∀b o,s.heap.get? b=some o->L.heap.get? b=some o:=λb o e=>by rw[<-hS3];exact Ld _ e
 have F:∀b o,L.heap.get? b=some o->U.get? b=some o:=λb o e=>V.extBut b o (aa3 (aap e)) (Ld _ e);have fpl:∀b∈fp,b<s.heap.objs.size:=λb d=>by let⟨o,e,_⟩:=T.obj _ _ st b d;exact aap e
 have fpH:∀b∈fp,(upd H s.heap.objs.size (.lst [])) b=none:=λb d=>by rw[au (aa3 (fpl b d))];exact(f b d).1
 have fpS:∀b∈fp,b∉frs X.stack:=λb d z=>by
  rcases aak.mp (I.stkSub b z)with e|e
  .exact(f b d).2.1 e
  .exact(f b d).2.2.1 e
 have ok':(aQ X scope cl (own++fr) L (upd H s.heap.objs.size (.lst [])) L.heap.objs.size fp).Ok:=by
  refine⟨I.ok.mod,S.kind,I.ok.glob,I.ok.blt,aab _,λx y c h1 h2=>I.ok.inj x y c (G x c h1) (G y c h2),λx hx=>?_,λx c hf=>(by cases hf),I.ok.hd,I.ok.frames,.inl rfl,λb d=>⟨?_,λx c hx=>(f b d).2.2.2.2.1 x c (G x c hx)⟩,
   λb o e=>M.bs b o e,aaD M.ok.bsz M.sz,λb o e d=>?_,λb d=>fpS b d,M.stack,M.stkFree⟩
  .exact hcl2 (x,.free) (gg (j3 S.nocell hx)) rfl
  .exact aa3 (aav (fpl b d) (by rw[hsz];exact afa _))
  .rcases (f b d).2.2.2.1 with z|z
   .exact I.ok.noex b o e z
   .exact absurd (aav (aap (I.ok.bs b o e).1) z) (acM _)
 have I4:Inv (aQ X scope cl (own++fr) L (upd H s.heap.objs.size (.lst [])) L.heap.objs.size fp) [] (gQ own ps σ) (upd H s.heap.objs.size (.lst [])) {L with heap:=U,toks:=L.toks+([]:List (Str×Ad)).length}:=by
  refine⟨ok',rfl,M.bare,Un.kept F,⟨_,O,λi x v e1 Y e3=>?_⟩,λx c e=>?_,M.hok.fresh (aab _),λx c e=>M.freeC x c (G x c e),λp hp=>absurd (show p∈([]:List (Addr×Obj))from hp) (by simp),M.hok.kept F,?_⟩
  .have e1':(own++fr)[i]?=some x:=e1;unfold gQ at Y
   by_cases hi:i<own.length
   .rw[aaE (by simpa using hi),aae]at Y
    cases q:own[i]? with
    |none=>rw[q]at Y;cases Y
    |some z=>rw[q]at Y;cases Y
   .rw[aaN (by simpa using hi),lD,aae]at Y;rw[aaN (by simpa using hi)]at e1'
    cases q:ps[i-own.length]? with
    |none=>rw[q]at Y;cases Y
    | some p=>
     rw[q]at Y;have W:(σ[p]?).join=some v:=aaB Y;have hσ:σ[p]?=some (some v):=by
      cases z:σ[p]? with
      |none=>rw[z]at W;cases W
      |some w=>rw[z]at W;cases w with
       |none=>cases W
       |some w=>cases W;rfl
     have hN:X.N[p]?=some x:=by
      have z:=congrArg (λl=>l[i-own.length]?) hps;simp only[aae,q,e1',acG,agW]at z;exact z
     have hx:x∈fr:=Io e1';have hfr:=S.fr x hx;have hsee:=S.there (x,.free) (gg hfr) rfl;let⟨m,hn,hlk⟩:=M.loc;let⟨u,ru,lk⟩:=hlk p x v hN hσ (by rw[hsc];exact .inr hsee);refine⟨u,ru,.inr ⟨rF hfr,?_⟩⟩;rcases lk with⟨k,_⟩|⟨_,c,ec,z⟩
     .have k':X.env.scope.names.lookup x=some .local:=k;rw[hsc]at k';rcases hsee with q2|q2<;>(rw[k']at q2;cases q2)
     .obtain⟨c',ec'⟩:=hcl2 (x,.free) (gg hfr) rfl;have:=G x c' ec';rw[ec]at this;cases this;let⟨o,ho,hd⟩:=z;exact⟨c,ec',o,F _ _ ho,hd⟩
  .obtain⟨v,o,ho,hd⟩:=M.cell x c (G x c e);exact⟨v,o,F _ _ ho,hd⟩
  .show(gQ own ps σ).length=(own++fr).length;have:=congrArg adh hps;rw[lD,lD]at this;unfold gQ;rw[aam,aam,lD,lD,this]
 have f4:∀b∈fp,FpOk (aQ X scope cl (own++fr) L (upd H s.heap.objs.size (.lst [])) L.heap.objs.size fp) [] (upd H s.heap.objs.size (.lst [])) b:=λb d=>
  ⟨fpH b d,(ok'.exf b d).1,fpS b d,.inl d,(ok'.exf b d).2,λp hp=>absurd (show p∈([]:List (Addr×Obj))from hp) (by simp)⟩
 have st4:tn 0 U:=T.keep 0 _ _ st λb d o e=>F b o (kept0 b o e);have Z:adP (model X.prog X.w) X.A (.compLoop (.ListComp elt (⟨tg,n,ifs,0⟩::rest) scope pos) 0 (.ref it) (.ref s.heap.objs.size) (af7 scope cl L.heap.objs.size X.env)) (R (.ref s.heap.objs.size) L.heap.objs.size) {L with heap:=U,toks:=L.toks+([]:List (Str×Ad)).length}:=by
  refine ad1 (rg (X:=aQ X scope cl (own++fr) L (upd H s.heap.objs.size (.lst [])) L.heap.objs.size fp) (hturn _ _ _) rfl hc T (hg _ _ _ _) (ht _ _ _ _) (d _ _ _ _ _) I4 st4 f4 (h _ hl)) λr s' ⟨er,σ5,H5,I5,q5⟩=>?_;subst er;have I6:Inv X pins σ H5 s':=M.call' (s':=s') I5.os I5.base I5.hok I5.bare λb d=>⟨(f b d).2.2.2.1,(f b d).2.1,(f b d).2.2.2.2.1,(f b d).2.2.2.2.2⟩;have hm:∃m,s'.heap.Ns L.heap.objs.size m:=let ⟨m,hn,_⟩:=I5.loc;⟨m,hn⟩;exact hR _ _ H5 s' hm I6 (M.fpOk (aab _) I5.free) q5
 exact codeAny_compStart_list Z (T.self _ 0 _ _ _ st4 Z)
def Ai(L:TI)(own:List Str)(ps:List Nat)(tl:Addr->It->TS):TE:=λσ H Q=>L σ H λJ H1=>∀l,H1 l=none->tl l J {nx:=λ_ H'=>Q (.ref l) H',rt:=λ_ _=>False} (gQ own ps σ) (upd H1 l (.lst []))
def tl1(g:TG)(tt:TT)(K:TE):Addr->It->TS:=λl J=>sw J g (tIfT tt (vO l K))
def tl2(g:TG)(tt:TT)(B:TI)(M:TG)(F:TT)(K:TE):Addr->It->TS:=λl J=>sw J g (tIfT tt λD σ H=>B σ H λd H1=>sw d M (tIfT F (vO l K)) D σ H1)
theorem Cu{Y:Cx}{C k A j:Expr}{z t:List Expr}{B:TI}{M:TG}{F:TT}{K:TE}(hx:Y.xe=λ_ _=>False)(hc:Y.calm=true)(hi:PI Y A j B)(hg:PG Y A M)(W:PTs Y t F)(Z:PE Y elt K)
  (hs:∀x,aaR j Y.env x=pure x) :
  PB Y (do
   let x <- eval j Y.env
   acI j.pos
   let x <- aaR j Y.env x
   let _ <- runOwn (.compStart (.ListComp elt [⟨C,k,z,0⟩,⟨A,j,t,0⟩] scope pos) 1 (<- adN [x] (afF x)) (.ref l) Y.env) Y.env) (λD σ H=>B σ H λU H1=>sw U M (tIfT F (vO l K)) D σ H1):=by
 intro pins s σ H D I h;refine gT (thn (hi pins s σ H _ I h) λv s1 h1=>?_);refine gT (ac6 (gT (wpAny_of_eq (hs v) (gT (ach (thn h1 λitv s2 h2=>?_))))));let⟨S,fp,tn,J,H2,e,V,T,G,f2,q⟩:=h2;subst e;have u:∀O,O=s2->adP (model Y.prog Y.w) Y.A (.compLoop (.ListComp elt [⟨C,k,z,0⟩,⟨A,j,t,0⟩] scope pos) 1 (.ref S) (.ref l) Y.env) (λr L=>match r with| .ok f=>wpAny (model Y.prog Y.w) Y.A (pure PUnit.unit) (λ_ L=>∃σ' H',Inv Y pins σ' H' L/\D.nx σ' H') Y.xe L | .error e=>cameBackBy (model Y.prog Y.w) Y.A Y.env Y.xe e L) O:=by
  rintro O rfl;refine ad1 (rg (X:=Y) (elt:=elt) (gens:=[⟨C,k,z,0⟩,⟨A,j,t,0⟩]) (scope:=scope) (pos:=pos) (d:=1) (acc:=.ref l) (ipos:=j.pos) (ifs:=t)
   (bd:=do let _ <- call (.builtin "list.append") [.ref l,<-eval elt Y.env]) rfl hx hc T hg W (tm Z) V G f2 q) λr L ⟨er,R⟩=>?_
  subst er;exact LD R
 refine gT (wpAny_runOwn ?_);show adP (model Y.prog Y.w) Y.A _ _ s2;refine codeAny_of_tree ?_;refine wpAny_notedAt ?_;unfold compStart;show wpAny _ _ (ask >>= _) _ _ s2;refine gT (m:=ask) (wpAny_askSetting (wpAny_ite ?_));split
 .first
   |exact gT (LD (LD (ag4 rfl (u _ rfl))))
   |exact LD (ag4 rfl (u _ rfl))
 .first
   |exact gT (abL (gT (ac6 (gT (T.self _ 0 _ _ _ G (LD (ag4 rfl (u _ rfl))))))))
   |(refine gT (abL ?_);show wpAny _ _ (acI j.pos >>= _) _ _ s2;exact gT (ac6 (gT (T.self _ 0 _ _ _ G (LD (ag4 rfl (u _ rfl)))))))
theorem Inv.junk{s:GT}{C:Addr}(I:Inv X pins σ H s)(f:FpOk X pins H C){h':aaW}(h:ab3 C s.heap h'):Inv X pins σ H {s with heap:=h' }:=
 I.turned (t':=s.toks) (λb o ne e=>(h.2 b ne).trans e) f.1 f.2.1 f.2.2.2.1 f.2.2.2.2.1 f.2.2.2.2.2
variable {elt tg n:Expr}{ifs:List Expr}{pos G N:Pos}{L:TI}{g:TG}{tt:TT}{K:TE}
def qf{s:GT}(S:ci own fr scope sc)(h:X.env.scope=sc)(I:Inv X pins σ H s):∀y∈scope.names,y.2 = .free->∃c,X.env.cells.lookup y.1=some c:=λy d hk=>
 I.ok.has y.1 (by show X.env.scope.names.lookup y.1=_\/X.env.scope.names.lookup y.1=_;rw[h];exact S.there y d hk)
theorem C5(S:ci own fr scope sc)(hi:PI X tg n L)(hg:∀cl s H C ex,PG (aQ X scope cl (own++fr) s H C ex) tg g)(U:∀cl s H C ex,PTs (aQ X scope cl (own++fr) s H C ex) ifs tt)
  (V:∀cl s H C ex,PE (aQ X scope cl (own++fr) s H C ex) elt K) (d:X.env.scope=sc:=by rfl) (k:ps.map (λi=>X.N[i]?)=fr.map some:=by rfl) (hc:X.calm=true:=by rfl) (hs:∀x,aaR n X.env x=pure x:=by intro _;rfl) :
  PE X (.ListComp elt [⟨tg,n,ifs,0⟩] scope pos) (Ai L own ps (tl1 g tt K)):=by
 intro pins s σ H Q I h;let⟨cl,ec,h1,W⟩:=fy (qf S d I);refine adE (use:=none) rfl hs ec S.kind S.names (thn (hi pins s σ H _ I h) λv s1 R=>thn R λitv s2 q2=>?_);let⟨M,fp,tn,J,H2,e,O,T,z,f2,q⟩:=q2;subst e;exact l6 S d k hc h1 W (λenv M F=>compTurn_list elt tg n ifs scope pos M F env)
  (hg cl) (U cl) (λs H C ex l=>tm (V cl s H C ex)) O T z f2 q λl C H' s' hm I' Y q'=>by
   let⟨m,Z⟩:=hm;exact⟨m,Z,λh' u=>⟨.ref l,H',I'.junk Y u,rfl,q'⟩⟩
theorem qm{s':GT}{C:Addr}{Q:St->Hp->Prop}(T:X.N.Nodup)(R:X.N[i]?=some y)(k:X.env.scope.names.lookup y=some .local)(U:∃m,s'.heap.Ns C m)(I:Inv X pins σ H' s')(M:FpOk X pins H' C)(q:Q (σ.set i (some (.ref l))) H') :
  wpAny (model X.prog X.w) X.A (afh (.Name y N) X.env (.ref l)) (λ_ s=>∃m,s.heap.Ns C m/\∀h',ab3 C s.heap h'->∃σ' d,Inv X pins σ' d {s with heap:=h' }/\Q σ' d) E s':=by
 let⟨m,S⟩:=U;refine wpAny_assign_Name (rJ I T R (.inl k) (v:=.ref l) rfl (λs u ⟨a,V,h⟩=>?_) (.inr k));have F:C≠a:=by
  rcases h with h|h
  .rw[h];exact M.2.1
  .exact λz=>M.2.2.2.2.1 _ _ h z.symm
 exact⟨m,S.sameBut V F,λh' O=>⟨_,H',u.junk M O,q⟩⟩
theorem CQ(S:ci own fr scope sc)(hN:X.N.Nodup)(V:X.N[i]?=some y)(M:X.env.scope.names.lookup y=some .local)(hi:PI X tg n L)(hg:∀cl s H C ex,PG (aQ X scope cl (own++fr) s H C ex) tg g)(W:∀cl s H C ex,PTs (aQ X scope cl (own++fr) s H C ex) ifs tt)
  (he:∀cl s H C ex,PE (aQ X scope cl (own++fr) s H C ex) elt K) (u:abB (.ListComp elt [⟨tg,n,ifs,0⟩] scope pos) (some (.Name y N)) G.line X.env=pure true:=by rfl)
  (d:X.env.scope=sc:=by rfl) (k:ps.map (λi=>X.N[i]?)=fr.map some:=by rfl) (hc:X.calm=true:=by rfl) (hs:∀x,aaR n X.env x=pure x:=by intro _;rfl) :
  PS X (.Assign [.Name y N] (.ListComp elt [⟨tg,n,ifs,0⟩] scope pos) G) (tAsg (Ai L own ps (tl1 g tt K)) (BM i)):=by
 intro pins s σ H D I h;let⟨cl,ec,h1,Y⟩:=fy (qf S d I);rw[show exec _ X.env=_ from afY _ _ _ _ u];refine gT (m:=acI _) (ac6 (gT ?_));refine gT (acb (adE rfl hs ec S.kind S.names (thn (hi pins s σ H _ I h) λv s1 q1=>thn q1 λitv s2 q2=>?_)) (λ_ s' R=>LD (LD R)) λ_ _ e=>e);let⟨O,fp,tn,J,H2,e,U,T,z,f2,q⟩:=q2;subst e;exact l6 (Q:=λv H'=>D.nx (σ.set i (some v)) H') (tb:=λl=>vO l K) S d k hc h1 Y (λenv O F=>compTurn_list elt tg n ifs scope pos O F env)
  (hg cl) (W cl) (λs H C ex l=>tm (he cl s H C ex)) U T z f2 q λl C H' s' hm I' Z q'=>qm hN V M hm I' Z q'
variable {A j:Expr}{t:List Expr}{B:TI}{M:TG}{F:TT}
theorem l9(elt d n:Expr)(ifs:List Expr)(A j:Expr)(t:List Expr)(scope:Scope)(pos:Pos)(h acc:Ad)(env:Env) :
  compTurn (.ListComp elt [⟨d,n,ifs,0⟩,⟨A,j,t,0⟩] scope pos) 0 h acc env=(do
   acI n.pos
   match <- acR h with
   |none=>pure (.done .next)
   | some v=>
    adO d h v
    afh d env v
    let mut ok:=true
    for c in ifs do
     if ok=true then ok <- isTrue c env (eval c env)
    if ok then
     (do
      let x <- eval j env
      acI j.pos
      let x <- aaR j env x
      let _ <- runOwn (.compStart (.ListComp elt [⟨d,n,ifs,0⟩,⟨A,j,t,0⟩] scope pos) 1 (<- adN [x] (afF x)) acc env) env)
    again (.compLoop (.ListComp elt [⟨d,n,ifs,0⟩,⟨A,j,t,0⟩] scope pos) 0 h acc env)):=by
 simp only[ bind_assoc];rfl
theorem Df(S:ci own fr scope sc)(hN:X.N.Nodup)(hy:X.N[i]?=some y)(W:X.env.scope.names.lookup y=some .local)(hi:PI X tg n L)(hg:∀cl s H C ex,PG (aQ X scope cl (own++fr) s H C ex) tg g)(ht:∀cl s H C ex,PTs (aQ X scope cl (own++fr) s H C ex) ifs tt)
  (hi2:∀cl s H C ex,PI (aQ X scope cl (own++fr) s H C ex) A j B) (V:∀cl s H C ex,PG (aQ X scope cl (own++fr) s H C ex) A M) (U:∀cl s H C ex,PTs (aQ X scope cl (own++fr) s H C ex) t F)
  (he:∀cl s H C ex,PE (aQ X scope cl (own++fr) s H C ex) elt K) (z:abB (.ListComp elt [⟨tg,n,ifs,0⟩,⟨A,j,t,0⟩] scope pos) (some (.Name y N)) G.line X.env=pure true:=by rfl)
  (d:X.env.scope=sc:=by rfl) (k:ps.map (λi=>X.N[i]?)=fr.map some:=by rfl) (hc:X.calm=true:=by rfl) (hs:∀x,aaR n X.env x=pure x:=by intro _;rfl)
  (u:∀cl C x,aaR j (af7 scope cl C X.env) x=pure x:=by intro _ _ _;rfl) :
  PS X (.Assign [.Name y N] (.ListComp elt [⟨tg,n,ifs,0⟩,⟨A,j,t,0⟩] scope pos) G) (tAsg (Ai L own ps (tl2 g tt B M F K)) (BM i)):=by
 intro pins s σ H D I h;let⟨cl,ec,h1,h2⟩:=fy (qf S d I);rw[show exec _ X.env=_ from afY _ _ _ _ z];refine gT (m:=acI _) (ac6 (gT ?_));refine gT (acb (adE (Q:=λ_ Y=>SP X pins D .next Y) rfl hs ec S.kind S.names (thn (hi pins s σ H _ I h) λv s1 q1=>thn q1 λitv s2 q2=>?_)) (λ_ Y hq=>LD (LD hq)) λ_ _ e=>e);let⟨Z,fp,tn,J,H2,e,I2,T,O,f2,q⟩:=q2;subst e;exact l6 (Q:=λv H'=>D.nx (σ.set i (some v)) H') S d k hc h1 h2 (λenv Z R=>l9 elt tg n ifs A j t scope pos Z R env)
  (hg cl) (ht cl) (λs H C ex l=>Cu rfl hc (hi2 cl s H C ex) (V cl s H C ex) (U cl s H C ex) (he cl s H C ex) (u cl C)) I2 T O f2 q λl C H' Y hm I' fk q'=>qm hN hy W hm I' fk q'
end
def FzL(K:aaf)(H:Hp)(a:Addr)(xs:List V):Prop:=
 (∃o,H a=some (.frz o (.lst xs))) \/
  ∃(o:Obj) (d:Array Ad) (n:Nat),K.lookup a=some o/\o.cls = .type "list"/\o.dict=none/\o.data = .seq d n/\d.size≤aaj/\Vals xs d.toList
theorem FzL.sq{K:aaf}(h:FzL K H a xs):SqL K H a xs:=by
 rcases h with⟨o,h⟩|h
 .exact .inl (.inr ⟨o,h⟩)
 .exact .inr h
structure Kd where
 K:aaf
 w:World
instance:Coe Kd aaf:=⟨Kd.K⟩
mutual
def gI(w:World):aD->Int
 | .int i=>hashInt i
 | .str x=>hashStr w x
 | .tuple ds=>reduceHash (abJ (ii w ds))
 |_=>0
def ii(w:World):List aD->List Int
 |[]=>[]
 |d::ds=>gI w d::ii w ds
end
mutual
def hkD:aD->Bool
 | .int _=>true
 | .str _=>true
 | .tuple ds=>hkA ds
 |_=>false
def hkA:List aD->Bool
 |[]=>true
 |d::ds=>hkD d&&hkA ds
end
def isKd(kvs:List (aD×aD)):Bool:=kvs.all λk=>match k.1 with| .int _=>true | .str _=>true|_=>false
def zN(kvs:List (aD×aD)):Prop:=isKd kvs=false/\(kvs.map (·.1)).Nodup/\∀k∈kvs.map (·.1),hkD k=true
def dXp(a:Addr)(c:List (Int×V×V))(h:aaW):Prop:=
 (a==abC)=false/\c.length≤aaj/\∃(o:Obj) (b:Array acd) (f:Nat),h.get? a=some o/\o.ExactDict/\o.data = .dict b f/\
  abO (λ(e:Int×V×V) (d:acd)=>d.hash=e.1/\RelV e.2.1 d.key/\RelV e.2.2 d.val) c b.toList
abbrev dX(a:Addr)(e:List (Int×V×V)):HO:=.ext (dXp a e)
def FzD(H:Hp)(a:Addr)(e:List (Int×V×V)):Prop:=∃o,H a=some (.frz o (dX a e))
def ClsN(K:Kd)(c:Str)(C:Addr):Prop:=aaM K.K aay c=some (some (.ref C))
def SY(K:Kd)(H:Hp)(a:Addr)(c:Str)(xs:List (Str×V)):Prop:=
 ∃(o:Obj) (u:HO) (C:Addr),H a=some (.frz o u)/\o.cls = .ref C/\(∃vs,o.data = .fields vs)/\ClsN K c C/\((o.dict=none/\xs=[])\/∃(dx:Addr) (b:Obj),o.dict=some dx/\H dx=some (.frz b (.xd xs)))
def keyD:Key->aD
 | .inl i=>.int i
 | .inr x=>.str x
def excC:List (aD×aD)->Option Str
 |(.none,.str c)::_=>some c
 |_=>none
mutual
def Den(K:Kd)(H:Hp):aD->V->Prop
 | .none,v=>v = .non
 | .bool b,v=>v = .bl b
 | .int i,v=>v = .int i
 | .str x,v=>v = .str x
 | .list ds,v=>∃a d,v = .ref a/\FzL K H a d/\DenAll K H ds d
 | .tuple ds,v=>∃a d,v = .ref a/\SqT K H a d/\DenAll K H ds d
 | .dict kvs,v=>∃a,v = .ref a/\((∃e,FzD H a e/\zN kvs/\DenKV K H kvs e)\/(∃e o,H a=some (.frz o (.dK e))/\DenKK K H kvs e)\/∃c d,excC kvs=some c/\SY K H a c d/\DenXF K H kvs d)
def DenAll(K:Kd)(H:Hp):List aD->List V->Prop
 |[],xs=>xs=[]
 |d::ds,xs=>∃v vs,xs=v::vs/\Den K H d v/\DenAll K H ds vs
def DenKV(K:Kd)(H:Hp):List (aD×aD)->List (Int×V×V)->Prop
 |[],es=>es=[]
 |(k,d)::r,es=>∃u v vs,es=(gI K.w k,u,v)::vs/\Den K H k u/\Den K H d v/\DenKV K H r vs
def DenKK(K:Kd)(H:Hp):List (aD×aD)->List (Key×V)->Prop
 |[],es=>es=[]
 |(k,d)::r,es=>∃a v vs,es=(a,v)::vs/\(k=keyD a/\∀x∈vs,x.1≠a)/\Den K H d v/\DenKK K H r vs
def DenXF(K:Kd)(H:Hp):List (aD×aD)->List (Str×V)->Prop
 |[],xs=>xs=[]
 |(k,d)::r,xs=>match k with
  | .str f=>∃v vs,xs=(f,v)::vs/\Den K H d v/\DenXF K H r vs
  |_=>DenXF K H r xs
end
structure Pers(H H':Hp):Prop where
 tups:∀b xs,H b=some (.tup xs)->H' b=some (.tup xs)
 frzs:∀b o u,H b=some (.frz o u)->H' b=some (.frz o u)
theorem Pers.trans(a:Pers H H1)(b:Pers H1 H2):Pers H H2:=⟨λc x e=>b.tups c x (a.tups c x e),λc o u e=>b.frzs c o u (a.frzs c o u e)⟩
section
variable {K:Kd}{H H':Hp}
theorem FzL.mono(p:Pers H H')(h:FzL K H a xs):FzL K H' a xs:=by
 rcases h with⟨o,h⟩|h
 .exact .inl ⟨o,p.frzs _ _ _ h⟩
 .exact .inr h
theorem SqT.mono(p:Pers H H')(h:SqT K H a xs):SqT K H' a xs:=by
 rcases h with(h|⟨o,h⟩)|h
 .exact .inl (.inl (p.tups _ _ h))
 .exact .inl (.inr ⟨o,p.frzs _ _ _ h⟩)
 .exact .inr h
mutual
theorem Den.mono(p:Pers H H'):∀{d:aD}{v:V},Den K H d v->Den K H' d v
 | .none,_,h=>h
 | .bool _,_,h=>h
 | .int _,_,h=>h
 | .str _,_,h=>h
 | .list ds,_,h=>by
  simp only[Den]at h⊢;let⟨a,x,e,f,g⟩:=h;exact⟨a,x,e,f.mono p,DenAll.mono p g⟩
 | .tuple ds,_,h=>by
  simp only[Den]at h⊢;let⟨a,x,e,f,g⟩:=h;exact⟨a,x,e,f.mono p,DenAll.mono p g⟩
 | .dict kvs,_,h=>by
  simp only[Den]at h⊢;let⟨a,e,h⟩:=h;refine⟨a,e,?_⟩;rcases h with⟨b,⟨o,f⟩,n,g⟩|⟨b,o,f,g⟩|⟨c,x,s,⟨o,u,C,l,q,k,j,i⟩,g⟩
  .exact .inl ⟨b,⟨o,p.frzs _ _ _ f⟩,n,DenKV.mono p g⟩
  .exact .inr (.inl ⟨b,o,p.frzs _ _ _ f,DenKK.mono p g⟩)
  .refine .inr <| .inr ⟨c,x,s,⟨o,u,C,p.frzs _ _ _ l,q,k,j,?_⟩,DenXF.mono p g⟩;rcases i with i|⟨dx,r,m,t⟩
   .exact .inl i
   .exact .inr ⟨dx,r,m,p.frzs _ _ _ t⟩
theorem DenAll.mono(p:Pers H H'):∀{ds:List aD}{xs:List V},DenAll K H ds xs->DenAll K H' ds xs
 |[],_,h=>h
 |d::ds,_,h=>by
  simp only[DenAll]at h⊢;let⟨v,vs,e,f,g⟩:=h;exact⟨v,vs,e,Den.mono p f,DenAll.mono p g⟩
theorem DenKV.mono(p:Pers H H'):∀{ds:List (aD×aD)}{xs:List (Int×V×V)},DenKV K H ds xs->DenKV K H' ds xs
 |[],_,h=>by simpa only[DenKV]using h
 |(k,d)::r,_,h=>by
  simp only[DenKV]at h⊢;let⟨u,v,vs,e,a,f,g⟩:=h;exact⟨u,v,vs,e,Den.mono p a,Den.mono p f,DenKV.mono p g⟩
theorem DenKK.mono(p:Pers H H'):∀{ds:List (aD×aD)}{xs:List (Key×V)},DenKK K H ds xs->DenKK K H' ds xs
 |[],_,h=>by simpa only[DenKK]using h
 |(k,d)::r,_,h=>by
  simp only[DenKK]at h⊢;let⟨u,v,vs,e,a,f,g⟩:=h;exact⟨u,v,vs,e,a,Den.mono p f,DenKK.mono p g⟩
theorem DenXF.mono(p:Pers H H'):∀{ds:List (aD×aD)}{xs:List (Str×V)},DenXF K H ds xs->DenXF K H' ds xs
 |[],_,h=>by simpa only[DenXF]using h
 |(.str f,d)::r,_,h=>by
  simp only[DenXF]at h⊢;let⟨v,vs,e,a,g⟩:=h;exact⟨v,vs,e,Den.mono p a,DenXF.mono p g⟩
 |(.none,d)::r,_,h=>by simp only[DenXF]at h⊢;exact DenXF.mono p h
 |(.bool _,d)::r,_,h=>by simp only[DenXF]at h⊢;exact DenXF.mono p h
 |(.int _,d)::r,_,h=>by simp only[DenXF]at h⊢;exact DenXF.mono p h
 |(.list _,d)::r,_,h=>by simp only[DenXF]at h⊢;exact DenXF.mono p h
 |(.tuple _,d)::r,_,h=>by simp only[DenXF]at h⊢;exact DenXF.mono p h
 |(.dict _,d)::r,_,h=>by simp only[DenXF]at h⊢;exact DenXF.mono p h
end
def DenAll.nil:DenAll K H [] []:=rfl
def DenAll.cons{d:aD}(h:Den K H d v)(t:DenAll K H ds vs):DenAll K H (d::ds) (v::vs):=by
   exact⟨v,vs,rfl,h,t⟩
theorem DenAll.paired:∀{ds:List aD}{xs:List V},DenAll K H ds xs->abO (Den K H) ds xs
 |[],_,h=>by simp[DenAll]at h;subst h;exact .nil
 |d::ds,_,h=>by
  let⟨v,vs,e,f,g⟩:=h;subst e;exact .cons f g.paired
theorem iZ:∀{ds:List aD}{xs:List V},abO (Den K H) ds xs->DenAll K H ds xs
 |_,_,.nil=>DenAll.nil
 |_,_,.cons f t=>DenAll.cons f (iZ t)
def DenAll.length(h:DenAll K H ds xs):ds.length=xs.length:=h.paired.length
theorem Paired.get'{d β:Type}{F:d->β->Prop}:∀{l:List d}{c:List β}{i:Nat}{a:d},abO F l c->l[i]?=some a->∃b,c[i]?=some b/\F a b
 |_,_,_,_,.nil,e=>by simp at e
 |_,_,0,_,.cons f _,e=>by simp at e;subst e;exact⟨_,rfl,f⟩
 |_,_,i+1,a,.cons _ t,e=>by
  let⟨b,h,g⟩:=Paired.get' t ‹_›;exact⟨b,by simpa using h,g⟩
def DenAll.get{d:aD}(h:DenAll K H ds xs)(e:ds[i]?=some d):∃v,xs[i]?=some v/\Den K H d v:=Paired.get' h.paired e
theorem Paired.get2{d β:Type}{F:d->β->Prop}:∀{l:List d}{c:List β}{i:Nat}{b:β},abO F l c->c[i]?=some b->∃a,l[i]?=some a/\F a b
 |_,_,_,_,.nil,e=>by simp at e
 |_,_,0,_,.cons f _,e=>by simp at e;subst e;exact⟨_,rfl,f⟩
 |_,_,i+1,b,.cons _ t,e=>by
  let⟨a,h,g⟩:=Paired.get2 t ‹_›;exact⟨a,by simpa using h,g⟩
def DenAll.get2(h:DenAll K H ds xs)(e:xs[i]?=some v):∃d,ds[i]?=some d/\Den K H d v:=Paired.get2 h.paired e
theorem Paired.append'{e β:Type}{F:e->β->Prop}:∀{a b:List e}{c d:List β},abO F a c->abO F b d->abO F (a++b) (c++d)
 |_,_,_,_,.nil,s=>s
 |_,_,_,_,.cons r t,s=>.cons r (Paired.append' t s)
def DenAll.append{e:List aD}{ys:List V}(h:DenAll K H ds xs)(g:DenAll K H e ys):DenAll K H (ds++e) (xs++ys):=iZ (Paired.append' h.paired g.paired)
theorem Paired.take'{b β:Type}{F:b->β->Prop}:∀{a:List b}{l:List β} (n:Nat),abO F a l->abO F (a.take n) (l.take n)
 |_,_,0,_=>.nil
 |_,_,_+1,.nil=>.nil
 |_,_,n+1,.cons r t=>.cons r (Paired.take' n t)
theorem Paired.drop'{b β:Type}{F:b->β->Prop}:∀{a:List b}{l:List β} (n:Nat),abO F a l->abO F (a.drop n) (l.drop n)
 |_,_,0,h=>h
 |_,_,_+1,.nil=>.nil
 |_,_,n+1,.cons _ t=>Paired.drop' n t
def DenAll.take(h:DenAll K H ds xs)(n:Nat):DenAll K H (ds.take n) (xs.take n):=iZ (Paired.take' n h.paired)
def DenAll.drop(h:DenAll K H ds xs)(n:Nat):DenAll K H (ds.drop n) (xs.drop n):=iZ (Paired.drop' n h.paired)
theorem DenAll.ints:∀ns:List Int,DenAll K H (ns.map .int) (ns.map V.int)
 |[]=>DenAll.nil
 |n::ns=>DenAll.cons rfl (DenAll.ints ns)
end
def fzOf:List (aD×aD)->Option aD
 |[(.none,.list ds)]=>some (.list ds)
 |[(.none,.dict es)]=>some (.dict es)
 |_=>none
mutual
def TAt(K:Kd)(H:Hp)(τ:List (List Nat×Addr))(p:List Nat):aD->V->Prop
 | .list ts,v=>∃a f,τ.lookup p=some a/\v = .ref a/\H a=some (.lst f)/\TAtL K H τ p 0 ts f
 | .dict kvs,v=>(∃d,fzOf kvs=some d/\Den K H d v) \/
   (fzOf kvs=none/\excC kvs=none/\∃a e,τ.lookup p=some a/\v = .ref a/\H a=some (dX a e)/\zN kvs/\TAtD K H τ p 0 kvs e) \/
   (fzOf kvs=none/\excC kvs=none/\∃a e,τ.lookup p=some a/\v = .ref a/\H a=some (.dK e)/\TAtK K H τ p 0 kvs e) \/
   ∃c a dx C f,excC kvs=some c/\τ.lookup p=some a/\v = .ref a/\H a=some (.ins C dx f)/\ClsN K c C/\TAtF K H τ p 0 kvs f
 | .none,v=>Den K H .none v
 | .bool b,v=>Den K H (.bool b) v
 | .int i,v=>Den K H (.int i) v
 | .str x,v=>Den K H (.str x) v
 | .tuple ds,v=>Den K H (.tuple ds) v
def TAtL(K:Kd)(H:Hp)(τ:List (List Nat×Addr))(p:List Nat)(i:Nat):List aD->List V->Prop
 |[],xs=>xs=[]
 |t::ts,xs=>∃v vs,xs=v::vs/\TAt K H τ (p++[i]) t v/\TAtL K H τ p (i+1) ts vs
def TAtD(K:Kd)(H:Hp)(τ:List (List Nat×Addr))(p:List Nat)(i:Nat):List (aD×aD)->List (Int×V×V)->Prop
 |[],es=>es=[]
 |(k,t)::r,es=>∃u v vs,es=(gI K.w k,u,v)::vs/\Den K H k u/\TAt K H τ (p++[i]) t v/\TAtD K H τ p (i+1) r vs
def TAtK(K:Kd)(H:Hp)(τ:List (List Nat×Addr))(p:List Nat)(i:Nat):List (aD×aD)->List (Key×V)->Prop
 |[],es=>es=[]
 |(k,t)::r,es=>∃a v vs,es=(a,v)::vs/\(k=keyD a/\∀x∈vs,x.1≠a)/\TAt K H τ (p++[i]) t v/\TAtK K H τ p (i+1) r vs
def TAtF(K:Kd)(H:Hp)(τ:List (List Nat×Addr))(p:List Nat)(i:Nat):List (aD×aD)->List (Str×V)->Prop
 |[],xs=>xs=[]
 |(k,t)::r,xs=>match k with
  | .str f=>∃v vs,xs=(f,v)::vs/\TAt K H τ (p++[i]) t v/\TAtF K H τ p (i+1) r vs
  | .none=>TAtF K H τ p (i+1) r xs
  |_=>False
end
theorem bX{β b:Type}[BEq β][LawfulBEq β]{l:List (β×b)}{p:β}{a:b}(h:l.lookup p=some a):a∈l.map (·.2):=by
 induction l with
 |nil=>cases h
 |cons x l i=>
  grind
section
variable {K:Kd}{H H':Hp}{τ:List (List Nat×Addr)}
mutual
theorem TAt.mono(f:Pers H H')(e:∀a∈τ.map (·.2),H' a=H a):∀{d:aD}{p:List Nat}{v:V},TAt K H τ p d v->TAt K H' τ p d v
 | .none,_,_,h=>by simp only[TAt]at h⊢;exact h.mono f
 | .bool _,_,_,h=>by simp only[TAt]at h⊢;exact h.mono f
 | .int _,_,_,h=>by simp only[TAt]at h⊢;exact h.mono f
 | .str _,_,_,h=>by simp only[TAt]at h⊢;exact h.mono f
 | .tuple _,_,_,h=>by simp only[TAt]at h⊢;exact h.mono f
 | .list ts,_,_,h=>by
  simp only[TAt]at h⊢;let⟨a,x,b,i,j,g⟩:=h;exact⟨a,x,b,i,(e a (bX b)).trans j,TAtL.mono f e g⟩
 | .dict kvs,_,_,h=>by
  simp only[TAt]at h⊢;rcases h with⟨d,b,h⟩|⟨m,z,a,l,b,i,j,k,g⟩|⟨m,z,a,l,b,i,j,g⟩|⟨c,a,dx,C,x,n,b,i,j,k,g⟩
  .exact .inl ⟨d,b,h.mono f⟩
  .exact .inr (.inl ⟨m,z,a,l,b,i,(e a (bX b)).trans j,k,TAtD.mono f e g⟩)
  .exact .inr (.inr (.inl ⟨m,z,a,l,b,i,(e a (bX b)).trans j,TAtK.mono f e g⟩))
  .exact .inr (.inr <| .inr ⟨c,a,dx,C,x,n,b,i,(e a (bX b)).trans j,k,TAtF.mono f e g⟩)
theorem TAtL.mono(b:Pers H H')(e:∀a∈τ.map (·.2),H' a=H a):∀{ds:List aD}{p:List Nat}{i:Nat}{xs:List V},TAtL K H τ p i ds xs->TAtL K H' τ p i ds xs
 |[],_,_,_,h=>by simpa only[TAtL]using h
 |t::ts,_,_,_,h=>by
  simp only[TAtL]at h⊢;let⟨v,vs,c,d,g⟩:=h;exact⟨v,vs,c,TAt.mono b e d,TAtL.mono b e g⟩
theorem TAtD.mono(b:Pers H H')(e:∀a∈τ.map (·.2),H' a=H a):∀{ds:List (aD×aD)}{p:List Nat}{i:Nat}{xs:List (Int×V×V)},TAtD K H τ p i ds xs->TAtD K H' τ p i ds xs
 |[],_,_,_,h=>by simpa only[TAtD]using h
 |(k,t)::r,_,_,_,h=>by
  simp only[TAtD]at h⊢;let⟨u,v,vs,c,d,f,g⟩:=h;exact⟨u,v,vs,c,d.mono b,TAt.mono b e f,TAtD.mono b e g⟩
theorem TAtK.mono(b:Pers H H')(e:∀a∈τ.map (·.2),H' a=H a):∀{ds:List (aD×aD)}{p:List Nat}{i:Nat}{xs:List (Key×V)},TAtK K H τ p i ds xs->TAtK K H' τ p i ds xs
 |[],_,_,_,h=>by simpa only[TAtK]using h
 |(k,t)::r,_,_,_,h=>by
  simp only[TAtK]at h⊢;let⟨u,v,vs,c,d,f,g⟩:=h;exact⟨u,v,vs,c,d,TAt.mono b e f,TAtK.mono b e g⟩
theorem TAtF.mono(b:Pers H H')(e:∀a∈τ.map (·.2),H' a=H a):∀{ds:List (aD×aD)}{p:List Nat}{i:Nat}{xs:List (Str×V)},TAtF K H τ p i ds xs->TAtF K H' τ p i ds xs
 |[],_,_,_,h=>by simpa only[TAtF]using h
 |(.str f,t)::r,_,_,_,h=>by
  simp only[TAtF]at h⊢;let⟨v,vs,c,j,g⟩:=h;exact⟨v,vs,c,TAt.mono b e j,TAtF.mono b e g⟩
 |(.none,d)::r,_,_,_,h=>by simp only[TAtF]at h⊢;exact TAtF.mono b e h
 |(.bool _,d)::r,_,_,_,h=>by simp only[TAtF]at h
 |(.int _,d)::r,_,_,_,h=>by simp only[TAtF]at h
 |(.list _,d)::r,_,_,_,h=>by simp only[TAtF]at h
 |(.tuple _,d)::r,_,_,_,h=>by simp only[TAtF]at h
 |(.dict _,d)::r,_,_,_,h=>by simp only[TAtF]at h
end
end
abbrev Cx.kd(X:Cx):Kd:=⟨X.K,X.w⟩
section
variable {X:Cx}{pins:List (Addr×Obj)}{σ:St}{H:Hp}{s:GT}
mutual
theorem Den.reads(I:Inv X pins σ H s):∀{d:aD}{v:V}{u:Ad},d.hasDict=false->Den X.kd H d v->RelV v u->∃as,Reads s.heap u d as
 | .none,v,u,_,h,r=>by simp only[Den]at h;subst h;cases r;exact⟨_,.none⟩
 | .bool b,v,u,nd,h,r=>by simp only[Den]at h;subst h;cases r;exact⟨_,.bool b⟩
 | .int i,v,u,nd,h,r=>by simp only[Den]at h;subst h;let⟨t,rfl⟩:=r;exact⟨_,.int i t⟩
 | .str x,v,u,nd,h,r=>by simp only[Den]at h;subst h;let⟨t,rfl⟩:=r;exact⟨_,.str x t⟩
 | .list ds,v,u,nd,h,r=>by
  simp only[Den]at h;let⟨a,p,rfl,f,g⟩:=h;cases r;let⟨m,l,⟨o,n,e,c,_,j⟩,_⟩:=I.list f.sq;let⟨as,k⟩:=DenAll.reads I (by simpa only[acm]using nd) g l;exact⟨_,.list e c j (by simpa using k)⟩
 | .tuple ds,v,u,nd,h,r=>by
  simp only[Den]at h;let⟨a,p,rfl,f,g⟩:=h;cases r;let⟨m,l,⟨o,e,c,n,j⟩,_⟩:=I.tuple f;let⟨as,k⟩:=DenAll.reads I (by simpa only[acm]using nd) g l;exact⟨_,.tuple e c j (by simpa using k)⟩
 | .dict _,v,u,nd,h,r=>by simp[acm]at nd
theorem DenAll.reads(I:Inv X pins σ H s):∀{ds:List aD}{xs:List V}{us:List Ad},ade ds=false->DenAll X.kd H ds xs->Vals xs us->∃as,adF s.heap us ds as
 |[],xs,us,_,h,r=>by simp only[DenAll]at h;subst h;cases r;exact⟨_,.nil⟩
 | d::ds,xs,us,nd,h,r=>by
  simp only[ade,aep]at nd;simp only[DenAll]at h;let⟨v,vs,rfl,f,g⟩:=h
  cases r with
  |cons r1 c=>
   let⟨a1,a⟩:=Den.reads I nd.1 f r1;let⟨a2,b⟩:=DenAll.reads I nd.2 g c;exact⟨_,.cons a b⟩
end
theorem Inv.freeze(I:Inv X pins σ H s)(h:H a=some (.lst xs)):∃o,Inv X pins σ (upd H a (.frz o (.lst xs))) s:=by
 let⟨f,i,n,r,e⟩:=I.hok a _ h;refine⟨{cls:=.type "list",data:=.seq i.toArray n},I.un (h':=s.heap) (t':=s.toks) ⟨λb d q _ _ _=>q,λb d q _ _ _=>⟨d.slots,q⟩,λb d q z _=>?_,λb d q _=>⟨d,q⟩,λb y q=>?_,λb d u q=>?_,λb p q=>⟨#[],?_⟩⟩ λb d q=>?_⟩
 .rw[au (ab0 (bq h z))];exact z
 .rw[au (uw q h (by simp))];exact q
 .rw[au (uw q h (by intro z;cases z))];exact q
 .rw[au (uw q h (by simp)),q];simp
 .by_cases hb:b=a
  .subst hb;rw[av]at q;cases q;exact⟨e,f,i,n,r,e⟩
  .rw[au hb]at q;exact(I.hok b d q).stay (λ_ _ _ z=>z) (λc z=>by rw[au (uw z h (by simp))];exact z) λc y z=>by rw[au (uw z h (by simp))];exact z
end
def F8:Expr->Bool
 | .Starred ..=>true
 |_=>false
def aI{a:List Expr}(h:F8 e=false):aag (e::a) env=(false,eval e env)::aag a env:=by
 cases e<;>first|rfl|cases h
def cE(h:F8 e=false):aag [e] env=[(false,eval e env)]:=aI h
inductive R where
 |imm (d:aD)|obj (k:Nat)|new (ds:List aD)|at (k:Nat) (p:List Nat)|newT (t:aD)
structure MSt where
 vs:List (Option R)
 os:List (List aD)
 np:Nat
structure Kx extends Kd where
 eb:EB
instance:Coe Kx Kd:=⟨Kx.toKd⟩
abbrev Cx.kx(X:Cx):Kx:=⟨X.kd,X.eb⟩
abbrev Al:=List Ao
def Ao.ads:Ao->List Addr
 | .L a=>[a]
 | .T t=>t.map (·.2)
def ads(a:Al):List Addr:=a.flatMap Ao.ads
def jv(a β:Al):ads (a++β)=ads a++ads β:=by unfold ads;rw[adu]
def Mu:HO->Bool
 | .tup _=>false
 | .frz _ _=>false
 |_=>true
def OwnAt(K:Kd)(H:Hp):Ao->List aD->Prop
 | .L a,ds=>∃x,H a=some (.lst x)/\DenAll K H ds x
 | .T τ,ds=>(∃t v,ds=[t]/\TAt K H τ [] t v/\∃a,τ.lookup []=some a/\v = .ref a)/\∀a∈τ.map (·.2),∃o,H a=some o/\Mu o=true
theorem OwnAt.mem(h:OwnAt K H ao ds)(c:a∈ao.ads):∃o,H a=some o/\Mu o=true:=by
 cases ao with
 |L b=>cases aah.mp c;let⟨x,e,_⟩:=h;exact⟨_,e,rfl⟩
 |T d=>exact h.2 a c
theorem OwnAt.mono(h:OwnAt K H ao ds)(p:Pers H H')(e:∀a∈ao.ads,H' a=H a):OwnAt K H' ao ds:=by
 cases ao with
 |L b=>
  let⟨x,q,g⟩:=h;exact⟨x,(e b (aah.mpr rfl)).trans q,g.mono p⟩
 |T f=>
  let⟨⟨t,v,d,g,r⟩,m⟩:=h;exact⟨⟨t,v,d,g.mono p e,r⟩,λa c=>by rw[e a c];exact m a c⟩
def RelS(K:Kd)(c:Al)(H:Hp):R->V->Prop
 | .imm d,v=>Den K H d v
 | .obj k,v=>∃a,c[k]?=some (.L a)/\v = .ref a
 | .at k p,v=>∃b a,c[k]?=some (.T b)/\b.lookup p=some a/\v = .ref a
 | .new _,_=>False
 | .newT _,_=>False
def RelR(K:Kd)(f:Al)(e H:Hp):R->V->Prop
 | .imm d,v=>Den K H d v
 | .obj k,v=>∃a,f[k]?=some (.L a)/\v = .ref a
 | .at k p,v=>∃c a,f[k]?=some (.T c)/\c.lookup p=some a/\v = .ref a
 | .new ds,v=>∃a x,v = .ref a/\e a=none/\H a=some (.lst x)/\DenAll K H ds x
 | .newT t,v=>∃c a,v = .ref a/\c.lookup []=some a/\(c.map (·.2)).Nodup/\(∀b∈c.map (·.2),e b=none)/\OwnAt K H (.T c) [t]
def Frm(c:Al)(H a:Hp):Prop:=∀b o,H b=some o->b∉ads c->a b=some o
theorem Frm.refl(a:Al)(H:Hp):Frm a H H:=λ_ _ e _=>e
theorem Frm.trans(a:Frm α H H1)(b:Frm α H1 H2):Frm α H H2:=λc o e n=>b c o (a c o e n) n
structure Ext(np:Nat)(α:Al)(H:Hp)(α':Al)(H':Hp):Prop where
 pre:α'.take np=α.take np
 frm:Frm α H H'
 new:∀a∈ads α',a∈ads α\/H a=none
 old:∀a∈ads α,∃o,H' a=some o
theorem Ext.trans{np:Nat}{c:Al}(x:Ext np α H α1 H1)(y:Ext np α1 H1 c H2):Ext np α H c H2:=by
 have out:∀b o,H b=some o->b∉ads α->b∉ads α1:=λb o e n f=>by
  rcases x.new b f with z|z
  .exact n z
  .grind
 refine⟨y.pre.trans x.pre,λb o e n=>y.frm b o (x.frm b o e n) (out b o e n),λa d=>?_,λa d=>?_⟩
 .rcases y.new a d with z|z
  .exact x.new a z
  .cases q:H a with
   |none=>exact .inr rfl
   | some o=>
    by_cases h:a∈ads α
    .exact .inl h
    .have:=x.frm a o q h
     grind
 .obtain⟨o,e⟩:=x.old a d
  by_cases h:a∈ads α1
  .exact y.old a h
  .exact⟨o,y.frm a o e h⟩
theorem Ext.nil{np:Nat}(x:Ext np α H α1 H1)(h:H1 a=none):H a=none:=by
 cases q:H a with
 |none=>rfl
 | some o=>
  by_cases b:a∈ads α
  .obtain⟨o',e⟩:=x.old a b
   grind
  .have:=x.frm a o q b
   grind
def Ext.less{np n1:Nat}(x:Ext n1 α H α' H')(h:np≤n1):Ext np α H α' H':=by
 refine⟨?_,x.frm,x.new,x.old⟩;have:=congrArg (agm np) x.pre;rw[List.take_take,List.take_take,Nat.min_eq_left h]at this;omega
structure Rel(K:Kx)(α:Al)(m:MSt)(σ:St)(H:Hp):Prop where
 nd:(ads α).Nodup
 len:α.length=m.os.length
 own:∀(k:Nat) (ao:Ao) (ds:List aD),α[k]?=some ao->m.os[k]?=some ds->OwnAt K H ao ds
 vlen:σ.length=m.vs.length
 var:∀(i:Nat) (r:R),m.vs[i]?=some (some r)->∃v,σ[i]?=some (some v)/\RelS K α H r v
 npl:m.np≤α.length
 ebl:K.eb.np≤m.np
 ebx:Ext K.eb.np K.eb.be K.eb.H α H
section
variable {K:Kx}{α:Al}{m m':MSt}{σ:St}{H H0 H1 H':Hp}{r:R}{v:V}
theorem RelS.rr{K:Kd}(h:RelS K α H r v):RelR K α Hb H r v:=by
 cases r with
 |imm d=>exact h
 |obj k=>exact h
 | «at» k p=>exact h
 |new ds=>exact h.elim
 |newT t=>exact h.elim
theorem Rel.mem(R:Rel K α m σ H)(f:a∈ads α):∃o,H a=some o/\Mu o=true:=by
 let⟨c,h,d⟩:=ace.mp f;let⟨k,hk,e⟩:=abY.mp h;have h:α[k]?=some c:=by rw[iO hk,e]
 have b:m.os[k]?=some (m.os[k]'(by rw[<-R.len];exact hk)):=iO _;exact(R.own k c _ h b).mem d
theorem Rel.out(R:Rel K α m σ H)(h:H a=none):a∉ads α:=λb=>by
 obtain _:=R.mem b
 grind
theorem Rel.pers(R:Rel K α m σ H)(F:Frm α H H'):Pers H H' where
 tups:=λb x e=>F b _ e λh=>by let⟨y,q,z⟩:=R.mem h;rw[e]at q;cases q;cases z
 frzs:=λb o u e=>F b _ e λh=>by let⟨y,q,z⟩:=R.mem h;rw[e]at q;cases q;cases z
theorem Ext.of{np:Nat}(R:Rel K α m σ H')(F:Frm α H H'):Ext np α H α H':=
 ⟨rfl,F,λ_ h=>.inl h,λa b=>let ⟨xs,q,_⟩:=R.mem b;⟨_,q⟩⟩
theorem OwnAt.keep{K:Kd}(h:OwnAt K H1 ao ds)(p:Pers H1 H)(F:Frm α H1 H)(n:∀b∈ao.ads,b∉ads α):OwnAt K H ao ds:=
 h.mono p λa c=>by
  let⟨o,e,_⟩:=h.mem c;rw[e];exact F a o e (n a c)
theorem RelR.keep(c:Rel K α m σ H0)(R:Rel K α m' σ H1)(F:Frm α H1 H)(h:RelR K α H0 H1 r v):RelR K α H0 H r v:=by
 cases r with
 |imm d=>exact Den.mono (R.pers F) h
 |obj k=>exact h
 | «at» k p=>exact h
 |new ds=>
  let⟨a,x,e,n,q,g⟩:=h;exact⟨a,x,e,n,F a _ q (c.out n),g.mono (R.pers F)⟩
 |newT t=>
  let⟨i,a,e,f,nd,n,g⟩:=h;exact⟨i,a,e,f,nd,n,g.keep (R.pers F) F λb j=>c.out (n b j)⟩
theorem RelR.base(R:Rel K α m σ H)(F:Frm α H0 H)(h:RelR K α H H' r v):RelR K α H0 H' r v:=by
 have old:∀a,H a=none->H0 a=none:=λa n=>by
  cases z:H0 a with
  |none=>rfl
  |some o=>
   have:=F a o z (R.out n)
   grind
 cases r with
 |imm d=>exact h
 |obj k=>exact h
 | «at» k p=>exact h
 |new ds=>
  let⟨a,x,e,n,q,g⟩:=h;exact⟨a,x,e,old a n,q,g⟩
 |newT t=>
  let⟨f,a,e,c,nd,n,g⟩:=h;exact⟨f,a,e,c,nd,λb i=>old b (n b i),g⟩
def chD:aD->Nat->Option aD
 | .list ts,i=>ts[i]?
 | .dict kvs,i=>match kvs[i]? with
  |some (.none,_)=>none
  |some (_,t)=>some t
  |none=>none
 |_,_=>none
def getT:aD->List Nat->Option aD
 |t,[]=>some t
 |t,i::p=>(chD t i).bind λa=>getT a p
def g9:aD->Option aD
 | .list _=>none
 | .dict k=>fzOf k
 |d=>some d
def cY:List aD->Option (List aD)
 |[]=>some []
 |t::ts=>match g9 t,cY ts with|some d,some ds=>some (d::ds)|_,_=>none
def ndL(m:MSt)(k:Nat)(p:List Nat):Option (List aD):=match m.os[k]? with
 |some [t]=>match getT t p with
  |some (.list ts)=>cY ts
  |_=>none
 |_=>none
theorem iw{K:Kd}{p:List Nat}{t d:aD}(h:TAt K H τ p t v)(e:g9 t=some d):Den K H d v:=by
 cases t with
 |list ts=>cases e
 | dict k=>
  have b:fzOf k=some d:=e;rcases h with _|⟨z,_⟩|⟨z,_⟩|⟨c,a,dx,C,x,f,_⟩
  .simp_all
  .simp_all
  .rw[b]at z;cases z
  .exfalso;unfold fzOf at b;unfold excC at f
   split at b<;>contradiction
 |none=>cases e;simpa only[TAt]using h
 |bool _=>cases e;simpa only[TAt]using h
 |int _=>cases e;simpa only[TAt]using h
 |str _=>cases e;simpa only[TAt]using h
 |tuple _=>cases e;simpa only[TAt]using h
theorem jc{K:Kd}{τ:List (List Nat×Addr)}{p:List Nat}:∀{ts ds:List aD}{i:Nat}{xs:List V},TAtL K H τ p i ts xs->cY ts=some ds->DenAll K H ds xs
 |[],ds,i,xs,h,e=>by
  cases e;subst h;rfl
 | t::ts,ds,i,xs,h,e=>by
  let⟨v,vs,rfl,b,g⟩:=h;simp[cY]at e
  cases q1:g9 t with
  |none=>rw[q1]at e;cases e
  | some d=>
   cases q2:cY ts with
   |none=>rw[q1,q2]at e;cases e
   |some a=>
    rw[q1,q2]at e;cases e;exact DenAll.cons (iw b q1) (jc g q2)
theorem TAtL.get{K:Kd}{τ:List (List Nat×Addr)}{p:List Nat}:∀{ts:List aD}{i j:Nat}{xs:List V}{t:aD},TAtL K H τ p i ts xs->ts[j]?=some t->∃v,xs[j]?=some v/\TAt K H τ (p++[i+j]) t v
 |[],_,_,_,_,_,e=>by simp at e
 |t::ts,i,0,xs,t',h,e=>by
  let⟨v,vs,rfl,d,_⟩:=h;simp at e;subst e;exact⟨v,rfl,d⟩
 |t::ts,i,j+1,xs,t',h,e=>by
  let⟨v,vs,rfl,_,g⟩:=h;let⟨a,c,b⟩:=TAtL.get g ‹_›;exact⟨a,by simpa using c,by rw[show i+(j+1)=i+1+j by omega];exact b⟩
theorem TAtD.get{K:Kd}{τ:List (List Nat×Addr)}{p:List Nat}:∀{ts:List (aD×aD)}{i j:Nat}{xs:List (Int×V×V)}{k t:aD},TAtD K H τ p i ts xs->ts[j]?=some (k,t)->∃u v,xs[j]?=some (gI K.w k,u,v)/\Den K H k u/\TAt K H τ (p++[i+j]) t v
 |[],_,_,_,_,_,_,e=>by simp at e
 |(k,t)::ts,i,0,xs,k',t',h,e=>by
  let⟨u,v,vs,rfl,l,n,_⟩:=h;simp at e;let⟨rfl,rfl⟩:=e;exact⟨u,v,rfl,l,n⟩
 |(k,t)::ts,i,j+1,xs,k',t',h,e=>by
  let⟨u,v,vs,rfl,_,_,g⟩:=h;let⟨f,a,b,c,d⟩:=TAtD.get g ‹_›;exact⟨f,a,by simpa using b,c,by rw[show i+(j+1)=i+1+j by omega];exact d⟩
theorem TAtK.get{K:Kd}{τ:List (List Nat×Addr)}{p:List Nat}:∀{ts:List (aD×aD)}{i j:Nat}{xs:List (Key×V)}{k t:aD},TAtK K H τ p i ts xs->ts[j]?=some (k,t)->∃v,TAt K H τ (p++[i+j]) t v
 |[],_,_,_,_,_,_,e=>by simp at e
 |(k,t)::ts,i,0,xs,k',t',h,e=>by
  let⟨u,v,vs,rfl,d,c,_⟩:=h;simp at e;let⟨rfl,rfl⟩:=e;exact⟨v,c⟩
 |(k,t)::ts,i,j+1,xs,k',t',h,e=>by
  let⟨u,v,vs,rfl,_,_,g⟩:=h;let⟨a,b⟩:=TAtK.get g ‹_›;exact⟨a,by rw[show i+_=i+1+j by omega];exact b⟩
theorem TAtF.get{K:Kd}{τ:List (List Nat×Addr)}{p:List Nat}:∀{ts:List (aD×aD)}{i j:Nat}{xs:List (Str×V)}{f:Str}{t:aD},TAtF K H τ p i ts xs->ts[j]?=some (.str f,t)->∃v,(f,v)∈xs/\TAt K H τ (p++[i+j]) t v
 |[],_,_,_,_,_,_,e=>by simp at e
 |(k,t)::ts,i,0,xs,f,t',h,e=>by
  simp_all
  let⟨v,vs,rfl,d,_⟩:=h;exact⟨v,aac,d⟩
 | (k,t)::ts,i,j+1,xs,f,t',h,e=>by
  have go:∀{y:List (Str×V)},TAtF K H τ p (i+1) ts y->∃v,(f,v)∈y/\TAt K H τ (p++[i+(j+1)]) t' v:=λ{y} g=>by
   let⟨a,c,b⟩:=TAtF.get (j:=j) g (by simpa using e);exact⟨a,c,by rw[show i+(j+1)=i+1+j by omega];exact b⟩
  cases k with
  |str l=>
   simp only[TAtF]at h;let⟨v,vs,rfl,_,g⟩:=h;let⟨a,c,b⟩:=go g;exact⟨a,aad _ c,b⟩
  |none=>simp only[TAtF]at h;exact go h
  |bool _=>simp only[TAtF]at h
  |int _=>simp only[TAtF]at h
  |list _=>simp only[TAtF]at h
  |tuple _=>simp only[TAtF]at h
  |dict _=>simp only[TAtF]at h
theorem TAtF.key{K:Kd}{p:List Nat}:∀{ts:List (aD×aD)}{i:Nat}{xs:List (Str×V)}{k t:aD},TAtF K H τ p i ts xs->(k,t)∈ts->k≠.none->∃f,k = .str f
 |[],_,_,_,_,_,e,_=>by simp at e
 | (k,t)::ts,i,xs,k',t',h,e,kn=>by
  cases k with
  |str a=>
   let⟨v,vs,rfl,_,g⟩:=h;rcases aak.mp e with e|e
   .grind
   .exact g.key e kn
  |none=>
   simp only[TAtF]at h;rcases aak.mp e with e|e
   .grind
   .exact h.key e kn
  |bool _=>simp[TAtF]at h
  |int _=>simp[TAtF]at h
  |list _=>simp only[TAtF]at h
  |tuple _=>simp only[TAtF]at h
  |dict _=>simp[TAtF]at h
theorem TAt.get{K:Kd}{τ:List (List Nat×Addr)}:∀{q p:List Nat}{t t':aD}{v:V},TAt K H τ p t v->getT t q=some t'->∃v',TAt K H τ (p++q) t' v'
 |[],p,t,t',v,h,e=>by cases e;exact⟨v,by rw[aa0];exact h⟩
 | i::q,p,t,t',v,h,e=>by
  simp only[getT]at e
  cases z:chD t i with
  |none=>rw[z]at e;cases e
  | some n=>
   rw[z]at e;have B:getT n q=some t':=e;have step:∃l,TAt K H τ (p++[i]) n l:=by
    cases t with
    |list ts=>
     simp only[TAt]at h;let⟨a,G,_,_,_,g⟩:=h;let⟨l,_,b⟩:=g.get (j:=i) z;exact⟨l,by rw[acJ]at b;exact b⟩
    | dict s=>
     simp only[chD]at z
     cases zi:s[i]? with
     |none=>rw[zi]at z;cases z
     | some y=>
      let⟨k,D⟩:=y;rw[zi]at z;have w:k≠.none:=λq=>by subst q;cases z
      have A:D=n:=by
       split at z<;>simp_all
      subst A;simp only[TAt]at h;rcases h with⟨d,o,_⟩|⟨_,_,a,F,_,_,_,_,g⟩|⟨_,_,a,F,_,_,_,g⟩|⟨c,a,dx,C,G,I,_,_,_,_,g⟩
      .exfalso;unfold fzOf at o
       split at o
       .cases i<;>simp at zi;exact w zi.1.symm
       .cases i<;>simp at zi;exact w zi.1.symm
       .cases o
      .obtain⟨u,l,_,_,b⟩:=g.get (j:=i) zi;exact⟨l,by rw[acJ]at b;exact b⟩
      .obtain⟨l,b⟩:=g.get (j:=i) zi;exact⟨l,by rw[acJ]at b;exact b⟩
      .obtain⟨f,rfl⟩:=g.key (Io zi) w;let⟨l,_,b⟩:=g.get (j:=i) zi;exact⟨l,by rw[acJ]at b;exact b⟩
    |none=>cases z
    |bool _=>cases z
    |int _=>cases z
    |str _=>cases z
    |tuple _=>cases z
   let⟨l,E⟩:=step;let⟨v',x⟩:=TAt.get E B;exact⟨v',by rw[aaV]at x;exact x⟩
def lsOf(m:MSt):R->Option (List aD)
 | .imm (.list ds)=>some ds
 | .obj k=>m.os[k]?
 | .new ds=>some ds
 | .at k p=>ndL m k p
 |_=>none
mutual
def eraT:aD->Option aD
 | .list ts=>(eraL ts).map .list
 | .dict k=>fzOf k
 | .none=>some .none
 | .bool b=>some (.bool b)
 | .int i=>some (.int i)
 | .str x=>some (.str x)
 | .tuple ds=>some (.tuple ds)
def eraL:List aD->Option (List aD)
 |[]=>some []
 |t::ts=>match eraT t,eraL ts with|some d,some ds=>some (d::ds)|_,_=>none
end
def ndT(m:MSt)(k:Nat)(p:List Nat):Option aD:=match m.os[k]? with
 |some [t]=>getT t p
 |_=>none
def asD(m:MSt):R->Option aD
 | .imm d=>some d
 | .obj k=>(m.os[k]?).map .list
 | .new ds=>some (.list ds)
 | .at k p=>match ndT m k p with
  |some (.list ts)=>(eraL ts).map .list
  |_=>none
 | .newT _=>none
theorem RelR.node(R:Rel K α m σ H){k:Nat}{p:List Nat}(h:RelR K α H0 H (.at k p) v){t:aD}(e:ndT m k p=some t):∃τ a v',α[k]?=some (.T τ)/\τ.lookup p=some a/\v = .ref a/\TAt K H τ p t v':=by
 let⟨τ,a,b,d,i⟩:=h;unfold ndT at e
 split at e
 .rename_i t0 e0;let⟨⟨j,l,f,g,_⟩,_⟩:=R.own k _ _ b e0;cases f;let⟨v',c⟩:=g.get e;exact⟨τ,a,v',b,d,i,by simpa using c⟩
 .cases e
theorem RelR.list(R:Rel K α m σ H)(h:RelR K α H0 H r v)(e:lsOf m r=some ds):∃a xs,v = .ref a/\SqL K H a xs/\DenAll K H ds xs:=by
 cases r with
 | imm d=>
  cases d with
  |list s=>
   cases e;have l:Den K H (.list ds) v:=h;let⟨a,xs,b,f,g⟩:=l;exact⟨a,xs,b,f.sq,g⟩
  |none=>cases e
  |bool _=>cases e
  |int _=>cases e
  |str _=>cases e
  |tuple _=>cases e
  |dict _=>cases e
 |obj k=>
  let⟨a,b,rfl⟩:=h;let⟨xs,q,g⟩:=R.own k _ ds b e;exact⟨a,xs,rfl,SqL.of q,g⟩
 |new s=>
  cases e;let⟨a,xs,b,n,q,g⟩:=h;exact⟨a,xs,b,SqL.of q,g⟩
 | «at» k p=>
  have c:ndL m k p=some ds:=e;let⟨ts,b,o⟩:∃ts,ndT m k p=some (.list ts)/\cY ts=some ds:=by
   unfold ndL at c;unfold ndT
   split at c
   .split at c
    .rename_i h0 _ ts h1;exact⟨ts,h1,c⟩
    .cases c
   .cases c
  let⟨w,a,t,_,j,rfl,g⟩:=RelR.node R h b;simp only[TAt]at g;let⟨u,xs,i,_,q,g⟩:=g;rw[j]at i;cases i;exact⟨a,xs,rfl,SqL.of q,jc g o⟩
 |newT _=>cases e
end
section
variable {X:Cx}{pins:List (Addr×Obj)}{σ:St}{H:Hp}{s:GT}{τ:List (List Nat×Addr)}
mutual
theorem TAt.reads(I:Inv X pins σ H s):∀{t d:aD}{p:List Nat}{v:V}{u:Ad},eraT t=some d->d.hasDict=false->TAt X.kd H τ p t v->RelV v u->∃as,Reads s.heap u d as
 | .none,d,p,v,u,e,nd,h,r=>by simp only[eraT]at e;cases e;simp only[TAt]at h;exact h.reads I nd r
 | .bool b,d,p,v,u,e,nd,h,r=>by simp only[eraT]at e;cases e;simp only[TAt]at h;exact h.reads I nd r
 | .int i,d,p,v,u,e,nd,h,r=>by simp only[eraT]at e;cases e;simp only[TAt]at h;exact h.reads I nd r
 | .str x,d,p,v,u,e,nd,h,r=>by simp only[eraT]at e;cases e;simp only[TAt]at h;exact h.reads I nd r
 | .tuple ds,d,p,v,u,e,nd,h,r=>by simp only[eraT]at e;cases e;simp only[TAt]at h;exact h.reads I nd r
 | .dict kvs,d,p,v,u,e,nd,h,r=>by
  simp only[eraT]at e;exact(iw h (show g9 (.dict kvs)=some d from e)).reads I nd r
 | .list ts,d,p,v,u,e,nd,h,r=>by
  simp only[eraT]at e
  cases q:eraL ts with
  |none=>rw[q]at e;cases e
  |some ds=>
   rw[q]at e;cases e;simp only[TAt]at h;let⟨a,w,_,rfl,f,g⟩:=h;cases r;let⟨m,l,⟨o,n,e,c,_,j⟩,_⟩:=I.list (SqL.of f);let⟨as,k⟩:=TAtL.reads I q (by simpa only[acm]using nd) g l;exact⟨_,.list e c j (by simpa using k)⟩
theorem TAtL.reads(I:Inv X pins σ H s):∀{ts ds:List aD}{p:List Nat}{i:Nat}{xs:List V}{us:List Ad},eraL ts=some ds->ade ds=false->TAtL X.kd H τ p i ts xs->Vals xs us->∃as,adF s.heap us ds as
 |[],ds,p,i,xs,us,e,nd,h,r=>by
  simp only[eraL]at e;cases e;simp only[TAtL]at h;subst h
  cases r;exact⟨_,.nil⟩
 | t::ts,ds,p,i,xs,us,e,nd,h,r=>by
  simp only[eraL]at e
  cases q1:eraT t with
  |none=>rw[q1]at e;cases e
  | some d=>
   cases q2:eraL ts with
   |none=>rw[q1,q2]at e;cases e
   | some f=>
    rw[q1,q2]at e;cases e;simp only[ade,aep]at nd;simp only[TAtL]at h;let⟨v,vs,rfl,j,g⟩:=h
    cases r with
    |cons r1 c=>
     let⟨a1,a⟩:=TAt.reads I q1 nd.1 j r1;let⟨a2,b⟩:=TAtL.reads I q2 nd.2 g c;exact⟨_,.cons a b⟩
end
end
theorem RelR.reads{s:GT}{m:MSt}{u:Ad}{d:aD}(I:Inv X pins σ H s)(R:Rel X.kx α m σ' H)(h:RelR X.kd α H0 H r v)(j:RelV v u)(e:asD m r=some d)(nd:d.hasDict=false):∃as,Reads s.heap u d as:=by
 have t:∀{ds:List aD},lsOf m r=some ds->ade ds=false->∃as,Reads s.heap u (.list ds) as:=λ{ds} e nd=>by
  let⟨a,z,rfl,f,g⟩:=RelR.list R h e;cases j;let⟨B,j,⟨o,n,e,c,_,x⟩,_⟩:=I.list f;let⟨as,y⟩:=DenAll.reads I nd g j;exact⟨_,.list e c x (by simpa using y)⟩
 cases r with
 |imm E=>cases e;exact Den.reads I nd h j
 | obj k=>
  cases q:m.os[k]? with
  |none=>simp[asD,q]at e
  |some ds=>
   simp[asD,q]at e;subst e;exact t q ‹_›
 |new ds=>cases e;exact t rfl (by simpa only[acm]using nd)
 | «at» k p=>
  let⟨ts,ds,q,b,rfl⟩:∃ts ds,ndT m k p=some (.list ts)/\eraL ts=some ds/\d = .list ds:=by
   unfold asD at e;simp only at e
   split at e
   .rename_i ts q
    cases b:eraL ts with
    |none=>rw[b]at e;cases e
    |some ds=>rw[b]at e;cases e;exact⟨ts,ds,q,b,rfl⟩
   .cases e
  let⟨F,a,C,_,w,rfl,g⟩:=RelR.node R h q;have l:=g;simp only[TAt]at l;let⟨D,z,i,A,_⟩:=l;rw[w]at i;cases i;subst A;exact TAt.reads I (by simp only[eraT,b,Option.map]) nd g j
 |newT _=>cases e
abbrev WE:=MSt->(R->MSt->Prop)->Prop
abbrev WT:=MSt->(Bool->MSt->Prop)->Prop
abbrev WA:=MSt->(List R->MSt->Prop)->Prop
def tM(K:Kx)(w:WE):TE:=λd H Q=>∃b m e,Rel K b m d H/\w m e/\∀r c v a,e r c->c.np=m.np->Rel K b c d a->RelR K b H a r v->Frm b H a->Q v a
def tMT(K:Kx)(w:WT):TT:=λe H Q=>∃d m f,Rel K d m e H/\w m f/\∀b c a,f b c->c.np=m.np->Rel K d c e a->Frm d H a->Q b a
inductive RelRs(K:Kd)(α:Al)(Hb H:Hp):List R->List V->Prop where
 |nil:RelRs K α Hb H [] []
 |cons {r:R}{rs:List R}{v:V}{vs:List V}:RelR K α Hb H r v->RelRs K α Hb H rs vs->RelRs K α Hb H (r::rs) (v::vs)
def tMA(K:Kx)(w:WA):TA:=λd H Q=>∃b m e,Rel K b m d H/\w m e/\∀rs c vs a,e rs c->c.np=m.np->Rel K b c d a->RelRs K b H a rs vs->Frm b H a->Q vs a
theorem PE.wk{t t':TE}(h:PE X e t)(k:∀a H Q,t' a H Q->t a H Q):PE X e t':=λp s a H Q I q=>h p s a H Q I (k _ _ _ q)
theorem PT.wk{t t':TT}(h:PT X e t)(k:∀a H Q,t' a H Q->t a H Q):PT X e t':=λp s a H Q I q=>h p s a H Q I (k _ _ _ q)
theorem PW.wk{t t':TT}(h:PW X e t)(k:∀a H Q,t' a H Q->t a H Q):PW X e t':=λw p s a H Q I q=>h w p s a H Q I (k _ _ _ q)
theorem PA.wk{e:List Expr}{t t':TA}(h:PA X e t)(k:∀a H Q,t' a H Q->t a H Q):PA X e t':=λb p s a H Q I q=>h b p s a H Q I (k _ _ _ q)
theorem PS.wk{e:Stmt}{t t':TS}(h:PS X e t)(k:∀D a H,t' D a H->t D a H):PS X e t':=λp s a H D I q=>h p s a H D I (k _ _ _ q)
theorem PSs.wk{e:List Stmt}{t t':TS}(h:PSs X e t)(k:∀D a H,t' D a H->t D a H):PSs X e t':=λp s a H D I q=>h p s a H D I (k _ _ _ q)
abbrev ME(X:Cx)(e:Expr)(w:WE):Prop:=PE X e (tM X.kx w)
abbrev MT(X:Cx)(e:Expr)(w:WT):Prop:=PT X e (tMT X.kx w)
abbrev MW(X:Cx)(e:Expr)(w:WT):Prop:=PW X e (tMT X.kx w)
abbrev MA(X:Cx)(e:List Expr)(w:WA):Prop:=PA X e (tMA X.kx w)
section
variable {X:Cx}{a b c:Expr}{l:List Expr}{f g n:WE}{pos:Pos}
def wVar(i:Nat):WE:=λm K=>∃r,m.vs[i]?=some (some r)/\K r m
abbrev wC(d:aD):WE:=λm K=>K (.imm d) m
theorem Oi{t:TE}{w:WE}(h:PE X a t)(k:∀d m e H K Q,Rel X.kx d m e H->w m K->(∀r o v i,K r o->o.np=m.np->Rel X.kx d o e i->RelR X.kx d H i r v->Frm d H i->Q v i)->t e H Q):ME X a w:=
 h.wk<|by intro e H Q ⟨d,m,K,R,p,j⟩;exact k d m e H K Q R p j
theorem me_c{d:aD}(h:PE X a (tC v))(hd:∀(K:Kd) H,Den K H d v):ME X a (wC d):=
 Oi h λo m j H k Q R i e=>e _ m v H i rfl R (hd _ _) (Frm.refl _ _)
def Rf{i j pos}:ME X (.Constant (.int i) j pos) (wC (.int i)):=me_c L7 λ_ _=>by simp[Den]
def R8{i j pos}:ME X (.Constant (.bool i) j pos) (wC (.bool i)):=me_c TM λ_ _=>by simp[Den]
def Oy{i j pos}:ME X (.Constant (.str i) j pos) (wC (.str i)):=me_c MH λ_ _=>by simp[Den]
def P6{j pos}:ME X (.Constant .none j pos) (wC .none):=me_c Qw λ_ _=>by simp[Den]
theorem Ph(h:PE X a (tVar i)):ME X a (wVar i):=
 Oi h λs m q H K Q R p d=>by
  let⟨r,e,k⟩:=p;let⟨v,j,o⟩:=R.var i r e;exact⟨v,j,d r m v H k rfl R o.rr (Frm.refl _ _)⟩
theorem mv(i:Nat){pos:Pos}(d:X.N[i]?=some x:=by rfl)(e:Vis X.env.scope x:=by first|exact afk rfl|exact ac9 (afk rfl)|exact ac9 (ac9 rfl))(hd:(x==("__debug__" : Str))=false:=by decide)(h:(x==("__classdict__" : Str))=false:=by decide):ME X (.Name x pos) (wVar i):=Ph (FY d e hd h)
abbrev WO:=R->R->MSt->(R->Prop)->Prop
def rM(K:Kx)(o:WO):R2:=λx y H Q=>∃d m i k p r1 h j,Rel K d m i H/\RelR K d k H r1 x/\RelR K d p H h y/\o r1 h m j/\∀r v e,j r->Rel K d m i e->RelR K d H e r v->Frm d H e->Q v e
abbrev wBin(o:WO)(f g:WE):WE:=λm K=>f m λr1 m1=>g m1 λd m2=>o r1 d m2 λr=>K r m2
theorem sk(h:tM X.kx (wBin o f g) σ H Q):tOp (rM X.kx o) (tM X.kx f) (tM X.kx g) σ H Q:=by
 let⟨s,m,K,u,A,i⟩:=h;refine⟨s,m,_,u,A,λr1 m1 x w k1 n1 R p t=>⟨s,m1,_,R,k1,λB m2 y C k2 n2 d q j=>?_⟩⟩;refine⟨s,m2,σ,H,w,r1,B,_,d,p.keep u R j,q,k2,λr v z k e rr F=>?_⟩;exact i r m2 v z k (n2.trans n1) e (rr.base d (t.trans j)) ((t.trans j).trans F)
def Qf{op:aeO}(i:OpR X (acl op) (rM X.kx o))(d:ME X a f)(e:ME X b g):ME X (.BinOp a op b pos) (wBin o f g):=(Uq i d e).wk λ_ _ _ h=>sk h
def Re(j:OpR X (abm op) (rM X.kx o))(e:ME X a f)(i:ME X b g)(d:acN op b=false):ME X (.Compare a [op] [b] pos) (wBin o f g):=(Jc j e i d).wk λ_ _ _ h=>sk h
abbrev onBl(P:Bool->Prop):R->Prop
 | .imm (.bool k)=>P k
 |_=>False
theorem FU{K:Kx}{P:Bool->Prop}(rr:RelR K α Hb H r v)(h:onBl P r):∃b,r = .imm (.bool b)/\v = .bl b/\P b:=by
 cases r with
 |obj _=>exact h.elim
 |new _=>exact h.elim
 | «at» _ _=>exact h.elim
 |newT _=>exact h.elim
 | imm d=>
  cases d with
  |bool b=>
   have e:=rr;exact⟨b,rfl,e,h⟩
  |none=>exact h.elim
  |int _=>exact h.elim
  |str _=>exact h.elim
  |list _=>exact h.elim
  |tuple _=>exact h.elim
  |dict _=>exact h.elim
abbrev za(w:WE):WT:=λm K=>w m λr d=>onBl (λk=>K k d) r
theorem yF{t:TE}{Q:Bool->Hp->Prop}{w:WE}(k:∀i,tM X.kx w σ H i->t σ H i)(h:tMT X.kx (za w) σ H Q):Qp t σ H Q:=by
 let⟨u,m,K,q,p,d⟩:=h;refine k _ ⟨u,m,_,q,p,λr j v o e n1 R rr F=>?_⟩;let⟨b,x,s,e⟩:=FU rr e;exact⟨b,s,d b j o e n1 R F⟩
def O7(j:OpR X (abm op) (rM X.kx o))(e:ME X a f)(i:ME X b g)(d:acN op b=false):MT X (.Compare a [op] [b] pos) (za (wBin o f g)):=(Ij j e i d).wk λ_ _ _ h=>yF (λ_=>sk) h
def NQ(d:ME X a f)(e:∀w,isTrue a X.env w=(do let v <- w;acI a.pos;adN [v] (truthy v)):=by intro _;rfl):MT X a (za f):=(QR d e).wk λ_ _ _ h=>yF (λ_ h=>h) h
end
section
variable {X:Cx}{a b c:Expr}{j:List Expr}{l A C:WE}{pos:Pos}
variable {y B:WT}{rest:List Expr}
abbrev wAnd(t u:WT):WT:=λm K=>t m λc m1=>if c=true then u m1 K else K false m1
abbrev wOr(t u:WT):WT:=λm K=>t m λc m1=>if c=true then K true m1 else u m1 K
abbrev wNot(t:WT):WT:=λm K=>t m λc m1=>K (!c) m1
def IM(h:MT X a y):MW X (.BoolOp .And [a] pos) y:=JP h
def Pj(h:MT X a y):MW X (.BoolOp .Or [a] pos) y:=QB h
theorem Qz(n:MT X a y)(r:MW X (.BoolOp .And (b::rest) pos) B):MW X (.BoolOp .And (a::b::rest) pos) (wAnd y B):=(QK n r).wk<|by
 intro s H Q ⟨e,m,K,p,o,f⟩;refine⟨e,m,_,p,o,λq m1 h k n1 R F=>?_⟩
 cases q with
 |true=>rw[if_pos rfl];exact⟨e,m1,K,R,k,λb2 m2 g k2 n2 d i=>f b2 m2 g k2 (n2.trans n1) d (F.trans i)⟩
 |false=>rw[if_neg aaq];exact f _ m1 h k n1 R F
theorem Tj(n:MT X a y)(r:MW X (.BoolOp .Or (b::rest) pos) B):MW X (.BoolOp .Or (a::b::rest) pos) (wOr y B):=(RZ n r).wk<|by
 intro s H Q ⟨e,m,K,p,o,f⟩;refine⟨e,m,_,p,o,λq m1 h k n1 R F=>?_⟩
 cases q with
 |true=>rw[if_pos rfl];exact f _ m1 h k n1 R F
 |false=>rw[if_neg aaq];exact⟨e,m1,K,R,k,λb2 m2 g k2 n2 d i=>f b2 m2 g k2 (n2.trans n1) d (F.trans i)⟩
theorem Qj(g:MT X a y):MT X (.UnaryOp .Not a pos) (wNot y):=(K9 g).wk<|by intro o H Q ⟨i,m,K,e,h,f⟩;exact
 ⟨i,m,_,e,h,λn m1 d k n1 R F=>f _ m1 d k n1 R F⟩
abbrev wOrV(l A:WE):WE:=λm K=>l m λr m1=>onBl (λc=>if c=true then K (.imm (.bool true)) m1 else A m1 K) r
def Lc(b:Bool):Den K H (.bool b) (.bl b):=rfl
def z9(b:Int):Den K H (.int b) (.int b):=rfl
def KL(b:Str):Den K H (.str b) (.str b):=rfl
def Qk{op}(h:ME X a l):ME X (.BoolOp op [a] pos) l:=Mh h
theorem Ur(q:ME X a l)(z:ME X (.BoolOp .Or (b::rest) pos) A):ME X (.BoolOp .Or (a::b::rest) pos) (wOrV l A):=(Se q z).wk<|by
 intro D H Q ⟨n,m,w,u,t,f⟩;refine⟨n,m,_,u,t,λr m1 v h k n1 R rr F=>?_⟩;let⟨i,s,x,d⟩:=FU rr k;subst s x;refine⟨i,rfl,?_⟩
 cases i with
 |true=>rw[if_pos rfl]at d⊢;exact f _ m1 _ h d n1 R (Lc (K:=X.kx) (H:=h) _) F
 |false=>rw[if_neg aaq]at d⊢;exact⟨n,m1,w,R,d,λr m2 v o k2 n2 e g p=>f r m2 v o k2 (n2.trans n1) e (g.base R F) (F.trans p)⟩
def wIfE(t:WT)(l A:WE):WE:=λm K=>t m λc m1=>if c=true then l m1 K else A m1 K
theorem Ux(n:MT X t y)(o:ME X a l)(u:ME X b A):ME X (.IfExp t a b pos) (wIfE y l A):=(C7 n o u).wk<|by
 intro x H Q ⟨i,m,K,q,p,f⟩;refine⟨i,m,_,q,p,λs m1 w k n1 R F=>?_⟩
 cases s with
 |true=>rw[if_pos rfl];exact⟨i,m1,K,R,k,λr m2 v g k2 n2 d e h=>f r m2 v g k2 (n2.trans n1) d (e.base R F) (F.trans h)⟩
 |false=>rw[if_neg aaq];exact⟨i,m1,K,R,k,λr m2 v g k2 n2 d e h=>f r m2 v g k2 (n2.trans n1) d (e.base R F) (F.trans h)⟩
abbrev WU:=R->MSt->(R->Prop)->Prop
def uM(K:Kx)(o:WU):V->Hp->VK->Prop:=λx H Q=>∃d m f h r1 g,Rel K d m f H/\RelR K d h H r1 x/\o r1 m g/\∀r v e,g r->Rel K d m f e->RelR K d H e r v->Frm d H e->Q v e
abbrev wUn(o:WU)(l:WE):WE:=λm K=>l m λr1 m1=>o r1 m1 λr=>K r m1
theorem Uf{op:UnaryOp}{o:WU}(t:UnR X (unaryOp op) (uM X.kx o))(i:ME X a l):ME X (.UnaryOp op a pos) (wUn o l):=(Uz t i).wk<|by intro s H Q ⟨h,m,K,q,p,f⟩;exact
 ⟨h,m,_,q,p,λr1 m1 x u k1 n1 R e g=>⟨h,m1,s,H,r1,_,R,e,k1,λr v n k d rr F=>f r m1 v n k n1 d (rr.base R g) (g.trans F)⟩⟩
def tFz(t:TE):TE:=λe H Q=>t e H λv d=>Q v d\/∃a x,d a=some (.lst x)/\∀o,Q v (upd d a (.frz o (.lst x)))
theorem Uv{t:TE}(h:PE X a t):PE X a (tFz t):=by
 intro f s k H Q I q;refine thn (h f s k H _ I q) λu s1 ⟨v,i,g,r1,d⟩=>?_;rcases d with d|⟨p,x,e,d⟩
 .exact⟨v,i,g,r1,d⟩
 .obtain⟨o,I2⟩:=g.freeze e;exact⟨v,_,I2,r1,d o⟩
theorem Rel.at{K:Kx}{m:MSt}(R:Rel K α m σ H)(p:Pers H H')(e:∀a∈ads α,H' a=H a)(x:Frm α H H'):Rel K α m σ H':=by
 refine⟨R.nd,R.len,λk n ds g s=>?_,R.vlen,λi r h=>?_,R.npl,R.ebl,R.ebx.trans ⟨rfl,x,λ_ h=>.inl h,λa f=>?_⟩⟩
 .exact(R.own k n ds g s).mono p λa f=>e a (ace.mpr ⟨n,Io g,f⟩)
 .obtain⟨v,ev,rv⟩:=R.var i r h;refine⟨v,ev,?_⟩
  cases r with
  |imm d=>exact Den.mono p rv
  |obj k=>exact rv
  | «at» k p=>exact rv
  |new ds=>exact rv
  |newT t=>exact rv
 .obtain⟨o,q,_⟩:=R.mem f;exact⟨o,(e a f).trans q⟩
theorem Rel.at'{K:Kx}{m:MSt}(R:Rel K α m σ H)(p:Pers H H')(e:∀a∈ads α,H' a=H a)(x:Ext K.eb.np K.eb.be K.eb.H α H'):Rel K α m σ H':=by
 refine⟨R.nd,R.len,λk g ds f n=>?_,R.vlen,λi r h=>?_,R.npl,R.ebl,x⟩
 .exact(R.own k g ds f n).mono p λa o=>e a (ace.mpr ⟨g,Io f,o⟩)
 .obtain⟨v,ev,rv⟩:=R.var i r h;refine⟨v,ev,?_⟩
  cases r with
  |imm d=>exact Den.mono p rv
  |obj k=>exact rv
  | «at» k p=>exact rv
  |new ds=>exact rv
  |newT t=>exact rv
theorem bi{a:Addr}{o:HO}(h:H a=none\/∃u,H a=some u/\Mu u=true):Pers H (upd H a o) where
 tups:=λb x e=>by
  rw[au];exact e;rintro rfl;rcases h with h|⟨d,h,z⟩<;>(rw[e]at h;cases h)
  cases z
 frzs:=λb o u e=>by
  rw[au];exact e;rintro rfl;rcases h with h|⟨d,h,z⟩<;>(rw[e]at h;cases h)
  cases z
def uX{a:Addr}{o:HO}(h:H a=some (.lst xs)):Pers H (upd H a o):=bi (.inr ⟨_,h,rfl⟩)
theorem cn{a:Addr}{o:HO}(h:H a=none):Frm α H (upd H a o):=λb d e _=>by
 rw[au (bq e h)];exact e
theorem Rel.lay{K:Kx}{m:MSt}{a:Addr}{o:HO}(R:Rel K α m σ H)(h:H a=none):Rel K α m σ (upd H a o):=
 R.at (bi (.inl h)) (λb d=>au λe=>R.out h (e▸d)) (cn h)
abbrev wImm(w:WE):WE:=λm K=>w m λr e=>match r with| .imm d=>K (.imm d) e | .new ds=>K (.imm (.list ds)) e|_=>False
theorem Rh(E:ME X a l):ME X a (wImm l):=(Uv E).wk<|by
 intro L H Q ⟨u,m,M,s,G,f⟩;refine⟨u,m,_,s,G,λr m1 v i k n1 R rr F=>?_⟩
 cases r with
 |imm d=>exact .inl (f _ m1 v i k n1 R rr F)
 |obj _=>exact k.elim
 | «at» _ _=>exact k.elim
 |newT _=>exact k.elim
 | new ds=>
  let⟨p,x,K,n,q,g⟩:=rr;refine .inr ⟨p,x,q,λo=>?_⟩;have D:Pers i (upd i p (.frz o (.lst x))):=uX q;have fr:Frm u H (upd i p (.frz o (.lst x))):=λb z e nb=>by
   rw[au (bq e n)];exact F b z e nb
  have old:Ext X.kx.eb.np u H u _:=⟨rfl,fr,λ_ h=>.inl h,λb t=>by
   have w:b≠p:=λe=>s.out n (e▸t);rw[au w];let⟨I,J,_⟩:=R.mem t;exact⟨I,J⟩⟩
  refine f _ m1 v _ k n1 (R.at' D (λb t=>au λe=>s.out n (e▸t)) (s.ebx.trans old)) (?_) λb z e nb=>?_
  .exact⟨p,x,K,.inl ⟨o,av⟩,g.mono D⟩
  .rw[au (bq e n)];exact F b z e nb
abbrev wNil:WA:=λm K=>K [] m
abbrev QQ(w:WE)(f:WA):WA:=λm K=>w m λr m1=>f m1 λrs m2=>K (r::rs) m2
theorem RelRs.base{K:Kx}{m:MSt}(d:Rel K α m σ H)(F:Frm α H0 H):∀{rs:List R}{vs:List V},RelRs K α H H' rs vs->RelRs K α H0 H' rs vs
 |_,_,.nil=>.nil
 |_,_,.cons h t=>.cons (h.base d F) (t.base d F)
variable {f:WA}
theorem LC:MA X [] wNil:=(Nu).wk<|by intro e H Q ⟨g,m,K,R,h,d⟩;exact d _ m _ H h rfl R .nil (Frm.refl _ _)
theorem JD(t:ME X a l)(q:MA X j f)(s:aag (a::j) X.env=(false,eval a X.env)::aag j X.env:=by first|exact aI rfl|rfl):MA X (a::j) (QQ l f):=(JI t q s).wk<|by intro w H Q ⟨n,m,K,h,o,e⟩;exact
 ⟨n,m,_,h,o,λr m1 v u k n1 R rr F=>⟨n,m1,_,R,k,λrs m2 vs p k2 n2 g d i=>e _ m2 _ p k2 (n2.trans n1) g (.cons (rr.keep h R i) (d.base R F)) (F.trans i)⟩⟩
def gL:List R->Option (List aD)
 |[]=>some []
 | .imm d::rs=>(gL rs).map (d :: ·)
 |_::_=>none
theorem RelRs.imm{K:Kx}:∀{rs:List R}{vs:List V}{ds:List aD},RelRs K α H0 H rs vs->gL rs=some ds->DenAll K H ds vs
 |_,_,_,.nil,e=>by cases e;exact DenAll.nil
 |_,_,ds,.cons (r:=.imm d) (rs:=rs) h t,e=>by
  simp only[gL]at e
  cases q:gL rs with
  |none=>rw[q]at e;cases e
  |some g=>rw[q]at e;cases e;exact DenAll.cons h (t.imm q)
 |_,_,_,.cons (r:=.obj _) h t,e=>by cases e
 |_,_,_,.cons (r:=.new _) h t,e=>by cases e
 |_,_,_,.cons (r:=.at _ _) h t,e=>by cases e
 |_,_,_,.cons (r:=.newT _) h t,e=>by cases e
def Gw(P:List aD->Prop):Option (List aD)->Prop
 |some ds=>ds.length≤aaj/\P ds
 |none=>False
abbrev wTup(f:WA):WE:=λm K=>f m λrs d=>Gw (λds=>K (.imm (.tuple ds)) d) (gL rs)
abbrev wLst(f:WA):WE:=λm K=>f m λrs d=>Gw (λds=>K (.new ds) d) (gL rs)
theorem L8{x1}(h:MA X j f):ME X (.Tuple j x1 pos) (wTup f):=(QI h).wk<|by
 intro t H Q ⟨o,m,K,r,q,d⟩;refine⟨o,m,_,r,q,λrs m1 vs s k n1 R rr F=>?_⟩
 cases e:gL rs with
 |none=>rw[e]at k;exact k.elim
 |some ds=>
  rw[e]at k;let⟨n,k⟩:=k;have g:=rr.imm e;refine⟨by rw[<-g.length];exact n,λp i=>d _ m1 _ _ k n1 (R.lay i) (?_) (F.trans (cn i))⟩;exact⟨p,vs,rfl,SqT.of av,g.mono (bi (.inl i))⟩
theorem Rg(h:MA X j f):ME X (.List j pos) (wLst f):=(Qc h).wk<|by
 intro t H Q ⟨o,m,K,r,q,i⟩;refine⟨o,m,_,r,q,λrs m1 vs s k n1 R rr F=>?_⟩
 cases e:gL rs with
 |none=>rw[e]at k;exact k.elim
 |some ds=>
  rw[e]at k;let⟨n,k⟩:=k;have g:=rr.imm e;refine⟨by rw[<-g.length];exact n,λp d=>i _ m1 _ _ k n1 (R.lay d) ((RelR.base R F (⟨p,vs,rfl,d,av,g.mono (bi (.inl d))⟩))) (F.trans (cn d))⟩
abbrev WC:=List R->MSt->(R->Prop)->Prop
def cM(K:Kx)(o:WC):List V->Hp->VK->Prop:=λx H Q=>∃d m g i rs h,Rel K d m g H/\RelRs K d i H rs x/\o rs m h/\∀r v e,h r->Rel K d m g e->RelR K d H e r v->Frm d H e->Q v e
abbrev wCB(o:WC)(f:WA):WE:=λm K=>f m λrs m1=>o rs m1 λr=>K r m1
theorem JU{o:WC}(h:tM X.kx (wCB o f) σ H Q):tCB (cM X.kx o) (tMA X.kx f) σ H Q:=by
 let⟨i,m,K,s,q,e⟩:=h;exact⟨i,m,_,s,q,λrs m1 vs t k n1 R rr n=>⟨i,m1,σ,H,rs,_,R,rr,k,λr v p k d g F=>e r m1 v p k n1 d (g.base R n) (n.trans F)⟩⟩
theorem DB{id:String}{o:WC}(q:fe X (.builtin id) (cM X.kx o))(k:Gl X x)(g:X.mg x=none)(i:abi x=some (.builtin id))(m:MA X (a::j) f)(n:x ≠ "__name__":=by decide)(d:(x==("__debug__" : Str))=false:=by decide)
  (r:aag (a::j) X.env=(false,eval a X.env)::aag j X.env:=by first|exact aI rfl|rfl) (e:(abD pos (aag j X.env)).any (·.1)=false:=by rfl):ME X (.Call (.Name x p) (a::j) [] pos) (wCB o f):=(CP q k g i m n d r e).wk λ_ _ _ h=>JU h
theorem xI{T:String}{o:WC}(q:fe X (.type T) (cM X.kx o))(k:Gl X x)(g:X.mg x=none)(i:abi x=some (.type T))(m:MA X (a::j) f)(n:x ≠ "__name__":=by decide)(d:(x==("__debug__" : Str))=false:=by decide)
  (r:aag (a::j) X.env=(false,eval a X.env)::aag j X.env:=by first|exact aI rfl|rfl) (e:(abD pos (aag j X.env)).any (·.1)=false:=by rfl):ME X (.Call (.Name x p) (a::j) [] pos) (wCB o f):=(Bc q k g i m n d r e).wk λ_ _ _ h=>JU h
end
inductive Ag where
 |imm (d:aD)|own (ds:List aD)|tr (t:aD)
abbrev SpM:=List Ag->(R->List (List aD)->Prop)->Prop
inductive RelAs(K:Kd)(H:Hp):List Ag->List V->Al->Prop where
 |nil:RelAs K H [] [] []
 |imm {d:aD}{v:V}{as:List Ag}{vs:List V}{β:Al}:Den K H d v->RelAs K H as vs β->RelAs K H (.imm d::as) (v::vs) β
 |own {ds:List aD}{a:Addr}{as:List Ag}{vs:List V}{β:Al}:OwnAt K H (.L a) ds->RelAs K H as vs β->RelAs K H (.own ds::as) (.ref a::vs) (.L a::β)
 |tr {t:aD}{a:Addr}{τ:List (List Nat×Addr)}{as:List Ag}{vs:List V}{β:Al}:OwnAt K H (.T τ) [t]->τ.lookup []=some a->RelAs K H as vs β->RelAs K H (.tr t::as) (.ref a::vs) (.T τ::β)
theorem RelAs.length:∀{as:List Ag}{vs:List V}{β:Al},RelAs K H as vs β->as.length=vs.length
 |_,_,_,.nil=>rfl
 |_,_,_,.imm _ t=>by simp[t.length]
 |_,_,_,.own _ t=>by simp[t.length]
 |_,_,_,.tr _ _ t=>by simp[t.length]
structure yW(K:Kd)(H:Hp)(β:Al)(outs:List (List aD)):Prop where
 len:outs.length=β.length
 at_:∀(j:Nat) (ao:Ao) (ds:List aD),β[j]?=some ao->outs[j]?=some ds->OwnAt K H ao ds
def spOf(K:Kd)(n:Nat)(sp:SpM):Sp:=λvs H Q _=>∃c a d,c.length=n/\(ads a).Nodup/\RelAs K H c vs a/\sp c d/\∀r o v b,d r o->yW K b a o->RelR K a H b r v->Frm a H b->Q v b
theorem spOf.len{E:XK}(h:spOf K n sp vs H Q E):vs.length=n:=by
 let⟨d,b,c,a,_,r,_⟩:=h;rw[<-r.length];exact a
def iq(m:MSt):List R->Option (List Ag×List Nat)
 |[]=>some ([],[])
 | .imm d::rs=>match iq m rs with|some (as,ks)=>some (.imm d::as,ks)|none=>none
 | .obj k::rs=>match m.os[k]?,iq m rs with|some ds,some (as,ks)=>some (.own ds::as,k::ks)|_,_=>none
 | .at k []::rs=>match m.os[k]?,iq m rs with|some [t],some (as,ks)=>some (.tr t::as,k::ks)|_,_=>none
 |_::_=>none
def cz:List (List aD)->List Nat->List (List aD)->List (List aD)
 |os,k::ks,o::outs=>cz (os.set k o) ks outs
 |os,_,_=>os
def mapR(ks:List Nat):R->R
 | .imm d=>.imm d
 | .new ds=>.new ds
 | .obj j=>.obj (ks.getD j 0)
 | .at j p=>.at (ks.getD j 0) p
 | .newT t=>.newT t
def zw(sp:SpM)(w:WA):WE:=λm K=>w m λrs m1=>match iq m1 rs with
 |some (as,ks)=>ks.Nodup/\sp as λr o=>K (mapR ks r) {m1 with os:=cz m1.os ks o}
 |none=>False
theorem jk:∀(ks:List Nat) (os a:List (List aD)),(cz os ks a).length=os.length
 |[],_,_=>by simp[cz]
 |_::_,_,[]=>by simp[cz]
 |k::ks,os,o::a=>by simp[cz,jk ks]
theorem jx:∀(ks:List Nat) (os a:List (List aD)) (k:Nat),k∉ks->(cz os ks a)[k]?=os[k]?
 |[],_,_,_,_=>by simp[cz]
 |_::_,_,[],_,_=>by simp[cz]
 |k'::ks,os,o::a,k,h=>by
  rw[aak]at h;rw[not_or]at h;show(cz _ ks a)[k]?=_;rw[jx ks _ _ k h.2,aaK (ab0 h.1)]
theorem qO:∀(ks:List Nat) (os a:List (List aD)) (j k:Nat) (ds:List aD),ks.Nodup->ks[j]?=some k->a[j]?=some ds->k<os.length->(cz os ks a)[k]?=some ds
 |[],_,_,_,_,_,_,h,_,_=>by simp at h
 |_::_,_,[],_,_,_,_,_,h,_=>by simp at h
 |k'::ks,os,o::a,0,k,ds,nd,h1,h2,hk=>by
  simp at h1 h2;subst h1;subst h2;show(cz _ ks a)[k']?=_;rw[jx ks _ _ k' (abd.mp nd).1,aaP hk]
 |k'::ks,os,o::a,j+1,k,ds,nd,h1,h2,hk=>by
  exact qO ks _ a j k ds (abd.mp nd).2 ‹_› ‹_› (by simpa)
def fi(c:Al):(ads c).Nodup↔(∀ao∈c,ao.ads.Nodup)/\c.Pairwise λx y=>∀a∈x.ads,∀b∈y.ads,a≠b:=List.pairwise_flatMap
theorem gc(nd:(ads α).Nodup){x y:Ao}(k:α[i]?=some x)(f:α[j]?=some y)(h:i≠j)(c:a∈x.ads)(b:a∈y.ads):False:=by
 have p:=((fi α).mp nd).2;let⟨e,g⟩:=AD.mp k;let⟨d,q⟩:=AD.mp f;subst g q;rcases Nat.lt_or_gt_of_ne h with l|l
 .exact acE.mp p i j e d l a c a b rfl
 .exact acE.mp p j i d e l a b a c rfl
def jL{x:Ao}(b:α[i]?=some x)(h:a∈x.ads):a∈ads α:=ace.mpr ⟨x,Io b,h⟩
theorem iX(h:a∈ads α):∃(i:Nat) (x:Ao),α[i]?=some x/\a∈x.ads:=by
 let⟨d,b,c⟩:=ace.mp h;let⟨k,hk,e⟩:=abY.mp b;exact⟨k,d,by rw[iO hk,e],c⟩
section
variable {K:Kx}{c:Al}{m:MSt}{g:St}{H l f:Hp}
theorem fM(j:Rel K c m g H):∀{rs:List R}{vs:List V}{as:List Ag}{ks:List Nat},RelRs K c l H rs vs->iq m rs=some (as,ks)->∃β,RelAs K H as vs β/\abO (λ(k:Nat) (ao:Ao)=>c[k]?=some ao) ks β
 |_,_,_,_,.nil,e=>by cases e;exact⟨[],.nil,.nil⟩
 | _,_,as,ks,.cons (r:=.imm d) (rs:=rs) h t,e=>by
  simp only[iq]at e
  cases q:iq m rs with
  |none=>rw[q]at e;cases e
  |some p=>
   rw[q]at e;cases e;let⟨β,n,i⟩:=fM j t q;exact⟨β,.imm h n,i⟩
 | _,_,as,ks,.cons (r:=.obj k) (rs:=rs) h t,e=>by
  simp only[iq]at e
  cases q1:m.os[k]? with
  |none=>rw[q1]at e;cases e
  | some ds=>
   cases q:iq m rs with
   |none=>rw[q1,q]at e;cases e
   |some p=>
    let⟨s,o⟩:=p;rw[q1,q]at e;cases e;let⟨β,n,i⟩:=fM j t q;let⟨a,b,rfl⟩:=h;exact⟨.L a::β,.own (j.own k _ ds b q1) n,.cons b i⟩
 |_,_,as,ks,.cons (r:=.at k []) (rs:=rs) h t,e=>by
  simp only[iq]at e
  split at e
  .rename_i t' s o q1 q;cases e;let⟨β,n,i⟩:=fM j t q;let⟨u,a,b,v,rfl⟩:=h;exact⟨.T u::β,.tr (j.own k _ _ b q1) v n,.cons b i⟩
  .cases e
 |_,_,_,_,.cons (r:=.at _ (_::_)) h t,e=>by cases e
 |_,_,_,_,.cons (r:=.new _) h t,e=>by cases e
 |_,_,_,_,.cons (r:=.newT _) h t,e=>by cases e
theorem dG(nd:(ads c).Nodup)(h:ks.Nodup)(p:abO (λ(k:Nat) (ao:Ao)=>c[k]?=some ao) ks β):(ads β).Nodup:=by
 have one:=((fi c).mp nd).1
 induction p with
 |nil=>exact abT
 | @cons k ao ks β e t ih=>
  have d:=ih (abd.mp h).2;rw[fi]at d⊢;refine⟨λx n=>?_,acA.mpr ⟨λy q a s b v z=>?_,d.2⟩⟩
  .rcases aak.mp n with rfl|n
   .exact one _ (Io e)
   .exact d.1 x n
  .subst z;let⟨j,A,ej⟩:=abY.mp q;let⟨w,o,u⟩:=Paired.get2 t (i:=j) (b:=y) (by simp_all);have r:=Classical.byContradiction λne=>gc nd e u ne s v;exact(abd.mp h).1 (r▸Io o)
theorem uE(R:Rel K c m g H){s:List (List aD)}(nd:ks.Nodup)(p:abO (λ(k:Nat) (ao:Ao)=>c[k]?=some ao) ks β)(O:yW K f β s)(F:Frm β H f) :
  Rel K c {m with os:=cz m.os ks s} g f/\Frm c H f:=by
 have C:∀a∈ads β,∃k ao,k∈ks/\c[k]?=some ao/\a∈ao.ads:=λa B=>by
  let⟨j,ao,ej,w⟩:=iX B;let⟨S,u,E⟩:=Paired.get2 p ej;exact⟨S,ao,Io u,E,w⟩
 have A:Frm c H f:=λb o e n=>F b o e λz=>by
  let⟨k,ao,_,E,w⟩:=C b z;exact n (jL E w)
 have J:=R.pers A;have y:∀(k:Nat) (ao:Ao) (ds:List aD),c[k]?=some ao->(cz m.os ks s)[k]?=some ds->OwnAt K f ao ds:=λk ao ds u x=>by
  have hk:k<m.os.length:=by rw[<-R.len];exact(AD.mp u).1
  by_cases w:k∈ks
  .obtain⟨j,hj,ej⟩:=abY.mp w;have L:ks[j]?=some k:=by rw[iO hj,ej]
   let⟨V,P,M⟩:=Paired.get' p L;rw[u]at M;cases M;have D:j<s.length:=by rw[O.len];exact(AD.mp P).1
   have Q:s[j]?=some s[j]:=iO D;rw[qO ks m.os s j k _ nd L Q hk]at x;cases x;exact O.at_ j _ _ P Q
  .rw[jx ks _ _ k w]at x;have q:=R.own k ao ds u x;refine q.mono J λa B=>?_;let⟨o,N,_⟩:=q.mem B;rw[N];refine F a o N λz=>?_;let⟨k2,T,I,U,G⟩:=C a z;exact gc R.nd u U (λz=>w (z▸I)) B G
 refine⟨⟨R.nd,by show c.length=(cz m.os ks s).length;rw[jk];exact R.len,y,R.vlen,λi r h=>?_,R.npl,R.ebl,R.ebx.trans ⟨rfl,A,λ_ h=>.inl h,λa B=>?_⟩⟩,A⟩
 .obtain⟨v,ev,rv⟩:=R.var i r h;refine⟨v,ev,?_⟩
  cases r with
  |imm d=>exact Den.mono J rv
  |obj k=>exact rv
  | «at» k p=>exact rv
  |new ds=>exact rv
  |newT t=>exact rv
 .obtain⟨k,ao,u,w⟩:=iX B;have hk:k<(cz m.os ks s).length:=by rw[jk,<-R.len];exact(AD.mp u).1
  let⟨o,q,_⟩:=(y k ao _ u (iO hk)).mem w;exact⟨o,q⟩
theorem u6{K:Kd}(p:abO (λ(k:Nat) (ao:Ao)=>c[k]?=some ao) ks β)(h:RelR K β H f r v):RelR K c H f (mapR ks r) v:=by
 have get:∀{j:Nat}{ao:Ao},β[j]?=some ao->c[ks.getD j 0]?=some ao:=λ{j ao} b=>by
  let⟨k,o,z⟩:=Paired.get2 p b
  simp_all
 cases r with
 |imm d=>exact h
 |new ds=>exact h
 |newT t=>exact h
 |obj j=>
  let⟨a,b,e⟩:=h;exact⟨a,get b,e⟩
 | «at» j q=>
  let⟨n,a,b,i,e⟩:=h;exact⟨n,a,get b,i,e⟩
end
section
variable {X:Cx}{a:Expr}{b:List Expr}{w:WA}{pos p:Pos}{k n:Nat}{f:Addr}{fd:ab4}{ps:List Str}{sp:SpM}{x:Str}{CX:CXT}
theorem IW{E:XK}(h:tM X.kx (zw sp w) σ H Q)(z:∀as K,sp as K->as.length=n):OX (spOf X.kd n sp) [] E (tMA X.kx w) σ H Q:=by
 let⟨y,m,K,C,B,i⟩:=h;refine⟨y,m,_,C,B,λrs m1 vs I d n1 R rr s=>?_⟩
 cases e:iq m1 rs with
 |none=>rw[e]at d;exact d.elim
 |some q=>
  let⟨as,J⟩:=q;rw[e]at d;let⟨nd,c⟩:=d;let⟨G,D,j⟩:=fM R rr e;refine⟨as,G,_,z _ _ c,dG R.nd nd j,by rw[aa0];exact D,c,λr t v A g O o F=>?_⟩;let⟨l,u⟩:=uE R nd j O F;exact i _ _ v A g n1 l ((u6 j o).base R s) (s.trans u)
theorem Kz{E:XK}(F:FnOk X.prog X.w X.K X.mg X.base CX k f fd ps (spOf X.kd n sp))(g:Room k X.A)(j:Gl X x)(e:X.mg x=some (.ref f))(hk:abP X.K (.ref f)=true)(l:Binds X.K fd ps [])(i:jH CX X E)(o:∀as K,sp as K->as.length=n)
  (m:MA X (a::b) w) (c:(x==("__debug__" : Str))=false:=by decide) (q:aag (a::b) X.env=(false,eval a X.env)::aag b X.env:=by first|exact aI rfl|rfl) (d:(abD pos (aag b X.env)).any (·.1)=false:=by rfl) :
  ME X (.Call (.Name x p) (a::b) [] pos) (zw sp w):=(Jo F g j e hk l .nil i m c q d).wk λ_ _ _ h=>IW h o
end
structure fG where
 nx:MSt->Prop
 rt:R->MSt->Prop
 bk:MSt->Prop:=λ_=>False
 ct:MSt->Prop:=λ_=>False
abbrev WS:=fG->MSt->Prop
theorem RelR.ext{np:Nat}{c:Al}(x:Ext np α H α1 H1)(h:RelR K c H1 H2 r v):RelR K c H H2 r v:=by
 cases r with
 |imm d=>exact h
 |obj k=>exact h
 | «at» k p=>exact h
 |new ds=>
  let⟨a,j,e,n,q,g⟩:=h;exact⟨a,j,e,x.nil n,q,g⟩
 |newT t=>
  let⟨i,a,e,f,nd,n,g⟩:=h;exact⟨i,a,e,f,nd,λb l=>x.nil (n b l),g⟩
structure EndsOk(K:Kx)(np:Nat)(α:Al)(H:Hp)(De:fG)(D:Ends):Prop where
 nx:∀α' m' σ' H',De.nx m'->m'.np=np->Rel K α' m' σ' H'->Ext np α H α' H'->D.nx σ' H'
 rt:∀r α' m' σ' v H',De.rt r m'->m'.np=np->Rel K α' m' σ' H'->RelR K α' H H' r v->Ext np α H α' H'->D.rt v H'
 bk:∀α' m' σ' H',De.bk m'->m'.np=np->Rel K α' m' σ' H'->Ext np α H α' H'->D.bk σ' H'
 ct:∀α' m' σ' H',De.ct m'->m'.np=np->Rel K α' m' σ' H'->Ext np α H α' H'->D.ct σ' H'
theorem EndsOk.ext{K:Kx}{np:Nat}(h:EndsOk K np α H De D)(x:Ext np α H α1 H1):EndsOk K np α1 H1 De D where
 nx:=λa m b c k n R y=>h.nx a m b c k n R (x.trans y)
 rt:=λr a m b v c k n R rr y=>h.rt r a m b v c k n R (rr.ext x) (x.trans y)
 bk:=λa m b c k n R y=>h.bk a m b c k n R (x.trans y)
 ct:=λa m b c k n R y=>h.ct a m b c k n R (x.trans y)
def tMS(K:Kx)(w:WS):TS:=λD c H=>∃b m a,Rel K b m c H/\w a m/\EndsOk K m.np b H a D
abbrev MS(X:Cx)(st:Stmt)(w:WS):Prop:=PS X st (tMS X.kx w)
abbrev MSs(X:Cx)(st:List Stmt)(w:WS):Prop:=PSs X st (tMS X.kx w)
section
variable {X:Cx}{a b c e:Expr}{d:List Expr}{f g i j:WE}{pos:Pos}{st:Stmt}{rest:List Stmt}{w u:WS}
abbrev Q9:WS:=λD m=>D.nx m
abbrev wSeq(w u:WS):WS:=λD m=>w {D with nx:=λh=>u D h } m
theorem KJ:MSs X [] Q9:=(JQ).wk<|by intro D l H ⟨n,m,o,R,h,k⟩;exact k.nx n m l H h rfl R (.of R (Frm.refl _ _))
theorem DJ(t:MS X st w)(o:MSs X rest u):MSs X (st::rest) (wSeq w u):=(vz t o).wk<|by intro D A H ⟨x,m,p,s,r,k⟩;exact
 ⟨x,m,_,s,r,⟨λh l v z q n R y=>⟨h,l,p,R,q,by rw[n];exact k.ext y⟩,k.rt,k.bk,k.ct⟩⟩
theorem G9(k:MS X st w):MSs X [st] w:=(Ja k).wk λD l H h=>h
end
section
variable {X:Cx}{a b c e:Expr}{es:List Expr}{wa wb wc we:WE}{ws:WA}{wt:WT}{pos:Pos}{st:Stmt}{rest body body2:List Stmt}{w u:WS}
abbrev wRet(we:WE):WS:=λD m=>we m λr d=>D.rt r d
theorem Pq(h:ME X e we):MS X (.Return (some e) pos) (wRet we):=(QV h).wk<|by intro D l H ⟨d,m,o,j,i,k⟩;exact
 ⟨d,m,_,j,i,λr f v g q n R rr F=>k.rt r d f l v g q n R rr (.of R F)⟩
abbrev MN(we:WE):WS:=λD m=>we m λ_ d=>D.nx d
theorem IG(h:ME X e we)(o:abB e none pos.line X.env=pure false:=by rfl):MS X (.Expr e pos) (MN we):=(KH h o).wk<|by intro D l H ⟨d,m,p,j,i,k⟩;exact
 ⟨d,m,_,j,i,λr f v g q n R rr F=>k.nx d f l g q n R (.of R F)⟩
abbrev wIfS(t:WT)(w u:WS):WS:=λD m=>t m λc d=>if c=true then w D d else u D d
theorem TW(i:MT X t wt)(s:MSs X body w)(j:MSs X body2 u):MS X (.If t body body2 pos) (wIfS wt w u):=(RF i s j).wk<|by
 intro D v H ⟨d,m,g,p,o,k⟩;refine⟨d,m,_,p,o,λr f l q n R F=>?_⟩;have h:EndsOk X.kx f.np d l g D:=by rw[n];exact k.ext (.of R F)
 cases r with
 |true=>rw[if_pos rfl]at q;exact iteT ⟨d,f,g,R,q,h⟩
 |false=>rw[if_neg aaq]at q;exact iteF ⟨d,f,g,R,q,h⟩
def E9:WS:=λ_ _=>False
theorem B5:MS X st E9:=(Cq).wk<|by intro D f H ⟨g,m,d,R,h,k⟩;exact h
def MSt.setV(m:MSt)(i:Nat)(r:R):MSt:={m with vs:=m.vs.set i (some r)}
def RenR(f:List Nat)(o:Option (Option R)):R->Prop
 | .imm d=>o=some (some (.imm d))
 | .obj k=>∃j,f[k]?=some j/\o=some (some (.obj j))
 | .at k p=>∃j,f[k]?=some j/\o=some (some (.at j p))
 | .new _=>False
 | .newT _=>False
structure Ren(ρ:List Nat)(m m2:MSt):Prop where
 nd:ρ.Nodup
 lt:∀k∈ρ,k<m.os.length
 pre:ρ.take m.np=aat m.np
 npl:m.np≤ρ.length
 os:m2.os=ρ.map λk=>m.os.getD k []
 np:m2.np=m.np
 vl:m2.vs.length=m.vs.length
 vs:∀(j:Nat) (r:R),m2.vs[j]?=some (some r)->RenR ρ m.vs[j]? r
def upR(D:MSt->Prop)(m:MSt):Prop:=D m\/∃d m2,Ren d m m2/\D m2
def sy(i:Nat)(D:MSt->Prop)(m:MSt):R->Prop
 | .imm d=>upR D (m.setV i (.imm d))
 | .obj k=>upR D (m.setV i (.obj k))
 | .at k p=>upR D (m.setV i (.at k p))
 | .new ds=>upR D {vs:=m.vs.set i (some (.obj m.os.length)),os:=m.os++[ds],np:=m.np} \/
   ∃k,m.vs[i]?=some (some (.obj k))/\m.np≤k/\(∀j:Nat,j≠i->m.vs[j]?≠some (some (.obj k)))/\D {m with os:=m.os.set k ds}
 | .newT t=>upR D {vs:=m.vs.set i (some (.at m.os.length [])),os:=m.os++[[t]],np:=m.np}
theorem gq{d:Al}{n:Nat}(g:d.length=n):∀{f:List Nat},(∀k∈f,k<n)->abO (λ(k:Nat) (ao:Ao)=>d[k]?=some ao) f (f.map λk=>d.getD k (.L 0))
 |[],_=>.nil
 | k::f,h=>.cons (by
   have hk:k<d.length:=by rw[g];exact h k aac
   show d[k]?=some (d.getD k _);rw[aaa,iO hk];rfl) (gq g λj i=>h j (aad _ i))
theorem IQ{K:Kx}{m m2:MSt}{g:List Nat}(R:Rel K α m σ H)(N:Ren g m m2):∃y,Rel K y m2 σ H/\Ext m.np α H y H:=by
 have E:=gq R.len N.lt;have get:∀(k:Nat) (f:Ao),(g.map λk=>α.getD k (.L 0))[k]?=some f->∃j:Nat,g[k]?=some j/\α[j]?=some f:=λk f z=>by
  let⟨j,O,L⟩:=Paired.get2 E z;exact⟨j,O,L⟩
 have n:∀(k j:Nat) (f:Ao),g[k]?=some j->α[j]?=some f->(g.map λk=>α.getD k (.L 0))[k]?=some f:=λk j f C A=>by
  let⟨U,M,I⟩:=Paired.get' E C;rw[A]at I;cases I;exact M
 have x:(g.map λk=>α.getD k (.L 0)).take m.np=α.take m.np:=by
  apply aba;intro l;rw[aaQ,aaQ]
  by_cases i:l<m.np
  .rw[if_pos i,if_pos i];have:g[l]?=some l:=by
    have e:=congrArg (·[l]?) N.pre;simp only[aaQ,if_pos i]at e;rw[e,abo i]
   have s:l<α.length:=aav i R.npl;rw[n l l α[l] this (iO s),iO s]
  .rw[if_neg i,if_neg i]
 have ext:Ext m.np α H (g.map λk=>α.getD k (.L 0)) H:=⟨x,Frm.refl _ _,λa F=>by
  let⟨k,f,J,Q⟩:=iX F;let⟨j,_,S⟩:=get k f J;exact .inl (jL S Q),λa F=>by
  let⟨o,q,_⟩:=R.mem F;exact⟨_,q⟩⟩
 refine⟨g.map λk=>α.getD k (.L 0),⟨dG R.nd N.nd E,?_,λk f ds C A=>?_,?_,λj r z=>?_,?_,by rw[N.np];exact R.ebl,R.ebx.trans (ext.less R.ebl)⟩,ext⟩
 .rw[N.os,lD,lD]
 .obtain⟨j,q,qa⟩:=get k f C;rw[N.os,aae,q]at A;have T:j<m.os.length:=N.lt j (Io q);have D:m.os.getD j []=ds:=aaB A;refine R.own j f ds qa ?_;rw[<-D,aaa,iO T];rfl
 .rw[N.vl];exact R.vlen
 .have h:=N.vs j r z
  cases r with
  |imm d=>exact R.var j (.imm d) h
  |new _=>exact h.elim
  |newT _=>exact h.elim
  |obj k=>
   let⟨t,q,h⟩:=h;let⟨v,G,a,B,e⟩:=R.var j (.obj t) h;exact⟨v,G,a,n k t _ q B,e⟩
  | «at» k p=>
   let⟨t,q,h⟩:=h;let⟨v,G,P,a,B,V,e⟩:=R.var j (.at t p) h;exact⟨v,G,P,a,n k t _ q B,V,e⟩
 .rw[N.np,lD];exact N.npl
abbrev wSet(i:Nat)(we:WE):WS:=λD m=>we m λr d=>sy i D.nx d r
theorem cu{K:Kx}{m:MSt}(R:Rel K α m σ H)(h:RelS K α H r v):Rel K α (m.setV i r) (σ.set i (some v)) H:=by
 refine⟨R.nd,R.len,R.own,?_,λj g e=>?_,R.npl,R.ebl,R.ebx⟩
 .show(σ.set i _).length=(m.vs.set i _).length;rw[abe,abe];exact R.vlen
 .have e':(m.vs.set i (some r))[j]?=some _:=e
  by_cases f:i=j
  .subst f
   by_cases d:i<m.vs.length
   .rw[aaP d]at e';cases e';exact⟨v,aaP (by rw[R.vlen];exact d),h⟩
   .simp_all
  .rw[aaK f]at e'⊢;exact R.var j g e'
theorem ot{K:Kx}{m:MSt}(R:Rel K α m σ H)(D:∃A f,Rel K α A f H0)(F:Frm α H0 H)(nd:ao.ads.Nodup)(B:∀b∈ao.ads,H0 b=none)(g:OwnAt K H ao ds) :
  Rel K (α++[ao]) {m with os:=m.os++[ds]} σ H/\∀np,np≤α.length->Ext np α H0 (α++[ao]) H:=by
 let⟨A,f,n⟩:=D;have t:∀b∈ao.ads,b∉ads α:=λb L=>n.out (B b L);have one:ads [ao]=ao.ads:=by simp[ads]
 have ext:∀np,np≤α.length->Ext np α H0 (α++[ao]) H:=λnp s=>⟨by rw[List.take_append_of_le_length s],F,λa r=>by
  rw[jv,one]at r;rcases aaU.mp r with z|z
  .exact .inl z
  .exact .inr (B a z),λa r=>by
  let⟨o,q,_⟩:=R.mem r;exact⟨_,q⟩⟩
 refine⟨⟨?_,by simp[R.len],λk a es l J=>?_,R.vlen,λj C z=>?_,by have:=R.npl;show m.np≤(α++[ao]).length;rw[aam];omega,R.ebl,n.ebx.trans (ext _ ?_)⟩,ext⟩
 .rw[jv,one];exact acK.mpr ⟨R.nd,nd,λx G y E e=>t y E (e▸G)⟩
 .have z2':(m.os++[ds])[k]?=some es:=J
  by_cases hk:k<α.length
  .rw[aaE hk]at l;rw[aaE (by rw[<-R.len];exact hk)]at z2';exact R.own k a es l z2'
  .rw[aaN (by omega)]at l;rw[aaN (by rw[<-R.len];omega)]at z2';have i:k-α.length=0:=by
    have:=(AD.mp l).1;simp at this;omega
   rw[i]at l;rw[<-R.len,i]at z2'
   simp_all
 .obtain⟨v,ev,rv⟩:=R.var j C z;refine⟨v,ev,?_⟩
  cases C with
  |imm d=>exact rv
  |new _=>exact rv
  |newT _=>exact rv
  |obj k=>
   let⟨a,h,e⟩:=rv;exact⟨a,by rw[aaE (AD.mp h).1];exact h,e⟩
  | «at» k p=>
   let⟨I,a,h,e⟩:=rv;exact⟨I,a,by rw[aaE (AD.mp h).1];exact h,e⟩
 .exact aaD R.ebl R.npl
theorem t6{K:Kx}{m:MSt}{Q:St->Hp->Prop}{np:Nat}(f:Rel K α m σ H)(n:m.np=np)(F:Frm α H0 H)(h:RelR K α H0 H r v)(q:sy i P m r)
  (k:∀A E s D,P E->E.np=np->Rel K A E s D->Ext np α H0 A D->Q s D) (R0:∃m0 O,Rel K α m0 O H0):Q (σ.set i (some v)) H:=by
 have Y:∀A E s D,upR P E->E.np=np->Rel K A E s D->Ext np α H0 A D->Q s D:=λA E s D q n R x=>by
  rcases q with q|⟨ρ,m2,N,q⟩
  .exact k A E s D q n R x
  .obtain⟨α2,R2,x2⟩:=IQ R N;rw[n]at x2;exact k α2 m2 s D q (N.np.trans n) R2 (x.trans x2)
 have G:np≤α.length:=by rw[<-n];exact f.npl
 cases r with
 |imm d=>exact Y α _ _ H q n (cu f (r:=.imm d) h) (.of (cu (i:=i) f (r:=.imm d) h) F)
 |obj j=>exact Y α _ _ H q n (cu f (r:=.obj j) h) (.of (cu (i:=i) f (r:=.obj j) h) F)
 | «at» j p=>exact Y α _ _ H q n (cu f (r:=.at j p) h) (.of (cu (i:=i) f (r:=.at j p) h) F)
 |newT t=>
  let⟨T,p,rfl,M,nd,U,g⟩:=h;let⟨base,ext⟩:=ot f R0 F (ao:=.T T) nd U g;exact Y (α++[.T T]) _ _ H q n (cu base (r:=.at m.os.length []) ⟨T,p,by rw[aaN (by rw[f.len];exact aab _),<-f.len];simp,M,rfl⟩) (ext np G)
 | new ds=>
  let⟨p,xs,rfl,U,hp,g⟩:=h;have R0':=R0;let⟨m0,O,W⟩:=R0';have S:p∉ads α:=W.out U;rcases q with q|⟨j,e1,e2,e3,q⟩
  .
   let⟨base,ext⟩:=ot f R0 F (ao:=.L p) (by simp[Ao.ads]) (λb J=>by cases aah.mp J;exact U) ⟨xs,hp,g⟩;exact Y (α++[.L p]) _ _ H q n (cu base (r:=.obj m.os.length) ⟨p,by rw[aaN (by rw[f.len];exact aab _),<-f.len];simp,rfl⟩) (ext np G)
  .
   let⟨aj,V⟩:∃aj,α[j]?=some (.L aj):=by
    let⟨v,_,a,L,_⟩:=f.var i _ e1;exact⟨a,L⟩
   have hj:j<α.length:=(AD.mp V).1;have hi:i<m.vs.length:=(AD.mp e1).1;have ndS:(ads (α.set j (.L p))).Nodup:=by
    have z:=(fi α).mp f.nd;rw[fi];refine⟨λao C=>?_,acE.mpr λi1 i2 h1 h2 hlt a C b J e=>?_⟩
    .rcases ae5 C with y|y
     .exact z.1 ao y
     .subst y;simp[Ao.ads]
    .subst e;rw[abe]at h1 h2;have mem:∀(l:Nat) (B:l<α.length),a∈(α[l]).ads->a∈ads α:=λl B h=>jL (iO B) h
     by_cases I:j=i1
     .subst I;rw[afZ]at C;rw[adv (by exact aa3 ‹_›)]at J
      cases aah.mp C
      exact S (mem i2 h2 J)
     .rw[adv I]at C
      by_cases c2:j=i2
      .subst c2;rw[afZ]at J
       cases aah.mp J
       exact S (mem i1 h1 C)
      .rw[adv c2]at J;exact gc f.nd (iO h1) (iO h2) (aa3 hlt) C J
   have ext:Ext np α H0 (α.set j (.L p)) H:=by
    refine⟨?_,F,λa C=>?_,λa C=>?_⟩
    .apply aba;intro l;rw[aaQ,aaQ]
     by_cases B:l<np
     .rw[if_pos B,if_pos B,aaK (by omega)]
     .rw[if_neg B,if_neg B]
    .obtain⟨l,ao,M,hm⟩:=iX C
     by_cases I:j=l
     .subst I;rw[aaP hj]at M;cases M
      cases aah.mp hm
      exact .inr U
     .rw[aaK I]at M;exact .inl (jL M hm)
    .obtain⟨o,q,_⟩:=f.mem C;exact⟨_,q⟩
   have Rl':Rel K (α.set j (.L p)) {m with os:=m.os.set j ds} (σ.set i (some (.ref p))) H:=by
    refine⟨ndS,by simp[f.len],λk a es Z z2=>?_,by rw[abe];exact f.vlen,λl r' z=>?_,by rw[abe];exact f.npl,f.ebl,W.ebx.trans (ext.less (by have:=f.ebl;omega))⟩
    .have z2':(m.os.set j ds)[k]?=some es:=z2
     by_cases I:j=k
     .subst I;rw[aaP hj]at Z;rw[aaP (by rw[<-f.len];exact hj)]at z2'
      cases Z;cases z2'
      exact⟨xs,hp,g⟩
     .rw[aaK I]at Z z2';exact f.own k a es Z z2'
    .have z':m.vs[l]?=some (some r'):=z
     by_cases B:i=l
     .subst B;rw[e1]at z';cases z';exact⟨.ref p,aaP (by rw[f.vlen];exact hi),p,aaP hj,rfl⟩
     .obtain⟨v,ev,rv⟩:=f.var l r' z';refine⟨v,by rw[aaK B];exact ev,?_⟩
      cases r' with
      |imm d=>exact rv
      |new _=>exact rv
      |newT _=>exact rv
      |obj k=>
       let⟨a,L,e⟩:=rv;refine⟨a,?_,e⟩;rw[aaK]
       .exact L
       .rintro rfl;exact e3 l (ab0 B) z'
      | «at» k p'=>
       let⟨T,a,L,e⟩:=rv;refine⟨T,a,?_,e⟩;rw[aaK]
       .exact L
       .rintro rfl;rw[V]at L;cases L
   exact k (α.set j (.L p)) _ _ H q n Rl' ext
theorem PK{p:Pos}(h:X.N.Nodup)(j:X.N[i]?=some x)(o:Loc X.env.scope x)(l:ME X e we)(s:abB e (some (.Name x p)) pos.line X.env=pure false:=by rfl)(t:X.fn x=true\/X.env.scope.names.lookup x=some .local:=by first|exact .inl rfl|exact .inr rfl|assumption) :
  MS X (.Assign [.Name x p] e pos) (wSet i we):=(MD h j o l s t).wk<|by intro D g H ⟨y,m,A,d,f,k⟩;exact
 ⟨y,m,_,d,f,λr B v z q n R rr F=>t6 R n F rr q k.nx ⟨m,g,d⟩⟩
abbrev WG:=aD->MSt->(MSt->Prop)->Prop
abbrev WGs:=List aD->MSt->(MSt->Prop)->Prop
def tMG(K:Kx)(g:WG):TG:=λv k H Q=>∃j m d i,Rel K j m k H/\Den K H d v/\g d m i/\∀h f,i h->h.np=m.np->Rel K j h f H->Q f H
def tMGs(K:Kx)(g:WGs):TGs:=λvs j H Q=>∃h m ds i,Rel K h m j H/\DenAll K H ds vs/\g ds m i/\∀f d,i f->f.np=m.np->Rel K h f d H->Q d H
theorem PG.wk{X:Cx}{e:Expr}{t t':TG}(h:PG X e t)(k:∀v d H Q,t' v d H Q->t v d H Q):PG X e t':=λp s d H v u Q I r q=>h p s d H v u Q I r (k _ _ _ _ q)
theorem PGs.wk{X:Cx}{e:List Expr}{t t':TGs}(h:PGs X e t)(k:∀v d H Q,t' v d H Q->t v d H Q):PGs X e t':=λp s d H v u Q I r q=>h p s d H v u Q I r (k _ _ _ _ q)
abbrev MG(X:Cx)(e:Expr)(g:WG):Prop:=PG X e (tMG X.kx g)
abbrev MGs(X:Cx)(es:List Expr)(g:WGs):Prop:=PGs X es (tMGs X.kx g)
abbrev gM(i:Nat):WG:=λd m K=>K (m.setV i (.imm d))
def JF:WGs:=λds m K=>ds=[]/\K m
abbrev xZ(g:WG)(f:WGs):WGs:=λds m K=>match ds with|d::r=>g d m λh=>f r h K|[]=>False
def Iq(n:Nat)(g:WGs):WG:=λd m K=>match d with| .tuple ds=>ds.length=n/\g ds m K|_=>False
theorem Iu(h:X.N.Nodup)(j:X.N[i]?=some x)(g:Loc X.env.scope x)(l:X.fn x=true\/X.env.scope.names.lookup x=some .local:=by first|exact .inl rfl|exact .inr rfl|assumption):MG X (.Name x pos) (gM i):=(Ic h j g l).wk λv n H Q ⟨o,m,d,K,R,hd,k,f⟩=>
 f _ _ k rfl (cu R hd)
theorem GJ:MGs X [] JF:=(Jx).wk<|by
 intro v g H Q ⟨i,m,d,K,R,hd,h,f⟩;let⟨rfl,h⟩:=h;exact⟨hd,f m g h rfl R⟩
theorem Cz{e:Expr}{es:List Expr}(y:MG X e g)(z:MGs X es gs)
  (A:(abX (e::es) X.env).map (·.2)=afh e X.env::(abX es X.env).map (·.2):=by rfl):MGs X (e::es) (xZ g gs):=(BO y z A).wk<|by
 intro v C H Q ⟨l,m,ds,K,s,hd,j,h⟩
 cases ds with
 |nil=>exact j.elim
 |cons d r=>
  let⟨x,B,rfl,o,p⟩:=hd;exact⟨x,B,rfl,l,m,d,_,s,o,j,λt q k n R=>⟨l,t,r,_,R,p,k,λm2 f k2 n2 i=>h m2 f k2 (n2.trans n) i⟩⟩
theorem Ls{es:List Expr}{k:Nat}(h:MGs X es gs)(o:X.calm=true:=by rfl)
  (p:(abX es X.env).length=n:=by rfl) (j:(abX es X.env).findIdx? (·.1)=none:=by rfl):MG X (.Tuple es k pos) (Iq n gs):=(MX o h p j).wk<|by
 intro v r H Q ⟨q,m,d,K,R,hd,i,l⟩
 cases d with
 |tuple ds=>
  let⟨a,x,e,f,g⟩:=hd;exact⟨a,x,e,f,g.length.symm.trans i.1,q,m,ds,K,R,g,i.2,l⟩
 |none=>exact i.elim
 |bool _=>exact i.elim
 |int _=>exact i.elim
 |str _=>exact i.elim
 |list _=>exact i.elim
 |dict _=>exact i.elim
abbrev jP(P:aD->Prop):R->Prop
 | .imm d=>P d
 |_=>False
theorem fY{K:Kx}{P:aD->Prop}(rr:RelR K α Hb H r v)(h:jP P r):∃d,r = .imm d/\Den K H d v/\P d:=by
 cases r with
 |imm d=>exact⟨d,rfl,rr,h⟩
 |obj _=>exact h.elim
 |new _=>exact h.elim
 | «at» _ _=>exact h.elim
 |newT _=>exact h.elim
abbrev wAsg(we:WE)(g:WG):WS:=λD m=>we m λr f=>jP (λd=>g d f D.nx) r
theorem Lu(t:ME X e we)(z:MG X tg g)(y:ady [tg] e pos.line X.env=pure false:=by rfl)(h:adz [tg] e X.env=pure none:=by rfl)
  (x:(abX [tg] X.env).map (·.2)=[afh tg X.env]:=by rfl):MS X (.Assign [tg] e pos) (wAsg we g):=(QO t z y h x).wk<|by
 intro D B H ⟨j,m,A,p,h,k⟩;refine⟨j,m,_,p,h,λr s v l q n f rr F=>?_⟩;let⟨d,C,hd,q⟩:=fY rr q;exact⟨j,s,d,_,f,hd,q,λm2 i o n2 R=>k.nx j m2 i l o (n2.trans n) R (.of R F)⟩
def wPar(i j:Nat)(ws:WA):WS:=λD m=>ws m λrs d=>match rs with|[.imm d1,.imm d2]=>D.nx ((d.setV i (.imm d1)).setV j (.imm d2))|_=>False
theorem N6{g p pt:Pos}{kt k2 pt2}(C:X.N.Nodup)(s:X.N[i]?=some x)(I:X.N[j]?=some y)(f:i≠j)
  (v:X.env.scope.names.lookup x=some .local) (r:X.env.scope.names.lookup y=some .local) (z:MA X [a,b] ws)
  (h:adz [.Tuple [.Name x g,.Name y p] kt pt] (.Tuple [a,b] k2 pt2) X.env=pure (some [x,y])) (J:X.calm=true:=by rfl)
  (L:ady [.Tuple [.Name x g,.Name y p] kt pt] (.Tuple [a,b] k2 pt2) pos.line X.env=pure false:=by rfl) :
  MS X (.Assign [.Tuple [.Name x g,.Name y p] kt pt] (.Tuple [a,b] k2 pt2) pos) (wPar i j ws):=(LM J C s I f v r z h L).wk<|by
 intro D M H ⟨l,m,E,G,h,k⟩;refine⟨l,m,_,G,h,λrs o vs B q n R rr F=>?_⟩;let⟨d1,d,A,q⟩:∃d1 d,rs=[.imm d1,.imm d]/\E.nx ((o.setV i (.imm d1)).setV j (.imm d)):=by
  split at q
  .exact⟨_,_,rfl,q⟩
  .exact q.elim
 subst A
 cases rr with
 |cons K rr=>
  cases rr with
  |cons t rr=>
  cases rr;exact⟨_,_,rfl,k.nx l _ _ B q n (cu (cu R K) t) (.of R F)⟩
end
structure Src where
 ds:List aD
 own:Option (Nat×List aD)
structure Wks(K:Kd)(J:It)(ds:List aD)(C:Hp->Prop):Prop where
 stop:∀H,C H->J.stop ds.length H
 go:∀i H,i<ds.length->C H->J.go i H
 yld:∀i H x H',i<ds.length->C H->J.yld i H x H'->(∀b o,H b=some o->H' b=some o)/\∃d,ds[i]?=some d/\Den K H' d x
def ur(K:Kd)(d:Al)(H:Hp)(s:Src)(J:It):Prop:=
 match s.own with
 |none=>∃C:Hp->Prop,Wks K J s.ds C/\C H/\∀c b,C c->Pers c b->C b
 |some k=>∃a,d[k.1]?=some (.L a)/\Wks K J s.ds λH=>∃x,H a=some (.lst x)/\DenAll K H k.2 x
abbrev WI:=MSt->(Src->MSt->Prop)->Prop
def tMI(K:Kx)(w:WI):TI:=λd H R=>∃b m e,Rel K b m d H/\w m e/\∀s c J a,e s c->c.np=m.np->Rel K b c d a->Frm b H a->ur K b a s J->R J a
theorem PI.wk{t t':TI}(h:PI X tg e t)(k:∀a H Q,t' a H Q->t a H Q):PI X tg e t':=λp s a H Q I q=>h p s a H Q I (k _ _ _ q)
abbrev MI(X:Cx)(tg e:Expr)(w:WI):Prop:=PI X tg e (tMI X.kx w)
section
variable {X:Cx}{tg a b c e B:Expr}{N:List Expr}{O Q S E:WE}{G:WA}{M:WT}{pos:Pos}{st:Stmt}{rest A L:List Stmt}{w u:WS}
def iSeq(K:aaf)(tl:TE):TI:=λg H R=>tl g H λx d=>∃a,x = .ref a/\(((∃f,SqL K d a f)/\R (Itl K a) d)\/((∃f,SqT K d a f)/\R (Itt K a) d))
theorem My{l:Expr}{tl:TE}(m:PE X l tl):PI X tg l (iSeq X.K tl):=by
 intro f s r H R I h;refine thn (m f s r H _ I h) λv s1 ⟨x,j,d,r1,k⟩=>?_;let⟨a,e,q⟩:=k;subst e;cases r1;rcases q with⟨⟨n,g⟩,q⟩|⟨⟨n,g⟩,q⟩
 .obtain⟨its,rv,p,hz⟩:=d.list g;refine wpAny_pyIter_list p.isList ?_;refine⟨s1.heap.objs.size,[s1.heap.objs.size],_,_,j,rfl,d.kept (t':=s1.toks) λb o e=>Ld _ e,zl a _,⟨_,aao _ rfl,rfl,rfl⟩,λb i=>?_,q⟩;have e:=by simpa using i
  subst e;exact d.fpOk (aab _) (d.hok.fresh (aab _))
 .obtain⟨its,rv,p,hz⟩:=d.tuple g;refine wpAny_pyIter_tuple (p) ?_;refine⟨s1.heap.objs.size,[s1.heap.objs.size],_,_,j,rfl,d.kept (t':=s1.toks) λb o e=>Ld _ e,wX a _,⟨_,aao _ rfl,rfl,rfl⟩,λb i=>?_,q⟩;have e:=by simpa using i
  subst e;exact d.fpOk (aab _) (d.hok.fresh (aab _))
def srcR(m:MSt)(K:Src->MSt->Prop):R->Prop
 | .imm (.list ds)=>K ⟨ds,none⟩ m
 | .imm (.tuple ds)=>K ⟨ds,none⟩ m
 | .obj k=>∃ds,m.os[k]?=some ds/\K ⟨ds,some (k,ds)⟩ m
 |_=>False
abbrev K8(E:WE):WI:=λm K=>E m λr d=>srcR d K r
theorem wks_list{a:Addr}:Wks K (Itl K a) ds λH=>∃xs,SqL K H a xs/\DenAll K H ds xs where
 stop:=λH ⟨xs,q,g⟩=>⟨xs,q,by rw[g.length];exact aab _⟩
 go:=λi H h ⟨xs,q,g⟩=>⟨xs,xs[i]'(by rw[<-g.length];exact h),q,iO _⟩
 yld:=λi H x k h ⟨xs,q,g⟩ y=>by
  let⟨e,y⟩:=y;subst e;let⟨d,f,j⟩:=g.get2 (y xs q);exact⟨λ_ _ z=>z,d,f,j⟩
theorem Ip{a:Addr}:Wks K (Itt K a) ds λH=>∃xs,SqT K H a xs/\DenAll K H ds xs where
 stop:=λH ⟨xs,q,g⟩=>⟨xs,q,by rw[g.length];exact aab _⟩
 go:=λi H h ⟨xs,q,g⟩=>⟨xs,xs[i]'(by rw[<-g.length];exact h),q,iO _⟩
 yld:=λi H x k h ⟨xs,q,g⟩ y=>by
  let⟨e,y⟩:=y;subst e;let⟨d,f,j⟩:=g.get2 (y xs q);exact⟨λ_ _ z=>z,d,f,j⟩
theorem Wks.imp{C f:Hp->Prop}(h:Wks K J ds C)(k:∀H,f H->C H):Wks K J ds f:=⟨λH c=>h.stop H (k H c),λi H d c=>h.go i H d (k H c),λi H x g d c=>h.yld i H x g d (k H c)⟩
theorem O9(D:ME X e E):MI X tg e (K8 E):=(My (tg:=tg) D).wk<|by
 intro T H P ⟨K,m,U,J,I,i⟩;refine⟨K,m,_,J,I,λr o v s k n R rr F=>?_⟩
 cases r with
 |new _=>exact k.elim
 | «at» _ _=>exact k.elim
 |newT _=>exact k.elim
 |obj j=>
  let⟨ds,z,k⟩:=k;let⟨p,t,rfl⟩:=rr;let⟨x,q,g⟩:=R.own j _ ds t z;exact⟨p,rfl,.inl ⟨⟨x,SqL.of q⟩,i _ o _ s k n R F ⟨p,t,wks_list.imp<|by intro H ⟨x,q,g⟩;exact⟨x,SqL.of q,g⟩⟩⟩⟩
 | imm d=>
  cases d with
  |list ds=>
   have h:=rr;simp only[Den]at h;let⟨p,x,rfl,f,g⟩:=h;refine⟨p,rfl,.inl ⟨⟨x,f.sq⟩,i _ o _ s k n R F ⟨λH=>∃x,FzL X.kx H p x/\DenAll X.kx H ds x,wks_list.imp λH ⟨x,q,g⟩=>⟨x,q.sq,g⟩,⟨x,f,g⟩,λC y ⟨x,q,g⟩ l=>⟨x,q.mono l,g.mono l⟩⟩⟩⟩
  |tuple ds=>
   have h:=rr;simp only[Den]at h;let⟨p,x,rfl,f,g⟩:=h;refine⟨p,rfl,.inr ⟨⟨x,f⟩,i _ o _ s k n R F ⟨λH=>∃x,SqT X.kx H p x/\DenAll X.kx H ds x,Ip,⟨x,f,g⟩,λC y ⟨x,q,g⟩ l=>⟨x,q.mono l,g.mono l⟩⟩⟩⟩
  |none=>exact k.elim
  |bool _=>exact k.elim
  |int _=>exact k.elim
  |str _=>exact k.elim
  |dict _=>exact k.elim
def c7(l:Int)(n:Nat):List aD:=(aat n).map λ(i:Nat)=>abq (l+(i:Int))
def ba(l:Int)(n:Nat):(c7 l n).length=n:=by simp[c7]
def og{l:Int}(h:i<n):(c7 l n)[i]?=some (.int (l+(i:Int))):=by simp[c7,h]
theorem x6{l:Int}:Wks K (Itr l n) (c7 l n) λ_=>True where
 stop:=λH _=>by rw[ba];exact aab _
 go:=λi H h _=>by rw[ba]at h;exact h
 yld:=λi H x d h _ y=>by
  rw[ba]at h;let⟨e,y⟩:=y;subst e y;exact⟨λ_ _ z=>z,_,og h,z9 _⟩
abbrev E8(G:WA):WI:=λm K=>G m λrs d=>match rs with|[.imm (.int j)]=>-(2^62)≤j/\j<2^62/\K ⟨c7 0 j.toNat,none⟩ d|_=>False
def aC{i:Int}(h:Den K H (.int i) v):v = .int i:=by simpa[Den]
theorem Ab(x:Gl X "range")(o:X.mg "range" = none)(h:MA X [a] G)(v:aag [a] X.env=[(false,eval a X.env)]:=by first|exact cE rfl|rfl):MI X tg (.Call (.Name "range" p) [a] [] pos) (E8 G):=(yA x o h v).wk<|by
 intro z H y ⟨i,m,K,r,q,f⟩;refine⟨i,m,_,r,q,λrs d vs g k n R rr F=>?_⟩;let⟨j,l,k1,k2,s⟩:∃j:Int,rs=[.imm (.int j)]/\-(2^62)≤j/\j<2^62/\K ⟨c7 0 j.toNat,none⟩ d:=by
  split at k
  .exact⟨_,rfl,k⟩
  .exact k.elim
 subst l
 cases rr with
 |cons t rr=>
  cases rr;have e:=aC (show Den X.kx g _ _ from t);subst e;exact⟨j,rfl,k1,k2,f _ d _ g s n R F ⟨λ_=>True,x6,trivial,λ_ _ _ _=>trivial⟩⟩
def MSt.setN(m:MSt)(n:Nat):MSt:={m with np:=n}
def Src.np(s:Src)(m:MSt):Nat:=match s.own with|none=>m.np|some k=>max m.np (k.1+1)
def Src.ok(s:Src)(m:MSt):Prop:=match s.own with|none=>True|some k=>m.os[k.1]?=some k.2
def qj(s:Src)(g:WG)(w:WS):WS:=λD m1=>∃P:Nat->MSt->Prop,P 0 (m1.setN (s.np m1))/\
 (∀(i:Nat) (d:aD) (m:MSt),s.ds[i]?=some d->m.np=s.np m1->P i m->s.ok m/\g d m λm2=>w {nx:=P (i+1),ct:=P (i+1),bk:=λf=>D.nx (f.setN m1.np),rt:=λr f=>D.rt r (f.setN m1.np)} m2)/\
 ∀m,m.np=s.np m1->P s.ds.length m->s.ok m/\D.nx (m.setN m1.np)
abbrev wFor(d:WI)(g:WG)(w:WS):WS:=λD m=>d m λs m1=>qj s g w D m1
def Rel.setN{K:Kx}{m:MSt}(R:Rel K α m σ H)(h:n≤α.length)(d:K.eb.np≤n):Rel K α (m.setN n) σ H:=⟨R.nd,R.len,R.own,R.vlen,R.var,h,d,R.ebx⟩
theorem ug{K:Kx}{s:Src}{w:WS}(Rl:Rel K α m1 σ H)(hJ:ur K α H s J)(h:qj s g w De m1)(k:EndsOk K m1.np α H De D)
  (hb:∀f t m F De' D',f.take (s.np m1)=α.take (s.np m1)->t.np=s.np m1->Rel K f t m F->w De' t->EndsOk K t.np f F De' D'->tb D' m F):sw J (tMG K g) tb D σ H:=by
 let⟨P,p0,turn,fin⟩:=h;have npk:s.np m1≤α.length:=by
  unfold Src.np;unfold ur at hJ
  cases e:s.own with
  |none=>exact Rl.npl
  |some j=>
   rw[e]at hJ;let⟨a,ea,_⟩:=hJ;have:=(AD.mp ea).1;have:=Rl.npl;show max m1.np (j.1+1)≤α.length;omega
 have T:m1.np≤s.np m1:=by
  unfold Src.np;split
  .exact aab _
  .exact aew _ _
 let⟨C,wk,hC⟩:∃C:Hp->Prop,Wks K J s.ds C/\∀f t m F,Rel K f t m F->Ext (s.np m1) α H f F->s.ok t->C F:=by
  unfold ur at hJ
  cases e:s.own with
  |none=>
   rw[e]at hJ;let⟨C,wk,c0,cm⟩:=hJ;exact⟨C,wk,λf t m F _ x _=>cm H F c0 (Rl.pers x.frm)⟩
  | some j=>
   rw[e]at hJ;let⟨a,ea,wk⟩:=hJ;refine⟨_,wk,λf t m F V x ok=>?_⟩;have hj:j.1<s.np m1:=by unfold Src.np;rw[e];show j.1<max _ _;omega
   have ea':f[j.1]?=some (.L a):=by
    have:=congrArg (λl=>l[j.1]?) x.pre;simp only[aaQ,if_pos hj]at this;rw[this];exact ea
   unfold Src.ok at ok;rw[e]at ok;exact V.own j.1 _ j.2 ea' ok
 have W:∀{f:Al}{t:MSt}{m:St}{F:Hp},Rel K f t m F->t.np=s.np m1->Ext (s.np m1) α H f F->Rel K f (t.setN m1.np) m F:=λV n x=>V.setN (by
  have:=V.npl;rw[n]at this;exact aaD ‹_› ‹_›) Rl.ebl
 refine⟨λi n m F=>n=s.ds.length-i/\i≤s.ds.length/\∃f t,P i t/\t.np=s.np m1/\Rel K f t m F/\Ext (s.np m1) α H f F,⟨s.ds.length,by simp,abF _,α,_,p0,rfl,Rl.setN npk (aaD Rl.ebl T),.of Rl (Frm.refl _ _)⟩,?_⟩;intro i n m F ⟨rfl,hi,f,t,p,hn,V,x⟩
 by_cases Z:i<s.ds.length
 .have hd:s.ds[i]?=some s.ds[i]:=iO Z;let⟨ok,hg⟩:=turn i _ t hd hn p;have c:=hC f t m F V x ok;refine .inr ⟨wk.go i F Z c,λσ2 Y=>∃α2 m2,P (i+1) m2/\m2.np=s.np m1/\Rel K α2 m2 σ2 Y/\Ext (s.np m1) α H α2 Y,λσ2 Y h2=>⟨s.ds.length-(i+1),by omega,rfl,Z,h2⟩,λv Y y=>?_⟩;let⟨grow,d,e1,e2⟩:=wk.yld i F v Y Z c y;rw[hd]at e1;cases e1;have F2:Frm f F Y:=λb o z _=>grow b o z;have R2:Rel K f t m Y:=V.at (V.pers F2) (λb hb=>by
   let⟨ys,z,_⟩:=V.mem hb;rw[z];exact grow b _ z) F2
  have x2:Ext (s.np m1) α H f Y:=x.trans (.of R2 F2);refine⟨f,t,_,_,R2,e2,hg,λm3 σ3 q3 n3 R3=>hb f m3 σ3 Y _ _ x2.pre (n3.trans hn) R3 q3 ?_⟩;have I:m3.np=s.np m1:=n3.trans hn;have x3:Ext m3.np α H f Y:=by rw[I];exact x2
  refine⟨λR m4 U H4 q4 n4 R4 x4=>⟨R,m4,q4,n4.trans I,R4,?_⟩,λr R m4 U v4 H4 q4 n4 R4 rr x4=>?_,λR m4 U H4 q4 n4 R4 x4=>?_,λR m4 U H4 q4 n4 R4 x4=>⟨R,m4,q4,n4.trans I,R4,?_⟩⟩
  .rw[<-I];exact x3.trans x4
  .have x5:Ext (s.np m1) α H R H4:=by rw[<-I];exact x3.trans x4
   exact k.rt r R (m4.setN m1.np) U v4 H4 q4 rfl (W R4 (n4.trans I) x5) (rr.ext x3) (x5.less T)
  .have x5:Ext (s.np m1) α H R H4:=by rw[<-I];exact x3.trans x4
   exact k.nx R (m4.setN m1.np) U H4 q4 rfl (W R4 (n4.trans I) x5) (x5.less T)
  .rw[<-I];exact x3.trans x4
 .have e:i=s.ds.length:=by omega
  subst e;let⟨ok,q⟩:=fin t hn p;exact .inl ⟨wk.stop F (hC f t m F V x ok),k.nx f (t.setN m1.np) m F q rfl (W V hn x) (x.less T)⟩
theorem Rj{h:WI}(y:MI X tg B h)(I:MG X tg g)(K:MSs X A w)(r:aft (model X.prog X.w) X.A X.env X.xe)(v:X.calm=true:=by rfl)
  (C:∀x,aaR B X.env x=pure x:=by intro _;rfl):MS X (.For tg B A [] pos) (wFor h g w):=(QL r v y I K C).wk<|by intro D W H ⟨U,m,V,t,o,k⟩;exact
 ⟨U,m,_,t,o,λs i J j q n R F T=>ug R T q (by rw[n];exact k.ext (.of R F)) λd i P j f Y _ _ p z l=>⟨d,i,f,p,z,l⟩⟩
def Av(t:WT)(w:WS):WS:=λD f=>∃P:Nat->MSt->Prop,(∃n,P n f)/\∀n m,m.np=f.np->P n m->t m λc g=>if c=true then w {D with nx:=λm2=>∃d,d<n/\P d m2,ct:=λm2=>∃d,d<n/\P d m2,bk:=D.nx} g else D.nx g
theorem CK(U:MT X t M)(hb:MSs X A w)(Y:aft (model X.prog X.w) X.A X.env X.xe):MS X (.While t A [] pos) (Av M w):=(Cn Y U hb).wk<|by
 intro D σ H ⟨I,m,De,J,⟨P,⟨n0,p0⟩,p⟩,k⟩;refine⟨λn g h=>∃d f,P n f/\f.np=m.np/\Rel X.kx d f g h/\Ext m.np I H d h,⟨n0,I,m,p0,rfl,J,.of J (Frm.refl _ _)⟩,?_⟩;intro n C H1 ⟨j,m1,T,n1,R1,W⟩;refine⟨j,m1,_,R1,p n m1 n1 T,λZ m2 K q n2 R2 V=>?_⟩;have x:=W.trans (.of R2 V);have s:m2.np=m.np:=n2.trans n1
 cases Z with
 |true=>
  refine iteT ⟨λo F=>∃i,i<n/\∃d f,P i f/\f.np=m.np/\Rel X.kx d f o F/\Ext m.np I H d F,by intro o F ⟨i,l,z⟩;exact⟨i,l,z⟩,j,m2,_,R2,q,?_⟩;rw[s];exact⟨λd f g h ⟨i,l,q⟩ nn R y=>⟨i,l,d,f,q,nn,R,x.trans y⟩,λr d f g v h q nn R rr y=>k.rt r d f g v h q nn R (rr.ext x) (x.trans y),λd f g h q nn R y=>k.nx d f g h q nn R (x.trans y),λd f g h ⟨i,l,q⟩ nn R y=>⟨i,l,d,f,q,nn,R,x.trans y⟩⟩
 |false=>
  exact iteF (k.nx j m2 C K q s R2 x)
end
section
variable {K:Kx}{f:Al}{m:MSt}{j:St}{H:Hp}
theorem Rel.setW(R:Rel K f m j H)(s:f[q]?=some ao)(x:Pers H H')(F:∀b,b∉ao.ads->H' b=H b)(g:OwnAt K H' ao ds'):Rel K f {m with os:=m.os.set q ds' } j H'/\Frm f H H':=by
 have u:Frm f H H':=λb o e nb=>by rw[F b λz=>nb (jL s z)];exact e
 have l:∀(k:Nat) (a:Ao) w,f[k]?=some a->(m.os.set q ds')[k]?=some w->OwnAt K H' a w:=λk a w y n=>by
  by_cases c:q=k
  .subst c;rw[aaP (by rw[<-R.len];exact(AD.mp s).1)]at n
   grind
  .rw[aaK c]at n;exact(R.own k a w y n).mono x λb A=>F b λz=>gc R.nd s y c z A
 refine⟨⟨R.nd,by simp[R.len],l,R.vlen,λi r h=>?_,R.npl,R.ebl,R.ebx.trans ⟨rfl,u,λ_ h=>.inl h,λa s=>?_⟩⟩,u⟩
 .obtain⟨v,ev,rv⟩:=R.var i r h;refine⟨v,ev,?_⟩
  cases r with
  |imm d=>exact Den.mono x rv
  |obj k=>exact rv
  | «at» k p=>exact rv
  |new ds=>exact rv
  |newT t=>exact rv
 .obtain⟨k,ao,e1,hm⟩:=iX s;have hk:k<(m.os.set q ds').length:=by rw[abe,<-R.len];exact(AD.mp e1).1
  let⟨o,q,_⟩:=(l k ao _ e1 (iO hk)).mem hm;exact⟨o,q⟩
theorem Rel.setO{x:List V}(R:Rel K f m j H)(a:f[q]?=some (.L l))(h:H l=some (.lst xs))(g:DenAll K H ds' x):Rel K f {m with os:=m.os.set q ds' } j (upd H l (.lst x))/\Frm f H (upd H l (.lst x)):=by
 have p:Pers H (upd H l (.lst x)):=uX h;exact R.setW a p (λb c=>au λe=>c (aah.mpr e)) ⟨x,av,g.mono p⟩
end
def wf(own:List Str)(ps:List Nat)(vs:List (Option R)):List (Option R):=own.map (λ_=>none)++ps.map λi=>(vs[i]?).join
def my(own:List Str)(ps:List Nat)(m:MSt):MSt:=⟨wf own ps m.vs,m.os++[[]],m.os.length+1⟩
abbrev wIfT(tt:WT)(w:WS):WS:=λD m=>tt m λb a=>if b=true then w D a else D.nx a
abbrev Jr(q:Nat)(w:WE):WS:=λD m=>w m λr a=>jP (λd=>∃ds,a.os[q]?=some ds/\ds.length<aaj/\D.nx {a with os:=a.os.set q (ds++[d])}) r
abbrev rm(w:WI)(own:List Str)(ps:List Nat)(g:WG)(tt:WT)(b:WE):WE:=λm K=>w m λs m1=>
 qj s g (wIfT tt (Jr m1.os.length b)) {nx:=λa=>K (.new (a.os.getD m1.os.length [])) {m1 with os:=a.os.take m1.os.length},rt:=λ_ _=>False} (my own ps m1)
abbrev zk(b:WI)(own:List Str)(ps:List Nat)(g:WG)(tt:WT)(w:WI)(c:WG)(t:WT)(e:WE):WE:=λm K=>b m λs m1=>
 qj s g (wIfT tt λD m2=>w m2 λs2 d=>qj s2 c (wIfT t (Jr m1.os.length e)) D d) {nx:=λa=>K (.new (a.os.getD m1.os.length [])) {m1 with os:=a.os.take m1.os.length},rt:=λ_ _=>False} (my own ps m1)
abbrev zu:WT:=λm K=>K true m
section
variable {K:Kx}
theorem AI{w:WE}{m:MSt}(c:α[q]?=some (.L l))(f:Rel K α m σ H)(h:Jr q w De m)(k:EndsOk K m.np α H De D):vO l (tM K w) D σ H:=by
 refine⟨α,m,_,f,h,λr p v o a n R rr F=>?_⟩;let⟨d,s,hd,ds,e,i,a⟩:=fY rr a;let⟨x,b,g⟩:=R.own q _ ds c e;let⟨R2,j⟩:=R.setO c b (g.append (DenAll.cons hd DenAll.nil));exact⟨x,b,by rw[<-g.length];exact i,k.nx α _ σ _ a n R2 (.of R2 (F.trans j))⟩
theorem y7{tt:WT}{m:MSt}(d:Rel K α m σ H)(h:wIfT tt w De m)(k:EndsOk K m.np α H De D)
  (f:∀a b,a.np=m.np->Rel K α a σ b->w De a->EndsOk K a.np α b De D->tb D σ b):tIfT (tMT K tt) tb D σ H:=by
 refine⟨α,m,_,d,h,λe a b q n R F=>?_⟩;have c:EndsOk K a.np α b De D:=by rw[n];exact k.ext (.of R F)
 cases e with
 |true=>rw[if_pos rfl]at q;exact iteT (f a b n R q c)
 |false=>rw[if_neg aaq]at q;exact iteF (c.nx α a σ b q rfl R (.of R (Frm.refl _ _)))
theorem Bi{own:List Str}{ps:List Nat}{s:Src}{m:MSt}{Kc:R->MSt->Prop}(Rl:Rel K α m σ H)(n1:m1.np=m.np)(c:Rel K α m1 σ H1)(F1:Frm α H H1)(W:ur K α H1 s J)(L:H1 l=none)
  (h:qj s g w {nx:=λf=>Kc (.new (f.os.getD m1.os.length [])) {m1 with os:=f.os.take m1.os.length},rt:=λ_ _=>False} (my own ps m1))
  (fin:∀r f v u,Kc r f->f.np=m.np->Rel K α f σ u->RelR K α H u r v->Frm α H u->Q v u)
  (hb:∀A f E u F Z,A[m1.os.length]?=some (.L l)->m1.os.length<f.np->Rel K A f E u->w F f->EndsOk K f.np A u F Z->tb Z E u) :
  sw J (tMG K g) tb {nx:=λ_ u=>Q (.ref l) u,rt:=λ_ _=>False} (gQ own ps σ) (upd H1 l (.lst [])):=by
 have pα:l∉ads α:=c.out L;have pe:Pers H1 (upd H1 l (.lst [])):=bi (.inl L);have B:α.length=m1.os.length:=c.len;have U:(α++[.L l])[m1.os.length]?=some (.L l):=by rw[aaN (by omega),<-B];simp
 have P:Rel K α m1 σ (upd H1 l (.lst [])):=c.lay L;let⟨Y,extm⟩:=ot (ao:=.L l) (ds:=[]) P ⟨m1,σ,c⟩ (cn L) (by simp[Ao.ads]) (λb hb=>by cases aah.mp hb;exact L) ⟨[],av,DenAll.nil⟩;have R0:Rel K (α++[.L l]) (my own ps m1) (gQ own ps σ) (upd H1 l (.lst [])):=by
  refine⟨Y.nd,by simp[my,B],Y.own,by simp[gQ,my,wf],λi r z=>?_,by simp[my,B],by have:=c.ebl;have:=c.npl;show K.eb.np≤m1.os.length+1;omega,Y.ebx⟩;have D:(wf own ps m1.vs)[i]?=some (some r):=z;unfold wf at D
  by_cases hi:i<own.length
  .rw[aaE (by simpa using hi),aae]at D
   cases q:own[i]? with
   |none=>rw[q]at D;cases D
   |some y=>rw[q]at D;cases D
  .rw[aaN (by simpa using hi),lD,aae]at D
   cases q:ps[i-own.length]? with
   |none=>rw[q]at D;cases D
   | some p=>
    rw[q]at D;have S:(m1.vs[p]?).join=some r:=aaB D;have hv:m1.vs[p]?=some (some r):=by
     cases y:m1.vs[p]? with
     |none=>rw[y]at S;cases S
     |some y'=>rw[y]at S;cases y' with
      |none=>cases S
      |some y'=>cases S;rfl
    let⟨v,ev,N⟩:=Y.var p r hv;refine⟨v,?_,N⟩;unfold gQ;rw[aaN (by simpa using hi),lD,aae,q];show some ((σ[p]?).join)=some (some v);rw[ev];rfl
 have hJ':ur K (α++[.L l]) (upd H1 l (.lst [])) s J:=by
  unfold ur at W⊢
  cases e:s.own with
  |none=>
   rw[e]at W;let⟨C,wk,c0,cm⟩:=W;exact⟨C,wk,cm _ _ c0 pe,cm⟩
  |some j=>
   rw[e]at W;let⟨a,ea,wk⟩:=W;exact⟨a,by rw[aaE (AD.mp ea).1];exact ea,wk⟩
 have X:m1.os.length<s.np (my own ps m1):=by
  unfold Src.np;split
  .exact abA _
  .exact aav (abA _) (aew _ _)
 refine ug R0 hJ' h ⟨λA f E u q n O x=>?_,λ_ _ _ _ _ _ z=>z.elim,λ_ _ _ _ z=>z.elim,λ_ _ _ _ z=>z.elim⟩ λA f E u F Z hp hnp O h' k'=>hb A f E u F Z ?_ (by rw[hnp];exact X) O h' k'
 .
  have n':f.np=m1.os.length+1:=n;have x':Ext (m1.os.length+1) (α++[.L l]) (upd H1 l (.lst [])) A u:=x;have F':Frm α H1 u:=λb o e nb=>by
   have T:b≠l:=bq e L;refine x'.frm b o (by rw[au T];exact e) λz=>?_;rw[jv]at z;rcases aaU.mp z with z|z
   .exact nb z
   .exact T (by simpa[ads,Ao.ads]using z)
  have pe':Pers H1 u:=c.pers F';have I:∀k,k<m1.os.length+1->A[k]?=(α++[.L l])[k]?:=λk hk=>by
   have:=congrArg (λz=>z[k]?) x'.pre;simp only[aaQ,if_pos hk]at this;exact this
  have hlen':m1.os.length+1≤f.os.length:=by
   have:=O.npl;rw[n',O.len]at this;exact this
  have hq:m1.os.length<f.os.length:=by assumption
  have eq1:f.os[m1.os.length]?=some (f.os.getD m1.os.length []):=by
   rw[aaa,iO hq];rfl
  let⟨xs,y1,y2⟩:=O.own m1.os.length (.L l) _ (by rw[I _ (abA _)];exact U) eq1;have G:∀(k:Nat) (a:Ao) (es:List aD),α[k]?=some a->(f.os.take m1.os.length)[k]?=some es->OwnAt K u a es:=λk a es z1 M=>by
   rw[aaQ]at M;have hk:k<m1.os.length:=by rw[<-B];exact(AD.mp z1).1
   rw[if_pos hk]at M;exact O.own k a es (by rw[I k (by omega),aaE (by omega)];exact z1) M
  have tl:(f.os.take m1.os.length).length=α.length:=by rw[aau];omega
  have V:Ext K.eb.np α H1 α u:=⟨rfl,F',λ_ h=>.inl h,λa ha=>by
   let⟨k,ao,e1,hm⟩:=iX ha;have hk:k<(f.os.take m1.os.length).length:=by rw[tl];exact(AD.mp e1).1
   let⟨o,q,_⟩:=(G k ao _ e1 (iO hk)).mem hm;exact⟨o,q⟩⟩
  refine fin _ _ (.ref l) u q n1 ⟨c.nd,tl.symm,G,c.vlen,λi r z=>?_,c.npl,c.ebl,c.ebx.trans V⟩ ?_ (F1.trans F')
  .obtain⟨v,ev,N⟩:=c.var i r z;refine⟨v,ev,?_⟩
   cases r with
   |imm d=>exact Den.mono pe' N
   |obj k=>exact N
   | «at» k p=>exact N
   |new ds=>exact N
   |newT t=>exact N
  .refine⟨l,xs,rfl,?_,y1,y2⟩
   cases z:H l with
   |none=>rfl
   |some o=>
    have:=F1 l o z pα;rw[L]at this;cases this
 .have:=congrArg (λz=>z[m1.os.length]?) hp;simp only[aaQ,if_pos X]at this;rw[this];exact U
end
section
variable {X:Cx}{scope sc:Scope}{own fr:List Str}{ps:List Nat}{elt tg a j b:Expr}{ifs e:List Expr}{pos d u:Pos}{w o:WI}{g A:WG}{tt p:WT}{f:WE}
theorem vc(h:tM X.kx (rm w own ps g tt f) σ H Q):Ai (tMI X.kx w) own ps (tl1 (tMG X.kx g) (tMT X.kx tt) (tM X.kx f)) σ H Q:=by
 let⟨G,m,O,i,z,c⟩:=h;refine⟨G,m,_,i,z,λs m1 J K k n1 R F E l v=>?_⟩;exact Bi i n1 R F E v k c λy L C N D M x n B r q=>y7 B r q λm2 I n2 R2 t k2=>AI x R2 t k2
theorem BP(h:tM X.kx (zk w own ps g tt o A p f) σ H Q):Ai (tMI X.kx w) own ps (tl2 (tMG X.kx g) (tMT X.kx tt) (tMI X.kx o) (tMG X.kx A) (tMT X.kx p) (tM X.kx f)) σ H Q:=by
 let⟨α,m,Kc,x,U,i⟩:=h;refine⟨α,m,_,x,U,λs m1 J H1 k n1 R T hJ l N=>?_⟩;refine Bi x n1 R T hJ N k i λq m' σ' H' S D' O c V I B=>y7 V I B λm2 H2 n2 R2 K k2=>?_;refine⟨q,m2,_,R2,K,λs2 t J2 H3 F y v P n=>?_⟩;have C:m1.os.length<s2.np t:=by
  have:m1.os.length<t.np:=by rw[y,n2];exact c
  unfold Src.np;split
  .omega
  .exact aav this (aew _ _)
 refine ug v n F (by rw[y];exact k2.ext (.of v P)) λM m4 Z H4 L D4 r G Y D E=>y7 Y D E λm5 H5 n5 R5 W k5=>AI ?_ R5 W k5;have:=congrArg (λz=>z[m1.os.length]?) r;simp[aaQ,if_pos C]at this;rw[this];exact O
theorem BU(S:ci own fr scope sc)(m:MI X tg a w)(r:∀cl s H C ex,MG (aQ X scope cl (own++fr) s H C ex) tg g)(t:∀cl s H C ex,PTs (aQ X scope cl (own++fr) s H C ex) ifs (tMT X.kx tt))
  (n:∀cl s H C ex,ME (aQ X scope cl (own++fr) s H C ex) elt f) (c:X.env.scope=sc:=by rfl) (k:ps.map (λi=>X.N[i]?)=fr.map some:=by rfl) (q:X.calm=true:=by rfl) (l:∀x,aaR a X.env x=pure x:=by intro _;rfl) :
  ME X (.ListComp elt [⟨tg,a,ifs,0⟩] scope pos) (rm w own ps g tt f):=(C5 S m r t n c k q l).wk λ_ _ _ h=>vc h
theorem Jz:PTs X [] (tMT X.kx zu):=by intro c s k H Q I ⟨l,m,K,R,i,h⟩;exact J7 c s k H Q I (h true m H i rfl R (Frm.refl _ _))
def JC{t:WT}(h:MT X c t):PTs X [c] (tMT X.kx t):=GI h
theorem Cp(S:ci own fr scope sc)(B:X.N.Nodup)(I:X.N[i]?=some y)(h:X.env.scope.names.lookup y=some .local)(J:MI X tg a w)(O:∀cl s H C ex,MG (aQ X scope cl (own++fr) s H C ex) tg g)(K:∀cl s H C ex,PTs (aQ X scope cl (own++fr) s H C ex) ifs (tMT X.kx tt))
  (M:∀cl s H C ex,ME (aQ X scope cl (own++fr) s H C ex) elt f) (t:abB (.ListComp elt [⟨tg,a,ifs,0⟩] scope pos) (some (.Name y u)) d.line X.env=pure true:=by rfl)
  (l:X.env.scope=sc:=by rfl) (c:ps.map (λi=>X.N[i]?)=fr.map some:=by rfl) (L:X.calm=true:=by rfl) (N:∀x,aaR a X.env x=pure x:=by intro _;rfl) :
  MS X (.Assign [.Name y u] (.ListComp elt [⟨tg,a,ifs,0⟩] scope pos) d) (wSet i (rm w own ps g tt f)):=(CQ S B I h J O K M t l c L N).wk λD G H ⟨P,m,T,z,E,k⟩=>
 vc ⟨P,m,_,z,E,λr U v Q q n R rr F=>t6 R n F rr q k.nx ⟨m,G,z⟩⟩
theorem DF(S:ci own fr scope sc)(K:X.N.Nodup)(I:X.N[i]?=some y)(E:X.env.scope.names.lookup y=some .local)(O:MI X tg a w)(T:∀cl s H C ex,MG (aQ X scope cl (own++fr) s H C ex) tg g)(J:∀cl s H C ex,PTs (aQ X scope cl (own++fr) s H C ex) ifs (tMT X.kx tt))
  (hi2:∀cl s H C ex,MI (aQ X scope cl (own++fr) s H C ex) j b o) (B:∀cl s H C ex,MG (aQ X scope cl (own++fr) s H C ex) j A) (z:∀cl s H C ex,PTs (aQ X scope cl (own++fr) s H C ex) e (tMT X.kx p))
  (P:∀cl s H C ex,ME (aQ X scope cl (own++fr) s H C ex) elt f) (l:abB (.ListComp elt [⟨tg,a,ifs,0⟩,⟨j,b,e,0⟩] scope pos) (some (.Name y u)) d.line X.env=pure true:=by rfl)
  (t:X.env.scope=sc:=by rfl) (h:ps.map (λi=>X.N[i]?)=fr.map some:=by rfl) (M:X.calm=true:=by rfl) (N:∀x,aaR a X.env x=pure x:=by intro _;rfl)
  (c:∀cl C x,aaR b (af7 scope cl C X.env) x=pure x:=by intro _ _ _;rfl) :
  MS X (.Assign [.Name y u] (.ListComp elt [⟨tg,a,ifs,0⟩,⟨j,b,e,0⟩] scope pos) d) (wSet i (zk w own ps g tt o A p f)):=(Df S K I E O T J hi2 B z P l t h M N c).wk λD Q H ⟨U,m,W,G,L,k⟩=>
 BP ⟨U,m,_,G,L,λr V v Y q n R rr F=>t6 R n F rr q k.nx ⟨m,Q,G⟩⟩
end
def br{i:Str}(h:Den K H (.str i) v):v = .str i:=by simpa[Den]
def kH{i:Bool}(h:Den K H (.bool i) v):v = .bl i:=by simpa[Den]
def m6(h:Den K H .none v):v = .non:=by simpa[Den]
def dM(i:Int):RelR K α Hb H (.imm (.int i)) (.int i):=rfl
def l7(i:Bool):RelR K α Hb H (.imm (.bool i)) (.bl i):=rfl
def Fg(i:Str):RelR K α Hb H (.imm (.str i)) (.str i):=rfl
def qJ:RelR K α Hb H (.imm .none) .non:=rfl
def mX{d:aD}(h:Den K H d v):RelR K α Hb H (.imm d) v:=h
def bV(h:Den K H (.tuple ds) v):∃a xs,v = .ref a/\SqT K H a xs/\DenAll K H ds xs:=by simpa only[Den]
def fv(f:SqT K H a xs)(g:DenAll K H ds xs):Den K H (.tuple ds) (.ref a):=by  exact⟨a,xs,rfl,f,g⟩
section
variable {X:Cx}
def oAdd:WO
 | .imm (.int i),.imm (.int j),_,K=>K (.imm (.int (i+j)))
 | .imm (.str x),.imm (.str y),_,K=>x.length+y.length≤aaj/\K (.imm (.str (x++y)))
 | .imm (.tuple a),.imm (.tuple b),_,K=>a.length+b.length≤aaj/\K (.imm (.tuple (a++b)))
 |r1,r2,m,K=>∃d c,lsOf m r1=some d/\lsOf m r2=some c/\d.length+c.length≤aaj/\K (.new (d++c))
theorem aG:OpR X (acl .Add) (rM X.kx oAdd):=by
 intro k s C H x y v u Q I J S ⟨α,m,σ,H0,H1,r1,r2,Kc,R,P,K,h,f⟩;unfold oAdd at h
 split at h
 .rename_i _ _ i j;have F:=aC (show Den X.kx H (.int i) x from P);have N:=aC (show Den X.kx H (.int j) y from K);subst F N;exact NR k s C H _ _ v u Q I J S ⟨i,j,rfl,rfl,f _ _ H h R (dM _) (Frm.refl _ _)⟩
 .rename_i _ _ i j;have F:=br (show Den X.kx H (.str i) x from P);have N:=br (show Den X.kx H (.str j) y from K);subst F N;exact w5 k s C H _ _ v u Q I J S ⟨i,j,rfl,rfl,h.1,f _ _ H h.2 R (Fg _) (Frm.refl _ _)⟩
 .rename_i _ _ ds es;let⟨a,M,rfl,U,E⟩:=bV (show Den X.kx H (.tuple ds) x from P);let⟨b,T,rfl,V,D⟩:=bV (show Den X.kx H (.tuple es) y from K);let⟨Y,h⟩:=h
  by_cases hx:M=[]
  .subst hx
   cases J;cases S
   let⟨q,r,p1,_⟩:=I.tuple U;let⟨c,A,p2,_⟩:=I.tuple V;cases r;let⟨⟨Z,W,L,sl⟩,g,O,n,hd⟩:=id p1;let⟨⟨G,B,z,w⟩,d,l,n2,o⟩:=id p2;simp only at O hd l o;subst O hd l o;have e0:ds=[]:=by cases ds with|nil=>rfl|cons _ _=>have:=E.length;simp at this
   subst e0;exact afH ⟨_,g,rfl⟩ ⟨_,d,rfl⟩ afu agw ad3 adX (adC _ _)
    (tuple_addW0 a b _ c.toArray n n2 W B sl w (by simp)) ⟨g,d,⟨.ref b,H,I,rfl,f _ _ H h R (show Den X.kx H (.tuple ([]++es)) (.ref b)from K) (Frm.refl _ _)⟩⟩
  .refine Gq k s C H _ _ v u Q I J S ⟨a,b,M,T,rfl,rfl,U,V,hx,by rw[<-E.length,<-D.length];exact Y,λe=>?_,λe p t=>?_⟩
   .subst e;have e0:es=[]:=by cases es with|nil=>rfl|cons _ _=>have:=D.length;simp at this
    subst e0;exact f _ _ H (by rw[aa0]at h;exact h) R (mX P) (Frm.refl _ _)
   .exact f _ _ _ h (R.lay t) (mX<|fv (SqT.of av) ((E.append D).mono (bi (.inl t)))) (cn t)
 .obtain⟨ds,es,F,N,Y,h⟩:=h;let⟨a,M,rfl,U,E⟩:=P.list R F;let⟨b,T,rfl,V,D⟩:=K.list R N
  cases J;cases S
  let⟨q,r,⟨⟨Z,W,L,sl⟩,n,g,O,hdd,hd⟩,_⟩:=I.list U;let⟨c,A,⟨⟨G,B,z,w⟩,n2,d,l,hdd2,o⟩,_⟩:=I.list V;simp only at O hd l o;subst O hd l o;have hzz:M.length+T.length≤aaj:=by rw[<-E.length,<-D.length];exact Y
  refine afH ⟨_,g,rfl⟩ ⟨_,d,rfl⟩ noFill_list_add seq_list_add PySem.F.slot_list_add PySem.F.entry_list_add (PySem.F.args_list_add_2 _ _) (list_addW a b q.toArray c.toArray n n2 W B sl w (by have:=r.length;have:=A.length;simp only[aaG];omega)) ⟨g,d,?_⟩;have ea:q.toArray++c.toArray=(q++c).toArray:=by simp
  rw[ea];have t:H s.heap.objs.size=none:=I.fresh;exact⟨.ref _,_,I.lnew (t':=s.toks) (r.append A) (by rw[aam];omega),rfl,f _ _ _ h (R.lay t) ⟨_,M++T,rfl,t,av,(E.append D).mono (bi (.inl t))⟩ (cn t)⟩
def oII(C:Int->Int->Prop)(g:Int->Int->Int):WO
 | .imm (.int i),.imm (.int j),_,K=>C i j/\K (.imm (.int (g i j)))
 |_,_,_,_=>False
def oIB(g:Int->Int->Bool):WO
 | .imm (.int i),.imm (.int j),_,K=>K (.imm (.bool (g i j)))
 |_,_,_,_=>False
theorem sx{f:Ad->Ad->Sem Ad}{C:Int->Int->Prop}{g:Int->Int->Int}(h:OpR X f (rI C λi j=>.int (g i j))):OpR X f (rM X.kx (oII C g)):=by
 intro p s c H x y v u Q I r n ⟨z,m,q,t,o,r1,w,K,R,l,d,a,b⟩;unfold oII at a
 split at a
 .rename_i _ _ i j;have e:=aC (show Den X.kx H _ x from l);have k:=aC (show Den X.kx H _ y from d);subst e k;exact h p s c H _ _ v u Q I r n ⟨i,j,rfl,rfl,a.1,b _ _ H a.2 R (dM _) (Frm.refl _ _)⟩
 .simp_all
theorem zn{f:Ad->Ad->Sem Ad}{g:Int->Int->Bool}(h:OpR X f (rI0 λi j=>.bl (g i j))):OpR X f (rM X.kx (oIB g)):=by
 intro p s c H x y v u Q I r n ⟨z,m,q,t,o,r1,w,K,R,l,d,b,a⟩;unfold oIB at b
 split at b
 .rename_i _ _ i j;have e:=aC (show Den X.kx H _ x from l);have k:=aC (show Den X.kx H _ y from d);subst e k;exact h p s c H _ _ v u Q I r n ⟨i,j,rfl,rfl,a _ _ H b R (l7 _) (Frm.refl _ _)⟩
 .simp_all
def oSub:WO:=oII (λ_ _=>True) λi j=>i-j
theorem zW:OpR X (acl .Sub) (rM X.kx oSub):=sx (opI λ_ _ _ _ _ _ _ _ q=>sub_int q)
def oMul:WO:=oII agQ λi j=>i*j
theorem KZ:OpR X (acl .Mult) (rM X.kx oMul):=sx (opI λ_ _ _ _ _ _ _ h q=>mul_int q h)
def CFd(_ j:Int):Prop:=0<j/\j.natAbs.log2<9000
def PF:WO:=oII CFd λi j=>i/j
theorem gl:OpR X (acl .FloorDiv) (rM X.kx PF):=sx (opI λi j _ _ _ _ _ h q=>floordiv_int (by have:=h.1;omega) (by rw[Int.fdiv_eq_ediv_of_nonneg _ (by have:=h.1;omega)];exact q) (.inl (PyProof.noPylong_of_log2 h.2)))
def oMod:WO:=oII (λ_ j=>0<j) λi j=>i%j
def d4:OpR X (acl .Mod) (rM X.kx oMod):=sx LS
def oPow:WO:=oII CPow λi j=>i^j.toNat
def Ie:OpR X (acl .Pow) (rM X.kx oPow):=sx Lw
def oLt:WO:=oIB λi j=>decide (i<j)
def oGt:WO:=oIB λi j=>decide (j<i)
def oGe:WO:=oIB λi j=>decide (j≤i)
def ix:OpR X (abm .Lt) (rM X.kx oLt):=zn Ue
def lL:OpR X (abm .Gt) (rM X.kx oGt):=zn Ui
def Fe:OpR X (abm .GtE) (rM X.kx oGe):=zn RG
def eqD(f:Bool->Bool):WO:=λr1 r m K=>match asD m r1,asD m r with
 |some d1,some d2=>ab5 d1=true/\ab5 d2=true/\K (.imm (.bool (f (aai d1 d2))))
 |_,_=>False
def eqS(f:Bool->Bool):WO:=λr1 r m K=>∃x y:Str,r1 = .imm (.str x)/\r = .imm (.str y)/\K (.imm (.bool (f (decide (x=y)))))
def eqSs(f:Bool->Bool):WO:=λr1 r m K=>∃x y:List Str,lsOf m r1=some (x.map .str)/\lsOf m r=some (y.map .str)/\x.length=y.length/\K (.imm (.bool (f (decide (x=y)))))
def oEq:WO:=λr1 r m K=>eqD id r1 r m K\/eqS id r1 r m K\/eqSs id r1 r m K
def oNe:WO:=λr1 r m K=>eqD (!·) r1 r m K\/eqS (!·) r1 r m K
theorem im{K:Kd}{H:Hp}:∀{ns:List Str}{xs:List V},DenAll K H (ns.map .str) xs->xs=ns.map V.str
 |[],_,h=>by simpa only[ DenAll]
 |n::ns,_,h=>by
  let⟨v,vs,rfl,a,b⟩:=h;have e:=br a;rw[e,im b];rfl
theorem qe:∀{ns:List Str}{us:List Ad}{j:Nat}{u:Ad},Vals (ns.map V.str) us->us[j]?=some u->∃x t,ns[j]?=some x/\u = .str x t
 |[],_,_,_,.nil,e=>by simp at e
 |n::ns,_,0,_,.cons r _,e=>by
  simp at e;subst e;let⟨t,h⟩:=r;exact⟨n,t,rfl,h⟩
 |n::ns,_,j+1,u,.cons _ t,e=>by
  let⟨x,c,a,b⟩:=qe t ‹_›;exact⟨x,c,by simpa using a,b⟩
theorem ud(xs ys:List Str)(h:xs.length=ys.length):(aat xs.length).all (λj=>decide (xs.getD j aeL=ys.getD j aeL))=decide (xs=ys):=by
 rw[abI,abr,decide_eq_true_eq];constructor
 .intro q;apply ag5 h;intro i a b;have:=q i (by simpa);rw[decide_eq_true_eq,aaa,aaa,iO a,iO b]at this;exact this
 .rintro rfl j _;exact decide_eq_true rfl
theorem JJ{s:GT}{x y:V}{v u:Ad}{m:MSt}{r1 r2:R}{xs ys:List Str}(I:Inv X pins σ' H s)(f:Rel X.kx α m σ H)(E:RelR X.kx α H0 H r1 x)(p:RelR X.kx α H1 H r2 y)(K:RelV x v)(P:RelV y u)
  (k:lsOf m r1=some (xs.map .str)) (N:lsOf m r2=some (ys.map .str)) (w:xs.length=ys.length) (U:X.A.units+64<cLine):∃l b c i,v = .ref l/\u = .ref b/\s.heap.IsList l c/\s.heap.IsList b i/\c.size=xs.length/\i.size=xs.length/\
   ∀j (z:j<c.size) (D:j<i.size),afC X.A.in1 s c[j] i[j] (decide (xs.getD j aeL=ys.getD j aeL)):=by
 let⟨a,W,rfl,L,S⟩:=E.list f k;let⟨b,T,rfl,C,G⟩:=p.list f N;have J:=im S;have M:=im G;subst J M
 cases K;cases P
 let⟨c,d,Q,_⟩:=I.list L;let⟨i,r,q,_⟩:=I.list C;have h:=d.length;have g:=r.length;rw[lD]at h g;refine⟨a,b,c.toArray,i.toArray,rfl,rfl,Q.isList,q.isList,by simp[h],by simp[<-g,w],λj z D=>?_⟩;let⟨x,t,B,n⟩:=qe d (j:=j) (u:=c.toArray[j]) (by simp);let⟨y,o,O,F⟩:=qe r (j:=j) (u:=i.toArray[j]) (by simp);rw[n,F,aaa,aaa,B,O];have:=afC.str_str (A:=X.A.in1) (s:=s) x t y o;have e:(x==y)=decide (x=y):=by rw[aec]
 simp_all
theorem bo(j:X.A.units+64<cLine):OpR X (abm .Eq) (rM X.kx oEq):=by
 intro p s i H x y v u Q I r g ⟨F,m,C,D,A,r1,E,K,R,d,c,h,f⟩;rcases h with h|⟨z,t,rfl,rfl,h⟩|⟨o,n,e,a,k,h⟩
 .unfold eqD at h
  split at h
  .rename_i d1 d2 e a;let⟨B,q⟩:=d.reads I R r e (aa6 _ (ac0 h.1));let⟨bs,w⟩:=c.reads I R g a (aa6 _ (ac0 h.2.1));exact eq_dataH q w h.1 h.2.1 j ⟨.bl _,H,I,rfl,f _ _ H h.2.2 R (l7 _) (Frm.refl _ _)⟩
  .exact h.elim
 .have e:=br (show Den X.kx H (.str z) x from d);have a:=br (show Den X.kx H (.str t) y from c);subst e a;refine SV p s i H _ _ v u Q I r g ⟨rfl,?_⟩;rw[o5];exact f _ _ H h R (l7 _) (Frm.refl _ _)
 .obtain⟨l,b,its,its2,rfl,rfl,p1,p2,s1,s2,he⟩:=JJ I R d c r g e a k j;refine SeqAt.eq_listAt p1 p2 (s1.trans s2.symm) (by omega) he ?_;rw[s1,ud o n k];exact⟨.bl _,H,I,rfl,f _ _ H h R (l7 _) (Frm.refl _ _)⟩
theorem j4(g:X.A.units+64<cLine):OpR X (abm .NotEq) (rM X.kx oNe):=by
 intro p s a H x y v u Q I r d ⟨w,m,l,n,j,r1,o,K,R,c,b,h,f⟩;rcases h with h|⟨z,t,rfl,rfl,h⟩
 .unfold eqD at h
  split at h
  .rename_i d1 d2 e1 e;let⟨k,q⟩:=c.reads I R r e1 (aa6 _ (ac0 h.1));let⟨bs,i⟩:=b.reads I R d e (aa6 _ (ac0 h.2.1));exact ne_dataH q i h.1 h.2.1 g ⟨.bl _,H,I,rfl,f _ _ H h.2.2 R (l7 _) (Frm.refl _ _)⟩
  .simp_all
 .have e1:=br (show Den X.kx H (.str z) x from c);have e:=br (show Den X.kx H _ y from b);subst e1 e;refine TU p s a H _ _ v u Q I r d ⟨rfl,?_⟩;rw[o5];exact f _ _ H h R (l7 _) (Frm.refl _ _)
def isNone:R->Bool
 | .imm .none=>true
 |_=>false
def y6:WO:=λr1 r _ K=>r = .imm .none/\K (.imm (.bool (!isNone r1)))
theorem v8(h:RelR K α Hb H r v):decide (v = .non)=isNone r:=by
 cases r with
 |obj k=>let⟨a,_,rfl⟩:=h;rfl
 |new ds=>let⟨a,_,rfl,_⟩:=h;rfl
 | «at» k p=>let⟨f,a,_,_,rfl⟩:=h;rfl
 |newT t=>let⟨f,a,rfl,_⟩:=h;rfl
 |imm d=>
  cases d with
  |none=>have e:=m6 (show Den K H .none v from h);subst e;rfl
  |bool b=>have e:=kH (show Den K H _ v from h);subst e;rfl
  |int b=>have e:=aC (show Den K H _ v from h);subst e;rfl
  |str b=>have e:=br (show Den K H _ v from h);subst e;rfl
  |list ds=>have c:=h;let⟨a,_,rfl,_⟩:=c;rfl
  |tuple ds=>let⟨a,_,rfl,_⟩:=bV (h);rfl
  |dict g=>have c:=h;let⟨a,rfl,_⟩:=c;rfl
theorem oh:OpR X (abm .IsNot) (rM X.kx y6):=by
 intro p s a H x y v u Q I r g ⟨n,m,j,k,i,r1,l,K,R,d,b,h,f⟩;let⟨e,h⟩:=h;subst e;have c:=m6 (show Den X.kx H .none y from b);exact Jt p s a H _ _ v u Q I r g ⟨c,by rw[v8 d];exact f _ _ H h R (l7 _) (Frm.refl _ _)⟩
def uNeg:WU
 | .imm (.int i),_,K=>K (.imm (.int (-i)))
 |_,_,_=>False
theorem gY:UnR X (unaryOp .USub) (uM X.kx uNeg):=by
 intro p s a H x v Q I r ⟨g,m,c,d,r1,K,R,b,h,f⟩;unfold uNeg at h
 split at h
 .rename_i _ i;have e:=aC (show Den X.kx H _ x from b);subst e;exact Mn p s a H _ v Q I r ⟨i,rfl,f _ _ H h R (dM _) (Frm.refl _ _)⟩
 .simp_all
def yJ(m:MSt)(K:R->Prop):R->R->Prop
 | .imm (.tuple ds),.imm (.int i)=>∃d,atI ds i=some d/\K (.imm d)
 | .imm (.str x),.imm (.int i)=>∃c,x.length≤aaj/\atI x.cps.toList i=some c/\K (.imm (.str ⟨#[c]⟩))
 |r,.imm (.int i)=>∃ds d,lsOf m r=some ds/\atI ds i=some d/\K (.imm d)
 |_,_=>False
def oz:WO:=λr1 r m K=>yJ m K r1 r
theorem yz{K:Kx}{i:Int}{d:aD}(g:DenAll K H ds xs)(e:atI ds i=some d):∃v,atI xs i=some v/\Den K H d v:=by
 unfold atI at e⊢;rw[<-g.length]
 cases q:ixN ds.length i with
 |none=>rw[q]at e;cases e
 |some j=>
  rw[q]at e;let⟨v,h,a⟩:=g.get (e);exact⟨v,h,a⟩
theorem J6:IxR X (rM X.kx oz):=by
 intro h b p s o H x y v u Q I r E ⟨S,m,O,P,N,r1,M,K,R,D,t,J,n⟩ l;have j:yJ m K r1 M:=J;unfold yJ at j
 split at j
 .rename_i ds i;let⟨d,e,k⟩:=j;let⟨a,B,rfl,f,g⟩:=bV (D);have q:=aC (show Den X.kx H (.int i) y from t);let⟨z,A,C⟩:=yz g e;exact QC h b p s o H _ _ v u Q I r E ⟨a,B,i,z,rfl,q,f,A,n _ _ H k R (mX C) (Frm.refl _ _)⟩ l
 .rename_i w i;let⟨c,G,e,k⟩:=j;have F:=br (show Den X.kx H (.str w) x from D);have q:=aC (show Den X.kx H (.int i) y from t);exact Lr h b p s o H _ _ v u Q I r E ⟨w,i,c,F,q,G,e,n _ _ H k R (Fg _) (Frm.refl _ _)⟩ l
 .rename_i i _ _;let⟨ds,d,L,e,k⟩:=j;let⟨a,B,rfl,f,g⟩:=D.list R L;have q:=aC (show Den X.kx H (.int i) y from t);let⟨z,A,C⟩:=yz g e;exact zr h b p s o H _ _ v u Q I r E ⟨a,B,i,z,rfl,q,f,A,n _ _ H k R (mX C) (Frm.refl _ _)⟩ l
 .exact j.elim
theorem TQ{a b:Expr}{w c:WE}(d:ME X a w)(e:ME X b c)(f:ku b:=by intro _ _;rfl):ME X (.Subscript a b pos) (wBin oz w c):=(LR J6 d e f).wk λ_ _ _ h=>sk h
end
abbrev zd(P:Int->Prop):R->Prop
 | .imm (.int i)=>P i
 |_=>False
abbrev Ah(P:Nat->Prop):R->Prop
 | .obj k=>P k
 |_=>False
abbrev on1(P:R->Prop):List R->Prop
 |[r]=>P r
 |_=>False
section
variable {K:Kx}{b:Al}{c H:Hp}{r:R}{v:V}
theorem xY{P:Int->Prop}(rr:RelR K b c H r v)(h:zd P r):∃i,r = .imm (.int i)/\v = .int i/\P i:=by
 unfold zd at h
 split at h
 .exact⟨_,rfl,aC (K:=K) (H:=H) rr,h⟩
 .simp_all
theorem Bf{P:Nat->Prop}(rr:RelR K b c H r v)(h:Ah P r):∃k a,r = .obj k/\b[k]?=some (.L a)/\v = .ref a/\P k:=by
 unfold Ah at h
 split at h
 .obtain⟨a,e1,e2⟩:=rr;exact⟨_,a,rfl,e1,e2,h⟩
 .simp_all
theorem e9{P:R->Prop}{rs:List R}(rr:RelRs K b c H rs xs)(h:on1 P rs):∃r v,rs=[r]/\xs=[v]/\RelR K b c H r v/\P r:=by
 cases rr with
 |nil=>exact h.elim
 |cons a t=>
  cases t with
  |nil=>exact⟨_,_,rfl,rfl,a,h⟩
  |cons _ _=>exact h.elim
end
section
variable {X:Cx}{o a b c e:Expr}{z:List Expr}{A D E G B J:WE}{C:WA}{pos y j:Pos}
abbrev WM:=R->List R->MSt->(R->MSt->Prop)->Prop
def mM(K:Kx)(l:WM):V->List V->Hp->VK->Prop:=λx p H Q=>∃d m h k n r rs i,Rel K d m h H/\RelR K d k H r x/\RelRs K d n H rs p/\l r rs m i/\∀r g v f,i r g->g.np=m.np->Rel K d g h f->RelR K d H f r v->Frm d H f->Q v f
abbrev wML(d:WM)(A:WE)(C:WA):WE:=λm K=>A m λr m1=>(∃ds,lsOf m1 r=some ds)/\C m1 λrs m2=>d r rs m2 K
theorem Sk{u:WM}(h:tM X.kx (wML u A C) σ H Q):tBM X.K "list" (mM X.kx u) (tM X.kx A) (tMA X.kx C) σ H Q:=by
 let⟨t,m,O,x,N,l⟩:=h;refine⟨t,m,_,x,N,λr m1 v I k n1 R rr w=>?_⟩;let⟨⟨ds,P⟩,k⟩:=k;let⟨a,L,rfl,f,g⟩:=rr.list R P;refine⟨.inl ⟨rfl,L,f⟩,t,m1,_,R,k,λrs m2 vs S k2 n2 d s p=>?_⟩;exact⟨t,m2,σ,H,I,r,rs,O,d,rr.keep x R p,s,k2,λr K v M k n i q F=>l r K v M k (n.trans (n2.trans n1)) i (q.base d (w.trans p)) ((w.trans p).trans F)⟩
theorem Ua{name:Str}{id:String}{l:WM}(slot:Slot "list" name id)(k:typeOf (.builtin id)=pure (.type "method_descriptor"))(m:MtM X id (mM X.kx l))(q:ME X o A)(p:MA X (e::z) C)
  (g:abQ o name X.env (eval o X.env)=eval o X.env:=by rfl)
  (i:((abD j (aag (e::z) X.env)).all (λx=>!x.1)&&(adB j (acw [] X.env)).all (λx=>x.1.isSome)
   && decide ((e::z).length+([]:List aeG).length+(if ([]:List aeG).isEmpty then 0 else 1)<30))=true:=by rfl)
  (f:(y.endLine==j.line)=true:=by rfl) (n:aag (e::z) X.env=(false,eval e X.env)::aag z X.env:=by first|exact aI rfl|rfl) (d:(abD j (aag z X.env)).any (·.1)=false:=by rfl) :
  ME X (.Call (.Attribute o name y) (e::z) [] j) (wML l A C):=(Lh PySem.F.plainAttrs_list slot k m q p g i f n d).wk λ_ _ _ h=>Sk h
def yo:WM:=λr rs m K=>Ah (λk=>on1 (jP λd=>∃ds,m.os[k]?=some ds/\ds.length<aaj/\K (.imm .none) {m with os:=m.os.set k (ds++[d])}) rs) r
theorem wx:MtM X "list.append" (mM X.kx yo):=by
 intro p s l H x P v L Q I F N ⟨Y,m,S,V,O,r,rs,T,R,M,i,h,f⟩;let⟨k,a,rfl,n,rfl,h⟩:=Bf M h;let⟨W,U,rfl,rfl,i,h⟩:=e9 i h;let⟨d,rfl,hd,ds,t,w,h⟩:=fY i h;let⟨u,q,g⟩:=R.own _ _ ds n t;let⟨R2,K⟩:=R.setO n q (g.append (DenAll.cons hd DenAll.nil));exact kO p s l H _ _ v L Q I F N ⟨a,u,_,rfl,rfl,q,by rw[<-g.length];exact w,f _ _ _ _ h rfl R2 qJ K⟩
def lenR(m:MSt)(K:R->Prop):R->Prop
 | .imm (.str x)=>x.length≤aaj/\K (.imm (.int x.length))
 | .imm (.tuple ds)=>K (.imm (.int ds.length))
 |r=>∃ds,lsOf m r=some ds/\K (.imm (.int ds.length))
abbrev oLen:WC:=λrs m K=>on1 (lenR m K) rs
theorem bU:fe X (.builtin "len") (cM X.kx oLen):=by
 intro p s k H t u Q I q ⟨L,m,w,F,rs,K,R,h,d,i⟩;let⟨r,v,rfl,rfl,n,d⟩:=e9 h d;unfold lenR at d
 split at d
 .rename_i x _;have e:=br (show Den X.kx H _ _ from n);subst e;exact qy p s k H _ u Q I q ⟨x,rfl,d.1,i _ _ H d.2 R (dM _) (Frm.refl _ _)⟩
 .obtain⟨a,l,rfl,f,g⟩:=bV (n);exact jM p s k H _ u Q I q ⟨a,l,rfl,.inr f,by rw[<-g.length];exact i _ _ H d R (dM _) (Frm.refl _ _)⟩
 .obtain⟨ds,el,d⟩:=d;let⟨a,l,rfl,f,g⟩:=n.list R el;exact jM p s k H _ u Q I q ⟨a,l,rfl,.inl f,by rw[<-g.length];exact i _ _ H d R (dM _) (Frm.refl _ _)⟩
abbrev intR(K:R->Prop):R->Prop
 | .imm (.int i)=>K (.imm (.int i))
 | .imm (.bool b)=>K (.imm (.int (if b then 1 else 0)))
 |_=>False
abbrev oInt:WC:=λrs m K=>on1 (intR K) rs
theorem k6:fe X (.type "int") (cM X.kx oInt):=by
 intro p s g H x u Q I l ⟨t,m,n,q,rs,K,R,h,d,f⟩;let⟨r,v,rfl,rfl,k,d⟩:=e9 h d;unfold intR at d
 split at d
 .rename_i i _;have e:=aC (show Den X.kx H _ _ from k);subst e;exact rf p s g H _ u Q I l (.inl ⟨i,rfl,f _ _ H d R (dM _) (Frm.refl _ _)⟩)
 .rename_i i _;have e:=kH (show Den X.kx H _ _ from k);subst e;exact rf p s g H _ u Q I l (.inr ⟨i,rfl,f _ _ H d R (dM _) (Frm.refl _ _)⟩)
 .simp_all
def sqOf(m:MSt):R->Option (List aD)
 | .imm (.tuple ds)=>some ds
 |r=>lsOf m r
theorem RelR.seq{K:Kx}{m:MSt}(R:Rel K α m σ H)(h:RelR K α H0 H r v)(e:sqOf m r=some ds):∃a xs,v = .ref a/\(SqL K H a xs\/SqT K H a xs)/\DenAll K H ds xs:=by
 unfold sqOf at e
 split at e
 .cases e;let⟨a,d,e,f,g⟩:=bV (h);exact⟨a,d,e,.inr f,g⟩
 .obtain⟨a,d,e,f,g⟩:=h.list R e;exact⟨a,d,e,.inl f,g⟩
def D6:WC:=λrs m K=>on1 (λr=>∃ds,sqOf m r=some ds/\K (.imm (.tuple ds))) rs
theorem b5:fe X (.type "tuple") (cM X.kx D6):=by
 intro p s n H x u Q I w ⟨M,m,F,L,rs,K,R,h,d,i⟩;let⟨r,v,rfl,rfl,t,d⟩:=e9 h d
 .obtain⟨ds,e,d⟩:=d;let⟨a,q,rfl,f,g⟩:=t.seq R e;refine pH p s n H _ u Q I w ⟨a,q,rfl,?_⟩;rcases f with f|f
  .exact .inl ⟨f,λl k=>i _ _ _ d (R.lay k) (mX (fv (SqT.of av) (g.mono (bi (.inl k))))) (cn k)⟩
  .exact .inr ⟨f,i _ _ _ d R (mX (fv f g)) (Frm.refl _ _)⟩
def sM(K:Kx)(o:R->Option Int->Option Int->MSt->(R->Prop)->Prop):V->Option Int->Option Int->Hp->VK->Prop:=λx l k H Q=>∃d m g i r h,Rel K d m g H/\RelR K d i H r x/\o r l k m h/\∀r v f,h r->Rel K d m g f->RelR K d H f r v->Frm d H f->Q v f
def cutD(xs:List aD)(l h:Option Int):List aD:=(xs.drop (HT.sIx xs.length 0 l)).take (HT.sIx xs.length xs.length h-HT.sIx xs.length 0 l)
def AB(g:DenAll K H ds xs)(l h:Option Int):DenAll K H (cutD ds l h) (cutV xs l h):=by
 unfold cutD cutV;rw[<-g.length];exact(g.drop _).take _
def Sj:R->Option Int->Option Int->MSt->(R->Prop)->Prop:=λr l h m K=>∃ds,lsOf m r=some ds/\K (.new (cutD ds l h))
theorem Cj:SlR X (sM X.kx Sj):=by
 intro d s n H x v vl M t q L Q I F N O K u;let⟨U,m,P,T,r,S,R,h,⟨ds,e,k⟩,l⟩:=u;let⟨a,w,rfl,f,g⟩:=h.list R e;exact Gy d s n H _ v vl M t q L Q I F N O K ⟨a,w,rfl,f,λp i=>l _ _ _ k (R.lay i) ⟨p,_,rfl,i,av,(AB g t q).mono (bi (.inl i))⟩ (cn i)⟩
def WO1:=MSt->(Option Int->MSt->Prop)->Prop
def tMO(K:Kx)(w:WO1):TO:=λh H Q=>∃g m i,Rel K g m h H/\w m i/\∀r f d,i r f->f.np=m.np->Rel K g f h d->Frm g H d->Q r d
abbrev Ac:WO1:=λm K=>K none m
abbrev O4(w:WE):WO1:=λm K=>w m λr d=>zd (λi=>K (some i) d) r
theorem PO.wk{X:Cx}{e:Option Expr}{t t':TO}(h:PO X e t)(k:∀d H Q,t' d H Q->t d H Q):PO X e t':=λp s d H Q I q=>h p s d H Q I (k _ _ _ q)
abbrev MO(X:Cx)(e:Option Expr)(w:WO1):Prop:=PO X e (tMO X.kx w)
theorem Jm:MO X none Ac:=(Jg).wk<|by intro d H Q ⟨g,m,K,R,h,f⟩;exact f none m H h rfl R (Frm.refl _ _)
theorem Iz(h:ME X e B):MO X (some e) (O4 B):=(Jl h).wk<|by
 intro p H Q ⟨n,m,K,l,g,f⟩;refine⟨n,m,_,l,g,λr m1 v d k n1 R rr F=>?_⟩;let⟨i,rfl,rfl,k⟩:=xY rr k;exact⟨i,rfl,f _ m1 d k n1 R F⟩
abbrev wSl(g:R->Option Int->Option Int->MSt->(R->Prop)->Prop)(B:WE)(w wh:WO1):WE:=λm K=>B m λr m1=>w m1 λl m2=>wh m2 λu d=>g r l u d λf=>K f d
theorem BI{w wh:WO1}{K:Pos}(O:SlR X (sM X.kx ob))(S:ME X e B)(L:MO X lo w)(P:MO X hi wh):ME X (.Subscript e (.Slice lo hi none K) pos) (wSl ob B w wh):=(C8 O S L P).wk<|by intro V H Q ⟨g,m,Kc,i,M,h⟩;exact
 ⟨g,m,_,i,M,λr m1 v H1 k n1 d rr s=>⟨g,m1,_,d,k,λl m2 Z k2 n2 f F=>⟨g,m2,_,f,k2,λu t H3 T Y R q=>⟨g,t,V,H,r,_,R,(rr.keep i d F).keep i f q,T,λN x U I p n W=>h N t x U I (Y.trans (n2.trans n1)) p (n.base R ((s.trans F).trans q)) (((s.trans F).trans q).trans W)⟩⟩⟩⟩
end
def agV:Nat->List Ag->List (Option R)
 |_,[]=>[]
 |k,.imm d::as=>some (.imm d)::agV k as
 |k,.own _::as=>some (.obj k)::agV (k+1) as
 |k,.tr _::as=>some (.at k [])::agV (k+1) as
def agO:List Ag->List (List aD)
 |[]=>[]
 | .imm _::as=>agO as
 | .own ds::as=>ds::agO as
 | .tr t::as=>[t]::agO as
def dN(n:Nat)(as:List Ag):MSt:=⟨agV 0 as++aas (n-as.length) none,agO as,(agO as).length⟩
def outR(m:MSt):R->R
 | .imm d=>.imm d
 | .new ds=>.new ds
 | .newT t=>.newT t
 | .obj k=>if k<m.np then .obj k else .new (m.os.getD k [])
 | .at k p=>if k<m.np then .at k p else match p,m.os[k]? with
  |[],some [t]=>.newT t
  |_,_=>.at k p
theorem di:∀(k:Nat) (as:List Ag),(agV k as).length=as.length
 |_,[]=>rfl
 |k,.imm d::as=>by simp[agV,di k as]
 |k,.own _::as=>by simp[agV,di (k+1) as]
 |k,.tr _::as=>by simp[agV,di (k+1) as]
section
variable {K:Kx}{H:Hp}
theorem RelAs.facts{K:Kd}:∀{as:List Ag}{vs:List V}{β:Al}{pre:Al},RelAs K H as vs β ->
  (agO as).length=β.length/\(∀(k:Nat) (ao:Ao) (ds:List aD),β[k]?=some ao->(agO as)[k]?=some ds->OwnAt K H ao ds)/\
   ∀(i:Nat) (r:R),(agV pre.length as)[i]?=some (some r)->∃v,vs[i]?=some v/\RelS K (pre++β) H r v
 |_,_,_,_,.nil=>⟨rfl,λk a ds h=>by simp at h,λi r h=>by simp[agV]at h⟩
 | _,_,β,pre,.imm (as:=as) hd t=>by
  let⟨f,g,d⟩:=t.facts (pre:=pre);refine⟨f,g,λi r h=>?_⟩
  cases i with
  |zero=>simp[agV]at h;subst h;exact⟨_,rfl,hd⟩
  |succ i=>
   let⟨v,e,q⟩:=d i r (by simpa[agV]using h);exact⟨v,by simpa using e,q⟩
 | _,_,_,pre,.own (a:=a) (β:=β) ha t=>by
  let⟨f,g,d⟩:=t.facts (pre:=pre++[.L a]);refine⟨by simp[agO,f],λk b ds c z=>?_,λi r h=>?_⟩
  .cases k with
   |zero=>simp[agO]at c z;subst c;subst z;exact ha
   |succ k=>exact g k b ds (by simpa using c) (by simpa[agO]using z)
  .cases i with
   |zero=>simp[agV]at h;subst h;exact⟨_,rfl,a,by simp,rfl⟩
   |succ i=>
    let⟨v,e,q⟩:=d i r (by simpa[agV]using h);refine⟨v,by simpa using e,?_⟩;rw[aaV]at q;exact q
 | _,_,_,pre,.tr (a:=a) (τ:=τ) (β:=β) ha el t=>by
  let⟨f,g,d⟩:=t.facts (pre:=pre++[.T τ]);refine⟨by simp[agO,f],λk b ds c z=>?_,λi r h=>?_⟩
  .cases k with
   |zero=>simp[agO]at c z;subst c;subst z;exact ha
   |succ k=>exact g k b ds (by simpa using c) (by simpa[agO]using z)
  .cases i with
   |zero=>simp[agV]at h;subst h;exact⟨_,rfl,τ,a,by simp,el,rfl⟩
   |succ i=>
    let⟨v,e,q⟩:=d i r (by simpa[agV]using h);refine⟨v,by simpa using e,?_⟩;rw[aaV]at q;exact q
theorem qX(m:N.length=nN)(d:n≤nN)(o:as.length=n)(nd:(ads β).Nodup)(a:RelAs K H as vs β)(l:K.eb.np≤(agO as).length)(k:Ext K.eb.np K.eb.be K.eb.H β H):Rel K β (dN nN as) (start N vs) H:=by
 let⟨h,j,b⟩:=a.facts (pre:=[]);have c:=a.length;refine⟨nd,by rw[<-h];rfl,j,?_,λi r e=>?_,by rw[<-h];exact aab _,l,k⟩
 .unfold start dN;simp only[aam,lD,acD,di];omega
 .have e':(agV 0 as++aas (nN-as.length) none)[i]?=some (some r):=e
  by_cases f:i<as.length
  .rw[aaE (by rw[di];exact f)]at e';let⟨v,g,q⟩:=b i r e';refine⟨v,?_,by simpa using q⟩;unfold start;rw[aaE (by rw[lD];omega),aae,g];rfl
  .rw[aaN (by rw[di];omega),acn]at e'
   split at e'<;>cases e'
theorem pJ{m:MSt}(r:RelAs K H as vs β)(d:m.np=(agO as).length)(R:Rel K α' m σ' H')(x:Ext (agO as).length β H α' H'):yW K H' β (m.os.take m.np)/\Frm β H H'/\β=α'.take (agO as).length:=by
 let⟨h,g,f⟩:=r.facts (pre:=[]);have e:α'.take (agO as).length=β:=by rw[x.pre,h,aax]
 refine⟨⟨?_,λj a ds z b=>?_⟩,x.frm,e.symm⟩
 .have:=R.npl;rw[R.len]at this
  grind
 .rw[<-e,aaQ]at z;rw[d,aaQ]at b
  by_cases c:j<(agO as).length
  .rw[if_pos c]at z b;exact R.own j a ds z b
  .simp_all
theorem KB{m:MSt}(D:m.np=(agO as).length)(R:Rel K α' m σ' H')(x:Ext (agO as).length β H α' H')(f:β=α'.take (agO as).length)(rr:RelR K α' H H' r v)
  (ok:∀k p,r = .at k p->k<m.np\/(p=[]/\∃t,m.os[k]?=some [t])):RelR K β H H' (outR m r) v:=by
 have out:∀{k:Nat}{c:Ao},¬k<m.np->α'[k]?=some c->∀b∈c.ads,H b=none:=λ{k c} hk e b q=>by
  rcases x.new b (jL e q)with z|z
  .exfalso;rw[f]at z;let⟨j,A,ej,u⟩:=iX z;rw[aaQ]at ej
   by_cases l:j<(agO as).length
   .rw[if_pos l]at ej;exact gc R.nd e ej (by omega) q u
   .rw[if_neg l]at ej;cases ej
  .exact z
 have i:∀{k:Nat}{c:Ao},k<m.np->α'[k]?=some c->β[k]?=some c:=λ{k c} hk e=>by
  simp_all
 cases r with
 |imm d=>exact rr
 |new ds=>exact rr
 |newT t=>exact rr
 | obj k=>
  let⟨a,e,rfl⟩:=rr;unfold outR
  by_cases hk:k<m.np
  .simp only[hk,if_true];exact⟨a,i hk e,rfl⟩
  .simp only[hk,if_false];have h:k<m.os.length:=by rw[<-R.len];exact(AD.mp e).1
   have C:m.os[k]?=some (m.os.getD k []):=by rw[aaa,iO h];rfl
   let⟨B,y,w⟩:=R.own k _ _ e C;exact⟨a,B,rfl,out hk e a (aah.mpr rfl),y,w⟩
 | «at» k p=>
  let⟨s,a,e,n,rfl⟩:=rr;unfold outR
  by_cases hk:k<m.np
  .simp only[hk,if_true];exact⟨s,a,i hk e,n,rfl⟩
  .simp only[hk,if_false];rcases ok k p rfl with z|⟨rfl,t,o⟩
   .exact(hk z).elim
   .rw[o];have g:=R.own k _ _ e o;exact⟨s,a,rfl,n,((fi α').mp R.nd).1 _ (Io e),out hk e,g⟩
def okR(m:MSt):R->Prop
 | .at k p=>k<m.np\/(p=[]/\∃t,m.os[k]?=some [t])
 |_=>True
theorem okR.at{m:MSt}(h:okR m r):∀k p,r = .at k p->k<m.np\/(p=[]/\∃t,m.os[k]?=some [t]):=λk p e=>by subst e;exact h
def retK(a:R->List (List aD)->Prop)(m:MSt):R->Prop
 | .at k p=>okR m (.at k p)/\a (outR m (.at k p)) (m.os.take m.np)
 | .imm d=>a (.imm d) (m.os.take m.np)
 | .new ds=>a (.new ds) (m.os.take m.np)
 | .obj k=>a (outR m (.obj k)) (m.os.take m.np)
 | .newT t=>a (.newT t) (m.os.take m.np)
theorem retK.ok{a:R->List (List aD)->Prop}{m:MSt}(h:retK a m r):okR m r/\a (outR m r) (m.os.take m.np):=by
 cases r with
 | «at» k p=>exact h
 |imm d=>exact⟨trivial,h⟩
 |new ds=>exact⟨trivial,h⟩
 |obj k=>exact⟨trivial,h⟩
 |newT t=>exact⟨trivial,h⟩
theorem fn_m{E:XK}(l:K.eb=⟨0,[],λ_=>none⟩)(h:spOf K n sp vs H Q E)(y:N.length=nN)(i:n≤nN)
  (A:∀as c,as.length=n->sp as c->w {nx:=λm=>c (.imm .none) (m.os.take m.np),rt:=λr m=>retK c m r} (dN nN as)):tMS K w {nx:=λ_ b=>Q .non b,rt:=Q} (start N vs) H:=by
 let⟨as,B,c,o,nd,j,e,f⟩:=h;have t:=qX y i o nd j (by rw[l];exact abF _) (by rw[l];exact⟨rfl,λ_ _ z=>(by cases z),λ_ _=>.inr rfl,λa u=>(by cases u)⟩);refine⟨B,dN nN as,_,t,A as c o e,⟨λg s k b q d R x=>?_,λr g s k v b q d R rr x=>?_,λ_ _ _ _ z=>z.elim,λ_ _ _ _ z=>z.elim⟩⟩
 .obtain⟨O,F,_⟩:=pJ j d R x;exact f _ _ .non b q O qJ F
 .obtain⟨O,F,eβ⟩:=pJ j d R x;have p:=retK.ok q;exact f _ _ v b p.2 O (KB d R x eβ rr p.1.at) F
end
structure FnM(P:aaI)(w:World)(K:aaf)(mg:Str->Option Ad)(base:aaW)(x:Str)(k n:Nat)(sp:SpM):Prop where
 ex:∃(f:Addr) (fd:ab4) (ps:List Str),FnOk P w K mg base CX0 k f fd ps (spOf ⟨K,w⟩ n sp)/\mg x=some (.ref f)/\abP K (.ref f)=true/\Binds K fd ps []
 ar:∀as Kc,sp as Kc->as.length=n
structure DefM(K:aaf)(mg:Str->Option Ad)(x:Str)(st:Stmt)(ps:List Str):Prop where
 ex:∃(f:Addr) (fd:ab4),Fun K x x st f fd/\mg x=some (.ref f)/\Binds K fd ps []
theorem TJ{P:aaI}{w:World}{K:aaf}{base:aaW}{k:Nat}(D:DefM K mg x st ps)(S:ak N ps (ab st))(q:ps.length=n)(g:N.length=nN)(d:n≤nN)(ar:∀as b,sp as b->as.length=n)
  (a:∀(c:Ad) (A:aa8) (outer:List Env) (s:GT) (H:Hp) (E:XK) (f:Addr),Room k (A.deeper (ad2 x (ab st) s.heap.objs.size f c)) ->
   ∃e,MSs (cxOf CX0 P w K mg base N x (ab st) f c A outer s H E).nox (bz st) e/\∀as b,as.length=n->sp as b->e {nx:=λm=>b (.imm .none) (m.os.take m.np),rt:=λr m=>retK b m r} (dN nN as)) :
  FnM P w K mg base x (k+1) n sp:=by
 let⟨f,fd,F,i,p⟩:=D.ex;refine⟨⟨f,fd,ps,F.ok S (λvs H Q E h=>by rw[q];exact h.len) (λc A outer s H vs Q E l h=>?_),i,F.kp,p⟩,ar⟩;let⟨e,j,o⟩:=a c A outer s H E f l;exact⟨_,j,fn_m rfl h g d o⟩
section
variable {X:Cx}{a:Expr}{e:List Expr}{w:WA}{pos p:Pos}{k n:Nat}{sp:SpM}{x:Str}
theorem CC(F:FnM X.prog X.w X.K X.mg X.base x k n sp)(d:Room k X.A)(g:MA X (a::e) w)(i:Gl X x:=by rfl)(h:(x==("__debug__" : Str))=false:=by decide)(l:aag (a::e) X.env=(false,eval a X.env)::aag e X.env:=by first|exact aI rfl|rfl)(b:(abD pos (aag e X.env)).any (·.1)=false:=by rfl) :
  ME X (.Call (.Name x p) (a::e) [] pos) (zw sp w):=by
 let⟨f,fd,m,G,c,hk,j⟩:=F.ex;exact Kz G d i c hk j BX F.ar g h l b
def d7:abi "len" = some (.builtin "len"):=by rfl
def qR:abi "sum" = some (.builtin "sum"):=by rfl
def nW:abi "max" = some (.builtin "max"):=by rfl
def Ir:abi "list" = some (.type "list"):=by rfl
def df:abi "tuple" = some (.type "tuple"):=by rfl
def zO:abi "int" = some (.type "int"):=by rfl
end
section
variable {m:MSt}{K:R->MSt->Prop}{v:Bool->MSt->Prop}{z:List R->MSt->Prop}{f:R->Prop}{D:fG}{q s C t E F:WE}{l:WA}{p G:WT}{w u:WS}{o:WO}{d:aD}{r r1 r2:R}{i j:Int}{k:Nat}
theorem o4(h:w {D with nx:=λa=>u D a } m):wSeq w u D m:=h
def Qm(e:m.vs[n]?=some (some r))(h:K r m):wVar n m K:=⟨r,e,h⟩
def OL(h:p m λc a=>if c=true then w D a else u D a):wIfS p w u D m:=h
def wG(h:p m λc a=>if c=true then q a K else s a K):wIfE p q s m K:=h
def vA{P:Bool->Prop}{b:Bool}(h:P b):onBl P (.imm (.bool b)):=h
theorem iy(h:A):if true=true then A else B:=by simp_all
theorem iI(h:B):if false=true then A else B:=by simp_all
theorem aY{c:Prop}[Decidable c](h:c->A)(a:¬c->B):if decide c=true then A else B:=by simp_all
def RE(h:f (.imm (.int (-i)))):uNeg (.imm (.int i)) m f:=h
def Tz{rs:List R}{P:List aD->Prop}(e:gL rs=some ds)(a:ds.length≤aaj)(h:P ds):Gw P (gL rs):=by rw[e];exact⟨a,h⟩
def Qt(h:l m λrs m1=>match iq m1 rs with|some (as,ks)=>ks.Nodup/\sp as λr a=>K (mapR ks r) {m1 with os:=cz m1.os ks a}|none=>False):zw sp l m K:=h
def RJ{rs:List R}{P:List Ag->List Nat->Prop}(e:iq m rs=some (as,ks))(a:ks.Nodup)(h:P as ks):match iq m rs with|some (as,ks)=>ks.Nodup/\P as ks|none=>False:=by rw[e];exact⟨a,h⟩
def Um(h:t m λr a=>sy n D.nx a r):wSet n t D m:=h
def lQ(h:P (m.setV n (.imm d))):sy n P m (.imm d):=.inl h
theorem fV(h:P {vs:=m.vs.set n (some (.obj m.os.length)),os:=m.os++[ds],np:=m.np}):sy n P m (.new ds):=.inl (.inl h)
def Sw{a:Nat}(h:l m λrs b=>match rs with|[.imm d1,.imm d2]=>D.nx ((b.setV n (.imm d1)).setV a (.imm d2))|_=>False):wPar n a l D m:=h
def x_ls{P:Prop}(e:lsOf m r=some ds)(h:P):(∃ds,lsOf m r=some ds)/\P:=⟨⟨ds,e⟩,h⟩
theorem B6(e:m.os[k]?=some ds)(a:ds.length<aaj)(h:K (.imm .none) {m with os:=m.os.set k (ds++[d])}):yo (.obj k) [.imm d] m K:=⟨ds,e,a,h⟩
def Qe(h:f (.imm (.int (i+j)))):oAdd (.imm (.int i)) (.imm (.int j)) m f:=h
def kZ{a:List aD}(c:a.length+b.length≤aaj)(h:f (.imm (.tuple (a++b)))):oAdd (.imm (.tuple a)) (.imm (.tuple b)) m f:=⟨c,h⟩
def GZ{a:List aD}(c:a.length+b.length≤aaj)(h:f (.new (a++b))):oAdd (.new a) (.new b) m f:=⟨a,b,rfl,rfl,c,h⟩
def P8(h:f (.imm (.int (i-j)))):oSub (.imm (.int i)) (.imm (.int j)) m f:=⟨trivial,h⟩
def Mf(a:CFd i j)(h:f (.imm (.int (i/j)))):PF (.imm (.int i)) (.imm (.int j)) m f:=⟨a,h⟩
def Js(a:0<j)(h:f (.imm (.int (i%j)))):oMod (.imm (.int i)) (.imm (.int j)) m f:=⟨a,h⟩
def Ud(a:CPow i j)(h:f (.imm (.int (i^j.toNat)))):oPow (.imm (.int i)) (.imm (.int j)) m f:=⟨a,h⟩
def x_lt(h:f (.imm (.bool (decide (i<j))))):oLt (.imm (.int i)) (.imm (.int j)) m f:=h
def x_gt(h:f (.imm (.bool (decide (j<i))))):oGt (.imm (.int i)) (.imm (.int j)) m f:=h
def x_ge(h:f (.imm (.bool (decide (j≤i))))):oGe (.imm (.int i)) (.imm (.int j)) m f:=h
def x_eq{d1 d2:aD}(a:asD m r1=some d1)(e:asD m r2=some d2)(s1:ab5 d1=true)(s2:ab5 d2=true)(h:f (.imm (.bool (aai d1 d2)))):oEq r1 r2 m f:=by refine afk ?_;unfold eqD;rw[a,e];exact⟨s1,s2,h⟩
def x_ne{d1 d2:aD}(a:asD m r1=some d1)(e:asD m r2=some d2)(s1:ab5 d1=true)(s2:ab5 d2=true)(h:f (.imm (.bool (!aai d1 d2)))):oNe r1 r2 m f:=by refine afk ?_;unfold eqD;rw[a,e];exact⟨s1,s2,h⟩
theorem Ub(h:f (.imm (.bool (decide (i=j))))):oEq (.imm (.int i)) (.imm (.int j)) m f:=x_eq rfl rfl rfl rfl ‹_›
def Sx(h:f (.imm (.bool (decide (i≠j))))):oNe (.imm (.int i)) (.imm (.int j)) m f:=x_ne rfl rfl rfl rfl (by simp[aai];rw[aec,<-decide_not];exact h)
def Uy(h:f (.imm (.bool (decide (x=y))))):oEq (.imm (.str x)) (.imm (.str y)) m f:=ac9 (afk ⟨x,y,rfl,rfl,h⟩)
def T6(h:f (.imm (.bool (!decide (x=y))))):oNe (.imm (.str x)) (.imm (.str y)) m f:=ac9 ⟨x,y,rfl,rfl,h⟩
def DG(h:f (.imm (.bool (!isNone r)))):y6 r (.imm .none) m f:=⟨rfl,h⟩
def aP(e:atI ds i=some d)(h:f (.imm d)):oz (.imm (.tuple ds)) (.imm (.int i)) m f:=⟨d,e,h⟩
def p7(e:atI ds i=some d)(h:f (.imm d)):oz (.imm (.list ds)) (.imm (.int i)) m f:=⟨ds,d,rfl,e,h⟩
def AK(a:m.os[k]?=some ds)(e:atI ds i=some d)(h:f (.imm d)):oz (.obj k) (.imm (.int i)) m f:=⟨ds,d,a,e,h⟩
def pj(e:atI ds i=some d)(h:f (.imm d)):oz (.new ds) (.imm (.int i)) m f:=⟨ds,d,rfl,e,h⟩
def NH(h:f (.imm (.int ds.length))):lenR m f (.imm (.tuple ds)):=h
def QY(h:f (.imm (.int ds.length))):lenR m f (.imm (.list ds)):=⟨ds,rfl,h⟩
def QU(h:f (.imm (.int ds.length))):lenR m f (.new ds):=⟨ds,rfl,h⟩
def Jb(e:sqOf m r=some ds)(h:f (.imm (.tuple ds))):D6 [r] m f:=⟨ds,e,h⟩
def x_gM(h:P (m.setV n (.imm d))):gM n d m P:=h
def zx(h:P m):JF [] m P:=⟨rfl,h⟩
def kG(h:g d m λa=>gs ds a P):xZ g gs (d::ds) m P:=h
def OJ(e:ds.length=n)(h:gs ds m P):Iq n gs (.tuple ds) m P:=⟨e,h⟩
def Lm(h:Ks ⟨ds,none⟩ m):srcR m Ks (.imm (.list ds)):=h
def OU(h:Ks ⟨ds,none⟩ m):srcR m Ks (.imm (.tuple ds)):=h
def QG(e:m.os[k]?=some ds)(h:Ks ⟨ds,some (k,ds)⟩ m):srcR m Ks (.obj k):=⟨ds,e,h⟩
end
def ah{D:fG}{m:MSt}(a:MSt)(e:m=a)(h:w D a):w D m:=e▸h
theorem UA{i j:Int}(h:(-18446744073709551616<i/\i<18446744073709551616)\/(-18446744073709551616<j/\j<18446744073709551616)):agQ i j:=CMul.ok ‹_›
def cfd{i j:Int}(h:0<j)(a:j<1152921504606846976):CFd i j:=⟨h,by
 have:j.natAbs<2^60:=by omega
 have:=(Nat.log2_lt (by omega)).mpr this;omega⟩
theorem j2:∀ns:List Int,abv (ns.map .int)=true
 |[]=>rfl
 |n::ns=>by simp[ abv,aeT,j2 ns]
theorem nH:∀ns:List Int,aaC (ns.map .int)≤1
 |[]=>abF 1
 |n::ns=>by
  have:=nH ns;simp[aaC,PyData.depth];omega
theorem tw(ns:List Int):ab5 (.list (ns.map .int))=true:=by
 have h:=nH ns;have b:(afd (ns.map .int)).depth≤64:=by simp only[PyData.depth];omega
 have a:(afd (ns.map .int)).canLay0=true:=by simp only[aeT,j2]
 unfold ab5;rw[a,decide_eq_true b];rfl
theorem Gf{a:Type}{xs:List a}{i:Int}(c:0≤i)(b:i<xs.length):∃d,xs[i.toNat]?=some d/\atI xs i=some d:=by
 have h:i.toNat<xs.length:=by omega
 refine⟨xs[i.toNat],iO h,?_⟩;unfold atI ixN
 simp_all
theorem DT{i:Int}(a:0≤i)(b:i<ns.length):∃x:Int,atI (ns.map abq) i=some (.int x):=by
 let⟨d,e,h⟩:=Gf (xs:=ns.map abq) a (by simp_all);rw[aae]at e
 cases q:ns[i.toNat]? with
 |none=>rw[q]at e;cases e
 |some x=>rw[q]at e;cases e;exact⟨x,h⟩
section
variable {X:Cx}{tg a b c e:Expr}{j:List Expr}{w k l o t x:WE}{y:WA}{pos p z:Pos}
def cU:List aD->Option (List Int)
 |[]=>some []
 | .int i::ds=>(cU ds).map (i :: ·)
 |_::_=>none
theorem gy(h:cU ds=some ns):ds=ns.map .int:=by
 induction ds generalizing ns with
 |nil=>cases h;rfl
 | cons d ds f=>
  cases d with
  |int i=>
   simp only[cU]at h
   cases q:cU ds with
   |none=>rw[q]at h;cases h
   |some m=>rw[q]at h;cases h;rw[f q];rfl
  |none=>cases h
  |bool _=>cases h
  |str _=>cases h
  |list _=>cases h
  |tuple _=>cases h
  |dict _=>cases h
theorem dm:∀ns:List Int,cU (ns.map .int)=some ns
 |[]=>rfl
 |n::ns=>by simp[ cU,dm ns]
theorem dB{K:Kd}{H:Hp}:∀{ns:List Int}{xs:List V},DenAll K H (ns.map .int) xs->xs=ns.map V.int
 |[],_,h=>by simpa only[ DenAll]
 |n::ns,_,h=>by
  let⟨v,vs,rfl,d,f⟩:=h;have e:=aC d;rw[e,dB f];rfl
def oSum:WC:=λrs m K=>on1 (λr=>∃ds ns,lsOf m r=some ds/\cU ds=some ns/\K (.imm (.int ns.sum))) rs
theorem zo(O:X.calm=true):fe X (.builtin "sum") (cM X.kx oSum):=by
 intro D s V H d us Q I T ⟨α,m,σ,H0,rs,Kc,R,h,B,q⟩;let⟨r,v,rfl,rfl,S,ds,ns,U,W,B⟩:=e9 h B;let⟨a,Y,rfl,f,g⟩:=S.list R U;rw[gy W]at g;have P:=dB g;subst P;let⟨u,rfl,J⟩:=T.one;cases J;let⟨i,A,G,_⟩:=I.list f;have C:=eF A;have n:AllInts i.toArray:=C.allInts;let⟨d,ex⟩:=n.items;have K:s.heap.IsList a (intItems d):=by rw[<-ex];exact G.isList
 refine sum_intListG (I.ok.hd O) K λZ E t' hk=>?_;have F:preSum (numAt d) d.size=ns.sum:=by
  have M:(numsOf i).sum=ns.sum:=by rw[C.numsOf]
  rw[<-M];have N:=congrArg afE ex;have L:i=(intItems d).toList:=by simpa using N
  rw[L,nums_intItems,preSum_eq,aby (by simp)]
 rw[F];exact⟨.int ns.sum,H,I.kept (t':=E) hk,⟨_,rfl⟩,q _ _ H B R (dM _) (Frm.refl _ _)⟩
end
section
variable {X:Cx}{tg a:Expr}{w:WA}{p d pos c:Pos}
def LH(ta:TA):TE:=λe H Q=>ta e H λvs b=>∃j:Int,vs=[.int j]/\-(2^62)≤j/\j≤16777216/\∀l,b l=none->Q (.ref l) (upd b l (.lst ((aat j.toNat).map λ(i:Nat)=>V.int (i:Int))))
theorem CI{ta:TA}(T:X.calm=true)(C:Gl X "list")(D:X.mg "list" = none)(hg:Gl X "range")(R:X.mg "range" = none)(O:PA X [a] ta)(Y:aag [a] X.env=[(false,eval a X.env)]:=by first|exact cE rfl|rfl)
  (u:aag [.Call (.Name "range" d) [a] [] c] X.env=[(false,eval (.Call (.Name "range" d) [a] [] c) X.env)]:=by rfl):PE X (.Call (.Name "list" p) [.Call (.Name "range" d) [a] [] c] [] pos) (LH ta):=by
 intro g s J H Q I h;refine Call_ (jE I C D Ir (ab1 ?_ u rfl));rw[u];refine aeR ?_;refine Call_ (jE I hg R boot_range (ab1 (thn (O c g s J H _ I h) λus s1 ⟨vs,F,U,r1,G⟩=>?_) Y rfl));let⟨j,e,G,q2,q⟩:=G;subst e
 cases r1 with
 | cons r rr=>
  cases rr;let⟨t,rfl⟩:=r;refine call_range_1 ?_;refine ae9 ?_;have y:Inv X g J F {s1 with heap:=s1.heap.push {cls:=.type "range",data:=.fields #[.int 0 s1.toks,.int j t,.int 1 (s1.toks+1)]},toks:=s1.toks+1+1}:=U.kept λb o e=>Ld _ e;have W:IsRange (s1.heap.push {cls:=.type "range",data:=.fields #[.int 0 s1.toks,.int j t,.int 1 (s1.toks+1)]}) s1.heap.objs.size 0 j 1 s1.toks t (s1.toks+1):=IsRange.new ..;generalize M:({s1 with heap:=s1.heap.push {cls:=.type "range",data:=.fields #[.int 0 s1.toks,.int j t,.int 1 (s1.toks+1)]},toks:=s1.toks+1+1}:GT)=s2 at y⊢;have A:IsRange s2.heap s1.heap.objs.size 0 j 1 s1.toks t (s1.toks+1):=by rw[<-M];exact W
  refine call_list_range (n:=j.toNat) (I.ok.hd T) A (small_one (by decide) (by decide) (by omega) (by omega)) (by rw[rangeSize_one];split<;>omega) (by omega) λh' K f P hk B m=>?_;have S:F s2.heap.objs.size=none:=y.fresh;have Z:Vals ((aat j.toNat).map λ(i:Nat)=>V.int (i:Int)) f.toList:=by
   have N:f.toList.length=j.toNat:=by simpa using m.1
   have:∀(n:Nat) (l:List Ad),l.length=n->∀k:Nat,(∀i v,l[i]?=some v->∃t,v=agh (0+((k+i:Nat):Int)*1) t)->Vals ((af8 k n).map λ(i:Nat)=>V.int (i:Int)) l:=by
    intro n
    induction n with
    |zero=>intro l x k _;cases l with|nil=>exact .nil|cons _ _=>simp at x
    | succ n L=>
     intro l x k E
     cases l with
     |nil=>simp at x
     |cons v l=>
      rw[ag6,aan];refine .cons ?_ (L l (by simpa using x) (k+1) λi v z=>?_)
      .obtain⟨t,e⟩:=E 0 v rfl;exact⟨t,by rw[e];congr 1;omega⟩
      .obtain⟨t,e⟩:=E (i+1) v (by simpa using z);exact⟨t,by rw[e];congr 1;omega⟩
   have:=this j.toNat f.toList N 0 λi v z=>by
    let⟨t,e⟩:=m.2 i v (by simpa using z);exact⟨t,by rw[e];congr 1;omega⟩
   rw[List.range_eq_range'];exact this
  refine⟨.ref s2.heap.objs.size,_,y.laid (t':=K) (o:=.lst _) hk (aab _) ⟨?_,f.toList,P,Z,by simpa using B⟩,rfl,q _ S⟩;rw[lD,abb,aar];omega
abbrev D5(w:WA):WE:=λm K=>w m λrs b=>on1 (zd λj=>(-(2^62)≤j/\j≤16777216)/\K (.new (c7 0 j.toNat)) b) rs
theorem Du(o:X.mg "list" = none)(x:X.mg "range" = none)(t:MA X [a] w)(B:X.calm=true:=by rfl)(g:Gl X "list":=by rfl)(E:Gl X "range":=by rfl)(D:aag [a] X.env=[(false,eval a X.env)]:=by first|exact cE rfl|rfl)
  (h:aag [.Call (.Name "range" d) [a] [] c] X.env=[(false,eval (.Call (.Name "range" d) [a] [] c) X.env)]:=by rfl):ME X (.Call (.Name "list" p) [.Call (.Name "range" d) [a] [] c] [] pos) (D5 w):=(CI B g o E x t D h).wk<|by
 intro G H Q ⟨q,m,K,A,z,f⟩;refine⟨q,m,_,A,z,λrs s vs u k n R rr F=>?_⟩;let⟨r,v,rfl,rfl,C,k⟩:=e9 rr k;let⟨j,rfl,rfl,⟨k1,k2⟩,k⟩:=xY C k;refine⟨j,rfl,k1,k2,λl b=>f _ s _ _ k n (R.lay b) (RelR.base R F (show RelR X.kx q u _ (.new (c7 0 j.toNat)) (.ref l)from⟨l,_,rfl,b,av,?_⟩)) (F.trans (cn b))⟩;have e:c7 0 j.toNat=((aat j.toNat).map λ(i:Nat)=>(i:Int)).map abq:=by simp[c7]
 have y:((aat j.toNat).map λ(i:Nat)=>V.int (i:Int))=((aat j.toNat).map λ(i:Nat)=>(i:Int)).map V.int:=by simp
 rw[e,y];exact DenAll.ints _
end
theorem c6{D:fG}(P:Nat->MSt->Prop)(p0:P 0 m1)
  (step:∀(i:Nat) (d:aD) (m:MSt),ds[i]?=some d->m.np=m1.np->P i m->g d m λm2=>w {nx:=P (i+1),ct:=P (i+1),bk:=λf=>D.nx (f.setN m1.np),rt:=λr f=>D.rt r (f.setN m1.np)} m2)
  (h:∀m,m.np=m1.np->P ds.length m->D.nx m):qj ⟨ds,none⟩ g w D m1:=by
 refine⟨P,p0,λi d m e n p=>⟨trivial,step i d m e n p⟩,λm n p=>⟨trivial,?_⟩⟩;have e:m.setN m1.np=m:=by
  let⟨a,b,c⟩:=m;have j:c=m1.np:=n;subst j;rfl
 rw[e];exact h m n p
theorem g6{k:Nat}{a:List aD}{D:fG}(P:Nat->MSt->Prop)(p0:P 0 (m1.setN (max m1.np (k+1))))
  (ok:∀i m,P i m->m.os[k]?=some a)
  (step:∀(i:Nat) (d:aD) (m:MSt),ds[i]?=some d->m.np=max m1.np (k+1)->P i m->g d m λm2=>w {nx:=P (i+1),ct:=P (i+1),bk:=λb=>D.nx (b.setN m1.np),rt:=λr b=>D.rt r (b.setN m1.np)} m2)
  (f:∀m,m.np=max m1.np (k+1)->P ds.length m->D.nx (m.setN m1.np)):qj ⟨ds,some (k,a)⟩ g w D m1:=
 ⟨P,p0,λi d m e n p=>⟨ok i m p,step i d m e n p⟩,λm n p=>⟨ok _ m p,f m n p⟩⟩
theorem ju{t:WT}{D:fG}{b:MSt}(P:Nat->MSt->Prop)(e:Nat)(p0:P e b)
  (step:∀n m,m.np=b.np->P n m->t m λc d=>if c=true then w {D with nx:=λm2=>∃a,a<n/\P a m2,ct:=λm2=>∃a,a<n/\P a m2,bk:=D.nx} d else D.nx d):Av t w D b:=⟨P,⟨e,p0⟩,step⟩
def Cy(h:ds.length≤n):cutD ds none (some (n:Int))=ds:=by
 unfold cutD;rw[HT.sIx_none,HT.sIx_nat,Nat.min_eq_right h,Nat.sub_zero,List.drop_zero,aax]
def JR{k:Nat}(h:k<n):ixN n (k:Int)=some k:=by
 unfold ixN;rw[if_pos (by omega),if_pos (by omega)];simp
theorem gA{k:Nat}{m:MSt}(a:m.vs[n]?=some (some (.obj k)))(c:m.np≤k)(b:∀j:Nat,j≠n->m.vs[j]?≠some (some (.obj k)))(h:P {m with os:=m.os.set k ds}):sy n P m (.new ds):=.inr ⟨k,a,c,b,h⟩
theorem bp{a:Type}{xs:List a}{k:Nat}{d x:a}(h:xs[k]?=some x):xs.getD k d=x:=by simp_all
def x_J{w:WE}{m:MSt}{K:R->MSt->Prop}(b:R->MSt->Prop)(h:∀c:R->MSt->Prop,(∀r a,b r a->c r a)->w m c)(J:∀r a,b r a->K r a):w m K:=h K J
def x_JT{w:WT}{m:MSt}{K:Bool->MSt->Prop}(b:Bool->MSt->Prop)(h:∀c:Bool->MSt->Prop,(∀r a,b r a->c r a)->w m c)(J:∀r a,b r a->K r a):w m K:=h K J
theorem x_JS{m:MSt}{D:fG}(b:MSt->Prop)(h:∀N:MSt->Prop,(∀a,b a->N a)->w {D with nx:=N} m)(J:∀a,b a->D.nx a):w D m:=h D.nx J
structure Shp(k:Nat)(d:aD):Prop where
 cl:d.canLay0=true
 dp:d.depth≤k
def Shp.mono{k k':Nat}{d:aD}(h:Shp k d)(hk:k≤k'):Shp k' d:=⟨h.cl,aaD h.dp hk⟩
def Shp.ok{k:Nat}{d:aD}(h:Shp k d)(hk:k≤64):ab5 d=true:=by
 unfold ab5;rw[h.cl,decide_eq_true (aaD h.dp hk)];rfl
def cC(i:Int):Shp 0 (.int i):=⟨rfl,aab _⟩
theorem jl{k:Nat}:∀{ds:List aD},(∀d∈ds,Shp k d)->abv ds=true/\aaC ds≤k
 |[],_=>⟨rfl,by simp[aaC]⟩
 |d::ds,h=>by
  let⟨b,f⟩:=jl λc e=>h c (aad _ e);have a:=h d aac;refine⟨?_,?_⟩
  .simp only[abv];rw[a.cl,b];rfl
  .show max d.depth _≤k;have:=a.dp;omega
theorem bw{k:Nat}(h:∀d∈ds,Shp k d):Shp (k+1) (.tuple ds):=by
 let⟨a,b⟩:=jl h;exact⟨by simp[aeT];exact a,by show aaC ds+1≤_;omega⟩
theorem u7{k:Nat}(h:∀d∈ds,Shp k d):Shp (k+1) (.list ds):=by
 let⟨a,b⟩:=jl h;exact⟨by simp only[aeT];exact a,by show aaC ds+1≤_;omega⟩
theorem wq(b:Only H)(h:SqL K H a (ns.map V.int)):Den K H (.list (ns.map .int)) (.ref a):=by
 refine⟨a,_,rfl,?_,DenAll.ints _⟩;rcases h with(h|⟨o,h⟩)|h
 .rcases b a with z|_
  .grind
  .grind
 .exact .inl ⟨o,h⟩
 .exact .inr h
theorem L5{P:aaI}{w:World}{K:aaf}{base:aaW}{k:Nat}(F:Fun K x x st f fd)(S:ak N ps (ab st))(i:ps.length=n)(j:N.length=nN)(d:n≤nN)
  (a:∀(c:Ad) (A:aa8) (outer:List Env) (s:GT) (H:Hp) (E:XK) (f:Addr),Room k (A.deeper (ad2 x (ab st) s.heap.objs.size f c)) ->
   ∃b,MSs (cxOf CX0 P w K mg base N x (ab st) f c A outer s H E).nox (bz st) b/\∀as e,as.length=n->sp as e->b {nx:=λm=>e (.imm .none) (m.os.take m.np),rt:=λr m=>retK e m r} (dN nN as)) :
  FnOk P w K mg base CX0 (k+1) f fd ps (spOf ⟨K,w⟩ n sp):=by
 refine F.ok S (λvs H Q E h=>by rw[i];exact h.len) (λc A outer s H vs Q E o h=>?_);let⟨b,l,g⟩:=a c A outer s H E f o;exact⟨_,l,fn_m rfl h j d g⟩
structure DefK(K:aaf)(x:Str)(st:Stmt):Prop where
 ex:∃(f:Addr) (fd:ab4),aaM K aay x=some (some (.ref f))/\Fun K x x st f fd
def DefK.of{K:aaf}{o kV d pm b ct:Ad}{an:Option Addr}{sl:Array (Option Ad)}(a:aaM K aay x=some (some (.ref f)))
  (l:K.lookup f=some ⟨o,od,.func (abl x x (cp st) (bz st) (ab st) .none kV d pm an b ct),sl⟩) (c:adi K b x=true) (k:abP K (.ref f)=true):DefK K x st:=⟨f,_,a,qr l c k⟩
theorem DefK.m{K:aaf}{h:aaW}(D:DefK K x st)(X:K.In h)(G:h.Ns aay mg)(b:∀(f:Addr) (fd:ab4),Fun K x x st f fd->Binds K fd ps []):DefM K mg x st ps:=by
 let⟨f,fd,a,F⟩:=D.ex;exact⟨f,fd,F,agz X G a,b f fd F⟩
structure EE(X:Cx)(e:Expr)(w:WE):Prop where
 h:ME X e w
structure ET(X:Cx)(e:Expr)(w:WT):Prop where
 h:MT X e w
structure EW(X:Cx)(e:Expr)(w:WT):Prop where
 h:MW X e w
structure EA(X:Cx)(es:List Expr)(w:WA):Prop where
 h:MA X es w
structure ES(X:Cx)(st:Stmt)(w:WS):Prop where
 h:MS X st w
structure ESs(X:Cx)(st:List Stmt)(w:WS):Prop where
 h:MSs X st w
structure EI(X:Cx)(tg e:Expr)(w:WI):Prop where
 h:MI X tg e w
structure EG(X:Cx)(t:Expr)(w:WG):Prop where
 h:MG X t w
structure EGs(X:Cx)(ts:List Expr)(w:WGs):Prop where
 h:MGs X ts w
structure EO(X:Cx)(e:Option Expr)(w:WO1):Prop where
 h:MO X e w
structure ETs(X:Cx)(ifs:List Expr)(w:WT):Prop where
 h:PTs X ifs (tMT X.kx w)
def EW.pt{w:WT}(h:EW X e w):ET X e w:=⟨h.h.pt⟩
section
variable {X:Cx}{a b c:Expr}{e:List Expr}{w d f:WE}{pos:Pos}
def mh'{i j pos}:EE X (.Constant (.int i) j pos) (wC (.int i)):=⟨Rf⟩
def ng{i j pos}:EE X (.Constant (.bool i) j pos) (wC (.bool i)):=⟨R8⟩
def ai{i j pos}:EE X (.Constant (.str i) j pos) (wC (.str i)):=⟨Oy⟩
def jz{j pos}:EE X (.Constant .none j pos) (wC .none):=⟨P6⟩
theorem mv'(i:Nat){pos:Pos}(g:X.N[i]?=some x:=by rfl)(j:Vis X.env.scope x:=by first|exact afk rfl|exact ac9 (afk rfl)|exact ac9 (ac9 rfl))(hd:(x==("__debug__" : Str))=false:=by decide)(h:(x==("__classdict__" : Str))=false:=by decide):EE X (.Name x pos) (wVar i):=⟨mv i g j hd h⟩
def af{op:aeO}(g:OpR X (acl op) (rM X.kx o))(h:EE X a w)(i:EE X b d):EE X (.BinOp a op b pos) (wBin o w d):=⟨Qf g h.h i.h⟩
def dE(i:OpR X (abm op) (rM X.kx o))(h:EE X a w)(j:EE X b d)(g:acN op b=false):EE X (.Compare a [op] [b] pos) (wBin o w d):=⟨Re i h.h j.h g⟩
def ap(i:OpR X (abm op) (rM X.kx o))(h:EE X a w)(j:EE X b d)(g:acN op b=false):ET X (.Compare a [op] [b] pos) (za (wBin o w d)):=⟨O7 i h.h j.h g⟩
def c5(h:EE X a w)(i:∀g,isTrue a X.env g=(do let v <- g;acI a.pos;adN [v] (truthy v)):=by intro _;rfl):ET X a (za w):=⟨NQ h.h i⟩
end
section
variable {X:Cx}{a b c:Expr}{g:List Expr}{d e i:WE}{pos:Pos}
variable {w f:WT}{rest:List Expr}
def gG(h:ET X a w):EW X (.BoolOp .And [a] pos) w:=⟨IM h.h⟩
def lM(h:ET X a w):EW X (.BoolOp .Or [a] pos) w:=⟨Pj h.h⟩
def h7(h:ET X a w)(j:EW X (.BoolOp .And (b::rest) pos) f):EW X (.BoolOp .And (a::b::rest) pos) (wAnd w f):=⟨Qz h.h j.h⟩
def oi(h:ET X a w)(j:EW X (.BoolOp .Or (b::rest) pos) f):EW X (.BoolOp .Or (a::b::rest) pos) (wOr w f):=⟨Tj h.h j.h⟩
def lJ(h:ET X a w):ET X (.UnaryOp .Not a pos) (wNot w):=⟨Qj h.h⟩
def Kh{op}(h:EE X a d):EE X (.BoolOp op [a] pos) d:=⟨Qk h.h⟩
def QE(h:EE X a d)(j:EE X (.BoolOp .Or (b::rest) pos) e):EE X (.BoolOp .Or (a::b::rest) pos) (wOrV d e):=⟨Ur h.h j.h⟩
def qu(h:ET X t w)(j:EE X a d)(k:EE X b e):EE X (.IfExp t a b pos) (wIfE w d e):=⟨Ux h.h j.h k.h⟩
def kq{op:UnaryOp}{o:WU}(j:UnR X (unaryOp op) (uM X.kx o))(h:EE X a d):EE X (.UnaryOp op a pos) (wUn o d):=⟨Uf j h.h⟩
def fh(h:EE X a d):EE X a (wImm d):=⟨Rh h.h⟩
end
section
variable {X:Cx}{a b c:Expr}{e:List Expr}{d f g:WE}{pos:Pos}
variable {i j:WT}{rest:List Expr}
variable {w:WA}
def mn'  : EA X [] wNil:=⟨LC⟩
def mc'(h:EE X a d)(k:EA X e w)(l:aag (a::e) X.env=(false,eval a X.env)::aag e X.env:=by first|exact aI rfl|rfl):EA X (a::e) (QQ d w):=⟨JD h.h k.h l⟩
def aq{x1}(h:EA X e w):EE X (.Tuple e x1 pos) (wTup w):=⟨L8 h.h⟩
def cr(h:EA X e w):EE X (.List e pos) (wLst w):=⟨Rg h.h⟩
theorem aF{id:String}{o:WC}(s:fe X (.builtin id) (cM X.kx o))(n:Gl X x)(l:X.mg x=none)(m:abi x=some (.builtin id))(q:EA X (a::e) w)(r:x ≠ "__name__":=by decide)(h:(x==("__debug__" : Str))=false:=by decide)(t:aag (a::e) X.env=(false,eval a X.env)::aag e X.env:=by first|exact aI rfl|rfl)(k:(abD pos (aag e X.env)).any (·.1)=false:=by rfl):EE X (.Call (.Name x p) (a::e) [] pos) (wCB o w):=⟨DB s n l m q.h r h t k⟩
theorem bI{T:String}{o:WC}(s:fe X (.type T) (cM X.kx o))(n:Gl X x)(l:X.mg x=none)(m:abi x=some (.type T))(q:EA X (a::e) w)(r:x ≠ "__name__":=by decide)(h:(x==("__debug__" : Str))=false:=by decide)(t:aag (a::e) X.env=(false,eval a X.env)::aag e X.env:=by first|exact aI rfl|rfl)(k:(abD pos (aag e X.env)).any (·.1)=false:=by rfl):EE X (.Call (.Name x p) (a::e) [] pos) (wCB o w):=⟨xI s n l m q.h r h t k⟩
end
section
variable {X:Cx}{a b c e:Expr}{d:List Expr}{f g h i:WE}{pos:Pos}{st:Stmt}{rest:List Stmt}{w u:WS}
def aA  : ESs X [] Q9:=⟨KJ⟩
def mz'(j:ES X st w)(k:ESs X rest u):ESs X (st::rest) (wSeq w u):=⟨DJ j.h k.h⟩
def aa(j:ES X st w):ESs X [st] w:=⟨G9 j.h⟩
end
section
variable {X:Cx}{a b c e:Expr}{f:List Expr}{q r s l:WE}{o:WA}{p:WT}{pos:Pos}{st:Stmt}{rest m d:List Stmt}{w u:WS}
def ag(h:EE X e l):ES X (.Return (some e) pos) (wRet l):=⟨Pq h.h⟩
def dQ(g:EE X e l)(h:abB e none pos.line X.env=pure false:=by rfl):ES X (.Expr e pos) (MN l):=⟨IG g.h h⟩
def bc(h:ET X t p)(g:ESs X m w)(i:ESs X d u):ES X (.If t m d pos) (wIfS p w u):=⟨TW h.h g.h i.h⟩
def yE  : ES X st E9:=⟨B5⟩
theorem kb{g:Pos}(h:X.N.Nodup)(k:X.N[i]?=some x)(j:Loc X.env.scope x)(v:EE X e l)(n:abB e (some (.Name x g)) pos.line X.env=pure false:=by rfl)(t:X.fn x=true\/X.env.scope.names.lookup x=some .local:=by first|exact .inl rfl|exact .inr rfl|assumption):ES X (.Assign [.Name x g] e pos) (wSet i l):=⟨PK h k j v.h n t⟩
theorem iz(j:X.N.Nodup)(g:X.N[i]?=some x)(k:Loc X.env.scope x)(h:X.fn x=true\/X.env.scope.names.lookup x=some .local:=by first|exact .inl rfl|exact .inr rfl|assumption):EG X (.Name x pos) (gM i):=⟨Iu j g k h⟩
def aM  : EGs X [] JF:=⟨GJ⟩
def ac{e:Expr}{f:List Expr}(h:EG X e g)(i:EGs X f gs)(j:(abX (e::f) X.env).map (·.2)=afh e X.env::(abX f X.env).map (·.2):=by rfl):EGs X (e::f) (xZ g gs):=⟨Cz h.h i.h j⟩
theorem bg{f:List Expr}{k:Nat}(h:EGs X f gs)(j:X.calm=true:=by rfl)(i:(abX f X.env).length=n:=by rfl)(g:(abX f X.env).findIdx? (·.1)=none:=by rfl):EG X (.Tuple f k pos) (Iq n gs):=⟨Ls h.h j i g⟩
theorem ck(n:EE X e l)(h:EG X tg g)(j:ady [tg] e pos.line X.env=pure false:=by rfl)(k:adz [tg] e X.env=pure none:=by rfl)(i:(abX [tg] X.env).map (·.2)=[afh tg X.env]:=by rfl):ES X (.Assign [tg] e pos) (wAsg l g):=⟨Lu n.h h.h j k i⟩
theorem ik{g k pt:Pos}{kt k2 pt2}(n:X.N.Nodup)(E:X.N[i]?=some x)(A:X.N[j]?=some y)(h:i≠j)(t:X.env.scope.names.lookup x=some .local)(D:X.env.scope.names.lookup y=some .local)(B:EA X [a,b] o)(z:adz [.Tuple [.Name x g,.Name y k] kt pt] (.Tuple [a,b] k2 pt2) X.env=pure (some [x,y]))(C:X.calm=true:=by rfl)(v:ady [.Tuple [.Name x g,.Name y k] kt pt] (.Tuple [a,b] k2 pt2) pos.line X.env=pure false:=by rfl):ES X (.Assign [.Tuple [.Name x g,.Name y k] kt pt] (.Tuple [a,b] k2 pt2) pos) (wPar i j o):=⟨N6 n E A h t D B.h z C v⟩
end
section
variable {X:Cx}{tg a b c e i:Expr}{l:List Expr}{m n o h:WE}{j:WA}{k:WT}{pos:Pos}{st:Stmt}{rest d f:List Stmt}{w u:WS}
def bC(g:EE X e h):EI X tg e (K8 h):=⟨O9 g.h⟩
theorem cN(g:Gl X "range")(r:X.mg "range" = none)(q:EA X [a] j)(s:aag [a] X.env=[(false,eval a X.env)]:=by first|exact cE rfl|rfl):EI X tg (.Call (.Name "range" p) [a] [] pos) (E8 j):=⟨Ab g r q.h s⟩
theorem cZ{p:WI}(v:EI X tg i p)(q:EG X tg g)(r:ESs X d w)(y:aft (model X.prog X.w) X.A X.env X.xe)(t:X.calm=true:=by rfl)(s:∀x,aaR i X.env x=pure x:=by intro _;rfl):ES X (.For tg i d [] pos) (wFor p g w):=⟨Rj v.h q.h r.h y t s⟩
def fc(g:ET X t k)(p:ESs X d w)(q:aft (model X.prog X.w) X.A X.env X.xe):ES X (.While t d [] pos) (Av k w):=⟨CK g.h p.h q⟩
end
section
variable {X:Cx}{scope sc:Scope}{own fr:List Str}{ps:List Nat}{elt tg a f b:Expr}{ifs e:List Expr}{pos d p:Pos}{w k:WI}{g m:WG}{tt l:WT}{j:WE}
theorem bM(S:ci own fr scope sc)(o:EI X tg a w)(t:∀cl s H C ex,EG (aQ X scope cl (own++fr) s H C ex) tg g)(u:∀cl s H C ex,ETs (aQ X scope cl (own++fr) s H C ex) ifs tt)(q:∀cl s H C ex,EE (aQ X scope cl (own++fr) s H C ex) elt j)(h:X.env.scope=sc:=by rfl)(c:ps.map (λi=>X.N[i]?)=fr.map some:=by rfl)(r:X.calm=true:=by rfl)(n:∀x,aaR a X.env x=pure x:=by intro _;rfl):EE X (.ListComp elt [⟨tg,a,ifs,0⟩] scope pos) (rm w own ps g tt j):=⟨BU S o.h (λcl s H C ex=>(t cl s H C ex).h) (λcl s H C ex=>(u cl s H C ex).h) (λcl s H C ex=>(q cl s H C ex).h) h c r n⟩
def bO  : ETs X [] zu:=⟨Jz⟩
def oJ{t:WT}(h:ET X c t):ETs X [c] t:=⟨JC h.h⟩
theorem i6(S:ci own fr scope sc)(q:X.N.Nodup)(r:X.N[i]?=some y)(h:X.env.scope.names.lookup y=some .local)(t:EI X tg a w)(B:∀cl s H C ex,EG (aQ X scope cl (own++fr) s H C ex) tg g)(u:∀cl s H C ex,ETs (aQ X scope cl (own++fr) s H C ex) ifs tt)(z:∀cl s H C ex,EE (aQ X scope cl (own++fr) s H C ex) elt j)(o:abB (.ListComp elt [⟨tg,a,ifs,0⟩] scope pos) (some (.Name y p)) d.line X.env=pure true:=by rfl)(n:X.env.scope=sc:=by rfl)(c:ps.map (λi=>X.N[i]?)=fr.map some:=by rfl)(v:X.calm=true:=by rfl)(A:∀x,aaR a X.env x=pure x:=by intro _;rfl):ES X (.Assign [.Name y p] (.ListComp elt [⟨tg,a,ifs,0⟩] scope pos) d) (wSet i (rm w own ps g tt j)):=⟨Cp S q r h t.h (λcl s H C ex=>(B cl s H C ex).h) (λcl s H C ex=>(u cl s H C ex).h) (λcl s H C ex=>(z cl s H C ex).h) o n c v A⟩
theorem yi(S:ci own fr scope sc)(u:X.N.Nodup)(v:X.N[i]?=some y)(c:X.env.scope.names.lookup y=some .local)(z:EI X tg a w)(F:∀cl s H C ex,EG (aQ X scope cl (own++fr) s H C ex) tg g)(A:∀cl s H C ex,ETs (aQ X scope cl (own++fr) s H C ex) ifs tt)(hi2:∀cl s H C ex,EI (aQ X scope cl (own++fr) s H C ex) f b k)(h:∀cl s H C ex,EG (aQ X scope cl (own++fr) s H C ex) f m)(r:∀cl s H C ex,ETs (aQ X scope cl (own++fr) s H C ex) e l)(D:∀cl s H C ex,EE (aQ X scope cl (own++fr) s H C ex) elt j)(t:abB (.ListComp elt [⟨tg,a,ifs,0⟩,⟨f,b,e,0⟩] scope pos) (some (.Name y p)) d.line X.env=pure true:=by rfl)(q:X.env.scope=sc:=by rfl)(n:ps.map (λi=>X.N[i]?)=fr.map some:=by rfl)(B:X.calm=true:=by rfl)(E:∀x,aaR a X.env x=pure x:=by intro _;rfl)(o:∀cl C x,aaR b (af7 scope cl C X.env) x=pure x:=by intro _ _ _;rfl):ES X (.Assign [.Name y p] (.ListComp elt [⟨tg,a,ifs,0⟩,⟨f,b,e,0⟩] scope pos) d) (wSet i (zk w own ps g tt k m l j)):=⟨DF S u v c z.h (λcl s H C ex=>(F cl s H C ex).h) (λcl s H C ex=>(A cl s H C ex).h) (λcl s H C ex=>(hi2 cl s H C ex).h) (λcl s H C ex=>(h cl s H C ex).h) (λcl s H C ex=>(r cl s H C ex).h) (λcl s H C ex=>(D cl s H C ex).h) t q n B E o⟩
end
section
variable {X:Cx}
theorem ae{a b:Expr}{w c:WE}(h:EE X a w)(d:EE X b c)(e:ku b:=by intro _ _;rfl):EE X (.Subscript a b pos) (wBin oz w c):=⟨TQ h.h d.h e⟩
end
section
variable {X:Cx}{o a b c e:Expr}{g:List Expr}{h j k l w m:WE}{i:WA}{pos f d:Pos}
theorem mZ{name:Str}{id:String}{t:WM}(slot:Slot "list" name id)(s:typeOf (.builtin id)=pure (.type "method_descriptor"))(u:MtM X id (mM X.kx t))(z:EE X o h)(y:EA X (e::g) i)(q:abQ o name X.env (eval o X.env)=eval o X.env:=by rfl)(r:((abD d (aag (e::g) X.env)).all (λx=>!x.1)&&(adB d (acw [] X.env)).all (λx=>x.1.isSome)
   && decide ((e::g).length+([]:List aeG).length+(if ([]:List aeG).isEmpty then 0 else 1)<30))=true:=by rfl) (p:(f.endLine==d.line)=true:=by rfl) (v:aag (e::g) X.env=(false,eval e X.env)::aag g X.env:=by first|exact aI rfl|rfl) (n:(abD d (aag g X.env)).any (·.1)=false:=by rfl):EE X (.Call (.Attribute o name f) (e::g) [] d) (wML t h i):=⟨Ua slot s u z.h y.h q r p v n⟩
def dU  : EO X none Ac:=⟨Jm⟩
def cQ(n:EE X e w):EO X (some e) (O4 w):=⟨Iz n.h⟩
def cG{n wh:WO1}{r:Pos}(q:SlR X (sM X.kx ob))(t:EE X e w)(p:EO X lo n)(s:EO X hi wh):EE X (.Subscript e (.Slice lo hi none r) pos) (wSl ob w n wh):=⟨BI q t.h p.h s.h⟩
end
section
variable {X:Cx}{a:Expr}{e:List Expr}{w:WA}{pos p:Pos}{k n:Nat}{sp:SpM}{x:Str}
theorem mf'(F:FnM X.prog X.w X.K X.mg X.base x k n sp)(c:Room k X.A)(d:EA X (a::e) w)(f:Gl X x:=by rfl)(h:(x==("__debug__" : Str))=false:=by decide)(g:aag (a::e) X.env=(false,eval a X.env)::aag e X.env:=by first|exact aI rfl|rfl)(b:(abD pos (aag e X.env)).any (·.1)=false:=by rfl):EE X (.Call (.Name x p) (a::e) [] pos) (zw sp w):=⟨CC F c d.h f h g b⟩
end
section
variable {X:Cx}{tg a:Expr}{w:WA}{p c pos b:Pos}
theorem zT(h:X.mg "list" = none)(i:X.mg "range" = none)(f:EA X [a] w)(k:X.calm=true:=by rfl)(e:Gl X "list":=by rfl)(g:Gl X "range":=by rfl)(j:aag [a] X.env=[(false,eval a X.env)]:=by first|exact cE rfl|rfl)(d:aag [.Call (.Name "range" c) [a] [] b] X.env=[(false,eval (.Call (.Name "range" c) [a] [] b) X.env)]:=by rfl):EE X (.Call (.Name "list" p) [.Call (.Name "range" c) [a] [] b] [] pos) (D5 w):=⟨Du h i f.h k e g j d⟩
end
theorem aV{P:aaI}{w:World}{K:aaf}{base:aaW}{k:Nat}(D:DefM K mg x st ps)(S:ak N ps (ab st))(i:ps.length=n)(e:N.length=nN)(d:n≤nN)(ar:∀as a,sp as a->as.length=n)
  (h:∀(c:Ad) (A:aa8) (outer:List Env) (s:GT) (H:Hp) (E:XK) (f:Addr),Room k (A.deeper (ad2 x (ab st) s.heap.objs.size f c)) ->
   ∃b,ESs (cxOf CX0 P w K mg base N x (ab st) f c A outer s H E).nox (bz st) b/\∀as a,as.length=n->sp as a->b {nx:=λm=>a (.imm .none) (m.os.take m.np),rt:=λr m=>retK a m r} (dN nN as)) :
  FnM P w K mg base x (k+1) n sp:=TJ D S i e d ar λc A outer s H E f g=>let ⟨b,h1,h2⟩:=h c A outer s H E f g;⟨b,h1.h,h2⟩
theorem IK{P:aaI}{w:World}{K:aaf}{base:aaW}{k:Nat}(F:Fun K x x st f fd)(S:ak N ps (ab st))(e:ps.length=n)(g:N.length=nN)(b:n≤nN)
  (h:∀(c:Ad) (A:aa8) (outer:List Env) (s:GT) (H:Hp) (E:XK) (f:Addr),Room k (A.deeper (ad2 x (ab st) s.heap.objs.size f c)) ->
   ∃a,ESs (cxOf CX0 P w K mg base N x (ab st) f c A outer s H E).nox (bz st) a/\∀as d,as.length=n->sp as d->a {nx:=λm=>d (.imm .none) (m.os.take m.np),rt:=λr m=>retK d m r} (dN nN as)) :
  FnOk P w K mg base CX0 (k+1) f fd ps (spOf ⟨K,w⟩ n sp):=L5 F S e g b λc A outer s H E f i=>let ⟨a,h1,h2⟩:=h c A outer s H E f i;⟨a,h1.h,h2⟩
end L2
namespace HT
open PySem PySem.Spec PyProof.Rows
section
variable {prog:aaI}{w:World}{A:aa8}{E:Ad->GT->Prop}{s:GT}
def cut_whole{t sl:Addr}{items:Array Ad}{vl v:Ad}{l c:Option Int}{Q:Ad->GT->Prop}(a:IsTup s.heap t items)(i:s.heap.IsSliceOf sl vl v .none)(pl:afI vl l)(p:afI v c)
  (g:sIx items.size 0 l=0/\sIx items.size items.size c=items.size) (h:Q (.ref t) s):wpAny (model prog w) A (aek (.ref t) (.ref sl)) Q E s:=by
 let⟨os,e,f,j⟩:=id i;have d:s.TypeIs (.ref sl) "slice":=⟨os,e,f⟩;unfold aek
 try with_reducible refine ach ?_
 refine gT (afb a.typeIs (by decide) (gT (aa9 (name:=aci "__getitem__") a.typeIs abn (abk abn a.typeIs entry_tuple_getitem ?_ (args_tuple_getitem _ _)))));show wpAny _ _ (adj (.ref t) >>= _) _ _ s;refine gT (agx a (gT (acW d ?_)));rw[if_pos (by decide)];refine gT (fE i pl p ?_);have b:(((sIx items.size 0 l:Nat):Int)==0&&(1:Int)==1&&(sIx items.size items.size c-sIx items.size 0 l)==items.size)=true:=by
  rw[g.1,g.2];simp
 show wpAny _ _ (if _=true then _ else _) _ _ s;rw[if_pos b];refine gT ?_;unfold aeU;refine gT (acW a.typeIs (LD ?_));rw[if_pos (by rfl)];exact gT (abL (LD ⟨_,rfl,LD h⟩))
end
end HT
namespace L2
open PySem PySem.Spec PyProof.Rows
variable{hi lo:Option Int}{Kr:R->Prop}{ds es:List aD}{K:R->MSt->Prop}{X:Cx}{pins:List (Addr×Obj)}{σ:St}{H:Hp}{h h':aaW}{t t1 t2:Bool}{a b i1 i2 it l l1 l2 z:Addr}{i n:Nat}{items its xs ys:Array Ad}{α:Type}{Q:Ad->GT->Prop}{f:Ad}{elts:List Expr}
section
variable {X:Cx}
def oCut:R->Option Int->Option Int->MSt->(R->Prop)->Prop:=λr lo hi m K=>(∃ds,lsOf m r=some ds/\K (.new (cutD ds lo hi)))\/∃ds,r = .imm (.tuple ds)/\K (.imm (.tuple (cutD ds lo hi)))
theorem fu:SlR X (sM X.kx oCut):=by
 intro pins s j H x v vl D lo hi C Q I q y A u E;obtain⟨α,m,σ,G,r,F,R,h,k|⟨ds,rfl,k⟩,c⟩:=E
 .exact Cj pins s j H x v vl D lo hi C Q I q y A u ⟨α,m,σ,G,r,F,R,h,k,c⟩
 .obtain⟨a,xs,rfl,f,g⟩:=bV (h)
  by_cases o:HT.sIx xs.length 0 lo=0/\HT.sIx xs.length xs.length hi=xs.length
  .cases q;let⟨its,J,B,L⟩:=I.tuple f;have d:its.toArray.size=xs.length:=by rw[aaG];exact J.length.symm
   refine⟨"tuple",_,abn.lookup,B.typeIs,?_⟩;refine HT.cut_whole B y A u (by rw[d];exact o) ⟨.ref a,H,I,rfl,c _ _ H k R (mX (fv f ?_)) (Frm.refl _ _)⟩;have e:cutD ds lo hi=ds:=by
    unfold cutD;rw[g.length,o.1,o.2,List.drop_zero,Nat.sub_zero,<-g.length,aax]
   rw[e];exact g
  .exact Oj pins s j H _ v vl D lo hi C Q I q y A u ⟨a,xs,rfl,f,o,λp w=>c _ _ _ k (R.lay w) (mX (fv (SqT.of av) ((AB g lo hi).mono (bi (.inl w))))) (cn w)⟩
def Iy{m:MSt}{r:R}(e:lsOf m r=some ds)(h:Kr (.new (cutD ds lo hi))):oCut r lo hi m Kr:=.inl ⟨ds,e,h⟩
def QJ{m:MSt}(h:Kr (.imm (.tuple (cutD ds lo hi)))):oCut (.imm (.tuple ds)) lo hi m Kr:=.inr ⟨ds,rfl,h⟩
def sU(n:Nat):cutD ds none (some (n:Int))=ds.take n:=by
 unfold cutD;rw[HT.sIx_none,HT.sIx_nat];simp
theorem iE(n:Nat):cutD ds (some (n:Int)) none=ds.drop n:=by
 unfold cutD;rw[HT.sIx_none,HT.sIx_nat]
 by_cases h:n≤ds.length
 .rw[Nat.min_eq_left h];exact aby (by simp)
 .rw[Nat.min_eq_right (by omega),List.drop_length,List.drop_eq_nil_of_le (by omega),List.take_nil]
def oIn(c:Bool):WO:=λr1 r m K=>∃d ds,asD m r1=some d/\(asD m r=some (.list ds)\/asD m r=some (.tuple ds))/\d.canLay0=true/\abv ds=true/\d.depth≤60/\K (.imm (.bool (if c then !ds.any (λy=>aai y d)else ds.any λy=>aai y d)))
theorem Ou(E:X.A.units+64<cLine):OpR X (abm .In) (rM X.kx (oIn false)):=by
 intro pins s o H x y v u Q I B w ⟨α,m,σ,L,F,r1,M,J,R,D,p,⟨d,ds,A,e,k,g,dp,C⟩,j⟩;let⟨G,q⟩:=D.reads I R B A (aa6 _ k);have c:EP X pins o Q (.bool (ds.any λy=>aai y d)) s:=⟨.bl _,H,I,rfl,j _ _ H C R (l7 _) (Frm.refl _ _)⟩;have r:X.A.units+1+min (aaC ds) d.depth<cLine:=by have:=adn (aaC ds) d.depth;omega
 rcases e with e|e
 .obtain⟨bs,q2⟩:=p.reads I R w e (by simp only[acm];exact abt _ g);exact SeqAt.in_list_reads q2 q g k r c
 .obtain⟨bs,q2⟩:=p.reads I R w e (by simp only[acm];exact abt _ g);exact SeqAt.in_tuple_reads q2 q g k r c
theorem qP(E:X.A.units+64<cLine):OpR X (abm .NotIn) (rM X.kx (oIn true)):=by
 intro pins s o H x y v u Q I B w ⟨α,m,σ,L,F,r1,M,J,R,D,p,⟨d,ds,A,e,k,g,dp,C⟩,j⟩;let⟨G,q⟩:=D.reads I R B A (aa6 _ k);have c:EP X pins o Q _ s:=⟨.bl _,H,I,rfl,j _ _ H C R (l7 _) (Frm.refl _ _)⟩;have r:X.A.units+1+min (aaC ds) d.depth<cLine:=by have:=adn (aaC ds) d.depth;omega
 rcases e with e|e
 .obtain⟨bs,q2⟩:=p.reads I R w e (by simp[acm];exact abt _ g);exact SeqAt.notIn_list_reads q2 q g k r c
 .obtain⟨bs,q2⟩:=p.reads I R w e (by simp only[acm];exact abt _ g);exact SeqAt.notIn_tuple_reads q2 q g k r c
def x_in{m:MSt}{r1 r2:R}{c:Bool}{d:aD}{k k':Nat}(g:asD m r1=some d)(e:asD m r2=some (.list ds)\/asD m r2=some (.tuple ds))(s1:Shp k d)(s2:∀y∈ds,Shp k' y)(hk:k≤60)(h:Kr (.imm (.bool (if c then !ds.any (λy=>aai y d)else ds.any λy=>aai y d)))):oIn c r1 r2 m Kr:=
 ⟨d,ds,g,e,s1.cl,(jl s2).1,aaD s1.dp hk,h⟩
abbrev oMax:WC:=λrs _ K=>match rs with|[.imm (.int i),.imm (.int j)]=>K (.imm (.int (if j>i then j else i)))|_=>False
theorem zt(o:X.calm=true):fe X (.builtin "max") (cM X.kx oMax):=by
 intro pins s e H xs u Q I r ⟨α,m,σ,q,rs,p,R,h,d,c⟩
 match rs,h,d with
 |[.imm (.int i),.imm (.int j)],.cons h1 (.cons h2 .nil),d=>
  have g:=aC (show Den X.kx H (.int i) _ from h1);have k:=aC (show Den X.kx H (.int j) _ from h2);subst g k;exact yO o pins s e H _ u Q I r ⟨i,j,rfl,c _ _ H d R (dM _) (Frm.refl _ _)⟩
def SD(P:List aD->Prop):R->Prop
 | .new ds=>P ds
 |_=>False
def yZ:WM:=λr rs m K=>Ah (λk=>on1 (SD λes=>∃ds,m.os[k]?=some ds/\ds.length+es.length≤aaj/\K (.imm .none) {m with os:=m.os.set k (ds++es)}) rs) r
theorem wF:MtM X "list.extend" (mM X.kx yZ):=by
 intro pins s j H x xs v C Q I A E ⟨α,m,σ,O,L,r,rs,M,R,D,e,c,d⟩;let⟨k,a,rfl,o,rfl,c⟩:=Bf D c;let⟨G,N,rfl,rfl,e,c⟩:=e9 e c
 cases G with
 |imm _=>exact c.elim
 |obj _=>exact c.elim
 | «at» _ _=>exact c.elim
 |newT _=>exact c.elim
 |new es=>
  let⟨ds,w,y,c⟩:=c;let⟨b,B,rfl,u,J,p⟩:=e;let⟨ys,q,g⟩:=R.own _ _ ds o w;let⟨R2,F⟩:=R.setO o q (g.append p);exact zc pins s j H _ _ v C Q I A E ⟨a,b,ys,B,rfl,rfl,q,J,by rw[<-g.length,<-p.length];exact y,d _ _ _ _ c rfl R2 qJ F⟩
def CB{m:MSt}{k:Nat}(e:m.os[k]?=some ds)(c:ds.length+es.length≤aaj)(h:K (.imm .none) {m with os:=m.os.set k (ds++es)}):yZ (.obj k) [.new es] m K:=⟨ds,e,c,h⟩
def D8:WM:=λr rs m K=>on1 (jP λd=>∃ds j,lsOf m r=some ds/\d.canLay0=true/\abv ds=true/\d.depth≤60/\(∃y,ds[j]?=some y/\aai y d=true)/\(∀(i:Nat) y,i<j->ds[i]?=some y->aai y d=false)/\K (.imm (.int (j:Nat))) m) rs
theorem zY(hu:X.A.units+64<cLine):MtM X "list.index" (mM X.kx D8):=by
 intro pins s σ' H x xs v us Q I rx rv ⟨α,m,σ,H0,H1,r,rs,Kc,R,h1,G,C,F⟩;let⟨r2,v2,rfl,rfl,G,C⟩:=e9 G C;let⟨d,rfl,hd,ds,j,el,S,D,dp,⟨y,U,eq⟩,L,C⟩:=fY G C;let⟨a,zs,rfl,f,g⟩:=h1.list R el;cases rx;let⟨u,rfl,Y⟩:=rv.one;let⟨bs,V⟩:=Den.reads I (aa6 _ S) hd Y;let⟨its,q,W,Z⟩:=I.list f;let⟨o,n,w,T,k⟩:=W;let⟨as,A⟩:=DenAll.reads I (abt _ D) g q;have hm:X.A.units+1+min (aaC ds) d.depth<cLine:=by have:=adn (aaC ds) d.depth;omega
 have p:=agG ds _ _ D A;have M:its.length=ds.length:=by rw[<-p,lD]
 have O:j<its.length:=by rw[M];exact(AD.mp U).1
 have P:∀(i:Nat) (hi:i<its.length) y,ds[i]?=some y->ac1 s.heap its[i]=y:=λi hi y e=>by
  rw[<-p,aae,iO hi]at e;exact aaB e
 let⟨cls,dd,N,sl⟩:=o;let⟨k,c⟩:=k;dsimp only at T c;subst T;subst c;have E:(j:Int)<2^63-1:=by
  have J:=Z;rw[aar]at J;have:=q.length;omega
 refine adV afv ⟨_,w,rfl⟩ PySem.F.entry_list_index (PySem.F.args_list_index_2 _ _)
  (SeqAt.list_indexAt a its.toArray _ dd sl u (λy=>aai (ac1 s.heap y) d) j (by simpa using O) E ?_ ?_) ⟨w,ag7 (by simpa using A) V D S hm,?_⟩
 .show aai (ac1 s.heap its[j]) d=true;rw[P j O y U];exact eq
 .intro i hi hlt;have B:i<its.length:=by simpa using hi
  show aai (ac1 s.heap its[i]) d=false;have hi2:i<ds.length:=by rw[<-M];exact B
  rw[P i B _ (iO hi2)];exact L i _ hlt (iO hi2)
 .exact⟨.int (j:Nat),H,I.tok _,⟨_,rfl⟩,F _ _ _ H C rfl R (dM _) (Frm.refl _ _)⟩
def Ji{m:MSt}{r:R}{d y:aD}{j k k':Nat}(e:lsOf m r=some ds)(s1:Shp k d)(s2:∀y∈ds,Shp k' y)(hk:k≤60)(g:ds[j]?=some y)(eq:aai y d=true)(c:∀(i:Nat) y,i<j->ds[i]?=some y->aai y d=false)(h:K (.imm (.int (j:Nat))) m):D8 r [.imm d] m K:=
 ⟨ds,j,e,s1.cl,(jl s2).1,aaD s1.dp hk,⟨y,g,eq⟩,c,h⟩
end
theorem Inv.turneds{s:GT}{t':Nat}{ch:List Addr}(I:Inv X pins σ H s)(k:∀b o,b∉ch->s.heap.get? b=some o->h'.get? b=some o)(j:∀b∈ch,FpOk X pins H b):Inv X pins σ H {s with heap:=h',toks:=t' }:=by
 have g:∀b u,H b=some u->b∉ch:=λb u e z=>by have:=(j b z).1;grind
 have x:=λz=>(j _ z).2.1 rfl;refine I.step (g':=s.gens) (d':=s.drawn) (λb w=>?_) (λb o _ _ d e _=>k b o d e) (λb o _ _ d e _=>⟨o.slots,k b o d e⟩) (λ_ _ _ _ n=>n)
  (λb o d e=>⟨o,k b o d e⟩) (λ_ _ e=>e) (λ_ _ _ e=>e) (λb y e=>⟨#[],by rw[e];simp⟩) (λm p=>?_) (λb u e=>?_) I.bare
 .obtain⟨_,f1,_,f3,f4,f5⟩:=j b w;exact⟨f3,f1,f4,f5⟩
 .obtain⟨o,es,ep,ho,r⟩:=p;exact⟨o,es,ep,k _ o x ho,r⟩
 .refine(I.hok b u e).stay (λc v d q=>k c v ?_ q) (λ_ q=>q) λ_ _ q=>q;rcases d with z|z
  .rw[z];exact g b u e
  .exact g c _ z
def SubI(t:Bool)(h:aaW)(i l:Addr)(k:Nat):Prop:=if t then h.IsTupleIter i l k else h.IsListIter i l k
def SubS(t:Bool)(h:aaW)(l:Addr)(its:Array Ad):Prop:=if t then h.IsTuple l its else h.IsList l its
def SubI.ext{i:Addr}{k:Nat}(x:SubI t h i l k)(e:af9 b h h')(n:i≠b):SubI t h' i l k:=by
 cases t
 .exact aaW.IsListIter.extBut (x) e n
 .exact aaW.IsTupleIter.extBut (x) e n
def SubI.obj{i:Addr}{k:Nat}(x:SubI t h i l k):∃o vs,h.get? i=some o/\o.data = .fields vs:=by
 cases t
 .obtain⟨o,e,_,d⟩:=(x);exact⟨o,_,e,d⟩
 .obtain⟨o,e,_,d⟩:=(x);exact⟨o,_,e,d⟩
def SubI.keep{i:Addr}{k:Nat}(x:SubI t h i l k)(e:∀o,h.get? i=some o->h'.get? i=some o):SubI t h' i l k:=by
 cases t
 .obtain⟨o,q,r⟩:=(x);exact⟨o,e o q,r⟩
 .obtain⟨o,q,r⟩:=(x);exact⟨o,e o q,r⟩
def SubS.keep(x:SubS t h l its)(e:∀o,h.get? l=some o->h'.get? l=some o):SubS t h' l its:=by
 cases t
 .obtain⟨o,q,r⟩:=(x);exact⟨o,e o q,r⟩
 .obtain⟨o,q,r⟩:=(x);exact⟨o,e o q,r⟩
def SubS.ext(x:SubS t h l its)(e:af9 b h h')(n:l≠b):SubS t h' l its:=x.keep λo q=>e l o n q
section
variable {prog:aaI}{w:World}{A:aa8}{E:Ad->GT->Prop}{s:GT}
theorem ol{Q:α->GT->Prop}(c:A.handled=none)(h:∀h' e,(∀b o,s.heap.get? b=some o->h'.get? b=some o)->(∃o,h'.get? e=some o/\o.cls = .type "StopIteration")->E (.ref e) {s with heap:=h' }) :
  wpAny (model prog w) A (do raiseNew (<- newExc (.type "StopIteration") []):Sem α) Q E s:=by
 refine gT ?_;refine gT ?_;refine abg ?_ (by size_fits);refine gT (wpAny_of_eq (a:=agC) (by rfl) (abg ?_ (by size_fits)));refine gT (m:=handled) (wpAny_handled ?_);rw[c];refine gT (LD (wpAny_throw (h _ _ (λb o q=>Ld _ (Ld _ q)) ⟨_,aao _ rfl,rfl⟩)))
def Uj(c:s.heap.IsTupleIter it l i)(h:Q (.ref l) s):wpAny (model prog w) A (field (.ref it) 0) Q E s:=let ⟨_,ho,_,hd⟩:=c;abG ho hd (x:=.ref l) rfl h
def Uw(c:s.heap.IsTupleIter it l i)(h:Q (.int i 0) s):wpAny (model prog w) A (field (.ref it) 1) Q E s:=let ⟨_,ho,_,hd⟩:=c;abG ho hd (x:=.int i 0) rfl h
def S9{Q:Option (Array Ad)->GT->Prop}(c:s.heap.IsTuple l items)(h:Q (some items) s):wpAny (model prog w) A (seqItems? (.ref l)) Q E s:=let ⟨_,ho,_,_,hd⟩:=c;acB ho hd h
theorem uU{Q:Option Ad->GT->Prop}(c:s.heap.IsTupleIter it l i)(r:s.heap.IsTuple l items)
  (v:∀x,items[i]?=some x->∀h',h'.IsTupleIter it l (i+1)->ab3 it s.heap h'->Q (some x) {s with heap:=h' })
  (d:items[i]?=none->A.handled=none/\∀h' e,af9 it s.heap h'->(∃o,h'.get? e=some o/\o.cls = .type "StopIteration")->E (.ref e) {s with heap:=h' }) :
  wpAny (model prog w) A (callSpecial? (.ref it) "__next__" []) Q E s:=by
 refine aa9 (name:=aci "__next__") c.typeIs aeV (abk aeV c.typeIs F.entry_tuple_iterator_next ?_ (F.args_tuple_iterator_next_1 _))
 wp_walk using Uj c,Uw c,S9 r
 rcases id c with⟨o,g,u,hd⟩;rw[abc]
 cases q:items[i]? with
 | some x=>
  have new:(s.heap.update it (Obj.mapFields (·.setIfInBounds 1 (aeW ((i:Int)+1))))).IsTupleIter it l (i+1):=by
   refine⟨_,ada _ g (Obj.isFreed_of_fields (agH hd _)),?_,?_⟩
   .exact(Obj.cls_mapFields ..).trans u
   .rw[agH hd];simp[aeW]
  exact gT (m:=adG (.ref it) 1 _) (wpAny_setField g hd (by simp) (LD ⟨x,rfl,v x q _ new (agp ..)⟩))
 |none=>
  let⟨p,d⟩:=d q;refine gT (m:=rule _) (abL (gT (m:=adG (.ref it) 0 _) (wpAny_setField g hd (by simp) ?_)));exact ol (A:=A.in1) p λh' e k x=>d h' e (λb j nb z=>k b j ((agp ..).extBut b j nb z)) x
theorem pq{x:Ad}(c:SubI t s.heap it l i)(j:SubS t s.heap l items)(d:items[i]?=some x)
  (e:∀h',SubI t h' it l (i+1)->ab3 it s.heap h'->Q x {s with heap:=h' }):wpAny (model prog w) A (abK (.ref it)) Q E s:=by
 cases t with
 |false=>exact wpAny_nextOf_list_item (c) (j) d e
 |true=>exact gT (uU (c) (j) (λy g h' a b=>by rw[d]at g;cases g;exact LD (e h' a b)) λk=>by rw[d]at k;cases k)
theorem ze(g:A.handled=none)(c:SubI t s.heap it l i)(m:SubS t s.heap l items)(k:items[i]?=none)
  (d:∀h' e,af9 it s.heap h'->(∃o,h'.get? e=some o/\o.cls = .type "StopIteration")->E (.ref e) {s with heap:=h' }):wpAny (model prog w) A (abK (.ref it)) Q E s:=by
 cases t with
 |false=>exact wpAny_nextOf_list_end g (c) (m) k d
 |true=>exact gT (uU (c) (m) (λy j=>by rw[k]at j;cases j) λ_=>⟨g,d⟩)
structure Apart(z TI TO i1 i2 l1 l2:Addr):Prop where
 d:[z,TI,TO,i1,i2].Nodup
 m1:l1∉[z,TI,TO,i1,i2]
 m2:l2∉[z,TI,TO,i1,i2]
def Apart.old{TI TO:Addr}(D:Apart z TI TO i1 i2 l1 l2):ZipApart z TI TO i1 i2 l1 l2:=by
 let⟨d,m1,m2⟩:=D;simp at d m1 m2;let⟨⟨a1,a2,g,j⟩,⟨b1,b2,e⟩,⟨k,c⟩,d1⟩:=d;exact⟨ab0 a1,ab0 a2,ab0 g,ab0 j,b1,b2,e,k,c,d1,m1.1,m1.2.2.1,m1.2.2.2.1,m1.2.2.2.2,m2.1,m2.2.2.1,m2.2.2.2.1,m2.2.2.2.2⟩
structure CF(t1 t2:Bool)(z TI TO i1 i2 l1 l2:Addr)(k:Nat)(h:aaW):Prop where
 z:IsZip h z TI TO .none
 ti:afl h TI (.ref i1) (.ref i2)
 to:∃a b,afl h TO a b
 s1:SubI t1 h i1 l1 k
 s2:SubI t2 h i2 l2 k
def zf0{TI TO:Addr}(c:IsZip s.heap z TI TO f)(h:Q f s):wpAny (model prog w) A (field (.ref z) 0) Q E s:=abG c rfl (x:=f) rfl h
def zf2{TI TO:Addr}(c:IsZip s.heap z TI TO f)(h:Q (.bool false) s):wpAny (model prog w) A (field (.ref z) 2) Q E s:=abG c rfl (x:=.bool false) rfl h
def zf3{TI TO:Addr}(c:IsZip s.heap z TI TO f)(h:Q (.ref TI) s):wpAny (model prog w) A (field (.ref z) 3) Q E s:=abG c rfl (x:=.ref TI) rfl h
theorem DA{TI TO:Addr}{k:Nat}{x y:Ad}{Q:Option Ad->GT->Prop}(D0:Apart z TI TO i1 i2 l1 l2)(Z:CF t1 t2 z TI TO i1 i2 l1 l2 k s.heap)
  (U:SubS t1 s.heap l1 xs) (Y:SubS t2 s.heap l2 ys) (hx:xs[k]?=some x) (hy:ys[k]?=some y)
  (hQ:∀h',IsZip h' z TI TO (aeW s.heap.objs.size)->afl h' TO x y->SubI t1 h' i1 l1 (k+1)->SubI t2 h' i2 l2 (k+1)->afl h' s.heap.objs.size x y->h'.objs.size=s.heap.objs.size+1 ->
   (∀c o,c∉[z,TO,i1,i2]->s.heap.get? c=some o->h'.get? c=some o)->Q (some (.ref s.heap.objs.size)) {s with heap:=h' }):wpAny (model prog w) A (acR (.ref z)) Q E s:=by
 have D:=D0.old;let⟨I,hTI,⟨a,b,hTO⟩,h1,h2⟩:=Z;have hT:s.TypeIs (.ref z) "zip":=(⟨_,I,rfl⟩);unfold acR;refine gT (ac7 (aa9 (name:=aci "__next__") hT aex (abk aex hT F.entry_zip_next ?_ (F.args_zip_next_1 _))));refine gT (m:=field (.ref z) 2) (zf2 I (gT (m:=field (.ref z) 3) (zf3 I (gT (acB hTI rfl ?_)))));refine gT (m:=adH (.ref z)) (gT (m:=field (.ref z) 0) (zf0 I (LD ?_)));simp only[if_true];refine gT (abL (gT (abG I rfl (x:=.ref TO) rfl (gT (aaX I (by simp) λg1 B s1=>?_)))));replace B:IsZip g1 z TI TO .ellipsis:=B;refine gT ?_;simp only[afT,List.forIn_nil,ag8,List.zipIdx_nil];refine gT (gT (afm (gT (m:=abK (.ref i1)) ?_)));refine(pq (h1.ext s1.extBut D.i1z) (U.ext s1.extBut D.l1z) hx λg2 n1 s2=>LD ?_);have u:afl g2 TO a b:=s2.extBut _ _ D.TOi1 (s1.extBut _ _ D.TOz hTO);refine gT (acB u rfl (gT (aeq u λg3 j G=>?_)));replace j:afl g3 TO x b:=j;refine gT (aga (LD (gT (gT (afm ?_)))));refine gT (m:=abK (.ref i2)) (pq (((h2.ext s1.extBut D.i2z).ext s2.extBut D.i12.symm).ext G.extBut D.TOi2.symm) (((Y.ext s1.extBut D.l2z).ext s2.extBut D.l2i1).ext G.extBut D.l2TO) hy λg4 n2 M=>LD ?_);have v:afl g4 TO x b:=M.extBut _ _ D.TOi2 j;refine gT (acB v rfl (gT (aeq v λg d R=>?_)));replace d:afl g TO x y:=d;refine gT (aga (LD (LD (gT (acB d rfl (gT (agb ?_)))))));have P:g.objs.size=s.heap.objs.size:=by rw[R.1,M.1,G.1,s2.1,s1.1]
 have O:IsZip g z TI TO .ellipsis:=R.extBut _ _ D.TOz.symm (M.extBut _ _ D.i2z.symm (G.extBut _ _ D.TOz.symm (s2.extBut _ _ D.i1z.symm B)));have k5:∀c o,c∉[z,TO,i1,i2]->s.heap.get? c=some o->g.get? c=some o:=λc o p e=>by
  simp only[aak,abZ,not_or,or_false]at p;exact R.extBut _ _ p.2.1 (M.extBut _ _ p.2.2.2 (G.extBut _ _ p.2.1 (s2.extBut _ _ p.2.2.1 (s1.extBut _ _ p.1 e))))
 have n15:SubI t1 g i1 l1 (k+1):=((n1.ext G.extBut D.TOi1.symm).ext M.extBut D.i12).ext R.extBut D.TOi1.symm;have V:SubI t2 g i2 l2 (k+1):=n2.ext R.extBut D.TOi2.symm;have L:z<g.objs.size:=aap O;refine gT (m:=adm.SmallTypes.ownedTupleHandOut (.ref z) (.ref g.objs.size)) ?_;have hz6:IsZip (g.push {cls:=.type "tuple",data:=.seq #[x,y]}) z TI TO .ellipsis:=Ld _ O;refine gT (m:=adG (.ref z) 0 _) (aaX hz6 (by simp) λg7 C s7=>?_);replace C:IsZip g7 z TI TO (aeW g.objs.size):=C;refine aaX C (by simp) λJ r T=>?_;replace r:IsZip J z TI TO (aeW g.objs.size):=r;have S:∀c o,c≠z->g.get? c=some o->J.get? c=some o:=λc o c1 e=>T.extBut _ _ c1 (s7.extBut _ _ c1 (Ld _ e));have N:afl J g.objs.size x y:=T.extBut _ _ (abx L) (s7.extBut _ _ (abx L) (aao _ rfl));have z8:J.objs.size=g.objs.size+1:=by rw[T.1,s7.1,abE]
 rw[P]at r N z8;have W:wpAny (model prog w) A (pure (some (abw g.objs.size))) Q E {s with heap:=J}:=by
  rw[P];exact LD (hQ J r (S _ _ D.TOz d) (n15.keep λo e=>S _ o D.i1z e) (V.keep λo e=>S _ o D.i2z e) N z8 λc o p e=>S c o (λq=>p (by simp[q])) (k5 c o p e))
 exact LD ⟨_,rfl,W⟩
theorem JH{TI TO:Addr}{k:Nat}{Q:Option Ad->GT->Prop}(V:A.handled=none)(D0:Apart z TI TO i1 i2 l1 l2)(Z:CF t1 t2 z TI TO i1 i2 l1 l2 k s.heap)
  (C:SubS t1 s.heap l1 xs) (O:SubS t2 s.heap l2 ys) (J:xs[k]?=none\/ys[k]?=none)
  (hQ:∀h',(∀c o,c∉[z,TO,i1,i2]->s.heap.get? c=some o->h'.get? c=some o)->Q none {s with heap:=h' }):wpAny (model prog w) A (acR (.ref z)) Q E s:=by
 have D:=D0.old;let⟨y,P,⟨a,b,S⟩,h1,h2⟩:=Z;have hT:s.TypeIs (.ref z) "zip":=(⟨_,y,rfl⟩);have out:∀{c:Addr},c∉[z,TO,i1,i2]->c≠z/\c≠TO/\c≠i1/\c≠i2:=λu=>by simpa only[aak,abZ,not_or,or_false]using u
 have G:∀h' e,(∀c o,c∉[z,TO,i1,i2]->s.heap.get? c=some o->h'.get? c=some o)->(∃o,h'.get? e=some o/\o.cls = .type "StopIteration") ->
   wpAny (model prog w) A (do if <- isInstance (.ref e) (.type "StopIteration")then pure none else throw (.ref e):Sem (Option Ad)) Q E {s with heap:=h' }:=λh' e hk ⟨o,ho,u⟩=>
  gT (ado (T:= "StopIteration") (b:=true) ⟨o,ho,u⟩ agc (LD (hQ _ hk)))
 unfold acR;refine gT (ac7 (aa9 (name:=aci "__next__") hT aex (abk aex hT F.entry_zip_next ?_ (F.args_zip_next_1 _))));refine gT (m:=field (.ref z) 2) (zf2 y (gT (m:=field (.ref z) 3) (zf3 y (gT (acB P rfl ?_)))));refine gT (m:=adH (.ref z)) (gT (m:=field (.ref z) 0) (zf0 y (LD ?_)));simp only[if_true];refine gT (abL (gT (abG y rfl (x:=.ref TO) rfl (gT (aaX y (by simp) λg1 j s1=>?_)))));replace j:IsZip g1 z TI TO .ellipsis:=j;refine gT ?_;simp only[afT,List.forIn_nil,ag8,List.zipIdx_nil];refine gT (gT (afm (gT (m:=abK (.ref i1)) ?_)))
 cases hx:xs[k]? with
 |none=>
  refine(ze V (h1.ext s1.extBut D.i1z) (C.ext s1.extBut D.l1z) hx λM e s2 N=>?_);let⟨U,d,g⟩:=N;have B:IsZip M z TI TO .ellipsis:=s2 _ _ D.i1z.symm j;have v:e≠z:=λq=>by subst q;rw[B]at d;cases d;simp at g
  refine aaX B (by simp) λg3 _ r=>G g3 e (λc o u q=>?_) ⟨U,r.extBut _ _ v d,g⟩;let⟨I,_,R,_⟩:=out u;exact r.extBut _ _ I (s2 _ _ R (s1.extBut _ _ I q))
 |some x=>
  have hy:ys[k]?=none:=by rcases J with q|q;rw[hx]at q;cases q;exact q
  refine(pq (h1.ext s1.extBut D.i1z) (C.ext s1.extBut D.l1z) hx λM n1 s2=>LD ?_);have p:afl M TO a b:=s2.extBut _ _ D.TOi1 (s1.extBut _ _ D.TOz S);refine gT (acB p rfl (gT (aeq p λg3 Y r=>?_)));refine gT (aga (LD (gT (gT (afm ?_)))));refine gT (m:=abK (.ref i2)) (ze V (((h2.ext s1.extBut D.i2z).ext s2.extBut D.i12.symm).ext r.extBut D.TOi2.symm) (((O.ext s1.extBut D.l2z).ext s2.extBut D.l2i1).ext r.extBut D.l2TO) hy λg4 e W N=>?_);let⟨U,d,g⟩:=N;have L:IsZip g4 z TI TO .ellipsis:=W _ _ D.i2z.symm (r.extBut _ _ D.TOz.symm (s2.extBut _ _ D.i1z.symm j));have v:e≠z:=λq=>by subst q;rw[L]at d;cases d;simp at g
  refine aaX L (by simp) λg5 _ s5=>G g5 e (λc o u q=>?_) ⟨U,s5.extBut _ _ v d,g⟩;let⟨I,c2,R,c4⟩:=out u;exact s5.extBut _ _ I (W _ _ c4 (r.extBut _ _ c2 (s2.extBut _ _ R (s1.extBut _ _ I q))))
end
def zit(t:Bool):String:=if t then "tuple_iterator" else "list_iterator"
abbrev itO(t:Bool)(l:Addr):Obj:={cls:=.type (zit t),data:=.fields #[.ref l,.int 0 0]}
abbrev zA(t1:Bool)(h:aaW)(l1:Addr):aaW:=h.push (itO t1 l1)
abbrev zB(t1 t2:Bool)(h:aaW)(l1 l2:Addr):aaW:=(zA t1 h l1).push (itO t2 l2)
abbrev zC(t1 t2:Bool)(h:aaW)(l1 l2:Addr):aaW:=(zB t1 t2 h l1 l2).push {cls:=.type "tuple",data:=.seq #[.ref h.objs.size,.ref (zA t1 h l1).objs.size]}
abbrev zD(t1 t2:Bool)(h:aaW)(l1 l2:Addr):aaW:=(zC t1 t2 h l1 l2).push {cls:=.type "tuple",data:=.seq #[.none,.none]}
abbrev zE(t1 t2:Bool)(h:aaW)(l1 l2:Addr):aaW:=(zD t1 t2 h l1 l2).push {cls:=.type "zip",data:=.fields #[.none,.bool false,.bool false,.ref (zB t1 t2 h l1 l2).objs.size,.ref (zC t1 t2 h l1 l2).objs.size]}
def jj{prog:aaI}{w:World}{A:aa8}{E:Ad->GT->Prop}{s:GT}(h:SubS t s.heap l its)
  (c:Q (.ref s.heap.objs.size) {s with heap:=s.heap.push (itO t l)}):wpAny (model prog w) A (afF (.ref l)) Q E s:=by
 cases t
 .exact wpAny_pyIter_list (h) c
 .exact wpAny_pyIter_tuple (h) c
theorem GQ(t1 t2:Bool)(l1 l2:Addr)(xs ys:Array Ad) :
  Meets (adm.«zip.__new__» ⟨[.type "zip",.ref l1,.ref l2],[]⟩) (λ_ R s=>SubS t1 s.heap l1 xs/\SubS t2 s.heap l2 ys/\R (.ok (.ret (.ref (zD t1 t2 s.heap l1 l2).objs.size))) {s with heap:=zE t1 t2 s.heap l1 l2}):=
 .of_wp λprog w A R s h=>by
  rcases s with⟨q,g,d,r,os⟩;rcases h with⟨j,k,h⟩;have p:=sub_zip;have m:=j;have c:SubS t2 (Shared.heap ⟨q.push (itO t1 l1),g,d,r,os⟩) l2 ys:=k.keep λo e=>Ld _ e
  wp_walk using jj m,jj c
  exact⟨_,rfl,h⟩
section
variable {prog:aaI}{w:World}{A:aa8}{E:Ad->GT->Prop}{s:GT}
theorem Bu(m:SubS t1 s.heap l1 xs)(p:SubS t2 s.heap l2 ys)
  (h:∀h',CF t1 t2 (s.heap.objs.size+4) (s.heap.objs.size+2) (s.heap.objs.size+3) s.heap.objs.size (s.heap.objs.size+1) l1 l2 0 h'->(∀c o,s.heap.get? c=some o->h'.get? c=some o)->Q (.ref (s.heap.objs.size+4)) {s with heap:=h' }):wpAny (model prog w) A (call (.type "zip") [.ref l1,.ref l2]) Q E s:=by
 refine callType_new F.called_zip (by decide) (F.typeCall_zip_2 _ _) (F.newCall_zip_2 _ _) (λobj=>F.args_object_init_3 obj _ _) F.entry_zip_new (GQ t1 t2 l1 l2 xs ys) ⟨m,p,?_⟩;have q:(zA t1 s.heap l1).objs.size=s.heap.objs.size+1:=abE ..;have v:(zB t1 t2 s.heap l1 l2).objs.size=s.heap.objs.size+2:=by rw[abE,q]
 have r:(zC t1 t2 s.heap l1 l2).objs.size=s.heap.objs.size+3:=by rw[abE,v]
 have B:(zD t1 t2 s.heap l1 l2).objs.size=s.heap.objs.size+4:=by rw[abE,r]
 have d:∀c o,(zD t1 t2 s.heap l1 l2).get? c=some o->(zE t1 t2 s.heap l1 l2).get? c=some o:=λc o e=>Ld _ e;have j:∀c o,(zC t1 t2 s.heap l1 l2).get? c=some o->(zE t1 t2 s.heap l1 l2).get? c=some o:=λc o e=>d c o (Ld _ e);have u:∀c o,(zB t1 t2 s.heap l1 l2).get? c=some o->(zE t1 t2 s.heap l1 l2).get? c=some o:=λc o e=>j c o (Ld _ e);have g:∀c o,(zA t1 s.heap l1).get? c=some o->(zE t1 t2 s.heap l1 l2).get? c=some o:=λc o e=>u c o (Ld _ e);have y:(zE t1 t2 s.heap l1 l2).get? (s.heap.objs.size+4)=some {cls:=.type "zip",data:=.fields #[.none,.bool false,.bool false,.ref (s.heap.objs.size+2),.ref (s.heap.objs.size+3)]}:=by
  rw[<-B,<-r,<-v];exact aao _ rfl
 have G:(zE t1 t2 s.heap l1 l2).get? (s.heap.objs.size+3)=some {cls:=.type "tuple",data:=.seq #[.none,.none]}:=by
  rw[<-r];exact d _ _ (aao _ rfl)
 have D:(zE t1 t2 s.heap l1 l2).get? (s.heap.objs.size+2)=some {cls:=.type "tuple",data:=.seq #[.ref s.heap.objs.size,.ref (s.heap.objs.size+1)]}:=by
  rw[<-v,<-q];exact j _ _ (aao _ rfl)
 have C:(zE t1 t2 s.heap l1 l2).get? (s.heap.objs.size+1)=some (itO t2 l2):=by
  rw[<-q];exact u _ _ (aao _ rfl)
 have I:(zE t1 t2 s.heap l1 l2).get? s.heap.objs.size=some (itO t1 l1):=g _ _ (aao _ rfl);have k:∀{t:Bool}{i l:Addr},(zE t1 t2 s.heap l1 l2).get? i=some (itO t l)->SubI t (zE t1 t2 s.heap l1 l2) i l 0:=λ{t i l} e=>by
  cases t
  .exact⟨_,e,rfl,rfl⟩
  .exact⟨_,e,rfl,rfl⟩
 show _/\_;rw[B];exact⟨⟨_,y,rfl⟩,h _ ⟨y,D,⟨_,_,G⟩,k I,k C⟩ λc o x=>g c o (Ld _ x)⟩
end
theorem yC{l1 l2:Nat}(c:l1<n)(e:l2<n):Apart (n+4) (n+2) (n+3) n (n+1) l1 l2 where
 d:=by
  simp
 m1:=by
  grind
 m2:=by
  grind
def SqB(t:Bool)(K:aaf)(H:Hp)(a:Addr)(xs:List V):Prop:=if t then SqT K H a xs else SqL K H a xs
def Itz(t1 t2:Bool)(K:aaf)(a b:Addr):It where
 go:=λi H=>∃xs ys x y,SqB t1 K H a xs/\SqB t2 K H b ys/\xs[i]?=some x/\ys[i]?=some y
 yld:=λi H v c=>∃T x y,v = .ref T/\H T=none/\c=upd H T (.tup [x,y])/\(∀xs,SqB t1 K H a xs->xs[i]?=some x)/\∀ys,SqB t2 K H b ys->ys[i]?=some y
 stop:=λi H=>∃xs ys,SqB t1 K H a xs/\SqB t2 K H b ys/\(xs.length≤i\/ys.length≤i)
theorem Inv.sqb{s:GT}{xs:List V}(I:Inv X pins σ H s)(h:SqB t X.kx H a xs):∃its:List Ad,Vals xs its/\SubS t s.heap a its.toArray/\xs.length≤aaj:=by
 cases t
 .obtain⟨its,r,p,z⟩:=I.list (h);exact⟨its,r,p.isList,z⟩
 .obtain⟨its,r,p,z⟩:=I.tuple (h);exact⟨its,r,p,z⟩
def Inv.sqb_inj{s:GT}{xs ys:List V}(I:Inv X pins σ H s)(h:SqB t X.kx H a xs)(h':SqB t X.kx H a ys):xs=ys:=by
 cases t
 .exact I.list_inj (h) (h')
 .exact I.tuple_inj (h) (h')
theorem DM{P:aaI}{w:World}{K:aaf}{x1:Nat}{pos:Pos}{TI TO:Addr}(D:Apart z TI TO i1 i2 a b):Turn P w K (.Tuple elts x1 pos) (Itz t1 t2 K a b) [z,TI,TO,i1,i2] z (λi h=>CF t1 t2 z TI TO i1 i2 a b i h) where
 mem:=by simp
 obj:=λi h j c g=>by
  let⟨A,m,⟨u,v,p⟩,O,r⟩:=j;simp only[aak,abZ,or_false]at g;rcases g with rfl|rfl|rfl|rfl|rfl
  .exact⟨_,A,λv q=>by cases q⟩
  .exact⟨_,m,λv q=>by cases q⟩
  .exact⟨_,p,λv q=>by cases q⟩
  .obtain⟨o,vs,e,d⟩:=O.obj;exact⟨o,e,λv q=>by rw[d]at q;cases q⟩
  .obtain⟨o,vs,e,d⟩:=r.obj;exact⟨o,e,λv q=>by rw[d]at q;cases q⟩
 keep:=λi h h' j k=>by
  let⟨A,m,⟨u,v,p⟩,O,r⟩:=j;exact⟨k z (by simp) _ A,k TI (by simp) _ m,⟨u,v,k TO (by simp) _ p⟩,O.keep λo e=>k i1 (by simp) o e,r.keep λo e=>k i2 (by simp) o e⟩
 item:=by
  intro X Y V hK g i pins s σ H E I T j hg;subst Y V hK;let⟨xs,ys,x,y,B,C,hx,hy⟩:=hg;let⟨M,J,p1,_⟩:=I.sqb B;let⟨N,G,U,_⟩:=I.sqb C;let⟨S,e1,W⟩:=J.get hx;let⟨R,e2,ru2⟩:=G.get hy;refine DA D j p1 U (x:=S) (y:=R) (by simpa using e1) (by simpa using e2) λh' a1 a2 a3 a4 a5 a6 a7=>⟨.ref s.heap.objs.size,rfl,?_⟩;refine wpAny_letOwnedTupleGo_zip (s:={s with heap:=h' }) a1 λr b1 sb=>?_;have hfT:H s.heap.objs.size=none:=I.hok.fresh (aab _);have Z:∀c∈[z,TI,TO,i1,i2],c<s.heap.objs.size:=λc g=>by
   let⟨A,m,⟨u,v,p⟩,O,r⟩:=j;simp only[aak,abZ,or_false]at g;rcases g with rfl|rfl|rfl|rfl|rfl
   .exact aap A
   .exact aap m
   .exact aap p
   .obtain⟨o,vs,e,d⟩:=O.obj;exact aap e
   .obtain⟨o,vs,e,d⟩:=r.obj;exact aap e
  have nz:∀c∈[z,TI,TO,i1,i2],c≠s.heap.objs.size:=λc g=>aa3 (Z c g);have F:=D.old;have L:∀c o,c≠z->h'.get? c=some o->r.get? c=some o:=λc o n e=>sb.extBut c o n e;have T2:afl r s.heap.objs.size S R:=L _ _ (ab0 (nz z (by simp))) a5;have I0:Inv X pins σ (upd H s.heap.objs.size (.tup [x,y])) {s with heap:=s.heap.push {cls:=.type "tuple",data:=.seq #[S,R]},toks:=s.toks}:=
   I.laid (o:=.tup [x,y]) (λc o e=>Ld _ e) (aab _) ⟨by show 2≤aaj;rw[aar];decide,[S,R],.cons W (.cons ru2 .nil),PlainT.new _ _⟩
  have Il:Inv X pins σ (upd H s.heap.objs.size (.tup [x,y])) {s with heap:=r,toks:=s.toks}:=by
   refine Inv.turneds (s:={s with heap:=s.heap.push {cls:=.type "tuple",data:=.seq #[S,R]},toks:=s.toks}) (h':=r) (t':=s.toks) (ch:=[z,TI,TO,i1,i2]) I0 (λc o g e=>?_) λc g=>?_
   .rcases aaW.get?_push_cases e with⟨rfl,rfl⟩|e
    .exact T2
    .exact L c o (λq=>g (by simp[q])) (a7 c o (λq=>g (by simp only[aak,abZ,or_false]at q⊢;rcases q with q|q|q|q<;>simp[q])) e)
   .obtain⟨f0,f1⟩:=T c g;exact⟨by rw[au (nz c g)];exact f0,f1⟩
  refine⟨.ref s.heap.objs.size,upd H s.heap.objs.size (.tup [x,y]),Il,rfl,⟨_,x,y,rfl,hfT,rfl,λzs A=>by rw[I.sqb_inj A B];exact hx,λzs A=>by rw[I.sqb_inj A C];exact hy⟩,⟨b1,L _ _ F.TIz (a7 _ _ (by simp only[aak,abZ,or_false,not_or];exact⟨F.TIz,F.TITO,F.TIi1,F.TIi2⟩) j.ti),⟨_,_,L _ _ F.TOz a2⟩,a3.keep λo e=>L _ o F.i1z e,a4.keep λo e=>L _ o F.i2z e⟩,λc g=>?_⟩;rw[au (nz c g)];exact(T c g).1
 done:=by
  intro X Y V hK g i pins s σ H E I T j hg;subst Y V hK;let⟨xs,ys,B,C,he⟩:=hg;let⟨M,J,p1,_⟩:=I.sqb B;let⟨N,G,U,_⟩:=I.sqb C;have l1:=J.length;have l2:=G.length;refine JH (I.ok.hd g) D j p1 U (by rcases he with q|q;(left;simp;omega);(right;simp;omega)) λh' hk=>⟨rfl,I.turneds (t':=s.toks) (ch:=[z,TI,TO,i1,i2]) (λc o g e=>hk c o (λq=>g (by simp only[aak,abZ,or_false]at q⊢;rcases q with q|q|q|q<;>simp[q])) e) T⟩
 self:=λ_ _ _ _ _ j h=>wpAny_pyIter_zip j.z h
section
variable {X:Cx}{j:List Expr}{B:Nat}{w:Pos}{a b:Expr}{A:WA}{p pos:Pos}
def iZip(K:aaf)(ta:TA):TI:=λσ H R=>ta σ H λvs c=>∃t1 t2 l1 l2,vs=[.ref l1,.ref l2]/\(∃xs,SqB t1 K c l1 xs)/\(∃ys,SqB t2 K c l2 ys)/\R (Itz t1 t2 K l1 l2) c
def Ix:abi "zip" = some (.type "zip"):=by rfl
theorem Md{ta:TA}(R:Gl X "zip")(O:X.mg "zip" = none)(N:PA X [a,b] ta)(L:aag [a,b] X.env=[(false,eval a X.env),(false,eval b X.env)]:=by first|exact(aI rfl).trans (congrArg _ (cE rfl))|rfl)(d:aag [b] X.env=[(false,eval b X.env)]:=by first|exact cE rfl|rfl):PI X (.Tuple j B w) (.Call (.Name "zip" p) [a,b] [] pos) (iZip X.K ta):=by
 intro pins s σ H S I h;refine Call_ (jE I R O Ix (ab1 (thn (N pos pins s σ H _ I h) λT s1 ⟨vs,C,m,r1,M⟩=>?_) (by rw[L,d]) (by rw[d];rfl)));let⟨t1,t2,l1,l2,e,⟨xs,J⟩,⟨ys,D⟩,q⟩:=M;subst e
 cases r1 with
 | cons r rr=>
  cases rr with
  | cons F rr=>
   cases rr;cases r;cases F;let⟨v,P,y,_⟩:=m.sqb J;let⟨x,E,u,_⟩:=m.sqb D;refine Bu y u λh' Z hk=>?_;refine wpAny_pyIter_zip Z.z ?_;have lt:∀{t:Bool}{l:Addr}{its:Array Ad},SubS t s1.heap l its->l<s1.heap.objs.size:=λ{t l its} p=>by
    cases t
    .obtain⟨o,e,_⟩:=(show s1.heap.IsList l its from p);exact aap e
    .obtain⟨o,e,_⟩:=(show s1.heap.IsTuple l its from p);exact aap e
   refine⟨s1.heap.objs.size+4,_,_,_,C,rfl,m.kept (t':=s1.toks) hk,DM (yC (lt y) (lt u)),Z,λc G=>?_,q⟩;have k:s1.heap.objs.size≤c:=by
    have g:=G;simp at g;rcases g with rfl|rfl|rfl|rfl|rfl<;>first|exact acx _ _|exact aab _
   exact m.fpOk k (m.hok.fresh k)
def imS:R->Option (Bool×List aD)
 | .imm (.tuple ds)=>some (true,ds)
 | .imm (.list ds)=>some (false,ds)
 |_=>none
def zipD(ds es:List aD):List aD:=(ds.zip es).map λp=>.tuple [p.1,p.2]
abbrev OY(A:WA):WI:=λm K=>A m λrs c=>match rs with|[r1,r2]=>∃t1 ds t2 es,imS r1=some (t1,ds)/\imS r2=some (t2,es)/\K ⟨zipD ds es,none⟩ c|_=>False
theorem FV{K:Kd}{α:Al}{d:Hp}{r:R}{v:V}(h:RelR K α d H r v)(e:imS r=some (t,ds)):∃l xs,v = .ref l/\DenAll K H ds xs/\(SqB t K H l xs)/\∀c,Pers H c->SqB t K c l xs:=by
 unfold imS at e
 split at e
 .cases e;let⟨l,xs,e,f,g⟩:=bV (h);exact⟨l,xs,e,g,f,λc p=>f.mono p⟩
 .cases e;have h':=h;let⟨l,xs,e,f,g⟩:=h';exact⟨l,xs,e,g,f.sq,λc p=>(f.mono p).sq⟩
 .cases e
def dt(ds es:List aD):(zipD ds es).length=min ds.length es.length:=by simp[zipD]
theorem Br{d e:aD}(c:ds[i]?=some d)(g:es[i]?=some e):(zipD ds es)[i]?=some (.tuple [d,e]):=by
 unfold zipD;rw[aae,(List.getElem?_zip_eq_some (z:=(d,e))).mpr ⟨c,g⟩];rfl
theorem wks_zip{K:Kd}:Wks K (Itz t1 t2 K l1 l2) (zipD ds es) λH=>∃xs ys,SqB t1 K H l1 xs/\SqB t2 K H l2 ys/\DenAll K H ds xs/\DenAll K H es ys where
 stop:=λH ⟨xs,ys,c,k,m,g⟩=>⟨xs,ys,c,k,by rw[dt,<-m.length,<-g.length];omega⟩
 go:=λi H hi ⟨xs,ys,c,k,m,g⟩=>by
  rw[dt]at hi;exact⟨xs,ys,xs[i]'(by rw[<-m.length];omega),ys[i]'(by rw[<-g.length];omega),c,k,iO _,iO _⟩
 yld:=λi H x G hi ⟨xs,ys,c,k,m,g⟩ y=>by
  let⟨T,u,v,rfl,hT,rfl,C,E⟩:=y;let⟨d,F,k1⟩:=m.get2 (C xs c);let⟨e,D,k2⟩:=g.get2 (E ys k);have r:∀b o,H b=some o->upd H T (.tup [u,v]) b=some o:=λb o q=>by rw[au (bq q hT)];exact q
  have s:Pers H _:=⟨λb xs q=>r b _ q,λb o u q=>r b _ q⟩;refine⟨r,_,Br F D,?_⟩;exact fv (SqT.of av) (DenAll.cons (k1.mono s) (DenAll.cons (k2.mono s) DenAll.nil))
theorem Mz(P:X.mg "zip" = none)(N:MA X [a,b] A)(T:Gl X "zip":=by rfl)(L:aag [a,b] X.env=[(false,eval a X.env),(false,eval b X.env)]:=by first|exact(aI rfl).trans (congrArg _ (cE rfl))|rfl)(o:aag [b] X.env=[(false,eval b X.env)]:=by first|exact cE rfl|rfl):MI X (.Tuple j B w) (.Call (.Name "zip" p) [a,b] [] pos) (OY A):=(Md T P N L o).wk<|by
 intro σ H W ⟨α,m,Y,I,G,q⟩;refine⟨α,m,_,I,G,λrs C vs O k n R rr F=>?_⟩
 cases rr with
 |nil=>exact k.elim
 |cons J rr=>
  cases rr with
  |nil=>exact k.elim
  |cons D rr=>
  cases rr with
  |cons _ _=>exact k.elim
  |nil=>
  let⟨t1,ds,t2,es,y,S,k⟩:=k;let⟨l1,xs,rfl,V,s,U⟩:=FV J y;let⟨l2,ys,rfl,M,v,E⟩:=FV D S;refine⟨t1,t2,l1,l2,rfl,⟨xs,s⟩,⟨ys,v⟩,q _ C _ O k n R F ⟨λH=>∃xs ys,SqB t1 X.kx H l1 xs/\SqB t2 X.kx H l2 ys/\DenAll X.kx H ds xs/\DenAll X.kx H es ys/\(∀e,Pers H e->SqB t1 X.kx e l1 xs)/\∀e,Pers H e->SqB t2 X.kx e l2 ys,wks_zip.imp<|by intro H ⟨xs,ys,a,b,c,d,_⟩;exact⟨xs,ys,a,b,c,d⟩,⟨xs,ys,s,v,V,M,U,E⟩,by intro Z r ⟨xs,ys,a,b,c,d,u,x⟩ g;exact⟨xs,ys,u r g,x r g,c.mono g,d.mono g,λe p=>u e (g.trans p),λe p=>x e (g.trans p)⟩⟩⟩
end
theorem ui{x:Nat}{c:Pos}{a b:Expr}{w:WA}{p pos:Pos}(e:X.mg "zip" = none)(j:EA X [a,b] w)(k:Gl X "zip":=by rfl)(g:aag [a,b] X.env=[(false,eval a X.env),(false,eval b X.env)]:=by first|exact(aI rfl).trans (congrArg _ (cE rfl))|rfl)(d:aag [b] X.env=[(false,eval b X.env)]:=by first|exact cE rfl|rfl):EI X (.Tuple elts x c) (.Call (.Name "zip" p) [a,b] [] pos) (OY w):=⟨Mz e j.h k g d⟩
def cJ{β:Type}{xs:List α}{x:α}(f:α->β)(h:xs[i]?=some x):(xs.take (i+1)).map f=(xs.take i).map f++[f x]:=by
 rw[aaO,h,aaH];rfl
theorem gmap{β:Type}{xs:List α}{y:β}{f:α->β}(h:(xs.map f)[i]?=some y):∃x,xs[i]?=some x/\y=f x/\i<xs.length:=by
 rw[aae]at h
 cases q:xs[i]? with
 |none=>rw[q]at h;cases h
 |some x=>rw[q]at h;exact⟨x,rfl,(aaB h).symm,(AD.mp q).1⟩
theorem dw{lo:Int}{d:aD}(h:(c7 lo n)[i]?=some d):i<n/\d = .int (lo+(i:Int)):=by
 have hi:=by
  have:=(AD.mp h).1;rwa[ba]at this
 rw[og hi]at h;exact⟨hi,(aaB h).symm⟩
def yY{k:Nat}{P:MSt->Prop}{m:MSt}(c:List Nat)(m2:MSt)(N:Ren c (m.setV n (.obj k)) m2)(h:P m2):sy n P m (.obj k):=.inr ⟨c,m2,N,h⟩
def RenO(c:List Nat)(o:Option R):Option R->Prop
 |none=>True
 |some r=>RenR c (some o) r
def RenVs(c:List Nat):List (Option R)->List (Option R)->Prop
 |o::os,q::qs=>RenO c o q/\RenVs c os qs
 |[],[]=>True
 |_,_=>False
theorem RenVs.len{c:List Nat}:∀{os q:List (Option R)},RenVs c os q->q.length=os.length
 |[],[],_=>rfl
 |_::_,_::_,h=>congrArg (· + 1) (RenVs.len h.2)
 |[],_::_,h=>h.elim
 |_::_,[],h=>h.elim
theorem RenVs.get{d:List Nat}:∀{os c:List (Option R)},RenVs d os c->∀(j:Nat) (r:R),c[j]?=some (some r)->RenR d os[j]? r
 |o::os,q::c,h,0,r,e=>by
  have g:=by simpa using e
  subst g;exact h.1
 |o::os,q::c,h,j+1,r,e=>by simpa using RenVs.get h.2 j r ‹_›
 |[],[],_,_,_,e=>by simp at e
 |[],_::_,h,_,_,_=>h.elim
 |_::_,[],h,_,_,_=>h.elim
def Ox{c:List Nat}{m m2:MSt}(nd:decide c.Nodup=true)(lt:(c.all λk=>Nat.blt k m.os.length)=true)(pre:c.take m.np=aat m.np)(npl:Nat.ble m.np c.length=true)(os:m2.os=c.map λk=>m.os.getD k [])(np:m2.np=m.np)(vs:RenVs c m.vs m2.vs):Ren c m m2:=
 ⟨of_decide_eq_true nd,λk hk=>Nat.blt_eq.mp (abr.mp lt k hk),pre,aed npl,os,np,vs.len,λj r e=>vs.get j r e⟩
def tx{d:aD}(h:(zipD ds es)[i]?=some d):∃a b,ds[i]?=some a/\es[i]?=some b/\d = .tuple [a,b]:=by
 let⟨p,c,rfl,_⟩:=gmap h;let⟨g,e⟩:=List.getElem?_zip_eq_some.mp c;exact⟨p.1,p.2,g,e,rfl⟩
end L2
namespace M3
def stepL(xs:List (List Nat))(r:Nat):List (List Nat):=xs.flatMap λa=>(aat (r+1)).map λk=>a++[k]
def allL(rs:List Nat):List (List Nat):=rs.foldl stepL [[]]
def allR:List Nat->List (List Nat)
 |[]=>[[]]
 |r::rs=>(aat (r+1)).flatMap λk=>(allR rs).map (k :: ·)
theorem qK:∀(rs:List Nat) (xs:List (List Nat)),rs.foldl stepL xs=xs.flatMap λa=>(allR rs).map (a++·)
 |[],xs=>by
  simp[allR]
 |r::rs,xs=>by
  rw[aeu,qK rs];simp only[stepL,allR,List.flatMap_assoc,List.map_flatMap,List.flatMap_map,aa4]
  congr 1
  funext a
  congr 1
  funext k
  congr 1
  funext l
  simp
def allL_eq(rs:List Nat):allL rs=allR rs:=by
 unfold allL;rw[qK];simp
theorem allR_len:∀{rs l:List Nat},l∈allR rs->l.length=rs.length
 |[],l,h=>by simp[allR]at h;subst h;rfl
 |r::rs,l,h=>by
  simp only[allR,ace,aal]at h;let⟨k,_,a,h,rfl⟩:=h;simp[allR_len h]
theorem stepL_length(xs:List (List Nat))(r:Nat):(stepL xs r).length=xs.length*(r+1):=by
 unfold stepL
 induction xs with
 |nil=>simp
 |cons a xs i=>
  grind
theorem vG:∀{rs:List Nat}{xs:List (List Nat)},(∀r∈rs,r≤6)->(rs.foldl stepL xs).length≤xs.length*7^rs.length
 |[],xs,_=>by simp
 |r::rs,xs,h=>by
  rw[aeu];refine aaD (vG λa b=>h a (aad _ b)) ?_;rw[stepL_length,aaw,Nat.pow_succ,Nat.mul_assoc,acY (7^rs.length)];refine Nat.mul_le_mul_left _ (adk _ ?_)
  simp_all
def fold_small{rs:List Nat}(a:rs.length≤4)(h:∀r∈rs,r≤6):(rs.foldl stepL [[]]).length≤2401:=by
 refine aaD (vG h) ?_;have:7^rs.length≤7^4:=Nat.pow_le_pow_right (by decide) a;simpa
def stepL_take{xs:List (List Nat)}{r j:Nat}{l:List Nat}(h:xs[j]?=some l):stepL (xs.take (j+1)) r=stepL (xs.take j) r++(aat (r+1)).map λy=>l++[y]:=by
 unfold stepL;rw[aaO,h];simp
end M3
set_option maxHeartbeats 4100000
namespace K
open PySem L2
variable{h:Hall}
def Cr:SpM:=λa K=>∃ns:List Int,a=[.imm (.list (ns.map .int))]/\ns.length≤63/\K (.imm (.bool true)) []
def frD(a b:Int):aD:=.tuple [.int a,.int b]
def QW:SpM:=λc K=>∃a b:Nat,c=[.imm (.int a),.imm (.int b)]/\a<1000000000/\0<b/\b<1000000000/\K (.imm (frD (a/a.gcd b:Nat) (b/a.gcd b:Nat))) []
structure Srv where
 a:Nat
 b:Nat
 r:Nat
def Srv.d(s:Srv):aD:=.tuple [.tuple [.int s.a,.int s.b],.int s.r]
structure Srv.Ok(s:Srv):Prop where
 a1:1≤s.a
 a2:s.a<1000000
 b1:1≤s.b
 b2:s.b<1000000
 r1:1≤s.r
 r6:s.r≤6
structure Hall where
 a:Nat
 b:Nat
 ss:List Srv
 mv:Bool
def Hall.d(h:Hall):aD:=.tuple [.tuple [.int h.a,.int h.b],.tuple (h.ss.map Srv.d),.bool h.mv]
structure Hall.Ok(h:Hall):Prop where
 a1:1≤h.a
 a2:h.a<1000000
 b1:1≤h.b
 b2:h.b<1000000
 n1:1≤h.ss.length
 n4:h.ss.length≤4
 ok:∀s∈h.ss,s.Ok
def Hall.rs(h:Hall):List Nat:=h.ss.map Srv.r
def Hall.rsl(h:Hall):h.rs.length=h.ss.length:=by simp[Hall.rs]
def Hall.Ok.r6(o:h.Ok):∀r∈h.rs,r≤6:=λr a=>by
 let⟨s,b,rfl⟩:=aal.mp a;exact(o.ok s b).r6
def Hall.rs_get{i:Nat}{s:Srv}(e:h.ss[i]?=some s):h.rs[i]?=some s.r:=by simp[Hall.rs,e]
def prD(p:Nat×Nat):aD:=.tuple [.int (p.1:Int),.int (p.2:Int)]
def natD(l:List Nat):List aD:=l.map λ(k:Nat)=>.int (k:Int)
def lnD(l:List Nat):aD:=.tuple (natD l)
def aH(l:List Nat):(natD l).length=l.length:=by simp[natD]
def bf{l:List Nat}{i x:Nat}(h:l[i]?=some x):(natD l)[i]?=some (.int (x:Int)):=by simp[natD,h]
def Cg(a b:List Nat):natD (a++b)=natD a++natD b:=by simp[natD]
inductive Rule where
 |random|turns|two|least|quick
 |told (ps:List Nat)
def Rule.word:Rule->Str
 | .random=> "random" | .turns=> "turns" | .two=> "two" | .least=> "least" | .quick=> "quick" | .told _=> "told"
def Rule.d:Rule->aD
 | .told p=>.tuple [.str "told",lnD p]
 |r=>.tuple [.str r.word]
def Rule.Ok(h:Hall):Rule->Prop
 | .told a=>a.length=(M3.allR h.rs).length/\∀p∈a,p<h.ss.length
 |_=>True
def Lines(h:Hall)(l:List Nat):Prop:=l.length=h.ss.length/\∀(i:Nat) s x,h.ss[i]?=some s->l[i]?=some x->x≤s.r
theorem Lines.le{l:List Nat}(o:h.Ok)(k:Lines h l):∀x∈l,x≤6:=λx c=>by
 let⟨i,b,rfl⟩:=abY.mp c;have a:i<h.ss.length:=by rw[<-k.1];exact b
 have:=k.2 i _ _ (iO a) (iO b);have:=(o.ok _ (acf a)).r6;exact aaD ‹_› ‹_›
end K
namespace M7
open M3
def placeF:Nat->List Nat->List Nat->Nat
 |acc,r::rs,x::l=>placeF (acc*(r+1)+x) rs l
 |acc,_,_=>acc
def cnt:List Nat->Nat
 |[]=>1
 |r::rs=>(r+1)*cnt rs
theorem allR_cnt:∀rs:List Nat,(allR rs).length=cnt rs
 |[]=>rfl
 | r::rs=>by
  have a:=allR_cnt rs;have:∀n:Nat,((aat n).flatMap λk=>(allR rs).map (k :: ·)).length=n*cnt rs:=by
   intro n
   induction n with
   |zero=>simp
   |succ n i=>rw[acH,adu,aam,i];simp[a,aeH]
  exact this _
theorem ji:∀{rs l:List Nat}{acc:Nat},l.length=rs.length->placeF acc rs l=acc*cnt rs+placeF 0 rs l
 |[],[],acc,_=>by simp[placeF,cnt]
 |r::rs,x::l,acc,h=>by
  have a:=by simpa using h
  simp only[placeF,cnt];rw[ji a,ji (acc:=0*_+x) a,Nat.add_mul,Nat.mul_assoc];simp[adI]
 |[],_::_,_,h=>by simp at h
 |_::_,[],_,h=>by simp at h
def ij{r x:Nat}{rs l:List Nat}(h:l.length=rs.length):placeF 0 (r::rs) (x::l)=x*cnt rs+placeF 0 rs l:=by
 simp only[placeF];rw[ji h];simp
theorem zL{N:Nat}(f:Nat->List (List Nat))(a:∀k,(f k).length=N):∀(n k j:Nat),k<n->j<N->((aat n).flatMap f)[k*N+j]?=(f k)[j]?
 |0,k,j,h,_=>by contradiction
 | n+1,k,j,h,hj=>by
  have b:((aat n).flatMap f).length=n*N:=by
   clear h hj
   induction n with
   |zero=>simp
   |succ n i=>rw[acH,adu,aam,i];simp[a,aeH]
  rw[acH,adu]
  by_cases hk:k<n
  .have:k*N+j<n*N:=by
    have:=adk N (show k+1≤n by assumption)
    grind
   rw[aaE (by omega),zL f a n k j hk hj]
  .have e:k=n:=by omega
   simp_all
def Fits:List Nat->List Nat->Prop
 |r::rs,x::l=>x≤r/\Fits rs l
 |[],[]=>True
 |_,_=>False
theorem Fits.len:∀{rs l:List Nat},Fits rs l->l.length=rs.length
 |[],[],_=>rfl
 |_::_,_::_,h=>congrArg (· + 1) h.2.len
 |[],_::_,h=>h.elim
 |_::_,[],h=>h.elim
theorem place_lt:∀{rs l:List Nat},Fits rs l->placeF 0 rs l<cnt rs
 |[],[],_=>by simp[placeF,cnt]
 |r::rs,x::l,h=>by
  rw[ij h.2.len,cnt];have:=place_lt h.2;have a:=adk (cnt rs) (by have:=h.1;omega)
  grind
 |[],_::_,h=>h.elim
 |_::_,[],h=>h.elim
theorem place_at:∀{rs l:List Nat},Fits rs l->(allR rs)[placeF 0 rs l]?=some l
 |[],[],_=>rfl
 |r::rs,x::l,h=>by
  rw[ij h.2.len];show((aat _).flatMap λk=>(allR rs).map _)[_]?=_;rw[zL _ (λk=>by rw[lD,allR_cnt]) _ x _ (by have:=h.1;omega) (place_lt h.2),aae,place_at h.2];rfl
 |[],_::_,h=>h.elim
 |_::_,[],h=>h.elim
theorem place_only:∀{rs:List Nat}{i:Nat}{l:List Nat},(allR rs)[i]?=some l->i=placeF 0 rs l
 |[],0,l,h=>by
  rfl
 |[],i+1,l,h=>by simp[allR]at h
 | r::rs,i,l,h=>by
  have b:=(AD.mp h).1;rw[allR_cnt,cnt]at b;have c:0<cnt rs:=Nat.pos_of_ne_zero λz=>by rw[z]at b;simp at b
  have hk:i/cnt rs<r+1:=Nat.div_lt_of_lt_mul (by rw[acY];exact b);have j:=agI i c;have e:i=i/cnt rs*cnt rs+i%cnt rs:=by rw[acY];exact(Nat.div_add_mod i (cnt rs)).symm
  have a:=zL (N:=cnt rs) (λk=>(allR rs).map (k :: ·)) (λk=>by rw[lD,allR_cnt]) (r+1) _ _ hk j;rw[<-e]at a;have d:((aat (r+1)).flatMap λk=>(allR rs).map (k :: ·))[i]?=some l:=h;rw[d,aae]at a
  cases q:(allR rs)[i%cnt rs]? with
  |none=>rw[q]at a;cases a
  |some f=>
   rw[q]at a;have:l=(i/cnt rs)::f:=aaB a;subst this;have m:=place_only q;have g:=allR_len (Io q);rw[ij g,<-m,acY];exact(Nat.div_add_mod i (cnt rs)).symm
def pick(lt:Nat->Nat->Bool):Nat->List Nat->Nat
 |b,[]=>b
 |b,k::ks=>pick lt (if lt k b then k else b) ks
def pick_self{lt:Nat->Nat->Bool}{k:Nat}{ks:List Nat}(h:lt k k=false):pick lt k (k::ks)=pick lt k ks:=by
 simp[pick,h]
theorem vm{lt:Nat->Nat->Bool}:∀{ks:List Nat}{b:Nat},pick lt b ks=b\/pick lt b ks∈ks
 |[],b=>.inl rfl
 | k::ks,b=>by
  simp only[pick];rcases vm with h|h
  .rw[h]
   by_cases q:lt k b=true
   .rw[if_pos q];exact .inr aac
   .rw[if_neg q];exact .inl rfl
  .exact .inr (aad _ h)
theorem pick_app{lt:Nat->Nat->Bool}:∀{ks:List Nat}{b k:Nat},pick lt b (ks++[k])=if lt k (pick lt b ks)then k else pick lt b ks
 |[],b,k=>rfl
 |j::ks,b,k=>by simp;exact pick_app
theorem placeF_take:∀{rs l:List Nat}{i acc r x:Nat},rs[i]?=some r->l[i]?=some x->placeF acc (rs.take (i+1)) (l.take (i+1))=placeF acc (rs.take i) (l.take i)*(r+1)+x
 |r0::rs,x0::l,0,acc,r,x,h1,h2=>by
  have e:=by simpa using h1
  have a:=by simpa using h2
  subst e a;rfl
 |r0::rs,x0::l,i+1,acc,r,x,h1,h2=>by
  simp;exact placeF_take ‹_› ‹_›
 |[],_,_,_,_,_,h1,_=>by simp at h1
 |_::_,[],_,_,_,_,_,h2=>by simp at h2
end M7
namespace K
open PySem L2 M7
variable{n:Nat}
def Hall.an(h:Hall)(k:Nat):Nat:=(h.ss.map Srv.a).getD k 0
def Hall.bn(h:Hall)(k:Nat):Nat:=(h.ss.map Srv.b).getD k 0
def bQ(l:List Nat)(k b:Nat):Bool:=decide (l.getD k 0<l.getD b 0)
def cc(h:Hall)(l:List Nat)(k b:Nat):Bool:=decide ((l.getD k 0+1)*h.bn k*h.an b<(l.getD b 0+1)*h.bn b*h.an k)
def sent(h:Hall)(r:Rule)(l:List Nat)(t:Nat)(o:List Nat):Nat:=match r with
 | .random=>o.headD 0
 | .turns=>t
 | .two=>pick (bQ l) (o.headD 0) (o.take 2)
 | .least=>pick (bQ l) (o.headD 0) o
 | .quick=>pick (cc h l) (o.headD 0) o
 | .told p=>p.getD (placeF 0 h.rs l) 0
structure Ord(n:Nat)(o:List Nat):Prop where
 ne:o≠[]
 lt:∀k∈o,k<n
 le:o.length≤4
theorem Lines.fits{h:Hall}{l:List Nat}(k:Lines h l):Fits h.rs l:=by
 let⟨k1,k2⟩:=k;unfold Hall.rs;generalize h.ss=ss at k1 k2
 induction ss generalizing l with
 |nil=>cases l with
  |nil=>trivial
  |cons _ _=>simp at k1
 |cons s ss a=>cases l with
  |nil=>simp at k1
  |cons x l=>exact⟨k2 0 s x rfl rfl,a (by simpa using k1) λi s x b e=>k2 (i+1) s x ‹_› ‹_›⟩
theorem getN{l:List Nat}{k:Nat}(h:l.length=n)(hk:k<n):l[k]?=some (l.getD k 0):=by simp_all
def Hall.srv{h:Hall}{k:Nat}(hk:k<h.ss.length):∃s,h.ss[k]?=some s/\h.an k=s.a/\h.bn k=s.b/\s∈h.ss:=by
 refine⟨h.ss[k],iO hk,?_,?_,acf hk⟩
 .exact bp (by rw[aae,iO hk];rfl)
 .exact bp (by rw[aae,iO hk];rfl)
def Gj:SpM:=λe K=>∃a b c d:Nat,e=[.imm (frD a b),.imm (frD c d)]/\a<1000000000000/\b<1000000000000/\c<1000000000000/\d<1000000000000/\K (.imm (.bool (decide (a*d<c*b)))) []
def Bm:SpM:=λa K=>∃(h:Hall) (l:List Nat),a=[.imm h.d,.imm (lnD l)]/\h.Ok/\Lines h l/\K (.imm (.int (placeF 0 h.rs l:Nat))) []
def m8:SpM:=λa K=>∃(l o:List Nat),a=[.imm (lnD l),.imm (lnD o)]/\Ord l.length o/\K (.imm (.int (pick (bQ l) (o.headD 0) o:Nat))) []
def Gn:SpM:=λa K=>∃(h:Hall) (l:List Nat) (k:Nat),a=[.imm h.d,.imm (lnD l),.imm (.int (k:Int))]/\h.Ok/\Lines h l/\k<h.ss.length/\K (.imm (frD ((l.getD k 0+1)*h.bn k:Nat) (h.an k:Nat))) []
def nq:SpM:=λa K=>∃(h:Hall) (l o:List Nat),a=[.imm h.d,.imm (lnD l),.imm (lnD o)]/\h.Ok/\Lines h l/\Ord h.ss.length o/\K (.imm (.int (pick (cc h l) (o.headD 0) o:Nat))) []
def stD(l:List Nat)(t:Nat):aD:=.tuple [lnD l,.int (t:Int)]
def u9:SpM:=λa K=>∃(h:Hall) (r:Rule) (l:List Nat) (t:Nat) (o:List Nat),a=[.imm h.d,.imm r.d,.imm (stD l t),.imm (lnD o)]/\h.Ok/\r.Ok h/\Lines h l/\Ord h.ss.length o/\K (.imm (.int (sent h r l t o:Nat))) []
theorem Ord.cons{o:List Nat}(h:Ord n o):∃k ks,o=k::ks/\k<n:=by
 cases o with
 |nil=>exact(h.ne rfl).elim
 |cons k ks=>exact⟨k,ks,rfl,h.lt k aac⟩
def kI{lt:Nat->Nat->Bool}{o:List Nat}(h:Ord n o)(i:Nat):pick lt (o.headD 0) (o.take i)<n:=by
 let⟨k,a,rfl,hk⟩:=h.cons;rcases vm with e|e
 .rw[e];exact hk
 .exact h.lt _ (abH e)
def Rule.tl:Rule->List aD
 | .told p=>[lnD p]
 |_=>[]
def Rule.dc(r:Rule):r.d = .tuple (.str r.word::r.tl):=by cases r<;>rfl
def J5{m:MSt}{K:R->Prop}{d x:aD}{ds:List aD}{i:Int}(e:d = .tuple ds)(h:atI ds i=some x)(k:K (.imm x)):oz (.imm d) (.imm (.int i)) m K:=by
 subst e;exact aP h k
end K
namespace L2
open PySem PySem.Spec PyProof.Rows
variable{items:Array Ad}{ns:List Int}{Kr:R->Prop}{ds:List aD}
def sf{prog:aaI}{w:World}{A:aa8}(t:Bool)(c:A.handled=none)(I a:Addr)(b:a≠I)(items:Array Ad):Walks prog w A I [I,a] [I] items.size (λi v=>items[i]?=some v) (λi h=>SubI t h I a i/\SubS t h a items):=by
 cases t
 .exact Walks.list c I a b items
 .exact Walks.tuple c I a b items
section
variable {prog:aaI}{w:World}{A:aa8}{E:Ad->GT->Prop}{s:GT}
def u8{t:Bool}{l:Addr}{Q:Ad->GT->Prop}(c:SubS t s.heap l items)
  (h:∀s2:GT,s2={s with heap:=s.heap.push (itO t l)}->(SubI t s2.heap s.heap.objs.size l 0/\SubS t s2.heap l items)->(∀b∈[s.heap.objs.size,l],b<s2.heap.objs.size)->l≠s.heap.objs.size->Q (.ref s.heap.objs.size) s2):wpAny (model prog w) A (afF (.ref l)) Q E s:=by
 have a:l<s.heap.objs.size:=by
  cases t
  .obtain⟨_,e,_⟩:=(c);exact aap e
  .obtain⟨_,e,_⟩:=(c);exact aap e
 refine jj c (h _ rfl ⟨?_,c.keep λo e=>Ld _ e⟩ (λb d=>?_) (aa3 a))
 .cases t
  .exact⟨_,aao _ rfl,rfl,rfl⟩
  .exact⟨_,aao _ rfl,rfl,rfl⟩
 .rw[abE];simp at d;rcases d with rfl|rfl
  .simp
  .exact ad4 a
def uA{t:Bool}{l:Addr}{h':aaW}(hk:∀b o,b∉[s.heap.objs.size]->(s.heap.push (itO t l)).get? b=some o->h'.get? b=some o):∀b o,s.heap.get? b=some o->h'.get? b=some o:=λb o e=>
 hk b o (λh=>absurd (aap e) (by rw[aah.mp h];exact acM _)) (Ld _ e)
def t7(h:aeF items.toList ns):∀(i:Nat) (v:Ad),items[i]?=some v->∃t,v = .int (ns.getD i 0) t:=λi v e=>h.int_at i v (by simpa)
end
section
variable {X:Cx}
def rMax(K:aaf):List V->Hp->VK->Prop:=λa H Q=>∃t l ns,a=[.ref l]/\SqB t K H l (ns.map V.int)/\ns≠[]/\∀x,x∈ns->(∀y∈ns,y≤x)->Q (.int x) H
def Dj{b:Nat}(c:b≤ns.length-1)(h:ns≠[]):ns.getD b 0∈ns:=by
 have a:b<ns.length:=by
  have:ns.length≠0:=λz=>h (abj z);omega
 rw[bp (iO a)];simp
theorem qw(B:X.calm=true):fe X (.builtin "max") (rMax X.K):=by
 intro p s G H F J Q I D ⟨t,l,ns,ex,k,d,q⟩;subst ex;let⟨u,rfl,o⟩:=D.one;cases o;let⟨a,r,m,_⟩:=I.sqb k;have f:=eF r;have w:a.length=ns.length:=by have:=r.length;rw[lD]at this;omega
 refine call_max_walk (u8 m λs2 e x c b=>?_);subst e;refine⟨s.heap.objs.size,[s.heap.objs.size,l],[s.heap.objs.size],a.toArray.size,λi v=>a.toArray[i]?=some v,λi h=>SubI t h s.heap.objs.size l i/\SubS t h l a.toArray,_,rfl,sf (A:=X.A.in1) t (I.ok.hd B) _ l b a.toArray,x,c,?_,CmpOf.ints_gt (λi=>ns.getD i 0) (t7 f),λv E g C hk=>?_⟩
 .grind
 .obtain⟨tt,rfl⟩:=t7 f _ v C;rw[aaG,w]at *;let⟨b1,b2⟩:=PySem.argBest_gt (λi=>ns.getD i 0) (ns.length-1);refine⟨.int _,H,I.kept (t':=g) (uA hk),⟨_,rfl⟩,q _ (Dj b1 d) λy n=>?_⟩;let⟨j,z,rfl⟩:=abY.mp n;have:=b2 j (by omega);rwa[bp (iO z)]at this
end
section
variable {X:Cx}
def PP:WC:=λrs m K=>on1 (λr=>∃ds ns,sqOf m r=some ds/\cU ds=some ns/\ns≠[]/\∀x,x∈ns->(∀y∈ns,y≤x)->K (.imm (.int x))) rs
theorem d8(j:X.calm=true):fe X (.builtin "max") (cM X.kx PP):=by
 intro p s b H t u Q I k ⟨A,m,w,z,rs,K,R,h,e,d⟩;let⟨r,v,rfl,rfl,i,ds,ns,l,o,c,e⟩:=e9 h e;let⟨a,y,rfl,f,g⟩:=i.seq R l;rw[gy o]at g;have q:=dB g;subst q;have go:=λx i n=>d _ _ H (e x i n) R (dM _) (Frm.refl _ _);rcases f with f|f
 .exact qw j p s b H _ u Q I k ⟨false,a,ns,rfl,f,c,go⟩
 .exact qw j p s b H _ u Q I k ⟨true,a,ns,rfl,f,c,go⟩
def qz{m:MSt}{r:R}(b:sqOf m r=some ds)(e:cU ds=some ns)(a:ns≠[])(h:∀x,x∈ns->(∀y∈ns,y≤x)->Kr (.imm (.int x))):PP [r] m Kr:=⟨ds,ns,b,e,a,h⟩
end
open SeqAt in
open AutoSeq1 (wpAny_loadPart') in
def ut(l:Addr)(items:Array Ad)(n:Nat)(r:Option Addr)(sl:Array (Option Ad))(x:Ad)(e:Ad->Bool)(j:Nat)(F:j<items.size)(o:e items[j]=true)(k:∀m (E:m<items.size),m<j->e items[m]=false) :
  Meets (adm.«tuple.index» ⟨[.ref l,x],[]⟩)
   (λA R s=>s.heap.get? l=some {cls:=.type "tuple",dict:=r,data:=.seq items n,slots:=sl}/\(∀y,y∈items->EqAt A.in1 s y x (e y))/\R (.ok (.ret (.int j s.toks))) {s with toks:=s.toks+1}):=
 .of_wp λprog w A R s h=>by
  rcases s with⟨v,g,d,C,os⟩;rcases h with⟨u,t,h⟩
  (wp_walk using aey u)
  refine(show wpAny (model prog w) A.in1 (forIn ([:min items.size items.size]:Std.Legacy.Range) _ _) _ _ _ from ?_);simp only[Std.Legacy.Range.forIn_eq_forIn_range'];have D:af8 (0:Nat) (min items.size items.size) 1=af8 0 items.size 1:=by rw[agX]
  refine aeg _ (λrest (b:Option _×Unit) q=>b.1=none/\q=⟨v,g,d,C,os⟩/\∃i,i≤j/\rest=af8 i (items.size-i) 1) _ ?turn ?fin _ _ ?start
  case turn=>
   intro i rest b q ⟨B,rfl,c,hi0,f⟩;have a:c<items.size:=by omega
   have z:items.size-c=(items.size-(c+1))+1:=by omega
   rw[z,ag6]at f;cases f;rw[show items[i]?=some items[i]from aca a];refine gT (t items[i] (Array.getElem_mem a) prog w _ _ ?_)
   by_cases p:i=j
   .subst p;rw[o]
    wp_walk
    exact⟨_,rfl,h⟩
   .rw[k i a (by omega)]
    wp_walk
    exact⟨rfl,rfl,i+1,by omega,rfl⟩
  case fin=>
   intro⟨b1,b2⟩ q ⟨B,rfl,c,hi0,f⟩;have:=congrArg adh f;simp at this;omega
  case start=>
   refine⟨rfl,rfl,0,abF _,?_⟩;simp[Std.Legacy.Range.size]
section
variable {X:Cx}{o e:Expr}{b:List Expr}{w:WE}{p:WA}{l c:Pos}
abbrev wMT(a:WM)(w:WE)(p:WA):WE:=λm K=>w m λr m1=>(∃ds,r = .imm (.tuple ds))/\p m1 λrs m2=>a r rs m2 K
theorem Rz{name:Str}{id:String}{C:WM}(slot:Slot "tuple" name id)(u:typeOf (.builtin id)=pure (.type "method_descriptor"))(M:MtM X id (mM X.kx C))(S:ME X o w)(J:MA X (e::b) p)
  (d:abQ o name X.env (eval o X.env)=eval o X.env:=by rfl)
  (j:((abD c (aag (e::b) X.env)).all (λx=>!x.1)&&(adB c (acw [] X.env)).all (λx=>x.1.isSome)
   && decide ((e::b).length+([]:List aeG).length+(if ([]:List aeG).isEmpty then 0 else 1)<30))=true:=by rfl)
  (i:(l.endLine==c.line)=true:=by rfl) (T:aag (e::b) X.env=(false,eval e X.env)::aag b X.env:=by first|exact aI rfl|rfl) (h:(abD c (aag b X.env)).any (·.1)=false:=by rfl) :
  ME X (.Call (.Attribute o name l) (e::b) [] c) (wMT C w p):=(Lh PySem.F.plainAttrs_tuple slot u M S J d j i T h).wk<|by
 intro O H Q ⟨B,m,P,E,N,t⟩;refine⟨B,m,_,E,N,λr m1 v G k n1 R rr D=>?_⟩;let⟨⟨ds,rfl⟩,k⟩:=k;let⟨a,K,rfl,f,g⟩:=bV (rr);refine⟨.inr (.inl ⟨rfl,K,f⟩),B,m1,_,R,k,λrs m2 vs U k2 n2 q A y=>?_⟩;exact⟨B,m2,O,H,G,.imm _,rs,P,q,rr.keep E R y,A,k2,λr I v L k n s z F=>t r I v L k (n.trans (n2.trans n1)) s (z.base q (D.trans y)) ((D.trans y).trans F)⟩
theorem vB{name:Str}{id:String}{i:WM}(slot:Slot "tuple" name id)(g:typeOf (.builtin id)=pure (.type "method_descriptor"))(j:MtM X id (mM X.kx i))(n:EE X o w)(m:EA X (e::b) p)
  (d:abQ o name X.env (eval o X.env)=eval o X.env:=by rfl)
  (f:((abD c (aag (e::b) X.env)).all (λx=>!x.1)&&(adB c (acw [] X.env)).all (λx=>x.1.isSome)
   && decide ((e::b).length+([]:List aeG).length+(if ([]:List aeG).isEmpty then 0 else 1)<30))=true:=by rfl)
  (a:(l.endLine==c.line)=true:=by rfl) (k:aag (e::b) X.env=(false,eval e X.env)::aag b X.env:=by first|exact aI rfl|rfl) (h:(abD c (aag b X.env)).any (·.1)=false:=by rfl) :
  EE X (.Call (.Attribute o name l) (e::b) [] c) (wMT i w p):=⟨Rz slot g j n.h m.h d f a k h⟩
def x_ts{P:Prop}(h:P):(∃b,R.imm (.tuple ds) = .imm (.tuple b))/\P:=⟨⟨ds,rfl⟩,h⟩
def Ak:WM:=λr rs m K=>on1 (jP λd=>∃ds j,r = .imm (.tuple ds)/\d.canLay0=true/\abv ds=true/\d.depth≤60/\(∃y,ds[j]?=some y/\aai y d=true)/\(∀(i:Nat) y,i<j->ds[i]?=some y->aai y d=false)/\K (.imm (.int (j:Nat))) m) rs
theorem gf(hu:X.A.units+64<cLine):MtM X "tuple.index" (mM X.kx Ak):=by
 intro N s σ' H x xs v us Q I W rv ⟨α,m,σ,H0,H1,r,rs,Kc,Rl,h1,G,B,E⟩;let⟨r2,v2,rfl,rfl,G,B⟩:=e9 G B;let⟨d,rfl,hd,ds,j,rfl,R,D,dp,⟨y,T,eq⟩,J,B⟩:=fY G B;let⟨a,zs,rfl,f,g⟩:=bV (show Den X.kx H (.tuple ds) x from h1);cases W;let⟨u,rfl,V⟩:=rv.one;let⟨bs,U⟩:=Den.reads I (aa6 _ R) hd V;let⟨h,F,⟨o,t,S,K,n,k⟩,hz⟩:=I.tupleP f;let⟨as,z⟩:=DenAll.reads I (abt _ D) g F;have hm:X.A.units+1+min (aaC ds) d.depth<cLine:=by have:=adn (aaC ds) d.depth;omega
 have q:=agG ds _ _ D z;have L:h.length=ds.length:=by rw[<-q,lD]
 have O:j<h.length:=by rw[L];exact(AD.mp T).1
 have P:∀(i:Nat) (C:i<h.length) y,ds[i]?=some y->ac1 s.heap h[i]=y:=λi C y e=>by
  rw[<-q,aae,iO C]at e;exact aaB e
 let⟨Z,Y,M,sl⟩:=o;dsimp only at S k;subst S;subst k;refine adV acj ⟨_,t,rfl⟩ PySem.F.entry_tuple_index (PySem.F.args_tuple_index_2 _ _)
  (ut a h.toArray _ Y sl u (λy=>aai (ac1 s.heap y) d) j (by simpa using O) ?_ ?_) ⟨t,ag7 (by simpa using z) U D R hm,?_⟩
 .show aai (ac1 s.heap h[j]) d=true;rw[P j O y T];exact eq
 .intro i C hlt;have A:i<h.length:=by simpa using C
  show aai (ac1 s.heap h[i]) d=false;have hi2:i<ds.length:=by rw[<-L];exact A
  rw[P i A _ (iO hi2)];exact J i _ hlt (iO hi2)
 .exact⟨.int (j:Nat),H,I.tok _,⟨_,rfl⟩,E _ _ _ H B rfl Rl (dM _) (Frm.refl _ _)⟩
def jX{m:MSt}{d y:aD}{j k k':Nat}{K:R->MSt->Prop}(s1:Shp k d)(s2:∀y∈ds,Shp k' y)(hk:k≤60)(f:ds[j]?=some y)(eq:aai y d=true)(a:∀(i:Nat) y,i<j->ds[i]?=some y->aai y d=false)(h:K (.imm (.int (j:Nat))) m):Ak (.imm (.tuple ds)) [.imm d] m K:=
 ⟨ds,j,rfl,s1.cl,(jl s2).1,aaD s1.dp hk,⟨y,f,eq⟩,a,h⟩
end
def wZ:fillsNumberSlot (.type "tuple") "mul" = pure false:=
 PySem.fillsNumberSlot_seq ad5.lookup rfl afw.lookup rfl
def Jy:seqRepeat? (.type "tuple")=pure (some (.builtin "tuple.__mul__")):=by
 unfold seqRepeat?;rw[ag9 (name:= "__mul__") ad5.lookup rfl,ag9 (name:= "__rmul__") afw.lookup rfl];rfl
def Bt(a:Int)(t:Tok)(l:Addr)(items:Array Ad)(n:Nat)(d:Option Addr)(sl:Array (Option Ad)) :
  Meets (adm.«int.__rmul__» ⟨[.int a t,.ref l],[]⟩) (λ_ R s=>s.heap.get? l=some {cls:=.type "tuple",dict:=d,data:=.seq items n,slots:=sl}/\R (.ok (.ret Ad.notImplemented)) s):=
 .of_wp λprog w A R s h=>by
  rcases h with⟨b,h⟩
  wp_walk
  exact⟨_,rfl,h⟩
open AutoSeq1 (wpAny_loadPart') in
theorem JE(l:Addr)(items:Array Ad)(n:Nat)(y:Option Addr)(sl:Array (Option Ad))(k:Int)(t:Tok)(F:0≤k)(E:k<2^20)(D:items.size*k.toNat≤1000000) :
  Meets (adm.«tuple.__mul__» ⟨[.ref l,.int k t],[]⟩) (λ_ R s=>s.heap.get? l=some {cls:=.type "tuple",dict:=y,data:=.seq items n,slots:=sl}/\
   if (items.isEmpty||k==1)=true then R (.ok (.ret (.ref l))) s else R (.ok (.ret (.ref s.heap.objs.size))) {s with heap:=s.heap.push {cls:=.type "tuple",data:=.seq ((aas k.toNat items).foldl (λx c=>x++c) #[])} }):=
 .of_wp λprog w A R s h=>by
  rcases s with⟨p,g,d,r,os⟩;rcases h with⟨o,h⟩
  (wp_walk using aey o)
  have hT:(⟨p,g,d,r,os⟩:GT).TypeIs (.ref l) "tuple":=(⟨_,o,rfl⟩);have j:IsTup (⟨p,g,d,r,os⟩:GT).heap l items:=⟨_,o,rfl,n,rfl⟩;have C:((items.size:Nat):Int)*k≤1000000:=by
   have z:k=((k.toNat:Nat):Int):=by omega
   rw[z,<-adQ];omega
  rw[if_neg (show ¬_ by simp only[decide_eq_true_eq,afU];omega)];refine gT (agx j ?_)
  by_cases f:(items.isEmpty||k==1)=true
  .rw[if_pos f]at h⊢;refine gT ?_;unfold aeU;refine gT (acW hT (LD ?_));rw[if_pos (by rfl)];exact gT (abL (LD ⟨_,rfl,h⟩))
  .rw[if_neg f]at h⊢;have B:items.isEmpty=false:=by
    cases q:items.isEmpty with
    |false=>rfl
    |true=>rw[q]at f;exact(f rfl).elim
   by_cases i:k=0
   .subst i;show wpAny _ _ (if (decide ((0:Int)≤0)||items.isEmpty)=true then _ else _) _ _ _;rw[if_pos (by rfl)];exact gT (m:=abR #[]) (abg (LD ⟨_,rfl,h⟩) (by show(0:Nat)≤aaj;exact abF _))
   have u:(decide (k≤0)||items.isEmpty)=false:=by rw[B,decide_eq_false (by omega)];rfl
   have e:∀(m:Nat) (a:Array Ad),(agF (λx c=>x++c) a (aas m items)).size=a.size+m*items.size:=by
    intro m
    induction m with
    |zero=>intro a;simp
    |succ m v=>intro a;rw[acu,aeu,v,Array.size_append,aeH];omega
   have b:((aas k.toNat items).foldl (λx c=>x++c) #[]).size≤aaj:=by
    rw[e,aar,acY];simp;omega
   show wpAny _ _ (if (decide (k≤0)||items.isEmpty)=true then _ else _) _ _ _;rw[if_neg (by rw[u];exact aaq)];show wpAny _ _ (if ((items.size:Nat):Int)*k>(2^63-1)/8 then _ else _) _ _ _;rw[if_neg (by omega)];show wpAny _ _ (if aeX (((items.size:Nat):Int)*k)=true then _ else _) _ _ _;rw[if_neg (by unfold aeX;rw[decide_eq_true_eq,aar];omega)];exact gT (m:=abR _) (abg (LD ⟨_,rfl,h⟩) b)
section
variable {X:Cx}
def T9(K:aaf):R2:=λx y H Q=>∃a b k,x = .ref a/\y = .int k/\SqT K H a b/\0≤k/\k<2^20/\b.length*k.toNat≤1000000/\
 if (b.isEmpty||k==1)=true then Q (.ref a) H else ∀p,H p=none->Q (.ref p) (upd H p (.tup (aas k.toNat b).flatten))
theorem Ko:OpR X (acl .Mult) (T9 X.K):=by
 intro z s O H x y v u Q I D L h;let⟨a,c,k,rfl,rfl,B,K,E,C,q⟩:=h;cases D;let⟨t,rfl⟩:=L;let⟨i,r,⟨o,j,g,hd,n,f⟩,J⟩:=I.tupleP B;let⟨F,p,w,A⟩:=o;dsimp only at g f;subst g f;have m:c.length=i.length:=r.length;have l:i.toArray.isEmpty=c.isEmpty:=by
  cases i with
  |nil=>have:c=[]:=abj (by simpa using m);subst this;rfl
  |cons _ _=>cases c with
   |nil=>simp at m
   |cons _ _=>rfl
 have d:=by
  have:=lg i k.toNat [];omega
 refine ae4 (T:= "tuple") (U:= "int") (by decide) ⟨_,j,rfl⟩ (λM=>afK M k t) wZ PySem.F.fills_int_mul af0 Jy PySem.F.slot_int_index.lookup
  (adV af0 (afK s k t) PySem.F.entry_int_rmul (PySem.F.args_int_rmul_2 _ _) (Bt k t a i.toArray n p A)
   ⟨j,rfl,⟨_,j,rfl⟩,adV ad5 ⟨_,j,rfl⟩ PySem.F.entry_tuple_mul (PySem.F.args_tuple_mul_2 _ _) (JE a i.toArray n p A k t K E (by rw[aaG,<-m];exact C)) ⟨j,?_⟩⟩)
 rw[l,d]
 by_cases g:(c.isEmpty||k==1)=true
 .rw[if_pos g]at q⊢;exact⟨.ref a,H,I,rfl,q⟩
 .rw[if_neg g]at q⊢;have G:H s.heap.objs.size=none:=I.hok.fresh (aab _);refine⟨.ref s.heap.objs.size,_,I.laid (t':=s.toks) (o:=.tup (aas k.toNat c).flatten) (λb N e=>Ld _ e) (aab _) ⟨?_,_,r.rep k.toNat,PlainT.new _ _⟩,rfl,q _ G⟩;rw[yd,acY,aar];omega
def vM:WO
 | .imm (.int i),.imm (.int j),_,K=>agQ i j/\K (.imm (.int (i*j)))
 | .imm (.tuple ds),.imm (.int k),_,K=>0≤k/\k<2^20/\ds.length*k.toNat≤1000000/\K (.imm (.tuple (aas k.toNat ds).flatten))
 | .new ds,.imm (.int k),_,K=>0≤k/\k<2^20/\ds.length*k.toNat≤1000000/\K (.new (aas k.toNat ds).flatten)
 |_,_,_,_=>False
theorem jD{K:Kd}{H:Hp}{ds:List aD}{xs:List V}(g:DenAll K H ds xs):∀k:Nat,DenAll K H (aas k ds).flatten (aas k xs).flatten
 |0=>by simp[ DenAll]
 |k+1=>by rw[ acu];exact g.append (jD g k)
theorem bJ:OpR X (acl .Mult) (rM X.kx vM):=by
 intro b s n H x y v u Q I r z ⟨F,m,C,E,B,r1,G,K,R,w,q,h,c⟩;unfold vM at h
 split at h
 .rename_i i j;exact KZ b s n H x y v u Q I r z ⟨F,m,C,E,B,.imm (.int i),.imm (.int j),K,R,w,q,h,c⟩
 .rename_i ds k;let⟨k1,k2,A,h⟩:=h;let⟨a,o,rfl,f,g⟩:=bV (show Den X.kx H (.tuple ds) x from w);have t:=aC (show Den X.kx H (.int k) y from q);subst t;refine Ko b s n H _ _ v u Q I r z ⟨a,o,k,rfl,rfl,f,k1,k2,by rw[<-g.length];exact A,?_⟩
  by_cases l:(o.isEmpty||k==1)=true
  .rw[if_pos l];refine c _ _ H h R (mX (fv f ?_)) (Frm.refl _ _);have e:(aas k.toNat ds).flatten=ds:=by
    rw[afU]at l;rcases l with l|l
    .have hx:o=[]:=List.isEmpty_iff.mp l;have hd:ds=[]:=abj (by rw[g.length,hx];rfl);subst hd;simp
    .simp_all
   rw[e];exact g
  .rw[if_neg l];exact λp d=>c _ _ _ h (R.lay d) (mX (fv (SqT.of av) ((jD g k.toNat).mono (bi (.inl d))))) (cn d)
 .rename_i ds k;let⟨k1,k2,A,h⟩:=h;let⟨a,o,rfl,J,D,g⟩:=w;have t:=aC (show Den X.kx H (.int k) y from q);subst t;refine Mi b s n H _ _ v u Q I r z ⟨a,k,o,rfl,rfl,D,by omega,by omega,by rw[<-g.length,aar];omega,λp d=>?_⟩;exact c _ _ _ h (R.lay d) ⟨p,_,rfl,d,av,(jD g k.toNat).mono (bi (.inl d))⟩ (cn d)
 .exact h.elim
def Jh{m:MSt}{i j:Int}(a:agQ i j)(h:Kr (.imm (.int (i*j)))):vM (.imm (.int i)) (.imm (.int j)) m Kr:=⟨a,h⟩
def Gi{m:MSt}{k:Int}(a:0≤k)(c:k<2^20)(b:ds.length*k.toNat≤1000000)(h:Kr (.imm (.tuple (aas k.toNat ds).flatten))):vM (.imm (.tuple ds)) (.imm (.int k)) m Kr:=⟨a,c,b,h⟩
def Nw{m:MSt}{k:Int}(a:0≤k)(c:k<2^20)(b:ds.length*k.toNat≤1000000)(h:Kr (.new (aas k.toNat ds).flatten)):vM (.new ds) (.imm (.int k)) m Kr:=⟨a,c,b,h⟩
end
end L2
namespace K
open PySem L2 M7
variable{l:List Nat}{h:Hall}{r:Rule}{t:Nat}
inductive Mv where
 |come (o:List Nat)|done (k:Nat)|still
def Mv.d:Mv->aD
 | .come o=>.tuple [.str "come",lnD o]
 | .done k=>.tuple [.str "done",.int (k:Int)]
 | .still=>.tuple [.str "still"]
def Mv.Ok(h:Hall):Mv->Prop
 | .come o=>Ord h.ss.length o
 | .done k=>k<h.ss.length
 | .still=>True
inductive Wd where
 |taken|away|served|none
def Wd.s:Wd->Str
 | .taken=> "taken" | .away=> "away" | .served=> "served" | .none=> "none"
def Hall.rn(h:Hall)(k:Nat):Nat:=h.rs.getD k 0
def bW(h:Hall)(l:List Nat)(k:Nat):List Nat×Wd:=if l.getD k 0=h.rn k then(l,.away)else(l.set k (l.getD k 0+1),.taken)
def cf(l:List Nat)(k:Nat):List Nat×Wd:=if l.getD k 0=0 then(l,.none)else(l.set k (l.getD k 0-1),.served)
def idx(l:List Nat)(x:Nat):Nat:=l.findIdx (λy=>y==x)
def maxN(l:List Nat):Nat:=l.foldl max 0
def c8(h:Hall)(l:List Nat):Option (Nat×Nat):=if h.mv=true/\0∈l/\2≤maxN l then some (idx l (maxN l),idx l 0)else none
def cx(l:List Nat)(p:Nat×Nat):List Nat:=(l.set p.1 (l.getD p.1 0-1)).set p.2 ((l.set p.1 (l.getD p.1 0-1)).getD p.2 0+1)
def cX(h:Hall):Nat->List Nat->List Nat
 |0,l=>l
 |n+1,l=>match c8 h l with
  |none=>l
  |some p=>cX h n (cx l p)
def cK(h:Hall)(l:List Nat):List Nat:=cX h (l.count 0) l
theorem lC:∀(l:List Nat) (a:Nat),a≤l.foldl max a/\(∀x∈l,x≤l.foldl max a)/\(l.foldl max a=a\/l.foldl max a∈l)
 |[],a=>⟨aab _,(λ_ h=>by cases h),.inl rfl⟩
 | y::l,a=>by
  let⟨c,d,e⟩:=lC l _;refine⟨aaD (aew a y) c,λx b=>?_,?_⟩
  .rcases aak.mp b with rfl|b
   .exact aaD (Nat.le_max_right a x) c
   .exact d x b
  .grind
def uv:∀x∈l,x≤maxN l:=(lC l 0).2.1
theorem iQ(h:l≠[]):maxN l∈l:=by
 rcases (lC l 0).2.2 with e|e
 .cases l with
  |nil=>exact(h rfl).elim
  |cons x l=>
   have:x≤maxN (x::l):=uv x aac;have a:maxN _=0:=e
   grind
 .exact e
theorem fm{x:Nat}(h:x∈l):l[idx l x]?=some x/\∀i y,i<idx l x->l[i]?=some y->y≠x:=by
 have a:idx l x<l.length:=List.findIdx_lt_length_of_exists ⟨x,h,by simp⟩;refine⟨?_,λi y b c e=>?_⟩
 .rw[iO a];have:=List.findIdx_getElem (w:=a);simp at this;exact congrArg some this
 .have:=List.not_of_lt_findIdx b
  grind
theorem ce(a b:Nat):aai (.int (a:Int)) (.int (b:Int))=decide (a=b):=by
 simp[aai]
 by_cases h:a=b
 .subst h;simp
 .have:¬_:=λz=>h (Int.ofNat.inj z)
  simp_all
def b6(l:List Nat):∀y∈natD l,Shp 0 y:=λy a=>by
 let⟨x,_,rfl⟩:=aal.mp a;exact cC _
def vo(l:List Nat)(k x:Nat):(natD l).set k (.int (x:Int))=natD (l.set k x):=by
 unfold natD;rw[List.map_set]
def oa:SpM:=λa K=>∃(l:List Nat) (k:Nat) (d:Int) (x:Nat),a=[.imm (lnD l),.imm (.int (k:Int)),.imm (.int d)]/\k<l.length/\l.length≤1000/\(l.getD k 0:Int)+d=(x:Int)/\K (.imm (lnD (l.set k x))) []
def lwD(p:List Nat×Wd):aD:=.tuple [lnD p.1,.str p.2.s]
def Fy:SpM:=λa K=>∃(h:Hall) (l:List Nat) (k:Nat),a=[.imm h.d,.imm (lnD l),.imm (.int (k:Int))]/\h.Ok/\Lines h l/\k<h.ss.length/\K (.imm (lwD (bW h l k))) []
def EF:SpM:=λa K=>∃(l:List Nat) (k:Nat),a=[.imm (lnD l),.imm (.int (k:Int))]/\k<l.length/\l.length≤1000/\K (.imm (lwD (cf l k))) []
def optP:Option (Nat×Nat)->aD
 |none=>.none
 |some p=>.tuple [.int (p.1:Int),.int (p.2:Int)]
def Af:SpM:=λa K=>∃(h:Hall) (l:List Nat),a=[.imm h.d,.imm (lnD l)]/\l≠[]/\l.length≤1000/\K (.imm (optP (c8 h l))) []
def rE:SpM:=λa K=>∃(h:Hall) (l:List Nat),a=[.imm h.d,.imm (lnD l)]/\l≠[]/\l.length≤1000/\K (.imm (lnD (cK h l))) []
theorem gz{p:Nat×Nat}(e:c8 h l=some p):h.mv=true/\l[p.1]?=some (maxN l)/\2≤maxN l/\l[p.2]?=some 0/\p.1≠p.2:=by
 unfold c8 at e
 split at e
 .rename_i q;let⟨d,a,c⟩:=q;have b:l≠[]:=λz=>by rw[z]at a;cases a
  have s1:=(fm (iQ b)).1;have s0:=(fm a).1
  grind
 .cases e
theorem jt{p:Nat×Nat}(e:c8 h l=some p):cx l p=(l.set p.1 (maxN l-1)).set p.2 1/\p.1<l.length/\p.2<l.length/\(cx l p).count 0+1=l.count 0/\(cx l p).length=l.length:=by
 let⟨q,b,o,a,i⟩:=gz e;have d:=(AD.mp b).1;have g:=(AD.mp a).1;have n:l.getD p.1 0=maxN l:=bp b;have j:(l.set p.1 (maxN l-1)).getD p.2 0=0:=bp (by rw[aaK i];exact a);have f:cx l p=(l.set p.1 (maxN l-1)).set p.2 1:=by unfold cx;rw[n,j]
 have m:=by rw[iO d]at b;exact aaB b
 have k:l[p.2]=0:=by rw[iO g]at a;exact aaB a
 refine⟨f,d,g,?_,by rw[f,abe,abe]⟩;have s:0<l.count 0:=List.count_pos_iff.mpr (Io a);have c:p.2<(l.set p.1 (maxN l-1)).length:=by rw[abe];exact g
 have v:(l.set p.1 (maxN l-1))[p.2]=0:=by rw[adv i];exact k
 rw[f,List.count_set c,List.count_set d,v,m];have d1:(maxN l==0)=false:=by simp;omega
 have u:(maxN l-1==0)=false:=by simp;omega
 simp_all
theorem fJ(e:c8 h l=none):∀n,cX h n l=l
 |0=>rfl
 |n+1=>by simp[cX,e]
def oA(h:Hall)(r:Rule)(t:Nat):Nat:=match r with
 | .turns=>(t+1)%h.ss.length
 |_=>t
def y3:SpM:=λa K=>∃(h:Hall) (r:Rule) (t:Nat),a=[.imm h.d,.imm r.d,.imm (.int (t:Int))]/\h.Ok/\K (.imm (.int (oA h r t:Nat))) []
def Da(h:Hall)(r:Rule)(l:List Nat)(t:Nat):Mv->aD
 | .come o=>.int (sent h r l t o:Nat)
 | .done k=>.int (k:Int)
 | .still=>.none
def uW:SpM:=λa K=>∃(h:Hall) (r:Rule) (l:List Nat) (t:Nat) (mv:Mv),a=[.imm h.d,.imm r.d,.imm (stD l t),.imm mv.d]/\h.Ok/\r.Ok h/\Lines h l/\mv.Ok h/\K (.imm (Da h r l t mv)) []
def gJ(h:Hall)(r:Rule)(l:List Nat)(t:Nat):Mv->List Nat×Nat×Wd
 | .come o=>(cK h (bW h l (sent h r l t o)).1,oA h r t,(bW h l (sent h r l t o)).2)
 | .done k=>(cK h (cf l k).1,t,(cf l k).2)
 | .still=>(cK h l,t,.none)
def mvD(p:List Nat×Nat×Wd):aD:=.tuple [stD p.1 p.2.1,.str p.2.2.s]
def yt:SpM:=λa K=>∃(h:Hall) (r:Rule) (l:List Nat) (t:Nat) (mv:Mv),a=[.imm h.d,.imm r.d,.imm (stD l t),.imm mv.d]/\h.Ok/\r.Ok h/\Lines h l/\mv.Ok h/\(r = .turns->t<h.ss.length)/\K (.imm (mvD (gJ h r l t mv))) []
theorem pf{o:List Nat}(g:h.Ok)(c:r.Ok h)(e:Lines h l)(a:Ord h.ss.length o)(d:r = .turns->t<h.ss.length):sent h r l t o<h.ss.length:=by
 cases r with
 |random=>let⟨k,k1,rfl,f⟩:=a.cons;exact f
 |turns=>exact d rfl
 |two=>exact kI a 2
 |least=>have:=kI (lt:=bQ l) a o.length;rw[aax]at this;exact this
 |quick=>have:=kI (lt:=cc h l) a o.length;rw[aax]at this;exact this
 |told p=>
  have b:placeF 0 h.rs l<p.length:=by rw[c.1,allR_cnt];exact place_lt e.fits
  exact c.2 _ (Io (getN rfl b))
theorem Lines.set{k x:Nat}(a:Lines h l)(f:∀s,h.ss[k]?=some s->x≤s.r):Lines h (l.set k x):=by
 refine⟨by rw[abe];exact a.1,λi s y b e=>?_⟩
 by_cases c:k=i
 .subst c;have d:k<l.length:=by rw[a.1];exact(AD.mp b).1
  simp_all
 .rw[aaK c]at e;exact a.2 i s y b e
def Lines.at{k:Nat}(a:Lines h l)(hk:k<h.ss.length):∃s,h.ss[k]?=some s/\l.getD k 0≤s.r/\h.rn k=s.r/\s∈h.ss:=by
 let⟨s,e,c,eb,b⟩:=h.srv hk;exact⟨s,e,a.2 k s _ e (getN a.1 hk),bp (Hall.rs_get e),b⟩
theorem w9{k:Nat}(a:Lines h l)(hk:k<h.ss.length):Lines h (bW h l k).1:=by
 let⟨s,e,b,f,c⟩:=a.at hk;unfold bW;split
 .omega
 .refine a.set λg d=>?_
  grind
theorem vN{k:Nat}(a:Lines h l)(hk:k<h.ss.length):Lines h (cf l k).1:=by
 let⟨s,e,b,f,c⟩:=a.at hk;unfold cf;split
 .omega
 .refine a.set λg d=>?_
  grind
theorem i7{h:Hall}(c:h.Ok):∀(n:Nat) (l:List Nat),Lines h l->Lines h (cX h n l)
 |0,l,hL=>hL
 | n+1,l,hL=>by
  simp[cX]
  cases e:c8 h l with
  |none=>exact hL
  |some p=>
   let⟨d,f,i,k,b⟩:=jt e;let⟨g,m1,m2,m,j⟩:=gz e;refine i7 c n _ ?_;rw[d];refine(hL.set λs a=>?_).set λs a=>(c.ok s (Io a)).r1;have:=hL.2 p.1 s _ a m1;omega
def f8(b:h.Ok)(a:Lines h l):Lines h (cK h l):=i7 b _ _ a
structure St(h:Hall)(r:Rule)(l:List Nat)(t:Nat):Prop where
 ln:Lines h l
 tn:r = .turns->t<h.ss.length
 ts:t<4
theorem Bv(a:h.Ok)(b:t<4)(c:r = .turns->t<h.ss.length):(r = .turns->oA h r t<h.ss.length)/\oA h r t<4:=by
 have n1:=a.n1;have n4:=a.n4
 cases r with
 |turns=>
  have:=agI (t+1) (show h.ss.length>0 by assumption);exact⟨λ_=>this,by show(t+1)%h.ss.length<4;exact aav ‹_› ‹_›⟩
 |_=>exact⟨(λz=>by cases z),b⟩
theorem iL(a:h.Ok)(c:r.Ok h)(S:St h r l t){mv:Mv}(b:mv.Ok h):St h r (gJ h r l t mv).1 (gJ h r l t mv).2.1:=by
 cases mv with
 |come o=>
  have:=Bv a S.ts S.tn;exact⟨f8 a (w9 S.ln (pf a c S.ln b S.tn)),this.1,this.2⟩
 |done k=>exact⟨f8 a (vN S.ln b),S.tn,S.ts⟩
 |still=>exact⟨f8 a S.ln,S.tn,S.ts⟩
def zer(h:Hall):List Nat:=aas h.ss.length 0
def gF(a:h.Ok)(r:Rule):St h r (zer h) 0:=by
 refine⟨⟨by simp[zer],λi s x b e=>?_⟩,λ_=>a.n1,by decide⟩;have:=by
  have:=Io e;exact(List.mem_replicate.mp this).2
 omega
def z7:SpM:=λa K=>∃h:Hall,a=[.imm h.d]/\h.Ok/\K (.imm (stD (zer h) 0)) []
end K
namespace L2
open PySem PySem.Spec PyProof.Rows
variable{l:Addr}{vs:List Ad}{Q:Ad->GT->Prop}{ns:List Int}{ds:List aD}
section
variable {prog:aaI}{w:World}{A:aa8}{E:Ad->GT->Prop}{s:GT}
abbrev colH(h:aaW)(vs:List Ad):aaW:=(h.push (acU "list" #[] 0)).update h.objs.size (acr (·++vs.toArray))
abbrev srtH(h:aaW)(vs:List Ad):aaW:=(colH h vs).push (acU "list" vs.toArray 0)
def rz(h:aaW)(vs:List Ad):(colH h vs).objs.size=h.objs.size+1:=(aeh ..).trans (size_push' ..)
def JL(h:aaW)(vs:List Ad):(srtH h vs).get? (h.objs.size+1)=some (acU "list" vs.toArray 0):=by
 have e:(srtH h vs).get? (colH h vs).objs.size=some (acU "list" vs.toArray 0):=aao _ rfl;rwa[rz]at e
def JN{d:Addr}{o:Obj}{P:PySem.Fin->GT->Prop}(hd:s.heap.get? d=some (acU "list" #[] 0))(a:s.heap.get? l=some o)(c:o.cls = .type "tuple"){n:Nat}(b:o.data = .seq vs.toArray n)(hsz:vs.length≤aaj)
  (h:P (.done (.ret (.ref d))) {s with heap:=s.heap.update d (acr (·++vs.toArray))}):wpAny (model prog w) A (aeI (.ref d) (.ref l) (.ref d)) P E s:=by
 have fits:(#[]++vs.toArray:Array Ad).size≤aaj+1:=by simp;omega
 refine gT (m:=typeOf (.ref l)) (acW (T:= "tuple") ⟨o,a,c⟩ ?_);rw[if_pos (show(adJ (abw d) (abw l)||_||aeM "tuple" == aeM "tuple")=true from Bool.or_eq_true_iff.mpr (.inr rfl))];refine gT (agY a b (gT (agY (xs:=#[]) (n:=0) hd rfl ?_)));rw[if_neg (show ¬_ by simp)];exact gT (afn (xs:=#[]) (n:=0) hd rfl (LD h) (abF _) fits)
def ux{Q:List Ad->GT->Prop}(b:s.heap.IsTuple l vs.toArray)
  (h:Q vs {s with heap:=colH s.heap vs}) (hsz:vs.length≤aaj):wpAny (model prog w) A (collect (.ref l)) Q E s:=by
 let⟨o,d,c,nn,hd⟩:=id b;have new:(s.heap.push (acU "list" #[] 0)).get? s.heap.objs.size=some (acU "list" #[] 0):=aao _ rfl;have a:(colH s.heap vs).get? s.heap.objs.size=some _:=get?_update_seq new (·++vs.toArray);have all:((#[]:Array Ad)++vs.toArray).toList=vs:=by simp
 refine gT (m:=runValue _) (wpAny_runValue (ac4 entry_proto_collect' (gT (m:=agU []) (afo (LD ⟨Code.quiet_builtin _ (by decide +kernel),ac4 entry_list_iadd' ?_⟩)))));refine JN (s:={s with heap:=s.heap.push (acU "list" #[] 0)}) new (Ld _ d) c hd hsz (gT (m:=load s.heap.objs.size) (wpAny_load a ?_));exact LD (all.symm▸h)
def uB{k:List (Str×Ad)}(a:s.heap.IsTuple l vs.toArray\/s.heap.IsList l vs.toArray)(hsz:vs.length≤aaj)
  (h:wpAny (model prog w) A (call (.builtin "list.sort") [.ref (s.heap.objs.size+1)] k) (λ_ s'=>Q (.ref (s.heap.objs.size+1)) s') E {s with heap:=srtH s.heap vs}) :
  wpAny (model prog w) A (adm.«sorted» ⟨[.ref l],k⟩) (λf s'=>∃v,f = .done (.ret v)/\Q v s') E s:=by
 have c:∀{P:List Ad->GT->Prop},P vs {s with heap:=colH s.heap vs}->wpAny (model prog w) A (collect (.ref l)) P E s:=λp=>a.elim (λt=>ux t p hsz) λt=>collect_list t p hsz;refine gT (m:=checkCount "sorted" 1 1 _) (LD (gT (c (gT (m:=agU vs) (afo ?_)))));have e:(Shared.heap {s with heap:=colH s.heap vs}).objs.size=s.heap.objs.size+1:=rz ..;rw[e];exact gT (m:=adN _ _) (ach (acb h (λ_ s' q=>LD ⟨_,rfl,q⟩) λ_ _ z=>z))
def mi{b:Bool}(c:s.heap.IsTuple l vs.toArray)(d:aeF vs ns)(a:vs.length<64)
  (h:∀(out:Array Ad) (n:List Int),aeF out.toList n->n.Perm ns->Ordered b n->Q (.ref (s.heap.objs.size+1)) {s with heap:=sortedAll s.heap vs out}):wpAny (model prog w) A (call (.builtin "sorted") [.ref l] [(aci "reverse",.bool b)]) Q E s:=by
 have at1:=JL s.heap vs;refine call_function_entry_kw kind_sorted plain_sorted entry_sorted (args_sorted_rev _ _) (uB (A:=A.in1) (.inl c) (by rw[aar];omega) ?_);exact wpAny_call_entry_kw slot_list_sort ⟨_,at1,rfl⟩ entry_list_sort (list_sort_tree_rev at1 d a λout n p q r=>⟨_,rfl,h out n p q r⟩) (args_list_sort_rev _ _)
end
section
variable {X:Cx}{a:Expr}{b:List Expr}{w:WA}{pos p c d:Pos}
def Uh(K:aaf):List V->Hp->VK->Prop:=λx H Q=>∃(t:Bool) (l:Addr) (ns:List Int),x=[.ref l]/\SqB t K H l (ns.map V.int)/\Q (.int ns.sum) H
theorem j1(ns:List Int):∀n,n≤ns.length->preSum (λi=>ns.getD i 0) n=(ns.take n).sum
 |0,_=>by simp[preSum]
 |n+1,h=>by
  show preSum _ n+ns.getD n 0=_;have e:=by omega
  rw[j1 ns n (by exact abV ‹_›),aaO,iO e,bp (iO e),List.sum_append];simp
theorem rh(C:X.calm=true):fe X (.builtin "sum") (Uh X.K):=by
 intro k s G H F J Q I D ⟨t,l,ns,ex,n,q⟩;subst ex;let⟨u,rfl,y⟩:=D.one;cases y;let⟨f,r,o,_⟩:=I.sqb n;have x:=eF r;have z:f.length=ns.length:=by have:=r.length;grind
 refine call_sum_walkG (u8 o λs2 e B j g=>?_);subst e;refine⟨s.heap.objs.size,[s.heap.objs.size,l],[s.heap.objs.size],f.toArray.size,λi v=>f.toArray[i]?=some v,λi h=>SubI t h s.heap.objs.size l i/\SubS t h l f.toArray,λi=>ns.getD i 0,rfl,sf (A:=X.A.in1) t (I.ok.hd C) _ l g f.toArray,B,j,t7 x,λE m t' hk=>?_⟩;have e:preSum (λi=>ns.getD i 0) f.toArray.size=ns.sum:=by
  rw[aaG,z,j1 ns ns.length (aab _),aax]
 rw[e];exact⟨.int ns.sum,H,I.kept (t':=m) (uA hk),⟨_,rfl⟩,q⟩
def O5:WC:=λrs m K=>on1 (λr=>∃ds ns,sqOf m r=some ds/\cU ds=some ns/\K (.imm (.int ns.sum))) rs
theorem gi(n:X.calm=true):fe X (.builtin "sum") (cM X.kx O5):=by
 intro e s i H A u Q I o ⟨D,m,B,C,rs,K,R,h,k,j⟩;let⟨r,v,rfl,rfl,y,ds,ns,q,t,k⟩:=e9 h k;let⟨a,z,rfl,f,g⟩:=y.seq R q;rw[gy t]at g;have x:=dB g;subst x;have go:=j _ _ H k R (dM _) (Frm.refl _ _);rcases f with f|f
 .exact rh n e s i H _ u Q I o ⟨false,a,ns,rfl,f,go⟩
 .exact rh n e s i H _ u Q I o ⟨true,a,ns,rfl,f,go⟩
def uR{m:MSt}{r:R}{K:R->Prop}(e:sqOf m r=some ds)(f:cU ds=some ns)(h:K (.imm (.int ns.sum))):O5 [r] m K:=⟨ds,ns,e,f,h⟩
def zm(X:Cx)(f:Ad)(k:List (Str×Ad))(r:List V->Hp->VK->Prop):Prop:=
 ∀(e:List (Addr×Obj)) (s:GT) (g:St) (H:Hp) (x:List V) (u:List Ad) (Q:VK),Inv X e g H s->Vals x u->r x H Q ->
  wpAny (model X.prog X.w) X.A (call f u k) (EP X e g Q) X.xe s
def FQ:WC:=λrs m K=>on1 (λr=>∃ds ns,sqOf m r=some ds/\cU ds=some ns/\ns.length<64/\∀n:List Int,n.Perm ns->n.Pairwise (· ≥ ·)->K (.new (n.map .int))) rs
theorem gU{K:Kd}{H:Hp}:∀ns:List Int,DenAll K H (ns.map .int) (ns.map V.int)
 |[]=>by simp[ DenAll]
 |n::ns=>by
  exact⟨.int n,_,rfl,by simp[Den],gU ns⟩
theorem ki:zm X (.builtin "sorted") [(aci "reverse",.bool true)] (cM X.kx FQ):=by
 intro q s z H N S Q I K ⟨U,m,O,T,rs,P,R,h,y,t⟩;let⟨r,v,rfl,rfl,J,ds,ns,A,F,B,y⟩:=e9 h y;let⟨l,M,rfl,f,g⟩:=J.seq R A;rw[gy F]at g;have G:=dB g;subst G;let⟨u,rfl,C⟩:=K.one;cases C;have go:∀(j:List Ad),Vals (ns.map V.int) j->∀(out:Array Ad) (n:List Int),aeF out.toList n->n.Perm ns->Ordered true n->EP X q z Q (.ref (s.heap.objs.size+1)) {s with heap:=sortedAll s.heap j out}:=by
  intro j i out n a1 a2 o;let⟨e,D⟩:=sortedAll_at s.heap j out;have k:H (s.heap.objs.size+1)=none:=I.hok.fresh (afa _);have L:Vals (n.map V.int) out.toList:=kQ a1;have E:(n.map V.int).length≤aaj:=by rw[lD,a2.length_eq,aar];omega
  refine⟨.ref (s.heap.objs.size+1),_,I.laid (t':=s.toks) (λ_ _=>sortedAll_old) (afa _) (show ObjOk X.prog X.w _ _ _ (.lst (n.map V.int))from⟨E,out.toList,e,L,by rw[D]⟩),rfl,?_⟩;exact t _ _ _ (y n a2 o) (R.lay k) ⟨_,_,rfl,k,av,gU n⟩ (cn k)
 rcases f with f|f
 .obtain⟨j,i,pl,_⟩:=I.list f;have x:=i.length;rw[lD]at x;exact sorted_ints_rev pl.isList (eF i) (by omega) λout n a1 a2 o=>go j i out n a1 a2 o
 .obtain⟨j,i,pl,_⟩:=I.tuple f;have x:=i.length;rw[lD]at x;exact mi pl (eF i) (by omega) λout n a1 a2 o=>go j i out n a1 a2 o
def Aq{m:MSt}{r:R}{K:R->Prop}(f:sqOf m r=some ds)(g:cU ds=some ns)(e:ns.length<64)(h:∀n:List Int,n.Perm ns->n.Pairwise (· ≥ ·)->K (.new (n.map .int))):FQ [r] m K:=⟨ds,ns,f,g,e,h⟩
theorem xJ{id:String}{x k:Str}{j:Nat}{o:WC}(y:zm X (.builtin id) [(k,.bool true)] (cM X.kx o))(C:Gl X x)(v:X.mg x=none)(B:abi x=some (.builtin id))(t:MA X (a::b) w)(u:x ≠ "__name__":=by decide)(g:(x==("__debug__" : Str))=false:=by decide)
  (r:aag (a::b) X.env=(false,eval a X.env)::aag b X.env:=by first|exact aI rfl|rfl) (f:(abD pos (aag (a::b) X.env)).any (·.1)=false:=by rfl):ME X (.Call (.Name x p) (a::b) [⟨some k,.Constant (.bool true) j c,d⟩] pos) (wCB o w):=by
 intro e s i H Q I h;have n:=JU h;refine acy (jE I C v B ?_ u g);refine callWith_kw (thn (t pos e s i H _ I n) λz s1 ⟨vs,m,A,r1,q⟩=>?_) (by rw[r];rfl) f rfl rfl;refine kws_cons (Constant_bool (kws_nil ?_));exact y e s1 i m vs z Q A r1 q
end
section
variable {X:Cx}{a:Expr}{e:List Expr}{w:WA}{pos p b c:Pos}
theorem nr{id:String}{x k:Str}{j:Nat}{o:WC}(q:zm X (.builtin id) [(k,.bool true)] (cM X.kx o))(i:Gl X x)(f:X.mg x=none)(g:abi x=some (.builtin id))(m:EA X (a::e) w)(n:x ≠ "__name__":=by decide)(h:(x==("__debug__" : Str))=false:=by decide)
  (r:aag (a::e) X.env=(false,eval a X.env)::aag e X.env:=by first|exact aI rfl|rfl) (d:(abD pos (aag (a::e) X.env)).any (·.1)=false:=by rfl):EE X (.Call (.Name x p) (a::e) [⟨some k,.Constant (.bool true) j b,c⟩] pos) (wCB o w):=⟨xJ q i f g m.h n h r d⟩
def k8:abi "sorted" = some (.builtin "sorted"):=by rfl
end
end L2
namespace M8
def ins(x:Nat):List Nat->List Nat
 |[]=>[x]
 |y::l=>if y≤x then x::y::l else y::ins x l
def srt:List Nat->List Nat
 |[]=>[]
 |x::l=>ins x (srt l)
def Fall(l:List Nat):Prop:=l.Pairwise (· ≥ ·)
theorem oI(x:Nat):∀l,(ins x l).Perm (x::l)
 |[]=>.refl _
 |y::l=>by
  unfold ins;split
  .exact .refl _
  .exact((oI x l).cons y).trans (.swap x y l)
theorem vd{x:Nat}:∀{l},Fall l->Fall (ins x l)
 |[],_=>acV _ _
 | y::l,h=>by
  unfold ins;rcases acA.mp h with⟨b,c⟩;split
  .rename_i hy;refine acA.mpr ⟨λz a=>?_,h⟩;obtain rfl|a:=aak.mp a
   .exact hy
   .have:=b z a;show z≤x;omega
  .rename_i hy;refine acA.mpr ⟨λz a=>?_,vd c⟩;rcases aak.mp ((oI x l).mem_iff.mp a)with rfl|a
   .show z≤y;omega
   .exact b z a
theorem jV:∀l,(srt l).Perm l
 |[]=>.refl _
 |x::l=>(oI x (srt l)).trans ((jV l).cons x)
theorem o3:∀l,Fall (srt l)
 |[]=>agT
 |_::l=>vd (o3 l)
theorem vH:∀{a b:List Nat},Fall a->Fall b->a.Perm b->a=b
 |[],b,_,_,p=>(List.nil_perm.mp p).symm
 |x::a,[],_,_,p=>by simpa using p.length_eq
 | x::a,y::b,ha,hb,p=>by
  let⟨a1,a2⟩:=acA.mp ha;let⟨b1,b2⟩:=acA.mp hb;have h:x=y:=by
   have c:x≤y:=by
    rcases aak.mp (p.mem_iff.mp aac)with e|e
    .omega
    .exact b1 x e
   have d:y≤x:=by
    rcases aak.mp (p.mem_iff.mpr (aac (a:=y)))with e|e
    .omega
    .exact a1 y e
   omega
  subst h;rw[vH a2 b2 (List.Perm.cons_inv p)]
def uB{a l:List Nat}(h:Fall a)(p:a.Perm l):srt l=a:=vH (o3 l) h ((jV l).trans p.symm)
def Lq{l:List Nat}(h:Fall l):srt l=l:=uB h (.refl _)
end M8
namespace L2
open PySem PySem.Spec PyProof.Rows
variable{v y:V}{u:Ad}{P:aaI}{w:World}{H H':Hp}{kvs:List (aD×aD)}{xs:List (List Key×Addr×Ad)}{a:Addr}{Q:Ad->GT->Prop}{pos:Pos}{X:Cx}{ks:List (Option Expr)}{vs:List (Key×V)}{trs:List (TE×TE)}{values:List Expr}{τ:List (List Nat×Addr)}{p:List Nat}{kk:Key}{t t':aD}{j:Nat}{wv:WE}{ws:List (WE×WE)}{K:List (R×R)->MSt->Prop}
section
variable {a:Type} [DecidableEq a]
def valV(kvs:List (a×V))(k:a):Option V:=(kvs.find? λb=>decide (b.1=k)).map (·.2)
def putK(kvs:List (a×V))(k:a)(v:V):List (a×V):=
 if (kvs.any λb=>decide (b.1=k))=true then kvs.map (λb=>if b.1=k then(b.1,v)else b)else kvs++[(k,v)]
theorem de{p:a×V}{r:List (a×V)}{k:a}(e:p.1=k):valV (p::r) k=some p.2:=by simp[valV,e]
theorem c9{p:a×V}{r:List (a×V)}{k:a}(e:¬p.1=k):valV (p::r) k=valV r k:=by simp[valV,e]
theorem oT(k:a):∀kvs:List (a×V),(kvs.any λb=>decide (b.1=k))=(valV kvs k).isSome
 |[]=>rfl
 |p::r=>by
  rw[afp]
  by_cases e:p.1=k
  .simp[de e,decide_eq_true e]
  .rw[c9 e,decide_eq_false e];exact oT k r
theorem r8(k j:a)(y:V):∀kvs:List (a×V),valV kvs k=none->valV (kvs++[(k,y)]) j=if j=k then some y else valV kvs j
 |[],_=>by
  by_cases e:k=j
  .rw[if_pos e.symm];exact de (p:=(k,y)) e
  .rw[if_neg (λz=>e z.symm)];exact c9 (p:=(k,y)) e
 |p::r,hn=>by
  rw[adp];have hk:¬p.1=k:=λz=>by rw[de z]at hn;cases hn
  rw[c9 hk]at hn;have i:=r8 k j y r hn
  by_cases e:p.1=j
  .rw[de e,de e,if_neg (λz=>hk (e.trans z))]
  .rw[c9 e,c9 e,i]
theorem ir(kvs:List (a×V))(k:a)(v:V):(putK kvs k v).length≤kvs.length+1:=by
 unfold putK
 grind
theorem CZ{kvs:List (a×V)}{k:a}(v:V)(h:valV kvs k=none):putK kvs k v=kvs++[(k,v)]:=by
 unfold putK;rw[oT,h];exact if_neg (by decide)
theorem RelO.isSome_eq{o:Option V}{u:Option Ad}(r:RelO o u):o.isSome=u.isSome:=by
 cases o with
 |none=>cases u with
  |none=>rfl
  |some _=>exact(r).elim
 |some _=>cases u with
  |none=>exact(r).elim
  |some _=>rfl
theorem KV.val{kvs:List (a×V)}{vs:List (a×Ad)}(r:KV kvs vs)(k:a):RelO (valV kvs k) (agn vs k):=by
 induction r with
 |nil=>exact adU
 | @cons p q ps qs h t ih=>
  let⟨c,d⟩:=h
  by_cases e:p.1=k
  .have e':=c.symm.trans e;have b:agn (q::qs) k=some q.2:=by simp[agn,e']
   rw[de e,b];exact d
  .have e':¬q.1=k:=λz=>e (c.trans z);have b:agn (q::qs) k=agn qs k:=by simp[agn,e']
   rw[c9 e,b];exact ih
theorem KV.any{kvs:List (a×V)}{vs:List (a×Ad)}(r:KV kvs vs)(k:a):(kvs.any λb=>decide (b.1=k))=vs.any λb=>decide (b.1=k):=by
 induction r with
 |nil=>rfl
 |cons h t i=>rw[afp,afp,i,h.1]
theorem KV.repl{kvs:List (a×V)}{vs:List (a×Ad)}(r:KV kvs vs)(k:a)(f:RelV y u) :
  KV (kvs.map λb=>if b.1=k then(b.1,y)else b) (vs.map λb=>if b.1=k then(b.1,u)else b):=by
 induction r with
 |nil=>exact .nil
 | @cons p q ps qs h t ih=>
  rw[aan,aan];refine .cons ?_ ih;let⟨c,d⟩:=h
  by_cases e:p.1=k
  .rw[if_pos e,if_pos (c.symm.trans e)];exact⟨c,f⟩
  .rw[if_neg e,if_neg (λz=>e (c.trans z))];exact⟨c,d⟩
theorem KV.put{kvs:List (a×V)}{vs:List (a×Ad)}(r:KV kvs vs)(k:a)(b:RelV y u):KV (putK kvs k y) (stored vs k u):=by
 unfold putK stored;rw[r.any k]
 by_cases e:(vs.any λc=>decide (c.1=k))=true
 .rw[if_pos e,if_pos e];exact r.repl k b
 .rw[if_neg e,if_neg e];exact Paired.snoc r ⟨rfl,b⟩
theorem KV.length{kvs:List (a×V)}{vs:List (a×Ad)}(r:KV kvs vs):kvs.length=vs.length:=agv r
end
theorem xi{k:Key}(r:RelV (kV k) u):(cq P w).is k u=true:=by
 cases k with
 |inl i=>let⟨t,e⟩:=(r);subst e;exact tU P w i t
 |inr x=>let⟨t,e⟩:=(r);subst e;exact uj P w x t
theorem su{P:aaI}{w:World}:∀{ks:List Key}{us:List Ad},Vals (ks.map kV) us->ItemsAre (cq P w) ks us
 |[],_,r=>by rw[ad6]at r;cases r;exact .nil
 |k::ks,_,r=>by
  cases r with
  |cons h t=>exact .cons (xi h) (su t)
abbrev KT(H:Hp):List (List Key×V)->List (List Key×Addr×Ad)->Prop:=abO λp q=>p.1=q.1/\H q.2.1=some (.tup (p.1.map kV))/\RelV p.2 q.2.2
theorem KT.val{kvs:List (List Key×V)}(r:KT H kvs xs)(k:List Key):RelO (valV kvs k) ((atKey xs k).map (·.2)):=by
 induction r with
 |nil=>exact adU
 | @cons p q ps qs h t ih=>
  let⟨c,_,d⟩:=h
  by_cases e:p.1=k
  .have e':=c.symm.trans e;have b:atKey (q::qs) k=some q.2:=by simp[atKey,e']
   rw[de e,b];exact d
  .have e':¬q.1=k:=λz=>e (c.trans z);have b:atKey (q::qs) k=atKey qs k:=by simp[atKey,e']
   rw[c9 e,b];exact ih
theorem KT.repl{kvs:List (List Key×V)}(r:KT H kvs xs)(k:List Key)(g:RelV y u) :
  KT H (kvs.map λc=>if c.1=k then(c.1,y)else c) (xs.map (putAt k u)):=by
 induction r with
 |nil=>exact .nil
 | @cons p q ps qs h t ih=>
  rw[aan];refine .cons ?_ ih;let⟨b,d,f⟩:=h;unfold putAt
  by_cases e:p.1=k
  .rw[if_pos e,if_pos (b.symm.trans e)];exact⟨b,d,g⟩
  .rw[if_neg e,if_neg (λz=>e (b.trans z))];exact⟨b,d,f⟩
def KT.put{kvs:List (List Key×V)}(r:KT H kvs xs)(k:List Key){b:Addr}(h:H b=some (.tup (k.map kV)))(c:RelV y u) :
  KT H (putK kvs k y) (storedH xs k b u):=by
 have e:(kvs.any λd=>decide (d.1=k))=(atKey xs k).isSome:=by
  rw[oT,(r.val k).isSome_eq,afe]
 unfold putK storedH;rw[e]
 by_cases q:(atKey xs k).isSome=true
 .rw[if_pos q,if_pos q];exact r.repl k c
 .rw[if_neg q,if_neg q];exact Paired.snoc r ⟨rfl,h,c⟩
def KT.keeps{kvs:List (List Key×V)}(r:KT H kvs xs)(h:∀b ys,H b=some (.tup ys)->H' b=some (.tup ys)):KT H' kvs xs:=
 Paired.mapP r λ_ _ z=>⟨z.1,h _ _ z.2.1,z.2.2⟩
section
variable {P:aaI}{w:World}{H:Hp}{h:aaW}{a:Addr}
def OI{u:HO}(ok:HOk P w H h)(e:Rd H a u):ObjOk P w H h a u:=e.ok ok
def sd{kvs:List (Key×V)}(ok:HOk P w H h)(e:Rd H a (.dK kvs)):kvs.length≤aaj/\(a==abC)=false/\∃vs,KV kvs vs/\h.DictOf (cq P w) a vs:=
 OI ok e
def Lg{kvs:List (Key×V)}(ok:HOk P w H h)(e:H a=some (.dK kvs)):kvs.length≤aaj/\(a==abC)=false/\∃vs,KV kvs vs/\h.DictOf (cq P w) a vs:=sd ok (.inl e)
def sD{ks:List Key}(ok:HOk P w H h)(e:H a=some (.tup (ks.map kV))):(agi (cq P w)).is h ks a:=by
 let⟨_,i,r,o,b,d,hd,n,c⟩:=(ok a _ e);exact⟨o,i.toArray,n,b,d,c,by simpa using su r⟩
theorem yG{kvs:List (List Key×V)}(ok:HOk P w H h)(e:Rd H a (.dT kvs)):kvs.length≤aaj/\(a==abC)=false/\
  ∃xs,KT H kvs xs/\h.DictOfH (agi (cq P w)) a xs:=by
 let⟨z,y,xs,r,o,n,f,k,d,g,c,i⟩:=(OI ok e);refine⟨z,y,xs,r,o,n,f,k,d,g,c,λx b=>?_,i⟩;have all:∀{l:List _}{m:List _},KT H l m->∀x∈m,(agi (cq P w)).is h x.1 x.2.1:=by
  intro l m q
  induction q with
  |nil=>intro x b;exact nomatch b
  | @cons p q ps qs hq t ih=>
   intro x b;rcases aak.mp b with e|b
   .subst e;exact sD ok (by simp_all)
   .exact ih x b
 exact all r x b
def Si{kvs:List (List Key×V)}(ok:HOk P w H h)(e:H a=some (.dT kvs)):kvs.length≤aaj/\(a==abC)=false/\
  ∃xs,KT H kvs xs/\h.DictOfH (agi (cq P w)) a xs:=yG ok (.inl e)
end
def DGet(H:Hp)(a:Addr)(y:V)(r:Option V):Prop:=
 (∃kvs k,Rd H a (.dK kvs)/\y=kV k/\r=valV kvs k)\/∃kvs k b,Rd H a (.dT kvs)/\y = .ref b/\H b=some (.tup (k.map kV))/\r=valV kvs k
def DPut(H:Hp)(a:Addr)(y v:V)(H':Hp):Prop:=
 (∃kvs k,H a=some (.dK kvs)/\y=kV k/\kvs.length<aaj/\H'=upd H a (.dK (putK kvs k v))) \/
 ∃kvs k b,H a=some (.dT kvs)/\y = .ref b/\H b=some (.tup (k.map kV))/\kvs.length<aaj/\H'=upd H a (.dT (putK kvs k v))
theorem DGet.k{kvs:List (Key×V)}{k:Key}(e:H a=some (.dK kvs)):DGet H a (kV k) (valV kvs k):=.inl ⟨kvs,k,.inl e,rfl,rfl⟩
theorem DPut.k{kvs:List (Key×V)}{k:Key}(e:H a=some (.dK kvs))(h:kvs.length<aaj):DPut H a (kV k) v (upd H a (.dK (putK kvs k v))):=.inl ⟨kvs,k,e,rfl,h,rfl⟩
section
variable {X:Cx}{d:List (Addr×Obj)}{f:St}{H:Hp}{s:GT}{a:Addr}{y v:V}{u r:Ad}{o:Option V}{A:aa8}{E:Ad->GT->Prop}
def Inv.big(I:Inv X d f H s):abC<s.heap.objs.size:=by
 have h:=(I.mod.glob.keeps I.bk).lt;exact ad7 (by decide) h
theorem sj(D:A.units+1<cLine)(I:Inv X d f H s)(g:DGet H a y (some v))(C:RelV y u)(h:∀m s',Inv X d f H s'->RelV v m->Q m s') :
  wpAny (model X.prog X.w) A (aek (.ref a) u) Q E s:=by
 rcases g with⟨kvs,k,e,x,l⟩|⟨kvs,k,b,e,x,eb,l⟩
 .subst x;let⟨z,hd,vs,i,q⟩:=sd I.hok e;let⟨m,n,c⟩:=RelO.some_of (v:=v) (o:=agn vs k) (by rw[l];exact i.val k);exact wpAny_getItem_of (xi C) q.mapOf n (h m _ (I.tok _) c)
 .subst x
  cases (show u=abw b from C)
  let⟨z,hd,xs,i,q⟩:=yG I.hok e;let⟨m,n,c⟩:=RelO.some_of (v:=v) (o:=(atKey xs k).map (·.2)) (by rw[l];exact i.val k);let⟨p,F,B⟩:=ad8.mp n;refine wpAny_getItem_heap (adW D) (sD I.hok eb) q F ?_;rw[B];exact h m _ (I.tok _) c
theorem d_in(x:A.units+1<cLine)(I:Inv X d f H s)(g:DGet H a y o)(n:RelV y u)(h:∀s',Inv X d f H s'->Q (.bool o.isSome) s') :
  wpAny (model X.prog X.w) A (abm .In u (.ref a)) Q E s:=by
 rcases g with⟨kvs,k,e,m,l⟩|⟨kvs,k,b,e,m,eb,l⟩
 .subst m;let⟨z,hd,vs,c,i⟩:=sd I.hok e;refine wpAny_in_of (xi n) hd i.mapOf ?_;rw[<-(c.val k).isSome_eq,<-l];exact h _ (I.tok _)
 .subst m;cases (n);let⟨z,hd,xs,c,i⟩:=yG I.hok e;refine wpAny_in_heap (adW x) (sD I.hok eb) hd i ?_;have q:=(c.val k).isSome_eq;rw[afe]at q;rw[<-q,<-l];exact h _ (I.tok _)
theorem GA(x:A.units+1<cLine)(I:Inv X d f H s)(g:DGet H a y o)(n:RelV y u)(h:∀s',Inv X d f H s'->Q (.bool (!o.isSome)) s') :
  wpAny (model X.prog X.w) A (abm .NotIn u (.ref a)) Q E s:=by
 rcases g with⟨kvs,k,e,m,l⟩|⟨kvs,k,b,e,m,eb,l⟩
 .subst m;let⟨z,hd,vs,c,i⟩:=sd I.hok e;refine wpAny_notIn_of (xi n) hd i.mapOf ?_;rw[<-(c.val k).isSome_eq,<-l];exact h _ (I.tok _)
 .subst m;cases (n);let⟨z,hd,xs,c,i⟩:=yG I.hok e;refine wpAny_notIn_heap (adW x) (sD I.hok eb) hd i ?_;have q:=(c.val k).isSome_eq;rw[afe]at q;rw[<-q,<-l];exact h _ (I.tok _)
def oj{h':aaW}{t':Nat}{c:HO}(I:Inv X d f H s)(mu:Mut (H a))(h:ab3 a s.heap h')(g:∃q,h'.get? a=some q)(new:ObjOk X.prog X.w (upd H a c) h' a c) :
  Inv X d f (upd H a c) {s with heap:=h',toks:=t' }:=
 I.write mu (.inl rfl) (λb q e z=>(h.2 b e).trans z) g new
def D7{h':aaW}{kvs:List (Key×V)}{vs:List (Key×Ad)}(z:kvs.length≤aaj)(hd:(a==abC)=false)(b:KV kvs vs)(c:h'.DictOf (cq P w) a vs) :
  ObjOk P w H' h' a (.dK kvs):=⟨z,hd,vs,b,c⟩
theorem yL{Q:Unit->GT->Prop}(U:A.units+1<cLine)(I:Inv X d f H s)(g:DPut H a y v H')(M:RelV y u)(L:RelV v r)(h:∀s',Inv X d f H' s'->Q () s') :
  wpAny (model X.prog X.w) A (setItem (.ref a) u r) Q E s:=by
 rcases g with⟨kvs,k,e,G,l,F⟩|⟨kvs,k,b,e,G,eb,l,F⟩
 .subst G F;let⟨z,hd,vs,i,x⟩:=Lg I.hok e;have B:vs.length≤aaj:=by rw[<-i.length];exact z
  have C:(putK kvs k v).length≤aaj:=by have:=ir kvs k v;exact aaD ‹_› ‹_›
  refine wpAny_setItem_pairs (hsz:=B) (xi M) x λJ m D=>h _ ?_;have V:∃q,J.get? a=some q:=let ⟨q,_,_,n,_⟩:=m;⟨q,n⟩;exact oj I (by rw[e];exact adU) D V (D7 C hd (i.put k L) m)
 .subst G F;cases (M);let⟨z,hd,xs,i,x⟩:=Si I.hok e;have B:xs.length≤aaj:=by rw[<-agv i];exact z
  have C:(putK kvs k v).length≤aaj:=by have:=ir kvs k v;exact aaD ‹_› ‹_›
  refine wpAny_setItem_heap (hsz:=B) (adW U) (sD I.hok eb) x λJ m D=>h _ ?_;let⟨q,Y,S,n,R,T,O,_,W⟩:=m;refine oj I (by rw[e];exact adU) D ⟨q,n⟩ ⟨C,hd,_,(i.put k eb L).keeps λc Z N=>?_,q,Y,S,n,R,T,O,W⟩;rw[au (uw N e (λz=>nomatch z))];exact N
end
def NoSl(i:Expr):Prop:=∀o b,af6 i false o b=operate [o,b] (aek o b)
theorem yQ{prog:aaI}{A:aa8}{E:Ad->GT->Prop}{s:GT}{env:Env}{c b:Expr}{T id:String}
  (n:typeLookup (.type T) "__getitem__" = pure (some (.builtin id))) (q:NoSl b)
  (h:wpAny (model prog w) A (eval c env) (λo f=>wpAny (model prog w) A (eval b env) (λi d=>d.TypeIs o T/\wpAny (model prog w) A (aek o i) Q E d) E f) E s) :
  wpAny (model prog w) A (eval (.Subscript c b pos) env) Q E s:=by
 refine agE (acb h (λo f m=>acb m (λi d e=>?_) λ_ _ x=>x) λ_ _ x=>x);let⟨hT,e⟩:=e;unfold agy;refine gT ?_;rw[getitemInPython_of_ne hT.not_modules];refine gT (aez hT n ?_);have k:wpAny (model prog w) A (af6 b false o i) (λr g=>wpAny (model prog w) A (letTemporaryGo c o r >>= λ_=>pure r) Q E g) E d:=by
  rw[q o i];exact wpAny_operating (acb e (λr g l=>gT (wpAny_letTemporaryGo (LD l))) λ_ _ x=>x)
 first
  |exact LD (gT k)
  |exact gT (LD (gT k))
  |exact gT k
theorem ua{c:List (Addr×Obj)}{d:St}{s:GT}{o:Option V}(I:Inv X c d H s)(g:DGet H a y o):s.TypeIs (.ref a) "dict":=by
 rcases g with⟨kvs,k,e,_,_⟩|⟨kvs,k,b,e,_,_,_⟩
 .obtain⟨_,_,vs,_,dd⟩:=sd I.hok e;exact dd.typeIs
 .obtain⟨_,_,xs,_,dd⟩:=yG I.hok e;exact dd.typeIs
def Tu(d ty:TE):TE:=λc H Q=>d c H λx e=>ty c e λy b=>∃a v,x = .ref a/\DGet b a y (some v)/\Q v b
def Ul(d ty h:TE):TS:=λD b H=>h b H λv g=>d b g λx e=>ty b e λy f=>∃a c,x = .ref a/\DPut f a y v c/\D.nx b c
section
variable {X:Cx}{o i e b:Expr}{pos p c:Pos}{t ty d:TE}
theorem GL(m:X.A.units+1<cLine)(E:PE X o t)(A:PE X i ty)(G:NoSl i):PE X (.Subscript o i pos) (Tu t ty):=by
 intro f s l H Q I h;refine yQ ae6.lookup G (thn (E f s l H _ I h) λu s1 ⟨x,q,F,B,z⟩=>thn (A f s1 l q _ F z) λL s2 ⟨y,n,k,J,a,v,ex,g,C⟩=>?_);subst ex;obtain rfl:u=abw a:=B;exact⟨ua k g,sj m k g J λN M D r=>⟨v,n,D,r,C⟩⟩
theorem GW(F:X.A.units+1<cLine)(N:PE X o t)(J:PE X i ty)(C:PE X b d)(B:abB b (some (.Subscript o i p)) pos.line X.env=pure false) :
  PS X (.Assign [.Subscript o i p] b pos) (Ul t ty d):=by
 intro f s k H D I h;refine afM (thn (C f s k H _ I h) λr s1 ⟨v,n,O,R,G⟩=>thn (N f s1 k n _ O G) λu s2 ⟨x,l,q,L,M⟩=>thn (J f s2 k l _ q M) λU T ⟨y,W,A,S,a,m,ex,g,z⟩=>?_) B;subst ex;obtain rfl:u=abw a:=L;exact yL F A g S R λV E=>⟨k,m,E,z⟩
end
def vk(h:aaW)(b:abC<h.objs.size):ObjOk P w H (h.push {cls:=.type "dict",data:=.dict #[]}) h.objs.size (.dK []):=
 ⟨abF _,beq_eq_false_iff_ne.mpr (ab0 (aa3 b)),[],.nil,aaW.DictOf.new h⟩
def PQ:TE:=λ_ H Q=>∀p,H p=none->Q (.ref p) (upd H p (.dK []))
section
variable {X:Cx}{pos:Pos}
theorem pe_dnewK:PE X (.Dict [] [] pos) PQ:=λb s c H Q I h=>
 wpAny_Dict_empty ⟨.ref s.heap.objs.size,_,I.laid (t':=s.toks) (λ_ _ q=>Ld _ q) (aab _) (vk s.heap I.big),rfl,h _ (I.hok.fresh (aab _))⟩
end
def u3:List (TE×TE)->St->Hp->(List (V×V)->Hp->Prop)->Prop
 |[],_,H,Q=>Q [] H
 |(tk,tv)::r,σ,H,Q=>tk σ H λx d=>tv σ d λy b=>u3 r σ b λe c=>Q ((x,y)::e) c
abbrev VV:List (V×V)->List (Ad×Ad)->Prop:=abO λp q=>RelV p.1 q.1/\RelV p.2 q.2
def PPs(X:Cx)(pos:Pos)(keys:List (Option Expr))(values:List Expr)(trs:List (TE×TE)):Prop:=
 ∀(b:List (Addr×Obj)) (s:GT) (c:St) (H:Hp) (Q:List (V×V)->Hp->Prop),Inv X b c H s->u3 trs c H Q ->
  wpAny (model X.prog X.w) X.A (evalPairs (pairTrees keys values X.env pos)) (λvs e=>∃d H',Inv X b c H' e/\VV d vs/\Q d H') X.xe s
theorem IC:PPs X pos [] [] []:=λb s c H Q I h=>pairTrees_nil_walk ⟨[],H,I,.nil,h⟩
theorem BH{k v:Expr}{vs:List Expr}{d e:TE}(hk:PE X k d)(D:PE X v e)(C:PPs X pos ks vs trs) :
  PPs X pos (some k::ks) (v::vs) ((d,e)::trs):=λb s c H Q I h=>
 pairTrees_cons_walk (thn (hk b s c H _ I h) λu s1 ⟨x,g,B,m,l⟩=>thn (D b s1 c g _ B l) λG s2 ⟨y,f,i,E,o⟩=>
  thn (C b s2 c f _ i o)<|by intro ws F ⟨n,z,A,r,q⟩;exact⟨(x,y)::n,z,A,.cons ⟨m,E⟩ r,q⟩)
def jK(kvs more:List (Key×V)):List (Key×V):=more.foldl (λb k=>putK b k.1 k.2) kvs
theorem KV.merge:∀{more:List (Key×V)}{rs:List (Key×Ad)}{kvs:List (Key×V)}{vs:List (Key×Ad)},KV more rs->KV kvs vs->KV (jK kvs more) (merged vs rs):=by
 intro more rs kvs vs r;unfold KV at r
 induction r generalizing kvs vs with
 |nil=>intro q;exact q
 | @cons p q ps qs h t ih=>
  intro b;have e:KV (putK kvs p.1 p.2) (stored vs q.1 q.2):=by
   have:=b.put p.1 h.2;rw[<-h.1];exact this
  exact ih e
theorem i5:∀(more kvs:List (Key×V)),(jK kvs more).length≤kvs.length+more.length
 |[],kvs=>by show kvs.length≤kvs.length+0;omega
 |p::r,kvs=>by
  have h:=i5 r (putK kvs p.1 p.2);have b:=ir kvs p.1 p.2;show(jK (putK kvs p.1 p.2) r).length≤_;rw[aaw];omega
theorem m9{P:aaI}{w:World}:∀{kvs:List (Key×V)}{ws:List (Ad×Ad)},VV (kvs.map λk=>(kV k.1,k.2)) ws->∃rs,Carries (cq P w) ws rs/\KV kvs rs
 |[],_,r=>by rw[ad6]at r;cases r;exact⟨[],adU,.nil⟩
 | p::kvs,_,r=>by
  rw[aan]at r
  cases r with
  | @cons a b as bs h t=>
   let⟨rs,c,q⟩:=m9 (P:=P) (w:=w) t;let⟨b1,b2⟩:=b;exact⟨(p.1,b2)::rs,⟨xi h.1,rfl,c⟩,.cons ⟨rfl,h.2⟩ q⟩
def Tq(trs:List (TE×TE)):TE:=λc H Q=>∀p,H p=none->u3 trs c (upd H p (.dK [])) λd b=>b p=some (.dK [])/\∃kvs:List (Key×V),d=kvs.map (λk=>(kV k.1,k.2))/\kvs.length≤15/\Q (.ref p) (upd b p (.dK (jK [] kvs)))
theorem Jv{keys:List (Option Expr)}(h:PPs X pos keys values trs)(b:keys.all (·.isSome)=true)(m:keys.length=values.length)(F:keys≠[])
  (g:keys.length≤15):PE X (.Dict keys values pos) (Tq trs):=by
 intro f s J H Q I q;have D:=I.hok.fresh (aab s.heap.objs.size);have M:=I.laid (a:=s.heap.objs.size) (o:=.dK []) (h':=s.heap.push {cls:=.type "dict",data:=.dict #[]}) (t':=s.toks) (λ_ _ q=>Ld _ q) (aab _) (vk s.heap I.big);refine wpAny_Dict_walk (knd:=cq X.prog X.w) b m F g (thn (h f _ J _ _ M (q _ D)) λws s2 ⟨O,N,i,r,e,kvs,n,R,G⟩=>?_);subst n;let⟨rs,c,E⟩:=m9 (P:=X.prog) (w:=X.w) r;let⟨z,hd,C,L,k⟩:=Lg i.hok e;cases L;refine⟨rs,c,k,λh' d A=>⟨.ref s.heap.objs.size,_,?_,rfl,G⟩⟩;have l:(jK [] kvs).length≤aaj:=by
  have x:=i5 kvs [];rw[ac5]at x;rw[aar];omega
 have B:∃q,h'.get? s.heap.objs.size=some q:=let ⟨q,_,_,hq,_⟩:=d;⟨q,hq⟩;exact oj i (by rw[e];exact adU) A B (D7 l hd (E.merge .nil) d)
section
variable {K:Kd}{H H':Hp}{τ:List (List Nat×Addr)}
mutual
theorem TAt.monoP(f:Pers H H'):∀{d:aD}{p:List Nat}{v:V},(∀q a,τ.lookup (p++q)=some a->H' a=H a)->TAt K H τ p d v->TAt K H' τ p d v
 | .none,_,_,_,h=>by simp only[TAt]at h⊢;exact h.mono f
 | .bool _,_,_,_,h=>by simp only[TAt]at h⊢;exact h.mono f
 | .int _,_,_,_,h=>by simp only[TAt]at h⊢;exact h.mono f
 | .str _,_,_,_,h=>by simp only[TAt]at h⊢;exact h.mono f
 | .tuple _,_,_,_,h=>by simp only[TAt]at h⊢;exact h.mono f
 | .list ts,p,_,e,h=>by
  simp only[TAt]at h⊢;let⟨a,xs,b,l,m,g⟩:=h;exact⟨a,xs,b,l,(e [] a (by rw[aa0];exact b)).trans m,TAtL.monoP f (λi q a z=>e (i::q) a z) g⟩
 | .dict kvs,p,_,e,h=>by
  simp only[TAt]at h⊢;rcases h with⟨d,b,h⟩|⟨n,o,a,r,b,l,m,k,g⟩|⟨n,o,a,r,b,l,m,g⟩|⟨c,a,dx,C,xs,s,b,l,m,k,g⟩
  .exact .inl ⟨d,b,h.mono f⟩
  .exact .inr (.inl ⟨n,o,a,r,b,l,(e [] a (by rw[aa0];exact b)).trans m,k,TAtD.monoP f (λi q a z=>e (i::q) a z) g⟩)
  .exact .inr (.inr (.inl ⟨n,o,a,r,b,l,(e [] a (by rw[aa0];exact b)).trans m,TAtK.monoP f (λi q a z=>e (i::q) a z) g⟩))
  .exact .inr (.inr (.inr ⟨c,a,dx,C,xs,s,b,l,(e [] a (by rw[aa0];exact b)).trans m,k,TAtF.monoP f (λi q a z=>e (i::q) a z) g⟩))
theorem TAtL.monoP(b:Pers H H'):∀{ds:List aD}{p:List Nat}{i:Nat}{xs:List V},(∀i q a,τ.lookup (p++i::q)=some a->H' a=H a)->TAtL K H τ p i ds xs->TAtL K H' τ p i ds xs
 |[],_,_,_,_,h=>by simpa only[TAtL]using h
 |t::ts,p,i,_,e,h=>by
  simp only[TAtL]at h⊢;let⟨v,vs,c,d,g⟩:=h;exact⟨v,vs,c,TAt.monoP b (λq a z=>e i q a (by simpa using z)) d,TAtL.monoP b e g⟩
theorem TAtD.monoP(b:Pers H H'):∀{ds:List (aD×aD)}{p:List Nat}{i:Nat}{xs:List (Int×V×V)},(∀i q a,τ.lookup (p++i::q)=some a->H' a=H a)->TAtD K H τ p i ds xs->TAtD K H' τ p i ds xs
 |[],_,_,_,_,h=>by simpa only[TAtD]using h
 |(k,t)::r,p,i,_,e,h=>by
  simp only[TAtD]at h⊢;let⟨u,v,vs,c,d,f,g⟩:=h;exact⟨u,v,vs,c,d.mono b,TAt.monoP b (λq a z=>e i q a (by simpa using z)) f,TAtD.monoP b e g⟩
theorem TAtK.monoP(b:Pers H H'):∀{ds:List (aD×aD)}{p:List Nat}{i:Nat}{xs:List (Key×V)},(∀i q a,τ.lookup (p++i::q)=some a->H' a=H a)->TAtK K H τ p i ds xs->TAtK K H' τ p i ds xs
 |[],_,_,_,_,h=>by simpa only[TAtK]using h
 |(k,t)::r,p,i,_,e,h=>by
  simp only[TAtK]at h⊢;let⟨u,v,vs,c,d,f,g⟩:=h;exact⟨u,v,vs,c,d,TAt.monoP b (λq a z=>e i q a (by simpa using z)) f,TAtK.monoP b e g⟩
theorem TAtF.monoP(b:Pers H H'):∀{ds:List (aD×aD)}{p:List Nat}{i:Nat}{xs:List (Str×V)},(∀i q a,τ.lookup (p++i::q)=some a->H' a=H a)->TAtF K H τ p i ds xs->TAtF K H' τ p i ds xs
 |[],_,_,_,_,h=>by simpa only[TAtF]using h
 |(.str f,t)::r,p,i,_,e,h=>by
  simp only[TAtF]at h⊢;let⟨v,vs,c,k,g⟩:=h;exact⟨v,vs,c,TAt.monoP b (λq a z=>e i q a (by simpa using z)) k,TAtF.monoP b e g⟩
 |(.none,d)::r,_,_,_,e,h=>by simp only[TAtF]at h⊢;exact TAtF.monoP b e h
 |(.bool _,d)::r,_,_,_,_,h=>by simp only[TAtF]at h
 |(.int _,d)::r,_,_,_,_,h=>by simp only[TAtF]at h
 |(.list _,d)::r,_,_,_,_,h=>by simp only[TAtF]at h
 |(.tuple _,d)::r,_,_,_,_,h=>by simp only[TAtF]at h
 |(.dict _,d)::r,_,_,_,_,h=>by simp only[TAtF]at h
end
end
def setT:aD->List Nat->aD->aD
 |_,[],n=>n
 | .list ts,i::p,n=>.list (ts.set i (setT (ts.getD i .none) p n))
 | .dict kvs,i::p,n=>.dict (kvs.set i ((kvs.getD i (.none,.none)).1,setT (kvs.getD i (.none,.none)).2 p n))
 |t,_::_,_=>t
section
variable {K:Kd}{H b:Hp}{τ:List (List Nat×Addr)}{p q:List Nat}{P:List Nat}
theorem TAtL.setL(f:Pers H b){t':aD}:∀{ts:List aD}{i j:Nat}{xs:List V},TAtL K H τ p i ts xs->(∀v,xs[j]?=some v->TAt K b τ (p++[i+j]) t' v)->(∀l,l≠i+j->∀q a,τ.lookup (p++l::q)=some a->b a=H a)->TAtL K b τ p i (ts.set j t') xs
 |[],_,_,_,h,_,_=>by simpa only[List.set_nil,TAtL]using h
 | t::ts,i,0,xs,h,c,e=>by
  simp only[TAtL]at h;let⟨v,vs,rfl,_,g⟩:=h;refine⟨v,vs,rfl,c v rfl,?_⟩;clear c;have:∀{ts:List aD}{d:Nat}{vs:List V},i<d->TAtL K H τ p d ts vs->TAtL K b τ p d ts vs:=by
   intro ts
   induction ts with
   |nil=>intro d vs _ h;simpa only[TAtL]using h
   |cons t ts n=>
    intro d vs o h;simp only[TAtL]at h⊢;let⟨v,vs,rfl,k,g⟩:=h;exact⟨v,vs,rfl,TAt.monoP f (λq a z=>e d (by exact abx ‹_›) q a (by simpa using z)) k,n (by omega) g⟩
  exact this (abA i) g
 |t::ts,i,j+1,xs,h,c,e=>by
  simp only[TAtL]at h;let⟨v,vs,rfl,k,g⟩:=h;exact⟨v,vs,rfl,TAt.monoP f (λq a z=>e i (by simp) q a (by simpa using z)) k,TAtL.setL f g (λm z=>by rw[show i+1+j=i+(j+1) by omega];exact c m (by simpa using z)) λl o=>e l (by omega)⟩
theorem TAtK.rest(d:Pers H b){i:Nat}(e:∀l,l≠i->∀q a,τ.lookup (p++l::q)=some a->b a=H a):∀{ts:List (aD×aD)}{c:Nat}{vs:List (Key×V)},i<c->TAtK K H τ p c ts vs->TAtK K b τ p c ts vs
 |[],_,_,_,h=>by simpa[TAtK]
 |_::ts,c,vs,hl,h=>by
  let⟨k,v,vs,rfl,g,j,f⟩:=h;exact⟨k,v,vs,rfl,g,TAt.monoP d (λq a z=>e c (by exact abx ‹_›) q a (by simpa using z)) j,TAtK.rest d e (by omega) f⟩
theorem TAtK.setK(f:Pers H b){t':aD}:∀{ts:List (aD×aD)}{i j:Nat}{xs:List (Key×V)}{d g:aD},TAtK K H τ p i ts xs->ts[j]?=some (d,g)->(∀v,(∃kk,xs[j]?=some (kk,v))->TAt K b τ (p++[i+j]) t' v)->(∀l,l≠i+j->∀q a,τ.lookup (p++l::q)=some a->b a=H a)->TAtK K b τ p i (ts.set j (d,t')) xs
 |[],_,_,_,_,_,_,z,_,_=>by simp at z
 |(k,t)::ts,i,0,xs,d,g,h,z,c,e=>by
  simp at z;let⟨rfl,rfl⟩:=z;simp only[TAtK]at h;let⟨kk,v,vs,rfl,o,_,m⟩:=h;exact⟨kk,v,vs,rfl,o,c v ⟨kk,rfl⟩,TAtK.rest f e (abA i) m⟩
 |(k,t)::ts,i,j+1,xs,d,g,h,z,c,e=>by
  let⟨kk,v,vs,rfl,o,s,m⟩:=h;exact⟨kk,v,vs,rfl,o,TAt.monoP f (λq a z=>e i (by omega) q a (by simpa using z)) s,TAtK.setK f m (by simpa using z) (by intro r ⟨n,z⟩;rw[show i+1+j=i+(j+1) by omega];exact c r ⟨n,by simpa using z⟩) λl u=>e l (by omega)⟩
end
theorem uY(nd:(τ.map (·.2)).Nodup){q:List Nat}(h:τ.lookup p=some a)(c:τ.lookup q=some a):p=q:=by
 induction τ with
 |nil=>cases h
 | cons x τ i=>
  let⟨r,b⟩:=x;rw[aan,abd]at nd;rw[aa5]at h c
  by_cases d:p==r
  .rw[d]at h;cases h
   by_cases e:q==r
   .simp_all
   .simp only[afx]at e;rw[e]at c;exact(nd.1 (bX c)).elim
  .simp only[afx]at d;rw[d]at h
   by_cases e:q==r
   .rw[e]at c;cases c;exact(nd.1 (bX h)).elim
   .simp only[afx]at e;rw[e]at c;exact i nd.2 h c
def lG:aD->aD->Bool
 | .int a,.int b=>decide (a=b)
 | .str a,.str b=>decide (a=b)
 |_,_=>false
def kz(a b:Key):lG (keyD a) (keyD b)=decide (a=b):=by
 cases a<;>cases b<;>simp[keyD,lG]
def mN(k:aD):Nat->List (aD×aD)->Option (Nat×aD)
 |_,[]=>none
 |i,(k',t)::r=>if lG k' k=true then some (i,t)else mN k (i+1) r
def putD(k t:aD):List (aD×aD)->List (aD×aD)
 |[]=>[(k,t)]
 |(k',t')::r=>if lG k' k=true then(k',t)::r else(k',t')::putD k t r
def lfD:aD->aD
 | .list ds=>.dict [(.none,.list ds)]
 | .dict ds=>.dict [(.none,.dict ds)]
 |d=>d
theorem qc(h:isKd kvs=true):fzOf kvs=none/\excC kvs=none:=by
 cases kvs with
 |nil=>exact⟨rfl,rfl⟩
 |cons x r=>
  let⟨k,d⟩:=x
  cases k with
  |int _=>exact⟨rfl,rfl⟩
  |str _=>exact⟨rfl,rfl⟩
  |none=>simp[isKd]at h
  |bool _=>simp[isKd]at h
  |list _=>simp[isKd]at h
  |tuple _=>simp[isKd]at h
  |dict _=>simp[isKd]at h
section
variable {K:Kd}{H:Hp}{τ:List (List Nat×Addr)}{p:List Nat}
theorem TAtK.get':∀{ts:List (aD×aD)}{i j:Nat}{xs:List (Key×V)}{k t:aD},TAtK K H τ p i ts xs->ts[j]?=some (k,t)->∃kk v,xs[j]?=some (kk,v)/\k=keyD kk/\TAt K H τ (p++[i+j]) t v
 |[],_,_,_,_,_,_,e=>by simp at e
 |(k,t)::ts,i,0,xs,k',t',h,e=>by
  let⟨u,v,vs,rfl,f,l,_⟩:=h;simp at e;let⟨rfl,rfl⟩:=e;exact⟨u,v,rfl,f.1,l⟩
 |(k,t)::ts,i,j+1,xs,k',t',h,e=>by
  let⟨u,v,vs,rfl,_,_,g⟩:=h;let⟨kk,a,c,d,b⟩:=TAtK.get' (j:=j) g ‹_›;exact⟨kk,a,by simpa using c,d,by rw[show i+(j+1)=i+1+j by omega];exact b⟩
theorem TAtK.kd:∀{ts:List (aD×aD)}{i:Nat}{xs:List (Key×V)},TAtK K H τ p i ts xs->isKd ts=true
 |[],_,_,_=>rfl
 |_::ts,i,xs,h=>by
  let⟨u,v,vs,rfl,a,_,g⟩:=h;have:=g.kd;unfold isKd at this⊢;rw[ab2,this,a.1]
  cases u<;>rfl
theorem TAtK.len:∀{ts:List (aD×aD)}{i:Nat}{xs:List (Key×V)},TAtK K H τ p i ts xs->ts.length=xs.length
 |[],_,_,h=>by simp[TAtK]at h;subst h;rfl
 |(k,t)::ts,i,xs,h=>by
  let⟨u,v,vs,rfl,a,_,g⟩:=h;simp[g.len]
theorem TAtK.look{kk:Key}:∀{ts:List (aD×aD)}{i j:Nat}{xs:List (Key×V)}{t:aD},TAtK K H τ p i ts xs->mN (keyD kk) i ts=some (j,t)->∃v,valV xs kk=some v/\TAt K H τ (p++[j]) t v
 |[],_,_,_,_,_,e=>by cases e
 |(k,t)::ts,i,j,xs,t',h,e=>by
  simp only[TAtK]at h;let⟨u,v,vs,rfl,f,l,g⟩:=h;let⟨rfl,_⟩:=f;simp only[mN,kz]at e
  by_cases c:u=kk
  .rw[if_pos (decide_eq_true c)]at e;cases e;exact⟨v,de (p:=(u,v)) c,l⟩
  .rw[if_neg (by simpa using c)]at e;let⟨a,d,b⟩:=TAtK.look g e;exact⟨a,by rw[c9 (p:=(u,v)) c];exact d,b⟩
theorem sG{u:Key}{w:V}(c:u≠kk):putK ((u,w)::vs) kk v=(u,w)::putK vs kk v:=by
 unfold putK
 grind
theorem q9{w:V}(h:∀x∈vs,x.1≠kk):putK ((kk,w)::vs) kk v=(kk,v)::vs:=by
 unfold putK;rw[afp,decide_eq_true (rfl),Bool.true_or,if_pos rfl,aan,if_pos rfl]
 congr 1
 exact(abM λx a=>if_neg (h x a)).trans (agd _)
def Ca{x:Key×V}(h:x∈putK vs kk v):x.1=kk\/∃y∈vs,y.1=x.1:=by
 unfold putK at h
 split at h
 .obtain⟨y,h1,h2⟩:=aal.mp h;subst h2;refine .inr ⟨y,h1,?_⟩
  split<;>rfl
 .obtain h|h:=aaU.mp h
  .exact .inr ⟨x,h,rfl⟩
  .cases aah.mp h
   exact .inl rfl
theorem TAtK.put{v':V}(c:∀j,TAt K H τ (p++[j]) t' v'):∀{ts:List (aD×aD)}{i:Nat}{xs:List (Key×V)},TAtK K H τ p i ts xs->TAtK K H τ p i (putD (keyD kk) t' ts) (putK xs kk v')
 |[],i,xs,h=>by
  simp only[TAtK]at h;subst h;exact⟨kk,v',[],rfl,⟨rfl,λx a=>by cases a⟩,c i,rfl⟩
 | (k,t)::ts,i,xs,h=>by
  let⟨u,v,vs,rfl,g,f,b⟩:=h;let⟨rfl,g⟩:=g;simp only[putD,kz]
  by_cases e:u=kk
  .subst e;rw[if_pos (decide_eq_true rfl),q9 g];simp only[TAtK];exact⟨u,v',vs,rfl,⟨rfl,g⟩,c i,b⟩
  .rw[if_neg (by simpa using e),sG e];simp only[TAtK];refine⟨u,v,_,rfl,⟨rfl,λx a=>?_⟩,f,b.put c⟩;rcases Ca a with z|⟨y,d,z⟩
   .rw[z];exact λw=>e w.symm
   .rw[<-z];exact g y d
theorem kM{d:aD}(h:Den K H d v):TAt K H τ p (lfD d) v:=by
 cases d with
 |list ds=>simp[lfD];exact .inl ⟨_,rfl,h⟩
 |dict ds=>simp[lfD];exact .inl ⟨_,rfl,h⟩
 |none=>simpa[ TAt]
 |bool _=>simpa[lfD]
 |int _=>simpa[ TAt]
 |str _=>simpa[lfD]
 |tuple _=>simpa[ TAt]
theorem TAt.kd(h:TAt K H τ p (.dict kvs) v)(e:isKd kvs=true):∃a c,τ.lookup p=some a/\v = .ref a/\H a=some (.dK c)/\TAtK K H τ p 0 kvs c:=by
 obtain _:=qc e;rcases h with _|⟨_,_,b,c,f,d,i,k,g⟩|⟨_,_,b,c,f,d,i,g⟩|_
 .simp_all
 .rw[k.1]at e;cases e
 .exact⟨b,c,f,d,i,g⟩
 .simp_all
theorem TAt.node(h:TAt K H τ p t v)(e:g9 t=none):∃a,τ.lookup p=some a/\v = .ref a:=by
 cases t with
 |list ts=>
  simp only[TAt]at h;let⟨a,x,f,i,_⟩:=h;exact⟨a,f,i⟩
 |dict k=>
  have m:fzOf k=none:=e;simp only[TAt]at h;rcases h with⟨d,f,_⟩|⟨_,_,b,n,f,i,j,l,g⟩|⟨_,_,b,n,f,i,j,g⟩|⟨c,b,dx,C,x,o,f,i,j,l,g⟩
  .rw[m]at f;cases f
  .exact⟨b,f,i⟩
  .exact⟨b,f,i⟩
  .exact⟨b,f,i⟩
 |none=>cases e
 |bool _=>cases e
 |int _=>cases e
 |str _=>cases e
 |tuple _=>cases e
end
def okW:aD->List Nat->Bool
 |_,[]=>true
 | .list ts,i::q=>okW (ts.getD i .none) q
 | .dict kvs,i::q=>(isKd kvs||(excC kvs).isSome)&&okW (kvs.getD i (.none,.none)).2 q
 |_,_::_=>false
theorem BA{i:Nat}{k:aD}(h:isKd kvs=true)(e:kvs[i]?=some (k,t)):isKd (kvs.set i (k,t'))=true:=by
 unfold isKd at h⊢;rw[abr]at h⊢;intro x a;rcases ae5 a with z|z
 .exact h x z
 .subst z;exact h (k,t) (Io e)
theorem TAtF.restF{K:Kd}{H c:Hp}{τ:List (List Nat×Addr)}{p:List Nat}(g:Pers H c){i:Nat}(e:∀l,l≠i->∀q a,τ.lookup (p++l::q)=some a->c a=H a):∀{ts:List (aD×aD)}{b:Nat}{vs:List (Str×V)},i<b->TAtF K H τ p b ts vs->TAtF K c τ p b ts vs
 |[],_,_,_,h=>by simpa only[TAtF]
 |(.str f,t)::ts,b,vs,hl,h=>by
  let⟨v,vs,rfl,j,k⟩:=h;exact⟨v,vs,rfl,TAt.monoP g (λq a z=>e b (by omega) q a (by simpa using z)) j,TAtF.restF g e (by omega) k⟩
 |(.none,d)::r,_,_,hl,h=>by simp only[TAtF];exact TAtF.restF g e (by omega) h
 |(.bool _,d)::r,_,_,_,h=>by simp[TAtF]at h
 |(.int _,d)::r,_,_,_,h=>by simp only[TAtF]at h
 |(.list _,d)::r,_,_,_,h=>by simp only[TAtF]at h
 |(.tuple _,d)::r,_,_,_,h=>by simp[TAtF]at h
 |(.dict _,d)::r,_,_,_,h=>by simp[TAtF]at h
theorem TAtF.setF{K:Kd}{H m:Hp}{τ:List (List Nat×Addr)}{p:List Nat}(g:Pers H m){t' u:aD}{w:Str}:∀{ts:List (aD×aD)}{i j:Nat}{xs:List (Str×V)},TAtF K H τ p i ts xs->ts[j]?=some (.str w,u)->(∀v,TAt K H τ (p++[i+j]) u v->TAt K m τ (p++[i+j]) t' v)->(∀l,l≠i+j->∀q a,τ.lookup (p++l::q)=some a->m a=H a)->TAtF K m τ p i (ts.set j (.str w,t')) xs
 |[],_,_,_,_,z,_,_=>by simp at z
 |(k,t)::ts,i,0,xs,h,z,c,e=>by
  simp at z;let⟨rfl,rfl⟩:=z;simp only[TAtF]at h;let⟨v,vs,rfl,s,o⟩:=h;simp only[agJ,TAtF];exact⟨v,vs,rfl,c v s,TAtF.restF g e (abA i) o⟩
 |(.str f,t)::ts,i,j+1,xs,h,z,c,e=>by
  simp only[TAtF]at h;let⟨v,vs,rfl,s,o⟩:=h;exact⟨v,vs,rfl,TAt.monoP g (λq a z=>e i (by omega) q a (by simpa using z)) s,TAtF.setF g o (by simpa using z) (λn b=>by rw[show i+1+j=i+(j+1) by omega]at b⊢;exact c n b) λl x=>e l (by omega)⟩
 |(.none,d)::ts,i,j+1,xs,h,z,c,e=>by
  simp only[TAtF]at h;simp only[agK,TAtF];exact TAtF.setF g h (by simpa using z) (λn b=>by rw[show i+1+j=i+(j+1) by omega]at b⊢;exact c n b) λl x=>e l (by omega)
 |(.bool _,d)::r,_,_+1,_,h,_,_,_=>by simp only[TAtF]at h
 |(.int _,d)::r,_,_+1,_,h,_,_,_=>by simp only[TAtF]at h
 |(.list _,d)::r,_,_+1,_,h,_,_,_=>by simp only[TAtF]at h
 |(.tuple _,d)::r,_,_+1,_,h,_,_,_=>by simp only[TAtF]at h
 |(.dict _,d)::r,_,_+1,_,h,_,_,_=>by simp only[TAtF]at h
theorem TAt.ins{K:Kd}{c:Str}(h:TAt K H τ p (.dict kvs) v)(e:excC kvs=some c):∃a dx C xs,τ.lookup p=some a/\v = .ref a/\H a=some (.ins C dx xs)/\ClsN K c C/\TAtF K H τ p 0 kvs xs:=by
 have b:fzOf kvs=none:=by
  unfold excC at e
  split at e
  .rfl
  .cases e
 simp only[TAt]at h
 grind
theorem CY{i:Nat}{x:aD×aD}{c:Str}{k:aD}(h:excC kvs=some c)(e:kvs[i]?=some (k,t))(a:k≠.none):excC (kvs.set i x)=some c:=by
 cases kvs with
 |nil=>cases h
 | cons y r=>
  cases i with
  |zero=>
   simp;unfold excC at h
   simp_all
  |succ i=>
   unfold excC at h⊢
   split at h
   .rename_i z;simp at z;let⟨rfl,rfl⟩:=z;exact h
   .cases h
theorem TAt.set{K:Kd}{H:Hp}{τ:List (List Nat×Addr)}(nd:(τ.map (·.2)).Nodup){a:Addr}{o:HO}{n:aD}(J:Pers H (upd H a o)):∀{q p:List Nat}{t L:aD}{v:V},TAt K H τ p t v->getT t q=some L->okW t q=true->τ.lookup (p++q)=some a->TAt K (upd H a o) τ (p++q) n (.ref a)->(∀u,TAt K H τ (p++q) L u->u = .ref a)->TAt K (upd H a o) τ p (setT t q n) v
 |[],p,t,L,v,h,e,_,_,hn,hu=>by
  cases e;rw[aa0]at hn hu;rw[hu v h];unfold setT;exact hn
 | i::q,p,t,L,v,h,e,ok,ea,hn,hu=>by
  have f:∀(r:List Nat) (b:Addr),τ.lookup r=some b->r≠p++i::q->(upd H a o) b=H b:=λr b z ne=>au λeb=>by
   subst eb;exact ne (uY nd z ea)
  have F:τ.lookup ((p++[i])++q)=some a:=by simpa using ea
  have E:TAt K (upd H a o) τ ((p++[i])++q) n (.ref a):=by simpa using hn
  have I:∀u,TAt K H τ ((p++[i])++q) L u->u = .ref a:=λu z=>hu u (by simpa using z);simp only[getT]at e
  cases z:chD t i with
  |none=>rw[z]at e;cases e
  | some O=>
   rw[z]at e;have T:getT O q=some L:=e;have D:∀l,l≠0+i->∀r b,τ.lookup (p++l::r)=some b->(upd H a o) b=H b:=λl hl r b Q=>f _ _ Q λy=>by
    have:=List.append_cancel_left y;injection this with h1 _
    omega
   have self:∀b,τ.lookup p=some b->(upd H a o) b=H b:=λb Q=>f _ _ Q λy=>by
    have:=congrArg adh y;simp at this
   cases t with
   |list ts=>
    have d:ts[i]?=some O:=z;have M:ts.getD i .none=O:=by rw[aaa,d];rfl
    simp only[TAt]at h;let⟨b,S,A,G,N,g⟩:=h;simp only[setT,M,TAt];refine⟨b,S,A,G,(self b A).trans N,TAtL.setL J g (λY U=>?_) D⟩;let⟨v2,m,B⟩:=g.get (j:=i) d;rw[U]at m;cases m;rw[acJ]at B⊢;exact TAt.set nd J B T (by simp only[okW,M]at ok;exact ok) F E I
   | dict s=>
    simp only[chD]at z
    cases d:s[i]? with
    |none=>rw[d]at z;cases z
    |some kt=>
     let⟨k,P⟩:=kt;rw[d]at z;have X:k≠.none:=λw=>by subst w;cases z
     have G:P=O:=by split at z<;>simp_all
     subst G;have M:s.getD i (.none,.none)=(k,P):=by rw[aaa,d];rfl
     simp only[okW,M,aaS,afU]at ok;rcases ok.1 with x|x
     .obtain⟨b,es,A,G,N,g⟩:=h.kd x;have W:isKd (s.set i (k,setT P q n))=true:=BA x d;let⟨n1,n2⟩:=qc W;simp only[setT,M,TAt];refine .inr (.inr (.inl ⟨n1,n2,b,es,A,G,(self b A).trans N,TAtK.setK J g d (λY ⟨kk,U⟩=>?_) D⟩));let⟨kk2,v2,m,_,B⟩:=g.get' (j:=i) d;rw[U]at m;cases m;rw[acJ]at B⊢;exact TAt.set nd J B T ok.2 F E I
     .obtain⟨c,ec⟩:=afi.mp x;let⟨b,dx,C,S,A,G,N,kc,g⟩:=h.ins ec;let⟨Z,rfl⟩:=g.key (Io d) X;have R:excC (s.set i (.str Z,setT P q n))=some c:=CY ec d X;simp only[setT,M,TAt];refine .inr (.inr (.inr ⟨c,b,dx,C,S,R,A,G,(self b A).trans N,kc,TAtF.setF J g d (λY B=>?_) D⟩));rw[acJ]at B⊢;exact TAt.set nd J B T ok.2 F E I
   |none=>cases z
   |bool _=>cases z
   |int _=>cases z
   |str _=>cases z
   |tuple _=>cases z
abbrev onAt(P:Nat->List Nat->Prop):R->Prop
 | .at k p=>P k p
 |_=>False
abbrev Dw(P:aD->Prop):R->Prop
 | .imm (.int i)=>P (.int i)
 | .imm (.str x)=>P (.str x)
 |_=>False
def fC(k:Nat)(p:List Nat)(j:Nat)(t:aD):R:=match g9 t with
 |some d=>.imm d
 |none=>.at k (p++[j])
section
variable {K:Kx}{b:Al}{c H:Hp}{r:R}{v:V}{m:MSt}{f:St}
theorem vV{P:Nat->List Nat->Prop}(rr:RelR K b c H r v)(h:onAt P r):∃k p τ a,r = .at k p/\b[k]?=some (.T τ)/\τ.lookup p=some a/\v = .ref a/\P k p:=by
 unfold onAt at h
 split at h
 .obtain⟨τ,a,e1,e2,e3⟩:=rr;exact⟨_,_,τ,a,rfl,e1,e2,e3,h⟩
 .simp_all
theorem Gg{P:aD->Prop}(rr:RelR K b c H r v)(h:Dw P r):∃kk:Key,r = .imm (keyD kk)/\v=kV kk/\P (keyD kk):=by
 unfold Dw at h
 split at h
 .rename_i i;exact⟨.inl i,rfl,aC (show Den K H _ v from rr),h⟩
 .rename_i x;exact⟨.inr x,rfl,br (show Den K H _ v from rr),h⟩
 .simp_all
theorem Rel.dict(R:Rel K b m f H){k:Nat}(h:b[k]?=some (.T τ))(q:τ.lookup p=some a)(l:m.os[k]?=some [t])(j:getT t p=some (.dict kvs))(i:isKd kvs=true) :
  ∃e,H a=some (.dK e)/\TAtK K H τ p 0 kvs e:=by
 let⟨⟨n,s,z,g,_⟩,_⟩:=R.own k _ _ h l;cases z;let⟨o,d⟩:=g.get j;obtain _:=d.kd i
 simp_all
theorem jd(R:Rel K b m f H){k:Nat}(i:b[k]?=some (.T τ))(h:TAt K H τ (p++[j]) t v):RelR K b c H (fC k p j t) v:=by
 unfold fC
 cases e:g9 t with
 |some d=>exact iw h e
 |none=>
  let⟨a,g,l⟩:=h.node e;exact⟨τ,a,i,g,l⟩
end
section
variable {X:Cx}{o i e:Expr}{wo wi we:WE}{pos pos':Pos}
def dGot(m:MSt)(k:Nat)(p:List Nat)(y:aD)(K:R->Prop):Prop:=∃t a j b,m.os[k]?=some [t]/\getT t p=some (.dict a)/\isKd a=true/\mN y 0 a=some (j,b)/\K (fC k p j b)
def QZ(m:MSt)(k:Nat)(p:List Nat)(y d:aD)(P:aD->Prop):Prop:=∃t a,m.os[k]?=some [t]/\getT t p=some (.dict a)/\isKd a=true/\okW t p=true/\a.length<aaj/\P (setT t p (.dict (putD y (lfD d) a)))
abbrev wDIx(wo wi:WE):WE:=λm K=>wo m λa m1=>wi m1 λb m2=>onAt (λk p=>Dw (λy=>dGot m2 k p y λr=>K r m2) b) a
theorem Nh(J:X.A.units+64<cLine)(z:ME X o wo)(n:ME X i wi)(C:NoSl i:=by intro _ _;rfl):ME X (.Subscript o i pos) (wDIx wo wi):=(GL (by omega) z n C).wk<|by
 intro P H Q ⟨g,m,S,x,w,f⟩;refine⟨g,m,_,x,w,λO m1 V K k1 n1 b r s=>⟨g,m1,_,b,k1,λW m2 T h k2 n2 R c F=>?_⟩⟩;let⟨k,p,M,a,rfl,d,u,rfl,k2⟩:=vV r k2;let⟨N,rfl,rfl,t,l,j,L,I,q,E,y,k2⟩:=Gg c k2;let⟨U,G,A⟩:=R.dict d u I q E;let⟨v,B,D⟩:=A.look y;refine⟨a,v,rfl,by rw[<-B];exact DGet.k G,f _ m2 v h k2 (n2.trans n1) R ?_ (s.trans F)⟩;exact jd R d D
abbrev LL(we wo wi:WE):WS:=λD m=>we m λr m1=>jP (λd=>wo m1 λb m2=>wi m2 λc a=>onAt (λk p=>Dw (λy=>QZ a k p y d λt=>D.nx {a with os:=a.os.set k [t]}) c) b) r
theorem Jd(hu:X.A.units+64<cLine)(he:ME X e we)(ho:ME X o wo)(hi:ME X i wi)(hs:abB e (some (.Subscript o i pos')) pos.line X.env=pure false:=by rfl):MS X (.Assign [.Subscript o i pos'] e pos) (LL we wo wi):=(GW (by omega) ho hi he hs).wk<|by
 intro D σ H ⟨B,m,De,Rl,hw,k⟩;refine⟨B,m,_,Rl,hw,λr m1 v H1 q n1 n rr F1=>?_⟩;let⟨d,er,hd,q⟩:=fY rr q;refine⟨B,m1,_,n,q,λro m2 ov H2 q2 n2 w G U=>⟨B,m2,_,w,q2,λri m3 iv x h n3 R L V=>?_⟩⟩;let⟨kk,p,s,a,rfl,C,f,rfl,h⟩:=vV G h;let⟨y,rfl,rfl,t,c,Y,P,W,e6,e7,h⟩:=Gg L h;let⟨F,T,S⟩:=R.dict C f Y P W;have K:Den X.kx x d v:=(hd.mono (n.pers U)).mono (w.pers V);let⟨⟨t1,v0,z,g,a0,M,J⟩,mu⟩:=R.own kk (.T s) _ C Y;cases z;have E:Pers x (upd x a (.dK (putK F y v))):=bi (.inr ⟨_,T,rfl⟩);have nd:(s.map (·.2)).Nodup:=((fi B).mp R.nd).1 (.T s) (Io C);have I:TAtK X.kx (upd x a (.dK (putK F y v))) s p 0 c F:=TAtK.monoP E (λi q b zb=>au λeb=>by
  subst eb;have:=congrArg adh (uY nd zb f);simp at this) S
 have new:TAt X.kx (upd x a (.dK (putK F y v))) s p (.dict (putD (keyD y) (lfD d) c)) (.ref a):=by
  have O:=I.put (kk:=y) (t':=lfD d) (v':=v) λj=>kM (K.mono E);let⟨Z,z2⟩:=qc O.kd;simp only[TAt];exact .inr (.inr (.inl ⟨Z,z2,a,_,f,rfl,av,O⟩))
 have all:=TAt.set nd E g P e6 (by rw[abh];exact f) (by rw[abh];exact new) λu A=>by
  rw[abh]at A;let⟨a',es',l,eu,_⟩:=A.kd W;rw[f]at l;cases l;exact eu
 let⟨Q,F4⟩:=R.setW C E (ds':=[setT t p (.dict (putD (keyD y) (lfD d) c))]) (λb N=>au λeb=>N (eb▸bX f)) ⟨⟨_,v0,rfl,all,a0,M,J⟩,λb N=>by
  by_cases eb:b=a
  .subst eb;exact⟨_,av,rfl⟩
  .rw[au eb];exact mu b N⟩
 exact⟨a,_,rfl,DPut.k T (by rw[<-S.len];exact e7),k.nx B _ σ _ h (n3.trans (n2.trans n1)) Q (.of Q (((F1.trans U).trans V).trans F4))⟩
def m7:List (WE×WE)->MSt->(List (R×R)->MSt->Prop)->Prop
 |[],m,K=>K [] m
 |(wk,wv)::r,m,K=>wk m λc m1=>wv m1 λb m2=>m7 r m2 λp a=>K ((c,b)::p) a
inductive RelPs(K:Kd)(α:Al)(Hb H:Hp):List (R×R)->List (V×V)->Prop where
 |nil:RelPs K α Hb H [] []
 |cons {r1 r2:R}{rs:List (R×R)}{v1 v2:V}{vs:List (V×V)}:RelR K α Hb H r1 v1->RelR K α Hb H r2 v2->RelPs K α Hb H rs vs->RelPs K α Hb H ((r1,r2)::rs) ((v1,v2)::vs)
theorem RelPs.base{K:Kx}{a:Al}{m:MSt}{d:St}{c:Hp}(b:Rel K a m d H)(F:Frm a c H):∀{rs:List (R×R)}{vs:List (V×V)},RelPs K a H H' rs vs->RelPs K a c H' rs vs
 |_,_,.nil=>.nil
 |_,_,.cons h1 h2 t=>.cons (h1.base b F) (h2.base b F) (t.base b F)
theorem uZ{K:Kx}:∀{s:List (WE×WE)}{c:Al}{m:MSt}{d:St}{H:Hp}{f:List (R×R)->MSt->Prop}{Q:List (V×V)->Hp->Prop},Rel K c m d H->m7 s m f ->
  (∀ps j vs g,f ps j->j.np=m.np->Rel K c j d g->RelPs K c H g ps vs->Frm c H g->Q vs g)->u3 (s.map λw=>(tM K w.1,tM K w.2)) d H Q
 |[],c,m,d,H,f,Q,Rl,h,fin=>fin _ m _ H h rfl Rl .nil (Frm.refl _ _)
 | (wk,wv)::r,c,m,d,H,f,Q,Rl,h,fin=>
  ⟨c,m,_,Rl,h,λr1 m1 C z k1 n1 a p F=>⟨c,m1,_,a,k1,λB m2 A y k2 n2 b k n=>
   uZ b k2 λps t vs v u x l rs q=>fin _ t _ v u (x.trans (n2.trans n1)) l
    (.cons ((p.keep Rl a n).keep Rl b q) ((k.keep a b q).base a F) (rs.base b (F.trans n))) ((F.trans n).trans q)⟩⟩
def jJ:List (R×R)->Option (List (aD×aD))
 |[]=>some []
 |(.imm (.int i),.imm d)::r=>(jJ r).map ((.int i,d) :: ·)
 |(.imm (.str x),.imm d)::r=>(jJ r).map ((.str x,d) :: ·)
 |_::_=>none
def lfKV(kvs:List (aD×aD)):List (aD×aD):=kvs.map λk=>(k.1,lfD k.2)
def qU:List (aD×aD)->Bool
 |[]=>true
 |(k,_)::r=>r.all (λa=>!lG a.1 k)&&qU r
theorem ya{K:Kx}{s:Al}{l:Hp}{ps:List (R×R)}{vs:List (V×V)}(h:RelPs K s l H ps vs):∀{kvs:List (aD×aD)}{i:Nat},jJ ps=some kvs->qU kvs=true->∃a:List (Key×V),vs=a.map (λk=>(kV k.1,k.2))/\TAtK K H τ p i (lfKV kvs) a/\∀kk,(kvs.all λk=>!lG k.1 (keyD kk))=true->∀x∈a,x.1≠kk:=by
 induction h with
 |nil=>intro kvs i e _;cases e;exact⟨[],rfl,by simp[lfKV,TAtK],λ_ _ _ h=>by cases h⟩
 | @cons r1 r2 rs v1 v2 vs h1 h2 t ih=>
  intro kvs i e n;have go:∀(kk:Key) (d:aD),r1 = .imm (keyD kk)->r2 = .imm d->(jJ rs).map ((keyD kk,d) :: ·)=some kvs->∃a:List (Key×V),(v1,v2)::vs=a.map (λk=>(kV k.1,k.2))/\TAtK K H τ p i (lfKV kvs) a/\∀kk,(kvs.all λk=>!lG k.1 (keyD kk))=true->∀x∈a,x.1≠kk:=by
   clear e;intro kk d u j e;subst u j
   cases q:jJ rs with
   |none=>rw[q]at e;cases e
   | some b=>
    rw[q]at e;cases e;simp only[qU,aaS]at n;let⟨a,v,g,un⟩:=ih (i:=i+1) q n.2;have f:v1=kV kk:=by
     cases kk with
     |inl i=>exact aC (show Den K H (.int i) v1 from h1)
     |inr x=>exact br (show Den K H (.str x) v1 from h1)
    subst f;refine⟨(kk,v2)::a,by rw[aan,<-v],?_,λc hk x m=>?_⟩
    .simp only[lfKV,aan,TAtK];exact⟨kk,v2,a,rfl,⟨rfl,un kk n.1⟩,kM h2,g⟩
    .rw[ab2,aaS,kz]at hk;rcases aak.mp m with z|z
     .subst z;simpa using hk.1
     .exact un c hk.2 x z
  unfold jJ at e
  split at e
  .rename_i z;cases z
  .rename_i i' d r z;cases z;exact go (.inl i') d rfl rfl e
  .rename_i x d r z;cases z;exact go (.inr x) d rfl rfl e
  .cases e
theorem qG:∀{more kvs:List (Key×V)},(more.map (·.1)).Nodup->(∀x∈more,valV kvs x.1=none)->jK kvs more=kvs++more
 |[],kvs,_,_=>(aa0 _).symm
 | (k,v)::more,kvs,nd,h=>by
  show jK (putK kvs k v) more=_;rw[aan,abd]at nd;rw[CZ v (h (k,v) aac),qG nd.2 λx a=>?_,aaV]
  .rfl
  .rw[r8 _ _ _ _ (h (k,v) aac),if_neg]
   .exact h x (aad _ a)
   .exact λz=>nd.1 (z▸List.mem_map_of_mem a)
theorem TAtK.nodup{K:Kd}:∀{ts:List (aD×aD)}{i:Nat}{xs:List (Key×V)},TAtK K H τ p i ts xs->(xs.map (·.1)).Nodup
 |[],_,_,h=>by simp only[TAtK]at h;subst h;exact abT
 |(k,t)::ts,i,xs,h=>by
  simp only[TAtK]at h;let⟨u,v,vs,rfl,g,_,c⟩:=h;rw[aan];rw[abd];refine⟨λz=>?_,c.nodup⟩;let⟨x,a,b⟩:=aal.mp z;exact g.2 x a b
def Au(P:List (aD×aD)->Prop):Option (List (aD×aD))->Prop
 |some k=>qU k=true/\k.length≤15/\P (lfKV k)
 |none=>False
abbrev L9(w:List (WE×WE)):WE:=λm K=>m7 w m λp a=>Au (λk=>K (.newT (.dict k)) a) (jJ p)
def MPs(X:Cx)(pos:Pos)(keys:List (Option Expr))(v:List Expr)(a:List (WE×WE)):Prop:=PPs X pos keys v (a.map λw=>(tM X.kx w.1,tM X.kx w.2))
def IE:MPs X pos [] [] []:=IC
def Dg{k v:Expr}{vs:List Expr}{wk:WE}(hk:ME X k wk)(a:ME X v wv)(h:MPs X pos ks vs ws):MPs X pos (some k::ks) (v::vs) ((wk,wv)::ws):=BH hk a h
theorem JG{keys:List (Option Expr)}(h:MPs X pos keys values ws)(j:keys.all (·.isSome)=true:=by rfl)(t:keys.length=values.length:=by rfl)(G:keys≠[]:=by exact λz=>by cases z)(r:keys.length≤15:=by decide):ME X (.Dict keys values pos) (L9 ws):=
 (Jv h j t G r).wk<|by
 intro O H Q ⟨k,m,P,u,J,s⟩;intro p l;refine uZ (u.lay l) J λI m1 vs f k1 n1 R N F=>?_
 cases e:jJ I with
 |none=>rw[e]at k1;exact k1.elim
 | some kvs=>
  rw[e]at k1;let⟨y,t,k1⟩:=k1;have a:p∉ads k:=u.out l;have w:f p=some (.dK []):=F p _ av a;let⟨d,D,g,_⟩:=ya (τ:=[([],p)]) (p:=[]) (i:=0) N e y;refine⟨w,d,D,by rw[<-g.len];simpa[lfKV]using t,?_⟩;have C:jK [] d=d:=by
   have:=qG (more:=d) (kvs:=[]) g.nodup λx _=>rfl;rwa[abh]at this
  rw[C];have v:Pers f (upd f p (.dK d)):=bi (.inr ⟨_,w,rfl⟩);have fr:Frm k H (upd f p (.dK d)):=λb A eb nb=>by
   have ne:b≠p:=bq eb l;rw[au ne];exact F b A (by rw[au ne];exact eb) nb
  have old:Ext X.kx.eb.np k H k (upd f p (.dK d)):=⟨rfl,fr,λ_ h=>.inl h,λb c=>by
   have n:b≠p:=λe=>a (e▸c);rw[au n];let⟨K,L,_⟩:=R.mem c;exact⟨K,L⟩⟩
  refine s _ m1 _ _ k1 n1 (R.at' v (λb c=>au λe=>a (e▸c)) (u.ebx.trans old)) ⟨[([],p)],p,rfl,rfl,by simp,λb c=>by simp at c;subst c;exact l,⟨⟨_,.ref p,rfl,?_,p,rfl,rfl⟩,λb c=>by simp at c;subst c;exact⟨_,av,rfl⟩⟩⟩ fr;let⟨E,M⟩:=qc g.kd;simp only[TAt];refine .inr (.inr (.inl ⟨E,M,p,d,rfl,rfl,av,TAtK.monoP v (λi q b B=>?_) g⟩));simp[aen]at B
end
section
variable {m:MSt}{Q:R->MSt->Prop}{w f g:WE}{D:fG}
def OG{k:Nat}{y d:aD}{K:R->Prop}(a:m.os[k]?=some [t])(e:getT t p=some (.dict kvs))(i:isKd kvs=true)(c:mN y 0 kvs=some (j,t'))(b:g9 t'=some d)(h:K (.imm d)) :
  dGot m k p y K:=⟨t,kvs,j,t',a,e,i,c,by unfold fC;rw[b];exact h⟩
theorem uT{y t t':aD}:∀{kvs:List (aD×aD)}{i j:Nat},mN y i kvs=some (i+j,t')->∃k',lG k' y=true/\putD y t kvs=kvs.set j (k',t)
 |[],_,_,e=>by cases e
 | (k',t0)::r,i,j,e=>by
  simp only[mN]at e
  by_cases c:lG k' y=true
  .rw[if_pos c]at e;have:i=i+j:=by simpa using congrArg (Option.map (·.1)) e
   obtain rfl:j=0:=by omega
   exact⟨k',c,by simp only[putD,if_pos c,agJ]⟩
  .rw[if_neg c]at e
   cases j with
   | zero=>
    exfalso;have b:∀{kvs:List (aD×aD)}{i j:Nat}{a:aD},mN y i kvs=some (j,a)->i≤j:=by
     intro kvs
     induction kvs with
     |nil=>intro i j a e;cases e
     |cons x r d=>
      intro i j a e;let⟨k1,l⟩:=x;simp only[mN]at e
      split at e
      .cases e;exact aab _
      .have:=d e;omega
    have:=b e;omega
   |succ j=>
    let⟨k2,h,k⟩:=uT (t:=t) (i:=i+1) (j:=j) (by rw[e];congr 2;omega);exact⟨k2,h,by simp only[putD,if_neg c,agK,k]⟩
def BQ{a b:aD}(h:lG a b=true):a=b:=by
 unfold lG at h
 split at h
 .rw[of_decide_eq_true h]
 .rw[of_decide_eq_true h]
 .cases h
theorem JA{k:Nat}{y d:aD}{P:aD->Prop}(c:m.os[k]?=some [t])(e:getT t p=some (.dict kvs))(q:isKd kvs=true)(n:okW t p=true)(l:kvs.length<aaj)(o:mN y 0 kvs=some (j,t'))(h:P (setT t p (.dict (kvs.set j (y,lfD d))))) :
  QZ m k p y d P:=by
 let⟨r,b,a⟩:=uT (t:=lfD d) (i:=0) (j:=j) (by rw[o,acJ]);rw[BQ b]at a;exact⟨t,kvs,c,e,q,n,l,by rw[a];exact h⟩
def Qb(h:K [] m):m7 [] m K:=h
def Iw{wk:WE}{r:List (WE×WE)}(h:wk m λc m1=>wv m1 λb m2=>m7 r m2 λps a=>K ((c,b)::ps) a):m7 ((wk,wv)::r) m K:=h
def yD{P:List (aD×aD)->Prop}{o:Option (List (aD×aD))}{k:List (aD×aD)}(e:o=some kvs)(c:qU kvs=true)(b:kvs.length≤15)(a:lfKV kvs=k)(h:P k):Au P o:=by subst e;subst a;exact⟨c,b,h⟩
theorem vf{n:Nat}{P:MSt->Prop}(h:P {vs:=m.vs.set n (some (.at m.os.length [])),os:=m.os++[[t]],np:=m.np}):sy n P m (.newT t):=.inl h
end
section
variable {X:Cx}{o i e:Expr}{wo wi we:WE}{pos pos':Pos}
theorem fU(b:X.A.units+64<cLine)(a:EE X o wo)(h:EE X i wi)(c:NoSl i:=by intro _ _;rfl):EE X (.Subscript o i pos) (wDIx wo wi):=⟨Nh b a.h h.h c⟩
def oX(h:X.A.units+64<cLine)(d:EE X e we)(c:EE X o wo)(b:EE X i wi)(a:abB e (some (.Subscript o i pos')) pos.line X.env=pure false:=by rfl):ES X (.Assign [.Subscript o i pos'] e pos) (LL we wo wi):=⟨Jd h d.h c.h b.h a⟩
structure EPs(X:Cx)(pos:Pos)(keys:List (Option Expr))(values:List Expr)(ws:List (WE×WE)):Prop where
 h:MPs X pos keys values ws
def CA:EPs X pos [] [] []:=⟨IE⟩
def ll{k v:Expr}{vs:List Expr}{wk:WE}(hk:EE X k wk)(a:EE X v wv)(h:EPs X pos ks vs ws):EPs X pos (some k::ks) (v::vs) ((wk,wv)::ws):=⟨Dg hk.h a.h h.h⟩
def DH{keys:List (Option Expr)}(h:EPs X pos keys values ws)(a:keys.all (·.isSome)=true:=by rfl)(d:keys.length=values.length:=by rfl)(c:keys≠[]:=by exact λz=>by cases z)(b:keys.length≤15:=by decide):EE X (.Dict keys values pos) (L9 ws):=⟨JG h.h a d c b⟩
end
end L2
namespace K
open PySem L2 M7
variable{ps:List (Nat×Nat)}
def Km(ns:List Int)(p q:Int):aD:=.dict [(.str "script",.dict [(.none,.list (ns.map .int))]),(.str "turn",.int p),(.str "left",.int q)]
def TapeK(c:Nat)(t:aD):Prop:=∃(ns:List Int) (p q:Int),t=Km ns p q/\ns.length≤63/\0≤p/\p≤c/\0≤q
def TapeK.mono{c c':Nat}{t:aD}(h:TapeK c t)(g:c≤c'):TapeK c' t:=by
 let⟨ns,p,q,e,b,d,f,a⟩:=h;exact⟨ns,p,q,e,b,d,by omega,a⟩
def xH:SpM:=λa K=>∃ns:List Int,a=[.imm (.list (ns.map .int))]/\ns.length≤63/\∀t,TapeK 0 t->K (.newT t) []
def pk:SpM:=λb K=>∃(t:aD) (m:Int) (c:Nat),b=[.tr t,.imm (.int m)]/\TapeK c t/\c<1000000000/\0<m/\m<1099511627776/\∀(r:Int) (a:aD),0≤r->r<m->TapeK (c+1) a->K (.imm (.int r)) [[a]]
def pC:SpM:=λa K=>∃rs:List Nat,a=[.imm (.list (rs.map λ(r:Nat)=>.int (r:Int)))]/\rs.length≤4/\(∀r∈rs,r≤6)/\K (.new ((M3.allR rs).map lnD)) []
def SvK(ps:List (Nat×Nat)):Prop:=1≤ps.length/\ps.length≤4/\∀p∈ps,1≤p.1/\p.1≤3/\1≤p.2/\p.2≤4
def bj(ps:List (Nat×Nat)):List Nat:=ps.map λp=>p.2
def jo(ps:List (Nat×Nat)):List (Nat×Nat):=ps.map λp=>(p.1,max 1 (p.2-1))
def BZ(h:SvK ps):SvK (jo ps):=by
 refine⟨by simpa[jo]using h.1,by simpa[jo]using h.2.1,λp b=>?_⟩;let⟨q,a,rfl⟩:=aal.mp b;have:=h.2.2 q a;exact⟨this.1,this.2.1,by show 1≤max 1 (q.2-1);omega,by show max 1 (q.2-1)≤4;omega⟩
theorem zP:∀{rs:List Nat},(∀r∈rs,r≤1)->M7.cnt rs≤2^rs.length
 |[],_=>aab _
 |r::rs,h=>by
  have c:=h r aac;have a:=zP (rs:=rs) λx b=>h x (aad _ b);show(r+1)*M7.cnt rs≤2^(rs.length+1);rw[Nat.pow_succ,acY];exact adl a (by omega)
theorem kj:∀{ps:List (Nat×Nat)},(∀p∈ps,1≤p.2)->(bj (jo ps)).sum≤(bj ps).sum/\((∃p∈ps,2≤p.2)->(bj (jo ps)).sum<(bj ps).sum)
 |[],_=>⟨aab _,by intro⟨p,b,_⟩;cases b⟩
 |p::ps,h=>by
  have i:=kj (ps:=ps) λx c=>h x (aad _ c);have b:=h p aac;have f:(bj (jo (p::ps))).sum=max 1 (p.2-1)+(bj (jo ps)).sum:=by simp[bj,jo]
  have e:(bj (p::ps)).sum=p.2+(bj ps).sum:=by simp[bj]
  rw[f,e];refine⟨by have:=i.1;omega,λ⟨q,a,d⟩=>?_⟩;obtain rfl|a:=aak.mp a
  .have:=i.1;omega
  .have:=i.2 ⟨q,a,d⟩;omega
def SvK.six(h:SvK ps):(bj ps).length≤4/\∀r∈bj ps,r≤6:=by
 refine⟨by simpa[bj]using h.2.1,λr a=>?_⟩;let⟨p,b,rfl⟩:=aal.mp a;have:=(h.2.2 p b).2.2.2;omega
def SvK.rep(h:SvK ps){p:Nat×Nat}(d:p∈ps){n:Nat}(a:1≤n)(c:n≤4):SvK (aas n p):=
 ⟨by rw[acD];exact a,by rw[acD];exact c,λq b=>by rw[List.eq_of_mem_replicate b];exact h.2.2 p d⟩
theorem zf{a:Type}(n:Nat)(x:a):(aas n [x]).flatten=aas n x:=by
 induction n with
 |zero=>rfl
 |succ n i=>rw[acu,agS,i,acu];rfl
def J3(p:Nat×Nat):aD:=.int (p.2:Int)
def topD(p:Nat×Nat):aD:=.int (p.1:Int)
def LJ(p:Nat×Nat):aD:=prD (p.1,max 1 (p.2-1))
def sE(ps:List (Nat×Nat)):ps.map J3=(bj ps).map λ(r:Nat)=>.int (r:Int):=by rw[bj,aa4];rfl
def zR(ps:List (Nat×Nat)):ps.map LJ=(jo ps).map prD:=by rw[jo,aa4];rfl
def srvK(wh:Nat)(p:Nat×Nat):Srv:=⟨p.1/p.1.gcd wh,wh/p.1.gcd wh,p.2⟩
def zJ{p wh:Nat}(c:1≤p)(e:p<1000000)(h:1≤wh)(d:wh<1000000):1≤p/p.gcd wh/\p/p.gcd wh<1000000/\1≤wh/p.gcd wh/\wh/p.gcd wh<1000000:=by
 have g:0<p.gcd wh:=afq _ h;have a:p.gcd wh≤wh:=Nat.gcd_le_right _ h;have b:p.gcd wh≤p:=Nat.gcd_le_left _ c;have d1:=Nat.div_le_self p (p.gcd wh);have f:=Nat.div_le_self wh (p.gcd wh);exact⟨Nat.div_pos b g,by omega,Nat.div_pos a g,by omega⟩
def uq(ps:List (Nat×Nat)):List Nat:=ps.map λp=>p.1
def Dq(ps:List (Nat×Nat)):ps.map topD=natD (uq ps):=by rw[uq,natD,aa4];rfl
theorem ve:∀{ps:List (Nat×Nat)},(∀p∈ps,p.1≤3)->(uq ps).sum≤3*ps.length
 |[],_=>aab _
 |p::ps,h=>by
  have i:=ve (ps:=ps) λx a=>h x (aad _ a);have:=h p aac;simp only[uq,aan,ac8,aaw]at i⊢;omega
theorem sumK:∀l:List Nat,(l.map λ(x:Nat)=>(x:Int)).sum=((l.sum:Nat):Int)
 |[]=>rfl
 |x::l=>by rw[aan,ac8,ac8,sumK l,aeA]
def yH(l:List Nat):cU (natD l)=some (l.map λ(k:Nat)=>(k:Int)):=by unfold natD;rw[show(l.map λ(k:Nat)=>abq (k:Int))=(l.map λ(k:Nat)=>(k:Int)).map .int by rw[aa4];rfl,dm]
def Ci{a:Type}(n:Nat)(x:a):(aas n [x]).flatten=aas n x:=by simp
def CJ(n x:Nat):aas n (abq (x:Int))=natD (aas n x):=by unfold natD;rw[agM]
end K
namespace HT
open PySem PySem.Spec PyProof.Rows
section
variable {prog:aaI}{w:World}{A:aa8}{E:Ad->GT->Prop}{s:GT}
theorem rev_items(xs:Array Ad):((aat xs.size).filterMap λ(m:Nat)=>xs[((xs.size:Int)-1+(m:Int) * -1).toNat]?)=xs.toList.reverse:=by
 apply aba;intro i;have d:∀k,k≤xs.size->((aat k).filterMap λ(m:Nat)=>xs[((xs.size:Int)-1+(m:Int) * -1).toNat]?)=(aat k).map λm=>xs.getD (xs.size-1-m) .none:=by
  intro k
  induction k with
  |zero=>intro _;rfl
  | succ k c=>
   intro hk;rw[acH,List.filterMap_append,aaH,c (by omega)];have e:((xs.size:Int)-1+(k:Int) * -1).toNat=xs.size-1-k:=by omega
   have h:xs.size-1-k<xs.size:=by omega
   have b:(List.filterMap (λ(m:Nat)=>xs[((xs.size:Int)-1+(m:Int) * -1).toNat]?) [k])=[xs.getD (xs.size-1-k) .none]:=by
    rw[adt,e,aca h];simp[h]
   rw[b];rfl
 rw[d xs.size (aab _)]
 by_cases a:i<xs.size
 .rw[aae,abo a,List.getElem?_reverse (by simpa using a)];have h:xs.size-1-i<xs.size:=by omega
  simp[h]
 .rw[aaT (by simp;omega),aaT (by simp;omega)]
end
end HT
namespace L2
open PySem PySem.Spec PyProof.Rows
section
variable {X:Cx}{a b e st:Expr}{c w:WE}{pos p:Pos}
theorem uQ:∀{xs:List V}{us:List Ad},Vals xs us->Vals xs.reverse us.reverse
 |_,_,.nil=>.nil
 |_,_,.cons r rs=>by
  rw[adf];rw[adf];exact(uQ rs).append (.cons r .nil)
theorem yx{K:Kd}{H:Hp}:∀{ds:List aD}{xs:List V},DenAll K H ds xs->DenAll K H ds.reverse xs.reverse
 |[],xs,h=>by
  have:xs=[]:=by simpa only[DenAll]using h
  subst this;simp only[List.reverse_nil,DenAll]
 |d::ds,xs,h=>by
  simp only[DenAll]at h;let⟨v,vs,rfl,f,g⟩:=h;rw[adf];rw[adf];exact(yx g).append (by simp only[DenAll];exact⟨v,[],rfl,f,rfl⟩)
end
end L2
namespace L2
open PySem PySem.Spec PySem.W PyProof.Rows
section
variable {X:Cx}
theorem vI{K:Kd}{H:Hp}{ds:List aD}{xs:List V}(g:DenAll K H ds xs):∀p:List Nat,DenAll K H (p.map λi=>ds.getD i .none) (p.map λi=>xs.getD i .non)
 |[]=>by simp only[ad6,DenAll]
 | i::p=>by
  simp only[aan];refine⟨_,_,rfl,?_,vI g p⟩
  cases e:ds[i]? with
  |some d=>
   let⟨v,a,hd⟩:=g.get e;rw[bp e,bp a];exact hd
  |none=>
   have a:xs[i]?=none:=by rw[List.getElem?_eq_none_iff]at e⊢;rw[<-g.length];exact e
   rw[aaa,aaa,e,a];rfl
theorem rQ{xs:List V}{us:List Ad}(r:Vals xs us):∀p:List Nat,Vals (p.map λi=>xs.getD i .non) (p.map λi=>us.getD i .none)
 |[]=>.nil
 | i::p=>by
  rw[aan,aan];refine .cons ?_ (rQ r p)
  cases e:xs[i]? with
  |some x=>
   let⟨u,a,h⟩:=r.get e;rw[bp e,bp a];exact h
  |none=>
   rw[aaa,aaa,e,r.none_of e];rfl
end
end L2
namespace K
open PySem L2 M7
def mh(n:Nat)(os:List (List Nat)):List (List Nat):=os.flatMap λa=>((aat n).filter λl=>!a.contains l).map λl=>a++[l]
def ordK(n:Nat):Nat->List (List Nat)
 |0=>[[]]
 |k+1=>mh n (ordK n k)
def vJ{n:Nat}{os:List (List Nat)}{j:Nat}{a:List Nat}(h:os[j]?=some a):mh n (os.take (j+1))=mh n (os.take j)++((aat n).filter λl=>!a.contains l).map λl=>a++[l]:=by
 unfold mh;rw[aaO,h];simp
def nw:∀n≤4,∀k≤4,(ordK n k).length≤24/\∀a∈ordK n k,a.length≤4/\∀x∈a,x≤3:=by decide +kernel
def mQ:∀n≤4,∀k≤3,∀j≤24,(mh n ((ordK n k).take j)).length≤24:=by decide +kernel
end K
namespace L2
open PySem PySem.Spec PyProof.Rows
variable{Q:Ad->GT->Prop}{i:Int}{ds ts:List aD}{j:Nat}{p3 p4:Pos}{a:Addr}{α:Al}{m2:MSt}{σ:St}{H:Hp}{ρ:List Nat}{kvs:List (aD×aD)}{K:Kd}{xs:List (aD×Addr×Ad)}{es:List (Key×V)}
section
variable {X:Cx}
def w6{prog:aaI}{w:World}{A:aa8}{E:Ad->GT->Prop}{s:GT}{l:Addr}{b:Array Ad}{n:Nat}{t:Tok}{u:Ad}(e:s.heap.get? l=some {cls:=.type "list",data:=.seq b n})(d:¬(!acz i)=true)(hsz:b.size≤aaj)
  (h:Q .none {s with heap:=s.heap.update l (acr λxs=>(xs.extract 0 (if i<0 then(i+((xs.size:Nat):Int)).toNat else min i.toNat xs.size)).push u++xs.extract (if i<0 then(i+((xs.size:Nat):Int)).toNat else min i.toNat xs.size))}):wpAny (model prog w) A (call (.builtin "list.insert") [.ref l,.int i t,u]) Q E s:=by
 have m:=@PySem.AutoListH.list_insert_list_int_val_1 l b n i t u d hsz;have tl:s.TypeIs (.ref l) "list":=⟨_,e,rfl⟩;have c:=wpAny_call (Q:=Q) (E:=E) (A:=A) (s:=s) (codeAny_call_builtin F.slot_list_insert.plain F.entry_list_insert (F.slot_list_insert.check _ _ _ _ _ _ _ _ tl (F.args_list_insert_3 (.ref l) (.int i t) u) (m prog w A (wants Q E) s ⟨e,h⟩)));exact c
def Kq:V->List V->Hp->VK->Prop:=λx vs H Q=>∃(l:Addr) (xs:List V) (i:Nat) (y:V),x = .ref l/\vs=[.int (i:Int),y]/\H l=some (.lst xs)/\i≤xs.length/\i<2^62/\xs.length<aaj/\Q .non (upd H l (.lst (xs.take i++[y]++xs.drop i)))
theorem yk:MtM X "list.insert" Kq:=by
 intro p s σ H x vs v C Q I g m h;let⟨l,xs,i,y,rfl,rfl,f,w,hi2,A,q⟩:=h;cases g
 cases m with
 | cons r1 d=>
  cases d with
  | cons d k=>
   cases k;rename_i D u;let⟨t,rfl⟩:=r1;let⟨z,b,n,r,B,e⟩:=I.lstM f;have o:¬(!acz (i:Int))=true:=by
    have:acz (i:Int)=true:=fitsIndex_both (by omega) (by omega);rw[this];decide
   have c:b.toArray.size≤aaj:=by rw[aaG];omega
   refine w6 e o c ?_;refine⟨.non,_,I.lset (its':=b.take i++[u]++b.drop i) f e ?_ (((r.take i).append (.cons d .nil)).append (r.drop i)) ?_,rfl,q⟩
   .show(b.toArray.extract 0 (if (i:Int)<0 then((i:Int)+((b.toArray.size:Nat):Int)).toNat else min (i:Int).toNat b.toArray.size)).push u++b.toArray.extract (if (i:Int)<0 then((i:Int)+((b.toArray.size:Nat):Int)).toNat else min (i:Int).toNat b.toArray.size)=_;rw[if_neg (by omega),show min (i:Int).toNat b.toArray.size=i by rw[aaG];omega];simp;exact aby (by rw[acT];omega)
   .simp only[aam,aau,acT,aaw,ac5];omega
def AE:WM:=λr rs m K=>Ah (λk=>∃(i:Nat) (d:aD) (ds:List aD),rs=[.imm (.int (i:Int)),.imm d]/\m.os[k]?=some ds/\i≤ds.length/\ds.length<aaj/\K (.imm .none) {m with os:=m.os.set k (ds.take i++[d]++ds.drop i)}) r
theorem wz:MtM X "list.insert" (mM X.kx AE):=by
 intro p s c H x xs v C Q I A G ⟨α,m,σ,N,L,r,rs,M,R,E,B,h,f⟩;let⟨k,a,rfl,e,rfl,h⟩:=Bf E h;let⟨i,d,ds,rfl,t,z,l,h⟩:=h
 cases B with
 | cons w b=>
  cases b with
  |cons b u=>
   cases u;rename_i J n;have D:=aC (show Den X.kx H (.int (i:Int)) J from w);subst D;have hd:Den X.kx H d n:=b;let⟨y,q,g⟩:=R.own _ _ ds e t;let⟨R2,F⟩:=R.setO e q (((g.take i).append (DenAll.cons hd DenAll.nil)).append (g.drop i));have o:ds.length<16777216:=by rw[<-aar];exact l
   exact yk p s c H _ _ v C Q I A G ⟨a,y,i,n,rfl,rfl,q,by rw[<-g.length];exact z,by omega,by rw[<-g.length];exact l,f _ _ _ _ h rfl R2 qJ F⟩
def BC{m:MSt}{k i:Nat}{d:aD}{K:R->MSt->Prop}(e:m.os[k]?=some ds)(b:i≤ds.length)(c:ds.length<aaj)(h:K (.imm .none) {m with os:=m.os.set k (ds.take i++[d]++ds.drop i)}):AE (.obj k) [.imm (.int (i:Int)),.imm d] m K:=⟨i,d,ds,rfl,e,b,c,h⟩
end
section
variable {X:Cx}{a b e st:Expr}{d c:WE}{pos l:Pos}
theorem Bx(xs:Array Ad):ag3 xs none none (some (-1))=xs.toList.reverse.toArray:=by
 unfold ag3
 congr 1
 rw[<-HT.rev_items xs];show(sliceRange ((xs.size:Int)-1) (-1) (-1)).filterMap _=_;unfold sliceRange;rw[if_neg (by decide)];have e:(if ((xs.size:Int)-1) > -1 then(((xs.size:Int)-1) - -1 - -1-1)/(- -1)else 0).toNat=xs.size:=by
  by_cases h:((xs.size:Int)-1) > -1
  .rw[if_pos h,show(- -1:Int)=1 from rfl,Int.ediv_one];omega
  .rw[if_neg h];omega
 simp only[e,agD]
 congr 1
 funext m
 show xs[((xs.size:Int)-1 + -1*(m:Int)).toNat]?=_;rw[Int.mul_comm]
def T5(K:aaf)(t ts:TE):TE:=λσ H Q=>t σ H λx g=>ts σ g λy f=>∃p xs,x = .ref p/\y = .int (-1)/\SqL K f p xs/\∀q,f q=none->Q (.ref q) (upd f q (.lst xs.reverse))
theorem JW{B ts:TE}(O:PE X e B)(n:PE X (.UnaryOp .USub (.Constant (.int i) j p3) p4) ts):PE X (.Subscript e (.Slice none none (some (.UnaryOp .USub (.Constant (.int i) j p3) p4)) l) pos) (T5 X.K B ts):=by
 intro f s σ H Q I h;refine agE (thn (O f s σ H _ I h) λv s1 ⟨x,G,R,r1,N⟩=>?_);refine wpAny_Slice ?_;rw[evalPart_none];refine LD (a:=_) (LD ?_);rw[evalPart_some];refine thn (n f s1 σ G _ R N) λvs g ⟨y,C,M,P,J⟩=>?_;let⟨p,xs,rfl,rfl,F,q⟩:=J;cases r1;let⟨t,rfl⟩:=P;have m:Inv X f σ C {g with heap:=g.heap.push {cls:=.type "slice",data:=.fields #[.none,.none,.int (-1) t]} }:=M.kept (t':=g.toks) λb T q=>Ld _ q;let⟨k,D,u,L⟩:=m.list F;have z:=D.length;have r:C {g with heap:=g.heap.push {cls:=.type "slice",data:=.fields #[.none,.none,.int (-1) t]} }.heap.objs.size=none:=m.hok.fresh (aab _);have S:=afj (prog:=X.prog) (w:=X.w) (A:=X.A) (E:=X.xe) (Q:=EP X f σ Q) (s:={g with heap:=g.heap.push {cls:=.type "slice",data:=.fields #[.none,.none,.int (-1) t]} }) (sl:=g.heap.objs.size) u.isList ⟨_,aao _ rfl,rfl,rfl⟩ .none .none (.int (-1) t) (by decide) (by
  rw[Bx];exact⟨.ref _,_,m.laid (t':=g.toks) (o:=.lst xs.reverse) (λ_ _=>Ld _) (aab _) ⟨by rw[agq];exact L,k.reverse,0,uQ D,aao _ rfl⟩,rfl,q _ r⟩) (by rw[aaG];omega)
 show wpAny (model X.prog X.w) X.A (agy e (.Slice none none (some (.UnaryOp .USub (.Constant (.int i) j p3) p4)) l) (.ref p) (.ref g.heap.objs.size)) (EP X f σ Q) X.xe {g with heap:=g.heap.push {cls:=.type "slice",data:=.fields #[.none,.none,.int (-1) t]} };exact tail_any (ops:=[.ref p,.ref g.heap.objs.size]) u.isList.typeIs afc.lookup S (by with_unfolding_all rfl)
abbrev QT(d c:WE):WE:=λm K=>d m λr m1=>c m1 λf m2=>∃ds,lsOf m2 r=some ds/\f = .imm (.int (-1))/\K (.new ds.reverse) m2
theorem GG(x:ME X e d)(p:ME X (.UnaryOp .USub (.Constant (.int i) j p3) p4) c):ME X (.Subscript e (.Slice none none (some (.UnaryOp .USub (.Constant (.int i) j p3) p4)) l) pos) (QT d c):=(JW x p).wk<|by
 intro σ H Q ⟨α,m,D,w,z,o⟩;refine⟨α,m,_,w,z,λr m1 v C k n1 h rr u=>⟨α,m1,_,h,k,λE m2 A t k2 n2 R s F=>?_⟩⟩;let⟨ds,B,rfl,k2⟩:=k2;let⟨a,xs,rfl,f,g⟩:=(rr.keep w h F).list R B;have y:=aC (show Den X.kx t (.int (-1)) A from s);subst y;refine⟨a,xs,rfl,rfl,f,λq n=>?_⟩;exact o _ m2 _ _ k2 (n2.trans n1) (R.lay n) ((show RelR X.kx.toKd α t _ (.new ds.reverse) (.ref q)from⟨q,_,rfl,n,av,(yx g).mono (bi (.inl n))⟩).base R (u.trans F)) ((u.trans F).trans (cn n))
def u4(f:EE X e d)(h:EE X (.UnaryOp .USub (.Constant (.int i) j p3) p4) c):EE X (.Subscript e (.Slice none none (some (.UnaryOp .USub (.Constant (.int i) j p3) p4)) l) pos) (QT d c):=⟨GG f.h h.h⟩
end
def isFz:HO->Bool
 | .lst _=>true
 | .dK _=>true
 | .ext _=>true
 |_=>false
section
variable {X:Cx}{p:List (Addr×Obj)}{d:St}{H:Hp}{s:GT}
theorem Inv.freezeU{u:HO}(I:Inv X p d H s)(h:H a=some u)(g:isFz u=true):∃o,Inv X p d (upd H a (.frz o u)) s:=by
 have ok:=I.hok a u h;let⟨o,e⟩:∃o,s.heap.get? a=some o:=by
  cases u with
  |lst xs=>let⟨_,m,n,_,e⟩:=ok;exact⟨_,e⟩
  |dK kvs=>let⟨_,_,vs,_,o,_,_,e,_⟩:=ok;exact⟨_,e⟩
  |ext t=>exact ok.2.1
  |_=>cases g
 have k:∀{b:Addr}{v:HO},H b=some v->v≠u->b≠a:=λq z=>uw q h z;refine⟨o,I.un (h':=s.heap) (t':=s.toks) ⟨λb f q _ _ _=>q,λb f q _ _ _=>⟨f.slots,q⟩,λb f q z _=>?_,λb f q _=>⟨f,q⟩,λb y q=>?_,λb f v q=>?_,λb r q=>⟨#[],?_⟩⟩ λb f q=>?_⟩
 .rw[au (ab0 (bq h z))];exact z
 .rw[au (k q (by intro z;subst z;cases g))];exact q
 .rw[au (k q (by intro z;subst z;cases g))];exact q
 .rw[au (k q (by intro z;subst z;cases g)),q];simp
 .have stay:∀{c:Addr}{v:HO},ObjOk X.prog X.w H s.heap c v->ObjOk X.prog X.w (upd H a (.frz o u)) s.heap c v:=λx=>x.stay (λ_ _ _ z=>z) (λc z=>by rw[au (k z (by intro z;subst z;cases g))];exact z) λc y z=>by rw[au (k z (by intro z;subst z;cases g))];exact z
  by_cases l:b=a
  .subst l;rw[av]at q;cases q;exact⟨e,stay ok⟩
  .rw[au l]at q;exact stay (I.hok b f q)
end
def tFrz(t:TS):TS:=λD σ H=>∃a u,H a=some u/\isFz u=true/\∀o,t D σ (upd H a (.frz o u))
section
variable {X:Cx}{st:Stmt}{w:WS}
theorem Uc{t:TS}(h:PS X st t):PS X st (tFrz t):=by
 intro p s σ H D I ⟨a,u,e,b,q⟩;let⟨o,c⟩:=I.freezeU e b;exact h p s σ _ D c (q o)
theorem B9{K:Kx}{m:MSt}(R:Rel K α m σ H)(N:Ren ρ m m2):Rel K (ρ.map λk=>α.getD k (.L 0)) m2 σ H/\Ext m.np α H (ρ.map λk=>α.getD k (.L 0)) H:=by
 have x:=gq R.len N.lt;have get:∀(k:Nat) (b:Ao),(ρ.map λk=>α.getD k (.L 0))[k]?=some b->∃j:Nat,ρ[k]?=some j/\α[j]?=some b:=λk b z=>by
  let⟨j,P,F⟩:=Paired.get2 x z;exact⟨j,P,F⟩
 have f:∀(k j:Nat) (b:Ao),ρ[k]?=some j->α[j]?=some b->(ρ.map λk=>α.getD k (.L 0))[k]?=some b:=λk j b A t=>by
  let⟨O,L,D⟩:=Paired.get' x A;rw[t]at D;cases D;exact L
 have g:(ρ.map λk=>α.getD k (.L 0)).take m.np=α.take m.np:=by
  apply aba;intro l;rw[aaQ,aaQ]
  by_cases c:l<m.np
  .rw[if_pos c,if_pos c];have:ρ[l]?=some l:=by
    have e:=congrArg (·[l]?) N.pre;simp only[aaQ,if_pos c]at e;rw[e,abo c]
   have n:l<α.length:=aav c R.npl;rw[f l l α[l] this (iO n),iO n]
  .rw[if_neg c,if_neg c]
 have ext:Ext m.np α H (ρ.map λk=>α.getD k (.L 0)) H:=⟨g,Frm.refl _ _,λa y=>by
  let⟨k,b,E,I⟩:=iX y;let⟨j,_,J⟩:=get k b E;exact .inl (jL J I),λa y=>by
  let⟨o,q,_⟩:=R.mem y;exact⟨_,q⟩⟩
 refine⟨⟨dG R.nd N.nd x,?_,λk b ds A t=>?_,?_,λj r z=>?_,?_,by rw[N.np];exact R.ebl,R.ebx.trans (ext.less R.ebl)⟩,ext⟩
 .rw[N.os,lD,lD]
 .obtain⟨j,q,qa⟩:=get k b A;rw[N.os,aae,q]at t;have M:j<m.os.length:=N.lt j (Io q);have C:m.os.getD j []=ds:=aaB t;refine R.own j b ds qa ?_;rw[<-C,aaa,iO M];rfl
 .rw[N.vl];exact R.vlen
 .have h:=N.vs j r z
  cases r with
  |imm d=>exact R.var j (.imm d) h
  |new _=>exact h.elim
  |newT _=>exact h.elim
  |obj k=>
   let⟨s,q,h⟩:=h;let⟨v,B,a,u,e⟩:=R.var j (.obj s) h;exact⟨v,B,a,f k s _ q u,e⟩
  | «at» k p=>
   let⟨s,q,h⟩:=h;let⟨v,B,G,a,u,S,e⟩:=R.var j (.at s p) h;exact⟨v,B,G,a,f k s _ q u,S,e⟩
 .rw[N.np,lD];exact N.npl
structure Fz(k:Nat)(dd:aD)(ρ:List Nat)(m m2:MSt):Prop where
 nd:ρ.Nodup
 lt:∀k∈ρ,k<m.os.length
 out:k∉ρ
 pre:ρ.take m.np=aat m.np
 npl:m.np≤ρ.length
 npk:m.np≤k
 os:m2.os=ρ.map λk=>m.os.getD k []
 np:m2.np=m.np
 vl:m2.vs.length=m.vs.length
 vs:∀(j:Nat) (r:R),m2.vs[j]?=some (some r)->RenR ρ m.vs[j]? r\/(r = .imm dd/\(m.vs[j]?=some (some (.obj k))\/m.vs[j]?=some (some (.at k []))))
def Fz.ren{k:Nat}{d:aD}{ρ:List Nat}{m m2:MSt}(F:Fz k d ρ m m2):∃b,Ren ρ m b/\b.np=m2.np/\b.os=m2.os/\b.vs.length=m2.vs.length/\∀(j:Nat) (r:R),m2.vs[j]?=some (some r)->b.vs[j]?=some (some r)\/(r = .imm d/\(m.vs[j]?=some (some (.obj k))\/m.vs[j]?=some (some (.at k [])))):=by
 classical
 refine⟨{m2 with vs:=m2.vs.mapIdx λj o=>match o with|some r=>if RenR ρ m.vs[j]? r then some r else none|none=>none},⟨F.nd,F.lt,F.pre,F.npl,F.os,F.np,by rw[<-F.vl];simp,λj r z=>?_⟩,rfl,rfl,by simp,λj r z=>?_⟩
 .simp only[age]at z
  cases q:m2.vs[j]? with
  |none=>rw[q]at z;cases z
  | some o=>
   rw[q]at z
   cases o with
   |none=>cases z
   |some c=>
    simp only[acG,agW]at z
    split at z
    .cases z;assumption
    .cases z
 .rcases F.vs j r z with h|h
  .left;simp only[age,z,acG,if_pos h]
  .exact .inr h
theorem KQ{m:MSt}{p:fG}{D:Ends}{k:Nat}{C:aD}{ao:Ao}{u:HO}(c:Rel X.kx α m σ H)(U:EndsOk X.kx m.np α H p D)(F:Fz k C ρ m m2)(B:α[k]?=some ao)(J:a∈ao.ads)(G:H a=some u)(y:isFz u=true)(mu:Mu u=true)
  (g:∀o,Pers H (upd H a (.frz o u))->Den X.kx (upd H a (.frz o u)) C (.ref a)) (name:∀(j:Nat) (v:V),(m.vs[j]?=some (some (.obj k))\/m.vs[j]?=some (some (.at k [])))->σ[j]?=some (some v)->v = .ref a) (P:w p m2):tFrz (tMS X.kx w) D σ H:=by
 let⟨m3,N,d,f,s,t⟩:=F.ren;let⟨W,q⟩:=B9 c N;refine⟨a,u,G,y,λo=>?_⟩;have I:Pers H (upd H a (.frz o u)):=bi (.inr ⟨u,G,mu⟩);have l:a∈ads α:=jL B J;have out:a∉ads _:=λz=>by
  let⟨i,x,L,Y⟩:=iX z;let⟨j,T,M⟩:=Paired.get2 (gq c.len N.lt) L;exact gc c.nd B M (λz=>F.out (z▸Io T)) J Y
 have E:Ext m.np α H (ρ.map λk=>α.getD k (.L 0)) (upd H a (.frz o u)):=⟨q.pre,λb Z e n=>by rw[au (λz=>n (by rw[z];exact l))];exact e,q.new,λb A=>by
  by_cases eb:b=a
  .subst eb;exact⟨_,av⟩
  .rw[au eb];exact q.old b A⟩
 have R:=W.at' I (λb A=>au λz=>out (z▸A)) (c.ebx.trans (E.less c.ebl));refine⟨_,m2,p,⟨R.nd,by rw[R.len,f],λk ao ds O S=>R.own k ao ds O (by rw[f];exact S),by rw[R.vlen,s],λj r z=>?_,by rw[<-d];exact R.npl,by rw[<-d];exact R.ebl,R.ebx⟩,P,by rw[F.np];exact U.ext E⟩;rcases t j r z with h|⟨rfl,h⟩
 .exact R.var j r h
 .obtain⟨v,ev⟩:∃v,σ[j]?=some (some v):=by
   rcases h with h|h
   .obtain⟨v,ev,_⟩:=c.var j _ h;exact⟨v,ev⟩
   .obtain⟨v,ev,_⟩:=c.var j _ h;exact⟨v,ev⟩
  refine⟨v,ev,?_⟩;rw[name j v h ev];exact g o I
def wFzL(w:WS):WS:=λD m=>∃(k j:Nat) (ds:List aD) (ρ:List Nat) (m2:MSt),m.vs[j]?=some (some (.obj k))/\m.os[k]?=some ds/\Fz k (.list ds) ρ m m2/\w D m2
theorem MF(h:MS X st w):MS X st (wFzL w):=(Uc h).wk<|by
 intro D σ H ⟨α,m,r,R,⟨k,f,ds,ρ,m2,ej,n,F,l⟩,q⟩;let⟨v,s,a,e,rfl⟩:=R.var f _ ej;let⟨xs,d,g⟩:=R.own k _ _ e n;refine KQ R q F e (aah.mpr rfl) d rfl rfl (λo p=>?_) (λj v b c=>?_) l
 .simp only[Den];exact⟨a,xs,rfl,.inl ⟨o,av⟩,g.mono p⟩
 .rcases b with b|b
  .obtain⟨v',ev',a',ea',rfl⟩:=R.var j _ b;rw[e]at ea';cases ea';rw[c]at ev';cases ev';rfl
  .obtain⟨v',ev',τ,a',ea',_⟩:=R.var j _ b;rw[e]at ea';cases ea'
def yw(d:aD):g9 (lfD d)=some d:=by cases d<;>rfl
theorem fzKK{K:Kd}{H:Hp}{τ:List (List Nat×Addr)}{p:List Nat}:∀{kvs:List (aD×aD)}{i:Nat}{es:List (Key×V)},TAtK K H τ p i (lfKV kvs) es->DenKK K H kvs es
 |[],_,_,h=>by simpa[ TAtK]
 |(k,d)::r,i,es,h=>by
  let⟨b,v,vs,rfl,c,g,e⟩:=h;exact⟨b,v,vs,rfl,c,iw g (yw d),fzKK e⟩
def J9(h:ES X st w):ES X st (wFzL w):=⟨MF h.h⟩
end
def FzVs(k:Nat)(d:aD)(ρ:List Nat):List (Option R)->List (Option R)->Prop
 |o::os,q::qs=>(RenO ρ o q\/(q=some (.imm d)/\(o=some (.obj k)\/o=some (.at k []))))/\FzVs k d ρ os qs
 |[],[]=>True
 |_,_=>False
theorem FzVs.len{k:Nat}{d:aD}{ρ:List Nat}:∀{os q:List (Option R)},FzVs k d ρ os q->q.length=os.length
 |[],[],_=>rfl
 |_::_,_::_,h=>congrArg (· + 1) (FzVs.len h.2)
 |[],_::_,h=>h.elim
 |_::_,[],h=>h.elim
theorem FzVs.get{k:Nat}{d:aD}{ρ:List Nat}:∀{os b:List (Option R)},FzVs k d ρ os b->∀(j:Nat) (r:R),b[j]?=some (some r)->RenR ρ os[j]? r\/(r = .imm d/\(os[j]?=some (some (.obj k))\/os[j]?=some (some (.at k []))))
 |o::os,q::b,h,0,r,e=>by
  have c:=by simpa using e
  subst c;rcases h.1 with h|_
  .exact .inl h
  .simp_all
 |o::os,q::b,h,j+1,r,e=>by simpa using FzVs.get h.2 j r ‹_›
 |[],[],_,_,_,e=>by simp at e
 |[],_::_,h,_,_,_=>h.elim
 |_::_,[],h,_,_,_=>h.elim
theorem Uo{k:Nat}{d:aD}{m:MSt}(nd:decide ρ.Nodup=true)(lt:(ρ.all λk=>Nat.blt k m.os.length)=true)(out:(ρ.all λi=>i != k)=true)(pre:ρ.take m.np=aat m.np)(npl:Nat.ble m.np ρ.length=true)(npk:Nat.ble m.np k=true)(os:m2.os=ρ.map λk=>m.os.getD k [])(np:m2.np=m.np)(vs:FzVs k d ρ m.vs m2.vs):Fz k d ρ m m2:=
 ⟨of_decide_eq_true nd,λk hk=>Nat.blt_eq.mp (abr.mp lt k hk),λz=>by simpa using abr.mp out k z,pre,aed npl,aed npk,os,np,vs.len,λj r e=>vs.get j r e⟩
def Tx{w:WS}{D:fG}{m:MSt}(k j:Nat)(ds:List aD)(ρ:List Nat)(m2:MSt)(b:m.vs[j]?=some (some (.obj k)))(e:m.os[k]?=some ds)(F:Fz k (.list ds) ρ m m2)(h:w D m2):wFzL w D m:=⟨k,j,ds,ρ,m2,b,e,F,h⟩
noncomputable instance instDecPyData:DecidableEq aD:=λa b=>Classical.propDecidable (a=b)
mutual
def jF:aD->Nat
 | .int _=>1
 | .str _=>1
 | .tuple ds=>ef ds+1
 |_=>0
def ef:List aD->Nat
 |[]=>0
 |d::ds=>jF d+ef ds
end
def kyD(d:aD):Bool:=(match d with| .tuple _=>true|_=>false)&&(hkD d&&(d.canLay0&&decide (d.depth≤7)))
theorem gW{d:aD}(h:kyD d=true):∃ds,d = .tuple ds/\hkA ds=true/\d.canLay0=true/\d.depth≤7:=by
 unfold kyD at h;rw[aaS,aaS,aaS,decide_eq_true_eq]at h
 cases d with
 |tuple ds=>exact⟨ds,rfl,by simpa[hkD]using h.2.1,h.2.2.1,h.2.2.2⟩
 |_=>simp at h
section
variable {w:World}{prog:aaI}
theorem rj(w:World):∀a b:List aD,ii w (a++b)=ii w a++ii w b
 |[],b=>by simp[ii]
 |d::a,b=>by simp[ ii,rj w a b]
theorem n9:∀a b:List aD,ef (a++b)=ef a+ef b
 |[],b=>by simp[ef]
 |d::a,b=>by simp[ ef,n9 a b];omega
theorem tW:∀{ds:List aD}{d:aD},hkA ds=true->d∈ds->hkD d=true
 |x::ds,d,h,a=>by
  simp[hkA]at h;obtain rfl|a:=aak.mp a
  .exact h.1
  .exact tW h.2 a
theorem jI{d:aD}(h:d∈ds):d.depth≤aaC ds:=by
 induction ds with
 |nil=>cases h
 |cons x ds i=>
  show _≤max x.depth _
  grind
mutual
theorem n6:∀(d:aD) {A:aa8}{E:Ad->GT->Prop}{s:GT}{v:Ad}{as:List Addr}{Q:Int->GT->Prop},hkD d=true->Reads s.heap v d as->A.units+d.depth<cLine->Q (gI w d) {s with toks:=s.toks+jF d}->wpAny (model prog w) A (pyHash v) Q E s
 | .int i,A,E,s,v,as,Q,_,r,_,h=>by
  cases r;exact wpAny_pyHash_int (by simpa only[gI,jF]using h)
 | .str x,A,E,s,v,as,Q,_,r,_,h=>by
  cases r;exact wpAny_pyHash_str (by simpa only[gI,jF]using h)
 | .tuple ds,A,E,s,v,as,Q,hk,r,hu,h=>by
  cases r with
  | @tuple a o vs n _ _ ho hc hd f=>
   have hT:s.TypeIs (.ref a) "tuple":=⟨o,ho,hc⟩;have j:A.units<cLine:=Nat.lt_of_le_of_lt (acx _ _) hu;have t:∀{P:Option Ad->GT->Prop},P (some (.builtin "tuple.__hash__")) s->wpAny (model prog w) A (aha (.ref a) "__hash__") P E s:=λp=>aez hT aff.lookup p;simp only[gI,jF]at h;refine gT (m:=cRoomFor "hash" [.ref a]) (wpAny_cRoomFor_or (.inr j) (gT (m:=aha _ _) (t ?_)));rw[if_neg (show ¬(some (Ad.builtin "tuple.__hash__")==some agC)=true by rw[beq_builtin_none];decide)];refine gT (m:=aha _ _) (t (gT (m:=callSpecialIfBoundUnlessNone? (.ref a) "__hash__" _) ?_));refine wpAny_callSpecialIfBoundUnlessNone?_slot hT aff (abk aff hT F.entry_tuple_hash (gT (m:=adj (.ref a)) (wpAny_tupleItemsOf ho hd ?_)) (F.args_tuple_hash_1 _));refine gT ?_;rw[<-agN];refine aeg _
    (λrest (b:Array Int) q=>∃done left bs,ds=done++left/\adF s.heap rest left bs/\b.toList=ii w done/\q={s with toks:=s.toks+ef done})
    _ ?_ ?_ _ _ ⟨[],ds,_,rfl,f,by simp[ii],by simp[ef]⟩
   .rintro x rest b q ⟨done,left,bs,hds,hl,hb,rfl⟩
    cases hl with
    | @cons _ _ d ds' as1 bs1 r1 r2=>
     have g:d∈ds:=by rw[hds];simp
     refine gT (uV ds d g (tW (by simpa only[hkD]using hk) g) (s:={s with toks:=s.toks+ef done}) r1 ?_ ?_)
     .have:=jI g;have e:(ab6 ds).depth=aaC ds+1:=rfl;show A.units+1+d.depth<cLine;omega
     .have fin:∃c l k,ds=c++l/\adF s.heap rest l k/\(b.push (gI w d)).toList=ii w c/\({s with toks:=s.toks+ef done+jF d}:GT)={s with toks:=s.toks+ef c }:=by
       refine⟨done++[d],ds',_,by rw[hds];simp,r2,?_,?_⟩
       .rw[ad9,hb,rj];simp[ii]
       .rw[n9,adI];simp[ef]
      first
       |exact LD fin
       |exact gT (LD (LD fin))
   .rintro b q ⟨done,left,bs,hds,hl,hb,rfl⟩;cases hl;rw[aa0]at hds;subst hds;change wpAny _ _ (retInt (abJ (b.toList:List Int))) _ _ _;rw[hb];refine wpAny_ret_mkInt ?_;show wpAny _ _ (if (decide (-(2:Int)^63≤abJ (ii w ds))&&decide (abJ (ii w ds)<2^63))=true then _ else _) Q E _;unfold reduceHash at h
    by_cases f:(decide (-(2:Int)^63≤abJ (ii w ds))&&decide (abJ (ii w ds)<2^63))=true
    .rw[if_pos f];rw[if_pos f]at h;refine LD ?_;simpa[adI]using h
    .rw[if_neg f];rw[if_neg f]at h;refine gT (m:=rule _) (abL (LD ?_));simpa[adI]using h
 | .none,_,_,_,_,_,_,hk,_,_,_=>by simp only[hkD]at hk;cases hk
 | .bool _,_,_,_,_,_,_,hk,_,_,_=>by simp only[hkD]at hk;cases hk
 | .list _,_,_,_,_,_,_,hk,_,_,_=>by simp only[hkD]at hk;cases hk
 | .dict _,_,_,_,_,_,_,hk,_,_,_=>by simp only[hkD]at hk;cases hk
theorem uV:∀(ds:List aD) (d:aD),d∈ds->∀{A:aa8}{E:Ad->GT->Prop}{s:GT}{v:Ad}{as:List Addr}{Q:Int->GT->Prop},hkD d=true->Reads s.heap v d as->A.units+d.depth<cLine->Q (gI w d) {s with toks:=s.toks+jF d}->wpAny (model prog w) A (pyHash v) Q E s
 |x::ds,d,hm=>by
  intro hk r a h;rcases aak.mp hm with e|b
  .rw[e]at hk r a h;exact n6 x hk r a h
  .exact uV ds d b hk r a h
end
mutual
theorem qZ:∀(a b:aD),hkD a=true->hkD b=true->aai a b=decide (a=b)
 | .int i,b,_,hb=>by
  cases b with
  |int j=>
   show decide (i=j)=_
   by_cases h:i=j
   .subst h;rw[decide_eq_true rfl,decide_eq_true rfl]
   .rw[decide_eq_false h,decide_eq_false (λz=>h (by cases z;rfl))]
  |str _=>rw[decide_eq_false (λz=>by cases z)];rfl
  |tuple _=>rw[decide_eq_false (λz=>by cases z)];rfl
  |none=>simp only[hkD]at hb;cases hb
  |bool _=>simp only[hkD]at hb;cases hb
  |list _=>simp only[hkD]at hb;cases hb
  |dict _=>simp only[hkD]at hb;cases hb
 | .str i,b,_,hb=>by
  cases b with
  |str j=>
   show decide (i=j)=_
   by_cases h:i=j
   .subst h;rw[decide_eq_true rfl,decide_eq_true rfl]
   .rw[decide_eq_false h,decide_eq_false (λz=>h (by cases z;rfl))]
  |int _=>rw[decide_eq_false (λz=>by cases z)];rfl
  |tuple _=>rw[decide_eq_false (λz=>by cases z)];rfl
  |none=>simp only[hkD]at hb;cases hb
  |bool _=>simp only[hkD]at hb;cases hb
  |list _=>simp only[hkD]at hb;cases hb
  |dict _=>simp only[hkD]at hb;cases hb
 | .tuple ds,b,ha,hb=>by
  cases b with
  |tuple e=>
   simp only[aai];rw[xv ds e (by simpa only[hkD]using ha) (by simpa only[hkD]using hb)]
   by_cases h:ds=e
   .subst h;rw[decide_eq_true rfl,decide_eq_true rfl]
   .rw[decide_eq_false h,decide_eq_false (λz=>h (by cases z;rfl))]
  |int _=>rw[decide_eq_false (λz=>by cases z)];rfl
  |str _=>rw[decide_eq_false (λz=>by cases z)];rfl
  |none=>simp only[hkD]at hb;cases hb
  |bool _=>simp only[hkD]at hb;cases hb
  |list _=>simp only[hkD]at hb;cases hb
  |dict _=>simp only[hkD]at hb;cases hb
 | .none,_,ha,_=>by simp only[hkD]at ha;cases ha
 | .bool _,_,ha,_=>by simp only[hkD]at ha;cases ha
 | .list _,_,ha,_=>by simp only[hkD]at ha;cases ha
 | .dict _,_,ha,_=>by simp only[hkD]at ha;cases ha
theorem xv:∀(a b:List aD),hkA a=true->hkA b=true->PyData.eqvAll a b=decide (a=b)
 |[],[],_,_=>by rw[decide_eq_true rfl];rfl
 |[],_::_,_,_=>by rw[decide_eq_false (λz=>by cases z)];rfl
 |_::_,[],_,_=>by rw[decide_eq_false (λz=>by cases z)];rfl
 | x::a,y::b,ha,hb=>by
  simp only[hkA,aaS]at ha hb;simp only[PyData.eqvAll];rw[qZ x y ha.1 hb.1,xv a b ha.2 hb.2]
  by_cases h:x=y
  .by_cases h2:a=b
   .subst h h2;rw[decide_eq_true rfl,decide_eq_true rfl,decide_eq_true rfl];rfl
   .rw[decide_eq_false h2,Bool.and_false,decide_eq_false (λz=>h2 (by cases z;rfl))]
  .rw[decide_eq_false h,Bool.false_and,decide_eq_false (λz=>h (by cases z;rfl))]
end
mutual
theorem Reads.hkeep{h h':aaW}{d:Addr}{o:Obj}{f:Array acd}{g:Nat}(e:h.get? d=some o)(hd:o.data = .dict f g)(c:ab3 d h h'):∀(k:aD) {v:Ad}{as:List Addr},hkD k=true->Reads h v k as->Reads h' v k as
 | .int _,_,_,_,r=>by cases r;exact .int _ _
 | .str _,_,_,_,r=>by cases r;exact .str _ _
 | .tuple ds,_,_,hk,r=>by
  cases r with
  | @tuple a o' vs n _ _ h1 h2 h3 h4=>
   have b:a≠d:=by
    rintro rfl;rw[e]at h1;cases h1;rw[hd]at h3;cases h3
   exact .tuple ((c.2 a b).trans h1) h2 h3 (ReadsAll.hkeep e hd c ds (by simpa only[hkD]using hk) h4)
 | .none,_,_,hk,_=>by simp only[hkD]at hk;cases hk
 | .bool _,_,_,hk,_=>by simp only[hkD]at hk;cases hk
 | .list _,_,_,hk,_=>by simp only[hkD]at hk;cases hk
 | .dict _,_,_,hk,_=>by simp only[hkD]at hk;cases hk
theorem ReadsAll.hkeep{h h':aaW}{d:Addr}{o:Obj}{e:Array acd}{f:Nat}(b:h.get? d=some o)(hd:o.data = .dict e f)(a:ab3 d h h'):∀(ks:List aD) {vs:List Ad}{as:List Addr},hkA ks=true->adF h vs ks as->adF h' vs ks as
 |[],_,_,_,r=>by cases r;exact .nil
 |k::ks,_,_,hk,r=>by
  simp only[hkA,aaS]at hk
  cases r with
  |cons r1 c=>exact .cons (Reads.hkeep b hd a k hk.1 r1) (ReadsAll.hkeep b hd a ks hk.2 c)
end
mutual
theorem k7:∀(d:aD) {A:aa8}{E:Ad->GT->Prop}{s:GT}{v:Ad}{as:List Addr}{n:Nat}{Q:Bool->GT->Prop},hkD d=true->Reads s.heap v d as->d.depth≤n->Q true s->wpAny (model prog w) A (eqIsQuiet n v) Q E s
 | .int _,_,_,_,_,_,_,_,_,r,_,h=>by cases r;rw[eqIsQuiet_byValue _ rfl];exact LD h
 | .str _,_,_,_,_,_,_,_,_,r,_,h=>by cases r;rw[eqIsQuiet_byValue _ rfl];exact LD h
 | .tuple ds,A,E,s,v,as,n,Q,hk,r,hn,h=>by
  cases r with
  | @tuple a o vs nn _ _ ho hc hd hr=>
   have hT:s.TypeIs (.ref a) "tuple":=⟨o,ho,hc⟩;have e:(ab6 ds).depth=aaC ds+1:=rfl
   cases n with
   |zero=>omega
   | succ n=>
    unfold eqIsQuiet;refine gT (m:=aha _ _) (aez hT F.slot_tuple_eq.lookup (gT (m:=isInstance (.ref a) (.type "tuple")) (ado hT isSubtype_tuple_tuple ?_)));simp only[if_false,acZ,Bool.not_true];refine gT (m:=seqItems? (.ref a)) (acB ho hd ?_);refine gT ?_;show wpAny _ _ (forIn vs _ _) _ _ s;rw[<-agN];refine aeg _ (λrest r c=>r.1=none/\c=s/\∃left bs,(∀d∈left,d∈ds)/\adF s.heap rest left bs) _ ?_ ?_ _ _ ⟨rfl,rfl,ds,_,λ_ h=>h,hr⟩
    .rintro x rest r c ⟨hr',rfl,left,bs,hsub,hl⟩
     cases hl with
     | @cons _ _ d ds' as1 bs1 r1 r2=>
      have b:d∈ds:=hsub d aac;refine gT (rq ds d b (tW (by simpa only[hkD]using hk) b) r1 (by have:=jI b;omega) ?_);simp only[if_false,acZ,Bool.not_true];exact LD ⟨rfl,rfl,ds',_,λz f=>hsub z (aad _ f),r2⟩
    .rintro⟨r1,r2⟩ c ⟨hr',rfl,_⟩;simp only at hr';subst hr';exact LD h
 | .none,_,_,_,_,_,_,_,hk,_,_,_=>by simp only[hkD]at hk;cases hk
 | .bool _,_,_,_,_,_,_,_,hk,_,_,_=>by simp only[hkD]at hk;cases hk
 | .list _,_,_,_,_,_,_,_,hk,_,_,_=>by simp only[hkD]at hk;cases hk
 | .dict _,_,_,_,_,_,_,_,hk,_,_,_=>by simp only[hkD]at hk;cases hk
theorem rq:∀(ds:List aD) (d:aD),d∈ds->∀{A:aa8}{E:Ad->GT->Prop}{s:GT}{v:Ad}{as:List Addr}{n:Nat}{Q:Bool->GT->Prop},hkD d=true->Reads s.heap v d as->d.depth≤n->Q true s->wpAny (model prog w) A (eqIsQuiet n v) Q E s
 |x::ds,d,hm=>by
  intro hk r a h;rcases aak.mp hm with e|b
  .rw[e]at hk r a;exact k7 x hk r a h
  .exact rq ds d b hk r a h
end
theorem md{d:aD}(h:kyD d=true):hkD d=true:=by
 let⟨ds,rfl,a,_⟩:=gW h;simpa[hkD]
noncomputable def mn (prog:aaI) (w:World):HeapKind prog w aD where
 is:=λh d a=>(∃c,Reads h (.ref a) d c)/\kyD d=true
 hash:=gI w
 draws:=jF
 room:=λA=>A.units+20<cLine
 inj:=λ{h a x y} ⟨⟨c,r1⟩,k1⟩ ⟨⟨bs,f⟩,k2⟩=>by
  let⟨ds,rfl,_,i,_⟩:=gW k1;exact SeqAt.Reads.unique _ _ _ _ _ i r1 f
 keeps:=λ⟨⟨c,r⟩,k⟩ j hd l=>⟨⟨c,Reads.hkeep j hd l _ (md k) r⟩,k⟩
 pyHash:=λ{A E s k a Q} g ⟨⟨c,r⟩,hk⟩ h=>by
  let⟨ds,e,_,_,hd⟩:=gW hk;exact n6 k (md hk) r (by omega) h
 eqBool:=λ{A E s x y a b Q} g ⟨⟨c,r1⟩,k1⟩ ⟨⟨bs,f⟩,k2⟩ h=>by
  let⟨ds,o,_,m,d1⟩:=gW k1;let⟨q,p,_,n,t⟩:=gW k2;refine ahb x y A s _ _ _ _ r1 f m n (by omega) prog w E Q ?_;rw[qZ x y (md k1) (md k2)];exact h
 quiet:=λ{A E s k a Q} ⟨⟨c,r⟩,hk⟩ h=>by
  let⟨ds,e,_,_,hd⟩:=gW hk;exact k7 k (md hk) r (by omega) h
end
def dF(k:aD):List (aD×aD)->Option aD
 |[]=>none
 |(k',d)::r=>if aai k' k=true then some d else dF k r
def putP(k d:aD):List (aD×aD)->List (aD×aD)
 |[]=>[(k,d)]
 |(k',d')::r=>if aai k' k=true then(k',d)::r else(k',d')::putP k d r
def kyA(kvs:List (aD×aD)):Bool:=kvs.all λk=>kyD k.1
def kdD:aD->Bool
 | .int _=>true
 | .str _=>true
 |_=>false
def oneK(kvs:List (aD×aD))(k:aD):Bool:=(isKd kvs&&kdD k)||(kyA kvs&&kyD k)
theorem yv{k:aD}(h:kdD k=true):∃kk:Key,k=keyD kk:=by
 cases k with
 |int i=>exact⟨.inl i,rfl⟩
 |str x=>exact⟨.inr x,rfl⟩
 |_=>cases h
def KI(a b:Key):aai (keyD a) (keyD b)=decide (a=b):=by
 cases a<;>cases b<;>simp[keyD,aai,aec]
def IsDc(K:Kd)(H:Hp)(a:Addr)(kvs:List (aD×aD)):Prop:=
 (∃e,Rd H a (.dK e)/\DenKK K H kvs e)\/∃e,Rd H a (dX a e)/\isKd kvs=false/\(kvs.map (·.1)).Nodup/\DenKV K H kvs e
section
variable {K:Kd}{H a:Hp}
theorem fzKV{τ:List (List Nat×Addr)}{p:List Nat}:∀{kvs:List (aD×aD)}{i:Nat}{e:List (Int×V×V)},TAtD K H τ p i (lfKV kvs) e->DenKV K H kvs e
 |[],_,_,h=>by simpa[lfKV]
 |(k,d)::r,i,e,h=>by
  let⟨u,v,vs,rfl,b,c,g⟩:=h;exact⟨u,v,vs,rfl,b,iw c (yw d),fzKV g⟩
theorem QM{τ:List (List Nat×Addr)}{p:List Nat}:∀{kvs:List (aD×aD)}{i:Nat}{e:List (Int×V×V)},DenKV K H kvs e->TAtD K H τ p i (lfKV kvs) e
 |[],_,_,h=>by simpa only[lfKV]
 |_::r,i,e,h=>by
  let⟨u,v,vs,rfl,b,c,g⟩:=h;exact⟨u,v,vs,rfl,b,kM c,QM g⟩
def iW(kvs:List (aD×aD)):(lfKV kvs).map (·.1)=kvs.map (·.1):=by
 unfold lfKV;rw[aa4];rfl
def t5(kvs:List (aD×aD)):isKd (lfKV kvs)=isKd kvs:=by
 unfold isKd lfKV;rw[aea];rfl
theorem sv(h:isKd kvs=true\/kyA kvs=true):fzOf kvs=none/\excC kvs=none:=by
 cases kvs with
 |nil=>exact⟨rfl,rfl⟩
 | cons x r=>
  let⟨k,d⟩:=x
  cases k with
  |none=>
   rcases h with h|h
   .simp[isKd]at h
   .simp[kyA,kyD]at h
  |int _=>exact⟨rfl,rfl⟩
  |str _=>exact⟨rfl,rfl⟩
  |bool _=>exact⟨rfl,rfl⟩
  |list _=>exact⟨rfl,rfl⟩
  |tuple _=>exact⟨rfl,rfl⟩
  |dict _=>exact⟨rfl,rfl⟩
end
def dcM(m:MSt)(kvs:List (aD×aD)):R->Prop
 | .imm (.dict es)=>es=kvs
 | .at k p=>p=p/\ndT m k p=some (.dict (lfKV kvs))
 |_=>False
theorem RelR.dc{K:Kx}{m:MSt}{A:Hp}{r:R}{v:V}(R:Rel K α m σ H)(h:RelR K α A H r v)(e:dcM m kvs r)(hk:isKd kvs=true\/kyA kvs=true):∃a,v = .ref a/\IsDc K H a kvs:=by
 let⟨n1,n2⟩:=sv hk
 cases r with
 | imm d=>
  cases d with
  |dict j=>
   have y:j=kvs:=e;subst y;have n:Den K H (.dict j) v:=h;simp only[Den]at n;let⟨a,rfl,n⟩:=n;refine⟨a,rfl,?_⟩;rcases n with⟨x,⟨o,f⟩,l,g⟩|⟨x,o,f,g⟩|⟨c,x,u,_⟩
   .exact .inr ⟨x,.inr ⟨o,f⟩,l.1,l.2.1,g⟩
   .exact .inl ⟨x,.inr ⟨o,f⟩,g⟩
   .rw[n2]at u;cases u
  |none=>exact e.elim
  |bool _=>exact e.elim
  |int _=>exact e.elim
  |str _=>exact e.elim
  |list _=>exact e.elim
  |tuple _=>exact e.elim
 | «at» k p=>
  let⟨B,a,D,_,t,rfl,g⟩:=RelR.node R h e.2;refine⟨a,rfl,?_⟩;have w:=sv (by
   rcases hk with hk|hk
   .exact .inl (by rw[t5];exact hk)
   .refine .inr ?_;unfold kyA lfKV at *;rw[aea];exact hk)
  simp only[TAt]at g;rcases g with⟨d,i,_⟩|⟨_,_,b,j,i,z,q,l,g⟩|⟨_,_,b,j,i,z,q,g⟩|⟨c,b,dx,C,x,s,_⟩
  .rw[w.1]at i;cases i
  .rw[t]at i;cases i;exact .inr ⟨j,.inl q,by rw[<-t5];exact l.1,by rw[<-iW];exact l.2.1,fzKV g⟩
  .rw[t]at i;cases i;exact .inl ⟨j,.inl q,fzKK g⟩
  .rw[w.2]at s;cases s
 |obj _=>exact e.elim
 |new _=>exact e.elim
 |newT _=>exact e.elim
theorem DenKV.len{K:Kd}{H:Hp}:∀{kvs:List (aD×aD)}{e:List (Int×V×V)},DenKV K H kvs e->kvs.length=e.length
 |[],_,g=>by simp[DenKV]at g;subst g;rfl
 |_::r,_,g=>by
  let⟨u,v,vs,rfl,_,_,g⟩:=g;simp[DenKV.len g]
section
variable {X:Cx}{pins:List (Addr×Obj)}{σ:St}{H:Hp}{s:GT}
abbrev PxV(K:Kd)(H:Hp):List (aD×aD)->List (aD×Addr×Ad)->Prop:=abO λp q=>p.1=q.1/\Den K H p.1 (.ref q.2.1)/\∃v,Den K H p.2 v/\RelV v q.2.2
theorem PxV.keys{H:Hp}(p:PxV K H kvs xs):xs.map (·.1)=kvs.map (·.1):=by
 induction p with
 |nil=>rfl
 |cons h t i=>rw[aan,aan,i,h.1]
theorem uG{k:aD}{u:V}(hk:kyD k=true)(h:Den K H k u):∃b,u = .ref b:=by
 let⟨ds,rfl,_⟩:=gW hk;let⟨a,x,e,_⟩:=h;exact⟨a,e⟩
theorem yg{k:aD}(hk:kyD k=true):k.hasDict=false:=by
 let⟨ds,rfl,_,h,_⟩:=gW hk;exact aa6 _ h
def Inv.ky(I:Inv X pins σ H s){k:aD}{b:Addr}(hk:kyD k=true)(h:Den X.kd H k (.ref b)):(mn X.prog X.w).is s.heap k b:=⟨h.reads I (yg hk) (rfl),hk⟩
abbrev ExV(w:World):List (Int×V×V)->List (aD×Addr×Ad)->Prop:=abO λe q=>e.1=gI w q.1/\e.2.1 = .ref q.2.1/\RelV e.2.2 q.2.2
theorem Inv.dcE(I:Inv X pins σ H s){f:List (Int×V×V)}(K:Rd H a (dX a f))(g:DenKV X.kd H kvs f)(nd:(kvs.map (·.1)).Nodup)(hk:kyA kvs=true):(a==abC)=false/\f.length≤aaj/\∃xs,s.heap.DictOfH (mn X.prog X.w) a xs/\PxV X.kd H kvs xs/\ExV X.w f xs:=by
 let⟨⟨N,D,o,c,J,M,F,L,C⟩,_⟩:=(show ObjOk X.prog X.w H s.heap a (dX a f)from K.ok I.hok);have key:∀{kvs:List (aD×aD)}{f:List (Int×V×V)}{c:List acd},kyA kvs=true->DenKV X.kd H kvs f->abO (λ(e:Int×V×V) (d:acd)=>d.hash=e.1/\RelV e.2.1 d.key/\RelV e.2.2 d.val) f c->∃xs,c=xs.map (entryOfKey (mn X.prog X.w))/\PxV X.kd H kvs xs/\ExV X.w f xs:=by
  intro kvs
  induction kvs with
  |nil=>
   intro f c _ g p;simp only[DenKV]at g;subst g;cases p;exact⟨[],rfl,.nil,.nil⟩
  | cons x r n=>
   intro f c hk g p;let⟨k,d⟩:=x;rw[kyA,ab2,aaS]at hk;simp only[DenKV]at g;let⟨u,v,vs,rfl,B,T,P⟩:=g
   cases p with
   |cons O G=>
    rename_i S l;let⟨xs,m,j,y⟩:=n hk.2 P G;let⟨b,rfl⟩:=uG hk.1 B;let⟨R,Q,A⟩:=O;let⟨z,E,w⟩:=S
    cases (show E=abw b from Q)
    refine⟨(k,b,w)::xs,?_,.cons ⟨rfl,B,v,T,A⟩ j,.cons ⟨rfl,rfl,A⟩ y⟩;rw[aan,<-m]
    congr 1
    show acd.mk z (.ref b) w=⟨gI X.w k,.ref b,w⟩;rw[show z=gI X.w k from R]
 let⟨xs,m,j,y⟩:=key hk g C;refine⟨N,D,xs,⟨o,c,J,M,F,L,m,λx i=>?_,by rw[j.keys];exact nd⟩,j,y⟩;have all:∀{kvs:List (aD×aD)}{xs:List (aD×Addr×Ad)},kyA kvs=true->PxV X.kd H kvs xs->∀x∈xs,(mn X.prog X.w).is s.heap x.1 x.2.1:=by
  intro kvs xs hk p
  induction p with
  |nil=>intro x i;cases i
  | @cons q x0 qs xs0 h t n=>
   rw[kyA,ab2,aaS]at hk;intro x i;obtain rfl|i:=aak.mp i
   .rw[<-h.1];exact I.ky hk.1 h.2.1
   .exact n hk.2 x i
 exact all hk j x i
theorem Inv.dc0(I:Inv X pins σ H s)(r:Rd H a (.dK [])):(a==abC)=false/\s.heap.DictOfH (mn X.prog X.w) a []:=by
 let⟨_,d,vs,l,m⟩:=sd I.hok r;cases l;let⟨o,e,k,h,c,b,i⟩:=m;refine⟨d,o,e,k,h,c,b,?_,⟨(λx f=>absurd f (by simp)),abT⟩⟩;have g:e.toList=[]:=by
  let⟨_,j,_⟩:=i;exact abj (by have:=j.length;simpa)
 rw[g];rfl
theorem Qq(g:DenKK K H kvs es)(hk:kyA kvs=true):kvs=[]/\es=[]:=by
 cases kvs with
 |nil=>simp[DenKK]at g;exact⟨rfl,g⟩
 |cons x r=>
  let⟨k,d⟩:=x;let⟨a,v,vs,_,⟨e,_⟩,_⟩:=g;rw[kyA,ab2,aaS]at hk;have h:kyD k=true:=hk.1;rw[e]at h
  cases a<;>cases h
def Inv.dcX(I:Inv X pins σ H s)(h:IsDc X.kd H a kvs)(hk:kyA kvs=true):(a==abC)=false/\∃xs,s.heap.DictOfH (mn X.prog X.w) a xs/\PxV X.kd H kvs xs:=by
 rcases h with⟨e,r,g⟩|⟨e,r,_,nd,g⟩
 .obtain⟨rfl,rfl⟩:=Qq g hk;let⟨b,d⟩:=I.dc0 r;exact⟨b,[],d,.nil⟩
 .obtain⟨b,_,xs,d,p,_⟩:=I.dcE r g nd hk;exact⟨b,xs,d,p⟩
theorem PxV.val{k:aD}(hk:kyA kvs=true)(c:kyD k=true)(p:PxV K H kvs xs) :
  (dF k kvs=none/\atKey xs k=none)\/∃d v q,dF k kvs=some d/\atKey xs k=some q/\Den K H d v/\RelV v q.2:=by
 induction p with
 |nil=>exact(.inl ⟨rfl,rfl⟩)
 | @cons x q xs0 qs h t ih=>
  rw[kyA,ab2,aaS]at hk;let⟨f,d⟩:=x;let⟨i,m,v,j,l⟩:=h;have a:f=q.1:=i;have g:=qZ _ _ (md hk.1) (md c);unfold dF
  by_cases e:f=k
  .have b:atKey (q::qs) k=some q.2:=by simp[atKey,List.find?_cons,<-a,e]
   rw[g,decide_eq_true e,if_pos rfl];exact .inr ⟨d,v,q.2,rfl,b,j,l⟩
  .have b:atKey (q::qs) k=atKey qs k:=by simp[atKey,<-a,e]
   rw[g,decide_eq_false e,b];exact ih hk.2
theorem DenKK.val{kk:Key}(g:DenKK K H kvs es) :
  (dF (keyD kk) kvs=none/\valV es kk=none)\/∃d v,dF (keyD kk) kvs=some d/\valV es kk=some v/\Den K H d v:=by
 induction kvs generalizing es with
 |nil=>simp[DenKK]at g;subst g;exact .inl ⟨rfl,rfl⟩
 |cons x r i=>
  let⟨k,d⟩:=x;let⟨b,v,vs,rfl,⟨rfl,_⟩,c,a⟩:=g;unfold dF;rw[KI]
  by_cases e:b=kk
  .rw[decide_eq_true e];exact .inr ⟨d,v,rfl,de e,c⟩
  .rw[decide_eq_false e,c9 e];exact i a
def DGet.kr{H:Hp}{kvs:List (Key×V)}{k:Key}(e:Rd H a (.dK kvs)):DGet H a (kV k) (valV kvs k):=.inl ⟨kvs,k,e,rfl,rfl⟩
theorem ql{k:aD}(h:oneK kvs k=true):(isKd kvs=true/\kdD k=true)\/(kyA kvs=true/\kyD k=true):=by
 unfold oneK at h
 simp_all
def Inv.dcT(I:Inv X pins σ H s)(h:IsDc X.kd H a kvs):s.TypeIs (.ref a) "dict"/\∀b,abw a = .ref b->∃c,s.heap.get? b=some c/\c.dict=none:=by
 rcases h with⟨d,r,g⟩|⟨d,r,_,nd,g⟩
 .obtain⟨_,hs,vs,kv,o,_,_,h1,h2,_⟩:=sd I.hok r;exact⟨⟨o,h1,h2.1⟩,λb e=>by cases e;exact⟨o,h1,h2.2.1⟩⟩
 .obtain⟨⟨hs,hz,o,ents,ep,h1,h2,h3,h4⟩,_⟩:=(r.ok I.hok);exact⟨⟨o,h1,h2.1⟩,λb e=>by cases e;exact⟨o,h1,h2.2.1⟩⟩
theorem AG{kk:Key}{y:V}(h:Den K H (keyD kk) y):y=kV kk:=by
 cases kk with
 |inl i=>exact aC h
 |inr x=>exact br h
section
variable {a:Addr}{kvs:List (aD×aD)}{k:aD}{y z:V}{u c:Ad}{A:aa8}{E:Ad->GT->Prop}
theorem Ug(C:A.units+64<cLine)(I:Inv X pins σ H s)(h:IsDc X.kd H a kvs)(ok:oneK kvs k=true)(hk:Den X.kd H k y)(m:RelV y u)(n:Bool)
  (f:∀s',Inv X pins σ H s'->Q (.bool (if n=true then !(dF k kvs).isSome else(dF k kvs).isSome)) s'):wpAny (model X.prog X.w) A (abm (if n=true then .NotIn else .In) u (.ref a)) Q E s:=by
 rcases ql ok with⟨l,o⟩|⟨l,o⟩
 .obtain⟨kk,rfl⟩:=yv o;have B:=AG hk;subst B;rcases h with⟨w,r,g⟩|⟨w,r,kd,nd,g⟩
  .have e:(dF (keyD kk) kvs).isSome=(valV w kk).isSome:=by
    rcases g.val (kk:=kk)with⟨j,i⟩|⟨d,v,j,i,x⟩
    .rw[j,i];rfl
    .rw[j,i];rfl
   cases n with
   |false=>exact d_in (by omega) I (DGet.kr r) m λs' t=>by rw[<-e];exact f s' t
   |true=>exact GA (by omega) I (DGet.kr r) m λs' t=>by rw[<-e];exact f s' t
  .rw[l]at kd;cases kd
 .obtain⟨hs,xs,dd,p⟩:=I.dcX h l;let⟨b,rfl⟩:=uG o hk
  cases (show u=abw b from m)
  have e:(dF k kvs).isSome=(atKey xs k).isSome:=by
   rcases p.val l o with⟨j,i⟩|⟨d,v,q,j,i,x,D⟩
   .rw[j,i];rfl
   .rw[j,i];rfl
  cases n with
  |false=>exact wpAny_in_heap (by show A.units+1+20<cLine;omega) (I.ky o hk) hs dd (by rw[<-e];exact f _ (I.tok _))
  |true=>exact PyProof.Rows.wpAny_notIn_heap (knd:=mn X.prog X.w) (by show A.units+1+20<cLine;omega) (I.ky o hk) hs dd (by rw[<-e];exact f _ (I.tok _))
theorem v5{d:aD}(G:A.units+64<cLine)(I:Inv X pins σ H s)(h:IsDc X.kd H a kvs)(ok:oneK kvs k=true)(hk:Den X.kd H k y)(t:RelV y u)(j:dF k kvs=some d)
  (f:∀v w s',Inv X pins σ H s'->RelV v w->Den X.kd H d v->Q w s'):wpAny (model X.prog X.w) A (aek (.ref a) u) Q E s:=by
 rcases ql ok with⟨l,o⟩|⟨l,o⟩
 .obtain⟨kk,rfl⟩:=yv o;have C:=AG hk;subst C;rcases h with⟨D,n,g⟩|⟨D,n,kd,nd,g⟩
  .rcases g.val (kk:=kk)with⟨e,i⟩|⟨x,v,e,i,m⟩
   .rw[j]at e;cases e
   .rw[j]at e;cases e;exact sj (by omega) I (by rw[<-i];exact DGet.kr n) t λw s' F r=>f v w s' F r m
  .rw[l]at kd;cases kd
 .obtain⟨hs,xs,dd,p⟩:=I.dcX h l;let⟨b,rfl⟩:=uG o hk
  cases (show u=abw b from t)
  rcases p.val l o with⟨e,i⟩|⟨x,v,q,e,i,m,B⟩
  .rw[j]at e;cases e
  .rw[j]at e;cases e;exact wpAny_getItem_heap (knd:=mn X.prog X.w) (by show A.units+1+20<cLine;omega) (I.ky o hk) dd i (f v q.2 _ (I.tok _) B m)
end
end
section
variable {X:Cx}{a:Expr}{w:WE}{pos:Pos}
abbrev Qi:WE:=λm K=>K (.newT (.dict [])) m
theorem IX:ME X (.Dict [] [] pos) Qi:=pe_dnewK.wk<|by
 intro e H Q ⟨g,m,K,R,d,f⟩;intro p c;refine f _ m _ _ d rfl (R.lay c) ⟨[([],p)],p,rfl,rfl,by simp,λb h=>by simp at h;subst h;exact c,⟨⟨_,.ref p,rfl,?_,p,rfl,rfl⟩,λb h=>by simp at h;subst h;exact⟨_,av,rfl⟩⟩⟩ (cn c);refine .inr (.inr (.inl ⟨rfl,rfl,p,[],rfl,rfl,av,?_⟩));rfl
def vF:EE X (.Dict [] [] pos) Qi:=⟨IX⟩
end
section
variable {K:Kd}{H:Hp}{τ:List (List Nat×Addr)}{p:List Nat}
theorem je:∀{ds:List aD}{i:Nat}{xs:List V},DenAll K H ds xs->TAtL K H τ p i (ds.map lfD) xs
 |[],_,_,h=>by simpa only[ad6,TAtL,DenAll]using h
 |d::ds,i,_,h=>by
  simp only[DenAll]at h;let⟨v,vs,rfl,a,b⟩:=h;simp only[aan,TAtL];exact⟨v,vs,rfl,kM a,je b⟩
end
section
variable {K:Kx}{c:Al}{m:MSt}{d:St}{H:Hp}{k:Nat}{p:List Nat}{τ:List (List Nat×Addr)}{a:Addr}{t:aD}{ts ds:List aD}
theorem Rel.listN(R:Rel K c m d H)(h:c[k]?=some (.T τ))(f:τ.lookup p=some a)(n:m.os[k]?=some [t])(l:getT t p=some (.list ts)):∃xs,H a=some (.lst xs)/\TAtL K H τ p 0 ts xs:=by
 let⟨⟨o,q,z,g,_⟩,_⟩:=R.own k (.T τ) _ h n;cases z;let⟨v,b⟩:=g.get l;rw[abh]at b;simp only[TAt]at b;let⟨r,xs,e,_,j,i⟩:=b;rw[f]at e;cases e;exact⟨xs,j,i⟩
theorem Rel.setLs{xs x:List V}{ds':List aD}(R:Rel K c m d H)(j:c[k]?=some (.T τ))(f:τ.lookup p=some a)(s:m.os[k]?=some [t])(r:getT t p=some (.list ts))(ok:okW t p=true)(q:H a=some (.lst xs))(g':DenAll K H ds' x) :
  Rel K c {m with os:=m.os.set k [setT t p (.list (ds'.map lfD))]} d (upd H a (.lst x))/\Frm c H (upd H a (.lst x)):=by
 let⟨⟨A,v,z,g,y,n,l⟩,mu⟩:=R.own k (.T τ) _ j s;cases z;have i:Pers H (upd H a (.lst x)):=bi (.inr ⟨_,q,rfl⟩);have nd:(τ.map (·.2)).Nodup:=((fi c).mp R.nd).1 (.T τ) (Io j);have new:TAt K (upd H a (.lst x)) τ p (.list (ds'.map lfD)) (.ref a):=by
  simp only[TAt];exact⟨a,x,f,rfl,av,je (g'.mono i)⟩
 have all:TAt K (upd H a (.lst x)) τ [] (setT t p (.list (ds'.map lfD))) v:=TAt.set nd i g r ok (by rw[abh];exact f) (by rw[abh];exact new) λu h=>by
  rw[abh]at h;simp only[TAt]at h;let⟨B,_,e,w,_⟩:=h;rw[f]at e;cases e;exact w
 exact R.setW j i (ds':=[setT t p (.list (ds'.map lfD))]) (λb o=>au λeb=>o (eb▸bX f)) ⟨⟨_,v,rfl,all,y,n,l⟩,λb o=>by
  by_cases eb:b=a
  .subst eb;exact⟨_,av,rfl⟩
  .rw[au eb];exact mu b o⟩
end
section
variable {X:Cx}{o e:Expr}{n:WE}{c l:Pos}
def RQ(m:MSt)(k:Nat)(p:List Nat)(P:List aD->(List aD->MSt)->Prop):Prop:=∃t ts ds,m.os[k]?=some [t]/\getT t p=some (.list ts)/\cY ts=some ds/\okW t p=true/\P ds λd=>{m with os:=m.os.set k [setT t p (.list (d.map lfD))]}
def pF:WM:=λr rs m K=>onAt (λk p=>on1 (jP λd=>RQ m k p λds f=>ds.length<aaj/\K (.imm .none) (f (ds++[d]))) rs) r
theorem wm:MtM X "list.append" (mM X.kx pF):=by
 intro b s j H x N v D Q I C G ⟨V,m,O,T,L,r,rs,P,R,E,i,h,f⟩;let⟨k,p,M,a,rfl,u,y,rfl,h⟩:=vV E h;let⟨U,S,rfl,rfl,i,h⟩:=e9 i h;let⟨d,rfl,hd,t,ts,ds,z,w,J,ok,B,h⟩:=fY i h;let⟨A,q,K⟩:=R.listN u y z w;have g:=jc K J;let⟨R2,F⟩:=R.setLs u y z w ok q (g.append (DenAll.cons hd DenAll.nil));exact kO b s j H _ _ v D Q I C G ⟨a,A,_,rfl,rfl,q,by rw[<-g.length];exact B,f _ _ _ _ h rfl R2 qJ F⟩
def uL:WO:=λr1 r m K=>onAt (λk p=>zd (λi=>∃t ts j a,m.os[k]?=some [t]/\getT t p=some (.list ts)/\ixN ts.length i=some j/\ts[j]?=some a/\K (fC k p j a)) r) r1
theorem TAtL.get'{K:Kd}{H:Hp}{τ:List (List Nat×Addr)}{p:List Nat}:∀{ts:List aD}{i j:Nat}{xs:List V}{t:aD},TAtL K H τ p i ts xs->ts[j]?=some t->∃v,xs[j]?=some v/\TAt K H τ (p++[i+j]) t v
 |[],_,_,_,_,_,e=>by simp at e
 |t::ts,i,0,_,_,h,e=>by
  simp only[TAtL]at h;let⟨v,vs,rfl,a,_⟩:=h;simp at e;subst e;exact⟨v,rfl,a⟩
 |t::ts,i,j+1,_,_,h,e=>by
  simp only[TAtL]at h;let⟨v,vs,rfl,_,b⟩:=h;let⟨w,d,z⟩:=TAtL.get' b (j:=j) (by simpa using e);exact⟨w,by simpa using d,by rw[show i+(j+1)=i+1+j by omega];exact z⟩
theorem TAtL.len{K:Kd}{H:Hp}{τ:List (List Nat×Addr)}{p:List Nat}:∀{ts:List aD}{i:Nat}{xs:List V},TAtL K H τ p i ts xs->ts.length=xs.length
 |[],_,_,h=>by simp only[TAtL]at h;subst h;rfl
 |t::ts,i,_,h=>by
  simp only[TAtL]at h;let⟨v,vs,rfl,_,a⟩:=h;simp[TAtL.len a]
theorem DN:IxR X (rM X.kx uL):=by
 intro d b f s A H x y v u Q I E N ⟨α,m,V,Y,S,r1,Z,W,R,M,F,r,z⟩ h;let⟨k,p,U,a,rfl,B,K,rfl,r⟩:=vV M r;let⟨i,rfl,rfl,t,ts,j,T,P,J,O,L,r⟩:=xY F r;let⟨D,q,g⟩:=R.listN B K P J;let⟨w,G,C⟩:=g.get' L;rw[acJ]at C;refine zr d b f s A H _ _ v u Q I E N ⟨a,D,i,w,rfl,rfl,SqL.of q,?_,z _ _ H r R (jd R B C) (Frm.refl _ _)⟩ h;unfold atI;rw[<-g.len,O];exact G
def PC{a b:Expr}{d w:WE}{pos:Pos}(g:ME X a d)(i:ME X b w)(f:ku b:=by intro _ _;rfl):ME X (.Subscript a b pos) (wBin uL d w):=(LR DN g i f).wk λ_ _ _ h=>sk h
end
def Ce{a:Hp}(old:∀b o,H b=some o->a b=some o):Pers H a:=⟨λb x q=>old b _ q,λb o u q=>old b _ q⟩
section
variable {K:Kd}{H:Hp}{τ τ':List (List Nat×Addr)}{w:List Nat}
mutual
theorem TAt.shift(e:∀q a,τ.lookup q=some a->τ'.lookup (w++q)=some a):∀{t:aD}{p:List Nat}{v:V},TAt K H τ p t v->TAt K H τ' (w++p) t v
 | .none,_,_,h=>by simp only[TAt]at h⊢;exact h
 | .bool _,_,_,h=>by simp only[TAt]at h⊢;exact h
 | .int _,_,_,h=>by simp only[TAt]at h⊢;exact h
 | .str _,_,_,h=>by simp only[TAt]at h⊢;exact h
 | .tuple _,_,_,h=>by simp only[TAt]at h⊢;exact h
 | .list ts,p,_,h=>by
  simp only[TAt]at h⊢;let⟨a,x,b,f,i,g⟩:=h;exact⟨a,x,e _ _ b,f,i,TAtL.shift e g⟩
 | .dict kvs,p,_,h=>by
  simp only[TAt]at h⊢;rcases h with⟨d,b,h⟩|⟨l,z,a,j,b,f,i,k,g⟩|⟨l,z,a,j,b,f,i,g⟩|⟨c,a,dx,C,x,m,b,f,i,k,g⟩
  .exact .inl ⟨d,b,h⟩
  .exact .inr (.inl ⟨l,z,a,j,e _ _ b,f,i,k,TAtD.shift e g⟩)
  .exact .inr (.inr (.inl ⟨l,z,a,j,e _ _ b,f,i,TAtK.shift e g⟩))
  .exact .inr (.inr (.inr ⟨c,a,dx,C,x,m,e _ _ b,f,i,k,TAtF.shift e g⟩))
theorem TAtL.shift(e:∀q a,τ.lookup q=some a->τ'.lookup (w++q)=some a):∀{ts:List aD}{p:List Nat}{i:Nat}{xs:List V},TAtL K H τ p i ts xs->TAtL K H τ' (w++p) i ts xs
 |[],_,_,_,h=>by simpa only[TAtL]using h
 |t::ts,p,i,_,h=>by
  simp only[TAtL]at h⊢;let⟨v,vs,b,c,g⟩:=h;exact⟨v,vs,b,by rw[aaV];exact TAt.shift e c,TAtL.shift e g⟩
theorem TAtD.shift(e:∀q a,τ.lookup q=some a->τ'.lookup (w++q)=some a):∀{ts:List (aD×aD)}{p:List Nat}{i:Nat}{xs:List (Int×V×V)},TAtD K H τ p i ts xs->TAtD K H τ' (w++p) i ts xs
 |[],_,_,_,h=>by simpa only[TAtD]using h
 |(k,t)::ts,p,i,_,h=>by
  simp only[TAtD]at h⊢;let⟨u,v,vs,b,c,d,g⟩:=h;exact⟨u,v,vs,b,c,by rw[aaV];exact TAt.shift e d,TAtD.shift e g⟩
theorem TAtK.shift(e:∀q a,τ.lookup q=some a->τ'.lookup (w++q)=some a):∀{ts:List (aD×aD)}{p:List Nat}{i:Nat}{xs:List (Key×V)},TAtK K H τ p i ts xs->TAtK K H τ' (w++p) i ts xs
 |[],_,_,_,h=>by simpa only[TAtK]using h
 |(k,t)::ts,p,i,_,h=>by
  simp only[TAtK]at h⊢;let⟨u,v,vs,b,c,d,g⟩:=h;exact⟨u,v,vs,b,c,by rw[aaV];exact TAt.shift e d,TAtK.shift e g⟩
theorem TAtF.shift(e:∀q a,τ.lookup q=some a->τ'.lookup (w++q)=some a):∀{ts:List (aD×aD)}{p:List Nat}{i:Nat}{xs:List (Str×V)},TAtF K H τ p i ts xs->TAtF K H τ' (w++p) i ts xs
 |[],_,_,_,h=>by simpa only[TAtF]using h
 |(.str f,t)::ts,p,i,_,h=>by
  simp only[TAtF]at h⊢;let⟨v,vs,b,c,g⟩:=h;exact⟨v,vs,b,by rw[aaV];exact TAt.shift e c,TAtF.shift e g⟩
 |(.none,d)::r,_,_,_,h=>by simp only[TAtF]at h⊢;exact TAtF.shift e h
 |(.bool _,d)::r,_,_,_,h=>by simp only[TAtF]at h
 |(.int _,d)::r,_,_,_,h=>by simp only[TAtF]at h
 |(.list _,d)::r,_,_,_,h=>by simp only[TAtF]at h
 |(.tuple _,d)::r,_,_,_,h=>by simp only[TAtF]at h
 |(.dict _,d)::r,_,_,_,h=>by simp only[TAtF]at h
end
end
def trR:R->Option aD
 | .imm d=>some (lfD d)
 | .new ds=>some (.list (ds.map lfD))
 | .newT t=>some t
 |_=>none
def allA:List (List (List Nat×Addr))->List Addr
 |[]=>[]
 |τ::τs=>τ.map (·.2)++allA τs
theorem PH{c:Hp}{r:R}{v:V}(h:RelR K α c H r v):∃τ:List (List Nat×Addr),(∀t,trR r=some t->TAt K H τ [] t v)/\(τ.map (·.2)).Nodup/\(∀a∈τ.map (·.2),∃o,H a=some o/\Mu o=true)/\∀a∈τ.map (·.2),c a=none:=by
 cases r with
 |imm d=>exact⟨[],λt e=>(by cases e;exact kM h),abT,λ_ z=>(by simp at z),λ_ z=>(by simp at z)⟩
 |new ds=>
  let⟨a,x,rfl,n,q,g⟩:=h;refine⟨[([],a)],λt e=>?_,by simp,λb z=>?_,λb z=>?_⟩
  .cases e;simp only[TAt];exact⟨a,x,rfl,rfl,q,je g⟩
  .simp at z;subst z;exact⟨_,q,rfl⟩
  .simp at z;subst z;exact n
 |newT t=>
  let⟨τ,a,rfl,i,nd,n,⟨k,l,z,g,m,f,j⟩,mu⟩:=h;cases z;rw[i]at f;cases f;subst j;exact⟨τ,λt e=>(by cases e;exact g),nd,mu,n⟩
 |obj _=>exact⟨[],λt e=>(by cases e),abT,λ_ z=>(by simp at z),λ_ z=>(by simp at z)⟩
 | «at» _ _=>exact⟨[],λt e=>(by cases e),abT,λ_ z=>(by simp at z),λ_ z=>(by simp at z)⟩
def jQ(i:Nat):List (List (List Nat×Addr))->List (List Nat×Addr)
 |[]=>[]
 |τ::τs=>τ.map (λq=>(i::q.1,q.2))++jQ (i+1) τs
theorem d6:∀(i:Nat) (τs:List (List (List Nat×Addr))),(jQ i τs).map (·.2)=allA τs
 |_,[]=>rfl
 |i,τ::τs=>by rw[jQ,aaH,d6,aa4];rfl
theorem vy{i:Nat}{q:List Nat}:∀τ:List (List Nat×Addr),(τ.map λa=>(i::a.1,a.2)).lookup (i::q)=τ.lookup q
 |[]=>rfl
 |(r,b)::τ=>by
  rw[aan,aa5,aa5,vy τ];have:((i::q)==(i::r))=(q==r):=by simp
  rw[this]
theorem lU{i j:Nat}{q:List Nat}(h:j≠i):∀τ:List (List Nat×Addr),(τ.map λa=>(i::a.1,a.2)).lookup (j::q)=none
 |[]=>rfl
 |(r,b)::τ=>by
  rw[aan,aa5,lU h τ];have:((j::q)==(i::r))=false:=by simp[h]
  rw[this]
theorem uO{β c:Type}[BEq β]{a b:List (β×c)}{k:β}:(a++b).lookup k=(a.lookup k).or (b.lookup k):=by
 induction a with
 |nil=>simp
 |cons x a i=>
  let⟨d,v⟩:=x;rw[adp,aa5,aa5,i]
  split<;>simp
theorem mY:∀{τs:List (List (List Nat×Addr))}{i j:Nat}{τ:List (List Nat×Addr)}{q:List Nat}{a:Addr},τs[j]?=some τ->τ.lookup q=some a->(jQ i τs).lookup ((i+j)::q)=some a
 |[],_,_,_,_,_,e,_=>by simp at e
 |τ0::τs,i,0,τ,q,a,e,h=>by
  simp at e;subst e;rw[jQ,uO,Nat.add_zero,vy,h];rfl
 |τ0::τs,i,j+1,τ,q,a,e,h=>by
  rw[jQ,uO,lU (by omega)];have:=mY (i:=i+1) (j:=j) (τs:=τs) (by simpa using e) h;rw[show i+1+j=i+(j+1) by omega]at this;rw[this];rfl
section
variable {X:Cx}{scope sc:Scope}{own fr:List Str}{ps:List Nat}{elt c o:Expr}{ifs:List Expr}{pos np l s p d e:Pos}{tt:WT}{w f:WE}{g:WI}{x y:Str}{i:Nat}
def uo{a b:Expr}{h j:WE}{pos:Pos}(k:EE X a h)(m:EE X b j)(n:ku b:=by intro _ _;rfl):EE X (.Subscript a b pos) (wBin uL h j):=⟨PC k.h m.h n⟩
end
def kL{X:Cx}:MtM X "list.append" (mM X.kx pF):=wm
section
variable {m:MSt}{Q:R->MSt->Prop}{w a:WE}{b:WI}{tt:WT}{own:List Str}{ps:List Nat}
def qC{k:Nat}{p:List Nat}{t d:aD}(c:m.os[k]?=some [t])(e:getT t p=some (.list ts))(g:cY ts=some ds)(f:okW t p=true)(i:ds.length<aaj)(h:Q (.imm .none) {m with os:=m.os.set k [setT t p (.list ((ds++[d]).map lfD))]}):pF (.at k p) [.imm d] m Q:=⟨t,ts,ds,c,e,g,f,i,h⟩
def t8{k:Nat}{p:List Nat}{t t':aD}{K:R->Prop}(c:m.os[k]?=some [t])(e:getT t p=some (.list ts))(f:ixN ts.length i=some j)(d:ts[j]?=some t')(h:K (fC k p j t')):uL (.at k p) (.imm (.int i)) m K:=⟨t,ts,j,t',c,e,f,d,h⟩
end
section
variable {X:Cx}{o e d:Expr}{f:List Expr}{w:WE}{g:WA}{b c:Pos}
def oInD(n:Bool):WO:=λr1 r m K=>jP (λk=>∃a,dcM m a r/\oneK a k=true/\K (.imm (.bool (if n=true then !(dF k a).isSome else(dF k a).isSome)))) r1
theorem IP(j:X.A.units+64<cLine)(n:Bool):OpR X (abm (if n=true then .NotIn else .In)) (rM X.kx (oInD n)):=by
 intro p s D H x y v u Q I r B ⟨M,m,F,G,E,r1,J,K,R,A,t,i,h⟩;let⟨k,rfl,hk,q,l,ok,i⟩:=fY A i;let⟨a,rfl,dc⟩:=RelR.dc R t l (by
  rcases ql ok with z|z
  .exact .inl z.1
  .exact .inr z.1)
 cases (B);exact Ug j I dc ok hk r n λL C=>⟨.bl _,H,C,rfl,h _ _ H i R (l7 _) (Frm.refl _ _)⟩
def nQ(h:X.A.units+64<cLine):OpR X (abm .NotIn) (rM X.kx (oInD true)):=IP h true
end
def onTr(P:aD->Prop)(r:R):Prop:=match trR r with
 |some t=>P t
 |none=>False
end L2
namespace L2
open PySem PySem.Spec PyProof.Rows
open Sem (wp)
variable{H:Hp}{p:List Nat}{t:aD}{kvs:List (aD×aD)}{c qual:Str}{K:aaf}{C:Addr}{st:Stmt}{N ps:List Str}{od:Option Addr}{sl:Array (Option Ad)}{mg:Str->Option Ad}{n nN:Nat}{pl:Sem Bool}{ts:List (Str×aD)}{xs:List (Str×V)}{τs:List (List (List Nat×Addr))}{sp:SpI}{ds:List aD}{P:aD->Prop}
def ic(s:Stmt):List Stmt:=match s with
 | .ClassDef _ _ _ b _ _ _ _ _ _ _=>b
 |_=>[]
def fdAt(f:Str):Nat->List (aD×aD)->Option (Nat×aD)
 |_,[]=>none
 |i,(.str g,t)::r=>if decide (g=f)=true then some (i,t)else fdAt f (i+1) r
 |i,(.none,_)::r=>fdAt f (i+1) r
 |i,(.bool _,_)::r=>fdAt f (i+1) r
 |i,(.int _,_)::r=>fdAt f (i+1) r
 |i,(.list _,_)::r=>fdAt f (i+1) r
 |i,(.tuple _,_)::r=>fdAt f (i+1) r
 |i,(.dict _,_)::r=>fdAt f (i+1) r
section
variable {K:Kd}{H:Hp}{τ:List (List Nat×Addr)}{p:List Nat}{f:Str}
theorem TAtF.look:∀{ts:List (aD×aD)}{i j:Nat}{xs:List (Str×V)}{t:aD},TAtF K H τ p i ts xs->fdAt f i ts=some (j,t)->∃v,xs.lookup f=some v/\TAt K H τ (p++[j]) t v
 |[],_,_,_,_,_,e=>by cases e
 | (.str g,t)::ts,i,j,xs,t',h,e=>by
  simp only[TAtF]at h;let⟨v,vs,rfl,m,l⟩:=h;simp only[fdAt]at e
  by_cases c:g=f
  .rw[if_pos (decide_eq_true c)]at e;cases e;subst c;exact⟨v,by simp[aen],m⟩
  .rw[if_neg (by simpa using c)]at e;let⟨a,k,b⟩:=TAtF.look l e;refine⟨a,?_,b⟩;rw[aa5];have:(f==g)=false:=by simp only[beq_eq_false_iff_ne,ne_eq];exact λz=>c z.symm
   rw[this];exact k
 |(.none,d)::r,i,j,xs,t',h,e=>by simp only[TAtF]at h;simp only[fdAt]at e;exact TAtF.look h e
 |(.bool _,d)::r,_,_,_,_,h,_=>by simp only[TAtF]at h
 |(.int _,d)::r,_,_,_,_,h,_=>by simp only[TAtF]at h
 |(.list _,d)::r,_,_,_,_,h,_=>by simp only[TAtF]at h
 |(.tuple _,d)::r,_,_,_,_,h,_=>by simp only[TAtF]at h
 |(.dict _,d)::r,_,_,_,_,h,_=>by simp only[TAtF]at h
theorem TAtF.noF:∀{ts:List (aD×aD)}{i:Nat}{xs:List (Str×V)},TAtF K H τ p i ts xs->fdAt f i ts=none->xs.lookup f=none
 |[],_,_,h,_=>by simp only[TAtF]at h;subst h;rfl
 | (.str g,t)::ts,i,xs,h,e=>by
  simp only[TAtF]at h;let⟨v,vs,rfl,b,a⟩:=h;simp only[fdAt]at e
  by_cases c:g=f
  .rw[if_pos (decide_eq_true c)]at e;cases e
  .rw[if_neg (by simpa using c)]at e;rw[aa5];have:(f==g)=false:=by simp only[beq_eq_false_iff_ne,ne_eq];exact λz=>c z.symm
   rw[this];exact TAtF.noF a e
 |(.none,d)::r,i,xs,h,e=>by simp only[TAtF]at h;simp only[fdAt]at e;exact TAtF.noF h e
 |(.bool _,d)::r,_,_,h,_=>by simp only[TAtF]at h
 |(.int _,d)::r,_,_,h,_=>by simp only[TAtF]at h
 |(.list _,d)::r,_,_,h,_=>by simp only[TAtF]at h
 |(.tuple _,d)::r,_,_,h,_=>by simp only[TAtF]at h
 |(.dict _,d)::r,_,_,h,_=>by simp only[TAtF]at h
end
def Rel.insN{K:Kx}{d:Al}{m:MSt}{l:St}(R:Rel K d m l H){k:Nat}{τ:List (List Nat×Addr)}{a:Addr}(f:d[k]?=some (.T τ))(j:τ.lookup p=some a)(s:m.os[k]?=some [t])(i:getT t p=some (.dict kvs))(q:excC kvs=some c) :
  ∃dx C xs,H a=some (.ins C dx xs)/\ClsN K c C/\TAtF K H τ p 0 kvs xs:=by
 let⟨⟨u,w,z,g,_⟩,_⟩:=R.own k (.T τ) _ f s;cases z;let⟨v,b⟩:=g.get i;rw[abh]at b;let⟨x,dx,C,xs,e,_,r,h,o⟩:=b.ins q;rw[j]at e;cases e;exact⟨dx,C,xs,r,h,o⟩
structure InsF(K:aaf)(c f:Str):Prop where
 ex:∃C,aaM K aay c=some (some (.ref C))/\Cls K C/\NoAttr K C f
def InsF.of{f:Str}(a:aaM K aay c=some (some (.ref C)))(b1:acS K C aeL=true)(b2:add K C=true)(b:ad0 K C=true)(e:abp K (.ref C) "__setattr__" = some (some (.builtin "object.__setattr__")))(d:abp K (.ref C) f=some none):InsF K c f:=⟨C,a,⟨b1,b2,b,e⟩,d⟩
def fGot(m:MSt)(c:Str)(k:Nat)(p:List Nat)(f:Str)(K:R->Prop):Prop:=∃t kvs j a,m.os[k]?=some [t]/\getT t p=some (.dict kvs)/\excC kvs=some c/\fdAt f 0 kvs=some (j,a)/\K (fC k p j a)
abbrev wFld(c f:Str)(w:WE):WE:=λm K=>w m λr m1=>onAt (λk p=>fGot m1 c k p f λr=>K r m1) r
section
variable {X:Cx}{o:Expr}{w:WE}{pos:Pos}{c f:Str}
theorem Pp(C:InsF X.K c f)(G:ME X o w)(M:abQ o f X.env (eval o X.env)=eval o X.env:=by rfl):ME X (.Attribute o f pos) (wFld c f w):=(Mq G M).wk<|by
 intro V H Q ⟨S,m,W,A,y,b⟩;refine⟨S,m,_,A,y,λr m1 v h q n1 R rr F=>?_⟩;let⟨k,p,U,a,rfl,e,x,rfl,t,kvs,j,T,O,u,J,E,q⟩:=vV rr q;let⟨dx,d,xs,B,D,g⟩:=R.insN e x O u J;let⟨l,s,cl,i⟩:=C.ex;have L:d=l:=by
  have:=D.symm.trans s;simpa using this
 subst L;let⟨v,I,z⟩:=g.look E;exact⟨a,d,dx,xs,v,rfl,B,cl,i,I,b _ m1 v h q n1 R (jd R e z) F⟩
theorem cg(C:InsF X.K c f)(a:EE X o w)(h:abQ o f X.env (eval o X.env)=eval o X.env:=by rfl):EE X (.Attribute o f pos) (wFld c f w):=⟨Pp C a.h h⟩
end
structure fH(P:aaI)(w:World)(K:aaf)(mg:Str->Option Ad)(base:aaW)(c m:Str)(k n:Nat)(sp:SpM):Prop where
 ex:∃(C f:Addr) (fd:ab4) (ps:List Str),FnOk P w K mg base CX0 k f fd ps (spOf ⟨K,w⟩ n sp)/\aaM K aay c=some (some (.ref C))/\Cls K C/\Meth K C m f/\Binds K fd ps []
 ar:∀as Kc,sp as Kc->as.length=n
structure MthD(K:aaf)(c m qual:Str)(st:Stmt)(ps:List Str):Prop where
 ex:∃(C f:Addr) (fd:ab4),Fun K m qual st f fd/\aaM K aay c=some (some (.ref C))/\Cls K C/\Meth K C m f/\Binds K fd ps []
def MthD.of{m:Str}{f:Addr}{o kV g pm b ct:Ad}{an:Option Addr}(j:∀(kV g pm:Ad) (an:Option Addr) (b ct:Ad) (us:List Ad),us.length=ps.length->adA (abl m qual (cp st) (bz st) (ab st) .none kV g pm an b ct) ⟨us,[]⟩=pure (ps.zip us))
  (a:aaM K aay c=some (some (.ref C))) (b1:acS K C aeL=true) (b2:add K C=true) (h:ad0 K C=true) (i:abp K (.ref C) "__setattr__" = some (some (.builtin "object.__setattr__")))
  (d:abp K (.ref C) m=some (some (.ref f))) (l:K.lookup f=some ⟨o,od,.func (abl m qual (cp st) (bz st) (ab st) .none kV g pm an b ct),sl⟩) (e:adi K b qual=true) (k:abP K (.ref f)=true) (fn:aeD K (.ref f)=true):MthD K c m qual st ps:=
 ⟨C,f,_,qr l e k,a,⟨b1,b2,h,i⟩,⟨d,fn,k⟩,(qr l e k).binds j⟩
theorem jm{P:aaI}{w:World}{base:aaW}{m:Str}{k:Nat}{sp:SpM}(D:MthD K c m qual st ps)(S:ak N ps (ab st))(v:ps.length=n)(l:N.length=nN)(i:n≤nN)(ar:∀as e,sp as e->as.length=n)
  (d:∀(b:Ad) (A:aa8) (outer:List Env) (s:GT) (H:Hp) (E:XK) (f:Addr),Room k (A.deeper (ad2 qual (ab st) s.heap.objs.size f b)) ->
   ∃g,ESs (cxOf CX0 P w K mg base N qual (ab st) f b A outer s H E).nox (bz st) g/\∀as e,as.length=n->sp as e->g {nx:=λm=>e (.imm .none) (m.os.take m.np),rt:=λr m=>retK e m r} (dN nN as)) :
  fH P w K mg base c m (k+1) n sp:=by
 let⟨C,f,fd,F,a,cl,u,x⟩:=D.ex;refine⟨⟨C,f,fd,ps,F.ok S (λvs H Q E h=>by rw[v];exact h.len) (λb A outer s H vs Q E q h=>?_),a,cl,u,x⟩,ar⟩;let⟨g,o,j⟩:=d b A outer s H E f q;exact⟨_,o.h,fn_m (K:=(cxOf CX0 P w K mg base N qual (ab st) f b A outer s H E).nox.kx) rfl h l i j⟩
def insR(m:MSt)(c f:Str)(r:R)(P:Prop):Prop:=∃k kvs,r = .at k []/\m.os[k]?=some [.dict kvs]/\excC kvs=some c/\fdAt f 0 kvs=none/\P
def M9(P:List Ag->List Nat->Prop)(o:Option (List Ag×List Nat)):Prop:=∃a k,o=some (a,k)/\P a k
abbrev xU(c f:Str)(sp:SpM)(d:WE)(w:WA):WE:=λm K=>d m λa m1=>insR m1 c f a (w m1 λrs m2=>M9 (λb k=>k.Nodup/\sp b λr o=>K (mapR k r) {m2 with os:=cz m2.os k o}) (iq m2 (a::rs)))
section
variable {X:Cx}{o a:Expr}{d:List Expr}{w:WE}{i:WA}{pos b:Pos}{c f:Str}{k n:Nat}{sp:SpM}{E:XK}{j:St}{H:Hp}{Q:VK}{C:Addr}
theorem zq(h:tM X.kx (xU c f sp w i) j H Q)(V:aaM X.K aay c=some (some (.ref C)))(Y:∀as T,sp as T->as.length=n):Je C f (spOf X.kd n sp) [] E (tM X.kx w) (tMA X.kx i) j H Q:=by
 let⟨s,m,T,Rl,hw,y⟩:=h;refine⟨s,m,_,Rl,hw,λro m1 v H1 q n1 l rr B=>?_⟩;let⟨L,kvs,rfl,e3,e5,e6,q⟩:=q;let⟨W,a,J,S,rfl⟩:=id rr;let⟨dx,C',xs,hH,hc,g⟩:=l.insN J S e3 (p:=[]) rfl e5;have ec:C'=C:=by
  have:=hc.symm.trans V;simpa using this
 subst ec;refine⟨a,dx,xs,rfl,hH,g.noF e6,s,m1,_,l,q,λrs m2 vs I q2 n2 R D M=>?_⟩
 .obtain⟨as,ks,e,nd,hsp⟩:=q2;have x:RelRs X.kx s H (I) (.at L []::rs) (.ref a::vs):=.cons (show RelR X.kx s H I (.at L []) (.ref a)from⟨W,a,J,S,rfl⟩) (D.base l B);let⟨β,ra,z⟩:=fM R x e;refine⟨as,β,_,Y _ _ hsp,dG R.nd nd z,by rw[aa0];exact ra,hsp,λr U v H' u O A F=>?_⟩;let⟨G,Z⟩:=uE R nd z O F;exact y _ _ v H' u (n2.trans n1) G ((u6 z A).base R (B.trans M)) ((B.trans M).trans Z)
theorem II(F:fH X.prog X.w X.K X.mg X.base c f k n sp)(u:Room k X.A)(s:ME X o w)(v:MA X (a::d) i)
  (e:aag (a::d) X.env=(false,eval a X.env)::aag d X.env:=by first|exact aI rfl|rfl) (l:(abD pos (aag d X.env)).any (·.1)=false:=by rfl)
  (r:eval (.Call (.Attribute o f b) (a::d) [] pos) X.env=(do
   let ov <- eval o X.env
   acI b.atName
   let (f,first) <- adN [ov] (aee ov f pl)
   af5 pos f first (abD pos (aag (a::d) X.env)) (adB pos (acw [] X.env))):=by rfl):ME X (.Call (.Attribute o f b) (a::d) [] pos) (xU c f sp w i):=by
 let⟨C,g,fd,ps,G,q,cl,m,x⟩:=F.ex;exact(JZ (E:=E0) (pl:=pl) s cl m G u x .nil BX v e l r).wk λ_ _ _ h=>zq h q F.ar
theorem BF(F:fH X.prog X.w X.K X.mg X.base c f k n sp)(T:Room k X.A)(S:ME X o w)
  (B:eval (.Call (.Attribute o f b) [] [] pos) X.env=(do
   let ov <- eval o X.env
   acI b.atName
   let (f,first) <- adN [ov] (aee ov f pl)
   af5 pos f first (abD pos (aag [] X.env)) (adB pos (acw [] X.env))):=by rfl):ME X (.Call (.Attribute o f b) [] [] pos) (xU c f sp w wNil):=by
 let⟨C,g,fd,ps,G,A,cl,y,U⟩:=F.ex;refine(DW (E:=E0) (pl:=pl) S cl y G T U .nil BX B).wk λj H Q h=>?_;let⟨W,m,O,M,I,s⟩:=zq (E:=E0) h A F.ar;refine⟨W,m,O,M,I,λr m1 v x q n1 R rr D=>?_⟩;let⟨a,dx,fs,z,J,L,V,m2,Y,u,l,e⟩:=s r m1 v x q n1 R rr D;exact⟨a,dx,fs,z,J,L,e [] m2 [] x l rfl u .nil (Frm.refl _ _)⟩
theorem gC(F:fH X.prog X.w X.K X.mg X.base c f k n sp)(g:Room k X.A)(q:EE X o w)(l:EA X (a::d) i)
  (h:aag (a::d) X.env=(false,eval a X.env)::aag d X.env:=by first|exact aI rfl|rfl) (e:(abD pos (aag d X.env)).any (·.1)=false:=by rfl)
  (m:eval (.Call (.Attribute o f b) (a::d) [] pos) X.env=(do
   let ov <- eval o X.env
   acI b.atName
   let (f,first) <- adN [ov] (aee ov f pl)
   af5 pos f first (abD pos (aag (a::d) X.env)) (adB pos (acw [] X.env))):=by rfl):EE X (.Call (.Attribute o f b) (a::d) [] pos) (xU c f sp w i):=⟨II (pl:=pl) F g q.h l.h h e m⟩
def qL(F:fH X.prog X.w X.K X.mg X.base c f k n sp)(h:Room k X.A)(g:EE X o w)
  (e:eval (.Call (.Attribute o f b) [] [] pos) X.env=(do
   let ov <- eval o X.env
   acI b.atName
   let (f,first) <- adN [ov] (aee ov f pl)
   af5 pos f first (abD pos (aag [] X.env)) (adB pos (acw [] X.env))):=by rfl):EE X (.Call (.Attribute o f b) [] [] pos) (xU c f sp w wNil):=⟨BF (pl:=pl) F h g.h e⟩
end
inductive FsOk(K:Kd)(H:Hp):List (Str×aD)->List (Str×V)->List (List (List Nat×Addr))->Prop where
 |nil:FsOk K H [] [] []
 |cons {f:Str}{t:aD}{v:V}{τ:List (List Nat×Addr)}{ts:List (Str×aD)}{xs:List (Str×V)}{τs:List (List (List Nat×Addr))}:TAt K H τ [] t v->(∀a∈τ.map (·.2),∃o,H a=some o/\Mu o=true)->FsOk K H ts xs τs->FsOk K H ((f,t)::ts) ((f,v)::xs) (τ::τs)
theorem FsOk.snoc{K:Kd}{H:Hp}{f:Str}{t:aD}{v:V}{τ:List (List Nat×Addr)}(h:TAt K H τ [] t v)(d:∀a∈τ.map (·.2),∃o,H a=some o/\Mu o=true):∀{ts:List (Str×aD)}{xs:List (Str×V)}{τs:List (List (List Nat×Addr))},FsOk K H ts xs τs->FsOk K H (ts++[(f,t)]) (xs++[(f,v)]) (τs++[τ])
 |_,_,_,.nil=>FsOk.cons h d .nil
 |_,_,_,.cons (f:=g) a b c=>FsOk.cons (f:=g) a b (FsOk.snoc h d c)
theorem FsOk.mono{K:Kd}{f:Hp}(g:Pers H f)(h:FsOk K H ts xs τs):(∀a∈allA τs,f a=H a)->FsOk K f ts xs τs:=by
 induction h with
 |nil=>intro _;exact .nil
 |cons a b c i=>
  intro e;exact .cons (TAt.mono g (λx d=>e x (aaZ _ d)) a) (λx d=>by rw[e x (aaZ _ d)];exact b x d) (i λx d=>e x (aaz _ d))
theorem FsOk.names{K:Kd}:∀{ts:List (Str×aD)}{xs:List (Str×V)}{τs:List (List (List Nat×Addr))},FsOk K H ts xs τs->xs.map (·.1)=ts.map (·.1)
 |_,_,_,.nil=>rfl
 |_,_,_,.cons _ _ c=>by rw[aan,aan,c.names]
theorem FsOk.mu{K:Kd}:∀{ts:List (Str×aD)}{xs:List (Str×V)}{τs:List (List (List Nat×Addr))},FsOk K H ts xs τs->∀a∈allA τs,∃o,H a=some o/\Mu o=true
 |_,_,_,.nil,a,ha=>by cases ha
 |_,_,_,.cons _ b c,a,ha=>by
  rcases aaU.mp ha with z|z
  .exact b a z
  .exact c.mu a z
theorem lj:∀(τs:List (List (List Nat×Addr))) (τ:List (List Nat×Addr)),allA (τs++[τ])=allA τs++τ.map (·.2)
 |[],τ=>by simp[allA]
 |σ::τs,τ=>by rw[adp,allA,allA,lj τs,aaV]
def insT(c:Str)(ts:List (Str×aD)):aD:=.dict ((.none,.str c)::ts.map λf=>(.str f.1,f.2))
theorem FsOk.at{K:Kd}{τ':List (List Nat×Addr)}(h:FsOk K H ts xs τs):∀{i:Nat},(∀(j:Nat) (τ:List (List Nat×Addr)) (q:List Nat) (a:Addr),τs[j]?=some τ->τ.lookup q=some a->τ'.lookup ((i+j)::q)=some a)->TAtF K H τ' [] i (ts.map λd=>(.str d.1,d.2)) xs:=by
 induction h with
 |nil=>intro i _;simp only[ad6,TAtF]
 | @cons f t v τ ts xs τs a b c ih=>
  intro i l;simp only[aan,TAtF];refine⟨v,xs,rfl,?_,ih λj τ q a k g=>?_⟩
  .have:=TAt.shift (τ':=τ') (w:=[i]) (λq a e=>l 0 τ q a rfl e) a;simpa using this
  .rw[show i+1+j=i+(j+1) by omega];exact l (j+1) τ q a (by simpa using k) g
theorem uJ{f:Str}{v:V}:∀{xs:List (Str×V)},f∉xs.map (·.1)->putF f v xs=xs++[(f,v)]
 |[],_=>rfl
 |(g,x)::r,h=>by
  rw[aan,aak,not_or]at h;rw[show putF f v ((g,x)::r)=(if g=f then(g,v)::r else(g,x)::putF f v r)from rfl,if_neg (λz=>h.1 z.symm),uJ h.2];rfl
def B7(K:aaf):List (Str×TE)->TS->TS
 |[],w=>w
 |(f,tv)::r,w=>tSeq (sFld K (tVar 0) tv f) (B7 K r w)
def wFs:List (Str×WE)->MSt->(List (Str×aD)->MSt->Prop)->Prop
 |[],m,K=>K [] m
 |(f,we)::r,m,K=>we m λa m1=>onTr (λt=>wFs r m1 λts m2=>K ((f,t)::ts) m2) a
abbrev SpI:=List aD->(aD->Prop)->Prop
def k9(n:Nat)(ds:List aD):MSt:=⟨none::(ds.map λd=>some (.imm d))++aas (n-(ds.length+1)) none,[],0⟩
def Kj(c:Str)(nN:Nat)(fs:List (Str×WE))(w:WS)(ds:List aD)(a:aD->Prop):Prop:=
 wFs fs (k9 nN ds) λts _=>w {nx:=λm=>∃t,m.os[0]?=some [t]/\a t,rt:=λ_ _=>False} (dN nN (.tr (insT c ts)::ds.map .imm))
def spIn(K:Kd)(c:Str)(n:Nat)(sp:SpI):Sp:=λvs H Q _=>∃a C dx ds v f,vs = .ref a::v/\ds.length=n/\H a=some (.ins C dx [])/\ClsN K c C/\DenAll K H ds v/\sp ds f/\
 ∀t d e,f t->d.lookup []=some a->(d.map (·.2)).Nodup->(∀b∈d.map (·.2),b=a\/H b=none)->OwnAt K e (.T d) [t]->(∀b o,H b=some o->b≠a->e b=some o)->Q .non e
theorem spIn.len{K:Kd}{vs:List V}{Q:VK}{E:XK}(h:spIn K c n sp vs H Q E):vs.length=n+1:=by
 let⟨a,C,dx,ds,v,d,rfl,b,_,_,hd,_⟩:=h;rw[aaw,<-hd.length,b]
structure EIn(X:Cx)(c:Str)(body:List Stmt)(fs:List (Str×WE))(w:WS):Prop where
 h:PSs X body (B7 X.K (fs.map λfw=>(fw.1,tM X.kx fw.2)) (tMS X.kx w))
 all:∀f∈fs.map (·.1),InsF X.K c f
section
variable {X:Cx}{c f:Str}{b:List Stmt}{fs:List (Str×WE)}{w:WS}{a:WE}{e:Expr}{p d pos:Pos}
def CU(h:ESs X b w):EIn X c b [] w:=⟨h.h,λ_ z=>by cases z⟩
theorem il(I:InsF X.K c f)(l:EE X e a)(j:EIn X c b fs w)(k:X.N[0]?=some ("self" : Str):=by rfl)(o:Vis X.env.scope "self":=by first|exact afk rfl|exact ac9 (afk rfl)|exact ac9 (ac9 rfl))(m:abB e (some (.Attribute (.Name "self" p) f d)) pos.line X.env=pure false:=by rfl):EIn X c (.Assign [.Attribute (.Name "self" p) f d] e pos::b) ((f,a)::fs) w:=
 ⟨vz (Pf (FY (i:=0) k o) l.h m) j.h,λg h=>by
  rcases aak.mp h with rfl|h
  .exact I
  .exact j.all g h⟩
end
theorem JX{K:Kx}{m:MSt}{g:St}{f:Hp}(j:K.eb=⟨0,[],λ_=>none⟩)(h:Pers H f)(R:Rel K [] m g H):Rel K [] m g f:=by
 refine⟨R.nd,R.len,λk q ds z=>by simp at z,R.vlen,λi r z=>?_,R.npl,R.ebl,by rw[j];exact⟨rfl,λ_ _ z=>(by cases z),λ_ _=>.inr rfl,λa o=>(by cases o)⟩⟩;let⟨v,l,b⟩:=R.var i r z;refine⟨v,l,?_⟩
 cases r with
 |imm d=>exact Den.mono h b
 |obj k=>let⟨a,e,_⟩:=b;simp at e
 | «at» k p=>let⟨s,a,e,_⟩:=b;simp at e
 |new ds=>exact b
 |newT t=>exact b
theorem nU{K:Kd}{H:Hp}:∀{ds:List aD}{vs:List V},DenAll K H ds vs->RelAs K H (ds.map .imm) vs []
 |[],_,h=>by simp only[DenAll]at h;subst h;exact .nil
 |d::ds,_,h=>by
  simp only[DenAll]at h;let⟨v,vs,rfl,f,g⟩:=h;exact .imm f (nU g)
theorem vq:∀ds:List aD,agO (ds.map .imm)=[]
 |[]=>rfl
 |d::ds=>by simp only[aan,agO,vq ds]
theorem Ql{X:Cx}{fs:List (Str×WE)}{w:WS}{vs:List V}{Q:VK}{E:XK}(he:X.kx.eb=⟨0,[],λ_=>none⟩)(hN:N.length=nN)(hle:n+1≤nN)(all:∀f∈fs.map (·.1),InsF X.K c f)(nd:(fs.map (·.1)).Nodup)(h9:fs.length<900)
  (h:spIn X.kd c n sp vs H Q E) (hw:∀ds S,ds.length=n->sp ds S->Kj c nN fs w ds S):B7 X.K (fs.map λfw=>(fw.1,tM X.kx fw.2)) (tMS X.kx w) {nx:=λ_ W=>Q .non W,rt:=Q} (start N vs) H:=by
 let⟨a,C,dx,ds,l,S,rfl,hl,G,hc,hd,hsp,fin⟩:=h;have hw0:=hw ds S hl hsp;have hvl:ds.length=l.length:=hd.length;have σ0:(start N (.ref a::l))[0]?=some (some (.ref a)):=rfl;have R0:Rel X.kx [] (k9 nN ds) (start N (.ref a::l)) H:=by
  refine⟨abT,rfl,λk ao es z=>by simp at z,?_,λi r z=>?_,aab _,by rw[he];exact aab _,by rw[he];exact⟨rfl,λ_ _ z=>(by cases z),λ_ _=>.inr rfl,λa G=>(by cases G)⟩⟩
  .simp[start,k9];omega
  .cases i with
   |zero=>simp[k9]at z
   | succ i=>
    have I:((ds.map λd=>some (R.imm d))++aas (nN-(ds.length+1)) none)[i]?=some (some r):=by simpa[k9]using z
    by_cases hi:i<ds.length
    .rw[aaE (by rw[lD];exact hi),aae]at I
     cases q:ds[i]? with
     |none=>rw[q]at I;cases I
     |some d=>
      rw[q]at I;cases I;let⟨v,ev,gv⟩:=hd.get q;refine⟨v,?_,gv⟩;show(some (V.ref a)::l.map some++aas (N.length-(l.length+1)) none)[i+1]?=_;rw[adp,List.getElem?_cons_succ,aaE (by rw[lD];omega),aae,ev];rfl
    .rw[aaN (by rw[lD];omega),acn]at I
     split at I<;>cases I
 have go:∀(M:List (Str×WE)) (m:MSt) (B:Hp) (done:List (Str×aD)) (xs:List (Str×V)) (τs:List (List (List Nat×Addr))),(∀f∈M.map (·.1),InsF X.K c f)->(done.map (·.1)++M.map (·.1)).Nodup->done.length+M.length<900 ->
   Rel X.kx [] m (start N (.ref a::l)) B->B a=some (.ins C dx xs)->FsOk X.kd B done xs τs->(allA τs).Nodup->(∀b∈allA τs,H b=none)->(∀b o,H b=some o->b≠a->B b=some o) ->
   wFs M m (λts _=>w {nx:=λm=>∃t,m.os[0]?=some [t]/\S t,rt:=λ_ _=>False} (dN nN (.tr (insT c (done++ts))::ds.map .imm))) ->
   B7 X.K (M.map λfw=>(fw.1,tM X.kx fw.2)) (tMS X.kx w) {nx:=λ_ W=>Q .non W,rt:=Q} (start N (.ref a::l)) B:=by
  intro M
  induction M with
  | nil=>
   intro m B done xs τs _ _ _ Rl A J D fr old hk;have hk':w {nx:=λm=>∃t,m.os[0]?=some [t]/\S t,rt:=λ_ _=>False} (dN nN (.tr (insT c done)::ds.map .imm)):=by
    have hk2:w {nx:=λm=>∃t,m.os[0]?=some [t]/\S t,rt:=λ_ _=>False} (dN nN (.tr (insT c (done++[]))::ds.map .imm)):=hk;rwa[aa0]at hk2
   have an:a∉allA τs:=λz=>by have:=fr a z;rw[G]at this;cases this
   have pe:Pers H B:=⟨λb xs e=>old b _ e λz=>(by rw[z,G]at e;cases e),λb o u e=>old b _ e λz=>(by rw[z,G]at e;cases e)⟩;have ow:OwnAt X.kx B (.T (([],a)::jQ 1 τs)) [insT c done]:=by
    refine⟨⟨_,.ref a,rfl,?_,a,rfl,rfl⟩,λb s=>?_⟩
    .unfold insT;simp only[TAt];refine .inr (.inr (.inr ⟨c,a,dx,C,xs,rfl,rfl,rfl,A,hc,?_⟩));simp only[TAtF];refine J.at λj τ q b e1 e2=>?_;rw[aa5];have:(((0+1+j)::q)==([]:List Nat))=false:=rfl;rw[this];exact mY (i:=1) e1 e2
    .rw[aan,d6]at s;obtain rfl|s:=aak.mp s
     .exact⟨_,A,rfl⟩
     .exact J.mu b s
   have ra:RelAs X.kx B (.tr (insT c done)::ds.map .imm) (.ref a::l) [.T (([],a)::jQ 1 τs)]:=.tr ow rfl (nU (hd.mono pe));have Y:(ads [Ao.T (([],a)::jQ 1 τs)]).Nodup:=by
    have:ads [Ao.T (([],a)::jQ 1 τs)]=a::allA τs:=by simp[ads,Ao.ads,d6]
    rw[this,abd];exact⟨an,D⟩
   have agl:(agO (.tr (insT c done)::ds.map .imm)).length=1:=by simp only[agO,vq,aaw,ac5]
   have R1:=qX (K:=X.kx) (N:=N) (n:=n+1) hN hle (by simp[hl]) Y ra (by rw[he];exact abF _) (by rw[he];exact⟨rfl,λ_ _ z=>(by cases z),λ_ _=>.inr rfl,λa G=>(by cases G)⟩);refine⟨_,_,_,R1,hk',⟨λα' m' σ' W q hn R' x=>?_,λr α' m' σ' v W q _ _ _ _=>q.elim,λ_ _ _ _ z=>z.elim,λ_ _ _ _ z=>z.elim⟩⟩;let⟨O,F,_⟩:=pJ ra hn R' x;let⟨t,et,kt⟩:=q;have hn1:m'.np=1:=hn.trans agl;refine fin t (([],a)::jQ 1 τs) W kt rfl (by rw[aan,d6,abd];exact⟨an,D⟩) (λb s=>?_) (O.at_ 0 _ _ rfl (by rw[hn1,aaQ,if_pos (by decide)];exact et)) λb o eb nb=>?_
   .rw[aan,d6]at s;obtain rfl|s:=aak.mp s
    .exact .inl rfl
    .exact .inr (fr b s)
   .refine F b o (old b o eb nb) λz=>?_;have:ads [Ao.T (([],a)::jQ 1 τs)]=a::allA τs:=by simp[ads,Ao.ads,d6]
    rw[this]at z;rcases aak.mp z with z|z
    .exact nb z
    .rw[fr b z]at eb;cases eb
  | cons g M ih=>
   let⟨f,we⟩:=g;intro m B done xs τs al U hz Rl A J D fr old hk;refine⟨[],m,_,Rl,hk,λr m1 v H1 q n1 Rl1 rr F1=>?_⟩;unfold onTr at q
   cases et:trR r with
   |none=>rw[et]at q;exact q.elim
   | some t=>
    rw[et]at q;let⟨τ,t1,t2,t3,t4⟩:=PH rr;have up:∀b o,B b=some o->H1 b=some o:=λb o e=>F1 b o e (by simp[ads]);have Z:=up a _ A;let⟨C0,hn,cl,na⟩:=(al f (by simp)).ex;have ec:C=C0:=by
     have:=hc.symm.trans hn;simpa using this
    subst ec;have fn:f∉xs.map (·.1):=by
     rw[J.names];intro z;rw[aan,acK]at U;exact U.2.2 f z f aac rfl
    have xl:xs.length=done.length:=by have:=congrArg adh J.names;simpa using this
    refine⟨.ref a,σ0,a,C,dx,xs,rfl,Z,cl,na,by rw[xl];omega,?_⟩;rw[uJ fn];have T:Pers H1 (upd H1 a (.ins C dx (xs++[(f,v)]))):=bi (.inr ⟨_,Z,rfl⟩);have pec:Pers B H1:=⟨λb xs e=>up b _ e,λb o u e=>up b _ e⟩;have an:a∉allA τs:=λz=>by have:=fr a z;rw[G]at this;cases this
    have L:a∉τ.map (·.2):=λz=>by have:=t4 a z;rw[A]at this;cases this
    have old0:∀b,B b=none->H b=none:=λb q=>by
     cases z:H b with
     |none=>rfl
     |some o=>
      have ne:b≠a:=λy=>by rw[y,A]at q;cases q
      have:=old b o z ne;rw[q]at this;cases this
    refine ih m1 _ (done++[(f,t)]) (xs++[(f,v)]) (τs++[τ]) (λg hg=>al g (aad _ hg)) ?_ ?_ (JX he T Rl1) av ?_ ?_ ?_ ?_ ?_
    .rw[aaH,aaV];exact U
    .rw[aam];simp at hz⊢;omega
    .refine FsOk.snoc (TAt.mono T (λb s=>au (λ(z:b=a)=>L (z▸s))) (t1 t et)) (λb s=>by rw[au (λ(z:b=a)=>L (z▸s))];exact t3 b s) ?_;refine FsOk.mono (pec.trans T) J (λb s=>?_);rw[au (λ(z:b=a)=>an (z▸s))];let⟨o,q,_⟩:=J.mu b s;rw[q];exact up b o q
    .rw[lj,acK];refine⟨D,t2,λb s b' hb' z=>?_⟩;subst z;let⟨o,q,_⟩:=J.mu b s;rw[t4 b hb']at q;cases q
    .intro b s;rw[lj]at s;rcases aaU.mp s with z|z
     .exact fr b z
     .exact old0 b (t4 b z)
    .intro b o eb nb;rw[au nb];exact up b o (old b o eb nb)
    .have:=q;simp only[aaV,adp,abh]at this⊢;exact this
 exact go fs (k9 nN ds) H [] [] [] all (by simpa using nd) (by simpa using h9) R0 G .nil abT (λ_ z=>by cases z) (λ_ _ e _=>e) hw0
structure yu(P:aaI)(w:World)(K:aaf)(mg:Str->Option Ad)(base:aaW)(c:Str)(k n:Nat)(sp:SpI):Prop where
 ex:∃(C f:Addr) (fd:ab4) (ps:List Str),Mk K C f/\FnOk P w K mg base CX0 k f fd ps (spIn ⟨K,w⟩ c n sp)/\aaM K aay c=some (some (.ref C))/\mg c=some (.ref C)/\Binds K fd ps []
 ar:∀ds Kc,sp ds Kc->ds.length=n
structure IniD(K:aaf)(mg:Str->Option Ad)(c qual:Str)(st:Stmt)(ps:List Str):Prop where
 ex:∃(C f:Addr) (fd:ab4),Fun K "__init__" qual st f fd/\Mk K C f/\aaM K aay c=some (some (.ref C))/\mg c=some (.ref C)/\Binds K fd ps []
structure IniDK(K:aaf)(c qual:Str)(st:Stmt)(ps:List Str):Prop where
 ex:∃(C f:Addr) (fd:ab4),Fun K "__init__" qual st f fd/\Mk K C f/\aaM K aay c=some (some (.ref C))/\Binds K fd ps []
def IniDK.of{f:Addr}{o kV g pm b ct:Ad}{an:Option Addr}(h:∀(kV g pm:Ad) (an:Option Addr) (b ct:Ad) (us:List Ad),us.length=ps.length->adA (abl "__init__" qual (cp st) (bz st) (ab st) .none kV g pm an b ct) ⟨us,[]⟩=pure (ps.zip us))
  (a:aaM K aay c=some (some (.ref C))) (d:abp K (.ref C) "__init__" = some (some (.ref f))) (l:K.lookup f=some ⟨o,od,.func (abl "__init__" qual (cp st) (bz st) (ab st) .none kV g pm an b ct),sl⟩) (e:adi K b qual=true) (k:abP K (.ref f)=true) (fn:aeD K (.ref f)=true) (m:afR K C=true) (i:abP K (.ref C)=true):IniDK K c qual st ps:=
 ⟨C,f,_,qr l e k,⟨m,d,fn,i⟩,a,(qr l e k).binds h⟩
theorem IniDK.m{h:aaW}(D:IniDK K c qual st ps)(X:K.In h)(G:h.Ns aay mg):IniD K mg c qual st ps:=by
 let⟨C,f,fd,F,M,a,b⟩:=D.ex;exact⟨C,f,fd,F,M,a,agz X G a,b⟩
theorem GN{P:aaI}{w:World}{base:aaW}{k:Nat}(D:IniD K mg c qual st ps)(S:ak N ps (ab st))(v:ps.length=n+1)(m:N.length=nN)(g:n+1≤nN)(ar:∀ds e,sp ds e->ds.length=n)
  (d:∀(b:Ad) (A:aa8) (outer:List Env) (s:GT) (H:Hp) (E:XK) (f:Addr),Room k (A.deeper (ad2 qual (ab st) s.heap.objs.size f b)) ->
   ∃fs i,EIn (cxOf CX0 P w K mg base N qual (ab st) f b A outer s H E).nox c (bz st) fs i/\(decide (fs.map (·.1)).Nodup=true/\fs.length<900)/\∀ds e,ds.length=n->sp ds e->Kj c nN fs i ds e) :
  yu P w K mg base c (k+1) n sp:=by
 let⟨C,f,fd,F,M,a,o,u⟩:=D.ex;refine⟨⟨C,f,fd,ps,M,F.ok S (λvs H Q E h=>by rw[v];exact h.len) (λb A outer s H vs Q E q h=>?_),a,o,u⟩,ar⟩;let⟨fs,i,j,l,r⟩:=d b A outer s H E f q;exact⟨_,j.h,Ql (X:=(cxOf CX0 P w K mg base N qual (ab st) f b A outer s H E).nox) rfl m g j.all (of_decide_eq_true l.1) l.2 h r⟩
def lu:List R->Option (List aD)
 |[]=>some []
 | .imm d::rs=>(lu rs).map (d :: ·)
 |_::_=>none
def vp(P:List aD->Prop)(rs:List R):Prop:=match lu rs with
 |some ds=>P ds
 |none=>False
abbrev KO(sp:SpI)(w:WA):WE:=λm K=>w m λrs m1=>vp (λds=>sp ds λt=>K (.newT t) m1) rs
theorem uC{K:Kd}{f:Al}{a H:Hp}:∀{rs:List R}{vs:List V}{ds:List aD},RelRs K f a H rs vs->lu rs=some ds->DenAll K H ds vs
 |_,_,ds,.nil,e=>by cases e;exact DenAll.nil
 | _,_,ds,.cons (r:=.imm d) (rs:=rs) h t,e=>by
  simp only[lu]at e
  cases q:lu rs with
  |none=>rw[q]at e;cases e
  |some b=>
   rw[q]at e;cases e;exact DenAll.cons h (uC t q)
 |_,_,_,.cons (r:=.obj _) _ _,e=>by cases e
 |_,_,_,.cons (r:=.at _ _) _ _,e=>by cases e
 |_,_,_,.cons (r:=.new _) _ _,e=>by cases e
 |_,_,_,.cons (r:=.newT _) _ _,e=>by cases e
section
variable {X:Cx}{a:Expr}{d:List Expr}{w:WA}{p pos:Pos}{c:Str}{k n:Nat}{sp:SpI}{E:XK}{g:St}{H:Hp}{Q:VK}{C:Addr}
theorem Ii(h:tM X.kx (KO sp w) g H Q)(O:aaM X.K aay c=some (some (.ref C)))(T:∀ds L,sp ds L->ds.length=n):NU C (spIn X.kd c n sp) [] E (tMA X.kx w) g H Q:=by
 let⟨r,m,L,Z,Y,B⟩:=h;refine⟨r,m,_,Z,Y,λrs m1 vs f q n1 R rr I x dx D F ne=>?_⟩;unfold vp at q
 cases e:lu rs with
 |none=>rw[e]at q;exact q.elim
 | some ds=>
  rw[e]at q;have hd:=uC rr e;have v:∀b o,f b=some o->(upd (upd f dx (.own x)) x (.ins C dx [])) b=some o:=λb o eb=>by
   have b1:b≠x:=λz=>by rw[z,D]at eb;cases eb
   have b2:b≠dx:=λz=>by rw[z,F]at eb;cases eb
   rw[au b1,au b2];exact eb
  have i:∀b,f b=none->H b=none:=λb q=>by
   cases z:H b with
   |none=>rfl
   |some o=>
    by_cases l:b∈ads r
    .obtain⟨o,q2,_⟩:=R.mem l;rw[q]at q2;cases q2
    .have:=I b o z l;rw[q]at this;cases this
  have G:Pers f (upd (upd f dx (.own x)) x (.ins C dx [])):=⟨λb xs e=>v b _ e,λb o u e=>v b _ e⟩;refine⟨x,C,dx,ds,vs,_,by rw[aa0],T _ _ q,av,O,hd.mono G,q,λt S s V M W e3 U e5=>⟨rfl,?_⟩⟩;have j:∀b o,f b=some o->s b=some o:=λb o eb=>e5 b o (v b o eb) λz=>by rw[z,D]at eb;cases eb
  have J:Frm r f s:=λb o eb _=>j b o eb;have A:Rel X.kx r m1 g s:=R.at (Ce j) (λb l=>by let⟨o,q,_⟩:=R.mem l;rw[q];exact j b o q) J;refine B _ m1 (.ref x) s V n1 A ⟨S,x,rfl,M,W,λb l=>?_,U⟩ (I.trans J);rcases e3 b l with rfl|z
  .exact i _ D
  .refine i b ?_
   cases y:f b with
   |none=>rfl
   |some o=>rw[v b o y]at z;cases z
theorem KG(F:yu X.prog X.w X.K X.mg X.base c k n sp)(o:Room (k+1) X.A)(l:MA X (a::d) w)(q:Gl X c:=by rfl)(e:(c==("__debug__" : Str))=false:=by decide)(j:aag (a::d) X.env=(false,eval a X.env)::aag d X.env:=by first|exact aI rfl|rfl)(b:(abD pos (aag d X.env)).any (·.1)=false:=by rfl):ME X (.Call (.Name c p) (a::d) [] pos) (KO sp w):=by
 let⟨C,f,fd,ps,M,G,i,m,r⟩:=F.ex;exact(JS (E:=E0) M G o q m r .nil BX l e j b).wk λ_ _ _ h=>Ii h i F.ar
theorem Dh(F:yu X.prog X.w X.K X.mg X.base c k n sp)(e:Room (k+1) X.A)(f:EA X (a::d) w)(i:Gl X c:=by rfl)(h:(c==("__debug__" : Str))=false:=by decide)(j:aag (a::d) X.env=(false,eval a X.env)::aag d X.env:=by first|exact aI rfl|rfl)(b:(abD pos (aag d X.env)).any (·.1)=false:=by rfl):EE X (.Call (.Name c p) (a::d) [] pos) (KO sp w):=⟨KG F e f.h i h j b⟩
end
section
variable {m:MSt}{Q:R->MSt->Prop}{a:WE}{b:WA}{c f:Str}{sp:SpM}{s:SpI}
def OZ{k j:Nat}{t' d:aD}{K:R->Prop}(g:m.os[k]?=some [t])(e:getT t p=some (.dict kvs))(o:excC kvs=some c)(l:fdAt f 0 kvs=some (j,t'))(i:g9 t'=some d)(h:K (.imm d)):fGot m c k p f K:=⟨t,kvs,j,t',g,e,o,l,by unfold fC;rw[i];exact h⟩
def uc{k j:Nat}{t':aD}{K:R->Prop}(d:m.os[k]?=some [t])(e:getT t p=some (.dict kvs))(l:excC kvs=some c)(i:fdAt f 0 kvs=some (j,t'))(g:g9 t'=none)(h:K (.at k (p++[j]))):fGot m c k p f K:=⟨t,kvs,j,t',d,e,l,i,by unfold fC;rw[g];exact h⟩
def Bo{p:List Ag->List Nat->Prop}{as:List Ag}{ks:List Nat}{o:Option (List Ag×List Nat)}(e:o=some (as,ks))(nd:ks.Nodup)(h:p as ks):M9 (λas ks=>ks.Nodup/\p as ks) o:=⟨as,ks,e,nd,h⟩
def Ng{k:Nat}{P:Prop}(g:m.os[k]?=some [.dict kvs])(e:excC kvs=some c)(d:fdAt f 0 kvs=none)(h:P):insR m c f (.at k []) P:=⟨k,kvs,rfl,g,e,d,h⟩
def Db{P:List aD->Prop}{rs:List R}(e:lu rs=some ds)(h:P ds):vp P rs:=by unfold vp;rw[e];exact h
def Jk{fs:List (Str×WE)}{w:WS}{d:aD->Prop}(g:MSt)(e:g=k9 nN ds)(h:wFs fs g λts _=>w {nx:=λm=>∃t,m.os[0]?=some [t]/\d t,rt:=λ_ _=>False} (dN nN (.tr (insT c ts)::ds.map .imm))):Kj c nN fs w ds d:=by subst e;exact h
def T8{r:List (Str×WE)}{w:WE}{K:List (Str×aD)->MSt->Prop}(h:w m λd m1=>onTr (λt=>wFs r m1 λts m2=>K ((f,t)::ts) m2) d):wFs ((f,w)::r) m K:=h
def Sg{K:List (Str×aD)->MSt->Prop}(h:K [] m):wFs [] m K:=h
def SF{d:aD}(h:P (lfD d)):onTr P (.imm d):=h
def Sv(h:P (.list (ds.map lfD))):onTr P (.new ds):=h
def R9(h:P t):onTr P (.newT t):=h
end
def Sf(K:Kd)(to ti:TE):TE:=λe H Q=>to e H λx f=>ti e f λy b=>∃a kvs k d,x = .ref a/\IsDc K b a kvs/\oneK kvs k=true/\Den K b k y/\dF k kvs=some d/\∀v,Den K b d v->Q v b
section
variable {X:Cx}{o i:Expr}{w b:WE}{pos:Pos}{to ti:TE}
theorem GY(j:X.A.units+64<cLine)(D:PE X o to)(r:PE X i ti)(F:NoSl i):PE X (.Subscript o i pos) (Sf X.kd to ti):=by
 intro e s g H Q I h;refine yQ ae6.lookup F (thn (D e s g H _ I h) λu s1 ⟨x,m,E,z,q⟩=>thn (r e s1 g m _ E q) λM s2 ⟨y,l,f,J,a,kvs,k,d,ex,dc,ok,hk,A,B⟩=>?_);subst ex;obtain rfl:u=abw a:=z;exact⟨(f.dcT dc).1,v5 j f dc ok hk J A λv O R L G hd=>⟨v,l,L,G,B v hd⟩⟩
abbrev O6(w b:WE):WE:=λm K=>w m λa m1=>b m1 λr m2=>jP (λk=>∃kvs d,dcM m2 kvs a/\oneK kvs k=true/\dF k kvs=some d/\K (.imm d) m2) r
theorem IR(l:X.A.units+64<cLine)(A:ME X o w)(u:ME X i b)(B:NoSl i:=by intro _ _;rfl):ME X (.Subscript o i pos) (O6 w b):=(GY l A u B).wk<|by
 intro I H Q ⟨j,m,J,h,y,f⟩;refine⟨j,m,_,h,y,λG m1 M E k1 n1 R r x=>⟨j,m1,_,R,k1,λO m2 L q k2 n2 e g F=>?_⟩⟩;let⟨k,rfl,hk,kvs,d,s,ok,D,k2⟩:=fY g k2;let⟨a,rfl,dc⟩:=RelR.dc e (r.keep h R F) s (by
  rcases ql ok with z|z
  .exact .inl z.1
  .exact .inr z.1)
 exact⟨a,kvs,k,d,rfl,dc,ok,hk,D,λv hd=>f _ m2 v q k2 (n2.trans n1) e hd (x.trans F)⟩
theorem vg(d:X.A.units+64<cLine)(a:EE X o w)(h:EE X i b)(e:NoSl i:=by intro _ _;rfl):EE X (.Subscript o i pos) (O6 w b):=⟨IR d a.h h.h e⟩
end
end L2
set_option maxHeartbeats 1100000
namespace L2
open PySem PySem.Spec PyProof.Rows
open Sem (wp)
variable{Q:Option Ad->GT->Prop}{kvs:List (aD×aD)}
structure EntAt(h:aaW)(d:Addr)(es:Array acd)(ep:Nat):Prop where
 ex:∃o,h.get? d=some o/\o.ExactDict/\o.data = .dict es ep
section
variable {prog:aaI}{w:World}{A:aa8}{E:Ad->GT->Prop}{s:GT}{f d:Addr}{l:Array acd}{i p:Nat}{ok r:Ad}
def sg{Q:String->GT->Prop}(hT:s.TypeIs (.ref f) "dict_itemiterator")(h:Q "dict_itemiterator" s):wpAny (model prog w) A (typeNameOfWhole (.ref f)) Q E s:=wpAny_typeNameOfWhole_itemiter hT h
def vY{j n:Nat}{k v:Ad}{Q:Ad->GT->Prop}(c:ac2 s.heap f d j n p ok r)
  (N:∀h',afr h' f d j n p k v s.heap.objs.size->h'.get? s.heap.objs.size=some {cls:=.type "tuple",data:=.seq #[k,v]}->h'.objs.size=s.heap.objs.size+1 ->
   (∀b o,b≠f->s.heap.get? b=some o->h'.get? b=some o)->Q (.ref s.heap.objs.size) {s with heap:=h' }):wpAny (model prog w) A (ab7 (.ref f) 6 k v) Q E s:=by
 have lt:f<s.heap.objs.size:=aap c;rcases s with⟨h,g,T,U,os⟩;refine gT (m:=newTuple [k,v]) (agb ?_);have G:(h.push {cls:=.type "tuple",data:=.seq #[k,v]}).objs.size=h.objs.size+1:=abE ..;have D:(h.push {cls:=.type "tuple",data:=.seq #[k,v]}).get? h.objs.size=some {cls:=.type "tuple",data:=.seq #[k,v]}:=aao _ rfl;have t:∀b o,h.get? b=some o->(h.push {cls:=.type "tuple",data:=.seq #[k,v]}).get? b=some o:=λb o q=>Ld _ q;have a:ac2 (h.push {cls:=.type "tuple",data:=.seq #[k,v]}) f d j n p ok r:=t _ _ c;show wpAny _ _ (abU (.ref f) >>= _) _ _ ⟨h.push {cls:=.type "tuple",data:=.seq #[k,v]},g,T,U,os⟩;generalize h.push {cls:=.type "tuple",data:=.seq #[k,v]}=H at G D t a;refine gT (m:=abU (.ref f)) ?_;refine gT (m:=field (.ref f) 0) (abG a rfl (x:=.none) rfl (LD ?_));refine gT (m:=field (.ref f) 6) (abG a rfl (x:=ok) rfl (gT (m:=field (.ref f) 7) (abG a rfl (x:=r) rfl ?_)));refine gT (m:=adG (.ref f) 6 k) (aaX a (by simp) λM P s1=>?_);have B:ac2 M f d j n p k r:=P;refine gT (m:=adG (.ref f) 7 v) (aaX B (by simp) λR K s2=>?_);have y:ac2 R f d j n p k v:=K;refine gT (m:=adG (.ref f) 0 (aeW h.objs.size)) (aaX y (by simp) λL S C=>?_);have u:afr L f d j n p k v h.objs.size:=S;refine gT (m:=adG (.ref f) 1 (.bool false)) (aaX u (by simp) λe O F=>?_);have z:afr e f d j n p k v h.objs.size:=O;have I:∀b o,b≠f->H.get? b=some o->e.get? b=some o:=λb o nb q=>F.extBut b o nb (C.extBut b o nb (s2.extBut b o nb (s1.extBut b o nb q)));have J:e.objs.size=H.objs.size:=by rw[F.1,C.1,s2.1,s1.1]
 exact gT (m:=letGo _ _) (aga (LD (N e z (I _ _ (abx lt) D) (J.trans G) λb o nb q=>I b o nb (t b o q))))
def xt(h:ac2 s.heap f d i l.size p ok r)(C:EntAt s.heap d l p)(B:i<l.size)
  (y:∀h',afr h' f d (i+1) l.size p l[i].key l[i].val s.heap.objs.size->h'.get? s.heap.objs.size=some {cls:=.type "tuple",data:=.seq #[l[i].key,l[i].val]}->h'.objs.size=s.heap.objs.size+1 ->
   (∀b o,b≠f->s.heap.get? b=some o->h'.get? b=some o)->Q (some (.ref s.heap.objs.size)) {s with heap:=h' }):wpAny (model prog w) A (acR (.ref f)) Q E s:=by
 let⟨I,a,G,c⟩:=C.ex;have hT:s.TypeIs (.ref f) "dict_itemiterator":=(⟨_,h,rfl⟩);have own:abW "dict_itemiterator" = true:=by decide
 unfold acR;refine gT (ac7 (aa9 (name:=aci "__next__") hT aa7 (abk aa7 hT acg ?_ (ab9 _))))
 wp_walk using sg hT,aeY h rfl,adg a c,adR a c,abf hT
 have H:(if (i:Int)<0 then none else l[((i:Nat):Int).toNat]?)=some l[i]:=by
  rw[if_neg (by omega),abc,aca B]
 rw[H];rcases s with⟨n,g,t,v,os⟩;refine gT ?_;refine gT (sg hT (LD ?_));refine gT (m:=aeZ _ _) (abf hT ?_);show wpAny _ _ (adG (.ref f) 3 (aeW ((i:Int)+1)) >>= _) _ _ _;refine gT (aaX h (by simp) λj x s1=>?_);replace s1:ab3 f n j:=s1;have e:ac2 j f d (i+1) l.size p ok r:=by
  have q:((i+1:Nat):Int)=(i:Int)+1:=rfl;unfold ac2;rw[q];simpa[aeW]using x
 have T:afs ⟨j,g,t,v,os⟩ (.ref f) "dict_itemiterator":=(⟨_,e,rfl⟩);refine gT (ach (gT (abf T (gT (abf T ?_)))));show wpAny _ _ (ab7 (.ref f) 6 l[i].key l[i].val) _ _ ⟨j,g,t,v,os⟩;have F:j.objs.size=n.objs.size:=s1.1;refine vY e λD k u z k2=>?_;rw[F]at k u z⊢;exact LD ⟨_,rfl,LD (y D k u z λb o nb q=>k2 b o nb (s1.extBut b o nb q))⟩
def Ba(k:A.handled=none)(h:ac2 s.heap f d i l.size p ok r)(x:EntAt s.heap d l p)(u:l.size≤i)
  (t:∀h',(∀b o,b≠f->s.heap.get? b=some o->h'.get? b=some o)->Q none {s with heap:=h' }):wpAny (model prog w) A (acR (.ref f)) Q E s:=by
 let⟨C,a,j,c⟩:=x.ex;have hT:s.TypeIs (.ref f) "dict_itemiterator":=(⟨_,h,rfl⟩);have own:abW "dict_itemiterator" = true:=by decide
 unfold acR;refine gT (ac7 (aa9 (name:=aci "__next__") hT aa7 (abk aa7 hT acg ?_ (ab9 _))))
 wp_walk using sg hT,aeY h rfl,adg a c,adR a c,abf hT
 have n:(if (i:Int)<0 then none else l[((i:Nat):Int).toNat]?)=none:=by
  rw[if_neg (by omega),abc,afN u]
 rw[n];refine gT (gT (sg hT (LD ?_)));refine gT (m:=adG (.ref f) 2 .none) (aaX h (by simp) λD B s1=>?_);refine ol k λy e k2 ⟨z,v,g⟩=>?_;exact gT (ado (T:= "StopIteration") (b:=true) ⟨z,v,g⟩ agc (LD (t y λb o nb q=>k2 b o (s1.extBut b o nb q))))
def EntAt.keep{h h':aaW}(x:EntAt h d l p)(k:∀o,h.get? d=some o->h'.get? d=some o):EntAt h' d l p:=let ⟨o,a,b,c⟩:=x.ex;⟨o,k o a,b,c⟩
def EntAt.ty(x:EntAt s.heap d l p):s.TypeIs (.ref d) "dict":=let ⟨o,a,b,_⟩:=x.ex;⟨o,a,b.1⟩
def wn{Q:Ad->GT->Prop}(hd:(d==abC)=false)(a:EntAt s.heap d l p)(h:Q (.ref s.heap.objs.size) {s with heap:=s.heap.push {cls:=.type "dict_items",data:=.fields #[.ref d]} }):wpAny (model prog w) A (call (.builtin "dict.items") [.ref d]) Q E s:=by
 refine call_meetsIn (S:=λ_ R s=>EntAt s.heap d l p/\R (.ok (.ret (.ref s.heap.objs.size))) {s with heap:=s.heap.push {cls:=.type "dict_items",data:=.fields #[.ref d]} }) afy a.ty PySem.F.entry_dict_items (PySem.F.args_dict_items_1 _) (.of_wp λA R s ⟨b,h⟩=>?_) ⟨a,h⟩;refine gT (gT (af1 b.ty ?_));refine LD ?_;refine gT ?_;unfold adm.Dict.showsAll;rw[hd];exact LD (gT (abg (LD ⟨_,rfl,h⟩)))
end
section
variable {X:Cx}{p:List (Addr×Obj)}{a:St}{H:Hp}{s:GT}
def Ig{P:aaI}{w:World}{kk:Key}{u:Ad}(e:(cq P w).is kk u=true):RelV (kV kk) u:=by
 rcases bP e with⟨i,t,rfl,rfl⟩|⟨x,t,rfl,rfl⟩
 .exact⟨t,rfl⟩
 .exact⟨t,rfl⟩
end
theorem Paired.at{a β:Type}{R:a->β->Prop}:∀{xs:List a}{ys:List β}{i:Nat}{y:β},abO R xs ys->ys[i]?=some y->∃x,xs[i]?=some x/\R x y
 |_,_,i,y,.nil,e=>by simp at e
 |_,_,0,y,.cons h _,e=>by simp at e;subst e;exact⟨_,rfl,h⟩
 |_,_,i+1,y,.cons _ t,e=>by
  let⟨x,b,c⟩:=Paired.at t ‹_›;exact⟨x,by simpa using b,c⟩
theorem xz{K:Kd}{H:Hp}:∀{kvs:List (aD×aD)}{xs:List (Int×V×V)},DenKV K H kvs xs->abO (λ(p:aD×aD) (e:V×V)=>Den K H p.1 e.1/\Den K H p.2 e.2) kvs (xs.map (·.2))
 |[],_,h=>by simp[DenKV]at h;subst h;exact .nil
 |_::r,_,h=>by
  let⟨u,v,vs,rfl,a,c,b⟩:=h;exact .cons ⟨a,c⟩ (xz b)
theorem Ap{K:Kd}{H:Hp}:∀{kvs:List (aD×aD)}{xs:List (Key×V)},DenKK K H kvs xs->abO (λ(p:aD×aD) (e:V×V)=>Den K H p.1 e.1/\Den K H p.2 e.2) kvs (xs.map λp=>(kV p.1,p.2))
 |[],_,h=>by simp[DenKK]at h;subst h;exact .nil
 |(k,d)::r,_,h=>by
  let⟨c,v,vs,rfl,⟨rfl,_⟩,b,a⟩:=h;refine .cons ⟨?_,b⟩ (Ap a)
  cases c with
  |inl i=>exact z9 i
  |inr x=>exact KL x
abbrev PDc(K:Kd)(H:Hp):List (aD×aD)->List (V×V)->Prop:=abO λp e=>Den K H p.1 e.1/\Den K H p.2 e.2
def fZ(kvs:List (aD×aD)):List aD:=kvs.map λp=>.tuple [p.1,p.2]
theorem Paired.at1{a β:Type}{R:a->β->Prop}:∀{xs:List a}{ys:List β}{i:Nat}{x:a},abO R xs ys->xs[i]?=some x->∃y,ys[i]?=some y/\R x y
 |_,_,i,y,.nil,e=>by simp at e
 |_,_,0,y,.cons h _,e=>by simp at e;subst e;exact⟨_,rfl,h⟩
 |_,_,i+1,y,.cons _ t,e=>by
  let⟨x,b,c⟩:=Paired.at1 t ‹_›;exact⟨x,by simpa using b,c⟩
noncomputable def putX (k:aD) (b:Addr) (r:Ad):List (aD×Addr×Ad)->List (aD×Addr×Ad)
 |[]=>[(k,b,r)]
 |x::xs=>if x.1=k then(x.1,x.2.1,r)::xs else x::putX k b r xs
theorem vC{k:aD}{r:Ad}:∀{xs:List (aD×Addr×Ad)},k∉xs.map (·.1)->xs.map (putAt k r)=xs
 |[],_=>rfl
 |x::xs,h=>by
  rw[aan,aak,not_or]at h;rw[aan,vC h.2];unfold putAt;rw[if_neg (λz=>h.1 z.symm)]
theorem j7{k:aD}{b:Addr}{r:Ad}:∀{xs:List (aD×Addr×Ad)},(xs.map (·.1)).Nodup->storedH xs k b r=putX k b r xs
 |[],_=>rfl
 | x::xs,h=>by
  rw[aan,abd]at h
  by_cases e:x.1=k
  .have a:atKey (x::xs) k=some x.2:=by simp[atKey,e]
   rw[storedH_old a,aan,vC (by rw[<-e];exact h.1)];unfold putX putAt;rw[if_pos e,if_pos e]
  .have a:atKey (x::xs) k=atKey xs k:=by simp[atKey,e]
   have i:=j7 (k:=k) (b:=b) (r:=r) h.2;unfold putX;rw[if_neg e,<-i];unfold storedH;rw[a];split
   .rw[aan];unfold putAt;rw[if_neg e]
   .rfl
noncomputable def putE (w:World) (k:aD) (y v:V):List (aD×aD)->List (Int×V×V)->List (Int×V×V)
 |(k',_)::r,e::es=>if k'=k then(e.1,e.2.1,v)::es else e::putE w k y v r es
 |_,_=>[(gI w k,y,v)]
def Bp{k d k' d':aD}{r:List (aD×aD)}(h:kyD k'=true)(hk:kyD k=true):putP k d ((k',d')::r)=if k'=k then(k',d)::r else(k',d')::putP k d r:=by
 show(if aai k' k=true then _ else _)=_;rw[qZ _ _ (md h) (md hk)];simp
theorem vb(w:World)(k:aD)(y v:V):∀(kvs:List (aD×aD)) (a:List (Int×V×V)),kvs.length=a.length->(putE w k y v kvs a).length≤a.length+1
 |[],[],_=>aab _
 |_::r,e::a,h=>by
  unfold putE;split
  .simp
  .rw[aaw,aaw];have:=vb w k y v r a (by simpa using h);omega
 |[],_::_,h=>by simp at h
 |_::_,[],h=>by simp at h
theorem va{K:Kd}{H:Hp}{k d:aD}{y v:V}(hk:kyD k=true)(dk:Den K H k y)(b:Den K H d v):∀{kvs:List (aD×aD)}{a:List (Int×V×V)},kyA kvs=true->DenKV K H kvs a->DenKV K H (putP k d kvs) (putE K.w k y v kvs a)
 |[],a,_,g=>by
  subst g;show DenKV K H [(k,d)] [(gI K.w k,y,v)];simp only[DenKV];exact⟨y,v,[],rfl,dk,b,rfl⟩
 |(k',d')::r,a,ha,g=>by
  rw[kyA,ab2,aaS]at ha;let⟨u,h,vs,rfl,c,i,f⟩:=g;rw[Bp ha.1 hk];unfold putE
  by_cases e:k'=k
  .rw[if_pos e,if_pos e];simp only[DenKV];exact⟨u,v,vs,rfl,c,b,f⟩
  .rw[if_neg e,if_neg e];simp only[DenKV];exact⟨u,h,_,rfl,c,i,va hk dk b ha.2 f⟩
theorem GC{w:World}{k:aD}{b:Addr}{v:V}{r:Ad}(a:RelV v r):∀{kvs:List (aD×aD)}{e:List (Int×V×V)}{xs:List (aD×Addr×Ad)},xs.map (·.1)=kvs.map (·.1)->ExV w e xs->ExV w (putE w k (.ref b) v kvs e) (putX k b r xs):=by
 intro kvs
 induction kvs with
 |nil=>
  intro e xs hk ex;have:=by simpa using hk
  subst this;exact .cons ⟨rfl,rfl,a⟩ .nil
 | cons q kvs i=>
  intro e xs hk ex;let⟨d,f⟩:=q
  cases ex with
  |nil=>simp at hk
  |cons h t=>
   simp at hk;unfold putE putX
   by_cases c:d=k
   .rw[if_pos c,if_pos (hk.1.trans c)];exact .cons ⟨h.1,h.2.1,a⟩ t
   .rw[if_neg c,if_neg (λz=>c (hk.1.symm.trans z))];exact .cons h (i hk.2 t)
def DxM(K:Kd)(H:Hp)(a:Addr)(kvs:List (aD×aD))(e:List (Int×V×V)):Prop:=
 DenKV K H kvs e/\(kvs.map (·.1)).Nodup/\kyA kvs=true/\((H a=some (dX a e)/\kvs≠[])\/(H a=some (.dK [])/\kvs=[]))
section
variable {X:Cx}{c:List (Addr×Obj)}{i:St}{H:Hp}{s:GT}{a:Addr}{kvs:List (aD×aD)}{f:List (Int×V×V)}{k d:aD}{y v:V}{u r:Ad}{A:aa8}{E:Ad->GT->Prop}
def DxM.is(I:Inv X c i H s)(h:DxM X.kd H a kvs f):(a==abC)=false/\∃xs,s.heap.DictOfH (mn X.prog X.w) a xs/\PxV X.kd H kvs xs/\ExV X.w f xs:=by
 obtain⟨g,nd,ky,⟨q,_⟩|⟨q,rfl⟩⟩:=h
 .obtain⟨hs,_,xs,dd,p,e⟩:=I.dcE (.inl q) g nd ky;exact⟨hs,xs,dd,p,e⟩
 .obtain⟨hs,dd⟩:=I.dc0 (.inl q);subst g;exact⟨hs,[],dd,.nil,.nil⟩
theorem OH{Q:Unit->GT->Prop}(t:A.units+20<cLine)(I:Inv X c i H s)(h:DxM X.kd H a kvs f)(hk:kyD k=true)(dk:Den X.kd H k y)(N:RelV y u)(M:RelV v r)(R:kvs.length<aaj)
  (j:∀s',Inv X c i (upd H a (dX a (putE X.w k y v kvs f))) s'->Q () s'):wpAny (model X.prog X.w) A (dictSet a u r) Q E s:=by
 let⟨L,x,B,p,ex⟩:=h.is I;let⟨b,rfl⟩:=uG hk dk;cases (N);have le:f.length=kvs.length:=h.1.len.symm;have T:x.length=kvs.length:=by have:=congrArg adh p.keys;simpa using this
 refine wpAny_dictSet_heap (knd:=mn X.prog X.w) t (I.ky hk dk) B (λP g m=>j _ ?_) (by omega);rw[j7 (by rw[p.keys];exact h.2.1)]at g;let⟨o,e,F,l,C,G,n,K,O⟩:=g;have mu:Mut (H a):=by
  rcases h.2.2.2 with⟨q,_⟩|⟨q,_⟩
  .rw[q];exact trivial
  .rw[q];exact trivial
 refine oj I mu m ⟨o,l⟩ ⟨⟨L,?_,o,e,F,l,C,G,?_⟩,⟨o,l⟩,λS W D J=>?_⟩
 .have:=vb X.w k (.ref b) v kvs f le.symm;omega
 .rw[n];have:=GC (w:=X.w) (k:=k) (b:=b) M p.keys ex;generalize putE X.w k (.ref b) v kvs f=U at this;generalize putX k b r x=V at this;clear n K O
  induction this with
  |nil=>exact .nil
  |cons q _ z=>exact .cons ⟨q.1.symm,by rw[q.2.1];rfl,q.2.2⟩ z
 .obtain⟨z1,z2,o',ents',ep',z3,z4⟩:=D;exact⟨z1,z2,o',ents',ep',J o' z3,z4⟩
theorem w4{Q:Unit->GT->Prop}(o:A.units+64<cLine)(I:Inv X c i H s)(h:DxM X.kd H a kvs f)(hk:kyD k=true)(dk:Den X.kd H k y)(j:RelV y u)(g:RelV v r)(l:kvs.length<aaj)
  (e:∀s',Inv X c i (upd H a (dX a (putE X.w k y v kvs f))) s'->Q () s'):wpAny (model X.prog X.w) A (setItem (.ref a) u r) Q E s:=by
 let⟨p,x,b,q,ex⟩:=h.is I;refine ach ?_;refine gT (afb b.typeIs (by decide) ?_);refine gT (aa9 b.typeIs slot_dict_setitem (abk slot_dict_setitem b.typeIs entry_dict_setitem ?_ (args_dict_setitem _ _ _)));refine gT (af1 b.typeIs ?_);refine gT (m:=dictSet a u r) (OH (by grind) I h hk dk j g l λs' n=>LD ⟨.none,rfl,LD (e s' n)⟩)
end
def QH(K:Kd)(t ty g:TE):TS:=λD b H=>g b H λv f=>t b f λx d=>ty b d λy c=>∃a kvs e k,x = .ref a/\DxM K c a kvs e/\kyD k=true/\Den K c k y/\kvs.length<aaj/\D.nx b (upd c a (dX a (putE K.w k y v kvs e)))
section
variable {X:Cx}{o i e:Expr}{w j A:WE}{pos f:Pos}{B ty E:TE}
theorem Cc(C:X.A.units+64<cLine)(L:PE X o B)(G:PE X i ty)(t:PE X e E)(n:abB e (some (.Subscript o i f)) pos.line X.env=pure false):PS X (.Assign [.Subscript o i f] e pos) (QH X.kd B ty E):=by
 intro p s b H D I h;refine afM (thn (t p s b H _ I h) λr s1 ⟨v,d,M,N,F⟩=>thn (L p s1 b d _ M F) λu s2 ⟨x,c,g,J,K⟩=>thn (G p s2 b c _ g K) λR P ⟨y,T,m,O,a,kvs,U,k,ex,dx,ky,dk,l,q⟩=>?_) n;subst ex;obtain rfl:u=abw a:=J;exact w4 C m dx ky dk O N l λS z=>⟨b,_,z,q⟩
theorem lw{k d:aD}(hk:kyD k=true):∀{kvs:List (aD×aD)},kyA kvs=true->(putP k d kvs).map (·.1)=if k∈kvs.map (·.1)then kvs.map (·.1)else kvs.map (·.1)++[k]
 |[],_=>rfl
 | (k',d')::r,h=>by
  rw[kyA,ab2,aaS]at h;rw[Bp h.1 hk]
  by_cases e:k'=k
  .rw[if_pos e,if_pos (by simp[e])];rfl
  .rw[if_neg e,aan,lw hk h.2]
   by_cases c:k∈r.map (·.1)
   .rw[if_pos c,if_pos (by simp[c])];rfl
   .rw[if_neg c,if_neg (by simp only[aan,aak,not_or];exact⟨λz=>e z.symm,c⟩)];rfl
def v7{k d:aD}(hk:kyD k=true)(h:kyA kvs=true)(nd:(kvs.map (·.1)).Nodup):((putP k d kvs).map (·.1)).Nodup:=by
 rw[lw hk h];split
 .omega
 .rename_i c;exact acK.mpr ⟨nd,by simp,λa l b g=>by simp at g;subst g;exact λz=>c (z▸l)⟩
theorem uI{k d:aD}(hk:kyD k=true)(h:kyA kvs=true):kyA (putP k d kvs)=true:=by
 have e:∀l:List _,kyA l=(l.map _).all kyD:=λl=>by unfold kyA;rw[aea];rfl
 rw[e,lw hk h];rw[e]at h;split
 .exact h
 .rw[List.all_append,h];simp[hk]
theorem J4(k d:aD)(kvs:List (aD×aD)):putP k d kvs≠[]:=by
 cases kvs with
 |nil=>intro h;cases h
 |cons x r=>
  show(if _ then _ else _)≠_
  split<;>simp
theorem BR(h:kyA kvs=true)(n:kvs≠[]):isKd kvs=false:=by
 cases kvs with
 |nil=>exact(n rfl).elim
 |cons x r=>
  let⟨k,d⟩:=x;rw[kyA,ab2,aaS]at h;let⟨ds,rfl,_⟩:=gW h.1;rfl
def xP(h:kyA kvs=true)(n:kvs≠[])(nd:(kvs.map (·.1)).Nodup):zN kvs:=
 ⟨BR h n,nd,λk hk=>by
  let⟨x,a,rfl⟩:=aal.mp hk;exact md (abr.mp h x a)⟩
abbrev FM(A w j:WE):WS:=λD m=>A m λr m1=>jP (λd=>w m1 λb m2=>j m2 λc a=>onAt (λk p=>jP (λy=>∃t kvs,a.os[k]?=some [t]/\getT t p=some (.dict (lfKV kvs))/\okW t p=true/\kyA kvs=true/\kyD y=true/\kvs.length<aaj/\D.nx {a with os:=a.os.set k [setT t p (.dict (lfKV (putP y d kvs)))]}) c) b) r
def yc(kvs:List (aD×aD)):kyA (lfKV kvs)=kyA kvs:=by
 unfold kyA lfKV;rw[aea];rfl
theorem Rel.dx{K:Kx}{r:Al}{m:MSt}{x:St}{H:Hp}{k:Nat}{τ:List (List Nat×Addr)}{a:Addr}{p:List Nat}{t:aD}(R:Rel K r m x H)(s:r[k]?=some (.T τ))(u:τ.lookup p=some a)(D:m.os[k]?=some [t])(y:getT t p=some (.dict (lfKV kvs)))(ky:kyA kvs=true):∃l,DxM K H a kvs l:=by
 let⟨⟨F,G,z,g,_⟩,_⟩:=R.own k (.T τ) _ s D;cases z;let⟨L,g⟩:=g.get y;rw[abh]at g;let⟨n1,n2⟩:=sv (.inr (by rw[yc];exact ky));rcases g with⟨d,h,_⟩|⟨_,_,b,l,h,v,n,q,g⟩|⟨_,_,b,l,h,v,n,g⟩|⟨c,b,dx,C,I,J,_⟩
 .rw[n1]at h;cases h
 .rw[u]at h;cases h;exact⟨l,fzKV g,by rw[<-iW];exact q.2.1,ky,.inl ⟨n,λz=>by subst z;exact absurd q.1 (by decide)⟩⟩
 .simp_all
  let⟨rfl,rfl⟩:=Qq (fzKK g) ky;exact⟨[],by simp only[DenKV],abT,rfl,.inr ⟨n,rfl⟩⟩
 .grind
theorem BG(hu:X.A.units+64<cLine)(he:ME X e A)(ho:ME X o w)(hi:ME X i j)(hs:abB e (some (.Subscript o i f)) pos.line X.env=pure false:=by rfl):MS X (.Assign [.Subscript o i f] e pos) (FM A w j):=(Cc hu ho hi he hs).wk<|by
 intro D σ H ⟨M,m,De,Rl,hw,k⟩;refine⟨M,m,_,Rl,hw,λr m1 v H1 q n1 J rr F1=>?_⟩;let⟨d,er,hd,q⟩:=fY rr q;refine⟨M,m1,_,J,q,λro m2 ov H2 q2 n2 L U F2=>⟨M,m2,_,L,q2,λri m3 V x G n3 R Z F3=>?_⟩⟩;let⟨kk,p,K,a,rfl,N,s,rfl,G⟩:=vV U G;let⟨y,rfl,hy,t,kvs,e3,et,O,ky,h,hl,G⟩:=fY Z G;let⟨F,dx⟩:=R.dx N s e3 et ky;have Y:Den X.kx x d v:=(hd.mono (J.pers F2)).mono (L.pers F3);let⟨⟨t1,v0,z,g,a0,ea0,W⟩,mu⟩:=R.own kk (.T K) _ N e3;cases z;let⟨u0,S,mu0⟩:∃u,x a=some u/\Mu u=true:=by
  rcases dx.2.2.2 with⟨q,_⟩|⟨q,_⟩
  .exact⟨_,q,rfl⟩
  .exact⟨_,q,rfl⟩
 have I:Pers x (upd x a (dX a (putE X.w y V v kvs F))):=bi (.inr ⟨u0,S,mu0⟩);have ok:=xP (kvs:=putP y d kvs) (uI h ky) (J4 y d kvs) (v7 h ky dx.2.1);have nd:(K.map (·.2)).Nodup:=((fi M).mp R.nd).1 (.T K) (Io N);have new:TAt X.kx (upd x a (dX a (putE X.w y V v kvs F))) K p (.dict (lfKV (putP y d kvs))) (.ref a):=by
  let⟨P,T⟩:=sv (.inr (by rw[yc];exact uI h ky):isKd (lfKV (putP y d kvs))=true\/kyA (lfKV (putP y d kvs))=true);simp only[TAt];refine .inr (.inl ⟨P,T,a,_,s,rfl,av,⟨by rw[t5];exact ok.1,by rw[iW];exact ok.2.1,by rw[iW];exact ok.2.2⟩,QM ?_⟩);exact va h (hy.mono I) (Y.mono I) ky (DenKV.mono I dx.1)
 have all:TAt X.kx (upd x a (dX a (putE X.w y V v kvs F))) K [] (setT t p (.dict (lfKV (putP y d kvs)))) v0:=TAt.set nd I g et O (by rw[abh];exact s) (by rw[abh];exact new) λu n=>by
  let⟨P,T⟩:=sv (.inr (by rw[yc];exact ky):isKd (lfKV kvs)=true\/kyA (lfKV kvs)=true);rw[abh]at n;simp only[TAt]at n;rcases n with⟨d,l,_⟩|⟨_,_,b,F,l,y2,_⟩|⟨_,_,b,F,l,y2,_⟩|⟨c,b,dx,C,xs,y0,_⟩
  .rw[P]at l;cases l
  .rw[s]at l;cases l;exact y2
  .rw[s]at l;cases l;exact y2
  .rw[T]at y0;cases y0
 let⟨R4,F4⟩:=R.setW N I (ds':=[setT t p (.dict (lfKV (putP y d kvs)))]) (λb hb=>au λeb=>hb (eb▸bX s)) ⟨⟨_,v0,rfl,all,a0,ea0,W⟩,λb hb=>by
  by_cases eb:b=a
  .subst eb;exact⟨_,av,rfl⟩
  .rw[au eb];exact mu b hb⟩
 exact⟨a,kvs,F,y,rfl,dx,h,hy,hl,k.nx M _ σ _ G (n3.trans (n2.trans n1)) R4 (.of R4 (((F1.trans F2).trans F3).trans F4))⟩
def qp(h:X.A.units+64<cLine)(d:EE X e A)(c:EE X o w)(b:EE X i j)(a:abB e (some (.Subscript o i f)) pos.line X.env=pure false:=by rfl):ES X (.Assign [.Subscript o i f] e pos) (FM A w j):=⟨BG h d.h c.h b.h a⟩
end
end L2
namespace K
open PySem L2 M7
abbrev Pt:=List Nat×Nat
def ptD(p:Pt):aD:=stD p.1 p.2
theorem uD:∀{a b:List Nat},natD a=natD b->a=b
 |[],[],_=>rfl
 |x::a,y::b,h=>by
  simp[natD]at h;rw[show x=y by omega,uD h.2]
 |[],_::_,h=>nomatch h
 |_::_,[],h=>nomatch h
theorem M6(p:Pt):hkD (ptD p)=true:=by
 have n:∀l:List Nat,hkA (natD l)=true:=λl=>by
  induction l with
  |nil=>rfl
  |cons x l i=>show(hkD _&&hkA (natD l))=true;rw[i];rfl
 show(hkD _&&_)=true;rw[show hkD (lnD p.1)=true from n p.1];rfl
def Qx(p q:Pt):aai (ptD p) (ptD q)=decide (p=q):=by
 rw[qZ _ _ (M6 p) (M6 q)];refine decide_eq_decide.mpr ⟨λh=>?_,λh=>by rw[h]⟩;have a:=by injection h
 simp at a;have b:=by have:=a.1;injection this
 exact ahl (uD b) (by omega)
instance decWd:DecidableEq Wd:=λa b=>by cases a<;>cases b<;>first|exact isTrue rfl|exact isFalse (λh=>nomatch h)
def Gm:SpM:=λa K=>∃h:Hall,a=[.imm h.d]/\h.Ok/\K (.new ((ordK h.ss.length h.ss.length).map lnD)) []
def DE:∀n≤4,1≤n->∀o∈ordK n n,o≠[]/\o.length≤4/\∀k∈o,k<n:=by decide +kernel
def gh(l:List Nat):cU (natD l)=some (l.map λ(x:Nat)=>(x:Int)):=by
 have:=dm (l.map λ(x:Nat)=>(x:Int));rwa[aa4]at this
theorem sum_nat:∀l:List Nat,(l.map λ(x:Nat)=>(x:Int)).sum=(l.sum:Int)
 |[]=>rfl
 |x::l=>by rw[aan,ac8];rw[ac8,sum_nat l];rfl
theorem kg{e:Type}[DecidableEq e]:∀{l m:List e},l.Nodup->(∀x∈l,x∈m)->l.length≤m.length
 |[],_,_,_=>abF _
 | a::l,m,h,hs=>by
  rw[abd]at h;have d:=hs a aac;have i:=kg (l:=l) (m:=m.erase a) h.2 λx c=>by
   have b:x≠a:=λz=>h.1 (z▸c);exact(List.mem_erase_of_ne b).mpr (hs x (aad _ c))
  have:=List.length_erase_of_mem d;have:=List.length_pos_of_mem d;rw[aaw];omega
theorem jW:∀{rs l:List Nat},M7.Fits rs l->l∈M3.allR rs
 |[],[],_=>aah.mpr rfl
 |r::rs,x::l,h=>by
  have a:x≤r:=h.1;exact ace.mpr ⟨x,ack.mpr (by omega),aal.mpr ⟨l,jW h.2,rfl⟩⟩
 |[],_::_,h=>h.elim
 |_::_,[],h=>h.elim
end K
namespace L2
open PySem PySem.Spec PySem.W PyProof.Rows
def LtAt(A:aa8)(s:GT)(x y:Ad)(b:Bool):Prop:=
 ∀(prog:aaI) (w:World) (E:Ad->GT->Prop) (Q:Ad->GT->Prop),Q (.bool b) s->wpAny (model prog w) A (richCompare .Lt x y) Q E s
def xV(A:aa8)(s:GT)(f r:Bool):List (Ad×Ad)->Prop
 |[]=>r=f
 |p::ps=>∃e,afC A s p.1 p.2 e/\((e=true->xV A s f r ps)/\(e=false->LtAt A s p.1 p.2 r))
theorem mx(l b:Addr)(xs ys:Array Ad)(n m:Nat)(d1 d2:Option Addr)(s1 s2:Array (Option Ad))(r:Bool) :
  Meets (adm.«tuple.__lt__» ⟨[.ref l,.ref b],[]⟩)
   (λA R s=>s.heap.get? l=some {cls:=.type "tuple",dict:=d1,data:=.seq xs n,slots:=s1}/\s.heap.get? b=some {cls:=.type "tuple",dict:=d2,data:=.seq ys m,slots:=s2}/\xV A.in1 s (decide (xs.size<ys.size)) r (xs.toList.zip ys.toList)/\R (.ok (.ret (.bool r))) s):=
 .of_wp λprog w A R s h=>by
  let⟨k,g,o,c⟩:=h;have p:=AutoSeq1.sub_tuple_tuple
  wp_walk using aey k,aey g,aeg _ (λrest z d=>z.1=none/\d=s/\xV A.in1 s (decide (xs.size<ys.size)) r rest) _
  case turn=>
   intro⟨u,v⟩ rest z d ⟨f,rfl,e,i,q,j⟩;refine gT (i prog w _ _ ?_)
   cases e with
   |true=>exact LD ⟨rfl,rfl,q rfl⟩
   |false=>
    refine gT (abL (gT (j rfl prog w _ _ ?_)))
    wp_walk
    exact⟨_,rfl,c⟩
  case fin=>
   intro⟨z,u⟩ d ⟨f,rfl,e⟩;have a:z=none:=f;subst a
   wp_walk
   refine⟨_,rfl,?_⟩;rw[e]at c;exact c
  case h=>exact⟨rfl,rfl,o⟩
mutual
def ltD:aD->aD->Bool
 | .int a,.int b=>decide (a<b)
 | .tuple xs,.tuple ys=>ltDs xs ys
 |_,_=>false
def ltDs:List aD->List aD->Bool
 |x::xs,y::ys=>if aai x y=true then ltDs xs ys else ltD x y
 |[],_::_=>true
 |_,_=>false
end
mutual
def smD:aD->aD->Bool
 | .int _,.int _=>true
 | .tuple xs,.tuple ys=>smDs xs ys
 |_,_=>false
def smDs:List aD->List aD->Bool
 |[],[]=>true
 |x::xs,y::ys=>smD x y&&smDs xs ys
 |_,_=>false
end
mutual
theorem y9:∀{x y:aD},smD x y=true->x.canLay0=true/\y.canLay0=true
 | .int _,.int _,_=>⟨rfl,rfl⟩
 | .tuple xs,.tuple ys,h=>by
  simp only[smD]at h;have:=yn h;exact⟨this.1,this.2⟩
theorem yn:∀{xs ys:List aD},smDs xs ys=true->abv xs=true/\abv ys=true
 |[],[],_=>⟨rfl,rfl⟩
 |x::xs,y::ys,h=>by
  simp only[smDs,aaS]at h;have a:=y9 h.1;have b:=yn h.2;exact⟨by simp only[abv,a.1,b.1,Bool.and_self],by simp only[abv,a.2,b.2,Bool.and_self]⟩
end
def LtUp(k:Nat):Prop:=∀(x y:aD) (A:aa8) (s:GT) (u v:Ad) (a bs:List Addr),x.depth≤k->Reads s.heap u x a->Reads s.heap v y bs->smD x y=true->A.units+x.depth<cLine->LtAt A s u v (ltD x y)
theorem lh{k:Nat}(I:LtUp k)(A:aa8)(s:GT):∀(xs ys:List aD) (us vs:List Ad) (as bs:List Addr),aaC xs≤k->adF s.heap us xs as->adF s.heap vs ys bs->smDs xs ys=true->A.units+aaC xs<cLine->us.length=vs.length/\xV A s false (ltDs xs ys) (us.zip vs)
 | [],ys,us,vs,as,bs,hk,r1,r2,h,hu=>by
  cases ys with
  |cons y ys=>exact absurd h (by simp only[smDs];decide)
  |nil=>
   cases r1;cases r2;exact⟨rfl,rfl⟩
 | x::xs,ys,us,vs,as,bs,hk,r1,r2,h,hu=>by
  cases ys with
  |nil=>exact absurd h (by simp only[smDs];decide)
  | cons y ys=>
   simp only[smDs,aaS]at h
   cases r1 with
   | cons a1 a2=>
    cases r2 with
    |cons b1 b2=>
     have a:max x.depth _≤k:=hk;have dp:A.units+max x.depth _<cLine:=hu;have ly:=y9 h.1;let⟨l,b⟩:=lh I A s xs ys _ _ _ _ (by omega) a2 b2 h.2 (by omega);refine⟨by rw[aaw,aaw,l],aai x y,ahb x y A s _ _ _ _ a1 b1 ly.1 ly.2 (by have:=Nat.min_le_left x.depth y.depth;omega),λe=>?_,λe=>?_⟩
     .rw[ltDs,if_pos e];exact b
     .rw[ltDs,if_neg (by rw[e];decide)];exact I x y A s _ _ _ _ (by omega) a1 b1 h.1 (by omega)
theorem vi:∀k,LtUp k
 | 0,x,y,A,s,u,v,as,bs,hk,r1,r2,h,hu=>by
  cases x with
  | int a=>
   cases y with
   |int b=>
    cases r1;cases r2;exact λprog w E Q h=>wpAny_lt_int h
   |_=>exact absurd h (by simp only[smD];decide)
  |tuple c=>exact absurd hk (by show ¬aaC c+1≤0;contradiction)
  |_=>exact absurd h (by simp only[smD];decide)
 | k+1,x,y,A,s,u,v,as,bs,hk,r1,r2,h,hu=>by
  cases x with
  | int a=>
   cases y with
   |int b=>
    cases r1;cases r2;exact λprog w E Q h=>wpAny_lt_int h
   |_=>exact absurd h (by simp only[smD];decide)
  | tuple c=>
   cases y with
   | tuple q=>
    simp only[smD]at h
    cases r1 with
    | tuple j G r K=>
     cases r2 with
     |tuple C i B R=>
      rename_i l o vs n m O d N;let⟨J,I,t,P⟩:=o;let⟨D,g,f,e⟩:=O;dsimp only at G r i B;subst G r i B;have L:aaC c+1≤k+1:=hk;have dp:A.units+(aaC c+1)<cLine:=hu;let⟨S,M⟩:=lh (vi k) A.in1 s c q vs.toList d.toList _ _ (by omega) K R h (show A.units+1+aaC c<cLine by omega);rw[act,act]at S;intro prog w E Q H;refine richCompare_meets_room (op:=.Lt) ⟨_,j,rfl⟩ ⟨_,C,rfl⟩ F.slot_tuple_lt F.entry_tuple_lt (F.args_tuple_lt_2 _ _) (mx l m vs d n N I g P e (ltDs c q)) ⟨j,C,?_,⟨(λz=>nomatch z),H⟩⟩ (by omega);rw[decide_eq_false (p:=_) (by omega)];exact M
   |_=>exact absurd h (by simp only[smD];decide)
  |_=>exact absurd h (by simp only[smD];decide)
end L2
namespace L2
open PySem PySem.Spec PyProof.Rows
variable{n:Nat}{T v:Addr}{b:Bool}{o:Obj}{Q:Option Ad->GT->Prop}{P:Addr->aaW->Nat->Ad->Prop}
section
variable {X:Cx}
def Qr{m:MSt}{r2:R}{a:Bool}{k:aD}{kvs:List (aD×aD)}{K:R->Prop}(c:dcM m kvs r2)(e:oneK kvs k=true)(h:K (.imm (.bool (if a=true then !(dF k kvs).isSome else(dF k kvs).isSome)))):oInD a (.imm k) r2 m K:=⟨kvs,c,e,h⟩
theorem cB{ds:List aD}{g:WG}{w:WS}{D:fG}{m1:MSt}(P:Nat->MSt->Prop)(p0:P 0 m1)
  (step:∀(i:Nat) (d:aD) (m:MSt),ds[i]?=some d->m.np=m1.np->P i m->∀c:fG,(∀a,P (i+1) a->c.nx a)->(∀r a,D.rt r (a.setN m1.np)->c.rt r a)->g d m λm2=>w c m2)
  (f:∀m,m.np=m1.np->P ds.length m->D.nx m):qj ⟨ds,none⟩ g w D m1:=c6 P p0 (λi d m e n p=>step i d m e n p _ (λ_ z=>z) λ_ _ z=>z) f
theorem ay{e:Expr}{w:WE}{pos p:Pos}{x:Str}(i:Nat)(h:X.N.Nodup)(g:EE X e w)(d:X.N[i]?=some x:=by rfl)(a:Loc X.env.scope x:=by exact afk rfl)(c:abB e (some (.Name x p)) pos.line X.env=pure false:=by rfl)(f:X.fn x=true\/X.env.scope.names.lookup x=some .local:=by first|exact .inl rfl|exact .inr rfl|assumption):ES X (.Assign [.Name x p] e pos) (wSet i w):=kb h d a g c f
theorem am{pos:Pos}{x:Str}(i:Nat)(h:X.N.Nodup)(c:X.N[i]?=some x:=by rfl)(a:Loc X.env.scope x:=by exact afk rfl)(d:X.fn x=true\/X.env.scope.names.lookup x=some .local:=by first|exact .inl rfl|exact .inr rfl|assumption):EG X (.Name x pos) (gM i):=iz h c a d
end
section
variable {prog:aaI}{w:World}{A:aa8}{E:Ad->GT->Prop}{s:GT}{it d:Addr}{es:Array acd}{i ep:Nat}{ok ov:Ad}
def l8(h:aaW)(it d:Addr)(i n ep:Nat)(k v:Ad)(T:Addr)(b:Bool):Prop:=h.get? it=some {cls:=.type "dict_itemiterator",data:=.fields #[aeW T,.bool b,.ref d,.int i 0,.int n 0,.int ep 0,k,v]}
def O8{a:Addr}{Q:Option Obj->GT->Prop}(h:Q (s.heap.get? a) s):wpAny (model prog w) A (loadIfAlive a) Q E s:=λ_ _ _=>h
theorem Jq{j:Nat}{Q:Bool->GT->Prop}(h:l8 s.heap it d j n ep ok ov T b)(hT:s.heap.get? T=some o)
  (a:∀h',l8 h' it d j n ep ok ov T true->h'.objs.size=s.heap.objs.size->(∀c o,c≠it->s.heap.get? c=some o->h'.get? c=some o)->Q false {s with heap:=h' }):wpAny (model prog w) A (abU (.ref it)) Q E s:=by
 refine gT (abG h rfl (x:=aeW T) rfl ?_);refine gT (O8 ?_);rw[show((T:Int)).toNat=T by rfl,hT];refine gT (abG h rfl (x:=.bool b) rfl ?_)
 cases b with
 |true=>exact LD (a s.heap h rfl λc o _ q=>q)
 |false=>
  refine gT (aaX h (by simp) λg e s1=>?_);exact LD (a g e s1.1 λc o f q=>s1.extBut c o f q)
def Cw{j:Nat}{k v:Ad}{Q:Ad->GT->Prop}(h:l8 s.heap it d j n ep ok ov T b)(hT:s.heap.get? T=some o)
  (e:∀h',l8 h' it d j n ep ok ov T true->h'.get? s.heap.objs.size=some {cls:=.type "tuple",data:=.seq #[k,v]}->h'.objs.size=s.heap.objs.size+1 ->
   (∀c o,c≠it->s.heap.get? c=some o->h'.get? c=some o)->Q (.ref s.heap.objs.size) {s with heap:=h' }):wpAny (model prog w) A (ab7 (.ref it) 6 k v) Q E s:=by
 have lt:=aap h;have push:∀c o,s.heap.get? c=some o->(s.heap.push {cls:=.type "tuple",data:=.seq #[k,v]}).get? c=some o:=λc o q=>Ld _ q;refine gT (m:=abU _) (Jq (push _ _ h) (push _ _ hT) λh' a1 a2 a=>?_);refine LD (e h' a1 (a _ _ (abx lt) (aao _ rfl)) (a2.trans (abE ..)) λc o f q=>a c o f (push c o q))
def Bz(h:l8 s.heap it d i es.size ep ok ov T b)(k:s.heap.get? T=some o)(K:T≠it)(I:EntAt s.heap d es ep)(H:i<es.size)
  (G:∀h',l8 h' it d (i+1) es.size ep ok ov T true->h'.get? s.heap.objs.size=some {cls:=.type "tuple",data:=.seq #[es[i].key,es[i].val]}->h'.objs.size=s.heap.objs.size+1 ->
   (∀c o,c≠it->s.heap.get? c=some o->h'.get? c=some o)->Q (some (.ref s.heap.objs.size)) {s with heap:=h' }):wpAny (model prog w) A (acR (.ref it)) Q E s:=by
 let⟨L,j,D,f⟩:=I.ex;have hT:s.TypeIs (.ref it) "dict_itemiterator":=(⟨_,h,rfl⟩);have own:abW "dict_itemiterator" = true:=by decide
 unfold acR;refine gT (ac7 (aa9 (name:=aci "__next__") hT aa7 (abk aa7 hT acg ?_ (ab9 _))))
 wp_walk using sg hT,aeY h rfl,adg j f,adR j f,abf hT
 have F:(if (i:Int)<0 then none else es[((i:Nat):Int).toNat]?)=some es[i]:=by
  rw[if_neg (by omega),abc,aca H]
 rw[F];rcases s with⟨x,g,l,t,os⟩;refine gT ?_;refine gT (sg hT (LD ?_));refine gT (m:=aeZ _ _) (abf hT ?_);show wpAny _ _ (adG (.ref it) 3 (aeW ((i:Int)+1)) >>= _) _ _ _;refine gT (aaX h (by simp) λa y s1=>?_);replace s1:ab3 it x a:=s1;have e:l8 a it d (i+1) es.size ep ok ov T b:=by
  have q:((i+1:Nat):Int)=(i:Int)+1:=rfl;unfold l8;rw[q];simpa[aeW]using y
 have r:afs ⟨a,g,l,t,os⟩ (.ref it) "dict_itemiterator":=(⟨_,e,rfl⟩);refine gT (ach (gT (abf r (gT (abf r ?_)))));show wpAny _ _ (ab7 (.ref it) 6 es[i].key es[i].val) _ _ ⟨a,g,l,t,os⟩;have C:a.objs.size=x.objs.size:=s1.1;refine Cw (s:=⟨a,g,l,t,os⟩) e (s1.extBut T o K k) λB J u z k2=>?_;rw[C]at u z⊢;exact LD ⟨_,rfl,LD (G B J u z λc o p q=>k2 c o p (s1.extBut c o p q))⟩
def BJ(k:A.handled=none)(h:l8 s.heap it d i es.size ep ok ov T b)(u:EntAt s.heap d es ep)(t:es.size≤i)
  (r:∀h',(∀c o,c≠it->s.heap.get? c=some o->h'.get? c=some o)->Q none {s with heap:=h' }):wpAny (model prog w) A (acR (.ref it)) Q E s:=by
 let⟨C,a,j,f⟩:=u.ex;have hT:s.TypeIs (.ref it) "dict_itemiterator":=(⟨_,h,rfl⟩);have own:abW "dict_itemiterator" = true:=by decide
 unfold acR;refine gT (ac7 (aa9 (name:=aci "__next__") hT aa7 (abk aa7 hT acg ?_ (ab9 _))))
 wp_walk using sg hT,aeY h rfl,adg a f,adR a f,abf hT
 have l:(if (i:Int)<0 then none else es[((i:Nat):Int).toNat]?)=none:=by
  rw[if_neg (by omega),abc,afN t]
 rw[l];refine gT (gT (sg hT (LD ?_)));refine gT (m:=adG (.ref it) 2 .none) (aaX h (by simp) λD B s1=>?_);refine ol k λx e k2 ⟨z,p,g⟩=>?_;exact gT (ado (T:= "StopIteration") (b:=true) ⟨z,p,g⟩ agc (LD (r x λc o y q=>k2 c o (s1.extBut c o y q))))
structure Nx(prog:aaI)(w:World)(A:aa8)(S it:Addr)(n:Nat)(St:Nat->aaW->Prop)(P:aaW->Nat->Ad->Prop):Prop where
 item:∀(i:Nat) (s:GT) (Q:Option Ad->GT->Prop) (E:Ad->GT->Prop),i<n->St i s.heap->(∃o,s.heap.get? S=some o)->(∀h' v,St (i+1) h'->P h' i v->(∀c o,c≠it->s.heap.get? c=some o->h'.get? c=some o)->Q (some v) {s with heap:=h' })->wpAny (model prog w) A (acR (.ref it)) Q E s
 done:∀(s:GT) (Q:Option Ad->GT->Prop) (E:Ad->GT->Prop),St n s.heap->(∀h',(∀c o,c≠it->s.heap.get? c=some o->h'.get? c=some o)->Q none {s with heap:=h' })->wpAny (model prog w) A (acR (.ref it)) Q E s
 keep:∀i h h',St i h->h'.objs.size=h.objs.size->(∀c o,c≠S->h.get? c=some o->h'.get? c=some o)->St i h'
 more:∀h h' i v,P h i v->(∀c o,c≠S->c≠it->h.get? c=some o->h'.get? c=some o)->P h' i v
def mq(h:aaW)(S:Addr)(acc:Array Ad)(c:Nat):Prop:=h.get? S=some {cls:=.type "list",data:=.seq acc c}
theorem vn{S it:Addr}{n:Nat}{St:Nat->aaW->Prop}{P:aaW->Nat->Ad->Prop}{R:Result->GT->Prop}{r:Ad}(N:Nx prog w A.in1 S it n St P)(ne:S≠it)(C:n≤aaj):∀(k i:Nat) (s:GT) (acc:Array Ad) (c:Nat),n-i=k->i≤n->St i s.heap->mq s.heap S acc c->acc.size=i->(∀j v,acc[j]?=some v->P s.heap j v) ->
  (∀h' a c',(∀b o,b≠it->b≠S->s.heap.get? b=some o->h'.get? b=some o)->mq h' S a c'->a.size=n->(∀j v,a[j]?=some v->P h' j v)->R (.ok (.ret r)) {s with heap:=h' })->adP (model prog w) A (.builtin "list.extend.loop" ⟨[.ref S,.ref it,r],[]⟩) R s
 |0,i,s,acc,c,hk,hi,st,hl,ha,hp,fin=>by
  have e:i=n:=by omega
  subst e;refine ac4 agr ((aer adw _).symm▸?_);refine gT (m:=acR (.ref it)) (N.done s _ _ st λh' kp=>LD (fin h' acc c (λb o nb _ q=>kp b o nb q) (kp S _ ne hl) ha λj v e=>N.more _ _ _ _ (hp j v e) λc o _ f q=>kp c o f q))
 | k+1,i,s,acc,c,hk,hi,st,hl,ha,hp,fin=>by
  refine ac4 agr ((aer adw _).symm▸?_);refine gT (m:=acR (.ref it)) (N.item i s _ _ (by omega) st ⟨_,hl⟩ λh' v p H kp=>?_);have h:mq h' S acc c:=kp S _ ne hl;refine gT (m:=updateSeq S (·.push v)) (afV (s:={s with heap:=h' }) h rfl (LD ⟨agA adw _,?_⟩) (by rw[ha];exact aaD ‹_› ‹_›) (by show(acc.push v).size≤aaj+1;rw[ahh,ha];omega));have l:∀b o,b≠S->h'.get? b=some o->(h'.update S (acr (·.push v))).get? b=some o:=λb o nb q=>(acX _ _ (ab0 nb)).trans q;have t:∀j u,(acc.push v)[j]?=some u->P (h'.update S (acr (·.push v))) j u:=λj u e=>by
   rw[Array.getElem?_push]at e
   split at e
   .rename_i z;rw[ha]at z;subst z;rw[<-aaB e];exact N.more _ _ _ _ H λc o f _ q=>l c o f q
   .exact N.more _ _ _ _ (hp j u e) λc o f F q=>l c o f (kp c o F q)
  refine vn N ne C k (i+1) _ (acc.push v) _ (by omega) (by omega) (N.keep _ _ _ p (aeh ..) l) (ada _ h rfl) (by rw[ahh,ha]) t λy g x k2 G D B=>fin y g x (λb o n1 n2 q=>k2 b o n1 n2 (l b o n2 (kp b o n1 q))) G D B
end
section
variable {prog:aaI}{w:World}{A:aa8}{E:Ad->GT->Prop}{s:GT}{f d S:Addr}{g:Array acd}{i r:Nat}{ok t:Ad}
def StI(S f d:Addr)(g:Array acd)(r:Nat)(i:Nat)(h:aaW):Prop:=EntAt h d g r/\h.objs.size=f+1+i/\((∃ok t,ac2 h f d i g.size r ok t)\/∃k v T b o,l8 h f d i g.size r k v T b/\h.get? T=some o/\T≠f/\T≠S)
def PrI(S f:Addr)(g:Array acd)(h:aaW)(i:Nat)(v:Ad):Prop:=S<f/\v = .ref (f+1+i)/\∃a:i<g.size,h.get? (f+1+i)=some {cls:=.type "tuple",data:=.seq #[g[i].key,g[i].val]}
def z6(f:Addr)(i:Nat):f+1+i≠f:=abx (aav (abA f) (acx _ i))
def zF{S f:Addr}(h:S<f)(i:Nat):f+1+i≠S:=abx (ad7 h (aav (abA f) (acx _ i)))
theorem DQ(D:A.handled=none)(n1:S<f)(n2:S≠d)(F:f≠d):Nx prog w A S f g.size (StI S f d g r) (PrI S f g) where
 item:=by
  intro i s Q E m ⟨j,z,c⟩ ⟨I,H⟩ u;rcases c with⟨ok,t,c⟩|⟨k,v,T,b,o,c,hT,B,C⟩
  .refine xt c j m λx a1 a2 y p=>?_;rw[z]at a1 a2 y⊢;exact u x _ ⟨j.keep λo q=>p d o (ab0 F) q,y,.inr ⟨_,_,_,false,_,a1,a2,(z6 f i),(zF n1 i)⟩⟩ ⟨n1,rfl,m,a2⟩ p
  .refine Bz c hT B j m λx a1 a2 y p=>?_;rw[z]at a2 y⊢;exact u x _ ⟨j.keep λo q=>p d o (ab0 F) q,y,.inr ⟨_,_,_,true,o,a1,p T o B hT,B,C⟩⟩ ⟨n1,rfl,m,a2⟩ p
 done:=by
  intro s Q E ⟨j,z,c⟩ u;rcases c with⟨ok,t,c⟩|⟨k,v,T,b,o,c,_⟩
  .exact Ba D c j (aab _) u
  .exact BJ D c j (aab _) u
 keep:=by
  intro i h x ⟨j,z,c⟩ G k;refine⟨j.keep λo q=>k d o (ab0 n2) q,G.trans z,?_⟩;rcases c with⟨ok,t,c⟩|⟨a,v,T,b,o,c,hT,B,C⟩
  .exact .inl ⟨ok,t,k f _ (abx n1) c⟩
  .exact .inr ⟨a,v,T,b,o,k f _ (abx n1) c,k T o C hT,B,C⟩
 more:=by intro h x i v ⟨l,e,m,q⟩ k;exact⟨l,e,m,k _ _ (zF n1 i) (z6 f i) q⟩
def zQ{Q:Ad->GT->Prop}(c:s.heap.get? v=some {cls:=.type "dict_items",data:=.fields #[.ref d]})(k:EntAt s.heap d g r)
  (j:∀h',ac2 h' s.heap.objs.size d 0 g.size r .none .none->h'.objs.size=s.heap.objs.size+1->(∀b o,s.heap.get? b=some o->h'.get? b=some o)->Q (.ref s.heap.objs.size) {s with heap:=h' }):wpAny (model prog w) A (afF (.ref v)) Q E s:=by
 let⟨l,h,e,a⟩:=k.ex;have hT:s.TypeIs (.ref v) "dict_items":=(⟨_,c,rfl⟩);have own:abW "dict_itemiterator" = true:=by decide
 refine wpAny_pyIter_slot hT aeB (abk aeB hT PySem.F.entry_dict_items_iter ?_ (PySem.F.args_dict_items_iter_1 _));refine gT (LD (gT (gT (abG c rfl (x:=.ref d) rfl (LD (gT (gT (adg h a (gT (adR h a ?_))))))))));simp only[own,if_true];refine abg (LD ⟨_,rfl,"dict_itemiterator",_,⟨_,aao _ rfl,rfl⟩,PySem.F.slot_dict_itemiterator_next.lookup,?_⟩) (by simp only[sizeOk,adm.Dict_items.ownedTupleFields,aaG,aam,aaw,ac5,aar];decide);exact j _ (aao _ rfl) (abE ..) λb o q=>Ld _ q
def y4:typeLookup (.type "dict_items") "__len__" = pure (some (.builtin "dict_items.__len__")):=by rfl
theorem v9{Q:Bool->GT->Prop}(hT:s.TypeIs (.ref v) "dict_items")(h:Q false s):wpAny (model prog w) A (acv (.ref v)) Q E s:=by
 rw[acv];refine gT (aez hT y4 ?_);have a:splitId "dict_items.__len__" = some ("dict_items","__len__"):=by decide +kernel
 dsimp only;rw[a];dsimp only;refine gT (ado (b:=true) hT (by rw[isSubtype_type];kernel_rfl) ?_);rw[if_neg (by decide)];rw[if_pos (by decide +kernel)];exact gT (acW hT (LD h))
def MQ{c:Nat}{Q:Unit->GT->Prop}(a:mq s.heap S #[] c)(h:∀h' c',mq h' S #[] c'->h'.objs.size=s.heap.objs.size->(∀b o,b≠S->s.heap.get? b=some o->h'.get? b=some o)->Q () {s with heap:=h' }):wpAny (model prog w) A (adm.List.listTouch (.ref S)) Q E s:=by
 refine gT (afV a rfl ?_ (by simp) (by trivial));have l:mq (s.heap.update S (acr (·.push .none))) S (#[].push .none) _:=ada _ a rfl;refine afV l rfl ?_ (by show(1:Nat)≤aaj;rw[aar];decide) (by trivial);have e:mq ((s.heap.update S (acr (·.push .none))).update S (acr (·.pop))) S #[] _:=ada _ l rfl;exact h _ _ e ((aeh ..).trans (aeh ..)) λb o nb q=>(acX _ _ (ab0 nb)).trans ((acX _ _ (ab0 nb)).trans q)
def B8{T:String}{c:Nat}{St:Addr->Nat->aaW->Prop}{R:Result->GT->Prop}(hT:s.TypeIs (.ref v) T)(h:T = "dict_items" \/ T = "dict")(J:S≠v)(B:mq s.heap S #[] c)(O:n≤aaj)
  (k:∀(s:GT) (Q:Bool->GT->Prop) (E:Ad->GT->Prop),s.TypeIs (.ref v) T->Q false s->wpAny (model prog w) A.in1 (acv (.ref v)) Q E s)
  (a:∀(Q:Ad->GT->Prop) (E:Ad->GT->Prop),(∀h' f,f≠S->Nx prog w A.in1 S f n (St f) (P f)->St f 0 h'->(∀b o,s.heap.get? b=some o->h'.get? b=some o)->s.heap.get? f=none->Q (.ref f) {s with heap:=h' })->wpAny (model prog w) A.in1 (afF (.ref v)) Q E s)
  (l:∀f h' (acc:Array Ad) c',(∀b o,b≠S->s.heap.get? b=some o->h'.get? b=some o)->mq h' S acc c'->acc.size=n->(∀j u,acc[j]?=some u->P f h' j u)->R (.ok (.ret (.ref S))) {s with heap:=h' }):adP (model prog w) A (.builtin "list.__iadd__" ⟨[.ref S,.ref v],[]⟩) R s:=by
 refine ac4 F.entry_list_iadd ((aer F.plain_list_iadd _).symm▸?_);show wpAny _ A.in1 (aeI (.ref S) (.ref v) (.ref S)) _ _ _;refine gT ?_;refine acW hT ?_;have X:adJ (.ref S) (.ref v)=false:=by simp[adJ,J]
 rw[X,if_neg (by rcases h with rfl|rfl<;>decide)];refine gT (a _ _ λx f H N C k1 nn=>?_);have m:afs {s with heap:=x} (.ref v) T:=by
  let⟨o,K,U⟩:=hT;exact⟨o,k1 _ _ K,U⟩
 refine gT (ach (k _ _ _ m ?_));dsimp only;rw[if_pos (by rcases h with rfl|rfl<;>decide)];refine gT (abL (gT (MQ (s:={s with heap:=x}) (k1 _ _ B) λY y I p k2=>?_)));refine LD ⟨agA adw _,vn N (ab0 H) O n 0 _ #[] y rfl (abF _) (N.keep _ _ _ C p k2) I rfl (λj u e=>by simp at e) λD acc V M L G W=>l f D acc V (λb o nb q=>M b o (λz=>by rw[z,nn]at q;cases q) nb (k2 b o nb (k1 b o q))) L G W⟩
def xp{T:String}{St:Addr->Nat->aaW->Prop}{Q:List Ad->GT->Prop}(hT:s.TypeIs (.ref v) T)(y:T = "dict_items" \/ T = "dict")(D:n≤aaj)
  (a:∀(s:GT) (Q:Bool->GT->Prop) (E:Ad->GT->Prop),s.TypeIs (.ref v) T->Q false s->wpAny (model prog w) A.in1 (acv (.ref v)) Q E s)
  (c:∀(s1:GT) (Q:Ad->GT->Prop) (E:Ad->GT->Prop),(∀b o,s.heap.get? b=some o->s1.heap.get? b=some o)->(∃o,s1.heap.get? s.heap.objs.size=some o)->(∀h' f,f≠s.heap.objs.size->Nx prog w A.in1 s.heap.objs.size f n (St f) (P f)->St f 0 h'->(∀b o,s1.heap.get? b=some o->h'.get? b=some o)->s1.heap.get? f=none->Q (.ref f) {s1 with heap:=h' })->wpAny (model prog w) A.in1 (afF (.ref v)) Q E s1)
  (x:∀f h' (acc:Array Ad),(∀b o,s.heap.get? b=some o->h'.get? b=some o)->s.heap.objs.size<h'.objs.size->acc.size=n->(∀j u,acc[j]?=some u->P f h' j u)->Q acc.toList {s with heap:=h' }):wpAny (model prog w) A (collect (.ref v)) Q E s:=by
 have new:mq _ s.heap.objs.size #[] 0:=aao _ rfl;have e:∀b o,s.heap.get? b=some o->(s.heap.push {cls:=.type "list",data:=.seq #[]}).get? b=some o:=λb o q=>Ld _ q;have H:s.heap.objs.size≠v:=by
  let⟨o,q,_⟩:=hT;exact abx (aap q)
 have B:afs {s with heap:=s.heap.push {cls:=.type "list",data:=.seq #[]} } (.ref v) T:=by
  let⟨o,C,G⟩:=hT;exact⟨o,e _ _ C,G⟩
 refine gT (m:=runValue _) (wpAny_runValue (ac4 F.entry_proto_collect (gT (m:=agU []) (abg (LD ⟨agA F.plain_list_iadd _,?_⟩)))));refine B8 B y H new D a (λQ E h=>c {s with heap:=s.heap.push {cls:=.type "list",data:=.seq #[]} } Q E e ⟨_,new⟩ h) λf h' acc I k l z p=>?_;refine gT (m:=load s.heap.objs.size) (wpAny_load l ?_);exact LD (x f h' acc (λb o q=>k b o (aa3 (aap q)) (e b o q)) (aap l) z p)
end
end L2
namespace L2
open PySem PySem.Spec PySem.W PyProof.Rows
variable{a arr:Array Keyed}{i j lo n:Nat}{x:Keyed}{st':abu}{Q:Array Keyed->abu->Prop}{vs:List Ad}{ds:List aD}{B b:Addr}{g:Nat->HO}{kvs:List (aD×aD)}{es:List (V×V)}{o:Expr}{apos cpos p0 pos:Pos}
def gal:=sortPriv% PySem.Builtin.gallop
abbrev pK(a:Array Keyed)(i:Nat):Keyed:=a.getD i (.none,.none)
theorem uh(h:i<a.size):a[i]?=some (pK a i):=by simp_all
def TX(h:i<a.size):a.toList.drop i=pK a i::a.toList.drop (i+1):=by
 rw[adr (by simpa using h)];simp[h]
def OrcW(prog:aaI)(w:World)(A:aa8)(s:GT)(d:afz)(c:List Keyed):Prop:=∀x∈c,∀y∈c,∀C:Bool->GT->Prop,(∀b,C b s)->wpAny (model prog w) A (keyLt' d x.1 y.1) C (λ_ _=>False) s
def setG(st:abu)(m:Nat):abu:=ae0 (kindOf st) (arrOf st) (aaJ st) m (ae1 st)
def sMG:=sortPriv% PySem.Builtin.setMinGallop
def mLo:=sortPriv% PySem.Builtin.mergeLo
def mHi:=sortPriv% PySem.Builtin.mergeHi
section
variable {prog:aaI}{w:World}{A:aa8}{E:Ad->GT->Prop}{s:GT}{g β:Type}{Q:β->abu->Prop}{st:abu}
def bv{c:Prop}[Decidable c]{p q:StateT abu Sem β}(h:c->wpS (model prog w) A E s p Q st)(d:¬c->wpS (model prog w) A E s q Q st):wpS (model prog w) A E s (if c then p else q) Q st:=by
 by_cases z:c
 .rw[if_pos z];exact h z
 .rw[if_neg z];exact d z
def du{f:Keyed->StateT abu Sem β}(c:i<arr.size)(h:wpS (model prog w) A E s (f (pK arr i)) Q st):wpS (model prog w) A E s (elem' arr i >>= f) Q st:=by
 rw[elem'_eq,uh c];exact aaF (aaL h)
def vj{m c:Nat}{f:Unit->StateT abu Sem β}(h:wpS (model prog w) A E s (f ()) Q (setG st c)):wpS (model prog w) A E s (sMG c >>= f) Q (setG st m):=aaF (aei h)
def CN{M:Model}{A:aa8}{E:Ad->GT->Prop}{s:GT}{c:Type}{x:c}{Q:PUnit->c->Prop}{st:c}(h:Q ⟨⟩ x):wpS M A E s (set x:StateT c Sem PUnit) Q st:=by
 unfold wpS;rw[StateT.run_set];exact LD ⟨rfl,h⟩
variable {e:afz}{d:List Keyed} (O:OrcW prog w A s e d)
include O
theorem yI{y:Keyed}{Q:Option Bool->abu->Prop}(hk:kindOf st=e)(c:x∈d)(f:y∈d)(h:∀b,Q (some b) st):wpS (model prog w) A E s (lt' x y) Q st:=by
 rw[lt'_eq];refine aaF (aeJ ?_);rw[hk];refine aaF (afA (ac7 (acb (O x c y f _ λb=>?_) (λ_ _ q=>q) λ_ _ q=>q.elim)));exact⟨rfl,aaL (h b)⟩
theorem GM{y:Keyed}{f:Option Bool->StateT abu Sem β}(hk:kindOf st=e)(c:x∈d)(k:y∈d)(h:∀b,wpS (model prog w) A E s (f (some b)) Q st):wpS (model prog w) A E s (lt' x y >>= f) Q st:=aaF (yI O hk c k h)
theorem nG{left:Bool}{key:Keyed}{base p:Nat}{f:Option Nat->StateT abu Sem β}(hk:kindOf st=e)(u:key∈d)(G:p<n)(J:base+n≤arr.size)(H:∀x∈arr.toList,x∈d)(h:∀k,k≤n->wpS (model prog w) A E s (f (some k)) Q st):wpS (model prog w) A E s (gal left key arr base n p >>= f) Q st:=by
 have B:∀i,i<n->∀(v:Option Bool->abu->Prop),(∀b,v (some b) st)->wpS (model prog w) A E s (elem' arr (base+i) >>= λx=>if left=true then lt' x key else lt' key x >>= λr=>pure (r.map λx=>!x)) v st:=λi t v q=>by
  have m:=H _ (aem.mpr (af2 (uh (a:=arr) (i:=base+i) (by omega))));refine du (by omega) ?_
  cases left with
  |true=>exact yI O hk m u q
  |false=>exact GM O hk u m λb=>aaL (q !b)
 apply aaF;apply aaF;refine B p G _ λb=>?_;dsimp only;cases b
 case' false=>
  rw[if_neg (by decide)];refine aaF (ab8 (abz (I:=λi c st'=>st=st'/\∃l o,c=(none,l,o)/\l≤p/\l<o) (Q:=λc st'=>st=st'/\∃l o,c=(none,l,o)/\l≤p/\l<o) ?_ (λ_ _ q=>q) ⟨rfl,0,1,rfl,by omega,by omega⟩) ?_)
 case' true=>
  rw[if_pos rfl];refine aaF (ab8 (abz (I:=λi c st'=>st=st'/\∃l o,c=(none,l,o)/\p+l<n/\l<o) (Q:=λc st'=>st=st'/\∃l o,c=(none,l,o)/\p+l<n/\l<o) ?_ (λ_ _ q=>q) ⟨rfl,0,1,rfl,by omega,by omega⟩) ?_)
 any_goals
  intro i c st' _ t ⟨rfl,l,o,rfl,F,C⟩;dsimp only;refine bv (λz=>aaL ⟨rfl,l,o,rfl,F,C⟩) λz=>?_;apply aaF;refine B _ (by omega) _ λb=>?_
  cases b<;>exact aaL ⟨rfl,_,_,rfl,by omega,by omega⟩
 all_goals
  intro c st' ⟨rfl,l,o,rfl,F,C⟩;dsimp only;refine aaF (ab8 (abz (I:=λi c st'=>st=st'/\∃lo t,c=(none,lo,t)/\lo≤t/\t≤n) (Q:=λc st'=>st=st'/\∃lo t,c=(none,lo,t)/\lo≤t/\t≤n) ?_ (λ_ _ q=>q) ⟨rfl,_,_,rfl,by omega,by omega⟩) ?_)
  .rintro i c st' _ t ⟨rfl,lo,hi',rfl,D,y⟩;dsimp only;refine bv (λz=>aaL ⟨rfl,_,_,rfl,D,y⟩) λz=>?_;apply aaF;refine B _ (by omega) _ λb=>?_;cases b
   .exact aaL ⟨rfl,_,_,rfl,by omega,by omega⟩
   .exact aaL ⟨rfl,_,_,rfl,by omega,by omega⟩
  intro c st' ⟨rfl,lo,t,rfl,D,y⟩;exact aaL (h _ (by omega))
end
def Mg(tot out r c:List Keyed):Prop:=(out++(r++c)).Perm tot
section
variable {tot out r a xs:List Keyed}
def Mg.sym(h:Mg tot out r a):Mg tot out a r:=(List.perm_append_comm.append_left _).trans h
def Mg.app(h:Mg tot out (xs++r) a):Mg tot (out++xs) r a:=by
 unfold Mg at h⊢;simpa only[aaV]using h
end
def memK(h:i<a.size):pK a i∈a.toList:=aem.mpr (af2 (uh h))
abbrev ta(a:Array Keyed)(n:Nat):List Keyed:=(a.toList.take n).reverse
section
variable {a b out:Array Keyed}{c d k:Nat}{tot r:List Keyed}
def Mg.push(h:Mg tot out.toList (a.toList.drop c) r)(e:c<a.size):Mg tot (out.push (pK a c)).toList (a.toList.drop (c+1)) r:=by
 rw[TX e]at h;rw[ad9];exact Mg.app (xs:=[_]) h
def Mg.ext(h:Mg tot out.toList (a.toList.drop c) r):Mg tot (out++a.extract c (c+k)).toList (a.toList.drop (c+k)) r:=by
 rw[acQ,show(a.extract c (c+k)).toList=(a.toList.drop c).take k by simp];refine Mg.app ?_;rw[<-List.drop_drop,adb];exact h
theorem Mg.done(h:Mg tot out.toList (a.toList.drop c) (b.toList.drop d)):(out++a.extract c a.size++b.extract d b.size).toList.Perm tot:=by
 have e:∀(a:Array Keyed) i,(a.extract i a.size).toList=a.toList.drop i:=λa i=>by simp[aby]
 rw[acQ,acQ,e,e,aaV];exact h
def Mg.pushH(h:Mg tot out.toList (ta a (c+1)) r)(f:c<a.size):Mg tot (out.push (pK a c)).toList (ta a c) r:=by
 have e:ta a (c+1)=pK a c::ta a c:=by
  show(agm (c+1) a.toList).reverse=_;rw[List.take_succ_eq_append_getElem (by simpa using f),ags];simp[f]
 rw[e]at h;rw[ad9];exact Mg.app (xs:=[_]) h
def Mg.extH(h:Mg tot out.toList (ta a c) r)(hk:k≤c):Mg tot (out++(a.extract k c).reverse).toList (ta a k) r:=by
 have e:ta a c=(a.extract k c).reverse.toList++ta a k:=by
  rw[Array.toList_reverse,<-ags,aes];show _=(agm k _++agm (c-k) _).reverse;rw[<-List.take_add,show k+(c-k)=c by omega]
 rw[acQ];rw[e]at h;exact Mg.app h
def Mg.doneH(h:Mg tot out.toList (ta a c) (ta b d)):(a.extract 0 c++b.extract 0 d++out.reverse).toList.Perm tot:=by
 have:=(afg _).trans h.sym;simpa using this
end
structure Two(prog:aaI)(w:World)(A:aa8)(s:GT)(κ:afz)(it:List Keyed)(a b:Array Keyed)(st:abu):Prop where
 o:OrcW prog w A s κ it
 ma:∀x∈a.toList,x∈it
 mb:∀x∈b.toList,x∈it
 hk:kindOf st=κ
def SJ{τ:Type}(st:abu)(P:τ->Prop)(c:Option (Array Keyed)×τ)(st':abu):Prop:=c.1=none/\(∃m,st'=setG st m)/\P c.2
def SK{τ:Type}(tot:List Keyed)(st:abu)(P:τ->Prop)(c:Option (Array Keyed)×τ)(st':abu):Prop:=(∃m,st'=setG st m)/\((c.1=none/\P c.2)\/∃x,c.1=some x/\x.toList.Perm tot)
def SO{τ:Type}(tot:List Keyed)(st:abu)(P d:τ->Prop)(r:ForInStep (Option (Array Keyed)×τ))(st':abu):Prop:=∃c,(r = .done c/\SK tot st P c st')\/(r = .yield c/\SJ st d c st')
section
variable {prog:aaI}{w:World}{A:aa8}{E:Ad->GT->Prop}{s:GT}{τ t:Type}{tot:List Keyed}{st:abu}{P l:τ->Prop}{c:τ}{m:Nat}
def cA{x:Array Keyed}(h:x.toList.Perm tot):wpS (model prog w) A E s (pure (.done (some x,c))) (SO tot st P l) (setG st m):=aaL ⟨_,.inl ⟨rfl,⟨m,rfl⟩,.inr ⟨x,rfl,h⟩⟩⟩
def jh(h:P c):wpS (model prog w) A E s (pure (.done (none,c))) (SO tot st P l) (setG st m):=aaL ⟨_,.inl ⟨rfl,⟨m,rfl⟩,.inl ⟨rfl,h⟩⟩⟩
def wQ(h:l c):wpS (model prog w) A E s (pure (.yield (none,c))) (SO tot st P l) (setG st m):=aaL ⟨_,.inr ⟨rfl,rfl,⟨m,rfl⟩,h⟩⟩
def Lp(tot:List Keyed)(a b:Array Keyed)(N:Nat)(c:Array Keyed×Nat×Nat×t):Prop:=Mg tot c.1.toList (a.toList.drop c.2.1) (b.toList.drop c.2.2.1)/\c.2.1+1<a.size/\c.2.2.1<b.size/\N≤c.2.1+c.2.2.1
def Hq(tot:List Keyed)(a b:Array Keyed)(N:Nat)(c:Nat×Nat×Array Keyed×t):Prop:=Mg tot c.2.2.1.toList (ta a c.1) (ta b c.2.1)/\0<c.1/\1<c.2.1/\c.1≤a.size/\c.2.1≤b.size/\N+c.1+c.2.1≤a.size+b.size
abbrev MgS:=Option (Array Keyed)×Array Keyed×Nat×Nat×Nat×Nat×Nat
def lo2(a b out:Array Keyed)(f g n x y:Nat):StateT abu Sem (ForInStep MgS):=do
 let v <- elem' a f
 if (f+1+1==a.size)=true then pure (.done (some (out.push v++b.extract g b.size++a.extract (f+1) a.size),out.push v,f+1,g,n,x,y))
 else if (decide (x<7)&&decide (y<7))=true then pure (.done (none,out.push v,f+1,g,n,x,y))
 else pure (.yield (none,out.push v,f+1,g,n,x,y))
def lo1(a b out:Array Keyed)(f g n x y:Nat):StateT abu Sem (ForInStep MgS):=do
 let v <- elem' b g
 if (g+1==b.size)=true then pure (.done (some (out.push v++a.extract f a.size++b.extract (g+1) b.size),out.push v,f,g+1,n,x,y))
 else do
  let u <- elem' a f
  let some k <- gal true u b (g+1) (b.size-(g+1)) 0|return .done (some (out.push v++a.extract f a.size++b.extract (g+1) b.size),out.push v,f,g+1,n,x,y)
  if k>0 then
   if (g+1+k==b.size)=true then pure (.done (some (out.push v++b.extract (g+1) (g+1+k)++a.extract f a.size++b.extract (g+1+k) b.size),out.push v++b.extract (g+1) (g+1+k),f,g+1+k,n,x,k))
   else lo2 a b (out.push v++b.extract (g+1) (g+1+k)) f (g+1+k) n x k
  else lo2 a b (out.push v) f (g+1) n x k
def loI(a b out:Array Keyed)(f g n x y:Nat):StateT abu Sem (ForInStep (Option (Array Keyed)×Array Keyed×Nat×Nat×Nat×Nat)):=do
 let u <- elem' b g
 let v <- elem' a f
 let some z <- lt' u v|return .done (some (out++a.extract f a.size++b.extract g b.size),out,f,g,x,y)
 if z=true then do
  let v <- elem' b g
  if (g+1==b.size)=true then pure (.done (some (out.push v++a.extract f a.size++b.extract (g+1) b.size),out.push v,f,g+1,0,y+1))
  else if y+1≥n then pure (.done (none,out.push v,f,g+1,0,y+1))
  else pure (.yield (none,out.push v,f,g+1,0,y+1))
 else do
  let v <- elem' a f
  if (f+1+1==a.size)=true then pure (.done (some (out.push v++b.extract g b.size++a.extract (f+1) a.size),out.push v,f+1,g,x+1,0))
  else if x+1≥n then pure (.done (none,out.push v,f+1,g,x+1,0))
  else pure (.yield (none,out.push v,f+1,g,x+1,0))
def lo0(a b out:Array Keyed)(f g n x y:Nat):StateT abu Sem (ForInStep MgS):=do
 sMG n
 let u <- elem' b g
 let some k <- gal false u a f (a.size-f) 0|return .done (some (out++a.extract f a.size++b.extract g b.size),out,f,g,n,x,y)
 if k>0 then
  if (f+k+1==a.size)=true then pure (.done (some (out++a.extract f (f+k)++b.extract g b.size++a.extract (f+k) a.size),out++a.extract f (f+k),f+k,g,n,k,y))
  else if (f+k==a.size)=true then pure (.done (some (out++a.extract f (f+k)++a.extract (f+k) a.size++b.extract g b.size),out++a.extract f (f+k),f+k,g,n,k,y))
  else lo1 a b (out++a.extract f (f+k)) (f+k) g n k y
 else lo1 a b out f g n k y
variable {a b out:Array Keyed}{f g n x y N:Nat}
theorem zp(M:Mg tot out.toList (a.toList.drop f) (b.toList.drop g))(p:f+1<a.size)(q:g<b.size)(h:N≤f+g):wpS (model prog w) A E s (lo2 a b out f g n x y) (SO tot st (Lp tot a b N) (Lp tot a b N)) (setG st m):=by
 have p0:f<a.size:=aeb p;have d:=M.push p0;refine du p0 (bv (λz=>cA d.sym.done) λz=>?_);simp only[beq_iff_eq]at z;exact bv (λ_=>jh ⟨d,by show f+1+1<_;omega,q,by show N≤f+1+g;omega⟩) λ_=>wQ ⟨d,by show f+1+1<_;omega,q,by show N≤f+1+g;omega⟩
variable {o:afz}{p:List Keyed}
theorem zX(T:Two prog w A s o p a b st)(M:Mg tot out.toList (a.toList.drop f) (b.toList.drop g))(d:f+1<a.size)(h:g<b.size)(r:N≤f+g):wpS (model prog w) A E s (lo1 a b out f g n x y) (SO tot st (Lp tot a b N) (Lp tot a b N)) (setG st m):=by
 have p0:f<a.size:=aeb d;have e:=(M.sym.push h).sym;refine du h (bv (λz=>cA e.done) λz=>?_);simp only[beq_iff_eq]at z;refine du p0 (nG T.o T.hk (T.ma _ (memK p0)) (by omega) (by omega) T.mb λk k1=>bv (λc=>?_) λc=>zp e d (by omega) (by omega));have q:=(e.sym.ext (k:=k)).sym;refine bv (λz=>cA q.done) λz=>zp q d ?_ (by omega);simp only[beq_iff_eq]at z;omega
theorem IZ(T:Two prog w A s o p a b st){c:Array Keyed×Nat×Nat×Nat×Nat}(J:SJ st (Lp tot a b (N+j)) (none,c) st'):wpS (model prog w) A E s (loI a b c.1 c.2.1 c.2.2.1 n c.2.2.2.1 c.2.2.2.2) (SO tot st (Lp tot a b (N+1)) (Lp tot a b (N+(j+1)))) st':=by
 let⟨out,f,g,x,y⟩:=c;let⟨_,⟨m,rfl⟩,M,h,d,k⟩:=J;dsimp only at M h d k;have p0:f<a.size:=aeb h;refine du d (du p0 (GM T.o T.hk (T.mb _ (memK d)) (T.ma _ (memK p0)) λe=>?_));cases e
 .have M':=M.push p0;refine du p0 (bv (λz=>cA M'.sym.done) λz=>?_);simp only[beq_iff_eq]at z;exact bv (λ_=>jh ⟨M',by show f+1+1<_;omega,d,by show N+1≤f+1+g;omega⟩) λ_=>wQ ⟨M',by show f+1+1<_;omega,d,by show N+(j+1)≤f+1+g;omega⟩
 .have M':=(M.sym.push d).sym;refine du d (bv (λz=>cA M'.done) λz=>?_);simp only[beq_iff_eq]at z;exact bv (λ_=>jh ⟨M',h,by show g+1<_;omega,by show N+1≤f+(g+1);omega⟩) λ_=>wQ ⟨M',h,by show g+1<_;omega,by show N+(j+1)≤f+(g+1);omega⟩
theorem Kg(T:Two prog w A s o p a b st){c:Array Keyed×Nat×Nat×Nat×Nat×Nat}{v:Nat}{d:Prop}[Decidable d](J:SJ st (Lp tot a b N) (none,c) st'):wpS (model prog w) A E s (if d then lo0 a b c.1 c.2.1 c.2.2.1 n c.2.2.2.2.1 c.2.2.2.2.2 else lo0 a b c.1 c.2.1 c.2.2.1 v c.2.2.2.2.1 c.2.2.2.2.2) (SO tot st (Lp tot a b N) (Lp tot a b N)) st':=by
 let⟨out,f,g,C,x,y⟩:=c;let⟨_,⟨m,rfl⟩,M,q,e,u⟩:=J;dsimp only at M q e u;have p0:f<a.size:=aeb q;dsimp only;refine bv (λ_=>?_) λ_=>?_
 all_goals
  refine vj (du e (nG T.o T.hk (T.mb _ (memK e)) (by omega) (by omega) T.ma λk k1=>bv (λc=>?_) λc=>zX T M q e u));have h:=M.ext (k:=k);refine bv (λz=>cA h.sym.done) λz=>bv (λr=>cA h.done) λr=>?_;simp only[beq_iff_eq]at z r;exact zX T h (by omega) e (by omega)
theorem QF(T:Two prog w A s o p a b st)(M:Mg tot [] a.toList b.toList)(C:0<a.size)(u:0<b.size)(h:∀r m,r.toList.Perm tot->Q r (setG st m)):wpS (model prog w) A E s (mLo a b) Q st:=by
 have v:Mg tot (#[]:Array Keyed).toList (a.toList.drop 0) (b.toList.drop 0):=M;have d:=(v.sym.push u).sym;apply aaF;refine afA (abL ⟨rfl,?_⟩);dsimp only;refine du u ?_;refine bv (λz=>aaL (h _ (agf st) d.done)) λz=>bv (λk=>aaL (h _ (agf st) d.sym.done)) λk=>?_;simp only[beq_iff_eq]at z k;refine aaF (aeJ (aaF (ab8 (abz (I:=λi c st'=>SJ st (Lp tot a b (i+1)) c st') (Q:=λc st'=>(∃m,st'=setG st m)/\∃r,c.fst=some r/\r.toList.Perm tot) (λi c st' _ _ J=>?_) (λc st' J=>by have:=J.2.2.2;omega) ⟨rfl,⟨agf st,rfl⟩,d,show 0+1<a.size by omega,show 1<b.size by omega,aab 1⟩) λc st' J=>?_)))
 rotate_left
 .obtain⟨⟨m,rfl⟩,r,e,R⟩:=J;rw[e];exact aaL (h _ _ R)
 refine aaF (ab8 (abz (I:=λj c st'=>SJ st (Lp tot a b (i+1+j)) c st') (Q:=SK tot st (Lp tot a b (i+1+1))) (λj c st' _ _ J=>ab8 (IZ T ⟨rfl,J.2⟩) λr st' h=>by obtain⟨c,⟨rfl,h⟩|⟨rfl,h⟩⟩:=h<;>exact h) (λc st' J=>⟨J.2.1,.inl ⟨J.1,J.2.2.1,J.2.2.2.1,J.2.2.2.2.1,by have:=J.2.2.2;omega⟩⟩) ⟨rfl,J.2⟩) λc st' J=>J.2.elim (λq=>?_) λq=>?_)
 rotate_left
 .obtain⟨r,e,R⟩:=q;rw[e];exact aaL ⟨J.1,_,rfl,R⟩
 rw[q.1];apply aaF;refine afA (abL ⟨rfl,?_⟩);refine aaF (ab8 (abz (I:=λ_ c st'=>SJ st (Lp tot a b (i+1+1)) c st') (Q:=SK tot st (Lp tot a b (i+1+1))) (λj c st' _ _ J=>ab8 (Kg T ⟨rfl,J.2⟩) λr st' h=>by obtain⟨c,⟨rfl,h⟩|⟨rfl,h⟩⟩:=h<;>exact h) (λc st' J=>⟨J.2.1,.inl ⟨J.1,J.2.2⟩⟩) ⟨rfl,J.1,q.2⟩) λc st' J=>J.2.elim (λq=>?_) λq=>?_)
 rotate_left
 .obtain⟨r,e,R⟩:=q;rw[e];exact aaL ⟨J.1,_,rfl,R⟩
 rw[q.1];let⟨⟨m,rfl⟩,_⟩:=J;exact vj (aaL ⟨rfl,⟨_,rfl⟩,q.2⟩)
end
abbrev MhS:=Option (Array Keyed)×Nat×Nat×Array Keyed×Nat×Nat×Nat
def hi2(a b out:Array Keyed)(c nb n x y:Nat):StateT abu Sem (ForInStep MhS):=do
 let v <- elem' a (c-1)
 if (c-1==0)=true then pure (.done (some (a.extract 0 (c-1)++b.extract 0 nb++(out.push v).reverse),c-1,nb,out.push v,n,x,y))
 else if (decide (x<7)&&decide (y<7))=true then pure (.done (none,c-1,nb,out.push v,n,x,y))
 else pure (.yield (none,c-1,nb,out.push v,n,x,y))
def hi1(a b out:Array Keyed)(c nb n x y:Nat):StateT abu Sem (ForInStep MhS):=do
 let v <- elem' b (nb-1)
 if (nb-1==1)=true then pure (.done (some (b.extract 0 (nb-1)++a.extract 0 c++(out.push v).reverse),c,nb-1,out.push v,n,x,y))
 else do
  let u <- elem' a (c-1)
  let some k <- gal true u b 0 (nb-1) (nb-1-1)|return .done (some (a.extract 0 c++b.extract 0 (nb-1)++(out.push v).reverse),c,nb-1,out.push v,n,x,y)
  if nb-1-k>0 then
   if (k==1)=true then pure (.done (some (b.extract 0 k++a.extract 0 c++(out.push v++(b.extract k (nb-1)).reverse).reverse),c,k,out.push v++(b.extract k (nb-1)).reverse,n,x,nb-1-k))
   else if (k==0)=true then pure (.done (some (a.extract 0 c++b.extract 0 k++(out.push v++(b.extract k (nb-1)).reverse).reverse),c,k,out.push v++(b.extract k (nb-1)).reverse,n,x,nb-1-k))
   else hi2 a b (out.push v++(b.extract k (nb-1)).reverse) c k n x (nb-1-k)
  else hi2 a b (out.push v) c (nb-1) n x (nb-1-k)
def hiI(a b out:Array Keyed)(c nb n x y:Nat):StateT abu Sem (ForInStep (Option (Array Keyed)×Nat×Nat×Array Keyed×Nat×Nat)):=do
 let u <- elem' b (nb-1)
 let v <- elem' a (c-1)
 let some z <- lt' u v|return .done (some (a.extract 0 c++b.extract 0 nb++out.reverse),c,nb,out,x,y)
 if z=true then do
  let v <- elem' a (c-1)
  if (c-1==0)=true then pure (.done (some (a.extract 0 (c-1)++b.extract 0 nb++(out.push v).reverse),c-1,nb,out.push v,x+1,0))
  else if x+1≥n then pure (.done (none,c-1,nb,out.push v,x+1,0))
  else pure (.yield (none,c-1,nb,out.push v,x+1,0))
 else do
  let v <- elem' b (nb-1)
  if (nb-1==1)=true then pure (.done (some (b.extract 0 (nb-1)++a.extract 0 c++(out.push v).reverse),c,nb-1,out.push v,0,y+1))
  else if y+1≥n then pure (.done (none,c,nb-1,out.push v,0,y+1))
  else pure (.yield (none,c,nb-1,out.push v,0,y+1))
def hi0(a b out:Array Keyed)(c nb n x y:Nat):StateT abu Sem (ForInStep MhS):=do
 sMG n
 let u <- elem' b (nb-1)
 let some k <- gal false u a 0 c (c-1)|return .done (some (a.extract 0 c++b.extract 0 nb++out.reverse),c,nb,out,n,x,y)
 if c-k>0 then
  if (k==0)=true then pure (.done (some (a.extract 0 k++b.extract 0 nb++(out++(a.extract k c).reverse).reverse),k,nb,out++(a.extract k c).reverse,n,c-k,y))
  else hi1 a b (out++(a.extract k c).reverse) k nb n (c-k) y
 else hi1 a b out c nb n (c-k) y
section
variable {prog:aaI}{w:World}{A:aa8}{E:Ad->GT->Prop}{s:GT}{tot:List Keyed}{st:abu}{m:Nat}{a b out:Array Keyed}{f nb n x y N:Nat}
def z5(M:Mg tot out.toList (ta a (f+1)) (ta b nb))(p:f<a.size)(q:1<nb)(d:nb≤b.size)(h:N+f+nb≤a.size+b.size):wpS (model prog w) A E s (hi2 a b out (f+1) nb n x y) (SO tot st (Hq tot a b N) (Hq tot a b N)) (setG st m):=by
 have c:=M.pushH p;refine du p (bv (λz=>cA c.doneH) λz=>?_);have e:0<f:=by simp only[beq_iff_eq]at z;omega
 exact bv (λ_=>jh ⟨c,e,q,abV p,d,h⟩) λ_=>wQ ⟨c,e,q,abV p,d,h⟩
variable {g:afz}{l:List Keyed}
def xq(T:Two prog w A s g l a b st)(M:Mg tot out.toList (ta a (f+1)) (ta b (nb+1)))(p:f<a.size)(r:nb<b.size)(C:0<nb)(v:N+f+nb≤a.size+b.size):wpS (model prog w) A E s (hi1 a b out (f+1) (nb+1) n x y) (SO tot st (Hq tot a b N) (Hq tot a b N)) (setG st m):=by
 have d:=(M.sym.pushH r).sym;refine du r (bv (λz=>cA d.sym.doneH) λz=>?_);have q:1<nb:=by
  have t:¬(nb==1)=true:=z;simp only[beq_iff_eq]at t;omega
 refine du p (nG T.o T.hk (T.ma _ (memK p)) (by omega) (by omega) T.mb λk k1=>bv (λc=>?_) λc=>?_)
 .have M3:=(d.sym.extH (k:=k) k1).sym;refine bv (λz=>cA M3.sym.doneH) λz=>bv (λh=>cA M3.doneH) λh=>z5 M3 p ?_ (by omega) (by omega);simp only[beq_iff_eq]at z h;omega
 .have e:k=nb:=by
   have D:¬nb-k>0:=c;have u:k≤nb:=k1;omega
  subst e;exact z5 d p q (by omega) (by omega)
theorem GH(T:Two prog w A s g l a b st){c:Nat×Nat×Array Keyed×Nat×Nat}(J:SJ st (Hq tot a b (N+j)) (none,c) st'):wpS (model prog w) A E s (hiI a b c.2.2.1 c.1 c.2.1 n c.2.2.2.1 c.2.2.2.2) (SO tot st (Hq tot a b (N+1)) (Hq tot a b (N+(j+1)))) st':=by
 let⟨u,t,out,x,y⟩:=c;let⟨_,⟨m,rfl⟩,M,r,h,d,p,v⟩:=J;dsimp only at M r h d p v;let⟨f,rfl⟩:∃n,u=n+1:=⟨u-1,by omega⟩;let⟨nb,rfl⟩:∃n,t=n+1:=⟨t-1,by omega⟩;refine du (i:=nb) p (du (i:=f) d (GM T.o T.hk (T.mb _ (memK p)) (T.ma _ (memK d)) λe=>?_));cases e
 .have M':=(M.sym.pushH p).sym;refine du (i:=nb) p (bv (λz=>cA M'.sym.doneH) λz=>?_);have q:1<nb:=by
   have k:¬(nb==1)=true:=z;simp only[beq_iff_eq]at k;omega
  exact bv (λ_=>jh ⟨M',r,q,d,abV p,show N+1+(f+1)+nb≤_ by omega⟩) λ_=>wQ ⟨M',r,q,d,abV p,show N+(j+1)+(f+1)+nb≤_ by omega⟩
 .have M':=M.pushH d;refine du (i:=f) d (bv (λz=>cA M'.doneH) λz=>?_);have q:0<f:=by
   have k:¬(f==0)=true:=z;simp only[beq_iff_eq]at k;omega
  exact bv (λ_=>jh ⟨M',q,h,abV d,p,show N+1+f+(nb+1)≤_ by omega⟩) λ_=>wQ ⟨M',q,h,abV d,p,show N+(j+1)+f+(nb+1)≤_ by omega⟩
theorem Kl(T:Two prog w A s g l a b st){c:Nat×Nat×Array Keyed×Nat×Nat×Nat}{r:Nat}{d:Prop}[Decidable d](J:SJ st (Hq tot a b N) (none,c) st'):wpS (model prog w) A E s (if d then hi0 a b c.2.2.1 c.1 c.2.1 n c.2.2.2.2.1 c.2.2.2.2.2 else hi0 a b c.2.2.1 c.1 c.2.1 r c.2.2.2.2.1 c.2.2.2.2.2) (SO tot st (Hq tot a b N) (Hq tot a b N)) st':=by
 let⟨q,h,out,F,x,y⟩:=c;let⟨_,⟨m,rfl⟩,M,C,v,t,p,u⟩:=J;dsimp only at M C v t p u;let⟨f,rfl⟩:∃n,q=n+1:=⟨q-1,by omega⟩;let⟨nb,rfl⟩:∃n,h=n+1:=⟨h-1,by omega⟩;dsimp only;refine bv (λ_=>?_) λ_=>?_
 all_goals
  refine vj (du (i:=nb) p (nG T.o T.hk (T.mb _ (memK p)) (by omega) (by omega) T.ma λk k1=>bv (λc=>?_) λc=>?_))
  .have M1:=M.extH (k:=k) k1;refine bv (λz=>cA M1.doneH) λz=>?_;let⟨D,rfl⟩:∃n,k=n+1:=⟨k-1,by simp only[beq_iff_eq]at z;omega⟩;exact xq T M1 (by omega) p (by omega) (by omega)
  .have e:k=f+1:=by omega
   subst e;exact xq T M (by omega) p (by omega) (by omega)
theorem Rc(T:Two prog w A s g l a b st)(M:Mg tot [] a.toList b.toList)(C:0<a.size)(D:0<b.size)(h:∀r m,r.toList.Perm tot->Q r (setG st m)):wpS (model prog w) A E s (mHi a b) Q st:=by
 let⟨d,u⟩:∃n,a.size=n+1:=⟨a.size-1,by omega⟩;have t:∀c:Array Keyed,ta c c.size=c.toList.reverse:=λc=>by simp[ta,aby]
 have v:Mg tot (#[]:Array Keyed).toList (ta a (d+1)) (ta b b.size):=by
  rw[<-u,t,t];exact((afg _).append (afg _)).trans M
 have k:=v.pushH (by omega);apply aaF;refine afA (abL ⟨rfl,?_⟩);dsimp only;rw[u];refine du (i:=d+1-1) (by omega) ?_;refine bv (λz=>aaL (h _ (agf st) k.doneH)) λz=>bv (λp=>aaL (h _ (agf st) k.sym.doneH)) λp=>?_;simp only[beq_iff_eq]at z p;refine aaF (aeJ (aaF (ab8 (abz (I:=λi c st'=>SJ st (Hq tot a b (i+1)) c st') (Q:=λc st'=>(∃m,st'=setG st m)/\∃r,c.fst=some r/\r.toList.Perm tot) (λi c st' _ _ J=>?_) (λc st' J=>by have:=J.2.2.2;omega) ⟨rfl,⟨agf st,rfl⟩,k,show 0<d by omega,show 1<b.size by omega,show d≤a.size by omega,aab _,show 0+1+d+b.size≤_ by omega⟩) λc st' J=>?_)))
 rotate_left
 .obtain⟨⟨m,rfl⟩,r,e,R⟩:=J;rw[e];exact aaL (h _ _ R)
 refine aaF (ab8 (abz (I:=λj c st'=>SJ st (Hq tot a b (i+1+j)) c st') (Q:=SK tot st (Hq tot a b (i+1+1))) (λj c st' _ _ J=>ab8 (GH T ⟨rfl,J.2⟩) λr st' h=>by obtain⟨c,⟨rfl,h⟩|⟨rfl,h⟩⟩:=h<;>exact h) (λc st' J=>⟨J.2.1,.inl ⟨J.1,J.2.2.1,J.2.2.2.1,J.2.2.2.2.1,J.2.2.2.2.2.1,J.2.2.2.2.2.2.1,by have:=J.2.2.2;omega⟩⟩) ⟨rfl,J.2⟩) λc st' J=>J.2.elim (λq=>?_) λq=>?_)
 rotate_left
 .obtain⟨r,e,R⟩:=q;rw[e];exact aaL ⟨J.1,_,rfl,R⟩
 rw[q.1];apply aaF;refine afA (abL ⟨rfl,?_⟩);refine aaF (ab8 (abz (I:=λ_ c st'=>SJ st (Hq tot a b (i+1+1)) c st') (Q:=SK tot st (Hq tot a b (i+1+1))) (λj c st' _ _ J=>ab8 (Kl T ⟨rfl,J.2⟩) λr st' h=>by obtain⟨c,⟨rfl,h⟩|⟨rfl,h⟩⟩:=h<;>exact h) (λc st' J=>⟨J.2.1,.inl ⟨J.1,J.2.2⟩⟩) ⟨rfl,J.1,q.2⟩) λc st' J=>J.2.elim (λq=>?_) λq=>?_)
 rotate_left
 .obtain⟨r,e,R⟩:=q;rw[e];exact aaL ⟨J.1,_,rfl,R⟩
 rw[q.1];let⟨⟨m,rfl⟩,_⟩:=J;exact vj (aaL ⟨rfl,⟨_,rfl⟩,q.2⟩)
end
def wr(sa:Nat)(l:List (Keyed×Nat))(a:Array Keyed):Array Keyed:=l.foldl (λa x=>a.setIfInBounds (sa+x.2) x.1) a
theorem AF(sa:Nat):∀(l:List Keyed) (k:Nat) (a:Array Keyed),sa+k+l.length≤a.size->(wr sa (l.zipIdx k) a).toList=a.toList.take (sa+k)++l++a.toList.drop (sa+k+l.length)
 |[],k,a,h=>by simp[wr]
 |x::l,k,a,h=>by
  have c:sa+k+(l.length+1)≤a.size:=h;have e:=AF sa l (k+1) (a.setIfInBounds (sa+k) x) (by simp;omega);show(wr sa (l.zipIdx (k+1)) (a.setIfInBounds (sa+k) x)).toList=_;rw[e,ae2,List.drop_set_of_lt (by omega),<-adI,List.take_succ,List.take_set_of_le (aab _),aaP (by simp;omega),aaw];simp[Nat.add_comm,Nat.add_left_comm]
theorem J8{r:Array Keyed}{h:Nat}(f:lo≤h)(c:h≤a.size)(p:r.toList.Perm (a.extract lo h).toList):(wr lo r.toList.zipIdx a).toList.Perm a.toList:=by
 have n:r.toList.length=h-lo:=by rw[p.length_eq];simp;omega
 have e:=AF lo r.toList 0 a (by omega);rw[Nat.add_zero,n,show lo+(h-lo)=h by omega]at e;have d:a.toList=a.toList.take lo++(a.extract lo h).toList++a.toList.drop h:=by
  rw[aes];show _=_++agm (h-lo) (List.drop lo _)++_;rw[show a.toList.drop h=(a.toList.drop lo).drop (h-lo) by rw[List.drop_drop,show lo+(h-lo)=h by omega],aaV,adb,adb]
 rw[e]
 conv=>rhs;rw[d]
 exact(p.append_left _).append_right _
def Jp(h:x∈(a.extract i j).toList):x∈a.toList:=by
 rw[aes]at h;exact List.mem_of_mem_drop (abH h)
def Ch:Nat->List (Nat×Nat×Nat)->Nat->Prop
 |lo,[],hi=>lo=hi
 |lo,p::rs,hi=>p.1=lo/\0<p.2.1/\Ch (lo+p.2.1) rs hi
theorem Ch.le:∀{l:List (Nat×Nat×Nat)}{lo c:Nat},Ch lo l c->lo+l.length≤c
 |[],lo,c,h=>by rw[show lo=c from h];exact aab _
 |p::l,lo,c,h=>by have:=Ch.le h.2.2;have:=h.2.1;rw[aaw];omega
theorem Ch.app:∀{l k:List (Nat×Nat×Nat)}{lo c:Nat},Ch lo (l++k) c->∃m,Ch lo l m/\Ch m k c
 |[],k,lo,c,h=>⟨lo,rfl,h⟩
 |p::l,k,lo,c,h=>by
  let⟨m,d,e⟩:=Ch.app h.2.2;exact⟨m,⟨h.1,h.2.1,d⟩,e⟩
theorem Ch.cat:∀{l k:List (Nat×Nat×Nat)}{lo m c:Nat},Ch lo l m->Ch m k c->Ch lo (l++k) c
 |[],k,lo,m,c,h,h2=>by rw[show lo=m from h];exact h2
 |p::l,k,lo,m,c,h,h2=>⟨h.1,h.2.1,Ch.cat h.2.2 h2⟩
theorem Ch.mod{f:Nat×Nat×Nat->Nat×Nat×Nat}(d:∀x,(f x).1=x.1/\(f x).2.1=x.2.1):∀{l:List (Nat×Nat×Nat)}{k lo c:Nat},Ch lo l c->Ch lo (l.modify k f) c
 |[],k,lo,c,h=>by rw[List.modify_nil];exact h
 |p::l,0,lo,c,h=>by
  rw[List.modify_zero_cons];unfold Ch;rw[(d p).1,(d p).2];exact h
 |p::l,k+1,lo,c,h=>by
  rw[List.modify_succ_cons];exact⟨h.1,h.2.1,Ch.mod d h.2.2⟩
def Ch.push{p:Array (Nat×Nat×Nat)}(h:Ch 0 p.toList lo)(c:0<n):Ch 0 (p.push (lo,n,0)).toList (lo+n):=by
 rw[ad9];exact Ch.cat h ⟨rfl,c,rfl⟩
structure SI(κ:afz)(it:List Keyed)(st:abu):Prop where
 pm:(arrOf st).toList.Perm it
 kd:kindOf st=κ
 fl:ae1 st=none
section
variable {prog:aaI}{w:World}{A:aa8}{E:Ad->GT->Prop}{s:GT}{β:Type}{st:abu}
variable {d:afz}{a:List Keyed}
def SI.al(S:SI d a st):∀x∈(arrOf st).toList,x∈a:=λ_ h=>S.pm.mem_iff.mp h
def SI.sz(S:SI d a st):(arrOf st).size=a.length:=by simpa using S.pm.length_eq
variable (O:OrcW prog w A s d a)
include O
theorem yU{C:Nat}{Q:Bool->abu->Prop}(S:SI d a st)(N:Ch 0 (aaJ st).toList C)(hh:C≤(arrOf st).size)(G:i+1<(aaJ st).size)
  (h:∀st',SI d a st'->Ch 0 (aaJ st').toList C->(aaJ st').size+1=(aaJ st).size->Q true st'):wpS (model prog w) A E s (mergeAt' i) Q st:=by
 have X:i+1<(aaJ st).toList.length:=by simpa using G
 let⟨t,p,q,I,e,H⟩:∃t p q I,(aaJ st).toList=t++p::q::I/\t.length=i:=
  ⟨(aaJ st).toList.take i,_,_,(aaJ st).toList.drop (i+2),by rw[<-adr (i:=i+1) X,<-adr (i:=i) (by omega),adb],by rw[aau];omega⟩
 let⟨sa,c,v⟩:=p;let⟨sb,nb,F⟩:=q;rw[e]at N;let⟨m,Y,rfl,n1,rfl,n2,D⟩:=N.app;have le:=D.le;dsimp only at n1 n2 D le;apply aaF;refine aeJ ?_;have g1:(aaJ st)[i]?=some (sa,c,v):=by rw[<-adc,e,<-H];simp
 have U:(aaJ st)[i+1]?=some (sa+c,nb,F):=by rw[<-adc,e,<-H];simp
 have l:∀f m,f.toList.Perm (arrOf st).toList->Q true (ae0 (kindOf st) f (((aaJ st).setIfInBounds i (sa,c+nb,v)).eraseIdxIfInBounds (i+1)) m (ae1 st)):=λf m o=>by
  have L:(((aaJ st).setIfInBounds i (sa,c+nb,v)).eraseIdxIfInBounds (i+1)).toList=t++(sa,c+nb,v)::I:=by
   rw[Array.toList_eraseIdxIfInBounds,ae2,e,<-H,List.set_append_right _ _ (aab _),Nat.sub_self,List.eraseIdx_append_of_length_le (by omega),show t.length+1-t.length=1 by omega];rfl
  refine h _ ⟨o.trans S.pm,S.kd,S.fl⟩ ?_ ?_
  .show Ch 0 (afE _) C;rw[L];exact Ch.cat Y ⟨rfl,Nat.add_pos_left n1 _,by rw[<-adI];exact D⟩
  .show Array.size _+1=_;rw[<-act,L,<-act,e,aam,aam];rfl
 have M:∀u,u<(arrOf st).size->pK (arrOf st) u∈a:=λu T=>S.al _ (memK T);rw[g1,U];dsimp only;apply aaF;refine CN ?_;refine du (arr:=arrOf st) (i:=sa+c) (by omega) ?_;refine nG (arr:=arrOf st) (base:=sa) O S.kd (M _ (by omega)) n1 (by omega) S.al λk k1=>?_;refine bv (λz=>aaL (l _ _ (.refl _))) λz=>?_;simp only[beq_iff_eq]at z;rw[show sa+k+(c-k)-1=sa+c-1 by omega];refine du (arr:=arrOf st) (i:=sa+c-1) (by omega) ?_;refine nG (arr:=arrOf st) (base:=sa+c) O S.kd (M _ (by omega)) (by omega) (by omega) S.al λy m1=>?_;refine bv (λz=>aaL (l _ _ (.refl _))) λZ=>?_;simp only[beq_iff_eq]at Z;have K:∀(r:Array Keyed) m,r.toList.Perm (((arrOf st).extract (sa+k) (sa+c)).toList++((arrOf st).extract (sa+c) (sa+c+y)).toList)->Q true (ae0 (kindOf st) (wr (sa+k) r.toList.zipIdx (arrOf st)) (((aaJ st).setIfInBounds i (sa,c+nb,v)).eraseIdxIfInBounds (i+1)) m (ae1 st)):=λr m R=>by
  rw[<-acQ,Array.extract_append_extract,show min (sa+k) (sa+c)=sa+k by omega,show max (sa+c) (sa+c+y)=sa+c+y by omega]at R;exact l _ _ (J8 (by omega) (by omega) R)
 have V:(ae1 st).isNone=true:=by rw[S.fl];rfl
 have P:0<((arrOf st).extract (sa+k) (sa+c)).size:=by simp;omega
 have J:0<((arrOf st).extract (sa+c) (sa+c+y)).size:=by simp;omega
 have al:∀{i j},∀x∈((arrOf st).extract i j).toList,x∈a:=λx W=>S.al x (Jp W);refine bv (λ_=>aaF (QF ⟨O,al,al,by exact S.kd⟩ (.refl _) P J λr m R=>?_)) λ_=>aaF (Rc ⟨O,al,al,by exact S.kd⟩ (.refl _) P J λr m R=>?_)
 all_goals
  refine aaF (aei (aaF (aeJ (aaL ?_))));show Q ((ae1 st).isNone) _;rw[V];exact K r m R
theorem xr{Q:β->abu->Prop}{f:Option Bool->StateT abu Sem β}(S:SI d a st)(e:i<(arrOf st).size)(c:j<(arrOf st).size)(h:∀b,wpS (model prog w) A E s (f (some b)) Q st):wpS (model prog w) A E s (ltAt' i j >>= f) Q st:=by
 rw[ltAt'_eq];refine aaF (aaF (aeJ ?_));exact du e (du c (yI O S.kd (S.al _ (memK e)) (S.al _ (memK c)) h))
omit O in
theorem qI{Q:β->abu->Prop}{f:Unit->StateT abu Sem β}(S:SI d a st)(h:∀st',SI d a st'->aaJ st'=aaJ st->wpS (model prog w) A E s (f ()) Q st'):wpS (model prog w) A E s (reverseSlice' i j >>= f) Q st:=by
 rw[reverseSlice'_eq];refine aaF (aei (h _ ⟨(mirror_perm _ i j _).toList.trans S.pm,S.kd,S.fl⟩ rfl))
theorem KU{e:Nat}{Q:Option Nat->abu->Prop}(S:SI d a st)(L:1≤e)(N:lo+e≤a.length)
  (h:∀m st',1≤m->m≤e->SI d a st'->aaJ st'=aaJ st->Q (some m) st'):wpS (model prog w) A E s (countRun' lo e) Q st:=by
 have p:∀{n:Nat}{k:abu} (t:SI d a k) (n1:1≤n) (n2:n≤e) {F:_->abu->Prop},(∀m,1≤m->m≤e->F (none,m) k)->wpS (model prog w) A E s (forIn [n:e] ((none,n):Option (Option Nat)×Nat) λ_ c=>do
   let z <- ltAt' (lo+c.2) (lo+c.2-1)
   match z with
    |some b=>if b=true then pure (.done (none,c.2))else pure (.yield (none,c.2+1))
    |_=>pure (.done (some none,c.2))) F k:=λ{n k} t n1 n2 {F} q=>by
  refine ab8 (abz (I:=λi c st'=>st'=k/\c=(none,i)/\i≤e/\1≤i) (Q:=λc st'=>st'=k/\∃n,c=(none,n)/\1≤n/\n≤e) ?_ ?_ ⟨rfl,rfl,n2,n1⟩) ?_
  .rintro i c st' hi hi2 ⟨rfl,rfl,_,_⟩;have:=t.sz;refine xr O t (by dsimp only;omega) (by dsimp only;omega) λb=>?_;cases b
   .exact aaL ⟨rfl,rfl,hi2,by omega⟩
   .exact aaL ⟨rfl,i,rfl,by omega,by omega⟩
  .rintro c st' ⟨rfl,rfl,_,_⟩;exact⟨rfl,_,rfl,by omega,by omega⟩
  .rintro c st' ⟨rfl,n,rfl,n1,n2⟩;exact q n n1 n2
 rw[countRun'_eq];refine aaF (p S (aab 1) L λn n1 n2=>?_);dsimp only;refine bv (λy=>aaL (h n _ n1 n2 S rfl)) λy=>?_;simp only[beq_iff_eq]at y;refine bv (λM=>?_) λM=>?_
 any_goals
  have:=S.sz;refine xr O S (by omega) (by omega) λb=>?_;cases b
  rotate_left
  exact aaL (h n _ n1 n2 S rfl);refine bv (λz=>absurd z (by decide)) λ_=>qI S λk t J=>?_
 rotate_left
 have t:=S;have J:aaJ st=aaJ st:=rfl
 all_goals
  apply aaF;refine afA (abL ⟨rfl,?_⟩);refine aaF (ab8 (abz (I:=λi c f=>(SI d a f/\aaJ f=aaJ st)/\∃q,c=(none,i,q)/\i≤e) (Q:=λc f=>(SI d a f/\aaJ f=aaJ st)/\∃n q,c=(none,n,q)/\1≤n/\n≤e) ?_ ?_ ⟨⟨t,J⟩,0,rfl,by omega⟩) ?_)
  .rintro i c f hi hi2 ⟨⟨l,r⟩,q,rfl,_⟩;dsimp only;have:=l.sz;refine xr O l (by omega) (by omega) λb=>?_;cases b
   .refine bv (λz=>absurd z (by decide)) λ_=>xr O l (by omega) (by omega) λb=>?_;cases b
    .exact aaL ⟨⟨l,r⟩,_,rfl,hi2⟩
    .exact aaL ⟨⟨l,r⟩,_,_,rfl,by omega,by omega⟩
   .exact bv (λ_=>bv (λ_=>qI l λv G H=>aaL ⟨⟨G,H.trans r⟩,_,rfl,hi2⟩) λ_=>aaL ⟨⟨l,r⟩,_,rfl,hi2⟩) λz=>absurd rfl z
  .rintro c f ⟨h2,q,rfl,_⟩;exact⟨h2,_,_,rfl,by omega,by omega⟩
  intro c f ⟨⟨l,r⟩,P,q,rfl,K,n4⟩;exact bv (λ_=>qI l λv G H=>qI G λC u D=>aaF (p u K n4 λm m1 m2=>aaL (h m _ m1 m2 u (D.trans (H.trans r))))) λ_=>qI l λC u D=>aaF (p u K n4 λm m1 m2=>aaL (h m _ m1 m2 u (D.trans r)))
theorem Im{ok:Nat}{Q:Bool->abu->Prop}(S:SI d a st)(m:lo+n≤a.length)(h:∀st',SI d a st'->aaJ st'=aaJ st->Q true st'):wpS (model prog w) A E s (binarySort' lo n ok) Q st:=by
 rw[binarySort'_eq];refine aaF (ab8 (abz (I:=λk c st'=>c=(none,())/\SI d a st'/\aaJ st'=aaJ st) (Q:=λc st'=>c=(none,())/\SI d a st'/\aaJ st'=aaJ st) ?_ (λ_ _ q=>q) ⟨rfl,S,rfl⟩) ?_)
 .rintro k c st1 hk hk2 ⟨rfl,S1,e1⟩;have:=S1.sz;dsimp only;refine aaF (ab8 (abz (I:=λi c st'=>st'=st1/\∃l r,c=(none,l,r)/\l≤r/\r≤k) (Q:=λc st'=>st'=st1/\∃l r,c=(none,l,r)/\l≤r/\r≤k) ?_ (λ_ _ q=>q) ⟨rfl,0,k,rfl,by omega,by omega⟩) ?_)
  .rintro i c st' _ hi ⟨rfl,l,r,rfl,f,e⟩;dsimp only;refine bv (λz=>aaL ⟨rfl,l,r,rfl,f,e⟩) λz=>?_;refine xr O S1 (by omega) (by omega) λb=>?_
   cases b<;>exact aaL ⟨rfl,_,_,rfl,by omega,by omega⟩
  intro c st' ⟨rfl,l,r,rfl,f,e⟩;dsimp only;rw[moveDown'_eq];exact aaF (aei (aaL ⟨rfl,⟨(bubble_perm _ _ _).toList.trans S1.pm,S1.kd,S1.fl⟩,e1⟩))
 .rintro c st' ⟨rfl,S1,e1⟩;exact aaL (h _ S1 e1)
theorem Jw{Q:Unit->abu->Prop}(S:SI d a st)(L:aaJ st = #[])(h:∀st',SI d a st'->Q () st'):wpS (model prog w) A E s sortRuns' Q st:=by
 rw[sortRuns'_eq];refine aaF (aeJ ?_);dsimp only;rw[S.sz];refine aaF (ab8 (abz (I:=λi c st'=>∃lo,c=(none,lo)/\SI d a st'/\lo≤a.length/\Ch 0 (aaJ st').toList lo) (Q:=λc st'=>∃lo,c=(none,lo)/\SI d a st'/\lo≤a.length/\Ch 0 (aaJ st').toList lo) ?_ (λ_ _ q=>q) ⟨0,rfl,S,abF _,by rw[L];exact rfl⟩) ?_)
 .rintro i c st' _ hi ⟨lo,rfl,k,y,C⟩;dsimp only;refine bv (λz=>aaL ⟨_,rfl,k,y,C⟩) λz=>?_;refine aaF (KU O k (by omega) (by omega) λm N m1 m2 l u=>?_);rw[<-u]at C;dsimp only;refine bv (λD=>?_) λD=>?_;apply aaF;refine afA (abL ⟨rfl,?_⟩);refine aaF (Im O l (by omega) λf v F=>?_);rw[<-F]at C;have r:1≤min (a.length-lo) (minRun' a.length a.length 0):=by omega
  have t:min (a.length-lo) (minRun' a.length a.length 0)≤a.length-lo:=by omega
  clear l u m1 m2 D F
  revert r t
  generalize min (a.length-lo) (minRun' a.length a.length 0)=m;intro m1 m2;rw[if_neg (by decide)]
  rename SI d a f=>l
  rotate_left
  all_goals
   refine aaF (aeJ ?_)
   cases eb:(aaJ _).back? with
   |none=>exact aaF (aei (aaL ⟨_,rfl,⟨l.pm,l.kd,l.fl⟩,by omega,C.push m1⟩))
   | some p=>
    let⟨s1,G,P⟩:=p;refine aaF (ab8 (abz (I:=λi c f=>c=(none,())/\SI d a f/\Ch 0 (aaJ f).toList lo) (Q:=λc f=>c=(none,())/\SI d a f/\Ch 0 (aaJ f).toList lo) ?_ (λ_ _ h=>h) ⟨rfl,l,C⟩) ?_)
    .rintro j c f _ _ ⟨rfl,S3,C3⟩;refine aaF (aeJ ?_)
     cases e:(if (aaJ f).size>1 then(aaJ f)[(aaJ f).size-2]? else none)with
     |none=>exact aaL ⟨rfl,S3,C3⟩
     | some q=>
      have R:(aaJ f).size>1:=by
       by_cases z:(aaJ f).size>1
       .exact z
       .rw[if_neg z]at e;cases e
      refine bv (λ_=>aaL ⟨rfl,S3,C3⟩) λ_=>?_;have:=S3.sz;exact aaF (yU O S3 C3 (by omega) (by omega) λJ H M _=>aaL ⟨rfl,H,M⟩)
    .rintro c f ⟨rfl,S3,C3⟩;refine aaF (aei (aaF (aei (aaL ⟨_,rfl,⟨S3.pm,S3.kd,S3.fl⟩,by omega,Ch.push ?_ m1⟩))));show Ch 0 (Array.modify _ _ _).toList lo;rw[Array.toList_modify];refine Ch.mod ?_ C3;exact λ_=>⟨rfl,rfl⟩
 intro c st' ⟨lo,rfl,k,y,C⟩;dsimp only;refine aaF (ab8 (abz (I:=λi c st'=>c=(none,())/\SI d a st'/\Ch 0 (aaJ st').toList lo) (Q:=λc st'=>c=(none,())/\SI d a st'/\Ch 0 (aaJ st').toList lo) ?_ (λ_ _ h=>h) ⟨rfl,k,C⟩) ?_)
 .rintro i c st' _ hi ⟨rfl,k,C⟩;refine aaF (aeJ ?_);refine bv (λz=>aaL ⟨rfl,k,C⟩) λz=>?_;have:=k.sz;exact aaF (yU O k C (by omega) (by split<;>(try split)<;>omega) λf v K n2=>aaL ⟨rfl,v,K⟩)
 intro c st' ⟨rfl,k,C⟩;exact aaL (h _ k)
end
section
variable {prog:aaI}{w:World}{A:aa8}{E:Ad->GT->Prop}{s:GT}
def JY(h h':aaW):Prop:=∀b o,h.get? b=some o->o.cls = .type "tuple" -> h'.get? b=some o
theorem uy{h h':aaW}{k:Nat}(K:JY h h')(I:∀x y u as,x.depth≤k->smD x y=true->Reads h u x as->∃bs,Reads h' u x bs):∀(xs ys:List aD) us as,aaC xs≤k->smDs xs ys=true->adF h us xs as->∃bs,adF h' us xs bs
 |[],ys,us,as,_,_,r=>by cases r;exact⟨[],.nil⟩
 | x::xs,ys,us,as,hk,sm,r=>by
  cases ys with
  |nil=>exact absurd sm (by simp only[smDs];decide)
  | cons y ys=>
   simp[smDs]at sm;have e:max x.depth _≤k:=hk
   cases r with
   |cons r1 d=>
    let⟨b1,c⟩:=I x y _ _ (by omega) sm.1 r1;let⟨b2,q⟩:=uy K I xs ys _ _ (by omega) sm.2 d;exact⟨_,.cons c q⟩
theorem AA{h h':aaW}(K:JY h h'):∀(k:Nat) (x y:aD) (u:Ad) (as:List Addr),x.depth≤k->smD x y=true->Reads h u x as->∃bs,Reads h' u x bs
 |k,.int a,y,u,as,_,_,r=>by cases r;exact⟨_,.int _ _⟩
 |0,.tuple xs,y,u,as,hk,_,_=>absurd hk (by show ¬aaC xs+1≤0;contradiction)
 | k+1,.tuple xs,y,u,as,hk,sm,r=>by
  cases y with
  | tuple d=>
   have l:aaC xs+1≤k+1:=hk
   cases r with
   |tuple e c q z=>
    let⟨bs,f⟩:=uy K (AA K k) xs d _ _ (by omega) sm z;exact⟨_,.tuple (K _ _ e c) c q f⟩
  |_=>exact absurd sm (by simp only[smD];decide)
 |k,.none,y,u,as,_,sm,_=>absurd sm (by simp only[smD];decide)
 |k,.bool _,y,u,as,_,sm,_=>absurd sm (by simp only[smD];decide)
 |k,.str _,y,u,as,_,sm,_=>absurd sm (by simp only[smD];decide)
 |k,.list _,y,u,as,_,sm,_=>absurd sm (by simp only[smD];decide)
 |k,.dict _,y,u,as,_,sm,_=>absurd sm (by simp only[smD];decide)
theorem Bg{f r:Bool}{Q:Bool->GT->Prop}(q:Q r s):∀(ps:List (Ad×Ad)) (i:Nat),xV A s f r ps->KatLex prog w A false f Q ps i s
 |[],i,h=>kat_nil (by have c:=h;rw[<-c];exact q)
 |p::ps,i,⟨e,he,h1,h2⟩=>by
  refine kat_cons (he prog w _ _ ?_)
  cases e with
  |true=>exact kat_yes (Bg q ps _ (h1 rfl))
  |false=>exact kat_no (kat_one _ _ (h2 rfl prog w _ _ q))
def RdL(h:aaW):List Ad->List aD->Prop
 |[],[]=>True
 |v::vs,d::ds=>(∃c,Reads h v d c)/\RdL h vs ds
 |_,_=>False
theorem RdL.len{h:aaW}:∀{vs:List Ad}{ds:List aD},RdL h vs ds->vs.length=ds.length
 |[],[],_=>rfl
 |v::vs,d::ds,t=>by rw[aaw,aaw,RdL.len t.2]
 |[],_::_,t=>t.elim
 |_::_,[],t=>t.elim
theorem RdL.get{h:aaW}:∀{vs:List Ad}{ds:List aD}{i:Nat},RdL h vs ds->i<vs.length->∃as,Reads h (vs.getD i .none) (ds.getD i .none) as
 |[],[],_,_,z=>by simp at z
 |v::vs,d::ds,0,t,_=>t.1
 |v::vs,d::ds,i+1,t,z=>by
  rw[List.getD_cons_succ];exact RdL.get t.2 (by simp_all)
 |[],_::_,_,t,_=>(t.elim)
 |_::_,[],_,t,_=>(t.elim)
def tt1:aD->Bool
 | .tuple (.tuple _::_)=>true
 |_=>false
theorem yy{h:aaW}:∀{vs:List Ad}{ds:List aD},RdL h vs ds->(∀d∈ds,tt1 d=true)->∃fs,KatTups h vs fs/\fs.length=vs.length/\∀v∈fs,∃b o,v = .ref b/\h.get? b=some o/\o.cls = .type "tuple"
 |[],[],_,_=>⟨[],.nil,rfl,λ_ h=>by cases h⟩
 | v::vs,d::ds,⟨⟨as,r⟩,t⟩,hd=>by
  let⟨fs,k1,k2,C⟩:=yy t λx k=>hd x (aad _ k);have l:=hd d aac;let⟨y,m,rfl⟩:∃y m,d = .tuple (.tuple y::m):=by
   unfold tt1 at l
   split at l
   .exact⟨_,_,rfl⟩
   .cases l
  cases r with
  | tuple e c q z=>
   rename_i a o f n;generalize H:f.toList=L at z
   cases z with
   | cons r1 M=>
    rename_i u K D bs;have F:f[0]?=some u:=by
     rw[<-adc,H];rfl
    cases r1 with
    |tuple G p I J=>
     refine⟨_::fs,.cons e c q F k1,by rw[aaw,aaw,k2],λx k=>?_⟩;exact(aak.mp k).elim (λz=>by subst z;exact⟨_,_,rfl,G,p⟩) (C x)
 |[],_::_,t,_=>t.elim
 |_::_,[],t,_=>t.elim
theorem RdL.keep{h h':aaW}(K:JY h h'):∀{vs:List Ad}{ds:List aD},(∀d∈ds,smD d d=true)->RdL h vs ds->RdL h' vs ds
 |[],[],_,_=>trivial
 |v::vs,d::ds,hs,⟨⟨as,r⟩,t⟩=>⟨AA K d.depth d d v as (aab _) (hs d aac) r,RdL.keep K (λx c=>hs x (aad _ c)) t⟩
 |[],_::_,_,t=>t.elim
 |_::_,[],_,t=>t.elim
structure SrtOk(ds:List aD):Prop where
 n:ds.length<100000
 sm:∀x∈ds,∀y∈ds,smD x y=true
 tt:∀x∈ds,tt1 x=true
 dp:∀x∈ds,x.depth≤7
theorem Nr{u v:Ad}{x y:aD}{as bs:List Addr}{Q:Bool->GT->Prop}(r1:Reads s.heap u x as)(r2:Reads s.heap v y bs)(sm:smD x y=true)(t:tt1 x=true)(d:tt1 y=true)(f:A.units+x.depth<cLine)(h:Q (ltD x y) s):wpAny (model prog w) A (keyLt' (tuples' false) u v) Q E s:=by
 let⟨a1,b1,rfl⟩:∃a b,x = .tuple (.tuple a::b):=by
  unfold tt1 at t
  split at t
  .exact⟨_,_,rfl⟩
  .cases t
 let⟨a2,b2,rfl⟩:∃a b,y = .tuple (.tuple a::b):=by
  unfold tt1 at d
  split at d
  .exact⟨_,_,rfl⟩
  .cases d
 cases r1 with
 | tuple e c q z=>
  cases r2 with
  |tuple m C l r=>
   have p:A.units+(aaC _+1)<cLine:=f;let⟨F,D⟩:=lh (vi _) A s _ _ _ _ _ _ (aab _) z r sm (by exact abV ‹_›);have k:Q (ltDs (.tuple a1::b1) _) s:=h;refine kat_lt e q m l (Bg k _ 0 ?_)
   grind
def ordP(ds:List aD)(p:List Nat):Prop:=p.Perm (aat ds.length)
theorem JM{t β:Type}{f:β->t}{l m:List t}(h:l.Perm m):∀{r:List β},m=r.map f->∃q:List β,q.Perm r/\l=q.map f:=by
 induction h with
 |nil=>exact λ{r} e=>⟨r,.refl _,e⟩
 | cons x _ v=>
  intro r e
  cases r with
  |nil=>cases e
  |cons y r=>
   let⟨k,c⟩:=agB e;let⟨q,p,d⟩:=v c;exact⟨y::q,p.cons _,by rw[k,d];rfl⟩
 | swap x y l=>
  intro r e
  match r,e with
  |a::b::r,e=>
   let⟨k,c⟩:=agB e;let⟨d,F⟩:=agB c;exact⟨b::a::r,.swap _ _ _,by rw[k,d,F];rfl⟩
 |trans _ _ C z=>
  intro r e;let⟨q,p,c⟩:=z e;let⟨u,D,d⟩:=C c;exact⟨u,D.trans p,d⟩
theorem I9(r6:RdL s.heap vs ds)(ok:SrtOk ds)(z:A.units+7<cLine) :
  wpAny (model prog w) A ((sortRuns').run (ae0 (tuples' false) (vs.toArray.zip vs.toArray) #[] 7 none)) (λr s'=>∃q:List Nat,ordP ds q/\(arrOf r.2).map (·.2)=(q.map λi=>vs.getD i .none).toArray/\q.length=vs.length/\ae1 r.2=none/\s'=s) E s:=by
 have h:=r6.len;have k:(vs.toArray.zip vs.toArray).toList=(aat ds.length).map λi=>(vs.getD i .none,vs.getD i .none):=by
  rw[ahc];refine aba λi=>?_;rw[aae,List.zip,List.getElem?_zipWith]
  by_cases f:i<vs.length
  .simp[f,<-h]
  .simp[f,<-h]
 have m:∀i,i<ds.length->ds.getD i .none∈ds:=λi f=>by rw[bp (iO f)];exact acf _
 have O:OrcW prog w A s (tuples' false) (vs.toArray.zip vs.toArray).toList:=λx u y t C q=>by
  rw[k]at u t;let⟨i,f,rfl⟩:=aal.mp u;let⟨j,l,rfl⟩:=aal.mp t;rw[ack]at f l;let⟨D,r1⟩:=r6.get (i:=i) (by omega);let⟨bs,v⟩:=r6.get (i:=j) (by omega);exact Nr r1 v (ok.sm _ (m i f) _ (m j l)) (ok.tt _ (m i f)) (ok.tt _ (m j l)) (by have:=ok.dp _ (m i f);omega) (q _)
 have W:=Jw (E:=E) (Q:=λ_ st'=>∃q:List Nat,ordP ds q/\(arrOf st').map (·.2)=(q.map λi=>vs.getD i .none).toArray/\q.length=vs.length/\ae1 st'=none) O (st:=ae0 (tuples' false) (vs.toArray.zip vs.toArray) #[] 7 none) ⟨.refl _,rfl,rfl⟩ rfl λst' S=>by
  let⟨q,p,e⟩:=JM S.pm k;refine⟨q,p,?_,by rw[p.length_eq,abb,h],S.fl⟩;apply ahd.mp;rw[ahe,e,aa4];rfl
 unfold wpS at W;exact acb W (λr s' ⟨e,q,a,b,c,d⟩=>⟨q,a,b,c,d,e⟩) λ_ _ e=>e
theorem oy{a:Addr}{P:PySem.Fin->GT->Prop}(u:s.heap.get? a=some (acU "list" vs.toArray n))(C:RdL s.heap vs ds)(ok:SrtOk ds)(hT:True)(M:A.units+7<cLine)
  (h:∀p:List Nat,ordP ds p->P (.done (.ret .none)) {s with heap:=afO s.heap a vs (p.map λi=>vs.getD i .none).toArray}):wpAny (model prog w) A
  (adm.«list.sort» ⟨[.ref a],[]⟩) P E s:=by
 have l:=C.len;have O:=ok.n;rw[list_sort_plain];have r:(s.heap.update a (acr λ_=>#[])).get? a=some (acU "list" #[] _):=get?_update_seq u λ_=>#[];have f:(((s.heap.update a (acr λ_=>#[])).push (acU "tuple" vs.toArray 0)).push (acU "list" #[] 0)).get? a=some (acU "list" #[] _):=Ld _ (Ld _ r);refine gT (agY u rfl (gT (afn u rfl (gT (seqEpoch_at r rfl (gT (m:=newTuple _) (agb (gT (m:=agU _) (afo (ach ?_))))))))));have r6:RdL (((s.heap.update a (acr λ_=>#[])).push (acU "tuple" vs.toArray 0)).push (acU "list" #[] 0)) vs ds:=C.keep (λb o e c=>by
  have V:b≠a:=λz=>by
   rw[z,u]at e;have H:o.cls=aeM "list":=by rw[<-aaB e]
   rw[H]at c;exact absurd c (by decide)
  refine Ld _ (Ld _ ?_);rw[aaW.get?_update_ne _ _ _ _ V];exact e) λd hd=>ok.sm d hd d hd
 generalize F:((s.heap.update a (acr λ_=>#[])).push (acU "tuple" vs.toArray 0)).push (acU "list" #[] 0)=y at f r6;have Y:afO s.heap a vs=λout=>afO s.heap a vs out:=rfl;change wpAny _ A _ P E ({s with heap:=y}:GT);dsimp only;have U:(vs.toArray:Array Ad).size=vs.length:=aaG
 by_cases t:(vs.toArray:Array Ad).size<2
 .rw[if_pos t,if_pos t];refine gT (LD ?_);rw[StateT.run_pure];refine gT (LD ?_);dsimp only;refine gT (seqEpoch_at f rfl ?_);refine gT (afn f rfl ?_ (hsz2:=by rw[Array.size_map];show(pairsOf vs).size≤_;rw[pairsOf_size,aar];omega));simp only[if_false,acZ,bne_self_eq_false];refine LD ?_;have k:=h (aat ds.length) (List.Perm.refl _);have J:((aat ds.length).map λi=>vs.getD i .none).toArray=(arrOf (ae0 general' (vs.toArray.zip vs.toArray) #[] 7 none)).map (·.2):=by
   show _=(vs.toArray.zip vs.toArray).map (·.2);apply ahd.mp;rw[ahe,ahc];refine aba λi=>?_
   by_cases D:i<vs.length
   .simp[abo,D,<-l]
   .simp[abo,D,<-l]
  rw[J]at k;unfold afO at k;rw[F]at k;exact k
 .rw[if_neg t,if_neg t];let⟨fs,k1,k2,R⟩:=yy r6 ok.tt;refine gT (kat_kind (s:={s with heap:=y}) (T:=.type "tuple") k1 (by omega) (λv L=>?_) rfl ?_)
  .obtain⟨b,o,rfl,e1,c1⟩:=R v L;exact λX Q' Z W S q=>acW ⟨o,S _ _ e1,c1⟩ q
  rw[show(aeM "tuple" != aeM "tuple")=false by decide];refine gT (acb (I9 (s:={s with heap:=y}) r6 ok M) ?_ λ_ _ e=>e);rintro⟨⟨⟩,st'⟩ W ⟨q,N,K,G,I,rfl⟩;dsimp only;rw[K];refine gT (seqEpoch_at f rfl ?_);refine gT (afn f rfl ?_ (hsz2:=by simp;rw[G,aar];omega));rw[I];simp only[if_false,acZ,bne_self_eq_false];have k:=h q N;unfold afO at k;rw[F]at k;exact LD k
end
section
variable {prog:aaI}{w:World}{A:aa8}{E:Ad->GT->Prop}{s:GT}
theorem v3{v:Ad}{C:aaW->List Ad->Prop}{Q:Ad->GT->Prop}(ok:SrtOk ds)(hT:True)(F:A.units+10<cLine)
  (k:∀(P:List Ad->GT->Prop) (E:Ad->GT->Prop),(∀h' vs,(∀b o,s.heap.get? b=some o->h'.get? b=some o)->RdL h' vs ds->C h' vs->P vs {s with heap:=h' })->wpAny (model prog w) A.in1 (collect v) P E s)
  (h:∀(c f:aaW) (vs:List Ad) (p:List Nat) (L:Addr) (e:Nat),(∀b o,s.heap.get? b=some o->c.get? b=some o)->C c vs->RdL c vs ds->(∀b o,c.get? b=some o->f.get? b=some o)->L=c.objs.size->f.get? L=some (acU "list" (p.map λi=>vs.getD i .none).toArray e)->ordP ds p->Q (.ref L) {s with heap:=f}) :
  wpAny (model prog w) A (call (.builtin "sorted") [v]) Q E s:=by
 refine Calls.call_function_entry kind_sorted plain_sorted entry_sorted (args:=_) (args_sorted1 v) ?_;refine gT (m:=checkCount "sorted" 1 1 _) (LD (gT (k _ _ λc vs k1 r1 t=>gT (m:=agU vs) (afo ?_ (hsz:=by rw[r1.len,aar];have:=ok.n;omega)))));have at1:(c.push (acU "list" vs.toArray 0)).get? c.objs.size=some (acU "list" vs.toArray 0):=aao _ rfl;have k2:∀b o,c.get? b=some o->(c.push (acU "list" vs.toArray 0)).get? b=some o:=λb o q=>Ld _ q;have u:=r1.keep (λb o q _=>k2 b o q) λd hd=>ok.sm d hd d hd;refine gT (m:=adN _ _) (ach (acb (abk slot_list_sort ⟨_,at1,rfl⟩ entry_list_sort (oy at1 u ok hT (show A.units+1+1+7<cLine by exact abV ‹_›) λp r=>⟨_,rfl,?_⟩) (args_list_sort _)) (λD y (q:Q (.ref c.objs.size) y)=>LD ⟨_,rfl,q⟩) λ_ _ z=>z));let⟨e,l⟩:=sortedHeap_at at1;exact h c _ vs p _ e k1 t r1 (λb o q=>by
  have lt:b<c.objs.size:=aap q;rw[sortedHeap_old (aa3 lt) (by rw[size_push'];exact ad4 lt)];exact k2 b o q) rfl l r
end
theorem Aa(h:aaW):h.get? h.objs.size=none:=by
 cases e:h.get? h.objs.size with
 |none=>rfl
 |some o=>exact(acM _ (aap e)).elim
def updR(H:Hp)(B:Addr)(g:Nat->HO):Nat->Hp
 |0=>H
 |n+1=>upd (updR H B g n) (B+n) (g n)
theorem iK{H:Hp}{B:Addr}{g:Nat->HO}{b:Addr}:∀{n:Nat},(∀j,j<n->b≠B+j)->updR H B g n b=H b
 |0,_=>rfl
 |n+1,h=>by
  show upd _ _ _ b=_;rw[au (h n (abA n))];exact iK λj c=>h j (ad4 c)
theorem tX{H:Hp}{B:Addr}{g:Nat->HO}{j:Nat}:∀{n:Nat},j<n->updR H B g n (B+j)=some (g j)
 |0,h=>absurd h (Nat.not_lt_zero _)
 |n+1,h=>by
  by_cases e:j=n
  .subst e;exact av
  .show upd _ _ _ _=_;rw[au (λz=>e (agt z))];exact tX (by omega)
section
variable {X:Cx}{pins:List (Addr×Obj)}{σ:List (Option V)}{H:Hp}{s:GT}{h':aaW}
def BV(h:b<B):updR H B g n b=H b:=iK λj _=>aa3 (aav h (acx _ _))
def dg{o:HO}(fr:∀j,H (B+j)=none)(h:H b=some o):updR H B g n b=some o:=by
 rw[iK λj _ z=>by rw[z,fr j]at h;cases h];exact h
def Inv.laidR{t':Nat}(I:Inv X pins σ H s)(k:∀b u,s.heap.get? b=some u->h'.get? b=some u)(d:s.heap.objs.size≤B)(new:∀j,j<n->ObjOk X.prog X.w (updR H B g n) h' (B+j) (g j)) :
  Inv X pins σ (updR H B g n) {s with heap:=h',toks:=t' }:=by
 have fr:∀j,H (B+j)=none:=λj=>I.hok.fresh (aaD d (acx _ _));refine I.un ⟨λb u q _ _ _=>k b u q,λb u q _ _ _=>⟨u.slots,k b u q⟩,λb u q n _=>?_,λb u q _=>⟨u,k b u q⟩,λb f q=>dg fr q,λb u f q=>dg fr q,λb p q=>⟨#[],?_⟩⟩ λb u e=>?_
 .rw[BV (aav (aap q) d)];exact n
 .rw[dg fr q];simp
 .by_cases hb:∃j,j<n/\b=B+j
  .obtain⟨j,h,rfl⟩:=hb;rw[tX h]at e;rw[<-aaB e];exact new j h
  .rw[iK λj h z=>hb ⟨j,h,z⟩]at e;exact(I.hok b u e).stay (λc v _ q=>k c v q) (λc q=>dg fr q) λc f q=>dg fr q
theorem Ik{p:List Nat}(h:ordP ds p):(p.map λi=>ds.getD i .none).Perm ds/\True:=by
 have e:(aat ds.length).map (λi=>ds.getD i .none)=ds:=aba λi=>by
  by_cases c:i<ds.length
  .simp_all
  .simp_all
 have:=h.map λi=>ds.getD i .none;rw[e]at this;exact⟨this,trivial⟩
theorem Fj(I:Inv X pins σ H s):∀{ds:List aD}{xs:List V}{us:List Ad},(∀d∈ds,d.canLay0=true)->DenAll X.kx H ds xs->Vals xs us->RdL s.heap us ds
 |[],xs,us,_,g,r=>by
  subst g;cases r;trivial
 |d::ds,xs,us,hl,g,r=>by
  let⟨x,f,rfl,k,e⟩:=g
  cases r with
  |cons h t=>exact⟨Den.reads I (aa6 _ (hl d aac)) k h,Fj I (λx c=>hl x (aad _ c)) e t⟩
def SrtOk.lay(ok:SrtOk ds):∀d∈ds,d.canLay0=true:=λd hd=>(y9 (ok.sm d hd d hd)).1
structure SrtT(ds:List aD):Prop where
 ok:SrtOk ds
 tot:True
def srtR(ds:List aD)(K:List aD->Prop):Prop:=SrtT ds/\∀d:List aD,d.Perm ds->True->K d
theorem y8:∀{xs:List V}{us:List Ad},xs.length=us.length->(∀(j:Nat) (x:V) (u:Ad),xs[j]?=some x->us[j]?=some u->RelV x u)->Vals xs us
 |[],[],_,_=>.nil
 |x::xs,u::us,hl,h=>.cons (h 0 x u rfl rfl) (y8 (by simpa using hl) λj x u e c=>h (j+1) x u ‹_› ‹_›)
 |[],_::_,hl,_=>(adx _ hl).elim
 |_::_,[],hl,_=>(adx _ hl.symm).elim
theorem qW{K:Kd}{H:Hp}:∀{ds:List aD}{xs:List V},ds.length=xs.length->(∀(j:Nat) (d:aD) (x:V),ds[j]?=some d->xs[j]?=some x->Den K H d x)->DenAll K H ds xs
 |[],[],_,_=>by simp[DenAll]
 |d::ds,x::xs,hl,h=>by
  exact⟨x,xs,rfl,h 0 d x rfl rfl,qW (by simpa using hl) λj d x c e=>h (j+1) d x ‹_› ‹_›⟩
 |[],_::_,hl,_=>(adx _ hl).elim
 |_::_,[],hl,_=>(adx _ hl.symm).elim
theorem AM{H:Hp}(fr:∀j,H (B+j)=none)(n:Nat):Pers H (updR H B g n):=⟨λb c q=>dg fr q,λb o u q=>dg fr q⟩
def itmG(es:List (V×V))(j:Nat):HO:=.tup [(es.getD j (.non,.non)).1,(es.getD j (.non,.non)).2]
def qo(B:Addr)(n:Nat):List V:=(aat n).map λj=>.ref (B+j)
theorem qB{K:Kd}{H:Hp}(fr:∀j,H (B+j)=none)(l:PDc K H kvs es):DenAll K (updR H B (itmG es) es.length) (fZ kvs) (qo B es.length):=by
 have h:=AM (g:=itmG es) fr es.length;refine qW (by unfold fZ qo;rw[lD,lD,abb,l.length]) λj d x c e=>?_;unfold fZ at c;rw[aae]at c;let⟨p,r,rfl⟩:=ad8.mp c;let⟨m,q,d1,u⟩:=Paired.at1 l r;have k:=(AD.mp q).1;unfold qo at e;rw[aae,abo k]at e;have f:=aaB e;subst f;have t:itmG es j = .tup [m.1,m.2]:=by unfold itmG;rw[bp q]
 exact fv (SqT.of ((tX k).trans (by rw[t]))) (DenAll.cons (d1.mono h) (DenAll.cons (u.mono h) DenAll.nil))
def DcR(H:Hp)(a:Addr)(es:List (V×V)):Prop:=(∃c,Rd H a (dX a c)/\es=c.map (·.2))\/∃c,Rd H a (.dK c)/\es=c.map λp=>(kV p.1,p.2)
theorem Inv.dcr{X:Cx}{pins:List (Addr×Obj)}{σ:St}{H:Hp}{s:GT}(I:Inv X pins σ H s){a:Addr}(h:DcR H a es):(a==abC)=false/\∃o c f,s.heap.get? a=some o/\o.ExactDict/\o.data = .dict c f/\abO (λ(e:V×V) (d:acd)=>RelV e.1 d.key/\RelV e.2 d.val) es c.toList:=by
 rcases h with⟨m,e,rfl⟩|⟨m,e,rfl⟩
 .obtain⟨⟨hs,hz,o,c,f,h1,h2,h3,h4⟩,_⟩:=(show ObjOk X.prog X.w H s.heap a (dX a m)from e.ok I.hok);refine⟨hs,o,c,f,h1,h2,h3,?_⟩;clear e hz;generalize c.toList=l at h4;rename_i z;clear z
  induction h4 with
  |nil=>exact .nil
  |cons q _ k=>exact .cons q.2 k
 .obtain⟨hz,hs,vs,kv,o,c,f,h1,h2,h3,h4,h5,h6⟩:=sd I.hok e;refine⟨hs,o,c,f,h1,h2,h3,?_⟩;generalize c.toList=l at h5;clear h6 h4 h3 h2 hz e
  induction kv generalizing l with
  |nil=>cases h5;exact .nil
  | cons q _ k=>
   cases h5 with
   |cons p t r=>
    rw[aan];refine .cons ⟨?_,?_⟩ (k _ r)
    .rw[<-q.1]at p;exact Ig p
    .rw[t];exact q.2
theorem IsDc.dcr{K:Kd}{H:Hp}{a:Addr}(h:IsDc K H a kvs):∃es,DcR H a es/\PDc K H kvs es:=by
 rcases h with⟨es,r,g⟩|⟨es,r,_,_,g⟩
 .exact⟨_,.inr ⟨es,r,rfl⟩,Ap g⟩
 .exact⟨_,.inl ⟨es,r,rfl⟩,xz g⟩
def LU(K:Kd)(to:TE):TE:=λσ H Q=>to σ H λx c=>∃a es kvs,x = .ref a/\DcR c a es/\PDc K c kvs es/\SrtT (fZ kvs)/\∀(d:List aD) (B:Addr) (g:Nat->HO) (n:Nat) (L:Addr) (e:List V),d.Perm (fZ kvs)->True->(∀j,c (B+j)=none)->updR c B g n L=none->DenAll K (upd (updR c B g n) L (.lst e)) d e->Q (.ref L) (upd (updR c B g n) L (.lst e))
theorem Cf{to:TE}(hc:X.calm=true)(hu:X.A.units+64<cLine)(hg:Gl X "sorted")(hm:X.mg "sorted" = none)(ho:PE X o to)(r:abQ o "items" X.env (eval o X.env)=eval o X.env:=by rfl)(w:(apos.endLine==cpos.line)=true:=by rfl)
  (M:aag [.Call (.Attribute o "items" apos) [] [] cpos] X.env=[(false,eval (.Call (.Attribute o "items" apos) [] [] cpos) X.env)]:=by rfl):PE X (.Call (.Name "sorted" p0) [.Call (.Attribute o "items" apos) [] [] cpos] [] pos) (LU X.kx to):=by
 intro pins s σ H Q I h;refine acy (jE I hg hm k8 ?_);refine aef ?_ M rfl;rw[M];refine aeR ?_;refine wpAny_Call_method0_late r w (thn (ho pins s σ H _ I h) λv s1 ⟨x,R,I1,r1,q1⟩=>?_);let⟨a,es,kvs,rfl,dc,pd,W,q⟩:=q1;cases r1;let⟨F,ob,c,V,T,g2,g3,g4⟩:=I1.dcr dc;have he:EntAt s1.heap a c V:=⟨ob,T,g2,g3⟩;refine⟨"dict","dict.items",PySem.F.plainAttrs_dict,afy,PySem.F.type_dict_items,⟨ob,T,g2.1⟩,λb e=>by cases e;exact⟨ob,T,g2.2.1⟩,afL rfl (PySem.evalArgs_none (wn F he ?_))⟩;refine ae9 ?_;have kv:∀b o,s1.heap.get? b=some o->(s1.heap.push {cls:=.type "dict_items",data:=.fields #[.ref a]}).get? b=some o:=λb o q=>Ld _ q;have hl:es.length=c.size:=by have:=g4.length;simpa using this
 have hil:(fZ kvs).length=es.length:=by unfold fZ;rw[lD,pd.length]
 have hn:=W.ok.n;have U:Inv X pins σ R {s1 with heap:=s1.heap.push {cls:=.type "dict_items",data:=.fields #[.ref a]} }:=I1.kept (t':=s1.toks) kv;have m:(s1.heap.push {cls:=.type "dict_items",data:=.fields #[.ref a]}).get? s1.heap.objs.size=some {cls:=.type "dict_items",data:=.fields #[.ref a]}:=aao _ rfl;have G:EntAt (s1.heap.push {cls:=.type "dict_items",data:=.fields #[.ref a]}) a c V:=he.keep λo q=>kv _ _ q;have la:a<s1.heap.objs.size:=aap T;generalize hS2:({s1 with heap:=s1.heap.push {cls:=.type "dict_items",data:=.fields #[.ref a]} }:GT)=s2 at U⊢;have hh2:s2.heap=s1.heap.push {cls:=.type "dict_items",data:=.fields #[.ref a]}:=by rw[<-hS2]
 rw[<-hh2]at m G;have lv:s1.heap.objs.size<s2.heap.objs.size:=aap m;have lay:∀(h':aaW) (d:Addr),(∀b o,s2.heap.get? b=some o->h'.get? b=some o)->s2.heap.objs.size≤d+1->(∀j (A:j<c.size),h'.get? (d+1+j)=some {cls:=.type "tuple",data:=.seq #[c[j].key,c[j].val]})->Inv X pins σ (updR R (d+1) (itmG es) es.length) {s2 with heap:=h' }:=λh' d k z tp=>by
  refine U.laidR (t':=s2.toks) k z λj A=>?_;let⟨ev,t,S,O⟩:=Paired.at g4 (i:=j) (y:=c[j]) (by simp[show j<c.size by omega]);have eg:itmG es j = .tup [ev.1,ev.2]:=by unfold itmG;rw[bp t]
  rw[eg];exact⟨by show 2≤aaj;rw[aar];decide,[c[j].key,c[j].val],.cons S (.cons O .nil),⟨_,tp j (by omega),rfl,rfl,_,rfl⟩⟩
 have K:∀(d:Addr) (f:Array Ad),f.size=c.size->(∀(j:Nat) u,f[j]?=some u->u = .ref (d+1+j))->Vals (qo (d+1) es.length) f.toList:=λd f az ar=>y8 (by have z1:f.toList.length=f.size:=act;unfold qo;rw[lD,abb,z1,az,hl]) λj x u t S=>by
  unfold qo at t;rw[aae]at t;let⟨j',O,rfl⟩:=ad8.mp t;have J:j<es.length:=by have:=(AD.mp O).1;rwa[abb]at this
  rw[abo J]at O;rw[adc]at S;rw[ar j u S,aaB O];exact rfl
 have fr:∀(d:Addr),s2.heap.objs.size≤d+1->∀j,R (d+1+j)=none:=λd z j=>U.hok.fresh (aaD z (acx _ _));refine v3 (s:=s2) (C:=λh vs=>∃d:Addr,s2.heap.objs.size≤d+1/\(∀j (A:j<c.size),h.get? (d+1+j)=some {cls:=.type "tuple",data:=.seq #[c[j].key,c[j].val]})/\Vals (qo (d+1) es.length) vs) W.ok W.tot (by omega) (λP E hP=>?_) ?_
 .refine xp (St:=λd=>StI s2.heap.objs.size d a c V) (P:=λd=>PrI s2.heap.objs.size d c) (n:=c.size) ⟨_,m,rfl⟩ (.inl rfl) (by rw[aar];omega) (λs3 Q3 E3 hT q=>v9 hT q) (λs3 Q3 E3 k0 ⟨oS,hS⟩ hq=>?_) λd h' f k zz az pz=>?_
  .have lS:s2.heap.objs.size<s3.heap.objs.size:=aap hS;have D:EntAt s3.heap a c V:=G.keep λo q=>k0 _ _ q;refine zQ (k0 _ _ m) D λh' Z sz hk=>hq h' _ (abx lS) (DQ (U.ok.hd hc) lS (abx (ad7 la lv)) (abx (ad7 la (ad7 lv lS)))) ⟨D.keep λo q=>hk _ _ q,sz,.inl ⟨_,_,Z⟩⟩ hk (Aa _)
  .obtain⟨l,z',tp',ar'⟩:∃l:Addr,s2.heap.objs.size≤l+1/\(∀j (A:j<c.size),h'.get? (l+1+j)=some {cls:=.type "tuple",data:=.seq #[c[j].key,c[j].val]})/\∀(j:Nat) u,f[j]?=some u->u = .ref (l+1+j):=by
    by_cases e0:c.size=0
    .exact⟨s2.heap.objs.size,afa _,λj A=>by omega,λj u e=>by have:=(Array.getElem?_eq_some_iff.mp e).1;omega⟩
    .have get:∀j,j<c.size->∃u,f[j]?=some u:=λj A=>⟨_,aca (show j<f.size by omega)⟩;let⟨u0,t⟩:=get 0 (by omega);have l0:=(pz 0 u0 t).1;refine⟨d,abV (ad4 l0),λj A=>?_,λj u e=>(pz j u e).2.1⟩;let⟨u,e⟩:=get j A;let⟨_,_,J,q⟩:=pz j u e;exact q
   have Y:=K l f az ar';have I':=lay h' l k z' tp';exact hP h' f.toList k (Fj I' W.ok.lay (qB (fr l z') pd) Y) ⟨l,z',tp',Y⟩
 .rintro h1 h2 vs p L e k1 ⟨d,z,tp,Y⟩ r1 k2 hL hl2 hp;subst hL;have I3:=lay h1 d k1 z tp;have N:updR R (d+1) (itmG es) es.length h1.objs.size=none:=I3.hok.fresh (aab _);let⟨o1,o2⟩:=Ik hp;have hpl:p.length=c.size:=by have:=List.Perm.length_eq hp;rw[abb]at this;omega
  exact⟨.ref h1.objs.size,_,I3.laid (t':=s2.toks) k2 (aab _) (show ObjOk X.prog X.w _ _ _ (.lst (p.map λi=>(qo (d+1) es.length).getD i .non))from⟨by rw[lD,aar];omega,_,e,rQ Y p,by rw[hl2]⟩),rfl,q _ _ _ _ _ _ o1 o2 (fr d z) N ((vI (qB (fr d z) pd) p).mono (bi (.inl N)))⟩
theorem AV{H:Hp}(fr:∀j,H (B+j)=none)(h:updR H B g n b=none):H b=none:=by
 cases e:H b with
 |none=>rfl
 |some o=>rw[dg fr e]at h;cases h
theorem Rel.layR{K:Kx}{c:Al}{m:MSt}{σ:St}{H:Hp}{B:Addr}{g:Nat->HO}(R:Rel K c m σ H)(fr:∀j,H (B+j)=none):∀n,Rel K c m σ (updR H B g n)
 |0=>R
 |n+1=>(Rel.layR R fr n).lay (by rw[iK λj h z=>abx h (agt z)];exact fr n)
theorem Dm{c:Al}{H:Hp}(fr:∀j,H (B+j)=none)(n:Nat):Frm c H (updR H B g n):=λb o e _=>dg fr e
abbrev FJ(w:WE):WE:=λm K=>w m λr c=>∃kvs,dcM c kvs r/\(isKd kvs=true\/kyA kvs=true)/\srtR (fZ kvs) λd=>K (.new d) c
theorem CG{w:WE}(t:X.A.units+64<cLine)(D:X.mg "sorted" = none)(K:ME X o w)(J:X.calm=true:=by rfl)(N:Gl X "sorted":=by rfl)(h:abQ o "items" X.env (eval o X.env)=eval o X.env:=by rfl)(c:(apos.endLine==cpos.line)=true:=by rfl)
  (l:aag [.Call (.Attribute o "items" apos) [] [] cpos] X.env=[(false,eval (.Call (.Attribute o "items" apos) [] [] cpos) X.env)]:=by rfl):ME X (.Call (.Name "sorted" p0) [.Call (.Attribute o "items" apos) [] [] cpos] [] pos) (FJ w):=(Cf J t N D K h c l).wk<|by
 intro σ H Q ⟨P,m,T,I,G,f⟩;refine⟨P,m,_,I,G,λr u v S k n R rr F=>?_⟩;let⟨kvs,dk,hk,C,k⟩:=k;let⟨a,rfl,dc⟩:=rr.dc R dk hk;let⟨es,dc,y⟩:=dc.dcr;refine⟨a,es,kvs,rfl,dc,y,C,λp B g q L A O z fr e d=>?_⟩;have M:=Rel.layR (g:=g) R fr q;have E:=F.trans (Dm (g:=g) fr q);exact f _ u _ _ (k p O z) n (M.lay e) (RelR.base R F (⟨L,A,rfl,AV fr e,av,d⟩)) (E.trans (cn e))
theorem AQ{w:WE}(f:X.A.units+64<cLine)(e:X.mg "sorted" = none)(m:EE X o w)(l:X.calm=true:=by rfl)(k:Gl X "sorted":=by rfl)(c:abQ o "items" X.env (eval o X.env)=eval o X.env:=by rfl)(h:(apos.endLine==cpos.line)=true:=by rfl)
  (d:aag [.Call (.Attribute o "items" apos) [] [] cpos] X.env=[(false,eval (.Call (.Attribute o "items" apos) [] [] cpos) X.env)]:=by rfl):EE X (.Call (.Name "sorted" p0) [.Call (.Attribute o "items" apos) [] [] cpos] [] pos) (FJ w):=⟨CG f e m.h l k c h d⟩
end
end L2
namespace L2
open PySem PySem.Spec PyProof.Rows
section
variable {X:Cx}{i:Nat}{x:Str}{e:Expr}{w:WE}{op:aeO}{p pos:Pos}{f:Int->Int->Int}
def DU(X:Cx)(op:aeO)(f:Int->Int->Int):Prop:=PIp X op λx y H Q=>∃i j,x = .int i/\y = .int j/\Q (.int (f i j)) H
def FC:DU X .Add (· + ·):=QP
def NG:DU X .Sub (· - ·):=LG
def wAug(i:Nat)(w:WE)(f:Int->Int->Int):WS:=λD m=>∃a:Int,m.vs[i]?=some (some (.imm (.int a)))/\w m λr c=>∃b:Int,r = .imm (.int b)/\D.nx (c.setV i (.imm (.int (f a b))))
theorem MZ(l:X.N.Nodup)(u:X.N[i]?=some x)(z:ME X e w)(h:DU X op f)(g:X.env.scope.names.lookup x=some .local:=by rfl):MS X (.AugAssign (.Name x p) op e pos) (wAug i w f):=(Mx l u (.inl g) z h (.inr g)).wk<|by
 intro D I H ⟨j,m,G,d,⟨a,s,o⟩,k⟩;let⟨v,A,B⟩:=d.var i _ s;have t:=B;refine⟨v,A,j,m,_,d,o,λr J y c ⟨b,E,q⟩ n R rr F=>?_⟩;subst E;have C:=rr;have R2:=cu (i:=i) (r:=.imm (.int (f a b))) R (show Den X.kx.toKd c (.int (f a b)) (.int (f a b)) by simp only[Den]);exact⟨a,b,t,C,k.nx j _ _ c q n R2 (.of R2 F)⟩
theorem tj(i:Nat)(a:X.N.Nodup)(d:EE X e w)(h:DU X op f)(c:X.N[i]?=some x:=by rfl)(b:X.env.scope.names.lookup x=some .local:=by rfl):ES X (.AugAssign (.Name x p) op e pos) (wAug i w f):=⟨MZ a c d.h h b⟩
def IL{D:fG}{m:MSt}(a:Int)(c:m.vs[i]?=some (some (.imm (.int a))))(h:w m λr d=>∃b:Int,r = .imm (.int b)/\D.nx (d.setV i (.imm (.int (f a b))))):wAug i w f D m:=⟨a,c,h⟩
end
end L2
namespace K
open PySem L2 M7 M8
variable{h:Hall}{L:List (Pk×Int)}{a:Pk}{r1 r2:Rule}{t:Tr}{α:Type}
def alk(h:Hall):Bool:=(h.ss.map Srv.d).all λd=>aai d ((h.ss.map Srv.d).getD 0 .none)
def cW(h:Hall)(l:List Nat):List Nat:=if alk h=true then srt l else l
def v6(h:Hall)(l:List Nat):(cW h l).Perm l:=by
 unfold cW;split
 .exact jV l
 .exact .refl _
def rZ(h:Hall)(l:List Nat):cW h (cW h l)=cW h l:=by
 unfold cW;split
 .exact Lq (o3 l)
 .rfl
theorem ym(a:alk h=true){s t:Srv}(c:s∈h.ss)(d:t∈h.ss):s.r=t.r:=by
 have one:∀s∈h.ss,aai s.d ((h.ss.map Srv.d).getD 0 .none)=true:=λs c=>abr.mp a _ (aal.mpr ⟨s,c,rfl⟩);let⟨s0,ss,e⟩:∃s0 ss,h.ss=s0::ss:=by
  cases e:h.ss with
  |nil=>rw[e]at c;cases c
  |cons a b=>exact⟨a,b,rfl⟩
 have key:∀s∈h.ss,s.r=s0.r:=λs c=>by
  have:=one s c;rw[e]at this;have q:(aai (.tuple [.int s.a,.int s.b]) (.tuple [.int s0.a,.int s0.b])&&(aai (.int (s.r:Int)) (.int (s0.r:Int))&&true))=true:=this;simp only[adK,aaS]at q;rw[ce]at q;exact of_decide_eq_true q.2
 rw[key s c,key t d]
theorem lW{l:List Nat}(L:Lines h l):Lines h (cW h l):=by
 unfold cW;split
 .rename_i a;have p:=(jV l);refine⟨p.length_eq.trans L.1,λi s x f e=>?_⟩;have d:=p.mem_iff.mp (Io e);let⟨j,c⟩:∃j,l[j]?=some _:=acL d;have b:j<h.ss.length:=by rw[<-L.1];exact(AD.mp c).1
  have:=L.2 j _ x (iO b) c;rw[ym a (Io f) (acf b)];exact this
 .exact L
theorem uz{l:List Nat}{ns:List Int}(f:ns.Perm (l.map λ(k:Nat)=>(k:Int)))(j:ns.Pairwise (· ≥ ·)):ns=(srt l).map λ(k:Nat)=>(k:Int):=by
 have d:∀x∈ns,((x.toNat:Nat):Int)=x:=λx c=>by
  let⟨k,_,rfl⟩:=aal.mp (f.mem_iff.mp c);rfl
 have i:(ns.map ago).map (λ(k:Nat)=>(k:Int))=ns:=by
  rw[aa4]
  conv=>rhs;rw[<-agd ns]
  exact abM λx c=>d x c
 have p:(ns.map ago).Perm l:=by
  have:=f.map ago;rw[aa4]at this;have g:(l.map (ago∘λ(k:Nat)=>(k:Int)))=l:=by
   (conv=>rhs;rw[<-agd l])
   exact abM λx _=>rfl
  rwa[g]at this
 have n:Fall (ns.map ago):=by
  unfold Fall;rw[List.pairwise_map];refine j.imp_of_mem λ{a b} m o e=>?_;have:=d a m;have:=d b o;show b.toNat≤a.toNat;have:b≤a:=e;omega
 rw[uB n p,i]
def sI(l:List Nat):natD l=(l.map λ(k:Nat)=>(k:Int)).map .int:=by unfold natD;rw[aa4];rfl
def kst(h:Hall)(r:Rule)(l:List Nat)(m:Mv):List Nat×Wd:=(cW h (gJ h r l 0 m).1,(gJ h r l 0 m).2.2)
def aw(w:Wd):Int:=if w = .away then 1 else 0
abbrev Tr:=List Nat×List Nat×Int
def bth(h:Hall)(r1 r2:Rule)(t:Tr)(m:Mv):Tr:=((kst h r1 t.1 m).1,(kst h r2 t.2.1 m).1,t.2.2+aw (kst h r2 t.2.1 m).2-aw (kst h r1 t.1 m).2)
def bad(t:Tr):Bool:=decide (t.2.2<0)||decide (((t.2.1.sum:Nat):Int)+t.2.2<((t.1.sum:Nat):Int))
def mvs(h:Hall):List Mv:=(ordK h.ss.length h.ss.length).map Mv.come++(aat h.ss.length).map Mv.done++[.still]
def nu(b:h.Ok):∀m∈mvs h,m.Ok h:=λm e=>by
 rcases aaU.mp e with q|q
 .obtain q|q:=aaU.mp q
  .obtain⟨o,ho',rfl⟩:=aal.mp q;let⟨c,f,d⟩:=DE _ b.n4 b.n1 o ho';exact⟨c,d,f⟩
  .obtain⟨k,hk,rfl⟩:=aal.mp q;exact ack.mp hk
 .rw[aah.mp q];exact trivial
inductive RcT(h:Hall)(r1 r2:Rule):Tr->Prop
 |here:RcT h r1 r2 (zer h,zer h,0)
 |next {t:Tr}{m:Mv}:RcT h r1 r2 t->m∈mvs h->RcT h r1 r2 (bth h r1 r2 t m)
structure Nvr(h:Hall)(r1 r2:Rule)(P:List Tr):Prop where
 b0:(zer h,zer h,0)∈P
 nb:∀t∈P,bad t=false
 cl:∀t∈P,∀m∈mvs h,∃u∈P,u.1=(bth h r1 r2 t m).1/\u.2.1=(bth h r1 r2 t m).2.1/\u.2.2≤(bth h r1 r2 t m).2.2
def trD(t:Tr):aD:=.tuple [lnD t.1,lnD t.2.1,.int t.2.2]
structure TrOk(h:Hall)(t:Tr):Prop where
 x:Lines h t.1
 y:Lines h t.2.1
 kx:cW h t.1=t.1
 ky:cW h t.2.1=t.2.1
 d0:0≤t.2.2
 d1:t.2.2<10^15
abbrev Pk:=List Nat×List Nat
def pkD(p:Pk):aD:=.tuple [lnD p.1,lnD p.2]
def ldD(L:List (Pk×Int)):List (aD×aD):=L.map λq=>(pkD q.1,.int q.2)
def kU(a b:List Nat):aai (lnD a) (lnD b)=decide (a=b):=by
 have:=Qx (a,0) (b,0);have e:aai (ptD (a,0)) (ptD (b,0))=aai (lnD a) (lnD b):=by
  show(aai (lnD a) (lnD b)&&(aai (.int 0) (.int 0)&&true))=_;rw[show aai (.int 0) (.int 0)=true from rfl,Bool.true_and,adK]
 rw[<-e,this];simp
def Gc(p q:Pk):aai (pkD p) (pkD q)=decide (p=q):=by
 show(aai (lnD p.1) (lnD q.1)&&(aai (lnD p.2) (lnD q.2)&&true))=_;rw[kU,kU,adK,abI];simp[Prod.ext_iff]
def setL(a:Pk)(v:Int):List (Pk×Int)->List (Pk×Int)
 |[]=>[(a,v)]
 |q::L=>if q.1=a then(q.1,v)::L else q::setL a v L
theorem FX(a:Pk)(v:Int):∀L:List (Pk×Int),putP (pkD a) (.int v) (ldD L)=ldD (setL a v L)
 |[]=>rfl
 |q::L=>by
  show(if aai (pkD q.1) (pkD a)=true then _ else _::putP (pkD a) (.int v) (ldD L))=ldD (if q.1=a then(q.1,v)::L else q::setL a v L);rw[Gc]
  by_cases e:q.1=a
  .rw[if_pos (decide_eq_true e),if_pos e];rfl
  .rw[if_neg (by rw[decide_eq_false e];exact aaq),if_neg e,FX a v L];rfl
theorem iJ{a:Pk}{v:Int}:∀{L:List (Pk×Int)}{p:Pk×Int},p∈setL a v L->p=(a,v)\/p∈L
 |[],p,h=>.inl (aah.mp h)
 | q::L,p,h=>by
  unfold setL at h
  split at h
  .rename_i e;rcases aak.mp h with z|z
   .rw[z,e];exact .inl rfl
   .exact .inr (aad _ z)
  .rcases aak.mp h with z|z
   .rw[z];exact .inr aac
   .exact(iJ z).imp id λy=>aad _ y
theorem Ll{p:Pk}(f:h.Ok)(b:Lines h p.1)(c:Lines h p.2):kyD (pkD p)=true:=by
 have n:∀l:List Nat,hkA (natD l)=true:=λl=>by
  induction l with
  |nil=>rfl
  |cons x l i=>show(hkD _&&hkA (natD l))=true;rw[i];rfl
 have s:=bw (k:=1) (ds:=[lnD p.1,lnD p.2]) λd hd=>by
  rcases aak.mp hd with e|e
  .rw[e];exact bw (b6 _)
  .rw[aah.mp e];exact bw (b6 _)
 have hk:hkD (pkD p)=true:=by
  show(hkD (lnD p.1)&&(hkD (lnD p.2)&&true))=true;rw[show hkD (lnD p.1)=true from n p.1,show hkD (lnD p.2)=true from n p.2];rfl
 unfold kyD;rw[hk,show(pkD p).canLay0=true from s.cl,decide_eq_true (show(pkD p).depth≤7 from aaD s.dp (by decide))];rfl
def LQ(c:h.Ok)(X:∀p∈L,Lines h p.1.1/\Lines h p.1.2):kyA (ldD L)=true:=by
 unfold kyA ldD;rw[aea,abr];exact λp b=>Ll c (X p b).1 (X p b).2
def iY:cW h (zer h)=zer h:=List.perm_replicate.mp (v6 h (zer h))
def lkL(a:Pk):List (Pk×Int)->Option Int
 |[]=>none
 |q::L=>if q.1=a then some q.2 else lkL a L
theorem Ku(a:Pk):∀L:List (Pk×Int),dF (pkD a) (ldD L)=(lkL a L).map .int
 |[]=>rfl
 |q::L=>by
  show(if aai (pkD q.1) (pkD a)=true then some (abq q.2)else dF (pkD a) (ldD L))=(if q.1=a then some q.2 else lkL a L).map .int;rw[Gc]
  by_cases e:q.1=a
  .rw[if_pos (decide_eq_true e),if_pos e];rfl
  .rw[if_neg (by rw[decide_eq_false e];exact aaq),if_neg e];exact Ku a L
def smL(L:List (Pk×Int)):Nat:=(L.map λq=>q.2.toNat).sum
theorem rc{a:Pk}{v:Int}:∀{L:List (Pk×Int)},lkL a L=none->setL a v L=L++[(a,v)]
 |[],_=>rfl
 |q::L,h=>by
  unfold lkL at h;unfold setL
  split at h
  .cases h
  .rename_i e;rw[if_neg e,rc h];rfl
theorem qv{a:Pk}{v w:Int}:∀{L:List (Pk×Int)},lkL a L=some w->smL (setL a v L)+w.toNat=smL L+v.toNat/\(setL a v L).length=L.length/\(setL a v L).map (·.1)=L.map (·.1)
 |q::L,h=>by
  unfold lkL at h;unfold setL
  split at h
  .rename_i e;cases h;rw[if_pos e];refine⟨?_,rfl,rfl⟩;simp only[smL,aan,ac8];omega
  .rename_i e;let⟨b,d,c⟩:=qv (v:=v) h;rw[if_neg e];refine⟨?_,by simp[d],by simp[c]⟩;simp only[smL,aan,ac8]at b⊢;omega
theorem Fh{a:Pk}:∀{L:List (Pk×Int)},lkL a L=none->a∉L.map (·.1)
 |[],_,h=>by cases h
 | q::L,e,h=>by
  unfold lkL at e
  split at e
  .cases e
  .rename_i n;rcases aak.mp h with z|z
   .exact n z.symm
   .exact Fh e z
theorem t9{a:Pk}{w:Int}:∀{L:List (Pk×Int)},lkL a L=some w->(a,w)∈L
 |q::L,e=>by
  unfold lkL at e
  split at e
  .rename_i n;cases e;rw[<-n];exact aac
  .exact aad _ (t9 e)
structure DkOk(h:Hall)(L:List (Pk×Int)):Prop where
 nd:(L.map (·.1)).Nodup
 ln:∀p∈L,Lines h p.1.1/\Lines h p.1.2
 nn:∀p∈L,0≤p.2
 kp:∀p∈L,cW h p.1.1=p.1.1/\cW h p.1.2=p.1.2
def nP(h:Hall):Nat:=(M3.allR h.rs).length*(M3.allR h.rs).length
theorem DkOk.len(D:DkOk h L):L.length≤nP h:=by
 have:=kg D.nd (m:=(M3.allR h.rs).flatMap λl=>(M3.allR h.rs).map λk=>(l,k)) λy d=>by
  let⟨p,c,rfl⟩:=aal.mp d;exact ace.mpr ⟨p.1.1,jW (D.ln p c).1.fits,aal.mpr ⟨p.1.2,jW (D.ln p c).2.fits,rfl⟩⟩
 rw[lD]at this;refine aaD this (aeE ?_);unfold nP;generalize M3.allR h.rs=A;have:∀B:List (List Nat),(B.flatMap λl=>A.map λk=>(l,k)).length=B.length*A.length:=λB=>by
  induction B with
  |nil=>simp
  |cons b B i=>rw[List.flatMap_cons,aam,i,lD,aaw,aeH,Nat.add_comm]
 exact this A
def pot(h:Hall)(M:Nat)(L:List (Pk×Int)):Nat:=smL L+(nP h-L.length)*(M+2)
theorem DkOk.put{M:Nat}{v:Int}(D:DkOk h L)(l:Lines h a.1)(n:Lines h a.2)(o:cW h a.1=a.1/\cW h a.2=a.2)(d:0≤v)(C:v≤(M:Int)+1)(j:v<(lkL a L).getD (v+1)):DkOk h (setL a v L)/\pot h M (setL a v L)+1≤pot h M L/\((setL a v L).length=L.length->∃w,(a,w)∈L/\v<w)/\L.length≤(setL a v L).length:=by
 cases e:lkL a L with
 | none=>
  have s:=rc (v:=v) e;have i:DkOk h (L++[(a,v)]):=by
   refine⟨?_,λp b=>?_,λp b=>?_,λp b=>?_⟩
   .rw[aaH];exact acK.mpr ⟨D.nd,acV _ _,λx f y q z=>Fh e (by have:=z.trans (aah.mp q);rw[show x=a from this]at f;exact f)⟩
   .rcases aaU.mp b with z|z
    .exact D.ln p z
    .rw[aah.mp z];exact⟨l,n⟩
   .rcases aaU.mp b with z|z
    .exact D.nn p z
    .rw[aah.mp z];exact d
   .rcases aaU.mp b with z|z
    .exact D.kp p z
    .rw[aah.mp z];exact o
  have le:=i.len;rw[s];refine⟨i,?_,λz=>?_,by simp⟩
  .rw[aam]at le;have A:L.length+1≤nP h:=le;unfold pot;rw[aam,show smL (L++[(a,v)])=smL L+v.toNat by simp[smL]];let⟨k,hk⟩:∃k,nP h=L.length+1+k:=⟨nP h-(L.length+1),by omega⟩;rw[hk,show L.length+1+k-(L.length+[(a,v)].length)=k by simp,show L.length+1+k-L.length=k+1 by omega,aeH];omega
  .simp at z
 | some w=>
  rw[e]at j;have c:v<w:=j;let⟨B,g,r⟩:=qv (v:=v) e;have m:=t9 e;have u:=D.nn _ m;refine⟨⟨by rw[r];exact D.nd,λp b=>?_,λp b=>?_,λp b=>?_⟩,?_,λ_=>⟨w,m,c⟩,aeE g.symm⟩
  .rcases iJ b with z|z
   .rw[z];exact⟨l,n⟩
   .exact D.ln p z
  .rcases iJ b with z|z
   .rw[z];exact d
   .exact D.nn p z
  .rcases iJ b with z|z
   .rw[z];exact o
   .exact D.kp p z
  .unfold pot;rw[g];dsimp only at u;omega
def jZ(b:h.Ok)(d:r1.Ok h)(c:r2.Ok h)(n1:r1≠.turns)(n2:r2≠.turns){m:Mv}(R:Lines h t.1/\Lines h t.2.1)(e:m∈mvs h):Lines h (bth h r1 r2 t m).1/\Lines h (bth h r1 r2 t m).2.1:=by
 have o:=nu b _ e;exact⟨lW (iL b d (t:=0) ⟨R.1,λz=>(n1 z).elim,by decide⟩ o).ln,lW (iL b c (t:=0) ⟨R.2,λz=>(n2 z).elim,by decide⟩ o).ln⟩
theorem iM(d:h.Ok)(c:r1.Ok h)(b:r2.Ok h)(n1:r1≠.turns)(n2:r2≠.turns)(R:RcT h r1 r2 t):Lines h t.1/\Lines h t.2.1:=by
 induction R with
 |here=>exact⟨(gF d r1).ln,(gF d r1).ln⟩
 |next _ e i=>exact jZ d c b n1 n2 i e
def N9{m:Mv}:(bth h r1 r2 t m).2.2≤t.2.2+1:=by
 unfold bth aw;dsimp only
 split<;>split<;>omega
def Ot(b:bad t=false):0≤t.2.2:=by
 unfold bad at b;simp at b;exact b.1
def ldT(L:List (Pk×Int)):List Tr:=L.map λp=>(p.1.1,p.1.2,p.2)
def Ol(D:DkOk h L)(V:∀p∈L,p.2≤1000000):∀t∈ldT L,TrOk h t:=λt c=>by
 let⟨p,b,rfl⟩:=aal.mp c;have v:=V p b;exact⟨(D.ln p b).1,(D.ln p b).2,(D.kp p b).1,(D.kp p b).2,D.nn p b,show p.2<10^15 by omega⟩
theorem D9:∀{L:List (Pk×Int)},(L.map (·.1)).Nodup->∀p∈L,lkL p.1 L=some p.2
 |q::L,nd,p,b=>by
  rw[aan,abd]at nd;unfold lkL;rcases aak.mp b with rfl|b
  .rw[if_pos rfl]
  .rw[if_neg λz=>nd.1 (by rw[z];exact aal.mpr ⟨p,b,rfl⟩)];exact D9 nd.2 p b
def stT(h:Hall):Tr:=(zer h,zer h,0)
def wlk(h:Hall)(r1 r2:Rule)(R:List Mv):Tr:=R.foldl (bth h r1 r2) (stT h)
def RunK(h:Hall)(R:List Mv):Prop:=∀m∈R,m∈mvs h
section
variable {h:Hall}{r1 r2:Rule}{R:List Mv}{m:Mv}{t u:Tr}{L:List (Pk×Int)}
def gj:wlk h r1 r2 (R++[m])=bth h r1 r2 (wlk h r1 r2 R) m:=by unfold wlk;rw[agZ];rfl
def RunK.snoc(k:RunK h R)(c:m∈mvs h):RunK h (R++[m]):=λx b=>by
 rcases aaU.mp b with z|z
 .exact k x z
 .rwa[aah.mp z]
def RunK.cut(k:RunK h (R++[m])):RunK h R/\m∈mvs h:=⟨λx b=>k x (aaZ _ b),k m (aaz _ aac)⟩
structure LeT(u t:Tr):Prop where
 x:u.1=t.1
 y:u.2.1=t.2.1
 d:u.2.2≤t.2.2
def LeT.refl(t:Tr):LeT t t:=⟨rfl,rfl,Int.le_refl _⟩
def LeT.trans{v:Tr}(a:LeT u t)(b:LeT t v):LeT u v:=⟨a.x.trans b.x,a.y.trans b.y,aeK a.d b.d⟩
theorem LeT.bth(a:LeT u t):LeT (bth h r1 r2 u m) (bth h r1 r2 t m):=by
 unfold K.bth;have:=a.d;refine⟨by rw[a.x],by rw[a.y],?_⟩;dsimp only;rw[a.x,a.y];omega
def LeT.good(a:LeT u t)(b:bad u=false):bad t=false:=by
 have:=a.d;unfold bad at b⊢;rw[a.x,a.y]at b;simp only[aep,decide_eq_false_iff_not]at b⊢;omega
def vE:bad (stT h)=false:=by
 unfold bad stT;simp
def Cv(L:List (Pk×Int))(t:Tr):Prop:=∃p∈L,LeT (p.1.1,p.1.2,p.2) t
theorem oo{a:Pk}{v:Int}:∀L:List (Pk×Int),(a,v)∈setL a v L
 |[]=>aac
 |q::L=>by
  unfold setL;split
  .rename_i e;rw[<-e];exact aac
  .exact aad _ (oo L)
theorem si{a:Pk}{v:Int}{p:Pk×Int}(n:p.1≠a):∀{L:List (Pk×Int)},p∈L->p∈setL a v L
 | q::L,b=>by
  unfold setL;rcases aak.mp b with rfl|b
  .rw[if_neg n];exact aac
  .split
   .exact aad _ b
   .exact aad _ (si n b)
def Cv.set{v:Int}(c:Cv L t)(D:DkOk h L)(f:v<(lkL a L).getD (v+1)):Cv (setL a v L) t:=by
 let⟨p,g,b⟩:=c
 by_cases e:p.1=a
 .have el:=D9 D.nd p g;rw[e]at el;rw[el]at f;have f:v<p.2:=f;refine⟨(a,v),oo L,?_⟩;have d:p.2≤t.2.2:=b.d;subst e;exact⟨b.x,b.y,show v≤t.2.2 by omega⟩
 .exact⟨p,si e g,b⟩
def UC{w:Int}(e:lkL a L=some w)(b:w≤t.2.2)(c:a=(t.1,t.2.1)):Cv L t:=⟨_,t9 e,by subst c;exact⟨rfl,rfl,b⟩⟩
def Min(h:Hall)(r1 r2:Rule)(n:Nat):Prop:=∀R,RunK h R->R.length<n->bad (wlk h r1 r2 R)=false
def K7(h:Hall)(r1 r2:Rule):Prop:=∀R,RunK h R->bad (wlk h r1 r2 R)=false
theorem vv(k:RunK h R):RcT h r1 r2 (wlk h r1 r2 R):=by
 have go:∀(R:List Mv) (t:Tr),RunK h R->RcT h r1 r2 t->RcT h r1 r2 (R.foldl (bth h r1 r2) t):=λR=>by
  induction R with
  |nil=>exact λt _ q=>q
  |cons m R i=>exact λt k q=>i _ (λx b=>k x (aad _ b)) (.next q (k m aac))
 exact go R _ k .here
theorem Bw(R:List Mv):cW h (wlk h r1 r2 R).1=(wlk h r1 r2 R).1/\cW h (wlk h r1 r2 R).2.1=(wlk h r1 r2 R).2.1:=by
 have go:∀(R:List Mv) (t:Tr),cW h t.1=t.1/\cW h t.2.1=t.2.1->cW h (R.foldl (bth h r1 r2) t).1=(R.foldl (bth h r1 r2) t).1/\cW h (R.foldl (bth h r1 r2) t).2.1=(R.foldl (bth h r1 r2) t).2.1:=λR=>by
  induction R with
  |nil=>exact λt q=>q
  |cons m R i=>exact λt q=>i _ ⟨rZ h _,rZ h _⟩
 exact go R _ ⟨iY,iY⟩
theorem Gz:∀{R:List α},R≠[]->∃b m,R=b++[m]:=λ{R} h=>⟨R.dropLast,R.getLast h,(List.dropLast_concat_getLast h).symm⟩
end
abbrev Wy:=Option (Nat×Mv)
def CvD(T:List Tr)(P:List (List Mv))(d:Nat)(u:Tr):Prop:=∃(j:Nat) (p:List Mv) (t:Tr),P[j]?=some p/\T[j]?=some t/\p.length≤d/\LeT t u
def da{l m:List α}{x:α}{k:Nat}(e:l[k]?=some x):(l++m)[k]?=some x:=by rw[aaE (AD.mp e).1];exact e
section
variable {h:Hall}{r1 r2:Rule}{L L':List (Pk×Int)}{T:List Tr}{Y:List Wy}{P:List (List Mv)}{C i j:Nat}{m:Mv}{p:List Mv}{t u:Tr}
theorem CvD.le{d d':Nat}(c:CvD T P d u)(hd:d≤d')(a:LeT u t):CvD T P d' t:=let ⟨j,p,x,e1,e2,e3,b⟩:=c;⟨j,p,x,e1,e2,aaD e3 hd,b.trans a⟩
theorem CvD.snoc{d:Nat}{x:Tr}{y:List Mv}(c:CvD T P d u):CvD (T++[x]) (P++[y]) d u:=let ⟨j,p,t,e1,e2,e3,b⟩:=c;⟨j,p,t,da e1,da e2,e3,b⟩
structure Qv(h:Hall)(r1 r2:Rule)(C:Nat)(L:List (Pk×Int))(T:List Tr)(Y:List Wy)(P:List (List Mv))(i j:Nat):Prop where
 dk:DkOk h L
 lt:T.length=P.length
 ly:Y.length=P.length
 tr:∀(k:Nat) (p:List Mv),P[k]?=some p->RunK h p/\T[k]?=some (wlk h r1 r2 p)
 wy:∀(k:Nat) (p:List Mv),P[k]?=some p->(p=[]/\Y[k]?=some none)\/∃(a:Nat) (m:Mv) (q:List Mv),a<k/\P[a]?=some q/\p=q++[m]/\Y[k]?=some (some (a,m))
 mo:∀(k l:Nat) (p q:List Mv),P[k]?=some p->P[l]?=some q->k≤l->p.length≤q.length
 cv:∀t∈T,Cv L t
 dl:∀x∈L,(x.1.1,x.1.2,x.2)∈T
 gd:∀t∈T,bad t=false
 p0:P[0]?=some []
 vt:∀t∈T,t.2.2≤(L.length:Int)
 pt:T.length+pot h (nP h) L≤C
 ex:∀(k:Nat) (p:List Mv) (m:Mv),k<i->P[k]?=some p->m∈mvs h->bad (wlk h r1 r2 (p++[m]))=false/\CvD T P (p.length+1) (wlk h r1 r2 (p++[m]))
 ej:∀(k:Nat) (p:List Mv) (m:Mv),k<j->P[i]?=some p->(mvs h)[k]?=some m->bad (wlk h r1 r2 (p++[m]))=false/\CvD T P (p.length+1) (wlk h r1 r2 (p++[m]))
 dp:∀(k:Nat) (p q:List Mv),P[i]?=some p->P[k]?=some q->q.length≤p.length+1
theorem Qv.zero(g:h.Ok):Qv h r1 r2 (1+pot h (nP h) [((zer h,zer h),0)]) [((zer h,zer h),0)] [stT h] [none] [[]] 0 0:=by
 have one:∀{α:Type}{x y:α}{k:Nat},[x][k]?=some y->y=x/\k=0:=λ{α x y k} e=>by
  cases k with
  |zero=>cases e;exact⟨rfl,rfl⟩
  |succ k=>simp at e
 exact {
  dk:=⟨acV _ _,λp b=>by rw[aah.mp b];exact⟨(gF g r1).ln,(gF g r1).ln⟩,λp b=>by rw[aah.mp b];exact Int.le_refl _,λp b=>by rw[aah.mp b];exact⟨iY,iY⟩⟩
  lt:=rfl
  ly:=rfl
  tr:=λk p e=>by let⟨rfl,rfl⟩:=one e;exact⟨(λ_ z=>(by cases z)),rfl⟩
  wy:=λk p e=>by let⟨rfl,rfl⟩:=one e;exact .inl ⟨rfl,rfl⟩
  mo:=λk l p q f d _=>by let⟨rfl,_⟩:=one f;exact abF _
  cv:=λt c=>⟨_,aac,by rw[aah.mp c];exact .refl _⟩
  dl:=λx n=>by rw[aah.mp n];exact aac
  gd:=λt c=>by rw[aah.mp c];exact vE
  p0:=rfl
  vt:=λt c=>by rw[aah.mp c];exact(by decide:(0:Int)≤1)
  pt:=aab _
  ex:=λk p m z=>(by cases z)
  ej:=λk p m z=>(by cases z)
  dp:=λk p q f d=>by let⟨rfl,_⟩:=one d;exact abF _}
def Qv.here(X:Qv h r1 r2 C L T Y P i j)(b:T[i]?=some t):∃p,P[i]?=some p/\RunK h p/\t=wlk h r1 r2 p:=by
 have d:i<P.length:=by rw[<-X.lt];exact(AD.mp b).1
 have c:=iO d;let⟨k,e⟩:=X.tr i _ c;rw[b]at e;exact⟨_,c,k,aaB e⟩
theorem Qv.runs(X:Qv h r1 r2 C L T Y P i j){N:Nat}(f:∀k q,P[k]?=some q->q.length<N->k<i):∀n R,R.length=n->n≤N->RunK h R->bad (wlk h r1 r2 R)=false/\CvD T P n (wlk h r1 r2 R)
 |0,R,l,_,_=>by
  rw[abj l];exact⟨vE,0,[],_,X.p0,(X.tr 0 [] X.p0).2,aab _,.refl _⟩
 |n+1,R,l,hn,k=>by
  let⟨d,m,rfl⟩:=Gz (R:=R) (λz=>by rw[z]at l;cases l);let⟨o,r⟩:=k.cut;let⟨_,a,q,t,e,s,v,b⟩:=X.runs f n d (by simpa using l) (by omega) o;let⟨x,y⟩:=X.ex a q m (f a q e (by omega)) e r;have g:=(X.tr a q e).2;rw[s]at g;cases g;have c:LeT (wlk h r1 r2 (q++[m])) (wlk h r1 r2 (d++[m])):=by rw[gj,gj];exact b.bth
  exact⟨c.good x,y.le (by omega) c⟩
def Qv.min(X:Qv h r1 r2 C L T Y P i j)(b:P[i]?=some p):Min h r1 r2 (p.length+1):=λR k l=>(X.runs (N:=p.length) (λk q e z=>by
 rcases Nat.lt_or_ge k i with y|y
 .exact y
 .have:=X.mo i k p q b e y;omega) _ R rfl (by omega) k).1
def Qv.done(X:Qv h r1 r2 C L T Y P i j)(b:T.length≤i){R:List Mv}(k:RunK h R):bad (wlk h r1 r2 R)=false/\CvD T P R.length (wlk h r1 r2 R):=X.runs (N:=R.length) (λk q e _=>by
 have:=(AD.mp e).1;have:=X.lt;omega) _ R rfl (aab _) k
def Qv.next(X:Qv h r1 r2 C L T Y P i (mvs h).length):Qv h r1 r2 C L T Y P (i+1) 0:={X with
 ex:=λk p m hk e b=>by
  by_cases z:k<i
  .exact X.ex k p m z e b
  .have:k=i:=by omega
   subst this;let⟨n,c⟩:=acL b;exact X.ej n p m (AD.mp c).1 e c
 ej:=λ_ _ _ z=>(by cases z)
 dp:=λk p q d g=>by
  have l:i<P.length:=by have:=(AD.mp d).1;omega
  have f:=iO l;have:=X.dp k _ q f g;have:=X.mo i (i+1) _ p f d (by omega);omega}
theorem Qv.old(X:Qv h r1 r2 C L T Y P i j)(n:P[i]?=some p)(r:(mvs h)[j]?=some m)(b:bad (wlk h r1 r2 (p++[m]))=false)(c:Cv L (wlk h r1 r2 (p++[m]))):Qv h r1 r2 C L T Y P i (j+1):={X with
 ej:=λk s o hk e d=>by
  by_cases z:k<j
  .exact X.ej k s o z e d
  .have:k=j:=by omega
   subst this;rw[n]at e;rw[r]at d
   cases e;cases d
   let⟨x,q,a⟩:=c;let⟨l,f⟩:=acL (X.dl x q);have g:l<P.length:=by rw[<-X.lt];exact(AD.mp f).1
   exact⟨b,l,_,_,iO g,f,X.dp l p _ n (iO g),a⟩}
def db{l:List α}{x y:α}{k:Nat}(e:(l++[x])[k]?=some y):l[k]?=some y\/(k=l.length/\y=x):=by
 rw[List.getElem?_append]at e
 split at e
 .exact .inl e
 .have hk:=(AD.mp e).1;simp at hk;have:k=l.length:=by omega
  subst this;simp at e;exact .inr ⟨rfl,e.symm⟩
def p9{l:List α}{x:α}:(l++[x])[l.length]?=some x:=by simp
theorem Qv.new(X:Qv h r1 r2 C L T Y P i j)(R:h.Ok)(F:r1.Ok h)(y:r2.Ok h)(n1:r1≠.turns)(n2:r2≠.turns)(f:P[i]?=some p)(G:(mvs h)[j]?=some m)(r:u=wlk h r1 r2 (p++[m]))(b:bad u=false)(H:u.2.2<(lkL (u.1,u.2.1) L).getD (u.2.2+1)):Qv h r1 r2 C (setL (u.1,u.2.1) u.2.2 L) (T++[u]) (Y++[some (i,m)]) (P++[p++[m]]) i (j+1):=by
 have N:=Io G;let⟨kp,Q⟩:=X.tr i p f;have kr:=kp.snoc N;have v:=iM R F y n1 n2 (vv (r1:=r1) (r2:=r2) kr);have K:=Bw (h:=h) (r1:=r1) (r2:=r2) (p++[m]);rw[<-r]at v K;have J:=Ot b;have S:u.2.2≤(L.length:Int)+1:=by
  rw[r,gj];exact aeK N9 (Int.add_le_add_right (X.vt _ (Io Q)) 1)
 have U:=X.dk.len;let⟨D,pt,q,le⟩:=X.dk.put (M:=nP h) (a:=(u.1,u.2.1)) v.1 v.2 K J (by omega) H;have I:u.2.2≤((setL (u.1,u.2.1) u.2.2 L).length:Int):=by
  by_cases e:(setL (u.1,u.2.1) u.2.2 L).length=L.length
  .obtain⟨w,hw,vw⟩:=q e;have:=X.vt _ (X.dl _ hw);dsimp only at this;omega
  .omega
 have O:i<P.length:=(AD.mp f).1;exact {
  dk:=D
  lt:=by rw[aam,aam,X.lt];rfl
  ly:=by rw[aam,aam,X.ly];rfl
  tr:=λk q e=>by
   rcases db e with e|⟨rfl,rfl⟩
   .exact(X.tr k q e).imp id da
   .exact⟨kr,by rw[<-X.lt,<-r];exact p9⟩
  wy:=λk q e=>by
   rcases db e with e|⟨rfl,rfl⟩
   .rcases X.wy k q e with⟨z1,z2⟩|⟨a,g,o,z1,z2,z3,z4⟩
    .exact .inl ⟨z1,da z2⟩
    .exact .inr ⟨a,g,o,z1,da z2,z3,da z4⟩
   .exact .inr ⟨i,m,p,O,da f,rfl,by rw[<-X.ly];exact p9⟩
  mo:=λk l q o d c B=>by
   rcases db d with d|⟨rfl,rfl⟩
   .rcases db c with c|⟨rfl,rfl⟩
    .exact X.mo k l q o d c B
    .have:=X.dp k p q f d;rw[aam];exact this
   .rcases db c with c|⟨rfl,rfl⟩
    .have:=(AD.mp c).1;omega
    .exact aab _
  cv:=λt n=>by
   rcases aaU.mp n with z|z
   .exact(X.cv t z).set X.dk H
   .rw[aah.mp z];exact⟨_,oo L,.refl _⟩
  dl:=λx A=>by
   rcases iJ A with rfl|A
   .exact aaz _ aac
   .exact aaZ _ (X.dl x A)
  gd:=λt n=>by
   rcases aaU.mp n with z|z
   .exact X.gd t z
   .rw[aah.mp z];exact b
  p0:=da X.p0
  vt:=λt n=>by
   rcases aaU.mp n with z|z
   .have:=X.vt t z;omega
   .rw[aah.mp z];exact I
  pt:=by rw[aam,af3];have:=X.pt;omega
  ex:=λk q g hk e s=>by
   rcases db e with e|⟨rfl,rfl⟩
   .exact(X.ex k q g hk e s).imp id .snoc
   .omega
  ej:=λk q g hk e E=>by
   rcases db e with e|⟨z,rfl⟩
   .by_cases z:k<j
    .exact(X.ej k q g z e E).imp id .snoc
    .have:k=j:=by omega
     subst this;rw[f]at e;rw[G]at E
     cases e;cases E
     rw[<-r];exact⟨b,P.length,p++[m],u,p9,by rw[<-X.lt];exact p9,by simp,.refl _⟩
   .omega
  dp:=λk q o d c=>by
   rcases db d with d|⟨z,rfl⟩
   .rw[f]at d;cases d;rcases db c with c|⟨rfl,rfl⟩
    .exact X.dp k p o f c
    .simp
   .omega}
theorem Qv.dep(X:Qv h r1 r2 C L T Y P i j):∀(k:Nat) (p:List Mv),P[k]?=some p->p.length≤k:=λk=>by
 induction k using Nat.strongRecOn with
 |ind k c=>
  intro p e;rcases X.wy k p e with⟨rfl,_⟩|⟨a,m,q,l,b,rfl,_⟩
  .exact abF _
  .have:=c a l q b;rw[aam];simp only[af3];omega
theorem Qv.nvr(X:Qv h r1 r2 C L T Y P i j)(E:T.length≤i){Z:List Tr}(r:Z.Perm (ldT L)):Nvr h r1 r2 Z:=by
 have f:∀{t:Tr},t∈Z->∃x∈L,t=(x.1.1,x.1.2,x.2):=λ{t} g=>by
  let⟨x,d,e⟩:=aal.mp (r.mem_iff.mp g);exact⟨x,d,e.symm⟩
 have n:∀{x:Pk×Int},x∈L->(x.1.1,x.1.2,x.2)∈Z:=λ{x} d=>r.mem_iff.mpr (aal.mpr ⟨x,d,rfl⟩);refine⟨?_,λt g=>?_,λt g m A=>?_⟩
 .obtain⟨x,d,b⟩:=X.cv (stT h) (Io (X.tr 0 [] X.p0).2);have F:=X.dk.nn x d;have G:x.2≤0:=b.d;have:(x.1.1,x.1.2,x.2)=(zer h,zer h,(0:Int)):=ahl b.x (ahl b.y (show x.2=0 by omega));rw[<-this];exact n d
 .obtain⟨x,d,rfl⟩:=f g;exact X.gd _ (X.dl x d)
 .obtain⟨x,d,rfl⟩:=f g;let⟨k,o⟩:=acL (X.dl x d);have hk:=(AD.mp o).1;have s:=iO (show k<P.length by rw[<-X.lt];exact hk);have v:=(X.tr k _ s).2;rw[o]at v;have:=(X.ex k _ m (by omega) s A).2;rw[gj,<-aaB v]at this;let⟨l,q,w,D,B,_,b⟩:=this;let⟨y,z,c⟩:=X.cv w (Io B);exact⟨_,n z,c.x.trans b.x,c.y.trans b.y,aeK c.d b.d⟩
end
end K
namespace K
open PySem L2 M7
variable{n:Nat}{o:List Nat}
structure Pm(n:Nat)(o:List Nat):Prop where
 pm:o.Perm (aat n)
def Pm.ln(P:Pm n o):o.length=n:=by rw[P.pm.length_eq,abb]
def Pm.lt(P:Pm n o):∀k∈o,k<n:=λk hk=>ack.mp (P.pm.mem_iff.mp hk)
def Pm.mem(P:Pm n o){k:Nat}(hk:k<n):k∈o:=P.pm.mem_iff.mpr (ack.mpr hk)
def Pm.at(P:Pm n o){k:Nat}(hk:k<n):o[idx o k]?=some k/\idx o k<n:=by
 have e:=(fm (P.mem hk)).1;exact⟨e,by rw[<-P.ln];exact(AD.mp e).1⟩
def Pm.inj(P:Pm n o){i j k:Nat}(h:o[i]?=some k)(c:o[j]?=some k):i=j:=by
 let⟨b,a⟩:=AD.mp h;let⟨l,e⟩:∃l,o[j]=k:=AD.mp c;have p:=acE.mp (P.pm.nodup_iff.mpr List.nodup_range);rcases ag0 i j with z|z|z
 .exact absurd (a.trans e.symm) (p i j b l z)
 .exact z
 .exact absurd (e.trans a.symm) (p j i l b z)
def tn{a:Type}(d:a)(o:List Nat)(l:List a):List a:=o.map λk=>l.getD k d
section
variable {a:Type}{d:a}{n:Nat}{o:List Nat}{l:List a}{k:Nat}
def jG(P:Pm n o):(tn d o l).length=n:=by unfold tn;rw[lD,P.ln]
def tn_get?{i j:Nat}(e:o[i]?=some j):(tn d o l)[i]?=some (l.getD j d):=by unfold tn;rw[aae,e];rfl
def kh(P:Pm n o)(hk:k<n):(tn d o l).getD (idx o k) d=l.getD k d:=bp (tn_get? (P.at hk).1)
def D3(P:Pm n o)(b:l.length=n)(hk:k<n)(x:a):tn d o (l.set k x)=(tn d o l).set (idx o k) x:=by
 refine aba λi=>?_
 by_cases h:i<n
 .obtain⟨j,ej⟩:∃j,o[i]?=some j:=⟨_,iO (by rw[P.ln];exact h)⟩;rw[tn_get? ej]
  by_cases c:j=k
  .subst c;rw[P.inj ej (P.at hk).1,aaP (by rw[jG P];exact(P.at hk).2),aaa,aaP (by omega)];rfl
  .have ne:idx o k≠i:=λz=>c (by have:=(P.at hk).1;rw[z,ej]at this;exact aaB this);rw[aaK ne,tn_get? ej,aaa,aaK (ab0 c),<-aaa]
 .rw[aaT (by rw[jG P];omega),aaT (by rw[abe,jG P];omega)]
theorem yr{β:Type}{f:a->β}(P:Pm n o)(h:l.length=n)(e:β):tn e o (l.map f)=(tn d o l).map f:=by
 unfold tn;rw[aa4];refine abM λk hk=>?_;have:=P.lt k hk;rw[aaa,aae,iO (by omega)];show f _=f (l.getD k d);rw[aaa,iO (by omega)];rfl
def Oh(P:Pm n o)(x:a):tn x o (aas n x)=aas n x:=by
 refine aba λi=>?_
 by_cases h:i<n
 .obtain⟨j,ej⟩:∃j,o[i]?=some j:=⟨_,iO (by rw[P.ln];exact h)⟩;rw[tn_get? ej,acn,if_pos h,aaa,acn]
  split<;>rfl
 .rw[aaT (by rw[jG P];omega),aaT (by rw[acD];omega)]
end
def bk(n:Nat)(o l:List Nat):List Nat:=(aat n).map λj=>l.getD (idx o j) 0
def Ut{l:List Nat}(P:Pm n o)(a:l.length=n):bk n o (tn 0 o l)=l:=by
 unfold bk;refine aba λi=>?_
 by_cases h:i<n
 .rw[aae,abo h];show some ((tn 0 o l).getD (idx o i) 0)=_;rw[kh P h,aaa,iO (by omega)];rfl
 .rw[aaT (by simpa using h),aaT (by omega)]
def s0:Srv:=⟨0,0,0⟩
def hT(h:Hall)(o:List Nat):Hall:=⟨h.a,h.b,tn s0 o h.ss,h.mv⟩
section
variable {h:Hall}{o:List Nat}{r:Rule}{l:List Nat}{t:Nat}
def iU(P:Pm h.ss.length o):(hT h o).ss.length=h.ss.length:=jG P
def RM(a:h.Ok)(P:Pm h.ss.length o):(hT h o).Ok:=by
 refine⟨a.a1,a.a2,a.b1,a.b2,by rw[iU P];exact a.n1,by rw[iU P];exact a.n4,λs b=>?_⟩;let⟨k,hk,rfl⟩:=aal.mp b;have:=P.lt k hk;rw[aaa,iO this];exact a.ok _ (acf _)
def RH(P:Pm h.ss.length o){k:Nat}(hk:k<h.ss.length):(hT h o).rn (idx o k)=h.rn k:=by
 unfold Hall.rn Hall.rs hT;rw[<-yr (f:=Srv.r) (d:=s0) P rfl 0];exact kh P hk
def O3(P:Pm h.ss.length o){k:Nat}(hk:k<h.ss.length):(hT h o).an (idx o k)=h.an k:=by
 unfold Hall.an hT;rw[<-yr (f:=Srv.a) (d:=s0) P rfl 0];exact kh P hk
def Oo(P:Pm h.ss.length o){k:Nat}(hk:k<h.ss.length):(hT h o).bn (idx o k)=h.bn k:=by
 unfold Hall.bn hT;rw[<-yr (f:=Srv.b) (d:=s0) P rfl 0];exact kh P hk
def BW(P:Pm h.ss.length o)(L:Lines h l):Lines (hT h o) (tn 0 o l):=by
 refine⟨by rw[jG P,iU P],λi s x c b=>?_⟩;have g:i<o.length:=by have:=(AD.mp c).1;rw[iU P]at this;rw[P.ln];exact this
 let⟨j,ej⟩:∃j,o[i]?=some j:=⟨_,iO g⟩;have a:=P.lt j (Io ej);have e:(tn s0 o h.ss)[i]?=some s:=c;rw[tn_get? ej,aaa,iO a]at e;rw[tn_get? ej]at b;have d:h.ss[j]?=some s:=by rw[iO a];exact e
 have f:l[j]?=some x:=by
  rw[aaa,iO (by rw[L.1];exact a)]at b;rw[iO (by rw[L.1];exact a)];exact b
 exact L.2 j s x d f
def rT(h:Hall)(o:List Nat):Rule->Rule
 | .told p=>.told ((M3.allR (hT h o).rs).map λl=>idx o (p.getD (placeF 0 h.rs (bk h.ss.length o l)) 0))
 |r=>r
def mvT(o:List Nat):Mv->Mv
 | .come p=>.come (p.map (idx o))
 | .done k=>.done (idx o k)
 | .still=>.still
theorem rG{f g:Nat->Nat->Bool}{n:Nat}(e:∀a b,a<n->b<n->g (idx o a) (idx o b)=f a b):∀{p:List Nat}{b:Nat},b<n->(∀k∈p,k<n)->pick g (idx o b) (p.map (idx o))=idx o (pick f b p)
 |[],_,_,_=>rfl
 |k::p,b,hb,hp=>by
  have hk:=hp k aac;show pick g (if g (idx o k) (idx o b)then idx o k else idx o b) (p.map (idx o))=idx o (pick f (if f k b then k else b) p);rw[e k b hk hb]
  cases f k b with
  |true=>exact rG e hk λz c=>hp z (aad _ c)
  |false=>exact rG e hb λz c=>hp z (aad _ c)
theorem oZ{p:List Nat}(b:p≠[]):(p.map (idx o)).headD 0=idx o (p.headD 0):=by
 cases p with
 |nil=>exact(b rfl).elim
 |cons a p=>rfl
def OneT(h:Hall)(r:Rule):Prop:=r = .turns->h.ss.length=1
theorem Oa(m:h.Ok)(q:r.Ok h)(P:Pm h.ss.length o)(O:OneT h r)(S:St h r l t){p:List Nat}(c:Ord h.ss.length p):sent (hT h o) (rT h o r) (tn 0 o l) t (p.map (idx o))=idx o (sent h r l t p):=by
 have hd:p.headD 0<h.ss.length:=by
  cases p with
  |nil=>exact(c.ne rfl).elim
  |cons a p=>exact c.lt a aac
 have g:∀a,a<h.ss.length->(tn 0 o l).getD (idx o a) 0=l.getD a 0:=λa d=>kh P d
 cases r with
 |random=>exact oZ c.ne
 |turns=>
  have n1:=O rfl;have j:t=0:=by have:=S.tn rfl;omega
  show t=idx o t;have:=(P.at (k:=t) (by omega)).2;omega
 |two=>
  show pick (bQ (tn 0 o l)) ((p.map (idx o)).headD 0) ((p.map (idx o)).take 2)=idx o (pick (bQ l) (p.headD 0) (p.take 2));rw[oZ c.ne,<-List.map_take];exact rG (n:=h.ss.length) (λa b d e=>by unfold bQ;rw[g a d,g b e]) hd λk hk=>c.lt k (abH hk)
 |least=>
  show pick (bQ (tn 0 o l)) ((p.map (idx o)).headD 0) (p.map (idx o))=idx o (pick (bQ l) (p.headD 0) p);rw[oZ c.ne];exact rG (n:=h.ss.length) (λa b d e=>by unfold bQ;rw[g a d,g b e]) hd c.lt
 |quick=>
  show pick (cc (hT h o) (tn 0 o l)) ((p.map (idx o)).headD 0) (p.map (idx o))=idx o (pick (cc h l) (p.headD 0) p);rw[oZ c.ne];exact rG (n:=h.ss.length) (λa b d e=>by unfold cc;rw[g a d,g b e,O3 P d,O3 P e,Oo P d,Oo P e]) hd c.lt
 |told f=>
  have i:=place_at (BW P S.ln).fits;show((M3.allR (hT h o).rs).map λl=>idx o (f.getD (placeF 0 h.rs (bk h.ss.length o l)) 0)).getD (placeF 0 (hT h o).rs (tn 0 o l)) 0=idx o (f.getD (placeF 0 h.rs l) 0);rw[bp (by rw[aae,i];rfl)];show idx o (f.getD (placeF 0 h.rs (bk h.ss.length o (tn 0 o l))) 0)=_;rw[Ut P S.ln.1]
def se(a:h.mv=false)(l:List Nat):cK h l=l:=fJ (by unfold c8;rw[if_neg (by rw[a];simp)]) _
def OA(P:Pm h.ss.length o)(L:Lines h l){k:Nat}(hk:k<h.ss.length):bW (hT h o) (tn 0 o l) (idx o k)=(tn 0 o (bW h l k).1,(bW h l k).2):=by
 unfold bW;rw[kh P hk,RH P hk]
 by_cases c:l.getD k 0=h.rn k
 .rw[if_pos c,if_pos c]
 .rw[if_neg c,if_neg c,D3 P L.1 hk]
def Og(P:Pm h.ss.length o)(L:Lines h l){k:Nat}(hk:k<h.ss.length):cf (tn 0 o l) (idx o k)=(tn 0 o (cf l k).1,(cf l k).2):=by
 unfold cf;rw[kh P hk]
 by_cases c:l.getD k 0=0
 .rw[if_pos c,if_pos c]
 .rw[if_neg c,if_neg c,D3 P L.1 hk]
theorem JB(P:Pm h.ss.length o):oA (hT h o) (rT h o r) t=oA h r t:=by
 cases r with
 |turns=>show(t+1)%(hT h o).ss.length=(t+1)%h.ss.length;rw[iU P]
 |_=>rfl
theorem Jn(d:h.Ok)(c:h.mv=false)(e:r.Ok h)(P:Pm h.ss.length o)(O:OneT h r)(S:St h r l t){mv:Mv}(b:mv.Ok h):gJ (hT h o) (rT h o r) (tn 0 o l) t (mvT o mv)=(tn 0 o (gJ h r l t mv).1,(gJ h r l t mv).2.1,(gJ h r l t mv).2.2):=by
 have a:=se (h:=hT h o) c;have s:=se (h:=h) c
 cases mv with
 |come p=>
  show(cK (hT h o) (bW (hT h o) (tn 0 o l) (sent (hT h o) (rT h o r) (tn 0 o l) t (p.map (idx o)))).1,oA (hT h o) (rT h o r) t,(bW (hT h o) (tn 0 o l) (sent (hT h o) (rT h o r) (tn 0 o l) t (p.map (idx o)))).2)=(tn 0 o (cK h (bW h l (sent h r l t p)).1),oA h r t,(bW h l (sent h r l t p)).2);rw[Oa d e P O S b,OA P S.ln (pf d e S.ln b S.tn),a,s,JB P]
 |done k=>
  show(cK (hT h o) (cf (tn 0 o l) (idx o k)).1,t,(cf (tn 0 o l) (idx o k)).2)=(tn 0 o (cK h (cf l k).1),t,(cf l k).2);rw[Og P S.ln b,a,s]
 |still=>
  show(cK (hT h o) (tn 0 o l),t,Wd.none)=(tn 0 o (cK h l),t,Wd.none);rw[a,s]
def Su(P:Pm h.ss.length o):zer (hT h o)=tn 0 o (zer h):=by
 unfold zer;rw[iU P,Oh P]
end
def x9:SpM:=λa K=>∃(h:Hall) (o:List Nat),a=[.imm h.d,.imm (lnD o)]/\h.Ok/\Pm h.ss.length o/\K (.imm (hT h o).d) []
end K
namespace K
open PySem L2 M7 M8
def jC:∀n≤4,∀o∈ordK n n,o.Perm (aat n):=by decide +kernel
def G6:∀n≤4,∀o∈ordK n n,∀p∈ordK n n,p.map (idx o)∈ordK n n/\p.map (λk=>o.getD k 0)∈ordK n n/\(p.map λk=>o.getD k 0).map (idx o)=p:=by decide +kernel
def Wr(r:Rule):Prop:=r = .random\/r = .two\/r = .least\/r = .quick
def cl(o:List Nat):Mv->Mv
 | .come p=>.come (p.map λk=>o.getD k 0)
 | .done k=>.done (o.getD k 0)
 | .still=>.still
def trT(o:List Nat)(t:Tr):Tr:=(tn 0 o t.1,tn 0 o t.2.1,t.2.2)
section
variable {h:Hall}{o:List Nat}{r r1 r2:Rule}
def Wr.ok(w:Wr r):r.Ok h/\r≠.turns/\rT h o r=r:=by rcases w with rfl|rfl|rfl|rfl<;>exact⟨trivial,(nofun),rfl⟩
def Ef{n:Nat}{l:List Nat}(P:Pm n o)(b:l.length=n):(tn 0 o l).sum=l.sum:=by
 refine List.Perm.sum_nat ?_;have e:l=(aat n).map λk=>l.getD k 0:=aba λi=>by
  by_cases a:i<n
  .rw[aae,abo a,iO (by omega)];show some _=some (l.getD i 0);rw[aaa,iO (by omega)];rfl
  .rw[aaT (by omega),aaT (by simpa using a)]
 conv=>rhs;rw[e]
 exact P.pm.map _
theorem alk_all{h:Hall}:alk h=true↔∀s∈h.ss,∀t∈h.ss,s=t:=by
 have eq:∀s t:Srv,aai s.d t.d=true↔s=t:=λs t=>by
  show(aai (.tuple [.int s.a,.int s.b]) (.tuple [.int t.a,.int t.b])&&(aai (.int (s.r:Int)) (.int (t.r:Int))&&true))=true↔_;show((aai (.int (s.a:Int)) (.int (t.a:Int))&&(aai (.int (s.b:Int)) (.int (t.b:Int))&&true))&&(aai (.int (s.r:Int)) (.int (t.r:Int))&&true))=true↔_;rw[ce,ce,ce]
  cases s;cases t
  simp[and_assoc]
 unfold alk
 cases e:h.ss with
 |nil=>simp
 |cons s0 ss=>
  constructor
  .intro a;have k:∀s∈s0::ss,s=s0:=λs b=>(eq _ _).mp (abr.mp a _ (aal.mpr ⟨s,b,rfl⟩));intro s b t c;rw[k s b,k t c]
  .intro a;refine abr.mpr λd hd=>?_;let⟨s,b,rfl⟩:=aal.mp hd;exact(eq _ _).mpr (a s b s0 aac)
def LW(P:Pm h.ss.length o){s:Srv}:s∈(hT h o).ss↔s∈h.ss:=by
 show s∈o.map (λk=>h.ss.getD k s0)↔_;rw[aal];constructor
 .rintro⟨k,hk,rfl⟩;rw[aaa,iO (P.lt k hk)];exact acf _
 .intro hs;let⟨i,e⟩:=acL hs;exact⟨i,P.mem (AD.mp e).1,by rw[aaa,e];rfl⟩
def Sy(P:Pm h.ss.length o):alk (hT h o)=alk h:=by
 rw[abI,alk_all,alk_all];simp only[LW P]
def zj(P:Pm h.ss.length o)(a:alk h=true):hT h o=h:=by
 have key:tn s0 o h.ss=h.ss:=aba λi=>by
  by_cases b:i<h.ss.length
  .obtain⟨j,ej⟩:∃j,o[i]?=some j:=⟨_,iO (by rw[P.ln];exact b)⟩;rw[tn_get? ej,iO b];refine congrArg some ?_;rw[aaa,iO (P.lt j (Io ej))];exact alk_all.mp a _ (acf _) _ (acf _)
  .rw[aaT (by rw[jG P];omega),aaT (by omega)]
 show Hall.mk h.a h.b (tn s0 o h.ss) h.mv=h;rw[key]
def Jf(d:h.Ok)(po:o∈ordK h.ss.length h.ss.length){m:Mv}(f:m∈mvs h):mvT o m∈mvs (hT h o)/\cl o m∈mvs h/\mvT o (cl o m)=m:=by
 have P:Pm h.ss.length o:=⟨jC _ d.n4 o po⟩;have g:mvs (hT h o)=mvs h:=by unfold mvs;rw[iU P]
 rw[g];unfold mvs at *;rcases aaU.mp f with q|q
 .obtain q|q:=aaU.mp q
  .obtain⟨p,hp,rfl⟩:=aal.mp q;let⟨a,b,c⟩:=G6 _ d.n4 o po p hp;exact⟨aaZ _ (aaZ _ (aal.mpr ⟨_,a,rfl⟩)),aaZ _ (aaZ _ (aal.mpr ⟨_,b,rfl⟩)),congrArg Mv.come c⟩
  .obtain⟨k,hk,rfl⟩:=aal.mp q;have hk:=ack.mp hk;have e:o[k]?=some (o.getD k 0):=by rw[aaa,iO (by rw[P.ln];exact hk)];rfl
   have l:=P.lt _ (Io e);exact⟨aaZ _ (aaz _ (aal.mpr ⟨_,ack.mpr (P.at hk).2,rfl⟩)),aaZ _ (aaz _ (aal.mpr ⟨_,ack.mpr l,rfl⟩)),congrArg Mv.done (P.inj (P.at l).1 e)⟩
 .rw[aah.mp q];exact⟨aaz _ aac,aaz _ aac,rfl⟩
def Oz(f:h.Ok)(b:h.mv=false)(w:Wr r)(P:Pm h.ss.length o)(a:alk h=false){l:List Nat}(L:Lines h l){m:Mv}(d:m.Ok h):kst (hT h o) r (tn 0 o l) (mvT o m)=(tn 0 o (kst h r l m).1,(kst h r l m).2):=by
 let⟨c,n,e⟩:=w.ok (h:=h) (o:=o);have t:=Jn f b c P (λz=>(n z).elim) (t:=0) ⟨L,λz=>(n z).elim,by decide⟩ d;rw[e]at t;unfold kst cW;rw[Sy P,a,t,if_neg (by decide),if_neg (by decide)]
theorem Qg(c:h.Ok)(f:h.mv=false)(w:Wr r1)(d:Wr r2)(P:Pm h.ss.length o)(a:alk h=false):∀(R:List Mv) (t:Tr),RunK h R->Lines h t.1/\Lines h t.2.1->(R.map (mvT o)).foldl (bth (hT h o) r1 r2) (trT o t)=trT o (R.foldl (bth h r1 r2) t)
 |[],_,_,_=>rfl
 | m::R,t,k,L=>by
  have b:=k m aac;have e:bth (hT h o) r1 r2 (trT o t) (mvT o m)=trT o (bth h r1 r2 t m):=by
   unfold bth trT;dsimp only;rw[Oz c f w P a L.1 (nu c m b),Oz c f d P a L.2 (nu c m b)]
  show(R.map (mvT o)).foldl _ (bth (hT h o) r1 r2 (trT o t) (mvT o m))=_;rw[e];exact Qg c f w d P a R _ (λx g=>k x (aad _ g)) (jZ c (w.ok (o:=o)).1 (d.ok (o:=o)).1 (w.ok (h:=h) (o:=o)).2.1 (d.ok (h:=h) (o:=o)).2.1 L b)
def MY(b:h.Ok)(f:h.mv=false)(w:Wr r1)(d:Wr r2)(po:o∈ordK h.ss.length h.ss.length)(a:alk h=false){R:List Mv}(k:RunK h R):RunK (hT h o) (R.map (mvT o))/\bad (wlk (hT h o) r1 r2 (R.map (mvT o)))=bad (wlk h r1 r2 R):=by
 have P:Pm h.ss.length o:=⟨jC _ b.n4 o po⟩;refine⟨λm c=>?_,?_⟩
 .obtain⟨x,hx,rfl⟩:=aal.mp c;exact(Jf b po (k x hx)).1
 .have z:=(gF b r1).ln;have e:=Qg b f w d P a R (stT h) k ⟨z,z⟩;rw[show trT o (stT h)=stT (hT h o) by unfold trT stT;rw[Su P]]at e;have L:=iM b (w.ok (h:=h) (o:=o)).1 (d.ok (h:=h) (o:=o)).1 (w.ok (h:=h) (o:=o)).2.1 (d.ok (h:=h) (o:=o)).2.1 (vv (r1:=r1) (r2:=r2) k);show bad (agF _ (stT (hT h o)) _)=_;rw[e];show(decide ((wlk h r1 r2 R).2.2<0)||decide ((((tn 0 o (wlk h r1 r2 R).2.1).sum:Nat):Int)+_<(((tn 0 o (wlk h r1 r2 R).1).sum:Nat):Int)))=_;rw[Ef P L.1.1,Ef P L.2.1];rfl
def Ga(c:h.Ok)(po:o∈ordK h.ss.length h.ss.length){R:List Mv}(k:RunK (hT h o) R):RunK h (R.map (cl o))/\(R.map (cl o)).map (mvT o)=R:=by
 have P:Pm h.ss.length o:=⟨jC _ c.n4 o po⟩;have e:mvs (hT h o)=mvs h:=by unfold mvs;rw[iU P]
 refine⟨λm b=>?_,?_⟩
 .obtain⟨x,a,rfl⟩:=aal.mp b;exact(Jf c po (e▸k x a)).2.1
 .rw[aa4];refine(abM λx a=>?_).trans (agd R);exact(Jf c po (e▸k x a)).2.2
theorem Pc(d:h.Ok)(g:h.mv=false)(w:Wr r1)(i:Wr r2)(po:o∈ordK h.ss.length h.ss.length):(∀R,RunK h R->bad (wlk h r1 r2 R)=true->∃c,RunK (hT h o) c/\c.length=R.length/\bad (wlk (hT h o) r1 r2 c)=true)/\∀R,RunK (hT h o) R->bad (wlk (hT h o) r1 r2 R)=true->RunK h (R.map (cl o))/\(alk h=false->bad (wlk h r1 r2 (R.map (cl o)))=true)/\∃c,RunK h c/\c.length=R.length/\bad (wlk h r1 r2 c)=true:=by
 have P:Pm h.ss.length o:=⟨jC _ d.n4 o po⟩
 cases a:alk h with
 |true=>
  refine⟨λR k b=>?_,λR k b=>⟨(Ga d po k).1,(nofun),?_⟩⟩
  .rw[zj P a];exact⟨R,k,rfl,b⟩
  .rw[zj P a]at k b;exact⟨R,k,rfl,b⟩
 |false=>
  refine⟨λR k b=>?_,λR k b=>?_⟩
  .obtain⟨k',e⟩:=MY d g w i po a k;exact⟨_,k',lD _,by rw[e];exact b⟩
  .obtain⟨k',e⟩:=Ga d po k;let⟨_,f⟩:=MY d g w i po a k';rw[e,b]at f;exact⟨k',λ_=>f.symm,_,k',lD _,f.symm⟩
theorem OT(P:Pm h.ss.length o):(M3.allR (hT h o).rs).length=(M3.allR h.rs).length:=by
 have c:∀{a b:List Nat},a.Perm b->cnt a=cnt b:=λ{a b} p=>by
  induction p with
  |nil=>rfl
  |cons x _ f=>simp only[cnt,f]
  |swap x y l=>simp only[cnt];rw[Nat.mul_left_comm]
  |trans _ _ a b=>exact a.trans b
 rw[allR_cnt,allR_cnt];refine c ?_;unfold Hall.rs;refine List.Perm.map _ ?_;have e:h.ss=(aat h.ss.length).map λk=>h.ss.getD k s0:=aba λi=>by
  by_cases d:i<h.ss.length
  .rw[aae,abo d,iO d];show some _=some (h.ss.getD i s0);rw[aaa,iO d];rfl
  .rw[aaT (by omega),aaT (by simpa using d)]
 have p:=P.pm.map λk=>h.ss.getD k s0;rw[<-e]at p;exact p
end
end K
namespace K
open PySem L2
variable{Kr:L2.R->Prop}{r:Rule}{os:List Nat}{h:Hall}{l:ahg}
local macro_rules | `(tactic| walk_at"1") => `(tactic| first
 |((with_reducible refine' Qm ?xe ?_);(case xe=>rfl))|(with_reducible first        |apply Qe|apply P8|apply x_lt|apply x_le|apply x_gt|apply x_ge     |apply Ub|apply Sx|apply Uy|apply T6 )|((with_reducible refine' x_nd ?xe ?_);(case xe=>first|rfl|assumption))  |(with_reducible first   |apply x_ts)
 |((with_reducible refine' aP ?xe ?_);(case xe=>rfl))|((with_reducible refine' AK ?xf ?xe ?_);(case xf=>rfl);(case xe=>rfl))|((with_reducible refine' p7 ?xe ?_);(case xe=>rfl))|((with_reducible refine' pj ?xe ?_);(case xe=>rfl))
 |((with_reducible refine' Js ?xe ?_);(case xe=>omega))|((with_reducible refine' Mf ?xe ?_);(case xe=>exact cfd (by omega) (by omega)))|((with_reducible refine' Jh ?xe ?_);(case xe=>exact UA (by omega)))|((with_reducible refine' Ud ?xe ?_);(case xe=>exact⟨by decide,by decide,by decide⟩))
 |(with_reducible first  |apply lQ|apply x_bindO    )|((with_reducible refine' x_put ?xe ?xf ?_);(case xe=>rfl);(case xf=>rfl))
 |with_reducible apply Qt|((with_reducible refine' RJ ?xe ?xf ?_);(case xe=>rfl);(case xf=>decide))
 |((with_reducible refine' Tz ?xe ?xf ?_);(case xe=>rfl);(case xf=>exact of_decide_eq_true rfl))|(with_reducible first       |apply Qb|apply Iw|apply vf|apply x_bindA)|((with_reducible refine' OG ?xa ?xb ?xc ?xd ?xe ?_);(case xa=>rfl);(case xb=>rfl);(case xc=>rfl);(case xd=>rfl);(case xe=>rfl))|((with_reducible refine' x_dgotN ?xa ?xb ?xc ?xd ?xe ?_);(case xa=>rfl);(case xb=>rfl);(case xc=>rfl);(case xd=>rfl);(case xe=>rfl))|((with_reducible refine' JA ?xa ?xb ?xc ?xd ?xe ?xf ?_);(case xa=>rfl);(case xb=>rfl);(case xc=>rfl);(case xd=>rfl);(case xe=>exact of_decide_eq_true rfl);(case xf=>rfl))|((with_reducible refine' yD ?xa ?xb ?xc ?xd ?_);(case xa=>rfl);(case xb=>rfl);(case xc=>exact of_decide_eq_true rfl);(case xd=>rfl))
 |((with_reducible refine' x_agsX ?xe ?xf ?_);(case xe=>rfl);(case xf=>decide))  |((with_reducible refine' x_rz ?xe ?_);(case xe=>exact of_decide_eq_true rfl))
 |((with_reducible refine' Bo ?xa ?xb ?_);(case xa=>rfl);(case xb=>decide))|(with_reducible first    |apply T8|apply Sg|apply SF|apply Sv|apply R9    )|((with_reducible refine' OZ ?xa ?xb ?xc ?xd ?xe ?_);(case xa=>rfl);(case xb=>rfl);(case xc=>rfl);(case xd=>rfl);(case xe=>rfl))|((with_reducible refine' uc ?xa ?xb ?xc ?xd ?xe ?_);(case xa=>rfl);(case xb=>rfl);(case xc=>rfl);(case xd=>rfl);(case xe=>rfl))  |((with_reducible refine' Ng ?xa ?xb ?xc ?_);(case xa=>rfl);(case xb=>rfl);(case xc=>rfl))  |((with_reducible refine' Db ?xa ?_);(case xa=>rfl))  |((with_reducible refine' x_onPairsT ?xa ?xb ?xc ?_);(case xa=>rfl);(case xb=>rfl);(case xc=>exact of_decide_eq_true rfl))
 |(with_reducible first  |apply RE     |apply NH|apply QY)|((with_reducible refine' x_lenO ?xe ?_);(case xe=>rfl))|(with_reducible first|apply QU  |apply Sw    )|((with_reducible refine' x_ls ?xe ?_);(case xe=>rfl))
 |(with_reducible first|apply x_isN|apply x_isB|apply DG  |apply zx  |apply OJ)
 |((with_reducible refine' Iy ?xe ?_);(case xe=>rfl))|with_reducible apply QJ|((with_reducible refine' x_list ?xe ?_);(case xe=>rfl))|((with_reducible refine' Jb ?xe ?_);(case xe=>rfl))|(with_reducible first       |apply Lm|apply OU)|((with_reducible refine' QG ?xe ?_);(case xe=>rfl))|(with_reducible first        |apply iy)|with_reducible apply iI)
local macro_rules | `(tactic| walk_at"s") => `(tactic| ((repeat walk_at"1"); try (with_reducible conv => whnf)))
local macro_rules | `(tactic| walk_at"n") => `(tactic| first | dsimp only [mapR, cz, List.set, MSt.setV, MSt.setN, List.take, List.length, List.append, my, wf, Nat.reduceAdd, List.getD_cons_succ, List.getD_cons_zero, List.nil_append, List.cons_append, setT, lfD] | dsimp only [mapR, cz, List.set, MSt.setV, MSt.setN, List.take, List.length, List.append, my, wf, Nat.reduceAdd, List.getD_cons_succ, List.getD_cons_zero, List.nil_append, List.cons_append] | skip)
local macro_rules | `(tactic| walk_at "sc") => `(tactic| exact ⟨rfl, rfl, rfl, by decide +kernel, rfl, by decide +kernel, by decide +kernel⟩)
local macro_rules | `(tactic| walk_at"x") => `(tactic| (walk_at"n"; walk_at"s"))
local macro_rules | `(tactic| walk_at "a") => `(tactic| (walk_at"s";refine aY (λz=>absurd z (by decide +kernel)) (λ_=>?_);walk_at"s"))
local macro_rules | `(tactic| walk_at "b") => `(tactic| (refine aY (λ_=>?_) (λz=>(z rfl).elim);walk_at"s"))
local macro_rules | `(tactic| walk_at "c") => `(tactic| (refine aY (λz=>absurd z (by decide +kernel)) (λ_=>?_)))
local macro_rules | `(tactic| walk_at "d") => `(tactic| (walk_at"s";rw[if_pos (by decide +kernel)];walk_at"s"))
local macro_rules | `(tactic| walk_at "e") => `(tactic| (walk_at"s";rw[if_neg (by decide)];walk_at"s"))
def top(i:Nat):Stmt:=PySem.Challenge.pw_shorterline_k60_whole_servers_turned.main.body.getD i (.Pass ⟨0,0,0,0⟩)
abbrev o7:Stmt:=top 4
abbrev ko:Stmt:=top 6
abbrev dn:Stmt:=top 8
abbrev dj:Stmt:=top 10
abbrev oG:Stmt:=top 11
abbrev dq:Stmt:=top 12
abbrev o6:Stmt:=top 13
abbrev f9:Stmt:=top 15
abbrev fg:Stmt:=top 16
abbrev d9:Stmt:=top 17
abbrev jq:Stmt:=top 18
abbrev oY:Stmt:=top 19
abbrev oH:Stmt:=top 20
abbrev ip:Stmt:=top 21
abbrev qk:Stmt:=top 22
abbrev ga:Stmt:=top 23
abbrev oO:Stmt:=top 24
abbrev jY:Stmt:=top 25
abbrev ie:Stmt:=top 27
abbrev fx:Stmt:=top 28
abbrev fj:Stmt:=top 29
abbrev jA:Stmt:=top 30
abbrev d3:Stmt:=top 31
abbrev j6:Stmt:=top 32
abbrev bm:Stmt:=(ic (top 34)).getD 1 (.Pass ⟨0,0,0,0⟩)
abbrev aE:Stmt:=(ic (top 34)).getD 2 (.Pass ⟨0,0,0,0⟩)
abbrev cP:Stmt:=(ic (top 34)).getD 3 (.Pass ⟨0,0,0,0⟩)
abbrev cb:Stmt:=(ic (top 34)).getD 4 (.Pass ⟨0,0,0,0⟩)
abbrev bt:Stmt:=(ic (top 34)).getD 5 (.Pass ⟨0,0,0,0⟩)
abbrev b8:Stmt:=(ic (top 34)).getD 6 (.Pass ⟨0,0,0,0⟩)
abbrev bF:Stmt:=(ic (top 34)).getD 0 (.Pass ⟨0,0,0,0⟩)
abbrev fQ:Stmt:=top 35
abbrev jw:Stmt:=top 37
abbrev jB:Stmt:=top 38
abbrev jn:Stmt:=top 39
abbrev cF:Stmt:=top 41
abbrev cj:Stmt:=top 40
abbrev dI:Stmt:=top 7
abbrev gw:Stmt:=top 42
abbrev kl:Stmt:=top 43
abbrev i9:Stmt:=top 44
abbrev gm:Stmt:=top 45
abbrev js:Stmt:=top 47
abbrev f7:Stmt:=top 48
abbrev iu:Stmt:=top 49
abbrev dH:Stmt:=top 50
abbrev ig:Stmt:=top 51
abbrev slaw:Stmt:=top 52
structure Bl(K:aaf)(mg:Str->Option Ad):Prop where
 len:mg "len" = none
 abs:mg "abs" = none
 range:mg "range" = none
 list:mg "list" = none
 tuple:mg "tuple" = none
 int:mg "int" = none
 sum:mg "sum" = none
 max:mg "max" = none
 min:mg "min" = none
 isinstance:mg "isinstance" = none
 bool:mg "bool" = none
 sorted:mg "sorted" = none
 zip:mg "zip" = none
 enumerate:mg "enumerate" = none
 repr:mg "repr" = none
 f_Search_hall:InsF K "Search" "hall"
 f_Search_rules:InsF K "Search" "rules"
 f_Search_moves:InsF K "Search" "moves"
 f_Search_steps:InsF K "Search" "steps"
 f_Search_leads:InsF K "Search" "leads"
 f_Search_triples:InsF K "Search" "triples"
 f_Search_ways:InsF K "Search" "ways"
def zy:ak ["one","other"] ["one","other"] (ab o7):=by ext sc
def jb:ak ["hall","servers","server"] ["hall"] (ab ko):=by ext sc
def b9:ak ["hall","lines","place","many","server"] ["hall","lines"] (ab dn):=by ext sc
def cw:ak ["lines","order","best","line"] ["lines","order"] (ab dj):=by ext sc
def j5:ak ["hall","lines","line","top","bottom"] ["hall","lines","line"] (ab oG):=by ext sc
def bG:ak ["hall","lines","order","best","least","line","wait"] ["hall","lines","order"] (ab dq):=by ext sc
def i8:ak ["hall","rule","stand","order","lines","turn","word"] ["hall","rule","stand","order"] (ab o6):=by ext sc
def ph:ak ["hall"] ["hall"] (ab f9):=by ext sc
def cR:ak ["hall","many","orders","place"] ["hall"] (ab fg):=by ext sc
def lc:ak ["hall","dones"] ["hall"] (ab d9):=by ext sc
def ue:ak ["lines","line","more"] ["lines","line","more"] (ab jq):=by ext sc
def AY:ak ["hall","lines","line"] ["hall","lines","line"] (ab oY):=by ext sc
def x8:ak ["lines","line"] ["lines","line"] (ab oH):=by ext sc
def qE:ak ["hall","lines"] ["hall","lines"] (ab ip):=by ext sc
def iG:ak ["hall","lines","shift"] ["hall","lines"] (ab qk):=by ext sc
def qi:ak ["hall","rule","turn"] ["hall","rule","turn"] (ab ga):=by ext sc
def xQ:ak ["hall","rule","stand","move"] ["hall","rule","stand","move"] (ab oO):=by ext sc
def ca:ak ["hall","rule","stand","move","lines","turn","word","line"] ["hall","rule","stand","move"] (ab jY):=by ext sc
def qV:ak ["hall","lines"] ["hall","lines"] (ab ie):=by ext sc
def mH:ak ["one","other"] ["one","other"] (ab fx):=by ext sc
def gN:ak ["hall","void"] ["hall"] (ab fj):=by ext sc
def gZ:ak ["hall","rule","lines","move","stand","word"] ["hall","rule","lines","move"] (ab jA):=by ext sc
def bu:ak ["one_step","other_step","lead","x","one_away","y","other_away"] ["one_step","other_step","lead"] (ab d3):=by ext sc
def gn:ak ["triple","x","y","lead"] ["triple"] (ab j6):=by ext sc
def e8:ak ["self","side","lines","rule"] ["self","side","lines"] (ab bm):=by ext sc
def aK:ak ["self","triple","x","y","lead","one_steps","other_steps"] ["self","triple"] (ab aE):=by ext sc
def dJ:ak ["self","triple","ahead","move","x","y","lead"] ["self","triple","ahead","move"] (ab cP):=by ext sc
def cI:ak ["self","at","moves","move"] ["self","at"] (ab cb):=by ext sc
def bh:ak ["self","at","behind","move","triple"] ["self"] (ab bt):=by ext sc
def mF:ak ["self"] ["self"] (ab b8):=by ext sc
def jr:ak ["self","hall","one","other"] ["self","hall","one","other"] (ab bF):=by ext sc
def fz:ak ["hall","one","other","search","run"] ["hall","one","other"] (ab fQ):=by ext sc
def tJ:ak ["_law_script"] ["_law_script"] (ab jw):=by ext sc
def cy:ak ["_law_tape_here","_law_many","_law_found","_law_turn","_law_cell","_law_mixed"] ["_law_tape_here","_law_many"] (ab jB):=by ext sc
def h8:ak ["_law_top","_law_bottom","_law_one","_law_other"] ["_law_top","_law_bottom"] (ab jn):=by ext sc
def bH:ak ["_law_rooms","_law_found","_law_room","_law_longer","_law_lines"] ["_law_rooms"] (ab cF):=by ext sc
def bZ:ak ["_law_tape_here","_law_most","_law_many","_law_servers","_law_come","_law_whole","_law_speeds"] ["_law_tape_here","_law_most"] (ab cj):=by ext sc
def dh:ak ["hall","order","come","servers","moved"] ["hall","order"] (ab dI):=by ext sc
def bT:ak ["_law_hall_here","_law_rule","_law_lines","_law_order_here","_law_rooms","_law_found","_law_rest","_law_k","_law_one","_law_other","_law_mine","_law_theirs"] ["_law_hall_here","_law_rule","_law_lines","_law_order_here"] (ab gw):=by ext sc
def vZ:ak ["_law_lines","_law_k","_law_more"] ["_law_lines","_law_k","_law_more"] (ab kl):=by ext sc
def b7:ak ["_law_hall_here","_law_rule","_law_lines","_law_move","_law_word","_law_k","_law_longest","_law_void"] ["_law_hall_here","_law_rule","_law_lines","_law_move"] (ab i9):=by ext sc
def lm:ak ["_law_hall_here","_law_lines","_law_alike"] ["_law_hall_here","_law_lines"] (ab gm):=by ext sc
def dA:ak ["_law_hall_here","_law_one","_law_other","_law_triple","_law_move","_law_x","_law_first","_law_y","_law_second"] ["_law_hall_here","_law_one","_law_other","_law_triple","_law_move"] (ab js):=by ext sc
def ox:ak ["_law_triple"] ["_law_triple"] (ab f7):=by ext sc
def fX:ak ["_law_tape_here","_law_many","_law_order_here","_law_k"] ["_law_tape_here","_law_many"] (ab iu):=by ext sc
def p8:ak ["_law_order_here","_law_move"] ["_law_order_here","_law_move"] (ab dH):=by ext sc
def dW:ak ["_law_hall_here","_law_one","_law_other","_law_run","_law_triple","_law_move"] ["_law_hall_here","_law_one","_law_other","_law_run"] (ab ig):=by ext sc
def gH:ak ["_law_script","_law_tape_here","_law_k","_law_come","_law_servers","_law_moved","_law_hall_here","_law_order_here","_law_turned","_law_words","_law_at","_law_one","_law_other","_law_first","_law_second","_law_run","_law_alike"] ["_law_script"] (ab slaw):=by ext sc
def jU:∀(kV d pm:Ad) (an:Option Addr) (c ct:Ad) (us:List Ad),us.length=(["self","side","lines"]:List Str).length->adA (abl "steps_of" "Search.steps_of" (cp bm) (bz bm) (ab bm) .none kV d pm an c ct) ⟨us,[]⟩=pure ((["self","side","lines"]:List Str).zip us):=λ_ _ _ _ _ _ us a=>match us,a with|[_,_,_],_=>rfl
def fI:∀(kV d pm:Ad) (an:Option Addr) (c ct:Ad) (us:List Ad),us.length=(["self","triple"]:List Str).length->adA (abl "triples_behind" "Search.triples_behind" (cp aE) (bz aE) (ab aE) .none kV d pm an c ct) ⟨us,[]⟩=pure ((["self","triple"]:List Str).zip us):=λ_ _ _ _ _ _ us a=>match us,a with|[_,_],_=>rfl
def sY:∀(kV d pm:Ad) (an:Option Addr) (c ct:Ad) (us:List Ad),us.length=(["self","triple","ahead","move"]:List Str).length->adA (abl "met" "Search.met" (cp cP) (bz cP) (ab cP) .none kV d pm an c ct) ⟨us,[]⟩=pure ((["self","triple","ahead","move"]:List Str).zip us):=λ_ _ _ _ _ _ us a=>match us,a with|[_,_,_,_],_=>rfl
def mz:∀(kV d pm:Ad) (an:Option Addr) (c ct:Ad) (us:List Ad),us.length=(["self","at"]:List Str).length->adA (abl "run_to" "Search.run_to" (cp cb) (bz cb) (ab cb) .none kV d pm an c ct) ⟨us,[]⟩=pure ((["self","at"]:List Str).zip us):=λ_ _ _ _ _ _ us a=>match us,a with|[_,_],_=>rfl
def jy:∀(kV d pm:Ad) (an:Option Addr) (c ct:Ad) (us:List Ad),us.length=(["self"]:List Str).length->adA (abl "worse_run" "Search.worse_run" (cp bt) (bz bt) (ab bt) .none kV d pm an c ct) ⟨us,[]⟩=pure ((["self"]:List Str).zip us):=λ_ _ _ _ _ _ us a=>match us,a with|[_],_=>rfl
def o9:∀(kV d pm:Ad) (an:Option Addr) (c ct:Ad) (us:List Ad),us.length=(["self"]:List Str).length->adA (abl "paper" "Search.paper" (cp b8) (bz b8) (ab b8) .none kV d pm an c ct) ⟨us,[]⟩=pure ((["self"]:List Str).zip us):=λ_ _ _ _ _ _ us a=>match us,a with|[_],_=>rfl
def jO:∀(kV d pm:Ad) (an:Option Addr) (c ct:Ad) (us:List Ad),us.length=(["self","hall","one","other"]:List Str).length->adA (abl "__init__" "Search.__init__" (cp bF) (bz bF) (ab bF) .none kV d pm an c ct) ⟨us,[]⟩=pure ((["self","hall","one","other"]:List Str).zip us):=λ_ _ _ _ _ _ us a=>match us,a with|[_,_,_,_],_=>rfl
def F9:SpM:=λa K=>∃h:Hall,a=[.imm h.d]/\h.Ok/\K (.imm (.bool (alk h))) []
def o8:SpM:=λa K=>∃(h:Hall) (l:List Nat),a=[.imm h.d,.imm (lnD l)]/\h.Ok/\l.length≤4/\K (.imm (lnD (cW h l))) []
def zh:SpM:=λa K=>∃h:Hall,a=[.imm h.d]/\h.Ok/\K (.new ((mvs h).map Mv.d)) []
def prD'(P:List Tr):aD:=.tuple (P.map trD)
def Fu:SpM:=λb K=>∃r1 a:Rule,b=[.imm r1.d,.imm a.d]/\r1≠.turns/\a≠.turns/\K (.imm .none) []
def Fv:SpM:=λa K=>∃h:Hall,a=[.imm h.d]/\h.Ok/\K (.imm (trD (zer h,zer h,0))) []
def ksD(p:List Nat×Wd):aD:=.tuple [lnD p.1,.bool (decide (p.2 = .away))]
def QX:SpM:=λa K=>∃(h:Hall) (r:Rule) (l:List Nat) (m:Mv),a=[.imm h.d,.imm r.d,.imm (lnD l),.imm m.d]/\h.Ok/\r.Ok h/\r≠.turns/\Lines h l/\m.Ok h/\K (.imm (ksD (kst h r l m))) []
def OO:SpM:=λa K=>∃(p q:List Nat×Wd) (d:Int),a=[.imm (ksD p),.imm (ksD q),.imm (.int d)]/\K (.imm (trD (p.1,q.1,d+aw q.2-aw p.2))) []
def FG:SpM:=λa K=>∃t:Tr,a=[.imm (trD t)]/\K (.imm (.bool (decide (((t.2.1.sum:Nat):Int)+t.2.2<((t.1.sum:Nat):Int))))) []
def pP{d x:aD}{tl:List aD}{m:MSt}(e:d = .tuple (x::tl))(h:Kr (.imm x)):oz (.imm d) (.imm (.int 0)) m Kr:=by
 subst e;exact aP (aU (j:=0) rfl) h
def Fi(r:Rule):∃tl,r.d = .tuple (.str r.word::tl):=by cases r<;>exact⟨_,rfl⟩
theorem zM(h:r≠.turns):decide (r.word = "turns")=false:=by
 cases r with
 |turns=>exact(h rfl).elim
 |told p=>exact(show decide (("told" : Str) = "turns")=false by decide +kernel)
 |random=>decide +kernel
 |two=>decide +kernel
 |least=>decide +kernel
 |quick=>decide +kernel
def JT{m:MSt}{k:Nat}{a b:List aD}(e:m.os[k]?=some b)(c:a.length+b.length≤aaj)(h:Kr (.new (a++b))):oAdd (.new a) (.obj k) m Kr:=⟨a,b,rfl,e,c,h⟩
def Dt(w:Wd):decide (w.s = "away")=decide (w = .away):=by cases w<;>decide +kernel
def SE(h:Hall):(mvs h).map Mv.d=(ordK h.ss.length h.ss.length).map (λo=>(Mv.come o).d)++(aat h.ss.length).map (λk=>(Mv.done k).d)++[.tuple [.str "still"]]:=by
 unfold mvs;rw[aaH,aaH,aa4,aa4];rfl
def yN:SpM:=λa K=>∃t:Tr,a=[.imm (trD t)]/\K (.imm (.bool (bad t))) []
def xO:SpM:=λa K=>∃(h:Hall) (r:Rule) (l:List Nat) (o:List Nat),a=[.imm h.d,.imm r.d,.imm (lnD l),.imm (lnD o)]/\h.Ok/\r.Ok h/\r≠.turns/\Lines h l/\Ord h.ss.length o/\K (.imm (.int (sent h r l 0 o:Nat))) []
def FI:SpM:=λa K=>∃(h:Hall) (r:Rule) (l:List Nat) (m:Mv),a=[.imm h.d,.imm r.d,.imm (lnD l),.imm m.d]/\h.Ok/\r.Ok h/\r≠.turns/\Lines h l/\m.Ok h/\K (.imm (lwD ((gJ h r l 0 m).1,(gJ h r l 0 m).2.2))) []
def Fx:SpM:=λb K=>∃(h:Hall) (r1 a:Rule) (t:Tr) (m:Mv),b=[.imm h.d,.imm r1.d,.imm a.d,.imm (trD t),.imm m.d]/\h.Ok/\r1.Ok h/\a.Ok h/\r1≠.turns/\a≠.turns/\Lines h t.1/\Lines h t.2.1/\m.Ok h/\K (.imm (trD (bth h r1 a t m))) []
def Rk:Rule->Prop
 | .two=>True
 | .least=>True
 | .quick=>True
 |_=>False
def rsO(r:Rule)(os:List Nat):List Nat:=match r with
 | .two=>os.take 1
 |_=>os
def ltO(h:Hall)(l:List Nat)(r:Rule):Nat->Nat->Bool:=match r with
 | .quick=>cc h l
 |_=>bQ l
def zK{x:Nat}(h:x∈rsO r os):x∈os:=by
 cases r<;>first|exact h|exact abH h
theorem SG{l:List Nat}{o:Nat}(a:Rk r):sent h r l 0 (o::os)=M7.pick (ltO h l r) o (rsO r os):=by
 cases r with
 |two=>exact M7.pick_self (lt:=bQ l) (k:=o) (ks:=os.take 1) (by unfold bQ;simp)
 |least=>exact M7.pick_self (lt:=bQ l) (k:=o) (ks:=os) (by unfold bQ;simp)
 |quick=>exact M7.pick_self (lt:=cc h l) (k:=o) (ks:=os) (by unfold cc;simp)
 |random=>exact a.elim
 |turns=>exact a.elim
 |told _=>exact a.elim
theorem u5{lt:Nat->Nat->Bool}{n:Nat}:∀{ks:List Nat}{b:Nat},b<n->(∀k∈ks,k<n)->M7.pick lt b ks<n
 |[],b,hb,_=>hb
 |k::ks,b,hb,h=>by
  show M7.pick lt (if lt k b then k else b) ks<n;refine u5 ?_ λz a=>h z (aad _ a);split
  .exact h k aac
  .exact hb
def uF:SpM:=λb K=>∃(t:aD) (c mo:Nat),b=[.tr t,.imm (.int (mo:Int))]/\TapeK c t/\c<800000000/\2≤mo/\∀(h:Hall) (a:aD),h.Ok->(M3.allR h.rs).length≤mo->TapeK (c+20) a->K (.imm h.d) [[a]]
theorem SvK.tail{p:Nat×Nat}{ps:List (Nat×Nat)}{mo:Nat}(h:SvK (p::ps))(c:∀r∈bj (p::ps),r≤1)(f:2≤mo)(d:mo<(M3.allR (bj (p::ps))).length):SvK ps/\(bj (jo ps)).sum<(bj (p::ps)).sum:=by
 rw[M7.allR_cnt]at d;have b:=zP c;have l:(bj (p::ps)).length=ps.length+1:=by simp[bj]
 have i:=h.2.2 p aac;have e:=h.2.1;rw[aaw]at e;refine⟨⟨?_,by omega,λq a=>h.2.2 q (aad _ a)⟩,?_⟩
 .cases ps with
  |nil=>rw[l]at b;simp at b;omega
  |cons q ps=>simp
 .have:=(kj (ps:=ps) λq a=>(h.2.2 q (aad _ a)).2.2.1).1;have g:(bj (p::ps)).sum=p.2+(bj ps).sum:=by simp[bj]
  omega
def AH(a:h.Ok):1≤(mvs h).length/\(mvs h).length≤1000:=by
 have n1:=a.n1;have n4:=a.n4;unfold mvs;rw[aam,aam,lD,lD,abb];generalize h.ss.length=n at *;have:(ordK n n).length≤24:=by
  rcases (show n=1\/n=2\/n=3\/n=4 by omega)with rfl|rfl|rfl|rfl<;>decide
 simp;omega
def wyD:Wy->aD
 |none=>.tuple [.int (-1),.none]
 |some (a,m)=>.tuple [.int (a:Int),m.d]
def rl(r1 r2:Rule)(s:Nat):Rule:=if s=0 then r1 else r2
abbrev Ck:=Nat×List Nat
def skD(p:Ck):aD:=.tuple [.int (p.1:Int),lnD p.2]
def stv(h:Hall)(r1 r2:Rule)(p:Ck):List aD:=(mvs h).map λm=>ksD (kst h (rl r1 r2 p.1) p.2 m)
def jp(h:Hall)(r1 r2:Rule)(C:List Ck):List (aD×aD):=C.map λp=>(skD p,.list (stv h r1 r2 p))
structure CaOk(h:Hall)(C:List Ck):Prop where
 nd:C.Nodup
 ok:∀p∈C,p.1<2/\Lines h p.2
theorem CaOk.len{C:List Ck}(X:CaOk h C):C.length≤2*(M3.allR h.rs).length:=by
 have:=kg X.nd (m:=(M3.allR h.rs).map (λl=>(0,l))++(M3.allR h.rs).map (λl=>(1,l))) λp a=>by
  let⟨b,q⟩:=X.ok p a;have m:=jW q.fits;rcases (show p.1=0\/p.1=1 by omega)with e|e
  .exact aaZ _ (aal.mpr ⟨p.2,m,by rw[<-e]⟩)
  .exact aaz _ (aal.mpr ⟨p.2,m,by rw[<-e]⟩)
 rw[aam,lD,lD]at this;omega
def F7(p q:Ck):aai (skD p) (skD q)=decide (p=q):=by
 show(aai (.int _) (.int _)&&(aai (lnD p.2) (lnD q.2)&&true))=_;rw[kU,adK,ce,abI];simp[Prod.ext_iff]
theorem st_look{h:Hall}{r1 r2:Rule}{p:Ck}:∀{C:List Ck},dF (skD p) (jp h r1 r2 C)=if p∈C then some (.list (stv h r1 r2 p))else none
 |[]=>rfl
 | q::C=>by
  show(if aai (skD q) (skD p)=true then some (afd (stv h r1 r2 q))else dF (skD p) (jp h r1 r2 C))=_;rw[F7]
  by_cases e:q=p
  .rw[if_pos (decide_eq_true e),if_pos (by rw[e];exact aac),e]
  .rw[if_neg (by rw[decide_eq_false e];exact aaq),st_look]
   by_cases c:p∈C
   .rw[if_pos c,if_pos (aad _ c)]
   .rw[if_neg c,if_neg λz=>(aak.mp z).elim (λz=>e z.symm) c]
theorem FH{h:Hall}{r1 r2:Rule}{p:Ck}:∀{C:List Ck},p∉C->putP (skD p) (.list (stv h r1 r2 p)) (jp h r1 r2 C)=jp h r1 r2 (C++[p])
 |[],_=>rfl
 |q::C,n=>by
  let⟨n1,n2⟩:=not_or.mp λw=>n (aak.mpr w);show(if aai (skD q) (skD p)=true then _ else _::putP (skD p) _ (jp h r1 r2 C))=_;rw[F7,if_neg (by rw[decide_eq_false λe=>n1 e.symm];exact aaq),FH n2];rfl
theorem GF{h:Hall}{s:Nat}{l:List Nat}:kyD (skD (s,l))=true:=by
 have n:∀l:List Nat,hkA (natD l)=true:=λl=>by
  induction l with
  |nil=>rfl
  |cons x l i=>show(hkD _&&hkA (natD l))=true;rw[i];rfl
 have q:=bw (k:=1) (ds:=[.int (s:Int),lnD l]) λd hd=>by
  rcases aak.mp hd with e|e
  .rw[e];exact(cC _).mono (by decide)
  .rw[aah.mp e];exact bw (b6 _)
 have hk:hkD (skD (s,l))=true:=by
  show(true&&(hkD (lnD l)&&true))=true;rw[show hkD (lnD l)=true from n l];rfl
 unfold kyD;rw[hk,show(skD (s,l)).canLay0=true from q.cl,decide_eq_true (show(skD (s,l)).depth≤7 from aaD q.dp (by decide))];rfl
def JK{r1 r2:Rule}(C:List Ck):kyA (jp h r1 r2 C)=true:=by
 unfold kyA jp;rw[aea,abr];exact λp _=>GF (h:=h)
theorem zH{kvs:List (aD×aD)}(h:kyA kvs=true):g9 (.dict (lfKV kvs))=none:=by
 cases kvs with
 |nil=>rfl
 |cons q kvs=>
  let⟨k,d⟩:=q;rw[kyA,ab2,aaS]at h;let⟨ds,rfl,_⟩:=gW h.1;rfl
def scQ(h:Hall)(r1 r2:Rule)(C:List Ck)(L:List (Pk×Int))(T:List Tr)(Y:List Wy):aD:=insT "Search" [("hall",h.d),("rules",.tuple [r1.d,r2.d]),("moves",.dict [(.none,.list ((mvs h).map Mv.d))]),("steps",.dict (lfKV (jp h r1 r2 C))),("leads",.dict (lfKV (ldD L))),("triples",.list (T.map trD)),("ways",.list (Y.map wyD))]
theorem j9(T:List Tr):cY (T.map trD)=some (T.map trD):=by
 induction T with
 |nil=>rfl
 |cons x l i=>show(match g9 (trD x),cY (l.map trD)with|some d,some ds=>some (d::ds)|_,_=>none)=_;rw[i];rfl
def xu(y:Wy):g9 (wyD y)=some (wyD y):=by rcases y with _|⟨a,m⟩<;>rfl
theorem qQ(Y:List Wy):cY (Y.map wyD)=some (Y.map wyD):=by
 induction Y with
 |nil=>rfl
 |cons x l i=>show(match g9 (wyD x),cY (l.map wyD)with|some d,some ds=>some (d::ds)|_,_=>none)=_;rw[i,xu];rfl
def UD(T:List Tr):(T.map trD).map lfD=T.map trD:=by
 rw[aa4];exact abM λx _=>rfl
def SX(Y:List Wy):(Y.map wyD).map lfD=Y.map wyD:=by
 rw[aa4];exact abM λy _=>by rcases y with _|⟨a,m⟩<;>rfl
structure GoodR(h:Hall)(r1 r2:Rule):Prop where
 o:h.Ok
 k1:r1.Ok h
 k2:r2.Ok h
 n1:r1≠.turns
 n2:r2≠.turns
theorem GoodR.rl{r1 r2:Rule}(G:GoodR h r1 r2)(s:Nat):(rl r1 r2 s).Ok h/\rl r1 r2 s≠.turns:=by
 unfold K.rl;split
 .exact⟨G.k1,G.n1⟩
 .exact⟨G.k2,G.n2⟩
def re:SpM:=λc K=>∃(h:Hall) (r1 a:Rule) (C:List Ck) (L:List (Pk×Int)) (T:List Tr) (Y:List Wy) (s:Nat) (l:List Nat),c=[.tr (scQ h r1 a C L T Y),.imm (.int (s:Int)),.imm (lnD l)]/\GoodR h r1 a/\(M3.allR h.rs).length≤400/\CaOk h C/\s<2/\Lines h l/\∀b,CaOk h b->K (.imm (.list (stv h r1 a (s,l)))) [[scQ h r1 a b L T Y]]
def Fc:SpM:=λc K=>∃(h:Hall) (r1 a:Rule) (C:List Ck) (L:List (Pk×Int)) (T:List Tr) (Y:List Wy) (t:Tr),c=[.tr (scQ h r1 a C L T Y),.imm (trD t)]/\GoodR h r1 a/\(M3.allR h.rs).length≤400/\CaOk h C/\Lines h t.1/\Lines h t.2.1/\∀b,CaOk h b->K (.new ((mvs h).map λm=>trD (bth h r1 a t m))) [[scQ h r1 a b L T Y]]
def IU:SpM:=λc K=>∃(h:Hall) (r1 b:Rule) (C:List Ck) (L:List (Pk×Int)) (T:List Tr) (Y:List Wy) (t:Tr) (y:Wy) (a:Int) (d:aD),c=[.tr (scQ h r1 b C L T Y),.imm (trD t),.imm (.int a),.imm d]/\wyD y = .tuple [.int a,d]/\h.Ok/\(∀p∈L,Lines h p.1.1/\Lines h p.1.2)/\Lines h t.1/\Lines h t.2.1/\L.length≤200000/\T.length≤200000/\Y.length≤200000/\(t.2.2<(lkL (t.1,t.2.1) L).getD (t.2.2+1)->K (.imm .none) [[scQ h r1 b C (setL (t.1,t.2.1) t.2.2 L) (T++[t]) (Y++[y])]])/\(∀w,lkL (t.1,t.2.1) L=some w->w≤t.2.2->K (.imm .none) [[scQ h r1 b C L T Y]])
structure WyOk(Y:List Wy)(P:List (List Mv)):Prop where
 ly:Y.length=P.length
 wy:∀(k:Nat) (p:List Mv),P[k]?=some p->(p=[]/\Y[k]?=some none)\/∃(a:Nat) (m:Mv) (q:List Mv),a<k/\P[a]?=some q/\p=q++[m]/\Y[k]?=some (some (a,m))
def ye:SpM:=λb K=>∃(h:Hall) (r1 a:Rule) (C:List Ck) (L:List (Pk×Int)) (T:List Tr) (Y:List Wy) (P:List (List Mv)) (i:Nat) (p:List Mv),b=[.tr (scQ h r1 a C L T Y),.imm (.int (i:Int))]/\WyOk Y P/\Y.length≤200000/\P[i]?=some p/\K (.imm (.tuple (p.map Mv.d))) [[scQ h r1 a C L T Y]]
def yh:SpM:=λb K=>∃(h:Hall) (r1 a:Rule),b=[.tr (scQ h r1 a [] [((zer h,zer h),0)] [stT h] [none])]/\GoodR h r1 a/\(M3.allR h.rs).length≤400/\nP h*(nP h+2)≤190000/\(∀(R:List Mv) (C:List Ck) (L:List (Pk×Int)) (T:List Tr) (Y:List Wy),RunK h R->bad (wlk h r1 a R)=true->Min h r1 a R.length->R.length≤200000->K (.imm (.tuple (R.map Mv.d))) [[scQ h r1 a C L T Y]])/\(∀(C:List Ck) (L:List (Pk×Int)) (T:List Tr) (Y:List Wy),K7 h r1 a->DkOk h L->(∀Z:List Tr,Z.Perm (ldT L)->Nvr h r1 a Z/\∀t∈Z,TrOk h t)->K (.imm .none) [[scQ h r1 a C L T Y]])
def yT:SpM:=λb K=>∃(h:Hall) (r1 a:Rule) (C:List Ck) (L:List (Pk×Int)) (T:List Tr) (Y:List Wy),b=[.tr (scQ h r1 a C L T Y)]/\h.Ok/\DkOk h L/\L.length<100000/\∀Z:List Tr,Z.Perm (ldT L)->K (.imm (prD' Z)) [[scQ h r1 a C L T Y]]
def Bh:SpI:=λds K=>∃(h:Hall) (r1 a:Rule),ds=[h.d,r1.d,a.d]/\h.Ok/\K (scQ h r1 a [] [((zer h,zer h),0)] [stT h] [none])
def yV:SpM:=λb K=>∃(h:Hall) (r1 a:Rule),b=[.imm h.d,.imm r1.d,.imm a.d]/\GoodR h r1 a/\(M3.allR h.rs).length≤400/\nP h*(nP h+2)≤190000/\(∀R:List Mv,RunK h R->bad (wlk h r1 a R)=true->Min h r1 a R.length->R.length≤200000->K (.imm (.tuple [.str "worse",.tuple (R.map Mv.d)])) [])/\(∀Z:List Tr,K7 h r1 a->Nvr h r1 a Z->(∀t∈Z,TrOk h t)->Z.length≤100000->K (.imm (.tuple [.str "never",prD' Z])) [])
section
variable {h:Hall}{r1 r2:Rule}{C:List Ck}{L:List (Pk×Int)}{T:List Tr}{Y:List Wy}{m:MSt}{k:Nat}{P:L2.R->Prop}
def ou(e:m.os[k]?=some [scQ h r1 r2 C L T Y])(ky:kyA (ldD L)=true)(a:P (.at k [5])):fGot m "Search" k [] "leads" P:=uc e rfl rfl rfl (zH ky) a
def uu(e:m.os[k]?=some [scQ h r1 r2 C L T Y])(a:P (.at k [4])):fGot m "Search" k [] "steps" P:=uc e rfl rfl rfl (zH (JK (h:=h) C)) a
end
def uK{k:Nat}{p:List Nat}{j:Nat}(y:Wy):fC k p j (wyD y) = .imm (wyD y):=by unfold fC;rw[xu]
def Ay{a:Type}{l:List a}{f:a->aD}{j:Nat}{x:a}(e:l[j]?=some x):ixN (l.map f).length (j:Int)=some j/\(l.map f)[j]?=some (f x):=⟨JR (by rw[lD];exact(AD.mp e).1),by rw[aae,e];rfl⟩
theorem pQ:∀{a b:List Nat},a.length=b.length->smDs (natD a) (natD b)=true
 |[],[],_=>rfl
 |x::a,y::b,e=>by
  show(true&&smDs (natD a) (natD b))=true;rw[pQ (by simpa using e)];rfl
theorem zG{k β:Type}{f:k->β}{z l:List β}(p:z.Perm l):∀{m:List k},z=m.map f->∃g:List k,g.Perm m/\l=g.map f:=by
 induction p with
 |nil=>intro m e;exact⟨m,.refl _,e⟩
 | cons a p o=>
  intro m e
  cases m with
  |nil=>cases e
  |cons b m=>
   injection e with d c
   let⟨g,t,n⟩:=o c;exact⟨b::g,t.cons b,by rw[aan,d,n]⟩
 | swap a b l=>
  intro m e
  cases m with
  |nil=>cases e
  | cons x m=>
   cases m with
   |nil=>cases e
   |cons y m=>
    injection e with d c
    injection c with c e3
    exact⟨y::x::m,.swap _ _ _,by rw[aan,aan,d,c,e3]⟩
 |trans u v i j=>
  intro m e;let⟨m1,s,d⟩:=i e;let⟨m2,q,c⟩:=j d;exact⟨m2,q.trans s,c⟩
def itL(q:Pk×Int):aD:=.tuple [pkD q.1,.int q.2]
def Gh(L:List (Pk×Int)):fZ (ldD L)=L.map itL:=by unfold fZ ldD;rw[aa4];rfl
def PJ{L:List (Pk×Int)}(D:DkOk h L)(n:L.length<100000):SrtT (fZ (ldD L)):=by
 rw[Gh];refine⟨⟨by rw[lD];exact n,λx c y f=>?_,λx c=>?_,λx c=>?_⟩,trivial⟩
 .obtain⟨a,ha,rfl⟩:=aal.mp c;let⟨b,e,rfl⟩:∃b,b∈L/\itL b=y:=aal.mp f;show((smDs (natD a.1.1) (natD b.1.1)&&(smDs (natD a.1.2) (natD b.1.2)&&true))&&(true&&true))=true;rw[pQ ((D.ln a ha).1.1.trans (D.ln b e).1.1.symm),pQ ((D.ln a ha).2.1.trans (D.ln b e).2.1.symm)];rfl
 .obtain⟨a,ha,rfl⟩:=aal.mp c;rfl
 .obtain⟨a,ha,rfl⟩:=aal.mp c;exact aaD (bw (k:=2) (ds:=[pkD a.1,.int a.2]) λd hd=>by
   obtain rfl|hd:=aak.mp hd
   .exact bw λd hd=>by
     obtain rfl|hd:=aak.mp hd
     .exact bw (b6 _)
     .rw[aah.mp hd];exact bw (b6 _)
   .rw[aah.mp hd];exact(cC _).mono (by decide)).dp (by decide)
def Ki:∀j≤3,∀o∈ordK j j,∀q≤j,o.take q++[j]++o.drop q∈ordK (j+1) (j+1):=by decide +kernel
def yp:∀n≤4,∀o∈ordK n n,o.reverse∈ordK n n/\o.length=n:=by decide +kernel
def vh:SpM:=λb K=>∃(t:aD) (c n:Nat),b=[.tr t,.imm (.int (n:Int))]/\TapeK c t/\c<800000000/\1≤n/\n≤4/\∀(o:List Nat) (a:aD),o∈ordK n n->TapeK (c+10) a->K (.imm (lnD o)) [[a]]
def FE:SpM:=λa K=>∃(h:Hall) (o:List Nat) (mv:Mv),a=[.imm (lnD o),.imm mv.d]/\h.Ok/\o∈ordK h.ss.length h.ss.length/\mv∈mvs h/\K (.imm (cl o mv).d) []
def yP:SpM:=λb K=>∃(h:Hall) (r1 a:Rule) (R:List Mv),b=[.imm h.d,.imm r1.d,.imm a.d,.imm (.tuple (R.map Mv.d))]/\GoodR h r1 a/\RunK h R/\K (.imm (.bool (bad (wlk h r1 a R)))) []
def dfS(h:Hall)(L:List Srv):List aD:=(L.map Srv.d).filter λd=>!aai d ((h.ss.map Srv.d).getD 0 .none)
theorem Fq:aai (.list (dfS h h.ss)) (.list [])=alk h:=by
 unfold alk dfS;generalize h.ss.map Srv.d=L;generalize L.getD 0 .none=d0
 induction L with
 |nil=>rfl
 |cons x L i=>
  rw[aej,ab2]
  cases aai x d0 with
  |true=>simpa using i
  |false=>rfl
def lq(s:Srv):Shp 2 s.d:=bw (k:=1) λd hd=>by
 simp only[aak,abZ,or_false]at hd;rcases hd with rfl|rfl
 .exact bw (k:=0) λd hd=>by
   simp only[aak,abZ,or_false]at hd;rcases hd with rfl|rfl<;>exact cC _
 .exact(cC _).mono (by decide)
def Qh:ab5 (.list (dfS h h.ss))=true:=(u7 λd hd=>by
 let⟨s,_,rfl⟩:=aal.mp (afP.mp hd).1;exact lq s).ok (by decide)
theorem rC(c:h.Ok):∃s0:Srv,(h.ss.map Srv.d).getD 0 .none=s0.d/\atI (h.ss.map Srv.d) 0=some s0.d:=by
 cases e:h.ss with
 |nil=>have:=c.n1;rw[e]at this;exact absurd this (by decide)
 |cons a b=>exact⟨a,rfl,aU (j:=0) rfl⟩
def yb{L:List Srv}{s:Srv}{d0:aD}(e:(h.ss.map Srv.d).getD 0 .none=d0):dfS h (L++[s])=dfS h L++if aai s.d d0=true then []else [s.d]:=by
 unfold dfS;rw[aaH,agP,e];show _++[s.d].filter _=_;rw[aej]
 cases aai s.d d0<;>rfl
def Fm{L:List Srv}:(dfS h L).length≤L.length:=aaD (af4 _ _) (by rw[lD];exact aab _)
section
variable {P:aaI}{w:World}{K:aaf}{mg:Str->Option Ad}{base:aaW}
def zg(T:Bl K mg)(D:DefM K mg "is_less" o7 ["one","other"]):FnM P w K mg base "is_less" 1 2 Gj:=by
 refine aV D zy rfl (nN:=2) rfl (by decide) ?ar λg A outer s H E f p=>⟨_,(aa (ag (dE ix (af bJ (ae (mv' 0) mh') (ae (mv' 1) mh')) (af bJ (ae (mv' 1) mh') (ae (mv' 0) mh')) (aB _)))),?_⟩
 case ar=>intro j i ⟨a,b,c,d,rfl,_⟩;rfl
 intro j i m ⟨a,b,c,d,rfl,n,q,o,hd,k⟩;refine ah (MSt.mk [some (.imm (.tuple [.int a,.int b])),some (.imm (.tuple [.int c,.int d]))] [] 0) rfl ?_;ext s;have e:decide ((a:Int)*(d:Int)<(c:Int)*(b:Int))=decide (a*d<c*b):=by
  rw[<-adQ,<-adQ];exact decide_eq_decide.mpr Int.ofNat_lt
 rw[e];exact k
theorem wM(T:Bl K mg)(D:DefM K mg "is_alike" ko ["hall"]):FnM P w K mg base "is_alike" 1 1 F9:=by
 refine aV D jb rfl (nN:=3) rfl (by decide) ?ar λv A outer s H E f B=>⟨_,(mz' (ay 1 jb.nd (ae (mv' 0) mh'))
   (mz' (cZ (bC (mv' 1)) (am 2 jb.nd) (aa (bc (ap (j4 B.units) (mv' 2) (ae (mv' 1) mh') (aB _)) (aa (ag ng)) aA)) aa1)
   (aa (ag ng)))),?_⟩
 case ar=>intro G y ⟨h,rfl,_⟩;rfl
 intro G y I ⟨h,rfl,z,k⟩;have n1:=z.n1;refine ah (MSt.mk [some (.imm (.tuple [.tuple [.int h.a,.int h.b],.tuple (h.ss.map Srv.d),.bool h.mv])),none,none] [] 0) rfl ?_;ext s;have u:∀d∈h.ss.map Srv.d,Shp 2 d:=λd hd=>by
  let⟨s,_,rfl⟩:=aal.mp hd;exact bw (k:=1) λd hd=>by
   simp at hd;rcases hd with rfl|rfl
   .exact bw (k:=0) λd hd=>by
     simp at hd;rcases hd with rfl|rfl<;>exact cC _
   .exact(cC _).mono (by decide)
 have p:(h.ss.map Srv.d).length=h.ss.length:=lD ..;unfold alk at k;generalize h.ss.map Srv.d=ss at *;let⟨s0,o,F⟩:=Gf (xs:=ss) (i:=0) (by decide) (by omega);have C:ss.getD 0 .none=s0:=by rw[aaa];have:ss[0]?=some s0:=o;rw[this];rfl
 rw[C]at k;refine c6 (λi m=>∃c,m=MSt.mk [some (.imm (.tuple [.tuple [.int h.a,.int h.b],.tuple ss,.bool h.mv])),some (.imm (.tuple ss)),c] [] 0/\∀(j:Nat) s,j<i->ss[j]?=some s->aai s s0=true) ⟨none,rfl,λj s a=>by omega⟩ ?_ ?_
 .rintro i s m e n ⟨c,rfl,hp⟩;ext s;refine' aP (d:=s0) ?ea ?_
  case ea=>exact F
  refine x_ne rfl rfl ((u s (Io e)).ok (by decide)) ((u s0 (Io o)).ok (by decide)) ?_;ext s
  cases q:aai s s0 with
  |false=>
   refine iy ?_;ext s;have:(ss.all λs=>aai s s0)=false:=List.all_eq_false.mpr ⟨s,Io e,by rw[q];exact aaq⟩;rw[this]at k;exact k
  |true=>
   refine iI ?_;ext s;refine⟨_,rfl,λj t a b=>?_⟩
   by_cases g:j=i
   .subst g;rw[e]at b;cases b;exact q
   .exact hp j t (by omega) b
 .rintro m n ⟨c,rfl,hp⟩;ext s;have:(ss.all λs=>aai s s0)=true:=abr.mpr λs x=>by
   let⟨j,a,ej⟩:=abY.mp x;exact hp j s a (by rw[iO a,ej])
  rw[this]at k;exact k
theorem jN(T:Bl K mg)(D:DefM K mg "place_of_lines" dn ["hall","lines"]):FnM P w K mg base "place_of_lines" 1 2 Bm:=by
 refine aV D b9 rfl (nN:=5) rfl (by decide) ?ar λp A outer s H E f C=>⟨_,(mz' (ay 2 b9.nd mh')
   (mz' (cZ (ui T.zip (mc' (mv' 1) (mc' (ae (mv' 0) mh') mn'))) (bg (n:=2) (ac (am 3 b9.nd) (ac (am 4 b9.nd) aM))) (aa (ay 2 b9.nd (af aG (af bJ (mv' 2) (af aG (ae (mv' 4) mh') mh')) (mv' 3)))) aa1)
   (aa (ag (mv' 2))))),?_⟩
 case ar=>intro v q ⟨h,l,rfl,_⟩;rfl
 intro v q z ⟨h,l,rfl,t,j,k⟩;refine ah (MSt.mk [some (.imm (.tuple [.tuple [.int h.a,.int h.b],.tuple (h.ss.map Srv.d),.bool h.mv])),some (.imm (.tuple (natD l))),none,none,none] [] 0) rfl ?_;ext s;refine⟨true,_,true,_,rfl,rfl,?_⟩;refine c6 (λi m=>∃a b,m=MSt.mk [some (.imm (.tuple [.tuple [.int h.a,.int h.b],.tuple (h.ss.map Srv.d),.bool h.mv])),some (.imm (.tuple (natD l))),some (.imm (.int (M7.placeF 0 (h.rs.take i) (l.take i):Nat))),a,b] [] 0) ⟨none,none,rfl⟩ ?_ ?_
 .rintro i d m e n ⟨a,b,rfl⟩;let⟨a1,b1,c,g,rfl⟩:=tx e;let⟨x,ex,rfl,y⟩:=gmap c;let⟨s,o,rfl,B⟩:=gmap g;have r6:=(t.ok s (Io o)).r6;rw[M7.placeF_take (Hall.rs_get o) ex];dsimp only[Srv.d];ext s
  .rfl
  ext s;generalize M7.placeF 0 (h.rs.take i) (l.take i)=P;have u:(P:Int)*((s.r:Int)+1)+(x:Int)=((P*(s.r+1)+x:Nat):Int):=by
   rw[aeA,adQ,aeA];rfl
  rw[u];exact⟨_,_,rfl⟩
 .rintro m n ⟨a,b,rfl⟩;have c:min (natD l).length (h.ss.map Srv.d).length=l.length:=by rw[aH,lD];have:=j.1;omega
  rw[dt,c];have g:h.rs.take l.length=h.rs:=by rw[j.1,<-h.rsl];exact aax
  rw[g,aax];ext s;exact k
theorem jT(T:Bl K mg)(D:DefM K mg "first_shortest" dj ["lines","order"]):FnM P w K mg base "first_shortest" 1 2 m8:=by
 refine aV D cw rfl (nN:=4) rfl (by decide) ?ar λq A outer s H E f C=>⟨_,(mz' (ay 2 cw.nd (ae (mv' 1) mh'))
   (mz' (cZ (bC (mv' 1)) (am 3 cw.nd) (aa (bc (ap ix (ae (mv' 0) (mv' 3)) (ae (mv' 0) (mv' 2)) (aB _)) (aa (ay 2 cw.nd (mv' 3))) aA)) aa1)
   (aa (ag (mv' 2))))),?_⟩
 case ar=>intro x u ⟨l,o,rfl,_⟩;rfl
 intro x u z ⟨l,o,rfl,g,k⟩;let⟨c,os,rfl,B⟩:=g.cons;refine ah (MSt.mk [some (.imm (.tuple (natD l))),some (.imm (.tuple (natD (c::os)))),none,none] [] 0) rfl ?_;ext s;refine aP (aU (j:=0) (bf rfl)) ?_;ext s;refine c6 (λi m=>∃a,m=MSt.mk [some (.imm (.tuple (natD l))),some (.imm (.tuple (natD (c::os)))),some (.imm (.int (M7.pick (bQ l) c ((c::os).take i):Nat))),a] [] 0) ⟨none,rfl⟩ ?_ ?_
 .rintro i d m e n ⟨a,rfl⟩;let⟨j,ej,rfl,y⟩:=gmap e;have t:=g.lt j (Io ej);have p:M7.pick (bQ l) c ((c::os).take i)<l.length:=kI g i;have v:(c::os).take (i+1)=(c::os).take i++[j]:=by rw[aaO,ej];rfl
  rw[v,M7.pick_app];generalize M7.pick (bQ l) c ((c::os).take i)=b at p;ext s;refine aP (aU (bf (getN rfl t))) ?_;ext s;refine aP (aU (bf (getN rfl p))) ?_;ext s;refine aY (λh=>?_) (λh=>?_)
  .ext s;rw[if_pos (show bQ l j b=true from decide_eq_true (by omega))];exact⟨_,rfl⟩
  .ext s;rw[if_neg (show ¬bQ l j b=true by unfold bQ;rw[decide_eq_true_eq];omega)];exact⟨_,rfl⟩
 .rintro m n ⟨a,rfl⟩;rw[aH,aax];ext s;exact k
theorem xW(T:Bl K mg)(D:DefM K mg "wait_at" oG ["hall","lines","line"]):FnM P w K mg base "wait_at" 1 3 Gn:=by
 refine aV D j5 rfl (nN:=5) rfl (by decide) ?ar λi A outer s H E f x=>⟨_,(mz' (ck (ae (ae (ae (mv' 0) mh') (mv' 2)) mh') (bg (n:=2) (ac (am 3 j5.nd) (ac (am 4 j5.nd) aM))))
   (aa (ag (aq (mc' (af bJ (af aG (ae (mv' 1) (mv' 2)) mh') (mv' 4)) (mc' (mv' 3) mn')))))),?_⟩
 case ar=>intro u m ⟨h,l,j,rfl,_⟩;rfl
 intro u m v ⟨h,l,j,rfl,o,c,a,k⟩;let⟨s,p,b,eb,q⟩:=h.srv a;have g:=o.ok s q;have b2:=g.b2;rw[b,eb]at k;have t:=getN c.1 a;refine ah (MSt.mk [some (.imm (.tuple [.tuple [.int h.a,.int h.b],.tuple (h.ss.map Srv.d),.bool h.mv])),some (.imm (.tuple (natD l))),some (.imm (.int (j:Int))),none,none] [] 0) rfl ?_;ext s;refine aP (d:=s.d) (aU (by rw[aae,p];rfl)) ?_;dsimp only[Srv.d];ext s
 .rfl
 ext s;refine aP (aU (bf t)) ?_;ext s;have e:(((l.getD j 0:Nat):Int)+1)*(s.b:Int)=(((l.getD j 0+1)*s.b:Nat):Int):=by
  rw[adQ,aeA];rfl
 rw[e];exact k
theorem jS(T:Bl K mg)(D:DefM K mg "first_quickest" dq ["hall","lines","order"])(G:FnM P w K mg base "wait_at" 1 3 Gn)(g:FnM P w K mg base "is_less" 1 2 Gj):FnM P w K mg base "first_quickest" 2 3 nq:=by
 refine aV D bG rfl (nN:=7) rfl (by decide) ?ar λO A outer s H E f x=>⟨_,(mz' (ay 3 bG.nd (ae (mv' 2) mh'))
   (mz' (ay 4 bG.nd (mf' G (x.mono (by decide)) (mc' (mv' 0) (mc' (mv' 1) (mc' (mv' 3) mn')))))
   (mz' (cZ (bC (mv' 2)) (am 5 bG.nd) (mz' (ay 6 bG.nd (mf' G (x.mono (by decide)) (mc' (mv' 0) (mc' (mv' 1) (mc' (mv' 5) mn')))))
   (aa (bc (c5 (mf' g (x.mono (by decide)) (mc' (mv' 6) (mc' (mv' 4) mn')))) (aa (ik (i:=3) (j:=4) bG.nd rfl rfl (by decide) rfl rfl (mc' (mv' 5) (mc' (mv' 6) mn')) rfl)) aA))) aa1)
   (aa (ag (mv' 3)))))),?_⟩
 case ar=>intro Q I ⟨h,l,o,rfl,_⟩;rfl
 intro Q I R ⟨h,l,o,rfl,u,t,v,k⟩;let⟨c,os,rfl,N⟩:=v.cons;have z:∀j,j<h.ss.length->(l.getD j 0+1)*h.bn j<1000000000000/\h.an j<1000000000000:=λj p=>by
  let⟨s,V,C,eb,L⟩:=h.srv p;have y:=u.ok s L;have S:=t.le u _ (Io (getN t.1 p));rw[C,eb];have:=y.a2;have:(l.getD j 0+1)*s.b≤7*1000000:=adl (by omega) (by have:=y.b2;omega);omega
 refine ah (MSt.mk [some (.imm h.d),some (.imm (.tuple (natD l))),some (.imm (.tuple (natD (c::os)))),none,none,none,none] [] 0) rfl ?_;ext s;refine aP (aU (j:=0) (bf rfl)) ?_;ext s;refine⟨h,l,c,rfl,u,t,N,?_⟩;ext x;refine c6 (λi m=>∃a b,m=MSt.mk [some (.imm h.d),some (.imm (.tuple (natD l))),some (.imm (.tuple (natD (c::os)))),some (.imm (.int (M7.pick (cc h l) c ((c::os).take i):Nat))),some (.imm (frD ((l.getD (M7.pick (cc h l) c ((c::os).take i)) 0+1)*h.bn (M7.pick (cc h l) c ((c::os).take i)):Nat) (h.an (M7.pick (cc h l) c ((c::os).take i)):Nat))),a,b] [] 0) ⟨none,none,rfl⟩ ?_ ?_
 .rintro i d m e n ⟨a,b,rfl⟩;let⟨j,ej,rfl,U⟩:=gmap e;have p:=v.lt j (Io ej);have B:M7.pick (cc h l) c ((c::os).take i)<h.ss.length:=kI v i;have M:(c::os).take (i+1)=(c::os).take i++[j]:=by rw[aaO,ej];rfl
  rw[M,M7.pick_app];generalize M7.pick (cc h l) c ((c::os).take i)=b at B;ext s;refine⟨h,l,j,rfl,u,t,p,?_⟩;ext x;let⟨b1,b2⟩:=z j p;let⟨F,J⟩:=z b B;refine⟨_,_,_,_,rfl,b1,b2,F,J,?_⟩;ext x;refine aY (λq=>?_) (λq=>?_)
  .ext s;rw[if_pos (show cc h l j b=true from decide_eq_true q)];exact⟨_,_,rfl⟩
  .ext s;rw[if_neg (show ¬cc h l j b=true by unfold cc;rw[decide_eq_true_eq];exact q)];exact⟨_,_,rfl⟩
 .rintro m n ⟨a,b,rfl⟩;rw[aH,aax];ext s;exact k
theorem zU(T:Bl K mg)(D:DefM K mg "sent_to" o6 ["hall","rule","stand","order"])(G:FnM P w K mg base "first_shortest" 1 2 m8)(a:FnM P w K mg base "first_quickest" 2 3 nq)(b:FnM P w K mg base "place_of_lines" 1 2 Bm):FnM P w K mg base "sent_to" 3 4 u9:=by
 refine aV D i8 rfl (nN:=7) rfl (by decide) ?ar λB A outer s H E f c=>⟨_,(mz' (ck (mv' 2) (bg (n:=2) (ac (am 4 i8.nd) (ac (am 5 i8.nd) aM))))
   (mz' (ay 6 i8.nd (ae (mv' 1) mh'))
   (mz' (bc (ap (bo c.units) (mv' 6) ai (aB _)) (aa (ag (ae (mv' 3) mh'))) aA)
   (mz' (bc (ap (bo c.units) (mv' 6) ai (aB _)) (aa (ag (mv' 5))) aA)
   (mz' (bc (ap (bo c.units) (mv' 6) ai (aB _)) (aa (ag (mf' G (c.mono (by decide)) (mc' (mv' 4) (mc' (fh (cG fu (mv' 3) dU (cQ mh'))) mn'))))) aA)
   (mz' (bc (ap (bo c.units) (mv' 6) ai (aB _)) (aa (ag (mf' G (c.mono (by decide)) (mc' (mv' 4) (mc' (mv' 3) mn'))))) aA)
   (mz' (bc (ap (bo c.units) (mv' 6) ai (aB _)) (aa (ag (mf' a (c.mono (by decide)) (mc' (mv' 0) (mc' (mv' 4) (mc' (mv' 3) mn')))))) aA)
   (aa (ag (ae (ae (mv' 1) mh') (mf' b (c.mono (by decide)) (mc' (mv' 0) (mc' (mv' 4) mn'))))))))))))),?_⟩
 case ar=>intro F C ⟨h,r,l,t,o,rfl,_⟩;rfl
 intro F C I ⟨h,r,l,t,o,rfl,v,q,g,i,k⟩;have p:=g.1;have d:Ord l.length o:=by rw[p];exact i
 cases r with
 |random=>
  refine ah (MSt.mk [some (.imm h.d),some (.imm (.tuple [.str "random"])),some (.imm (.tuple [lnD l,.int (t:Int)])),some (.imm (.tuple (natD o))),none,none,none] [] 0) rfl ?_;ext s
  .rfl
  ext s;refine aY (λ_=>?_) (λz=>(z rfl).elim);let⟨x,os,rfl,y⟩:=i.cons;ext s;refine aP (aU (j:=0) (bf rfl)) ?_;ext s;exact k
 |turns=>
  refine ah (MSt.mk [some (.imm h.d),some (.imm (.tuple [.str "turns"])),some (.imm (.tuple [lnD l,.int (t:Int)])),some (.imm (.tuple (natD o))),none,none,none] [] 0) rfl ?_;ext s
  .rfl
  ext a;ext b;exact k
 | two=>
  refine ah (MSt.mk [some (.imm h.d),some (.imm (.tuple [.str "two"])),some (.imm (.tuple [lnD l,.int (t:Int)])),some (.imm (.tuple (natD o))),none,none,none] [] 0) rfl ?_;ext s
  .rfl
  ext a;ext c;ext s;ext b;have e:cutD (natD o) none (some 2)=natD (o.take 2):=by
   rw[show(2:Int)=((2:Nat):Int)from rfl,sU];simp[natD]
  rw[e];let⟨x,os,rfl,y⟩:=i.cons;refine⟨l,(x::os).take 2,rfl,⟨by simp,λk hk=>d.lt k (abH hk),by rw[aau];omega⟩,?_⟩;ext n;exact k
 |least=>
  refine ah (MSt.mk [some (.imm h.d),some (.imm (.tuple [.str "least"])),some (.imm (.tuple [lnD l,.int (t:Int)])),some (.imm (.tuple (natD o))),none,none,none] [] 0) rfl ?_;ext s
  .rfl
  ext a;ext c;ext a;ext b;refine⟨l,o,rfl,d,?_⟩;ext n;exact k
 |quick=>
  refine ah (MSt.mk [some (.imm h.d),some (.imm (.tuple [.str "quick"])),some (.imm (.tuple [lnD l,.int (t:Int)])),some (.imm (.tuple (natD o))),none,none,none] [] 0) rfl ?_;ext s
  .rfl
  ext a;ext c;ext a;ext c;ext s;ext b;refine⟨h,l,o,rfl,v,g,i,?_⟩;ext n;exact k
 |told u=>
  refine ah (MSt.mk [some (.imm h.d),some (.imm (.tuple [.str "told",.tuple (natD u)])),some (.imm (.tuple [lnD l,.int (t:Int)])),some (.imm (.tuple (natD o))),none,none,none] [] 0) rfl ?_;ext s
  .rfl
  ext a;ext c;ext a;ext c;ext a;refine⟨h,l,rfl,v,g,?_⟩;ext n;have m:M7.placeF 0 h.rs l<u.length:=by rw[q.1,M7.allR_cnt];exact M7.place_lt g.fits
  refine aP (aU (bf (getN rfl m))) ?_;exact k
theorem p6(T:Bl K mg)(D:DefM K mg "first_stand" f9 ["hall"]):FnM P w K mg base "first_stand" 1 1 z7:=by
 refine aV D ph rfl (nN:=1) rfl (by decide) ?ar λc A outer s H E f i=>⟨_,(aa (ag (aq (mc' (af bJ (aq (mc' mh' mn')) (aF bU (by rfl) T.len d7 (mc' (ae (mv' 0) mh') mn'))) (mc' mh' mn'))))),?_⟩
 case ar=>intro d b ⟨h,rfl,_⟩;rfl
 intro d b g ⟨h,rfl,a,k⟩;have n1:=a.n1;have n4:=a.n4;refine ah (MSt.mk [some (.imm (.tuple [.tuple [.int h.a,.int h.b],.tuple (h.ss.map Srv.d),.bool h.mv]))] [] 0) rfl ?_;ext s;rw[lD];refine Gi (by omega) (by omega) (by simp;omega) ?_;ext s;have e:(aas ((h.ss.length:Nat):Int).toNat [abq 0]).flatten=natD (zer h):=by
  rw[abc];simp[zer,natD]
 rw[e];exact k
theorem qT(T:Bl K mg)(D:DefM K mg "all_orders" fg ["hall"]):FnM P w K mg base "all_orders" 1 1 Gm:=by
 refine aV D cR rfl (nN:=4) rfl (by decide) ?ar λQ A outer s H E f X=>⟨_,(mz' (kb (i:=1) cR.nd rfl (ac9 rfl) (aF bU (by rfl) T.len d7 (mc' (ae (mv' 0) mh') mn')))
   (mz' (ay 2 cR.nd (cr (mc' (aq mn') mn')))
   (mz' (cZ (cN (by rfl) T.range (mc' (mv' 1) mn')) (am 3 cR.nd) (aa (yi (i:=2) (own:=["ahead","line"]) (fr:=["many"]) (ps:=[1]) (sc:=(ab fg)) (by exact⟨rfl,by decide +kernel,by decide +kernel,by decide +kernel,by decide +kernel⟩) cR.nd rfl rfl (bC (mv' 2)) (λ_ _ _ _ _=>(am 0 (show aa2 ((["ahead","line"]:List Str)++(["many"]:List Str))from by decide +kernel))) (λ_ _ _ _ _=>bO) (λ_ _ _ _ _=>(cN (by rfl) T.range (mc' (mv' 2) mn'))) (λ_ _ _ _ _=>(am 1 (show aa2 ((["ahead","line"]:List Str)++(["many"]:List Str))from by decide +kernel))) (λ_ _ _ _ _=>(oJ (ap (qP X.units) (mv' 1) (mv' 0) (by with_unfolding_all rfl)))) (λ_ _ _ _ _=>(af aG (mv' 0) (aq (mc' (mv' 1) mn')))))) aa1)
   (aa (ag (mv' 2)))))),?_⟩
 case ar=>intro Y W ⟨h,rfl,_⟩;rfl
 intro Y W hl ⟨h,rfl,L,k⟩;have n1:=L.n1;have n4:=L.n4;refine ah (MSt.mk [some (.imm (.tuple [.tuple [.int h.a,.int h.b],.tuple (h.ss.map Srv.d),.bool h.mv])),none,none,none] [] 0) rfl ?_;ext s;refine fV ?_;ext x;rw[lD];refine⟨by omega,by omega,?_⟩;rw[abc];refine c6 (λi m=>∃a,m=MSt.mk [some (.imm (.tuple [.tuple [.int h.a,.int h.b],.tuple (h.ss.map Srv.d),.bool h.mv])),some (.imm (.int (h.ss.length:Nat))),some (.obj 0),a] [(ordK h.ss.length i).map lnD] 0) ⟨none,rfl⟩ ?_ ?_
 .rintro i d m e n ⟨a,rfl⟩;let⟨Z,rfl⟩:=dw e;let⟨F,t⟩:=nw h.ss.length n4 i (by omega);have p:=mQ h.ss.length n4 i (by omega);rw[show ordK h.ss.length (i+1)=mh h.ss.length (ordK h.ss.length i)from rfl];generalize ordK h.ss.length i=os at F t p;ext s;ext n;refine g6 (λz m=>∃b c,m=MSt.mk [b,c,some (.imm (.int (h.ss.length:Nat)))] [os.map lnD,(mh h.ss.length (os.take z)).map lnD] 2) ⟨none,none,rfl⟩ ?_ ?_ ?_
  .rintro z m ⟨b,c,rfl⟩;rfl
  .rintro z d m ez nz ⟨b,c,rfl⟩;let⟨l,B,rfl,hz⟩:=gmap ez;let⟨O,R⟩:=t l (Io B);have S:=(AD.mp B).1;have J:=p z (by omega);ext s;refine⟨by omega,by omega,?_⟩;rw[abc];let⟨G,g⟩:∃G:Nat->List (List Nat),G=λy=>mh h.ss.length (os.take z)++((aat y).filter λq=>!l.contains q).map λq=>l++[q]:=⟨_,rfl⟩;have v:G 0=mh h.ss.length (os.take z):=by rw[g];simp
   have u:G h.ss.length=mh h.ss.length (os.take (z+1)):=by rw[g,vJ B]
   have o:∀y,G (y+1)=G y++([y].filter λq=>!l.contains q).map λq=>l++[q]:=λy=>by
    rw[g];show _++((aat (y+1)).filter _).map _=_;rw[acH,agP,aaH,aaV]
   have C:∀y,y≤4->(G y).length≤28:=λy N=>by
    rw[g];dsimp only;rw[aam,lD];have:=af4 (λq=>!l.contains q) (aat y);rw[abb]at this;omega
   clear g;rw[<-v];refine cB (λy m=>∃c,m=MSt.mk [some (.imm (lnD l)),c,some (.imm (.int (h.ss.length:Nat)))] [os.map lnD,(G y).map lnD] 2) ⟨c,rfl⟩ ?_ ?_
   .rintro y d m ey ny ⟨c,rfl⟩ D1 hD1 hR1;let⟨N,rfl⟩:=dw ey;rw[show(0:Int)+(y:Int)=((y:Nat):Int) by omega];have M:=C y (by omega);have I:(natD l).any (λx=>aai x (.int (y:Int)))=l.contains y:=by
     rw[abI,afB,List.contains_iff_mem];constructor
     .rintro⟨x,hx,ex⟩;let⟨w,U,rfl⟩:=aal.mp hx;rw[ce]at ex;rw[<-of_decide_eq_true ex];exact U
     .intro hm;exact⟨_,aal.mpr ⟨y,hm,rfl⟩,by rw[ce];exact decide_eq_true rfl⟩
    ext s;refine x_in (d:=.int (y:Int)) (ds:=natD l) rfl (.inr rfl) (cC _) (b6 l) (by decide) ?_;ext s;rw[I]
    cases hc:l.contains y with
    |true=>
     refine iI ?_;ext s;refine hD1 _ ⟨some (.imm (.int (y:Int))),?_⟩;rw[o,show([y].filter λq=>!l.contains q)=[] by rw[aej,hc];rfl,ad6,aa0];rfl
    |false=>
     refine iy ?_;ext s;refine kZ (by rw[aar,aH];simp;omega) ?_;ext s;refine⟨_,rfl,by rw[aar,lD];omega,hD1 _ ⟨some (.imm (.int (y:Int))),?_⟩⟩;rw[o,show([y].filter λq=>!l.contains q)=[y] by rw[aej,hc];rfl,aaH];simp[lnD,natD,MSt.setV]
   .rintro m ny ⟨c,rfl⟩;rw[ba,u];ext s;exact⟨_,_,rfl⟩
  .rintro m nz ⟨b,c,rfl⟩;rw[lD,aax];ext n;refine gA (k:=0) rfl (aab _) (λj V=>?_) ⟨_,rfl⟩
   match j with
   |0|1|3=>exact λz=>by cases z
   |2=>exact(V rfl).elim
   |n+4=>exact λz=>by cases z
 .rintro m n ⟨a,rfl⟩;rw[ba];ext s;exact k
theorem tZ(T:Bl K mg)(D:DefM K mg "all_moves" d9 ["hall"])(G:FnM P w K mg base "all_orders" 1 1 Gm):FnM P w K mg base "all_moves" 2 1 zh:=by
 refine aV D lc rfl (nN:=2) rfl (by decide) ?ar λn A outer s H E f t=>⟨_,(mz' (i6 (i:=1) (own:=["line"]) (fr:=[]) (ps:=[]) (sc:=(ab d9)) (by exact⟨rfl,by decide +kernel,by decide +kernel,by decide +kernel,by decide +kernel⟩) lc.nd rfl rfl (cN (by rfl) T.range (mc' (aF bU (by rfl) T.len d7 (mc' (ae (mv' 0) mh') mn')) mn')) (λ_ _ _ _ _=>(am 0 (show aa2 ((["line"]:List Str)++([]:List Str))from by decide +kernel))) (λ_ _ _ _ _=>bO) (λ_ _ _ _ _=>(aq (mc' ai (mc' (mv' 0) mn')))))
   (aa (ag (af aG (af aG (bM (own:=["order"]) (fr:=[]) (ps:=[]) (sc:=(ab d9)) (by exact⟨rfl,by decide +kernel,by decide +kernel,by decide +kernel,by decide +kernel⟩) (bC (fh (mf' G (t.mono (by decide)) (mc' (mv' 0) mn')))) (λ_ _ _ _ _=>(am 0 (show aa2 ((["order"]:List Str)++([]:List Str))from by decide +kernel))) (λ_ _ _ _ _=>bO) (λ_ _ _ _ _=>(aq (mc' ai (mc' (mv' 0) mn'))))) (mv' 1)) (cr (mc' (aq (mc' ai mn')) mn')))))),?_⟩
 case ar=>intro u q ⟨h,rfl,_⟩;rfl
 intro u q v ⟨h,rfl,g,k⟩;have n4:=g.n4;have x:(ordK h.ss.length h.ss.length).length≤24:=(nw _ n4 _ n4).1;refine ah (MSt.mk [some (.imm (.tuple [.tuple [.int h.a,.int h.b],.tuple (h.ss.map Srv.d),.bool h.mv])),none] [] 0) rfl ?_;ext s;refine⟨by rw[lD];omega,by rw[lD];omega,?_⟩;rw[lD,abc];refine cB (λi m=>∃a:Option L2.R,m=MSt.mk [a] [(aat i).map λk=>(Mv.done k).d] 1) ⟨none,rfl⟩ ?_ ?_
 .rintro i d m e c ⟨a,rfl⟩ D1 hD1 hR1;let⟨j,rfl⟩:=dw e;ext s;refine⟨_,rfl,by rw[aar,lD,abb];omega,hD1 _ ⟨some (.imm (.int (0+(i:Int)))),?_⟩⟩;rw[acH,aaH,show(0:Int)+(i:Int)=((i:Nat):Int) by omega];rfl
 intro m c ⟨a,rfl⟩;rw[ba];ext n;refine fV ?_;ext x;refine⟨h,rfl,g,?_⟩;ext x;refine cB (λi m=>∃a:Option L2.R,m=MSt.mk [a] [(aat h.ss.length).map λk=>(Mv.done k).d,((ordK h.ss.length h.ss.length).take i).map λo=>(Mv.come o).d] 2) ⟨none,rfl⟩ ?_ ?_
 .rintro i d m e c ⟨a,rfl⟩ D1 hD1 hR1;let⟨o,p,rfl,j⟩:=gmap e;ext s;refine⟨_,rfl,by rw[aar,lD,aau];omega,hD1 _ ⟨some (.imm (lnD o)),?_⟩⟩;rw[aaO,p,aaH];rfl
 intro m c ⟨a,rfl⟩;rw[lD,aax];ext x;refine JT (a:=(ordK h.ss.length h.ss.length).map λo=>(Mv.come o).d) (b:=(aat h.ss.length).map λk=>(Mv.done k).d) rfl (by rw[lD,lD,abb,aar];omega) ?_;ext s;refine GZ (by rw[aam,lD,lD,abb,aar];simp;omega) ?_;rw[SE]at k;ext s;exact k
theorem tQ(T:Bl K mg)(D:DefM K mg "with_more" jq ["lines","line","more"]):FnM P w K mg base "with_more" 1 3 oa:=by
 refine aV D ue rfl (nN:=3) rfl (by decide) ?ar λg A outer s H E f o=>⟨_,(aa (ag (af aG (af aG (cG fu (mv' 0) dU (cQ (mv' 1))) (aq (mc' (af aG (ae (mv' 0) (mv' 1)) (mv' 2)) mn'))) (cG fu (mv' 0) (cQ (af aG (mv' 1) mh')) dU)))),?_⟩
 case ar=>intro m i ⟨l,j,d,x,rfl,_⟩;rfl
 intro m i n ⟨l,j,d,x,rfl,a,c,b,k⟩;refine ah (MSt.mk [some (.imm (.tuple (natD l))),some (.imm (.int (j:Int))),some (.imm (.int d))] [] 0) rfl ?_;ext s;refine aP (aU (bf (getN rfl a))) ?_;ext s;rw[b,sU];refine kZ (by rw[aar,aau,aH];simp;omega) ?_;ext s;rw[show(j:Int)+1=((j+1:Nat):Int)from rfl,iE];refine kZ (by rw[aar,aam,aau,acT,aH];simp;omega) ?_;ext s;have e:(natD l).take j++[.int (x:Int)]++(natD l).drop (j+1)=natD (l.set j x):=by
  rw[<-vo,adZ,if_pos (by rw[aH];exact a)];simp
 rw[e];exact k
theorem xR(T:Bl K mg)(D:DefM K mg "come_to" oY ["hall","lines","line"])(G:FnM P w K mg base "with_more" 1 3 oa):FnM P w K mg base "come_to" 2 3 Fy:=by
 refine aV D AY rfl (nN:=3) rfl (by decide) ?ar λn A outer s H E f g=>⟨_,(mz' (bc (ap (bo g.units) (ae (mv' 1) (mv' 2)) (ae (ae (ae (mv' 0) mh') (mv' 2)) mh') (aB _)) (aa (ag (aq (mc' (mv' 1) (mc' ai mn'))))) aA)
   (aa (ag (aq (mc' (mf' G (g.mono (by decide)) (mc' (mv' 1) (mc' (mv' 2) (mc' mh' mn')))) (mc' ai mn')))))),?_⟩
 case ar=>intro q o ⟨h,l,j,rfl,_⟩;rfl
 intro q o u ⟨h,l,j,rfl,p,m,c,k⟩;have a:=m.1;have n4:=p.n4;let⟨s,i,t,eb,v⟩:=h.srv c;have b:h.rn j=s.r:=bp (Hall.rs_get i);refine ah (MSt.mk [some (.imm (.tuple [.tuple [.int h.a,.int h.b],.tuple (h.ss.map Srv.d),.bool h.mv])),some (.imm (.tuple (natD l))),some (.imm (.int (j:Int)))] [] 0) rfl ?_;ext s;refine aP (aU (bf (getN a c))) ?_;ext s;refine aP (d:=s.d) (aU (by rw[aae,i];rfl)) ?_;dsimp only[Srv.d];ext s;refine aY (λz=>?_) (λz=>?_)
 .ext s;have e:bW h l j=(l,.away):=if_pos (by rw[b];omega);rw[e]at k;exact k
 .ext s;refine⟨l,j,1,l.getD j 0+1,rfl,by omega,by omega,rfl,?_⟩;ext x;have e:bW h l j=(l.set j (l.getD j 0+1),.taken):=if_neg (by rw[b];omega);rw[e]at k;exact k
theorem yB(T:Bl K mg)(D:DefM K mg "done_at" oH ["lines","line"])(G:FnM P w K mg base "with_more" 1 3 oa):FnM P w K mg base "done_at" 2 2 EF:=by
 refine aV D x8 rfl (nN:=2) rfl (by decide) ?ar λd A outer s H E f c=>⟨_,(mz' (bc (ap (bo c.units) (ae (mv' 0) (mv' 1)) mh' (aB _)) (aa (ag (aq (mc' (mv' 0) (mc' ai mn'))))) aA)
   (aa (ag (aq (mc' (mf' G (c.mono (by decide)) (mc' (mv' 0) (mc' (mv' 1) (mc' (kq gY mh') mn')))) (mc' ai mn')))))),?_⟩
 case ar=>intro i g ⟨l,j,rfl,_⟩;rfl
 intro i g m ⟨l,j,rfl,b,a,k⟩;refine ah (MSt.mk [some (.imm (.tuple (natD l))),some (.imm (.int (j:Int)))] [] 0) rfl ?_;ext s;refine aP (aU (bf (getN rfl b))) ?_;ext s;refine aY (λz=>?_) (λz=>?_)
 .ext s;have e:cf l j=(l,.none):=if_pos (by omega);rw[e]at k;exact k
 .ext s;refine⟨l,j,-1,l.getD j 0-1,rfl,b,a,by omega,?_⟩;ext x;have e:cf l j=(l.set j (l.getD j 0-1),.served):=if_neg (by omega);rw[e]at k;exact k
theorem sF(T:Bl K mg)(D:DefM K mg "next_shift" ip ["hall","lines"]):FnM P w K mg base "next_shift" 1 2 Af:=by
 refine aV D qE rfl (nN:=2) rfl (by decide) ?ar λG A outer s H E f u=>⟨_,(mz' (bc (EW.pt (oi (lJ (c5 (ae (mv' 0) mh'))) (oi (ap (qP u.units) mh' (mv' 1) (by with_unfolding_all rfl)) (lM (ap ix (aF (d8 rfl) (by rfl) T.max nW (mc' (mv' 1) mn')) mh' (aB _)))))) (aa (ag jz)) aA)
   (aa (ag (aq (mc' (vB acj acO (gf u.units) (mv' 1) (mc' (aF (d8 rfl) (by rfl) T.max nW (mc' (mv' 1) mn')) mn')) (mc' (vB acj acO (gf u.units) (mv' 1) (mc' mh' mn')) mn')))))),?_⟩
 case ar=>intro J I ⟨h,l,rfl,_⟩;rfl
 intro J I M ⟨h,l,rfl,p,F,k⟩;have b:cU (natD l)=some (l.map λ(x:Nat)=>(x:Int)):=by
  have:=dm (l.map λ(x:Nat)=>(x:Int));rwa[aa4]at this
 have c:(l.map λ(x:Nat)=>(x:Int))≠[]:=λz=>p (agu.mp z);have g:∀x:Int,x∈(l.map λ(x:Nat)=>(x:Int))->(∀y∈(l.map λ(x:Nat)=>(x:Int)),y≤x)->x=(maxN l:Int):=λx m a=>by
  let⟨n,C,rfl⟩:=aal.mp m;have N:=uv n C;have L:=a (maxN l:Int) (aal.mpr ⟨maxN l,iQ p,rfl⟩);omega
 have v:(natD l).any (λy=>aai y (.int 0))=decide (0∈l):=by
  rw[abI];rw[afB,decide_eq_true_eq];constructor
  .rintro⟨y,a,e⟩;let⟨x,m,rfl⟩:=aal.mp a;have B:=ce x 0;rw[show((0:Nat):Int)=0 from rfl,e]at B;have:x=0:=of_decide_eq_true B.symm;rw[<-this];exact m
  .intro o;exact⟨.int 0,aal.mpr ⟨0,o,rfl⟩,ce 0 0⟩
 refine ah (MSt.mk [some (.imm (.tuple [.tuple [.int h.a,.int h.b],.tuple (h.ss.map Srv.d),.bool h.mv])),some (.imm (.tuple (natD l)))] [] 0) rfl ?_;ext s
 cases hmv:h.mv with
 |false=>
  refine iy ?_;ext s;have e:c8 h l=none:=if_neg (by rw[hmv];exact λz=>by cases z.1);rw[e]at k;exact k
 | true=>
  refine iI ?_;ext s;refine x_in (d:=.int 0) (ds:=natD l) rfl (.inr rfl) (cC 0) (b6 l) (by decide) ?_;ext s;rw[v]
  by_cases o:0∈l
  .rw[decide_eq_true o];refine iI ?_;ext s;refine qz rfl b c λx m a=>?_;rw[g x m a];ext s;refine aY (λz=>?_) (λz=>?_)
   .ext s;have e:c8 h l=none:=if_neg (λq=>by have:=q.2.2;omega);rw[e]at k;exact k
   .ext s;refine qz rfl b c λx m a=>?_;rw[g x m a];have s1:=fm (iQ p);have s0:=fm o;ext s;refine jX (j:=idx l (maxN l)) (k':=0) (cC _) (b6 l) (by decide) (bf s1.1) (by rw[ce];exact decide_eq_true rfl) (λi y t a=>?_) ?_
    .obtain⟨z,ez,rfl,_⟩:=gmap a;rw[ce];exact decide_eq_false (s1.2 i z t ez)
    ext s;refine jX (j:=idx l 0) (k':=0) (cC _) (b6 l) (by decide) (bf s0.1) (ce 0 0) (λi y t a=>?_) ?_
    .obtain⟨z',ez,rfl,_⟩:=gmap a;have:=ce z' 0;rw[show((0:Nat):Int)=0 from rfl]at this;rw[this];exact decide_eq_false (s0.2 i z' t ez)
    ext s;have e:c8 h l=some (idx l (maxN l),idx l 0):=if_pos ⟨hmv,o,by omega⟩;rw[e]at k;exact k
  .rw[decide_eq_false o];refine iy ?_;ext s;have e:c8 h l=none:=if_neg (λq=>o q.2.1);rw[e]at k;exact k
theorem Bq(T:Bl K mg)(D:DefM K mg "settled" qk ["hall","lines"])(G:FnM P w K mg base "next_shift" 1 2 Af)(a:FnM P w K mg base "with_more" 1 3 oa):FnM P w K mg base "settled" 2 2 rE:=by
 refine aV D iG rfl (nN:=3) rfl (by decide) ?ar λC A outer s H E f q=>⟨_,(mz' (ay 2 iG.nd (mf' G (q.mono (by decide)) (mc' (mv' 0) (mc' (mv' 1) mn'))))
   (mz' (fc (ap oh (mv' 2) jz (aB _)) (mz' (ay 1 iG.nd (mf' a (q.mono (by decide)) (mc' (mf' a (q.mono (by decide)) (mc' (mv' 1) (mc' (ae (mv' 2) mh') (mc' (kq gY mh') mn')))) (mc' (ae (mv' 2) mh') (mc' mh' mn')))))
   (aa (ay 2 iG.nd (mf' G (q.mono (by decide)) (mc' (mv' 0) (mc' (mv' 1) mn')))))) aa1)
   (aa (ag (mv' 1))))),?_⟩
 case ar=>intro J u ⟨h,l,rfl,_⟩;rfl
 intro J u L ⟨h,l,rfl,o,j,k⟩;refine ah (MSt.mk [some (.imm h.d),some (.imm (lnD l)),none] [] 0) rfl ?_;ext s;refine⟨h,l,rfl,o,j,?_⟩;ext x;refine ju (λn m=>∃b:List Nat,m=MSt.mk [some (.imm h.d),some (.imm (lnD b)),some (.imm (optP (c8 h b)))] [] 0/\n=b.count 0/\cX h n b=cK h l/\b≠[]/\b.length≤1000) (l.count 0) ⟨l,rfl,rfl,rfl,o,j⟩ ?_;intro n m O ⟨b,rfl,rfl,t,i,g⟩;ext s
 cases e:c8 h b with
 |none=>
  refine iI ?_;ext s;rw[fJ e]at t;rw[<-t]at k;exact k
 | some p=>
  refine iy ?_;let⟨F,I,x,v,c⟩:=jt e;let⟨N,m1,m2,B,y⟩:=gz e;have Q:b.getD p.1 0=maxN b:=bp m1;have M:(b.set p.1 (maxN b-1)).getD p.2 0=0:=bp (by rw[aaK y];exact B);dsimp only[optP];ext s;refine⟨b,p.1,-1,maxN b-1,rfl,I,g,by omega,?_⟩;ext x;refine⟨b.set p.1 (maxN b-1),p.2,1,1,rfl,by rw[abe];exact x,by rw[abe];exact g,by omega,?_⟩;rw[<-F];ext x;have d:cx b p≠[]:=λz=>by
   rw[z]at c;exact i (abj c.symm)
  refine⟨h,cx b p,rfl,d,by omega,?_⟩;ext x;refine⟨(cx b p).count 0,by omega,cx b p,rfl,rfl,?_,d,by omega⟩;rw[<-t,<-v];show _=cX h ((cx b p).count 0+1) b;simp only[cX,e]
theorem qg(T:Bl K mg)(D:DefM K mg "turn_behind" ga ["hall","rule","turn"]):FnM P w K mg base "turn_behind" 1 3 y3:=by
 refine aV D qi rfl (nN:=3) rfl (by decide) ?ar λc A outer s H E f a=>⟨_,(mz' (bc (ap (bo a.units) (ae (mv' 1) mh') ai (aB _)) (aa (ag (af d4 (af aG (mv' 2) mh') (aF bU (by rfl) T.len d7 (mc' (ae (mv' 0) mh') mn'))))) aA)
   (aa (ag (mv' 2)))),?_⟩
 case ar=>intro g b ⟨h,r,t,rfl,_⟩;rfl
 intro g b i ⟨h,r,t,rfl,d,k⟩;have n1:=d.n1;refine ah (MSt.mk [some (.imm (.tuple [.tuple [.int h.a,.int h.b],.tuple (h.ss.map Srv.d),.bool h.mv])),some (.imm r.d),some (.imm (.int (t:Int)))] [] 0) rfl ?_;ext s;refine J5 r.dc (aU (j:=0) rfl) ?_;ext s;refine aY (λz=>?_) (λz=>?_)
 .have a:r = .turns:=by cases r<;>first|rfl|exact absurd z (by decide +kernel)|exact absurd (show("told" : Str) = "turns" from z) (by decide +kernel)
  subst a;ext s;refine Js (by rw[lD];omega) ?_;rw[lD];exact k
 .ext s;have e:oA h r t=t:=by cases r<;>first|rfl|exact absurd rfl z
  rw[e]at k;exact k
theorem yq(T:Bl K mg)(D:DefM K mg "line_of" oO ["hall","rule","stand","move"])(G:FnM P w K mg base "sent_to" 3 4 u9):FnM P w K mg base "line_of" 4 4 uW:=by
 refine aV D xQ rfl (nN:=4) rfl (by decide) ?ar λd A outer s H E f b=>⟨_,(mz' (bc (ap (bo b.units) (ae (mv' 3) mh') ai (aB _)) (aa (ag (mf' G (b.mono (by decide)) (mc' (mv' 0) (mc' (mv' 1) (mc' (mv' 2) (mc' (ae (mv' 3) mh') mn'))))))) aA)
   (mz' (bc (ap (bo b.units) (ae (mv' 3) mh') ai (aB _)) (aa (ag (ae (mv' 3) mh'))) aA)
   (aa (ag jz)))),?_⟩
 case ar=>intro m g ⟨h,r,l,t,mv,rfl,_⟩;rfl
 intro m g n ⟨h,r,l,t,mv,rfl,i,a,c,e,k⟩
 cases mv with
 |come o=>
  refine ah (MSt.mk [some (.imm h.d),some (.imm r.d),some (.imm (stD l t)),some (.imm (.tuple [.str "come",lnD o]))] [] 0) rfl ?_;ext s;ext b;refine⟨h,r,l,t,o,rfl,i,a,c,e,?_⟩;ext n;exact k
 |done j=>
  refine ah (MSt.mk [some (.imm h.d),some (.imm r.d),some (.imm (stD l t)),some (.imm (.tuple [.str "done",.int (j:Int)]))] [] 0) rfl ?_;ext a;ext b;exact k
 |still=>
  refine ah (MSt.mk [some (.imm h.d),some (.imm r.d),some (.imm (stD l t)),some (.imm (.tuple [.str "still"]))] [] 0) rfl ?_;ext a;ext c;ext s;exact k
theorem xh(T:Bl K mg)(D:DefM K mg "moved_on" jY ["hall","rule","stand","move"])(b:FnM P w K mg base "line_of" 4 4 uW)(c:FnM P w K mg base "come_to" 2 3 Fy)(G:FnM P w K mg base "turn_behind" 1 3 y3)(a:FnM P w K mg base "done_at" 2 2 EF)(d:FnM P w K mg base "settled" 2 2 rE):FnM P w K mg base "moved_on" 5 4 yt:=by
 refine aV D ca rfl (nN:=8) rfl (by decide) ?ar λC A outer s H E f p=>⟨_,(mz' (ck (mv' 2) (bg (n:=2) (ac (am 4 ca.nd) (ac (am 5 ca.nd) aM))))
   (mz' (ay 6 ca.nd ai)
   (mz' (ay 7 ca.nd (mf' b (p.mono (by decide)) (mc' (mv' 0) (mc' (mv' 1) (mc' (mv' 2) (mc' (mv' 3) mn'))))))
   (mz' (bc (ap (bo p.units) (ae (mv' 3) mh') ai (aB _)) (mz' (ck (mf' c (p.mono (by decide)) (mc' (mv' 0) (mc' (mv' 4) (mc' (mv' 7) mn')))) (bg (n:=2) (ac (am 4 ca.nd) (ac (am 6 ca.nd) aM))))
   (aa (ay 5 ca.nd (mf' G (p.mono (by decide)) (mc' (mv' 0) (mc' (mv' 1) (mc' (mv' 5) mn'))))))) (aa (bc (ap (bo p.units) (ae (mv' 3) mh') ai (aB _)) (aa (ck (mf' a (p.mono (by decide)) (mc' (mv' 4) (mc' (mv' 7) mn'))) (bg (n:=2) (ac (am 4 ca.nd) (ac (am 6 ca.nd) aM))))) aA)))
   (aa (ag (aq (mc' (aq (mc' (mf' d (p.mono (by decide)) (mc' (mv' 0) (mc' (mv' 4) mn'))) (mc' (mv' 5) mn'))) (mc' (mv' 6) mn'))))))))),?_⟩
 case ar=>intro F B ⟨h,r,l,t,mv,rfl,_⟩;rfl
 intro F B I ⟨h,r,l,t,mv,rfl,m,i,q,u,y,k⟩;have v:=q.1;have n1:=m.n1;have n4:=m.n4;have ne:∀x:List Nat,x.length=l.length->x≠[]:=λx e z=>by rw[z]at e;simp at e;omega
 cases mv with
 |come o=>
  refine ah (MSt.mk [some (.imm h.d),some (.imm r.d),some (.imm (.tuple [lnD l,.int (t:Int)])),some (.imm (.tuple [.str "come",lnD o])),none,none,none,none] [] 0) rfl ?_;ext s
  .rfl
  ext s;refine⟨h,r,l,t,.come o,rfl,m,i,q,u,?_⟩;dsimp only[Da];ext x;ext b;refine⟨h,l,sent h r l t o,rfl,m,q,pf m i q u y,?_⟩;ext n;dsimp only[lwD];ext s
  .rfl
  ext s;refine⟨h,r,t,rfl,m,?_⟩;ext x;have g:(bW h l (sent h r l t o)).1.length=l.length:=by unfold bW;split<;>simp
  refine⟨h,_,rfl,ne _ g,by omega,?_⟩;ext x;exact k
 |done j=>
  refine ah (MSt.mk [some (.imm h.d),some (.imm r.d),some (.imm (.tuple [lnD l,.int (t:Int)])),some (.imm (.tuple [.str "done",.int (j:Int)])),none,none,none,none] [] 0) rfl ?_;ext s
  .rfl
  ext s;refine⟨h,r,l,t,.done j,rfl,m,i,q,u,?_⟩;dsimp only[Da];ext x;ext c;ext s;ext b;refine⟨l,j,rfl,by rw[v];exact u,by omega,?_⟩;ext n;dsimp only[lwD];ext s
  .rfl
  ext s;have g:(cf l j).1.length=l.length:=by unfold cf;split<;>simp
  refine⟨h,_,rfl,ne _ g,by omega,?_⟩;ext x;exact k
 |still=>
  refine ah (MSt.mk [some (.imm h.d),some (.imm r.d),some (.imm (.tuple [lnD l,.int (t:Int)])),some (.imm (.tuple [.str "still"])),none,none,none,none] [] 0) rfl ?_;ext s
  .rfl
  ext s;refine⟨h,r,l,t,.still,rfl,m,i,q,u,?_⟩;dsimp only[Da];ext x;ext c;ext a;refine⟨h,l,rfl,ne _ rfl,by omega,?_⟩;ext x;exact k
theorem sK(T:Bl K mg)(D:DefM K mg "kept_lines" ie ["hall","lines"])(G:FnM P w K mg base "is_alike" 1 1 F9):FnM P w K mg base "kept_lines" 2 2 o8:=by
 refine aV D qV rfl (nN:=2) rfl (by decide) ?ar λc A outer s H E f i=>⟨_,(mz' (bc (c5 (mf' G (i.mono (by decide)) (mc' (mv' 0) mn'))) (aa (ag (bI b5 (by rfl) T.tuple df (mc' (nr ki (by rfl) T.sorted k8 (mc' (mv' 1) mn')) mn')))) aA)
   (aa (ag (mv' 1)))),?_⟩
 case ar=>intro m d ⟨h,l,rfl,_⟩;rfl
 intro m d o ⟨h,l,rfl,g,a,k⟩;refine ah (MSt.mk [some (.imm h.d),some (.imm (.tuple (natD l)))] [] 0) rfl ?_;ext s;refine⟨h,rfl,g,?_⟩;ext n;unfold cW at k
 cases q:alk h with
 |true=>
  rw[q,if_pos rfl]at k;ext s;refine Aq rfl (gh l) (by rw[lD];omega) λn b j=>?_;have e:=uz b j;subst e;rw[<-sI];ext s;exact k
 |false=>
  rw[q,if_neg aaq]at k;ext s;exact k
def mI(T:Bl K mg)(D:DefM K mg "refuse_turns" fx ["one","other"]):FnM P w K mg base "refuse_turns" 1 2 Fu:=by
 refine aV D mH rfl (nN:=2) rfl (by decide) ?ar λd A outer s H E f b=>⟨_,(aa (bc (EW.pt (oi (ap (bo b.units) (ae (mv' 0) mh') ai (aB _)) (lM (ap (bo b.units) (ae (mv' 1) mh') ai (aB _))))) (aa yE) aA)),?_⟩
 case ar=>intro m i ⟨r1,a,rfl,_⟩;rfl
 intro m i n ⟨r1,a,rfl,j,c,k⟩;refine ah (MSt.mk [some (.imm r1.d),some (.imm a.d)] [] 0) rfl ?_;ext s;let⟨t,e⟩:=Fi r1;let⟨o,g⟩:=Fi a;refine pP e ?_;ext s;rw[zM j];ext s;refine pP g ?_;ext s;rw[zM c];ext s;exact k
theorem mf(T:Bl K mg)(D:DefM K mg "first_triple" fj ["hall"])(G:FnM P w K mg base "first_stand" 1 1 z7):FnM P w K mg base "first_triple" 2 1 Fv:=by
 refine aV D gN rfl (nN:=2) rfl (by decide) ?ar λe A outer s H E f c=>⟨_,(mz' (ay 1 gN.nd (ae (mf' G (c.mono (by decide)) (mc' (mv' 0) mn')) mh'))
   (aa (ag (aq (mc' (mv' 1) (mc' (mv' 1) (mc' mh' mn'))))))),?_⟩
 case ar=>intro d a ⟨h,rfl,_⟩;rfl
 intro d a g ⟨h,rfl,b,k⟩;refine ah (MSt.mk [some (.imm h.d),none] [] 0) rfl ?_;ext s;refine⟨h,rfl,b,?_⟩;ext x;refine pP (tl:=[.int 0]) rfl ?_;ext s;exact k
theorem tz(T:Bl K mg)(D:DefM K mg "kept_step" jA ["hall","rule","lines","move"])(a:FnM P w K mg base "moved_on" 5 4 yt)(G:FnM P w K mg base "kept_lines" 2 2 o8):FnM P w K mg base "kept_step" 6 4 QX:=by
 refine aV D gZ rfl (nN:=6) rfl (by decide) ?ar λo A outer s H E f b=>⟨_,(mz' (ck (mf' a (b.mono (by decide)) (mc' (mv' 0) (mc' (mv' 1) (mc' (aq (mc' (mv' 2) (mc' mh' mn'))) (mc' (mv' 3) mn'))))) (bg (n:=2) (ac (am 4 gZ.nd) (ac (am 5 gZ.nd) aM))))
   (aa (ag (aq (mc' (mf' G (b.mono (by decide)) (mc' (mv' 0) (mc' (ae (mv' 4) mh') mn'))) (mc' (dE (bo b.units) (mv' 5) ai (aB _)) mn')))))),?_⟩
 case ar=>intro i j ⟨h,r,l,m,rfl,_⟩;rfl
 intro i j p ⟨h,r,l,m,rfl,c,b,e,g,d,k⟩;have n4:=c.n4;have S:=iL c b (t:=0) ⟨g,λz=>(e z).elim,by decide⟩ d;have q:=S.ln.1;refine ah (MSt.mk [some (.imm h.d),some (.imm r.d),some (.imm (lnD l)),some (.imm m.d),none,none] [] 0) rfl ?_;ext s;refine⟨h,r,l,0,m,rfl,c,b,g,d,λz=>(e z).elim,?_⟩;ext n;unfold mvD;ext s
 .rfl
 ext s;refine pP (tl:=[.int ((gJ h r l 0 m).2.1:Int)]) rfl ?_;ext s;refine⟨h,_,rfl,c,by omega,?_⟩;ext x;rw[Dt];exact k
def km(T:Bl K mg)(D:DefM K mg "triple_behind" d3 ["one_step","other_step","lead"]):FnM P w K mg base "triple_behind" 1 3 OO:=by
 refine aV D bu rfl (nN:=7) rfl (by decide) ?ar λc A outer s H E f j=>⟨_,(mz' (ck (mv' 0) (bg (n:=2) (ac (am 3 bu.nd) (ac (am 4 bu.nd) aM))))
   (mz' (ck (mv' 1) (bg (n:=2) (ac (am 5 bu.nd) (ac (am 6 bu.nd) aM))))
   (mz' (bc (EW.pt (h7 (c5 (mv' 6)) (gG (lJ (c5 (mv' 4)))))) (aa (tj 2 bu.nd mh' FC)) aA)
   (mz' (bc (EW.pt (h7 (c5 (mv' 4)) (gG (lJ (c5 (mv' 6)))))) (aa (tj 2 bu.nd mh' NG)) aA)
   (aa (ag (aq (mc' (mv' 3) (mc' (mv' 5) (mc' (mv' 2) mn')))))))))),?_⟩
 case ar=>intro g e ⟨p,q,d,rfl,_⟩;rfl
 intro g e i ⟨p,q,d,rfl,k⟩;unfold aw at k;refine ah (MSt.mk [some (.imm (.tuple [lnD p.1,.bool (decide (p.2 = .away))])),some (.imm (.tuple [lnD q.1,.bool (decide (q.2 = .away))])),some (.imm (.int d)),none,none,none,none] [] 0) rfl ?_;ext s
 .rfl
 ext s
 .rfl
 ext s
 by_cases b:p.2 = .away<;>by_cases a:q.2 = .away
 .rw[if_pos b,if_pos a,show d+1-1=d by omega]at k;rw[decide_eq_true b,decide_eq_true a];ext e;rw[if_neg (by decide)];ext s;exact k
 .rw[if_pos b,if_neg a,show d+0-1=d-1 by omega]at k;rw[decide_eq_true b,decide_eq_false a];ext s;rw[if_pos (by decide)];refine IL d rfl ?_;ext s;refine⟨1,rfl,?_⟩;ext x;exact k
 .rw[if_neg b,if_pos a,show d+1-0=d+1 by omega]at k;rw[decide_eq_false b,decide_eq_true a];ext s;rw[if_pos (by decide)];refine IL d rfl ?_;ext s;refine⟨1,rfl,?_⟩;ext s;exact k
 .rw[if_neg b,if_neg a,show d+0-0=d by omega]at k;rw[decide_eq_false b,decide_eq_false a];ext s;exact k
def vQ(T:Bl K mg)(D:DefM K mg "is_worse" j6 ["triple"]):FnM P w K mg base "is_worse" 1 1 FG:=by
 refine aV D gn rfl (nN:=4) rfl (by decide) ?ar λc A outer s H E f d=>⟨_,(mz' (ck (mv' 0) (bg (n:=3) (ac (am 1 gn.nd) (ac (am 2 gn.nd) (ac (am 3 gn.nd) aM)))))
   (aa (ag (dE lL (aF (gi rfl) (by rfl) T.sum qR (mc' (mv' 1) mn')) (af aG (aF (gi rfl) (by rfl) T.sum qR (mc' (mv' 2) mn')) (mv' 3)) (aB _))))),?_⟩
 case ar=>intro a b ⟨t,rfl,_⟩;rfl
 intro a b e ⟨t,rfl,k⟩;refine ah (MSt.mk [some (.imm (.tuple [lnD t.1,lnD t.2.1,.int t.2.2])),none,none,none] [] 0) rfl ?_;ext s
 .rfl
 ext s;refine uR rfl (gh t.1) ?_;rw[sum_nat];ext s;refine uR rfl (gh t.2.1) ?_;rw[sum_nat];ext s;exact k
theorem jg(T:Bl K mg)(D:MthD K "Search" "steps_of" "Search.steps_of" bm ["self","side","lines"])(j:FnM P w K mg base "kept_step" 6 4 QX):fH P w K mg base "Search" "steps_of" 7 3 re:=by
 refine jm D e8 rfl (nN:=4) rfl (by decide) ?ar λI A outer s H E f o=>⟨_,(mz' (bc (ap (nQ o.units) (aq (mc' (mv' 1) (mc' (mv' 2) mn'))) (cg T.f_Search_steps (mv' 0)) (by with_unfolding_all rfl)) (mz' (kb (i:=3) e8.nd rfl (ac9 rfl) (ae (cg T.f_Search_rules (mv' 0)) (mv' 1)))
   (aa (qp o.units (fh (bM (own:=["move"]) (fr:=["self","rule","lines"]) (ps:=[0,3,2]) (sc:=(ab bm)) (by exact⟨rfl,by decide +kernel,by decide +kernel,by decide +kernel,by decide +kernel⟩) (bC (cg T.f_Search_moves (mv' 0))) (λ_ _ _ _ _=>(am 0 (show aa2 ((["move"]:List Str)++(["self","rule","lines"]:List Str))from by decide +kernel))) (λ_ _ _ _ _=>bO) (λ_ _ _ _ _=>(mf' j (o.mono (by decide)) (mc' (cg T.f_Search_hall (mv' 1)) (mc' (mv' 2) (mc' (mv' 3) (mc' (mv' 0) mn')))))))) (cg T.f_Search_steps (mv' 0)) (aq (mc' (mv' 1) (mc' (mv' 2) mn')))))) aA)
   (aa (ag (vg o.units (cg T.f_Search_steps (mv' 0)) (aq (mc' (mv' 1) (mc' (mv' 2) mn'))))))),?_⟩
 case ar=>intro O M ⟨h,r1,g,C,L,T,Y,s,l,rfl,_⟩;rfl
 intro O M R ⟨h,r1,g,C,L,T,Y,s,l,rfl,G,V,X,s2,t,k⟩;have q:∀C,oneK (jp h r1 g C) (skD (s,l))=true:=λC=>by unfold oneK;rw[JK (h:=h) C,GF (h:=h),adK,Bool.or_true]
 refine ah (MSt.mk [some (.at 0 []),some (.imm (.int (s:Int))),some (.imm (lnD l)),none] [[scQ h r1 g C L T Y]] 1) rfl ?_;refine o4 ?_;refine x_JS (λm=>∃(a:Option L2.R) (n:List Ck),m=MSt.mk [some (.at 0 []),some (.imm (.int (s:Int))),some (.imm (lnD l)),a] [[scQ h r1 g n L T Y]] 1/\CaOk h n/\(s,l)∈n) (λN v=>?_) ?_
 .ext s;refine uu rfl (Qr (k:=skD (s,l)) (kvs:=jp h r1 g C) ⟨rfl,rfl⟩ (q C) ?_);rw[st_look]
  by_cases c:(s,l)∈C
  .rw[if_pos c];refine vA (b:=false) ?_;ext s;exact v _ ⟨_,C,rfl,X,c⟩
  .rw[if_neg c];refine vA (b:=true) ?_;ext s;refine aP (d:=(rl r1 g s).d) (by rcases (show s=0\/s=1 by omega)with rfl|rfl<;>rfl) ?_;ext s;ext n;refine cB (λi m=>∃a:Option L2.R,m=MSt.mk [a,some (.at 0 []),some (.imm (rl r1 g s).d),some (.imm (lnD l))] [[scQ h r1 g C L T Y],(stv h r1 g (s,l)).take i] 2) ⟨none,rfl⟩ ?_ ?_
   .rintro i d m e hnp ⟨a,rfl⟩ D1 hD1 hR1;let⟨mv,u,rfl,Q⟩:=gmap e;ext s;refine⟨h,_,l,mv,rfl,G.o,(G.rl s).1,(G.rl s).2,t,nu G.o mv (Io u),?_⟩;ext x;have S:=(AH G.o).2;refine⟨_,rfl,by unfold stv;rw[aau,lD,aar];omega,hD1 _ ⟨some (.imm mv.d),?_⟩⟩;rw[aaO,show(stv h r1 g (s,l))[i]?=some (ksD (kst h (rl r1 g s) l mv)) by unfold stv;rw[aae,u];rfl];rfl
   .rintro m hnp ⟨a,rfl⟩;ext x;refine uu rfl ?_;ext s;have U:=X.len;refine⟨_,jp h r1 g C,rfl,rfl,rfl,JK (h:=h) C,GF (h:=h),by unfold jp;rw[lD,aar];omega,?_⟩;ext n;rw[show afd ([[scQ h r1 g C L T Y],(stv h r1 g (s,l)).take ((mvs h).map Mv.d).length].getD 1 []) = .list ((stv h r1 g (s,l)).take ((mvs h).map Mv.d).length)from rfl,show afd ((stv h r1 g (s,l)).take ((mvs h).map Mv.d).length) = .list (stv h r1 g (s,l)) by rw[show((mvs h).map Mv.d).length=(stv h r1 g (s,l)).length by unfold stv;rw[lD,lD],aax],show ab6 [.int (s:Int),lnD l]=skD (s,l)from rfl,FH c];refine v _ ⟨some (.imm (rl r1 g s).d),C++[(s,l)],rfl,⟨?_,λp J=>?_⟩,aaz _ aac⟩
    .exact acK.mpr ⟨X.nd,acV _ _,λx F y B z=>c (by rw[aah.mp B]at z;rw[<-z];exact F)⟩
    .rcases aaU.mp J with z|z
     .exact X.ok p z
     .rw[aah.mp z];exact⟨s2,t⟩
 .rintro m ⟨a,n,rfl,X',c⟩;ext s;refine uu rfl ?_;ext s;refine⟨jp h r1 g n,.list (stv h r1 g (s,l)),⟨rfl,rfl⟩,q n,st_look.trans (if_pos c),?_⟩;ext s;exact k n X'
theorem fq(T:Bl K mg)(D:MthD K "Search" "triples_behind" "Search.triples_behind" aE ["self","triple"])(c:fH P w K mg base "Search" "steps_of" 7 3 re)(g:FnM P w K mg base "triple_behind" 1 3 OO):fH P w K mg base "Search" "triples_behind" 8 2 Fc:=by
 refine jm D aK rfl (nN:=7) rfl (by decide) ?ar λJ A outer s H E f p=>⟨_,(mz' (ck (mv' 1) (bg (n:=3) (ac (am 2 aK.nd) (ac (am 3 aK.nd) (ac (iz (i:=4) aK.nd rfl (ac9 rfl)) aM)))))
   (mz' (ay 5 aK.nd (gC c (p.mono (by decide)) (mv' 0) (mc' mh' (mc' (mv' 2) mn'))))
   (mz' (ay 6 aK.nd (gC c (p.mono (by decide)) (mv' 0) (mc' mh' (mc' (mv' 3) mn'))))
   (aa (ag (bM (own:=["one_step","other_step"]) (fr:=["lead"]) (ps:=[4]) (sc:=(ab aE)) (by exact⟨rfl,by decide +kernel,by decide +kernel,by decide +kernel,by decide +kernel⟩) (ui T.zip (mc' (mv' 5) (mc' (mv' 6) mn'))) (λ_ _ _ _ _=>(bg (n:=2) (ac (am 0 (show aa2 ((["one_step","other_step"]:List Str)++(["lead"]:List Str))from by decide +kernel)) (ac (am 1 (show aa2 ((["one_step","other_step"]:List Str)++(["lead"]:List Str))from by decide +kernel)) aM)))) (λ_ _ _ _ _=>bO) (λ_ _ _ _ _=>(mf' g (p.mono (by decide)) (mc' (mv' 0) (mc' (mv' 1) (mc' (mv' 2) mn'))))))))))),?_⟩
 case ar=>intro Q z ⟨h,r1,j,C,L,T,Y,t,rfl,_⟩;rfl
 intro Q z R ⟨h,r1,j,C,L,T,Y,t,rfl,G,u,X,y,ly,k⟩;refine ah (MSt.mk [some (.at 0 []),some (.imm (.tuple [lnD t.1,lnD t.2.1,.int t.2.2])),none,none,none,none,none] [[scQ h r1 j C L T Y]] 1) rfl ?_;ext s
 .rfl
 ext s;refine⟨h,r1,j,C,L,T,Y,0,t.1,rfl,G,u,X,by decide,y,λB F=>?_⟩;ext x;refine⟨h,r1,j,B,L,T,Y,1,t.2.1,rfl,G,u,F,by decide,ly,λv N=>?_⟩;ext x;refine⟨false,_,false,_,rfl,rfl,?_⟩;refine cB (λi m=>∃a b:Option L2.R,m=MSt.mk [a,b,some (.imm (.int t.2.2))] [[scQ h r1 j v L T Y],((mvs h).map λm=>trD (bth h r1 j t m)).take i] 2) ⟨none,none,rfl⟩ ?_ ?_
 .rintro i d m e hnp ⟨a,b,rfl⟩ D1 hD1 hR1;let⟨V,W,x,M,rfl⟩:=tx e;let⟨mv,q,rfl,S⟩:=gmap x;let⟨mv',o,rfl,I⟩:=gmap M;rw[q]at o;cases o;ext s
  .rfl
  ext s;refine⟨_,_,t.2.2,rfl,?_⟩;ext x;have U:=(AH G.o).2;refine⟨_,rfl,by rw[aau,lD,aar];omega,hD1 _ ⟨some (.imm (ksD (kst h (rl r1 j 0) t.1 mv))),some (.imm (ksD (kst h (rl r1 j 1) t.2.1 mv))),?_⟩⟩;rw[aaO,aae,q];rfl
 .rintro m hnp ⟨a,b,rfl⟩;ext x;have O:(zipD (stv h r1 j (0,t.1)) (stv h r1 j (1,t.2.1))).length=((mvs h).map λm=>trD (bth h r1 j t m)).length:=by unfold stv;rw[dt,lD,lD,lD];exact agX _
  rw[O,aax];exact k v N
theorem qt(T:Bl K mg)(D:MthD K "Search" "met" "Search.met" cP ["self","triple","ahead","move"]):fH P w K mg base "Search" "met" 1 4 IU:=by
 refine jm D dJ rfl (nN:=7) rfl (by decide) ?ar λG A outer s H E f o=>⟨_,(mz' (ck (mv' 1) (bg (n:=3) (ac (am 4 dJ.nd) (ac (am 5 dJ.nd) (ac (am 6 dJ.nd) aM)))))
   (aa (bc (EW.pt (oi (ap (nQ o.units) (aq (mc' (mv' 4) (mc' (mv' 5) mn'))) (cg T.f_Search_leads (mv' 0)) (by with_unfolding_all rfl)) (lM (ap ix (mv' 6) (vg o.units (cg T.f_Search_leads (mv' 0)) (aq (mc' (mv' 4) (mc' (mv' 5) mn')))) (aB _))))) (mz' (qp o.units (mv' 6) (cg T.f_Search_leads (mv' 0)) (aq (mc' (mv' 4) (mc' (mv' 5) mn'))))
   (mz' (dQ (mZ adL adM kL (cg T.f_Search_triples (mv' 0)) (mc' (mv' 1) mn')))
   (aa (dQ (mZ adL adM kL (cg T.f_Search_ways (mv' 0)) (mc' (aq (mc' (mv' 2) (mc' (mv' 3) mn'))) mn')))))) aA))),?_⟩
 case ar=>intro R N ⟨h,r1,i,C,L,T,Y,t,y,a,d,rfl,_⟩;rfl
 intro R N W ⟨h,r1,i,C,L,T,Y,t,y,a,d,rfl,O,v,F,I,ly,U,Z,V,k1,k2⟩;have g:kyA (ldD L)=true:=LQ v F;have u:kyD (pkD (t.1,t.2.1))=true:=Ll v I ly;have q:oneK (ldD L) (pkD (t.1,t.2.1))=true:=by unfold oneK;rw[g,u,adK,Bool.or_true]
 refine ah (MSt.mk [some (.at 0 []),some (.imm (.tuple [lnD t.1,lnD t.2.1,.int t.2.2])),some (.imm (.int a)),some (.imm d),none,none,none] [[scQ h r1 i C L T Y]] 1) rfl ?_;refine o4 ?_;ext s
 .rfl
 refine kG (x_gM (kG (x_gM (kG (x_gM (zx ?_))))));ext n;refine OL ?_;refine x_JT (λc m=>m=MSt.mk [some (.at 0 []),some (.imm (.tuple [lnD t.1,lnD t.2.1,.int t.2.2])),some (.imm (.int a)),some (.imm d),some (.imm (lnD t.1)),some (.imm (lnD t.2.1)),some (.imm (.int t.2.2))] [[scQ h r1 i C L T Y]] 1/\(c=true->t.2.2<(lkL (t.1,t.2.1) L).getD (t.2.2+1))/\(c=false->∃w,lkL (t.1,t.2.1) L=some w/\w≤t.2.2)) (λS x=>?_) ?_
 .ext x;refine ou rfl g (Qr (k:=pkD (t.1,t.2.1)) (kvs:=ldD L) ⟨rfl,rfl⟩ q ?_);rw[Ku]
  cases e:lkL (t.1,t.2.1) L with
  |none=>
   refine vA (b:=true) ?_;exact x _ _ ⟨rfl,λ_=>by rw[e];exact(show t.2.2<t.2.2+1 by omega),λz=>by cases z⟩
  |some w=>
   refine vA (b:=false) ?_;ext s;refine ou rfl g ?_;ext s;refine⟨ldD L,.int w,⟨rfl,rfl⟩,q,(Ku (t.1,t.2.1) L).trans (by rw[e];rfl),?_⟩;ext s;refine x _ _ ⟨rfl,λz=>by rw[e];exact of_decide_eq_true z,λz=>⟨w,e,?_⟩⟩;have:=of_decide_eq_false z;omega
 .rintro c m ⟨rfl,h1,h2⟩
  cases c with
  |false=>
   let⟨w,Q,J⟩:=h2 rfl;ext s;exact k2 w Q J
  | true=>
   ext s;refine ou rfl g ?_;ext s;refine⟨_,ldD L,rfl,rfl,rfl,g,u,by unfold ldD;rw[lD,aar];omega,?_⟩;rw[show ab6 [lnD t.1,lnD t.2.1]=pkD (t.1,t.2.1)from rfl,FX];ext n;have X:setT (scQ h r1 i C L T Y) [5] (.dict (lfKV (ldD (setL (t.1,t.2.1) t.2.2 L))))=scQ h r1 i C (setL (t.1,t.2.1) t.2.2 L) T Y:=rfl;generalize setL (t.1,t.2.1) t.2.2 L=j at *;ext s;refine⟨⟨_,j9 T⟩,?_⟩;ext s;refine qC (p:=[6]) (m:=MSt.mk _ [[scQ h r1 i C j T Y]] 1) rfl rfl (j9 T) rfl (by rw[lD,aar];omega) ?_;have B:setT (scQ h r1 i C j T Y) [6] (.list ((T.map trD++[trD t]).map lfD))=scQ h r1 i C j (T++[t]) Y:=by
    rw[show T.map trD++[trD t]=(T++[t]).map trD by rw[aaH];rfl,UD];rfl
   ext n;rw[show ab6 [lnD t.1,lnD t.2.1,.int t.2.2]=trD t from rfl,B];ext s;refine⟨⟨_,qQ Y⟩,?_⟩;ext s;refine qC (p:=[7]) rfl rfl (qQ Y) rfl (by rw[lD,aar];omega) ?_;have M:setT (scQ h r1 i C j (T++[t]) Y) [7] (.list ((Y.map wyD++[wyD y]).map lfD))=scQ h r1 i C j (T++[t]) (Y++[y]):=by
    rw[show Y.map wyD++[wyD y]=(Y++[y]).map wyD by rw[aaH];rfl,SX];rfl
   rw[<-O,M];ext s;exact k1 (h1 rfl)
theorem l5(T:Bl K mg)(D:MthD K "Search" "run_to" "Search.run_to" cb ["self","at"]):fH P w K mg base "Search" "run_to" 1 2 ye:=by
 refine jm D cI rfl (nN:=4) rfl (by decide) ?ar λu A outer s H E f N=>⟨_,(mz' (ay 2 cI.nd (cr mn'))
   (mz' (fc (ap Fe (ae (uo (cg T.f_Search_ways (mv' 0)) (mv' 1)) mh') mh' (aB _)) (mz' (ck (uo (cg T.f_Search_ways (mv' 0)) (mv' 1)) (bg (n:=2) (ac (am 1 cI.nd) (ac (am 3 cI.nd) aM))))
   (aa (dQ (mZ adL adM wx (mv' 2) (mc' (mv' 3) mn'))))) aa1)
   (aa (ag (bI b5 (by rfl) T.tuple df (mc' (u4 (mv' 2) (kq gY mh')) mn')))))),?_⟩
 case ar=>intro F v ⟨h,r1,c,C,L,T,Y,P,i,p,rfl,_⟩;rfl
 intro F v J ⟨h,r1,c,C,L,T,Y,P,i,p,rfl,W,I,j,k⟩;refine ah (MSt.mk [some (.at 0 []),some (.imm (.int (i:Int))),none,none] [[scQ h r1 c C L T Y]] 1) rfl ?_;ext s;refine fV ?_;ext x;refine ju (λn m=>∃(a:Option L2.R) (q s:List Mv),m=MSt.mk [some (.at 0 []),some (.imm (.int (n:Int))),some (.obj 1),a] [[scQ h r1 c C L T Y],s.reverse.map Mv.d] 1/\P[n]?=some q/\p=q++s/\s.length+n≤i) i ⟨none,p,[],rfl,j,(aa0 p).symm,by rw[ac5];omega⟩ ?_;intro n m t ⟨a,q,s,rfl,eq,o,M⟩;have G:i<Y.length:=by rw[W.ly];exact(AD.mp j).1
 let⟨y,e⟩:∃y,Y[n]?=some y:=⟨_,iO (show n<Y.length by omega)⟩;let⟨g,d⟩:=Ay (f:=wyD) e;ext s;refine t8 (p:=[7]) rfl rfl g d ?_;rw[uK];rcases W.wy n q eq with⟨rfl,z⟩|⟨b,mv,x,B,eb,rfl,z⟩
 .rw[e]at z;cases z;rw[show wyD none = .tuple [.int (-1),.none]from rfl];ext e;refine⟨_,rfl,rfl,?_⟩;ext s;rw[<-ahf,List.reverse_reverse,show s=p from o.symm];exact k
 .rw[e]at z;cases z;rw[show wyD (some (b,mv)) = .tuple [.int (b:Int),mv.d]from rfl];ext s;rw[if_pos (decide_eq_true (by omega))];ext s;refine t8 (p:=[7]) rfl rfl g d ?_;rw[uK,show wyD (some (b,mv)) = .tuple [.int (b:Int),mv.d]from rfl];ext s
  .rfl
  ext s;refine' B6 (ds:=s.reverse.map Mv.d) ?eb (by rw[aar,lD,agq];omega) ?_
  case eb=>rfl
  refine⟨b,B,some (.imm mv.d),x,mv::s,?_,eb,by rw[o,aaV];rfl,by rw[aaw];omega⟩;rw[adf,aaH];rfl
theorem iC(T:Bl K mg)(D:MthD K "Search" "worse_run" "Search.worse_run" bt ["self"])(g:fH P w K mg base "Search" "triples_behind" 8 2 Fc)(q:FnM P w K mg base "is_worse" 1 1 FG)(k:fH P w K mg base "Search" "run_to" 1 2 ye)(o:fH P w K mg base "Search" "met" 1 4 IU):fH P w K mg base "Search" "worse_run" 9 1 yh:=by
 refine jm D bh rfl (nN:=5) rfl (by decide) ?ar λcdv A outer s H E f M=>⟨_,(mz' (ay 1 bh.nd mh')
   (mz' (fc (ap ix (mv' 1) (aF bU (by rfl) T.len d7 (mc' (cg T.f_Search_triples (mv' 0)) mn')) (aB _)) (mz' (ay 2 bh.nd (fh (gC g (M.mono (by decide)) (mv' 0) (mc' (uo (cg T.f_Search_triples (mv' 0)) (mv' 1)) mn'))))
   (mz' (cZ (ui T.zip (mc' (cg T.f_Search_moves (mv' 0)) (mc' (mv' 2) mn'))) (bg (n:=2) (ac (am 3 bh.nd) (ac (am 4 bh.nd) aM))) (mz' (bc (EW.pt (oi (ap ix (ae (mv' 4) mh') mh' (aB _)) (lM (c5 (mf' q (M.mono (by decide)) (mc' (mv' 4) mn')))))) (aa (ag (af aG (gC k (M.mono (by decide)) (mv' 0) (mc' (mv' 1) mn')) (aq (mc' (mv' 3) mn'))))) aA)
   (aa (dQ (gC o (M.mono (by decide)) (mv' 0) (mc' (mv' 4) (mc' (mv' 1) (mc' (mv' 3) mn'))))))) aa1)
   (aa (tj 1 bh.nd mh' FC)))) aa1)
   (aa (ag jz)))),?_⟩
 case ar=>intro as Kc ⟨h,r1,r2,rfl,_⟩;rfl
 intro as Kc hl ⟨h,r1,r2,rfl,G,a4,hp,k1,k2⟩;refine ah (MSt.mk [some (.at 0 []),none,none,none,none] [[scQ h r1 r2 [] [((zer h,zer h),0)] [stT h] [none]]] 1) rfl ?_;ext s;have C0:1+pot h (nP h) [((zer h,zer h),0)]≤190001:=by
  unfold pot smL;have:(nP h-1)*(nP h+2)≤nP h*(nP h+2):=adk _ (Nat.sub_le _ _);simp;omega
 refine ju (λn m=>∃(i:Nat) (a b c:Option L2.R) (C:List Ck) (L:List (Pk×Int)) (T:List Tr) (Y:List Wy) (P:List (List Mv)),m=MSt.mk [some (.at 0 []),some (.imm (.int (i:Int))),a,b,c] [[scQ h r1 r2 C L T Y]] 1/\CaOk h C/\Qv h r1 r2 (1+pot h (nP h) [((zer h,zer h),0)]) L T Y P i 0/\n=190001-i) _ ⟨0,none,none,none,[],_,_,_,_,rfl,⟨abT,λ_ z=>by cases z⟩,Qv.zero G.o,rfl⟩ ?_;intro n m B ⟨i,a,b,c,C,L,T,Y,P,rfl,X,V,hn⟩;have nT:=V.pt;have nPb:nP h≤190000:=aaD (Nat.le_mul_of_pos_right _ (Nat.succ_pos _)) hp;ext s;refine⟨T.map trD,j9 T,?_⟩;rw[lD];ext s;refine aY (λz=>?_) (λz=>?_)
 .have hi:i<T.length:=by omega
  let⟨t,Q⟩:∃t,T[i]?=some t:=⟨_,iO hi⟩;let⟨p,v,kp,rfl⟩:=V.here Q;have S:=iM G.o G.k1 G.k2 G.n1 G.n2 (vv (r1:=r1) (r2:=r2) kp);let⟨U,i2⟩:=Ay (f:=trD) Q;ext s;refine t8 (p:=[6]) rfl rfl U i2 ?_;rw[show ∀j,fC 0 [6] j (trD (wlk h r1 r2 p)) = .imm (trD (wlk h r1 r2 p))from λ_=>rfl];ext s;refine⟨h,r1,r2,C,L,T,Y,wlk h r1 r2 p,rfl,G,a4,X,S.1,S.2,λy X1=>?_⟩;ext x;refine⟨false,_,false,_,rfl,rfl,?_⟩;refine cB (λj m=>∃(b c:Option L2.R) (L:List (Pk×Int)) (T:List Tr) (Y:List Wy) (P:List (List Mv)),m=MSt.mk [some (.at 0 []),some (.imm (.int (i:Int))),some (.imm (.list ((mvs h).map λm=>trD (bth h r1 r2 (wlk h r1 r2 p) m)))),b,c] [[scQ h r1 r2 y L T Y]] 1/\Qv h r1 r2 (1+pot h (nP h) [((zer h,zer h),0)]) L T Y P i j/\P[i]?=some p) ⟨b,c,L,T,Y,P,rfl,V,v⟩ ?_ ?_
  .clear V v U i2 Q hi z nT;intro j d m e B ⟨b,c,L,T,Y,P,rfl,V,v⟩ D1 J O;let⟨x1,x2,e1,e2,rfl⟩:=tx e;let⟨mv,I,rfl,hj⟩:=gmap e1;let⟨mv',F,rfl,hj'⟩:=gmap e2;rw[I]at F;cases F;have N:=(gj (h:=h) (r1:=r1) (r2:=r2) (R:=p) (m:=mv)).symm;have LB:=jZ G.o G.k1 G.k2 G.n1 G.n2 S (Io I);generalize bth h r1 r2 (wlk h r1 r2 p) mv=u at *;have nT:=V.pt;have nY:=V.ly;have nP:=V.lt;have nL:=V.dk.len;ext s
   .rfl
   refine kG (x_gM (kG (x_gM (zx ?_))));ext n;refine o4 (OL ?_);refine x_JT (λc m=>c=bad u/\m=MSt.mk [some (.at 0 []),some (.imm (.int (i:Int))),some (.imm (.list ((mvs h).map λm=>trD (bth h r1 r2 (wlk h r1 r2 p) m)))),some (.imm mv.d),some (.imm (trD u))] [[scQ h r1 r2 y L T Y]] 1) (λK' hK=>?_) ?_
   .rw[show trD u = .tuple [lnD u.1,lnD u.2.1,.int u.2.2]from rfl];ext s;refine aY (λz=>?_) (λz=>?_)
    .exact hK _ _ ⟨by unfold bad;rw[decide_eq_true z];rfl,rfl⟩
    .ext s;refine⟨u,rfl,?_⟩;ext x;exact hK _ _ ⟨by unfold bad;rw[decide_eq_false z];rfl,rfl⟩
   .rintro c m ⟨rfl,rfl⟩
    cases hb:bad u with
    |true=>
     ext s;refine⟨h,r1,r2,y,L,T,Y,P,i,p,rfl,⟨V.ly,V.wy⟩,by omega,v,?_⟩;ext x;have dp:=V.dep i p v;have iP:=(AD.mp v).1;refine kZ (by rw[lD,aar];show p.length+1≤_;omega) ?_;have R1:=k1 (p++[mv]) y L T Y (kp.snoc (Io I)) (by rw[<-N];exact hb) (by rw[aam];exact V.min v) (by rw[aam];show p.length+1≤_;omega);rw[aaH]at R1;exact O _ _ R1
    |false=>
     ext s;refine⟨h,r1,r2,y,L,T,Y,u,some (i,mv),(i:Int),mv.d,rfl,rfl,G.o,V.dk.ln,LB.1,LB.2,by omega,by omega,by omega,λhv=>?_,λw ew hw=>?_⟩
     .ext x;exact J _ ⟨_,_,_,_,_,_,rfl,V.new G.o G.k1 G.k2 G.n1 G.n2 v I N hb hv,da v⟩
     .ext x;exact J _ ⟨_,_,_,_,_,_,rfl,V.old v I (by rw[<-N];exact hb) (by rw[<-N];exact UC ew hw rfl),v⟩
  .rintro m B ⟨b,c,L,T,Y,P,rfl,V,v⟩;ext n;refine IL (i:Int) rfl ?_;ext s;refine⟨1,rfl,?_⟩;ext n;have e0:(zipD ((mvs h).map Mv.d) ((mvs h).map λm=>trD (bth h r1 r2 (wlk h r1 r2 p) m))).length=(mvs h).length:=by rw[dt,lD,lD];exact agX _
   rw[e0]at V;have iP:=(AD.mp v).1;have n1:=V.pt;have n2:=V.lt;exact⟨190001-(i+1),by omega,i+1,_,b,c,y,L,T,Y,P,rfl,X1,V.next,rfl⟩
 .ext s;refine k2 C L T Y (λR kR=>(V.done (by omega) kR).1) V.dk λZ W=>⟨V.nvr (by omega) W,λt ht=>Ol V.dk (λx hx=>?_) t (W.mem_iff.mp ht)⟩;have v1:=V.vt _ (V.dl x hx);have v2:=V.dk.len;dsimp only at v1;omega
theorem mD(T:Bl K mg)(D:MthD K "Search" "paper" "Search.paper" b8 ["self"]):fH P w K mg base "Search" "paper" 1 1 yT:=by
 refine jm D mF rfl (nN:=1) rfl (by decide) ?ar λu A outer s H E f y=>⟨_,(aa (ag (bI b5 (by rfl) T.tuple df (mc' (bM (own:=["x","y","lead"]) (fr:=[]) (ps:=[]) (sc:=(ab b8)) (by exact⟨rfl,by decide +kernel,by decide +kernel,by decide +kernel,by decide +kernel⟩) (bC (fh (AQ y.units T.sorted (cg T.f_Search_leads (mv' 0))))) (λ_ _ _ _ _=>(bg (n:=2) (ac (bg (n:=2) (ac (am 0 (show aa2 ((["x","y","lead"]:List Str)++([]:List Str))from by decide +kernel)) (ac (am 1 (show aa2 ((["x","y","lead"]:List Str)++([]:List Str))from by decide +kernel)) aM))) (ac (am 2 (show aa2 ((["x","y","lead"]:List Str)++([]:List Str))from by decide +kernel)) aM)))) (λ_ _ _ _ _=>bO) (λ_ _ _ _ _=>(aq (mc' (mv' 0) (mc' (mv' 1) (mc' (mv' 2) mn')))))) mn')))),?_⟩
 case ar=>intro B v ⟨h,r1,j,C,L,T,Y,rfl,_⟩;rfl
 intro B v I ⟨h,r1,j,C,L,T,Y,rfl,x,D,n,k⟩;have g:kyA (ldD L)=true:=LQ x D.ln;refine ah (MSt.mk [some (.at 0 [])] [[scQ h r1 j C L T Y]] 1) rfl ?_;ext s;refine ou rfl g ⟨ldD L,⟨rfl,rfl⟩,.inr g,PJ D n,λz p G=>?_⟩;rw[Gh]at p;let⟨t,o,rfl⟩:=zG p.symm rfl;ext s;refine cB (λi m=>∃a b c:Option L2.R,m=MSt.mk [a,b,c] [[scQ h r1 j C L T Y],(ldT (t.take i)).map trD] 2) ⟨none,none,none,rfl⟩ ?_ ?_
 .rintro i d m e hnp ⟨a,b,c,rfl⟩ D1 hD1 hR1;let⟨q,eq,rfl,F⟩:=gmap e;unfold itL pkD;ext s
  .rfl
  ext s
  .rfl
  ext s;ext n;have J:t.length<100000:=by rw[o.length_eq];exact n
  refine⟨_,rfl,by unfold ldT;rw[lD,lD,aau,aar];omega,hD1 _ ⟨some (.imm (lnD q.1.1)),some (.imm (lnD q.1.2)),some (.imm (.int q.2)),?_⟩⟩;rw[aaO,eq];unfold ldT;rw[aaH,aaH];rfl
 .rintro m hnp ⟨a,b,c,rfl⟩;ext s;rw[lD,aax];exact k _ (o.map _)
theorem ja(T:Bl K mg)(D:IniD K mg "Search" "Search.__init__" bF ["self","hall","one","other"])(b:FnM P w K mg base "all_moves" 2 1 zh)(G:FnM P w K mg base "first_triple" 2 1 Fv)(a:fH P w K mg base "Search" "met" 1 4 IU):yu P w K mg base "Search" 3 3 Bh:=by
 refine GN D jr rfl (nN:=4) rfl (by decide) ?ar λm A outer s H E f d=>⟨_,_,(il T.f_Search_hall (mv' 1) (il T.f_Search_rules (aq (mc' (mv' 2) (mc' (mv' 3) mn'))) (il T.f_Search_moves (fh (mf' b (d.mono (by decide)) (mc' (mv' 1) mn'))) (il T.f_Search_steps vF (il T.f_Search_leads vF (il T.f_Search_triples (cr mn') (il T.f_Search_ways (cr mn') (CU (aa (dQ (gC a (d.mono (by decide)) (mv' 0) (mc' (mf' G (d.mono (by decide)) (mc' (mv' 1) mn')) (mc' (kq gY mh') (mc' jz mn')))))))))))))),⟨by rfl,by decide⟩,?_⟩
 case ar=>intro ds i ⟨h,r1,e,rfl,_⟩;rfl
 intro ds i o ⟨h,r1,e,rfl,c,k⟩;refine Jk (MSt.mk [none,some (.imm h.d),some (.imm r1.d),some (.imm e.d)] [] 0) rfl ?_;ext s;refine⟨h,rfl,c,?_⟩;ext x;refine⟨h,rfl,c,?_⟩;ext x;have g:=(gF c r1).ln;refine⟨h,r1,e,[],[],[],[],stT h,none,-1,.none,rfl,rfl,c,(λ_ z=>by cases z),g,g,by decide,by decide,by decide,λn=>?_,λw j=>by cases j⟩;ext x;exact⟨_,rfl,k⟩
theorem oU(T:Bl K mg)(D:DefM K mg "never_worse" fQ ["hall","one","other"])(e:FnM P w K mg base "refuse_turns" 1 2 Fu)(b:yu P w K mg base "Search" 3 3 Bh)(a:fH P w K mg base "Search" "worse_run" 9 1 yh)(d:fH P w K mg base "Search" "paper" 1 1 yT):FnM P w K mg base "never_worse" 10 3 yV:=by
 refine aV D fz rfl (nN:=5) rfl (by decide) ?ar λo A outer s H E f i=>⟨_,(mz' (dQ (mf' e (i.mono (by decide)) (mc' (mv' 1) (mc' (mv' 2) mn'))))
   (mz' (ay 3 fz.nd (Dh b (i.mono (by decide)) (mc' (mv' 0) (mc' (mv' 1) (mc' (mv' 2) mn')))))
   (mz' (ay 4 fz.nd (qL a (i.mono (by decide)) (mv' 3)))
   (mz' (bc (ap oh (mv' 4) jz (aB _)) (aa (ag (aq (mc' ai (mc' (mv' 4) mn'))))) aA)
   (aa (ag (aq (mc' ai (mc' (qL d (i.mono (by decide)) (mv' 3)) mn'))))))))),?_⟩
 case ar=>intro B u ⟨h,r1,g,rfl,_⟩;rfl
 intro B u F ⟨h,r1,g,rfl,G,y,t,k1,k2⟩;refine ah (MSt.mk [some (.imm h.d),some (.imm r1.d),some (.imm g.d),none,none] [] 0) rfl ?_;ext s;refine⟨r1,g,rfl,G.n1,G.n2,?_⟩;ext x;refine⟨h,r1,g,rfl,G.o,?_⟩;ext s;ext n;refine Bo rfl (by decide) ?_;refine⟨h,r1,g,rfl,G,y,t,λR C L m Y q n v x=>?_,λC L m Y S D Z=>?_⟩
 .ext x;rw[if_pos (c:=(!isNone (L2.R.imm (.tuple (R.map Mv.d))))=true) rfl];ext s;exact k1 R q n v x
 .ext x;rw[if_neg (by decide)];ext s;have l:L.length<100000:=by
   have:=D.len;have:nP h≤435:=by
    refine Nat.le_of_not_lt λz=>?_;have:436*438≤nP h*(nP h+2):=adl z (by omega);omega
   omega
  refine⟨h,r1,g,C,L,m,Y,rfl,G.o,D,l,λj p=>?_⟩;ext x;have k:=p.length_eq;unfold ldT at k;rw[lD]at k;exact k2 j S (Z j p).1 (Z j p).2 (by omega)
def tq(T:Bl K mg)(D:DefM K mg "_law_tape" jw ["_law_script"]):FnM P w K mg base "_law_tape" 1 1 xH:=by
 refine aV D tJ rfl (nN:=1) rfl (by decide) ?ar λd A outer s H E f g=>⟨_,(aa (ag (DH (ll ai (fh (cG fu (mv' 0) dU (cQ mh'))) (ll ai mh' (ll ai mh' CA)))))),?_⟩
 case ar=>intro c b ⟨ns,rfl,_⟩;rfl
 intro c b i ⟨ns,rfl,a,k⟩;refine ah (MSt.mk [some (.imm (.list (ns.map .int)))] [] 0) rfl ?_;ext s;have e:cutD (ns.map abq) none (some 63)=ns.map .int:=Cy (n:=63) (by rw[lD];exact a);rw[e];exact k _ ⟨ns,0,0,rfl,a,by omega,by omega,by omega⟩
theorem um(T:Bl K mg)(D:DefM K mg "_law_draw" jB ["_law_tape_here","_law_many"]):FnM P w K mg base "_law_draw" 1 2 pk:=by
 refine aV D cy rfl (nN:=6) rfl (by decide) ?ar λG A outer s H E f d=>⟨_,(mz' (bc (ap lL (fU d.units (mv' 0) ai) mh' (aB _)) (mz' (ay 2 cy.nd (af d4 (fU d.units (mv' 0) ai) (mv' 1)))
   (mz' (oX d.units (af gl (fU d.units (mv' 0) ai) (mv' 1)) (mv' 0) ai)
   (aa (ag (mv' 2))))) aA)
   (mz' (ay 3 cy.nd (fU d.units (mv' 0) ai))
   (mz' (oX d.units (af aG (mv' 3) mh') (mv' 0) ai)
   (mz' (ay 4 cy.nd (af bJ mh' (mv' 3)))
   (mz' (bc (ap (j4 d.units) (fU d.units (mv' 0) ai) (cr mn') (aB _)) (aa (ay 4 cy.nd (ae (fU d.units (mv' 0) ai) (af d4 (mv' 3) (aF bU (by rfl) T.len d7 (mc' (fU d.units (mv' 0) ai) mn')))))) aA)
   (mz' (bc (EW.pt (h7 (ap Fe (mv' 4) (af Ie mh' mh') (aB _)) (gG (ap ix (mv' 3) (aF bU (by rfl) T.len d7 (mc' (fU d.units (mv' 0) ai) mn')) (aB _))))) (mz' (oX d.units (af gl (mv' 4) (mv' 1)) (mv' 0) ai)
   (aa (ag (af d4 (mv' 4) (mv' 1))))) aA)
   (mz' (ay 5 cy.nd (af d4 (af bJ (af aG (af aG (af d4 (mv' 4) mh') (af bJ mh' (mv' 3))) mh') mh') mh'))
   (mz' (ay 5 cy.nd (af d4 (af bJ (af aG (af aG (af gl (mv' 5) mh') (af bJ mh' (mv' 3))) mh') mh') mh'))
   (aa (ag (af d4 (af gl (mv' 5) mh') (mv' 1)))))))))))),?_⟩
 case ar=>intro J B ⟨ds,m,c,rfl,_⟩;rfl
 intro J B L ⟨ds,m,c,rfl,⟨ns,p,q,rfl,z,u,M,j⟩,N,e,F,k⟩;refine ah (MSt.mk [some (.at 0 []),some (.imm (.int m)),none,none,none,none] [[Km ns p q]] 1) rfl ?_;ext s;refine aY (λh=>?_) (λh=>?_)
 .ext s;exact k _ _ (adT _ (by omega)) (ac3 _ e) ⟨ns,p,q/m,rfl,z,u,by omega,afW j (by omega)⟩
 .ext s;have b:∀x:Int,0≤x->x<m->∀t:Int,0≤t->B (.imm (.int x)) [[Km ns (p+1) t]]:=λx g n t I=>k _ _ g n ⟨ns,p+1,t,rfl,z,by omega,by omega,I⟩;have a:∀y:Int,0≤y/64%m/\y/64%m<m:=λy=>⟨adT _ (by omega),ac3 _ e⟩
  cases ns with
  | nil=>
   refine x_ne rfl rfl rfl rfl ?_;ext s;refine iI ?_;ext s;refine aY (λg=>?_) (λg=>?_)
   .ext s;refine aY (λn=>?_) (λn=>?_)
    .ext s;exact b _ (adT _ (by omega)) (ac3 _ e) _ (afW (aeK (by decide) g) (by omega))
    .ext s;exact b _ (a _).1 (a _).2 _ j
   .ext s;exact b _ (a _).1 (a _).2 _ j
  | cons v ns=>
   refine x_ne rfl rfl (tw _) rfl ?_;ext s;refine iy ?_;ext s;have o:(0:Int)<((agg abq (v::ns)).length:Int):=by simp only[lD,aaw];omega
   refine Js o ?_;let⟨x,C⟩:=DT (ns:=v::ns) (i:=p%((agg abq (v::ns)).length:Int)) (adT _ (by omega)) (by have:=ac3 p o;simp only[lD]at this⊢;exact this);refine p7 C ?_;ext s;refine aY (λg=>?_) (λg=>?_)
   .ext s;refine aY (λn=>?_) (λn=>?_)
    .ext s;exact b _ (adT _ (by omega)) (ac3 _ e) _ (afW (aeK (by decide) g) (by omega))
    .ext s;exact b _ (a _).1 (a _).2 _ j
   .ext s;exact b _ (a _).1 (a _).2 _ j
def sW(T:Bl K mg)(D:DefM K mg "_law_frac" jn ["_law_top","_law_bottom"]):FnM P w K mg base "_law_frac" 1 2 QW:=by
 refine aV D h8 rfl (nN:=4) rfl (by decide) ?ar λt A outer s H E f J=>⟨_,(mz' (ik (i:=2) (j:=3) h8.nd rfl rfl (by decide) rfl rfl (mc' (mv' 0) (mc' (mv' 1) mn')) rfl)
   (mz' (fc (ap lL (mv' 3) mh' (aB _)) (aa (ik (i:=2) (j:=3) h8.nd rfl rfl (by decide) rfl rfl (mc' (mv' 3) (mc' (af d4 (mv' 2) (mv' 3)) mn')) rfl)) aa1)
   (aa (ag (aq (mc' (af gl (mv' 0) (mv' 2)) (mc' (af gl (mv' 1) (mv' 2)) mn'))))))),?_⟩
 case ar=>intro C u ⟨a,b,rfl,_⟩;rfl
 intro C u G ⟨a,b,rfl,q,d,B,k⟩;refine ah (MSt.mk [some (.imm (.int a)),some (.imm (.int b)),none,none] [] 0) rfl ?_;ext s;refine ju (λn m=>∃x y:Nat,m=MSt.mk [some (.imm (.int a)),some (.imm (.int b)),some (.imm (.int x)),some (.imm (.int y))] [] 0/\x.gcd y=a.gcd b/\x<1000000000/\y<1000000000/\n=y) b ⟨a,b,rfl,rfl,q,B,rfl⟩ ?_;intro n m I ⟨x,y,rfl,c,v,e,rfl⟩;ext s;refine aY (λg=>?_) (λF=>?_)
 .ext s;have o:0<n:=by omega
  have p:=agI x o;exact⟨x%n,p,n,x%n,rfl,by rw[Nat.gcd_comm,<-Nat.gcd_rec,Nat.gcd_comm,c],e,by omega,rfl⟩
 .have hy0:n=0:=by omega
  subst hy0;rw[Nat.gcd_zero_right]at c;have z:0<x:=by rw[c];exact afq _ d
  ext s;ext s;rw[c];exact k
theorem jR(T:Bl K mg)(D:DefM K mg "_law_all_lines" cF ["_law_rooms"]):FnM P w K mg base "_law_all_lines" 1 1 pC:=by
 refine aV D bH rfl (nN:=5) rfl (by decide) ?ar λI A outer s H E f x=>⟨_,(mz' (ay 1 bH.nd (cr (mc' (aq mn') mn')))
   (mz' (cZ (bC (mv' 0)) (am 2 bH.nd) (mz' (ay 3 bH.nd (cr mn'))
   (mz' (cZ (bC (mv' 1)) (iz (i:=4) bH.nd rfl (ac9 rfl)) (aa (dQ (mZ PySem.F.slot_list_extend PySem.F.type_list_extend wF (mv' 3) (mc' (bM (own:=["_law_k"]) (fr:=["_law_lines"]) (ps:=[4]) (sc:=(ab cF)) (by exact⟨rfl,by decide +kernel,by decide +kernel,by decide +kernel,by decide +kernel⟩) (cN (by rfl) T.range (mc' (af aG (mv' 2) mh') mn')) (λ_ _ _ _ _=>(am 0 (show aa2 ((["_law_k"]:List Str)++(["_law_lines"]:List Str))from by decide +kernel))) (λ_ _ _ _ _=>bO) (λ_ _ _ _ _=>(af aG (mv' 1) (aq (mc' (mv' 0) mn'))))) mn')))) aa1)
   (aa (ay 1 bH.nd (mv' 3))))) aa1)
   (aa (ag (mv' 1))))),?_⟩
 case ar=>intro N L ⟨rs,rfl,_⟩;rfl
 intro N L R ⟨rs,rfl,O,F,k⟩;refine ah (MSt.mk [some (.imm (.list (rs.map λ(r:Nat)=>.int (r:Int)))),none,none,none,none] [] 0) rfl ?_;ext s;refine fV ?_;ext x;refine c6 (λi m=>∃a c,m=MSt.mk [some (.imm (.list (rs.map λ(r:Nat)=>.int (r:Int)))),some (.obj 0),a,none,c] [(((rs.take i).foldl M3.stepL [[]]).map lnD)] 0) ⟨none,none,rfl⟩ ?_ ?_
 .rintro i d m e n ⟨a,c,rfl⟩;let⟨r,B,rfl,Q⟩:=gmap e;have r6:=F r (Io B);generalize g:(rs.take i).foldl M3.stepL [[]]=p;have q:∀a∈p,a.length≤4:=by
   intro a v;rw[<-g]at v;have:=M3.allR_len (by rw[<-M3.allL_eq];exact v);rw[this,aau];omega
  have J:p.length≤2401:=by
   rw[<-g];exact M3.fold_small (by rw[aau];omega) (λr x=>F r (abH x))
  have o:((rs.take (i+1)).foldl M3.stepL [[]])=M3.stepL p r:=by
   rw[aaO,B,agZ,g];rfl
  rw[o];ext s;refine fV ?_;ext x;refine g6 (λi m=>∃a,m=MSt.mk [some (.imm (.list (rs.map λ(r:Nat)=>.int (r:Int)))),some (.obj 0),some (.imm (.int r)),some (.obj 1),a] [p.map lnD,(M3.stepL (p.take i) r).map lnD] 1) ⟨c,rfl⟩ ?_ ?_ ?_
  .rintro j m ⟨a,rfl⟩;rfl
  .rintro j d m ej nj ⟨a,rfl⟩;let⟨l,C,rfl,S⟩:=gmap ej;have G:=q l (Io C);ext s;refine⟨by omega,by omega,?_⟩;have M:((r:Int)+1).toNat=r+1:=by omega
   rw[M];ext n;refine c6 (λz m=>∃b,m=MSt.mk [b,some (.imm (lnD l))] [p.map lnD,(M3.stepL (p.take j) r).map lnD,((aat z).map λy=>l++[y]).map lnD] 3) ⟨none,rfl⟩ ?_ ?_
   .rintro z dz m ez nz ⟨b,rfl⟩;let⟨u,rfl⟩:=dw ez;ext s;refine kZ (by rw[aar,aH];simp;omega) ?_;ext s;refine⟨_,rfl,by rw[aar];simp;omega,some (.imm (.int (0+(z:Int)))),?_⟩;have t:((aat (z+1)).map λy=>l++[y]).map lnD=((aat z).map λy=>l++[y]).map lnD++[.tuple (natD l++[.int (0+(z:Int))])]:=by
     rw[acH];simp[lnD,natD]
    rw[t];rfl
   .rintro m n ⟨b,rfl⟩;rw[ba];ext s;have u:((M3.stepL (p.take j) r).map lnD).length+(((aat (r+1)).map λy=>l++[y]).map lnD).length≤aaj:=by
     rw[aar,lD,lD,lD,abb,M3.stepL_length,aau];have:min j p.length*(r+1)≤2401*7:=adl (by omega) (by omega);omega
    refine' CB (ds:=(M3.stepL (p.take j) r).map lnD) ?eb u ?_
    case eb=>rfl
    have t:(M3.stepL (p.take (j+1)) r).map lnD=(M3.stepL (p.take j) r).map lnD++((aat (r+1)).map λy=>l++[y]).map lnD:=by
     rw[M3.stepL_take C,aaH]
    rw[t];exact⟨_,rfl⟩
  .rintro m n ⟨a,rfl⟩;rw[lD,aax];ext n;refine Um ?_;refine Qm rfl ?_;refine yY [1] (MSt.mk [some (.imm (.list (rs.map λ(r:Nat)=>.int (r:Int)))),some (.obj 0),some (.imm (.int r)),none,none] [(M3.stepL p r).map lnD] 0) (Ox rfl rfl rfl rfl rfl rfl ⟨rfl,⟨1,rfl,rfl⟩,rfl,trivial,trivial,trivial⟩) ⟨_,_,rfl⟩
 .rintro m n ⟨a,c,rfl⟩;rw[lD,aax,show rs.foldl M3.stepL [[]]=M3.allL rs from rfl,M3.allL_eq];ext s;exact k
theorem tu(T:Bl K mg)(D:DefM K mg "_law_hall" cj ["_law_tape_here","_law_most"])(G:FnM P w K mg base "_law_draw" 1 2 pk)(v:FnM P w K mg base "_law_frac" 1 2 QW)(u:FnM P w K mg base "_law_all_lines" 1 1 pC):FnM P w K mg base "_law_hall" 3 2 uF:=by
 refine aV D bZ rfl (nN:=7) rfl (by decide) ?ar λcdv A outer s H E f B=>⟨_,(mz' (ay 2 bZ.nd (ae (cr (mc' mh' (mc' mh' (mc' mh' (mc' mh' (mc' mh' (mc' mh' (mc' mh' (mc' mh' mn'))))))))) (mf' G (B.mono (by decide)) (mc' (mv' 0) (mc' mh' mn')))))
   (mz' (i6 (i:=3) (own:=["_law_k"]) (fr:=["_law_tape_here"]) (ps:=[0]) (sc:=(ab cj)) (by exact⟨rfl,by decide +kernel,by decide +kernel,by decide +kernel,by decide +kernel⟩) bZ.nd rfl rfl (cN (by rfl) T.range (mc' (mv' 2) mn')) (λ_ _ _ _ _=>(am 0 (show aa2 ((["_law_k"]:List Str)++(["_law_tape_here"]:List Str))from by decide +kernel))) (λ_ _ _ _ _=>bO) (λ_ _ _ _ _=>(aq (mc' (af aG mh' (mf' G (B.mono (by decide)) (mc' (mv' 1) (mc' mh' mn')))) (mc' (af aG mh' (mf' G (B.mono (by decide)) (mc' (mv' 1) (mc' mh' mn')))) mn')))))
   (mz' (bc (ap (bo B.units) (mf' G (B.mono (by decide)) (mc' (mv' 0) (mc' mh' mn'))) mh' (aB _)) (aa (ay 3 bZ.nd (af bJ (cr (mc' (ae (mv' 3) mh') mn')) (mv' 2)))) aA)
   (mz' (fc (ap lL (aF bU (by rfl) T.len d7 (mc' (mf' u (B.mono (by decide)) (mc' (fh (bM (own:=["_law_top","_law_room"]) (fr:=[]) (ps:=[]) (sc:=(ab cj)) (by exact⟨rfl,by decide +kernel,by decide +kernel,by decide +kernel,by decide +kernel⟩) (bC (mv' 3)) (λ_ _ _ _ _=>(bg (n:=2) (ac (am 0 (show aa2 ((["_law_top","_law_room"]:List Str)++([]:List Str))from by decide +kernel)) (ac (am 1 (show aa2 ((["_law_top","_law_room"]:List Str)++([]:List Str))from by decide +kernel)) aM)))) (λ_ _ _ _ _=>bO) (λ_ _ _ _ _=>(mv' 1)))) mn')) mn')) (mv' 1) (aB _)) (mz' (bc (ap (bo B.units) (aF (d8 rfl) (by rfl) T.max nW (mc' (bM (own:=["_law_top","_law_room"]) (fr:=[]) (ps:=[]) (sc:=(ab cj)) (by exact⟨rfl,by decide +kernel,by decide +kernel,by decide +kernel,by decide +kernel⟩) (bC (mv' 3)) (λ_ _ _ _ _=>(bg (n:=2) (ac (am 0 (show aa2 ((["_law_top","_law_room"]:List Str)++([]:List Str))from by decide +kernel)) (ac (am 1 (show aa2 ((["_law_top","_law_room"]:List Str)++([]:List Str))from by decide +kernel)) aM)))) (λ_ _ _ _ _=>bO) (λ_ _ _ _ _=>(mv' 1))) mn')) mh' (aB _)) (aa (ay 3 bZ.nd (cG fu (mv' 3) (cQ mh') dU))) aA)
   (aa (i6 (i:=3) (own:=["_law_top","_law_room"]) (fr:=[]) (ps:=[]) (sc:=(ab cj)) (by exact⟨rfl,by decide +kernel,by decide +kernel,by decide +kernel,by decide +kernel⟩) bZ.nd rfl rfl (bC (mv' 3)) (λ_ _ _ _ _=>(bg (n:=2) (ac (am 0 (show aa2 ((["_law_top","_law_room"]:List Str)++([]:List Str))from by decide +kernel)) (ac (am 1 (show aa2 ((["_law_top","_law_room"]:List Str)++([]:List Str))from by decide +kernel)) aM)))) (λ_ _ _ _ _=>bO) (λ_ _ _ _ _=>(aq (mc' (mv' 0) (mc' (aF (zt rfl) (by rfl) T.max nW (mc' mh' (mc' (af zW (mv' 1) mh') mn'))) mn'))))))) aa1)
   (mz' (ay 4 bZ.nd (af aG mh' (mf' G (B.mono (by decide)) (mc' (mv' 0) (mc' mh' mn')))))
   (mz' (kb (i:=5) bZ.nd rfl (ac9 rfl) (af aG (af aG (mv' 4) (aF (zo rfl) (by rfl) T.sum qR (mc' (bM (own:=["_law_top","_law_room"]) (fr:=[]) (ps:=[]) (sc:=(ab cj)) (by exact⟨rfl,by decide +kernel,by decide +kernel,by decide +kernel,by decide +kernel⟩) (bC (mv' 3)) (λ_ _ _ _ _=>(bg (n:=2) (ac (am 0 (show aa2 ((["_law_top","_law_room"]:List Str)++([]:List Str))from by decide +kernel)) (ac (am 1 (show aa2 ((["_law_top","_law_room"]:List Str)++([]:List Str))from by decide +kernel)) aM)))) (λ_ _ _ _ _=>bO) (λ_ _ _ _ _=>(mv' 0))) mn'))) (ae (cr (mc' mh' (mc' mh' (mc' mh' (mc' mh' (mc' mh' mn')))))) (mf' G (B.mono (by decide)) (mc' (mv' 0) (mc' mh' mn'))))))
   (mz' (ay 6 bZ.nd (bI b5 (by rfl) T.tuple df (mc' (bM (own:=["_law_top","_law_room"]) (fr:=["_law_whole"]) (ps:=[5]) (sc:=(ab cj)) (by exact⟨rfl,by decide +kernel,by decide +kernel,by decide +kernel,by decide +kernel⟩) (bC (mv' 3)) (λ_ _ _ _ _=>(bg (n:=2) (ac (am 0 (show aa2 ((["_law_top","_law_room"]:List Str)++(["_law_whole"]:List Str))from by decide +kernel)) (ac (am 1 (show aa2 ((["_law_top","_law_room"]:List Str)++(["_law_whole"]:List Str))from by decide +kernel)) aM)))) (λ_ _ _ _ _=>bO) (λ_ _ _ _ _=>(aq (mc' (mf' v (B.mono (by decide)) (mc' (mv' 0) (mc' (mv' 2) mn'))) (mc' (mv' 1) mn'))))) mn')))
   (aa (ag (aq (mc' (mf' v (B.mono (by decide)) (mc' (mv' 4) (mc' (mv' 5) mn'))) (mc' (mv' 6) (mc' (dE (bo B.units) (mf' G (B.mono (by decide)) (mc' (mv' 0) (mc' mh' mn'))) mh' (aB _)) mn'))))))))))))),?_⟩
 case ar=>intro as Kc ⟨t,c,mo,rfl,_⟩;rfl
 intro as Kc hl ⟨t,c,mo,rfl,y,hc,hmo,k⟩;refine ah (MSt.mk [some (.at 0 []),some (.imm (.int (mo:Int))),none,none,none,none,none] [[t]] 1) rfl ?_;ext s;refine⟨t,_,_,rfl,y,by omega,by omega,by omega,λq t M R y=>?_⟩;let⟨n,hn1,hn4,en⟩:∃n:Nat,1≤n/\n≤4/\atI [abq 2,.int 2,.int 3,.int 1,.int 2,.int 3,.int 2,.int 3] q=some (.int (n:Int)):=by
  have:q=0\/q=1\/q=2\/q=3\/q=4\/q=5\/q=6\/q=7:=by omega
  rcases this with rfl|rfl|rfl|rfl|rfl|rfl|rfl|rfl
  .exact⟨2,by decide,by decide,rfl⟩
  .exact⟨2,by decide,by decide,rfl⟩
  .exact⟨3,by decide,by decide,rfl⟩
  .exact⟨1,by decide,by decide,rfl⟩
  .exact⟨2,by decide,by decide,rfl⟩
  .exact⟨3,by decide,by decide,rfl⟩
  .exact⟨2,by decide,by decide,rfl⟩
  .exact⟨3,by decide,by decide,rfl⟩
 ext n;refine pj en ?_;ext s;refine⟨by omega,by omega,?_⟩;rw[abc];ext n;refine c6 (λi m=>∃a t ps,m=MSt.mk [a,some (.at 0 [])] [[t],ps.map prD] 2/\TapeK (c+1+2*i) t/\ps.length=i/\∀p∈ps,1≤p.1/\p.1≤3/\1≤p.2/\p.2≤4) ⟨none,t,[],rfl,y,rfl,λ_ h=>by cases h⟩ ?_ ?_
 .rintro i d m e U ⟨a,t,ps,rfl,y,I,Q⟩;let⟨Z,rfl⟩:=dw e;ext s;refine⟨t,_,c+1+2*i,rfl,y,by omega,by omega,by omega,λY t M R y=>?_⟩;ext x;refine⟨t,_,c+1+2*i+1,rfl,y,by omega,by omega,by omega,λq2 t hq2 hq3 y=>?_⟩;ext x;let⟨Y,rfl⟩:=aco M;let⟨q2,rfl⟩:=aco hq2;refine⟨_,rfl,by rw[aar,lD];omega,some (.imm (.int (0+(i:Int)))),t,ps++[(1+Y,1+q2)],?_,y.mono (by omega),by simp[I],λp F=>?_⟩
  .rw[aaH];rfl
  .obtain h|h:=aaU.mp F
   .exact Q p h
   .cases aah.mp h
    exact⟨by show 1≤1+Y;omega,by show 1+Y≤3;omega,by show 1≤1+q2;omega,by show 1+q2≤4;omega⟩
 intro m U ⟨a,t,ps,rfl,y,I,Q⟩;rw[ba]at I;have y:=y.mono (c':=c+9) (by rw[ba];omega);have o:SvK ps:=⟨by omega,by omega,Q⟩;ext n;refine fV ?_;ext n;refine o4 ?_;refine x_JS (λm=>∃ps t,m=MSt.mk [some (.at 0 []),some (.imm (.int (mo:Int))),some (.imm (.int (n:Int))),some (.obj 1),none,none,none] [[t],ps.map prD] 1/\TapeK (c+10) t/\SvK ps) (λN J=>?_) ?_
 .ext s;refine⟨t,_,_,rfl,y,by omega,by omega,by omega,λY t M R y=>?_⟩;ext x;refine aY (λz=>?_) (λz=>?_)
  .obtain⟨p0,g,rfl⟩:∃p0 g,ps=p0::g:=by
    cases ps with
    |nil=>simp at I;omega
    |cons p0 sp=>exact⟨p0,sp,rfl⟩
   ext s;refine AK (d:=prD p0) rfl (show atI ((p0::g).map prD) 0=some (prD p0)from aU (j:=0) (xs:=(p0::g).map prD) rfl) ?_;ext s;refine Nw (by omega) (by omega) (by simp;omega) ?_;rw[abc,zf];refine gA (k:=1) rfl (show 1≤1 by decide) (λj hj=>?_) (J _ ⟨aas n p0,t,by rw[agM];rfl,y,o.rep aac hn1 hn4⟩)
   match j with
   |0|1|2|4|5|6=>exact λz=>by cases z
   |3=>exact(hj rfl).elim
   |n+7=>exact λz=>by cases z
  .ext s;exact J _ ⟨ps,t,rfl,y,o⟩
 clear o I Q y;intro _ ⟨ps,t,rfl,y,o⟩;refine o4 ?_;refine ju (λz m=>∃ps,m=MSt.mk [some (.at 0 []),some (.imm (.int (mo:Int))),some (.imm (.int (n:Int))),some (.obj 1),none,none,none] [[t],ps.map prD] 1/\SvK ps/\z=(bj ps).sum) _ ⟨ps,rfl,o,rfl⟩ ?_;clear o;intro z m U ⟨ps,rfl,o,rfl⟩;ext s;let⟨s1,s4,_⟩:=id o;refine g6 (λi m=>∃a b,m=MSt.mk [a,b] [[t],ps.map prD,(ps.take i).map J3] 3) ⟨none,none,rfl⟩ ?_ ?_ ?_
 .rintro i m ⟨a,b,rfl⟩;rfl
 .rintro i d m e hnp2 ⟨a,b,rfl⟩;let⟨p,C,rfl,Z⟩:=gmap e;have F:=o.2.2 p (Io C);rw[cJ _ C];dsimp only[prD];ext s
  .rfl
  ext s;exact⟨_,rfl,by rw[aar,lD,aau];omega,some (.imm (.int (p.1:Int))),some (.imm (.int (p.2:Int))),rfl⟩
 intro m hm ⟨a,b,rfl⟩;rw[lD,aax,sE];ext x;refine⟨bj ps,rfl,o.six.1,o.six.2,?_⟩;ext x;rw[lD];refine aY (λhb=>?_) (λhb=>?_)
 .have hb':mo<(M3.allR (bj ps)).length:=by omega
  refine o4 ?_;refine x_JS (λm=>∃g,m=MSt.mk [some (.at 0 []),some (.imm (.int (mo:Int))),some (.imm (.int (n:Int))),some (.obj 1),none,none,none] [[t],g.map prD] 1/\SvK g/\(bj (jo g)).sum<(bj ps).sum) (λN J=>?_) ?_
  .ext s;refine g6 (λi m=>∃a b,m=MSt.mk [a,b] [[t],ps.map prD,(ps.take i).map J3] 3) ⟨none,none,rfl⟩ ?_ ?_ ?_
   .rintro i m ⟨a,b,rfl⟩;rfl
   .rintro i d m e hnp2 ⟨a,b,rfl⟩;let⟨p,C,rfl,Z⟩:=gmap e;have F:=o.2.2 p (Io C);rw[cJ _ C];dsimp only[prD];ext s
    .rfl
    ext s;exact⟨_,rfl,by rw[aar,lD,aau];omega,some (.imm (.int (p.1:Int))),some (.imm (.int (p.2:Int))),rfl⟩
   intro m hm ⟨a,b,rfl⟩;rw[lD,aax,sE];ext x;refine qz rfl (yH (bj ps)) (λz=>?_) λx hx hx2=>?_
   .have:=congrArg adh z;rw[lD,bj,lD,ac5]at this;omega
   ext s;refine aY (λz=>?_) (λz=>?_)
   .ext s;have h1:∀r∈bj ps,r≤1:=λr B=>by
     have:=hx2 (r:Int) (aal.mpr ⟨r,B,rfl⟩);omega
    let⟨p,g,rfl⟩:∃p g,ps=p::g:=by
     cases ps with
     |nil=>simp at s1
     |cons p g=>exact⟨p,g,rfl⟩
    let⟨sv',dec⟩:=o.tail h1 hmo hb';rw[show cutD ((p::g).map prD) (some 1) none=g.map prD from(iE 1)];refine gA (k:=1) rfl (show 1≤1 by decide) (λj hj=>?_) (J _ ⟨g,rfl,sv',dec⟩)
    match j with
    |0|1|2|4|5|6=>exact λz=>by cases z
    |3=>exact(hj rfl).elim
    |n+7=>exact λz=>by cases z
   .ext s;refine J _ ⟨ps,rfl,o,?_⟩;let⟨r,B,er⟩:=aal.mp hx;let⟨p2,W,e2⟩:=aal.mp B;have:=(o.2.2 p2 W).2.2.1;exact(kj (ps:=ps) λp F=>(o.2.2 p F).2.2.1).2 ⟨p2,W,by omega⟩
  intro _ ⟨g,rfl,L,V⟩;have s4':=L.2.1;ext s;refine g6 (λi m=>∃a b,m=MSt.mk [a,b] [[t],g.map prD,(g.take i).map LJ] 3) ⟨none,none,rfl⟩ ?_ ?_ ?_
  .rintro i m ⟨a,b,rfl⟩;rfl
  .rintro i d m e hnp2 ⟨a,b,rfl⟩;let⟨p,C,rfl,Z⟩:=gmap e;have F:=L.2.2 p (Io C);rw[cJ _ C];dsimp only[prD];ext s
   .rfl
   ext s;have em:(if (p.2:Int)-1>1 then(p.2:Int)-1 else 1)=((max 1 (p.2-1):Nat):Int):=by
    split<;>omega
   rw[em];exact⟨_,rfl,by rw[aar,lD,aau];omega,some (.imm (.int (p.1:Int))),some (.imm (.int (p.2:Int))),rfl⟩
  intro m hm ⟨a,b,rfl⟩;rw[lD,aax,zR];ext n;refine gA (k:=1) rfl (show 1≤1 by decide) (λj hj=>?_) ⟨_,V,jo g,rfl,BZ L,rfl⟩
  match j with
  |0|1|2|4|5|6=>exact λz=>by cases z
  |3=>exact(hj rfl).elim
  |n+7=>exact λz=>by cases z
 .ext s;refine⟨t,_,_,rfl,y,by omega,by omega,by omega,λO t hc0 hc1 y=>?_⟩;let⟨O,rfl⟩:=aco hc0;ext x;refine g6 (λi m=>∃a b,m=MSt.mk [a,b] [[t],ps.map prD,(ps.take i).map topD] 3) ⟨none,none,rfl⟩ ?_ ?_ ?_
  .rintro i m ⟨a,b,rfl⟩;rfl
  .rintro i d m e hnp2 ⟨a,b,rfl⟩;let⟨p,C,rfl,Z⟩:=gmap e;have F:=o.2.2 p (Io C);rw[cJ _ C];dsimp only[prD];ext s
   .rfl
   ext s;exact⟨_,rfl,by rw[aar,lD,aau];omega,some (.imm (.int (p.1:Int))),some (.imm (.int (p.2:Int))),rfl⟩
  intro m hm ⟨a,b,rfl⟩;rw[lD,aax,Dq];ext x;refine⟨_,_,rfl,yH (uq ps),?_⟩;rw[sumK];have hsum:(uq ps).sum≤12:=by
   have:=ve (ps:=ps) λp F=>(o.2.2 p F).2.1;omega
  generalize (uq ps).sum=S at hsum;ext s;refine⟨t,_,_,rfl,y,by omega,by omega,by omega,λq t M R y=>?_⟩;let⟨X,hmr,emr⟩:∃X:Nat,X≤40/\atI [abq 0,.int 0,.int 1,.int 7,.int 40] q=some (.int (X:Int)):=by
   have:q=0\/q=1\/q=2\/q=3\/q=4:=by omega
   rcases this with rfl|rfl|rfl|rfl|rfl
   .exact⟨0,by decide,rfl⟩
   .exact⟨0,by decide,rfl⟩
   .exact⟨1,by decide,rfl⟩
   .exact⟨7,by decide,rfl⟩
   .exact⟨40,by decide,rfl⟩
  ext n;refine pj emr ?_;ext s;let⟨wh,ewh,hw1,hw2⟩:∃wh:Nat,(1+(O:Int)+(S:Int)+(X:Int))=(wh:Int)/\1≤wh/\wh<1000:=⟨1+O+S+X,by omega,by omega,by omega⟩;rw[ewh];ext x;refine g6 (λi m=>∃a b,m=MSt.mk [a,b,some (.imm (.int (wh:Int)))] [[t],ps.map prD,(ps.take i).map λp=>(srvK wh p).d] 3) ⟨none,none,rfl⟩ ?_ ?_ ?_
  .rintro i m ⟨a,b,rfl⟩;rfl
  .rintro i d m e hnp2 ⟨a,b,rfl⟩;let⟨p,C,rfl,Z⟩:=gmap e;have F:=o.2.2 p (Io C);rw[cJ _ C];dsimp only[prD];ext s
   .rfl
   ext s;refine⟨p.1,wh,rfl,by omega,by omega,by omega,?_⟩;ext x;exact⟨_,rfl,by rw[aar,lD,aau];omega,some (.imm (.int (p.1:Int))),some (.imm (.int (p.2:Int))),rfl⟩
  intro m hm ⟨a,b,rfl⟩;rw[lD,aax];ext x;refine⟨1+O,wh,rfl,by omega,by omega,by omega,?_⟩;ext x;refine⟨t,_,_,rfl,y,by omega,by omega,by omega,λq t M R y=>?_⟩;ext x;have f1:=zJ (p:=1+O) (wh:=wh) (by omega) (by omega) hw1 (by omega);have hk:=k ⟨(1+O)/(1+O).gcd wh,wh/(1+O).gcd wh,ps.map (srvK wh),decide (q=0)⟩ t ⟨f1.1,f1.2.1,f1.2.2.1,f1.2.2.2,by rw[lD];exact s1,by rw[lD];exact s4,λs hs=>?_⟩ (by
   rw[show Hall.rs ⟨(1+O)/(1+O).gcd wh,wh/(1+O).gcd wh,ps.map (srvK wh),decide (q=0)⟩=bj ps by unfold Hall.rs bj;rw[aa4];rfl];omega) (y.mono (by omega))
  .unfold Hall.d at hk;rw[aa4]at hk;exact hk
  .obtain⟨p,F,rfl⟩:=aal.mp hs;have h:=o.2.2 p F;have f2:=zJ (p:=p.1) (wh:=wh) (by omega) (by omega) hw1 (by omega);exact⟨f2.1,f2.2.1,f2.2.2.1,f2.2.2.2,h.2.2.1,by show p.2≤6;omega⟩
theorem qb(T:Bl K mg)(D:DefM K mg "hall_turned" dI ["hall","order"]):FnM P w K mg base "hall_turned" 1 2 x9:=by
 refine aV D dh rfl (nN:=5) rfl (by decide) ?ar λc A outer s H E f x=>⟨_,(mz' (ck (mv' 0) (bg (n:=3) (ac (am 2 dh.nd) (ac (iz (i:=3) dh.nd rfl (ac9 rfl)) (ac (am 4 dh.nd) aM)))))
   (aa (ag (aq (mc' (mv' 2) (mc' (bI b5 (by rfl) T.tuple df (mc' (bM (own:=["number"]) (fr:=["servers"]) (ps:=[3]) (sc:=(ab dI)) (by exact⟨rfl,by decide +kernel,by decide +kernel,by decide +kernel,by decide +kernel⟩) (bC (mv' 1)) (λ_ _ _ _ _=>(am 0 (show aa2 ((["number"]:List Str)++(["servers"]:List Str))from by decide +kernel))) (λ_ _ _ _ _=>bO) (λ_ _ _ _ _=>(ae (mv' 1) (mv' 0)))) mn')) (mc' (mv' 4) mn'))))))),?_⟩
 case ar=>intro t p ⟨h,o,rfl,_⟩;rfl
 intro t p v ⟨h,o,rfl,q,P,k⟩;have n4:=q.n4;have ln:=P.ln;refine ah (MSt.mk [some (.imm (.tuple [.tuple [.int h.a,.int h.b],.tuple (h.ss.map Srv.d),.bool h.mv])),some (.imm (.tuple (natD o))),none,none,none] [] 0) rfl ?_;ext s
 .rfl
 ext s;refine c6 (λi m=>∃a,m=MSt.mk [a,some (.imm (.tuple (h.ss.map Srv.d)))] [((tn s0 o h.ss).take i).map Srv.d] 1) ⟨none,rfl⟩ ?_ ?_
 .rintro i d m e n ⟨a,rfl⟩;let⟨j,ej,rfl,u⟩:=gmap e;have g:=P.lt j (Io ej);have b:h.ss[j]?=some h.ss[j]:=iO g;ext s;refine aP (aU (by rw[aae,b];rfl)) ?_;ext s;refine⟨_,rfl,by rw[aar,lD,aau];omega,some (.imm (.int (j:Int))),?_⟩;rw[aaO,tn_get? ej,aaa,b,aaH];rfl
 .rintro m n ⟨a,rfl⟩;rw[aH,ln,aby (aeE (jG P))];ext s;exact k
theorem sV(T:Bl K mg)(D:DefM K mg "_law_sent" gw ["_law_hall_here","_law_rule","_law_lines","_law_order_here"])(G:FnM P w K mg base "_law_all_lines" 1 1 pC):FnM P w K mg base "_law_sent" 2 4 xO:=by
 refine aV D bT rfl (nN:=12) rfl (by decide) ?ar λcdv A outer s H E f t=>⟨_,(mz' (bc (ap (bo t.units) (ae (mv' 1) mh') ai (aB _)) (aa (ag (ae (mv' 3) mh'))) aA)
   (mz' (bc (ap (bo t.units) (ae (mv' 1) mh') ai (aB _)) (mz' (i6 (i:=4) (own:=["_law_speed","_law_room"]) (fr:=[]) (ps:=[]) (sc:=(ab gw)) (by exact⟨rfl,by decide +kernel,by decide +kernel,by decide +kernel,by decide +kernel⟩) bT.nd rfl rfl (bC (ae (mv' 0) mh')) (λ_ _ _ _ _=>(bg (n:=2) (ac (am 0 (show aa2 ((["_law_speed","_law_room"]:List Str)++([]:List Str))from by decide +kernel)) (ac (am 1 (show aa2 ((["_law_speed","_law_room"]:List Str)++([]:List Str))from by decide +kernel)) aM)))) (λ_ _ _ _ _=>bO) (λ_ _ _ _ _=>(mv' 1)))
   (aa (J9 (ag (ae (ae (mv' 1) mh') (mZ afv PySem.F.type_list_index (zY t.units) (mf' G (t.mono (by decide)) (mc' (mv' 4) mn')) (mc' (mv' 2) mn'))))))) aA)
   (mz' (ay 5 bT.nd (ae (mv' 3) mh'))
   (mz' (ay 6 bT.nd (qu (ap (bo t.units) (ae (mv' 1) mh') ai (aB _)) (cG fu (mv' 3) (cQ mh') (cQ mh')) (cG fu (mv' 3) (cQ mh') dU)))
   (mz' (cZ (bC (mv' 6)) (am 7 bT.nd) (mz' (ik (i:=8) (j:=9) bT.nd rfl rfl (by decide) rfl rfl (mc' (ae (mv' 2) (mv' 7)) (mc' (ae (mv' 2) (mv' 5)) mn')) rfl)
   (mz' (bc (ap (bo t.units) (ae (mv' 1) mh') ai (aB _)) (mz' (ik (i:=10) (j:=11) bT.nd rfl rfl (by decide) rfl rfl (mc' (ae (ae (ae (mv' 0) mh') (mv' 7)) mh') (mc' (ae (ae (ae (mv' 0) mh') (mv' 5)) mh') mn')) rfl)
   (mz' (ay 8 bT.nd (af bJ (af bJ (af aG (mv' 8) mh') (ae (mv' 10) mh')) (ae (mv' 11) mh')))
   (aa (ay 9 bT.nd (af bJ (af bJ (af aG (mv' 9) mh') (ae (mv' 11) mh')) (ae (mv' 10) mh')))))) aA)
   (aa (bc (ap ix (mv' 8) (mv' 9) (aB _)) (aa (ay 5 bT.nd (mv' 7))) aA)))) aa1)
   (aa (ag (mv' 5)))))))),?_⟩
 case ar=>intro as Kc ⟨h,r,l,o,rfl,_⟩;rfl
 intro as Kc hl ⟨h,r,l,o,rfl,C,t,nt,L,V,k⟩;have n4:=C.n4;have M:=L.1;let⟨c,os,rfl,h0⟩:=V.cons;have kind:r = .random\/(∃ps,r = .told ps)\/Rk r:=by
  cases r with
  |turns=>exact(nt rfl).elim
  |random=>exact .inl rfl
  |told ps=>exact .inr (.inl ⟨ps,rfl⟩)
  |two=>exact .inr (.inr trivial)
  |least=>exact .inr (.inr trivial)
  |quick=>exact .inr (.inr trivial)
 rcases kind with rfl|⟨ps,rfl⟩|p
 .refine ah (MSt.mk [some (.imm (.tuple [.tuple [.int h.a,.int h.b],.tuple (h.ss.map Srv.d),.bool h.mv])),some (.imm (.tuple [.str "random"])),some (.imm (.tuple (natD l))),some (.imm (.tuple (natD (c::os)))),none,none,none,none,none,none,none,none] [] 0) rfl ?_;ext d;refine aP (ds:=natD (c::os)) (aU (j:=0) rfl) ?_;ext s;exact k
 .refine ah (MSt.mk [some (.imm (.tuple [.tuple [.int h.a,.int h.b],.tuple (h.ss.map Srv.d),.bool h.mv])),some (.imm (.tuple [.str "told",.tuple (natD ps)])),some (.imm (.tuple (natD l))),some (.imm (.tuple (natD (c::os)))),none,none,none,none,none,none,none,none] [] 0) rfl ?_;ext s;rw[if_neg (hnc:=by decide +kernel)];ext d;refine cB (λi m=>∃a b:Option L2.R,m=MSt.mk [a,b] [(h.rs.take i).map λ(r:Nat)=>.int (r:Int)] 1) ⟨none,none,rfl⟩ ?_ ?_
  .rintro i d m e u ⟨a,b,rfl⟩ D1 hD1 hR1;let⟨s,es,rfl,hi⟩:=gmap e;have g:h.rs[i]?=some s.r:=by unfold Hall.rs;rw[aae,es];rfl
   dsimp only[Srv.d];ext s
   .rfl
   ext s;refine⟨_,rfl,by rw[aar,lD,aau,Hall.rsl];omega,hD1 _ ⟨some (.imm (.tuple [.int s.a,.int s.b])),some (.imm (.int (s.r:Int))),?_⟩⟩;rw[aaO,g,aaH];rfl
  intro m u ⟨a,b,rfl⟩;rw[lD,<-Hall.rsl,aax];ext x;refine fV ?_;ext n;refine Tx 0 4 (h.rs.map λ(r:Nat)=>.int (r:Int)) [] (MSt.mk [some (.imm (.tuple [.tuple [.int h.a,.int h.b],.tuple (h.ss.map Srv.d),.bool h.mv])),some (.imm (.tuple [.str "told",.tuple (natD ps)])),some (.imm (.tuple (natD l))),some (.imm (.tuple (natD (c::os)))),some (.imm (.list (h.rs.map λ(r:Nat)=>.int (r:Int)))),none,none,none,none,none,none,none] [] 0) rfl rfl (Uo rfl rfl rfl rfl rfl rfl rfl rfl ⟨.inl rfl,.inl rfl,.inl rfl,.inl rfl,.inr ⟨rfl,.inl rfl⟩,.inl trivial,.inl trivial,.inl trivial,.inl trivial,.inl trivial,.inl trivial,.inl trivial,trivial⟩) ?_;ext s;refine⟨h.rs,rfl,by rw[Hall.rsl];exact n4,C.r6,?_⟩;ext x;have hp:=M7.place_at L.fits;refine Ji (k':=1) (j:=M7.placeF 0 h.rs l) (y:=lnD l) rfl (bw (b6 l)) (λy O=>?_) (by decide) (by rw[aae,hp];rfl) (by rw[show ab6 (natD l)=lnD l from rfl,kU];exact decide_eq_true rfl) (λi y hi O=>?_) ?_
  .obtain⟨l',_,rfl⟩:=aal.mp O;exact bw (b6 l')
  .obtain⟨l',el,rfl,_⟩:=gmap O;rw[show ab6 (natD l)=lnD l from rfl,kU];refine decide_eq_false λz=>?_;subst z;have:=M7.place_only el;omega
  .ext n;have X:M7.placeF 0 h.rs l<ps.length:=by rw[t.1,M7.allR_cnt];exact M7.place_lt L.fits
   refine aP (aU (bf (getN rfl X))) ?_;ext s;exact k
 .have ed:r.d = .tuple [.str r.word]:=by cases r<;>first|rfl|exact p.elim
  have n1:decide (r.word = "random")=false:=by cases r<;>first|exact p.elim|decide +kernel
  have n2:decide (r.word = "told")=false:=by cases r<;>first|exact p.elim|decide +kernel
  rw[ed];refine ah (MSt.mk [some (.imm (.tuple [.tuple [.int h.a,.int h.b],.tuple (h.ss.map Srv.d),.bool h.mv])),some (.imm (.tuple [.str r.word])),some (.imm (.tuple (natD l))),some (.imm (.tuple (natD (c::os)))),none,none,none,none,none,none,none,none] [] 0) rfl ?_;ext s;rw[n1];ext s;rw[n2];ext s;refine aP (ds:=natD (c::os)) (aU (j:=0) rfl) ?_;ext s;refine x_J (λr' m=>r' = .imm (.tuple (natD (rsO r os)))/\m=MSt.mk [some (.imm (.tuple [.tuple [.int h.a,.int h.b],.tuple (h.ss.map Srv.d),.bool h.mv])),some (.imm (.tuple [.str r.word])),some (.imm (.tuple (natD l))),some (.imm (.tuple (natD (c::os)))),none,some (.imm (.int (c:Int))),none,none,none,none,none,none] [] 0) (λK' J=>?_) ?_
  .refine wG ?_;ext x;refine aY (λz=>?_) (λz=>?_)
   .have g:r = .two:=by cases r<;>first|rfl|exact p.elim|exact absurd z (by decide +kernel)
    subst g;ext s;rw[show cutD (natD (c::os)) (some 1) (some 2)=natD (os.take 1) by cases os<;>rfl];exact J _ _ ⟨rfl,rfl⟩
   .have g:rsO r os=os:=by cases r<;>first|rfl|exact p.elim|exact absurd rfl z
    ext s;rw[show cutD (natD (c::os)) (some 1) none=natD os by rw[show(1:Int)=((1:Nat):Int)from rfl,iE];rfl];exact J _ _ ⟨by rw[g],rfl⟩
  intro _ _ ⟨rfl,rfl⟩;ext n;refine lQ ?_;ext x;refine cB (λi m=>∃U R Y B x:Option L2.R,m=MSt.mk [some (.imm (.tuple [.tuple [.int h.a,.int h.b],.tuple (h.ss.map Srv.d),.bool h.mv])),some (.imm (.tuple [.str r.word])),some (.imm (.tuple (natD l))),some (.imm (.tuple (natD (c::os)))),none,some (.imm (.int (M7.pick (ltO h l r) c ((rsO r os).take i):Nat))),some (.imm (.tuple (natD (rsO r os)))),U,R,Y,B,x] [] 0) ⟨none,none,none,none,none,rfl⟩ ?_ ?_
  .rintro i d m e u ⟨U,R,Y,B,x,rfl⟩ D1 hD1 hR1;let⟨j,ej,rfl,hi⟩:=gmap e;have mj:=Io ej;have hj:j<h.ss.length:=V.lt j (aad _ (zK mj));have N:M7.pick (ltO h l r) c ((rsO r os).take i)<h.ss.length:=u5 h0 λz Q=>V.lt z (aad _ (zK (abH Q)));have et:(rsO r os).take (i+1)=(rsO r os).take i++[j]:=by rw[aaO,ej];rfl
   rw[et,M7.pick_app]at hD1;generalize M7.pick (ltO h l r) c ((rsO r os).take i)=b at N hD1⊢;ext s;refine aP (aU (bf (getN M hj))) ?_;ext s;refine aP (aU (bf (getN M N))) ?_;ext s;let⟨s,es,ea,eb,hs⟩:=h.srv hj;let⟨I,es',W,S,Z⟩:=h.srv N;have so:=C.ok s hs;have F:=C.ok I Z;have b1:=L.le C _ (Io (getN M hj));have b2:=L.le C _ (Io (getN M N));refine aY (λz=>?_) (λz=>?_)
   .have g:r = .quick:=by cases r<;>first|rfl|exact p.elim|exact absurd z (by decide +kernel)
    subst g;have a2:=so.a2;have c2:=so.b2;have a2':=F.a2;have c2':=F.b2;have up:∀{z:Nat},z<10^30->z<10^160:=λQ=>ad7 Q (by decide);have m1:(l.getD j 0+1)*s.b≤7*1000000:=adl (by omega) (by omega);have m2:(l.getD b 0+1)*I.b≤7*1000000:=adl (by omega) (by omega);ext s;refine aP (d:=s.d) (aU (by rw[aae,es];rfl)) ?_;dsimp only[Srv.d];ext s;refine aP (d:=I.d) (aU (by rw[aae,es'];rfl)) ?_;dsimp only[Srv.d];ext s;have g:ltO h l Rule.quick j b=decide ((((l.getD j 0:Nat):Int)+1)*(s.b:Int)*(I.a:Int)<(((l.getD b 0:Nat):Int)+1)*(I.b:Int)*(s.a:Int)):=by
     show decide ((l.getD j 0+1)*h.bn j*h.an b<(l.getD b 0+1)*h.bn b*h.an j)=_;rw[eb,W,S,ea];refine decide_eq_decide.mpr ⟨λq=>?_,λq=>?_⟩
     .exact_mod_cast q
     .exact_mod_cast q
    rw[g]at hD1;refine aY (λv=>?_) (λv=>?_)
    .rw[decide_eq_true v,if_pos rfl]at hD1;ext s;exact hD1 _ ⟨_,_,_,_,_,rfl⟩
    .rw[decide_eq_false v,if_neg (by decide)]at hD1;ext s;exact hD1 _ ⟨_,_,_,_,_,rfl⟩
   .have g:ltO h l r j b=decide (((l.getD j 0:Nat):Int)<((l.getD b 0:Nat):Int)):=by
     cases r with
     |quick=>exact absurd rfl z
     |two=>exact decide_eq_decide.mpr (by omega)
     |least=>exact decide_eq_decide.mpr (by omega)
     |_=>exact p.elim
    rw[g]at hD1;ext s;refine aY (λv=>?_) (λv=>?_)
    .rw[decide_eq_true v,if_pos rfl]at hD1;ext s;exact hD1 _ ⟨_,_,_,_,_,rfl⟩
    .rw[decide_eq_false v,if_neg (by decide)]at hD1;ext s;exact hD1 _ ⟨_,_,_,_,_,rfl⟩
  .rintro m u ⟨U,R,Y,B,x,rfl⟩;rw[aH,aax];ext s;rw[<-SG p]at *;exact k
theorem vP(T:Bl K mg)(D:DefM K mg "_law_put" kl ["_law_lines","_law_k","_law_more"]):FnM P w K mg base "_law_put" 1 3 oa:=by
 refine aV D vZ rfl (nN:=3) rfl (by decide) ?ar λg A outer s H E f o=>⟨_,(aa (ag (af aG (af aG (cG fu (mv' 0) dU (cQ (mv' 1))) (aq (mc' (af aG (ae (mv' 0) (mv' 1)) (mv' 2)) mn'))) (cG fu (mv' 0) (cQ (af aG (mv' 1) mh')) dU)))),?_⟩
 case ar=>intro m i ⟨l,j,d,x,rfl,_⟩;rfl
 intro m i n ⟨l,j,d,x,rfl,a,c,b,k⟩;refine ah (MSt.mk [some (.imm (.tuple (natD l))),some (.imm (.int (j:Int))),some (.imm (.int d))] [] 0) rfl ?_;ext s;refine aP (aU (bf (getN rfl a))) ?_;ext s;rw[b,sU];refine kZ (by rw[aar,aau,aH];simp;omega) ?_;ext s;rw[show(j:Int)+1=((j+1:Nat):Int)from rfl,iE];refine kZ (by rw[aar,aam,aau,acT,aH];simp;omega) ?_;ext s;have e:(natD l).take j++[.int (x:Int)]++(natD l).drop (j+1)=natD (l.set j x):=by
  rw[<-vo,adZ,if_pos (by rw[aH];exact a)];simp
 rw[e];exact k
theorem sX(T:Bl K mg)(D:DefM K mg "_law_step" i9 ["_law_hall_here","_law_rule","_law_lines","_law_move"])(b:FnM P w K mg base "_law_sent" 2 4 xO)(G:FnM P w K mg base "_law_put" 1 3 oa):FnM P w K mg base "_law_step" 4 4 FI:=by
 refine aV D b7 rfl (nN:=8) rfl (by decide) ?ar λcdv A outer s H E f c=>⟨_,(mz' (ay 4 b7.nd ai)
   (mz' (bc (ap (bo c.units) (ae (mv' 3) mh') ai (aB _)) (mz' (ay 5 b7.nd (mf' b (c.mono (by decide)) (mc' (mv' 0) (mc' (mv' 1) (mc' (mv' 2) (mc' (ae (mv' 3) mh') mn'))))))
   (mz' (ay 4 b7.nd (qu (ap (bo c.units) (ae (mv' 2) (mv' 5)) (ae (ae (ae (mv' 0) mh') (mv' 5)) mh') (aB _)) ai ai))
   (aa (ay 2 b7.nd (mf' G (c.mono (by decide)) (mc' (mv' 2) (mc' (mv' 5) (mc' (bI k6 (by rfl) T.int zO (mc' (dE (bo c.units) (mv' 4) ai (aB _)) mn')) mn')))))))) (aa (bc (EW.pt (h7 (ap (bo c.units) (ae (mv' 3) mh') ai (aB _)) (gG (ap lL (ae (mv' 2) (ae (mv' 3) mh')) mh' (aB _))))) (mz' (ay 4 b7.nd ai)
   (aa (ay 2 b7.nd (mf' G (c.mono (by decide)) (mc' (mv' 2) (mc' (ae (mv' 3) mh') (mc' (kq gY mh') mn'))))))) aA)))
   (mz' (fc (EW.pt (h7 (c5 (ae (mv' 0) mh')) (h7 (ap (Ou c.units) mh' (mv' 2) (by with_unfolding_all rfl)) (gG (ap lL (aF (d8 rfl) (by rfl) T.max nW (mc' (mv' 2) mn')) mh' (aB _)))))) (mz' (ik (i:=6) (j:=7) b7.nd rfl rfl (by decide) rfl rfl (mc' (vB acj acO (gf c.units) (mv' 2) (mc' (aF (d8 rfl) (by rfl) T.max nW (mc' (mv' 2) mn')) mn')) (mc' (vB acj acO (gf c.units) (mv' 2) (mc' mh' mn')) mn')) rfl)
   (aa (ay 2 b7.nd (mf' G (c.mono (by decide)) (mc' (mf' G (c.mono (by decide)) (mc' (mv' 2) (mc' (mv' 6) (mc' (kq gY mh') mn')))) (mc' (mv' 7) (mc' mh' mn'))))))) aa1)
   (aa (ag (aq (mc' (mv' 2) (mc' (mv' 4) mn')))))))),?_⟩
 case ar=>intro as Kc ⟨h,r,l,m,rfl,_⟩;rfl
 intro as Kc hl ⟨h,r,l,mv,rfl,V,c,n1,L1,S,k⟩;have n4:=V.n4;have ln1:=V.n1;have l4:=L1.1;refine ah (MSt.mk [some (.imm (.tuple [.tuple [.int h.a,.int h.b],.tuple (h.ss.map Srv.d),.bool h.mv])),some (.imm r.d),some (.imm (.tuple (natD l))),some (.imm mv.d),none,none,none,none] [] 0) rfl ?_;refine o4 ?_;refine x_JS (λm=>m=MSt.mk [some (.imm (.tuple [.tuple [.int h.a,.int h.b],.tuple (h.ss.map Srv.d),.bool h.mv])),some (.imm r.d),some (.imm (.tuple (natD l))),some (.imm mv.d),some (.imm (.str "none")),none,none,none] [] 0) (λN J=>?_) ?_
 .ext s;exact J _ rfl
 rintro _ rfl;ext n;refine o4 ?_;refine x_JS (λm=>∃(v:List Nat) (w:Wd) (X:Option L2.R),m=MSt.mk [some (.imm (.tuple [.tuple [.int h.a,.int h.b],.tuple (h.ss.map Srv.d),.bool h.mv])),some (.imm r.d),some (.imm (.tuple (natD v))),some (.imm mv.d),some (.imm (.str w.s)),X,none,none] [] 0/\v.length=l.length/\((gJ h r l 0 mv).1,(gJ h r l 0 mv).2.2)=(cK h v,w)) (λN J=>?_) ?_
 .cases mv with
  | come o=>
   have hj:=pf V c L1 S (t:=0) λz=>(n1 z).elim;have Sr:=V.ok;let⟨s,W⟩:∃s,h.ss[sent h r l 0 o]?=some s:=⟨_,iO hj⟩;have rn:h.rn (sent h r l 0 o)=s.r:=by
    unfold Hall.rn Hall.rs;rw[aaa,aae,W];rfl
   let⟨x,ex⟩:∃x,l[sent h r l 0 o]?=some x:=⟨_,iO (by omega)⟩;have B:l.getD (sent h r l 0 o) 0=x:=bp ex;dsimp only[Mv.d];ext d;refine⟨h,r,l,o,rfl,V,c,n1,L1,S,?_⟩;ext x;refine x_J (λr' m=>r' = .imm (.str (bW h l (sent h r l 0 o)).2.s)/\m=MSt.mk [some (.imm (.tuple [.tuple [.int h.a,.int h.b],.tuple (h.ss.map Srv.d),.bool h.mv])),some (.imm r.d),some (.imm (.tuple (natD l))),some (.imm (.tuple [.str "come",lnD o])),some (.imm (.str "none")),some (.imm (.int (sent h r l 0 o:Nat))),none,none] [] 0) (λK' J'=>?_) ?_
   .refine wG ?_;ext x;refine aP (aU (bf ex)) ?_;ext s;refine aP (ds:=h.ss.map Srv.d) (d:=s.d) (aU (by rw[aae,W];rfl)) ?_;dsimp only[Srv.d];ext s;refine aY (λz=>?_) (λz=>?_)
    .ext s;exact J' _ _ ⟨by unfold bW;rw[B,rn,if_pos (by omega)];rfl,rfl⟩
    .ext s;exact J' _ _ ⟨by unfold bW;rw[B,rn,if_neg (by omega)];rfl,rfl⟩
   intro _ _ ⟨rfl,rfl⟩;ext n;refine lQ ?_;ext x;have em:((gJ h r l 0 (.come o)).1,(gJ h r l 0 (.come o)).2.2)=(cK h (bW h l (sent h r l 0 o)).1,(bW h l (sent h r l 0 o)).2):=rfl;rw[em]at J
   by_cases z:x=s.r
   .have ec:bW h l (sent h r l 0 o)=(l,.away):=by unfold bW;rw[B,rn,if_pos z]
    have el:l.set (sent h r l 0 o) x=l:=by
     apply aba;intro i;rw[List.getElem?_set];split
     .rename_i q;rw[<-q,ex,if_pos (by omega)]
     .rfl
    rw[ec]at J⊢;refine⟨l,_,_,x,rfl,by omega,by omega,by rw[B,show(if decide (Wd.away.s = "taken")=true then(1:Int)else 0)=0 by decide +kernel];omega,?_⟩;rw[el];ext n;exact lQ (J _ ⟨l,.away,_,rfl,rfl,rfl⟩)
   .have ec:bW h l (sent h r l 0 o)=(l.set (sent h r l 0 o) (x+1),.taken):=by unfold bW;rw[B,rn,if_neg z]
    rw[ec]at J⊢;refine⟨l,_,_,x+1,rfl,by omega,by omega,by rw[B,show(if decide (Wd.taken.s = "taken")=true then(1:Int)else 0)=1 by decide +kernel];omega,?_⟩;ext n;exact lQ (J _ ⟨_,.taken,_,rfl,by rw[abe],rfl⟩)
  |done j=>
   have hj:j<h.ss.length:=S;let⟨x,ex⟩:∃x,l[j]?=some x:=⟨_,iO (by omega)⟩;have B:l.getD j 0=x:=bp ex;dsimp only[Mv.d];ext s;rw[if_neg (hnc:=by decide +kernel)];ext d;refine aP (aU (bf ex)) ?_;ext s;refine aY (λz=>?_) (λz=>?_)
   .ext s;refine⟨l,j,-1,x-1,rfl,by omega,by omega,by omega,?_⟩;ext x;refine J _ ⟨l.set j (x-1),.served,none,rfl,by rw[abe],?_⟩;show(cK h (cf l j).1,(cf l j).2)=_;unfold cf;rw[B,if_neg (by omega)]
   .ext s;refine J _ ⟨l,.none,none,rfl,rfl,?_⟩;show(cK h (cf l j).1,(cf l j).2)=_;unfold cf;rw[B,if_pos (by omega)]
  |still=>
   dsimp only[Mv.d];ext s;rw[if_neg (hnc:=by decide +kernel)];ext s;rw[if_neg (hnc:=by decide +kernel)];ext s;exact J _ ⟨l,.none,none,rfl,rfl,rfl⟩
 intro _ ⟨v,w,X,rfl,Q,ek⟩;have hne:v≠[]:=λz=>by rw[z]at Q;simp at Q;omega
 have hl4:v.length≤1000:=by omega
 ext n;refine o4 ?_;refine ju (λn m=>∃(a:List Nat) (a6 a7:Option L2.R),m=MSt.mk [some (.imm (.tuple [.tuple [.int h.a,.int h.b],.tuple (h.ss.map Srv.d),.bool h.mv])),some (.imm r.d),some (.imm (.tuple (natD a))),some (.imm mv.d),some (.imm (.str w.s)),X,a6,a7] [] 0/\n=a.count 0/\cX h n a=cK h v/\a≠[]/\a.length≤1000) (v.count 0) ⟨v,none,none,rfl,rfl,rfl,hne,hl4⟩ ?_;intro n m hn ⟨a,a6,a7,rfl,rfl,hs,g,Z⟩;have p:cU (natD a)=some (a.map λ(x:Nat)=>(x:Int)):=by
  have:=dm (a.map λ(x:Nat)=>(x:Int));rwa[aa4]at this
 have I:(a.map λ(x:Nat)=>(x:Int))≠[]:=λz=>g (agu.mp z);have F:∀x:Int,x∈(a.map λ(x:Nat)=>(x:Int))->(∀y∈(a.map λ(x:Nat)=>(x:Int)),y≤x)->x=(maxN a:Int):=λx L u=>by
  let⟨n,hn,rfl⟩:=aal.mp L;have h1:=uv n hn;have h2:=u (maxN a:Int) (aal.mpr ⟨maxN a,iQ g,rfl⟩);omega
 have done:c8 h a=none->Kc (.imm (lwD (a,w))) []:=λe=>by
  rw[fJ e]at hs;rw[ek,<-hs]at k;exact k
 have hin:(natD a).any (λx=>aai x (.int 0))=decide (0∈a):=by
  rw[abI,afB,decide_eq_true_iff];constructor
  .rintro⟨x,L,ex⟩;let⟨w,hw,e0⟩:=aal.mp L;rw[<-e0,show(abq 0)=abq ((0:Nat):Int)from rfl,ce]at ex;rw[<-of_decide_eq_true ex];exact hw
  .intro S;exact⟨_,aal.mpr ⟨0,S,rfl⟩,by decide⟩
 ext s
 cases hmv:h.mv with
 |false=>
  ext s;exact done (if_neg (by rw[hmv];exact λz=>by cases z.1))
 | true=>
  ext s;refine x_in (d:=.int 0) (ds:=natD a) rfl (.inr rfl) (cC 0) (b6 a) (by decide) ?_;rw[hin]
  by_cases R:0∈a
  .rw[decide_eq_true R,show(if false=true then !true else true)=true from rfl];ext s;refine qz rfl p I λx L u=>?_;rw[F x L u];ext s;refine aY (λz=>?_) (λz=>?_)
   .have e:c8 h a=some (idx a (maxN a),idx a 0):=if_pos ⟨hmv,R,by omega⟩;let⟨W,U,l2,hc,C⟩:=jt e;let⟨m0,m1,m2,m3,m4⟩:=gz e;dsimp only at W U l2 m1 m3 m4;have s1:=fm (iQ g);have s0:=fm R;have g1:a.getD (idx a (maxN a)) 0=maxN a:=bp m1;have n0:(a.set (idx a (maxN a)) (maxN a-1))[idx a 0]?=some 0:=by rw[aaK m4];exact m3
    have g2:(a.set (idx a (maxN a)) (maxN a-1)).getD (idx a 0) 0=0:=bp n0;ext s;refine qz rfl p I λx L u=>?_;rw[F x L u];ext s;refine jX (j:=idx a (maxN a)) (k':=0) (cC _) (b6 a) (by decide) (bf s1.1) (by rw[ce];exact decide_eq_true rfl) (λi y hi u=>?_) ?_
    .obtain⟨z,ez,rfl,_⟩:=gmap u;rw[ce];exact decide_eq_false (s1.2 i z hi ez)
    ext s;refine jX (j:=idx a 0) (k':=0) (cC _) (b6 a) (by decide) (bf s0.1) (ce 0 0) (λi y hi u=>?_) ?_
    .obtain⟨z',ez,rfl,_⟩:=gmap u;have:=ce z' 0;rw[show((0:Nat):Int)=0 from rfl]at this;rw[this];exact decide_eq_false (s0.2 i z' hi ez)
    ext s;refine⟨a,idx a (maxN a),-1,maxN a-1,rfl,U,Z,by omega,?_⟩;generalize Y:a.set (idx a (maxN a)) (maxN a-1)=O at *;ext n;dsimp only[lnD];ext s;have hl3:O.length=a.length:=by rw[<-Y,abe]
    refine⟨O,idx a 0,1,1,rfl,by omega,by omega,by omega,?_⟩;rw[<-W];ext x;have M:cx a (idx a (maxN a),idx a 0)≠[]:=λz=>by
     rw[z]at C;exact g (abj C.symm)
    refine⟨(cx a (idx a (maxN a),idx a 0)).count 0,by omega,cx a (idx a (maxN a),idx a 0),_,_,rfl,rfl,?_,M,by omega⟩;rw[<-hs,<-hc];show _=cX h ((cx a (idx a (maxN a),idx a 0)).count 0+1) a;simp only[cX,e]
   .ext s;exact done (if_neg λq=>by have:=q.2.2;omega)
  .rw[decide_eq_false R,show(if false=true then !false else false)=false from rfl];ext s;exact done (if_neg λq=>R q.2.1)
theorem uk(T:Bl K mg)(D:DefM K mg "_law_kept" gm ["_law_hall_here","_law_lines"]):FnM P w K mg base "_law_kept" 1 2 o8:=by
 refine aV D lm rfl (nN:=3) rfl (by decide) ?ar λo A outer s H E f g=>⟨_,(mz' (ay 2 lm.nd (dE (bo g.units) (bM (own:=["_law_server"]) (fr:=["_law_hall_here"]) (ps:=[0]) (sc:=(ab gm)) (by exact⟨rfl,by decide +kernel,by decide +kernel,by decide +kernel,by decide +kernel⟩) (bC (ae (mv' 0) mh')) (λ_ _ _ _ _=>(am 0 (show aa2 ((["_law_server"]:List Str)++(["_law_hall_here"]:List Str))from by decide +kernel))) (λ_ _ _ _ _=>(oJ (ap (j4 g.units) (mv' 0) (ae (ae (mv' 1) mh') mh') (aB _)))) (λ_ _ _ _ _=>(mv' 0))) (cr mn') (aB _)))
   (aa (ag (qu (c5 (mv' 2)) (bI b5 (by rfl) T.tuple df (mc' (nr ki (by rfl) T.sorted k8 (mc' (mv' 1) mn')) mn')) (mv' 1))))),?_⟩
 case ar=>intro B u ⟨h,l,rfl,_⟩;rfl
 intro B u F ⟨h,l,rfl,c,n,k⟩;have n4:=c.n4;refine ah (MSt.mk [some (.imm (.tuple [.tuple [.int h.a,.int h.b],.tuple (h.ss.map Srv.d),.bool h.mv])),some (.imm (.tuple (natD l))),none] [] 0) rfl ?_;ext s;let⟨s0,p,j⟩:=rC c;refine cB (λi m=>∃a:Option L2.R,m=MSt.mk [a,some (.imm (.tuple [.tuple [.int h.a,.int h.b],.tuple (h.ss.map Srv.d),.bool h.mv]))] [dfS h (h.ss.take i)] 1) ⟨none,rfl⟩ ?_ ?_
 .rintro i d m e b ⟨a,rfl⟩ D2 hD2 hR2;let⟨s,v,rfl,C⟩:=gmap e;rw[aaO,v,show(some s).toList=[s]from rfl,yb p]at hD2;have z:=Fm (h:=h) (L:=h.ss.take i);rw[aau]at z;ext s;refine aP j ?_;ext s;refine x_ne (d1:=s.d) (d2:=s0.d) rfl rfl ((lq s).ok (by decide)) ((lq s0).ok (by decide)) ?_;ext s
  cases ec:aai s.d s0.d with
  |true=>
   rw[ec,if_pos rfl,aa0]at hD2;refine iI ?_;ext s;exact hD2 _ ⟨some (.imm s.d),rfl⟩
  |false=>
   rw[ec,if_neg (by decide)]at hD2;refine iy ?_;ext s;exact⟨_,rfl,by rw[aar];omega,hD2 _ ⟨some (.imm s.d),rfl⟩⟩
 intro m b ⟨a,rfl⟩;rw[lD,aax];ext x;refine x_eq (d1:=.list (dfS h h.ss)) (d2:=.list []) rfl rfl Qh (by decide +kernel) ?_;rw[Fq];ext s;unfold cW at k;refine wG ?_;ext s
 cases q:alk h with
 |true=>
  rw[q,if_pos rfl]at k;ext s;refine Aq (ds:=natD l) rfl (gh l) (by rw[lD];omega) λy t x=>?_;have e:=uz t x;subst e;rw[<-sI];ext s;exact k
 |false=>
  rw[q,if_neg aaq]at k;ext s;exact k
theorem ul(T:Bl K mg)(D:DefM K mg "_law_both" js ["_law_hall_here","_law_one","_law_other","_law_triple","_law_move"])(G:FnM P w K mg base "_law_step" 4 4 FI)(a:FnM P w K mg base "_law_kept" 1 2 o8):FnM P w K mg base "_law_both" 5 5 Fx:=by
 refine aV D dA rfl (nN:=9) rfl (by decide) ?ar λv A outer s H E f c=>⟨_,(mz' (ck (mf' G (c.mono (by decide)) (mc' (mv' 0) (mc' (mv' 1) (mc' (ae (mv' 3) mh') (mc' (mv' 4) mn'))))) (bg (n:=2) (ac (am 5 dA.nd) (ac (am 6 dA.nd) aM))))
   (mz' (ck (mf' G (c.mono (by decide)) (mc' (mv' 0) (mc' (mv' 2) (mc' (ae (mv' 3) mh') (mc' (mv' 4) mn'))))) (bg (n:=2) (ac (am 7 dA.nd) (ac (am 8 dA.nd) aM))))
   (aa (ag (aq (mc' (mf' a (c.mono (by decide)) (mc' (mv' 0) (mc' (mv' 5) mn'))) (mc' (mf' a (c.mono (by decide)) (mc' (mv' 0) (mc' (mv' 7) mn'))) (mc' (af zW (af aG (ae (mv' 3) mh') (bI k6 (by rfl) T.int zO (mc' (dE (bo c.units) (mv' 8) ai (aB _)) mn'))) (bI k6 (by rfl) T.int zO (mc' (dE (bo c.units) (mv' 6) ai (aB _)) mn'))) mn')))))))),?_⟩
 case ar=>intro p q ⟨h,r1,j,t,m,rfl,_⟩;rfl
 intro p q x ⟨h,r1,j,t,m,rfl,b,g,d,n1,n2,o,L,i,k⟩;have n4:=b.n4;have u:=iL b g (t:=0) ⟨o,λz=>(n1 z).elim,by decide⟩ i;have S:=iL b d (t:=0) ⟨L,λz=>(n2 z).elim,by decide⟩ i;refine ah (MSt.mk [some (.imm h.d),some (.imm r1.d),some (.imm j.d),some (.imm (.tuple [lnD t.1,lnD t.2.1,.int t.2.2])),some (.imm m.d),none,none,none,none] [] 0) rfl ?_;ext s;refine⟨h,r1,t.1,m,rfl,b,g,n1,o,i,?_⟩;ext n;unfold lwD;ext s
 .rfl
 ext s;refine⟨h,j,t.2.1,m,rfl,b,d,n2,L,i,?_⟩;ext n;unfold lwD;ext s
 .rfl
 ext s;refine⟨h,_,rfl,b,by have:=u.ln.1;omega,?_⟩;ext x;refine⟨h,_,rfl,b,by have:=S.ln.1;omega,?_⟩;ext x;have e:∀w:Wd,(if decide (w.s = "away")=true then(1:Int)else 0)=aw w:=λw=>by cases w<;>decide +kernel
 rw[e,e];exact k
def qh(T:Bl K mg)(D:DefM K mg "_law_is_bad" f7 ["_law_triple"]):FnM P w K mg base "_law_is_bad" 1 1 yN:=by
 refine aV D ox rfl (nN:=1) rfl (by decide) ?ar λc A outer s H E f d=>⟨_,(aa (ag (QE (dE ix (ae (mv' 0) mh') mh' (aB _)) (Kh (dE lL (aF (gi rfl) (by rfl) T.sum qR (mc' (ae (mv' 0) mh') mn')) (af aG (aF (gi rfl) (by rfl) T.sum qR (mc' (ae (mv' 0) mh') mn')) (ae (mv' 0) mh')) (aB _)))))),?_⟩
 case ar=>intro a b ⟨t,rfl,_⟩;rfl
 intro a b e ⟨t,rfl,k⟩;refine ah (MSt.mk [some (.imm (.tuple [lnD t.1,lnD t.2.1,.int t.2.2]))] [] 0) rfl ?_;ext s;unfold bad at k;refine aY (λz=>?_) (λz=>?_)
 .rw[decide_eq_true z,Bool.true_or]at k;ext s;exact k
 .rw[decide_eq_false z,Bool.false_or]at k;ext s;refine uR rfl (gh t.1) ?_;rw[sum_nat];ext s;refine uR rfl (gh t.2.1) ?_;rw[sum_nat];ext s;exact k
theorem qF(T:Bl K mg)(D:DefM K mg "_law_order" iu ["_law_tape_here","_law_many"])(G:FnM P w K mg base "_law_draw" 1 2 pk):FnM P w K mg base "_law_order" 3 2 vh:=by
 refine aV D fX rfl (nN:=4) rfl (by decide) ?ar λF A outer s H E f z=>⟨_,(mz' (ay 2 fX.nd (cr mn'))
   (mz' (cZ (cN (by rfl) T.range (mc' (mv' 1) mn')) (am 3 fX.nd) (aa (dQ (mZ PySem.F.slot_list_insert PySem.F.type_list_insert wz (mv' 2) (mc' (mf' G (z.mono (by decide)) (mc' (mv' 0) (mc' (af aG (mv' 3) mh') mn'))) (mc' (mv' 3) mn'))))) aa1)
   (aa (ag (bI b5 (by rfl) T.tuple df (mc' (qu (ap (j4 z.units) (mv' 2) (zT T.list T.range (mc' (mv' 1) mn')) (aB _)) (mv' 2) (u4 (mv' 2) (kq gY mh'))) mn')))))),?_⟩
 case ar=>intro J I ⟨t,c,n,rfl,_⟩;rfl
 intro J I L ⟨t,c,n,rfl,b,N,n1,n4,k⟩;refine ah (MSt.mk [some (.at 0 []),some (.imm (.int (n:Int))),none,none] [[t]] 1) rfl ?_;ext s;refine fV ?_;ext x;refine⟨by omega,by omega,?_⟩;refine c6 (λj m=>∃a x o,m=MSt.mk [some (.at 0 []),some (.imm (.int (n:Int))),some (.obj 1),a] [[x],natD o] 1/\o∈ordK j j/\TapeK (c+j) x) ⟨none,t,[],rfl,by decide +kernel,b⟩ ?_ ?_
 .rintro j d m e hnp ⟨a,t,o,rfl,po,b⟩;let⟨M,rfl⟩:=dw e;have p:=(yp j (by omega) o po).2;rw[Int.zero_add];ext s;refine⟨t,_,_,rfl,b,by omega,by omega,by omega,λq t u B b=>?_⟩;let⟨g,rfl⟩:=aco u;ext x;refine BC (ds:=natD o) (i:=g) rfl (by rw[aH,p];omega) (by rw[aar,aH];omega) ?_;refine⟨some (.imm (.int (j:Int))),t,o.take g++[j]++o.drop g,?_,Ki j (by omega) o po g (by omega),b⟩;have:natD (o.take g++[j]++o.drop g)=(natD o).take g++[.int (j:Int)]++(natD o).drop g:=by
   unfold natD;rw[aaH,aaH,List.map_take,List.map_drop];rfl
  rw[this];rfl
 .rintro m hnp ⟨a,t,o,rfl,po,b⟩;rw[ba,abc]at po b;ext s;have y:∀l:List Nat,ab5 (.list (natD l))=true:=λl=>(u7 (b6 l)).ok (by decide);let⟨v,p⟩:=yp n n4 o po;refine wG ?_;ext s;have C:c7 0 ((n:Int)).toNat=natD (aat n):=by
   unfold c7 natD;rw[abc];exact abM λi _=>by rw[Int.zero_add]
  refine⟨⟨by omega,by omega⟩,?_⟩;refine x_ne (d1:=.list (natD o)) (d2:=.list (c7 0 ((n:Int)).toNat)) rfl rfl (y _) (by rw[C];exact y _) ?_;generalize aai (.list (natD o)) (.list (c7 0 ((n:Int)).toNat))=q;ext s
  cases q with
  |false=>
   rw[if_pos (c:=(!false)=true) rfl];ext s;exact k o t po (b.mono (by omega))
  |true=>
   rw[if_neg (c:=(!true)=true) (by decide)];ext s;refine⟨_,rfl,rfl,?_⟩;ext s;have:=k o.reverse t v (b.mono (by omega));rw[show lnD o.reverse = .tuple (natD o).reverse by unfold natD;rw[<-ahf];rfl]at this;exact this
theorem pc(T:Bl K mg)(D:DefM K mg "_law_called" dH ["_law_order_here","_law_move"]):FnM P w K mg base "_law_called" 1 2 FE:=by
 refine aV D p8 rfl (nN:=2) rfl (by decide) ?ar λt A outer s H E f g=>⟨_,(mz' (bc (ap (bo g.units) (ae (mv' 1) mh') ai (aB _)) (aa (ag (aq (mc' ai (mc' (bI b5 (by rfl) T.tuple df (mc' (bM (own:=["_law_k"]) (fr:=["_law_order_here"]) (ps:=[0]) (sc:=(ab dH)) (by exact⟨rfl,by decide +kernel,by decide +kernel,by decide +kernel,by decide +kernel⟩) (bC (ae (mv' 1) mh')) (λ_ _ _ _ _=>(am 0 (show aa2 ((["_law_k"]:List Str)++(["_law_order_here"]:List Str))from by decide +kernel))) (λ_ _ _ _ _=>bO) (λ_ _ _ _ _=>(ae (mv' 1) (mv' 0)))) mn')) mn'))))) aA)
   (aa (ag (qu (ap (bo g.units) (ae (mv' 1) mh') ai (aB _)) (aq (mc' ai (mc' (ae (mv' 0) (ae (mv' 1) mh')) mn'))) (mv' 1))))),?_⟩
 case ar=>intro y x ⟨h,o,mv,rfl,_⟩;rfl
 intro y x C ⟨h,o,mv,rfl,b,po,u,k⟩;have n4:=b.n4;have P:Pm h.ss.length o:=⟨jC _ b.n4 o po⟩;have ln:=P.ln;have c:=nu b mv u;have q:∀k,k<h.ss.length->o[k]?=some (o.getD k 0):=λk hk=>by rw[aaa,iO (by rw[ln];exact hk)];rfl
 cases mv with
 |come p=>
  refine ah (MSt.mk [some (.imm (.tuple (natD o))),some (.imm (.tuple [.str "come",.tuple (natD p)]))] [] 0) rfl ?_;ext s;ext b;have F:=c.le;refine c6 (λi m=>∃a,m=MSt.mk [a,some (.imm (.tuple (natD o)))] [natD ((p.map λk=>o.getD k 0).take i)] 1) ⟨none,rfl⟩ ?_ ?_
  .rintro i d m e n ⟨a,rfl⟩;let⟨j,ej,rfl,B⟩:=gmap e;have v:=c.lt j (Io ej);ext s;refine aP (aU (bf (q j v))) ?_;ext s;refine⟨_,rfl,by rw[aar,aH,aau,lD];omega,some (.imm (.int (j:Int))),?_⟩;rw[aaO,aae,ej,Cg];rfl
  .rintro m n ⟨a,rfl⟩;rw[aH,aby (by rw[lD];exact aab _)];ext s;exact k
 |done j=>
  refine ah (MSt.mk [some (.imm (.tuple (natD o))),some (.imm (.tuple [.str "done",.int (j:Int)]))] [] 0) rfl ?_;ext a;refine wG ?_;ext s;ext b;refine aP (aU (bf (q j c))) ?_;ext s;exact k
 |still=>
  refine ah (MSt.mk [some (.imm (.tuple (natD o))),some (.imm (.tuple [.str "still"]))] [] 0) rfl ?_;ext a;refine wG ?_;ext a;exact k
theorem qM(T:Bl K mg)(D:DefM K mg "_law_shows" ig ["_law_hall_here","_law_one","_law_other","_law_run"])(c:FnM P w K mg base "_law_both" 5 5 Fx)(b:FnM P w K mg base "_law_is_bad" 1 1 yN):FnM P w K mg base "_law_shows" 6 4 yP:=by
 refine aV D dW rfl (nN:=6) rfl (by decide) ?ar λz A outer s H E f p=>⟨_,(mz' (ay 4 dW.nd (aq (mc' (af bJ (aq (mc' mh' mn')) (aF bU (by rfl) T.len d7 (mc' (ae (mv' 0) mh') mn'))) (mc' (af bJ (aq (mc' mh' mn')) (aF bU (by rfl) T.len d7 (mc' (ae (mv' 0) mh') mn'))) (mc' mh' mn')))))
   (mz' (cZ (bC (mv' 3)) (am 5 dW.nd) (aa (ay 4 dW.nd (mf' c (p.mono (by decide)) (mc' (mv' 0) (mc' (mv' 1) (mc' (mv' 2) (mc' (mv' 4) (mc' (mv' 5) mn')))))))) aa1)
   (aa (ag (mf' b (p.mono (by decide)) (mc' (mv' 4) mn')))))),?_⟩
 case ar=>intro B u ⟨h,r1,r2,R,rfl,_⟩;rfl
 intro B u C ⟨h,r1,r2,R,rfl,G,o,k⟩;have g:=G.o;have n4:=g.n4;refine ah (MSt.mk [some (.imm (.tuple [.tuple [.int h.a,.int h.b],.tuple (h.ss.map Srv.d),.bool h.mv])),some (.imm r1.d),some (.imm r2.d),some (.imm (.tuple (R.map Mv.d))),none,none] [] 0) rfl ?_;ext s;have j:∀{m:MSt}{Kr:L2.R->Prop},Kr (.imm (lnD (zer h)))->vM (L2.R.imm (ab6 ((λx=>abq 0::x) []))) (L2.R.imm (abq ↑(agg Srv.d h.ss).length)) m Kr:=λ{m Kr} q=>by
  rw[lD];refine Gi (by omega) (by omega) (by simp;omega) ?_;rw[show(ab6 (aas (h.ss.length:Int).toNat [abq 0]).flatten)=lnD (zer h) by
   rw[abc,Ci];exact congrArg _ (CJ _ 0)]
  exact q
 refine j ?_;ext s;refine j ?_;ext s;refine cB (λi m=>∃a:Option L2.R,m=MSt.mk [some (.imm h.d),some (.imm r1.d),some (.imm r2.d),some (.imm (.tuple (R.map Mv.d))),some (.imm (trD (wlk h r1 r2 (R.take i)))),a] [] 0) ⟨none,rfl⟩ ?_ ?_
 .rintro i d m e hnp ⟨a,rfl⟩ D1 hD1 hR1;let⟨mv,n,rfl,F⟩:=gmap e;have y:=o mv (Io n);have t:RunK h (R.take i):=λx v=>o x (abH v);have L:=iM g G.k1 G.k2 G.n1 G.n2 (vv (r1:=r1) (r2:=r2) t);ext s;refine⟨h,r1,r2,wlk h r1 r2 (R.take i),mv,rfl,g,G.k1,G.k2,G.n1,G.n2,L.1,L.2,nu g mv y,?_⟩;ext x;refine hD1 _ ⟨some (.imm mv.d),?_⟩;rw[aaO,n,show(some mv).toList=[mv]from rfl,gj];rfl
 .rintro m hnp ⟨a,rfl⟩;rw[lD,aax];ext s;refine⟨_,rfl,?_⟩;ext n;exact k
theorem Uk(T:Bl K mg){ff:Addr}{fd:ab4}(F:Fun K "law" "law" slaw ff fd)(C:FnM P w K mg base "_law_tape" 1 1 xH)(y:FnM P w K mg base "_law_hall" 3 2 uF)(x:FnM P w K mg base "_law_order" 3 2 vh)(b:FnM P w K mg base "_law_draw" 1 2 pk)(g:FnM P w K mg base "hall_turned" 1 2 x9)(G:FnM P w K mg base "never_worse" 10 3 yV)(p:FnM P w K mg base "_law_called" 1 2 FE)(u:FnM P w K mg base "_law_shows" 6 4 yP):FnOk P w K mg base CX0 12 ff fd ["_law_script"] (spOf ⟨K,w⟩ 1 Cr):=by
 refine IK F gH rfl (nN:=17) rfl (by decide) λcdv A outer s H E f D=>⟨_,(mz' (ay 1 gH.nd (mf' C (D.mono (by decide)) (mc' (mv' 0) mn')))
   (mz' (cZ (cN (by rfl) T.range (mc' mh' mn')) (am 2 gH.nd) (mz' (ck (mf' y (D.mono (by decide)) (mc' (mv' 1) (mc' mh' mn'))) (bg (n:=3) (ac (am 3 gH.nd) (ac (iz (i:=4) gH.nd rfl (ac9 rfl)) (ac (am 5 gH.nd) aM)))))
   (mz' (ay 6 gH.nd (aq (mc' (mv' 3) (mc' (mv' 4) (mc' ng mn')))))
   (mz' (kb (i:=7) gH.nd rfl (ac9 rfl) (mf' x (D.mono (by decide)) (mc' (mv' 1) (mc' (aF bU (by rfl) T.len d7 (mc' (mv' 4) mn')) mn'))))
   (mz' (ay 8 gH.nd (mf' g (D.mono (by decide)) (mc' (mv' 6) (mc' (mv' 7) mn'))))
   (mz' (ay 9 gH.nd (fh (cr (mc' ai (mc' ai (mc' ai (mc' ai mn')))))))
   (mz' (ay 10 gH.nd (mf' b (D.mono (by decide)) (mc' (mv' 1) (mc' mh' mn'))))
   (mz' (ay 11 gH.nd (aq (mc' (ae (mv' 9) (mv' 10)) mn')))
   (mz' (ay 12 gH.nd (aq (mc' (ae (mv' 9) (af d4 (af aG (mv' 10) (ae (cr (mc' mh' (mc' mh' (mc' mh' (mc' mh' (mc' mh' (mc' mh' (mc' mh' (mc' mh' mn'))))))))) (mf' b (D.mono (by decide)) (mc' (mv' 1) (mc' mh' mn'))))) mh')) mn')))
   (mz' (ik (i:=13) (j:=14) gH.nd rfl rfl (by decide) rfl rfl (mc' (mf' G (D.mono (by decide)) (mc' (mv' 6) (mc' (mv' 11) (mc' (mv' 12) mn')))) (mc' (mf' G (D.mono (by decide)) (mc' (mv' 8) (mc' (mv' 11) (mc' (mv' 12) mn')))) mn')) rfl)
   (mz' (bc (ap (j4 D.units) (ae (mv' 13) mh') (ae (mv' 14) mh') (aB _)) (aa (ag ng)) aA)
   (aa (bc (ap (bo D.units) (ae (mv' 13) mh') ai (aB _)) (mz' (ay 15 gH.nd (bI b5 (by rfl) T.tuple df (mc' (bM (own:=["_law_move"]) (fr:=["_law_order_here"]) (ps:=[7]) (sc:=(ab slaw)) (by exact⟨rfl,by decide +kernel,by decide +kernel,by decide +kernel,by decide +kernel⟩) (bC (ae (mv' 14) mh')) (λ_ _ _ _ _=>(am 0 (show aa2 ((["_law_move"]:List Str)++(["_law_order_here"]:List Str))from by decide +kernel))) (λ_ _ _ _ _=>bO) (λ_ _ _ _ _=>(mf' p (D.mono (by decide)) (mc' (mv' 1) (mc' (mv' 0) mn'))))) mn')))
   (mz' (ay 16 gH.nd (dE (bo D.units) (bM (own:=["_law_server"]) (fr:=["_law_servers"]) (ps:=[4]) (sc:=(ab slaw)) (by exact⟨rfl,by decide +kernel,by decide +kernel,by decide +kernel,by decide +kernel⟩) (bC (mv' 4)) (λ_ _ _ _ _=>(am 0 (show aa2 ((["_law_server"]:List Str)++(["_law_servers"]:List Str))from by decide +kernel))) (λ_ _ _ _ _=>(oJ (ap (j4 D.units) (mv' 0) (ae (mv' 1) mh') (aB _)))) (λ_ _ _ _ _=>(mv' 0))) (cr mn') (aB _)))
   (aa (bc (EW.pt (oi (ap (j4 D.units) (aF bU (by rfl) T.len d7 (mc' (ae (mv' 13) mh') mn')) (aF bU (by rfl) T.len d7 (mc' (mv' 15) mn')) (aB _)) (lM (EW.pt (h7 (lJ (c5 (mv' 16))) (gG (lJ (c5 (mf' u (D.mono (by decide)) (mc' (mv' 6) (mc' (mv' 11) (mc' (mv' 12) (mc' (mv' 15) mn'))))))))))))) (aa (ag ng)) aA)))) aA)))))))))))) aa1)
   (aa (ag ng)))),?_⟩
 intro as Kc hl ⟨ns,rfl,hn,k⟩;refine ah (MSt.mk [some (.imm (.list (ns.map .int))),none,none,none,none,none,none,none,none,none,none,none,none,none,none,none,none] [] 0) rfl ?_;ext s;refine⟨ns,rfl,hn,λt J=>?_⟩;ext n;refine vf ?_;ext x;refine⟨by decide,by decide,?_⟩;refine cB (λi m=>∃(t':aD) (a2 a3 a4 a5 a6 a7 a8 a9 W V Q O X N R:Option L2.R),m=MSt.mk [some (.imm (.list (ns.map .int))),some (.at 0 []),a2,a3,a4,a5,a6,a7,a8,a9,W,V,Q,O,X,N,R] [[t']] 0/\TapeK (20000*i) t') ⟨t,none,none,none,none,none,none,none,none,none,none,none,none,none,none,none,rfl,J⟩ ?_ ?_
 .rintro i d m e n ⟨t,a2,a3,a4,a5,a6,a7,a8,a9,W,V,Q,O,X,N,R,rfl,J⟩ D1 hD1 hR1;let⟨hi,rfl⟩:=dw e;have hi8:i<3:=hi;have go:∀{t:aD}{a2 a3 a4 a5 a6 a7 a8 a9 W V Q O X N R:Option L2.R},TapeK (20000*(i+1)) t->D1.nx (MSt.mk [some (.imm (.list (ns.map .int))),some (.at 0 []),a2,a3,a4,a5,a6,a7,a8,a9,W,V,Q,O,X,N,R] [[t]] 0):=λ{_} {_ _ _ _ _ _ _ _ _ _ _ _ _ _ _} z=>hD1 _ ⟨_,_,_,_,_,_,_,_,_,_,_,_,_,_,_,_,rfl,z⟩;ext s;refine⟨t,_,9,rfl,J,by omega,by decide,λM t I h9 J=>?_⟩;ext n;rw[show M.d = .tuple [.tuple [.int M.a,.int M.b],.tuple (M.ss.map Srv.d),.bool M.mv]from rfl];ext s
  .rfl
  let⟨h,eh,hmv⟩:∃h:Hall,h=⟨M.a,M.b,M.ss,false⟩/\h.mv=false:=⟨_,rfl,rfl⟩;have U:h.Ok:=by rw[eh];exact⟨I.a1,I.a2,I.b1,I.b2,I.n1,I.n4,I.ok⟩
  have n4:=U.n4;have hs:M.ss=h.ss:=by rw[eh]
  have hd:ab6 [ab6 [abq ↑M.a,abq ↑M.b],ab6 (agg Srv.d M.ss),aD.bool false]=h.d:=by rw[eh];rfl
  have h9':(M3.allR h.rs).length≤9:=by rw[eh];exact h9
  ext s;rw[lD,hs];refine⟨t,_,h.ss.length,rfl,J,by omega,U.n1,U.n4,λo t po J=>?_⟩;have P:Pm h.ss.length o:=⟨jC _ U.n4 o po⟩;ext n;rw[hs]at hd;ext s;rw[hd];refine⟨h,o,rfl,U,P,?_⟩;ext x;refine⟨t,_,_,rfl,J,by omega,by decide,by decide,λq t hq0 hq1 J=>?_⟩;let⟨q,rfl⟩:=aco hq0;have wd:∀q:Nat,q<4->∃(r:Rule) (w:Str),Wr r/\r.d = .tuple [.str w]/\atI [aD.str "random",.str "two",.str "least",.str "quick"] (q:Int)=some (.str w):=λq hq=>by
   rcases (show q=0\/q=1\/q=2\/q=3 by omega)with rfl|rfl|rfl|rfl
   .exact⟨.random,_,.inl rfl,rfl,rfl⟩
   .exact⟨.two,_,.inr (.inl rfl),rfl,rfl⟩
   .exact⟨.least,_,.inr (.inr (.inl rfl)),rfl,rfl⟩
   .exact⟨.quick,_,.inr (.inr (.inr rfl)),rfl,rfl⟩
  let⟨r1,w1,R1,e1,i1⟩:=wd q (by omega);ext x;refine p7 i1 ?_;ext s;refine⟨t,_,_,rfl,J,by omega,by decide,by decide,λq2 t hq2 hq3 J=>?_⟩;let⟨v,en⟩:∃v:Nat,atI [abq 0,.int 1,.int 2,.int 3,.int 1,.int 2,.int 3,.int 1] q2=some (.int (v:Int)):=by
   rcases (show q2=0\/q2=1\/q2=2\/q2=3\/q2=4\/q2=5\/q2=6\/q2=7 by omega)with rfl|rfl|rfl|rfl|rfl|rfl|rfl|rfl
   .exact⟨0,rfl⟩
   .exact⟨1,rfl⟩
   .exact⟨2,rfl⟩
   .exact⟨3,rfl⟩
   .exact⟨1,rfl⟩
   .exact⟨2,rfl⟩
   .exact⟨3,rfl⟩
   .exact⟨1,rfl⟩
  let⟨r2,w2,R2,e2,i2⟩:=wd ((q+v)%4) (agI _ (by decide));ext n;refine pj en ?_;ext s;rw[show((q:Int)+(v:Int))%4=(((q+v)%4:Nat):Int) by omega];refine p7 i2 ?_;ext s;let⟨g1,n1,_⟩:=R1.ok (h:=h) (o:=o);let⟨g2,n2,_⟩:=R2.ok (h:=h) (o:=o);have nb:∀a:Nat,a≤9->a*a*(a*a+2)≤190000:=by decide +kernel
  have hmT:(M3.allR (hT h o).rs).length≤9:=by rw[OT P];exact h9'
  let⟨x1,x2⟩:=Pc U hmv R1 R2 po;refine⟨h,r1,r2,by rw[e1,e2],⟨U,g1,g2,n1,n2⟩,by omega,nb _ h9',λA kA bA mA lA=>?_,λZ S _ _ _=>?_⟩
  all_goals
   ext x;refine⟨hT h o,r1,r2,by rw[e1,e2],⟨RM U P,(R1.ok (o:=o)).1,(R2.ok (o:=o)).1,n1,n2⟩,by omega,nb _ hmT,λB kB bB mB lB=>?_,λY S' _ _ _=>?_⟩
  .ext x;rw[if_neg (c:=(!decide (("worse" : Str) = "worse"))=true) (by decide +kernel)];ext d;let⟨y1,y2,B',kB',lB',bB'⟩:=x2 B kB bB;refine cB (λj m=>∃kk:Option L2.R,m=MSt.mk [kk,some (.imm (lnD o))] [[t],((B.map (cl o)).take j).map Mv.d] 2) ⟨none,rfl⟩ ?_ ?_
   .rintro j d m e hnp ⟨kk,rfl⟩ D2 hD2 hR2;let⟨mv,em,rfl,hj⟩:=gmap e;ext s;refine⟨h,o,mv,rfl,U,po,?_,?_⟩
    .have:=kB mv (Io em);rwa[show mvs (hT h o)=mvs h by unfold mvs;rw[iU P]]at this
    .ext x;refine⟨_,rfl,by rw[aar,lD,aau,lD];omega,hD2 _ ⟨some (.imm mv.d),?_⟩⟩;rw[aaO,aae,em,aaH];rfl
   intro m hnp ⟨kk,rfl⟩;rw[lD,aby (by rw[lD];exact aab _)];ext s;let⟨s0,e0,i0⟩:=rC U;refine cB (λi m=>∃a:Option L2.R,m=MSt.mk [a,some (.imm (.tuple (h.ss.map Srv.d)))] [[t],dfS h (h.ss.take i)] 2) ⟨none,rfl⟩ ?_ ?_
   .rintro i d m e hnp ⟨a,rfl⟩ D2 hD2 hR2;let⟨s,es,rfl,hi⟩:=gmap e;rw[aaO,es,show(some s).toList=[s]from rfl,yb e0]at hD2;have lf:=Fm (h:=h) (L:=h.ss.take i);rw[aau]at lf;ext s;refine aP i0 ?_;ext s;refine x_ne (d1:=s.d) (d2:=s0.d) rfl rfl ((lq s).ok (by decide)) ((lq s0).ok (by decide)) ?_;ext s
    cases ec:aai s.d s0.d with
    |true=>
     rw[ec,if_pos rfl,aa0]at hD2;refine iI ?_;ext s;exact hD2 _ ⟨some (.imm s.d),rfl⟩
    |false=>
     rw[ec,if_neg (by decide)]at hD2;refine iy ?_;ext s;exact⟨_,rfl,by rw[aar];omega,hD2 _ ⟨some (.imm s.d),rfl⟩⟩
   intro m hnp ⟨a,rfl⟩;rw[lD,aax];ext x;refine x_eq (d1:=.list (dfS h h.ss)) (d2:=.list []) rfl rfl Qh (by decide +kernel) ?_;rw[Fq];ext s;have eAB:A.length=B.length:=by
    rcases ag0 A.length B.length with z|z|z
    .obtain⟨A',kA',lA',bA'⟩:=x1 A kA bA;rw[mB A' kA' (by omega)]at bA';cases bA'
    .exact z
    .rw[mA B' kB' (by omega)]at bB';cases bB'
   rw[show [[t],agg Mv.d (agg (cl o) B)].getD 1 []=(B.map (cl o)).map Mv.d from rfl,if_neg (show ¬decide ((((A.map Mv.d).length:Nat):Int)≠((((B.map (cl o)).map Mv.d).length:Nat):Int))=true by simp[eAB])]
   cases al:alk h with
   |true=>
    ext e;exact go (J.mono (by omega))
   |false=>
    ext s;rw[if_pos (by decide)];ext s;refine⟨h,r1,r2,B.map (cl o),by rw[e1,e2],⟨U,g1,g2,n1,n2⟩,y1,?_⟩;ext n;rw[y2 al];ext e;exact go (J.mono (by omega))
  .obtain⟨A',kA',_,bA'⟩:=x1 A kA bA;rw[S' A' kA']at bA';cases bA'
  .obtain⟨_,_,A',kA',_,bA'⟩:=x2 B kB bB;rw[S A' kA']at bA';cases bA'
  .ext x;rw[if_neg (c:=(!decide (("never" : Str) = "never"))=true) (by decide +kernel)];ext s;rw[if_neg (hnc:=by decide +kernel)];ext s;exact go (J.mono (by omega))
 .rintro m hnp ⟨t,a2,a3,a4,a5,a6,a7,a8,a9,W,V,Q,O,X,N,R,rfl,J⟩;ext s;exact k
end
def ar_{us:List Ad}{n:Nat}(b:us.length=n):us=(aat n).map λi=>us.getD i .none:=ag5 (by rw[b,lD,abb]) λi a c=>by
 rw[List.getElem_map,List.getElem_range,aaa,iO a];rfl
local macro_rules | `(tactic| walk_at "dm") => `(tactic| exact λf fd F => F.binds λ_ _ _ _ _ _ us hl => by rw [ar_ hl]; rfl)
def L6{w:World}{K:aaf}{h:aaW}{mg:Str->Option Ad}{fa:Addr}(X:K.In h)(G:h.Ns aay mg)(hfa:mg "law" = some (.ref fa))(dis_less:DefK K "is_less" o7)(dis_alike:DefK K "is_alike" ko)(y:DefK K "place_of_lines" dn)(I:DefK K "first_shortest" dj)(dwait_at:DefK K "wait_at" oG)(D:DefK K "first_quickest" dq)(dsent_to:DefK K "sent_to" o6)(dfirst_stand:DefK K "first_stand" f9)(dall_orders:DefK K "all_orders" fg)(dall_moves:DefK K "all_moves" d9)(dwith_more:DefK K "with_more" jq)(dcome_to:DefK K "come_to" oY)(ddone_at:DefK K "done_at" oH)(dnext_shift:DefK K "next_shift" ip)(dsettled:DefK K "settled" qk)(dturn_behind:DefK K "turn_behind" ga)(dline_of:DefK K "line_of" oO)(dmoved_on:DefK K "moved_on" jY)(dkept_lines:DefK K "kept_lines" ie)(Q:DefK K "refuse_turns" fx)(U:DefK K "first_triple" fj)(dkept_step:DefK K "kept_step" jA)(O:DefK K "triple_behind" d3)(dis_worse:DefK K "is_worse" j6)(p:MthD K "Search" "steps_of" "Search.steps_of" bm ["self","side","lines"])(d:MthD K "Search" "triples_behind" "Search.triples_behind" aE ["self","triple"])(dSearch_met:MthD K "Search" "met" "Search.met" cP ["self","triple","ahead","move"])(N:MthD K "Search" "run_to" "Search.run_to" cb ["self","at"])(m:MthD K "Search" "worse_run" "Search.worse_run" bt ["self"])(V:MthD K "Search" "paper" "Search.paper" b8 ["self"])(n:IniDK K "Search" "Search.__init__" bF ["self","hall","one","other"])(dnever_worse:DefK K "never_worse" fQ)(d_law_tape:DefK K "_law_tape" jw)(d_law_draw:DefK K "_law_draw" jB)(d_law_frac:DefK K "_law_frac" jn)(z:DefK K "_law_all_lines" cF)(d_law_hall:DefK K "_law_hall" cj)(dhall_turned:DefK K "hall_turned" dI)(d_law_sent:DefK K "_law_sent" gw)(d_law_put:DefK K "_law_put" kl)(d_law_step:DefK K "_law_step" i9)(d_law_kept:DefK K "_law_kept" gm)(d_law_both:DefK K "_law_both" js)(d_law_is_bad:DefK K "_law_is_bad" f7)(d_law_order:DefK K "_law_order" iu)(d_law_called:DefK K "_law_called" dH)(d_law_shows:DefK K "_law_shows" ig)(dlaw:DefK K "law" slaw)(zlen:aaM K aay "len" = some none)(zabs:aaM K aay "abs" = some none)(zrange:aaM K aay "range" = some none)(zlist:aaM K aay "list" = some none)(ztuple:aaM K aay "tuple" = some none)(zint:aaM K aay "int" = some none)(zsum:aaM K aay "sum" = some none)(zmax:aaM K aay "max" = some none)(zmin:aaM K aay "min" = some none)(zisinstance:aaM K aay "isinstance" = some none)(zbool:aaM K aay "bool" = some none)(zsorted:aaM K aay "sorted" = some none)(zzip:aaM K aay "zip" = some none)(zenumerate:aaM K aay "enumerate" = some none)(zrepr:aaM K aay "repr" = some none)    (P:InsF K "Search" "hall")(u:InsF K "Search" "rules")(E:InsF K "Search" "moves")(C:InsF K "Search" "steps")(H:InsF K "Search" "leads")(k:InsF K "Search" "triples")(M:InsF K "Search" "ways") :
  ∃fd:ab4,(∀(s:GT) (v:Ad),agR s fd ⟨[v],[]⟩ [("_law_script",v)])/\∀base:aaW,K.In base->base.Ns aay mg->FnOk l.prog w K mg base CX0 12 fa fd ["_law_script"] (spOf ⟨K,w⟩ 1 Cr):=by
 let⟨f,fd,a,F⟩:=dlaw.ex;have e:=hfa.symm.trans (agz X G a);cases e;have T:Bl K mg:=⟨aaY X G zlen,aaY X G zabs,aaY X G zrange,aaY X G zlist,aaY X G ztuple,aaY X G zint,aaY X G zsum,aaY X G zmax,aaY X G zmin,aaY X G zisinstance,aaY X G zbool,aaY X G zsorted,aaY X G zzip,aaY X G zenumerate,aaY X G zrepr,P,u,E,C,H,k,M⟩;refine⟨fd,λs v=>?_,λbase _ _=>?_⟩
 .obtain⟨oc,od,kV,doc,pm,an,cdv,ct,osl,rfl,lk,hcd⟩:=F.ex;exact .of_eq rfl
 .have Gis_less:=@zg l.prog w K mg base T (dis_less.m X G (by ext dm));have Gis_alike:=@wM l.prog w K mg base T (dis_alike.m X G (by ext dm));have B:=@jN l.prog w K mg base T (y.m X G (by ext dm));have A:=@jT l.prog w K mg base T (I.m X G (by ext dm));have Gwait_at:=@xW l.prog w K mg base T (dwait_at.m X G (by ext dm));have x:=@jS l.prog w K mg base T (D.m X G (by ext dm)) Gwait_at Gis_less;have Gsent_to:=@zU l.prog w K mg base T (dsent_to.m X G (by ext dm)) A x B;have Y:=@p6 l.prog w K mg base T (dfirst_stand.m X G (by ext dm));have Gall_orders:=@qT l.prog w K mg base T (dall_orders.m X G (by ext dm));have Gall_moves:=@tZ l.prog w K mg base T (dall_moves.m X G (by ext dm)) Gall_orders;have i:=@tQ l.prog w K mg base T (dwith_more.m X G (by ext dm));have Gcome_to:=@xR l.prog w K mg base T (dcome_to.m X G (by ext dm)) i;have Gdone_at:=@yB l.prog w K mg base T (ddone_at.m X G (by ext dm)) i;have Gnext_shift:=@sF l.prog w K mg base T (dnext_shift.m X G (by ext dm));have Gsettled:=@Bq l.prog w K mg base T (dsettled.m X G (by ext dm)) Gnext_shift i;have Gturn_behind:=@qg l.prog w K mg base T (dturn_behind.m X G (by ext dm));have Gline_of:=@yq l.prog w K mg base T (dline_of.m X G (by ext dm)) Gsent_to;have Gmoved_on:=@xh l.prog w K mg base T (dmoved_on.m X G (by ext dm)) Gline_of Gcome_to Gturn_behind Gdone_at Gsettled;have Gkept_lines:=@sK l.prog w K mg base T (dkept_lines.m X G (by ext dm)) Gis_alike;have S:=@mI l.prog w K mg base T (Q.m X G (by ext dm));have W:=@mf l.prog w K mg base T (U.m X G (by ext dm)) Y;have Gkept_step:=@tz l.prog w K mg base T (dkept_step.m X G (by ext dm)) Gmoved_on Gkept_lines;have J:=@km l.prog w K mg base T (O.m X G (by ext dm));have Gis_worse:=@vQ l.prog w K mg base T (dis_worse.m X G (by ext dm));have t:=@jg l.prog w K mg base T p Gkept_step;have b:=@fq l.prog w K mg base T d t J;have o:=@qt l.prog w K mg base T dSearch_met;have L:=@l5 l.prog w K mg base T N;have j:=@iC l.prog w K mg base T m b Gis_worse L o;have R:=@mD l.prog w K mg base T V;have q:=@ja l.prog w K mg base T (n.m X G) Gall_moves W o;have Z:=@oU l.prog w K mg base T (dnever_worse.m X G (by ext dm)) S q j R;have G_law_tape:=@tq l.prog w K mg base T (d_law_tape.m X G (by ext dm));have g:=@um l.prog w K mg base T (d_law_draw.m X G (by ext dm));have G_law_frac:=@sW l.prog w K mg base T (d_law_frac.m X G (by ext dm));have c:=@jR l.prog w K mg base T (z.m X G (by ext dm));have G_law_hall:=@tu l.prog w K mg base T (d_law_hall.m X G (by ext dm)) g G_law_frac c;have Ghall_turned:=@qb l.prog w K mg base T (dhall_turned.m X G (by ext dm));have G_law_sent:=@sV l.prog w K mg base T (d_law_sent.m X G (by ext dm)) c;have G_law_put:=@vP l.prog w K mg base T (d_law_put.m X G (by ext dm));have G_law_step:=@sX l.prog w K mg base T (d_law_step.m X G (by ext dm)) G_law_sent G_law_put;have G_law_kept:=@uk l.prog w K mg base T (d_law_kept.m X G (by ext dm));have G_law_both:=@ul l.prog w K mg base T (d_law_both.m X G (by ext dm)) G_law_step G_law_kept;have G_law_is_bad:=@qh l.prog w K mg base T (d_law_is_bad.m X G (by ext dm));have G_law_order:=@qF l.prog w K mg base T (d_law_order.m X G (by ext dm)) g;have G_law_called:=@pc l.prog w K mg base T (d_law_called.m X G (by ext dm));have G_law_shows:=@qM l.prog w K mg base T (d_law_shows.m X G (by ext dm)) G_law_both G_law_is_bad;exact Uk T F G_law_tape G_law_hall G_law_order g Ghall_turned Z G_law_called G_law_shows
theorem walk{q:aaI}{b:List Str}{X:(Str->Option Ad)->aaW->Prop}{Y:World->aaW->Prop}{d:DefRec}{K:Params->aaf}(g:PyProof.Rows.importsNone q=true)(p:l.most=some 63)(c:d.params.defaults=[])
  (i:∀(w:World) (h:aaW),Y w h->(K w.params).In h)
  (F:∀(w:World) (mg:Str->Option Ad) (e:Addr) (h:aaW),(K w.params).In h->h.Ns aay mg->mg d.name=some (.ref e) ->
   ∃fd:ab4,(∀(s:GT) (u:Ad),agR s fd ⟨[u],[]⟩ [("_law_script",u)])/\∀base:aaW,(K w.params).In base->base.Ns aay mg->FnOk l.prog w (K w.params) mg base CX0 12 e fd ["_law_script"] (spOf ⟨K w.params,w⟩ 1 Cr)) :
  aho q b X Y l.row.toRowW d [] (λf vs=>ahn f vs):=
 L2.IJ (n:=63) (k:=12) (x:= "_law_script") (CX:=λ_=>CX0) (sp:=λw=>spOf ⟨K w.params,w⟩ 1 Cr) g p (by decide) c ⟨rfl,by decide,by decide,rfl⟩ i F
  (λw H a ns m y j=>⟨[.imm (.list (ns.map .int))],[],λr _=>r = .imm (.bool true),rfl,abT,.imm (wq y j) .nil,⟨ns,rfl,m,rfl⟩,λr o v t k _ rr _=>by cases k;exact kH (show Den ⟨K w.params,w⟩ t (.bool true) v from rr)⟩) λ_ _ _ _ _ z=>z
end K
namespace PySem.W.Fast
def tw10164457109685457675:=0
def tw1326378567936802233:=0
def tw9587718362665899631:=0
def tw18400680317368682707:=0
def tw13588408154432210263:=0
def tw15431411680367927335:=0
def tw12005952922035384921:=0
def tw16797901363072544613:=0
def tw1092438273860177696:=0
def tw12474580251051462700:=0
def tw2097426223370480589:=0
def tw5109103653922719245:=0
def tw10284958817086107980:=0
def tw6754077437278007317:=0
def tw8631923541640605287:=0
def tw10497591854324769177:=0
def tw1056780433039836327:=0
def tw15374321319056374467:=0
def tw6405857365282163038:=0
def tw15960823244466977527:=0
def tw16684450876439322922:=0
def tw12234500842339140246:=0
def tw2141676386634232713:=0
def tw12296224733282289814:=0
def tw2359380571574674163:=0
def tw9485402960706760036:=0
def tw7924382185049960956:=0
def tw289917715139928436:=0
def tw13636045282195036330:=0
def tw9734168574103369695:=0
def tw3478190059606011499:=0
def tw5341376750637210724:=0
def tw7747224965062106587:=0
def tw4347725741491522333:=0
def tw8418953740210398389:=0
def tw8243262670532068348:=0
def tw12601773998504444564:=0
def tw11445306357578099666:=0
def tw13427576149934173901:=0
def tw4629437803777811886:=0
def tw11169666430148354190:=0
def tw3380749418935465733:=0
def tw5050551438928194705:=0
def tw8213237161886793069:=0
def tw5228946263325096177:=0
def tw1167111605224072942:=0
def tw14392839939209736840:=0
def tw17489657074935977972:=0
def tw7015570791076277464:=0
def tw2714928140685030518:=0
def tw9328985366319703021:=0
def tw1914569683903848220:=0
def tw4164594308785507810:=0
def tw13634710517172320324:=0
def tw17517212092271421733:=0
def tw13137075125506636464:=0
def tw218677193370773022:=0
def tw3192368092061381722:=0
def tw4822268435553766975:=0
def tw18231103598737271972:=0
def tw1231888677911946413:=0
def tw1561897334898632779:=0
def tw1046560790580252528:=0
def tw11438174354822347701:=0
def tw12294548468330797015:=0
def tw6478836586680706354:=0
def tw7711788599524831281:=0
def tw12073461621658709375:=0
def tw6232474250332013036:=0
def tw726323258628532825:=0
def tw120721410206034535:=0
def tw10298751653075303957:=0
def tw4647577033080889275:=0
def tw505793858831422588:=0
def tw11049839404118183770:=0
def tw17337738326707159769:=0
def tw1001703993384346746:=0
def tw13810497631077507015:=0
def tw10080895839851325362:=0
def tw7186678679425844873:=0
def tw3137801667120041854:=0
def tw7927299491165635764:=0
def tw3750184928164827295:=0
def tw10233260526942803571:=0
def tw8180704069724126686:=0
def tw15914250777314250245:=0
def tw10468382249048739843:=0
def tw9739074359467355048:=0
def tw13911221663027980110:=0
def tw2019765194822409384:=0
def tw3287591080093328641:=0
def tw4517526661083060686:=0
def tw10809302428479978611:=0
def tw17449496876789854467:=0
def tw3447627681791253474:=0
def tw14466711469218565485:=0
def tw17536804026955351219:=0
def tw13962992796794363436:=0
def tw2659394571239853549:=0
def tw8679925421533391625:=0
def tw12305254597567035750:=0
def tw9856708453075823066:=0
def tw7833940697021205333:=0
def tw13483422766875185472:=0
def tw11113655038921059572:=0
def tw7174617687033965763:=0
def tw17646906420613828622:=0
def tw15744875921796308400:=0
def tw7313438814551707950:=0
def tw1612087757789546432:=0
def tw9381792699096651482:=0
def tw3575201927580450933:=0
def tw14569335387741496878:=0
def tw11369446513618964678:=0
def tw10826114782023160334:=0
def tw4168131488079378902:=0
def tw1616256703705284985:=0
def tw5378905705504410739:=0
def tw4026110000828009077:=0
def tw9081125373156849565:=0
def tw143889197207155548:=0
def tw3531473306960978038:=0
def tw10939165540124787069:=0
def tw8189366985090757994:=0
def tw621873131721908838:=0
def tw2371972581125387571:=0
def tw6101566788978356590:=0
def tw10768551666241807528:=0
def tw16154128596172732397:=0
def tw5515464947188676690:=0
def tw1278789492521501202:=0
def tw16759909818420277776:=0
def tw1299451309386279475:=0
def tw7448828033992206757:=0
def tw10573869747816094738:=0
def tw17253162387955835413:=0
def tw10026525910740917382:=0
def tw2273351240510780290:=0
def tw779711140414563180:=0
def tw12807985374068036194:=0
def tw106389224039434992:=0
def tw12021316524376719369:=0
def tw3958981955274914672:=0
def tw11924855197836104586:=0
def tw4044486805571915929:=0
def tw11129427833411723982:=0
def tw11629882029401897796:=0
def tw517930880385221450:=0
def tw396132660202289379:=0
def tw17197351066540937763:=0
def tw8729777624254750065:=0
def tw17656883291534576025:=0
def tw17361160768913587751:=0
def tw12465328133346538959:=0
def tw16132522835924491456:=0
def tw16532226088759325534:=0
def tw2362099621784788556:=0
def tw16619857482147006620:=0
def tw1743125966721242811:=0
def tw16420066150603053754:=0
def tw6253112075363403198:=0
def tw10713086515041842969:=0
def tw7037620269995821651:=0
def tw12566228779485981659:=0
def tw3714768297568100577:=0
def tw9037677425835322383:=0
def tw8663803371059565906:=0
def tw7200154873180613992:=0
def tw5190369389864227667:=0
def tw16031189935190216633:=0
def tw4750221524847316880:=0
def tw5387958932454276116:=0
def tw8768383301620904676:=0
def tw17605979585689147044:=0
def tw5317985084906082168:=0
def tw8536358350463540012:=0
def tw7889967836429597192:=0
def tw6240579207643671997:=0
def tw6311909497770267218:=0
def tw11329968099380594878:=0
def tw177052010759753056:=0
def tw16945870482336963259:=0
def tw10590052293713234713:=0
def tw1998952117045751579:=0
def tw4274969150222638608:=0
def tw2758123546603010395:=0
def tw2476548185331951782:=0
def tw4293483019122691434:=0
def tw16184988405053512960:=0
def tw9031279876956143013:=0
def tw11698826232216648413:=0
def tw2633561805105755788:=0
def tw13904050976823794105:=0
def tw13114260014055476212:=0
def tw10468294633579309829:=0
def tw6675917128068137517:=0
def tw15161231339898234695:=0
def tw11769833547773832219:=0
def tw2650583015729890591:=0
def tw6784096220038169904:=0
def tw17330880783166275363:=0
def tw9525605923897604289:=0
def tw9633307933540483440:=0
def tw11291838004519193260:=0
def tw17170989898728178928:=0
def tw602197269305528603:=0
def tw6698967005225457916:=0
def tw1660174632418300504:=0
def tw14231770003364022961:=0
def tw8374930534160313699:=0
def tw2592887519576505644:=0
def tw1209384116046582511:=0
def tw7950873204648214003:=0
def tw6493892059645101520:=0
def tw3131152094395996527:=0
def tw1985470092080369429:=0
def tw14795948746185562801:=0
def tw13923179652720919645:=0
def tw9414308705620729757:=0
def tw17269618987093756340:=0
def tw15952602866720328263:=0
def tw11632655540505295871:=0
def tw11005773347979360000:=0
def tw1750290651115549831:=0
def tw5060173023109473003:=0
def tw6248149288480633208:=0
def tw3017433892048478029:=0
def tw5591603310444859127:=0
def tw8959151283262590661:=0
def tw13835640401842707201:=0
def tw10463203109539437701:=0
def tw2270433003220570461:=0
def tw18163370441481084457:=0
def tw9908156074151387466:=0
def tw8336364095538468473:=0
def tw6787651184166702917:=0
def tw14495399199572227186:=0
def tw14129063471883958758:=0
end PySem.W.Fast
open PySem PySem.W PyProof.Rows
local macro_rules | `(tactic| walk_at "dk") => `(tactic| (refine' L2.DefK.of ?a ?l ?c ?k; (case a => k_is); (case l => k_is); (case c => k_is); (case k => k_is)))
set_option maxRecDepth 100000 in
set_option maxHeartbeats 0 in
theorem PySem.Challenge.cw_shorterline_k60_whole_servers_turned_holds : PySem.Challenge.rw_shorterline_k60_whole_servers_turned.Holds := by
 w_on;o_law;k_head;(case hw=>w_witness2)
 k_fill
 refine K.walk (l:=PySem.Challenge.rw_shorterline_k60_whole_servers_turned) ?hq rfl rfl (λw h Y=>PySem.W.kIn_of Y) ?F
 case hq=>kernel_rfl
 case F=>
  intro w mg fa h KX G hmg;refine' K.L6 KX G hmg ?_ ?_ ?_ ?_ ?_ ?_ ?_ ?_ ?_ ?_ ?_ ?_ ?_ ?_ ?_ ?_ ?_ ?_ ?_ ?_ ?_ ?_ ?_ ?_ ?_ ?_ ?_ ?_ ?_ ?_ ?_ ?_ ?_ ?_ ?_ ?_ ?_ ?_ ?_ ?_ ?_ ?_ ?_ ?_ ?_ ?_ ?_ ?_ ?_ ?_ ?_ ?_ ?_ ?_ ?_ ?_ ?_ ?_ ?_ ?_ ?_ ?_ ?_ ?_ ?_ ?_ ?_ ?_ ?_ ?_
  iterate 24 · ext dk
  .refine' L2.MthD.of K.jU ?xa ?xb ?xc ?xd ?xe ?xf ?xl ?xg ?xk ?xn;(case xa=>k_is);(case xb=>k_is);(case xc=>k_is);(case xd=>k_is);(case xe=>k_is);(case xf=>k_is);(case xl=>k_is);(case xg=>k_is);(case xk=>k_is);(case xn=>k_is)
  .refine' L2.MthD.of K.fI ?xa ?xb ?xc ?xd ?xe ?xf ?xl ?xg ?xk ?xn;(case xa=>k_is);(case xb=>k_is);(case xc=>k_is);(case xd=>k_is);(case xe=>k_is);(case xf=>k_is);(case xl=>k_is);(case xg=>k_is);(case xk=>k_is);(case xn=>k_is)
  .refine' L2.MthD.of K.sY ?xa ?xb ?xc ?xd ?xe ?xf ?xl ?xg ?xk ?xn;(case xa=>k_is);(case xb=>k_is);(case xc=>k_is);(case xd=>k_is);(case xe=>k_is);(case xf=>k_is);(case xl=>k_is);(case xg=>k_is);(case xk=>k_is);(case xn=>k_is)
  .refine' L2.MthD.of K.mz ?xa ?xb ?xc ?xd ?xe ?xf ?xl ?xg ?xk ?xn;(case xa=>k_is);(case xb=>k_is);(case xc=>k_is);(case xd=>k_is);(case xe=>k_is);(case xf=>k_is);(case xl=>k_is);(case xg=>k_is);(case xk=>k_is);(case xn=>k_is)
  .refine' L2.MthD.of K.jy ?xa ?xb ?xc ?xd ?xe ?xf ?xl ?xg ?xk ?xn;(case xa=>k_is);(case xb=>k_is);(case xc=>k_is);(case xd=>k_is);(case xe=>k_is);(case xf=>k_is);(case xl=>k_is);(case xg=>k_is);(case xk=>k_is);(case xn=>k_is)
  .refine' L2.MthD.of K.o9 ?xa ?xb ?xc ?xd ?xe ?xf ?xl ?xg ?xk ?xn;(case xa=>k_is);(case xb=>k_is);(case xc=>k_is);(case xd=>k_is);(case xe=>k_is);(case xf=>k_is);(case xl=>k_is);(case xg=>k_is);(case xk=>k_is);(case xn=>k_is)
  .refine' L2.IniDK.of K.jO ?xa ?xd ?xl ?xe ?xk ?xf ?xm ?xc;(case xa=>k_is);(case xd=>k_is);(case xl=>k_is);(case xe=>k_is);(case xk=>k_is);(case xf=>k_is);(case xm=>k_is);(case xc=>k_is)
  iterate 17 · ext dk
  iterate 15 · k_is
  iterate 7 · refine' L2.InsF.of ?xa ?xb ?xc ?xd ?xe ?xf;(case xa=>k_is);(case xb=>k_is);(case xc=>k_is);(case xd=>k_is);(case xe=>k_is);(case xf=>k_is)