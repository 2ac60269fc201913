import PyProof.Rows.All
import Wide.All
import OpenK.AllK
import Wide.FinOn
import Lean
import PyProof.EqAt
import PyProof.EqKinds
import PyProof.TupleCall
import KE.KRevIter
import PyProof.FactsAll.range
import PyProof.P3In
import PyProof.ZipIter
import PyProof.TupleIter
import PyProof.AutoListH
import PyProof.WalkInts
import PyProof.SeqI3
import PyProof.EnumFor
import PyProof.EnumMake
import PyProof.ListMulRoad
import PyProof.Rows.SortRev
import PyProof.SumWalkG
import PyProof.StrWalks
import PyProof.StrCalls2
import PyProof.StrLawsTight
import KE.KIntText
import PyProof.StrBlockG
import PyProof.Rows.StrItems
import PyProof.SliceStr2
import PyProof.StrBlockI
import PyProof.Rows.IntBool
import PyProof.StrOps2
import PyProof.ListStr
import PyProof.DictRoadsH
import PyProof.Rows.TupTab
import PyProof.P3Eq
import PyProof.StationsW
import PyProof.RulesAs
import OpenK.KOwn
import KE.KTryMore
import PyProof.NsDelKeeps
import PyProof.ExcArgsOwn
import PyProof.ExcInit
import PyProof.InstStoreFacts
import PyProof.ListRange
import PyProof.TupleOfStr
import PyProof.CollectIter
import PyProof.DictItems
import PyProof.DictWalks
import PyProof.StrLawsRepr
import PyProof.Rows.FStr
import PyProof.FString
import PyProof.FactsAll.tuple
import KE.KSortTup
import PyProof.CollectWalk
import PyProof.AutoSeq1
import PyProof.DictTruth
import KE.RegKIsAll
import KE.RegKTryMore
import PySem.Challenge.RW_shorterline_k58_whole_alike_halls
local macro_rules|`(tactic|omega)=>`(tactic|first|lia|omega +splitNatSub)
local macro_rules|`(term|~~~$x)=>`(some (.imm $x))
local macro_rules|`(term|$x⁻¹)=>`(($x).mono (by decide))
local macro_rules|`(term|⋯)=>`(by decide)
local macro_rules|`(term|∅)=>`(by omega)
local macro_rules|`(tactic|ext K)=>`(tactic|decide +kernel)
local macro_rules|`('a')=>`(by simp)|`('b')=>`(by rfl)|`('d')=>`(by ext dm)|`('e')=>`(by exact⟨rfl,by ext K,by ext K,by ext K,by ext K⟩)|`('f')=>`(by with_unfolding_all rfl)|`('g')=>`(("__debug__":PySem.Str))|`('h')=>`((List Nat×PySem.Addr))|`('i')=>`((PySem.Addr×PySem.Obj))
set_option Elab.async false
set_option linter.all false
set_option maxRecDepth 100000
namespace Zz
theorem e1_1{α:Sort _}{p:α→Prop}{g:Prop}(h:∃a,p a)(k:∀a,p a→g):g:=h.elim λa h=>k a h
theorem e0_2{p q:Prop}{g:Prop}(h:p∧q)(k:p→q→g):g:=k  h.1 h.2
theorem e2_1{α β:Sort _}{p:α→β→Prop}{g:Prop}(h:∃a b,p a b)(k:∀a b,p a b→g):g:=h.elim λa h=>h.elim λb h=>k a b h
theorem e1_2{α:Sort _}{p q:α→Prop}{g:Prop}(h:∃a,p a∧q a)(k:∀a,p a→q a→g):g:=h.elim λa h=>k a h.1 h.2
theorem e0_3{p q r:Prop}{g:Prop}(h:p∧q∧r)(k:p→q→r→g):g:=k  h.1 h.2.1 h.2.2
theorem e3_1{α β γ:Sort _}{p:α→β→γ→Prop}{g:Prop}(h:∃a b c,p a b c)(k:∀a b c,p a b c→g):g:=h.elim λa h=>h.elim λb h=>h.elim λc h=>k a b c h
theorem e2_2{α β:Sort _}{p q:α→β→Prop}{g:Prop}(h:∃a b,p a b∧q a b)(k:∀a b,p a b→q a b→g):g:=h.elim λa h=>h.elim λb h=>k a b h.1 h.2
theorem e1_3{α:Sort _}{p q r:α→Prop}{g:Prop}(h:∃a,p a∧q a∧r a)(k:∀a,p a→q a→r a→g):g:=h.elim λa h=>k a h.1 h.2.1 h.2.2
theorem e0_4{p q r s:Prop}{g:Prop}(h:p∧q∧r∧s)(k:p→q→r→s→g):g:=k  h.1 h.2.1 h.2.2.1 h.2.2.2
theorem e4_1{α β γ δ:Sort _}{p:α→β→γ→δ→Prop}{g:Prop}(h:∃a b c d,p a b c d)(k:∀a b c d,p a b c d→g):g:=h.elim λa h=>h.elim λb h=>h.elim λc h=>h.elim λd h=>k a b c d h
theorem e3_2{α β γ:Sort _}{p q:α→β→γ→Prop}{g:Prop}(h:∃a b c,p a b c∧q a b c)(k:∀a b c,p a b c→q a b c→g):g:=h.elim λa h=>h.elim λb h=>h.elim λc h=>k a b c h.1 h.2
theorem e2_3{α β:Sort _}{p q r:α→β→Prop}{g:Prop}(h:∃a b,p a b∧q a b∧r a b)(k:∀a b,p a b→q a b→r a b→g):g:=h.elim λa h=>h.elim λb h=>k a b h.1 h.2.1 h.2.2
theorem e1_4{α:Sort _}{p q r s:α→Prop}{g:Prop}(h:∃a,p a∧q a∧r a∧s a)(k:∀a,p a→q a→r a→s a→g):g:=h.elim λa h=>k a h.1 h.2.1 h.2.2.1 h.2.2.2
theorem e0_5{p q r s t:Prop}{g:Prop}(h:p∧q∧r∧s∧t)(k:p→q→r→s→t→g):g:=k  h.1 h.2.1 h.2.2.1 h.2.2.2.1 h.2.2.2.2
theorem i2_1{α β:Sort _}{p:α→β→Prop}(a:α)(b:β)(h0:p a b):∃a b,p a b:=⟨a,b,h0⟩
theorem i1_2{α:Sort _}{p q:α→Prop}(a:α)(h0:p a)(h1:q a):∃a,p a∧q a:=⟨a,h0,h1⟩
theorem i0_3{p q r:Prop}(h0:p)(h1:q)(h2:r):p∧q∧r:=⟨h0,h1,h2⟩
theorem i3_1{α β γ:Sort _}{p:α→β→γ→Prop}(a:α)(b:β)(c:γ)(h0:p a b c):∃a b c,p a b c:=⟨a,b,c,h0⟩
theorem i2_2{α β:Sort _}{p q:α→β→Prop}(a:α)(b:β)(h0:p a b)(h1:q a b):∃a b,p a b∧q a b:=⟨a,b,h0,h1⟩
theorem i1_3{α:Sort _}{p q r:α→Prop}(a:α)(h0:p a)(h1:q a)(h2:r a):∃a,p a∧q a∧r a:=⟨a,h0,h1,h2⟩
theorem i0_4{p q r s:Prop}(h0:p)(h1:q)(h2:r)(h3:s):p∧q∧r∧s:=⟨h0,h1,h2,h3⟩
theorem i4_1{α β γ δ:Sort _}{p:α→β→γ→δ→Prop}(a:α)(b:β)(c:γ)(d:δ)(h0:p a b c d):∃a b c d,p a b c d:=⟨a,b,c,d,h0⟩
theorem i3_2{α β γ:Sort _}{p q:α→β→γ→Prop}(a:α)(b:β)(c:γ)(h0:p a b c)(h1:q a b c):∃a b c,p a b c∧q a b c:=⟨a,b,c,h0,h1⟩
theorem i2_3{α β:Sort _}{p q r:α→β→Prop}(a:α)(b:β)(h0:p a b)(h1:q a b)(h2:r a b):∃a b,p a b∧q a b∧r a b:=⟨a,b,h0,h1,h2⟩
theorem i1_4{α:Sort _}{p q r s:α→Prop}(a:α)(h0:p a)(h1:q a)(h2:r a)(h3:s a):∃a,p a∧q a∧r a∧s a:=⟨a,h0,h1,h2,h3⟩
theorem i0_5{p q r s t:Prop}(h0:p)(h1:q)(h2:r)(h3:s)(h4:t):p∧q∧r∧s∧t:=⟨h0,h1,h2,h3,h4⟩
end Zz
local macro_rules
 |`(tactic|let $d:letDecl)=>do
  let D:=d.raw[0];let p:=D[0];let q:=p[1].getSepArgs
  if p.getKind !=``Lean.Parser.Term.anonymousCtor||q.size<2 then Lean.Macro.throwUnsupported
  let mut e:Lean.TSyntax `term:=⟨D[4]⟩
  if D[2].getNumArgs !=0 then e:=←`(($e : $(⟨D[2][0][1]⟩)))
  let T:=Array (Lean.TSyntax `tactic)
  let mut U:T:=#[]
  let mut cl:T:=#[]
  if e.raw.isIdent then cl:=#[←`(tactic|try clear $(⟨e.raw⟩))]
  let K:=Nat.min q.size 5
  for k in [0:K-1] do
   let N:=K-k
   let mut z:=cl
   for i in [0:N] do
    let c:=q[i]!
    if c.isIdent&&c.getId !=`rfl&&(i+1<N||N==q.size) then z:=z.push (←`(tactic|intro $(⟨c⟩):ident))
    else
     let y:=Lean.mkIdent (←Lean.Macro.addMacroScope (.mkSimple s!"x{i}"))
     z:=z.push (←`(tactic|intro $y:ident))
     if i+1==N&&N<q.size then
      let r:Lean.TSyntaxArray `term:=(q.extract i q.size).map (⟨·⟩)
      z:=z.push (←`(tactic|let ⟨$r,*⟩:=$y))
     else if c.getKind==``Lean.Parser.Term.anonymousCtor then z:=z.push (←`(tactic|let $(⟨c⟩):term:=$y))
     else if c.isIdent then z:=z.push (←`(tactic|rcases $y:ident with $(⟨c⟩):ident))
   for i in [0:N] do
    let s:=#[←`(tactic|refine $(Lean.mkIdent (.mkStr2 "Zz" s!"e{N-1-i}_{i+1}")) $e ?_)]++z
    U:=U.push (←`(tactic|($[$s:tactic];*)))
  let rec cv:Nat->Lean.Syntax->Lean.MacroM (Lean.TSyntax `rcasesPat)
   |0,_=>Lean.Macro.throwUnsupported
   |n+1,c=>do
    if c.isIdent then `(rcasesPat|$(⟨c⟩):ident)
    else if c.getKind==``Lean.Parser.Term.anonymousCtor then
     let a:=←c[1].getSepArgs.mapM (cv n)
     `(rcasesPat|⟨$[$a],*⟩)
    else `(rcasesPat|_)
  let m←cv 9 p
  `(tactic|first $[|$U:tactic]*|rcases $e:term with $m:rcasesPat)
 |`(tactic|intro $a*)=>do
  let C:=λx:Lean.Syntax=>x.getKind==``Lean.Parser.Term.anonymousCtor||x.getId==`rfl
  if !a.any (C ·.raw) then Lean.Macro.throwUnsupported
  let mut z:Array (Lean.TSyntax `tactic):=#[]
  for x in a do
   if C x then
    let y:=Lean.mkIdent (←Lean.Macro.addMacroScope `y)
    z:=z.push (←`(tactic|intro $y:ident))
    z:=z.push (←if x.raw.isIdent then `(tactic|rcases $y:ident with $(⟨x⟩):ident) else `(tactic|let $x:term:=$y))
   else z:=z.push (←`(tactic|intro $x:term))
  `(tactic|($[$z:tactic];*))
 |`(tactic|exact ⟨$a,*⟩)=>do
  let q:=a.getElems;let n:=q.size
  if n<3||5<n then Lean.Macro.throwUnsupported
  let mut U:Array (Lean.TSyntax `tactic):=#[]
  for i in [0:n] do U:=U.push (←`(tactic|exact $(Lean.mkIdent (.mkStr2 "Zz" s!"i{n-1-i}_{i+1}")) $q*))
  `(tactic|first $[|$U:tactic]*|exact (⟨$a,*⟩))
 |`(tactic|refine ⟨$a,*⟩)=>do
  let q:=a.getElems;let n:=q.size
  if n<3||5<n then Lean.Macro.throwUnsupported
  let mut U:Array (Lean.TSyntax `tactic):=#[]
  for i in [0:n] do U:=U.push (←`(tactic|refine $(Lean.mkIdent (.mkStr2 "Zz" s!"i{n-1-i}_{i+1}")) $q*))
  `(tactic|first $[|$U:tactic]*|refine (⟨$a,*⟩))
local macro_rules |`(tactic|ext a)=>`(tactic|walk_at"a")|`(tactic|ext b)=>`(tactic|walk_at"b")|`(tactic|ext c)=>`(tactic|walk_at"c")|`(tactic|ext d)=>`(tactic|walk_at"d")|`(tactic|ext dk)=>`(tactic|walk_at"dk")|`(tactic|ext dm)=>`(tactic|walk_at"dm")|`(tactic|ext e)=>`(tactic|walk_at"e")|`(tactic|ext f)=>`(tactic|walk_at"f")|`(tactic|ext n)=>`(tactic|walk_at"n")|`(tactic|ext s)=>`(tactic|walk_at"s")|`(tactic|ext sc)=>`(tactic|walk_at"sc")|`(tactic|ext x)=>`(tactic|walk_at"x")
open PySem renaming PyData->aD,wpAny_bind->gT,Value->Ad,Shared->GT,wpAny_pure->LD,starEach->aab,sizeLine->aak,sizeLine_eq->aas,mainGlobals->aaw,Program->aax,wpAny_setField_rec->aaI,foldedSetIterable->aaT,bootBuiltins->aaU,wpAny_callSpecial?_slot->aaY,Heap->aaZ,compareOp->aa0,Around->aa8,wpAny_call_entry->aba,wpAny_isOneOf_itemiter->abc,wpAny_field->abd,wpAny_newObj_type->abf,backTo->abn,attributeBase->abw,swapsWith->abE,sysModules->abG,wpAny_rule->abH,Paired->abL,assignEach->abV,keywordEach->abX,FuncData->ab0,wpAny_mono->ab9,DictEntry->aca,wpAny_holding->acf,binaryOp->ach,mem_of_lookup->aco,wpAny_attempt->acx,pyNext->acA,wpAny_Call_Name_kw->acD,wpAny_seqItems->acG,wpAny_passesOwn->acJ,standAt->acL,behindInMarks->acO,backToKw->acW,setField->acX,wpAny_isInstance->acY,wpAny_typeOf->ac3,Keyword->ac4,IsItemIter->ac9,codeAny_builtin->add,wpAny_standAt->ade,wpAny_truthy_bool->adm,Builtin->adn,wpAny_dictEntries->adr,rawInt->adv,swapsWithSole->adM,swappedStores->adN,bindArgs->adO,wpAny_comprehension_free->adR,ReadsAll->adT,holding->adX,letOwnedTupleGo->adY,codeAny->adZ,wpAny_dictEpoch->ad0,call_meets->ad3,tupleKind_room_in1->ad4,sliceBounds->ad9,codeAny_mono->aee,getMethod->aeu,wpAny_forIn_list->aex,getItem->aeA,NameKind->aeE,wpAny_updateSeq_pair->aeF,wpAny_execs_nil->aeI,IsPair->aeM,wpAny_specialOf->aeO,wpAny_loadPart'->aeQ,valueAt->aeW,Operator->ae3,wpAny_newTuple->afb,isSubtype_stop->afc,wpAny_fieldsOf->afe,wpAny_binaryOp_repeat_ref->afm,wpAny_sequenceKey->afq,slot_list_getitem->afr,wpAny_letGo->aft,assign->afx,wpAny_getItem_list_slice->afz,wpAny_onRaise->afB,wpAny_newList->afE,IsItemIterOut->afF,PassesOwn->afL,noFill_tuple_add->afM,Within->afY,pyIter->afZ,concat_meets->af2,IsPart->af3,typeIs_int->af5,wpAny_Call_method_late->af6,wpAny_Assign_Subscript->af7,wpAny_updateSeq->agk,exec_Assign_Name_used->ago,wpAny_notOrdered_dict->agr,callWith->agv,subscripted->agw,compEnvC->agy,tupleKind->agE,callerA->agF,relabel->agG,seq_tuple_add->agR,plainId_quiet->agW,IntMulOk->ag8,BindsTo->aha,newList->ahd,call_meetsIn->ahh,slicePick->ahn,seqSlot_of->ahs,specialOf->aht,call->ahI
open List renaming length_map->iO,getElem?_eq_getElem->lD,getElem?_eq_some_iff->AD,mem_of_getElem?->Ld,getD_eq_getElem?_getD->aac,mem_singleton->aaf,mem_cons->aag,getElem?_map->aah,mem_cons_of_mem->aai,replicate->aaj,length_append->aam,mem_cons_self->aan,map_cons->aaq,mem_map->aar,length_cons->aau,range->aav,getElem?_append_left->aaC,take_length->aaE,size_toArray->aaG,map_append->aaJ,length_take->aaM,getElem?_set_ne->aaO,getElem?_append_right->aaP,mem_append_right->aaQ,mem_append->aaR,getElem?_take->aaS,getElem?_set_self->aaV,append_assoc->aaW,take_add_one->aaX,length_range->aa2,append_nil->aa4,length_set->aa5,lookup_cons->aa6,nodup_cons->abb,not_mem_nil->abe,nil_append->abg,eq_nil_of_length_eq_zero->abi,all_eq_true->abA,Nodup->abC,map_map->abD,nodup_nil->abO,mem_append_left->abW,mem_iff_getElem->abY,all_cons->abZ,ext_getElem?->ab2,getElem?_range->ab5,range_succ->ab6,mem_flatMap->acb,mem_of_mem_take->ack,replicate_succ->acq,take_of_length_le->acu,filter_cons->acz,pairwise_cons->acF,pairwise_iff_getElem->acI,nodup_append->acN,map_congr_left->acT,getElem_mem->acZ,pairwise_singleton->ac1,getElem?_eq_none->adj,take_append_drop->adk,reverse_cons->adq,getElem?_of_mem->adx,cons_append->adA,map_nil->adB,all_map->adC,any_eq_true->adD,mem_or_eq_of_mem_set->adF,drop_eq_getElem_cons->adG,filterMap_cons->adH,flatMap_append->adI,getElem_set_ne->adJ,eq_of_mem_replicate->adV,mem_filter->adW,map_replicate->ad5,length->ad6,getElem?_replicate->ad7,set_eq_take_append_cons_drop->aec,length_replicate->aeq,length_filter_le->aet,length_drop->aew,lookup->aeD,foldl_cons->aeJ,length_nil->aeP,map_eq_nil_iff->aeT,mem_range->ae1,count_set->afg,filter_append->afk,reverse_perm->afw,any_cons->afC,sum_cons->afI,of_mem_zip->agg,forIn_cons->agi,getElem_set_self->agp,length_singleton->agt,contains_iff_mem->agu,getElem?_mapIdx->agA,take->agH,length_reverse->agK,reverse_append->agN,filterMap_map->agZ,set_cons_zero->ag3,set_cons_succ->ag4,mem_replicate->ag6,flatten_cons->ahb,foldl_append->ahk,ext_getElem->ahp,zipIdx_cons->ahr,map_id->ahz,range'->ahA,foldl->ahH
open PySem.Heap renaming get?_push_of_some->Io,get?_push_size->aal,lt_size->aao,SameBut->abl,size_push->abt,get?_update_other->ac5,get?_update_self->adh,size_update->aey,ExtBut->afs,get?_push_cases->agz
open Nat renaming le_refl->aaa,lt_of_lt_of_le->aat,le_trans->aaA,ne_of_lt->aa1,ne_of_gt->abp,lt_succ_self->abz,zero_le->abB,le_of_lt->abR,le_add_right->acd,lt_irrefl->acw,mul_le_mul->acH,zero_add->acM,add_assoc->adf,mul_le_mul_right->adw,min_le_right->ady,mul_comm->adz,zero_ne_add_one->adL,lt_trans->aej,lt_succ_of_lt->ael,lt_of_succ_lt->aeo,le_of_ble_eq_true->aer,le_max_left->aeL,succ_mul->aeX,le_succ->afp,gcd_pos_of_pos_right->afH,le_of_eq->af0,lt_or_ge->agb,add_left_cancel->agP,min_self->ahf,add_zero->ahi,mod_lt->ahK
open PySem.PyData renaming eqv->aad,depthAll->aaB,hasDict_of_canLay->aa7,int->abj,hasDictAll_of_canLayAll->abu,canLayAll0->abx,tuple->abT,hasDict->aci,hasDictAll->adp,list->aea,canLay0->ae8
open PySem.W renaming Frag->aae,nsIn->aaN,mg_none_of->aa3,fnOf->abm,findIn->abr,emptyDict->abK,keepIn->abM,instObj->acm,plainGet->acV,kia_one->adb,hasDictIn->ado,codeIn->adt,plainOver->aed,plainGet_of->aeS,isFn->aeU,lookIn->ae5,callWith_K->ae6,cellsFrom_some->af1,takerIn->age,makesIn->agf,OpenLaw->agh,methodCall_KW->agn,mg_of->agU,handedIn->ahl,WalkO->ahL
open Bool renaming false_ne_true->aap,and_eq_true->aaH,eq_iff_iff->abq,or_eq_false_iff->acj,and_true->acy,false_eq_true->ac6,beq_eq_decide_eq->adg,not_eq_true->afN,or_true->agd,or_eq_true->agj
open Option.some renaming inj->aay,injEq->ahe
open PySem.PassesOwn renaming never->aaz
open PyProof.Rows renaming wpS_bind->aaF,pendingOf->aaK,wpS_pure->aaL,slot_tuple_getitem->abo,SortSt->abv,wpS_forRange->aby,wpS_mono->ab4,callWith_type1->acs,seqObj->ac0,envOfC->aef,callWith_builtin1->aev,wpS_modify->aez,IntsAre->aeV,wpS_get->aeZ,assignInOrder_cons->ae4,failedOf->afi,AllBare->afo,listUpdate_at->afD,SortKind->afT,wpS_lift->afU,subscriptTail_builtinR->af4,sortedHeap->agc,gallopOf->agB,tupleItemsOf_->agS,subscriptTail->agT,Subscript_->ag0,listItems_at->ahg
open PySem.F renaming slot_dict_itemiterator_next->aa9,args_dict_itemiterator_next_1->ab7,entry_dict_itemiterator_next->ace,slot_tuple_index->acg,type_tuple_index->acP,slot_list_append->acQ,type_list_append->acR,slot_enumerate_next->adi,plain_extend_loop->adK,args_tuple_add_2->adP,entry_tuple_add->ad8,slot_list_index->aeb,slot_tuple_add->aeg,slot_tuple_mul->aem,slot_dict_get->aes,slot_zip_next->aeN,slot_dict_items_iter->aeR,slot_tuple_iterator_next->afa,slot_dict_getitem->afn,slot_tuple_hash->afv,slot_list_extend->afJ,type_list_extend->afK,args_enumerate_next_1->afO,slot_tuple_rmul->afP,args_dict_get_3->afQ,plainAttrs_dict->afR,slot_dict_items->afS,type_list_index->afV,entry_enumerate_next->af8,entry_dict_get->af9,slot_int_rmul->agq,entry_extend_loop->agM
open Int renaming toNat_natCast->abh,eq_ofNat_of_zero_le->acl,emod_lt_of_pos->ada,natCast_mul->adc,natCast_add->ad1,emod_nonneg->ad2,le_trans->aep,ediv_nonneg->agm,le_refl->agC,toNat->agI
open PySem.Value renaming ref->abk,type->ac2,none->afX,int->agD,bool->ahF,str->ahN
open Ne renaming symm->abF
open PySem.Builtin.Tuple renaming tupleHashOf->abI,tupleExact->abN,tupleItemsOf->adu,tupleIsExact->ae9,tupleTooMany->afd
open PySem.Builtin.SmallTypes renaming nextOf->abJ,ownedTupleIsFree->abP,ownedTupleHandOut->acr
open PySem.Builtin.Dict_items renaming ownedTupleIsFree->abQ,ownsTuple->abU,pairFromOwner->ab3,isOneOf->aff
open PySem.Str renaming ofString->ab1,empty->ae0
open Array renaming getElem?_eq_getElem->ab8,length_toList->acp,toList_append->acU,getElem?_toList->adl,toList_push->aen,mem_toList_iff->aeC,toList_extract->aeH,toList_setIfInBounds->afj,getElem?_eq_none->aga,mem_of_getElem?->ags,forIn_toList->ag5,toList->ag7,toList_zip->ahv,toList_inj->ahw,toList_map->ahx,size_push->ahB
open False renaming elim->acn
open PySem.SeqAt renaming shaped->act,canLay_of_shaped->ac7,readOf->ac8,EqAt->afW,readsAll_map->ag1,items_eqAt->ahq,eqAt_reads->ahu
open PySem.Builtin.List renaming listLengthHint->acv,listTooLong->adQ,listSameRef->adU,listExtendWith->aeY
open True renaming intro->acB
open PySem.Obj renaming mapSeq->acE,data_mapFields->ag2
open Option renaming map_some->acK,map_eq_some_iff->aek,isSome_map->afu,isSome_iff_exists->afy,getD_none->ahm
open PySem.Builtin.Slice renaming slicePlaces->adE,sliceAdjust->afl
open PySem.Calls renaming callWith_builtin->aeh,Name_function_global->ae2,evalArgs_plain->agx,spliced_cons->agY,spliced_nil->ag9
open Or renaming inr->aei,inl->afA
open PySem.NameKind renaming free->aeB,cell->ahM
open PySem.Around renaming under_plainId->aeG
open ForInStep renaming yield->aeK
open Prod renaming ext->ae7,ext_iff->ahj
open PyProof.Rows.SortSt renaming mk'->afh
open PySem.Shared renaming TypeIs->afG,heap->ahy
open PySem.Heap.SameBut renaming update->agJ
open PySem.Paired renaming length->agQ
open List.cons renaming inj->agX
open List.Pairwise renaming nil->ahc
open And renaming intro->aho
open Sum renaming inl->ahC,inr->ahD
namespace L2
open PySem PySem.Spec PyProof.Rows
variable{us:List Ad}{H:Hp}{C a b:Addr}{o:HO}{h:aaZ}{w:World}{g':Array GenState}{i j t':Nat}{ch fp:List Addr}{N ps:List Str}{x:Str}{M:Model}{A:aa8}{E Q:Ad->GT->Prop}{v:V}{u:Ad}{X:Cx}{c e tg:Expr}{pos:Pos}{pins:List 'i'}{σ:St}{K:aae}{es:List Expr}{te:TE}{op:CmpOp}{body:List Stmt}{f:Ad->Ad->Sem Ad}{r:R2}{g:Int->Int->Int}{mA mg:Str->Option Ad}{pl:Sem Bool}{kw:List (Str×Ad)}{outer:List Env}{vs:List V}{scope:Scope}
abbrev Key:=Sum Int Str
def yW:Key->Ad->Bool
 | .inl k,v=>Value.isInt k v
 | .inr x,v=>Value.isStrOf x v
def keyH(w:World):Key->Int
 | .inl k=>hashInt k
 | .inr x=>hashStr w x
theorem b8:∀{k:Key}{v:Ad},yW k v=true->(∃i t,k=ahC i/\v=agD i t)\/(∃x t,k=ahD x/\v=ahN x t)
 | .inl i,v,h=>by
  let⟨t,e⟩:=Ad.isInt_shape h;exact .inl ⟨i,t,rfl,e⟩
 | .inr x,v,h=>by
  let⟨t,e⟩:=Ad.isStrOf_shape h;exact .inr ⟨x,t,rfl,e⟩
def D3(i:Int)(t:Tok):yW (.inl i) (.int i t)=true:=by simp[yW,Value.isInt]
def Bm(x:Str)(t:Tok):yW (.inr x) (.str x t)=true:=by simp[yW,Value.isStrOf]
theorem WX(a b:Int):decide ((ahC a:Key)=ahC b)=(a==b):=by
 by_cases e:a=b
 .subst e;simp
 .simp_all
def RM(a b:Str):decide ((ahD a:Key)=ahD b)=decide (a=b):=by simp
def VI(a:Int)(b:Str):decide ((ahC a:Key)=ahD b)=false:=rfl
def RQ(a:Str)(b:Int):decide ((ahD a:Key)=ahC b)=false:=rfl
def cn(prog:aax)(w:World):PySem.KeyKind prog w Key where
 is:=yW
 hash:=keyH w
 inj:=λv a b n l=>by
  rcases b8 n with⟨i,t,rfl,rfl⟩|⟨x,t,rfl,rfl⟩
  .rcases b8 l with⟨j,u,rfl,e⟩|⟨y,u,rfl,e⟩
   .injection e with e1 _;rw[e1]
   .exact nomatch e
  .rcases b8 l with⟨j,u,rfl,e⟩|⟨y,u,rfl,e⟩
   .exact nomatch e
   .injection e with e1 _;rw[e1]
 byValue:=λk v h=>by
  rcases b8 h with⟨i,t,rfl,rfl⟩|⟨x,t,rfl,rfl⟩<;>rfl
 pyHash:=λd h=>by
  rcases b8 d with⟨i,t,rfl,rfl⟩|⟨x,t,rfl,rfl⟩
  .exact wpAny_pyHash_int h
  .exact wpAny_pyHash_str h
 eqBool:=λm d h=>by
  rcases b8 m with⟨i,t,rfl,rfl⟩|⟨x,t,rfl,rfl⟩
  .rcases b8 d with⟨j,u,rfl,rfl⟩|⟨y,u,rfl,rfl⟩
   .rw[WX]at h;exact wpAny_eqBool_int h
   .rw[VI]at h;exact afW.int_str i t y u _ _ _ _ h
  .rcases b8 d with⟨j,u,rfl,rfl⟩|⟨y,u,rfl,rfl⟩
   .rw[RQ]at h;exact afW.str_int x t j u _ _ _ _ h
   .rw[RM]at h;exact wpAny_eqBool_str h
 «strs»:=λk x t v h=>by
  rcases b8 h with⟨i,u,rfl,e⟩|⟨y,u,rfl,e⟩
  .exact nomatch e
  .injection e with e1 _
   subst e1
   cases v<;>rfl
def vh(prog:aax)(w:World)(i:Int)(t:Tok):(cn prog w).is (.inl i) (.int i t)=true:=D3 i t
def vc(prog:aax)(w:World)(x:Str)(t:Tok):(cn prog w).is (.inr x) (.str x t)=true:=Bm x t
inductive V where
 |non|bl (b:Bool)|int (i:Int)|str (x:Str)|byt (b:Array UInt8)|flt (b:UInt64)|ref (a:Addr)|ty (n:String)
 deriving DecidableEq
def RelV:V->Ad->Prop
 | .non,u=>u=afX
 | .bl b,u=>u=ahF b
 | .int i,u=>∃t,u=agD i t
 | .str x,u=>∃t,u=ahN x t
 | .byt b,u=>∃t,u=Ad.bytes b t
 | .flt b,u=>∃t,u=Ad.float b t
 | .ref a,u=>u=abk a
 | .ty n,u=>u=ac2 n
abbrev Vals:List V->List Ad->Prop:=abL RelV
def Vals.length{xs:List V}(r:Vals xs us):xs.length=us.length:=agQ r
theorem Vals.get:∀{xs:List V}{us:List Ad}{i:Nat}{x:V},Vals xs us->xs[i]?=some x->∃u,us[i]?=some u/\RelV x u
 |_,_,_,_,.nil,e=>by simp at e
 |_,_,0,_,.cons r _,e=>by simp at e;subst e;exact⟨_,rfl,r⟩
 |_,_,i+1,x,.cons _ t,e=>by
  let⟨u,d,k⟩:=Vals.get t ‹_›;exact⟨u,by simpa using d,k⟩
theorem Vals.append:∀{xs ys:List V}{us d:List Ad},Vals xs us->Vals ys d->Vals (xs++ys) (us++d)
 |_,_,_,_,.nil,s=>s
 |_,_,_,_,.cons r t,s=>.cons r (Vals.append t s)
theorem Vals.take:∀{xs:List V}{us:List Ad} (n:Nat),Vals xs us->Vals (xs.take n) (us.take n)
 |_,_,0,_=>.nil
 |_,_,_+1,.nil=>.nil
 |_,_,n+1,.cons r t=>.cons r (Vals.take n t)
theorem Vals.drop:∀{xs:List V}{us:List Ad} (n:Nat),Vals xs us->Vals (xs.drop n) (us.drop n)
 |_,_,0,r=>r
 |_,_,_+1,.nil=>.nil
 |_,_,n+1,.cons _ t=>Vals.drop n t
theorem Vals.none_of:∀{xs:List V}{us:List Ad}{i:Nat},Vals xs us->xs[i]?=none->us[i]?=none:=λ{xs us i} r e=>by
 have d:=r.length
 simp_all
def RelO:Option V->Option Ad->Prop
 |some v,some u=>RelV v u
 |none,none=>True
 |_,_=>False
def KV{d:Type}:List (d×V)->List (d×Ad)->Prop:=abL λ(p:d×V) (q:d×Ad)=>p.1=q.1/\RelV p.2 q.2
def kV:Key->V
 | .inl i=>.int i
 | .inr x=>.str x
inductive HO where
 |lst (xs:List V)
 |tup (xs:List V)
 |dK (kvs:List (Key×V))|dT (kvs:List (List Key×V))
 |set (S:Int->Bool) (n:Nat)
 |ins (C dx:Addr) (fs:List (Str×V))
 |own (x:Addr)
 |xd (fs:List (Str×V))
 |met (f x:Addr)
 |rng (lo hi:Int)
 |frz (o:Obj) (u:HO)
 |tbl (ps:Array Ad)
 |ext (φ:aaZ->Prop)
abbrev Hp:=Addr->Option HO
def upd(H:Hp)(a:Addr)(o:HO):Hp:=λb=>if b=a then some o else H b
def aA:upd H a o a=some o:=by unfold upd;rw[if_pos rfl]
def av(h:b≠a):upd H a o b=H b:=by unfold upd;rw[if_neg h]
theorem wd{u:HO}(h:H a=some o)(h':H b=some u)(d:o≠u):a≠b:=by
 intro e;subst e;rw[h]at h';exact d (aay h')
theorem br(h:H a=some o)(h':H b=none):a≠b:=by grind
def PlainT(h:aaZ)(a:Addr)(items:Array Ad):Prop:=∃o,h.get? a=some o/\o.cls = .type "tuple"/\o.dict=none/\∃n,o.data = .seq items n
theorem PlainT.tup{items:Array Ad}(x:PlainT h a items):IsTup h a items:=let ⟨o,e,c,_,d⟩:=x;⟨o,e,c,d⟩
def PlainT.new(h:aaZ)(items:Array Ad):PlainT (h.push {cls:=.type "tuple",data:=.seq items}) h.objs.size items:=⟨_,aal _ rfl,rfl,rfl,_,rfl⟩
section
variable (P:aax) (w:World)
def ObjOk(H:Hp)(h:aaZ)(a:Addr):HO->Prop
 | .lst l=>l.length≤aak/\∃(d:List Ad) (n:Nat),Vals l d/\h.get? a=some {cls:=.type "list",data:=.seq d.toArray n}
 | .tup l=>l.length≤aak/\∃d:List Ad,Vals l d/\PlainT h a d.toArray
 | .dK k=>k.length≤aak/\(a==abG)=false/\∃vs,KV k vs/\h.DictOf (cn P w) a vs
 | .dT k=>k.length≤aak/\(a==abG)=false/\∃l:List (List Key×Addr×Ad),
   abL (λ(p:List Key×V) (q:List Key×Addr×Ad)=>p.1=q.1/\H q.2.1=some (.tup (p.1.map kV))/\RelV p.2 q.2.2) k l/\
   ∃o es B,h.get? a=some o/\o.ExactDict/\o.data = .dict es B/\es.toList=l.map (entryOfKey (agE (cn P w)))/\(l.map (·.1)).Nodup
 | .set S n=>h.SetOf (intKind P w) a S n
 | .ins C dx fs=>H dx=some (.own a)/\fs.length≤1000/\dx≠a/\h.get? a=some (acm C dx)/\
   ∃mA,h.Ns1 dx mA/\(∀f,RelO (fs.lookup f) (mA f))/\afY mA (fs.map (·.1))
 | .own _=>∃o,h.get? a=some o
 | .xd fs=>∃mA,h.Ns1 a mA/\∀f,RelO (fs.lookup f) (mA f)
 | .rng z D=>∃t u v,h.get? a=some {cls:=.type "range",data:=.fields #[.int z t,.int D u,.int 1 v]}
 | .frz o u=>h.get? a=some o/\ObjOk H h a u
 | .tbl ps=>h.get? a=some {cls:=.none,data:=.fields ps}
 | .met f x=>h.get? a=some (PySem.W.methodObj (.ref f) (.ref x))
 | .ext m=>m h/\(∃o,h.get? a=some o)/\∀s y:aaZ,m s->(∀o,s.get? a=some o->y.get? a=some o)->m y
def HOk(H:Hp)(h:aaZ):Prop:=∀a o,H a=some o->ObjOk P w H h a o
end
section
variable {P:aax}{w:World}{H g:Hp}{h h':aaZ}{a:Addr}{o:HO}
theorem ObjOk.lt(x:ObjOk P w H h a o):a<h.objs.size:=by
 cases o with
 |lst d=>let⟨_,_,_,_,e⟩:=x;exact aao e
 |tup d=>let⟨_,_,_,p⟩:=x;exact p.tup.lt
 |dK k=>let⟨_,_,_,_,o,_,_,e,_⟩:=x;exact aao e
 |dT k=>let⟨_,_,_,_,o,_,_,e,_⟩:=x;exact aao e
 |set S n=>let⟨o,_,_,_,e,_⟩:=x;exact aao e
 |ins C dx fs=>let⟨_,_,_,e,_⟩:=x;exact aao e
 |own y=>let⟨_,e⟩:=x;exact aao e
 |xd fs=>let⟨_,⟨_,_,_,e,_⟩,_⟩:=x;exact aao e
 |rng l m=>let⟨_,_,_,e⟩:=x;exact aao e
 |frz s u=>let⟨e,_⟩:=x;exact aao e
 |tbl ps=>exact aao (x)
 |met f y=>exact aao (x)
 |ext q=>let⟨_,⟨_,e⟩,_⟩:=x;exact aao e
theorem Paired.mapP{k β:Type}{F G:k->β->Prop}:∀{d:List k}{l:List β},abL F d l->(∀a b,F a b->G a b)->abL G d l
 |_,_,.nil,_=>.nil
 |_,_,.cons r t,f=>.cons (f _ _ r) (Paired.mapP t f)
theorem ObjOk.stay(x:ObjOk P w H h a o)(k:∀b u,(b=a\/H b=some (.own a))->h.get? b=some u->h'.get? b=some u)
  (L:∀b,H b=some (.own a)->g b=some (.own a)) (J:∀b xs,H b=some (.tup xs)->g b=some (.tup xs)):ObjOk P w g h' a o:=by
 induction o with
 |lst xs=>let⟨z,s,n,r,e⟩:=x;exact⟨z,s,n,r,k _ _ (.inl rfl) e⟩
 |tup xs=>let⟨z,s,r,l,e,c⟩:=x;exact⟨z,s,r,l,k _ _ (.inl rfl) e,c⟩
 |dK D=>let⟨z,y,vs,r,l,es,m,e,c⟩:=x;exact⟨z,y,vs,r,l,es,m,k _ _ (.inl rfl) e,c⟩
 |dT D=>
  let⟨z,y,xs,r,l,es,m,e,c⟩:=x;exact⟨z,y,xs,Paired.mapP r λp q z=>⟨z.1,J _ _ z.2.1,z.2.2⟩,l,es,m,k _ _ (.inl rfl) e,c⟩
 |set S n=>let⟨l,es,m,t,e,c⟩:=x;exact⟨l,es,m,t,k _ _ (.inl rfl) e,c⟩
 |ins C dx fs=>
  let⟨d,z,ne,e,mA,⟨B,es,m,G,c⟩,r⟩:=x;exact⟨L _ d,z,ne,k _ _ (.inl rfl) e,mA,⟨B,es,m,k _ _ (.inr d) G,c⟩,r⟩
 |own y=>let⟨l,e⟩:=x;exact⟨l,k _ _ (.inl rfl) e⟩
 |xd fs=>let⟨mA,⟨B,es,m,e,c⟩,r⟩:=x;exact⟨mA,⟨B,es,m,k _ _ (.inl rfl) e,c⟩,r⟩
 |rng O T=>let⟨t,u,v,e⟩:=x;exact⟨t,u,v,k _ _ (.inl rfl) e⟩
 |frz l u I=>let⟨e,q⟩:=x;exact⟨k _ _ (.inl rfl) e,I q⟩
 |tbl ps=>
  have e:h.get? a=some {cls:=.none,data:=.fields ps}:=x;exact k a _ (.inl rfl) e
 |met f y=>
  have e:=x;exact k a _ (.inl rfl) e
 |ext R=>let⟨p,⟨o,e⟩,F⟩:=x;exact⟨F _ _ p λo q=>k _ _ (.inl rfl) q,⟨o,k _ _ (.inl rfl) e⟩,F⟩
def HOk.lt(x:HOk P w H h)(e:H a=some o):a<h.objs.size:=(x a o e).lt
theorem HOk.fresh(x:HOk P w H h)(e:h.objs.size≤a):H a=none:=by
 cases q:H a with
 |none=>rfl
 |some u=>exact absurd (aat (x.lt q) e) (acw _)
theorem HOk.kept(x:HOk P w H h)(k:∀b u,h.get? b=some u->h'.get? b=some u):HOk P w H h':=λa o e=>
 (x a o e).stay (λb u _ q=>k b u q) (λ_ q=>q) λ_ _ q=>q
theorem HOk.laid(x:HOk P w H h)(k:∀b u,h.get? b=some u->h'.get? b=some u)(m:h.objs.size≤a)(new:ObjOk P w (upd H a o) h' a o):HOk P w (upd H a o) h':=λb u e=>by
 have d:=x.fresh m
 by_cases l:b=a
 .subst l;rw[aA]at e;grind
 .rw[av l]at e;exact(x b u e).stay (λc v _ q=>k c v q) (λc q=>by rw[av (br q d)];exact q) λc n q=>by rw[av (br q d)];exact q
end
def Rd(H:Hp)(a:Addr)(u:HO):Prop:=H a=some u\/∃o,H a=some (.frz o u)
theorem Rd.ok{P:aax}{u:HO}(r:Rd H a u)(x:HOk P w H h):ObjOk P w H h a u:=by
 rcases r with r|⟨o,r⟩
 .exact x a u r
 .obtain⟨_,q⟩:=x a _ r;exact q
def Mut:Option HO->Prop
 |some (.lst _)=>True
 |some (.dK _)=>True
 |some (.dT _)=>True
 |some (.set _ _)=>True
 |some (.ins _ _ _)=>True
 |some (.ext _)=>True
 |_=>False
section
variable {P:aax}{w:World}{H:Hp}{h h':aaZ}{x e:Addr}{o:HO}
theorem HOk.write(ok:HOk P w H h)(mu:Mut (H x))(B:e=x\/H e=some (.own x))(k:∀b u,b≠e->h.get? b=some u->h'.get? b=some u)(p:∃u,h'.get? e=some u)
  (new:ObjOk P w (upd H x o) h' x o):HOk P w (upd H x o) h':=λb u q=>by
 have l:∀c y,H c=some (.own y)->c≠x:=λc y r z=>by subst z;rw[r]at mu;exact mu
 have n:∀c m,H c=some (.tup m)->c≠x:=λc m r z=>by subst z;rw[r]at mu;exact mu
 by_cases s:b=x
 .subst s;rw[aA]at q;grind
 .rw[av s]at q
  by_cases d:b=e
  .have q':H b=some (.own x):=by
    rcases B with z|z
    .exact absurd (d.trans z) s
    .rw[d];exact z
   rw[q]at q';cases q';let⟨v,t⟩:=p;exact⟨v,by rw[d];exact t⟩
  .refine(ok b u q).stay (λc v D r=>k c v ?_ r) (λc r=>by rw[av (l c b r)];exact r) λc m r=>by rw[av (n c m r)];exact r
   grind
end
structure Un(fs ex:List Addr)(H H':Hp)(h h':aaZ):Prop where
 keep:∀b o,h.get? b=some o->H b=none->b∉fs->b∉ex->h'.get? b=some o
 slot:∀b o,h.get? b=some o->H b=none->b∈fs->b∉ex->∃sl,h'.get? b=some {o with slots:=sl}
 free:∀b o,h.get? b=some o->H b=none->b∉ex->H' b=none
 there:∀b o,h.get? b=some o->b∉ex->∃o',h'.get? b=some o'
 tups:∀b xs,H b=some (.tup xs)->H' b=some (.tup xs)
 frzs:∀b o u,H b=some (.frz o u)->H' b=some (.frz o u)
 tbls:∀b ps,H b=some (.tbl ps)->∃more,H' b=some (.tbl (ps++more))
section
variable {fs f ex d:List Addr}{H g i:Hp}{h c j h':aaZ}{a x e:Addr}{o:HO}
def Un.any(u:Un fs ex H g h c){k:Obj}(q:h.get? b=some k)(n:H b=none)(l:b∉ex):∃sl,c.get? b=some {k with slots:=sl}:=by
 by_cases m:b∈fs
 .exact u.slot b k q n m l
 .exact⟨k.slots,u.keep b k q n m l⟩
theorem Un.kept(k:∀b u,h.get? b=some u->h'.get? b=some u):Un fs ex H H h h':=
 ⟨λb l q _ _ _=>k b l q,λb l q _ _ _=>⟨l.slots,k b l q⟩,λ_ _ _ n _=>n,λb l q _=>⟨l,k b l q⟩,λ_ _ q=>q,λ_ _ _ q=>q,λ_ ps q=>⟨#[],by rw[q];simp⟩⟩
def Un.refl:Un fs ex H H h h:=Un.kept λ_ _ q=>q
theorem Un.laid(k:∀b u,h.get? b=some u->h'.get? b=some u)(m:h.objs.size≤a)(l:H a=none):Un fs ex H (upd H a o) h h' where
 keep:=λb u q _ _ _=>k b u q
 slot:=λb u q _ _ _=>⟨u.slots,k b u q⟩
 free:=λb u q n _=>by rw[av (aa1 (aat (aao q) m))];exact n
 there:=λb u q _=>⟨u,k b u q⟩
 tups:=λb p q=>by rw[av (br q l)];exact q
 frzs:=λb u p q=>by rw[av (br q l)];exact q
 tbls:=λb ps q=>⟨#[],by rw[av (br q l),q];simp⟩
theorem Un.write(mu:Mut (H x))(B:e=x\/H e=some (.own x))(k:∀b u,b≠e->h.get? b=some u->h'.get? b=some u)(s:∃u,h'.get? e=some u):Un fs ex H (upd H x o) h h':=by
 have y:∀b,H b=none->b≠x:=λb n z=>by subst z;rw[n]at mu;exact mu
 have p:∀b,H b=none->b≠e:=λb n z=>by
  simp_all
 have l:∀b u,H b=some u->¬Mut (some u)->b≠x:=λb u q nm z=>by subst z;simp_all
 refine⟨λb u q n _ _=>k b u (p b n) q,λb u q n _ _=>⟨u.slots,k b u (p b n) q⟩,λb u q n _=>by rw[av (y b n)];exact n,λb u q _=>?_,
  λb t q=>by rw[av (l b _ q λz=>z)];exact q,λb u t q=>by rw[av (l b _ q λz=>z)];exact q,λb ps q=>⟨#[],by rw[av (l b _ q λz=>z),q];simp⟩⟩
 by_cases m:b=e
 .simp_all
 .exact⟨u,k b u m q⟩
end
def trk(h:aaZ)(H:Hp):List Addr:=(aav h.objs.size).filter λa=>(H a).isSome
def hidT(h:aaZ)(H:Hp):aaZ:=PySem.W.hideAll h (trk h H)
def B5(h:aaZ)(H:Hp):(hidT h H).objs.size=h.objs.size:=PySem.W.hideAll_size _ _
def GF{o:Obj}(e:h.get? b=some o)(n:H b=none):(hidT h H).get? b=some o:=
 PySem.W.hideAll_get _ e λd=>by
  have q:=(adW.mp d).2;rw[n]at q;simp at q
theorem NQ{o:Obj}(e:(hidT h H).get? b=some o):h.get? b=some o/\H b=none:=by
 have d:=PySem.W.of_hideAll _ e;refine⟨d,?_⟩
 cases q:H b with
 |none=>rfl
 |some x=>
  have k:b∈trk h H:=adW.mpr ⟨ae1.mpr (aao d),by simp[q]⟩;have z:(hidT h H).get? b=none:=PySem.W.hideAll_none _ k
  grind
structure Mod(K:aae)(mg:Str->Option Ad)(base:aaZ):Prop where
 kin:K.In base
 glob:base.Ns aaw mg
 blt:∃mb,base.Ns builtinsNs mb/\∀x:Str,x ≠ "__name__" -> mb x=aaU x
 nolimit:base.NoLimit
 sys:∃m,base.Ns abG m
inductive Ao where
 |L (a:Addr)|T (t:List 'h')
structure EB where
 np:Nat
 be:List Ao
 H:Hp
structure Cx where
 prog:aax
 w:World
 K:aae
 mg:Str->Option Ad
 base:aaZ
 A:aa8
 N:List Str
 s₀:GT
 H₀:Hp
 env:Env
 outer:List Env
 stack:List Env
 ex:List Addr
 fn:Str->Bool
 calm:Bool
 pn:List 'i'
 xe:Ad->GT->Prop
 eb:EB:=⟨0,[],λ_=>none⟩
def frs(l:List Env):List Addr:=l.filterMap (·.frame)
abbrev Cx.fs(X:Cx):List Addr:=frs X.outer
def Vis(sc:Scope)(x:Str):Prop:=sc.names.lookup x=some .local\/sc.names.lookup x=some .cell\/sc.names.lookup x=some .free
def Loc(sc:Scope)(x:Str):Prop:=sc.names.lookup x=some .local\/sc.names.lookup x=some .cell
def Look(env:Env)(h:aaZ)(m:Str->Option Ad)(x:Str)(u:Ad):Prop:=
 (env.kindOf x=some .local/\m x=some u)\/((env.kindOf x=some .cell\/env.kindOf x=some .free)/\∃c,env.cells.lookup x=some c/\h.IsCell c (some u))
structure Cx.Ok(X:Cx):Prop where
 mod:Mod X.K X.mg X.base
 kind:X.env.scope.kind = .function
 glob:X.env.globals=aaw
 blt:X.env.builtins=builtinsNs
 above:X.s₀.heap.objs.size≤X.env.locals
 inj:∀x y c,X.env.cells.lookup x=some c->X.env.cells.lookup y=some c->x=y
 has:∀x,(X.env.kindOf x=some .cell\/X.env.kindOf x=some .free)->∃c,X.env.cells.lookup x=some c
 cab:∀x c,X.fn x=true->X.env.cells.lookup x=some c->X.s₀.heap.objs.size≤c
 hd:X.calm=true->X.A.handled=none
 frames:X.A.frames=some X.stack
 stk:X.stack=X.outer\/(X.stack=X.env::X.outer/\X.env.frame=some X.env.locals)
 exf:∀b∈X.ex,b≠X.env.locals/\∀x c,X.env.cells.lookup x=some c->c≠b
 bs:∀b o,X.base.get? b=some o->X.s₀.heap.get? b=some o/\X.H₀ b=none
 bsz:X.base.objs.size≤X.s₀.heap.objs.size
 noex:∀b o,X.base.get? b=some o->b∉X.ex
 exfs:∀b∈X.ex,b∉X.fs
 funs:X.s₀.heap.FunFrames X.base X.outer
 frf:∀b∈X.fs,X.H₀ b=none
structure Inv(X:Cx)(pins:List 'i')(σ:List (Option V))(H:Hp)(s:GT):Prop where
 ok:X.Ok
 os:s.os=X.s₀.os
 bare:afo s.gens
 base:Un X.fs X.ex X.H₀ H X.s₀.heap s.heap
 loc:∃m,s.heap.Ns X.env.locals m/\∀(i:Nat) (x:Str) (v:V),X.N[i]?=some x->σ[i]?=some (some v)->Vis X.env.scope x->∃u,RelV v u/\Look X.env s.heap m x u
 cell:∀x c,X.env.cells.lookup x=some c->∃v,s.heap.IsCell c v
 free:H X.env.locals=none
 freeC:∀x c,X.env.cells.lookup x=some c->H c=none
 pin:∀p∈X.pn++pins,s.heap.get? p.1=some p.2/\H p.1=none/\p.1≠X.env.locals/\p.1∉X.fs/\∀v,p.2.data≠.cell v
 hok:HOk X.prog X.w H s.heap
 len:σ.length=X.N.length
section
variable {X:Cx}{f:List 'i'}{g:List (Option V)}{H w:Hp}{s:GT}{h':aaZ}
theorem Cx.Ok.nofr(ok:X.Ok){o:Obj}(e:X.base.get? b=some o):b∉X.fs:=λd=>by
 have:=(ok.funs.mem d).1
 grind
theorem Inv.bs(I:Inv X f g H s):∀b o,X.base.get? b=some o->s.heap.get? b=some o/\H b=none:=λb o e=>
 ⟨I.base.keep b o (I.ok.bs b o e).1 (I.ok.bs b o e).2 (I.ok.nofr e) (I.ok.noex b o e),I.base.free b o (I.ok.bs b o e).1 (I.ok.bs b o e).2 (I.ok.noex b o e)⟩
theorem Inv.bk(I:Inv X f g H s):∀b o,X.base.get? b=some o->s.heap.get? b=some o:=λb o e=>(I.bs b o e).1
def Inv.mod(I:Inv X f g H s):Mod X.K X.mg X.base:=I.ok.mod
def Inv.kIn(I:Inv X f g H s):X.K.In s.heap:=I.ok.mod.kin.keeps I.bk
def Inv.lt(I:Inv X f g H s):X.env.locals<s.heap.objs.size:=let ⟨_,hn,_⟩:=I.loc;hn.lt
def Inv.sz(I:Inv X f g H s):X.s₀.heap.objs.size≤s.heap.objs.size:=aaA I.ok.above (abR I.lt)
theorem Inv.nofs(I:Inv X f g H s)(h:s.heap.objs.size≤a):a∉X.fs:=λd=>by
 let⟨_,o,k,_⟩:=I.ok.funs.mem d;exact absurd (aat (aao k) (aaA I.sz h)) (acw _)
theorem Inv.cne(I:Inv X f g H s):∀x c,X.env.cells.lookup x=some c->c≠X.env.locals:=λx c e z=>by
 let⟨v,o,l,hd⟩:=I.cell x c e;let⟨m,⟨n,es,p,d,k,_⟩,_⟩:=I.loc
 grind
theorem Inv.funs(I:Inv X f g H s):s.heap.FunFrames X.base X.outer:=by
 have all:∀l,(∀b∈frs l,b∈X.fs)->X.s₀.heap.FunFrames X.base l->s.heap.FunFrames X.base l:=by
  intro l
  induction l with
  |nil=>intro _ _;trivial
  |cons env r B=>
   intro n t;let⟨hk,⟨L,o,m,y,q,hd⟩,p⟩:=t;have k:=n L (by unfold frs;rw[adH,m];exact aan);let⟨D,e⟩:=I.base.slot L o q (I.ok.frf L k) k λz=>I.ok.exfs L z k;exact⟨hk,⟨L,_,m,y,e,hd⟩,B (λb d=>n b (by unfold frs;rw[adH,m];exact aai _ d)) p⟩
 exact all X.outer (λ_ d=>d) I.ok.funs
theorem Inv.stack(I:Inv X f g H s):s.heap.FunFrames X.base X.stack:=by
 rcases I.ok.stk with e|⟨e,d⟩
 .rw[e];exact I.funs
 .rw[e];let⟨m,k,_⟩:=I.loc;refine .cons (by rw[I.ok.kind];decide) d k ?_ I.funs;exact aaZ.get?_none_of_le (aaA I.ok.bsz I.ok.above)
theorem Inv.stkSub(I:Inv X f g H s):∀b∈frs X.stack,b∈X.env.locals::X.fs:=λb d=>by
 rcases I.ok.stk with e|⟨e,k⟩
 .rw[e]at d;exact aai _ d
 .rw[e]at d;unfold frs at d;rw[adH,k]at d;exact d
theorem Inv.stkFree(I:Inv X f g H s):∀b∈frs X.stack,H b=none:=λb d=>by
 rcases aag.mp (I.stkSub b d)with e|d
 .rw[e];exact I.free
 .obtain⟨_,o,ho,_⟩:=I.ok.funs.mem d;exact I.base.free b o ho (I.ok.frf b d) λz=>I.ok.exfs b z d
theorem Inv.step{d':Drawn}(I:Inv X f g H s)
  (B:∀b∈ch,(b∈X.ex\/X.s₀.heap.objs.size≤b)/\b≠X.env.locals/\(∀x c,X.env.cells.lookup x=some c->c≠b)/\∀p∈X.pn++f,p.1≠b)
  (keep:∀b o,b≠X.env.locals->b∉X.fs->b∉ch->s.heap.get? b=some o->H b=none->h'.get? b=some o)
  (slot:∀b o,b≠X.env.locals->b∈X.fs->b∉ch->s.heap.get? b=some o->H b=none->∃sl,h'.get? b=some {o with slots:=sl}) (free:∀b o,b∉ch->s.heap.get? b=some o->H b=none->w b=none)
  (there:∀b o,b∉ch->s.heap.get? b=some o->∃P,h'.get? b=some P)
  (tups:∀b xs,H b=some (.tup xs)->w b=some (.tup xs)) (frzs:∀b o u,H b=some (.frz o u)->w b=some (.frz o u)) (tbls:∀b ps,H b=some (.tbl ps)->∃more,w b=some (.tbl (ps++more)))
  (ns:∀m,s.heap.Ns X.env.locals m->h'.Ns X.env.locals m) (hok:HOk X.prog X.w w h') (W:afo g') :
  Inv X f g w {s with heap:=h',gens:=g',drawn:=d',toks:=t' }:=by
 have O:∀b o,X.s₀.heap.get? b=some o->b≠X.env.locals:=λb o e=>aa1 (aat (aao e) I.ok.above);have F:∀b o,X.s₀.heap.get? b=some o->b∉X.ex->b∉ch:=λb o e t J=>by
  rcases (B b J).1 with z|z
  .exact t z
  .exact absurd (aat (aao e) z) (acw _)
 have D:∀x c,X.env.cells.lookup x=some c->∀v,s.heap.IsCell c v->h'.IsCell c v:=by
  intro x c e v ⟨o,L,hd⟩;have y:c∉ch:=λz=>(B c z).2.2.1 x c e rfl
  by_cases U:c∈X.fs
  .obtain⟨sl,q⟩:=slot c o (I.cne x c e) U y L (I.freeC x c e);exact⟨_,q,hd⟩
  .exact⟨o,keep c o (I.cne x c e) U y L (I.freeC x c e),hd⟩
 refine⟨I.ok,I.os,W,⟨λb o e n J t=>?_,λb o e n J t=>?_,λb o e n t=>?_,λb o e t=>?_,λb xs e=>tups b xs (I.base.tups b xs e),λb o xs e=>frzs b o xs (I.base.frzs b o xs e),λb ps e=>?_⟩,?_,λx c e=>?_,?_,λx c e=>?_,λp T=>?_,hok,I.len⟩
 .exact keep b o (O b o e) J (F b o e t) (I.base.keep b o e n J t) (I.base.free b o e n t)
 .obtain⟨sl,G⟩:=I.base.slot b o e n J t;let⟨S,R⟩:=slot b _ (O b o e) J (F b o e t) G (I.base.free b o e n t);exact⟨S,R⟩
 .obtain⟨P,G⟩:=I.base.there b o e t;exact free b P (F b o e t) G (I.base.free b o e n t)
 .obtain⟨P,G⟩:=I.base.there b o e t;exact there b P (F b o e t) G
 .obtain⟨m1,G⟩:=I.base.tbls b ps e;let⟨m2,R⟩:=tbls b _ G;exact⟨m1++m2,by rw[R,Array.append_assoc]⟩
 .obtain⟨m,hn,hl⟩:=I.loc;refine⟨m,ns m hn,λi x v G R V=>?_⟩;let⟨u,r,l⟩:=hl i x v G R V;refine⟨u,r,?_⟩;rcases l with l|⟨k,c,e,z⟩
  .exact .inl l
  .exact .inr ⟨k,c,e,D x c e _ z⟩
 .obtain⟨v,z⟩:=I.cell x c e;exact⟨v,D x c e v z⟩
 .obtain⟨m,⟨o,_,_,L,_⟩,_⟩:=I.loc;exact free _ o (λz=>(B _ z).2.1 rfl) L I.free
 .obtain⟨v,o,L,hd⟩:=I.cell x c e;exact free c o (λz=>(B c z).2.2.1 x c e rfl) L (I.freeC x c e)
 .obtain⟨e,n,ne,nf,d⟩:=I.pin p T;have y:p.1∉ch:=λz=>(B p.1 z).2.2.2 p T rfl;exact⟨keep p.1 p.2 ne nf y e n,free p.1 p.2 y e n,ne,nf,d⟩
theorem Inv.un(I:Inv X f g H s)(u:Un X.fs [] H w s.heap h')(hok:HOk X.prog X.w w h'):Inv X f g w {s with heap:=h',toks:=t' }:=by
 let⟨m,⟨o,es,D,q,r⟩,_⟩:=id I.loc;let⟨F,B⟩:=u.any q I.free 'a';exact I.step (g':=s.gens) (d':=s.drawn) (ch:=[]) (λ_ z=>nomatch z) (λb o _ p _ e n=>u.keep b o e n p 'a') (λb o _ p _ e n=>u.slot b o e n p 'a') (λb o _ e n=>u.free b o e n 'a') (λb o _ e=>u.there b o e 'a') u.tups u.frzs u.tbls (λJ y=>by
  let⟨G,k,l,d,t⟩:=y;rw[q]at d;cases d;exact⟨_,k,l,B,t⟩) hok I.bare
theorem Inv.call{d':Drawn}(I:Inv X f g H s)(u:Un (frs X.stack) ch H w s.heap h')(hok:HOk X.prog X.w w h')(D:afo g')
  (l:∀b∈ch,(b∈X.ex\/X.s₀.heap.objs.size≤b)/\b≠X.env.locals/\(∀x c,X.env.cells.lookup x=some c->c≠b)/\∀p∈X.pn++f,p.1≠b) :
  Inv X f g w {s with heap:=h',gens:=g',drawn:=d',toks:=t' }:=by
 let⟨m,⟨o,es,O,B,r⟩,_⟩:=id I.loc;let⟨P,y⟩:=u.any B I.free λz=>(l _ z).2.1 rfl;exact I.step l (λb o y G d e n=>u.keep b o e n (λz=>(aag.mp (I.stkSub b z)).elim y G) d) (λb o _ _ d e n=>u.any e n d) (λb o d e n=>u.free b o e n d) (λb o d e=>u.there b o e d) u.tups u.frzs u.tbls (λL J=>by
  let⟨R,q,t,k,F⟩:=J;rw[B]at k;cases k;exact⟨_,q,t,y,F⟩) hok D
theorem Inv.turned{d:Addr}(I:Inv X f g H s)(k:∀b o,b≠d->s.heap.get? b=some o->h'.get? b=some o)(F:H d=none)(y:d≠X.env.locals)
  (D:d∈X.ex\/X.s₀.heap.objs.size≤d) (G:∀x c,X.env.cells.lookup x=some c->c≠d) (B:∀p∈X.pn++f,p.1≠d):Inv X f g H {s with heap:=h',toks:=t' }:=by
 have t:∀b u,H b=some u->b≠d:=λb u e z=>by rw[z,F]at e;cases e
 refine I.step (g':=s.gens) (d':=s.drawn) (ch:=[d]) (λb J=>?_) (λb o _ _ l e _=>k b o (λz=>l (by simp[z])) e) (λb o _ _ l e _=>⟨o.slots,k b o (λz=>l (by simp[z])) e⟩) (λ_ _ _ _ n=>n)
  (λb o l e=>⟨o,k b o (λz=>l (by simp[z])) e⟩) (λ_ _ e=>e) (λ_ _ _ e=>e) (λb ps e=>⟨#[],by rw[e];simp⟩) (λm L=>?_) (λb u e=>?_) I.bare
 .have e:=by simpa using J
  subst e;exact⟨D,y,G,B⟩
 .obtain⟨o,es,ep,ho,r⟩:=L;exact⟨o,es,ep,k _ o (abF y) ho,r⟩
 .refine(I.hok b u e).stay (λc v l q=>k c v ?_ q) (λ_ q=>q) λ_ _ q=>q;rcases l with z|z
  .rw[z];exact t b u e
  .exact t c _ z
theorem Inv.tok(I:Inv X f g H s)(t:Nat):Inv X f g H {s with toks:=t}:=I.un (h':=s.heap) (t':=t) Un.refl I.hok
theorem Inv.kept(I:Inv X f g H s)(k:∀b u,s.heap.get? b=some u->h'.get? b=some u):Inv X f g H {s with heap:=h',toks:=t' }:=I.un (Un.kept k) (I.hok.kept k)
theorem Inv.laid(I:Inv X f g H s)(k:∀b u,s.heap.get? b=some u->h'.get? b=some u)(d:s.heap.objs.size≤a)(new:ObjOk X.prog X.w (upd H a o) h' a o) :
  Inv X f g (upd H a o) {s with heap:=h',toks:=t' }:=I.un (Un.laid k d (I.hok.fresh d)) (I.hok.laid k d new)
theorem Inv.write{x e:Addr}(I:Inv X f g H s)(mu:Mut (H x))(l:e=x\/H e=some (.own x))(k:∀b u,b≠e->s.heap.get? b=some u->h'.get? b=some u)(d:∃u,h'.get? e=some u)
  (new:ObjOk X.prog X.w (upd H x o) h' x o):Inv X f g (upd H x o) {s with heap:=h',toks:=t' }:=I.un (Un.write mu l k d) (I.hok.write mu l k d new)
def Inv.pins_of{d:List 'i'}(I:Inv X f g H s)(h:∀p∈d,s.heap.get? p.1=some p.2/\H p.1=none/\p.1≠X.env.locals/\p.1∉X.fs/\∀v,p.2.data≠.cell v):Inv X d g H s:=
 ⟨I.ok,I.os,I.bare,I.base,I.loc,I.cell,I.free,I.freeC,λp k=>(aaR.mp k).elim (λz=>I.pin p (abW _ z)) (h p),I.hok,I.len⟩
def yq(l:N.Nodup)(a:N[i]?=some x)(b:N[j]?=some x):i=j:=by
 let⟨m,k⟩:=AD.mp a;let⟨n,d⟩:=AD.mp b;exact(List.getElem_inj l).mp (k.trans d.symm)
theorem uy{Q:Unit->GT->Prop}(I:Inv X f g H s)(hN:X.N.Nodup)(T:X.N[i]?=some x)(F:Loc X.env.scope x)(r:RelV v u)
  (h:∀s',Inv X f (g.set i (some v)) H s'->(∃a,abl a s.heap s'.heap/\(a=X.env.locals\/X.env.cells.lookup x=some a))->Q () s') (hf:X.fn x=true\/X.env.scope.names.lookup x=some .local:=by first|exact .inl rfl|exact .inr rfl|assumption):wpAny M A (storeName X.env x u) Q E s:=by
 let⟨m,hn,hl⟩:=id I.loc;have S:(X.env.scope.kind == .class||(X.env.scope.kind == .module&&X.env.locals != X.env.globals))=false:=by rw[I.ok.kind];rfl
 have L:i<g.length:=by rw[I.len];exact(AD.mp T).1
 have cne:=I.cne;have t:∀{a:Addr}{h':aaZ},(∃o,s.heap.get? a=some o/\H a=none)->abl a s.heap h'->HOk X.prog X.w H h':=λ{a h'} ha l b ob e=>by
  let⟨_,_,G⟩:=ha;refine(I.hok b ob e).stay (λc V D q=>(l.2 c ?_).trans q) (λ_ q=>q) λ_ _ q=>q;rintro rfl;rcases D with rfl|D
  .rw[G]at e;cases e
  .rw[G]at D;cases D
 rcases F with hk|hk
 .refine wpAny_storeName_local hk hn (λh' hn' l=>?_) S;let⟨oL,_,_,hoL,_⟩:=id hn;refine h _ ⟨I.ok,I.os,I.bare,⟨λb o e n O F=>?_,λb o e n O F=>?_,I.base.free,λb o e F=>?_,I.base.tups,I.base.frzs,I.base.tbls⟩,⟨_,hn',λj y v' B J Z=>?_⟩,λy c e=>?_,I.free,I.freeC,λp Y=>?_,t ⟨oL,hoL,I.free⟩ l,by simpa using I.len⟩ ⟨_,l,.inl rfl⟩
  .exact(l.2 b (aa1 (aat (aao e) I.ok.above))).trans (I.base.keep b o e n O F)
  .obtain⟨sl,B⟩:=I.base.slot b o e n O F;exact⟨sl,(l.2 b (aa1 (aat (aao e) I.ok.above))).trans B⟩
  .obtain⟨o',B⟩:=I.base.there b o e F;exact⟨o',(l.2 b (aa1 (aat (aao e) I.ok.above))).trans B⟩
  .by_cases hj:j=i
   .subst hj;rw[T]at B;cases B;rw[aaV L]at J;cases J;exact⟨u,r,.inl ⟨hk,'a'⟩⟩
   .rw[aaO (abF hj)]at J;let⟨u',r',q⟩:=hl j y v' B J Z;refine⟨u',r',?_⟩;rcases q with⟨k,e⟩|⟨k,c,e,z⟩
    .refine .inl ⟨k,?_⟩;have:y≠x:=λe=>hj (yq hN B (e▸T));simp[this,e]
    .exact .inr ⟨k,c,e,z.sameBut l (cne y c e)⟩
  .obtain⟨V,z⟩:=I.cell y c e;exact⟨V,z.sameBut l (cne y c e)⟩
  .obtain⟨e,n,ne,nf,d⟩:=I.pin p Y;exact⟨(l.2 p.1 ne).trans e,n,ne,nf,d⟩
 .have hfn:X.fn x=true:=by
   rcases hf with z|z
   .exact z
   .rw[z]at hk;cases hk
  let⟨c,D⟩:=I.ok.has x (.inl hk);let⟨V,z⟩:=I.cell x c D;refine wpAny_storeName_cell I.ok.kind hk D z (λh' R l=>?_);let⟨oc,P,U⟩:=id z;refine h {s with heap:=h' } ⟨I.ok,I.os,I.bare,⟨λb o e n O F=>?_,λb o e n O F=>?_,I.base.free,λb o e F=>?_,I.base.tups,I.base.frzs,I.base.tbls⟩,⟨m,hn.sameBut l (abF (cne x c D)),λj y v' B J Z=>?_⟩,λy W e=>?_,I.free,I.freeC,λp Y=>?_,t ⟨oc,P,I.freeC x c D⟩ l,by simpa using I.len⟩ ⟨c,l,.inr D⟩
  .exact(l.2 b (aa1 (aat (aao e) (I.ok.cab x c hfn D)))).trans (I.base.keep b o e n O F)
  .obtain⟨sl,B⟩:=I.base.slot b o e n O F;exact⟨sl,(l.2 b (aa1 (aat (aao e) (I.ok.cab x c hfn D)))).trans B⟩
  .obtain⟨o',B⟩:=I.base.there b o e F;exact⟨o',(l.2 b (aa1 (aat (aao e) (I.ok.cab x c hfn D)))).trans B⟩
  .by_cases hj:j=i
   .subst hj;rw[T]at B;cases B;rw[aaV L]at J;cases J;exact⟨u,r,.inr ⟨.inl hk,c,D,R⟩⟩
   .rw[aaO (abF hj)]at J;let⟨u',r',q⟩:=hl j y v' B J Z;refine⟨u',r',?_⟩;rcases q with q|⟨k,W,e,z'⟩
    .exact .inl q
    .refine .inr ⟨k,W,e,z'.sameBut l ?_⟩;rintro rfl;exact hj (yq hN B (I.ok.inj _ _ _ e D▸T))
  .by_cases hcc:W=c
   .subst hcc;exact⟨_,R⟩
   .obtain⟨w2,z2⟩:=I.cell y W e;exact⟨w2,z2.sameBut l hcc⟩
  .obtain⟨e,n,ne,nf,d⟩:=I.pin p Y;refine⟨(l.2 p.1 ?_).trans e,n,ne,nf,d⟩;intro q;rw[q,P]at e;have q':oc=p.2:=aay e;exact d V (by rw[<-q'];exact U)
theorem jz{Q:Unit->GT->Prop}(I:Inv X f g H s)(m:X.N.Nodup)(d:X.N[i]?=some x)(n:Loc X.env.scope x)(r:RelV v u)
  (h:∀s',Inv X f (g.set i (some v)) H s'->Q () s') (l:X.fn x=true\/X.env.scope.names.lookup x=some .local:=by first|exact .inl rfl|exact .inr rfl|assumption):wpAny M A (storeName X.env x u) Q E s:=
 uy I m d n r (λs' k _=>h s' k) l
theorem Inv.call'{s':GT}(I:Inv X f g H s)(k:s'.os=s.os)(u:Un (frs X.stack) ch H w s.heap s'.heap)(hok:HOk X.prog X.w w s'.heap)(l:afo s'.gens)
  (d:∀b∈ch,(b∈X.ex\/X.s₀.heap.objs.size≤b)/\b≠X.env.locals/\(∀x c,X.env.cells.lookup x=some c->c≠b)/\∀p∈X.pn++f,p.1≠b):Inv X f g w s':=by
 let⟨h',g',d',t',m⟩:=s';have e:=k;subst e;exact I.call (g':=g') (t':=t') (d':=d') u hok l d
end
abbrev XK:=Ad->Option Addr->Hp->Prop
abbrev St:=List (Option V)
abbrev VK:=V->Hp->Prop
abbrev TE:=St->Hp->VK->Prop
abbrev TT:=St->Hp->(Bool->Hp->Prop)->Prop
abbrev TA:=St->Hp->(List V->Hp->Prop)->Prop
structure Ends where
 nx:St->Hp->Prop
 rt:VK
 bk:St->Hp->Prop:=λ_ _=>False
 ct:St->Hp->Prop:=λ_ _=>False
abbrev TS:=Ends->St->Hp->Prop
def EP(X:Cx)(pins:List 'i')(σ:St)(Q:VK)(u:Ad)(s':GT):Prop:=∃v d,Inv X pins σ d s'/\RelV v u/\Q v d
def TP(X:Cx)(pins:List 'i')(σ:St)(Q:Bool->Hp->Prop)(b:Bool)(s':GT):Prop:=∃d,Inv X pins σ d s'/\Q b d
def AP(X:Cx)(pins:List 'i')(σ:St)(Q:List V->Hp->Prop)(us:List Ad)(s':GT):Prop:=∃vs d,Inv X pins σ d s'/\Vals vs us/\Q vs d
def SP(X:Cx)(pins:List 'i')(D:Ends)(f:Flow)(s':GT):Prop:=
 match f with
 | .next=>∃d k,Inv X pins d k s'/\D.nx d k
 | .brk=>∃d k,Inv X pins d k s'/\D.bk d k
 | .cont=>∃d k,Inv X pins d k s'/\D.ct d k
 | .ret u=>∃v d k,Inv X pins d k s'/\RelV v u/\D.rt v k
def PE(X:Cx)(e:Expr)(t:TE):Prop:=
 ∀(pins:List 'i') (s:GT) (σ:St) (H:Hp) (Q:VK),Inv X pins σ H s->t σ H Q->wpAny (model X.prog X.w) X.A (eval e X.env) (EP X pins σ Q) X.xe s
def PT(X:Cx)(e:Expr)(t:TT):Prop:=
 ∀(pins:List 'i') (s:GT) (σ:St) (H:Hp) (Q:Bool->Hp->Prop),Inv X pins σ H s->t σ H Q->wpAny (model X.prog X.w) X.A (isTrue e X.env (eval e X.env)) (TP X pins σ Q) X.xe s
def PW(X:Cx)(e:Expr)(t:TT):Prop:=
 ∀(d:Sem Ad) (pins:List 'i') (s:GT) (σ:St) (H:Hp) (Q:Bool->Hp->Prop),Inv X pins σ H s->t σ H Q->wpAny (model X.prog X.w) X.A (isTrue e X.env d) (TP X pins σ Q) X.xe s
def PW.pt{t:TT}(h:PW X e t):PT X e t:=h _
def PA(X:Cx)(es:List Expr)(t:TA):Prop:=
 ∀(pos:Pos) (pins:List 'i') (s:GT) (σ:St) (H:Hp) (Q:List V->Hp->Prop),Inv X pins σ H s->t σ H Q->wpAny (model X.prog X.w) X.A (spliced (abn pos (aab es X.env))) (AP X pins σ Q) X.xe s
def PS(X:Cx)(st:Stmt)(t:TS):Prop:=
 ∀(pins:List 'i') (s:GT) (σ:St) (H:Hp) (D:Ends),Inv X pins σ H s->t D σ H->wpAny (model X.prog X.w) X.A (exec st X.env) (SP X pins D) X.xe s
def PSs(X:Cx)(st:List Stmt)(t:TS):Prop:=
 ∀(pins:List 'i') (s:GT) (σ:St) (H:Hp) (D:Ends),Inv X pins σ H s->t D σ H->wpAny (model X.prog X.w) X.A (execs st X.env) (SP X pins D) X.xe s
theorem thn{d:Type}{t:Sem d}{Q k:d->GT->Prop}{s:GT}(h:wpAny M A t Q E s)(l:∀a s,Q a s->k a s):wpAny M A t k E s:=ab9 h l λ_ _ x=>x
section
variable {X:Cx}
def tVar(i:Nat):TE:=λσ H Q=>∃v,σ[i]?=some (some v)/\Q v H
def tC(v:V):TE:=λ_ H Q=>Q v H
theorem KU(y:X.N[i]?=some x)(q:Vis X.env.scope x)(hd:(x=='g')=false:=by decide)(n:(x==("__classdict__" : Str))=false:=by decide):PE X (.Name x pos) (tVar i):=by
 intro pins s σ H Q I h;let⟨v,e,h⟩:=h;let⟨m,B,z⟩:=I.loc;let⟨u,r,l⟩:=z i x v y e q;have k:EP X pins σ Q u s:=⟨v,H,I,r,h⟩;rcases l with⟨hk,t⟩|⟨hk,c,p,d⟩
 .exact wpAny_Name (wpAny_loadName_local I.ok.kind hk B t k) hd
 .rcases hk with hk|hk
  .exact wpAny_Name (wpAny_loadName_cell I.ok.kind hk p d k) hd
  .exact wpAny_Name (wpAny_loadName_free I.ok.kind hk p d k n) hd
theorem Se{i j pos}:PE X (.Constant (.int i) j pos) (tC (.int i)):=λ_ _ _ H _ I h=>wpAny_Constant_int ⟨.int i,H,I.tok _,⟨_,rfl⟩,h⟩
theorem Yw{b j pos}:PE X (.Constant (.bool b) j pos) (tC (.bl b)):=λ_ _ _ H _ I h=>Constant_bool ⟨.bl b,H,I,rfl,h⟩
theorem V7{j pos}:PE X (.Constant .none j pos) (tC .non):=λ_ _ _ H _ I h=>Constant_none ⟨.non,H,I,rfl,h⟩
theorem W4{x j pos}:PE X (.Constant (.str x) j pos) (tC (.str x)):=λ_ _ _ H _ I h=>Calls.Constant_str ⟨.str x,H,I.tok _,⟨_,rfl⟩,h⟩
def Gl(X:Cx)(x:Str):Prop:=X.env.kindOf x=some .globalImplicit
theorem AV{s:GT}(I:Inv X pins σ H s)(d:Gl X x)(k:X.mg x=some u)(h:Q u s)
  (hd:(x=='g')=false:=by decide):wpAny (model X.prog X.w) X.A (eval (.Name x pos) X.env) Q E s:=
 ae2 I.ok.kind d (Calls.loadGlobal_global (by rw[I.ok.glob];exact I.mod.glob.keeps I.bk) k h) hd
theorem lh{s:GT}(I:Inv X pins σ H s)(l:Gl X x)(n:X.mg x=none)(d:aaU x=some u)(h:Q u s)
  (m:x ≠ "__name__":=by decide) (hd:(x=='g')=false:=by decide):wpAny (model X.prog X.w) X.A (eval (.Name x pos) X.env) Q E s:=by
 let⟨mb,k,p⟩:=I.mod.blt;exact ae2 I.ok.kind l (Calls.loadGlobal_builtin (by rw[I.ok.glob];exact I.mod.glob.keeps I.bk) n (by rw[I.ok.blt];exact k.keeps I.bk) ((p x m).trans d) h) hd
theorem Mq(k:Gl X x)(m:X.mg x=none)(d:aaU x=some u)(r:RelV v u)(l:x ≠ "__name__":=by decide)(hd:(x=='g')=false:=by decide):PE X (.Name x pos) (tC v):=
 λ_ _ _ H _ I h=>lh I k m d ⟨v,H,I,r,h⟩ l hd
variable {a b:Expr}{ta tb:TE}{pos:Pos}
def tB(t:TE):TT:=λσ H Q=>t σ H λx d=>∃c,x = .bl c/\Q c d
theorem Ue{t:TE}(h:PE X e t)(l:∀k,isTrue e X.env k=(do let v <- k;acL e.pos;adX [v] (truthy v)):=by intro _;rfl):PT X e (tB t):=by
 intro pins s σ H Q I m;refine isTrue_plain (thn (h pins s σ H _ I m) λv s1 ⟨x,p,y,r1,n⟩=>?_) (l _);let⟨d,rfl,q⟩:=n;cases r1;exact adm ⟨p,y,q⟩
variable {f g:TT}{rest:List Expr}
def tAnd(t u:TT):TT:=λσ H Q=>t σ H λc d=>if c=true then u σ d Q else Q false d
def tOr(t u:TT):TT:=λσ H Q=>t σ H λc d=>if c=true then Q true d else u σ d Q
def tNot(t:TT):TT:=λσ H Q=>t σ H λc d=>Q (!c) d
theorem LR(d:PT X a f):PW X (.BoolOp .And [a] pos) f:=by
 intro k pins s σ H Q I h;refine isTrue_and (thn (d pins s σ H Q I h) λc s1 e=>?_)
 cases c with
 |true=>exact isTrue_and_nil e
 |false=>exact e
theorem Tu(d:PT X a f):PW X (.BoolOp .Or [a] pos) f:=by
 intro k pins s σ H Q I h;refine isTrue_or (thn (d pins s σ H Q I h) λc s1 e=>?_)
 cases c with
 |false=>exact isTrue_or_nil e
 |true=>exact e
theorem Va(m:PT X a f)(l:PW X (.BoolOp .And (b::rest) pos) g):PW X (.BoolOp .And (a::b::rest) pos) (tAnd f g):=by
 intro n pins s σ H Q I h;refine isTrue_and (thn (m pins s σ H _ I h) λc s1 ⟨k,d,q⟩=>?_)
 cases c with
 |true=>exact l n pins s1 σ k Q d q
 |false=>exact⟨k,d,q⟩
theorem YO(m:PT X a f)(l:PW X (.BoolOp .Or (b::rest) pos) g):PW X (.BoolOp .Or (a::b::rest) pos) (tOr f g):=by
 intro n pins s σ H Q I h;refine isTrue_or (thn (m pins s σ H _ I h) λc s1 ⟨k,d,q⟩=>?_)
 cases c with
 |true=>exact⟨k,d,q⟩
 |false=>exact l n pins s1 σ k Q d q
theorem UV(d:PT X a f):PT X (.UnaryOp .Not a pos) (tNot f):=by
 intro pins s σ H Q I h;exact isTrue_not (d pins s σ H _ I h)
def Xv(ta tb:TE):TE:=λσ H Q=>ta σ H λx d=>∃c,x = .bl c/\if c=true then tb σ d Q else Q (.bl false) d
def YI(ta:TE):TE:=λσ H Q=>ta σ H λx d=>∃c,x = .bl c/\Q (.bl (!c)) d
theorem UI{op}{t:TE}(h:PE X a t):PE X (.BoolOp op [a] pos) t:=λpins s σ H Q I d=>BoolOp_one (h pins s σ H Q I d)
theorem SG(l:PE X a ta)(m:PE X (.BoolOp .And (b::rest) pos) tb):PE X (.BoolOp .And (a::b::rest) pos) (Xv ta tb):=by
 intro pins s σ H Q I h;refine BoolOp_and (thn (l pins s σ H _ I h) λv s1 ⟨x,d,k,r1,q⟩=>?_);let⟨c,rfl,q⟩:=q;cases r1;refine adm ?_
 cases c with
 |true=>exact m pins s1 σ d Q k q
 |false=>exact⟨.bl false,d,k,rfl,q⟩
theorem Wx(k:PE X a ta):PE X (.UnaryOp .Not a pos) (YI ta):=by
 intro pins s σ H Q I h;refine UnaryOp_ (thn (k pins s σ H _ I h) λv s1 ⟨x,l,d,r1,q⟩=>?_);let⟨c,rfl,q⟩:=q;cases r1;exact not_of (adm ⟨.bl (!c),l,d,rfl,q⟩)
def tIf(t:TT)(ta tb:TE):TE:=λσ H Q=>t σ H λc d=>if c=true then ta σ d Q else tb σ d Q
theorem Jp(hc:PT X c f)(n:PE X a ta)(m:PE X b tb):PE X (.IfExp c a b pos) (tIf f ta tb):=by
 intro pins s σ H Q I h;refine wpAny_IfExp (thn (hc pins s σ H _ I h) λd s1 ⟨l,k,q⟩=>?_)
 cases d with
 |true=>exact n pins s1 σ l Q k q
 |false=>exact m pins s1 σ l Q k q
end
def SqL(K:aae)(H:Hp)(a:Addr)(xs:List V):Prop:=
 Rd H a (.lst xs) \/
  ∃(o:Obj) (d:Array Ad) (n:Nat),K.lookup a=some o/\o.cls = .type "list"/\o.dict=none/\o.data = .seq d n/\d.size≤aak/\Vals xs d.toList
def SqT(K:aae)(H:Hp)(a:Addr)(xs:List V):Prop:=
 Rd H a (.tup xs) \/
  ∃(o:Obj) (d:Array Ad) (n:Nat),K.lookup a=some o/\o.cls = .type "tuple"/\o.dict=none/\o.data = .seq d n/\d.size≤aak/\Vals xs d.toList
def absV:Ad->Option V
 | .none=>some .non
 | .bool b=>some (.bl b)
 | .int i _=>some (.int i)
 | .str x _=>some (.str x)
 | .bytes b _=>some (.byt b)
 | .float b _=>some (.flt b)
 | .ref a=>some (.ref a)
 | .type n=>some (.ty n)
 |_=>none
theorem RelV.abs{x:V}(r:RelV x u):absV u=some x:=by
 cases x with
 |non=>cases r;rfl
 |bl _=>cases r;rfl
 |int _=>let⟨t,rfl⟩:=r;rfl
 |str _=>let⟨t,rfl⟩:=r;rfl
 |byt _=>let⟨t,rfl⟩:=r;rfl
 |flt _=>let⟨t,rfl⟩:=r;rfl
 |ref _=>cases r;rfl
 |ty _=>cases r;rfl
def RelV.inj{x y:V}(r:RelV x u)(q:RelV y u):x=y:=aay (r.abs.symm.trans q.abs)
theorem Vals.inj:∀{xs ys:List V}{us:List Ad},Vals xs us->Vals ys us->xs=ys
 |_,_,_,.nil,.nil=>rfl
 |_,_,_,.cons r t,.cons r' t'=>by rw[r.inj r',Vals.inj t t']
section
variable {X:Cx}{b:List 'i'}{c:St}{H:Hp}{s:GT}{a:Addr}{xs ys:List V}
def SqL.of(h:H a=some (.lst xs)):SqL K H a xs:=.inl (.inl h)
def SqT.of(h:H a=some (.tup xs)):SqT K H a xs:=.inl (.inl h)
theorem Inv.list(I:Inv X b c H s)(h:SqL X.K H a xs):∃d:List Ad,Vals xs d/\PlainL s.heap a d.toArray/\xs.length≤aak:=by
 rcases h with h|⟨o,d,n,hk,k,hd,l,m,r⟩
 .obtain⟨z,d,n,r,e⟩:=h.ok I.hok;exact⟨d,r,⟨_,n,e,rfl,rfl,rfl⟩,z⟩
 .refine⟨d.toList,r,⟨o,n,I.kIn a o hk,k,hd,by simpa using l⟩,?_⟩;have e:=r.length
  grind
theorem Inv.tuple(I:Inv X b c H s)(h:SqT X.K H a xs):∃d:List Ad,Vals xs d/\IsTup s.heap a d.toArray/\xs.length≤aak:=by
 rcases h with h|⟨o,d,n,hk,k,hd,l,m,r⟩
 .obtain⟨z,d,r,p⟩:=h.ok I.hok;exact⟨d,r,p.tup,z⟩
 .refine⟨d.toList,r,⟨o,I.kIn a o hk,k,n,by simpa using l⟩,?_⟩;have e:=r.length
  simp_all
theorem Inv.tupleP(I:Inv X b c H s)(h:SqT X.K H a xs):∃d:List Ad,Vals xs d/\PlainT s.heap a d.toArray/\xs.length≤aak:=by
 rcases h with h|⟨o,d,n,hk,k,hd,l,m,r⟩
 .obtain⟨z,d,r,p⟩:=h.ok I.hok;exact⟨d,r,p,z⟩
 .refine⟨d.toList,r,⟨o,I.kIn a o hk,k,hd,n,by simpa using l⟩,?_⟩;have e:=r.length
  simp_all
theorem Inv.list_inj(I:Inv X b c H s)(h:SqL X.K H a xs)(h':SqL X.K H a ys):xs=ys:=by
 let⟨q,r,⟨o,n,e,_,_,d⟩,_⟩:=I.list h;let⟨k,p,⟨y,t,l,_,_,m⟩,_⟩:=I.list h';rw[e]at l;cases l;rw[d]at m;injection m with d1 _
 have:=by simpa using congrArg ag7 d1
 subst this;exact r.inj p
theorem Inv.tuple_inj(I:Inv X b c H s)(h:SqT X.K H a xs)(h':SqT X.K H a ys):xs=ys:=by
 let⟨q,r,⟨o,e,_,n,d⟩,_⟩:=I.tuple h;let⟨k,p,⟨y,l,_,t,m⟩,_⟩:=I.tuple h';rw[e]at l;cases l;rw[d]at m;injection m with d1 _
 have:=by simpa using congrArg ag7 d1
 subst this;exact r.inj p
end
abbrev Cx.wish(X:Cx)(E:Ad->GT->Prop):Cx:={X with xe:=E}
abbrev Cx.nox(X:Cx):Cx:=X.wish λ_ _=>False
def Cx.Ok.wish(ok:X.Ok)(E:Ad->GT->Prop):(X.wish E).Ok:=
 ⟨ok.mod,ok.kind,ok.glob,ok.blt,ok.above,ok.inj,ok.has,ok.cab,ok.hd,ok.frames,ok.stk,ok.exf,ok.bs,ok.bsz,ok.noex,ok.exfs,ok.funs,ok.frf⟩
def Cx.Ok.unwish(ok:(X.wish E).Ok):X.Ok:=
 ⟨ok.mod,ok.kind,ok.glob,ok.blt,ok.above,ok.inj,ok.has,ok.cab,ok.hd,ok.frames,ok.stk,ok.exf,ok.bs,ok.bsz,ok.noex,ok.exfs,ok.funs,ok.frf⟩
section
variable {X:Cx}{p:List 'i'}{a:St}{H:Hp}{s:GT}{E:Ad->GT->Prop}
def Inv.wish(I:Inv X p a H s)(E:Ad->GT->Prop):Inv (X.wish E) p a H s:=⟨I.ok.wish E,I.os,I.bare,I.base,I.loc,I.cell,I.free,I.freeC,I.pin,I.hok,I.len⟩
def Inv.unwish(I:Inv (X.wish E) p a H s):Inv X p a H s:=⟨I.ok.unwish,I.os,I.bare,I.base,I.loc,I.cell,I.free,I.freeC,I.pin,I.hok,I.len⟩
theorem SP.unwish{D:Ends}{f:Flow}{s':GT}(h:SP (X.wish E) p D f s'):SP X p D f s':=by
 cases f with
 |next=>let⟨d,k,I,q⟩:=h;exact⟨d,k,I.unwish,q⟩
 |brk=>let⟨d,k,I,q⟩:=h;exact⟨d,k,I.unwish,q⟩
 |cont=>let⟨d,k,I,q⟩:=h;exact⟨d,k,I.unwish,q⟩
 |ret u=>let⟨v,d,k,I,r,q⟩:=h;exact⟨v,d,k,I.unwish,r,q⟩
theorem PSs.nox{st:List Stmt}{t:TS}(h:PSs X.nox st t):PSs X st t:=λp s a H D I d=>
 ab9 (h p s a H D (I.wish _) d) (λ_ _ q=>q.unwish) λ_ _ z=>acn z
end
section
variable {X:Cx}{st:Stmt}{rest:List Stmt}{t u:TS}{e:Expr}{g:TE}{pos:Pos}
def YZ:TS:=λD σ H=>D.nx σ H
def tSeq(t u:TS):TS:=λD σ H=>t {D with nx:=u D} σ H
theorem OU:PSs X [] YZ:=λ_ _ σ H _ I h=>aeI ⟨σ,H,I,h⟩
theorem yz(m:PS X st t)(n:PSs X rest u):PSs X (st::rest) (tSeq t u):=by
 intro pins s σ H D I h;refine wpAny_execs_cons (thn (m pins s σ H {D with nx:=u D} I h) λf s1 q=>?_)
 cases f with
 |next=>
  let⟨d,l,k,q⟩:=q;exact n pins s1 d l D k q
 |ret v=>exact q
 |brk=>exact q
 |cont=>exact q
theorem Og(d:PS X st t):PSs X [st] t:=by
 intro pins s σ H D I h;refine wpAny_execs_cons (thn (d pins s σ H D I h) λf s1 q=>?_)
 cases f with
 |next=>exact aeI q
 |ret v=>exact q
 |brk=>exact q
 |cont=>exact q
def Inv.quiet{s:GT}(I:Inv X pins σ H s):interactive X.env=false:=by simp[interactive,I.ok.kind]
def Yg(g:TE):TS:=λD σ H=>g σ H λ_ d=>D.nx σ d
theorem My(k:PE X e g)(l:abE e none pos.line X.env=pure false:=by rfl):PS X (.Expr e pos) (Yg g):=by
 intro pins s σ H D I h;exact wpAny_Expr_any (thn (k pins s σ H _ I h)<|by intro v s1 ⟨x,m,d,r1,q⟩;exact⟨σ,m,d,q⟩) I.quiet l
def tRet(g:TE):TS:=λD σ H=>g σ H D.rt
theorem U5(k:PE X e g):PS X (.Return (some e) pos) (tRet g):=by
 intro pins s σ H D I h;exact wpAny_Return_some (thn (k pins s σ H _ I h)<|by intro v s1 ⟨x,l,d,r1,q⟩;exact⟨x,σ,l,d,r1,q⟩)
def tIfS(c:TT)(t u:TS):TS:=λD σ H=>c σ H λb d=>if b=true then t D σ d else u D σ d
theorem Yq{a b:List Stmt}{l:TT}(hc:PT X c l)(n:PSs X a t)(p:PSs X b u):PS X (.If c a b pos) (tIfS l t u):=by
 intro pins s σ H D I h;refine wpAny_If (thn (hc pins s σ H _ I h) λd s1 ⟨m,k,q⟩=>?_)
 cases d with
 |true=>exact n pins s1 σ m D k q
 |false=>exact p pins s1 σ m D k q
def VB:TS:=λ_ _ _=>False
theorem GN:PS X st VB:=λ_ _ _ _ _ _ h=>h.elim
end
abbrev TG:=V->St->Hp->(St->Hp->Prop)->Prop
abbrev TGs:=List V->St->Hp->(St->Hp->Prop)->Prop
def PG(X:Cx)(d:Expr)(t:TG):Prop:=
 ∀(pins:List 'i') (s:GT) (σ:St) (H:Hp) (v:V) (u:Ad) (Q:St->Hp->Prop),Inv X pins σ H s->RelV v u->t v σ H Q ->
  wpAny (model X.prog X.w) X.A (afx d X.env u) (λ_ m=>∃k l,Inv X pins k l m/\Q k l) X.xe s
def PGs(X:Cx)(ts:List Expr)(t:TGs):Prop:=
 ∀(pins:List 'i') (s:GT) (σ:St) (H:Hp) (vs:List V) (us:List Ad) (Q:St->Hp->Prop),Inv X pins σ H s->Vals vs us->t vs σ H Q ->
  wpAny (model X.prog X.w) X.A (assignInOrder ((abV ts X.env).map (·.2)) us) (λ_ l=>∃d k,Inv X pins d k l/\Q d k) X.xe s
abbrev TIp:=V->V->Hp->VK->Prop
def PIp(X:Cx)(op:ae3)(t:TIp):Prop:=
 ∀(pins:List 'i') (s:GT) (σ:St) (H:Hp) (x y:V) (v u:Ad) (Q:VK),Inv X pins σ H s->RelV x v->RelV y u->t x y H Q ->
  wpAny (model X.prog X.w) X.A (inplaceOp op v u) (EP X pins σ Q) X.xe s
section
variable {X:Cx}{pos:Pos}
def Iw(i:Nat):TG:=λv σ H Q=>Q (σ.set i (some v)) H
theorem Ou(m:X.N.Nodup)(n:X.N[i]?=some x)(l:Loc X.env.scope x)(k:X.fn x=true\/X.env.scope.names.lookup x=some .local:=by first|exact .inl rfl|exact .inr rfl|assumption):PG X (.Name x pos) (Iw i):=by
 intro pins s σ H v u Q I r h;exact wpAny_assign_Name (jz I m n l r (λp d=>⟨_,H,d,h⟩) k)
def gNil:TGs:=λvs σ H Q=>vs=[]/\Q σ H
def YX(t:TG)(u:TGs):TGs:=λvs σ H Q=>∃v r,vs=v::r/\t v σ H λd k=>u r d k Q
theorem Rh:PGs X [] gNil:=by
 intro pins s σ H vs us Q I r h;let⟨e,h⟩:=h;exact assignInOrder_nil ⟨σ,H,I,h⟩
theorem JA{t:TG}{u:TGs}(l:PG X e t)(p:PGs X es u)
  (k:(abV (e::es) X.env).map (·.2)=afx e X.env::(abV es X.env).map (·.2):=by rfl):PGs X (e::es) (YX t u):=by
 intro pins s σ H vs us Q I r h;let⟨v,z,n,h⟩:=h;subst n
 cases r with
 |cons r rr=>
  rw[k];refine ae4 (thn (l pins s σ H _ _ _ I r h) λ_ s1 ⟨d,y,m,q⟩=>?_);exact p pins s1 d y _ _ Q m rr q
def gTup(K:aae)(n:Nat)(t:TGs):TG:=λv σ H Q=>∃a d,v = .ref a/\SqT K H a d/\d.length=n/\t d σ H Q
theorem Um{k:Nat}{t:TGs}{n:Nat}(hc:X.calm=true)(h:PGs X es t)
  (z:(abV es X.env).length=n:=by rfl) (d:(abV es X.env).findIdx? (·.1)=none:=by rfl):PG X (.Tuple es k pos) (gTup X.K n t):=by
 intro pins s σ H v u Q I r l;let⟨a,q,G,F,y,l⟩:=l;subst G;cases r;let⟨m,D,p,O⟩:=I.tuple F;refine assign_Tuple_tuple (I.ok.hd hc) p (by simp[z,<-y,D.length]) d λL J=>?_;have B:=I.kept (t':=s.toks) λb o e=>J b o (aa1 (aao e)) e;exact h pins _ σ H q _ Q B ‹_› l
def tAsg(te:TE)(g:TG):TS:=λD σ H=>te σ H λx d=>g x σ d D.nx
theorem SV{g:TG}(n:PE X e te)(l:PG X tg g)(d:adM [tg] e pos.line X.env=pure false:=by rfl)(p:adN [tg] e X.env=pure none:=by rfl)
  (k:(abV [tg] X.env).map (·.2)=[afx tg X.env]:=by rfl):PS X (.Assign [tg] e pos) (tAsg te g):=by
 intro pins s σ H D I h;refine wpAny_Assign_stores (thn (n pins s σ H _ I h) λv s1 ⟨x,y,m,r1,t⟩=>?_) d p;rw[k];exact thn (l pins s1 σ y x v _ m r1 t) λ_ s2 q=>q
theorem Sf{p:Pos}(B:X.N.Nodup)(l:X.N[i]?=some x)(t:Loc X.env.scope x)(n:PE X e te)(d:abE e (some (.Name x p)) pos.line X.env=pure false:=by rfl)(q:X.fn x=true\/X.env.scope.names.lookup x=some .local:=by first|exact .inl rfl|exact .inr rfl|assumption) :
  PS X (.Assign [.Name x p] e pos) (tAsg te (Iw i)):=by
 intro pins s σ H D I h;refine wpAny_Assign_Name (thn (n pins s σ H _ I h) λv s1 ⟨y,F,m,r1,z⟩=>?_) d;exact jz m B l t r1 (λs2 k=>⟨_,F,k,z⟩) q
def tPar(i j:Nat)(ta:TA):TS:=λD σ H=>ta σ H λvs d=>∃v w,vs=[v,w]/\D.nx ((σ.set i (some v)).set j (some w)) d
theorem VN{y:Str}{a b:Expr}{ta:TA}{B m pt:Pos}{kt k2 pt2}(hc:X.calm=true)(J:X.N.Nodup)(S:X.N[i]?=some x)(hj:X.N[j]?=some y)(t:i≠j)
  (G:X.env.scope.names.lookup x=some .local) (F:X.env.scope.names.lookup y=some .local) (R:PA X [a,b] ta)
  (U:adN [.Tuple [.Name x B,.Name y m] kt pt] (.Tuple [a,b] k2 pt2) X.env=pure (some [x,y]))
  (Y:adM [.Tuple [.Name x B,.Name y m] kt pt] (.Tuple [a,b] k2 pt2) pos.line X.env=pure false:=by rfl) :
  PS X (.Assign [.Tuple [.Name x B,.Name y m] kt pt] (.Tuple [a,b] k2 pt2) pos) (tPar i j ta):=by
 intro pins s σ H D I h;rw[exec_Assign_arm];refine gT (ade ?_);rw[Y];refine gT (LD ?_);rw[if_neg ⋯];refine gT (Tuple_ (thn (R _ pins s σ H _ I h) λus s1 ⟨vs,L,I1,r1,n⟩=>?_));let⟨v,w,e1,n⟩:=n;subst e1;let⟨d,k,rfl,rv,l⟩:∃d k,us=[d,k]/\RelV v d/\RelV w k:=by
  cases r1 with
  | cons p q=>
   cases q with
   |cons W T=>
    cases T;exact⟨_,_,rfl,p,W⟩
 refine abf ?_ (by show 2≤aak;decide);have V:Inv X pins σ L {s1 with heap:=s1.heap.push {cls:=.type "tuple",data:=.seq [d,k].toArray} }:=I1.kept (t':=s1.toks) λb o e=>Io _ e;rw[U];refine gT (LD ?_);refine gT (abH (gT (unpackItems_tuple (items:=#[d,k]) (I.ok.hd hc) (IsTup.new s1.heap _) λh' z=>?_)));have P:=V.kept (h':=h') (t':=s1.toks) λb o e=>z b o (aa1 (aao e)) e;show wpAny _ _ (assignInOrder [λv=>bindName X.env y v,λv=>bindName X.env x v] [k,d] >>= λ_=>pure Flow.next) _ _ _;refine gT (ae4 (wpAny_bindName (jz P J hj (.inl F) l (λs2 Z=>?_) (.inr F))));refine ae4 (wpAny_bindName (jz Z J S (.inl G) rv (λs3 O=>assignInOrder_nil (LD ?_)) (.inr G)));rw[List.set_comm _ _ (abF t)]at O;exact⟨_,L,O,n⟩
def tAug(i:Nat)(te:TE)(ti:TIp):TS:=λD σ H=>∃x,σ[i]?=some (some x)/\te σ H λy k=>ti x y k λz d=>D.nx (σ.set i (some z)) d
theorem Vh{op:ae3}{ti:TIp}{p:Pos}(S:X.N.Nodup)(F:X.N[i]?=some x)(t:Loc X.env.scope x)(J:PE X e te)(V:PIp X op ti)(hf:X.fn x=true\/X.env.scope.names.lookup x=some .local:=by first|exact .inl rfl|exact .inr rfl|assumption) :
  PS X (.AugAssign (.Name x p) op e pos) (tAug i te ti):=by
 intro pins s σ H D I h;let⟨v,e1,h⟩:=h;let⟨m,Y,W⟩:=I.loc;have B:Vis X.env.scope x:=by rcases t with k|k;exact .inl k;exact .inr (.inl k)
 let⟨u,r,l⟩:=W i x v F e1 B;refine wpAny_AugAssign_Name ?_;have go:wpAny (model X.prog X.w) X.A (eval e X.env) (λw n=>wpAny (model X.prog X.w) X.A (inplaceOp op u w) (λr q=>wpAny (model X.prog X.w) X.A (storeName X.env x r) (λ_=>SP X pins D .next) X.xe q) X.xe n) X.xe s:=by
  refine thn (J pins s σ H _ I h) λw s1 ⟨y,U,Z,r1,R⟩=>?_;refine thn (V pins s1 σ U v y u w _ Z r r1 R) λz s2 ⟨zv,L,T,r2,O⟩=>?_;exact jz T S F t r2 (λs3 G=>⟨_,L,G,O⟩) hf
 rcases l with⟨hk,hm⟩|⟨hk,c,P,d⟩
 .exact wpAny_loadName_local I.ok.kind hk Y hm go
 .rcases hk with hk|hk
  .exact wpAny_loadName_cell I.ok.kind hk P d go
  .rcases t with k|k
   .have:X.env.scope.names.lookup x=some .free:=hk;rw[k]at this;cases this
   .have:X.env.scope.names.lookup x=some .free:=hk;rw[k]at this;cases this
end
section
variable {X:Cx}{pos:Pos}
def Uk(c:TT)(tb:TS):TS:=λD σ H=>∃W:Nat->St->Hp->Prop,(∃m,W m σ H)/\∀m σ H,W m σ H ->
 c σ H λb n=>if b=true then ∃N:St->Hp->Prop,(∀d k,N d k->∃l,l<m/\W l d k)/\tb {D with nx:=N,ct:=N,bk:=D.nx} σ n else D.nx σ n
theorem JM{T:TT}{tb:TS}(J:afL (model X.prog X.w) X.A X.env X.xe)(hc:PT X c T)(hb:PSs X body tb):PS X (.While c body [] pos) (Uk T tb):=by
 intro pins s σ H D I h;let⟨W,⟨Y,V⟩,t⟩:=h;refine wpAny_While (codeAny_whileLoop (λn U=>∃l S,Inv X pins l S U/\W n l S) ?_ Y ⟨σ,H,I,V⟩);intro n s1 ⟨k,O,I1,Z⟩;refine acJ J (thn (hc pins s1 k O _ I1 (t n k O Z)) λb s2 ⟨P,R,p⟩=>?_)
 cases b with
 | true=>
  let⟨N,L,p⟩:=p;rw[if_pos rfl];refine acJ J (thn (hb pins s2 k P _ R p) λf s3 q=>?_)
  cases f with
  |next=>
   let⟨d,m,y,B⟩:=q;let⟨G,F,z⟩:=L d m B;exact⟨G,F,d,m,y,z⟩
  |cont=>
   let⟨d,m,y,B⟩:=q;let⟨G,F,z⟩:=L d m B;exact⟨G,F,d,m,y,z⟩
  |brk=>exact q
  |ret v=>exact q
 |false=>
  exact aeI ⟨k,P,R,p⟩
end
structure It where
 go:Nat->Hp->Prop
 yld:Nat->Hp->V->Hp->Prop
 stop:Nat->Hp->Prop
def FpOk(X:Cx)(pins:List 'i')(H:Hp)(b:Addr):Prop:=
 H b=none/\b≠X.env.locals/\b∉X.fs/\(b∈X.ex\/X.s₀.heap.objs.size≤b)/\(∀x c,X.env.cells.lookup x=some c->c≠b)/\∀p∈X.pn++pins,p.1≠b
theorem Inv.fpOk{k:Hp}{s:GT}(I:Inv X pins σ H s)(d:s.heap.objs.size≤b)(m:k b=none):FpOk X pins k b:=by
 refine⟨m,abp (aat I.lt d),I.nofs d,.inr (aaA I.sz d),λx c e z=>?_,λp l z=>?_⟩
 .obtain⟨v,q⟩:=I.cell x c e;exact absurd (aat q.lt (by simp_all)) (acw _)
 .exact absurd (aat (aao (I.pin p l).1) (by simp_all)) (acw _)
structure Turn(P:aax)(w:World)(K:aae)(tg:Expr)(J:It)(fp:List Addr)(it:Addr)(tn:Nat->aaZ->Prop):Prop where
 mem:it∈fp
 obj:∀i h,tn i h->∀b∈fp,∃o,h.get? b=some o/\∀v,o.data≠.cell v
 keep:∀i h h',tn i h->(∀b∈fp,∀o,h.get? b=some o->h'.get? b=some o)->tn i h'
 item:∀(X:Cx),X.prog=P->X.w=w->X.K=K->X.calm=true->∀(i:Nat) (pins:List 'i') (s:GT) (σ:St) (H:Hp) (E:Ad->GT->Prop),Inv X pins σ H s->(∀b∈fp,FpOk X pins H b)->tn i s.heap->J.go i H ->
  wpAny (model P w) X.A (acA (.ref it)) (λr s1=>∃u,r=some u/\
   wpAny (model P w) X.A (adY tg (.ref it) u) (λ_ s2=>∃x H',Inv X pins σ H' s2/\RelV x u/\J.yld i H x H'/\tn (i+1) s2.heap/\∀b∈fp,H' b=none) E s1) E s
 done:∀(X:Cx),X.prog=P->X.w=w->X.K=K->X.calm=true->∀(i:Nat) (pins:List 'i') (s:GT) (σ:St) (H:Hp) (E:Ad->GT->Prop),Inv X pins σ H s->(∀b∈fp,FpOk X pins H b)->tn i s.heap->J.stop i H ->
  wpAny (model P w) X.A (acA (.ref it)) (λr s1=>r=none/\Inv X pins σ H s1) E s
 self:∀(A:aa8) (i:Nat) (s:GT) (Q:Ad->GT->Prop) (E:Ad->GT->Prop),tn i s.heap->Q (.ref it) s->wpAny (model P w) A (afZ (.ref it)) Q E s
abbrev TI:=St->Hp->(It->Hp->Prop)->Prop
def PIE(X:Cx)(pins:List 'i')(σ:St)(tg:Expr)(R:It->Hp->Prop)(k:Ad)(s2:GT):Prop:=
 ∃(l:Addr) (fp:List Addr) (tn:Nat->aaZ->Prop) (J:It) (d:Hp),k = .ref l/\Inv X pins σ d s2/\Turn X.prog X.w X.K tg J fp l tn/\tn 0 s2.heap/\(∀b∈fp,FpOk X pins d b)/\R J d
def PI(X:Cx)(tg d:Expr)(k:TI):Prop:=
 ∀(pins:List 'i') (s:GT) (σ:St) (H:Hp) (R:It->Hp->Prop),Inv X pins σ H s->k σ H R ->
  wpAny (model X.prog X.w) X.A (eval d X.env) (λv s1=>wpAny (model X.prog X.w) X.A (afZ v) (PIE X pins σ tg R) X.xe s1) X.xe s
theorem Ql{s:GT}{k:Addr}{o:Obj}{n:String}{vs:Array Ad}{Q:Unit->GT->Prop}(l:s.heap.get? k=some o)(hc:o.cls = .type n)(hd:o.data = .fields vs)
  (m:["enumerate","zip","dict_itemiterator","dict_reverseitemiterator","odict_iterator","itertools.zip_longest","itertools.pairwise"].contains n=false) (d:Q () s):wpAny M A (adY tg (.ref k) u) Q E s:=by
 cases tg<;>first
  |exact LD d
  | (cases u<;>first
    |exact LD d
    | (refine gT (wpAny_load l ?_)
       rw[hc,hd];show wpAny M A (if _=true then _ else _) Q E s;rw[if_neg (by grind)];exact LD d))
def Itl(K:aae)(a:Addr):It:=
 ⟨λi H=>∃d x,SqL K H a d/\d[i]?=some x,λi H x k=>k=H/\∀d,SqL K H a d->d[i]?=some x,λi H=>∃d,SqL K H a d/\d.length≤i⟩
def Itt(K:aae)(a:Addr):It:=
 ⟨λi H=>∃d x,SqT K H a d/\d[i]?=some x,λi H x k=>k=H/\∀d,SqT K H a d->d[i]?=some x,λi H=>∃d,SqT K H a d/\d.length≤i⟩
def Itr(lo:Int)(n:Nat):It:=⟨λi _=>i<n,λi H x d=>d=H/\x = .int (lo+i),λi _=>n≤i⟩
theorem Dw{P:aax}(a n:Addr):Turn P w K tg (Itl K a) [n] n (λi h=>h.IsListIter n a i) where
 mem:=by simp
 obj:=λi h l b m=>by
  have e:b=n:=by simpa using m
  subst e;let⟨o,e,c,d⟩:=l;exact⟨o,e,λv z=>by rw[d]at z;cases z⟩
 keep:=λi h y l k=>l.at λo e=>k n 'a' o e
 item:=by
  intro X V F L Y i pins s σ H E I B l U;subst V F L;let⟨xs,x,t,G⟩:=U;let⟨R,W,p,hz⟩:=I.list t;let⟨u,hu,ru⟩:=W.get G;let⟨S,T,f2,J,D,O⟩:=B n 'a';refine wpAny_pyNext_list_item l p.isList (x:=u) (by simpa using hu) λy q sb=>?_;have I1:Inv X pins σ H {s with heap:=y }:=I.turned (t':=s.toks) (λb o m e=>(sb.2 b m).trans e) S T J D O;let⟨o,e,c,d⟩:=id q;exact⟨u,rfl,Ql (s:={s with heap:=y }) e c d ⋯ ⟨x,H,I1,ru,⟨rfl,λys Z=>by rw[I.list_inj Z t];exact G⟩,q,λb m=>(B b m).1⟩⟩
 done:=by
  intro X V F L Y i pins s σ H E I B l U;subst V F L;let⟨xs,t,G⟩:=U;let⟨R,W,p,hz⟩:=I.list t;let⟨S,T,f2,J,D,O⟩:=B n 'a';have hl:=W.length;exact wpAny_pyNext_list_end (I.ok.hd Y) l p.isList (by simp;omega) λy eb=>⟨rfl,I.turned (t':=s.toks) (λb o m e=>eb b o m e) S T J D O⟩
 self:=λ_ _ _ _ _ l h=>wpAny_pyIter_listiter l h
theorem yR{P:aax}(a n:Addr):Turn P w K tg (Itt K a) [n] n (λi h=>h.IsTupleIter n a i) where
 mem:=by simp
 obj:=λi h l b m=>by
  have e:b=n:=by simpa using m
  subst e;let⟨o,e,c,d⟩:=l;exact⟨o,e,λv z=>by rw[d]at z;cases z⟩
 keep:=λi h B l k=>l.at λo e=>k n 'a' o e
 item:=by
  intro X V G O Y i pins s σ H E I D l U;subst V G O;let⟨xs,x,y,J⟩:=U;let⟨q,W,p,hz⟩:=I.tuple y;let⟨u,hu,ru⟩:=W.get J;let⟨S,T,f2,L,F,R⟩:=D n 'a';refine wpAny_pyNext_tuple_item l (show s.heap.IsTuple a q.toArray from p) (x:=u) (by simpa using hu) λB t sb=>?_;have I1:Inv X pins σ H {s with heap:=B }:=I.turned (t':=s.toks) (λb o m e=>(sb.2 b m).trans e) S T L F R;let⟨o,e,c,d⟩:=id t;exact⟨u,rfl,Ql (s:={s with heap:=B }) e c d ⋯ ⟨x,H,I1,ru,⟨rfl,λys Z=>by rw[I.tuple_inj Z y];exact J⟩,t,λb m=>(D b m).1⟩⟩
 done:=by
  intro X V G O Y i pins s σ H E I D l U;subst V G O;let⟨xs,y,J⟩:=U;let⟨q,W,p,hz⟩:=I.tuple y;let⟨S,T,f2,L,F,R⟩:=D n 'a';have hl:=W.length;exact wpAny_pyNext_tuple_end (I.ok.hd Y) l (show s.heap.IsTuple a q.toArray from p) (by simp;omega) λB eb=>⟨rfl,I.turned (t':=s.toks) (λb o m e=>eb b o m e) S T L F R⟩
 self:=λ_ _ _ _ _ l h=>wpAny_pyIter_tupleiter l h
theorem y8{P:aax}(l:Addr)(lo:Int)(n:Nat):Turn P w K tg (Itr lo n) [l] l (λi h=>IsRangeIter h l (lo+(i:Nat)*1) ((n:Int)-(i:Nat)) 1) where
 mem:=by simp
 obj:=λi h d b m=>by
  simp_all
 keep:=λi h q d k=>k l 'a' _ d
 item:=by
  intro X S B G D i pins s σ H E I y d R;subst S B G;let⟨L,O,U,F,z,J⟩:=y l 'a';have W:=Walks.range (prog:=X.prog) (w:=X.w) (I.ok.hd D) l lo 1 n;refine W.item i s _ _ R d λv q T V p Y=>?_;let⟨t,rfl⟩:=V;have Z:Inv X pins σ H {s with heap:=q,toks:=T}:=I.turned (λb o m e=>Y b o (by simpa using m) e) L O F z J;refine⟨_,rfl,Ql (s:={s with heap:=q,toks:=T}) (n:= "range_iterator") p rfl rfl ⋯ ⟨.int (lo+i),H,Z,⟨t,?_⟩,⟨rfl,rfl⟩,p,λb m=>(y b m).1⟩⟩;rw[Int.mul_one]
 done:=by
  intro X S B G D i pins s σ H E I y d R;subst S B G;let⟨L,O,U,F,z,J⟩:=y l 'a';exact wpAny_pyNext_range_end (I.ok.hd D) d (by have:n≤i:=R;omega) λq eb=>⟨rfl,I.turned (t':=s.toks) (λb o m e=>eb b o m e) L O F z J⟩
 self:=λ_ _ _ _ _ d h=>wpAny_pyIter_rangeiter d h
section
variable {X:Cx}{tg:Expr}
theorem JN{s:GT}{R:It->Hp->Prop}{lo d:Int}{t u v:Tok}{l:Nat}(I:Inv X pins σ H s)(m : -(2^62)≤lo)(B:lo<2^62)(y : -(2^62)≤d)(n:d<2^62)
  (q:R (Itr lo (d-lo).toNat) H):wpAny (model X.prog X.w) X.A (afZ (.ref s.heap.objs.size)) (PIE X pins σ tg R) E {s with heap:=s.heap.push {cls:=.type "range",data:=.fields #[.int lo t,.int d u,.int 1 v]},toks:=l}:=by
 refine wpAny_pyIter_range (IsRange.new ..) (small_one m B y n) ?_;have k:Inv X pins σ H {s with heap:=s.heap.push {cls:=.type "range",data:=.fields #[.int lo t,.int d u,.int 1 v]},toks:=l}:=I.kept λb o e=>Io _ e;refine⟨(s.heap.push {cls:=.type "range",data:=.fields #[.int lo t,.int d u,.int 1 v]}).objs.size,[(s.heap.push {cls:=.type "range",data:=.fields #[.int lo t,.int d u,.int 1 v]}).objs.size],_,_,H,rfl,
  k.kept (t':=l) λb o e=>Io _ e,y8 _ lo (d-lo).toNat,?_,λb p=>?_,q⟩
 .have e1:lo+((0:Nat):Int)*1=lo:=by simp
  have z:(((d-lo).toNat):Int)-((0:Nat):Int)=adn.Range.rangeSize lo d 1:=by rw[rangeSize_one];split<;>omega
  rw[e1,z];exact aal _ rfl
 .have e:b=(s.heap.push {cls:=.type "range",data:=.fields #[.int lo t,.int d u,.int 1 v]}).objs.size:=by simpa using p
  subst e;exact k.fpOk (aaa _) (k.hok.fresh (aaa _))
def Yp(ta:TA):TI:=λσ H R=>ta σ H λvs d=>∃j:Int,vs=[.int j]/\-(2^62)≤j/\j<2^62/\R (Itr 0 j.toNat) d
theorem FU{a:Expr}{ta:TA}{p:Pos}(m:Gl X "range")(z:X.mg "range" = none)(l:PA X [a] ta)(k:aab [a] X.env=[(false,eval a X.env)]:=by rfl):PI X tg (.Call (.Name "range" p) [a] [] pos) (Yp ta):=by
 intro pins s σ H R I h;refine Call_ (lh I m z boot_range (acs (thn (l pos pins s σ H _ I h) λus s1 ⟨vs,B,n,r1,d⟩=>?_) k rfl));let⟨j,e,d,y,q⟩:=d;subst e
 cases r1 with
 |cons r rr=>
  cases rr;let⟨t,rfl⟩:=r;exact call_range_1 (JN n ⋯ ⋯ d y (by simpa))
def tFor(q:TI)(g:TG)(tb:TS):TS:=λD σ H=>q σ H λJ s=>∃W:Nat->Nat->St->Hp->Prop,(∃m,W 0 m σ s)/\∀i m σ H,W i m σ H ->
 (J.stop i H/\D.nx σ H)\/(J.go i H/\∃N:St->Hp->Prop,(∀d k,N d k->∃n,n<m/\W (i+1) n d k)/\∀x k,J.yld i H x k->g x σ k λl p=>tb {D with nx:=N,ct:=N,bk:=D.nx} l p)
def u9(fp:List Addr)(h:aaZ):List 'i':=fp.filterMap λb=>(h.get? b).map λo=>(b,o)
def iK{o:Obj}(d:b∈fp)(e:h.get? b=some o):(b,o)∈u9 fp h:=List.mem_filterMap.mpr ⟨b,d,by rw[e];rfl⟩
theorem Cz{p:Addr×Obj}(k:p∈u9 fp h):p.1∈fp/\h.get? p.1=some p.2:=by
 let⟨b,d,e⟩:=List.mem_filterMap.mp k
 cases q:h.get? b with
 |none=>rw[q]at e;cases e
 |some o=>
  rw[q]at e;have l:=aay e;subst l;exact⟨d,q⟩
theorem Inv.pinned{s:GT}(I:Inv X pins σ H s)(m:∀b∈fp,FpOk X pins H b)(l:∀b∈fp,∃o,s.heap.get? b=some o/\∀v,o.data≠.cell v):Inv X (pins++u9 fp s.heap) σ H s:=
 I.pins_of λp k=>(aaR.mp k).elim (λz=>I.pin p (aaQ _ z)) λz=>by
  let⟨d,e⟩:=Cz z;let⟨n,q,t,_⟩:=m p.1 d;obtain _:=l p.1 d
  simp_all
def Inv.unpinned{pl:List 'i'}{s:GT}(I:Inv X (pins++pl) σ H s):Inv X pins σ H s:=I.pins_of λp d=>I.pin p (aaQ _ (abW _ d))
theorem WF{y:Expr}{wi:TI}{g:TG}{tb:TS}(S:afL (model X.prog X.w) X.A X.env X.xe)(hc:X.calm=true)(hi:PI X tg y wi)(hg:PG X tg g)(l:PSs X body tb)
  (hs:∀x,aaT y X.env x=pure x:=by intro _;rfl):PS X (.For tg y body [] pos) (tFor wi g tb):=by
 intro pins s σ H D I h;refine wpAny_For (thn (hi pins s σ H _ I h) λv s1 h1=>thn h1 λitv s2 h2=>?_) hs;let⟨it,fp,tn,J,H2,e,I2,T,st2,f2,W,⟨m0,w0⟩,V⟩:=h2;subst e;have p:∀{G:Hp},(∀b∈fp,G b=none)->∀b∈fp,FpOk X pins G b:=λhn b l=>⟨hn b l,(f2 b l).2⟩;refine codeAny_forLoop_any (λn s'=>∃i z G,Inv X pins z G s'/\tn i s'.heap/\(∀b∈fp,G b=none)/\W i n z G) ?_ m0 ⟨0,σ,H2,I2,st2,λb l=>(f2 b l).1,w0⟩;intro n s3 ⟨i,B,Y,I3,U,P,w3⟩;rcases V i n B Y w3 with⟨stop,qn⟩|⟨go,N,hN,step⟩
 .refine acJ S (thn (T.done X rfl rfl rfl hc i pins s3 B Y X.xe I3 (p P) U stop) λr s4 ⟨hr,I4⟩=>?_);subst hr;exact aeI ⟨B,Y,I4,qn⟩
 .refine acJ S (thn (T.item X rfl rfl rfl hc i pins s3 B Y X.xe I3 (p P) U go) λr s4 ⟨u,hr,h4⟩=>?_);subst hr;refine acJ S (thn h4 λ_ s5 ⟨x,H5,I5,r5,y5,O,fr5⟩=>?_);have I5':=I5.pinned (p fr5) (T.obj _ _ O);refine acJ S (thn (hg _ s5 B H5 x u _ I5' r5 (step x H5 y5)) λ_ s6 ⟨Z,H6,I6,q6⟩=>?_);refine acJ S (thn (l _ s6 Z H6 _ I6 q6) λf s7 L=>?_);have F:∀{k:St}{t:Hp},Inv X (pins++u9 fp s5.heap) k t s7->N k t->∃m,m<n/\∃i z G,Inv X pins z G s7/\tn i s7.heap/\(∀b∈fp,G b=none)/\W i m z G:=λ{k t} q R=>by
   let⟨m',hm,w7⟩:=hN k t R;refine⟨m',hm,i+1,k,t,q.unpinned,T.keep _ _ _ O λb l o e=>(q.pin (b,o) (aaQ _ (aaQ _ (iK l e)))).1,λb l=>?_,w7⟩;let⟨o,e,d⟩:=T.obj _ _ O b l;exact(q.pin (b,o) (aaQ _ (aaQ _ (iK l e)))).2.1
  cases f with
  |next=>let⟨k,t,q,R⟩:=L;exact F q R
  |cont=>let⟨k,t,q,R⟩:=L;exact F q R
  |brk=>let⟨k,t,q,L⟩:=L;exact⟨k,t,q.unpinned,L⟩
  |ret v=>let⟨x7,k,t,q,r7,L⟩:=L;exact⟨x7,k,t,q.unpinned,r7,L⟩
end
abbrev R2:=V->V->Hp->VK->Prop
def OpR(X:Cx)(f:Ad->Ad->Sem Ad)(r:R2):Prop:=
 ∀(pins:List 'i') (s:GT) (σ:St) (H:Hp) (x y:V) (v u:Ad) (Q:VK),Inv X pins σ H s->RelV x v->RelV y u->r x y H Q ->
  wpAny (model X.prog X.w) X.A (f v u) (EP X pins σ Q) X.xe s
def UnR(X:Cx)(f:Ad->Sem Ad)(r:V->Hp->VK->Prop):Prop:=
 ∀(pins:List 'i') (s:GT) (σ:St) (H:Hp) (x:V) (v:Ad) (Q:VK),Inv X pins σ H s->RelV x v->r x H Q ->
  wpAny (model X.prog X.w) X.A (f v) (EP X pins σ Q) X.xe s
def fh(X:Cx)(f:Ad)(r:List V->Hp->VK->Prop):Prop:=
 ∀(pins:List 'i') (s:GT) (σ:St) (H:Hp) (d:List V) (us:List Ad) (Q:VK),Inv X pins σ H s->Vals d us->r d H Q ->
  wpAny (model X.prog X.w) X.A (call f us) (EP X pins σ Q) X.xe s
def tOp(r:R2)(ta tb:TE):TE:=λσ H Q=>ta σ H λx k=>tb σ k λy d=>r x y d Q
def tUn(r:V->Hp->VK->Prop)(ta:TE):TE:=λσ H Q=>ta σ H λx d=>r x d Q
def rI(C:Int->Int->Prop)(g:Int->Int->V):R2:=λx y H Q=>∃i j,x = .int i/\y = .int j/\C i j/\Q (g i j) H
def rI0(g:Int->Int->V):R2:=λx y H Q=>∃i j,x = .int i/\y = .int j/\Q (g i j) H
def rU(g:Int->V):V->Hp->VK->Prop:=λx H Q=>∃i,x = .int i/\Q (g i) H
section
variable {X:Cx}{a b c:Expr}{ta tb d:TE}{pos:Pos}
def binT(p:PE X a ta)(D:PE X b tb){s:GT}{R:V->V->Hp->Prop}(I:Inv X pins σ H s)
  (h:ta σ H λx n=>tb σ n λy k=>R x y k) 
  (F:∀v u s2 x y k,Inv X pins σ k s2->RelV x v->RelV y u->R x y k->wpAny (model X.prog X.w) X.A (f v u) Q X.xe s2) :
  wpAny (model X.prog X.w) X.A (eval a X.env) (λv m=>wpAny (model X.prog X.w) X.A (eval b X.env) (λu l=>wpAny (model X.prog X.w) X.A (f v u) Q X.xe l) X.xe m) X.xe s:=by
 refine thn (p pins s σ H _ I h) λv s1 ⟨x,n,t,r1,z⟩=>?_;refine thn (D pins s1 σ n _ t z) λu s2 ⟨y,k,q,G,B⟩=>?_;exact F v u s2 x y k q r1 G B
theorem YC{op:ae3}(t:OpR X (ach op) r)(l:PE X a ta)(n:PE X b tb):PE X (.BinOp a op b pos) (tOp r ta tb):=by
 intro pins s σ H Q I h;exact wpAny_BinOp (binT l n I h λv u s2 x y m p k z q=>t pins s2 σ m x y v u Q p k z q)
theorem YV{op:UnaryOp}{r:V->Hp->VK->Prop}(l:UnR X (unaryOp op) r)(m:PE X a ta):PE X (.UnaryOp op a pos) (tUn r ta):=by
 intro pins s σ H Q I h;exact UnaryOp_ (thn (m pins s σ H _ I h)<|by intro v s1 ⟨x,n,k,r1,q⟩;exact l pins s1 σ n x v Q k r1 q)
theorem opI{C:Int->Int->Prop}
  (k:∀(i j:Int) (t u:Tok) (s:GT) (Q:Ad->GT->Prop) (E:Ad->GT->Prop),C i j->Q (.int (g i j) s.toks) {s with toks:=s.toks+1}->wpAny (model X.prog X.w) X.A (f (.int i t) (.int j u)) Q E s) :
  OpR X f (rI C λi j=>.int (g i j)):=by
 intro pins s σ H x y v u Q I l n h;let⟨i,j,rfl,rfl,m,q⟩:=h;let⟨t,rfl⟩:=l;let⟨t',rfl⟩:=n;exact k i j t t' s _ _ m ⟨.int _,H,I.tok _,⟨_,rfl⟩,q⟩
theorem opI0
  (k:∀(i j:Int) (t u:Tok) (s:GT) (Q:Ad->GT->Prop) (E:Ad->GT->Prop),Q (.int (g i j) s.toks) {s with toks:=s.toks+1}->wpAny (model X.prog X.w) X.A (f (.int i t) (.int j u)) Q E s) :
  OpR X f (rI0 λi j=>.int (g i j)):=by
 intro pins s σ H x y v u Q I l m h;let⟨i,j,rfl,rfl,q⟩:=h;let⟨t,rfl⟩:=l;let⟨t',rfl⟩:=m;exact k i j t t' s _ _ ⟨.int _,H,I.tok _,⟨_,rfl⟩,q⟩
theorem opB0{g:Int->Int->Bool}
  (k:∀(i j:Int) (t u:Tok) (s:GT) (Q:Ad->GT->Prop) (E:Ad->GT->Prop),Q (.bool (g i j)) s->wpAny (model X.prog X.w) X.A (f (.int i t) (.int j u)) Q E s) :
  OpR X f (rI0 λi j=>.bl (g i j)):=by
 intro pins s σ H x y v u Q I l m h;let⟨i,j,rfl,rfl,q⟩:=h;let⟨t,rfl⟩:=l;let⟨t',rfl⟩:=m;exact k i j t t' s _ _ ⟨.bl _,H,I,rfl,q⟩
def CPow(i j:Int):Prop:=0≤j/\j≤1000000/\i.natAbs<2^64
def CMul(i j:Int):Prop:=(-(2^64)<i/\i<2^64)\/(-(2^64)<j/\j<2^64)
def CMul.ok{i j:Int}(h:CMul i j):ag8 i j:=by
 rcases h with⟨k,l⟩|⟨k,l⟩
 .exact .of_left (intBits_le_64 k l)
 .exact .of_right (intBits_le_64 k l)
def Vi:OpR X (ach .Add) (rI0 λi j=>.int (i+j)):=opI0 λ_ _ _ _ _ _ _ q=>add_int q
theorem UH:OpR X (ach .Mod) (rI (λ_ j=>0<j) λi j=>.int (i%j)):=opI λi j _ _ _ _ _ k q=>by
 exact mod_int' ∅ (by rw[Int.fmod_eq_emod_of_nonneg i ∅];exact q)
def T6:OpR X (ach .Pow) (rI CPow λi j=>.int (i^j.toNat)):=opI λ_ _ _ _ _ _ _ k q=>pow_int_small k.1 k.2.1 k.2.2 q
theorem unI{f:Ad->Sem Ad}{g:Int->Int}
  (k:∀(i:Int) (t:Tok) (s:GT) (Q:Ad->GT->Prop) (E:Ad->GT->Prop),Q (.int (g i) s.toks) {s with toks:=s.toks+1}->wpAny (model X.prog X.w) X.A (f (.int i t)) Q E s) :
  UnR X f (rU λi=>.int (g i)):=by
 intro pins s σ H x v Q I l h;let⟨i,rfl,q⟩:=h;let⟨t,rfl⟩:=l;exact k i t s _ _ ⟨.int _,H,I.tok _,⟨_,rfl⟩,q⟩
def Vk:UnR X (unaryOp .USub) (rU λi=>.int (-i)):=unI λ_ _ _ _ _ q=>neg_int q
end
def scal:V->V->Bool
 | .non,.non=>true | .non,.int _=>true | .int _,.non=>true | .non,.bl _=>true | .bl _,.non=>true | .non,.str _=>true | .str _,.non=>true
 | .int _,.int _=>true | .bl _,.bl _=>true | .str _,.str _=>true | .byt _,.byt _=>true
 | .int _,.str _=>true | .str _,.int _=>true | .bl _,.str _=>true | .str _,.bl _=>true
 |_,_=>false
def rEq:R2:=λx y H Q=>scal x y=true/\Q (.bl (decide (x=y))) H
def rNe:R2:=λx y H Q=>scal x y=true/\Q (.bl (!decide (x=y))) H
def DW{i j:Int}:decide (V.int i=V.int j)=(i==j):=by
 rw[abq];simp
def Kg{i j:Bool}:decide (V.bl i=V.bl j)=(i==j):=by
 rw[abq];simp
def qB{i j:Str}:decide (V.str i=V.str j)=(i==j):=by
 rw[abq];simp
def BF{i j:Array UInt8}:decide (V.byt i=V.byt j)=(i.toList==j.toList):=by
 rw[abq];simp
section
variable {X:Cx}{a b c:Expr}{ta tb f:TE}{pos:Pos}
def bF{s:GT}{Q:VK}{k k':Bool}(I:Inv X pins σ H s)(q:Q (.bl k) H)(e:k=k'):EP X pins σ Q (.bool k') s:=by
 subst e;exact⟨.bl k,H,I,rfl,q⟩
theorem Za:OpR X (aa0 .Eq) rEq:=by
 intro pins s σ H x y v u Q I l d h;let⟨k,q⟩:=h
 cases x with
 |non=>
  cases l
  cases y with
  |non=>cases d;exact PySem.EqNone.eq_none_none (bF I q 'a')
  |bl j=>cases d;exact PySem.EqNone.eq_none_bool (bF I q 'a')
  |int j=>let⟨t',rfl⟩:=d;exact PySem.EqNone.eq_none_int (bF I q 'a')
  |str j=>let⟨t',rfl⟩:=d;exact PySem.EqNone.eq_none_str (bF I q 'a')
  |_=>exact absurd (show false=true from k) aap
 |bl i=>
  cases l
  cases y with
  |non=>cases d;exact PySem.EqNone.eq_bool_none (bF I q 'a')
  |bl j=>cases d;exact eq_bool (bF I q Kg)
  |str j=>let⟨t',rfl⟩:=d;exact PySem.EqMixed.eq_bool_str (bF I q 'a')
  |_=>exact absurd (show false=true from k) aap
 |int i=>
  let⟨t,rfl⟩:=l
  cases y with
  |non=>cases d;exact PySem.EqNone.eq_int_none (bF I q 'a')
  |int j=>let⟨t',rfl⟩:=d;exact eq_int (bF I q DW)
  |str j=>let⟨t',rfl⟩:=d;exact PySem.EqMixed.eq_int_str (bF I q 'a')
  |_=>exact absurd (show false=true from k) aap
 |str i=>
  let⟨t,rfl⟩:=l
  cases y with
  |non=>cases d;exact PySem.EqNone.eq_str_none (bF I q 'a')
  |bl j=>cases d;exact PySem.EqMixed.eq_str_bool (bF I q 'a')
  |int j=>let⟨t',rfl⟩:=d;exact PySem.EqMixed.eq_str_int (bF I q 'a')
  |str j=>let⟨t',rfl⟩:=d;exact eq_str (bF I q qB)
  |_=>exact absurd (show false=true from k) aap
 |byt i=>
  let⟨t,rfl⟩:=l
  cases y with
  |byt j=>let⟨t',rfl⟩:=d;exact PySem.W.eq_bytes (bF I q BF)
  |_=>exact absurd (show false=true from k) aap
 |_=>cases y<;>exact absurd (show false=true from k) aap
theorem YD:OpR X (aa0 .NotEq) rNe:=by
 intro pins s σ H x y v u Q I l d h;let⟨k,q⟩:=h
 cases x with
 |non=>
  cases l
  cases y with
  |non=>cases d;exact PySem.EqNone.ne_none_none (bF I q 'b')
  |bl j=>cases d;exact PySem.EqNone.ne_none_bool (bF I q 'a')
  |int j=>let⟨t',rfl⟩:=d;exact PySem.EqNone.ne_none_int (bF I q 'a')
  |str j=>let⟨t',rfl⟩:=d;exact PySem.EqNone.ne_none_str (bF I q 'a')
  |_=>exact absurd (show false=true from k) aap
 |bl i=>
  cases l
  cases y with
  |non=>cases d;exact PySem.EqNone.ne_bool_none (bF I q 'a')
  |bl j=>cases d;exact ne_bool (bF I q (congrArg not Kg))
  |str j=>let⟨t',rfl⟩:=d;exact PySem.EqMixed.ne_bool_str (bF I q 'a')
  |_=>exact absurd (show false=true from k) aap
 |int i=>
  let⟨t,rfl⟩:=l
  cases y with
  |non=>cases d;exact PySem.EqNone.ne_int_none (bF I q 'a')
  |int j=>let⟨t',rfl⟩:=d;exact ne_int (bF I q (congrArg not DW))
  |str j=>let⟨t',rfl⟩:=d;exact PySem.EqMixed.ne_int_str (bF I q 'a')
  |_=>exact absurd (show false=true from k) aap
 |str i=>
  let⟨t,rfl⟩:=l
  cases y with
  |non=>cases d;exact PySem.EqNone.ne_str_none (bF I q 'a')
  |bl j=>cases d;exact PySem.EqMixed.ne_str_bool (bF I q 'a')
  |int j=>let⟨t',rfl⟩:=d;exact PySem.EqMixed.ne_str_int (bF I q 'a')
  |str j=>let⟨t',rfl⟩:=d;exact ne_str (bF I q (congrArg not qB))
  |_=>exact absurd (show false=true from k) aap
 |byt i=>
  let⟨t,rfl⟩:=l
  cases y with
  |byt j=>let⟨t',rfl⟩:=d;exact PySem.W.ne_bytes (bF I q (congrArg not BF))
  |_=>exact absurd (show false=true from k) aap
 |_=>cases y<;>exact absurd (show false=true from k) aap
def Yu:OpR X (aa0 .Lt) (rI0 λi j=>.bl (decide (i<j))):=opB0 λ_ _ _ _ _ _ _ q=>lt_int q
def Y6:OpR X (aa0 .LtE) (rI0 λi j=>.bl (decide (i≤j))):=opB0 λ_ _ _ _ _ _ _ q=>le_int q
def Yc:OpR X (aa0 .Gt) (rI0 λi j=>.bl (decide (j<i))):=opB0 λ_ _ _ _ _ _ _ q=>gt_int q
def Ye:OpR X (aa0 .GtE) (rI0 λi j=>.bl (decide (j≤i))):=opB0 λ_ _ _ _ _ _ _ q=>ge_int q
theorem Ph:OpR X (aa0 .IsNot) (λx y H Q=>y = .non/\Q (.bl (!decide (x = .non))) H):=by
 intro pins s σ H x y v u Q I d k h;let⟨rfl,q⟩:=h;cases k;refine isnot_none_gen (bF I q ?_)
 cases x<;>first
  |(cases d;rfl)
  |(let⟨t,rfl⟩:=d;rfl)
def aC(b:Expr)(h:op≠.In:=by decide)(l:op≠.NotIn:=by decide):acO op b=false:=by
 have k:(op==CmpOp.In)=false:=by cases op<;>first|rfl|exact absurd rfl h
 have d:(op==CmpOp.NotIn)=false:=by cases op<;>first|rfl|exact absurd rfl l
 cases b<;>simp[acO,k,d]
theorem LU(t:OpR X (aa0 op) r)(k:PE X a ta)(m:PE X b tb)(n:acO op b=false):PE X (.Compare a [op] [b] pos) (tOp r ta tb):=by
 intro pins s σ H Q I h;exact wpAny_Compare1 (binT k m I h λv u s2 x y l p d z q=>t pins s2 σ l x y v u Q p d z q) n
def SE(t:TE):TT:=λσ H Q=>t σ H λx d=>∃k,x = .bl k/\Q k d
theorem PF(J:OpR X (aa0 op) r)(l:PE X a ta)(n:PE X b tb)(t:acO op b=false):PT X (.Compare a [op] [b] pos) (SE (tOp r ta tb)):=by
 intro pins s σ H Q I h;refine wpAny_isTrue_Compare1 (thn (l pins s σ H _ I h) λv s1 ⟨x,D,L,r1,p⟩=>thn (n pins s1 σ D _ L p) λu s2 ⟨y,m,B,O,q⟩=>
  thn (J pins s2 σ m x y v u _ B r1 O q) λc R ⟨z,F,d,G,k,e,P⟩=>?_) t
 subst e;cases G;exact adm ⟨F,d,P⟩
def JZ(r n:R2)(ta tb f:TE):TE:=λσ H Q=>ta σ H λx q=>tb σ q λy p=>r x y p λz d=>∃k,z = .bl k/\
 (if k=true then f σ d λl m=>n y l m Q else Q (.bl false) d)
theorem IL{l:CmpOp}{p:R2}(ho:OpR X (aa0 op) r)(m:OpR X (aa0 l) p)(F:PE X a ta)(W:PE X b tb)(hc:PE X c f)
  (hm:lastMarks [op,l] [b,c]=false:=by with_unfolding_all rfl):PE X (.Compare a [op,l] [b,c] pos) (JZ r p ta tb f):=by
 intro pins s σ H Q I h;refine Compare_chain (thn (F pins s σ H _ I h) λv s1 ⟨x,J,R,r1,Z⟩=>chain_link (thn (W pins s1 σ J _ R Z) λu s2 ⟨y,T,Y,B,U⟩=>
  thn (ho pins s2 σ T x y v u _ Y r1 B U) λd s3 ⟨z,t,n,O,k,e,q⟩=>?_)) hm
 subst e;cases O;refine adm ?_
 cases k with
 |false=>exact ite_ff ⟨.bl false,t,n,rfl,q⟩
 |true=>exact ite_tt (chain_last (thn (hc pins s3 σ t _ n q)<|by intro D P ⟨L,S,I4,V,G⟩;exact m pins P σ S y L u D Q I4 B V G))
def uj:(aak:Nat)<2^63:=by  decide
theorem zy:OpR X (ach .Add) (λx y H Q=>∃i j,x = .str i/\y = .str j/\i.length+j.length≤aak/\Q (.str (i++j)) H):=by
 intro pins s σ H x y v u Q I d l h;let⟨i,j,rfl,rfl,k,q⟩:=h;let⟨t,rfl⟩:=d;let⟨t',rfl⟩:=l;exact add_str (λt' m=>⟨.str _,H,I.tok _,⟨_,rfl⟩,q⟩) k
theorem zf{x:V}(r:Vals [x] us):∃u,us=[u]/\RelV x u:=by
 cases r with
 |cons r1 d=>cases d;exact⟨_,rfl,r1⟩
theorem XH{x y:V}(r:Vals [x,y] us):∃u d,us=[u,d]/\RelV x u/\RelV y d:=by
 cases r with
 |cons r1 m=>
  cases m with
  |cons l k=>cases k;exact⟨_,_,rfl,r1,l⟩
theorem C9(hc:X.calm=true):fh X (.builtin "min") (λxs H Q=>∃i j,xs=[.int i,.int j]/\Q (.int (if j<i then j else i)) H):=by
 intro pins s σ H xs us Q I r h;let⟨i,j,rfl,q⟩:=h;let⟨u,l,rfl,⟨t,rfl⟩,⟨t',rfl⟩⟩:=XH r;refine min_two_ints (I.ok.hd hc) λm n k=>⟨_,H,I.kept k,?_,q⟩
 by_cases d:j<i
 .rw[if_pos d,if_pos d];exact⟨_,rfl⟩
 .rw[if_neg d,if_neg d];exact⟨_,rfl⟩
theorem uW:fh X (.type "int") (λxs H Q=>(∃i,xs=[.int i]/\Q (.int i) H)\/∃k,xs=[.bl k]/\Q (.int (if k then 1 else 0)) H):=by
 intro pins s σ H xs us Q I r h;rcases h with⟨i,rfl,q⟩|⟨k,rfl,q⟩
 .obtain⟨u,rfl,t,rfl⟩:=zf r;exact call_int_int ⟨.int i,H,I,⟨_,rfl⟩,q⟩
 .obtain⟨u,rfl,r1⟩:=zf r;cases r1;exact call_int_bool ⟨.int _,H,I.tok _,⟨_,rfl⟩,q⟩
end
structure ObjM(h:aaZ)(x dx C:Addr)(mA:Str->Option Ad):Prop where
 obj:h.get? x=some (acm C dx)
 ns:h.Ns1 dx mA
 ne:dx≠x
theorem DJ{dx:Addr}(n:h.Ns1 dx mA):∃k,h.get? dx=some k/\∀name,ae5 name k=some (mA name):=by
 let⟨o,es,B,s,hd,hk,_,p⟩:=n;refine⟨o,s,λname=>?_⟩;have e:=p name;unfold nsFind findBy at e;rw[<-Array.find?_toList]at e;unfold ae5;rw[hd];dsimp;split
 .rename_i y q;rw[q]at e;exact congrArg some e
 .rename_i q;rw[q]at e;have a:es.toList.any (·.refKey)=false:=by
   rw[List.any_eq_false];intro y l;let⟨z,t,d⟩:=hk y (aeC.mp l);simp[aca.refKey,d]
  have m:¬es.toList.any (·.refKey)=true:=by rw[a];exact aap
  rw[if_neg m];exact congrArg some e
def ObjM.look{x dx:Addr}(I:ObjM h x dx C mA):∃d,PySem.W.InstAt h x (acm C dx) C (some d)/\∀name,ae5 name d=some (mA name):=
 let ⟨d,ho,hl⟩:=DJ I.ns
 ⟨d,⟨I.obj,rfl,rfl,ho⟩,hl⟩
section
variable {prog:aax}{w:World}{A:aa8}{E:Ad->GT->Prop}{s:GT}{K:aae}{x dx C f:Addr}{m:Str->Option Ad}{name:Str}{v:Ad}
def P6{d:Bool}(X:K.In s.heap)(I:ObjM s.heap x dx C m)(q:acV K C name=true)(l:ado K C=true)
  (n:abr K (.ref C) name=some none) (p:m name=some v) (k:ahl v=true) (h:Q v {s with toks:=s.toks+1}) :
  wpAny (model prog w) A (getAttr (.ref x) name d) Q E s:=by
 let⟨y,J,t⟩:=I.look;exact PySem.W.get_value X J (aeS q).1 (PySem.W.findObj_own l n rfl (by rw[t,p])) k h
def Gc{Q:Ad×List Ad->GT->Prop}(X:K.In s.heap)(I:ObjM s.heap x dx C m)(d:acV K C name=true)
  (p:abr K (.ref C) name=some (some (.ref f))) (q:aeU K (.ref f)=true) (l:m name=none) (h:Q (.ref f,[.ref x]) s) :
  wpAny (model prog w) A (aeu (.ref x) name pl) Q E s:=by
 let⟨k,J,n⟩:=I.look;exact PySem.W.method_fn X J (aeS d).1 (aeS d).2 p (beq_iff_eq.mp q) (by show(ae5 name k).map (·.isSome)=some false;rw[n,l];rfl) h
theorem Mn{ns:List Str}{Q:Unit->GT->Prop}(X:K.In s.heap)(I:ObjM s.heap x dx C m)
  (L:abr K (.ref C) "__setattr__" = some (some (.builtin "object.__setattr__"))) (t:aed K C=true) (P:age K C name=some none) (D:ado K C=true)
  (z:afY m ns) (hsz:ns.length≤aak)
  (h:∀h',ObjM h' x dx C (λy=>if y=name then some v else m y)->abl dx s.heap h'->Q () {s with heap:=h',toks:=s.toks+2}) :
  wpAny (model prog w) A (setAttr (.ref x) name v) Q E s:=by
 let⟨R,J,T⟩:=I.look;refine PySem.W.set_plain X J L (PySem.W.osa_open (s:={s with toks:=s.toks+1}) (r:=none) X J t P λb=>?_);let⟨U,B,n⟩:=PySem.W.any_some D;have F:s.heap.get? x=some ⟨.ref C,some dx,.plain,#[]⟩:=I.obj;refine gT (LD (gT (gT (wpAny_loadPart F (gT (PySem.W.Looks.here (s:={s with toks:=s.toks+1}) (PySem.W.looks_clsIn X B) ?_))))));rw[n];refine LD (a:=some dx) (gT (LD (gT ?_)));refine wpAny_nsSet1 (s:={s with toks:=s.toks+1}) I.ns λh' k d=>?_;let⟨S,G,O,p,l,q⟩:=k.count (afY.cons name v z);refine gT (wpAny_lookBehind p (by rw[l];exact pastItsLine_dict (aaA q (by rw[aau];omega))) ?_);exact LD (h _ ⟨(d.2 _ (abF I.ne)).trans I.obj,k,I.ne⟩ d)
theorem Gf{R:Result->GT->Prop}{vs:List Ad}(X:K.In s.heap)(n:agf K C=true)
  (k:abr K (.ref C) "__init__" = some (some (.ref f))) (l:PySem.W.typeIn K (.ref f)=some (.type "function"))
  (h:adZ (model prog w) (A.under (.builtin "type.__call__" ⟨.ref C::vs,kw⟩)) (.call (.ref f) ⟨.ref (s.heap.objs.size+1)::vs,kw⟩) (PySem.W.InitBack (s.heap.objs.size+1) R)
   {s with heap:=(s.heap.push abK).push (acm C s.heap.objs.size)}) :
  adZ (model prog w) A (.call (.ref C) ⟨vs,kw⟩) R s:=by
 let⟨p,g,d,t,os⟩:=s;exact PySem.W.make_core (PySem.W.makes_of X n) (PySem.W.looks_findIn X k) (λself=>PySem.W.bind_fn X self l) (.inl rfl) h
end
def putF(f:Str)(v:V):List (Str×V)->List (Str×V)
 |[]=>[(f,v)]
 |(g,x)::r=>if g=f then(g,v)::r else(g,x)::putF f v r
theorem m7(f g:Str)(v:V):∀fs:List (Str×V),(putF f v fs).lookup g=if g=f then some v else fs.lookup g
 |[]=>by
  show aeD g [(f,v)]=_
  by_cases h:g=f
  .simp_all
  .have hb:=beq_eq_false_iff_ne.mpr h;simp only[aeD,hb,if_neg h]
 | (k,x)::r=>by
  have d:=m7 f g v r;rw[show putF f v ((k,x)::r)=(if k=f then(k,v)::r else(k,x)::putF f v r)from rfl]
  by_cases hk:k=f
  .rw[if_pos hk]
   by_cases h:g=k
   .simp_all
   .have hb:(g==k)=false:=beq_eq_false_iff_ne.mpr h;simp only[aeD,hb,if_neg (λe:g=f=>h (e.trans hk.symm))]
  .rw[if_neg hk]
   by_cases h:g=k
   .simp_all
   .have hb:=beq_eq_false_iff_ne.mpr h;simp only[aeD,hb];exact d
theorem o5(f:Str)(v:V):∀fs:List (Str×V),f∈(putF f v fs).map (·.1)/\∀g,g∈fs.map (·.1)->g∈(putF f v fs).map (·.1)
 |[]=>⟨by simp[putF],λg h=>by simp at h⟩
 | (k,x)::r=>by
  let⟨l,d⟩:=o5 f v r;rw[show putF f v ((k,x)::r)=(if k=f then(k,v)::r else(k,x)::putF f v r)from rfl]
  by_cases hk:k=f
  .rw[if_pos hk];subst hk;exact⟨'a',λg h=>by simpa using h⟩
  .rw[if_neg hk];refine⟨?_,λg h=>?_⟩
   .rw[aaq];exact aai _ l
   .rw[aaq]at h⊢;rcases aag.mp h with e|e
    .exact aag.mpr (.inl e)
    .exact aai _ (d g e)
theorem nU(f:Str)(v:V):∀fs:List (Str×V),(putF f v fs).length≤fs.length+1
 |[]=>by simp[putF]
 |(k,x)::r=>by
  have d:=nU f v r;rw[show putF f v ((k,x)::r)=(if k=f then(k,v)::r else(k,x)::putF f v r)from rfl]
  by_cases hk:k=f
  .rw[if_pos hk,aau,aau];omega
  .rw[if_neg hk,aau,aau];omega
theorem RelO.some_of{o:Option Ad}(r:RelO (some v) o):∃u,o=some u/\RelV v u:=by
 cases o with
 |none=>exact(r).elim
 |some u=>exact⟨u,rfl,r⟩
theorem RelO.none_of{o:Option Ad}(r:RelO none o):o=none:=by
 cases o with
 |none=>rfl
 |some u=>exact(r).elim
theorem Bv(r:RelV v u):ahl u=true:=by
 cases v with
 |non=>cases (r);rfl
 |bl b=>cases (r);rfl
 |int i=>let⟨t,e⟩:=(r);cases e;rfl
 |str x=>let⟨t,e⟩:=(r);cases e;rfl
 |byt b=>let⟨t,e⟩:=(r);cases e;rfl
 |flt b=>let⟨t,e⟩:=(r);cases e;rfl
 |ref a=>cases (r);rfl
 |ty n=>cases (r);rfl
section
variable {P:aax}{w:World}{H c:Hp}{h h':aaZ}{a C dx:Addr}{fs b:List (Str×V)}
theorem vk(hok:HOk P w H h)(e:H a=some (.ins C dx fs)):∃mA,ObjM h a dx C mA/\(∀f,RelO (fs.lookup f) (mA f))/\afY mA (fs.map (·.1))/\fs.length≤1000/\H dx=some (.own a):=by
 let⟨d,z,ne,k,mA,n,r,q⟩:=(show ObjOk P w H h a (.ins C dx fs)from hok a _ e);exact⟨mA,⟨k,n,ne⟩,r,q,z,d⟩
end
structure Cls(K:aae)(C:Addr):Prop where
 pg:acV K C ae0=true
 hd:ado K C=true
 po:aed K C=true
 sa:abr K (.ref C) "__setattr__" = some (some (.builtin "object.__setattr__"))
def Cls.get(c:Cls K C)(f:Str):acV K C f=true:=c.pg
def NoAttr(K:aae)(C:Addr)(f:Str):Prop:=abr K (.ref C) f=some none
def NoAttr.taker{f:Str}(n:NoAttr K C f):age K C f=some none:=by
 unfold age;rw[show abr K (.ref C) f=some none from n];rfl
structure Meth(K:aae)(C:Addr)(m:Str)(f:Addr):Prop where
 at_:abr K (.ref C) m=some (some (.ref f))
 fn:aeU K (.ref f)=true
 kp:abM K (.ref f)=true
section
variable {X:Cx}{p:List 'i'}{d:St}{H:Hp}{s:GT}{a C dx:Addr}{fs:List (Str×V)}{f:Str}{v:V}{A:aa8}{E:Ad->GT->Prop}
theorem zm{b:Bool}(I:Inv X p d H s)(e:H a=some (.ins C dx fs))(c:Cls X.K C)(n:NoAttr X.K C f)(l:fs.lookup f=some v)
  (h:∀u s',Inv X p d H s'->RelV v u->Q u s'):wpAny (model X.prog X.w) A (getAttr (.ref a) f b) Q E s:=by
 let⟨mA,O,r,_,_,_⟩:=vk I.hok e;let⟨u,m,k⟩:=RelO.some_of (v:=v) (o:=mA f) (by rw[<-l];exact r f);exact P6 I.kIn O (c.get f) c.hd n m (Bv k) (h u _ (I.tok _) k)
theorem qp{m:Str}{g:Addr}{Q:Ad×List Ad->GT->Prop}(I:Inv X p d H s)(e:H a=some (.ins C dx fs))(c:Cls X.K C)(k:Meth X.K C m g)(l:fs.lookup m=none)
  (h:Q (.ref g,[.ref a]) s):wpAny (model X.prog X.w) A (aeu (.ref a) m pl) Q E s:=by
 let⟨mA,O,r,_,_,_⟩:=vk I.hok e;have n:mA m=none:=RelO.none_of (by rw[<-l];exact r m);exact Gc I.kIn O (c.get m) k.at_ k.fn n h
theorem zo{y:V}{Q:Unit->GT->Prop}(I:Inv X p d H s)(e:H a=some (.ins C dx fs))(c:Cls X.K C)(n:NoAttr X.K C f)(L:fs.length<1000)(G:RelV y u)
  (h:∀s',Inv X p d (upd H a (.ins C dx (putF f y fs))) s'->Q () s'):wpAny (model X.prog X.w) A (setAttr (.ref a) f u) Q E s:=by
 let⟨mA,O,r,l,_,m⟩:=vk I.hok e;have t:(fs.map (·.1)).length≤aak:=by rw[iO,aas];omega
 refine Mn I.kIn O c.sa c.po n.taker c.hd l t λF k B=>h _ ?_;have hd:∃o,F.get? dx=some o:=let ⟨o,_,_,e',_⟩:=k.ns;⟨o,e'⟩;refine I.write (x:=a) (e:=dx) (by rw[e];exact acB) (.inr m) (λb q D z=>(B.2 b D).trans z) hd ?_;refine⟨by rw[av O.ne];exact m,?_,O.ne,k.obj,_,k.ns,λg=>?_,λg J=>?_⟩
 .have:=nU f y fs;omega
 .show RelO ((putF f y fs).lookup g) (if g=f then some u else mA g);rw[m7]
  by_cases q:g=f
  .rw[if_pos q,if_pos q];exact G
  .rw[if_neg q,if_neg q];exact r g
 .by_cases q:g=f
  .rw[q];exact(o5 f y fs).1
  .refine(o5 f y fs).2 g (l g λz=>J ?_);show(if g=f then some u else mA g)=none;rw[if_neg q];exact z
theorem Inv.made(I:Inv X p d H s):Inv X p d (upd (upd H s.heap.objs.size (.own (s.heap.objs.size+1))) (s.heap.objs.size+1) (.ins C s.heap.objs.size []))
  {s with heap:=(s.heap.push abK).push (acm C s.heap.objs.size)}:=by
 have k:(s.heap.push abK).get? s.heap.objs.size=some abK:=aal s.heap rfl;have t:((s.heap.push abK).push (acm C s.heap.objs.size)).get? (s.heap.objs.size+1)=some (acm C s.heap.objs.size):=by
  have:=aal (s.heap.push abK) (o:=acm C s.heap.objs.size) rfl;rwa[abt]at this
 have m:(s.heap.push abK).Ns s.heap.objs.size (λ_=>none):=⟨abK,#[],_,k,rfl,(λe n=>absurd n 'a'),λ_=>rfl⟩;have l:=I.laid (a:=s.heap.objs.size) (o:=.own (s.heap.objs.size+1)) (h':=s.heap.push abK) (t':=s.toks) (λb u q=>Io _ q) (aaa _) ⟨_,k⟩;refine l.laid (a:=s.heap.objs.size+1) (o:=.ins C s.heap.objs.size []) (t':=s.toks) (λb u q=>Io _ q) (af0 (abt _ _)) ?_;have ne:s.heap.objs.size≠s.heap.objs.size+1:=aa1 (abz _);refine⟨by rw[av ne,aA],abB _,ne,t,λ_=>none,(aaZ.Ns1.of_empty m).at λo q=>Io _ q,λ_=>acB,λy z=>absurd rfl z⟩
def Qj{prog:aax}{env:Env}{f:Str}{s:GT}(l:abw e f env (eval e env)=eval e env)
  (h:wpAny (model prog w) A (eval e env) (λo k=>wpAny (model prog w) A (getAttr o f true) Q E k) E s):wpAny (model prog w) A (eval (.Attribute e f pos) env) Q E s:=
 Attribute_any_ h (by rw[arm_eval_Attribute,l])
end
def tFld(K:aae)(ta:TE)(f:Str):TE:=λσ H Q=>ta σ H λx d=>∃a C dx fs v,x = .ref a/\d a=some (.ins C dx fs)/\Cls K C/\NoAttr K C f/\fs.lookup f=some v/\Q v d
def sFld(K:aae)(ta t:TE)(f:Str):TS:=λD σ H=>t σ H λy k=>ta σ k λx d=>∃a C dx fs,x = .ref a/\d a=some (.ins C dx fs)/\Cls K C/\NoAttr K C f/\fs.length<1000/\
 D.nx σ (upd d a (.ins C dx (putF f y fs)))
def InOp(X:Cx)(op:ae3)(d:V->V->Hp->VK->Prop):Prop:=
 ∀(pins:List 'i') (s:GT) (σ:St) (H:Hp) (x y:V) (u v:Ad) (Q:VK),Inv X pins σ H s->RelV x u->RelV y v->d x y H Q->wpAny (model X.prog X.w) X.A (inplaceOp op u v) (EP X pins σ Q) X.xe s
section
variable {X:Cx}{o e b:Expr}{f:Str}{pos p d:Pos}{ta g:TE}
theorem VD(t:PE X e ta)(y:abw e f X.env (eval e X.env)=eval e X.env):PE X (.Attribute e f pos) (tFld X.K ta f):=by
 intro pins s σ H Q I h;refine Qj y (thn (t pins s σ H _ I h) λu s1 ⟨x,B,D,k,a,C,dx,fs,v,ex,F,c,n,l,q⟩=>?_);subst ex;obtain rfl:u=abk a:=k;exact zm D F c n l λG s2 z m=>⟨v,B,z,m,q⟩
theorem UW(t:PE X o ta)(z:PE X b g)(L:abE b (some (.Attribute o f p)) pos.line X.env=pure false):PS X (.Assign [.Attribute o f p] b pos) (sFld X.K ta g f):=by
 intro pins s σ H D I h;refine plainObj_wpAny_Assign_Attribute (thn (z pins s σ H _ I h) λu s1 ⟨y,G,P,O,q⟩=>thn (t pins s1 σ G _ P q) λJ s2 ⟨x,S,F,k,a,C,dx,fs,ex,R,c,n,l,B⟩=>?_) L;subst ex;obtain rfl:J=abk a:=k;exact zo F R c n l O λT m=>⟨σ,_,m,B⟩
def rAdd:V->V->Hp->VK->Prop:=λx y H Q=>∃i j,x = .int i/\y = .int j/\Q (.int (i+j)) H
def rSub:V->V->Hp->VK->Prop:=λx y H Q=>∃i j,x = .int i/\y = .int j/\Q (.int (i-j)) H
theorem V9:InOp X .Add rAdd:=by
 intro pins s σ H x y u v Q I k l ⟨i,j,rfl,rfl,q⟩;let⟨t,rfl⟩:=(k);let⟨t',rfl⟩:=(l);exact PyProof.Rows.iadd_int ⟨.int _,H,I.tok _,⟨_,rfl⟩,q⟩
theorem WJ:InOp X .Sub rSub:=by
 intro pins s σ H x y u v Q I k l ⟨i,j,rfl,rfl,q⟩;let⟨t,rfl⟩:=(show ∃t,u=agD i t from k);let⟨t',rfl⟩:=(show ∃t',v=agD j t' from l);exact PyProof.Rows.isub_int ⟨.int (i-j),H,I.tok _,⟨_,rfl⟩,q⟩
end
structure Room(k:Nat)(A:aa8):Prop where
 hd:A.handled=none
 dp:A.depth+3*k+5<recursionLimit
 un:A.units+16*k+200<cLine
 gd:A.guards=some []
theorem Room.mono{k:Nat}(r:Room k A)(h:j≤k):Room j A:=⟨r.hd,by have:=r.dp;omega,by have:=r.un;omega,r.gd⟩
theorem Room.deeper{k:Nat}(r:Room (k+1) A)(env:Env):Room k (A.deeper env):=
 ⟨r.hd,by have:=r.dp;show A.depth+1+3*k+5<_;omega,by have:=r.un;show A.units+3+16*k+200<_;omega,r.gd⟩
def yG:(A.under (.builtin "type.__call__" ⟨.ref C::us,kw⟩)).depth=A.depth+1:=rfl
def zw:(A.under (.builtin "type.__call__" ⟨.ref C::us,kw⟩)).units=A.units+1:=rfl
def vI:(A.under (.builtin "type.__call__" ⟨.ref C::us,kw⟩)).guards=A.guards:=rfl
theorem Room.make{k:Nat}(r:Room (k+1) A)(C:Addr)(us:List Ad)(kw:List (Str×Ad)):Room k (A.under (.builtin "type.__call__" ⟨.ref C::us,kw⟩)):=
 ⟨r.hd,by have:=r.dp;rw[yG];omega,by have:=r.un;rw[zw];omega,by rw[vI];exact r.gd⟩
theorem Room.depth{k:Nat}(r:Room k A):A.depth<recursionLimit:=by have:=r.dp;omega
theorem Room.units{k:Nat}(r:Room k A):A.units+64<cLine:=by have:=r.un;omega
def tNil:TA:=λ_ H Q=>Q [] H
def XV(ta:TE)(tr:TA):TA:=λσ H Q=>ta σ H λx l=>tr σ l λk d=>Q (x::k) d
section
variable {X:Cx}{e:Expr}{a:List Expr}{c:TE}{t:TA}{pos:Pos}
theorem JY:PA X [] tNil:=λ_ _ _ _ H Q I h=>ag9 ⟨[],H,I,.nil,h⟩
theorem v5(k:PE X e c)(m:PA X a t)(d:aab (e::a) X.env=(false,eval e X.env)::aab a X.env:=by rfl):PA X (e::a) (XV c t):=by
 intro pos pins s σ H Q I h;rw[d];show wpAny _ _ (spliced ((false,eval e X.env)::abn pos _)) _ _ s;refine agY (thn (k pins s σ H _ I h) λu s1 ⟨x,D,p,r1,B⟩=>?_);exact thn (m pos pins s1 σ D _ p B)<|by intro us s2 ⟨l,q,n,z,y⟩;exact⟨x::l,q,n,.cons r1 z,y⟩
def tTup(t:TA):TE:=λσ H Q=>t σ H λd k=>d.length≤aak/\∀p,k p=none->Q (.ref p) (upd k p (.tup d))
def tLst(t:TA):TE:=λσ H Q=>t σ H λd k=>d.length≤aak/\∀p,k p=none->Q (.ref p) (upd k p (.lst d))
theorem W9{x1}(h:PA X a t):PE X (.Tuple a x1 pos) (tTup t):=by
 intro pins s σ H Q I k;refine wpAny_Tuple_spliced (thn (h pos pins s σ H _ I k) λus s1 ⟨n,l,d,r,z,q⟩=>⟨by rw[<-r.length];exact z,?_⟩);have m:=d.hok.fresh (aaa _);refine⟨.ref s1.heap.objs.size,upd l s1.heap.objs.size _,d.laid (t':=s1.toks) (λb u e=>Io _ e) (aaa _) ?_,rfl,q _ m⟩;exact⟨z,us,r,⟨_,aal _ rfl,rfl,rfl,_,rfl⟩⟩
theorem Uo(h:PA X a t):PE X (.List a pos) (tLst t):=by
 intro pins s σ H Q I k;refine wpAny_List_spliced (thn (h pos pins s σ H _ I k) λus s1 ⟨n,l,d,r,z,q⟩=>⟨by rw[<-r.length];exact z,?_⟩);have m:=d.hok.fresh (aaa _);refine⟨.ref s1.heap.objs.size,upd l s1.heap.objs.size _,d.laid (t':=s1.toks) (λb u e=>Io _ e) (aaa _) ?_,rfl,q _ m⟩;exact⟨z,us,0,r,aal _ rfl⟩
end
abbrev Sp:=List V->Hp->VK->XK->Prop
abbrev CXT:=List Env->Hp->GT->XK->Ad->GT->Prop
structure Env0(P:aax)(w:World)(K:aae)(mg:Str->Option Ad)(base:aaZ)(A:aa8)(outer:List Env)(s:GT)(H:Hp):Prop where
 frames:A.frames=some outer
 mod:Mod K mg base
 bs:∀b o,base.get? b=some o->s.heap.get? b=some o/\H b=none
 bsz:base.objs.size≤s.heap.objs.size
 funs:s.heap.FunFrames base outer
 frf:∀b∈frs outer,H b=none
 hok:HOk P w H s.heap
 bare:afo s.gens
def CE(outer:List Env)(P:aax)(w:World)(H:Hp)(s:GT)(Q:VK)(u:Ad)(s':GT):Prop:=
 ∃v d,s'.os=s.os/\afo s'.gens/\Un (frs outer) [] H d s.heap s'.heap/\HOk P w d s'.heap/\RelV v u/\Q v d
def CR(CX:CXT)(outer:List Env)(P:aax)(w:World)(H:Hp)(s:GT)(Q:VK)(E:XK)(r:Result)(s':GT):Prop:=
 match r with
 | .ok (.ret u)=>CE outer P w H s Q u s'
 | .ok _=>False
 | .error e=>CX outer H s E e s'
structure FnOk(P:aax)(w:World)(K:aae)(mg:Str->Option Ad)(base:aaZ)(CX:CXT)(k:Nat)(f:Addr)(fd:ab0)(ps:List Str)(sp:Sp):Prop where
 len:∀vs H Q E,sp vs H Q E->vs.length=ps.length
 run:∀(A:aa8) (outer:List Env) (s:GT) (H:Hp) (args:Args) (us:List Ad) (vs:List V) (Q:VK) (E:XK),Room k A->Env0 P w K mg base A outer s H->aha s fd args (ps.zip us)->Vals vs us->sp vs H Q E ->
  adZ (model P w) A (.call (.ref f) args) (CR CX outer P w H s Q E) s
def Env0.make{P:aax}{base:aaZ}{s:GT}(e:Env0 P w K mg base A outer s H)(C:Addr)(us:List Ad)(kw:List (Str×Ad)) :
  Env0 P w K mg base (A.under (.builtin "type.__call__" ⟨.ref C::us,kw⟩)) outer s H:=⟨by first|exact e.frames|(simpa[ pushEnvs]),e.mod,e.bs,e.bsz,e.funs,e.frf,e.hok,e.bare⟩
section
variable {X:Cx}{p:List 'i'}{a:St}{H:Hp}{s s':GT}
def Inv.env0(I:Inv X p a H s):Env0 X.prog X.w X.K X.mg X.base X.A X.stack s H:=
 ⟨I.ok.frames,I.ok.mod,I.bs,aaA I.ok.bsz I.sz,I.stack,I.stkFree,I.hok,I.bare⟩
theorem Inv.after{Q:VK}(I:Inv X p a H s)(h:CE X.stack X.prog X.w H s Q u s'):EP X p a Q u s':=by
 let⟨v,l,os,bare,un,hok,r,q⟩:=h;let⟨m,g,d,t,k⟩:=s';obtain rfl:k=s.os:=os;exact⟨v,l,I.call (h':=m) (g':=g) (d':=d) (t':=t) un hok bare (λb z=>absurd z 'a'),r,q⟩
end
def UT(sp:Sp)(d:List V)(E:XK)(t:TA):TE:=λσ H Q=>t σ H λvs k=>sp (vs++d) k Q E
def N6(C:Addr)(m:Str)(sp:Sp)(d:List V)(E:XK)(ta:TE)(t:TA):TE:=λσ H Q=>ta σ H λx k=>∃a dx fs,x = .ref a/\k a=some (.ins C dx fs)/\fs.lookup m=none/\
 t σ k λvs l=>sp (x::(vs++d)) l Q E
def UQ(C:Addr)(sp:Sp)(d:List V)(E:XK)(t:TA):TE:=λσ H Q=>t σ H λvs k=>∀x dx,k x=none->k dx=none->dx≠x ->
 sp (.ref x::(vs++d)) (upd (upd k dx (.own x)) x (.ins C dx [])) (λv l=>v = .non/\Q (.ref x) l) E
def Binds(K:aae)(fd:ab0)(ps:List Str)(ds:List Ad):Prop:=
 ∀(s:GT) (us:List Ad),K.In s.heap->(us++ds).length=ps.length->aha s fd ⟨us,[]⟩ (ps.zip (us++ds))
def Binds.all{fd:ab0}(h:∀us:List Ad,us.length=ps.length->adO fd ⟨us,[]⟩=pure (ps.zip us)):Binds K fd ps []:=λs us _ d=>by
 rw[aa4]at d⊢;exact .of_eq (h us d)
def lj(CX:CXT)(X:Cx)(E:XK):Prop:=∀(pins:List 'i') (σ:St) (H:Hp) (s:GT) (e:Ad) (d:GT),Inv X pins σ H s->CX X.stack H s E e d->X.xe e d
section
variable {X:Cx}{CX:CXT}{k:Nat}{f C:Addr}{fd:ab0}{ps:List Str}{sp:Sp}{dvs:List V}{ds:List Ad}{E:XK}{x m:Str}{p pos apos:Pos}{e o:Expr}{es:List Expr}{ta:TE}{t:TA}
theorem Du{s:GT}{Q:VK}(F:FnOk X.prog X.w X.K X.mg X.base CX k f fd ps sp)(B:Room k X.A)(n:Binds X.K fd ps ds)(hd:Vals dvs ds)(z:lj CX X E)
  (I:Inv X pins σ H s) (r:Vals vs us) (h:sp (vs++dvs) H Q E):wpAny (model X.prog X.w) X.A (call (.ref f) us) (EP X pins σ Q) X.xe s:=by
 have l:=r.append hd;have y:(us++ds).length=ps.length:=by rw[<-l.length];exact F.len _ _ _ _ h
 refine wpAny_call (aee (F.run X.A X.stack s H _ _ _ Q E B I.env0 (n s us I.kIn y) l h) λr q d=>?_)
 cases r with
 |error e=>exact z pins σ H s e q I d
 |ok fl=>
  cases fl with
  |ret u=>exact I.after d
  |next=>exact acn d
  |brk=>exact acn d
  |cont=>exact acn d
theorem Pj(F:FnOk X.prog X.w X.K X.mg X.base CX k f fd ps sp)(z:Room k X.A)(L:Gl X x)(J:X.mg x=some (.ref f))(hk:abM X.K (.ref f)=true)(D:Binds X.K fd ps ds)(hd:Vals dvs ds)(G:lj CX X E)
  (y:PA X (e::es) t) (d:(x=='g')=false:=by decide) (B:aab (e::es) X.env=(false,eval e X.env)::aab es X.env:=by rfl) (l:(abn pos (aab es X.env)).any (·.1)=false:=by rfl) :
  PE X (.Call (.Name x p) (e::es) [] pos) (UT sp dvs E t):=by
 intro pins s σ H Q I h;refine acD (AV I L J ?_ d);refine ae6 I.ok.mod.kin hk (thn (y pos pins s σ H _ I h) λus s1 ⟨vs,O,n,r,q⟩=>⟨n.kIn,?_⟩) B l;exact Du F z D hd G n r q
theorem L8(L:PE X o ta)(c:Cls X.K C)(y:Meth X.K C m f)(F:FnOk X.prog X.w X.K X.mg X.base CX k f fd ps sp)(J:Room k X.A)(P:Binds X.K fd ps ds)(hd:Vals dvs ds)(R:lj CX X E)(G:PA X (e::es) t)
  (n:aab (e::es) X.env=(false,eval e X.env)::aab es X.env:=by rfl) (d:(abn pos (aab es X.env)).any (·.1)=false:=by rfl)
  (T:eval (.Call (.Attribute o m apos) (e::es) [] pos) X.env=(do
   let ov <- eval o X.env
   acL apos.atName
   let (f,first) <- adX [ov] (aeu ov m pl)
   agv pos f first (abn pos (aab (e::es) X.env)) (acW pos (abX [] X.env))):=by rfl) :
  PE X (.Call (.Attribute o m apos) (e::es) [] pos) (N6 C m sp dvs E ta t):=by
 intro pins s σ H Q I h;refine agn (pl:=pl) (thn (L pins s σ H _ I h) λu s1 ⟨x,S,B,D,a,dx,fs,ex,U,l,q⟩=>?_) T;subst ex;obtain rfl:u=abk a:=D;refine qp B U c y l ?_;refine ae6 (first:=[.ref a]) (h₀:=X.base) I.ok.mod.kin y.kp (thn (G pos pins s1 σ S _ B q) λus s2 ⟨vs,V,z,r,O⟩=>⟨z.kIn,?_⟩) n d;exact Du (us:=.ref a::us) (vs:=.ref a::vs) F J P hd R z (.cons rfl r) O
theorem F8(B:PE X o ta)(c:Cls X.K C)(n:Meth X.K C m f)(F:FnOk X.prog X.w X.K X.mg X.base CX k f fd ps sp)(z:Room k X.A)(D:Binds X.K fd ps ds)(hd:Vals dvs ds)(G:lj CX X E)
  (J:eval (.Call (.Attribute o m apos) [] [] pos) X.env=(do
   let ov <- eval o X.env
   acL apos.atName
   let (f,first) <- adX [ov] (aeu ov m pl)
   agv pos f first (abn pos (aab [] X.env)) (acW pos (abX [] X.env))):=by rfl) :
  PE X (.Call (.Attribute o m apos) [] [] pos) (N6 C m sp dvs E ta tNil):=by
 intro pins s σ H Q I h;refine agn (pl:=pl) (thn (B pins s σ H _ I h) λu s1 ⟨x,O,d,y,a,dx,fs,ex,L,l,q⟩=>?_) J;subst ex;obtain rfl:u=abk a:=y;refine qp d L c n l ?_;exact PySem.W.callWith_K0 (first:=[.ref a]) d.kIn n.kp (Du (us:=[.ref a]) (vs:=[.ref a]) F z D hd G d (.cons rfl .nil) q)
structure Mk(K:aae)(C f:Addr):Prop where
 makes:agf K C=true
 init:abr K (.ref C) "__init__" = some (some (.ref f))
 fn:aeU K (.ref f)=true
 kp:abM K (.ref C)=true
theorem I9{s:GT}{Q:VK}(M:Mk X.K C f)(F:FnOk X.prog X.w X.K X.mg X.base CX k f fd ps sp)(z:Room (k+1) X.A)(D:Binds X.K fd ps ds)(hd:Vals dvs ds)
  (L:lj CX X E) (I:Inv X pins σ H s) (r:Vals vs us)
  (h:∀x dx,H x=none->H dx=none->dx≠x->sp (.ref x::(vs++dvs)) (upd (upd H dx (.own x)) x (.ins C dx [])) (λv B=>v = .non/\Q (.ref x) B) E) :
  wpAny (model X.prog X.w) X.A (call (.ref C) us) (EP X pins σ Q) X.xe s:=by
 have n:=h (s.heap.objs.size+1) s.heap.objs.size (I.hok.fresh (afp _)) (I.hok.fresh (aaa _)) (aa1 (abz _));have l:=Inv.made (C:=C) I;have q:Vals (V.ref (s.heap.objs.size+1)::(vs++dvs)) (abk (s.heap.objs.size+1)::(us++ds)):=.cons rfl (r.append hd);have P:(abk (s.heap.objs.size+1)::us++ds).length=ps.length:=by
  have e:=q.length;rw[F.len _ _ _ _ n]at e;exact e.symm
 refine wpAny_call (Gf (f:=f) I.kIn M.makes M.init (beq_iff_eq.mp M.fn) (aee (F.run _ X.stack _ _ ⟨abk (s.heap.objs.size+1)::us,[]⟩ (abk (s.heap.objs.size+1)::(us++ds)) _ _ E (z.make C us [])
  (l.env0.make C us []) (D _ (abk (s.heap.objs.size+1)::us) l.kIn P) q n) λr G d=>?_))
 cases r with
 |error e=>exact L pins σ _ _ e G l d
 | ok fl=>
  cases fl with
  |ret u=>
   let⟨v,O,y,R,J,S⟩:=l.after d;subst J;exact⟨R,⟨V.ref (s.heap.objs.size+1),O,y,rfl,S⟩⟩
  |next=>exact acn d
  |brk=>exact acn d
  |cont=>exact acn d
theorem QM(M:Mk X.K C f)(F:FnOk X.prog X.w X.K X.mg X.base CX k f fd ps sp)(z:Room (k+1) X.A)(L:Gl X x)(J:X.mg x=some (.ref C))(D:Binds X.K fd ps ds)(hd:Vals dvs ds)(G:lj CX X E)
  (y:PA X (e::es) t) (d:(x=='g')=false:=by decide) (B:aab (e::es) X.env=(false,eval e X.env)::aab es X.env:=by rfl) (l:(abn pos (aab es X.env)).any (·.1)=false:=by rfl) :
  PE X (.Call (.Name x p) (e::es) [] pos) (UQ C sp dvs E t):=by
 intro pins s σ H Q I h;refine acD (AV I L J ?_ d);refine ae6 (h₀:=X.base) I.ok.mod.kin M.kp (thn (y pos pins s σ H _ I h) λus s1 ⟨vs,O,n,r,q⟩=>⟨n.kIn,?_⟩) B l;exact I9 M F z D hd G n r q
end
structure ai(N P:List Str)(sc:Scope):Prop where
 kind:sc.kind = .function
 co:sc.isCoroutine=false
 gen:sc.isGenerator=false
 nd:N.Nodup
 pre:N.take P.length=P
 par:∀x∈P,sc.names.lookup x=some .local\/sc.names.lookup x=some .cell
 nofree:∀y∈sc.names,y.2≠.free
theorem uz{k:Str->Option aeE}{x:Str}:∀{binds:List (Str×Ad)}{m:Str->Option Ad},(∀v,(x,v)∉binds)->bindL k binds m x=m x
 |[],_,_=>rfl
 | (n,v)::r,m,h=>by
  unfold bindL;rw[uz λw d=>h w (aai _ d)];split
  .have:x≠n:=by rintro rfl;exact h v aan
   simp[this]
  .rfl
theorem ui{k:Str->Option aeE}{x:Str}:∀{binds:List (Str×Ad)}{m:Str->Option Ad},(∀v,(x,v)∉binds)->bindC k binds m x=m x
 |[],_,_=>rfl
 | (n,v)::r,m,h=>by
  unfold bindC;rw[ui λw d=>h w (aai _ d)];split
  .rfl
  .have:x≠n:=by rintro rfl;exact h v aan
   simp[this]
theorem uF{k:Str->Option aeE}{x:Str}{v:Ad}:∀{P:List Str}{vs:List Ad}{i:Nat}{m:Str->Option Ad},P.Nodup->P[i]?=some x->vs[i]?=some v->k x=some .local ->
  bindL k (P.zip vs) m x=some v
 |[],_,_,_,_,h,_,_=>by simp at h
 |_::_,[],_,_,_,_,h,_=>by simp at h
 |p::P,w::vs,0,m,nd,h1,h2,hk=>by
  simp at h1 h2;subst h1;subst h2;show bindL k ((p,w)::P.zip vs) m p=_;unfold bindL;rw[uz λv d=>(abb.mp nd).1 (agg d).1,if_pos hk];simp
 |p::P,w::vs,i+1,m,nd,h1,h2,hk=>by
  unfold bindL;exact uF (abb.mp nd).2 ‹_› ‹_› hk
theorem u6{k:Str->Option aeE}{x:Str}{v:Ad}:∀{P:List Str}{vs:List Ad}{i:Nat}{m:Str->Option Ad},P.Nodup->P[i]?=some x->vs[i]?=some v->k x≠some .local ->
  bindC k (P.zip vs) m x=some v
 |[],_,_,_,_,h,_,_=>by simp at h
 |_::_,[],_,_,_,_,h,_=>by simp at h
 |p::P,w::vs,0,m,nd,h1,h2,hk=>by
  simp at h1 h2;subst h1;subst h2;show bindC k (_::P.zip vs) m p=_;unfold bindC;rw[ui λv d=>(abb.mp nd).1 (agg d).1,if_neg hk];simp
 |p::P,w::vs,i+1,m,nd,h1,h2,hk=>by
  unfold bindC;exact u6 (abb.mp nd).2 ‹_› ‹_› hk
def start(N:List Str)(vs:List V):St:=vs.map some++aaj (N.length-vs.length) none
def cxOf(CX:CXT)(P:aax)(w:World)(K:aae)(mg:Str->Option Ad)(base:aaZ)(N:List Str)(q:Str)(scope:Scope)(f:Addr)(k:Ad)(A:aa8)(outer:List Env)(s:GT)(H:Hp)(E:XK):Cx where
 prog:=P
 w:=w
 K:=K
 mg:=mg
 base:=base
 A:=A.deeper (aef q scope s.heap.objs.size f k)
 N:=N
 s₀:=s
 H₀:=H
 env:=aef q scope s.heap.objs.size f k
 outer:=outer
 stack:=aef q scope s.heap.objs.size f k::outer
 ex:=[]
 calm:=true
 fn:=λ_=>true
 pn:=[]
 xe:=λe l=>wpAny (model P w) (A.deeper (aef q scope s.heap.objs.size f k)) (leaving (aef q scope s.heap.objs.size f k) e) (λ_ d=>CX outer H s E e d) (λm d=>CX outer H s E m d) l
def ye{sc:Scope}{n:Nat}(h:sc.names.lookup x=some .cell):∃c,(cellsFrom n sc.names []).lookup x=some c:=by
 have q:=af1 sc.names n [] (.inl h);exact afy.mp q
theorem Ab{CX:CXT}{P:aax}{base:aaZ}{d:Str}{f:Addr}{J:Ad}{s s1:GT}{E:XK}
  (S:ai N ps scope) (hd:A.handled=none) (m:Env0 P w K mg base A outer s H) (V:vs.length=ps.length) (r:Vals vs us)
  (x:InCallC s s.heap.objs.size (bindL (aef d scope s.heap.objs.size f J).kindOf (ps.zip us) λ_=>none) (cellsFrom (s.heap.objs.size+1) scope.names []) (bindC (aef d scope s.heap.objs.size f J).kindOf (ps.zip us) λ_=>none) s1) :
  Inv (cxOf CX P w K mg base N d scope f J A outer s H E) [] (start N vs) H s1:=by
 have R:ps.length≤N.length:=by have:=congrArg ad6 S.pre;rw[aaM]at this;omega
 let⟨G,W,rfl,hk⟩:=x.done;have t:∀b:Addr,b∉(cxOf CX P w K mg base N d scope f J A outer s H E).ex:=λb z=>absurd (show b∈([]:List Addr)from z) 'a';refine⟨⟨m.mod,S.kind,rfl,rfl,aaa _,λy z c G l=>?_,λy B=>?_,λy c _ h=>?_,λ_=>hd,aa8.frames_deeper m.frames,.inr ⟨rfl,rfl⟩,λb z=>absurd z (t b),m.bs,m.bsz,λb _ _=>t b,λb z=>absurd z (t b),m.funs,m.frf⟩,
  rfl,m.bare,Un.kept hk,⟨_,x.toInCall.ns,λi y v G l U=>?_⟩,λy c h=>⟨_,x.cell y c h⟩,m.hok.fresh (aaa _),λy c h=>?_,λp D=>absurd (show p∈([]:List 'i')from D) 'a',m.hok.kept hk,?_⟩
 .exact name_of_addr x.apart (aco G) (aco l)
 .rcases B with B|B
  .exact ye B
  .exact absurd rfl (S.nofree _ (aco B))
 .exact abR (x.above y c (aco h))
 .have I:i<vs.length:=by
   unfold start at l
   by_cases I:i<vs.length
   .exact I
   .rw[aaP (by simpa using I)]at l;rw[ad7]at l
    split at l<;>cases l
  have O:vs[i]?=some v:=by
   unfold start at l;rw[aaC (by simpa using I),aah]at l
   cases e:vs[i]? with
   |none=>rw[e]at l;cases l
   |some a=>rw[e]at l;cases l;rfl
  let⟨u,L,T⟩:=r.get O;have D:ps[i]?=some y:=by
   rw[<-S.pre,List.getElem?_take_of_lt ∅];exact G
  have F:ps.Nodup:=by rw[<-S.pre];exact S.nd.sublist (List.take_sublist _ _)
  refine⟨u,T,?_⟩;rcases S.par y (Ld D)with k|k
  .exact .inl ⟨k,uF F D L k⟩
  .obtain⟨c,e⟩:=ye (n:=s.heap.objs.size+1) k;refine .inr ⟨.inl k,c,e,?_⟩;have q:=x.cell y c e;rw[u6 F D L (by show scope.names.lookup y≠_;rw[k];decide)]at q;exact q
 .exact m.hok.fresh (abR (x.above y c (aco h)))
 .unfold start;show _=N.length;rw[aam,iO,aeq];omega
theorem XI{CX:CXT}{P:aax}{base:aaZ}{k:Nat}{f:Addr}{name d:Str}{p:Arguments}{dV kV G pm l ct oc:Ad}{an od:Option Addr}
  {Y:Array (Option Ad)}{sp:Sp} (lk:K.lookup f=some ⟨oc,od,.func (abm name d p body scope dV kV G pm an l ct),Y⟩) (W:adt K l d=true) (S:ai N ps scope)
  (len:∀vs H Q E,sp vs H Q E->vs.length=ps.length)
  (B:∀(A:aa8) (outer:List Env) (s:GT) (H:Hp) (vs:List V) (Q:VK) (E:XK),Room k (A.deeper (aef d scope s.heap.objs.size f l))->sp vs H Q E ->
   ∃t,PSs (cxOf CX P w K mg base N d scope f l A outer s H E) body t/\t {nx:=λ_ z=>Q .non z,rt:=Q} (start N vs) H) :
  FnOk P w K mg base CX (k+1) f (abm name d p body scope dV kV G pm an l ct) ps sp:=by
 refine⟨len,λA outer s H args us vs Q E T O hb r L=>?_⟩;have hl:=len _ _ _ _ L;have KX:K.In s.heap:=O.mod.kin.keeps λb o e=>(O.bs b o e).1;have lim:s.heap.NoLimit:=O.mod.nolimit.keeps λb o e=>(O.bs b o e).1;have D:∀y∈ps.zip us,scope.names.lookup y.1=some .local\/(scope.names.lookup y.1=some .cell/\((cellsFrom (s.heap.objs.size+1) scope.names []).lookup y.1).isSome=true):=by
  intro⟨n,v⟩ hy;rcases S.par n (agg hy).1 with q|q
  .exact .inl q
  .exact .inr ⟨q,af1 _ _ _ (.inl q)⟩
 refine codeAny_call_function T.depth (KX _ _ lk) rfl S.co S.gen rfl (PySem.W.codeRec_of KX W) (hb _ _ _ _ ?_);refine wpAny_newFunctionEnv_cells S.kind D λenv he s1 x=>?_;subst he;refine⟨lim.keeps x.toInCall.keep,codeAny_func ?_⟩;let⟨t,ht,hq⟩:=B A outer s H vs Q E (T.deeper _) L;have I:Inv (cxOf CX P w K mg base N d scope f l A outer s H E) [] (start N vs) H s1:=Ab S T.hd O hl r x;refine ab9 (ht [] s1 (start N vs) H _ I hq) (λfl U F=>?_) λe U F=>F;have R:∀{m:St}{z:Hp}{v:V}{u:Ad},Inv (cxOf CX P w K mg base N d scope f l A outer s H E) [] m z U->RelV v u->Q v z->CE outer P w H s Q u U:=
  λ{m z v u} J Z q=>⟨v,z,J.os,J.bare,J.base,J.hok,Z,q⟩
 cases fl with
 |ret u=>
  let⟨v,m,z,J,Z,q⟩:=F;exact R J Z q
 |next=>
  let⟨m,z,J,q⟩:=F;exact R (v:=V.non) (u:=afX) J rfl q
 |brk=>
  let⟨_,_,_,q⟩:=F;exact acn q
 |cont=>
  let⟨_,_,_,q⟩:=F;exact acn q
section
variable {X:Cx}{x:Str}{p pos:Pos}{e:Expr}{a:List Expr}{t:TA}{id T:String}{r:List V->Hp->VK->Prop}
def tCB(r:List V->Hp->VK->Prop)(t:TA):TE:=λσ H Q=>t σ H λvs d=>r vs d Q
theorem xr(hc:fh X (.builtin id) r)(B:Gl X x)(q:X.mg x=none)(m:aaU x=some (.builtin id))(l:PA X (e::a) t)(D:x ≠ "__name__":=by decide)(d:(x=='g')=false:=by decide)
  (n:aab (e::a) X.env=(false,eval e X.env)::aab a X.env:=by rfl) (k:(abn pos (aab a X.env)).any (·.1)=false:=by rfl):PE X (.Call (.Name x p) (e::a) [] pos) (tCB r t):=by
 intro pins s σ H Q I h;refine acD (lh I B q m ?_ D d);exact aev (thn (l pos pins s σ H _ I h)<|by intro us s1 ⟨vs,z,F,r1,y⟩;exact hc pins s1 σ z vs us Q F r1 y) n k
theorem Cb(hc:fh X (.type T) r)(B:Gl X x)(q:X.mg x=none)(m:aaU x=some (.type T))(l:PA X (e::a) t)(D:x ≠ "__name__":=by decide)(d:(x=='g')=false:=by decide)
  (n:aab (e::a) X.env=(false,eval e X.env)::aab a X.env:=by rfl) (k:(abn pos (aab a X.env)).any (·.1)=false:=by rfl):PE X (.Call (.Name x p) (e::a) [] pos) (tCB r t):=by
 intro pins s σ H Q I h;refine acD (lh I B q m ?_ D d);exact acs (thn (l pos pins s σ H _ I h) λus s1 ⟨vs,z,F,r1,y⟩=>hc pins s1 σ z vs us Q F r1 y) n k
end
end L2
namespace HT
open PySem PyProof.Rows
variable{Q:Ad->GT->Prop}{hi lo:Option Int}
section
variable {prog:aax}{w:World}{A:aa8}{E:Ad->GT->Prop}{s:GT}
theorem cat_tup{t b:Addr}{vs a:List Ad}(v:IsTup s.heap t vs.toArray)(u:IsTup s.heap b a.toArray)(q:vs≠[])
  (r:a=[]->Q (.ref t) s) (x:a≠[]->Q (.ref s.heap.objs.size) {s with heap:=s.heap.push {cls:=.type "tuple",data:=.seq (vs++a).toArray} })
  (hsz:vs.length+a.length≤aak):wpAny (model prog w) A (ach .Add (.ref t) (.ref b)) Q E s:=by
 let⟨⟨cls,l,data,m⟩,i,o,n,hd⟩:=id v;let⟨⟨p,d,k,f⟩,h,g,n2,c⟩:=id u;simp only at o hd g c;subst o hd g c;have e:vs.toArray++a.toArray=(vs++a).toArray:=by simp
 by_cases j:a=[]
 .exact af2 ⟨_,i,rfl⟩ ⟨_,h,rfl⟩ afM agR aeg ad8 (adP _ _)
   (tuple_addW1 t b vs.toArray a.toArray n n2 l d m f (by simpa) (by simp[j])) ⟨i,h,r j⟩
 .refine af2 ⟨_,i,rfl⟩ ⟨_,h,rfl⟩ afM agR aeg ad8 (adP _ _)
   (tuple_addW2 t b vs.toArray a.toArray n n2 l d m f (by simpa using q) (by simpa) ‹_›) ⟨i,h,?_⟩
  rw[e];exact x j
def sIx(n d:Nat):Option Int->Nat
 |none=>d
 |some v=>if v<0 then(v+(n:Int)).toNat else min v.toNat n
def sIx_none(n d:Nat):sIx n d none=d:=rfl
def sIx_nat(n d k:Nat):sIx n d (some (k:Int))=min k n:=rfl
theorem U9(n d:Nat)(hd:d≤n)(o:Option Int):sIx n d o≤n:=by
 cases o with
 |none=>exact hd
 |some v=>
  show(if v<0 then(v+n).toNat else min v.toNat n)≤n
  by_cases h:v<0
  .grind
  .rw[if_neg h];exact ady _ _
theorem zU(v:Int)(n d:Nat):(if v<0 then max (v+(n:Int)) 0 else min v (n:Int))=((sIx n d (some v):Nat):Int):=by
 show _=(((if v<0 then(v+_).toNat else min v.toNat n):Nat):Int)
 grind
theorem zn(lo hi:Option Int)(n:Nat):afl lo hi 1 (n:Int)=(((sIx n 0 lo:Nat):Int),((sIx n n hi:Nat):Int)):=by
 refine ae7 ?_ ?_
 .cases lo with
  |none=>rfl
  |some v=>exact zU v n 0
 .cases hi with
  |none=>rfl
  |some v=>exact zU v n n
theorem yX(i j:Nat):adE (i:Int) (j:Int) 1=j-i:=by
 unfold adE
 grind
theorem qe{v:Ad}{o:Option Int}{Q:Option Int->GT->Prop}(p:af3 v o)(h:Q o s):wpAny (model prog w) A (adn.Slice.slicePartIndex v) Q E s:=by
 cases p with
 |none=>exact slicePart_none h
 |int i t=>exact slicePart_int h
def gF{sl:Addr}{vl v:Ad}{n:Nat}{Q:Int×Int×Nat->GT->Prop}(d:s.heap.IsSliceOf sl vl v .none)(pl:af3 vl lo)(p:af3 v hi)
  (h:Q (((sIx n 0 lo:Nat):Int),1,sIx n n hi-sIx n 0 lo) s):wpAny (model prog w) A (adn.Slice.sliceApplied (.ref sl) (pure (n:Int))) Q E s:=by
 let⟨os,a,c,b⟩:=id d;refine gT (gT (abd a b (x:=vl) rfl (gT (abd a b (x:=v) rfl (gT (abd a b (x:=.none) rfl (LD ?_)))))));refine gT (slicePart_none ?_);refine gT (qe pl (gT (qe p (gT (LD ?_)))));show wpAny _ _ (match afl lo hi 1 (n:Int)with|(lo,hi)=>pure (lo,(1:Int),adE lo hi 1)) _ _ s;rw[zn lo hi n];show wpAny _ _ (pure _) _ _ s;rw[yX];exact LD h
theorem IK(xs:Array Ad)(i k:Nat):((aav k).filterMap λ(m:Nat)=>xs[((i:Int)+(m:Int)*1).toNat]?).toArray=((xs.toList.drop i).take k).toArray:=by
 have e:(λ(m:Nat)=>xs[(i+(m:Int)*1).toNat]?)=λm=>xs[i+m]?:=by
  funext m
  have:(i+(m:Int)*1).toNat=i+m:=by omega
  rw[this]
 rw[e];have:=pick_run xs i k;rw[agZ]at this;have a:(_∘λx=>i+x)=λm=>xs[i+m]?:=rfl;rw[a]at this;rw[this]
theorem getItem_tuple_cut{t sl:Addr}{items:Array Ad}{vl v:Ad}(b:IsTup s.heap t items)(g:s.heap.IsSliceOf sl vl v .none)(pl:af3 vl lo)(p:af3 v hi)
  (j:¬(sIx items.size 0 lo=0/\sIx items.size items.size hi=items.size))
  (h:Q (.ref s.heap.objs.size) {s with heap:=s.heap.push {cls:=.type "tuple",data:=.seq ((items.toList.drop (sIx items.size 0 lo)).take (sIx items.size items.size hi-sIx items.size 0 lo)).toArray} })
  (hsz:items.size≤aak):wpAny (model prog w) A (aeA (.ref t) (.ref sl)) Q E s:=by
 have a:sizeOk (.seq ((items.toList.drop (sIx items.size 0 lo)).take (sIx items.size items.size hi-sIx items.size 0 lo)).toArray):=by
  show((items.toList.drop (sIx items.size 0 lo)).take (sIx items.size items.size hi-sIx items.size 0 lo)).toArray.size≤aak;rw[aaG,aaM,aew,acp];omega
 have k:sIx items.size items.size hi≤items.size:=U9 _ _ (aaa _) hi;let⟨os,c,d,i⟩:=id g;have f:s.TypeIs (.ref sl) "slice":=⟨os,c,d⟩;unfold aeA
 try with_reducible refine acf ?_
 first|refine gT (LD ?_)|skip
 refine gT (afq b.typeIs ⋯ ?_);refine gT (aaY (name:=ab1 "__getitem__") b.typeIs abo
  (aba abo b.typeIs entry_tuple_getitem ?_ (args_tuple_getitem _ _)))
 show wpAny _ _ (adu (.ref t) >>= _) _ _ s;refine gT (agS b ?_);refine gT (ac3 f ?_);rw[if_pos ⋯];refine gT (gF g pl p ?_);have e:¬((((sIx items.size 0 lo:Nat):Int)==0&&(1:Int)==1&&(sIx items.size items.size hi-sIx items.size 0 lo)==items.size)=true):=by
  grind
 show wpAny _ _ (if (((sIx items.size 0 lo:Nat):Int)==0&&(1:Int)==1&&(sIx items.size items.size hi-sIx items.size 0 lo)==items.size)=true then _ else _) _ _ s;rw[if_neg e,IK]
 first
  |exact gT (m:=abN _) (abf (LD ⟨_,rfl,LD h⟩) a)
  |exact gT (m:=abN _) (abf (gT (LD (LD ⟨_,rfl,LD h⟩))) a)
  |exact gT (gT (m:=abN _) (abf (LD (LD ⟨_,rfl,LD h⟩)) a))
  |exact gT (gT (m:=abN _) (abf (LD ⟨_,rfl,LD h⟩) a))
end
end HT
namespace L2
open PySem PySem.Spec PyProof.Rows
variable{n:Nat}{α:Type}{its:List Ad}
abbrev TO:=St->Hp->(Option Int->Hp->Prop)->Prop
def PO(X:Cx)(e:Option Expr)(t:TO):Prop:=
 ∀(p:List 'i') (s:GT) (a:St) (H:Hp) (Q:Option Int->Hp->Prop),Inv X p a H s->t a H Q ->
  wpAny (model X.prog X.w) X.A (evalPart e X.env) (λu c=>∃o b,Inv X p a b c/\af3 u o/\Q o b) X.xe s
def Mz:TO:=λ_ H Q=>Q none H
def XQ(t:TE):TO:=λa H Q=>t a H λx b=>∃i,x = .int i/\Q (some i) b
theorem iz{ns:List Int}:∀{us:List Ad},Vals (ns.map V.int) us->aeV us ns:=by
 induction ns with
 |nil=>intro us r;cases r;exact .nil
 | cons n ns i=>
  intro us r
  cases r with
  |cons r1 a=>
   let⟨t,e⟩:=r1;subst e;exact .cons n t (i a)
section
variable {X:Cx}{e:Expr}{d:TE}{lo c:Option Expr}{tl f:TO}{pos g:Pos}
def RG:PO X none Mz:=by
 intro p s a H Q I h;exact LD ⟨none,H,I,.none,h⟩
def QE(h:PE X e d):PO X (some e) (XQ d):=by
 intro p s k H Q I j;refine thn (h p s k H _ I j) λu s1 ⟨x,l,a,r1,b⟩=>?_;let⟨i,rfl,q⟩:=b;let⟨t,rfl⟩:=r1;exact⟨some i,l,a,.int i t,q⟩
def SlR(X:Cx)(r:V->Option Int->Option Int->Hp->VK->Prop):Prop:=
 ∀(p:List 'i') (s:GT) (h:St) (H:Hp) (x:V) (v vl b:Ad) (lo c:Option Int) (a:Addr) (Q:VK),Inv X p h H s->RelV x v->s.heap.IsSliceOf a vl b .none->af3 vl lo->af3 b c->r x lo c H Q ->
  ∃T id,typeLookup (.type T) "__getitem__" = pure (some (.builtin id))/\s.TypeIs v T/\wpAny (model X.prog X.w) X.A (aeA v (.ref a)) (EP X p h Q) X.xe s
def tSl(r:V->Option Int->Option Int->Hp->VK->Prop)(d:TE)(tl f:TO):TE:=λa H Q=>d a H λx h=>tl a h λl b=>f a b λu i=>r x l u i Q
def Jb{r:V->Option Int->Option Int->Hp->VK->Prop}(o:SlR X r)(t:PE X e d)(z:PO X lo tl)(w:PO X c f):PE X (.Subscript e (.Slice lo c none g) pos) (tSl r d tl f):=by
 intro p s i H Q I h;refine ag0 (thn (t p s i H _ I h) λv s1 ⟨x,y,A,r1,L⟩=>?_);refine wpAny_Slice (thn (z p s1 i y _ A L) λvl s2 ⟨l,G,K,F,J⟩=>thn (w p s2 i G _ K J) λj a ⟨u,k,m,B,D⟩=>?_);refine LD ?_;have M:Inv X p i k {a with heap:=a.heap.push {cls:=.type "slice",data:=.fields #[vl,j,.none]} }:=m.kept (t':=a.toks) λb O q=>Io _ q;let⟨T,id,E,C,N⟩:=o p {a with heap:=a.heap.push {cls:=.type "slice",data:=.fields #[vl,j,.none]} } i k x v vl j l u a.heap.objs.size Q M r1 (aaZ.IsSliceOf.new ..) F B D;exact tail_any C E N rfl
def cutV(xs:List V)(lo c:Option Int):List V:=(xs.drop (HT.sIx xs.length 0 lo)).take (HT.sIx xs.length xs.length c-HT.sIx xs.length 0 lo)
theorem my(xs:List V)(lo c:Option Int):(cutV xs lo c).length≤xs.length:=by
 unfold cutV;rw[aaM,aew];omega
def rSlT(K:aae):V->Option Int->Option Int->Hp->VK->Prop:=λx lo c H Q=>∃a b,x = .ref a/\SqT K H a b/\
 ¬(HT.sIx b.length 0 lo=0/\HT.sIx b.length b.length c=b.length)/\∀p,H p=none->Q (.ref p) (upd H p (.tup (cutV b lo c)))
theorem UJ:SlR X (rSlT X.K):=by
 intro p s B H x v vl z lo c A Q I m w o y h;let⟨a,j,rfl,u,t,q⟩:=h;cases m;let⟨its,r,l,k⟩:=I.tuple u;have i:its.toArray.size=j.length:=by rw[aaG];exact r.length.symm
 refine⟨"tuple",_,abo.lookup,l.typeIs,?_⟩;refine HT.getItem_tuple_cut l w o y (by rw[i];exact t) ?_ (by rw[i];exact k);rw[i];refine⟨.ref s.heap.objs.size,_,I.laid (t':=s.toks) (λb C q=>Io _ q) (aaa _) ?_,rfl,q _ (I.hok.fresh (aaa _))⟩;exact⟨aaA (my j lo c) k,_,(r.drop _).take _,PlainT.new _ _⟩
def XR(K:aae):R2:=λx y H Q=>∃a b i h,x = .ref a/\y = .ref b/\SqT K H a i/\SqT K H b h/\i≠[]/\i.length+h.length≤aak/\
 (h=[]->Q (.ref a) H)/\(h≠[]->∀p,H p=none->Q (.ref p) (upd H p (.tup (i++h))))
theorem Vals.nil_iff{xs:List V}{us:List Ad}(r:Vals xs us):us=[]↔xs=[]:=by
 cases r with
 |nil=>simp
 |cons _ _=>simp
theorem QW:OpR X (ach .Add) (XR X.K):=by
 intro p s E H x y v u Q I k C h;let⟨a,b,D,F,rfl,rfl,l,o,t,i,A,m⟩:=h;cases k;cases C;let⟨its,r1,B,_⟩:=I.tuple l;let⟨j,r,g,_⟩:=I.tuple o;refine HT.cat_tup B g (λz=>t (r1.nil_iff.mp z)) (λz=>⟨.ref a,H,I,rfl,A (r.nil_iff.mp z)⟩) (λz=>?_) (by rw[<-r1.length,<-r.length];exact i);refine⟨.ref s.heap.objs.size,_,I.laid (t':=s.toks) (λb G q=>Io _ q) (aaa _) ?_,rfl,m (λw=>z (r.nil_iff.mpr w)) _ (I.hok.fresh (aaa _))⟩;exact⟨by rw[aam];exact i,_,r1.append r,PlainT.new _ _⟩
end
def ixN(n:Nat)(i:Int):Option Nat:=if 0≤i then(if i<n then some i.toNat else none)else if -(n:Int)≤i then some (i+n).toNat else none
def atI{α:Type}(xs:List α)(i:Int):Option α:=(ixN xs.length i).bind λj=>xs[j]?
theorem MY{i:Int}{j:Nat}(h:ixN n i=some j):seqIndex? i n=some j/\j<n/\-(n:Int)≤i/\i<n:=by
 unfold ixN at h
 by_cases b:0≤i
 .rw[if_pos b]at h
  by_cases a:i<n
  .rw[if_pos a]at h;have e:=aay h;exact⟨by rw[seqIndex_of b a,e],∅,∅,a⟩
  .simp_all
 .rw[if_neg b]at h
  by_cases a : -(n:Int)≤i
  .rw[if_pos a]at h;have e:=aay h;exact⟨by rw[seqIndex_neg ∅ a,e],∅,a,∅⟩
  .simp_all
theorem vE{xs:List α}{i:Int}{v:α}(h:atI xs i=some v):∃j,seqIndex? i xs.length=some j/\xs[j]?=some v/\j<xs.length/\-(xs.length:Int)≤i/\i<xs.length:=by
 unfold atI at h
 cases e:ixN xs.length i with
 |none=>rw[e]at h;cases h
 |some j=>
  rw[e]at h;let⟨c,d,b,a⟩:=MY e;exact⟨j,c,h,d,b,a⟩
theorem bh{xs:List α}{j:Nat}{v:α}(h:xs[j]?=some v):atI xs (j:Int)=some v:=by
 have a:=(AD.mp h).1;have e:ixN xs.length j=some j:=by
  unfold ixN
  simp_all
 unfold atI;rw[e];exact h
def oZ(b:Expr):Prop:=∀o i,agw b false o i=operate [o,i] (aeA o i)
def IxR(X:Cx)(r:R2):Prop:=
 ∀(b a:Expr) (p:List 'i') (s:GT) (c:St) (H:Hp) (x y:V) (v u:Ad) (Q:VK),Inv X p c H s->RelV x v->RelV y u->r x y H Q ->
  agw a false v u=operate [v,u] (aeA v u)->wpAny (model X.prog X.w) X.A (agT b a v u) (EP X p c Q) X.xe s
def MtR(X:Cx)(id:String)(r:V->List V->Hp->VK->Prop):Prop:=
 ∀(p:List 'i') (s:GT) (b:St) (H:Hp) (x:V) (a:List V) (v:Ad) (u:List Ad) (Q:VK),Inv X p b H s->RelV x v->Vals a u->r x a H Q ->
  wpAny (model X.prog X.w) X.A (call (.builtin id) (v::u)) (EP X p b Q) X.xe s
section
variable {X:Cx}{a b:Expr}{ta tb:TE}{pos:Pos}
def UC{r:R2}(i:IxR X r)(e:PE X a ta)(l:PE X b tb)(d:oZ b):PE X (.Subscript a b pos) (tOp r ta tb):=by
 intro p s f H Q I h;exact ag0 (binT e l I h λv u s2 x y k j c g q=>i a b p s2 f k x y v u Q j c g q (d _ _))
def rIxL(K:aae):R2:=λx y H Q=>∃p c i v,x = .ref p/\y = .int i/\SqL K H p c/\atI c i=some v/\Q v H
def rIxT(K:aae):R2:=λx y H Q=>∃p c i v,x = .ref p/\y = .int i/\SqT K H p c/\atI c i=some v/\Q v H
def rIxS:R2:=λx y H Q=>∃z i c,x = .str z/\y = .int i/\z.length≤aak/\atI z.cps.toList i=some c/\Q (.str ⟨#[c]⟩) H
theorem E9:IxR X (rIxL X.K):=by
 intro l k c s G H x y v u Q I B J h m;let⟨p,M,i,z,rfl,rfl,E,C,q⟩:=h;cases B;let⟨t,rfl⟩:=J;let⟨its,r,g,N⟩:=I.list E;let⟨j,d,L,O,D,F⟩:=vE C;let⟨w,A,e⟩:=r.get L;have K:=r.length;have P:=uj;have f:EP X c G Q w s:=⟨z,H,I,e,q⟩
 by_cases o:0≤i
 .have hj:i.toNat=j:=by
   rw[seqIndex_of o F]at d;exact aay d
  exact item_listR g.isList o ∅ (by rw[hj];simpa using A) f m
 .have hj:(i+(its.toArray.size:Int)).toNat=j:=by
   rw[seqIndex_neg ∅ D]at d;rw[aaG,<-K];exact aay d
  exact af4 (x:=w) g.isList.typeIs afr.lookup
   (wpAny_getItem_list_neg g.isList ∅ (by simp_all) ∅ (by rw[hj];simpa using A) ⟨rfl,f⟩) m
theorem Vn:IxR X (rIxT X.K):=by
 intro g e c s C H x y v u Q I l D h B;let⟨p,G,i,z,rfl,rfl,A,o,q⟩:=h;cases l;let⟨t,rfl⟩:=D;let⟨its,r,k,J⟩:=I.tuple A;let⟨j,m,F,M,K,L⟩:=vE o;let⟨w,O,d⟩:=r.get F;have E:=r.length;have N:=uj;have f:EP X c C Q w s:=⟨z,H,I,d,q⟩;exact af4 k.typeIs slot_tuple_getitem.lookup
  (getItem_tuple k ∅ ∅ (by rw[aaG,<-E];exact m) (by simpa) ⟨rfl,f⟩) B
theorem VO:IxR X rIxS:=by
 intro e d p s G H x y v u Q I r o h m;let⟨z,i,c,rfl,rfl,D,g,q⟩:=h;let⟨t,rfl⟩:=r;let⟨E,rfl⟩:=o;let⟨j,f,C,F,k,l⟩:=vE g;have w:z.cps.toList.length=z.length:=by simp[Str.length]
 rw[w]at f k l;have J:=uj;exact tail_any (typeIs_str s z t) slot_str_getitem.lookup (getItem_str (by
  have B:decide (i < -(2^63:Int))=false:=decide_eq_false ∅;have A:decide (i≥2^63)=false:=decide_eq_false ∅;rw[B,A,Bool.or_false]) (by rw[f];simpa using C) ⟨.str ⟨#[c]⟩,H,I.tok _,⟨_,rfl⟩,q⟩) m
theorem uE(lo c:Option Int)(n:Nat):(ad9 lo c none n).1=((HT.sIx n 0 lo:Nat):Int)/\(ad9 lo c none n).2.1=((HT.sIx n n c:Nat):Int)/\(ad9 lo c none n).2.2=1:=by
 refine⟨?_,?_,rfl⟩
 .cases lo with
  |none=>simp[ad9,HT.sIx]
  |some i=>
   simp only[ad9,HT.sIx,ahm,show(1:Int)>0 by decide,if_true]
   by_cases h:i<0
   .simp only[h,if_true]<;>omega
   .simp only[h,if_false]<;>omega
 .cases c with
  |none=>simp[ad9,HT.sIx]
  |some i=>
   simp[ad9,HT.sIx,ahm,show(1:Int)>0 by decide,if_true]
   by_cases h:i<0
   .simp only[h,if_true]<;>omega
   .simp only[h,if_false]<;>omega
def r9(its:List Ad)(lo h:Option Int):ahn its.toArray lo h none=((its.drop (HT.sIx its.length 0 lo)).take (HT.sIx its.length its.length h-HT.sIx its.length 0 lo)).toArray:=by
 let⟨d,e,c⟩:=uE lo h its.toArray.size;unfold ahn;rw[d,e,c];simp only[sliceRange_one,pick_run]<;>rfl
def rSlL(K:aae):V->Option Int->Option Int->Hp->VK->Prop:=λx l h H Q=>∃a c,x = .ref a/\SqL K H a c/\∀p,H p=none->Q (.ref p) (upd H p (.lst (cutV c l h)))
theorem QP:SlR X (rSlL X.K):=by
 intro p s w H x v vl t l i u Q I e m g o h;let⟨a,f,rfl,k,q⟩:=h;cases e;let⟨its,r,d,j⟩:=I.list k;have c:=r.length;refine⟨"list",_,afr.lookup,d.isList.typeIs,?_⟩;refine afz d.isList m g o .none 'a' ?_ (by grind);rw[r9,<-c];refine⟨.ref s.heap.objs.size,_,I.laid (t':=s.toks) (λb y q=>Io _ q) (aaa _) ?_,rfl,q _ (I.hok.fresh (aaa _))⟩;exact⟨aaA (my f l i) j,_,0,(r.drop _).take _,aal _ rfl⟩
theorem k9:fh X (.builtin "len") (λxs H Q=>∃p ys,xs=[.ref p]/\(SqL X.K H p ys\/SqT X.K H p ys)/\Q (.int ys.length) H):=by
 intro e s g H xs i Q I r h;let⟨p,ys,rfl,d,q⟩:=h;let⟨u,rfl,f⟩:=zf r;cases f;have j:=uj;rcases d with d|d
 .obtain⟨its,r',pl,hz⟩:=I.list d;have c:=r'.length;exact Calls.call_len_list pl.isList (by simp only[aaG]<;>omega) ⟨.int ys.length,H,I.tok _,⟨s.toks+1,by rw[aaG,c]⟩,q⟩
 .obtain⟨its,r',pl,hz⟩:=I.tuple d;have c:=r'.length;exact len_tuple pl (by simp only[aaG]<;>omega) ⟨.int ys.length,H,I.tok _,⟨s.toks+1,by rw[aaG,c]⟩,q⟩
theorem sF:fh X (.builtin "len") (λxs H Q=>∃z,xs=[.str z]/\z.length≤aak/\Q (.int z.length) H):=by
 intro p s d H xs e Q I r h;let⟨z,rfl,c,q⟩:=h;let⟨u,rfl,t,rfl⟩:=zf r;have f:=uj;exact len_str ∅ ⟨.int z.length,H,I.tok _,⟨_,rfl⟩,q⟩
theorem sI:fh X (.type "list") (λxs H Q=>∃p ys,xs=[.ref p]/\(SqL X.K H p ys\/SqT X.K H p ys)/\∀l,H l=none->Q (.ref l) (upd H l (.lst ys))):=by
 intro i s y H xs z Q I r h;let⟨p,ys,rfl,k,q⟩:=h;let⟨u,rfl,x⟩:=zf r;cases x;have g:∀(its:List Ad),Vals ys its->ys.length≤aak->∀(c:aaZ) (d:Nat),(∀b w,s.heap.get? b=some w->c.get? b=some w) ->
   c.get? s.heap.objs.size=some {cls:=.type "list",dict:=none,data:=.seq its.toArray d,slots:=#[]}->EP X i y Q (.ref s.heap.objs.size) {s with heap:=c }:=λits f j c d kp e=>
  ⟨.ref s.heap.objs.size,_,I.laid (t':=s.toks) kp (aaa _) (show ObjOk X.prog X.w _ c _ (.lst ys)from⟨j,its,d,f,e⟩),rfl,q _ (I.hok.fresh (aaa _))⟩
 rcases k with k|k
 .obtain⟨its,f,pl,j⟩:=I.list k;have m:=f.length;let⟨o,t,v,n,hd⟩:=pl.isList;exact call_list_seq p (.inl rfl) t v hd (λc d kp e=>g its f j c d kp e) (by simp only[aaG]<;>omega)
 .obtain⟨its,f,pl,j⟩:=I.tuple k;have m:=f.length;let⟨o,t,v,n,hd⟩:=pl;exact call_list_seq p (.inr rfl) t v hd (λc d kp e=>g its f j c d kp e) (by simp only[aaG]<;>omega)
theorem si:fh X (.type "tuple") (λxs H Q=>∃p ys,xs=[.ref p]/\((SqL X.K H p ys/\∀l,H l=none->Q (.ref l) (upd H l (.tup ys)))\/(SqT X.K H p ys/\Q (.ref p) H))):=by
 intro f s t H xs m Q I r h;let⟨p,ys,rfl,h⟩:=h;let⟨u,rfl,i⟩:=zf r;cases i;rcases h with⟨c,q⟩|⟨c,q⟩
 .obtain⟨its,r',pl,hz⟩:=I.list c;have d:=r'.length;refine call_tuple_list pl.isList (λk kp=>?_) (by simp_all);have g:=I.kept (t':=s.toks) kp;have j:=
   g.laid (t':=s.toks) (λb o e=>Io _ e) (aaa _) (show ObjOk X.prog X.w _ _ _ (.tup ys)from⟨hz,its,r',PlainT.new _ _⟩)
  exact⟨.ref k.objs.size,_,j,rfl,q _ (g.hok.fresh (aaa _))⟩
 .obtain⟨its,r',pl,hz⟩:=I.tuple c;exact call_tuple_same pl ⟨.ref p,H,I,rfl,q⟩
def tyV(K:aae)(T:String)(x:V)(H:Hp):Prop:=match x with
 | .str _=>T = "str"
 | .int _=>T = "int"
 | .ref p=>(T = "list"/\∃c,SqL K H p c)\/(T = "tuple"/\∃c,SqT K H p c) \/
   (T = "dict"/\((∃k,H p=some (.dK k))\/∃k,H p=some (.dT k)))\/(T = "set"/\∃S n,H p=some (.set S n))
 |_=>False
theorem Wg{d:List 'i'}{l:St}{H:Hp}{s:GT}{T:String}{x:V}{v:Ad}(I:Inv X d l H s)(r:RelV x v)(ty:tyV X.K T x H) :
  s.TypeIs v T/\∀a,v = .ref a->∃g,s.heap.get? a=some g/\g.dict=none:=by
 cases x with
 |str z=>
  let⟨t,rfl⟩:=r
  cases (show T = "str" from ty)
  exact⟨typeIs_str s z t,λ_ e=>nomatch e⟩
 |int i=>
  let⟨t,rfl⟩:=r
  cases (show T = "int" from ty)
  exact⟨af5 s i t,λ_ e=>nomatch e⟩
 | ref p=>
  cases r;rcases ty with⟨rfl,j,h⟩|⟨rfl,j,h⟩|⟨rfl,hk⟩|⟨rfl,S,n,hk⟩
  .obtain⟨its,_,pl,_⟩:=I.list h;refine⟨pl.isList.typeIs,λa e=>?_⟩;cases e;let⟨o,n,e,c,hd,_⟩:=pl;exact⟨o,e,hd⟩
  .obtain⟨its,_,⟨o,e0,hc,hd,_⟩,_⟩:=I.tupleP h;refine⟨⟨o,e0,hc⟩,λa e=>?_⟩;cases e;exact⟨o,e0,hd⟩
  .have z:∃o,s.heap.get? p=some o/\o.ExactDict:=by
    rcases hk with⟨k,hk⟩|⟨k,hk⟩
    .obtain⟨_,_,_,_,o,_,_,e,ex,_⟩:=I.hok p _ hk;exact⟨o,e,ex⟩
    .obtain⟨_,_,_,_,o,_,_,e,ex,_⟩:=I.hok p _ hk;exact⟨o,e,ex⟩
   let⟨o,e,ex⟩:=z;refine⟨⟨o,e,ex.1⟩,λa f=>?_⟩;cases f;exact⟨o,e,ex.2.1⟩
  .obtain⟨o,_,_,_,e,ex,_⟩:=I.hok p _ hk;refine⟨⟨o,e,ex.1⟩,λa f=>?_⟩;cases f;exact⟨o,e,ex.2.1⟩
 |_=>exact acn ty
def tBM(K:aae)(T:String)(r:V->List V->Hp->VK->Prop)(to:TE)(t:TA):TE:=λc H Q=>to c H λx d=>tyV K T x d/\t c d λe f=>r x e f Q
variable {o e:Expr}{g:List Expr}{to:TE}{t:TA}{name:Str}{f d:Pos}{T id:String}{r:V->List V->Hp->VK->Prop}
theorem VJ(C:PlainAttrs T)(slot:Slot T name id)(l:typeOf (.builtin id)=pure (.type "method_descriptor"))(D:MtR X id r)(J:PE X o to)(w:PA X (e::g) t)
  (c:abw o name X.env (eval o X.env)=eval o X.env:=by rfl)
  (j:((abn d (aab (e::g) X.env)).all (λx=>!x.1)&&(acW d (abX [] X.env)).all (λx=>x.1.isSome)
   && decide ((e::g).length+([]:List ac4).length+(if ([]:List ac4).isEmpty then 0 else 1)<30))=true:=by rfl)
  (i:(f.endLine==d.line)=true:=by rfl) (K:aab (e::g) X.env=(false,eval e X.env)::aab g X.env:=by rfl) (k:(abn d (aab g X.env)).any (·.1)=false:=by rfl) :
  PE X (.Call (.Attribute o name f) (e::g) [] d) (tBM X.K T r to t):=by
 intro p s m H Q I h;refine af6 c j i rfl (thn (J p s m H _ I h) λv s1 ⟨x,G,q,r1,ty,E⟩=>?_);let⟨y,M⟩:=Wg q r1 ty;refine⟨T,id,C,slot,l,y,M,?_⟩;have u:=w d p s1 m G _ q E;rw[K]at u⊢;refine aeh ‹_› (agx ?_);exact thn u<|by intro z s2 ⟨vs,A,F,L,B⟩;exact D p s2 m A x vs v z Q F r1 L B
end
def MtM(X:Cx)(id:String)(r:V->List V->Hp->VK->Prop):Prop:=
 ∀(p:List 'i') (s:GT) (b:St) (H:Hp) (x:V) (a:List V) (v:Ad) (u:List Ad) (Q:VK),Inv X p b H s->RelV x v->Vals a u->r x a H Q ->
  wpAny (model X.prog X.w) X.A (call (.builtin id) (v::u)) (EP X p b Q) X.xe s
theorem Vals.one:∀{x:V}{us:List Ad},Vals [x] us->∃u,us=[u]/\RelV x u
 |_,_,.cons r .nil=>⟨_,rfl,r⟩
theorem Vals.two:∀{x y:V}{us:List Ad},Vals [x,y] us->∃u v,us=[u,v]/\RelV x u/\RelV y v
 |_,_,_,.cons r (.cons q .nil)=>⟨_,_,rfl,r,q⟩
theorem Vals.rep{xs:List V}{us:List Ad}(h:Vals xs us):∀k:Nat,Vals (aaj k xs).flatten (aaj k us).flatten
 |0=>.nil
 |k+1=>by
  exact Vals.append h (Vals.rep h k)
theorem oz(its:List Ad):∀(k:Nat) (acc:List Ad),
  ahH (λx b=>x++b) acc.toArray (aaj k its.toArray)=(acc++(aaj k its).flatten).toArray
 |0,acc=>by simp
 | k+1,acc=>by
  have e:acc.toArray++its.toArray=(acc++its).toArray:=by simp
  have a:(acc++its)++(aaj k its).flatten=acc++(aaj (k+1) its).flatten:=by
   rw[acq,ahb,aaW]
  rw[<-a,<-oz its k _,<-e,acq,aeJ]
section
variable {X:Cx}{p:List 'i'}{a:St}{H:Hp}{s:GT}{l b:Addr}{xs ys c:List V}
def Inv.lset{its':List Ad}{f:Array Ad->Array Ad}{t':Nat}(I:Inv X p a H s)(j:H l=some (.lst xs))
  (e:s.heap.get? l=some {cls:=.type "list",data:=.seq its.toArray n}) (i:f its.toArray=its'.toArray) (k:Vals ys its') (h:ys.length≤aak) :
  Inv X p a (upd H l (.lst ys)) {s with heap:=s.heap.update l (acE f),toks:=t' }:=by
 have q:=PySem.IsL.update e f;rw[i]at q;refine I.write (by rw[j];exact trivial) (.inl rfl) (λm u g d=>(ac5 s.heap _ (abF g)).trans d) ⟨_,q⟩ ?_;exact⟨h,its',_,k,q⟩
def Inv.lnew{t':Nat}(I:Inv X p a H s)(d:Vals ys its)(h:ys.length≤aak) :
  Inv X p a (upd H s.heap.objs.size (.lst ys)) {s with heap:=s.heap.push {cls:=.type "list",data:=.seq its.toArray},toks:=t' }:=
 I.laid (λ_ _ q=>Io _ q) (aaa _) ⟨h,its,0,d,aal _ rfl⟩
def Inv.fresh(I:Inv X p a H s):H s.heap.objs.size=none:=I.hok.fresh (aaa _)
def Inv.lstM(I:Inv X p a H s)(h:H l=some (.lst xs)):xs.length≤aak/\∃(its:List Ad) (n:Nat),Vals xs its/\xs.length=its.length/\s.heap.get? l=some {cls:=.type "list",data:=.seq its.toArray n}:=by
 let⟨z,its,n,r,e⟩:=I.hok l _ h;exact⟨z,its,n,r,r.length,e⟩
theorem w9(h:n≤aak):adQ n=false:=by
 exact decide_eq_false ∅
end
section
variable {X:Cx}
def Qr:V->List V->Hp->VK->Prop:=λx vs H Q=>∃l a y,x = .ref l/\vs=[y]/\H l=some (.lst a)/\a.length<aak/\Q .non (upd H l (.lst (a++[y])))
theorem m8:MtM X "list.append" Qr:=by
 intro p s j H x vs v g Q I b d h;let⟨l,f,y,rfl,rfl,a,i,q⟩:=h;cases b;let⟨u,rfl,c⟩:=d.one;let⟨z,its,n,r,k,e⟩:=I.lstM a;refine ad3 F.slot_list_append ⟨_,e,rfl⟩ F.entry_list_append (F.args_list_append_2 _ _) (PySem.list_append l its.toArray n u (by grind)) ⟨e,?_⟩;refine⟨.non,_,I.lset (its':=its++[u]) a e 'a' (r.append (.cons c .nil)) ?_,rfl,q⟩
 grind
def RH:V->List V->Hp->VK->Prop:=λx vs H Q=>∃l b a z,x = .ref l/\vs=[.ref b]/\H l=some (.lst a)/\H b=some (.lst z)/\a.length+z.length≤aak/\Q .non (upd H l (.lst (a++z)))
theorem Ca:MtM X "list.extend" RH:=by
 intro p s D H x vs v A Q I f m h;let⟨l,b,w,C,rfl,rfl,d,j,B,q⟩:=h;cases f;let⟨u,rfl,g⟩:=m.one;cases g;let⟨z,its,n,r,E,e⟩:=I.lstM d;let⟨y,i,n2,o,k,t⟩:=I.lstM j;have c:its.toArray.size+i.toArray.size≤aak:=by rw[aaG,aaG];omega
 have a:¬(!its.toArray.isEmpty&&adQ (its.toArray.size+i.toArray.size))=true:=by
  rw[w9 c,Bool.and_false];exact aap
 refine ad3 F.slot_list_extend ⟨_,e,rfl⟩ F.entry_list_extend (F.args_list_extend_2 _ _)
  (AutoSeq1.list_extend_list_list_0 l its.toArray n b i.toArray n2 a (by grind) ∅) ⟨e,t,?_⟩
 refine⟨.non,_,I.lset (its':=its++i) d e 'a' (r.append o) ?_,rfl,q⟩;rw[aam];omega
def rRep:R2:=λx y H Q=>∃l k a,x = .ref l/\y = .int k/\H l=some (.lst a)/\-(2^63)≤k/\k<2^63/\a.length*k.toNat≤aak/\
 ∀p,H p=none->Q (.ref p) (upd H p (.lst (aaj k.toNat a).flatten))
def zJ(xs:List α)(k:Nat):(aaj k xs).flatten.length=k*xs.length:=by simp
theorem UU:OpR X (ach .Mult) rRep:=by
 intro p s M H x y v u Q I j C h;let⟨l,k,K,rfl,rfl,G,o,J,i,q⟩:=h;cases j;let⟨t,rfl⟩:=C;let⟨z,its,n,r,D,e⟩:=I.lstM G;have c:its.toArray.size*k.toNat≤aak:=by rw[aaG,<-D];exact i
 have g:¬its.toArray.size*k.toNat>(2^63-1)/8:=by
  have:(aak:Nat)≤(2^63-1)/8:=by decide
  omega
 have d:¬(!adn.List.listFitsIndex k)=true:=by
  rw[fitsIndex_both o J];exact aap
 have b:¬adQ (its.toArray.size*k.toNat)=true:=by
  rw[w9 c];exact aap
 have f:ahH (λE A=>E++A) #[] (aaj (if its.toArray.isEmpty=true then 0 else k.toNat) its.toArray)=(aaj k.toNat its).flatten.toArray:=by
  have B:=λm=>by
   have:=oz its m [];rw[abg]at this;exact this
  rw[B]
  cases its with
  |nil=>simp
  |cons a L=>rw[if_neg 'a']
 refine afm (T:= "list") (U:= "int") ⋯ ⟨_,e,rfl⟩ (λw=>af5 w k t) noFill_list_mul F.fills_int_mul F.slot_int_rmul repeat_list F.slot_int_index.lookup
  (ad3 F.slot_int_rmul (af5 s k t) F.entry_int_rmul (F.args_int_rmul_2 _ _) (int___rmul___int_list k t l its.toArray n)
   ⟨e,rfl,⟨_,e,rfl⟩,ad3 F.slot_list_mul ⟨_,e,rfl⟩ F.entry_list_mul (F.args_list_mul_2 _ _) (AutoListH.list___mul___list_int_3 l its.toArray n k t d g b) ⟨e,?_⟩⟩)
 rw[f];exact⟨.ref _,_,I.lnew (t':=s.toks) (r.rep k.toNat) (by rw[zJ,adz];exact i),rfl,q _ I.fresh⟩
end
end L2
namespace Att
open PySem PySem.W PySem.Calls PyProof.Rows
theorem mX{P:Params}{h:aaZ}:∀(ns:List Int) (vs:List Ad),WellAll P h vs (ns.map WData.int)->aeV vs ns:=by
 intro ns
 induction ns with
 |nil=>
  intro vs w;cases w;exact .nil
 | cons n ns i=>
  intro vs w
  cases w with
  |cons a b=>
   cases a;exact .cons _ _ (i _ b)
theorem BW{l:OpenLaw}{n:Nat}(p:l.most=some n){P:Params}{h:aaZ}{args:List WData}{v:List Ad}
  (b:l.row.toRowW.claim.pre args=true) (f:WellAll P h v args) :
  ∃a vs ns,v=[abk a]/\args=[WData.list (ns.map WData.int)]/\h.get? a=some {cls:=.type "list",data:=.seq vs.toArray}/\aeV vs ns/\ns.length≤n:=by
 have i:WShape.hasAll [] args [.list .int]=true:=(pre_splitW b).1;have k:l.pre.holds [] {args:=args}=true:=(pre_splitW b).2;let⟨d,r,rfl,j,s⟩:=hasAllW_cons i;obtain rfl:=hasAllW_nil s;let⟨x,rfl,o⟩:=hasW_list j;let⟨ns,rfl⟩:=items_int o;have c:ns.length≤n:=by
  have g:=by
   have g:=(holds_andW k).1;rw[p]at g;omega
  have t:=condW_of g (w_not (w_lt w_lit (w_len_list (w_arg rfl))))
  simp_all
 cases f with
 |cons w q=>
  cases q
  cases w with
  |list m e=>exact⟨_,_,ns,rfl,rfl,m,mX ns _ e,c⟩
def CK(l:OpenLaw)(args:List WData):l.row.toRowW.claim.post args (.bool true) args=true:=
 postW_of
  rfl
  (w_eq_bool (w_res rfl) w_lit) rfl
def attach_call{l:OpenLaw}{n:Nat}{q:aax}{b:List Str}{X:(Str->Option Ad)->aaZ->Prop}{z:World->aaZ->Prop}{d:DefRec}
  (J:l.most=some n) (t:d.params.defaults=[])
  (call:∀(w:World) (s₀ s:GT) (mg mb:Str->Option Ad) (e:Addr) (o:Obj) (pm k c:Ad) (a:Addr) (vs:List Ad) (ns:List Int),
   Ground q b [] X w s₀ mg mb s.heap->z w s.heap ->
   s.heap.get? e=some o->o.data = .func (docDef d.name d.params d.body d.scope pm k c)->s.heap.CodeRec k d.name->mg d.name=some (.ref e) ->
   s.heap.get? a=some {cls:=.type "list",data:=.seq vs.toArray}->aeV vs ns->ns.length≤n->s.gens = #[] ->
   adZ (model l.prog w) agF (.call (.ref e) ⟨[.ref a],[]⟩) (λr s'=>r = .ok (.ret (.bool true))/\OldK s.heap s'.heap/\s'.os=s.os/\afo s'.gens) s) :
  WalkO q b X z l.row.toRowW d [] (λf vs=>ahI f vs):=by
 intro w s₀ s mg mb G Y e o pm k c C kV H hd p y m I v A N j x K u L;obtain rfl:C = .none:=Dflts.none y t;obtain rfl:kV = .none:=Dflts.noKw y;let⟨a,vs,ns,rfl,rfl,g,h,i⟩:=BW J j u;refine enter_call (aee (call w s₀ s mg mb e o pm k c a vs ns G Y H (fd_plain hd) p m g h i I) λr s' B=>?_);let⟨rfl,M,D,E⟩:=B;exact⟨.inl ⟨.bool true,.bool true,[],rfl,λ_=>rfl,.bool true,CK l _,λ_=>⟨ahc,λ_ F=>(nomatch F)⟩⟩,M,D,E⟩
end Att
namespace L2
open PySem PySem.Spec PyProof.Rows
variable{w:WS}{K:Kd}{mg:Str->Option Ad}{a l:Addr}{fd:ab0}{qual x y:Str}{ns:List Int}{i j n nN q:Nat}{X:Cx}{st:Stmt}{f:String->Bool}{N ps:List Str}{od:Option Addr}{A B:Prop}{env:Env}{scope:Scope}{c e elt t tg:Expr}{p pos:Pos}{ifs:List Expr}{tb:TS}{J:It}{fp:List Addr}{tn:Nat->aaZ->Prop}{pins:List 'i'}{σ σ':St}{H H' H0 H1 H2 Hb:Hp}{D:Ends}{E:Ad->GT->Prop}{Q:VK}{vs xs:List V}{b ds ds':List aD}{v:V}{ao:Ao}{α α' α1 β:Al}{τ:List 'h'}{r:R}{o o':WO}{op:CmpOp}{T:String}{sp:SpM}{ks:List Nat}{De:f7}{g:WG}{gs:WGs}{m1:MSt}{ob:R->Option Int->Option Int->MSt->(R->Prop)->Prop}{hi lo:Option Expr}{as:List Ag}{Ks:Src->MSt->Prop}
theorem oJ:∀{vs:List Ad}{ns:List Int},aeV vs ns->Vals (ns.map V.int) vs
 |_,_,.nil=>.nil
 |_,_,.cons n t h=>.cons ⟨t,rfl⟩ (oJ h)
def Only(H:Hp):Prop:=∀b,H b=none\/∃o xs,H b=some (.frz o (.lst xs))
theorem Ij{P:aax}{w:World}{K:aae}{mb:Str->Option Ad}{CX:CXT}{k:Nat}{fa:Addr}{sp:Sp}{C:GT}{vs:List Ad}
  (KX:K.In C.heap) (Y:C.heap.Ns aaw mg) (I:C.heap.Ns builtinsNs mb) (hbb:∀x:Str,x ≠ "__name__" -> mb x=aaU x) (hlim:C.heap.NoLimit) (hsy:∃m,C.heap.Ns abG m) (hg:C.gens = #[])
  (ha:C.heap.get? a=some {cls:=.type "list",data:=.seq vs.toArray}) (hi:aeV vs ns) (hl:ns.length≤aak) (hr:Room k agF)
  (F:∀base:aaZ,K.In base->base.Ns aaw mg->FnOk P w K mg base CX k fa fd [x] sp) (O:∀(s:GT) (u:Ad),aha s fd ⟨[u],[]⟩ [(x,u)])
  (hsp:∀H:Hp,Only H->SqL K H a (ns.map V.int)->sp [.ref a] H (λv _=>v = .bl true) λ_ _ _=>False)
  (hCX:∀H e s',CX [] H C (λ_ _ _=>False) e s'->False) :
  adZ (model P w) agF (.call (.ref fa) ⟨[.ref a],[]⟩) (λr s'=>r = .ok (.ret (.bool true))/\OldK C.heap s'.heap/\s'.os=C.os/\afo s'.gens) C:=by
 have rv:=oJ hi;have R:=hi.length;have M:∀H:Hp,Only H->SqL K H a (ns.map V.int)->HOk P w H C.heap->(∀b,H b≠none->b=a)->(H a≠none->K.lookup a=none) ->
   adZ (model P w) agF (.call (.ref fa) ⟨[.ref a],[]⟩) (λr s'=>r = .ok (.ret (.bool true))/\OldK C.heap s'.heap/\s'.os=C.os/\afo s'.gens) C:=by
  intro H hO hS hok hA hK;have G:∀{b:Addr}{o:Obj},C.heap.get? b=some o->H b=none->(hidT C.heap H).get? b=some o:=λe n=>GF e n;have noA:∀{b:Addr}{o:Obj}{U:Array aca}{Z:Nat},C.heap.get? b=some o->o.data = .dict U Z->H b=none:=λ{b o U Z} e d=>by
   cases q:H b with
   |none=>rfl
   |some u=>
    have e':b=a:=hA b (by rw[q];simp);subst e';rw[ha]at e;cases e;have d':Data.seq vs.toArray _=Data.dict U Z:=d;cases d'
  have L:∀{b:Addr}{m:Str->Option Ad},C.heap.Ns b m->(hidT C.heap H).Ns b m:=λ{b m} ⟨o,U,Z,e,d,r⟩=>⟨o,U,Z,G e (noA e d),d,r⟩;have hKb:K.In (hidT C.heap H):=λb o e=>G (KX b o e) (by
   cases q:H b with
   |none=>rfl
   |some u=>
    have e':b=a:=hA b (by rw[q];simp);subst e';rw[hK (by rw[q];simp)]at e;cases e)
  have hM:Mod K mg (hidT C.heap H):=⟨hKb,L Y,⟨mb,L I,hbb⟩,let ⟨mc,h1,h2⟩:=hlim;⟨mc,L h1,h2⟩,let ⟨m,h⟩:=hsy;⟨m,L h⟩⟩;have e0:Env0 P w K mg (hidT C.heap H) agF [] C H:=⟨rfl,hM,λb o e=>NQ e,af0 (B5 _ _),trivial,λb I=>absurd (show b∈([]:List Addr)from I) 'a',hok,.of_eq hg⟩;refine aee ((F _ hKb (L Y)).run agF [] C H ⟨[.ref a],[]⟩ [.ref a] [.ref a] _ _ hr e0 (O C (.ref a)) (.cons rfl .nil) (hsp H hO hS)) λr s' h=>?_
  cases r with
  |error e=>exact(hCX H e s' h).elim
  | ok fl=>
   cases fl with
   |next=>exact acn h
   |brk=>exact acn h
   |cont=>exact acn h
   | ret u=>
    let⟨v,H',os,bare,un,W,r',q⟩:=h;have q':v = .bl true:=q;subst q';obtain rfl:u=ahF true:=r';refine⟨rfl,OldK.of_keep λb o e=>?_,os,bare⟩
    cases q:H b with
    |none=>exact un.keep b o e q (by intro z;exact absurd (show b∈([]:List Addr)from z) 'a') 'a'
    |some u=>
     rcases hO b with z|⟨ob,xs,z⟩
     .rw[q]at z;cases z
     .have z2:=un.frzs b ob _ z;let⟨e1,_⟩:=hok b _ z;let⟨e2,_⟩:=W b _ z2;rw[e]at e1;cases e1;exact e2
 cases hk:K.lookup a with
 |some o=>
  have e:=KX a o hk;rw[ha]at e;cases e;refine M (λ_=>none) (λ_=>.inl rfl) (.inr ⟨_,vs.toArray,_,hk,rfl,rfl,rfl,by rw[aaG,R];exact hl,by simpa using rv⟩) (λb u z=>by have S:(none:Option HO)=some u:=z;cases S) (λb z=>absurd rfl z) λz=>absurd rfl z
 | none=>
  refine M (λb=>if b=a then some (.frz {cls:=.type "list",data:=.seq vs.toArray} (.lst (ns.map V.int)))else none) (λb=>?_) (.inl (.inr ⟨{cls:=.type "list",data:=.seq vs.toArray},if_pos rfl⟩)) (λb u z=>?_) (λb z=>?_) λ_=>hk
  .by_cases I:b=a
   .exact .inr ⟨_,_,if_pos I⟩
   .exact .inl (if_neg I)
  .by_cases I:b=a
   .have S:=(if_pos I).symm.trans z;cases S;subst I;exact⟨ha,by rw[iO];exact hl,vs,_,rv,ha⟩
   .have S:=(if_neg I).symm.trans z;cases S
  .by_cases I:b=a
   .exact I
   .exact absurd (if_neg I) z
theorem OX{l:agh}{k:Nat}{q:aax}{I:List Str}{XP:(Str->Option Ad)->aaZ->Prop}{YP:World->aaZ->Prop}{d:DefRec}{K:Params->aae}{CX:World->CXT}{sp:World->Sp}
  (hq:importsNone q=true) (hn:l.most=some n) (R:n≤aak) (U:d.params.defaults=[]) (hr:Room k agF)
  (hY:∀(w:World) (h:aaZ),YP w h->(K w.params).In h)
  (F:∀(w:World) (mg:Str->Option Ad) (O:Addr) (h:aaZ),(K w.params).In h->h.Ns aaw mg->mg d.name=some (.ref O) ->
   ∃fd:ab0,(∀(s:GT) (u:Ad),aha s fd ⟨[u],[]⟩ [(x,u)])/\
    ∀base:aaZ,(K w.params).In base->base.Ns aaw mg->FnOk l.prog w (K w.params) mg base (CX w) k O fd [x] (sp w))
  (S:∀(w:World) (H:Hp) (a:Addr) (ns:List Int),ns.length≤n->Only H->SqL (K w.params) H a (ns.map V.int)->sp w [.ref a] H (λv _=>v = .bl true) λ_ _ _=>False)
  (W:∀(w:World) (H:Hp) (s:GT) (e:Ad) (s':GT),CX w [] H s (λ_ _ _=>False) e s'->False) :
  ahL q I XP YP l.row.toRowW d [] (λf vs=>ahI f vs):=by
 refine Att.attach_call hn U λw s₀ M mg mb O o pm cd doc a vs ns G Y ho hd hcd P L C z hg=>?_;have Z:=hY w _ Y;let⟨fd,hb,hF⟩:=F w mg O _ Z G.T.g P;exact Ij Z G.T.g G.T.b G.T.builtins G.T.nolimit (by let⟨m,h,_⟩:=(G.T.seer hq).mods;exact⟨m,h⟩) hg L C (aaA z R) hr hF hb (λH hO hS=>S w H a ns z hO hS) λH e s'=>W w H M e s'
def cB(s:Stmt):Arguments:=match s with
 | .FunctionDef _ a _ _ _ _ _ _ _ _=>a
 |_=>{posonlyargs:=[],args:=[],vararg:=none,kwonlyargs:=[],kw_defaults:=[],kwarg:=none,defaults:=[]}
def bO(s:Stmt):List Stmt:=match s with
 | .FunctionDef _ _ b _ _ _ _ _ _ _=>b
 |_=>[]
def ab(s:Stmt):Scope:=match s with
 | .FunctionDef _ _ _ _ _ _ d _ _ _=>d
 |_=>{kind:=.function,names:=[],isGenerator:=false,isCoroutine:=false}
abbrev CX0:CXT:=λ_ _ _ _ _ _=>False
abbrev E0:XK:=λ_ _ _=>False
def II:lj CX0 X E0:=λ_ _ _ _ _ _ _ h=>h.elim
structure Fun(K:aae)(x qual:Str)(st:Stmt)(f:Addr)(fd:ab0):Prop where
 ex:∃(oc:Ad) (od:Option Addr) (kV doc pm:Ad) (an:Option Addr) (cdv ct:Ad) (osl:Array (Option Ad)),
  fd=abm x qual (cB st) (bO st) (ab st) .none kV doc pm an cdv ct/\K.lookup f=some ⟨oc,od,.func fd,osl⟩/\adt K cdv qual=true
 kp:abM K (.ref f)=true
section
variable {P:aax}{w:World}{K:aae}{mg:Str->Option Ad}{base:aaZ}
theorem Fun.ok{f:Addr}{k:Nat}{sp:Sp}(F:Fun K x qual st f fd)(S:ai N ps (ab st))(len:∀vs H Q E,sp vs H Q E->vs.length=ps.length)
  (m:∀(d:Ad) (A:aa8) (outer:List Env) (s:GT) (H:Hp) (vs:List V) (Q:VK) (E:XK),Room k (A.deeper (aef qual (ab st) s.heap.objs.size f d))->sp vs H Q E ->
   ∃t,PSs (cxOf CX0 P w K mg base N qual (ab st) f d A outer s H E).nox (bO st) t/\t {nx:=λ_ H'=>Q .non H',rt:=Q} (start N vs) H):FnOk P w K mg base CX0 (k+1) f fd ps sp:=by
 let⟨M,od,kV,I,pm,an,d,ct,L,rfl,C,z⟩:=F.ex;refine XI C z S len λA outer s H vs Q E G u=>?_;let⟨t,h,q⟩:=m d A outer s H vs Q E G u;exact⟨t,h.nox,q⟩
theorem Fun.binds{f:Addr}(F:Fun K x qual st f fd)
  (h:∀(kV k pm:Ad) (an:Option Addr) (d ct:Ad) (us:List Ad),us.length=ps.length->adO (abm x qual (cB st) (bO st) (ab st) .none kV k pm an d ct) ⟨us,[]⟩=pure (ps.zip us)):Binds K fd ps []:=by
 let⟨u,od,kV,k,pm,an,d,ct,s,rfl,z,m⟩:=F.ex;exact .all (h kV k pm an d ct)
def tq{f:Addr}{s:Ad}{an:Option Addr}{m:Array (Option Ad)}{kV h pm d ct:Ad}(l:K.lookup f=some ⟨s,od,.func (abm x qual (cB st) (bO st) (ab st) .none kV h pm an d ct),m⟩)
  (c:adt K d qual=true) (k:abM K (.ref f)=true):Fun K x qual st f (abm x qual (cB st) (bO st) (ab st) .none kV h pm an d ct):=⟨⟨s,od,kV,h,pm,an,d,ct,m,rfl,l,c⟩,k⟩
end
theorem iteF(h:B):if false=true then A else B:=by simp_all
theorem iteT(h:A):if true=true then A else B:=by simp_all
def aV(X:Cx)(scope:Scope)(cl:List (Str×Addr))(N:List Str)(s:GT)(H:Hp)(C:Addr)(ex:List Addr):Cx where
 prog:=X.prog
 w:=X.w
 K:=X.K
 mg:=X.mg
 base:=X.base
 A:=X.A
 N:=N
 s₀:=s
 H₀:=H
 env:=agy scope cl C X.env
 outer:=X.stack
 stack:=X.stack
 ex:=ex
 fn:=λ_=>false
 calm:=X.calm
 eb:=X.eb
 pn:=[]
 xe:=λ_ _=>False
theorem ki{env:Env}:∀{names:List (Str×aeE)}{acc:List (Str×Addr)},(∀y∈names,y.2 = .free->∃c,env.cells.lookup y.1=some c)->(∀x c,acc.lookup x=some c->env.cells.lookup x=some c) ->
  ∃cl,(forIn names acc λ(x:Str×aeE) (L:List (Str×Addr))=>if (x.2==aeB)=true then do let c <- cellOf env x.1;pure (aeK ((x.1,c)::L))else pure (aeK L):Sem (List (Str×Addr)))=pure cl/\
   (∀x c,cl.lookup x=some c->env.cells.lookup x=some c)/\(∀y∈names,y.2 = .free->∃c,cl.lookup y.1=some c)/\(∀x,(∃c,acc.lookup x=some c)->∃c,cl.lookup x=some c)
 |[],acc,_,ha=>⟨acc,rfl,ha,λy m=>absurd m 'a',λ_ h=>h⟩
 | (n,k)::r,acc,h,ha=>by
  rw[agi]
  by_cases hk:k = .free
  .subst hk;let⟨c,M⟩:=h (n,.free) aan rfl;have z:env.cells.lookup n=some c:=M;have O:cellOf env n=pure c:=by unfold cellOf;rw[z]
   let⟨cl,G,I,F,C⟩:=ki (env:=env) (names:=r) (acc:=(n,c)::acc) (λy m=>h y (aai _ m)) (λx d u=>by
    rw[aa6]at u
    cases hb:x==n with
    |true=>rw[hb]at u;cases u;rw[eq_of_beq hb];exact z
    |false=>rw[hb]at u;exact ha x d u)
   refine⟨cl,?_,I,λy m s=>?_,λx u=>C x ?_⟩
   .simp only[beq_self_eq_true,if_true,O,pure_bind];exact G
   .obtain rfl|m:=aag.mp m
    .exact C n ⟨c,by rw[aa6];simp⟩
    .exact F y m s
   .obtain⟨d,hd⟩:=u;rw[aa6]
    cases hb:x==n with
    |true=>exact⟨c,rfl⟩
    |false=>exact⟨d,hd⟩
  .have hb:(k==aeB)=false:=by simpa using hk
   let⟨cl,G,I,F,C⟩:=ki (env:=env) (names:=r) (acc:=acc) (λy m=>h y (aai _ m)) ha;refine⟨cl,?_,I,λy m s=>?_,C⟩
   .simp only[hb,ac6,if_false,pure_bind];exact G
   .obtain rfl|m:=aag.mp m
    .exact absurd s hk
    .exact F y m s
theorem gn(h:∀y∈scope.names,y.2 = .free->∃c,env.cells.lookup y.1=some c) :
  ∃cl,closureFor scope env=pure cl/\(∀x c,cl.lookup x=some c->env.cells.lookup x=some c)/\∀y∈scope.names,y.2 = .free->∃c,cl.lookup y.1=some c:=by
 let⟨cl,e,d,k,_⟩:=ki (acc:=[]) h (λx c m=>by cases m);refine⟨cl,?_,d,k⟩;simp[closureFor]
 simp_all
def PTs(X:Cx)(ifs:List Expr)(t:TT):Prop:=
 ∀(pins:List 'i') (s:GT) (σ:St) (H:Hp) (Q:Bool->Hp->Prop),Inv X pins σ H s->t σ H Q ->
  wpAny (model X.prog X.w) X.A (forIn ifs true λc r=>if r=true then do let ok <- isTrue c X.env (eval c X.env);pure (aeK ok)else pure (aeK r)) (TP X pins σ Q) X.xe s
def QX:TT:=λ_ H Q=>Q true H
theorem Md:PTs X [] QX:=λ_ _ _ H _ I h=>wpAny_tests_nil ⟨H,I,h⟩
theorem MX{t:TT}(hc:PT X c t):PTs X [c] t:=λpins s σ H Q I h=>wpAny_tests_one (hc pins s σ H Q I h)
def PB(X:Cx)(bd:Sem PUnit)(t:TS):Prop:=
 ∀(pins:List 'i') (s:GT) (σ:St) (H:Hp) (D:Ends),Inv X pins σ H s->t D σ H->wpAny (model X.prog X.w) X.A bd (λ_ d=>∃σ' H',Inv X pins σ' H' d/\D.nx σ' H') X.xe s
def uk(J:It)(g:TG)(tb:TS):TS:=λD σ H=>∃W:Nat->Nat->St->Hp->Prop,(∃m,W 0 m σ H)/\∀i m σ H,W i m σ H ->
 (J.stop i H/\D.nx σ H)\/(J.go i H/\∃N:St->Hp->Prop,(∀σ' H',N σ' H'->∃h,h<m/\W (i+1) h σ' H')/\∀x H',J.yld i H x H'->g x σ H' λd H2=>tb {D with nx:=N,ct:=N,bk:=D.nx} d H2)
def tIfT(tt:TT)(tb:TS):TS:=λD σ H=>tt σ H λb H1=>if b=true then tb D σ H1 else D.nx σ H1
def yT(l:Addr)(d:TE):TS:=λD σ H=>d σ H λx H1=>∃xs,H1 l=some (.lst xs)/\xs.length<aak/\D.nx σ (upd H1 l (.lst (xs++[x])))
theorem t8{gens:List Comprehension}{d:Nat}{O:Addr}{acc:Ad}{ipos:Pos}{bd:Sem PUnit}{g:TG}{tt:TT}
  (M:compTurn (.ListComp elt gens scope pos) d (.ref O) acc X.env=(do
   acL ipos
   match <- acA (.ref O)with
   |none=>pure (.done .next)
   | some v=>
    adY tg (.ref O) v
    afx tg X.env v
    let mut ok:=true
    for c in ifs do
     if ok then ok <- isTrue c X.env (eval c X.env)
    if ok then bd
    again (.compLoop (.ListComp elt gens scope pos) d (.ref O) acc X.env)))
  (hx:X.xe=λ_ _=>False) (hc:X.calm=true) (T:Turn X.prog X.w X.K tg J fp O tn) (hg:PG X tg g) (ht:PTs X ifs tt) (C:PB X bd tb)
  {s:GT} (I:Inv X pins σ H s) (st:tn 0 s.heap) (f:∀b∈fp,FpOk X pins H b) (h:uk J g (tIfT tt tb) D σ H) :
  adZ (model X.prog X.w) X.A (.compLoop (.ListComp elt gens scope pos) d (.ref O) acc X.env) (λr s'=>r = .ok .next/\∃σ' H',Inv X pins σ' H' s'/\D.nx σ' H') s:=by
 let⟨W,⟨m0,w0⟩,turn⟩:=h;have F:∀{H':Hp},(∀b∈fp,H' b=none)->∀b∈fp,FpOk X pins H' b:=λhn b C=>⟨hn b C,(f b C).2⟩;have nox:∀{α:Type}{t:Sem α}{Q:α->GT->Prop}{E:Ad->GT->Prop}{s:GT},wpAny (model X.prog X.w) X.A t Q X.xe s->wpAny (model X.prog X.w) X.A t Q E s:=λh=>ab9 h (λ_ _ q=>q) λ_ _ z=>by
  rw[hx]at z;exact z.elim
 refine codeAny_loop rfl (λn s'=>∃i σ' H',Inv X pins σ' H' s'/\tn i s'.heap/\(∀b∈fp,H' b=none)/\W i n σ' H') ?_ m0 ⟨0,σ,H,I,st,λb C=>(f b C).1,w0⟩;intro n s3 ⟨i,G,H3,I3,Y,V,w3⟩;show wpAny _ X.A ((compTurn (.ListComp elt gens scope pos) d (.ref O) acc X.env).onRaise (λx=>do noteFrame x X.env;theTreesLotGoes x)) _ _ s3;refine wpAny_noted ?_;rw[M];refine gT (m:=acL _) (ade (gT ?_));rcases turn i n G H3 w3 with⟨stop,qn⟩|⟨go,N,hN,step⟩
 .refine thn (T.done X rfl rfl rfl hc i pins s3 G H3 _ I3 (F V) Y stop) λr s4 ⟨hr,I4⟩=>?_;subst hr;exact LD ⟨rfl,G,H3,I4,qn⟩
 .refine thn (T.item X rfl rfl rfl hc i pins s3 G H3 _ I3 (F V) Y go) λr s4 ⟨u,hr,h4⟩=>?_;subst hr;refine gT (thn h4 λ_ s5 ⟨x,H5,I5,r5,y5,L,fr5⟩=>?_);have I5':=I5.pinned (F fr5) (T.obj _ _ L);refine gT (nox (thn (hg _ s5 G H5 x u _ I5' r5 (step x H5 y5)) λ_ s6 ⟨U,H6,I6,q6⟩=>?_));refine gT (nox (thn (ht _ s6 U H6 _ I6 q6) λok s7 ⟨H7,I7,q7⟩=>?_));have Z:∀{k:St}{P:Hp}{S:GT},Inv X (pins++u9 fp s5.heap) k P S->N k P->∃m,m<n/\∃i σ' H',Inv X pins σ' H' S/\tn i S.heap/\(∀b∈fp,H' b=none)/\W i m σ' H':=λ{k P S} R n8=>by
   let⟨m',hm,w8⟩:=hN k P n8;refine⟨m',hm,i+1,k,P,R.unpinned,T.keep _ _ _ L λb C o e=>(R.pin (b,o) (aaQ _ (aaQ _ (iK C e)))).1,λb C=>?_,w8⟩;let⟨o,e,_⟩:=T.obj _ _ L b C;exact(R.pin (b,o) (aaQ _ (aaQ _ (iK C e)))).2.1
  cases ok with
  |false=>
   rw[if_neg aap]at q7;exact LD ⟨rfl,Z I7 q7⟩
  |true=>
   rw[if_pos rfl]at q7;exact gT (nox (thn (C _ s7 U H7 _ I7 q7)<|by intro _ S ⟨k,P,R,q8⟩;exact LD ⟨rfl,Z R q8⟩))
theorem wn{d:TE}(k:PE X elt d):PB X (do let _ <- call (.builtin "list.append") [.ref l,<-eval elt X.env]) (yT l d):=by
 intro pins s σ H D I h;refine gT (thn (k pins s σ H _ I h) λu s1 ⟨x,H1,M,r1,xs,L,m,q⟩=>?_);refine gT (thn ?_ λ_ F C=>LD C);exact thn (m8 pins s1 σ H1 (.ref l) [x] _ [u] (λv H'=>v = .non/\D.nx σ H') M rfl (.cons r1 .nil) ⟨l,xs,x,rfl,rfl,L,m,rfl,q⟩)<|by intro v F ⟨_,H',G,_,_,z⟩;exact⟨σ,H',G,z⟩
theorem fG(env:Env)(x:Str):∀names:List (Str×aeE),(names.map λ(n,k)=>if (k==aeB&&env.scope.kind == .function&&env.kindOf n==some .cell)then(n,ahM)else(n,k)).lookup x =
  (names.lookup x).map λk=>if (k==aeB&&env.scope.kind == .function&&env.kindOf x==some .cell)then ahM else k
 |[]=>rfl
 | (n,k)::r=>by
  have d:=fG env x r;rw[aaq];dsimp only
  cases hx:x==n with
  |true=>
   have e:=eq_of_beq hx;subst e
   by_cases h:(k==aeB&&env.scope.kind == .function&&env.kindOf x==some .cell)=true
   .simp only[aa6,hx,acK,if_pos h]
   .simp only[aa6,hx,acK,if_neg h]
  |false=>
   split
   .simp only[aa6,hx];exact d
   .simp only[aa6,hx];exact d
def iJ{k:aeE}:∀{names:List (Str×aeE)},names.lookup x=some k->(x,k)∈names:=λh=>aco h
theorem nH(d:∀y∈scope.names,y.2≠.cell)(h:(agG scope env).names.lookup x=some .cell\/(agG scope env).names.lookup x=some .free):scope.names.lookup x=some .free:=by
 unfold agG at h;simp only[fG]at h
 cases e:scope.names.lookup x with
 |none=>rw[e]at h;rcases h with h|h<;>cases h
 |some k=>
  rw[e]at h;simp only[acK]at h;have hk:=d _ (iJ e)
  by_cases m:k = .free
  .rw[m]
  .simp_all
def u4(h:scope.names.lookup x=some .free):(agG scope env).names.lookup x=some .cell\/(agG scope env).names.lookup x=some .free:=by
 unfold agG;simp only[fG,h,acK];split
 .exact .inl rfl
 .exact .inr rfl
def i9(own:List Str)(ps:List Nat)(σ:St):St:=own.map (λ_=>none)++ps.map λi=>(σ[i]?).join
structure cr(own fr:List Str)(scope sc:Scope):Prop where
 kind:scope.kind = .function
 nocell:∀y∈scope.names,y.2≠.cell
 names:∀y∈scope.names,y.2 = .local->scope.names.lookup y.1=some .local
 there:∀y∈scope.names,y.2 = .free->sc.names.lookup y.1=some .cell\/sc.names.lookup y.1=some .free
 fr:∀x∈fr,scope.names.lookup x=some .free
section
variable {X:Cx}{scope sc:Scope}{own fr:List Str}{ps:List Nat}
theorem oY{n:Expr}{rest:List Comprehension}{bdy:Env->Ad->Sem PUnit}{g:TG}{tt:TT}{tb:Addr->TS}{cl:List (Str×Addr)}{R:Ad->Addr->Result->GT->Prop}
  (S:cr own fr scope sc) (hsc:X.env.scope=sc) (hps:ps.map (λi=>X.N[i]?)=fr.map some) (hc:X.calm=true) (G:∀x c,cl.lookup x=some c->X.env.cells.lookup x=some c) (hcl2:∀y∈scope.names,y.2 = .free->∃c,cl.lookup y.1=some c)
  (hturn:∀env it acc,compTurn (.ListComp elt (⟨tg,n,ifs,0⟩::rest) scope pos) 0 it acc env=(do
   acL n.pos
   match <- acA it with
   |none=>pure (.done .next)
   | some v=>
    adY tg it v
    afx tg env v
    let mut ok:=true
    for c in ifs do
     if ok=true then ok <- isTrue c env (eval c env)
    if ok then bdy env acc
    again (.compLoop (.ListComp elt (⟨tg,n,ifs,0⟩::rest) scope pos) 0 it acc env)))
  (hg:∀s H C ex,PG (aV X scope cl (own++fr) s H C ex) tg g) (ht:∀s H C ex,PTs (aV X scope cl (own++fr) s H C ex) ifs tt)
  (d:∀s H C ex l,PB (aV X scope cl (own++fr) s H C ex) (bdy (agy scope cl C X.env) (.ref l)) (tb l))
  {s:GT}{it:Addr} (I:Inv X pins σ H s) (T:Turn X.prog X.w X.K tg J fp it tn) (st:tn 0 s.heap) (f:∀b∈fp,FpOk X pins H b)
  (h:∀l,H l=none->uk J g (tIfT tt (tb l)) {nx:=λ_ H'=>Q (.ref l) H',rt:=λ_ _=>False} (i9 own ps σ) (upd H l (.lst [])))
  (hR:∀l C H' s',(∃m,s'.heap.Ns C m)->Inv X pins σ H' s'->FpOk X pins H' C->Q (.ref l) H'->R (.ref l) C (.ok .next) s') :
  wpAny (model X.prog X.w) X.A (ahd []) (λacc s₃=>wpAny (model X.prog X.w) X.A (newFunctionEnv scope X.env.globals cl [] X.env.qual none .none (some X.env)) (λZ s₄=>
   adZ (model X.prog X.w) X.A (.compStart (.ListComp elt (⟨tg,n,ifs,0⟩::rest) scope pos) 0 (.ref it) acc {Z with scope:=agG scope X.env}) (R acc Z.locals) s₄) E s₃) E s:=by
 refine abf (wpAny_newFunctionEnv S.nocell (by intro y hy;simp at hy) (λO U P=>?_) S.kind);have M:Inv X pins σ (upd H s.heap.objs.size (.lst [])) {s with heap:=s.heap.push {cls:=.type "list",data:=.seq ([]:List Ad).toArray} }:=I.lnew (t':=s.toks) (ys:=[]) .nil (abB _);generalize hS3:({s with heap:=s.heap.push {cls:=.type "list",data:=.seq ([]:List Ad).toArray} }:GT)=L at M U P⊢;have hsz:L.heap.objs.size=s.heap.objs.size+1:=by rw[<-hS3];exact abt _ _
 have hl:H s.heap.objs.size=none:=I.hok.fresh (aaa _);have kept0:∀b o,s.heap.get? b=some o->L.heap.get? b=some o:=λb o e=>by rw[<-hS3];exact Io _ e
 have F:∀b o,L.heap.get? b=some o->O.get? b=some o:=λb o e=>P.extBut b o (aa1 (aao e)) (Io _ e);have fpl:∀b∈fp,b<s.heap.objs.size:=λb d=>by let⟨o,e,_⟩:=T.obj _ _ st b d;exact aao e
 have fpH:∀b∈fp,(upd H s.heap.objs.size (.lst [])) b=none:=λb d=>by rw[av (aa1 (fpl b d))];exact(f b d).1
 have fpS:∀b∈fp,b∉frs X.stack:=λb d z=>by
  rcases aag.mp (I.stkSub b z)with e|e
  .exact(f b d).2.1 e
  .exact(f b d).2.2.1 e
 have ok':(aV X scope cl (own++fr) L (upd H s.heap.objs.size (.lst [])) L.heap.objs.size fp).Ok:=by
  refine⟨I.ok.mod,S.kind,I.ok.glob,I.ok.blt,aaa _,λx y c h1 h2=>I.ok.inj x y c (G x c h1) (G y c h2),λx hx=>?_,λx c hf=>(by cases hf),I.ok.hd,I.ok.frames,.inl rfl,λb d=>⟨?_,λx c hx=>(f b d).2.2.2.2.1 x c (G x c hx)⟩,
   λb o e=>M.bs b o e,aaA M.ok.bsz M.sz,λb o e d=>?_,λb d=>fpS b d,M.stack,M.stkFree⟩
  .exact hcl2 (x,.free) (iJ (nH S.nocell hx)) rfl
  .exact aa1 (aat (fpl b d) (by rw[hsz];exact afp _))
  .rcases (f b d).2.2.2.1 with z|z
   .exact I.ok.noex b o e z
   .exact absurd (aat (aao (I.ok.bs b o e).1) z) (acw _)
 have I4:Inv (aV X scope cl (own++fr) L (upd H s.heap.objs.size (.lst [])) L.heap.objs.size fp) [] (i9 own ps σ) (upd H s.heap.objs.size (.lst [])) {L with heap:=O,toks:=L.toks+([]:List (Str×Ad)).length}:=by
  refine⟨ok',rfl,M.bare,Un.kept F,⟨_,U,λi x v e1 V e3=>?_⟩,λx c e=>?_,M.hok.fresh (aaa _),λx c e=>M.freeC x c (G x c e),λp hp=>absurd (show p∈([]:List 'i')from hp) 'a',M.hok.kept F,?_⟩
  .have e1':(own++fr)[i]?=some x:=e1;unfold i9 at V
   by_cases hi:i<own.length
   .rw[aaC (by simpa using hi),aah]at V
    cases q:own[i]? with
    |none=>rw[q]at V;cases V
    |some z=>rw[q]at V;cases V
   .rw[aaP (by simpa using hi),iO,aah]at V;rw[aaP (by simpa using hi)]at e1'
    cases q:ps[i-own.length]? with
    |none=>rw[q]at V;cases V
    | some p=>
     rw[q]at V;have W:(σ[p]?).join=some v:=aay V;have hσ:σ[p]?=some (some v):=by
      cases z:σ[p]? with
      |none=>rw[z]at W;cases W
      |some w=>rw[z]at W;cases w with
       |none=>cases W
       |some w=>cases W;rfl
     have hN:X.N[p]?=some x:=by
      have z:=congrArg (λl=>l[i-own.length]?) hps;simp only[aah,q,e1',acK,ahe]at z;exact z
     have hx:x∈fr:=Ld e1';have hfr:=S.fr x hx;have hsee:=S.there (x,.free) (iJ hfr) rfl;let⟨m,hn,hlk⟩:=M.loc;let⟨u,ru,lk⟩:=hlk p x v hN hσ (by rw[hsc];exact .inr hsee);refine⟨u,ru,.inr ⟨u4 hfr,?_⟩⟩;rcases lk with⟨k,_⟩|⟨_,c,ec,z⟩
     .have k':X.env.scope.names.lookup x=some .local:=k;rw[hsc]at k';rcases hsee with q2|q2<;>(rw[k']at q2;cases q2)
     .obtain⟨c',ec'⟩:=hcl2 (x,.free) (iJ hfr) rfl;have:=G x c' ec';rw[ec]at this;cases this;let⟨o,ho,hd⟩:=z;exact⟨c,ec',o,F _ _ ho,hd⟩
  .obtain⟨v,o,ho,hd⟩:=M.cell x c (G x c e);exact⟨v,o,F _ _ ho,hd⟩
  .show(i9 own ps σ).length=(own++fr).length;have:=congrArg ad6 hps;rw[iO,iO]at this;unfold i9;rw[aam,aam,iO,iO,this]
 have f4:∀b∈fp,FpOk (aV X scope cl (own++fr) L (upd H s.heap.objs.size (.lst [])) L.heap.objs.size fp) [] (upd H s.heap.objs.size (.lst [])) b:=λb d=>
  ⟨fpH b d,(ok'.exf b d).1,fpS b d,.inl d,(ok'.exf b d).2,λp hp=>absurd (show p∈([]:List 'i')from hp) 'a'⟩
 have st4:tn 0 O:=T.keep 0 _ _ st λb d o e=>F b o (kept0 b o e);have Y:adZ (model X.prog X.w) X.A (.compLoop (.ListComp elt (⟨tg,n,ifs,0⟩::rest) scope pos) 0 (.ref it) (.ref s.heap.objs.size) (agy scope cl L.heap.objs.size X.env)) (R (.ref s.heap.objs.size) L.heap.objs.size) {L with heap:=O,toks:=L.toks+([]:List (Str×Ad)).length}:=by
  refine aee (t8 (X:=aV X scope cl (own++fr) L (upd H s.heap.objs.size (.lst [])) L.heap.objs.size fp) (hturn _ _ _) rfl hc T (hg _ _ _ _) (ht _ _ _ _) (d _ _ _ _ _) I4 st4 f4 (h _ hl)) λr s' ⟨er,σ5,H5,I5,q5⟩=>?_;subst er;have I6:Inv X pins σ H5 s':=M.call' (s':=s') I5.os I5.base I5.hok I5.bare λb d=>⟨(f b d).2.2.2.1,(f b d).2.1,(f b d).2.2.2.2.1,(f b d).2.2.2.2.2⟩;have hm:∃m,s'.heap.Ns L.heap.objs.size m:=let ⟨m,hn,_⟩:=I5.loc;⟨m,hn⟩;exact hR _ _ H5 s' hm I6 (M.fpOk (aaa _) I5.free) q5
 exact codeAny_compStart_list Y (T.self _ 0 _ _ _ st4 Y)
def Fj(L:TI)(own:List Str)(ps:List Nat)(tl:Addr->It->TS):TE:=λσ H Q=>L σ H λJ H1=>∀l,H1 l=none->tl l J {nx:=λ_ H'=>Q (.ref l) H',rt:=λ_ _=>False} (i9 own ps σ) (upd H1 l (.lst []))
def tl1(g:TG)(tt:TT)(K:TE):Addr->It->TS:=λl J=>uk J g (tIfT tt (yT l K))
def tl2(g:TG)(tt:TT)(B:TI)(M:TG)(F:TT)(K:TE):Addr->It->TS:=λl J=>uk J g (tIfT tt λD σ H=>B σ H λd H1=>uk d M (tIfT F (yT l K)) D σ H1)
theorem GG{Y:Cx}{C k A j:Expr}{z t:List Expr}{B:TI}{M:TG}{F:TT}{K:TE}(Z:Y.xe=λ_ _=>False)(hc:Y.calm=true)(hi:PI Y A j B)(hg:PG Y A M)(ht:PTs Y t F)(U:PE Y elt K)
  (hs:∀x,aaT j Y.env x=pure x) :
  PB Y (do
   let x <- eval j Y.env
   acL j.pos
   let x <- aaT j Y.env x
   let _ <- runOwn (.compStart (.ListComp elt [⟨C,k,z,0⟩,⟨A,j,t,0⟩] scope pos) 1 (<- adX [x] (afZ x)) (.ref l) Y.env) Y.env) (λD σ H=>B σ H λJ2 H1=>uk J2 M (tIfT F (yT l K)) D σ H1):=by
 intro pins s σ H D I h;refine gT (thn (hi pins s σ H _ I h) λv s1 R=>?_);refine gT (ade (gT (wpAny_of_eq (hs v) (gT (acf (thn R λS s2 h2=>?_))))));let⟨W,fp,tn,J,H2,e,I2,T,G,P,q⟩:=h2;subst e;have u:∀O,O=s2->adZ (model Y.prog Y.w) Y.A (.compLoop (.ListComp elt [⟨C,k,z,0⟩,⟨A,j,t,0⟩] scope pos) 1 (.ref W) (.ref l) Y.env) (λr L=>match r with| .ok f=>wpAny (model Y.prog Y.w) Y.A (pure PUnit.unit) (λ_ L=>∃σ' H',Inv Y pins σ' H' L/\D.nx σ' H') Y.xe L | .error e=>cameBackBy (model Y.prog Y.w) Y.A Y.env Y.xe e L) O:=by
  rintro O rfl;refine aee (t8 (X:=Y) (elt:=elt) (gens:=[⟨C,k,z,0⟩,⟨A,j,t,0⟩]) (scope:=scope) (pos:=pos) (d:=1) (acc:=.ref l) (ipos:=j.pos) (ifs:=t)
   (bd:=do let _ <- call (.builtin "list.append") [.ref l,<-eval elt Y.env]) rfl Z hc T hg ht (wn U) I2 G P q) λr L ⟨er,V⟩=>?_
  subst er;exact LD V
 refine gT (wpAny_runOwn ?_);show adZ (model Y.prog Y.w) Y.A _ _ s2;refine codeAny_of_tree ?_;refine wpAny_notedAt ?_;unfold compStart;show wpAny _ _ (ask >>= _) _ _ s2;refine gT (m:=ask) (wpAny_askSetting (wpAny_ite ?_));split
 .first
   |exact gT (LD (LD (aho rfl (u _ rfl))))
   |exact LD (aho rfl (u _ rfl))
 .first
   |exact gT (abH (gT (ade (gT (T.self _ 0 _ _ _ G (LD (aho rfl (u _ rfl))))))))
   |(refine gT (abH ?_);show wpAny _ _ (acL j.pos >>= _) _ _ s2;exact gT (ade (gT (T.self _ 0 _ _ _ G (LD (aho rfl (u _ rfl)))))))
theorem Inv.junk{s:GT}{C:Addr}(I:Inv X pins σ H s)(f:FpOk X pins H C){h':aaZ}(h:abl C s.heap h'):Inv X pins σ H {s with heap:=h' }:=
 I.turned (t':=s.toks) (λb o ne e=>(h.2 b ne).trans e) f.1 f.2.1 f.2.2.2.1 f.2.2.2.2.1 f.2.2.2.2.2
variable {elt tg n:Expr}{ifs:List Expr}{pos G N:Pos}{L:TI}{g:TG}{tt:TT}{K:TE}
def qy{s:GT}(S:cr own fr scope sc)(h:X.env.scope=sc)(I:Inv X pins σ H s):∀y∈scope.names,y.2 = .free->∃c,X.env.cells.lookup y.1=some c:=λy d hk=>
 I.ok.has y.1 (by show X.env.scope.names.lookup y.1=_\/X.env.scope.names.lookup y.1=_;rw[h];exact S.there y d hk)
theorem JJ(S:cr own fr scope sc)(hi:PI X tg n L)(hg:∀cl s H C ex,PG (aV X scope cl (own++fr) s H C ex) tg g)(ht:∀cl s H C ex,PTs (aV X scope cl (own++fr) s H C ex) ifs tt)
  (V:∀cl s H C ex,PE (aV X scope cl (own++fr) s H C ex) elt K) (d:X.env.scope=sc:=by rfl) (z:ps.map (λi=>X.N[i]?)=fr.map some:=by rfl) (hc:X.calm=true:=by rfl) (hs:∀x,aaT n X.env x=pure x:=by intro _;rfl) :
  PE X (.ListComp elt [⟨tg,n,ifs,0⟩] scope pos) (Fj L own ps (tl1 g tt K)):=by
 intro pins s σ H Q I h;let⟨cl,Y,P,h2⟩:=gn (qy S d I);refine adR (use:=none) rfl hs Y S.kind S.names (thn (hi pins s σ H _ I h) λv s1 Z=>thn Z λR s2 W=>?_);let⟨M,fp,tn,J,H2,e,I2,T,F,O,q⟩:=W;subst e;exact oY S d z hc P h2 (λenv M u=>compTurn_list elt tg n ifs scope pos M u env)
  (hg cl) (ht cl) (λs H C ex l=>wn (V cl s H C ex)) I2 T F O q λl C H' s' hm I' fk U=>by
   let⟨m,hn⟩:=hm;exact⟨m,hn,λh' k=>⟨.ref l,H',I'.junk fk k,rfl,U⟩⟩
theorem tu{s':GT}{C:Addr}{Q:St->Hp->Prop}(S:X.N.Nodup)(P:X.N[i]?=some y)(d:X.env.scope.names.lookup y=some .local)(R:∃m,s'.heap.Ns C m)(I:Inv X pins σ H' s')(M:FpOk X pins H' C)(q:Q (σ.set i (some (.ref l))) H') :
  wpAny (model X.prog X.w) X.A (afx (.Name y N) X.env (.ref l)) (λ_ s=>∃m,s.heap.Ns C m/\∀h',abl C s.heap h'->∃σ' k,Inv X pins σ' k {s with heap:=h' }/\Q σ' k) E s':=by
 let⟨m,V⟩:=R;refine wpAny_assign_Name (uy I S P (.inl d) (v:=.ref l) rfl (λs F ⟨a,U,h⟩=>?_) (.inr d));have O:C≠a:=by
  rcases h with h|h
  .rw[h];exact M.2.1
  .exact λz=>M.2.2.2.2.1 _ _ h z.symm
 exact⟨m,V.sameBut U O,λh' u=>⟨_,H',F.junk M u,q⟩⟩
theorem Gz(S:cr own fr scope sc)(Z:X.N.Nodup)(hy:X.N[i]?=some y)(M:X.env.scope.names.lookup y=some .local)(hi:PI X tg n L)(hg:∀cl s H C ex,PG (aV X scope cl (own++fr) s H C ex) tg g)(ht:∀cl s H C ex,PTs (aV X scope cl (own++fr) s H C ex) ifs tt)
  (U:∀cl s H C ex,PE (aV X scope cl (own++fr) s H C ex) elt K) (u:abE (.ListComp elt [⟨tg,n,ifs,0⟩] scope pos) (some (.Name y N)) G.line X.env=pure true:=by rfl)
  (d:X.env.scope=sc:=by rfl) (F:ps.map (λi=>X.N[i]?)=fr.map some:=by rfl) (hc:X.calm=true:=by rfl) (hs:∀x,aaT n X.env x=pure x:=by intro _;rfl) :
  PS X (.Assign [.Name y N] (.ListComp elt [⟨tg,n,ifs,0⟩] scope pos) G) (tAsg (Fj L own ps (tl1 g tt K)) (Iw i)):=by
 intro pins s σ H D I h;let⟨cl,Y,P,h2⟩:=gn (qy S d I);rw[show exec _ X.env=_ from ago _ _ _ _ u];refine gT (m:=acL _) (ade (gT ?_));refine gT (ab9 (adR rfl hs Y S.kind S.names (thn (hi pins s σ H _ I h) λv s1 q1=>thn q1 λR s2 q2=>?_)) (λ_ W V=>LD (LD V)) λ_ _ e=>e);let⟨O,fp,tn,J,H2,e,I2,T,z,f2,q⟩:=q2;subst e;exact oY (Q:=λv H'=>D.nx (σ.set i (some v)) H') (tb:=λl=>yT l K) S d F hc P h2 (λenv O k=>compTurn_list elt tg n ifs scope pos O k env)
  (hg cl) (ht cl) (λs H C ex l=>wn (U cl s H C ex)) I2 T z f2 q λl C H' W hm I' fk q'=>tu Z hy M hm I' fk q'
variable {A j:Expr}{t:List Expr}{B:TI}{M:TG}{F:TT}
theorem pc(elt d n:Expr)(ifs:List Expr)(A j:Expr)(t:List Expr)(scope:Scope)(pos:Pos)(h acc:Ad)(env:Env) :
  compTurn (.ListComp elt [⟨d,n,ifs,0⟩,⟨A,j,t,0⟩] scope pos) 0 h acc env=(do
   acL n.pos
   match <- acA h with
   |none=>pure (.done .next)
   | some v=>
    adY d h v
    afx d env v
    let mut ok:=true
    for c in ifs do
     if ok=true then ok <- isTrue c env (eval c env)
    if ok then
     (do
      let x <- eval j env
      acL j.pos
      let x <- aaT j env x
      let _ <- runOwn (.compStart (.ListComp elt [⟨d,n,ifs,0⟩,⟨A,j,t,0⟩] scope pos) 1 (<- adX [x] (afZ x)) acc env) env)
    again (.compLoop (.ListComp elt [⟨d,n,ifs,0⟩,⟨A,j,t,0⟩] scope pos) 0 h acc env)):=by
 simp only[ bind_assoc];rfl
theorem GC(S:cr own fr scope sc)(hN:X.N.Nodup)(hy:X.N[i]?=some y)(W:X.env.scope.names.lookup y=some .local)(hi:PI X tg n L)(hg:∀cl s H C ex,PG (aV X scope cl (own++fr) s H C ex) tg g)(ht:∀cl s H C ex,PTs (aV X scope cl (own++fr) s H C ex) ifs tt)
  (hi2:∀cl s H C ex,PI (aV X scope cl (own++fr) s H C ex) A j B) (R:∀cl s H C ex,PG (aV X scope cl (own++fr) s H C ex) A M) (u:∀cl s H C ex,PTs (aV X scope cl (own++fr) s H C ex) t F)
  (he:∀cl s H C ex,PE (aV X scope cl (own++fr) s H C ex) elt K) (O:abE (.ListComp elt [⟨tg,n,ifs,0⟩,⟨A,j,t,0⟩] scope pos) (some (.Name y N)) G.line X.env=pure true:=by rfl)
  (d:X.env.scope=sc:=by rfl) (V:ps.map (λi=>X.N[i]?)=fr.map some:=by rfl) (hc:X.calm=true:=by rfl) (hs:∀x,aaT n X.env x=pure x:=by intro _;rfl)
  (U:∀cl C x,aaT j (agy scope cl C X.env) x=pure x:=by intro _ _ _;rfl) :
  PS X (.Assign [.Name y N] (.ListComp elt [⟨tg,n,ifs,0⟩,⟨A,j,t,0⟩] scope pos) G) (tAsg (Fj L own ps (tl2 g tt B M F K)) (Iw i)):=by
 intro pins s σ H D I h;let⟨cl,ec,Z,h2⟩:=gn (qy S d I);rw[show exec _ X.env=_ from ago _ _ _ _ O];refine gT (m:=acL _) (ade (gT ?_));refine gT (ab9 (adR (Q:=λ_ k=>SP X pins D .next k) rfl hs ec S.kind S.names (thn (hi pins s σ H _ I h) λv s1 q1=>thn q1 λitv s2 q2=>?_)) (λ_ k hq=>LD (LD hq)) λ_ _ e=>e);let⟨Y,fp,tn,J,H2,e,I2,T,P,f2,q⟩:=q2;subst e;exact oY (Q:=λv H'=>D.nx (σ.set i (some v)) H') S d V hc Z h2 (λenv Y z=>pc elt tg n ifs A j t scope pos Y z env)
  (hg cl) (ht cl) (λs H C ex l=>GG rfl hc (hi2 cl s H C ex) (R cl s H C ex) (u cl s H C ex) (he cl s H C ex) (U cl C)) I2 T P f2 q λl C H' k hm I' fk q'=>tu hN hy W hm I' fk q'
end
def FzL(K:aae)(H:Hp)(a:Addr)(xs:List V):Prop:=
 (∃o,H a=some (.frz o (.lst xs))) \/
  ∃(o:Obj) (d:Array Ad) (n:Nat),K.lookup a=some o/\o.cls = .type "list"/\o.dict=none/\o.data = .seq d n/\d.size≤aak/\Vals xs d.toList
theorem FzL.sq{K:aae}(h:FzL K H a xs):SqL K H a xs:=by
 rcases h with⟨o,h⟩|h
 .exact .inl (.inr ⟨o,h⟩)
 .exact .inr h
structure Kd where
 K:aae
 w:World
instance:Coe Kd aae:=⟨Kd.K⟩
mutual
def i6(w:World):aD->Int
 | .int i=>hashInt i
 | .str x=>hashStr w x
 | .tuple ds=>reduceHash (abI (jt w ds))
 |_=>0
def jt(w:World):List aD->List Int
 |[]=>[]
 |d::ds=>i6 w d::jt w ds
end
mutual
def hkD:aD->Bool
 | .int _=>true
 | .str _=>true
 | .tuple ds=>hkA ds
 |_=>false
def hkA:List aD->Bool
 |[]=>true
 |d::ds=>hkD d&&hkA ds
end
def isKd(kvs:List (aD×aD)):Bool:=kvs.all λk=>match k.1 with| .int _=>true | .str _=>true|_=>false
def Af(kvs:List (aD×aD)):Prop:=isKd kvs=false/\(kvs.map (·.1)).Nodup/\∀k∈kvs.map (·.1),hkD k=true
def dXp(a:Addr)(c:List (Int×V×V))(h:aaZ):Prop:=
 (a==abG)=false/\c.length≤aak/\∃(o:Obj) (b:Array aca) (f:Nat),h.get? a=some o/\o.ExactDict/\o.data = .dict b f/\
  abL (λ(e:Int×V×V) (d:aca)=>d.hash=e.1/\RelV e.2.1 d.key/\RelV e.2.2 d.val) c b.toList
abbrev dX(a:Addr)(e:List (Int×V×V)):HO:=.ext (dXp a e)
def FzD(H:Hp)(a:Addr)(e:List (Int×V×V)):Prop:=∃o,H a=some (.frz o (dX a e))
def ClsN(K:Kd)(c:Str)(C:Addr):Prop:=aaN K.K aaw c=some (some (.ref C))
def XY(K:Kd)(H:Hp)(a:Addr)(c:Str)(xs:List (Str×V)):Prop:=
 ∃(o:Obj) (u:HO) (C:Addr),H a=some (.frz o u)/\o.cls = .ref C/\(∃vs,o.data = .fields vs)/\ClsN K c C/\((o.dict=none/\xs=[])\/∃(dx:Addr) (b:Obj),o.dict=some dx/\H dx=some (.frz b (.xd xs)))
def keyD:Key->aD
 | .inl i=>.int i
 | .inr x=>.str x
def excC:List (aD×aD)->Option Str
 |(.none,.str c)::_=>some c
 |_=>none
mutual
def Den(K:Kd)(H:Hp):aD->V->Prop
 | .none,v=>v = .non
 | .bool b,v=>v = .bl b
 | .int i,v=>v = .int i
 | .str x,v=>v = .str x
 | .list ds,v=>∃a d,v = .ref a/\FzL K H a d/\DenAll K H ds d
 | .tuple ds,v=>∃a d,v = .ref a/\SqT K H a d/\DenAll K H ds d
 | .dict kvs,v=>∃a,v = .ref a/\((∃e,FzD H a e/\Af kvs/\DenKV K H kvs e)\/(∃e o,H a=some (.frz o (.dK e))/\DenKK K H kvs e)\/∃c d,excC kvs=some c/\XY K H a c d/\DenXF K H kvs d)
def DenAll(K:Kd)(H:Hp):List aD->List V->Prop
 |[],xs=>xs=[]
 |d::ds,xs=>∃v vs,xs=v::vs/\Den K H d v/\DenAll K H ds vs
def DenKV(K:Kd)(H:Hp):List (aD×aD)->List (Int×V×V)->Prop
 |[],es=>es=[]
 |(k,d)::r,es=>∃u v vs,es=(i6 K.w k,u,v)::vs/\Den K H k u/\Den K H d v/\DenKV K H r vs
def DenKK(K:Kd)(H:Hp):List (aD×aD)->List (Key×V)->Prop
 |[],es=>es=[]
 |(k,d)::r,es=>∃a v vs,es=(a,v)::vs/\(k=keyD a/\∀x∈vs,x.1≠a)/\Den K H d v/\DenKK K H r vs
def DenXF(K:Kd)(H:Hp):List (aD×aD)->List (Str×V)->Prop
 |[],xs=>xs=[]
 |(k,d)::r,xs=>match k with
  | .str f=>∃v vs,xs=(f,v)::vs/\Den K H d v/\DenXF K H r vs
  |_=>DenXF K H r xs
end
structure Pers(H H':Hp):Prop where
 tups:∀b xs,H b=some (.tup xs)->H' b=some (.tup xs)
 frzs:∀b o u,H b=some (.frz o u)->H' b=some (.frz o u)
theorem Pers.trans(a:Pers H H1)(b:Pers H1 H2):Pers H H2:=⟨λc x e=>b.tups c x (a.tups c x e),λc o u e=>b.frzs c o u (a.frzs c o u e)⟩
section
variable {K:Kd}{H H':Hp}
theorem FzL.mono(p:Pers H H')(h:FzL K H a xs):FzL K H' a xs:=by
 rcases h with⟨o,h⟩|h
 .exact .inl ⟨o,p.frzs _ _ _ h⟩
 .exact .inr h
theorem SqT.mono(p:Pers H H')(h:SqT K H a xs):SqT K H' a xs:=by
 rcases h with(h|⟨o,h⟩)|h
 .exact .inl (.inl (p.tups _ _ h))
 .exact .inl (.inr ⟨o,p.frzs _ _ _ h⟩)
 .exact .inr h
mutual
theorem Den.mono(p:Pers H H'):∀{d:aD}{v:V},Den K H d v->Den K H' d v
 | .none,_,h=>h
 | .bool _,_,h=>h
 | .int _,_,h=>h
 | .str _,_,h=>h
 | .list ds,_,h=>by
  simp only[Den]at h⊢;let⟨a,x,e,f,g⟩:=h;exact⟨a,x,e,f.mono p,DenAll.mono p g⟩
 | .tuple ds,_,h=>by
  simp only[Den]at h⊢;let⟨a,x,e,f,g⟩:=h;exact⟨a,x,e,f.mono p,DenAll.mono p g⟩
 | .dict kvs,_,h=>by
  simp only[Den]at h⊢;let⟨a,e,h⟩:=h;refine⟨a,e,?_⟩;rcases h with⟨i,⟨o,f⟩,m,g⟩|⟨i,o,f,g⟩|⟨c,x,l,⟨o,u,C,t,k,s,n,b⟩,g⟩
  .exact .inl ⟨i,⟨o,p.frzs _ _ _ f⟩,m,DenKV.mono p g⟩
  .exact .inr (.inl ⟨i,o,p.frzs _ _ _ f,DenKK.mono p g⟩)
  .refine .inr <| .inr ⟨c,x,l,⟨o,u,C,p.frzs _ _ _ t,k,s,n,?_⟩,DenXF.mono p g⟩;rcases b with b|⟨dx,j,q,r⟩
   .exact .inl b
   .exact .inr ⟨dx,j,q,p.frzs _ _ _ r⟩
theorem DenAll.mono(p:Pers H H'):∀{ds:List aD}{xs:List V},DenAll K H ds xs->DenAll K H' ds xs
 |[],_,h=>h
 |d::ds,_,h=>by
  simp only[DenAll]at h⊢;let⟨v,vs,e,f,g⟩:=h;exact⟨v,vs,e,Den.mono p f,DenAll.mono p g⟩
theorem DenKV.mono(p:Pers H H'):∀{ds:List (aD×aD)}{xs:List (Int×V×V)},DenKV K H ds xs->DenKV K H' ds xs
 |[],_,h=>by simpa only[DenKV]using h
 |(k,d)::r,_,h=>by
  simp only[DenKV]at h⊢;let⟨u,v,vs,e,f,a,g⟩:=h;exact⟨u,v,vs,e,Den.mono p f,Den.mono p a,DenKV.mono p g⟩
theorem DenKK.mono(p:Pers H H'):∀{ds:List (aD×aD)}{xs:List (Key×V)},DenKK K H ds xs->DenKK K H' ds xs
 |[],_,h=>by simpa only[DenKK]using h
 |(k,d)::r,_,h=>by
  simp only[DenKK]at h⊢;let⟨u,v,vs,e,f,a,g⟩:=h;exact⟨u,v,vs,e,f,Den.mono p a,DenKK.mono p g⟩
theorem DenXF.mono(p:Pers H H'):∀{ds:List (aD×aD)}{xs:List (Str×V)},DenXF K H ds xs->DenXF K H' ds xs
 |[],_,h=>by simpa only[DenXF]using h
 |(.str f,d)::r,_,h=>by
  simp only[DenXF]at h⊢;let⟨v,vs,e,a,g⟩:=h;exact⟨v,vs,e,Den.mono p a,DenXF.mono p g⟩
 |(.none,d)::r,_,h=>by simp only[DenXF]at h⊢;exact DenXF.mono p h
 |(.bool _,d)::r,_,h=>by simp only[DenXF]at h⊢;exact DenXF.mono p h
 |(.int _,d)::r,_,h=>by simp only[DenXF]at h⊢;exact DenXF.mono p h
 |(.list _,d)::r,_,h=>by simp only[DenXF]at h⊢;exact DenXF.mono p h
 |(.tuple _,d)::r,_,h=>by simp only[DenXF]at h⊢;exact DenXF.mono p h
 |(.dict _,d)::r,_,h=>by simp only[DenXF]at h⊢;exact DenXF.mono p h
end
def DenAll.nil:DenAll K H [] []:=rfl
def DenAll.cons{d:aD}(h:Den K H d v)(t:DenAll K H ds vs):DenAll K H (d::ds) (v::vs):=by
   exact⟨v,vs,rfl,h,t⟩
theorem DenAll.paired:∀{ds:List aD}{xs:List V},DenAll K H ds xs->abL (Den K H) ds xs
 |[],_,h=>by simp[DenAll]at h;subst h;exact .nil
 |d::ds,_,h=>by
  let⟨v,vs,e,f,g⟩:=h;subst e;exact .cons f g.paired
theorem jv:∀{ds:List aD}{xs:List V},abL (Den K H) ds xs->DenAll K H ds xs
 |_,_,.nil=>DenAll.nil
 |_,_,.cons f t=>DenAll.cons f (jv t)
def DenAll.length(h:DenAll K H ds xs):ds.length=xs.length:=h.paired.length
theorem Paired.get'{d β:Type}{F:d->β->Prop}:∀{c:List d}{l:List β}{i:Nat}{a:d},abL F c l->c[i]?=some a->∃b,l[i]?=some b/\F a b
 |_,_,_,_,.nil,e=>by simp at e
 |_,_,0,_,.cons f _,e=>by simp at e;subst e;exact⟨_,rfl,f⟩
 |_,_,i+1,a,.cons _ t,e=>by
  let⟨b,h,g⟩:=Paired.get' t ‹_›;exact⟨b,by simpa using h,g⟩
def DenAll.get{d:aD}(h:DenAll K H ds xs)(e:ds[i]?=some d):∃v,xs[i]?=some v/\Den K H d v:=Paired.get' h.paired e
theorem Paired.get2{d β:Type}{F:d->β->Prop}:∀{c:List d}{l:List β}{i:Nat}{b:β},abL F c l->l[i]?=some b->∃a,c[i]?=some a/\F a b
 |_,_,_,_,.nil,e=>by simp at e
 |_,_,0,_,.cons f _,e=>by simp at e;subst e;exact⟨_,rfl,f⟩
 |_,_,i+1,b,.cons _ t,e=>by
  let⟨a,h,g⟩:=Paired.get2 t ‹_›;exact⟨a,by simpa using h,g⟩
def DenAll.get2(h:DenAll K H ds xs)(e:xs[i]?=some v):∃d,ds[i]?=some d/\Den K H d v:=Paired.get2 h.paired e
theorem Paired.append'{e β:Type}{F:e->β->Prop}:∀{a b:List e}{c d:List β},abL F a c->abL F b d->abL F (a++b) (c++d)
 |_,_,_,_,.nil,s=>s
 |_,_,_,_,.cons r t,s=>.cons r (Paired.append' t s)
def DenAll.append{e:List aD}{ys:List V}(h:DenAll K H ds xs)(g:DenAll K H e ys):DenAll K H (ds++e) (xs++ys):=jv (Paired.append' h.paired g.paired)
theorem Paired.take'{b β:Type}{F:b->β->Prop}:∀{a:List b}{l:List β} (n:Nat),abL F a l->abL F (a.take n) (l.take n)
 |_,_,0,_=>.nil
 |_,_,_+1,.nil=>.nil
 |_,_,n+1,.cons r t=>.cons r (Paired.take' n t)
theorem Paired.drop'{b β:Type}{F:b->β->Prop}:∀{a:List b}{l:List β} (n:Nat),abL F a l->abL F (a.drop n) (l.drop n)
 |_,_,0,h=>h
 |_,_,_+1,.nil=>.nil
 |_,_,n+1,.cons _ t=>Paired.drop' n t
def DenAll.take(h:DenAll K H ds xs)(n:Nat):DenAll K H (ds.take n) (xs.take n):=jv (Paired.take' n h.paired)
def DenAll.drop(h:DenAll K H ds xs)(n:Nat):DenAll K H (ds.drop n) (xs.drop n):=jv (Paired.drop' n h.paired)
theorem DenAll.ints:∀ns:List Int,DenAll K H (ns.map .int) (ns.map V.int)
 |[]=>DenAll.nil
 |n::ns=>DenAll.cons rfl (DenAll.ints ns)
end
def fzOf:List (aD×aD)->Option aD
 |[(.none,.list ds)]=>some (.list ds)
 |[(.none,.dict es)]=>some (.dict es)
 |_=>none
mutual
def TAt(K:Kd)(H:Hp)(τ:List 'h')(p:List Nat):aD->V->Prop
 | .list ts,v=>∃a f,τ.lookup p=some a/\v = .ref a/\H a=some (.lst f)/\TAtL K H τ p 0 ts f
 | .dict kvs,v=>(∃d,fzOf kvs=some d/\Den K H d v) \/
   (fzOf kvs=none/\excC kvs=none/\∃a e,τ.lookup p=some a/\v = .ref a/\H a=some (dX a e)/\Af kvs/\TAtD K H τ p 0 kvs e) \/
   (fzOf kvs=none/\excC kvs=none/\∃a e,τ.lookup p=some a/\v = .ref a/\H a=some (.dK e)/\TAtK K H τ p 0 kvs e) \/
   ∃c a dx C f,excC kvs=some c/\τ.lookup p=some a/\v = .ref a/\H a=some (.ins C dx f)/\ClsN K c C/\TAtF K H τ p 0 kvs f
 | .none,v=>Den K H .none v
 | .bool b,v=>Den K H (.bool b) v
 | .int i,v=>Den K H (.int i) v
 | .str x,v=>Den K H (.str x) v
 | .tuple ds,v=>Den K H (.tuple ds) v
def TAtL(K:Kd)(H:Hp)(τ:List 'h')(p:List Nat)(i:Nat):List aD->List V->Prop
 |[],xs=>xs=[]
 |t::ts,xs=>∃v vs,xs=v::vs/\TAt K H τ (p++[i]) t v/\TAtL K H τ p (i+1) ts vs
def TAtD(K:Kd)(H:Hp)(τ:List 'h')(p:List Nat)(i:Nat):List (aD×aD)->List (Int×V×V)->Prop
 |[],es=>es=[]
 |(k,t)::r,es=>∃u v vs,es=(i6 K.w k,u,v)::vs/\Den K H k u/\TAt K H τ (p++[i]) t v/\TAtD K H τ p (i+1) r vs
def TAtK(K:Kd)(H:Hp)(τ:List 'h')(p:List Nat)(i:Nat):List (aD×aD)->List (Key×V)->Prop
 |[],es=>es=[]
 |(k,t)::r,es=>∃a v vs,es=(a,v)::vs/\(k=keyD a/\∀x∈vs,x.1≠a)/\TAt K H τ (p++[i]) t v/\TAtK K H τ p (i+1) r vs
def TAtF(K:Kd)(H:Hp)(τ:List 'h')(p:List Nat)(i:Nat):List (aD×aD)->List (Str×V)->Prop
 |[],xs=>xs=[]
 |(k,t)::r,xs=>match k with
  | .str f=>∃v vs,xs=(f,v)::vs/\TAt K H τ (p++[i]) t v/\TAtF K H τ p (i+1) r vs
  | .none=>TAtF K H τ p (i+1) r xs
  |_=>False
end
theorem bI{β b:Type}[BEq β][LawfulBEq β]{l:List (β×b)}{p:β}{a:b}(h:l.lookup p=some a):a∈l.map (·.2):=by
 induction l with
 |nil=>cases h
 |cons x l i=>
  grind
section
variable {K:Kd}{H H':Hp}{τ:List 'h'}
mutual
theorem TAt.mono(f:Pers H H')(e:∀a∈τ.map (·.2),H' a=H a):∀{d:aD}{p:List Nat}{v:V},TAt K H τ p d v->TAt K H' τ p d v
 | .none,_,_,h=>by simp only[TAt]at h⊢;exact h.mono f
 | .bool _,_,_,h=>by simp only[TAt]at h⊢;exact h.mono f
 | .int _,_,_,h=>by simp only[TAt]at h⊢;exact h.mono f
 | .str _,_,_,h=>by simp only[TAt]at h⊢;exact h.mono f
 | .tuple _,_,_,h=>by simp only[TAt]at h⊢;exact h.mono f
 | .list ts,_,_,h=>by
  simp only[TAt]at h⊢;let⟨a,x,b,j,i,g⟩:=h;exact⟨a,x,b,j,(e a (bI b)).trans i,TAtL.mono f e g⟩
 | .dict kvs,_,_,h=>by
  simp only[TAt]at h⊢;rcases h with⟨d,b,h⟩|⟨m,z,a,l,b,j,i,k,g⟩|⟨m,z,a,l,b,j,i,g⟩|⟨c,a,dx,C,x,n,b,j,i,k,g⟩
  .exact .inl ⟨d,b,h.mono f⟩
  .exact .inr (.inl ⟨m,z,a,l,b,j,(e a (bI b)).trans i,k,TAtD.mono f e g⟩)
  .exact .inr (.inr (.inl ⟨m,z,a,l,b,j,(e a (bI b)).trans i,TAtK.mono f e g⟩))
  .exact .inr (.inr <| .inr ⟨c,a,dx,C,x,n,b,j,(e a (bI b)).trans i,k,TAtF.mono f e g⟩)
theorem TAtL.mono(b:Pers H H')(e:∀a∈τ.map (·.2),H' a=H a):∀{ds:List aD}{p:List Nat}{i:Nat}{xs:List V},TAtL K H τ p i ds xs->TAtL K H' τ p i ds xs
 |[],_,_,_,h=>by simpa only[TAtL]using h
 |t::ts,_,_,_,h=>by
  simp only[TAtL]at h⊢;let⟨v,vs,c,g,d⟩:=h;exact⟨v,vs,c,TAt.mono b e g,TAtL.mono b e d⟩
theorem TAtD.mono(b:Pers H H')(e:∀a∈τ.map (·.2),H' a=H a):∀{ds:List (aD×aD)}{p:List Nat}{i:Nat}{xs:List (Int×V×V)},TAtD K H τ p i ds xs->TAtD K H' τ p i ds xs
 |[],_,_,_,h=>by simpa only[TAtD]using h
 |(k,t)::r,_,_,_,h=>by
  simp only[TAtD]at h⊢;let⟨u,v,vs,d,g,c,f⟩:=h;exact⟨u,v,vs,d,g.mono b,TAt.mono b e c,TAtD.mono b e f⟩
theorem TAtK.mono(b:Pers H H')(e:∀a∈τ.map (·.2),H' a=H a):∀{ds:List (aD×aD)}{p:List Nat}{i:Nat}{xs:List (Key×V)},TAtK K H τ p i ds xs->TAtK K H' τ p i ds xs
 |[],_,_,_,h=>by simpa only[TAtK]using h
 |(k,t)::r,_,_,_,h=>by
  simp only[TAtK]at h⊢;let⟨u,v,vs,d,g,c,f⟩:=h;exact⟨u,v,vs,d,g,TAt.mono b e c,TAtK.mono b e f⟩
theorem TAtF.mono(b:Pers H H')(e:∀a∈τ.map (·.2),H' a=H a):∀{ds:List (aD×aD)}{p:List Nat}{i:Nat}{xs:List (Str×V)},TAtF K H τ p i ds xs->TAtF K H' τ p i ds xs
 |[],_,_,_,h=>by simpa only[TAtF]using h
 |(.str f,t)::r,_,_,_,h=>by
  simp only[TAtF]at h⊢;let⟨v,vs,c,g,j⟩:=h;exact⟨v,vs,c,TAt.mono b e g,TAtF.mono b e j⟩
 |(.none,d)::r,_,_,_,h=>by simp only[TAtF]at h⊢;exact TAtF.mono b e h
 |(.bool _,d)::r,_,_,_,h=>by simp only[TAtF]at h
 |(.int _,d)::r,_,_,_,h=>by simp only[TAtF]at h
 |(.list _,d)::r,_,_,_,h=>by simp only[TAtF]at h
 |(.tuple _,d)::r,_,_,_,h=>by simp only[TAtF]at h
 |(.dict _,d)::r,_,_,_,h=>by simp only[TAtF]at h
end
end
abbrev Cx.kd(X:Cx):Kd:=⟨X.K,X.w⟩
section
variable {X:Cx}{pins:List 'i'}{σ:St}{H:Hp}{s:GT}
mutual
theorem Den.reads(I:Inv X pins σ H s):∀{d:aD}{v:V}{u:Ad},d.hasDict=false->Den X.kd H d v->RelV v u->∃as,Reads s.heap u d as
 | .none,v,u,_,h,r=>by simp only[Den]at h;subst h;cases r;exact⟨_,.none⟩
 | .bool b,v,u,nd,h,r=>by simp only[Den]at h;subst h;cases r;exact⟨_,.bool b⟩
 | .int i,v,u,nd,h,r=>by simp only[Den]at h;subst h;let⟨t,rfl⟩:=r;exact⟨_,.int i t⟩
 | .str x,v,u,nd,h,r=>by simp only[Den]at h;subst h;let⟨t,rfl⟩:=r;exact⟨_,.str x t⟩
 | .list ds,v,u,nd,h,r=>by
  simp only[Den]at h;let⟨a,p,rfl,f,g⟩:=h;cases r;let⟨k,j,⟨o,n,e,c,_,l⟩,_⟩:=I.list f.sq;let⟨as,m⟩:=DenAll.reads I (by simpa only[aci]using nd) g j;exact⟨_,.list e c l (by simpa using m)⟩
 | .tuple ds,v,u,nd,h,r=>by
  simp only[Den]at h;let⟨a,p,rfl,f,g⟩:=h;cases r;let⟨k,j,⟨o,e,c,n,l⟩,_⟩:=I.tuple f;let⟨as,m⟩:=DenAll.reads I (by simpa only[aci]using nd) g j;exact⟨_,.tuple e c l (by simpa using m)⟩
 | .dict _,v,u,nd,h,r=>by simp[aci]at nd
theorem DenAll.reads(I:Inv X pins σ H s):∀{ds:List aD}{xs:List V}{us:List Ad},adp ds=false->DenAll X.kd H ds xs->Vals xs us->∃as,adT s.heap us ds as
 |[],xs,us,_,h,r=>by simp only[DenAll]at h;subst h;cases r;exact⟨_,.nil⟩
 | d::ds,xs,us,nd,h,r=>by
  simp only[adp,acj]at nd;simp only[DenAll]at h;let⟨v,vs,rfl,f,g⟩:=h
  cases r with
  |cons r1 a=>
   let⟨a1,b⟩:=Den.reads I nd.1 f r1;let⟨a2,c⟩:=DenAll.reads I nd.2 g a;exact⟨_,.cons b c⟩
end
theorem Inv.freeze(I:Inv X pins σ H s)(h:H a=some (.lst xs)):∃o,Inv X pins σ (upd H a (.frz o (.lst xs))) s:=by
 let⟨f,i,n,r,e⟩:=I.hok a _ h;refine⟨{cls:=.type "list",data:=.seq i.toArray n},I.un (h':=s.heap) (t':=s.toks) ⟨λb d q _ _ _=>q,λb d q _ _ _=>⟨d.slots,q⟩,λb d q z _=>?_,λb d q _=>⟨d,q⟩,λb y q=>?_,λb d u q=>?_,λb p q=>⟨#[],?_⟩⟩ λb d q=>?_⟩
 .rw[av (abF (br h z))];exact z
 .rw[av (wd q h 'a')];exact q
 .rw[av (wd q h (by intro z;cases z))];exact q
 .rw[av (wd q h 'a'),q];simp
 .by_cases hb:b=a
  .subst hb;rw[aA]at q;cases q;exact⟨e,f,i,n,r,e⟩
  .rw[av hb]at q;exact(I.hok b d q).stay (λ_ _ _ z=>z) (λc z=>by rw[av (wd z h 'a')];exact z) λc y z=>by rw[av (wd z h 'a')];exact z
end
def Ki:Expr->Bool
 | .Starred ..=>true
 |_=>false
def aF{a:List Expr}(h:Ki e=false):aab (e::a) env=(false,eval e env)::aab a env:=by
 cases e<;>first|rfl|cases h
def c7(h:Ki e=false):aab [e] env=[(false,eval e env)]:=aF h
inductive R where
 |imm (d:aD)|obj (k:Nat)|new (ds:List aD)|at (k:Nat) (p:List Nat)|newT (t:aD)
structure MSt where
 vs:List (Option R)
 os:List (List aD)
 np:Nat
structure Kx extends Kd where
 eb:EB
instance:Coe Kx Kd:=⟨Kx.toKd⟩
abbrev Cx.kx(X:Cx):Kx:=⟨X.kd,X.eb⟩
abbrev Al:=List Ao
def Ao.ads:Ao->List Addr
 | .L a=>[a]
 | .T t=>t.map (·.2)
def ads(a:Al):List Addr:=a.flatMap Ao.ads
def kb(a β:Al):ads (a++β)=ads a++ads β:=by unfold ads;rw[adI]
def Mu:HO->Bool
 | .tup _=>false
 | .frz _ _=>false
 |_=>true
def OwnAt(K:Kd)(H:Hp):Ao->List aD->Prop
 | .L a,ds=>∃x,H a=some (.lst x)/\DenAll K H ds x
 | .T τ,ds=>(∃t v,ds=[t]/\TAt K H τ [] t v/\∃a,τ.lookup []=some a/\v = .ref a)/\∀a∈τ.map (·.2),∃o,H a=some o/\Mu o=true
theorem OwnAt.mem(h:OwnAt K H ao ds)(c:a∈ao.ads):∃o,H a=some o/\Mu o=true:=by
 cases ao with
 |L b=>cases aaf.mp c;let⟨x,e,_⟩:=h;exact⟨_,e,rfl⟩
 |T d=>exact h.2 a c
theorem OwnAt.mono(h:OwnAt K H ao ds)(p:Pers H H')(e:∀a∈ao.ads,H' a=H a):OwnAt K H' ao ds:=by
 cases ao with
 |L b=>
  let⟨x,q,g⟩:=h;exact⟨x,(e b (aaf.mpr rfl)).trans q,g.mono p⟩
 |T f=>
  let⟨⟨t,v,d,g,r⟩,m⟩:=h;exact⟨⟨t,v,d,g.mono p e,r⟩,λa c=>by rw[e a c];exact m a c⟩
def RelS(K:Kd)(b:Al)(H:Hp):R->V->Prop
 | .imm d,v=>Den K H d v
 | .obj k,v=>∃a,b[k]?=some (.L a)/\v = .ref a
 | .at k p,v=>∃c a,b[k]?=some (.T c)/\c.lookup p=some a/\v = .ref a
 | .new _,_=>False
 | .newT _,_=>False
def RelR(K:Kd)(e:Al)(f H:Hp):R->V->Prop
 | .imm d,v=>Den K H d v
 | .obj k,v=>∃a,e[k]?=some (.L a)/\v = .ref a
 | .at k p,v=>∃c a,e[k]?=some (.T c)/\c.lookup p=some a/\v = .ref a
 | .new ds,v=>∃a x,v = .ref a/\f a=none/\H a=some (.lst x)/\DenAll K H ds x
 | .newT t,v=>∃c a,v = .ref a/\c.lookup []=some a/\(c.map (·.2)).Nodup/\(∀b∈c.map (·.2),f b=none)/\OwnAt K H (.T c) [t]
def Frm(a:Al)(H c:Hp):Prop:=∀b o,H b=some o->b∉ads a->c b=some o
theorem Frm.refl(a:Al)(H:Hp):Frm a H H:=λ_ _ e _=>e
theorem Frm.trans(a:Frm α H H1)(b:Frm α H1 H2):Frm α H H2:=λc o e n=>b c o (a c o e n) n
structure Ext(np:Nat)(α:Al)(H:Hp)(α':Al)(H':Hp):Prop where
 pre:α'.take np=α.take np
 frm:Frm α H H'
 new:∀a∈ads α',a∈ads α\/H a=none
 old:∀a∈ads α,∃o,H' a=some o
theorem Ext.trans{np:Nat}{c:Al}(x:Ext np α H α1 H1)(y:Ext np α1 H1 c H2):Ext np α H c H2:=by
 have out:∀b o,H b=some o->b∉ads α->b∉ads α1:=λb o e n f=>by
  rcases x.new b f with z|z
  .exact n z
  .grind
 refine⟨y.pre.trans x.pre,λb o e n=>y.frm b o (x.frm b o e n) (out b o e n),λa d=>?_,λa d=>?_⟩
 .rcases y.new a d with z|z
  .exact x.new a z
  .cases q:H a with
   |none=>exact .inr rfl
   | some o=>
    by_cases h:a∈ads α
    .exact .inl h
    .have:=x.frm a o q h
     grind
 .obtain⟨o,e⟩:=x.old a d
  by_cases h:a∈ads α1
  .exact y.old a h
  .exact⟨o,y.frm a o e h⟩
theorem Ext.nil{np:Nat}(x:Ext np α H α1 H1)(h:H1 a=none):H a=none:=by
 cases q:H a with
 |none=>rfl
 | some o=>
  by_cases b:a∈ads α
  .obtain⟨o',e⟩:=x.old a b
   grind
  .have:=x.frm a o q b
   grind
theorem Ext.less{np n1:Nat}(x:Ext n1 α H α' H')(h:np≤n1):Ext np α H α' H':=by
 refine⟨?_,x.frm,x.new,x.old⟩;have:=congrArg (agH np) x.pre;rw[List.take_take,List.take_take,Nat.min_eq_left h]at this;omega
structure Rel(K:Kx)(α:Al)(m:MSt)(σ:St)(H:Hp):Prop where
 nd:(ads α).Nodup
 len:α.length=m.os.length
 own:∀(k:Nat) (ao:Ao) (ds:List aD),α[k]?=some ao->m.os[k]?=some ds->OwnAt K H ao ds
 vlen:σ.length=m.vs.length
 var:∀(i:Nat) (r:R),m.vs[i]?=some (some r)->∃v,σ[i]?=some (some v)/\RelS K α H r v
 npl:m.np≤α.length
 ebl:K.eb.np≤m.np
 ebx:Ext K.eb.np K.eb.be K.eb.H α H
section
variable {K:Kx}{α:Al}{m m':MSt}{σ:St}{H H0 H1 H':Hp}{r:R}{v:V}
theorem RelS.rr{K:Kd}(h:RelS K α H r v):RelR K α Hb H r v:=by
 cases r with
 |imm d=>exact h
 |obj k=>exact h
 | «at» k p=>exact h
 |new ds=>exact h.elim
 |newT t=>exact h.elim
theorem Rel.mem(R:Rel K α m σ H)(f:a∈ads α):∃o,H a=some o/\Mu o=true:=by
 let⟨c,b,d⟩:=acb.mp f;let⟨k,hk,e⟩:=abY.mp b;have b:α[k]?=some c:=by rw[lD hk,e]
 have h:m.os[k]?=some (m.os[k]'(by rw[<-R.len];exact hk)):=lD _;exact(R.own k c _ b h).mem d
theorem Rel.out(R:Rel K α m σ H)(h:H a=none):a∉ads α:=λb=>by
 obtain _:=R.mem b
 grind
theorem Rel.pers(R:Rel K α m σ H)(F:Frm α H H'):Pers H H' where
 tups:=λb x e=>F b _ e λh=>by let⟨y,q,z⟩:=R.mem h;rw[e]at q;cases q;cases z
 frzs:=λb o u e=>F b _ e λh=>by let⟨y,q,z⟩:=R.mem h;rw[e]at q;cases q;cases z
theorem Ext.of{np:Nat}(R:Rel K α m σ H')(F:Frm α H H'):Ext np α H α H':=
 ⟨rfl,F,λ_ h=>.inl h,λa b=>let ⟨xs,q,_⟩:=R.mem b;⟨_,q⟩⟩
theorem OwnAt.keep{K:Kd}(h:OwnAt K H1 ao ds)(p:Pers H1 H)(F:Frm α H1 H)(n:∀b∈ao.ads,b∉ads α):OwnAt K H ao ds:=
 h.mono p λa c=>by
  let⟨o,e,_⟩:=h.mem c;rw[e];exact F a o e (n a c)
theorem RelR.keep(c:Rel K α m σ H0)(R:Rel K α m' σ H1)(F:Frm α H1 H)(h:RelR K α H0 H1 r v):RelR K α H0 H r v:=by
 cases r with
 |imm d=>exact Den.mono (R.pers F) h
 |obj k=>exact h
 | «at» k p=>exact h
 |new ds=>
  let⟨a,x,e,n,q,g⟩:=h;exact⟨a,x,e,n,F a _ q (c.out n),g.mono (R.pers F)⟩
 |newT t=>
  let⟨i,a,e,j,nd,n,g⟩:=h;exact⟨i,a,e,j,nd,n,g.keep (R.pers F) F λb f=>c.out (n b f)⟩
theorem RelR.base(R:Rel K α m σ H)(F:Frm α H0 H)(h:RelR K α H H' r v):RelR K α H0 H' r v:=by
 have old:∀a,H a=none->H0 a=none:=λa n=>by
  cases z:H0 a with
  |none=>rfl
  |some o=>
   have:=F a o z (R.out n)
   grind
 cases r with
 |imm d=>exact h
 |obj k=>exact h
 | «at» k p=>exact h
 |new ds=>
  let⟨a,x,e,n,q,g⟩:=h;exact⟨a,x,e,old a n,q,g⟩
 |newT t=>
  let⟨f,a,e,i,nd,n,g⟩:=h;exact⟨f,a,e,i,nd,λb c=>old b (n b c),g⟩
def chD:aD->Nat->Option aD
 | .list ts,i=>ts[i]?
 | .dict kvs,i=>match kvs[i]? with
  |some (.none,_)=>none
  |some (_,t)=>some t
  |none=>none
 |_,_=>none
def getT:aD->List Nat->Option aD
 |t,[]=>some t
 |t,i::p=>(chD t i).bind λa=>getT a p
def jf:aD->Option aD
 | .list _=>none
 | .dict k=>fzOf k
 |d=>some d
def dw:List aD->Option (List aD)
 |[]=>some []
 |t::ts=>match jf t,dw ts with|some d,some ds=>some (d::ds)|_,_=>none
def ndL(m:MSt)(k:Nat)(p:List Nat):Option (List aD):=match m.os[k]? with
 |some [t]=>match getT t p with
  |some (.list ts)=>dw ts
  |_=>none
 |_=>none
theorem ju{K:Kd}{p:List Nat}{t d:aD}(h:TAt K H τ p t v)(e:jf t=some d):Den K H d v:=by
 cases t with
 |list ts=>cases e
 | dict k=>
  have b:fzOf k=some d:=e;rcases h with _|⟨z,_⟩|⟨z,_⟩|⟨c,a,dx,C,x,f,_⟩
  .simp_all
  .simp_all
  .rw[b]at z;cases z
  .exfalso;unfold fzOf at b;unfold excC at f
   split at b<;>contradiction
 |none=>cases e;simpa only[TAt]using h
 |bool _=>cases e;simpa only[TAt]using h
 |int _=>cases e;simpa only[TAt]using h
 |str _=>cases e;simpa only[TAt]using h
 |tuple _=>cases e;simpa only[TAt]using h
theorem j6{K:Kd}{τ:List 'h'}{p:List Nat}:∀{ts ds:List aD}{i:Nat}{xs:List V},TAtL K H τ p i ts xs->dw ts=some ds->DenAll K H ds xs
 |[],ds,i,xs,h,e=>by
  cases e;subst h;rfl
 | t::ts,ds,i,xs,h,e=>by
  let⟨v,vs,rfl,g,a⟩:=h;simp[dw]at e
  cases q1:jf t with
  |none=>rw[q1]at e;cases e
  | some d=>
   cases q2:dw ts with
   |none=>rw[q1,q2]at e;cases e
   |some b=>
    rw[q1,q2]at e;cases e;exact DenAll.cons (ju g q1) (j6 a q2)
theorem TAtL.get{K:Kd}{τ:List 'h'}{p:List Nat}:∀{ts:List aD}{i j:Nat}{xs:List V}{t:aD},TAtL K H τ p i ts xs->ts[j]?=some t->∃v,xs[j]?=some v/\TAt K H τ (p++[i+j]) t v
 |[],_,_,_,_,_,e=>by simp at e
 |t::ts,i,0,xs,t',h,e=>by
  let⟨v,vs,rfl,g,_⟩:=h;simp at e;subst e;exact⟨v,rfl,g⟩
 |t::ts,i,j+1,xs,t',h,e=>by
  let⟨v,vs,rfl,_,c⟩:=h;let⟨a,d,b⟩:=TAtL.get c ‹_›;exact⟨a,by simpa using d,by rw[show i+(j+1)=i+1+j by omega];exact b⟩
theorem TAtD.get{K:Kd}{τ:List 'h'}{p:List Nat}:∀{ts:List (aD×aD)}{i j:Nat}{xs:List (Int×V×V)}{k t:aD},TAtD K H τ p i ts xs->ts[j]?=some (k,t)->∃u v,xs[j]?=some (i6 K.w k,u,v)/\Den K H k u/\TAt K H τ (p++[i+j]) t v
 |[],_,_,_,_,_,_,e=>by simp at e
 |(k,t)::ts,i,0,xs,k',t',h,e=>by
  let⟨u,v,vs,rfl,b,g,_⟩:=h;simp at e;let⟨rfl,rfl⟩:=e;exact⟨u,v,rfl,b,g⟩
 |(k,t)::ts,i,j+1,xs,k',t',h,e=>by
  let⟨u,v,vs,rfl,_,_,f⟩:=h;let⟨c,a,l,n,d⟩:=TAtD.get f ‹_›;exact⟨c,a,by simpa using l,n,by rw[show i+(j+1)=i+1+j by omega];exact d⟩
theorem TAtK.get{K:Kd}{τ:List 'h'}{p:List Nat}:∀{ts:List (aD×aD)}{i j:Nat}{xs:List (Key×V)}{k t:aD},TAtK K H τ p i ts xs->ts[j]?=some (k,t)->∃v,TAt K H τ (p++[i+j]) t v
 |[],_,_,_,_,_,_,e=>by simp at e
 |(k,t)::ts,i,0,xs,k',t',h,e=>by
  let⟨u,v,vs,rfl,d,g,_⟩:=h;simp at e;let⟨rfl,rfl⟩:=e;exact⟨v,g⟩
 |(k,t)::ts,i,j+1,xs,k',t',h,e=>by
  let⟨u,v,vs,rfl,_,_,c⟩:=h;let⟨a,b⟩:=TAtK.get c ‹_›;exact⟨a,by rw[show i+_=i+1+j by omega];exact b⟩
theorem TAtF.get{K:Kd}{τ:List 'h'}{p:List Nat}:∀{ts:List (aD×aD)}{i j:Nat}{xs:List (Str×V)}{f:Str}{t:aD},TAtF K H τ p i ts xs->ts[j]?=some (.str f,t)->∃v,(f,v)∈xs/\TAt K H τ (p++[i+j]) t v
 |[],_,_,_,_,_,_,e=>by simp at e
 |(k,t)::ts,i,0,xs,f,t',h,e=>by
  simp_all
  let⟨v,vs,rfl,d,_⟩:=h;exact⟨v,aan,d⟩
 | (k,t)::ts,i,j+1,xs,f,t',h,e=>by
  have go:∀{y:List (Str×V)},TAtF K H τ p (i+1) ts y->∃v,(f,v)∈y/\TAt K H τ (p++[i+(j+1)]) t' v:=λ{y} g=>by
   let⟨a,c,b⟩:=TAtF.get (j:=j) g (by simpa using e);exact⟨a,c,by rw[show i+(j+1)=i+1+j by omega];exact b⟩
  cases k with
  |str l=>
   simp only[TAtF]at h;let⟨v,vs,rfl,_,g⟩:=h;let⟨a,c,b⟩:=go g;exact⟨a,aai _ c,b⟩
  |none=>simp only[TAtF]at h;exact go h
  |bool _=>simp only[TAtF]at h
  |int _=>simp only[TAtF]at h
  |list _=>simp only[TAtF]at h
  |tuple _=>simp only[TAtF]at h
  |dict _=>simp only[TAtF]at h
theorem TAtF.key{K:Kd}{p:List Nat}:∀{ts:List (aD×aD)}{i:Nat}{xs:List (Str×V)}{k t:aD},TAtF K H τ p i ts xs->(k,t)∈ts->k≠.none->∃f,k = .str f
 |[],_,_,_,_,_,e,_=>by simp at e
 | (k,t)::ts,i,xs,k',t',h,e,kn=>by
  cases k with
  |str a=>
   let⟨v,vs,rfl,_,g⟩:=h;rcases aag.mp e with e|e
   .grind
   .exact g.key e kn
  |none=>
   simp only[TAtF]at h;rcases aag.mp e with e|e
   .grind
   .exact h.key e kn
  |bool _=>simp[TAtF]at h
  |int _=>simp[TAtF]at h
  |list _=>simp only[TAtF]at h
  |tuple _=>simp only[TAtF]at h
  |dict _=>simp[TAtF]at h
theorem TAt.get{K:Kd}{τ:List 'h'}:∀{q p:List Nat}{t t':aD}{v:V},TAt K H τ p t v->getT t q=some t'->∃v',TAt K H τ (p++q) t' v'
 |[],p,t,t',v,h,e=>by cases e;exact⟨v,by rw[aa4];exact h⟩
 | i::q,p,t,t',v,h,e=>by
  simp only[getT]at e
  cases z:chD t i with
  |none=>rw[z]at e;cases e
  | some n=>
   rw[z]at e;have B:getT n q=some t':=e;have step:∃l,TAt K H τ (p++[i]) n l:=by
    cases t with
    |list ts=>
     simp only[TAt]at h;let⟨a,A,_,_,_,g⟩:=h;let⟨l,_,b⟩:=g.get (j:=i) z;exact⟨l,by rw[acM]at b;exact b⟩
    | dict w=>
     simp only[chD]at z
     cases zi:w[i]? with
     |none=>rw[zi]at z;cases z
     | some G=>
      let⟨k,E⟩:=G;rw[zi]at z;have o:k≠.none:=λq=>by subst q;cases z
      have F:E=n:=by
       split at z<;>simp_all
      subst F;simp only[TAt]at h;rcases h with⟨d,s,_⟩|⟨_,_,a,y,_,_,_,_,g⟩|⟨_,_,a,y,_,_,_,g⟩|⟨c,a,dx,C,A,I,_,_,_,_,g⟩
      .exfalso;unfold fzOf at s
       split at s
       .cases i<;>simp at zi;exact o zi.1.symm
       .cases i<;>simp at zi;exact o zi.1.symm
       .cases s
      .obtain⟨u,l,_,_,b⟩:=g.get (j:=i) zi;exact⟨l,by rw[acM]at b;exact b⟩
      .obtain⟨l,b⟩:=g.get (j:=i) zi;exact⟨l,by rw[acM]at b;exact b⟩
      .obtain⟨f,rfl⟩:=g.key (Ld zi) o;let⟨l,_,b⟩:=g.get (j:=i) zi;exact⟨l,by rw[acM]at b;exact b⟩
    |none=>cases z
    |bool _=>cases z
    |int _=>cases z
    |str _=>cases z
    |tuple _=>cases z
   let⟨l,D⟩:=step;let⟨v',x⟩:=TAt.get D B;exact⟨v',by rw[aaW]at x;exact x⟩
def lsOf(m:MSt):R->Option (List aD)
 | .imm (.list ds)=>some ds
 | .obj k=>m.os[k]?
 | .new ds=>some ds
 | .at k p=>ndL m k p
 |_=>none
mutual
def eraT:aD->Option aD
 | .list ts=>(eraL ts).map .list
 | .dict k=>fzOf k
 | .none=>some .none
 | .bool b=>some (.bool b)
 | .int i=>some (.int i)
 | .str x=>some (.str x)
 | .tuple ds=>some (.tuple ds)
def eraL:List aD->Option (List aD)
 |[]=>some []
 |t::ts=>match eraT t,eraL ts with|some d,some ds=>some (d::ds)|_,_=>none
end
def ndT(m:MSt)(k:Nat)(p:List Nat):Option aD:=match m.os[k]? with
 |some [t]=>getT t p
 |_=>none
def asD(m:MSt):R->Option aD
 | .imm d=>some d
 | .obj k=>(m.os[k]?).map .list
 | .new ds=>some (.list ds)
 | .at k p=>match ndT m k p with
  |some (.list ts)=>(eraL ts).map .list
  |_=>none
 | .newT _=>none
theorem RelR.node(R:Rel K α m σ H){k:Nat}{p:List Nat}(h:RelR K α H0 H (.at k p) v){t:aD}(e:ndT m k p=some t):∃τ a v',α[k]?=some (.T τ)/\τ.lookup p=some a/\v = .ref a/\TAt K H τ p t v':=by
 let⟨τ,a,b,f,d⟩:=h;unfold ndT at e
 split at e
 .rename_i t0 e0;let⟨⟨l,j,c,g,_⟩,_⟩:=R.own k _ _ b e0;cases c;let⟨v',i⟩:=g.get e;exact⟨τ,a,v',b,f,d,by simpa using i⟩
 .cases e
theorem RelR.list(R:Rel K α m σ H)(h:RelR K α H0 H r v)(e:lsOf m r=some ds):∃a xs,v = .ref a/\SqL K H a xs/\DenAll K H ds xs:=by
 cases r with
 | imm d=>
  cases d with
  |list j=>
   cases e;have l:Den K H (.list ds) v:=h;let⟨a,xs,b,f,g⟩:=l;exact⟨a,xs,b,f.sq,g⟩
  |none=>cases e
  |bool _=>cases e
  |int _=>cases e
  |str _=>cases e
  |tuple _=>cases e
  |dict _=>cases e
 |obj k=>
  let⟨a,b,rfl⟩:=h;let⟨xs,q,g⟩:=R.own k _ ds b e;exact⟨a,xs,rfl,SqL.of q,g⟩
 |new j=>
  cases e;let⟨a,xs,b,n,q,g⟩:=h;exact⟨a,xs,b,SqL.of q,g⟩
 | «at» k p=>
  have c:ndL m k p=some ds:=e;let⟨ts,b,o⟩:∃ts,ndT m k p=some (.list ts)/\dw ts=some ds:=by
   unfold ndL at c;unfold ndT
   split at c
   .split at c
    .rename_i h0 _ ts h1;exact⟨ts,h1,c⟩
    .cases c
   .cases c
  let⟨w,a,u,_,s,rfl,g⟩:=RelR.node R h b;simp only[TAt]at g;let⟨t,xs,i,_,q,g⟩:=g;rw[s]at i;cases i;exact⟨a,xs,rfl,SqL.of q,j6 g o⟩
 |newT _=>cases e
end
section
variable {X:Cx}{pins:List 'i'}{σ:St}{H:Hp}{s:GT}{τ:List 'h'}
mutual
theorem TAt.reads(I:Inv X pins σ H s):∀{t d:aD}{p:List Nat}{v:V}{u:Ad},eraT t=some d->d.hasDict=false->TAt X.kd H τ p t v->RelV v u->∃as,Reads s.heap u d as
 | .none,d,p,v,u,e,nd,h,r=>by simp only[eraT]at e;cases e;simp only[TAt]at h;exact h.reads I nd r
 | .bool b,d,p,v,u,e,nd,h,r=>by simp only[eraT]at e;cases e;simp only[TAt]at h;exact h.reads I nd r
 | .int i,d,p,v,u,e,nd,h,r=>by simp only[eraT]at e;cases e;simp only[TAt]at h;exact h.reads I nd r
 | .str x,d,p,v,u,e,nd,h,r=>by simp only[eraT]at e;cases e;simp only[TAt]at h;exact h.reads I nd r
 | .tuple ds,d,p,v,u,e,nd,h,r=>by simp only[eraT]at e;cases e;simp only[TAt]at h;exact h.reads I nd r
 | .dict kvs,d,p,v,u,e,nd,h,r=>by
  simp only[eraT]at e;exact(ju h (show jf (.dict kvs)=some d from e)).reads I nd r
 | .list ts,d,p,v,u,e,nd,h,r=>by
  simp only[eraT]at e
  cases q:eraL ts with
  |none=>rw[q]at e;cases e
  |some ds=>
   rw[q]at e;cases e;simp only[TAt]at h;let⟨a,w,_,rfl,f,g⟩:=h;cases r;let⟨j,l,⟨o,n,e,c,_,k⟩,_⟩:=I.list (SqL.of f);let⟨as,m⟩:=TAtL.reads I q (by simpa only[aci]using nd) g l;exact⟨_,.list e c k (by simpa using m)⟩
theorem TAtL.reads(I:Inv X pins σ H s):∀{ts ds:List aD}{p:List Nat}{i:Nat}{xs:List V}{us:List Ad},eraL ts=some ds->adp ds=false->TAtL X.kd H τ p i ts xs->Vals xs us->∃as,adT s.heap us ds as
 |[],ds,p,i,xs,us,e,nd,h,r=>by
  simp only[eraL]at e;cases e;simp only[TAtL]at h;subst h
  cases r;exact⟨_,.nil⟩
 | t::ts,ds,p,i,xs,us,e,nd,h,r=>by
  simp only[eraL]at e
  cases q1:eraT t with
  |none=>rw[q1]at e;cases e
  | some d=>
   cases q2:eraL ts with
   |none=>rw[q1,q2]at e;cases e
   | some b=>
    rw[q1,q2]at e;cases e;simp only[adp,acj]at nd;simp only[TAtL]at h;let⟨v,vs,rfl,g,f⟩:=h
    cases r with
    |cons r1 c=>
     let⟨a1,a⟩:=TAt.reads I q1 nd.1 g r1;let⟨a2,j⟩:=TAtL.reads I q2 nd.2 f c;exact⟨_,.cons a j⟩
end
end
theorem RelR.reads{s:GT}{m:MSt}{u:Ad}{d:aD}(I:Inv X pins σ H s)(R:Rel X.kx α m σ' H)(h:RelR X.kd α H0 H r v)(j:RelV v u)(e:asD m r=some d)(nd:d.hasDict=false):∃as,Reads s.heap u d as:=by
 have t:∀{ds:List aD},lsOf m r=some ds->adp ds=false->∃as,Reads s.heap u (.list ds) as:=λ{ds} e nd=>by
  let⟨a,x,rfl,f,g⟩:=RelR.list R h e;cases j;let⟨z,j,⟨o,n,e,c,_,w⟩,_⟩:=I.list f;let⟨as,B⟩:=DenAll.reads I nd g j;exact⟨_,.list e c w (by simpa using B)⟩
 cases r with
 |imm D=>cases e;exact Den.reads I nd h j
 | obj k=>
  cases q:m.os[k]? with
  |none=>simp[asD,q]at e
  |some ds=>
   simp[asD,q]at e;subst e;exact t q ‹_›
 |new ds=>cases e;exact t rfl (by simpa only[aci]using nd)
 | «at» k p=>
  let⟨ts,ds,q,i,rfl⟩:∃ts ds,ndT m k p=some (.list ts)/\eraL ts=some ds/\d = .list ds:=by
   unfold asD at e;simp only at e
   split at e
   .rename_i ts q
    cases i:eraL ts with
    |none=>rw[i]at e;cases e
    |some ds=>rw[i]at e;cases e;exact⟨ts,ds,q,i,rfl⟩
   .cases e
  let⟨F,a,E,_,A,rfl,g⟩:=RelR.node R h q;have l:=g;simp only[TAt]at l;let⟨C,x,b,y,_⟩:=l;rw[A]at b;cases b;subst y;exact TAt.reads I (by simp only[eraT,i,Option.map]) nd g j
 |newT _=>cases e
abbrev WE:=MSt->(R->MSt->Prop)->Prop
abbrev WT:=MSt->(Bool->MSt->Prop)->Prop
abbrev WA:=MSt->(List R->MSt->Prop)->Prop
def tM(K:Kx)(w:WE):TE:=λd H Q=>∃a m e,Rel K a m d H/\w m e/\∀r c v b,e r c->c.np=m.np->Rel K a c d b->RelR K a H b r v->Frm a H b->Q v b
def tMT(K:Kx)(w:WT):TT:=λe H Q=>∃a m f,Rel K a m e H/\w m f/\∀b d c,f b d->d.np=m.np->Rel K a d e c->Frm a H c->Q b c
inductive RelRs(K:Kd)(α:Al)(Hb H:Hp):List R->List V->Prop where
 |nil:RelRs K α Hb H [] []
 |cons {r:R}{rs:List R}{v:V}{vs:List V}:RelR K α Hb H r v->RelRs K α Hb H rs vs->RelRs K α Hb H (r::rs) (v::vs)
def tMA(K:Kx)(w:WA):TA:=λd H Q=>∃a m e,Rel K a m d H/\w m e/\∀rs c vs b,e rs c->c.np=m.np->Rel K a c d b->RelRs K a H b rs vs->Frm a H b->Q vs b
theorem PE.wk{t t':TE}(h:PE X e t)(k:∀a H Q,t' a H Q->t a H Q):PE X e t':=λp s a H Q I q=>h p s a H Q I (k _ _ _ q)
theorem PT.wk{t t':TT}(h:PT X e t)(k:∀a H Q,t' a H Q->t a H Q):PT X e t':=λp s a H Q I q=>h p s a H Q I (k _ _ _ q)
theorem PW.wk{t t':TT}(h:PW X e t)(k:∀a H Q,t' a H Q->t a H Q):PW X e t':=λw p s a H Q I q=>h w p s a H Q I (k _ _ _ q)
theorem PA.wk{e:List Expr}{t t':TA}(h:PA X e t)(k:∀a H Q,t' a H Q->t a H Q):PA X e t':=λb p s a H Q I q=>h b p s a H Q I (k _ _ _ q)
theorem PS.wk{e:Stmt}{t t':TS}(h:PS X e t)(k:∀D a H,t' D a H->t D a H):PS X e t':=λp s a H D I q=>h p s a H D I (k _ _ _ q)
theorem PSs.wk{e:List Stmt}{t t':TS}(h:PSs X e t)(k:∀D a H,t' D a H->t D a H):PSs X e t':=λp s a H D I q=>h p s a H D I (k _ _ _ q)
abbrev ME(X:Cx)(e:Expr)(w:WE):Prop:=PE X e (tM X.kx w)
abbrev MT(X:Cx)(e:Expr)(w:WT):Prop:=PT X e (tMT X.kx w)
abbrev MW(X:Cx)(e:Expr)(w:WT):Prop:=PW X e (tMT X.kx w)
abbrev MA(X:Cx)(e:List Expr)(w:WA):Prop:=PA X e (tMA X.kx w)
section
variable {X:Cx}{a b c:Expr}{n:List Expr}{f g l:WE}{pos:Pos}
def wVar(i:Nat):WE:=λm K=>∃r,m.vs[i]?=some (some r)/\K r m
abbrev wC(d:aD):WE:=λm K=>K (.imm d) m
theorem Vx{t:TE}{w:WE}(h:PE X a t)(k:∀d m e H K Q,Rel X.kx d m e H->w m K->(∀r o v i,K r o->o.np=m.np->Rel X.kx d o e i->RelR X.kx d H i r v->Frm d H i->Q v i)->t e H Q):ME X a w:=
 h.wk<|by intro e H Q ⟨d,m,K,R,p,j⟩;exact k d m e H K Q R p j
theorem me_c{d:aD}(h:PE X a (tC v))(hd:∀(K:Kd) H,Den K H d v):ME X a (wC d):=
 Vx h λj m k H o Q R i e=>e _ m v H i rfl R (hd _ _) (Frm.refl _ _)
def V3{i j pos}:ME X (.Constant (.int i) j pos) (wC (.int i)):=me_c Se λ_ _=>by simp[Den]
def Yj{i j pos}:ME X (.Constant (.bool i) j pos) (wC (.bool i)):=me_c Yw λ_ _=>by simp[Den]
def UY{i j pos}:ME X (.Constant (.str i) j pos) (wC (.str i)):=me_c W4 λ_ _=>by simp[Den]
def WQ{j pos}:ME X (.Constant .none j pos) (wC .none):=me_c V7 λ_ _=>by simp[Den]
theorem Wf(h:PE X a (tVar i)):ME X a (wVar i):=
 Vx h λq m s H K Q R o d=>by
  let⟨r,e,k⟩:=o;let⟨v,p,j⟩:=R.var i r e;exact⟨v,p,d r m v H k rfl R j.rr (Frm.refl _ _)⟩
def mv(i:Nat){pos:Pos}(e:X.N[i]?=some x:=by rfl)(d:Vis X.env.scope x:=by first|exact afA rfl|exact aei (afA rfl)|exact aei (aei rfl))(hd:(x=='g')=false:=by decide)(h:(x==("__classdict__" : Str))=false:=by decide):ME X (.Name x pos) (wVar i):=Wf (KU e d hd h)
abbrev WO:=R->R->MSt->(R->Prop)->Prop
def rM(K:Kx)(o:WO):R2:=λx y H Q=>∃d m i k p r1 h j,Rel K d m i H/\RelR K d k H r1 x/\RelR K d p H h y/\o r1 h m j/\∀r v e,j r->Rel K d m i e->RelR K d H e r v->Frm d H e->Q v e
abbrev wBin(o:WO)(f g:WE):WE:=λm K=>f m λr1 m1=>g m1 λd m2=>o r1 d m2 λr=>K r m2
theorem tw(h:tM X.kx (wBin o f g) σ H Q):tOp (rM X.kx o) (tM X.kx f) (tM X.kx g) σ H Q:=by
 let⟨i,m,K,u,w,e⟩:=h;refine⟨i,m,_,u,w,λr1 m1 x z k1 n1 R p t=>⟨i,m1,_,R,k1,λB m2 y C k2 n2 d s j=>?_⟩⟩;refine⟨i,m2,σ,H,z,r1,B,_,d,p.keep u R j,s,k2,λr v A k q rr F=>?_⟩;exact e r m2 v A k (n2.trans n1) q (rr.base d (t.trans j)) ((t.trans j).trans F)
def Uu{op:ae3}(e:OpR X (ach op) (rM X.kx o))(i:ME X a f)(d:ME X b g):ME X (.BinOp a op b pos) (wBin o f g):=(YC e i d).wk λ_ _ _ h=>tw h
def V5(e:OpR X (aa0 op) (rM X.kx o))(i:ME X a f)(d:ME X b g)(j:acO op b=false):ME X (.Compare a [op] [b] pos) (wBin o f g):=(LU e i d j).wk λ_ _ _ h=>tw h
abbrev onBl(P:Bool->Prop):R->Prop
 | .imm (.bool k)=>P k
 |_=>False
theorem yn{K:Kx}{P:Bool->Prop}(rr:RelR K α Hb H r v)(h:onBl P r):∃b,r = .imm (.bool b)/\v = .bl b/\P b:=by
 cases r with
 |obj _=>exact h.elim
 |new _=>exact h.elim
 | «at» _ _=>exact h.elim
 |newT _=>exact h.elim
 | imm d=>
  cases d with
  |bool b=>
   have e:=rr;exact⟨b,rfl,e,h⟩
  |none=>exact h.elim
  |int _=>exact h.elim
  |str _=>exact h.elim
  |list _=>exact h.elim
  |tuple _=>exact h.elim
  |dict _=>exact h.elim
abbrev zQ(w:WE):WT:=λm K=>w m λr d=>onBl (λk=>K k d) r
theorem AC{t:TE}{Q:Bool->Hp->Prop}{w:WE}(k:∀i,tM X.kx w σ H i->t σ H i)(h:tMT X.kx (zQ w) σ H Q):SE t σ H Q:=by
 let⟨j,m,K,u,o,d⟩:=h;refine k _ ⟨j,m,_,u,o,λr s v q e n1 R rr F=>?_⟩;let⟨b,x,p,e⟩:=yn rr e;exact⟨b,p,d b s q e n1 R F⟩
def WD(e:OpR X (aa0 op) (rM X.kx o))(i:ME X a f)(d:ME X b g)(j:acO op b=false):MT X (.Compare a [op] [b] pos) (zQ (wBin o f g)):=(PF e i d j).wk λ_ _ _ h=>AC (λ_=>tw) h
def R9(e:ME X a f)(d:∀w,isTrue a X.env w=(do let v <- w;acL a.pos;adX [v] (truthy v)):=by intro _;rfl):MT X a (zQ f):=(Ue e d).wk λ_ _ _ h=>AC (λ_ h=>h) h
abbrev CZ(o i:WO)(f g l:WE):WE:=λm K=>f m λr1 m1=>g m1 λe m2=>o r1 e m2 (onBl λk=>if k=true then l m2 λh d=>i e h d λr=>K r d else K (.imm (.bool false)) m2)
end
section
variable {X:Cx}{a b c:Expr}{l:List Expr}{f A C:WE}{pos:Pos}
theorem Ik(h:tM X.kx (CZ o o' f A C) σ H Q):JZ (rM X.kx o) (rM X.kx o') (tM X.kx f) (tM X.kx A) (tM X.kx C) σ H Q:=by
 let⟨i,m,Kc,L,N,g⟩:=h;refine⟨i,m,_,L,N,λr1 m1 x J k1 n1 R t S=>⟨i,m1,_,R,k1,λM m2 y Z k2 n2 n p E=>?_⟩⟩;refine⟨i,m2,σ,H,J,r1,M,_,n,t.keep L R E,p,k2,λr v D k e rr K=>?_⟩;let⟨I,W,T,s⟩:=yn rr k;subst W T;refine⟨I,rfl,?_⟩;have d:=(S.trans E).trans K
 cases I with
 |true=>
  rw[if_pos rfl]at s⊢;refine⟨i,m2,_,e,s,λU G z Y P O q u B=>?_⟩;have j:=((p.keep R n K).keep R e B);exact⟨i,G,σ,J,D,M,U,_,q,j,u,P,λr v V k w rr F=>g r G v V k (O.trans (n2.trans n1)) w (rr.base q (d.trans B)) ((d.trans B).trans F)⟩
 |false=>
  rw[if_neg aap]at s⊢;exact g _ m2 _ D s (n2.trans n1) e (show Den X.kx D (.bool false) (.bl false) by simp only[Den]) d
theorem Jm{d:CmpOp}(g:OpR X (aa0 op) (rM X.kx o))(e:OpR X (aa0 d) (rM X.kx o'))(i:ME X a f)(j:ME X b A)(hc:ME X c C)
  (k:lastMarks [op,d] [b,c]=false:=by with_unfolding_all rfl):ME X (.Compare a [op,d] [b,c] pos) (CZ o o' f A C):=(IL g e i j hc k).wk λ_ _ _ h=>Ik h
variable {B D:WT}{rest:List Expr}
abbrev wAnd(t u:WT):WT:=λm K=>t m λc m1=>if c=true then u m1 K else K false m1
abbrev wOr(t u:WT):WT:=λm K=>t m λc m1=>if c=true then K true m1 else u m1 K
abbrev wNot(t:WT):WT:=λm K=>t m λc m1=>K (!c) m1
def Qb(h:MT X a B):MW X (.BoolOp .And [a] pos) B:=LR h
def Tz(h:MT X a B):MW X (.BoolOp .Or [a] pos) B:=Tu h
theorem UL(i:MT X a B)(p:MW X (.BoolOp .And (b::rest) pos) D):MW X (.BoolOp .And (a::b::rest) pos) (wAnd B D):=(Va i p).wk<|by
 intro s H Q ⟨g,m,K,r,o,d⟩;refine⟨g,m,_,r,o,λj m1 q k n1 R F=>?_⟩
 cases j with
 |true=>rw[if_pos rfl];exact⟨g,m1,K,R,k,λb2 m2 n k2 n2 e h=>d b2 m2 n k2 (n2.trans n1) e (F.trans h)⟩
 |false=>rw[if_neg aap];exact d _ m1 q k n1 R F
theorem Yz(i:MT X a B)(p:MW X (.BoolOp .Or (b::rest) pos) D):MW X (.BoolOp .Or (a::b::rest) pos) (wOr B D):=(YO i p).wk<|by
 intro s H Q ⟨g,m,K,r,o,d⟩;refine⟨g,m,_,r,o,λj m1 q k n1 R F=>?_⟩
 cases j with
 |true=>rw[if_pos rfl];exact d _ m1 q k n1 R F
 |false=>rw[if_neg aap];exact⟨g,m1,K,R,k,λb2 m2 n k2 n2 e h=>d b2 m2 n k2 (n2.trans n1) e (F.trans h)⟩
theorem VG(i:MT X a B):MT X (.UnaryOp .Not a pos) (wNot B):=(UV i).wk<|by intro o H Q ⟨g,m,K,e,h,d⟩;exact
 ⟨g,m,_,e,h,λn m1 j k n1 R F=>d _ m1 j k n1 R F⟩
abbrev Sk(f A:WE):WE:=λm K=>f m λr m1=>onBl (λc=>if c=true then A m1 K else K (.imm (.bool false)) m1) r
abbrev U7(f:WE):WE:=λm K=>f m λr m1=>onBl (λc=>K (.imm (.bool (!c))) m1) r
def J9(b:Bool):Den K H (.bool b) (.bl b):=rfl
def vi(b:Int):Den K H (.int b) (.int b):=rfl
def Qt(b:Str):Den K H (.str b) (.str b):=rfl
def Sj{op}(h:ME X a f):ME X (.BoolOp op [a] pos) f:=UI h
theorem TU(p:ME X a f)(t:ME X (.BoolOp .And (b::rest) pos) A):ME X (.BoolOp .And (a::b::rest) pos) (Sk f A):=(SG p t).wk<|by
 intro z H Q ⟨i,m,y,w,s,d⟩;refine⟨i,m,_,w,s,λr m1 v n k n1 R rr F=>?_⟩;let⟨j,x,u,e⟩:=yn rr k;subst x u;refine⟨j,rfl,?_⟩
 cases j with
 |true=>rw[if_pos rfl]at e⊢;exact⟨i,m1,y,R,e,λr m2 v q k2 n2 g h o=>d r m2 v q k2 (n2.trans n1) g (h.base R F) (F.trans o)⟩
 |false=>rw[if_neg aap]at e⊢;exact d _ m1 _ n e n1 R (J9 (K:=X.kx) (H:=n) _) F
theorem TJ(h:ME X a f):ME X (.UnaryOp .Not a pos) (U7 f):=(Wx h).wk<|by
 intro s H Q ⟨g,m,t,p,j,d⟩;refine⟨g,m,_,p,j,λr m1 v e k n1 R rr F=>?_⟩;let⟨i,q,o,n⟩:=yn rr k;subst q o;exact⟨i,rfl,d _ m1 _ e n n1 R (J9 (K:=X.kx) (H:=e) _) F⟩
def wIfE(t:WT)(f A:WE):WE:=λm K=>t m λc m1=>if c=true then f m1 K else A m1 K
theorem YK(u:MT X t B)(n:ME X a f)(q:ME X b A):ME X (.IfExp t a b pos) (wIfE B f A):=(Jp u n q).wk<|by
 intro x H Q ⟨h,m,K,s,p,g⟩;refine⟨h,m,_,s,p,λo m1 w k n1 R F=>?_⟩
 cases o with
 |true=>rw[if_pos rfl];exact⟨h,m1,K,R,k,λr m2 v j k2 n2 d e i=>g r m2 v j k2 (n2.trans n1) d (e.base R F) (F.trans i)⟩
 |false=>rw[if_neg aap];exact⟨h,m1,K,R,k,λr m2 v j k2 n2 d e i=>g r m2 v j k2 (n2.trans n1) d (e.base R F) (F.trans i)⟩
abbrev WU:=R->MSt->(R->Prop)->Prop
def uM(K:Kx)(o:WU):V->Hp->VK->Prop:=λx H Q=>∃d m g i r1 h,Rel K d m g H/\RelR K d i H r1 x/\o r1 m h/\∀r v e,h r->Rel K d m g e->RelR K d H e r v->Frm d H e->Q v e
abbrev wUn(o:WU)(f:WE):WE:=λm K=>f m λr1 m1=>o r1 m1 λr=>K r m1
theorem Yi{op:UnaryOp}{o:WU}(q:UnR X (unaryOp op) (uM X.kx o))(j:ME X a f):ME X (.UnaryOp op a pos) (wUn o f):=(YV q j).wk<|by intro s H Q ⟨h,m,K,t,n,d⟩;exact
 ⟨h,m,_,t,n,λr1 m1 x u k1 n1 R e i=>⟨h,m1,s,H,r1,_,R,e,k1,λr v p k g rr F=>d r m1 v p k n1 g (rr.base R i) (i.trans F)⟩⟩
def tFz(t:TE):TE:=λe H Q=>t e H λv d=>Q v d\/∃a x,d a=some (.lst x)/\∀o,Q v (upd d a (.frz o (.lst x)))
theorem YF{t:TE}(h:PE X a t):PE X a (tFz t):=by
 intro g s k H Q I q;refine thn (h g s k H _ I q) λu s1 ⟨v,j,i,r1,d⟩=>?_;rcases d with d|⟨p,x,e,d⟩
 .exact⟨v,j,i,r1,d⟩
 .obtain⟨o,I2⟩:=i.freeze e;exact⟨v,_,I2,r1,d o⟩
theorem Rel.at{K:Kx}{m:MSt}(R:Rel K α m σ H)(p:Pers H H')(e:∀a∈ads α,H' a=H a)(x:Frm α H H'):Rel K α m σ H':=by
 refine⟨R.nd,R.len,λk n ds j s=>?_,R.vlen,λi r h=>?_,R.npl,R.ebl,R.ebx.trans ⟨rfl,x,λ_ h=>.inl h,λa g=>?_⟩⟩
 .exact(R.own k n ds j s).mono p λa g=>e a (acb.mpr ⟨n,Ld j,g⟩)
 .obtain⟨v,ev,rv⟩:=R.var i r h;refine⟨v,ev,?_⟩
  cases r with
  |imm d=>exact Den.mono p rv
  |obj k=>exact rv
  | «at» k p=>exact rv
  |new ds=>exact rv
  |newT t=>exact rv
 .obtain⟨o,q,_⟩:=R.mem g;exact⟨o,(e a g).trans q⟩
theorem Rel.at'{K:Kx}{m:MSt}(R:Rel K α m σ H)(p:Pers H H')(e:∀a∈ads α,H' a=H a)(x:Ext K.eb.np K.eb.be K.eb.H α H'):Rel K α m σ H':=by
 refine⟨R.nd,R.len,λk j ds g o=>?_,R.vlen,λi r h=>?_,R.npl,R.ebl,x⟩
 .exact(R.own k j ds g o).mono p λa n=>e a (acb.mpr ⟨j,Ld g,n⟩)
 .obtain⟨v,ev,rv⟩:=R.var i r h;refine⟨v,ev,?_⟩
  cases r with
  |imm d=>exact Den.mono p rv
  |obj k=>exact rv
  | «at» k p=>exact rv
  |new ds=>exact rv
  |newT t=>exact rv
theorem bj{a:Addr}{o:HO}(h:H a=none\/∃u,H a=some u/\Mu u=true):Pers H (upd H a o) where
 tups:=λb x e=>by
  rw[av];exact e;rintro rfl;rcases h with h|⟨y,h,z⟩<;>(rw[e]at h;cases h)
  cases z
 frzs:=λb o u e=>by
  rw[av];exact e;rintro rfl;rcases h with h|⟨y,h,z⟩<;>(rw[e]at h;cases h)
  cases z
def xq{a:Addr}{o:HO}(h:H a=some (.lst xs)):Pers H (upd H a o):=bj (.inr ⟨_,h,rfl⟩)
theorem cC{a:Addr}{o:HO}(h:H a=none):Frm α H (upd H a o):=λb d e _=>by
 rw[av (br e h)];exact e
theorem Rel.lay{K:Kx}{m:MSt}{a:Addr}{o:HO}(R:Rel K α m σ H)(h:H a=none):Rel K α m σ (upd H a o):=
 R.at (bj (.inl h)) (λb d=>av λe=>R.out h (e▸d)) (cC h)
abbrev wImm(w:WE):WE:=λm K=>w m λr e=>match r with| .imm d=>K (.imm d) e | .new ds=>K (.imm (.list ds)) e|_=>False
theorem Vy(E:ME X a f):ME X a (wImm f):=(YF E).wk<|by
 intro L H Q ⟨j,m,M,u,G,i⟩;refine⟨j,m,_,u,G,λr m1 v t k n1 R rr F=>?_⟩
 cases r with
 |imm d=>exact .inl (i _ m1 v t k n1 R rr F)
 |obj _=>exact k.elim
 | «at» _ _=>exact k.elim
 |newT _=>exact k.elim
 | new ds=>
  let⟨p,x,J,n,q,g⟩:=rr;refine .inr ⟨p,x,q,λo=>?_⟩;have z:Pers t (upd t p (.frz o (.lst x))):=xq q;have fr:Frm j H (upd t p (.frz o (.lst x))):=λb y e nb=>by
   rw[av (br e n)];exact F b y e nb
  have old:Ext X.kx.eb.np j H j _:=⟨rfl,fr,λ_ h=>.inl h,λb s=>by
   have w:b≠p:=λe=>u.out n (e▸s);rw[av w];let⟨I,K,_⟩:=R.mem s;exact⟨I,K⟩⟩
  refine i _ m1 v _ k n1 (R.at' z (λb s=>av λe=>u.out n (e▸s)) (u.ebx.trans old)) (?_) λb y e nb=>?_
  .exact⟨p,x,J,.inl ⟨o,aA⟩,g.mono z⟩
  .rw[av (br e n)];exact F b y e nb
abbrev wNil:WA:=λm K=>K [] m
abbrev Uv(w:WE)(j:WA):WA:=λm K=>w m λr m1=>j m1 λrs m2=>K (r::rs) m2
theorem RelRs.base{K:Kx}{m:MSt}(d:Rel K α m σ H)(F:Frm α H0 H):∀{rs:List R}{vs:List V},RelRs K α H H' rs vs->RelRs K α H0 H' rs vs
 |_,_,.nil=>.nil
 |_,_,.cons h t=>.cons (h.base d F) (t.base d F)
variable {j:WA}
theorem VF:MA X [] wNil:=(JY).wk<|by intro g H Q ⟨e,m,K,R,h,d⟩;exact d _ m _ H h rfl R .nil (Frm.refl _ _)
theorem Qc(p:ME X a f)(q:MA X l j)(o:aab (a::l) X.env=(false,eval a X.env)::aab l X.env:=by first|exact aF rfl|rfl):MA X (a::l) (Uv f j):=(v5 p q o).wk<|by intro u H Q ⟨h,m,K,i,t,d⟩;exact
 ⟨h,m,_,i,t,λr m1 v w k n1 R rr n=>⟨h,m1,_,R,k,λrs m2 vs s k2 n2 g e F=>d _ m2 _ s k2 (n2.trans n1) g (.cons (rr.keep i R F) (e.base R n)) (n.trans F)⟩⟩
def i7:List R->Option (List aD)
 |[]=>some []
 | .imm d::rs=>(i7 rs).map (d :: ·)
 |_::_=>none
theorem RelRs.imm{K:Kx}:∀{rs:List R}{vs:List V}{ds:List aD},RelRs K α H0 H rs vs->i7 rs=some ds->DenAll K H ds vs
 |_,_,_,.nil,e=>by cases e;exact DenAll.nil
 |_,_,ds,.cons (r:=.imm d) (rs:=rs) h t,e=>by
  simp only[i7]at e
  cases q:i7 rs with
  |none=>rw[q]at e;cases e
  |some g=>rw[q]at e;cases e;exact DenAll.cons h (t.imm q)
 |_,_,_,.cons (r:=.obj _) h t,e=>by cases e
 |_,_,_,.cons (r:=.new _) h t,e=>by cases e
 |_,_,_,.cons (r:=.at _ _) h t,e=>by cases e
 |_,_,_,.cons (r:=.newT _) h t,e=>by cases e
def Re(P:List aD->Prop):Option (List aD)->Prop
 |some ds=>ds.length≤aak/\P ds
 |none=>False
abbrev wTup(j:WA):WE:=λm K=>j m λrs d=>Re (λds=>K (.imm (.tuple ds)) d) (i7 rs)
abbrev wLst(j:WA):WE:=λm K=>j m λrs d=>Re (λds=>K (.new ds) d) (i7 rs)
theorem Uy{x1}(h:MA X l j):ME X (.Tuple l x1 pos) (wTup j):=(W9 h).wk<|by
 intro t H Q ⟨n,m,K,r,q,d⟩;refine⟨n,m,_,r,q,λrs m1 vs s k n1 R rr F=>?_⟩
 cases e:i7 rs with
 |none=>rw[e]at k;exact k.elim
 |some ds=>
  rw[e]at k;let⟨o,k⟩:=k;have g:=rr.imm e;refine⟨by rw[<-g.length];exact o,λp i=>d _ m1 _ _ k n1 (R.lay i) (?_) (F.trans (cC i))⟩;exact⟨p,vs,rfl,SqT.of aA,g.mono (bj (.inl i))⟩
theorem Uh(h:MA X l j):ME X (.List l pos) (wLst j):=(Uo h).wk<|by
 intro t H Q ⟨n,m,K,r,q,i⟩;refine⟨n,m,_,r,q,λrs m1 vs s k n1 R rr F=>?_⟩
 cases e:i7 rs with
 |none=>rw[e]at k;exact k.elim
 |some ds=>
  rw[e]at k;let⟨o,k⟩:=k;have g:=rr.imm e;refine⟨by rw[<-g.length];exact o,λp d=>i _ m1 _ _ k n1 (R.lay d) ((RelR.base R F (⟨p,vs,rfl,d,aA,g.mono (bj (.inl d))⟩))) (F.trans (cC d))⟩
abbrev WC:=List R->MSt->(R->Prop)->Prop
def cM(K:Kx)(o:WC):List V->Hp->VK->Prop:=λx H Q=>∃d m g i rs h,Rel K d m g H/\RelRs K d i H rs x/\o rs m h/\∀r v e,h r->Rel K d m g e->RelR K d H e r v->Frm d H e->Q v e
abbrev wCB(o:WC)(j:WA):WE:=λm K=>j m λrs m1=>o rs m1 λr=>K r m1
theorem PK{o:WC}(h:tM X.kx (wCB o j) σ H Q):tCB (cM X.kx o) (tMA X.kx j) σ H Q:=by
 let⟨i,m,K,s,p,d⟩:=h;exact⟨i,m,_,s,p,λrs m1 vs t k n1 R rr n=>⟨i,m1,σ,H,rs,_,R,rr,k,λr v q k e g F=>d r m1 v q k n1 e (g.base R n) (n.trans F)⟩⟩
theorem Iq{id:String}{o:WC}(hc:fh X (.builtin id) (cM X.kx o))(m:Gl X x)(n:X.mg x=none)(k:aaU x=some (.builtin id))(i:MA X (a::l) j)(q:x ≠ "__name__":=by decide)(e:(x=='g')=false:=by decide)
  (g:aab (a::l) X.env=(false,eval a X.env)::aab l X.env:=by first|exact aF rfl|rfl) (d:(abn pos (aab l X.env)).any (·.1)=false:=by rfl):ME X (.Call (.Name x p) (a::l) [] pos) (wCB o j):=(xr hc m n k i q e g d).wk λ_ _ _ h=>PK h
theorem AM{o:WC}(hc:fh X (.type T) (cM X.kx o))(m:Gl X x)(n:X.mg x=none)(k:aaU x=some (.type T))(i:MA X (a::l) j)(q:x ≠ "__name__":=by decide)(e:(x=='g')=false:=by decide)
  (g:aab (a::l) X.env=(false,eval a X.env)::aab l X.env:=by first|exact aF rfl|rfl) (d:(abn pos (aab l X.env)).any (·.1)=false:=by rfl):ME X (.Call (.Name x p) (a::l) [] pos) (wCB o j):=(Cb hc m n k i q e g d).wk λ_ _ _ h=>PK h
end
inductive Ag where
 |imm (d:aD)|own (ds:List aD)|tr (t:aD)
abbrev SpM:=List Ag->(R->List (List aD)->Prop)->Prop
inductive RelAs(K:Kd)(H:Hp):List Ag->List V->Al->Prop where
 |nil:RelAs K H [] [] []
 |imm {d:aD}{v:V}{as:List Ag}{vs:List V}{β:Al}:Den K H d v->RelAs K H as vs β->RelAs K H (.imm d::as) (v::vs) β
 |own {ds:List aD}{a:Addr}{as:List Ag}{vs:List V}{β:Al}:OwnAt K H (.L a) ds->RelAs K H as vs β->RelAs K H (.own ds::as) (.ref a::vs) (.L a::β)
 |tr {t:aD}{a:Addr}{τ:List 'h'}{as:List Ag}{vs:List V}{β:Al}:OwnAt K H (.T τ) [t]->τ.lookup []=some a->RelAs K H as vs β->RelAs K H (.tr t::as) (.ref a::vs) (.T τ::β)
theorem RelAs.length:∀{as:List Ag}{vs:List V}{β:Al},RelAs K H as vs β->as.length=vs.length
 |_,_,_,.nil=>rfl
 |_,_,_,.imm _ t=>by simp[t.length]
 |_,_,_,.own _ t=>by simp[t.length]
 |_,_,_,.tr _ _ t=>by simp[t.length]
structure CJ(K:Kd)(H:Hp)(β:Al)(outs:List (List aD)):Prop where
 len:outs.length=β.length
 at_:∀(j:Nat) (ao:Ao) (ds:List aD),β[j]?=some ao->outs[j]?=some ds->OwnAt K H ao ds
def spOf(K:Kd)(n:Nat)(sp:SpM):Sp:=λvs H Q _=>∃c a d,c.length=n/\(ads a).Nodup/\RelAs K H c vs a/\sp c d/\∀r o v b,d r o->CJ K b a o->RelR K a H b r v->Frm a H b->Q v b
theorem spOf.len{E:XK}(h:spOf K n sp vs H Q E):vs.length=n:=by
 let⟨c,b,d,a,_,r,_⟩:=h;rw[<-r.length];exact a
def jl(m:MSt):List R->Option (List Ag×List Nat)
 |[]=>some ([],[])
 | .imm d::rs=>match jl m rs with|some (as,ks)=>some (.imm d::as,ks)|none=>none
 | .obj k::rs=>match m.os[k]?,jl m rs with|some ds,some (as,ks)=>some (.own ds::as,k::ks)|_,_=>none
 | .at k []::rs=>match m.os[k]?,jl m rs with|some [t],some (as,ks)=>some (.tr t::as,k::ks)|_,_=>none
 |_::_=>none
def cR:List (List aD)->List Nat->List (List aD)->List (List aD)
 |os,k::ks,o::outs=>cR (os.set k o) ks outs
 |os,_,_=>os
def mapR(ks:List Nat):R->R
 | .imm d=>.imm d
 | .new ds=>.new ds
 | .obj j=>.obj (ks.getD j 0)
 | .at j p=>.at (ks.getD j 0) p
 | .newT t=>.newT t
def BM(sp:SpM)(w:WA):WE:=λm K=>w m λrs m1=>match jl m1 rs with
 |some (as,ks)=>ks.Nodup/\sp as λr o=>K (mapR ks r) {m1 with os:=cR m1.os ks o}
 |none=>False
theorem j5:∀(ks:List Nat) (os a:List (List aD)),(cR os ks a).length=os.length
 |[],_,_=>by simp[cR]
 |_::_,_,[]=>by simp[cR]
 |k::ks,os,o::a=>by simp[cR,j5 ks]
theorem jU:∀(ks:List Nat) (os a:List (List aD)) (k:Nat),k∉ks->(cR os ks a)[k]?=os[k]?
 |[],_,_,_,_=>by simp[cR]
 |_::_,_,[],_,_=>by simp[cR]
 |k'::ks,os,o::a,k,h=>by
  rw[aag]at h;rw[not_or]at h;show(cR _ ks a)[k]?=_;rw[jU ks _ _ k h.2,aaO (abF h.1)]
theorem sU:∀(ks:List Nat) (os a:List (List aD)) (j k:Nat) (ds:List aD),ks.Nodup->ks[j]?=some k->a[j]?=some ds->k<os.length->(cR os ks a)[k]?=some ds
 |[],_,_,_,_,_,_,h,_,_=>by simp at h
 |_::_,_,[],_,_,_,_,_,h,_=>by simp at h
 |k'::ks,os,o::a,0,k,ds,nd,h1,h2,hk=>by
  simp at h1 h2;subst h1;subst h2;show(cR _ ks a)[k']?=_;rw[jU ks _ _ k' (abb.mp nd).1,aaV hk]
 |k'::ks,os,o::a,j+1,k,ds,nd,h1,h2,hk=>by
  exact sU ks _ a j k ds (abb.mp nd).2 ‹_› ‹_› (by simpa)
def gw(c:Al):(ads c).Nodup↔(∀ao∈c,ao.ads.Nodup)/\c.Pairwise λx y=>∀a∈x.ads,∀b∈y.ads,a≠b:=List.pairwise_flatMap
theorem iU(nd:(ads α).Nodup){x y:Ao}(f:α[i]?=some x)(g:α[j]?=some y)(h:i≠j)(e:a∈x.ads)(b:a∈y.ads):False:=by
 have d:=((gw α).mp nd).2;let⟨p,k⟩:=AD.mp f;let⟨c,q⟩:=AD.mp g;subst k q;rcases Nat.lt_or_gt_of_ne h with l|l
 .exact acI.mp d i j p c l a e a b rfl
 .exact acI.mp d j i c p l a b a e rfl
def lq{x:Ao}(b:α[i]?=some x)(h:a∈x.ads):a∈ads α:=acb.mpr ⟨x,Ld b,h⟩
theorem jB(h:a∈ads α):∃(i:Nat) (x:Ao),α[i]?=some x/\a∈x.ads:=by
 let⟨b,c,d⟩:=acb.mp h;let⟨k,hk,e⟩:=abY.mp c;exact⟨k,b,by rw[lD hk,e],d⟩
section
variable {K:Kx}{c:Al}{m:MSt}{g:St}{H l f:Hp}
theorem ik(j:Rel K c m g H):∀{rs:List R}{vs:List V}{as:List Ag}{ks:List Nat},RelRs K c l H rs vs->jl m rs=some (as,ks)->∃β,RelAs K H as vs β/\abL (λ(k:Nat) (ao:Ao)=>c[k]?=some ao) ks β
 |_,_,_,_,.nil,e=>by cases e;exact⟨[],.nil,.nil⟩
 | _,_,as,ks,.cons (r:=.imm d) (rs:=rs) h t,e=>by
  simp only[jl]at e
  cases q:jl m rs with
  |none=>rw[q]at e;cases e
  |some p=>
   rw[q]at e;cases e;let⟨β,b,i⟩:=ik j t q;exact⟨β,.imm h b,i⟩
 | _,_,as,ks,.cons (r:=.obj k) (rs:=rs) h t,e=>by
  simp only[jl]at e
  cases q1:m.os[k]? with
  |none=>rw[q1]at e;cases e
  | some ds=>
   cases q:jl m rs with
   |none=>rw[q1,q]at e;cases e
   |some p=>
    let⟨s,o⟩:=p;rw[q1,q]at e;cases e;let⟨β,b,i⟩:=ik j t q;let⟨a,n,rfl⟩:=h;exact⟨.L a::β,.own (j.own k _ ds n q1) b,.cons n i⟩
 |_,_,as,ks,.cons (r:=.at k []) (rs:=rs) h t,e=>by
  simp only[jl]at e
  split at e
  .rename_i t' s o q1 q;cases e;let⟨β,b,i⟩:=ik j t q;let⟨u,a,n,v,rfl⟩:=h;exact⟨.T u::β,.tr (j.own k _ _ n q1) v b,.cons n i⟩
  .cases e
 |_,_,_,_,.cons (r:=.at _ (_::_)) h t,e=>by cases e
 |_,_,_,_,.cons (r:=.new _) h t,e=>by cases e
 |_,_,_,_,.cons (r:=.newT _) h t,e=>by cases e
theorem fm(nd:(ads c).Nodup)(h:ks.Nodup)(p:abL (λ(k:Nat) (ao:Ao)=>c[k]?=some ao) ks β):(ads β).Nodup:=by
 have one:=((gw c).mp nd).1
 induction p with
 |nil=>exact abO
 | @cons k ao ks β e t ih=>
  have d:=ih (abb.mp h).2;rw[gw]at d⊢;refine⟨λx n=>?_,acF.mpr ⟨λy o a q b r z=>?_,d.2⟩⟩
  .rcases aag.mp n with rfl|n
   .exact one _ (Ld e)
   .exact d.1 x n
  .subst z;let⟨j,A,ej⟩:=abY.mp o;let⟨w,v,u⟩:=Paired.get2 t (i:=j) (b:=y) (by simp_all);have s:=Classical.byContradiction λne=>iU nd e u ne q r;exact(abb.mp h).1 (s▸Ld v)
theorem xv(R:Rel K c m g H){s:List (List aD)}(nd:ks.Nodup)(p:abL (λ(k:Nat) (ao:Ao)=>c[k]?=some ao) ks β)(O:CJ K f β s)(F:Frm β H f) :
  Rel K c {m with os:=cR m.os ks s} g f/\Frm c H f:=by
 have C:∀a∈ads β,∃k ao,k∈ks/\c[k]?=some ao/\a∈ao.ads:=λa B=>by
  let⟨j,ao,ej,w⟩:=jB B;let⟨U,x,G⟩:=Paired.get2 p ej;exact⟨U,ao,Ld x,G,w⟩
 have A:Frm c H f:=λb o e n=>F b o e λz=>by
  let⟨k,ao,_,G,w⟩:=C b z;exact n (lq G w)
 have P:=R.pers A;have y:∀(k:Nat) (ao:Ao) (ds:List aD),c[k]?=some ao->(cR m.os ks s)[k]?=some ds->OwnAt K f ao ds:=λk ao ds x u=>by
  have hk:k<m.os.length:=by rw[<-R.len];exact(AD.mp x).1
  by_cases w:k∈ks
  .obtain⟨j,hj,ej⟩:=abY.mp w;have Q:ks[j]?=some k:=by rw[lD hj,ej]
   let⟨V,L,N⟩:=Paired.get' p Q;rw[x]at N;cases N;have I:j<s.length:=by rw[O.len];exact(AD.mp L).1
   have M:s[j]?=some s[j]:=lD I;rw[sU ks m.os s j k _ nd Q M hk]at u;cases u;exact O.at_ j _ _ L M
  .rw[jU ks _ _ k w]at u;have q:=R.own k ao ds x u;refine q.mono P λa B=>?_;let⟨o,J,_⟩:=q.mem B;rw[J];refine F a o J λz=>?_;let⟨k2,S,D,T,E⟩:=C a z;exact iU R.nd x T (λz=>w (z▸D)) B E
 refine⟨⟨R.nd,by show c.length=(cR m.os ks s).length;rw[j5];exact R.len,y,R.vlen,λi r h=>?_,R.npl,R.ebl,R.ebx.trans ⟨rfl,A,λ_ h=>.inl h,λa B=>?_⟩⟩,A⟩
 .obtain⟨v,ev,rv⟩:=R.var i r h;refine⟨v,ev,?_⟩
  cases r with
  |imm d=>exact Den.mono P rv
  |obj k=>exact rv
  | «at» k p=>exact rv
  |new ds=>exact rv
  |newT t=>exact rv
 .obtain⟨k,ao,x,w⟩:=jB B;have hk:k<(cR m.os ks s).length:=by rw[j5,<-R.len];exact(AD.mp x).1
  let⟨o,q,_⟩:=(y k ao _ x (lD hk)).mem w;exact⟨o,q⟩
theorem ya{K:Kd}(p:abL (λ(k:Nat) (ao:Ao)=>c[k]?=some ao) ks β)(h:RelR K β H f r v):RelR K c H f (mapR ks r) v:=by
 have get:∀{j:Nat}{ao:Ao},β[j]?=some ao->c[ks.getD j 0]?=some ao:=λ{j ao} b=>by
  let⟨k,o,z⟩:=Paired.get2 p b
  simp_all
 cases r with
 |imm d=>exact h
 |new ds=>exact h
 |newT t=>exact h
 |obj j=>
  let⟨a,b,e⟩:=h;exact⟨a,get b,e⟩
 | «at» j q=>
  let⟨i,a,b,n,e⟩:=h;exact⟨i,a,get b,n,e⟩
end
section
variable {X:Cx}{a:Expr}{b:List Expr}{w:WA}{pos p:Pos}{k n:Nat}{f:Addr}{fd:ab0}{ps:List Str}{sp:SpM}{x:Str}{CX:CXT}
theorem Qy{E:XK}(h:tM X.kx (BM sp w) σ H Q)(D:∀as K,sp as K->as.length=n):UT (spOf X.kd n sp) [] E (tMA X.kx w) σ H Q:=by
 let⟨y,m,K,G,B,g⟩:=h;refine⟨y,m,_,G,B,λrs m1 vs I d n1 R rr s=>?_⟩
 cases e:jl m1 rs with
 |none=>rw[e]at d;exact d.elim
 |some q=>
  let⟨as,J⟩:=q;rw[e]at d;let⟨nd,c⟩:=d;let⟨A,u,j⟩:=ik R rr e;refine⟨as,A,_,D _ _ c,fm R.nd nd j,by rw[aa4];exact u,c,λr t v C o O l F=>?_⟩;let⟨i,z⟩:=xv R nd j O F;exact g _ _ v C o n1 i ((ya j l).base R s) (s.trans z)
theorem QL{E:XK}(F:FnOk X.prog X.w X.K X.mg X.base CX k f fd ps (spOf X.kd n sp))(e:Room k X.A)(m:Gl X x)(o:X.mg x=some (.ref f))(hk:abM X.K (.ref f)=true)(i:Binds X.K fd ps [])(l:lj CX X E)(q:∀as K,sp as K->as.length=n)
  (j:MA X (a::b) w) (d:(x=='g')=false:=by decide) (g:aab (a::b) X.env=(false,eval a X.env)::aab b X.env:=by first|exact aF rfl|rfl) (c:(abn pos (aab b X.env)).any (·.1)=false:=by rfl) :
  ME X (.Call (.Name x p) (a::b) [] pos) (BM sp w):=(Pj F e m o hk i .nil l j d g c).wk λ_ _ _ h=>Qy h q
end
structure f7 where
 nx:MSt->Prop
 rt:R->MSt->Prop
 bk:MSt->Prop:=λ_=>False
 ct:MSt->Prop:=λ_=>False
abbrev WS:=f7->MSt->Prop
theorem RelR.ext{np:Nat}{c:Al}(x:Ext np α H α1 H1)(h:RelR K c H1 H2 r v):RelR K c H H2 r v:=by
 cases r with
 |imm d=>exact h
 |obj k=>exact h
 | «at» k p=>exact h
 |new ds=>
  let⟨a,f,e,n,q,g⟩:=h;exact⟨a,f,e,x.nil n,q,g⟩
 |newT t=>
  let⟨j,a,e,l,nd,n,g⟩:=h;exact⟨j,a,e,l,nd,λb i=>x.nil (n b i),g⟩
structure EndsOk(K:Kx)(np:Nat)(α:Al)(H:Hp)(De:f7)(D:Ends):Prop where
 nx:∀α' m' σ' H',De.nx m'->m'.np=np->Rel K α' m' σ' H'->Ext np α H α' H'->D.nx σ' H'
 rt:∀r α' m' σ' v H',De.rt r m'->m'.np=np->Rel K α' m' σ' H'->RelR K α' H H' r v->Ext np α H α' H'->D.rt v H'
 bk:∀α' m' σ' H',De.bk m'->m'.np=np->Rel K α' m' σ' H'->Ext np α H α' H'->D.bk σ' H'
 ct:∀α' m' σ' H',De.ct m'->m'.np=np->Rel K α' m' σ' H'->Ext np α H α' H'->D.ct σ' H'
theorem EndsOk.ext{K:Kx}{np:Nat}(h:EndsOk K np α H De D)(x:Ext np α H α1 H1):EndsOk K np α1 H1 De D where
 nx:=λa m b c k n R y=>h.nx a m b c k n R (x.trans y)
 rt:=λr a m b v c k n R rr y=>h.rt r a m b v c k n R (rr.ext x) (x.trans y)
 bk:=λa m b c k n R y=>h.bk a m b c k n R (x.trans y)
 ct:=λa m b c k n R y=>h.ct a m b c k n R (x.trans y)
def tMS(K:Kx)(w:WS):TS:=λD c H=>∃a m b,Rel K a m c H/\w b m/\EndsOk K m.np a H b D
abbrev MS(X:Cx)(st:Stmt)(w:WS):Prop:=PS X st (tMS X.kx w)
abbrev MSs(X:Cx)(st:List Stmt)(w:WS):Prop:=PSs X st (tMS X.kx w)
section
variable {X:Cx}{a b c e:Expr}{d:List Expr}{f g i j:WE}{pos:Pos}{st:Stmt}{rest:List Stmt}{w u:WS}
abbrev UE:WS:=λD m=>D.nx m
abbrev wSeq(w u:WS):WS:=λD m=>w {D with nx:=λh=>u D h } m
theorem QJ:MSs X [] UE:=(OU).wk<|by intro D n H ⟨h,m,o,R,l,k⟩;exact k.nx h m n H l rfl R (.of R (Frm.refl _ _))
theorem GH(o:MS X st w)(x:MSs X rest u):MSs X (st::rest) (wSeq w u):=(yz o x).wk<|by intro D A H ⟨l,m,v,t,p,k⟩;exact
 ⟨l,m,_,t,p,⟨λh s r z q n R y=>⟨h,s,v,R,q,by rw[n];exact k.ext y⟩,k.rt,k.bk,k.ct⟩⟩
theorem O9(k:MS X st w):MSs X [st] w:=(Og k).wk λD l H h=>h
end
section
variable {X:Cx}{a b c e:Expr}{es:List Expr}{wa wb wc we:WE}{ws:WA}{wt:WT}{pos:Pos}{st:Stmt}{rest body body2:List Stmt}{w u:WS}
abbrev wRet(we:WE):WS:=λD m=>we m λr d=>D.rt r d
theorem Tw(h:ME X e we):MS X (.Return (some e) pos) (wRet we):=(U5 h).wk<|by intro D j H ⟨d,m,o,l,f,k⟩;exact
 ⟨d,m,_,l,f,λr i v g q n R rr F=>k.rt r d i j v g q n R rr (.of R F)⟩
abbrev WN(we:WE):WS:=λD m=>we m λ_ d=>D.nx d
theorem L6(h:ME X e we)(j:abE e none pos.line X.env=pure false:=by rfl):MS X (.Expr e pos) (WN we):=(My h j).wk<|by intro D l H ⟨d,m,p,o,f,k⟩;exact
 ⟨d,m,_,o,f,λr i v g q n R rr F=>k.nx d i l g q n R (.of R F)⟩
abbrev wIfS(t:WT)(w u:WS):WS:=λD m=>t m λc d=>if c=true then w D d else u D d
theorem Yt(r:MT X t wt)(i:MSs X body w)(s:MSs X body2 u):MS X (.If t body body2 pos) (wIfS wt w u):=(Yq r i s).wk<|by
 intro D v H ⟨d,m,g,p,l,k⟩;refine⟨d,m,_,p,l,λj f o q n R F=>?_⟩;have h:EndsOk X.kx f.np d o g D:=by rw[n];exact k.ext (.of R F)
 cases j with
 |true=>rw[if_pos rfl]at q;exact iteT ⟨d,f,g,R,q,h⟩
 |false=>rw[if_neg aap]at q;exact iteF ⟨d,f,g,R,q,h⟩
def Kz:WS:=λ_ _=>False
theorem IQ:MS X st Kz:=(GN).wk<|by intro D f H ⟨d,m,g,R,h,k⟩;exact h
def MSt.setV(m:MSt)(i:Nat)(r:R):MSt:={m with vs:=m.vs.set i (some r)}
def RenR(f:List Nat)(o:Option (Option R)):R->Prop
 | .imm d=>o=some (~~~d)
 | .obj k=>∃j,f[k]?=some j/\o=some (some (.obj j))
 | .at k p=>∃j,f[k]?=some j/\o=some (some (.at j p))
 | .new _=>False
 | .newT _=>False
structure Ren(ρ:List Nat)(m m2:MSt):Prop where
 nd:ρ.Nodup
 lt:∀k∈ρ,k<m.os.length
 pre:ρ.take m.np=aav m.np
 npl:m.np≤ρ.length
 os:m2.os=ρ.map λk=>m.os.getD k []
 np:m2.np=m.np
 vl:m2.vs.length=m.vs.length
 vs:∀(j:Nat) (r:R),m2.vs[j]?=some (some r)->RenR ρ m.vs[j]? r
def upR(D:MSt->Prop)(m:MSt):Prop:=D m\/∃d m2,Ren d m m2/\D m2
def tZ(i:Nat)(D:MSt->Prop)(m:MSt):R->Prop
 | .imm d=>upR D (m.setV i (.imm d))
 | .obj k=>upR D (m.setV i (.obj k))
 | .at k p=>upR D (m.setV i (.at k p))
 | .new ds=>upR D {vs:=m.vs.set i (some (.obj m.os.length)),os:=m.os++[ds],np:=m.np} \/
   ∃k,m.vs[i]?=some (some (.obj k))/\m.np≤k/\(∀j:Nat,j≠i->m.vs[j]?≠some (some (.obj k)))/\D {m with os:=m.os.set k ds}
 | .newT t=>upR D {vs:=m.vs.set i (some (.at m.os.length [])),os:=m.os++[[t]],np:=m.np}
theorem iM{d:Al}{n:Nat}(g:d.length=n):∀{f:List Nat},(∀k∈f,k<n)->abL (λ(k:Nat) (ao:Ao)=>d[k]?=some ao) f (f.map λk=>d.getD k (.L 0))
 |[],_=>.nil
 | k::f,h=>.cons (by
   have hk:k<d.length:=by rw[g];exact h k aan
   show d[k]?=some (d.getD k _);rw[aac,lD hk];rfl) (iM g λj i=>h j (aai _ i))
theorem MF{K:Kx}{m m2:MSt}{g:List Nat}(R:Rel K α m σ H)(N:Ren g m m2):∃s,Rel K s m2 σ H/\Ext m.np α H s H:=by
 have B:=iM R.len N.lt;have get:∀(k:Nat) (f:Ao),(g.map λk=>α.getD k (.L 0))[k]?=some f->∃j:Nat,g[k]?=some j/\α[j]?=some f:=λk f z=>by
  let⟨j,L,V⟩:=Paired.get2 B z;exact⟨j,L,V⟩
 have n:∀(k j:Nat) (f:Ao),g[k]?=some j->α[j]?=some f->(g.map λk=>α.getD k (.L 0))[k]?=some f:=λk j f E A=>by
  let⟨J,Q,I⟩:=Paired.get' B E;rw[A]at I;cases I;exact Q
 have t:(g.map λk=>α.getD k (.L 0)).take m.np=α.take m.np:=by
  apply ab2;intro l;rw[aaS,aaS]
  by_cases i:l<m.np
  .rw[if_pos i,if_pos i];have:g[l]?=some l:=by
    have e:=congrArg (·[l]?) N.pre;simp only[aaS,if_pos i]at e;rw[e,ab5 i]
   have y:l<α.length:=aat i R.npl;rw[n l l α[l] this (lD y),lD y]
  .rw[if_neg i,if_neg i]
 have ext:Ext m.np α H (g.map λk=>α.getD k (.L 0)) H:=⟨t,Frm.refl _ _,λa C=>by
  let⟨k,f,T,P⟩:=jB C;let⟨j,_,O⟩:=get k f T;exact .inl (lq O P),λa C=>by
  let⟨o,q,_⟩:=R.mem C;exact⟨_,q⟩⟩
 refine⟨g.map λk=>α.getD k (.L 0),⟨fm R.nd N.nd B,?_,λk f ds E A=>?_,?_,λj r z=>?_,?_,by rw[N.np];exact R.ebl,R.ebx.trans (ext.less R.ebl)⟩,ext⟩
 .rw[N.os,iO,iO]
 .obtain⟨j,q,qa⟩:=get k f E;rw[N.os,aah,q]at A;have U:j<m.os.length:=N.lt j (Ld q);have D:m.os.getD j []=ds:=aay A;refine R.own j f ds qa ?_;rw[<-D,aac,lD U];rfl
 .rw[N.vl];exact R.vlen
 .have h:=N.vs j r z
  cases r with
  |imm d=>exact R.var j (.imm d) h
  |new _=>exact h.elim
  |newT _=>exact h.elim
  |obj k=>
   let⟨x,q,h⟩:=h;let⟨v,F,a,G,e⟩:=R.var j (.obj x) h;exact⟨v,F,a,n k x _ q G,e⟩
  | «at» k p=>
   let⟨x,q,h⟩:=h;let⟨v,F,S,a,G,M,e⟩:=R.var j (.at x p) h;exact⟨v,F,S,a,n k x _ q G,M,e⟩
 .rw[N.np,iO];exact N.npl
abbrev wSet(i:Nat)(we:WE):WS:=λD m=>we m λr d=>tZ i D.nx d r
theorem cG{K:Kx}{m:MSt}(R:Rel K α m σ H)(h:RelS K α H r v):Rel K α (m.setV i r) (σ.set i (some v)) H:=by
 refine⟨R.nd,R.len,R.own,?_,λj g e=>?_,R.npl,R.ebl,R.ebx⟩
 .show(σ.set i _).length=(m.vs.set i _).length;rw[aa5,aa5];exact R.vlen
 .have e':(m.vs.set i (some r))[j]?=some _:=e
  by_cases d:i=j
  .subst d
   by_cases f:i<m.vs.length
   .rw[aaV f]at e';cases e';exact⟨v,aaV (by rw[R.vlen];exact f),h⟩
   .simp_all
  .rw[aaO d]at e'⊢;exact R.var j g e'
theorem rE{K:Kx}{m:MSt}(R:Rel K α m σ H)(J:∃B i,Rel K α B i H0)(F:Frm α H0 H)(nd:ao.ads.Nodup)(C:∀b∈ao.ads,H0 b=none)(g:OwnAt K H ao ds) :
  Rel K (α++[ao]) {m with os:=m.os++[ds]} σ H/\∀np,np≤α.length->Ext np α H0 (α++[ao]) H:=by
 let⟨B,i,f⟩:=J;have s:∀b∈ao.ads,b∉ads α:=λb G=>f.out (C b G);have one:ads [ao]=ao.ads:=by simp[ads]
 have ext:∀np,np≤α.length->Ext np α H0 (α++[ao]) H:=λnp t=>⟨by rw[List.take_append_of_le_length t],F,λa r=>by
  rw[kb,one]at r;rcases aaR.mp r with z|z
  .exact .inl z
  .exact .inr (C a z),λa r=>by
  let⟨o,q,_⟩:=R.mem r;exact⟨_,q⟩⟩
 refine⟨⟨?_,by simp[R.len],λk a es l E=>?_,R.vlen,λj A z=>?_,by have:=R.npl;show m.np≤(α++[ao]).length;rw[aam];omega,R.ebl,f.ebx.trans (ext _ ?_)⟩,ext⟩
 .rw[kb,one];exact acN.mpr ⟨R.nd,nd,λx I y D e=>s y D (e▸I)⟩
 .have z2':(m.os++[ds])[k]?=some es:=E
  by_cases hk:k<α.length
  .rw[aaC hk]at l;rw[aaC (by rw[<-R.len];exact hk)]at z2';exact R.own k a es l z2'
  .rw[aaP ∅]at l;rw[aaP (by rw[<-R.len];omega)]at z2';have h:k-α.length=0:=by
    have:=(AD.mp l).1;simp at this;omega
   rw[h]at l;rw[<-R.len,h]at z2'
   simp_all
 .obtain⟨v,ev,rv⟩:=R.var j A z;refine⟨v,ev,?_⟩
  cases A with
  |imm d=>exact rv
  |new _=>exact rv
  |newT _=>exact rv
  |obj k=>
   let⟨a,n,e⟩:=rv;exact⟨a,by rw[aaC (AD.mp n).1];exact n,e⟩
  | «at» k p=>
   let⟨L,a,n,e⟩:=rv;exact⟨L,a,by rw[aaC (AD.mp n).1];exact n,e⟩
 .exact aaA R.ebl R.npl
theorem vQ{K:Kx}{m:MSt}{P:MSt->Prop}{Q:St->Hp->Prop}{np:Nat}(f:Rel K α m σ H)(n:m.np=np)(F:Frm α H0 H)(h:RelR K α H0 H r v)(q:tZ i P m r)
  (k:∀A E s D,P E->E.np=np->Rel K A E s D->Ext np α H0 A D->Q s D) (R0:∃m0 V,Rel K α m0 V H0):Q (σ.set i (some v)) H:=by
 have S:∀A E s D,upR P E->E.np=np->Rel K A E s D->Ext np α H0 A D->Q s D:=λA E s D q n R x=>by
  rcases q with q|⟨ρ,m2,N,q⟩
  .exact k A E s D q n R x
  .obtain⟨α2,R2,x2⟩:=MF R N;rw[n]at x2;exact k α2 m2 s D q (N.np.trans n) R2 (x.trans x2)
 have J:np≤α.length:=by rw[<-n];exact f.npl
 cases r with
 |imm d=>exact S α _ _ H q n (cG f (r:=.imm d) h) (.of (cG (i:=i) f (r:=.imm d) h) F)
 |obj j=>exact S α _ _ H q n (cG f (r:=.obj j) h) (.of (cG (i:=i) f (r:=.obj j) h) F)
 | «at» j p=>exact S α _ _ H q n (cG f (r:=.at j p) h) (.of (cG (i:=i) f (r:=.at j p) h) F)
 |newT t=>
  let⟨T,p,rfl,M,nd,W,g⟩:=h;let⟨base,ext⟩:=rE f R0 F (ao:=.T T) nd W g;exact S (α++[.T T]) _ _ H q n (cG base (r:=.at m.os.length []) ⟨T,p,by rw[aaP (by rw[f.len];exact aaa _),<-f.len];simp,M,rfl⟩) (ext np J)
 | new ds=>
  let⟨p,xs,rfl,W,hp,g⟩:=h;have R0':=R0;let⟨m0,V,U⟩:=R0';have O:p∉ads α:=U.out W;rcases q with q|⟨j,e1,e2,e3,q⟩
  .
   let⟨base,ext⟩:=rE f R0 F (ao:=.L p) (by simp[Ao.ads]) (λb I=>by cases aaf.mp I;exact W) ⟨xs,hp,g⟩;exact S (α++[.L p]) _ _ H q n (cG base (r:=.obj m.os.length) ⟨p,by rw[aaP (by rw[f.len];exact aaa _),<-f.len];simp,rfl⟩) (ext np J)
  .
   let⟨aj,Y⟩:∃aj,α[j]?=some (.L aj):=by
    let⟨v,_,a,L,_⟩:=f.var i _ e1;exact⟨a,L⟩
   have Z:j<α.length:=(AD.mp Y).1;have hi:i<m.vs.length:=(AD.mp e1).1;have ndS:(ads (α.set j (.L p))).Nodup:=by
    have z:=(gw α).mp f.nd;rw[gw];refine⟨λao B=>?_,acI.mpr λi1 i2 h1 h2 hlt a B b I e=>?_⟩
    .rcases adF B with y|y
     .exact z.1 ao y
     .subst y;simp[Ao.ads]
    .subst e;rw[aa5]at h1 h2;have mem:∀(l:Nat) (C:l<α.length),a∈(α[l]).ads->a∈ads α:=λl C h=>lq (lD C) h
     by_cases G:j=i1
     .subst G;rw[agp]at B;rw[adJ (by exact aa1 ‹_›)]at I
      cases aaf.mp B
      exact O (mem i2 h2 I)
     .rw[adJ G]at B
      by_cases c2:j=i2
      .subst c2;rw[agp]at I
       cases aaf.mp I
       exact O (mem i1 h1 B)
      .rw[adJ c2]at I;exact iU f.nd (lD h1) (lD h2) (aa1 hlt) B I
   have ext:Ext np α H0 (α.set j (.L p)) H:=by
    refine⟨?_,F,λa B=>?_,λa B=>?_⟩
    .apply ab2;intro l;rw[aaS,aaS]
     by_cases C:l<np
     .rw[if_pos C,if_pos C,aaO ∅]
     .rw[if_neg C,if_neg C]
    .obtain⟨l,ao,M,hm⟩:=jB B
     by_cases G:j=l
     .subst G;rw[aaV Z]at M;cases M
      cases aaf.mp hm
      exact .inr W
     .rw[aaO G]at M;exact .inl (lq M hm)
    .obtain⟨o,q,_⟩:=f.mem B;exact⟨_,q⟩
   have Rl':Rel K (α.set j (.L p)) {m with os:=m.os.set j ds} (σ.set i (some (.ref p))) H:=by
    refine⟨ndS,by simp[f.len],λk a es z1 z2=>?_,by rw[aa5];exact f.vlen,λl r' z=>?_,by rw[aa5];exact f.npl,f.ebl,U.ebx.trans (ext.less (by have:=f.ebl;omega))⟩
    .have z2':(m.os.set j ds)[k]?=some es:=z2
     by_cases G:j=k
     .subst G;rw[aaV Z]at z1;rw[aaV (by rw[<-f.len];exact Z)]at z2'
      cases z1;cases z2'
      exact⟨xs,hp,g⟩
     .rw[aaO G]at z1 z2';exact f.own k a es z1 z2'
    .have z':m.vs[l]?=some (some r'):=z
     by_cases C:i=l
     .subst C;rw[e1]at z';cases z';exact⟨.ref p,aaV (by rw[f.vlen];exact hi),p,aaV Z,rfl⟩
     .obtain⟨v,ev,rv⟩:=f.var l r' z';refine⟨v,by rw[aaO C];exact ev,?_⟩
      cases r' with
      |imm d=>exact rv
      |new _=>exact rv
      |newT _=>exact rv
      |obj k=>
       let⟨a,L,e⟩:=rv;refine⟨a,?_,e⟩;rw[aaO]
       .exact L
       .rintro rfl;exact e3 l (abF C) z'
      | «at» k p'=>
       let⟨T,a,L,e⟩:=rv;refine⟨T,a,?_,e⟩;rw[aaO]
       .exact L
       .rintro rfl;rw[Y]at L;cases L
   exact k (α.set j (.L p)) _ _ H q n Rl' ext
theorem Vo{p:Pos}(y:X.N.Nodup)(j:X.N[i]?=some x)(t:Loc X.env.scope x)(l:ME X e we)(h:abE e (some (.Name x p)) pos.line X.env=pure false:=by rfl)(s:X.fn x=true\/X.env.scope.names.lookup x=some .local:=by first|exact .inl rfl|exact .inr rfl|assumption) :
  MS X (.Assign [.Name x p] e pos) (wSet i we):=(Sf y j t l h s).wk<|by intro D g H ⟨f,m,B,d,o,k⟩;exact
 ⟨f,m,_,d,o,λr A v z q n R rr F=>vQ R n F rr q k.nx ⟨m,g,d⟩⟩
abbrev WG:=aD->MSt->(MSt->Prop)->Prop
abbrev WGs:=List aD->MSt->(MSt->Prop)->Prop
def tMG(K:Kx)(g:WG):TG:=λv k H Q=>∃i m d j,Rel K i m k H/\Den K H d v/\g d m j/\∀h f,j h->h.np=m.np->Rel K i h f H->Q f H
def tMGs(K:Kx)(g:WGs):TGs:=λvs j H Q=>∃h m ds i,Rel K h m j H/\DenAll K H ds vs/\g ds m i/\∀f d,i f->f.np=m.np->Rel K h f d H->Q d H
theorem PG.wk{X:Cx}{e:Expr}{t t':TG}(h:PG X e t)(k:∀v d H Q,t' v d H Q->t v d H Q):PG X e t':=λp s d H v u Q I r q=>h p s d H v u Q I r (k _ _ _ _ q)
theorem PGs.wk{X:Cx}{e:List Expr}{t t':TGs}(h:PGs X e t)(k:∀v d H Q,t' v d H Q->t v d H Q):PGs X e t':=λp s d H v u Q I r q=>h p s d H v u Q I r (k _ _ _ _ q)
abbrev MG(X:Cx)(e:Expr)(g:WG):Prop:=PG X e (tMG X.kx g)
abbrev MGs(X:Cx)(es:List Expr)(g:WGs):Prop:=PGs X es (tMGs X.kx g)
abbrev gM(i:Nat):WG:=λd m K=>K (m.setV i (.imm d))
def PH:WGs:=λds m K=>ds=[]/\K m
abbrev Bh(g:WG)(h:WGs):WGs:=λds m K=>match ds with|d::r=>g d m λf=>h r f K|[]=>False
def Qx(n:Nat)(g:WGs):WG:=λd m K=>match d with| .tuple ds=>ds.length=n/\g ds m K|_=>False
theorem Lr(k:X.N.Nodup)(l:X.N[i]?=some x)(j:Loc X.env.scope x)(g:X.fn x=true\/X.env.scope.names.lookup x=some .local:=by first|exact .inl rfl|exact .inr rfl|assumption):MG X (.Name x pos) (gM i):=(Ou k l j g).wk λv o H Q ⟨n,m,d,K,R,hd,h,f⟩=>
 f _ _ h rfl (cG R hd)
theorem MD:MGs X [] PH:=(Rh).wk<|by
 intro v g H Q ⟨i,m,d,K,R,hd,h,f⟩;let⟨rfl,h⟩:=h;exact⟨hd,f m g h rfl R⟩
theorem Ii{e:Expr}{es:List Expr}(t:MG X e g)(B:MGs X es gs)
  (q:(abV (e::es) X.env).map (·.2)=afx e X.env::(abV es X.env).map (·.2):=by rfl):MGs X (e::es) (Bh g gs):=(JA t B q).wk<|by
 intro v C H Q ⟨j,m,ds,K,y,hd,l,f⟩
 cases ds with
 |nil=>exact l.elim
 |cons d r=>
  let⟨x,o,rfl,s,z⟩:=hd;exact⟨x,o,rfl,j,m,d,_,y,s,l,λp A k n h=>⟨j,p,r,_,h,z,k,λm2 i k2 n2 R=>f m2 i k2 (n2.trans n) R⟩⟩
theorem VH{es:List Expr}{k:Nat}(h:MGs X es gs)(hc:X.calm=true:=by rfl)
  (p:(abV es X.env).length=n:=by rfl) (l:(abV es X.env).findIdx? (·.1)=none:=by rfl):MG X (.Tuple es k pos) (Qx n gs):=(Um hc h p l).wk<|by
 intro v q H Q ⟨o,m,d,K,R,hd,i,j⟩
 cases d with
 |tuple ds=>
  let⟨a,x,e,f,g⟩:=hd;exact⟨a,x,e,f,g.length.symm.trans i.1,o,m,ds,K,R,g,i.2,j⟩
 |none=>exact i.elim
 |bool _=>exact i.elim
 |int _=>exact i.elim
 |str _=>exact i.elim
 |list _=>exact i.elim
 |dict _=>exact i.elim
abbrev lH(P:aD->Prop):R->Prop
 | .imm d=>P d
 |_=>False
theorem g9{K:Kx}{P:aD->Prop}(rr:RelR K α Hb H r v)(h:lH P r):∃d,r = .imm d/\Den K H d v/\P d:=by
 cases r with
 |imm d=>exact⟨d,rfl,rr,h⟩
 |obj _=>exact h.elim
 |new _=>exact h.elim
 | «at» _ _=>exact h.elim
 |newT _=>exact h.elim
abbrev wAsg(we:WE)(g:WG):WS:=λD m=>we m λr f=>lH (λd=>g d f D.nx) r
theorem SN(x:ME X e we)(t:MG X tg g)(p:adM [tg] e pos.line X.env=pure false:=by rfl)(h:adN [tg] e X.env=pure none:=by rfl)
  (s:(abV [tg] X.env).map (·.2)=[afx tg X.env]:=by rfl):MS X (.Assign [tg] e pos) (wAsg we g):=(SV x t p h s).wk<|by
 intro D A H ⟨f,m,C,y,h,k⟩;refine⟨f,m,_,y,h,λr o v l q n i rr F=>?_⟩;let⟨d,B,hd,q⟩:=g9 rr q;exact⟨f,o,d,_,i,hd,q,λm2 j z n2 R=>k.nx f m2 j l z (n2.trans n) R (.of R F)⟩
def wPar(i j:Nat)(ws:WA):WS:=λD m=>ws m λrs d=>match rs with|[.imm d1,.imm d2]=>D.nx ((d.setV i (.imm d1)).setV j (.imm d2))|_=>False
theorem Vj{g p pt:Pos}{kt k2 pt2}(z:X.N.Nodup)(t:X.N[i]?=some x)(I:X.N[j]?=some y)(f:i≠j)
  (v:X.env.scope.names.lookup x=some .local) (o:X.env.scope.names.lookup y=some .local) (r:MA X [a,b] ws)
  (h:adN [.Tuple [.Name x g,.Name y p] kt pt] (.Tuple [a,b] k2 pt2) X.env=pure (some [x,y])) (hc:X.calm=true:=by rfl)
  (C:adM [.Tuple [.Name x g,.Name y p] kt pt] (.Tuple [a,b] k2 pt2) pos.line X.env=pure false:=by rfl) :
  MS X (.Assign [.Tuple [.Name x g,.Name y p] kt pt] (.Tuple [a,b] k2 pt2) pos) (wPar i j ws):=(VN hc z t I f v o r h C).wk<|by
 intro D L H ⟨l,m,J,E,h,k⟩;refine⟨l,m,_,E,h,λrs B vs A q n R rr F=>?_⟩;let⟨d1,d,G,q⟩:∃d1 d,rs=[.imm d1,.imm d]/\J.nx ((B.setV i (.imm d1)).setV j (.imm d)):=by
  split at q
  .exact⟨_,_,rfl,q⟩
  .exact q.elim
 subst G
 cases rr with
 |cons s rr=>
  cases rr with
  |cons K rr=>
  cases rr;exact⟨_,_,rfl,k.nx l _ _ A q n (cG (cG R s) K) (.of R F)⟩
end
structure Src where
 ds:List aD
 own:Option (Nat×List aD)
structure Wks(K:Kd)(J:It)(ds:List aD)(C:Hp->Prop):Prop where
 stop:∀H,C H->J.stop ds.length H
 go:∀i H,i<ds.length->C H->J.go i H
 yld:∀i H x H',i<ds.length->C H->J.yld i H x H'->(∀b o,H b=some o->H' b=some o)/\∃d,ds[i]?=some d/\Den K H' d x
def vP(K:Kd)(d:Al)(H:Hp)(s:Src)(J:It):Prop:=
 match s.own with
 |none=>∃C:Hp->Prop,Wks K J s.ds C/\C H/\∀c b,C c->Pers c b->C b
 |some k=>∃a,d[k.1]?=some (.L a)/\Wks K J s.ds λH=>∃x,H a=some (.lst x)/\DenAll K H k.2 x
abbrev WI:=MSt->(Src->MSt->Prop)->Prop
def tMI(K:Kx)(w:WI):TI:=λd H R=>∃a m e,Rel K a m d H/\w m e/\∀s c J b,e s c->c.np=m.np->Rel K a c d b->Frm a H b->vP K a b s J->R J b
theorem PI.wk{t t':TI}(h:PI X tg e t)(k:∀a H Q,t' a H Q->t a H Q):PI X tg e t':=λp s a H Q I q=>h p s a H Q I (k _ _ _ q)
abbrev MI(X:Cx)(tg e:Expr)(w:WI):Prop:=PI X tg e (tMI X.kx w)
section
variable {X:Cx}{tg a b c e B:Expr}{N:List Expr}{O Q S E:WE}{G:WA}{M:WT}{pos:Pos}{st:Stmt}{rest A L:List Stmt}{w u:WS}
def iSeq(K:aae)(tl:TE):TI:=λg H R=>tl g H λx d=>∃a,x = .ref a/\(((∃f,SqL K d a f)/\R (Itl K a) d)\/((∃f,SqT K d a f)/\R (Itt K a) d))
theorem R8{l:Expr}{tl:TE}(r:PE X l tl):PI X tg l (iSeq X.K tl):=by
 intro f s n H R I h;refine thn (r f s n H _ I h) λv s1 ⟨x,j,d,r1,m⟩=>?_;let⟨a,e,q⟩:=m;subst e;cases r1;rcases q with⟨⟨k,g⟩,q⟩|⟨⟨k,g⟩,q⟩
 .obtain⟨its,rv,p,hz⟩:=d.list g;refine wpAny_pyIter_list p.isList ?_;refine⟨s1.heap.objs.size,[s1.heap.objs.size],_,_,j,rfl,d.kept (t':=s1.toks) λb o e=>Io _ e,Dw a _,⟨_,aal _ rfl,rfl,rfl⟩,λb i=>?_,q⟩;have e:=by simpa using i
  subst e;exact d.fpOk (aaa _) (d.hok.fresh (aaa _))
 .obtain⟨its,rv,p,hz⟩:=d.tuple g;refine wpAny_pyIter_tuple (p) ?_;refine⟨s1.heap.objs.size,[s1.heap.objs.size],_,_,j,rfl,d.kept (t':=s1.toks) λb o e=>Io _ e,yR a _,⟨_,aal _ rfl,rfl,rfl⟩,λb i=>?_,q⟩;have e:=by simpa using i
  subst e;exact d.fpOk (aaa _) (d.hok.fresh (aaa _))
def srcR(m:MSt)(K:Src->MSt->Prop):R->Prop
 | .imm (.list ds)=>K ⟨ds,none⟩ m
 | .imm (.tuple ds)=>K ⟨ds,none⟩ m
 | .obj k=>∃ds,m.os[k]?=some ds/\K ⟨ds,some (k,ds)⟩ m
 |_=>False
abbrev Uf(E:WE):WI:=λm K=>E m λr d=>srcR d K r
theorem wks_list{a:Addr}:Wks K (Itl K a) ds λH=>∃xs,SqL K H a xs/\DenAll K H ds xs where
 stop:=λH ⟨xs,q,g⟩=>⟨xs,q,by rw[g.length];exact aaa _⟩
 go:=λi H h ⟨xs,q,g⟩=>⟨xs,xs[i]'(by rw[<-g.length];exact h),q,lD _⟩
 yld:=λi H x k h ⟨xs,q,g⟩ y=>by
  let⟨e,y⟩:=y;subst e;let⟨d,f,j⟩:=g.get2 (y xs q);exact⟨λ_ _ z=>z,d,f,j⟩
theorem LJ{a:Addr}:Wks K (Itt K a) ds λH=>∃xs,SqT K H a xs/\DenAll K H ds xs where
 stop:=λH ⟨xs,q,g⟩=>⟨xs,q,by rw[g.length];exact aaa _⟩
 go:=λi H h ⟨xs,q,g⟩=>⟨xs,xs[i]'(by rw[<-g.length];exact h),q,lD _⟩
 yld:=λi H x k h ⟨xs,q,g⟩ y=>by
  let⟨e,y⟩:=y;subst e;let⟨d,f,j⟩:=g.get2 (y xs q);exact⟨λ_ _ z=>z,d,f,j⟩
theorem Wks.imp{C f:Hp->Prop}(h:Wks K J ds C)(k:∀H,f H->C H):Wks K J ds f:=⟨λH c=>h.stop H (k H c),λi H d c=>h.go i H d (k H c),λi H x g d c=>h.yld i H x g d (k H c)⟩
theorem U8(z:ME X e E):MI X tg e (Uf E):=(R8 (tg:=tg) z).wk<|by
 intro T H P ⟨y,m,U,J,D,i⟩;refine⟨y,m,_,J,D,λr s v o k n R rr F=>?_⟩
 cases r with
 |new _=>exact k.elim
 | «at» _ _=>exact k.elim
 |newT _=>exact k.elim
 |obj j=>
  let⟨ds,K,k⟩:=k;let⟨p,t,rfl⟩:=rr;let⟨x,q,g⟩:=R.own j _ ds t K;exact⟨p,rfl,.inl ⟨⟨x,SqL.of q⟩,i _ s _ o k n R F ⟨p,t,wks_list.imp<|by intro H ⟨x,q,g⟩;exact⟨x,SqL.of q,g⟩⟩⟩⟩
 | imm d=>
  cases d with
  |list ds=>
   have h:=rr;simp only[Den]at h;let⟨p,x,rfl,f,g⟩:=h;refine⟨p,rfl,.inl ⟨⟨x,f.sq⟩,i _ s _ o k n R F ⟨λH=>∃x,FzL X.kx H p x/\DenAll X.kx H ds x,wks_list.imp λH ⟨x,q,g⟩=>⟨x,q.sq,g⟩,⟨x,f,g⟩,λI C ⟨x,q,g⟩ l=>⟨x,q.mono l,g.mono l⟩⟩⟩⟩
  |tuple ds=>
   have h:=rr;simp only[Den]at h;let⟨p,x,rfl,f,g⟩:=h;refine⟨p,rfl,.inr ⟨⟨x,f⟩,i _ s _ o k n R F ⟨λH=>∃x,SqT X.kx H p x/\DenAll X.kx H ds x,LJ,⟨x,f,g⟩,λI C ⟨x,q,g⟩ l=>⟨x,q.mono l,g.mono l⟩⟩⟩⟩
  |none=>exact k.elim
  |bool _=>exact k.elim
  |int _=>exact k.elim
  |str _=>exact k.elim
  |dict _=>exact k.elim
def jI(lo:Int)(n:Nat):List aD:=(aav n).map λ(i:Nat)=>abj (lo+(i:Int))
def aP(lo:Int)(n:Nat):(jI lo n).length=n:=by simp[jI]
def jS{lo:Int}(h:i<n):(jI lo n)[i]?=some (.int (lo+(i:Int))):=by simp[jI,h]
theorem B9{lo:Int}:Wks K (Itr lo n) (jI lo n) λ_=>True where
 stop:=λH _=>by rw[aP];exact aaa _
 go:=λi H h _=>by rw[aP]at h;exact h
 yld:=λi H x d h _ y=>by
  rw[aP]at h;let⟨e,y⟩:=y;subst e y;exact⟨λ_ _ z=>z,_,jS h,vi _⟩
abbrev KZ(G:WA):WI:=λm K=>G m λrs d=>match rs with|[.imm (.int j)]=>-(2^62)≤j/\j<2^62/\K ⟨jI 0 j.toNat,none⟩ d|_=>False
def aB{i:Int}(h:Den K H (.int i) v):v = .int i:=by simpa[Den]
theorem Fh(t:Gl X "range")(r:X.mg "range" = none)(i:MA X [a] G)(s:aab [a] X.env=[(false,eval a X.env)]:=by first|exact c7 rfl|rfl):MI X tg (.Call (.Name "range" p) [a] [] pos) (KZ G):=(FU t r i s).wk<|by
 intro z H y ⟨h,m,K,v,o,f⟩;refine⟨h,m,_,v,o,λrs g vs d k n R rr F=>?_⟩;let⟨j,x,k1,k2,q⟩:∃j:Int,rs=[.imm (.int j)]/\-(2^62)≤j/\j<2^62/\K ⟨jI 0 j.toNat,none⟩ g:=by
  split at k
  .exact⟨_,rfl,k⟩
  .exact k.elim
 subst x
 cases rr with
 |cons l rr=>
  cases rr;have e:=aB (show Den X.kx d _ _ from l);subst e;exact⟨j,rfl,k1,k2,f _ g _ d q n R F ⟨λ_=>True,B9,trivial,λ_ _ _ _=>trivial⟩⟩
def MSt.setN(m:MSt)(n:Nat):MSt:={m with np:=n}
def Src.np(s:Src)(m:MSt):Nat:=match s.own with|none=>m.np|some k=>max m.np (k.1+1)
def Src.ok(s:Src)(m:MSt):Prop:=match s.own with|none=>True|some k=>m.os[k.1]?=some k.2
def qJ(s:Src)(g:WG)(w:WS):WS:=λD m1=>∃P:Nat->MSt->Prop,P 0 (m1.setN (s.np m1))/\
 (∀(i:Nat) (d:aD) (m:MSt),s.ds[i]?=some d->m.np=s.np m1->P i m->s.ok m/\g d m λm2=>w {nx:=P (i+1),ct:=P (i+1),bk:=λf=>D.nx (f.setN m1.np),rt:=λr f=>D.rt r (f.setN m1.np)} m2)/\
 ∀m,m.np=s.np m1->P s.ds.length m->s.ok m/\D.nx (m.setN m1.np)
abbrev wFor(d:WI)(g:WG)(w:WS):WS:=λD m=>d m λs m1=>qJ s g w D m1
def Rel.setN{K:Kx}{m:MSt}(R:Rel K α m σ H)(h:n≤α.length)(d:K.eb.np≤n):Rel K α (m.setN n) σ H:=⟨R.nd,R.len,R.own,R.vlen,R.var,h,d,R.ebx⟩
theorem wj{K:Kx}{s:Src}{w:WS}(Rl:Rel K α m1 σ H)(hJ:vP K α H s J)(h:qJ s g w De m1)(k:EndsOk K m1.np α H De D)
  (hb:∀f F m t De' D',f.take (s.np m1)=α.take (s.np m1)->F.np=s.np m1->Rel K f F m t->w De' F->EndsOk K F.np f t De' D'->tb D' m t):uk J (tMG K g) tb D σ H:=by
 let⟨P,p0,turn,fin⟩:=h;have npk:s.np m1≤α.length:=by
  unfold Src.np;unfold vP at hJ
  cases e:s.own with
  |none=>exact Rl.npl
  |some j=>
   rw[e]at hJ;let⟨a,ea,_⟩:=hJ;have:=(AD.mp ea).1;have:=Rl.npl;show max m1.np (j.1+1)≤α.length;omega
 have T:m1.np≤s.np m1:=by
  unfold Src.np;split
  .exact aaa _
  .exact aeL _ _
 let⟨C,wk,hC⟩:∃C:Hp->Prop,Wks K J s.ds C/\∀f F m t,Rel K f F m t->Ext (s.np m1) α H f t->s.ok F->C t:=by
  unfold vP at hJ
  cases e:s.own with
  |none=>
   rw[e]at hJ;let⟨C,wk,c0,cm⟩:=hJ;exact⟨C,wk,λf F m t _ x _=>cm H t c0 (Rl.pers x.frm)⟩
  | some j=>
   rw[e]at hJ;let⟨a,ea,wk⟩:=hJ;refine⟨_,wk,λf F m t W x ok=>?_⟩;have hj:j.1<s.np m1:=by unfold Src.np;rw[e];show j.1<max _ _;omega
   have ea':f[j.1]?=some (.L a):=by
    have:=congrArg (λl=>l[j.1]?) x.pre;simp only[aaS,if_pos hj]at this;rw[this];exact ea
   unfold Src.ok at ok;rw[e]at ok;exact W.own j.1 _ j.2 ea' ok
 have U:∀{f:Al}{F:MSt}{m:St}{t:Hp},Rel K f F m t->F.np=s.np m1->Ext (s.np m1) α H f t->Rel K f (F.setN m1.np) m t:=λW n x=>W.setN (by
  have:=W.npl;rw[n]at this;exact aaA ‹_› ‹_›) Rl.ebl
 refine⟨λi n m t=>n=s.ds.length-i/\i≤s.ds.length/\∃f F,P i F/\F.np=s.np m1/\Rel K f F m t/\Ext (s.np m1) α H f t,⟨s.ds.length,'a',abB _,α,_,p0,rfl,Rl.setN npk (aaA Rl.ebl T),.of Rl (Frm.refl _ _)⟩,?_⟩;intro i n m t ⟨rfl,hi,f,F,p,hn,W,x⟩
 by_cases Z:i<s.ds.length
 .have hd:s.ds[i]?=some s.ds[i]:=lD Z;let⟨ok,hg⟩:=turn i _ F hd hn p;have c:=hC f F m t W x ok;refine .inr ⟨wk.go i t Z c,λσ2 Y=>∃α2 m2,P (i+1) m2/\m2.np=s.np m1/\Rel K α2 m2 σ2 Y/\Ext (s.np m1) α H α2 Y,λσ2 Y h2=>⟨s.ds.length-(i+1),∅,rfl,Z,h2⟩,λv Y y=>?_⟩;let⟨grow,d,e1,e2⟩:=wk.yld i t v Y Z c y;rw[hd]at e1;cases e1;have F2:Frm f t Y:=λb o z _=>grow b o z;have R2:Rel K f F m Y:=W.at (W.pers F2) (λb hb=>by
   let⟨ys,z,_⟩:=W.mem hb;rw[z];exact grow b _ z) F2
  have x2:Ext (s.np m1) α H f Y:=x.trans (.of R2 F2);refine⟨f,F,_,_,R2,e2,hg,λm3 σ3 q3 n3 R3=>hb f m3 σ3 Y _ _ x2.pre (n3.trans hn) R3 q3 ?_⟩;have R:m3.np=s.np m1:=n3.trans hn;have x3:Ext m3.np α H f Y:=by rw[R];exact x2
  refine⟨λI m4 V H4 q4 n4 R4 x4=>⟨I,m4,q4,n4.trans R,R4,?_⟩,λr I m4 V v4 H4 q4 n4 R4 rr x4=>?_,λI m4 V H4 q4 n4 R4 x4=>?_,λI m4 V H4 q4 n4 R4 x4=>⟨I,m4,q4,n4.trans R,R4,?_⟩⟩
  .rw[<-R];exact x3.trans x4
  .have x5:Ext (s.np m1) α H I H4:=by rw[<-R];exact x3.trans x4
   exact k.rt r I (m4.setN m1.np) V v4 H4 q4 rfl (U R4 (n4.trans R) x5) (rr.ext x3) (x5.less T)
  .have x5:Ext (s.np m1) α H I H4:=by rw[<-R];exact x3.trans x4
   exact k.nx I (m4.setN m1.np) V H4 q4 rfl (U R4 (n4.trans R) x5) (x5.less T)
  .rw[<-R];exact x3.trans x4
 .have e:i=s.ds.length:=by omega
  subst e;let⟨ok,q⟩:=fin F hn p;exact .inl ⟨wk.stop t (hC f F m t W x ok),k.nx f (F.setN m1.np) m t q rfl (U W hn x) (x.less T)⟩
theorem UB{i:WI}(v:MI X tg B i)(t:MG X tg g)(I:MSs X A w)(o:afL (model X.prog X.w) X.A X.env X.xe)(hc:X.calm=true:=by rfl)
  (p:∀x,aaT B X.env x=pure x:=by intro _;rfl):MS X (.For tg B A [] pos) (wFor i g w):=(WF o hc v t I p).wk<|by intro D U H ⟨j,m,V,z,K,k⟩;exact
 ⟨j,m,_,z,K,λs h J l q n R F y=>wj R y q (by rw[n];exact k.ext (.of R F)) λf h P l d W _ _ T r C=>⟨f,h,d,T,r,C⟩⟩
def DT(t:WT)(w:WS):WS:=λD g=>∃P:Nat->MSt->Prop,(∃n,P n g)/\∀n m,m.np=g.np->P n m->t m λc f=>if c=true then w {D with nx:=λm2=>∃d,d<n/\P d m2,ct:=λm2=>∃d,d<n/\P d m2,bk:=D.nx} f else D.nx f
theorem JB(ht:MT X t M)(W:MSs X A w)(T:afL (model X.prog X.w) X.A X.env X.xe):MS X (.While t A [] pos) (DT M w):=(JM T ht W).wk<|by
 intro D σ H ⟨C,m,De,J,⟨P,⟨Y,p0⟩,s⟩,k⟩;refine⟨λn f h=>∃d g,P n g/\g.np=m.np/\Rel X.kx d g f h/\Ext m.np C H d h,⟨Y,C,m,p0,rfl,J,.of J (Frm.refl _ _)⟩,?_⟩;intro n I H1 ⟨j,m1,p1,n1,Z,x1⟩;refine⟨j,m1,_,Z,s n m1 n1 p1,λU m2 V q n2 R2 K=>?_⟩;have x:=x1.trans (.of R2 K);have l:m2.np=m.np:=n2.trans n1
 cases U with
 |true=>
  refine iteT ⟨λo F=>∃i,i<n/\∃d g,P i g/\g.np=m.np/\Rel X.kx d g o F/\Ext m.np C H d F,by intro o F ⟨i,p,z⟩;exact⟨i,p,z⟩,j,m2,_,R2,q,?_⟩;rw[l];exact⟨λd g f h ⟨i,p,q⟩ nn R y=>⟨i,p,d,g,q,nn,R,x.trans y⟩,λr d g f v h q nn R rr y=>k.rt r d g f v h q nn R (rr.ext x) (x.trans y),λd g f h q nn R y=>k.nx d g f h q nn R (x.trans y),λd g f h ⟨i,p,q⟩ nn R y=>⟨i,p,d,g,q,nn,R,x.trans y⟩⟩
 |false=>
  exact iteF (k.nx j m2 I V q l R2 x)
end
section
variable {K:Kx}{f:Al}{m:MSt}{j:St}{H:Hp}
theorem Rel.setW(R:Rel K f m j H)(s:f[q]?=some ao)(x:Pers H H')(F:∀b,b∉ao.ads->H' b=H b)(g:OwnAt K H' ao ds'):Rel K f {m with os:=m.os.set q ds' } j H'/\Frm f H H':=by
 have u:Frm f H H':=λb o e nb=>by rw[F b λz=>nb (lq s z)];exact e
 have l:∀(k:Nat) (a:Ao) w,f[k]?=some a->(m.os.set q ds')[k]?=some w->OwnAt K H' a w:=λk a w y n=>by
  by_cases c:q=k
  .subst c;rw[aaV (by rw[<-R.len];exact(AD.mp s).1)]at n
   grind
  .rw[aaO c]at n;exact(R.own k a w y n).mono x λb A=>F b λz=>iU R.nd s y c z A
 refine⟨⟨R.nd,by simp[R.len],l,R.vlen,λi r h=>?_,R.npl,R.ebl,R.ebx.trans ⟨rfl,u,λ_ h=>.inl h,λa s=>?_⟩⟩,u⟩
 .obtain⟨v,ev,rv⟩:=R.var i r h;refine⟨v,ev,?_⟩
  cases r with
  |imm d=>exact Den.mono x rv
  |obj k=>exact rv
  | «at» k p=>exact rv
  |new ds=>exact rv
  |newT t=>exact rv
 .obtain⟨k,ao,e1,hm⟩:=jB s;have hk:k<(m.os.set q ds').length:=by rw[aa5,<-R.len];exact(AD.mp e1).1
  let⟨o,q,_⟩:=(l k ao _ e1 (lD hk)).mem hm;exact⟨o,q⟩
theorem Rel.setO{x:List V}(R:Rel K f m j H)(h:f[q]?=some (.L l))(a:H l=some (.lst xs))(g:DenAll K H ds' x):Rel K f {m with os:=m.os.set q ds' } j (upd H l (.lst x))/\Frm f H (upd H l (.lst x)):=by
 have p:Pers H (upd H l (.lst x)):=xq a;exact R.setW h p (λb c=>av λe=>c (aaf.mpr e)) ⟨x,aA,g.mono p⟩
end
def yV(own:List Str)(ps:List Nat)(vs:List (Option R)):List (Option R):=own.map (λ_=>none)++ps.map λi=>(vs[i]?).join
def pC(own:List Str)(ps:List Nat)(m:MSt):MSt:=⟨yV own ps m.vs,m.os++[[]],m.os.length+1⟩
abbrev wIfT(tt:WT)(w:WS):WS:=λD m=>tt m λb a=>if b=true then w D a else D.nx a
abbrev Ng(q:Nat)(w:WE):WS:=λD m=>w m λr a=>lH (λd=>∃ds,a.os[q]?=some ds/\ds.length<aak/\D.nx {a with os:=a.os.set q (ds++[d])}) r
abbrev ub(w:WI)(own:List Str)(ps:List Nat)(g:WG)(tt:WT)(b:WE):WE:=λm K=>w m λs m1=>
 qJ s g (wIfT tt (Ng m1.os.length b)) {nx:=λa=>K (.new (a.os.getD m1.os.length [])) {m1 with os:=a.os.take m1.os.length},rt:=λ_ _=>False} (pC own ps m1)
abbrev AI(c:WI)(own:List Str)(ps:List Nat)(g:WG)(tt:WT)(w:WI)(d:WG)(t:WT)(e:WE):WE:=λm K=>c m λs m1=>
 qJ s g (wIfT tt λD m2=>w m2 λs2 b=>qJ s2 d (wIfT t (Ng m1.os.length e)) D b) {nx:=λa=>K (.new (a.os.getD m1.os.length [])) {m1 with os:=a.os.take m1.os.length},rt:=λ_ _=>False} (pC own ps m1)
abbrev zL:WT:=λm K=>K true m
section
variable {K:Kx}
theorem AE{w:WE}{m:MSt}(b:α[q]?=some (.L l))(f:Rel K α m σ H)(h:Ng q w De m)(k:EndsOk K m.np α H De D):yT l (tM K w) D σ H:=by
 refine⟨α,m,_,f,h,λr p v o a n R rr F=>?_⟩;let⟨d,s,hd,ds,j,i,a⟩:=g9 rr a;let⟨x,c,g⟩:=R.own q _ ds b j;let⟨R2,e⟩:=R.setO b c (g.append (DenAll.cons hd DenAll.nil));exact⟨x,c,by rw[<-g.length];exact i,k.nx α _ σ _ a n R2 (.of R2 (F.trans e))⟩
theorem BU{tt:WT}{m:MSt}(e:Rel K α m σ H)(h:wIfT tt w De m)(k:EndsOk K m.np α H De D)
  (f:∀a b,a.np=m.np->Rel K α a σ b->w De a->EndsOk K a.np α b De D->tb D σ b):tIfT (tMT K tt) tb D σ H:=by
 refine⟨α,m,_,e,h,λd a b q n R F=>?_⟩;have c:EndsOk K a.np α b De D:=by rw[n];exact k.ext (.of R F)
 cases d with
 |true=>rw[if_pos rfl]at q;exact iteT (f a b n R q c)
 |false=>rw[if_neg aap]at q;exact iteF (c.nx α a σ b q rfl R (.of R (Frm.refl _ _)))
theorem FC{own:List Str}{ps:List Nat}{s:Src}{m:MSt}{Kc:R->MSt->Prop}(Rl:Rel K α m σ H)(n1:m1.np=m.np)(c:Rel K α m1 σ H1)(F1:Frm α H H1)(X:vP K α H1 s J)(M:H1 l=none)
  (h:qJ s g w {nx:=λf=>Kc (.new (f.os.getD m1.os.length [])) {m1 with os:=f.os.take m1.os.length},rt:=λ_ _=>False} (pC own ps m1))
  (fin:∀r f v u,Kc r f->f.np=m.np->Rel K α f σ u->RelR K α H u r v->Frm α H u->Q v u)
  (hb:∀A f E u F D',A[m1.os.length]?=some (.L l)->m1.os.length<f.np->Rel K A f E u->w F f->EndsOk K f.np A u F D'->tb D' E u) :
  uk J (tMG K g) tb {nx:=λ_ u=>Q (.ref l) u,rt:=λ_ _=>False} (i9 own ps σ) (upd H1 l (.lst [])):=by
 have pα:l∉ads α:=c.out M;have pe:Pers H1 (upd H1 l (.lst [])):=bj (.inl M);have B:α.length=m1.os.length:=c.len;have V:(α++[.L l])[m1.os.length]?=some (.L l):=by rw[aaP ∅,<-B];simp
 have P:Rel K α m1 σ (upd H1 l (.lst [])):=c.lay M;let⟨Y,extm⟩:=rE (ao:=.L l) (ds:=[]) P ⟨m1,σ,c⟩ (cC M) (by simp[Ao.ads]) (λb hb=>by cases aaf.mp hb;exact M) ⟨[],aA,DenAll.nil⟩;have R0:Rel K (α++[.L l]) (pC own ps m1) (i9 own ps σ) (upd H1 l (.lst [])):=by
  refine⟨Y.nd,by simp[pC,B],Y.own,by simp[i9,pC,yV],λi r z=>?_,by simp[pC,B],by have:=c.ebl;have:=c.npl;show K.eb.np≤m1.os.length+1;omega,Y.ebx⟩;have D:(yV own ps m1.vs)[i]?=some (some r):=z;unfold yV at D
  by_cases hi:i<own.length
  .rw[aaC (by simpa using hi),aah]at D
   cases q:own[i]? with
   |none=>rw[q]at D;cases D
   |some y=>rw[q]at D;cases D
  .rw[aaP (by simpa using hi),iO,aah]at D
   cases q:ps[i-own.length]? with
   |none=>rw[q]at D;cases D
   | some p=>
    rw[q]at D;have W:(m1.vs[p]?).join=some r:=aay D;have hv:m1.vs[p]?=some (some r):=by
     cases y:m1.vs[p]? with
     |none=>rw[y]at W;cases W
     |some y'=>rw[y]at W;cases y' with
      |none=>cases W
      |some y'=>cases W;rfl
    let⟨v,ev,N⟩:=Y.var p r hv;refine⟨v,?_,N⟩;unfold i9;rw[aaP (by simpa using hi),iO,aah,q];show some ((σ[p]?).join)=some (some v);rw[ev];rfl
 have hJ':vP K (α++[.L l]) (upd H1 l (.lst [])) s J:=by
  unfold vP at X⊢
  cases e:s.own with
  |none=>
   rw[e]at X;let⟨C,wk,c0,cm⟩:=X;exact⟨C,wk,cm _ _ c0 pe,cm⟩
  |some j=>
   rw[e]at X;let⟨a,ea,wk⟩:=X;exact⟨a,by rw[aaC (AD.mp ea).1];exact ea,wk⟩
 have U:m1.os.length<s.np (pC own ps m1):=by
  unfold Src.np;split
  .exact abz _
  .exact aat (abz _) (aeL _ _)
 refine wj R0 hJ' h ⟨λA f E u q n O x=>?_,λ_ _ _ _ _ _ z=>z.elim,λ_ _ _ _ z=>z.elim,λ_ _ _ _ z=>z.elim⟩ λA f E u F D' hp hnp O h' k'=>hb A f E u F D' ?_ (by rw[hnp];exact U) O h' k'
 .
  have n':f.np=m1.os.length+1:=n;have x':Ext (m1.os.length+1) (α++[.L l]) (upd H1 l (.lst [])) A u:=x;have F':Frm α H1 u:=λb o e nb=>by
   have S:b≠l:=br e M;refine x'.frm b o (by rw[av S];exact e) λz=>?_;rw[kb]at z;rcases aaR.mp z with z|z
   .exact nb z
   .exact S (by simpa[ads,Ao.ads]using z)
  have pe':Pers H1 u:=c.pers F';have G:∀k,k<m1.os.length+1->A[k]?=(α++[.L l])[k]?:=λk hk=>by
   have:=congrArg (λz=>z[k]?) x'.pre;simp only[aaS,if_pos hk]at this;exact this
  have hlen':m1.os.length+1≤f.os.length:=by
   have:=O.npl;rw[n',O.len]at this;exact this
  have hq:m1.os.length<f.os.length:=by assumption
  have eq1:f.os[m1.os.length]?=some (f.os.getD m1.os.length []):=by
   rw[aac,lD hq];rfl
  let⟨xs,y1,y2⟩:=O.own m1.os.length (.L l) _ (by rw[G _ (abz _)];exact V) eq1;have I:∀(k:Nat) (a:Ao) (Z:List aD),α[k]?=some a->(f.os.take m1.os.length)[k]?=some Z->OwnAt K u a Z:=λk a Z z1 L=>by
   rw[aaS]at L;have hk:k<m1.os.length:=by rw[<-B];exact(AD.mp z1).1
   rw[if_pos hk]at L;exact O.own k a Z (by rw[G k ∅,aaC ∅];exact z1) L
  have tl:(f.os.take m1.os.length).length=α.length:=by rw[aaM];omega
  have T:Ext K.eb.np α H1 α u:=⟨rfl,F',λ_ h=>.inl h,λa ha=>by
   let⟨k,ao,e1,hm⟩:=jB ha;have hk:k<(f.os.take m1.os.length).length:=by rw[tl];exact(AD.mp e1).1
   let⟨o,q,_⟩:=(I k ao _ e1 (lD hk)).mem hm;exact⟨o,q⟩⟩
  refine fin _ _ (.ref l) u q n1 ⟨c.nd,tl.symm,I,c.vlen,λi r z=>?_,c.npl,c.ebl,c.ebx.trans T⟩ ?_ (F1.trans F')
  .obtain⟨v,ev,N⟩:=c.var i r z;refine⟨v,ev,?_⟩
   cases r with
   |imm d=>exact Den.mono pe' N
   |obj k=>exact N
   | «at» k p=>exact N
   |new ds=>exact N
   |newT t=>exact N
  .refine⟨l,xs,rfl,?_,y1,y2⟩
   cases z:H l with
   |none=>rfl
   |some o=>
    have:=F1 l o z pα;rw[M]at this;cases this
 .have:=congrArg (λz=>z[m1.os.length]?) hp;simp only[aaS,if_pos U]at this;rw[this];exact V
end
section
variable {X:Cx}{scope sc:Scope}{own fr:List Str}{ps:List Nat}{elt tg a j b:Expr}{ifs e:List Expr}{pos d u:Pos}{w o:WI}{g A:WG}{tt p:WT}{f:WE}
theorem xy(h:tM X.kx (ub w own ps g tt f) σ H Q):Fj (tMI X.kx w) own ps (tl1 (tMG X.kx g) (tMT X.kx tt) (tM X.kx f)) σ H Q:=by
 let⟨n,m,O,i,x,c⟩:=h;refine⟨n,m,_,i,x,λs m1 J K k n1 R F t l G=>?_⟩;exact FC i n1 R F t G k c λq M z L D N r C B E v=>BU B E v λm2 I n2 R2 y k2=>AE r R2 y k2
theorem Ga(h:tM X.kx (AI w own ps g tt o A p f) σ H Q):Fj (tMI X.kx w) own ps (tl2 (tMG X.kx g) (tMT X.kx tt) (tMI X.kx o) (tMG X.kx A) (tMT X.kx p) (tM X.kx f)) σ H Q:=by
 let⟨C,m,Kc,y,L,c⟩:=h;refine⟨C,m,_,y,L,λs m1 J H1 k n1 R T F l hl=>?_⟩;refine FC y n1 R T F hl k c λi m' N H' D D' E q S Z K=>BU S Z K λm2 H2 n2 R2 M k2=>?_;refine⟨i,m2,_,R2,M,λs2 t J2 H3 q3 x v W n=>?_⟩;have O:m1.os.length<s2.np t:=by
  have:m1.os.length<t.np:=by rw[x,n2];exact q
  unfold Src.np;split
  .omega
  .exact aat this (aeL _ _)
 refine wj v n q3 (by rw[x];exact k2.ext (.of v W)) λB m4 P H4 U D4 r hn4 I Y G=>BU I Y G λm5 H5 n5 R5 V k5=>AE ?_ R5 V k5;have:=congrArg (λz=>z[m1.os.length]?) r;simp[aaS,if_pos O]at this;rw[this];exact E
theorem Jv(S:cr own fr scope sc)(r:MI X tg a w)(q:∀cl s H C ex,MG (aV X scope cl (own++fr) s H C ex) tg g)(n:∀cl s H C ex,PTs (aV X scope cl (own++fr) s H C ex) ifs (tMT X.kx tt))
  (l:∀cl s H C ex,ME (aV X scope cl (own++fr) s H C ex) elt f) (c:X.env.scope=sc:=by rfl) (k:ps.map (λi=>X.N[i]?)=fr.map some:=by rfl) (hc:X.calm=true:=by rfl) (m:∀x,aaT a X.env x=pure x:=by intro _;rfl) :
  ME X (.ListComp elt [⟨tg,a,ifs,0⟩] scope pos) (ub w own ps g tt f):=(JJ S r q n l c k hc m).wk λ_ _ _ h=>xy h
theorem P9:PTs X [] (tMT X.kx zL):=by intro c s k H Q I ⟨l,m,K,R,i,h⟩;exact Md c s k H Q I (h true m H i rfl R (Frm.refl _ _))
def Qz{t:WT}(h:MT X c t):PTs X [c] (tMT X.kx t):=MX h
theorem F9(S:cr own fr scope sc)(O:X.N.Nodup)(E:X.N[i]?=some y)(t:X.env.scope.names.lookup y=some .local)(K:MI X tg a w)(J:∀cl s H C ex,MG (aV X scope cl (own++fr) s H C ex) tg g)(N:∀cl s H C ex,PTs (aV X scope cl (own++fr) s H C ex) ifs (tMT X.kx tt))
  (L:∀cl s H C ex,ME (aV X scope cl (own++fr) s H C ex) elt f) (c:abE (.ListComp elt [⟨tg,a,ifs,0⟩] scope pos) (some (.Name y u)) d.line X.env=pure true:=by rfl)
  (h:X.env.scope=sc:=by rfl) (l:ps.map (λi=>X.N[i]?)=fr.map some:=by rfl) (hc:X.calm=true:=by rfl) (G:∀x,aaT a X.env x=pure x:=by intro _;rfl) :
  MS X (.Assign [.Name y u] (.ListComp elt [⟨tg,a,ifs,0⟩] scope pos) d) (wSet i (ub w own ps g tt f)):=(Gz S O E t K J N L c h l hc G).wk λD I H ⟨B,m,T,z,M,k⟩=>
 xy ⟨B,m,_,z,M,λr Q v P q n R rr F=>vQ R n F rr q k.nx ⟨m,I,z⟩⟩
theorem JK(S:cr own fr scope sc)(J:X.N.Nodup)(N:X.N[i]?=some y)(E:X.env.scope.names.lookup y=some .local)(O:MI X tg a w)(T:∀cl s H C ex,MG (aV X scope cl (own++fr) s H C ex) tg g)(L:∀cl s H C ex,PTs (aV X scope cl (own++fr) s H C ex) ifs (tMT X.kx tt))
  (hi2:∀cl s H C ex,MI (aV X scope cl (own++fr) s H C ex) j b o) (l:∀cl s H C ex,MG (aV X scope cl (own++fr) s H C ex) j A) (h:∀cl s H C ex,PTs (aV X scope cl (own++fr) s H C ex) e (tMT X.kx p))
  (I:∀cl s H C ex,ME (aV X scope cl (own++fr) s H C ex) elt f) (c:abE (.ListComp elt [⟨tg,a,ifs,0⟩,⟨j,b,e,0⟩] scope pos) (some (.Name y u)) d.line X.env=pure true:=by rfl)
  (t:X.env.scope=sc:=by rfl) (B:ps.map (λi=>X.N[i]?)=fr.map some:=by rfl) (hc:X.calm=true:=by rfl) (Q:∀x,aaT a X.env x=pure x:=by intro _;rfl)
  (z:∀cl C x,aaT b (agy scope cl C X.env) x=pure x:=by intro _ _ _;rfl) :
  MS X (.Assign [.Name y u] (.ListComp elt [⟨tg,a,ifs,0⟩,⟨j,b,e,0⟩] scope pos) d) (wSet i (AI w own ps g tt o A p f)):=(GC S J N E O T L hi2 l h I c t B hc Q z).wk λD K H ⟨M,m,W,G,P,k⟩=>
 Ga ⟨M,m,_,G,P,λr V v U q n R rr F=>vQ R n F rr q k.nx ⟨m,K,G⟩⟩
end
def bp{i:Str}(h:Den K H (.str i) v):v = .str i:=by simpa[Den]
def jC{i:Bool}(h:Den K H (.bool i) v):v = .bl i:=by simpa[Den]
def kJ(h:Den K H .none v):v = .non:=by simpa[Den]
def fU(i:Int):RelR K α Hb H (.imm (.int i)) (.int i):=rfl
def lG(i:Bool):RelR K α Hb H (.imm (.bool i)) (.bl i):=rfl
def KJ(i:Str):RelR K α Hb H (.imm (.str i)) (.str i):=rfl
def yB:RelR K α Hb H (.imm .none) .non:=rfl
def pq{d:aD}(h:Den K H d v):RelR K α Hb H (.imm d) v:=h
def b6(h:Den K H (.tuple ds) v):∃a xs,v = .ref a/\SqT K H a xs/\DenAll K H ds xs:=by simpa only[Den]
def fE(f:SqT K H a xs)(g:DenAll K H ds xs):Den K H (.tuple ds) (.ref a):=by  exact⟨a,xs,rfl,f,g⟩
section
variable {X:Cx}
def oAdd:WO
 | .imm (.int i),.imm (.int j),_,K=>K (.imm (.int (i+j)))
 | .imm (.str x),.imm (.str y),_,K=>x.length+y.length≤aak/\K (.imm (.str (x++y)))
 | .imm (.tuple a),.imm (.tuple b),_,K=>a.length+b.length≤aak/\K (.imm (.tuple (a++b)))
 |r1,r2,m,K=>∃c d,lsOf m r1=some c/\lsOf m r2=some d/\c.length+d.length≤aak/\K (.new (c++d))
theorem aK:OpR X (ach .Add) (rM X.kx oAdd):=by
 intro l s z H x y v u Q I F N ⟨α,m,σ,H0,H1,r1,r2,Kc,R,J,S,h,f⟩;unfold oAdd at h
 split at h
 .rename_i _ _ i j;have P:=aB (show Den X.kx H (.int i) x from J);have O:=aB (show Den X.kx H (.int j) y from S);subst P O;exact Vi l s z H _ _ v u Q I F N ⟨i,j,rfl,rfl,f _ _ H h R (fU _) (Frm.refl _ _)⟩
 .rename_i _ _ i j;have P:=bp (show Den X.kx H (.str i) x from J);have O:=bp (show Den X.kx H (.str j) y from S);subst P O;exact zy l s z H _ _ v u Q I F N ⟨i,j,rfl,rfl,h.1,f _ _ H h.2 R (KJ _) (Frm.refl _ _)⟩
 .rename_i _ _ ds es;let⟨a,G,rfl,U,D⟩:=b6 (show Den X.kx H (.tuple ds) x from J);let⟨b,V,rfl,T,E⟩:=b6 (show Den X.kx H (.tuple es) y from S);let⟨Z,h⟩:=h
  by_cases hx:G=[]
  .subst hx
   cases F;cases N
   let⟨q,r,p1,_⟩:=I.tuple U;let⟨c,C,p2,_⟩:=I.tuple T;cases r;let⟨⟨cls,W,K,Y⟩,k,L,n,hd⟩:=id p1;let⟨⟨M,w,B,A⟩,d,o,n2,g⟩:=id p2;simp only at L hd o g;subst L hd o g;have e0:ds=[]:=by cases ds with|nil=>rfl|cons _ _=>have:=D.length;simp at this
   subst e0;exact af2 ⟨_,k,rfl⟩ ⟨_,d,rfl⟩ afM agR aeg ad8 (adP _ _)
    (tuple_addW0 a b _ c.toArray n n2 W w Y A 'a') ⟨k,d,⟨.ref b,H,I,rfl,f _ _ H h R (show Den X.kx H (.tuple ([]++es)) (.ref b)from S) (Frm.refl _ _)⟩⟩
  .refine QW l s z H _ _ v u Q I F N ⟨a,b,G,V,rfl,rfl,U,T,hx,by rw[<-D.length,<-E.length];exact Z,λe=>?_,λe p t=>?_⟩
   .subst e;have e0:es=[]:=by cases es with|nil=>rfl|cons _ _=>have:=E.length;simp at this
    subst e0;exact f _ _ H (by rw[aa4]at h;exact h) R (pq J) (Frm.refl _ _)
   .exact f _ _ _ h (R.lay t) (pq<|fE (SqT.of aA) ((D.append E).mono (bj (.inl t)))) (cC t)
 .obtain⟨ds,es,P,O,Z,h⟩:=h;let⟨a,G,rfl,U,D⟩:=J.list R P;let⟨b,V,rfl,T,E⟩:=S.list R O
  cases F;cases N
  let⟨q,r,⟨⟨cls,W,K,Y⟩,n,k,L,hdd,hd⟩,_⟩:=I.list U;let⟨c,C,⟨⟨M,w,B,A⟩,n2,d,o,hdd2,g⟩,_⟩:=I.list T;simp only at L hd o g;subst L hd o g;have hzz:G.length+V.length≤aak:=by rw[<-D.length,<-E.length];exact Z
  refine af2 ⟨_,k,rfl⟩ ⟨_,d,rfl⟩ noFill_list_add seq_list_add PySem.F.slot_list_add PySem.F.entry_list_add (PySem.F.args_list_add_2 _ _) (list_addW a b q.toArray c.toArray n n2 W w Y A (by have:=r.length;have:=C.length;simp only[aaG];omega)) ⟨k,d,?_⟩;have ea:q.toArray++c.toArray=(q++c).toArray:=by simp
  rw[ea];have t:H s.heap.objs.size=none:=I.fresh;exact⟨.ref _,_,I.lnew (t':=s.toks) (r.append C) (by rw[aam];omega),rfl,f _ _ _ h (R.lay t) ⟨_,G++V,rfl,t,aA,(D.append E).mono (bj (.inl t))⟩ (cC t)⟩
def oII(C:Int->Int->Prop)(g:Int->Int->Int):WO
 | .imm (.int i),.imm (.int j),_,K=>C i j/\K (.imm (.int (g i j)))
 |_,_,_,_=>False
def oIB(g:Int->Int->Bool):WO
 | .imm (.int i),.imm (.int j),_,K=>K (.imm (.bool (g i j)))
 |_,_,_,_=>False
theorem vb{f:Ad->Ad->Sem Ad}{C:Int->Int->Prop}{g:Int->Int->Int}(h:OpR X f (rI C λi j=>.int (g i j))):OpR X f (rM X.kx (oII C g)):=by
 intro p s c H x y v u Q I r e ⟨o,m,t,w,q,r1,z,K,R,d,n,a,b⟩;unfold oII at a
 split at a
 .rename_i _ _ i j;have l:=aB (show Den X.kx H _ x from d);have k:=aB (show Den X.kx H _ y from n);subst l k;exact h p s c H _ _ v u Q I r e ⟨i,j,rfl,rfl,a.1,b _ _ H a.2 R (fU _) (Frm.refl _ _)⟩
 .simp_all
theorem yy{f:Ad->Ad->Sem Ad}{g:Int->Int->Bool}(h:OpR X f (rI0 λi j=>.bl (g i j))):OpR X f (rM X.kx (oIB g)):=by
 intro p s b H x y v u Q I r e ⟨o,m,t,w,q,r1,z,K,R,d,n,c,a⟩;unfold oIB at c
 split at c
 .rename_i _ _ i j;have l:=aB (show Den X.kx H _ x from d);have k:=aB (show Den X.kx H _ y from n);subst l k;exact h p s b H _ _ v u Q I r e ⟨i,j,rfl,rfl,a _ _ H c R (lG _) (Frm.refl _ _)⟩
 .simp_all
def oSub:WO:=oII (λ_ _=>True) λi j=>i-j
theorem AU:OpR X (ach .Sub) (rM X.kx oSub):=vb (opI λ_ _ _ _ _ _ _ _ q=>sub_int q)
def oMul:WO:=oII ag8 λi j=>i*j
theorem Mr:OpR X (ach .Mult) (rM X.kx oMul):=vb (opI λ_ _ _ _ _ _ _ h q=>mul_int q h)
def CFd(_ j:Int):Prop:=0<j/\j.natAbs.log2<9000
def Ug:WO:=oII CFd λi j=>i/j
theorem iw:OpR X (ach .FloorDiv) (rM X.kx Ug):=vb (opI λi j _ _ _ _ _ h q=>floordiv_int (by have:=h.1;omega) (by rw[Int.fdiv_eq_ediv_of_nonneg _ (by have:=h.1;omega)];exact q) (.inl (PyProof.noPylong_of_log2 h.2)))
def oMod:WO:=oII (λ_ j=>0<j) λi j=>i%j
def ga:OpR X (ach .Mod) (rM X.kx oMod):=vb UH
def oPow:WO:=oII CPow λi j=>i^j.toNat
def NH:OpR X (ach .Pow) (rM X.kx oPow):=vb T6
def oLt:WO:=oIB λi j=>decide (i<j)
def oLe:WO:=oIB λi j=>decide (i≤j)
def oGt:WO:=oIB λi j=>decide (j<i)
def oGe:WO:=oIB λi j=>decide (j≤i)
def k6:OpR X (aa0 .Lt) (rM X.kx oLt):=yy Yu
def Lh:OpR X (aa0 .LtE) (rM X.kx oLe):=yy Y6
def oy:OpR X (aa0 .Gt) (rM X.kx oGt):=yy Yc
def Bt:OpR X (aa0 .GtE) (rM X.kx oGe):=yy Ye
def eqD(f:Bool->Bool):WO:=λr1 r m K=>match asD m r1,asD m r with
 |some d1,some d2=>act d1=true/\act d2=true/\K (.imm (.bool (f (aad d1 d2))))
 |_,_=>False
def eqS(f:Bool->Bool):WO:=λr1 r m K=>∃x y:Str,r1 = .imm (.str x)/\r = .imm (.str y)/\K (.imm (.bool (f (decide (x=y)))))
def eqSs(f:Bool->Bool):WO:=λr1 r m K=>∃x y:List Str,lsOf m r1=some (x.map .str)/\lsOf m r=some (y.map .str)/\x.length=y.length/\K (.imm (.bool (f (decide (x=y)))))
def oEq:WO:=λr1 r m K=>eqD id r1 r m K\/eqS id r1 r m K\/eqSs id r1 r m K
def oNe:WO:=λr1 r m K=>eqD (!·) r1 r m K\/eqS (!·) r1 r m K
theorem jr{K:Kd}{H:Hp}:∀{ns:List Str}{xs:List V},DenAll K H (ns.map .str) xs->xs=ns.map V.str
 |[],_,h=>by simpa only[ DenAll]
 |n::ns,_,h=>by
  let⟨v,vs,rfl,a,b⟩:=h;have e:=bp a;rw[e,jr b];rfl
theorem r8:∀{ns:List Str}{us:List Ad}{j:Nat}{u:Ad},Vals (ns.map V.str) us->us[j]?=some u->∃x t,ns[j]?=some x/\u = .str x t
 |[],_,_,_,.nil,e=>by simp at e
 |n::ns,_,0,_,.cons r _,e=>by
  simp at e;subst e;let⟨t,h⟩:=r;exact⟨n,t,rfl,h⟩
 |n::ns,_,j+1,u,.cons _ t,e=>by
  let⟨x,a,b,c⟩:=r8 t ‹_›;exact⟨x,a,by simpa using b,c⟩
theorem vK(xs ys:List Str)(h:xs.length=ys.length):(aav xs.length).all (λj=>decide (xs.getD j ae0=ys.getD j ae0))=decide (xs=ys):=by
 rw[abq,abA,decide_eq_true_eq];constructor
 .intro q;apply ahp h;intro i a b;have:=q i (by simpa);rw[decide_eq_true_eq,aac,aac,lD a,lD b]at this;exact this
 .rintro rfl j _;exact decide_eq_true rfl
theorem Qm{s:GT}{x y:V}{v u:Ad}{m:MSt}{r1 r2:R}{xs ys:List Str}(I:Inv X pins σ' H s)(f:Rel X.kx α m σ H)(n:RelR X.kx α H0 H r1 x)(S:RelR X.kx α H1 H r2 y)(k:RelV x v)(z:RelV y u)
  (P:lsOf m r1=some (xs.map .str)) (C:lsOf m r2=some (ys.map .str)) (B:xs.length=ys.length) (U:X.A.units+64<cLine):∃l b c i,v = .ref l/\u = .ref b/\s.heap.IsList l c/\s.heap.IsList b i/\c.size=xs.length/\i.size=xs.length/\
   ∀j (D:j<c.size) (F:j<i.size),afW X.A.in1 s c[j] i[j] (decide (xs.getD j ae0=ys.getD j ae0)):=by
 let⟨a,W,rfl,O,o⟩:=n.list f P;let⟨b,T,rfl,G,Q⟩:=S.list f C;have M:=jr o;have K:=jr Q;subst M K
 cases k;cases z
 let⟨c,d,N,_⟩:=I.list O;let⟨i,r,E,_⟩:=I.list G;have h:=d.length;have g:=r.length;rw[iO]at h g;refine⟨a,b,c.toArray,i.toArray,rfl,rfl,N.isList,E.isList,by simp[h],by simp[<-g,B],λj D F=>?_⟩;let⟨x,t,w,L⟩:=r8 d (j:=j) (u:=c.toArray[j]) 'a';let⟨y,q,p,J⟩:=r8 r (j:=j) (u:=i.toArray[j]) 'a';rw[L,J,aac,aac,w,p];have:=afW.str_str (A:=X.A.in1) (s:=s) x t y q;have e:(x==y)=decide (x=y):=by rw[adg]
 simp_all
theorem bQ(j:X.A.units+64<cLine):OpR X (aa0 .Eq) (rM X.kx oEq):=by
 intro p s d H x y v u Q I r g ⟨A,m,D,E,C,r1,F,K,R,c,i,h,f⟩;rcases h with h|⟨z,t,rfl,rfl,h⟩|⟨n,w,a,e,k,h⟩
 .unfold eqD at h
  split at h
  .rename_i d1 d2 a e;let⟨B,o⟩:=c.reads I R r a (aa7 _ (ac7 h.1));let⟨bs,q⟩:=i.reads I R g e (aa7 _ (ac7 h.2.1));exact eq_dataH o q h.1 h.2.1 j ⟨.bl _,H,I,rfl,f _ _ H h.2.2 R (lG _) (Frm.refl _ _)⟩
  .exact h.elim
 .have a:=bp (show Den X.kx H (.str z) x from c);have e:=bp (show Den X.kx H (.str t) y from i);subst a e;refine Za p s d H _ _ v u Q I r g ⟨rfl,?_⟩;rw[qB];exact f _ _ H h R (lG _) (Frm.refl _ _)
 .obtain⟨l,b,its,its2,rfl,rfl,p1,p2,s1,s2,he⟩:=Qm I R c i r g a e k j;refine SeqAt.eq_listAt p1 p2 (s1.trans s2.symm) ∅ he ?_;rw[s1,vK n w k];exact⟨.bl _,H,I,rfl,f _ _ H h R (lG _) (Frm.refl _ _)⟩
theorem t7(g:X.A.units+64<cLine):OpR X (aa0 .NotEq) (rM X.kx oNe):=by
 intro p s a H x y v u Q I r c ⟨j,m,n,o,l,r1,w,K,R,b,d,h,f⟩;rcases h with h|⟨z,t,rfl,rfl,h⟩
 .unfold eqD at h
  split at h
  .rename_i d1 d2 e1 e;let⟨k,i⟩:=b.reads I R r e1 (aa7 _ (ac7 h.1));let⟨bs,q⟩:=d.reads I R c e (aa7 _ (ac7 h.2.1));exact ne_dataH i q h.1 h.2.1 g ⟨.bl _,H,I,rfl,f _ _ H h.2.2 R (lG _) (Frm.refl _ _)⟩
  .simp_all
 .have e1:=bp (show Den X.kx H (.str z) x from b);have e:=bp (show Den X.kx H _ y from d);subst e1 e;refine YD p s a H _ _ v u Q I r c ⟨rfl,?_⟩;rw[qB];exact f _ _ H h R (lG _) (Frm.refl _ _)
def isNone:R->Bool
 | .imm .none=>true
 |_=>false
def FZ:WO:=λr1 r _ K=>r = .imm .none/\K (.imm (.bool (!isNone r1)))
theorem yU(h:RelR K α Hb H r v):decide (v = .non)=isNone r:=by
 cases r with
 |obj k=>let⟨a,_,rfl⟩:=h;rfl
 |new ds=>let⟨a,_,rfl,_⟩:=h;rfl
 | «at» k p=>let⟨f,a,_,_,rfl⟩:=h;rfl
 |newT t=>let⟨f,a,rfl,_⟩:=h;rfl
 |imm d=>
  cases d with
  |none=>have e:=kJ (show Den K H .none v from h);subst e;rfl
  |bool b=>have e:=jC (show Den K H _ v from h);subst e;rfl
  |int b=>have e:=aB (show Den K H _ v from h);subst e;rfl
  |str b=>have e:=bp (show Den K H _ v from h);subst e;rfl
  |list ds=>have c:=h;let⟨a,_,rfl,_⟩:=c;rfl
  |tuple ds=>let⟨a,_,rfl,_⟩:=b6 (h);rfl
  |dict g=>have c:=h;let⟨a,rfl,_⟩:=c;rfl
theorem qr:OpR X (aa0 .IsNot) (rM X.kx FZ):=by
 intro p s a H x y v u Q I r d ⟨i,m,k,l,j,r1,n,K,R,b,g,h,f⟩;let⟨e,h⟩:=h;subst e;have c:=kJ (show Den X.kx H .none y from g);exact Ph p s a H _ _ v u Q I r d ⟨c,by rw[yU b];exact f _ _ H h R (lG _) (Frm.refl _ _)⟩
def uNeg:WU
 | .imm (.int i),_,K=>K (.imm (.int (-i)))
 |_,_,_=>False
theorem jT:UnR X (unaryOp .USub) (uM X.kx uNeg):=by
 intro p s a H x v Q I r ⟨c,m,d,g,r1,K,R,b,h,f⟩;unfold uNeg at h
 split at h
 .rename_i _ i;have e:=aB (show Den X.kx H _ x from b);subst e;exact Vk p s a H _ v Q I r ⟨i,rfl,f _ _ H h R (fU _) (Frm.refl _ _)⟩
 .simp_all
def Cc(m:MSt)(K:R->Prop):R->R->Prop
 | .imm (.tuple ds),.imm (.int i)=>∃d,atI ds i=some d/\K (.imm d)
 | .imm (.str x),.imm (.int i)=>∃c,x.length≤aak/\atI x.cps.toList i=some c/\K (.imm (.str ⟨#[c]⟩))
 |r,.imm (.int i)=>∃ds d,lsOf m r=some ds/\atI ds i=some d/\K (.imm d)
 |_,_=>False
def oo:WO:=λr1 r m K=>Cc m K r1 r
theorem DQ{K:Kx}{i:Int}{d:aD}(g:DenAll K H ds xs)(e:atI ds i=some d):∃v,atI xs i=some v/\Den K H d v:=by
 unfold atI at e⊢;rw[<-g.length]
 cases q:ixN ds.length i with
 |none=>rw[q]at e;cases e
 |some j=>
  rw[q]at e;let⟨v,h,a⟩:=g.get (e);exact⟨v,h,a⟩
theorem Nr:IxR X (rM X.kx oo):=by
 intro h b p s o H x y v u Q I r C ⟨N,m,P,S,O,r1,K,M,R,B,E,G,n⟩ l;have j:Cc m M r1 K:=G;unfold Cc at j
 split at j
 .rename_i ds i;let⟨d,e,k⟩:=j;let⟨a,t,rfl,f,g⟩:=b6 (B);have q:=aB (show Den X.kx H (.int i) y from E);let⟨z,D,A⟩:=DQ g e;exact Vn h b p s o H _ _ v u Q I r C ⟨a,t,i,z,rfl,q,f,D,n _ _ H k R (pq A) (Frm.refl _ _)⟩ l
 .rename_i w i;let⟨c,F,e,k⟩:=j;have L:=bp (show Den X.kx H (.str w) x from B);have q:=aB (show Den X.kx H (.int i) y from E);exact VO h b p s o H _ _ v u Q I r C ⟨w,i,c,L,q,F,e,n _ _ H k R (KJ _) (Frm.refl _ _)⟩ l
 .rename_i i _ _;let⟨ds,d,J,e,k⟩:=j;let⟨a,t,rfl,f,g⟩:=B.list R J;have q:=aB (show Den X.kx H (.int i) y from E);let⟨z,D,A⟩:=DQ g e;exact E9 h b p s o H _ _ v u Q I r C ⟨a,t,i,z,rfl,q,f,D,n _ _ H k R (pq A) (Frm.refl _ _)⟩ l
 .exact j.elim
theorem Yy{a b:Expr}{w c:WE}(d:ME X a w)(f:ME X b c)(e:oZ b:=by intro _ _;rfl):ME X (.Subscript a b pos) (wBin oo w c):=(UC Nr d f e).wk λ_ _ _ h=>tw h
end
abbrev F7(P:Int->Prop):R->Prop
 | .imm (.int i)=>P i
 |_=>False
abbrev Ig(P:Nat->Prop):R->Prop
 | .obj k=>P k
 |_=>False
abbrev on1(P:R->Prop):List R->Prop
 |[r]=>P r
 |_=>False
section
variable {K:Kx}{b:Al}{c H:Hp}{r:R}{v:V}
theorem Lc{P:Int->Prop}(rr:RelR K b c H r v)(h:F7 P r):∃i,r = .imm (.int i)/\v = .int i/\P i:=by
 unfold F7 at h
 split at h
 .exact⟨_,rfl,aB (K:=K) (H:=H) rr,h⟩
 .simp_all
theorem J3{P:Nat->Prop}(rr:RelR K b c H r v)(h:Ig P r):∃k a,r = .obj k/\b[k]?=some (.L a)/\v = .ref a/\P k:=by
 unfold Ig at h
 split at h
 .obtain⟨a,e1,e2⟩:=rr;exact⟨_,a,rfl,e1,e2,h⟩
 .simp_all
theorem fJ{P:R->Prop}{rs:List R}(rr:RelRs K b c H rs xs)(h:on1 P rs):∃r v,rs=[r]/\xs=[v]/\RelR K b c H r v/\P r:=by
 cases rr with
 |nil=>exact h.elim
 |cons a t=>
  cases t with
  |nil=>exact⟨_,_,rfl,rfl,a,h⟩
  |cons _ _=>exact h.elim
end
section
variable {X:Cx}{o a b c e:Expr}{z:List Expr}{A D E G B J:WE}{C:WA}{pos y j:Pos}
abbrev WM:=R->List R->MSt->(R->MSt->Prop)->Prop
def mM(K:Kx)(l:WM):V->List V->Hp->VK->Prop:=λx n H Q=>∃d m h k p r rs i,Rel K d m h H/\RelR K d k H r x/\RelRs K d p H rs n/\l r rs m i/\∀r g v f,i r g->g.np=m.np->Rel K d g h f->RelR K d H f r v->Frm d H f->Q v f
abbrev wML(d:WM)(A:WE)(C:WA):WE:=λm K=>A m λr m1=>(∃ds,lsOf m1 r=some ds)/\C m1 λrs m2=>d r rs m2 K
theorem Xz{x:WM}(h:tM X.kx (wML x A C) σ H Q):tBM X.K "list" (mM X.kx x) (tM X.kx A) (tMA X.kx C) σ H Q:=by
 let⟨l,m,P,w,K,i⟩:=h;refine⟨l,m,_,w,K,λr m1 v L k n1 R rr u=>?_⟩;let⟨⟨ds,O⟩,k⟩:=k;let⟨a,I,rfl,f,g⟩:=rr.list R O;refine⟨.inl ⟨rfl,I,f⟩,l,m1,_,R,k,λrs m2 vs S k2 n2 d s p=>?_⟩;exact⟨l,m2,σ,H,L,r,rs,P,d,rr.keep w R p,s,k2,λr N v M k n q t F=>i r N v M k (n.trans (n2.trans n1)) q (t.base d (u.trans p)) ((u.trans p).trans F)⟩
theorem XJ{name:Str}{id:String}{l:WM}(slot:Slot "list" name id)(k:typeOf (.builtin id)=pure (.type "method_descriptor"))(q:MtM X id (mM X.kx l))(m:ME X o A)(p:MA X (e::z) C)
  (g:abw o name X.env (eval o X.env)=eval o X.env:=by rfl)
  (i:((abn j (aab (e::z) X.env)).all (λx=>!x.1)&&(acW j (abX [] X.env)).all (λx=>x.1.isSome)
   && decide ((e::z).length+([]:List ac4).length+(if ([]:List ac4).isEmpty then 0 else 1)<30))=true:=by rfl)
  (f:(y.endLine==j.line)=true:=by rfl) (n:aab (e::z) X.env=(false,eval e X.env)::aab z X.env:=by first|exact aF rfl|rfl) (d:(abn j (aab z X.env)).any (·.1)=false:=by rfl) :
  ME X (.Call (.Attribute o name y) (e::z) [] j) (wML l A C):=(VJ PySem.F.plainAttrs_list slot k q m p g i f n d).wk λ_ _ _ h=>Xz h
def CF:WM:=λr rs m K=>Ig (λk=>on1 (lH λd=>∃ds,m.os[k]?=some ds/\ds.length<aak/\K (.imm .none) {m with os:=m.os.set k (ds++[d])}) rs) r
theorem qt:MtM X "list.append" (mM X.kx CF):=by
 intro p s i H x P v w Q I t M ⟨O,m,U,V,S,r,rs,Y,R,u,l,h,f⟩;let⟨k,a,rfl,n,rfl,h⟩:=J3 u h;let⟨W,T,rfl,rfl,l,h⟩:=fJ l h;let⟨d,rfl,hd,ds,N,K,h⟩:=g9 l h;let⟨L,q,g⟩:=R.own _ _ ds n N;let⟨R2,F⟩:=R.setO n q (g.append (DenAll.cons hd DenAll.nil));exact m8 p s i H _ _ v w Q I t M ⟨a,L,_,rfl,rfl,q,by rw[<-g.length];exact K,f _ _ _ _ h rfl R2 yB F⟩
def lenR(m:MSt)(K:R->Prop):R->Prop
 | .imm (.str x)=>x.length≤aak/\K (.imm (.int x.length))
 | .imm (.tuple ds)=>K (.imm (.int ds.length))
 |r=>∃ds,lsOf m r=some ds/\K (.imm (.int ds.length))
abbrev oLen:WC:=λrs m K=>on1 (lenR m K) rs
theorem bv:fh X (.builtin "len") (cM X.kx oLen):=by
 intro p s k H w u Q I q ⟨t,m,F,K,rs,L,R,h,d,i⟩;let⟨r,v,rfl,rfl,l,d⟩:=fJ h d;unfold lenR at d
 split at d
 .rename_i x _;have e:=bp (show Den X.kx H _ _ from l);subst e;exact sF p s k H _ u Q I q ⟨x,rfl,d.1,i _ _ H d.2 R (fU _) (Frm.refl _ _)⟩
 .obtain⟨a,n,rfl,f,g⟩:=b6 (l);exact k9 p s k H _ u Q I q ⟨a,n,rfl,.inr f,by rw[<-g.length];exact i _ _ H d R (fU _) (Frm.refl _ _)⟩
 .obtain⟨ds,el,d⟩:=d;let⟨a,n,rfl,f,g⟩:=l.list R el;exact k9 p s k H _ u Q I q ⟨a,n,rfl,.inl f,by rw[<-g.length];exact i _ _ H d R (fU _) (Frm.refl _ _)⟩
abbrev intR(K:R->Prop):R->Prop
 | .imm (.int i)=>K (.imm (.int i))
 | .imm (.bool b)=>K (.imm (.int (if b then 1 else 0)))
 |_=>False
abbrev oInt:WC:=λrs m K=>on1 (intR K) rs
theorem nW:fh X (.type "int") (cM X.kx oInt):=by
 intro p s g H x u Q I l ⟨n,m,q,t,rs,K,R,h,d,f⟩;let⟨r,v,rfl,rfl,k,d⟩:=fJ h d;unfold intR at d
 split at d
 .rename_i i _;have e:=aB (show Den X.kx H _ _ from k);subst e;exact uW p s g H _ u Q I l (.inl ⟨i,rfl,f _ _ H d R (fU _) (Frm.refl _ _)⟩)
 .rename_i i _;have e:=jC (show Den X.kx H _ _ from k);subst e;exact uW p s g H _ u Q I l (.inr ⟨i,rfl,f _ _ H d R (fU _) (Frm.refl _ _)⟩)
 .simp_all
def sqOf(m:MSt):R->Option (List aD)
 | .imm (.tuple ds)=>some ds
 |r=>lsOf m r
theorem RelR.seq{K:Kx}{m:MSt}(R:Rel K α m σ H)(h:RelR K α H0 H r v)(e:sqOf m r=some ds):∃a xs,v = .ref a/\(SqL K H a xs\/SqT K H a xs)/\DenAll K H ds xs:=by
 unfold sqOf at e
 split at e
 .cases e;let⟨a,d,e,f,g⟩:=b6 (h);exact⟨a,d,e,.inr f,g⟩
 .obtain⟨a,d,e,f,g⟩:=h.list R e;exact⟨a,d,e,.inl f,g⟩
def Ux:WC:=λrs m K=>on1 (λr=>∃ds,sqOf m r=some ds/\K (.new ds)) rs
theorem zk:fh X (.type "list") (cM X.kx Ux):=by
 intro p s n H F u Q I w ⟨x,m,K,L,rs,M,R,h,d,k⟩;let⟨r,v,rfl,rfl,t,d⟩:=fJ h d
 .obtain⟨ds,e,d⟩:=d;let⟨a,q,rfl,f,g⟩:=t.seq R e;exact sI p s n H _ u Q I w ⟨a,q,rfl,f,λl i=>k _ _ _ d (R.lay i) ⟨l,q,rfl,i,aA,g.mono (bj (.inl i))⟩ (cC i)⟩
def Kq:WC:=λrs m K=>on1 (λr=>∃ds,sqOf m r=some ds/\K (.imm (.tuple ds))) rs
theorem e9:fh X (.type "tuple") (cM X.kx Kq):=by
 intro p s k H F u Q I w ⟨x,m,K,L,rs,M,R,h,d,i⟩;let⟨r,v,rfl,rfl,q,d⟩:=fJ h d
 .obtain⟨ds,e,d⟩:=d;let⟨a,t,rfl,f,g⟩:=q.seq R e;refine si p s k H _ u Q I w ⟨a,t,rfl,?_⟩;rcases f with f|f
  .exact .inl ⟨f,λl n=>i _ _ _ d (R.lay n) (pq (fE (SqT.of aA) (g.mono (bj (.inl n))))) (cC n)⟩
  .exact .inr ⟨f,i _ _ _ d R (pq (fE f g)) (Frm.refl _ _)⟩
def sM(K:Kx)(o:R->Option Int->Option Int->MSt->(R->Prop)->Prop):V->Option Int->Option Int->Hp->VK->Prop:=λx l k H Q=>∃d m h i r g,Rel K d m h H/\RelR K d i H r x/\o r l k m g/\∀r v f,g r->Rel K d m h f->RelR K d H f r v->Frm d H f->Q v f
def cutD(xs:List aD)(lo h:Option Int):List aD:=(xs.drop (HT.sIx xs.length 0 lo)).take (HT.sIx xs.length xs.length h-HT.sIx xs.length 0 lo)
def D9(g:DenAll K H ds xs)(lo h:Option Int):DenAll K H (cutD ds lo h) (cutV xs lo h):=by
 unfold cutD cutV;rw[<-g.length];exact(g.drop _).take _
def Yf:R->Option Int->Option Int->MSt->(R->Prop)->Prop:=λr l h m K=>∃ds,lsOf m r=some ds/\K (.new (cutD ds l h))
theorem Iu:SlR X (sM X.kx Yf):=by
 intro d s n H x v vl u q t K Q I w M F O L;let⟨P,m,S,T,r,U,R,h,⟨ds,e,k⟩,l⟩:=L;let⟨a,N,rfl,f,g⟩:=h.list R e;exact QP d s n H _ v vl u q t K Q I w M F O ⟨a,N,rfl,f,λp i=>l _ _ _ k (R.lay i) ⟨p,_,rfl,i,aA,(D9 g q t).mono (bj (.inl i))⟩ (cC i)⟩
def WO1:=MSt->(Option Int->MSt->Prop)->Prop
def tMO(K:Kx)(w:WO1):TO:=λh H Q=>∃d m i,Rel K d m h H/\w m i/\∀r g f,i r g->g.np=m.np->Rel K d g h f->Frm d H f->Q r f
abbrev CI:WO1:=λm K=>K none m
abbrev Ud(w:WE):WO1:=λm K=>w m λr d=>F7 (λi=>K (some i) d) r
theorem PO.wk{X:Cx}{e:Option Expr}{t t':TO}(h:PO X e t)(k:∀d H Q,t' d H Q->t d H Q):PO X e t':=λp s d H Q I q=>h p s d H Q I (k _ _ _ q)
abbrev MO(X:Cx)(e:Option Expr)(w:WO1):Prop:=PO X e (tMO X.kx w)
theorem Qe:MO X none CI:=(RG).wk<|by intro g H Q ⟨d,m,K,R,h,f⟩;exact f none m H h rfl R (Frm.refl _ _)
theorem QF(h:ME X e B):MO X (some e) (Ud B):=(QE h).wk<|by
 intro p H Q ⟨d,m,K,n,g,f⟩;refine⟨d,m,_,n,g,λr m1 v l k n1 R rr F=>?_⟩;let⟨i,rfl,rfl,k⟩:=Lc rr k;exact⟨i,rfl,f _ m1 l k n1 R F⟩
abbrev wSl(g:R->Option Int->Option Int->MSt->(R->Prop)->Prop)(B:WE)(w wh:WO1):WE:=λm K=>B m λr m1=>w m1 λl m2=>wh m2 λu d=>g r l u d λf=>K f d
theorem GJ{w wh:WO1}{P:Pos}(x:SlR X (sM X.kx ob))(K:ME X e B)(O:MO X lo w)(L:MO X hi wh):ME X (.Subscript e (.Slice lo hi none P) pos) (wSl ob B w wh):=(Jb x K O L).wk<|by intro N H Q ⟨g,m,Kc,i,U,n⟩;exact
 ⟨g,m,_,i,U,λr m1 v Z k n1 R rr t=>⟨g,m1,_,R,k,λl m2 H2 k2 n2 d F=>⟨g,m2,_,d,k2,λu s H3 V T f q=>⟨g,s,N,H,r,_,f,(rr.keep i R F).keep i d q,V,λS M Y I h p W=>n S s M Y I (T.trans (n2.trans n1)) h (p.base f ((t.trans F).trans q)) (((t.trans F).trans q).trans W)⟩⟩⟩⟩
end
def agV:Nat->List Ag->List (Option R)
 |_,[]=>[]
 |k,.imm d::as=>some (.imm d)::agV k as
 |k,.own _::as=>some (.obj k)::agV (k+1) as
 |k,.tr _::as=>some (.at k [])::agV (k+1) as
def agO:List Ag->List (List aD)
 |[]=>[]
 | .imm _::as=>agO as
 | .own ds::as=>ds::agO as
 | .tr t::as=>[t]::agO as
def fq(n:Nat)(as:List Ag):MSt:=⟨agV 0 as++aaj (n-as.length) none,agO as,(agO as).length⟩
def outR(m:MSt):R->R
 | .imm d=>.imm d
 | .new ds=>.new ds
 | .newT t=>.newT t
 | .obj k=>if k<m.np then .obj k else .new (m.os.getD k [])
 | .at k p=>if k<m.np then .at k p else match p,m.os[k]? with
  |[],some [t]=>.newT t
  |_,_=>.at k p
theorem d4:∀(k:Nat) (as:List Ag),(agV k as).length=as.length
 |_,[]=>rfl
 |k,.imm d::as=>by simp[agV,d4 k as]
 |k,.own _::as=>by simp[agV,d4 (k+1) as]
 |k,.tr _::as=>by simp[agV,d4 (k+1) as]
section
variable {K:Kx}{H:Hp}
theorem RelAs.facts{K:Kd}:∀{as:List Ag}{vs:List V}{β:Al}{pre:Al},RelAs K H as vs β ->
  (agO as).length=β.length/\(∀(k:Nat) (ao:Ao) (ds:List aD),β[k]?=some ao->(agO as)[k]?=some ds->OwnAt K H ao ds)/\
   ∀(i:Nat) (r:R),(agV pre.length as)[i]?=some (some r)->∃v,vs[i]?=some v/\RelS K (pre++β) H r v
 |_,_,_,_,.nil=>⟨rfl,λk a ds h=>by simp at h,λi r h=>by simp[agV]at h⟩
 | _,_,β,pre,.imm (as:=as) hd t=>by
  let⟨f,g,d⟩:=t.facts (pre:=pre);refine⟨f,g,λi r h=>?_⟩
  cases i with
  |zero=>simp[agV]at h;subst h;exact⟨_,rfl,hd⟩
  |succ i=>
   let⟨v,e,q⟩:=d i r (by simpa[agV]using h);exact⟨v,by simpa using e,q⟩
 | _,_,_,pre,.own (a:=a) (β:=β) ha t=>by
  let⟨f,g,d⟩:=t.facts (pre:=pre++[.L a]);refine⟨by simp[agO,f],λk b ds c z=>?_,λi r h=>?_⟩
  .cases k with
   |zero=>simp[agO]at c z;subst c;subst z;exact ha
   |succ k=>exact g k b ds (by simpa using c) (by simpa[agO]using z)
  .cases i with
   |zero=>simp[agV]at h;subst h;exact⟨_,rfl,a,'a',rfl⟩
   |succ i=>
    let⟨v,e,q⟩:=d i r (by simpa[agV]using h);refine⟨v,by simpa using e,?_⟩;rw[aaW]at q;exact q
 | _,_,_,pre,.tr (a:=a) (τ:=τ) (β:=β) ha el t=>by
  let⟨f,g,d⟩:=t.facts (pre:=pre++[.T τ]);refine⟨by simp[agO,f],λk b ds c z=>?_,λi r h=>?_⟩
  .cases k with
   |zero=>simp[agO]at c z;subst c;subst z;exact ha
   |succ k=>exact g k b ds (by simpa using c) (by simpa[agO]using z)
  .cases i with
   |zero=>simp[agV]at h;subst h;exact⟨_,rfl,τ,a,'a',el,rfl⟩
   |succ i=>
    let⟨v,e,q⟩:=d i r (by simpa[agV]using h);refine⟨v,by simpa using e,?_⟩;rw[aaW]at q;exact q
theorem ut(o:N.length=nN)(c:n≤nN)(m:as.length=n)(nd:(ads β).Nodup)(a:RelAs K H as vs β)(f:K.eb.np≤(agO as).length)(j:Ext K.eb.np K.eb.be K.eb.H β H):Rel K β (fq nN as) (start N vs) H:=by
 let⟨h,k,b⟩:=a.facts (pre:=[]);have l:=a.length;refine⟨nd,by rw[<-h];rfl,k,?_,λi r e=>?_,by rw[<-h];exact aaa _,f,j⟩
 .unfold start fq;simp only[aam,iO,aeq,d4];omega
 .have e':(agV 0 as++aaj (nN-as.length) none)[i]?=some (some r):=e
  by_cases d:i<as.length
  .rw[aaC (by rw[d4];exact d)]at e';let⟨v,g,q⟩:=b i r e';refine⟨v,?_,by simpa using q⟩;unfold start;rw[aaC (by rw[iO];omega),aah,g];rfl
  .rw[aaP (by rw[d4];omega),ad7]at e'
   split at e'<;>cases e'
theorem qz{m:MSt}(r:RelAs K H as vs β)(d:m.np=(agO as).length)(R:Rel K α' m σ' H')(x:Ext (agO as).length β H α' H'):CJ K H' β (m.os.take m.np)/\Frm β H H'/\β=α'.take (agO as).length:=by
 let⟨c,g,f⟩:=r.facts (pre:=[]);have e:α'.take (agO as).length=β:=by rw[x.pre,c,aaE]
 refine⟨⟨?_,λj a ds z b=>?_⟩,x.frm,e.symm⟩
 .have:=R.npl;rw[R.len]at this
  grind
 .rw[<-e,aaS]at z;rw[d,aaS]at b
  by_cases h:j<(agO as).length
  .rw[if_pos h]at z b;exact R.own j a ds z b
  .simp_all
theorem L9{m:MSt}(D:m.np=(agO as).length)(R:Rel K α' m σ' H')(x:Ext (agO as).length β H α' H')(f:β=α'.take (agO as).length)(rr:RelR K α' H H' r v)
  (ok:∀k p,r = .at k p->k<m.np\/(p=[]/\∃t,m.os[k]?=some [t])):RelR K β H H' (outR m r) v:=by
 have out:∀{k:Nat}{c:Ao},¬k<m.np->α'[k]?=some c->∀b∈c.ads,H b=none:=λ{k c} hk e b q=>by
  rcases x.new b (lq e q)with z|z
  .exfalso;rw[f]at z;let⟨j,u,ej,A⟩:=jB z;rw[aaS]at ej
   by_cases s:j<(agO as).length
   .rw[if_pos s]at ej;exact iU R.nd e ej ∅ q A
   .rw[if_neg s]at ej;cases ej
  .exact z
 have i:∀{k:Nat}{c:Ao},k<m.np->α'[k]?=some c->β[k]?=some c:=λ{k c} hk e=>by
  simp_all
 cases r with
 |imm d=>exact rr
 |new ds=>exact rr
 |newT t=>exact rr
 | obj k=>
  let⟨a,e,rfl⟩:=rr;unfold outR
  by_cases hk:k<m.np
  .simp only[hk,if_true];exact⟨a,i hk e,rfl⟩
  .simp only[hk,if_false];have h:k<m.os.length:=by rw[<-R.len];exact(AD.mp e).1
   have y:m.os[k]?=some (m.os.getD k []):=by rw[aac,lD h];rfl
   let⟨w,C,B⟩:=R.own k _ _ e y;exact⟨a,w,rfl,out hk e a (aaf.mpr rfl),C,B⟩
 | «at» k p=>
  let⟨l,a,e,n,rfl⟩:=rr;unfold outR
  by_cases hk:k<m.np
  .simp only[hk,if_true];exact⟨l,a,i hk e,n,rfl⟩
  .simp only[hk,if_false];rcases ok k p rfl with z|⟨rfl,t,o⟩
   .exact(hk z).elim
   .rw[o];have g:=R.own k _ _ e o;exact⟨l,a,rfl,n,((gw α').mp R.nd).1 _ (Ld e),out hk e,g⟩
def okR(m:MSt):R->Prop
 | .at k p=>k<m.np\/(p=[]/\∃t,m.os[k]?=some [t])
 |_=>True
theorem okR.at{m:MSt}(h:okR m r):∀k p,r = .at k p->k<m.np\/(p=[]/\∃t,m.os[k]?=some [t]):=λk p e=>by subst e;exact h
def retK(a:R->List (List aD)->Prop)(m:MSt):R->Prop
 | .at k p=>okR m (.at k p)/\a (outR m (.at k p)) (m.os.take m.np)
 | .imm d=>a (.imm d) (m.os.take m.np)
 | .new ds=>a (.new ds) (m.os.take m.np)
 | .obj k=>a (outR m (.obj k)) (m.os.take m.np)
 | .newT t=>a (.newT t) (m.os.take m.np)
theorem retK.ok{a:R->List (List aD)->Prop}{m:MSt}(h:retK a m r):okR m r/\a (outR m r) (m.os.take m.np):=by
 cases r with
 | «at» k p=>exact h
 |imm d=>exact⟨trivial,h⟩
 |new ds=>exact⟨trivial,h⟩
 |obj k=>exact⟨trivial,h⟩
 |newT t=>exact⟨trivial,h⟩
theorem fn_m{E:XK}(o:K.eb=⟨0,[],λ_=>none⟩)(h:spOf K n sp vs H Q E)(y:N.length=nN)(k:n≤nN)
  (u:∀as c,as.length=n->sp as c->w {nx:=λm=>c (.imm .none) (m.os.take m.np),rt:=λr m=>retK c m r} (fq nN as)):tMS K w {nx:=λ_ b=>Q .non b,rt:=Q} (start N vs) H:=by
 let⟨as,t,c,p,nd,e,j,f⟩:=h;have A:=ut y k p nd e (by rw[o];exact abB _) (by rw[o];exact⟨rfl,λ_ _ z=>(by cases z),λ_ _=>.inr rfl,λa s=>(by cases s)⟩);refine⟨t,fq nN as,_,A,u as c p j,⟨λg B i b q d R x=>?_,λr g B i v b q d R rr x=>?_,λ_ _ _ _ z=>z.elim,λ_ _ _ _ z=>z.elim⟩⟩
 .obtain⟨O,F,_⟩:=qz e d R x;exact f _ _ .non b q O yB F
 .obtain⟨O,F,eβ⟩:=qz e d R x;have l:=retK.ok q;exact f _ _ v b l.2 O (L9 d R x eβ rr l.1.at) F
end
structure FnM(P:aax)(w:World)(K:aae)(mg:Str->Option Ad)(base:aaZ)(x:Str)(k n:Nat)(sp:SpM):Prop where
 ex:∃(f:Addr) (fd:ab0) (ps:List Str),FnOk P w K mg base CX0 k f fd ps (spOf ⟨K,w⟩ n sp)/\mg x=some (.ref f)/\abM K (.ref f)=true/\Binds K fd ps []
 ar:∀as Kc,sp as Kc->as.length=n
structure DefM(K:aae)(mg:Str->Option Ad)(x:Str)(st:Stmt)(ps:List Str):Prop where
 ex:∃(f:Addr) (fd:ab0),Fun K x x st f fd/\mg x=some (.ref f)/\Binds K fd ps []
theorem YG{P:aax}{w:World}{K:aae}{base:aaZ}{k:Nat}(D:DefM K mg x st ps)(S:ai N ps (ab st))(j:ps.length=n)(p:N.length=nN)(d:n≤nN)(ar:∀as b,sp as b->as.length=n)
  (a:∀(c:Ad) (A:aa8) (outer:List Env) (s:GT) (H:Hp) (E:XK) (f:Addr),Room k (A.deeper (aef x (ab st) s.heap.objs.size f c)) ->
   ∃e,MSs (cxOf CX0 P w K mg base N x (ab st) f c A outer s H E).nox (bO st) e/\∀as b,as.length=n->sp as b->e {nx:=λm=>b (.imm .none) (m.os.take m.np),rt:=λr m=>retK b m r} (fq nN as)) :
  FnM P w K mg base x (k+1) n sp:=by
 let⟨f,fd,F,o,l⟩:=D.ex;refine⟨⟨f,fd,ps,F.ok S (λvs H Q E h=>by rw[j];exact h.len) (λc A outer s H vs Q E i h=>?_),o,F.kp,l⟩,ar⟩;let⟨e,g,q⟩:=a c A outer s H E f i;exact⟨_,g,fn_m rfl h p d q⟩
section
variable {X:Cx}{a:Expr}{e:List Expr}{w:WA}{pos p:Pos}{k n:Nat}{sp:SpM}{x:Str}
theorem IM(F:FnM X.prog X.w X.K X.mg X.base x k n sp)(l:Room k X.A)(i:MA X (a::e) w)(j:Gl X x:=by rfl)(b:(x=='g')=false:=by decide)(c:aab (a::e) X.env=(false,eval a X.env)::aab e X.env:=by first|exact aF rfl|rfl)(h:(abn pos (aab e X.env)).any (·.1)=false:=by rfl) :
  ME X (.Call (.Name x p) (a::e) [] pos) (BM sp w):=by
 let⟨f,fd,m,G,d,hk,g⟩:=F.ex;exact QL G l j d hk g II F.ar i b c h
def dG:aaU "len" = some (.builtin "len"):=by rfl
def xh:aaU "sum" = some (.builtin "sum"):=by rfl
def ul:aaU "max" = some (.builtin "max"):=by rfl
def Sv:aaU "min" = some (.builtin "min"):=by rfl
def q9:aaU "isinstance" = some (.builtin "isinstance"):=by rfl
def Mx:aaU "list" = some (.type "list"):=by rfl
def gg:aaU "tuple" = some (.type "tuple"):=by rfl
def w5:aaU "int" = some (.type "int"):=by rfl
def LC:aaU "bool" = some (.type "bool"):=by ext K
def u5:aaU "enumerate" = some (.type "enumerate"):=by rfl
end
section
variable {m:MSt}{K:R->MSt->Prop}{v:Bool->MSt->Prop}{z:List R->MSt->Prop}{f:R->Prop}{D:f7}{q s C t E F:WE}{l:WA}{p G:WT}{w u:WS}{o:WO}{d:aD}{r r1 r2:R}{i j:Int}{k:Nat}
theorem y9(h:w {D with nx:=λa=>u D a } m):wSeq w u D m:=h
def Oz(e:m.vs[n]?=some (some r))(h:K r m):wVar n m K:=⟨r,e,h⟩
def Xp(h:p m λc a=>if c=true then w D a else u D a):wIfS p w u D m:=h
def MR(h:p m λc a=>if c=true then q a K else s a K):wIfE p q s m K:=h
def x6{P:Bool->Prop}{b:Bool}(h:P b):onBl P (.imm (.bool b)):=h
theorem jL(h:A):if true=true then A else B:=by simp_all
theorem jG(h:B):if false=true then A else B:=by simp_all
theorem bi{c:Prop}[Decidable c](h:c->A)(a:¬c->B):if decide c=true then A else B:=by simp_all
def Yk(h:f (.imm (.int (-i)))):uNeg (.imm (.int i)) m f:=h
def X9{rs:List R}{P:List aD->Prop}(e:i7 rs=some ds)(a:ds.length≤aak)(h:P ds):Re P (i7 rs):=by rw[e];exact⟨a,h⟩
def TZ(h:l m λrs m1=>match jl m1 rs with|some (as,ks)=>ks.Nodup/\sp as λr a=>K (mapR ks r) {m1 with os:=cR m1.os ks a}|none=>False):BM sp l m K:=h
def YA{rs:List R}{P:List Ag->List Nat->Prop}(e:jl m rs=some (as,ks))(a:ks.Nodup)(h:P as ks):match jl m rs with|some (as,ks)=>ks.Nodup/\P as ks|none=>False:=by rw[e];exact⟨a,h⟩
def Uj(h:t m λr a=>tZ n D.nx a r):wSet n t D m:=h
def oi{P:MSt->Prop}(h:P (m.setV n (.imm d))):tZ n P m (.imm d):=.inl h
theorem eF{P:MSt->Prop}(h:P {vs:=m.vs.set n (some (.obj m.os.length)),os:=m.os++[ds],np:=m.np}):tZ n P m (.new ds):=.inl (.inl h)
def Xu{a:Nat}(h:l m λrs b=>match rs with|[.imm d1,.imm d2]=>D.nx ((b.setV n (.imm d1)).setV a (.imm d2))|_=>False):wPar n a l D m:=h
def x_ls{P:Prop}(e:lsOf m r=some ds)(h:P):(∃ds,lsOf m r=some ds)/\P:=⟨⟨ds,e⟩,h⟩
theorem Ja(e:m.os[k]?=some ds)(a:ds.length<aak)(h:K (.imm .none) {m with os:=m.os.set k (ds++[d])}):CF (.obj k) [.imm d] m K:=⟨ds,e,a,h⟩
def VY(h:f (.imm (.int (i+j)))):oAdd (.imm (.int i)) (.imm (.int j)) m f:=h
def k8{a:List aD}(c:a.length+b.length≤aak)(h:f (.imm (.tuple (a++b)))):oAdd (.imm (.tuple a)) (.imm (.tuple b)) m f:=⟨c,h⟩
def BP{a:List aD}(c:a.length+b.length≤aak)(h:f (.new (a++b))):oAdd (.new a) (.new b) m f:=⟨a,b,rfl,rfl,c,h⟩
def LS{a:List aD}(e:m.os[k]?=some a)(c:a.length+b.length≤aak)(h:f (.new (a++b))):oAdd (.obj k) (.new b) m f:=⟨a,b,e,rfl,c,h⟩
def T5(h:f (.imm (.int (i-j)))):oSub (.imm (.int i)) (.imm (.int j)) m f:=⟨trivial,h⟩
def Xo(hc:CFd i j)(h:f (.imm (.int (i/j)))):Ug (.imm (.int i)) (.imm (.int j)) m f:=⟨hc,h⟩
def Nw(hc:0<j)(h:f (.imm (.int (i%j)))):oMod (.imm (.int i)) (.imm (.int j)) m f:=⟨hc,h⟩
def Xy(hc:CPow i j)(h:f (.imm (.int (i^j.toNat)))):oPow (.imm (.int i)) (.imm (.int j)) m f:=⟨hc,h⟩
def x_lt(h:f (.imm (.bool (decide (i<j))))):oLt (.imm (.int i)) (.imm (.int j)) m f:=h
def x_le(h:f (.imm (.bool (decide (i≤j))))):oLe (.imm (.int i)) (.imm (.int j)) m f:=h
def x_gt(h:f (.imm (.bool (decide (j<i))))):oGt (.imm (.int i)) (.imm (.int j)) m f:=h
def x_ge(h:f (.imm (.bool (decide (j≤i))))):oGe (.imm (.int i)) (.imm (.int j)) m f:=h
def x_eq{d1 d2:aD}(e:asD m r1=some d1)(a:asD m r2=some d2)(s1:act d1=true)(s2:act d2=true)(h:f (.imm (.bool (aad d1 d2)))):oEq r1 r2 m f:=by refine afA ?_;unfold eqD;rw[e,a];exact⟨s1,s2,h⟩
def x_ne{d1 d2:aD}(e:asD m r1=some d1)(a:asD m r2=some d2)(s1:act d1=true)(s2:act d2=true)(h:f (.imm (.bool (!aad d1 d2)))):oNe r1 r2 m f:=by refine afA ?_;unfold eqD;rw[e,a];exact⟨s1,s2,h⟩
theorem Y7(h:f (.imm (.bool (decide (i=j))))):oEq (.imm (.int i)) (.imm (.int j)) m f:=x_eq rfl rfl rfl rfl ‹_›
def Yv(h:f (.imm (.bool (decide (i≠j))))):oNe (.imm (.int i)) (.imm (.int j)) m f:=x_ne rfl rfl rfl rfl (by simp[aad];rw[adg,<-decide_not];exact h)
def Ym(h:f (.imm (.bool (decide (x=y))))):oEq (.imm (.str x)) (.imm (.str y)) m f:=aei (afA ⟨x,y,rfl,rfl,h⟩)
def IE(h:f (.imm (.bool (!isNone r)))):FZ r (.imm .none) m f:=⟨rfl,h⟩
def aY(e:atI ds i=some d)(h:f (.imm d)):oo (.imm (.tuple ds)) (.imm (.int i)) m f:=⟨d,e,h⟩
def zH(e:atI ds i=some d)(h:f (.imm d)):oo (.imm (.list ds)) (.imm (.int i)) m f:=⟨ds,d,rfl,e,h⟩
def FV(a:m.os[k]?=some ds)(e:atI ds i=some d)(h:f (.imm d)):oo (.obj k) (.imm (.int i)) m f:=⟨ds,d,a,e,h⟩
def qK(e:atI ds i=some d)(h:f (.imm d)):oo (.new ds) (.imm (.int i)) m f:=⟨ds,d,rfl,e,h⟩
def T9(h:f (.imm (.int ds.length))):lenR m f (.imm (.tuple ds)):=h
def Sw(h:f (.imm (.int ds.length))):lenR m f (.imm (.list ds)):=⟨ds,rfl,h⟩
def UG(e:m.os[k]?=some ds)(h:f (.imm (.int ds.length))):lenR m f (.obj k):=⟨ds,e,h⟩
def SW(h:f (.imm (.int ds.length))):lenR m f (.new ds):=⟨ds,rfl,h⟩
def W5(e:sqOf m r=some ds)(h:f (.new ds)):Ux [r] m f:=⟨ds,e,h⟩
def OA(e:sqOf m r=some ds)(h:f (.imm (.tuple ds))):Kq [r] m f:=⟨ds,e,h⟩
def x_gM{P:MSt->Prop}(h:P (m.setV n (.imm d))):gM n d m P:=h
def DH{P:MSt->Prop}(h:P m):PH [] m P:=⟨rfl,h⟩
def mx{P:MSt->Prop}(h:g d m λa=>gs ds a P):Bh g gs (d::ds) m P:=h
def Wn{P:MSt->Prop}(e:ds.length=n)(h:gs ds m P):Qx n gs (.tuple ds) m P:=⟨e,h⟩
def UK(h:Ks ⟨ds,none⟩ m):srcR m Ks (.imm (.list ds)):=h
def Vc(h:Ks ⟨ds,none⟩ m):srcR m Ks (.imm (.tuple ds)):=h
def VZ(e:m.os[k]?=some ds)(h:Ks ⟨ds,some (k,ds)⟩ m):srcR m Ks (.obj k):=⟨ds,e,h⟩
end
def ah{D:f7}{m:MSt}(a:MSt)(e:m=a)(h:w D a):w D m:=e▸h
theorem Yd{i j:Int}(h:(-18446744073709551616<i/\i<18446744073709551616)\/(-18446744073709551616<j/\j<18446744073709551616)):ag8 i j:=CMul.ok ‹_›
theorem cfd{i j:Int}(h:0<j)(a:j<1152921504606846976):CFd i j:=⟨h,by
 have:j.natAbs<2^60:=by omega
 have:=(Nat.log2_lt ∅).mpr this;omega⟩
theorem mI:∀ns:List Int,abx (ns.map .int)=true
 |[]=>rfl
 |n::ns=>by simp[ abx,ae8,mI ns]
theorem qk:∀ns:List Int,aaB (ns.map .int)≤1
 |[]=>abB 1
 |n::ns=>by
  have:=qk ns;simp[aaB,PyData.depth];omega
theorem vA(ns:List Int):act (.list (ns.map .int))=true:=by
 have h:=qk ns;have a:(aea (ns.map .int)).depth≤64:=by simp only[PyData.depth];omega
 have b:(aea (ns.map .int)).canLay0=true:=by simp only[ae8,mI]
 unfold act;rw[b,decide_eq_true a];rfl
theorem J1{a:Type}{xs:List a}{i:Int}(b:0≤i)(c:i<xs.length):∃d,xs[i.toNat]?=some d/\atI xs i=some d:=by
 have h:i.toNat<xs.length:=by omega
 refine⟨xs[i.toNat],lD h,?_⟩;unfold atI ixN
 simp_all
theorem IG{i:Int}(a:0≤i)(b:i<ns.length):∃x:Int,atI (ns.map abj) i=some (.int x):=by
 let⟨d,e,h⟩:=J1 (xs:=ns.map abj) a (by simp_all);rw[aah]at e
 cases q:ns[i.toNat]? with
 |none=>rw[q]at e;cases e
 |some x=>rw[q]at e;cases e;exact⟨x,h⟩
section
variable {X:Cx}{tg a b c e:Expr}{j:List Expr}{l y A B w C:WE}{D:WA}{pos p g:Pos}
def fc:List aD->Option (List Int)
 |[]=>some []
 | .int i::ds=>(fc ds).map (i :: ·)
 |_::_=>none
theorem j9(h:fc ds=some ns):ds=ns.map .int:=by
 induction ds generalizing ns with
 |nil=>cases h;rfl
 | cons d ds f=>
  cases d with
  |int i=>
   simp only[fc]at h
   cases q:fc ds with
   |none=>rw[q]at h;cases h
   |some m=>rw[q]at h;cases h;rw[f q];rfl
  |none=>cases h
  |bool _=>cases h
  |str _=>cases h
  |list _=>cases h
  |tuple _=>cases h
  |dict _=>cases h
theorem gh:∀ns:List Int,fc (ns.map .int)=some ns
 |[]=>rfl
 |n::ns=>by simp[ fc,gh ns]
theorem gm{K:Kd}{H:Hp}:∀{ns:List Int}{xs:List V},DenAll K H (ns.map .int) xs->xs=ns.map V.int
 |[],_,h=>by simpa only[ DenAll]
 |n::ns,_,h=>by
  let⟨v,vs,rfl,d,f⟩:=h;have e:=aB d;rw[e,gm f];rfl
def tyN:aD->String
 | .none=> "NoneType"
 | .bool _=> "bool"
 | .int _=> "int"
 | .str _=> "str"
 | .list _=> "list"
 | .tuple _=> "tuple"
 | .dict _=> "dict"
def tyR:R->String
 | .imm d=>tyN d
 |_=> "list"
def ndR:R->Bool
 | .imm (.dict _)=>false
 | .at _ _=>false
 | .newT _=>false
 |_=>true
def IsT(T:String)(f:String->Bool):Prop:=∀(K:aae) (n:String),n∈["NoneType","bool","int","str","list","tuple"]->PySem.W.kitOne K (.type n) (.type T)=some (f n)
def Bg(h:∀n∈["NoneType","bool","int","str","list","tuple"],(if ((ac2 n)==(ac2 T))=true then some true else if PySem.W.kitMeta T=true then(fastBuiltinMro n).map (·.contains (.type T))else none)=some (f n)):IsT T f:=λK n d=>by
 have:=h n d;exact this
def fInt(n:String):Bool:=n == "int" ||n == "bool"
def OG:IsT "int" fInt:=Bg (by ext K)
def IW:IsT "bool" (λn=>n == "bool"):=Bg (by ext K)
def uo:IsT "tuple" (λn=>n == "tuple"):=Bg (by ext K)
def rIsI(K:Kx)(T:String)(f:String->Bool):List V->Hp->VK->Prop:=λx H Q=>∃d m i h r v,Rel K d m i H/\RelR K d h H r v/\ndR r=true/\x=[v,.ty T]/\Q (.bl (f (tyR r))) H
theorem JP(K:IsT T f):fh X (.builtin "isinstance") (rIsI X.kx T f):=by
 intro i s L H xs us Q I rv ⟨α,m,σ,H0,r,v,S,h,E,ex,q⟩;subst ex;let⟨u,c,rfl,G,Z⟩:=rv.two
 cases (show c=ac2 T from Z)
 have done:∀O,EP X i L Q (.bool (f (tyR r))) {s with toks:=O}:=λO=>⟨.bl _,H,I.tok O,rfl,q⟩;have lst:∀{a:Addr}{J:List V},v = .ref a->SqL X.kx H a J->tyR r = "list" -> wpAny (model X.prog X.w) X.A (call (.builtin "isinstance") [u,.type T]) (EP X i L Q) X.xe s:=λ{a J} Y M et=>by
  subst Y
  cases (show u=abk a from G)
  let⟨N,_,⟨o,n,F,P,_⟩,_⟩:=I.list M;exact adb PySem.W.kitx_list I.kIn ⟨o,F,P⟩ (by rw[et];exact K X.K "list" ⋯) (λz=>nomatch z) done
 cases r with
 |obj k=>
  have W:=h;let⟨a,U,rfl⟩:=W;have hk:k<m.os.length:=by rw[<-S.len];exact(AD.mp U).1
  let⟨J,F,_⟩:=S.own k _ _ U (lD hk);exact lst rfl (SqL.of F) rfl
 |new ds=>let⟨a,J,rfl,_,F,_⟩:=h;exact lst rfl (SqL.of F) rfl
 | «at» _ _=>cases E
 |newT _=>cases E
 | imm d=>
  cases d with
  |none=>have e:=kJ (show Den X.kx H .none v from h);subst e;cases (show u=afX from G);exact adb PySem.W.kitx_none I.kIn acB (K X.K "NoneType" ⋯) (λz=>nomatch z) done
  |bool x=>have e:=jC (show Den X.kx H (.bool x) v from h);subst e;cases (show u=ahF x from G);exact adb PySem.W.kitx_bool I.kIn acB (K X.K "bool" ⋯) (λz=>nomatch z) done
  |int x=>have e:=aB (show Den X.kx H (.int x) v from h);subst e;let⟨t,q⟩:=(show ∃t,u=agD x t from G);cases q;exact adb PySem.W.kitx_int I.kIn acB (K X.K "int" ⋯) (λz=>nomatch z) done
  |str x=>have e:=bp (show Den X.kx H (.str x) v from h);subst e;let⟨t,q⟩:=(show ∃t,u=ahN x t from G);cases q;exact adb PySem.W.kitx_str I.kIn acB (K X.K "str" ⋯) (λz=>nomatch z) done
  |list ds=>
   have R:Den X.kx H (.list ds) v:=h;simp only[Den]at R;let⟨a,J,e,M,_⟩:=R;exact lst e M.sq rfl
  |tuple ds=>
   let⟨a,J,rfl,M,_⟩:=b6 (show Den X.kx H (.tuple ds) v from h)
   cases (show u=abk a from G)
   let⟨N,_,⟨o,F,P,_⟩,_⟩:=I.tuple M;exact adb PySem.W.kitx_tuple I.kIn ⟨o,F,P⟩ (K X.K "tuple" ⋯) (λz=>nomatch z) done
  |dict j=>cases E
abbrev wIsT(f:String->Bool)(w:WE):WE:=λm K=>w m λr d=>ndR r=true/\K (.imm (.bool (f (tyR r)))) d
theorem Su(E:ME X e w)(O:IsT T f)(s:X.mg "isinstance" = none)(I:X.mg x=none)(z:aaU x=some (.type T))(i:Gl X "isinstance":=by rfl)(L:Gl X x:=by rfl)(M:x ≠ "__name__":=by decide)(hd:(x=='g')=false:=by decide)
  (h:aab [e,.Name x g] X.env=(false,eval e X.env)::aab [.Name x g] X.env:=by rfl) (o:aab [.Name x g] X.env=(false,eval (.Name x g) X.env)::aab [] X.env:=by rfl) (q:(abn pos (aab [.Name x g] X.env)).any (·.1)=false:=by rfl) :
  ME X (.Call (.Name "isinstance" p) [e,.Name x g] [] pos) (wIsT f w):=(xr (JP O) i s q9 (v5 E (v5 (Mq L I z (v:=.ty T) rfl M hd) JY o) h) ⋯ rfl h q).wk<|by intro K H Q ⟨t,m,P,N,G,d⟩;exact
 ⟨t,m,_,N,G,λr u v J k n R rr F=>⟨t,u,K,H,r,v,R,rr,k.1,rfl,d _ u _ J k.2 n R (lG _) F⟩⟩
def x_nd{P:Prop}(e:ndR r=true)(h:P):ndR r=true/\P:=⟨e,h⟩
end
theorem fv{D:f7}(P:Nat->MSt->Prop)(p0:P 0 m1)
  (step:∀(i:Nat) (d:aD) (m:MSt),ds[i]?=some d->m.np=m1.np->P i m->g d m λm2=>w {nx:=P (i+1),ct:=P (i+1),bk:=λh=>D.nx (h.setN m1.np),rt:=λr h=>D.rt r (h.setN m1.np)} m2)
  (f:∀m,m.np=m1.np->P ds.length m->D.nx m):qJ ⟨ds,none⟩ g w D m1:=by
 refine⟨P,p0,λi d m e n p=>⟨trivial,step i d m e n p⟩,λm n p=>⟨trivial,?_⟩⟩;have e:m.setN m1.np=m:=by
  let⟨a,b,c⟩:=m;have j:c=m1.np:=n;subst j;rfl
 rw[e];exact f m n p
theorem qT{k:Nat}{a:List aD}{D:f7}(P:Nat->MSt->Prop)(p0:P 0 (m1.setN (max m1.np (k+1))))
  (ok:∀i m,P i m->m.os[k]?=some a)
  (step:∀(i:Nat) (d:aD) (m:MSt),ds[i]?=some d->m.np=max m1.np (k+1)->P i m->g d m λm2=>w {nx:=P (i+1),ct:=P (i+1),bk:=λb=>D.nx (b.setN m1.np),rt:=λr b=>D.rt r (b.setN m1.np)} m2)
  (f:∀m,m.np=max m1.np (k+1)->P ds.length m->D.nx (m.setN m1.np)):qJ ⟨ds,some (k,a)⟩ g w D m1:=
 ⟨P,p0,λi d m e n p=>⟨ok i m p,step i d m e n p⟩,λm n p=>⟨ok _ m p,f m n p⟩⟩
theorem kB{t:WT}{D:f7}{b:MSt}(P:Nat->MSt->Prop)(d:Nat)(p0:P d b)
  (step:∀n m,m.np=b.np->P n m->t m λc e=>if c=true then w {D with nx:=λm2=>∃a,a<n/\P a m2,ct:=λm2=>∃a,a<n/\P a m2,bk:=D.nx} e else D.nx e):DT t w D b:=⟨P,⟨d,p0⟩,step⟩
def JE(h:ds.length≤n):cutD ds none (some (n:Int))=ds:=by
 unfold cutD;rw[HT.sIx_none,HT.sIx_nat,Nat.min_eq_right h,Nat.sub_zero,List.drop_zero,aaE]
theorem QT{k:Nat}(h:k<n):ixN n (k:Int)=some k:=by
 unfold ixN;rw[if_pos ∅,if_pos ∅];simp
theorem yJ{k:Nat}{P:MSt->Prop}{m:MSt}(b:m.vs[n]?=some (some (.obj k)))(c:m.np≤k)(a:∀j:Nat,j≠n->m.vs[j]?≠some (some (.obj k)))(h:P {m with os:=m.os.set k ds}):tZ n P m (.new ds):=.inr ⟨k,b,c,a,h⟩
theorem bH{a:Type}{xs:List a}{k:Nat}{d x:a}(h:xs[k]?=some x):xs.getD k d=x:=by simp_all
def x_J{w:WE}{m:MSt}{K:R->MSt->Prop}(c:R->MSt->Prop)(h:∀b:R->MSt->Prop,(∀r a,c r a->b r a)->w m b)(J:∀r a,c r a->K r a):w m K:=h K J
def x_JT{w:WT}{m:MSt}{K:Bool->MSt->Prop}(c:Bool->MSt->Prop)(h:∀b:Bool->MSt->Prop,(∀r a,c r a->b r a)->w m b)(J:∀r a,c r a->K r a):w m K:=h K J
theorem x_JS{m:MSt}{D:f7}(b:MSt->Prop)(h:∀N:MSt->Prop,(∀a,b a->N a)->w {D with nx:=N} m)(J:∀a,b a->D.nx a):w D m:=h D.nx J
structure Shp(k:Nat)(d:aD):Prop where
 cl:d.canLay0=true
 dp:d.depth≤k
def Shp.mono{k k':Nat}{d:aD}(h:Shp k d)(hk:k≤k'):Shp k' d:=⟨h.cl,aaA h.dp hk⟩
def Shp.ok{k:Nat}{d:aD}(h:Shp k d)(hk:k≤64):act d=true:=by
 unfold act;rw[h.cl,decide_eq_true (aaA h.dp hk)];rfl
def cp(i:Int):Shp 0 (.int i):=⟨rfl,aaa _⟩
theorem kg{k:Nat}:∀{ds:List aD},(∀d∈ds,Shp k d)->abx ds=true/\aaB ds≤k
 |[],_=>⟨rfl,by simp[aaB]⟩
 |d::ds,h=>by
  let⟨c,f⟩:=kg λe b=>h e (aai _ b);have a:=h d aan;refine⟨?_,?_⟩
  .simp only[abx];rw[a.cl,c];rfl
  .show max d.depth _≤k;have:=a.dp;omega
theorem bc{k:Nat}(h:∀d∈ds,Shp k d):Shp (k+1) (.tuple ds):=by
 let⟨a,b⟩:=kg h;exact⟨by simp[ae8];exact a,by show aaB ds+1≤_;omega⟩
theorem Gg{k:Nat}(h:∀d∈ds,Shp k d):Shp (k+1) (.list ds):=by
 let⟨a,b⟩:=kg h;exact⟨by simp only[ae8];exact a,by show aaB ds+1≤_;omega⟩
theorem yZ(b:Only H)(h:SqL K H a (ns.map V.int)):Den K H (.list (ns.map .int)) (.ref a):=by
 refine⟨a,_,rfl,?_,DenAll.ints _⟩;rcases h with(h|⟨o,h⟩)|h
 .rcases b a with z|_
  .grind
  .grind
 .exact .inl ⟨o,h⟩
 .exact .inr h
theorem Tq{P:aax}{w:World}{K:aae}{base:aaZ}{k:Nat}{f:Addr}(F:Fun K x x st f fd)(S:ai N ps (ab st))(j:ps.length=n)(l:N.length=nN)(b:n≤nN)
  (a:∀(c:Ad) (A:aa8) (outer:List Env) (s:GT) (H:Hp) (E:XK) (f:Addr),Room k (A.deeper (aef x (ab st) s.heap.objs.size f c)) ->
   ∃d,MSs (cxOf CX0 P w K mg base N x (ab st) f c A outer s H E).nox (bO st) d/\∀as e,as.length=n->sp as e->d {nx:=λm=>e (.imm .none) (m.os.take m.np),rt:=λr m=>retK e m r} (fq nN as)) :
  FnOk P w K mg base CX0 (k+1) f fd ps (spOf ⟨K,w⟩ n sp):=by
 refine F.ok S (λvs H Q E h=>by rw[j];exact h.len) (λc A outer s H vs Q E i h=>?_);let⟨d,g,o⟩:=a c A outer s H E f i;exact⟨_,g,fn_m rfl h l b o⟩
structure DefK(K:aae)(x:Str)(st:Stmt):Prop where
 ex:∃(f:Addr) (fd:ab0),aaN K aaw x=some (some (.ref f))/\Fun K x x st f fd
def DefK.of{K:aae}{f:Addr}{o kV d pm b ct:Ad}{an:Option Addr}{sl:Array (Option Ad)}(a:aaN K aaw x=some (some (.ref f)))
  (l:K.lookup f=some ⟨o,od,.func (abm x x (cB st) (bO st) (ab st) .none kV d pm an b ct),sl⟩) (c:adt K b x=true) (k:abM K (.ref f)=true):DefK K x st:=⟨f,_,a,tq l c k⟩
theorem DefK.m{K:aae}{h:aaZ}(D:DefK K x st)(X:K.In h)(G:h.Ns aaw mg)(b:∀(f:Addr) (fd:ab0),Fun K x x st f fd->Binds K fd ps []):DefM K mg x st ps:=by
 let⟨f,fd,a,F⟩:=D.ex;exact⟨f,fd,F,agU X G a,b f fd F⟩
structure EE(X:Cx)(e:Expr)(w:WE):Prop where
 h:ME X e w
structure ET(X:Cx)(e:Expr)(w:WT):Prop where
 h:MT X e w
structure EW(X:Cx)(e:Expr)(w:WT):Prop where
 h:MW X e w
structure EA(X:Cx)(es:List Expr)(w:WA):Prop where
 h:MA X es w
structure ES(X:Cx)(st:Stmt)(w:WS):Prop where
 h:MS X st w
structure ESs(X:Cx)(st:List Stmt)(w:WS):Prop where
 h:MSs X st w
structure EI(X:Cx)(tg e:Expr)(w:WI):Prop where
 h:MI X tg e w
structure EG(X:Cx)(t:Expr)(w:WG):Prop where
 h:MG X t w
structure EGs(X:Cx)(ts:List Expr)(w:WGs):Prop where
 h:MGs X ts w
structure EO(X:Cx)(e:Option Expr)(w:WO1):Prop where
 h:MO X e w
structure ETs(X:Cx)(ifs:List Expr)(w:WT):Prop where
 h:PTs X ifs (tMT X.kx w)
def EW.pt{w:WT}(h:EW X e w):ET X e w:=⟨h.h.pt⟩
section
variable {X:Cx}{a b c:Expr}{e:List Expr}{w d f:WE}{pos:Pos}
def mh'{i j pos}:EE X (.Constant (.int i) j pos) (wC (.int i)):=⟨V3⟩
def cQ{i j pos}:EE X (.Constant (.bool i) j pos) (wC (.bool i)):=⟨Yj⟩
def ak{i j pos}:EE X (.Constant (.str i) j pos) (wC (.str i)):=⟨UY⟩
def jR{j pos}:EE X (.Constant .none j pos) (wC .none):=⟨WQ⟩
theorem mv'(i:Nat){pos:Pos}(j:X.N[i]?=some x:=by rfl)(g:Vis X.env.scope x:=by first|exact afA rfl|exact aei (afA rfl)|exact aei (aei rfl))(hd:(x=='g')=false:=by decide)(h:(x==("__classdict__" : Str))=false:=by decide):EE X (.Name x pos) (wVar i):=⟨mv i j g hd h⟩
def ag{op:ae3}(h:OpR X (ach op) (rM X.kx o))(i:EE X a w)(g:EE X b d):EE X (.BinOp a op b pos) (wBin o w d):=⟨Uu h i.h g.h⟩
def dB(h:OpR X (aa0 op) (rM X.kx o))(j:EE X a w)(g:EE X b d)(i:acO op b=false):EE X (.Compare a [op] [b] pos) (wBin o w d):=⟨V5 h j.h g.h i⟩
def ay(h:OpR X (aa0 op) (rM X.kx o))(j:EE X a w)(g:EE X b d)(i:acO op b=false):ET X (.Compare a [op] [b] pos) (zQ (wBin o w d)):=⟨WD h j.h g.h i⟩
def bw(i:EE X a w)(h:∀g,isTrue a X.env g=(do let v <- g;acL a.pos;adX [v] (truthy v)):=by intro _;rfl):ET X a (zQ w):=⟨R9 i.h h⟩
end
section
variable {X:Cx}{a b c:Expr}{f:List Expr}{w d e:WE}{pos:Pos}
theorem AA{g:CmpOp}(i:OpR X (aa0 op) (rM X.kx o))(h:OpR X (aa0 g) (rM X.kx o'))(j:EE X a w)(k:EE X b d)(hc:EE X c e)(l:lastMarks [op,g] [b,c]=false:=by with_unfolding_all rfl):EE X (.Compare a [op,g] [b,c] pos) (CZ o o' w d e):=⟨Jm i h j.h k.h hc.h l⟩
end
section
variable {X:Cx}{a b c:Expr}{g:List Expr}{w e i:WE}{pos:Pos}
variable {d f:WT}{rest:List Expr}
def ir(h:ET X a d):EW X (.BoolOp .And [a] pos) d:=⟨Qb h.h⟩
def ij(h:ET X a d):EW X (.BoolOp .Or [a] pos) d:=⟨Tz h.h⟩
def ji(j:ET X a d)(h:EW X (.BoolOp .And (b::rest) pos) f):EW X (.BoolOp .And (a::b::rest) pos) (wAnd d f):=⟨UL j.h h.h⟩
def jc(j:ET X a d)(h:EW X (.BoolOp .Or (b::rest) pos) f):EW X (.BoolOp .Or (a::b::rest) pos) (wOr d f):=⟨Yz j.h h.h⟩
def cA(h:ET X a d):ET X (.UnaryOp .Not a pos) (wNot d):=⟨VG h.h⟩
def kz{op}(h:EE X a w):EE X (.BoolOp op [a] pos) w:=⟨Sj h.h⟩
def jQ(j:EE X a w)(h:EE X (.BoolOp .And (b::rest) pos) e):EE X (.BoolOp .And (a::b::rest) pos) (Sk w e):=⟨TU j.h h.h⟩
def QK(h:EE X a w):EE X (.UnaryOp .Not a pos) (U7 w):=⟨TJ h.h⟩
def Ah(h:ET X t d)(k:EE X a w)(j:EE X b e):EE X (.IfExp t a b pos) (wIfE d w e):=⟨YK h.h k.h j.h⟩
def p9{op:UnaryOp}{o:WU}(h:UnR X (unaryOp op) (uM X.kx o))(j:EE X a w):EE X (.UnaryOp op a pos) (wUn o w):=⟨Yi h j.h⟩
def dg(h:EE X a w):EE X a (wImm w):=⟨Vy h.h⟩
end
section
variable {X:Cx}{a b c:Expr}{e:List Expr}{d f g:WE}{pos:Pos}
variable {i j:WT}{rest:List Expr}
variable {w:WA}
def mn'  : EA X [] wNil:=⟨VF⟩
def mc'(k:EE X a d)(l:EA X e w)(h:aab (a::e) X.env=(false,eval a X.env)::aab e X.env:=by first|exact aF rfl|rfl):EA X (a::e) (Uv d w):=⟨Qc k.h l.h h⟩
def am{x1}(h:EA X e w):EE X (.Tuple e x1 pos) (wTup w):=⟨Uy h.h⟩
def cb(h:EA X e w):EE X (.List e pos) (wLst w):=⟨Uh h.h⟩
theorem aE{id:String}{o:WC}(hc:fh X (.builtin id) (cM X.kx o))(q:Gl X x)(r:X.mg x=none)(n:aaU x=some (.builtin id))(m:EA X (a::e) w)(s:x ≠ "__name__":=by decide)(k:(x=='g')=false:=by decide)(l:aab (a::e) X.env=(false,eval a X.env)::aab e X.env:=by first|exact aF rfl|rfl)(h:(abn pos (aab e X.env)).any (·.1)=false:=by rfl):EE X (.Call (.Name x p) (a::e) [] pos) (wCB o w):=⟨Iq hc q r n m.h s k l h⟩
theorem cu{o:WC}(hc:fh X (.type T) (cM X.kx o))(q:Gl X x)(r:X.mg x=none)(n:aaU x=some (.type T))(m:EA X (a::e) w)(s:x ≠ "__name__":=by decide)(k:(x=='g')=false:=by decide)(l:aab (a::e) X.env=(false,eval a X.env)::aab e X.env:=by first|exact aF rfl|rfl)(h:(abn pos (aab e X.env)).any (·.1)=false:=by rfl):EE X (.Call (.Name x p) (a::e) [] pos) (wCB o w):=⟨AM hc q r n m.h s k l h⟩
end
section
variable {X:Cx}{a b c e:Expr}{d:List Expr}{f g h i:WE}{pos:Pos}{st:Stmt}{rest:List Stmt}{w u:WS}
def aq  : ESs X [] UE:=⟨QJ⟩
def mz'(j:ES X st w)(k:ESs X rest u):ESs X (st::rest) (wSeq w u):=⟨GH j.h k.h⟩
def aa(j:ES X st w):ESs X [st] w:=⟨O9 j.h⟩
end
section
variable {X:Cx}{a b c e:Expr}{f:List Expr}{q r s l:WE}{o:WA}{p:WT}{pos:Pos}{st:Stmt}{rest m d:List Stmt}{w u:WS}
def af(h:EE X e l):ES X (.Return (some e) pos) (wRet l):=⟨Tw h.h⟩
def dj(h:EE X e l)(g:abE e none pos.line X.env=pure false:=by rfl):ES X (.Expr e pos) (WN l):=⟨L6 h.h g⟩
def aI(g:ET X t p)(h:ESs X m w)(i:ESs X d u):ES X (.If t m d pos) (wIfS p w u):=⟨Yt g.h h.h i.h⟩
def ic  : ES X st Kz:=⟨IQ⟩
theorem v7{g:Pos}(t:X.N.Nodup)(v:X.N[i]?=some x)(k:Loc X.env.scope x)(h:EE X e l)(j:abE e (some (.Name x g)) pos.line X.env=pure false:=by rfl)(n:X.fn x=true\/X.env.scope.names.lookup x=some .local:=by first|exact .inl rfl|exact .inr rfl|assumption):ES X (.Assign [.Name x g] e pos) (wSet i l):=⟨Vo t v k h.h j n⟩
theorem mq(j:X.N.Nodup)(k:X.N[i]?=some x)(h:Loc X.env.scope x)(g:X.fn x=true\/X.env.scope.names.lookup x=some .local:=by first|exact .inl rfl|exact .inr rfl|assumption):EG X (.Name x pos) (gM i):=⟨Lr j k h g⟩
def aU  : EGs X [] PH:=⟨MD⟩
def ac{e:Expr}{f:List Expr}(i:EG X e g)(j:EGs X f gs)(h:(abV (e::f) X.env).map (·.2)=afx e X.env::(abV f X.env).map (·.2):=by rfl):EGs X (e::f) (Bh g gs):=⟨Ii i.h j.h h⟩
theorem bo{f:List Expr}{k:Nat}(h:EGs X f gs)(hc:X.calm=true:=by rfl)(i:(abV f X.env).length=n:=by rfl)(g:(abV f X.env).findIdx? (·.1)=none:=by rfl):EG X (.Tuple f k pos) (Qx n gs):=⟨VH h.h hc i g⟩
theorem cN(h:EE X e l)(n:EG X tg g)(i:adM [tg] e pos.line X.env=pure false:=by rfl)(j:adN [tg] e X.env=pure none:=by rfl)(k:(abV [tg] X.env).map (·.2)=[afx tg X.env]:=by rfl):ES X (.Assign [tg] e pos) (wAsg l g):=⟨SN h.h n.h i j k⟩
theorem kj{g k pt:Pos}{kt k2 pt2}(C:X.N.Nodup)(D:X.N[i]?=some x)(v:X.N[j]?=some y)(h:i≠j)(B:X.env.scope.names.lookup x=some .local)(t:X.env.scope.names.lookup y=some .local)(z:EA X [a,b] o)(n:adN [.Tuple [.Name x g,.Name y k] kt pt] (.Tuple [a,b] k2 pt2) X.env=pure (some [x,y]))(hc:X.calm=true:=by rfl)(A:adM [.Tuple [.Name x g,.Name y k] kt pt] (.Tuple [a,b] k2 pt2) pos.line X.env=pure false:=by rfl):ES X (.Assign [.Tuple [.Name x g,.Name y k] kt pt] (.Tuple [a,b] k2 pt2) pos) (wPar i j o):=⟨Vj C D v h B t z.h n hc A⟩
end
section
variable {X:Cx}{tg a b c e i:Expr}{l:List Expr}{m n o h:WE}{j:WA}{k:WT}{pos:Pos}{st:Stmt}{rest d f:List Stmt}{w u:WS}
def bV(g:EE X e h):EI X tg e (Uf h):=⟨U8 g.h⟩
theorem cw(g:Gl X "range")(q:X.mg "range" = none)(r:EA X [a] j)(s:aab [a] X.env=[(false,eval a X.env)]:=by first|exact c7 rfl|rfl):EI X tg (.Call (.Name "range" p) [a] [] pos) (KZ j):=⟨Fh g q r.h s⟩
theorem bU{p:WI}(v:EI X tg i p)(s:EG X tg g)(r:ESs X d w)(t:afL (model X.prog X.w) X.A X.env X.xe)(hc:X.calm=true:=by rfl)(q:∀x,aaT i X.env x=pure x:=by intro _;rfl):ES X (.For tg i d [] pos) (wFor p g w):=⟨UB v.h s.h r.h t hc q⟩
def fH(g:ET X t k)(p:ESs X d w)(q:afL (model X.prog X.w) X.A X.env X.xe):ES X (.While t d [] pos) (DT k w):=⟨JB g.h p.h q⟩
end
section
variable {X:Cx}{scope sc:Scope}{own fr:List Str}{ps:List Nat}{elt tg a f b:Expr}{ifs e:List Expr}{pos d p:Pos}{w k:WI}{g m:WG}{tt l:WT}{j:WE}
theorem cE(S:cr own fr scope sc)(t:EI X tg a w)(r:∀cl s H C ex,EG (aV X scope cl (own++fr) s H C ex) tg g)(q:∀cl s H C ex,ETs (aV X scope cl (own++fr) s H C ex) ifs tt)(n:∀cl s H C ex,EE (aV X scope cl (own++fr) s H C ex) elt j)(h:X.env.scope=sc:=by rfl)(c:ps.map (λi=>X.N[i]?)=fr.map some:=by rfl)(hc:X.calm=true:=by rfl)(o:∀x,aaT a X.env x=pure x:=by intro _;rfl):EE X (.ListComp elt [⟨tg,a,ifs,0⟩] scope pos) (ub w own ps g tt j):=⟨Jv S t.h (λcl s H C ex=>(r cl s H C ex).h) (λcl s H C ex=>(q cl s H C ex).h) (λcl s H C ex=>(n cl s H C ex).h) h c hc o⟩
def cZ  : ETs X [] zL:=⟨P9⟩
def qY{t:WT}(h:ET X c t):ETs X [c] t:=⟨Qz h.h⟩
theorem ue(S:cr own fr scope sc)(A:X.N.Nodup)(q:X.N[i]?=some y)(o:X.env.scope.names.lookup y=some .local)(u:EI X tg a w)(t:∀cl s H C ex,EG (aV X scope cl (own++fr) s H C ex) tg g)(z:∀cl s H C ex,ETs (aV X scope cl (own++fr) s H C ex) ifs tt)(v:∀cl s H C ex,EE (aV X scope cl (own++fr) s H C ex) elt j)(c:abE (.ListComp elt [⟨tg,a,ifs,0⟩] scope pos) (some (.Name y p)) d.line X.env=pure true:=by rfl)(h:X.env.scope=sc:=by rfl)(n:ps.map (λi=>X.N[i]?)=fr.map some:=by rfl)(hc:X.calm=true:=by rfl)(r:∀x,aaT a X.env x=pure x:=by intro _;rfl):ES X (.Assign [.Name y p] (.ListComp elt [⟨tg,a,ifs,0⟩] scope pos) d) (wSet i (ub w own ps g tt j)):=⟨F9 S A q o u.h (λcl s H C ex=>(t cl s H C ex).h) (λcl s H C ex=>(z cl s H C ex).h) (λcl s H C ex=>(v cl s H C ex).h) c h n hc r⟩
theorem DE(S:cr own fr scope sc)(E:X.N.Nodup)(u:X.N[i]?=some y)(t:X.env.scope.names.lookup y=some .local)(A:EI X tg a w)(z:∀cl s H C ex,EG (aV X scope cl (own++fr) s H C ex) tg g)(D:∀cl s H C ex,ETs (aV X scope cl (own++fr) s H C ex) ifs tt)(hi2:∀cl s H C ex,EI (aV X scope cl (own++fr) s H C ex) f b k)(o:∀cl s H C ex,EG (aV X scope cl (own++fr) s H C ex) f m)(r:∀cl s H C ex,ETs (aV X scope cl (own++fr) s H C ex) e l)(B:∀cl s H C ex,EE (aV X scope cl (own++fr) s H C ex) elt j)(c:abE (.ListComp elt [⟨tg,a,ifs,0⟩,⟨f,b,e,0⟩] scope pos) (some (.Name y p)) d.line X.env=pure true:=by rfl)(h:X.env.scope=sc:=by rfl)(n:ps.map (λi=>X.N[i]?)=fr.map some:=by rfl)(hc:X.calm=true:=by rfl)(v:∀x,aaT a X.env x=pure x:=by intro _;rfl)(q:∀cl C x,aaT b (agy scope cl C X.env) x=pure x:=by intro _ _ _;rfl):ES X (.Assign [.Name y p] (.ListComp elt [⟨tg,a,ifs,0⟩,⟨f,b,e,0⟩] scope pos) d) (wSet i (AI w own ps g tt k m l j)):=⟨JK S E u t A.h (λcl s H C ex=>(z cl s H C ex).h) (λcl s H C ex=>(D cl s H C ex).h) (λcl s H C ex=>(hi2 cl s H C ex).h) (λcl s H C ex=>(o cl s H C ex).h) (λcl s H C ex=>(r cl s H C ex).h) (λcl s H C ex=>(B cl s H C ex).h) c h n hc v q⟩
end
section
variable {X:Cx}
theorem ae{a b:Expr}{w c:WE}(h:EE X a w)(e:EE X b c)(d:oZ b:=by intro _ _;rfl):EE X (.Subscript a b pos) (wBin oo w c):=⟨Yy h.h e.h d⟩
end
section
variable {X:Cx}{o a b c e:Expr}{g:List Expr}{h j k l w m:WE}{i:WA}{pos f d:Pos}
theorem lr{name:Str}{id:String}{t:WM}(slot:Slot "list" name id)(s:typeOf (.builtin id)=pure (.type "method_descriptor"))(z:MtM X id (mM X.kx t))(u:EE X o h)(y:EA X (e::g) i)(q:abw o name X.env (eval o X.env)=eval o X.env:=by rfl)(r:((abn d (aab (e::g) X.env)).all (λx=>!x.1)&&(acW d (abX [] X.env)).all (λx=>x.1.isSome)
   && decide ((e::g).length+([]:List ac4).length+(if ([]:List ac4).isEmpty then 0 else 1)<30))=true:=by rfl) (p:(f.endLine==d.line)=true:=by rfl) (v:aab (e::g) X.env=(false,eval e X.env)::aab g X.env:=by first|exact aF rfl|rfl) (n:(abn d (aab g X.env)).any (·.1)=false:=by rfl):EE X (.Call (.Attribute o name f) (e::g) [] d) (wML t h i):=⟨XJ slot s z u.h y.h q r p v n⟩
def f9  : EO X none CI:=⟨Qe⟩
def dW(n:EE X e w):EO X (some e) (Ud w):=⟨QF n.h⟩
def dq{n wh:WO1}{q:Pos}(s:SlR X (sM X.kx ob))(p:EE X e w)(t:EO X lo n)(r:EO X hi wh):EE X (.Subscript e (.Slice lo hi none q) pos) (wSl ob w n wh):=⟨GJ s p.h t.h r.h⟩
end
section
variable {X:Cx}{a:Expr}{e:List Expr}{w:WA}{pos p:Pos}{k n:Nat}{sp:SpM}{x:Str}
theorem mf'(F:FnM X.prog X.w X.K X.mg X.base x k n sp)(g:Room k X.A)(d:EA X (a::e) w)(f:Gl X x:=by rfl)(b:(x=='g')=false:=by decide)(c:aab (a::e) X.env=(false,eval a X.env)::aab e X.env:=by first|exact aF rfl|rfl)(h:(abn pos (aab e X.env)).any (·.1)=false:=by rfl):EE X (.Call (.Name x p) (a::e) [] pos) (BM sp w):=⟨IM F g d.h f b c h⟩
end
section
variable {X:Cx}{tg a b c e:Expr}{g:List Expr}{h i j k w l:WE}{m:WA}{pos p d:Pos}
theorem rm(t:EE X e w)(u:IsT T f)(q:X.mg "isinstance" = none)(z:X.mg x=none)(v:aaU x=some (.type T))(r:Gl X "isinstance":=by rfl)(y:Gl X x:=by rfl)(A:x ≠ "__name__":=by decide)(hd:(x=='g')=false:=by decide)(s:aab [e,.Name x d] X.env=(false,eval e X.env)::aab [.Name x d] X.env:=by rfl)(n:aab [.Name x d] X.env=(false,eval (.Name x d) X.env)::aab [] X.env:=by rfl)(o:(abn pos (aab [.Name x d] X.env)).any (·.1)=false:=by rfl):EE X (.Call (.Name "isinstance" p) [e,.Name x d] [] pos) (wIsT f w):=⟨Su t.h u q z v r y A hd s n o⟩
end
theorem aH{P:aax}{w:World}{K:aae}{base:aaZ}{k:Nat}(D:DefM K mg x st ps)(S:ai N ps (ab st))(g:ps.length=n)(i:N.length=nN)(d:n≤nN)(ar:∀as a,sp as a->as.length=n)
  (h:∀(c:Ad) (A:aa8) (outer:List Env) (s:GT) (H:Hp) (E:XK) (f:Addr),Room k (A.deeper (aef x (ab st) s.heap.objs.size f c)) ->
   ∃b,ESs (cxOf CX0 P w K mg base N x (ab st) f c A outer s H E).nox (bO st) b/\∀as a,as.length=n->sp as a->b {nx:=λm=>a (.imm .none) (m.os.take m.np),rt:=λr m=>retK a m r} (fq nN as)) :
  FnM P w K mg base x (k+1) n sp:=YG D S g i d ar λc A outer s H E f e=>let ⟨b,h1,h2⟩:=h c A outer s H E f e;⟨b,h1.h,h2⟩
theorem OT{P:aax}{w:World}{K:aae}{base:aaZ}{k:Nat}{f:Addr}(F:Fun K x x st f fd)(S:ai N ps (ab st))(g:ps.length=n)(i:N.length=nN)(b:n≤nN)
  (h:∀(c:Ad) (A:aa8) (outer:List Env) (s:GT) (H:Hp) (E:XK) (f:Addr),Room k (A.deeper (aef x (ab st) s.heap.objs.size f c)) ->
   ∃a,ESs (cxOf CX0 P w K mg base N x (ab st) f c A outer s H E).nox (bO st) a/\∀as d,as.length=n->sp as d->a {nx:=λm=>d (.imm .none) (m.os.take m.np),rt:=λr m=>retK d m r} (fq nN as)) :
  FnOk P w K mg base CX0 (k+1) f fd ps (spOf ⟨K,w⟩ n sp):=Tq F S g i b λc A outer s H E f e=>let ⟨a,h1,h2⟩:=h c A outer s H E f e;⟨a,h1.h,h2⟩
end L2
namespace HT
open PySem PySem.Spec PyProof.Rows
section
variable {prog:aax}{w:World}{A:aa8}{E:Ad->GT->Prop}{s:GT}
def cut_whole{t sl:Addr}{items:Array Ad}{vl v:Ad}{lo e:Option Int}{Q:Ad->GT->Prop}(b:IsTup s.heap t items)(i:s.heap.IsSliceOf sl vl v .none)(pl:af3 vl lo)(p:af3 v e)
  (g:sIx items.size 0 lo=0/\sIx items.size items.size e=items.size) (h:Q (.ref t) s):wpAny (model prog w) A (aeA (.ref t) (.ref sl)) Q E s:=by
 let⟨os,c,d,j⟩:=id i;have f:s.TypeIs (.ref sl) "slice":=⟨os,c,d⟩;unfold aeA
 try with_reducible refine acf ?_
 refine gT (afq b.typeIs ⋯ (gT (aaY (name:=ab1 "__getitem__") b.typeIs abo (aba abo b.typeIs entry_tuple_getitem ?_ (args_tuple_getitem _ _)))));show wpAny _ _ (adu (.ref t) >>= _) _ _ s;refine gT (agS b (gT (ac3 f ?_)));rw[if_pos ⋯];refine gT (gF i pl p ?_);have a:(((sIx items.size 0 lo:Nat):Int)==0&&(1:Int)==1&&(sIx items.size items.size e-sIx items.size 0 lo)==items.size)=true:=by
  rw[g.1,g.2];simp
 show wpAny _ _ (if _=true then _ else _) _ _ s;rw[if_pos a];refine gT ?_;unfold ae9;refine gT (ac3 b.typeIs (LD ?_));rw[if_pos 'b'];exact gT (abH (LD ⟨_,rfl,LD h⟩))
end
end HT
namespace L2
open PySem PySem.Spec PyProof.Rows
variable{hi lo:Option Int}{Kr:R->Prop}{ds es:List aD}{K:R->MSt->Prop}{X:Cx}{pins:List 'i'}{σ:St}{H:Hp}{h h':aaZ}{t t1 t2:Bool}{a b i1 i2 it l l1 l2 z:Addr}{i n:Nat}{items its xs ys:Array Ad}{Q:Ad->GT->Prop}{f:Ad}{elts:List Expr}
section
variable {X:Cx}
def oCut:R->Option Int->Option Int->MSt->(R->Prop)->Prop:=λr lo hi m K=>(∃ds,lsOf m r=some ds/\K (.new (cutD ds lo hi)))\/∃ds,r = .imm (.tuple ds)/\K (.imm (.tuple (cutD ds lo hi)))
theorem gN:SlR X (sM X.kx oCut):=by
 intro pins s d H x v vl B lo hi C Q I q y w A F;obtain⟨E,m,σ,G,r,L,R,h,k|⟨ds,rfl,k⟩,c⟩:=F
 .exact Iu pins s d H x v vl B lo hi C Q I q y w A ⟨E,m,σ,G,r,L,R,h,k,c⟩
 .obtain⟨a,xs,rfl,f,g⟩:=b6 (h)
  by_cases o:HT.sIx xs.length 0 lo=0/\HT.sIx xs.length xs.length hi=xs.length
  .cases q;let⟨its,J,D,M⟩:=I.tuple f;have j:its.toArray.size=xs.length:=by rw[aaG];exact J.length.symm
   refine⟨"tuple",_,abo.lookup,D.typeIs,?_⟩;refine HT.cut_whole D y w A (by rw[j];exact o) ⟨.ref a,H,I,rfl,c _ _ H k R (pq (fE f ?_)) (Frm.refl _ _)⟩;have e:cutD ds lo hi=ds:=by
    unfold cutD;rw[g.length,o.1,o.2,List.drop_zero,Nat.sub_zero,<-g.length,aaE]
   rw[e];exact g
  .exact UJ pins s d H _ v vl B lo hi C Q I q y w A ⟨a,xs,rfl,f,o,λp u=>c _ _ _ k (R.lay u) (pq (fE (SqT.of aA) ((D9 g lo hi).mono (bj (.inl u))))) (cC u)⟩
def Ox{m:MSt}{r:R}(e:lsOf m r=some ds)(h:Kr (.new (cutD ds lo hi))):oCut r lo hi m Kr:=.inl ⟨ds,e,h⟩
def UA{m:MSt}(h:Kr (.imm (.tuple (cutD ds lo hi)))):oCut (.imm (.tuple ds)) lo hi m Kr:=.inr ⟨ds,rfl,h⟩
def wm(n:Nat):cutD ds none (some (n:Int))=ds.take n:=by
 unfold cutD;rw[HT.sIx_none,HT.sIx_nat];simp
theorem oI(n:Nat):cutD ds (some (n:Int)) none=ds.drop n:=by
 unfold cutD;rw[HT.sIx_none,HT.sIx_nat]
 by_cases h:n≤ds.length
 .rw[Nat.min_eq_left h];exact acu 'a'
 .rw[Nat.min_eq_right ∅,List.drop_length,List.drop_eq_nil_of_le ∅,List.take_nil]
def oIn(c:Bool):WO:=λr1 r m K=>∃d ds,asD m r1=some d/\(asD m r=some (.list ds)\/asD m r=some (.tuple ds))/\d.canLay0=true/\abx ds=true/\d.depth≤60/\K (.imm (.bool (if c then !ds.any (λy=>aad y d)else ds.any λy=>aad y d)))
theorem Ve(G:X.A.units+64<cLine):OpR X (aa0 .In) (rM X.kx (oIn false)):=by
 intro pins s o H x y v u Q I A r ⟨E,m,σ,L,J,r1,M,N,R,B,w,⟨d,ds,D,e,k,g,dp,C⟩,j⟩;let⟨F,q⟩:=B.reads I R A D (aa7 _ k);have c:EP X pins o Q (.bool (ds.any λy=>aad y d)) s:=⟨.bl _,H,I,rfl,j _ _ H C R (lG _) (Frm.refl _ _)⟩;have p:X.A.units+1+min (aaB ds) d.depth<cLine:=by have:=ady (aaB ds) d.depth;omega
 rcases e with e|e
 .obtain⟨bs,q2⟩:=w.reads I R r e (by simp only[aci];exact abu _ g);exact SeqAt.in_list_reads q2 q g k p c
 .obtain⟨bs,q2⟩:=w.reads I R r e (by simp only[aci];exact abu _ g);exact SeqAt.in_tuple_reads q2 q g k p c
theorem jA(G:X.A.units+64<cLine):OpR X (aa0 .NotIn) (rM X.kx (oIn true)):=by
 intro pins s o H x y v u Q I A r ⟨E,m,σ,L,J,r1,M,N,R,B,w,⟨d,ds,D,e,k,g,dp,C⟩,j⟩;let⟨F,q⟩:=B.reads I R A D (aa7 _ k);have c:EP X pins o Q _ s:=⟨.bl _,H,I,rfl,j _ _ H C R (lG _) (Frm.refl _ _)⟩;have p:X.A.units+1+min (aaB ds) d.depth<cLine:=by have:=ady (aaB ds) d.depth;omega
 rcases e with e|e
 .obtain⟨bs,q2⟩:=w.reads I R r e (by simp[aci];exact abu _ g);exact SeqAt.notIn_list_reads q2 q g k p c
 .obtain⟨bs,q2⟩:=w.reads I R r e (by simp only[aci];exact abu _ g);exact SeqAt.notIn_tuple_reads q2 q g k p c
def x_in{m:MSt}{r1 r2:R}{c:Bool}{d:aD}{k k':Nat}(g:asD m r1=some d)(e:asD m r2=some (.list ds)\/asD m r2=some (.tuple ds))(s1:Shp k d)(s2:∀y∈ds,Shp k' y)(hk:k≤60)(h:Kr (.imm (.bool (if c then !ds.any (λy=>aad y d)else ds.any λy=>aad y d)))):oIn c r1 r2 m Kr:=
 ⟨d,ds,g,e,s1.cl,(kg s2).1,aaA s1.dp hk,h⟩
abbrev oMin:WC:=λrs _ K=>match rs with|[.imm (.int i),.imm (.int j)]=>K (.imm (.int (if j<i then j else i)))|_=>False
theorem Bf(hc:X.calm=true):fh X (.builtin "min") (cM X.kx oMin):=by
 intro pins s d H xs u Q I r ⟨o,m,σ,p,rs,q,R,h,e,c⟩
 match rs,h,e with
 |[.imm (.int i),.imm (.int j)],.cons h1 (.cons h2 .nil),e=>
  have k:=aB (show Den X.kx H (.int i) _ from h1);have g:=aB (show Den X.kx H (.int j) _ from h2);subst k g;exact C9 hc pins s d H _ u Q I r ⟨i,j,rfl,c _ _ H e R (fU _) (Frm.refl _ _)⟩
def Yh(P:List aD->Prop):R->Prop
 | .new ds=>P ds
 |_=>False
def CA:WM:=λr rs m K=>Ig (λk=>on1 (Yh λes=>∃ds,m.os[k]?=some ds/\ds.length+es.length≤aak/\K (.imm .none) {m with os:=m.os.set k (ds++es)}) rs) r
theorem qw:MtM X "list.extend" (mM X.kx CA):=by
 intro pins s e H x xs v A Q I u E ⟨L,m,σ,O,M,r,rs,P,R,y,j,c,d⟩;let⟨k,a,rfl,p,rfl,c⟩:=J3 y c;let⟨G,N,rfl,rfl,j,c⟩:=fJ j c
 cases G with
 |imm _=>exact c.elim
 |obj _=>exact c.elim
 | «at» _ _=>exact c.elim
 |newT _=>exact c.elim
 |new es=>
  let⟨ds,J,B,c⟩:=c;let⟨b,D,rfl,w,C,o⟩:=j;let⟨ys,q,g⟩:=R.own _ _ ds p J;let⟨R2,F⟩:=R.setO p q (g.append o);exact Ca pins s e H _ _ v A Q I u E ⟨a,b,ys,D,rfl,rfl,q,C,by rw[<-g.length,<-o.length];exact B,d _ _ _ _ c rfl R2 yB F⟩
def wX{m:MSt}{k:Nat}(e:m.os[k]?=some ds)(c:ds.length+es.length≤aak)(h:K (.imm .none) {m with os:=m.os.set k (ds++es)}):CA (.obj k) [.new es] m K:=⟨ds,e,c,h⟩
def Ko:WM:=λr rs m K=>on1 (lH λd=>∃ds j,lsOf m r=some ds/\d.canLay0=true/\abx ds=true/\d.depth≤60/\(∃y,ds[j]?=some y/\aad y d=true)/\(∀(i:Nat) y,i<j->ds[i]?=some y->aad y d=false)/\K (.imm (.int (j:Nat))) m) rs
theorem uc(hu:X.A.units+64<cLine):MtM X "list.index" (mM X.kx Ko):=by
 intro pins s σ' H x xs v us Q I W rv ⟨α,m,σ,H0,H1,r,rs,Kc,T,Z,L,B,D⟩;let⟨r2,v2,rfl,rfl,L,B⟩:=fJ L B;let⟨d,rfl,hd,ds,j,el,P,E,dp,⟨y,O,eq⟩,J,B⟩:=g9 L B;let⟨a,zs,rfl,f,g⟩:=Z.list T el;cases W;let⟨u,rfl,Y⟩:=rv.one;let⟨bs,qd⟩:=Den.reads I (aa7 _ P) hd Y;let⟨its,w,pl,hz⟩:=I.list f;let⟨o,n,A,R,c⟩:=pl;let⟨as,q⟩:=DenAll.reads I (abu _ E) g w;have hm:X.A.units+1+min (aaB ds) d.depth<cLine:=by have:=ady (aaB ds) d.depth;omega
 have p:=ag1 ds _ _ E q;have S:its.length=ds.length:=by rw[<-p,iO]
 have U:j<its.length:=by rw[S];exact(AD.mp O).1
 have M:∀(i:Nat) (hi:i<its.length) y,ds[i]?=some y->ac8 s.heap its[i]=y:=λi hi y e=>by
  rw[<-p,aah,lD hi]at e;exact aay e
 let⟨cls,V,N,sl⟩:=o;let⟨c,k⟩:=c;dsimp only at R k;subst R;subst k;have F:(j:Int)<2^63-1:=by
  have G:=hz;rw[aas]at G;have:=w.length;omega
 refine ad3 aeb ⟨_,A,rfl⟩ PySem.F.entry_list_index (PySem.F.args_list_index_2 _ _)
  (SeqAt.list_indexAt a its.toArray _ V sl u (λy=>aad (ac8 s.heap y) d) j (by simpa using U) F ?_ ?_) ⟨A,ahq (by simpa using q) qd E P hm,?_⟩
 .show aad (ac8 s.heap its[j]) d=true;rw[M j U y O];exact eq
 .intro i hi hlt;have C:i<its.length:=by simpa using hi
  show aad (ac8 s.heap its[i]) d=false;have hi2:i<ds.length:=by rw[<-S];exact C
  rw[M i C _ (lD hi2)];exact J i _ hlt (lD hi2)
 .exact⟨.int (j:Nat),H,I.tok _,⟨_,rfl⟩,D _ _ _ H B rfl T (fU _) (Frm.refl _ _)⟩
def Bc{m:MSt}{r:R}{d y:aD}{j k k':Nat}(e:lsOf m r=some ds)(s1:Shp k d)(s2:∀y∈ds,Shp k' y)(hk:k≤60)(g:ds[j]?=some y)(eq:aad y d=true)(c:∀(i:Nat) y,i<j->ds[i]?=some y->aad y d=false)(h:K (.imm (.int (j:Nat))) m):Ko r [.imm d] m K:=
 ⟨ds,j,e,s1.cl,(kg s2).1,aaA s1.dp hk,⟨y,g,eq⟩,c,h⟩
end
theorem Inv.turneds{s:GT}{t':Nat}{ch:List Addr}(I:Inv X pins σ H s)(k:∀b o,b∉ch->s.heap.get? b=some o->h'.get? b=some o)(j:∀b∈ch,FpOk X pins H b):Inv X pins σ H {s with heap:=h',toks:=t' }:=by
 have g:∀b u,H b=some u->b∉ch:=λb u e z=>by have:=(j b z).1;grind
 have p:=λz=>(j _ z).2.1 rfl;refine I.step (g':=s.gens) (d':=s.drawn) (λb w=>?_) (λb o _ _ d e _=>k b o d e) (λb o _ _ d e _=>⟨o.slots,k b o d e⟩) (λ_ _ _ _ n=>n)
  (λb o d e=>⟨o,k b o d e⟩) (λ_ _ e=>e) (λ_ _ _ e=>e) (λb y e=>⟨#[],by rw[e];simp⟩) (λm x=>?_) (λb u e=>?_) I.bare
 .obtain⟨_,f1,_,f3,f4,f5⟩:=j b w;exact⟨f3,f1,f4,f5⟩
 .obtain⟨o,es,ep,ho,r⟩:=x;exact⟨o,es,ep,k _ o p ho,r⟩
 .refine(I.hok b u e).stay (λc v d q=>k c v ?_ q) (λ_ q=>q) λ_ _ q=>q;rcases d with z|z
  .rw[z];exact g b u e
  .exact g c _ z
def SubI(t:Bool)(h:aaZ)(i l:Addr)(k:Nat):Prop:=if t then h.IsTupleIter i l k else h.IsListIter i l k
def SubS(t:Bool)(h:aaZ)(l:Addr)(its:Array Ad):Prop:=if t then h.IsTuple l its else h.IsList l its
def SubI.ext{i:Addr}{k:Nat}(x:SubI t h i l k)(e:afs b h h')(n:i≠b):SubI t h' i l k:=by
 cases t
 .exact aaZ.IsListIter.extBut (x) e n
 .exact aaZ.IsTupleIter.extBut (x) e n
def SubI.obj{i:Addr}{k:Nat}(x:SubI t h i l k):∃o vs,h.get? i=some o/\o.data = .fields vs:=by
 cases t
 .obtain⟨o,e,_,d⟩:=(x);exact⟨o,_,e,d⟩
 .obtain⟨o,e,_,d⟩:=(x);exact⟨o,_,e,d⟩
def SubI.keep{i:Addr}{k:Nat}(x:SubI t h i l k)(e:∀o,h.get? i=some o->h'.get? i=some o):SubI t h' i l k:=by
 cases t
 .obtain⟨o,q,r⟩:=(x);exact⟨o,e o q,r⟩
 .obtain⟨o,q,r⟩:=(x);exact⟨o,e o q,r⟩
def SubS.keep(x:SubS t h l its)(e:∀o,h.get? l=some o->h'.get? l=some o):SubS t h' l its:=by
 cases t
 .obtain⟨o,q,r⟩:=(x);exact⟨o,e o q,r⟩
 .obtain⟨o,q,r⟩:=(x);exact⟨o,e o q,r⟩
def SubS.ext(x:SubS t h l its)(e:afs b h h')(n:l≠b):SubS t h' l its:=x.keep λo q=>e l o n q
section
variable {prog:aax}{w:World}{A:aa8}{E:Ad->GT->Prop}{s:GT}
theorem se{c:Type}{Q:c->GT->Prop}(d:A.handled=none)(h:∀h' e,(∀b o,s.heap.get? b=some o->h'.get? b=some o)->(∃o,h'.get? e=some o/\o.cls = .type "StopIteration")->E (.ref e) {s with heap:=h' }) :
  wpAny (model prog w) A (do raiseNew (<- newExc (.type "StopIteration") []):Sem c) Q E s:=by
 refine gT ?_;refine gT ?_;refine abf ?_ (by size_fits);refine gT (wpAny_of_eq (a:=afX) 'b' (abf ?_ (by size_fits)));refine gT (m:=handled) (wpAny_handled ?_);rw[d];refine gT (LD (wpAny_throw (h _ _ (λb o q=>Io _ (Io _ q)) ⟨_,aal _ rfl,rfl⟩)))
def Yr(c:s.heap.IsTupleIter it l i)(h:Q (.ref l) s):wpAny (model prog w) A (field (.ref it) 0) Q E s:=let ⟨_,ho,_,hd⟩:=c;abd ho hd (x:=.ref l) rfl h
def YE(c:s.heap.IsTupleIter it l i)(h:Q (.int i 0) s):wpAny (model prog w) A (field (.ref it) 1) Q E s:=let ⟨_,ho,_,hd⟩:=c;abd ho hd (x:=.int i 0) rfl h
def Y8{Q:Option (Array Ad)->GT->Prop}(c:s.heap.IsTuple l items)(h:Q (some items) s):wpAny (model prog w) A (seqItems? (.ref l)) Q E s:=let ⟨_,ho,_,_,hd⟩:=c;acG ho hd h
theorem yt{Q:Option Ad->GT->Prop}(c:s.heap.IsTupleIter it l i)(v:s.heap.IsTuple l items)
  (u:∀x,items[i]?=some x->∀h',h'.IsTupleIter it l (i+1)->abl it s.heap h'->Q (some x) {s with heap:=h' })
  (d:items[i]?=none->A.handled=none/\∀h' e,afs it s.heap h'->(∃o,h'.get? e=some o/\o.cls = .type "StopIteration")->E (.ref e) {s with heap:=h' }) :
  wpAny (model prog w) A (callSpecial? (.ref it) "__next__" []) Q E s:=by
 refine aaY (name:=ab1 "__next__") c.typeIs afa (aba afa c.typeIs F.entry_tuple_iterator_next ?_ (F.args_tuple_iterator_next_1 _))
 wp_walk using Yr c,YE c,Y8 v
 rcases id c with⟨o,g,p,hd⟩;rw[abh]
 cases q:items[i]? with
 | some x=>
  have new:(s.heap.update it (Obj.mapFields (·.setIfInBounds 1 (adv ((i:Int)+1))))).IsTupleIter it l (i+1):=by
   refine⟨_,adh _ g (Obj.isFreed_of_fields (ag2 hd _)),?_,?_⟩
   .exact(Obj.cls_mapFields ..).trans p
   .rw[ag2 hd];simp[adv]
  exact gT (m:=acX (.ref it) 1 _) (wpAny_setField g hd 'a' (LD ⟨x,rfl,u x q _ new (agJ ..)⟩))
 |none=>
  let⟨r,d⟩:=d q;refine gT (m:=rule _) (abH (gT (m:=acX (.ref it) 0 _) (wpAny_setField g hd 'a' ?_)));exact se (A:=A.in1) r λh' e k x=>d h' e (λb j nb z=>k b j ((agJ ..).extBut b j nb z)) x
theorem md{x:Ad}(c:SubI t s.heap it l i)(g:SubS t s.heap l items)(d:items[i]?=some x)
  (e:∀h',SubI t h' it l (i+1)->abl it s.heap h'->Q x {s with heap:=h' }):wpAny (model prog w) A (abJ (.ref it)) Q E s:=by
 cases t with
 |false=>exact wpAny_nextOf_list_item (c) (g) d e
 |true=>exact gT (yt (c) (g) (λy j h' a b=>by rw[d]at j;cases j;exact LD (e h' a b)) λk=>by rw[d]at k;cases k)
theorem vo(k:A.handled=none)(c:SubI t s.heap it l i)(g:SubS t s.heap l items)(m:items[i]?=none)
  (d:∀h' e,afs it s.heap h'->(∃o,h'.get? e=some o/\o.cls = .type "StopIteration")->E (.ref e) {s with heap:=h' }):wpAny (model prog w) A (abJ (.ref it)) Q E s:=by
 cases t with
 |false=>exact wpAny_nextOf_list_end k (c) (g) m d
 |true=>exact gT (yt (c) (g) (λy j=>by rw[m]at j;cases j) λ_=>⟨k,d⟩)
structure Apart(z TI TO i1 i2 l1 l2:Addr):Prop where
 d:[z,TI,TO,i1,i2].Nodup
 m1:l1∉[z,TI,TO,i1,i2]
 m2:l2∉[z,TI,TO,i1,i2]
def Apart.old{TI TO:Addr}(D:Apart z TI TO i1 i2 l1 l2):ZipApart z TI TO i1 i2 l1 l2:=by
 let⟨d,m1,m2⟩:=D;simp at d m1 m2;let⟨⟨a1,a2,c,g⟩,⟨b1,b2,j⟩,⟨e,k⟩,d1⟩:=d;exact⟨abF a1,abF a2,abF c,abF g,b1,b2,j,e,k,d1,m1.1,m1.2.2.1,m1.2.2.2.1,m1.2.2.2.2,m2.1,m2.2.2.1,m2.2.2.2.1,m2.2.2.2.2⟩
structure GA(t1 t2:Bool)(z TI TO i1 i2 l1 l2:Addr)(k:Nat)(h:aaZ):Prop where
 z:IsZip h z TI TO .none
 ti:aeM h TI (.ref i1) (.ref i2)
 to:∃a b,aeM h TO a b
 s1:SubI t1 h i1 l1 k
 s2:SubI t2 h i2 l2 k
def zf0{TI TO:Addr}(c:IsZip s.heap z TI TO f)(h:Q f s):wpAny (model prog w) A (field (.ref z) 0) Q E s:=abd c rfl (x:=f) rfl h
def zf2{TI TO:Addr}(c:IsZip s.heap z TI TO f)(h:Q (.bool false) s):wpAny (model prog w) A (field (.ref z) 2) Q E s:=abd c rfl (x:=.bool false) rfl h
def zf3{TI TO:Addr}(c:IsZip s.heap z TI TO f)(h:Q (.ref TI) s):wpAny (model prog w) A (field (.ref z) 3) Q E s:=abd c rfl (x:=.ref TI) rfl h
theorem Iz{TI TO:Addr}{k:Nat}{x y:Ad}{Q:Option Ad->GT->Prop}(D0:Apart z TI TO i1 i2 l1 l2)(Z:GA t1 t2 z TI TO i1 i2 l1 l2 k s.heap)
  (W:SubS t1 s.heap l1 xs) (hl2:SubS t2 s.heap l2 ys) (hx:xs[k]?=some x) (hy:ys[k]?=some y)
  (hQ:∀h',IsZip h' z TI TO (adv s.heap.objs.size)->aeM h' TO x y->SubI t1 h' i1 l1 (k+1)->SubI t2 h' i2 l2 (k+1)->aeM h' s.heap.objs.size x y->h'.objs.size=s.heap.objs.size+1 ->
   (∀c o,c∉[z,TO,i1,i2]->s.heap.get? c=some o->h'.get? c=some o)->Q (some (.ref s.heap.objs.size)) {s with heap:=h' }):wpAny (model prog w) A (acA (.ref z)) Q E s:=by
 have D:=D0.old;let⟨G,U,⟨a,b,V⟩,h1,h2⟩:=Z;have hT:s.TypeIs (.ref z) "zip":=(⟨_,G,rfl⟩);unfold acA;refine gT (acx (aaY (name:=ab1 "__next__") hT aeN (aba aeN hT F.entry_zip_next ?_ (F.args_zip_next_1 _))));refine gT (m:=field (.ref z) 2) (zf2 G (gT (m:=field (.ref z) 3) (zf3 G (gT (acG U rfl ?_)))));refine gT (m:=abP (.ref z)) (gT (m:=field (.ref z) 0) (zf0 G (LD ?_)));simp only[if_true];refine gT (abH (gT (abd G rfl (x:=.ref TO) rfl (gT (aaI G 'a' λg1 C s1=>?_)))));replace C:IsZip g1 z TI TO .ellipsis:=C;refine gT ?_;simp only[agi,List.forIn_nil,ahr,List.zipIdx_nil];refine gT (gT (afB (gT (m:=abJ (.ref i1)) ?_)));refine(md (h1.ext s1.extBut D.i1z) (W.ext s1.extBut D.l1z) hx λg2 n1 s2=>LD ?_);have v:aeM g2 TO a b:=s2.extBut _ _ D.TOi1 (s1.extBut _ _ D.TOz V);refine gT (acG v rfl (gT (aeF v λg3 j J=>?_)));replace j:aeM g3 TO x b:=j;refine gT (aft (LD (gT (gT (afB ?_)))));refine gT (m:=abJ (.ref i2)) (md (((h2.ext s1.extBut D.i2z).ext s2.extBut D.i12.symm).ext J.extBut D.TOi2.symm) (((hl2.ext s1.extBut D.l2z).ext s2.extBut D.l2i1).ext J.extBut D.l2TO) hy λg4 n2 P=>LD ?_);have u:aeM g4 TO x b:=P.extBut _ _ D.TOi2 j;refine gT (acG u rfl (gT (aeF u λg d O=>?_)));replace d:aeM g TO x y:=d;refine gT (aft (LD (LD (gT (acG d rfl (gT (afb ?_)))))));have M:g.objs.size=s.heap.objs.size:=by rw[O.1,P.1,J.1,s2.1,s1.1]
 have L:IsZip g z TI TO .ellipsis:=O.extBut _ _ D.TOz.symm (P.extBut _ _ D.i2z.symm (J.extBut _ _ D.TOz.symm (s2.extBut _ _ D.i1z.symm C)));have k5:∀c o,c∉[z,TO,i1,i2]->s.heap.get? c=some o->g.get? c=some o:=λc o p e=>by
  simp only[aag,abe,not_or,or_false]at p;exact O.extBut _ _ p.2.1 (P.extBut _ _ p.2.2.2 (J.extBut _ _ p.2.1 (s2.extBut _ _ p.2.2.1 (s1.extBut _ _ p.1 e))))
 have n15:SubI t1 g i1 l1 (k+1):=((n1.ext J.extBut D.TOi1.symm).ext P.extBut D.i12).ext O.extBut D.TOi1.symm;have Y:SubI t2 g i2 l2 (k+1):=n2.ext O.extBut D.TOi2.symm;have N:z<g.objs.size:=aao L;refine gT (m:=acr (.ref z) (.ref g.objs.size)) ?_;have hz6:IsZip (g.push {cls:=.type "tuple",data:=.seq #[x,y]}) z TI TO .ellipsis:=Io _ L;refine gT (m:=acX (.ref z) 0 _) (aaI hz6 'a' λg7 B s7=>?_);replace B:IsZip g7 z TI TO (adv g.objs.size):=B;refine aaI B 'a' λI r s8=>?_;replace r:IsZip I z TI TO (adv g.objs.size):=r;have S:∀c o,c≠z->g.get? c=some o->I.get? c=some o:=λc o c1 e=>s8.extBut _ _ c1 (s7.extBut _ _ c1 (Io _ e));have R:aeM I g.objs.size x y:=s8.extBut _ _ (abp N) (s7.extBut _ _ (abp N) (aal _ rfl));have z8:I.objs.size=g.objs.size+1:=by rw[s8.1,s7.1,abt]
 rw[M]at r R z8;have T:wpAny (model prog w) A (pure (some (abk g.objs.size))) Q E {s with heap:=I}:=by
  rw[M];exact LD (hQ I r (S _ _ D.TOz d) (n15.keep λo e=>S _ o D.i1z e) (Y.keep λo e=>S _ o D.i2z e) R z8 λc o p e=>S c o (λq=>p (by simp[q])) (k5 c o p e))
 exact LD ⟨_,rfl,T⟩
theorem LQ{TI TO:Addr}{k:Nat}{Q:Option Ad->GT->Prop}(Y:A.handled=none)(D0:Apart z TI TO i1 i2 l1 l2)(Z:GA t1 t2 z TI TO i1 i2 l1 l2 k s.heap)
  (I:SubS t1 s.heap l1 xs) (R:SubS t2 s.heap l2 ys) (C:xs[k]?=none\/ys[k]?=none)
  (hQ:∀h',(∀c o,c∉[z,TO,i1,i2]->s.heap.get? c=some o->h'.get? c=some o)->Q none {s with heap:=h' }):wpAny (model prog w) A (acA (.ref z)) Q E s:=by
 have D:=D0.old;let⟨y,M,⟨a,b,N⟩,W,h2⟩:=Z;have V:s.TypeIs (.ref z) "zip":=(⟨_,y,rfl⟩);have out:∀{c:Addr},c∉[z,TO,i1,i2]->c≠z/\c≠TO/\c≠i1/\c≠i2:=λr=>by simpa only[aag,abe,not_or,or_false]using r
 have B:∀h' e,(∀c o,c∉[z,TO,i1,i2]->s.heap.get? c=some o->h'.get? c=some o)->(∃o,h'.get? e=some o/\o.cls = .type "StopIteration") ->
   wpAny (model prog w) A (do if <- isInstance (.ref e) (.type "StopIteration")then pure none else throw (.ref e):Sem (Option Ad)) Q E {s with heap:=h' }:=λh' e hk ⟨o,ho,r⟩=>
  gT (acY (T:= "StopIteration") (b:=true) ⟨o,ho,r⟩ afc (LD (hQ _ hk)))
 unfold acA;refine gT (acx (aaY (name:=ab1 "__next__") V aeN (aba aeN V F.entry_zip_next ?_ (F.args_zip_next_1 _))));refine gT (m:=field (.ref z) 2) (zf2 y (gT (m:=field (.ref z) 3) (zf3 y (gT (acG M rfl ?_)))));refine gT (m:=abP (.ref z)) (gT (m:=field (.ref z) 0) (zf0 y (LD ?_)));simp only[if_true];refine gT (abH (gT (abd y rfl (x:=.ref TO) rfl (gT (aaI y 'a' λg1 j s1=>?_)))));replace j:IsZip g1 z TI TO .ellipsis:=j;refine gT ?_;simp only[agi,List.forIn_nil,ahr,List.zipIdx_nil];refine gT (gT (afB (gT (m:=abJ (.ref i1)) ?_)))
 cases hx:xs[k]? with
 |none=>
  refine(vo Y (W.ext s1.extBut D.i1z) (I.ext s1.extBut D.l1z) hx λU e s2 P=>?_);let⟨S,d,g⟩:=P;have L:IsZip U z TI TO .ellipsis:=s2 _ _ D.i1z.symm j;have u:e≠z:=λq=>by subst q;rw[L]at d;cases d;simp at g
  refine aaI L 'a' λg3 _ v=>B g3 e (λc o r q=>?_) ⟨S,v.extBut _ _ u d,g⟩;let⟨G,_,O,_⟩:=out r;exact v.extBut _ _ G (s2 _ _ O (s1.extBut _ _ G q))
 |some x=>
  have hy:ys[k]?=none:=by rcases C with q|q;rw[hx]at q;cases q;exact q
  refine(md (W.ext s1.extBut D.i1z) (I.ext s1.extBut D.l1z) hx λU n1 s2=>LD ?_);have p:aeM U TO a b:=s2.extBut _ _ D.TOi1 (s1.extBut _ _ D.TOz N);refine gT (acG p rfl (gT (aeF p λg3 hTO3 v=>?_)));refine gT (aft (LD (gT (gT (afB ?_)))));refine gT (m:=abJ (.ref i2)) (vo Y (((h2.ext s1.extBut D.i2z).ext s2.extBut D.i12.symm).ext v.extBut D.TOi2.symm) (((R.ext s1.extBut D.l2z).ext s2.extBut D.l2i1).ext v.extBut D.l2TO) hy λg4 e s4 P=>?_);let⟨S,d,g⟩:=P;have J:IsZip g4 z TI TO .ellipsis:=s4 _ _ D.i2z.symm (v.extBut _ _ D.TOz.symm (s2.extBut _ _ D.i1z.symm j));have u:e≠z:=λq=>by subst q;rw[J]at d;cases d;simp at g
  refine aaI J 'a' λg5 _ s5=>B g5 e (λc o r q=>?_) ⟨S,s5.extBut _ _ u d,g⟩;let⟨G,c2,O,c4⟩:=out r;exact s5.extBut _ _ G (s4 _ _ c4 (v.extBut _ _ c2 (s2.extBut _ _ O (s1.extBut _ _ G q))))
end
def zit(t:Bool):String:=if t then "tuple_iterator" else "list_iterator"
abbrev itO(t:Bool)(l:Addr):Obj:={cls:=.type (zit t),data:=.fields #[.ref l,.int 0 0]}
abbrev zA(t1:Bool)(h:aaZ)(l1:Addr):aaZ:=h.push (itO t1 l1)
abbrev zB(t1 t2:Bool)(h:aaZ)(l1 l2:Addr):aaZ:=(zA t1 h l1).push (itO t2 l2)
abbrev zC(t1 t2:Bool)(h:aaZ)(l1 l2:Addr):aaZ:=(zB t1 t2 h l1 l2).push {cls:=.type "tuple",data:=.seq #[.ref h.objs.size,.ref (zA t1 h l1).objs.size]}
abbrev zD(t1 t2:Bool)(h:aaZ)(l1 l2:Addr):aaZ:=(zC t1 t2 h l1 l2).push {cls:=.type "tuple",data:=.seq #[.none,.none]}
abbrev zE(t1 t2:Bool)(h:aaZ)(l1 l2:Addr):aaZ:=(zD t1 t2 h l1 l2).push {cls:=.type "zip",data:=.fields #[.none,.bool false,.bool false,.ref (zB t1 t2 h l1 l2).objs.size,.ref (zC t1 t2 h l1 l2).objs.size]}
def d5{prog:aax}{w:World}{A:aa8}{E:Ad->GT->Prop}{s:GT}(h:SubS t s.heap l its)
  (c:Q (.ref s.heap.objs.size) {s with heap:=s.heap.push (itO t l)}):wpAny (model prog w) A (afZ (.ref l)) Q E s:=by
 cases t
 .exact wpAny_pyIter_list (h) c
 .exact wpAny_pyIter_tuple (h) c
theorem QH(t1 t2:Bool)(l1 l2:Addr)(xs ys:Array Ad) :
  Meets (adn.«zip.__new__» ⟨[.type "zip",.ref l1,.ref l2],[]⟩) (λ_ R s=>SubS t1 s.heap l1 xs/\SubS t2 s.heap l2 ys/\R (.ok (.ret (.ref (zD t1 t2 s.heap l1 l2).objs.size))) {s with heap:=zE t1 t2 s.heap l1 l2}):=
 .of_wp λprog w A R s h=>by
  rcases s with⟨q,g,d,r,os⟩;rcases h with⟨m,c,h⟩;have p:=sub_zip;have j:=m;have k:SubS t2 (ahy ⟨q.push (itO t1 l1),g,d,r,os⟩) l2 ys:=c.keep λo e=>Io _ e
  wp_walk using d5 j,d5 k
  exact⟨_,rfl,h⟩
section
variable {prog:aax}{w:World}{A:aa8}{E:Ad->GT->Prop}{s:GT}
theorem Jo(p:SubS t1 s.heap l1 xs)(r:SubS t2 s.heap l2 ys)
  (h:∀h',GA t1 t2 (s.heap.objs.size+4) (s.heap.objs.size+2) (s.heap.objs.size+3) s.heap.objs.size (s.heap.objs.size+1) l1 l2 0 h'->(∀c o,s.heap.get? c=some o->h'.get? c=some o)->Q (.ref (s.heap.objs.size+4)) {s with heap:=h' }):wpAny (model prog w) A (call (.type "zip") [.ref l1,.ref l2]) Q E s:=by
 refine callType_new F.called_zip ⋯ (F.typeCall_zip_2 _ _) (F.newCall_zip_2 _ _) (λobj=>F.args_object_init_3 obj _ _) F.entry_zip_new (QH t1 t2 l1 l2 xs ys) ⟨p,r,?_⟩;have v:(zA t1 s.heap l1).objs.size=s.heap.objs.size+1:=abt ..;have m:(zB t1 t2 s.heap l1 l2).objs.size=s.heap.objs.size+2:=by rw[abt,v]
 have q:(zC t1 t2 s.heap l1 l2).objs.size=s.heap.objs.size+3:=by rw[abt,m]
 have y:(zD t1 t2 s.heap l1 l2).objs.size=s.heap.objs.size+4:=by rw[abt,q]
 have j:∀c o,(zD t1 t2 s.heap l1 l2).get? c=some o->(zE t1 t2 s.heap l1 l2).get? c=some o:=λc o e=>Io _ e;have k:∀c o,(zC t1 t2 s.heap l1 l2).get? c=some o->(zE t1 t2 s.heap l1 l2).get? c=some o:=λc o e=>j c o (Io _ e);have g:∀c o,(zB t1 t2 s.heap l1 l2).get? c=some o->(zE t1 t2 s.heap l1 l2).get? c=some o:=λc o e=>k c o (Io _ e);have u:∀c o,(zA t1 s.heap l1).get? c=some o->(zE t1 t2 s.heap l1 l2).get? c=some o:=λc o e=>g c o (Io _ e);have B:(zE t1 t2 s.heap l1 l2).get? (s.heap.objs.size+4)=some {cls:=.type "zip",data:=.fields #[.none,.bool false,.bool false,.ref (s.heap.objs.size+2),.ref (s.heap.objs.size+3)]}:=by
  rw[<-y,<-q,<-m];exact aal _ rfl
 have C:(zE t1 t2 s.heap l1 l2).get? (s.heap.objs.size+3)=some {cls:=.type "tuple",data:=.seq #[.none,.none]}:=by
  rw[<-q];exact j _ _ (aal _ rfl)
 have G:(zE t1 t2 s.heap l1 l2).get? (s.heap.objs.size+2)=some {cls:=.type "tuple",data:=.seq #[.ref s.heap.objs.size,.ref (s.heap.objs.size+1)]}:=by
  rw[<-m,<-v];exact k _ _ (aal _ rfl)
 have I:(zE t1 t2 s.heap l1 l2).get? (s.heap.objs.size+1)=some (itO t2 l2):=by
  rw[<-v];exact g _ _ (aal _ rfl)
 have D:(zE t1 t2 s.heap l1 l2).get? s.heap.objs.size=some (itO t1 l1):=u _ _ (aal _ rfl);have d:∀{t:Bool}{i l:Addr},(zE t1 t2 s.heap l1 l2).get? i=some (itO t l)->SubI t (zE t1 t2 s.heap l1 l2) i l 0:=λ{t i l} e=>by
  cases t
  .exact⟨_,e,rfl,rfl⟩
  .exact⟨_,e,rfl,rfl⟩
 show _/\_;rw[y];exact⟨⟨_,B,rfl⟩,h _ ⟨B,G,⟨_,_,C⟩,d D,d I⟩ λc o x=>u c o (Io _ x)⟩
end
theorem Aa{l1 l2:Nat}(c:l1<n)(e:l2<n):Apart (n+4) (n+2) (n+3) n (n+1) l1 l2 where
 d:=by
  simp
 m1:=by
  grind
 m2:=by
  grind
def SqB(t:Bool)(K:aae)(H:Hp)(a:Addr)(xs:List V):Prop:=if t then SqT K H a xs else SqL K H a xs
def Itz(t1 t2:Bool)(K:aae)(a b:Addr):It where
 go:=λi H=>∃xs ys x y,SqB t1 K H a xs/\SqB t2 K H b ys/\xs[i]?=some x/\ys[i]?=some y
 yld:=λi H v c=>∃T x y,v = .ref T/\H T=none/\c=upd H T (.tup [x,y])/\(∀xs,SqB t1 K H a xs->xs[i]?=some x)/\∀ys,SqB t2 K H b ys->ys[i]?=some y
 stop:=λi H=>∃xs ys,SqB t1 K H a xs/\SqB t2 K H b ys/\(xs.length≤i\/ys.length≤i)
theorem Inv.sqb{s:GT}{xs:List V}(I:Inv X pins σ H s)(h:SqB t X.kx H a xs):∃its:List Ad,Vals xs its/\SubS t s.heap a its.toArray/\xs.length≤aak:=by
 cases t
 .obtain⟨its,r,p,z⟩:=I.list (h);exact⟨its,r,p.isList,z⟩
 .obtain⟨its,r,p,z⟩:=I.tuple (h);exact⟨its,r,p,z⟩
def Inv.sqb_inj{s:GT}{xs ys:List V}(I:Inv X pins σ H s)(h:SqB t X.kx H a xs)(h':SqB t X.kx H a ys):xs=ys:=by
 cases t
 .exact I.list_inj (h) (h')
 .exact I.tuple_inj (h) (h')
theorem Jw{P:aax}{w:World}{K:aae}{x1:Nat}{pos:Pos}{TI TO:Addr}(D:Apart z TI TO i1 i2 a b):Turn P w K (.Tuple elts x1 pos) (Itz t1 t2 K a b) [z,TI,TO,i1,i2] z (λi h=>GA t1 t2 z TI TO i1 i2 a b i h) where
 mem:=by simp
 obj:=λi h p c g=>by
  let⟨A,j,⟨u,v,m⟩,N,r⟩:=p;simp only[aag,abe,or_false]at g;rcases g with rfl|rfl|rfl|rfl|rfl
  .exact⟨_,A,λv q=>by cases q⟩
  .exact⟨_,j,λv q=>by cases q⟩
  .exact⟨_,m,λv q=>by cases q⟩
  .obtain⟨o,vs,e,d⟩:=N.obj;exact⟨o,e,λv q=>by rw[d]at q;cases q⟩
  .obtain⟨o,vs,e,d⟩:=r.obj;exact⟨o,e,λv q=>by rw[d]at q;cases q⟩
 keep:=λi h h' p k=>by
  let⟨A,j,⟨u,v,m⟩,N,r⟩:=p;exact⟨k z 'a' _ A,k TI 'a' _ j,⟨u,v,k TO 'a' _ m⟩,N.keep λo e=>k i1 'a' o e,r.keep λo e=>k i2 'a' o e⟩
 item:=by
  intro X hP hw hK g i pins s σ H E I T p hg;subst hP hw hK;let⟨xs,ys,x,y,B,C,hx,hy⟩:=hg;let⟨M,J,p1,_⟩:=I.sqb B;let⟨S,G,Z,_⟩:=I.sqb C;let⟨O,e1,V⟩:=J.get hx;let⟨R,e2,U⟩:=G.get hy;refine Iz D p p1 Z (x:=O) (y:=R) (by simpa using e1) (by simpa using e2) λh' a1 a2 a3 a4 a5 a6 a7=>⟨.ref s.heap.objs.size,rfl,?_⟩;refine wpAny_letOwnedTupleGo_zip (s:={s with heap:=h' }) a1 λr b1 sb=>?_;have Y:H s.heap.objs.size=none:=I.hok.fresh (aaa _);have W:∀c∈[z,TI,TO,i1,i2],c<s.heap.objs.size:=λc g=>by
   let⟨A,j,⟨u,v,m⟩,N,r⟩:=p;simp only[aag,abe,or_false]at g;rcases g with rfl|rfl|rfl|rfl|rfl
   .exact aao A
   .exact aao j
   .exact aao m
   .obtain⟨o,vs,e,d⟩:=N.obj;exact aao e
   .obtain⟨o,vs,e,d⟩:=r.obj;exact aao e
  have nz:∀c∈[z,TI,TO,i1,i2],c≠s.heap.objs.size:=λc g=>aa1 (W c g);have F:=D.old;have L:∀c o,c≠z->h'.get? c=some o->r.get? c=some o:=λc o n e=>sb.extBut c o n e;have T2:aeM r s.heap.objs.size O R:=L _ _ (abF (nz z 'a')) a5;have I0:Inv X pins σ (upd H s.heap.objs.size (.tup [x,y])) {s with heap:=s.heap.push {cls:=.type "tuple",data:=.seq #[O,R]},toks:=s.toks}:=
   I.laid (o:=.tup [x,y]) (λc o e=>Io _ e) (aaa _) ⟨by show 2≤aak;rw[aas];decide,[O,R],.cons V (.cons U .nil),PlainT.new _ _⟩
  have Il:Inv X pins σ (upd H s.heap.objs.size (.tup [x,y])) {s with heap:=r,toks:=s.toks}:=by
   refine Inv.turneds (s:={s with heap:=s.heap.push {cls:=.type "tuple",data:=.seq #[O,R]},toks:=s.toks}) (h':=r) (t':=s.toks) (ch:=[z,TI,TO,i1,i2]) I0 (λc o g e=>?_) λc g=>?_
   .rcases agz e with⟨rfl,rfl⟩|e
    .exact T2
    .exact L c o (λq=>g (by simp[q])) (a7 c o (λq=>g (by simp only[aag,abe,or_false]at q⊢;rcases q with q|q|q|q<;>simp[q])) e)
   .obtain⟨f0,f1⟩:=T c g;exact⟨by rw[av (nz c g)];exact f0,f1⟩
  refine⟨.ref s.heap.objs.size,upd H s.heap.objs.size (.tup [x,y]),Il,rfl,⟨_,x,y,rfl,Y,rfl,λzs A=>by rw[I.sqb_inj A B];exact hx,λzs A=>by rw[I.sqb_inj A C];exact hy⟩,⟨b1,L _ _ F.TIz (a7 _ _ (by simp only[aag,abe,or_false,not_or];exact⟨F.TIz,F.TITO,F.TIi1,F.TIi2⟩) p.ti),⟨_,_,L _ _ F.TOz a2⟩,a3.keep λo e=>L _ o F.i1z e,a4.keep λo e=>L _ o F.i2z e⟩,λc g=>?_⟩;rw[av (nz c g)];exact(T c g).1
 done:=by
  intro X hP hw hK g i pins s σ H E I T p hg;subst hP hw hK;let⟨xs,ys,B,C,he⟩:=hg;let⟨M,J,p1,_⟩:=I.sqb B;let⟨S,G,Z,_⟩:=I.sqb C;have l1:=J.length;have l2:=G.length;refine LQ (I.ok.hd g) D p p1 Z (by rcases he with q|q;(left;simp;omega);(right;simp;omega)) λh' hk=>⟨rfl,I.turneds (t':=s.toks) (ch:=[z,TI,TO,i1,i2]) (λc o g e=>hk c o (λq=>g (by simp only[aag,abe,or_false]at q⊢;rcases q with q|q|q|q<;>simp[q])) e) T⟩
 self:=λ_ _ _ _ _ p h=>wpAny_pyIter_zip p.z h
section
variable {X:Cx}{j:List Expr}{B:Nat}{w:Pos}{a b:Expr}{A:WA}{p pos:Pos}
def iZip(K:aae)(ta:TA):TI:=λσ H R=>ta σ H λvs c=>∃t1 t2 l1 l2,vs=[.ref l1,.ref l2]/\(∃xs,SqB t1 K c l1 xs)/\(∃ys,SqB t2 K c l2 ys)/\R (Itz t1 t2 K l1 l2) c
def L7:aaU "zip" = some (.type "zip"):=by rfl
theorem Xj{ta:TA}(P:Gl X "zip")(N:X.mg "zip" = none)(C:PA X [a,b] ta)(O:aab [a,b] X.env=[(false,eval a X.env),(false,eval b X.env)]:=by first|exact(aF rfl).trans (congrArg _ (c7 rfl))|rfl)(m:aab [b] X.env=[(false,eval b X.env)]:=by first|exact c7 rfl|rfl):PI X (.Tuple j B w) (.Call (.Name "zip" p) [a,b] [] pos) (iZip X.K ta):=by
 intro pins s σ H S I h;refine Call_ (lh I P N L7 (acs (thn (C pos pins s σ H _ I h) λT s1 ⟨vs,E,k,r1,M⟩=>?_) (by rw[O,m]) (by rw[m];rfl)));let⟨t1,t2,l1,l2,e,⟨xs,D⟩,⟨ys,R⟩,q⟩:=M;subst e
 cases r1 with
 | cons r rr=>
  cases rr with
  | cons G rr=>
   cases rr;cases r;cases G;let⟨u,L,x,_⟩:=k.sqb D;let⟨y,F,v,_⟩:=k.sqb R;refine Jo x v λh' Z hk=>?_;refine wpAny_pyIter_zip Z.z ?_;have lt:∀{t:Bool}{l:Addr}{its:Array Ad},SubS t s1.heap l its->l<s1.heap.objs.size:=λ{t l its} p=>by
    cases t
    .obtain⟨o,e,_⟩:=(show s1.heap.IsList l its from p);exact aao e
    .obtain⟨o,e,_⟩:=(show s1.heap.IsTuple l its from p);exact aao e
   refine⟨s1.heap.objs.size+4,_,_,_,E,rfl,k.kept (t':=s1.toks) hk,Jw (Aa (lt x) (lt v)),Z,λc J=>?_,q⟩;have g:s1.heap.objs.size≤c:=by
    have d:=J;simp at d;rcases d with rfl|rfl|rfl|rfl|rfl<;>first|exact acd _ _|exact aaa _
   exact k.fpOk g (k.hok.fresh g)
def imS:R->Option (Bool×List aD)
 | .imm (.tuple ds)=>some (true,ds)
 | .imm (.list ds)=>some (false,ds)
 |_=>none
def zipD(ds es:List aD):List aD:=(ds.zip es).map λp=>.tuple [p.1,p.2]
abbrev Vf(A:WA):WI:=λm K=>A m λrs c=>match rs with|[r1,r2]=>∃t1 ds t2 es,imS r1=some (t1,ds)/\imS r2=some (t2,es)/\K ⟨zipD ds es,none⟩ c|_=>False
theorem Aq{K:Kd}{d:Al}{k:Hp}{r:R}{v:V}(h:RelR K d k H r v)(e:imS r=some (t,ds)):∃l xs,v = .ref l/\DenAll K H ds xs/\(SqB t K H l xs)/\∀c,Pers H c->SqB t K c l xs:=by
 unfold imS at e
 split at e
 .cases e;let⟨l,xs,e,f,g⟩:=b6 (h);exact⟨l,xs,e,g,f,λc p=>f.mono p⟩
 .cases e;have h':=h;let⟨l,xs,e,f,g⟩:=h';exact⟨l,xs,e,g,f.sq,λc p=>(f.mono p).sq⟩
 .cases e
def cJ(ds es:List aD):(zipD ds es).length=min ds.length es.length:=by simp[zipD]
theorem yC{d e:aD}(c:ds[i]?=some d)(g:es[i]?=some e):(zipD ds es)[i]?=some (.tuple [d,e]):=by
 unfold zipD;rw[aah,(List.getElem?_zip_eq_some (z:=(d,e))).mpr ⟨c,g⟩];rfl
theorem wks_zip{K:Kd}:Wks K (Itz t1 t2 K l1 l2) (zipD ds es) λH=>∃xs ys,SqB t1 K H l1 xs/\SqB t2 K H l2 ys/\DenAll K H ds xs/\DenAll K H es ys where
 stop:=λH ⟨xs,ys,k,c,g,m⟩=>⟨xs,ys,k,c,by rw[cJ,<-g.length,<-m.length];omega⟩
 go:=λi H hi ⟨xs,ys,k,c,g,m⟩=>by
  rw[cJ]at hi;exact⟨xs,ys,xs[i]'(by rw[<-g.length];omega),ys[i]'(by rw[<-m.length];omega),k,c,lD _,lD _⟩
 yld:=λi H x I hi ⟨xs,ys,k,c,g,m⟩ y=>by
  let⟨T,u,v,rfl,C,rfl,F,E⟩:=y;let⟨d,D,k1⟩:=g.get2 (F xs k);let⟨e,G,k2⟩:=m.get2 (E ys c);have r:∀b o,H b=some o->upd H T (.tup [u,v]) b=some o:=λb o q=>by rw[av (br q C)];exact q
  have s:Pers H _:=⟨λb xs q=>r b _ q,λb o u q=>r b _ q⟩;refine⟨r,_,yC D G,?_⟩;exact fE (SqT.of aA) (DenAll.cons (k1.mono s) (DenAll.cons (k2.mono s) DenAll.nil))
theorem Uw(M:X.mg "zip" = none)(y:MA X [a,b] A)(T:Gl X "zip":=by rfl)(S:aab [a,b] X.env=[(false,eval a X.env),(false,eval b X.env)]:=by first|exact(aF rfl).trans (congrArg _ (c7 rfl))|rfl)(q:aab [b] X.env=[(false,eval b X.env)]:=by first|exact c7 rfl|rfl):MI X (.Tuple j B w) (.Call (.Name "zip" p) [a,b] [] pos) (Vf A):=(Xj T M y S q).wk<|by
 intro σ H Y ⟨J,m,Kc,E,L,o⟩;refine⟨J,m,_,E,L,λrs P vs O k n R rr F=>?_⟩
 cases rr with
 |nil=>exact k.elim
 |cons C rr=>
  cases rr with
  |nil=>exact k.elim
  |cons W rr=>
  cases rr with
  |cons _ _=>exact k.elim
  |nil=>
  let⟨t1,ds,t2,es,U,G,k⟩:=k;let⟨l1,xs,rfl,D,v,N⟩:=Aq C U;let⟨l2,ys,rfl,V,u,I⟩:=Aq W G;refine⟨t1,t2,l1,l2,rfl,⟨xs,v⟩,⟨ys,u⟩,o _ P _ O k n R F ⟨λH=>∃xs ys,SqB t1 X.kx H l1 xs/\SqB t2 X.kx H l2 ys/\DenAll X.kx H ds xs/\DenAll X.kx H es ys/\(∀e,Pers H e->SqB t1 X.kx e l1 xs)/\∀e,Pers H e->SqB t2 X.kx e l2 ys,wks_zip.imp<|by intro H ⟨xs,ys,a,b,c,d,_⟩;exact⟨xs,ys,a,b,c,d⟩,⟨xs,ys,v,u,D,V,N,I⟩,by intro Z s ⟨xs,ys,a,b,c,d,r,x⟩ g;exact⟨xs,ys,r s g,x s g,c.mono g,d.mono g,λe p=>r e (g.trans p),λe p=>x e (g.trans p)⟩⟩⟩
end
theorem sf{x:Nat}{c:Pos}{a b:Expr}{w:WA}{p pos:Pos}(k:X.mg "zip" = none)(g:EA X [a,b] w)(j:Gl X "zip":=by rfl)(e:aab [a,b] X.env=[(false,eval a X.env),(false,eval b X.env)]:=by first|exact(aF rfl).trans (congrArg _ (c7 rfl))|rfl)(d:aab [b] X.env=[(false,eval b X.env)]:=by first|exact c7 rfl|rfl):EI X (.Tuple elts x c) (.Call (.Name "zip" p) [a,b] [] pos) (Vf w):=⟨Uw k g.h j e d⟩
theorem gmap{c β:Type}{xs:List c}{y:β}{f:c->β}(h:(xs.map f)[i]?=some y):∃x,xs[i]?=some x/\y=f x/\i<xs.length:=by
 rw[aah]at h
 cases q:xs[i]? with
 |none=>rw[q]at h;cases h
 |some x=>rw[q]at h;exact⟨x,rfl,(aay h).symm,(AD.mp q).1⟩
theorem df{lo:Int}{d:aD}(h:(jI lo n)[i]?=some d):i<n/\d = .int (lo+(i:Int)):=by
 have hi:=by
  have:=(AD.mp h).1;rwa[aP]at this
 rw[jS hi]at h;exact⟨hi,(aay h).symm⟩
def t6{k:Nat}{P:MSt->Prop}{m:MSt}(c:List Nat)(m2:MSt)(N:Ren c (m.setV n (.obj k)) m2)(h:P m2):tZ n P m (.obj k):=.inr ⟨c,m2,N,h⟩
def RenO(c:List Nat)(o:Option R):Option R->Prop
 |none=>True
 |some r=>RenR c (some o) r
def RenVs(c:List Nat):List (Option R)->List (Option R)->Prop
 |o::os,q::qs=>RenO c o q/\RenVs c os qs
 |[],[]=>True
 |_,_=>False
theorem RenVs.len{c:List Nat}:∀{os q:List (Option R)},RenVs c os q->q.length=os.length
 |[],[],_=>rfl
 |_::_,_::_,h=>congrArg (· + 1) (RenVs.len h.2)
 |[],_::_,h=>h.elim
 |_::_,[],h=>h.elim
theorem RenVs.get{d:List Nat}:∀{os c:List (Option R)},RenVs d os c->∀(j:Nat) (r:R),c[j]?=some (some r)->RenR d os[j]? r
 |o::os,q::c,h,0,r,e=>by
  have g:=by simpa using e
  subst g;exact h.1
 |o::os,q::c,h,j+1,r,e=>by simpa using RenVs.get h.2 j r ‹_›
 |[],[],_,_,_,e=>by simp at e
 |[],_::_,h,_,_,_=>h.elim
 |_::_,[],h,_,_,_=>h.elim
def J6{c:List Nat}{m m2:MSt}(nd:decide c.Nodup=true)(lt:(c.all λk=>Nat.blt k m.os.length)=true)(pre:c.take m.np=aav m.np)(npl:Nat.ble m.np c.length=true)(os:m2.os=c.map λk=>m.os.getD k [])(np:m2.np=m.np)(vs:RenVs c m.vs m2.vs):Ren c m m2:=
 ⟨of_decide_eq_true nd,λk hk=>Nat.blt_eq.mp (abA.mp lt k hk),pre,aer npl,os,np,vs.len,λj r e=>vs.get j r e⟩
def qP{d:aD}(h:(zipD ds es)[i]?=some d):∃a b,ds[i]?=some a/\es[i]?=some b/\d = .tuple [a,b]:=by
 let⟨p,e,rfl,_⟩:=gmap h;let⟨g,c⟩:=List.getElem?_zip_eq_some.mp e;exact⟨p.1,p.2,g,c,rfl⟩
end L2
namespace M3
def stepL(xs:List (List Nat))(r:Nat):List (List Nat):=xs.flatMap λa=>(aav (r+1)).map λk=>a++[k]
def allL(rs:List Nat):List (List Nat):=rs.foldl stepL [[]]
def allR:List Nat->List (List Nat)
 |[]=>[[]]
 |r::rs=>(aav (r+1)).flatMap λk=>(allR rs).map (k :: ·)
theorem ur:∀(rs:List Nat) (xs:List (List Nat)),rs.foldl stepL xs=xs.flatMap λa=>(allR rs).map (a++·)
 |[],xs=>by
  simp[allR]
 |r::rs,xs=>by
  rw[aeJ,ur rs];simp only[stepL,allR,List.flatMap_assoc,List.map_flatMap,List.flatMap_map,abD]
  congr 1
  funext a
  congr 1
  funext k
  congr 1
  funext l
  simp
def allL_eq(rs:List Nat):allL rs=allR rs:=by
 unfold allL;rw[ur];simp
theorem allR_len:∀{rs l:List Nat},l∈allR rs->l.length=rs.length
 |[],l,h=>by simp[allR]at h;subst h;rfl
 |r::rs,l,h=>by
  simp only[allR,acb,aar]at h;let⟨k,_,a,h,rfl⟩:=h;simp[allR_len h]
theorem stepL_length(xs:List (List Nat))(r:Nat):(stepL xs r).length=xs.length*(r+1):=by
 unfold stepL
 induction xs with
 |nil=>simp
 |cons a xs i=>
  grind
theorem xQ:∀{rs:List Nat}{xs:List (List Nat)},(∀r∈rs,r≤6)->(rs.foldl stepL xs).length≤xs.length*7^rs.length
 |[],xs,_=>by simp
 |r::rs,xs,h=>by
  rw[aeJ];refine aaA (xQ λa b=>h a (aai _ b)) ?_;rw[stepL_length,aau,Nat.pow_succ,Nat.mul_assoc,adz (7^rs.length)];refine Nat.mul_le_mul_left _ (adw _ ?_)
  simp_all
def fold_small{rs:List Nat}(a:rs.length≤4)(h:∀r∈rs,r≤6):(rs.foldl stepL [[]]).length≤2401:=by
 refine aaA (xQ h) ?_;have:7^rs.length≤7^4:=Nat.pow_le_pow_right ⋯ a;simpa
def stepL_take{xs:List (List Nat)}{r j:Nat}{l:List Nat}(h:xs[j]?=some l):stepL (xs.take (j+1)) r=stepL (xs.take j) r++(aav (r+1)).map λy=>l++[y]:=by
 unfold stepL;rw[aaX,h];simp
end M3
set_option maxHeartbeats 4100000
namespace K
open PySem L2
variable{h:Hall}
def IP:SpM:=λa K=>∃ns:List Int,a=[.imm (.list (ns.map .int))]/\ns.length≤63/\K (.imm (.bool true)) []
def frD(a b:Int):aD:=.tuple [.int a,.int b]
def Wj:SpM:=λc K=>∃a b:Nat,c=[.imm (.int a),.imm (.int b)]/\a<1000000000/\0<b/\b<1000000000/\K (.imm (frD (a/a.gcd b:Nat) (b/a.gcd b:Nat))) []
structure Srv where
 a:Nat
 b:Nat
 r:Nat
def Srv.d(s:Srv):aD:=.tuple [.tuple [.int s.a,.int s.b],.int s.r]
structure Srv.Ok(s:Srv):Prop where
 a1:1≤s.a
 a2:s.a<1000000
 b1:1≤s.b
 b2:s.b<1000000
 r1:1≤s.r
 r6:s.r≤6
structure Hall where
 a:Nat
 b:Nat
 ss:List Srv
 mv:Bool
def Hall.d(h:Hall):aD:=.tuple [.tuple [.int h.a,.int h.b],.tuple (h.ss.map Srv.d),.bool h.mv]
structure Hall.Ok(h:Hall):Prop where
 a1:1≤h.a
 a2:h.a<1000000
 b1:1≤h.b
 b2:h.b<1000000
 n1:1≤h.ss.length
 n4:h.ss.length≤4
 ok:∀s∈h.ss,s.Ok
def Hall.rs(h:Hall):List Nat:=h.ss.map Srv.r
def Hall.rsl(h:Hall):h.rs.length=h.ss.length:=by simp[Hall.rs]
def Hall.Ok.r6(o:h.Ok):∀r∈h.rs,r≤6:=λr b=>by
 let⟨s,a,rfl⟩:=aar.mp b;exact(o.ok s a).r6
def Hall.rs_get{i:Nat}{s:Srv}(e:h.ss[i]?=some s):h.rs[i]?=some s.r:=by simp[Hall.rs,e]
def natD(l:List Nat):List aD:=l.map λ(k:Nat)=>.int (k:Int)
def lnD(l:List Nat):aD:=.tuple (natD l)
def aQ(l:List Nat):(natD l).length=l.length:=by simp[natD]
def bm{l:List Nat}{i x:Nat}(h:l[i]?=some x):(natD l)[i]?=some (.int (x:Int)):=by simp[natD,h]
inductive Rule where
 |random|turns|two|least|quick
 |told (ps:List Nat)
def Rule.word:Rule->Str
 | .random=> "random" | .turns=> "turns" | .two=> "two" | .least=> "least" | .quick=> "quick" | .told _=> "told"
def Rule.d:Rule->aD
 | .told p=>.tuple [.str "told",lnD p]
 |r=>.tuple [.str r.word]
def Rule.Ok(h:Hall):Rule->Prop
 | .told a=>a.length=(M3.allR h.rs).length/\∀p∈a,p<h.ss.length
 |_=>True
def yP{rs:List Nat}(a:rs.length≤4)(h:∀r∈rs,r≤6):(M3.allR rs).length≤2401:=by
 rw[<-M3.allL_eq];exact M3.fold_small a h
def Lines(h:Hall)(l:List Nat):Prop:=l.length=h.ss.length/\∀(i:Nat) s x,h.ss[i]?=some s->l[i]?=some x->x≤s.r
theorem Lines.le{l:List Nat}(o:h.Ok)(k:Lines h l):∀x∈l,x≤6:=λx c=>by
 let⟨i,b,rfl⟩:=abY.mp c;have a:i<h.ss.length:=by rw[<-k.1];exact b
 have:=k.2 i _ _ (lD a) (lD b);have:=(o.ok _ (acZ a)).r6;exact aaA ‹_› ‹_›
section
variable {h:Hall}{m:MSt}{K:L2.R->Prop}
def x_h1(q:K (.imm (.tuple (h.ss.map Srv.d)))):oo (.imm h.d) (.imm (.int 1)) m K:=⟨_,rfl,q⟩
def x_h2(q:K (.imm (.bool h.mv))):oo (.imm h.d) (.imm (.int 2)) m K:=⟨_,rfl,q⟩
end
end K
namespace L2
open PySem PySem.Spec PyProof.Rows
variable{v y:V}{u:Ad}{w:World}{H H':Hp}{kvs:List (aD×aD)}{xs:List (List Key×Addr×Ad)}{a e it l:Addr}{Q:Ad->GT->Prop}{h':aaZ}{prog:aax}{pos:Pos}{X:Cx}{ks:List (Option Expr)}{vs:List Ad}{trs:List (TE×TE)}{values:List Expr}{τ:List 'h'}{p:List Nat}{kk:Key}{t t':aD}{i j:Nat}{K:List (R×R)->MSt->Prop}{wv:WE}{ws:List (WE×WE)}{items:Array Ad}{ns:List Int}{ds:List aD}{Kr:R->Prop}
section
variable {a:Type} [DecidableEq a]
def valV(kvs:List (a×V))(k:a):Option V:=(kvs.find? λb=>decide (b.1=k)).map (·.2)
def putK(kvs:List (a×V))(k:a)(v:V):List (a×V):=
 if (kvs.any λb=>decide (b.1=k))=true then kvs.map (λb=>if b.1=k then(b.1,v)else b)else kvs++[(k,v)]
theorem dJ{p:a×V}{r:List (a×V)}{k:a}(e:p.1=k):valV (p::r) k=some p.2:=by simp[valV,e]
theorem dQ{p:a×V}{r:List (a×V)}{k:a}(e:¬p.1=k):valV (p::r) k=valV r k:=by simp[valV,e]
theorem qI(k:a):∀kvs:List (a×V),(kvs.any λb=>decide (b.1=k))=(valV kvs k).isSome
 |[]=>rfl
 |p::r=>by
  rw[afC]
  by_cases e:p.1=k
  .simp[dJ e,decide_eq_true e]
  .rw[dQ e,decide_eq_false e];exact qI k r
theorem tj(k j:a)(y:V):∀kvs:List (a×V),valV kvs k=none->valV (kvs++[(k,y)]) j=if j=k then some y else valV kvs j
 |[],_=>by
  by_cases e:k=j
  .rw[if_pos e.symm];exact dJ (p:=(k,y)) e
  .rw[if_neg (λz=>e z.symm)];exact dQ (p:=(k,y)) e
 |p::r,hn=>by
  rw[adA];have hk:¬p.1=k:=λz=>by rw[dJ z]at hn;cases hn
  rw[dQ hk]at hn;have b:=tj k j y r hn
  by_cases e:p.1=j
  .rw[dJ e,dJ e,if_neg (λz=>hk (e.trans z))]
  .rw[dQ e,dQ e,b]
theorem jg(kvs:List (a×V))(k:a)(v:V):(putK kvs k v).length≤kvs.length+1:=by
 unfold putK
 grind
theorem G9{kvs:List (a×V)}{k:a}(v:V)(h:valV kvs k=none):putK kvs k v=kvs++[(k,v)]:=by
 unfold putK;rw[qI,h];exact if_neg ⋯
theorem RelO.isSome_eq{o:Option V}{u:Option Ad}(r:RelO o u):o.isSome=u.isSome:=by
 cases o with
 |none=>cases u with
  |none=>rfl
  |some _=>exact(r).elim
 |some _=>cases u with
  |none=>exact(r).elim
  |some _=>rfl
theorem KV.val{kvs:List (a×V)}{vs:List (a×Ad)}(r:KV kvs vs)(k:a):RelO (valV kvs k) (aeW vs k):=by
 induction r with
 |nil=>exact acB
 | @cons p q ps qs h t ih=>
  let⟨c,d⟩:=h
  by_cases e:p.1=k
  .have e':=c.symm.trans e;have b:aeW (q::qs) k=some q.2:=by simp[aeW,e']
   rw[dJ e,b];exact d
  .have e':¬q.1=k:=λz=>e (c.trans z);have b:aeW (q::qs) k=aeW qs k:=by simp[aeW,e']
   rw[dQ e,b];exact ih
theorem KV.any{kvs:List (a×V)}{vs:List (a×Ad)}(r:KV kvs vs)(k:a):(kvs.any λb=>decide (b.1=k))=vs.any λb=>decide (b.1=k):=by
 induction r with
 |nil=>rfl
 |cons h t c=>rw[afC,afC,c,h.1]
theorem KV.repl{kvs:List (a×V)}{vs:List (a×Ad)}(r:KV kvs vs)(k:a)(d:RelV y u) :
  KV (kvs.map λb=>if b.1=k then(b.1,y)else b) (vs.map λb=>if b.1=k then(b.1,u)else b):=by
 induction r with
 |nil=>exact .nil
 | @cons p q ps qs h t ih=>
  rw[aaq,aaq];refine .cons ?_ ih;let⟨c,f⟩:=h
  by_cases e:p.1=k
  .rw[if_pos e,if_pos (c.symm.trans e)];exact⟨c,d⟩
  .rw[if_neg e,if_neg (λz=>e (c.trans z))];exact⟨c,f⟩
theorem KV.put{kvs:List (a×V)}{vs:List (a×Ad)}(r:KV kvs vs)(k:a)(b:RelV y u):KV (putK kvs k y) (stored vs k u):=by
 unfold putK stored;rw[r.any k]
 by_cases e:(vs.any λc=>decide (c.1=k))=true
 .rw[if_pos e,if_pos e];exact r.repl k b
 .rw[if_neg e,if_neg e];exact Paired.snoc r ⟨rfl,b⟩
theorem KV.length{kvs:List (a×V)}{vs:List (a×Ad)}(r:KV kvs vs):kvs.length=vs.length:=agQ r
end
theorem vB{P:aax}{k:Key}(r:RelV (kV k) u):(cn P w).is k u=true:=by
 cases k with
 |inl i=>let⟨t,e⟩:=(r);subst e;exact vh P w i t
 |inr x=>let⟨t,e⟩:=(r);subst e;exact vc P w x t
theorem t9{P:aax}{w:World}:∀{ks:List Key}{us:List Ad},Vals (ks.map kV) us->ItemsAre (cn P w) ks us
 |[],_,r=>by rw[adB]at r;cases r;exact .nil
 |k::ks,_,r=>by
  cases r with
  |cons h t=>exact .cons (vB h) (t9 t)
abbrev KT(H:Hp):List (List Key×V)->List (List Key×Addr×Ad)->Prop:=abL λp q=>p.1=q.1/\H q.2.1=some (.tup (p.1.map kV))/\RelV p.2 q.2.2
theorem KT.val{kvs:List (List Key×V)}(r:KT H kvs xs)(k:List Key):RelO (valV kvs k) ((atKey xs k).map (·.2)):=by
 induction r with
 |nil=>exact acB
 | @cons p q ps qs h t ih=>
  let⟨c,_,d⟩:=h
  by_cases e:p.1=k
  .have e':=c.symm.trans e;have b:atKey (q::qs) k=some q.2:=by simp[atKey,e']
   rw[dJ e,b];exact d
  .have e':¬q.1=k:=λz=>e (c.trans z);have b:atKey (q::qs) k=atKey qs k:=by simp[atKey,e']
   rw[dQ e,b];exact ih
theorem KT.repl{kvs:List (List Key×V)}(r:KT H kvs xs)(k:List Key)(g:RelV y u) :
  KT H (kvs.map λc=>if c.1=k then(c.1,y)else c) (xs.map (putAt k u)):=by
 induction r with
 |nil=>exact .nil
 | @cons p q ps qs h t ih=>
  rw[aaq];refine .cons ?_ ih;let⟨b,d,f⟩:=h;unfold putAt
  by_cases e:p.1=k
  .rw[if_pos e,if_pos (b.symm.trans e)];exact⟨b,d,g⟩
  .rw[if_neg e,if_neg (λz=>e (b.trans z))];exact⟨b,d,f⟩
theorem KT.put{kvs:List (List Key×V)}(r:KT H kvs xs)(k:List Key){b:Addr}(h:H b=some (.tup (k.map kV)))(c:RelV y u) :
  KT H (putK kvs k y) (storedH xs k b u):=by
 have e:(kvs.any λd=>decide (d.1=k))=(atKey xs k).isSome:=by
  rw[qI,(r.val k).isSome_eq,afu]
 unfold putK storedH;rw[e]
 by_cases q:(atKey xs k).isSome=true
 .rw[if_pos q,if_pos q];exact r.repl k c
 .rw[if_neg q,if_neg q];exact Paired.snoc r ⟨rfl,h,c⟩
def KT.keeps{kvs:List (List Key×V)}(r:KT H kvs xs)(h:∀b ys,H b=some (.tup ys)->H' b=some (.tup ys)):KT H' kvs xs:=
 Paired.mapP r λ_ _ z=>⟨z.1,h _ _ z.2.1,z.2.2⟩
section
variable {P:aax}{w:World}{H:Hp}{h:aaZ}{a:Addr}
def Xi{u:HO}(ok:HOk P w H h)(e:Rd H a u):ObjOk P w H h a u:=e.ok ok
def qG{kvs:List (Key×V)}(ok:HOk P w H h)(e:Rd H a (.dK kvs)):kvs.length≤aak/\(a==abG)=false/\∃vs,KV kvs vs/\h.DictOf (cn P w) a vs:=
 Xi ok e
def T7{kvs:List (Key×V)}(ok:HOk P w H h)(e:H a=some (.dK kvs)):kvs.length≤aak/\(a==abG)=false/\∃vs,KV kvs vs/\h.DictOf (cn P w) a vs:=qG ok (.inl e)
def va{ks:List Key}(ok:HOk P w H h)(e:H a=some (.tup (ks.map kV))):(agE (cn P w)).is h ks a:=by
 let⟨_,b,r,o,f,c,hd,n,d⟩:=(ok a _ e);exact⟨o,b.toArray,n,f,c,d,by simpa using t9 r⟩
theorem Cn{kvs:List (List Key×V)}(ok:HOk P w H h)(e:Rd H a (.dT kvs)):kvs.length≤aak/\(a==abG)=false/\
  ∃xs,KT H kvs xs/\h.DictOfH (agE (cn P w)) a xs:=by
 let⟨z,y,xs,r,o,k,c,d,s,n,f,g⟩:=(Xi ok e);refine⟨z,y,xs,r,o,k,c,d,s,n,f,λx b=>?_,g⟩;have all:∀{l:List _}{m:List _},KT H l m->∀x∈m,(agE (cn P w)).is h x.1 x.2.1:=by
  intro l m q
  induction q with
  |nil=>intro x b;exact nomatch b
  | @cons p q ps qs hq t ih=>
   intro x b;rcases aag.mp b with e|b
   .subst e;exact va ok (by simp_all)
   .exact ih x b
 exact all r x b
def XW{kvs:List (List Key×V)}(ok:HOk P w H h)(e:H a=some (.dT kvs)):kvs.length≤aak/\(a==abG)=false/\
  ∃xs,KT H kvs xs/\h.DictOfH (agE (cn P w)) a xs:=Cn ok (.inl e)
end
def DGet(H:Hp)(a:Addr)(y:V)(r:Option V):Prop:=
 (∃kvs k,Rd H a (.dK kvs)/\y=kV k/\r=valV kvs k)\/∃kvs k b,Rd H a (.dT kvs)/\y = .ref b/\H b=some (.tup (k.map kV))/\r=valV kvs k
def DPut(H:Hp)(a:Addr)(y v:V)(H':Hp):Prop:=
 (∃kvs k,H a=some (.dK kvs)/\y=kV k/\kvs.length<aak/\H'=upd H a (.dK (putK kvs k v))) \/
 ∃kvs k b,H a=some (.dT kvs)/\y = .ref b/\H b=some (.tup (k.map kV))/\kvs.length<aak/\H'=upd H a (.dT (putK kvs k v))
theorem DGet.k{kvs:List (Key×V)}{k:Key}(e:H a=some (.dK kvs)):DGet H a (kV k) (valV kvs k):=.inl ⟨kvs,k,.inl e,rfl,rfl⟩
theorem DPut.k{kvs:List (Key×V)}{k:Key}(e:H a=some (.dK kvs))(h:kvs.length<aak):DPut H a (kV k) v (upd H a (.dK (putK kvs k v))):=.inl ⟨kvs,k,e,rfl,h,rfl⟩
section
variable {X:Cx}{d:List 'i'}{f:St}{H:Hp}{s:GT}{a:Addr}{y v:V}{u r:Ad}{o:Option V}{A:aa8}{E:Ad->GT->Prop}
def Inv.big(I:Inv X d f H s):abG<s.heap.objs.size:=by
 have h:=(I.mod.glob.keeps I.bk).lt;exact aej ⋯ h
theorem uR(G:A.units+1<cLine)(I:Inv X d f H s)(g:DGet H a y (some v))(D:RelV y u)(h:∀n s',Inv X d f H s'->RelV v n->Q n s') :
  wpAny (model X.prog X.w) A (aeA (.ref a) u) Q E s:=by
 rcases g with⟨kvs,k,e,B,l⟩|⟨kvs,k,b,e,B,eb,l⟩
 .subst B;let⟨z,hd,vs,m,q⟩:=qG I.hok e;let⟨n,C,c⟩:=RelO.some_of (v:=v) (o:=aeW vs k) (by rw[l];exact m.val k);exact wpAny_getItem_of (vB D) q.mapOf C (h n _ (I.tok _) c)
 .subst B
  cases (show u=abk b from D)
  let⟨z,hd,xs,m,q⟩:=Cn I.hok e;let⟨n,C,c⟩:=RelO.some_of (v:=v) (o:=(atKey xs k).map (·.2)) (by rw[l];exact m.val k);let⟨p,F,x⟩:=aek.mp C;refine wpAny_getItem_heap (ad4 G) (va I.hok eb) q F ?_;rw[x];exact h n _ (I.tok _) c
theorem d_in(B:A.units+1<cLine)(I:Inv X d f H s)(g:DGet H a y o)(x:RelV y u)(h:∀s',Inv X d f H s'->Q (.bool o.isSome) s') :
  wpAny (model X.prog X.w) A (aa0 .In u (.ref a)) Q E s:=by
 rcases g with⟨kvs,k,e,n,l⟩|⟨kvs,k,b,e,n,eb,l⟩
 .subst n;let⟨z,hd,vs,c,m⟩:=qG I.hok e;refine wpAny_in_of (vB x) hd m.mapOf ?_;rw[<-(c.val k).isSome_eq,<-l];exact h _ (I.tok _)
 .subst n;cases (x);let⟨z,hd,xs,c,m⟩:=Cn I.hok e;refine wpAny_in_heap (ad4 B) (va I.hok eb) hd m ?_;have q:=(c.val k).isSome_eq;rw[afu]at q;rw[<-q,<-l];exact h _ (I.tok _)
theorem Qo(B:A.units+1<cLine)(I:Inv X d f H s)(g:DGet H a y o)(x:RelV y u)(h:∀s',Inv X d f H s'->Q (.bool (!o.isSome)) s') :
  wpAny (model X.prog X.w) A (aa0 .NotIn u (.ref a)) Q E s:=by
 rcases g with⟨kvs,k,e,n,l⟩|⟨kvs,k,b,e,n,eb,l⟩
 .subst n;let⟨z,hd,vs,c,m⟩:=qG I.hok e;refine wpAny_notIn_of (vB x) hd m.mapOf ?_;rw[<-(c.val k).isSome_eq,<-l];exact h _ (I.tok _)
 .subst n;cases (x);let⟨z,hd,xs,c,m⟩:=Cn I.hok e;refine wpAny_notIn_heap (ad4 B) (va I.hok eb) hd m ?_;have q:=(c.val k).isSome_eq;rw[afu]at q;rw[<-q,<-l];exact h _ (I.tok _)
def rH{t':Nat}{c:HO}(I:Inv X d f H s)(mu:Mut (H a))(h:abl a s.heap h')(g:∃q,h'.get? a=some q)(new:ObjOk X.prog X.w (upd H a c) h' a c) :
  Inv X d f (upd H a c) {s with heap:=h',toks:=t' }:=
 I.write mu (.inl rfl) (λb q k z=>(h.2 b k).trans z) g new
def Kh{P:aax}{kvs:List (Key×V)}{vs:List (Key×Ad)}(z:kvs.length≤aak)(hd:(a==abG)=false)(b:KV kvs vs)(c:h'.DictOf (cn P w) a vs) :
  ObjOk P w H' h' a (.dK kvs):=⟨z,hd,vs,b,c⟩
theorem Ac{Q:Unit->GT->Prop}(P:A.units+1<cLine)(I:Inv X d f H s)(g:DPut H a y v H')(M:RelV y u)(N:RelV v r)(h:∀s',Inv X d f H' s'->Q () s') :
  wpAny (model X.prog X.w) A (setItem (.ref a) u r) Q E s:=by
 rcases g with⟨kvs,k,e,F,l,G⟩|⟨kvs,k,b,e,F,eb,l,G⟩
 .subst F G;let⟨z,hd,vs,m,B⟩:=T7 I.hok e;have C:vs.length≤aak:=by rw[<-m.length];exact z
  have D:(putK kvs k v).length≤aak:=by have:=jg kvs k v;exact aaA ‹_› ‹_›
  refine wpAny_setItem_pairs (hsz:=C) (vB M) B λh' n J=>h _ ?_;have O:∃q,h'.get? a=some q:=let ⟨q,_,_,x,_⟩:=n;⟨q,x⟩;exact rH I (by rw[e];exact acB) J O (Kh D hd (m.put k N) n)
 .subst F G;cases (M);let⟨z,hd,xs,m,B⟩:=XW I.hok e;have C:xs.length≤aak:=by rw[<-agQ m];exact z
  have D:(putK kvs k v).length≤aak:=by have:=jg kvs k v;exact aaA ‹_› ‹_›
  refine wpAny_setItem_heap (hsz:=C) (ad4 P) (va I.hok eb) B λh' n J=>h _ ?_;let⟨q,S,U,x,W,T,V,_,R⟩:=n;refine rH I (by rw[e];exact acB) J ⟨q,x⟩ ⟨D,hd,_,(m.put k eb N).keeps λc Y L=>?_,q,S,U,x,W,T,V,R⟩;rw[av (wd L e (λz=>nomatch z))];exact L
end
def NoSl(i:Expr):Prop:=∀o b,agw i false o b=operate [o,b] (aeA o b)
theorem Ai{A:aa8}{E:Ad->GT->Prop}{s:GT}{env:Env}{c b:Expr}{T id:String}
  (C:typeLookup (.type T) "__getitem__" = pure (some (.builtin id))) (B:NoSl b)
  (h:wpAny (model prog w) A (eval c env) (λo g=>wpAny (model prog w) A (eval b env) (λi d=>d.TypeIs o T/\wpAny (model prog w) A (aeA o i) Q E d) E g) E s) :
  wpAny (model prog w) A (eval (.Subscript c b pos) env) Q E s:=by
 refine ag0 (ab9 h (λo g n=>ab9 n (λi d f=>?_) λ_ _ x=>x) λ_ _ x=>x);let⟨z,f⟩:=f;unfold agT;refine gT ?_;rw[getitemInPython_of_ne z.not_modules];refine gT (aeO z C ?_);have m:wpAny (model prog w) A (agw b false o i) (λr k=>wpAny (model prog w) A (letTemporaryGo c o r >>= λ_=>pure r) Q E k) E d:=by
  rw[B o i];exact wpAny_operating (ab9 f (λr k q=>gT (wpAny_letTemporaryGo (LD q))) λ_ _ x=>x)
 first
  |exact LD (gT m)
  |exact gT (LD (gT m))
  |exact gT m
theorem vF{c:List 'i'}{d:St}{s:GT}{o:Option V}(I:Inv X c d H s)(g:DGet H a y o):s.TypeIs (.ref a) "dict":=by
 rcases g with⟨kvs,k,e,_,_⟩|⟨kvs,k,b,e,_,_,_⟩
 .obtain⟨_,_,vs,_,dd⟩:=qG I.hok e;exact dd.typeIs
 .obtain⟨_,_,xs,_,dd⟩:=Cn I.hok e;exact dd.typeIs
def YM(d ty:TE):TE:=λc H Q=>d c H λx f=>ty c f λy b=>∃a v,x = .ref a/\DGet b a y (some v)/\Q v b
def YJ(f ty g:TE):TS:=λD b H=>g b H λv k=>f b k λx d=>ty b d λy h=>∃a c,x = .ref a/\DPut h a y v c/\D.nx b c
section
variable {X:Cx}{o i e b:Expr}{pos p c:Pos}{t ty d:TE}
theorem OY(C:X.A.units+1<cLine)(F:PE X o t)(z:PE X i ty)(G:NoSl i):PE X (.Subscript o i pos) (YM t ty):=by
 intro f s m H Q I h;refine Ai afn.lookup G (thn (F f s m H _ I h) λu s1 ⟨x,E,L,n,D⟩=>thn (z f s1 m E _ L D) λN s2 ⟨y,A,k,J,a,v,ex,g,B⟩=>?_);subst ex;obtain rfl:u=abk a:=n;exact⟨vF k g,uR C k g J λM O q r=>⟨v,A,q,r,B⟩⟩
theorem Oa(z:X.A.units+1<cLine)(P:PE X o t)(J:PE X i ty)(q:PE X b d)(R:abE b (some (.Subscript o i p)) pos.line X.env=pure false) :
  PS X (.Assign [.Subscript o i p] b pos) (YJ t ty d):=by
 intro f s k H D I h;refine af7 (thn (q f s k H _ I h) λr s1 ⟨v,A,C,E,O⟩=>thn (P f s1 k A _ C O) λu s2 ⟨x,L,N,m,M⟩=>thn (J f s2 k L _ N M) λU W ⟨y,V,n,B,a,G,ex,g,F⟩=>?_) R;subst ex;obtain rfl:u=abk a:=m;exact Ac z n g B E λT S=>⟨k,G,S,F⟩
end
def wN{P:aax}(h:aaZ)(b:abG<h.objs.size):ObjOk P w H (h.push {cls:=.type "dict",data:=.dict #[]}) h.objs.size (.dK []):=
 ⟨abB _,beq_eq_false_iff_ne.mpr (abF (aa1 b)),[],.nil,aaZ.DictOf.new h⟩
def VC:TE:=λ_ H Q=>∀p,H p=none->Q (.ref p) (upd H p (.dK []))
section
variable {X:Cx}{pos:Pos}
theorem pe_dnewK:PE X (.Dict [] [] pos) VC:=λb s c H Q I h=>
 wpAny_Dict_empty ⟨.ref s.heap.objs.size,_,I.laid (t':=s.toks) (λ_ _ q=>Io _ q) (aaa _) (wN s.heap I.big),rfl,h _ (I.hok.fresh (aaa _))⟩
end
def wJ:List (TE×TE)->St->Hp->(List (V×V)->Hp->Prop)->Prop
 |[],_,H,Q=>Q [] H
 |(tk,tv)::r,σ,H,Q=>tk σ H λx f=>tv σ f λy b=>wJ r σ b λc d=>Q ((x,y)::c) d
abbrev VV:List (V×V)->List (Ad×Ad)->Prop:=abL λp q=>RelV p.1 q.1/\RelV p.2 q.2
def PPs(X:Cx)(pos:Pos)(keys:List (Option Expr))(values:List Expr)(trs:List (TE×TE)):Prop:=
 ∀(b:List 'i') (s:GT) (c:St) (H:Hp) (Q:List (V×V)->Hp->Prop),Inv X b c H s->wJ trs c H Q ->
  wpAny (model X.prog X.w) X.A (evalPairs (pairTrees keys values X.env pos)) (λvs f=>∃d H',Inv X b c H' f/\VV d vs/\Q d H') X.xe s
theorem LG:PPs X pos [] [] []:=λb s c H Q I h=>pairTrees_nil_walk ⟨[],H,I,.nil,h⟩
theorem Ji{k v:Expr}{vs:List Expr}{d f:TE}(hk:PE X k d)(o:PE X v f)(q:PPs X pos ks vs trs) :
  PPs X pos (some k::ks) (v::vs) ((d,f)::trs):=λb s c H Q I h=>
 pairTrees_cons_walk (thn (hk b s c H _ I h) λu s1 ⟨x,E,G,g,B⟩=>thn (o b s1 c E _ G B) λL s2 ⟨y,z,C,F,A⟩=>
  thn (q b s2 c z _ C A)<|by intro ws M ⟨m,D,n,r,J⟩;exact⟨(x,y)::m,D,n,.cons ⟨g,F⟩ r,J⟩)
def kZ(kvs more:List (Key×V)):List (Key×V):=more.foldl (λb k=>putK b k.1 k.2) kvs
theorem KV.merge:∀{more:List (Key×V)}{rs:List (Key×Ad)}{kvs:List (Key×V)}{vs:List (Key×Ad)},KV more rs->KV kvs vs->KV (kZ kvs more) (merged vs rs):=by
 intro more rs kvs vs r;unfold KV at r
 induction r generalizing kvs vs with
 |nil=>intro q;exact q
 | @cons p q ps qs h t ih=>
  intro b;have e:KV (putK kvs p.1 p.2) (stored vs q.1 q.2):=by
   have:=b.put p.1 h.2;rw[<-h.1];exact this
  exact ih e
theorem jJ:∀(more kvs:List (Key×V)),(kZ kvs more).length≤kvs.length+more.length
 |[],kvs=>by show kvs.length≤kvs.length+0;omega
 |p::r,kvs=>by
  have h:=jJ r (putK kvs p.1 p.2);have b:=jg kvs p.1 p.2;show(kZ (putK kvs p.1 p.2) r).length≤_;rw[aau];omega
theorem qi{P:aax}{w:World}:∀{kvs:List (Key×V)}{ws:List (Ad×Ad)},VV (kvs.map λk=>(kV k.1,k.2)) ws->∃rs,Carries (cn P w) ws rs/\KV kvs rs
 |[],_,r=>by rw[adB]at r;cases r;exact⟨[],acB,.nil⟩
 | p::kvs,_,r=>by
  rw[aaq]at r
  cases r with
  | @cons a b as bs h t=>
   let⟨rs,c,q⟩:=qi (P:=P) (w:=w) t;let⟨b1,b2⟩:=b;exact⟨(p.1,b2)::rs,⟨vB h.1,rfl,c⟩,.cons ⟨rfl,h.2⟩ q⟩
def Y9(trs:List (TE×TE)):TE:=λd H Q=>∀p,H p=none->wJ trs d (upd H p (.dK [])) λc b=>b p=some (.dK [])/\∃kvs:List (Key×V),c=kvs.map (λk=>(kV k.1,k.2))/\kvs.length≤15/\Q (.ref p) (upd b p (.dK (kZ [] kvs)))
theorem NU{keys:List (Option Expr)}(h:PPs X pos keys values trs)(b:keys.all (·.isSome)=true)(D:keys.length=values.length)(O:keys≠[])
  (g:keys.length≤15):PE X (.Dict keys values pos) (Y9 trs):=by
 intro f s C H Q I q;have N:=I.hok.fresh (aaa s.heap.objs.size);have E:=I.laid (a:=s.heap.objs.size) (o:=.dK []) (h':=s.heap.push {cls:=.type "dict",data:=.dict #[]}) (t':=s.toks) (λ_ _ q=>Io _ q) (aaa _) (wN s.heap I.big);refine wpAny_Dict_walk (knd:=cn X.prog X.w) b D O g (thn (h f _ C _ _ E (q _ N)) λws s2 ⟨S,T,k,r,e,kvs,F,R,J⟩=>?_);subst F;let⟨rs,c,G⟩:=qi (P:=X.prog) (w:=X.w) r;let⟨z,hd,B,L,m⟩:=T7 k.hok e;cases L;refine⟨rs,c,m,λh' d M=>⟨.ref s.heap.objs.size,_,?_,rfl,J⟩⟩;have x:(kZ [] kvs).length≤aak:=by
  have n:=jJ kvs [];rw[aeP]at n;rw[aas];omega
 have A:∃q,h'.get? s.heap.objs.size=some q:=let ⟨q,_,_,hq,_⟩:=d;⟨q,hq⟩;exact rH k (by rw[e];exact acB) M A (Kh x hd (G.merge .nil) d)
section
variable {K:Kd}{H H':Hp}{τ:List 'h'}
mutual
theorem TAt.monoP(f:Pers H H'):∀{d:aD}{p:List Nat}{v:V},(∀q a,τ.lookup (p++q)=some a->H' a=H a)->TAt K H τ p d v->TAt K H' τ p d v
 | .none,_,_,_,h=>by simp only[TAt]at h⊢;exact h.mono f
 | .bool _,_,_,_,h=>by simp only[TAt]at h⊢;exact h.mono f
 | .int _,_,_,_,h=>by simp only[TAt]at h⊢;exact h.mono f
 | .str _,_,_,_,h=>by simp only[TAt]at h⊢;exact h.mono f
 | .tuple _,_,_,_,h=>by simp only[TAt]at h⊢;exact h.mono f
 | .list ts,p,_,e,h=>by
  simp only[TAt]at h⊢;let⟨a,xs,b,n,m,g⟩:=h;exact⟨a,xs,b,n,(e [] a (by rw[aa4];exact b)).trans m,TAtL.monoP f (λi q a z=>e (i::q) a z) g⟩
 | .dict kvs,p,_,e,h=>by
  simp only[TAt]at h⊢;rcases h with⟨d,b,h⟩|⟨s,o,a,r,b,n,m,k,g⟩|⟨s,o,a,r,b,n,m,g⟩|⟨c,a,dx,C,xs,x,b,n,m,k,g⟩
  .exact .inl ⟨d,b,h.mono f⟩
  .exact .inr (.inl ⟨s,o,a,r,b,n,(e [] a (by rw[aa4];exact b)).trans m,k,TAtD.monoP f (λi q a z=>e (i::q) a z) g⟩)
  .exact .inr (.inr (.inl ⟨s,o,a,r,b,n,(e [] a (by rw[aa4];exact b)).trans m,TAtK.monoP f (λi q a z=>e (i::q) a z) g⟩))
  .exact .inr (.inr (.inr ⟨c,a,dx,C,xs,x,b,n,(e [] a (by rw[aa4];exact b)).trans m,k,TAtF.monoP f (λi q a z=>e (i::q) a z) g⟩))
theorem TAtL.monoP(b:Pers H H'):∀{ds:List aD}{p:List Nat}{i:Nat}{xs:List V},(∀i q a,τ.lookup (p++i::q)=some a->H' a=H a)->TAtL K H τ p i ds xs->TAtL K H' τ p i ds xs
 |[],_,_,_,_,h=>by simpa only[TAtL]using h
 |t::ts,p,i,_,e,h=>by
  simp only[TAtL]at h⊢;let⟨v,vs,c,g,d⟩:=h;exact⟨v,vs,c,TAt.monoP b (λq a z=>e i q a (by simpa using z)) g,TAtL.monoP b e d⟩
theorem TAtD.monoP(b:Pers H H'):∀{ds:List (aD×aD)}{p:List Nat}{i:Nat}{xs:List (Int×V×V)},(∀i q a,τ.lookup (p++i::q)=some a->H' a=H a)->TAtD K H τ p i ds xs->TAtD K H' τ p i ds xs
 |[],_,_,_,_,h=>by simpa only[TAtD]using h
 |(k,t)::r,p,i,_,e,h=>by
  simp only[TAtD]at h⊢;let⟨u,v,vs,d,g,c,f⟩:=h;exact⟨u,v,vs,d,g.mono b,TAt.monoP b (λq a z=>e i q a (by simpa using z)) c,TAtD.monoP b e f⟩
theorem TAtK.monoP(b:Pers H H'):∀{ds:List (aD×aD)}{p:List Nat}{i:Nat}{xs:List (Key×V)},(∀i q a,τ.lookup (p++i::q)=some a->H' a=H a)->TAtK K H τ p i ds xs->TAtK K H' τ p i ds xs
 |[],_,_,_,_,h=>by simpa only[TAtK]using h
 |(k,t)::r,p,i,_,e,h=>by
  simp only[TAtK]at h⊢;let⟨u,v,vs,d,g,c,f⟩:=h;exact⟨u,v,vs,d,g,TAt.monoP b (λq a z=>e i q a (by simpa using z)) c,TAtK.monoP b e f⟩
theorem TAtF.monoP(b:Pers H H'):∀{ds:List (aD×aD)}{p:List Nat}{i:Nat}{xs:List (Str×V)},(∀i q a,τ.lookup (p++i::q)=some a->H' a=H a)->TAtF K H τ p i ds xs->TAtF K H' τ p i ds xs
 |[],_,_,_,_,h=>by simpa only[TAtF]using h
 |(.str f,t)::r,p,i,_,e,h=>by
  simp only[TAtF]at h⊢;let⟨v,vs,c,g,k⟩:=h;exact⟨v,vs,c,TAt.monoP b (λq a z=>e i q a (by simpa using z)) g,TAtF.monoP b e k⟩
 |(.none,d)::r,_,_,_,e,h=>by simp only[TAtF]at h⊢;exact TAtF.monoP b e h
 |(.bool _,d)::r,_,_,_,_,h=>by simp only[TAtF]at h
 |(.int _,d)::r,_,_,_,_,h=>by simp only[TAtF]at h
 |(.list _,d)::r,_,_,_,_,h=>by simp only[TAtF]at h
 |(.tuple _,d)::r,_,_,_,_,h=>by simp only[TAtF]at h
 |(.dict _,d)::r,_,_,_,_,h=>by simp only[TAtF]at h
end
end
def setT:aD->List Nat->aD->aD
 |_,[],n=>n
 | .list ts,i::p,n=>.list (ts.set i (setT (ts.getD i .none) p n))
 | .dict kvs,i::p,n=>.dict (kvs.set i ((kvs.getD i (.none,.none)).1,setT (kvs.getD i (.none,.none)).2 p n))
 |t,_::_,_=>t
section
variable {K:Kd}{H b:Hp}{τ:List 'h'}{p q:List Nat}{P:List Nat}
theorem TAtL.setL(f:Pers H b){t':aD}:∀{ts:List aD}{i j:Nat}{xs:List V},TAtL K H τ p i ts xs->(∀v,xs[j]?=some v->TAt K b τ (p++[i+j]) t' v)->(∀l,l≠i+j->∀q a,τ.lookup (p++l::q)=some a->b a=H a)->TAtL K b τ p i (ts.set j t') xs
 |[],_,_,_,h,_,_=>by simpa only[List.set_nil,TAtL]using h
 | t::ts,i,0,xs,h,c,e=>by
  simp only[TAtL]at h;let⟨v,vs,rfl,_,g⟩:=h;refine⟨v,vs,rfl,c v rfl,?_⟩;clear c;have:∀{ts:List aD}{d:Nat}{vs:List V},i<d->TAtL K H τ p d ts vs->TAtL K b τ p d ts vs:=by
   intro ts
   induction ts with
   |nil=>intro d vs _ h;simpa only[TAtL]using h
   |cons t ts o=>
    intro d vs n h;simp only[TAtL]at h⊢;let⟨v,vs,rfl,k,g⟩:=h;exact⟨v,vs,rfl,TAt.monoP f (λq a z=>e d (by exact abp ‹_›) q a (by simpa using z)) k,o ∅ g⟩
  exact this (abz i) g
 |t::ts,i,j+1,xs,h,c,e=>by
  simp only[TAtL]at h;let⟨v,vs,rfl,k,g⟩:=h;exact⟨v,vs,rfl,TAt.monoP f (λq a z=>e i 'a' q a (by simpa using z)) k,TAtL.setL f g (λm z=>by rw[show i+1+j=i+(j+1) by omega];exact c m (by simpa using z)) λl n=>e l ∅⟩
theorem TAtK.rest(d:Pers H b){i:Nat}(e:∀l,l≠i->∀q a,τ.lookup (p++l::q)=some a->b a=H a):∀{ts:List (aD×aD)}{c:Nat}{vs:List (Key×V)},i<c->TAtK K H τ p c ts vs->TAtK K b τ p c ts vs
 |[],_,_,_,h=>by simpa[TAtK]
 |_::ts,c,vs,hl,h=>by
  let⟨k,v,vs,rfl,j,g,f⟩:=h;exact⟨k,v,vs,rfl,j,TAt.monoP d (λq a z=>e c (by exact abp ‹_›) q a (by simpa using z)) g,TAtK.rest d e ∅ f⟩
theorem TAtK.setK(n:Pers H b){t':aD}:∀{ts:List (aD×aD)}{i j:Nat}{xs:List (Key×V)}{d f:aD},TAtK K H τ p i ts xs->ts[j]?=some (d,f)->(∀v,(∃kk,xs[j]?=some (kk,v))->TAt K b τ (p++[i+j]) t' v)->(∀l,l≠i+j->∀q a,τ.lookup (p++l::q)=some a->b a=H a)->TAtK K b τ p i (ts.set j (d,t')) xs
 |[],_,_,_,_,_,_,z,_,_=>by simp at z
 |(k,t)::ts,i,0,xs,d,f,h,z,c,e=>by
  simp at z;let⟨rfl,rfl⟩:=z;simp only[TAtK]at h;let⟨kk,v,vs,rfl,m,_,o⟩:=h;exact⟨kk,v,vs,rfl,m,c v ⟨kk,rfl⟩,TAtK.rest n e (abz i) o⟩
 |(k,t)::ts,i,j+1,xs,d,f,h,z,c,e=>by
  let⟨kk,v,vs,rfl,m,s,o⟩:=h;exact⟨kk,v,vs,rfl,m,TAt.monoP n (λq a z=>e i ∅ q a (by simpa using z)) s,TAtK.setK n o (by simpa using z) (by intro r ⟨g,z⟩;rw[show i+1+j=i+(j+1) by omega];exact c r ⟨g,by simpa using z⟩) λl u=>e l ∅⟩
end
theorem xw(nd:(τ.map (·.2)).Nodup){q:List Nat}(h:τ.lookup p=some a)(c:τ.lookup q=some a):p=q:=by
 induction τ with
 |nil=>cases h
 | cons x τ i=>
  let⟨r,b⟩:=x;rw[aaq,abb]at nd;rw[aa6]at h c
  by_cases d:p==r
  .rw[d]at h;cases h
   by_cases e:q==r
   .simp_all
   .simp only[afN]at e;rw[e]at c;exact(nd.1 (bI c)).elim
  .simp only[afN]at d;rw[d]at h
   by_cases e:q==r
   .rw[e]at c;cases c;exact(nd.1 (bI h)).elim
   .simp only[afN]at e;rw[e]at c;exact i nd.2 h c
def oh:aD->aD->Bool
 | .int a,.int b=>decide (a=b)
 | .str a,.str b=>decide (a=b)
 |_,_=>false
def oO(a b:Key):oh (keyD a) (keyD b)=decide (a=b):=by
 cases a<;>cases b<;>simp[keyD,oh]
def pH(k:aD):Nat->List (aD×aD)->Option (Nat×aD)
 |_,[]=>none
 |i,(k',t)::r=>if oh k' k=true then some (i,t)else pH k (i+1) r
def putD(k t:aD):List (aD×aD)->List (aD×aD)
 |[]=>[(k,t)]
 |(k',t')::r=>if oh k' k=true then(k',t)::r else(k',t')::putD k t r
def lfD:aD->aD
 | .list ds=>.dict [(.none,.list ds)]
 | .dict ds=>.dict [(.none,.dict ds)]
 |d=>d
theorem sn(h:isKd kvs=true):fzOf kvs=none/\excC kvs=none:=by
 cases kvs with
 |nil=>exact⟨rfl,rfl⟩
 |cons x r=>
  let⟨k,d⟩:=x
  cases k with
  |int _=>exact⟨rfl,rfl⟩
  |str _=>exact⟨rfl,rfl⟩
  |none=>simp[isKd]at h
  |bool _=>simp[isKd]at h
  |list _=>simp[isKd]at h
  |tuple _=>simp[isKd]at h
  |dict _=>simp[isKd]at h
section
variable {K:Kd}{H:Hp}{τ:List 'h'}{p:List Nat}
theorem TAtK.get':∀{ts:List (aD×aD)}{i j:Nat}{xs:List (Key×V)}{k t:aD},TAtK K H τ p i ts xs->ts[j]?=some (k,t)->∃kk v,xs[j]?=some (kk,v)/\k=keyD kk/\TAt K H τ (p++[i+j]) t v
 |[],_,_,_,_,_,_,e=>by simp at e
 |(k,t)::ts,i,0,xs,k',t',h,e=>by
  let⟨u,v,vs,rfl,g,c,_⟩:=h;simp at e;let⟨rfl,rfl⟩:=e;exact⟨u,v,rfl,g.1,c⟩
 |(k,t)::ts,i,j+1,xs,k',t',h,e=>by
  let⟨u,v,vs,rfl,_,_,d⟩:=h;let⟨kk,a,f,l,b⟩:=TAtK.get' (j:=j) d ‹_›;exact⟨kk,a,by simpa using f,l,by rw[show i+(j+1)=i+1+j by omega];exact b⟩
theorem TAtK.kd:∀{ts:List (aD×aD)}{i:Nat}{xs:List (Key×V)},TAtK K H τ p i ts xs->isKd ts=true
 |[],_,_,_=>rfl
 |_::ts,i,xs,h=>by
  let⟨u,v,vs,rfl,a,_,g⟩:=h;have:=g.kd;unfold isKd at this⊢;rw[abZ,this,a.1]
  cases u<;>rfl
theorem TAtK.len:∀{ts:List (aD×aD)}{i:Nat}{xs:List (Key×V)},TAtK K H τ p i ts xs->ts.length=xs.length
 |[],_,_,h=>by simp[TAtK]at h;subst h;rfl
 |(k,t)::ts,i,xs,h=>by
  let⟨u,v,vs,rfl,a,_,g⟩:=h;simp[g.len]
theorem TAtK.look{kk:Key}:∀{ts:List (aD×aD)}{i j:Nat}{xs:List (Key×V)}{t:aD},TAtK K H τ p i ts xs->pH (keyD kk) i ts=some (j,t)->∃v,valV xs kk=some v/\TAt K H τ (p++[j]) t v
 |[],_,_,_,_,_,e=>by cases e
 |(k,t)::ts,i,j,xs,t',h,e=>by
  simp only[TAtK]at h;let⟨u,v,vs,rfl,g,d,f⟩:=h;let⟨rfl,_⟩:=g;simp only[pH,oO]at e
  by_cases c:u=kk
  .rw[if_pos (decide_eq_true c)]at e;cases e;exact⟨v,dJ (p:=(u,v)) c,d⟩
  .rw[if_neg (by simpa using c)]at e;let⟨a,l,b⟩:=TAtK.look f e;exact⟨a,by rw[dQ (p:=(u,v)) c];exact l,b⟩
theorem uD{u:Key}{w:V}{vs:List (Key×V)}(c:u≠kk):putK ((u,w)::vs) kk v=(u,w)::putK vs kk v:=by
 unfold putK
 grind
theorem tW{w:V}{vs:List (Key×V)}(h:∀x∈vs,x.1≠kk):putK ((kk,w)::vs) kk v=(kk,v)::vs:=by
 unfold putK;rw[afC,decide_eq_true (rfl),Bool.true_or,if_pos rfl,aaq,if_pos rfl]
 congr 1
 exact(acT λx a=>if_neg (h x a)).trans (ahz _)
def Gi{vs:List (Key×V)}{x:Key×V}(h:x∈putK vs kk v):x.1=kk\/∃y∈vs,y.1=x.1:=by
 unfold putK at h
 split at h
 .obtain⟨y,h1,h2⟩:=aar.mp h;subst h2;refine .inr ⟨y,h1,?_⟩
  split<;>rfl
 .obtain h|h:=aaR.mp h
  .exact .inr ⟨x,h,rfl⟩
  .cases aaf.mp h
   exact .inl rfl
theorem TAtK.put{v':V}(c:∀j,TAt K H τ (p++[j]) t' v'):∀{ts:List (aD×aD)}{i:Nat}{xs:List (Key×V)},TAtK K H τ p i ts xs->TAtK K H τ p i (putD (keyD kk) t' ts) (putK xs kk v')
 |[],i,xs,h=>by
  simp only[TAtK]at h;subst h;exact⟨kk,v',[],rfl,⟨rfl,λx a=>by cases a⟩,c i,rfl⟩
 | (k,t)::ts,i,xs,h=>by
  let⟨u,v,vs,rfl,g,f,b⟩:=h;let⟨rfl,g⟩:=g;simp only[putD,oO]
  by_cases e:u=kk
  .subst e;rw[if_pos (decide_eq_true rfl),tW g];simp only[TAtK];exact⟨u,v',vs,rfl,⟨rfl,g⟩,c i,b⟩
  .rw[if_neg (by simpa using e),uD e];simp only[TAtK];refine⟨u,v,_,rfl,⟨rfl,λx a=>?_⟩,f,b.put c⟩;rcases Gi a with z|⟨y,d,z⟩
   .rw[z];exact λw=>e w.symm
   .rw[<-z];exact g y d
theorem ot{d:aD}(h:Den K H d v):TAt K H τ p (lfD d) v:=by
 cases d with
 |list ds=>simp[lfD];exact .inl ⟨_,rfl,h⟩
 |dict ds=>simp[lfD];exact .inl ⟨_,rfl,h⟩
 |none=>simpa[ TAt]
 |bool _=>simpa[lfD]
 |int _=>simpa[ TAt]
 |str _=>simpa[lfD]
 |tuple _=>simpa[ TAt]
theorem TAt.kd(h:TAt K H τ p (.dict kvs) v)(e:isKd kvs=true):∃a c,τ.lookup p=some a/\v = .ref a/\H a=some (.dK c)/\TAtK K H τ p 0 kvs c:=by
 obtain _:=sn e;rcases h with _|⟨_,_,b,c,i,f,d,k,g⟩|⟨_,_,b,c,i,f,d,g⟩|_
 .simp_all
 .rw[k.1]at e;cases e
 .exact⟨b,c,i,f,d,g⟩
 .simp_all
theorem TAt.node(h:TAt K H τ p t v)(e:jf t=none):∃a,τ.lookup p=some a/\v = .ref a:=by
 cases t with
 |list ts=>
  simp only[TAt]at h;let⟨a,x,f,i,_⟩:=h;exact⟨a,f,i⟩
 |dict k=>
  have n:fzOf k=none:=e;simp only[TAt]at h;rcases h with⟨d,f,_⟩|⟨_,_,b,m,f,i,j,l,g⟩|⟨_,_,b,m,f,i,j,g⟩|⟨c,b,dx,C,x,o,f,i,j,l,g⟩
  .rw[n]at f;cases f
  .exact⟨b,f,i⟩
  .exact⟨b,f,i⟩
  .exact⟨b,f,i⟩
 |none=>cases e
 |bool _=>cases e
 |int _=>cases e
 |str _=>cases e
 |tuple _=>cases e
end
def okW:aD->List Nat->Bool
 |_,[]=>true
 | .list ts,i::q=>okW (ts.getD i .none) q
 | .dict kvs,i::q=>(isKd kvs||(excC kvs).isSome)&&okW (kvs.getD i (.none,.none)).2 q
 |_,_::_=>false
theorem IU{k:aD}(h:isKd kvs=true)(e:kvs[i]?=some (k,t)):isKd (kvs.set i (k,t'))=true:=by
 unfold isKd at h⊢;rw[abA]at h⊢;intro x a;rcases adF a with z|z
 .exact h x z
 .subst z;exact h (k,t) (Ld e)
theorem TAtF.restF{K:Kd}{H c:Hp}{τ:List 'h'}{p:List Nat}(g:Pers H c){i:Nat}(e:∀l,l≠i->∀q a,τ.lookup (p++l::q)=some a->c a=H a):∀{ts:List (aD×aD)}{b:Nat}{vs:List (Str×V)},i<b->TAtF K H τ p b ts vs->TAtF K c τ p b ts vs
 |[],_,_,_,h=>by simpa only[TAtF]
 |(.str f,t)::ts,b,vs,hl,h=>by
  let⟨v,vs,rfl,j,k⟩:=h;exact⟨v,vs,rfl,TAt.monoP g (λq a z=>e b ∅ q a (by simpa using z)) j,TAtF.restF g e ∅ k⟩
 |(.none,d)::r,_,_,hl,h=>by simp only[TAtF];exact TAtF.restF g e ∅ h
 |(.bool _,d)::r,_,_,_,h=>by simp[TAtF]at h
 |(.int _,d)::r,_,_,_,h=>by simp only[TAtF]at h
 |(.list _,d)::r,_,_,_,h=>by simp only[TAtF]at h
 |(.tuple _,d)::r,_,_,_,h=>by simp[TAtF]at h
 |(.dict _,d)::r,_,_,_,h=>by simp[TAtF]at h
theorem TAtF.setF{K:Kd}{H g:Hp}{τ:List 'h'}{p:List Nat}(m:Pers H g){t' w:aD}{u:Str}:∀{ts:List (aD×aD)}{i j:Nat}{xs:List (Str×V)},TAtF K H τ p i ts xs->ts[j]?=some (.str u,w)->(∀v,TAt K H τ (p++[i+j]) w v->TAt K g τ (p++[i+j]) t' v)->(∀l,l≠i+j->∀q a,τ.lookup (p++l::q)=some a->g a=H a)->TAtF K g τ p i (ts.set j (.str u,t')) xs
 |[],_,_,_,_,z,_,_=>by simp at z
 |(k,t)::ts,i,0,xs,h,z,c,e=>by
  simp at z;let⟨rfl,rfl⟩:=z;simp only[TAtF]at h;let⟨v,vs,rfl,n,s⟩:=h;simp only[ag3,TAtF];exact⟨v,vs,rfl,c v n,TAtF.restF m e (abz i) s⟩
 |(.str f,t)::ts,i,j+1,xs,h,z,c,e=>by
  simp only[TAtF]at h;let⟨v,vs,rfl,n,s⟩:=h;exact⟨v,vs,rfl,TAt.monoP m (λq a z=>e i ∅ q a (by simpa using z)) n,TAtF.setF m s (by simpa using z) (λo b=>by rw[show i+1+j=i+(j+1) by omega]at b⊢;exact c o b) λl x=>e l ∅⟩
 |(.none,d)::ts,i,j+1,xs,h,z,c,e=>by
  simp only[TAtF]at h;simp only[ag4,TAtF];exact TAtF.setF m h (by simpa using z) (λo b=>by rw[show i+1+j=i+(j+1) by omega]at b⊢;exact c o b) λl x=>e l ∅
 |(.bool _,d)::r,_,_+1,_,h,_,_,_=>by simp only[TAtF]at h
 |(.int _,d)::r,_,_+1,_,h,_,_,_=>by simp only[TAtF]at h
 |(.list _,d)::r,_,_+1,_,h,_,_,_=>by simp only[TAtF]at h
 |(.tuple _,d)::r,_,_+1,_,h,_,_,_=>by simp only[TAtF]at h
 |(.dict _,d)::r,_,_+1,_,h,_,_,_=>by simp only[TAtF]at h
theorem TAt.ins{K:Kd}{c:Str}(h:TAt K H τ p (.dict kvs) v)(e:excC kvs=some c):∃a dx C xs,τ.lookup p=some a/\v = .ref a/\H a=some (.ins C dx xs)/\ClsN K c C/\TAtF K H τ p 0 kvs xs:=by
 have b:fzOf kvs=none:=by
  unfold excC at e
  split at e
  .rfl
  .cases e
 simp only[TAt]at h
 grind
theorem Jg{x:aD×aD}{c:Str}{k:aD}(h:excC kvs=some c)(e:kvs[i]?=some (k,t))(a:k≠.none):excC (kvs.set i x)=some c:=by
 cases kvs with
 |nil=>cases h
 | cons y r=>
  cases i with
  |zero=>
   simp;unfold excC at h
   simp_all
  |succ i=>
   unfold excC at h⊢
   split at h
   .rename_i z;simp at z;let⟨rfl,rfl⟩:=z;exact h
   .cases h
theorem TAt.set{K:Kd}{H:Hp}{τ:List 'h'}(nd:(τ.map (·.2)).Nodup){a:Addr}{o:HO}{n:aD}(L:Pers H (upd H a o)):∀{q p:List Nat}{t J:aD}{v:V},TAt K H τ p t v->getT t q=some J->okW t q=true->τ.lookup (p++q)=some a->TAt K (upd H a o) τ (p++q) n (.ref a)->(∀u,TAt K H τ (p++q) J u->u = .ref a)->TAt K (upd H a o) τ p (setT t q n) v
 |[],p,t,J,v,h,e,_,_,hn,hu=>by
  cases e;rw[aa4]at hn hu;rw[hu v h];unfold setT;exact hn
 | i::q,p,t,J,v,h,e,ok,ea,hn,hu=>by
  have m:∀(r:List Nat) (b:Addr),τ.lookup r=some b->r≠p++i::q->(upd H a o) b=H b:=λr b z ne=>av λeb=>by
   subst eb;exact ne (xw nd z ea)
  have D:τ.lookup ((p++[i])++q)=some a:=by simpa using ea
  have I:TAt K (upd H a o) τ ((p++[i])++q) n (.ref a):=by simpa using hn
  have G:∀u,TAt K H τ ((p++[i])++q) J u->u = .ref a:=λu z=>hu u (by simpa using z);simp only[getT]at e
  cases z:chD t i with
  |none=>rw[z]at e;cases e
  | some O=>
   rw[z]at e;have R:getT O q=some J:=e;have E:∀l,l≠0+i->∀r b,τ.lookup (p++l::r)=some b->(upd H a o) b=H b:=λl hl r b W=>m _ _ W λy=>by
    have:=List.append_cancel_left y;injection this with h1 _
    omega
   have self:∀b,τ.lookup p=some b->(upd H a o) b=H b:=λb W=>m _ _ W λy=>by
    have:=congrArg ad6 y;simp at this
   cases t with
   |list ts=>
    have d:ts[i]?=some O:=z;have M:ts.getD i .none=O:=by rw[aac,d];rfl
    simp only[TAt]at h;let⟨b,U,A,F,N,g⟩:=h;simp only[setT,M,TAt];refine⟨b,U,A,F,(self b A).trans N,TAtL.setL L g (λX T=>?_) E⟩;let⟨Z,f,B⟩:=g.get (j:=i) d;rw[T]at f;cases f;rw[acM]at B⊢;exact TAt.set nd L B R (by simp only[okW,M]at ok;exact ok) D I G
   | dict x=>
    simp only[chD]at z
    cases d:x[i]? with
    |none=>rw[d]at z;cases z
    |some kt=>
     let⟨k,P⟩:=kt;rw[d]at z;have Y:k≠.none:=λw=>by subst w;cases z
     have F:P=O:=by split at z<;>simp_all
     subst F;have M:x.getD i (.none,.none)=(k,P):=by rw[aac,d];rfl
     simp only[okW,M,aaH,agj]at ok;rcases ok.1 with s|s
     .obtain⟨b,es,A,F,N,g⟩:=h.kd s;have S:isKd (x.set i (k,setT P q n))=true:=IU s d;let⟨n1,n2⟩:=sn S;simp only[setT,M,TAt];refine .inr (.inr (.inl ⟨n1,n2,b,es,A,F,(self b A).trans N,TAtK.setK L g d (λX ⟨kk,T⟩=>?_) E⟩));let⟨kk2,Z,f,_,B⟩:=g.get' (j:=i) d;rw[T]at f;cases f;rw[acM]at B⊢;exact TAt.set nd L B R ok.2 D I G
     .obtain⟨c,ec⟩:=afy.mp s;let⟨b,dx,C,U,A,F,N,kc,g⟩:=h.ins ec;let⟨f0,rfl⟩:=g.key (Ld d) Y;have Q:excC (x.set i (.str f0,setT P q n))=some c:=Jg ec d Y;simp only[setT,M,TAt];refine .inr (.inr (.inr ⟨c,b,dx,C,U,Q,A,F,(self b A).trans N,kc,TAtF.setF L g d (λX B=>?_) E⟩));rw[acM]at B⊢;exact TAt.set nd L B R ok.2 D I G
   |none=>cases z
   |bool _=>cases z
   |int _=>cases z
   |str _=>cases z
   |tuple _=>cases z
abbrev onAt(P:Nat->List Nat->Prop):R->Prop
 | .at k p=>P k p
 |_=>False
abbrev IR(P:aD->Prop):R->Prop
 | .imm (.int i)=>P (.int i)
 | .imm (.str x)=>P (.str x)
 |_=>False
def gG(k:Nat)(p:List Nat)(j:Nat)(t:aD):R:=match jf t with
 |some d=>.imm d
 |none=>.at k (p++[j])
section
variable {K:Kx}{b:Al}{c H:Hp}{r:R}{v:V}{m:MSt}{f:St}
theorem zd{P:Nat->List Nat->Prop}(rr:RelR K b c H r v)(h:onAt P r):∃k p τ a,r = .at k p/\b[k]?=some (.T τ)/\τ.lookup p=some a/\v = .ref a/\P k p:=by
 unfold onAt at h
 split at h
 .obtain⟨τ,a,e1,e2,e3⟩:=rr;exact⟨_,_,τ,a,rfl,e1,e2,e3,h⟩
 .simp_all
theorem KQ{P:aD->Prop}(rr:RelR K b c H r v)(h:IR P r):∃kk:Key,r = .imm (keyD kk)/\v=kV kk/\P (keyD kk):=by
 unfold IR at h
 split at h
 .rename_i i;exact⟨.inl i,rfl,aB (show Den K H _ v from rr),h⟩
 .rename_i x;exact⟨.inr x,rfl,bp (show Den K H _ v from rr),h⟩
 .simp_all
theorem Rel.dict(R:Rel K b m f H){k:Nat}(j:b[k]?=some (.T τ))(s:τ.lookup p=some a)(i:m.os[k]?=some [t])(d:getT t p=some (.dict kvs))(h:isKd kvs=true) :
  ∃e,H a=some (.dK e)/\TAtK K H τ p 0 kvs e:=by
 let⟨⟨o,n,z,g,_⟩,_⟩:=R.own k _ _ j i;cases z;let⟨q,l⟩:=g.get d;obtain _:=l.kd h
 simp_all
theorem kI(R:Rel K b m f H){k:Nat}(l:b[k]?=some (.T τ))(h:TAt K H τ (p++[j]) t v):RelR K b c H (gG k p j t) v:=by
 unfold gG
 cases e:jf t with
 |some d=>exact ju h e
 |none=>
  let⟨a,i,g⟩:=h.node e;exact⟨τ,a,l,i,g⟩
end
section
variable {X:Cx}{o i e:Expr}{wo wi we:WE}{pos pos':Pos}
def dGot(m:MSt)(k:Nat)(p:List Nat)(y:aD)(K:R->Prop):Prop:=∃t a j b,m.os[k]?=some [t]/\getT t p=some (.dict a)/\isKd a=true/\pH y 0 a=some (j,b)/\K (gG k p j b)
def WZ(m:MSt)(k:Nat)(p:List Nat)(y d:aD)(P:aD->Prop):Prop:=∃t a,m.os[k]?=some [t]/\getT t p=some (.dict a)/\isKd a=true/\okW t p=true/\a.length<aak/\P (setT t p (.dict (putD y (lfD d) a)))
abbrev wDIx(wo wi:WE):WE:=λm K=>wo m λa m1=>wi m1 λb m2=>onAt (λk p=>IR (λy=>dGot m2 k p y λr=>K r m2) b) a
theorem Vd(K:X.A.units+64<cLine)(B:ME X o wo)(q:ME X i wi)(C:NoSl i:=by intro _ _;rfl):ME X (.Subscript o i pos) (wDIx wo wi):=(OY ∅ B q C).wk<|by
 intro U H Q ⟨d,m,W,E,x,f⟩;refine⟨d,m,_,E,x,λJ m1 N M k1 n1 b r y=>⟨d,m1,_,b,k1,λV m2 P w k2 n2 R c F=>?_⟩⟩;let⟨k,p,T,a,rfl,g,G,rfl,k2⟩:=zd r k2;let⟨L,rfl,rfl,t,I,j,S,s,A,D,l,k2⟩:=KQ c k2;let⟨O,h,u⟩:=R.dict g G s A D;let⟨v,z,n⟩:=u.look l;refine⟨a,v,rfl,by rw[<-z];exact DGet.k h,f _ m2 v w k2 (n2.trans n1) R ?_ (y.trans F)⟩;exact kI R g n
abbrev UF(we wo wi:WE):WS:=λD m=>we m λr m1=>lH (λd=>wo m1 λb m2=>wi m2 λc a=>onAt (λk p=>IR (λy=>WZ a k p y d λt=>D.nx {a with os:=a.os.set k [t]}) c) b) r
theorem Oj(hu:X.A.units+64<cLine)(he:ME X e we)(ho:ME X o wo)(hi:ME X i wi)(hs:abE e (some (.Subscript o i pos')) pos.line X.env=pure false:=by rfl):MS X (.Assign [.Subscript o i pos'] e pos) (UF we wo wi):=(Oa ∅ ho hi he hs).wk<|by
 intro D σ H ⟨w,m,De,Rl,hw,k⟩;refine⟨w,m,_,Rl,hw,λr m1 v H1 q n1 l rr F1=>?_⟩;let⟨d,er,hd,q⟩:=g9 rr q;refine⟨w,m1,_,l,q,λro m2 ov H2 q2 n2 n I O=>⟨w,m2,_,n,q2,λri m3 iv A s n3 R G Y=>?_⟩⟩;let⟨kk,p,B,a,rfl,F,f,rfl,s⟩:=zd I s;let⟨y,rfl,rfl,t,c,P,W,S,Z,e7,s⟩:=KQ G s;let⟨C,T,U⟩:=R.dict F f P W S;have N:Den X.kx A d v:=(hd.mono (l.pers O)).mono (n.pers Y);let⟨⟨t1,v0,z,g,a0,J,L⟩,mu⟩:=R.own kk (.T B) _ F P;cases z;have E:Pers A (upd A a (.dK (putK C y v))):=bj (.inr ⟨_,T,rfl⟩);have nd:(B.map (·.2)).Nodup:=((gw w).mp R.nd).1 (.T B) (Ld F);have M:TAtK X.kx (upd A a (.dK (putK C y v))) B p 0 c C:=TAtK.monoP E (λi q b zb=>av λeb=>by
  subst eb;have:=congrArg ad6 (xw nd zb f);simp at this) U
 have new:TAt X.kx (upd A a (.dK (putK C y v))) B p (.dict (putD (keyD y) (lfD d) c)) (.ref a):=by
  have Q:=M.put (kk:=y) (t':=lfD d) (v':=v) λj=>ot (N.mono E);let⟨z1,z2⟩:=sn Q.kd;simp only[TAt];exact .inr (.inr (.inl ⟨z1,z2,a,_,f,rfl,aA,Q⟩))
 have all:=TAt.set nd E g W Z (by rw[abg];exact f) (by rw[abg];exact new) λu x=>by
  rw[abg]at x;let⟨a',es',h,eu,_⟩:=x.kd S;rw[f]at h;cases h;exact eu
 let⟨V,F4⟩:=R.setW F E (ds':=[setT t p (.dict (putD (keyD y) (lfD d) c))]) (λb K=>av λeb=>K (eb▸bI f)) ⟨⟨_,v0,rfl,all,a0,J,L⟩,λb K=>by
  by_cases eb:b=a
  .subst eb;exact⟨_,aA,rfl⟩
  .rw[av eb];exact mu b K⟩
 exact⟨a,_,rfl,DPut.k T (by rw[<-U.len];exact e7),k.nx w _ σ _ s (n3.trans (n2.trans n1)) V (.of V (((F1.trans O).trans Y).trans F4))⟩
def qj:List (WE×WE)->MSt->(List (R×R)->MSt->Prop)->Prop
 |[],m,K=>K [] m
 |(wk,wv)::r,m,K=>wk m λc m1=>wv m1 λa m2=>qj r m2 λp b=>K ((c,a)::p) b
inductive RelPs(K:Kd)(α:Al)(Hb H:Hp):List (R×R)->List (V×V)->Prop where
 |nil:RelPs K α Hb H [] []
 |cons {r1 r2:R}{rs:List (R×R)}{v1 v2:V}{vs:List (V×V)}:RelR K α Hb H r1 v1->RelR K α Hb H r2 v2->RelPs K α Hb H rs vs->RelPs K α Hb H ((r1,r2)::rs) ((v1,v2)::vs)
theorem RelPs.base{K:Kx}{a:Al}{m:MSt}{d:St}{c:Hp}(b:Rel K a m d H)(F:Frm a c H):∀{rs:List (R×R)}{vs:List (V×V)},RelPs K a H H' rs vs->RelPs K a c H' rs vs
 |_,_,.nil=>.nil
 |_,_,.cons h1 h2 t=>.cons (h1.base b F) (h2.base b F) (t.base b F)
theorem xi{K:Kx}:∀{s:List (WE×WE)}{c:Al}{m:MSt}{d:St}{H:Hp}{g:List (R×R)->MSt->Prop}{Q:List (V×V)->Hp->Prop},Rel K c m d H->qj s m g ->
  (∀ps p vs f,g ps p->p.np=m.np->Rel K c p d f->RelPs K c H f ps vs->Frm c H f->Q vs f)->wJ (s.map λw=>(tM K w.1,tM K w.2)) d H Q
 |[],c,m,d,H,g,Q,Rl,h,fin=>fin _ m _ H h rfl Rl .nil (Frm.refl _ _)
 | (wk,wv)::r,c,m,d,H,g,Q,Rl,h,fin=>
  ⟨c,m,_,Rl,h,λr1 m1 B y k1 n1 a j l=>⟨c,m1,_,a,k1,λC m2 z A k2 n2 b k F=>
   xi b k2 λps t vs x v u q rs n=>fin _ t _ x v (u.trans (n2.trans n1)) q
    (.cons ((j.keep Rl a F).keep Rl b n) ((k.keep a b n).base a l) (rs.base b (l.trans F))) ((l.trans F).trans n)⟩⟩
def lc:List (R×R)->Option (List (aD×aD))
 |[]=>some []
 |(.imm (.int i),.imm d)::r=>(lc r).map ((.int i,d) :: ·)
 |(.imm (.str x),.imm d)::r=>(lc r).map ((.str x,d) :: ·)
 |_::_=>none
def lfKV(kvs:List (aD×aD)):List (aD×aD):=kvs.map λk=>(k.1,lfD k.2)
def uC:List (aD×aD)->Bool
 |[]=>true
 |(k,_)::r=>r.all (λa=>!oh a.1 k)&&uC r
theorem DA{K:Kx}{c:Al}{j:Hp}{ps:List (R×R)}{vs:List (V×V)}(h:RelPs K c j H ps vs):∀{kvs:List (aD×aD)}{i:Nat},lc ps=some kvs->uC kvs=true->∃a:List (Key×V),vs=a.map (λk=>(kV k.1,k.2))/\TAtK K H τ p i (lfKV kvs) a/\∀kk,(kvs.all λk=>!oh k.1 (keyD kk))=true->∀x∈a,x.1≠kk:=by
 induction h with
 |nil=>intro kvs i e _;cases e;exact⟨[],rfl,by simp[lfKV,TAtK],λ_ _ _ h=>by cases h⟩
 | @cons r1 r2 rs v1 v2 vs h1 h2 t ih=>
  intro kvs i e n;have go:∀(kk:Key) (d:aD),r1 = .imm (keyD kk)->r2 = .imm d->(lc rs).map ((keyD kk,d) :: ·)=some kvs->∃a:List (Key×V),(v1,v2)::vs=a.map (λk=>(kV k.1,k.2))/\TAtK K H τ p i (lfKV kvs) a/\∀kk,(kvs.all λk=>!oh k.1 (keyD kk))=true->∀x∈a,x.1≠kk:=by
   clear e;intro kk d s f e;subst s f
   cases q:lc rs with
   |none=>rw[q]at e;cases e
   | some b=>
    rw[q]at e;cases e;simp only[uC,aaH]at n;let⟨a,v,g,un⟩:=ih (i:=i+1) q n.2;have m:v1=kV kk:=by
     cases kk with
     |inl i=>exact aB (show Den K H (.int i) v1 from h1)
     |inr x=>exact bp (show Den K H (.str x) v1 from h1)
    subst m;refine⟨(kk,v2)::a,by rw[aaq,<-v],?_,λl hk x u=>?_⟩
    .simp only[lfKV,aaq,TAtK];exact⟨kk,v2,a,rfl,⟨rfl,un kk n.1⟩,ot h2,g⟩
    .rw[abZ,aaH,oO]at hk;rcases aag.mp u with z|z
     .subst z;simpa using hk.1
     .exact un l hk.2 x z
  unfold lc at e
  split at e
  .rename_i z;cases z
  .rename_i i' d r z;cases z;exact go (.inl i') d rfl rfl e
  .rename_i x d r z;cases z;exact go (.inr x) d rfl rfl e
  .cases e
theorem uh:∀{more kvs:List (Key×V)},(more.map (·.1)).Nodup->(∀x∈more,valV kvs x.1=none)->kZ kvs more=kvs++more
 |[],kvs,_,_=>(aa4 _).symm
 | (k,v)::more,kvs,nd,h=>by
  show kZ (putK kvs k v) more=_;rw[aaq,abb]at nd;rw[G9 v (h (k,v) aan),uh nd.2 λx a=>?_,aaW]
  .rfl
  .rw[tj _ _ _ _ (h (k,v) aan),if_neg]
   .exact h x (aai _ a)
   .exact λz=>nd.1 (z▸List.mem_map_of_mem a)
theorem TAtK.nodup{K:Kd}:∀{ts:List (aD×aD)}{i:Nat}{xs:List (Key×V)},TAtK K H τ p i ts xs->(xs.map (·.1)).Nodup
 |[],_,_,h=>by simp only[TAtK]at h;subst h;exact abO
 |(k,t)::ts,i,xs,h=>by
  simp only[TAtK]at h;let⟨u,v,vs,rfl,b,_,g⟩:=h;rw[aaq];rw[abb];refine⟨λz=>?_,g.nodup⟩;let⟨x,a,c⟩:=aar.mp z;exact b.2 x a c
def AB(P:List (aD×aD)->Prop):Option (List (aD×aD))->Prop
 |some k=>uC k=true/\k.length≤15/\P (lfKV k)
 |none=>False
abbrev Ui(w:List (WE×WE)):WE:=λm K=>qj w m λp a=>AB (λk=>K (.newT (.dict k)) a) (lc p)
def MPs(X:Cx)(pos:Pos)(keys:List (Option Expr))(v:List Expr)(a:List (WE×WE)):Prop:=PPs X pos keys v (a.map λw=>(tM X.kx w.1,tM X.kx w.2))
def Ot:MPs X pos [] [] []:=LG
def Jz{k v:Expr}{vs:List Expr}{wk:WE}(hk:ME X k wk)(h:ME X v wv)(a:MPs X pos ks vs ws):MPs X pos (some k::ks) (v::vs) ((wk,wv)::ws):=Ji hk h a
theorem Qu{keys:List (Option Expr)}(h:MPs X pos keys values ws)(j:keys.all (·.isSome)=true:=by rfl)(s:keys.length=values.length:=by rfl)(M:keys≠[]:=by exact λz=>by cases z)(r:keys.length≤15:=by decide):ME X (.Dict keys values pos) (Ui ws):=
 (NU h j s M r).wk<|by
 intro O H Q ⟨k,m,P,t,B,n⟩;intro p l;refine xi (t.lay l) B λy m1 vs f k1 n1 R K F=>?_
 cases e:lc y with
 |none=>rw[e]at k1;exact k1.elim
 | some kvs=>
  rw[e]at k1;let⟨C,s,k1⟩:=k1;have a:p∉ads k:=t.out l;have w:f p=some (.dK []):=F p _ aA a;let⟨d,E,g,_⟩:=DA (τ:=[([],p)]) (p:=[]) (i:=0) K e C;refine⟨w,d,E,by rw[<-g.len];simpa[lfKV]using s,?_⟩;have N:kZ [] d=d:=by
   have:=uh (more:=d) (kvs:=[]) g.nodup λx _=>rfl;rwa[abg]at this
  rw[N];have v:Pers f (upd f p (.dK d)):=bj (.inr ⟨_,w,rfl⟩);have fr:Frm k H (upd f p (.dK d)):=λb J eb nb=>by
   have ne:b≠p:=br eb l;rw[av ne];exact F b J (by rw[av ne];exact eb) nb
  have old:Ext X.kx.eb.np k H k (upd f p (.dK d)):=⟨rfl,fr,λ_ h=>.inl h,λb c=>by
   have u:b≠p:=λe=>a (e▸c);rw[av u];let⟨D,G,_⟩:=R.mem c;exact⟨D,G⟩⟩
  refine n _ m1 _ _ k1 n1 (R.at' v (λb c=>av λe=>a (e▸c)) (t.ebx.trans old)) ⟨[([],p)],p,rfl,rfl,'a',λb c=>by simp at c;subst c;exact l,⟨⟨_,.ref p,rfl,?_,p,rfl,rfl⟩,λb c=>by simp at c;subst c;exact⟨_,aA,rfl⟩⟩⟩ fr;let⟨L,A⟩:=sn g.kd;simp only[TAt];refine .inr (.inr (.inl ⟨L,A,p,d,rfl,rfl,aA,TAtK.monoP v (λi q b I=>?_) g⟩));simp[aeD]at I
end
section
variable {m:MSt}{Q:R->MSt->Prop}{w f g:WE}{D:f7}
def VA{k:Nat}{y d:aD}{K:R->Prop}(c:m.os[k]?=some [t])(b:getT t p=some (.dict kvs))(e:isKd kvs=true)(a:pH y 0 kvs=some (j,t'))(i:jf t'=some d)(h:K (.imm d)) :
  dGot m k p y K:=⟨t,kvs,j,t',c,b,e,a,by unfold gG;rw[i];exact h⟩
theorem xH{y t t':aD}:∀{kvs:List (aD×aD)}{i j:Nat},pH y i kvs=some (i+j,t')->∃k',oh k' y=true/\putD y t kvs=kvs.set j (k',t)
 |[],_,_,e=>by cases e
 | (k',t0)::r,i,j,e=>by
  simp only[pH]at e
  by_cases c:oh k' y=true
  .rw[if_pos c]at e;have:i=i+j:=by simpa using congrArg (Option.map (·.1)) e
   obtain rfl:j=0:=by omega
   exact⟨k',c,by simp only[putD,if_pos c,ag3]⟩
  .rw[if_neg c]at e
   cases j with
   | zero=>
    exfalso;have b:∀{kvs:List (aD×aD)}{i j:Nat}{a:aD},pH y i kvs=some (j,a)->i≤j:=by
     intro kvs
     induction kvs with
     |nil=>intro i j a e;cases e
     |cons x r d=>
      intro i j a e;let⟨k1,l⟩:=x;simp only[pH]at e
      split at e
      .cases e;exact aaa _
      .have:=d e;omega
    have:=b e;omega
   |succ j=>
    let⟨k2,h,k⟩:=xH (t:=t) (i:=i+1) (j:=j) (by rw[e];congr 2;omega);exact⟨k2,h,by simp only[putD,if_neg c,ag4,k]⟩
def JI{a b:aD}(h:oh a b=true):a=b:=by
 unfold oh at h
 split at h
 .rw[of_decide_eq_true h]
 .rw[of_decide_eq_true h]
 .cases h
theorem P8{k:Nat}{y d:aD}{P:aD->Prop}(n:m.os[k]?=some [t])(c:getT t p=some (.dict kvs))(e:isKd kvs=true)(b:okW t p=true)(o:kvs.length<aak)(l:pH y 0 kvs=some (j,t'))(h:P (setT t p (.dict (kvs.set j (y,lfD d))))) :
  WZ m k p y d P:=by
 let⟨r,q,a⟩:=xH (t:=lfD d) (i:=0) (j:=j) (by rw[l,acM]);rw[JI q]at a;exact⟨t,kvs,n,c,e,b,o,by rw[a];exact h⟩
def U6(h:K [] m):qj [] m K:=h
def NG{wk:WE}{r:List (WE×WE)}(h:wk m λc m1=>wv m1 λa m2=>qj r m2 λps b=>K ((c,a)::ps) b):qj ((wk,wv)::r) m K:=h
def BQ{P:List (aD×aD)->Prop}{o:Option (List (aD×aD))}{k:List (aD×aD)}(e:o=some kvs)(a:uC kvs=true)(c:kvs.length≤15)(b:lfKV kvs=k)(h:P k):AB P o:=by subst e;subst b;exact⟨a,c,h⟩
theorem xZ{n:Nat}{P:MSt->Prop}(h:P {vs:=m.vs.set n (some (.at m.os.length [])),os:=m.os++[[t]],np:=m.np}):tZ n P m (.newT t):=.inl h
end
section
variable {X:Cx}{o i e:Expr}{wo wi we:WE}{pos pos':Pos}
theorem gL(c:X.A.units+64<cLine)(h:EE X o wo)(a:EE X i wi)(b:NoSl i:=by intro _ _;rfl):EE X (.Subscript o i pos) (wDIx wo wi):=⟨Vd c h.h a.h b⟩
def sD(c:X.A.units+64<cLine)(a:EE X e we)(h:EE X o wo)(d:EE X i wi)(b:abE e (some (.Subscript o i pos')) pos.line X.env=pure false:=by rfl):ES X (.Assign [.Subscript o i pos'] e pos) (UF we wo wi):=⟨Oj c a.h h.h d.h b⟩
structure EPs(X:Cx)(pos:Pos)(keys:List (Option Expr))(values:List Expr)(ws:List (WE×WE)):Prop where
 h:MPs X pos keys values ws
def JL:EPs X pos [] [] []:=⟨Ot⟩
def m9{k v:Expr}{vs:List Expr}{wk:WE}(hk:EE X k wk)(h:EE X v wv)(a:EPs X pos ks vs ws):EPs X pos (some k::ks) (v::vs) ((wk,wv)::ws):=⟨Jz hk.h h.h a.h⟩
def JG{keys:List (Option Expr)}(h:EPs X pos keys values ws)(a:keys.all (·.isSome)=true:=by rfl)(d:keys.length=values.length:=by rfl)(c:keys≠[]:=by exact λz=>by cases z)(b:keys.length≤15:=by decide):EE X (.Dict keys values pos) (Ui ws):=⟨Qu h.h a d c b⟩
end
def uA{A:aa8}(t:Bool)(c:A.handled=none)(I a:Addr)(b:a≠I)(items:Array Ad):Walks prog w A I [I,a] [I] items.size (λi v=>items[i]?=some v) (λi h=>SubI t h I a i/\SubS t h a items):=by
 cases t
 .exact Walks.list c I a b items
 .exact Walks.tuple c I a b items
section
variable {prog:aax}{w:World}{A:aa8}{E:Ad->GT->Prop}{s:GT}
theorem xj{t:Bool}(c:SubS t s.heap l items)
  (h:∀s2:GT,s2={s with heap:=s.heap.push (itO t l)}->(SubI t s2.heap s.heap.objs.size l 0/\SubS t s2.heap l items)->(∀b∈[s.heap.objs.size,l],b<s2.heap.objs.size)->l≠s.heap.objs.size->Q (.ref s.heap.objs.size) s2):wpAny (model prog w) A (afZ (.ref l)) Q E s:=by
 have a:l<s.heap.objs.size:=by
  cases t
  .obtain⟨_,e,_⟩:=(c);exact aao e
  .obtain⟨_,e,_⟩:=(c);exact aao e
 refine d5 c (h _ rfl ⟨?_,c.keep λo e=>Io _ e⟩ (λb d=>?_) (aa1 a))
 .cases t
  .exact⟨_,aal _ rfl,rfl,rfl⟩
  .exact⟨_,aal _ rfl,rfl,rfl⟩
 .rw[abt];simp at d;rcases d with rfl|rfl
  .simp
  .exact ael a
theorem yA{t:Bool}(hk:∀b o,b∉[s.heap.objs.size]->(s.heap.push (itO t l)).get? b=some o->h'.get? b=some o):∀b o,s.heap.get? b=some o->h'.get? b=some o:=λb o e=>
 hk b o (λh=>absurd (aao e) (by rw[aaf.mp h];exact acw _)) (Io _ e)
theorem v6(h:aeV items.toList ns):∀(i:Nat) (v:Ad),items[i]?=some v->∃t,v = .int (ns.getD i 0) t:=λi v e=>h.int_at i v (by simpa)
end
section
variable {X:Cx}
def rMax(K:aae):List V->Hp->VK->Prop:=λa H Q=>∃t l ns,a=[.ref l]/\SqB t K H l (ns.map V.int)/\ns≠[]/\∀x,x∈ns->(∀y∈ns,y≤x)->Q (.int x) H
theorem IC{b:Nat}(c:b≤ns.length-1)(h:ns≠[]):ns.getD b 0∈ns:=by
 have a:b<ns.length:=by
  have:ns.length≠0:=λz=>h (abi z);omega
 rw[bH (lD a)];simp
theorem uT(hc:X.calm=true):fh X (.builtin "max") (rMax X.K):=by
 intro p s G H D E Q I z ⟨t,l,ns,ex,o,c,q⟩;subst ex;let⟨u,rfl,k⟩:=z.one;cases k;let⟨a,r,m,_⟩:=I.sqb o;have f:=iz r;have w:a.length=ns.length:=by have:=r.length;rw[iO]at this;omega
 refine call_max_walk (xj m λs2 e n b d=>?_);subst e;refine⟨s.heap.objs.size,[s.heap.objs.size,l],[s.heap.objs.size],a.toArray.size,λi v=>a.toArray[i]?=some v,λi h=>SubI t h s.heap.objs.size l i/\SubS t h l a.toArray,_,rfl,uA (A:=X.A.in1) t (I.ok.hd hc) _ l d a.toArray,n,b,?_,CmpOf.ints_gt (λi=>ns.getD i 0) (v6 f),λv F B x hk=>?_⟩
 .grind
 .obtain⟨tt,rfl⟩:=v6 f _ v x;rw[aaG,w]at *;let⟨b1,b2⟩:=PySem.argBest_gt (λi=>ns.getD i 0) (ns.length-1);refine⟨.int _,H,I.kept (t':=B) (yA hk),⟨_,rfl⟩,q _ (IC b1 c) λy g=>?_⟩;let⟨j,C,rfl⟩:=abY.mp g;have:=b2 j ∅;rwa[bH (lD C)]at this
end
section
variable {prog:aax}{w:World}{A:aa8}{E:Ad->GT->Prop}{s:GT}
structure xW(t:Bool)(e it l:Addr)(k:Nat)(h:aaZ):Prop where
 e:∃old,IsEnum h e it (k:Int) old
 s:SubI t h it l k
theorem FQ{t:Bool}{x:Ad}{Q:Option Ad->GT->Prop}(Z:xW t e it l i s.heap)(X:SubS t s.heap l items)(hx:items[i]?=some x)(f:e≠it)
  (Y:∀h',IsEnumOut h' e it ((i:Int)+1) x s.heap.objs.size->SubI t h' it l (i+1)->aeM h' s.heap.objs.size (.int i s.toks) x->h'.objs.size=s.heap.objs.size+1 ->
   (∀b o,b∉[e,it]->s.heap.get? b=some o->h'.get? b=some o)->Q (some (.ref s.heap.objs.size)) {s with heap:=h',toks:=s.toks+1}):wpAny (model prog w) A (acA (.ref e)) Q E s:=by
 let⟨⟨old,u⟩,M⟩:=Z;have V:s.TypeIs (.ref e) "enumerate":=(⟨_,u,rfl⟩);unfold acA;refine gT (acx (aaY (name:=ab1 "__next__") V adi (aba adi V af8 ?_ (afO _))));rcases s with⟨h,g,d,a,os⟩;refine gT (m:=field (.ref e) 2) (abd u rfl (x:=.ref it) rfl (gT (md M X hx λp n1 s1=>?_)));replace s1:abl it h p:=s1;have S:IsEnum p e it i old:=(s1.2 e f).trans u;show wpAny _ _ (field (.ref e) 3 >>= _) _ _ ⟨p,g,d,a,os⟩;refine gT (abd S rfl (x:=adv i) rfl ?_);show wpAny _ _ (field (.ref e) 4 >>= _) _ _ ⟨p,g,d,a,os⟩;refine gT (abd S rfl (x:=.none) rfl ?_);refine gT (m:=mkInt i) (wpAny_mkInt ?_);show wpAny _ _ (acX (.ref e) 3 (adv ((i:Int)+1)) >>= _) _ _ ⟨p,g,d,a+1,os⟩;refine gT (aaI S 'a' λH P s2=>?_);replace s2:abl e p H:=s2;replace P:IsEnum H e it ((i:Int)+1) old:=P;show wpAny _ _ (acX (.ref e) 4 .none >>= _) _ _ ⟨H,g,d,a+1,os⟩;refine gT (aaI P 'a' λc L r=>?_);replace r:abl e H c:=r;replace L:IsEnum c e it ((i:Int)+1) old:=L;refine gT (m:=newTuple [.int i a,x]) (afb ?_);have C:IsEnum (c.push {cls:=.type "tuple",data:=.seq #[.int i a,x]}) e it ((i:Int)+1) old:=Io _ L;have j:c.objs.size=h.objs.size:=by rw[r.1,s2.1,s1.1]
 have y:e<h.objs.size:=aao u;have W:(c.push {cls:=.type "tuple",data:=.seq #[.int i a,x]}).get? h.objs.size=some {cls:=.type "tuple",data:=.seq #[.int i a,x]}:=by rw[<-j];exact aal _ rfl
 have U:(c.push {cls:=.type "tuple",data:=.seq #[.int i a,x]}).objs.size=h.objs.size+1:=by rw[abt,j]
 have T:∀b o,b∉[e,it]->h.get? b=some o->(c.push {cls:=.type "tuple",data:=.seq #[.int i a,x]}).get? b=some o:=λb o k q=>by
  simp only[aag,abe,not_or,or_false]at k;exact Io _ (r.extBut b o k.1 (s2.extBut b o k.1 (s1.extBut b o k.2 q)))
 have n4:SubI t (c.push {cls:=.type "tuple",data:=.seq #[.int i a,x]}) it l (i+1):=((n1.ext s2.extBut (abF f)).ext r.extBut (abF f)).keep λo q=>Io _ q;generalize c.push {cls:=.type "tuple",data:=.seq #[.int i a,x]}=K at C W U T n4;show wpAny _ _ (abP (.ref e) >>= _) _ _ ⟨K,g,d,a+1,os⟩;rw[j];refine gT (m:=abP (.ref e)) (gT (m:=field (.ref e) 0) (abd C rfl (x:=.none) rfl (LD ?_)));simp only[if_true];refine gT (abH (gT (abd C rfl (x:=old) rfl (gT (aaI C 'a' λF O D=>?_)))));replace D:abl e K F:=D;replace O:IsEnum F e it ((i:Int)+1) x:=O;show wpAny _ _ (acr (.ref e) (.ref h.objs.size) >>= _) _ _ ⟨F,g,d,a+1,os⟩;refine gT (m:=acr (.ref e) (.ref h.objs.size)) ?_;refine gT (m:=acX (.ref e) 0 _) (aaI O 'a' λN I v=>?_);replace v:abl e F N:=v;replace I:IsEnumOut N e it ((i:Int)+1) x h.objs.size:=I;refine aaI I 'a' λB J G=>?_;replace G:abl e N B:=G;replace J:IsEnumOut B e it ((i:Int)+1) x h.objs.size:=J;have R:∀b o,b≠e->K.get? b=some o->B.get? b=some o:=λb o n q=>G.extBut b o n (v.extBut b o n (D.extBut b o n q));refine gT (aft (LD ⟨_,rfl,LD (Y B J (n4.keep λo q=>R _ o (abF f) q) (R _ _ (abp y) W) (by rw[G.1,v.1,D.1,U]) λb o k q=>R b o (λz=>k (by simp[z])) (T b o k q))⟩))
theorem Jn{t:Bool}{Q:Option Ad->GT->Prop}(n:A.handled=none)(Z:xW t e it l i s.heap)(j:SubS t s.heap l items)(q:items[i]?=none)
  (p:∀f,afs it s.heap f->Q none {s with heap:=f}):wpAny (model prog w) A (acA (.ref e)) Q E s:=by
 let⟨⟨old,d⟩,b⟩:=Z;have c:s.TypeIs (.ref e) "enumerate":=(⟨_,d,rfl⟩);refine gT (acx (aaY c adi (aba adi c af8 ?_ (afO _))));refine gT (m:=field _ 2) (abd d rfl (x:=.ref it) rfl (gT (vo n b j q λr x a h=>?_)));let⟨o,g,k⟩:=h;exact gT (acY ⟨o,g,k⟩ afc (LD (p _ a)))
end
open AutoSeq1 (wpAny_loadPart') in
set_option maxHeartbeats 1100000 in
theorem Gw(t:Bool)(l:Addr)(items:Array Ad) :
  Meets (adn.«enumerate.__new__» ⟨[.type "enumerate",.ref l],[]⟩) (λ_ R s=>SubS t s.heap l items/\
   R (.ok (.ret (.ref (s.heap.push (itO t l)).objs.size))) {s with heap:=(s.heap.push (itO t l)).push {cls:=.type "enumerate",data:=.fields #[.none,.bool false,.ref s.heap.objs.size,adv 0,.none,.none]} }):=
 .of_wp λprog w A R s h=>by
  rcases s with⟨e,g,d,i,os⟩;rcases h with⟨f,h⟩;have b:=sub_enumerate;have a:SubS t (ahy ⟨e,g,d,i,os⟩) l items:=f
  wp_walk
  refine wpAny_stack_any λj=>?_;refine LD ?_;split
  .rename_i c _ _ _ _ _
   cases c==ac2 "enumerate"
   .wp_walk using d5 a
    exact⟨_,rfl,h⟩
   .wp_walk using d5 a
    exact⟨_,rfl,h⟩
  .wp_walk using d5 a
   exact⟨_,rfl,h⟩
section
variable {prog:aax}{w:World}{A:aa8}{E:Ad->GT->Prop}{s:GT}
theorem z7{t:Bool}(e:SubS t s.heap l items)
  (h:∀h',xW t (s.heap.objs.size+1) s.heap.objs.size l 0 h'->(∀b o,s.heap.get? b=some o->h'.get? b=some o)->Q (.ref (s.heap.objs.size+1)) {s with heap:=h' }):wpAny (model prog w) A (call (.type "enumerate") [.ref l]) Q E s:=by
 refine callType_new F.called_enumerate ⋯ (F.typeCall_enumerate_1 _) (F.newCall_enumerate_1 _) (λobj=>F.args_object_init_2 obj _) F.entry_enumerate_new (Gw t l items) ⟨e,?_⟩;have c:(s.heap.push (itO t l)).objs.size=s.heap.objs.size+1:=abt ..;rw[c];have a:((s.heap.push (itO t l)).push {cls:=.type "enumerate",data:=.fields #[.none,.bool false,.ref s.heap.objs.size,adv 0,.none,.none]}).get? (s.heap.objs.size+1)=some {cls:=.type "enumerate",data:=.fields #[.none,.bool false,.ref s.heap.objs.size,adv 0,.none,.none]}:=by
  rw[<-c];exact aal _ rfl
 have d:((s.heap.push (itO t l)).push {cls:=.type "enumerate",data:=.fields #[.none,.bool false,.ref s.heap.objs.size,adv 0,.none,.none]}).get? s.heap.objs.size=some (itO t l):=Io _ (aal _ rfl);refine⟨⟨_,a,rfl⟩,h _ ⟨⟨.none,a⟩,?_⟩ λb o x=>Io _ (Io _ x)⟩;cases t
 .exact⟨_,d,rfl,rfl⟩
 .exact⟨_,d,rfl,rfl⟩
end
def Ite(t:Bool)(K:aae)(a:Addr):It where
 go:=λi H=>∃b x,SqB t K H a b/\b[i]?=some x
 yld:=λi H v c=>∃T x,v = .ref T/\H T=none/\c=upd H T (.tup [.int (i:Int),x])/\∀b,SqB t K H a b->b[i]?=some x
 stop:=λi H=>∃b,SqB t K H a b/\b.length≤i
theorem B7{P:aax}{K:aae}{m:List Expr}{x1:Nat}{t:Bool}(r:e≠it):Turn P w K (.Tuple m x1 pos) (Ite t K a) [e,it] e (λi h=>xW t e it a i h) where
 mem:=by simp
 obj:=λi h g c b=>by
  let⟨⟨old,j⟩,l⟩:=g;simp only[aag,abe,or_false]at b;rcases b with rfl|rfl
  .exact⟨_,j,λv q=>by cases q⟩
  .obtain⟨o,vs,e,d⟩:=l.obj;exact⟨o,e,λv q=>by rw[d]at q;cases q⟩
 keep:=λi h h' g k=>by
  let⟨⟨old,j⟩,l⟩:=g;exact⟨⟨old,k e 'a' _ j⟩,l.keep λo q=>k it 'a' o q⟩
 item:=by
  intro X R M O b i f s F H E I A g Q;subst R M O;let⟨xs,x,y,S⟩:=Q;let⟨C,G,p,_⟩:=I.sqb y;let⟨u,Z,T⟩:=G.get S;refine FQ g p (x:=u) (by simpa using Z) r λh' a1 a2 U a4 Y=>⟨.ref s.heap.objs.size,rfl,?_⟩;refine wpAny_letOwnedTupleGo_enum (s:={s with heap:=h',toks:=s.toks+1}) a1 λB b1 W=>?_;have J:H s.heap.objs.size=none:=I.hok.fresh (aaa _);have D:∀c∈[e,it],c<s.heap.objs.size:=λc b=>by
   let⟨⟨old,j⟩,l⟩:=g;simp only[aag,abe,or_false]at b;rcases b with rfl|rfl
   .exact aao j
   .obtain⟨o,vs,e,d⟩:=l.obj;exact aao e
  have L:∀c∈[e,it],c≠s.heap.objs.size:=λc b=>aa1 (D c b);have N:∀c o,c≠e->h'.get? c=some o->B.get? c=some o:=λc o n q=>W.extBut c o n q;have T2:aeM B s.heap.objs.size (.int i s.toks) u:=N _ _ (abF (L e 'a')) U;have I0:Inv X f F (upd H s.heap.objs.size (.tup [.int (i:Int),x])) {s with heap:=s.heap.push {cls:=.type "tuple",data:=.seq #[.int i s.toks,u]},toks:=s.toks+1}:=
   I.laid (o:=.tup [.int (i:Int),x]) (λc o q=>Io _ q) (aaa _) ⟨by show 2≤aak;rw[aas];decide,[.int i s.toks,u],.cons ⟨_,rfl⟩ (.cons T .nil),PlainT.new _ _⟩
  have Il:Inv X f F (upd H s.heap.objs.size (.tup [.int (i:Int),x])) {s with heap:=B,toks:=s.toks+1}:=by
   refine Inv.turneds (s:={s with heap:=s.heap.push {cls:=.type "tuple",data:=.seq #[.int i s.toks,u]},toks:=s.toks+1}) (h':=B) (t':=s.toks+1) (ch:=[e,it]) I0 (λc o b q=>?_) λc b=>?_
   .rcases agz q with⟨rfl,rfl⟩|q
    .exact T2
    .exact N c o (λz=>b (by simp[z])) (Y c o b q)
   .obtain⟨f0,f1⟩:=A c b;exact⟨by rw[av (L c b)];exact f0,f1⟩
  refine⟨.ref s.heap.objs.size,upd H s.heap.objs.size (.tup [.int (i:Int),x]),Il,rfl,⟨_,x,rfl,J,rfl,λzs V=>by rw[I.sqb_inj V y];exact S⟩,⟨⟨u,?_⟩,a2.keep λo q=>N _ o (abF r) q⟩,λc b=>?_⟩
  .have:((i+1:Nat):Int)=(i:Int)+1:=by rfl
   rw[this];exact b1
  .rw[av (L c b)];exact(A c b).1
 done:=by
  intro X R M O b i f s F H E I A g Q;subst R M O;let⟨xs,y,j⟩:=Q;let⟨C,G,p,_⟩:=I.sqb y;have l1:=G.length;exact Jn (I.ok.hd b) g p (by simp;omega) λh' hk=>⟨rfl,I.turneds (t':=s.toks) (ch:=[e,it]) (λc o b q=>hk c o (λz=>b (by simp[z])) q) A⟩
 self:=λ_ _ _ _ _ g h=>by let⟨⟨old,j⟩,_⟩:=g;exact wpAny_pyIter_enum j h
section
variable {X:Cx}{f:List Expr}{A:Nat}{w:Pos}{a:Expr}{z:WA}{p pos:Pos}
def Yb(K:aae)(ta:TA):TI:=λc H R=>ta c H λvs b=>∃t l,vs=[.ref l]/\(∃x,SqB t K b l x)/\R (Ite t K l) b
theorem Qh{ta:TA}(D:Gl X "enumerate")(B:X.mg "enumerate" = none)(j:PA X [a] ta)(C:aab [a] X.env=[(false,eval a X.env)]:=by first|exact c7 rfl|rfl):PI X (.Tuple f A w) (.Call (.Name "enumerate" p) [a] [] pos) (Yb X.K ta):=by
 intro g s u H R I h;refine Call_ (lh I D B u5 (acs (thn (j pos g s u H _ I h) λJ s1 ⟨vs,n,i,r1,y⟩=>?_) C rfl));let⟨t,l,e,⟨G,k⟩,q⟩:=y;subst e
 cases r1 with
 | cons r rr=>
  cases rr;cases r;let⟨o,F,v,_⟩:=i.sqb k;refine z7 v λE Z hk=>?_;let⟨old,m⟩:=Z.e;refine wpAny_pyIter_enum m ⟨s1.heap.objs.size+1,_,_,_,n,rfl,i.kept (t':=s1.toks) hk,B7 (Nat.succ_ne_self _),Z,λc x=>?_,q⟩;have d:s1.heap.objs.size≤c:=by
   have b:=x;simp at b;rcases b with rfl|rfl<;>first|exact acd _ _|exact aaa _
  exact i.fpOk d (i.hok.fresh d)
def yI(ds:List aD):List aD:=zipD (jI 0 ds.length) ds
def XU(m:MSt)(K:Src->MSt->Prop)(r:R):Prop:=(∃t ds,imS r=some (t,ds)/\K ⟨yI ds,none⟩ m)\/∃k ds,r = .obj k/\m.os[k]?=some ds/\K ⟨yI ds,some (k,ds)⟩ m
abbrev J7(z:WA):WI:=λm K=>z m λrs b=>on1 (XU b K) rs
def gU(ds:List aD):(yI ds).length=ds.length:=by unfold yI;rw[cJ,aP];simp
def sN{d:aD}(h:ds[i]?=some d):(yI ds)[i]?=some (.tuple [.int (i:Int),d]):=by
 have b:=(AD.mp h).1;have:=yC (jS (lo:=0) b) h;rw[Int.zero_add]at this;exact this
theorem wks_enum{K:Kd}{t:Bool}:Wks K (Ite t K l) (yI ds) λH=>∃xs,SqB t K H l xs/\DenAll K H ds xs where
 stop:=λH ⟨xs,q,g⟩=>⟨xs,q,by rw[gU,g.length];exact aaa _⟩
 go:=λi H h ⟨xs,q,g⟩=>by
  rw[gU]at h;exact⟨xs,xs[i]'(by rw[<-g.length];exact h),q,lD _⟩
 yld:=λi H x n h ⟨xs,q,g⟩ y=>by
  let⟨T,u,rfl,e,rfl,m⟩:=y;let⟨d,j,k1⟩:=g.get2 (m xs q);have c:∀b o,H b=some o->upd H T (.tup [.int i,u]) b=some o:=λb o q=>by rw[av (br q e)];exact q
  have k:Pers H _:=⟨λb xs q=>c b _ q,λb o u q=>c b _ q⟩;exact⟨c,_,sN j,fE (SqT.of aA) (DenAll.cons (vi _) (DenAll.cons (k1.mono k) DenAll.nil))⟩
theorem N9(I:X.mg "enumerate" = none)(C:MA X [a] z)(L:Gl X "enumerate":=by rfl)(K:aab [a] X.env=[(false,eval a X.env)]:=by first|exact c7 rfl|rfl):MI X (.Tuple f A w) (.Call (.Name "enumerate" p) [a] [] pos) (J7 z):=(Qh L I C K).wk<|by
 intro P H O ⟨B,m,S,N,D,b⟩;refine⟨B,m,_,N,D,λrs y vs u k n R rr F=>?_⟩;let⟨r,v,rfl,rfl,i,k⟩:=fJ rr k;rcases k with⟨t,ds,h,k⟩|⟨j,ds,rfl,h,k⟩
 rotate_left
 .obtain⟨p,ep,rfl⟩:=i;let⟨M,q,_⟩:=R.own j _ ds ep h;exact⟨false,p,rfl,⟨M,SqL.of q⟩,b _ y _ u k n R F ⟨p,ep,wks_enum.imp λH ⟨x,q,g⟩=>⟨x,SqL.of q,g⟩⟩⟩
 let⟨l,x,rfl,G,s,J⟩:=Aq i h;refine⟨t,l,rfl,⟨x,s⟩,b _ y _ u k n R F ⟨λH=>∃x,SqB t X.kx H l x/\DenAll X.kx H ds x/\∀d,Pers H d->SqB t X.kx d l x,wks_enum.imp λH ⟨x,a,c,_⟩=>⟨x,a,c⟩,⟨x,s,G,J⟩,λQ E ⟨x,a,c,o⟩ e=>⟨x,o E e,c.mono e,λd p=>o d (e.trans p)⟩⟩⟩
theorem JF(b:X.mg "enumerate" = none)(c:EA X [a] z)(h:Gl X "enumerate":=by rfl)(d:aab [a] X.env=[(false,eval a X.env)]:=by first|exact c7 rfl|rfl):EI X (.Tuple f A w) (.Call (.Name "enumerate" p) [a] [] pos) (J7 z):=⟨N9 b c.h h d⟩
end
section
variable {X:Cx}
def Vp:WC:=λrs m K=>on1 (λr=>∃ds ns,sqOf m r=some ds/\fc ds=some ns/\ns≠[]/\∀x,x∈ns->(∀y∈ns,y≤x)->K (.imm (.int x))) rs
theorem fQ(hc:X.calm=true):fh X (.builtin "max") (cM X.kx Vp):=by
 intro p s b H t u Q I j ⟨q,m,w,z,rs,K,R,h,i,d⟩;let⟨r,v,rfl,rfl,e,ds,ns,n,l,c,i⟩:=fJ h i;let⟨a,y,rfl,f,g⟩:=e.seq R n;rw[j9 l]at g;have k:=gm g;subst k;have go:=λx e o=>d _ _ H (i x e o) R (fU _) (Frm.refl _ _);rcases f with f|f
 .exact uT hc p s b H _ u Q I j ⟨false,a,ns,rfl,f,c,go⟩
 .exact uT hc p s b H _ u Q I j ⟨true,a,ns,rfl,f,c,go⟩
def uU{m:MSt}{r:R}(e:sqOf m r=some ds)(b:fc ds=some ns)(a:ns≠[])(h:∀x,x∈ns->(∀y∈ns,y≤x)->Kr (.imm (.int x))):Vp [r] m Kr:=⟨ds,ns,e,b,a,h⟩
end
open SeqAt in
open AutoSeq1 (wpAny_loadPart') in
theorem wz(l:Addr)(items:Array Ad)(n:Nat)(r:Option Addr)(sl:Array (Option Ad))(x:Ad)(e:Ad->Bool)(j:Nat)(F:j<items.size)(o:e items[j]=true)(k:∀m (D:m<items.size),m<j->e items[m]=false) :
  Meets (adn.«tuple.index» ⟨[.ref l,x],[]⟩)
   (λA R s=>s.heap.get? l=some {cls:=.type "tuple",dict:=r,data:=.seq items n,slots:=sl}/\(∀y,y∈items->EqAt A.in1 s y x (e y))/\R (.ok (.ret (.int j s.toks))) {s with toks:=s.toks+1}):=
 .of_wp λprog w A R s h=>by
  rcases s with⟨t,g,d,C,os⟩;rcases h with⟨B,u,h⟩
  (wp_walk using aeQ B)
  refine(show wpAny (model prog w) A.in1 (forIn ([:min items.size items.size]:Std.Legacy.Range) _ _) _ _ _ from ?_);simp only[Std.Legacy.Range.forIn_eq_forIn_range'];have E:ahA (0:Nat) (min items.size items.size) 1=ahA 0 items.size 1:=by rw[ahf]
  refine aex _ (λrest (b:Option _×Unit) p=>b.1=none/\p=⟨t,g,d,C,os⟩/\∃i,i≤j/\rest=ahA i (items.size-i) 1) _ ?turn ?fin _ _ ?start
  case turn=>
   intro i rest b p ⟨v,rfl,f,hi0,c⟩;have a:f<items.size:=by omega
   have z:items.size-f=(items.size-(f+1))+1:=by omega
   rw[z,List.range'_succ]at c;cases c;rw[show items[i]?=some items[i]from ab8 a];refine gT (u items[i] (Array.getElem_mem a) prog w _ _ ?_)
   by_cases q:i=j
   .subst q;rw[o]
    wp_walk
    exact⟨_,rfl,h⟩
   .rw[k i a ∅]
    wp_walk
    exact⟨rfl,rfl,i+1,∅,rfl⟩
  case fin=>
   intro⟨b1,b2⟩ p ⟨v,rfl,f,hi0,c⟩;have:=congrArg ad6 c;simp at this;omega
  case start=>
   refine⟨rfl,rfl,0,abB _,?_⟩;simp[Std.Legacy.Range.size]
section
variable {X:Cx}{o e:Expr}{b:List Expr}{w:WE}{p:WA}{l c:Pos}
abbrev wMT(a:WM)(w:WE)(p:WA):WE:=λm K=>w m λr m1=>(∃ds,r = .imm (.tuple ds))/\p m1 λrs m2=>a r rs m2 K
theorem YN{name:Str}{id:String}{E:WM}(slot:Slot "tuple" name id)(z:typeOf (.builtin id)=pure (.type "method_descriptor"))(K:MtM X id (mM X.kx E))(O:ME X o w)(I:MA X (e::b) p)
  (d:abw o name X.env (eval o X.env)=eval o X.env:=by rfl)
  (q:((abn c (aab (e::b) X.env)).all (λx=>!x.1)&&(acW c (abX [] X.env)).all (λx=>x.1.isSome)
   && decide ((e::b).length+([]:List ac4).length+(if ([]:List ac4).isEmpty then 0 else 1)<30))=true:=by rfl)
  (i:(l.endLine==c.line)=true:=by rfl) (P:aab (e::b) X.env=(false,eval e X.env)::aab b X.env:=by first|exact aF rfl|rfl) (h:(abn c (aab b X.env)).any (·.1)=false:=by rfl) :
  ME X (.Call (.Attribute o name l) (e::b) [] c) (wMT E w p):=(VJ PySem.F.plainAttrs_tuple slot z K O I d q i P h).wk<|by
 intro S H Q ⟨t,m,T,D,J,s⟩;refine⟨t,m,_,D,J,λr m1 v L k n1 R rr C=>?_⟩;let⟨⟨ds,rfl⟩,k⟩:=k;let⟨a,G,rfl,f,g⟩:=b6 (rr);refine⟨.inr (.inl ⟨rfl,G,f⟩),t,m1,_,R,k,λrs m2 vs U k2 n2 j A u=>?_⟩;exact⟨t,m2,S,H,L,.imm _,rs,T,j,rr.keep D R u,A,k2,λr N v M k n y B F=>s r N v M k (n.trans (n2.trans n1)) y (B.base j (C.trans u)) ((C.trans u).trans F)⟩
theorem yx{name:Str}{id:String}{i:WM}(slot:Slot "tuple" name id)(g:typeOf (.builtin id)=pure (.type "method_descriptor"))(n:MtM X id (mM X.kx i))(j:EE X o w)(m:EA X (e::b) p)
  (d:abw o name X.env (eval o X.env)=eval o X.env:=by rfl)
  (f:((abn c (aab (e::b) X.env)).all (λx=>!x.1)&&(acW c (abX [] X.env)).all (λx=>x.1.isSome)
   && decide ((e::b).length+([]:List ac4).length+(if ([]:List ac4).isEmpty then 0 else 1)<30))=true:=by rfl)
  (a:(l.endLine==c.line)=true:=by rfl) (k:aab (e::b) X.env=(false,eval e X.env)::aab b X.env:=by first|exact aF rfl|rfl) (h:(abn c (aab b X.env)).any (·.1)=false:=by rfl) :
  EE X (.Call (.Attribute o name l) (e::b) [] c) (wMT i w p):=⟨YN slot g n j.h m.h d f a k h⟩
def x_ts{P:Prop}(h:P):(∃b,R.imm (.tuple ds) = .imm (.tuple b))/\P:=⟨⟨ds,rfl⟩,h⟩
def C8:WM:=λr rs m K=>on1 (lH λd=>∃ds j,r = .imm (.tuple ds)/\d.canLay0=true/\abx ds=true/\d.depth≤60/\(∃y,ds[j]?=some y/\aad y d=true)/\(∀(i:Nat) y,i<j->ds[i]?=some y->aad y d=false)/\K (.imm (.int (j:Nat))) m) rs
theorem iL(hu:X.A.units+64<cLine):MtM X "tuple.index" (mM X.kx C8):=by
 intro R s σ' H x xs v us Q I V rv ⟨α,m,σ,H0,H1,r,rs,Kc,Rl,Y,K,A,D⟩;let⟨r2,v2,rfl,rfl,K,A⟩:=fJ K A;let⟨d,rfl,hd,ds,j,rfl,O,F,dp,⟨y,N,eq⟩,J,A⟩:=g9 K A;let⟨a,zs,rfl,f,g⟩:=b6 (show Den X.kx H (.tuple ds) x from Y);cases V;let⟨u,rfl,W⟩:=rv.one;let⟨bs,qd⟩:=Den.reads I (aa7 _ O) hd W;let⟨h,G,⟨o,z,P,E,n,k⟩,hz⟩:=I.tupleP f;let⟨as,t⟩:=DenAll.reads I (abu _ F) g G;have hm:X.A.units+1+min (aaB ds) d.depth<cLine:=by have:=ady (aaB ds) d.depth;omega
 have q:=ag1 ds _ _ F t;have S:h.length=ds.length:=by rw[<-q,iO]
 have T:j<h.length:=by rw[S];exact(AD.mp N).1
 have L:∀(i:Nat) (C:i<h.length) y,ds[i]?=some y->ac8 s.heap h[i]=y:=λi C y e=>by
  rw[<-q,aah,lD C]at e;exact aay e
 let⟨cls,U,M,Z⟩:=o;dsimp only at P k;subst P;subst k;refine ad3 acg ⟨_,z,rfl⟩ PySem.F.entry_tuple_index (PySem.F.args_tuple_index_2 _ _)
  (wz a h.toArray _ U Z u (λy=>aad (ac8 s.heap y) d) j (by simpa using T) ?_ ?_) ⟨z,ahq (by simpa using t) qd F O hm,?_⟩
 .show aad (ac8 s.heap h[j]) d=true;rw[L j T y N];exact eq
 .intro i C hlt;have B:i<h.length:=by simpa using C
  show aad (ac8 s.heap h[i]) d=false;have hi2:i<ds.length:=by rw[<-S];exact B
  rw[L i B _ (lD hi2)];exact J i _ hlt (lD hi2)
 .exact⟨.int (j:Nat),H,I.tok _,⟨_,rfl⟩,D _ _ _ H A rfl Rl (fU _) (Frm.refl _ _)⟩
def mn{m:MSt}{d y:aD}{k k':Nat}{K:R->MSt->Prop}(s1:Shp k d)(s2:∀y∈ds,Shp k' y)(hk:k≤60)(f:ds[j]?=some y)(eq:aad y d=true)(a:∀(i:Nat) y,i<j->ds[i]?=some y->aad y d=false)(h:K (.imm (.int (j:Nat))) m):C8 (.imm (.tuple ds)) [.imm d] m K:=
 ⟨ds,j,rfl,s1.cl,(kg s2).1,aaA s1.dp hk,⟨y,f,eq⟩,a,h⟩
end
def zl:fillsNumberSlot (.type "tuple") "mul" = pure false:=
 PySem.fillsNumberSlot_seq aem.lookup rfl afP.lookup rfl
def Nu:seqRepeat? (.type "tuple")=pure (some (.builtin "tuple.__mul__")):=by
 unfold seqRepeat?;rw[ahs (name:= "__mul__") aem.lookup rfl,ahs (name:= "__rmul__") afP.lookup rfl];rfl
theorem Jt(a:Int)(t:Tok)(l:Addr)(items:Array Ad)(n:Nat)(d:Option Addr)(sl:Array (Option Ad)) :
  Meets (adn.«int.__rmul__» ⟨[.int a t,.ref l],[]⟩) (λ_ R s=>s.heap.get? l=some {cls:=.type "tuple",dict:=d,data:=.seq items n,slots:=sl}/\R (.ok (.ret Ad.notImplemented)) s):=
 .of_wp λprog w A R s h=>by
  rcases h with⟨b,h⟩
  wp_walk
  exact⟨_,rfl,h⟩
open AutoSeq1 (wpAny_loadPart') in
theorem MZ(l:Addr)(items:Array Ad)(n:Nat)(u:Option Addr)(sl:Array (Option Ad))(k:Int)(t:Tok)(E:0≤k)(G:k<2^20)(F:items.size*k.toNat≤1000000) :
  Meets (adn.«tuple.__mul__» ⟨[.ref l,.int k t],[]⟩) (λ_ R s=>s.heap.get? l=some {cls:=.type "tuple",dict:=u,data:=.seq items n,slots:=sl}/\
   if (items.isEmpty||k==1)=true then R (.ok (.ret (.ref l))) s else R (.ok (.ret (.ref s.heap.objs.size))) {s with heap:=s.heap.push {cls:=.type "tuple",data:=.seq ((aaj k.toNat items).foldl (λe x=>e++x) #[])} }):=
 .of_wp λprog w A R s h=>by
  rcases s with⟨p,g,d,r,os⟩;rcases h with⟨o,h⟩
  (wp_walk using aeQ o)
  have v:(⟨p,g,d,r,os⟩:GT).TypeIs (.ref l) "tuple":=(⟨_,o,rfl⟩);have i:IsTup (⟨p,g,d,r,os⟩:GT).heap l items:=⟨_,o,rfl,n,rfl⟩;have z:((items.size:Nat):Int)*k≤1000000:=by
   have B:k=((k.toNat:Nat):Int):=by omega
   rw[B,<-adc];omega
  rw[if_neg (show ¬_ by simp only[decide_eq_true_eq,agj];omega)];refine gT (agS i ?_)
  by_cases f:(items.isEmpty||k==1)=true
  .rw[if_pos f]at h⊢;refine gT ?_;unfold ae9;refine gT (ac3 v (LD ?_));rw[if_pos 'b'];exact gT (abH (LD ⟨_,rfl,h⟩))
  .rw[if_neg f]at h⊢;have y:items.isEmpty=false:=by
    cases q:items.isEmpty with
    |false=>rfl
    |true=>rw[q]at f;exact(f rfl).elim
   by_cases j:k=0
   .subst j;show wpAny _ _ (if (decide ((0:Int)≤0)||items.isEmpty)=true then _ else _) _ _ _;rw[if_pos 'b'];exact gT (m:=abN #[]) (abf (LD ⟨_,rfl,h⟩) (by show(0:Nat)≤aak;exact abB _))
   have C:(decide (k≤0)||items.isEmpty)=false:=by rw[y,decide_eq_false ∅];rfl
   have b:∀(m:Nat) (a:Array Ad),(ahH (λe x=>e++x) a (aaj m items)).size=a.size+m*items.size:=by
    intro m
    induction m with
    |zero=>intro a;simp
    |succ m D=>intro a;rw[acq,aeJ,D,Array.size_append,aeX];omega
   have c:((aaj k.toNat items).foldl (λe x=>e++x) #[]).size≤aak:=by
    rw[b,aas,adz];simp;omega
   show wpAny _ _ (if (decide (k≤0)||items.isEmpty)=true then _ else _) _ _ _;rw[if_neg (by rw[C];exact aap)];show wpAny _ _ (if ((items.size:Nat):Int)*k>(2^63-1)/8 then _ else _) _ _ _;rw[if_neg ∅];show wpAny _ _ (if afd (((items.size:Nat):Int)*k)=true then _ else _) _ _ _;rw[if_neg (by unfold afd;rw[decide_eq_true_eq,aas];omega)];exact gT (m:=abN _) (abf (LD ⟨_,rfl,h⟩) c)
section
variable {X:Cx}
def Xw(K:aae):R2:=λx y H Q=>∃a b k,x = .ref a/\y = .int k/\SqT K H a b/\0≤k/\k<2^20/\b.length*k.toNat≤1000000/\
 if (b.isEmpty||k==1)=true then Q (.ref a) H else ∀p,H p=none->Q (.ref p) (upd H p (.tup (aaj k.toNat b).flatten))
theorem Mh:OpR X (ach .Mult) (Xw X.K):=by
 intro A s N H x y v u Q I B L h;let⟨a,c,k,rfl,rfl,G,D,M,E,q⟩:=h;cases B;let⟨t,rfl⟩:=L;let⟨i,r,⟨o,g,d,hd,n,j⟩,F⟩:=I.tupleP G;let⟨K,p,z,w⟩:=o;dsimp only at d j;subst d j;have m:c.length=i.length:=r.length;have l:i.toArray.isEmpty=c.isEmpty:=by
  cases i with
  |nil=>have:c=[]:=abi (by simpa using m);subst this;rfl
  |cons _ _=>cases c with
   |nil=>simp at m
   |cons _ _=>rfl
 have f:=by
  have:=oz i k.toNat [];omega
 refine afm (T:= "tuple") (U:= "int") ⋯ ⟨_,g,rfl⟩ (λJ=>af5 J k t) zl PySem.F.fills_int_mul agq Nu PySem.F.slot_int_index.lookup
  (ad3 agq (af5 s k t) PySem.F.entry_int_rmul (PySem.F.args_int_rmul_2 _ _) (Jt k t a i.toArray n p w)
   ⟨g,rfl,⟨_,g,rfl⟩,ad3 aem ⟨_,g,rfl⟩ PySem.F.entry_tuple_mul (PySem.F.args_tuple_mul_2 _ _) (MZ a i.toArray n p w k t D M (by rw[aaG,<-m];exact E)) ⟨g,?_⟩⟩)
 rw[l,f]
 by_cases d:(c.isEmpty||k==1)=true
 .rw[if_pos d]at q⊢;exact⟨.ref a,H,I,rfl,q⟩
 .rw[if_neg d]at q⊢;have C:H s.heap.objs.size=none:=I.hok.fresh (aaa _);refine⟨.ref s.heap.objs.size,_,I.laid (t':=s.toks) (o:=.tup (aaj k.toNat c).flatten) (λb O e=>Io _ e) (aaa _) ⟨?_,_,r.rep k.toNat,PlainT.new _ _⟩,rfl,q _ C⟩;rw[zJ,adz,aas];omega
def za:WO
 | .imm (.int i),.imm (.int j),_,K=>ag8 i j/\K (.imm (.int (i*j)))
 | .imm (.tuple ds),.imm (.int k),_,K=>0≤k/\k<2^20/\ds.length*k.toNat≤1000000/\K (.imm (.tuple (aaj k.toNat ds).flatten))
 | .new ds,.imm (.int k),_,K=>0≤k/\k<2^20/\ds.length*k.toNat≤1000000/\K (.new (aaj k.toNat ds).flatten)
 |_,_,_,_=>False
theorem jW{K:Kd}{H:Hp}{ds:List aD}{xs:List V}(g:DenAll K H ds xs):∀k:Nat,DenAll K H (aaj k ds).flatten (aaj k xs).flatten
 |0=>by simp[ DenAll]
 |k+1=>by rw[ acq];exact g.append (jW g k)
theorem bC:OpR X (ach .Mult) (rM X.kx za):=by
 intro b s n H x y v u Q I r t ⟨B,m,D,E,C,r1,J,K,R,q,z,h,c⟩;unfold za at h
 split at h
 .rename_i i j;exact Mr b s n H x y v u Q I r t ⟨B,m,D,E,C,.imm (.int i),.imm (.int j),K,R,q,z,h,c⟩
 .rename_i ds k;let⟨k1,k2,A,h⟩:=h;let⟨a,o,rfl,f,g⟩:=b6 (show Den X.kx H (.tuple ds) x from q);have w:=aB (show Den X.kx H (.int k) y from z);subst w;refine Mh b s n H _ _ v u Q I r t ⟨a,o,k,rfl,rfl,f,k1,k2,by rw[<-g.length];exact A,?_⟩
  by_cases l:(o.isEmpty||k==1)=true
  .rw[if_pos l];refine c _ _ H h R (pq (fE f ?_)) (Frm.refl _ _);have e:(aaj k.toNat ds).flatten=ds:=by
    rw[agj]at l;rcases l with l|l
    .have hx:o=[]:=List.isEmpty_iff.mp l;have hd:ds=[]:=abi (by rw[g.length,hx];rfl);subst hd;simp
    .simp_all
   rw[e];exact g
  .rw[if_neg l];exact λp d=>c _ _ _ h (R.lay d) (pq (fE (SqT.of aA) ((jW g k.toNat).mono (bj (.inl d))))) (cC d)
 .rename_i ds k;let⟨k1,k2,A,h⟩:=h;let⟨a,o,rfl,G,F,g⟩:=q;have w:=aB (show Den X.kx H (.int k) y from z);subst w;refine UU b s n H _ _ v u Q I r t ⟨a,k,o,rfl,rfl,F,∅,∅,by rw[<-g.length,aas];omega,λp d=>?_⟩;exact c _ _ _ h (R.lay d) ⟨p,_,rfl,d,aA,(jW g k.toNat).mono (bj (.inl d))⟩ (cC d)
 .exact h.elim
def QG{m:MSt}{i j:Int}(hc:ag8 i j)(h:Kr (.imm (.int (i*j)))):za (.imm (.int i)) (.imm (.int j)) m Kr:=⟨hc,h⟩
def Fu{m:MSt}{k:Int}(b:0≤k)(c:k<2^20)(a:ds.length*k.toNat≤1000000)(h:Kr (.imm (.tuple (aaj k.toNat ds).flatten))):za (.imm (.tuple ds)) (.imm (.int k)) m Kr:=⟨b,c,a,h⟩
def UM{m:MSt}{k:Int}(b:0≤k)(c:k<2^20)(a:ds.length*k.toNat≤1000000)(h:Kr (.new (aaj k.toNat ds).flatten)):za (.new ds) (.imm (.int k)) m Kr:=⟨b,c,a,h⟩
end
section
variable {prog:aax}{w:World}{A:aa8}{E:Ad->GT->Prop}{s:GT}
abbrev colH(h:aaZ)(vs:List Ad):aaZ:=(h.push (ac0 "list" #[] 0)).update h.objs.size (acE (·++vs.toArray))
abbrev srtH(h:aaZ)(vs:List Ad):aaZ:=(colH h vs).push (ac0 "list" vs.toArray 0)
def sG(h:aaZ)(vs:List Ad):(colH h vs).objs.size=h.objs.size+1:=(aey ..).trans (size_push' ..)
theorem Oy(h:aaZ)(vs:List Ad):(srtH h vs).get? (h.objs.size+1)=some (ac0 "list" vs.toArray 0):=by
 have e:(srtH h vs).get? (colH h vs).objs.size=some (ac0 "list" vs.toArray 0):=aal _ rfl;rwa[sG]at e
theorem O8{d:Addr}{o:Obj}{P:PySem.Fin->GT->Prop}(hd:s.heap.get? d=some (ac0 "list" #[] 0))(a:s.heap.get? l=some o)(hc:o.cls = .type "tuple"){n:Nat}(b:o.data = .seq vs.toArray n)(hsz:vs.length≤aak)
  (h:P (.done (.ret (.ref d))) {s with heap:=s.heap.update d (acE (·++vs.toArray))}):wpAny (model prog w) A (aeY (.ref d) (.ref l) (.ref d)) P E s:=by
 have fits:(#[]++vs.toArray:Array Ad).size≤aak+1:=by simp;omega
 refine gT (m:=typeOf (.ref l)) (ac3 (T:= "tuple") ⟨o,a,hc⟩ ?_);rw[if_pos (show(adU (abk d) (abk l)||_||ac2 "tuple" == ac2 "tuple")=true from Bool.or_eq_true_iff.mpr (.inr rfl))];refine gT (ahg a b (gT (ahg (xs:=#[]) (n:=0) hd rfl ?_)));rw[if_neg (show ¬_ by simp)];exact gT (afD (xs:=#[]) (n:=0) hd rfl (LD h) (abB _) fits)
theorem vJ{Q:List Ad->GT->Prop}(d:s.heap.IsTuple l vs.toArray)
  (h:Q vs {s with heap:=colH s.heap vs}) (hsz:vs.length≤aak):wpAny (model prog w) A (collect (.ref l)) Q E s:=by
 let⟨o,c,b,nn,hd⟩:=id d;have new:(s.heap.push (ac0 "list" #[] 0)).get? s.heap.objs.size=some (ac0 "list" #[] 0):=aal _ rfl;have a:(colH s.heap vs).get? s.heap.objs.size=some _:=get?_update_seq new (·++vs.toArray);have all:((#[]:Array Ad)++vs.toArray).toList=vs:=by simp
 refine gT (m:=runValue _) (wpAny_runValue (add entry_proto_collect' (gT (m:=ahd []) (afE (LD ⟨Code.quiet_builtin _ (by ext K),add entry_list_iadd' ?_⟩)))));refine O8 (s:={s with heap:=s.heap.push (ac0 "list" #[] 0)}) new (Io _ c) b hd hsz (gT (m:=load s.heap.objs.size) (wpAny_load a ?_));exact LD (all.symm▸h)
theorem qf{k:List (Str×Ad)}(a:s.heap.IsTuple l vs.toArray\/s.heap.IsList l vs.toArray)(hsz:vs.length≤aak)
  (h:wpAny (model prog w) A (call (.builtin "list.sort") [.ref (s.heap.objs.size+1)] k) (λ_ s'=>Q (.ref (s.heap.objs.size+1)) s') E {s with heap:=srtH s.heap vs}) :
  wpAny (model prog w) A (adn.«sorted» ⟨[.ref l],k⟩) (λf s'=>∃v,f = .done (.ret v)/\Q v s') E s:=by
 have c:∀{P:List Ad->GT->Prop},P vs {s with heap:=colH s.heap vs}->wpAny (model prog w) A (collect (.ref l)) P E s:=λp=>a.elim (λt=>vJ t p hsz) λt=>collect_list t p hsz;refine gT (m:=checkCount "sorted" 1 1 _) (LD (gT (c (gT (m:=ahd vs) (afE ?_)))));have e:(ahy {s with heap:=colH s.heap vs}).objs.size=s.heap.objs.size+1:=sG ..;rw[e];exact gT (m:=adX _ _) (acf (ab9 h (λ_ s' q=>LD ⟨_,rfl,q⟩) λ_ _ z=>z))
theorem pj{b:Bool}(d:s.heap.IsTuple l vs.toArray)(c:aeV vs ns)(a:vs.length<64)
  (h:∀(out:Array Ad) (n:List Int),aeV out.toList n->n.Perm ns->Ordered b n->Q (.ref (s.heap.objs.size+1)) {s with heap:=sortedAll s.heap vs out}):wpAny (model prog w) A (call (.builtin "sorted") [.ref l] [(ab1 "reverse",.bool b)]) Q E s:=by
 have at1:=Oy s.heap vs;refine call_function_entry_kw kind_sorted plain_sorted entry_sorted (args_sorted_rev _ _) (qf (A:=A.in1) (.inl d) (by rw[aas];omega) ?_);exact wpAny_call_entry_kw slot_list_sort ⟨_,at1,rfl⟩ entry_list_sort (list_sort_tree_rev at1 c a λout n p q r=>⟨_,rfl,h out n p q r⟩) (args_list_sort_rev _ _)
end
section
variable {X:Cx}{a:Expr}{b:List Expr}{w:WA}{pos p c d:Pos}
def Yn(K:aae):List V->Hp->VK->Prop:=λx H Q=>∃(t:Bool) (l:Addr) (ns:List Int),x=[.ref l]/\SqB t K H l (ns.map V.int)/\Q (.int ns.sum) H
theorem oG(ns:List Int):∀n,n≤ns.length->preSum (λi=>ns.getD i 0) n=(ns.take n).sum
 |0,_=>by simp[preSum]
 |n+1,h=>by
  show preSum _ n+ns.getD n 0=_;have e:=by omega
  rw[oG ns n (by exact abR ‹_›),aaX,lD e,bH (lD e),List.sum_append];simp
theorem ua(hc:X.calm=true):fh X (.builtin "sum") (Yn X.K):=by
 intro k s G H D E Q I B ⟨t,l,ns,ex,y,q⟩;subst ex;let⟨u,rfl,m⟩:=B.one;cases m;let⟨f,r,n,_⟩:=I.sqb y;have o:=iz r;have z:f.length=ns.length:=by have:=r.length;grind
 refine call_sum_walkG (xj n λs2 e x g j=>?_);subst e;refine⟨s.heap.objs.size,[s.heap.objs.size,l],[s.heap.objs.size],f.toArray.size,λi v=>f.toArray[i]?=some v,λi h=>SubI t h s.heap.objs.size l i/\SubS t h l f.toArray,λi=>ns.getD i 0,rfl,uA (A:=X.A.in1) t (I.ok.hd hc) _ l j f.toArray,x,g,v6 o,λF C t' hk=>?_⟩;have e:preSum (λi=>ns.getD i 0) f.toArray.size=ns.sum:=by
  rw[aaG,z,oG ns ns.length (aaa _),aaE]
 rw[e];exact⟨.int ns.sum,H,I.kept (t':=C) (yA hk),⟨_,rfl⟩,q⟩
def V6:WC:=λrs m K=>on1 (λr=>∃ds ns,sqOf m r=some ds/\fc ds=some ns/\K (.imm (.int ns.sum))) rs
theorem ip(hc:X.calm=true):fh X (.builtin "sum") (cM X.kx V6):=by
 intro e s i H y u Q I l ⟨x,m,z,B,rs,K,R,h,k,j⟩;let⟨r,v,rfl,rfl,n,ds,ns,t,q,k⟩:=fJ h k;let⟨a,A,rfl,f,g⟩:=n.seq R t;rw[j9 q]at g;have o:=gm g;subst o;have go:=j _ _ H k R (fU _) (Frm.refl _ _);rcases f with f|f
 .exact ua hc e s i H _ u Q I l ⟨false,a,ns,rfl,f,go⟩
 .exact ua hc e s i H _ u Q I l ⟨true,a,ns,rfl,f,go⟩
def xu{m:MSt}{r:R}(e:sqOf m r=some ds)(f:fc ds=some ns)(h:Kr (.imm (.int ns.sum))):V6 [r] m Kr:=⟨ds,ns,e,f,h⟩
def zN(X:Cx)(f:Ad)(k:List (Str×Ad))(r:List V->Hp->VK->Prop):Prop:=
 ∀(e:List 'i') (s:GT) (g:St) (H:Hp) (x:List V) (u:List Ad) (Q:VK),Inv X e g H s->Vals x u->r x H Q ->
  wpAny (model X.prog X.w) X.A (call f u k) (EP X e g Q) X.xe s
def Lg:WC:=λrs m K=>on1 (λr=>∃ds ns,sqOf m r=some ds/\fc ds=some ns/\ns.length<64/\∀n:List Int,n.Perm ns->n.Pairwise (· ≥ ·)->K (.new (n.map .int))) rs
theorem jb{K:Kd}{H:Hp}:∀ns:List Int,DenAll K H (ns.map .int) (ns.map V.int)
 |[]=>by simp[ DenAll]
 |n::ns=>by
  exact⟨.int n,_,rfl,by simp[Den],jb ns⟩
theorem nR:zN X (.builtin "sorted") [(ab1 "reverse",.bool true)] (cM X.kx Lg):=by
 intro q s x H N O Q I J ⟨M,m,P,T,rs,U,R,h,y,t⟩;let⟨r,v,rfl,rfl,B,ds,ns,L,K,G,y⟩:=fJ h y;let⟨l,S,rfl,f,g⟩:=B.seq R L;rw[j9 K]at g;have F:=gm g;subst F;let⟨u,rfl,A⟩:=J.one;cases A;have go:∀(j:List Ad),Vals (ns.map V.int) j->∀(out:Array Ad) (n:List Int),aeV out.toList n->n.Perm ns->Ordered true n->EP X q x Q (.ref (s.heap.objs.size+1)) {s with heap:=sortedAll s.heap j out}:=by
  intro j i out n a1 a2 o;let⟨e,D⟩:=sortedAll_at s.heap j out;have k:H (s.heap.objs.size+1)=none:=I.hok.fresh (afp _);have C:Vals (n.map V.int) out.toList:=oJ a1;have E:(n.map V.int).length≤aak:=by rw[iO,a2.length_eq,aas];omega
  refine⟨.ref (s.heap.objs.size+1),_,I.laid (t':=s.toks) (λ_ _=>sortedAll_old) (afp _) (show ObjOk X.prog X.w _ _ _ (.lst (n.map V.int))from⟨E,out.toList,e,C,by rw[D]⟩),rfl,?_⟩;exact t _ _ _ (y n a2 o) (R.lay k) ⟨_,_,rfl,k,aA,jb n⟩ (cC k)
 rcases f with f|f
 .obtain⟨j,i,pl,_⟩:=I.list f;have z:=i.length;rw[iO]at z;exact sorted_ints_rev pl.isList (iz i) ∅ λout n a1 a2 o=>go j i out n a1 a2 o
 .obtain⟨j,i,pl,_⟩:=I.tuple f;have z:=i.length;rw[iO]at z;exact pj pl (iz i) ∅ λout n a1 a2 o=>go j i out n a1 a2 o
def DF{m:MSt}{r:R}(e:sqOf m r=some ds)(f:fc ds=some ns)(g:ns.length<64)(h:∀n:List Int,n.Perm ns->n.Pairwise (· ≥ ·)->Kr (.new (n.map .int))):Lg [r] m Kr:=⟨ds,ns,e,f,g,h⟩
theorem DG{id:String}{x k:Str}{o:WC}(hc:zN X (.builtin id) [(k,.bool true)] (cM X.kx o))(y:Gl X x)(q:X.mg x=none)(m:aaU x=some (.builtin id))(l:MA X (a::b) w)(z:x ≠ "__name__":=by decide)(f:(x=='g')=false:=by decide)
  (n:aab (a::b) X.env=(false,eval a X.env)::aab b X.env:=by first|exact aF rfl|rfl) (g:(abn pos (aab (a::b) X.env)).any (·.1)=false:=by rfl):ME X (.Call (.Name x p) (a::b) [⟨some k,.Constant (.bool true) j c,d⟩] pos) (wCB o w):=by
 intro e s i H Q I h;have v:=PK h;refine acD (lh I y q m ?_ z f);refine callWith_kw (thn (l pos e s i H _ I v) λu s1 ⟨vs,t,A,r1,r⟩=>?_) (by rw[n];rfl) g rfl rfl;refine kws_cons (Constant_bool (kws_nil ?_));exact hc e s1 i t vs u Q A r1 r
end
section
variable {X:Cx}{a:Expr}{e:List Expr}{w:WA}{pos p b c:Pos}
theorem qo{id:String}{x k:Str}{o:WC}(hc:zN X (.builtin id) [(k,.bool true)] (cM X.kx o))(m:Gl X x)(n:X.mg x=none)(l:aaU x=some (.builtin id))(i:EA X (a::e) w)(g:x ≠ "__name__":=by decide)(d:(x=='g')=false:=by decide)
  (f:aab (a::e) X.env=(false,eval a X.env)::aab e X.env:=by first|exact aF rfl|rfl) (h:(abn pos (aab (a::e) X.env)).any (·.1)=false:=by rfl):EE X (.Call (.Name x p) (a::e) [⟨some k,.Constant (.bool true) j b,c⟩] pos) (wCB o w):=⟨DG hc m n l i.h g d f h⟩
def mr:aaU "sorted" = some (.builtin "sorted"):=by rfl
end
end L2
namespace HT
open PySem PySem.Spec PyProof.Rows
section
variable {prog:aax}{w:World}{A:aa8}{E:Ad->GT->Prop}{s:GT}
theorem rev_items(xs:Array Ad):((aav xs.size).filterMap λ(m:Nat)=>xs[((xs.size:Int)-1+(m:Int) * -1).toNat]?)=xs.toList.reverse:=by
 apply ab2;intro i;have b:∀k,k≤xs.size->((aav k).filterMap λ(m:Nat)=>xs[((xs.size:Int)-1+(m:Int) * -1).toNat]?)=(aav k).map λm=>xs.getD (xs.size-1-m) .none:=by
  intro k
  induction k with
  |zero=>intro _;rfl
  | succ k d=>
   intro hk;rw[ab6,List.filterMap_append,aaJ,d ∅];have e:((xs.size:Int)-1+(k:Int) * -1).toNat=xs.size-1-k:=by omega
   have h:xs.size-1-k<xs.size:=by omega
   have c:(List.filterMap (λ(m:Nat)=>xs[((xs.size:Int)-1+(m:Int) * -1).toNat]?) [k])=[xs.getD (xs.size-1-k) .none]:=by
    rw[adH,e,ab8 h];simp[h]
   rw[c];rfl
 rw[b xs.size (aaa _)]
 by_cases a:i<xs.size
 .rw[aah,ab5 a,List.getElem?_reverse (by simpa using a)];have h:xs.size-1-i<xs.size:=by omega
  simp[h]
 .rw[adj (by simp;omega),adj (by simp;omega)]
end
end HT
namespace L2
open PySem PySem.Spec PyProof.Rows
variable{i:Int}{j:Nat}{p3 p4:Pos}{a:Addr}{α:Al}{m2:MSt}{σ:St}{H:Hp}{ρ:List Nat}{ds ts:List aD}{kvs:List (aD×aD)}{K:Kd}{xs:List (aD×Addr×Ad)}{es:List (Key×V)}{Q:Ad->GT->Prop}
section
variable {X:Cx}{a b e st:Expr}{c w:WE}{pos p:Pos}
theorem yk:∀{xs:List V}{us:List Ad},Vals xs us->Vals xs.reverse us.reverse
 |_,_,.nil=>.nil
 |_,_,.cons r rs=>by
  rw[adq];rw[adq];exact(yk rs).append (.cons r .nil)
theorem Dh{K:Kd}{H:Hp}:∀{ds:List aD}{xs:List V},DenAll K H ds xs->DenAll K H ds.reverse xs.reverse
 |[],xs,h=>by
  have:xs=[]:=by simpa only[DenAll]using h
  subst this;simp only[List.reverse_nil,DenAll]
 |d::ds,xs,h=>by
  simp only[DenAll]at h;let⟨v,vs,rfl,f,g⟩:=h;rw[adq];rw[adq];exact(Dh g).append (by simp only[DenAll];exact⟨v,[],rfl,f,rfl⟩)
end
section
variable {X:Cx}{a b e st:Expr}{d c:WE}{pos l:Pos}
theorem Ju(xs:Array Ad):ahn xs none none (some (-1))=xs.toList.reverse.toArray:=by
 unfold ahn
 congr 1
 rw[<-HT.rev_items xs];show(sliceRange ((xs.size:Int)-1) (-1) (-1)).filterMap _=_;unfold sliceRange;rw[if_neg ⋯];have e:(if ((xs.size:Int)-1) > -1 then(((xs.size:Int)-1) - -1 - -1-1)/(- -1)else 0).toNat=xs.size:=by
  by_cases h:((xs.size:Int)-1) > -1
  .rw[if_pos h,show(- -1:Int)=1 from rfl,Int.ediv_one];omega
  .rw[if_neg h];omega
 simp only[e,agZ]
 congr 1
 funext m
 show xs[((xs.size:Int)-1 + -1*(m:Int)).toNat]?=_;rw[Int.mul_comm]
def YH(K:aae)(t ts:TE):TE:=λσ H Q=>t σ H λx g=>ts σ g λy f=>∃p xs,x = .ref p/\y = .int (-1)/\SqL K f p xs/\∀q,f q=none->Q (.ref q) (upd f q (.lst xs.reverse))
theorem OJ{D ts:TE}(G:PE X e D)(r:PE X (.UnaryOp .USub (.Constant (.int i) j p3) p4) ts):PE X (.Subscript e (.Slice none none (some (.UnaryOp .USub (.Constant (.int i) j p3) p4)) l) pos) (YH X.K D ts):=by
 intro f s σ H Q I h;refine ag0 (thn (G f s σ H _ I h) λv s1 ⟨x,M,O,r1,R⟩=>?_);refine wpAny_Slice ?_;rw[evalPart_none];refine LD (a:=_) (LD ?_);rw[evalPart_some];refine thn (r f s1 σ M _ O R) λvs g ⟨y,C,F,N,P⟩=>?_;let⟨p,xs,rfl,rfl,L,q⟩:=P;cases r1;let⟨t,rfl⟩:=N;have n:Inv X f σ C {g with heap:=g.heap.push {cls:=.type "slice",data:=.fields #[.none,.none,.int (-1) t]} }:=F.kept (t':=g.toks) λb T q=>Io _ q;let⟨k,u,z,J⟩:=n.list L;have B:=u.length;have m:C {g with heap:=g.heap.push {cls:=.type "slice",data:=.fields #[.none,.none,.int (-1) t]} }.heap.objs.size=none:=n.hok.fresh (aaa _);have S:=afz (prog:=X.prog) (w:=X.w) (A:=X.A) (E:=X.xe) (Q:=EP X f σ Q) (s:={g with heap:=g.heap.push {cls:=.type "slice",data:=.fields #[.none,.none,.int (-1) t]} }) (sl:=g.heap.objs.size) z.isList ⟨_,aal _ rfl,rfl,rfl⟩ .none .none (.int (-1) t) ⋯ (by
  rw[Ju];exact⟨.ref _,_,n.laid (t':=g.toks) (o:=.lst xs.reverse) (λ_ _=>Io _) (aaa _) ⟨by rw[agK];exact J,k.reverse,0,yk u,aal _ rfl⟩,rfl,q _ m⟩) (by rw[aaG];omega)
 show wpAny (model X.prog X.w) X.A (agT e (.Slice none none (some (.UnaryOp .USub (.Constant (.int i) j p3) p4)) l) (.ref p) (.ref g.heap.objs.size)) (EP X f σ Q) X.xe {g with heap:=g.heap.push {cls:=.type "slice",data:=.fields #[.none,.none,.int (-1) t]} };exact tail_any (ops:=[.ref p,.ref g.heap.objs.size]) z.isList.typeIs afr.lookup S 'f'
abbrev V8(d c:WE):WE:=λm K=>d m λr m1=>c m1 λf m2=>∃ds,lsOf m2 r=some ds/\f = .imm (.int (-1))/\K (.new ds.reverse) m2
theorem PJ(x:ME X e d)(s:ME X (.UnaryOp .USub (.Constant (.int i) j p3) p4) c):ME X (.Subscript e (.Slice none none (some (.UnaryOp .USub (.Constant (.int i) j p3) p4)) l) pos) (V8 d c):=(OJ x s).wk<|by
 intro σ H Q ⟨α,m,E,w,y,o⟩;refine⟨α,m,_,w,y,λr m1 v C k n1 h rr u=>⟨α,m1,_,h,k,λD m2 z t k2 n2 R p F=>?_⟩⟩;let⟨ds,A,rfl,k2⟩:=k2;let⟨a,xs,rfl,f,g⟩:=(rr.keep w h F).list R A;have B:=aB (show Den X.kx t (.int (-1)) z from p);subst B;refine⟨a,xs,rfl,rfl,f,λq n=>?_⟩;exact o _ m2 _ _ k2 (n2.trans n1) (R.lay n) ((show RelR X.kx.toKd α t _ (.new ds.reverse) (.ref q)from⟨q,_,rfl,n,aA,(Dh g).mono (bj (.inl n))⟩).base R (u.trans F)) ((u.trans F).trans (cC n))
def Ip(f:EE X e d)(h:EE X (.UnaryOp .USub (.Constant (.int i) j p3) p4) c):EE X (.Subscript e (.Slice none none (some (.UnaryOp .USub (.Constant (.int i) j p3) p4)) l) pos) (V8 d c):=⟨PJ f.h h.h⟩
end
def isFz:HO->Bool
 | .lst _=>true
 | .dK _=>true
 | .ext _=>true
 |_=>false
section
variable {X:Cx}{p:List 'i'}{d:St}{H:Hp}{s:GT}
theorem Inv.freezeU{u:HO}(I:Inv X p d H s)(h:H a=some u)(g:isFz u=true):∃o,Inv X p d (upd H a (.frz o u)) s:=by
 have ok:=I.hok a u h;let⟨o,e⟩:∃o,s.heap.get? a=some o:=by
  cases u with
  |lst xs=>let⟨_,m,n,_,e⟩:=ok;exact⟨_,e⟩
  |dK kvs=>let⟨_,_,vs,_,o,_,_,e,_⟩:=ok;exact⟨_,e⟩
  |ext r=>exact ok.2.1
  |_=>cases g
 have k:∀{b:Addr}{v:HO},H b=some v->v≠u->b≠a:=λq z=>wd q h z;refine⟨o,I.un (h':=s.heap) (t':=s.toks) ⟨λb f q _ _ _=>q,λb f q _ _ _=>⟨f.slots,q⟩,λb f q z _=>?_,λb f q _=>⟨f,q⟩,λb y q=>?_,λb f v q=>?_,λb t q=>⟨#[],?_⟩⟩ λb f q=>?_⟩
 .rw[av (abF (br h z))];exact z
 .rw[av (k q (by intro z;subst z;cases g))];exact q
 .rw[av (k q (by intro z;subst z;cases g))];exact q
 .rw[av (k q (by intro z;subst z;cases g)),q];simp
 .have stay:∀{c:Addr}{v:HO},ObjOk X.prog X.w H s.heap c v->ObjOk X.prog X.w (upd H a (.frz o u)) s.heap c v:=λx=>x.stay (λ_ _ _ z=>z) (λc z=>by rw[av (k z (by intro z;subst z;cases g))];exact z) λc y z=>by rw[av (k z (by intro z;subst z;cases g))];exact z
  by_cases l:b=a
  .subst l;rw[aA]at q;cases q;exact⟨e,stay ok⟩
  .rw[av l]at q;exact stay (I.hok b f q)
end
def tFrz(t:TS):TS:=λD σ H=>∃a u,H a=some u/\isFz u=true/\∀o,t D σ (upd H a (.frz o u))
section
variable {X:Cx}{st:Stmt}{w:WS}
theorem Wm{t:TS}(h:PS X st t):PS X st (tFrz t):=by
 intro p s σ H D I ⟨a,u,e,c,q⟩;let⟨o,b⟩:=I.freezeU e c;exact h p s σ _ D b (q o)
theorem GW{K:Kx}{m:MSt}(R:Rel K α m σ H)(N:Ren ρ m m2):Rel K (ρ.map λk=>α.getD k (.L 0)) m2 σ H/\Ext m.np α H (ρ.map λk=>α.getD k (.L 0)) H:=by
 have u:=iM R.len N.lt;have get:∀(k:Nat) (b:Ao),(ρ.map λk=>α.getD k (.L 0))[k]?=some b->∃j:Nat,ρ[k]?=some j/\α[j]?=some b:=λk b z=>by
  let⟨j,F,S⟩:=Paired.get2 u z;exact⟨j,F,S⟩
 have f:∀(k j:Nat) (b:Ao),ρ[k]?=some j->α[j]?=some b->(ρ.map λk=>α.getD k (.L 0))[k]?=some b:=λk j b C t=>by
  let⟨E,I,D⟩:=Paired.get' u C;rw[t]at D;cases D;exact I
 have g:(ρ.map λk=>α.getD k (.L 0)).take m.np=α.take m.np:=by
  apply ab2;intro l;rw[aaS,aaS]
  by_cases c:l<m.np
  .rw[if_pos c,if_pos c];have:ρ[l]?=some l:=by
    have e:=congrArg (·[l]?) N.pre;simp only[aaS,if_pos c]at e;rw[e,ab5 c]
   have s:l<α.length:=aat c R.npl;rw[f l l α[l] this (lD s),lD s]
  .rw[if_neg c,if_neg c]
 have ext:Ext m.np α H (ρ.map λk=>α.getD k (.L 0)) H:=⟨g,Frm.refl _ _,λa x=>by
  let⟨k,b,O,G⟩:=jB x;let⟨j,_,M⟩:=get k b O;exact .inl (lq M G),λa x=>by
  let⟨o,q,_⟩:=R.mem x;exact⟨_,q⟩⟩
 refine⟨⟨fm R.nd N.nd u,?_,λk b ds C t=>?_,?_,λj r z=>?_,?_,by rw[N.np];exact R.ebl,R.ebx.trans (ext.less R.ebl)⟩,ext⟩
 .rw[N.os,iO,iO]
 .obtain⟨j,q,qa⟩:=get k b C;rw[N.os,aah,q]at t;have P:j<m.os.length:=N.lt j (Ld q);have y:m.os.getD j []=ds:=aay t;refine R.own j b ds qa ?_;rw[<-y,aac,lD P];rfl
 .rw[N.vl];exact R.vlen
 .have h:=N.vs j r z
  cases r with
  |imm d=>exact R.var j (.imm d) h
  |new _=>exact h.elim
  |newT _=>exact h.elim
  |obj k=>
   let⟨n,q,h⟩:=h;let⟨v,A,a,B,e⟩:=R.var j (.obj n) h;exact⟨v,A,a,f k n _ q B,e⟩
  | «at» k p=>
   let⟨n,q,h⟩:=h;let⟨v,A,J,a,B,L,e⟩:=R.var j (.at n p) h;exact⟨v,A,J,a,f k n _ q B,L,e⟩
 .rw[N.np,iO];exact N.npl
structure Fz(k:Nat)(dd:aD)(ρ:List Nat)(m m2:MSt):Prop where
 nd:ρ.Nodup
 lt:∀k∈ρ,k<m.os.length
 out:k∉ρ
 pre:ρ.take m.np=aav m.np
 npl:m.np≤ρ.length
 npk:m.np≤k
 os:m2.os=ρ.map λk=>m.os.getD k []
 np:m2.np=m.np
 vl:m2.vs.length=m.vs.length
 vs:∀(j:Nat) (r:R),m2.vs[j]?=some (some r)->RenR ρ m.vs[j]? r\/(r = .imm dd/\(m.vs[j]?=some (some (.obj k))\/m.vs[j]?=some (some (.at k []))))
def Fz.ren{k:Nat}{d:aD}{ρ:List Nat}{m m2:MSt}(F:Fz k d ρ m m2):∃b,Ren ρ m b/\b.np=m2.np/\b.os=m2.os/\b.vs.length=m2.vs.length/\∀(j:Nat) (r:R),m2.vs[j]?=some (some r)->b.vs[j]?=some (some r)\/(r = .imm d/\(m.vs[j]?=some (some (.obj k))\/m.vs[j]?=some (some (.at k [])))):=by
 classical
 refine⟨{m2 with vs:=m2.vs.mapIdx λj o=>match o with|some r=>if RenR ρ m.vs[j]? r then some r else none|none=>none},⟨F.nd,F.lt,F.pre,F.npl,F.os,F.np,by rw[<-F.vl];simp,λj r z=>?_⟩,rfl,rfl,'a',λj r z=>?_⟩
 .simp only[agA]at z
  cases q:m2.vs[j]? with
  |none=>rw[q]at z;cases z
  | some o=>
   rw[q]at z
   cases o with
   |none=>cases z
   |some c=>
    simp only[acK,ahe]at z
    split at z
    .cases z;assumption
    .cases z
 .rcases F.vs j r z with h|h
  .left;simp only[agA,z,acK,if_pos h]
  .exact .inr h
theorem vz{m:MSt}{A:f7}{D:Ends}{k:Nat}{B:aD}{ao:Ao}{u:HO}(c:Rel X.kx α m σ H)(O:EndsOk X.kx m.np α H A D)(F:Fz k B ρ m m2)(J:α[k]?=some ao)(I:a∈ao.ads)(C:H a=some u)(t:isFz u=true)(mu:Mu u=true)
  (q:∀o,Pers H (upd H a (.frz o u))->Den X.kx (upd H a (.frz o u)) B (.ref a)) (name:∀(j:Nat) (v:V),(m.vs[j]?=some (some (.obj k))\/m.vs[j]?=some (some (.at k [])))->σ[j]?=some (some v)->v = .ref a) (U:w A m2):tFrz (tMS X.kx w) D σ H:=by
 let⟨Z,N,f,d,g,l⟩:=F.ren;let⟨L,y⟩:=GW c N;refine⟨a,u,C,t,λo=>?_⟩;have E:Pers H (upd H a (.frz o u)):=bj (.inr ⟨u,C,mu⟩);have p:a∈ads α:=lq J I;have out:a∉ads _:=λz=>by
  let⟨i,x,Y,P⟩:=jB z;let⟨j,M,W⟩:=Paired.get2 (iM c.len N.lt) Y;exact iU c.nd J W (λz=>F.out (z▸Ld M)) I P
 have G:Ext m.np α H (ρ.map λk=>α.getD k (.L 0)) (upd H a (.frz o u)):=⟨y.pre,λb ob e n=>by rw[av (λz=>n (by rw[z];exact p))];exact e,y.new,λb s=>by
  by_cases eb:b=a
  .subst eb;exact⟨_,aA⟩
  .rw[av eb];exact y.old b s⟩
 have R:=L.at' E (λb s=>av λz=>out (z▸s)) (c.ebx.trans (G.less c.ebl));refine⟨_,m2,A,⟨R.nd,by rw[R.len,d],λk ao ds S T=>R.own k ao ds S (by rw[d];exact T),by rw[R.vlen,g],λj r z=>?_,by rw[<-f];exact R.npl,by rw[<-f];exact R.ebl,R.ebx⟩,U,by rw[F.np];exact O.ext G⟩;rcases l j r z with h|⟨rfl,h⟩
 .exact R.var j r h
 .obtain⟨v,ev⟩:∃v,σ[j]?=some (some v):=by
   rcases h with h|h
   .obtain⟨v,ev,_⟩:=c.var j _ h;exact⟨v,ev⟩
   .obtain⟨v,ev,_⟩:=c.var j _ h;exact⟨v,ev⟩
  refine⟨v,ev,?_⟩;rw[name j v h ev];exact q o E
def wFzL(w:WS):WS:=λD m=>∃(k j:Nat) (ds:List aD) (ρ:List Nat) (m2:MSt),m.vs[j]?=some (some (.obj k))/\m.os[k]?=some ds/\Fz k (.list ds) ρ m m2/\w D m2
theorem VE(h:MS X st w):MS X st (wFzL w):=(Wm h).wk<|by
 intro D σ H ⟨α,m,s,R,⟨k,p,ds,ρ,m2,ej,d,F,f⟩,l⟩;let⟨v,r,a,e,rfl⟩:=R.var p _ ej;let⟨xs,n,g⟩:=R.own k _ _ e d;refine vz R l F e (aaf.mpr rfl) n rfl rfl (λo q=>?_) (λj v b c=>?_) f
 .simp only[Den];exact⟨a,xs,rfl,.inl ⟨o,aA⟩,g.mono q⟩
 .rcases b with b|b
  .obtain⟨v',ev',a',ea',rfl⟩:=R.var j _ b;rw[e]at ea';cases ea';rw[c]at ev';cases ev';rfl
  .obtain⟨v',ev',τ,a',ea',_⟩:=R.var j _ b;rw[e]at ea';cases ea'
def Fm(d:aD):jf (lfD d)=some d:=by cases d<;>rfl
theorem fzKK{K:Kd}{H:Hp}{τ:List 'h'}{p:List Nat}:∀{kvs:List (aD×aD)}{i:Nat}{es:List (Key×V)},TAtK K H τ p i (lfKV kvs) es->DenKK K H kvs es
 |[],_,_,h=>by simpa[ TAtK]
 |(k,d)::r,i,es,h=>by
  let⟨c,v,vs,rfl,e,g,b⟩:=h;exact⟨c,v,vs,rfl,e,ju g (Fm d),fzKK b⟩
def QI(h:ES X st w):ES X st (wFzL w):=⟨VE h.h⟩
end
def FzVs(k:Nat)(d:aD)(ρ:List Nat):List (Option R)->List (Option R)->Prop
 |o::os,q::qs=>(RenO ρ o q\/(q= ~~~d/\(o=some (.obj k)\/o=some (.at k []))))/\FzVs k d ρ os qs
 |[],[]=>True
 |_,_=>False
theorem FzVs.len{k:Nat}{d:aD}{ρ:List Nat}:∀{os q:List (Option R)},FzVs k d ρ os q->q.length=os.length
 |[],[],_=>rfl
 |_::_,_::_,h=>congrArg (· + 1) (FzVs.len h.2)
 |[],_::_,h=>h.elim
 |_::_,[],h=>h.elim
theorem FzVs.get{k:Nat}{d:aD}{ρ:List Nat}:∀{os b:List (Option R)},FzVs k d ρ os b->∀(j:Nat) (r:R),b[j]?=some (some r)->RenR ρ os[j]? r\/(r = .imm d/\(os[j]?=some (some (.obj k))\/os[j]?=some (some (.at k []))))
 |o::os,q::b,h,0,r,e=>by
  have c:=by simpa using e
  subst c;rcases h.1 with h|_
  .exact .inl h
  .simp_all
 |o::os,q::b,h,j+1,r,e=>by simpa using FzVs.get h.2 j r ‹_›
 |[],[],_,_,_,e=>by simp at e
 |[],_::_,h,_,_,_=>h.elim
 |_::_,[],h,_,_,_=>h.elim
theorem VQ{k:Nat}{d:aD}{m:MSt}(nd:decide ρ.Nodup=true)(lt:(ρ.all λk=>Nat.blt k m.os.length)=true)(out:(ρ.all λi=>i != k)=true)(pre:ρ.take m.np=aav m.np)(npl:Nat.ble m.np ρ.length=true)(npk:Nat.ble m.np k=true)(os:m2.os=ρ.map λk=>m.os.getD k [])(np:m2.np=m.np)(vs:FzVs k d ρ m.vs m2.vs):Fz k d ρ m m2:=
 ⟨of_decide_eq_true nd,λk hk=>Nat.blt_eq.mp (abA.mp lt k hk),λz=>by simpa using abA.mp out k z,pre,aer npl,aer npk,os,np,vs.len,λj r e=>vs.get j r e⟩
def YB{w:WS}{D:f7}{m:MSt}(k j:Nat)(ds:List aD)(ρ:List Nat)(m2:MSt)(b:m.vs[j]?=some (some (.obj k)))(e:m.os[k]?=some ds)(F:Fz k (.list ds) ρ m m2)(h:w D m2):wFzL w D m:=⟨k,j,ds,ρ,m2,b,e,F,h⟩
noncomputable instance instDecPyData:DecidableEq aD:=λa b=>Classical.propDecidable (a=b)
mutual
def lg:aD->Nat
 | .int _=>1
 | .str _=>1
 | .tuple ds=>fV ds+1
 |_=>0
def fV:List aD->Nat
 |[]=>0
 |d::ds=>lg d+fV ds
end
def kyD(d:aD):Bool:=(match d with| .tuple _=>true|_=>false)&&(hkD d&&(d.canLay0&&decide (d.depth≤7)))
theorem i8{d:aD}(h:kyD d=true):∃ds,d = .tuple ds/\hkA ds=true/\d.canLay0=true/\d.depth≤7:=by
 unfold kyD at h;rw[aaH,aaH,aaH,decide_eq_true_eq]at h
 cases d with
 |tuple ds=>exact⟨ds,rfl,by simpa[hkD]using h.2.1,h.2.2.1,h.2.2.2⟩
 |_=>simp at h
section
variable {w:World}{prog:aax}
theorem tz(w:World):∀a b:List aD,jt w (a++b)=jt w a++jt w b
 |[],b=>by simp[jt]
 |d::a,b=>by simp[ jt,tz w a b]
theorem qh:∀a b:List aD,fV (a++b)=fV a+fV b
 |[],b=>by simp[fV]
 |d::a,b=>by simp[ fV,qh a b];omega
theorem v3:∀{ds:List aD}{d:aD},hkA ds=true->d∈ds->hkD d=true
 |x::ds,d,h,a=>by
  simp[hkA]at h;obtain rfl|a:=aag.mp a
  .exact h.1
  .exact v3 h.2 a
theorem kU{d:aD}(h:d∈ds):d.depth≤aaB ds:=by
 induction ds with
 |nil=>cases h
 |cons x ds i=>
  show _≤max x.depth _
  grind
mutual
theorem qu:∀(d:aD) {A:aa8}{E:Ad->GT->Prop}{s:GT}{v:Ad}{as:List Addr}{Q:Int->GT->Prop},hkD d=true->Reads s.heap v d as->A.units+d.depth<cLine->Q (i6 w d) {s with toks:=s.toks+lg d}->wpAny (model prog w) A (pyHash v) Q E s
 | .int i,A,E,s,v,as,Q,_,r,_,h=>by
  cases r;exact wpAny_pyHash_int (by simpa only[i6,lg]using h)
 | .str x,A,E,s,v,as,Q,_,r,_,h=>by
  cases r;exact wpAny_pyHash_str (by simpa only[i6,lg]using h)
 | .tuple ds,A,E,s,v,as,Q,hk,r,hu,h=>by
  cases r with
  | @tuple a o vs n _ _ ho hc hd f=>
   have j:s.TypeIs (.ref a) "tuple":=⟨o,ho,hc⟩;have k:A.units<cLine:=Nat.lt_of_le_of_lt (acd _ _) hu;have u:∀{P:Option Ad->GT->Prop},P (some (.builtin "tuple.__hash__")) s->wpAny (model prog w) A (aht (.ref a) "__hash__") P E s:=λp=>aeO j afv.lookup p;simp only[i6,lg]at h;refine gT (m:=cRoomFor "hash" [.ref a]) (wpAny_cRoomFor_or (.inr k) (gT (m:=aht _ _) (u ?_)));rw[if_neg (show ¬(some (Ad.builtin "tuple.__hash__")==some afX)=true by rw[beq_builtin_none];decide)];refine gT (m:=aht _ _) (u (gT (m:=callSpecialIfBoundUnlessNone? (.ref a) "__hash__" _) ?_));refine wpAny_callSpecialIfBoundUnlessNone?_slot j afv (aba afv j F.entry_tuple_hash (gT (m:=adu (.ref a)) (wpAny_tupleItemsOf ho hd ?_)) (F.args_tuple_hash_1 _));refine gT ?_;rw[<-ag5];refine aex _
    (λrest (b:Array Int) q=>∃done left bs,ds=done++left/\adT s.heap rest left bs/\b.toList=jt w done/\q={s with toks:=s.toks+fV done})
    _ ?_ ?_ _ _ ⟨[],ds,_,rfl,f,by simp[jt],by simp[fV]⟩
   .rintro x rest b q ⟨done,left,bs,hds,hl,hb,rfl⟩
    cases hl with
    | @cons _ _ d ds' as1 bs1 r1 r2=>
     have t:d∈ds:=by rw[hds];simp
     refine gT (yD ds d t (v3 (by simpa only[hkD]using hk) t) (s:={s with toks:=s.toks+fV done}) r1 ?_ ?_)
     .have:=kU t;have e:(abT ds).depth=aaB ds+1:=rfl;show A.units+1+d.depth<cLine;omega
     .have fin:∃c l g,ds=c++l/\adT s.heap rest l g/\(b.push (i6 w d)).toList=jt w c/\({s with toks:=s.toks+fV done+lg d}:GT)={s with toks:=s.toks+fV c }:=by
       refine⟨done++[d],ds',_,by rw[hds];simp,r2,?_,?_⟩
       .rw[aen,hb,tz];simp[jt]
       .rw[qh,adf];simp[fV]
      first
       |exact LD fin
       |exact gT (LD (LD fin))
   .rintro b q ⟨done,left,bs,hds,hl,hb,rfl⟩;cases hl;rw[aa4]at hds;subst hds;change wpAny _ _ (retInt (abI (b.toList:List Int))) _ _ _;rw[hb];refine wpAny_ret_mkInt ?_;show wpAny _ _ (if (decide (-(2:Int)^63≤abI (jt w ds))&&decide (abI (jt w ds)<2^63))=true then _ else _) Q E _;unfold reduceHash at h
    by_cases f:(decide (-(2:Int)^63≤abI (jt w ds))&&decide (abI (jt w ds)<2^63))=true
    .rw[if_pos f];rw[if_pos f]at h;refine LD ?_;simpa[adf]using h
    .rw[if_neg f];rw[if_neg f]at h;refine gT (m:=rule _) (abH (LD ?_));simpa[adf]using h
 | .none,_,_,_,_,_,_,hk,_,_,_=>by simp only[hkD]at hk;cases hk
 | .bool _,_,_,_,_,_,_,hk,_,_,_=>by simp only[hkD]at hk;cases hk
 | .list _,_,_,_,_,_,_,hk,_,_,_=>by simp only[hkD]at hk;cases hk
 | .dict _,_,_,_,_,_,_,hk,_,_,_=>by simp only[hkD]at hk;cases hk
theorem yD:∀(ds:List aD) (d:aD),d∈ds->∀{A:aa8}{E:Ad->GT->Prop}{s:GT}{v:Ad}{as:List Addr}{Q:Int->GT->Prop},hkD d=true->Reads s.heap v d as->A.units+d.depth<cLine->Q (i6 w d) {s with toks:=s.toks+lg d}->wpAny (model prog w) A (pyHash v) Q E s
 |x::ds,d,hm=>by
  intro hk r b h;rcases aag.mp hm with e|a
  .rw[e]at hk r b h;exact qu x hk r b h
  .exact yD ds d a hk r b h
end
mutual
theorem uv:∀(a b:aD),hkD a=true->hkD b=true->aad a b=decide (a=b)
 | .int i,b,_,hb=>by
  cases b with
  |int j=>
   show decide (i=j)=_
   by_cases h:i=j
   .subst h;rw[decide_eq_true rfl,decide_eq_true rfl]
   .rw[decide_eq_false h,decide_eq_false (λz=>h (by cases z;rfl))]
  |str _=>rw[decide_eq_false (λz=>by cases z)];rfl
  |tuple _=>rw[decide_eq_false (λz=>by cases z)];rfl
  |none=>simp only[hkD]at hb;cases hb
  |bool _=>simp only[hkD]at hb;cases hb
  |list _=>simp only[hkD]at hb;cases hb
  |dict _=>simp only[hkD]at hb;cases hb
 | .str i,b,_,hb=>by
  cases b with
  |str j=>
   show decide (i=j)=_
   by_cases h:i=j
   .subst h;rw[decide_eq_true rfl,decide_eq_true rfl]
   .rw[decide_eq_false h,decide_eq_false (λz=>h (by cases z;rfl))]
  |int _=>rw[decide_eq_false (λz=>by cases z)];rfl
  |tuple _=>rw[decide_eq_false (λz=>by cases z)];rfl
  |none=>simp only[hkD]at hb;cases hb
  |bool _=>simp only[hkD]at hb;cases hb
  |list _=>simp only[hkD]at hb;cases hb
  |dict _=>simp only[hkD]at hb;cases hb
 | .tuple ds,b,ha,hb=>by
  cases b with
  |tuple e=>
   simp only[aad];rw[Au ds e (by simpa only[hkD]using ha) (by simpa only[hkD]using hb)]
   by_cases h:ds=e
   .subst h;rw[decide_eq_true rfl,decide_eq_true rfl]
   .rw[decide_eq_false h,decide_eq_false (λz=>h (by cases z;rfl))]
  |int _=>rw[decide_eq_false (λz=>by cases z)];rfl
  |str _=>rw[decide_eq_false (λz=>by cases z)];rfl
  |none=>simp only[hkD]at hb;cases hb
  |bool _=>simp only[hkD]at hb;cases hb
  |list _=>simp only[hkD]at hb;cases hb
  |dict _=>simp only[hkD]at hb;cases hb
 | .none,_,ha,_=>by simp only[hkD]at ha;cases ha
 | .bool _,_,ha,_=>by simp only[hkD]at ha;cases ha
 | .list _,_,ha,_=>by simp only[hkD]at ha;cases ha
 | .dict _,_,ha,_=>by simp only[hkD]at ha;cases ha
theorem Au:∀(a b:List aD),hkA a=true->hkA b=true->PyData.eqvAll a b=decide (a=b)
 |[],[],_,_=>by rw[decide_eq_true rfl];rfl
 |[],_::_,_,_=>by rw[decide_eq_false (λz=>by cases z)];rfl
 |_::_,[],_,_=>by rw[decide_eq_false (λz=>by cases z)];rfl
 | x::a,y::b,ha,hb=>by
  simp only[hkA,aaH]at ha hb;simp only[PyData.eqvAll];rw[uv x y ha.1 hb.1,Au a b ha.2 hb.2]
  by_cases h:x=y
  .by_cases h2:a=b
   .subst h h2;rw[decide_eq_true rfl,decide_eq_true rfl,decide_eq_true rfl];rfl
   .rw[decide_eq_false h2,Bool.and_false,decide_eq_false (λz=>h2 (by cases z;rfl))]
  .rw[decide_eq_false h,Bool.false_and,decide_eq_false (λz=>h (by cases z;rfl))]
end
mutual
theorem Reads.hkeep{h h':aaZ}{d:Addr}{o:Obj}{f:Array aca}{g:Nat}(c:h.get? d=some o)(hd:o.data = .dict f g)(e:abl d h h'):∀(k:aD) {v:Ad}{as:List Addr},hkD k=true->Reads h v k as->Reads h' v k as
 | .int _,_,_,_,r=>by cases r;exact .int _ _
 | .str _,_,_,_,r=>by cases r;exact .str _ _
 | .tuple ds,_,_,hk,r=>by
  cases r with
  | @tuple a o' vs n _ _ h1 h2 h3 h4=>
   have b:a≠d:=by
    rintro rfl;rw[c]at h1;cases h1;rw[hd]at h3;cases h3
   exact .tuple ((e.2 a b).trans h1) h2 h3 (ReadsAll.hkeep c hd e ds (by simpa only[hkD]using hk) h4)
 | .none,_,_,hk,_=>by simp only[hkD]at hk;cases hk
 | .bool _,_,_,hk,_=>by simp only[hkD]at hk;cases hk
 | .list _,_,_,hk,_=>by simp only[hkD]at hk;cases hk
 | .dict _,_,_,hk,_=>by simp only[hkD]at hk;cases hk
theorem ReadsAll.hkeep{h h':aaZ}{d:Addr}{o:Obj}{e:Array aca}{f:Nat}(a:h.get? d=some o)(hd:o.data = .dict e f)(b:abl d h h'):∀(ks:List aD) {vs:List Ad}{as:List Addr},hkA ks=true->adT h vs ks as->adT h' vs ks as
 |[],_,_,_,r=>by cases r;exact .nil
 |k::ks,_,_,hk,r=>by
  simp only[hkA,aaH]at hk
  cases r with
  |cons r1 c=>exact .cons (Reads.hkeep a hd b k hk.1 r1) (ReadsAll.hkeep a hd b ks hk.2 c)
end
mutual
theorem nu:∀(d:aD) {A:aa8}{E:Ad->GT->Prop}{s:GT}{v:Ad}{as:List Addr}{n:Nat}{Q:Bool->GT->Prop},hkD d=true->Reads s.heap v d as->d.depth≤n->Q true s->wpAny (model prog w) A (eqIsQuiet n v) Q E s
 | .int _,_,_,_,_,_,_,_,_,r,_,h=>by cases r;rw[eqIsQuiet_byValue _ rfl];exact LD h
 | .str _,_,_,_,_,_,_,_,_,r,_,h=>by cases r;rw[eqIsQuiet_byValue _ rfl];exact LD h
 | .tuple ds,A,E,s,v,as,n,Q,hk,r,hn,h=>by
  cases r with
  | @tuple a o vs nn _ _ ho hc hd hr=>
   have f:s.TypeIs (.ref a) "tuple":=⟨o,ho,hc⟩;have e:(abT ds).depth=aaB ds+1:=rfl
   cases n with
   |zero=>omega
   | succ n=>
    unfold eqIsQuiet;refine gT (m:=aht _ _) (aeO f F.slot_tuple_eq.lookup (gT (m:=isInstance (.ref a) (.type "tuple")) (acY f isSubtype_tuple_tuple ?_)));simp only[if_false,ac6,Bool.not_true];refine gT (m:=seqItems? (.ref a)) (acG ho hd ?_);refine gT ?_;show wpAny _ _ (forIn vs _ _) _ _ s;rw[<-ag5];refine aex _ (λrest r b=>r.1=none/\b=s/\∃left bs,(∀d∈left,d∈ds)/\adT s.heap rest left bs) _ ?_ ?_ _ _ ⟨rfl,rfl,ds,_,λ_ h=>h,hr⟩
    .rintro x rest r b ⟨hr',rfl,left,bs,hsub,hl⟩
     cases hl with
     | @cons _ _ d ds' as1 bs1 r1 r2=>
      have c:d∈ds:=hsub d aan;refine gT (u7 ds d c (v3 (by simpa only[hkD]using hk) c) r1 (by have:=kU c;omega) ?_);simp only[if_false,ac6,Bool.not_true];exact LD ⟨rfl,rfl,ds',_,λz g=>hsub z (aai _ g),r2⟩
    .rintro⟨r1,r2⟩ b ⟨hr',rfl,_⟩;simp only at hr';subst hr';exact LD h
 | .none,_,_,_,_,_,_,_,hk,_,_,_=>by simp only[hkD]at hk;cases hk
 | .bool _,_,_,_,_,_,_,_,hk,_,_,_=>by simp only[hkD]at hk;cases hk
 | .list _,_,_,_,_,_,_,_,hk,_,_,_=>by simp only[hkD]at hk;cases hk
 | .dict _,_,_,_,_,_,_,_,hk,_,_,_=>by simp only[hkD]at hk;cases hk
theorem u7:∀(ds:List aD) (d:aD),d∈ds->∀{A:aa8}{E:Ad->GT->Prop}{s:GT}{v:Ad}{as:List Addr}{n:Nat}{Q:Bool->GT->Prop},hkD d=true->Reads s.heap v d as->d.depth≤n->Q true s->wpAny (model prog w) A (eqIsQuiet n v) Q E s
 |x::ds,d,hm=>by
  intro hk r a h;rcases aag.mp hm with e|b
  .rw[e]at hk r a;exact nu x hk r a h
  .exact u7 ds d b hk r a h
end
theorem o9{d:aD}(h:kyD d=true):hkD d=true:=by
 let⟨ds,rfl,a,_⟩:=i8 h;simpa[hkD]
noncomputable def mY (prog:aax) (w:World):HeapKind prog w aD where
 is:=λh d a=>(∃c,Reads h (.ref a) d c)/\kyD d=true
 hash:=i6 w
 draws:=lg
 room:=λA=>A.units+20<cLine
 inj:=λ{h a x y} ⟨⟨c,r1⟩,k1⟩ ⟨⟨bs,f⟩,k2⟩=>by
  let⟨ds,rfl,_,m,_⟩:=i8 k1;exact SeqAt.Reads.unique _ _ _ _ _ m r1 f
 keeps:=λ⟨⟨c,r⟩,k⟩ i hd j=>⟨⟨c,Reads.hkeep i hd j _ (o9 k) r⟩,k⟩
 pyHash:=λ{A E s k a Q} g ⟨⟨c,r⟩,hk⟩ h=>by
  let⟨ds,e,_,_,hd⟩:=i8 hk;exact qu k (o9 hk) r ∅ h
 eqBool:=λ{A E s x y a b Q} g ⟨⟨c,r1⟩,k1⟩ ⟨⟨bs,f⟩,k2⟩ h=>by
  let⟨ds,t,_,l,d1⟩:=i8 k1;let⟨p,q,_,n,o⟩:=i8 k2;refine ahu x y A s _ _ _ _ r1 f l n ∅ prog w E Q ?_;rw[uv x y (o9 k1) (o9 k2)];exact h
 quiet:=λ{A E s k a Q} ⟨⟨c,r⟩,hk⟩ h=>by
  let⟨ds,e,_,_,hd⟩:=i8 hk;exact nu k (o9 hk) r ∅ h
end
def cU(k:aD):List (aD×aD)->Option aD
 |[]=>none
 |(k',d)::r=>if aad k' k=true then some d else cU k r
def putP(k d:aD):List (aD×aD)->List (aD×aD)
 |[]=>[(k,d)]
 |(k',d')::r=>if aad k' k=true then(k',d)::r else(k',d')::putP k d r
def kyA(kvs:List (aD×aD)):Bool:=kvs.all λk=>kyD k.1
def kdD:aD->Bool
 | .int _=>true
 | .str _=>true
 |_=>false
def oneK(kvs:List (aD×aD))(k:aD):Bool:=(isKd kvs&&kdD k)||(kyA kvs&&kyD k)
theorem v8{k:aD}(h:kdD k=true):∃kk:Key,k=keyD kk:=by
 cases k with
 |int i=>exact⟨.inl i,rfl⟩
 |str x=>exact⟨.inr x,rfl⟩
 |_=>cases h
def Oo(a b:Key):aad (keyD a) (keyD b)=decide (a=b):=by
 cases a<;>cases b<;>simp[keyD,aad,adg]
def IsDc(K:Kd)(H:Hp)(a:Addr)(kvs:List (aD×aD)):Prop:=
 (∃e,Rd H a (.dK e)/\DenKK K H kvs e)\/∃e,Rd H a (dX a e)/\isKd kvs=false/\(kvs.map (·.1)).Nodup/\DenKV K H kvs e
section
variable {K:Kd}{H a:Hp}
theorem fzKV{τ:List 'h'}{p:List Nat}:∀{kvs:List (aD×aD)}{i:Nat}{e:List (Int×V×V)},TAtD K H τ p i (lfKV kvs) e->DenKV K H kvs e
 |[],_,_,h=>by simpa[lfKV]
 |(k,d)::r,i,e,h=>by
  let⟨u,v,vs,rfl,g,b,c⟩:=h;exact⟨u,v,vs,rfl,g,ju b (Fm d),fzKV c⟩
theorem Uz{τ:List 'h'}{p:List Nat}:∀{kvs:List (aD×aD)}{i:Nat}{e:List (Int×V×V)},DenKV K H kvs e->TAtD K H τ p i (lfKV kvs) e
 |[],_,_,h=>by simpa only[lfKV]
 |_::r,i,e,h=>by
  let⟨u,v,vs,rfl,g,b,c⟩:=h;exact⟨u,v,vs,rfl,g,ot b,Uz c⟩
def jy(kvs:List (aD×aD)):(lfKV kvs).map (·.1)=kvs.map (·.1):=by
 unfold lfKV;rw[abD];rfl
def vY(kvs:List (aD×aD)):isKd (lfKV kvs)=isKd kvs:=by
 unfold isKd lfKV;rw[adC];rfl
theorem uO(h:isKd kvs=true\/kyA kvs=true):fzOf kvs=none/\excC kvs=none:=by
 cases kvs with
 |nil=>exact⟨rfl,rfl⟩
 | cons x r=>
  let⟨k,d⟩:=x
  cases k with
  |none=>
   rcases h with h|h
   .simp[isKd]at h
   .simp[kyA,kyD]at h
  |int _=>exact⟨rfl,rfl⟩
  |str _=>exact⟨rfl,rfl⟩
  |bool _=>exact⟨rfl,rfl⟩
  |list _=>exact⟨rfl,rfl⟩
  |tuple _=>exact⟨rfl,rfl⟩
  |dict _=>exact⟨rfl,rfl⟩
end
def dcM(m:MSt)(kvs:List (aD×aD)):R->Prop
 | .imm (.dict es)=>es=kvs
 | .at k p=>p=p/\ndT m k p=some (.dict (lfKV kvs))
 |_=>False
theorem RelR.dc{K:Kx}{m:MSt}{A:Hp}{r:R}{v:V}(R:Rel K α m σ H)(h:RelR K α A H r v)(e:dcM m kvs r)(hk:isKd kvs=true\/kyA kvs=true):∃a,v = .ref a/\IsDc K H a kvs:=by
 let⟨n1,n2⟩:=uO hk
 cases r with
 | imm d=>
  cases d with
  |dict j=>
   have z:j=kvs:=e;subst z;have n:Den K H (.dict j) v:=h;simp only[Den]at n;let⟨a,rfl,n⟩:=n;refine⟨a,rfl,?_⟩;rcases n with⟨x,⟨o,f⟩,l,g⟩|⟨x,o,f,g⟩|⟨c,x,t,_⟩
   .exact .inr ⟨x,.inr ⟨o,f⟩,l.1,l.2.1,g⟩
   .exact .inl ⟨x,.inr ⟨o,f⟩,g⟩
   .rw[n2]at t;cases t
  |none=>exact e.elim
  |bool _=>exact e.elim
  |int _=>exact e.elim
  |str _=>exact e.elim
  |list _=>exact e.elim
  |tuple _=>exact e.elim
 | «at» k p=>
  let⟨D,a,B,_,u,rfl,g⟩:=RelR.node R h e.2;refine⟨a,rfl,?_⟩;have s:=uO (by
   rcases hk with hk|hk
   .exact .inl (by rw[vY];exact hk)
   .refine .inr ?_;unfold kyA lfKV at *;rw[adC];exact hk)
  simp only[TAt]at g;rcases g with⟨d,i,_⟩|⟨_,_,b,j,i,y,q,l,g⟩|⟨_,_,b,j,i,y,q,g⟩|⟨c,b,dx,C,x,w,_⟩
  .rw[s.1]at i;cases i
  .rw[u]at i;cases i;exact .inr ⟨j,.inl q,by rw[<-vY];exact l.1,by rw[<-jy];exact l.2.1,fzKV g⟩
  .rw[u]at i;cases i;exact .inl ⟨j,.inl q,fzKK g⟩
  .rw[s.2]at w;cases w
 |obj _=>exact e.elim
 |new _=>exact e.elim
 |newT _=>exact e.elim
theorem DenKV.len{K:Kd}{H:Hp}:∀{kvs:List (aD×aD)}{e:List (Int×V×V)},DenKV K H kvs e->kvs.length=e.length
 |[],_,g=>by simp[DenKV]at g;subst g;rfl
 |_::r,_,g=>by
  let⟨u,v,vs,rfl,_,_,g⟩:=g;simp[DenKV.len g]
section
variable {X:Cx}{pins:List 'i'}{σ:St}{H:Hp}{s:GT}
abbrev PxV(K:Kd)(H:Hp):List (aD×aD)->List (aD×Addr×Ad)->Prop:=abL λp q=>p.1=q.1/\Den K H p.1 (.ref q.2.1)/\∃v,Den K H p.2 v/\RelV v q.2.2
theorem PxV.keys{H:Hp}(p:PxV K H kvs xs):xs.map (·.1)=kvs.map (·.1):=by
 induction p with
 |nil=>rfl
 |cons h t i=>rw[aaq,aaq,i,h.1]
theorem uI{k:aD}{u:V}(hk:kyD k=true)(h:Den K H k u):∃b,u = .ref b:=by
 let⟨ds,rfl,_⟩:=i8 hk;let⟨a,x,e,_⟩:=h;exact⟨a,e⟩
theorem Ae{k:aD}(hk:kyD k=true):k.hasDict=false:=by
 let⟨ds,rfl,_,h,_⟩:=i8 hk;exact aa7 _ h
def Inv.ky(I:Inv X pins σ H s){k:aD}{b:Addr}(hk:kyD k=true)(h:Den X.kd H k (.ref b)):(mY X.prog X.w).is s.heap k b:=⟨h.reads I (Ae hk) (rfl),hk⟩
abbrev ExV(w:World):List (Int×V×V)->List (aD×Addr×Ad)->Prop:=abL λe q=>e.1=i6 w q.1/\e.2.1 = .ref q.2.1/\RelV e.2.2 q.2.2
theorem Inv.dcE(I:Inv X pins σ H s){f:List (Int×V×V)}(G:Rd H a (dX a f))(g:DenKV X.kd H kvs f)(nd:(kvs.map (·.1)).Nodup)(hk:kyA kvs=true):(a==abG)=false/\f.length≤aak/\∃xs,s.heap.DictOfH (mY X.prog X.w) a xs/\PxV X.kd H kvs xs/\ExV X.w f xs:=by
 let⟨⟨R,E,o,c,M,D,T,J,N⟩,_⟩:=(show ObjOk X.prog X.w H s.heap a (dX a f)from G.ok I.hok);have key:∀{kvs:List (aD×aD)}{f:List (Int×V×V)}{c:List aca},kyA kvs=true->DenKV X.kd H kvs f->abL (λ(e:Int×V×V) (d:aca)=>d.hash=e.1/\RelV e.2.1 d.key/\RelV e.2.2 d.val) f c->∃xs,c=xs.map (entryOfKey (mY X.prog X.w))/\PxV X.kd H kvs xs/\ExV X.w f xs:=by
  intro kvs
  induction kvs with
  |nil=>
   intro f c _ g p;simp only[DenKV]at g;subst g;cases p;exact⟨[],rfl,.nil,.nil⟩
  | cons x r n=>
   intro f c hk g p;let⟨k,d⟩:=x;rw[kyA,abZ,aaH]at hk;simp only[DenKV]at g;let⟨u,v,vs,rfl,A,F,S⟩:=g
   cases p with
   |cons Q K=>
    rename_i O m;let⟨xs,y,j,l⟩:=n hk.2 S K;let⟨b,rfl⟩:=uI hk.1 A;let⟨L,C,z⟩:=Q;let⟨B,P,w⟩:=O
    cases (show P=abk b from C)
    refine⟨(k,b,w)::xs,?_,.cons ⟨rfl,A,v,F,z⟩ j,.cons ⟨rfl,rfl,z⟩ l⟩;rw[aaq,<-y]
    congr 1
    show aca.mk B (.ref b) w=⟨i6 X.w k,.ref b,w⟩;rw[show B=i6 X.w k from L]
 let⟨xs,y,j,l⟩:=key hk g N;refine⟨R,E,xs,⟨o,c,M,D,T,J,y,λx i=>?_,by rw[j.keys];exact nd⟩,j,l⟩;have all:∀{kvs:List (aD×aD)}{xs:List (aD×Addr×Ad)},kyA kvs=true->PxV X.kd H kvs xs->∀x∈xs,(mY X.prog X.w).is s.heap x.1 x.2.1:=by
  intro kvs xs hk p
  induction p with
  |nil=>intro x i;cases i
  | @cons q x0 qs xs0 h t n=>
   rw[kyA,abZ,aaH]at hk;intro x i;obtain rfl|i:=aag.mp i
   .rw[<-h.1];exact I.ky hk.1 h.2.1
   .exact n hk.2 x i
 exact all hk j x i
theorem Inv.dc0(I:Inv X pins σ H s)(r:Rd H a (.dK [])):(a==abG)=false/\s.heap.DictOfH (mY X.prog X.w) a []:=by
 let⟨_,g,vs,k,d⟩:=qG I.hok r;cases k;let⟨o,e,j,l,b,i,h⟩:=d;refine⟨g,o,e,j,l,b,i,?_,⟨(λx m=>absurd m 'a'),abO⟩⟩;have f:e.toList=[]:=by
  let⟨_,c,_⟩:=h;exact abi (by have:=c.length;simpa)
 rw[f];rfl
theorem Tj(g:DenKK K H kvs es)(hk:kyA kvs=true):kvs=[]/\es=[]:=by
 cases kvs with
 |nil=>simp[DenKK]at g;exact⟨rfl,g⟩
 |cons x r=>
  let⟨k,d⟩:=x;let⟨a,v,vs,_,⟨e,_⟩,_⟩:=g;rw[kyA,abZ,aaH]at hk;have h:kyD k=true:=hk.1;rw[e]at h
  cases a<;>cases h
def Inv.dcX(I:Inv X pins σ H s)(h:IsDc X.kd H a kvs)(hk:kyA kvs=true):(a==abG)=false/\∃xs,s.heap.DictOfH (mY X.prog X.w) a xs/\PxV X.kd H kvs xs:=by
 rcases h with⟨e,r,g⟩|⟨e,r,_,nd,g⟩
 .obtain⟨rfl,rfl⟩:=Tj g hk;let⟨b,d⟩:=I.dc0 r;exact⟨b,[],d,.nil⟩
 .obtain⟨b,_,xs,d,p,_⟩:=I.dcE r g nd hk;exact⟨b,xs,d,p⟩
theorem PxV.val{k:aD}(hk:kyA kvs=true)(c:kyD k=true)(p:PxV K H kvs xs) :
  (cU k kvs=none/\atKey xs k=none)\/∃d v q,cU k kvs=some d/\atKey xs k=some q/\Den K H d v/\RelV v q.2:=by
 induction p with
 |nil=>exact(.inl ⟨rfl,rfl⟩)
 | @cons x q xs0 qs h t ih=>
  rw[kyA,abZ,aaH]at hk;let⟨g,d⟩:=x;let⟨l,m,v,j,i⟩:=h;have a:g=q.1:=l;have f:=uv _ _ (o9 hk.1) (o9 c);unfold cU
  by_cases e:g=k
  .have b:atKey (q::qs) k=some q.2:=by simp[atKey,List.find?_cons,<-a,e]
   rw[f,decide_eq_true e,if_pos rfl];exact .inr ⟨d,v,q.2,rfl,b,j,i⟩
  .have b:atKey (q::qs) k=atKey qs k:=by simp[atKey,<-a,e]
   rw[f,decide_eq_false e,b];exact ih hk.2
theorem DenKK.val{kk:Key}(g:DenKK K H kvs es) :
  (cU (keyD kk) kvs=none/\valV es kk=none)\/∃d v,cU (keyD kk) kvs=some d/\valV es kk=some v/\Den K H d v:=by
 induction kvs generalizing es with
 |nil=>simp[DenKK]at g;subst g;exact .inl ⟨rfl,rfl⟩
 |cons x r i=>
  let⟨k,d⟩:=x;let⟨c,v,vs,rfl,⟨rfl,_⟩,a,b⟩:=g;unfold cU;rw[Oo]
  by_cases e:c=kk
  .rw[decide_eq_true e];exact .inr ⟨d,v,rfl,dJ e,a⟩
  .rw[decide_eq_false e,dQ e];exact i b
def DGet.kr{H:Hp}{kvs:List (Key×V)}{k:Key}(e:Rd H a (.dK kvs)):DGet H a (kV k) (valV kvs k):=.inl ⟨kvs,k,e,rfl,rfl⟩
theorem kH{k:aD}(h:oneK kvs k=true):(isKd kvs=true/\kdD k=true)\/(kyA kvs=true/\kyD k=true):=by
 unfold oneK at h
 simp_all
def Inv.dcT(I:Inv X pins σ H s)(h:IsDc X.kd H a kvs):s.TypeIs (.ref a) "dict"/\∀b,abk a = .ref b->∃c,s.heap.get? b=some c/\c.dict=none:=by
 rcases h with⟨d,r,g⟩|⟨d,r,_,nd,g⟩
 .obtain⟨_,hs,vs,kv,o,_,_,h1,h2,_⟩:=qG I.hok r;exact⟨⟨o,h1,h2.1⟩,λb e=>by cases e;exact⟨o,h1,h2.2.1⟩⟩
 .obtain⟨⟨hs,hz,o,ents,ep,h1,h2,h3,h4⟩,_⟩:=(r.ok I.hok);exact⟨⟨o,h1,h2.1⟩,λb e=>by cases e;exact⟨o,h1,h2.2.1⟩⟩
theorem vO{kk:Key}{y:V}(h:Den K H (keyD kk) y):y=kV kk:=by
 cases kk with
 |inl i=>exact aB h
 |inr x=>exact bp h
section
variable {a:Addr}{kvs:List (aD×aD)}{k:aD}{y z:V}{u c:Ad}{A:aa8}{E:Ad->GT->Prop}
theorem OI(G:A.units+64<cLine)(I:Inv X pins σ H s)(h:IsDc X.kd H a kvs)(ok:oneK kvs k=true)(hk:Den X.kd H k y)(x:RelV y u)(B:RelV z c)
  (f:∀v w s',Inv X pins σ H s'->RelV v w->((∃d,cU k kvs=some d/\Den X.kd H d v)\/(cU k kvs=none/\v=z))->Q w s'):wpAny (model X.prog X.w) A (call (.builtin "dict.get") [.ref a,u,c]) Q E s:=by
 have n:=(I.dcT h).1;rcases kH ok with⟨l,o⟩|⟨l,o⟩
 .obtain⟨kk,rfl⟩:=v8 o;have F:=vO hk;subst F;rcases h with⟨C,t,g⟩|⟨C,t,kd,nd,g⟩
  .obtain⟨z0,hd,vs,rel,dd⟩:=qG I.hok t;refine ahh aes n af9 (afQ _ _ _) (meets_dict_get_default (cn X.prog X.w) a (vB x) hd c) ⟨_,dd.mapOf,?_⟩;have r:=rel.val kk;rcases g.val (kk:=kk)with⟨i,e⟩|⟨d,v,i,e,m⟩
   .rw[e]at r;have j:aeW vs kk=none:=RelO.none_of r;show Q ((aeW vs kk).getD c) _;rw[j];exact f z c _ (I.tok _) B (.inr ⟨i,rfl⟩)
   .rw[e]at r;let⟨w,j,D⟩:=RelO.some_of r;show Q ((aeW vs kk).getD c) _;rw[j];exact f v w _ (I.tok _) D (.inl ⟨d,i,m⟩)
  .rw[l]at kd;cases kd
 .obtain⟨hs,xs,dd,p⟩:=I.dcX h l;let⟨b,rfl⟩:=uI o hk
  cases (show u=abk b from x)
  refine ahh aes n af9 (afQ _ _ _) (meetsH_dict_get_default (mY X.prog X.w) a b hs c) ⟨(by show A.units+1+20<cLine;omega),k,xs,I.ky o hk,dd,?_⟩;rcases p.val l o with⟨i,e⟩|⟨d,v,q,i,e,m,j⟩
  .rw[e];exact f z c _ (I.tok _) B (.inr ⟨i,rfl⟩)
  .rw[e];exact f v q.2 _ (I.tok _) j (.inl ⟨d,i,m⟩)
theorem XO(D:A.units+64<cLine)(I:Inv X pins σ H s)(h:IsDc X.kd H a kvs)(ok:oneK kvs k=true)(hk:Den X.kd H k y)(t:RelV y u)(n:Bool)
  (f:∀s',Inv X pins σ H s'->Q (.bool (if n=true then !(cU k kvs).isSome else(cU k kvs).isSome)) s'):wpAny (model X.prog X.w) A (aa0 (if n=true then .NotIn else .In) u (.ref a)) Q E s:=by
 rcases kH ok with⟨l,o⟩|⟨l,o⟩
 .obtain⟨kk,rfl⟩:=v8 o;have B:=vO hk;subst B;rcases h with⟨w,r,g⟩|⟨w,r,kd,nd,g⟩
  .have e:(cU (keyD kk) kvs).isSome=(valV w kk).isSome:=by
    rcases g.val (kk:=kk)with⟨j,i⟩|⟨d,v,j,i,x⟩
    .rw[j,i];rfl
    .rw[j,i];rfl
   cases n with
   |false=>exact d_in ∅ I (DGet.kr r) t λs' m=>by rw[<-e];exact f s' m
   |true=>exact Qo ∅ I (DGet.kr r) t λs' m=>by rw[<-e];exact f s' m
  .rw[l]at kd;cases kd
 .obtain⟨hs,xs,dd,p⟩:=I.dcX h l;let⟨b,rfl⟩:=uI o hk
  cases (show u=abk b from t)
  have e:(cU k kvs).isSome=(atKey xs k).isSome:=by
   rcases p.val l o with⟨j,i⟩|⟨d,v,q,j,i,x,C⟩
   .rw[j,i];rfl
   .rw[j,i];rfl
  cases n with
  |false=>exact wpAny_in_heap (by show A.units+1+20<cLine;omega) (I.ky o hk) hs dd (by rw[<-e];exact f _ (I.tok _))
  |true=>exact PyProof.Rows.wpAny_notIn_heap (knd:=mY X.prog X.w) (by show A.units+1+20<cLine;omega) (I.ky o hk) hs dd (by rw[<-e];exact f _ (I.tok _))
theorem yF{d:aD}(G:A.units+64<cLine)(I:Inv X pins σ H s)(h:IsDc X.kd H a kvs)(ok:oneK kvs k=true)(hk:Den X.kd H k y)(t:RelV y u)(l:cU k kvs=some d)
  (f:∀v w s',Inv X pins σ H s'->RelV v w->Den X.kd H d v->Q w s'):wpAny (model X.prog X.w) A (aeA (.ref a) u) Q E s:=by
 rcases kH ok with⟨j,o⟩|⟨j,o⟩
 .obtain⟨kk,rfl⟩:=v8 o;have x:=vO hk;subst x;rcases h with⟨D,n,g⟩|⟨D,n,kd,nd,g⟩
  .rcases g.val (kk:=kk)with⟨e,i⟩|⟨B,v,e,i,m⟩
   .rw[l]at e;cases e
   .rw[l]at e;cases e;exact uR ∅ I (by rw[<-i];exact DGet.kr n) t λw s' C r=>f v w s' C r m
  .rw[j]at kd;cases kd
 .obtain⟨hs,xs,dd,p⟩:=I.dcX h j;let⟨b,rfl⟩:=uI o hk
  cases (show u=abk b from t)
  rcases p.val j o with⟨e,i⟩|⟨B,v,q,e,i,m,F⟩
  .rw[l]at e;cases e
  .rw[l]at e;cases e;exact wpAny_getItem_heap (knd:=mY X.prog X.w) (by show A.units+1+20<cLine;omega) (I.ky o hk) dd i (f v q.2 _ (I.tok _) F m)
end
end
section
variable {X:Cx}{a:Expr}{w:WE}{pos:Pos}
abbrev UD:WE:=λm K=>K (.newT (.dict [])) m
theorem O7:ME X (.Dict [] [] pos) UD:=pe_dnewK.wk<|by
 intro g H Q ⟨e,m,K,R,d,f⟩;intro p c;refine f _ m _ _ d rfl (R.lay c) ⟨[([],p)],p,rfl,rfl,'a',λb h=>by simp at h;subst h;exact c,⟨⟨_,.ref p,rfl,?_,p,rfl,rfl⟩,λb h=>by simp at h;subst h;exact⟨_,aA,rfl⟩⟩⟩ (cC c);refine .inr (.inr (.inl ⟨rfl,rfl,p,[],rfl,rfl,aA,?_⟩));rfl
def sj:EE X (.Dict [] [] pos) UD:=⟨O7⟩
end
section
variable {K:Kd}{H:Hp}{τ:List 'h'}{p:List Nat}
theorem jP:∀{ds:List aD}{i:Nat}{xs:List V},DenAll K H ds xs->TAtL K H τ p i (ds.map lfD) xs
 |[],_,_,h=>by simpa only[adB,TAtL,DenAll]using h
 |d::ds,i,_,h=>by
  simp only[DenAll]at h;let⟨v,vs,rfl,a,b⟩:=h;simp only[aaq,TAtL];exact⟨v,vs,rfl,ot a,jP b⟩
end
section
variable {K:Kx}{c:Al}{m:MSt}{d:St}{H:Hp}{k:Nat}{p:List Nat}{τ:List 'h'}{a:Addr}{t:aD}{ts ds:List aD}
theorem Rel.listN(R:Rel K c m d H)(n:c[k]?=some (.T τ))(l:τ.lookup p=some a)(i:m.os[k]?=some [t])(f:getT t p=some (.list ts)):∃xs,H a=some (.lst xs)/\TAtL K H τ p 0 ts xs:=by
 let⟨⟨o,v,z,g,_⟩,_⟩:=R.own k (.T τ) _ n i;cases z;let⟨q,b⟩:=g.get f;rw[abg]at b;simp only[TAt]at b;let⟨r,xs,e,_,h,j⟩:=b;rw[l]at e;cases e;exact⟨xs,h,j⟩
theorem Rel.setLs{xs x:List V}{ds':List aD}(R:Rel K c m d H)(o:c[k]?=some (.T τ))(f:τ.lookup p=some a)(q:m.os[k]?=some [t])(w:getT t p=some (.list ts))(ok:okW t p=true)(s:H a=some (.lst xs))(g':DenAll K H ds' x) :
  Rel K c {m with os:=m.os.set k [setT t p (.list (ds'.map lfD))]} d (upd H a (.lst x))/\Frm c H (upd H a (.lst x)):=by
 let⟨⟨B,v,z,g,r,l,j⟩,mu⟩:=R.own k (.T τ) _ o q;cases z;have n:Pers H (upd H a (.lst x)):=bj (.inr ⟨_,s,rfl⟩);have nd:(τ.map (·.2)).Nodup:=((gw c).mp R.nd).1 (.T τ) (Ld o);have new:TAt K (upd H a (.lst x)) τ p (.list (ds'.map lfD)) (.ref a):=by
  simp only[TAt];exact⟨a,x,f,rfl,aA,jP (g'.mono n)⟩
 have all:TAt K (upd H a (.lst x)) τ [] (setT t p (.list (ds'.map lfD))) v:=TAt.set nd n g w ok (by rw[abg];exact f) (by rw[abg];exact new) λu h=>by
  rw[abg]at h;simp only[TAt]at h;let⟨A,_,e,y,_⟩:=h;rw[f]at e;cases e;exact y
 exact R.setW o n (ds':=[setT t p (.list (ds'.map lfD))]) (λb i=>av λeb=>i (eb▸bI f)) ⟨⟨_,v,rfl,all,r,l,j⟩,λb i=>by
  by_cases eb:b=a
  .subst eb;exact⟨_,aA,rfl⟩
  .rw[av eb];exact mu b i⟩
end
section
variable {X:Cx}{o e:Expr}{n:WE}{c l:Pos}
def Yx(m:MSt)(k:Nat)(p:List Nat)(P:List aD->(List aD->MSt)->Prop):Prop:=∃t ts ds,m.os[k]?=some [t]/\getT t p=some (.list ts)/\dw ts=some ds/\okW t p=true/\P ds λd=>{m with os:=m.os.set k [setT t p (.list (d.map lfD))]}
def rj:WM:=λr rs m K=>onAt (λk p=>on1 (lH λd=>Yx m k p λds f=>ds.length<aak/\K (.imm .none) (f (ds++[d]))) rs) r
theorem yY:MtM X "list.append" (mM X.kx rj):=by
 intro b s i H x M v C Q I A K ⟨L,m,S,T,N,r,rs,V,R,B,j,h,f⟩;let⟨k,p,P,a,rfl,z,y,rfl,h⟩:=zd B h;let⟨U,O,rfl,rfl,j,h⟩:=fJ j h;let⟨d,rfl,hd,t,ts,ds,u,w,E,ok,D,h⟩:=g9 j h;let⟨G,q,J⟩:=R.listN z y u w;have g:=j6 J E;let⟨R2,F⟩:=R.setLs z y u w ok q (g.append (DenAll.cons hd DenAll.nil));exact m8 b s i H _ _ v C Q I A K ⟨a,G,_,rfl,rfl,q,by rw[<-g.length];exact D,f _ _ _ _ h rfl R2 yB F⟩
def wG:WO:=λr1 r m K=>onAt (λk p=>F7 (λi=>∃t ts j a,m.os[k]?=some [t]/\getT t p=some (.list ts)/\ixN ts.length i=some j/\ts[j]?=some a/\K (gG k p j a)) r) r1
theorem TAtL.get'{K:Kd}{H:Hp}{τ:List 'h'}{p:List Nat}:∀{ts:List aD}{i j:Nat}{xs:List V}{t:aD},TAtL K H τ p i ts xs->ts[j]?=some t->∃v,xs[j]?=some v/\TAt K H τ (p++[i+j]) t v
 |[],_,_,_,_,_,e=>by simp at e
 |t::ts,i,0,_,_,h,e=>by
  simp only[TAtL]at h;let⟨v,vs,rfl,a,_⟩:=h;simp at e;subst e;exact⟨v,rfl,a⟩
 |t::ts,i,j+1,_,_,h,e=>by
  simp only[TAtL]at h;let⟨v,vs,rfl,_,d⟩:=h;let⟨w,z,b⟩:=TAtL.get' d (j:=j) (by simpa using e);exact⟨w,by simpa using z,by rw[show i+(j+1)=i+1+j by omega];exact b⟩
theorem TAtL.len{K:Kd}{H:Hp}{τ:List 'h'}{p:List Nat}:∀{ts:List aD}{i:Nat}{xs:List V},TAtL K H τ p i ts xs->ts.length=xs.length
 |[],_,_,h=>by simp only[TAtL]at h;subst h;rfl
 |t::ts,i,_,h=>by
  simp only[TAtL]at h;let⟨v,vs,rfl,_,a⟩:=h;simp[TAtL.len a]
theorem Jy:IxR X (rM X.kx wG):=by
 intro d b f s A H x y v u Q I D L ⟨S,m,W,Y,T,r1,Z,Kc,R,F,P,h,z⟩ r;let⟨k,p,V,a,rfl,C,N,rfl,h⟩:=zd F h;let⟨i,rfl,rfl,t,ts,j,U,G,J,K,E,h⟩:=Lc P h;let⟨M,q,g⟩:=R.listN C N G J;let⟨w,O,B⟩:=g.get' E;rw[acM]at B;refine E9 d b f s A H _ _ v u Q I D L ⟨a,M,i,w,rfl,rfl,SqL.of q,?_,z _ _ H h R (kI R C B) (Frm.refl _ _)⟩ r;unfold atI;rw[<-g.len,K];exact O
def VP{a b:Expr}{w d:WE}{pos:Pos}(g:ME X a w)(i:ME X b d)(f:oZ b:=by intro _ _;rfl):ME X (.Subscript a b pos) (wBin wG w d):=(UC Jy g i f).wk λ_ _ _ h=>tw h
end
def Jc{a:Hp}(old:∀b o,H b=some o->a b=some o):Pers H a:=⟨λb x q=>old b _ q,λb o u q=>old b _ q⟩
section
variable {K:Kd}{H:Hp}{τ τ':List 'h'}{w:List Nat}
mutual
theorem TAt.shift(e:∀q a,τ.lookup q=some a->τ'.lookup (w++q)=some a):∀{t:aD}{p:List Nat}{v:V},TAt K H τ p t v->TAt K H τ' (w++p) t v
 | .none,_,_,h=>by simp only[TAt]at h⊢;exact h
 | .bool _,_,_,h=>by simp only[TAt]at h⊢;exact h
 | .int _,_,_,h=>by simp only[TAt]at h⊢;exact h
 | .str _,_,_,h=>by simp only[TAt]at h⊢;exact h
 | .tuple _,_,_,h=>by simp only[TAt]at h⊢;exact h
 | .list ts,p,_,h=>by
  simp only[TAt]at h⊢;let⟨a,x,b,i,f,g⟩:=h;exact⟨a,x,e _ _ b,i,f,TAtL.shift e g⟩
 | .dict kvs,p,_,h=>by
  simp only[TAt]at h⊢;rcases h with⟨d,b,h⟩|⟨l,z,a,j,b,i,f,k,g⟩|⟨l,z,a,j,b,i,f,g⟩|⟨c,a,dx,C,x,m,b,i,f,k,g⟩
  .exact .inl ⟨d,b,h⟩
  .exact .inr (.inl ⟨l,z,a,j,e _ _ b,i,f,k,TAtD.shift e g⟩)
  .exact .inr (.inr (.inl ⟨l,z,a,j,e _ _ b,i,f,TAtK.shift e g⟩))
  .exact .inr (.inr (.inr ⟨c,a,dx,C,x,m,e _ _ b,i,f,k,TAtF.shift e g⟩))
theorem TAtL.shift(e:∀q a,τ.lookup q=some a->τ'.lookup (w++q)=some a):∀{ts:List aD}{p:List Nat}{i:Nat}{xs:List V},TAtL K H τ p i ts xs->TAtL K H τ' (w++p) i ts xs
 |[],_,_,_,h=>by simpa only[TAtL]using h
 |t::ts,p,i,_,h=>by
  simp only[TAtL]at h⊢;let⟨v,vs,b,g,c⟩:=h;exact⟨v,vs,b,by rw[aaW];exact TAt.shift e g,TAtL.shift e c⟩
theorem TAtD.shift(e:∀q a,τ.lookup q=some a->τ'.lookup (w++q)=some a):∀{ts:List (aD×aD)}{p:List Nat}{i:Nat}{xs:List (Int×V×V)},TAtD K H τ p i ts xs->TAtD K H τ' (w++p) i ts xs
 |[],_,_,_,h=>by simpa only[TAtD]using h
 |(k,t)::ts,p,i,_,h=>by
  simp only[TAtD]at h⊢;let⟨u,v,vs,c,g,b,d⟩:=h;exact⟨u,v,vs,c,g,by rw[aaW];exact TAt.shift e b,TAtD.shift e d⟩
theorem TAtK.shift(e:∀q a,τ.lookup q=some a->τ'.lookup (w++q)=some a):∀{ts:List (aD×aD)}{p:List Nat}{i:Nat}{xs:List (Key×V)},TAtK K H τ p i ts xs->TAtK K H τ' (w++p) i ts xs
 |[],_,_,_,h=>by simpa only[TAtK]using h
 |(k,t)::ts,p,i,_,h=>by
  simp only[TAtK]at h⊢;let⟨u,v,vs,c,g,b,d⟩:=h;exact⟨u,v,vs,c,g,by rw[aaW];exact TAt.shift e b,TAtK.shift e d⟩
theorem TAtF.shift(e:∀q a,τ.lookup q=some a->τ'.lookup (w++q)=some a):∀{ts:List (aD×aD)}{p:List Nat}{i:Nat}{xs:List (Str×V)},TAtF K H τ p i ts xs->TAtF K H τ' (w++p) i ts xs
 |[],_,_,_,h=>by simpa only[TAtF]using h
 |(.str f,t)::ts,p,i,_,h=>by
  simp only[TAtF]at h⊢;let⟨v,vs,b,g,c⟩:=h;exact⟨v,vs,b,by rw[aaW];exact TAt.shift e g,TAtF.shift e c⟩
 |(.none,d)::r,_,_,_,h=>by simp only[TAtF]at h⊢;exact TAtF.shift e h
 |(.bool _,d)::r,_,_,_,h=>by simp only[TAtF]at h
 |(.int _,d)::r,_,_,_,h=>by simp only[TAtF]at h
 |(.list _,d)::r,_,_,_,h=>by simp only[TAtF]at h
 |(.tuple _,d)::r,_,_,_,h=>by simp only[TAtF]at h
 |(.dict _,d)::r,_,_,_,h=>by simp only[TAtF]at h
end
end
def trR:R->Option aD
 | .imm d=>some (lfD d)
 | .new ds=>some (.list (ds.map lfD))
 | .newT t=>some t
 |_=>none
def allA:List (List 'h')->List Addr
 |[]=>[]
 |τ::τs=>τ.map (·.2)++allA τs
theorem T8{c:Hp}{r:R}{v:V}(h:RelR K α c H r v):∃τ:List 'h',(∀t,trR r=some t->TAt K H τ [] t v)/\(τ.map (·.2)).Nodup/\(∀a∈τ.map (·.2),∃o,H a=some o/\Mu o=true)/\∀a∈τ.map (·.2),c a=none:=by
 cases r with
 |imm d=>exact⟨[],λt e=>(by cases e;exact ot h),abO,λ_ z=>(by simp at z),λ_ z=>(by simp at z)⟩
 |new ds=>
  let⟨a,x,rfl,n,q,g⟩:=h;refine⟨[([],a)],λt e=>?_,'a',λb z=>?_,λb z=>?_⟩
  .cases e;simp only[TAt];exact⟨a,x,rfl,rfl,q,jP g⟩
  .simp at z;subst z;exact⟨_,q,rfl⟩
  .simp at z;subst z;exact n
 |newT t=>
  let⟨τ,a,rfl,j,nd,n,⟨m,l,z,g,k,f,i⟩,mu⟩:=h;cases z;rw[j]at f;cases f;subst i;exact⟨τ,λt e=>(by cases e;exact g),nd,mu,n⟩
 |obj _=>exact⟨[],λt e=>(by cases e),abO,λ_ z=>(by simp at z),λ_ z=>(by simp at z)⟩
 | «at» _ _=>exact⟨[],λt e=>(by cases e),abO,λ_ z=>(by simp at z),λ_ z=>(by simp at z)⟩
def l7(i:Nat):List (List 'h')->List 'h'
 |[]=>[]
 |τ::τs=>τ.map (λq=>(i::q.1,q.2))++l7 (i+1) τs
theorem fZ:∀(i:Nat) (τs:List (List 'h')),(l7 i τs).map (·.2)=allA τs
 |_,[]=>rfl
 |i,τ::τs=>by rw[l7,aaJ,fZ,abD];rfl
theorem x8{i:Nat}{q:List Nat}:∀τ:List 'h',(τ.map λa=>(i::a.1,a.2)).lookup (i::q)=τ.lookup q
 |[]=>rfl
 |(r,b)::τ=>by
  rw[aaq,aa6,aa6,x8 τ];have:((i::q)==(i::r))=(q==r):=by simp
  rw[this]
theorem oH{i j:Nat}{q:List Nat}(h:j≠i):∀τ:List 'h',(τ.map λa=>(i::a.1,a.2)).lookup (j::q)=none
 |[]=>rfl
 |(r,b)::τ=>by
  rw[aaq,aa6,oH h τ];have:((j::q)==(i::r))=false:=by simp[h]
  rw[this]
theorem xI{β c:Type}[BEq β]{a b:List (β×c)}{k:β}:(a++b).lookup k=(a.lookup k).or (b.lookup k):=by
 induction a with
 |nil=>simp
 |cons x a i=>
  let⟨d,v⟩:=x;rw[adA,aa6,aa6,i]
  split<;>simp
theorem qg:∀{τs:List (List 'h')}{i j:Nat}{τ:List 'h'}{q:List Nat}{a:Addr},τs[j]?=some τ->τ.lookup q=some a->(l7 i τs).lookup ((i+j)::q)=some a
 |[],_,_,_,_,_,e,_=>by simp at e
 |τ0::τs,i,0,τ,q,a,e,h=>by
  simp at e;subst e;rw[l7,xI,ahi,x8,h];rfl
 |τ0::τs,i,j+1,τ,q,a,e,h=>by
  rw[l7,xI,oH ∅];have:=qg (i:=i+1) (j:=j) (τs:=τs) (by simpa using e) h;rw[show i+1+j=i+(j+1) by omega]at this;rw[this];rfl
section
variable {X:Cx}{scope sc:Scope}{own fr:List Str}{ps:List Nat}{elt c o:Expr}{ifs:List Expr}{pos np l s p d e:Pos}{tt:WT}{w f:WE}{g:WI}{x y:Str}{i:Nat}
def vv{a b:Expr}{h j:WE}{pos:Pos}(k:EE X a h)(n:EE X b j)(m:oZ b:=by intro _ _;rfl):EE X (.Subscript a b pos) (wBin wG h j):=⟨VP k.h n.h m⟩
end
def nQ{X:Cx}:MtM X "list.append" (mM X.kx rj):=yY
section
variable {m:MSt}{Q:R->MSt->Prop}{w a:WE}{b:WI}{tt:WT}{own:List Str}{ps:List Nat}
def uZ{k:Nat}{p:List Nat}{t d:aD}(i:m.os[k]?=some [t])(g:getT t p=some (.list ts))(e:dw ts=some ds)(f:okW t p=true)(c:ds.length<aak)(h:Q (.imm .none) {m with os:=m.os.set k [setT t p (.list ((ds++[d]).map lfD))]}):rj (.at k p) [.imm d] m Q:=⟨t,ts,ds,i,g,e,f,c,h⟩
def vH{k:Nat}{p:List Nat}{t t':aD}{K:R->Prop}(f:m.os[k]?=some [t])(d:getT t p=some (.list ts))(e:ixN ts.length i=some j)(c:ts[j]?=some t')(h:K (gG k p j t')):wG (.at k p) (.imm (.int i)) m K:=⟨t,ts,j,t',f,d,e,c,h⟩
end
section
variable {X:Cx}{o e i:Expr}{b:List Expr}{w:WE}{g:WA}{f c:Pos}
def Vm(K:Kd)(to:TE)(t:TA):TE:=λm H Q=>to m H λx n=>∃a j,x = .ref a/\IsDc K n a j/\t m n λp l=>∃h k y z,p=[y,z]/\IsDc K l a h/\oneK h k=true/\Den K l k y/\∀v,((∃d,cU k h=some d/\Den K l d v)\/(cU k h=none/\v=z))->Q v l
theorem Jf{to:TE}{t:TA}(K:X.A.units+64<cLine)(O:PE X o to)(D:PA X (e::b) t)
  (d:abw o "get" X.env (eval o X.env)=eval o X.env:=by rfl)
  (l:((abn c (aab (e::b) X.env)).all (λx=>!x.1)&&(acW c (abX [] X.env)).all (λx=>x.1.isSome)
   && decide ((e::b).length+([]:List ac4).length+(if ([]:List ac4).isEmpty then 0 else 1)<30))=true:=by rfl)
  (j:(f.endLine==c.line)=true:=by rfl) (P:aab (e::b) X.env=(false,eval e X.env)::aab b X.env:=by rfl) (m:(abn c (aab b X.env)).any (·.1)=false:=by rfl) :
  PE X (.Call (.Attribute o "get" f) (e::b) [] c) (Vm X.kd to t):=by
 intro p s A H Q I h;refine af6 d l j rfl (thn (O p s A H _ I h) λv s1 ⟨x,M,B,r1,q⟩=>?_);let⟨a,u,rfl,dc0,q⟩:=q;cases (r1);let⟨F,V⟩:=B.dcT dc0;refine⟨"dict","dict.get",afR,aes,PySem.F.type_dict_get,F,V,?_⟩;have C:=D c p s1 A M _ B q;rw[P]at C⊢;refine aeh ‹_› (agx ?_);refine thn C λY s2 ⟨vs,G,L,r,J⟩=>?_;let⟨U,k,y,z,rfl,dc,ok,hk,n⟩:=J
 cases r with
 | cons R r=>
  cases r with
  |cons S r=>
   cases r;exact OI K L dc ok hk R S λv W Z N T E=>⟨v,G,N,T,n v E⟩
abbrev JX(w:WE)(g:WA):WE:=λm K=>w m λr m1=>∃a,dcM m1 a r/\(isKd a=true\/kyA a=true)/\g m1 λrs m2=>∃d k z,rs=[.imm k,.imm z]/\dcM m2 d r/\oneK d k=true/\K (.imm ((cU k d).getD z)) m2
theorem Gq(K:X.A.units+64<cLine)(O:ME X o w)(E:MA X (e::b) g)
  (l:abw o "get" X.env (eval o X.env)=eval o X.env:=by rfl)
  (t:((abn c (aab (e::b) X.env)).all (λx=>!x.1)&&(acW c (abX [] X.env)).all (λx=>x.1.isSome)
   && decide ((e::b).length+([]:List ac4).length+(if ([]:List ac4).isEmpty then 0 else 1)<30))=true:=by rfl)
  (n:(f.endLine==c.line)=true:=by rfl) (P:aab (e::b) X.env=(false,eval e X.env)::aab b X.env:=by first|exact aF rfl|rfl) (j:(abn c (aab b X.env)).any (·.1)=false:=by rfl) :
  ME X (.Call (.Attribute o "get" f) (e::b) [] c) (JX w g):=(Jf K O E l t n P j).wk<|by
 intro Y H Q ⟨A,m,Z,B,L,u⟩;refine⟨A,m,_,B,L,λr m1 v W k n1 R rr M=>?_⟩;let⟨s,T,D,k⟩:=k;let⟨a,rfl,dc0⟩:=RelR.dc R rr T D;refine⟨a,s,rfl,dc0,A,m1,_,R,k,λrs m2 vs J k2 n2 q h F=>?_⟩;let⟨p,N,z,rfl,S,ok,k2⟩:=k2;have hk:isKd p=true\/kyA p=true:=by
  rcases kH ok with z|z
  .exact .inl z.1
  .exact .inr z.1
 let⟨V,U,dc⟩:=RelR.dc q (rr.keep B R F) S hk;cases U
 cases h with
 | cons C h=>
  cases h with
  |cons I h=>
   cases h;refine⟨p,N,_,_,rfl,dc,ok,C,λv G=>u _ m2 v J k2 (n2.trans n1) q ?_ (M.trans F)⟩;rcases G with⟨d,y,hd⟩|⟨y,rfl⟩
   .rw[y];exact hd
   .rw[y];exact I
def oInD(n:Bool):WO:=λr1 r m K=>lH (λk=>∃a,dcM m a r/\oneK a k=true/\K (.imm (.bool (if n=true then !(cU k a).isSome else(cU k a).isSome)))) r1
theorem OO(l:X.A.units+64<cLine)(n:Bool):OpR X (aa0 (if n=true then .NotIn else .In)) (rM X.kx (oInD n)):=by
 intro p s q H x y v u Q I r A ⟨E,m,J,K,G,r1,L,M,R,j,D,h,d⟩;let⟨k,rfl,hk,C,B,ok,h⟩:=g9 j h;let⟨a,rfl,dc⟩:=RelR.dc R D B (by
  rcases kH ok with z|z
  .exact .inl z.1
  .exact .inr z.1)
 cases (A);exact XO l I dc ok hk r n λF t=>⟨.bl _,H,t,rfl,d _ _ H h R (lG _) (Frm.refl _ _)⟩
def jO(h:X.A.units+64<cLine):OpR X (aa0 .NotIn) (rM X.kx (oInD true)):=OO h true
theorem Cj(k:X.A.units+64<cLine)(l:EE X o w)(n:EA X (e::b) g)
  (d:abw o "get" X.env (eval o X.env)=eval o X.env:=by rfl)
  (j:((abn c (aab (e::b) X.env)).all (λx=>!x.1)&&(acW c (abX [] X.env)).all (λx=>x.1.isSome)
   && decide ((e::b).length+([]:List ac4).length+(if ([]:List ac4).isEmpty then 0 else 1)<30))=true:=by rfl)
  (a:(f.endLine==c.line)=true:=by rfl) (m:aab (e::b) X.env=(false,eval e X.env)::aab b X.env:=by first|exact aF rfl|rfl) (h:(abn c (aab b X.env)).any (·.1)=false:=by rfl) :
  EE X (.Call (.Attribute o "get" f) (e::b) [] c) (JX w g):=⟨Gq k l.h n.h d j a m h⟩
end
def onTr(P:aD->Prop)(r:R):Prop:=match trR r with
 |some t=>P t
 |none=>False
end L2
namespace L2
open PySem PySem.Spec PyProof.Rows
open Sem (wp)
variable{K:aae}{H:Hp}{p:List Nat}{t:aD}{kvs:List (aD×aD)}{c qual:Str}{C:Addr}{st:Stmt}{N ps:List Str}{od:Option Addr}{sl:Array (Option Ad)}{mg:Str->Option Ad}{n nN:Nat}{pl:Sem Bool}{ts:List (Str×aD)}{xs:List (Str×V)}{τs:List (List 'h')}{sp:SpI}{ds:List aD}
def jo(s:Stmt):List Stmt:=match s with
 | .ClassDef _ _ _ b _ _ _ _ _ _ _=>b
 |_=>[]
def oIsB:WO:=λr1 r _ K=>∃b c,r1 = .imm (.bool b)/\r = .imm (.bool c)/\K (.imm (.bool (b==c)))
def Ku{K:Kd}{b:Bool}{v:V}(h:Den K H (.bool b) v):v = .bl b:=by simpa only[Den]using h
theorem O6{X:Cx}:OpR X (aa0 .Is) (rM X.kx oIsB):=by
 intro a s d H x y v u Q I r j ⟨l,m,o,q,i,r1,w,z,R,e,k,h,f⟩;let⟨b,c,rfl,rfl,h⟩:=h;have ex:=Ku (show Den X.kx i (.bool b) x from e);have g:=Ku (show Den X.kx H (.bool c) y from k);subst ex g
 cases r;cases j
 have fn:=f _ (.bl (b==c)) H h R (lG _) (Frm.refl _ _);have run:wpAny (model X.prog X.w) X.A (aa0 .Is (.bool b) (.bool c)) (EP X a d Q) X.xe s:=LD (bF I fn (by cases b<;>cases c<;>rfl));exact run
def XT{m:MSt}{b c:Bool}{a:R->Prop}(h:a (.imm (.bool (b==c)))):oIsB (.imm (.bool b)) (.imm (.bool c)) m a:=⟨b,c,rfl,rfl,h⟩
def fdAt(f:Str):Nat->List (aD×aD)->Option (Nat×aD)
 |_,[]=>none
 |i,(.str g,t)::r=>if decide (g=f)=true then some (i,t)else fdAt f (i+1) r
 |i,(.none,_)::r=>fdAt f (i+1) r
 |i,(.bool _,_)::r=>fdAt f (i+1) r
 |i,(.int _,_)::r=>fdAt f (i+1) r
 |i,(.list _,_)::r=>fdAt f (i+1) r
 |i,(.tuple _,_)::r=>fdAt f (i+1) r
 |i,(.dict _,_)::r=>fdAt f (i+1) r
section
variable {K:Kd}{H:Hp}{τ:List 'h'}{p:List Nat}{f:Str}
theorem TAtF.look:∀{ts:List (aD×aD)}{i j:Nat}{xs:List (Str×V)}{t:aD},TAtF K H τ p i ts xs->fdAt f i ts=some (j,t)->∃v,xs.lookup f=some v/\TAt K H τ (p++[j]) t v
 |[],_,_,_,_,_,e=>by cases e
 | (.str g,t)::ts,i,j,xs,t',h,e=>by
  simp only[TAtF]at h;let⟨v,vs,rfl,k,l⟩:=h;simp only[fdAt]at e
  by_cases c:g=f
  .rw[if_pos (decide_eq_true c)]at e;cases e;subst c;exact⟨v,by simp[aeD],k⟩
  .rw[if_neg (by simpa using c)]at e;let⟨a,m,b⟩:=TAtF.look l e;refine⟨a,?_,b⟩;rw[aa6];have:(f==g)=false:=by simp only[beq_eq_false_iff_ne,ne_eq];exact λz=>c z.symm
   rw[this];exact m
 |(.none,d)::r,i,j,xs,t',h,e=>by simp only[TAtF]at h;simp only[fdAt]at e;exact TAtF.look h e
 |(.bool _,d)::r,_,_,_,_,h,_=>by simp only[TAtF]at h
 |(.int _,d)::r,_,_,_,_,h,_=>by simp only[TAtF]at h
 |(.list _,d)::r,_,_,_,_,h,_=>by simp only[TAtF]at h
 |(.tuple _,d)::r,_,_,_,_,h,_=>by simp only[TAtF]at h
 |(.dict _,d)::r,_,_,_,_,h,_=>by simp only[TAtF]at h
theorem TAtF.noF:∀{ts:List (aD×aD)}{i:Nat}{xs:List (Str×V)},TAtF K H τ p i ts xs->fdAt f i ts=none->xs.lookup f=none
 |[],_,_,h,_=>by simp only[TAtF]at h;subst h;rfl
 | (.str g,t)::ts,i,xs,h,e=>by
  simp only[TAtF]at h;let⟨v,vs,rfl,b,a⟩:=h;simp only[fdAt]at e
  by_cases c:g=f
  .rw[if_pos (decide_eq_true c)]at e;cases e
  .rw[if_neg (by simpa using c)]at e;rw[aa6];have:(f==g)=false:=by simp only[beq_eq_false_iff_ne,ne_eq];exact λz=>c z.symm
   rw[this];exact TAtF.noF a e
 |(.none,d)::r,i,xs,h,e=>by simp only[TAtF]at h;simp only[fdAt]at e;exact TAtF.noF h e
 |(.bool _,d)::r,_,_,h,_=>by simp only[TAtF]at h
 |(.int _,d)::r,_,_,h,_=>by simp only[TAtF]at h
 |(.list _,d)::r,_,_,h,_=>by simp only[TAtF]at h
 |(.tuple _,d)::r,_,_,h,_=>by simp only[TAtF]at h
 |(.dict _,d)::r,_,_,h,_=>by simp only[TAtF]at h
end
def Rel.insN{K:Kx}{b:Al}{m:MSt}{q:St}(R:Rel K b m q H){k:Nat}{τ:List 'h'}{a:Addr}(s:b[k]?=some (.T τ))(r:τ.lookup p=some a)(h:m.os[k]?=some [t])(l:getT t p=some (.dict kvs))(o:excC kvs=some c) :
  ∃dx C xs,H a=some (.ins C dx xs)/\ClsN K c C/\TAtF K H τ p 0 kvs xs:=by
 let⟨⟨w,v,z,g,_⟩,_⟩:=R.own k (.T τ) _ s h;cases z;let⟨x,d⟩:=g.get l;rw[abg]at d;let⟨u,dx,C,xs,e,_,f,j,i⟩:=d.ins o;rw[r]at e;cases e;exact⟨dx,C,xs,f,j,i⟩
structure InsF(K:aae)(c f:Str):Prop where
 ex:∃C,aaN K aaw c=some (some (.ref C))/\Cls K C/\NoAttr K C f
def InsF.of{f:Str}(a:aaN K aaw c=some (some (.ref C)))(b1:acV K C ae0=true)(b2:ado K C=true)(b:aed K C=true)(e:abr K (.ref C) "__setattr__" = some (some (.builtin "object.__setattr__")))(d:abr K (.ref C) f=some none):InsF K c f:=⟨C,a,⟨b1,b2,b,e⟩,d⟩
def fGot(m:MSt)(c:Str)(k:Nat)(p:List Nat)(f:Str)(K:R->Prop):Prop:=∃t kvs j a,m.os[k]?=some [t]/\getT t p=some (.dict kvs)/\excC kvs=some c/\fdAt f 0 kvs=some (j,a)/\K (gG k p j a)
abbrev wFld(c f:Str)(w:WE):WE:=λm K=>w m λr m1=>onAt (λk p=>fGot m1 c k p f λr=>K r m1) r
section
variable {X:Cx}{o:Expr}{w:WE}{pos:Pos}{c f:Str}
theorem TQ(C:InsF X.K c f)(D:ME X o w)(x:abw o f X.env (eval o X.env)=eval o X.env:=by rfl):ME X (.Attribute o f pos) (wFld c f w):=(VD D x).wk<|by
 intro U H Q ⟨h,m,V,L,s,b⟩;refine⟨h,m,_,L,s,λr m1 v A q n1 R rr F=>?_⟩;let⟨k,p,T,a,rfl,e,O,rfl,t,kvs,j,S,l,B,G,i,q⟩:=zd rr q;let⟨dx,d,xs,P,u,g⟩:=R.insN e O l B G;let⟨E,J,cl,I⟩:=C.ex;have y:d=E:=by
  have:=u.symm.trans J;simpa using this
 subst y;let⟨v,z,M⟩:=g.look i;exact⟨a,d,dx,xs,v,rfl,P,cl,I,z,b _ m1 v A q n1 R (kI R e M) F⟩
theorem cq(C:InsF X.K c f)(h:EE X o w)(a:abw o f X.env (eval o X.env)=eval o X.env:=by rfl):EE X (.Attribute o f pos) (wFld c f w):=⟨TQ C h.h a⟩
end
structure gI(P:aax)(w:World)(K:aae)(mg:Str->Option Ad)(base:aaZ)(c m:Str)(k n:Nat)(sp:SpM):Prop where
 ex:∃(C f:Addr) (fd:ab0) (ps:List Str),FnOk P w K mg base CX0 k f fd ps (spOf ⟨K,w⟩ n sp)/\aaN K aaw c=some (some (.ref C))/\Cls K C/\Meth K C m f/\Binds K fd ps []
 ar:∀as Kc,sp as Kc->as.length=n
structure MthD(K:aae)(c m qual:Str)(st:Stmt)(ps:List Str):Prop where
 ex:∃(C f:Addr) (fd:ab0),Fun K m qual st f fd/\aaN K aaw c=some (some (.ref C))/\Cls K C/\Meth K C m f/\Binds K fd ps []
def MthD.of{m:Str}{f:Addr}{o kV g pm b ct:Ad}{an:Option Addr}(j:∀(kV g pm:Ad) (an:Option Addr) (b ct:Ad) (us:List Ad),us.length=ps.length->adO (abm m qual (cB st) (bO st) (ab st) .none kV g pm an b ct) ⟨us,[]⟩=pure (ps.zip us))
  (a:aaN K aaw c=some (some (.ref C))) (b1:acV K C ae0=true) (b2:ado K C=true) (h:aed K C=true) (i:abr K (.ref C) "__setattr__" = some (some (.builtin "object.__setattr__")))
  (d:abr K (.ref C) m=some (some (.ref f))) (l:K.lookup f=some ⟨o,od,.func (abm m qual (cB st) (bO st) (ab st) .none kV g pm an b ct),sl⟩) (e:adt K b qual=true) (k:abM K (.ref f)=true) (fn:aeU K (.ref f)=true):MthD K c m qual st ps:=
 ⟨C,f,_,tq l e k,a,⟨b1,b2,h,i⟩,⟨d,fn,k⟩,(tq l e k).binds j⟩
theorem kl{P:aax}{w:World}{base:aaZ}{m:Str}{k:Nat}{sp:SpM}(D:MthD K c m qual st ps)(S:ai N ps (ab st))(v:ps.length=n)(q:N.length=nN)(i:n≤nN)(ar:∀as e,sp as e->as.length=n)
  (d:∀(b:Ad) (A:aa8) (outer:List Env) (s:GT) (H:Hp) (E:XK) (f:Addr),Room k (A.deeper (aef qual (ab st) s.heap.objs.size f b)) ->
   ∃g,ESs (cxOf CX0 P w K mg base N qual (ab st) f b A outer s H E).nox (bO st) g/\∀as e,as.length=n->sp as e->g {nx:=λm=>e (.imm .none) (m.os.take m.np),rt:=λr m=>retK e m r} (fq nN as)) :
  gI P w K mg base c m (k+1) n sp:=by
 let⟨C,f,fd,F,a,cl,o,u⟩:=D.ex;refine⟨⟨C,f,fd,ps,F.ok S (λvs H Q E h=>by rw[v];exact h.len) (λb A outer s H vs Q E l h=>?_),a,cl,o,u⟩,ar⟩;let⟨g,j,x⟩:=d b A outer s H E f l;exact⟨_,j.h,fn_m (K:=(cxOf CX0 P w K mg base N qual (ab st) f b A outer s H E).nox.kx) rfl h q i x⟩
def insR(m:MSt)(c f:Str)(r:R)(P:Prop):Prop:=∃k kvs,r = .at k []/\m.os[k]?=some [.dict kvs]/\excC kvs=some c/\fdAt f 0 kvs=none/\P
def Ut(P:List Ag->List Nat->Prop)(o:Option (List Ag×List Nat)):Prop:=∃a k,o=some (a,k)/\P a k
abbrev AK(c f:Str)(sp:SpM)(w:WE)(d:WA):WE:=λm K=>w m λa m1=>insR m1 c f a (d m1 λrs m2=>Ut (λb k=>k.Nodup/\sp b λr o=>K (mapR k r) {m2 with os:=cR m2.os k o}) (jl m2 (a::rs)))
section
variable {X:Cx}{o a:Expr}{d:List Expr}{w:WE}{i:WA}{pos b:Pos}{c f:Str}{k n:Nat}{sp:SpM}{E:XK}{j:St}{H:Hp}{Q:VK}{C:Addr}
theorem D8(h:tM X.kx (AK c f sp w i) j H Q)(hC:aaN X.K aaw c=some (some (.ref C)))(hn:∀as T,sp as T->as.length=n):N6 C f (spOf X.kd n sp) [] E (tM X.kx w) (tMA X.kx i) j H Q:=by
 let⟨s,m,T,Rl,hw,u⟩:=h;refine⟨s,m,_,Rl,hw,λro m1 v H1 q n1 l rr z=>?_⟩;let⟨J,kvs,rfl,W,e5,V,q⟩:=q;let⟨τ,a,S,P,rfl⟩:=id rr;let⟨dx,C',xs,hH,hc,g⟩:=l.insN S P W (p:=[]) rfl e5;have ec:C'=C:=by
  have:=hc.symm.trans hC;simpa using this
 subst ec;refine⟨a,dx,xs,rfl,hH,g.noF V,s,m1,_,l,q,λrs m2 vs L Z n2 R A I=>?_⟩
 .obtain⟨as,ks,e,nd,hsp⟩:=Z;have B:RelRs X.kx s H (L) (.at J []::rs) (.ref a::vs):=.cons (show RelR X.kx s H L (.at J []) (.ref a)from⟨τ,a,S,P,rfl⟩) (A.base l z);let⟨Y,U,y⟩:=ik R B e;refine⟨as,Y,_,hn _ _ hsp,fm R.nd nd y,by rw[aa4];exact U,hsp,λr M v H' G O x F=>?_⟩;let⟨D,F3⟩:=xv R nd y O F;exact u _ _ v H' G (n2.trans n1) D ((ya y x).base R (z.trans I)) ((z.trans I).trans F3)
theorem QV(F:gI X.prog X.w X.K X.mg X.base c f k n sp)(r:Room k X.A)(m:ME X o w)(q:MA X (a::d) i)
  (l:aab (a::d) X.env=(false,eval a X.env)::aab d X.env:=by first|exact aF rfl|rfl) (e:(abn pos (aab d X.env)).any (·.1)=false:=by rfl)
  (x:eval (.Call (.Attribute o f b) (a::d) [] pos) X.env=(do
   let ov <- eval o X.env
   acL b.atName
   let (f,first) <- adX [ov] (aeu ov f pl)
   agv pos f first (abn pos (aab (a::d) X.env)) (acW pos (abX [] X.env))):=by rfl):ME X (.Call (.Attribute o f b) (a::d) [] pos) (AK c f sp w i):=by
 let⟨C,g,fd,ps,G,s,cl,u,v⟩:=F.ex;exact(L8 (E:=E0) (pl:=pl) m cl u G r v .nil II q l e x).wk λ_ _ _ h=>D8 h s F.ar
theorem GU(F:gI X.prog X.w X.K X.mg X.base c f k n sp)(z:Room k X.A)(L:ME X o w)
  (U:eval (.Call (.Attribute o f b) [] [] pos) X.env=(do
   let ov <- eval o X.env
   acL b.atName
   let (f,first) <- adX [ov] (aeu ov f pl)
   agv pos f first (abn pos (aab [] X.env)) (acW pos (abX [] X.env))):=by rfl):ME X (.Call (.Attribute o f b) [] [] pos) (AK c f sp w wNil):=by
 let⟨C,g,fd,ps,G,M,cl,B,I⟩:=F.ex;refine(F8 (E:=E0) (pl:=pl) L cl B G z I .nil II U).wk λj H Q h=>?_;let⟨y,m,V,P,D,l⟩:=D8 (E:=E0) h M F.ar;refine⟨y,m,V,P,D,λr m1 v x q n1 R rr J=>?_⟩;let⟨a,dx,fs,T,S,A,O,m2,W,s,u,e⟩:=l r m1 v x q n1 R rr J;exact⟨a,dx,fs,T,S,A,e [] m2 [] x u rfl s .nil (Frm.refl _ _)⟩
theorem i5(F:gI X.prog X.w X.K X.mg X.base c f k n sp)(q:Room k X.A)(g:EE X o w)(l:EA X (a::d) i)
  (h:aab (a::d) X.env=(false,eval a X.env)::aab d X.env:=by first|exact aF rfl|rfl) (e:(abn pos (aab d X.env)).any (·.1)=false:=by rfl)
  (m:eval (.Call (.Attribute o f b) (a::d) [] pos) X.env=(do
   let ov <- eval o X.env
   acL b.atName
   let (f,first) <- adX [ov] (aeu ov f pl)
   agv pos f first (abn pos (aab (a::d) X.env)) (acW pos (abX [] X.env))):=by rfl):EE X (.Call (.Attribute o f b) (a::d) [] pos) (AK c f sp w i):=⟨QV (pl:=pl) F q g.h l.h h e m⟩
def uQ(F:gI X.prog X.w X.K X.mg X.base c f k n sp)(g:Room k X.A)(h:EE X o w)
  (e:eval (.Call (.Attribute o f b) [] [] pos) X.env=(do
   let ov <- eval o X.env
   acL b.atName
   let (f,first) <- adX [ov] (aeu ov f pl)
   agv pos f first (abn pos (aab [] X.env)) (acW pos (abX [] X.env))):=by rfl):EE X (.Call (.Attribute o f b) [] [] pos) (AK c f sp w wNil):=⟨GU (pl:=pl) F g h.h e⟩
end
inductive FsOk(K:Kd)(H:Hp):List (Str×aD)->List (Str×V)->List (List 'h')->Prop where
 |nil:FsOk K H [] [] []
 |cons {f:Str}{t:aD}{v:V}{τ:List 'h'}{ts:List (Str×aD)}{xs:List (Str×V)}{τs:List (List 'h')}:TAt K H τ [] t v->(∀a∈τ.map (·.2),∃o,H a=some o/\Mu o=true)->FsOk K H ts xs τs->FsOk K H ((f,t)::ts) ((f,v)::xs) (τ::τs)
theorem FsOk.snoc{K:Kd}{H:Hp}{f:Str}{t:aD}{v:V}{τ:List 'h'}(h:TAt K H τ [] t v)(d:∀a∈τ.map (·.2),∃o,H a=some o/\Mu o=true):∀{ts:List (Str×aD)}{xs:List (Str×V)}{τs:List (List 'h')},FsOk K H ts xs τs->FsOk K H (ts++[(f,t)]) (xs++[(f,v)]) (τs++[τ])
 |_,_,_,.nil=>FsOk.cons h d .nil
 |_,_,_,.cons (f:=g) a b c=>FsOk.cons (f:=g) a b (FsOk.snoc h d c)
theorem FsOk.mono{K:Kd}{f:Hp}(g:Pers H f)(h:FsOk K H ts xs τs):(∀a∈allA τs,f a=H a)->FsOk K f ts xs τs:=by
 induction h with
 |nil=>intro _;exact .nil
 |cons a b c i=>
  intro e;exact .cons (TAt.mono g (λx d=>e x (abW _ d)) a) (λx d=>by rw[e x (abW _ d)];exact b x d) (i λx d=>e x (aaQ _ d))
theorem FsOk.names{K:Kd}:∀{ts:List (Str×aD)}{xs:List (Str×V)}{τs:List (List 'h')},FsOk K H ts xs τs->xs.map (·.1)=ts.map (·.1)
 |_,_,_,.nil=>rfl
 |_,_,_,.cons _ _ c=>by rw[aaq,aaq,c.names]
theorem FsOk.mu{K:Kd}:∀{ts:List (Str×aD)}{xs:List (Str×V)}{τs:List (List 'h')},FsOk K H ts xs τs->∀a∈allA τs,∃o,H a=some o/\Mu o=true
 |_,_,_,.nil,a,ha=>by cases ha
 |_,_,_,.cons _ b c,a,ha=>by
  rcases aaR.mp ha with z|z
  .exact b a z
  .exact c.mu a z
theorem ng:∀(τs:List (List 'h')) (τ:List 'h'),allA (τs++[τ])=allA τs++τ.map (·.2)
 |[],τ=>by simp[allA]
 |σ::τs,τ=>by rw[adA,allA,allA,ng τs,aaW]
def insT(c:Str)(ts:List (Str×aD)):aD:=.dict ((.none,.str c)::ts.map λf=>(.str f.1,f.2))
theorem FsOk.at{K:Kd}{τ':List 'h'}(h:FsOk K H ts xs τs):∀{i:Nat},(∀(j:Nat) (τ:List 'h') (q:List Nat) (a:Addr),τs[j]?=some τ->τ.lookup q=some a->τ'.lookup ((i+j)::q)=some a)->TAtF K H τ' [] i (ts.map λd=>(.str d.1,d.2)) xs:=by
 induction h with
 |nil=>intro i _;simp only[adB,TAtF]
 | @cons f t v τ ts xs τs a b c ih=>
  intro i l;simp only[aaq,TAtF];refine⟨v,xs,rfl,?_,ih λj τ q a k g=>?_⟩
  .have:=TAt.shift (τ':=τ') (w:=[i]) (λq a e=>l 0 τ q a rfl e) a;simpa using this
  .rw[show i+1+j=i+(j+1) by omega];exact l (j+1) τ q a (by simpa using k) g
theorem x9{f:Str}{v:V}:∀{xs:List (Str×V)},f∉xs.map (·.1)->putF f v xs=xs++[(f,v)]
 |[],_=>rfl
 |(g,x)::r,h=>by
  rw[aaq,aag,not_or]at h;rw[show putF f v ((g,x)::r)=(if g=f then(g,v)::r else(g,x)::putF f v r)from rfl,if_neg (λz=>h.1 z.symm),x9 h.2];rfl
def Jq(K:aae):List (Str×TE)->TS->TS
 |[],w=>w
 |(f,tv)::r,w=>tSeq (sFld K (tVar 0) tv f) (Jq K r w)
def wFs:List (Str×WE)->MSt->(List (Str×aD)->MSt->Prop)->Prop
 |[],m,K=>K [] m
 |(f,we)::r,m,K=>we m λa m1=>onTr (λt=>wFs r m1 λts m2=>K ((f,t)::ts) m2) a
abbrev SpI:=List aD->(aD->Prop)->Prop
def oa(n:Nat)(ds:List aD):MSt:=⟨none::(ds.map λd=>some (.imm d))++aaj (n-(ds.length+1)) none,[],0⟩
def L5(c:Str)(nN:Nat)(fs:List (Str×WE))(w:WS)(ds:List aD)(a:aD->Prop):Prop:=
 wFs fs (oa nN ds) λts _=>w {nx:=λm=>∃t,m.os[0]?=some [t]/\a t,rt:=λ_ _=>False} (fq nN (.tr (insT c ts)::ds.map .imm))
def spIn(K:Kd)(c:Str)(n:Nat)(sp:SpI):Sp:=λvs H Q _=>∃a C dx ds v f,vs = .ref a::v/\ds.length=n/\H a=some (.ins C dx [])/\ClsN K c C/\DenAll K H ds v/\sp ds f/\
 ∀t d e,f t->d.lookup []=some a->(d.map (·.2)).Nodup->(∀b∈d.map (·.2),b=a\/H b=none)->OwnAt K e (.T d) [t]->(∀b o,H b=some o->b≠a->e b=some o)->Q .non e
theorem spIn.len{K:Kd}{vs:List V}{Q:VK}{E:XK}(h:spIn K c n sp vs H Q E):vs.length=n+1:=by
 let⟨a,C,dx,ds,v,d,rfl,b,_,_,hd,_⟩:=h;rw[aau,<-hd.length,b]
structure EIn(X:Cx)(c:Str)(body:List Stmt)(fs:List (Str×WE))(w:WS):Prop where
 h:PSs X body (Jq X.K (fs.map λfw=>(fw.1,tM X.kx fw.2)) (tMS X.kx w))
 all:∀f∈fs.map (·.1),InsF X.K c f
section
variable {X:Cx}{c f:Str}{b:List Stmt}{fs:List (Str×WE)}{w:WS}{a:WE}{e:Expr}{p d pos:Pos}
def Ie(h:ESs X b w):EIn X c b [] w:=⟨h.h,λ_ z=>by cases z⟩
theorem jn(I:InsF X.K c f)(m:EE X e a)(j:EIn X c b fs w)(o:X.N[0]?=some ("self" : Str):=by rfl)(l:Vis X.env.scope "self":=by first|exact afA rfl|exact aei (afA rfl)|exact aei (aei rfl))(k:abE e (some (.Attribute (.Name "self" p) f d)) pos.line X.env=pure false:=by rfl):EIn X c (.Assign [.Attribute (.Name "self" p) f d] e pos::b) ((f,a)::fs) w:=
 ⟨yz (UW (KU (i:=0) o l) m.h k) j.h,λg h=>by
  rcases aag.mp h with rfl|h
  .exact I
  .exact j.all g h⟩
end
theorem Qi{K:Kx}{m:MSt}{g:St}{f:Hp}(l:K.eb=⟨0,[],λ_=>none⟩)(j:Pers H f)(R:Rel K [] m g H):Rel K [] m g f:=by
 refine⟨R.nd,R.len,λk s ds z=>by simp at z,R.vlen,λi r z=>?_,R.npl,R.ebl,by rw[l];exact⟨rfl,λ_ _ z=>(by cases z),λ_ _=>.inr rfl,λa h=>(by cases h)⟩⟩;let⟨v,o,b⟩:=R.var i r z;refine⟨v,o,?_⟩
 cases r with
 |imm d=>exact Den.mono j b
 |obj k=>let⟨a,e,_⟩:=b;simp at e
 | «at» k p=>let⟨q,a,e,_⟩:=b;simp at e
 |new ds=>exact b
 |newT t=>exact b
theorem p8{K:Kd}{H:Hp}:∀{ds:List aD}{vs:List V},DenAll K H ds vs->RelAs K H (ds.map .imm) vs []
 |[],_,h=>by simp only[DenAll]at h;subst h;exact .nil
 |d::ds,_,h=>by
  simp only[DenAll]at h;let⟨v,vs,rfl,f,g⟩:=h;exact .imm f (p8 g)
theorem yw:∀ds:List aD,agO (ds.map .imm)=[]
 |[]=>rfl
 |d::ds=>by simp only[aaq,agO,yw ds]
theorem UR{X:Cx}{fs:List (Str×WE)}{w:WS}{vs:List V}{Q:VK}{E:XK}(Y:X.kx.eb=⟨0,[],λ_=>none⟩)(hN:N.length=nN)(hle:n+1≤nN)(all:∀f∈fs.map (·.1),InsF X.K c f)(nd:(fs.map (·.1)).Nodup)(h9:fs.length<900)
  (h:spIn X.kd c n sp vs H Q E) (hw:∀ds T,ds.length=n->sp ds T->L5 c nN fs w ds T):Jq X.K (fs.map λfw=>(fw.1,tM X.kx fw.2)) (tMS X.kx w) {nx:=λ_ U=>Q .non U,rt:=Q} (start N vs) H:=by
 let⟨a,C,dx,ds,l,T,rfl,hl,D,hc,hd,hsp,fin⟩:=h;have hw0:=hw ds T hl hsp;have hvl:ds.length=l.length:=hd.length;have σ0:(start N (.ref a::l))[0]?=some (some (.ref a)):=rfl;have R0:Rel X.kx [] (oa nN ds) (start N (.ref a::l)) H:=by
  refine⟨abO,rfl,λk ao es z=>by simp at z,?_,λi r z=>?_,aaa _,by rw[Y];exact aaa _,by rw[Y];exact⟨rfl,λ_ _ z=>(by cases z),λ_ _=>.inr rfl,λa D=>(by cases D)⟩⟩
  .simp[start,oa];omega
  .cases i with
   |zero=>simp[oa]at z
   | succ i=>
    have J:((ds.map λd=>some (R.imm d))++aaj (nN-(ds.length+1)) none)[i]?=some (some r):=by simpa[oa]using z
    by_cases hi:i<ds.length
    .rw[aaC (by rw[iO];exact hi),aah]at J
     cases q:ds[i]? with
     |none=>rw[q]at J;cases J
     |some d=>
      rw[q]at J;cases J;let⟨v,ev,gv⟩:=hd.get q;refine⟨v,?_,gv⟩;show(some (V.ref a)::l.map some++aaj (N.length-(l.length+1)) none)[i+1]?=_;rw[adA,List.getElem?_cons_succ,aaC (by rw[iO];omega),aah,ev];rfl
    .rw[aaP (by rw[iO];omega),ad7]at J
     split at J<;>cases J
 have go:∀(M:List (Str×WE)) (m:MSt) (B:Hp) (done:List (Str×aD)) (xs:List (Str×V)) (τs:List (List 'h')),(∀f∈M.map (·.1),InsF X.K c f)->(done.map (·.1)++M.map (·.1)).Nodup->done.length+M.length<900 ->
   Rel X.kx [] m (start N (.ref a::l)) B->B a=some (.ins C dx xs)->FsOk X.kd B done xs τs->(allA τs).Nodup->(∀b∈allA τs,H b=none)->(∀b o,H b=some o->b≠a->B b=some o) ->
   wFs M m (λts _=>w {nx:=λm=>∃t,m.os[0]?=some [t]/\T t,rt:=λ_ _=>False} (fq nN (.tr (insT c (done++ts))::ds.map .imm))) ->
   Jq X.K (M.map λfw=>(fw.1,tM X.kx fw.2)) (tMS X.kx w) {nx:=λ_ U=>Q .non U,rt:=Q} (start N (.ref a::l)) B:=by
  intro M
  induction M with
  | nil=>
   intro m B done xs τs _ _ _ Rl A I G fr old hk;have hk':w {nx:=λm=>∃t,m.os[0]?=some [t]/\T t,rt:=λ_ _=>False} (fq nN (.tr (insT c done)::ds.map .imm)):=by
    have hk2:w {nx:=λm=>∃t,m.os[0]?=some [t]/\T t,rt:=λ_ _=>False} (fq nN (.tr (insT c (done++[]))::ds.map .imm)):=hk;rwa[aa4]at hk2
   have an:a∉allA τs:=λz=>by have:=fr a z;rw[D]at this;cases this
   have pe:Pers H B:=⟨λb xs e=>old b _ e λz=>(by rw[z,D]at e;cases e),λb o u e=>old b _ e λz=>(by rw[z,D]at e;cases e)⟩;have ow:OwnAt X.kx B (.T (([],a)::l7 1 τs)) [insT c done]:=by
    refine⟨⟨_,.ref a,rfl,?_,a,rfl,rfl⟩,λb s=>?_⟩
    .unfold insT;simp only[TAt];refine .inr (.inr (.inr ⟨c,a,dx,C,xs,rfl,rfl,rfl,A,hc,?_⟩));simp only[TAtF];refine I.at λj τ q b e1 e2=>?_;rw[aa6];have:(((0+1+j)::q)==([]:List Nat))=false:=rfl;rw[this];exact qg (i:=1) e1 e2
    .rw[aaq,fZ]at s;obtain rfl|s:=aag.mp s
     .exact⟨_,A,rfl⟩
     .exact I.mu b s
   have ra:RelAs X.kx B (.tr (insT c done)::ds.map .imm) (.ref a::l) [.T (([],a)::l7 1 τs)]:=.tr ow rfl (p8 (hd.mono pe));have W:(ads [Ao.T (([],a)::l7 1 τs)]).Nodup:=by
    have:ads [Ao.T (([],a)::l7 1 τs)]=a::allA τs:=by simp[ads,Ao.ads,fZ]
    rw[this,abb];exact⟨an,G⟩
   have agl:(agO (.tr (insT c done)::ds.map .imm)).length=1:=by simp only[agO,yw,aau,aeP]
   have R1:=ut (K:=X.kx) (N:=N) (n:=n+1) hN hle (by simp[hl]) W ra (by rw[Y];exact abB _) (by rw[Y];exact⟨rfl,λ_ _ z=>(by cases z),λ_ _=>.inr rfl,λa D=>(by cases D)⟩);refine⟨_,_,_,R1,hk',⟨λα' m' σ' U q hn R' x=>?_,λr α' m' σ' v U q _ _ _ _=>q.elim,λ_ _ _ _ z=>z.elim,λ_ _ _ _ z=>z.elim⟩⟩;let⟨O,F,_⟩:=qz ra hn R' x;let⟨t,et,kt⟩:=q;have hn1:m'.np=1:=hn.trans agl;refine fin t (([],a)::l7 1 τs) U kt rfl (by rw[aaq,fZ,abb];exact⟨an,G⟩) (λb s=>?_) (O.at_ 0 _ _ rfl (by rw[hn1,aaS,if_pos ⋯];exact et)) λb o eb nb=>?_
   .rw[aaq,fZ]at s;obtain rfl|s:=aag.mp s
    .exact .inl rfl
    .exact .inr (fr b s)
   .refine F b o (old b o eb nb) λz=>?_;have:ads [Ao.T (([],a)::l7 1 τs)]=a::allA τs:=by simp[ads,Ao.ads,fZ]
    rw[this]at z;rcases aag.mp z with z|z
    .exact nb z
    .rw[fr b z]at eb;cases eb
  | cons g M ih=>
   let⟨f,we⟩:=g;intro m B done xs τs al S hz Rl A I G fr old hk;refine⟨[],m,_,Rl,hk,λr m1 v H1 q n1 Rl1 rr F1=>?_⟩;unfold onTr at q
   cases et:trR r with
   |none=>rw[et]at q;exact q.elim
   | some t=>
    rw[et]at q;let⟨τ,t1,t2,t3,t4⟩:=T8 rr;have up:∀b o,B b=some o->H1 b=some o:=λb o e=>F1 b o e (by simp[ads]);have Z:=up a _ A;let⟨C0,hn,cl,na⟩:=(al f 'a').ex;have ec:C=C0:=by
     have:=hc.symm.trans hn;simpa using this
    subst ec;have fn:f∉xs.map (·.1):=by
     rw[I.names];intro z;rw[aaq,acN]at S;exact S.2.2 f z f aan rfl
    have xl:xs.length=done.length:=by have:=congrArg ad6 I.names;simpa using this
    refine⟨.ref a,σ0,a,C,dx,xs,rfl,Z,cl,na,by rw[xl];omega,?_⟩;rw[x9 fn];have P:Pers H1 (upd H1 a (.ins C dx (xs++[(f,v)]))):=bj (.inr ⟨_,Z,rfl⟩);have pec:Pers B H1:=⟨λb xs e=>up b _ e,λb o u e=>up b _ e⟩;have an:a∉allA τs:=λz=>by have:=fr a z;rw[D]at this;cases this
    have L:a∉τ.map (·.2):=λz=>by have:=t4 a z;rw[A]at this;cases this
    have old0:∀b,B b=none->H b=none:=λb q=>by
     cases z:H b with
     |none=>rfl
     |some o=>
      have ne:b≠a:=λy=>by rw[y,A]at q;cases q
      have:=old b o z ne;rw[q]at this;cases this
    refine ih m1 _ (done++[(f,t)]) (xs++[(f,v)]) (τs++[τ]) (λg hg=>al g (aai _ hg)) ?_ ?_ (Qi Y P Rl1) aA ?_ ?_ ?_ ?_ ?_
    .rw[aaJ,aaW];exact S
    .rw[aam];simp at hz⊢;omega
    .refine FsOk.snoc (TAt.mono P (λb s=>av (λ(z:b=a)=>L (z▸s))) (t1 t et)) (λb s=>by rw[av (λ(z:b=a)=>L (z▸s))];exact t3 b s) ?_;refine FsOk.mono (pec.trans P) I (λb s=>?_);rw[av (λ(z:b=a)=>an (z▸s))];let⟨o,q,_⟩:=I.mu b s;rw[q];exact up b o q
    .rw[ng,acN];refine⟨G,t2,λb s b' hb' z=>?_⟩;subst z;let⟨o,q,_⟩:=I.mu b s;rw[t4 b hb']at q;cases q
    .intro b s;rw[ng]at s;rcases aaR.mp s with z|z
     .exact fr b z
     .exact old0 b (t4 b z)
    .intro b o eb nb;rw[av nb];exact up b o (old b o eb nb)
    .have:=q;simp only[aaW,adA,abg]at this⊢;exact this
 exact go fs (oa nN ds) H [] [] [] all (by simpa using nd) (by simpa using h9) R0 D .nil abO (λ_ z=>by cases z) (λ_ _ e _=>e) hw0
structure CP(P:aax)(w:World)(K:aae)(mg:Str->Option Ad)(base:aaZ)(c:Str)(k n:Nat)(sp:SpI):Prop where
 ex:∃(C f:Addr) (fd:ab0) (ps:List Str),Mk K C f/\FnOk P w K mg base CX0 k f fd ps (spIn ⟨K,w⟩ c n sp)/\aaN K aaw c=some (some (.ref C))/\mg c=some (.ref C)/\Binds K fd ps []
 ar:∀ds Kc,sp ds Kc->ds.length=n
structure IniD(K:aae)(mg:Str->Option Ad)(c qual:Str)(st:Stmt)(ps:List Str):Prop where
 ex:∃(C f:Addr) (fd:ab0),Fun K "__init__" qual st f fd/\Mk K C f/\aaN K aaw c=some (some (.ref C))/\mg c=some (.ref C)/\Binds K fd ps []
structure IniDK(K:aae)(c qual:Str)(st:Stmt)(ps:List Str):Prop where
 ex:∃(C f:Addr) (fd:ab0),Fun K "__init__" qual st f fd/\Mk K C f/\aaN K aaw c=some (some (.ref C))/\Binds K fd ps []
def IniDK.of{f:Addr}{o kV g pm b ct:Ad}{an:Option Addr}(i:∀(kV g pm:Ad) (an:Option Addr) (b ct:Ad) (us:List Ad),us.length=ps.length->adO (abm "__init__" qual (cB st) (bO st) (ab st) .none kV g pm an b ct) ⟨us,[]⟩=pure (ps.zip us))
  (a:aaN K aaw c=some (some (.ref C))) (d:abr K (.ref C) "__init__" = some (some (.ref f))) (l:K.lookup f=some ⟨o,od,.func (abm "__init__" qual (cB st) (bO st) (ab st) .none kV g pm an b ct),sl⟩) (e:adt K b qual=true) (k:abM K (.ref f)=true) (fn:aeU K (.ref f)=true) (m:agf K C=true) (h:abM K (.ref C)=true):IniDK K c qual st ps:=
 ⟨C,f,_,tq l e k,⟨m,d,fn,h⟩,a,(tq l e k).binds i⟩
theorem IniDK.m{h:aaZ}(D:IniDK K c qual st ps)(X:K.In h)(G:h.Ns aaw mg):IniD K mg c qual st ps:=by
 let⟨C,f,fd,F,M,a,b⟩:=D.ex;exact⟨C,f,fd,F,M,a,agU X G a,b⟩
theorem OH{P:aax}{w:World}{base:aaZ}{k:Nat}(D:IniD K mg c qual st ps)(S:ai N ps (ab st))(o:ps.length=n+1)(u:N.length=nN)(g:n+1≤nN)(ar:∀ds e,sp ds e->ds.length=n)
  (d:∀(b:Ad) (A:aa8) (outer:List Env) (s:GT) (H:Hp) (E:XK) (f:Addr),Room k (A.deeper (aef qual (ab st) s.heap.objs.size f b)) ->
   ∃fs i,EIn (cxOf CX0 P w K mg base N qual (ab st) f b A outer s H E).nox c (bO st) fs i/\(decide (fs.map (·.1)).Nodup=true/\fs.length<900)/\∀ds e,ds.length=n->sp ds e->L5 c nN fs i ds e) :
  CP P w K mg base c (k+1) n sp:=by
 let⟨C,f,fd,F,M,a,r,q⟩:=D.ex;refine⟨⟨C,f,fd,ps,M,F.ok S (λvs H Q E h=>by rw[o];exact h.len) (λb A outer s H vs Q E m h=>?_),a,r,q⟩,ar⟩;let⟨fs,i,j,l,v⟩:=d b A outer s H E f m;exact⟨_,j.h,UR (X:=(cxOf CX0 P w K mg base N qual (ab st) f b A outer s H E).nox) rfl u g j.all (of_decide_eq_true l.1) l.2 h v⟩
def oX:List R->Option (List aD)
 |[]=>some []
 | .imm d::rs=>(oX rs).map (d :: ·)
 |_::_=>none
def xO(P:List aD->Prop)(rs:List R):Prop:=match oX rs with
 |some ds=>P ds
 |none=>False
abbrev QU(sp:SpI)(w:WA):WE:=λm K=>w m λrs m1=>xO (λds=>sp ds λt=>K (.newT t) m1) rs
theorem ym{K:Kd}{a:Al}{b H:Hp}:∀{rs:List R}{vs:List V}{ds:List aD},RelRs K a b H rs vs->oX rs=some ds->DenAll K H ds vs
 |_,_,ds,.nil,e=>by cases e;exact DenAll.nil
 | _,_,ds,.cons (r:=.imm d) (rs:=rs) h t,e=>by
  simp only[oX]at e
  cases q:oX rs with
  |none=>rw[q]at e;cases e
  |some f=>
   rw[q]at e;cases e;exact DenAll.cons h (ym t q)
 |_,_,_,.cons (r:=.obj _) _ _,e=>by cases e
 |_,_,_,.cons (r:=.at _ _) _ _,e=>by cases e
 |_,_,_,.cons (r:=.new _) _ _,e=>by cases e
 |_,_,_,.cons (r:=.newT _) _ _,e=>by cases e
section
variable {X:Cx}{a:Expr}{d:List Expr}{w:WA}{p pos:Pos}{c:Str}{k n:Nat}{sp:SpI}{E:XK}{g:St}{H:Hp}{Q:VK}{C:Addr}
theorem O5(h:tM X.kx (QU sp w) g H Q)(U:aaN X.K aaw c=some (some (.ref C)))(V:∀ds L,sp ds L->ds.length=n):UQ C (spIn X.kd c n sp) [] E (tMA X.kx w) g H Q:=by
 let⟨r,m,L,W,O,A⟩:=h;refine⟨r,m,_,W,O,λrs m1 vs i q n1 R rr J x dx F B ne=>?_⟩;unfold xO at q
 cases e:oX rs with
 |none=>rw[e]at q;exact q.elim
 | some ds=>
  rw[e]at q;have hd:=ym rr e;have s:∀b o,i b=some o->(upd (upd i dx (.own x)) x (.ins C dx [])) b=some o:=λb o eb=>by
   have b1:b≠x:=λz=>by rw[z,F]at eb;cases eb
   have b2:b≠dx:=λz=>by rw[z,B]at eb;cases eb
   rw[av b1,av b2];exact eb
  have f:∀b,i b=none->H b=none:=λb q=>by
   cases z:H b with
   |none=>rfl
   |some o=>
    by_cases l:b∈ads r
    .obtain⟨o,q2,_⟩:=R.mem l;rw[q]at q2;cases q2
    .have:=J b o z l;rw[q]at this;cases this
  have G:Pers i (upd (upd i dx (.own x)) x (.ins C dx [])):=⟨λb xs e=>s b _ e,λb o u e=>s b _ e⟩;refine⟨x,C,dx,ds,vs,_,by rw[aa4],V _ _ q,aA,U,hd.mono G,q,λt T v Z e1 Y M P S=>⟨rfl,?_⟩⟩;have j:∀b o,i b=some o->v b=some o:=λb o eb=>S b o (s b o eb) λz=>by rw[z,F]at eb;cases eb
  have I:Frm r i v:=λb o eb _=>j b o eb;have D:Rel X.kx r m1 g v:=R.at (Jc j) (λb l=>by let⟨o,q,_⟩:=R.mem l;rw[q];exact j b o q) I;refine A _ m1 (.ref x) v Z n1 D ⟨T,x,rfl,e1,Y,λb l=>?_,P⟩ (J.trans I);rcases M b l with rfl|z
  .exact f _ F
  .refine f b ?_
   cases y:i b with
   |none=>rfl
   |some o=>rw[s b o y]at z;cases z
theorem RE(F:CP X.prog X.w X.K X.mg X.base c k n sp)(j:Room (k+1) X.A)(i:MA X (a::d) w)(q:Gl X c:=by rfl)(b:(c=='g')=false:=by decide)(l:aab (a::d) X.env=(false,eval a X.env)::aab d X.env:=by first|exact aF rfl|rfl)(e:(abn pos (aab d X.env)).any (·.1)=false:=by rfl):ME X (.Call (.Name c p) (a::d) [] pos) (QU sp w):=by
 let⟨C,f,fd,ps,M,G,r,o,m⟩:=F.ex;exact(QM (E:=E0) M G j q o m .nil II i b l e).wk λ_ _ _ h=>O5 h r F.ar
theorem Im(F:CP X.prog X.w X.K X.mg X.base c k n sp)(j:Room (k+1) X.A)(f:EA X (a::d) w)(i:Gl X c:=by rfl)(b:(c=='g')=false:=by decide)(e:aab (a::d) X.env=(false,eval a X.env)::aab d X.env:=by first|exact aF rfl|rfl)(h:(abn pos (aab d X.env)).any (·.1)=false:=by rfl):EE X (.Call (.Name c p) (a::d) [] pos) (QU sp w):=⟨RE F j f.h i b e h⟩
end
section
variable {m:MSt}{Q:R->MSt->Prop}{a:WE}{b:WA}{c f:Str}{sp:SpM}{s:SpI}
def SD{k j:Nat}{t' d:aD}{K:R->Prop}(l:m.os[k]?=some [t])(i:getT t p=some (.dict kvs))(e:excC kvs=some c)(g:fdAt f 0 kvs=some (j,t'))(o:jf t'=some d)(h:K (.imm d)):fGot m c k p f K:=⟨t,kvs,j,t',l,i,e,g,by unfold gG;rw[o];exact h⟩
def vn{k j:Nat}{t':aD}{K:R->Prop}(i:m.os[k]?=some [t])(g:getT t p=some (.dict kvs))(e:excC kvs=some c)(d:fdAt f 0 kvs=some (j,t'))(l:jf t'=none)(h:K (.at k (p++[j]))):fGot m c k p f K:=⟨t,kvs,j,t',i,g,e,d,by unfold gG;rw[l];exact h⟩
def BC{p:List Ag->List Nat->Prop}{as:List Ag}{ks:List Nat}{o:Option (List Ag×List Nat)}(e:o=some (as,ks))(nd:ks.Nodup)(h:p as ks):Ut (λas ks=>ks.Nodup/\p as ks) o:=⟨as,ks,e,nd,h⟩
def Sn{k:Nat}{P:Prop}(e:m.os[k]?=some [.dict kvs])(g:excC kvs=some c)(d:fdAt f 0 kvs=none)(h:P):insR m c f (.at k []) P:=⟨k,kvs,rfl,e,g,d,h⟩
def Je{P:List aD->Prop}{rs:List R}(e:oX rs=some ds)(h:P ds):xO P rs:=by unfold xO;rw[e];exact h
def Lq{fs:List (Str×WE)}{w:WS}{g:aD->Prop}(d:MSt)(e:d=oa nN ds)(h:wFs fs d λts _=>w {nx:=λm=>∃t,m.os[0]?=some [t]/\g t,rt:=λ_ _=>False} (fq nN (.tr (insT c ts)::ds.map .imm))):L5 c nN fs w ds g:=by subst e;exact h
def X8{r:List (Str×WE)}{w:WE}{K:List (Str×aD)->MSt->Prop}(h:w m λd m1=>onTr (λt=>wFs r m1 λts m2=>K ((f,t)::ts) m2) d):wFs ((f,w)::r) m K:=h
def YY{K:List (Str×aD)->MSt->Prop}(h:K [] m):wFs [] m K:=h
def Xr{P:aD->Prop}{d:aD}(h:P (lfD d)):onTr P (.imm d):=h
def YU{P:aD->Prop}(h:P (.list (ds.map lfD))):onTr P (.new ds):=h
def XZ{P:aD->Prop}(h:P t):onTr P (.newT t):=h
end
def YQ(K:Kd)(to ti:TE):TE:=λe H Q=>to e H λx f=>ti e f λy b=>∃a kvs k d,x = .ref a/\IsDc K b a kvs/\oneK kvs k=true/\Den K b k y/\cU k kvs=some d/\∀v,Den K b d v->Q v b
section
variable {X:Cx}{o i:Expr}{w b:WE}{pos:Pos}{to ti:TE}
theorem MH(m:X.A.units+64<cLine)(D:PE X o to)(j:PE X i ti)(E:NoSl i):PE X (.Subscript o i pos) (YQ X.kd to ti):=by
 intro e s g H Q I h;refine Ai afn.lookup E (thn (D e s g H _ I h) λu s1 ⟨x,A,J,r,z⟩=>thn (j e s1 g A _ J z) λO s2 ⟨y,l,f,F,a,kvs,k,d,ex,dc,ok,hk,G,q⟩=>?_);subst ex;obtain rfl:u=abk a:=r;exact⟨(f.dcT dc).1,yF m f dc ok hk F G λv M P B L hd=>⟨v,l,B,L,q v hd⟩⟩
abbrev UX(w b:WE):WE:=λm K=>w m λr m1=>b m1 λa m2=>lH (λk=>∃kvs d,dcM m2 kvs r/\oneK kvs k=true/\cU k kvs=some d/\K (.imm d) m2) a
theorem Qg(s:X.A.units+64<cLine)(y:ME X o w)(l:ME X i b)(A:NoSl i:=by intro _ _;rfl):ME X (.Subscript o i pos) (UX w b):=(MH s y l A).wk<|by
 intro L H Q ⟨h,m,O,j,u,f⟩;refine⟨h,m,_,j,u,λE m1 I G k1 n1 R r x=>⟨h,m1,_,R,k1,λM m2 J q k2 n2 e g F=>?_⟩⟩;let⟨k,rfl,hk,kvs,d,D,ok,B,k2⟩:=g9 g k2;let⟨a,rfl,dc⟩:=RelR.dc e (r.keep j R F) D (by
  rcases kH ok with z|z
  .exact .inl z.1
  .exact .inr z.1)
 exact⟨a,kvs,k,d,rfl,dc,ok,hk,B,λv hd=>f _ m2 v q k2 (n2.trans n1) e hd (x.trans F)⟩
theorem rg(e:X.A.units+64<cLine)(h:EE X o w)(a:EE X i b)(d:NoSl i:=by intro _ _;rfl):EE X (.Subscript o i pos) (UX w b):=⟨Qg e h.h a.h d⟩
end
end L2
set_option maxHeartbeats 1100000
namespace L2
open PySem PySem.Spec PyProof.Rows
open Sem (wp)
variable{Q:Option Ad->GT->Prop}{kvs:List (aD×aD)}{w:WS}
structure EntAt(h:aaZ)(d:Addr)(es:Array aca)(ep:Nat):Prop where
 ex:∃o,h.get? d=some o/\o.ExactDict/\o.data = .dict es ep
section
variable {prog:aax}{w:World}{A:aa8}{E:Ad->GT->Prop}{s:GT}{f d:Addr}{l:Array aca}{i p:Nat}{ok r:Ad}
def sK{Q:String->GT->Prop}(a:s.TypeIs (.ref f) "dict_itemiterator")(h:Q "dict_itemiterator" s):wpAny (model prog w) A (typeNameOfWhole (.ref f)) Q E s:=wpAny_typeNameOfWhole_itemiter a h
def yO{j n:Nat}{k v:Ad}{Q:Ad->GT->Prop}(a:ac9 s.heap f d j n p ok r)
  (S:∀h',afF h' f d j n p k v s.heap.objs.size->h'.get? s.heap.objs.size=some {cls:=.type "tuple",data:=.seq #[k,v]}->h'.objs.size=s.heap.objs.size+1 ->
   (∀b o,b≠f->s.heap.get? b=some o->h'.get? b=some o)->Q (.ref s.heap.objs.size) {s with heap:=h' }):wpAny (model prog w) A (ab3 (.ref f) 6 k v) Q E s:=by
 have lt:f<s.heap.objs.size:=aao a;rcases s with⟨h,g,K,R,os⟩;refine gT (m:=newTuple [k,v]) (afb ?_);have D:(h.push {cls:=.type "tuple",data:=.seq #[k,v]}).objs.size=h.objs.size+1:=abt ..;have F:(h.push {cls:=.type "tuple",data:=.seq #[k,v]}).get? h.objs.size=some {cls:=.type "tuple",data:=.seq #[k,v]}:=aal _ rfl;have t:∀b o,h.get? b=some o->(h.push {cls:=.type "tuple",data:=.seq #[k,v]}).get? b=some o:=λb o q=>Io _ q;have c:ac9 (h.push {cls:=.type "tuple",data:=.seq #[k,v]}) f d j n p ok r:=t _ _ a;show wpAny _ _ (abQ (.ref f) >>= _) _ _ ⟨h.push {cls:=.type "tuple",data:=.seq #[k,v]},g,K,R,os⟩;generalize h.push {cls:=.type "tuple",data:=.seq #[k,v]}=I at D F t c;refine gT (m:=abQ (.ref f)) ?_;refine gT (m:=field (.ref f) 0) (abd c rfl (x:=.none) rfl (LD ?_));refine gT (m:=field (.ref f) 6) (abd c rfl (x:=ok) rfl (gT (m:=field (.ref f) 7) (abd c rfl (x:=r) rfl ?_)));refine gT (m:=acX (.ref f) 6 k) (aaI c 'a' λN J s1=>?_);have u:ac9 N f d j n p k r:=J;refine gT (m:=acX (.ref f) 7 v) (aaI u 'a' λL M s2=>?_);have B:ac9 L f d j n p k v:=M;refine gT (m:=acX (.ref f) 0 (adv h.objs.size)) (aaI B 'a' λU P H=>?_);have y:afF U f d j n p k v h.objs.size:=P;refine gT (m:=acX (.ref f) 1 (.bool false)) (aaI y 'a' λe T G=>?_);have z:afF e f d j n p k v h.objs.size:=T;have C:∀b o,b≠f->I.get? b=some o->e.get? b=some o:=λb o nb q=>G.extBut b o nb (H.extBut b o nb (s2.extBut b o nb (s1.extBut b o nb q)));have O:e.objs.size=I.objs.size:=by rw[G.1,H.1,s2.1,s1.1]
 exact gT (m:=letGo _ _) (aft (LD (S e z (C _ _ (abp lt) F) (O.trans D) λb o nb q=>C b o nb (t b o q))))
theorem DU(h:ac9 s.heap f d i l.size p ok r)(B:EntAt s.heap d l p)(y:i<l.size)
  (H:∀h',afF h' f d (i+1) l.size p l[i].key l[i].val s.heap.objs.size->h'.get? s.heap.objs.size=some {cls:=.type "tuple",data:=.seq #[l[i].key,l[i].val]}->h'.objs.size=s.heap.objs.size+1 ->
   (∀b o,b≠f->s.heap.get? b=some o->h'.get? b=some o)->Q (some (.ref s.heap.objs.size)) {s with heap:=h' }):wpAny (model prog w) A (acA (.ref f)) Q E s:=by
 let⟨J,k,D,e⟩:=B.ex;have a:s.TypeIs (.ref f) "dict_itemiterator":=(⟨_,h,rfl⟩);have own:abU "dict_itemiterator" = true:=by decide
 unfold acA;refine gT (acx (aaY (name:=ab1 "__next__") a aa9 (aba aa9 a ace ?_ (ab7 _))))
 wp_walk using sK a,afe h rfl,adr k e,ad0 k e,abc a
 have C:(if (i:Int)<0 then none else l[((i:Nat):Int).toNat]?)=some l[i]:=by
  rw[if_neg ∅,abh,ab8 y]
 rw[C];rcases s with⟨t,g,n,v,os⟩;refine gT ?_;refine gT (sK a (LD ?_));refine gT (m:=aff _ _) (abc a ?_);show wpAny _ _ (acX (.ref f) 3 (adv ((i:Int)+1)) >>= _) _ _ _;refine gT (aaI h 'a' λc F s1=>?_);replace s1:abl f t c:=s1;have j:ac9 c f d (i+1) l.size p ok r:=by
  have q:((i+1:Nat):Int)=(i:Int)+1:=rfl;unfold ac9;rw[q];simpa[adv]using F
 have T:afG ⟨c,g,n,v,os⟩ (.ref f) "dict_itemiterator":=(⟨_,j,rfl⟩);refine gT (acf (gT (abc T (gT (abc T ?_)))));show wpAny _ _ (ab3 (.ref f) 6 l[i].key l[i].val) _ _ ⟨c,g,n,v,os⟩;have G:c.objs.size=t.objs.size:=s1.1;refine yO j λI x u z k2=>?_;rw[G]at x u z⊢;exact LD ⟨_,rfl,LD (H I x u z λb o nb q=>k2 b o nb (s1.extBut b o nb q))⟩
theorem Br(v:A.handled=none)(h:ac9 s.heap f d i l.size p ok r)(k:EntAt s.heap d l p)(j:l.size≤i)
  (y:∀h',(∀b o,b≠f->s.heap.get? b=some o->h'.get? b=some o)->Q none {s with heap:=h' }):wpAny (model prog w) A (acA (.ref f)) Q E s:=by
 let⟨C,g,x,c⟩:=k.ex;have a:s.TypeIs (.ref f) "dict_itemiterator":=(⟨_,h,rfl⟩);have own:abU "dict_itemiterator" = true:=by decide
 unfold acA;refine gT (acx (aaY (name:=ab1 "__next__") a aa9 (aba aa9 a ace ?_ (ab7 _))))
 wp_walk using sK a,afe h rfl,adr g c,ad0 g c,abc a
 have u:(if (i:Int)<0 then none else l[((i:Nat):Int).toNat]?)=none:=by
  rw[if_neg ∅,abh,aga j]
 rw[u];refine gT (gT (sK a (LD ?_)));refine gT (m:=acX (.ref f) 2 .none) (aaI h 'a' λD F s1=>?_);refine se v λB e k2 ⟨t,z,n⟩=>?_;exact gT (acY (T:= "StopIteration") (b:=true) ⟨t,z,n⟩ afc (LD (y B λb o nb q=>k2 b o (s1.extBut b o nb q))))
def EntAt.keep{h h':aaZ}(x:EntAt h d l p)(k:∀o,h.get? d=some o->h'.get? d=some o):EntAt h' d l p:=let ⟨o,a,b,c⟩:=x.ex;⟨o,k o a,b,c⟩
def EntAt.ty(x:EntAt s.heap d l p):s.TypeIs (.ref d) "dict":=let ⟨o,a,b,_⟩:=x.ex;⟨o,a,b.1⟩
def zt{Q:Ad->GT->Prop}(hd:(d==abG)=false)(a:EntAt s.heap d l p)(h:Q (.ref s.heap.objs.size) {s with heap:=s.heap.push {cls:=.type "dict_items",data:=.fields #[.ref d]} }):wpAny (model prog w) A (call (.builtin "dict.items") [.ref d]) Q E s:=by
 refine ahh (S:=λ_ R s=>EntAt s.heap d l p/\R (.ok (.ret (.ref s.heap.objs.size))) {s with heap:=s.heap.push {cls:=.type "dict_items",data:=.fields #[.ref d]} }) afS a.ty PySem.F.entry_dict_items (PySem.F.args_dict_items_1 _) (.of_wp λA R s ⟨b,h⟩=>?_) ⟨a,h⟩;refine gT (gT (agr b.ty ?_));refine LD ?_;refine gT ?_;unfold adn.Dict.showsAll;rw[hd];exact LD (gT (abf (LD ⟨_,rfl,h⟩)))
end
section
variable {X:Cx}{p:List 'i'}{a:St}{H:Hp}{s:GT}
def Pq{P:aax}{w:World}{kk:Key}{u:Ad}(e:(cn P w).is kk u=true):RelV (kV kk) u:=by
 rcases b8 e with⟨i,t,rfl,rfl⟩|⟨x,t,rfl,rfl⟩
 .exact⟨t,rfl⟩
 .exact⟨t,rfl⟩
end
theorem Paired.at{a β:Type}{R:a->β->Prop}:∀{xs:List a}{ys:List β}{i:Nat}{y:β},abL R xs ys->ys[i]?=some y->∃x,xs[i]?=some x/\R x y
 |_,_,i,y,.nil,e=>by simp at e
 |_,_,0,y,.cons h _,e=>by simp at e;subst e;exact⟨_,rfl,h⟩
 |_,_,i+1,y,.cons _ t,e=>by
  let⟨x,b,c⟩:=Paired.at t ‹_›;exact⟨x,by simpa using b,c⟩
theorem CN{K:Kd}{H:Hp}:∀{kvs:List (aD×aD)}{xs:List (Int×V×V)},DenKV K H kvs xs->abL (λ(p:aD×aD) (e:V×V)=>Den K H p.1 e.1/\Den K H p.2 e.2) kvs (xs.map (·.2))
 |[],_,h=>by simp[DenKV]at h;subst h;exact .nil
 |_::r,_,h=>by
  let⟨u,v,vs,rfl,b,c,a⟩:=h;exact .cons ⟨b,c⟩ (CN a)
theorem Bo{K:Kd}{H:Hp}:∀{kvs:List (aD×aD)}{xs:List (Key×V)},DenKK K H kvs xs->abL (λ(p:aD×aD) (e:V×V)=>Den K H p.1 e.1/\Den K H p.2 e.2) kvs (xs.map λp=>(kV p.1,p.2))
 |[],_,h=>by simp[DenKK]at h;subst h;exact .nil
 |(k,d)::r,_,h=>by
  let⟨a,v,vs,rfl,⟨rfl,_⟩,c,b⟩:=h;refine .cons ⟨?_,c⟩ (Bo b)
  cases a with
  |inl i=>exact vi i
  |inr x=>exact Qt x
abbrev PDc(K:Kd)(H:Hp):List (aD×aD)->List (V×V)->Prop:=abL λp e=>Den K H p.1 e.1/\Den K H p.2 e.2
def il(kvs:List (aD×aD)):List aD:=kvs.map λp=>.tuple [p.1,p.2]
theorem Paired.at1{a β:Type}{R:a->β->Prop}:∀{xs:List a}{ys:List β}{i:Nat}{x:a},abL R xs ys->xs[i]?=some x->∃y,ys[i]?=some y/\R x y
 |_,_,i,y,.nil,e=>by simp at e
 |_,_,0,y,.cons h _,e=>by simp at e;subst e;exact⟨_,rfl,h⟩
 |_,_,i+1,y,.cons _ t,e=>by
  let⟨x,b,c⟩:=Paired.at1 t ‹_›;exact⟨x,by simpa using b,c⟩
noncomputable def putX (k:aD) (b:Addr) (r:Ad):List (aD×Addr×Ad)->List (aD×Addr×Ad)
 |[]=>[(k,b,r)]
 |x::xs=>if x.1=k then(x.1,x.2.1,r)::xs else x::putX k b r xs
theorem xp{k:aD}{r:Ad}:∀{xs:List (aD×Addr×Ad)},k∉xs.map (·.1)->xs.map (putAt k r)=xs
 |[],_=>rfl
 |x::xs,h=>by
  rw[aaq,aag,not_or]at h;rw[aaq,xp h.2];unfold putAt;rw[if_neg (λz=>h.1 z.symm)]
theorem nq{k:aD}{b:Addr}{r:Ad}:∀{xs:List (aD×Addr×Ad)},(xs.map (·.1)).Nodup->storedH xs k b r=putX k b r xs
 |[],_=>rfl
 | x::xs,h=>by
  rw[aaq,abb]at h
  by_cases e:x.1=k
  .have a:atKey (x::xs) k=some x.2:=by simp[atKey,e]
   rw[storedH_old a,aaq,xp (by rw[<-e];exact h.1)];unfold putX putAt;rw[if_pos e,if_pos e]
  .have a:atKey (x::xs) k=atKey xs k:=by simp[atKey,e]
   have i:=nq (k:=k) (b:=b) (r:=r) h.2;unfold putX;rw[if_neg e,<-i];unfold storedH;rw[a];split
   .rw[aaq];unfold putAt;rw[if_neg e]
   .rfl
noncomputable def putE (w:World) (k:aD) (y v:V):List (aD×aD)->List (Int×V×V)->List (Int×V×V)
 |(k',_)::r,e::es=>if k'=k then(e.1,e.2.1,v)::es else e::putE w k y v r es
 |_,_=>[(i6 w k,y,v)]
def Bq{k d k' d':aD}{r:List (aD×aD)}(h:kyD k'=true)(hk:kyD k=true):putP k d ((k',d')::r)=if k'=k then(k',d)::r else(k',d')::putP k d r:=by
 show(if aad k' k=true then _ else _)=_;rw[uv _ _ (o9 h) (o9 hk)];simp
theorem yc(w:World)(k:aD)(y v:V):∀(kvs:List (aD×aD)) (a:List (Int×V×V)),kvs.length=a.length->(putE w k y v kvs a).length≤a.length+1
 |[],[],_=>aaa _
 |_::r,e::a,h=>by
  unfold putE;split
  .simp
  .rw[aau,aau];have:=yc w k y v r a (by simpa using h);omega
 |[],_::_,h=>by simp at h
 |_::_,[],h=>by simp at h
theorem wQ{K:Kd}{H:Hp}{k d:aD}{y v:V}(hk:kyD k=true)(dk:Den K H k y)(b:Den K H d v):∀{kvs:List (aD×aD)}{a:List (Int×V×V)},kyA kvs=true->DenKV K H kvs a->DenKV K H (putP k d kvs) (putE K.w k y v kvs a)
 |[],a,_,g=>by
  subst g;show DenKV K H [(k,d)] [(i6 K.w k,y,v)];simp only[DenKV];exact⟨y,v,[],rfl,dk,b,rfl⟩
 |(k',d')::r,a,ha,g=>by
  rw[kyA,abZ,aaH]at ha;let⟨u,h,vs,rfl,f,i,c⟩:=g;rw[Bq ha.1 hk];unfold putE
  by_cases e:k'=k
  .rw[if_pos e,if_pos e];simp only[DenKV];exact⟨u,v,vs,rfl,f,b,c⟩
  .rw[if_neg e,if_neg e];simp only[DenKV];exact⟨u,h,_,rfl,f,i,wQ hk dk b ha.2 c⟩
theorem Nq{w:World}{k:aD}{b:Addr}{v:V}{r:Ad}(a:RelV v r):∀{kvs:List (aD×aD)}{e:List (Int×V×V)}{xs:List (aD×Addr×Ad)},xs.map (·.1)=kvs.map (·.1)->ExV w e xs->ExV w (putE w k (.ref b) v kvs e) (putX k b r xs):=by
 intro kvs
 induction kvs with
 |nil=>
  intro e xs hk ex;have:=by simpa using hk
  subst this;exact .cons ⟨rfl,rfl,a⟩ .nil
 | cons q kvs i=>
  intro e xs hk ex;let⟨d,f⟩:=q
  cases ex with
  |nil=>simp at hk
  |cons h t=>
   simp at hk;unfold putE putX
   by_cases c:d=k
   .rw[if_pos c,if_pos (hk.1.trans c)];exact .cons ⟨h.1,h.2.1,a⟩ t
   .rw[if_neg c,if_neg (λz=>c (hk.1.symm.trans z))];exact .cons h (i hk.2 t)
def DxM(K:Kd)(H:Hp)(a:Addr)(kvs:List (aD×aD))(e:List (Int×V×V)):Prop:=
 DenKV K H kvs e/\(kvs.map (·.1)).Nodup/\kyA kvs=true/\((H a=some (dX a e)/\kvs≠[])\/(H a=some (.dK [])/\kvs=[]))
section
variable {X:Cx}{c:List 'i'}{i:St}{H:Hp}{s:GT}{a:Addr}{kvs:List (aD×aD)}{f:List (Int×V×V)}{k d:aD}{y v:V}{u r:Ad}{A:aa8}{E:Ad->GT->Prop}
def DxM.is(I:Inv X c i H s)(h:DxM X.kd H a kvs f):(a==abG)=false/\∃xs,s.heap.DictOfH (mY X.prog X.w) a xs/\PxV X.kd H kvs xs/\ExV X.w f xs:=by
 obtain⟨g,nd,ky,⟨q,_⟩|⟨q,rfl⟩⟩:=h
 .obtain⟨hs,_,xs,dd,p,e⟩:=I.dcE (.inl q) g nd ky;exact⟨hs,xs,dd,p,e⟩
 .obtain⟨hs,dd⟩:=I.dc0 (.inl q);subst g;exact⟨hs,[],dd,.nil,.nil⟩
theorem Wq{Q:Unit->GT->Prop}(C:A.units+20<cLine)(I:Inv X c i H s)(h:DxM X.kd H a kvs f)(hk:kyD k=true)(dk:Den X.kd H k y)(L:RelV y u)(M:RelV v r)(U:kvs.length<aak)
  (j:∀s',Inv X c i (upd H a (dX a (putE X.w k y v kvs f))) s'->Q () s'):wpAny (model X.prog X.w) A (dictSet a u r) Q E s:=by
 let⟨J,x,t,p,ex⟩:=h.is I;let⟨b,rfl⟩:=uI hk dk;cases (L);have le:f.length=kvs.length:=h.1.len.symm;have lx:x.length=kvs.length:=by have:=congrArg ad6 p.keys;simpa using this
 refine wpAny_dictSet_heap (knd:=mY X.prog X.w) C (I.ky hk dk) t (λT g m=>j _ ?_) ∅;rw[nq (by rw[p.keys];exact h.2.1)]at g;let⟨o,e,B,l,O,K,n,F,z⟩:=g;have mu:Mut (H a):=by
  rcases h.2.2.2 with⟨q,_⟩|⟨q,_⟩
  .rw[q];exact trivial
  .rw[q];exact trivial
 refine rH I mu m ⟨o,l⟩ ⟨⟨J,?_,o,e,B,l,O,K,?_⟩,⟨o,l⟩,λP R G D=>?_⟩
 .have:=yc X.w k (.ref b) v kvs f le.symm;omega
 .rw[n];have:=Nq (w:=X.w) (k:=k) (b:=b) M p.keys ex;generalize putE X.w k (.ref b) v kvs f=S at this;generalize putX k b r x=V at this;clear n F z
  induction this with
  |nil=>exact .nil
  |cons q _ N=>exact .cons ⟨q.1.symm,by rw[q.2.1];rfl,q.2.2⟩ N
 .obtain⟨z1,z2,o',ents',ep',z3,z4⟩:=G;exact⟨z1,z2,o',ents',ep',D o' z3,z4⟩
theorem zg{Q:Unit->GT->Prop}(o:A.units+64<cLine)(I:Inv X c i H s)(h:DxM X.kd H a kvs f)(hk:kyD k=true)(dk:Den X.kd H k y)(l:RelV y u)(g:RelV v r)(n:kvs.length<aak)
  (e:∀s',Inv X c i (upd H a (dX a (putE X.w k y v kvs f))) s'->Q () s'):wpAny (model X.prog X.w) A (setItem (.ref a) u r) Q E s:=by
 let⟨q,x,b,p,ex⟩:=h.is I;refine acf ?_;refine gT (afq b.typeIs ⋯ ?_);refine gT (aaY b.typeIs slot_dict_setitem (aba slot_dict_setitem b.typeIs entry_dict_setitem ?_ (args_dict_setitem _ _ _)));refine gT (agr b.typeIs ?_);refine gT (m:=dictSet a u r) (Wq (by grind) I h hk dk l g n λs' j=>LD ⟨.none,rfl,LD (e s' j)⟩)
end
def Vq(K:Kd)(t ty f:TE):TS:=λD b H=>f b H λv g=>t b g λx d=>ty b d λy c=>∃a kvs e k,x = .ref a/\DxM K c a kvs e/\kyD k=true/\Den K c k y/\kvs.length<aak/\D.nx b (upd c a (dX a (putE K.w k y v kvs e)))
section
variable {X:Cx}{o i e:Expr}{A B E:WE}{pos f:Pos}{G ty J:TE}
theorem GQ(j:X.A.units+64<cLine)(N:PE X o G)(C:PE X i ty)(g:PE X e J)(O:abE e (some (.Subscript o i f)) pos.line X.env=pure false):PS X (.Assign [.Subscript o i f] e pos) (Vq X.kd G ty J):=by
 intro p s b H D I h;refine af7 (thn (g p s b H _ I h) λr s1 ⟨v,l,q,t,M⟩=>thn (N p s1 b l _ q M) λu s2 ⟨x,F,L,c,K⟩=>thn (C p s2 b F _ L K) λT V ⟨y,U,d,m,a,kvs,R,k,ex,dx,ky,dk,n,z⟩=>?_) O;subst ex;obtain rfl:u=abk a:=c;exact zg j d dx ky dk m t n λS P=>⟨b,_,P,z⟩
theorem mN{k d:aD}(hk:kyD k=true):∀{kvs:List (aD×aD)},kyA kvs=true->(putP k d kvs).map (·.1)=if k∈kvs.map (·.1)then kvs.map (·.1)else kvs.map (·.1)++[k]
 |[],_=>rfl
 | (k',d')::r,h=>by
  rw[kyA,abZ,aaH]at h;rw[Bq h.1 hk]
  by_cases e:k'=k
  .rw[if_pos e,if_pos (by simp[e])];rfl
  .rw[if_neg e,aaq,mN hk h.2]
   by_cases c:k∈r.map (·.1)
   .rw[if_pos c,if_pos (by simp[c])];rfl
   .rw[if_neg c,if_neg (by simp only[aaq,aag,not_or];exact⟨λz=>e z.symm,c⟩)];rfl
theorem zq{k d:aD}(hk:kyD k=true)(h:kyA kvs=true)(nd:(kvs.map (·.1)).Nodup):((putP k d kvs).map (·.1)).Nodup:=by
 rw[mN hk h];split
 .omega
 .rename_i c;exact acN.mpr ⟨nd,'a',λa j b g=>by simp at g;subst g;exact λz=>c (z▸j)⟩
theorem xV{k d:aD}(hk:kyD k=true)(h:kyA kvs=true):kyA (putP k d kvs)=true:=by
 have e:∀l:List _,kyA l=(l.map _).all kyD:=λl=>by unfold kyA;rw[adC];rfl
 rw[e,mN hk h];rw[e]at h;split
 .exact h
 .rw[List.all_append,h];simp[hk]
theorem Qp(k d:aD)(kvs:List (aD×aD)):putP k d kvs≠[]:=by
 cases kvs with
 |nil=>intro h;cases h
 |cons x r=>
  show(if _ then _ else _)≠_
  split<;>simp
theorem GL(h:kyA kvs=true)(n:kvs≠[]):isKd kvs=false:=by
 cases kvs with
 |nil=>exact(n rfl).elim
 |cons x r=>
  let⟨k,d⟩:=x;rw[kyA,abZ,aaH]at h;let⟨ds,rfl,_⟩:=i8 h.1;rfl
def ug(h:kyA kvs=true)(n:kvs≠[])(nd:(kvs.map (·.1)).Nodup):Af kvs:=
 ⟨GL h n,nd,λk hk=>by
  let⟨x,a,rfl⟩:=aar.mp hk;exact o9 (abA.mp h x a)⟩
abbrev JV(E A B:WE):WS:=λD m=>E m λr m1=>lH (λd=>A m1 λb m2=>B m2 λc a=>onAt (λk p=>lH (λy=>∃t kvs,a.os[k]?=some [t]/\getT t p=some (.dict (lfKV kvs))/\okW t p=true/\kyA kvs=true/\kyD y=true/\kvs.length<aak/\D.nx {a with os:=a.os.set k [setT t p (.dict (lfKV (putP y d kvs)))]}) c) b) r
def Fv(kvs:List (aD×aD)):kyA (lfKV kvs)=kyA kvs:=by
 unfold kyA lfKV;rw[adC];rfl
theorem Rel.dx{K:Kx}{n:Al}{m:MSt}{u:St}{H:Hp}{k:Nat}{τ:List 'h'}{a:Addr}{p:List Nat}{t:aD}(R:Rel K n m u H)(x:n[k]?=some (.T τ))(v:τ.lookup p=some a)(r:m.os[k]?=some [t])(y:getT t p=some (.dict (lfKV kvs)))(ky:kyA kvs=true):∃j,DxM K H a kvs j:=by
 let⟨⟨I,F,z,g,_⟩,_⟩:=R.own k (.T τ) _ x r;cases z;let⟨L,g⟩:=g.get y;rw[abg]at g;let⟨n1,n2⟩:=uO (.inr (by rw[Fv];exact ky));rcases g with⟨d,h,_⟩|⟨_,_,b,j,h,s,l,q,g⟩|⟨_,_,b,j,h,s,l,g⟩|⟨c,b,dx,C,D,M,_⟩
 .rw[n1]at h;cases h
 .rw[v]at h;cases h;exact⟨j,fzKV g,by rw[<-jy];exact q.2.1,ky,.inl ⟨l,λz=>by subst z;exact absurd q.1 ⋯⟩⟩
 .simp_all
  let⟨rfl,rfl⟩:=Tj (fzKK g) ky;exact⟨[],by simp only[DenKV],abO,rfl,.inr ⟨l,rfl⟩⟩
 .grind
theorem Jl(hu:X.A.units+64<cLine)(he:ME X e E)(ho:ME X o A)(hi:ME X i B)(hs:abE e (some (.Subscript o i f)) pos.line X.env=pure false:=by rfl):MS X (.Assign [.Subscript o i f] e pos) (JV E A B):=(GQ hu ho hi he hs).wk<|by
 intro D σ H ⟨M,m,De,Rl,hw,k⟩;refine⟨M,m,_,Rl,hw,λr m1 v H1 q n1 F rr F1=>?_⟩;let⟨d,er,hd,q⟩:=g9 rr q;refine⟨M,m1,_,F,q,λro m2 ov H2 q2 n2 I U F2=>⟨M,m2,_,I,q2,λri m3 iv x L n3 R P F3=>?_⟩⟩;let⟨kk,p,N,a,rfl,O,s,rfl,L⟩:=zd U L;let⟨y,rfl,hy,t,kvs,e3,et,okw,ky,h,hl,L⟩:=g9 P L;let⟨n,dx⟩:=R.dx O s e3 et ky;have hd3:Den X.kx x d v:=(hd.mono (F.pers F2)).mono (I.pers F3);let⟨⟨t1,v0,z,g,a0,V,ev0⟩,mu⟩:=R.own kk (.T N) _ O e3;cases z;let⟨u0,W,S⟩:∃u,x a=some u/\Mu u=true:=by
  rcases dx.2.2.2 with⟨q,_⟩|⟨q,_⟩
  .exact⟨_,q,rfl⟩
  .exact⟨_,q,rfl⟩
 have K:Pers x (upd x a (dX a (putE X.w y iv v kvs n))):=bj (.inr ⟨u0,W,S⟩);have ok:=ug (kvs:=putP y d kvs) (xV h ky) (Qp y d kvs) (zq h ky dx.2.1);have nd:(N.map (·.2)).Nodup:=((gw M).mp R.nd).1 (.T N) (Ld O);have new:TAt X.kx (upd x a (dX a (putE X.w y iv v kvs n))) N p (.dict (lfKV (putP y d kvs))) (.ref a):=by
  let⟨Y,Z⟩:=uO (.inr (by rw[Fv];exact xV h ky):isKd (lfKV (putP y d kvs))=true\/kyA (lfKV (putP y d kvs))=true);simp only[TAt];refine .inr (.inl ⟨Y,Z,a,_,s,rfl,aA,⟨by rw[vY];exact ok.1,by rw[jy];exact ok.2.1,by rw[jy];exact ok.2.2⟩,Uz ?_⟩);exact wQ h (hy.mono K) (hd3.mono K) ky (DenKV.mono K dx.1)
 have all:TAt X.kx (upd x a (dX a (putE X.w y iv v kvs n))) N [] (setT t p (.dict (lfKV (putP y d kvs)))) v0:=TAt.set nd K g et okw (by rw[abg];exact s) (by rw[abg];exact new) λu l=>by
  let⟨Y,Z⟩:=uO (.inr (by rw[Fv];exact ky):isKd (lfKV kvs)=true\/kyA (lfKV kvs)=true);rw[abg]at l;simp only[TAt]at l;rcases l with⟨d,j,_⟩|⟨_,_,b,n,j,T,_⟩|⟨_,_,b,n,j,T,_⟩|⟨c,b,dx,C,xs,y0,_⟩
  .rw[Y]at j;cases j
  .rw[s]at j;cases j;exact T
  .rw[s]at j;cases j;exact T
  .rw[Z]at y0;cases y0
 let⟨R4,F4⟩:=R.setW O K (ds':=[setT t p (.dict (lfKV (putP y d kvs)))]) (λb hb=>av λeb=>hb (eb▸bI s)) ⟨⟨_,v0,rfl,all,a0,V,ev0⟩,λb hb=>by
  by_cases eb:b=a
  .subst eb;exact⟨_,aA,rfl⟩
  .rw[av eb];exact mu b hb⟩
 exact⟨a,kvs,n,y,rfl,dx,h,hy,hl,k.nx M _ σ _ L (n3.trans (n2.trans n1)) R4 (.of R4 (((F1.trans F2).trans F3).trans F4))⟩
def m6(c:X.A.units+64<cLine)(a:EE X e E)(h:EE X o A)(d:EE X i B)(b:abE e (some (.Subscript o i f)) pos.line X.env=pure false:=by rfl):ES X (.Assign [.Subscript o i f] e pos) (JV E A B):=⟨Jl c a.h h.h d.h b⟩
def wFzX(w:WS):WS:=λD m=>∃(k j:Nat) (kvs:List (aD×aD)) (a:List Nat) (m2:MSt),m.vs[j]?=some (some (.at k []))/\m.os[k]?=some [.dict (lfKV kvs)]/\kyA kvs=true/\Fz k (.dict kvs) a m m2/\w D m2
theorem Wz{st:Stmt}(h:MS X st w):MS X st (wFzX w):=(Wm h).wk<|by
 intro D x H ⟨z,m,L,R,⟨k,u,kvs,C,m2,ej,s,ky,F,g⟩,l⟩;let⟨v,I,K,a,c,d,rfl⟩:=R.var u _ ej;let⟨t,dx⟩:=R.dx c d s (p:=[]) rfl ky;have n:∀(j:Nat) (v:V),(m.vs[j]?=some (some (.obj k))\/m.vs[j]?=some (some (.at k [])))->x[j]?=some (some v)->v = .ref a:=λj v b y=>by
  rcases b with b|b
  .obtain⟨v',ev',a',ea',_⟩:=R.var j _ b;rw[c]at ea';cases ea'
  .obtain⟨v',ev',τ',a',ea',el',rfl⟩:=R.var j _ b
   grind
 rcases dx.2.2.2 with⟨q,ne⟩|⟨q,rfl⟩
 .refine vz R l F c (bI d) q rfl rfl (λo r=>?_) n g;simp only[Den];exact⟨a,rfl,.inl ⟨t,⟨o,aA⟩,ug ky ne dx.2.1,DenKV.mono r dx.1⟩⟩
 .refine vz R l F c (bI d) q rfl rfl (λo r=>?_) n g;simp only[Den];exact⟨a,rfl,.inr (.inl ⟨[],o,aA,by simp only[DenKK]⟩)⟩
def Q9{st:Stmt}(h:ES X st w):ES X st (wFzX w):=⟨Wz h.h⟩
def Xq{D:f7}{m:MSt}(k j:Nat)(kvs:List (aD×aD))(a:List Nat)(m2:MSt)(d:m.vs[j]?=some (some (.at k [])))(c:m.os[k]?=some [.dict (lfKV kvs)])(b:kyA kvs=true)(F:Fz k (.dict kvs) a m m2)(h:w D m2):wFzX w D m:=⟨k,j,kvs,a,m2,d,c,b,F,h⟩
end
section
variable {X:Cx}
def QR{m:MSt}{r2:R}{n:Bool}{k:aD}{K:R->Prop}(e:dcM m kvs r2)(a:oneK kvs k=true)(h:K (.imm (.bool (if n=true then !(cU k kvs).isSome else(cU k kvs).isSome)))):oInD n (.imm k) r2 m K:=⟨kvs,e,a,h⟩
def bJ{ds:List aD}{g:WG}{D:f7}{m1:MSt}(P:Nat->MSt->Prop)(p0:P 0 m1)
  (step:∀(i:Nat) (d:aD) (m:MSt),ds[i]?=some d->m.np=m1.np->P i m->∀b:f7,(∀a,P (i+1) a->b.nx a)->(∀r a,D.rt r (a.setN m1.np)->b.rt r a)->g d m λm2=>w b m2)
  (f:∀m,m.np=m1.np->P ds.length m->D.nx m):qJ ⟨ds,none⟩ g w D m1:=fv P p0 (λi d m e n p=>step i d m e n p _ (λ_ z=>z) λ_ _ z=>z) f
theorem au{e:Expr}{a:WE}{pos p:Pos}{x:Str}(i:Nat)(f:X.N.Nodup)(h:EE X e a)(g:X.N[i]?=some x:=by rfl)(b:Loc X.env.scope x:=by exact afA rfl)(d:abE e (some (.Name x p)) pos.line X.env=pure false:=by rfl)(c:X.fn x=true\/X.env.scope.names.lookup x=some .local:=by first|exact .inl rfl|exact .inr rfl|assumption):ES X (.Assign [.Name x p] e pos) (wSet i a):=v7 f g b h d c
theorem ap{pos:Pos}{x:Str}(i:Nat)(b:X.N.Nodup)(c:X.N[i]?=some x:=by rfl)(a:Loc X.env.scope x:=by exact afA rfl)(h:X.fn x=true\/X.env.scope.names.lookup x=some .local:=by first|exact .inl rfl|exact .inr rfl|assumption):EG X (.Name x pos) (gM i):=mq b c a h
end
end L2
namespace M7
open M3
def placeF:Nat->List Nat->List Nat->Nat
 |acc,r::rs,x::l=>placeF (acc*(r+1)+x) rs l
 |acc,_,_=>acc
def cnt:List Nat->Nat
 |[]=>1
 |r::rs=>(r+1)*cnt rs
theorem allR_cnt:∀rs:List Nat,(allR rs).length=cnt rs
 |[]=>rfl
 | r::rs=>by
  have a:=allR_cnt rs;have:∀n:Nat,((aav n).flatMap λk=>(allR rs).map (k :: ·)).length=n*cnt rs:=by
   intro n
   induction n with
   |zero=>simp
   |succ n i=>rw[ab6,adI,aam,i];simp[a,aeX]
  exact this _
theorem j3:∀{rs l:List Nat}{acc:Nat},l.length=rs.length->placeF acc rs l=acc*cnt rs+placeF 0 rs l
 |[],[],acc,_=>by simp[placeF,cnt]
 |r::rs,x::l,acc,h=>by
  have a:=by simpa using h
  simp only[placeF,cnt];rw[j3 a,j3 (acc:=0*_+x) a,Nat.add_mul,Nat.mul_assoc];simp[adf]
 |[],_::_,_,h=>by simp at h
 |_::_,[],_,h=>by simp at h
def jm{r x:Nat}{rs l:List Nat}(h:l.length=rs.length):placeF 0 (r::rs) (x::l)=x*cnt rs+placeF 0 rs l:=by
 simp only[placeF];rw[j3 h];simp
theorem FE{N:Nat}(f:Nat->List (List Nat))(a:∀k,(f k).length=N):∀(n k j:Nat),k<n->j<N->((aav n).flatMap f)[k*N+j]?=(f k)[j]?
 |0,k,j,h,_=>by contradiction
 | n+1,k,j,h,hj=>by
  have b:((aav n).flatMap f).length=n*N:=by
   clear h hj
   induction n with
   |zero=>simp
   |succ n i=>rw[ab6,adI,aam,i];simp[a,aeX]
  rw[ab6,adI]
  by_cases hk:k<n
  .have:k*N+j<n*N:=by
    have:=adw N (show k+1≤n by assumption)
    grind
   rw[aaC ∅,FE f a n k j hk hj]
  .have e:k=n:=by omega
   simp_all
def Fits:List Nat->List Nat->Prop
 |r::rs,x::l=>x≤r/\Fits rs l
 |[],[]=>True
 |_,_=>False
theorem Fits.len:∀{rs l:List Nat},Fits rs l->l.length=rs.length
 |[],[],_=>rfl
 |_::_,_::_,h=>congrArg (· + 1) h.2.len
 |[],_::_,h=>h.elim
 |_::_,[],h=>h.elim
theorem place_lt:∀{rs l:List Nat},Fits rs l->placeF 0 rs l<cnt rs
 |[],[],_=>by simp[placeF,cnt]
 |r::rs,x::l,h=>by
  rw[jm h.2.len,cnt];have:=place_lt h.2;have a:=adw (cnt rs) (by have:=h.1;omega)
  grind
 |[],_::_,h=>h.elim
 |_::_,[],h=>h.elim
theorem place_at:∀{rs l:List Nat},Fits rs l->(allR rs)[placeF 0 rs l]?=some l
 |[],[],_=>rfl
 |r::rs,x::l,h=>by
  rw[jm h.2.len];show((aav _).flatMap λk=>(allR rs).map _)[_]?=_;rw[FE _ (λk=>by rw[iO,allR_cnt]) _ x _ (by have:=h.1;omega) (place_lt h.2),aah,place_at h.2];rfl
 |[],_::_,h=>h.elim
 |_::_,[],h=>h.elim
theorem place_only:∀{rs:List Nat}{i:Nat}{l:List Nat},(allR rs)[i]?=some l->i=placeF 0 rs l
 |[],0,l,h=>by
  rfl
 |[],i+1,l,h=>by simp[allR]at h
 | r::rs,i,l,h=>by
  have b:=(AD.mp h).1;rw[allR_cnt,cnt]at b;have j:0<cnt rs:=Nat.pos_of_ne_zero λz=>by rw[z]at b;simp at b
  have hk:i/cnt rs<r+1:=Nat.div_lt_of_lt_mul (by rw[adz];exact b);have d:=ahK i j;have e:i=i/cnt rs*cnt rs+i%cnt rs:=by rw[adz];exact(Nat.div_add_mod i (cnt rs)).symm
  have a:=FE (N:=cnt rs) (λk=>(allR rs).map (k :: ·)) (λk=>by rw[iO,allR_cnt]) (r+1) _ _ hk d;rw[<-e]at a;have m:((aav (r+1)).flatMap λk=>(allR rs).map (k :: ·))[i]?=some l:=h;rw[m,aah]at a
  cases q:(allR rs)[i%cnt rs]? with
  |none=>rw[q]at a;cases a
  |some f=>
   rw[q]at a;have:l=(i/cnt rs)::f:=aay a;subst this;have g:=place_only q;have c:=allR_len (Ld q);rw[jm c,<-g,adz];exact(Nat.div_add_mod i (cnt rs)).symm
def pick(lt:Nat->Nat->Bool):Nat->List Nat->Nat
 |b,[]=>b
 |b,k::ks=>pick lt (if lt k b then k else b) ks
def pick_self{lt:Nat->Nat->Bool}{k:Nat}{ks:List Nat}(h:lt k k=false):pick lt k (k::ks)=pick lt k ks:=by
 simp[pick,h]
theorem xo{lt:Nat->Nat->Bool}:∀{ks:List Nat}{b:Nat},pick lt b ks=b\/pick lt b ks∈ks
 |[],b=>.inl rfl
 | k::ks,b=>by
  simp only[pick];rcases xo with h|h
  .rw[h]
   by_cases q:lt k b=true
   .rw[if_pos q];exact .inr aan
   .rw[if_neg q];exact .inl rfl
  .exact .inr (aai _ h)
theorem pick_app{lt:Nat->Nat->Bool}:∀{ks:List Nat}{b k:Nat},pick lt b (ks++[k])=if lt k (pick lt b ks)then k else pick lt b ks
 |[],b,k=>rfl
 |j::ks,b,k=>by simp;exact pick_app
theorem placeF_take:∀{rs l:List Nat}{i acc r x:Nat},rs[i]?=some r->l[i]?=some x->placeF acc (rs.take (i+1)) (l.take (i+1))=placeF acc (rs.take i) (l.take i)*(r+1)+x
 |r0::rs,x0::l,0,acc,r,x,h1,h2=>by
  have e:=by simpa using h1
  have a:=by simpa using h2
  subst e a;rfl
 |r0::rs,x0::l,i+1,acc,r,x,h1,h2=>by
  simp;exact placeF_take ‹_› ‹_›
 |[],_,_,_,_,_,h1,_=>by simp at h1
 |_::_,[],_,_,_,_,_,h2=>by simp at h2
end M7
namespace K
open PySem L2 M7
variable{h:Hall}{l o:List Nat}{n t:Nat}{r:Rule}
def Hall.an(h:Hall)(k:Nat):Nat:=(h.ss.map Srv.a).getD k 0
def Hall.bn(h:Hall)(k:Nat):Nat:=(h.ss.map Srv.b).getD k 0
def bf(l:List Nat)(k b:Nat):Bool:=decide (l.getD k 0<l.getD b 0)
def cP(h:Hall)(l:List Nat)(k b:Nat):Bool:=decide ((l.getD k 0+1)*h.bn k*h.an b<(l.getD b 0+1)*h.bn b*h.an k)
def sent(h:Hall)(r:Rule)(l:List Nat)(t:Nat)(o:List Nat):Nat:=match r with
 | .random=>o.headD 0
 | .turns=>t
 | .two=>pick (bf l) (o.headD 0) (o.take 2)
 | .least=>pick (bf l) (o.headD 0) o
 | .quick=>pick (cP h l) (o.headD 0) o
 | .told p=>p.getD (placeF 0 h.rs l) 0
structure Ord(n:Nat)(o:List Nat):Prop where
 ne:o≠[]
 lt:∀k∈o,k<n
 le:o.length≤4
theorem Lines.fits(k:Lines h l):Fits h.rs l:=by
 let⟨k1,k2⟩:=k;unfold Hall.rs;generalize h.ss=ss at k1 k2
 induction ss generalizing l with
 |nil=>cases l with
  |nil=>trivial
  |cons _ _=>simp at k1
 |cons s ss a=>cases l with
  |nil=>simp at k1
  |cons x l=>exact⟨k2 0 s x rfl rfl,a (by simpa using k1) λi s x b e=>k2 (i+1) s x ‹_› ‹_›⟩
theorem getN{k:Nat}(a:l.length=n)(hk:k<n):l[k]?=some (l.getD k 0):=by simp_all
def Hall.srv{k:Nat}(hk:k<h.ss.length):∃s,h.ss[k]?=some s/\h.an k=s.a/\h.bn k=s.b/\s∈h.ss:=by
 refine⟨h.ss[k],lD hk,?_,?_,acZ hk⟩
 .exact bH (by rw[aah,lD hk];rfl)
 .exact bH (by rw[aah,lD hk];rfl)
def JS:SpM:=λe K=>∃a b c d:Nat,e=[.imm (frD a b),.imm (frD c d)]/\a<1000000000000/\b<1000000000000/\c<1000000000000/\d<1000000000000/\K (.imm (.bool (decide (a*d<c*b)))) []
def Cq:SpM:=λa K=>∃(h:Hall) (l:List Nat),a=[.imm h.d,.imm (lnD l)]/\h.Ok/\Lines h l/\K (.imm (.int (placeF 0 h.rs l:Nat))) []
def qb:SpM:=λa K=>∃(l o:List Nat),a=[.imm (lnD l),.imm (lnD o)]/\Ord l.length o/\K (.imm (.int (pick (bf l) (o.headD 0) o:Nat))) []
def Kl:SpM:=λa K=>∃(h:Hall) (l:List Nat) (k:Nat),a=[.imm h.d,.imm (lnD l),.imm (.int (k:Int))]/\h.Ok/\Lines h l/\k<h.ss.length/\K (.imm (frD ((l.getD k 0+1)*h.bn k:Nat) (h.an k:Nat))) []
def qm:SpM:=λa K=>∃(h:Hall) (l o:List Nat),a=[.imm h.d,.imm (lnD l),.imm (lnD o)]/\h.Ok/\Lines h l/\Ord h.ss.length o/\K (.imm (.int (pick (cP h l) (o.headD 0) o:Nat))) []
def stD(l:List Nat)(t:Nat):aD:=.tuple [lnD l,.int (t:Int)]
def yh:SpM:=λa K=>∃(h:Hall) (r:Rule) (l:List Nat) (t:Nat) (o:List Nat),a=[.imm h.d,.imm r.d,.imm (stD l t),.imm (lnD o)]/\h.Ok/\r.Ok h/\Lines h l/\Ord h.ss.length o/\K (.imm (.int (sent h r l t o:Nat))) []
theorem Ord.cons(h:Ord n o):∃k ks,o=k::ks/\k<n:=by
 cases o with
 |nil=>exact(h.ne rfl).elim
 |cons k ks=>exact⟨k,ks,rfl,h.lt k aan⟩
def ox{lt:Nat->Nat->Bool}(h:Ord n o)(i:Nat):pick lt (o.headD 0) (o.take i)<n:=by
 let⟨k,a,rfl,hk⟩:=h.cons;rcases xo with e|e
 .rw[e];exact hk
 .exact h.lt _ (ack e)
def oT(l:List Nat)(k:Nat):bf l k k=false:=decide_eq_false (acw _)
def Rule.tl:Rule->List aD
 | .told p=>[lnD p]
 |_=>[]
def Rule.dc(r:Rule):r.d = .tuple (.str r.word::r.tl):=by cases r<;>rfl
def Qk{m:MSt}{K:R->Prop}{d x:aD}{ds:List aD}{i:Int}(e:d = .tuple ds)(h:atI ds i=some x)(k:K (.imm x)):oo (.imm d) (.imm (.int i)) m K:=by
 subst e;exact aY h k
inductive Mv where
 |come (o:List Nat)|done (k:Nat)|still
def Mv.d:Mv->aD
 | .come o=>.tuple [.str "come",lnD o]
 | .done k=>.tuple [.str "done",.int (k:Int)]
 | .still=>.tuple [.str "still"]
def Mv.Ok(h:Hall):Mv->Prop
 | .come o=>Ord h.ss.length o
 | .done k=>k<h.ss.length
 | .still=>True
inductive Wd where
 |taken|away|served|none
def Wd.s:Wd->Str
 | .taken=> "taken" | .away=> "away" | .served=> "served" | .none=> "none"
def Hall.rn(h:Hall)(k:Nat):Nat:=h.rs.getD k 0
def cz(h:Hall)(l:List Nat)(k:Nat):List Nat×Wd:=if l.getD k 0=h.rn k then(l,.away)else(l.set k (l.getD k 0+1),.taken)
def c8(l:List Nat)(k:Nat):List Nat×Wd:=if l.getD k 0=0 then(l,.none)else(l.set k (l.getD k 0-1),.served)
def idx(l:List Nat)(x:Nat):Nat:=l.findIdx (λy=>y==x)
def maxN(l:List Nat):Nat:=l.foldl max 0
def dH(h:Hall)(l:List Nat):Option (Nat×Nat):=if h.mv=true/\0∈l/\2≤maxN l then some (idx l (maxN l),idx l 0)else none
def cI(l:List Nat)(p:Nat×Nat):List Nat:=(l.set p.1 (l.getD p.1 0-1)).set p.2 ((l.set p.1 (l.getD p.1 0-1)).getD p.2 0+1)
def dA(h:Hall):Nat->List Nat->List Nat
 |0,l=>l
 |n+1,l=>match dH h l with
  |none=>l
  |some p=>dA h n (cI l p)
def settle(h:Hall)(l:List Nat):List Nat:=dA h (l.count 0) l
theorem n6:∀(l:List Nat) (a:Nat),a≤l.foldl max a/\(∀x∈l,x≤l.foldl max a)/\(l.foldl max a=a\/l.foldl max a∈l)
 |[],a=>⟨aaa _,(λ_ h=>by cases h),.inl rfl⟩
 | y::l,a=>by
  let⟨c,d,e⟩:=n6 l _;refine⟨aaA (aeL a y) c,λx b=>?_,?_⟩
  .rcases aag.mp b with rfl|b
   .exact aaA (Nat.le_max_right a x) c
   .exact d x b
  .grind
def rJ:∀x∈l,x≤maxN l:=(n6 l 0).2.1
theorem iG(h:l≠[]):maxN l∈l:=by
 rcases (n6 l 0).2.2 with e|e
 .cases l with
  |nil=>exact(h rfl).elim
  |cons x l=>
   have:x≤maxN (x::l):=rJ x aan;have a:maxN _=0:=e
   grind
 .exact e
theorem gC{x:Nat}(h:x∈l):l[idx l x]?=some x/\∀i y,i<idx l x->l[i]?=some y->y≠x:=by
 have a:idx l x<l.length:=List.findIdx_lt_length_of_exists ⟨x,h,'a'⟩;refine⟨?_,λi y b c e=>?_⟩
 .rw[lD a];have:=List.findIdx_getElem (w:=a);simp at this;exact congrArg some this
 .have:=List.not_of_lt_findIdx b
  grind
theorem bT(a b:Nat):aad (.int (a:Int)) (.int (b:Int))=decide (a=b):=by
 simp[aad]
 by_cases h:a=b
 .subst h;simp
 .have:¬_:=λz=>h (Int.ofNat.inj z)
  simp_all
def bz(l:List Nat):∀y∈natD l,Shp 0 y:=λy a=>by
 let⟨x,_,rfl⟩:=aar.mp a;exact cp _
def xP(l:List Nat)(k x:Nat):(natD l).set k (.int (x:Int))=natD (l.set k x):=by
 unfold natD;rw[List.map_set]
def qc:SpM:=λa K=>∃(l:List Nat) (k:Nat) (d:Int) (x:Nat),a=[.imm (lnD l),.imm (.int (k:Int)),.imm (.int d)]/\k<l.length/\l.length≤1000/\(l.getD k 0:Int)+d=(x:Int)/\K (.imm (lnD (l.set k x))) []
def lwD(p:List Nat×Wd):aD:=.tuple [lnD p.1,.str p.2.s]
def KO:SpM:=λa K=>∃(h:Hall) (l:List Nat) (k:Nat),a=[.imm h.d,.imm (lnD l),.imm (.int (k:Int))]/\h.Ok/\Lines h l/\k<h.ss.length/\K (.imm (lwD (cz h l k))) []
def K7:SpM:=λa K=>∃(l:List Nat) (k:Nat),a=[.imm (lnD l),.imm (.int (k:Int))]/\k<l.length/\l.length≤1000/\K (.imm (lwD (c8 l k))) []
def optP:Option (Nat×Nat)->aD
 |none=>.none
 |some p=>.tuple [.int (p.1:Int),.int (p.2:Int)]
def Fc:SpM:=λa K=>∃(h:Hall) (l:List Nat),a=[.imm h.d,.imm (lnD l)]/\l≠[]/\l.length≤1000/\K (.imm (optP (dH h l))) []
def u8:SpM:=λa K=>∃(h:Hall) (l:List Nat),a=[.imm h.d,.imm (lnD l)]/\l≠[]/\l.length≤1000/\K (.imm (lnD (settle h l))) []
theorem iC{p:Nat×Nat}(e:dH h l=some p):h.mv=true/\l[p.1]?=some (maxN l)/\2≤maxN l/\l[p.2]?=some 0/\p.1≠p.2:=by
 unfold dH at e
 split at e
 .rename_i q;let⟨c,b,d⟩:=q;have a:l≠[]:=λz=>by rw[z]at b;cases b
  have s1:=(gC (iG a)).1;have s:=(gC b).1
  grind
 .cases e
theorem jY{p:Nat×Nat}(e:dH h l=some p):cI l p=(l.set p.1 (maxN l-1)).set p.2 1/\p.1<l.length/\p.2<l.length/\(cI l p).count 0+1=l.count 0/\(cI l p).length=l.length:=by
 let⟨w,b,x,a,i⟩:=iC e;have c:=(AD.mp b).1;have g:=(AD.mp a).1;have j:l.getD p.1 0=maxN l:=bH b;have q:(l.set p.1 (maxN l-1)).getD p.2 0=0:=bH (by rw[aaO i];exact a);have d:cI l p=(l.set p.1 (maxN l-1)).set p.2 1:=by unfold cI;rw[j,q]
 have k:=by rw[lD c]at b;exact aay b
 have m:l[p.2]=0:=by rw[lD g]at a;exact aay a
 refine⟨d,c,g,?_,by rw[d,aa5,aa5]⟩;have u:0<l.count 0:=List.count_pos_iff.mpr (Ld a);have f:p.2<(l.set p.1 (maxN l-1)).length:=by rw[aa5];exact g
 have v:(l.set p.1 (maxN l-1))[p.2]=0:=by rw[adJ i];exact m
 rw[d,afg f,afg c,v,k];have d1:(maxN l==0)=false:=by simp;omega
 have s:(maxN l-1==0)=false:=by simp;omega
 simp_all
theorem h8(e:dH h l=none):∀n,dA h n l=l
 |0=>rfl
 |n+1=>by simp[dA,e]
def D5(h:Hall)(r:Rule)(t:Nat):Nat:=match r with
 | .turns=>(t+1)%h.ss.length
 |_=>t
def Bi:SpM:=λa K=>∃(h:Hall) (r:Rule) (t:Nat),a=[.imm h.d,.imm r.d,.imm (.int (t:Int))]/\h.Ok/\K (.imm (.int (D5 h r t:Nat))) []
def Ic(h:Hall)(r:Rule)(l:List Nat)(t:Nat):Mv->aD
 | .come o=>.int (sent h r l t o:Nat)
 | .done k=>.int (k:Int)
 | .still=>.none
def yf:SpM:=λa K=>∃(h:Hall) (r:Rule) (l:List Nat) (t:Nat) (mv:Mv),a=[.imm h.d,.imm r.d,.imm (stD l t),.imm mv.d]/\h.Ok/\r.Ok h/\Lines h l/\mv.Ok h/\K (.imm (Ic h r l t mv)) []
def f8(h:Hall)(r:Rule)(l:List Nat)(t:Nat):Mv->List Nat×Nat×Wd
 | .come o=>(settle h (cz h l (sent h r l t o)).1,D5 h r t,(cz h l (sent h r l t o)).2)
 | .done k=>(settle h (c8 l k).1,t,(c8 l k).2)
 | .still=>(settle h l,t,.none)
def mvD(p:List Nat×Nat×Wd):aD:=.tuple [stD p.1 p.2.1,.str p.2.2.s]
def zT:SpM:=λa K=>∃(h:Hall) (r:Rule) (l:List Nat) (t:Nat) (mv:Mv),a=[.imm h.d,.imm r.d,.imm (stD l t),.imm mv.d]/\h.Ok/\r.Ok h/\Lines h l/\mv.Ok h/\(r = .turns->t<h.ss.length)/\K (.imm (mvD (f8 h r l t mv))) []
theorem jq(g:h.Ok)(c:r.Ok h)(f:Lines h l)(a:Ord h.ss.length o)(d:r = .turns->t<h.ss.length):sent h r l t o<h.ss.length:=by
 cases r with
 |random=>let⟨k,k1,rfl,e⟩:=a.cons;exact e
 |turns=>exact d rfl
 |two=>exact ox a 2
 |least=>have:=ox (lt:=bf l) a o.length;rw[aaE]at this;exact this
 |quick=>have:=ox (lt:=cP h l) a o.length;rw[aaE]at this;exact this
 |told p=>
  have b:placeF 0 h.rs l<p.length:=by rw[c.1,allR_cnt];exact place_lt f.fits
  exact c.2 _ (Ld (getN rfl b))
theorem Lines.set{k x:Nat}(a:Lines h l)(f:∀s,h.ss[k]?=some s->x≤s.r):Lines h (l.set k x):=by
 refine⟨by rw[aa5];exact a.1,λi s y b e=>?_⟩
 by_cases c:k=i
 .subst c;have d:k<l.length:=by rw[a.1];exact(AD.mp b).1
  simp_all
 .rw[aaO c]at e;exact a.2 i s y b e
def Lines.at{k:Nat}(a:Lines h l)(hk:k<h.ss.length):∃s,h.ss[k]?=some s/\l.getD k 0≤s.r/\h.rn k=s.r/\s∈h.ss:=by
 let⟨s,e,c,eb,b⟩:=h.srv hk;exact⟨s,e,a.2 k s _ e (getN a.1 hk),bH (Hall.rs_get e),b⟩
theorem yM{k:Nat}(a:Lines h l)(hk:k<h.ss.length):Lines h (cz h l k).1:=by
 let⟨s,e,b,d,f⟩:=a.at hk;unfold cz;split
 .omega
 .refine a.set λc g=>?_
  grind
theorem yE{k:Nat}(a:Lines h l)(hk:k<h.ss.length):Lines h (c8 l k).1:=by
 let⟨s,e,b,d,f⟩:=a.at hk;unfold c8;split
 .omega
 .refine a.set λc g=>?_
  grind
theorem jD{h:Hall}(c:h.Ok):∀(n:Nat) (l:List Nat),Lines h l->Lines h (dA h n l)
 |0,l,hL=>hL
 | n+1,l,hL=>by
  simp[dA]
  cases e:dH h l with
  |none=>exact hL
  |some p=>
   let⟨d,f,j,g,b⟩:=jY e;let⟨i,m1,m2,m,k⟩:=iC e;refine jD c n _ ?_;rw[d];refine(hL.set λs a=>?_).set λs a=>(c.ok s (Ld a)).r1;have:=hL.2 p.1 s _ a m1;omega
def h7(a:h.Ok)(b:Lines h l):Lines h (settle h l):=jD a _ _ b
structure St(h:Hall)(r:Rule)(l:List Nat)(t:Nat):Prop where
 ln:Lines h l
 tn:r = .turns->t<h.ss.length
 ts:t<4
theorem JO(a:h.Ok)(b:t<4)(c:r = .turns->t<h.ss.length):(r = .turns->D5 h r t<h.ss.length)/\D5 h r t<4:=by
 have n1:=a.n1;have n4:=a.n4
 cases r with
 |turns=>
  have:=ahK (t+1) (show h.ss.length>0 by assumption);exact⟨λ_=>this,by show(t+1)%h.ss.length<4;exact aat ‹_› ‹_›⟩
 |_=>exact⟨(λz=>by cases z),b⟩
theorem gl(a:h.Ok)(c:r.Ok h)(S:St h r l t){mv:Mv}(b:mv.Ok h):St h r (f8 h r l t mv).1 (f8 h r l t mv).2.1:=by
 cases mv with
 |come o=>
  have:=JO a S.ts S.tn;exact⟨h7 a (yM S.ln (jq a c S.ln b S.tn)),this.1,this.2⟩
 |done k=>exact⟨h7 a (yE S.ln b),S.tn,S.ts⟩
 |still=>exact⟨h7 a S.ln,S.tn,S.ts⟩
def zer(h:Hall):List Nat:=aaj h.ss.length 0
theorem jM(a:h.Ok)(r:Rule):St h r (zer h) 0:=by
 refine⟨⟨by simp[zer],λi s x b e=>?_⟩,λ_=>a.n1,⋯⟩;have:=by
  have:=Ld e;exact(ag6.mp this).2
 omega
def CQ:SpM:=λa K=>∃h:Hall,a=[.imm h.d]/\h.Ok/\K (.imm (stD (zer h) 0)) []
def JD{k:Nat}{d:aD}(h:Shp k d):aad d d=true:=PySem.SeqAt.eqv_refl d h.cl
end K
namespace M8
variable{l:List Nat}{p:Nat}
def ins(x:Nat):List Nat->List Nat
 |[]=>[x]
 |y::l=>if y≤x then x::y::l else y::ins x l
def srt:List Nat->List Nat
 |[]=>[]
 |x::l=>ins x (srt l)
def Fall(l:List Nat):Prop:=l.Pairwise (· ≥ ·)
theorem qO(x:Nat):∀l,(ins x l).Perm (x::l)
 |[]=>.refl _
 |y::l=>by
  unfold ins;split
  .exact .refl _
  .exact((qO x l).cons y).trans (.swap x y l)
theorem xt{x:Nat}:∀{l},Fall l->Fall (ins x l)
 |[],_=>ac1 _ _
 | y::l,h=>by
  unfold ins;rcases acF.mp h with⟨b,c⟩;split
  .rename_i hy;refine acF.mpr ⟨λz a=>?_,h⟩;obtain rfl|a:=aag.mp a
   .exact hy
   .have:=b z a;show z≤x;omega
  .rename_i hy;refine acF.mpr ⟨λz a=>?_,xt c⟩;rcases aag.mp ((qO x l).mem_iff.mp a)with rfl|a
   .show z≤y;omega
   .exact b z a
theorem iR:∀l,(srt l).Perm l
 |[]=>.refl _
 |x::l=>(qO x (srt l)).trans ((iR l).cons x)
theorem b7:∀l,Fall (srt l)
 |[]=>ahc
 |_::l=>xt (b7 l)
theorem yr:∀{a b:List Nat},Fall a->Fall b->a.Perm b->a=b
 |[],b,_,_,p=>(List.nil_perm.mp p).symm
 |x::a,[],_,_,p=>by simpa using p.length_eq
 | x::a,y::b,ha,hb,p=>by
  let⟨a1,a2⟩:=acF.mp ha;let⟨b1,b2⟩:=acF.mp hb;have h:x=y:=by
   have c:x≤y:=by
    rcases aag.mp (p.mem_iff.mp aan)with e|e
    .omega
    .exact b1 x e
   have d:y≤x:=by
    rcases aag.mp (p.mem_iff.mpr (aan (a:=y)))with e|e
    .omega
    .exact a1 y e
   omega
  subst h;rw[yr a2 b2 (List.Perm.cons_inv p)]
def qf{a:List Nat}(h:Fall a)(p:a.Perm l):srt l=a:=yr (b7 l) h ((iR l).trans p.symm)
def dt(h:Fall l):srt l=l:=qf h (.refl _)
def Lu(l:List Nat):(srt l).length=l.length:=(iR l).length_eq
theorem fall_iff:Fall l↔∀i j,i≤j->j<l.length->l.getD j 0≤l.getD i 0:=by
 unfold Fall;refine acI.trans ?_;constructor
 .intro h i j hij hj
  by_cases e:i=j
  .subst e;exact aaa _
  .have:=h i j ∅ hj ∅;rw[aac,aac,lD hj,lD (show i<l.length by omega)];exact this
 .intro h i j hi hj hij;have:=h i j ∅ hj;rw[aac,aac,lD hj,lD hi]at this;exact this
def jx{i w:Nat}(h:p<l.length):(l.set p w).getD i 0=if i=p then w else l.getD i 0:=by
 rw[aac,aac]
 by_cases e:i=p
 .subst e;rw[aaV h];simp
 .rw[aaO ∅,if_neg e]
def P(l:List Nat)(n:Nat):Nat:=(l.take n).sum
def B6(l:List Nat):P l 0=0:=by simp[P]
def db(l:List Nat)(n:Nat):P l (n+1)=P l n+l.getD n 0:=by
 unfold P;rw[aaX,List.sum_append,aac]
 cases l[n]?<;>simp
theorem Si(l:List Nat){n k:Nat}(h:n≤k):P l n≤P l k:=by
 induction k with
 |zero=>
  have:n=0:=by omega
  subst this;exact aaa _
 |succ k i=>
  by_cases e:n=k+1
  .subst e;exact aaa _
  .have:=i ∅;rw[db];omega
theorem M6{l:List Nat}{f w:Nat}(b:f<l.length):∀n,P (l.set f w) n+(if f<n then l.getD f 0 else 0)=P l n+(if f<n then w else 0)
 |0=>by simp[B6]
 | n+1=>by
  have i:=M6 (w:=w) b n;rw[db,db,jx b]
  by_cases a:f<n
  .rw[if_pos a,if_pos a]at i;have h:f<n+1:=by omega
   have d:¬n=f:=by omega
   rw[if_pos h,if_pos h,if_neg d];omega
  .rw[if_neg a,if_neg a]at i
   by_cases c:n=f
   .subst c;have h:n<n+1:=by omega
    rw[if_pos h,if_pos h,if_pos rfl];omega
   .have h:¬f<n+1:=by omega
    rw[if_neg h,if_neg h,if_neg c];omega
def wZ{f w:Nat}(b:p<l.length)(h:f<l.length)(e:l.getD p 0=l.getD f 0):(l.set f w).Perm (l.set p w):=by
 rw[List.perm_iff_count];intro a;have c:l[p]=l[f]:=by
  rw[aac,aac,lD b,lD h]at e;exact e
 rw[afg h,afg b,c]
theorem qE{l:List Nat}(F:Fall l):∀p,p<l.length->∃f,f≤p/\l.getD f 0=l.getD p 0/\(∀i,f≤i->i≤p->l.getD i 0=l.getD p 0)/\∀i,i<f->l.getD p 0<l.getD i 0
 |0,_=>⟨0,aaa _,rfl,λi j a=>by rw[show i=0 by omega],λi h=>by omega⟩
 | p+1,hp=>by
  have c:=fall_iff.mp F
  by_cases e:l.getD p 0=l.getD (p+1) 0
  .obtain⟨f,j,a,h3,h4⟩:=qE F p ∅;rw[e]at a h3 h4;refine⟨f,∅,a,λi b d=>?_,h4⟩
   by_cases g:i=p+1
   .rw[g]
   .exact h3 i b ∅
  .refine⟨p+1,aaa _,rfl,λi b d=>by rw[show i=p+1 by omega],λi k=>?_⟩;have a1:=c i p ∅ ∅;have a2:=c p (p+1) ∅ hp;omega
theorem BH(F:Fall l)(h:p<l.length):∃g,p≤g/\g<l.length/\l.getD g 0=l.getD p 0/\(∀i,p≤i->i≤g->l.getD i 0=l.getD p 0)/\∀i,g<i->i<l.length->l.getD i 0<l.getD p 0:=by
 have c:=fall_iff.mp F;generalize hk:l.length-1-p=k
 induction k generalizing p with
 |zero=>exact⟨p,aaa _,h,rfl,λi b a=>by rw[show i=p by omega],λi b a=>by omega⟩
 | succ k d=>
  by_cases e:l.getD (p+1) 0=l.getD p 0
  .obtain⟨g,h1,h2,h3,h4,h5⟩:=d (p:=p+1) ∅ ∅;rw[e]at h3 h4 h5;refine⟨g,∅,h2,h3,λi b a=>?_,h5⟩
   by_cases f:i=p
   .rw[f]
   .exact h4 i ∅ a
  .refine⟨p,aaa _,h,rfl,λi b a=>by rw[show i=p by omega],λi b a=>?_⟩;have a1:=c (p+1) i ∅ a;have a2:=c p (p+1) ∅ ∅;omega
def xT(F:Fall l){f:Nat}(k:p<l.length)(q:f≤p)(g:l.getD f 0=l.getD p 0)(o:∀i,i<f->l.getD p 0<l.getD i 0) :
  ∀n,P (srt (l.set p (l.getD p 0+1))) n=P l n+(if f<n then 1 else 0):=by
 intro n;have m:=fall_iff.mp F;have b:f<l.length:=by omega
 have e:srt (l.set p (l.getD p 0+1))=l.set f (l.getD p 0+1):=by
  refine qf (fall_iff.mpr λi j c d=>?_) (wZ k b g.symm);rw[aa5]at d;rw[jx b,jx b];have a:=m i j c d;split
  .split
   .exact aaa _
   .have:=o i ∅;omega
  .split
   .rename_i hi;subst hi;omega
   .exact a
 rw[e];have:=M6 (w:=l.getD p 0+1) b n;rw[g]at this
 by_cases h:f<n
 .rw[if_pos h,if_pos h]at this;rw[if_pos h];omega
 .rw[if_neg h,if_neg h]at this;rw[if_neg h];omega
def mh(F:Fall l){g:Nat}(k:p<l.length)(r:0<l.getD p 0)(q:p≤g)(b:g<l.length)(f:l.getD g 0=l.getD p 0)(o:∀i,g<i->i<l.length->l.getD i 0<l.getD p 0) :
  ∀n,P (srt (l.set p (l.getD p 0-1))) n+(if g<n then 1 else 0)=P l n:=by
 intro n;have m:=fall_iff.mp F;have e:srt (l.set p (l.getD p 0-1))=l.set g (l.getD p 0-1):=by
  refine qf (fall_iff.mpr λi j c d=>?_) (wZ k b f.symm);rw[aa5]at d;rw[jx b,jx b];have a:=m i j c d;split
  .split
   .exact aaa _
   .rename_i hj2 _;subst hj2;omega
  .split
   .rename_i hi;subst hi;have:=o j ∅ d;omega
   .exact a
 rw[e];have:=M6 (w:=l.getD p 0-1) b n;rw[f]at this
 by_cases h:g<n
 .rw[if_pos h,if_pos h]at this;rw[if_pos h];omega
 .rw[if_neg h,if_neg h]at this;rw[if_neg h];omega
section
variable {x y:List Nat}{c d:Nat}
theorem RF(B:Fall x)(j:Fall y)(C:x.length=y.length){q a fx fy:Nat}(z:q<x.length)(w:a≤q)(H:∀n,P x n+c≤P y n+d)
  (b:∀i,fx≤i->i≤q->x.getD i 0=x.getD q 0) (D:fy≤a) (A:y.getD fy 0=y.getD a 0) (r:∀i,i<fy->y.getD a 0<y.getD i 0) :
  ∀n,P x n+(if fx<n then 1 else 0)+c≤P y n+(if fy<n then 1 else 0)+d:=by
 have F:=fall_iff.mp j;have key:∀k n,k=fy-n->fx<n->n≤fy->P x n+c<P y n+d:=by
  intro k
  induction k with
  |zero=>
   intro n hk h e;have s:n=fy:=by omega
   subst s;let⟨n,rfl⟩:∃m,n=m+1:=⟨n-1,∅⟩;have a1:=H n;have a2:=H (n+1);have g:=H (n+1+1);rw[db x (n+1),db y (n+1)]at g;rw[db,db]at a2 g⊢;have u:=b n ∅ ∅;have t:=b (n+1) ∅ ∅;have o:=r n ∅;omega
  |succ k v=>
   intro n hk h e;have f:=v (n+1) ∅ ∅ ∅;let⟨n,rfl⟩:∃m,n=m+1:=⟨n-1,∅⟩;have a1:=H n;have a2:=H (n+1);rw[db x (n+1),db y (n+1)]at f;rw[db,db]at a2 f⊢;have u:=b n ∅ ∅;have t:=b (n+1) ∅ ∅;have o:=F n (n+1) ∅ ∅;omega
 intro n;have a:=H n
 by_cases h:fx<n
 .by_cases e:fy<n
  .rw[if_pos h,if_pos e];omega
  .have:=key _ n rfl h ∅;rw[if_pos h,if_neg e];omega
 .rw[if_neg h];split<;>omega
theorem MN(t:Fall x)(e:Fall y)(w:x.length=y.length){k gx gy:Nat}(hk:k<x.length)(H:∀n,P x n+c≤P y n+d)
  (z:k≤gx) (u:gx<x.length) (b:∀i,k≤i->i≤gx->x.getD i 0=x.getD k 0) (D:k≤gy) (v:gy<y.length) (A:y.getD gy 0=y.getD k 0) (o:∀i,gy<i->i<y.length->y.getD i 0<y.getD k 0) :
  ∀n,gy<n->n≤gx->P x n+c<P y n+d:=by
 have F:=fall_iff.mp e;have key:∀j n,j=n-gy->gy<n->n≤gx->P x n+c<P y n+d:=by
  intro j
  induction j with
  |zero=>intro n q h s;omega
  |succ j r=>
   intro n q h s;let⟨n,rfl⟩:∃m,n=m+1:=⟨n-1,∅⟩;have a1:=H n;have a2:=H (n+1);have a:=H (n+1+1);rw[db x (n+1),db y (n+1)]at a;rw[db,db]at a2 a⊢;have C:=b n ∅ ∅;have B:=b (n+1) ∅ ∅
   by_cases f:n=gy
   .subst f;have g:=o (n+1) ∅ ∅;omega
   .have i1:=r n ∅ ∅ ∅;have g:=F n (n+1) ∅ ∅;omega
 exact λn=>key _ n rfl
theorem Rf{r q a:Nat}(k:a≤q)(H:P x (q+1)+c≤P y (q+1)+d)(f:∀i,i≤q->x.getD i 0=r)(h:∀i,i≤q->y.getD i 0≤r)(e:y.getD a 0<r):∀n,n≤a->P x n+c+1≤P y n+d:=by
 intro n o;have key:∀j,n+j≤q+1->P y (n+j)+P x n+(if a<n+j then 1 else 0)≤P x (n+j)+P y n:=by
  intro j
  induction j with
  |zero=>intro _;rw[if_neg ∅];simp only[ahi];omega
  | succ j g=>
   intro u;have b:=g ∅;have t:=f (n+j) ∅;have s:=h (n+j) ∅;rw[show n+(j+1)=n+j+1 by omega,db,db]
   by_cases m:a=n+j
   .rw[if_pos ∅];rw[if_neg ∅]at b;rw[m]at e;omega
   .by_cases eb:a<n+j
    .rw[if_pos ∅];rw[if_pos eb]at b;omega
    .rw[if_neg ∅];rw[if_neg eb]at b;omega
 have:=key (q+1-n) ∅;rw[show n+(q+1-n)=q+1 by omega,if_pos ∅]at this;omega
end
end M8
namespace K
open PySem L2 M7 M8
variable{h:Hall}{l:List Nat}
structure Alk(h:Hall)(s:Srv):Prop where
 ok:h.Ok
 nm:h.mv=false
 al:∀t∈h.ss,t=s
theorem Alk.settle{s:Srv}(A:Alk h s)(l:List Nat):settle h l=l:=h8 (by unfold dH;rw[A.nm,if_neg (λz=>by cases z.1)]) _
def Alk.rn{s:Srv}(A:Alk h s){k:Nat}(hk:k<h.ss.length):h.rn k=s.r:=by
 have e:h.ss[k]?=some h.ss[k]:=lD hk;have:=A.al _ (acZ hk);exact bH (by rw[Hall.rs_get e,this])
def Ln(h:Hall)(s:Srv)(l:List Nat):Prop:=l.length=h.ss.length/\∀x∈l,x≤s.r
def Alk.lines{s:Srv}(A:Alk h s)(L:Ln h s l):Lines h l:=⟨L.1,λi t x a e=>by
 rw[A.al t (Ld a)];exact L.2 x (Ld e)⟩
def ls{s:Srv}(L:Ln h s l)(i:Nat):l.getD i 0≤s.r:=by
 by_cases a:i<l.length
 .exact L.2 _ (Ld (getN rfl a))
 .rw[aac,adj ∅];exact abB _
def fu{s:Srv}(L:Ln h s l):Ln h s (srt l):=⟨by rw[Lu];exact L.1,λx a=>L.2 x ((iR l).mem_iff.mp a)⟩
def k7{s:Srv}{k x:Nat}(L:Ln h s l)(b:x≤s.r):Ln h s (l.set k x):=⟨by rw[aa5];exact L.1,λy a=>by
 rcases adF a with z|z
 .exact L.2 y z
 .omega⟩
structure Gn where
 l:List Nat
 a:Nat
 s:Nat
def Wd.ba:Wd->Nat
 | .away=>1
 |_=>0
def Wd.bs:Wd->Nat
 | .served=>1
 |_=>0
def Gn.nx(h:Hall)(r:Rule)(g:Gn)(mv:Mv):Gn:=⟨srt (f8 h r g.l 0 mv).1,g.a+(f8 h r g.l 0 mv).2.2.ba,g.s+(f8 h r g.l 0 mv).2.2.bs⟩
def Mv.All(h:Hall)(mv:Mv):Prop:=mv.Ok h/\∀o,mv = .come o->∀k,k<h.ss.length->k∈o
structure GI(h:Hall)(s:Srv)(x y:Gn):Prop where
 fx:Fall x.l
 fy:Fall y.l
 lx:Ln h s x.l
 ly:Ln h s y.l
 p:∀n,P x.l n+x.a≤P y.l n+y.a
 c:P x.l h.ss.length+x.a+x.s=P y.l h.ss.length+y.a+y.s
def Dom(h:Hall)(s:Srv)(r1 r2:Rule):Prop:=∀(o x y:List Nat),Ord h.ss.length o->(∀k,k<h.ss.length->k∈o)->Fall x->Ln h s x->Ln h s y ->
 sent h r1 x 0 o<h.ss.length/\sent h r2 y 0 o<h.ss.length/\∃q,q<h.ss.length/\x.getD q 0=x.getD (sent h r1 x 0 o) 0/\sent h r2 y 0 o≤q
section
variable {h:Hall}{s:Srv}{r1 r2:Rule}{x y:Gn}
def Ap(A:Alk h s)(r:Rule)(g:Gn)(o:List Nat)(hk:sent h r g.l 0 o<h.ss.length) :
  (g.l.getD (sent h r g.l 0 o) 0=s.r/\g.nx h r (.come o)=⟨srt g.l,g.a+1,g.s⟩)\/(g.l.getD (sent h r g.l 0 o) 0≠s.r/\g.nx h r (.come o)=⟨srt (g.l.set (sent h r g.l 0 o) (g.l.getD (sent h r g.l 0 o) 0+1)),g.a,g.s⟩):=by
 have e:g.nx h r (.come o)=⟨srt (cz h g.l (sent h r g.l 0 o)).1,g.a+(cz h g.l (sent h r g.l 0 o)).2.ba,g.s+(cz h g.l (sent h r g.l 0 o)).2.bs⟩:=by
  show Gn.mk (srt (K.settle h _)) _ _=_;rw[A.settle];rfl
 rw[e];unfold cz;rw[A.rn hk]
 by_cases a:g.l.getD (sent h r g.l 0 o) 0=s.r
 .rw[if_pos a];exact .inl ⟨a,rfl⟩
 .rw[if_neg a];exact .inr ⟨a,rfl⟩
theorem zK(A:Alk h s)(r:Rule)(g:Gn)(k:Nat) :
  (g.l.getD k 0=0/\g.nx h r (.done k)=⟨srt g.l,g.a,g.s⟩)\/(0<g.l.getD k 0/\g.nx h r (.done k)=⟨srt (g.l.set k (g.l.getD k 0-1)),g.a,g.s+1⟩):=by
 have e:g.nx h r (.done k)=⟨srt (c8 g.l k).1,g.a+(c8 g.l k).2.ba,g.s+(c8 g.l k).2.bs⟩:=by
  show Gn.mk (srt (K.settle h _)) _ _=_;rw[A.settle];rfl
 rw[e];unfold c8
 by_cases a:g.l.getD k 0=0
 .rw[if_pos a];exact .inl ⟨a,rfl⟩
 .rw[if_neg a];exact .inr ⟨∅,rfl⟩
def yv(A:Alk h s)(r:Rule)(g:Gn):g.nx h r .still=⟨srt g.l,g.a,g.s⟩:=by
 show Gn.mk (srt (K.settle h g.l)) _ _=_;rw[A.settle];rfl
theorem GI.nx(A:Alk h s)(D:Dom h s r1 r2)(G:GI h s x y){mv:Mv}(W:mv.All h):GI h s (x.nx h r1 mv) (y.nx h r2 mv):=by
 have hlx:=G.lx.1;have hly:=G.ly.1;have F:=fall_iff.mp G.fx
 cases mv with
 |still=>
  rw[yv A,yv A,dt G.fx,dt G.fy];exact G
 | done k=>
  have hk:k<h.ss.length:=W.1;let⟨gx,K,Q,X,x3,H⟩:=BH G.fx (p:=k) ∅;let⟨gy,m,S,g,y3,e⟩:=BH G.fy (p:=k) ∅;rcases zK A r1 x k with⟨ex,J⟩|⟨ex,J⟩<;>rcases zK A r2 y k with⟨E,u⟩|⟨E,u⟩<;>rw[J,u]
  .rw[dt G.fx,dt G.fy];exact G
  .have C:=mh G.fy ∅ E m S g e;have T:=G.c;have U:=C h.ss.length;rw[if_pos ∅]at U;refine⟨b7 _,b7 _,fu G.lx,fu (k7 G.ly (by have:=ls G.ly k;omega)),λn=>?_,?_⟩
   .show P (srt x.l) n+x.a≤P (srt _) n+y.a;rw[dt G.fx];have L:=C n;have hp:=G.p n
    by_cases b:gy<n
    .rw[if_pos b]at L;have hpk:=G.p k;have zx:∀j,P x.l (k+j)=P x.l k:=by
      intro j
      induction j with
      |zero=>rfl
      |succ j ih=>
       rw[<-adf,db,ih]
       by_cases hj:k+j<x.l.length
       .have:=F k (k+j) ∅ hj;omega
       .rw[aac,adj ∅];rfl
     have e3:=zx (n-k);rw[show k+(n-k)=n by omega]at e3;have e4:=Si y.l (show k+1≤n by omega);rw[db]at e4;omega
    .rw[if_neg b]at L;omega
   .show P (srt x.l) h.ss.length+x.a+x.s=P (srt _) h.ss.length+y.a+(y.s+1);rw[dt G.fx];omega
  .have dx:=mh G.fx ∅ ex K Q X H;have T:=G.c;have U:=dx h.ss.length;rw[if_pos ∅]at U;refine⟨b7 _,b7 _,fu (k7 G.lx (by have:=ls G.lx k;omega)),fu G.ly,λn=>?_,?_⟩
   .show P (srt _) n+x.a≤P (srt y.l) n+y.a;rw[dt G.fy];have L:=dx n;have hp:=G.p n;omega
   .show P (srt _) h.ss.length+x.a+(x.s+1)=P (srt y.l) h.ss.length+y.a+y.s;rw[dt G.fy];omega
  .have dx:=mh G.fx ∅ ex K Q X H;have C:=mh G.fy ∅ E m S g e;have T:=G.c;have Y:=dx h.ss.length;have M:=C h.ss.length;rw[if_pos ∅]at Y M;refine⟨b7 _,b7 _,fu (k7 G.lx (by have:=ls G.lx k;omega)),fu (k7 G.ly (by have:=ls G.ly k;omega)),λn=>?_,?_⟩
   .show P (srt _) n+x.a≤P (srt _) n+y.a;have v:=dx n;have I:=C n;have hp:=G.p n;have key:=MN G.fx G.fy ∅ (k:=k) (gx:=gx) (gy:=gy) ∅ G.p K Q x3 m S g e n
    by_cases b:gy<n
    .rw[if_pos b]at I
     by_cases hg:gx<n
     .rw[if_pos hg]at v;omega
     .have:=key b ∅;rw[if_neg hg]at v;omega
    .rw[if_neg b]at I;omega
   .show P (srt _) h.ss.length+x.a+(x.s+1)=P (srt _) h.ss.length+y.a+(y.s+1);omega
 | come o=>
  let⟨h1,h2,q,hq,eq,t⟩:=D o x.l y.l W.1 (W.2 o rfl) G.fx G.lx G.ly;have cx:=Ap A r1 x o h1;have cy:=Ap A r2 y o h2;generalize sent h r1 x.l 0 o=p at *;generalize sent h r2 y.l 0 o=a at *;have T:=G.c;let⟨fx,K,X,x3,H⟩:=qE G.fx q ∅;let⟨fy,m,g,y3,e⟩:=qE G.fy a ∅;have N:fx≤p:=by
   rcases agb p fx with z|z
   .have:=H p z;omega
   .exact z
  have R:=xT G.fx (p:=p) (f:=fx) ∅ N ∅ (by rw[<-eq];exact H);have O:=xT G.fy (p:=a) (f:=fy) ∅ m g e;have Z:=R h.ss.length;have V:=O h.ss.length;rw[if_pos ∅]at Z V;have bx:=ls G.lx p;have by':=ls G.ly a
  rcases cx with⟨ex,J⟩|⟨ex,J⟩<;>rcases cy with⟨E,u⟩|⟨E,u⟩<;>rw[J,u]
  .refine⟨b7 _,b7 _,fu G.lx,fu G.ly,λn=>?_,?_⟩
   .show P (srt x.l) n+(x.a+1)≤P (srt y.l) n+(y.a+1);rw[dt G.fx,dt G.fy];have:=G.p n;omega
   .show P (srt x.l) _+(x.a+1)+x.s=P (srt y.l) _+(y.a+1)+y.s;rw[dt G.fx,dt G.fy];omega
  .refine⟨b7 _,b7 _,fu G.lx,fu (k7 G.ly ∅),λn=>?_,?_⟩
   .show P (srt x.l) n+(x.a+1)≤P (srt _) n+y.a;rw[dt G.fx];have w:=O n;have B:=Rf (x:=x.l) (y:=y.l) (c:=x.a) (d:=y.a) (r:=s.r) t (G.p (q+1)) (λi hi=>by
     have:=F i q hi ∅;have:=ls G.lx i;omega) (λi _=>ls G.ly i) ∅
    by_cases b:fy<n
    .rw[if_pos b]at w;have:=G.p n;omega
    .have:=B n ∅;rw[if_neg b]at w;omega
   .show P (srt x.l) _+(x.a+1)+x.s=P (srt _) _+y.a+y.s;rw[dt G.fx];omega
  .refine⟨b7 _,b7 _,fu (k7 G.lx ∅),fu G.ly,λn=>?_,?_⟩
   .show P (srt _) n+x.a≤P (srt y.l) n+(y.a+1);rw[dt G.fy,R n];have:=G.p n
    split<;>omega
   .show P (srt _) _+x.a+x.s=P (srt y.l) _+(y.a+1)+y.s;rw[dt G.fy];omega
  .refine⟨b7 _,b7 _,fu (k7 G.lx ∅),fu (k7 G.ly ∅),λn=>?_,?_⟩
   .show P (srt _) n+x.a≤P (srt _) n+y.a;rw[R n,O n];exact RF G.fx G.fy ∅ (q:=q) (a:=a) (fx:=fx) (fy:=fy) ∅ t G.p x3 m g e n
   .show P (srt _) _+x.a+x.s=P (srt _) _+y.a+y.s;omega
def gn0(h:Hall):Gn:=⟨zer h,0,0⟩
def yb(h:Hall):Fall (zer h):=by
 unfold Fall zer;exact List.pairwise_replicate.mpr (.inr (aaa _))
theorem U4:GI h s (gn0 h) (gn0 h):=by
 have L:Ln h s (zer h):=⟨by simp[zer],λx a=>by have:=(ag6.mp a).2;omega⟩;exact⟨yb h,yb h,L,L,λn=>aaa _,rfl⟩
end
theorem D6{l:List Nat}:∀{ks:List Nat}{b:Nat},l.getD (pick (bf l) b ks) 0≤l.getD b 0/\∀k∈ks,l.getD (pick (bf l) b ks) 0≤l.getD k 0
 |[],b=>⟨aaa _,λ_ h=>by cases h⟩
 | k::ks,b=>by
  simp only[pick];let⟨f,d⟩:=D6 (l:=l) (ks:=ks) (b:=if bf l k b then k else b);have e:l.getD (if bf l k b=true then k else b) 0≤l.getD b 0/\l.getD (if bf l k b=true then k else b) 0≤l.getD k 0:=by
   by_cases a:bf l k b=true
   .rw[if_pos a];have:l.getD k 0<l.getD b 0:=of_decide_eq_true a;omega
   .rw[if_neg a];have:¬l.getD k 0<l.getD b 0:=λz=>a (decide_eq_true z);omega
  refine⟨∅,λz c=>?_⟩;obtain rfl|c:=aag.mp c
  .omega
  .exact d z c
theorem uK{s:Srv}(A:Alk h s){r:Rule}(d:r.Ok h)(e:r≠.turns):Dom h s .least r:=by
 intro o x y c a F L f;have n1:=A.ok.n1;have s1:=jq (r:=.least) (t:=0) A.ok trivial (A.lines L) c (λz=>by cases z);have s2:=jq (t:=0) A.ok d (A.lines f) c (λz=>absurd z e);refine⟨s1,s2,h.ss.length-1,∅,?_,∅⟩;have a1:=(D6 (l:=x) (ks:=o) (b:=o.headD 0)).2 (h.ss.length-1) (a _ ∅);have a2:=fall_iff.mp F (sent h .least x 0 o) (h.ss.length-1) ∅ (by rw[L.1];omega);have g:x.getD (sent h .least x 0 o) 0≤x.getD (h.ss.length-1) 0:=a1;omega
theorem OZ{s:Srv}(A:Alk h s):Dom h s .two .random:=by
 intro o x y c g F L k;have s1:=jq (r:=.two) (t:=0) A.ok trivial (A.lines L) c (λz=>by cases z);have s2:=jq (r:=.random) (t:=0) A.ok trivial (A.lines k) c (λz=>by cases z);refine⟨s1,s2,?_⟩;let⟨a,os,rfl,d⟩:=c.cons
 cases os with
 |nil=>
  refine⟨a,d,?_,aaa _⟩;show x.getD a 0=x.getD (pick (bf x) a [a]) 0;rw[pick_self (oT x a)];rfl
 | cons b os=>
  have j:=c.lt b 'a';have e:sent h .two x 0 (a::b::os)=if bf x b a then b else a:=by
   show pick (bf x) a [a,b]=_;rw[pick_self (oT x a)];rfl
  rw[e];show ∃q,q<h.ss.length/\x.getD q 0=x.getD (if bf x b a=true then b else a) 0/\a≤q
  by_cases f:bf x b a=true
  .rw[if_pos f];have i:x.getD b 0<x.getD a 0:=of_decide_eq_true f;refine⟨b,j,rfl,?_⟩;rcases agb b a with z|z
   .have:=fall_iff.mp F b a ∅ (by rw[L.1];exact d);omega
   .exact z
  .rw[if_neg f];exact⟨a,d,rfl,aaa _⟩
end K
namespace K
open PySem L2 M7
def LH(ns:List Int)(p q:Int):aD:=.dict [(.str "script",.dict [(.none,.list (ns.map .int))]),(.str "turn",.int p),(.str "left",.int q)]
def TapeK(c:Nat)(t:aD):Prop:=∃(ns:List Int) (p q:Int),t=LH ns p q/\ns.length≤63/\0≤p/\p≤c/\0≤q
def TapeK.mono{c a:Nat}{t:aD}(h:TapeK c t)(hc:c≤a):TapeK a t:=by
 let⟨ns,p,q,e,b,f,g,d⟩:=h;exact⟨ns,p,q,e,b,f,∅,d⟩
def z6:SpM:=λa K=>∃ns:List Int,a=[.imm (.list (ns.map .int))]/\ns.length≤63/\∀t,TapeK 0 t->K (.newT t) []
def rF:SpM:=λb K=>∃(t:aD) (m:Int) (c:Nat),b=[.tr t,.imm (.int m)]/\TapeK c t/\c<1000000000/\0<m/\m<1099511627776/\∀(r:Int) (a:aD),0≤r->r<m->TapeK (c+1) a->K (.imm (.int r)) [[a]]
def mi:SpM:=λa K=>∃rs:List Nat,a=[.imm (.list (rs.map λ(r:Nat)=>.int (r:Int)))]/\rs.length≤4/\(∀r∈rs,r≤6)/\K (.new ((M3.allR rs).map lnD)) []
theorem uY{a:Type}(n:Nat)(x:a):(aaj n [x]).flatten=aaj n x:=by
 induction n with
 |zero=>rfl
 |succ n i=>rw[acq,ahb,i,acq];rfl
def srvK(wh:Nat)(p:Nat×Nat):Srv:=⟨p.1/p.1.gcd wh,wh/p.1.gcd wh,p.2⟩
def FJ{p wh:Nat}(a:1≤p)(f:p<1000000)(h:1≤wh)(e:wh<1000000):1≤p/p.gcd wh/\p/p.gcd wh<1000000/\1≤wh/p.gcd wh/\wh/p.gcd wh<1000000:=by
 have g:0<p.gcd wh:=afH _ h;have b:p.gcd wh≤wh:=Nat.gcd_le_right _ h;have c:p.gcd wh≤p:=Nat.gcd_le_left _ a;have d1:=Nat.div_le_self p (p.gcd wh);have d:=Nat.div_le_self wh (p.gcd wh);exact⟨Nat.div_pos c g,∅,Nat.div_pos b g,∅⟩
def zu(l:List Nat)(x:Nat):natD (l++[x])=natD l++[.int (x:Int)]:=by simp[natD]
def Jx{a:Type}(n:Nat)(x:a):(aaj n [x]).flatten=aaj n x:=by simp
def Gh(n x:Nat):aaj n (abj (x:Int))=natD (aaj n x):=by unfold natD;rw[ad5]
mutual
def Gd(b:Nat):aD->Prop
 | .none=>True
 | .bool _=>True
 | .int i=>i.natAbs≤b
 | .str x=>x.length≤b/\x.cps.all (· < 128)=true
 | .list ds=>GdA b ds
 | .tuple ds=>GdA b ds
 | .dict _=>False
def GdA(b:Nat):List aD->Prop
 |[]=>True
 |d::ds=>Gd b d/\GdA b ds
end
theorem vq{b:Nat}:∀{ds:List aD},GdA b ds↔∀d∈ds,Gd b d
 |[]=>by simp[GdA]
 |d::ds=>by simp[GdA,vq (ds:=ds)]
mutual
theorem Gd.mono{b c:Nat}(h:b≤c):∀{d:aD},Gd b d->Gd c d
 | .none,_=>trivial
 | .bool _,_=>trivial
 | .int i,g=>by simp only[Gd]at g⊢;omega
 | .str x,g=>by simp only[Gd]at g⊢;exact⟨∅,g.2⟩
 | .list ds,g=>by simp only[Gd]at g⊢;exact GdA.mono h g
 | .tuple ds,g=>by simp only[Gd]at g⊢;exact GdA.mono h g
 | .dict _,g=>by simp only[Gd]at g
theorem GdA.mono{b c:Nat}(h:b≤c):∀{ds:List aD},GdA b ds->GdA c ds
 |[],_=>trivial
 |d::ds,g=>by simp only[GdA]at g⊢;exact⟨Gd.mono h g.1,GdA.mono h g.2⟩
end
def inW(a b:Int):aD->Bool
 | .int i=>decide (a≤i)&&decide (i≤b)
 |_=>false
def isWh:aD->Bool
 | .int _=>true
 |_=>false
def tupN(n:Nat):aD->Bool
 | .tuple ds=>decide (ds.length=n)
 |_=>false
def Gm:aD->Bool
 | .tuple _=>true
 |_=>false
def Uq(d:aD):(tyR (.imm d) == "tuple")=Gm d:=by cases d<;>rfl
def OL{d:aD}(h:Gm d=false)(n:Nat):tupN n d=false:=by cases d<;>first|rfl|cases h
def gd_tup{b:Nat}{ds:List aD}:Gd b (.tuple ds)↔∀d∈ds,Gd b d:=by simp only[Gd];exact vq
end K
namespace L2
open PySem PySem.Spec PySem.W PyProof.Rows
section
variable {X:Cx}
theorem xz{K:Kd}{H:Hp}{ds:List aD}{xs:List V}(g:DenAll K H ds xs):∀p:List Nat,DenAll K H (p.map λi=>ds.getD i .none) (p.map λi=>xs.getD i .non)
 |[]=>by simp only[adB,DenAll]
 | i::p=>by
  simp only[aaq];refine⟨_,_,rfl,?_,xz g p⟩
  cases e:ds[i]? with
  |some d=>
   let⟨v,a,hd⟩:=g.get e;rw[bH e,bH a];exact hd
  |none=>
   have a:xs[i]?=none:=by rw[List.getElem?_eq_none_iff]at e⊢;rw[<-g.length];exact e
   rw[aac,aac,e,a];rfl
theorem tQ{xs:List V}{us:List Ad}(r:Vals xs us):∀p:List Nat,Vals (p.map λi=>xs.getD i .non) (p.map λi=>us.getD i .none)
 |[]=>.nil
 | i::p=>by
  rw[aaq,aaq];refine .cons ?_ (tQ r p)
  cases e:xs[i]? with
  |some x=>
   let⟨u,a,h⟩:=r.get e;rw[bH e,bH a];exact h
  |none=>
   rw[aac,aac,e,r.none_of e];rfl
end
end L2
namespace K
open PySem L2 M7
def fitD:List Nat->List aD->Bool
 |r::rs,d::ds=>inW 0 (r:Int) d&&fitD rs ds
 |[],[]=>true
 |_,_=>false
theorem yp:∀{rs:List Nat}{ds:List aD},fitD rs ds=true->ds.length=rs.length
 |[],[],_=>rfl
 |r::rs,d::ds,h=>by
  simp only[fitD,aaH]at h;rw[aau,aau,yp h.2]
 |[],_::_,h=>by cases h
 |_::_,[],h=>by cases h
theorem Bp:∀{rs:List Nat}{ds:List aD}{i r:Nat}{d:aD},fitD rs ds=true->rs[i]?=some r->ds[i]?=some d->inW 0 (r:Int) d=true
 |r::rs,d::ds,0,r',d',h,e1,e2=>by
  simp only[fitD,aaH]at h
  cases e1;cases e2;exact h.1
 |r::rs,d::ds,i+1,r',d',h,e1,e2=>by
  simp only[fitD,aaH]at h;exact Bp h.2 (by simpa using e1) (by simpa using e2)
 |[],_,_,_,_,_,e1,_=>by simp at e1
 |_::_,[],_,_,_,h,_,_=>by cases h
theorem v9:∀{rs:List Nat}{ds:List aD},ds.length=rs.length->(∀(i r:Nat) (d:aD),rs[i]?=some r->ds[i]?=some d->inW 0 (r:Int) d=true)->fitD rs ds=true
 |[],[],_,_=>rfl
 |r::rs,d::ds,hl,h=>by
  simp only[fitD,aaH];exact⟨h 0 r d rfl rfl,v9 (by simpa using hl) λi r d e a=>h (i+1) r d (by simpa using e) (by simpa using a)⟩
 |[],_::_,hl,_=>nomatch hl
 |_::_,[],hl,_=>nomatch hl
def vg(h:Hall):aD->Bool
 | .tuple ds=>fitD h.rs ds
 |_=>false
theorem Zc{n:Nat}{d:aD}(e:tupN n d=true):∃ds,d = .tuple ds/\ds.length=n:=by
 cases d with
 |tuple ds=>exact⟨ds,rfl,by simpa[tupN]using e⟩
 |_=>cases e
theorem C5(h:Hall){d:aD}(e:tupN h.ss.length d=false):vg h d=false:=by
 cases d with
 | tuple ds=>
  cases q:vg h (.tuple ds)with
  |false=>rfl
  |true=>
   have:=yp q;rw[h.rsl]at this;simp[tupN,this]at e
 |_=>rfl
def gZ(n:Nat)(os:List (List Nat)):List (List Nat):=os.flatMap λa=>((aav n).filter λl=>!a.contains l).map λl=>a++[l]
def ordK(n:Nat):Nat->List (List Nat)
 |0=>[[]]
 |k+1=>gZ n (ordK n k)
def ql{n:Nat}{os:List (List Nat)}{j:Nat}{a:List Nat}(h:os[j]?=some a):gZ n (os.take (j+1))=gZ n (os.take j)++((aav n).filter λl=>!a.contains l).map λl=>a++[l]:=by
 unfold gZ;rw[aaX,h];simp
def iq:∀n≤4,∀k≤4,(ordK n k).length≤24/\∀a∈ordK n k,a.length≤4/\∀x∈a,x≤3:=by ext K
def ja:∀n≤4,∀k≤3,∀j≤24,(gZ n ((ordK n k).take j)).length≤24:=by ext K
abbrev Pt:=List Nat×Nat
def ptD(p:Pt):aD:=stD p.1 p.2
theorem yo:∀{a b:List Nat},natD a=natD b->a=b
 |[],[],_=>rfl
 |x::a,y::b,h=>by
  simp[natD]at h;rw[show x=y by omega,yo h.2]
 |[],_::_,h=>nomatch h
 |_::_,[],h=>nomatch h
theorem Ub(p:Pt):hkD (ptD p)=true:=by
 have n:∀l:List Nat,hkA (natD l)=true:=λl=>by
  induction l with
  |nil=>rfl
  |cons x l i=>show(hkD _&&hkA (natD l))=true;rw[i];rfl
 show(hkD _&&_)=true;rw[show hkD (lnD p.1)=true from n p.1];rfl
def SF(p q:Pt):aad (ptD p) (ptD q)=decide (p=q):=by
 rw[uv _ _ (Ub p) (Ub q)];refine decide_eq_decide.mpr ⟨λh=>?_,λh=>by rw[h]⟩;have a:=by injection h
 simp at a;have b:=by have:=a.1;injection this
 exact ae7 (yo b) ∅
instance decWd:DecidableEq Wd:=λa b=>by cases a<;>cases b<;>first|exact isTrue rfl|exact isFalse (λh=>nomatch h)
def JW:SpM:=λa K=>∃h:Hall,a=[.imm h.d]/\h.Ok/\K (.new ((ordK h.ss.length h.ss.length).map lnD)) []
def JH:∀n≤4,1≤n->∀o∈ordK n n,o≠[]/\o.length≤4/\∀k∈o,k<n:=by ext K
def gu(l:List Nat):fc (natD l)=some (l.map λ(x:Nat)=>(x:Int)):=by
 have:=gh (l.map λ(x:Nat)=>(x:Int));rwa[abD]at this
theorem mF:∀l:List Nat,(l.map λ(x:Nat)=>(x:Int)).sum=(l.sum:Int)
 |[]=>rfl
 |x::l=>by rw[aaq,afI];rw[afI,mF l];rfl
theorem mz{c:Type}[DecidableEq c]:∀{l m:List c},l.Nodup->(∀x∈l,x∈m)->l.length≤m.length
 |[],_,_,_=>abB _
 | a::l,m,h,hs=>by
  rw[abb]at h;have d:=hs a aan;have i:=mz (l:=l) (m:=m.erase a) h.2 λx e=>by
   have b:x≠a:=λz=>h.1 (z▸e);exact(List.mem_erase_of_ne b).mpr (hs x (aai _ e))
  have:=List.length_erase_of_mem d;have:=List.length_pos_of_mem d;rw[aau];omega
theorem mf:∀{rs l:List Nat},M7.Fits rs l->l∈M3.allR rs
 |[],[],_=>aaf.mpr rfl
 |r::rs,x::l,h=>by
  have a:x≤r:=h.1;exact acb.mpr ⟨x,ae1.mpr ∅,aar.mpr ⟨l,mf h.2,rfl⟩⟩
 |[],_::_,h=>h.elim
 |_::_,[],h=>h.elim
end K
namespace L2
open PySem PySem.Spec PySem.W PyProof.Rows
def LtAt(A:aa8)(s:GT)(x y:Ad)(b:Bool):Prop:=
 ∀(prog:aax) (w:World) (E:Ad->GT->Prop) (Q:Ad->GT->Prop),Q (.bool b) s->wpAny (model prog w) A (richCompare .Lt x y) Q E s
def C6(A:aa8)(s:GT)(f r:Bool):List (Ad×Ad)->Prop
 |[]=>r=f
 |p::ps=>∃e,afW A s p.1 p.2 e/\((e=true->C6 A s f r ps)/\(e=false->LtAt A s p.1 p.2 r))
theorem o7(l b:Addr)(xs ys:Array Ad)(n m:Nat)(d1 d2:Option Addr)(s1 s2:Array (Option Ad))(r:Bool) :
  Meets (adn.«tuple.__lt__» ⟨[.ref l,.ref b],[]⟩)
   (λA R s=>s.heap.get? l=some {cls:=.type "tuple",dict:=d1,data:=.seq xs n,slots:=s1}/\s.heap.get? b=some {cls:=.type "tuple",dict:=d2,data:=.seq ys m,slots:=s2}/\C6 A.in1 s (decide (xs.size<ys.size)) r (xs.toList.zip ys.toList)/\R (.ok (.ret (.bool r))) s):=
 .of_wp λprog w A R s h=>by
  let⟨o,g,i,a⟩:=h;have p:=AutoSeq1.sub_tuple_tuple
  wp_walk using aeQ o,aeQ g,aex _ (λrest z d=>z.1=none/\d=s/\C6 A.in1 s (decide (xs.size<ys.size)) r rest) _
  case turn=>
   intro⟨u,v⟩ rest z d ⟨f,rfl,e,k,j,q⟩;refine gT (k prog w _ _ ?_)
   cases e with
   |true=>exact LD ⟨rfl,rfl,j rfl⟩
   |false=>
    refine gT (abH (gT (q rfl prog w _ _ ?_)))
    wp_walk
    exact⟨_,rfl,a⟩
  case fin=>
   intro⟨z,u⟩ d ⟨f,rfl,e⟩;have c:z=none:=f;subst c
   wp_walk
   refine⟨_,rfl,?_⟩;rw[e]at a;exact a
  case h=>exact⟨rfl,rfl,i⟩
mutual
def ltD:aD->aD->Bool
 | .int a,.int b=>decide (a<b)
 | .tuple xs,.tuple ys=>ltDs xs ys
 |_,_=>false
def ltDs:List aD->List aD->Bool
 |x::xs,y::ys=>if aad x y=true then ltDs xs ys else ltD x y
 |[],_::_=>true
 |_,_=>false
end
mutual
def smD:aD->aD->Bool
 | .int _,.int _=>true
 | .tuple xs,.tuple ys=>smDs xs ys
 |_,_=>false
def smDs:List aD->List aD->Bool
 |[],[]=>true
 |x::xs,y::ys=>smD x y&&smDs xs ys
 |_,_=>false
end
mutual
theorem Ef:∀{x y:aD},smD x y=true->x.canLay0=true/\y.canLay0=true
 | .int _,.int _,_=>⟨rfl,rfl⟩
 | .tuple xs,.tuple ys,h=>by
  simp only[smD]at h;have:=zO h;exact⟨this.1,this.2⟩
theorem zO:∀{xs ys:List aD},smDs xs ys=true->abx xs=true/\abx ys=true
 |[],[],_=>⟨rfl,rfl⟩
 |x::xs,y::ys,h=>by
  simp only[smDs,aaH]at h;have a:=Ef h.1;have b:=zO h.2;exact⟨by simp only[abx,a.1,b.1,Bool.and_self],by simp only[abx,a.2,b.2,Bool.and_self]⟩
end
def LtUp(k:Nat):Prop:=∀(x y:aD) (A:aa8) (s:GT) (u v:Ad) (a bs:List Addr),x.depth≤k->Reads s.heap u x a->Reads s.heap v y bs->smD x y=true->A.units+x.depth<cLine->LtAt A s u v (ltD x y)
theorem nw{k:Nat}(I:LtUp k)(A:aa8)(s:GT):∀(xs ys:List aD) (us vs:List Ad) (as bs:List Addr),aaB xs≤k->adT s.heap us xs as->adT s.heap vs ys bs->smDs xs ys=true->A.units+aaB xs<cLine->us.length=vs.length/\C6 A s false (ltDs xs ys) (us.zip vs)
 | [],ys,us,vs,as,bs,hk,r1,r2,h,hu=>by
  cases ys with
  |cons y ys=>exact absurd h (by simp only[smDs];decide)
  |nil=>
   cases r1;cases r2;exact⟨rfl,rfl⟩
 | x::xs,ys,us,vs,as,bs,hk,r1,r2,h,hu=>by
  cases ys with
  |nil=>exact absurd h (by simp only[smDs];decide)
  | cons y ys=>
   simp only[smDs,aaH]at h
   cases r1 with
   | cons a1 a2=>
    cases r2 with
    |cons b1 b2=>
     have a:max x.depth _≤k:=hk;have dp:A.units+max x.depth _<cLine:=hu;have ly:=Ef h.1;let⟨l,b⟩:=nw I A s xs ys _ _ _ _ ∅ a2 b2 h.2 ∅;refine⟨by rw[aau,aau,l],aad x y,ahu x y A s _ _ _ _ a1 b1 ly.1 ly.2 (by have:=Nat.min_le_left x.depth y.depth;omega),λe=>?_,λe=>?_⟩
     .rw[ltDs,if_pos e];exact b
     .rw[ltDs,if_neg (by rw[e];decide)];exact I x y A s _ _ _ _ ∅ a1 b1 h.1 ∅
theorem wM:∀k,LtUp k
 | 0,x,y,A,s,u,v,as,bs,hk,r1,r2,h,hu=>by
  cases x with
  | int a=>
   cases y with
   |int b=>
    cases r1;cases r2;exact λprog w E Q h=>wpAny_lt_int h
   |_=>exact absurd h (by simp only[smD];decide)
  |tuple c=>exact absurd hk (by show ¬aaB c+1≤0;contradiction)
  |_=>exact absurd h (by simp only[smD];decide)
 | k+1,x,y,A,s,u,v,as,bs,hk,r1,r2,h,hu=>by
  cases x with
  | int a=>
   cases y with
   |int b=>
    cases r1;cases r2;exact λprog w E Q h=>wpAny_lt_int h
   |_=>exact absurd h (by simp only[smD];decide)
  | tuple c=>
   cases y with
   | tuple C=>
    simp only[smD]at h
    cases r1 with
    | tuple G t B P=>
     cases r2 with
     |tuple D j r I=>
      rename_i l o vs n m K d O;let⟨L,H,q,J⟩:=o;let⟨i,f,e,g⟩:=K;dsimp only at t B j r;subst t B j r;have N:aaB c+1≤k+1:=hk;have dp:A.units+(aaB c+1)<cLine:=hu;let⟨M,lx⟩:=nw (wM k) A.in1 s c C vs.toList d.toList _ _ ∅ P I h (show A.units+1+aaB c<cLine by omega);rw[acp,acp]at M;intro prog w E Q R;refine richCompare_meets_room (op:=.Lt) ⟨_,G,rfl⟩ ⟨_,D,rfl⟩ F.slot_tuple_lt F.entry_tuple_lt (F.args_tuple_lt_2 _ _) (o7 l m vs d n O H f J g (ltDs c C)) ⟨G,D,?_,⟨(λz=>nomatch z),R⟩⟩ ∅;rw[decide_eq_false (p:=_) ∅];exact lx
   |_=>exact absurd h (by simp only[smD];decide)
  |_=>exact absurd h (by simp only[smD];decide)
end L2
namespace L2
open PySem PySem.Spec PyProof.Rows
variable{n:Nat}{T v:Addr}{b:Bool}{o:Obj}{Q:Option Ad->GT->Prop}
section
variable {prog:aax}{w:World}{A:aa8}{E:Ad->GT->Prop}{s:GT}{it d:Addr}{es:Array aca}{i ep:Nat}{ok ov:Ad}
def pk(h:aaZ)(it d:Addr)(i n ep:Nat)(k v:Ad)(T:Addr)(b:Bool):Prop:=h.get? it=some {cls:=.type "dict_itemiterator",data:=.fields #[adv T,.bool b,.ref d,.int i 0,.int n 0,.int ep 0,k,v]}
def Ur{a:Addr}{Q:Option Obj->GT->Prop}(h:Q (s.heap.get? a) s):wpAny (model prog w) A (loadIfAlive a) Q E s:=λ_ _ _=>h
theorem PC{j:Nat}{Q:Bool->GT->Prop}(h:pk s.heap it d j n ep ok ov T b)(g:s.heap.get? T=some o)
  (a:∀h',pk h' it d j n ep ok ov T true->h'.objs.size=s.heap.objs.size->(∀c o,c≠it->s.heap.get? c=some o->h'.get? c=some o)->Q false {s with heap:=h' }):wpAny (model prog w) A (abQ (.ref it)) Q E s:=by
 refine gT (abd h rfl (x:=adv T) rfl ?_);refine gT (Ur ?_);rw[show((T:Int)).toNat=T by rfl,g];refine gT (abd h rfl (x:=.bool b) rfl ?_)
 cases b with
 |true=>exact LD (a s.heap h rfl λc o _ q=>q)
 |false=>
  refine gT (aaI h 'a' λk f s1=>?_);exact LD (a k f s1.1 λc o e q=>s1.extBut c o e q)
def GZ{j:Nat}{k v:Ad}{Q:Ad->GT->Prop}(h:pk s.heap it d j n ep ok ov T b)(f:s.heap.get? T=some o)
  (g:∀h',pk h' it d j n ep ok ov T true->h'.get? s.heap.objs.size=some {cls:=.type "tuple",data:=.seq #[k,v]}->h'.objs.size=s.heap.objs.size+1 ->
   (∀c o,c≠it->s.heap.get? c=some o->h'.get? c=some o)->Q (.ref s.heap.objs.size) {s with heap:=h' }):wpAny (model prog w) A (ab3 (.ref it) 6 k v) Q E s:=by
 have lt:=aao h;have push:∀c o,s.heap.get? c=some o->(s.heap.push {cls:=.type "tuple",data:=.seq #[k,v]}).get? c=some o:=λc o q=>Io _ q;refine gT (m:=abQ _) (PC (push _ _ h) (push _ _ f) λh' a1 a2 a=>?_);refine LD (g h' a1 (a _ _ (abp lt) (aal _ rfl)) (a2.trans (abt ..)) λc o e q=>a c o e (push c o q))
theorem Gj(h:pk s.heap it d i es.size ep ok ov T b)(l:s.heap.get? T=some o)(D:T≠it)(B:EntAt s.heap d es ep)(H:i<es.size)
  (K:∀h',pk h' it d (i+1) es.size ep ok ov T true->h'.get? s.heap.objs.size=some {cls:=.type "tuple",data:=.seq #[es[i].key,es[i].val]}->h'.objs.size=s.heap.objs.size+1 ->
   (∀c o,c≠it->s.heap.get? c=some o->h'.get? c=some o)->Q (some (.ref s.heap.objs.size)) {s with heap:=h' }):wpAny (model prog w) A (acA (.ref it)) Q E s:=by
 let⟨M,k,C,f⟩:=B.ex;have e:s.TypeIs (.ref it) "dict_itemiterator":=(⟨_,h,rfl⟩);have own:abU "dict_itemiterator" = true:=by decide
 unfold acA;refine gT (acx (aaY (name:=ab1 "__next__") e aa9 (aba aa9 e ace ?_ (ab7 _))))
 wp_walk using sK e,afe h rfl,adr k f,ad0 k f,abc e
 have I:(if (i:Int)<0 then none else es[((i:Nat):Int).toNat]?)=some es[i]:=by
  rw[if_neg ∅,abh,ab8 H]
 rw[I];rcases s with⟨r,g,p,t,os⟩;refine gT ?_;refine gT (sK e (LD ?_));refine gT (m:=aff _ _) (abc e ?_);show wpAny _ _ (acX (.ref it) 3 (adv ((i:Int)+1)) >>= _) _ _ _;refine gT (aaI h 'a' λa J s1=>?_);replace s1:abl it r a:=s1;have j:pk a it d (i+1) es.size ep ok ov T b:=by
  have q:((i+1:Nat):Int)=(i:Int)+1:=rfl;unfold pk;rw[q];simpa[adv]using J
 have x:afG ⟨a,g,p,t,os⟩ (.ref it) "dict_itemiterator":=(⟨_,j,rfl⟩);refine gT (acf (gT (abc x (gT (abc x ?_)))));show wpAny _ _ (ab3 (.ref it) 6 es[i].key es[i].val) _ _ ⟨a,g,p,t,os⟩;have G:a.objs.size=r.objs.size:=s1.1;refine GZ (s:=⟨a,g,p,t,os⟩) j (s1.extBut T o D l) λL F u z k2=>?_;rw[G]at u z⊢;exact LD ⟨_,rfl,LD (K L F u z λc o y q=>k2 c o y (s1.extBut c o y q))⟩
theorem GM(u:A.handled=none)(h:pk s.heap it d i es.size ep ok ov T b)(l:EntAt s.heap d es ep)(k:es.size≤i)
  (y:∀h',(∀c o,c≠it->s.heap.get? c=some o->h'.get? c=some o)->Q none {s with heap:=h' }):wpAny (model prog w) A (acA (.ref it)) Q E s:=by
 let⟨C,g,x,f⟩:=l.ex;have a:s.TypeIs (.ref it) "dict_itemiterator":=(⟨_,h,rfl⟩);have own:abU "dict_itemiterator" = true:=by decide
 unfold acA;refine gT (acx (aaY (name:=ab1 "__next__") a aa9 (aba aa9 a ace ?_ (ab7 _))))
 wp_walk using sK a,afe h rfl,adr g f,ad0 g f,abc a
 have t:(if (i:Int)<0 then none else es[((i:Nat):Int).toNat]?)=none:=by
  rw[if_neg ∅,abh,aga k]
 rw[t];refine gT (gT (sK a (LD ?_)));refine gT (m:=acX (.ref it) 2 .none) (aaI h 'a' λD F s1=>?_);refine se u λB e k2 ⟨r,z,p⟩=>?_;exact gT (acY (T:= "StopIteration") (b:=true) ⟨r,z,p⟩ afc (LD (y B λc o j q=>k2 c o (s1.extBut c o j q))))
structure Nx(prog:aax)(w:World)(A:aa8)(S it:Addr)(n:Nat)(St:Nat->aaZ->Prop)(P:aaZ->Nat->Ad->Prop):Prop where
 item:∀(i:Nat) (s:GT) (Q:Option Ad->GT->Prop) (E:Ad->GT->Prop),i<n->St i s.heap->(∃o,s.heap.get? S=some o)->(∀h' v,St (i+1) h'->P h' i v->(∀c o,c≠it->s.heap.get? c=some o->h'.get? c=some o)->Q (some v) {s with heap:=h' })->wpAny (model prog w) A (acA (.ref it)) Q E s
 done:∀(s:GT) (Q:Option Ad->GT->Prop) (E:Ad->GT->Prop),St n s.heap->(∀h',(∀c o,c≠it->s.heap.get? c=some o->h'.get? c=some o)->Q none {s with heap:=h' })->wpAny (model prog w) A (acA (.ref it)) Q E s
 keep:∀i h h',St i h->h'.objs.size=h.objs.size->(∀c o,c≠S->h.get? c=some o->h'.get? c=some o)->St i h'
 more:∀h h' i v,P h i v->(∀c o,c≠S->c≠it->h.get? c=some o->h'.get? c=some o)->P h' i v
def o8(h:aaZ)(S:Addr)(acc:Array Ad)(c:Nat):Prop:=h.get? S=some {cls:=.type "list",data:=.seq acc c}
theorem xR{S it:Addr}{n:Nat}{St:Nat->aaZ->Prop}{P:aaZ->Nat->Ad->Prop}{R:Result->GT->Prop}{r:Ad}(N:Nx prog w A.in1 S it n St P)(ne:S≠it)(F:n≤aak):∀(k i:Nat) (s:GT) (acc:Array Ad) (c:Nat),n-i=k->i≤n->St i s.heap->o8 s.heap S acc c->acc.size=i->(∀j v,acc[j]?=some v->P s.heap j v) ->
  (∀h' a y,(∀b o,b≠it->b≠S->s.heap.get? b=some o->h'.get? b=some o)->o8 h' S a y->a.size=n->(∀j v,a[j]?=some v->P h' j v)->R (.ok (.ret r)) {s with heap:=h' })->adZ (model prog w) A (.builtin "list.extend.loop" ⟨[.ref S,.ref it,r],[]⟩) R s
 |0,i,s,acc,c,hk,hi,st,hl,ha,hp,fin=>by
  have e:i=n:=by omega
  subst e;refine add agM ((aeG adK _).symm▸?_);refine gT (m:=acA (.ref it)) (N.done s _ _ st λh' kp=>LD (fin h' acc c (λb o nb _ q=>kp b o nb q) (kp S _ ne hl) ha λj v e=>N.more _ _ _ _ (hp j v e) λc o _ f q=>kp c o f q))
 | k+1,i,s,acc,c,hk,hi,st,hl,ha,hp,fin=>by
  refine add agM ((aeG adK _).symm▸?_);refine gT (m:=acA (.ref it)) (N.item i s _ _ ∅ st ⟨_,hl⟩ λh' v t I kp=>?_);have h:o8 h' S acc c:=kp S _ ne hl;refine gT (m:=updateSeq S (·.push v)) (agk (s:={s with heap:=h' }) h rfl (LD ⟨agW adK _,?_⟩) (by rw[ha];exact aaA ‹_› ‹_›) (by show(acc.push v).size≤aak+1;rw[ahB,ha];omega));have l:∀b o,b≠S->h'.get? b=some o->(h'.update S (acE (·.push v))).get? b=some o:=λb o nb q=>(ac5 _ _ (abF nb)).trans q;have p:∀j u,(acc.push v)[j]?=some u->P (h'.update S (acE (·.push v))) j u:=λj u e=>by
   rw[Array.getElem?_push]at e
   split at e
   .rename_i z;rw[ha]at z;subst z;rw[<-aay e];exact N.more _ _ _ _ I λc o f _ q=>l c o f q
   .exact N.more _ _ _ _ (hp j u e) λc o f x q=>l c o f (kp c o x q)
  refine xR N ne F k (i+1) _ (acc.push v) _ ∅ ∅ (N.keep _ _ _ t (aey ..) l) (adh _ h rfl) (by rw[ahB,ha]) p λD g B k2 G C H=>fin D g B (λb o n1 n2 q=>k2 b o n1 n2 (l b o n2 (kp b o n1 q))) G C H
end
section
variable {prog:aax}{w:World}{A:aa8}{E:Ad->GT->Prop}{s:GT}{f d S:Addr}{g:Array aca}{i r:Nat}{ok t:Ad}
def StI(S f d:Addr)(g:Array aca)(r:Nat)(i:Nat)(h:aaZ):Prop:=EntAt h d g r/\h.objs.size=f+1+i/\((∃ok t,ac9 h f d i g.size r ok t)\/∃k v T b o,pk h f d i g.size r k v T b/\h.get? T=some o/\T≠f/\T≠S)
def PrI(S f:Addr)(g:Array aca)(h:aaZ)(i:Nat)(v:Ad):Prop:=S<f/\v = .ref (f+1+i)/\∃a:i<g.size,h.get? (f+1+i)=some {cls:=.type "tuple",data:=.seq #[g[i].key,g[i].val]}
def C7(f:Addr)(i:Nat):f+1+i≠f:=abp (aat (abz f) (acd _ i))
def Db{S f:Addr}(h:S<f)(i:Nat):f+1+i≠S:=abp (aej h (aat (abz f) (acd _ i)))
theorem Jj(G:A.handled=none)(n1:S<f)(n2:S≠d)(F:f≠d):Nx prog w A S f g.size (StI S f d g r) (PrI S f g) where
 item:=by
  intro i s Q E m ⟨j,z,c⟩ ⟨J,I⟩ B;rcases c with⟨ok,t,c⟩|⟨k,v,T,b,o,c,C,x,D⟩
  .refine DU c j m λy a1 a2 u p=>?_;rw[z]at a1 a2 u⊢;exact B y _ ⟨j.keep λo q=>p d o (abF F) q,u,.inr ⟨_,_,_,false,_,a1,a2,(C7 f i),(Db n1 i)⟩⟩ ⟨n1,rfl,m,a2⟩ p
  .refine Gj c C x j m λy a1 a2 u p=>?_;rw[z]at a2 u⊢;exact B y _ ⟨j.keep λo q=>p d o (abF F) q,u,.inr ⟨_,_,_,true,o,a1,p T o x C,x,D⟩⟩ ⟨n1,rfl,m,a2⟩ p
 done:=by
  intro s Q E ⟨j,z,c⟩ B;rcases c with⟨ok,t,c⟩|⟨k,v,T,b,o,c,_⟩
  .exact Br G c j (aaa _) B
  .exact GM G c j (aaa _) B
 keep:=by
  intro i h y ⟨j,z,c⟩ H k;refine⟨j.keep λo q=>k d o (abF n2) q,H.trans z,?_⟩;rcases c with⟨ok,t,c⟩|⟨a,v,T,b,o,c,C,x,D⟩
  .exact .inl ⟨ok,t,k f _ (abp n1) c⟩
  .exact .inr ⟨a,v,T,b,o,k f _ (abp n1) c,k T o D C,x,D⟩
 more:=by intro h y i v ⟨l,e,m,q⟩ k;exact⟨l,e,m,k _ _ (Db n1 i) (C7 f i) q⟩
def Cr{Q:Ad->GT->Prop}(e:s.heap.get? v=some {cls:=.type "dict_items",data:=.fields #[.ref d]})(j:EntAt s.heap d g r)
  (l:∀h',ac9 h' s.heap.objs.size d 0 g.size r .none .none->h'.objs.size=s.heap.objs.size+1->(∀b o,s.heap.get? b=some o->h'.get? b=some o)->Q (.ref s.heap.objs.size) {s with heap:=h' }):wpAny (model prog w) A (afZ (.ref v)) Q E s:=by
 let⟨m,a,k,h⟩:=j.ex;have c:s.TypeIs (.ref v) "dict_items":=(⟨_,e,rfl⟩);have own:abU "dict_itemiterator" = true:=by decide
 refine wpAny_pyIter_slot c aeR (aba aeR c PySem.F.entry_dict_items_iter ?_ (PySem.F.args_dict_items_iter_1 _));refine gT (LD (gT (gT (abd e rfl (x:=.ref d) rfl (LD (gT (gT (adr a h (gT (ad0 a h ?_))))))))));simp only[own,if_true];refine abf (LD ⟨_,rfl,"dict_itemiterator",_,⟨_,aal _ rfl,rfl⟩,PySem.F.slot_dict_itemiterator_next.lookup,?_⟩) (by simp only[sizeOk,adn.Dict_items.ownedTupleFields,aaG,aam,aau,aeP,aas];decide);exact l _ (aal _ rfl) (abt ..) λb o q=>Io _ q
def Ay:typeLookup (.type "dict_items") "__len__" = pure (some (.builtin "dict_items.__len__")):=by rfl
theorem yQ{Q:Bool->GT->Prop}(a:s.TypeIs (.ref v) "dict_items")(h:Q false s):wpAny (model prog w) A (acv (.ref v)) Q E s:=by
 rw[acv];refine gT (aeO a Ay ?_);have c:splitId "dict_items.__len__" = some ("dict_items","__len__"):=by ext K
 dsimp only;rw[c];dsimp only;refine gT (acY (b:=true) a (by rw[isSubtype_type];kernel_rfl) ?_);rw[if_neg ⋯];rw[if_pos (by ext K)];exact gT (ac3 a (LD h))
def W6{c:Nat}{Q:Unit->GT->Prop}(a:o8 s.heap S #[] c)(h:∀h' e,o8 h' S #[] e->h'.objs.size=s.heap.objs.size->(∀b o,b≠S->s.heap.get? b=some o->h'.get? b=some o)->Q () {s with heap:=h' }):wpAny (model prog w) A (adn.List.listTouch (.ref S)) Q E s:=by
 refine gT (agk a rfl ?_ 'a' (by trivial));have l:o8 (s.heap.update S (acE (·.push .none))) S (#[].push .none) _:=adh _ a rfl;refine agk l rfl ?_ (by show(1:Nat)≤aak;rw[aas];decide) (by trivial);have j:o8 ((s.heap.update S (acE (·.push .none))).update S (acE (·.pop))) S #[] _:=adh _ l rfl;exact h _ _ j ((aey ..).trans (aey ..)) λb o nb q=>(ac5 _ _ (abF nb)).trans ((ac5 _ _ (abF nb)).trans q)
def Js{T:String}{c:Nat}{St:Addr->Nat->aaZ->Prop}{P:Addr->aaZ->Nat->Ad->Prop}{R:Result->GT->Prop}(x:s.TypeIs (.ref v) T)(k:T = "dict_items" \/ T = "dict")(J:S≠v)(W:o8 s.heap S #[] c)(X:n≤aak)
  (h:∀(s:GT) (Q:Bool->GT->Prop) (E:Ad->GT->Prop),s.TypeIs (.ref v) T->Q false s->wpAny (model prog w) A.in1 (acv (.ref v)) Q E s)
  (a:∀(Q:Ad->GT->Prop) (E:Ad->GT->Prop),(∀h' f,f≠S->Nx prog w A.in1 S f n (St f) (P f)->St f 0 h'->(∀b o,s.heap.get? b=some o->h'.get? b=some o)->s.heap.get? f=none->Q (.ref f) {s with heap:=h' })->wpAny (model prog w) A.in1 (afZ (.ref v)) Q E s)
  (l:∀f h' (acc:Array Ad) c',(∀b o,b≠S->s.heap.get? b=some o->h'.get? b=some o)->o8 h' S acc c'->acc.size=n->(∀j u,acc[j]?=some u->P f h' j u)->R (.ok (.ret (.ref S))) {s with heap:=h' }):adZ (model prog w) A (.builtin "list.__iadd__" ⟨[.ref S,.ref v],[]⟩) R s:=by
 refine add F.entry_list_iadd ((aeG F.plain_list_iadd _).symm▸?_);show wpAny _ A.in1 (aeY (.ref S) (.ref v) (.ref S)) _ _ _;refine gT ?_;refine ac3 x ?_;have M:adU (.ref S) (.ref v)=false:=by simp[adU,J]
 rw[M,if_neg (by rcases k with rfl|rfl<;>decide)];refine gT (a _ _ λy f C N I k1 nn=>?_);have p:afG {s with heap:=y} (.ref v) T:=by
  let⟨o,O,H⟩:=x;exact⟨o,k1 _ _ O,H⟩
 refine gT (acf (h _ _ _ p ?_));dsimp only;rw[if_pos (by rcases k with rfl|rfl<;>decide)];refine gT (abH (gT (W6 (s:={s with heap:=y}) (k1 _ _ W) λZ D Y m k2=>?_)));refine LD ⟨agW adK _,xR N (abF C) X n 0 _ #[] D rfl (abB _) (N.keep _ _ _ I m k2) Y rfl (λj u e=>by simp at e) λV acc G K L U B=>l f V acc G (λb o nb q=>K b o (λz=>by rw[z,nn]at q;cases q) nb (k2 b o nb (k1 b o q))) L U B⟩
def zF{T:String}{St:Addr->Nat->aaZ->Prop}{P:Addr->aaZ->Nat->Ad->Prop}{Q:List Ad->GT->Prop}(C:s.TypeIs (.ref v) T)(B:T = "dict_items" \/ T = "dict")(I:n≤aak)
  (c:∀(s:GT) (Q:Bool->GT->Prop) (E:Ad->GT->Prop),s.TypeIs (.ref v) T->Q false s->wpAny (model prog w) A.in1 (acv (.ref v)) Q E s)
  (a:∀(s1:GT) (Q:Ad->GT->Prop) (E:Ad->GT->Prop),(∀b o,s.heap.get? b=some o->s1.heap.get? b=some o)->(∃o,s1.heap.get? s.heap.objs.size=some o)->(∀h' f,f≠s.heap.objs.size->Nx prog w A.in1 s.heap.objs.size f n (St f) (P f)->St f 0 h'->(∀b o,s1.heap.get? b=some o->h'.get? b=some o)->s1.heap.get? f=none->Q (.ref f) {s1 with heap:=h' })->wpAny (model prog w) A.in1 (afZ (.ref v)) Q E s1)
  (e:∀f h' (acc:Array Ad),(∀b o,s.heap.get? b=some o->h'.get? b=some o)->s.heap.objs.size<h'.objs.size->acc.size=n->(∀j u,acc[j]?=some u->P f h' j u)->Q acc.toList {s with heap:=h' }):wpAny (model prog w) A (collect (.ref v)) Q E s:=by
 have new:o8 _ s.heap.objs.size #[] 0:=aal _ rfl;have x:∀b o,s.heap.get? b=some o->(s.heap.push {cls:=.type "list",data:=.seq #[]}).get? b=some o:=λb o q=>Io _ q;have G:s.heap.objs.size≠v:=by
  let⟨o,q,_⟩:=C;exact abp (aao q)
 have y:afG {s with heap:=s.heap.push {cls:=.type "list",data:=.seq #[]} } (.ref v) T:=by
  let⟨o,H,D⟩:=C;exact⟨o,x _ _ H,D⟩
 refine gT (m:=runValue _) (wpAny_runValue (add F.entry_proto_collect (gT (m:=ahd []) (abf (LD ⟨agW F.plain_list_iadd _,?_⟩)))));refine Js y B G new I c (λQ E h=>a {s with heap:=s.heap.push {cls:=.type "list",data:=.seq #[]} } Q E x ⟨_,new⟩ h) λf h' acc J k l z p=>?_;refine gT (m:=load s.heap.objs.size) (wpAny_load l ?_);exact LD (e f h' acc (λb o q=>k b o (aa1 (aao q)) (x b o q)) (aao l) z p)
end
end L2
namespace L2
open PySem PySem.Spec PySem.W PyProof.Rows
variable{a arr:Array Keyed}{i j lo n:Nat}{x:Keyed}{st':abv}{Q:Array Keyed->abv->Prop}{vs:List Ad}{ds:List aD}{B b:Addr}{g:Nat->HO}{kvs:List (aD×aD)}{es:List (V×V)}{o:Expr}{apos cpos p0 pos:Pos}
def gal:=sortPriv% PySem.Builtin.gallop
abbrev pK(a:Array Keyed)(i:Nat):Keyed:=a.getD i (.none,.none)
theorem vN(h:i<a.size):a[i]?=some (pK a i):=by simp_all
def X6(h:i<a.size):a.toList.drop i=pK a i::a.toList.drop (i+1):=by
 rw[adG (by simpa using h)];simp[h]
def OrcW(prog:aax)(w:World)(A:aa8)(s:GT)(d:afT)(c:List Keyed):Prop:=∀x∈c,∀y∈c,∀C:Bool->GT->Prop,(∀b,C b s)->wpAny (model prog w) A (keyLt' d x.1 y.1) C (λ_ _=>False) s
def setG(st:abv)(m:Nat):abv:=afh (kindOf st) (arrOf st) (aaK st) m (afi st)
def sMG:=sortPriv% PySem.Builtin.setMinGallop
def mLo:=sortPriv% PySem.Builtin.mergeLo
def mHi:=sortPriv% PySem.Builtin.mergeHi
section
variable {prog:aax}{w:World}{A:aa8}{E:Ad->GT->Prop}{s:GT}{g β:Type}{Q:β->abv->Prop}{st:abv}
def bM{c:Prop}[Decidable c]{p q:StateT abv Sem β}(h:c->wpS (model prog w) A E s p Q st)(d:¬c->wpS (model prog w) A E s q Q st):wpS (model prog w) A E s (if c then p else q) Q st:=by
 by_cases z:c
 .rw[if_pos z];exact h z
 .rw[if_neg z];exact d z
def d7{f:Keyed->StateT abv Sem β}(c:i<arr.size)(h:wpS (model prog w) A E s (f (pK arr i)) Q st):wpS (model prog w) A E s (elem' arr i >>= f) Q st:=by
 rw[elem'_eq,vN c];exact aaF (aaL h)
def yg{m c:Nat}{f:Unit->StateT abv Sem β}(h:wpS (model prog w) A E s (f ()) Q (setG st c)):wpS (model prog w) A E s (sMG c >>= f) Q (setG st m):=aaF (aez h)
def Ir{M:Model}{A:aa8}{E:Ad->GT->Prop}{s:GT}{c:Type}{x:c}{Q:PUnit->c->Prop}{st:c}(h:Q ⟨⟩ x):wpS M A E s (set x:StateT c Sem PUnit) Q st:=by
 unfold wpS;rw[StateT.run_set];exact LD ⟨rfl,h⟩
variable {e:afT}{d:List Keyed} (O:OrcW prog w A s e d)
include O
theorem AG{y:Keyed}{Q:Option Bool->abv->Prop}(hk:kindOf st=e)(c:x∈d)(f:y∈d)(h:∀b,Q (some b) st):wpS (model prog w) A E s (lt' x y) Q st:=by
 rw[lt'_eq];refine aaF (aeZ ?_);rw[hk];refine aaF (afU (acx (ab9 (O x c y f _ λb=>?_) (λ_ _ q=>q) λ_ _ q=>q.elim)));exact⟨rfl,aaL (h b)⟩
theorem Pc{y:Keyed}{f:Option Bool->StateT abv Sem β}(hk:kindOf st=e)(c:x∈d)(k:y∈d)(h:∀b,wpS (model prog w) A E s (f (some b)) Q st):wpS (model prog w) A E s (lt' x y >>= f) Q st:=aaF (AG O hk c k h)
theorem qv{left:Bool}{key:Keyed}{base p:Nat}{f:Option Nat->StateT abv Sem β}(hk:kindOf st=e)(u:key∈d)(H:p<n)(J:base+n≤arr.size)(G:∀x∈arr.toList,x∈d)(h:∀k,k≤n->wpS (model prog w) A E s (f (some k)) Q st):wpS (model prog w) A E s (gal left key arr base n p >>= f) Q st:=by
 have B:∀i,i<n->∀(v:Option Bool->abv->Prop),(∀b,v (some b) st)->wpS (model prog w) A E s (elem' arr (base+i) >>= λx=>if left=true then lt' x key else lt' key x >>= λr=>pure (r.map λx=>!x)) v st:=λi t v q=>by
  have m:=G _ (aeC.mpr (ags (vN (a:=arr) (i:=base+i) ∅)));refine d7 ∅ ?_
  cases left with
  |true=>exact AG O hk m u q
  |false=>exact Pc O hk u m λb=>aaL (q !b)
 apply aaF;apply aaF;refine B p H _ λb=>?_;dsimp only;cases b
 case' false=>
  rw[if_neg ⋯];refine aaF (ab4 (aby (I:=λi c st'=>st=st'/\∃l o,c=(none,l,o)/\l≤p/\l<o) (Q:=λc st'=>st=st'/\∃l o,c=(none,l,o)/\l≤p/\l<o) ?_ (λ_ _ q=>q) ⟨rfl,0,1,rfl,∅,∅⟩) ?_)
 case' true=>
  rw[if_pos rfl];refine aaF (ab4 (aby (I:=λi c st'=>st=st'/\∃l o,c=(none,l,o)/\p+l<n/\l<o) (Q:=λc st'=>st=st'/\∃l o,c=(none,l,o)/\p+l<n/\l<o) ?_ (λ_ _ q=>q) ⟨rfl,0,1,rfl,∅,∅⟩) ?_)
 any_goals
  intro i c st' _ t ⟨rfl,l,o,rfl,C,F⟩;dsimp only;refine bM (λz=>aaL ⟨rfl,l,o,rfl,C,F⟩) λz=>?_;apply aaF;refine B _ ∅ _ λb=>?_
  cases b<;>exact aaL ⟨rfl,_,_,rfl,∅,∅⟩
 all_goals
  intro c st' ⟨rfl,l,o,rfl,C,F⟩;dsimp only;refine aaF (ab4 (aby (I:=λi c st'=>st=st'/\∃lo t,c=(none,lo,t)/\lo≤t/\t≤n) (Q:=λc st'=>st=st'/\∃lo t,c=(none,lo,t)/\lo≤t/\t≤n) ?_ (λ_ _ q=>q) ⟨rfl,_,_,rfl,∅,∅⟩) ?_)
  .rintro i c st' _ t ⟨rfl,lo,hi',rfl,D,y⟩;dsimp only;refine bM (λz=>aaL ⟨rfl,_,_,rfl,D,y⟩) λz=>?_;apply aaF;refine B _ ∅ _ λb=>?_;cases b
   .exact aaL ⟨rfl,_,_,rfl,∅,∅⟩
   .exact aaL ⟨rfl,_,_,rfl,∅,∅⟩
  intro c st' ⟨rfl,lo,t,rfl,D,y⟩;exact aaL (h _ ∅)
end
def Mg(tot out r c:List Keyed):Prop:=(out++(r++c)).Perm tot
section
variable {tot out r a xs:List Keyed}
def Mg.sym(h:Mg tot out r a):Mg tot out a r:=(List.perm_append_comm.append_left _).trans h
def Mg.app(h:Mg tot out (xs++r) a):Mg tot (out++xs) r a:=by
 unfold Mg at h⊢;simpa only[aaW]using h
end
def memK(h:i<a.size):pK a i∈a.toList:=aeC.mpr (ags (vN h))
abbrev ta(a:Array Keyed)(n:Nat):List Keyed:=(a.toList.take n).reverse
section
variable {a b out:Array Keyed}{c d k:Nat}{tot r:List Keyed}
def Mg.push(h:Mg tot out.toList (a.toList.drop c) r)(e:c<a.size):Mg tot (out.push (pK a c)).toList (a.toList.drop (c+1)) r:=by
 rw[X6 e]at h;rw[aen];exact Mg.app (xs:=[_]) h
def Mg.ext(h:Mg tot out.toList (a.toList.drop c) r):Mg tot (out++a.extract c (c+k)).toList (a.toList.drop (c+k)) r:=by
 rw[acU,show(a.extract c (c+k)).toList=(a.toList.drop c).take k by simp];refine Mg.app ?_;rw[<-List.drop_drop,adk];exact h
theorem Mg.done(h:Mg tot out.toList (a.toList.drop c) (b.toList.drop d)):(out++a.extract c a.size++b.extract d b.size).toList.Perm tot:=by
 have e:∀(a:Array Keyed) i,(a.extract i a.size).toList=a.toList.drop i:=λa i=>by simp[acu]
 rw[acU,acU,e,e,aaW];exact h
def Mg.pushH(h:Mg tot out.toList (ta a (c+1)) r)(f:c<a.size):Mg tot (out.push (pK a c)).toList (ta a c) r:=by
 have e:ta a (c+1)=pK a c::ta a c:=by
  show(agH (c+1) a.toList).reverse=_;rw[List.take_succ_eq_append_getElem (by simpa using f),agN];simp[f]
 rw[e]at h;rw[aen];exact Mg.app (xs:=[_]) h
theorem Mg.extH(h:Mg tot out.toList (ta a c) r)(hk:k≤c):Mg tot (out++(a.extract k c).reverse).toList (ta a k) r:=by
 have e:ta a c=(a.extract k c).reverse.toList++ta a k:=by
  rw[Array.toList_reverse,<-agN,aeH];show _=(agH k _++agH (c-k) _).reverse;rw[<-List.take_add,show k+(c-k)=c by omega]
 rw[acU];rw[e]at h;exact Mg.app h
def Mg.doneH(h:Mg tot out.toList (ta a c) (ta b d)):(a.extract 0 c++b.extract 0 d++out.reverse).toList.Perm tot:=by
 have:=(afw _).trans h.sym;simpa using this
end
structure Two(prog:aax)(w:World)(A:aa8)(s:GT)(κ:afT)(it:List Keyed)(a b:Array Keyed)(st:abv):Prop where
 o:OrcW prog w A s κ it
 ma:∀x∈a.toList,x∈it
 mb:∀x∈b.toList,x∈it
 hk:kindOf st=κ
def SJ{τ:Type}(st:abv)(P:τ->Prop)(c:Option (Array Keyed)×τ)(st':abv):Prop:=c.1=none/\(∃m,st'=setG st m)/\P c.2
def SK{τ:Type}(tot:List Keyed)(st:abv)(P:τ->Prop)(c:Option (Array Keyed)×τ)(st':abv):Prop:=(∃m,st'=setG st m)/\((c.1=none/\P c.2)\/∃x,c.1=some x/\x.toList.Perm tot)
def SO{τ:Type}(tot:List Keyed)(st:abv)(P d:τ->Prop)(r:ForInStep (Option (Array Keyed)×τ))(st':abv):Prop:=∃c,(r = .done c/\SK tot st P c st')\/(r = .yield c/\SJ st d c st')
section
variable {prog:aax}{w:World}{A:aa8}{E:Ad->GT->Prop}{s:GT}{τ t:Type}{tot:List Keyed}{st:abv}{P l:τ->Prop}{c:τ}{m:Nat}
def de{x:Array Keyed}(h:x.toList.Perm tot):wpS (model prog w) A E s (pure (.done (some x,c))) (SO tot st P l) (setG st m):=aaL ⟨_,.inl ⟨rfl,⟨m,rfl⟩,.inr ⟨x,rfl,h⟩⟩⟩
def kG(h:P c):wpS (model prog w) A E s (pure (.done (none,c))) (SO tot st P l) (setG st m):=aaL ⟨_,.inl ⟨rfl,⟨m,rfl⟩,.inl ⟨rfl,h⟩⟩⟩
def zp(h:l c):wpS (model prog w) A E s (pure (.yield (none,c))) (SO tot st P l) (setG st m):=aaL ⟨_,.inr ⟨rfl,rfl,⟨m,rfl⟩,h⟩⟩
def Lp(tot:List Keyed)(a b:Array Keyed)(N:Nat)(c:Array Keyed×Nat×Nat×t):Prop:=Mg tot c.1.toList (a.toList.drop c.2.1) (b.toList.drop c.2.2.1)/\c.2.1+1<a.size/\c.2.2.1<b.size/\N≤c.2.1+c.2.2.1
def Hq(tot:List Keyed)(a b:Array Keyed)(N:Nat)(c:Nat×Nat×Array Keyed×t):Prop:=Mg tot c.2.2.1.toList (ta a c.1) (ta b c.2.1)/\0<c.1/\1<c.2.1/\c.1≤a.size/\c.2.1≤b.size/\N+c.1+c.2.1≤a.size+b.size
abbrev MgS:=Option (Array Keyed)×Array Keyed×Nat×Nat×Nat×Nat×Nat
def lo2(a b out:Array Keyed)(f g n x y:Nat):StateT abv Sem (ForInStep MgS):=do
 let v <- elem' a f
 if (f+1+1==a.size)=true then pure (.done (some (out.push v++b.extract g b.size++a.extract (f+1) a.size),out.push v,f+1,g,n,x,y))
 else if (decide (x<7)&&decide (y<7))=true then pure (.done (none,out.push v,f+1,g,n,x,y))
 else pure (.yield (none,out.push v,f+1,g,n,x,y))
def lo1(a b out:Array Keyed)(f g n x y:Nat):StateT abv Sem (ForInStep MgS):=do
 let v <- elem' b g
 if (g+1==b.size)=true then pure (.done (some (out.push v++a.extract f a.size++b.extract (g+1) b.size),out.push v,f,g+1,n,x,y))
 else do
  let u <- elem' a f
  let some k <- gal true u b (g+1) (b.size-(g+1)) 0|return .done (some (out.push v++a.extract f a.size++b.extract (g+1) b.size),out.push v,f,g+1,n,x,y)
  if k>0 then
   if (g+1+k==b.size)=true then pure (.done (some (out.push v++b.extract (g+1) (g+1+k)++a.extract f a.size++b.extract (g+1+k) b.size),out.push v++b.extract (g+1) (g+1+k),f,g+1+k,n,x,k))
   else lo2 a b (out.push v++b.extract (g+1) (g+1+k)) f (g+1+k) n x k
  else lo2 a b (out.push v) f (g+1) n x k
def loI(a b out:Array Keyed)(f g n x y:Nat):StateT abv Sem (ForInStep (Option (Array Keyed)×Array Keyed×Nat×Nat×Nat×Nat)):=do
 let u <- elem' b g
 let v <- elem' a f
 let some z <- lt' u v|return .done (some (out++a.extract f a.size++b.extract g b.size),out,f,g,x,y)
 if z=true then do
  let v <- elem' b g
  if (g+1==b.size)=true then pure (.done (some (out.push v++a.extract f a.size++b.extract (g+1) b.size),out.push v,f,g+1,0,y+1))
  else if y+1≥n then pure (.done (none,out.push v,f,g+1,0,y+1))
  else pure (.yield (none,out.push v,f,g+1,0,y+1))
 else do
  let v <- elem' a f
  if (f+1+1==a.size)=true then pure (.done (some (out.push v++b.extract g b.size++a.extract (f+1) a.size),out.push v,f+1,g,x+1,0))
  else if x+1≥n then pure (.done (none,out.push v,f+1,g,x+1,0))
  else pure (.yield (none,out.push v,f+1,g,x+1,0))
def lo0(a b out:Array Keyed)(f g n x y:Nat):StateT abv Sem (ForInStep MgS):=do
 sMG n
 let u <- elem' b g
 let some k <- gal false u a f (a.size-f) 0|return .done (some (out++a.extract f a.size++b.extract g b.size),out,f,g,n,x,y)
 if k>0 then
  if (f+k+1==a.size)=true then pure (.done (some (out++a.extract f (f+k)++b.extract g b.size++a.extract (f+k) a.size),out++a.extract f (f+k),f+k,g,n,k,y))
  else if (f+k==a.size)=true then pure (.done (some (out++a.extract f (f+k)++a.extract (f+k) a.size++b.extract g b.size),out++a.extract f (f+k),f+k,g,n,k,y))
  else lo1 a b (out++a.extract f (f+k)) (f+k) g n k y
 else lo1 a b out f g n k y
variable {a b out:Array Keyed}{f g n x y N:Nat}
theorem Fg(M:Mg tot out.toList (a.toList.drop f) (b.toList.drop g))(p:f+1<a.size)(q:g<b.size)(h:N≤f+g):wpS (model prog w) A E s (lo2 a b out f g n x y) (SO tot st (Lp tot a b N) (Lp tot a b N)) (setG st m):=by
 have p0:f<a.size:=aeo p;have d:=M.push p0;refine d7 p0 (bM (λz=>de d.sym.done) λz=>?_);simp only[beq_iff_eq]at z;exact bM (λ_=>kG ⟨d,by show f+1+1<_;omega,q,by show N≤f+1+g;omega⟩) λ_=>zp ⟨d,by show f+1+1<_;omega,q,by show N≤f+1+g;omega⟩
variable {o:afT}{p:List Keyed}
theorem Di(T:Two prog w A s o p a b st)(M:Mg tot out.toList (a.toList.drop f) (b.toList.drop g))(e:f+1<a.size)(q:g<b.size)(r:N≤f+g):wpS (model prog w) A E s (lo1 a b out f g n x y) (SO tot st (Lp tot a b N) (Lp tot a b N)) (setG st m):=by
 have p0:f<a.size:=aeo e;have d:=(M.sym.push q).sym;refine d7 q (bM (λz=>de d.done) λz=>?_);simp only[beq_iff_eq]at z;refine d7 p0 (qv T.o T.hk (T.ma _ (memK p0)) ∅ ∅ T.mb λk k1=>bM (λc=>?_) λc=>Fg d e ∅ ∅);have h:=(d.sym.ext (k:=k)).sym;refine bM (λz=>de h.done) λz=>Fg h e ?_ ∅;simp only[beq_iff_eq]at z;omega
theorem Mi(T:Two prog w A s o p a b st){c:Array Keyed×Nat×Nat×Nat×Nat}(J:SJ st (Lp tot a b (N+j)) (none,c) st'):wpS (model prog w) A E s (loI a b c.1 c.2.1 c.2.2.1 n c.2.2.2.1 c.2.2.2.2) (SO tot st (Lp tot a b (N+1)) (Lp tot a b (N+(j+1)))) st':=by
 let⟨out,f,g,x,y⟩:=c;let⟨_,⟨m,rfl⟩,M,h,d,k⟩:=J;dsimp only at M h d k;have p0:f<a.size:=aeo h;refine d7 d (d7 p0 (Pc T.o T.hk (T.mb _ (memK d)) (T.ma _ (memK p0)) λe=>?_));cases e
 .have M':=M.push p0;refine d7 p0 (bM (λz=>de M'.sym.done) λz=>?_);simp only[beq_iff_eq]at z;exact bM (λ_=>kG ⟨M',by show f+1+1<_;omega,d,by show N+1≤f+1+g;omega⟩) λ_=>zp ⟨M',by show f+1+1<_;omega,d,by show N+(j+1)≤f+1+g;omega⟩
 .have M':=(M.sym.push d).sym;refine d7 d (bM (λz=>de M'.done) λz=>?_);simp only[beq_iff_eq]at z;exact bM (λ_=>kG ⟨M',h,by show g+1<_;omega,by show N+1≤f+(g+1);omega⟩) λ_=>zp ⟨M',h,by show g+1<_;omega,by show N+(j+1)≤f+(g+1);omega⟩
theorem Qw(T:Two prog w A s o p a b st){c:Array Keyed×Nat×Nat×Nat×Nat×Nat}{v:Nat}{d:Prop}[Decidable d](J:SJ st (Lp tot a b N) (none,c) st'):wpS (model prog w) A E s (if d then lo0 a b c.1 c.2.1 c.2.2.1 n c.2.2.2.2.1 c.2.2.2.2.2 else lo0 a b c.1 c.2.1 c.2.2.1 v c.2.2.2.2.1 c.2.2.2.2.2) (SO tot st (Lp tot a b N) (Lp tot a b N)) st':=by
 let⟨out,f,g,C,x,y⟩:=c;let⟨_,⟨m,rfl⟩,M,h,e,r⟩:=J;dsimp only at M h e r;have p0:f<a.size:=aeo h;dsimp only;refine bM (λ_=>?_) λ_=>?_
 all_goals
  refine yg (d7 e (qv T.o T.hk (T.mb _ (memK e)) ∅ ∅ T.ma λk k1=>bM (λc=>?_) λc=>Di T M h e r));have q:=M.ext (k:=k);refine bM (λz=>de q.sym.done) λz=>bM (λu=>de q.done) λu=>?_;simp only[beq_iff_eq]at z u;exact Di T q ∅ e ∅
theorem Ul(T:Two prog w A s o p a b st)(M:Mg tot [] a.toList b.toList)(C:0<a.size)(u:0<b.size)(h:∀r m,r.toList.Perm tot->Q r (setG st m)):wpS (model prog w) A E s (mLo a b) Q st:=by
 have v:Mg tot (#[]:Array Keyed).toList (a.toList.drop 0) (b.toList.drop 0):=M;have d:=(v.sym.push u).sym;apply aaF;refine afU (abH ⟨rfl,?_⟩);dsimp only;refine d7 u ?_;refine bM (λz=>aaL (h _ (agB st) d.done)) λz=>bM (λk=>aaL (h _ (agB st) d.sym.done)) λk=>?_;simp only[beq_iff_eq]at z k;refine aaF (aeZ (aaF (ab4 (aby (I:=λi c st'=>SJ st (Lp tot a b (i+1)) c st') (Q:=λc st'=>(∃m,st'=setG st m)/\∃r,c.fst=some r/\r.toList.Perm tot) (λi c st' _ _ J=>?_) (λc st' J=>by have:=J.2.2.2;omega) ⟨rfl,⟨agB st,rfl⟩,d,show 0+1<a.size by omega,show 1<b.size by omega,aaa 1⟩) λc st' J=>?_)))
 rotate_left
 .obtain⟨⟨m,rfl⟩,r,e,R⟩:=J;rw[e];exact aaL (h _ _ R)
 refine aaF (ab4 (aby (I:=λj c st'=>SJ st (Lp tot a b (i+1+j)) c st') (Q:=SK tot st (Lp tot a b (i+1+1))) (λj c st' _ _ J=>ab4 (Mi T ⟨rfl,J.2⟩) λr st' h=>by obtain⟨c,⟨rfl,h⟩|⟨rfl,h⟩⟩:=h<;>exact h) (λc st' J=>⟨J.2.1,.inl ⟨J.1,J.2.2.1,J.2.2.2.1,J.2.2.2.2.1,by have:=J.2.2.2;omega⟩⟩) ⟨rfl,J.2⟩) λc st' J=>J.2.elim (λq=>?_) λq=>?_)
 rotate_left
 .obtain⟨r,e,R⟩:=q;rw[e];exact aaL ⟨J.1,_,rfl,R⟩
 rw[q.1];apply aaF;refine afU (abH ⟨rfl,?_⟩);refine aaF (ab4 (aby (I:=λ_ c st'=>SJ st (Lp tot a b (i+1+1)) c st') (Q:=SK tot st (Lp tot a b (i+1+1))) (λj c st' _ _ J=>ab4 (Qw T ⟨rfl,J.2⟩) λr st' h=>by obtain⟨c,⟨rfl,h⟩|⟨rfl,h⟩⟩:=h<;>exact h) (λc st' J=>⟨J.2.1,.inl ⟨J.1,J.2.2⟩⟩) ⟨rfl,J.1,q.2⟩) λc st' J=>J.2.elim (λq=>?_) λq=>?_)
 rotate_left
 .obtain⟨r,e,R⟩:=q;rw[e];exact aaL ⟨J.1,_,rfl,R⟩
 rw[q.1];let⟨⟨m,rfl⟩,_⟩:=J;exact yg (aaL ⟨rfl,⟨_,rfl⟩,q.2⟩)
end
abbrev MhS:=Option (Array Keyed)×Nat×Nat×Array Keyed×Nat×Nat×Nat
def hi2(a b out:Array Keyed)(c nb n x y:Nat):StateT abv Sem (ForInStep MhS):=do
 let v <- elem' a (c-1)
 if (c-1==0)=true then pure (.done (some (a.extract 0 (c-1)++b.extract 0 nb++(out.push v).reverse),c-1,nb,out.push v,n,x,y))
 else if (decide (x<7)&&decide (y<7))=true then pure (.done (none,c-1,nb,out.push v,n,x,y))
 else pure (.yield (none,c-1,nb,out.push v,n,x,y))
def hi1(a b out:Array Keyed)(c nb n x y:Nat):StateT abv Sem (ForInStep MhS):=do
 let v <- elem' b (nb-1)
 if (nb-1==1)=true then pure (.done (some (b.extract 0 (nb-1)++a.extract 0 c++(out.push v).reverse),c,nb-1,out.push v,n,x,y))
 else do
  let u <- elem' a (c-1)
  let some k <- gal true u b 0 (nb-1) (nb-1-1)|return .done (some (a.extract 0 c++b.extract 0 (nb-1)++(out.push v).reverse),c,nb-1,out.push v,n,x,y)
  if nb-1-k>0 then
   if (k==1)=true then pure (.done (some (b.extract 0 k++a.extract 0 c++(out.push v++(b.extract k (nb-1)).reverse).reverse),c,k,out.push v++(b.extract k (nb-1)).reverse,n,x,nb-1-k))
   else if (k==0)=true then pure (.done (some (a.extract 0 c++b.extract 0 k++(out.push v++(b.extract k (nb-1)).reverse).reverse),c,k,out.push v++(b.extract k (nb-1)).reverse,n,x,nb-1-k))
   else hi2 a b (out.push v++(b.extract k (nb-1)).reverse) c k n x (nb-1-k)
  else hi2 a b (out.push v) c (nb-1) n x (nb-1-k)
def hiI(a b out:Array Keyed)(c nb n x y:Nat):StateT abv Sem (ForInStep (Option (Array Keyed)×Nat×Nat×Array Keyed×Nat×Nat)):=do
 let u <- elem' b (nb-1)
 let v <- elem' a (c-1)
 let some z <- lt' u v|return .done (some (a.extract 0 c++b.extract 0 nb++out.reverse),c,nb,out,x,y)
 if z=true then do
  let v <- elem' a (c-1)
  if (c-1==0)=true then pure (.done (some (a.extract 0 (c-1)++b.extract 0 nb++(out.push v).reverse),c-1,nb,out.push v,x+1,0))
  else if x+1≥n then pure (.done (none,c-1,nb,out.push v,x+1,0))
  else pure (.yield (none,c-1,nb,out.push v,x+1,0))
 else do
  let v <- elem' b (nb-1)
  if (nb-1==1)=true then pure (.done (some (b.extract 0 (nb-1)++a.extract 0 c++(out.push v).reverse),c,nb-1,out.push v,0,y+1))
  else if y+1≥n then pure (.done (none,c,nb-1,out.push v,0,y+1))
  else pure (.yield (none,c,nb-1,out.push v,0,y+1))
def hi0(a b out:Array Keyed)(c nb n x y:Nat):StateT abv Sem (ForInStep MhS):=do
 sMG n
 let u <- elem' b (nb-1)
 let some k <- gal false u a 0 c (c-1)|return .done (some (a.extract 0 c++b.extract 0 nb++out.reverse),c,nb,out,n,x,y)
 if c-k>0 then
  if (k==0)=true then pure (.done (some (a.extract 0 k++b.extract 0 nb++(out++(a.extract k c).reverse).reverse),k,nb,out++(a.extract k c).reverse,n,c-k,y))
  else hi1 a b (out++(a.extract k c).reverse) k nb n (c-k) y
 else hi1 a b out c nb n (c-k) y
section
variable {prog:aax}{w:World}{A:aa8}{E:Ad->GT->Prop}{s:GT}{tot:List Keyed}{st:abv}{m:Nat}{a b out:Array Keyed}{f nb n x y N:Nat}
theorem Ci(M:Mg tot out.toList (ta a (f+1)) (ta b nb))(p:f<a.size)(q:1<nb)(d:nb≤b.size)(h:N+f+nb≤a.size+b.size):wpS (model prog w) A E s (hi2 a b out (f+1) nb n x y) (SO tot st (Hq tot a b N) (Hq tot a b N)) (setG st m):=by
 have c:=M.pushH p;refine d7 p (bM (λz=>de c.doneH) λz=>?_);have e:0<f:=by simp only[beq_iff_eq]at z;omega
 exact bM (λ_=>kG ⟨c,e,q,abR p,d,h⟩) λ_=>zp ⟨c,e,q,abR p,d,h⟩
variable {g:afT}{l:List Keyed}
theorem Cg(T:Two prog w A s g l a b st)(M:Mg tot out.toList (ta a (f+1)) (ta b (nb+1)))(p:f<a.size)(r:nb<b.size)(v:0<nb)(D:N+f+nb≤a.size+b.size):wpS (model prog w) A E s (hi1 a b out (f+1) (nb+1) n x y) (SO tot st (Hq tot a b N) (Hq tot a b N)) (setG st m):=by
 have d:=(M.sym.pushH r).sym;refine d7 r (bM (λz=>de d.sym.doneH) λz=>?_);have q:1<nb:=by
  have t:¬(nb==1)=true:=z;simp only[beq_iff_eq]at t;omega
 refine d7 p (qv T.o T.hk (T.ma _ (memK p)) ∅ ∅ T.mb λk k1=>bM (λc=>?_) λc=>?_)
 .have M3:=(d.sym.extH (k:=k) k1).sym;refine bM (λz=>de M3.sym.doneH) λz=>bM (λh=>de M3.doneH) λh=>Ci M3 p ?_ ∅ ∅;simp only[beq_iff_eq]at z h;omega
 .have e:k=nb:=by
   have C:¬nb-k>0:=c;have u:k≤nb:=k1;omega
  subst e;exact Ci d p q ∅ ∅
theorem Mf(T:Two prog w A s g l a b st){c:Nat×Nat×Array Keyed×Nat×Nat}(J:SJ st (Hq tot a b (N+j)) (none,c) st'):wpS (model prog w) A E s (hiI a b c.2.2.1 c.1 c.2.1 n c.2.2.2.1 c.2.2.2.2) (SO tot st (Hq tot a b (N+1)) (Hq tot a b (N+(j+1)))) st':=by
 let⟨u,t,out,x,y⟩:=c;let⟨_,⟨m,rfl⟩,M,k,r,p,d,v⟩:=J;dsimp only at M k r p d v;let⟨f,rfl⟩:∃n,u=n+1:=⟨u-1,∅⟩;let⟨nb,rfl⟩:∃n,t=n+1:=⟨t-1,∅⟩;refine d7 (i:=nb) d (d7 (i:=f) p (Pc T.o T.hk (T.mb _ (memK d)) (T.ma _ (memK p)) λe=>?_));cases e
 .have M':=(M.sym.pushH d).sym;refine d7 (i:=nb) d (bM (λz=>de M'.sym.doneH) λz=>?_);have q:1<nb:=by
   have h:¬(nb==1)=true:=z;simp only[beq_iff_eq]at h;omega
  exact bM (λ_=>kG ⟨M',k,q,p,abR d,show N+1+(f+1)+nb≤_ by omega⟩) λ_=>zp ⟨M',k,q,p,abR d,show N+(j+1)+(f+1)+nb≤_ by omega⟩
 .have M':=M.pushH p;refine d7 (i:=f) p (bM (λz=>de M'.doneH) λz=>?_);have q:0<f:=by
   have h:¬(f==0)=true:=z;simp only[beq_iff_eq]at h;omega
  exact bM (λ_=>kG ⟨M',q,r,abR p,d,show N+1+f+(nb+1)≤_ by omega⟩) λ_=>zp ⟨M',q,r,abR p,d,show N+(j+1)+f+(nb+1)≤_ by omega⟩
theorem QZ(T:Two prog w A s g l a b st){c:Nat×Nat×Array Keyed×Nat×Nat×Nat}{v:Nat}{d:Prop}[Decidable d](J:SJ st (Hq tot a b N) (none,c) st'):wpS (model prog w) A E s (if d then hi0 a b c.2.2.1 c.1 c.2.1 n c.2.2.2.2.1 c.2.2.2.2.2 else hi0 a b c.2.2.1 c.1 c.2.1 v c.2.2.2.2.1 c.2.2.2.2.2) (SO tot st (Hq tot a b N) (Hq tot a b N)) st':=by
 let⟨q,h,out,D,x,y⟩:=c;let⟨_,⟨m,rfl⟩,M,t,C,r,p,u⟩:=J;dsimp only at M t C r p u;let⟨f,rfl⟩:∃n,q=n+1:=⟨q-1,∅⟩;let⟨nb,rfl⟩:∃n,h=n+1:=⟨h-1,∅⟩;dsimp only;refine bM (λ_=>?_) λ_=>?_
 all_goals
  refine yg (d7 (i:=nb) p (qv T.o T.hk (T.mb _ (memK p)) ∅ ∅ T.ma λk k1=>bM (λc=>?_) λc=>?_))
  .have M1:=M.extH (k:=k) k1;refine bM (λz=>de M1.doneH) λz=>?_;let⟨F,rfl⟩:∃n,k=n+1:=⟨k-1,by simp only[beq_iff_eq]at z;omega⟩;exact Cg T M1 ∅ p ∅ ∅
  .have e:k=f+1:=by omega
   subst e;exact Cg T M ∅ p ∅ ∅
theorem Xh(T:Two prog w A s g l a b st)(M:Mg tot [] a.toList b.toList)(C:0<a.size)(D:0<b.size)(h:∀r m,r.toList.Perm tot->Q r (setG st m)):wpS (model prog w) A E s (mHi a b) Q st:=by
 let⟨d,u⟩:∃n,a.size=n+1:=⟨a.size-1,∅⟩;have t:∀c:Array Keyed,ta c c.size=c.toList.reverse:=λc=>by simp[ta,acu]
 have v:Mg tot (#[]:Array Keyed).toList (ta a (d+1)) (ta b b.size):=by
  rw[<-u,t,t];exact((afw _).append (afw _)).trans M
 have k:=v.pushH ∅;apply aaF;refine afU (abH ⟨rfl,?_⟩);dsimp only;rw[u];refine d7 (i:=d+1-1) ∅ ?_;refine bM (λz=>aaL (h _ (agB st) k.doneH)) λz=>bM (λp=>aaL (h _ (agB st) k.sym.doneH)) λp=>?_;simp only[beq_iff_eq]at z p;refine aaF (aeZ (aaF (ab4 (aby (I:=λi c st'=>SJ st (Hq tot a b (i+1)) c st') (Q:=λc st'=>(∃m,st'=setG st m)/\∃r,c.fst=some r/\r.toList.Perm tot) (λi c st' _ _ J=>?_) (λc st' J=>by have:=J.2.2.2;omega) ⟨rfl,⟨agB st,rfl⟩,k,show 0<d by omega,show 1<b.size by omega,show d≤a.size by omega,aaa _,show 0+1+d+b.size≤_ by omega⟩) λc st' J=>?_)))
 rotate_left
 .obtain⟨⟨m,rfl⟩,r,e,R⟩:=J;rw[e];exact aaL (h _ _ R)
 refine aaF (ab4 (aby (I:=λj c st'=>SJ st (Hq tot a b (i+1+j)) c st') (Q:=SK tot st (Hq tot a b (i+1+1))) (λj c st' _ _ J=>ab4 (Mf T ⟨rfl,J.2⟩) λr st' h=>by obtain⟨c,⟨rfl,h⟩|⟨rfl,h⟩⟩:=h<;>exact h) (λc st' J=>⟨J.2.1,.inl ⟨J.1,J.2.2.1,J.2.2.2.1,J.2.2.2.2.1,J.2.2.2.2.2.1,J.2.2.2.2.2.2.1,by have:=J.2.2.2;omega⟩⟩) ⟨rfl,J.2⟩) λc st' J=>J.2.elim (λq=>?_) λq=>?_)
 rotate_left
 .obtain⟨r,e,R⟩:=q;rw[e];exact aaL ⟨J.1,_,rfl,R⟩
 rw[q.1];apply aaF;refine afU (abH ⟨rfl,?_⟩);refine aaF (ab4 (aby (I:=λ_ c st'=>SJ st (Hq tot a b (i+1+1)) c st') (Q:=SK tot st (Hq tot a b (i+1+1))) (λj c st' _ _ J=>ab4 (QZ T ⟨rfl,J.2⟩) λr st' h=>by obtain⟨c,⟨rfl,h⟩|⟨rfl,h⟩⟩:=h<;>exact h) (λc st' J=>⟨J.2.1,.inl ⟨J.1,J.2.2⟩⟩) ⟨rfl,J.1,q.2⟩) λc st' J=>J.2.elim (λq=>?_) λq=>?_)
 rotate_left
 .obtain⟨r,e,R⟩:=q;rw[e];exact aaL ⟨J.1,_,rfl,R⟩
 rw[q.1];let⟨⟨m,rfl⟩,_⟩:=J;exact yg (aaL ⟨rfl,⟨_,rfl⟩,q.2⟩)
end
def wr(sa:Nat)(l:List (Keyed×Nat))(a:Array Keyed):Array Keyed:=l.foldl (λa x=>a.setIfInBounds (sa+x.2) x.1) a
theorem FH(sa:Nat):∀(l:List Keyed) (k:Nat) (a:Array Keyed),sa+k+l.length≤a.size->(wr sa (l.zipIdx k) a).toList=a.toList.take (sa+k)++l++a.toList.drop (sa+k+l.length)
 |[],k,a,h=>by simp[wr]
 |x::l,k,a,h=>by
  have c:sa+k+(l.length+1)≤a.size:=h;have e:=FH sa l (k+1) (a.setIfInBounds (sa+k) x) (by simp;omega);show(wr sa (l.zipIdx (k+1)) (a.setIfInBounds (sa+k) x)).toList=_;rw[e,afj,List.drop_set_of_lt ∅,<-adf,List.take_succ,List.take_set_of_le (aaa _),aaV (by simp;omega),aau];simp[Nat.add_comm,Nat.add_left_comm]
theorem O3{r:Array Keyed}{h:Nat}(f:lo≤h)(c:h≤a.size)(p:r.toList.Perm (a.extract lo h).toList):(wr lo r.toList.zipIdx a).toList.Perm a.toList:=by
 have n:r.toList.length=h-lo:=by rw[p.length_eq];simp;omega
 have e:=FH lo r.toList 0 a ∅;rw[ahi,n,show lo+(h-lo)=h by omega]at e;have d:a.toList=a.toList.take lo++(a.extract lo h).toList++a.toList.drop h:=by
  rw[aeH];show _=_++agH (h-lo) (List.drop lo _)++_;rw[show a.toList.drop h=(a.toList.drop lo).drop (h-lo) by rw[List.drop_drop,show lo+(h-lo)=h by omega],aaW,adk,adk]
 rw[e]
 conv=>rhs;rw[d]
 exact(p.append_left _).append_right _
def QB(h:x∈(a.extract i j).toList):x∈a.toList:=by
 rw[aeH]at h;exact List.mem_of_mem_drop (ack h)
def Ch:Nat->List (Nat×Nat×Nat)->Nat->Prop
 |lo,[],hi=>lo=hi
 |lo,p::rs,hi=>p.1=lo/\0<p.2.1/\Ch (lo+p.2.1) rs hi
theorem Ch.le:∀{l:List (Nat×Nat×Nat)}{lo c:Nat},Ch lo l c->lo+l.length≤c
 |[],lo,c,h=>by rw[show lo=c from h];exact aaa _
 |p::l,lo,c,h=>by have:=Ch.le h.2.2;have:=h.2.1;rw[aau];omega
theorem Ch.app:∀{l k:List (Nat×Nat×Nat)}{lo c:Nat},Ch lo (l++k) c->∃m,Ch lo l m/\Ch m k c
 |[],k,lo,c,h=>⟨lo,rfl,h⟩
 |p::l,k,lo,c,h=>by
  let⟨m,d,e⟩:=Ch.app h.2.2;exact⟨m,⟨h.1,h.2.1,d⟩,e⟩
theorem Ch.cat:∀{l k:List (Nat×Nat×Nat)}{lo m c:Nat},Ch lo l m->Ch m k c->Ch lo (l++k) c
 |[],k,lo,m,c,h,h2=>by rw[show lo=m from h];exact h2
 |p::l,k,lo,m,c,h,h2=>⟨h.1,h.2.1,Ch.cat h.2.2 h2⟩
theorem Ch.mod{f:Nat×Nat×Nat->Nat×Nat×Nat}(d:∀x,(f x).1=x.1/\(f x).2.1=x.2.1):∀{l:List (Nat×Nat×Nat)}{k lo c:Nat},Ch lo l c->Ch lo (l.modify k f) c
 |[],k,lo,c,h=>by rw[List.modify_nil];exact h
 |p::l,0,lo,c,h=>by
  rw[List.modify_zero_cons];unfold Ch;rw[(d p).1,(d p).2];exact h
 |p::l,k+1,lo,c,h=>by
  rw[List.modify_succ_cons];exact⟨h.1,h.2.1,Ch.mod d h.2.2⟩
def Ch.push{p:Array (Nat×Nat×Nat)}(h:Ch 0 p.toList lo)(c:0<n):Ch 0 (p.push (lo,n,0)).toList (lo+n):=by
 rw[aen];exact Ch.cat h ⟨rfl,c,rfl⟩
structure SI(κ:afT)(it:List Keyed)(st:abv):Prop where
 pm:(arrOf st).toList.Perm it
 kd:kindOf st=κ
 fl:afi st=none
section
variable {prog:aax}{w:World}{A:aa8}{E:Ad->GT->Prop}{s:GT}{β:Type}{st:abv}
variable {d:afT}{a:List Keyed}
def SI.al(S:SI d a st):∀x∈(arrOf st).toList,x∈a:=λ_ h=>S.pm.mem_iff.mp h
def SI.sz(S:SI d a st):(arrOf st).size=a.length:=by simpa using S.pm.length_eq
variable (O:OrcW prog w A s d a)
include O
theorem zG{y:Nat}{Q:Bool->abv->Prop}(S:SI d a st)(hc:Ch 0 (aaK st).toList y)(hh:y≤(arrOf st).size)(I:i+1<(aaK st).size)
  (h:∀st',SI d a st'->Ch 0 (aaK st').toList y->(aaK st').size+1=(aaK st).size->Q true st'):wpS (model prog w) A E s (mergeAt' i) Q st:=by
 have Y:i+1<(aaK st).toList.length:=by simpa using I
 let⟨t,p,q,H,e,G⟩:∃t p q H,(aaK st).toList=t++p::q::H/\t.length=i:=
  ⟨(aaK st).toList.take i,_,_,(aaK st).toList.drop (i+2),by rw[<-adG (i:=i+1) Y,<-adG (i:=i) ∅,adk],by rw[aaM];omega⟩
 let⟨sa,c,v⟩:=p;let⟨sb,nb,F⟩:=q;rw[e]at hc;let⟨m,U,rfl,n1,rfl,n2,D⟩:=hc.app;have le:=D.le;dsimp only at n1 n2 D le;apply aaF;refine aeZ ?_;have W:(aaK st)[i]?=some (sa,c,v):=by rw[<-adl,e,<-G];simp
 have Z:(aaK st)[i+1]?=some (sa+c,nb,F):=by rw[<-adl,e,<-G];simp
 have l:∀f m,f.toList.Perm (arrOf st).toList->Q true (afh (kindOf st) f (((aaK st).setIfInBounds i (sa,c+nb,v)).eraseIdxIfInBounds (i+1)) m (afi st)):=λf m o=>by
  have J:(((aaK st).setIfInBounds i (sa,c+nb,v)).eraseIdxIfInBounds (i+1)).toList=t++(sa,c+nb,v)::H:=by
   rw[Array.toList_eraseIdxIfInBounds,afj,e,<-G,List.set_append_right _ _ (aaa _),Nat.sub_self,List.eraseIdx_append_of_length_le ∅,show t.length+1-t.length=1 by omega];rfl
  refine h _ ⟨o.trans S.pm,S.kd,S.fl⟩ ?_ ?_
  .show Ch 0 (ag7 _) y;rw[J];exact Ch.cat U ⟨rfl,Nat.add_pos_left n1 _,by rw[<-adf];exact D⟩
  .show Array.size _+1=_;rw[<-acp,J,<-acp,e,aam,aam];rfl
 have N:∀u,u<(arrOf st).size->pK (arrOf st) u∈a:=λu V=>S.al _ (memK V);rw[W,Z];dsimp only;apply aaF;refine Ir ?_;refine d7 (arr:=arrOf st) (i:=sa+c) ∅ ?_;refine qv (arr:=arrOf st) (base:=sa) O S.kd (N _ ∅) n1 ∅ S.al λk k1=>?_;refine bM (λz=>aaL (l _ _ (.refl _))) λz=>?_;simp only[beq_iff_eq]at z;rw[show sa+k+(c-k)-1=sa+c-1 by omega];refine d7 (arr:=arrOf st) (i:=sa+c-1) ∅ ?_;refine qv (arr:=arrOf st) (base:=sa+c) O S.kd (N _ ∅) ∅ ∅ S.al λC m1=>?_;refine bM (λz=>aaL (l _ _ (.refl _))) λT=>?_;simp only[beq_iff_eq]at T;have K:∀(r:Array Keyed) m,r.toList.Perm (((arrOf st).extract (sa+k) (sa+c)).toList++((arrOf st).extract (sa+c) (sa+c+C)).toList)->Q true (afh (kindOf st) (wr (sa+k) r.toList.zipIdx (arrOf st)) (((aaK st).setIfInBounds i (sa,c+nb,v)).eraseIdxIfInBounds (i+1)) m (afi st)):=λr m R=>by
  rw[<-acU,Array.extract_append_extract,show min (sa+k) (sa+c)=sa+k by omega,show max (sa+c) (sa+c+C)=sa+c+C by omega]at R;exact l _ _ (O3 ∅ ∅ R)
 have P:(afi st).isNone=true:=by rw[S.fl];rfl
 have M:0<((arrOf st).extract (sa+k) (sa+c)).size:=by simp;omega
 have L:0<((arrOf st).extract (sa+c) (sa+c+C)).size:=by simp;omega
 have al:∀{i j},∀x∈((arrOf st).extract i j).toList,x∈a:=λx X=>S.al x (QB X);refine bM (λ_=>aaF (Ul ⟨O,al,al,by exact S.kd⟩ (.refl _) M L λr m R=>?_)) λ_=>aaF (Xh ⟨O,al,al,by exact S.kd⟩ (.refl _) M L λr m R=>?_)
 all_goals
  refine aaF (aez (aaF (aeZ (aaL ?_))));show Q ((afi st).isNone) _;rw[P];exact K r m R
theorem BG{Q:β->abv->Prop}{f:Option Bool->StateT abv Sem β}(S:SI d a st)(e:i<(arrOf st).size)(c:j<(arrOf st).size)(h:∀b,wpS (model prog w) A E s (f (some b)) Q st):wpS (model prog w) A E s (ltAt' i j >>= f) Q st:=by
 rw[ltAt'_eq];refine aaF (aaF (aeZ ?_));exact d7 e (d7 c (AG O S.kd (S.al _ (memK e)) (S.al _ (memK c)) h))
omit O in
theorem tm{Q:β->abv->Prop}{f:Unit->StateT abv Sem β}(S:SI d a st)(h:∀st',SI d a st'->aaK st'=aaK st->wpS (model prog w) A E s (f ()) Q st'):wpS (model prog w) A E s (reverseSlice' i j >>= f) Q st:=by
 rw[reverseSlice'_eq];refine aaF (aez (h _ ⟨(mirror_perm _ i j _).toList.trans S.pm,S.kd,S.fl⟩ rfl))
theorem NW{e:Nat}{Q:Option Nat->abv->Prop}(S:SI d a st)(L:1≤e)(P:lo+e≤a.length)
  (h:∀m st',1≤m->m≤e->SI d a st'->aaK st'=aaK st->Q (some m) st'):wpS (model prog w) A E s (countRun' lo e) Q st:=by
 have r:∀{n:Nat}{k:abv} (t:SI d a k) (n1:1≤n) (n2:n≤e) {v:_->abv->Prop},(∀m,1≤m->m≤e->v (none,m) k)->wpS (model prog w) A E s (forIn [n:e] ((none,n):Option (Option Nat)×Nat) λ_ c=>do
   let z <- ltAt' (lo+c.2) (lo+c.2-1)
   match z with
    |some b=>if b=true then pure (.done (none,c.2))else pure (.yield (none,c.2+1))
    |_=>pure (.done (some none,c.2))) v k:=λ{n k} t n1 n2 {v} q=>by
  refine ab4 (aby (I:=λi c st'=>st'=k/\c=(none,i)/\i≤e/\1≤i) (Q:=λc st'=>st'=k/\∃n,c=(none,n)/\1≤n/\n≤e) ?_ ?_ ⟨rfl,rfl,n2,n1⟩) ?_
  .rintro i c st' hi hi2 ⟨rfl,rfl,_,_⟩;have:=t.sz;refine BG O t (by dsimp only;omega) (by dsimp only;omega) λb=>?_;cases b
   .exact aaL ⟨rfl,rfl,hi2,∅⟩
   .exact aaL ⟨rfl,i,rfl,∅,∅⟩
  .rintro c st' ⟨rfl,rfl,_,_⟩;exact⟨rfl,_,rfl,∅,∅⟩
  .rintro c st' ⟨rfl,n,rfl,n1,n2⟩;exact q n n1 n2
 rw[countRun'_eq];refine aaF (r S (aaa 1) L λn n1 n2=>?_);dsimp only;refine bM (λy=>aaL (h n _ n1 n2 S rfl)) λy=>?_;simp only[beq_iff_eq]at y;refine bM (λM=>?_) λM=>?_
 any_goals
  have:=S.sz;refine BG O S ∅ ∅ λb=>?_;cases b
  rotate_left
  exact aaL (h n _ n1 n2 S rfl);refine bM (λz=>absurd z ⋯) λ_=>tm S λk t K=>?_
 rotate_left
 have t:=S;have K:aaK st=aaK st:=rfl
 all_goals
  apply aaF;refine afU (abH ⟨rfl,?_⟩);refine aaF (ab4 (aby (I:=λi c f=>(SI d a f/\aaK f=aaK st)/\∃q,c=(none,i,q)/\i≤e) (Q:=λc f=>(SI d a f/\aaK f=aaK st)/\∃n q,c=(none,n,q)/\1≤n/\n≤e) ?_ ?_ ⟨⟨t,K⟩,0,rfl,∅⟩) ?_)
  .rintro i c f hi hi2 ⟨⟨l,p⟩,q,rfl,_⟩;dsimp only;have:=l.sz;refine BG O l ∅ ∅ λb=>?_;cases b
   .refine bM (λz=>absurd z ⋯) λ_=>BG O l ∅ ∅ λb=>?_;cases b
    .exact aaL ⟨⟨l,p⟩,_,rfl,hi2⟩
    .exact aaL ⟨⟨l,p⟩,_,_,rfl,∅,∅⟩
   .exact bM (λ_=>bM (λ_=>tm l λG C D=>aaL ⟨⟨C,D.trans p⟩,_,rfl,hi2⟩) λ_=>aaL ⟨⟨l,p⟩,_,rfl,hi2⟩) λz=>absurd rfl z
  .rintro c f ⟨h2,q,rfl,_⟩;exact⟨h2,_,_,rfl,∅,∅⟩
  intro c f ⟨⟨l,p⟩,N,q,rfl,J,n4⟩;exact bM (λ_=>tm l λG C D=>tm C λF u H=>aaF (r u J n4 λm m1 m2=>aaL (h m _ m1 m2 u (H.trans (D.trans p))))) λ_=>tm l λF u H=>aaF (r u J n4 λm m1 m2=>aaL (h m _ m1 m2 u (H.trans p)))
theorem Qf{ok:Nat}{Q:Bool->abv->Prop}(S:SI d a st)(m:lo+n≤a.length)(h:∀st',SI d a st'->aaK st'=aaK st->Q true st'):wpS (model prog w) A E s (binarySort' lo n ok) Q st:=by
 rw[binarySort'_eq];refine aaF (ab4 (aby (I:=λk c st'=>c=(none,())/\SI d a st'/\aaK st'=aaK st) (Q:=λc st'=>c=(none,())/\SI d a st'/\aaK st'=aaK st) ?_ (λ_ _ q=>q) ⟨rfl,S,rfl⟩) ?_)
 .rintro k c st1 hk hk2 ⟨rfl,S1,e1⟩;have:=S1.sz;dsimp only;refine aaF (ab4 (aby (I:=λi c st'=>st'=st1/\∃l r,c=(none,l,r)/\l≤r/\r≤k) (Q:=λc st'=>st'=st1/\∃l r,c=(none,l,r)/\l≤r/\r≤k) ?_ (λ_ _ q=>q) ⟨rfl,0,k,rfl,∅,∅⟩) ?_)
  .rintro i c st' _ hi ⟨rfl,l,r,rfl,f,e⟩;dsimp only;refine bM (λz=>aaL ⟨rfl,l,r,rfl,f,e⟩) λz=>?_;refine BG O S1 ∅ ∅ λb=>?_
   cases b<;>exact aaL ⟨rfl,_,_,rfl,∅,∅⟩
  intro c st' ⟨rfl,l,r,rfl,f,e⟩;dsimp only;rw[moveDown'_eq];exact aaF (aez (aaL ⟨rfl,⟨(bubble_perm _ _ _).toList.trans S1.pm,S1.kd,S1.fl⟩,e1⟩))
 .rintro c st' ⟨rfl,S1,e1⟩;exact aaL (h _ S1 e1)
theorem NR{Q:Unit->abv->Prop}(S:SI d a st)(G:aaK st = #[])(h:∀st',SI d a st'->Q () st'):wpS (model prog w) A E s sortRuns' Q st:=by
 rw[sortRuns'_eq];refine aaF (aeZ ?_);dsimp only;rw[S.sz];refine aaF (ab4 (aby (I:=λi c st'=>∃lo,c=(none,lo)/\SI d a st'/\lo≤a.length/\Ch 0 (aaK st').toList lo) (Q:=λc st'=>∃lo,c=(none,lo)/\SI d a st'/\lo≤a.length/\Ch 0 (aaK st').toList lo) ?_ (λ_ _ q=>q) ⟨0,rfl,S,abB _,by rw[G];exact rfl⟩) ?_)
 .rintro i c st' _ hi ⟨lo,rfl,k,v,C⟩;dsimp only;refine bM (λz=>aaL ⟨_,rfl,k,v,C⟩) λz=>?_;refine aaF (NW O k ∅ ∅ λm L m1 m2 l D=>?_);rw[<-D]at C;dsimp only;refine bM (λF=>?_) λF=>?_;apply aaF;refine afU (abH ⟨rfl,?_⟩);refine aaF (Qf O l ∅ λf u y=>?_);rw[<-y]at C;have t:1≤min (a.length-lo) (minRun' a.length a.length 0):=by omega
  have r:min (a.length-lo) (minRun' a.length a.length 0)≤a.length-lo:=by omega
  clear l D m1 m2 F y
  revert t r
  generalize min (a.length-lo) (minRun' a.length a.length 0)=m;intro m1 m2;rw[if_neg ⋯]
  rename SI d a f=>l
  rotate_left
  all_goals
   refine aaF (aeZ ?_)
   cases eb:(aaK _).back? with
   |none=>exact aaF (aez (aaL ⟨_,rfl,⟨l.pm,l.kd,l.fl⟩,∅,C.push m1⟩))
   | some p=>
    let⟨s1,H,R⟩:=p;refine aaF (ab4 (aby (I:=λi c f=>c=(none,())/\SI d a f/\Ch 0 (aaK f).toList lo) (Q:=λc f=>c=(none,())/\SI d a f/\Ch 0 (aaK f).toList lo) ?_ (λ_ _ h=>h) ⟨rfl,l,C⟩) ?_)
    .rintro j c f _ _ ⟨rfl,S3,C3⟩;refine aaF (aeZ ?_)
     cases e:(if (aaK f).size>1 then(aaK f)[(aaK f).size-2]? else none)with
     |none=>exact aaL ⟨rfl,S3,C3⟩
     | some q=>
      have P:(aaK f).size>1:=by
       by_cases z:(aaK f).size>1
       .exact z
       .rw[if_neg z]at e;cases e
      refine bM (λ_=>aaL ⟨rfl,S3,C3⟩) λ_=>?_;have:=S3.sz;exact aaF (zG O S3 C3 ∅ ∅ λK J M _=>aaL ⟨rfl,J,M⟩)
    .rintro c f ⟨rfl,S3,C3⟩;refine aaF (aez (aaF (aez (aaL ⟨_,rfl,⟨S3.pm,S3.kd,S3.fl⟩,∅,Ch.push ?_ m1⟩))));show Ch 0 (Array.modify _ _ _).toList lo;rw[Array.toList_modify];refine Ch.mod ?_ C3;exact λ_=>⟨rfl,rfl⟩
 intro c st' ⟨lo,rfl,k,v,C⟩;dsimp only;refine aaF (ab4 (aby (I:=λi c st'=>c=(none,())/\SI d a st'/\Ch 0 (aaK st').toList lo) (Q:=λc st'=>c=(none,())/\SI d a st'/\Ch 0 (aaK st').toList lo) ?_ (λ_ _ h=>h) ⟨rfl,k,C⟩) ?_)
 .rintro i c st' _ hi ⟨rfl,k,C⟩;refine aaF (aeZ ?_);refine bM (λz=>aaL ⟨rfl,k,C⟩) λz=>?_;have:=k.sz;exact aaF (zG O k C ∅ (by split<;>(try split)<;>omega) λf u N n2=>aaL ⟨rfl,u,N⟩)
 intro c st' ⟨rfl,k,C⟩;exact aaL (h _ k)
end
section
variable {prog:aax}{w:World}{A:aa8}{E:Ad->GT->Prop}{s:GT}
def Ol(h h':aaZ):Prop:=∀b o,h.get? b=some o->o.cls = .type "tuple" -> h'.get? b=some o
theorem yj{h h':aaZ}{k:Nat}(K:Ol h h')(I:∀x y u as,x.depth≤k->smD x y=true->Reads h u x as->∃bs,Reads h' u x bs):∀(xs ys:List aD) us as,aaB xs≤k->smDs xs ys=true->adT h us xs as->∃bs,adT h' us xs bs
 |[],ys,us,as,_,_,r=>by cases r;exact⟨[],.nil⟩
 | x::xs,ys,us,as,hk,sm,r=>by
  cases ys with
  |nil=>exact absurd sm (by simp only[smDs];decide)
  | cons y ys=>
   simp[smDs]at sm;have c:max x.depth _≤k:=hk
   cases r with
   |cons r1 d=>
    let⟨b1,e⟩:=I x y _ _ ∅ sm.1 r1;let⟨b2,q⟩:=yj K I xs ys _ _ ∅ sm.2 d;exact⟨_,.cons e q⟩
theorem DB{h h':aaZ}(K:Ol h h'):∀(k:Nat) (x y:aD) (u:Ad) (as:List Addr),x.depth≤k->smD x y=true->Reads h u x as->∃bs,Reads h' u x bs
 |k,.int a,y,u,as,_,_,r=>by cases r;exact⟨_,.int _ _⟩
 |0,.tuple xs,y,u,as,hk,_,_=>absurd hk (by show ¬aaB xs+1≤0;contradiction)
 | k+1,.tuple xs,y,u,as,hk,sm,r=>by
  cases y with
  | tuple d=>
   have l:aaB xs+1≤k+1:=hk
   cases r with
   |tuple e c q z=>
    let⟨bs,f⟩:=yj K (DB K k) xs d _ _ ∅ sm z;exact⟨_,.tuple (K _ _ e c) c q f⟩
  |_=>exact absurd sm (by simp only[smD];decide)
 |k,.none,y,u,as,_,sm,_=>absurd sm (by simp only[smD];decide)
 |k,.bool _,y,u,as,_,sm,_=>absurd sm (by simp only[smD];decide)
 |k,.str _,y,u,as,_,sm,_=>absurd sm (by simp only[smD];decide)
 |k,.list _,y,u,as,_,sm,_=>absurd sm (by simp only[smD];decide)
 |k,.dict _,y,u,as,_,sm,_=>absurd sm (by simp only[smD];decide)
theorem CC{f r:Bool}{Q:Bool->GT->Prop}(q:Q r s):∀(ps:List (Ad×Ad)) (i:Nat),C6 A s f r ps->KatLex prog w A false f Q ps i s
 |[],i,h=>kat_nil (by have c:=h;rw[<-c];exact q)
 |p::ps,i,⟨e,he,h1,h2⟩=>by
  refine kat_cons (he prog w _ _ ?_)
  cases e with
  |true=>exact kat_yes (CC q ps _ (h1 rfl))
  |false=>exact kat_no (kat_one _ _ (h2 rfl prog w _ _ q))
def RdL(h:aaZ):List Ad->List aD->Prop
 |[],[]=>True
 |v::vs,d::ds=>(∃c,Reads h v d c)/\RdL h vs ds
 |_,_=>False
theorem RdL.len{h:aaZ}:∀{vs:List Ad}{ds:List aD},RdL h vs ds->vs.length=ds.length
 |[],[],_=>rfl
 |v::vs,d::ds,t=>by rw[aau,aau,RdL.len t.2]
 |[],_::_,t=>t.elim
 |_::_,[],t=>t.elim
theorem RdL.get{h:aaZ}:∀{vs:List Ad}{ds:List aD}{i:Nat},RdL h vs ds->i<vs.length->∃as,Reads h (vs.getD i .none) (ds.getD i .none) as
 |[],[],_,_,z=>by simp at z
 |v::vs,d::ds,0,t,_=>t.1
 |v::vs,d::ds,i+1,t,z=>by
  rw[List.getD_cons_succ];exact RdL.get t.2 (by simp_all)
 |[],_::_,_,t,_=>(t.elim)
 |_::_,[],_,t,_=>(t.elim)
def tt1:aD->Bool
 | .tuple (.tuple _::_)=>true
 |_=>false
theorem FG{h:aaZ}:∀{vs:List Ad}{ds:List aD},RdL h vs ds->(∀d∈ds,tt1 d=true)->∃fs,KatTups h vs fs/\fs.length=vs.length/\∀v∈fs,∃b o,v = .ref b/\h.get? b=some o/\o.cls = .type "tuple"
 |[],[],_,_=>⟨[],.nil,rfl,λ_ h=>by cases h⟩
 | v::vs,d::ds,⟨⟨as,r⟩,t⟩,hd=>by
  let⟨fs,k1,k2,C⟩:=FG t λx l=>hd x (aai _ l);have k:=hd d aan;let⟨y,m,rfl⟩:∃y m,d = .tuple (.tuple y::m):=by
   unfold tt1 at k
   split at k
   .exact⟨_,_,rfl⟩
   .cases k
  cases r with
  | tuple e c q z=>
   rename_i a o f n;generalize F:f.toList=L at z
   cases z with
   | cons r1 M=>
    rename_i u J D bs;have H:f[0]?=some u:=by
     rw[<-adl,F];rfl
    cases r1 with
    |tuple G p K I=>
     refine⟨_::fs,.cons e c q H k1,by rw[aau,aau,k2],λx l=>?_⟩;exact(aag.mp l).elim (λz=>by subst z;exact⟨_,_,rfl,G,p⟩) (C x)
 |[],_::_,t,_=>t.elim
 |_::_,[],t,_=>t.elim
theorem RdL.keep{h h':aaZ}(K:Ol h h'):∀{vs:List Ad}{ds:List aD},(∀d∈ds,smD d d=true)->RdL h vs ds->RdL h' vs ds
 |[],[],_,_=>trivial
 |v::vs,d::ds,hs,⟨⟨as,r⟩,t⟩=>⟨DB K d.depth d d v as (aaa _) (hs d aan) r,RdL.keep K (λx c=>hs x (aai _ c)) t⟩
 |[],_::_,_,t=>t.elim
 |_::_,[],_,t=>t.elim
structure SrtOk(ds:List aD):Prop where
 n:ds.length<100000
 sm:∀x∈ds,∀y∈ds,smD x y=true
 tt:∀x∈ds,tt1 x=true
 dp:∀x∈ds,x.depth≤7
theorem Vz{u v:Ad}{x y:aD}{as bs:List Addr}{Q:Bool->GT->Prop}(r1:Reads s.heap u x as)(r2:Reads s.heap v y bs)(sm:smD x y=true)(t:tt1 x=true)(d:tt1 y=true)(m:A.units+x.depth<cLine)(h:Q (ltD x y) s):wpAny (model prog w) A (keyLt' (tuples' false) u v) Q E s:=by
 let⟨a1,b1,rfl⟩:∃a b,x = .tuple (.tuple a::b):=by
  unfold tt1 at t
  split at t
  .exact⟨_,_,rfl⟩
  .cases t
 let⟨a2,b2,rfl⟩:∃a b,y = .tuple (.tuple a::b):=by
  unfold tt1 at d
  split at d
  .exact⟨_,_,rfl⟩
  .cases d
 cases r1 with
 | tuple e c q z=>
  cases r2 with
  |tuple r C l k=>
   have f:A.units+(aaB _+1)<cLine:=m;let⟨D,lx⟩:=nw (wM _) A s _ _ _ _ _ _ (aaa _) z k sm (by exact abR ‹_›);have p:Q (ltDs (.tuple a1::b1) _) s:=h;refine kat_lt e q r l (CC p _ 0 ?_)
   grind
def ordP(ds:List aD)(p:List Nat):Prop:=p.Perm (aav ds.length)
theorem M9{t β:Type}{f:β->t}{l m:List t}(h:l.Perm m):∀{r:List β},m=r.map f->∃q:List β,q.Perm r/\l=q.map f:=by
 induction h with
 |nil=>exact λ{r} e=>⟨r,.refl _,e⟩
 | cons x _ D=>
  intro r e
  cases r with
  |nil=>cases e
  |cons y r=>
   let⟨k,d⟩:=agX e;let⟨q,p,c⟩:=D d;exact⟨y::q,p.cons _,by rw[k,c];rfl⟩
 | swap x y l=>
  intro r e
  match r,e with
  |a::b::r,e=>
   let⟨k,d⟩:=agX e;let⟨c,u⟩:=agX d;exact⟨b::a::r,.swap _ _ _,by rw[k,c,u];rfl⟩
 |trans _ _ v C=>
  intro r e;let⟨q,p,d⟩:=C e;let⟨z,F,c⟩:=v d;exact⟨z,F.trans p,c⟩
theorem Oi(r6:RdL s.heap vs ds)(ok:SrtOk ds)(D:A.units+7<cLine) :
  wpAny (model prog w) A ((sortRuns').run (afh (tuples' false) (vs.toArray.zip vs.toArray) #[] 7 none)) (λr s'=>∃q:List Nat,ordP ds q/\(arrOf r.2).map (·.2)=(q.map λi=>vs.getD i .none).toArray/\q.length=vs.length/\afi r.2=none/\s'=s) E s:=by
 have h:=r6.len;have k:(vs.toArray.zip vs.toArray).toList=(aav ds.length).map λi=>(vs.getD i .none,vs.getD i .none):=by
  rw[ahv];refine ab2 λi=>?_;rw[aah,List.zip,List.getElem?_zipWith]
  by_cases f:i<vs.length
  .simp[f,<-h]
  .simp[f,<-h]
 have m:∀i,i<ds.length->ds.getD i .none∈ds:=λi f=>by rw[bH (lD f)];exact acZ _
 have O:OrcW prog w A s (tuples' false) (vs.toArray.zip vs.toArray).toList:=λx u y t C q=>by
  rw[k]at u t;let⟨i,f,rfl⟩:=aar.mp u;let⟨j,l,rfl⟩:=aar.mp t;rw[ae1]at f l;let⟨z,r1⟩:=r6.get (i:=i) ∅;let⟨bs,v⟩:=r6.get (i:=j) ∅;exact Vz r1 v (ok.sm _ (m i f) _ (m j l)) (ok.tt _ (m i f)) (ok.tt _ (m j l)) (by have:=ok.dp _ (m i f);omega) (q _)
 have W:=NR (E:=E) (Q:=λ_ st'=>∃q:List Nat,ordP ds q/\(arrOf st').map (·.2)=(q.map λi=>vs.getD i .none).toArray/\q.length=vs.length/\afi st'=none) O (st:=afh (tuples' false) (vs.toArray.zip vs.toArray) #[] 7 none) ⟨.refl _,rfl,rfl⟩ rfl λst' S=>by
  let⟨q,p,e⟩:=M9 S.pm k;refine⟨q,p,?_,by rw[p.length_eq,aa2,h],S.fl⟩;apply ahw.mp;rw[ahx,e,abD];rfl
 unfold wpS at W;exact ab9 W (λr s' ⟨e,q,a,b,c,d⟩=>⟨q,a,b,c,d,e⟩) λ_ _ e=>e
theorem qZ{a:Addr}{P:PySem.Fin->GT->Prop}(t:s.heap.get? a=some (ac0 "list" vs.toArray n))(C:RdL s.heap vs ds)(ok:SrtOk ds)(Z:True)(I:A.units+7<cLine)
  (h:∀p:List Nat,ordP ds p->P (.done (.ret .none)) {s with heap:=agc s.heap a vs (p.map λi=>vs.getD i .none).toArray}):wpAny (model prog w) A
  (adn.«list.sort» ⟨[.ref a],[]⟩) P E s:=by
 have k:=C.len;have J:=ok.n;rw[list_sort_plain];have r:(s.heap.update a (acE λ_=>#[])).get? a=some (ac0 "list" #[] _):=get?_update_seq t λ_=>#[];have f:(((s.heap.update a (acE λ_=>#[])).push (ac0 "tuple" vs.toArray 0)).push (ac0 "list" #[] 0)).get? a=some (ac0 "list" #[] _):=Io _ (Io _ r);refine gT (ahg t rfl (gT (afD t rfl (gT (seqEpoch_at r rfl (gT (m:=newTuple _) (afb (gT (m:=ahd _) (afE (acf ?_))))))))));have r6:RdL (((s.heap.update a (acE λ_=>#[])).push (ac0 "tuple" vs.toArray 0)).push (ac0 "list" #[] 0)) vs ds:=C.keep (λb o e c=>by
  have R:b≠a:=λz=>by
   rw[z,t]at e;have M:o.cls=ac2 "list":=by rw[<-aay e]
   rw[M]at c;exact absurd c ⋯
  refine Io _ (Io _ ?_);rw[aaZ.get?_update_ne _ _ _ _ R];exact e) λd hd=>ok.sm d hd d hd
 generalize D:((s.heap.update a (acE λ_=>#[])).push (ac0 "tuple" vs.toArray 0)).push (ac0 "list" #[] 0)=y at f r6;have sH:agc s.heap a vs=λout=>agc s.heap a vs out:=rfl;change wpAny _ A _ P E ({s with heap:=y}:GT);dsimp only;have O:(vs.toArray:Array Ad).size=vs.length:=aaG
 by_cases u:(vs.toArray:Array Ad).size<2
 .rw[if_pos u,if_pos u];refine gT (LD ?_);rw[StateT.run_pure];refine gT (LD ?_);dsimp only;refine gT (seqEpoch_at f rfl ?_);refine gT (afD f rfl ?_ (hsz2:=by rw[Array.size_map];show(pairsOf vs).size≤_;rw[pairsOf_size,aas];omega));simp only[if_false,ac6,bne_self_eq_false];refine LD ?_;have l:=h (aav ds.length) (List.Perm.refl _);have G:((aav ds.length).map λi=>vs.getD i .none).toArray=(arrOf (afh general' (vs.toArray.zip vs.toArray) #[] 7 none)).map (·.2):=by
   show _=(vs.toArray.zip vs.toArray).map (·.2);apply ahw.mp;rw[ahx,ahv];refine ab2 λi=>?_
   by_cases F:i<vs.length
   .simp[ab5,F,<-k]
   .simp[ab5,F,<-k]
  rw[G]at l;unfold agc at l;rw[D]at l;exact l
 .rw[if_neg u,if_neg u];let⟨fs,k1,k2,S⟩:=FG r6 ok.tt;refine gT (kat_kind (s:={s with heap:=y}) (T:=.type "tuple") k1 ∅ (λv H=>?_) rfl ?_)
  .obtain⟨b,o,rfl,e1,c1⟩:=S v H;exact λY X E' K U q=>ac3 ⟨o,U _ _ e1,c1⟩ q
  rw[show(ac2 "tuple" != ac2 "tuple")=false by decide];refine gT (ab9 (Oi (s:={s with heap:=y}) r6 ok I) ?_ λ_ _ e=>e);rintro⟨⟨⟩,st'⟩ K ⟨q,W,N,L,V,rfl⟩;dsimp only;rw[N];refine gT (seqEpoch_at f rfl ?_);refine gT (afD f rfl ?_ (hsz2:=by simp;rw[L,aas];omega));rw[V];simp only[if_false,ac6,bne_self_eq_false];have l:=h q W;unfold agc at l;rw[D]at l;exact LD l
end
section
variable {prog:aax}{w:World}{A:aa8}{E:Ad->GT->Prop}{s:GT}
theorem zh{v:Ad}{C:aaZ->List Ad->Prop}{Q:Ad->GT->Prop}(ok:SrtOk ds)(y:True)(F:A.units+10<cLine)
  (f:∀(P:List Ad->GT->Prop) (E:Ad->GT->Prop),(∀h' vs,(∀b o,s.heap.get? b=some o->h'.get? b=some o)->RdL h' vs ds->C h' vs->P vs {s with heap:=h' })->wpAny (model prog w) A.in1 (collect v) P E s)
  (h:∀(c k:aaZ) (vs:List Ad) (p:List Nat) (L:Addr) (e:Nat),(∀b o,s.heap.get? b=some o->c.get? b=some o)->C c vs->RdL c vs ds->(∀b o,c.get? b=some o->k.get? b=some o)->L=c.objs.size->k.get? L=some (ac0 "list" (p.map λi=>vs.getD i .none).toArray e)->ordP ds p->Q (.ref L) {s with heap:=k}) :
  wpAny (model prog w) A (call (.builtin "sorted") [v]) Q E s:=by
 refine Calls.call_function_entry kind_sorted plain_sorted entry_sorted (args:=_) (args_sorted1 v) ?_;refine gT (m:=checkCount "sorted" 1 1 _) (LD (gT (f _ _ λc vs k1 r1 t=>gT (m:=ahd vs) (afE ?_ (hsz:=by rw[r1.len,aas];have:=ok.n;omega)))));have at1:(c.push (ac0 "list" vs.toArray 0)).get? c.objs.size=some (ac0 "list" vs.toArray 0):=aal _ rfl;have k2:∀b o,c.get? b=some o->(c.push (ac0 "list" vs.toArray 0)).get? b=some o:=λb o q=>Io _ q;have D:=r1.keep (λb o q _=>k2 b o q) λd hd=>ok.sm d hd d hd;refine gT (m:=adX _ _) (acf (ab9 (aba slot_list_sort ⟨_,at1,rfl⟩ entry_list_sort (qZ at1 D ok y (show A.units+1+1+7<cLine by exact abR ‹_›) λp l=>⟨_,rfl,?_⟩) (args_list_sort _)) (λG u (q:Q (.ref c.objs.size) u)=>LD ⟨_,rfl,q⟩) λ_ _ z=>z));let⟨e,r⟩:=sortedHeap_at at1;exact h c _ vs p _ e k1 t r1 (λb o q=>by
  have lt:b<c.objs.size:=aao q;rw[sortedHeap_old (aa1 lt) (by rw[size_push'];exact ael lt)];exact k2 b o q) rfl r l
end
theorem CW(h:aaZ):h.get? h.objs.size=none:=by
 cases e:h.get? h.objs.size with
 |none=>rfl
 |some o=>exact(acw _ (aao e)).elim
def updR(H:Hp)(B:Addr)(g:Nat->HO):Nat->Hp
 |0=>H
 |n+1=>upd (updR H B g n) (B+n) (g n)
theorem jH{H:Hp}{B:Addr}{g:Nat->HO}{b:Addr}:∀{n:Nat},(∀j,j<n->b≠B+j)->updR H B g n b=H b
 |0,_=>rfl
 |n+1,h=>by
  show upd _ _ _ b=_;rw[av (h n (abz n))];exact jH λj c=>h j (ael c)
theorem vy{H:Hp}{B:Addr}{g:Nat->HO}{j:Nat}:∀{n:Nat},j<n->updR H B g n (B+j)=some (g j)
 |0,h=>absurd h (Nat.not_lt_zero _)
 |n+1,h=>by
  by_cases e:j=n
  .subst e;exact aA
  .show upd _ _ _ _=_;rw[av (λz=>e (agP z))];exact vy ∅
section
variable {X:Cx}{pins:List 'i'}{σ:List (Option V)}{H:Hp}{s:GT}{h':aaZ}
def Jk(h:b<B):updR H B g n b=H b:=jH λj _=>aa1 (aat h (acd _ _))
def dI{o:HO}(fr:∀j,H (B+j)=none)(h:H b=some o):updR H B g n b=some o:=by
 rw[jH λj _ z=>by rw[z,fr j]at h;cases h];exact h
def Inv.laidR{t':Nat}(I:Inv X pins σ H s)(k:∀b u,s.heap.get? b=some u->h'.get? b=some u)(d:s.heap.objs.size≤B)(new:∀j,j<n->ObjOk X.prog X.w (updR H B g n) h' (B+j) (g j)) :
  Inv X pins σ (updR H B g n) {s with heap:=h',toks:=t' }:=by
 have fr:∀j,H (B+j)=none:=λj=>I.hok.fresh (aaA d (acd _ _));refine I.un ⟨λb u q _ _ _=>k b u q,λb u q _ _ _=>⟨u.slots,k b u q⟩,λb u q n _=>?_,λb u q _=>⟨u,k b u q⟩,λb f q=>dI fr q,λb u f q=>dI fr q,λb p q=>⟨#[],?_⟩⟩ λb u e=>?_
 .rw[Jk (aat (aao q) d)];exact n
 .rw[dI fr q];simp
 .by_cases hb:∃j,j<n/\b=B+j
  .obtain⟨j,h,rfl⟩:=hb;rw[vy h]at e;rw[<-aay e];exact new j h
  .rw[jH λj h z=>hb ⟨j,h,z⟩]at e;exact(I.hok b u e).stay (λc v _ q=>k c v q) (λc q=>dI fr q) λc f q=>dI fr q
theorem QO{p:List Nat}(h:ordP ds p):(p.map λi=>ds.getD i .none).Perm ds/\True:=by
 have e:(aav ds.length).map (λi=>ds.getD i .none)=ds:=ab2 λi=>by
  by_cases c:i<ds.length
  .simp_all
  .simp_all
 have:=h.map λi=>ds.getD i .none;rw[e]at this;exact⟨this,trivial⟩
theorem KH(I:Inv X pins σ H s):∀{ds:List aD}{xs:List V}{us:List Ad},(∀d∈ds,d.canLay0=true)->DenAll X.kx H ds xs->Vals xs us->RdL s.heap us ds
 |[],xs,us,_,g,r=>by
  subst g;cases r;trivial
 |d::ds,xs,us,hl,g,r=>by
  let⟨x,c,rfl,f,e⟩:=g
  cases r with
  |cons h t=>exact⟨Den.reads I (aa7 _ (hl d aan)) f h,KH I (λx k=>hl x (aai _ k)) e t⟩
def SrtOk.lay(ok:SrtOk ds):∀d∈ds,d.canLay0=true:=λd hd=>(Ef (ok.sm d hd d hd)).1
structure SrtT(ds:List aD):Prop where
 ok:SrtOk ds
 tot:True
def srtR(ds:List aD)(K:List aD->Prop):Prop:=SrtT ds/\∀d:List aD,d.Perm ds->True->K d
theorem DI:∀{xs:List V}{us:List Ad},xs.length=us.length->(∀(j:Nat) (x:V) (u:Ad),xs[j]?=some x->us[j]?=some u->RelV x u)->Vals xs us
 |[],[],_,_=>.nil
 |x::xs,u::us,hl,h=>.cons (h 0 x u rfl rfl) (DI (by simpa using hl) λj x u e c=>h (j+1) x u ‹_› ‹_›)
 |[],_::_,hl,_=>(adL _ hl).elim
 |_::_,[],hl,_=>(adL _ hl.symm).elim
theorem ux{K:Kd}{H:Hp}:∀{ds:List aD}{xs:List V},ds.length=xs.length->(∀(j:Nat) (d:aD) (x:V),ds[j]?=some d->xs[j]?=some x->Den K H d x)->DenAll K H ds xs
 |[],[],_,_=>by simp[DenAll]
 |d::ds,x::xs,hl,h=>by
  exact⟨x,xs,rfl,h 0 d x rfl rfl,ux (by simpa using hl) λj d x c e=>h (j+1) d x ‹_› ‹_›⟩
 |[],_::_,hl,_=>(adL _ hl).elim
 |_::_,[],hl,_=>(adL _ hl.symm).elim
theorem Cu{H:Hp}(fr:∀j,H (B+j)=none)(n:Nat):Pers H (updR H B g n):=⟨λb c q=>dI fr q,λb o u q=>dI fr q⟩
def itmG(es:List (V×V))(j:Nat):HO:=.tup [(es.getD j (.non,.non)).1,(es.getD j (.non,.non)).2]
def tJ(B:Addr)(n:Nat):List V:=(aav n).map λj=>.ref (B+j)
theorem uq{K:Kd}{H:Hp}(fr:∀j,H (B+j)=none)(k:PDc K H kvs es):DenAll K (updR H B (itmG es) es.length) (il kvs) (tJ B es.length):=by
 have l:=Cu (g:=itmG es) fr es.length;refine ux (by unfold il tJ;rw[iO,iO,aa2,k.length]) λj d x f c=>?_;unfold il at f;rw[aah]at f;let⟨p,t,rfl⟩:=aek.mp f;let⟨q,h,d1,r⟩:=Paired.at1 k t;have m:=(AD.mp h).1;unfold tJ at c;rw[aah,ab5 m]at c;have e:=aay c;subst e;have u:itmG es j = .tup [q.1,q.2]:=by unfold itmG;rw[bH h]
 exact fE (SqT.of ((vy m).trans (by rw[u]))) (DenAll.cons (d1.mono l) (DenAll.cons (r.mono l) DenAll.nil))
def DcR(H:Hp)(a:Addr)(es:List (V×V)):Prop:=(∃c,Rd H a (dX a c)/\es=c.map (·.2))\/∃c,Rd H a (.dK c)/\es=c.map λp=>(kV p.1,p.2)
theorem Inv.dcr{X:Cx}{pins:List 'i'}{σ:St}{H:Hp}{s:GT}(I:Inv X pins σ H s){a:Addr}(h:DcR H a es):(a==abG)=false/\∃o c f,s.heap.get? a=some o/\o.ExactDict/\o.data = .dict c f/\abL (λ(e:V×V) (d:aca)=>RelV e.1 d.key/\RelV e.2 d.val) es c.toList:=by
 rcases h with⟨m,e,rfl⟩|⟨m,e,rfl⟩
 .obtain⟨⟨hs,hz,o,c,f,h1,h2,h3,h4⟩,_⟩:=(show ObjOk X.prog X.w H s.heap a (dX a m)from e.ok I.hok);refine⟨hs,o,c,f,h1,h2,h3,?_⟩;clear e hz;generalize c.toList=l at h4;rename_i z;clear z
  induction h4 with
  |nil=>exact .nil
  |cons q _ k=>exact .cons q.2 k
 .obtain⟨hz,hs,vs,kv,o,c,f,h1,h2,h3,h4,h5,h6⟩:=qG I.hok e;refine⟨hs,o,c,f,h1,h2,h3,?_⟩;generalize c.toList=l at h5;clear h6 h4 h3 h2 hz e
  induction kv generalizing l with
  |nil=>cases h5;exact .nil
  | cons q _ k=>
   cases h5 with
   |cons p t r=>
    rw[aaq];refine .cons ⟨?_,?_⟩ (k _ r)
    .rw[<-q.1]at p;exact Pq p
    .rw[t];exact q.2
theorem IsDc.dcr{K:Kd}{H:Hp}{a:Addr}(h:IsDc K H a kvs):∃es,DcR H a es/\PDc K H kvs es:=by
 rcases h with⟨es,r,g⟩|⟨es,r,_,_,g⟩
 .exact⟨_,.inr ⟨es,r,rfl⟩,Bo g⟩
 .exact⟨_,.inl ⟨es,r,rfl⟩,CN g⟩
def VX(K:Kd)(to:TE):TE:=λσ H Q=>to σ H λx c=>∃a es kvs,x = .ref a/\DcR c a es/\PDc K c kvs es/\SrtT (il kvs)/\∀(d:List aD) (B:Addr) (g:Nat->HO) (n:Nat) (L:Addr) (e:List V),d.Perm (il kvs)->True->(∀j,c (B+j)=none)->updR c B g n L=none->DenAll K (upd (updR c B g n) L (.lst e)) d e->Q (.ref L) (upd (updR c B g n) L (.lst e))
theorem IZ{to:TE}(hc:X.calm=true)(hu:X.A.units+64<cLine)(hg:Gl X "sorted")(hm:X.mg "sorted" = none)(ho:PE X o to)(w:abw o "items" X.env (eval o X.env)=eval o X.env:=by rfl)(r:(apos.endLine==cpos.line)=true:=by rfl)
  (N:aab [.Call (.Attribute o "items" apos) [] [] cpos] X.env=[(false,eval (.Call (.Attribute o "items" apos) [] [] cpos) X.env)]:=by rfl):PE X (.Call (.Name "sorted" p0) [.Call (.Attribute o "items" apos) [] [] cpos] [] pos) (VX X.kx to):=by
 intro pins s σ H Q I h;refine acD (lh I hg hm mr ?_);refine aev ?_ N rfl;rw[N];refine agY ?_;refine wpAny_Call_method0_late w r (thn (ho pins s σ H _ I h) λv s1 ⟨x,T,I1,r1,q1⟩=>?_);let⟨a,es,kvs,rfl,dc,pd,V,q⟩:=q1;cases r1;let⟨O,ob,c,Y,S,g2,g3,g4⟩:=I1.dcr dc;have he:EntAt s1.heap a c Y:=⟨ob,S,g2,g3⟩;refine⟨"dict","dict.items",afR,afS,PySem.F.type_dict_items,⟨ob,S,g2.1⟩,λb e=>by cases e;exact⟨ob,S,g2.2.1⟩,aeh rfl (PySem.evalArgs_none (zt O he ?_))⟩;refine ag9 ?_;have kv:∀b o,s1.heap.get? b=some o->(s1.heap.push {cls:=.type "dict_items",data:=.fields #[.ref a]}).get? b=some o:=λb o q=>Io _ q;have hl:es.length=c.size:=by have:=g4.length;simpa using this
 have hil:(il kvs).length=es.length:=by unfold il;rw[iO,pd.length]
 have hn:=V.ok.n;have W:Inv X pins σ T {s1 with heap:=s1.heap.push {cls:=.type "dict_items",data:=.fields #[.ref a]} }:=I1.kept (t':=s1.toks) kv;have m:(s1.heap.push {cls:=.type "dict_items",data:=.fields #[.ref a]}).get? s1.heap.objs.size=some {cls:=.type "dict_items",data:=.fields #[.ref a]}:=aal _ rfl;have M:EntAt (s1.heap.push {cls:=.type "dict_items",data:=.fields #[.ref a]}) a c Y:=he.keep λo q=>kv _ _ q;have la:a<s1.heap.objs.size:=aao S;generalize hS2:({s1 with heap:=s1.heap.push {cls:=.type "dict_items",data:=.fields #[.ref a]} }:GT)=s2 at W⊢;have hh2:s2.heap=s1.heap.push {cls:=.type "dict_items",data:=.fields #[.ref a]}:=by rw[<-hS2]
 rw[<-hh2]at m M;have lv:s1.heap.objs.size<s2.heap.objs.size:=aao m;have lay:∀(h':aaZ) (d:Addr),(∀b o,s2.heap.get? b=some o->h'.get? b=some o)->s2.heap.objs.size≤d+1->(∀j (A:j<c.size),h'.get? (d+1+j)=some {cls:=.type "tuple",data:=.seq #[c[j].key,c[j].val]})->Inv X pins σ (updR T (d+1) (itmG es) es.length) {s2 with heap:=h' }:=λh' d k z tp=>by
  refine W.laidR (t':=s2.toks) k z λj A=>?_;let⟨ev,t,U,D⟩:=Paired.at g4 (i:=j) (y:=c[j]) (by simp[show j<c.size by omega]);have eg:itmG es j = .tup [ev.1,ev.2]:=by unfold itmG;rw[bH t]
  rw[eg];exact⟨by show 2≤aak;rw[aas];decide,[c[j].key,c[j].val],.cons U (.cons D .nil),⟨_,tp j ∅,rfl,rfl,_,rfl⟩⟩
 have K:∀(d:Addr) (f:Array Ad),f.size=c.size->(∀(j:Nat) u,f[j]?=some u->u = .ref (d+1+j))->Vals (tJ (d+1) es.length) f.toList:=λd f az ar=>DI (by have z1:f.toList.length=f.size:=acp;unfold tJ;rw[iO,aa2,z1,az,hl]) λj x u t U=>by
  unfold tJ at t;rw[aah]at t;let⟨j',D,rfl⟩:=aek.mp t;have F:j<es.length:=by have:=(AD.mp D).1;rwa[aa2]at this
  rw[ab5 F]at D;rw[adl]at U;rw[ar j u U,aay D];exact rfl
 have fr:∀(d:Addr),s2.heap.objs.size≤d+1->∀j,T (d+1+j)=none:=λd z j=>W.hok.fresh (aaA z (acd _ _));refine zh (s:=s2) (C:=λh vs=>∃d:Addr,s2.heap.objs.size≤d+1/\(∀j (A:j<c.size),h.get? (d+1+j)=some {cls:=.type "tuple",data:=.seq #[c[j].key,c[j].val]})/\Vals (tJ (d+1) es.length) vs) V.ok V.tot ∅ (λP E hP=>?_) ?_
 .refine zF (St:=λd=>StI s2.heap.objs.size d a c Y) (P:=λd=>PrI s2.heap.objs.size d c) (n:=c.size) ⟨_,m,rfl⟩ (.inl rfl) (by rw[aas];omega) (λs3 Q3 E3 hT q=>yQ hT q) (λs3 Q3 E3 k0 ⟨oS,hS⟩ hq=>?_) λd h' f k zz az pz=>?_
  .have lS:s2.heap.objs.size<s3.heap.objs.size:=aao hS;have J:EntAt s3.heap a c Y:=M.keep λo q=>k0 _ _ q;refine Cr (k0 _ _ m) J λh' Z sz hk=>hq h' _ (abp lS) (Jj (W.ok.hd hc) lS (abp (aej la lv)) (abp (aej la (aej lv lS)))) ⟨J.keep λo q=>hk _ _ q,sz,.inl ⟨_,_,Z⟩⟩ hk (CW _)
  .obtain⟨l,z',tp',ar'⟩:∃l:Addr,s2.heap.objs.size≤l+1/\(∀j (A:j<c.size),h'.get? (l+1+j)=some {cls:=.type "tuple",data:=.seq #[c[j].key,c[j].val]})/\∀(j:Nat) u,f[j]?=some u->u = .ref (l+1+j):=by
    by_cases e0:c.size=0
    .exact⟨s2.heap.objs.size,afp _,λj A=>by omega,λj u e=>by have:=(Array.getElem?_eq_some_iff.mp e).1;omega⟩
    .have get:∀j,j<c.size->∃u,f[j]?=some u:=λj A=>⟨_,ab8 (show j<f.size by omega)⟩;let⟨u0,t⟩:=get 0 ∅;have l0:=(pz 0 u0 t).1;refine⟨d,abR (ael l0),λj A=>?_,λj u e=>(pz j u e).2.1⟩;let⟨u,e⟩:=get j A;let⟨_,_,F,q⟩:=pz j u e;exact q
   have R:=K l f az ar';have I':=lay h' l k z' tp';exact hP h' f.toList k (KH I' V.ok.lay (uq (fr l z') pd) R) ⟨l,z',tp',R⟩
 .rintro h1 h2 vs p L e k1 ⟨d,z,tp,R⟩ r1 k2 hL hl2 hp;subst hL;have I3:=lay h1 d k1 z tp;have G:updR T (d+1) (itmG es) es.length h1.objs.size=none:=I3.hok.fresh (aaa _);let⟨o1,o2⟩:=QO hp;have hpl:p.length=c.size:=by have:=List.Perm.length_eq hp;rw[aa2]at this;omega
  exact⟨.ref h1.objs.size,_,I3.laid (t':=s2.toks) k2 (aaa _) (show ObjOk X.prog X.w _ _ _ (.lst (p.map λi=>(tJ (d+1) es.length).getD i .non))from⟨by rw[iO,aas];omega,_,e,tQ R p,by rw[hl2]⟩),rfl,q _ _ _ _ _ _ o1 o2 (fr d z) G ((xz (uq (fr d z) pd) p).mono (bj (.inl G)))⟩
theorem z5{H:Hp}(fr:∀j,H (B+j)=none)(h:updR H B g n b=none):H b=none:=by
 cases e:H b with
 |none=>rfl
 |some o=>rw[dI fr e]at h;cases h
theorem Rel.layR{K:Kx}{c:Al}{m:MSt}{σ:St}{H:Hp}{B:Addr}{g:Nat->HO}(R:Rel K c m σ H)(fr:∀j,H (B+j)=none):∀n,Rel K c m σ (updR H B g n)
 |0=>R
 |n+1=>(Rel.layR R fr n).lay (by rw[jH λj h z=>abp h (agP z)];exact fr n)
theorem Jh{c:Al}{H:Hp}(fr:∀j,H (B+j)=none)(n:Nat):Frm c H (updR H B g n):=λb o e _=>dI fr e
abbrev J8(w:WE):WE:=λm K=>w m λr c=>∃kvs,dcM c kvs r/\(isKd kvs=true\/kyA kvs=true)/\srtR (il kvs) λd=>K (.new d) c
theorem Jd{w:WE}(A:X.A.units+64<cLine)(E:X.mg "sorted" = none)(K:ME X o w)(hc:X.calm=true:=by rfl)(M:Gl X "sorted":=by rfl)(h:abw o "items" X.env (eval o X.env)=eval o X.env:=by rfl)(c:(apos.endLine==cpos.line)=true:=by rfl)
  (p:aab [.Call (.Attribute o "items" apos) [] [] cpos] X.env=[(false,eval (.Call (.Attribute o "items" apos) [] [] cpos) X.env)]:=by rfl):ME X (.Call (.Name "sorted" p0) [.Call (.Attribute o "items" apos) [] [] cpos] [] pos) (J8 w):=(IZ hc A M E K h c p).wk<|by
 intro σ H Q ⟨t,m,S,N,C,f⟩;refine⟨t,m,_,N,C,λr J v P k n R rr F=>?_⟩;let⟨kvs,dk,hk,z,k⟩:=k;let⟨a,rfl,dc⟩:=rr.dc R dk hk;let⟨es,dc,u⟩:=dc.dcr;refine⟨a,es,kvs,rfl,dc,u,z,λl B g q L y I O fr e d=>?_⟩;have G:=Rel.layR (g:=g) R fr q;have D:=F.trans (Jh (g:=g) fr q);exact f _ J _ _ (k l I O) n (G.lay e) (RelR.base R F (⟨L,y,rfl,z5 fr e,aA,d⟩)) (D.trans (cC e))
theorem Fi{w:WE}(e:X.A.units+64<cLine)(l:X.mg "sorted" = none)(f:EE X o w)(hc:X.calm=true:=by rfl)(k:Gl X "sorted":=by rfl)(c:abw o "items" X.env (eval o X.env)=eval o X.env:=by rfl)(h:(apos.endLine==cpos.line)=true:=by rfl)
  (d:aab [.Call (.Attribute o "items" apos) [] [] cpos] X.env=[(false,eval (.Call (.Attribute o "items" apos) [] [] cpos) X.env)]:=by rfl):EE X (.Call (.Name "sorted" p0) [.Call (.Attribute o "items" apos) [] [] cpos] [] pos) (J8 w):=⟨Jd e l f.h hc k c h d⟩
end
end L2
namespace L2
open PySem PySem.Spec PyProof.Rows
section
variable {X:Cx}{i:Nat}{x:Str}{e:Expr}{w:WE}{op:ae3}{p pos:Pos}{f:Int->Int->Int}
def JC(X:Cx)(op:ae3)(f:Int->Int->Int):Prop:=PIp X op λx y H Q=>∃i j,x = .int i/\y = .int j/\Q (.int (f i j)) H
def KL:JC X .Add (· + ·):=V9
def RJ:JC X .Sub (· - ·):=WJ
def wAug(i:Nat)(w:WE)(f:Int->Int->Int):WS:=λD m=>∃a:Int,m.vs[i]?=some (~~~(.int a))/\w m λr c=>∃b:Int,r = .imm (.int b)/\D.nx (c.setV i (.imm (.int (f a b))))
theorem Sg(C:X.N.Nodup)(l:X.N[i]?=some x)(o:ME X e w)(h:JC X op f)(j:X.env.scope.names.lookup x=some .local:=by rfl):MS X (.AugAssign (.Name x p) op e pos) (wAug i w f):=(Vh C l (.inl j) o h (.inr j)).wk<|by
 intro D I H ⟨c,m,J,g,⟨a,E,u⟩,k⟩;let⟨v,B,s⟩:=g.var i _ E;have z:=s;refine⟨v,B,c,m,_,g,u,λr G y d ⟨b,A,q⟩ n R rr F=>?_⟩;subst A;have t:=rr;have R2:=cG (i:=i) (r:=.imm (.int (f a b))) R (show Den X.kx.toKd d (.int (f a b)) (.int (f a b)) by simp only[Den]);exact⟨a,b,z,t,k.nx c _ _ d q n R2 (.of R2 F)⟩
theorem wf(i:Nat)(c:X.N.Nodup)(a:EE X e w)(h:JC X op f)(d:X.N[i]?=some x:=by rfl)(b:X.env.scope.names.lookup x=some .local:=by rfl):ES X (.AugAssign (.Name x p) op e pos) (wAug i w f):=⟨Sg c d a.h h b⟩
def Nh{D:f7}{m:MSt}(a:Int)(d:m.vs[i]?=some (~~~(.int a)))(h:w m λr c=>∃b:Int,r = .imm (.int b)/\D.nx (c.setV i (.imm (.int (f a b))))):wAug i w f D m:=⟨a,d,h⟩
end
end L2
namespace K
open PySem L2 M7 M8
variable{h:Hall}{L:List (Pk×Int)}{a:Pk}{r1 r2:Rule}{t:Tr}{α:Type}
def alk(h:Hall):Bool:=(h.ss.map Srv.d).all λd=>aad d ((h.ss.map Srv.d).getD 0 .none)
def c9(h:Hall)(l:List Nat):List Nat:=if alk h=true then srt l else l
def yH(h:Hall)(l:List Nat):(c9 h l).Perm l:=by
 unfold c9;split
 .exact iR l
 .exact .refl _
def uH(h:Hall)(l:List Nat):c9 h (c9 h l)=c9 h l:=by
 unfold c9;split
 .exact dt (b7 l)
 .rfl
theorem CG(a:alk h=true){s t:Srv}(c:s∈h.ss)(f:t∈h.ss):s.r=t.r:=by
 have one:∀s∈h.ss,aad s.d ((h.ss.map Srv.d).getD 0 .none)=true:=λs c=>abA.mp a _ (aar.mpr ⟨s,c,rfl⟩);let⟨d,ss,e⟩:∃d ss,h.ss=d::ss:=by
  cases e:h.ss with
  |nil=>rw[e]at c;cases c
  |cons a b=>exact⟨a,b,rfl⟩
 have key:∀s∈h.ss,s.r=d.r:=λs c=>by
  have:=one s c;rw[e]at this;have q:(aad (.tuple [.int s.a,.int s.b]) (.tuple [.int d.a,.int d.b])&&(aad (.int (s.r:Int)) (.int (d.r:Int))&&true))=true:=this;simp only[acy,aaH]at q;rw[bT]at q;exact of_decide_eq_true q.2
 rw[key s c,key t f]
theorem gj{l:List Nat}(L:Lines h l):Lines h (c9 h l):=by
 unfold c9;split
 .rename_i a;have p:=(iR l);refine⟨p.length_eq.trans L.1,λi s x d e=>?_⟩;have f:=p.mem_iff.mp (Ld e);let⟨j,c⟩:∃j,l[j]?=some _:=adx f;have b:j<h.ss.length:=by rw[<-L.1];exact(AD.mp c).1
  have:=L.2 j _ x (lD b) c;rw[CG a (Ld d) (acZ b)];exact this
 .exact L
theorem yd{l:List Nat}{ns:List Int}(f:ns.Perm (l.map λ(k:Nat)=>(k:Int)))(g:ns.Pairwise (· ≥ ·)):ns=(srt l).map λ(k:Nat)=>(k:Int):=by
 have d:∀x∈ns,((x.toNat:Nat):Int)=x:=λx e=>by
  let⟨k,_,rfl⟩:=aar.mp (f.mem_iff.mp e);rfl
 have o:(ns.map agI).map (λ(k:Nat)=>(k:Int))=ns:=by
  rw[abD]
  conv=>rhs;rw[<-ahz ns]
  exact acT λx e=>d x e
 have p:(ns.map agI).Perm l:=by
  have:=f.map agI;rw[abD]at this;have n:(l.map (agI∘λ(k:Nat)=>(k:Int)))=l:=by
   (conv=>rhs;rw[<-ahz l])
   exact acT λx _=>rfl
  rwa[n]at this
 have i:Fall (ns.map agI):=by
  unfold Fall;rw[List.pairwise_map];refine g.imp_of_mem λ{a b} j m c=>?_;have:=d a j;have:=d b m;show b.toNat≤a.toNat;have:b≤a:=c;omega
 rw[qf i p,o]
def uf(l:List Nat):natD l=(l.map λ(k:Nat)=>(k:Int)).map .int:=by unfold natD;rw[abD];rfl
def kst(h:Hall)(r:Rule)(l:List Nat)(m:Mv):List Nat×Wd:=(c9 h (f8 h r l 0 m).1,(f8 h r l 0 m).2.2)
def aw(w:Wd):Int:=if w = .away then 1 else 0
abbrev Tr:=List Nat×List Nat×Int
def bth(h:Hall)(r1 r2:Rule)(t:Tr)(m:Mv):Tr:=((kst h r1 t.1 m).1,(kst h r2 t.2.1 m).1,t.2.2+aw (kst h r2 t.2.1 m).2-aw (kst h r1 t.1 m).2)
def bad(t:Tr):Bool:=decide (t.2.2<0)||decide (((t.2.1.sum:Nat):Int)+t.2.2<((t.1.sum:Nat):Int))
def mvs(h:Hall):List Mv:=(ordK h.ss.length h.ss.length).map Mv.come++(aav h.ss.length).map Mv.done++[.still]
def tU(b:h.Ok):∀m∈mvs h,m.Ok h:=λm e=>by
 rcases aaR.mp e with q|q
 .obtain q|q:=aaR.mp q
  .obtain⟨o,ho',rfl⟩:=aar.mp q;let⟨d,f,c⟩:=JH _ b.n4 b.n1 o ho';exact⟨d,c,f⟩
  .obtain⟨k,hk,rfl⟩:=aar.mp q;exact ae1.mp hk
 .rw[aaf.mp q];exact trivial
inductive RcT(h:Hall)(r1 r2:Rule):Tr->Prop
 |here:RcT h r1 r2 (zer h,zer h,0)
 |next {t:Tr}{m:Mv}:RcT h r1 r2 t->m∈mvs h->RcT h r1 r2 (bth h r1 r2 t m)
structure Nvr(h:Hall)(r1 r2:Rule)(P:List Tr):Prop where
 b0:(zer h,zer h,0)∈P
 nb:∀t∈P,bad t=false
 cl:∀t∈P,∀m∈mvs h,∃u∈P,u.1=(bth h r1 r2 t m).1/\u.2.1=(bth h r1 r2 t m).2.1/\u.2.2≤(bth h r1 r2 t m).2.2
def trD(t:Tr):aD:=.tuple [lnD t.1,lnD t.2.1,.int t.2.2]
structure TrOk(h:Hall)(t:Tr):Prop where
 x:Lines h t.1
 y:Lines h t.2.1
 kx:c9 h t.1=t.1
 ky:c9 h t.2.1=t.2.1
 d0:0≤t.2.2
 d1:t.2.2<10^15
abbrev Pk:=List Nat×List Nat
def pkD(p:Pk):aD:=.tuple [lnD p.1,lnD p.2]
def ldD(L:List (Pk×Int)):List (aD×aD):=L.map λq=>(pkD q.1,.int q.2)
def jk(a b:List Nat):aad (lnD a) (lnD b)=decide (a=b):=by
 have:=SF (a,0) (b,0);have e:aad (ptD (a,0)) (ptD (b,0))=aad (lnD a) (lnD b):=by
  show(aad (lnD a) (lnD b)&&(aad (.int 0) (.int 0)&&true))=_;rw[show aad (.int 0) (.int 0)=true from rfl,Bool.true_and,acy]
 rw[<-e,this];simp
def KG(p q:Pk):aad (pkD p) (pkD q)=decide (p=q):=by
 show(aad (lnD p.1) (lnD q.1)&&(aad (lnD p.2) (lnD q.2)&&true))=_;rw[jk,jk,acy,abq];simp[ahj]
def setL(a:Pk)(v:Int):List (Pk×Int)->List (Pk×Int)
 |[]=>[(a,v)]
 |q::L=>if q.1=a then(q.1,v)::L else q::setL a v L
theorem AQ(a:Pk)(v:Int):∀L:List (Pk×Int),putP (pkD a) (.int v) (ldD L)=ldD (setL a v L)
 |[]=>rfl
 |q::L=>by
  show(if aad (pkD q.1) (pkD a)=true then _ else _::putP (pkD a) (.int v) (ldD L))=ldD (if q.1=a then(q.1,v)::L else q::setL a v L);rw[KG]
  by_cases e:q.1=a
  .rw[if_pos (decide_eq_true e),if_pos e];rfl
  .rw[if_neg (by rw[decide_eq_false e];exact aap),if_neg e,AQ a v L];rfl
theorem iZ{a:Pk}{v:Int}:∀{L:List (Pk×Int)}{p:Pk×Int},p∈setL a v L->p=(a,v)\/p∈L
 |[],p,h=>.inl (aaf.mp h)
 | q::L,p,h=>by
  unfold setL at h
  split at h
  .rename_i e;rcases aag.mp h with z|z
   .rw[z,e];exact .inl rfl
   .exact .inr (aai _ z)
  .rcases aag.mp h with z|z
   .rw[z];exact .inr aan
   .exact(iZ z).imp id λy=>aai _ y
theorem Jr{p:Pk}(b:h.Ok)(c:Lines h p.1)(f:Lines h p.2):kyD (pkD p)=true:=by
 have n:∀l:List Nat,hkA (natD l)=true:=λl=>by
  induction l with
  |nil=>rfl
  |cons x l i=>show(hkD _&&hkA (natD l))=true;rw[i];rfl
 have s:=bc (k:=1) (ds:=[lnD p.1,lnD p.2]) λd hd=>by
  rcases aag.mp hd with e|e
  .rw[e];exact bc (bz _)
  .rw[aaf.mp e];exact bc (bz _)
 have hk:hkD (pkD p)=true:=by
  show(hkD (lnD p.1)&&(hkD (lnD p.2)&&true))=true;rw[show hkD (lnD p.1)=true from n p.1,show hkD (lnD p.2)=true from n p.2];rfl
 unfold kyD;rw[hk,show(pkD p).canLay0=true from s.cl,decide_eq_true (show(pkD p).depth≤7 from aaA s.dp ⋯)];rfl
def z9(c:h.Ok)(X:∀p∈L,Lines h p.1.1/\Lines h p.1.2):kyA (ldD L)=true:=by
 unfold kyA ldD;rw[adC,abA];exact λp b=>Jr c (X p b).1 (X p b).2
def Lj(t u:Tr):aad (trD t) (trD u)=decide (t=u):=by
 show(aad (lnD t.1) (lnD u.1)&&(aad (lnD t.2.1) (lnD u.2.1)&&(aad (.int t.2.2) (.int u.2.2)&&true)))=_;rw[jk,jk,acy,show aad (.int t.2.2) (.int u.2.2)=decide (t.2.2=u.2.2)from by simp[aad,adg],abq];simp[ahj,and_assoc]
def jw:c9 h (zer h)=zer h:=List.perm_replicate.mp (yH h (zer h))
def lkL(a:Pk):List (Pk×Int)->Option Int
 |[]=>none
 |q::L=>if q.1=a then some q.2 else lkL a L
theorem BJ(a:Pk):∀L:List (Pk×Int),cU (pkD a) (ldD L)=(lkL a L).map .int
 |[]=>rfl
 |q::L=>by
  show(if aad (pkD q.1) (pkD a)=true then some (abj q.2)else cU (pkD a) (ldD L))=(if q.1=a then some q.2 else lkL a L).map .int;rw[KG]
  by_cases e:q.1=a
  .rw[if_pos (decide_eq_true e),if_pos e];rfl
  .rw[if_neg (by rw[decide_eq_false e];exact aap),if_neg e];exact BJ a L
def smL(L:List (Pk×Int)):Nat:=(L.map λq=>q.2.toNat).sum
theorem sJ{a:Pk}{v:Int}:∀{L:List (Pk×Int)},lkL a L=none->setL a v L=L++[(a,v)]
 |[],_=>rfl
 |q::L,h=>by
  unfold lkL at h;unfold setL
  split at h
  .cases h
  .rename_i e;rw[if_neg e,sJ h];rfl
theorem uB{a:Pk}{v w:Int}:∀{L:List (Pk×Int)},lkL a L=some w->smL (setL a v L)+w.toNat=smL L+v.toNat/\(setL a v L).length=L.length/\(setL a v L).map (·.1)=L.map (·.1)
 |q::L,h=>by
  unfold lkL at h;unfold setL
  split at h
  .rename_i e;cases h;rw[if_pos e];refine⟨?_,rfl,rfl⟩;simp only[smL,aaq,afI];omega
  .rename_i e;let⟨c,d,b⟩:=uB (v:=v) h;rw[if_neg e];refine⟨?_,by simp[d],by simp[b]⟩;simp only[smL,aaq,afI]at c⊢;omega
theorem J4{a:Pk}:∀{L:List (Pk×Int)},lkL a L=none->a∉L.map (·.1)
 |[],_,h=>by cases h
 | q::L,e,h=>by
  unfold lkL at e
  split at e
  .cases e
  .rename_i n;rcases aag.mp h with z|z
   .exact n z.symm
   .exact J4 e z
theorem qF{a:Pk}{w:Int}:∀{L:List (Pk×Int)},lkL a L=some w->(a,w)∈L
 |q::L,e=>by
  unfold lkL at e
  split at e
  .rename_i n;cases e;rw[<-n];exact aan
  .exact aai _ (qF e)
structure DkOk(h:Hall)(L:List (Pk×Int)):Prop where
 nd:(L.map (·.1)).Nodup
 ln:∀p∈L,Lines h p.1.1/\Lines h p.1.2
 nn:∀p∈L,0≤p.2
 kp:∀p∈L,c9 h p.1.1=p.1.1/\c9 h p.1.2=p.1.2
def kL(h:Hall):List (List Nat):=(M3.allR h.rs).filter λl=>decide (c9 h l=l)
def nP(h:Hall):Nat:=(kL h).length*(kL h).length
theorem DkOk.len(D:DkOk h L):L.length≤nP h:=by
 have:=mz D.nd (m:=(kL h).flatMap λl=>(kL h).map λk=>(l,k)) λy d=>by
  let⟨p,c,rfl⟩:=aar.mp d;exact acb.mpr ⟨p.1.1,adW.mpr ⟨mf (D.ln p c).1.fits,decide_eq_true (D.kp p c).1⟩,aar.mpr ⟨p.1.2,adW.mpr ⟨mf (D.ln p c).2.fits,decide_eq_true (D.kp p c).2⟩,rfl⟩⟩
 rw[iO]at this;refine aaA this (af0 ?_);unfold nP;generalize kL h=A;have:∀B:List (List Nat),(B.flatMap λl=>A.map λk=>(l,k)).length=B.length*A.length:=λB=>by
  induction B with
  |nil=>simp
  |cons b B i=>rw[List.flatMap_cons,aam,i,iO,aau,aeX,Nat.add_comm]
 exact this A
def pot(h:Hall)(M:Nat)(L:List (Pk×Int)):Nat:=smL L+(nP h-L.length)*(M+2)
theorem DkOk.put{M:Nat}{v:Int}(D:DkOk h L)(l:Lines h a.1)(n:Lines h a.2)(j:c9 h a.1=a.1/\c9 h a.2=a.2)(i:0≤v)(C:v≤(M:Int)+1)(d:v<(lkL a L).getD (v+1)):DkOk h (setL a v L)/\pot h M (setL a v L)+1≤pot h M L/\((setL a v L).length=L.length->∃w,(a,w)∈L/\v<w)/\L.length≤(setL a v L).length:=by
 cases e:lkL a L with
 | none=>
  have u:=sJ (v:=v) e;have o:DkOk h (L++[(a,v)]):=by
   refine⟨?_,λp b=>?_,λp b=>?_,λp b=>?_⟩
   .rw[aaJ];exact acN.mpr ⟨D.nd,ac1 _ _,λx g y q z=>J4 e (by have:=z.trans (aaf.mp q);rw[show x=a from this]at g;exact g)⟩
   .rcases aaR.mp b with z|z
    .exact D.ln p z
    .rw[aaf.mp z];exact⟨l,n⟩
   .rcases aaR.mp b with z|z
    .exact D.nn p z
    .rw[aaf.mp z];exact i
   .rcases aaR.mp b with z|z
    .exact D.kp p z
    .rw[aaf.mp z];exact j
  have le:=o.len;rw[u];refine⟨o,?_,λz=>?_,'a'⟩
  .rw[aam]at le;have r:L.length+1≤nP h:=le;unfold pot;rw[aam,show smL (L++[(a,v)])=smL L+v.toNat by simp[smL]];let⟨k,hk⟩:∃k,nP h=L.length+1+k:=⟨nP h-(L.length+1),∅⟩;rw[hk,show L.length+1+k-(L.length+[(a,v)].length)=k by simp,show L.length+1+k-L.length=k+1 by omega,aeX];omega
  .simp at z
 | some w=>
  rw[e]at d;have c:v<w:=d;let⟨B,f,A⟩:=uB (v:=v) e;have m:=qF e;have s:=D.nn _ m;refine⟨⟨by rw[A];exact D.nd,λp b=>?_,λp b=>?_,λp b=>?_⟩,?_,λ_=>⟨w,m,c⟩,af0 f.symm⟩
  .rcases iZ b with z|z
   .rw[z];exact⟨l,n⟩
   .exact D.ln p z
  .rcases iZ b with z|z
   .rw[z];exact i
   .exact D.nn p z
  .rcases iZ b with z|z
   .rw[z];exact j
   .exact D.kp p z
  .unfold pot;rw[f];dsimp only at s;omega
def uG(b:h.Ok)(d:r1.Ok h)(c:r2.Ok h)(n1:r1≠.turns)(n2:r2≠.turns){m:Mv}(R:Lines h t.1/\Lines h t.2.1)(e:m∈mvs h):Lines h (bth h r1 r2 t m).1/\Lines h (bth h r1 r2 t m).2.1:=by
 have o:=tU b _ e;exact⟨gj (gl b d (t:=0) ⟨R.1,λz=>(n1 z).elim,⋯⟩ o).ln,gj (gl b c (t:=0) ⟨R.2,λz=>(n2 z).elim,⋯⟩ o).ln⟩
theorem n9(b:h.Ok)(d:r1.Ok h)(c:r2.Ok h)(n1:r1≠.turns)(n2:r2≠.turns)(R:RcT h r1 r2 t):Lines h t.1/\Lines h t.2.1:=by
 induction R with
 |here=>exact⟨(jM b r1).ln,(jM b r1).ln⟩
 |next _ e i=>exact uG b d c n1 n2 i e
theorem Vb{m:Mv}:(bth h r1 r2 t m).2.2≤t.2.2+1:=by
 unfold bth aw;dsimp only
 split<;>split<;>omega
def Vv(b:bad t=false):0≤t.2.2:=by
 unfold bad at b;simp at b;exact b.1
def ldT(L:List (Pk×Int)):List Tr:=L.map λp=>(p.1.1,p.1.2,p.2)
theorem TM(D:DkOk h L)(V:∀p∈L,p.2≤1000000):∀t∈ldT L,TrOk h t:=λt c=>by
 let⟨p,b,rfl⟩:=aar.mp c;have v:=V p b;exact⟨(D.ln p b).1,(D.ln p b).2,(D.kp p b).1,(D.kp p b).2,D.nn p b,show p.2<10^15 by omega⟩
theorem J5:∀{L:List (Pk×Int)},(L.map (·.1)).Nodup->∀p∈L,lkL p.1 L=some p.2
 |q::L,nd,p,b=>by
  rw[aaq,abb]at nd;unfold lkL;rcases aag.mp b with rfl|b
  .rw[if_pos rfl]
  .rw[if_neg λz=>nd.1 (by rw[z];exact aar.mpr ⟨p,b,rfl⟩)];exact J5 nd.2 p b
def stT(h:Hall):Tr:=(zer h,zer h,0)
def wlk(h:Hall)(r1 r2:Rule)(R:List Mv):Tr:=R.foldl (bth h r1 r2) (stT h)
def RunK(h:Hall)(R:List Mv):Prop:=∀m∈R,m∈mvs h
section
variable {h:Hall}{r1 r2:Rule}{R:List Mv}{m:Mv}{t u:Tr}{L:List (Pk×Int)}
def iQ:wlk h r1 r2 (R++[m])=bth h r1 r2 (wlk h r1 r2 R) m:=by unfold wlk;rw[ahk];rfl
def RunK.snoc(k:RunK h R)(c:m∈mvs h):RunK h (R++[m]):=λx b=>by
 rcases aaR.mp b with z|z
 .exact k x z
 .rwa[aaf.mp z]
def RunK.cut(k:RunK h (R++[m])):RunK h R/\m∈mvs h:=⟨λx b=>k x (abW _ b),k m (aaQ _ aan)⟩
structure LeT(u t:Tr):Prop where
 x:u.1=t.1
 y:u.2.1=t.2.1
 d:u.2.2≤t.2.2
def LeT.refl(t:Tr):LeT t t:=⟨rfl,rfl,agC _⟩
def LeT.trans{v:Tr}(a:LeT u t)(b:LeT t v):LeT u v:=⟨a.x.trans b.x,a.y.trans b.y,aep a.d b.d⟩
theorem LeT.bth(a:LeT u t):LeT (bth h r1 r2 u m) (bth h r1 r2 t m):=by
 unfold K.bth;have:=a.d;refine⟨by rw[a.x],by rw[a.y],?_⟩;dsimp only;rw[a.x,a.y];omega
theorem LeT.good(a:LeT u t)(b:bad u=false):bad t=false:=by
 have:=a.d;unfold bad at b⊢;rw[a.x,a.y]at b;simp only[acj,decide_eq_false_iff_not]at b⊢;omega
def yi:bad (stT h)=false:=by
 unfold bad stT;simp
def Cv(L:List (Pk×Int))(t:Tr):Prop:=∃p∈L,LeT (p.1.1,p.1.2,p.2) t
theorem sw{a:Pk}{v:Int}:∀L:List (Pk×Int),(a,v)∈setL a v L
 |[]=>aan
 |q::L=>by
  unfold setL;split
  .rename_i e;rw[<-e];exact aan
  .exact aai _ (sw L)
theorem uw{a:Pk}{v:Int}{p:Pk×Int}(n:p.1≠a):∀{L:List (Pk×Int)},p∈L->p∈setL a v L
 | q::L,b=>by
  unfold setL;rcases aag.mp b with rfl|b
  .rw[if_neg n];exact aan
  .split
   .exact aai _ b
   .exact aai _ (uw n b)
theorem Cv.set{v:Int}(c:Cv L t)(D:DkOk h L)(f:v<(lkL a L).getD (v+1)):Cv (setL a v L) t:=by
 let⟨p,g,b⟩:=c
 by_cases e:p.1=a
 .have el:=J5 D.nd p g;rw[e]at el;rw[el]at f;have f:v<p.2:=f;refine⟨(a,v),sw L,?_⟩;have d:p.2≤t.2.2:=b.d;subst e;exact⟨b.x,b.y,show v≤t.2.2 by omega⟩
 .exact⟨p,uw e g,b⟩
def YT{w:Int}(e:lkL a L=some w)(c:w≤t.2.2)(b:a=(t.1,t.2.1)):Cv L t:=⟨_,qF e,by subst b;exact⟨rfl,rfl,c⟩⟩
def Min(h:Hall)(r1 r2:Rule)(n:Nat):Prop:=∀R,RunK h R->R.length<n->bad (wlk h r1 r2 R)=false
def Sound(h:Hall)(r1 r2:Rule):Prop:=∀R,RunK h R->bad (wlk h r1 r2 R)=false
theorem Dt(k:RunK h R):RcT h r1 r2 (wlk h r1 r2 R):=by
 have go:∀(R:List Mv) (t:Tr),RunK h R->RcT h r1 r2 t->RcT h r1 r2 (R.foldl (bth h r1 r2) t):=λR=>by
  induction R with
  |nil=>exact λt _ q=>q
  |cons m R i=>exact λt k q=>i _ (λx b=>k x (aai _ b)) (.next q (k m aan))
 exact go R _ k .here
theorem JQ(R:List Mv):c9 h (wlk h r1 r2 R).1=(wlk h r1 r2 R).1/\c9 h (wlk h r1 r2 R).2.1=(wlk h r1 r2 R).2.1:=by
 have go:∀(R:List Mv) (t:Tr),c9 h t.1=t.1/\c9 h t.2.1=t.2.1->c9 h (R.foldl (bth h r1 r2) t).1=(R.foldl (bth h r1 r2) t).1/\c9 h (R.foldl (bth h r1 r2) t).2.1=(R.foldl (bth h r1 r2) t).2.1:=λR=>by
  induction R with
  |nil=>exact λt q=>q
  |cons m R i=>exact λt q=>i _ ⟨uH h _,uH h _⟩
 exact go R _ ⟨jw,jw⟩
theorem MQ:∀{R:List α},R≠[]->∃b m,R=b++[m]:=λ{R} h=>⟨R.dropLast,R.getLast h,(List.dropLast_concat_getLast h).symm⟩
end
abbrev Wy:=Option (Nat×Mv)
def CvD(T:List Tr)(P:List (List Mv))(d:Nat)(u:Tr):Prop:=∃(j:Nat) (p:List Mv) (t:Tr),P[j]?=some p/\T[j]?=some t/\p.length≤d/\LeT t u
def dU{l m:List α}{x:α}{k:Nat}(e:l[k]?=some x):(l++m)[k]?=some x:=by rw[aaC (AD.mp e).1];exact e
section
variable {h:Hall}{r1 r2:Rule}{L L':List (Pk×Int)}{T:List Tr}{Y:List Wy}{P:List (List Mv)}{C i j:Nat}{m:Mv}{p:List Mv}{t u:Tr}
theorem CvD.le{d d':Nat}(c:CvD T P d u)(hd:d≤d')(a:LeT u t):CvD T P d' t:=let ⟨j,p,x,e1,e2,e3,b⟩:=c;⟨j,p,x,e1,e2,aaA e3 hd,b.trans a⟩
theorem CvD.snoc{d:Nat}{x:Tr}{y:List Mv}(c:CvD T P d u):CvD (T++[x]) (P++[y]) d u:=let ⟨j,p,t,e1,e2,e3,b⟩:=c;⟨j,p,t,dU e1,dU e2,e3,b⟩
structure Qv(h:Hall)(r1 r2:Rule)(C:Nat)(L:List (Pk×Int))(T:List Tr)(Y:List Wy)(P:List (List Mv))(i j:Nat):Prop where
 dk:DkOk h L
 lt:T.length=P.length
 ly:Y.length=P.length
 tr:∀(k:Nat) (p:List Mv),P[k]?=some p->RunK h p/\T[k]?=some (wlk h r1 r2 p)
 wy:∀(k:Nat) (p:List Mv),P[k]?=some p->(p=[]/\Y[k]?=some none)\/∃(a:Nat) (m:Mv) (q:List Mv),a<k/\P[a]?=some q/\p=q++[m]/\Y[k]?=some (some (a,m))
 mo:∀(k l:Nat) (p q:List Mv),P[k]?=some p->P[l]?=some q->k≤l->p.length≤q.length
 cv:∀t∈T,Cv L t
 dl:∀x∈L,(x.1.1,x.1.2,x.2)∈T
 gd:∀t∈T,bad t=false
 p0:P[0]?=some []
 vt:∀t∈T,t.2.2≤(L.length:Int)
 pt:T.length+pot h (nP h) L≤C
 ex:∀(k:Nat) (p:List Mv) (m:Mv),k<i->P[k]?=some p->m∈mvs h->bad (wlk h r1 r2 (p++[m]))=false/\CvD T P (p.length+1) (wlk h r1 r2 (p++[m]))
 ej:∀(k:Nat) (p:List Mv) (m:Mv),k<j->P[i]?=some p->(mvs h)[k]?=some m->bad (wlk h r1 r2 (p++[m]))=false/\CvD T P (p.length+1) (wlk h r1 r2 (p++[m]))
 dp:∀(k:Nat) (p q:List Mv),P[i]?=some p->P[k]?=some q->q.length≤p.length+1
theorem Qv.zero(d:h.Ok):Qv h r1 r2 (1+pot h (nP h) [((zer h,zer h),0)]) [((zer h,zer h),0)] [stT h] [none] [[]] 0 0:=by
 have one:∀{α:Type}{x y:α}{k:Nat},[x][k]?=some y->y=x/\k=0:=λ{α x y k} e=>by
  cases k with
  |zero=>cases e;exact⟨rfl,rfl⟩
  |succ k=>simp at e
 exact {
  dk:=⟨ac1 _ _,λp b=>by rw[aaf.mp b];exact⟨(jM d r1).ln,(jM d r1).ln⟩,λp b=>by rw[aaf.mp b];exact agC _,λp b=>by rw[aaf.mp b];exact⟨jw,jw⟩⟩
  lt:=rfl
  ly:=rfl
  tr:=λk p e=>by let⟨rfl,rfl⟩:=one e;exact⟨(λ_ z=>(by cases z)),rfl⟩
  wy:=λk p e=>by let⟨rfl,rfl⟩:=one e;exact .inl ⟨rfl,rfl⟩
  mo:=λk l p q g f _=>by let⟨rfl,_⟩:=one g;exact abB _
  cv:=λt c=>⟨_,aan,by rw[aaf.mp c];exact .refl _⟩
  dl:=λx n=>by rw[aaf.mp n];exact aan
  gd:=λt c=>by rw[aaf.mp c];exact yi
  p0:=rfl
  vt:=λt c=>by rw[aaf.mp c];exact(by decide:(0:Int)≤1)
  pt:=aaa _
  ex:=λk p m z=>(by cases z)
  ej:=λk p m z=>(by cases z)
  dp:=λk p q g f=>by let⟨rfl,_⟩:=one f;exact abB _}
def Qv.here(X:Qv h r1 r2 C L T Y P i j)(b:T[i]?=some t):∃p,P[i]?=some p/\RunK h p/\t=wlk h r1 r2 p:=by
 have d:i<P.length:=by rw[<-X.lt];exact(AD.mp b).1
 have c:=lD d;let⟨k,e⟩:=X.tr i _ c;rw[b]at e;exact⟨_,c,k,aay e⟩
theorem Qv.runs(X:Qv h r1 r2 C L T Y P i j){N:Nat}(d:∀k q,P[k]?=some q->q.length<N->k<i):∀n R,R.length=n->n≤N->RunK h R->bad (wlk h r1 r2 R)=false/\CvD T P n (wlk h r1 r2 R)
 |0,R,l,_,_=>by
  rw[abi l];exact⟨yi,0,[],_,X.p0,(X.tr 0 [] X.p0).2,aaa _,.refl _⟩
 |n+1,R,l,hn,k=>by
  let⟨f,m,rfl⟩:=MQ (R:=R) (λz=>by rw[z]at l;cases l);let⟨o,r⟩:=k.cut;let⟨_,a,q,t,e,s,v,b⟩:=X.runs d n f (by simpa using l) ∅ o;let⟨x,y⟩:=X.ex a q m (d a q e ∅) e r;have g:=(X.tr a q e).2;rw[s]at g;cases g;have c:LeT (wlk h r1 r2 (q++[m])) (wlk h r1 r2 (f++[m])):=by rw[iQ,iQ];exact b.bth
  exact⟨c.good x,y.le ∅ c⟩
theorem Qv.min(X:Qv h r1 r2 C L T Y P i j)(b:P[i]?=some p):Min h r1 r2 (p.length+1):=λR k l=>(X.runs (N:=p.length) (λk q e z=>by
 rcases agb k i with y|y
 .exact y
 .have:=X.mo i k p q b e y;omega) _ R rfl ∅ k).1
theorem Qv.done(X:Qv h r1 r2 C L T Y P i j)(b:T.length≤i){R:List Mv}(k:RunK h R):bad (wlk h r1 r2 R)=false/\CvD T P R.length (wlk h r1 r2 R):=X.runs (N:=R.length) (λk q e _=>by
 have:=(AD.mp e).1;have:=X.lt;omega) _ R rfl (aaa _) k
theorem Qv.next(X:Qv h r1 r2 C L T Y P i (mvs h).length):Qv h r1 r2 C L T Y P (i+1) 0:={X with
 ex:=λk p m hk e f=>by
  by_cases z:k<i
  .exact X.ex k p m z e f
  .have:k=i:=by omega
   subst this;let⟨g,d⟩:=adx f;exact X.ej g p m (AD.mp d).1 e d
 ej:=λ_ _ _ z=>(by cases z)
 dp:=λk p q b l=>by
  have n:i<P.length:=by have:=(AD.mp b).1;omega
  have c:=lD n;have:=X.dp k _ q c l;have:=X.mo i (i+1) _ p c b ∅;omega}
theorem Qv.old(X:Qv h r1 r2 C L T Y P i j)(f:P[i]?=some p)(r:(mvs h)[j]?=some m)(b:bad (wlk h r1 r2 (p++[m]))=false)(c:Cv L (wlk h r1 r2 (p++[m]))):Qv h r1 r2 C L T Y P i (j+1):={X with
 ej:=λk o q hk e d=>by
  by_cases z:k<j
  .exact X.ej k o q z e d
  .have:k=j:=by omega
   subst this;rw[f]at e;rw[r]at d
   cases e;cases d
   let⟨x,s,a⟩:=c;let⟨l,g⟩:=adx (X.dl x s);have n:l<P.length:=by rw[<-X.lt];exact(AD.mp g).1
   exact⟨b,l,_,_,lD n,g,X.dp l p _ f (lD n),a⟩}
theorem d3{l:List α}{x y:α}{k:Nat}(e:(l++[x])[k]?=some y):l[k]?=some y\/(k=l.length/\y=x):=by
 rw[List.getElem?_append]at e
 split at e
 .exact .inl e
 .have hk:=(AD.mp e).1;simp at hk;have:k=l.length:=by omega
  subst this;simp at e;exact .inr ⟨rfl,e.symm⟩
def rq{l:List α}{x:α}:(l++[x])[l.length]?=some x:=by simp
theorem Qv.new(X:Qv h r1 r2 C L T Y P i j)(Q:h.Ok)(A:r1.Ok h)(y:r2.Ok h)(n1:r1≠.turns)(n2:r2≠.turns)(f:P[i]?=some p)(H:(mvs h)[j]?=some m)(r:u=wlk h r1 r2 (p++[m]))(b:bad u=false)(G:u.2.2<(lkL (u.1,u.2.1) L).getD (u.2.2+1)):Qv h r1 r2 C (setL (u.1,u.2.1) u.2.2 L) (T++[u]) (Y++[some (i,m)]) (P++[p++[m]]) i (j+1):=by
 have N:=Ld H;let⟨kp,I⟩:=X.tr i p f;have kr:=kp.snoc N;have s:=n9 Q A y n1 n2 (Dt (r1:=r1) (r2:=r2) kr);have K:=JQ (h:=h) (r1:=r1) (r2:=r2) (p++[m]);rw[<-r]at s K;have O:=Vv b;have S:u.2.2≤(L.length:Int)+1:=by
  rw[r,iQ];exact aep Vb (Int.add_le_add_right (X.vt _ (Ld I)) 1)
 have U:=X.dk.len;let⟨D,pt,q,le⟩:=X.dk.put (M:=nP h) (a:=(u.1,u.2.1)) s.1 s.2 K O ∅ G;have J:u.2.2≤((setL (u.1,u.2.1) u.2.2 L).length:Int):=by
  by_cases e:(setL (u.1,u.2.1) u.2.2 L).length=L.length
  .obtain⟨w,hw,vw⟩:=q e;have:=X.vt _ (X.dl _ hw);dsimp only at this;omega
  .omega
 have R:i<P.length:=(AD.mp f).1;exact {
  dk:=D
  lt:=by rw[aam,aam,X.lt];rfl
  ly:=by rw[aam,aam,X.ly];rfl
  tr:=λk q e=>by
   rcases d3 e with e|⟨rfl,rfl⟩
   .exact(X.tr k q e).imp id dU
   .exact⟨kr,by rw[<-X.lt,<-r];exact rq⟩
  wy:=λk q e=>by
   rcases d3 e with e|⟨rfl,rfl⟩
   .rcases X.wy k q e with⟨z1,z2⟩|⟨a,o,n,z1,z2,z3,z4⟩
    .exact .inl ⟨z1,dU z2⟩
    .exact .inr ⟨a,o,n,z1,dU z2,z3,dU z4⟩
   .exact .inr ⟨i,m,p,R,dU f,rfl,by rw[<-X.ly];exact rq⟩
  mo:=λk l q n d c E=>by
   rcases d3 d with d|⟨rfl,rfl⟩
   .rcases d3 c with c|⟨rfl,rfl⟩
    .exact X.mo k l q n d c E
    .have:=X.dp k p q f d;rw[aam];exact this
   .rcases d3 c with c|⟨rfl,rfl⟩
    .have:=(AD.mp c).1;omega
    .exact aaa _
  cv:=λt g=>by
   rcases aaR.mp g with z|z
   .exact(X.cv t z).set X.dk G
   .rw[aaf.mp z];exact⟨_,sw L,.refl _⟩
  dl:=λx B=>by
   rcases iZ B with rfl|B
   .exact aaQ _ aan
   .exact abW _ (X.dl x B)
  gd:=λt g=>by
   rcases aaR.mp g with z|z
   .exact X.gd t z
   .rw[aaf.mp z];exact b
  p0:=dU X.p0
  vt:=λt g=>by
   rcases aaR.mp g with z|z
   .have:=X.vt t z;omega
   .rw[aaf.mp z];exact J
  pt:=by rw[aam,agt];have:=X.pt;omega
  ex:=λk q o hk e v=>by
   rcases d3 e with e|⟨rfl,rfl⟩
   .exact(X.ex k q o hk e v).imp id .snoc
   .omega
  ej:=λk q o hk e F=>by
   rcases d3 e with e|⟨z,rfl⟩
   .by_cases z:k<j
    .exact(X.ej k q o z e F).imp id .snoc
    .have:k=j:=by omega
     subst this;rw[f]at e;rw[H]at F
     cases e;cases F
     rw[<-r];exact⟨b,P.length,p++[m],u,rq,by rw[<-X.lt];exact rq,'a',.refl _⟩
   .omega
  dp:=λk q n d c=>by
   rcases d3 d with d|⟨z,rfl⟩
   .rw[f]at d;cases d;rcases d3 c with c|⟨rfl,rfl⟩
    .exact X.dp k p n f c
    .simp
   .omega}
theorem Qv.dep(X:Qv h r1 r2 C L T Y P i j):∀(k:Nat) (p:List Mv),P[k]?=some p->p.length≤k:=λk=>by
 induction k using Nat.strongRecOn with
 |ind k b=>
  intro p e;rcases X.wy k p e with⟨rfl,_⟩|⟨a,m,q,l,c,rfl,_⟩
  .exact abB _
  .have:=b a l q c;rw[aam];simp only[agt];omega
theorem Qv.nvr(X:Qv h r1 r2 C L T Y P i j)(D:T.length≤i){Z:List Tr}(s:Z.Perm (ldT L)):Nvr h r1 r2 Z:=by
 have f:∀{t:Tr},t∈Z->∃x∈L,t=(x.1.1,x.1.2,x.2):=λ{t} n=>by
  let⟨x,d,e⟩:=aar.mp (s.mem_iff.mp n);exact⟨x,d,e.symm⟩
 have g:∀{x:Pk×Int},x∈L->(x.1.1,x.1.2,x.2)∈Z:=λ{x} d=>s.mem_iff.mpr (aar.mpr ⟨x,d,rfl⟩);refine⟨?_,λt n=>?_,λt n m z=>?_⟩
 .obtain⟨x,d,b⟩:=X.cv (stT h) (Ld (X.tr 0 [] X.p0).2);have E:=X.dk.nn x d;have F:x.2≤0:=b.d;have:(x.1.1,x.1.2,x.2)=(zer h,zer h,(0:Int)):=ae7 b.x (ae7 b.y (show x.2=0 by omega));rw[<-this];exact g d
 .obtain⟨x,d,rfl⟩:=f n;exact X.gd _ (X.dl x d)
 .obtain⟨x,d,rfl⟩:=f n;let⟨k,r⟩:=adx (X.dl x d);have hk:=(AD.mp r).1;have o:=lD (show k<P.length by rw[<-X.lt];exact hk);have v:=(X.tr k _ o).2;rw[r]at v;have:=(X.ex k _ m ∅ o z).2;rw[iQ,<-aay v]at this;let⟨l,q,A,G,B,_,b⟩:=this;let⟨y,w,c⟩:=X.cv A (Ld B);exact⟨_,g w,c.x.trans b.x,c.y.trans b.y,aep c.d b.d⟩
end
section
variable {h:Hall}{a b c:Rule}
def pth(h:Hall)(r:Rule)(q:List Nat×Int)(m:Mv):List Nat×Int:=((kst h r q.1 m).1,q.2+aw (kst h r q.1 m).2)
def pR(h:Hall)(r:Rule)(R:List Mv):List Nat×Int:=R.foldl (pth h r) (zer h,0)
theorem UO(R:List Mv):wlk h a b R=((pR h a R).1,(pR h b R).1,(pR h b R).2-(pR h a R).2):=by
 have go:∀(R:List Mv) (p q:List Nat×Int),R.foldl (bth h a b) (p.1,q.1,q.2-p.2)=((R.foldl (pth h a) p).1,(R.foldl (pth h b) q).1,(R.foldl (pth h b) q).2-(R.foldl (pth h a) p).2):=λR=>by
  induction R with
  |nil=>exact λp q=>rfl
  |cons m R i=>
   intro p q;have:=i (pth h a p m) (pth h b q m);show R.foldl (bth h a b) (bth h a b (p.1,q.1,q.2-p.2) m)=_;rw[show bth h a b (p.1,q.1,q.2-p.2) m=((pth h a p m).1,(pth h b q m).1,(pth h b q m).2-(pth h a p m).2)from ae7 rfl (ae7 rfl (by show q.2-p.2+aw (kst h b q.1 m).2-aw (kst h a p.1 m).2=q.2+aw (kst h b q.1 m).2-(p.2+aw (kst h a p.1 m).2);omega))];exact this
 exact go R (zer h,0) (zer h,0)
theorem Ls(R:List Mv):bad (wlk h a b R)=false↔(pR h a R).2≤(pR h b R).2/\(((pR h a R).1.sum:Nat):Int)+(pR h a R).2≤(((pR h b R).1.sum:Nat):Int)+(pR h b R).2:=by
 rw[UO];unfold bad;simp only[acj,decide_eq_false_iff_not];omega
def Sound.rfl':Sound h a a:=λR _=>(Ls R).mpr ⟨agC _,agC _⟩
end
open Classical in
noncomputable def wF (h:Hall) (f:Nat->Rule) (i j:Nat):Str:=if Sound h (f i) (f j)then "never" else "worse"
def Gu:∀n≤4,∀o∈ordK n n,∀k<n,k∈o:=by ext K
section
variable {h:Hall}{s:Srv}{a b:Rule}
theorem Alk.alk(A:Alk h s):alk h=true:=by
 unfold K.alk;rw[adC,abA];intro t d;have n1:=A.ok.n1;have c:h.ss[0]?=some (h.ss[0]'∅):=lD ∅;have e:(h.ss.map Srv.d).getD 0 .none=s.d:=by
  rw[aac,aah,c,A.al _ (acZ _)];rfl
 show aad t.d _=true;rw[e,A.al t d];show aad s.d s.d=true;show((aad (.int (s.a:Int)) (.int (s.a:Int))&&(aad (.int (s.b:Int)) (.int (s.b:Int))&&true))&&(aad (.int (s.r:Int)) (.int (s.r:Int))&&true))=true;rw[bT,bT,bT];simp
def Oh(c:h.Ok){m:Mv}(d:m∈mvs h):m.All h:=⟨tU c m d,λo e k hk=>by
 subst e;rcases aaR.mp d with f|q
 .rcases aaR.mp f with q|q
  .obtain⟨o',ho',e⟩:=aar.mp q;cases e;exact Gu _ c.n4 _ ho' k hk
  .obtain⟨k,_,e⟩:=aar.mp q;cases e
 .cases aaf.mp q⟩
def Uc(w:Wd):aw w=(w.ba:Int):=by cases w<;>rfl
theorem SU(A:Alk h s){x y:Gn}{m:Mv}:bth h a b (x.l,y.l,(y.a:Int)-x.a) m=((x.nx h a m).l,(y.nx h b m).l,((y.nx h b m).a:Int)-(x.nx h a m).a):=by
 unfold bth kst c9 Gn.nx;rw[if_pos A.alk,if_pos A.alk,Uc,Uc];refine ae7 rfl (ae7 rfl ?_);show(y.a:Int)-x.a+((f8 h b y.l 0 m).2.2.ba:Int)-((f8 h a x.l 0 m).2.2.ba:Int)=((y.a+(f8 h b y.l 0 m).2.2.ba:Nat):Int)-((x.a+(f8 h a x.l 0 m).2.2.ba:Nat):Int);omega
theorem o6(A:Alk h s)(D:Dom h s a b):Sound h a b:=λR k=>by
 have key:∀(R:List Mv) (x y:Gn),GI h s x y->RunK h R->∃d c,GI h s d c/\R.foldl (bth h a b) (x.l,y.l,(y.a:Int)-x.a)=(d.l,c.l,(c.a:Int)-d.a):=λR=>by
  induction R with
  |nil=>exact λx y G _=>⟨x,y,G,rfl⟩
  |cons m R n=>
   intro x y G k;have i:=Oh A.ok (k m aan);let⟨d,c,g,e⟩:=n _ _ (G.nx A D i) λz f=>k z (aai _ f);refine⟨d,c,g,?_⟩;show R.foldl (bth h a b) (bth h a b _ m)=_;rw[SU A];exact e
 let⟨x,y,G,e⟩:=key R (gn0 h) (gn0 h) U4 k;have e:wlk h a b R=(x.l,y.l,(y.a:Int)-x.a):=e;have p0:=G.p 0;rw[B6,B6]at p0;have pn:=G.p h.ss.length;have j:P x.l h.ss.length=x.l.sum:=by unfold P;rw[acu (by have:=G.lx.1;omega)]
 have l:P y.l h.ss.length=y.l.sum:=by unfold P;rw[acu (by have:=G.ly.1;omega)]
 rw[j,l]at pn;rw[e];unfold bad;simp only[acj,decide_eq_false_iff_not];omega
theorem Cw{R:List Mv}(x:Sound h a b)(y:Sound h b a)(k:RunK h R):(wlk h a b R).2.2=0/\(wlk h a b R).1.sum=(wlk h a b R).2.1.sum:=by
 have p:=(Ls R).mp (x R k);have q:=(Ls R).mp (y R k);rw[UO];dsimp only;omega
end
end K
namespace K
open PySem L2
variable{Kr:L2.R->Prop}{r:Rule}{l os:List Nat}{h:Hall}
local macro_rules | `(tactic| walk_at"1") => `(tactic| first
 |((with_reducible refine' Oz ?xe ?_);(case xe=>rfl))|(with_reducible first        |apply x_h0|apply x_h1|apply x_h2|apply VY|apply T5|apply x_lt|apply x_le|apply x_gt|apply x_ge     |apply Y7|apply Yv|apply Ym|apply x_neS )|((with_reducible refine' x_nd ?xe ?_);(case xe=>first|rfl|assumption))  |(with_reducible first   |apply x_ts)
 |((with_reducible refine' aY ?xe ?_);(case xe=>rfl))|((with_reducible refine' FV ?xf ?xe ?_);(case xf=>rfl);(case xe=>rfl))|((with_reducible refine' zH ?xe ?_);(case xe=>rfl))|((with_reducible refine' qK ?xe ?_);(case xe=>rfl))
 |((with_reducible refine' Nw ?xe ?_);(case xe=>omega))|((with_reducible refine' Xo ?xe ?_);(case xe=>exact cfd (by omega) (by omega)))|((with_reducible refine' QG ?xe ?_);(case xe=>exact Yd (by omega)))|((with_reducible refine' Xy ?xe ?_);(case xe=>exact⟨by decide,by decide,by decide⟩))
 |(with_reducible first  |apply oi|apply x_bindO    )|((with_reducible refine' x_put ?xe ?xf ?_);(case xe=>rfl);(case xf=>rfl))
 |with_reducible apply TZ|((with_reducible refine' YA ?xe ?xf ?_);(case xe=>rfl);(case xf=>decide))
 |((with_reducible refine' X9 ?xe ?xf ?_);(case xe=>rfl);(case xf=>exact of_decide_eq_true rfl))|(with_reducible first       |apply U6|apply NG|apply xZ|apply x_bindA)|((with_reducible refine' VA ?xa ?xb ?xc ?xd ?xe ?_);(case xa=>rfl);(case xb=>rfl);(case xc=>rfl);(case xd=>rfl);(case xe=>rfl))|((with_reducible refine' x_dgotN ?xa ?xb ?xc ?xd ?xe ?_);(case xa=>rfl);(case xb=>rfl);(case xc=>rfl);(case xd=>rfl);(case xe=>rfl))|((with_reducible refine' P8 ?xa ?xb ?xc ?xd ?xe ?xf ?_);(case xa=>rfl);(case xb=>rfl);(case xc=>rfl);(case xd=>rfl);(case xe=>exact of_decide_eq_true rfl);(case xf=>rfl))|((with_reducible refine' BQ ?xa ?xb ?xc ?xd ?_);(case xa=>rfl);(case xb=>rfl);(case xc=>exact of_decide_eq_true rfl);(case xd=>rfl))
 |((with_reducible refine' x_agsX ?xe ?xf ?_);(case xe=>rfl);(case xf=>decide))  |((with_reducible refine' x_rz ?xe ?_);(case xe=>exact of_decide_eq_true rfl))
 |((with_reducible refine' BC ?xa ?xb ?_);(case xa=>rfl);(case xb=>decide))|(with_reducible first    |apply X8|apply YY|apply Xr|apply YU|apply XZ    )|((with_reducible refine' SD ?xa ?xb ?xc ?xd ?xe ?_);(case xa=>rfl);(case xb=>rfl);(case xc=>rfl);(case xd=>rfl);(case xe=>rfl))|((with_reducible refine' vn ?xa ?xb ?xc ?xd ?xe ?_);(case xa=>rfl);(case xb=>rfl);(case xc=>rfl);(case xd=>rfl);(case xe=>rfl))  |((with_reducible refine' Sn ?xa ?xb ?xc ?_);(case xa=>rfl);(case xb=>rfl);(case xc=>rfl))  |((with_reducible refine' Je ?xa ?_);(case xa=>rfl))  |((with_reducible refine' x_onPairsT ?xa ?xb ?xc ?_);(case xa=>rfl);(case xb=>rfl);(case xc=>exact of_decide_eq_true rfl))
 |(with_reducible first  |apply Yk     |apply T9|apply Sw)|((with_reducible refine' UG ?xe ?_);(case xe=>rfl))|(with_reducible first|apply SW  |apply Xu    )|((with_reducible refine' x_ls ?xe ?_);(case xe=>rfl))
 |(with_reducible first|apply x_isN|apply XT|apply IE  |apply DH  |apply Wn)
 |((with_reducible refine' Ox ?xe ?_);(case xe=>rfl))|with_reducible apply UA|((with_reducible refine' W5 ?xe ?_);(case xe=>rfl))|((with_reducible refine' OA ?xe ?_);(case xe=>rfl))|(with_reducible first       |apply UK|apply Vc)|((with_reducible refine' VZ ?xe ?_);(case xe=>rfl))|(with_reducible first        |apply jL)|with_reducible apply jG)
local macro_rules | `(tactic| walk_at"s") => `(tactic| ((repeat walk_at"1"); try (with_reducible conv => whnf)))
local macro_rules | `(tactic| walk_at"n") => `(tactic| first | dsimp only [mapR, cR, List.set, MSt.setV, MSt.setN, List.take, List.length, List.append, pC, yV, Nat.reduceAdd, List.getD_cons_succ, List.getD_cons_zero, List.nil_append, List.cons_append, setT, lfD] | dsimp only [mapR, cR, List.set, MSt.setV, MSt.setN, List.take, List.length, List.append, pC, yV, Nat.reduceAdd, List.getD_cons_succ, List.getD_cons_zero, List.nil_append, List.cons_append] | skip)
local macro_rules | `(tactic| walk_at "sc") => `(tactic| exact ⟨rfl, rfl, rfl, by decide +kernel, rfl, by decide +kernel, by decide +kernel⟩)
local macro_rules | `(tactic| walk_at"x") => `(tactic| (walk_at"n"; walk_at"s"))
local macro_rules | `(tactic| walk_at "a") => `(tactic| (refine bi (λz=>absurd z (by decide +kernel)) (λ_=>?_);walk_at"s";refine bi (λz=>absurd z (by decide +kernel)) (λ_=>?_);walk_at"s"))
local macro_rules | `(tactic| walk_at "b") => `(tactic| (refine bi (λz=>absurd z (by decide +kernel)) (λ_=>?_);walk_at"s";refine bi (λ_=>?_) (λz=>(z rfl).elim);walk_at"s"))
local macro_rules | `(tactic| walk_at "c") => `(tactic| (rw[if_neg (by decide)];walk_at"s"))
local macro_rules | `(tactic| walk_at "d") => `(tactic| (walk_at"s";refine eF ?_;walk_at"x"))
local macro_rules | `(tactic| walk_at "e") => `(tactic| (dsimp only[Srv.d];walk_at"s"))
local macro_rules | `(tactic| walk_at "f") => `(tactic| (walk_at"s";rw[if_pos (by decide +kernel)];walk_at"s"))
def top(i:Nat):Stmt:=PySem.Challenge.pw_shorterline_k58_whole_alike_halls.main.body.getD i (.Pass ⟨0,0,0,0⟩)
abbrev nh:Stmt:=top 4
abbrev dE:Stmt:=top 5
abbrev ig:Stmt:=top 6
abbrev sd:Stmt:=top 8
abbrev o4:Stmt:=top 10
abbrev mZ:Stmt:=top 11
abbrev d8:Stmt:=top 12
abbrev d9:Stmt:=top 14
abbrev qV:Stmt:=top 15
abbrev fe:Stmt:=top 16
abbrev qL:Stmt:=top 17
abbrev gW:Stmt:=top 19
abbrev gf:Stmt:=top 20
abbrev fI:Stmt:=top 21
abbrev jV:Stmt:=top 22
abbrev qX:Stmt:=top 23
abbrev sk:Stmt:=top 24
abbrev jp:Stmt:=top 25
abbrev sg:Stmt:=top 26
abbrev ie:Stmt:=top 27
abbrev qM:Stmt:=top 28
abbrev og:Stmt:=top 29
abbrev je:Stmt:=top 31
abbrev rf:Stmt:=top 32
abbrev jX:Stmt:=top 33
abbrev fg:Stmt:=top 34
abbrev gq:Stmt:=top 35
abbrev gc:Stmt:=top 36
abbrev ku:Stmt:=top 37
abbrev fC:Stmt:=top 38
abbrev oj:Stmt:=top 39
abbrev im:Stmt:=top 40
abbrev d6:Stmt:=top 41
abbrev jj:Stmt:=top 42
abbrev bt:Stmt:=(jo (top 44)).getD 1 (.Pass ⟨0,0,0,0⟩)
abbrev aG:Stmt:=(jo (top 44)).getD 2 (.Pass ⟨0,0,0,0⟩)
abbrev dh:Stmt:=(jo (top 44)).getD 3 (.Pass ⟨0,0,0,0⟩)
abbrev cj:Stmt:=(jo (top 44)).getD 4 (.Pass ⟨0,0,0,0⟩)
abbrev bG:Stmt:=(jo (top 44)).getD 5 (.Pass ⟨0,0,0,0⟩)
abbrev ca:Stmt:=(jo (top 44)).getD 6 (.Pass ⟨0,0,0,0⟩)
abbrev bZ:Stmt:=(jo (top 44)).getD 0 (.Pass ⟨0,0,0,0⟩)
abbrev gQ:Stmt:=top 45
abbrev j8:Stmt:=top 47
abbrev j1:Stmt:=top 48
abbrev kM:Stmt:=top 49
abbrev c6:Stmt:=top 50
abbrev iI:Stmt:=top 51
abbrev oU:Stmt:=top 52
abbrev kO:Stmt:=top 53
abbrev iu:Stmt:=top 54
abbrev di:Stmt:=top 55
abbrev jN:Stmt:=top 56
abbrev dF:Stmt:=top 58
abbrev da:Stmt:=top 59
abbrev fz:Stmt:=top 60
abbrev gz:Stmt:=top 61
abbrev slaw:Stmt:=top 62
structure Bl(K:aae)(mg:Str->Option Ad):Prop where
 len:mg "len" = none
 abs:mg "abs" = none
 range:mg "range" = none
 list:mg "list" = none
 tuple:mg "tuple" = none
 int:mg "int" = none
 sum:mg "sum" = none
 max:mg "max" = none
 min:mg "min" = none
 isinstance:mg "isinstance" = none
 bool:mg "bool" = none
 sorted:mg "sorted" = none
 zip:mg "zip" = none
 enumerate:mg "enumerate" = none
 repr:mg "repr" = none
 f_Search_hall:InsF K "Search" "hall"
 f_Search_rules:InsF K "Search" "rules"
 f_Search_moves:InsF K "Search" "moves"
 f_Search_steps:InsF K "Search" "steps"
 f_Search_leads:InsF K "Search" "leads"
 f_Search_triples:InsF K "Search" "triples"
 f_Search_ways:InsF K "Search" "ways"
def zj:ai ["thing"] ["thing"] (ab nh):=by ext sc
def jZ:ai ["thing","least","most"] ["thing","least","most"] (ab dE):=by ext sc
def qx:ai ["thing","many"] ["thing","many"] (ab ig):=by ext sc
def BZ:ai ["one","other"] ["one","other"] (ab sd):=by ext sc
def kq:ai ["hall","servers","server"] ["hall"] (ab o4):=by ext sc
def iE:ai ["hall","thing","servers","many","server"] ["hall","thing"] (ab mZ):=by ext sc
def cf:ai ["hall","lines","place","many","server"] ["hall","lines"] (ab d8):=by ext sc
def cF:ai ["lines","order","best","line"] ["lines","order"] (ab d9):=by ext sc
def ou:ai ["hall","lines","line","top","bottom"] ["hall","lines","line"] (ab qV):=by ext sc
def bW:ai ["hall","lines","order","best","least","line","wait"] ["hall","lines","order"] (ab fe):=by ext sc
def jK:ai ["hall","rule","stand","order","lines","turn","word"] ["hall","rule","stand","order"] (ab qL):=by ext sc
def qH:ai ["hall"] ["hall"] (ab gW):=by ext sc
def du:ai ["hall","many","orders","place"] ["hall"] (ab gf):=by ext sc
def ol:ai ["hall","dones"] ["hall"] (ab fI):=by ext sc
def vm:ai ["lines","line","more"] ["lines","line","more"] (ab jV):=by ext sc
def BV:ai ["hall","lines","line"] ["hall","lines","line"] (ab qX):=by ext sc
def CB:ai ["lines","line"] ["lines","line"] (ab sk):=by ext sc
def s9:ai ["hall","lines"] ["hall","lines"] (ab jp):=by ext sc
def jE:ai ["hall","lines","shift"] ["hall","lines"] (ab sg):=by ext sc
def qC:ai ["hall","rule","turn"] ["hall","rule","turn"] (ab ie):=by ext sc
def Bw:ai ["hall","rule","stand","move"] ["hall","rule","stand","move"] (ab qM):=by ext sc
def cg:ai ["hall","rule","stand","move","lines","turn","word","line"] ["hall","rule","stand","move"] (ab og):=by ext sc
def sV:ai ["hall","lines"] ["hall","lines"] (ab je):=by ext sc
def Bz:ai ["hall","thing"] ["hall","thing"] (ab rf):=by ext sc
def vp:ai ["hall","thing"] ["hall","thing"] (ab jX):=by ext sc
def gH:ai ["hall","thing","triple"] ["hall","thing"] (ab fg):=by ext sc
def pf:ai ["one","other"] ["one","other"] (ab gq):=by ext sc
def jd:ai ["hall","void"] ["hall"] (ab gc):=by ext sc
def js:ai ["hall","rule","lines","move","stand","word"] ["hall","rule","lines","move"] (ab ku):=by ext sc
def bP:ai ["one_step","other_step","lead","x","one_away","y","other_away"] ["one_step","other_step","lead"] (ab fC):=by ext sc
def iW:ai ["triple","x","y","lead"] ["triple"] (ab oj):=by ext sc
def cW:ai ["paper","leads","x","y","lead"] ["paper"] (ab im):=by ext sc
def bu:ai ["hall","one","other","leads","triple","x","y","lead","move","behind","pair"] ["hall","one","other","leads","triple"] (ab d6):=by ext sc
def fj:ai ["hall","one","other","thing","leads","number","triple"] ["hall","one","other","thing"] (ab jj):=by ext sc
def fM:ai ["self","side","lines","rule"] ["self","side","lines"] (ab bt):=by ext sc
def aM:ai ["self","triple","x","y","lead","one_steps","other_steps"] ["self","triple"] (ab aG):=by ext sc
def fi:ai ["self","triple","ahead","move","x","y","lead"] ["self","triple","ahead","move"] (ab dh):=by ext sc
def c5:ai ["self","at","moves","move"] ["self","at"] (ab cj):=by ext sc
def bq:ai ["self","at","behind","move","triple"] ["self"] (ab bG):=by ext sc
def ph:ai ["self"] ["self"] (ab ca):=by ext sc
def ko:ai ["self","hall","one","other"] ["self","hall","one","other"] (ab bZ):=by ext sc
def gi:ai ["hall","one","other","search","run"] ["hall","one","other"] (ab gQ):=by ext sc
def wg:ai ["_law_script"] ["_law_script"] (ab j8):=by ext sc
def cK:ai ["_law_tape_here","_law_many","_law_found","_law_turn","_law_cell","_law_mixed"] ["_law_tape_here","_law_many"] (ab j1):=by ext sc
def jh:ai ["_law_top","_law_bottom","_law_one","_law_other"] ["_law_top","_law_bottom"] (ab kM):=by ext sc
def b5:ai ["_law_rooms","_law_found","_law_room","_law_longer","_law_lines"] ["_law_rooms"] (ab c6):=by ext sc
def b9:ai ["_law_hall","_law_rule","_law_lines","_law_order","_law_rooms","_law_found","_law_rest","_law_k","_law_one","_law_other","_law_mine","_law_theirs"] ["_law_hall","_law_rule","_law_lines","_law_order"] (ab iI):=by ext sc
def zc:ai ["_law_lines","_law_k","_law_more"] ["_law_lines","_law_k","_law_more"] (ab oU):=by ext sc
def cc:ai ["_law_hall","_law_rule","_law_lines","_law_move","_law_word","_law_k","_law_longest","_law_void"] ["_law_hall","_law_rule","_law_lines","_law_move"] (ab kO):=by ext sc
def mH:ai ["_law_hall","_law_lines","_law_alike"] ["_law_hall","_law_lines"] (ab iu):=by ext sc
def ck:ai ["_law_hall","_law_orders","_law_turn","_law_longer","_law_order","_law_found"] ["_law_hall"] (ab di):=by ext sc
def ef:ai ["_law_hall","_law_one","_law_other","_law_triple","_law_move","_law_x","_law_first","_law_y","_law_second"] ["_law_hall","_law_one","_law_other","_law_triple","_law_move"] (ab jN):=by ext sc
def bg:ai ["_law_tape_here","_law_most","_law_many","_law_room","_law_top","_law_come","_law_whole"] ["_law_tape_here","_law_most"] (ab dF):=by ext sc
def ce:ai ["_law_tape_here","_law_hall","_law_way","_law_places","_law_lines","_law_longest"] ["_law_tape_here","_law_hall"] (ab da):=by ext sc
def ii:ai ["_law_hall","_law_one","_law_other","_law_told"] ["_law_hall","_law_one","_law_other"] (ab fz):=by ext sc
def ci:ai ["_law_tape_here","_law_hall","_law_one","_law_other","_law_moves_here","_law_turn","_law_triple","_law_k"] ["_law_tape_here","_law_hall","_law_one","_law_other"] (ab gz):=by ext sc
def uX:ai ["_law_script","_law_tape_here","_law_k","_law_hall","_law_told","_law_other","_law_one"] ["_law_script"] (ab slaw):=by ext sc
def l8:∀(kV d pm:Ad) (an:Option Addr) (c ct:Ad) (us:List Ad),us.length=(["self","side","lines"]:List Str).length->adO (abm "steps_of" "Search.steps_of" (cB bt) (bO bt) (ab bt) .none kV d pm an c ct) ⟨us,[]⟩=pure ((["self","side","lines"]:List Str).zip us):=λ_ _ _ _ _ _ us a=>match us,a with|[_,_,_],_=>rfl
def gJ:∀(kV d pm:Ad) (an:Option Addr) (c ct:Ad) (us:List Ad),us.length=(["self","triple"]:List Str).length->adO (abm "triples_behind" "Search.triples_behind" (cB aG) (bO aG) (ab aG) .none kV d pm an c ct) ⟨us,[]⟩=pure ((["self","triple"]:List Str).zip us):=λ_ _ _ _ _ _ us a=>match us,a with|[_,_],_=>rfl
def vM:∀(kV d pm:Ad) (an:Option Addr) (c ct:Ad) (us:List Ad),us.length=(["self","triple","ahead","move"]:List Str).length->adO (abm "met" "Search.met" (cB dh) (bO dh) (ab dh) .none kV d pm an c ct) ⟨us,[]⟩=pure ((["self","triple","ahead","move"]:List Str).zip us):=λ_ _ _ _ _ _ us a=>match us,a with|[_,_,_,_],_=>rfl
def p7:∀(kV d pm:Ad) (an:Option Addr) (c ct:Ad) (us:List Ad),us.length=(["self","at"]:List Str).length->adO (abm "run_to" "Search.run_to" (cB cj) (bO cj) (ab cj) .none kV d pm an c ct) ⟨us,[]⟩=pure ((["self","at"]:List Str).zip us):=λ_ _ _ _ _ _ us a=>match us,a with|[_,_],_=>rfl
def j2:∀(kV d pm:Ad) (an:Option Addr) (c ct:Ad) (us:List Ad),us.length=(["self"]:List Str).length->adO (abm "worse_run" "Search.worse_run" (cB bG) (bO bG) (ab bG) .none kV d pm an c ct) ⟨us,[]⟩=pure ((["self"]:List Str).zip us):=λ_ _ _ _ _ _ us a=>match us,a with|[_],_=>rfl
def qU:∀(kV d pm:Ad) (an:Option Addr) (c ct:Ad) (us:List Ad),us.length=(["self"]:List Str).length->adO (abm "paper" "Search.paper" (cB ca) (bO ca) (ab ca) .none kV d pm an c ct) ⟨us,[]⟩=pure ((["self"]:List Str).zip us):=λ_ _ _ _ _ _ us a=>match us,a with|[_],_=>rfl
def lQ:∀(kV d pm:Ad) (an:Option Addr) (c ct:Ad) (us:List Ad),us.length=(["self","hall","one","other"]:List Str).length->adO (abm "__init__" "Search.__init__" (cB bZ) (bO bZ) (ab bZ) .none kV d pm an c ct) ⟨us,[]⟩=pure ((["self","hall","one","other"]:List Str).zip us):=λ_ _ _ _ _ _ us a=>match us,a with|[_,_,_,_],_=>rfl
def K8:SpM:=λa K=>∃h:Hall,a=[.imm h.d]/\h.Ok/\K (.imm (.bool (alk h))) []
def oA:SpM:=λa K=>∃(h:Hall) (l:List Nat),a=[.imm h.d,.imm (lnD l)]/\h.Ok/\l.length≤4/\K (.imm (lnD (c9 h l))) []
def nG:SpM:=λa K=>∃h:Hall,a=[.imm h.d]/\h.Ok/\K (.new ((mvs h).map Mv.d)) []
def prD'(P:List Tr):aD:=.tuple (P.map trD)
def zM:SpM:=λb K=>∃r1 a:Rule,b=[.imm r1.d,.imm a.d]/\r1≠.turns/\a≠.turns/\K (.imm .none) []
def Am:SpM:=λa K=>∃h:Hall,a=[.imm h.d]/\h.Ok/\K (.imm (trD (zer h,zer h,0))) []
def ksD(p:List Nat×Wd):aD:=.tuple [lnD p.1,.bool (decide (p.2 = .away))]
def Rj:SpM:=λa K=>∃(h:Hall) (r:Rule) (l:List Nat) (m:Mv),a=[.imm h.d,.imm r.d,.imm (lnD l),.imm m.d]/\h.Ok/\r.Ok h/\r≠.turns/\Lines h l/\m.Ok h/\K (.imm (ksD (kst h r l m))) []
def PQ:SpM:=λa K=>∃(p q:List Nat×Wd) (d:Int),a=[.imm (ksD p),.imm (ksD q),.imm (.int d)]/\K (.imm (trD (p.1,q.1,d+aw q.2-aw p.2))) []
def AH:SpM:=λa K=>∃t:Tr,a=[.imm (trD t)]/\K (.imm (.bool (decide (((t.2.1.sum:Nat):Int)+t.2.2<((t.1.sum:Nat):Int))))) []
def sv{d x:aD}{tl:List aD}{m:MSt}(e:d = .tuple (x::tl))(h:Kr (.imm x)):oo (.imm d) (.imm (.int 0)) m Kr:=by
 subst e;exact aY (bh (j:=0) rfl) h
def KI(r:Rule):∃tl,r.d = .tuple (.str r.word::tl):=by cases r<;>exact⟨_,rfl⟩
theorem Av(h:r≠.turns):decide (r.word = "turns")=false:=by
 cases r with
 |turns=>exact(h rfl).elim
 |told p=>exact(show decide (("told" : Str) = "turns")=false by ext K)
 |random=>ext K
 |two=>ext K
 |least=>ext K
 |quick=>ext K
def QY{m:MSt}{k:Nat}{a b:List aD}(e:m.os[k]?=some b)(c:a.length+b.length≤aak)(h:Kr (.new (a++b))):oAdd (.new a) (.obj k) m Kr:=⟨a,b,rfl,e,c,h⟩
def IJ(w:Wd):decide (w.s = "away")=decide (w = .away):=by cases w<;>ext K
def TW(h:Hall):(mvs h).map Mv.d=(ordK h.ss.length h.ss.length).map (λo=>(Mv.come o).d)++(aav h.ss.length).map (λk=>(Mv.done k).d)++[.tuple [.str "still"]]:=by
 unfold mvs;rw[aaJ,aaJ,abD,abD];rfl
def EF:SpM:=λa K=>∃(h:Hall) (r:Rule) (l:List Nat) (o:List Nat),a=[.imm h.d,.imm r.d,.imm (lnD l),.imm (lnD o)]/\h.Ok/\r.Ok h/\r≠.turns/\Lines h l/\Ord h.ss.length o/\K (.imm (.int (sent h r l 0 o:Nat))) []
def JT:SpM:=λa K=>∃(h:Hall) (r:Rule) (l:List Nat) (m:Mv),a=[.imm h.d,.imm r.d,.imm (lnD l),.imm m.d]/\h.Ok/\r.Ok h/\r≠.turns/\Lines h l/\m.Ok h/\K (.imm (lwD ((f8 h r l 0 m).1,(f8 h r l 0 m).2.2))) []
def JR:SpM:=λb K=>∃(h:Hall) (r1 a:Rule) (t:Tr) (m:Mv),b=[.imm h.d,.imm r1.d,.imm a.d,.imm (trD t),.imm m.d]/\h.Ok/\r1.Ok h/\a.Ok h/\r1≠.turns/\a≠.turns/\Lines h t.1/\Lines h t.2.1/\m.Ok h/\K (.imm (trD (bth h r1 a t m))) []
def Rk:Rule->Prop
 | .two=>True
 | .least=>True
 | .quick=>True
 |_=>False
def rsO(r:Rule)(os:List Nat):List Nat:=match r with
 | .two=>os.take 1
 |_=>os
def ltO(h:Hall)(l:List Nat)(r:Rule):Nat->Nat->Bool:=match r with
 | .quick=>cP h l
 |_=>bf l
def AY{x:Nat}(h:x∈rsO r os):x∈os:=by
 cases r<;>first|exact h|exact ack h
theorem YW{o:Nat}(a:Rk r):sent h r l 0 (o::os)=M7.pick (ltO h l r) o (rsO r os):=by
 cases r with
 |two=>exact M7.pick_self (lt:=bf l) (k:=o) (ks:=os.take 1) (by unfold bf;simp)
 |least=>exact M7.pick_self (lt:=bf l) (k:=o) (ks:=os) (by unfold bf;simp)
 |quick=>exact M7.pick_self (lt:=cP h l) (k:=o) (ks:=os) (by unfold cP;simp)
 |random=>exact a.elim
 |turns=>exact a.elim
 |told _=>exact a.elim
theorem xJ{lt:Nat->Nat->Bool}{n:Nat}:∀{ks:List Nat}{b:Nat},b<n->(∀k∈ks,k<n)->M7.pick lt b ks<n
 |[],b,hb,_=>hb
 |k::ks,b,hb,h=>by
  show M7.pick lt (if lt k b then k else b) ks<n;refine xJ ?_ λz a=>h z (aai _ a);split
  .exact h k aan
  .exact hb
def K9(t:Tr):Shp 2 (trD t):=bc λd hd=>by
 obtain rfl|hd:=aag.mp hd
 .exact bc (bz _)
 .obtain rfl|hd:=aag.mp hd
  .exact bc (bz _)
  .rw[aaf.mp hd];exact(cp _).mono ⋯
theorem ve(a:h.Ok):1≤(mvs h).length/\(mvs h).length≤1000:=by
 have n1:=a.n1;have n4:=a.n4;unfold mvs;rw[aam,aam,iO,iO,aa2];generalize h.ss.length=n at *;have:(ordK n n).length≤24:=by
  rcases (show n=1\/n=2\/n=3\/n=4 by omega)with rfl|rfl|rfl|rfl<;>decide
 simp;omega
def wyD:Wy->aD
 |none=>.tuple [.int (-1),.none]
 |some (a,m)=>.tuple [.int (a:Int),m.d]
def rl(r1 r2:Rule)(s:Nat):Rule:=if s=0 then r1 else r2
abbrev Ck:=Nat×List Nat
def skD(p:Ck):aD:=.tuple [.int (p.1:Int),lnD p.2]
def stv(h:Hall)(r1 r2:Rule)(p:Ck):List aD:=(mvs h).map λm=>ksD (kst h (rl r1 r2 p.1) p.2 m)
def km(h:Hall)(r1 r2:Rule)(C:List Ck):List (aD×aD):=C.map λp=>(skD p,.list (stv h r1 r2 p))
structure CaOk(h:Hall)(C:List Ck):Prop where
 nd:C.Nodup
 ok:∀p∈C,p.1<2/\Lines h p.2
theorem CaOk.len{C:List Ck}(X:CaOk h C):C.length≤2*(M3.allR h.rs).length:=by
 have:=mz X.nd (m:=(M3.allR h.rs).map (λl=>(0,l))++(M3.allR h.rs).map (λl=>(1,l))) λp a=>by
  let⟨b,q⟩:=X.ok p a;have m:=mf q.fits;rcases (show p.1=0\/p.1=1 by omega)with e|e
  .exact abW _ (aar.mpr ⟨p.2,m,by rw[<-e]⟩)
  .exact aaQ _ (aar.mpr ⟨p.2,m,by rw[<-e]⟩)
 rw[aam,iO,iO]at this;omega
def KB(p q:Ck):aad (skD p) (skD q)=decide (p=q):=by
 show(aad (.int _) (.int _)&&(aad (lnD p.2) (lnD q.2)&&true))=_;rw[jk,acy,bT,abq];simp[ahj]
theorem st_look{h:Hall}{r1 r2:Rule}{p:Ck}:∀{C:List Ck},cU (skD p) (km h r1 r2 C)=if p∈C then some (.list (stv h r1 r2 p))else none
 |[]=>rfl
 | q::C=>by
  show(if aad (skD q) (skD p)=true then some (aea (stv h r1 r2 q))else cU (skD p) (km h r1 r2 C))=_;rw[KB]
  by_cases e:q=p
  .rw[if_pos (decide_eq_true e),if_pos (by rw[e];exact aan),e]
  .rw[if_neg (by rw[decide_eq_false e];exact aap),st_look]
   by_cases c:p∈C
   .rw[if_pos c,if_pos (aai _ c)]
   .rw[if_neg c,if_neg λz=>(aag.mp z).elim (λz=>e z.symm) c]
theorem KM{h:Hall}{r1 r2:Rule}{p:Ck}:∀{C:List Ck},p∉C->putP (skD p) (.list (stv h r1 r2 p)) (km h r1 r2 C)=km h r1 r2 (C++[p])
 |[],_=>rfl
 |q::C,n=>by
  let⟨n1,n2⟩:=not_or.mp λw=>n (aag.mpr w);show(if aad (skD q) (skD p)=true then _ else _::putP (skD p) _ (km h r1 r2 C))=_;rw[KB,if_neg (by rw[decide_eq_false λe=>n1 e.symm];exact aap),KM n2];rfl
theorem Pf{h:Hall}{s:Nat}:kyD (skD (s,l))=true:=by
 have n:∀l:List Nat,hkA (natD l)=true:=λl=>by
  induction l with
  |nil=>rfl
  |cons x l i=>show(hkD _&&hkA (natD l))=true;rw[i];rfl
 have q:=bc (k:=1) (ds:=[.int (s:Int),lnD l]) λd hd=>by
  rcases aag.mp hd with e|e
  .rw[e];exact(cp _).mono ⋯
  .rw[aaf.mp e];exact bc (bz _)
 have hk:hkD (skD (s,l))=true:=by
  show(true&&(hkD (lnD l)&&true))=true;rw[show hkD (lnD l)=true from n l];rfl
 unfold kyD;rw[hk,show(skD (s,l)).canLay0=true from q.cl,decide_eq_true (show(skD (s,l)).depth≤7 from aaA q.dp ⋯)];rfl
def QC{r1 r2:Rule}(C:List Ck):kyA (km h r1 r2 C)=true:=by
 unfold kyA km;rw[adC,abA];exact λp _=>Pf (h:=h)
theorem Bj{kvs:List (aD×aD)}(h:kyA kvs=true):jf (.dict (lfKV kvs))=none:=by
 cases kvs with
 |nil=>rfl
 |cons q kvs=>
  let⟨k,d⟩:=q;rw[kyA,abZ,aaH]at h;let⟨ds,rfl,_⟩:=i8 h.1;rfl
def scQ(h:Hall)(r1 r2:Rule)(C:List Ck)(L:List (Pk×Int))(T:List Tr)(Y:List Wy):aD:=insT "Search" [("hall",h.d),("rules",.tuple [r1.d,r2.d]),("moves",.dict [(.none,.list ((mvs h).map Mv.d))]),("steps",.dict (lfKV (km h r1 r2 C))),("leads",.dict (lfKV (ldD L))),("triples",.list (T.map trD)),("ways",.list (Y.map wyD))]
theorem mQ(T:List Tr):dw (T.map trD)=some (T.map trD):=by
 induction T with
 |nil=>rfl
 |cons x l i=>show(match jf (trD x),dw (l.map trD)with|some d,some ds=>some (d::ds)|_,_=>none)=_;rw[i];rfl
def zR(y:Wy):jf (wyD y)=some (wyD y):=by rcases y with _|⟨a,m⟩<;>rfl
theorem uu(Y:List Wy):dw (Y.map wyD)=some (Y.map wyD):=by
 induction Y with
 |nil=>rfl
 |cons x l i=>show(match jf (wyD x),dw (l.map wyD)with|some d,some ds=>some (d::ds)|_,_=>none)=_;rw[i,zR];rfl
def Ya(T:List Tr):(T.map trD).map lfD=T.map trD:=by
 rw[abD];exact acT λx _=>rfl
def YR(Y:List Wy):(Y.map wyD).map lfD=Y.map wyD:=by
 rw[abD];exact acT λy _=>by rcases y with _|⟨a,m⟩<;>rfl
structure GoodR(h:Hall)(r1 r2:Rule):Prop where
 o:h.Ok
 k1:r1.Ok h
 k2:r2.Ok h
 n1:r1≠.turns
 n2:r2≠.turns
theorem GoodR.rl{r1 r2:Rule}(G:GoodR h r1 r2)(s:Nat):(rl r1 r2 s).Ok h/\rl r1 r2 s≠.turns:=by
 unfold K.rl;split
 .exact⟨G.k1,G.n1⟩
 .exact⟨G.k2,G.n2⟩
def uV:SpM:=λc K=>∃(h:Hall) (r1 a:Rule) (C:List Ck) (L:List (Pk×Int)) (T:List Tr) (Y:List Wy) (s:Nat) (l:List Nat),c=[.tr (scQ h r1 a C L T Y),.imm (.int (s:Int)),.imm (lnD l)]/\GoodR h r1 a/\(M3.allR h.rs).length≤400/\CaOk h C/\s<2/\Lines h l/\∀b,CaOk h b->K (.imm (.list (stv h r1 a (s,l)))) [[scQ h r1 a b L T Y]]
def JU:SpM:=λc K=>∃(h:Hall) (r1 a:Rule) (C:List Ck) (L:List (Pk×Int)) (T:List Tr) (Y:List Wy) (t:Tr),c=[.tr (scQ h r1 a C L T Y),.imm (trD t)]/\GoodR h r1 a/\(M3.allR h.rs).length≤400/\CaOk h C/\Lines h t.1/\Lines h t.2.1/\∀b,CaOk h b->K (.new ((mvs h).map λm=>trD (bth h r1 a t m))) [[scQ h r1 a b L T Y]]
def P7:SpM:=λc K=>∃(h:Hall) (r1 b:Rule) (C:List Ck) (L:List (Pk×Int)) (T:List Tr) (Y:List Wy) (t:Tr) (y:Wy) (a:Int) (d:aD),c=[.tr (scQ h r1 b C L T Y),.imm (trD t),.imm (.int a),.imm d]/\wyD y = .tuple [.int a,d]/\h.Ok/\(∀p∈L,Lines h p.1.1/\Lines h p.1.2)/\Lines h t.1/\Lines h t.2.1/\L.length≤200000/\T.length≤200000/\Y.length≤200000/\(t.2.2<(lkL (t.1,t.2.1) L).getD (t.2.2+1)->K (.imm .none) [[scQ h r1 b C (setL (t.1,t.2.1) t.2.2 L) (T++[t]) (Y++[y])]])/\(∀w,lkL (t.1,t.2.1) L=some w->w≤t.2.2->K (.imm .none) [[scQ h r1 b C L T Y]])
structure WyOk(Y:List Wy)(P:List (List Mv)):Prop where
 ly:Y.length=P.length
 wy:∀(k:Nat) (p:List Mv),P[k]?=some p->(p=[]/\Y[k]?=some none)\/∃(a:Nat) (m:Mv) (q:List Mv),a<k/\P[a]?=some q/\p=q++[m]/\Y[k]?=some (some (a,m))
def Dq:SpM:=λb K=>∃(h:Hall) (r1 a:Rule) (C:List Ck) (L:List (Pk×Int)) (T:List Tr) (Y:List Wy) (P:List (List Mv)) (i:Nat) (p:List Mv),b=[.tr (scQ h r1 a C L T Y),.imm (.int (i:Int))]/\WyOk Y P/\Y.length≤200000/\P[i]?=some p/\K (.imm (.tuple (p.map Mv.d))) [[scQ h r1 a C L T Y]]
def CU:SpM:=λb K=>∃(h:Hall) (r1 a:Rule),b=[.tr (scQ h r1 a [] [((zer h,zer h),0)] [stT h] [none])]/\GoodR h r1 a/\(M3.allR h.rs).length≤400/\nP h*(nP h+2)≤190000/\(∀(R:List Mv) (C:List Ck) (L:List (Pk×Int)) (T:List Tr) (Y:List Wy),RunK h R->bad (wlk h r1 a R)=true->Min h r1 a R.length->R.length≤200000->K (.imm (.tuple (R.map Mv.d))) [[scQ h r1 a C L T Y]])/\(∀(C:List Ck) (L:List (Pk×Int)) (T:List Tr) (Y:List Wy),Sound h r1 a->DkOk h L->(∀Z:List Tr,Z.Perm (ldT L)->Nvr h r1 a Z/\∀t∈Z,TrOk h t)->K (.imm .none) [[scQ h r1 a C L T Y]])
def Fq:SpM:=λb K=>∃(h:Hall) (r1 a:Rule) (C:List Ck) (L:List (Pk×Int)) (T:List Tr) (Y:List Wy),b=[.tr (scQ h r1 a C L T Y)]/\h.Ok/\DkOk h L/\L.length<100000/\∀Z:List Tr,Z.Perm (ldT L)->K (.imm (prD' Z)) [[scQ h r1 a C L T Y]]
def B8:SpI:=λds K=>∃(h:Hall) (r1 a:Rule),ds=[h.d,r1.d,a.d]/\h.Ok/\K (scQ h r1 a [] [((zer h,zer h),0)] [stT h] [none])
def vD:SpM:=λb K=>∃(h:Hall) (r1 a:Rule),b=[.imm h.d,.imm r1.d,.imm a.d]/\GoodR h r1 a/\(M3.allR h.rs).length≤400/\nP h*(nP h+2)≤190000/\(∀R:List Mv,RunK h R->bad (wlk h r1 a R)=true->Min h r1 a R.length->R.length≤200000->K (.imm (.tuple [.str "worse",.tuple (R.map Mv.d)])) [])/\(∀Z:List Tr,Sound h r1 a->Nvr h r1 a Z->(∀t∈Z,TrOk h t)->Z.length≤100000->K (.imm (.tuple [.str "never",prD' Z])) [])
section
variable {h:Hall}{r1 r2:Rule}{C:List Ck}{L:List (Pk×Int)}{T:List Tr}{Y:List Wy}{m:MSt}{k:Nat}{P:L2.R->Prop}
def rh(e:m.os[k]?=some [scQ h r1 r2 C L T Y])(ky:kyA (ldD L)=true)(a:P (.at k [5])):fGot m "Search" k [] "leads" P:=vn e rfl rfl rfl (Bj ky) a
def vZ(e:m.os[k]?=some [scQ h r1 r2 C L T Y])(a:P (.at k [4])):fGot m "Search" k [] "steps" P:=vn e rfl rfl rfl (Bj (QC (h:=h) C)) a
end
def w6{k:Nat}{p:List Nat}{j:Nat}(y:Wy):gG k p j (wyD y) = .imm (wyD y):=by unfold gG;rw[zR]
def Fe{a:Type}{l:List a}{f:a->aD}{j:Nat}{x:a}(e:l[j]?=some x):ixN (l.map f).length (j:Int)=some j/\(l.map f)[j]?=some (f x):=⟨QT (by rw[iO];exact(AD.mp e).1),by rw[aah,e];rfl⟩
theorem rG:∀{a b:List Nat},a.length=b.length->smDs (natD a) (natD b)=true
 |[],[],_=>rfl
 |x::a,y::b,e=>by
  show(true&&smDs (natD a) (natD b))=true;rw[rG (by simpa using e)];rfl
theorem Df{i β:Type}{f:i->β}{z l:List β}(p:z.Perm l):∀{m:List i},z=m.map f->∃g:List i,g.Perm m/\l=g.map f:=by
 induction p with
 |nil=>intro m e;exact⟨m,.refl _,e⟩
 | cons a p s=>
  intro m e
  cases m with
  |nil=>cases e
  |cons b m=>
   injection e with d c
   let⟨g,n,o⟩:=s c;exact⟨b::g,n.cons b,by rw[aaq,d,o]⟩
 | swap a b l=>
  intro m e
  cases m with
  |nil=>cases e
  | cons x m=>
   cases m with
   |nil=>cases e
   |cons y m=>
    injection e with d c
    injection c with c e3
    exact⟨y::x::m,.swap _ _ _,by rw[aaq,aaq,d,c,e3]⟩
 |trans u v j k=>
  intro m e;let⟨m1,t,d⟩:=j e;let⟨m2,q,c⟩:=k d;exact⟨m2,q.trans t,c⟩
def itL(q:Pk×Int):aD:=.tuple [pkD q.1,.int q.2]
def Km(L:List (Pk×Int)):il (ldD L)=L.map itL:=by unfold il ldD;rw[abD];rfl
def VM{L:List (Pk×Int)}(D:DkOk h L)(n:L.length<100000):SrtT (il (ldD L)):=by
 rw[Km];refine⟨⟨by rw[iO];exact n,λx c y f=>?_,λx c=>?_,λx c=>?_⟩,trivial⟩
 .obtain⟨a,ha,rfl⟩:=aar.mp c;let⟨b,e,rfl⟩:∃b,b∈L/\itL b=y:=aar.mp f;show((smDs (natD a.1.1) (natD b.1.1)&&(smDs (natD a.1.2) (natD b.1.2)&&true))&&(true&&true))=true;rw[rG ((D.ln a ha).1.1.trans (D.ln b e).1.1.symm),rG ((D.ln a ha).2.1.trans (D.ln b e).2.1.symm)];rfl
 .obtain⟨a,ha,rfl⟩:=aar.mp c;rfl
 .obtain⟨a,ha,rfl⟩:=aar.mp c;exact aaA (bc (k:=2) (ds:=[pkD a.1,.int a.2]) λd hd=>by
   obtain rfl|hd:=aag.mp hd
   .exact bc λd hd=>by
     obtain rfl|hd:=aag.mp hd
     .exact bc (bz _)
     .rw[aaf.mp hd];exact bc (bz _)
   .rw[aaf.mp hd];exact(cp _).mono ⋯).dp ⋯
theorem UZ{P:List Tr}{t:Tr}:((P.map trD).any λy=>aad y (trD t))=decide (t∈P):=by
 rw[abq,adD,decide_eq_true_iff];constructor
 .rintro⟨d,hd,e⟩;let⟨u,a,b⟩:=aar.mp hd;rw[<-b,Lj]at e;rw[<-of_decide_eq_true e];exact a
 .intro h;exact⟨_,aar.mpr ⟨t,h,rfl⟩,by rw[Lj];exact decide_eq_true rfl⟩
theorem w4(a:Pk)(v:Int):∀L:List (Pk×Int),(setL a v L).length≤L.length+1
 |[]=>aaa _
 |q::L=>by
  unfold setL;split
  .simp
  .have:=w4 a v L;simp only[aau];omega
theorem K6{a b:Pk}{v:Int}:∀L:List (Pk×Int),lkL b (setL a v L)=if b=a then some v else lkL b L
 |[]=>by
  show(if a=b then some v else none)=_
  by_cases e:b=a
  .rw[if_pos e,if_pos e.symm]
  .rw[if_neg e,if_neg λz=>e z.symm];rfl
 | q::L=>by
  have i:=K6 (a:=a) (b:=b) (v:=v) L;unfold setL
  by_cases c:q.1=a
  .rw[if_pos c];show(if q.1=b then some v else lkL b L)=if b=a then some v else(if q.1=b then some q.2 else lkL b L);rw[c]
   by_cases e:b=a
   .rw[if_pos e,if_pos e.symm]
   .rw[if_neg e,if_neg λz=>e z.symm,if_neg λz=>e z.symm]
  .rw[if_neg c];show(if q.1=b then some q.2 else lkL b (setL a v L))=if b=a then some v else(if q.1=b then some q.2 else lkL b L);rw[i]
   by_cases e:b=a
   .rw[if_pos e,if_pos e,if_neg λz=>c (z.trans e)]
   .rw[if_neg e,if_neg e]
def Dj:SpM:=λa K=>∃(b:Nat) (d:aD),a=[.imm d]/\Gd b d/\K (.imm (.bool (isWh d))) []
def Ua:SpM:=λc K=>∃(z:Nat) (d:aD) (a b:Int),c=[.imm d,.imm (.int a),.imm (.int b)]/\Gd z d/\K (.imm (.bool (inW a b d))) []
def Bu:SpM:=λa K=>∃(z:Nat) (d:aD) (n:Nat),a=[.imm d,.imm (.int (n:Int))]/\Gd z d/\K (.imm (.bool (tupN n d))) []
def Ak:SpM:=λa K=>∃(z:Nat) (h:Hall) (d:aD),a=[.imm h.d,.imm d]/\h.Ok/\Gd z d/\K (.imm (.bool (vg h d))) []
def yu:SpM:=λa K=>∃(h:Hall) (l:List Nat),a=[.imm h.d,.imm (lnD l)]/\h.Ok/\Lines h l/\c9 h l=l/\K (.imm (.bool true)) []
def BO:SpM:=λa K=>∃(h:Hall) (t:Tr),a=[.imm h.d,.imm (trD t)]/\h.Ok/\TrOk h t/\K (.imm (.bool true)) []
def zP:SpM:=λa K=>∃(h:Hall) (P:List Tr),a=[.imm h.d,.imm (prD' P)]/\h.Ok/\(∀t∈P,TrOk h t)/\K (.imm (.bool true)) []
theorem Rg(L:Lines h l):vg h (lnD l)=true:=by
 refine v9 (by rw[aQ,Hall.rsl];exact L.1) λi r d b a=>?_;let⟨s,e,rfl⟩:∃s,h.ss[i]?=some s/\s.r=r:=by simpa[Hall.rs]using b
 let⟨x,ex,rfl⟩:∃x,l[i]?=some x/\abj (x:Int)=d:=by simpa[natD]using a
 have:=L.2 i s x e ex;show(decide ((0:Int)≤(x:Int))&&decide ((x:Int)≤(s.r:Int)))=true;simp;omega
theorem Da(a:h.Ok)(L:Lines h l):Gd 6 (lnD l):=by
 show GdA 6 (natD l);rw[vq];intro d hd;let⟨x,b,rfl⟩:=aar.mp hd;have:=L.le a x b;show((x:Nat):Int).natAbs≤6;omega
theorem Sd{t:Tr}(a:h.Ok)(X:TrOk h t):Gd (10^15) (trD t):=by
 have d0:=X.d0;have d1:=X.d1;show Gd _ (lnD t.1)/\Gd _ (lnD t.2.1)/\Gd _ (.int t.2.2)/\True;refine⟨(Da a X.x).mono ⋯,(Da a X.y).mono ⋯,?_,trivial⟩;show t.2.2.natAbs≤10^15;omega
def S9{z:Nat}{d:aD}(h:Gd z d):ndR (.imm d)=true:=by cases d<;>first|rfl|(simp only[Gd]at h)
structure LdOk(P:List Tr)(L:List (Pk×Int)):Prop where
 i:∀p∈L,(p.1.1,p.1.2,p.2)∈P
 n:L.length≤P.length
 a:∀t∈P,∃v,lkL (t.1,t.2.1) L=some v/\v≤t.2.2
def zW:SpM:=λa K=>∃(h:Hall) (P:List Tr),a=[.imm (prD' P)]/\h.Ok/\(∀t∈P,TrOk h t)/\P.length≤100000/\∀L,LdOk P L->K (.imm (.dict (ldD L))) []
def Kj:SpM:=λb K=>∃(h:Hall) (r1 a:Rule) (P:List Tr) (L:List (Pk×Int)) (t:Tr),b=[.imm h.d,.imm r1.d,.imm a.d,.imm (.dict (ldD L)),.imm (trD t)]/\GoodR h r1 a/\(∀t∈P,TrOk h t)/\LdOk P L/\TrOk h t/\(∀m∈mvs h,∃u∈P,u.1=(bth h r1 a t m).1/\u.2.1=(bth h r1 a t m).2.1/\u.2.2≤(bth h r1 a t m).2.2)/\K (.imm (.bool true)) []
def BI:SpM:=λb K=>∃(h:Hall) (r1 a:Rule) (P:List Tr),b=[.imm h.d,.imm r1.d,.imm a.d,.imm (prD' P)]/\GoodR h r1 a/\Nvr h r1 a P/\(∀t∈P,TrOk h t)/\P.length≤100000/\K (.imm (.bool true)) []
structure AlkB(h:Hall)(s:Srv):Prop where
 a:Alk h s
 l:(M3.allR h.rs).length≤27
 n:nP h*(nP h+2)≤190000
theorem O4{s:Srv}(A:Alk h s)(a:s.r≤4)(l:(M3.allR h.rs).length≤27):AlkB h s:=by
 have n1:=A.ok.n1;have n4:=A.ok.n4;have key:∀n≤4,∀r≤4,(M3.allR (aaj n r)).length≤27->((M3.allR (aaj n r)).filter λl=>decide (M8.srt l=l)).length≤15:=by ext K
 have e:h.rs=aaj h.ss.length s.r:=List.eq_replicate_iff.mpr ⟨h.rsl,λx b=>by
  let⟨t,c,rfl⟩:=aar.mp b;rw[A.al t c]⟩
 refine⟨A,l,?_⟩;have:(kL h).length≤15:=by
  unfold kL c9;rw[A.alk];simp only[if_true];rw[e]at l⊢;exact key _ n4 _ a l
 have:nP h≤15*15:=acH this this;exact aaA (acH this (Nat.add_le_add_right this 2)) ⋯
def xU:SpM:=λb K=>∃(t:aD) (c:Nat),b=[.tr t,.imm (.int 27)]/\TapeK c t/\c<800000000/\∀(h:Hall) (s:Srv) (a:aD),AlkB h s->TapeK (c+5) a->K (.imm h.d) [[a]]
def zY:SpM:=λb K=>∃(t:aD) (c:Nat) (h:Hall),b=[.tr t,.imm h.d]/\TapeK c t/\c<800000000/\h.Ok/\∀(p:List Nat) (a:aD),(Rule.told p).Ok h->TapeK (c+3000) a->K (.imm (Rule.told p).d) [[a]]
def FI:SpM:=λb K=>∃(h:Hall) (s:Srv) (r1 a:Rule),b=[.imm h.d,.imm r1.d,.imm a.d]/\AlkB h s/\GoodR h r1 a/\Sound h r1 a/\K (.imm (.bool true)) []
def xY:SpM:=λd K=>∃(t:aD) (c:Nat) (h:Hall) (r1 a:Rule),d=[.tr t,.imm h.d,.imm r1.d,.imm a.d]/\TapeK c t/\c<800000000/\GoodR h r1 a/\Sound h r1 a/\Sound h a r1/\∀b:aD,TapeK (c+200) b->K (.imm (.bool true)) [[b]]
section
variable {P:aax}{w:World}{K:aae}{mg:Str->Option Ad}{base:aaZ}
theorem y6(T:Bl K mg)(D:DefM K mg "is_whole" nh ["thing"]):FnM P w K mg base "is_whole" 1 1 Dj:=by
 refine aH D zj rfl (nN:=1) rfl ⋯ ?ar λc A outer s H E f g=>⟨_,(aa (af (jQ (rm (mv' 0) OG T.isinstance T.int w5) (kz (QK (rm (mv' 0) IW T.isinstance T.bool LC)))))),?_⟩
 case ar=>intro a e ⟨z,d,rfl,_⟩;rfl
 intro a e j ⟨z,d,rfl,hd,k⟩;have b:=S9 hd;refine ah (MSt.mk [~~~d] [] 0) rfl ?_;ext s
 cases d with
 |int i=>rw[if_pos (show fInt (tyR (L2.R.imm (abj i)))=true from rfl)];ext s;exact k
 |bool i=>rw[if_pos (show fInt (tyR (L2.R.imm (PyData.bool i)))=true from rfl)];ext s;exact k
 |none=>rw[if_neg (show ¬fInt (tyR (L2.R.imm PyData.none))=true by ext K)];exact k
 |str x=>rw[if_neg (show ¬fInt (tyR (L2.R.imm (PyData.str x)))=true by show ¬fInt "str" = true;ext K)];exact k
 |list x=>rw[if_neg (show ¬fInt (tyR (L2.R.imm (aea x)))=true by show ¬fInt "list" = true;ext K)];exact k
 |tuple x=>rw[if_neg (show ¬fInt (tyR (L2.R.imm (abT x)))=true by show ¬fInt "tuple" = true;ext K)];exact k
 |dict x=>exact hd.elim
theorem j4(T:Bl K mg)(D:DefM K mg "is_whole_within" dE ["thing","least","most"])(G:FnM P w K mg base "is_whole" 1 1 Dj):FnM P w K mg base "is_whole_within" 2 3 Ua:=by
 refine aH D jZ rfl (nN:=3) rfl ⋯ ?ar λg A outer s H E f e=>⟨_,(aa (af (jQ (mf' G e⁻¹ (mc' (mv' 0) mn')) (kz (AA Lh Lh (mv' 1) (mv' 0) (mv' 2)))))),?_⟩
 case ar=>intro c j ⟨z,d,a,b,rfl,_⟩;rfl
 intro c j m ⟨z,d,a,b,rfl,hd,k⟩;refine ah (MSt.mk [~~~d,~~~(.int a),~~~(.int b)] [] 0) rfl ?_;ext s;refine⟨z,d,rfl,hd,?_⟩;ext x
 cases d with
 |int i=>
  rw[if_pos (show isWh (abj i)=true from rfl)];ext s;refine bi (λh=>?_) (λh=>?_)
  .ext s;rw[show inW a b (.int i)=decide (i≤b) by simp[inW,h]]at k;exact k
  .rw[show inW a b (.int i)=false by simp[inW,h]]at k;exact k
 |bool i=>rw[if_neg (show ¬isWh (PyData.bool i)=true by simp[isWh])];exact k
 |none=>rw[if_neg (show ¬isWh PyData.none=true by simp[isWh])];exact k
 |str x=>rw[if_neg (show ¬isWh (PyData.str x)=true by simp[isWh])];exact k
 |list x=>rw[if_neg (show ¬isWh (aea x)=true by simp[isWh])];exact k
 |tuple x=>rw[if_neg (show ¬isWh (abT x)=true by simp[isWh])];exact k
 |dict x=>exact hd.elim
theorem rQ(T:Bl K mg)(D:DefM K mg "is_tuple_of" ig ["thing","many"]):FnM P w K mg base "is_tuple_of" 1 2 Bu:=by
 refine aH D qx rfl (nN:=2) rfl ⋯ ?ar λg A outer s H E f c=>⟨_,(aa (af (jQ (rm (mv' 0) uo T.isinstance T.tuple gg) (kz (dB (bQ c.units) (aE bv 'b' T.len dG (mc' (mv' 0) mn')) (mv' 1) (aC _)))))),?_⟩
 case ar=>intro b j ⟨z,d,n,rfl,_⟩;rfl
 intro b j m ⟨z,d,n,rfl,hd,k⟩;have i:=S9 hd;refine ah (MSt.mk [~~~d,~~~(.int (n:Int))] [] 0) rfl ?_;ext s;have a:(tyR (L2.R.imm d) == "tuple")=Gm d:=by rw[Uq]
 cases e:Gm d with
 |false=>
  rw[if_neg (show ¬(λn:String=>n == "tuple") (tyR (L2.R.imm d))=true by show ¬(tyR (L2.R.imm d) == "tuple")=true;rw[a,e];decide)];rw[OL e]at k;exact k
 | true=>
  rw[if_pos (show(λn:String=>n == "tuple") (tyR (L2.R.imm d))=true from a.trans e)]
  cases d with
  |tuple x=>
   ext s;rw[show tupN n (.tuple x)=decide ((x.length:Int)=(n:Int)) by unfold tupN;exact decide_eq_decide.mpr ∅]at k;exact k
  |_=>cases e
def BR(T:Bl K mg)(D:DefM K mg "is_less" sd ["one","other"]):FnM P w K mg base "is_less" 1 2 JS:=by
 refine aH D BZ rfl (nN:=2) rfl ⋯ ?ar λi A outer s H E f n=>⟨_,(aa (af (dB k6 (ag bC (ae (mv' 0) mh') (ae (mv' 1) mh')) (ag bC (ae (mv' 1) mh') (ae (mv' 0) mh')) (aC _)))),?_⟩
 case ar=>intro g j ⟨a,b,c,d,rfl,_⟩;rfl
 intro g j q ⟨a,b,c,d,rfl,m,p,o,hd,k⟩;refine ah (MSt.mk [~~~(.tuple [.int a,.int b]),~~~(.tuple [.int c,.int d])] [] 0) rfl ?_;ext s;have e:decide ((a:Int)*(d:Int)<(c:Int)*(b:Int))=decide (a*d<c*b):=by
  rw[<-adc,<-adc];exact decide_eq_decide.mpr Int.ofNat_lt
 rw[e];exact k
theorem zr(T:Bl K mg)(D:DefM K mg "is_alike" o4 ["hall"]):FnM P w K mg base "is_alike" 1 1 K8:=by
 refine aH D kq rfl (nN:=3) rfl ⋯ ?ar λC A outer s H E f y=>⟨_,(mz' (au 1 kq.nd (ae (mv' 0) mh'))
   (mz' (bU (bV (mv' 1)) (ap 2 kq.nd) (aa (aI (ay (t7 y.units) (mv' 2) (ae (mv' 1) mh') (aC _)) (aa (af cQ)) aq)) aaz)
   (aa (af cQ)))),?_⟩
 case ar=>intro x I ⟨h,rfl,_⟩;rfl
 intro x I J ⟨h,rfl,F,k⟩;have n1:=F.n1;refine ah (MSt.mk [~~~(.tuple [.tuple [.int h.a,.int h.b],.tuple (h.ss.map Srv.d),.bool h.mv]),none,none] [] 0) rfl ?_;ext s;have u:∀d∈h.ss.map Srv.d,Shp 2 d:=λd hd=>by
  let⟨s,_,rfl⟩:=aar.mp hd;exact bc (k:=1) λd hd=>by
   simp at hd;rcases hd with rfl|rfl
   .exact bc (k:=0) λd hd=>by
     simp at hd;rcases hd with rfl|rfl<;>exact cp _
   .exact(cp _).mono ⋯
 have p:(h.ss.map Srv.d).length=h.ss.length:=iO ..;unfold alk at k;generalize h.ss.map Srv.d=ss at *;let⟨a,v,z⟩:=J1 (xs:=ss) (i:=0) ⋯ ∅;have G:ss.getD 0 .none=a:=by rw[aac];have:ss[0]?=some a:=v;rw[this];rfl
 rw[G]at k;refine fv (λi m=>∃g,m=MSt.mk [~~~(.tuple [.tuple [.int h.a,.int h.b],.tuple ss,.bool h.mv]),~~~(.tuple ss),g] [] 0/\∀(j:Nat) s,j<i->ss[j]?=some s->aad s a=true) ⟨none,rfl,λj s b=>by omega⟩ ?_ ?_
 .rintro i s m e n ⟨g,rfl,hp⟩;ext s;refine' aY (d:=a) ?ea ?_
  case ea=>exact z
  refine x_ne rfl rfl ((u s (Ld e)).ok ⋯) ((u a (Ld v)).ok ⋯) ?_;ext s
  cases q:aad s a with
  |false=>
   refine jL ?_;ext s;have:(ss.all λs=>aad s a)=false:=List.all_eq_false.mpr ⟨s,Ld e,by rw[q];exact aap⟩;rw[this]at k;exact k
  |true=>
   refine jG ?_;ext s;refine⟨_,rfl,λj t b o=>?_⟩
   by_cases c:j=i
   .subst c;rw[e]at o;cases o;exact q
   .exact hp j t ∅ o
 .rintro m n ⟨g,rfl,hp⟩;ext s;have:(ss.all λs=>aad s a)=true:=abA.mpr λs B=>by
   let⟨j,b,ej⟩:=abY.mp B;exact hp j s b (by rw[lD b,ej])
  rw[this]at k;exact k
theorem yK(T:Bl K mg)(D:DefM K mg "is_lines" mZ ["hall","thing"])(g:FnM P w K mg base "is_tuple_of" 1 2 Bu)(G:FnM P w K mg base "is_whole_within" 2 3 Ua):FnM P w K mg base "is_lines" 3 2 Ak:=by
 refine aH D iE rfl (nN:=5) rfl ⋯ ?ar λJ A outer s H E f v=>⟨_,(mz' (au 2 iE.nd (ae (mv' 0) mh'))
   (mz' (aI (cA (bw (mf' g v⁻¹ (mc' (mv' 1) (mc' (aE bv 'b' T.len dG (mc' (mv' 2) mn')) mn'))))) (aa (af cQ)) aq)
   (mz' (bU (sf T.zip (mc' (mv' 1) (mc' (mv' 2) mn'))) (bo (n:=2) (ac (ap 3 iE.nd) (ac (ap 4 iE.nd) aU))) (aa (aI (cA (bw (mf' G v⁻¹ (mc' (mv' 3) (mc' mh' (mc' (ae (mv' 4) mh') mn')))))) (aa (af cQ)) aq)) aaz)
   (aa (af cQ))))),?_⟩
 case ar=>intro B O ⟨z,h,d,rfl,_⟩;rfl
 intro B O Q ⟨z,h,d,rfl,R,hd,k⟩;refine ah (MSt.mk [~~~h.d,~~~d,none,none,none] [] 0) rfl ?_;ext s;rw[iO];refine⟨z,d,h.ss.length,rfl,hd,?_⟩;ext x
 cases e:tupN h.ss.length d with
 |false=>
  rw[if_pos (c:=(!false)=true) rfl];ext s;rw[C5 h e]at k;exact k
 | true=>
  rw[if_neg (show ¬(!true)=true by decide)];let⟨ds,rfl,t⟩:=Zc e;have L:=gd_tup.mp hd;ext s;refine⟨true,_,true,_,rfl,rfl,?_⟩;refine fv (λi m=>∃a b,m=MSt.mk [~~~h.d,~~~(.tuple ds),~~~(.tuple (h.ss.map Srv.d)),a,b] [] 0/\∀(j r:Nat) (x:aD),j<i->h.rs[j]?=some r->ds[j]?=some x->inW 0 (r:Int) x=true) ⟨none,none,rfl,λj r x N=>by omega⟩ ?_ ?_
  .rintro i d m e n ⟨a,b,rfl,hall⟩;let⟨a1,b1,u,I,rfl⟩:=qP e;let⟨s,y,rfl,N⟩:=gmap I;ext e
   .rfl
   ext s;refine⟨z,a1,_,_,rfl,L a1 (Ld u),?_⟩;ext x
   cases q:inW 0 (s.r:Int) a1 with
   | false=>
    rw[if_pos (c:=(!false)=true) rfl];ext s;rw[show vg h (.tuple ds)=false by
     cases qq:vg h (.tuple ds)with
     |false=>rfl
     |true=>rw[Bp qq (Hall.rs_get y) u]at q;cases q]at k
    exact k
   | true=>
    rw[if_neg (show ¬(!true)=true by decide)];ext s;refine⟨_,_,rfl,λj r x F o ex=>?_⟩;rcases agb j i with p|M
    .exact hall j r x p o ex
    .have:j=i:=by omega
     subst this;rw[Hall.rs_get y]at o;rw[u]at ex
     cases o;cases ex;exact q
  .rintro m n ⟨a,b,rfl,hall⟩;ext s;rw[show vg h (.tuple ds)=true from v9 (by rw[h.rsl];exact t) λi r x o ex=>hall i r x (by
    have C:=(AD.mp o).1;have S:=(AD.mp ex).1;rw[h.rsl]at C;rw[cJ,iO];omega) o ex]at k
   exact k
theorem lC(T:Bl K mg)(D:DefM K mg "place_of_lines" d8 ["hall","lines"]):FnM P w K mg base "place_of_lines" 1 2 Cq:=by
 refine aH D cf rfl (nN:=5) rfl ⋯ ?ar λt A outer s H E f y=>⟨_,(mz' (au 2 cf.nd mh')
   (mz' (bU (sf T.zip (mc' (mv' 1) (mc' (ae (mv' 0) mh') mn'))) (bo (n:=2) (ac (ap 3 cf.nd) (ac (ap 4 cf.nd) aU))) (aa (au 2 cf.nd (ag aK (ag bC (mv' 2) (ag aK (ae (mv' 4) mh') mh')) (mv' 3)))) aaz)
   (aa (af (mv' 2))))),?_⟩
 case ar=>intro p v ⟨h,l,rfl,_⟩;rfl
 intro p v B ⟨h,l,rfl,u,o,k⟩;refine ah (MSt.mk [~~~h.d,~~~(.tuple (natD l)),none,none,none] [] 0) rfl ?_;ext s;refine⟨true,_,true,_,rfl,rfl,?_⟩;refine fv (λi m=>∃a b,m=MSt.mk [~~~h.d,~~~(.tuple (natD l)),~~~(.int (M7.placeF 0 (h.rs.take i) (l.take i):Nat)),a,b] [] 0) ⟨none,none,rfl⟩ ?_ ?_
 .rintro i d m e n ⟨a,b,rfl⟩;let⟨a1,b1,g,c,rfl⟩:=qP e;let⟨x,ex,rfl,z⟩:=gmap g;let⟨s,j,rfl,C⟩:=gmap c;have r6:=(u.ok s (Ld j)).r6;rw[M7.placeF_take (Hall.rs_get j) ex];ext e
  .rfl
  ext s;generalize M7.placeF 0 (h.rs.take i) (l.take i)=P;have q:(P:Int)*((s.r:Int)+1)+(x:Int)=((P*(s.r+1)+x:Nat):Int):=by
   rw[ad1,adc,ad1];rfl
  rw[q];exact⟨_,_,rfl⟩
 .rintro m n ⟨a,b,rfl⟩;have g:min (natD l).length (h.ss.map Srv.d).length=l.length:=by rw[aQ,iO];have:=o.1;omega
  rw[cJ,g];have c:h.rs.take l.length=h.rs:=by rw[o.1,<-h.rsl];exact aaE
  rw[c,aaE];ext s;exact k
theorem l9(T:Bl K mg)(D:DefM K mg "first_shortest" d9 ["lines","order"]):FnM P w K mg base "first_shortest" 1 2 qb:=by
 refine aH D cF rfl (nN:=4) rfl ⋯ ?ar λu A outer s H E f y=>⟨_,(mz' (au 2 cF.nd (ae (mv' 1) mh'))
   (mz' (bU (bV (mv' 1)) (ap 3 cF.nd) (aa (aI (ay k6 (ae (mv' 0) (mv' 3)) (ae (mv' 0) (mv' 2)) (aC _)) (aa (au 2 cF.nd (mv' 3))) aq)) aaz)
   (aa (af (mv' 2))))),?_⟩
 case ar=>intro q x ⟨l,o,rfl,_⟩;rfl
 intro q x B ⟨l,o,rfl,g,k⟩;let⟨c,os,rfl,C⟩:=g.cons;refine ah (MSt.mk [~~~(.tuple (natD l)),~~~(.tuple (natD (c::os))),none,none] [] 0) rfl ?_;ext s;refine aY (bh (j:=0) (bm rfl)) ?_;ext s;refine fv (λi m=>∃a,m=MSt.mk [~~~(.tuple (natD l)),~~~(.tuple (natD (c::os))),~~~(.int (M7.pick (bf l) c ((c::os).take i):Nat)),a] [] 0) ⟨none,rfl⟩ ?_ ?_
 .rintro i d m e n ⟨a,rfl⟩;let⟨j,ej,rfl,z⟩:=gmap e;have v:=g.lt j (Ld ej);have p:M7.pick (bf l) c ((c::os).take i)<l.length:=ox g i;have t:(c::os).take (i+1)=(c::os).take i++[j]:=by rw[aaX,ej];rfl
  rw[t,M7.pick_app];generalize M7.pick (bf l) c ((c::os).take i)=b at p;ext s;refine aY (bh (bm (getN rfl v))) ?_;ext s;refine aY (bh (bm (getN rfl p))) ?_;ext s;refine bi (λh=>?_) (λh=>?_)
  .ext s;rw[if_pos (show bf l j b=true from decide_eq_true ∅)];exact⟨_,rfl⟩
  .ext s;rw[if_neg (show ¬bf l j b=true by unfold bf;rw[decide_eq_true_eq];omega)];exact⟨_,rfl⟩
 .rintro m n ⟨a,rfl⟩;rw[aQ,aaE];ext s;exact k
theorem FM(T:Bl K mg)(D:DefM K mg "wait_at" qV ["hall","lines","line"]):FnM P w K mg base "wait_at" 1 3 Kl:=by
 refine aH D ou rfl (nN:=5) rfl ⋯ ?ar λg A outer s H E f v=>⟨_,(mz' (cN (ae (ae (ae (mv' 0) mh') (mv' 2)) mh') (bo (n:=2) (ac (ap 3 ou.nd) (ac (ap 4 ou.nd) aU))))
   (aa (af (am (mc' (ag bC (ag aK (ae (mv' 1) (mv' 2)) mh') (mv' 4)) (mc' (mv' 3) mn')))))),?_⟩
 case ar=>intro b u ⟨h,l,j,rfl,_⟩;rfl
 intro b u x ⟨h,l,j,rfl,i,o,a,k⟩;let⟨s,c,t,eb,m⟩:=h.srv a;have p:=i.ok s m;have b2:=p.b2;rw[t,eb]at k;have q:=getN o.1 a;refine ah (MSt.mk [~~~h.d,~~~(.tuple (natD l)),~~~(.int (j:Int)),none,none] [] 0) rfl ?_;ext s;refine aY (d:=s.d) (bh (by rw[aah,c];rfl)) ?_;ext e
 .rfl
 ext s;refine aY (bh (bm q)) ?_;ext s;have e:(((l.getD j 0:Nat):Int)+1)*(s.b:Int)=(((l.getD j 0+1)*s.b:Nat):Int):=by
  rw[adc,ad1];rfl
 rw[e];exact k
theorem lJ(T:Bl K mg)(D:DefM K mg "first_quickest" fe ["hall","lines","order"])(G:FnM P w K mg base "wait_at" 1 3 Kl)(g:FnM P w K mg base "is_less" 1 2 JS):FnM P w K mg base "first_quickest" 2 3 qm:=by
 refine aH D bW rfl (nN:=7) rfl ⋯ ?ar λJ A outer s H E f v=>⟨_,(mz' (au 3 bW.nd (ae (mv' 2) mh'))
   (mz' (au 4 bW.nd (mf' G v⁻¹ (mc' (mv' 0) (mc' (mv' 1) (mc' (mv' 3) mn')))))
   (mz' (bU (bV (mv' 2)) (ap 5 bW.nd) (mz' (au 6 bW.nd (mf' G v⁻¹ (mc' (mv' 0) (mc' (mv' 1) (mc' (mv' 5) mn')))))
   (aa (aI (bw (mf' g v⁻¹ (mc' (mv' 6) (mc' (mv' 4) mn')))) (aa (kj (i:=3) (j:=4) bW.nd rfl rfl ⋯ rfl rfl (mc' (mv' 5) (mc' (mv' 6) mn')) rfl)) aq))) aaz)
   (aa (af (mv' 3)))))),?_⟩
 case ar=>intro C Q ⟨h,l,o,rfl,_⟩;rfl
 intro C Q S ⟨h,l,o,rfl,t,u,x,k⟩;let⟨c,os,rfl,M⟩:=x.cons;have y:∀j,j<h.ss.length->(l.getD j 0+1)*h.bn j<1000000000000/\h.an j<1000000000000:=λj p=>by
  let⟨s,R,O,eb,L⟩:=h.srv p;have B:=t.ok s L;have U:=u.le t _ (Ld (getN u.1 p));rw[O,eb];have:=B.a2;have:(l.getD j 0+1)*s.b≤7*1000000:=acH ∅ (by have:=B.b2;omega);omega
 refine ah (MSt.mk [~~~h.d,~~~(.tuple (natD l)),~~~(.tuple (natD (c::os))),none,none,none,none] [] 0) rfl ?_;ext s;refine aY (bh (j:=0) (bm rfl)) ?_;ext s;refine⟨h,l,c,rfl,t,u,M,?_⟩;ext x;refine fv (λi m=>∃a b,m=MSt.mk [~~~h.d,~~~(.tuple (natD l)),~~~(.tuple (natD (c::os))),~~~(.int (M7.pick (cP h l) c ((c::os).take i):Nat)),~~~(frD ((l.getD (M7.pick (cP h l) c ((c::os).take i)) 0+1)*h.bn (M7.pick (cP h l) c ((c::os).take i)):Nat) (h.an (M7.pick (cP h l) c ((c::os).take i)):Nat)),a,b] [] 0) ⟨none,none,rfl⟩ ?_ ?_
 .rintro i d m e n ⟨a,b,rfl⟩;let⟨j,ej,rfl,V⟩:=gmap e;have p:=x.lt j (Ld ej);have z:M7.pick (cP h l) c ((c::os).take i)<h.ss.length:=ox x i;have N:(c::os).take (i+1)=(c::os).take i++[j]:=by rw[aaX,ej];rfl
  rw[N,M7.pick_app];generalize M7.pick (cP h l) c ((c::os).take i)=b at z;ext s;refine⟨h,l,j,rfl,t,u,p,?_⟩;ext x;let⟨b1,b2⟩:=y j p;let⟨I,F⟩:=y b z;refine⟨_,_,_,_,rfl,b1,b2,I,F,?_⟩;ext x;refine bi (λq=>?_) (λq=>?_)
  .ext s;rw[if_pos (show cP h l j b=true from decide_eq_true q)];exact⟨_,_,rfl⟩
  .ext s;rw[if_neg (show ¬cP h l j b=true by unfold cP;rw[decide_eq_true_eq];exact q)];exact⟨_,_,rfl⟩
 .rintro m n ⟨a,b,rfl⟩;rw[aQ,aaE];ext s;exact k
theorem AF(T:Bl K mg)(D:DefM K mg "sent_to" qL ["hall","rule","stand","order"])(G:FnM P w K mg base "first_shortest" 1 2 qb)(a:FnM P w K mg base "first_quickest" 2 3 qm)(b:FnM P w K mg base "place_of_lines" 1 2 Cq):FnM P w K mg base "sent_to" 3 4 yh:=by
 refine aH D jK rfl (nN:=7) rfl ⋯ ?ar λB A outer s H E f c=>⟨_,(mz' (cN (mv' 2) (bo (n:=2) (ac (ap 4 jK.nd) (ac (ap 5 jK.nd) aU))))
   (mz' (au 6 jK.nd (ae (mv' 1) mh'))
   (mz' (aI (ay (bQ c.units) (mv' 6) ak (aC _)) (aa (af (ae (mv' 3) mh'))) aq)
   (mz' (aI (ay (bQ c.units) (mv' 6) ak (aC _)) (aa (af (mv' 5))) aq)
   (mz' (aI (ay (bQ c.units) (mv' 6) ak (aC _)) (aa (af (mf' G c⁻¹ (mc' (mv' 4) (mc' (dg (dq gN (mv' 3) f9 (dW mh'))) mn'))))) aq)
   (mz' (aI (ay (bQ c.units) (mv' 6) ak (aC _)) (aa (af (mf' G c⁻¹ (mc' (mv' 4) (mc' (mv' 3) mn'))))) aq)
   (mz' (aI (ay (bQ c.units) (mv' 6) ak (aC _)) (aa (af (mf' a c⁻¹ (mc' (mv' 0) (mc' (mv' 4) (mc' (mv' 3) mn')))))) aq)
   (aa (af (ae (ae (mv' 1) mh') (mf' b c⁻¹ (mc' (mv' 0) (mc' (mv' 4) mn'))))))))))))),?_⟩
 case ar=>intro y F ⟨h,r,l,t,o,rfl,_⟩;rfl
 intro y F I ⟨h,r,l,t,o,rfl,x,p,g,i,k⟩;have q:=g.1;have d:Ord l.length o:=by rw[q];exact i
 cases r with
 |random=>
  refine ah (MSt.mk [~~~h.d,~~~(.tuple [.str "random"]),~~~(.tuple [lnD l,.int (t:Int)]),~~~(.tuple (natD o)),none,none,none] [] 0) rfl ?_;ext s
  .rfl
  ext s;refine bi (λ_=>?_) (λz=>(z rfl).elim);let⟨u,os,rfl,C⟩:=i.cons;ext s;refine aY (bh (j:=0) (bm rfl)) ?_;ext s;exact k
 |turns=>
  refine ah (MSt.mk [~~~h.d,~~~(.tuple [.str "turns"]),~~~(.tuple [lnD l,.int (t:Int)]),~~~(.tuple (natD o)),none,none,none] [] 0) rfl ?_;ext s
  .rfl
  ext s;ext b;exact k
 | two=>
  refine ah (MSt.mk [~~~h.d,~~~(.tuple [.str "two"]),~~~(.tuple [lnD l,.int (t:Int)]),~~~(.tuple (natD o)),none,none,none] [] 0) rfl ?_;ext s
  .rfl
  ext s;ext a;refine bi (λ_=>?_) (λz=>(z rfl).elim);ext s;have e:cutD (natD o) none (some 2)=natD (o.take 2):=by
   rw[show(2:Int)=((2:Nat):Int)from rfl,wm];simp[natD]
  rw[e];let⟨u,os,rfl,C⟩:=i.cons;refine⟨l,(u::os).take 2,rfl,⟨'a',λk hk=>d.lt k (ack hk),by rw[aaM];omega⟩,?_⟩;ext n;exact k
 |least=>
  refine ah (MSt.mk [~~~h.d,~~~(.tuple [.str "least"]),~~~(.tuple [lnD l,.int (t:Int)]),~~~(.tuple (natD o)),none,none,none] [] 0) rfl ?_;ext s
  .rfl
  ext s;ext a;ext b;refine⟨l,o,rfl,d,?_⟩;ext n;exact k
 |quick=>
  refine ah (MSt.mk [~~~h.d,~~~(.tuple [.str "quick"]),~~~(.tuple [lnD l,.int (t:Int)]),~~~(.tuple (natD o)),none,none,none] [] 0) rfl ?_;ext s
  .rfl
  ext s;ext a;ext a;refine bi (λ_=>?_) (λz=>(z rfl).elim);ext s;refine⟨h,l,o,rfl,x,g,i,?_⟩;ext n;exact k
 |told v=>
  refine ah (MSt.mk [~~~h.d,~~~(.tuple [.str "told",.tuple (natD v)]),~~~(.tuple [lnD l,.int (t:Int)]),~~~(.tuple (natD o)),none,none,none] [] 0) rfl ?_;ext s
  .rfl
  ext s;ext a;ext a;refine bi (λz=>absurd z (by ext K)) (λ_=>?_);ext s;refine⟨h,l,rfl,x,g,?_⟩;ext n;have m:M7.placeF 0 h.rs l<v.length:=by rw[p.1,M7.allR_cnt];exact M7.place_lt g.fits
  refine aY (bh (bm (getN rfl m))) ?_;exact k
theorem qR(T:Bl K mg)(D:DefM K mg "first_stand" gW ["hall"]):FnM P w K mg base "first_stand" 1 1 CQ:=by
 refine aH D qH rfl (nN:=1) rfl ⋯ ?ar λc A outer s H E f g=>⟨_,(aa (af (am (mc' (ag bC (am (mc' mh' mn')) (aE bv 'b' T.len dG (mc' (ae (mv' 0) mh') mn'))) (mc' mh' mn'))))),?_⟩
 case ar=>intro b d ⟨h,rfl,_⟩;rfl
 intro b d i ⟨h,rfl,a,k⟩;have n1:=a.n1;have n4:=a.n4;refine ah (MSt.mk [~~~h.d] [] 0) rfl ?_;ext s;rw[iO];refine Fu ∅ ∅ (by simp;omega) ?_;ext s;have e:(aaj ((h.ss.length:Nat):Int).toNat [abj 0]).flatten=natD (zer h):=by
  rw[abh];simp[zer,natD]
 rw[e];exact k
theorem um(T:Bl K mg)(D:DefM K mg "all_orders" gf ["hall"]):FnM P w K mg base "all_orders" 1 1 JW:=by
 refine aH D du rfl (nN:=4) rfl ⋯ ?ar λV A outer s H E f R=>⟨_,(mz' (v7 (i:=1) du.nd rfl (aei rfl) (aE bv 'b' T.len dG (mc' (ae (mv' 0) mh') mn')))
   (mz' (au 2 du.nd (cb (mc' (am mn') mn')))
   (mz' (bU (cw 'b' T.range (mc' (mv' 1) mn')) (ap 3 du.nd) (aa (DE (i:=2) (own:=["ahead","line"]) (fr:=["many"]) (ps:=[1]) (sc:=(ab gf)) 'e' du.nd rfl rfl (bV (mv' 2)) (λ_ _ _ _ _=>(ap 0 (show abC ((["ahead","line"]:List Str)++(["many"]:List Str))from by ext K))) (λ_ _ _ _ _=>cZ) (λ_ _ _ _ _=>(cw 'b' T.range (mc' (mv' 2) mn'))) (λ_ _ _ _ _=>(ap 1 (show abC ((["ahead","line"]:List Str)++(["many"]:List Str))from by ext K))) (λ_ _ _ _ _=>(qY (ay (jA R.units) (mv' 1) (mv' 0) 'f'))) (λ_ _ _ _ _=>(ag aK (mv' 0) (am (mc' (mv' 1) mn')))))) aaz)
   (aa (af (mv' 2)))))),?_⟩
 case ar=>intro N Y ⟨h,rfl,_⟩;rfl
 intro N Y hl ⟨h,rfl,M,k⟩;have n1:=M.n1;have n4:=M.n4;refine ah (MSt.mk [~~~h.d,none,none,none] [] 0) rfl ?_;ext d;rw[iO];refine⟨∅,∅,?_⟩;rw[abh];refine fv (λi m=>∃a,m=MSt.mk [~~~h.d,~~~(.int (h.ss.length:Nat)),some (.obj 0),a] [(ordK h.ss.length i).map lnD] 0) ⟨none,rfl⟩ ?_ ?_
 .rintro i d m e n ⟨a,rfl⟩;let⟨Z,rfl⟩:=df e;let⟨I,g⟩:=iq h.ss.length n4 i ∅;have p:=ja h.ss.length n4 i ∅;rw[show ordK h.ss.length (i+1)=gZ h.ss.length (ordK h.ss.length i)from rfl];generalize ordK h.ss.length i=os at I g p;ext s;ext n;refine qT (λz m=>∃b c,m=MSt.mk [b,c,~~~(.int (h.ss.length:Nat))] [os.map lnD,(gZ h.ss.length (os.take z)).map lnD] 2) ⟨none,none,rfl⟩ ?_ ?_ ?_
  .rintro z m ⟨b,c,rfl⟩;rfl
  .rintro z d m ez nz ⟨b,c,rfl⟩;let⟨l,F,rfl,hz⟩:=gmap ez;let⟨Q,S⟩:=g l (Ld F);have X:=(AD.mp F).1;have J:=p z ∅;ext s;refine⟨∅,∅,?_⟩;rw[abh];let⟨G,t⟩:∃G:Nat->List (List Nat),G=λy=>gZ h.ss.length (os.take z)++((aav y).filter λq=>!l.contains q).map λq=>l++[q]:=⟨_,rfl⟩;have C:G 0=gZ h.ss.length (os.take z):=by rw[t];simp
   have v:G h.ss.length=gZ h.ss.length (os.take (z+1)):=by rw[t,ql F]
   have o:∀y,G (y+1)=G y++([y].filter λq=>!l.contains q).map λq=>l++[q]:=λy=>by
    rw[t];show _++((aav (y+1)).filter _).map _=_;rw[ab6,afk,aaJ,aaW]
   have u:∀y,y≤4->(G y).length≤28:=λy O=>by
    rw[t];dsimp only;rw[aam,iO];have:=aet (λq=>!l.contains q) (aav y);rw[aa2]at this;omega
   clear t;rw[<-C];refine bJ (λy m=>∃c,m=MSt.mk [~~~(lnD l),c,~~~(.int (h.ss.length:Nat))] [os.map lnD,(G y).map lnD] 2) ⟨c,rfl⟩ ?_ ?_
   .rintro y d m ey ny ⟨c,rfl⟩ D1 hD1 hR1;let⟨O,rfl⟩:=df ey;rw[show(0:Int)+(y:Int)=((y:Nat):Int) by omega];have L:=u y ∅;have B:(natD l).any (λx=>aad x (.int (y:Int)))=l.contains y:=by
     rw[abq,adD,agu];constructor
     .rintro⟨x,hx,ex⟩;let⟨w,U,rfl⟩:=aar.mp hx;rw[bT]at ex;rw[<-of_decide_eq_true ex];exact U
     .intro hm;exact⟨_,aar.mpr ⟨y,hm,rfl⟩,by rw[bT];exact decide_eq_true rfl⟩
    ext s;refine x_in (d:=.int (y:Int)) (ds:=natD l) rfl (.inr rfl) (cp _) (bz l) ⋯ ?_;ext s;rw[B]
    cases hc:l.contains y with
    |true=>
     refine jG ?_;ext s;refine hD1 _ ⟨~~~(.int (y:Int)),?_⟩;rw[o,show([y].filter λq=>!l.contains q)=[] by rw[acz,hc];rfl,adB,aa4];rfl
    |false=>
     refine jL ?_;ext s;refine k8 (by rw[aas,aQ];simp;omega) ?_;ext s;refine⟨_,rfl,by rw[aas,iO];omega,hD1 _ ⟨~~~(.int (y:Int)),?_⟩⟩;rw[o,show([y].filter λq=>!l.contains q)=[y] by rw[acz,hc];rfl,aaJ];simp[lnD,natD,MSt.setV]
   .rintro m ny ⟨c,rfl⟩;rw[aP,v];ext s;exact⟨_,_,rfl⟩
  .rintro m nz ⟨b,c,rfl⟩;rw[iO,aaE];ext n;refine yJ (k:=0) rfl (aaa _) (λj W=>?_) ⟨_,rfl⟩
   match j with
   |0|1|3=>exact λz=>by cases z
   |2=>exact(W rfl).elim
   |n+4=>exact λz=>by cases z
 .rintro m n ⟨a,rfl⟩;rw[aP];ext s;exact k
theorem vd(T:Bl K mg)(D:DefM K mg "all_moves" fI ["hall"])(G:FnM P w K mg base "all_orders" 1 1 JW):FnM P w K mg base "all_moves" 2 1 nG:=by
 refine aH D ol rfl (nN:=2) rfl ⋯ ?ar λt A outer s H E f p=>⟨_,(mz' (ue (i:=1) (own:=["line"]) (fr:=[]) (ps:=[]) (sc:=(ab fI)) 'e' ol.nd rfl rfl (cw 'b' T.range (mc' (aE bv 'b' T.len dG (mc' (ae (mv' 0) mh') mn')) mn')) (λ_ _ _ _ _=>(ap 0 (show abC ((["line"]:List Str)++([]:List Str))from by ext K))) (λ_ _ _ _ _=>cZ) (λ_ _ _ _ _=>(am (mc' ak (mc' (mv' 0) mn')))))
   (aa (af (ag aK (ag aK (cE (own:=["order"]) (fr:=[]) (ps:=[]) (sc:=(ab fI)) 'e' (bV (dg (mf' G p⁻¹ (mc' (mv' 0) mn')))) (λ_ _ _ _ _=>(ap 0 (show abC ((["order"]:List Str)++([]:List Str))from by ext K))) (λ_ _ _ _ _=>cZ) (λ_ _ _ _ _=>(am (mc' ak (mc' (mv' 0) mn'))))) (mv' 1)) (cb (mc' (am (mc' ak mn')) mn')))))),?_⟩
 case ar=>intro j u ⟨h,rfl,_⟩;rfl
 intro j u v ⟨h,rfl,g,k⟩;have n4:=g.n4;have x:(ordK h.ss.length h.ss.length).length≤24:=(iq _ n4 _ n4).1;refine ah (MSt.mk [~~~h.d,none] [] 0) rfl ?_;ext s;refine⟨by rw[iO];omega,by rw[iO];omega,?_⟩;rw[iO,abh];refine bJ (λi m=>∃a:Option L2.R,m=MSt.mk [a] [(aav i).map λk=>(Mv.done k).d] 1) ⟨none,rfl⟩ ?_ ?_
 .rintro i d m e c ⟨a,rfl⟩ D1 hD1 hR1;let⟨q,rfl⟩:=df e;ext s;refine⟨_,rfl,by rw[aas,iO,aa2];omega,hD1 _ ⟨~~~(.int (0+(i:Int))),?_⟩⟩;rw[ab6,aaJ,show(0:Int)+(i:Int)=((i:Nat):Int) by omega];rfl
 intro m c ⟨a,rfl⟩;rw[aP];ext n;refine eF ?_;ext x;refine⟨h,rfl,g,?_⟩;ext x;refine bJ (λi m=>∃a:Option L2.R,m=MSt.mk [a] [(aav h.ss.length).map λk=>(Mv.done k).d,((ordK h.ss.length h.ss.length).take i).map λo=>(Mv.come o).d] 2) ⟨none,rfl⟩ ?_ ?_
 .rintro i d m e c ⟨a,rfl⟩ D1 hD1 hR1;let⟨o,n,rfl,q⟩:=gmap e;ext s;refine⟨_,rfl,by rw[aas,iO,aaM];omega,hD1 _ ⟨~~~(lnD o),?_⟩⟩;rw[aaX,n,aaJ];rfl
 intro m c ⟨a,rfl⟩;rw[iO,aaE];ext x;refine QY (a:=(ordK h.ss.length h.ss.length).map λo=>(Mv.come o).d) (b:=(aav h.ss.length).map λk=>(Mv.done k).d) rfl (by rw[iO,iO,aa2,aas];omega) ?_;ext s;refine BP (by rw[aam,iO,iO,aa2,aas];simp;omega) ?_;rw[TW]at k;ext s;exact k
theorem vX(T:Bl K mg)(D:DefM K mg "with_more" jV ["lines","line","more"]):FnM P w K mg base "with_more" 1 3 qc:=by
 refine aH D vm rfl (nN:=3) rfl ⋯ ?ar λi A outer s H E f n=>⟨_,(aa (af (ag aK (ag aK (dq gN (mv' 0) f9 (dW (mv' 1))) (am (mc' (ag aK (ae (mv' 0) (mv' 1)) (mv' 2)) mn'))) (dq gN (mv' 0) (dW (ag aK (mv' 1) mh')) f9)))),?_⟩
 case ar=>intro b m ⟨l,j,d,x,rfl,_⟩;rfl
 intro b m o ⟨l,j,d,x,rfl,a,c,g,k⟩;refine ah (MSt.mk [~~~(.tuple (natD l)),~~~(.int (j:Int)),~~~(.int d)] [] 0) rfl ?_;ext s;refine aY (bh (bm (getN rfl a))) ?_;ext s;rw[g,wm];refine k8 (by rw[aas,aaM,aQ];simp;omega) ?_;ext s;rw[show(j:Int)+1=((j+1:Nat):Int)from rfl,oI];refine k8 (by rw[aas,aam,aaM,aew,aQ];simp;omega) ?_;ext s;have e:(natD l).take j++[.int (x:Int)]++(natD l).drop (j+1)=natD (l.set j x):=by
  rw[<-xP,aec,if_pos (by rw[aQ];exact a)];simp
 rw[e];exact k
theorem Dg(T:Bl K mg)(D:DefM K mg "come_to" qX ["hall","lines","line"])(G:FnM P w K mg base "with_more" 1 3 qc):FnM P w K mg base "come_to" 2 3 KO:=by
 refine aH D BV rfl (nN:=3) rfl ⋯ ?ar λn A outer s H E f b=>⟨_,(mz' (aI (ay (bQ b.units) (ae (mv' 1) (mv' 2)) (ae (ae (ae (mv' 0) mh') (mv' 2)) mh') (aC _)) (aa (af (am (mc' (mv' 1) (mc' ak mn'))))) aq)
   (aa (af (am (mc' (mf' G b⁻¹ (mc' (mv' 1) (mc' (mv' 2) (mc' mh' mn')))) (mc' ak mn')))))),?_⟩
 case ar=>intro m q ⟨h,l,j,rfl,_⟩;rfl
 intro m q u ⟨h,l,j,rfl,o,p,i,k⟩;have a:=p.1;have n4:=o.n4;let⟨s,c,v,eb,t⟩:=h.srv i;have g:h.rn j=s.r:=bH (Hall.rs_get c);refine ah (MSt.mk [~~~h.d,~~~(.tuple (natD l)),~~~(.int (j:Int))] [] 0) rfl ?_;ext s;refine aY (bh (bm (getN a i))) ?_;ext s;refine aY (d:=s.d) (bh (by rw[aah,c];rfl)) ?_;ext e;refine bi (λz=>?_) (λz=>?_)
 .ext s;have e:cz h l j=(l,.away):=if_pos (by rw[g];omega);rw[e]at k;exact k
 .ext s;refine⟨l,j,1,l.getD j 0+1,rfl,∅,∅,rfl,?_⟩;ext x;have e:cz h l j=(l.set j (l.getD j 0+1),.taken):=if_neg (by rw[g];omega);rw[e]at k;exact k
theorem Ce(T:Bl K mg)(D:DefM K mg "done_at" sk ["lines","line"])(G:FnM P w K mg base "with_more" 1 3 qc):FnM P w K mg base "done_at" 2 2 K7:=by
 refine aH D CB rfl (nN:=2) rfl ⋯ ?ar λg A outer s H E f b=>⟨_,(mz' (aI (ay (bQ b.units) (ae (mv' 0) (mv' 1)) mh' (aC _)) (aa (af (am (mc' (mv' 0) (mc' ak mn'))))) aq)
   (aa (af (am (mc' (mf' G b⁻¹ (mc' (mv' 0) (mc' (mv' 1) (mc' (p9 jT mh') mn')))) (mc' ak mn')))))),?_⟩
 case ar=>intro d i ⟨l,j,rfl,_⟩;rfl
 intro d i m ⟨l,j,rfl,c,a,k⟩;refine ah (MSt.mk [~~~(.tuple (natD l)),~~~(.int (j:Int))] [] 0) rfl ?_;ext s;refine aY (bh (bm (getN rfl c))) ?_;ext s;refine bi (λz=>?_) (λz=>?_)
 .ext s;have e:c8 l j=(l,.none):=if_pos ∅;rw[e]at k;exact k
 .ext s;refine⟨l,j,-1,l.getD j 0-1,rfl,c,a,∅,?_⟩;ext x;have e:c8 l j=(l.set j (l.getD j 0-1),.served):=if_neg ∅;rw[e]at k;exact k
theorem uL(T:Bl K mg)(D:DefM K mg "next_shift" jp ["hall","lines"]):FnM P w K mg base "next_shift" 1 2 Fc:=by
 refine aH D s9 rfl (nN:=2) rfl ⋯ ?ar λI A outer s H E f t=>⟨_,(mz' (aI (EW.pt (jc (cA (bw (ae (mv' 0) mh'))) (jc (ay (jA t.units) mh' (mv' 1) 'f') (ij (ay k6 (aE (fQ rfl) 'b' T.max ul (mc' (mv' 1) mn')) mh' (aC _)))))) (aa (af jR)) aq)
   (aa (af (am (mc' (yx acg acP (iL t.units) (mv' 1) (mc' (aE (fQ rfl) 'b' T.max ul (mc' (mv' 1) mn')) mn')) (mc' (yx acg acP (iL t.units) (mv' 1) (mc' mh' mn')) mn')))))),?_⟩
 case ar=>intro F L ⟨h,l,rfl,_⟩;rfl
 intro F L N ⟨h,l,rfl,o,G,k⟩;have b:fc (natD l)=some (l.map λ(x:Nat)=>(x:Int)):=by
  have:=gh (l.map λ(x:Nat)=>(x:Int));rwa[abD]at this
 have g:(l.map λ(x:Nat)=>(x:Int))≠[]:=λz=>o (aeT.mp z);have c:∀x:Int,x∈(l.map λ(x:Nat)=>(x:Int))->(∀y∈(l.map λ(x:Nat)=>(x:Int)),y≤x)->x=(maxN l:Int):=λx m a=>by
  let⟨n,J,rfl⟩:=aar.mp m;have M:=rJ n J;have O:=a (maxN l:Int) (aar.mpr ⟨maxN l,iG o,rfl⟩);omega
 have v:(natD l).any (λy=>aad y (.int 0))=decide (0∈l):=by
  rw[abq];rw[adD,decide_eq_true_eq];constructor
  .rintro⟨y,a,e⟩;let⟨x,m,rfl⟩:=aar.mp a;have C:=bT x 0;rw[show((0:Nat):Int)=0 from rfl,e]at C;have:x=0:=of_decide_eq_true C.symm;rw[<-this];exact m
  .intro p;exact⟨.int 0,aar.mpr ⟨0,p,rfl⟩,bT 0 0⟩
 refine ah (MSt.mk [~~~h.d,~~~(.tuple (natD l))] [] 0) rfl ?_;ext s
 cases hmv:h.mv with
 |false=>
  refine jL ?_;ext s;have e:dH h l=none:=if_neg (by rw[hmv];exact λz=>by cases z.1);rw[e]at k;exact k
 | true=>
  refine jG ?_;ext s;refine x_in (d:=.int 0) (ds:=natD l) rfl (.inr rfl) (cp 0) (bz l) ⋯ ?_;ext s;rw[v]
  by_cases p:0∈l
  .rw[decide_eq_true p];refine jG ?_;ext s;refine uU rfl b g λx m a=>?_;rw[c x m a];ext s;refine bi (λz=>?_) (λz=>?_)
   .ext s;have e:dH h l=none:=if_neg (λq=>by have:=q.2.2;omega);rw[e]at k;exact k
   .ext s;refine uU rfl b g λx m a=>?_;rw[c x m a];have s1:=gC (iG o);have B:=gC p;ext s;refine mn (j:=idx l (maxN l)) (k':=0) (cp _) (bz l) ⋯ (bm s1.1) (by rw[bT];exact decide_eq_true rfl) (λi y u a=>?_) ?_
    .obtain⟨z,ez,rfl,_⟩:=gmap a;rw[bT];exact decide_eq_false (s1.2 i z u ez)
    ext s;refine mn (j:=idx l 0) (k':=0) (cp _) (bz l) ⋯ (bm B.1) (bT 0 0) (λi y u a=>?_) ?_
    .obtain⟨z',ez,rfl,_⟩:=gmap a;have:=bT z' 0;rw[show((0:Nat):Int)=0 from rfl]at this;rw[this];exact decide_eq_false (B.2 i z' u ez)
    ext s;have e:dH h l=some (idx l (maxN l),idx l 0):=if_pos ⟨hmv,p,∅⟩;rw[e]at k;exact k
  .rw[decide_eq_false p];refine jL ?_;ext s;have e:dH h l=none:=if_neg (λq=>p q.2.1);rw[e]at k;exact k
theorem D7(T:Bl K mg)(D:DefM K mg "settled" sg ["hall","lines"])(G:FnM P w K mg base "next_shift" 1 2 Fc)(a:FnM P w K mg base "with_more" 1 3 qc):FnM P w K mg base "settled" 2 2 u8:=by
 refine aH D jE rfl (nN:=3) rfl ⋯ ?ar λI A outer s H E f q=>⟨_,(mz' (au 2 jE.nd (mf' G q⁻¹ (mc' (mv' 0) (mc' (mv' 1) mn'))))
   (mz' (fH (ay qr (mv' 2) jR (aC _)) (mz' (au 1 jE.nd (mf' a q⁻¹ (mc' (mf' a q⁻¹ (mc' (mv' 1) (mc' (ae (mv' 2) mh') (mc' (p9 jT mh') mn')))) (mc' (ae (mv' 2) mh') (mc' mh' mn')))))
   (aa (au 2 jE.nd (mf' G q⁻¹ (mc' (mv' 0) (mc' (mv' 1) mn')))))) aaz)
   (aa (af (mv' 1))))),?_⟩
 case ar=>intro u J ⟨h,l,rfl,_⟩;rfl
 intro u J N ⟨h,l,rfl,i,o,k⟩;refine ah (MSt.mk [~~~h.d,~~~(lnD l),none] [] 0) rfl ?_;ext s;refine⟨h,l,rfl,i,o,?_⟩;ext x;refine kB (λn m=>∃b:List Nat,m=MSt.mk [~~~h.d,~~~(lnD b),~~~(optP (dH h b))] [] 0/\n=b.count 0/\dA h n b=settle h l/\b≠[]/\b.length≤1000) (l.count 0) ⟨l,rfl,rfl,rfl,i,o⟩ ?_;intro n m O ⟨b,rfl,rfl,t,g,j⟩;ext s
 cases e:dH h b with
 |none=>
  refine jG ?_;ext s;rw[h8 e]at t;rw[<-t]at k;exact k
 | some p=>
  refine jL ?_;let⟨x,F,y,C,d⟩:=jY e;let⟨L,m1,m2,B,v⟩:=iC e;have M:b.getD p.1 0=maxN b:=bH m1;have Q:(b.set p.1 (maxN b-1)).getD p.2 0=0:=bH (by rw[aaO v];exact B);dsimp only[optP];ext s;refine⟨b,p.1,-1,maxN b-1,rfl,F,j,∅,?_⟩;ext x;refine⟨b.set p.1 (maxN b-1),p.2,1,1,rfl,by rw[aa5];exact y,by rw[aa5];exact j,∅,?_⟩;rw[<-x];ext x;have c:cI b p≠[]:=λz=>by
   rw[z]at d;exact g (abi d.symm)
  refine⟨h,cI b p,rfl,c,∅,?_⟩;ext x;refine⟨(cI b p).count 0,∅,cI b p,rfl,rfl,?_,c,∅⟩;rw[<-t,<-C];show _=dA h ((cI b p).count 0+1) b;simp only[dA,e]
theorem su(T:Bl K mg)(D:DefM K mg "turn_behind" ie ["hall","rule","turn"]):FnM P w K mg base "turn_behind" 1 3 Bi:=by
 refine aH D qC rfl (nN:=3) rfl ⋯ ?ar λc A outer s H E f a=>⟨_,(mz' (aI (ay (bQ a.units) (ae (mv' 1) mh') ak (aC _)) (aa (af (ag ga (ag aK (mv' 2) mh') (aE bv 'b' T.len dG (mc' (ae (mv' 0) mh') mn'))))) aq)
   (aa (af (mv' 2)))),?_⟩
 case ar=>intro b g ⟨h,r,t,rfl,_⟩;rfl
 intro b g i ⟨h,r,t,rfl,d,k⟩;have n1:=d.n1;refine ah (MSt.mk [~~~h.d,~~~r.d,~~~(.int (t:Int))] [] 0) rfl ?_;ext s;refine Qk r.dc (bh (j:=0) rfl) ?_;ext s;refine bi (λz=>?_) (λz=>?_)
 .have a:r = .turns:=by cases r<;>first|rfl|exact absurd z (by ext K)|exact absurd (show("told" : Str) = "turns" from z) (by ext K)
  subst a;ext s;refine Nw (by rw[iO];omega) ?_;rw[iO];exact k
 .ext s;have e:D5 h r t=t:=by cases r<;>first|rfl|exact absurd rfl z
  rw[e]at k;exact k
theorem Cp(T:Bl K mg)(D:DefM K mg "line_of" qM ["hall","rule","stand","move"])(G:FnM P w K mg base "sent_to" 3 4 yh):FnM P w K mg base "line_of" 4 4 yf:=by
 refine aH D Bw rfl (nN:=4) rfl ⋯ ?ar λe A outer s H E f b=>⟨_,(mz' (aI (ay (bQ b.units) (ae (mv' 3) mh') ak (aC _)) (aa (af (mf' G b⁻¹ (mc' (mv' 0) (mc' (mv' 1) (mc' (mv' 2) (mc' (ae (mv' 3) mh') mn'))))))) aq)
   (mz' (aI (ay (bQ b.units) (ae (mv' 3) mh') ak (aC _)) (aa (af (ae (mv' 3) mh'))) aq)
   (aa (af jR)))),?_⟩
 case ar=>intro c m ⟨h,r,l,t,mv,rfl,_⟩;rfl
 intro c m n ⟨h,r,l,t,mv,rfl,g,a,i,d,k⟩
 cases mv with
 |come o=>
  refine ah (MSt.mk [~~~h.d,~~~r.d,~~~(stD l t),~~~(.tuple [.str "come",lnD o])] [] 0) rfl ?_;ext s;refine bi (λ_=>?_) (λz=>(z rfl).elim);ext s;refine⟨h,r,l,t,o,rfl,g,a,i,d,?_⟩;ext n;exact k
 |done j=>
  refine ah (MSt.mk [~~~h.d,~~~r.d,~~~(stD l t),~~~(.tuple [.str "done",.int (j:Int)])] [] 0) rfl ?_;ext s;ext b;exact k
 |still=>
  refine ah (MSt.mk [~~~h.d,~~~r.d,~~~(stD l t),~~~(.tuple [.str "still"])] [] 0) rfl ?_;ext s;ext a;exact k
theorem ze(T:Bl K mg)(D:DefM K mg "moved_on" og ["hall","rule","stand","move"])(d:FnM P w K mg base "line_of" 4 4 yf)(c:FnM P w K mg base "come_to" 2 3 KO)(G:FnM P w K mg base "turn_behind" 1 3 Bi)(a:FnM P w K mg base "done_at" 2 2 K7)(b:FnM P w K mg base "settled" 2 2 u8):FnM P w K mg base "moved_on" 5 4 zT:=by
 refine aH D cg rfl (nN:=8) rfl ⋯ ?ar λC A outer s H E f p=>⟨_,(mz' (cN (mv' 2) (bo (n:=2) (ac (ap 4 cg.nd) (ac (ap 5 cg.nd) aU))))
   (mz' (au 6 cg.nd ak)
   (mz' (au 7 cg.nd (mf' d p⁻¹ (mc' (mv' 0) (mc' (mv' 1) (mc' (mv' 2) (mc' (mv' 3) mn'))))))
   (mz' (aI (ay (bQ p.units) (ae (mv' 3) mh') ak (aC _)) (mz' (cN (mf' c p⁻¹ (mc' (mv' 0) (mc' (mv' 4) (mc' (mv' 7) mn')))) (bo (n:=2) (ac (ap 4 cg.nd) (ac (ap 6 cg.nd) aU))))
   (aa (au 5 cg.nd (mf' G p⁻¹ (mc' (mv' 0) (mc' (mv' 1) (mc' (mv' 5) mn'))))))) (aa (aI (ay (bQ p.units) (ae (mv' 3) mh') ak (aC _)) (aa (cN (mf' a p⁻¹ (mc' (mv' 4) (mc' (mv' 7) mn'))) (bo (n:=2) (ac (ap 4 cg.nd) (ac (ap 6 cg.nd) aU))))) aq)))
   (aa (af (am (mc' (am (mc' (mf' b p⁻¹ (mc' (mv' 0) (mc' (mv' 4) mn'))) (mc' (mv' 5) mn'))) (mc' (mv' 6) mn'))))))))),?_⟩
 case ar=>intro y F ⟨h,r,l,t,mv,rfl,_⟩;rfl
 intro y F I ⟨h,r,l,t,mv,rfl,m,i,q,u,B,k⟩;have x:=q.1;have n1:=m.n1;have n4:=m.n4;have ne:∀v:List Nat,v.length=l.length->v≠[]:=λv e z=>by rw[z]at e;simp at e;omega
 cases mv with
 |come o=>
  refine ah (MSt.mk [~~~h.d,~~~r.d,~~~(.tuple [lnD l,.int (t:Int)]),~~~(.tuple [.str "come",lnD o]),none,none,none,none] [] 0) rfl ?_;ext s
  .rfl
  ext s;refine⟨h,r,l,t,.come o,rfl,m,i,q,u,?_⟩;dsimp only[Ic];ext x;refine bi (λ_=>?_) (λz=>(z rfl).elim);ext s;refine⟨h,l,sent h r l t o,rfl,m,q,jq m i q u B,?_⟩;ext n;dsimp only[lwD];ext s
  .rfl
  ext s;refine⟨h,r,t,rfl,m,?_⟩;ext x;have g:(cz h l (sent h r l t o)).1.length=l.length:=by unfold cz;split<;>simp
  refine⟨h,_,rfl,ne _ g,∅,?_⟩;ext x;exact k
 |done j=>
  refine ah (MSt.mk [~~~h.d,~~~r.d,~~~(.tuple [lnD l,.int (t:Int)]),~~~(.tuple [.str "done",.int (j:Int)]),none,none,none,none] [] 0) rfl ?_;ext s
  .rfl
  ext s;refine⟨h,r,l,t,.done j,rfl,m,i,q,u,?_⟩;dsimp only[Ic];ext x;ext b;refine⟨l,j,rfl,by rw[x];exact u,∅,?_⟩;ext n;dsimp only[lwD];ext s
  .rfl
  ext s;have g:(c8 l j).1.length=l.length:=by unfold c8;split<;>simp
  refine⟨h,_,rfl,ne _ g,∅,?_⟩;ext x;exact k
 |still=>
  refine ah (MSt.mk [~~~h.d,~~~r.d,~~~(.tuple [lnD l,.int (t:Int)]),~~~(.tuple [.str "still"]),none,none,none,none] [] 0) rfl ?_;ext s
  .rfl
  ext s;refine⟨h,r,l,t,.still,rfl,m,i,q,u,?_⟩;dsimp only[Ic];ext x;ext a;refine⟨h,l,rfl,ne _ rfl,∅,?_⟩;ext x;exact k
theorem sW(T:Bl K mg)(D:DefM K mg "kept_lines" je ["hall","lines"])(G:FnM P w K mg base "is_alike" 1 1 K8):FnM P w K mg base "kept_lines" 2 2 oA:=by
 refine aH D sV rfl (nN:=2) rfl ⋯ ?ar λg A outer s H E f d=>⟨_,(mz' (aI (bw (mf' G d⁻¹ (mc' (mv' 0) mn'))) (aa (af (cu e9 'b' T.tuple gg (mc' (qo nR 'b' T.sorted mr (mc' (mv' 1) mn')) mn')))) aq)
   (aa (af (mv' 1)))),?_⟩
 case ar=>intro a m ⟨h,l,rfl,_⟩;rfl
 intro a m o ⟨h,l,rfl,i,c,k⟩;refine ah (MSt.mk [~~~h.d,~~~(.tuple (natD l))] [] 0) rfl ?_;ext s;refine⟨h,rfl,i,?_⟩;ext n;unfold c9 at k
 cases q:alk h with
 |true=>
  rw[q,if_pos rfl]at k;ext s;refine DF rfl (gu l) (by rw[iO];omega) λn b j=>?_;have e:=yd b j;subst e;rw[<-uf];ext s;exact k
 |false=>
  rw[q,if_neg aap]at k;ext s;exact k
theorem Cf(T:Bl K mg)(D:DefM K mg "is_kept" rf ["hall","thing"])(a:FnM P w K mg base "is_lines" 3 2 Ak)(G:FnM P w K mg base "kept_lines" 2 2 oA):FnM P w K mg base "is_kept" 4 2 yu:=by
 refine aH D Bz rfl (nN:=2) rfl ⋯ ?ar λi A outer s H E f d=>⟨_,(aa (af (jQ (mf' a d⁻¹ (mc' (mv' 0) (mc' (mv' 1) mn'))) (kz (dB (bQ d.units) (mf' G d⁻¹ (mc' (mv' 0) (mc' (mv' 1) mn'))) (mv' 1) (aC _)))))),?_⟩
 case ar=>intro g j ⟨h,l,rfl,_⟩;rfl
 intro g j m ⟨h,l,rfl,b,c,hk,k⟩;have n4:=b.n4;have n:=c.1;refine ah (MSt.mk [~~~h.d,~~~(lnD l)] [] 0) rfl ?_;ext s;refine⟨6,h,lnD l,rfl,b,Da b c,?_⟩;rw[Rg c];ext x;refine⟨h,l,rfl,b,∅,?_⟩;rw[hk];ext x;have e:=bc (bz l);refine x_eq (d1:=lnD l) (d2:=lnD l) rfl rfl (e.ok ⋯) (e.ok ⋯) ?_;rw[show aad (lnD l) (lnD l)=true from JD e];ext s;exact k
theorem vC(T:Bl K mg)(D:DefM K mg "is_triple" jX ["hall","thing"])(G:FnM P w K mg base "is_tuple_of" 1 2 Bu)(a:FnM P w K mg base "is_kept" 4 2 yu)(b:FnM P w K mg base "is_whole" 1 1 Dj):FnM P w K mg base "is_triple" 5 2 BO:=by
 refine aH D vp rfl (nN:=2) rfl ⋯ ?ar λi A outer s H E f c=>⟨_,(mz' (aI (EW.pt (jc (cA (bw (mf' G c⁻¹ (mc' (mv' 1) (mc' mh' mn'))))) (jc (cA (bw (mf' a c⁻¹ (mc' (mv' 0) (mc' (ae (mv' 1) mh') mn'))))) (ij (cA (bw (mf' a c⁻¹ (mc' (mv' 0) (mc' (ae (mv' 1) mh') mn'))))))))) (aa (af cQ)) aq)
   (aa (af (jQ (mf' b c⁻¹ (mc' (ae (mv' 1) mh') mn')) (kz (dB Bt (ae (mv' 1) mh') mh' (aC _))))))),?_⟩
 case ar=>intro e j ⟨h,t,rfl,_⟩;rfl
 intro e j m ⟨h,t,rfl,d,X,k⟩;have g:=Sd d X;refine ah (MSt.mk [~~~h.d,~~~(.tuple [lnD t.1,lnD t.2.1,.int t.2.2])] [] 0) rfl ?_;ext s;refine⟨_,trD t,3,rfl,g,?_⟩;rw[show tupN 3 (trD t)=true from rfl];ext x;ext c;refine⟨h,t.1,rfl,d,X.x,X.kx,?_⟩;ext x;ext c;refine⟨h,t.2.1,rfl,d,X.y,X.ky,?_⟩;ext x;ext c;refine⟨_,.int t.2.2,rfl,g.2.2.1,?_⟩;rw[show isWh (.int t.2.2)=true from rfl];ext x;rw[decide_eq_true (show(0:Int)≤t.2.2 from X.d0)];ext s;exact k
theorem lu(T:Bl K mg)(D:DefM K mg "is_never_paper" fg ["hall","thing"])(G:FnM P w K mg base "is_triple" 5 2 BO):FnM P w K mg base "is_never_paper" 6 2 zP:=by
 refine aH D gH rfl (nN:=3) rfl ⋯ ?ar λj A outer s H E f c=>⟨_,(mz' (aI (cA (bw (rm (mv' 1) uo T.isinstance T.tuple gg))) (aa (af cQ)) aq)
   (mz' (bU (bV (mv' 1)) (ap 2 gH.nd) (aa (aI (cA (bw (mf' G c⁻¹ (mc' (mv' 0) (mc' (mv' 2) mn'))))) (aa (af cQ)) aq)) aaz)
   (aa (af cQ)))),?_⟩
 case ar=>intro b o ⟨h,P,rfl,_⟩;rfl
 intro b o q ⟨h,P,rfl,n,X,k⟩;refine ah (MSt.mk [~~~h.d,~~~(.tuple (P.map trD)),none] [] 0) rfl ?_;ext s;rw[if_neg (by show ¬(!("tuple" == "tuple"))=true;decide)];ext s;refine bJ (λi m=>∃a:Option L2.R,m=MSt.mk [~~~h.d,~~~(.tuple (P.map trD)),a] [] 0) ⟨none,rfl⟩ ?_ ?_
 .rintro i d m e hnp ⟨a,rfl⟩ D1 hD1 hR1;let⟨t,g,rfl,p⟩:=gmap e;ext s;refine⟨h,t,rfl,n,X t (Ld g),?_⟩;ext x;ext c;exact hD1 _ ⟨_,rfl⟩
 .rintro m hnp ⟨a,rfl⟩;ext s;exact k
def p6(T:Bl K mg)(D:DefM K mg "refuse_turns" gq ["one","other"]):FnM P w K mg base "refuse_turns" 1 2 zM:=by
 refine aH D pf rfl (nN:=2) rfl ⋯ ?ar λe A outer s H E f b=>⟨_,(aa (aI (EW.pt (jc (ay (bQ b.units) (ae (mv' 0) mh') ak (aC _)) (ij (ay (bQ b.units) (ae (mv' 1) mh') ak (aC _))))) (aa ic) aq)),?_⟩
 case ar=>intro c m ⟨r1,a,rfl,_⟩;rfl
 intro c m n ⟨r1,a,rfl,d,j,k⟩;refine ah (MSt.mk [~~~r1.d,~~~a.d] [] 0) rfl ?_;ext s;let⟨t,i⟩:=KI r1;let⟨o,g⟩:=KI a;refine sv i ?_;ext s;rw[Av d];ext s;refine sv g ?_;ext s;rw[Av j];ext s;exact k
theorem pF(T:Bl K mg)(D:DefM K mg "first_triple" gc ["hall"])(G:FnM P w K mg base "first_stand" 1 1 CQ):FnM P w K mg base "first_triple" 2 1 Am:=by
 refine aH D jd rfl (nN:=2) rfl ⋯ ?ar λc A outer s H E f d=>⟨_,(mz' (au 1 jd.nd (ae (mf' G d⁻¹ (mc' (mv' 0) mn')) mh'))
   (aa (af (am (mc' (mv' 1) (mc' (mv' 1) (mc' mh' mn'))))))),?_⟩
 case ar=>intro a e ⟨h,rfl,_⟩;rfl
 intro a e g ⟨h,rfl,b,k⟩;refine ah (MSt.mk [~~~h.d,none] [] 0) rfl ?_;ext s;refine⟨h,rfl,b,?_⟩;ext x;refine sv (tl:=[.int 0]) rfl ?_;ext s;exact k
theorem wx(T:Bl K mg)(D:DefM K mg "kept_step" ku ["hall","rule","lines","move"])(a:FnM P w K mg base "moved_on" 5 4 zT)(G:FnM P w K mg base "kept_lines" 2 2 oA):FnM P w K mg base "kept_step" 6 4 Rj:=by
 refine aH D js rfl (nN:=6) rfl ⋯ ?ar λj A outer s H E f b=>⟨_,(mz' (cN (mf' a b⁻¹ (mc' (mv' 0) (mc' (mv' 1) (mc' (am (mc' (mv' 2) (mc' mh' mn'))) (mc' (mv' 3) mn'))))) (bo (n:=2) (ac (ap 4 js.nd) (ac (ap 5 js.nd) aU))))
   (aa (af (am (mc' (mf' G b⁻¹ (mc' (mv' 0) (mc' (ae (mv' 4) mh') mn'))) (mc' (dB (bQ b.units) (mv' 5) ak (aC _)) mn')))))),?_⟩
 case ar=>intro i o ⟨h,r,l,m,rfl,_⟩;rfl
 intro i o p ⟨h,r,l,m,rfl,c,b,e,d,g,k⟩;have n4:=c.n4;have S:=gl c b (t:=0) ⟨d,λz=>(e z).elim,⋯⟩ g;have q:=S.ln.1;refine ah (MSt.mk [~~~h.d,~~~r.d,~~~(lnD l),~~~m.d,none,none] [] 0) rfl ?_;ext s;refine⟨h,r,l,0,m,rfl,c,b,d,g,λz=>(e z).elim,?_⟩;ext n;unfold mvD;ext s
 .rfl
 ext s;refine sv (tl:=[.int ((f8 h r l 0 m).2.1:Int)]) rfl ?_;ext s;refine⟨h,_,rfl,c,∅,?_⟩;ext x;rw[IJ];exact k
theorem o3(T:Bl K mg)(D:DefM K mg "triple_behind" fC ["one_step","other_step","lead"]):FnM P w K mg base "triple_behind" 1 3 PQ:=by
 refine aH D bP rfl (nN:=7) rfl ⋯ ?ar λe A outer s H E f i=>⟨_,(mz' (cN (mv' 0) (bo (n:=2) (ac (ap 3 bP.nd) (ac (ap 4 bP.nd) aU))))
   (mz' (cN (mv' 1) (bo (n:=2) (ac (ap 5 bP.nd) (ac (ap 6 bP.nd) aU))))
   (mz' (aI (EW.pt (ji (bw (mv' 6)) (ir (cA (bw (mv' 4)))))) (aa (wf 2 bP.nd mh' KL)) aq)
   (mz' (aI (EW.pt (ji (bw (mv' 4)) (ir (cA (bw (mv' 6)))))) (aa (wf 2 bP.nd mh' RJ)) aq)
   (aa (af (am (mc' (mv' 3) (mc' (mv' 5) (mc' (mv' 2) mn')))))))))),?_⟩
 case ar=>intro c g ⟨p,q,d,rfl,_⟩;rfl
 intro c g j ⟨p,q,d,rfl,k⟩;unfold aw at k;refine ah (MSt.mk [~~~(.tuple [lnD p.1,.bool (decide (p.2 = .away))]),~~~(.tuple [lnD q.1,.bool (decide (q.2 = .away))]),~~~(.int d),none,none,none,none] [] 0) rfl ?_;ext s
 .rfl
 ext s
 .rfl
 ext s
 by_cases a:p.2 = .away<;>by_cases b:q.2 = .away
 .rw[if_pos a,if_pos b,show d+1-1=d by omega]at k;rw[decide_eq_true a,decide_eq_true b];ext s;ext c;ext c;exact k
 .rw[if_pos a,if_neg b,show d+0-1=d-1 by omega]at k;rw[decide_eq_true a,decide_eq_false b];ext s;rw[if_pos ⋯];refine Nh d rfl ?_;ext s;refine⟨1,rfl,?_⟩;ext x;exact k
 .rw[if_neg a,if_pos b,show d+1-0=d+1 by omega]at k;rw[decide_eq_false a,decide_eq_true b];ext s;rw[if_pos ⋯];refine Nh d rfl ?_;ext s;refine⟨1,rfl,?_⟩;ext s;exact k
 .rw[if_neg a,if_neg b,show d+0-0=d by omega]at k;rw[decide_eq_false a,decide_eq_false b];ext s;exact k
def y7(T:Bl K mg)(D:DefM K mg "is_worse" oj ["triple"]):FnM P w K mg base "is_worse" 1 1 AH:=by
 refine aH D iW rfl (nN:=4) rfl ⋯ ?ar λc A outer s H E f e=>⟨_,(mz' (cN (mv' 0) (bo (n:=3) (ac (ap 1 iW.nd) (ac (ap 2 iW.nd) (ac (ap 3 iW.nd) aU)))))
   (aa (af (dB oy (aE (ip rfl) 'b' T.sum xh (mc' (mv' 1) mn')) (ag aK (aE (ip rfl) 'b' T.sum xh (mc' (mv' 2) mn')) (mv' 3)) (aC _))))),?_⟩
 case ar=>intro a b ⟨t,rfl,_⟩;rfl
 intro a b d ⟨t,rfl,k⟩;refine ah (MSt.mk [~~~(.tuple [lnD t.1,lnD t.2.1,.int t.2.2]),none,none,none] [] 0) rfl ?_;ext s
 .rfl
 ext s;refine xu rfl (gu t.1) ?_;rw[mF];ext s;refine xu rfl (gu t.2.1) ?_;rw[mF];ext s;exact k
theorem qW(T:Bl K mg)(D:DefM K mg "least_leads" im ["paper"]):FnM P w K mg base "least_leads" 1 1 zW:=by
 refine aH D cW rfl (nN:=5) rfl ⋯ ?ar λO A outer s H E f y=>⟨_,(mz' (au 1 cW.nd sj)
   (mz' (bU (bV (mv' 0)) (bo (n:=3) (ac (ap 2 cW.nd) (ac (ap 3 cW.nd) (ac (ap 4 cW.nd) aU)))) (aa (m6 y.units (aE (Bf rfl) 'b' T.min Sv (mc' (mv' 4) (mc' (Cj y.units (mv' 1) (mc' (am (mc' (mv' 2) (mc' (mv' 3) mn'))) (mc' (mv' 4) mn'))) mn'))) (mv' 1) (am (mc' (mv' 2) (mc' (mv' 3) mn'))))) aaz)
   (aa (Q9 (af (mv' 1)))))),?_⟩
 case ar=>intro I Q ⟨h,P,rfl,_⟩;rfl
 intro I Q U ⟨h,P,rfl,x,X,V,k⟩;refine ah (MSt.mk [~~~(.tuple (P.map trD)),none,none,none,none] [] 0) rfl ?_;ext s;ext n;refine bJ (λi m=>∃(a b c:Option L2.R) (L:List (Pk×Int)),m=MSt.mk [~~~(.tuple (P.map trD)),some (.at 0 []),a,b,c] [[.dict (lfKV (ldD L))]] 0/\(∀p∈L,(p.1.1,p.1.2,p.2)∈P)/\L.length≤i/\∀t∈P.take i,∃v,lkL (t.1,t.2.1) L=some v/\v≤t.2.2) ⟨none,none,none,[],rfl,(λ_ z=>by cases z),aaa _,λ_ z=>by cases z⟩ ?_ ?_
 .rintro i d m e hnp ⟨a,b,c,L,rfl,hL,hn,hA⟩ D1 hD1 hR1;let⟨t,B,rfl,S⟩:=gmap e;have o:=Ld B;have F:=X t o;have g:kyA (ldD L)=true:=z9 x λp j=>⟨(X _ (hL p j)).x,(X _ (hL p j)).y⟩;have G:kyD (pkD (t.1,t.2.1))=true:=Jr x F.x F.y;rw[show trD t = .tuple [lnD t.1,lnD t.2.1,.int t.2.2]from rfl];ext s
  .rfl
  ext s;refine⟨ldD L,⟨rfl,rfl⟩,.inr g,?_⟩;ext s;refine⟨ldD L,pkD (t.1,t.2.1),.int t.2.2,rfl,⟨rfl,rfl⟩,by unfold oneK;rw[g,show kyD (pkD (t.1,t.2.1))=true from G,acy,agd],?_⟩;let⟨v,N,J,M⟩:∃v:Int,(cU (pkD (t.1,t.2.1)) (ldD L)).getD (.int t.2.2) = .int v/\(t.1,t.2.1,v)∈P/\∀w,lkL (t.1,t.2.1) L=some w->w=v:=by
   rw[BJ]
   cases e:lkL (t.1,t.2.1) L with
   |none=>exact⟨t.2.2,rfl,o,λw z=>by cases z⟩
   |some w=>exact⟨w,rfl,hL _ (qF e),λR z=>(aay z).symm⟩
  rw[N];ext s;refine⟨_,ldD L,rfl,rfl,rfl,g,G,by unfold ldD;rw[iO,aas];omega,?_⟩;rw[show abT [lnD t.1,lnD t.2.1]=pkD (t.1,t.2.1)from rfl,AQ];ext n;refine hD1 _ ⟨_,_,_,_,rfl,λp j=>?_,aaA (w4 _ _ _) (Nat.succ_le_succ hn),λu C=>?_⟩
  .rcases iZ j with rfl|j
   .dsimp only;split
    .exact J
    .exact o
   .exact hL p j
  .rw[K6];rw[aaX,B]at C;rcases aaR.mp C with q|q
   .obtain⟨w,ew,lw⟩:=hA u q
    by_cases c:(u.1,u.2.1)=(t.1,t.2.1)
    .rw[if_pos c];rw[c]at ew;have:=M w ew;refine⟨_,rfl,?_⟩
     split<;>omega
    .rw[if_neg c];exact⟨w,ew,lw⟩
   .cases aaf.mp q
    rw[if_pos rfl];refine⟨_,rfl,?_⟩
    split<;>omega
 .rintro m hnp ⟨a,b,c,L,rfl,hL,hn,hA⟩;rw[iO]at hn hA;rw[aaE]at hA;have g:kyA (ldD L)=true:=z9 x λp j=>⟨(X _ (hL p j)).x,(X _ (hL p j)).y⟩;ext n;refine Xq 0 1 (ldD L) [] (MSt.mk [~~~(.tuple (P.map trD)),~~~(.dict (ldD L)),none,none,none] [] 0) rfl rfl g (VQ rfl rfl rfl rfl rfl rfl rfl rfl ⟨.inl rfl,.inr ⟨rfl,.inr rfl⟩,.inl trivial,.inl trivial,.inl trivial,trivial⟩) ?_;ext s;exact k L ⟨hL,hn,hA⟩
theorem l6(T:Bl K mg)(D:DefM K mg "has_all_behind" d6 ["hall","one","other","leads","triple"])(j:FnM P w K mg base "all_moves" 2 1 nG)(G:FnM P w K mg base "kept_step" 6 4 Rj)(g:FnM P w K mg base "triple_behind" 1 3 PQ):FnM P w K mg base "has_all_behind" 7 5 Kj:=by
 refine aH D bu rfl (nN:=11) rfl ⋯ ?ar λcdv A outer s H E f q=>⟨_,(mz' (cN (mv' 4) (bo (n:=3) (ac (ap 5 bu.nd) (ac (ap 6 bu.nd) (ac (ap 7 bu.nd) aU)))))
   (mz' (bU (bV (dg (mf' j q⁻¹ (mc' (mv' 0) mn')))) (ap 8 bu.nd) (mz' (au 9 bu.nd (mf' g q⁻¹ (mc' (mf' G q⁻¹ (mc' (mv' 0) (mc' (mv' 1) (mc' (mv' 5) (mc' (mv' 8) mn'))))) (mc' (mf' G q⁻¹ (mc' (mv' 0) (mc' (mv' 2) (mc' (mv' 6) (mc' (mv' 8) mn'))))) (mc' (mv' 7) mn')))))
   (mz' (au 10 bu.nd (am (mc' (ae (mv' 9) mh') (mc' (ae (mv' 9) mh') mn'))))
   (aa (aI (EW.pt (jc (ay (jO q.units) (mv' 10) (mv' 3) 'f') (ij (ay oy (rg q.units (mv' 3) (mv' 10)) (ae (mv' 9) mh') (aC _))))) (aa (af cQ)) aq)))) aaz)
   (aa (af cQ)))),?_⟩
 case ar=>intro U Kc ⟨h,r1,k,P,L,t,rfl,_⟩;rfl
 intro U Kc hl ⟨h,r1,k,P,L,t,rfl,⟨o,x,y,n1,n2⟩,X,J,I,cl,k1⟩;refine ah (MSt.mk [~~~h.d,~~~r1.d,~~~k.d,~~~(.dict (ldD L)),~~~(.tuple [lnD t.1,lnD t.2.1,.int t.2.2]),none,none,none,none,none,none] [] 0) rfl ?_;ext s
 .rfl
 ext s;refine⟨h,rfl,o,?_⟩;ext x;have N:kyA (ldD L)=true:=z9 o λp O=>⟨(X _ (J.i p O)).x,(X _ (J.i p O)).y⟩;refine bJ (λi m=>∃a b c:Option L2.R,m=MSt.mk [~~~h.d,~~~r1.d,~~~k.d,~~~(.dict (ldD L)),~~~(.tuple [lnD t.1,lnD t.2.1,.int t.2.2]),~~~(lnD t.1),~~~(lnD t.2.1),~~~(.int t.2.2),a,b,c] [] 0) ⟨none,none,none,rfl⟩ ?_ ?_
 .rintro i d m e hnp ⟨a,b,c,rfl⟩ D1 hD1 hR1;let⟨mv,S,rfl,hi⟩:=gmap e;have F:=tU o mv (Ld S);have S1:=gl o x (t:=0) ⟨I.x,λz=>(n1 z).elim,⋯⟩ F;have V:=gl o y (t:=0) ⟨I.y,λz=>(n2 z).elim,⋯⟩ F;ext s;refine⟨h,r1,t.1,mv,rfl,o,x,n1,I.x,F,?_⟩;ext x;refine⟨h,k,t.2.1,mv,rfl,o,y,n2,I.y,F,?_⟩;ext x;refine⟨_,_,_,rfl,?_⟩;rw[show trD ((kst h r1 t.1 mv).1,(kst h k t.2.1 mv).1,t.2.2+aw (kst h k t.2.1 mv).2-aw (kst h r1 t.1 mv).2)=trD (bth h r1 k t mv)from rfl];have L1:Lines h (bth h r1 k t mv).1:=gj S1.ln;have M:Lines h (bth h r1 k t mv).2.1:=gj V.ln;have kt:kyD (pkD ((bth h r1 k t mv).1,(bth h r1 k t mv).2.1))=true:=Jr o L1 M;let⟨v,C,R⟩:∃v,lkL ((bth h r1 k t mv).1,(bth h r1 k t mv).2.1) L=some v/\v≤(bth h r1 k t mv).2.2:=by
   let⟨u,W,Y,u2,Z⟩:=cl mv (Ld S);let⟨v,C,R⟩:=J.a u W;rw[Y,u2]at C;exact⟨v,C,aep R Z⟩
  generalize hB:bth h r1 k t mv=B at *;unfold trD;ext x;have one:oneK (ldD L) (pkD (B.1,B.2.1))=true:=by unfold oneK;rw[N,show kyD (pkD (B.1,B.2.1))=true from kt,acy,agd]
  refine QR (kvs:=ldD L) rfl one ?_;rw[show abT [lnD B.1,lnD B.2.1]=pkD (B.1,B.2.1)from rfl];have Q:cU (pkD (B.1,B.2.1)) (ldD L)=some (.int v):=by rw[BJ,C];rfl
  rw[Q,show(if true=true then !(some (abj v)).isSome else(some (abj v)).isSome)=false from rfl];ext s;refine⟨ldD L,.int v,rfl,one,Q,?_⟩;ext s;refine bi (λz=>by omega) (λz=>?_);ext s;exact hD1 _ ⟨_,_,_,rfl⟩
 .rintro m hnp ⟨a,b,c,rfl⟩;ext s;exact k1
theorem ud(T:Bl K mg)(D:DefM K mg "lets_never" jj ["hall","one","other","thing"])(j:FnM P w K mg base "refuse_turns" 1 2 zM)(c:FnM P w K mg base "is_never_paper" 6 2 zP)(o:FnM P w K mg base "first_triple" 2 1 Am)(p:FnM P w K mg base "least_leads" 1 1 zW)(q:FnM P w K mg base "is_worse" 1 1 AH)(g:FnM P w K mg base "has_all_behind" 7 5 Kj):FnM P w K mg base "lets_never" 8 4 BI:=by
 refine aH D fj rfl (nN:=7) rfl ⋯ ?ar λQ A outer s H E f u=>⟨_,(mz' (dj (mf' j u⁻¹ (mc' (mv' 1) (mc' (mv' 2) mn'))))
   (mz' (aI (cA (bw (mf' c u⁻¹ (mc' (mv' 0) (mc' (mv' 3) mn'))))) (aa ic) aq)
   (mz' (aI (ay (jA u.units) (mf' o u⁻¹ (mc' (mv' 0) mn')) (mv' 3) 'f') (aa ic) aq)
   (mz' (au 4 fj.nd (mf' p u⁻¹ (mc' (mv' 3) mn')))
   (mz' (bU (JF T.enumerate (mc' (mv' 3) mn')) (bo (n:=2) (ac (ap 5 fj.nd) (ac (ap 6 fj.nd) aU))) (mz' (aI (bw (mf' q u⁻¹ (mc' (mv' 6) mn'))) (aa ic) aq)
   (aa (aI (cA (bw (mf' g u⁻¹ (mc' (mv' 0) (mc' (mv' 1) (mc' (mv' 2) (mc' (mv' 4) (mc' (mv' 6) mn')))))))) (aa ic) aq))) aaz)
   (aa (af cQ))))))),?_⟩
 case ar=>intro F S ⟨h,r1,v,P,rfl,_⟩;rfl
 intro F S U ⟨h,r1,v,P,rfl,G,N,X,R,k⟩;have B:=G.o;refine ah (MSt.mk [~~~h.d,~~~r1.d,~~~v.d,~~~(.tuple (P.map trD)),none,none,none] [] 0) rfl ?_;ext s;refine⟨r1,v,rfl,G.n1,G.n2,?_⟩;ext x;refine⟨h,P,rfl,B,X,?_⟩;ext x;ext c;refine⟨h,rfl,B,?_⟩;ext x;refine x_in (d:=trD (zer h,zer h,0)) (ds:=P.map trD) rfl (.inr rfl) (K9 _) (k':=2) (λy J=>by let⟨t,_,rfl⟩:=aar.mp J;exact K9 t) ⋯ ?_;rw[UZ,decide_eq_true N.b0];ext s;ext c;refine⟨h,P,rfl,B,X,R,λL O=>?_⟩;ext x;refine .inl ⟨_,P.map trD,rfl,?_⟩;refine bJ (λi m=>∃a b:Option L2.R,m=MSt.mk [~~~h.d,~~~r1.d,~~~v.d,~~~(.tuple (P.map trD)),~~~(.dict (ldD L)),a,b] [] 0) ⟨none,none,rfl⟩ ?_ ?_
 .rintro i d m e hnp ⟨a,b,rfl⟩ D1 hD1 hR1;have M:i<P.length:=by
   have:=(AD.mp e).1;rw[gU,iO]at this;exact this
  let⟨t,C⟩:∃t,P[i]?=some t:=⟨_,lD M⟩;have I:d = .tuple [.int (i:Int),trD t]:=by
   have:=sN (ds:=P.map trD) (i:=i) (d:=trD t) (by rw[aah,C];rfl);rw[this]at e;exact(aay e).symm
  subst I;have x:=Ld C;ext s
  .rfl
  ext s;refine⟨t,rfl,?_⟩;ext x;have nb:=N.nb t x;unfold bad at nb;simp only[acj,decide_eq_false_iff_not]at nb;refine bi (λz=>(nb.2 z).elim) (λz=>?_);ext s;refine⟨h,r1,v,P,L,t,rfl,G,X,O,X t x,N.cl t x,?_⟩;ext x;ext c;exact hD1 _ ⟨_,_,rfl⟩
 .rintro m hnp ⟨a,b,rfl⟩;ext s;exact k
theorem j7(T:Bl K mg)(D:MthD K "Search" "steps_of" "Search.steps_of" bt ["self","side","lines"])(j:FnM P w K mg base "kept_step" 6 4 Rj):gI P w K mg base "Search" "steps_of" 7 3 uV:=by
 refine kl D fM rfl (nN:=4) rfl ⋯ ?ar λM A outer s H E f o=>⟨_,(mz' (aI (ay (jO o.units) (am (mc' (mv' 1) (mc' (mv' 2) mn'))) (cq T.f_Search_steps (mv' 0)) 'f') (mz' (v7 (i:=3) fM.nd rfl (aei rfl) (ae (cq T.f_Search_rules (mv' 0)) (mv' 1)))
   (aa (m6 o.units (dg (cE (own:=["move"]) (fr:=["self","rule","lines"]) (ps:=[0,3,2]) (sc:=(ab bt)) 'e' (bV (cq T.f_Search_moves (mv' 0))) (λ_ _ _ _ _=>(ap 0 (show abC ((["move"]:List Str)++(["self","rule","lines"]:List Str))from by ext K))) (λ_ _ _ _ _=>cZ) (λ_ _ _ _ _=>(mf' j o⁻¹ (mc' (cq T.f_Search_hall (mv' 1)) (mc' (mv' 2) (mc' (mv' 3) (mc' (mv' 0) mn')))))))) (cq T.f_Search_steps (mv' 0)) (am (mc' (mv' 1) (mc' (mv' 2) mn')))))) aq)
   (aa (af (rg o.units (cq T.f_Search_steps (mv' 0)) (am (mc' (mv' 1) (mc' (mv' 2) mn'))))))),?_⟩
 case ar=>intro B O ⟨h,r1,g,C,L,T,Y,s,l,rfl,_⟩;rfl
 intro B O V ⟨h,r1,g,C,L,T,Y,s,l,rfl,G,U,X,s2,u,k⟩;have q:∀C,oneK (km h r1 g C) (skD (s,l))=true:=λC=>by unfold oneK;rw[QC (h:=h) C,Pf (h:=h),acy,agd]
 refine ah (MSt.mk [some (.at 0 []),~~~(.int (s:Int)),~~~(lnD l),none] [[scQ h r1 g C L T Y]] 1) rfl ?_;refine y9 ?_;refine x_JS (λm=>∃(a:Option L2.R) (n:List Ck),m=MSt.mk [some (.at 0 []),~~~(.int (s:Int)),~~~(lnD l),a] [[scQ h r1 g n L T Y]] 1/\CaOk h n/\(s,l)∈n) (λN t=>?_) ?_
 .ext s;refine vZ rfl (QR (k:=skD (s,l)) (kvs:=km h r1 g C) ⟨rfl,rfl⟩ (q C) ?_);rw[st_look]
  by_cases c:(s,l)∈C
  .rw[if_pos c];refine x6 (b:=false) ?_;ext s;exact t _ ⟨_,C,rfl,X,c⟩
  .rw[if_neg c];refine x6 (b:=true) ?_;ext s;refine aY (d:=(rl r1 g s).d) (by rcases (show s=0\/s=1 by omega)with rfl|rfl<;>rfl) ?_;ext s;ext n;refine bJ (λi m=>∃a:Option L2.R,m=MSt.mk [a,some (.at 0 []),some (.imm (rl r1 g s).d),~~~(lnD l)] [[scQ h r1 g C L T Y],(stv h r1 g (s,l)).take i] 2) ⟨none,rfl⟩ ?_ ?_
   .rintro i d m e hnp ⟨a,rfl⟩ D1 hD1 hR1;let⟨mv,v,rfl,Q⟩:=gmap e;ext s;refine⟨h,_,l,mv,rfl,G.o,(G.rl s).1,(G.rl s).2,u,tU G.o mv (Ld v),?_⟩;ext x;have R:=(ve G.o).2;refine⟨_,rfl,by unfold stv;rw[aaM,iO,aas];omega,hD1 _ ⟨~~~mv.d,?_⟩⟩;rw[aaX,show(stv h r1 g (s,l))[i]?=some (ksD (kst h (rl r1 g s) l mv)) by unfold stv;rw[aah,v];rfl];rfl
   .rintro m hnp ⟨a,rfl⟩;ext x;refine vZ rfl ?_;ext s;have S:=X.len;refine⟨_,km h r1 g C,rfl,rfl,rfl,QC (h:=h) C,Pf (h:=h),by unfold km;rw[iO,aas];omega,?_⟩;ext n;rw[show aea ([[scQ h r1 g C L T Y],(stv h r1 g (s,l)).take ((mvs h).map Mv.d).length].getD 1 []) = .list ((stv h r1 g (s,l)).take ((mvs h).map Mv.d).length)from rfl,show aea ((stv h r1 g (s,l)).take ((mvs h).map Mv.d).length) = .list (stv h r1 g (s,l)) by rw[show((mvs h).map Mv.d).length=(stv h r1 g (s,l)).length by unfold stv;rw[iO,iO],aaE],show abT [.int (s:Int),lnD l]=skD (s,l)from rfl,KM c];refine t _ ⟨some (.imm (rl r1 g s).d),C++[(s,l)],rfl,⟨?_,λp I=>?_⟩,aaQ _ aan⟩
    .exact acN.mpr ⟨X.nd,ac1 _ _,λx J y F z=>c (by rw[aaf.mp F]at z;rw[<-z];exact J)⟩
    .rcases aaR.mp I with z|z
     .exact X.ok p z
     .rw[aaf.mp z];exact⟨s2,u⟩
 .rintro m ⟨a,n,rfl,X',c⟩;ext s;refine vZ rfl ?_;ext s;refine⟨km h r1 g n,.list (stv h r1 g (s,l)),⟨rfl,rfl⟩,q n,st_look.trans (if_pos c),?_⟩;ext s;exact k n X'
theorem gA(T:Bl K mg)(D:MthD K "Search" "triples_behind" "Search.triples_behind" aG ["self","triple"])(c:gI P w K mg base "Search" "steps_of" 7 3 uV)(g:FnM P w K mg base "triple_behind" 1 3 PQ):gI P w K mg base "Search" "triples_behind" 8 2 JU:=by
 refine kl D aM rfl (nN:=7) rfl ⋯ ?ar λJ A outer s H E f p=>⟨_,(mz' (cN (mv' 1) (bo (n:=3) (ac (ap 2 aM.nd) (ac (ap 3 aM.nd) (ac (mq (i:=4) aM.nd rfl (aei rfl)) aU)))))
   (mz' (au 5 aM.nd (i5 c p⁻¹ (mv' 0) (mc' mh' (mc' (mv' 2) mn'))))
   (mz' (au 6 aM.nd (i5 c p⁻¹ (mv' 0) (mc' mh' (mc' (mv' 3) mn'))))
   (aa (af (cE (own:=["one_step","other_step"]) (fr:=["lead"]) (ps:=[4]) (sc:=(ab aG)) 'e' (sf T.zip (mc' (mv' 5) (mc' (mv' 6) mn'))) (λ_ _ _ _ _=>(bo (n:=2) (ac (ap 0 (show abC ((["one_step","other_step"]:List Str)++(["lead"]:List Str))from by ext K)) (ac (ap 1 (show abC ((["one_step","other_step"]:List Str)++(["lead"]:List Str))from by ext K)) aU)))) (λ_ _ _ _ _=>cZ) (λ_ _ _ _ _=>(mf' g p⁻¹ (mc' (mv' 0) (mc' (mv' 1) (mc' (mv' 2) mn'))))))))))),?_⟩
 case ar=>intro x O ⟨h,r1,j,C,L,T,Y,t,rfl,_⟩;rfl
 intro x O R ⟨h,r1,j,C,L,T,Y,t,rfl,G,q,X,lx,ly,k⟩;refine ah (MSt.mk [some (.at 0 []),~~~(.tuple [lnD t.1,lnD t.2.1,.int t.2.2]),none,none,none,none,none] [[scQ h r1 j C L T Y]] 1) rfl ?_;ext s
 .rfl
 ext s;refine⟨h,r1,j,C,L,T,Y,0,t.1,rfl,G,q,X,⋯,lx,λF I=>?_⟩;ext x;refine⟨h,r1,j,F,L,T,Y,1,t.2.1,rfl,G,q,I,⋯,ly,λv N=>?_⟩;ext x;refine⟨false,_,false,_,rfl,rfl,?_⟩;refine bJ (λi m=>∃a b:Option L2.R,m=MSt.mk [a,b,~~~(.int t.2.2)] [[scQ h r1 j v L T Y],((mvs h).map λm=>trD (bth h r1 j t m)).take i] 2) ⟨none,none,rfl⟩ ?_ ?_
 .rintro i d m e hnp ⟨a,b,rfl⟩ D1 hD1 hR1;let⟨S,V,M,y,rfl⟩:=qP e;let⟨mv,u,rfl,U⟩:=gmap M;let⟨mv',o,rfl,z⟩:=gmap y;rw[u]at o;cases o;ext s
  .rfl
  ext s;refine⟨_,_,t.2.2,rfl,?_⟩;ext x;have Q:=(ve G.o).2;refine⟨_,rfl,by rw[aaM,iO,aas];omega,hD1 _ ⟨~~~(ksD (kst h (rl r1 j 0) t.1 mv)),~~~(ksD (kst h (rl r1 j 1) t.2.1 mv)),?_⟩⟩;rw[aaX,aah,u];rfl
 .rintro m hnp ⟨a,b,rfl⟩;ext x;have B:(zipD (stv h r1 j (0,t.1)) (stv h r1 j (1,t.2.1))).length=((mvs h).map λm=>trD (bth h r1 j t m)).length:=by unfold stv;rw[cJ,iO,iO,iO];exact ahf _
  rw[B,aaE];exact k v N
theorem t5(T:Bl K mg)(D:MthD K "Search" "met" "Search.met" dh ["self","triple","ahead","move"]):gI P w K mg base "Search" "met" 1 4 P7:=by
 refine kl D fi rfl (nN:=7) rfl ⋯ ?ar λI A outer s H E f o=>⟨_,(mz' (cN (mv' 1) (bo (n:=3) (ac (ap 4 fi.nd) (ac (ap 5 fi.nd) (ac (ap 6 fi.nd) aU)))))
   (aa (aI (EW.pt (jc (ay (jO o.units) (am (mc' (mv' 4) (mc' (mv' 5) mn'))) (cq T.f_Search_leads (mv' 0)) 'f') (ij (ay k6 (mv' 6) (rg o.units (cq T.f_Search_leads (mv' 0)) (am (mc' (mv' 4) (mc' (mv' 5) mn')))) (aC _))))) (mz' (m6 o.units (mv' 6) (cq T.f_Search_leads (mv' 0)) (am (mc' (mv' 4) (mc' (mv' 5) mn'))))
   (mz' (dj (lr acQ acR nQ (cq T.f_Search_triples (mv' 0)) (mc' (mv' 1) mn')))
   (aa (dj (lr acQ acR nQ (cq T.f_Search_ways (mv' 0)) (mc' (am (mc' (mv' 2) (mc' (mv' 3) mn'))) mn')))))) aq))),?_⟩
 case ar=>intro B O ⟨h,r1,i,C,L,T,Y,t,y,a,d,rfl,_⟩;rfl
 intro B O W ⟨h,r1,i,C,L,T,Y,t,y,a,d,rfl,F,v,J,lx,ly,X,U,S,k1,k2⟩;have g:kyA (ldD L)=true:=z9 v J;have x:kyD (pkD (t.1,t.2.1))=true:=Jr v lx ly;have q:oneK (ldD L) (pkD (t.1,t.2.1))=true:=by unfold oneK;rw[g,x,acy,agd]
 refine ah (MSt.mk [some (.at 0 []),~~~(.tuple [lnD t.1,lnD t.2.1,.int t.2.2]),~~~(.int a),~~~d,none,none,none] [[scQ h r1 i C L T Y]] 1) rfl ?_;refine y9 ?_;ext s
 .rfl
 refine mx (x_gM (mx (x_gM (mx (x_gM (DH ?_))))));ext n;refine Xp ?_;refine x_JT (λc m=>m=MSt.mk [some (.at 0 []),~~~(.tuple [lnD t.1,lnD t.2.1,.int t.2.2]),~~~(.int a),~~~d,~~~(lnD t.1),~~~(lnD t.2.1),~~~(.int t.2.2)] [[scQ h r1 i C L T Y]] 1/\(c=true->t.2.2<(lkL (t.1,t.2.1) L).getD (t.2.2+1))/\(c=false->∃w,lkL (t.1,t.2.1) L=some w/\w≤t.2.2)) (λR u=>?_) ?_
 .ext x;refine rh rfl g (QR (k:=pkD (t.1,t.2.1)) (kvs:=ldD L) ⟨rfl,rfl⟩ q ?_);rw[BJ]
  cases e:lkL (t.1,t.2.1) L with
  |none=>
   refine x6 (b:=true) ?_;exact u _ _ ⟨rfl,λ_=>by rw[e];exact(show t.2.2<t.2.2+1 by omega),λz=>by cases z⟩
  |some w=>
   refine x6 (b:=false) ?_;ext s;refine rh rfl g ?_;ext s;refine⟨ldD L,.int w,⟨rfl,rfl⟩,q,(BJ (t.1,t.2.1) L).trans (by rw[e];rfl),?_⟩;ext s;refine u _ _ ⟨rfl,λz=>by rw[e];exact of_decide_eq_true z,λz=>⟨w,e,?_⟩⟩;have:=of_decide_eq_false z;omega
 .rintro c m ⟨rfl,h1,h2⟩
  cases c with
  |false=>
   let⟨w,Q,G⟩:=h2 rfl;ext s;exact k2 w Q G
  | true=>
   ext s;refine rh rfl g ?_;ext s;refine⟨_,ldD L,rfl,rfl,rfl,g,x,by unfold ldD;rw[iO,aas];omega,?_⟩;rw[show abT [lnD t.1,lnD t.2.1]=pkD (t.1,t.2.1)from rfl,AQ];ext n;have V:setT (scQ h r1 i C L T Y) [5] (.dict (lfKV (ldD (setL (t.1,t.2.1) t.2.2 L))))=scQ h r1 i C (setL (t.1,t.2.1) t.2.2 L) T Y:=rfl;generalize setL (t.1,t.2.1) t.2.2 L=j at *;ext s;refine⟨⟨_,mQ T⟩,?_⟩;ext s;refine uZ (p:=[6]) (m:=MSt.mk _ [[scQ h r1 i C j T Y]] 1) rfl rfl (mQ T) rfl (by rw[iO,aas];omega) ?_;have N:setT (scQ h r1 i C j T Y) [6] (.list ((T.map trD++[trD t]).map lfD))=scQ h r1 i C j (T++[t]) Y:=by
    rw[show T.map trD++[trD t]=(T++[t]).map trD by rw[aaJ];rfl,Ya];rfl
   ext n;rw[show abT [lnD t.1,lnD t.2.1,.int t.2.2]=trD t from rfl,N];ext s;refine⟨⟨_,uu Y⟩,?_⟩;ext s;refine uZ (p:=[7]) rfl rfl (uu Y) rfl (by rw[iO,aas];omega) ?_;have M:setT (scQ h r1 i C j (T++[t]) Y) [7] (.list ((Y.map wyD++[wyD y]).map lfD))=scQ h r1 i C j (T++[t]) (Y++[y]):=by
    rw[show Y.map wyD++[wyD y]=(Y++[y]).map wyD by rw[aaJ];rfl,YR];rfl
   rw[<-F,M];ext s;exact k1 (h1 rfl)
theorem mD(T:Bl K mg)(D:MthD K "Search" "run_to" "Search.run_to" cj ["self","at"]):gI P w K mg base "Search" "run_to" 1 2 Dq:=by
 refine kl D c5 rfl (nN:=4) rfl ⋯ ?ar λx A outer s H E f G=>⟨_,(mz' (au 2 c5.nd (cb mn'))
   (mz' (fH (ay Bt (ae (vv (cq T.f_Search_ways (mv' 0)) (mv' 1)) mh') mh' (aC _)) (mz' (cN (vv (cq T.f_Search_ways (mv' 0)) (mv' 1)) (bo (n:=2) (ac (ap 1 c5.nd) (ac (ap 3 c5.nd) aU))))
   (aa (dj (lr acQ acR qt (mv' 2) (mc' (mv' 3) mn'))))) aaz)
   (aa (af (cu e9 'b' T.tuple gg (mc' (Ip (mv' 2) (p9 jT mh')) mn')))))),?_⟩
 case ar=>intro u F ⟨h,r1,c,C,L,T,Y,P,i,p,rfl,_⟩;rfl
 intro u F M ⟨h,r1,c,C,L,T,Y,P,i,p,rfl,W,J,g,k⟩;refine ah (MSt.mk [some (.at 0 []),~~~(.int (i:Int)),none,none] [[scQ h r1 c C L T Y]] 1) rfl ?_;ext d;refine kB (λn m=>∃(a:Option L2.R) (q s:List Mv),m=MSt.mk [some (.at 0 []),~~~(.int (n:Int)),some (.obj 1),a] [[scQ h r1 c C L T Y],s.reverse.map Mv.d] 1/\P[n]?=some q/\p=q++s/\s.length+n≤i) i ⟨none,p,[],rfl,g,(aa4 p).symm,by rw[aeP];omega⟩ ?_;intro n m B ⟨a,q,s,rfl,eq,o,N⟩;have I:i<Y.length:=by rw[W.ly];exact(AD.mp g).1
 let⟨y,e⟩:∃y,Y[n]?=some y:=⟨_,lD (show n<Y.length by omega)⟩;let⟨d,j⟩:=Fe (f:=wyD) e;ext s;refine vH (p:=[7]) rfl rfl d j ?_;rw[w6];rcases W.wy n q eq with⟨rfl,z⟩|⟨b,mv,v,t,eb,rfl,z⟩
 .rw[e]at z;cases z;rw[show wyD none = .tuple [.int (-1),.none]from rfl];ext s;ext c;refine⟨_,rfl,rfl,?_⟩;ext s;rw[<-List.map_reverse,List.reverse_reverse,show s=p from o.symm];exact k
 .rw[e]at z;cases z;rw[show wyD (some (b,mv)) = .tuple [.int (b:Int),mv.d]from rfl];ext s;rw[if_pos (decide_eq_true ∅)];ext s;refine vH (p:=[7]) rfl rfl d j ?_;rw[w6,show wyD (some (b,mv)) = .tuple [.int (b:Int),mv.d]from rfl];ext s
  .rfl
  ext s;refine' Ja (ds:=s.reverse.map Mv.d) ?eb (by rw[aas,iO,agK];omega) ?_
  case eb=>rfl
  refine⟨b,t,~~~mv.d,v,mv::s,?_,eb,by rw[o,aaW];rfl,by rw[aau];omega⟩;rw[adq,aaJ];rfl
theorem jF(T:Bl K mg)(D:MthD K "Search" "worse_run" "Search.worse_run" bG ["self"])(g:gI P w K mg base "Search" "triples_behind" 8 2 JU)(q:FnM P w K mg base "is_worse" 1 1 AH)(k:gI P w K mg base "Search" "run_to" 1 2 Dq)(o:gI P w K mg base "Search" "met" 1 4 P7):gI P w K mg base "Search" "worse_run" 9 1 CU:=by
 refine kl D bq rfl (nN:=5) rfl ⋯ ?ar λcdv A outer s H E f N=>⟨_,(mz' (au 1 bq.nd mh')
   (mz' (fH (ay k6 (mv' 1) (aE bv 'b' T.len dG (mc' (cq T.f_Search_triples (mv' 0)) mn')) (aC _)) (mz' (au 2 bq.nd (dg (i5 g N⁻¹ (mv' 0) (mc' (vv (cq T.f_Search_triples (mv' 0)) (mv' 1)) mn'))))
   (mz' (bU (sf T.zip (mc' (cq T.f_Search_moves (mv' 0)) (mc' (mv' 2) mn'))) (bo (n:=2) (ac (ap 3 bq.nd) (ac (ap 4 bq.nd) aU))) (mz' (aI (EW.pt (jc (ay k6 (ae (mv' 4) mh') mh' (aC _)) (ij (bw (mf' q N⁻¹ (mc' (mv' 4) mn')))))) (aa (af (ag aK (i5 k N⁻¹ (mv' 0) (mc' (mv' 1) mn')) (am (mc' (mv' 3) mn'))))) aq)
   (aa (dj (i5 o N⁻¹ (mv' 0) (mc' (mv' 4) (mc' (mv' 1) (mc' (mv' 3) mn'))))))) aaz)
   (aa (wf 1 bq.nd mh' KL)))) aaz)
   (aa (af jR)))),?_⟩
 case ar=>intro as Kc ⟨h,r1,r2,rfl,_⟩;rfl
 intro as Kc hl ⟨h,r1,r2,rfl,G,a4,hp,k1,k2⟩;refine ah (MSt.mk [some (.at 0 []),none,none,none,none] [[scQ h r1 r2 [] [((zer h,zer h),0)] [stT h] [none]]] 1) rfl ?_;ext s;have C0:1+pot h (nP h) [((zer h,zer h),0)]≤190001:=by
  unfold pot smL;have:(nP h-1)*(nP h+2)≤nP h*(nP h+2):=adw _ (Nat.sub_le _ _);simp;omega
 refine kB (λn m=>∃(i:Nat) (a b c:Option L2.R) (C:List Ck) (L:List (Pk×Int)) (T:List Tr) (Y:List Wy) (P:List (List Mv)),m=MSt.mk [some (.at 0 []),~~~(.int (i:Int)),a,b,c] [[scQ h r1 r2 C L T Y]] 1/\CaOk h C/\Qv h r1 r2 (1+pot h (nP h) [((zer h,zer h),0)]) L T Y P i 0/\n=190001-i) _ ⟨0,none,none,none,[],_,_,_,_,rfl,⟨abO,λ_ z=>by cases z⟩,Qv.zero G.o,rfl⟩ ?_;intro n m J ⟨i,a,b,c,C,L,T,Y,P,rfl,X,V,hn⟩;have U:=V.pt;have nPb:nP h≤190000:=aaA (Nat.le_mul_of_pos_right _ (Nat.succ_pos _)) hp;ext s;refine⟨T.map trD,mQ T,?_⟩;rw[iO];ext s;refine bi (λz=>?_) (λz=>?_)
 .have hi:i<T.length:=by omega
  let⟨t,S⟩:∃t,T[i]?=some t:=⟨_,lD hi⟩;let⟨p,v,kp,rfl⟩:=V.here S;have Q:=n9 G.o G.k1 G.k2 G.n1 G.n2 (Dt (r1:=r1) (r2:=r2) kp);let⟨i1,i2⟩:=Fe (f:=trD) S;ext s;refine vH (p:=[6]) rfl rfl i1 i2 ?_;rw[show ∀j,gG 0 [6] j (trD (wlk h r1 r2 p)) = .imm (trD (wlk h r1 r2 p))from λ_=>rfl];ext s;refine⟨h,r1,r2,C,L,T,Y,wlk h r1 r2 p,rfl,G,a4,X,Q.1,Q.2,λy X1=>?_⟩;ext x;refine⟨false,_,false,_,rfl,rfl,?_⟩;refine bJ (λj m=>∃(b c:Option L2.R) (L:List (Pk×Int)) (T:List Tr) (Y:List Wy) (P:List (List Mv)),m=MSt.mk [some (.at 0 []),~~~(.int (i:Int)),~~~(.list ((mvs h).map λm=>trD (bth h r1 r2 (wlk h r1 r2 p) m))),b,c] [[scQ h r1 r2 y L T Y]] 1/\Qv h r1 r2 (1+pot h (nP h) [((zer h,zer h),0)]) L T Y P i j/\P[i]?=some p) ⟨b,c,L,T,Y,P,rfl,V,v⟩ ?_ ?_
  .clear V v i1 i2 S hi z U;intro j d m e J ⟨b,c,L,T,Y,P,rfl,V,v⟩ D1 B O;let⟨x1,x2,e1,e2,rfl⟩:=qP e;let⟨mv,I,rfl,hj⟩:=gmap e1;let⟨mv',F,rfl,hj'⟩:=gmap e2;rw[I]at F;cases F;have M:=(iQ (h:=h) (r1:=r1) (r2:=r2) (R:=p) (m:=mv)).symm;have LB:=uG G.o G.k1 G.k2 G.n1 G.n2 Q (Ld I);generalize bth h r1 r2 (wlk h r1 r2 p) mv=u at *;have U:=V.pt;have nY:=V.ly;have nP:=V.lt;have nL:=V.dk.len;ext s
   .rfl
   refine mx (x_gM (mx (x_gM (DH ?_))));ext n;refine y9 (Xp ?_);refine x_JT (λc m=>c=bad u/\m=MSt.mk [some (.at 0 []),~~~(.int (i:Int)),~~~(.list ((mvs h).map λm=>trD (bth h r1 r2 (wlk h r1 r2 p) m))),~~~mv.d,~~~(trD u)] [[scQ h r1 r2 y L T Y]] 1) (λK' W=>?_) ?_
   .rw[show trD u = .tuple [lnD u.1,lnD u.2.1,.int u.2.2]from rfl];ext s;refine bi (λz=>?_) (λz=>?_)
    .exact W _ _ ⟨by unfold bad;rw[decide_eq_true z];rfl,rfl⟩
    .ext s;refine⟨u,rfl,?_⟩;ext x;exact W _ _ ⟨by unfold bad;rw[decide_eq_false z];rfl,rfl⟩
   .rintro c m ⟨rfl,rfl⟩
    cases hb:bad u with
    |true=>
     ext s;refine⟨h,r1,r2,y,L,T,Y,P,i,p,rfl,⟨V.ly,V.wy⟩,∅,v,?_⟩;ext x;have dp:=V.dep i p v;have iP:=(AD.mp v).1;refine k8 (by rw[iO,aas];show p.length+1≤_;omega) ?_;have R1:=k1 (p++[mv]) y L T Y (kp.snoc (Ld I)) (by rw[<-M];exact hb) (by rw[aam];exact V.min v) (by rw[aam];show p.length+1≤_;omega);rw[aaJ]at R1;exact O _ _ R1
    |false=>
     ext s;refine⟨h,r1,r2,y,L,T,Y,u,some (i,mv),(i:Int),mv.d,rfl,rfl,G.o,V.dk.ln,LB.1,LB.2,∅,∅,∅,λhv=>?_,λw ew hw=>?_⟩
     .ext x;exact B _ ⟨_,_,_,_,_,_,rfl,V.new G.o G.k1 G.k2 G.n1 G.n2 v I M hb hv,dU v⟩
     .ext x;exact B _ ⟨_,_,_,_,_,_,rfl,V.old v I (by rw[<-M];exact hb) (by rw[<-M];exact YT ew hw rfl),v⟩
  .rintro m J ⟨b,c,L,T,Y,P,rfl,V,v⟩;ext n;refine Nh (i:Int) rfl ?_;ext s;refine⟨1,rfl,?_⟩;ext n;have e0:(zipD ((mvs h).map Mv.d) ((mvs h).map λm=>trD (bth h r1 r2 (wlk h r1 r2 p) m))).length=(mvs h).length:=by rw[cJ,iO,iO];exact ahf _
   rw[e0]at V;have iP:=(AD.mp v).1;have n1:=V.pt;have n2:=V.lt;exact⟨190001-(i+1),∅,i+1,_,b,c,y,L,T,Y,P,rfl,X1,V.next,rfl⟩
 .ext s;refine k2 C L T Y (λR kR=>(V.done ∅ kR).1) V.dk λZ pZ=>⟨V.nvr ∅ pZ,λt ht=>TM V.dk (λx hx=>?_) t (pZ.mem_iff.mp ht)⟩;have v1:=V.vt _ (V.dl x hx);have v2:=V.dk.len;dsimp only at v1;omega
theorem pQ(T:Bl K mg)(D:MthD K "Search" "paper" "Search.paper" ca ["self"]):gI P w K mg base "Search" "paper" 1 1 Fq:=by
 refine kl D ph rfl (nN:=1) rfl ⋯ ?ar λx A outer s H E f v=>⟨_,(aa (af (cu e9 'b' T.tuple gg (mc' (cE (own:=["x","y","lead"]) (fr:=[]) (ps:=[]) (sc:=(ab ca)) 'e' (bV (dg (Fi v.units T.sorted (cq T.f_Search_leads (mv' 0))))) (λ_ _ _ _ _=>(bo (n:=2) (ac (bo (n:=2) (ac (ap 0 (show abC ((["x","y","lead"]:List Str)++([]:List Str))from by ext K)) (ac (ap 1 (show abC ((["x","y","lead"]:List Str)++([]:List Str))from by ext K)) aU))) (ac (ap 2 (show abC ((["x","y","lead"]:List Str)++([]:List Str))from by ext K)) aU)))) (λ_ _ _ _ _=>cZ) (λ_ _ _ _ _=>(am (mc' (mv' 0) (mc' (mv' 1) (mc' (mv' 2) mn')))))) mn')))),?_⟩
 case ar=>intro u B ⟨h,r1,j,C,L,T,Y,rfl,_⟩;rfl
 intro u B G ⟨h,r1,j,C,L,T,Y,rfl,y,D,n,k⟩;have g:kyA (ldD L)=true:=z9 y D.ln;refine ah (MSt.mk [some (.at 0 [])] [[scQ h r1 j C L T Y]] 1) rfl ?_;ext s;refine rh rfl g ⟨ldD L,⟨rfl,rfl⟩,.inr g,VM D n,λz o J=>?_⟩;rw[Km]at o;let⟨t,p,rfl⟩:=Df o.symm rfl;ext s;refine bJ (λi m=>∃a b c:Option L2.R,m=MSt.mk [a,b,c] [[scQ h r1 j C L T Y],(ldT (t.take i)).map trD] 2) ⟨none,none,none,rfl⟩ ?_ ?_
 .rintro i d m e hnp ⟨a,b,c,rfl⟩ D1 hD1 hR1;let⟨q,eq,rfl,F⟩:=gmap e;unfold itL pkD;ext s
  .rfl
  ext s
  .rfl
  ext s;ext n;have I:t.length<100000:=by rw[p.length_eq];exact n
  refine⟨_,rfl,by unfold ldT;rw[iO,iO,aaM,aas];omega,hD1 _ ⟨~~~(lnD q.1.1),~~~(lnD q.1.2),~~~(.int q.2),?_⟩⟩;rw[aaX,eq];unfold ldT;rw[aaJ,aaJ];rfl
 .rintro m hnp ⟨a,b,c,rfl⟩;ext s;rw[iO,aaE];exact k _ (p.map _)
theorem kQ(T:Bl K mg)(D:IniD K mg "Search" "Search.__init__" bZ ["self","hall","one","other"])(b:FnM P w K mg base "all_moves" 2 1 nG)(G:FnM P w K mg base "first_triple" 2 1 Am)(a:gI P w K mg base "Search" "met" 1 4 P7):CP P w K mg base "Search" 3 3 B8:=by
 refine OH D ko rfl (nN:=4) rfl ⋯ ?ar λi A outer s H E f d=>⟨_,_,(jn T.f_Search_hall (mv' 1) (jn T.f_Search_rules (am (mc' (mv' 2) (mc' (mv' 3) mn'))) (jn T.f_Search_moves (dg (mf' b d⁻¹ (mc' (mv' 1) mn'))) (jn T.f_Search_steps sj (jn T.f_Search_leads sj (jn T.f_Search_triples (cb mn') (jn T.f_Search_ways (cb mn') (Ie (aa (dj (i5 a d⁻¹ (mv' 0) (mc' (mf' G d⁻¹ (mc' (mv' 1) mn')) (mc' (p9 jT mh') (mc' jR mn')))))))))))))),⟨'b',⋯⟩,?_⟩
 case ar=>intro ds j ⟨h,r1,e,rfl,_⟩;rfl
 intro ds j o ⟨h,r1,e,rfl,c,k⟩;refine Lq (MSt.mk [none,~~~h.d,~~~r1.d,~~~e.d] [] 0) rfl ?_;ext s;refine⟨h,rfl,c,?_⟩;ext x;refine⟨h,rfl,c,?_⟩;ext x;have g:=(jM c r1).ln;refine⟨h,r1,e,[],[],[],[],stT h,none,-1,.none,rfl,rfl,c,(λ_ z=>by cases z),g,g,⋯,⋯,⋯,λn=>?_,λw m=>by cases m⟩;ext x;exact⟨_,rfl,k⟩
theorem re(T:Bl K mg)(D:DefM K mg "never_worse" gQ ["hall","one","other"])(d:FnM P w K mg base "refuse_turns" 1 2 zM)(b:CP P w K mg base "Search" 3 3 B8)(a:gI P w K mg base "Search" "worse_run" 9 1 CU)(e:gI P w K mg base "Search" "paper" 1 1 Fq):FnM P w K mg base "never_worse" 10 3 vD:=by
 refine aH D gi rfl (nN:=5) rfl ⋯ ?ar λv A outer s H E f i=>⟨_,(mz' (dj (mf' d i⁻¹ (mc' (mv' 1) (mc' (mv' 2) mn'))))
   (mz' (au 3 gi.nd (Im b i⁻¹ (mc' (mv' 0) (mc' (mv' 1) (mc' (mv' 2) mn')))))
   (mz' (au 4 gi.nd (uQ a i⁻¹ (mv' 3)))
   (mz' (aI (ay qr (mv' 4) jR (aC _)) (aa (af (am (mc' ak (mc' (mv' 4) mn'))))) aq)
   (aa (af (am (mc' ak (mc' (uQ e i⁻¹ (mv' 3)) mn'))))))))),?_⟩
 case ar=>intro n q ⟨h,r1,g,rfl,_⟩;rfl
 intro n q F ⟨h,r1,g,rfl,G,u,o,k1,k2⟩;refine ah (MSt.mk [~~~h.d,~~~r1.d,~~~g.d,none,none] [] 0) rfl ?_;ext s;refine⟨r1,g,rfl,G.n1,G.n2,?_⟩;ext x;refine⟨h,r1,g,rfl,G.o,?_⟩;ext s;ext n;refine BC rfl ⋯ ?_;refine⟨h,r1,g,rfl,G,u,o,λR C L m Y x t B y=>?_,λC L m Y S D Z=>?_⟩
 .ext x;rw[if_pos (c:=(!isNone (L2.R.imm (.tuple (R.map Mv.d))))=true) rfl];ext s;exact k1 R x t B y
 .ext x;ext c;have l:L.length<100000:=by
   have:=D.len;have:nP h≤435:=by
    refine Nat.le_of_not_lt λz=>?_;have:436*438≤nP h*(nP h+2):=acH z ∅;omega
   omega
  refine⟨h,r1,g,C,L,m,Y,rfl,G.o,D,l,λj p=>?_⟩;ext x;have k:=p.length_eq;unfold ldT at k;rw[iO]at k;exact k2 j S (Z j p).1 (Z j p).2 ∅
theorem vV(T:Bl K mg)(D:DefM K mg "_law_tape" j8 ["_law_script"]):FnM P w K mg base "_law_tape" 1 1 z6:=by
 refine aH D wg rfl (nN:=1) rfl ⋯ ?ar λc A outer s H E f g=>⟨_,(aa (af (JG (m9 ak (dg (dq gN (mv' 0) f9 (dW mh'))) (m9 ak mh' (m9 ak mh' JL)))))),?_⟩
 case ar=>intro b d ⟨ns,rfl,_⟩;rfl
 intro b d i ⟨ns,rfl,a,k⟩;refine ah (MSt.mk [~~~(.list (ns.map .int))] [] 0) rfl ?_;ext s;have e:cutD (ns.map abj) none (some 63)=ns.map .int:=JE (n:=63) (by rw[iO];exact a);rw[e];exact k _ ⟨ns,0,0,rfl,a,∅,∅,∅⟩
theorem wq(T:Bl K mg)(D:DefM K mg "_law_draw" j1 ["_law_tape_here","_law_many"]):FnM P w K mg base "_law_draw" 1 2 rF:=by
 refine aH D cK rfl (nN:=6) rfl ⋯ ?ar λG A outer s H E f d=>⟨_,(mz' (aI (ay oy (gL d.units (mv' 0) ak) mh' (aC _)) (mz' (au 2 cK.nd (ag ga (gL d.units (mv' 0) ak) (mv' 1)))
   (mz' (sD d.units (ag iw (gL d.units (mv' 0) ak) (mv' 1)) (mv' 0) ak)
   (aa (af (mv' 2))))) aq)
   (mz' (au 3 cK.nd (gL d.units (mv' 0) ak))
   (mz' (sD d.units (ag aK (mv' 3) mh') (mv' 0) ak)
   (mz' (au 4 cK.nd (ag bC mh' (mv' 3)))
   (mz' (aI (ay (t7 d.units) (gL d.units (mv' 0) ak) (cb mn') (aC _)) (aa (au 4 cK.nd (ae (gL d.units (mv' 0) ak) (ag ga (mv' 3) (aE bv 'b' T.len dG (mc' (gL d.units (mv' 0) ak) mn')))))) aq)
   (mz' (aI (EW.pt (ji (ay Bt (mv' 4) (ag NH mh' mh') (aC _)) (ir (ay k6 (mv' 3) (aE bv 'b' T.len dG (mc' (gL d.units (mv' 0) ak) mn')) (aC _))))) (mz' (sD d.units (ag iw (mv' 4) (mv' 1)) (mv' 0) ak)
   (aa (af (ag ga (mv' 4) (mv' 1))))) aq)
   (mz' (au 5 cK.nd (ag ga (ag bC (ag aK (ag aK (ag ga (mv' 4) mh') (ag bC mh' (mv' 3))) mh') mh') mh'))
   (mz' (au 5 cK.nd (ag ga (ag bC (ag aK (ag aK (ag iw (mv' 5) mh') (ag bC mh' (mv' 3))) mh') mh') mh'))
   (aa (af (ag ga (ag iw (mv' 5) mh') (mv' 1)))))))))))),?_⟩
 case ar=>intro C B ⟨ds,m,c,rfl,_⟩;rfl
 intro C B N ⟨ds,m,c,rfl,⟨ns,p,q,rfl,z,u,L,j⟩,M,e,J,k⟩;refine ah (MSt.mk [some (.at 0 []),~~~(.int m),none,none,none,none] [[LH ns p q]] 1) rfl ?_;ext s;refine bi (λh=>?_) (λh=>?_)
 .ext s;exact k _ _ (ad2 _ ∅) (ada _ e) ⟨ns,p,q/m,rfl,z,u,∅,agm j ∅⟩
 .ext s;have b:∀x:Int,0≤x->x<m->∀t:Int,0≤t->B (.imm (.int x)) [[LH ns (p+1) t]]:=λx g n t I=>k _ _ g n ⟨ns,p+1,t,rfl,z,∅,∅,I⟩;have a:∀y:Int,0≤y/64%m/\y/64%m<m:=λy=>⟨ad2 _ ∅,ada _ e⟩
  cases ns with
  | nil=>
   refine x_ne rfl rfl rfl rfl ?_;ext s;refine jG ?_;ext s;refine bi (λg=>?_) (λg=>?_)
   .ext s;refine bi (λn=>?_) (λn=>?_)
    .ext s;exact b _ (ad2 _ ∅) (ada _ e) _ (agm (aep ⋯ g) ∅)
    .ext s;exact b _ (a _).1 (a _).2 _ j
   .ext s;exact b _ (a _).1 (a _).2 _ j
  | cons v ns=>
   refine x_ne rfl rfl (vA _) rfl ?_;ext s;refine jL ?_;ext s;have o:(0:Int)<((List.map abj (v::ns)).length:Int):=by simp only[iO,aau];omega
   refine Nw o ?_;let⟨x,F⟩:=IG (ns:=v::ns) (i:=p%((List.map abj (v::ns)).length:Int)) (ad2 _ ∅) (by have:=ada p o;simp only[iO]at this⊢;exact this);refine zH F ?_;ext s;refine bi (λg=>?_) (λg=>?_)
   .ext s;refine bi (λn=>?_) (λn=>?_)
    .ext s;exact b _ (ad2 _ ∅) (ada _ e) _ (agm (aep ⋯ g) ∅)
    .ext s;exact b _ (a _).1 (a _).2 _ j
   .ext s;exact b _ (a _).1 (a _).2 _ j
theorem vx(T:Bl K mg)(D:DefM K mg "_law_frac" kM ["_law_top","_law_bottom"]):FnM P w K mg base "_law_frac" 1 2 Wj:=by
 refine aH D jh rfl (nN:=4) rfl ⋯ ?ar λz A outer s H E f F=>⟨_,(mz' (kj (i:=2) (j:=3) jh.nd rfl rfl ⋯ rfl rfl (mc' (mv' 0) (mc' (mv' 1) mn')) rfl)
   (mz' (fH (ay oy (mv' 3) mh' (aC _)) (aa (kj (i:=2) (j:=3) jh.nd rfl rfl ⋯ rfl rfl (mc' (mv' 3) (mc' (ag ga (mv' 2) (mv' 3)) mn')) rfl)) aaz)
   (aa (af (am (mc' (ag iw (mv' 0) (mv' 2)) (mc' (ag iw (mv' 1) (mv' 2)) mn'))))))),?_⟩
 case ar=>intro o C ⟨a,b,rfl,_⟩;rfl
 intro o C I ⟨a,b,rfl,q,e,t,k⟩;refine ah (MSt.mk [~~~(.int a),~~~(.int b),none,none] [] 0) rfl ?_;ext s;refine kB (λn m=>∃x y:Nat,m=MSt.mk [~~~(.int a),~~~(.int b),~~~(.int x),~~~(.int y)] [] 0/\x.gcd y=a.gcd b/\x<1000000000/\y<1000000000/\n=y) b ⟨a,b,rfl,rfl,q,t,rfl⟩ ?_;intro n m J ⟨x,y,rfl,c,u,d,rfl⟩;ext s;refine bi (λg=>?_) (λG=>?_)
 .ext s;have p:0<n:=by omega
  have B:=ahK x p;exact⟨x%n,B,n,x%n,rfl,by rw[Nat.gcd_comm,<-Nat.gcd_rec,Nat.gcd_comm,c],d,∅,rfl⟩
 .have hy0:n=0:=by omega
  subst hy0;rw[Nat.gcd_zero_right]at c;have v:0<x:=by rw[c];exact afH _ e
  ext s;ext s;rw[c];exact k
theorem l5(T:Bl K mg)(D:DefM K mg "_law_all_lines" c6 ["_law_rooms"]):FnM P w K mg base "_law_all_lines" 1 1 mi:=by
 refine aH D b5 rfl (nN:=5) rfl ⋯ ?ar λM A outer s H E f x=>⟨_,(mz' (au 1 b5.nd (cb (mc' (am mn') mn')))
   (mz' (bU (bV (mv' 0)) (ap 2 b5.nd) (mz' (au 3 b5.nd (cb mn'))
   (mz' (bU (bV (mv' 1)) (mq (i:=4) b5.nd rfl (aei rfl)) (aa (dj (lr afJ afK qw (mv' 3) (mc' (cE (own:=["_law_k"]) (fr:=["_law_lines"]) (ps:=[4]) (sc:=(ab c6)) 'e' (cw 'b' T.range (mc' (ag aK (mv' 2) mh') mn')) (λ_ _ _ _ _=>(ap 0 (show abC ((["_law_k"]:List Str)++(["_law_lines"]:List Str))from by ext K))) (λ_ _ _ _ _=>cZ) (λ_ _ _ _ _=>(ag aK (mv' 1) (am (mc' (mv' 0) mn'))))) mn')))) aaz)
   (aa (au 1 b5.nd (mv' 3))))) aaz)
   (aa (af (mv' 1))))),?_⟩
 case ar=>intro G N ⟨rs,rfl,_⟩;rfl
 intro G N R ⟨rs,rfl,Q,v,k⟩;refine ah (MSt.mk [~~~(.list (rs.map λ(r:Nat)=>.int (r:Int))),none,none,none,none] [] 0) rfl ?_;ext d;refine fv (λi m=>∃a c,m=MSt.mk [~~~(.list (rs.map λ(r:Nat)=>.int (r:Int))),some (.obj 0),a,none,c] [(((rs.take i).foldl M3.stepL [[]]).map lnD)] 0) ⟨none,none,rfl⟩ ?_ ?_
 .rintro i d m e n ⟨a,c,rfl⟩;let⟨r,C,rfl,O⟩:=gmap e;have r6:=v r (Ld C);generalize g:(rs.take i).foldl M3.stepL [[]]=p;have t:∀a∈p,a.length≤4:=by
   intro a u;rw[<-g]at u;have:=M3.allR_len (by rw[<-M3.allL_eq];exact u);rw[this,aaM];omega
  have I:p.length≤2401:=by
   rw[<-g];exact M3.fold_small (by rw[aaM];omega) (λr x=>v r (ack x))
  have o:((rs.take (i+1)).foldl M3.stepL [[]])=M3.stepL p r:=by
   rw[aaX,C,ahk,g];rfl
  rw[o];ext d;refine qT (λi m=>∃a,m=MSt.mk [~~~(.list (rs.map λ(r:Nat)=>.int (r:Int))),some (.obj 0),~~~(.int r),some (.obj 1),a] [p.map lnD,(M3.stepL (p.take i) r).map lnD] 1) ⟨c,rfl⟩ ?_ ?_ ?_
  .rintro j m ⟨a,rfl⟩;rfl
  .rintro j d m ej nj ⟨a,rfl⟩;let⟨l,F,rfl,S⟩:=gmap ej;have J:=t l (Ld F);ext s;refine⟨∅,∅,?_⟩;have L:((r:Int)+1).toNat=r+1:=by omega
   rw[L];ext n;refine fv (λz m=>∃b,m=MSt.mk [b,~~~(lnD l)] [p.map lnD,(M3.stepL (p.take j) r).map lnD,((aav z).map λy=>l++[y]).map lnD] 3) ⟨none,rfl⟩ ?_ ?_
   .rintro z dz m ez nz ⟨b,rfl⟩;let⟨B,rfl⟩:=df ez;ext s;refine k8 (by rw[aas,aQ];simp;omega) ?_;ext s;refine⟨_,rfl,by rw[aas];simp;omega,~~~(.int (0+(z:Int))),?_⟩;have q:((aav (z+1)).map λy=>l++[y]).map lnD=((aav z).map λy=>l++[y]).map lnD++[.tuple (natD l++[.int (0+(z:Int))])]:=by
     rw[ab6];simp[lnD,natD]
    rw[q];rfl
   .rintro m n ⟨b,rfl⟩;rw[aP];ext s;have B:((M3.stepL (p.take j) r).map lnD).length+(((aav (r+1)).map λy=>l++[y]).map lnD).length≤aak:=by
     rw[aas,iO,iO,iO,aa2,M3.stepL_length,aaM];have:min j p.length*(r+1)≤2401*7:=acH ∅ ∅;omega
    refine' wX (ds:=(M3.stepL (p.take j) r).map lnD) ?eb B ?_
    case eb=>rfl
    have q:(M3.stepL (p.take (j+1)) r).map lnD=(M3.stepL (p.take j) r).map lnD++((aav (r+1)).map λy=>l++[y]).map lnD:=by
     rw[M3.stepL_take F,aaJ]
    rw[q];exact⟨_,rfl⟩
  .rintro m n ⟨a,rfl⟩;rw[iO,aaE];ext n;refine Uj ?_;refine Oz rfl ?_;refine t6 [1] (MSt.mk [~~~(.list (rs.map λ(r:Nat)=>.int (r:Int))),some (.obj 0),~~~(.int r),none,none] [(M3.stepL p r).map lnD] 0) (J6 rfl rfl rfl rfl rfl rfl ⟨rfl,⟨1,rfl,rfl⟩,rfl,trivial,trivial,trivial⟩) ⟨_,_,rfl⟩
 .rintro m n ⟨a,c,rfl⟩;rw[iO,aaE,show rs.foldl M3.stepL [[]]=M3.allL rs from rfl,M3.allL_eq];ext s;exact k
theorem wD(T:Bl K mg)(D:DefM K mg "_law_sent" iI ["_law_hall","_law_rule","_law_lines","_law_order"])(G:FnM P w K mg base "_law_all_lines" 1 1 mi):FnM P w K mg base "_law_sent" 2 4 EF:=by
 refine aH D b9 rfl (nN:=12) rfl ⋯ ?ar λcdv A outer s H E f p=>⟨_,(mz' (aI (ay (bQ p.units) (ae (mv' 1) mh') ak (aC _)) (aa (af (ae (mv' 3) mh'))) aq)
   (mz' (aI (ay (bQ p.units) (ae (mv' 1) mh') ak (aC _)) (mz' (ue (i:=4) (own:=["_law_speed","_law_room"]) (fr:=[]) (ps:=[]) (sc:=(ab iI)) 'e' b9.nd rfl rfl (bV (ae (mv' 0) mh')) (λ_ _ _ _ _=>(bo (n:=2) (ac (ap 0 (show abC ((["_law_speed","_law_room"]:List Str)++([]:List Str))from by ext K)) (ac (ap 1 (show abC ((["_law_speed","_law_room"]:List Str)++([]:List Str))from by ext K)) aU)))) (λ_ _ _ _ _=>cZ) (λ_ _ _ _ _=>(mv' 1)))
   (aa (QI (af (ae (ae (mv' 1) mh') (lr aeb afV (uc p.units) (mf' G p⁻¹ (mc' (mv' 4) mn')) (mc' (mv' 2) mn'))))))) aq)
   (mz' (au 5 b9.nd (ae (mv' 3) mh'))
   (mz' (au 6 b9.nd (Ah (ay (bQ p.units) (ae (mv' 1) mh') ak (aC _)) (dq gN (mv' 3) (dW mh') (dW mh')) (dq gN (mv' 3) (dW mh') f9)))
   (mz' (bU (bV (mv' 6)) (ap 7 b9.nd) (mz' (kj (i:=8) (j:=9) b9.nd rfl rfl ⋯ rfl rfl (mc' (ae (mv' 2) (mv' 7)) (mc' (ae (mv' 2) (mv' 5)) mn')) rfl)
   (mz' (aI (ay (bQ p.units) (ae (mv' 1) mh') ak (aC _)) (mz' (kj (i:=10) (j:=11) b9.nd rfl rfl ⋯ rfl rfl (mc' (ae (ae (ae (mv' 0) mh') (mv' 7)) mh') (mc' (ae (ae (ae (mv' 0) mh') (mv' 5)) mh') mn')) rfl)
   (mz' (au 8 b9.nd (ag bC (ag bC (ag aK (mv' 8) mh') (ae (mv' 10) mh')) (ae (mv' 11) mh')))
   (aa (au 9 b9.nd (ag bC (ag bC (ag aK (mv' 9) mh') (ae (mv' 11) mh')) (ae (mv' 10) mh')))))) aq)
   (aa (aI (ay k6 (mv' 8) (mv' 9) (aC _)) (aa (au 5 b9.nd (mv' 7))) aq)))) aaz)
   (aa (af (mv' 5)))))))),?_⟩
 case ar=>intro as Kc ⟨h,r,l,o,rfl,_⟩;rfl
 intro as Kc hl ⟨h,r,l,o,rfl,C,p,nt,L,hO,k⟩;have n4:=C.n4;have N:=L.1;let⟨c,os,rfl,h0⟩:=hO.cons;have kind:r = .random\/(∃ps,r = .told ps)\/Rk r:=by
  cases r with
  |turns=>exact(nt rfl).elim
  |random=>exact .inl rfl
  |told ps=>exact .inr (.inl ⟨ps,rfl⟩)
  |two=>exact .inr (.inr trivial)
  |least=>exact .inr (.inr trivial)
  |quick=>exact .inr (.inr trivial)
 rcases kind with rfl|⟨ps,rfl⟩|t
 .refine ah (MSt.mk [~~~h.d,~~~(.tuple [.str "random"]),~~~(.tuple (natD l)),~~~(.tuple (natD (c::os))),none,none,none,none,none,none,none,none] [] 0) rfl ?_;ext f;refine aY (ds:=natD (c::os)) (bh (j:=0) rfl) ?_;ext s;exact k
 .refine ah (MSt.mk [~~~h.d,~~~(.tuple [.str "told",.tuple (natD ps)]),~~~(.tuple (natD l)),~~~(.tuple (natD (c::os))),none,none,none,none,none,none,none,none] [] 0) rfl ?_;ext s;rw[if_neg (hnc:=by ext K)];ext f;refine bJ (λi m=>∃a b:Option L2.R,m=MSt.mk [a,b] [(h.rs.take i).map λ(r:Nat)=>.int (r:Int)] 1) ⟨none,none,rfl⟩ ?_ ?_
  .rintro i d m e B ⟨a,b,rfl⟩ D1 hD1 hR1;let⟨s,U,rfl,hi⟩:=gmap e;have g:h.rs[i]?=some s.r:=by unfold Hall.rs;rw[aah,U];rfl
   ext e
   .rfl
   ext s;refine⟨_,rfl,by rw[aas,iO,aaM,Hall.rsl];omega,hD1 _ ⟨~~~(.tuple [.int s.a,.int s.b]),~~~(.int (s.r:Int)),?_⟩⟩;rw[aaX,g,aaJ];rfl
  intro m B ⟨a,b,rfl⟩;rw[iO,<-Hall.rsl,aaE];ext x;refine eF ?_;ext n;refine YB 0 4 (h.rs.map λ(r:Nat)=>.int (r:Int)) [] (MSt.mk [~~~h.d,~~~(.tuple [.str "told",.tuple (natD ps)]),~~~(.tuple (natD l)),~~~(.tuple (natD (c::os))),~~~(.list (h.rs.map λ(r:Nat)=>.int (r:Int))),none,none,none,none,none,none,none] [] 0) rfl rfl (VQ rfl rfl rfl rfl rfl rfl rfl rfl ⟨.inl rfl,.inl rfl,.inl rfl,.inl rfl,.inr ⟨rfl,.inl rfl⟩,.inl trivial,.inl trivial,.inl trivial,.inl trivial,.inl trivial,.inl trivial,.inl trivial,trivial⟩) ?_;ext s;refine⟨h.rs,rfl,by rw[Hall.rsl];exact n4,C.r6,?_⟩;ext x;have hp:=M7.place_at L.fits;refine Bc (k':=1) (j:=M7.placeF 0 h.rs l) (y:=lnD l) rfl (bc (bz l)) (λy Y=>?_) ⋯ (by rw[aah,hp];rfl) (by rw[show abT (natD l)=lnD l from rfl,jk];exact decide_eq_true rfl) (λi y hi Y=>?_) ?_
  .obtain⟨l',_,rfl⟩:=aar.mp Y;exact bc (bz l')
  .obtain⟨l',el,rfl,_⟩:=gmap Y;rw[show abT (natD l)=lnD l from rfl,jk];refine decide_eq_false λz=>?_;subst z;have:=M7.place_only el;omega
  .ext n;have Q:M7.placeF 0 h.rs l<ps.length:=by rw[p.1,M7.allR_cnt];exact M7.place_lt L.fits
   refine aY (bh (bm (getN rfl Q))) ?_;ext s;exact k
 .have ed:r.d = .tuple [.str r.word]:=by cases r<;>first|rfl|exact t.elim
  have n1:decide (r.word = "random")=false:=by cases r<;>first|exact t.elim|ext K
  have n2:decide (r.word = "told")=false:=by cases r<;>first|exact t.elim|ext K
  rw[ed];refine ah (MSt.mk [~~~h.d,~~~(.tuple [.str r.word]),~~~(.tuple (natD l)),~~~(.tuple (natD (c::os))),none,none,none,none,none,none,none,none] [] 0) rfl ?_;ext s;rw[n1];ext s;rw[n2];ext s;refine aY (ds:=natD (c::os)) (bh (j:=0) rfl) ?_;ext s;refine x_J (λr' m=>r' = .imm (.tuple (natD (rsO r os)))/\m=MSt.mk [~~~h.d,~~~(.tuple [.str r.word]),~~~(.tuple (natD l)),~~~(.tuple (natD (c::os))),none,~~~(.int (c:Int)),none,none,none,none,none,none] [] 0) (λK' J=>?_) ?_
  .refine MR ?_;ext x;refine bi (λz=>?_) (λz=>?_)
   .have g:r = .two:=by cases r<;>first|rfl|exact t.elim|exact absurd z (by ext K)
    subst g;ext s;rw[show cutD (natD (c::os)) (some 1) (some 2)=natD (os.take 1) by cases os<;>rfl];exact J _ _ ⟨rfl,rfl⟩
   .have g:rsO r os=os:=by cases r<;>first|rfl|exact t.elim|exact absurd rfl z
    ext s;rw[show cutD (natD (c::os)) (some 1) none=natD os by rw[show(1:Int)=((1:Nat):Int)from rfl,oI];rfl];exact J _ _ ⟨by rw[g],rfl⟩
  intro _ _ ⟨rfl,rfl⟩;ext n;refine oi ?_;ext x;refine bJ (λi m=>∃V a8 W u v:Option L2.R,m=MSt.mk [~~~h.d,~~~(.tuple [.str r.word]),~~~(.tuple (natD l)),~~~(.tuple (natD (c::os))),none,~~~(.int (M7.pick (ltO h l r) c ((rsO r os).take i):Nat)),~~~(.tuple (natD (rsO r os))),V,a8,W,u,v] [] 0) ⟨none,none,none,none,none,rfl⟩ ?_ ?_
  .rintro i d m e B ⟨V,a8,W,u,v,rfl⟩ D1 hD1 hR1;let⟨j,ej,rfl,hi⟩:=gmap e;have mj:=Ld ej;have hj:j<h.ss.length:=hO.lt j (aai _ (AY mj));have M:M7.pick (ltO h l r) c ((rsO r os).take i)<h.ss.length:=xJ h0 λz S=>hO.lt z (aai _ (AY (ack S)));have et:(rsO r os).take (i+1)=(rsO r os).take i++[j]:=by rw[aaX,ej];rfl
   rw[et,M7.pick_app]at hD1;generalize M7.pick (ltO h l r) c ((rsO r os).take i)=b at M hD1⊢;ext s;refine aY (bh (bm (getN N hj))) ?_;ext s;refine aY (bh (bm (getN N M))) ?_;ext s;let⟨s,U,ea,eb,hs⟩:=h.srv hj;let⟨F,Z,O,R,X⟩:=h.srv M;have so:=C.ok s hs;have I:=C.ok F X;have b1:=L.le C _ (Ld (getN N hj));have b2:=L.le C _ (Ld (getN N M));refine bi (λz=>?_) (λz=>?_)
   .have g:r = .quick:=by cases r<;>first|rfl|exact t.elim|exact absurd z (by ext K)
    subst g;have a2:=so.a2;have c2:=so.b2;have a2':=I.a2;have c2':=I.b2;have up:∀{z:Nat},z<10^30->z<10^160:=λS=>aej S ⋯;have m1:(l.getD j 0+1)*s.b≤7*1000000:=acH ∅ ∅;have m2:(l.getD b 0+1)*F.b≤7*1000000:=acH ∅ ∅;ext s;refine aY (d:=s.d) (bh (by rw[aah,U];rfl)) ?_;ext e;refine aY (d:=F.d) (bh (by rw[aah,Z];rfl)) ?_;ext e;have g:ltO h l Rule.quick j b=decide ((((l.getD j 0:Nat):Int)+1)*(s.b:Int)*(F.a:Int)<(((l.getD b 0:Nat):Int)+1)*(F.b:Int)*(s.a:Int)):=by
     show decide ((l.getD j 0+1)*h.bn j*h.an b<(l.getD b 0+1)*h.bn b*h.an j)=_;rw[eb,O,R,ea];refine decide_eq_decide.mpr ⟨λq=>?_,λq=>?_⟩
     .exact_mod_cast q
     .exact_mod_cast q
    rw[g]at hD1;refine bi (λx=>?_) (λx=>?_)
    .rw[decide_eq_true x,if_pos rfl]at hD1;ext s;exact hD1 _ ⟨_,_,_,_,_,rfl⟩
    .rw[decide_eq_false x,if_neg ⋯]at hD1;ext s;exact hD1 _ ⟨_,_,_,_,_,rfl⟩
   .have g:ltO h l r j b=decide (((l.getD j 0:Nat):Int)<((l.getD b 0:Nat):Int)):=by
     cases r with
     |quick=>exact absurd rfl z
     |two=>exact decide_eq_decide.mpr ∅
     |least=>exact decide_eq_decide.mpr ∅
     |_=>exact t.elim
    rw[g]at hD1;ext s;refine bi (λx=>?_) (λx=>?_)
    .rw[decide_eq_true x,if_pos rfl]at hD1;ext s;exact hD1 _ ⟨_,_,_,_,_,rfl⟩
    .rw[decide_eq_false x,if_neg ⋯]at hD1;ext s;exact hD1 _ ⟨_,_,_,_,_,rfl⟩
  .rintro m B ⟨V,a8,W,u,v,rfl⟩;rw[aQ,aaE];ext s;rw[<-YW t]at *;exact k
theorem yN(T:Bl K mg)(D:DefM K mg "_law_put" oU ["_law_lines","_law_k","_law_more"]):FnM P w K mg base "_law_put" 1 3 qc:=by
 refine aH D zc rfl (nN:=3) rfl ⋯ ?ar λi A outer s H E f n=>⟨_,(aa (af (ag aK (ag aK (dq gN (mv' 0) f9 (dW (mv' 1))) (am (mc' (ag aK (ae (mv' 0) (mv' 1)) (mv' 2)) mn'))) (dq gN (mv' 0) (dW (ag aK (mv' 1) mh')) f9)))),?_⟩
 case ar=>intro b m ⟨l,j,d,x,rfl,_⟩;rfl
 intro b m o ⟨l,j,d,x,rfl,a,c,g,k⟩;refine ah (MSt.mk [~~~(.tuple (natD l)),~~~(.int (j:Int)),~~~(.int d)] [] 0) rfl ?_;ext s;refine aY (bh (bm (getN rfl a))) ?_;ext s;rw[g,wm];refine k8 (by rw[aas,aaM,aQ];simp;omega) ?_;ext s;rw[show(j:Int)+1=((j+1:Nat):Int)from rfl,oI];refine k8 (by rw[aas,aam,aaM,aew,aQ];simp;omega) ?_;ext s;have e:(natD l).take j++[.int (x:Int)]++(natD l).drop (j+1)=natD (l.set j x):=by
  rw[<-xP,aec,if_pos (by rw[aQ];exact a)];simp
 rw[e];exact k
theorem vG(T:Bl K mg)(D:DefM K mg "_law_step" kO ["_law_hall","_law_rule","_law_lines","_law_move"])(b:FnM P w K mg base "_law_sent" 2 4 EF)(G:FnM P w K mg base "_law_put" 1 3 qc):FnM P w K mg base "_law_step" 4 4 JT:=by
 refine aH D cc rfl (nN:=8) rfl ⋯ ?ar λcdv A outer s H E f c=>⟨_,(mz' (au 4 cc.nd ak)
   (mz' (aI (ay (bQ c.units) (ae (mv' 3) mh') ak (aC _)) (mz' (au 5 cc.nd (mf' b c⁻¹ (mc' (mv' 0) (mc' (mv' 1) (mc' (mv' 2) (mc' (ae (mv' 3) mh') mn'))))))
   (mz' (au 4 cc.nd (Ah (ay (bQ c.units) (ae (mv' 2) (mv' 5)) (ae (ae (ae (mv' 0) mh') (mv' 5)) mh') (aC _)) ak ak))
   (aa (au 2 cc.nd (mf' G c⁻¹ (mc' (mv' 2) (mc' (mv' 5) (mc' (cu nW 'b' T.int w5 (mc' (dB (bQ c.units) (mv' 4) ak (aC _)) mn')) mn')))))))) (aa (aI (EW.pt (ji (ay (bQ c.units) (ae (mv' 3) mh') ak (aC _)) (ir (ay oy (ae (mv' 2) (ae (mv' 3) mh')) mh' (aC _))))) (mz' (au 4 cc.nd ak)
   (aa (au 2 cc.nd (mf' G c⁻¹ (mc' (mv' 2) (mc' (ae (mv' 3) mh') (mc' (p9 jT mh') mn'))))))) aq)))
   (mz' (fH (EW.pt (ji (bw (ae (mv' 0) mh')) (ji (ay (Ve c.units) mh' (mv' 2) 'f') (ir (ay oy (aE (fQ rfl) 'b' T.max ul (mc' (mv' 2) mn')) mh' (aC _)))))) (mz' (kj (i:=6) (j:=7) cc.nd rfl rfl ⋯ rfl rfl (mc' (yx acg acP (iL c.units) (mv' 2) (mc' (aE (fQ rfl) 'b' T.max ul (mc' (mv' 2) mn')) mn')) (mc' (yx acg acP (iL c.units) (mv' 2) (mc' mh' mn')) mn')) rfl)
   (aa (au 2 cc.nd (mf' G c⁻¹ (mc' (mf' G c⁻¹ (mc' (mv' 2) (mc' (mv' 6) (mc' (p9 jT mh') mn')))) (mc' (mv' 7) (mc' mh' mn'))))))) aaz)
   (aa (af (am (mc' (mv' 2) (mc' (mv' 4) mn')))))))),?_⟩
 case ar=>intro as Kc ⟨h,r,l,m,rfl,_⟩;rfl
 intro as Kc hl ⟨h,r,l,mv,rfl,V,c,n1,Z,U,k⟩;have n4:=V.n4;have ln1:=V.n1;have l4:=Z.1;refine ah (MSt.mk [~~~h.d,~~~r.d,~~~(.tuple (natD l)),~~~mv.d,none,none,none,none] [] 0) rfl ?_;refine y9 ?_;refine x_JS (λm=>m=MSt.mk [~~~h.d,~~~r.d,~~~(.tuple (natD l)),~~~mv.d,~~~(.str "none"),none,none,none] [] 0) (λN J=>?_) ?_
 .ext s;exact J _ rfl
 rintro _ rfl;ext n;refine y9 ?_;refine x_JS (λm=>∃(B:List Nat) (w:Wd) (X:Option L2.R),m=MSt.mk [~~~h.d,~~~r.d,~~~(.tuple (natD B)),~~~mv.d,~~~(.str w.s),X,none,none] [] 0/\B.length=l.length/\((f8 h r l 0 mv).1,(f8 h r l 0 mv).2.2)=(settle h B,w)) (λN J=>?_) ?_
 .cases mv with
  | come o=>
   have hj:=jq V c Z U (t:=0) λz=>(n1 z).elim;have Sr:=V.ok;let⟨s,O⟩:∃s,h.ss[sent h r l 0 o]?=some s:=⟨_,lD hj⟩;have rn:h.rn (sent h r l 0 o)=s.r:=by
    unfold Hall.rn Hall.rs;rw[aac,aah,O];rfl
   let⟨x,ex⟩:∃x,l[sent h r l 0 o]?=some x:=⟨_,lD ∅⟩;have v:l.getD (sent h r l 0 o) 0=x:=bH ex;dsimp only[Mv.d];ext f;refine⟨h,r,l,o,rfl,V,c,n1,Z,U,?_⟩;ext x;refine x_J (λr' m=>r' = .imm (.str (cz h l (sent h r l 0 o)).2.s)/\m=MSt.mk [~~~h.d,~~~r.d,~~~(.tuple (natD l)),~~~(.tuple [.str "come",lnD o]),~~~(.str "none"),~~~(.int (sent h r l 0 o:Nat)),none,none] [] 0) (λK' J'=>?_) ?_
   .refine MR ?_;ext x;refine aY (bh (bm ex)) ?_;ext s;refine aY (ds:=h.ss.map Srv.d) (d:=s.d) (bh (by rw[aah,O];rfl)) ?_;ext e;refine bi (λz=>?_) (λz=>?_)
    .ext s;exact J' _ _ ⟨by unfold cz;rw[v,rn,if_pos ∅];rfl,rfl⟩
    .ext s;exact J' _ _ ⟨by unfold cz;rw[v,rn,if_neg ∅];rfl,rfl⟩
   intro _ _ ⟨rfl,rfl⟩;ext n;refine oi ?_;ext x;have em:((f8 h r l 0 (.come o)).1,(f8 h r l 0 (.come o)).2.2)=(settle h (cz h l (sent h r l 0 o)).1,(cz h l (sent h r l 0 o)).2):=rfl;rw[em]at J
   by_cases z:x=s.r
   .have ec:cz h l (sent h r l 0 o)=(l,.away):=by unfold cz;rw[v,rn,if_pos z]
    have el:l.set (sent h r l 0 o) x=l:=by
     apply ab2;intro i;rw[List.getElem?_set];split
     .rename_i q;rw[<-q,ex,if_pos ∅]
     .rfl
    rw[ec]at J⊢;refine⟨l,_,_,x,rfl,∅,∅,by rw[v,show(if decide (Wd.away.s = "taken")=true then(1:Int)else 0)=0 by ext K];omega,?_⟩;rw[el];ext n;exact oi (J _ ⟨l,.away,_,rfl,rfl,rfl⟩)
   .have ec:cz h l (sent h r l 0 o)=(l.set (sent h r l 0 o) (x+1),.taken):=by unfold cz;rw[v,rn,if_neg z]
    rw[ec]at J⊢;refine⟨l,_,_,x+1,rfl,∅,∅,by rw[v,show(if decide (Wd.taken.s = "taken")=true then(1:Int)else 0)=1 by ext K];omega,?_⟩;ext n;exact oi (J _ ⟨_,.taken,_,rfl,by rw[aa5],rfl⟩)
  |done j=>
   have hj:j<h.ss.length:=U;let⟨x,ex⟩:∃x,l[j]?=some x:=⟨_,lD ∅⟩;have v:l.getD j 0=x:=bH ex;dsimp only[Mv.d];ext s;rw[if_neg (hnc:=by ext K)];ext f;refine aY (bh (bm ex)) ?_;ext s;refine bi (λz=>?_) (λz=>?_)
   .ext s;refine⟨l,j,-1,x-1,rfl,∅,∅,∅,?_⟩;ext x;refine J _ ⟨l.set j (x-1),.served,none,rfl,by rw[aa5],?_⟩;show(settle h (c8 l j).1,(c8 l j).2)=_;unfold c8;rw[v,if_neg ∅]
   .ext s;refine J _ ⟨l,.none,none,rfl,rfl,?_⟩;show(settle h (c8 l j).1,(c8 l j).2)=_;unfold c8;rw[v,if_pos ∅]
  |still=>
   dsimp only[Mv.d];ext s;rw[if_neg (hnc:=by ext K)];ext s;rw[if_neg (hnc:=by ext K)];ext s;exact J _ ⟨l,.none,none,rfl,rfl,rfl⟩
 intro _ ⟨B,w,X,rfl,S,ek⟩;have Y:B≠[]:=λz=>by rw[z]at S;simp at S;omega
 have hl4:B.length≤1000:=by omega
 ext n;refine y9 ?_;refine kB (λn m=>∃(a:List Nat) (a6 a7:Option L2.R),m=MSt.mk [~~~h.d,~~~r.d,~~~(.tuple (natD a)),~~~mv.d,~~~(.str w.s),X,a6,a7] [] 0/\n=a.count 0/\dA h n a=settle h B/\a≠[]/\a.length≤1000) (B.count 0) ⟨B,none,none,rfl,rfl,rfl,Y,hl4⟩ ?_;intro n m hn ⟨a,a6,a7,rfl,rfl,hs,g,hl'⟩;have p:fc (natD a)=some (a.map λ(x:Nat)=>(x:Int)):=by
  have:=gh (a.map λ(x:Nat)=>(x:Int));rwa[abD]at this
 have F:(a.map λ(x:Nat)=>(x:Int))≠[]:=λz=>g (aeT.mp z);have C:∀x:Int,x∈(a.map λ(x:Nat)=>(x:Int))->(∀y∈(a.map λ(x:Nat)=>(x:Int)),y≤x)->x=(maxN a:Int):=λx L u=>by
  let⟨n,hn,rfl⟩:=aar.mp L;have h1:=rJ n hn;have h2:=u (maxN a:Int) (aar.mpr ⟨maxN a,iG g,rfl⟩);omega
 have done:dH h a=none->Kc (.imm (lwD (a,w))) []:=λe=>by
  rw[h8 e]at hs;rw[ek,<-hs]at k;exact k
 have hin:(natD a).any (λx=>aad x (.int 0))=decide (0∈a):=by
  rw[abq,adD,decide_eq_true_iff];constructor
  .rintro⟨x,L,ex⟩;let⟨w,hw,e0⟩:=aar.mp L;rw[<-e0,show(abj 0)=abj ((0:Nat):Int)from rfl,bT]at ex;rw[<-of_decide_eq_true ex];exact hw
  .intro U;exact⟨_,aar.mpr ⟨0,U,rfl⟩,⋯⟩
 ext s
 cases hmv:h.mv with
 |false=>
  ext s;exact done (if_neg (by rw[hmv];exact λz=>by cases z.1))
 | true=>
  ext s;refine x_in (d:=.int 0) (ds:=natD a) rfl (.inr rfl) (cp 0) (bz a) ⋯ ?_;rw[hin]
  by_cases W:0∈a
  .rw[decide_eq_true W,show(if false=true then !true else true)=true from rfl];ext s;refine uU rfl p F λx L u=>?_;rw[C x L u];ext s;refine bi (λz=>?_) (λz=>?_)
   .have e:dH h a=some (idx a (maxN a),idx a 0):=if_pos ⟨hmv,W,∅⟩;let⟨O,R,l2,hc,I⟩:=jY e;let⟨m0,m1,m2,m3,m4⟩:=iC e;dsimp only at O R l2 m1 m3 m4;have s1:=gC (iG g);have s0:=gC W;have g1:a.getD (idx a (maxN a)) 0=maxN a:=bH m1;have n0:(a.set (idx a (maxN a)) (maxN a-1))[idx a 0]?=some 0:=by rw[aaO m4];exact m3
    have g2:(a.set (idx a (maxN a)) (maxN a-1)).getD (idx a 0) 0=0:=bH n0;ext s;refine uU rfl p F λx L u=>?_;rw[C x L u];ext s;refine mn (j:=idx a (maxN a)) (k':=0) (cp _) (bz a) ⋯ (bm s1.1) (by rw[bT];exact decide_eq_true rfl) (λi y hi u=>?_) ?_
    .obtain⟨z,ez,rfl,_⟩:=gmap u;rw[bT];exact decide_eq_false (s1.2 i z hi ez)
    ext s;refine mn (j:=idx a 0) (k':=0) (cp _) (bz a) ⋯ (bm s0.1) (bT 0 0) (λi y hi u=>?_) ?_
    .obtain⟨z',ez,rfl,_⟩:=gmap u;have:=bT z' 0;rw[show((0:Nat):Int)=0 from rfl]at this;rw[this];exact decide_eq_false (s0.2 i z' hi ez)
    ext s;refine⟨a,idx a (maxN a),-1,maxN a-1,rfl,R,hl',∅,?_⟩;generalize hl2:a.set (idx a (maxN a)) (maxN a-1)=Q at *;ext n;dsimp only[lnD];ext s;have hl3:Q.length=a.length:=by rw[<-hl2,aa5]
    refine⟨Q,idx a 0,1,1,rfl,∅,∅,∅,?_⟩;rw[<-O];ext x;have M:cI a (idx a (maxN a),idx a 0)≠[]:=λz=>by
     rw[z]at I;exact g (abi I.symm)
    refine⟨(cI a (idx a (maxN a),idx a 0)).count 0,∅,cI a (idx a (maxN a),idx a 0),_,_,rfl,rfl,?_,M,∅⟩;rw[<-hs,<-hc];show _=dA h ((cI a (idx a (maxN a),idx a 0)).count 0+1) a;simp only[dA,e]
   .ext s;exact done (if_neg λq=>by have:=q.2.2;omega)
  .rw[decide_eq_false W,show(if false=true then !false else false)=false from rfl];ext s;exact done (if_neg λq=>W q.2.1)
theorem vf(T:Bl K mg)(D:DefM K mg "_law_kept" iu ["_law_hall","_law_lines"]):FnM P w K mg base "_law_kept" 1 2 oA:=by
 refine aH D mH rfl (nN:=3) rfl ⋯ ?ar λF A outer s H E f p=>⟨_,(mz' (au 2 mH.nd (dB (bQ p.units) (cE (own:=["_law_server"]) (fr:=["_law_hall"]) (ps:=[0]) (sc:=(ab iu)) 'e' (bV (ae (mv' 0) mh')) (λ_ _ _ _ _=>(ap 0 (show abC ((["_law_server"]:List Str)++(["_law_hall"]:List Str))from by ext K))) (λ_ _ _ _ _=>(qY (ay (t7 p.units) (mv' 0) (ae (ae (mv' 1) mh') mh') (aC _)))) (λ_ _ _ _ _=>(mv' 0))) (cb mn') (aC _)))
   (aa (af (Ah (bw (mv' 2)) (cu e9 'b' T.tuple gg (mc' (qo nR 'b' T.sorted mr (mc' (mv' 1) mn')) mn')) (mv' 1))))),?_⟩
 case ar=>intro v M ⟨h,l,rfl,_⟩;rfl
 intro v M O ⟨h,l,rfl,u,z,k⟩;have n4:=u.n4;refine ah (MSt.mk [~~~h.d,~~~(.tuple (natD l)),none] [] 0) rfl ?_;ext s;have key:∀d0:aD,(h.ss.map Srv.d).getD 0 .none=d0->(aad (.list ((h.ss.map Srv.d).filter λd=>!aad d d0)) (.list []))=alk h:=λd0 o=>by
  unfold alk;rw[o];generalize h.ss.map Srv.d=L
  induction L with
  |nil=>rfl
  |cons x L J=>
   rw[acz,abZ]
   cases aad x d0 with
   |true=>simpa using J
   |false=>rfl
 let⟨c,ss,t⟩:∃c ss,h.ss=c::ss:=by
  cases e:h.ss with
  |nil=>have:=u.n1;rw[e]at this;exact absurd this ⋯
  |cons a b=>exact⟨a,b,rfl⟩
 have o:(h.ss.map Srv.d).getD 0 .none=c.d:=by rw[t];rfl
 have g:∀s:Srv,Shp 2 s.d:=λs=>bc (k:=1) λd hd=>by
  simp only[aag,abe,or_false]at hd;rcases hd with rfl|rfl
  .exact bc (k:=0) λd hd=>by
    simp only[aag,abe,or_false]at hd;rcases hd with rfl|rfl<;>exact cp _
  .exact(cp _).mono ⋯
 refine bJ (λi m=>∃a:Option L2.R,m=MSt.mk [a,~~~h.d] [((h.ss.map Srv.d).take i).filter λd=>!aad d c.d] 1) ⟨none,rfl⟩ ?_ ?_
 .rintro i d m e n ⟨a,rfl⟩ D1 hD1 hR1;let⟨s,Q,rfl,N⟩:=gmap e;rw[aaX,e,afk]at hD1;have G:=aet (λd=>!aad d c.d) ((h.ss.map Srv.d).take i);rw[aaM,iO]at G;ext s;refine aY (ds:=h.ss.map Srv.d) (d:=c.d) (bh (j:=0) (by rw[t];rfl)) ?_;ext s;refine x_ne (d1:=s.d) (d2:=c.d) rfl rfl ((g s).ok ⋯) ((g c).ok ⋯) ?_;ext s
  cases ec:aad s.d c.d with
  |true=>
   refine jG ?_;ext s;refine hD1 _ ⟨~~~s.d,?_⟩;rw[show((some s.d).toList.filter λd=>!aad d c.d)=[] by show [s.d].filter _=[];rw[acz,ec];rfl,aa4];rfl
  |false=>
   refine jL ?_;ext s;refine⟨_,rfl,by rw[aas];omega,hD1 _ ⟨~~~s.d,?_⟩⟩;rw[show((some s.d).toList.filter λd=>!aad d c.d)=[s.d] by show [s.d].filter _=_;rw[acz,ec];rfl];rfl
 intro m n ⟨a,rfl⟩;rw[aaE];ext x;have C:Shp 3 (.list ((h.ss.map Srv.d).filter λd=>!aad d c.d)):=Gg λd hd=>by
  let⟨s,_,rfl⟩:=aar.mp (adW.mp hd).1;exact g s
 refine x_eq (d1:=.list ((h.ss.map Srv.d).filter λd=>!aad d c.d)) (d2:=.list []) rfl rfl (C.ok ⋯) (by ext K) ?_;rw[key _ o];ext s;unfold c9 at k;refine MR ?_;ext s
 cases q:alk h with
 |true=>
  rw[q,if_pos rfl]at k;ext s;refine DF (ds:=natD l) rfl (gu l) (by rw[iO];omega) λB y I=>?_;have e:=yd y I;subst e;rw[<-uf];ext s;exact k
 |false=>
  rw[q,if_neg aap]at k;ext s;exact k
theorem uJ(T:Bl K mg)(D:DefM K mg "_law_moves" di ["_law_hall"]):FnM P w K mg base "_law_moves" 1 1 nG:=by
 refine aH D ck rfl (nN:=6) rfl ⋯ ?ar λZ A outer s H E f V=>⟨_,(mz' (au 1 ck.nd (cb (mc' (am mn') mn')))
   (mz' (bU (bV (ae (mv' 0) mh')) (ap 2 ck.nd) (mz' (au 3 ck.nd (cb mn'))
   (mz' (bU (bV (mv' 1)) (mq (i:=4) ck.nd rfl (aei rfl)) (aa (dj (lr afJ afK qw (mv' 3) (mc' (cE (own:=["_law_k"]) (fr:=["_law_order"]) (ps:=[4]) (sc:=(ab di)) 'e' (cw 'b' T.range (mc' (aE bv 'b' T.len dG (mc' (ae (mv' 0) mh') mn')) mn')) (λ_ _ _ _ _=>(ap 0 (show abC ((["_law_k"]:List Str)++(["_law_order"]:List Str))from by ext K))) (λ_ _ _ _ _=>(qY (ay (jA V.units) (mv' 0) (mv' 1) 'f'))) (λ_ _ _ _ _=>(ag aK (mv' 1) (am (mc' (mv' 0) mn'))))) mn')))) aaz)
   (aa (au 1 ck.nd (mv' 3))))) aaz)
   (mz' (au 5 ck.nd (ag aK (cE (own:=["_law_order"]) (fr:=[]) (ps:=[]) (sc:=(ab di)) 'e' (bV (mv' 1)) (λ_ _ _ _ _=>(ap 0 (show abC ((["_law_order"]:List Str)++([]:List Str))from by ext K))) (λ_ _ _ _ _=>cZ) (λ_ _ _ _ _=>(am (mc' ak (mc' (mv' 0) mn'))))) (cE (own:=["_law_k"]) (fr:=[]) (ps:=[]) (sc:=(ab di)) 'e' (cw 'b' T.range (mc' (aE bv 'b' T.len dG (mc' (ae (mv' 0) mh') mn')) mn')) (λ_ _ _ _ _=>(ap 0 (show abC ((["_law_k"]:List Str)++([]:List Str))from by ext K))) (λ_ _ _ _ _=>cZ) (λ_ _ _ _ _=>(am (mc' ak (mc' (mv' 0) mn')))))))
   (aa (af (ag aK (mv' 5) (cb (mc' (am (mc' ak mn')) mn')))))))),?_⟩
 case ar=>intro O Kc ⟨h,rfl,_⟩;rfl
 intro O Kc hl ⟨h,rfl,N,k⟩;have n1:=N.n1;have n4:=N.n4;have no:(ordK h.ss.length h.ss.length).length≤24:=(iq _ n4 _ n4).1;refine ah (MSt.mk [~~~h.d,none,none,none,none,none] [] 0) rfl ?_;ext d;refine bJ (λi m=>∃a c:Option L2.R,m=MSt.mk [~~~h.d,some (.obj 0),a,none,c,none] [(ordK h.ss.length i).map lnD] 0) ⟨none,none,rfl⟩ ?_ ?_
 .rintro i d m e n ⟨a,c,rfl⟩ D1 hD1 hR1;let⟨s,Y,rfl,L⟩:=gmap e;have hi':=(AD.mp Y).1;let⟨hk1,u⟩:=iq h.ss.length n4 i ∅;have v:=ja h.ss.length n4 i ∅;rw[show ordK h.ss.length (i+1)=gZ h.ss.length (ordK h.ss.length i)from rfl]at hD1;generalize ordK h.ss.length i=os at *;ext d;refine qT (λz m=>∃b:Option L2.R,m=MSt.mk [~~~h.d,some (.obj 0),~~~s.d,some (.obj 1),b,none] [os.map lnD,(gZ h.ss.length (os.take z)).map lnD] 1) ⟨c,rfl⟩ ?_ ?_ ?_
  .rintro z m ⟨b,rfl⟩;rfl
  .rintro z d m ez nz ⟨b,rfl⟩;let⟨l,I,rfl,hz⟩:=gmap ez;let⟨S,W⟩:=u l (Ld I);have hzl:=(AD.mp I).1;have J:=v z ∅;ext s;rw[iO];refine⟨∅,∅,?_⟩;rw[abh];let⟨G,t⟩:∃G:Nat->List (List Nat),G=λy=>((aav y).filter λq=>!l.contains q).map λq=>l++[q]:=⟨_,rfl⟩;have B:gZ h.ss.length (os.take z)++G h.ss.length=gZ h.ss.length (os.take (z+1)):=by rw[t,ql I]
   have F:G 0=[]:=by rw[t];rfl
   have j:∀y,G (y+1)=G y++([y].filter λq=>!l.contains q).map λq=>l++[q]:=λy=>by
    rw[t];show((aav (y+1)).filter _).map _=_;rw[ab6,afk,aaJ]
   have p:∀y,y≤4->(G y).length≤4:=λy Q=>by
    rw[t];dsimp only;rw[iO];have:=aet (λq=>!l.contains q) (aav y);rw[aa2]at this;omega
   clear t;ext n;refine bJ (λy m=>∃c:Option L2.R,m=MSt.mk [c,~~~(lnD l)] [os.map lnD,(gZ h.ss.length (os.take z)).map lnD,(G y).map lnD] 3) ⟨none,by rw[F];rfl⟩ ?_ ?_
   .rintro y d m ey ny ⟨c,rfl⟩ D2 hD2 hR2;let⟨Q,rfl⟩:=df ey;rw[show(0:Int)+(y:Int)=((y:Nat):Int) by omega];have M:=p y ∅;have C:(natD l).any (λx=>aad x (.int (y:Int)))=l.contains y:=by
     rw[abq,adD,agu];constructor
     .rintro⟨x,hx,ex⟩;let⟨w,X,e0⟩:=aar.mp hx;rw[<-e0,bT]at ex;rw[<-of_decide_eq_true ex];exact X
     .intro hm;exact⟨_,aar.mpr ⟨y,hm,rfl⟩,by rw[bT];exact decide_eq_true rfl⟩
    ext s;refine x_in (d:=.int (y:Int)) (ds:=natD l) rfl (.inr rfl) (cp _) (bz l) ⋯ ?_;ext s;rw[C]
    cases hc:l.contains y with
    |true=>
     refine jG ?_;ext s;refine hD2 _ ⟨~~~(.int (y:Int)),?_⟩;rw[j,show([y].filter λq=>!l.contains q)=[] by rw[acz,hc];rfl,adB,aa4];rfl
    |false=>
     refine jL ?_;ext s;refine k8 (by rw[aas,aQ];simp;omega) ?_;ext s;refine⟨_,rfl,by rw[aas,iO];omega,hD2 _ ⟨~~~(.int (y:Int)),?_⟩⟩;rw[j,show([y].filter λq=>!l.contains q)=[y] by rw[acz,hc];rfl,aaJ];simp[lnD,natD,MSt.setV]
   .rintro m ny ⟨c,rfl⟩;rw[aP];have hg:=p h.ss.length n4;ext s;refine' wX (ds:=(gZ h.ss.length (os.take z)).map lnD) ?eb (by rw[aas,iO];show _+((G h.ss.length).map lnD).length≤_;rw[iO];omega) ?_
    case eb=>rfl
    rw[<-B,aaJ];exact⟨_,rfl⟩
  .rintro m nz ⟨b,rfl⟩;rw[iO,aaE];ext n;refine Uj ?_;refine Oz rfl ?_;exact t6 [1] (MSt.mk [~~~h.d,some (.obj 0),~~~s.d,none,none,none] [(gZ h.ss.length os).map lnD] 0) (J6 rfl rfl rfl rfl rfl rfl ⟨rfl,⟨1,rfl,rfl⟩,rfl,trivial,trivial,trivial,trivial⟩) (hD1 _ ⟨_,_,rfl⟩)
 intro m n ⟨a,c,rfl⟩;rw[iO];ext x;refine qT (λi m=>∃a:Option L2.R,m=MSt.mk [a] [(ordK h.ss.length h.ss.length).map lnD,((ordK h.ss.length h.ss.length).take i).map λo=>(Mv.come o).d] 2) ⟨none,rfl⟩ ?_ ?_ ?_
 .rintro i m ⟨a,rfl⟩;rfl
 .rintro i d m e g ⟨a,rfl⟩;let⟨o,R,rfl,L⟩:=gmap e;ext s;refine⟨_,rfl,by rw[aas,iO,aaM];omega,~~~(lnD o),?_⟩;rw[aaX,R,aaJ];rfl
 intro m g ⟨a',rfl⟩;rw[iO,aaE];ext x;refine⟨by rw[iO];omega,by rw[iO];omega,?_⟩;rw[iO,abh];refine bJ (λi m=>∃a:Option L2.R,m=MSt.mk [a] [(ordK h.ss.length h.ss.length).map lnD,(aav i).map λk=>(Mv.done k).d] 2) ⟨none,rfl⟩ ?_ ?_
 .rintro i d m e g ⟨a,rfl⟩ D1 hD1 hR1;let⟨L,rfl⟩:=df e;ext s;refine⟨_,rfl,by rw[aas,iO,aa2];omega,hD1 _ ⟨~~~(.int (0+(i:Int))),?_⟩⟩;rw[ab6,aaJ,show(0:Int)+(i:Int)=((i:Nat):Int) by omega];rfl
 intro m g ⟨U,rfl⟩;rw[aP];ext x;refine BP (a:=(ordK h.ss.length h.ss.length).map λo=>(Mv.come o).d) (b:=(aav h.ss.length).map λk=>(Mv.done k).d) (by rw[iO,iO,aa2,aas];omega) ?_;ext d;refine LS (k:=1) (a:=(ordK h.ss.length h.ss.length).map (λo=>(Mv.come o).d)++(aav h.ss.length).map λk=>(Mv.done k).d) rfl (by rw[aam,iO,iO,aa2,aas];simp;omega) ?_;rw[TW]at k;ext s;exact k
theorem vj(T:Bl K mg)(D:DefM K mg "_law_both" jN ["_law_hall","_law_one","_law_other","_law_triple","_law_move"])(G:FnM P w K mg base "_law_step" 4 4 JT)(a:FnM P w K mg base "_law_kept" 1 2 oA):FnM P w K mg base "_law_both" 5 5 JR:=by
 refine aH D ef rfl (nN:=9) rfl ⋯ ?ar λq A outer s H E f c=>⟨_,(mz' (cN (mf' G c⁻¹ (mc' (mv' 0) (mc' (mv' 1) (mc' (ae (mv' 3) mh') (mc' (mv' 4) mn'))))) (bo (n:=2) (ac (ap 5 ef.nd) (ac (ap 6 ef.nd) aU))))
   (mz' (cN (mf' G c⁻¹ (mc' (mv' 0) (mc' (mv' 2) (mc' (ae (mv' 3) mh') (mc' (mv' 4) mn'))))) (bo (n:=2) (ac (ap 7 ef.nd) (ac (ap 8 ef.nd) aU))))
   (aa (af (am (mc' (mf' a c⁻¹ (mc' (mv' 0) (mc' (mv' 5) mn'))) (mc' (mf' a c⁻¹ (mc' (mv' 0) (mc' (mv' 7) mn'))) (mc' (ag AU (ag aK (ae (mv' 3) mh') (cu nW 'b' T.int w5 (mc' (dB (bQ c.units) (mv' 8) ak (aC _)) mn'))) (cu nW 'b' T.int w5 (mc' (dB (bQ c.units) (mv' 6) ak (aC _)) mn'))) mn')))))))),?_⟩
 case ar=>intro p v ⟨h,r1,j,t,m,rfl,_⟩;rfl
 intro p v x ⟨h,r1,j,t,m,rfl,b,g,d,n1,n2,o,L,i,k⟩;have n4:=b.n4;have u:=gl b g (t:=0) ⟨o,λz=>(n1 z).elim,⋯⟩ i;have S:=gl b d (t:=0) ⟨L,λz=>(n2 z).elim,⋯⟩ i;refine ah (MSt.mk [~~~h.d,~~~r1.d,~~~j.d,~~~(.tuple [lnD t.1,lnD t.2.1,.int t.2.2]),~~~m.d,none,none,none,none] [] 0) rfl ?_;ext s;refine⟨h,r1,t.1,m,rfl,b,g,n1,o,i,?_⟩;ext n;unfold lwD;ext s
 .rfl
 ext s;refine⟨h,j,t.2.1,m,rfl,b,d,n2,L,i,?_⟩;ext n;unfold lwD;ext s
 .rfl
 ext s;refine⟨h,_,rfl,b,by have:=u.ln.1;omega,?_⟩;ext x;refine⟨h,_,rfl,b,by have:=S.ln.1;omega,?_⟩;ext x;have e:∀w:Wd,(if decide (w.s = "away")=true then(1:Int)else 0)=aw w:=λw=>by cases w<;>ext K
 rw[e,e];exact k
theorem kh(T:Bl K mg)(D:DefM K mg "_law_alike_hall" dF ["_law_tape_here","_law_most"])(G:FnM P w K mg base "_law_draw" 1 2 rF)(b:FnM P w K mg base "_law_frac" 1 2 Wj)(a:FnM P w K mg base "_law_all_lines" 1 1 mi):FnM P w K mg base "_law_alike_hall" 4 2 xU:=by
 refine aH D bg rfl (nN:=7) rfl ⋯ ?ar λQ A outer s H E f o=>⟨_,(mz' (au 2 bg.nd (ae (cb (mc' mh' (mc' mh' (mc' mh' (mc' mh' (mc' mh' (mc' mh' mn'))))))) (mf' G o⁻¹ (mc' (mv' 0) (mc' mh' mn')))))
   (mz' (au 3 bg.nd (ag aK mh' (mf' G o⁻¹ (mc' (mv' 0) (mc' mh' mn')))))
   (mz' (fH (ay oy (aE bv 'b' T.len dG (mc' (mf' a o⁻¹ (mc' (dg (ag bC (cb (mc' (mv' 3) mn')) (mv' 2))) mn')) mn')) (mv' 1) (aC _)) (aa (au 3 bg.nd (ag AU (mv' 3) mh'))) aaz)
   (mz' (au 4 bg.nd (ag aK mh' (mf' G o⁻¹ (mc' (mv' 0) (mc' mh' mn')))))
   (mz' (au 5 bg.nd (ag aK mh' (mf' G o⁻¹ (mc' (mv' 0) (mc' mh' mn')))))
   (mz' (au 6 bg.nd (ag aK (ag aK (mv' 5) (ag bC (mv' 2) (mv' 4))) (ae (cb (mc' mh' (mc' mh' (mc' mh' mn')))) (mf' G o⁻¹ (mc' (mv' 0) (mc' mh' mn'))))))
   (aa (af (am (mc' (mf' b o⁻¹ (mc' (mv' 5) (mc' (mv' 6) mn'))) (mc' (ag bC (am (mc' (am (mc' (mf' b o⁻¹ (mc' (mv' 4) (mc' (mv' 6) mn'))) (mc' (mv' 3) mn'))) mn')) (mv' 2)) (mc' cQ mn')))))))))))),?_⟩
 case ar=>intro C U ⟨t,c,rfl,_⟩;rfl
 intro C U hl ⟨t,c,rfl,g,Y,k⟩;refine ah (MSt.mk [some (.at 0 []),~~~(.int 27),none,none,none,none,none] [[t]] 1) rfl ?_;ext s;refine⟨t,_,_,rfl,g,∅,⋯,⋯,λq t d i g=>?_⟩;let⟨n,y,j,J⟩:∃n:Nat,1≤n/\n≤4/\atI [abj 2,.int 3,.int 2,.int 1,.int 4,.int 2] q=some (.int (n:Int)):=by
  rcases (show q=0\/q=1\/q=2\/q=3\/q=4\/q=5 by omega)with rfl|rfl|rfl|rfl|rfl|rfl
  .exact⟨2,⋯,⋯,rfl⟩
  .exact⟨3,⋯,⋯,rfl⟩
  .exact⟨2,⋯,⋯,rfl⟩
  .exact⟨1,⋯,⋯,rfl⟩
  .exact⟨4,⋯,⋯,rfl⟩
  .exact⟨2,⋯,⋯,rfl⟩
 ext n;refine qK J ?_;ext s;refine⟨t,_,_,rfl,g,∅,⋯,⋯,λq t d i g=>?_⟩;let⟨r,rfl⟩:=acl d;ext x;refine kB (λz m=>∃r:Nat,m=MSt.mk [some (.at 0 []),~~~(.int 27),~~~(.int (n:Int)),~~~(.int (r:Int)),none,none,none] [[t]] 1/\1≤r/\r≤4/\z=r) (1+r) ⟨1+r,by rw[show(1:Int)+(r:Int)=((1+r:Nat):Int) by omega];rfl,∅,∅,rfl⟩ ?_;intro z m R ⟨r,rfl,r1,I,e⟩;subst e;ext s;refine UM ∅ ∅ (by simp;omega) ?_;have S:(aaj (n:Int).toNat [abj (z:Int)]).flatten=(aaj n z).map λ(x:Nat)=>.int (x:Int):=by rw[abh,ad5,uY]
 dsimp only;rw[S];ext s;refine⟨aaj n z,rfl,by rw[aeq];exact j,λx N=>by rw[adV N];omega,?_⟩;ext x;rw[iO];refine bi (λB=>?_) (λB=>?_)
 .have r2:2≤z:=by
   have key:∀n≤4,(M3.allR (aaj n 1)).length≤16:=by ext K
   rcases (show z=1\/2≤z by omega)with h|h
   .rw[h]at B;have:=key n j;omega
   .exact h
  ext s;exact⟨z-1,∅,z-1,by rw[show(z:Int)-1=((z-1:Nat):Int) by omega];rfl,∅,∅,rfl⟩
 .have l27:(M3.allR (aaj n z)).length≤27:=by omega
  ext s;refine⟨t,_,_,rfl,g,∅,⋯,⋯,λq t d i g=>?_⟩;let⟨p,rfl⟩:=acl d;ext x;refine⟨t,_,_,rfl,g,∅,⋯,⋯,λq t d i g=>?_⟩;let⟨co,rfl⟩:=acl d;ext x;refine⟨t,_,_,rfl,g,∅,⋯,⋯,λq t d i g=>?_⟩;ext n;let⟨ex,O,X⟩:∃ex:Nat,atI [abj 0,.int 1,.int 7] q=some (.int (ex:Int))/\ex≤7:=by
   rcases (show q=0\/q=1\/q=2 by omega)with rfl|rfl|rfl
   .exact⟨0,rfl,⋯⟩
   .exact⟨1,rfl,⋯⟩
   .exact⟨7,rfl,⋯⟩
  refine qK O ?_;ext s;have F:n*(1+p)≤4*3:=acH j ∅;have V:(1:Int)+(co:Int)+(n:Int)*(1+(p:Int))+(ex:Int)=((1+co+n*(1+p)+ex:Nat):Int):=by
   rw[ad1,ad1,adc];rfl
  rw[V,show(1:Int)+(co:Int)=((1+co:Nat):Int) by omega,show(1:Int)+(p:Int)=((1+p:Nat):Int) by omega];generalize Z:1+co+n*(1+p)+ex=W;have M:0<W:=by omega
  have L:W<100:=by omega
  refine⟨_,_,rfl,∅,∅,∅,?_⟩;ext x;refine⟨_,_,rfl,∅,∅,∅,?_⟩;ext x;refine Fu ∅ ∅ (by simp;omega) ?_;ext s;have v:=FJ (p:=1+co) (wh:=W) ∅ ∅ ∅ ∅;have u:=FJ (p:=1+p) (wh:=W) ∅ ∅ ∅ ∅;have A:Alk ⟨(1+co)/(1+co).gcd W,W/(1+co).gcd W,aaj n (srvK W (1+p,z)),false⟩ (srvK W (1+p,z)):=
   ⟨⟨v.1,v.2.1,v.2.2.1,v.2.2.2,by simp;exact y,by simp;exact j,λt g=>by rw[adV g];exact⟨u.1,u.2.1,u.2.2.1,u.2.2.2,r1,by show z≤6;omega⟩⟩,rfl,λt g=>adV g⟩
  have e:=k _ _ t (O4 A I (by
   rw[show Hall.rs ⟨(1+co)/(1+co).gcd W,W/(1+co).gcd W,aaj n (srvK W (1+p,z)),false⟩=aaj n z by unfold Hall.rs;rw[ad5];rfl];exact l27)) (g.mono ∅)
  unfold Hall.d at e;dsimp only at e;rw[ad5,<-uY]at e;exact e
theorem lU(T:Bl K mg)(D:DefM K mg "_law_told_rule" da ["_law_tape_here","_law_hall"])(g:FnM P w K mg base "_law_draw" 1 2 rF)(G:FnM P w K mg base "_law_all_lines" 1 1 mi):FnM P w K mg base "_law_told_rule" 3 2 zY:=by
 refine aH D ce rfl (nN:=6) rfl ⋯ ?ar λY A outer s H E f u=>⟨_,(mz' (au 2 ce.nd (mf' g u⁻¹ (mc' (mv' 0) (mc' mh' mn'))))
   (mz' (au 3 ce.nd (cb mn'))
   (mz' (bU (bV (dg (mf' G u⁻¹ (mc' (dg (cE (own:=["_law_speed","_law_room"]) (fr:=[]) (ps:=[]) (sc:=(ab da)) 'e' (bV (ae (mv' 1) mh')) (λ_ _ _ _ _=>(bo (n:=2) (ac (ap 0 (show abC ((["_law_speed","_law_room"]:List Str)++([]:List Str))from by ext K)) (ac (ap 1 (show abC ((["_law_speed","_law_room"]:List Str)++([]:List Str))from by ext K)) aU)))) (λ_ _ _ _ _=>cZ) (λ_ _ _ _ _=>(mv' 1)))) mn')))) (ap 4 ce.nd) (mz' (au 5 ce.nd (lr aeb afV (uc u.units) (cu zk 'b' T.list Mx (mc' (mv' 4) mn')) (mc' (aE (fQ rfl) 'b' T.max ul (mc' (mv' 4) mn')) mn')))
   (aa (dj (lr acQ acR qt (mv' 3) (mc' (ae (cb (mc' (mf' g u⁻¹ (mc' (mv' 0) (mc' (aE bv 'b' T.len dG (mc' (mv' 4) mn')) mn'))) (mc' mh' (mc' (mv' 5) mn')))) (mv' 2)) mn'))))) aaz)
   (aa (af (am (mc' ak (mc' (cu e9 'b' T.tuple gg (mc' (mv' 3) mn')) mn')))))))),?_⟩
 case ar=>intro Q Kc ⟨t,c,h,rfl,_⟩;rfl
 intro Q Kc hl ⟨t,c,h,rfl,o,hc,B,k⟩;have n1:=B.n1;have n4:=B.n4;refine ah (MSt.mk [some (.at 0 []),~~~h.d,none,none,none,none] [[t]] 1) rfl ?_;ext s;refine⟨t,_,c,rfl,o,∅,⋯,⋯,λw t hw0 Z o=>?_⟩;ext x;refine eF ?_;ext x;refine fv (λi m=>∃a b,m=MSt.mk [a,b] [[t],[],(h.rs.take i).map λ(r:Nat)=>.int (r:Int)] 3) ⟨none,none,rfl⟩ ?_ ?_
 .rintro i d m e n ⟨a,b,rfl⟩;let⟨s,R,rfl,L⟩:=gmap e;ext e
  .rfl
  ext s;refine⟨_,rfl,by rw[aas,iO,aaM];omega,~~~(.tuple [.int s.a,.int s.b]),~~~(.int s.r),?_⟩;rw[aaX,Hall.rs_get R,aaJ];rfl
 intro m n ⟨a,b,rfl⟩;have J:=h.rsl;rw[iO,<-J,aaE];ext x;have W:(M3.allR h.rs).length≤2401:=yP (by rw[h.rsl];exact n4) B.r6;refine⟨h.rs,rfl,∅,B.r6,?_⟩;ext x;refine bJ (λi m=>∃(a b:Option L2.R) (t:aD) (ps:List Nat),m=MSt.mk [some (.at 0 []),~~~h.d,~~~(.int w),some (.obj 1),a,b] [[t],natD ps] 1/\TapeK (c+1+i) t/\ps.length=i/\∀p∈ps,p<h.ss.length) ⟨none,none,t,[],rfl,o,rfl,λ_ z=>by cases z⟩ ?_ ?_
 .rintro i d m e n ⟨a,b,t,ps,rfl,o,hpl,hps⟩ D1 hD1 hR1;let⟨l,U,rfl,L⟩:=gmap e;have V:=Ld U;have O:=M3.allR_len V;dsimp only[lnD];ext s;have q:l≠[]:=λz=>by rw[z]at O;simp at O;omega
  have N:=iG q;have s1:=gC N;refine uU rfl (gu l) (λz=>q (aeT.mp z)) λx M I=>?_;have ex:x=(maxN l:Int):=by
   let⟨y,C,rfl⟩:=aar.mp M;have:=I _ (aar.mpr ⟨_,N,rfl⟩);have:=rJ _ C;omega
  rw[ex];ext s;refine Bc (j:=idx l (maxN l)) (k':=0) rfl (cp _) (bz l) ⋯ (bm s1.1) (by rw[bT];exact decide_eq_true rfl) (λi y L I=>?_) ?_
  .obtain⟨z,ez,rfl,_⟩:=gmap I;rw[bT];exact decide_eq_false (s1.2 i z L ez)
  ext s;rw[aQ];refine⟨t,_,_,rfl,o,∅,∅,∅,λp t F hp1 o=>?_⟩;let⟨p,rfl⟩:=acl F;ext x;let⟨v,X,S⟩:∃v:Nat,atI [abj (p:Int),.int 0,.int (idx l (maxN l):Int)] w=some (.int (v:Int))/\v<h.ss.length:=by
   have:=(AD.mp s1.1).1;rcases (show w=0\/w=1\/w=2 by omega)with rfl|rfl|rfl
   .exact⟨p,rfl,∅⟩
   .exact⟨0,rfl,∅⟩
   .exact⟨_,rfl,∅⟩
  refine qK X ?_;ext s;exact⟨_,rfl,by rw[aas,aQ];omega,hD1 _ ⟨_,_,t,ps++[v],by rw[zu];rfl,o,by rw[aam,hpl];rfl,λx M=>(aaR.mp M).elim (hps x) λz=>by rw[aaf.mp z];exact S⟩⟩
 .rintro m n ⟨a,b,t,ps,rfl,o,hpl,hps⟩;rw[iO]at o hpl;ext x;exact k ps t ⟨hpl,hps⟩ (o.mono ∅)
theorem nr(T:Bl K mg)(D:DefM K mg "_law_is_never" fz ["_law_hall","_law_one","_law_other"])(a:FnM P w K mg base "never_worse" 10 3 vD)(b:FnM P w K mg base "lets_never" 8 4 BI):FnM P w K mg base "_law_is_never" 11 3 FI:=by
 refine aH D ii rfl (nN:=4) rfl ⋯ ?ar λj A outer s H E f d=>⟨_,(mz' (au 3 ii.nd (mf' a d⁻¹ (mc' (mv' 0) (mc' (mv' 1) (mc' (mv' 2) mn')))))
   (aa (af (jQ (dB (bQ d.units) (ae (mv' 3) mh') ak (aC _)) (kz (dB O6 (mf' b d⁻¹ (mc' (mv' 0) (mc' (mv' 1) (mc' (mv' 2) (mc' (ae (mv' 3) mh') mn'))))) cQ (aC _))))))),?_⟩
 case ar=>intro g n ⟨h,s,r1,c,rfl,_⟩;rfl
 intro g n p ⟨h,s,r1,c,rfl,A,G,S,k⟩;refine ah (MSt.mk [~~~h.d,~~~r1.d,~~~c.d,none] [] 0) rfl ?_;ext s;refine⟨h,r1,c,rfl,G,by have:=A.l;omega,A.n,λR m e o t=>?_,λZ q N X i=>?_⟩
 .rw[S R m]at e;cases e
 ext x;rw[if_pos (hc:=by ext K)];ext s;refine⟨h,r1,c,Z,rfl,G,N,X,i,?_⟩;ext x;exact k
theorem pJ(T:Bl K mg)(D:DefM K mg "_law_as_many" gz ["_law_tape_here","_law_hall","_law_one","_law_other"])(n:FnM P w K mg base "_law_moves" 1 1 nG)(g:FnM P w K mg base "_law_draw" 1 2 rF)(o:FnM P w K mg base "_law_both" 5 5 JR):FnM P w K mg base "_law_as_many" 6 4 xY:=by
 refine aH D ci rfl (nN:=8) rfl ⋯ ?ar λcdv A outer s H E f u=>⟨_,(mz' (au 4 ci.nd (mf' n u⁻¹ (mc' (mv' 1) mn')))
   (mz' (bU (cw 'b' T.range (mc' mh' mn')) (ap 5 ci.nd) (mz' (au 6 ci.nd (am (mc' (ag bC (am (mc' mh' mn')) (aE bv 'b' T.len dG (mc' (ae (mv' 1) mh') mn'))) (mc' (ag bC (am (mc' mh' mn')) (aE bv 'b' T.len dG (mc' (ae (mv' 1) mh') mn'))) (mc' mh' mn')))))
   (aa (bU (cw 'b' T.range (mc' (mf' g u⁻¹ (mc' (mv' 0) (mc' mh' mn'))) mn')) (ap 7 ci.nd) (mz' (au 6 ci.nd (mf' o u⁻¹ (mc' (mv' 1) (mc' (mv' 2) (mc' (mv' 3) (mc' (mv' 6) (mc' (ae (mv' 4) (mf' g u⁻¹ (mc' (mv' 0) (mc' (aE bv 'b' T.len dG (mc' (mv' 4) mn')) mn')))) mn')))))))
   (aa (aI (EW.pt (jc (ay (t7 u.units) (ae (mv' 6) mh') mh' (aC _)) (ij (ay (t7 u.units) (aE (ip rfl) 'b' T.sum xh (mc' (ae (mv' 6) mh') mn')) (aE (ip rfl) 'b' T.sum xh (mc' (ae (mv' 6) mh') mn')) (aC _))))) (aa (af cQ)) aq))) aaz))) aaz)
   (aa (af cQ)))),?_⟩
 case ar=>intro Q Kc ⟨t,c,h,r1,r2,rfl,_⟩;rfl
 intro Q Kc hl ⟨t,c,h,r1,r2,rfl,p,hc,G,Y,S,k⟩;have v:=G.o;have n4:=v.n4;refine ah (MSt.mk [some (.at 0 []),~~~h.d,~~~r1.d,~~~r2.d,none,none,none,none] [[t]] 1) rfl ?_;ext s;refine⟨h,rfl,v,?_⟩;ext n;refine eF ?_;ext x;refine⟨⋯,⋯,?_⟩;let⟨ml1,O⟩:=ve v;have C:∀{m:MSt}{Kr:L2.R->Prop},Kr (.imm (lnD (zer h)))->za (L2.R.imm (abT ((λx=>abj 0::x) []))) (L2.R.imm (abj ↑(List.map Srv.d h.ss).length)) m Kr:=λ{m Kr} q=>by
  rw[iO];refine Fu ∅ ∅ (by simp;omega) ?_;rw[show(abT (aaj (h.ss.length:Int).toNat [abj 0]).flatten)=lnD (zer h) by
   rw[abh,Jx];exact congrArg _ (Gh _ 0)]
  exact q
 refine bJ (λi m=>∃(a b d:Option L2.R) (t:aD),m=MSt.mk [some (.at 0 []),~~~h.d,~~~r1.d,~~~r2.d,some (.obj 1),a,b,d] [[t],(mvs h).map Mv.d] 1/\TapeK (c+50*i) t) ⟨none,none,none,t,rfl,p⟩ ?_ ?_
 .rintro i d m e hnp ⟨a,b,d',t,rfl,p⟩ D1 hD1 hR1;let⟨Z,rfl⟩:=df e;have U:i<3:=Z;ext s;refine C ?_;ext s;refine C ?_;ext s;refine⟨t,_,_,rfl,p,∅,⋯,⋯,λq t hq0 V p=>?_⟩;ext x;refine⟨∅,∅,?_⟩;refine bJ (λj m=>∃(d:Option L2.R) (t:aD) (R:List Mv),m=MSt.mk [some (.at 0 []),~~~h.d,~~~r1.d,~~~r2.d,some (.obj 1),~~~(.int (0+(i:Int))),~~~(trD (wlk h r1 r2 R)),d] [[t],(mvs h).map Mv.d] 1/\TapeK (c+50*i+1+j) t/\RunK h R) ⟨d',t,[],rfl,p,λ_ z=>by cases z⟩ ?_ ?_
  .rintro j d m e hnp ⟨d',t,R,rfl,p,kR⟩ D2 hD2 hR2;let⟨hj,rfl⟩:=df e;have M:j<41:=by omega
   ext s;rw[iO];refine⟨t,_,_,rfl,p,∅,∅,∅,λx t B W p=>?_⟩;ext x;let⟨x,rfl⟩:=acl B;have hx:x<(mvs h).length:=by omega
   let⟨mv,I⟩:∃mv,(mvs h)[x]?=some mv:=⟨_,lD hx⟩;have N:=Ld I;have y:=kR.snoc N;have L:=n9 v G.k1 G.k2 G.n1 G.n2 (Dt (r1:=r1) (r2:=r2) kR);refine FV rfl (bh (by rw[aah,I];rfl)) ?_;ext s;refine⟨h,r1,r2,wlk h r1 r2 R,mv,rfl,v,G.k1,G.k2,G.n1,G.n2,L.1,L.2,tU v mv N,?_⟩;ext n;rw[<-iQ];let⟨F,J⟩:=Cw Y S y;have go:∀{d:Option L2.R},D2.nx (MSt.mk [some (.at 0 []),~~~h.d,~~~r1.d,~~~r2.d,some (.obj 1),~~~(.int (0+(i:Int))),~~~(trD (wlk h r1 r2 (R++[mv]))),d] [[t],(mvs h).map Mv.d] 1):=hD2 _ ⟨_,t,R++[mv],rfl,p,y⟩;generalize wlk h r1 r2 (R++[mv])=T at *;let⟨X,ty,td⟩:=T;dsimp only[trD]at F J go⊢;subst F;ext s;rw[if_neg (hnc:=by decide)];ext s;refine xu rfl (gu X) ?_;rw[mF];ext s;refine xu rfl (gu ty) ?_;rw[mF,J];ext s;rw[if_neg (hnc:=by simp)];ext s;exact go
  .rintro m hnp ⟨d',t,R,rfl,p,kR⟩;rw[aP]at p;exact hD1 _ ⟨_,_,_,t,rfl,p.mono ∅⟩
 .rintro m hnp ⟨a,b,d',t,rfl,p⟩;ext s;exact k t (p.mono (by rw[aP];omega))
theorem Yo(T:Bl K mg){O:Addr}{fd:ab0}(F:Fun K "law" "law" slaw O fd)(q:FnM P w K mg base "_law_tape" 1 1 z6)(c:FnM P w K mg base "_law_alike_hall" 4 2 xU)(g:FnM P w K mg base "_law_told_rule" 3 2 zY)(a:FnM P w K mg base "_law_is_never" 11 3 FI)(p:FnM P w K mg base "never_worse" 10 3 vD)(o:FnM P w K mg base "_law_as_many" 6 4 xY):FnOk P w K mg base CX0 12 O fd ["_law_script"] (spOf ⟨K,w⟩ 1 IP):=by
 refine OT F uX rfl (nN:=7) rfl ⋯ λU A outer s H E f u=>⟨_,(mz' (au 1 uX.nd (mf' q u⁻¹ (mc' (mv' 0) mn')))
   (mz' (bU (cw 'b' T.range (mc' mh' mn')) (ap 2 uX.nd) (mz' (au 3 uX.nd (mf' c u⁻¹ (mc' (mv' 1) (mc' mh' mn'))))
   (mz' (au 4 uX.nd (mf' g u⁻¹ (mc' (mv' 1) (mc' (mv' 3) mn'))))
   (mz' (bU (bV (dg (cb (mc' (am (mc' ak mn')) (mc' (am (mc' ak mn')) (mc' (am (mc' ak mn')) (mc' (mv' 4) mn'))))))) (ap 5 uX.nd) (aa (aI (EW.pt (jc (cA (bw (mf' a u⁻¹ (mc' (mv' 3) (mc' (am (mc' ak mn')) (mc' (mv' 5) mn')))))) (ij (cA (bw (mf' a u⁻¹ (mc' (mv' 3) (mc' (mv' 5) (mc' (mv' 5) mn'))))))))) (aa (af cQ)) aq)) aaz)
   (mz' (aI (cA (bw (mf' a u⁻¹ (mc' (mv' 3) (mc' (am (mc' ak mn')) (mc' (am (mc' ak mn')) mn')))))) (aa (af cQ)) aq)
   (aa (bU (bV (dg (cb (mc' (am (mc' (am (mc' ak mn')) (mc' (am (mc' ak mn')) mn'))) (mc' (am (mc' (mv' 4) (mc' (am (mc' ak mn')) mn'))) mn'))))) (bo (n:=2) (ac (ap 6 uX.nd) (ac (ap 5 uX.nd) aU))) (aa (aI (EW.pt (ji (ay (bQ u.units) (ae (mf' p u⁻¹ (mc' (mv' 3) (mc' (mv' 6) (mc' (mv' 5) mn')))) mh') ak (aC _)) (ir (cA (bw (mf' o u⁻¹ (mc' (mv' 1) (mc' (mv' 3) (mc' (mv' 6) (mc' (mv' 5) mn')))))))))) (aa (af cQ)) aq)) aaz)))))) aaz)
   (aa (af cQ)))),?_⟩
 intro V Kc hl ⟨ns,rfl,y,k⟩;refine ah (MSt.mk [~~~(.list (ns.map .int)),none,none,none,none,none,none] [] 0) rfl ?_;ext s;refine⟨ns,rfl,y,λt v=>?_⟩;ext n;refine xZ ?_;ext x;refine⟨⋯,⋯,?_⟩;refine bJ (λi m=>∃(a2 J L I D:Option L2.R) (t:aD),m=MSt.mk [~~~(.list (ns.map .int)),some (.at 0 []),a2,J,L,I,D] [[t]] 0/\TapeK (10000*i) t) ⟨none,none,none,none,none,t,rfl,v⟩ ?_ ?_
 .rintro i d m e x ⟨a2,J,L,I,D,t,rfl,v⟩ D1 hD1 hR1;let⟨Q,rfl⟩:=df e;have hi2:i<2:=Q;ext s;refine⟨t,_,rfl,v,∅,λh s t B v=>?_⟩;have C:=B.a.ok;ext x;refine⟨t,_,h,rfl,v,∅,C,λz t M v=>?_⟩;ext x;have np:∀{z},Rule.told z≠.turns:=(nofun);refine bJ (λj m=>∃b:Option L2.R,m=MSt.mk [~~~(.list (ns.map .int)),some (.at 0 []),~~~(.int (0+(i:Int))),~~~h.d,some (.imm (Rule.told z).d),b,D] [[t]] 0) ⟨I,rfl⟩ ?_ ?_
  .rintro j d m e x ⟨b,rfl⟩ D2 hD2 hR2;let⟨r,rfl,u,y⟩:∃r:Rule,d=r.d/\r.Ok h/\r≠.turns:=by
    have:=Ld e;simp only[aag,abe,or_false]at this;rcases this with rfl|rfl|rfl|rfl
    .exact⟨.random,rfl,trivial,(nofun)⟩
    .exact⟨.two,rfl,trivial,(nofun)⟩
    .exact⟨.quick,rfl,trivial,(nofun)⟩
    .exact⟨.told z,rfl,M,(nofun)⟩
   ext s;refine⟨h,s,.least,r,rfl,B,⟨C,trivial,u,(nofun),y⟩,o6 B.a (uK B.a u y),?_⟩;ext x;rw[if_neg (hnc:=by decide)];ext s;refine⟨h,s,r,r,rfl,B,⟨C,u,u,y,y⟩,.rfl',?_⟩;ext x;rw[if_neg (hnc:=by decide)];ext s;exact hD2 _ ⟨_,rfl⟩
  intro m x ⟨b,rfl⟩;ext s;refine⟨h,s,.two,.random,rfl,B,⟨C,trivial,trivial,(nofun),(nofun)⟩,o6 B.a (OZ B.a),?_⟩;ext x;rw[if_neg (hnc:=by decide)];ext s;refine bJ (λj m=>∃b d:Option L2.R,∃t:aD,m=MSt.mk [~~~(.list (ns.map .int)),some (.at 0 []),~~~(.int (0+(i:Int))),~~~h.d,some (.imm (Rule.told z).d),b,d] [[t]] 0/\TapeK (10000*i+5+3000+200*j) t) ⟨b,D,t,rfl,v⟩ ?_ ?_
  .rintro j d m e x ⟨b,d',t,rfl,v⟩ D2 hD2 hR2;have hj:j<2:=(AD.mp e).1;let⟨r,rfl,u,y⟩:∃r:Rule,d = .tuple [r.d,Rule.least.d]/\r.Ok h/\r≠.turns:=by
    have:=Ld e;simp only[aag,abe,or_false]at this;rcases this with rfl|rfl
    .exact⟨.quick,rfl,trivial,(nofun)⟩
    .exact⟨.told z,rfl,M,(nofun)⟩
   have G:GoodR h r .least:=⟨C,u,trivial,y,(nofun)⟩;ext s
   .rfl
   ext s;refine⟨h,r,.least,rfl,G,by have:=B.l;omega,B.n,λR kR Y W lR=>?_,λZ S N X lZ=>?_⟩
   .ext x;rw[if_neg (hnc:=by ext K)];ext s;exact hD2 _ ⟨_,_,t,rfl,v.mono ∅⟩
   .ext x;rw[if_pos (hc:=by ext K)];ext s;refine⟨t,_,h,r,.least,rfl,v,∅,G,S,o6 B.a (uK B.a u y),λt v=>?_⟩;ext x;rw[if_neg (hnc:=by decide)];ext s;exact hD2 _ ⟨_,_,t,rfl,v.mono ∅⟩
  .rintro m x ⟨b,d',t,rfl,v⟩;exact hD1 _ ⟨_,_,_,_,_,t,rfl,v.mono (by simp;omega)⟩
 .rintro m x ⟨a2,J,L,I,D,t,rfl,v⟩;ext s;exact k
end
def ar_{us:List Ad}{n:Nat}(b:us.length=n):us=(aav n).map λi=>us.getD i .none:=ahp (by rw[b,iO,aa2]) λi a c=>by
 rw[List.getElem_map,List.getElem_range,aac,lD a];rfl
local macro_rules | `(tactic| walk_at "dm") => `(tactic| exact λf fd F => F.binds λ_ _ _ _ _ _ us hl => by rw [ar_ hl]; rfl)
def Vg{l:agh}{w:World}{K:aae}{h:aaZ}{mg:Str->Option Ad}{fa:Addr}(X:K.In h)(G:h.Ns aaw mg)(hfa:mg "law" = some (.ref fa))(dis_whole:DefK K "is_whole" nh)(H:DefK K "is_whole_within" dE)(dis_tuple_of:DefK K "is_tuple_of" ig)(dis_less:DefK K "is_less" sd)(dis_alike:DefK K "is_alike" o4)(dis_lines:DefK K "is_lines" mZ)(R:DefK K "place_of_lines" d8)(L:DefK K "first_shortest" d9)(dwait_at:DefK K "wait_at" qV)(Y:DefK K "first_quickest" fe)(dsent_to:DefK K "sent_to" qL)(dfirst_stand:DefK K "first_stand" gW)(dall_orders:DefK K "all_orders" gf)(dall_moves:DefK K "all_moves" fI)(dwith_more:DefK K "with_more" jV)(dcome_to:DefK K "come_to" qX)(ddone_at:DefK K "done_at" sk)(dnext_shift:DefK K "next_shift" jp)(dsettled:DefK K "settled" sg)(dturn_behind:DefK K "turn_behind" ie)(dline_of:DefK K "line_of" qM)(dmoved_on:DefK K "moved_on" og)(dkept_lines:DefK K "kept_lines" je)(dis_kept:DefK K "is_kept" rf)(dis_triple:DefK K "is_triple" jX)(U:DefK K "is_never_paper" fg)(drefuse_turns:DefK K "refuse_turns" gq)(dfirst_triple:DefK K "first_triple" gc)(dkept_step:DefK K "kept_step" ku)(dtriple_behind:DefK K "triple_behind" fC)(dis_worse:DefK K "is_worse" oj)(dleast_leads:DefK K "least_leads" im)(P:DefK K "has_all_behind" d6)(dlets_never:DefK K "lets_never" jj)(y:MthD K "Search" "steps_of" "Search.steps_of" bt ["self","side","lines"])(d:MthD K "Search" "triples_behind" "Search.triples_behind" aG ["self","triple"])(dSearch_met:MthD K "Search" "met" "Search.met" dh ["self","triple","ahead","move"])(dSearch_run_to:MthD K "Search" "run_to" "Search.run_to" cj ["self","at"])(p:MthD K "Search" "worse_run" "Search.worse_run" bG ["self"])(dSearch_paper:MthD K "Search" "paper" "Search.paper" ca ["self"])(D:IniDK K "Search" "Search.__init__" bZ ["self","hall","one","other"])(dnever_worse:DefK K "never_worse" gQ)(d_law_tape:DefK K "_law_tape" j8)(d_law_draw:DefK K "_law_draw" j1)(d_law_frac:DefK K "_law_frac" kM)(I:DefK K "_law_all_lines" c6)(d_law_sent:DefK K "_law_sent" iI)(d_law_put:DefK K "_law_put" oU)(d_law_step:DefK K "_law_step" kO)(d_law_kept:DefK K "_law_kept" iu)(d_law_moves:DefK K "_law_moves" di)(d_law_both:DefK K "_law_both" jN)(E:DefK K "_law_alike_hall" dF)(Q:DefK K "_law_told_rule" da)(d_law_is_never:DefK K "_law_is_never" fz)(d_law_as_many:DefK K "_law_as_many" gz)(dlaw:DefK K "law" slaw)(zlen:aaN K aaw "len" = some none)(zabs:aaN K aaw "abs" = some none)(zrange:aaN K aaw "range" = some none)(zlist:aaN K aaw "list" = some none)(ztuple:aaN K aaw "tuple" = some none)(zint:aaN K aaw "int" = some none)(zsum:aaN K aaw "sum" = some none)(zmax:aaN K aaw "max" = some none)(zmin:aaN K aaw "min" = some none)(zisinstance:aaN K aaw "isinstance" = some none)(zbool:aaN K aaw "bool" = some none)(zsorted:aaN K aaw "sorted" = some none)(zzip:aaN K aaw "zip" = some none)(zenumerate:aaN K aaw "enumerate" = some none)(zrepr:aaN K aaw "repr" = some none)    (ff_Search_hall:InsF K "Search" "hall")(V:InsF K "Search" "rules")(M:InsF K "Search" "moves")(N:InsF K "Search" "steps")(W:InsF K "Search" "leads")(q:InsF K "Search" "triples")(ff_Search_ways:InsF K "Search" "ways") :
  ∃fd:ab0,(∀(s:GT) (v:Ad),aha s fd ⟨[v],[]⟩ [("_law_script",v)])/\∀base:aaZ,K.In base->base.Ns aaw mg->FnOk l.prog w K mg base CX0 12 fa fd ["_law_script"] (spOf ⟨K,w⟩ 1 IP):=by
 let⟨f,fd,a,F⟩:=dlaw.ex;have e:=hfa.symm.trans (agU X G a);cases e;have T:Bl K mg:=⟨aa3 X G zlen,aa3 X G zabs,aa3 X G zrange,aa3 X G zlist,aa3 X G ztuple,aa3 X G zint,aa3 X G zsum,aa3 X G zmax,aa3 X G zmin,aa3 X G zisinstance,aa3 X G zbool,aa3 X G zsorted,aa3 X G zzip,aa3 X G zenumerate,aa3 X G zrepr,ff_Search_hall,V,M,N,W,q,ff_Search_ways⟩;refine⟨fd,λs v=>?_,λbase _ _=>?_⟩
 .obtain⟨oc,od,kV,doc,pm,an,cdv,ct,osl,rfl,lk,hcd⟩:=F.ex;exact .of_eq rfl
 .have Gis_whole:=@y6 l.prog w K mg base T (dis_whole.m X G 'd');have u:=@j4 l.prog w K mg base T (H.m X G 'd') Gis_whole;have o:=@rQ l.prog w K mg base T (dis_tuple_of.m X G 'd');have Gis_less:=@BR l.prog w K mg base T (dis_less.m X G 'd');have Gis_alike:=@zr l.prog w K mg base T (dis_alike.m X G 'd');have Gis_lines:=@yK l.prog w K mg base T (dis_lines.m X G 'd') o u;have Gplace_of_lines:=@lC l.prog w K mg base T (R.m X G 'd');have J:=@l9 l.prog w K mg base T (L.m X G 'd');have Gwait_at:=@FM l.prog w K mg base T (dwait_at.m X G 'd');have Z:=@lJ l.prog w K mg base T (Y.m X G 'd') Gwait_at Gis_less;have Gsent_to:=@AF l.prog w K mg base T (dsent_to.m X G 'd') J Z Gplace_of_lines;have Gfirst_stand:=@qR l.prog w K mg base T (dfirst_stand.m X G 'd');have Gall_orders:=@um l.prog w K mg base T (dall_orders.m X G 'd');have Gall_moves:=@vd l.prog w K mg base T (dall_moves.m X G 'd') Gall_orders;have j:=@vX l.prog w K mg base T (dwith_more.m X G 'd');have Gcome_to:=@Dg l.prog w K mg base T (dcome_to.m X G 'd') j;have Gdone_at:=@Ce l.prog w K mg base T (ddone_at.m X G 'd') j;have Gnext_shift:=@uL l.prog w K mg base T (dnext_shift.m X G 'd');have Gsettled:=@D7 l.prog w K mg base T (dsettled.m X G 'd') Gnext_shift j;have Gturn_behind:=@su l.prog w K mg base T (dturn_behind.m X G 'd');have Gline_of:=@Cp l.prog w K mg base T (dline_of.m X G 'd') Gsent_to;have Gmoved_on:=@ze l.prog w K mg base T (dmoved_on.m X G 'd') Gline_of Gcome_to Gturn_behind Gdone_at Gsettled;have A:=@sW l.prog w K mg base T (dkept_lines.m X G 'd') Gis_alike;have Gis_kept:=@Cf l.prog w K mg base T (dis_kept.m X G 'd') Gis_lines A;have Gis_triple:=@vC l.prog w K mg base T (dis_triple.m X G 'd') o Gis_kept Gis_whole;have O:=@lu l.prog w K mg base T (U.m X G 'd') Gis_triple;have i:=@p6 l.prog w K mg base T (drefuse_turns.m X G 'd');have m:=@pF l.prog w K mg base T (dfirst_triple.m X G 'd') Gfirst_stand;have Gkept_step:=@wx l.prog w K mg base T (dkept_step.m X G 'd') Gmoved_on A;have g:=@o3 l.prog w K mg base T (dtriple_behind.m X G 'd');have Gis_worse:=@y7 l.prog w K mg base T (dis_worse.m X G 'd');have Gleast_leads:=@qW l.prog w K mg base T (dleast_leads.m X G 'd');have S:=@l6 l.prog w K mg base T (P.m X G 'd') Gall_moves Gkept_step g;have Glets_never:=@ud l.prog w K mg base T (dlets_never.m X G 'd') i O m Gleast_leads Gis_worse S;have C:=@j7 l.prog w K mg base T y Gkept_step;have c:=@gA l.prog w K mg base T d C g;have x:=@t5 l.prog w K mg base T dSearch_met;have GSearch_run_to:=@mD l.prog w K mg base T dSearch_run_to;have t:=@jF l.prog w K mg base T p c Gis_worse GSearch_run_to x;have GSearch_paper:=@pQ l.prog w K mg base T dSearch_paper;have z:=@kQ l.prog w K mg base T (D.m X G) Gall_moves m x;have n:=@re l.prog w K mg base T (dnever_worse.m X G 'd') i z t GSearch_paper;have G_law_tape:=@vV l.prog w K mg base T (d_law_tape.m X G 'd');have k:=@wq l.prog w K mg base T (d_law_draw.m X G 'd');have G_law_frac:=@vx l.prog w K mg base T (d_law_frac.m X G 'd');have b:=@l5 l.prog w K mg base T (I.m X G 'd');have G_law_sent:=@wD l.prog w K mg base T (d_law_sent.m X G 'd') b;have G_law_put:=@yN l.prog w K mg base T (d_law_put.m X G 'd');have G_law_step:=@vG l.prog w K mg base T (d_law_step.m X G 'd') G_law_sent G_law_put;have G_law_kept:=@vf l.prog w K mg base T (d_law_kept.m X G 'd');have G_law_moves:=@uJ l.prog w K mg base T (d_law_moves.m X G 'd');have G_law_both:=@vj l.prog w K mg base T (d_law_both.m X G 'd') G_law_step G_law_kept;have B:=@kh l.prog w K mg base T (E.m X G 'd') k G_law_frac b;have G_law_told_rule:=@lU l.prog w K mg base T (Q.m X G 'd') k b;have G_law_is_never:=@nr l.prog w K mg base T (d_law_is_never.m X G 'd') n Glets_never;have G_law_as_many:=@pJ l.prog w K mg base T (d_law_as_many.m X G 'd') G_law_moves k G_law_both;exact Yo T F G_law_tape B G_law_told_rule G_law_is_never n G_law_as_many
theorem walk{l:agh}{q:aax}{b:List Str}{X:(Str->Option Ad)->aaZ->Prop}{Y:World->aaZ->Prop}{d:DefRec}{K:Params->aae}(g:PyProof.Rows.importsNone q=true)(y:l.most=some 63)(c:d.params.defaults=[])
  (i:∀(w:World) (h:aaZ),Y w h->(K w.params).In h)
  (F:∀(w:World) (mg:Str->Option Ad) (e:Addr) (h:aaZ),(K w.params).In h->h.Ns aaw mg->mg d.name=some (.ref e) ->
   ∃fd:ab0,(∀(s:GT) (u:Ad),aha s fd ⟨[u],[]⟩ [("_law_script",u)])/\∀base:aaZ,(K w.params).In base->base.Ns aaw mg->FnOk l.prog w (K w.params) mg base CX0 12 e fd ["_law_script"] (spOf ⟨K w.params,w⟩ 1 IP)) :
  ahL q b X Y l.row.toRowW d [] (λf vs=>ahI f vs):=
 L2.OX (n:=63) (k:=12) (x:= "_law_script") (CX:=λ_=>CX0) (sp:=λw=>spOf ⟨K w.params,w⟩ 1 IP) g y ⋯ c ⟨rfl,⋯,⋯,rfl⟩ i F
  (λw H a ns j t m=>⟨[.imm (.list (ns.map .int))],[],λr _=>r = .imm (.bool true),rfl,abO,.imm (yZ t m) .nil,⟨ns,rfl,j,rfl⟩,λr o v p k _ rr _=>by cases k;exact jC (show Den ⟨K w.params,w⟩ p (.bool true) v from rr)⟩) λ_ _ _ _ _ z=>z
end K
namespace PySem.W.Fast
def tw9343232441848826070:=0
def tw18194715612347156721:=0
def tw6380667802309429487:=0
def tw14519717721867555618:=0
def tw17659637951169883075:=0
def tw16339373799095343959:=0
def tw16764316720024457426:=0
def tw8265584477364335191:=0
def tw9450689554012954326:=0
def tw13307205628100110178:=0
def tw18318191272702397199:=0
def tw1534574589734945745:=0
def tw250413246451545954:=0
def tw1432195444875135609:=0
def tw12802731909570584014:=0
def tw18354796610075486403:=0
def tw10095345558248404479:=0
def tw11425477305099292047:=0
def tw6001963485802683759:=0
def tw9484319127602677161:=0
def tw7737408660035277274:=0
def tw2521429351204108905:=0
def tw1871332654306380528:=0
def tw4982363105634835940:=0
def tw2659177562679121549:=0
def tw11040304360678445481:=0
def tw1861934267796839837:=0
def tw12696267625046298793:=0
def tw15881309197954700017:=0
def tw7354609404905465426:=0
def tw455328922566828341:=0
def tw4469185649040206702:=0
def tw5391056685714739445:=0
def tw10467668509489829254:=0
def tw10672500544682395326:=0
def tw16241819525052636110:=0
def tw3049204580371426827:=0
def tw12409128632321213797:=0
def tw12363450991683059425:=0
def tw17306672731902824998:=0
def tw13544151533051441497:=0
def tw5485619741992865237:=0
def tw13111485629968883211:=0
def tw1668905336331395676:=0
def tw16491997207206527024:=0
def tw7828747987257092722:=0
def tw4536165764567443383:=0
def tw10823219485367815844:=0
def tw16411606967607209720:=0
def tw1492459943009745040:=0
def tw12813459473991605369:=0
def tw17705562297351899905:=0
def tw6866269738440258826:=0
def tw11860725090831850207:=0
def tw15653766809686154241:=0
def tw6558609565836193187:=0
def tw3814194446907801457:=0
def tw1243274747327233667:=0
def tw4688587302128743835:=0
def tw4473149617248814467:=0
def tw7167925116204304099:=0
def tw16952448502866168124:=0
def tw6277801239192362616:=0
def tw9050396417428458839:=0
def tw4094744845248496209:=0
def tw14382842442324390340:=0
def tw10327806488940502992:=0
def tw5398404642645333676:=0
def tw10171839330776056032:=0
def tw15646295144449960586:=0
def tw13868186032599133106:=0
def tw3410013165306660181:=0
def tw12863281593741415112:=0
def tw7701248940964113285:=0
def tw12969400379127017129:=0
def tw13330534501202609317:=0
def tw16507108169957381802:=0
def tw7000831599339574753:=0
def tw14972004578310797897:=0
def tw11066143410150701019:=0
def tw13687802711212862084:=0
def tw8479385312621244805:=0
def tw5597455716950797118:=0
def tw425205092495532999:=0
def tw8005128599484299189:=0
def tw2942730386269985944:=0
def tw10513654532936759717:=0
def tw17968167856758848360:=0
def tw10036508857255694246:=0
def tw10680446233358942870:=0
def tw6060144588104772092:=0
def tw16911074303151905681:=0
def tw6650975918379040421:=0
def tw10006516834638261245:=0
def tw14751062059279530416:=0
def tw14359442915067407971:=0
def tw2203878502352119193:=0
def tw12533402618485030333:=0
def tw13327994472215709985:=0
def tw16846349717582328831:=0
def tw6974012756348028723:=0
def tw18017043867900241919:=0
def tw8274931858787399136:=0
def tw10152850176883190103:=0
def tw231452056601263376:=0
def tw10522482018355169567:=0
def tw12715557971916517227:=0
def tw11226394116821198666:=0
def tw12014333721930913108:=0
def tw17497614469104455769:=0
def tw14940272144991277553:=0
def tw3368709165799324127:=0
def tw2866277019544948489:=0
def tw11518443534376074145:=0
def tw12576341091535797310:=0
def tw16255405322636243489:=0
def tw18173033865311307529:=0
def tw17168496018724833454:=0
def tw3110556802119576647:=0
def tw2555605935317250922:=0
def tw5063289403689640123:=0
def tw13233395246987741148:=0
def tw170119435141981367:=0
def tw2162935235651653038:=0
def tw9817837668412376453:=0
def tw17943352946480788920:=0
def tw782813254088736424:=0
def tw17306266906926388953:=0
def tw16435409898380723358:=0
def tw14531595766696265843:=0
def tw13141890948575322802:=0
def tw8712360748631189915:=0
def tw4346901616149427064:=0
def tw8035061363325541487:=0
def tw12928421020793102815:=0
def tw7826430805858340072:=0
def tw2560346599749473879:=0
def tw7041909076557349572:=0
def tw16934588692888895074:=0
def tw13636935452351257173:=0
def tw17243551875581795601:=0
def tw14721848976786737850:=0
def tw7756366939575139394:=0
def tw17659810776656337406:=0
def tw14652801740345899570:=0
def tw10754113832148788618:=0
def tw7107451058562087306:=0
def tw6682257132594852338:=0
def tw14425138859126814561:=0
def tw18289887138501831824:=0
def tw11173395774093873968:=0
def tw15135924643125049570:=0
def tw6703727210840019009:=0
def tw8975044115700515975:=0
def tw16930822769813935937:=0
def tw14852132060498859648:=0
def tw6437195917383129069:=0
def tw8093997550668126564:=0
def tw9401438393073149490:=0
def tw6951730271462688240:=0
def tw2496432122794036544:=0
def tw2552748600753608953:=0
def tw16505591926842230051:=0
def tw839927329240657705:=0
def tw14867069548406334877:=0
def tw15194417361813149381:=0
def tw2678215704318682592:=0
def tw12414863268243609125:=0
def tw18394021387135817974:=0
def tw8238236676864120740:=0
def tw7810448005569301693:=0
def tw14650575225899334553:=0
def tw759918720206512762:=0
def tw17226074219508977978:=0
def tw8395024488619422854:=0
def tw2162750454549749895:=0
def tw414992697301786756:=0
def tw2126968980185069745:=0
def tw11931798618532253836:=0
def tw12926819898197700239:=0
def tw13075145852290331899:=0
def tw11885789165378772140:=0
def tw12514957097351434014:=0
def tw10433758494646637797:=0
def tw10143255442168543841:=0
def tw7460774711814783050:=0
def tw2919122821666154026:=0
def tw14039540251957690293:=0
def tw11329817152813016521:=0
def tw9701270307151458733:=0
def tw12761162663581979653:=0
def tw5933153593893536632:=0
def tw2663884008441401840:=0
def tw7148891278670850501:=0
def tw11912064631419908114:=0
def tw9557703762537732931:=0
def tw10043423128232856803:=0
def tw15138142767257644847:=0
def tw7180285185377244790:=0
def tw4275168618357522640:=0
def tw10177219459462600488:=0
def tw9745705953138606924:=0
def tw3171350556095106887:=0
def tw1253666963597760149:=0
def tw16430635868513283834:=0
def tw5494908956544645790:=0
def tw16263464603449750398:=0
def tw16274837377116408238:=0
def tw11065966667636500110:=0
def tw5445832432712512345:=0
def tw2585546305878078838:=0
def tw13222776595278687085:=0
def tw8008184113762567372:=0
def tw2611537675183213076:=0
def tw5751504142235732368:=0
def tw1396547714497021298:=0
def tw1357413202787714592:=0
def tw6672073266825784304:=0
def tw11611141105845668857:=0
def tw5343190306431956595:=0
def tw15639106971251675351:=0
def tw9533723217701706755:=0
def tw8038899211635466304:=0
def tw10656769813289432447:=0
def tw17066805542956808049:=0
def tw12822875413304929269:=0
def tw1061707699737072020:=0
def tw413888019407736954:=0
def tw9112018214965847713:=0
def tw17838413190954492195:=0
def tw15363544810366203024:=0
def tw18437869068663886296:=0
def tw5467637840058286816:=0
def tw15191192396814870800:=0
def tw5880621093542626055:=0
def tw314187931548504195:=0
def tw5782572985521306561:=0
def tw670559747790120596:=0
def tw1444014090652281375:=0
def tw16262922395624796321:=0
def tw16485489630147020826:=0
def tw17026544645182358983:=0
def tw4162803841766164108:=0
def tw16967375090452418116:=0
def tw13965629875832740822:=0
def tw14883764986216153168:=0
def tw14320375973999836307:=0
def tw11246043840047924158:=0
def tw8683393443355972744:=0
def tw5774494521441428894:=0
def tw5136046301254636937:=0
def tw18045262604979240149:=0
def tw18289388164853996882:=0
def tw848371224723181238:=0
def tw13018362239812117130:=0
def tw7958900583975083621:=0
def tw5015535667433087013:=0
def tw2831167363695078261:=0
def tw4574944928802127957:=0
def tw16744176646976267666:=0
def tw585651002105931392:=0
def tw12562611171642272865:=0
def tw16487808394438355717:=0
def tw518650926884399894:=0
def tw11241925579561987968:=0
def tw850424765160975652:=0
def tw16898015726672892600:=0
def tw5224727409944106581:=0
def tw7687709976567787359:=0
def tw1943208875813314165:=0
def tw9795520818272240701:=0
def tw4447156860584163871:=0
def tw514685778629131428:=0
def tw11592430279793144724:=0
def tw15385910846129613773:=0
def tw12034109412878799849:=0
def tw7978949504965641571:=0
def tw13196411115762999347:=0
def tw3306964185986092008:=0
def tw2095119119578585342:=0
end PySem.W.Fast
open PySem PySem.W PyProof.Rows
local macro_rules | `(tactic| walk_at "dk") => `(tactic| (refine' L2.DefK.of ?a ?l ?c ?k; (case a => k_is); (case l => k_is); (case c => k_is); (case k => k_is)))
set_option maxRecDepth 100000 in
set_option maxHeartbeats 0 in
theorem PySem.Challenge.cw_shorterline_k58_whole_alike_halls_holds : PySem.Challenge.rw_shorterline_k58_whole_alike_halls.Holds := by
 w_on;o_law;k_head;(case hw=>w_witness2)
 k_fill
 refine K.walk (l:=PySem.Challenge.rw_shorterline_k58_whole_alike_halls) ?hq rfl rfl (λw h Y=>PySem.W.kIn_of Y) ?F
 case hq=>kernel_rfl
 case F=>
  intro w mg fa h KX G hmg;refine' K.Vg KX G hmg ?_ ?_ ?_ ?_ ?_ ?_ ?_ ?_ ?_ ?_ ?_ ?_ ?_ ?_ ?_ ?_ ?_ ?_ ?_ ?_ ?_ ?_ ?_ ?_ ?_ ?_ ?_ ?_ ?_ ?_ ?_ ?_ ?_ ?_ ?_ ?_ ?_ ?_ ?_ ?_ ?_ ?_ ?_ ?_ ?_ ?_ ?_ ?_ ?_ ?_ ?_ ?_ ?_ ?_ ?_ ?_ ?_ ?_ ?_ ?_ ?_ ?_ ?_ ?_ ?_ ?_ ?_ ?_ ?_ ?_ ?_ ?_ ?_ ?_ ?_ ?_ ?_ ?_ ?_
  iterate 34 · ext dk
  .refine' L2.MthD.of K.l8 ?xa ?xb ?xc ?xd ?xe ?xf ?xl ?xg ?xk ?xn;(case xa=>k_is);(case xb=>k_is);(case xc=>k_is);(case xd=>k_is);(case xe=>k_is);(case xf=>k_is);(case xl=>k_is);(case xg=>k_is);(case xk=>k_is);(case xn=>k_is)
  .refine' L2.MthD.of K.gJ ?xa ?xb ?xc ?xd ?xe ?xf ?xl ?xg ?xk ?xn;(case xa=>k_is);(case xb=>k_is);(case xc=>k_is);(case xd=>k_is);(case xe=>k_is);(case xf=>k_is);(case xl=>k_is);(case xg=>k_is);(case xk=>k_is);(case xn=>k_is)
  .refine' L2.MthD.of K.vM ?xa ?xb ?xc ?xd ?xe ?xf ?xl ?xg ?xk ?xn;(case xa=>k_is);(case xb=>k_is);(case xc=>k_is);(case xd=>k_is);(case xe=>k_is);(case xf=>k_is);(case xl=>k_is);(case xg=>k_is);(case xk=>k_is);(case xn=>k_is)
  .refine' L2.MthD.of K.p7 ?xa ?xb ?xc ?xd ?xe ?xf ?xl ?xg ?xk ?xn;(case xa=>k_is);(case xb=>k_is);(case xc=>k_is);(case xd=>k_is);(case xe=>k_is);(case xf=>k_is);(case xl=>k_is);(case xg=>k_is);(case xk=>k_is);(case xn=>k_is)
  .refine' L2.MthD.of K.j2 ?xa ?xb ?xc ?xd ?xe ?xf ?xl ?xg ?xk ?xn;(case xa=>k_is);(case xb=>k_is);(case xc=>k_is);(case xd=>k_is);(case xe=>k_is);(case xf=>k_is);(case xl=>k_is);(case xg=>k_is);(case xk=>k_is);(case xn=>k_is)
  .refine' L2.MthD.of K.qU ?xa ?xb ?xc ?xd ?xe ?xf ?xl ?xg ?xk ?xn;(case xa=>k_is);(case xb=>k_is);(case xc=>k_is);(case xd=>k_is);(case xe=>k_is);(case xf=>k_is);(case xl=>k_is);(case xg=>k_is);(case xk=>k_is);(case xn=>k_is)
  .refine' L2.IniDK.of K.lQ ?xa ?xd ?xl ?xe ?xk ?xf ?xm ?xc;(case xa=>k_is);(case xd=>k_is);(case xl=>k_is);(case xe=>k_is);(case xk=>k_is);(case xf=>k_is);(case xm=>k_is);(case xc=>k_is)
  iterate 16 · ext dk
  iterate 15 · k_is
  iterate 7 · refine' L2.InsF.of ?xa ?xb ?xc ?xd ?xe ?xf;(case xa=>k_is);(case xb=>k_is);(case xc=>k_is);(case xd=>k_is);(case xe=>k_is);(case xf=>k_is)