import PyProof.Rows.All
import Wide.All
import OpenK.AllK
import Wide.FinOn
import Lean
import PyProof.EqAt
import PyProof.EqKinds
import PyProof.TupleCall
import KE.KRevIter
import PyProof.FactsAll.range
import PyProof.P3In
import PyProof.ZipIter
import PyProof.TupleIter
import PyProof.AutoListH
import PyProof.WalkInts
import PyProof.SeqI3
import PyProof.EnumFor
import PyProof.EnumMake
import PyProof.ListMulRoad
import PyProof.Rows.SortRev
import PyProof.SumWalkG
import PyProof.StrWalks
import PyProof.StrCalls2
import PyProof.StrLawsTight
import KE.KIntText
import PyProof.StrBlockG
import PyProof.Rows.StrItems
import PyProof.SliceStr2
import PyProof.StrBlockI
import PyProof.Rows.IntBool
import PyProof.StrOps2
import PyProof.ListStr
import PyProof.DictRoadsH
import PyProof.Rows.TupTab
import PyProof.P3Eq
import PyProof.StationsW
import PyProof.RulesAs
import OpenK.KOwn
import KE.KTryMore
import PyProof.NsDelKeeps
import PyProof.ExcArgsOwn
import PyProof.ExcInit
import PyProof.InstStoreFacts
import PyProof.ListRange
import PyProof.TupleOfStr
import PyProof.CollectIter
import PyProof.DictItems
import PyProof.DictWalks
import PyProof.StrLawsRepr
import PyProof.Rows.FStr
import PyProof.FString
import PyProof.FactsAll.tuple
import KE.KSortTup
import PyProof.CollectWalk
import PyProof.AutoSeq1
import PyProof.DictTruth
import KE.RegKIsAll
import KE.RegKTryMore
import PySem.Challenge.RW_shorterline_k59_whole_never_goes_on
local macro_rules|`(tactic|omega)=>`(tactic|first|lia|omega +splitNatSub)
local macro_rules|`(term|~~~$x)=>`(some (.imm $x))
local macro_rules|`(term|$x⁻¹)=>`(($x).mono (by decide))
local macro_rules|`(term|⋯)=>`(by decide)
local macro_rules|`(term|∅)=>`(by omega)
local macro_rules|`(tactic|ext K)=>`(tactic|decide +kernel)
local macro_rules|`('a')=>`(by simp)|`('b')=>`(by rfl)|`('d')=>`(by ext dm)|`('e')=>`(by exact⟨rfl,by ext K,by ext K,by ext K,by ext K⟩)|`('f')=>`(by with_unfolding_all rfl)|`('g')=>`(("__debug__":PySem.Str))|`('h')=>`((List Nat×PySem.Addr))|`('i')=>`((PySem.Addr×PySem.Obj))
set_option Elab.async false
set_option linter.all false
set_option maxRecDepth 100000
namespace Zz
theorem e1_1{α:Sort _}{p:α→Prop}{g:Prop}(h:∃a,p a)(k:∀a,p a→g):g:=h.elim λa h=>k a h
theorem e0_2{p q:Prop}{g:Prop}(h:p∧q)(k:p→q→g):g:=k  h.1 h.2
theorem e2_1{α β:Sort _}{p:α→β→Prop}{g:Prop}(h:∃a b,p a b)(k:∀a b,p a b→g):g:=h.elim λa h=>h.elim λb h=>k a b h
theorem e1_2{α:Sort _}{p q:α→Prop}{g:Prop}(h:∃a,p a∧q a)(k:∀a,p a→q a→g):g:=h.elim λa h=>k a h.1 h.2
theorem e0_3{p q r:Prop}{g:Prop}(h:p∧q∧r)(k:p→q→r→g):g:=k  h.1 h.2.1 h.2.2
theorem e3_1{α β γ:Sort _}{p:α→β→γ→Prop}{g:Prop}(h:∃a b c,p a b c)(k:∀a b c,p a b c→g):g:=h.elim λa h=>h.elim λb h=>h.elim λc h=>k a b c h
theorem e2_2{α β:Sort _}{p q:α→β→Prop}{g:Prop}(h:∃a b,p a b∧q a b)(k:∀a b,p a b→q a b→g):g:=h.elim λa h=>h.elim λb h=>k a b h.1 h.2
theorem e1_3{α:Sort _}{p q r:α→Prop}{g:Prop}(h:∃a,p a∧q a∧r a)(k:∀a,p a→q a→r a→g):g:=h.elim λa h=>k a h.1 h.2.1 h.2.2
theorem e0_4{p q r s:Prop}{g:Prop}(h:p∧q∧r∧s)(k:p→q→r→s→g):g:=k  h.1 h.2.1 h.2.2.1 h.2.2.2
theorem e4_1{α β γ δ:Sort _}{p:α→β→γ→δ→Prop}{g:Prop}(h:∃a b c d,p a b c d)(k:∀a b c d,p a b c d→g):g:=h.elim λa h=>h.elim λb h=>h.elim λc h=>h.elim λd h=>k a b c d h
theorem e3_2{α β γ:Sort _}{p q:α→β→γ→Prop}{g:Prop}(h:∃a b c,p a b c∧q a b c)(k:∀a b c,p a b c→q a b c→g):g:=h.elim λa h=>h.elim λb h=>h.elim λc h=>k a b c h.1 h.2
theorem e2_3{α β:Sort _}{p q r:α→β→Prop}{g:Prop}(h:∃a b,p a b∧q a b∧r a b)(k:∀a b,p a b→q a b→r a b→g):g:=h.elim λa h=>h.elim λb h=>k a b h.1 h.2.1 h.2.2
theorem e1_4{α:Sort _}{p q r s:α→Prop}{g:Prop}(h:∃a,p a∧q a∧r a∧s a)(k:∀a,p a→q a→r a→s a→g):g:=h.elim λa h=>k a h.1 h.2.1 h.2.2.1 h.2.2.2
theorem e0_5{p q r s t:Prop}{g:Prop}(h:p∧q∧r∧s∧t)(k:p→q→r→s→t→g):g:=k  h.1 h.2.1 h.2.2.1 h.2.2.2.1 h.2.2.2.2
theorem i2_1{α β:Sort _}{p:α→β→Prop}(a:α)(b:β)(h0:p a b):∃a b,p a b:=⟨a,b,h0⟩
theorem i1_2{α:Sort _}{p q:α→Prop}(a:α)(h0:p a)(h1:q a):∃a,p a∧q a:=⟨a,h0,h1⟩
theorem i0_3{p q r:Prop}(h0:p)(h1:q)(h2:r):p∧q∧r:=⟨h0,h1,h2⟩
theorem i3_1{α β γ:Sort _}{p:α→β→γ→Prop}(a:α)(b:β)(c:γ)(h0:p a b c):∃a b c,p a b c:=⟨a,b,c,h0⟩
theorem i2_2{α β:Sort _}{p q:α→β→Prop}(a:α)(b:β)(h0:p a b)(h1:q a b):∃a b,p a b∧q a b:=⟨a,b,h0,h1⟩
theorem i1_3{α:Sort _}{p q r:α→Prop}(a:α)(h0:p a)(h1:q a)(h2:r a):∃a,p a∧q a∧r a:=⟨a,h0,h1,h2⟩
theorem i0_4{p q r s:Prop}(h0:p)(h1:q)(h2:r)(h3:s):p∧q∧r∧s:=⟨h0,h1,h2,h3⟩
theorem i4_1{α β γ δ:Sort _}{p:α→β→γ→δ→Prop}(a:α)(b:β)(c:γ)(d:δ)(h0:p a b c d):∃a b c d,p a b c d:=⟨a,b,c,d,h0⟩
theorem i3_2{α β γ:Sort _}{p q:α→β→γ→Prop}(a:α)(b:β)(c:γ)(h0:p a b c)(h1:q a b c):∃a b c,p a b c∧q a b c:=⟨a,b,c,h0,h1⟩
theorem i2_3{α β:Sort _}{p q r:α→β→Prop}(a:α)(b:β)(h0:p a b)(h1:q a b)(h2:r a b):∃a b,p a b∧q a b∧r a b:=⟨a,b,h0,h1,h2⟩
theorem i1_4{α:Sort _}{p q r s:α→Prop}(a:α)(h0:p a)(h1:q a)(h2:r a)(h3:s a):∃a,p a∧q a∧r a∧s a:=⟨a,h0,h1,h2,h3⟩
theorem i0_5{p q r s t:Prop}(h0:p)(h1:q)(h2:r)(h3:s)(h4:t):p∧q∧r∧s∧t:=⟨h0,h1,h2,h3,h4⟩
end Zz
local macro_rules
 |`(tactic|let $d:letDecl)=>do
  let D:=d.raw[0];let p:=D[0];let q:=p[1].getSepArgs
  if p.getKind !=``Lean.Parser.Term.anonymousCtor||q.size<2 then Lean.Macro.throwUnsupported
  let mut e:Lean.TSyntax `term:=⟨D[4]⟩
  if D[2].getNumArgs !=0 then e:=←`(($e : $(⟨D[2][0][1]⟩)))
  let T:=Array (Lean.TSyntax `tactic)
  let mut U:T:=#[]
  let mut cl:T:=#[]
  if e.raw.isIdent then cl:=#[←`(tactic|try clear $(⟨e.raw⟩))]
  let K:=Nat.min q.size 5
  for k in [0:K-1] do
   let N:=K-k
   let mut z:=cl
   for i in [0:N] do
    let c:=q[i]!
    if c.isIdent&&c.getId !=`rfl&&(i+1<N||N==q.size) then z:=z.push (←`(tactic|intro $(⟨c⟩):ident))
    else
     let y:=Lean.mkIdent (←Lean.Macro.addMacroScope (.mkSimple s!"x{i}"))
     z:=z.push (←`(tactic|intro $y:ident))
     if i+1==N&&N<q.size then
      let r:Lean.TSyntaxArray `term:=(q.extract i q.size).map (⟨·⟩)
      z:=z.push (←`(tactic|let ⟨$r,*⟩:=$y))
     else if c.getKind==``Lean.Parser.Term.anonymousCtor then z:=z.push (←`(tactic|let $(⟨c⟩):term:=$y))
     else if c.isIdent then z:=z.push (←`(tactic|rcases $y:ident with $(⟨c⟩):ident))
   for i in [0:N] do
    let s:=#[←`(tactic|refine $(Lean.mkIdent (.mkStr2 "Zz" s!"e{N-1-i}_{i+1}")) $e ?_)]++z
    U:=U.push (←`(tactic|($[$s:tactic];*)))
  let rec cv:Nat->Lean.Syntax->Lean.MacroM (Lean.TSyntax `rcasesPat)
   |0,_=>Lean.Macro.throwUnsupported
   |n+1,c=>do
    if c.isIdent then `(rcasesPat|$(⟨c⟩):ident)
    else if c.getKind==``Lean.Parser.Term.anonymousCtor then
     let a:=←c[1].getSepArgs.mapM (cv n)
     `(rcasesPat|⟨$[$a],*⟩)
    else `(rcasesPat|_)
  let m←cv 9 p
  `(tactic|first $[|$U:tactic]*|rcases $e:term with $m:rcasesPat)
 |`(tactic|intro $a*)=>do
  let C:=λx:Lean.Syntax=>x.getKind==``Lean.Parser.Term.anonymousCtor||x.getId==`rfl
  if !a.any (C ·.raw) then Lean.Macro.throwUnsupported
  let mut z:Array (Lean.TSyntax `tactic):=#[]
  for x in a do
   if C x then
    let y:=Lean.mkIdent (←Lean.Macro.addMacroScope `y)
    z:=z.push (←`(tactic|intro $y:ident))
    z:=z.push (←if x.raw.isIdent then `(tactic|rcases $y:ident with $(⟨x⟩):ident) else `(tactic|let $x:term:=$y))
   else z:=z.push (←`(tactic|intro $x:term))
  `(tactic|($[$z:tactic];*))
 |`(tactic|exact ⟨$a,*⟩)=>do
  let q:=a.getElems;let n:=q.size
  if n<3||5<n then Lean.Macro.throwUnsupported
  let mut U:Array (Lean.TSyntax `tactic):=#[]
  for i in [0:n] do U:=U.push (←`(tactic|exact $(Lean.mkIdent (.mkStr2 "Zz" s!"i{n-1-i}_{i+1}")) $q*))
  `(tactic|first $[|$U:tactic]*|exact (⟨$a,*⟩))
 |`(tactic|refine ⟨$a,*⟩)=>do
  let q:=a.getElems;let n:=q.size
  if n<3||5<n then Lean.Macro.throwUnsupported
  let mut U:Array (Lean.TSyntax `tactic):=#[]
  for i in [0:n] do U:=U.push (←`(tactic|refine $(Lean.mkIdent (.mkStr2 "Zz" s!"i{n-1-i}_{i+1}")) $q*))
  `(tactic|first $[|$U:tactic]*|refine (⟨$a,*⟩))
local macro_rules |`(tactic|ext a)=>`(tactic|walk_at"a")|`(tactic|ext b)=>`(tactic|walk_at"b")|`(tactic|ext c)=>`(tactic|walk_at"c")|`(tactic|ext d)=>`(tactic|walk_at"d")|`(tactic|ext dk)=>`(tactic|walk_at"dk")|`(tactic|ext dm)=>`(tactic|walk_at"dm")|`(tactic|ext e)=>`(tactic|walk_at"e")|`(tactic|ext n)=>`(tactic|walk_at"n")|`(tactic|ext s)=>`(tactic|walk_at"s")|`(tactic|ext sc)=>`(tactic|walk_at"sc")|`(tactic|ext x)=>`(tactic|walk_at"x")
open PySem renaming PyData->aD,wpAny_bind->gT,Value->Ad,Shared->GT,wpAny_pure->Ld,starEach->aac,sizeLine->aak,sizeLine_eq->aap,mainGlobals->aay,wpAny_setField_rec->aaC,Program->aaI,wpAny_callSpecial?_slot->aaN,foldedSetIterable->aaT,compareOp->aaW,wpAny_call_entry->aaZ,bootBuiltins->aa0,Heap->aa1,Around->abb,wpAny_newObj_type->abd,wpAny_isOneOf_itemiter->abg,wpAny_field->abh,backTo->abq,attributeBase->abz,sysModules->abB,swapsWith->abG,wpAny_rule->abI,Paired->abQ,assignEach->abZ,DictEntry->ab1,keywordEach->ab2,wpAny_holding->ab5,wpAny_attempt->ab6,FuncData->ab8,wpAny_dictEntries->acb,wpAny_mono->ach,pyNext->aci,binaryOp->acp,wpAny_dictEpoch->acu,mem_of_lookup->acv,wpAny_isInstance->acD,wpAny_Call_Name_kw->acF,wpAny_seqItems->acI,setField->acJ,wpAny_passesOwn->acL,standAt->acN,wpAny_truthy_bool->acO,behindInMarks->acU,backToKw->acY,Builtin->ac4,wpAny_typeOf->ac5,Keyword->ac6,rawInt->ade,IsItemIter->adf,codeAny_builtin->adj,wpAny_standAt->adk,wpAny_isOneOf_keyiter->ado,wpAny_fieldsOf->adB,swapsWithSole->adO,swappedStores->adP,bindArgs->adQ,wpAny_comprehension_free->adU,ReadsAll->adV,holding->ad2,letOwnedTupleGo->ad3,codeAny->ad4,call_meets->ad8,tupleKind_room_in1->ad9,sliceBounds->aec,codeAny_mono->aeg,isSubtype_stop->aek,wpAny_notOrdered_dict->aex,getMethod->aez,wpAny_forIn_list->aeE,getItem->aeI,NameKind->aeN,wpAny_updateSeq_pair->aeO,wpAny_execs_nil->aeR,IsPair->aeV,wpAny_specialOf->aeX,wpAny_loadPart'->aeY,valueAt->ae4,Operator->afb,wpAny_newTuple->afi,wpAny_binaryOp_repeat_ref->afq,wpAny_sequenceKey->afv,slot_list_getitem->afw,wpAny_letGo->afy,assign->afC,pyIter->afD,wpAny_getItem_list_slice->afF,wpAny_onRaise->afH,wpAny_newList->afK,IsItemIterOut->afM,PassesOwn->afP,noFill_tuple_add->afQ,Within->af3,concat_meets->af7,IsPart->af8,typeIs_int->aga,wpAny_Call_method_late->agb,wpAny_Assign_Subscript->agc,wpAny_updateSeq->ago,exec_Assign_Name_used->agr,callWith->agx,subscripted->agz,compEnvC->agB,tupleKind->agI,callerA->agJ,relabel->agK,seq_tuple_add->agW,plainId_quiet->ag0,IntMulOk->ahc,BindsTo->ahe,newList->ahh,call_meetsIn->ahl,slicePick->ahq,seqSlot_of->ahv,specialOf->ahw,call->ahL
open List renaming length_map->iO,getElem?_eq_getElem->lD,getElem?_eq_some_iff->AD,mem_of_getElem?->LD,mem_singleton->aad,mem_cons_of_mem->aaf,mem_cons->aag,mem_cons_self->aah,getElem?_map->aaj,map_cons->aam,length_append->aao,replicate->aaq,mem_map->aar,getD_eq_getElem?_getD->aas,length_cons->aat,take_length->aav,range->aaz,length_take->aaB,getElem?_append_left->aaE,size_toArray->aaK,map_append->aaM,getElem?_append_right->aaP,mem_append_right->aaQ,getElem?_take->aaR,getElem?_set_ne->aaS,take_add_one->aaU,mem_append->aaV,Nodup->aaX,append_assoc->aaY,getElem?_set_self->aa3,append_nil->aa5,length_range->aa7,lookup_cons->aa8,map_map->aba,nodup_cons->abe,nil_append->abi,length_set->abj,eq_nil_of_length_eq_zero->abl,not_mem_nil->abx,all_eq_true->abM,nodup_nil->abV,mem_append_left->ab0,mem_iff_getElem->ab3,mem_of_mem_take->ab4,all_cons->ab7,ext_getElem?->ab9,getElem?_range->ace,length_replicate->acg,mem_flatMap->acj,filter_cons->acm,range_succ->act,replicate_succ->acx,map_congr_left->acz,pairwise_cons->acH,nodup_append->acR,pairwise_singleton->ac1,take_of_length_le->adc,sum_cons->adl,take_append_drop->adp,length_filter_le->adr,reverse_cons->adv,mem_range->adw,length->adx,getElem?_of_mem->adC,cons_append->adD,map_nil->adE,pairwise_iff_getElem->adG,drop_eq_getElem_cons->adH,filterMap_cons->adI,flatMap_append->adJ,getElem_set_ne->adK,mem_filter->ad1,length_nil->ad5,getElem?_replicate->aea,set_eq_take_append_cons_drop->aee,all_map->aeq,length_drop->aeB,getElem_mem->aeD,any_eq_true->aeH,lookup->aeM,foldl_cons->aeS,filter_append->afo,mem_or_eq_of_mem_set->afr,reverse_perm->afB,any_cons->afI,eq_of_mem_replicate->afN,of_mem_zip->agj,forIn_cons->agm,getElem_set_self->ags,getElem?_eq_none->agu,length_singleton->agw,getElem?_mapIdx->agD,replicate_succ'->agG,take->agM,length_reverse->agP,reverse_append->agR,map_eq_nil_iff->agT,filterMap_map->ag3,set_cons_zero->ag7,set_cons_succ->ag8,map_replicate->ahb,flatten_cons->ahf,foldl_append->ahn,ext_getElem->ahs,zipIdx_cons->ahu,map_id->ahC,range'->ahD,foldl->ahK
open PySem.Heap renaming get?_push_of_some->Io,get?_push_size->aai,lt_size->aal,SameBut->abk,size_push->abv,get?_update_other->ac7,get?_update_self->adm,size_update->aeF,ExtBut->afx,get?_push_cases->agC
open PySem.PyData renaming eqv->aaa,depthAll->aaD,hasDict_of_canLay->aa9,int->abf,tuple->abp,hasDictAll_of_canLayAll->abw,canLayAll0->abA,hasDict->acq,hasDictAll->adu,list->aed,str->aeC,canLay0->aff,eqvAll->afL
open Nat renaming le_refl->aab,lt_of_lt_of_le->aau,le_trans->aaw,ne_of_lt->aa2,ne_of_gt->abt,lt_succ_self->abF,zero_le->abJ,le_of_lt->abY,le_add_right->ack,mul_le_mul->acK,zero_add->acQ,lt_irrefl->acT,min_le_right->acZ,mul_comm->ac8,mul_le_mul_right->adA,zero_ne_add_one->adN,add_assoc->adX,lt_trans->ael,lt_succ_of_lt->aen,lt_of_succ_lt->aes,le_of_ble_eq_true->aev,le_max_left->aeU,succ_mul->ae6,le_succ->afu,gcd_pos_of_pos_right->afO,le_of_eq->af5,add_left_cancel->agS,mod_lt->aha,min_self->ahj
open PySem.W renaming Frag->aae,nsIn->aaO,mg_none_of->aa4,fnOf->abo,findIn->abu,emptyDict->abR,keepIn->abT,instObj->acr,plainGet->acX,kia_one->adi,hasDictIn->adt,codeIn->ady,plainOver->aef,plainGet_of->ae1,isFn->ae2,lookIn->afd,callWith_K->afe,cellsFrom_some->af6,takerIn->agh,makesIn->agi,OpenLaw->agk,methodCall_KW->agq,mg_of->agZ,handedIn->aho,WalkO->ahN
open Bool renaming false_ne_true->aan,and_eq_true->aaG,eq_iff_iff->abE,and_true->aco,or_eq_false_iff->acP,false_eq_true->ac9,or_true->aet,beq_eq_decide_eq->aeu,not_eq_true->afS,or_eq_true->agn
open Option.some renaming inj->aaA,injEq->ahi
open PySem.PassesOwn renaming never->aaF
open PyProof.Rows renaming wpS_bind->aaH,pendingOf->aaJ,wpS_pure->aaL,slot_tuple_getitem->abr,SortSt->aby,wpS_forRange->abD,wpS_mono->acd,callWith_type1->acA,seqObj->ac0,envOfC->aeh,callWith_builtin1->aeA,wpS_modify->aeG,IntsAre->ae3,wpS_get->ae8,assignInOrder_cons->afc,failedOf->afm,AllBare->aft,listUpdate_at->afJ,SortKind->afY,wpS_lift->afZ,subscriptTail_builtinR->af9,sortedHeap->agg,gallopOf->agE,tupleItemsOf_->agX,subscriptTail->agY,Subscript_->ag4,listItems_at->ahk
open Int renaming toNat_natCast->aa6,eq_ofNat_of_zero_le->ac2,le_trans->adg,emod_lt_of_pos->adh,natCast_mul->ad6,emod_nonneg->ad7,natCast_add->aeZ,zero_add->ae5,toNat->af0,ediv_nonneg->agp,le_refl->agF
open PySem.F renaming slot_dict_itemiterator_next->abc,slot_dict_keyiterator_next->abC,args_dict_itemiterator_next_1->acf,entry_dict_itemiterator_next->acl,slot_tuple_index->acn,type_tuple_index->acV,slot_enumerate_next->adn,args_dict_keyiterator_next_1->adL,plain_extend_loop->adM,args_tuple_add_2->adR,entry_dict_keyiterator_next->adY,slot_list_append->adZ,type_list_append->ad0,entry_tuple_add->aeb,slot_tuple_add->aei,slot_tuple_mul->aeo,slot_dict_get->aew,slot_zip_next->aeW,slot_dict_items_iter->ae0,slot_tuple_iterator_next->afh,slot_dict_getitem->afs,slot_tuple_hash->afA,slot_list_index->afR,args_enumerate_next_1->afT,slot_tuple_rmul->afU,args_dict_get_3->afV,plainAttrs_dict->afW,slot_dict_items->afX,entry_enumerate_next->agd,entry_dict_get->age,slot_dict_iter->agf,slot_int_rmul->agt,entry_extend_loop->agQ
open PySem.Value renaming ref->abm,type->ac3,none->af2,int->agH,bool->ahI,str->ahP
open PySem.Builtin.Dict_items renaming ownsTuple->abn,ownedTupleIsFree->abX,pairFromOwner->aca,isOneOf->afk
open Ne renaming symm->abH
open PySem.Str renaming ofString->abK,empty->ae9
open PySem.SeqAt renaming shaped->abL,canLay_of_shaped->adb,readOf->add,EqAt->af1,readsAll_map->ag5,items_eqAt->aht,eqAt_reads->ahx
open PySem.Builtin.Tuple renaming tupleHashOf->abN,tupleExact->abU,tupleItemsOf->adz,tupleIsExact->afg,tupleTooMany->afj
open PySem.Builtin.SmallTypes renaming nextOf->abO,ownedTupleIsFree->abW,ownedTupleHandOut->acy
open Array renaming getElem?_eq_getElem->abP,length_toList->acw,toList_append->acW,getElem?_toList->adq,toList_push->aep,getElem?_eq_none->aer,mem_toList_iff->aeL,toList_extract->aeQ,toList_setIfInBounds->afn,toList->af4,mem_of_getElem?->agv,forIn_toList->ag9,toList_zip->ahy,toList_inj->ahz,toList_map->ahA,size_push->ahE
open False renaming elim->acs
open PySem.Builtin.List renaming listLengthHint->acB,listTooLong->adT,listSameRef->adW,listExtendWith->ae7
open True renaming intro->acE
open PySem.Obj renaming mapSeq->acG,data_mapFields->ag6
open Option renaming map_some->acM,map_eq_some_iff->aem,isSome_map->afz,isSome_iff_exists->afE,getD_none->ahp
open Or renaming inr->ada,inl->afG
open PySem.Builtin.Slice renaming slicePlaces->adF,sliceAdjust->afp
open PySem.Calls renaming callWith_builtin->aej,Name_function_global->afa,evalArgs_plain->agA,spliced_cons->ag2,spliced_nil->ahd
open PySem.Builtin.Dict renaming showsAll->aey
open PySem.NameKind renaming free->aeJ,cell->ahO
open PySem.Shared renaming TypeIs->aeK,heap->ahB
open PySem.Around renaming under_plainId->aeP
open ForInStep renaming yield->aeT
open PyProof.Rows.SortSt renaming mk'->afl
open Prod renaming ext->agy,ext_iff->ahm
open PySem.Heap.SameBut renaming update->agN
open PySem.Paired renaming length->agU
open List.cons renaming inj->ag1
open List.Pairwise renaming nil->ahg
open And renaming intro->ahr
open Sum renaming inl->ahF,inr->ahG
namespace L2
open PySem PySem.Spec PyProof.Rows
variable{us:List Ad}{H:Hp}{C a b:Addr}{o:HO}{h:aa1}{P:aaI}{w:World}{g':Array GenState}{i j t':Nat}{ch fp:List Addr}{N ps:List Str}{x:Str}{M:Model}{A:abb}{E Q:Ad->GT->Prop}{v:V}{u:Ad}{X:Cx}{c e tg:Expr}{pos:Pos}{pins:List 'i'}{σ:St}{K:aae}{es:List Expr}{te:TE}{op:CmpOp}{body:List Stmt}{f:Ad->Ad->Sem Ad}{r:R2}{g:Int->Int->Int}{mA mg:Str->Option Ad}{pl:Sem Bool}{kw:List (Str×Ad)}{outer:List Env}{vs:List V}{scope:Scope}
abbrev Key:=Sum Int Str
def yh:Key->Ad->Bool
 | .inl k,v=>Value.isInt k v
 | .inr x,v=>Value.isStrOf x v
def keyH(w:World):Key->Int
 | .inl k=>hashInt k
 | .inr x=>hashStr w x
theorem bW:∀{k:Key}{v:Ad},yh k v=true->(∃i t,k=ahF i/\v=agH i t)\/(∃x t,k=ahG x/\v=ahP x t)
 | .inl i,v,h=>by
  let⟨t,e⟩:=Ad.isInt_shape h;exact .inl ⟨i,t,rfl,e⟩
 | .inr x,v,h=>by
  let⟨t,e⟩:=Ad.isStrOf_shape h;exact .inr ⟨x,t,rfl,e⟩
def Cc(i:Int)(t:Tok):yh (.inl i) (.int i t)=true:=by simp[yh,Value.isInt]
def zw(x:Str)(t:Tok):yh (.inr x) (.str x t)=true:=by simp[yh,Value.isStrOf]
theorem Si(a b:Int):decide ((ahF a:Key)=ahF b)=(a==b):=by
 by_cases e:a=b
 .subst e;simp
 .simp_all
def Qm(a b:Str):decide ((ahG a:Key)=ahG b)=decide (a=b):=by simp
def QU(a:Int)(b:Str):decide ((ahF a:Key)=ahG b)=false:=rfl
def T9(a:Str)(b:Int):decide ((ahG a:Key)=ahF b)=false:=rfl
def cg(prog:aaI)(w:World):PySem.KeyKind prog w Key where
 is:=yh
 hash:=keyH w
 inj:=λv a b n l=>by
  rcases bW n with⟨i,t,rfl,rfl⟩|⟨x,t,rfl,rfl⟩
  .rcases bW l with⟨j,u,rfl,e⟩|⟨y,u,rfl,e⟩
   .injection e with e1 _;rw[e1]
   .exact nomatch e
  .rcases bW l with⟨j,u,rfl,e⟩|⟨y,u,rfl,e⟩
   .exact nomatch e
   .injection e with e1 _;rw[e1]
 byValue:=λk v h=>by
  rcases bW h with⟨i,t,rfl,rfl⟩|⟨x,t,rfl,rfl⟩<;>rfl
 pyHash:=λd h=>by
  rcases bW d with⟨i,t,rfl,rfl⟩|⟨x,t,rfl,rfl⟩
  .exact wpAny_pyHash_int h
  .exact wpAny_pyHash_str h
 eqBool:=λm d h=>by
  rcases bW m with⟨i,t,rfl,rfl⟩|⟨x,t,rfl,rfl⟩
  .rcases bW d with⟨j,u,rfl,rfl⟩|⟨y,u,rfl,rfl⟩
   .rw[Si]at h;exact wpAny_eqBool_int h
   .rw[QU]at h;exact af1.int_str i t y u _ _ _ _ h
  .rcases bW d with⟨j,u,rfl,rfl⟩|⟨y,u,rfl,rfl⟩
   .rw[T9]at h;exact af1.str_int x t j u _ _ _ _ h
   .rw[Qm]at h;exact wpAny_eqBool_str h
 «strs»:=λk x t v h=>by
  rcases bW h with⟨i,u,rfl,e⟩|⟨y,u,rfl,e⟩
  .exact nomatch e
  .injection e with e1 _
   subst e1
   cases v<;>rfl
def vC(prog:aaI)(w:World)(i:Int)(t:Tok):(cg prog w).is (.inl i) (.int i t)=true:=Cc i t
def vy(prog:aaI)(w:World)(x:Str)(t:Tok):(cg prog w).is (.inr x) (.str x t)=true:=zw x t
inductive V where
 |non|bl (b:Bool)|int (i:Int)|str (x:Str)|byt (b:Array UInt8)|flt (b:UInt64)|ref (a:Addr)|ty (n:String)
 deriving DecidableEq
def RelV:V->Ad->Prop
 | .non,u=>u=af2
 | .bl b,u=>u=ahI b
 | .int i,u=>∃t,u=agH i t
 | .str x,u=>∃t,u=ahP x t
 | .byt b,u=>∃t,u=Ad.bytes b t
 | .flt b,u=>∃t,u=Ad.float b t
 | .ref a,u=>u=abm a
 | .ty n,u=>u=ac3 n
abbrev Vals:List V->List Ad->Prop:=abQ RelV
def Vals.length{xs:List V}(r:Vals xs us):xs.length=us.length:=agU r
theorem Vals.get:∀{xs:List V}{us:List Ad}{i:Nat}{x:V},Vals xs us->xs[i]?=some x->∃u,us[i]?=some u/\RelV x u
 |_,_,_,_,.nil,e=>by simp at e
 |_,_,0,_,.cons r _,e=>by simp at e;subst e;exact⟨_,rfl,r⟩
 |_,_,i+1,x,.cons _ t,e=>by
  let⟨u,d,k⟩:=Vals.get t ‹_›;exact⟨u,by simpa using d,k⟩
theorem Vals.append:∀{xs ys:List V}{us d:List Ad},Vals xs us->Vals ys d->Vals (xs++ys) (us++d)
 |_,_,_,_,.nil,s=>s
 |_,_,_,_,.cons r t,s=>.cons r (Vals.append t s)
theorem Vals.take:∀{xs:List V}{us:List Ad} (n:Nat),Vals xs us->Vals (xs.take n) (us.take n)
 |_,_,0,_=>.nil
 |_,_,_+1,.nil=>.nil
 |_,_,n+1,.cons r t=>.cons r (Vals.take n t)
theorem Vals.drop:∀{xs:List V}{us:List Ad} (n:Nat),Vals xs us->Vals (xs.drop n) (us.drop n)
 |_,_,0,r=>r
 |_,_,_+1,.nil=>.nil
 |_,_,n+1,.cons _ t=>Vals.drop n t
theorem Vals.none_of:∀{xs:List V}{us:List Ad}{i:Nat},Vals xs us->xs[i]?=none->us[i]?=none:=λ{xs us i} r e=>by
 have d:=r.length
 simp_all
def RelO:Option V->Option Ad->Prop
 |some v,some u=>RelV v u
 |none,none=>True
 |_,_=>False
def KV{d:Type}:List (d×V)->List (d×Ad)->Prop:=abQ λ(p:d×V) (q:d×Ad)=>p.1=q.1/\RelV p.2 q.2
def kV:Key->V
 | .inl i=>.int i
 | .inr x=>.str x
inductive HO where
 |lst (xs:List V)
 |tup (xs:List V)
 |dK (kvs:List (Key×V))|dT (kvs:List (List Key×V))
 |set (S:Int->Bool) (n:Nat)
 |ins (C dx:Addr) (fs:List (Str×V))
 |own (x:Addr)
 |xd (fs:List (Str×V))
 |met (f x:Addr)
 |rng (lo hi:Int)
 |frz (o:Obj) (u:HO)
 |tbl (ps:Array Ad)
 |ext (φ:aa1->Prop)
abbrev Hp:=Addr->Option HO
def upd(H:Hp)(a:Addr)(o:HO):Hp:=λb=>if b=a then some o else H b
def ay:upd H a o a=some o:=by unfold upd;rw[if_pos rfl]
def av(h:b≠a):upd H a o b=H b:=by unfold upd;rw[if_neg h]
theorem uC{u:HO}(h:H a=some o)(h':H b=some u)(d:o≠u):a≠b:=by
 intro e;subst e;rw[h]at h';exact d (aaA h')
theorem bi(h:H a=some o)(h':H b=none):a≠b:=by grind
def PlainT(h:aa1)(a:Addr)(items:Array Ad):Prop:=∃o,h.get? a=some o/\o.cls = .type "tuple"/\o.dict=none/\∃n,o.data = .seq items n
theorem PlainT.tup{items:Array Ad}(x:PlainT h a items):IsTup h a items:=let ⟨o,e,c,_,d⟩:=x;⟨o,e,c,d⟩
def PlainT.new(h:aa1)(items:Array Ad):PlainT (h.push {cls:=.type "tuple",data:=.seq items}) h.objs.size items:=⟨_,aai _ rfl,rfl,rfl,_,rfl⟩
section
variable (P:aaI) (w:World)
def ObjOk(H:Hp)(h:aa1)(a:Addr):HO->Prop
 | .lst l=>l.length≤aak/\∃(d:List Ad) (n:Nat),Vals l d/\h.get? a=some {cls:=.type "list",data:=.seq d.toArray n}
 | .tup l=>l.length≤aak/\∃d:List Ad,Vals l d/\PlainT h a d.toArray
 | .dK k=>k.length≤aak/\(a==abB)=false/\∃vs,KV k vs/\h.DictOf (cg P w) a vs
 | .dT k=>k.length≤aak/\(a==abB)=false/\∃l:List (List Key×Addr×Ad),
   abQ (λ(p:List Key×V) (q:List Key×Addr×Ad)=>p.1=q.1/\H q.2.1=some (.tup (p.1.map kV))/\RelV p.2 q.2.2) k l/\
   ∃o es z,h.get? a=some o/\o.ExactDict/\o.data = .dict es z/\es.toList=l.map (entryOfKey (agI (cg P w)))/\(l.map (·.1)).Nodup
 | .set S n=>h.SetOf (intKind P w) a S n
 | .ins C dx fs=>H dx=some (.own a)/\fs.length≤1000/\dx≠a/\h.get? a=some (acr C dx)/\
   ∃mA,h.Ns1 dx mA/\(∀f,RelO (fs.lookup f) (mA f))/\af3 mA (fs.map (·.1))
 | .own _=>∃o,h.get? a=some o
 | .xd fs=>∃mA,h.Ns1 a mA/\∀f,RelO (fs.lookup f) (mA f)
 | .rng D B=>∃t u v,h.get? a=some {cls:=.type "range",data:=.fields #[.int D t,.int B u,.int 1 v]}
 | .frz o u=>h.get? a=some o/\ObjOk H h a u
 | .tbl ps=>h.get? a=some {cls:=.none,data:=.fields ps}
 | .met f x=>h.get? a=some (PySem.W.methodObj (.ref f) (.ref x))
 | .ext m=>m h/\(∃o,h.get? a=some o)/\∀s y:aa1,m s->(∀o,s.get? a=some o->y.get? a=some o)->m y
def HOk(H:Hp)(h:aa1):Prop:=∀a o,H a=some o->ObjOk P w H h a o
end
section
variable {P:aaI}{w:World}{H g:Hp}{h h':aa1}{a:Addr}{o:HO}
theorem ObjOk.lt(x:ObjOk P w H h a o):a<h.objs.size:=by
 cases o with
 |lst d=>let⟨_,_,_,_,e⟩:=x;exact aal e
 |tup d=>let⟨_,_,_,p⟩:=x;exact p.tup.lt
 |dK k=>let⟨_,_,_,_,o,_,_,e,_⟩:=x;exact aal e
 |dT k=>let⟨_,_,_,_,o,_,_,e,_⟩:=x;exact aal e
 |set S n=>let⟨o,_,_,_,e,_⟩:=x;exact aal e
 |ins C dx fs=>let⟨_,_,_,e,_⟩:=x;exact aal e
 |own y=>let⟨_,e⟩:=x;exact aal e
 |xd fs=>let⟨_,⟨_,_,_,e,_⟩,_⟩:=x;exact aal e
 |rng m l=>let⟨_,_,_,e⟩:=x;exact aal e
 |frz s u=>let⟨e,_⟩:=x;exact aal e
 |tbl ps=>exact aal (x)
 |met f y=>exact aal (x)
 |ext q=>let⟨_,⟨_,e⟩,_⟩:=x;exact aal e
theorem Paired.mapP{k β:Type}{F G:k->β->Prop}:∀{d:List k}{l:List β},abQ F d l->(∀a b,F a b->G a b)->abQ G d l
 |_,_,.nil,_=>.nil
 |_,_,.cons r t,f=>.cons (f _ _ r) (Paired.mapP t f)
theorem ObjOk.stay(x:ObjOk P w H h a o)(k:∀b u,(b=a\/H b=some (.own a))->h.get? b=some u->h'.get? b=some u)
  (L:∀b,H b=some (.own a)->g b=some (.own a)) (J:∀b xs,H b=some (.tup xs)->g b=some (.tup xs)):ObjOk P w g h' a o:=by
 induction o with
 |lst xs=>let⟨z,s,n,r,e⟩:=x;exact⟨z,s,n,r,k _ _ (.inl rfl) e⟩
 |tup xs=>let⟨z,s,r,l,e,c⟩:=x;exact⟨z,s,r,l,k _ _ (.inl rfl) e,c⟩
 |dK D=>let⟨z,y,vs,r,l,es,m,e,c⟩:=x;exact⟨z,y,vs,r,l,es,m,k _ _ (.inl rfl) e,c⟩
 |dT D=>
  let⟨z,y,xs,r,l,es,m,e,c⟩:=x;exact⟨z,y,xs,Paired.mapP r λp q z=>⟨z.1,J _ _ z.2.1,z.2.2⟩,l,es,m,k _ _ (.inl rfl) e,c⟩
 |set S n=>let⟨l,es,m,t,e,c⟩:=x;exact⟨l,es,m,t,k _ _ (.inl rfl) e,c⟩
 |ins C dx fs=>
  let⟨d,z,ne,e,mA,⟨B,es,m,G,c⟩,r⟩:=x;exact⟨L _ d,z,ne,k _ _ (.inl rfl) e,mA,⟨B,es,m,k _ _ (.inr d) G,c⟩,r⟩
 |own y=>let⟨l,e⟩:=x;exact⟨l,k _ _ (.inl rfl) e⟩
 |xd fs=>let⟨mA,⟨B,es,m,e,c⟩,r⟩:=x;exact⟨mA,⟨B,es,m,k _ _ (.inl rfl) e,c⟩,r⟩
 |rng R O=>let⟨t,u,v,e⟩:=x;exact⟨t,u,v,k _ _ (.inl rfl) e⟩
 |frz l u I=>let⟨e,q⟩:=x;exact⟨k _ _ (.inl rfl) e,I q⟩
 |tbl ps=>
  have e:h.get? a=some {cls:=.none,data:=.fields ps}:=x;exact k a _ (.inl rfl) e
 |met f y=>
  have e:=x;exact k a _ (.inl rfl) e
 |ext T=>let⟨p,⟨o,e⟩,F⟩:=x;exact⟨F _ _ p λo q=>k _ _ (.inl rfl) q,⟨o,k _ _ (.inl rfl) e⟩,F⟩
def HOk.lt(x:HOk P w H h)(e:H a=some o):a<h.objs.size:=(x a o e).lt
theorem HOk.fresh(x:HOk P w H h)(e:h.objs.size≤a):H a=none:=by
 cases q:H a with
 |none=>rfl
 |some u=>exact absurd (aau (x.lt q) e) (acT _)
theorem HOk.kept(x:HOk P w H h)(k:∀b u,h.get? b=some u->h'.get? b=some u):HOk P w H h':=λa o e=>
 (x a o e).stay (λb u _ q=>k b u q) (λ_ q=>q) λ_ _ q=>q
theorem HOk.laid(x:HOk P w H h)(k:∀b u,h.get? b=some u->h'.get? b=some u)(m:h.objs.size≤a)(new:ObjOk P w (upd H a o) h' a o):HOk P w (upd H a o) h':=λb u e=>by
 have l:=x.fresh m
 by_cases d:b=a
 .subst d;rw[ay]at e;grind
 .rw[av d]at e;exact(x b u e).stay (λc v _ q=>k c v q) (λc q=>by rw[av (bi q l)];exact q) λc n q=>by rw[av (bi q l)];exact q
end
def Rd(H:Hp)(a:Addr)(u:HO):Prop:=H a=some u\/∃o,H a=some (.frz o u)
theorem Rd.ok{u:HO}(r:Rd H a u)(x:HOk P w H h):ObjOk P w H h a u:=by
 rcases r with r|⟨o,r⟩
 .exact x a u r
 .obtain⟨_,q⟩:=x a _ r;exact q
def Mut:Option HO->Prop
 |some (.lst _)=>True
 |some (.dK _)=>True
 |some (.dT _)=>True
 |some (.set _ _)=>True
 |some (.ins _ _ _)=>True
 |some (.ext _)=>True
 |_=>False
section
variable {P:aaI}{w:World}{H:Hp}{h h':aa1}{x e:Addr}{o:HO}
theorem HOk.write(ok:HOk P w H h)(mu:Mut (H x))(t:e=x\/H e=some (.own x))(k:∀b u,b≠e->h.get? b=some u->h'.get? b=some u)(s:∃u,h'.get? e=some u)
  (new:ObjOk P w (upd H x o) h' x o):HOk P w (upd H x o) h':=λb u q=>by
 have l:∀c y,H c=some (.own y)->c≠x:=λc y r z=>by subst z;rw[r]at mu;exact mu
 have n:∀c m,H c=some (.tup m)->c≠x:=λc m r z=>by subst z;rw[r]at mu;exact mu
 by_cases p:b=x
 .subst p;rw[ay]at q;grind
 .rw[av p]at q
  by_cases d:b=e
  .have q':H b=some (.own x):=by
    rcases t with z|z
    .exact absurd (d.trans z) p
    .rw[d];exact z
   rw[q]at q';cases q';let⟨v,B⟩:=s;exact⟨v,by rw[d];exact B⟩
  .refine(ok b u q).stay (λc v D r=>k c v ?_ r) (λc r=>by rw[av (l c b r)];exact r) λc m r=>by rw[av (n c m r)];exact r
   grind
end
structure Un(fs ex:List Addr)(H H':Hp)(h h':aa1):Prop where
 keep:∀b o,h.get? b=some o->H b=none->b∉fs->b∉ex->h'.get? b=some o
 slot:∀b o,h.get? b=some o->H b=none->b∈fs->b∉ex->∃sl,h'.get? b=some {o with slots:=sl}
 free:∀b o,h.get? b=some o->H b=none->b∉ex->H' b=none
 there:∀b o,h.get? b=some o->b∉ex->∃o',h'.get? b=some o'
 tups:∀b xs,H b=some (.tup xs)->H' b=some (.tup xs)
 frzs:∀b o u,H b=some (.frz o u)->H' b=some (.frz o u)
 tbls:∀b ps,H b=some (.tbl ps)->∃more,H' b=some (.tbl (ps++more))
section
variable {fs f ex d:List Addr}{H g i:Hp}{h c j h':aa1}{a x e:Addr}{o:HO}
def Un.any(u:Un fs ex H g h c){k:Obj}(q:h.get? b=some k)(n:H b=none)(m:b∉ex):∃sl,c.get? b=some {k with slots:=sl}:=by
 by_cases l:b∈fs
 .exact u.slot b k q n l m
 .exact⟨k.slots,u.keep b k q n l m⟩
theorem Un.kept(k:∀b u,h.get? b=some u->h'.get? b=some u):Un fs ex H H h h':=
 ⟨λb l q _ _ _=>k b l q,λb l q _ _ _=>⟨l.slots,k b l q⟩,λ_ _ _ n _=>n,λb l q _=>⟨l,k b l q⟩,λ_ _ q=>q,λ_ _ _ q=>q,λ_ ps q=>⟨#[],by rw[q];simp⟩⟩
def Un.refl:Un fs ex H H h h:=Un.kept λ_ _ q=>q
theorem Un.laid(k:∀b u,h.get? b=some u->h'.get? b=some u)(p:h.objs.size≤a)(l:H a=none):Un fs ex H (upd H a o) h h' where
 keep:=λb u q _ _ _=>k b u q
 slot:=λb u q _ _ _=>⟨u.slots,k b u q⟩
 free:=λb u q n _=>by rw[av (aa2 (aau (aal q) p))];exact n
 there:=λb u q _=>⟨u,k b u q⟩
 tups:=λb m q=>by rw[av (bi q l)];exact q
 frzs:=λb u m q=>by rw[av (bi q l)];exact q
 tbls:=λb ps q=>⟨#[],by rw[av (bi q l),q];simp⟩
theorem Un.write(mu:Mut (H x))(B:e=x\/H e=some (.own x))(k:∀b u,b≠e->h.get? b=some u->h'.get? b=some u)(s:∃u,h'.get? e=some u):Un fs ex H (upd H x o) h h':=by
 have y:∀b,H b=none->b≠x:=λb n z=>by subst z;rw[n]at mu;exact mu
 have p:∀b,H b=none->b≠e:=λb n z=>by
  simp_all
 have m:∀b u,H b=some u->¬Mut (some u)->b≠x:=λb u q D z=>by subst z;simp_all
 refine⟨λb u q n _ _=>k b u (p b n) q,λb u q n _ _=>⟨u.slots,k b u (p b n) q⟩,λb u q n _=>by rw[av (y b n)];exact n,λb u q _=>?_,
  λb t q=>by rw[av (m b _ q λz=>z)];exact q,λb u t q=>by rw[av (m b _ q λz=>z)];exact q,λb ps q=>⟨#[],by rw[av (m b _ q λz=>z),q];simp⟩⟩
 by_cases l:b=e
 .simp_all
 .exact⟨u,k b u l q⟩
end
def trk(h:aa1)(H:Hp):List Addr:=(aaz h.objs.size).filter λa=>(H a).isSome
def hidT(h:aa1)(H:Hp):aa1:=PySem.W.hideAll h (trk h H)
def AE(h:aa1)(H:Hp):(hidT h H).objs.size=h.objs.size:=PySem.W.hideAll_size _ _
def DM{o:Obj}(e:h.get? b=some o)(n:H b=none):(hidT h H).get? b=some o:=
 PySem.W.hideAll_get _ e λd=>by
  have q:=(ad1.mp d).2;rw[n]at q;simp at q
theorem PK{o:Obj}(e:(hidT h H).get? b=some o):h.get? b=some o/\H b=none:=by
 have d:=PySem.W.of_hideAll _ e;refine⟨d,?_⟩
 cases q:H b with
 |none=>rfl
 |some x=>
  have k:b∈trk h H:=ad1.mpr ⟨adw.mpr (aal d),by simp[q]⟩;have z:(hidT h H).get? b=none:=PySem.W.hideAll_none _ k
  grind
structure Mod(K:aae)(mg:Str->Option Ad)(base:aa1):Prop where
 kin:K.In base
 glob:base.Ns aay mg
 blt:∃mb,base.Ns builtinsNs mb/\∀x:Str,x ≠ "__name__" -> mb x=aa0 x
 nolimit:base.NoLimit
 sys:∃m,base.Ns abB m
inductive Ao where
 |L (a:Addr)|T (t:List 'h')
structure EB where
 np:Nat
 be:List Ao
 H:Hp
structure Cx where
 prog:aaI
 w:World
 K:aae
 mg:Str->Option Ad
 base:aa1
 A:abb
 N:List Str
 s₀:GT
 H₀:Hp
 env:Env
 outer:List Env
 stack:List Env
 ex:List Addr
 fn:Str->Bool
 calm:Bool
 pn:List 'i'
 xe:Ad->GT->Prop
 eb:EB:=⟨0,[],λ_=>none⟩
def frs(l:List Env):List Addr:=l.filterMap (·.frame)
abbrev Cx.fs(X:Cx):List Addr:=frs X.outer
def Vis(sc:Scope)(x:Str):Prop:=sc.names.lookup x=some .local\/sc.names.lookup x=some .cell\/sc.names.lookup x=some .free
def Loc(sc:Scope)(x:Str):Prop:=sc.names.lookup x=some .local\/sc.names.lookup x=some .cell
def Look(env:Env)(h:aa1)(m:Str->Option Ad)(x:Str)(u:Ad):Prop:=
 (env.kindOf x=some .local/\m x=some u)\/((env.kindOf x=some .cell\/env.kindOf x=some .free)/\∃c,env.cells.lookup x=some c/\h.IsCell c (some u))
structure Cx.Ok(X:Cx):Prop where
 mod:Mod X.K X.mg X.base
 kind:X.env.scope.kind = .function
 glob:X.env.globals=aay
 blt:X.env.builtins=builtinsNs
 above:X.s₀.heap.objs.size≤X.env.locals
 inj:∀x y c,X.env.cells.lookup x=some c->X.env.cells.lookup y=some c->x=y
 has:∀x,(X.env.kindOf x=some .cell\/X.env.kindOf x=some .free)->∃c,X.env.cells.lookup x=some c
 cab:∀x c,X.fn x=true->X.env.cells.lookup x=some c->X.s₀.heap.objs.size≤c
 hd:X.calm=true->X.A.handled=none
 frames:X.A.frames=some X.stack
 stk:X.stack=X.outer\/(X.stack=X.env::X.outer/\X.env.frame=some X.env.locals)
 exf:∀b∈X.ex,b≠X.env.locals/\∀x c,X.env.cells.lookup x=some c->c≠b
 bs:∀b o,X.base.get? b=some o->X.s₀.heap.get? b=some o/\X.H₀ b=none
 bsz:X.base.objs.size≤X.s₀.heap.objs.size
 noex:∀b o,X.base.get? b=some o->b∉X.ex
 exfs:∀b∈X.ex,b∉X.fs
 funs:X.s₀.heap.FunFrames X.base X.outer
 frf:∀b∈X.fs,X.H₀ b=none
structure Inv(X:Cx)(pins:List 'i')(σ:List (Option V))(H:Hp)(s:GT):Prop where
 ok:X.Ok
 os:s.os=X.s₀.os
 bare:aft s.gens
 base:Un X.fs X.ex X.H₀ H X.s₀.heap s.heap
 loc:∃m,s.heap.Ns X.env.locals m/\∀(i:Nat) (x:Str) (v:V),X.N[i]?=some x->σ[i]?=some (some v)->Vis X.env.scope x->∃u,RelV v u/\Look X.env s.heap m x u
 cell:∀x c,X.env.cells.lookup x=some c->∃v,s.heap.IsCell c v
 free:H X.env.locals=none
 freeC:∀x c,X.env.cells.lookup x=some c->H c=none
 pin:∀p∈X.pn++pins,s.heap.get? p.1=some p.2/\H p.1=none/\p.1≠X.env.locals/\p.1∉X.fs/\∀v,p.2.data≠.cell v
 hok:HOk X.prog X.w H s.heap
 len:σ.length=X.N.length
section
variable {X:Cx}{f:List 'i'}{g:List (Option V)}{H w:Hp}{s:GT}{h':aa1}
theorem Cx.Ok.nofr(ok:X.Ok){o:Obj}(e:X.base.get? b=some o):b∉X.fs:=λd=>by
 have:=(ok.funs.mem d).1
 grind
theorem Inv.bs(I:Inv X f g H s):∀b o,X.base.get? b=some o->s.heap.get? b=some o/\H b=none:=λb o e=>
 ⟨I.base.keep b o (I.ok.bs b o e).1 (I.ok.bs b o e).2 (I.ok.nofr e) (I.ok.noex b o e),I.base.free b o (I.ok.bs b o e).1 (I.ok.bs b o e).2 (I.ok.noex b o e)⟩
theorem Inv.bk(I:Inv X f g H s):∀b o,X.base.get? b=some o->s.heap.get? b=some o:=λb o e=>(I.bs b o e).1
def Inv.mod(I:Inv X f g H s):Mod X.K X.mg X.base:=I.ok.mod
def Inv.kIn(I:Inv X f g H s):X.K.In s.heap:=I.ok.mod.kin.keeps I.bk
def Inv.lt(I:Inv X f g H s):X.env.locals<s.heap.objs.size:=let ⟨_,hn,_⟩:=I.loc;hn.lt
def Inv.sz(I:Inv X f g H s):X.s₀.heap.objs.size≤s.heap.objs.size:=aaw I.ok.above (abY I.lt)
theorem Inv.nofs(I:Inv X f g H s)(h:s.heap.objs.size≤a):a∉X.fs:=λd=>by
 let⟨_,o,k,_⟩:=I.ok.funs.mem d;exact absurd (aau (aal k) (aaw I.sz h)) (acT _)
theorem Inv.cne(I:Inv X f g H s):∀x c,X.env.cells.lookup x=some c->c≠X.env.locals:=λx c e z=>by
 let⟨v,o,p,hd⟩:=I.cell x c e;let⟨m,⟨n,es,l,k,d,_⟩,_⟩:=I.loc
 grind
theorem Inv.funs(I:Inv X f g H s):s.heap.FunFrames X.base X.outer:=by
 have all:∀l,(∀b∈frs l,b∈X.fs)->X.s₀.heap.FunFrames X.base l->s.heap.FunFrames X.base l:=by
  intro l
  induction l with
  |nil=>intro _ _;trivial
  |cons env r q=>
   intro n B;let⟨hk,⟨L,o,d,y,p,hd⟩,t⟩:=B;have m:=n L (by unfold frs;rw[adI,d];exact aah);let⟨D,e⟩:=I.base.slot L o p (I.ok.frf L m) m λz=>I.ok.exfs L z m;exact⟨hk,⟨L,_,d,y,e,hd⟩,q (λb k=>n b (by unfold frs;rw[adI,d];exact aaf _ k)) t⟩
 exact all X.outer (λ_ k=>k) I.ok.funs
theorem Inv.stack(I:Inv X f g H s):s.heap.FunFrames X.base X.stack:=by
 rcases I.ok.stk with e|⟨e,k⟩
 .rw[e];exact I.funs
 .rw[e];let⟨m,d,_⟩:=I.loc;refine .cons (by rw[I.ok.kind];decide) k d ?_ I.funs;exact aa1.get?_none_of_le (aaw I.ok.bsz I.ok.above)
theorem Inv.stkSub(I:Inv X f g H s):∀b∈frs X.stack,b∈X.env.locals::X.fs:=λb d=>by
 rcases I.ok.stk with e|⟨e,k⟩
 .rw[e]at d;exact aaf _ d
 .rw[e]at d;unfold frs at d;rw[adI,k]at d;exact d
theorem Inv.stkFree(I:Inv X f g H s):∀b∈frs X.stack,H b=none:=λb d=>by
 rcases aag.mp (I.stkSub b d)with e|d
 .rw[e];exact I.free
 .obtain⟨_,o,ho,_⟩:=I.ok.funs.mem d;exact I.base.free b o ho (I.ok.frf b d) λz=>I.ok.exfs b z d
theorem Inv.step{d':Drawn}(I:Inv X f g H s)
  (y:∀b∈ch,(b∈X.ex\/X.s₀.heap.objs.size≤b)/\b≠X.env.locals/\(∀x c,X.env.cells.lookup x=some c->c≠b)/\∀p∈X.pn++f,p.1≠b)
  (keep:∀b o,b≠X.env.locals->b∉X.fs->b∉ch->s.heap.get? b=some o->H b=none->h'.get? b=some o)
  (slot:∀b o,b≠X.env.locals->b∈X.fs->b∉ch->s.heap.get? b=some o->H b=none->∃sl,h'.get? b=some {o with slots:=sl}) (free:∀b o,b∉ch->s.heap.get? b=some o->H b=none->w b=none)
  (there:∀b o,b∉ch->s.heap.get? b=some o->∃O,h'.get? b=some O)
  (tups:∀b xs,H b=some (.tup xs)->w b=some (.tup xs)) (frzs:∀b o u,H b=some (.frz o u)->w b=some (.frz o u)) (tbls:∀b ps,H b=some (.tbl ps)->∃more,w b=some (.tbl (ps++more)))
  (ns:∀m,s.heap.Ns X.env.locals m->h'.Ns X.env.locals m) (hok:HOk X.prog X.w w h') (W:aft g') :
  Inv X f g w {s with heap:=h',gens:=g',drawn:=d',toks:=t' }:=by
 have S:∀b o,X.s₀.heap.get? b=some o->b≠X.env.locals:=λb o e=>aa2 (aau (aal e) I.ok.above);have F:∀b o,X.s₀.heap.get? b=some o->b∉X.ex->b∉ch:=λb o e t J=>by
  rcases (y b J).1 with z|z
  .exact t z
  .exact absurd (aau (aal e) z) (acT _)
 have B:∀x c,X.env.cells.lookup x=some c->∀v,s.heap.IsCell c v->h'.IsCell c v:=by
  intro x c e v ⟨o,L,hd⟩;have D:c∉ch:=λz=>(y c z).2.2.1 x c e rfl
  by_cases V:c∈X.fs
  .obtain⟨sl,q⟩:=slot c o (I.cne x c e) V D L (I.freeC x c e);exact⟨_,q,hd⟩
  .exact⟨o,keep c o (I.cne x c e) V D L (I.freeC x c e),hd⟩
 refine⟨I.ok,I.os,W,⟨λb o e n J t=>?_,λb o e n J t=>?_,λb o e n t=>?_,λb o e t=>?_,λb xs e=>tups b xs (I.base.tups b xs e),λb o xs e=>frzs b o xs (I.base.frzs b o xs e),λb ps e=>?_⟩,?_,λx c e=>?_,?_,λx c e=>?_,λp U=>?_,hok,I.len⟩
 .exact keep b o (S b o e) J (F b o e t) (I.base.keep b o e n J t) (I.base.free b o e n t)
 .obtain⟨sl,G⟩:=I.base.slot b o e n J t;let⟨T,R⟩:=slot b _ (S b o e) J (F b o e t) G (I.base.free b o e n t);exact⟨T,R⟩
 .obtain⟨O,G⟩:=I.base.there b o e t;exact free b O (F b o e t) G (I.base.free b o e n t)
 .obtain⟨O,G⟩:=I.base.there b o e t;exact there b O (F b o e t) G
 .obtain⟨m1,G⟩:=I.base.tbls b ps e;let⟨m2,R⟩:=tbls b _ G;exact⟨m1++m2,by rw[R,Array.append_assoc]⟩
 .obtain⟨m,hn,hl⟩:=I.loc;refine⟨m,ns m hn,λi x v G R Y=>?_⟩;let⟨u,r,l⟩:=hl i x v G R Y;refine⟨u,r,?_⟩;rcases l with l|⟨k,c,e,z⟩
  .exact .inl l
  .exact .inr ⟨k,c,e,B x c e _ z⟩
 .obtain⟨v,z⟩:=I.cell x c e;exact⟨v,B x c e v z⟩
 .obtain⟨m,⟨o,_,_,L,_⟩,_⟩:=I.loc;exact free _ o (λz=>(y _ z).2.1 rfl) L I.free
 .obtain⟨v,o,L,hd⟩:=I.cell x c e;exact free c o (λz=>(y c z).2.2.1 x c e rfl) L (I.freeC x c e)
 .obtain⟨e,n,ne,nf,d⟩:=I.pin p U;have D:p.1∉ch:=λz=>(y p.1 z).2.2.2 p U rfl;exact⟨keep p.1 p.2 ne nf D e n,free p.1 p.2 D e n,ne,nf,d⟩
theorem Inv.un(I:Inv X f g H s)(u:Un X.fs [] H w s.heap h')(hok:HOk X.prog X.w w h'):Inv X f g w {s with heap:=h',toks:=t' }:=by
 let⟨m,⟨o,es,G,q,r⟩,_⟩:=id I.loc;let⟨J,B⟩:=u.any q I.free 'a';exact I.step (g':=s.gens) (d':=s.drawn) (ch:=[]) (λ_ z=>nomatch z) (λb o _ k _ e n=>u.keep b o e n k 'a') (λb o _ k _ e n=>u.slot b o e n k 'a') (λb o _ e n=>u.free b o e n 'a') (λb o _ e=>u.there b o e 'a') u.tups u.frzs u.tbls (λF y=>by
  let⟨D,l,p,d,t⟩:=y;rw[q]at d;cases d;exact⟨_,l,p,B,t⟩) hok I.bare
theorem Inv.call{d':Drawn}(I:Inv X f g H s)(u:Un (frs X.stack) ch H w s.heap h')(hok:HOk X.prog X.w w h')(J:aft g')
  (l:∀b∈ch,(b∈X.ex\/X.s₀.heap.objs.size≤b)/\b≠X.env.locals/\(∀x c,X.env.cells.lookup x=some c->c≠b)/\∀p∈X.pn++f,p.1≠b) :
  Inv X f g w {s with heap:=h',gens:=g',drawn:=d',toks:=t' }:=by
 let⟨m,⟨o,es,L,B,r⟩,_⟩:=id I.loc;let⟨R,q⟩:=u.any B I.free λz=>(l _ z).2.1 rfl;exact I.step l (λb o q G d e n=>u.keep b o e n (λz=>(aag.mp (I.stkSub b z)).elim q G) d) (λb o _ _ d e n=>u.any e n d) (λb o d e n=>u.free b o e n d) (λb o d e=>u.there b o e d) u.tups u.frzs u.tbls (λS F=>by
  let⟨O,t,y,k,D⟩:=F;rw[B]at k;cases k;exact⟨_,t,y,q,D⟩) hok J
theorem Inv.turned{d:Addr}(I:Inv X f g H s)(k:∀b o,b≠d->s.heap.get? b=some o->h'.get? b=some o)(J:H d=none)(y:d≠X.env.locals)
  (B:d∈X.ex\/X.s₀.heap.objs.size≤d) (G:∀x c,X.env.cells.lookup x=some c->c≠d) (L:∀p∈X.pn++f,p.1≠d):Inv X f g H {s with heap:=h',toks:=t' }:=by
 have t:∀b u,H b=some u->b≠d:=λb u e z=>by rw[z,J]at e;cases e
 refine I.step (g':=s.gens) (d':=s.drawn) (ch:=[d]) (λb F=>?_) (λb o _ _ l e _=>k b o (λz=>l (by simp[z])) e) (λb o _ _ l e _=>⟨o.slots,k b o (λz=>l (by simp[z])) e⟩) (λ_ _ _ _ n=>n)
  (λb o l e=>⟨o,k b o (λz=>l (by simp[z])) e⟩) (λ_ _ e=>e) (λ_ _ _ e=>e) (λb ps e=>⟨#[],by rw[e];simp⟩) (λm D=>?_) (λb u e=>?_) I.bare
 .have e:=by simpa using F
  subst e;exact⟨B,y,G,L⟩
 .obtain⟨o,es,ep,ho,r⟩:=D;exact⟨o,es,ep,k _ o (abH y) ho,r⟩
 .refine(I.hok b u e).stay (λc v l q=>k c v ?_ q) (λ_ q=>q) λ_ _ q=>q;rcases l with z|z
  .rw[z];exact t b u e
  .exact t c _ z
theorem Inv.tok(I:Inv X f g H s)(t:Nat):Inv X f g H {s with toks:=t}:=I.un (h':=s.heap) (t':=t) Un.refl I.hok
theorem Inv.kept(I:Inv X f g H s)(k:∀b u,s.heap.get? b=some u->h'.get? b=some u):Inv X f g H {s with heap:=h',toks:=t' }:=I.un (Un.kept k) (I.hok.kept k)
theorem Inv.laid(I:Inv X f g H s)(k:∀b u,s.heap.get? b=some u->h'.get? b=some u)(d:s.heap.objs.size≤a)(new:ObjOk X.prog X.w (upd H a o) h' a o) :
  Inv X f g (upd H a o) {s with heap:=h',toks:=t' }:=I.un (Un.laid k d (I.hok.fresh d)) (I.hok.laid k d new)
theorem Inv.write{x e:Addr}(I:Inv X f g H s)(mu:Mut (H x))(l:e=x\/H e=some (.own x))(k:∀b u,b≠e->s.heap.get? b=some u->h'.get? b=some u)(d:∃u,h'.get? e=some u)
  (new:ObjOk X.prog X.w (upd H x o) h' x o):Inv X f g (upd H x o) {s with heap:=h',toks:=t' }:=I.un (Un.write mu l k d) (I.hok.write mu l k d new)
def Inv.pins_of{d:List 'i'}(I:Inv X f g H s)(h:∀p∈d,s.heap.get? p.1=some p.2/\H p.1=none/\p.1≠X.env.locals/\p.1∉X.fs/\∀v,p.2.data≠.cell v):Inv X d g H s:=
 ⟨I.ok,I.os,I.bare,I.base,I.loc,I.cell,I.free,I.freeC,λp k=>(aaV.mp k).elim (λz=>I.pin p (ab0 _ z)) (h p),I.hok,I.len⟩
def vG(d:N.Nodup)(a:N[i]?=some x)(b:N[j]?=some x):i=j:=by
 let⟨m,l⟩:=AD.mp a;let⟨n,k⟩:=AD.mp b;exact(List.getElem_inj d).mp (l.trans k.symm)
theorem sK{Q:Unit->GT->Prop}(I:Inv X f g H s)(hN:X.N.Nodup)(S:X.N[i]?=some x)(F:Loc X.env.scope x)(r:RelV v u)
  (h:∀s',Inv X f (g.set i (some v)) H s'->(∃a,abk a s.heap s'.heap/\(a=X.env.locals\/X.env.cells.lookup x=some a))->Q () s') (hf:X.fn x=true\/X.env.scope.names.lookup x=some .local:=by first|exact .inl rfl|exact .inr rfl|assumption):wpAny M A (storeName X.env x u) Q E s:=by
 let⟨m,hn,hl⟩:=id I.loc;have R:(X.env.scope.kind == .class||(X.env.scope.kind == .module&&X.env.locals != X.env.globals))=false:=by rw[I.ok.kind];rfl
 have L:i<g.length:=by rw[I.len];exact(AD.mp S).1
 have cne:=I.cne;have t:∀{a:Addr}{h':aa1},(∃o,s.heap.get? a=some o/\H a=none)->abk a s.heap h'->HOk X.prog X.w H h':=λ{a h'} ha l b ob e=>by
  let⟨_,_,G⟩:=ha;refine(I.hok b ob e).stay (λc W D q=>(l.2 c ?_).trans q) (λ_ q=>q) λ_ _ q=>q;rintro rfl;rcases D with rfl|D
  .rw[G]at e;cases e
  .rw[G]at D;cases D
 rcases F with hk|hk
 .refine wpAny_storeName_local hk hn (λh' hn' l=>?_) R;let⟨oL,_,_,Z,_⟩:=id hn;refine h _ ⟨I.ok,I.os,I.bare,⟨λb o e n O F=>?_,λb o e n O F=>?_,I.base.free,λb o e F=>?_,I.base.tups,I.base.frzs,I.base.tbls⟩,⟨_,hn',λj y v' B J e3=>?_⟩,λy c e=>?_,I.free,I.freeC,λp hp=>?_,t ⟨oL,Z,I.free⟩ l,by simpa using I.len⟩ ⟨_,l,.inl rfl⟩
  .exact(l.2 b (aa2 (aau (aal e) I.ok.above))).trans (I.base.keep b o e n O F)
  .obtain⟨sl,B⟩:=I.base.slot b o e n O F;exact⟨sl,(l.2 b (aa2 (aau (aal e) I.ok.above))).trans B⟩
  .obtain⟨o',B⟩:=I.base.there b o e F;exact⟨o',(l.2 b (aa2 (aau (aal e) I.ok.above))).trans B⟩
  .by_cases hj:j=i
   .subst hj;rw[S]at B;cases B;rw[aa3 L]at J;cases J;exact⟨u,r,.inl ⟨hk,'a'⟩⟩
   .rw[aaS (abH hj)]at J;let⟨u',r',q⟩:=hl j y v' B J e3;refine⟨u',r',?_⟩;rcases q with⟨k,e⟩|⟨k,c,e,z⟩
    .refine .inl ⟨k,?_⟩;have:y≠x:=λe=>hj (vG hN B (e▸S));simp[this,e]
    .exact .inr ⟨k,c,e,z.sameBut l (cne y c e)⟩
  .obtain⟨W,z⟩:=I.cell y c e;exact⟨W,z.sameBut l (cne y c e)⟩
  .obtain⟨e,n,ne,nf,d⟩:=I.pin p hp;exact⟨(l.2 p.1 ne).trans e,n,ne,nf,d⟩
 .have hfn:X.fn x=true:=by
   rcases hf with z|z
   .exact z
   .rw[z]at hk;cases hk
  let⟨c,D⟩:=I.ok.has x (.inl hk);let⟨W,z⟩:=I.cell x c D;refine wpAny_storeName_cell I.ok.kind hk D z (λh' U l=>?_);let⟨oc,T,V⟩:=id z;refine h {s with heap:=h' } ⟨I.ok,I.os,I.bare,⟨λb o e n O F=>?_,λb o e n O F=>?_,I.base.free,λb o e F=>?_,I.base.tups,I.base.frzs,I.base.tbls⟩,⟨m,hn.sameBut l (abH (cne x c D)),λj y v' B J e3=>?_⟩,λy Y e=>?_,I.free,I.freeC,λp hp=>?_,t ⟨oc,T,I.freeC x c D⟩ l,by simpa using I.len⟩ ⟨c,l,.inr D⟩
  .exact(l.2 b (aa2 (aau (aal e) (I.ok.cab x c hfn D)))).trans (I.base.keep b o e n O F)
  .obtain⟨sl,B⟩:=I.base.slot b o e n O F;exact⟨sl,(l.2 b (aa2 (aau (aal e) (I.ok.cab x c hfn D)))).trans B⟩
  .obtain⟨o',B⟩:=I.base.there b o e F;exact⟨o',(l.2 b (aa2 (aau (aal e) (I.ok.cab x c hfn D)))).trans B⟩
  .by_cases hj:j=i
   .subst hj;rw[S]at B;cases B;rw[aa3 L]at J;cases J;exact⟨u,r,.inr ⟨.inl hk,c,D,U⟩⟩
   .rw[aaS (abH hj)]at J;let⟨u',r',q⟩:=hl j y v' B J e3;refine⟨u',r',?_⟩;rcases q with q|⟨k,Y,e,z'⟩
    .exact .inl q
    .refine .inr ⟨k,Y,e,z'.sameBut l ?_⟩;rintro rfl;exact hj (vG hN B (I.ok.inj _ _ _ e D▸S))
  .by_cases hcc:Y=c
   .subst hcc;exact⟨_,U⟩
   .obtain⟨w2,z2⟩:=I.cell y Y e;exact⟨w2,z2.sameBut l hcc⟩
  .obtain⟨e,n,ne,nf,d⟩:=I.pin p hp;refine⟨(l.2 p.1 ?_).trans e,n,ne,nf,d⟩;intro q;rw[q,T]at e;have q':oc=p.2:=aaA e;exact d W (by rw[<-q'];exact V)
theorem ji{Q:Unit->GT->Prop}(I:Inv X f g H s)(d:X.N.Nodup)(l:X.N[i]?=some x)(n:Loc X.env.scope x)(r:RelV v u)
  (h:∀s',Inv X f (g.set i (some v)) H s'->Q () s') (m:X.fn x=true\/X.env.scope.names.lookup x=some .local:=by first|exact .inl rfl|exact .inr rfl|assumption):wpAny M A (storeName X.env x u) Q E s:=
 sK I d l n r (λs' k _=>h s' k) m
theorem Inv.call'{s':GT}(I:Inv X f g H s)(k:s'.os=s.os)(u:Un (frs X.stack) ch H w s.heap s'.heap)(hok:HOk X.prog X.w w s'.heap)(l:aft s'.gens)
  (d:∀b∈ch,(b∈X.ex\/X.s₀.heap.objs.size≤b)/\b≠X.env.locals/\(∀x c,X.env.cells.lookup x=some c->c≠b)/\∀p∈X.pn++f,p.1≠b):Inv X f g w s':=by
 let⟨h',g',d',t',m⟩:=s';have e:=k;subst e;exact I.call (g':=g') (t':=t') (d':=d') u hok l d
end
abbrev XK:=Ad->Option Addr->Hp->Prop
abbrev St:=List (Option V)
abbrev VK:=V->Hp->Prop
abbrev TE:=St->Hp->VK->Prop
abbrev TT:=St->Hp->(Bool->Hp->Prop)->Prop
abbrev TA:=St->Hp->(List V->Hp->Prop)->Prop
structure Ends where
 nx:St->Hp->Prop
 rt:VK
 bk:St->Hp->Prop:=λ_ _=>False
 ct:St->Hp->Prop:=λ_ _=>False
abbrev TS:=Ends->St->Hp->Prop
def EP(X:Cx)(pins:List 'i')(σ:St)(Q:VK)(u:Ad)(s':GT):Prop:=∃v d,Inv X pins σ d s'/\RelV v u/\Q v d
def TP(X:Cx)(pins:List 'i')(σ:St)(Q:Bool->Hp->Prop)(b:Bool)(s':GT):Prop:=∃d,Inv X pins σ d s'/\Q b d
def AP(X:Cx)(pins:List 'i')(σ:St)(Q:List V->Hp->Prop)(us:List Ad)(s':GT):Prop:=∃vs d,Inv X pins σ d s'/\Vals vs us/\Q vs d
def SP(X:Cx)(pins:List 'i')(D:Ends)(f:Flow)(s':GT):Prop:=
 match f with
 | .next=>∃d k,Inv X pins d k s'/\D.nx d k
 | .brk=>∃d k,Inv X pins d k s'/\D.bk d k
 | .cont=>∃d k,Inv X pins d k s'/\D.ct d k
 | .ret u=>∃v d k,Inv X pins d k s'/\RelV v u/\D.rt v k
def PE(X:Cx)(e:Expr)(t:TE):Prop:=
 ∀(pins:List 'i') (s:GT) (σ:St) (H:Hp) (Q:VK),Inv X pins σ H s->t σ H Q->wpAny (model X.prog X.w) X.A (eval e X.env) (EP X pins σ Q) X.xe s
def PT(X:Cx)(e:Expr)(t:TT):Prop:=
 ∀(pins:List 'i') (s:GT) (σ:St) (H:Hp) (Q:Bool->Hp->Prop),Inv X pins σ H s->t σ H Q->wpAny (model X.prog X.w) X.A (isTrue e X.env (eval e X.env)) (TP X pins σ Q) X.xe s
def PW(X:Cx)(e:Expr)(t:TT):Prop:=
 ∀(d:Sem Ad) (pins:List 'i') (s:GT) (σ:St) (H:Hp) (Q:Bool->Hp->Prop),Inv X pins σ H s->t σ H Q->wpAny (model X.prog X.w) X.A (isTrue e X.env d) (TP X pins σ Q) X.xe s
def PW.pt{t:TT}(h:PW X e t):PT X e t:=h _
def PA(X:Cx)(es:List Expr)(t:TA):Prop:=
 ∀(pos:Pos) (pins:List 'i') (s:GT) (σ:St) (H:Hp) (Q:List V->Hp->Prop),Inv X pins σ H s->t σ H Q->wpAny (model X.prog X.w) X.A (spliced (abq pos (aac es X.env))) (AP X pins σ Q) X.xe s
def PS(X:Cx)(st:Stmt)(t:TS):Prop:=
 ∀(pins:List 'i') (s:GT) (σ:St) (H:Hp) (D:Ends),Inv X pins σ H s->t D σ H->wpAny (model X.prog X.w) X.A (exec st X.env) (SP X pins D) X.xe s
def PSs(X:Cx)(st:List Stmt)(t:TS):Prop:=
 ∀(pins:List 'i') (s:GT) (σ:St) (H:Hp) (D:Ends),Inv X pins σ H s->t D σ H->wpAny (model X.prog X.w) X.A (execs st X.env) (SP X pins D) X.xe s
theorem thn{k:Type}{t:Sem k}{Q d:k->GT->Prop}{s:GT}(h:wpAny M A t Q E s)(l:∀a s,Q a s->d a s):wpAny M A t d E s:=ach h l λ_ _ x=>x
section
variable {X:Cx}
def tVar(i:Nat):TE:=λσ H Q=>∃v,σ[i]?=some (some v)/\Q v H
def tC(v:V):TE:=λ_ H Q=>Q v H
theorem Jt(q:X.N[i]?=some x)(B:Vis X.env.scope x)(hd:(x=='g')=false:=by decide)(n:(x==("__classdict__" : Str))=false:=by decide):PE X (.Name x pos) (tVar i):=by
 intro pins s σ H Q I h;let⟨v,e,h⟩:=h;let⟨m,y,z⟩:=I.loc;let⟨u,r,l⟩:=z i x v q e B;have k:EP X pins σ Q u s:=⟨v,H,I,r,h⟩;rcases l with⟨hk,t⟩|⟨hk,c,p,d⟩
 .exact wpAny_Name (wpAny_loadName_local I.ok.kind hk y t k) hd
 .rcases hk with hk|hk
  .exact wpAny_Name (wpAny_loadName_cell I.ok.kind hk p d k) hd
  .exact wpAny_Name (wpAny_loadName_free I.ok.kind hk p d k n) hd
theorem S9{i j pos}:PE X (.Constant (.int i) j pos) (tC (.int i)):=λ_ _ _ H _ I h=>wpAny_Constant_int ⟨.int i,H,I.tok _,⟨_,rfl⟩,h⟩
theorem Wj{b j pos}:PE X (.Constant (.bool b) j pos) (tC (.bl b)):=λ_ _ _ H _ I h=>Constant_bool ⟨.bl b,H,I,rfl,h⟩
theorem Q9{j pos}:PE X (.Constant .none j pos) (tC .non):=λ_ _ _ H _ I h=>Constant_none ⟨.non,H,I,rfl,h⟩
theorem Qh{x j pos}:PE X (.Constant (.str x) j pos) (tC (.str x)):=λ_ _ _ H _ I h=>Calls.Constant_str ⟨.str x,H,I.tok _,⟨_,rfl⟩,h⟩
def Gl(X:Cx)(x:Str):Prop:=X.env.kindOf x=some .globalImplicit
theorem Bh{s:GT}(I:Inv X pins σ H s)(k:Gl X x)(d:X.mg x=some u)(h:Q u s)
  (hd:(x=='g')=false:=by decide):wpAny (model X.prog X.w) X.A (eval (.Name x pos) X.env) Q E s:=
 afa I.ok.kind k (Calls.loadGlobal_global (by rw[I.ok.glob];exact I.mod.glob.keeps I.bk) d h) hd
theorem j7{s:GT}(I:Inv X pins σ H s)(l:Gl X x)(k:X.mg x=none)(p:aa0 x=some u)(h:Q u s)
  (n:x ≠ "__name__":=by decide) (hd:(x=='g')=false:=by decide):wpAny (model X.prog X.w) X.A (eval (.Name x pos) X.env) Q E s:=by
 let⟨mb,d,m⟩:=I.mod.blt;exact afa I.ok.kind l (Calls.loadGlobal_builtin (by rw[I.ok.glob];exact I.mod.glob.keeps I.bk) k (by rw[I.ok.blt];exact d.keeps I.bk) ((m x n).trans p) h) hd
theorem J1(k:Gl X x)(d:X.mg x=none)(m:aa0 x=some u)(r:RelV v u)(l:x ≠ "__name__":=by decide)(hd:(x=='g')=false:=by decide):PE X (.Name x pos) (tC v):=
 λ_ _ _ H _ I h=>j7 I k d m ⟨v,H,I,r,h⟩ l hd
variable {a b:Expr}{ta tb:TE}{pos:Pos}
def tB(t:TE):TT:=λσ H Q=>t σ H λx d=>∃c,x = .bl c/\Q c d
theorem UA{t:TE}(h:PE X e t)(n:∀k,isTrue e X.env k=(do let v <- k;acN e.pos;ad2 [v] (truthy v)):=by intro _;rfl):PT X e (tB t):=by
 intro pins s σ H Q I p;refine isTrue_plain (thn (h pins s σ H _ I p) λv s1 ⟨x,y,l,r1,m⟩=>?_) (n _);let⟨d,rfl,q⟩:=m;cases r1;exact acO ⟨y,l,q⟩
variable {f g:TT}{rest:List Expr}
def tAnd(t u:TT):TT:=λσ H Q=>t σ H λc d=>if c=true then u σ d Q else Q false d
def tOr(t u:TT):TT:=λσ H Q=>t σ H λc d=>if c=true then Q true d else u σ d Q
def tNot(t:TT):TT:=λσ H Q=>t σ H λc d=>Q (!c) d
theorem Lc(d:PT X a f):PW X (.BoolOp .And [a] pos) f:=by
 intro k pins s σ H Q I h;refine isTrue_and (thn (d pins s σ H Q I h) λc s1 e=>?_)
 cases c with
 |true=>exact isTrue_and_nil e
 |false=>exact e
theorem Tq(d:PT X a f):PW X (.BoolOp .Or [a] pos) f:=by
 intro k pins s σ H Q I h;refine isTrue_or (thn (d pins s σ H Q I h) λc s1 e=>?_)
 cases c with
 |false=>exact isTrue_or_nil e
 |true=>exact e
theorem Ux(n:PT X a f)(l:PW X (.BoolOp .And (b::rest) pos) g):PW X (.BoolOp .And (a::b::rest) pos) (tAnd f g):=by
 intro m pins s σ H Q I h;refine isTrue_and (thn (n pins s σ H _ I h) λc s1 ⟨k,d,q⟩=>?_)
 cases c with
 |true=>exact l m pins s1 σ k Q d q
 |false=>exact⟨k,d,q⟩
theorem Xy(n:PT X a f)(l:PW X (.BoolOp .Or (b::rest) pos) g):PW X (.BoolOp .Or (a::b::rest) pos) (tOr f g):=by
 intro m pins s σ H Q I h;refine isTrue_or (thn (n pins s σ H _ I h) λc s1 ⟨k,d,q⟩=>?_)
 cases c with
 |true=>exact⟨k,d,q⟩
 |false=>exact l m pins s1 σ k Q d q
theorem Qj(d:PT X a f):PT X (.UnaryOp .Not a pos) (tNot f):=by
 intro pins s σ H Q I h;exact isTrue_not (d pins s σ H _ I h)
def VF(ta tb:TE):TE:=λσ H Q=>ta σ H λx d=>∃c,x = .bl c/\if c=true then tb σ d Q else Q (.bl false) d
def tOrV(ta tb:TE):TE:=λσ H Q=>ta σ H λx d=>∃c,x = .bl c/\if c=true then Q (.bl true) d else tb σ d Q
def XO(ta:TE):TE:=λσ H Q=>ta σ H λx d=>∃c,x = .bl c/\Q (.bl (!c)) d
theorem Sg{op}{t:TE}(h:PE X a t):PE X (.BoolOp op [a] pos) t:=λpins s σ H Q I d=>BoolOp_one (h pins s σ H Q I d)
theorem Qk(m:PE X a ta)(l:PE X (.BoolOp .And (b::rest) pos) tb):PE X (.BoolOp .And (a::b::rest) pos) (VF ta tb):=by
 intro pins s σ H Q I h;refine BoolOp_and (thn (m pins s σ H _ I h) λv s1 ⟨x,k,d,r1,q⟩=>?_);let⟨c,rfl,q⟩:=q;cases r1;refine acO ?_
 cases c with
 |true=>exact l pins s1 σ k Q d q
 |false=>exact⟨.bl false,k,d,rfl,q⟩
theorem V9(m:PE X a ta)(l:PE X (.BoolOp .Or (b::rest) pos) tb):PE X (.BoolOp .Or (a::b::rest) pos) (tOrV ta tb):=by
 intro pins s σ H Q I h;refine BoolOp_or (thn (m pins s σ H _ I h) λv s1 ⟨x,k,d,r1,q⟩=>?_);let⟨c,rfl,q⟩:=q;cases r1;refine acO ?_
 cases c with
 |false=>exact l pins s1 σ k Q d q
 |true=>exact⟨.bl true,k,d,rfl,q⟩
theorem QY(d:PE X a ta):PE X (.UnaryOp .Not a pos) (XO ta):=by
 intro pins s σ H Q I h;refine UnaryOp_ (thn (d pins s σ H _ I h) λv s1 ⟨x,l,k,r1,q⟩=>?_);let⟨c,rfl,q⟩:=q;cases r1;exact not_of (acO ⟨.bl (!c),l,k,rfl,q⟩)
def tIf(t:TT)(ta tb:TE):TE:=λσ H Q=>t σ H λc d=>if c=true then ta σ d Q else tb σ d Q
theorem IK(p:PT X c f)(n:PE X a ta)(m:PE X b tb):PE X (.IfExp c a b pos) (tIf f ta tb):=by
 intro pins s σ H Q I h;refine wpAny_IfExp (thn (p pins s σ H _ I h) λd s1 ⟨l,k,q⟩=>?_)
 cases d with
 |true=>exact n pins s1 σ l Q k q
 |false=>exact m pins s1 σ l Q k q
end
def SqL(K:aae)(H:Hp)(a:Addr)(xs:List V):Prop:=
 Rd H a (.lst xs) \/
  ∃(o:Obj) (d:Array Ad) (n:Nat),K.lookup a=some o/\o.cls = .type "list"/\o.dict=none/\o.data = .seq d n/\d.size≤aak/\Vals xs d.toList
def SqT(K:aae)(H:Hp)(a:Addr)(xs:List V):Prop:=
 Rd H a (.tup xs) \/
  ∃(o:Obj) (d:Array Ad) (n:Nat),K.lookup a=some o/\o.cls = .type "tuple"/\o.dict=none/\o.data = .seq d n/\d.size≤aak/\Vals xs d.toList
def absV:Ad->Option V
 | .none=>some .non
 | .bool b=>some (.bl b)
 | .int i _=>some (.int i)
 | .str x _=>some (.str x)
 | .bytes b _=>some (.byt b)
 | .float b _=>some (.flt b)
 | .ref a=>some (.ref a)
 | .type n=>some (.ty n)
 |_=>none
theorem RelV.abs{x:V}(r:RelV x u):absV u=some x:=by
 cases x with
 |non=>cases r;rfl
 |bl _=>cases r;rfl
 |int _=>let⟨t,rfl⟩:=r;rfl
 |str _=>let⟨t,rfl⟩:=r;rfl
 |byt _=>let⟨t,rfl⟩:=r;rfl
 |flt _=>let⟨t,rfl⟩:=r;rfl
 |ref _=>cases r;rfl
 |ty _=>cases r;rfl
def RelV.inj{x y:V}(r:RelV x u)(q:RelV y u):x=y:=aaA (r.abs.symm.trans q.abs)
theorem Vals.inj:∀{xs ys:List V}{us:List Ad},Vals xs us->Vals ys us->xs=ys
 |_,_,_,.nil,.nil=>rfl
 |_,_,_,.cons r t,.cons r' t'=>by rw[r.inj r',Vals.inj t t']
section
variable {X:Cx}{b:List 'i'}{c:St}{H:Hp}{s:GT}{a:Addr}{xs ys:List V}
def SqL.of(h:H a=some (.lst xs)):SqL K H a xs:=.inl (.inl h)
def SqT.of(h:H a=some (.tup xs)):SqT K H a xs:=.inl (.inl h)
theorem Inv.list(I:Inv X b c H s)(h:SqL X.K H a xs):∃d:List Ad,Vals xs d/\PlainL s.heap a d.toArray/\xs.length≤aak:=by
 rcases h with h|⟨o,d,n,hk,l,hd,k,m,r⟩
 .obtain⟨z,d,n,r,e⟩:=h.ok I.hok;exact⟨d,r,⟨_,n,e,rfl,rfl,rfl⟩,z⟩
 .refine⟨d.toList,r,⟨o,n,I.kIn a o hk,l,hd,by simpa using k⟩,?_⟩;have e:=r.length
  grind
theorem Inv.tuple(I:Inv X b c H s)(h:SqT X.K H a xs):∃d:List Ad,Vals xs d/\IsTup s.heap a d.toArray/\xs.length≤aak:=by
 rcases h with h|⟨o,d,n,hk,l,hd,k,m,r⟩
 .obtain⟨z,d,r,p⟩:=h.ok I.hok;exact⟨d,r,p.tup,z⟩
 .refine⟨d.toList,r,⟨o,I.kIn a o hk,l,n,by simpa using k⟩,?_⟩;have e:=r.length
  simp_all
theorem Inv.tupleP(I:Inv X b c H s)(h:SqT X.K H a xs):∃d:List Ad,Vals xs d/\PlainT s.heap a d.toArray/\xs.length≤aak:=by
 rcases h with h|⟨o,d,n,hk,l,hd,k,m,r⟩
 .obtain⟨z,d,r,p⟩:=h.ok I.hok;exact⟨d,r,p,z⟩
 .refine⟨d.toList,r,⟨o,I.kIn a o hk,l,hd,n,by simpa using k⟩,?_⟩;have e:=r.length
  simp_all
theorem Inv.list_inj(I:Inv X b c H s)(h:SqL X.K H a xs)(h':SqL X.K H a ys):xs=ys:=by
 let⟨q,r,⟨o,n,e,_,_,d⟩,_⟩:=I.list h;let⟨m,p,⟨t,y,l,_,_,k⟩,_⟩:=I.list h';rw[e]at l;cases l;rw[d]at k;injection k with d1 _
 have:=by simpa using congrArg af4 d1
 subst this;exact r.inj p
theorem Inv.tuple_inj(I:Inv X b c H s)(h:SqT X.K H a xs)(h':SqT X.K H a ys):xs=ys:=by
 let⟨q,r,⟨o,e,_,n,d⟩,_⟩:=I.tuple h;let⟨m,p,⟨t,l,_,y,k⟩,_⟩:=I.tuple h';rw[e]at l;cases l;rw[d]at k;injection k with d1 _
 have:=by simpa using congrArg af4 d1
 subst this;exact r.inj p
end
abbrev Cx.wish(X:Cx)(E:Ad->GT->Prop):Cx:={X with xe:=E}
abbrev Cx.nox(X:Cx):Cx:=X.wish λ_ _=>False
def Cx.Ok.wish(ok:X.Ok)(E:Ad->GT->Prop):(X.wish E).Ok:=
 ⟨ok.mod,ok.kind,ok.glob,ok.blt,ok.above,ok.inj,ok.has,ok.cab,ok.hd,ok.frames,ok.stk,ok.exf,ok.bs,ok.bsz,ok.noex,ok.exfs,ok.funs,ok.frf⟩
def Cx.Ok.unwish(ok:(X.wish E).Ok):X.Ok:=
 ⟨ok.mod,ok.kind,ok.glob,ok.blt,ok.above,ok.inj,ok.has,ok.cab,ok.hd,ok.frames,ok.stk,ok.exf,ok.bs,ok.bsz,ok.noex,ok.exfs,ok.funs,ok.frf⟩
section
variable {X:Cx}{p:List 'i'}{a:St}{H:Hp}{s:GT}{E:Ad->GT->Prop}
def Inv.wish(I:Inv X p a H s)(E:Ad->GT->Prop):Inv (X.wish E) p a H s:=⟨I.ok.wish E,I.os,I.bare,I.base,I.loc,I.cell,I.free,I.freeC,I.pin,I.hok,I.len⟩
def Inv.unwish(I:Inv (X.wish E) p a H s):Inv X p a H s:=⟨I.ok.unwish,I.os,I.bare,I.base,I.loc,I.cell,I.free,I.freeC,I.pin,I.hok,I.len⟩
theorem SP.unwish{D:Ends}{f:Flow}{s':GT}(h:SP (X.wish E) p D f s'):SP X p D f s':=by
 cases f with
 |next=>let⟨d,k,I,q⟩:=h;exact⟨d,k,I.unwish,q⟩
 |brk=>let⟨d,k,I,q⟩:=h;exact⟨d,k,I.unwish,q⟩
 |cont=>let⟨d,k,I,q⟩:=h;exact⟨d,k,I.unwish,q⟩
 |ret u=>let⟨v,d,k,I,r,q⟩:=h;exact⟨v,d,k,I.unwish,r,q⟩
theorem PSs.nox{st:List Stmt}{t:TS}(h:PSs X.nox st t):PSs X st t:=λp s a H D I d=>
 ach (h p s a H D (I.wish _) d) (λ_ _ q=>q.unwish) λ_ _ z=>acs z
end
section
variable {X:Cx}{st:Stmt}{rest:List Stmt}{t u:TS}{e:Expr}{g:TE}{pos:Pos}
def VE:TS:=λD σ H=>D.nx σ H
def tSeq(t u:TS):TS:=λD σ H=>t {D with nx:=u D} σ H
theorem Ll:PSs X [] VE:=λ_ _ σ H _ I h=>aeR ⟨σ,H,I,h⟩
theorem vJ(l:PS X st t)(m:PSs X rest u):PSs X (st::rest) (tSeq t u):=by
 intro pins s σ H D I h;refine wpAny_execs_cons (thn (l pins s σ H {D with nx:=u D} I h) λf s1 q=>?_)
 cases f with
 |next=>
  let⟨d,k,n,q⟩:=q;exact m pins s1 d k D n q
 |ret v=>exact q
 |brk=>exact q
 |cont=>exact q
theorem KG(d:PS X st t):PSs X [st] t:=by
 intro pins s σ H D I h;refine wpAny_execs_cons (thn (d pins s σ H D I h) λf s1 q=>?_)
 cases f with
 |next=>exact aeR q
 |ret v=>exact q
 |brk=>exact q
 |cont=>exact q
def Inv.quiet{s:GT}(I:Inv X pins σ H s):interactive X.env=false:=by simp[interactive,I.ok.kind]
def V6(g:TE):TS:=λD σ H=>g σ H λ_ d=>D.nx σ d
theorem Kz(d:PE X e g)(k:abG e none pos.line X.env=pure false:=by rfl):PS X (.Expr e pos) (V6 g):=by
 intro pins s σ H D I h;exact wpAny_Expr_any (thn (d pins s σ H _ I h)<|by intro v s1 ⟨x,m,l,r1,q⟩;exact⟨σ,m,l,q⟩) I.quiet k
def tRet(g:TE):TS:=λD σ H=>g σ H D.rt
theorem Vn(d:PE X e g):PS X (.Return (some e) pos) (tRet g):=by
 intro pins s σ H D I h;exact wpAny_Return_some (thn (d pins s σ H _ I h)<|by intro v s1 ⟨x,l,k,r1,q⟩;exact⟨x,σ,l,k,r1,q⟩)
def tIfS(c:TT)(t u:TS):TS:=λD σ H=>c σ H λb d=>if b=true then t D σ d else u D σ d
theorem WZ{a b:List Stmt}{k:TT}(p:PT X c k)(n:PSs X a t)(y:PSs X b u):PS X (.If c a b pos) (tIfS k t u):=by
 intro pins s σ H D I h;refine wpAny_If (thn (p pins s σ H _ I h) λd s1 ⟨m,l,q⟩=>?_)
 cases d with
 |true=>exact n pins s1 σ m D l q
 |false=>exact y pins s1 σ m D l q
def UO:TS:=λ_ _ _=>False
theorem DT:PS X st UO:=λ_ _ _ _ _ _ h=>h.elim
end
abbrev TG:=V->St->Hp->(St->Hp->Prop)->Prop
abbrev TGs:=List V->St->Hp->(St->Hp->Prop)->Prop
def PG(X:Cx)(d:Expr)(t:TG):Prop:=
 ∀(pins:List 'i') (s:GT) (σ:St) (H:Hp) (v:V) (u:Ad) (Q:St->Hp->Prop),Inv X pins σ H s->RelV v u->t v σ H Q ->
  wpAny (model X.prog X.w) X.A (afC d X.env u) (λ_ m=>∃k l,Inv X pins k l m/\Q k l) X.xe s
def PGs(X:Cx)(ts:List Expr)(t:TGs):Prop:=
 ∀(pins:List 'i') (s:GT) (σ:St) (H:Hp) (vs:List V) (us:List Ad) (Q:St->Hp->Prop),Inv X pins σ H s->Vals vs us->t vs σ H Q ->
  wpAny (model X.prog X.w) X.A (assignInOrder ((abZ ts X.env).map (·.2)) us) (λ_ l=>∃d k,Inv X pins d k l/\Q d k) X.xe s
abbrev TIp:=V->V->Hp->VK->Prop
def PIp(X:Cx)(op:afb)(t:TIp):Prop:=
 ∀(pins:List 'i') (s:GT) (σ:St) (H:Hp) (x y:V) (v u:Ad) (Q:VK),Inv X pins σ H s->RelV x v->RelV y u->t x y H Q ->
  wpAny (model X.prog X.w) X.A (inplaceOp op v u) (EP X pins σ Q) X.xe s
section
variable {X:Cx}{pos:Pos}
def Gc(i:Nat):TG:=λv σ H Q=>Q (σ.set i (some v)) H
theorem Ol(d:X.N.Nodup)(l:X.N[i]?=some x)(n:Loc X.env.scope x)(m:X.fn x=true\/X.env.scope.names.lookup x=some .local:=by first|exact .inl rfl|exact .inr rfl|assumption):PG X (.Name x pos) (Gc i):=by
 intro pins s σ H v u Q I r h;exact wpAny_assign_Name (ji I d l n r (λp k=>⟨_,H,k,h⟩) m)
def gNil:TGs:=λvs σ H Q=>vs=[]/\Q σ H
def VQ(t:TG)(u:TGs):TGs:=λvs σ H Q=>∃v r,vs=v::r/\t v σ H λd k=>u r d k Q
theorem Md:PGs X [] gNil:=by
 intro pins s σ H vs us Q I r h;let⟨e,h⟩:=h;exact assignInOrder_nil ⟨σ,H,I,h⟩
theorem GL{t:TG}{u:TGs}(k:PG X e t)(p:PGs X es u)
  (l:(abZ (e::es) X.env).map (·.2)=afC e X.env::(abZ es X.env).map (·.2):=by rfl):PGs X (e::es) (VQ t u):=by
 intro pins s σ H vs us Q I r h;let⟨v,z,n,h⟩:=h;subst n
 cases r with
 |cons r rr=>
  rw[l];refine afc (thn (k pins s σ H _ _ _ I r h) λ_ s1 ⟨d,y,m,q⟩=>?_);exact p pins s1 d y _ _ Q m rr q
def gTup(K:aae)(n:Nat)(t:TGs):TG:=λv σ H Q=>∃a d,v = .ref a/\SqT K H a d/\d.length=n/\t d σ H Q
theorem QJ{k:Nat}{t:TGs}{n:Nat}(q:X.calm=true)(h:PGs X es t)
  (G:(abZ es X.env).length=n:=by rfl) (d:(abZ es X.env).findIdx? (·.1)=none:=by rfl):PG X (.Tuple es k pos) (gTup X.K n t):=by
 intro pins s σ H v u Q I r l;let⟨a,p,y,F,J,l⟩:=l;subst y;cases r;let⟨m,D,B,R⟩:=I.tuple F;refine assign_Tuple_tuple (I.ok.hd q) B (by simp[G,<-J,D.length]) d λO L=>?_;have z:=I.kept (t':=s.toks) λb o e=>L b o (aa2 (aal e)) e;exact h pins _ σ H p _ Q z ‹_› l
def tAsg(te:TE)(g:TG):TS:=λD σ H=>te σ H λx d=>g x σ d D.nx
theorem Uz{g:TG}(n:PE X e te)(t:PG X tg g)(l:adO [tg] e pos.line X.env=pure false:=by rfl)(p:adP [tg] e X.env=pure none:=by rfl)
  (d:(abZ [tg] X.env).map (·.2)=[afC tg X.env]:=by rfl):PS X (.Assign [tg] e pos) (tAsg te g):=by
 intro pins s σ H D I h;refine wpAny_Assign_stores (thn (n pins s σ H _ I h) λv s1 ⟨x,y,m,r1,k⟩=>?_) l p;rw[d];exact thn (t pins s1 σ y x v _ m r1 k) λ_ s2 q=>q
theorem U5{p:Pos}(d:X.N.Nodup)(k:X.N[i]?=some x)(F:Loc X.env.scope x)(z:PE X e te)(l:abG e (some (.Name x p)) pos.line X.env=pure false:=by rfl)(m:X.fn x=true\/X.env.scope.names.lookup x=some .local:=by first|exact .inl rfl|exact .inr rfl|assumption) :
  PS X (.Assign [.Name x p] e pos) (tAsg te (Gc i)):=by
 intro pins s σ H D I h;refine wpAny_Assign_Name (thn (z pins s σ H _ I h) λv s1 ⟨y,B,n,r1,q⟩=>?_) l;exact ji n d k F r1 (λs2 t=>⟨_,B,t,q⟩) m
def tPar(i j:Nat)(ta:TA):TS:=λD σ H=>ta σ H λvs d=>∃v w,vs=[v,w]/\D.nx ((σ.set i (some v)).set j (some w)) d
theorem UH{y:Str}{a b:Expr}{ta:TA}{z l pt:Pos}{kt k2 pt2}(hc:X.calm=true)(F:X.N.Nodup)(R:X.N[i]?=some x)(hj:X.N[j]?=some y)(m:i≠j)
  (J:X.env.scope.names.lookup x=some .local) (G:X.env.scope.names.lookup y=some .local) (Z:PA X [a,b] ta)
  (hw:adP [.Tuple [.Name x z,.Name y l] kt pt] (.Tuple [a,b] k2 pt2) X.env=pure (some [x,y]))
  (hs:adO [.Tuple [.Name x z,.Name y l] kt pt] (.Tuple [a,b] k2 pt2) pos.line X.env=pure false:=by rfl) :
  PS X (.Assign [.Tuple [.Name x z,.Name y l] kt pt] (.Tuple [a,b] k2 pt2) pos) (tPar i j ta):=by
 intro pins s σ H D I h;rw[exec_Assign_arm];refine gT (adk ?_);rw[hs];refine gT (Ld ?_);rw[if_neg ⋯];refine gT (Tuple_ (thn (Z _ pins s σ H _ I h) λus s1 ⟨vs,O,S,r1,t⟩=>?_));let⟨v,w,T,t⟩:=t;subst T;let⟨k,d,rfl,rv,n⟩:∃k d,us=[k,d]/\RelV v k/\RelV w d:=by
  cases r1 with
  | cons p q=>
   cases q with
   |cons W V=>
    cases V;exact⟨_,_,rfl,p,W⟩
 refine abd ?_ (by show 2≤aak;decide);have I2:Inv X pins σ O {s1 with heap:=s1.heap.push {cls:=.type "tuple",data:=.seq [k,d].toArray} }:=S.kept (t':=s1.toks) λb o e=>Io _ e;rw[hw];refine gT (Ld ?_);refine gT (abI (gT (unpackItems_tuple (items:=#[k,d]) (I.ok.hd hc) (IsTup.new s1.heap _) λh' B=>?_)));have U:=I2.kept (h':=h') (t':=s1.toks) λb o e=>B b o (aa2 (aal e)) e;show wpAny _ _ (assignInOrder [λv=>bindName X.env y v,λv=>bindName X.env x v] [d,k] >>= λ_=>pure Flow.next) _ _ _;refine gT (afc (wpAny_bindName (ji U F hj (.inl G) n (λs2 Y=>?_) (.inr G))));refine afc (wpAny_bindName (ji Y F R (.inl J) rv (λs3 L=>assignInOrder_nil (Ld ?_)) (.inr J)));rw[List.set_comm _ _ (abH m)]at L;exact⟨_,O,L,t⟩
def tAug(i:Nat)(te:TE)(ti:TIp):TS:=λD σ H=>∃x,σ[i]?=some (some x)/\te σ H λy k=>ti x y k λz d=>D.nx (σ.set i (some z)) d
theorem TQ{op:afb}{ti:TIp}{p:Pos}(G:X.N.Nodup)(F:X.N[i]?=some x)(t:Loc X.env.scope x)(he:PE X e te)(U:PIp X op ti)(L:X.fn x=true\/X.env.scope.names.lookup x=some .local:=by first|exact .inl rfl|exact .inr rfl|assumption) :
  PS X (.AugAssign (.Name x p) op e pos) (tAug i te ti):=by
 intro pins s σ H D I h;let⟨v,O,h⟩:=h;let⟨m,hn,hl⟩:=I.loc;have B:Vis X.env.scope x:=by rcases t with k|k;exact .inl k;exact .inr (.inl k)
 let⟨u,r,l⟩:=hl i x v F O B;refine wpAny_AugAssign_Name ?_;have go:wpAny (model X.prog X.w) X.A (eval e X.env) (λw n=>wpAny (model X.prog X.w) X.A (inplaceOp op u w) (λr q=>wpAny (model X.prog X.w) X.A (storeName X.env x r) (λ_=>SP X pins D .next) X.xe q) X.xe n) X.xe s:=by
  refine thn (he pins s σ H _ I h) λw s1 ⟨y,H1,R,r1,V⟩=>?_;refine thn (U pins s1 σ H1 v y u w _ R r r1 V) λz s2 ⟨zv,T,Z,W,q2⟩=>?_;exact ji Z G F t W (λs3 S=>⟨_,T,S,q2⟩) L
 rcases l with⟨hk,J⟩|⟨hk,c,Y,d⟩
 .exact wpAny_loadName_local I.ok.kind hk hn J go
 .rcases hk with hk|hk
  .exact wpAny_loadName_cell I.ok.kind hk Y d go
  .rcases t with k|k
   .have:X.env.scope.names.lookup x=some .free:=hk;rw[k]at this;cases this
   .have:X.env.scope.names.lookup x=some .free:=hk;rw[k]at this;cases this
end
section
variable {X:Cx}{pos:Pos}
def Sk(c:TT)(tb:TS):TS:=λD σ H=>∃W:Nat->St->Hp->Prop,(∃m,W m σ H)/\∀m σ H,W m σ H ->
 c σ H λb n=>if b=true then ∃N:St->Hp->Prop,(∀d k,N d k->∃l,l<m/\W l d k)/\tb {D with nx:=N,ct:=N,bk:=D.nx} σ n else D.nx σ n
theorem Ie{O:TT}{tb:TS}(S:afP (model X.prog X.w) X.A X.env X.xe)(hc:PT X c O)(hb:PSs X body tb):PS X (.While c body [] pos) (Sk O tb):=by
 intro pins s σ H D I h;let⟨W,⟨m0,V⟩,t⟩:=h;refine wpAny_While (codeAny_whileLoop (λn Z=>∃l J,Inv X pins l J Z/\W n l J) ?_ m0 ⟨σ,H,I,V⟩);intro n s1 ⟨k,U,Y,w1⟩;refine acL S (thn (hc pins s1 k U _ Y (t n k U w1)) λb s2 ⟨R,T,p⟩=>?_)
 cases b with
 | true=>
  let⟨N,L,p⟩:=p;rw[if_pos rfl];refine acL S (thn (hb pins s2 k R _ T p) λf s3 q=>?_)
  cases f with
  |next=>
   let⟨d,m,F,z⟩:=q;let⟨y,B,G⟩:=L d m z;exact⟨y,B,d,m,F,G⟩
  |cont=>
   let⟨d,m,F,z⟩:=q;let⟨y,B,G⟩:=L d m z;exact⟨y,B,d,m,F,G⟩
  |brk=>exact q
  |ret v=>exact q
 |false=>
  exact aeR ⟨k,R,T,p⟩
end
structure It where
 go:Nat->Hp->Prop
 yld:Nat->Hp->V->Hp->Prop
 stop:Nat->Hp->Prop
def FpOk(X:Cx)(pins:List 'i')(H:Hp)(b:Addr):Prop:=
 H b=none/\b≠X.env.locals/\b∉X.fs/\(b∈X.ex\/X.s₀.heap.objs.size≤b)/\(∀x c,X.env.cells.lookup x=some c->c≠b)/\∀p∈X.pn++pins,p.1≠b
theorem Inv.fpOk{k:Hp}{s:GT}(I:Inv X pins σ H s)(d:s.heap.objs.size≤b)(m:k b=none):FpOk X pins k b:=by
 refine⟨m,abt (aau I.lt d),I.nofs d,.inr (aaw I.sz d),λx c e z=>?_,λp l z=>?_⟩
 .obtain⟨v,q⟩:=I.cell x c e;exact absurd (aau q.lt (by simp_all)) (acT _)
 .exact absurd (aau (aal (I.pin p l).1) (by simp_all)) (acT _)
structure Turn(P:aaI)(w:World)(K:aae)(tg:Expr)(J:It)(fp:List Addr)(it:Addr)(tn:Nat->aa1->Prop):Prop where
 mem:it∈fp
 obj:∀i h,tn i h->∀b∈fp,∃o,h.get? b=some o/\∀v,o.data≠.cell v
 keep:∀i h h',tn i h->(∀b∈fp,∀o,h.get? b=some o->h'.get? b=some o)->tn i h'
 item:∀(X:Cx),X.prog=P->X.w=w->X.K=K->X.calm=true->∀(i:Nat) (pins:List 'i') (s:GT) (σ:St) (H:Hp) (E:Ad->GT->Prop),Inv X pins σ H s->(∀b∈fp,FpOk X pins H b)->tn i s.heap->J.go i H ->
  wpAny (model P w) X.A (aci (.ref it)) (λr s1=>∃u,r=some u/\
   wpAny (model P w) X.A (ad3 tg (.ref it) u) (λ_ s2=>∃x H',Inv X pins σ H' s2/\RelV x u/\J.yld i H x H'/\tn (i+1) s2.heap/\∀b∈fp,H' b=none) E s1) E s
 done:∀(X:Cx),X.prog=P->X.w=w->X.K=K->X.calm=true->∀(i:Nat) (pins:List 'i') (s:GT) (σ:St) (H:Hp) (E:Ad->GT->Prop),Inv X pins σ H s->(∀b∈fp,FpOk X pins H b)->tn i s.heap->J.stop i H ->
  wpAny (model P w) X.A (aci (.ref it)) (λr s1=>r=none/\Inv X pins σ H s1) E s
 self:∀(A:abb) (i:Nat) (s:GT) (Q:Ad->GT->Prop) (E:Ad->GT->Prop),tn i s.heap->Q (.ref it) s->wpAny (model P w) A (afD (.ref it)) Q E s
abbrev TI:=St->Hp->(It->Hp->Prop)->Prop
def PIE(X:Cx)(pins:List 'i')(σ:St)(tg:Expr)(R:It->Hp->Prop)(k:Ad)(s2:GT):Prop:=
 ∃(l:Addr) (fp:List Addr) (tn:Nat->aa1->Prop) (J:It) (d:Hp),k = .ref l/\Inv X pins σ d s2/\Turn X.prog X.w X.K tg J fp l tn/\tn 0 s2.heap/\(∀b∈fp,FpOk X pins d b)/\R J d
def PI(X:Cx)(tg d:Expr)(k:TI):Prop:=
 ∀(pins:List 'i') (s:GT) (σ:St) (H:Hp) (R:It->Hp->Prop),Inv X pins σ H s->k σ H R ->
  wpAny (model X.prog X.w) X.A (eval d X.env) (λv s1=>wpAny (model X.prog X.w) X.A (afD v) (PIE X pins σ tg R) X.xe s1) X.xe s
theorem GF{s:GT}{k:Addr}{o:Obj}{n:String}{vs:Array Ad}{Q:Unit->GT->Prop}(l:s.heap.get? k=some o)(m:o.cls = .type n)(hd:o.data = .fields vs)
  (p:["enumerate","zip","dict_itemiterator","dict_reverseitemiterator","odict_iterator","itertools.zip_longest","itertools.pairwise"].contains n=false) (d:Q () s):wpAny M A (ad3 tg (.ref k) u) Q E s:=by
 cases tg<;>first
  |exact Ld d
  | (cases u<;>first
    |exact Ld d
    | (refine gT (wpAny_load l ?_)
       rw[m,hd];show wpAny M A (if _=true then _ else _) Q E s;rw[if_neg (by grind)];exact Ld d))
def Itl(K:aae)(a:Addr):It:=
 ⟨λi H=>∃d x,SqL K H a d/\d[i]?=some x,λi H x k=>k=H/\∀d,SqL K H a d->d[i]?=some x,λi H=>∃d,SqL K H a d/\d.length≤i⟩
def Itt(K:aae)(a:Addr):It:=
 ⟨λi H=>∃d x,SqT K H a d/\d[i]?=some x,λi H x k=>k=H/\∀d,SqT K H a d->d[i]?=some x,λi H=>∃d,SqT K H a d/\d.length≤i⟩
def Itr(lo:Int)(n:Nat):It:=⟨λi _=>i<n,λi H x d=>d=H/\x = .int (lo+i),λi _=>n≤i⟩
theorem BG(a n:Addr):Turn P w K tg (Itl K a) [n] n (λi h=>h.IsListIter n a i) where
 mem:=by simp
 obj:=λi h l b m=>by
  have e:b=n:=by simpa using m
  subst e;let⟨o,e,c,d⟩:=l;exact⟨o,e,λv z=>by rw[d]at z;cases z⟩
 keep:=λi h t l k=>l.at λo e=>k n 'a' o e
 item:=by
  intro X U S L Y i pins s σ H E I y l F;subst U S L;let⟨Z,x,B,J⟩:=F;let⟨D,T,p,hz⟩:=I.list B;let⟨u,hu,ru⟩:=T.get J;let⟨R,W,f2,V,G,O⟩:=y n 'a';refine wpAny_pyNext_list_item l p.isList (x:=u) (by simpa using hu) λt q sb=>?_;have I1:Inv X pins σ H {s with heap:=t }:=I.turned (t':=s.toks) (λb o m e=>(sb.2 b m).trans e) R W V G O;let⟨o,e,c,d⟩:=id q;exact⟨u,rfl,GF (s:={s with heap:=t }) e c d ⋯ ⟨x,H,I1,ru,⟨rfl,λys hy=>by rw[I.list_inj hy B];exact J⟩,q,λb m=>(y b m).1⟩⟩
 done:=by
  intro X U S L Y i pins s σ H E I y l F;subst U S L;let⟨Z,B,J⟩:=F;let⟨D,T,p,hz⟩:=I.list B;let⟨R,W,f2,V,G,O⟩:=y n 'a';have hl:=T.length;exact wpAny_pyNext_list_end (I.ok.hd Y) l p.isList (by simp;omega) λt eb=>⟨rfl,I.turned (t':=s.toks) (λb o m e=>eb b o m e) R W V G O⟩
 self:=λ_ _ _ _ _ l h=>wpAny_pyIter_listiter l h
theorem yb(a q:Addr):Turn P w K tg (Itt K a) [q] q (λi h=>h.IsTupleIter q a i) where
 mem:=by simp
 obj:=λi h l b n=>by
  have e:b=q:=by simpa using n
  subst e;let⟨o,e,c,d⟩:=l;exact⟨o,e,λv z=>by rw[d]at z;cases z⟩
 keep:=λi h y l k=>l.at λo e=>k q 'a' o e
 item:=by
  intro X U S L Y i pins s σ H E I B l F;subst U S L;let⟨Z,x,D,J⟩:=F;let⟨m,T,p,hz⟩:=I.tuple D;let⟨u,hu,ru⟩:=T.get J;let⟨R,W,f2,V,G,O⟩:=B q 'a';refine wpAny_pyNext_tuple_item l (show s.heap.IsTuple a m.toArray from p) (x:=u) (by simpa using hu) λy t sb=>?_;have I1:Inv X pins σ H {s with heap:=y }:=I.turned (t':=s.toks) (λb o n e=>(sb.2 b n).trans e) R W V G O;let⟨o,e,c,d⟩:=id t;exact⟨u,rfl,GF (s:={s with heap:=y }) e c d ⋯ ⟨x,H,I1,ru,⟨rfl,λys hy=>by rw[I.tuple_inj hy D];exact J⟩,t,λb n=>(B b n).1⟩⟩
 done:=by
  intro X U S L Y i pins s σ H E I B l F;subst U S L;let⟨Z,D,J⟩:=F;let⟨m,T,p,hz⟩:=I.tuple D;let⟨R,W,f2,V,G,O⟩:=B q 'a';have hl:=T.length;exact wpAny_pyNext_tuple_end (I.ok.hd Y) l (show s.heap.IsTuple a m.toArray from p) (by simp;omega) λy eb=>⟨rfl,I.turned (t':=s.toks) (λb o n e=>eb b o n e) R W V G O⟩
 self:=λ_ _ _ _ _ l h=>wpAny_pyIter_tupleiter l h
theorem yg(l:Addr)(lo:Int)(n:Nat):Turn P w K tg (Itr lo n) [l] l (λi h=>IsRangeIter h l (lo+(i:Nat)*1) ((n:Int)-(i:Nat)) 1) where
 mem:=by simp
 obj:=λi h d b m=>by
  simp_all
 keep:=λi h q d k=>k l 'a' _ d
 item:=by
  intro X O L D F i pins s σ H E I y d z;subst O L D;let⟨J,S,U,R,B,G⟩:=y l 'a';have W:=Walks.range (prog:=X.prog) (w:=X.w) (I.ok.hd F) l lo 1 n;refine W.item i s _ _ z d λv q T Z p Y=>?_;let⟨t,rfl⟩:=Z;have V:Inv X pins σ H {s with heap:=q,toks:=T}:=I.turned (λb o m e=>Y b o (by simpa using m) e) J S R B G;refine⟨_,rfl,GF (s:={s with heap:=q,toks:=T}) (n:= "range_iterator") p rfl rfl ⋯ ⟨.int (lo+i),H,V,⟨t,?_⟩,⟨rfl,rfl⟩,p,λb m=>(y b m).1⟩⟩;rw[Int.mul_one]
 done:=by
  intro X O L D F i pins s σ H E I y d z;subst O L D;let⟨J,S,U,R,B,G⟩:=y l 'a';exact wpAny_pyNext_range_end (I.ok.hd F) d (by have:n≤i:=z;omega) λq eb=>⟨rfl,I.turned (t':=s.toks) (λb o m e=>eb b o m e) J S R B G⟩
 self:=λ_ _ _ _ _ d h=>wpAny_pyIter_rangeiter d h
section
variable {X:Cx}{tg:Expr}
theorem FU{s:GT}{R:It->Hp->Prop}{lo d:Int}{t u v:Tok}{l:Nat}(I:Inv X pins σ H s)(z : -(2^62)≤lo)(B:lo<2^62)(y : -(2^62)≤d)(m:d<2^62)
  (q:R (Itr lo (d-lo).toNat) H):wpAny (model X.prog X.w) X.A (afD (.ref s.heap.objs.size)) (PIE X pins σ tg R) E {s with heap:=s.heap.push {cls:=.type "range",data:=.fields #[.int lo t,.int d u,.int 1 v]},toks:=l}:=by
 refine wpAny_pyIter_range (IsRange.new ..) (small_one z B y m) ?_;have k:Inv X pins σ H {s with heap:=s.heap.push {cls:=.type "range",data:=.fields #[.int lo t,.int d u,.int 1 v]},toks:=l}:=I.kept λb o e=>Io _ e;refine⟨(s.heap.push {cls:=.type "range",data:=.fields #[.int lo t,.int d u,.int 1 v]}).objs.size,[(s.heap.push {cls:=.type "range",data:=.fields #[.int lo t,.int d u,.int 1 v]}).objs.size],_,_,H,rfl,
  k.kept (t':=l) λb o e=>Io _ e,yg _ lo (d-lo).toNat,?_,λb p=>?_,q⟩
 .have e1:lo+((0:Nat):Int)*1=lo:=by simp
  have n:(((d-lo).toNat):Int)-((0:Nat):Int)=ac4.Range.rangeSize lo d 1:=by rw[rangeSize_one];split<;>omega
  rw[e1,n];exact aai _ rfl
 .have e:b=(s.heap.push {cls:=.type "range",data:=.fields #[.int lo t,.int d u,.int 1 v]}).objs.size:=by simpa using p
  subst e;exact k.fpOk (aab _) (k.hok.fresh (aab _))
def Wx(ta:TA):TI:=λσ H R=>ta σ H λvs d=>∃j:Int,vs=[.int j]/\-(2^62)≤j/\j<2^62/\R (Itr 0 j.toNat) d
theorem AV{a:Expr}{ta:TA}{p:Pos}(y:Gl X "range")(k:X.mg "range" = none)(l:PA X [a] ta)(m:aac [a] X.env=[(false,eval a X.env)]:=by rfl):PI X tg (.Call (.Name "range" p) [a] [] pos) (Wx ta):=by
 intro pins s σ H R I h;refine Call_ (j7 I y k boot_range (acA (thn (l pos pins s σ H _ I h) λus s1 ⟨vs,B,n,r1,d⟩=>?_) m rfl));let⟨j,e,d,z,q⟩:=d;subst e
 cases r1 with
 |cons r rr=>
  cases rr;let⟨t,rfl⟩:=r;exact call_range_1 (FU n ⋯ ⋯ d z (by simpa))
def tFor(q:TI)(g:TG)(tb:TS):TS:=λD σ H=>q σ H λJ s=>∃W:Nat->Nat->St->Hp->Prop,(∃m,W 0 m σ s)/\∀i m σ H,W i m σ H ->
 (J.stop i H/\D.nx σ H)\/(J.go i H/\∃N:St->Hp->Prop,(∀k d,N k d->∃n,n<m/\W (i+1) n k d)/\∀x d,J.yld i H x d->g x σ d λl p=>tb {D with nx:=N,ct:=N,bk:=D.nx} l p)
def r9(fp:List Addr)(h:aa1):List 'i':=fp.filterMap λb=>(h.get? b).map λo=>(b,o)
def ii{o:Obj}(d:b∈fp)(e:h.get? b=some o):(b,o)∈r9 fp h:=List.mem_filterMap.mpr ⟨b,d,by rw[e];rfl⟩
theorem y3{p:Addr×Obj}(l:p∈r9 fp h):p.1∈fp/\h.get? p.1=some p.2:=by
 let⟨b,d,e⟩:=List.mem_filterMap.mp l
 cases q:h.get? b with
 |none=>rw[q]at e;cases e
 |some o=>
  rw[q]at e;have k:=aaA e;subst k;exact⟨d,q⟩
theorem Inv.pinned{s:GT}(I:Inv X pins σ H s)(l:∀b∈fp,FpOk X pins H b)(m:∀b∈fp,∃o,s.heap.get? b=some o/\∀v,o.data≠.cell v):Inv X (pins++r9 fp s.heap) σ H s:=
 I.pins_of λp k=>(aaV.mp k).elim (λz=>I.pin p (aaQ _ z)) λz=>by
  let⟨d,e⟩:=y3 z;let⟨q,t,n,_⟩:=l p.1 d;obtain _:=m p.1 d
  simp_all
def Inv.unpinned{pl:List 'i'}{s:GT}(I:Inv X (pins++pl) σ H s):Inv X pins σ H s:=I.pins_of λp d=>I.pin p (aaQ _ (ab0 _ d))
theorem Um{B:Expr}{wi:TI}{g:TG}{tb:TS}(U:afP (model X.prog X.w) X.A X.env X.xe)(hc:X.calm=true)(hi:PI X tg B wi)(hg:PG X tg g)(q:PSs X body tb)
  (hs:∀x,aaT B X.env x=pure x:=by intro _;rfl):PS X (.For tg B body [] pos) (tFor wi g tb):=by
 intro pins s σ H D I h;refine wpAny_For (thn (hi pins s σ H _ I h) λv s1 h1=>thn h1 λitv s2 h2=>?_) hs;let⟨it,fp,tn,J,H2,e,I2,T,st2,f2,W,⟨m0,w0⟩,Y⟩:=h2;subst e;have F:∀{G:Hp},(∀b∈fp,G b=none)->∀b∈fp,FpOk X pins G b:=λhn b q=>⟨hn b q,(f2 b q).2⟩;refine codeAny_forLoop_any (λn s'=>∃i p G,Inv X pins p G s'/\tn i s'.heap/\(∀b∈fp,G b=none)/\W i n p G) ?_ m0 ⟨0,σ,H2,I2,st2,λb q=>(f2 b q).1,w0⟩;intro n s3 ⟨i,y,Z,I3,S,V,w3⟩;rcases Y i n y Z w3 with⟨stop,qn⟩|⟨go,N,hN,step⟩
 .refine acL U (thn (T.done X rfl rfl rfl hc i pins s3 y Z X.xe I3 (F V) S stop) λr s4 ⟨hr,I4⟩=>?_);subst hr;exact aeR ⟨y,Z,I4,qn⟩
 .refine acL U (thn (T.item X rfl rfl rfl hc i pins s3 y Z X.xe I3 (F V) S go) λr s4 ⟨u,hr,h4⟩=>?_);subst hr;refine acL U (thn h4 λ_ s5 ⟨x,H5,I5,r5,y5,O,fr5⟩=>?_);have I5':=I5.pinned (F fr5) (T.obj _ _ O);refine acL U (thn (hg _ s5 y H5 x u _ I5' r5 (step x H5 y5)) λ_ s6 ⟨σ6,H6,I6,q6⟩=>?_);refine acL U (thn (q _ s6 σ6 H6 _ I6 q6) λf s7 L=>?_);have l:∀{k:St}{z:Hp},Inv X (pins++r9 fp s5.heap) k z s7->N k z->∃m,m<n/\∃i p G,Inv X pins p G s7/\tn i s7.heap/\(∀b∈fp,G b=none)/\W i m p G:=λ{k z} t R=>by
   let⟨m',hm,w7⟩:=hN k z R;refine⟨m',hm,i+1,k,z,t.unpinned,T.keep _ _ _ O λb q o e=>(t.pin (b,o) (aaQ _ (aaQ _ (ii q e)))).1,λb q=>?_,w7⟩;let⟨o,e,d⟩:=T.obj _ _ O b q;exact(t.pin (b,o) (aaQ _ (aaQ _ (ii q e)))).2.1
  cases f with
  |next=>let⟨k,z,t,R⟩:=L;exact l t R
  |cont=>let⟨k,z,t,R⟩:=L;exact l t R
  |brk=>let⟨k,z,t,L⟩:=L;exact⟨k,z,t.unpinned,L⟩
  |ret v=>let⟨x7,k,z,t,r7,L⟩:=L;exact⟨x7,k,z,t.unpinned,r7,L⟩
end
abbrev R2:=V->V->Hp->VK->Prop
def OpR(X:Cx)(f:Ad->Ad->Sem Ad)(r:R2):Prop:=
 ∀(pins:List 'i') (s:GT) (σ:St) (H:Hp) (x y:V) (v u:Ad) (Q:VK),Inv X pins σ H s->RelV x v->RelV y u->r x y H Q ->
  wpAny (model X.prog X.w) X.A (f v u) (EP X pins σ Q) X.xe s
def UnR(X:Cx)(f:Ad->Sem Ad)(r:V->Hp->VK->Prop):Prop:=
 ∀(pins:List 'i') (s:GT) (σ:St) (H:Hp) (x:V) (v:Ad) (Q:VK),Inv X pins σ H s->RelV x v->r x H Q ->
  wpAny (model X.prog X.w) X.A (f v) (EP X pins σ Q) X.xe s
def dF(X:Cx)(f:Ad)(r:List V->Hp->VK->Prop):Prop:=
 ∀(pins:List 'i') (s:GT) (σ:St) (H:Hp) (d:List V) (us:List Ad) (Q:VK),Inv X pins σ H s->Vals d us->r d H Q ->
  wpAny (model X.prog X.w) X.A (call f us) (EP X pins σ Q) X.xe s
def tOp(r:R2)(ta tb:TE):TE:=λσ H Q=>ta σ H λx k=>tb σ k λy d=>r x y d Q
def tUn(r:V->Hp->VK->Prop)(ta:TE):TE:=λσ H Q=>ta σ H λx d=>r x d Q
def rI(C:Int->Int->Prop)(g:Int->Int->V):R2:=λx y H Q=>∃i j,x = .int i/\y = .int j/\C i j/\Q (g i j) H
def rI0(g:Int->Int->V):R2:=λx y H Q=>∃i j,x = .int i/\y = .int j/\Q (g i j) H
def rU(g:Int->V):V->Hp->VK->Prop:=λx H Q=>∃i,x = .int i/\Q (g i) H
section
variable {X:Cx}{a b c:Expr}{ta tb d:TE}{pos:Pos}
def binT(p:PE X a ta)(F:PE X b tb){s:GT}{R:V->V->Hp->Prop}(I:Inv X pins σ H s)
  (h:ta σ H λx n=>tb σ n λy k=>R x y k) 
  (z:∀v u s2 x y k,Inv X pins σ k s2->RelV x v->RelV y u->R x y k->wpAny (model X.prog X.w) X.A (f v u) Q X.xe s2) :
  wpAny (model X.prog X.w) X.A (eval a X.env) (λv l=>wpAny (model X.prog X.w) X.A (eval b X.env) (λu m=>wpAny (model X.prog X.w) X.A (f v u) Q X.xe m) X.xe l) X.xe s:=by
 refine thn (p pins s σ H _ I h) λv s1 ⟨x,n,B,r1,q⟩=>?_;refine thn (F pins s1 σ n _ B q) λu s2 ⟨y,k,D,t,G⟩=>?_;exact z v u s2 x y k D r1 t G
theorem WF{op:afb}(n:OpR X (acp op) r)(t:PE X a ta)(m:PE X b tb):PE X (.BinOp a op b pos) (tOp r ta tb):=by
 intro pins s σ H Q I h;exact wpAny_BinOp (binT t m I h λv u s2 x y l z p k q=>n pins s2 σ l x y v u Q z p k q)
theorem Wn{op:UnaryOp}{r:V->Hp->VK->Prop}(k:UnR X (unaryOp op) r)(l:PE X a ta):PE X (.UnaryOp op a pos) (tUn r ta):=by
 intro pins s σ H Q I h;exact UnaryOp_ (thn (l pins s σ H _ I h)<|by intro v s1 ⟨x,n,m,r1,q⟩;exact k pins s1 σ n x v Q m r1 q)
theorem opI{C:Int->Int->Prop}
  (k:∀(i j:Int) (t u:Tok) (s:GT) (Q:Ad->GT->Prop) (E:Ad->GT->Prop),C i j->Q (.int (g i j) s.toks) {s with toks:=s.toks+1}->wpAny (model X.prog X.w) X.A (f (.int i t) (.int j u)) Q E s) :
  OpR X f (rI C λi j=>.int (g i j)):=by
 intro pins s σ H x y v u Q I m l h;let⟨i,j,rfl,rfl,n,q⟩:=h;let⟨t,rfl⟩:=m;let⟨t',rfl⟩:=l;exact k i j t t' s _ _ n ⟨.int _,H,I.tok _,⟨_,rfl⟩,q⟩
theorem opI0
  (k:∀(i j:Int) (t u:Tok) (s:GT) (Q:Ad->GT->Prop) (E:Ad->GT->Prop),Q (.int (g i j) s.toks) {s with toks:=s.toks+1}->wpAny (model X.prog X.w) X.A (f (.int i t) (.int j u)) Q E s) :
  OpR X f (rI0 λi j=>.int (g i j)):=by
 intro pins s σ H x y v u Q I m l h;let⟨i,j,rfl,rfl,q⟩:=h;let⟨t,rfl⟩:=m;let⟨t',rfl⟩:=l;exact k i j t t' s _ _ ⟨.int _,H,I.tok _,⟨_,rfl⟩,q⟩
theorem opB0{g:Int->Int->Bool}
  (k:∀(i j:Int) (t u:Tok) (s:GT) (Q:Ad->GT->Prop) (E:Ad->GT->Prop),Q (.bool (g i j)) s->wpAny (model X.prog X.w) X.A (f (.int i t) (.int j u)) Q E s) :
  OpR X f (rI0 λi j=>.bl (g i j)):=by
 intro pins s σ H x y v u Q I m l h;let⟨i,j,rfl,rfl,q⟩:=h;let⟨t,rfl⟩:=m;let⟨t',rfl⟩:=l;exact k i j t t' s _ _ ⟨.bl _,H,I,rfl,q⟩
def CPow(i j:Int):Prop:=0≤j/\j≤1000000/\i.natAbs<2^64
def CMul(i j:Int):Prop:=(-(2^64)<i/\i<2^64)\/(-(2^64)<j/\j<2^64)
def CMul.ok{i j:Int}(h:CMul i j):ahc i j:=by
 rcases h with⟨k,l⟩|⟨k,l⟩
 .exact .of_left (intBits_le_64 k l)
 .exact .of_right (intBits_le_64 k l)
def TU:OpR X (acp .Add) (rI0 λi j=>.int (i+j)):=opI0 λ_ _ _ _ _ _ _ q=>add_int q
theorem Uh:OpR X (acp .Mod) (rI (λ_ j=>0<j) λi j=>.int (i%j)):=opI λi j _ _ _ _ _ k q=>by
 exact mod_int' ∅ (by rw[Int.fmod_eq_emod_of_nonneg i ∅];exact q)
def UG:OpR X (acp .Pow) (rI CPow λi j=>.int (i^j.toNat)):=opI λ_ _ _ _ _ _ _ k q=>pow_int_small k.1 k.2.1 k.2.2 q
theorem unI{f:Ad->Sem Ad}{g:Int->Int}
  (k:∀(i:Int) (t:Tok) (s:GT) (Q:Ad->GT->Prop) (E:Ad->GT->Prop),Q (.int (g i) s.toks) {s with toks:=s.toks+1}->wpAny (model X.prog X.w) X.A (f (.int i t)) Q E s) :
  UnR X f (rU λi=>.int (g i)):=by
 intro pins s σ H x v Q I l h;let⟨i,rfl,q⟩:=h;let⟨t,rfl⟩:=l;exact k i t s _ _ ⟨.int _,H,I.tok _,⟨_,rfl⟩,q⟩
def Uc:UnR X (unaryOp .USub) (rU λi=>.int (-i)):=unI λ_ _ _ _ _ q=>neg_int q
end
def scal:V->V->Bool
 | .non,.non=>true | .non,.int _=>true | .int _,.non=>true | .non,.bl _=>true | .bl _,.non=>true | .non,.str _=>true | .str _,.non=>true
 | .int _,.int _=>true | .bl _,.bl _=>true | .str _,.str _=>true | .byt _,.byt _=>true
 | .int _,.str _=>true | .str _,.int _=>true | .bl _,.str _=>true | .str _,.bl _=>true
 |_,_=>false
def rEq:R2:=λx y H Q=>scal x y=true/\Q (.bl (decide (x=y))) H
def rNe:R2:=λx y H Q=>scal x y=true/\Q (.bl (!decide (x=y))) H
def yU{i j:Int}:decide (V.int i=V.int j)=(i==j):=by
 rw[abE];simp
def JF{i j:Bool}:decide (V.bl i=V.bl j)=(i==j):=by
 rw[abE];simp
def qW{i j:Str}:decide (V.str i=V.str j)=(i==j):=by
 rw[abE];simp
def Bm{i j:Array UInt8}:decide (V.byt i=V.byt j)=(i.toList==j.toList):=by
 rw[abE];simp
section
variable {X:Cx}{a b c:Expr}{ta tb f:TE}{pos:Pos}
def bv{s:GT}{Q:VK}{k k':Bool}(I:Inv X pins σ H s)(q:Q (.bl k) H)(e:k=k'):EP X pins σ Q (.bool k') s:=by
 subst e;exact⟨.bl k,H,I,rfl,q⟩
theorem W5:OpR X (aaW .Eq) rEq:=by
 intro pins s σ H x y v u Q I l d h;let⟨k,q⟩:=h
 cases x with
 |non=>
  cases l
  cases y with
  |non=>cases d;exact PySem.EqNone.eq_none_none (bv I q 'a')
  |bl j=>cases d;exact PySem.EqNone.eq_none_bool (bv I q 'a')
  |int j=>let⟨t',rfl⟩:=d;exact PySem.EqNone.eq_none_int (bv I q 'a')
  |str j=>let⟨t',rfl⟩:=d;exact PySem.EqNone.eq_none_str (bv I q 'a')
  |_=>exact absurd (show false=true from k) aan
 |bl i=>
  cases l
  cases y with
  |non=>cases d;exact PySem.EqNone.eq_bool_none (bv I q 'a')
  |bl j=>cases d;exact eq_bool (bv I q JF)
  |str j=>let⟨t',rfl⟩:=d;exact PySem.EqMixed.eq_bool_str (bv I q 'a')
  |_=>exact absurd (show false=true from k) aan
 |int i=>
  let⟨t,rfl⟩:=l
  cases y with
  |non=>cases d;exact PySem.EqNone.eq_int_none (bv I q 'a')
  |int j=>let⟨t',rfl⟩:=d;exact eq_int (bv I q yU)
  |str j=>let⟨t',rfl⟩:=d;exact PySem.EqMixed.eq_int_str (bv I q 'a')
  |_=>exact absurd (show false=true from k) aan
 |str i=>
  let⟨t,rfl⟩:=l
  cases y with
  |non=>cases d;exact PySem.EqNone.eq_str_none (bv I q 'a')
  |bl j=>cases d;exact PySem.EqMixed.eq_str_bool (bv I q 'a')
  |int j=>let⟨t',rfl⟩:=d;exact PySem.EqMixed.eq_str_int (bv I q 'a')
  |str j=>let⟨t',rfl⟩:=d;exact eq_str (bv I q qW)
  |_=>exact absurd (show false=true from k) aan
 |byt i=>
  let⟨t,rfl⟩:=l
  cases y with
  |byt j=>let⟨t',rfl⟩:=d;exact PySem.W.eq_bytes (bv I q Bm)
  |_=>exact absurd (show false=true from k) aan
 |_=>cases y<;>exact absurd (show false=true from k) aan
theorem VY:OpR X (aaW .NotEq) rNe:=by
 intro pins s σ H x y v u Q I l d h;let⟨k,q⟩:=h
 cases x with
 |non=>
  cases l
  cases y with
  |non=>cases d;exact PySem.EqNone.ne_none_none (bv I q 'b')
  |bl j=>cases d;exact PySem.EqNone.ne_none_bool (bv I q 'a')
  |int j=>let⟨t',rfl⟩:=d;exact PySem.EqNone.ne_none_int (bv I q 'a')
  |str j=>let⟨t',rfl⟩:=d;exact PySem.EqNone.ne_none_str (bv I q 'a')
  |_=>exact absurd (show false=true from k) aan
 |bl i=>
  cases l
  cases y with
  |non=>cases d;exact PySem.EqNone.ne_bool_none (bv I q 'a')
  |bl j=>cases d;exact ne_bool (bv I q (congrArg not JF))
  |str j=>let⟨t',rfl⟩:=d;exact PySem.EqMixed.ne_bool_str (bv I q 'a')
  |_=>exact absurd (show false=true from k) aan
 |int i=>
  let⟨t,rfl⟩:=l
  cases y with
  |non=>cases d;exact PySem.EqNone.ne_int_none (bv I q 'a')
  |int j=>let⟨t',rfl⟩:=d;exact ne_int (bv I q (congrArg not yU))
  |str j=>let⟨t',rfl⟩:=d;exact PySem.EqMixed.ne_int_str (bv I q 'a')
  |_=>exact absurd (show false=true from k) aan
 |str i=>
  let⟨t,rfl⟩:=l
  cases y with
  |non=>cases d;exact PySem.EqNone.ne_str_none (bv I q 'a')
  |bl j=>cases d;exact PySem.EqMixed.ne_str_bool (bv I q 'a')
  |int j=>let⟨t',rfl⟩:=d;exact PySem.EqMixed.ne_str_int (bv I q 'a')
  |str j=>let⟨t',rfl⟩:=d;exact ne_str (bv I q (congrArg not qW))
  |_=>exact absurd (show false=true from k) aan
 |byt i=>
  let⟨t,rfl⟩:=l
  cases y with
  |byt j=>let⟨t',rfl⟩:=d;exact PySem.W.ne_bytes (bv I q (congrArg not Bm))
  |_=>exact absurd (show false=true from k) aan
 |_=>cases y<;>exact absurd (show false=true from k) aan
def VI:OpR X (aaW .Lt) (rI0 λi j=>.bl (decide (i<j))):=opB0 λ_ _ _ _ _ _ _ q=>lt_int q
def Xp:OpR X (aaW .LtE) (rI0 λi j=>.bl (decide (i≤j))):=opB0 λ_ _ _ _ _ _ _ q=>le_int q
def VN:OpR X (aaW .Gt) (rI0 λi j=>.bl (decide (j<i))):=opB0 λ_ _ _ _ _ _ _ q=>gt_int q
def V5:OpR X (aaW .GtE) (rI0 λi j=>.bl (decide (j≤i))):=opB0 λ_ _ _ _ _ _ _ q=>ge_int q
theorem QM:OpR X (aaW .Is) (λx y H Q=>y = .non/\Q (.bl (decide (x = .non))) H):=by
 intro pins s σ H x y v u Q I d k h;let⟨rfl,q⟩:=h;cases k;refine is_none_gen (bv I q ?_)
 cases x<;>first
  |(cases d;rfl)
  |(let⟨t,rfl⟩:=d;rfl)
theorem Lh:OpR X (aaW .IsNot) (λx y H Q=>y = .non/\Q (.bl (!decide (x = .non))) H):=by
 intro pins s σ H x y v u Q I d k h;let⟨rfl,q⟩:=h;cases k;refine isnot_none_gen (bv I q ?_)
 cases x<;>first
  |(cases d;rfl)
  |(let⟨t,rfl⟩:=d;rfl)
def aA(b:Expr)(h:op≠.In:=by decide)(d:op≠.NotIn:=by decide):acU op b=false:=by
 have l:(op==CmpOp.In)=false:=by cases op<;>first|rfl|exact absurd rfl h
 have k:(op==CmpOp.NotIn)=false:=by cases op<;>first|rfl|exact absurd rfl d
 cases b<;>simp[acU,l,k]
theorem Lj(n:OpR X (aaW op) r)(t:PE X a ta)(m:PE X b tb)(k:acU op b=false):PE X (.Compare a [op] [b] pos) (tOp r ta tb):=by
 intro pins s σ H Q I h;exact wpAny_Compare1 (binT t m I h λv u s2 x y l z p d q=>n pins s2 σ l x y v u Q z p d q) k
def Vo(t:TE):TT:=λσ H Q=>t σ H λx d=>∃k,x = .bl k/\Q k d
theorem Mz(q:OpR X (aaW op) r)(D:PE X a ta)(p:PE X b tb)(d:acU op b=false):PT X (.Compare a [op] [b] pos) (Vo (tOp r ta tb)):=by
 intro pins s σ H Q I h;refine wpAny_isTrue_Compare1 (thn (D pins s σ H _ I h) λv s1 ⟨x,R,l,r1,B⟩=>thn (p pins s1 σ R _ l B) λu s2 ⟨y,n,G,F,L⟩=>
  thn (q pins s2 σ n x y v u _ G r1 F L) λc S ⟨z,J,m,O,k,e,t⟩=>?_) d
 subst e;cases O;exact acO ⟨J,m,t⟩
def JT(r m:R2)(ta tb f:TE):TE:=λσ H Q=>ta σ H λx q=>tb σ q λy p=>r x y p λz d=>∃k,z = .bl k/\
 (if k=true then f σ d λn l=>m y n l Q else Q (.bl false) d)
theorem Gz{l:CmpOp}{p:R2}(Y:OpR X (aaW op) r)(m:OpR X (aaW l) p)(ha:PE X a ta)(W:PE X b tb)(hc:PE X c f)
  (S:lastMarks [op,l] [b,c]=false:=by with_unfolding_all rfl):PE X (.Compare a [op,l] [b,c] pos) (JT r p ta tb f):=by
 intro pins s σ H Q I h;refine Compare_chain (thn (ha pins s σ H _ I h) λv s1 ⟨x,H1,J,r1,O⟩=>chain_link (thn (W pins s1 σ H1 _ J O) λu s2 ⟨y,V,I2,n,q2⟩=>
  thn (Y pins s2 σ V x y v u _ I2 r1 n q2) λd D ⟨z,B,t,R,k,e,q⟩=>?_)) S
 subst e;cases R;refine acO ?_
 cases k with
 |false=>exact ite_ff ⟨.bl false,B,t,rfl,q⟩
 |true=>exact ite_tt (chain_last (thn (hc pins D σ B _ t q)<|by intro T G ⟨F,L,Z,U,q4⟩;exact m pins G σ L y F u T Q Z n U q4))
def rg:(aak:Nat)<2^63:=by  decide
theorem yn:OpR X (acp .Add) (λx y H Q=>∃i j,x = .str i/\y = .str j/\i.length+j.length≤aak/\Q (.str (i++j)) H):=by
 intro pins s σ H x y v u Q I l d h;let⟨i,j,rfl,rfl,k,q⟩:=h;let⟨t,rfl⟩:=l;let⟨t',rfl⟩:=d;exact add_str (λt' m=>⟨.str _,H,I.tok _,⟨_,rfl⟩,q⟩) k
theorem CY{x:V}(r:Vals [x] us):∃u,us=[u]/\RelV x u:=by
 cases r with
 |cons r1 d=>cases d;exact⟨_,rfl,r1⟩
theorem Tu{x y:V}(r:Vals [x,y] us):∃u d,us=[u,d]/\RelV x u/\RelV y d:=by
 cases r with
 |cons r1 k=>
  cases k with
  |cons m l=>cases l;exact⟨_,_,rfl,r1,m⟩
theorem CA(l:X.calm=true):dF X (.builtin "max") (λxs H Q=>∃i j,xs=[.int i,.int j]/\Q (.int (if j>i then j else i)) H):=by
 intro pins s σ H xs us Q I r h;let⟨i,j,rfl,q⟩:=h;let⟨u,n,rfl,⟨t,rfl⟩,⟨t',rfl⟩⟩:=Tu r;refine max_two_ints (I.ok.hd l) λm p k=>⟨_,H,I.kept k,?_,q⟩
 by_cases d:j>i
 .rw[if_pos d,if_pos d];exact⟨_,rfl⟩
 .rw[if_neg d,if_neg d];exact⟨_,rfl⟩
theorem zX(l:X.calm=true):dF X (.builtin "min") (λxs H Q=>∃i j,xs=[.int i,.int j]/\Q (.int (if j<i then j else i)) H):=by
 intro pins s σ H xs us Q I r h;let⟨i,j,rfl,q⟩:=h;let⟨u,n,rfl,⟨t,rfl⟩,⟨t',rfl⟩⟩:=Tu r;refine min_two_ints (I.ok.hd l) λm p k=>⟨_,H,I.kept k,?_,q⟩
 by_cases d:j<i
 .rw[if_pos d,if_pos d];exact⟨_,rfl⟩
 .rw[if_neg d,if_neg d];exact⟨_,rfl⟩
theorem uo:dF X (.type "int") (λxs H Q=>(∃i,xs=[.int i]/\Q (.int i) H)\/∃k,xs=[.bl k]/\Q (.int (if k then 1 else 0)) H):=by
 intro pins s σ H xs us Q I r h;rcases h with⟨i,rfl,q⟩|⟨k,rfl,q⟩
 .obtain⟨u,rfl,t,rfl⟩:=CY r;exact call_int_int ⟨.int i,H,I,⟨_,rfl⟩,q⟩
 .obtain⟨u,rfl,r1⟩:=CY r;cases r1;exact call_int_bool ⟨.int _,H,I.tok _,⟨_,rfl⟩,q⟩
end
structure ObjM(h:aa1)(x dx C:Addr)(mA:Str->Option Ad):Prop where
 obj:h.get? x=some (acr C dx)
 ns:h.Ns1 dx mA
 ne:dx≠x
theorem yY{dx:Addr}(n:h.Ns1 dx mA):∃k,h.get? dx=some k/\∀name,afd name k=some (mA name):=by
 let⟨o,es,B,p,hd,hk,_,l⟩:=n;refine⟨o,p,λname=>?_⟩;have e:=l name;unfold nsFind findBy at e;rw[<-Array.find?_toList]at e;unfold afd;rw[hd];dsimp;split
 .rename_i y q;rw[q]at e;exact congrArg some e
 .rename_i q;rw[q]at e;have a:es.toList.any (·.refKey)=false:=by
   rw[List.any_eq_false];intro y m;let⟨z,t,d⟩:=hk y (aeL.mp m);simp[ab1.refKey,d]
  have s:¬es.toList.any (·.refKey)=true:=by rw[a];exact aan
  rw[if_neg s];exact congrArg some e
def ObjM.look{x dx:Addr}(I:ObjM h x dx C mA):∃d,PySem.W.InstAt h x (acr C dx) C (some d)/\∀name,afd name d=some (mA name):=
 let ⟨d,ho,hl⟩:=yY I.ns
 ⟨d,⟨I.obj,rfl,rfl,ho⟩,hl⟩
section
variable {prog:aaI}{w:World}{A:abb}{E:Ad->GT->Prop}{s:GT}{K:aae}{x dx C f:Addr}{m:Str->Option Ad}{name:Str}{v:Ad}
def Qb{d:Bool}(X:K.In s.heap)(I:ObjM s.heap x dx C m)(l:acX K C name=true)(p:adt K C=true)
  (n:abu K (.ref C) name=some none) (t:m name=some v) (k:aho v=true) (h:Q v {s with toks:=s.toks+1}) :
  wpAny (model prog w) A (getAttr (.ref x) name d) Q E s:=by
 let⟨y,J,q⟩:=I.look;exact PySem.W.get_value X J (ae1 l).1 (PySem.W.findObj_own p n rfl (by rw[q,t])) k h
def GI{Q:Ad×List Ad->GT->Prop}(X:K.In s.heap)(I:ObjM s.heap x dx C m)(d:acX K C name=true)
  (k:abu K (.ref C) name=some (some (.ref f))) (l:ae2 K (.ref f)=true) (q:m name=none) (h:Q (.ref f,[.ref x]) s) :
  wpAny (model prog w) A (aez (.ref x) name pl) Q E s:=by
 let⟨n,J,p⟩:=I.look;exact PySem.W.method_fn X J (ae1 d).1 (ae1 d).2 k (beq_iff_eq.mp l) (by show(afd name n).map (·.isSome)=some false;rw[p,q];rfl) h
theorem Nr{ns:List Str}{Q:Unit->GT->Prop}(X:K.In s.heap)(I:ObjM s.heap x dx C m)
  (D:abu K (.ref C) "__setattr__" = some (some (.builtin "object.__setattr__"))) (F:aef K C=true) (z:agh K C name=some none) (R:adt K C=true)
  (O:af3 m ns) (hsz:ns.length≤aak)
  (h:∀h',ObjM h' x dx C (λy=>if y=name then some v else m y)->abk dx s.heap h'->Q () {s with heap:=h',toks:=s.toks+2}) :
  wpAny (model prog w) A (setAttr (.ref x) name v) Q E s:=by
 let⟨U,J,V⟩:=I.look;refine PySem.W.set_plain X J D (PySem.W.osa_open (s:={s with toks:=s.toks+1}) (r:=none) X J F z λb=>?_);let⟨S,G,p⟩:=PySem.W.any_some R;have B:s.heap.get? x=some ⟨.ref C,some dx,.plain,#[]⟩:=I.obj;refine gT (Ld (gT (gT (wpAny_loadPart B (gT (PySem.W.Looks.here (s:={s with toks:=s.toks+1}) (PySem.W.looks_clsIn X G) ?_))))));rw[p];refine Ld (a:=some dx) (gT (Ld (gT ?_)));refine wpAny_nsSet1 (s:={s with toks:=s.toks+1}) I.ns λh' d k=>?_;let⟨T,L,t,l,q,n⟩:=d.count (af3.cons name v O);refine gT (wpAny_lookBehind l (by rw[q];exact pastItsLine_dict (aaw n (by rw[aat];omega))) ?_);exact Ld (h _ ⟨(k.2 _ (abH I.ne)).trans I.obj,d,I.ne⟩ k)
theorem IY{R:Result->GT->Prop}{vs:List Ad}(X:K.In s.heap)(k:agi K C=true)
  (l:abu K (.ref C) "__init__" = some (some (.ref f))) (n:PySem.W.typeIn K (.ref f)=some (.type "function"))
  (h:ad4 (model prog w) (A.under (.builtin "type.__call__" ⟨.ref C::vs,kw⟩)) (.call (.ref f) ⟨.ref (s.heap.objs.size+1)::vs,kw⟩) (PySem.W.InitBack (s.heap.objs.size+1) R)
   {s with heap:=(s.heap.push abR).push (acr C s.heap.objs.size)}) :
  ad4 (model prog w) A (.call (.ref C) ⟨vs,kw⟩) R s:=by
 let⟨p,g,d,t,os⟩:=s;exact PySem.W.make_core (PySem.W.makes_of X k) (PySem.W.looks_findIn X l) (λself=>PySem.W.bind_fn X self n) (.inl rfl) h
end
def putF(f:Str)(v:V):List (Str×V)->List (Str×V)
 |[]=>[(f,v)]
 |(g,x)::r=>if g=f then(g,v)::r else(g,x)::putF f v r
theorem lG(f g:Str)(v:V):∀fs:List (Str×V),(putF f v fs).lookup g=if g=f then some v else fs.lookup g
 |[]=>by
  show aeM g [(f,v)]=_
  by_cases h:g=f
  .simp_all
  .have hb:=beq_eq_false_iff_ne.mpr h;simp only[aeM,hb,if_neg h]
 | (k,x)::r=>by
  have d:=lG f g v r;rw[show putF f v ((k,x)::r)=(if k=f then(k,v)::r else(k,x)::putF f v r)from rfl]
  by_cases hk:k=f
  .rw[if_pos hk]
   by_cases h:g=k
   .simp_all
   .have hb:(g==k)=false:=beq_eq_false_iff_ne.mpr h;simp only[aeM,hb,if_neg (λe:g=f=>h (e.trans hk.symm))]
  .rw[if_neg hk]
   by_cases h:g=k
   .simp_all
   .have hb:=beq_eq_false_iff_ne.mpr h;simp only[aeM,hb];exact d
theorem lL(f:Str)(v:V):∀fs:List (Str×V),f∈(putF f v fs).map (·.1)/\∀g,g∈fs.map (·.1)->g∈(putF f v fs).map (·.1)
 |[]=>⟨by simp[putF],λg h=>by simp at h⟩
 | (k,x)::r=>by
  let⟨d,l⟩:=lL f v r;rw[show putF f v ((k,x)::r)=(if k=f then(k,v)::r else(k,x)::putF f v r)from rfl]
  by_cases hk:k=f
  .rw[if_pos hk];subst hk;exact⟨'a',λg h=>by simpa using h⟩
  .rw[if_neg hk];refine⟨?_,λg h=>?_⟩
   .rw[aam];exact aaf _ d
   .rw[aam]at h⊢;rcases aag.mp h with e|e
    .exact aag.mpr (.inl e)
    .exact aaf _ (l g e)
theorem l5(f:Str)(v:V):∀fs:List (Str×V),(putF f v fs).length≤fs.length+1
 |[]=>by simp[putF]
 |(k,x)::r=>by
  have d:=l5 f v r;rw[show putF f v ((k,x)::r)=(if k=f then(k,v)::r else(k,x)::putF f v r)from rfl]
  by_cases hk:k=f
  .rw[if_pos hk,aat,aat];omega
  .rw[if_neg hk,aat,aat];omega
theorem RelO.some_of{o:Option Ad}(r:RelO (some v) o):∃u,o=some u/\RelV v u:=by
 cases o with
 |none=>exact(r).elim
 |some u=>exact⟨u,rfl,r⟩
theorem RelO.none_of{o:Option Ad}(r:RelO none o):o=none:=by
 cases o with
 |none=>rfl
 |some u=>exact(r).elim
theorem Ca(r:RelV v u):aho u=true:=by
 cases v with
 |non=>cases (r);rfl
 |bl b=>cases (r);rfl
 |int i=>let⟨t,e⟩:=(r);cases e;rfl
 |str x=>let⟨t,e⟩:=(r);cases e;rfl
 |byt b=>let⟨t,e⟩:=(r);cases e;rfl
 |flt b=>let⟨t,e⟩:=(r);cases e;rfl
 |ref a=>cases (r);rfl
 |ty n=>cases (r);rfl
section
variable {P:aaI}{w:World}{H c:Hp}{h h':aa1}{a C dx:Addr}{fs b:List (Str×V)}
theorem u6(hok:HOk P w H h)(e:H a=some (.ins C dx fs)):∃mA,ObjM h a dx C mA/\(∀f,RelO (fs.lookup f) (mA f))/\af3 mA (fs.map (·.1))/\fs.length≤1000/\H dx=some (.own a):=by
 let⟨d,z,ne,k,mA,n,r,q⟩:=(show ObjOk P w H h a (.ins C dx fs)from hok a _ e);exact⟨mA,⟨k,n,ne⟩,r,q,z,d⟩
end
structure Cls(K:aae)(C:Addr):Prop where
 pg:acX K C ae9=true
 hd:adt K C=true
 po:aef K C=true
 sa:abu K (.ref C) "__setattr__" = some (some (.builtin "object.__setattr__"))
def Cls.get(c:Cls K C)(f:Str):acX K C f=true:=c.pg
def NoAttr(K:aae)(C:Addr)(f:Str):Prop:=abu K (.ref C) f=some none
def NoAttr.taker{f:Str}(n:NoAttr K C f):agh K C f=some none:=by
 unfold agh;rw[show abu K (.ref C) f=some none from n];rfl
structure Meth(K:aae)(C:Addr)(m:Str)(f:Addr):Prop where
 at_:abu K (.ref C) m=some (some (.ref f))
 fn:ae2 K (.ref f)=true
 kp:abT K (.ref f)=true
section
variable {X:Cx}{p:List 'i'}{d:St}{H:Hp}{s:GT}{a C dx:Addr}{fs:List (Str×V)}{f:Str}{v:V}{A:abb}{E:Ad->GT->Prop}
theorem ya{b:Bool}(I:Inv X p d H s)(e:H a=some (.ins C dx fs))(c:Cls X.K C)(n:NoAttr X.K C f)(l:fs.lookup f=some v)
  (h:∀u s',Inv X p d H s'->RelV v u->Q u s'):wpAny (model X.prog X.w) A (getAttr (.ref a) f b) Q E s:=by
 let⟨mA,O,r,_,_,_⟩:=u6 I.hok e;let⟨u,m,k⟩:=RelO.some_of (v:=v) (o:=mA f) (by rw[<-l];exact r f);exact Qb I.kIn O (c.get f) c.hd n m (Ca k) (h u _ (I.tok _) k)
theorem oH{m:Str}{g:Addr}{Q:Ad×List Ad->GT->Prop}(I:Inv X p d H s)(e:H a=some (.ins C dx fs))(c:Cls X.K C)(k:Meth X.K C m g)(l:fs.lookup m=none)
  (h:Q (.ref g,[.ref a]) s):wpAny (model X.prog X.w) A (aez (.ref a) m pl) Q E s:=by
 let⟨mA,O,r,_,_,_⟩:=u6 I.hok e;have n:mA m=none:=RelO.none_of (by rw[<-l];exact r m);exact GI I.kIn O (c.get m) k.at_ k.fn n h
theorem yy{y:V}{Q:Unit->GT->Prop}(I:Inv X p d H s)(e:H a=some (.ins C dx fs))(c:Cls X.K C)(n:NoAttr X.K C f)(L:fs.length<1000)(t:RelV y u)
  (h:∀s',Inv X p d (upd H a (.ins C dx (putF f y fs))) s'->Q () s'):wpAny (model X.prog X.w) A (setAttr (.ref a) f u) Q E s:=by
 let⟨mA,O,r,l,_,m⟩:=u6 I.hok e;have D:(fs.map (·.1)).length≤aak:=by rw[iO,aap];omega
 refine Nr I.kIn O c.sa c.po n.taker c.hd l D λB k F=>h _ ?_;have hd:∃o,B.get? dx=some o:=let ⟨o,_,_,e',_⟩:=k.ns;⟨o,e'⟩;refine I.write (x:=a) (e:=dx) (by rw[e];exact acE) (.inr m) (λb q G z=>(F.2 b G).trans z) hd ?_;refine⟨by rw[av O.ne];exact m,?_,O.ne,k.obj,_,k.ns,λg=>?_,λg J=>?_⟩
 .have:=l5 f y fs;omega
 .show RelO ((putF f y fs).lookup g) (if g=f then some u else mA g);rw[lG]
  by_cases q:g=f
  .rw[if_pos q,if_pos q];exact t
  .rw[if_neg q,if_neg q];exact r g
 .by_cases q:g=f
  .rw[q];exact(lL f y fs).1
  .refine(lL f y fs).2 g (l g λz=>J ?_);show(if g=f then some u else mA g)=none;rw[if_neg q];exact z
theorem Inv.made(I:Inv X p d H s):Inv X p d (upd (upd H s.heap.objs.size (.own (s.heap.objs.size+1))) (s.heap.objs.size+1) (.ins C s.heap.objs.size []))
  {s with heap:=(s.heap.push abR).push (acr C s.heap.objs.size)}:=by
 have k:(s.heap.push abR).get? s.heap.objs.size=some abR:=aai s.heap rfl;have n:((s.heap.push abR).push (acr C s.heap.objs.size)).get? (s.heap.objs.size+1)=some (acr C s.heap.objs.size):=by
  have:=aai (s.heap.push abR) (o:=acr C s.heap.objs.size) rfl;rwa[abv]at this
 have t:(s.heap.push abR).Ns s.heap.objs.size (λ_=>none):=⟨abR,#[],_,k,rfl,(λe l=>absurd l 'a'),λ_=>rfl⟩;have z:=I.laid (a:=s.heap.objs.size) (o:=.own (s.heap.objs.size+1)) (h':=s.heap.push abR) (t':=s.toks) (λb u q=>Io _ q) (aab _) ⟨_,k⟩;refine z.laid (a:=s.heap.objs.size+1) (o:=.ins C s.heap.objs.size []) (t':=s.toks) (λb u q=>Io _ q) (af5 (abv _ _)) ?_;have ne:s.heap.objs.size≠s.heap.objs.size+1:=aa2 (abF _);refine⟨by rw[av ne,ay],abJ _,ne,n,λ_=>none,(aa1.Ns1.of_empty t).at λo q=>Io _ q,λ_=>acE,λy m=>absurd rfl m⟩
def MD{prog:aaI}{env:Env}{f:Str}{s:GT}(l:abz e f env (eval e env)=eval e env)
  (h:wpAny (model prog w) A (eval e env) (λo k=>wpAny (model prog w) A (getAttr o f true) Q E k) E s):wpAny (model prog w) A (eval (.Attribute e f pos) env) Q E s:=
 Attribute_any_ h (by rw[arm_eval_Attribute,l])
end
def tFld(K:aae)(ta:TE)(f:Str):TE:=λσ H Q=>ta σ H λx d=>∃a C dx fs v,x = .ref a/\d a=some (.ins C dx fs)/\Cls K C/\NoAttr K C f/\fs.lookup f=some v/\Q v d
def sFld(K:aae)(ta t:TE)(f:Str):TS:=λD σ H=>t σ H λy k=>ta σ k λx d=>∃a C dx fs,x = .ref a/\d a=some (.ins C dx fs)/\Cls K C/\NoAttr K C f/\fs.length<1000/\
 D.nx σ (upd d a (.ins C dx (putF f y fs)))
def InOp(X:Cx)(op:afb)(d:V->V->Hp->VK->Prop):Prop:=
 ∀(pins:List 'i') (s:GT) (σ:St) (H:Hp) (x y:V) (u v:Ad) (Q:VK),Inv X pins σ H s->RelV x u->RelV y v->d x y H Q->wpAny (model X.prog X.w) X.A (inplaceOp op u v) (EP X pins σ Q) X.xe s
section
variable {X:Cx}{o e b:Expr}{f:Str}{pos p d:Pos}{ta g:TE}
theorem Rf(D:PE X e ta)(m:abz e f X.env (eval e X.env)=eval e X.env):PE X (.Attribute e f pos) (tFld X.K ta f):=by
 intro pins s σ H Q I h;refine MD m (thn (D pins s σ H _ I h) λu s1 ⟨x,F,k,y,a,C,dx,fs,v,ex,z,c,n,l,q⟩=>?_);subst ex;obtain rfl:u=abm a:=y;exact ya k z c n l λG s2 B t=>⟨v,F,B,t,q⟩
theorem Vi(J:PE X o ta)(S:PE X b g)(G:abG b (some (.Attribute o f p)) pos.line X.env=pure false):PS X (.Assign [.Attribute o f p] b pos) (sFld X.K ta g f):=by
 intro pins s σ H D I h;refine plainObj_wpAny_Assign_Attribute (thn (S pins s σ H _ I h) λu s1 ⟨y,R,m,k,q⟩=>thn (J pins s1 σ R _ m q) λF s2 ⟨x,U,L,z,a,C,dx,fs,ex,B,c,n,l,O⟩=>?_) G;subst ex;obtain rfl:F=abm a:=z;exact yy L B c n l k λT t=>⟨σ,_,t,O⟩
def rAdd:V->V->Hp->VK->Prop:=λx y H Q=>∃i j,x = .int i/\y = .int j/\Q (.int (i+j)) H
def rSub:V->V->Hp->VK->Prop:=λx y H Q=>∃i j,x = .int i/\y = .int j/\Q (.int (i-j)) H
theorem UQ:InOp X .Add rAdd:=by
 intro pins s σ H x y u v Q I l k ⟨i,j,rfl,rfl,q⟩;let⟨t,rfl⟩:=(l);let⟨t',rfl⟩:=(k);exact PyProof.Rows.iadd_int ⟨.int _,H,I.tok _,⟨_,rfl⟩,q⟩
theorem QV:InOp X .Sub rSub:=by
 intro pins s σ H x y u v Q I l k ⟨i,j,rfl,rfl,q⟩;let⟨t,rfl⟩:=(show ∃t,u=agH i t from l);let⟨t',rfl⟩:=(show ∃t',v=agH j t' from k);exact PyProof.Rows.isub_int ⟨.int (i-j),H,I.tok _,⟨_,rfl⟩,q⟩
end
structure Room(k:Nat)(A:abb):Prop where
 hd:A.handled=none
 dp:A.depth+3*k+5<recursionLimit
 un:A.units+16*k+200<cLine
 gd:A.guards=some []
theorem Room.mono{k:Nat}(r:Room k A)(h:j≤k):Room j A:=⟨r.hd,by have:=r.dp;omega,by have:=r.un;omega,r.gd⟩
theorem Room.deeper{k:Nat}(r:Room (k+1) A)(env:Env):Room k (A.deeper env):=
 ⟨r.hd,by have:=r.dp;show A.depth+1+3*k+5<_;omega,by have:=r.un;show A.units+3+16*k+200<_;omega,r.gd⟩
def yD:(A.under (.builtin "type.__call__" ⟨.ref C::us,kw⟩)).depth=A.depth+1:=rfl
def yj:(A.under (.builtin "type.__call__" ⟨.ref C::us,kw⟩)).units=A.units+1:=rfl
def ve:(A.under (.builtin "type.__call__" ⟨.ref C::us,kw⟩)).guards=A.guards:=rfl
theorem Room.make{k:Nat}(r:Room (k+1) A)(C:Addr)(us:List Ad)(kw:List (Str×Ad)):Room k (A.under (.builtin "type.__call__" ⟨.ref C::us,kw⟩)):=
 ⟨r.hd,by have:=r.dp;rw[yD];omega,by have:=r.un;rw[yj];omega,by rw[ve];exact r.gd⟩
theorem Room.depth{k:Nat}(r:Room k A):A.depth<recursionLimit:=by have:=r.dp;omega
theorem Room.units{k:Nat}(r:Room k A):A.units+64<cLine:=by have:=r.un;omega
def tNil:TA:=λ_ H Q=>Q [] H
def VA(ta:TE)(tr:TA):TA:=λσ H Q=>ta σ H λx l=>tr σ l λk d=>Q (x::k) d
section
variable {X:Cx}{e:Expr}{a:List Expr}{c:TE}{t:TA}{pos:Pos}
theorem JB:PA X [] tNil:=λ_ _ _ _ H Q I h=>ahd ⟨[],H,I,.nil,h⟩
theorem uA(l:PE X e c)(p:PA X a t)(k:aac (e::a) X.env=(false,eval e X.env)::aac a X.env:=by rfl):PA X (e::a) (VA c t):=by
 intro pos pins s σ H Q I h;rw[k];show wpAny _ _ (spliced ((false,eval e X.env)::abq pos _)) _ _ s;refine ag2 (thn (l pins s σ H _ I h) λu s1 ⟨x,D,n,r1,q⟩=>?_);exact thn (p pos pins s1 σ D _ n q)<|by intro us s2 ⟨d,z,y,m,B⟩;exact⟨x::d,z,y,.cons r1 m,B⟩
def tTup(t:TA):TE:=λσ H Q=>t σ H λd k=>d.length≤aak/\∀p,k p=none->Q (.ref p) (upd k p (.tup d))
def tLst(t:TA):TE:=λσ H Q=>t σ H λd k=>d.length≤aak/\∀p,k p=none->Q (.ref p) (upd k p (.lst d))
theorem RE{x1}(h:PA X a t):PE X (.Tuple a x1 pos) (tTup t):=by
 intro pins s σ H Q I l;refine wpAny_Tuple_spliced (thn (h pos pins s σ H _ I l) λus s1 ⟨n,m,d,r,z,q⟩=>⟨by rw[<-r.length];exact z,?_⟩);have k:=d.hok.fresh (aab _);refine⟨.ref s1.heap.objs.size,upd m s1.heap.objs.size _,d.laid (t':=s1.toks) (λb u e=>Io _ e) (aab _) ?_,rfl,q _ k⟩;exact⟨z,us,r,⟨_,aai _ rfl,rfl,rfl,_,rfl⟩⟩
theorem Sj(h:PA X a t):PE X (.List a pos) (tLst t):=by
 intro pins s σ H Q I l;refine wpAny_List_spliced (thn (h pos pins s σ H _ I l) λus s1 ⟨n,m,d,r,z,q⟩=>⟨by rw[<-r.length];exact z,?_⟩);have k:=d.hok.fresh (aab _);refine⟨.ref s1.heap.objs.size,upd m s1.heap.objs.size _,d.laid (t':=s1.toks) (λb u e=>Io _ e) (aab _) ?_,rfl,q _ k⟩;exact⟨z,us,0,r,aai _ rfl⟩
end
abbrev Sp:=List V->Hp->VK->XK->Prop
abbrev CXT:=List Env->Hp->GT->XK->Ad->GT->Prop
structure Env0(P:aaI)(w:World)(K:aae)(mg:Str->Option Ad)(base:aa1)(A:abb)(outer:List Env)(s:GT)(H:Hp):Prop where
 frames:A.frames=some outer
 mod:Mod K mg base
 bs:∀b o,base.get? b=some o->s.heap.get? b=some o/\H b=none
 bsz:base.objs.size≤s.heap.objs.size
 funs:s.heap.FunFrames base outer
 frf:∀b∈frs outer,H b=none
 hok:HOk P w H s.heap
 bare:aft s.gens
def CE(outer:List Env)(P:aaI)(w:World)(H:Hp)(s:GT)(Q:VK)(u:Ad)(s':GT):Prop:=
 ∃v d,s'.os=s.os/\aft s'.gens/\Un (frs outer) [] H d s.heap s'.heap/\HOk P w d s'.heap/\RelV v u/\Q v d
def CR(CX:CXT)(outer:List Env)(P:aaI)(w:World)(H:Hp)(s:GT)(Q:VK)(E:XK)(r:Result)(s':GT):Prop:=
 match r with
 | .ok (.ret u)=>CE outer P w H s Q u s'
 | .ok _=>False
 | .error e=>CX outer H s E e s'
structure FnOk(P:aaI)(w:World)(K:aae)(mg:Str->Option Ad)(base:aa1)(CX:CXT)(k:Nat)(f:Addr)(fd:ab8)(ps:List Str)(sp:Sp):Prop where
 len:∀vs H Q E,sp vs H Q E->vs.length=ps.length
 run:∀(A:abb) (outer:List Env) (s:GT) (H:Hp) (args:Args) (us:List Ad) (vs:List V) (Q:VK) (E:XK),Room k A->Env0 P w K mg base A outer s H->ahe s fd args (ps.zip us)->Vals vs us->sp vs H Q E ->
  ad4 (model P w) A (.call (.ref f) args) (CR CX outer P w H s Q E) s
def Env0.make{base:aa1}{s:GT}(e:Env0 P w K mg base A outer s H)(C:Addr)(us:List Ad)(kw:List (Str×Ad)) :
  Env0 P w K mg base (A.under (.builtin "type.__call__" ⟨.ref C::us,kw⟩)) outer s H:=⟨by first|exact e.frames|(simpa[ pushEnvs]),e.mod,e.bs,e.bsz,e.funs,e.frf,e.hok,e.bare⟩
section
variable {X:Cx}{p:List 'i'}{a:St}{H:Hp}{s s':GT}
def Inv.env0(I:Inv X p a H s):Env0 X.prog X.w X.K X.mg X.base X.A X.stack s H:=
 ⟨I.ok.frames,I.ok.mod,I.bs,aaw I.ok.bsz I.sz,I.stack,I.stkFree,I.hok,I.bare⟩
theorem Inv.after{Q:VK}(I:Inv X p a H s)(h:CE X.stack X.prog X.w H s Q u s'):EP X p a Q u s':=by
 let⟨v,l,os,bare,un,hok,r,q⟩:=h;let⟨m,g,d,t,k⟩:=s';obtain rfl:k=s.os:=os;exact⟨v,l,I.call (h':=m) (g':=g) (d':=d) (t':=t) un hok bare (λb z=>absurd z 'a'),r,q⟩
end
def T8(sp:Sp)(d:List V)(E:XK)(t:TA):TE:=λσ H Q=>t σ H λvs k=>sp (vs++d) k Q E
def MZ(C:Addr)(m:Str)(sp:Sp)(d:List V)(E:XK)(ta:TE)(t:TA):TE:=λσ H Q=>ta σ H λx k=>∃a dx fs,x = .ref a/\k a=some (.ins C dx fs)/\fs.lookup m=none/\
 t σ k λvs l=>sp (x::(vs++d)) l Q E
def UK(C:Addr)(sp:Sp)(d:List V)(E:XK)(t:TA):TE:=λσ H Q=>t σ H λvs k=>∀x dx,k x=none->k dx=none->dx≠x ->
 sp (.ref x::(vs++d)) (upd (upd k dx (.own x)) x (.ins C dx [])) (λv l=>v = .non/\Q (.ref x) l) E
def Binds(K:aae)(fd:ab8)(ps:List Str)(ds:List Ad):Prop:=
 ∀(s:GT) (us:List Ad),K.In s.heap->(us++ds).length=ps.length->ahe s fd ⟨us,[]⟩ (ps.zip (us++ds))
def Binds.all{fd:ab8}(h:∀us:List Ad,us.length=ps.length->adQ fd ⟨us,[]⟩=pure (ps.zip us)):Binds K fd ps []:=λs us _ d=>by
 rw[aa5]at d⊢;exact .of_eq (h us d)
def j6(CX:CXT)(X:Cx)(E:XK):Prop:=∀(pins:List 'i') (σ:St) (H:Hp) (s:GT) (e:Ad) (d:GT),Inv X pins σ H s->CX X.stack H s E e d->X.xe e d
section
variable {X:Cx}{CX:CXT}{k:Nat}{f C:Addr}{fd:ab8}{ps:List Str}{sp:Sp}{dvs:List V}{ds:List Ad}{E:XK}{x m:Str}{p pos apos:Pos}{e o:Expr}{es:List Expr}{ta:TE}{t:TA}
theorem AM{s:GT}{Q:VK}(F:FnOk X.prog X.w X.K X.mg X.base CX k f fd ps sp)(n:Room k X.A)(q:Binds X.K fd ps ds)(hd:Vals dvs ds)(B:j6 CX X E)
  (I:Inv X pins σ H s) (r:Vals vs us) (h:sp (vs++dvs) H Q E):wpAny (model X.prog X.w) X.A (call (.ref f) us) (EP X pins σ Q) X.xe s:=by
 have l:=r.append hd;have z:(us++ds).length=ps.length:=by rw[<-l.length];exact F.len _ _ _ _ h
 refine wpAny_call (aeg (F.run X.A X.stack s H _ _ _ Q E n I.env0 (q s us I.kIn z) l h) λr y d=>?_)
 cases r with
 |error e=>exact B pins σ H s e y I d
 |ok fl=>
  cases fl with
  |ret u=>exact I.after d
  |next=>exact acs d
  |brk=>exact acs d
  |cont=>exact acs d
theorem Mx(F:FnOk X.prog X.w X.K X.mg X.base CX k f fd ps sp)(J:Room k X.A)(B:Gl X x)(y:X.mg x=some (.ref f))(hk:abT X.K (.ref f)=true)(z:Binds X.K fd ps ds)(hd:Vals dvs ds)(D:j6 CX X E)
  (G:PA X (e::es) t) (l:(x=='g')=false:=by decide) (L:aac (e::es) X.env=(false,eval e X.env)::aac es X.env:=by rfl) (d:(abq pos (aac es X.env)).any (·.1)=false:=by rfl) :
  PE X (.Call (.Name x p) (e::es) [] pos) (T8 sp dvs E t):=by
 intro pins s σ H Q I h;refine acF (Bh I B y ?_ l);refine afe I.ok.mod.kin hk (thn (G pos pins s σ H _ I h) λus s1 ⟨vs,O,n,r,q⟩=>⟨n.kIn,?_⟩) L d;exact AM F J z hd D n r q
theorem P9(T:PE X o ta)(c:Cls X.K C)(y:Meth X.K C m f)(F:FnOk X.prog X.w X.K X.mg X.base CX k f fd ps sp)(S:Room k X.A)(G:Binds X.K fd ps ds)(hd:Vals dvs ds)(J:j6 CX X E)(R:PA X (e::es) t)
  (n:aac (e::es) X.env=(false,eval e X.env)::aac es X.env:=by rfl) (d:(abq pos (aac es X.env)).any (·.1)=false:=by rfl)
  (D:eval (.Call (.Attribute o m apos) (e::es) [] pos) X.env=(do
   let ov <- eval o X.env
   acN apos.atName
   let (f,first) <- ad2 [ov] (aez ov m pl)
   agx pos f first (abq pos (aac (e::es) X.env)) (acY pos (ab2 [] X.env))):=by rfl) :
  PE X (.Call (.Attribute o m apos) (e::es) [] pos) (MZ C m sp dvs E ta t):=by
 intro pins s σ H Q I h;refine agq (pl:=pl) (thn (T pins s σ H _ I h) λu s1 ⟨x,V,z,L,a,dx,fs,ex,O,l,q⟩=>?_) D;subst ex;obtain rfl:u=abm a:=L;refine oH z O c y l ?_;refine afe (first:=[.ref a]) (h₀:=X.base) I.ok.mod.kin y.kp (thn (R pos pins s1 σ V _ z q) λus s2 ⟨vs,W,B,r,U⟩=>⟨B.kIn,?_⟩) n d;exact AM (us:=.ref a::us) (vs:=.ref a::vs) F S G hd J B (.cons rfl r) U
theorem GW(L:PE X o ta)(c:Cls X.K C)(n:Meth X.K C m f)(F:FnOk X.prog X.w X.K X.mg X.base CX k f fd ps sp)(J:Room k X.A)(z:Binds X.K fd ps ds)(hd:Vals dvs ds)(B:j6 CX X E)
  (y:eval (.Call (.Attribute o m apos) [] [] pos) X.env=(do
   let ov <- eval o X.env
   acN apos.atName
   let (f,first) <- ad2 [ov] (aez ov m pl)
   agx pos f first (abq pos (aac [] X.env)) (acY pos (ab2 [] X.env))):=by rfl) :
  PE X (.Call (.Attribute o m apos) [] [] pos) (MZ C m sp dvs E ta tNil):=by
 intro pins s σ H Q I h;refine agq (pl:=pl) (thn (L pins s σ H _ I h) λu s1 ⟨x,O,d,D,a,dx,fs,ex,G,l,q⟩=>?_) y;subst ex;obtain rfl:u=abm a:=D;refine oH d G c n l ?_;exact PySem.W.callWith_K0 (first:=[.ref a]) d.kIn n.kp (AM (us:=[.ref a]) (vs:=[.ref a]) F J z hd B d (.cons rfl .nil) q)
structure Mk(K:aae)(C f:Addr):Prop where
 makes:agi K C=true
 init:abu K (.ref C) "__init__" = some (some (.ref f))
 fn:ae2 K (.ref f)=true
 kp:abT K (.ref C)=true
theorem GY{s:GT}{Q:VK}(M:Mk X.K C f)(F:FnOk X.prog X.w X.K X.mg X.base CX k f fd ps sp)(L:Room (k+1) X.A)(D:Binds X.K fd ps ds)(hd:Vals dvs ds)
  (J:j6 CX X E) (I:Inv X pins σ H s) (r:Vals vs us)
  (h:∀x dx,H x=none->H dx=none->dx≠x->sp (.ref x::(vs++dvs)) (upd (upd H dx (.own x)) x (.ins C dx [])) (λv z=>v = .non/\Q (.ref x) z) E) :
  wpAny (model X.prog X.w) X.A (call (.ref C) us) (EP X pins σ Q) X.xe s:=by
 have n:=h (s.heap.objs.size+1) s.heap.objs.size (I.hok.fresh (afu _)) (I.hok.fresh (aab _)) (aa2 (abF _));have l:=Inv.made (C:=C) I;have q:Vals (V.ref (s.heap.objs.size+1)::(vs++dvs)) (abm (s.heap.objs.size+1)::(us++ds)):=.cons rfl (r.append hd);have T:(abm (s.heap.objs.size+1)::us++ds).length=ps.length:=by
  have e:=q.length;rw[F.len _ _ _ _ n]at e;exact e.symm
 refine wpAny_call (IY (f:=f) I.kIn M.makes M.init (beq_iff_eq.mp M.fn) (aeg (F.run _ X.stack _ _ ⟨abm (s.heap.objs.size+1)::us,[]⟩ (abm (s.heap.objs.size+1)::(us++ds)) _ _ E (L.make C us [])
  (l.env0.make C us []) (D _ (abm (s.heap.objs.size+1)::us) l.kIn T) q n) λr R d=>?_))
 cases r with
 |error e=>exact J pins σ _ _ e R l d
 | ok fl=>
  cases fl with
  |ret u=>
   let⟨v,O,y,S,B,G⟩:=l.after d;subst B;exact⟨S,⟨V.ref (s.heap.objs.size+1),O,y,rfl,G⟩⟩
  |next=>exact acs d
  |brk=>exact acs d
  |cont=>exact acs d
theorem Oi(M:Mk X.K C f)(F:FnOk X.prog X.w X.K X.mg X.base CX k f fd ps sp)(J:Room (k+1) X.A)(B:Gl X x)(y:X.mg x=some (.ref C))(z:Binds X.K fd ps ds)(hd:Vals dvs ds)(D:j6 CX X E)
  (G:PA X (e::es) t) (l:(x=='g')=false:=by decide) (L:aac (e::es) X.env=(false,eval e X.env)::aac es X.env:=by rfl) (d:(abq pos (aac es X.env)).any (·.1)=false:=by rfl) :
  PE X (.Call (.Name x p) (e::es) [] pos) (UK C sp dvs E t):=by
 intro pins s σ H Q I h;refine acF (Bh I B y ?_ l);refine afe (h₀:=X.base) I.ok.mod.kin M.kp (thn (G pos pins s σ H _ I h) λus s1 ⟨vs,O,n,r,q⟩=>⟨n.kIn,?_⟩) L d;exact GY M F J z hd D n r q
end
structure ak(N P:List Str)(sc:Scope):Prop where
 kind:sc.kind = .function
 co:sc.isCoroutine=false
 gen:sc.isGenerator=false
 nd:N.Nodup
 pre:N.take P.length=P
 par:∀x∈P,sc.names.lookup x=some .local\/sc.names.lookup x=some .cell
 nofree:∀y∈sc.names,y.2≠.free
theorem tu{k:Str->Option aeN}{x:Str}:∀{binds:List (Str×Ad)}{m:Str->Option Ad},(∀v,(x,v)∉binds)->bindL k binds m x=m x
 |[],_,_=>rfl
 | (n,v)::r,m,h=>by
  unfold bindL;rw[tu λw d=>h w (aaf _ d)];split
  .have:x≠n:=by rintro rfl;exact h v aah
   simp[this]
  .rfl
theorem sX{k:Str->Option aeN}{x:Str}:∀{binds:List (Str×Ad)}{m:Str->Option Ad},(∀v,(x,v)∉binds)->bindC k binds m x=m x
 |[],_,_=>rfl
 | (n,v)::r,m,h=>by
  unfold bindC;rw[sX λw d=>h w (aaf _ d)];split
  .rfl
  .have:x≠n:=by rintro rfl;exact h v aah
   simp[this]
theorem sW{k:Str->Option aeN}{x:Str}{v:Ad}:∀{P:List Str}{vs:List Ad}{i:Nat}{m:Str->Option Ad},P.Nodup->P[i]?=some x->vs[i]?=some v->k x=some .local ->
  bindL k (P.zip vs) m x=some v
 |[],_,_,_,_,h,_,_=>by simp at h
 |_::_,[],_,_,_,_,h,_=>by simp at h
 |p::P,w::vs,0,m,nd,h1,h2,hk=>by
  simp at h1 h2;subst h1;subst h2;show bindL k ((p,w)::P.zip vs) m p=_;unfold bindL;rw[tu λv d=>(abe.mp nd).1 (agj d).1,if_pos hk];simp
 |p::P,w::vs,i+1,m,nd,h1,h2,hk=>by
  unfold bindL;exact sW (abe.mp nd).2 ‹_› ‹_› hk
theorem sY{k:Str->Option aeN}{x:Str}{v:Ad}:∀{P:List Str}{vs:List Ad}{i:Nat}{m:Str->Option Ad},P.Nodup->P[i]?=some x->vs[i]?=some v->k x≠some .local ->
  bindC k (P.zip vs) m x=some v
 |[],_,_,_,_,h,_,_=>by simp at h
 |_::_,[],_,_,_,_,h,_=>by simp at h
 |p::P,w::vs,0,m,nd,h1,h2,hk=>by
  simp at h1 h2;subst h1;subst h2;show bindC k (_::P.zip vs) m p=_;unfold bindC;rw[sX λv d=>(abe.mp nd).1 (agj d).1,if_neg hk];simp
 |p::P,w::vs,i+1,m,nd,h1,h2,hk=>by
  unfold bindC;exact sY (abe.mp nd).2 ‹_› ‹_› hk
def start(N:List Str)(vs:List V):St:=vs.map some++aaq (N.length-vs.length) none
def cxOf(CX:CXT)(P:aaI)(w:World)(K:aae)(mg:Str->Option Ad)(base:aa1)(N:List Str)(q:Str)(scope:Scope)(f:Addr)(k:Ad)(A:abb)(outer:List Env)(s:GT)(H:Hp)(E:XK):Cx where
 prog:=P
 w:=w
 K:=K
 mg:=mg
 base:=base
 A:=A.deeper (aeh q scope s.heap.objs.size f k)
 N:=N
 s₀:=s
 H₀:=H
 env:=aeh q scope s.heap.objs.size f k
 outer:=outer
 stack:=aeh q scope s.heap.objs.size f k::outer
 ex:=[]
 calm:=true
 fn:=λ_=>true
 pn:=[]
 xe:=λe m=>wpAny (model P w) (A.deeper (aeh q scope s.heap.objs.size f k)) (leaving (aeh q scope s.heap.objs.size f k) e) (λ_ d=>CX outer H s E e d) (λl d=>CX outer H s E l d) m
def wz{sc:Scope}{n:Nat}(h:sc.names.lookup x=some .cell):∃c,(cellsFrom n sc.names []).lookup x=some c:=by
 have q:=af6 sc.names n [] (.inl h);exact afE.mp q
theorem Ap{CX:CXT}{base:aa1}{d:Str}{f:Addr}{I:Ad}{s s1:GT}{E:XK}
  (S:ak N ps scope) (hd:A.handled=none) (m:Env0 P w K mg base A outer s H) (W:vs.length=ps.length) (r:Vals vs us)
  (x:InCallC s s.heap.objs.size (bindL (aeh d scope s.heap.objs.size f I).kindOf (ps.zip us) λ_=>none) (cellsFrom (s.heap.objs.size+1) scope.names []) (bindC (aeh d scope s.heap.objs.size f I).kindOf (ps.zip us) λ_=>none) s1) :
  Inv (cxOf CX P w K mg base N d scope f I A outer s H E) [] (start N vs) H s1:=by
 have O:ps.length≤N.length:=by have:=congrArg adx S.pre;rw[aaB]at this;omega
 let⟨J,U,rfl,hk⟩:=x.done;have t:∀b:Addr,b∉(cxOf CX P w K mg base N d scope f I A outer s H E).ex:=λb z=>absurd (show b∈([]:List Addr)from z) 'a';refine⟨⟨m.mod,S.kind,rfl,rfl,aab _,λy z c J l=>?_,λy B=>?_,λy c _ h=>?_,λ_=>hd,abb.frames_deeper m.frames,.inr ⟨rfl,rfl⟩,λb z=>absurd z (t b),m.bs,m.bsz,λb _ _=>t b,λb z=>absurd z (t b),m.funs,m.frf⟩,
  rfl,m.bare,Un.kept hk,⟨_,x.toInCall.ns,λi y v J l V=>?_⟩,λy c h=>⟨_,x.cell y c h⟩,m.hok.fresh (aab _),λy c h=>?_,λp D=>absurd (show p∈([]:List 'i')from D) 'a',m.hok.kept hk,?_⟩
 .exact name_of_addr x.apart (acv J) (acv l)
 .rcases B with B|B
  .exact wz B
  .exact absurd rfl (S.nofree _ (acv B))
 .exact abY (x.above y c (acv h))
 .have G:i<vs.length:=by
   unfold start at l
   by_cases G:i<vs.length
   .exact G
   .rw[aaP (by simpa using G)]at l;rw[aea]at l
    split at l<;>cases l
  have R:vs[i]?=some v:=by
   unfold start at l;rw[aaE (by simpa using G),aaj]at l
   cases e:vs[i]? with
   |none=>rw[e]at l;cases l
   |some a=>rw[e]at l;cases l;rfl
  let⟨u,L,T⟩:=r.get R;have D:ps[i]?=some y:=by
   rw[<-S.pre,List.getElem?_take_of_lt ∅];exact J
  have F:ps.Nodup:=by rw[<-S.pre];exact S.nd.sublist (List.take_sublist _ _)
  refine⟨u,T,?_⟩;rcases S.par y (LD D)with k|k
  .exact .inl ⟨k,sW F D L k⟩
  .obtain⟨c,e⟩:=wz (n:=s.heap.objs.size+1) k;refine .inr ⟨.inl k,c,e,?_⟩;have q:=x.cell y c e;rw[sY F D L (by show scope.names.lookup y≠_;rw[k];decide)]at q;exact q
 .exact m.hok.fresh (abY (x.above y c (acv h)))
 .unfold start;show _=N.length;rw[aao,iO,acg];omega
theorem V8{CX:CXT}{base:aa1}{k:Nat}{f:Addr}{name d:Str}{p:Arguments}{dV kV L pm l ct oc:Ad}{an od:Option Addr}
  {Z:Array (Option Ad)}{sp:Sp} (lk:K.lookup f=some ⟨oc,od,.func (abo name d p body scope dV kV L pm an l ct),Z⟩) (hcd:ady K l d=true) (S:ak N ps scope)
  (len:∀vs H Q E,sp vs H Q E->vs.length=ps.length)
  (B:∀(A:abb) (outer:List Env) (s:GT) (H:Hp) (vs:List V) (Q:VK) (E:XK),Room k (A.deeper (aeh d scope s.heap.objs.size f l))->sp vs H Q E ->
   ∃t,PSs (cxOf CX P w K mg base N d scope f l A outer s H E) body t/\t {nx:=λ_ z=>Q .non z,rt:=Q} (start N vs) H) :
  FnOk P w K mg base CX (k+1) f (abo name d p body scope dV kV L pm an l ct) ps sp:=by
 refine⟨len,λA outer s H args us vs Q E T O hb r G=>?_⟩;have hl:=len _ _ _ _ G;have KX:K.In s.heap:=O.mod.kin.keeps λb o e=>(O.bs b o e).1;have Y:s.heap.NoLimit:=O.mod.nolimit.keeps λb o e=>(O.bs b o e).1;have D:∀y∈ps.zip us,scope.names.lookup y.1=some .local\/(scope.names.lookup y.1=some .cell/\((cellsFrom (s.heap.objs.size+1) scope.names []).lookup y.1).isSome=true):=by
  intro⟨n,v⟩ hy;rcases S.par n (agj hy).1 with q|q
  .exact .inl q
  .exact .inr ⟨q,af6 _ _ _ (.inl q)⟩
 refine codeAny_call_function T.depth (KX _ _ lk) rfl S.co S.gen rfl (PySem.W.codeRec_of KX hcd) (hb _ _ _ _ ?_);refine wpAny_newFunctionEnv_cells S.kind D λenv he s1 x=>?_;subst he;refine⟨Y.keeps x.toInCall.keep,codeAny_func ?_⟩;let⟨t,ht,hq⟩:=B A outer s H vs Q E (T.deeper _) G;have I:Inv (cxOf CX P w K mg base N d scope f l A outer s H E) [] (start N vs) H s1:=Ap S T.hd O hl r x;refine ach (ht [] s1 (start N vs) H _ I hq) (λfl U F=>?_) λe U F=>F;have R:∀{m:St}{z:Hp}{v:V}{u:Ad},Inv (cxOf CX P w K mg base N d scope f l A outer s H E) [] m z U->RelV v u->Q v z->CE outer P w H s Q u U:=
  λ{m z v u} J W q=>⟨v,z,J.os,J.bare,J.base,J.hok,W,q⟩
 cases fl with
 |ret u=>
  let⟨v,m,z,J,W,q⟩:=F;exact R J W q
 |next=>
  let⟨m,z,J,q⟩:=F;exact R (v:=V.non) (u:=af2) J rfl q
 |brk=>
  let⟨_,_,_,q⟩:=F;exact acs q
 |cont=>
  let⟨_,_,_,q⟩:=F;exact acs q
section
variable {X:Cx}{x:Str}{p pos:Pos}{e:Expr}{a:List Expr}{t:TA}{id T:String}{r:List V->Hp->VK->Prop}
def tCB(r:List V->Hp->VK->Prop)(t:TA):TE:=λσ H Q=>t σ H λvs d=>r vs d Q
theorem w4(z:dF X (.builtin id) r)(n:Gl X x)(l:X.mg x=none)(G:aa0 x=some (.builtin id))(y:PA X (e::a) t)(D:x ≠ "__name__":=by decide)(k:(x=='g')=false:=by decide)
  (B:aac (e::a) X.env=(false,eval e X.env)::aac a X.env:=by rfl) (d:(abq pos (aac a X.env)).any (·.1)=false:=by rfl):PE X (.Call (.Name x p) (e::a) [] pos) (tCB r t):=by
 intro pins s σ H Q I h;refine acF (j7 I n l G ?_ D k);exact aeA (thn (y pos pins s σ H _ I h)<|by intro us s1 ⟨vs,F,m,r1,q⟩;exact z pins s1 σ F vs us Q m r1 q) B d
theorem Db(z:dF X (.type T) r)(n:Gl X x)(l:X.mg x=none)(G:aa0 x=some (.type T))(y:PA X (e::a) t)(D:x ≠ "__name__":=by decide)(k:(x=='g')=false:=by decide)
  (B:aac (e::a) X.env=(false,eval e X.env)::aac a X.env:=by rfl) (d:(abq pos (aac a X.env)).any (·.1)=false:=by rfl):PE X (.Call (.Name x p) (e::a) [] pos) (tCB r t):=by
 intro pins s σ H Q I h;refine acF (j7 I n l G ?_ D k);exact acA (thn (y pos pins s σ H _ I h) λus s1 ⟨vs,F,m,r1,q⟩=>z pins s1 σ F vs us Q m r1 q) B d
end
end L2
namespace HT
open PySem PyProof.Rows
variable{Q:Ad->GT->Prop}{hi lo:Option Int}
section
variable {prog:aaI}{w:World}{A:abb}{E:Ad->GT->Prop}{s:GT}
theorem cat_tup{t b:Addr}{vs a:List Ad}(q:IsTup s.heap t vs.toArray)(r:IsTup s.heap b a.toArray)(x:vs≠[])
  (u:a=[]->Q (.ref t) s) (v:a≠[]->Q (.ref s.heap.objs.size) {s with heap:=s.heap.push {cls:=.type "tuple",data:=.seq (vs++a).toArray} })
  (hsz:vs.length+a.length≤aak):wpAny (model prog w) A (acp .Add (.ref t) (.ref b)) Q E s:=by
 let⟨⟨cls,m,data,p⟩,i,o,n,hd⟩:=id q;let⟨⟨l,f,j,g⟩,h,d,n2,c⟩:=id r;simp only at o hd d c;subst o hd d c;have e:vs.toArray++a.toArray=(vs++a).toArray:=by simp
 by_cases k:a=[]
 .exact af7 ⟨_,i,rfl⟩ ⟨_,h,rfl⟩ afQ agW aei aeb (adR _ _)
   (tuple_addW1 t b vs.toArray a.toArray n n2 m f p g (by simpa) (by simp[k])) ⟨i,h,u k⟩
 .refine af7 ⟨_,i,rfl⟩ ⟨_,h,rfl⟩ afQ agW aei aeb (adR _ _)
   (tuple_addW2 t b vs.toArray a.toArray n n2 m f p g (by simpa using x) (by simpa) ‹_›) ⟨i,h,?_⟩
  rw[e];exact v k
def sIx(n d:Nat):Option Int->Nat
 |none=>d
 |some v=>if v<0 then(v+(n:Int)).toNat else min v.toNat n
def sIx_none(n d:Nat):sIx n d none=d:=rfl
def sIx_nat(n d k:Nat):sIx n d (some (k:Int))=min k n:=rfl
theorem QH(n d:Nat)(hd:d≤n)(o:Option Int):sIx n d o≤n:=by
 cases o with
 |none=>exact hd
 |some v=>
  show(if v<0 then(v+n).toNat else min v.toNat n)≤n
  by_cases h:v<0
  .grind
  .rw[if_neg h];exact acZ _ _
theorem Bt(v:Int)(n d:Nat):(if v<0 then max (v+(n:Int)) 0 else min v (n:Int))=((sIx n d (some v):Nat):Int):=by
 show _=(((if v<0 then(v+_).toNat else min v.toNat n):Nat):Int)
 grind
theorem yr(lo hi:Option Int)(n:Nat):afp lo hi 1 (n:Int)=(((sIx n 0 lo:Nat):Int),((sIx n n hi:Nat):Int)):=by
 refine agy ?_ ?_
 .cases lo with
  |none=>rfl
  |some v=>exact Bt v n 0
 .cases hi with
  |none=>rfl
  |some v=>exact Bt v n n
theorem yd(i j:Nat):adF (i:Int) (j:Int) 1=j-i:=by
 unfold adF
 grind
theorem o5{v:Ad}{o:Option Int}{Q:Option Int->GT->Prop}(p:af8 v o)(h:Q o s):wpAny (model prog w) A (ac4.Slice.slicePartIndex v) Q E s:=by
 cases p with
 |none=>exact slicePart_none h
 |int i t=>exact slicePart_int h
def fY{sl:Addr}{vl v:Ad}{n:Nat}{Q:Int×Int×Nat->GT->Prop}(d:s.heap.IsSliceOf sl vl v .none)(pl:af8 vl lo)(p:af8 v hi)
  (h:Q (((sIx n 0 lo:Nat):Int),1,sIx n n hi-sIx n 0 lo) s):wpAny (model prog w) A (ac4.Slice.sliceApplied (.ref sl) (pure (n:Int))) Q E s:=by
 let⟨os,a,c,b⟩:=id d;refine gT (gT (abh a b (x:=vl) rfl (gT (abh a b (x:=v) rfl (gT (abh a b (x:=.none) rfl (Ld ?_)))))));refine gT (slicePart_none ?_);refine gT (o5 pl (gT (o5 p (gT (Ld ?_)))));show wpAny _ _ (match afp lo hi 1 (n:Int)with|(lo,hi)=>pure (lo,(1:Int),adF lo hi 1)) _ _ s;rw[yr lo hi n];show wpAny _ _ (pure _) _ _ s;rw[yd];exact Ld h
theorem D6(xs:Array Ad)(i k:Nat):((aaz k).filterMap λ(m:Nat)=>xs[((i:Int)+(m:Int)*1).toNat]?).toArray=((xs.toList.drop i).take k).toArray:=by
 have e:(λ(m:Nat)=>xs[(i+(m:Int)*1).toNat]?)=λm=>xs[i+m]?:=by
  funext m
  have:(i+(m:Int)*1).toNat=i+m:=by omega
  rw[this]
 rw[e];have:=pick_run xs i k;rw[ag3]at this;have a:(_∘λx=>i+x)=λm=>xs[i+m]?:=rfl;rw[a]at this;rw[this]
theorem getItem_tuple_cut{t sl:Addr}{items:Array Ad}{vl v:Ad}(b:IsTup s.heap t items)(g:s.heap.IsSliceOf sl vl v .none)(pl:af8 vl lo)(p:af8 v hi)
  (k:¬(sIx items.size 0 lo=0/\sIx items.size items.size hi=items.size))
  (h:Q (.ref s.heap.objs.size) {s with heap:=s.heap.push {cls:=.type "tuple",data:=.seq ((items.toList.drop (sIx items.size 0 lo)).take (sIx items.size items.size hi-sIx items.size 0 lo)).toArray} })
  (hsz:items.size≤aak):wpAny (model prog w) A (aeI (.ref t) (.ref sl)) Q E s:=by
 have a:sizeOk (.seq ((items.toList.drop (sIx items.size 0 lo)).take (sIx items.size items.size hi-sIx items.size 0 lo)).toArray):=by
  show((items.toList.drop (sIx items.size 0 lo)).take (sIx items.size items.size hi-sIx items.size 0 lo)).toArray.size≤aak;rw[aaK,aaB,aeB,acw];omega
 have j:sIx items.size items.size hi≤items.size:=QH _ _ (aab _) hi;let⟨os,d,e,i⟩:=id g;have f:s.TypeIs (.ref sl) "slice":=⟨os,d,e⟩;unfold aeI
 try with_reducible refine ab5 ?_
 first|refine gT (Ld ?_)|skip
 refine gT (afv b.typeIs ⋯ ?_);refine gT (aaN (name:=abK "__getitem__") b.typeIs abr
  (aaZ abr b.typeIs entry_tuple_getitem ?_ (args_tuple_getitem _ _)))
 show wpAny _ _ (adz (.ref t) >>= _) _ _ s;refine gT (agX b ?_);refine gT (ac5 f ?_);rw[if_pos ⋯];refine gT (fY g pl p ?_);have c:¬((((sIx items.size 0 lo:Nat):Int)==0&&(1:Int)==1&&(sIx items.size items.size hi-sIx items.size 0 lo)==items.size)=true):=by
  grind
 show wpAny _ _ (if (((sIx items.size 0 lo:Nat):Int)==0&&(1:Int)==1&&(sIx items.size items.size hi-sIx items.size 0 lo)==items.size)=true then _ else _) _ _ s;rw[if_neg c,D6]
 first
  |exact gT (m:=abU _) (abd (Ld ⟨_,rfl,Ld h⟩) a)
  |exact gT (m:=abU _) (abd (gT (Ld (Ld ⟨_,rfl,Ld h⟩))) a)
  |exact gT (gT (m:=abU _) (abd (Ld (Ld ⟨_,rfl,Ld h⟩)) a))
  |exact gT (gT (m:=abU _) (abd (Ld ⟨_,rfl,Ld h⟩) a))
end
end HT
namespace L2
open PySem PySem.Spec PyProof.Rows
variable{n:Nat}{α:Type}{its:List Ad}
abbrev TO:=St->Hp->(Option Int->Hp->Prop)->Prop
def PO(X:Cx)(e:Option Expr)(t:TO):Prop:=
 ∀(p:List 'i') (s:GT) (a:St) (H:Hp) (Q:Option Int->Hp->Prop),Inv X p a H s->t a H Q ->
  wpAny (model X.prog X.w) X.A (evalPart e X.env) (λu c=>∃o b,Inv X p a b c/\af8 u o/\Q o b) X.xe s
def Ko:TO:=λ_ H Q=>Q none H
def Ya(t:TE):TO:=λa H Q=>t a H λx b=>∃i,x = .int i/\Q (some i) b
theorem fe{ns:List Int}:∀{us:List Ad},Vals (ns.map V.int) us->ae3 us ns:=by
 induction ns with
 |nil=>intro us r;cases r;exact .nil
 | cons n ns i=>
  intro us r
  cases r with
  |cons r1 a=>
   let⟨t,e⟩:=r1;subst e;exact .cons n t (i a)
section
variable {X:Cx}{e:Expr}{d:TE}{lo c:Option Expr}{tl f:TO}{pos g:Pos}
def KJ:PO X none Ko:=by
 intro p s a H Q I h;exact Ld ⟨none,H,I,.none,h⟩
def Ph(h:PE X e d):PO X (some e) (Ya d):=by
 intro p s j H Q I b;refine thn (h p s j H _ I b) λu s1 ⟨x,l,k,r1,a⟩=>?_;let⟨i,rfl,q⟩:=a;let⟨t,rfl⟩:=r1;exact⟨some i,l,k,.int i t,q⟩
def SlR(X:Cx)(r:V->Option Int->Option Int->Hp->VK->Prop):Prop:=
 ∀(p:List 'i') (s:GT) (h:St) (H:Hp) (x:V) (v vl b:Ad) (lo c:Option Int) (a:Addr) (Q:VK),Inv X p h H s->RelV x v->s.heap.IsSliceOf a vl b .none->af8 vl lo->af8 b c->r x lo c H Q ->
  ∃T id,typeLookup (.type T) "__getitem__" = pure (some (.builtin id))/\s.TypeIs v T/\wpAny (model X.prog X.w) X.A (aeI v (.ref a)) (EP X p h Q) X.xe s
def tSl(r:V->Option Int->Option Int->Hp->VK->Prop)(d:TE)(tl f:TO):TE:=λa H Q=>d a H λx h=>tl a h λl b=>f a b λu i=>r x l u i Q
def Ic{r:V->Option Int->Option Int->Hp->VK->Prop}(B:SlR X r)(L:PE X e d)(C:PO X lo tl)(z:PO X c f):PE X (.Subscript e (.Slice lo c none g) pos) (tSl r d tl f):=by
 intro p s i H Q I h;refine ag4 (thn (L p s i H _ I h) λv s1 ⟨x,N,o,r1,A⟩=>?_);refine wpAny_Slice (thn (C p s1 i N _ o A) λvl s2 ⟨l,E,K,m,M⟩=>thn (z p s2 i E _ K M) λj a ⟨u,k,D,y,t⟩=>?_);refine Ld ?_;have J:Inv X p i k {a with heap:=a.heap.push {cls:=.type "slice",data:=.fields #[vl,j,.none]} }:=D.kept (t':=a.toks) λb O q=>Io _ q;let⟨T,id,G,F,w⟩:=B p {a with heap:=a.heap.push {cls:=.type "slice",data:=.fields #[vl,j,.none]} } i k x v vl j l u a.heap.objs.size Q J r1 (aa1.IsSliceOf.new ..) m y t;exact tail_any F G w rfl
def cutV(xs:List V)(lo c:Option Int):List V:=(xs.drop (HT.sIx xs.length 0 lo)).take (HT.sIx xs.length xs.length c-HT.sIx xs.length 0 lo)
theorem lh(xs:List V)(lo c:Option Int):(cutV xs lo c).length≤xs.length:=by
 unfold cutV;rw[aaB,aeB];omega
def rSlT(K:aae):V->Option Int->Option Int->Hp->VK->Prop:=λx lo c H Q=>∃a b,x = .ref a/\SqT K H a b/\
 ¬(HT.sIx b.length 0 lo=0/\HT.sIx b.length b.length c=b.length)/\∀p,H p=none->Q (.ref p) (upd H p (.tup (cutV b lo c)))
theorem UL:SlR X (rSlT X.K):=by
 intro p s C H x v vl B lo c z Q I u w m o h;let⟨a,j,rfl,t,y,q⟩:=h;cases u;let⟨its,r,k,l⟩:=I.tuple t;have i:its.toArray.size=j.length:=by rw[aaK];exact r.length.symm
 refine⟨"tuple",_,abr.lookup,k.typeIs,?_⟩;refine HT.getItem_tuple_cut k w m o (by rw[i];exact y) ?_ (by rw[i];exact l);rw[i];refine⟨.ref s.heap.objs.size,_,I.laid (t':=s.toks) (λb A q=>Io _ q) (aab _) ?_,rfl,q _ (I.hok.fresh (aab _))⟩;exact⟨aaw (lh j lo c) l,_,(r.drop _).take _,PlainT.new _ _⟩
def VP(K:aae):R2:=λx y H Q=>∃a b i h,x = .ref a/\y = .ref b/\SqT K H a i/\SqT K H b h/\i≠[]/\i.length+h.length≤aak/\
 (h=[]->Q (.ref a) H)/\(h≠[]->∀p,H p=none->Q (.ref p) (upd H p (.tup (i++h))))
theorem Vals.nil_iff{xs:List V}{us:List Ad}(r:Vals xs us):us=[]↔xs=[]:=by
 cases r with
 |nil=>simp
 |cons _ _=>simp
theorem OU:OpR X (acp .Add) (VP X.K):=by
 intro p s F H x y v u Q I A k h;let⟨a,b,D,G,rfl,rfl,B,l,m,i,o,C⟩:=h;cases A;cases k;let⟨its,r1,t,_⟩:=I.tuple B;let⟨j,r,g,_⟩:=I.tuple l;refine HT.cat_tup t g (λz=>m (r1.nil_iff.mp z)) (λz=>⟨.ref a,H,I,rfl,o (r.nil_iff.mp z)⟩) (λz=>?_) (by rw[<-r1.length,<-r.length];exact i);refine⟨.ref s.heap.objs.size,_,I.laid (t':=s.toks) (λb E q=>Io _ q) (aab _) ?_,rfl,C (λw=>z (r.nil_iff.mpr w)) _ (I.hok.fresh (aab _))⟩;exact⟨by rw[aao];exact i,_,r1.append r,PlainT.new _ _⟩
end
def ixN(n:Nat)(i:Int):Option Nat:=if 0≤i then(if i<n then some i.toNat else none)else if -(n:Int)≤i then some (i+n).toNat else none
def atI{α:Type}(xs:List α)(i:Int):Option α:=(ixN xs.length i).bind λj=>xs[j]?
theorem MF{i:Int}{j:Nat}(h:ixN n i=some j):seqIndex? i n=some j/\j<n/\-(n:Int)≤i/\i<n:=by
 unfold ixN at h
 by_cases b:0≤i
 .rw[if_pos b]at h
  by_cases a:i<n
  .rw[if_pos a]at h;have e:=aaA h;exact⟨by rw[seqIndex_of b a,e],∅,∅,a⟩
  .simp_all
 .rw[if_neg b]at h
  by_cases a : -(n:Int)≤i
  .rw[if_pos a]at h;have e:=aaA h;exact⟨by rw[seqIndex_neg ∅ a,e],∅,a,∅⟩
  .simp_all
theorem uy{xs:List α}{i:Int}{v:α}(h:atI xs i=some v):∃j,seqIndex? i xs.length=some j/\xs[j]?=some v/\j<xs.length/\-(xs.length:Int)≤i/\i<xs.length:=by
 unfold atI at h
 cases e:ixN xs.length i with
 |none=>rw[e]at h;cases h
 |some j=>
  rw[e]at h;let⟨b,d,a,c⟩:=MF e;exact⟨j,b,h,d,a,c⟩
theorem bf{xs:List α}{j:Nat}{v:α}(h:xs[j]?=some v):atI xs (j:Int)=some v:=by
 have a:=(AD.mp h).1;have e:ixN xs.length j=some j:=by
  unfold ixN
  simp_all
 unfold atI;rw[e];exact h
def ls(b:Expr):Prop:=∀o i,agz b false o i=operate [o,i] (aeI o i)
def IxR(X:Cx)(r:R2):Prop:=
 ∀(b a:Expr) (p:List 'i') (s:GT) (c:St) (H:Hp) (x y:V) (v u:Ad) (Q:VK),Inv X p c H s->RelV x v->RelV y u->r x y H Q ->
  agz a false v u=operate [v,u] (aeI v u)->wpAny (model X.prog X.w) X.A (agY b a v u) (EP X p c Q) X.xe s
def MtR(X:Cx)(id:String)(r:V->List V->Hp->VK->Prop):Prop:=
 ∀(p:List 'i') (s:GT) (b:St) (H:Hp) (x:V) (a:List V) (v:Ad) (u:List Ad) (Q:VK),Inv X p b H s->RelV x v->Vals a u->r x a H Q ->
  wpAny (model X.prog X.w) X.A (call (.builtin id) (v::u)) (EP X p b Q) X.xe s
section
variable {X:Cx}{a b:Expr}{ta tb:TE}{pos:Pos}
def UR{r:R2}(g:IxR X r)(e:PE X a ta)(k:PE X b tb)(f:ls b):PE X (.Subscript a b pos) (tOp r ta tb):=by
 intro p s l H Q I h;exact ag4 (binT e k I h λv u s2 x y j i d c q=>g a b p s2 l j x y v u Q i d c q (f _ _))
def rIxL(K:aae):R2:=λx y H Q=>∃p c i v,x = .ref p/\y = .int i/\SqL K H p c/\atI c i=some v/\Q v H
def rIxT(K:aae):R2:=λx y H Q=>∃p c i v,x = .ref p/\y = .int i/\SqT K H p c/\atI c i=some v/\Q v H
def rIxS:R2:=λx y H Q=>∃z i c,x = .str z/\y = .int i/\z.length≤aak/\atI z.cps.toList i=some c/\Q (.str ⟨#[c]⟩) H
theorem Cq:IxR X (rIxL X.K):=by
 intro l g c s K H x y v u Q I E B h o;let⟨p,M,i,z,rfl,rfl,D,F,q⟩:=h;cases E;let⟨t,rfl⟩:=B;let⟨its,r,e,N⟩:=I.list D;let⟨j,d,J,O,C,G⟩:=uy F;let⟨w,A,k⟩:=r.get J;have L:=r.length;have P:=rg;have f:EP X c K Q w s:=⟨z,H,I,k,q⟩
 by_cases m:0≤i
 .have hj:i.toNat=j:=by
   rw[seqIndex_of m G]at d;exact aaA d
  exact item_listR e.isList m ∅ (by rw[hj];simpa using A) f o
 .have hj:(i+(its.toArray.size:Int)).toNat=j:=by
   rw[seqIndex_neg ∅ C]at d;rw[aaK,<-L];exact aaA d
  exact af9 (x:=w) e.isList.typeIs afw.lookup
   (wpAny_getItem_list_neg e.isList ∅ (by simp_all) ∅ (by rw[hj];simpa using A) ⟨rfl,f⟩) o
theorem TX:IxR X (rIxT X.K):=by
 intro f d c s E H x y v u Q I A l h B;let⟨p,J,i,z,rfl,rfl,m,C,q⟩:=h;cases A;let⟨t,rfl⟩:=l;let⟨its,r,k,K⟩:=I.tuple m;let⟨j,o,D,L,G,M⟩:=uy C;let⟨w,N,e⟩:=r.get D;have F:=r.length;have O:=rg;have g:EP X c E Q w s:=⟨z,H,I,e,q⟩;exact af9 k.typeIs slot_tuple_getitem.lookup
  (getItem_tuple k ∅ ∅ (by rw[aaK,<-F];exact o) (by simpa) ⟨rfl,g⟩) B
theorem Va:IxR X rIxS:=by
 intro e d p s G H x y v u Q I m r h o;let⟨z,i,c,rfl,rfl,D,w,q⟩:=h;let⟨t,rfl⟩:=m;let⟨F,rfl⟩:=r;let⟨j,f,B,E,g,A⟩:=uy w;have C:z.cps.toList.length=z.length:=by simp[Str.length]
 rw[C]at f g A;have J:=rg;exact tail_any (typeIs_str s z t) slot_str_getitem.lookup (getItem_str (by
  have l:decide (i < -(2^63:Int))=false:=decide_eq_false ∅;have k:decide (i≥2^63)=false:=decide_eq_false ∅;rw[l,k,Bool.or_false]) (by rw[f];simpa using B) ⟨.str ⟨#[c]⟩,H,I.tok _,⟨_,rfl⟩,q⟩) o
theorem tz(lo c:Option Int)(n:Nat):(aec lo c none n).1=((HT.sIx n 0 lo:Nat):Int)/\(aec lo c none n).2.1=((HT.sIx n n c:Nat):Int)/\(aec lo c none n).2.2=1:=by
 refine⟨?_,?_,rfl⟩
 .cases lo with
  |none=>simp[aec,HT.sIx]
  |some i=>
   simp only[aec,HT.sIx,ahp,show(1:Int)>0 by decide,if_true]
   by_cases h:i<0
   .simp only[h,if_true]<;>omega
   .simp only[h,if_false]<;>omega
 .cases c with
  |none=>simp[aec,HT.sIx]
  |some i=>
   simp[aec,HT.sIx,ahp,show(1:Int)>0 by decide,if_true]
   by_cases h:i<0
   .simp only[h,if_true]<;>omega
   .simp only[h,if_false]<;>omega
def qu(its:List Ad)(lo h:Option Int):ahq its.toArray lo h none=((its.drop (HT.sIx its.length 0 lo)).take (HT.sIx its.length its.length h-HT.sIx its.length 0 lo)).toArray:=by
 let⟨c,d,e⟩:=tz lo h its.toArray.size;unfold ahq;rw[c,d,e];simp only[sliceRange_one,pick_run]<;>rfl
def rSlL(K:aae):V->Option Int->Option Int->Hp->VK->Prop:=λx l h H Q=>∃a c,x = .ref a/\SqL K H a c/\∀p,H p=none->Q (.ref p) (upd H p (.lst (cutV c l h)))
theorem Nw:SlR X (rSlL X.K):=by
 intro p s y H x v vl w l f t Q I m o e j h;let⟨a,g,rfl,k,q⟩:=h;cases m;let⟨its,r,d,i⟩:=I.list k;have c:=r.length;refine⟨"list",_,afw.lookup,d.isList.typeIs,?_⟩;refine afF d.isList o e j .none 'a' ?_ (by grind);rw[qu,<-c];refine⟨.ref s.heap.objs.size,_,I.laid (t':=s.toks) (λb u q=>Io _ q) (aab _) ?_,rfl,q _ (I.hok.fresh (aab _))⟩;exact⟨aaw (lh g l f) i,_,0,(r.drop _).take _,aai _ rfl⟩
theorem j4:dF X (.builtin "len") (λxs H Q=>∃p ys,xs=[.ref p]/\(SqL X.K H p ys\/SqT X.K H p ys)/\Q (.int ys.length) H):=by
 intro e s i H xs g Q I r h;let⟨p,ys,rfl,d,q⟩:=h;let⟨u,rfl,f⟩:=CY r;cases f;have j:=rg;rcases d with d|d
 .obtain⟨its,r',pl,hz⟩:=I.list d;have c:=r'.length;exact Calls.call_len_list pl.isList (by simp only[aaK]<;>omega) ⟨.int ys.length,H,I.tok _,⟨s.toks+1,by rw[aaK,c]⟩,q⟩
 .obtain⟨its,r',pl,hz⟩:=I.tuple d;have c:=r'.length;exact len_tuple pl (by simp only[aaK]<;>omega) ⟨.int ys.length,H,I.tok _,⟨s.toks+1,by rw[aaK,c]⟩,q⟩
theorem sU:dF X (.builtin "len") (λxs H Q=>∃z,xs=[.str z]/\z.length≤aak/\Q (.int z.length) H):=by
 intro p s e H xs c Q I r h;let⟨z,rfl,d,q⟩:=h;let⟨u,rfl,t,rfl⟩:=CY r;have f:=rg;exact len_str ∅ ⟨.int z.length,H,I.tok _,⟨_,rfl⟩,q⟩
theorem qk:dF X (.type "tuple") (λxs H Q=>∃p ys,xs=[.ref p]/\((SqL X.K H p ys/\∀l,H l=none->Q (.ref l) (upd H l (.tup ys)))\/(SqT X.K H p ys/\Q (.ref p) H))):=by
 intro f s t H xs m Q I r h;let⟨p,ys,rfl,h⟩:=h;let⟨u,rfl,j⟩:=CY r;cases j;rcases h with⟨c,q⟩|⟨c,q⟩
 .obtain⟨its,r',pl,hz⟩:=I.list c;have g:=r'.length;refine call_tuple_list pl.isList (λi kp=>?_) (by simp_all);have d:=I.kept (t':=s.toks) kp;have k:=
   d.laid (t':=s.toks) (λb o e=>Io _ e) (aab _) (show ObjOk X.prog X.w _ _ _ (.tup ys)from⟨hz,its,r',PlainT.new _ _⟩)
  exact⟨.ref i.objs.size,_,k,rfl,q _ (d.hok.fresh (aab _))⟩
 .obtain⟨its,r',pl,hz⟩:=I.tuple c;exact call_tuple_same pl ⟨.ref p,H,I,rfl,q⟩
def tyV(K:aae)(T:String)(x:V)(H:Hp):Prop:=match x with
 | .str _=>T = "str"
 | .int _=>T = "int"
 | .ref p=>(T = "list"/\∃c,SqL K H p c)\/(T = "tuple"/\∃c,SqT K H p c) \/
   (T = "dict"/\((∃k,H p=some (.dK k))\/∃k,H p=some (.dT k)))\/(T = "set"/\∃S n,H p=some (.set S n))
 |_=>False
theorem Vk{d:List 'i'}{l:St}{H:Hp}{s:GT}{T:String}{x:V}{v:Ad}(I:Inv X d l H s)(r:RelV x v)(ty:tyV X.K T x H) :
  s.TypeIs v T/\∀a,v = .ref a->∃g,s.heap.get? a=some g/\g.dict=none:=by
 cases x with
 |str z=>
  let⟨t,rfl⟩:=r
  cases (show T = "str" from ty)
  exact⟨typeIs_str s z t,λ_ e=>nomatch e⟩
 |int i=>
  let⟨t,rfl⟩:=r
  cases (show T = "int" from ty)
  exact⟨aga s i t,λ_ e=>nomatch e⟩
 | ref p=>
  cases r;rcases ty with⟨rfl,j,h⟩|⟨rfl,j,h⟩|⟨rfl,hk⟩|⟨rfl,S,n,hk⟩
  .obtain⟨its,_,pl,_⟩:=I.list h;refine⟨pl.isList.typeIs,λa e=>?_⟩;cases e;let⟨o,n,e,c,hd,_⟩:=pl;exact⟨o,e,hd⟩
  .obtain⟨its,_,⟨o,e0,hc,hd,_⟩,_⟩:=I.tupleP h;refine⟨⟨o,e0,hc⟩,λa e=>?_⟩;cases e;exact⟨o,e0,hd⟩
  .have z:∃o,s.heap.get? p=some o/\o.ExactDict:=by
    rcases hk with⟨k,hk⟩|⟨k,hk⟩
    .obtain⟨_,_,_,_,o,_,_,e,ex,_⟩:=I.hok p _ hk;exact⟨o,e,ex⟩
    .obtain⟨_,_,_,_,o,_,_,e,ex,_⟩:=I.hok p _ hk;exact⟨o,e,ex⟩
   let⟨o,e,ex⟩:=z;refine⟨⟨o,e,ex.1⟩,λa f=>?_⟩;cases f;exact⟨o,e,ex.2.1⟩
  .obtain⟨o,_,_,_,e,ex,_⟩:=I.hok p _ hk;refine⟨⟨o,e,ex.1⟩,λa f=>?_⟩;cases f;exact⟨o,e,ex.2.1⟩
 |_=>exact acs ty
def tBM(K:aae)(T:String)(r:V->List V->Hp->VK->Prop)(to:TE)(t:TA):TE:=λc H Q=>to c H λx d=>tyV K T x d/\t c d λe f=>r x e f Q
variable {o e:Expr}{g:List Expr}{to:TE}{t:TA}{name:Str}{f d:Pos}{T id:String}{r:V->List V->Hp->VK->Prop}
theorem Uy(y:PlainAttrs T)(slot:Slot T name id)(m:typeOf (.builtin id)=pure (.type "method_descriptor"))(w:MtR X id r)(A:PE X o to)(D:PA X (e::g) t)
  (i:abz o name X.env (eval o X.env)=eval o X.env:=by rfl)
  (j:((abq d (aac (e::g) X.env)).all (λx=>!x.1)&&(acY d (ab2 [] X.env)).all (λx=>x.1.isSome)
   && decide ((e::g).length+([]:List ac6).length+(if ([]:List ac6).isEmpty then 0 else 1)<30))=true:=by rfl)
  (c:(f.endLine==d.line)=true:=by rfl) (E:aac (e::g) X.env=(false,eval e X.env)::aac g X.env:=by rfl) (k:(abq d (aac g X.env)).any (·.1)=false:=by rfl) :
  PE X (.Call (.Attribute o name f) (e::g) [] d) (tBM X.K T r to t):=by
 intro p s l H Q I h;refine agb i j c rfl (thn (A p s l H _ I h) λv s1 ⟨x,M,u,r1,ty,C⟩=>?_);let⟨B,K⟩:=Vk u r1 ty;refine⟨T,id,y,slot,m,B,K,?_⟩;have q:=D d p s1 l M _ u C;rw[E]at q⊢;refine aej ‹_› (agA ?_);exact thn q<|by intro J s2 ⟨vs,z,G,F,L⟩;exact w p s2 l z x vs v J Q G r1 F L
end
def MtM(X:Cx)(id:String)(r:V->List V->Hp->VK->Prop):Prop:=
 ∀(p:List 'i') (s:GT) (b:St) (H:Hp) (x:V) (a:List V) (v:Ad) (u:List Ad) (Q:VK),Inv X p b H s->RelV x v->Vals a u->r x a H Q ->
  wpAny (model X.prog X.w) X.A (call (.builtin id) (v::u)) (EP X p b Q) X.xe s
theorem Vals.one:∀{x:V}{us:List Ad},Vals [x] us->∃u,us=[u]/\RelV x u
 |_,_,.cons r .nil=>⟨_,rfl,r⟩
theorem Vals.two:∀{x y:V}{us:List Ad},Vals [x,y] us->∃u v,us=[u,v]/\RelV x u/\RelV y v
 |_,_,_,.cons r (.cons q .nil)=>⟨_,_,rfl,r,q⟩
theorem Vals.rep{xs:List V}{us:List Ad}(h:Vals xs us):∀k:Nat,Vals (aaq k xs).flatten (aaq k us).flatten
 |0=>.nil
 |k+1=>by
  exact Vals.append h (Vals.rep h k)
theorem nq(its:List Ad):∀(k:Nat) (acc:List Ad),
  ahK (λb x=>b++x) acc.toArray (aaq k its.toArray)=(acc++(aaq k its).flatten).toArray
 |0,acc=>by simp
 | k+1,acc=>by
  have e:acc.toArray++its.toArray=(acc++its).toArray:=by simp
  have a:(acc++its)++(aaq k its).flatten=acc++(aaq (k+1) its).flatten:=by
   rw[acx,ahf,aaY]
  rw[<-a,<-nq its k _,<-e,acx,aeS]
section
variable {X:Cx}{p:List 'i'}{a:St}{H:Hp}{s:GT}{l b:Addr}{xs ys c:List V}
def Inv.lset{its':List Ad}{f:Array Ad->Array Ad}{t':Nat}(I:Inv X p a H s)(i:H l=some (.lst xs))
  (e:s.heap.get? l=some {cls:=.type "list",data:=.seq its.toArray n}) (k:f its.toArray=its'.toArray) (g:Vals ys its') (h:ys.length≤aak) :
  Inv X p a (upd H l (.lst ys)) {s with heap:=s.heap.update l (acG f),toks:=t' }:=by
 have q:=PySem.IsL.update e f;rw[k]at q;refine I.write (by rw[i];exact trivial) (.inl rfl) (λm u d j=>(ac7 s.heap _ (abH d)).trans j) ⟨_,q⟩ ?_;exact⟨h,its',_,g,q⟩
def Inv.lnew{t':Nat}(I:Inv X p a H s)(d:Vals ys its)(h:ys.length≤aak) :
  Inv X p a (upd H s.heap.objs.size (.lst ys)) {s with heap:=s.heap.push {cls:=.type "list",data:=.seq its.toArray},toks:=t' }:=
 I.laid (λ_ _ q=>Io _ q) (aab _) ⟨h,its,0,d,aai _ rfl⟩
def Inv.fresh(I:Inv X p a H s):H s.heap.objs.size=none:=I.hok.fresh (aab _)
def Inv.lstM(I:Inv X p a H s)(h:H l=some (.lst xs)):xs.length≤aak/\∃(its:List Ad) (n:Nat),Vals xs its/\xs.length=its.length/\s.heap.get? l=some {cls:=.type "list",data:=.seq its.toArray n}:=by
 let⟨z,its,n,r,e⟩:=I.hok l _ h;exact⟨z,its,n,r,r.length,e⟩
theorem xp(h:n≤aak):adT n=false:=by
 exact decide_eq_false ∅
end
section
variable {X:Cx}
def LG:V->List V->Hp->VK->Prop:=λx vs H Q=>∃l a y,x = .ref l/\vs=[y]/\H l=some (.lst a)/\a.length<aak/\Q .non (upd H l (.lst (a++[y])))
theorem nG:MtM X "list.append" LG:=by
 intro p s j H x vs v i Q I c d h;let⟨l,f,y,rfl,rfl,a,g,q⟩:=h;cases c;let⟨u,rfl,b⟩:=d.one;let⟨z,its,n,r,k,e⟩:=I.lstM a;refine ad8 F.slot_list_append ⟨_,e,rfl⟩ F.entry_list_append (F.args_list_append_2 _ _) (PySem.list_append l its.toArray n u (by grind)) ⟨e,?_⟩;refine⟨.non,_,I.lset (its':=its++[u]) a e 'a' (r.append (.cons b .nil)) ?_,rfl,q⟩
 grind
def KH:V->List V->Hp->VK->Prop:=λx vs H Q=>∃l b a z,x = .ref l/\vs=[.ref b]/\H l=some (.lst a)/\H b=some (.lst z)/\a.length+z.length≤aak/\Q .non (upd H l (.lst (a++z)))
theorem Ba:MtM X "list.extend" KH:=by
 intro p s D H x vs v C Q I m t h;let⟨l,b,w,A,rfl,rfl,d,f,y,q⟩:=h;cases m;let⟨u,rfl,k⟩:=t.one;cases k;let⟨z,its,n,r,E,e⟩:=I.lstM d;let⟨B,i,n2,o,j,g⟩:=I.lstM f;have c:its.toArray.size+i.toArray.size≤aak:=by rw[aaK,aaK];omega
 have a:¬(!its.toArray.isEmpty&&adT (its.toArray.size+i.toArray.size))=true:=by
  rw[xp c,Bool.and_false];exact aan
 refine ad8 F.slot_list_extend ⟨_,e,rfl⟩ F.entry_list_extend (F.args_list_extend_2 _ _)
  (AutoSeq1.list_extend_list_list_0 l its.toArray n b i.toArray n2 a (by grind) ∅) ⟨e,g,?_⟩
 refine⟨.non,_,I.lset (its':=its++i) d e 'a' (r.append o) ?_,rfl,q⟩;rw[aao];omega
def rRep:R2:=λx y H Q=>∃l k a,x = .ref l/\y = .int k/\H l=some (.lst a)/\-(2^63)≤k/\k<2^63/\a.length*k.toNat≤aak/\
 ∀p,H p=none->Q (.ref p) (upd H p (.lst (aaq k.toNat a).flatten))
def y8(xs:List α)(k:Nat):(aaq k xs).flatten.length=k*xs.length:=by simp
theorem Rh:OpR X (acp .Mult) rRep:=by
 intro p s M H x y v u Q I B j h;let⟨l,k,L,rfl,rfl,G,A,E,i,q⟩:=h;cases B;let⟨t,rfl⟩:=j;let⟨z,its,n,r,J,e⟩:=I.lstM G;have f:its.toArray.size*k.toNat≤aak:=by rw[aaK,<-J];exact i
 have c:¬its.toArray.size*k.toNat>(2^63-1)/8:=by
  have:(aak:Nat)≤(2^63-1)/8:=by decide
  omega
 have d:¬(!ac4.List.listFitsIndex k)=true:=by
  rw[fitsIndex_both A E];exact aan
 have b:¬adT (its.toArray.size*k.toNat)=true:=by
  rw[xp f];exact aan
 have g:ahK (λw o=>w++o) #[] (aaq (if its.toArray.isEmpty=true then 0 else k.toNat) its.toArray)=(aaq k.toNat its).flatten.toArray:=by
  have C:=λm=>by
   have:=nq its m [];rw[abi]at this;exact this
  rw[C]
  cases its with
  |nil=>simp
  |cons a K=>rw[if_neg 'a']
 refine afq (T:= "list") (U:= "int") ⋯ ⟨_,e,rfl⟩ (λD=>aga D k t) noFill_list_mul F.fills_int_mul F.slot_int_rmul repeat_list F.slot_int_index.lookup
  (ad8 F.slot_int_rmul (aga s k t) F.entry_int_rmul (F.args_int_rmul_2 _ _) (int___rmul___int_list k t l its.toArray n)
   ⟨e,rfl,⟨_,e,rfl⟩,ad8 F.slot_list_mul ⟨_,e,rfl⟩ F.entry_list_mul (F.args_list_mul_2 _ _) (AutoListH.list___mul___list_int_3 l its.toArray n k t d c b) ⟨e,?_⟩⟩)
 rw[g];exact⟨.ref _,_,I.lnew (t':=s.toks) (r.rep k.toNat) (by rw[y8,ac8];exact i),rfl,q _ I.fresh⟩
end
end L2
namespace Att
open PySem PySem.W PySem.Calls PyProof.Rows
theorem nR{P:Params}{h:aa1}:∀(ns:List Int) (vs:List Ad),WellAll P h vs (ns.map WData.int)->ae3 vs ns:=by
 intro ns
 induction ns with
 |nil=>
  intro vs w;cases w;exact .nil
 | cons n ns i=>
  intro vs w
  cases w with
  |cons a b=>
   cases a;exact .cons _ _ (i _ b)
theorem Dh{l:OpenLaw}{n:Nat}(s:l.most=some n){P:Params}{h:aa1}{args:List WData}{v:List Ad}
  (b:l.row.toRowW.claim.pre args=true) (i:WellAll P h v args) :
  ∃a vs ns,v=[abm a]/\args=[WData.list (ns.map WData.int)]/\h.get? a=some {cls:=.type "list",data:=.seq vs.toArray}/\ae3 vs ns/\ns.length≤n:=by
 have f:WShape.hasAll [] args [.list .int]=true:=(pre_splitW b).1;have p:l.pre.holds [] {args:=args}=true:=(pre_splitW b).2;let⟨d,r,rfl,m,q⟩:=hasAllW_cons f;obtain rfl:=hasAllW_nil q;let⟨x,rfl,k⟩:=hasW_list m;let⟨ns,rfl⟩:=items_int k;have e:ns.length≤n:=by
  have g:=by
   have g:=(holds_andW p).1;rw[s]at g;omega
  have t:=condW_of g (w_not (w_lt w_lit (w_len_list (w_arg rfl))))
  simp_all
 cases i with
 |cons w o=>
  cases o
  cases w with
  |list j c=>exact⟨_,_,ns,rfl,rfl,j,nR ns _ c,e⟩
def BM(l:OpenLaw)(args:List WData):l.row.toRowW.claim.post args (.bool true) args=true:=
 postW_of
  rfl
  (w_eq_bool (w_res rfl) w_lit) rfl
def attach_call{l:OpenLaw}{n:Nat}{q:aaI}{b:List Str}{X:(Str->Option Ad)->aa1->Prop}{y:World->aa1->Prop}{d:DefRec}
  (M:l.most=some n) (t:d.params.defaults=[])
  (call:∀(w:World) (s₀ s:GT) (mg mb:Str->Option Ad) (i:Addr) (o:Obj) (pm k c:Ad) (a:Addr) (vs:List Ad) (ns:List Int),
   Ground q b [] X w s₀ mg mb s.heap->y w s.heap ->
   s.heap.get? i=some o->o.data = .func (docDef d.name d.params d.body d.scope pm k c)->s.heap.CodeRec k d.name->mg d.name=some (.ref i) ->
   s.heap.get? a=some {cls:=.type "list",data:=.seq vs.toArray}->ae3 vs ns->ns.length≤n->s.gens = #[] ->
   ad4 (model l.prog w) agJ (.call (.ref i) ⟨[.ref a],[]⟩) (λr s'=>r = .ok (.ret (.bool true))/\OldK s.heap s'.heap/\s'.os=s.os/\aft s'.gens) s) :
  WalkO q b X y l.row.toRowW d [] (λf vs=>ahL f vs):=by
 intro w s₀ s mg mb G Y i o pm k c K kV J hd u z p C v A N g x E m F;obtain rfl:K = .none:=Dflts.none z t;obtain rfl:kV = .none:=Dflts.noKw z;let⟨a,vs,ns,rfl,rfl,e,h,j⟩:=Dh M g m;refine enter_call (aeg (call w s₀ s mg mb i o pm k c a vs ns G Y J (fd_plain hd) u p e h j C) λr s' D=>?_);let⟨rfl,H,L,B⟩:=D;exact⟨.inl ⟨.bool true,.bool true,[],rfl,λ_=>rfl,.bool true,BM l _,λ_=>⟨ahg,λ_ I=>(nomatch I)⟩⟩,H,L,B⟩
end Att
namespace L2
open PySem PySem.Spec PyProof.Rows
variable{P:MSt->Prop}{w:WS}{K:Kd}{mg:Str->Option Ad}{a l:Addr}{fd:ab8}{qual x y:Str}{ns:List Int}{i j n nN q:Nat}{X:Cx}{st:Stmt}{f:String->Bool}{N ps:List Str}{od:Option Addr}{A B:Prop}{env:Env}{scope:Scope}{c e elt t tg:Expr}{p pos:Pos}{ifs:List Expr}{tb:TS}{J:It}{fp:List Addr}{tn:Nat->aa1->Prop}{pins:List 'i'}{σ σ':St}{H H' H0 H1 H2 Hb:Hp}{D:Ends}{E:Ad->GT->Prop}{Q:VK}{vs xs:List V}{b ds ds':List aD}{v:V}{ao:Ao}{α α' α1 β:Al}{τ:List 'h'}{r:R}{o o':WO}{op:CmpOp}{T:String}{sp:SpM}{ks:List Nat}{De:de}{g:WG}{gs:WGs}{m1:MSt}{ob:R->Option Int->Option Int->MSt->(R->Prop)->Prop}{hi lo:Option Expr}{as:List Ag}{Ks:Src->MSt->Prop}
theorem mQ:∀{vs:List Ad}{ns:List Int},ae3 vs ns->Vals (ns.map V.int) vs
 |_,_,.nil=>.nil
 |_,_,.cons n t h=>.cons ⟨t,rfl⟩ (mQ h)
def Only(H:Hp):Prop:=∀b,H b=none\/∃o xs,H b=some (.frz o (.lst xs))
theorem Fx{P:aaI}{w:World}{K:aae}{mb:Str->Option Ad}{CX:CXT}{k:Nat}{fa:Addr}{sp:Sp}{C:GT}{vs:List Ad}
  (KX:K.In C.heap) (Y:C.heap.Ns aay mg) (I:C.heap.Ns builtinsNs mb) (hbb:∀x:Str,x ≠ "__name__" -> mb x=aa0 x) (S:C.heap.NoLimit) (hsy:∃m,C.heap.Ns abB m) (hg:C.gens = #[])
  (ha:C.heap.get? a=some {cls:=.type "list",data:=.seq vs.toArray}) (hi:ae3 vs ns) (hl:ns.length≤aak) (hr:Room k agJ)
  (F:∀base:aa1,K.In base->base.Ns aay mg->FnOk P w K mg base CX k fa fd [x] sp) (O:∀(s:GT) (u:Ad),ahe s fd ⟨[u],[]⟩ [(x,u)])
  (hsp:∀H:Hp,Only H->SqL K H a (ns.map V.int)->sp [.ref a] H (λv _=>v = .bl true) λ_ _ _=>False)
  (hCX:∀H e s',CX [] H C (λ_ _ _=>False) e s'->False) :
  ad4 (model P w) agJ (.call (.ref fa) ⟨[.ref a],[]⟩) (λr s'=>r = .ok (.ret (.bool true))/\OldK C.heap s'.heap/\s'.os=C.os/\aft s'.gens) C:=by
 have rv:=mQ hi;have U:=hi.length;have M:∀H:Hp,Only H->SqL K H a (ns.map V.int)->HOk P w H C.heap->(∀b,H b≠none->b=a)->(H a≠none->K.lookup a=none) ->
   ad4 (model P w) agJ (.call (.ref fa) ⟨[.ref a],[]⟩) (λr s'=>r = .ok (.ret (.bool true))/\OldK C.heap s'.heap/\s'.os=C.os/\aft s'.gens) C:=by
  intro H hO hS hok hA hK;have G:∀{b:Addr}{o:Obj},C.heap.get? b=some o->H b=none->(hidT C.heap H).get? b=some o:=λe n=>DM e n;have noA:∀{b:Addr}{o:Obj}{es:Array ab1}{W:Nat},C.heap.get? b=some o->o.data = .dict es W->H b=none:=λ{b o es W} e d=>by
   cases q:H b with
   |none=>rfl
   |some u=>
    have e':b=a:=hA b (by rw[q];simp);subst e';rw[ha]at e;cases e;have d':Data.seq vs.toArray _=Data.dict es W:=d;cases d'
  have L:∀{b:Addr}{m:Str->Option Ad},C.heap.Ns b m->(hidT C.heap H).Ns b m:=λ{b m} ⟨o,es,W,e,d,r⟩=>⟨o,es,W,G e (noA e d),d,r⟩;have Z:K.In (hidT C.heap H):=λb o e=>G (KX b o e) (by
   cases q:H b with
   |none=>rfl
   |some u=>
    have e':b=a:=hA b (by rw[q];simp);subst e';rw[hK (by rw[q];simp)]at e;cases e)
  have hM:Mod K mg (hidT C.heap H):=⟨Z,L Y,⟨mb,L I,hbb⟩,let ⟨mc,h1,h2⟩:=S;⟨mc,L h1,h2⟩,let ⟨m,h⟩:=hsy;⟨m,L h⟩⟩;have e0:Env0 P w K mg (hidT C.heap H) agJ [] C H:=⟨rfl,hM,λb o e=>PK e,af5 (AE _ _),trivial,λb I=>absurd (show b∈([]:List Addr)from I) 'a',hok,.of_eq hg⟩;refine aeg ((F _ Z (L Y)).run agJ [] C H ⟨[.ref a],[]⟩ [.ref a] [.ref a] _ _ hr e0 (O C (.ref a)) (.cons rfl .nil) (hsp H hO hS)) λr s' h=>?_
  cases r with
  |error e=>exact(hCX H e s' h).elim
  | ok fl=>
   cases fl with
   |next=>exact acs h
   |brk=>exact acs h
   |cont=>exact acs h
   | ret u=>
    let⟨v,H',os,bare,un,hok',r',q⟩:=h;have q':v = .bl true:=q;subst q';obtain rfl:u=ahI true:=r';refine⟨rfl,OldK.of_keep λb o e=>?_,os,bare⟩
    cases q:H b with
    |none=>exact un.keep b o e q (by intro z;exact absurd (show b∈([]:List Addr)from z) 'a') 'a'
    |some u=>
     rcases hO b with z|⟨ob,xs,z⟩
     .rw[q]at z;cases z
     .have z2:=un.frzs b ob _ z;let⟨e1,_⟩:=hok b _ z;let⟨e2,_⟩:=hok' b _ z2;rw[e]at e1;cases e1;exact e2
 cases hk:K.lookup a with
 |some o=>
  have e:=KX a o hk;rw[ha]at e;cases e;refine M (λ_=>none) (λ_=>.inl rfl) (.inr ⟨_,vs.toArray,_,hk,rfl,rfl,rfl,by rw[aaK,U];exact hl,by simpa using rv⟩) (λb u z=>by have R:(none:Option HO)=some u:=z;cases R) (λb z=>absurd rfl z) λz=>absurd rfl z
 | none=>
  refine M (λb=>if b=a then some (.frz {cls:=.type "list",data:=.seq vs.toArray} (.lst (ns.map V.int)))else none) (λb=>?_) (.inl (.inr ⟨{cls:=.type "list",data:=.seq vs.toArray},if_pos rfl⟩)) (λb u z=>?_) (λb z=>?_) λ_=>hk
  .by_cases I:b=a
   .exact .inr ⟨_,_,if_pos I⟩
   .exact .inl (if_neg I)
  .by_cases I:b=a
   .have R:=(if_pos I).symm.trans z;cases R;subst I;exact⟨ha,by rw[iO];exact hl,vs,_,rv,ha⟩
   .have R:=(if_neg I).symm.trans z;cases R
  .by_cases I:b=a
   .exact I
   .exact absurd (if_neg I) z
theorem KZ{l:agk}{k:Nat}{q:aaI}{I:List Str}{XP:(Str->Option Ad)->aa1->Prop}{YP:World->aa1->Prop}{d:DefRec}{K:Params->aae}{CX:World->CXT}{sp:World->Sp}
  (hq:importsNone q=true) (hn:l.most=some n) (R:n≤aak) (W:d.params.defaults=[]) (hr:Room k agJ)
  (hY:∀(w:World) (h:aa1),YP w h->(K w.params).In h)
  (F:∀(w:World) (mg:Str->Option Ad) (O:Addr) (h:aa1),(K w.params).In h->h.Ns aay mg->mg d.name=some (.ref O) ->
   ∃fd:ab8,(∀(s:GT) (u:Ad),ahe s fd ⟨[u],[]⟩ [(x,u)])/\
    ∀base:aa1,(K w.params).In base->base.Ns aay mg->FnOk l.prog w (K w.params) mg base (CX w) k O fd [x] (sp w))
  (S:∀(w:World) (H:Hp) (a:Addr) (ns:List Int),ns.length≤n->Only H->SqL (K w.params) H a (ns.map V.int)->sp w [.ref a] H (λv _=>v = .bl true) λ_ _ _=>False)
  (Z:∀(w:World) (H:Hp) (s:GT) (e:Ad) (s':GT),CX w [] H s (λ_ _ _=>False) e s'->False) :
  ahN q I XP YP l.row.toRowW d [] (λf vs=>ahL f vs):=by
 refine Att.attach_call hn W λw s₀ L mg mb O o pm cd doc a vs ns G Y ho hd hcd U M C z hg=>?_;have KX:=hY w _ Y;let⟨fd,hb,hF⟩:=F w mg O _ KX G.T.g U;exact Fx KX G.T.g G.T.b G.T.builtins G.T.nolimit (by let⟨m,h,_⟩:=(G.T.seer hq).mods;exact⟨m,h⟩) hg M C (aaw z R) hr hF hb (λH hO hS=>S w H a ns z hO hS) λH e s'=>Z w H L e s'
def ck(s:Stmt):Arguments:=match s with
 | .FunctionDef _ a _ _ _ _ _ _ _ _=>a
 |_=>{posonlyargs:=[],args:=[],vararg:=none,kwonlyargs:=[],kw_defaults:=[],kwarg:=none,defaults:=[]}
def bA(s:Stmt):List Stmt:=match s with
 | .FunctionDef _ _ b _ _ _ _ _ _ _=>b
 |_=>[]
def ab(s:Stmt):Scope:=match s with
 | .FunctionDef _ _ _ _ _ _ d _ _ _=>d
 |_=>{kind:=.function,names:=[],isGenerator:=false,isCoroutine:=false}
abbrev CX0:CXT:=λ_ _ _ _ _ _=>False
abbrev E0:XK:=λ_ _ _=>False
def FZ:j6 CX0 X E0:=λ_ _ _ _ _ _ _ h=>h.elim
structure Fun(K:aae)(x qual:Str)(st:Stmt)(f:Addr)(fd:ab8):Prop where
 ex:∃(oc:Ad) (od:Option Addr) (kV doc pm:Ad) (an:Option Addr) (cdv ct:Ad) (osl:Array (Option Ad)),
  fd=abo x qual (ck st) (bA st) (ab st) .none kV doc pm an cdv ct/\K.lookup f=some ⟨oc,od,.func fd,osl⟩/\ady K cdv qual=true
 kp:abT K (.ref f)=true
section
variable {P:aaI}{w:World}{K:aae}{mg:Str->Option Ad}{base:aa1}
theorem Fun.ok{f:Addr}{k:Nat}{sp:Sp}(F:Fun K x qual st f fd)(S:ak N ps (ab st))(len:∀vs H Q E,sp vs H Q E->vs.length=ps.length)
  (m:∀(d:Ad) (A:abb) (outer:List Env) (s:GT) (H:Hp) (vs:List V) (Q:VK) (E:XK),Room k (A.deeper (aeh qual (ab st) s.heap.objs.size f d))->sp vs H Q E ->
   ∃t,PSs (cxOf CX0 P w K mg base N qual (ab st) f d A outer s H E).nox (bA st) t/\t {nx:=λ_ H'=>Q .non H',rt:=Q} (start N vs) H):FnOk P w K mg base CX0 (k+1) f fd ps sp:=by
 let⟨M,od,kV,C,pm,an,d,ct,I,rfl,L,z⟩:=F.ex;refine V8 L z S len λA outer s H vs Q E G u=>?_;let⟨t,h,q⟩:=m d A outer s H vs Q E G u;exact⟨t,h.nox,q⟩
theorem Fun.binds{f:Addr}(F:Fun K x qual st f fd)
  (h:∀(kV d pm:Ad) (an:Option Addr) (k ct:Ad) (us:List Ad),us.length=ps.length->adQ (abo x qual (ck st) (bA st) (ab st) .none kV d pm an k ct) ⟨us,[]⟩=pure (ps.zip us)):Binds K fd ps []:=by
 let⟨z,od,kV,d,pm,an,k,ct,m,rfl,u,s⟩:=F.ex;exact .all (h kV d pm an k ct)
def sv{f:Addr}{s:Ad}{an:Option Addr}{m:Array (Option Ad)}{kV h pm d ct:Ad}(l:K.lookup f=some ⟨s,od,.func (abo x qual (ck st) (bA st) (ab st) .none kV h pm an d ct),m⟩)
  (c:ady K d qual=true) (k:abT K (.ref f)=true):Fun K x qual st f (abo x qual (ck st) (bA st) (ab st) .none kV h pm an d ct):=⟨⟨s,od,kV,h,pm,an,d,ct,m,rfl,l,c⟩,k⟩
end
theorem iteF(h:B):if false=true then A else B:=by simp_all
theorem iteT(h:A):if true=true then A else B:=by simp_all
def aU(X:Cx)(scope:Scope)(cl:List (Str×Addr))(N:List Str)(s:GT)(H:Hp)(C:Addr)(ex:List Addr):Cx where
 prog:=X.prog
 w:=X.w
 K:=X.K
 mg:=X.mg
 base:=X.base
 A:=X.A
 N:=N
 s₀:=s
 H₀:=H
 env:=agB scope cl C X.env
 outer:=X.stack
 stack:=X.stack
 ex:=ex
 fn:=λ_=>false
 calm:=X.calm
 eb:=X.eb
 pn:=[]
 xe:=λ_ _=>False
theorem jq{env:Env}:∀{names:List (Str×aeN)}{acc:List (Str×Addr)},(∀y∈names,y.2 = .free->∃c,env.cells.lookup y.1=some c)->(∀x c,acc.lookup x=some c->env.cells.lookup x=some c) ->
  ∃cl,(forIn names acc λ(x:Str×aeN) (L:List (Str×Addr))=>if (x.2==aeJ)=true then do let c <- cellOf env x.1;pure (aeT ((x.1,c)::L))else pure (aeT L):Sem (List (Str×Addr)))=pure cl/\
   (∀x c,cl.lookup x=some c->env.cells.lookup x=some c)/\(∀y∈names,y.2 = .free->∃c,cl.lookup y.1=some c)/\(∀x,(∃c,acc.lookup x=some c)->∃c,cl.lookup x=some c)
 |[],acc,_,ha=>⟨acc,rfl,ha,λy m=>absurd m 'a',λ_ h=>h⟩
 | (n,k)::r,acc,h,ha=>by
  rw[agm]
  by_cases hk:k = .free
  .subst hk;let⟨c,M⟩:=h (n,.free) aah rfl;have z:env.cells.lookup n=some c:=M;have O:cellOf env n=pure c:=by unfold cellOf;rw[z]
   let⟨cl,F,G,I,C⟩:=jq (env:=env) (names:=r) (acc:=(n,c)::acc) (λy m=>h y (aaf _ m)) (λx d u=>by
    rw[aa8]at u
    cases hb:x==n with
    |true=>rw[hb]at u;cases u;rw[eq_of_beq hb];exact z
    |false=>rw[hb]at u;exact ha x d u)
   refine⟨cl,?_,G,λy m s=>?_,λx u=>C x ?_⟩
   .simp only[beq_self_eq_true,if_true,O,pure_bind];exact F
   .obtain rfl|m:=aag.mp m
    .exact C n ⟨c,by rw[aa8];simp⟩
    .exact I y m s
   .obtain⟨d,hd⟩:=u;rw[aa8]
    cases hb:x==n with
    |true=>exact⟨c,rfl⟩
    |false=>exact⟨d,hd⟩
  .have hb:(k==aeJ)=false:=by simpa using hk
   let⟨cl,F,G,I,C⟩:=jq (env:=env) (names:=r) (acc:=acc) (λy m=>h y (aaf _ m)) ha;refine⟨cl,?_,G,λy m s=>?_,C⟩
   .simp only[hb,ac9,if_false,pure_bind];exact F
   .obtain rfl|m:=aag.mp m
    .exact absurd s hk
    .exact I y m s
theorem fI(h:∀y∈scope.names,y.2 = .free->∃c,env.cells.lookup y.1=some c) :
  ∃cl,closureFor scope env=pure cl/\(∀x c,cl.lookup x=some c->env.cells.lookup x=some c)/\∀y∈scope.names,y.2 = .free->∃c,cl.lookup y.1=some c:=by
 let⟨cl,e,d,k,_⟩:=jq (acc:=[]) h (λx c m=>by cases m);refine⟨cl,?_,d,k⟩;simp[closureFor]
 simp_all
def PTs(X:Cx)(ifs:List Expr)(t:TT):Prop:=
 ∀(pins:List 'i') (s:GT) (σ:St) (H:Hp) (Q:Bool->Hp->Prop),Inv X pins σ H s->t σ H Q ->
  wpAny (model X.prog X.w) X.A (forIn ifs true λc r=>if r=true then do let ok <- isTrue c X.env (eval c X.env);pure (aeT ok)else pure (aeT r)) (TP X pins σ Q) X.xe s
def Mh:TT:=λ_ H Q=>Q true H
theorem Ls:PTs X [] Mh:=λ_ _ _ H _ I h=>wpAny_tests_nil ⟨H,I,h⟩
theorem Kq{t:TT}(d:PT X c t):PTs X [c] t:=λpins s σ H Q I h=>wpAny_tests_one (d pins s σ H Q I h)
def PB(X:Cx)(bd:Sem PUnit)(t:TS):Prop:=
 ∀(pins:List 'i') (s:GT) (σ:St) (H:Hp) (D:Ends),Inv X pins σ H s->t D σ H->wpAny (model X.prog X.w) X.A bd (λ_ d=>∃σ' H',Inv X pins σ' H' d/\D.nx σ' H') X.xe s
def sF(J:It)(g:TG)(tb:TS):TS:=λD σ H=>∃W:Nat->Nat->St->Hp->Prop,(∃m,W 0 m σ H)/\∀i m σ H,W i m σ H ->
 (J.stop i H/\D.nx σ H)\/(J.go i H/\∃N:St->Hp->Prop,(∀σ' H',N σ' H'->∃h,h<m/\W (i+1) h σ' H')/\∀x H',J.yld i H x H'->g x σ H' λd H2=>tb {D with nx:=N,ct:=N,bk:=D.nx} d H2)
def tIfT(tt:TT)(tb:TS):TS:=λD σ H=>tt σ H λb H1=>if b=true then tb D σ H1 else D.nx σ H1
def yp(l:Addr)(d:TE):TS:=λD σ H=>d σ H λx H1=>∃xs,H1 l=some (.lst xs)/\xs.length<aak/\D.nx σ (upd H1 l (.lst (xs++[x])))
theorem tx{gens:List Comprehension}{d:Nat}{L:Addr}{acc:Ad}{ipos:Pos}{bd:Sem PUnit}{g:TG}{tt:TT}
  (O:compTurn (.ListComp elt gens scope pos) d (.ref L) acc X.env=(do
   acN ipos
   match <- aci (.ref L)with
   |none=>pure (.done .next)
   | some v=>
    ad3 tg (.ref L) v
    afC tg X.env v
    let mut ok:=true
    for c in ifs do
     if ok then ok <- isTrue c X.env (eval c X.env)
    if ok then bd
    again (.compLoop (.ListComp elt gens scope pos) d (.ref L) acc X.env)))
  (hx:X.xe=λ_ _=>False) (hc:X.calm=true) (T:Turn X.prog X.w X.K tg J fp L tn) (hg:PG X tg g) (ht:PTs X ifs tt) (C:PB X bd tb)
  {s:GT} (I:Inv X pins σ H s) (st:tn 0 s.heap) (f:∀b∈fp,FpOk X pins H b) (h:sF J g (tIfT tt tb) D σ H) :
  ad4 (model X.prog X.w) X.A (.compLoop (.ListComp elt gens scope pos) d (.ref L) acc X.env) (λr s'=>r = .ok .next/\∃σ' H',Inv X pins σ' H' s'/\D.nx σ' H') s:=by
 let⟨W,⟨m0,w0⟩,turn⟩:=h;have G:∀{H':Hp},(∀b∈fp,H' b=none)->∀b∈fp,FpOk X pins H' b:=λhn b C=>⟨hn b C,(f b C).2⟩;have nox:∀{α:Type}{t:Sem α}{Q:α->GT->Prop}{E:Ad->GT->Prop}{s:GT},wpAny (model X.prog X.w) X.A t Q X.xe s->wpAny (model X.prog X.w) X.A t Q E s:=λh=>ach h (λ_ _ q=>q) λ_ _ z=>by
  rw[hx]at z;exact z.elim
 refine codeAny_loop rfl (λn s'=>∃i σ' H',Inv X pins σ' H' s'/\tn i s'.heap/\(∀b∈fp,H' b=none)/\W i n σ' H') ?_ m0 ⟨0,σ,H,I,st,λb C=>(f b C).1,w0⟩;intro n s3 ⟨i,F,H3,I3,S,Z,w3⟩;show wpAny _ X.A ((compTurn (.ListComp elt gens scope pos) d (.ref L) acc X.env).onRaise (λx=>do noteFrame x X.env;theTreesLotGoes x)) _ _ s3;refine wpAny_noted ?_;rw[O];refine gT (m:=acN _) (adk (gT ?_));rcases turn i n F H3 w3 with⟨stop,qn⟩|⟨go,N,hN,step⟩
 .refine thn (T.done X rfl rfl rfl hc i pins s3 F H3 _ I3 (G Z) S stop) λr s4 ⟨hr,I4⟩=>?_;subst hr;exact Ld ⟨rfl,F,H3,I4,qn⟩
 .refine thn (T.item X rfl rfl rfl hc i pins s3 F H3 _ I3 (G Z) S go) λr s4 ⟨u,hr,h4⟩=>?_;subst hr;refine gT (thn h4 λ_ s5 ⟨x,H5,I5,r5,y5,M,fr5⟩=>?_);have I5':=I5.pinned (G fr5) (T.obj _ _ M);refine gT (nox (thn (hg _ s5 F H5 x u _ I5' r5 (step x H5 y5)) λ_ s6 ⟨U,H6,I6,q6⟩=>?_));refine gT (nox (thn (ht _ s6 U H6 _ I6 q6) λok s7 ⟨H7,I7,q7⟩=>?_));have fin:∀{k:St}{R:Hp}{Y:GT},Inv X (pins++r9 fp s5.heap) k R Y->N k R->∃m,m<n/\∃i σ' H',Inv X pins σ' H' Y/\tn i Y.heap/\(∀b∈fp,H' b=none)/\W i m σ' H':=λ{k R Y} V n8=>by
   let⟨m',hm,w8⟩:=hN k R n8;refine⟨m',hm,i+1,k,R,V.unpinned,T.keep _ _ _ M λb C o e=>(V.pin (b,o) (aaQ _ (aaQ _ (ii C e)))).1,λb C=>?_,w8⟩;let⟨o,e,_⟩:=T.obj _ _ M b C;exact(V.pin (b,o) (aaQ _ (aaQ _ (ii C e)))).2.1
  cases ok with
  |false=>
   rw[if_neg aan]at q7;exact Ld ⟨rfl,fin I7 q7⟩
  |true=>
   rw[if_pos rfl]at q7;exact gT (nox (thn (C _ s7 U H7 _ I7 q7)<|by intro _ Y ⟨k,R,V,q8⟩;exact Ld ⟨rfl,fin V q8⟩))
theorem uB{d:TE}(G:PE X elt d):PB X (do let _ <- call (.builtin "list.append") [.ref l,<-eval elt X.env]) (yp l d):=by
 intro pins s σ H D I h;refine gT (thn (G pins s σ H _ I h) λu s1 ⟨x,H1,m,r1,xs,M,z,q⟩=>?_);refine gT (thn ?_ λ_ L F=>Ld F);exact thn (nG pins s1 σ H1 (.ref l) [x] _ [u] (λv H'=>v = .non/\D.nx σ H') m rfl (.cons r1 .nil) ⟨l,xs,x,rfl,rfl,M,z,rfl,q⟩)<|by intro v L ⟨_,H',k,_,_,C⟩;exact⟨σ,H',k,C⟩
theorem fc(env:Env)(x:Str):∀names:List (Str×aeN),(names.map λ(n,k)=>if (k==aeJ&&env.scope.kind == .function&&env.kindOf n==some .cell)then(n,ahO)else(n,k)).lookup x =
  (names.lookup x).map λk=>if (k==aeJ&&env.scope.kind == .function&&env.kindOf x==some .cell)then ahO else k
 |[]=>rfl
 | (n,k)::r=>by
  have d:=fc env x r;rw[aam];dsimp only
  cases hx:x==n with
  |true=>
   have e:=eq_of_beq hx;subst e
   by_cases h:(k==aeJ&&env.scope.kind == .function&&env.kindOf x==some .cell)=true
   .simp only[aa8,hx,acM,if_pos h]
   .simp only[aa8,hx,acM,if_neg h]
  |false=>
   split
   .simp only[aa8,hx];exact d
   .simp only[aa8,hx];exact d
def gU{k:aeN}:∀{names:List (Str×aeN)},names.lookup x=some k->(x,k)∈names:=λh=>acv h
theorem nu(d:∀y∈scope.names,y.2≠.cell)(h:(agK scope env).names.lookup x=some .cell\/(agK scope env).names.lookup x=some .free):scope.names.lookup x=some .free:=by
 unfold agK at h;simp only[fc]at h
 cases e:scope.names.lookup x with
 |none=>rw[e]at h;rcases h with h|h<;>cases h
 |some k=>
  rw[e]at h;simp only[acM]at h;have hk:=d _ (gU e)
  by_cases m:k = .free
  .rw[m]
  .simp_all
def re(h:scope.names.lookup x=some .free):(agK scope env).names.lookup x=some .cell\/(agK scope env).names.lookup x=some .free:=by
 unfold agK;simp only[fc,h,acM];split
 .exact .inl rfl
 .exact .inr rfl
def iy(own:List Str)(ps:List Nat)(σ:St):St:=own.map (λ_=>none)++ps.map λi=>(σ[i]?).join
structure cf(own fr:List Str)(scope sc:Scope):Prop where
 kind:scope.kind = .function
 nocell:∀y∈scope.names,y.2≠.cell
 names:∀y∈scope.names,y.2 = .local->scope.names.lookup y.1=some .local
 there:∀y∈scope.names,y.2 = .free->sc.names.lookup y.1=some .cell\/sc.names.lookup y.1=some .free
 fr:∀x∈fr,scope.names.lookup x=some .free
section
variable {X:Cx}{scope sc:Scope}{own fr:List Str}{ps:List Nat}
theorem lg{n:Expr}{rest:List Comprehension}{bdy:Env->Ad->Sem PUnit}{g:TG}{tt:TT}{tb:Addr->TS}{cl:List (Str×Addr)}{R:Ad->Addr->Result->GT->Prop}
  (S:cf own fr scope sc) (hsc:X.env.scope=sc) (hps:ps.map (λi=>X.N[i]?)=fr.map some) (hc:X.calm=true) (G:∀x c,cl.lookup x=some c->X.env.cells.lookup x=some c) (Z:∀y∈scope.names,y.2 = .free->∃c,cl.lookup y.1=some c)
  (hturn:∀env it acc,compTurn (.ListComp elt (⟨tg,n,ifs,0⟩::rest) scope pos) 0 it acc env=(do
   acN n.pos
   match <- aci it with
   |none=>pure (.done .next)
   | some v=>
    ad3 tg it v
    afC tg env v
    let mut ok:=true
    for c in ifs do
     if ok=true then ok <- isTrue c env (eval c env)
    if ok then bdy env acc
    again (.compLoop (.ListComp elt (⟨tg,n,ifs,0⟩::rest) scope pos) 0 it acc env)))
  (hg:∀s H C ex,PG (aU X scope cl (own++fr) s H C ex) tg g) (ht:∀s H C ex,PTs (aU X scope cl (own++fr) s H C ex) ifs tt)
  (d:∀s H C ex l,PB (aU X scope cl (own++fr) s H C ex) (bdy (agB scope cl C X.env) (.ref l)) (tb l))
  {s:GT}{it:Addr} (I:Inv X pins σ H s) (T:Turn X.prog X.w X.K tg J fp it tn) (st:tn 0 s.heap) (f:∀b∈fp,FpOk X pins H b)
  (h:∀l,H l=none->sF J g (tIfT tt (tb l)) {nx:=λ_ H'=>Q (.ref l) H',rt:=λ_ _=>False} (iy own ps σ) (upd H l (.lst [])))
  (hR:∀l C H' s',(∃m,s'.heap.Ns C m)->Inv X pins σ H' s'->FpOk X pins H' C->Q (.ref l) H'->R (.ref l) C (.ok .next) s') :
  wpAny (model X.prog X.w) X.A (ahh []) (λacc s₃=>wpAny (model X.prog X.w) X.A (newFunctionEnv scope X.env.globals cl [] X.env.qual none .none (some X.env)) (λcenv s₄=>
   ad4 (model X.prog X.w) X.A (.compStart (.ListComp elt (⟨tg,n,ifs,0⟩::rest) scope pos) 0 (.ref it) acc {cenv with scope:=agK scope X.env}) (R acc cenv.locals) s₄) E s₃) E s:=by
 refine abd (wpAny_newFunctionEnv S.nocell (by intro y hy;simp at hy) (λV U M=>?_) S.kind);have O:Inv X pins σ (upd H s.heap.objs.size (.lst [])) {s with heap:=s.heap.push {cls:=.type "list",data:=.seq ([]:List Ad).toArray} }:=I.lnew (t':=s.toks) (ys:=[]) .nil (abJ _);generalize hS3:({s with heap:=s.heap.push {cls:=.type "list",data:=.seq ([]:List Ad).toArray} }:GT)=L at O U M⊢;have hsz:L.heap.objs.size=s.heap.objs.size+1:=by rw[<-hS3];exact abv _ _
 have hl:H s.heap.objs.size=none:=I.hok.fresh (aab _);have kept0:∀b o,s.heap.get? b=some o->L.heap.get? b=some o:=λb o e=>by rw[<-hS3];exact Io _ e
 have F:∀b o,L.heap.get? b=some o->V.get? b=some o:=λb o e=>M.extBut b o (aa2 (aal e)) (Io _ e);have fpl:∀b∈fp,b<s.heap.objs.size:=λb d=>by let⟨o,e,_⟩:=T.obj _ _ st b d;exact aal e
 have fpH:∀b∈fp,(upd H s.heap.objs.size (.lst [])) b=none:=λb d=>by rw[av (aa2 (fpl b d))];exact(f b d).1
 have fpS:∀b∈fp,b∉frs X.stack:=λb d z=>by
  rcases aag.mp (I.stkSub b z)with e|e
  .exact(f b d).2.1 e
  .exact(f b d).2.2.1 e
 have ok':(aU X scope cl (own++fr) L (upd H s.heap.objs.size (.lst [])) L.heap.objs.size fp).Ok:=by
  refine⟨I.ok.mod,S.kind,I.ok.glob,I.ok.blt,aab _,λx y c h1 h2=>I.ok.inj x y c (G x c h1) (G y c h2),λx hx=>?_,λx c hf=>(by cases hf),I.ok.hd,I.ok.frames,.inl rfl,λb d=>⟨?_,λx c hx=>(f b d).2.2.2.2.1 x c (G x c hx)⟩,
   λb o e=>O.bs b o e,aaw O.ok.bsz O.sz,λb o e d=>?_,λb d=>fpS b d,O.stack,O.stkFree⟩
  .exact Z (x,.free) (gU (nu S.nocell hx)) rfl
  .exact aa2 (aau (fpl b d) (by rw[hsz];exact afu _))
  .rcases (f b d).2.2.2.1 with z|z
   .exact I.ok.noex b o e z
   .exact absurd (aau (aal (I.ok.bs b o e).1) z) (acT _)
 have I4:Inv (aU X scope cl (own++fr) L (upd H s.heap.objs.size (.lst [])) L.heap.objs.size fp) [] (iy own ps σ) (upd H s.heap.objs.size (.lst [])) {L with heap:=V,toks:=L.toks+([]:List (Str×Ad)).length}:=by
  refine⟨ok',rfl,O.bare,Un.kept F,⟨_,U,λi x v e1 W e3=>?_⟩,λx c e=>?_,O.hok.fresh (aab _),λx c e=>O.freeC x c (G x c e),λp hp=>absurd (show p∈([]:List 'i')from hp) 'a',O.hok.kept F,?_⟩
  .have e1':(own++fr)[i]?=some x:=e1;unfold iy at W
   by_cases hi:i<own.length
   .rw[aaE (by simpa using hi),aaj]at W
    cases q:own[i]? with
    |none=>rw[q]at W;cases W
    |some z=>rw[q]at W;cases W
   .rw[aaP (by simpa using hi),iO,aaj]at W;rw[aaP (by simpa using hi)]at e1'
    cases q:ps[i-own.length]? with
    |none=>rw[q]at W;cases W
    | some p=>
     rw[q]at W;have Y:(σ[p]?).join=some v:=aaA W;have hσ:σ[p]?=some (some v):=by
      cases z:σ[p]? with
      |none=>rw[z]at Y;cases Y
      |some w=>rw[z]at Y;cases w with
       |none=>cases Y
       |some w=>cases Y;rfl
     have hN:X.N[p]?=some x:=by
      have z:=congrArg (λl=>l[i-own.length]?) hps;simp only[aaj,q,e1',acM,ahi]at z;exact z
     have hx:x∈fr:=LD e1';have hfr:=S.fr x hx;have hsee:=S.there (x,.free) (gU hfr) rfl;let⟨m,hn,hlk⟩:=O.loc;let⟨u,ru,lk⟩:=hlk p x v hN hσ (by rw[hsc];exact .inr hsee);refine⟨u,ru,.inr ⟨re hfr,?_⟩⟩;rcases lk with⟨k,_⟩|⟨_,c,ec,z⟩
     .have k':X.env.scope.names.lookup x=some .local:=k;rw[hsc]at k';rcases hsee with q2|q2<;>(rw[k']at q2;cases q2)
     .obtain⟨c',ec'⟩:=Z (x,.free) (gU hfr) rfl;have:=G x c' ec';rw[ec]at this;cases this;let⟨o,ho,hd⟩:=z;exact⟨c,ec',o,F _ _ ho,hd⟩
  .obtain⟨v,o,ho,hd⟩:=O.cell x c (G x c e);exact⟨v,o,F _ _ ho,hd⟩
  .show(iy own ps σ).length=(own++fr).length;have:=congrArg adx hps;rw[iO,iO]at this;unfold iy;rw[aao,aao,iO,iO,this]
 have f4:∀b∈fp,FpOk (aU X scope cl (own++fr) L (upd H s.heap.objs.size (.lst [])) L.heap.objs.size fp) [] (upd H s.heap.objs.size (.lst [])) b:=λb d=>
  ⟨fpH b d,(ok'.exf b d).1,fpS b d,.inl d,(ok'.exf b d).2,λp hp=>absurd (show p∈([]:List 'i')from hp) 'a'⟩
 have st4:tn 0 V:=T.keep 0 _ _ st λb d o e=>F b o (kept0 b o e);have loop:ad4 (model X.prog X.w) X.A (.compLoop (.ListComp elt (⟨tg,n,ifs,0⟩::rest) scope pos) 0 (.ref it) (.ref s.heap.objs.size) (agB scope cl L.heap.objs.size X.env)) (R (.ref s.heap.objs.size) L.heap.objs.size) {L with heap:=V,toks:=L.toks+([]:List (Str×Ad)).length}:=by
  refine aeg (tx (X:=aU X scope cl (own++fr) L (upd H s.heap.objs.size (.lst [])) L.heap.objs.size fp) (hturn _ _ _) rfl hc T (hg _ _ _ _) (ht _ _ _ _) (d _ _ _ _ _) I4 st4 f4 (h _ hl)) λr s' ⟨er,σ5,H5,I5,q5⟩=>?_;subst er;have I6:Inv X pins σ H5 s':=O.call' (s':=s') I5.os I5.base I5.hok I5.bare λb d=>⟨(f b d).2.2.2.1,(f b d).2.1,(f b d).2.2.2.2.1,(f b d).2.2.2.2.2⟩;have hm:∃m,s'.heap.Ns L.heap.objs.size m:=let ⟨m,hn,_⟩:=I5.loc;⟨m,hn⟩;exact hR _ _ H5 s' hm I6 (O.fpOk (aab _) I5.free) q5
 exact codeAny_compStart_list loop (T.self _ 0 _ _ _ st4 loop)
def Am(L:TI)(own:List Str)(ps:List Nat)(tl:Addr->It->TS):TE:=λσ H Q=>L σ H λJ H1=>∀l,H1 l=none->tl l J {nx:=λ_ H'=>Q (.ref l) H',rt:=λ_ _=>False} (iy own ps σ) (upd H1 l (.lst []))
def tl1(g:TG)(tt:TT)(K:TE):Addr->It->TS:=λl J=>sF J g (tIfT tt (yp l K))
def tl2(g:TG)(tt:TT)(B:TI)(M:TG)(F:TT)(K:TE):Addr->It->TS:=λl J=>sF J g (tIfT tt λD σ H=>B σ H λd H1=>sF d M (tIfT F (yp l K)) D σ H1)
theorem Ik{Y:Cx}{C k A j:Expr}{z t:List Expr}{B:TI}{M:TG}{F:TT}{K:TE}(Z:Y.xe=λ_ _=>False)(hc:Y.calm=true)(hi:PI Y A j B)(U:PG Y A M)(S:PTs Y t F)(he:PE Y elt K)
  (hs:∀x,aaT j Y.env x=pure x) :
  PB Y (do
   let x <- eval j Y.env
   acN j.pos
   let x <- aaT j Y.env x
   let _ <- runOwn (.compStart (.ListComp elt [⟨C,k,z,0⟩,⟨A,j,t,0⟩] scope pos) 1 (<- ad2 [x] (afD x)) (.ref l) Y.env) Y.env) (λD σ H=>B σ H λJ2 H1=>sF J2 M (tIfT F (yp l K)) D σ H1):=by
 intro pins s σ H D I h;refine gT (thn (hi pins s σ H _ I h) λv s1 h1=>?_);refine gT (adk (gT (wpAny_of_eq (hs v) (gT (ab5 (thn h1 λV s2 h2=>?_))))));let⟨it,fp,tn,J,H2,e,I2,T,G,R,q⟩:=h2;subst e;have u:∀O,O=s2->ad4 (model Y.prog Y.w) Y.A (.compLoop (.ListComp elt [⟨C,k,z,0⟩,⟨A,j,t,0⟩] scope pos) 1 (.ref it) (.ref l) Y.env) (λr L=>match r with| .ok f=>wpAny (model Y.prog Y.w) Y.A (pure PUnit.unit) (λ_ L=>∃σ' H',Inv Y pins σ' H' L/\D.nx σ' H') Y.xe L | .error e=>cameBackBy (model Y.prog Y.w) Y.A Y.env Y.xe e L) O:=by
  rintro O rfl;refine aeg (tx (X:=Y) (elt:=elt) (gens:=[⟨C,k,z,0⟩,⟨A,j,t,0⟩]) (scope:=scope) (pos:=pos) (d:=1) (acc:=.ref l) (ipos:=j.pos) (ifs:=t)
   (bd:=do let _ <- call (.builtin "list.append") [.ref l,<-eval elt Y.env]) rfl Z hc T U S (uB he) I2 G R q) λr L ⟨er,W⟩=>?_
  subst er;exact Ld W
 refine gT (wpAny_runOwn ?_);show ad4 (model Y.prog Y.w) Y.A _ _ s2;refine codeAny_of_tree ?_;refine wpAny_notedAt ?_;unfold compStart;show wpAny _ _ (ask >>= _) _ _ s2;refine gT (m:=ask) (wpAny_askSetting (wpAny_ite ?_));split
 .first
   |exact gT (Ld (Ld (ahr rfl (u _ rfl))))
   |exact Ld (ahr rfl (u _ rfl))
 .first
   |exact gT (abI (gT (adk (gT (T.self _ 0 _ _ _ G (Ld (ahr rfl (u _ rfl))))))))
   |(refine gT (abI ?_);show wpAny _ _ (acN j.pos >>= _) _ _ s2;exact gT (adk (gT (T.self _ 0 _ _ _ G (Ld (ahr rfl (u _ rfl)))))))
theorem Inv.junk{s:GT}{C:Addr}(I:Inv X pins σ H s)(f:FpOk X pins H C){h':aa1}(h:abk C s.heap h'):Inv X pins σ H {s with heap:=h' }:=
 I.turned (t':=s.toks) (λb o ne e=>(h.2 b ne).trans e) f.1 f.2.1 f.2.2.2.1 f.2.2.2.2.1 f.2.2.2.2.2
variable {elt tg n:Expr}{ifs:List Expr}{pos G N:Pos}{L:TI}{g:TG}{tt:TT}{K:TE}
def pC{s:GT}(S:cf own fr scope sc)(h:X.env.scope=sc)(I:Inv X pins σ H s):∀y∈scope.names,y.2 = .free->∃c,X.env.cells.lookup y.1=some c:=λy d hk=>
 I.ok.has y.1 (by show X.env.scope.names.lookup y.1=_\/X.env.scope.names.lookup y.1=_;rw[h];exact S.there y d hk)
theorem Fv(S:cf own fr scope sc)(hi:PI X tg n L)(Z:∀cl s H C ex,PG (aU X scope cl (own++fr) s H C ex) tg g)(W:∀cl s H C ex,PTs (aU X scope cl (own++fr) s H C ex) ifs tt)
  (he:∀cl s H C ex,PE (aU X scope cl (own++fr) s H C ex) elt K) (d:X.env.scope=sc:=by rfl) (u:ps.map (λi=>X.N[i]?)=fr.map some:=by rfl) (hc:X.calm=true:=by rfl) (hs:∀x,aaT n X.env x=pure x:=by intro _;rfl) :
  PE X (.ListComp elt [⟨tg,n,ifs,0⟩] scope pos) (Am L own ps (tl1 g tt K)):=by
 intro pins s σ H Q I h;let⟨cl,Y,h1,h2⟩:=fI (pC S d I);refine adU (use:=none) rfl hs Y S.kind S.names (thn (hi pins s σ H _ I h) λv s1 q1=>thn q1 λitv s2 q2=>?_);let⟨M,fp,tn,J,H2,e,I2,T,F,V,q⟩:=q2;subst e;exact lg S d u hc h1 h2 (λenv M k=>compTurn_list elt tg n ifs scope pos M k env)
  (Z cl) (W cl) (λs H C ex l=>uB (he cl s H C ex)) I2 T F V q λl C H' s' U O R q'=>by
   let⟨m,hn⟩:=U;exact⟨m,hn,λh' z=>⟨.ref l,H',O.junk R z,rfl,q'⟩⟩
theorem sD{s':GT}{C:Addr}{Q:St->Hp->Prop}(R:X.N.Nodup)(U:X.N[i]?=some y)(k:X.env.scope.names.lookup y=some .local)(S:∃m,s'.heap.Ns C m)(I:Inv X pins σ H' s')(u:FpOk X pins H' C)(q:Q (σ.set i (some (.ref l))) H') :
  wpAny (model X.prog X.w) X.A (afC (.Name y N) X.env (.ref l)) (λ_ s=>∃m,s.heap.Ns C m/\∀h',abk C s.heap h'->∃σ' d,Inv X pins σ' d {s with heap:=h' }/\Q σ' d) E s':=by
 let⟨m,W⟩:=S;refine wpAny_assign_Name (sK I R U (.inl k) (v:=.ref l) rfl (λs F ⟨a,V,h⟩=>?_) (.inr k));have O:C≠a:=by
  rcases h with h|h
  .rw[h];exact u.2.1
  .exact λz=>u.2.2.2.2.1 _ _ h z.symm
 exact⟨m,W.sameBut V O,λh' M=>⟨_,H',F.junk u M,q⟩⟩
theorem IL(S:cf own fr scope sc)(hN:X.N.Nodup)(hy:X.N[i]?=some y)(z:X.env.scope.names.lookup y=some .local)(hi:PI X tg n L)(V:∀cl s H C ex,PG (aU X scope cl (own++fr) s H C ex) tg g)(ht:∀cl s H C ex,PTs (aU X scope cl (own++fr) s H C ex) ifs tt)
  (he:∀cl s H C ex,PE (aU X scope cl (own++fr) s H C ex) elt K) (F:abG (.ListComp elt [⟨tg,n,ifs,0⟩] scope pos) (some (.Name y N)) G.line X.env=pure true:=by rfl)
  (d:X.env.scope=sc:=by rfl) (k:ps.map (λi=>X.N[i]?)=fr.map some:=by rfl) (hc:X.calm=true:=by rfl) (hs:∀x,aaT n X.env x=pure x:=by intro _;rfl) :
  PS X (.Assign [.Name y N] (.ListComp elt [⟨tg,n,ifs,0⟩] scope pos) G) (tAsg (Am L own ps (tl1 g tt K)) (Gc i)):=by
 intro pins s σ H D I h;let⟨cl,ec,h1,h2⟩:=fI (pC S d I);rw[show exec _ X.env=_ from agr _ _ _ _ F];refine gT (m:=acN _) (adk (gT ?_));refine gT (ach (adU rfl hs ec S.kind S.names (thn (hi pins s σ H _ I h) λv s1 Z=>thn Z λW s2 q2=>?_)) (λ_ s' Y=>Ld (Ld Y)) λ_ _ e=>e);let⟨O,fp,tn,J,H2,e,I2,T,u,f2,q⟩:=q2;subst e;exact lg (Q:=λv H'=>D.nx (σ.set i (some v)) H') (tb:=λl=>yp l K) S d k hc h1 h2 (λenv O M=>compTurn_list elt tg n ifs scope pos O M env)
  (V cl) (ht cl) (λs H C ex l=>uB (he cl s H C ex)) I2 T u f2 q λl C H' s' hm R U q'=>sD hN hy z hm R U q'
variable {A j:Expr}{t:List Expr}{B:TI}{M:TG}{F:TT}
theorem oh(elt d n:Expr)(ifs:List Expr)(A j:Expr)(t:List Expr)(scope:Scope)(pos:Pos)(h acc:Ad)(env:Env) :
  compTurn (.ListComp elt [⟨d,n,ifs,0⟩,⟨A,j,t,0⟩] scope pos) 0 h acc env=(do
   acN n.pos
   match <- aci h with
   |none=>pure (.done .next)
   | some v=>
    ad3 d h v
    afC d env v
    let mut ok:=true
    for c in ifs do
     if ok=true then ok <- isTrue c env (eval c env)
    if ok then
     (do
      let x <- eval j env
      acN j.pos
      let x <- aaT j env x
      let _ <- runOwn (.compStart (.ListComp elt [⟨d,n,ifs,0⟩,⟨A,j,t,0⟩] scope pos) 1 (<- ad2 [x] (afD x)) acc env) env)
    again (.compLoop (.ListComp elt [⟨d,n,ifs,0⟩,⟨A,j,t,0⟩] scope pos) 0 h acc env)):=by
 simp only[ bind_assoc];rfl
theorem Gn(S:cf own fr scope sc)(hN:X.N.Nodup)(hy:X.N[i]?=some y)(U:X.env.scope.names.lookup y=some .local)(hi:PI X tg n L)(hg:∀cl s H C ex,PG (aU X scope cl (own++fr) s H C ex) tg g)(ht:∀cl s H C ex,PTs (aU X scope cl (own++fr) s H C ex) ifs tt)
  (hi2:∀cl s H C ex,PI (aU X scope cl (own++fr) s H C ex) A j B) (V:∀cl s H C ex,PG (aU X scope cl (own++fr) s H C ex) A M) (u:∀cl s H C ex,PTs (aU X scope cl (own++fr) s H C ex) t F)
  (he:∀cl s H C ex,PE (aU X scope cl (own++fr) s H C ex) elt K) (W:abG (.ListComp elt [⟨tg,n,ifs,0⟩,⟨A,j,t,0⟩] scope pos) (some (.Name y N)) G.line X.env=pure true:=by rfl)
  (d:X.env.scope=sc:=by rfl) (z:ps.map (λi=>X.N[i]?)=fr.map some:=by rfl) (hc:X.calm=true:=by rfl) (hs:∀x,aaT n X.env x=pure x:=by intro _;rfl)
  (k:∀cl C x,aaT j (agB scope cl C X.env) x=pure x:=by intro _ _ _;rfl) :
  PS X (.Assign [.Name y N] (.ListComp elt [⟨tg,n,ifs,0⟩,⟨A,j,t,0⟩] scope pos) G) (tAsg (Am L own ps (tl2 g tt B M F K)) (Gc i)):=by
 intro pins s σ H D I h;let⟨cl,ec,h1,h2⟩:=fI (pC S d I);rw[show exec _ X.env=_ from agr _ _ _ _ W];refine gT (m:=acN _) (adk (gT ?_));refine gT (ach (adU (Q:=λ_ R=>SP X pins D .next R) rfl hs ec S.kind S.names (thn (hi pins s σ H _ I h) λv s1 q1=>thn q1 λitv s2 q2=>?_)) (λ_ R hq=>Ld (Ld hq)) λ_ _ e=>e);let⟨Z,fp,tn,J,H2,e,I2,T,O,f2,q⟩:=q2;subst e;exact lg (Q:=λv H'=>D.nx (σ.set i (some v)) H') S d z hc h1 h2 (λenv Z Y=>oh elt tg n ifs A j t scope pos Z Y env)
  (hg cl) (ht cl) (λs H C ex l=>Ik rfl hc (hi2 cl s H C ex) (V cl s H C ex) (u cl s H C ex) (he cl s H C ex) (k cl C)) I2 T O f2 q λl C H' R hm I' fk q'=>sD hN hy U hm I' fk q'
end
def FzL(K:aae)(H:Hp)(a:Addr)(xs:List V):Prop:=
 (∃o,H a=some (.frz o (.lst xs))) \/
  ∃(o:Obj) (d:Array Ad) (n:Nat),K.lookup a=some o/\o.cls = .type "list"/\o.dict=none/\o.data = .seq d n/\d.size≤aak/\Vals xs d.toList
theorem FzL.sq{K:aae}(h:FzL K H a xs):SqL K H a xs:=by
 rcases h with⟨o,h⟩|h
 .exact .inl (.inr ⟨o,h⟩)
 .exact .inr h
structure Kd where
 K:aae
 w:World
instance:Coe Kd aae:=⟨Kd.K⟩
mutual
def im(w:World):aD->Int
 | .int i=>hashInt i
 | .str x=>hashStr w x
 | .tuple ds=>reduceHash (abN (iW w ds))
 |_=>0
def iW(w:World):List aD->List Int
 |[]=>[]
 |d::ds=>im w d::iW w ds
end
mutual
def hkD:aD->Bool
 | .int _=>true
 | .str _=>true
 | .tuple ds=>hkA ds
 |_=>false
def hkA:List aD->Bool
 |[]=>true
 |d::ds=>hkD d&&hkA ds
end
def isKd(kvs:List (aD×aD)):Bool:=kvs.all λk=>match k.1 with| .int _=>true | .str _=>true|_=>false
def CN(kvs:List (aD×aD)):Prop:=isKd kvs=false/\(kvs.map (·.1)).Nodup/\∀k∈kvs.map (·.1),hkD k=true
def dXp(a:Addr)(c:List (Int×V×V))(h:aa1):Prop:=
 (a==abB)=false/\c.length≤aak/\∃(o:Obj) (b:Array ab1) (f:Nat),h.get? a=some o/\o.ExactDict/\o.data = .dict b f/\
  abQ (λ(e:Int×V×V) (d:ab1)=>d.hash=e.1/\RelV e.2.1 d.key/\RelV e.2.2 d.val) c b.toList
abbrev dX(a:Addr)(e:List (Int×V×V)):HO:=.ext (dXp a e)
def FzD(H:Hp)(a:Addr)(e:List (Int×V×V)):Prop:=∃o,H a=some (.frz o (dX a e))
def ClsN(K:Kd)(c:Str)(C:Addr):Prop:=aaO K.K aay c=some (some (.ref C))
def Xj(K:Kd)(H:Hp)(a:Addr)(c:Str)(xs:List (Str×V)):Prop:=
 ∃(o:Obj) (u:HO) (C:Addr),H a=some (.frz o u)/\o.cls = .ref C/\(∃vs,o.data = .fields vs)/\ClsN K c C/\((o.dict=none/\xs=[])\/∃(dx:Addr) (b:Obj),o.dict=some dx/\H dx=some (.frz b (.xd xs)))
def keyD:Key->aD
 | .inl i=>.int i
 | .inr x=>.str x
def excC:List (aD×aD)->Option Str
 |(.none,.str c)::_=>some c
 |_=>none
mutual
def Den(K:Kd)(H:Hp):aD->V->Prop
 | .none,v=>v = .non
 | .bool b,v=>v = .bl b
 | .int i,v=>v = .int i
 | .str x,v=>v = .str x
 | .list ds,v=>∃a d,v = .ref a/\FzL K H a d/\DenAll K H ds d
 | .tuple ds,v=>∃a d,v = .ref a/\SqT K H a d/\DenAll K H ds d
 | .dict kvs,v=>∃a,v = .ref a/\((∃e,FzD H a e/\CN kvs/\DenKV K H kvs e)\/(∃e o,H a=some (.frz o (.dK e))/\DenKK K H kvs e)\/∃c d,excC kvs=some c/\Xj K H a c d/\DenXF K H kvs d)
def DenAll(K:Kd)(H:Hp):List aD->List V->Prop
 |[],xs=>xs=[]
 |d::ds,xs=>∃v vs,xs=v::vs/\Den K H d v/\DenAll K H ds vs
def DenKV(K:Kd)(H:Hp):List (aD×aD)->List (Int×V×V)->Prop
 |[],es=>es=[]
 |(k,d)::r,es=>∃u v vs,es=(im K.w k,u,v)::vs/\Den K H k u/\Den K H d v/\DenKV K H r vs
def DenKK(K:Kd)(H:Hp):List (aD×aD)->List (Key×V)->Prop
 |[],es=>es=[]
 |(k,d)::r,es=>∃a v vs,es=(a,v)::vs/\(k=keyD a/\∀x∈vs,x.1≠a)/\Den K H d v/\DenKK K H r vs
def DenXF(K:Kd)(H:Hp):List (aD×aD)->List (Str×V)->Prop
 |[],xs=>xs=[]
 |(k,d)::r,xs=>match k with
  | .str f=>∃v vs,xs=(f,v)::vs/\Den K H d v/\DenXF K H r vs
  |_=>DenXF K H r xs
end
structure Pers(H H':Hp):Prop where
 tups:∀b xs,H b=some (.tup xs)->H' b=some (.tup xs)
 frzs:∀b o u,H b=some (.frz o u)->H' b=some (.frz o u)
theorem Pers.trans(a:Pers H H1)(b:Pers H1 H2):Pers H H2:=⟨λc x e=>b.tups c x (a.tups c x e),λc o u e=>b.frzs c o u (a.frzs c o u e)⟩
section
variable {K:Kd}{H H':Hp}
theorem FzL.mono(p:Pers H H')(h:FzL K H a xs):FzL K H' a xs:=by
 rcases h with⟨o,h⟩|h
 .exact .inl ⟨o,p.frzs _ _ _ h⟩
 .exact .inr h
theorem SqT.mono(p:Pers H H')(h:SqT K H a xs):SqT K H' a xs:=by
 rcases h with(h|⟨o,h⟩)|h
 .exact .inl (.inl (p.tups _ _ h))
 .exact .inl (.inr ⟨o,p.frzs _ _ _ h⟩)
 .exact .inr h
mutual
theorem Den.mono(p:Pers H H'):∀{d:aD}{v:V},Den K H d v->Den K H' d v
 | .none,_,h=>h
 | .bool _,_,h=>h
 | .int _,_,h=>h
 | .str _,_,h=>h
 | .list ds,_,h=>by
  simp only[Den]at h⊢;let⟨a,x,e,f,g⟩:=h;exact⟨a,x,e,f.mono p,DenAll.mono p g⟩
 | .tuple ds,_,h=>by
  simp only[Den]at h⊢;let⟨a,x,e,f,g⟩:=h;exact⟨a,x,e,f.mono p,DenAll.mono p g⟩
 | .dict kvs,_,h=>by
  simp only[Den]at h⊢;let⟨a,e,h⟩:=h;refine⟨a,e,?_⟩;rcases h with⟨i,⟨o,f⟩,s,g⟩|⟨i,o,f,g⟩|⟨c,x,l,⟨o,u,C,t,k,n,r,b⟩,g⟩
  .exact .inl ⟨i,⟨o,p.frzs _ _ _ f⟩,s,DenKV.mono p g⟩
  .exact .inr (.inl ⟨i,o,p.frzs _ _ _ f,DenKK.mono p g⟩)
  .refine .inr <| .inr ⟨c,x,l,⟨o,u,C,p.frzs _ _ _ t,k,n,r,?_⟩,DenXF.mono p g⟩;rcases b with b|⟨dx,q,m,j⟩
   .exact .inl b
   .exact .inr ⟨dx,q,m,p.frzs _ _ _ j⟩
theorem DenAll.mono(p:Pers H H'):∀{ds:List aD}{xs:List V},DenAll K H ds xs->DenAll K H' ds xs
 |[],_,h=>h
 |d::ds,_,h=>by
  simp only[DenAll]at h⊢;let⟨v,vs,e,f,g⟩:=h;exact⟨v,vs,e,Den.mono p f,DenAll.mono p g⟩
theorem DenKV.mono(p:Pers H H'):∀{ds:List (aD×aD)}{xs:List (Int×V×V)},DenKV K H ds xs->DenKV K H' ds xs
 |[],_,h=>by simpa only[DenKV]using h
 |(k,d)::r,_,h=>by
  simp only[DenKV]at h⊢;let⟨u,v,vs,e,f,a,g⟩:=h;exact⟨u,v,vs,e,Den.mono p f,Den.mono p a,DenKV.mono p g⟩
theorem DenKK.mono(p:Pers H H'):∀{ds:List (aD×aD)}{xs:List (Key×V)},DenKK K H ds xs->DenKK K H' ds xs
 |[],_,h=>by simpa only[DenKK]using h
 |(k,d)::r,_,h=>by
  simp only[DenKK]at h⊢;let⟨u,v,vs,e,f,a,g⟩:=h;exact⟨u,v,vs,e,f,Den.mono p a,DenKK.mono p g⟩
theorem DenXF.mono(p:Pers H H'):∀{ds:List (aD×aD)}{xs:List (Str×V)},DenXF K H ds xs->DenXF K H' ds xs
 |[],_,h=>by simpa only[DenXF]using h
 |(.str f,d)::r,_,h=>by
  simp only[DenXF]at h⊢;let⟨v,vs,e,a,g⟩:=h;exact⟨v,vs,e,Den.mono p a,DenXF.mono p g⟩
 |(.none,d)::r,_,h=>by simp only[DenXF]at h⊢;exact DenXF.mono p h
 |(.bool _,d)::r,_,h=>by simp only[DenXF]at h⊢;exact DenXF.mono p h
 |(.int _,d)::r,_,h=>by simp only[DenXF]at h⊢;exact DenXF.mono p h
 |(.list _,d)::r,_,h=>by simp only[DenXF]at h⊢;exact DenXF.mono p h
 |(.tuple _,d)::r,_,h=>by simp only[DenXF]at h⊢;exact DenXF.mono p h
 |(.dict _,d)::r,_,h=>by simp only[DenXF]at h⊢;exact DenXF.mono p h
end
def DenAll.nil:DenAll K H [] []:=rfl
def DenAll.cons{d:aD}(h:Den K H d v)(t:DenAll K H ds vs):DenAll K H (d::ds) (v::vs):=by
   exact⟨v,vs,rfl,h,t⟩
theorem DenAll.paired:∀{ds:List aD}{xs:List V},DenAll K H ds xs->abQ (Den K H) ds xs
 |[],_,h=>by simp[DenAll]at h;subst h;exact .nil
 |d::ds,_,h=>by
  let⟨v,vs,e,f,g⟩:=h;subst e;exact .cons f g.paired
theorem jh:∀{ds:List aD}{xs:List V},abQ (Den K H) ds xs->DenAll K H ds xs
 |_,_,.nil=>DenAll.nil
 |_,_,.cons f t=>DenAll.cons f (jh t)
def DenAll.length(h:DenAll K H ds xs):ds.length=xs.length:=h.paired.length
theorem Paired.get'{d β:Type}{F:d->β->Prop}:∀{l:List d}{c:List β}{i:Nat}{a:d},abQ F l c->l[i]?=some a->∃b,c[i]?=some b/\F a b
 |_,_,_,_,.nil,e=>by simp at e
 |_,_,0,_,.cons f _,e=>by simp at e;subst e;exact⟨_,rfl,f⟩
 |_,_,i+1,a,.cons _ t,e=>by
  let⟨b,h,g⟩:=Paired.get' t ‹_›;exact⟨b,by simpa using h,g⟩
def DenAll.get{d:aD}(h:DenAll K H ds xs)(e:ds[i]?=some d):∃v,xs[i]?=some v/\Den K H d v:=Paired.get' h.paired e
theorem Paired.get2{d β:Type}{F:d->β->Prop}:∀{l:List d}{c:List β}{i:Nat}{b:β},abQ F l c->c[i]?=some b->∃a,l[i]?=some a/\F a b
 |_,_,_,_,.nil,e=>by simp at e
 |_,_,0,_,.cons f _,e=>by simp at e;subst e;exact⟨_,rfl,f⟩
 |_,_,i+1,b,.cons _ t,e=>by
  let⟨a,h,g⟩:=Paired.get2 t ‹_›;exact⟨a,by simpa using h,g⟩
def DenAll.get2(h:DenAll K H ds xs)(e:xs[i]?=some v):∃d,ds[i]?=some d/\Den K H d v:=Paired.get2 h.paired e
theorem Paired.append'{e β:Type}{F:e->β->Prop}:∀{a b:List e}{c d:List β},abQ F a c->abQ F b d->abQ F (a++b) (c++d)
 |_,_,_,_,.nil,s=>s
 |_,_,_,_,.cons r t,s=>.cons r (Paired.append' t s)
def DenAll.append{e:List aD}{ys:List V}(h:DenAll K H ds xs)(g:DenAll K H e ys):DenAll K H (ds++e) (xs++ys):=jh (Paired.append' h.paired g.paired)
theorem Paired.take'{b β:Type}{F:b->β->Prop}:∀{a:List b}{l:List β} (n:Nat),abQ F a l->abQ F (a.take n) (l.take n)
 |_,_,0,_=>.nil
 |_,_,_+1,.nil=>.nil
 |_,_,n+1,.cons r t=>.cons r (Paired.take' n t)
theorem Paired.drop'{b β:Type}{F:b->β->Prop}:∀{a:List b}{l:List β} (n:Nat),abQ F a l->abQ F (a.drop n) (l.drop n)
 |_,_,0,h=>h
 |_,_,_+1,.nil=>.nil
 |_,_,n+1,.cons _ t=>Paired.drop' n t
def DenAll.take(h:DenAll K H ds xs)(n:Nat):DenAll K H (ds.take n) (xs.take n):=jh (Paired.take' n h.paired)
def DenAll.drop(h:DenAll K H ds xs)(n:Nat):DenAll K H (ds.drop n) (xs.drop n):=jh (Paired.drop' n h.paired)
theorem DenAll.ints:∀ns:List Int,DenAll K H (ns.map .int) (ns.map V.int)
 |[]=>DenAll.nil
 |n::ns=>DenAll.cons rfl (DenAll.ints ns)
end
def fzOf:List (aD×aD)->Option aD
 |[(.none,.list ds)]=>some (.list ds)
 |[(.none,.dict es)]=>some (.dict es)
 |_=>none
mutual
def TAt(K:Kd)(H:Hp)(τ:List 'h')(p:List Nat):aD->V->Prop
 | .list ts,v=>∃a e,τ.lookup p=some a/\v = .ref a/\H a=some (.lst e)/\TAtL K H τ p 0 ts e
 | .dict kvs,v=>(∃d,fzOf kvs=some d/\Den K H d v) \/
   (fzOf kvs=none/\excC kvs=none/\∃a f,τ.lookup p=some a/\v = .ref a/\H a=some (dX a f)/\CN kvs/\TAtD K H τ p 0 kvs f) \/
   (fzOf kvs=none/\excC kvs=none/\∃a f,τ.lookup p=some a/\v = .ref a/\H a=some (.dK f)/\TAtK K H τ p 0 kvs f) \/
   ∃c a dx C e,excC kvs=some c/\τ.lookup p=some a/\v = .ref a/\H a=some (.ins C dx e)/\ClsN K c C/\TAtF K H τ p 0 kvs e
 | .none,v=>Den K H .none v
 | .bool b,v=>Den K H (.bool b) v
 | .int i,v=>Den K H (.int i) v
 | .str x,v=>Den K H (.str x) v
 | .tuple ds,v=>Den K H (.tuple ds) v
def TAtL(K:Kd)(H:Hp)(τ:List 'h')(p:List Nat)(i:Nat):List aD->List V->Prop
 |[],xs=>xs=[]
 |t::ts,xs=>∃v vs,xs=v::vs/\TAt K H τ (p++[i]) t v/\TAtL K H τ p (i+1) ts vs
def TAtD(K:Kd)(H:Hp)(τ:List 'h')(p:List Nat)(i:Nat):List (aD×aD)->List (Int×V×V)->Prop
 |[],es=>es=[]
 |(k,t)::r,es=>∃u v vs,es=(im K.w k,u,v)::vs/\Den K H k u/\TAt K H τ (p++[i]) t v/\TAtD K H τ p (i+1) r vs
def TAtK(K:Kd)(H:Hp)(τ:List 'h')(p:List Nat)(i:Nat):List (aD×aD)->List (Key×V)->Prop
 |[],es=>es=[]
 |(k,t)::r,es=>∃a v vs,es=(a,v)::vs/\(k=keyD a/\∀x∈vs,x.1≠a)/\TAt K H τ (p++[i]) t v/\TAtK K H τ p (i+1) r vs
def TAtF(K:Kd)(H:Hp)(τ:List 'h')(p:List Nat)(i:Nat):List (aD×aD)->List (Str×V)->Prop
 |[],xs=>xs=[]
 |(k,t)::r,xs=>match k with
  | .str f=>∃v vs,xs=(f,v)::vs/\TAt K H τ (p++[i]) t v/\TAtF K H τ p (i+1) r vs
  | .none=>TAtF K H τ p (i+1) r xs
  |_=>False
end
theorem bC{β b:Type}[BEq β][LawfulBEq β]{l:List (β×b)}{p:β}{a:b}(h:l.lookup p=some a):a∈l.map (·.2):=by
 induction l with
 |nil=>cases h
 |cons x l i=>
  grind
section
variable {K:Kd}{H H':Hp}{τ:List 'h'}
mutual
theorem TAt.mono(f:Pers H H')(e:∀a∈τ.map (·.2),H' a=H a):∀{d:aD}{p:List Nat}{v:V},TAt K H τ p d v->TAt K H' τ p d v
 | .none,_,_,h=>by simp only[TAt]at h⊢;exact h.mono f
 | .bool _,_,_,h=>by simp only[TAt]at h⊢;exact h.mono f
 | .int _,_,_,h=>by simp only[TAt]at h⊢;exact h.mono f
 | .str _,_,_,h=>by simp only[TAt]at h⊢;exact h.mono f
 | .tuple _,_,_,h=>by simp only[TAt]at h⊢;exact h.mono f
 | .list ts,_,_,h=>by
  simp only[TAt]at h⊢;let⟨a,x,b,i,j,g⟩:=h;exact⟨a,x,b,i,(e a (bC b)).trans j,TAtL.mono f e g⟩
 | .dict kvs,_,_,h=>by
  simp only[TAt]at h⊢;rcases h with⟨d,b,h⟩|⟨l,z,a,m,b,i,j,k,g⟩|⟨l,z,a,m,b,i,j,g⟩|⟨c,a,dx,C,x,n,b,i,j,k,g⟩
  .exact .inl ⟨d,b,h.mono f⟩
  .exact .inr (.inl ⟨l,z,a,m,b,i,(e a (bC b)).trans j,k,TAtD.mono f e g⟩)
  .exact .inr (.inr (.inl ⟨l,z,a,m,b,i,(e a (bC b)).trans j,TAtK.mono f e g⟩))
  .exact .inr (.inr <| .inr ⟨c,a,dx,C,x,n,b,i,(e a (bC b)).trans j,k,TAtF.mono f e g⟩)
theorem TAtL.mono(b:Pers H H')(e:∀a∈τ.map (·.2),H' a=H a):∀{ds:List aD}{p:List Nat}{i:Nat}{xs:List V},TAtL K H τ p i ds xs->TAtL K H' τ p i ds xs
 |[],_,_,_,h=>by simpa only[TAtL]using h
 |t::ts,_,_,_,h=>by
  simp only[TAtL]at h⊢;let⟨v,vs,c,d,g⟩:=h;exact⟨v,vs,c,TAt.mono b e d,TAtL.mono b e g⟩
theorem TAtD.mono(b:Pers H H')(e:∀a∈τ.map (·.2),H' a=H a):∀{ds:List (aD×aD)}{p:List Nat}{i:Nat}{xs:List (Int×V×V)},TAtD K H τ p i ds xs->TAtD K H' τ p i ds xs
 |[],_,_,_,h=>by simpa only[TAtD]using h
 |(k,t)::r,_,_,_,h=>by
  simp only[TAtD]at h⊢;let⟨u,v,vs,d,g,f,c⟩:=h;exact⟨u,v,vs,d,g.mono b,TAt.mono b e f,TAtD.mono b e c⟩
theorem TAtK.mono(b:Pers H H')(e:∀a∈τ.map (·.2),H' a=H a):∀{ds:List (aD×aD)}{p:List Nat}{i:Nat}{xs:List (Key×V)},TAtK K H τ p i ds xs->TAtK K H' τ p i ds xs
 |[],_,_,_,h=>by simpa only[TAtK]using h
 |(k,t)::r,_,_,_,h=>by
  simp only[TAtK]at h⊢;let⟨u,v,vs,d,g,f,c⟩:=h;exact⟨u,v,vs,d,g,TAt.mono b e f,TAtK.mono b e c⟩
theorem TAtF.mono(b:Pers H H')(e:∀a∈τ.map (·.2),H' a=H a):∀{ds:List (aD×aD)}{p:List Nat}{i:Nat}{xs:List (Str×V)},TAtF K H τ p i ds xs->TAtF K H' τ p i ds xs
 |[],_,_,_,h=>by simpa only[TAtF]using h
 |(.str f,t)::r,_,_,_,h=>by
  simp only[TAtF]at h⊢;let⟨v,vs,c,j,g⟩:=h;exact⟨v,vs,c,TAt.mono b e j,TAtF.mono b e g⟩
 |(.none,d)::r,_,_,_,h=>by simp only[TAtF]at h⊢;exact TAtF.mono b e h
 |(.bool _,d)::r,_,_,_,h=>by simp only[TAtF]at h
 |(.int _,d)::r,_,_,_,h=>by simp only[TAtF]at h
 |(.list _,d)::r,_,_,_,h=>by simp only[TAtF]at h
 |(.tuple _,d)::r,_,_,_,h=>by simp only[TAtF]at h
 |(.dict _,d)::r,_,_,_,h=>by simp only[TAtF]at h
end
end
abbrev Cx.kd(X:Cx):Kd:=⟨X.K,X.w⟩
section
variable {X:Cx}{pins:List 'i'}{σ:St}{H:Hp}{s:GT}
mutual
theorem Den.reads(I:Inv X pins σ H s):∀{d:aD}{v:V}{u:Ad},d.hasDict=false->Den X.kd H d v->RelV v u->∃as,Reads s.heap u d as
 | .none,v,u,_,h,r=>by simp only[Den]at h;subst h;cases r;exact⟨_,.none⟩
 | .bool b,v,u,nd,h,r=>by simp only[Den]at h;subst h;cases r;exact⟨_,.bool b⟩
 | .int i,v,u,nd,h,r=>by simp only[Den]at h;subst h;let⟨t,rfl⟩:=r;exact⟨_,.int i t⟩
 | .str x,v,u,nd,h,r=>by simp only[Den]at h;subst h;let⟨t,rfl⟩:=r;exact⟨_,.str x t⟩
 | .list ds,v,u,nd,h,r=>by
  simp only[Den]at h;let⟨a,p,rfl,f,g⟩:=h;cases r;let⟨j,k,⟨o,n,e,c,_,l⟩,_⟩:=I.list f.sq;let⟨as,m⟩:=DenAll.reads I (by simpa only[acq]using nd) g k;exact⟨_,.list e c l (by simpa using m)⟩
 | .tuple ds,v,u,nd,h,r=>by
  simp only[Den]at h;let⟨a,p,rfl,f,g⟩:=h;cases r;let⟨j,k,⟨o,e,c,n,l⟩,_⟩:=I.tuple f;let⟨as,m⟩:=DenAll.reads I (by simpa only[acq]using nd) g k;exact⟨_,.tuple e c l (by simpa using m)⟩
 | .dict _,v,u,nd,h,r=>by simp[acq]at nd
theorem DenAll.reads(I:Inv X pins σ H s):∀{ds:List aD}{xs:List V}{us:List Ad},adu ds=false->DenAll X.kd H ds xs->Vals xs us->∃as,adV s.heap us ds as
 |[],xs,us,_,h,r=>by simp only[DenAll]at h;subst h;cases r;exact⟨_,.nil⟩
 | d::ds,xs,us,nd,h,r=>by
  simp only[adu,acP]at nd;simp only[DenAll]at h;let⟨v,vs,rfl,f,g⟩:=h
  cases r with
  |cons r1 c=>
   let⟨a1,a⟩:=Den.reads I nd.1 f r1;let⟨a2,b⟩:=DenAll.reads I nd.2 g c;exact⟨_,.cons a b⟩
end
theorem Inv.freeze(I:Inv X pins σ H s)(h:H a=some (.lst xs)):∃o,Inv X pins σ (upd H a (.frz o (.lst xs))) s:=by
 let⟨f,i,n,r,e⟩:=I.hok a _ h;refine⟨{cls:=.type "list",data:=.seq i.toArray n},I.un (h':=s.heap) (t':=s.toks) ⟨λb d q _ _ _=>q,λb d q _ _ _=>⟨d.slots,q⟩,λb d q z _=>?_,λb d q _=>⟨d,q⟩,λb y q=>?_,λb d u q=>?_,λb p q=>⟨#[],?_⟩⟩ λb d q=>?_⟩
 .rw[av (abH (bi h z))];exact z
 .rw[av (uC q h 'a')];exact q
 .rw[av (uC q h (by intro z;cases z))];exact q
 .rw[av (uC q h 'a'),q];simp
 .by_cases hb:b=a
  .subst hb;rw[ay]at q;cases q;exact⟨e,f,i,n,r,e⟩
  .rw[av hb]at q;exact(I.hok b d q).stay (λ_ _ _ z=>z) (λc z=>by rw[av (uC z h 'a')];exact z) λc y z=>by rw[av (uC z h 'a')];exact z
end
def Jq:Expr->Bool
 | .Starred ..=>true
 |_=>false
def aH{a:List Expr}(h:Jq e=false):aac (e::a) env=(false,eval e env)::aac a env:=by
 cases e<;>first|rfl|cases h
def cI(h:Jq e=false):aac [e] env=[(false,eval e env)]:=aH h
inductive R where
 |imm (d:aD)|obj (k:Nat)|new (ds:List aD)|at (k:Nat) (p:List Nat)|newT (t:aD)
structure MSt where
 vs:List (Option R)
 os:List (List aD)
 np:Nat
structure Kx extends Kd where
 eb:EB
instance:Coe Kx Kd:=⟨Kx.toKd⟩
abbrev Cx.kx(X:Cx):Kx:=⟨X.kd,X.eb⟩
abbrev Al:=List Ao
def Ao.ads:Ao->List Addr
 | .L a=>[a]
 | .T t=>t.map (·.2)
def ads(a:Al):List Addr:=a.flatMap Ao.ads
def jE(a β:Al):ads (a++β)=ads a++ads β:=by unfold ads;rw[adJ]
def Mu:HO->Bool
 | .tup _=>false
 | .frz _ _=>false
 |_=>true
def OwnAt(K:Kd)(H:Hp):Ao->List aD->Prop
 | .L a,ds=>∃x,H a=some (.lst x)/\DenAll K H ds x
 | .T τ,ds=>(∃t v,ds=[t]/\TAt K H τ [] t v/\∃a,τ.lookup []=some a/\v = .ref a)/\∀a∈τ.map (·.2),∃o,H a=some o/\Mu o=true
theorem OwnAt.mem(h:OwnAt K H ao ds)(c:a∈ao.ads):∃o,H a=some o/\Mu o=true:=by
 cases ao with
 |L b=>cases aad.mp c;let⟨x,e,_⟩:=h;exact⟨_,e,rfl⟩
 |T d=>exact h.2 a c
theorem OwnAt.mono(h:OwnAt K H ao ds)(p:Pers H H')(e:∀a∈ao.ads,H' a=H a):OwnAt K H' ao ds:=by
 cases ao with
 |L b=>
  let⟨x,q,g⟩:=h;exact⟨x,(e b (aad.mpr rfl)).trans q,g.mono p⟩
 |T f=>
  let⟨⟨t,v,d,g,r⟩,m⟩:=h;exact⟨⟨t,v,d,g.mono p e,r⟩,λa c=>by rw[e a c];exact m a c⟩
def RelS(K:Kd)(c:Al)(H:Hp):R->V->Prop
 | .imm d,v=>Den K H d v
 | .obj k,v=>∃a,c[k]?=some (.L a)/\v = .ref a
 | .at k p,v=>∃b a,c[k]?=some (.T b)/\b.lookup p=some a/\v = .ref a
 | .new _,_=>False
 | .newT _,_=>False
def RelR(K:Kd)(f:Al)(e H:Hp):R->V->Prop
 | .imm d,v=>Den K H d v
 | .obj k,v=>∃a,f[k]?=some (.L a)/\v = .ref a
 | .at k p,v=>∃c a,f[k]?=some (.T c)/\c.lookup p=some a/\v = .ref a
 | .new ds,v=>∃a x,v = .ref a/\e a=none/\H a=some (.lst x)/\DenAll K H ds x
 | .newT t,v=>∃c a,v = .ref a/\c.lookup []=some a/\(c.map (·.2)).Nodup/\(∀b∈c.map (·.2),e b=none)/\OwnAt K H (.T c) [t]
def Frm(c:Al)(H a:Hp):Prop:=∀b o,H b=some o->b∉ads c->a b=some o
theorem Frm.refl(a:Al)(H:Hp):Frm a H H:=λ_ _ e _=>e
theorem Frm.trans(a:Frm α H H1)(b:Frm α H1 H2):Frm α H H2:=λc o e n=>b c o (a c o e n) n
structure Ext(np:Nat)(α:Al)(H:Hp)(α':Al)(H':Hp):Prop where
 pre:α'.take np=α.take np
 frm:Frm α H H'
 new:∀a∈ads α',a∈ads α\/H a=none
 old:∀a∈ads α,∃o,H' a=some o
theorem Ext.trans{np:Nat}{c:Al}(x:Ext np α H α1 H1)(y:Ext np α1 H1 c H2):Ext np α H c H2:=by
 have out:∀b o,H b=some o->b∉ads α->b∉ads α1:=λb o e n f=>by
  rcases x.new b f with z|z
  .exact n z
  .grind
 refine⟨y.pre.trans x.pre,λb o e n=>y.frm b o (x.frm b o e n) (out b o e n),λa d=>?_,λa d=>?_⟩
 .rcases y.new a d with z|z
  .exact x.new a z
  .cases q:H a with
   |none=>exact .inr rfl
   | some o=>
    by_cases h:a∈ads α
    .exact .inl h
    .have:=x.frm a o q h
     grind
 .obtain⟨o,e⟩:=x.old a d
  by_cases h:a∈ads α1
  .exact y.old a h
  .exact⟨o,y.frm a o e h⟩
theorem Ext.nil{np:Nat}(x:Ext np α H α1 H1)(h:H1 a=none):H a=none:=by
 cases q:H a with
 |none=>rfl
 | some o=>
  by_cases b:a∈ads α
  .obtain⟨o',e⟩:=x.old a b
   grind
  .have:=x.frm a o q b
   grind
theorem Ext.less{np n1:Nat}(x:Ext n1 α H α' H')(h:np≤n1):Ext np α H α' H':=by
 refine⟨?_,x.frm,x.new,x.old⟩;have:=congrArg (agM np) x.pre;rw[List.take_take,List.take_take,Nat.min_eq_left h]at this;omega
structure Rel(K:Kx)(α:Al)(m:MSt)(σ:St)(H:Hp):Prop where
 nd:(ads α).Nodup
 len:α.length=m.os.length
 own:∀(k:Nat) (ao:Ao) (ds:List aD),α[k]?=some ao->m.os[k]?=some ds->OwnAt K H ao ds
 vlen:σ.length=m.vs.length
 var:∀(i:Nat) (r:R),m.vs[i]?=some (some r)->∃v,σ[i]?=some (some v)/\RelS K α H r v
 npl:m.np≤α.length
 ebl:K.eb.np≤m.np
 ebx:Ext K.eb.np K.eb.be K.eb.H α H
section
variable {K:Kx}{α:Al}{m m':MSt}{σ:St}{H H0 H1 H':Hp}{r:R}{v:V}
theorem RelS.rr{K:Kd}(h:RelS K α H r v):RelR K α Hb H r v:=by
 cases r with
 |imm d=>exact h
 |obj k=>exact h
 | «at» k p=>exact h
 |new ds=>exact h.elim
 |newT t=>exact h.elim
theorem Rel.mem(R:Rel K α m σ H)(f:a∈ads α):∃o,H a=some o/\Mu o=true:=by
 let⟨c,h,d⟩:=acj.mp f;let⟨k,hk,e⟩:=ab3.mp h;have h:α[k]?=some c:=by rw[lD hk,e]
 have b:m.os[k]?=some (m.os[k]'(by rw[<-R.len];exact hk)):=lD _;exact(R.own k c _ h b).mem d
theorem Rel.out(R:Rel K α m σ H)(h:H a=none):a∉ads α:=λb=>by
 obtain _:=R.mem b
 grind
theorem Rel.pers(R:Rel K α m σ H)(F:Frm α H H'):Pers H H' where
 tups:=λb x e=>F b _ e λh=>by let⟨y,q,z⟩:=R.mem h;rw[e]at q;cases q;cases z
 frzs:=λb o u e=>F b _ e λh=>by let⟨y,q,z⟩:=R.mem h;rw[e]at q;cases q;cases z
theorem Ext.of{np:Nat}(R:Rel K α m σ H')(F:Frm α H H'):Ext np α H α H':=
 ⟨rfl,F,λ_ h=>.inl h,λa b=>let ⟨xs,q,_⟩:=R.mem b;⟨_,q⟩⟩
theorem OwnAt.keep{K:Kd}(h:OwnAt K H1 ao ds)(p:Pers H1 H)(F:Frm α H1 H)(n:∀b∈ao.ads,b∉ads α):OwnAt K H ao ds:=
 h.mono p λa c=>by
  let⟨o,e,_⟩:=h.mem c;rw[e];exact F a o e (n a c)
theorem RelR.keep(c:Rel K α m σ H0)(R:Rel K α m' σ H1)(F:Frm α H1 H)(h:RelR K α H0 H1 r v):RelR K α H0 H r v:=by
 cases r with
 |imm d=>exact Den.mono (R.pers F) h
 |obj k=>exact h
 | «at» k p=>exact h
 |new ds=>
  let⟨a,x,e,n,q,g⟩:=h;exact⟨a,x,e,n,F a _ q (c.out n),g.mono (R.pers F)⟩
 |newT t=>
  let⟨j,a,e,f,nd,n,g⟩:=h;exact⟨j,a,e,f,nd,n,g.keep (R.pers F) F λb i=>c.out (n b i)⟩
theorem RelR.base(R:Rel K α m σ H)(F:Frm α H0 H)(h:RelR K α H H' r v):RelR K α H0 H' r v:=by
 have old:∀a,H a=none->H0 a=none:=λa n=>by
  cases z:H0 a with
  |none=>rfl
  |some o=>
   have:=F a o z (R.out n)
   grind
 cases r with
 |imm d=>exact h
 |obj k=>exact h
 | «at» k p=>exact h
 |new ds=>
  let⟨a,x,e,n,q,g⟩:=h;exact⟨a,x,e,old a n,q,g⟩
 |newT t=>
  let⟨i,a,e,c,nd,n,g⟩:=h;exact⟨i,a,e,c,nd,λb f=>old b (n b f),g⟩
def chD:aD->Nat->Option aD
 | .list ts,i=>ts[i]?
 | .dict kvs,i=>match kvs[i]? with
  |some (.none,_)=>none
  |some (_,t)=>some t
  |none=>none
 |_,_=>none
def getT:aD->List Nat->Option aD
 |t,[]=>some t
 |t,i::p=>(chD t i).bind λa=>getT a p
def iX:aD->Option aD
 | .list _=>none
 | .dict k=>fzOf k
 |d=>some d
def da:List aD->Option (List aD)
 |[]=>some []
 |t::ts=>match iX t,da ts with|some d,some ds=>some (d::ds)|_,_=>none
def ndL(m:MSt)(k:Nat)(p:List Nat):Option (List aD):=match m.os[k]? with
 |some [t]=>match getT t p with
  |some (.list ts)=>da ts
  |_=>none
 |_=>none
theorem jc{K:Kd}{p:List Nat}{t d:aD}(h:TAt K H τ p t v)(e:iX t=some d):Den K H d v:=by
 cases t with
 |list ts=>cases e
 | dict k=>
  have b:fzOf k=some d:=e;rcases h with _|⟨z,_⟩|⟨z,_⟩|⟨c,a,dx,C,x,f,_⟩
  .simp_all
  .simp_all
  .rw[b]at z;cases z
  .exfalso;unfold fzOf at b;unfold excC at f
   split at b<;>contradiction
 |none=>cases e;simpa only[TAt]using h
 |bool _=>cases e;simpa only[TAt]using h
 |int _=>cases e;simpa only[TAt]using h
 |str _=>cases e;simpa only[TAt]using h
 |tuple _=>cases e;simpa only[TAt]using h
theorem jv{K:Kd}{τ:List 'h'}{p:List Nat}:∀{ts ds:List aD}{i:Nat}{xs:List V},TAtL K H τ p i ts xs->da ts=some ds->DenAll K H ds xs
 |[],ds,i,xs,h,e=>by
  cases e;subst h;rfl
 | t::ts,ds,i,xs,h,e=>by
  let⟨v,vs,rfl,b,g⟩:=h;simp[da]at e
  cases q1:iX t with
  |none=>rw[q1]at e;cases e
  | some d=>
   cases q2:da ts with
   |none=>rw[q1,q2]at e;cases e
   |some a=>
    rw[q1,q2]at e;cases e;exact DenAll.cons (jc b q1) (jv g q2)
theorem TAtL.get{K:Kd}{τ:List 'h'}{p:List Nat}:∀{ts:List aD}{i j:Nat}{xs:List V}{t:aD},TAtL K H τ p i ts xs->ts[j]?=some t->∃v,xs[j]?=some v/\TAt K H τ (p++[i+j]) t v
 |[],_,_,_,_,_,e=>by simp at e
 |t::ts,i,0,xs,t',h,e=>by
  let⟨v,vs,rfl,d,_⟩:=h;simp at e;subst e;exact⟨v,rfl,d⟩
 |t::ts,i,j+1,xs,t',h,e=>by
  let⟨v,vs,rfl,_,g⟩:=h;let⟨a,c,b⟩:=TAtL.get g ‹_›;exact⟨a,by simpa using c,by rw[show i+(j+1)=i+1+j by omega];exact b⟩
theorem TAtD.get{K:Kd}{τ:List 'h'}{p:List Nat}:∀{ts:List (aD×aD)}{i j:Nat}{xs:List (Int×V×V)}{k t:aD},TAtD K H τ p i ts xs->ts[j]?=some (k,t)->∃u v,xs[j]?=some (im K.w k,u,v)/\Den K H k u/\TAt K H τ (p++[i+j]) t v
 |[],_,_,_,_,_,_,e=>by simp at e
 |(k,t)::ts,i,0,xs,k',t',h,e=>by
  let⟨u,v,vs,rfl,g,n,_⟩:=h;simp at e;let⟨rfl,rfl⟩:=e;exact⟨u,v,rfl,g,n⟩
 |(k,t)::ts,i,j+1,xs,k',t',h,e=>by
  let⟨u,v,vs,rfl,_,_,a⟩:=h;let⟨f,b,d,l,c⟩:=TAtD.get a ‹_›;exact⟨f,b,by simpa using d,l,by rw[show i+(j+1)=i+1+j by omega];exact c⟩
theorem TAtK.get{K:Kd}{τ:List 'h'}{p:List Nat}:∀{ts:List (aD×aD)}{i j:Nat}{xs:List (Key×V)}{k t:aD},TAtK K H τ p i ts xs->ts[j]?=some (k,t)->∃v,TAt K H τ (p++[i+j]) t v
 |[],_,_,_,_,_,_,e=>by simp at e
 |(k,t)::ts,i,0,xs,k',t',h,e=>by
  let⟨u,v,vs,rfl,d,b,_⟩:=h;simp at e;let⟨rfl,rfl⟩:=e;exact⟨v,b⟩
 |(k,t)::ts,i,j+1,xs,k',t',h,e=>by
  let⟨u,v,vs,rfl,_,_,g⟩:=h;let⟨a,c⟩:=TAtK.get g ‹_›;exact⟨a,by rw[show i+_=i+1+j by omega];exact c⟩
theorem TAtF.get{K:Kd}{τ:List 'h'}{p:List Nat}:∀{ts:List (aD×aD)}{i j:Nat}{xs:List (Str×V)}{f:Str}{t:aD},TAtF K H τ p i ts xs->ts[j]?=some (.str f,t)->∃v,(f,v)∈xs/\TAt K H τ (p++[i+j]) t v
 |[],_,_,_,_,_,_,e=>by simp at e
 |(k,t)::ts,i,0,xs,f,t',h,e=>by
  simp_all
  let⟨v,vs,rfl,d,_⟩:=h;exact⟨v,aah,d⟩
 | (k,t)::ts,i,j+1,xs,f,t',h,e=>by
  have go:∀{y:List (Str×V)},TAtF K H τ p (i+1) ts y->∃v,(f,v)∈y/\TAt K H τ (p++[i+(j+1)]) t' v:=λ{y} g=>by
   let⟨a,c,b⟩:=TAtF.get (j:=j) g (by simpa using e);exact⟨a,c,by rw[show i+(j+1)=i+1+j by omega];exact b⟩
  cases k with
  |str l=>
   simp only[TAtF]at h;let⟨v,vs,rfl,_,g⟩:=h;let⟨a,c,b⟩:=go g;exact⟨a,aaf _ c,b⟩
  |none=>simp only[TAtF]at h;exact go h
  |bool _=>simp only[TAtF]at h
  |int _=>simp only[TAtF]at h
  |list _=>simp only[TAtF]at h
  |tuple _=>simp only[TAtF]at h
  |dict _=>simp only[TAtF]at h
theorem TAtF.key{K:Kd}{p:List Nat}:∀{ts:List (aD×aD)}{i:Nat}{xs:List (Str×V)}{k t:aD},TAtF K H τ p i ts xs->(k,t)∈ts->k≠.none->∃f,k = .str f
 |[],_,_,_,_,_,e,_=>by simp at e
 | (k,t)::ts,i,xs,k',t',h,e,kn=>by
  cases k with
  |str a=>
   let⟨v,vs,rfl,_,g⟩:=h;rcases aag.mp e with e|e
   .grind
   .exact g.key e kn
  |none=>
   simp only[TAtF]at h;rcases aag.mp e with e|e
   .grind
   .exact h.key e kn
  |bool _=>simp[TAtF]at h
  |int _=>simp[TAtF]at h
  |list _=>simp only[TAtF]at h
  |tuple _=>simp only[TAtF]at h
  |dict _=>simp[TAtF]at h
theorem TAt.get{K:Kd}{τ:List 'h'}:∀{q p:List Nat}{t t':aD}{v:V},TAt K H τ p t v->getT t q=some t'->∃v',TAt K H τ (p++q) t' v'
 |[],p,t,t',v,h,e=>by cases e;exact⟨v,by rw[aa5];exact h⟩
 | i::q,p,t,t',v,h,e=>by
  simp only[getT]at e
  cases z:chD t i with
  |none=>rw[z]at e;cases e
  | some w=>
   rw[z]at e;have E:getT w q=some t':=e;have step:∃l,TAt K H τ (p++[i]) w l:=by
    cases t with
    |list ts=>
     simp only[TAt]at h;let⟨a,B,_,_,_,g⟩:=h;let⟨l,_,b⟩:=g.get (j:=i) z;exact⟨l,by rw[acQ]at b;exact b⟩
    | dict n=>
     simp only[chD]at z
     cases zi:n[i]? with
     |none=>rw[zi]at z;cases z
     | some D=>
      let⟨k,F⟩:=D;rw[zi]at z;have o:k≠.none:=λq=>by subst q;cases z
      have A:F=w:=by
       split at z<;>simp_all
      subst A;simp only[TAt]at h;rcases h with⟨d,s,_⟩|⟨_,_,a,G,_,_,_,_,g⟩|⟨_,_,a,G,_,_,_,g⟩|⟨c,a,dx,C,B,I,_,_,_,_,g⟩
      .exfalso;unfold fzOf at s
       split at s
       .cases i<;>simp at zi;exact o zi.1.symm
       .cases i<;>simp at zi;exact o zi.1.symm
       .cases s
      .obtain⟨u,l,_,_,b⟩:=g.get (j:=i) zi;exact⟨l,by rw[acQ]at b;exact b⟩
      .obtain⟨l,b⟩:=g.get (j:=i) zi;exact⟨l,by rw[acQ]at b;exact b⟩
      .obtain⟨f,rfl⟩:=g.key (LD zi) o;let⟨l,_,b⟩:=g.get (j:=i) zi;exact⟨l,by rw[acQ]at b;exact b⟩
    |none=>cases z
    |bool _=>cases z
    |int _=>cases z
    |str _=>cases z
    |tuple _=>cases z
   let⟨l,y⟩:=step;let⟨v',x⟩:=TAt.get y E;exact⟨v',by rw[aaY]at x;exact x⟩
def lsOf(m:MSt):R->Option (List aD)
 | .imm (.list ds)=>some ds
 | .obj k=>m.os[k]?
 | .new ds=>some ds
 | .at k p=>ndL m k p
 |_=>none
mutual
def eraT:aD->Option aD
 | .list ts=>(eraL ts).map .list
 | .dict k=>fzOf k
 | .none=>some .none
 | .bool b=>some (.bool b)
 | .int i=>some (.int i)
 | .str x=>some (.str x)
 | .tuple ds=>some (.tuple ds)
def eraL:List aD->Option (List aD)
 |[]=>some []
 |t::ts=>match eraT t,eraL ts with|some d,some ds=>some (d::ds)|_,_=>none
end
def ndT(m:MSt)(k:Nat)(p:List Nat):Option aD:=match m.os[k]? with
 |some [t]=>getT t p
 |_=>none
def asD(m:MSt):R->Option aD
 | .imm d=>some d
 | .obj k=>(m.os[k]?).map .list
 | .new ds=>some (.list ds)
 | .at k p=>match ndT m k p with
  |some (.list ts)=>(eraL ts).map .list
  |_=>none
 | .newT _=>none
theorem RelR.node(R:Rel K α m σ H){k:Nat}{p:List Nat}(h:RelR K α H0 H (.at k p) v){t:aD}(e:ndT m k p=some t):∃τ a v',α[k]?=some (.T τ)/\τ.lookup p=some a/\v = .ref a/\TAt K H τ p t v':=by
 let⟨τ,a,b,d,i⟩:=h;unfold ndT at e
 split at e
 .rename_i t0 e0;let⟨⟨l,j,f,g,_⟩,_⟩:=R.own k _ _ b e0;cases f;let⟨v',c⟩:=g.get e;exact⟨τ,a,v',b,d,i,by simpa using c⟩
 .cases e
theorem RelR.list(R:Rel K α m σ H)(h:RelR K α H0 H r v)(e:lsOf m r=some ds):∃a xs,v = .ref a/\SqL K H a xs/\DenAll K H ds xs:=by
 cases r with
 | imm d=>
  cases d with
  |list o=>
   cases e;have j:Den K H (.list ds) v:=h;let⟨a,xs,b,f,g⟩:=j;exact⟨a,xs,b,f.sq,g⟩
  |none=>cases e
  |bool _=>cases e
  |int _=>cases e
  |str _=>cases e
  |tuple _=>cases e
  |dict _=>cases e
 |obj k=>
  let⟨a,b,rfl⟩:=h;let⟨xs,q,g⟩:=R.own k _ ds b e;exact⟨a,xs,rfl,SqL.of q,g⟩
 |new o=>
  cases e;let⟨a,xs,b,n,q,g⟩:=h;exact⟨a,xs,b,SqL.of q,g⟩
 | «at» k p=>
  have c:ndL m k p=some ds:=e;let⟨ts,b,l⟩:∃ts,ndT m k p=some (.list ts)/\da ts=some ds:=by
   unfold ndL at c;unfold ndT
   split at c
   .split at c
    .rename_i h0 _ ts h1;exact⟨ts,h1,c⟩
    .cases c
   .cases c
  let⟨u,a,t,_,s,rfl,g⟩:=RelR.node R h b;simp only[TAt]at g;let⟨w,xs,i,_,q,g⟩:=g;rw[s]at i;cases i;exact⟨a,xs,rfl,SqL.of q,jv g l⟩
 |newT _=>cases e
end
section
variable {X:Cx}{pins:List 'i'}{σ:St}{H:Hp}{s:GT}{τ:List 'h'}
mutual
theorem TAt.reads(I:Inv X pins σ H s):∀{t d:aD}{p:List Nat}{v:V}{u:Ad},eraT t=some d->d.hasDict=false->TAt X.kd H τ p t v->RelV v u->∃as,Reads s.heap u d as
 | .none,d,p,v,u,e,nd,h,r=>by simp only[eraT]at e;cases e;simp only[TAt]at h;exact h.reads I nd r
 | .bool b,d,p,v,u,e,nd,h,r=>by simp only[eraT]at e;cases e;simp only[TAt]at h;exact h.reads I nd r
 | .int i,d,p,v,u,e,nd,h,r=>by simp only[eraT]at e;cases e;simp only[TAt]at h;exact h.reads I nd r
 | .str x,d,p,v,u,e,nd,h,r=>by simp only[eraT]at e;cases e;simp only[TAt]at h;exact h.reads I nd r
 | .tuple ds,d,p,v,u,e,nd,h,r=>by simp only[eraT]at e;cases e;simp only[TAt]at h;exact h.reads I nd r
 | .dict kvs,d,p,v,u,e,nd,h,r=>by
  simp only[eraT]at e;exact(jc h (show iX (.dict kvs)=some d from e)).reads I nd r
 | .list ts,d,p,v,u,e,nd,h,r=>by
  simp only[eraT]at e
  cases q:eraL ts with
  |none=>rw[q]at e;cases e
  |some ds=>
   rw[q]at e;cases e;simp only[TAt]at h;let⟨a,w,_,rfl,f,g⟩:=h;cases r;let⟨j,k,⟨o,n,e,c,_,m⟩,_⟩:=I.list (SqL.of f);let⟨as,l⟩:=TAtL.reads I q (by simpa only[acq]using nd) g k;exact⟨_,.list e c m (by simpa using l)⟩
theorem TAtL.reads(I:Inv X pins σ H s):∀{ts ds:List aD}{p:List Nat}{i:Nat}{xs:List V}{us:List Ad},eraL ts=some ds->adu ds=false->TAtL X.kd H τ p i ts xs->Vals xs us->∃as,adV s.heap us ds as
 |[],ds,p,i,xs,us,e,nd,h,r=>by
  simp only[eraL]at e;cases e;simp only[TAtL]at h;subst h
  cases r;exact⟨_,.nil⟩
 | t::ts,ds,p,i,xs,us,e,nd,h,r=>by
  simp only[eraL]at e
  cases q1:eraT t with
  |none=>rw[q1]at e;cases e
  | some d=>
   cases q2:eraL ts with
   |none=>rw[q1,q2]at e;cases e
   | some b=>
    rw[q1,q2]at e;cases e;simp only[adu,acP]at nd;simp only[TAtL]at h;let⟨v,vs,rfl,f,g⟩:=h
    cases r with
    |cons r1 c=>
     let⟨a1,a⟩:=TAt.reads I q1 nd.1 f r1;let⟨a2,j⟩:=TAtL.reads I q2 nd.2 g c;exact⟨_,.cons a j⟩
end
end
theorem RelR.reads{s:GT}{m:MSt}{u:Ad}{d:aD}(I:Inv X pins σ H s)(R:Rel X.kx α m σ' H)(h:RelR X.kd α H0 H r v)(i:RelV v u)(e:asD m r=some d)(nd:d.hasDict=false):∃as,Reads s.heap u d as:=by
 have t:∀{ds:List aD},lsOf m r=some ds->adu ds=false->∃as,Reads s.heap u (.list ds) as:=λ{ds} e nd=>by
  let⟨a,x,rfl,f,g⟩:=RelR.list R h e;cases i;let⟨w,i,⟨o,n,e,c,_,z⟩,_⟩:=I.list f;let⟨as,B⟩:=DenAll.reads I nd g i;exact⟨_,.list e c z (by simpa using B)⟩
 cases r with
 |imm D=>cases e;exact Den.reads I nd h i
 | obj k=>
  cases q:m.os[k]? with
  |none=>simp[asD,q]at e
  |some ds=>
   simp[asD,q]at e;subst e;exact t q ‹_›
 |new ds=>cases e;exact t rfl (by simpa only[acq]using nd)
 | «at» k p=>
  let⟨ts,ds,q,j,rfl⟩:∃ts ds,ndT m k p=some (.list ts)/\eraL ts=some ds/\d = .list ds:=by
   unfold asD at e;simp only at e
   split at e
   .rename_i ts q
    cases j:eraL ts with
    |none=>rw[j]at e;cases e
    |some ds=>rw[j]at e;cases e;exact⟨ts,ds,q,j,rfl⟩
   .cases e
  let⟨E,a,C,_,A,rfl,g⟩:=RelR.node R h q;have l:=g;simp only[TAt]at l;let⟨F,x,b,y,_⟩:=l;rw[A]at b;cases b;subst y;exact TAt.reads I (by simp only[eraT,j,Option.map]) nd g i
 |newT _=>cases e
abbrev WE:=MSt->(R->MSt->Prop)->Prop
abbrev WT:=MSt->(Bool->MSt->Prop)->Prop
abbrev WA:=MSt->(List R->MSt->Prop)->Prop
def tM(K:Kx)(w:WE):TE:=λe H Q=>∃b m d,Rel K b m e H/\w m d/\∀r c v a,d r c->c.np=m.np->Rel K b c e a->RelR K b H a r v->Frm b H a->Q v a
def tMT(K:Kx)(w:WT):TT:=λf H Q=>∃d m e,Rel K d m f H/\w m e/\∀b c a,e b c->c.np=m.np->Rel K d c f a->Frm d H a->Q b a
inductive RelRs(K:Kd)(α:Al)(Hb H:Hp):List R->List V->Prop where
 |nil:RelRs K α Hb H [] []
 |cons {r:R}{rs:List R}{v:V}{vs:List V}:RelR K α Hb H r v->RelRs K α Hb H rs vs->RelRs K α Hb H (r::rs) (v::vs)
def tMA(K:Kx)(w:WA):TA:=λe H Q=>∃b m d,Rel K b m e H/\w m d/\∀rs c vs a,d rs c->c.np=m.np->Rel K b c e a->RelRs K b H a rs vs->Frm b H a->Q vs a
theorem PE.wk{t t':TE}(h:PE X e t)(k:∀a H Q,t' a H Q->t a H Q):PE X e t':=λp s a H Q I q=>h p s a H Q I (k _ _ _ q)
theorem PT.wk{t t':TT}(h:PT X e t)(k:∀a H Q,t' a H Q->t a H Q):PT X e t':=λp s a H Q I q=>h p s a H Q I (k _ _ _ q)
theorem PW.wk{t t':TT}(h:PW X e t)(k:∀a H Q,t' a H Q->t a H Q):PW X e t':=λw p s a H Q I q=>h w p s a H Q I (k _ _ _ q)
theorem PA.wk{e:List Expr}{t t':TA}(h:PA X e t)(k:∀a H Q,t' a H Q->t a H Q):PA X e t':=λb p s a H Q I q=>h b p s a H Q I (k _ _ _ q)
theorem PS.wk{e:Stmt}{t t':TS}(h:PS X e t)(k:∀D a H,t' D a H->t D a H):PS X e t':=λp s a H D I q=>h p s a H D I (k _ _ _ q)
theorem PSs.wk{e:List Stmt}{t t':TS}(h:PSs X e t)(k:∀D a H,t' D a H->t D a H):PSs X e t':=λp s a H D I q=>h p s a H D I (k _ _ _ q)
abbrev ME(X:Cx)(e:Expr)(w:WE):Prop:=PE X e (tM X.kx w)
abbrev MT(X:Cx)(e:Expr)(w:WT):Prop:=PT X e (tMT X.kx w)
abbrev MW(X:Cx)(e:Expr)(w:WT):Prop:=PW X e (tMT X.kx w)
abbrev MA(X:Cx)(e:List Expr)(w:WA):Prop:=PA X e (tMA X.kx w)
section
variable {X:Cx}{a b c:Expr}{n:List Expr}{f g l:WE}{pos:Pos}
def wVar(i:Nat):WE:=λm K=>∃r,m.vs[i]?=some (some r)/\K r m
abbrev wC(d:aD):WE:=λm K=>K (.imm d) m
theorem Sf{t:TE}{w:WE}(h:PE X a t)(k:∀d m e H K Q,Rel X.kx d m e H->w m K->(∀r j v i,K r j->j.np=m.np->Rel X.kx d j e i->RelR X.kx d H i r v->Frm d H i->Q v i)->t e H Q):ME X a w:=
 h.wk<|by intro e H Q ⟨d,m,K,R,p,o⟩;exact k d m e H K Q R p o
theorem me_c{d:aD}(h:PE X a (tC v))(hd:∀(K:Kd) H,Den K H d v):ME X a (wC d):=
 Sf h λo m k H j Q R i e=>e _ m v H i rfl R (hd _ _) (Frm.refl _ _)
def U7{i j pos}:ME X (.Constant (.int i) j pos) (wC (.int i)):=me_c S9 λ_ _=>by simp[Den]
def XV{i j pos}:ME X (.Constant (.bool i) j pos) (wC (.bool i)):=me_c Wj λ_ _=>by simp[Den]
def SD{i j pos}:ME X (.Constant (.str i) j pos) (wC (.str i)):=me_c Qh λ_ _=>by simp[Den]
def QL{j pos}:ME X (.Constant .none j pos) (wC .none):=me_c Q9 λ_ _=>by simp[Den]
theorem TJ(h:PE X a (tVar i)):ME X a (wVar i):=
 Sf h λs m q H K Q R o d=>by
  let⟨r,e,k⟩:=o;let⟨v,j,p⟩:=R.var i r e;exact⟨v,j,d r m v H k rfl R p.rr (Frm.refl _ _)⟩
theorem mv(i:Nat){pos:Pos}(d:X.N[i]?=some x:=by rfl)(e:Vis X.env.scope x:=by first|exact afG rfl|exact ada (afG rfl)|exact ada (ada rfl))(hd:(x=='g')=false:=by decide)(h:(x==("__classdict__" : Str))=false:=by decide):ME X (.Name x pos) (wVar i):=TJ (Jt d e hd h)
abbrev WO:=R->R->MSt->(R->Prop)->Prop
def rM(K:Kx)(o:WO):R2:=λx y H Q=>∃d m i k p r1 j h,Rel K d m i H/\RelR K d k H r1 x/\RelR K d p H j y/\o r1 j m h/\∀r v e,h r->Rel K d m i e->RelR K d H e r v->Frm d H e->Q v e
abbrev wBin(o:WO)(f g:WE):WE:=λm K=>f m λr1 m1=>g m1 λd m2=>o r1 d m2 λr=>K r m2
theorem rQ(h:tM X.kx (wBin o f g) σ H Q):tOp (rM X.kx o) (tM X.kx f) (tM X.kx g) σ H Q:=by
 let⟨p,m,K,t,A,s⟩:=h;refine⟨p,m,_,t,A,λr1 m1 x B k1 n1 d e u=>⟨p,m1,_,d,k1,λw m2 y C k2 n2 R i j=>?_⟩⟩;refine⟨p,m2,σ,H,B,r1,w,_,R,e.keep t d j,i,k2,λr v z k q rr F=>?_⟩;exact s r m2 v z k (n2.trans n1) q (rr.base R (u.trans j)) ((u.trans j).trans F)
def TW{op:afb}(e:OpR X (acp op) (rM X.kx o))(i:ME X a f)(d:ME X b g):ME X (.BinOp a op b pos) (wBin o f g):=(WF e i d).wk λ_ _ _ h=>rQ h
def Ut(e:OpR X (aaW op) (rM X.kx o))(j:ME X a f)(d:ME X b g)(i:acU op b=false):ME X (.Compare a [op] [b] pos) (wBin o f g):=(Lj e j d i).wk λ_ _ _ h=>rQ h
abbrev onBl(P:Bool->Prop):R->Prop
 | .imm (.bool k)=>P k
 |_=>False
theorem ug{K:Kx}{P:Bool->Prop}(rr:RelR K α Hb H r v)(h:onBl P r):∃b,r = .imm (.bool b)/\v = .bl b/\P b:=by
 cases r with
 |obj _=>exact h.elim
 |new _=>exact h.elim
 | «at» _ _=>exact h.elim
 |newT _=>exact h.elim
 | imm d=>
  cases d with
  |bool b=>
   have e:=rr;exact⟨b,rfl,e,h⟩
  |none=>exact h.elim
  |int _=>exact h.elim
  |str _=>exact h.elim
  |list _=>exact h.elim
  |tuple _=>exact h.elim
  |dict _=>exact h.elim
abbrev Bz(w:WE):WT:=λm K=>w m λr d=>onBl (λk=>K k d) r
theorem zk{t:TE}{Q:Bool->Hp->Prop}{w:WE}(k:∀i,tM X.kx w σ H i->t σ H i)(h:tMT X.kx (Bz w) σ H Q):Vo t σ H Q:=by
 let⟨q,m,K,o,u,d⟩:=h;refine k _ ⟨q,m,_,o,u,λr p v s e n1 R rr F=>?_⟩;let⟨b,x,j,e⟩:=ug rr e;exact⟨b,j,d b p s e n1 R F⟩
def Ve(e:OpR X (aaW op) (rM X.kx o))(j:ME X a f)(d:ME X b g)(i:acU op b=false):MT X (.Compare a [op] [b] pos) (Bz (wBin o f g)):=(Mz e j d i).wk λ_ _ _ h=>zk (λ_=>rQ) h
def RG(e:ME X a f)(d:∀w,isTrue a X.env w=(do let v <- w;acN a.pos;ad2 [v] (truthy v)):=by intro _;rfl):MT X a (Bz f):=(UA e d).wk λ_ _ _ h=>zk (λ_ h=>h) h
abbrev Dt(o h:WO)(f g l:WE):WE:=λm K=>f m λr1 m1=>g m1 λe m2=>o r1 e m2 (onBl λk=>if k=true then l m2 λi d=>h e i d λr=>K r d else K (.imm (.bool false)) m2)
end
section
variable {X:Cx}{a b c:Expr}{l:List Expr}{f A C:WE}{pos:Pos}
theorem GA(h:tM X.kx (Dt o o' f A C) σ H Q):JT (rM X.kx o) (rM X.kx o') (tM X.kx f) (tM X.kx A) (tM X.kx C) σ H Q:=by
 let⟨j,m,Kc,G,T,q⟩:=h;refine⟨j,m,_,G,T,λr1 m1 x M k1 n1 R t U=>⟨j,m1,_,R,k1,λK m2 y Y k2 n2 i g I=>?_⟩⟩;refine⟨j,m2,σ,H,M,r1,K,_,i,t.keep G R I,g,k2,λr v D k d rr E=>?_⟩;let⟨L,S,N,s⟩:=ug rr k;subst S N;refine⟨L,rfl,?_⟩;have e:=(U.trans I).trans E
 cases L with
 |true=>
  rw[if_pos rfl]at s⊢;refine⟨j,m2,_,d,s,λW J z Z O V n w u=>?_⟩;have p:=((g.keep R i E).keep R d u);exact⟨j,J,σ,M,D,K,W,_,n,p,w,O,λr v P k B rr F=>q r J v P k (V.trans (n2.trans n1)) B (rr.base n (e.trans u)) ((e.trans u).trans F)⟩
 |false=>
  rw[if_neg aan]at s⊢;exact q _ m2 _ D s (n2.trans n1) d (show Den X.kx D (.bool false) (.bl false) by simp only[Den]) e
theorem Ig{d:CmpOp}(j:OpR X (aaW op) (rM X.kx o))(e:OpR X (aaW d) (rM X.kx o'))(i:ME X a f)(k:ME X b A)(m:ME X c C)
  (g:lastMarks [op,d] [b,c]=false:=by with_unfolding_all rfl):ME X (.Compare a [op,d] [b,c] pos) (Dt o o' f A C):=(Gz j e i k m g).wk λ_ _ _ h=>GA h
variable {B D:WT}{rest:List Expr}
abbrev wAnd(t u:WT):WT:=λm K=>t m λc m1=>if c=true then u m1 K else K false m1
abbrev wOr(t u:WT):WT:=λm K=>t m λc m1=>if c=true then K true m1 else u m1 K
abbrev wNot(t:WT):WT:=λm K=>t m λc m1=>K (!c) m1
def Lg(h:MT X a B):MW X (.BoolOp .And [a] pos) B:=Lc h
def QF(h:MT X a B):MW X (.BoolOp .Or [a] pos) B:=Tq h
theorem RQ(o:MT X a B)(j:MW X (.BoolOp .And (b::rest) pos) D):MW X (.BoolOp .And (a::b::rest) pos) (wAnd B D):=(Ux o j).wk<|by
 intro s H Q ⟨g,m,K,i,q,d⟩;refine⟨g,m,_,i,q,λp m1 r k n1 R F=>?_⟩
 cases p with
 |true=>rw[if_pos rfl];exact⟨g,m1,K,R,k,λb2 m2 h k2 n2 e n=>d b2 m2 h k2 (n2.trans n1) e (F.trans n)⟩
 |false=>rw[if_neg aan];exact d _ m1 r k n1 R F
theorem Xu(o:MT X a B)(j:MW X (.BoolOp .Or (b::rest) pos) D):MW X (.BoolOp .Or (a::b::rest) pos) (wOr B D):=(Xy o j).wk<|by
 intro s H Q ⟨g,m,K,i,q,d⟩;refine⟨g,m,_,i,q,λp m1 r k n1 R F=>?_⟩
 cases p with
 |true=>rw[if_pos rfl];exact d _ m1 r k n1 R F
 |false=>rw[if_neg aan];exact⟨g,m1,K,R,k,λb2 m2 h k2 n2 e n=>d b2 m2 h k2 (n2.trans n1) e (F.trans n)⟩
theorem UB(i:MT X a B):MT X (.UnaryOp .Not a pos) (wNot B):=(Qj i).wk<|by intro n H Q ⟨j,m,K,e,h,d⟩;exact
 ⟨j,m,_,e,h,λo m1 g k n1 R F=>d _ m1 g k n1 R F⟩
abbrev Sy(f A:WE):WE:=λm K=>f m λr m1=>onBl (λc=>if c=true then A m1 K else K (.imm (.bool false)) m1) r
abbrev wOrV(f A:WE):WE:=λm K=>f m λr m1=>onBl (λc=>if c=true then K (.imm (.bool true)) m1 else A m1 K) r
abbrev Qu(f:WE):WE:=λm K=>f m λr m1=>onBl (λc=>K (.imm (.bool (!c))) m1) r
def BC(b:Bool):Den K H (.bool b) (.bl b):=rfl
def uK(b:Int):Den K H (.int b) (.int b):=rfl
def L8(b:Str):Den K H (.str b) (.str b):=rfl
def Vd{op}(h:ME X a f):ME X (.BoolOp op [a] pos) f:=Sg h
theorem UY(w:ME X a f)(s:ME X (.BoolOp .And (b::rest) pos) A):ME X (.BoolOp .And (a::b::rest) pos) (Sy f A):=(Qk w s).wk<|by
 intro z H Q ⟨i,m,u,q,y,d⟩;refine⟨i,m,_,q,y,λr m1 v n k n1 R rr F=>?_⟩;let⟨j,x,p,e⟩:=ug rr k;subst x p;refine⟨j,rfl,?_⟩
 cases j with
 |true=>rw[if_pos rfl]at e⊢;exact⟨i,m1,u,R,e,λr m2 v o k2 n2 h g t=>d r m2 v o k2 (n2.trans n1) h (g.base R F) (F.trans t)⟩
 |false=>rw[if_neg aan]at e⊢;exact d _ m1 _ n e n1 R (BC (K:=X.kx) (H:=n) _) F
theorem W9(w:ME X a f)(s:ME X (.BoolOp .Or (b::rest) pos) A):ME X (.BoolOp .Or (a::b::rest) pos) (wOrV f A):=(V9 w s).wk<|by
 intro z H Q ⟨i,m,u,q,y,d⟩;refine⟨i,m,_,q,y,λr m1 v n k n1 R rr F=>?_⟩;let⟨j,x,p,e⟩:=ug rr k;subst x p;refine⟨j,rfl,?_⟩
 cases j with
 |true=>rw[if_pos rfl]at e⊢;exact d _ m1 _ n e n1 R (BC (K:=X.kx) (H:=n) _) F
 |false=>rw[if_neg aan]at e⊢;exact⟨i,m1,u,R,e,λr m2 v o k2 n2 h g t=>d r m2 v o k2 (n2.trans n1) h (g.base R F) (F.trans t)⟩
theorem QT(j:ME X a f):ME X (.UnaryOp .Not a pos) (Qu f):=(QY j).wk<|by
 intro t H Q ⟨i,m,s,h,p,d⟩;refine⟨i,m,_,h,p,λr m1 v e k n1 R rr F=>?_⟩;let⟨n,o,g,q⟩:=ug rr k;subst o g;exact⟨n,rfl,d _ m1 _ e q n1 R (BC (K:=X.kx) (H:=e) _) F⟩
def wIfE(t:WT)(f A:WE):WE:=λm K=>t m λc m1=>if c=true then f m1 K else A m1 K
theorem Yg(n:MT X t B)(q:ME X a f)(p:ME X b A):ME X (.IfExp t a b pos) (wIfE B f A):=(IK n q p).wk<|by
 intro w H Q ⟨j,m,K,o,u,g⟩;refine⟨j,m,_,o,u,λs m1 x k n1 R F=>?_⟩
 cases s with
 |true=>rw[if_pos rfl];exact⟨j,m1,K,R,k,λr m2 v h k2 n2 e d i=>g r m2 v h k2 (n2.trans n1) e (d.base R F) (F.trans i)⟩
 |false=>rw[if_neg aan];exact⟨j,m1,K,R,k,λr m2 v h k2 n2 e d i=>g r m2 v h k2 (n2.trans n1) e (d.base R F) (F.trans i)⟩
abbrev WU:=R->MSt->(R->Prop)->Prop
def uM(K:Kx)(o:WU):V->Hp->VK->Prop:=λx H Q=>∃d m h i r1 g,Rel K d m h H/\RelR K d i H r1 x/\o r1 m g/\∀r v e,g r->Rel K d m h e->RelR K d H e r v->Frm d H e->Q v e
abbrev wUn(o:WU)(f:WE):WE:=λm K=>f m λr1 m1=>o r1 m1 λr=>K r m1
theorem Vy{op:UnaryOp}{o:WU}(n:UnR X (unaryOp op) (uM X.kx o))(p:ME X a f):ME X (.UnaryOp op a pos) (wUn o f):=(Wn n p).wk<|by intro t H Q ⟨h,m,K,j,s,g⟩;exact
 ⟨h,m,_,j,s,λr1 m1 x u k1 n1 R d i=>⟨h,m1,t,H,r1,_,R,d,k1,λr v q k e rr F=>g r m1 v q k n1 e (rr.base R i) (i.trans F)⟩⟩
def tFz(t:TE):TE:=λe H Q=>t e H λv d=>Q v d\/∃a x,d a=some (.lst x)/\∀o,Q v (upd d a (.frz o (.lst x)))
theorem X8{t:TE}(h:PE X a t):PE X a (tFz t):=by
 intro g s j H Q I q;refine thn (h g s j H _ I q) λu s1 ⟨v,k,i,r1,d⟩=>?_;rcases d with d|⟨p,x,e,d⟩
 .exact⟨v,k,i,r1,d⟩
 .obtain⟨o,I2⟩:=i.freeze e;exact⟨v,_,I2,r1,d o⟩
theorem Rel.at{K:Kx}{m:MSt}(R:Rel K α m σ H)(p:Pers H H')(e:∀a∈ads α,H' a=H a)(x:Frm α H H'):Rel K α m σ H':=by
 refine⟨R.nd,R.len,λk n ds j s=>?_,R.vlen,λi r h=>?_,R.npl,R.ebl,R.ebx.trans ⟨rfl,x,λ_ h=>.inl h,λa g=>?_⟩⟩
 .exact(R.own k n ds j s).mono p λa g=>e a (acj.mpr ⟨n,LD j,g⟩)
 .obtain⟨v,ev,rv⟩:=R.var i r h;refine⟨v,ev,?_⟩
  cases r with
  |imm d=>exact Den.mono p rv
  |obj k=>exact rv
  | «at» k p=>exact rv
  |new ds=>exact rv
  |newT t=>exact rv
 .obtain⟨o,q,_⟩:=R.mem g;exact⟨o,(e a g).trans q⟩
theorem Rel.at'{K:Kx}{m:MSt}(R:Rel K α m σ H)(p:Pers H H')(e:∀a∈ads α,H' a=H a)(x:Ext K.eb.np K.eb.be K.eb.H α H'):Rel K α m σ H':=by
 refine⟨R.nd,R.len,λk j ds g o=>?_,R.vlen,λi r h=>?_,R.npl,R.ebl,x⟩
 .exact(R.own k j ds g o).mono p λa n=>e a (acj.mpr ⟨j,LD g,n⟩)
 .obtain⟨v,ev,rv⟩:=R.var i r h;refine⟨v,ev,?_⟩
  cases r with
  |imm d=>exact Den.mono p rv
  |obj k=>exact rv
  | «at» k p=>exact rv
  |new ds=>exact rv
  |newT t=>exact rv
theorem bj{a:Addr}{o:HO}(h:H a=none\/∃u,H a=some u/\Mu u=true):Pers H (upd H a o) where
 tups:=λb x e=>by
  rw[av];exact e;rintro rfl;rcases h with h|⟨y,h,z⟩<;>(rw[e]at h;cases h)
  cases z
 frzs:=λb o u e=>by
  rw[av];exact e;rintro rfl;rcases h with h|⟨y,h,z⟩<;>(rw[e]at h;cases h)
  cases z
def xT{a:Addr}{o:HO}(h:H a=some (.lst xs)):Pers H (upd H a o):=bj (.inr ⟨_,h,rfl⟩)
theorem cu{a:Addr}{o:HO}(h:H a=none):Frm α H (upd H a o):=λb d e _=>by
 rw[av (bi e h)];exact e
theorem Rel.lay{K:Kx}{m:MSt}{a:Addr}{o:HO}(R:Rel K α m σ H)(h:H a=none):Rel K α m σ (upd H a o):=
 R.at (bj (.inl h)) (λb d=>av λe=>R.out h (e▸d)) (cu h)
abbrev wImm(w:WE):WE:=λm K=>w m λr e=>match r with| .imm d=>K (.imm d) e | .new ds=>K (.imm (.list ds)) e|_=>False
theorem UV(I:ME X a f):ME X a (wImm f):=(X8 I).wk<|by
 intro M H Q ⟨t,m,L,j,K,i⟩;refine⟨t,m,_,j,K,λr m1 v u k n1 R rr F=>?_⟩
 cases r with
 |imm d=>exact .inl (i _ m1 v u k n1 R rr F)
 |obj _=>exact k.elim
 | «at» _ _=>exact k.elim
 |newT _=>exact k.elim
 | new ds=>
  let⟨p,x,G,n,q,g⟩:=rr;refine .inr ⟨p,x,q,λo=>?_⟩;have z:Pers u (upd u p (.frz o (.lst x))):=xT q;have fr:Frm t H (upd u p (.frz o (.lst x))):=λb y e nb=>by
   rw[av (bi e n)];exact F b y e nb
  have old:Ext X.kx.eb.np t H t _:=⟨rfl,fr,λ_ h=>.inl h,λb s=>by
   have w:b≠p:=λe=>j.out n (e▸s);rw[av w];let⟨E,J,_⟩:=R.mem s;exact⟨E,J⟩⟩
  refine i _ m1 v _ k n1 (R.at' z (λb s=>av λe=>j.out n (e▸s)) (j.ebx.trans old)) (?_) λb y e nb=>?_
  .exact⟨p,x,G,.inl ⟨o,ay⟩,g.mono z⟩
  .rw[av (bi e n)];exact F b y e nb
abbrev wNil:WA:=λm K=>K [] m
abbrev Vp(w:WE)(j:WA):WA:=λm K=>w m λr m1=>j m1 λrs m2=>K (r::rs) m2
theorem RelRs.base{K:Kx}{m:MSt}(d:Rel K α m σ H)(F:Frm α H0 H):∀{rs:List R}{vs:List V},RelRs K α H H' rs vs->RelRs K α H0 H' rs vs
 |_,_,.nil=>.nil
 |_,_,.cons h t=>.cons (h.base d F) (t.base d F)
variable {j:WA}
theorem UX:MA X [] wNil:=(JB).wk<|by intro e H Q ⟨g,m,K,R,h,d⟩;exact d _ m _ H h rfl R .nil (Frm.refl _ _)
theorem Nu(p:ME X a f)(q:MA X l j)(o:aac (a::l) X.env=(false,eval a X.env)::aac l X.env:=by first|exact aH rfl|rfl):MA X (a::l) (Vp f j):=(uA p q o).wk<|by intro u H Q ⟨n,m,K,h,t,g⟩;exact
 ⟨n,m,_,h,t,λr m1 v w k n1 R rr i=>⟨n,m1,_,R,k,λrs m2 vs s k2 n2 e d F=>g _ m2 _ s k2 (n2.trans n1) e (.cons (rr.keep h R F) (d.base R i)) (i.trans F)⟩⟩
def ip:List R->Option (List aD)
 |[]=>some []
 | .imm d::rs=>(ip rs).map (d :: ·)
 |_::_=>none
theorem RelRs.imm{K:Kx}:∀{rs:List R}{vs:List V}{ds:List aD},RelRs K α H0 H rs vs->ip rs=some ds->DenAll K H ds vs
 |_,_,_,.nil,e=>by cases e;exact DenAll.nil
 |_,_,ds,.cons (r:=.imm d) (rs:=rs) h t,e=>by
  simp only[ip]at e
  cases q:ip rs with
  |none=>rw[q]at e;cases e
  |some g=>rw[q]at e;cases e;exact DenAll.cons h (t.imm q)
 |_,_,_,.cons (r:=.obj _) h t,e=>by cases e
 |_,_,_,.cons (r:=.new _) h t,e=>by cases e
 |_,_,_,.cons (r:=.at _ _) h t,e=>by cases e
 |_,_,_,.cons (r:=.newT _) h t,e=>by cases e
def M9(P:List aD->Prop):Option (List aD)->Prop
 |some ds=>ds.length≤aak/\P ds
 |none=>False
abbrev wTup(j:WA):WE:=λm K=>j m λrs d=>M9 (λds=>K (.imm (.tuple ds)) d) (ip rs)
abbrev wLst(j:WA):WE:=λm K=>j m λrs d=>M9 (λds=>K (.new ds) d) (ip rs)
theorem Vc{x1}(h:MA X l j):ME X (.Tuple l x1 pos) (wTup j):=(RE h).wk<|by
 intro s H Q ⟨q,m,K,o,r,i⟩;refine⟨q,m,_,o,r,λrs m1 vs t k n1 R rr F=>?_⟩
 cases e:ip rs with
 |none=>rw[e]at k;exact k.elim
 |some ds=>
  rw[e]at k;let⟨n,k⟩:=k;have g:=rr.imm e;refine⟨by rw[<-g.length];exact n,λp d=>i _ m1 _ _ k n1 (R.lay d) (?_) (F.trans (cu d))⟩;exact⟨p,vs,rfl,SqT.of ay,g.mono (bj (.inl d))⟩
theorem QP(h:MA X l j):ME X (.List l pos) (wLst j):=(Sj h).wk<|by
 intro s H Q ⟨q,m,K,o,r,i⟩;refine⟨q,m,_,o,r,λrs m1 vs t k n1 R rr F=>?_⟩
 cases e:ip rs with
 |none=>rw[e]at k;exact k.elim
 |some ds=>
  rw[e]at k;let⟨n,k⟩:=k;have g:=rr.imm e;refine⟨by rw[<-g.length];exact n,λp d=>i _ m1 _ _ k n1 (R.lay d) ((RelR.base R F (⟨p,vs,rfl,d,ay,g.mono (bj (.inl d))⟩))) (F.trans (cu d))⟩
abbrev WC:=List R->MSt->(R->Prop)->Prop
def cM(K:Kx)(o:WC):List V->Hp->VK->Prop:=λx H Q=>∃d m h i rs g,Rel K d m h H/\RelRs K d i H rs x/\o rs m g/\∀r v e,g r->Rel K d m h e->RelR K d H e r v->Frm d H e->Q v e
abbrev wCB(o:WC)(j:WA):WE:=λm K=>j m λrs m1=>o rs m1 λr=>K r m1
theorem Ku{o:WC}(h:tM X.kx (wCB o j) σ H Q):tCB (cM X.kx o) (tMA X.kx j) σ H Q:=by
 let⟨i,m,K,p,s,g⟩:=h;exact⟨i,m,_,p,s,λrs m1 vs t k n1 R rr n=>⟨i,m1,σ,H,rs,_,R,rr,k,λr v q k e d F=>g r m1 v q k n1 e (d.base R n) (n.trans F)⟩⟩
theorem DN{id:String}{o:WC}(q:dF X (.builtin id) (cM X.kx o))(i:Gl X x)(k:X.mg x=none)(r:aa0 x=some (.builtin id))(m:MA X (a::l) j)(n:x ≠ "__name__":=by decide)(e:(x=='g')=false:=by decide)
  (g:aac (a::l) X.env=(false,eval a X.env)::aac l X.env:=by first|exact aH rfl|rfl) (d:(abq pos (aac l X.env)).any (·.1)=false:=by rfl):ME X (.Call (.Name x p) (a::l) [] pos) (wCB o j):=(w4 q i k r m n e g d).wk λ_ _ _ h=>Ku h
theorem Cf{o:WC}(q:dF X (.type T) (cM X.kx o))(i:Gl X x)(k:X.mg x=none)(r:aa0 x=some (.type T))(m:MA X (a::l) j)(n:x ≠ "__name__":=by decide)(e:(x=='g')=false:=by decide)
  (g:aac (a::l) X.env=(false,eval a X.env)::aac l X.env:=by first|exact aH rfl|rfl) (d:(abq pos (aac l X.env)).any (·.1)=false:=by rfl):ME X (.Call (.Name x p) (a::l) [] pos) (wCB o j):=(Db q i k r m n e g d).wk λ_ _ _ h=>Ku h
end
inductive Ag where
 |imm (d:aD)|own (ds:List aD)|tr (t:aD)
abbrev SpM:=List Ag->(R->List (List aD)->Prop)->Prop
inductive RelAs(K:Kd)(H:Hp):List Ag->List V->Al->Prop where
 |nil:RelAs K H [] [] []
 |imm {d:aD}{v:V}{as:List Ag}{vs:List V}{β:Al}:Den K H d v->RelAs K H as vs β->RelAs K H (.imm d::as) (v::vs) β
 |own {ds:List aD}{a:Addr}{as:List Ag}{vs:List V}{β:Al}:OwnAt K H (.L a) ds->RelAs K H as vs β->RelAs K H (.own ds::as) (.ref a::vs) (.L a::β)
 |tr {t:aD}{a:Addr}{τ:List 'h'}{as:List Ag}{vs:List V}{β:Al}:OwnAt K H (.T τ) [t]->τ.lookup []=some a->RelAs K H as vs β->RelAs K H (.tr t::as) (.ref a::vs) (.T τ::β)
theorem RelAs.length:∀{as:List Ag}{vs:List V}{β:Al},RelAs K H as vs β->as.length=vs.length
 |_,_,_,.nil=>rfl
 |_,_,_,.imm _ t=>by simp[t.length]
 |_,_,_,.own _ t=>by simp[t.length]
 |_,_,_,.tr _ _ t=>by simp[t.length]
structure zT(K:Kd)(H:Hp)(β:Al)(outs:List (List aD)):Prop where
 len:outs.length=β.length
 at_:∀(j:Nat) (ao:Ao) (ds:List aD),β[j]?=some ao->outs[j]?=some ds->OwnAt K H ao ds
def spOf(K:Kd)(n:Nat)(sp:SpM):Sp:=λvs H Q _=>∃c a d,c.length=n/\(ads a).Nodup/\RelAs K H c vs a/\sp c d/\∀r o v b,d r o->zT K b a o->RelR K a H b r v->Frm a H b->Q v b
theorem spOf.len{E:XK}(h:spOf K n sp vs H Q E):vs.length=n:=by
 let⟨c,d,b,a,_,r,_⟩:=h;rw[<-r.length];exact a
def iL(m:MSt):List R->Option (List Ag×List Nat)
 |[]=>some ([],[])
 | .imm d::rs=>match iL m rs with|some (as,ks)=>some (.imm d::as,ks)|none=>none
 | .obj k::rs=>match m.os[k]?,iL m rs with|some ds,some (as,ks)=>some (.own ds::as,k::ks)|_,_=>none
 | .at k []::rs=>match m.os[k]?,iL m rs with|some [t],some (as,ks)=>some (.tr t::as,k::ks)|_,_=>none
 |_::_=>none
def cC:List (List aD)->List Nat->List (List aD)->List (List aD)
 |os,k::ks,o::outs=>cC (os.set k o) ks outs
 |os,_,_=>os
def mapR(ks:List Nat):R->R
 | .imm d=>.imm d
 | .new ds=>.new ds
 | .obj j=>.obj (ks.getD j 0)
 | .at j p=>.at (ks.getD j 0) p
 | .newT t=>.newT t
def BI(sp:SpM)(w:WA):WE:=λm K=>w m λrs m1=>match iL m1 rs with
 |some (as,ks)=>ks.Nodup/\sp as λr o=>K (mapR ks r) {m1 with os:=cC m1.os ks o}
 |none=>False
theorem jP:∀(ks:List Nat) (os a:List (List aD)),(cC os ks a).length=os.length
 |[],_,_=>by simp[cC]
 |_::_,_,[]=>by simp[cC]
 |k::ks,os,o::a=>by simp[cC,jP ks]
theorem jN:∀(ks:List Nat) (os a:List (List aD)) (k:Nat),k∉ks->(cC os ks a)[k]?=os[k]?
 |[],_,_,_,_=>by simp[cC]
 |_::_,_,[],_,_=>by simp[cC]
 |k'::ks,os,o::a,k,h=>by
  rw[aag]at h;rw[not_or]at h;show(cC _ ks a)[k]?=_;rw[jN ks _ _ k h.2,aaS (abH h.1)]
theorem tq:∀(ks:List Nat) (os a:List (List aD)) (j k:Nat) (ds:List aD),ks.Nodup->ks[j]?=some k->a[j]?=some ds->k<os.length->(cC os ks a)[k]?=some ds
 |[],_,_,_,_,_,_,h,_,_=>by simp at h
 |_::_,_,[],_,_,_,_,_,h,_=>by simp at h
 |k'::ks,os,o::a,0,k,ds,nd,h1,h2,hk=>by
  simp at h1 h2;subst h1;subst h2;show(cC _ ks a)[k']?=_;rw[jN ks _ _ k' (abe.mp nd).1,aa3 hk]
 |k'::ks,os,o::a,j+1,k,ds,nd,h1,h2,hk=>by
  exact tq ks _ a j k ds (abe.mp nd).2 ‹_› ‹_› (by simpa)
def fE(c:Al):(ads c).Nodup↔(∀ao∈c,ao.ads.Nodup)/\c.Pairwise λx y=>∀a∈x.ads,∀b∈y.ads,a≠b:=List.pairwise_flatMap
theorem gL(nd:(ads α).Nodup){x y:Ao}(f:α[i]?=some x)(g:α[j]?=some y)(h:i≠j)(e:a∈x.ads)(d:a∈y.ads):False:=by
 have c:=((fE α).mp nd).2;let⟨p,q⟩:=AD.mp f;let⟨b,k⟩:=AD.mp g;subst q k;rcases Nat.lt_or_gt_of_ne h with l|l
 .exact adG.mp c i j p b l a e a d rfl
 .exact adG.mp c j i b p l a d a e rfl
def j5{x:Ao}(b:α[i]?=some x)(h:a∈x.ads):a∈ads α:=acj.mpr ⟨x,LD b,h⟩
theorem ja(h:a∈ads α):∃(i:Nat) (x:Ao),α[i]?=some x/\a∈x.ads:=by
 let⟨c,b,d⟩:=acj.mp h;let⟨k,hk,e⟩:=ab3.mp b;exact⟨k,c,by rw[lD hk,e],d⟩
section
variable {K:Kx}{c:Al}{m:MSt}{g:St}{H l f:Hp}
theorem gA(b:Rel K c m g H):∀{rs:List R}{vs:List V}{as:List Ag}{ks:List Nat},RelRs K c l H rs vs->iL m rs=some (as,ks)->∃β,RelAs K H as vs β/\abQ (λ(k:Nat) (ao:Ao)=>c[k]?=some ao) ks β
 |_,_,_,_,.nil,e=>by cases e;exact⟨[],.nil,.nil⟩
 | _,_,as,ks,.cons (r:=.imm d) (rs:=rs) h t,e=>by
  simp only[iL]at e
  cases q:iL m rs with
  |none=>rw[q]at e;cases e
  |some p=>
   rw[q]at e;cases e;let⟨β,i,n⟩:=gA b t q;exact⟨β,.imm h i,n⟩
 | _,_,as,ks,.cons (r:=.obj k) (rs:=rs) h t,e=>by
  simp only[iL]at e
  cases q1:m.os[k]? with
  |none=>rw[q1]at e;cases e
  | some ds=>
   cases q:iL m rs with
   |none=>rw[q1,q]at e;cases e
   |some p=>
    let⟨s,o⟩:=p;rw[q1,q]at e;cases e;let⟨β,i,n⟩:=gA b t q;let⟨a,j,rfl⟩:=h;exact⟨.L a::β,.own (b.own k _ ds j q1) i,.cons j n⟩
 |_,_,as,ks,.cons (r:=.at k []) (rs:=rs) h t,e=>by
  simp only[iL]at e
  split at e
  .rename_i t' s o q1 q;cases e;let⟨β,i,n⟩:=gA b t q;let⟨u,a,j,v,rfl⟩:=h;exact⟨.T u::β,.tr (b.own k _ _ j q1) v i,.cons j n⟩
  .cases e
 |_,_,_,_,.cons (r:=.at _ (_::_)) h t,e=>by cases e
 |_,_,_,_,.cons (r:=.new _) h t,e=>by cases e
 |_,_,_,_,.cons (r:=.newT _) h t,e=>by cases e
theorem dW(nd:(ads c).Nodup)(h:ks.Nodup)(p:abQ (λ(k:Nat) (ao:Ao)=>c[k]?=some ao) ks β):(ads β).Nodup:=by
 have one:=((fE c).mp nd).1
 induction p with
 |nil=>exact abV
 | @cons k ao ks β e t ih=>
  have d:=ih (abe.mp h).2;rw[fE]at d⊢;refine⟨λx n=>?_,acH.mpr ⟨λy r a v b s z=>?_,d.2⟩⟩
  .rcases aag.mp n with rfl|n
   .exact one _ (LD e)
   .exact d.1 x n
  .subst z;let⟨j,A,ej⟩:=ab3.mp r;let⟨w,q,o⟩:=Paired.get2 t (i:=j) (b:=y) (by simp_all);have u:=Classical.byContradiction λne=>gL nd e o ne v s;exact(abe.mp h).1 (u▸LD q)
theorem xR(R:Rel K c m g H){s:List (List aD)}(nd:ks.Nodup)(p:abQ (λ(k:Nat) (ao:Ao)=>c[k]?=some ao) ks β)(O:zT K f β s)(F:Frm β H f) :
  Rel K c {m with os:=cC m.os ks s} g f/\Frm c H f:=by
 have C:∀a∈ads β,∃k ao,k∈ks/\c[k]?=some ao/\a∈ao.ads:=λa B=>by
  let⟨j,ao,ej,u⟩:=ja B;let⟨S,w,D⟩:=Paired.get2 p ej;exact⟨S,ao,LD w,D,u⟩
 have A:Frm c H f:=λb o e n=>F b o e λz=>by
  let⟨k,ao,_,D,u⟩:=C b z;exact n (j5 D u)
 have L:=R.pers A;have y:∀(k:Nat) (ao:Ao) (ds:List aD),c[k]?=some ao->(cC m.os ks s)[k]?=some ds->OwnAt K f ao ds:=λk ao ds w x=>by
  have hk:k<m.os.length:=by rw[<-R.len];exact(AD.mp w).1
  by_cases u:k∈ks
  .obtain⟨j,hj,ej⟩:=ab3.mp u;have M:ks[j]?=some k:=by rw[lD hj,ej]
   let⟨V,J,N⟩:=Paired.get' p M;rw[w]at N;cases N;have G:j<s.length:=by rw[O.len];exact(AD.mp J).1
   have Q:s[j]?=some s[j]:=lD G;rw[tq ks m.os s j k _ nd M Q hk]at x;cases x;exact O.at_ j _ _ J Q
  .rw[jN ks _ _ k u]at x;have q:=R.own k ao ds w x;refine q.mono L λa B=>?_;let⟨o,P,_⟩:=q.mem B;rw[P];refine F a o P λz=>?_;let⟨k2,U,E,T,I⟩:=C a z;exact gL R.nd w T (λz=>u (z▸E)) B I
 refine⟨⟨R.nd,by show c.length=(cC m.os ks s).length;rw[jP];exact R.len,y,R.vlen,λi r h=>?_,R.npl,R.ebl,R.ebx.trans ⟨rfl,A,λ_ h=>.inl h,λa B=>?_⟩⟩,A⟩
 .obtain⟨v,ev,rv⟩:=R.var i r h;refine⟨v,ev,?_⟩
  cases r with
  |imm d=>exact Den.mono L rv
  |obj k=>exact rv
  | «at» k p=>exact rv
  |new ds=>exact rv
  |newT t=>exact rv
 .obtain⟨k,ao,w,u⟩:=ja B;have hk:k<(cC m.os ks s).length:=by rw[jP,<-R.len];exact(AD.mp w).1
  let⟨o,q,_⟩:=(y k ao _ w (lD hk)).mem u;exact⟨o,q⟩
theorem vK{K:Kd}(p:abQ (λ(k:Nat) (ao:Ao)=>c[k]?=some ao) ks β)(h:RelR K β H f r v):RelR K c H f (mapR ks r) v:=by
 have get:∀{j:Nat}{ao:Ao},β[j]?=some ao->c[ks.getD j 0]?=some ao:=λ{j ao} b=>by
  let⟨k,o,z⟩:=Paired.get2 p b
  simp_all
 cases r with
 |imm d=>exact h
 |new ds=>exact h
 |newT t=>exact h
 |obj j=>
  let⟨a,b,e⟩:=h;exact⟨a,get b,e⟩
 | «at» j q=>
  let⟨i,a,b,n,e⟩:=h;exact⟨i,a,get b,n,e⟩
end
section
variable {X:Cx}{a:Expr}{b:List Expr}{w:WA}{pos p:Pos}{k n:Nat}{f:Addr}{fd:ab8}{ps:List Str}{sp:SpM}{x:Str}{CX:CXT}
theorem N6{E:XK}(h:tM X.kx (BI sp w) σ H Q)(G:∀as K,sp as K->as.length=n):T8 (spOf X.kd n sp) [] E (tMA X.kx w) σ H Q:=by
 let⟨B,m,K,u,D,o⟩:=h;refine⟨B,m,_,u,D,λrs m1 vs J d n1 R rr t=>?_⟩
 cases e:iL m1 rs with
 |none=>rw[e]at d;exact d.elim
 |some q=>
  let⟨as,I⟩:=q;rw[e]at d;let⟨nd,c⟩:=d;let⟨z,y,j⟩:=gA R rr e;refine⟨as,z,_,G _ _ c,dW R.nd nd j,by rw[aa5];exact y,c,λr s v C g O i F=>?_⟩;let⟨l,A⟩:=xR R nd j O F;exact o _ _ v C g n1 l ((vK j i).base R t) (t.trans A)
theorem OO{E:XK}(F:FnOk X.prog X.w X.K X.mg X.base CX k f fd ps (spOf X.kd n sp))(g:Room k X.A)(j:Gl X x)(l:X.mg x=some (.ref f))(hk:abT X.K (.ref f)=true)(i:Binds X.K fd ps [])(q:j6 CX X E)(o:∀as K,sp as K->as.length=n)
  (m:MA X (a::b) w) (d:(x=='g')=false:=by decide) (e:aac (a::b) X.env=(false,eval a X.env)::aac b X.env:=by first|exact aH rfl|rfl) (c:(abq pos (aac b X.env)).any (·.1)=false:=by rfl) :
  ME X (.Call (.Name x p) (a::b) [] pos) (BI sp w):=(Mx F g j l hk i .nil q m d e c).wk λ_ _ _ h=>N6 h o
end
structure de where
 nx:MSt->Prop
 rt:R->MSt->Prop
 bk:MSt->Prop:=λ_=>False
 ct:MSt->Prop:=λ_=>False
abbrev WS:=de->MSt->Prop
theorem RelR.ext{np:Nat}{c:Al}(x:Ext np α H α1 H1)(h:RelR K c H1 H2 r v):RelR K c H H2 r v:=by
 cases r with
 |imm d=>exact h
 |obj k=>exact h
 | «at» k p=>exact h
 |new ds=>
  let⟨a,f,e,n,q,g⟩:=h;exact⟨a,f,e,x.nil n,q,g⟩
 |newT t=>
  let⟨l,a,e,i,nd,n,g⟩:=h;exact⟨l,a,e,i,nd,λb j=>x.nil (n b j),g⟩
structure EndsOk(K:Kx)(np:Nat)(α:Al)(H:Hp)(De:de)(D:Ends):Prop where
 nx:∀α' m' σ' H',De.nx m'->m'.np=np->Rel K α' m' σ' H'->Ext np α H α' H'->D.nx σ' H'
 rt:∀r α' m' σ' v H',De.rt r m'->m'.np=np->Rel K α' m' σ' H'->RelR K α' H H' r v->Ext np α H α' H'->D.rt v H'
 bk:∀α' m' σ' H',De.bk m'->m'.np=np->Rel K α' m' σ' H'->Ext np α H α' H'->D.bk σ' H'
 ct:∀α' m' σ' H',De.ct m'->m'.np=np->Rel K α' m' σ' H'->Ext np α H α' H'->D.ct σ' H'
theorem EndsOk.ext{K:Kx}{np:Nat}(h:EndsOk K np α H De D)(x:Ext np α H α1 H1):EndsOk K np α1 H1 De D where
 nx:=λb m a c k n R y=>h.nx b m a c k n R (x.trans y)
 rt:=λr b m a v c k n R rr y=>h.rt r b m a v c k n R (rr.ext x) (x.trans y)
 bk:=λb m a c k n R y=>h.bk b m a c k n R (x.trans y)
 ct:=λb m a c k n R y=>h.ct b m a c k n R (x.trans y)
def tMS(K:Kx)(w:WS):TS:=λD c H=>∃b m a,Rel K b m c H/\w a m/\EndsOk K m.np b H a D
abbrev MS(X:Cx)(st:Stmt)(w:WS):Prop:=PS X st (tMS X.kx w)
abbrev MSs(X:Cx)(st:List Stmt)(w:WS):Prop:=PSs X st (tMS X.kx w)
section
variable {X:Cx}{a b c e:Expr}{d:List Expr}{f g i j:WE}{pos:Pos}{st:Stmt}{rest:List Stmt}{w u:WS}
abbrev UM:WS:=λD m=>D.nx m
abbrev wSeq(w u:WS):WS:=λD m=>w {D with nx:=λh=>u D h } m
theorem O3:MSs X [] UM:=(Ll).wk<|by intro D l H ⟨n,m,o,R,h,k⟩;exact k.nx n m l H h rfl R (.of R (Frm.refl _ _))
theorem D5(t:MS X st w)(x:MSs X rest u):MSs X (st::rest) (wSeq w u):=(vJ t x).wk<|by intro D A H ⟨s,m,l,o,v,k⟩;exact
 ⟨s,m,_,o,v,⟨λh r p z q n R y=>⟨h,r,l,R,q,by rw[n];exact k.ext y⟩,k.rt,k.bk,k.ct⟩⟩
theorem KL(k:MS X st w):MSs X [st] w:=(KG k).wk λD l H h=>h
end
section
variable {X:Cx}{a b c e:Expr}{es:List Expr}{wa wb wc we:WE}{ws:WA}{wt:WT}{pos:Pos}{st:Stmt}{rest body body2:List Stmt}{w u:WS}
abbrev wRet(we:WE):WS:=λD m=>we m λr d=>D.rt r d
theorem Qz(h:ME X e we):MS X (.Return (some e) pos) (wRet we):=(Vn h).wk<|by intro D l H ⟨d,m,o,f,j,k⟩;exact
 ⟨d,m,_,f,j,λr g v i q n R rr F=>k.rt r d g l v i q n R rr (.of R F)⟩
abbrev Sv(we:WE):WS:=λD m=>we m λ_ d=>D.nx d
theorem NG(i:ME X e we)(h:abG e none pos.line X.env=pure false:=by rfl):MS X (.Expr e pos) (Sv we):=(Kz i h).wk<|by intro D o H ⟨d,m,p,f,l,k⟩;exact
 ⟨d,m,_,f,l,λr g v j q n R rr F=>k.nx d g o j q n R (.of R F)⟩
abbrev wIfS(t:WT)(w u:WS):WS:=λD m=>t m λc d=>if c=true then w D d else u D d
theorem Wz(i:MT X t wt)(l:MSs X body w)(s:MSs X body2 u):MS X (.If t body body2 pos) (wIfS wt w u):=(WZ i l s).wk<|by
 intro D v H ⟨d,m,f,j,r,k⟩;refine⟨d,m,_,j,r,λo g p q n R F=>?_⟩;have h:EndsOk X.kx g.np d p f D:=by rw[n];exact k.ext (.of R F)
 cases o with
 |true=>rw[if_pos rfl]at q;exact iteT ⟨d,g,f,R,q,h⟩
 |false=>rw[if_neg aan]at q;exact iteF ⟨d,g,f,R,q,h⟩
def JU:WS:=λ_ _=>False
theorem IZ:MS X st JU:=(DT).wk<|by intro D f H ⟨g,m,d,R,h,k⟩;exact h
def MSt.setV(m:MSt)(i:Nat)(r:R):MSt:={m with vs:=m.vs.set i (some r)}
def RenR(f:List Nat)(o:Option (Option R)):R->Prop
 | .imm d=>o=some (~~~d)
 | .obj k=>∃j,f[k]?=some j/\o=some (some (.obj j))
 | .at k p=>∃j,f[k]?=some j/\o=some (some (.at j p))
 | .new _=>False
 | .newT _=>False
structure Ren(ρ:List Nat)(m m2:MSt):Prop where
 nd:ρ.Nodup
 lt:∀k∈ρ,k<m.os.length
 pre:ρ.take m.np=aaz m.np
 npl:m.np≤ρ.length
 os:m2.os=ρ.map λk=>m.os.getD k []
 np:m2.np=m.np
 vl:m2.vs.length=m.vs.length
 vs:∀(j:Nat) (r:R),m2.vs[j]?=some (some r)->RenR ρ m.vs[j]? r
def upR(D:MSt->Prop)(m:MSt):Prop:=D m\/∃d m2,Ren d m m2/\D m2
def qI(i:Nat)(D:MSt->Prop)(m:MSt):R->Prop
 | .imm d=>upR D (m.setV i (.imm d))
 | .obj k=>upR D (m.setV i (.obj k))
 | .at k p=>upR D (m.setV i (.at k p))
 | .new ds=>upR D {vs:=m.vs.set i (some (.obj m.os.length)),os:=m.os++[ds],np:=m.np} \/
   ∃k,m.vs[i]?=some (some (.obj k))/\m.np≤k/\(∀j:Nat,j≠i->m.vs[j]?≠some (some (.obj k)))/\D {m with os:=m.os.set k ds}
 | .newT t=>upR D {vs:=m.vs.set i (some (.at m.os.length [])),os:=m.os++[[t]],np:=m.np}
theorem il{d:Al}{n:Nat}(g:d.length=n):∀{f:List Nat},(∀k∈f,k<n)->abQ (λ(k:Nat) (ao:Ao)=>d[k]?=some ao) f (f.map λk=>d.getD k (.L 0))
 |[],_=>.nil
 | k::f,h=>.cons (by
   have hk:k<d.length:=by rw[g];exact h k aah
   show d[k]?=some (d.getD k _);rw[aas,lD hk];rfl) (il g λj i=>h j (aaf _ i))
theorem KM{K:Kx}{m m2:MSt}{g:List Nat}(R:Rel K α m σ H)(N:Ren g m m2):∃t,Rel K t m2 σ H/\Ext m.np α H t H:=by
 have B:=il R.len N.lt;have get:∀(k:Nat) (f:Ao),(g.map λk=>α.getD k (.L 0))[k]?=some f->∃j:Nat,g[k]?=some j/\α[j]?=some f:=λk f z=>by
  let⟨j,U,M⟩:=Paired.get2 B z;exact⟨j,U,M⟩
 have i:∀(k j:Nat) (f:Ao),g[k]?=some j->α[j]?=some f->(g.map λk=>α.getD k (.L 0))[k]?=some f:=λk j f G A=>by
  let⟨S,V,I⟩:=Paired.get' B G;rw[A]at I;cases I;exact V
 have x:(g.map λk=>α.getD k (.L 0)).take m.np=α.take m.np:=by
  apply ab9;intro l;rw[aaR,aaR]
  by_cases n:l<m.np
  .rw[if_pos n,if_pos n];have:g[l]?=some l:=by
    have e:=congrArg (·[l]?) N.pre;simp only[aaR,if_pos n]at e;rw[e,ace n]
   have s:l<α.length:=aau n R.npl;rw[i l l α[l] this (lD s),lD s]
  .rw[if_neg n,if_neg n]
 have ext:Ext m.np α H (g.map λk=>α.getD k (.L 0)) H:=⟨x,Frm.refl _ _,λa F=>by
  let⟨k,f,P,O⟩:=ja F;let⟨j,_,J⟩:=get k f P;exact .inl (j5 J O),λa F=>by
  let⟨o,q,_⟩:=R.mem F;exact⟨_,q⟩⟩
 refine⟨g.map λk=>α.getD k (.L 0),⟨dW R.nd N.nd B,?_,λk f ds G A=>?_,?_,λj r z=>?_,?_,by rw[N.np];exact R.ebl,R.ebx.trans (ext.less R.ebl)⟩,ext⟩
 .rw[N.os,iO,iO]
 .obtain⟨j,q,qa⟩:=get k f G;rw[N.os,aaj,q]at A;have L:j<m.os.length:=N.lt j (LD q);have E:m.os.getD j []=ds:=aaA A;refine R.own j f ds qa ?_;rw[<-E,aas,lD L];rfl
 .rw[N.vl];exact R.vlen
 .have h:=N.vs j r z
  cases r with
  |imm d=>exact R.var j (.imm d) h
  |new _=>exact h.elim
  |newT _=>exact h.elim
  |obj k=>
   let⟨y,q,h⟩:=h;let⟨v,C,a,D,e⟩:=R.var j (.obj y) h;exact⟨v,C,a,i k y _ q D,e⟩
  | «at» k p=>
   let⟨y,q,h⟩:=h;let⟨v,C,Q,a,D,T,e⟩:=R.var j (.at y p) h;exact⟨v,C,Q,a,i k y _ q D,T,e⟩
 .rw[N.np,iO];exact N.npl
abbrev wSet(i:Nat)(we:WE):WS:=λD m=>we m λr d=>qI i D.nx d r
theorem cp{K:Kx}{m:MSt}(R:Rel K α m σ H)(h:RelS K α H r v):Rel K α (m.setV i r) (σ.set i (some v)) H:=by
 refine⟨R.nd,R.len,R.own,?_,λj g e=>?_,R.npl,R.ebl,R.ebx⟩
 .show(σ.set i _).length=(m.vs.set i _).length;rw[abj,abj];exact R.vlen
 .have e':(m.vs.set i (some r))[j]?=some _:=e
  by_cases d:i=j
  .subst d
   by_cases f:i<m.vs.length
   .rw[aa3 f]at e';cases e';exact⟨v,aa3 (by rw[R.vlen];exact f),h⟩
   .simp_all
  .rw[aaS d]at e'⊢;exact R.var j g e'
theorem qJ{K:Kx}{m:MSt}(R:Rel K α m σ H)(E:∃B f,Rel K α B f H0)(F:Frm α H0 H)(nd:ao.ads.Nodup)(C:∀b∈ao.ads,H0 b=none)(g:OwnAt K H ao ds) :
  Rel K (α++[ao]) {m with os:=m.os++[ds]} σ H/\∀np,np≤α.length->Ext np α H0 (α++[ao]) H:=by
 let⟨B,f,n⟩:=E;have s:∀b∈ao.ads,b∉ads α:=λb G=>n.out (C b G);have one:ads [ao]=ao.ads:=by simp[ads]
 have ext:∀np,np≤α.length->Ext np α H0 (α++[ao]) H:=λnp t=>⟨by rw[List.take_append_of_le_length t],F,λa r=>by
  rw[jE,one]at r;rcases aaV.mp r with z|z
  .exact .inl z
  .exact .inr (C a z),λa r=>by
  let⟨o,q,_⟩:=R.mem r;exact⟨_,q⟩⟩
 refine⟨⟨?_,by simp[R.len],λk a es l L=>?_,R.vlen,λj A z=>?_,by have:=R.npl;show m.np≤(α++[ao]).length;rw[aao];omega,R.ebl,n.ebx.trans (ext _ ?_)⟩,ext⟩
 .rw[jE,one];exact acR.mpr ⟨R.nd,nd,λx J y D e=>s y D (e▸J)⟩
 .have z2':(m.os++[ds])[k]?=some es:=L
  by_cases hk:k<α.length
  .rw[aaE hk]at l;rw[aaE (by rw[<-R.len];exact hk)]at z2';exact R.own k a es l z2'
  .rw[aaP ∅]at l;rw[aaP (by rw[<-R.len];omega)]at z2';have h:k-α.length=0:=by
    have:=(AD.mp l).1;simp at this;omega
   rw[h]at l;rw[<-R.len,h]at z2'
   simp_all
 .obtain⟨v,ev,rv⟩:=R.var j A z;refine⟨v,ev,?_⟩
  cases A with
  |imm d=>exact rv
  |new _=>exact rv
  |newT _=>exact rv
  |obj k=>
   let⟨a,i,e⟩:=rv;exact⟨a,by rw[aaE (AD.mp i).1];exact i,e⟩
  | «at» k p=>
   let⟨I,a,i,e⟩:=rv;exact⟨I,a,by rw[aaE (AD.mp i).1];exact i,e⟩
 .exact aaw R.ebl R.npl
theorem vv{K:Kx}{m:MSt}{Q:St->Hp->Prop}{np:Nat}(f:Rel K α m σ H)(n:m.np=np)(F:Frm α H0 H)(h:RelR K α H0 H r v)(q:qI i P m r)
  (k:∀A E s D,P E->E.np=np->Rel K A E s D->Ext np α H0 A D->Q s D) (R0:∃m0 V,Rel K α m0 V H0):Q (σ.set i (some v)) H:=by
 have T:∀A E s D,upR P E->E.np=np->Rel K A E s D->Ext np α H0 A D->Q s D:=λA E s D q n R x=>by
  rcases q with q|⟨ρ,m2,N,q⟩
  .exact k A E s D q n R x
  .obtain⟨α2,R2,x2⟩:=KM R N;rw[n]at x2;exact k α2 m2 s D q (N.np.trans n) R2 (x.trans x2)
 have J:np≤α.length:=by rw[<-n];exact f.npl
 cases r with
 |imm d=>exact T α _ _ H q n (cp f (r:=.imm d) h) (.of (cp (i:=i) f (r:=.imm d) h) F)
 |obj j=>exact T α _ _ H q n (cp f (r:=.obj j) h) (.of (cp (i:=i) f (r:=.obj j) h) F)
 | «at» j p=>exact T α _ _ H q n (cp f (r:=.at j p) h) (.of (cp (i:=i) f (r:=.at j p) h) F)
 |newT t=>
  let⟨S,p,rfl,M,nd,Y,g⟩:=h;let⟨base,ext⟩:=qJ f R0 F (ao:=.T S) nd Y g;exact T (α++[.T S]) _ _ H q n (cp base (r:=.at m.os.length []) ⟨S,p,by rw[aaP (by rw[f.len];exact aab _),<-f.len];simp,M,rfl⟩) (ext np J)
 | new ds=>
  let⟨p,xs,rfl,Y,hp,g⟩:=h;have R0':=R0;let⟨m0,V,W⟩:=R0';have O:p∉ads α:=W.out Y;rcases q with q|⟨j,e1,e2,e3,q⟩
  .
   let⟨base,ext⟩:=qJ f R0 F (ao:=.L p) (by simp[Ao.ads]) (λb I=>by cases aad.mp I;exact Y) ⟨xs,hp,g⟩;exact T (α++[.L p]) _ _ H q n (cp base (r:=.obj m.os.length) ⟨p,by rw[aaP (by rw[f.len];exact aab _),<-f.len];simp,rfl⟩) (ext np J)
  .
   let⟨aj,U⟩:∃aj,α[j]?=some (.L aj):=by
    let⟨v,_,a,L,_⟩:=f.var i _ e1;exact⟨a,L⟩
   have hj:j<α.length:=(AD.mp U).1;have hi:i<m.vs.length:=(AD.mp e1).1;have ndS:(ads (α.set j (.L p))).Nodup:=by
    have z:=(fE α).mp f.nd;rw[fE];refine⟨λao B=>?_,adG.mpr λi1 i2 h1 h2 hlt a B b I e=>?_⟩
    .rcases afr B with y|y
     .exact z.1 ao y
     .subst y;simp[Ao.ads]
    .subst e;rw[abj]at h1 h2;have mem:∀(l:Nat) (C:l<α.length),a∈(α[l]).ads->a∈ads α:=λl C h=>j5 (lD C) h
     by_cases G:j=i1
     .subst G;rw[ags]at B;rw[adK (by exact aa2 ‹_›)]at I
      cases aad.mp B
      exact O (mem i2 h2 I)
     .rw[adK G]at B
      by_cases c2:j=i2
      .subst c2;rw[ags]at I
       cases aad.mp I
       exact O (mem i1 h1 B)
      .rw[adK c2]at I;exact gL f.nd (lD h1) (lD h2) (aa2 hlt) B I
   have ext:Ext np α H0 (α.set j (.L p)) H:=by
    refine⟨?_,F,λa B=>?_,λa B=>?_⟩
    .apply ab9;intro l;rw[aaR,aaR]
     by_cases C:l<np
     .rw[if_pos C,if_pos C,aaS ∅]
     .rw[if_neg C,if_neg C]
    .obtain⟨l,ao,M,hm⟩:=ja B
     by_cases G:j=l
     .subst G;rw[aa3 hj]at M;cases M
      cases aad.mp hm
      exact .inr Y
     .rw[aaS G]at M;exact .inl (j5 M hm)
    .obtain⟨o,q,_⟩:=f.mem B;exact⟨_,q⟩
   have Rl':Rel K (α.set j (.L p)) {m with os:=m.os.set j ds} (σ.set i (some (.ref p))) H:=by
    refine⟨ndS,by simp[f.len],λk a es Z z2=>?_,by rw[abj];exact f.vlen,λl r' z=>?_,by rw[abj];exact f.npl,f.ebl,W.ebx.trans (ext.less (by have:=f.ebl;omega))⟩
    .have z2':(m.os.set j ds)[k]?=some es:=z2
     by_cases G:j=k
     .subst G;rw[aa3 hj]at Z;rw[aa3 (by rw[<-f.len];exact hj)]at z2'
      cases Z;cases z2'
      exact⟨xs,hp,g⟩
     .rw[aaS G]at Z z2';exact f.own k a es Z z2'
    .have z':m.vs[l]?=some (some r'):=z
     by_cases C:i=l
     .subst C;rw[e1]at z';cases z';exact⟨.ref p,aa3 (by rw[f.vlen];exact hi),p,aa3 hj,rfl⟩
     .obtain⟨v,ev,rv⟩:=f.var l r' z';refine⟨v,by rw[aaS C];exact ev,?_⟩
      cases r' with
      |imm d=>exact rv
      |new _=>exact rv
      |newT _=>exact rv
      |obj k=>
       let⟨a,L,e⟩:=rv;refine⟨a,?_,e⟩;rw[aaS]
       .exact L
       .rintro rfl;exact e3 l (abH C) z'
      | «at» k p'=>
       let⟨S,a,L,e⟩:=rv;refine⟨S,a,?_,e⟩;rw[aaS]
       .exact L
       .rintro rfl;rw[U]at L;cases L
   exact k (α.set j (.L p)) _ _ H q n Rl' ext
theorem QW{p:Pos}(h:X.N.Nodup)(f:X.N[i]?=some x)(t:Loc X.env.scope x)(l:ME X e we)(g:abG e (some (.Name x p)) pos.line X.env=pure false:=by rfl)(j:X.fn x=true\/X.env.scope.names.lookup x=some .local:=by first|exact .inl rfl|exact .inr rfl|assumption) :
  MS X (.Assign [.Name x p] e pos) (wSet i we):=(U5 h f t l g j).wk<|by intro D s H ⟨y,m,z,d,o,k⟩;exact
 ⟨y,m,_,d,o,λr B v A q n R rr F=>vv R n F rr q k.nx ⟨m,s,d⟩⟩
abbrev WG:=aD->MSt->(MSt->Prop)->Prop
abbrev WGs:=List aD->MSt->(MSt->Prop)->Prop
def tMG(K:Kx)(g:WG):TG:=λv k H Q=>∃j m d i,Rel K j m k H/\Den K H d v/\g d m i/\∀h f,i h->h.np=m.np->Rel K j h f H->Q f H
def tMGs(K:Kx)(g:WGs):TGs:=λvs j H Q=>∃i m ds h,Rel K i m j H/\DenAll K H ds vs/\g ds m h/\∀f d,h f->f.np=m.np->Rel K i f d H->Q d H
theorem PG.wk{X:Cx}{e:Expr}{t t':TG}(h:PG X e t)(k:∀v d H Q,t' v d H Q->t v d H Q):PG X e t':=λp s d H v u Q I r q=>h p s d H v u Q I r (k _ _ _ _ q)
theorem PGs.wk{X:Cx}{e:List Expr}{t t':TGs}(h:PGs X e t)(k:∀v d H Q,t' v d H Q->t v d H Q):PGs X e t':=λp s d H v u Q I r q=>h p s d H v u Q I r (k _ _ _ _ q)
abbrev MG(X:Cx)(e:Expr)(g:WG):Prop:=PG X e (tMG X.kx g)
abbrev MGs(X:Cx)(es:List Expr)(g:WGs):Prop:=PGs X es (tMGs X.kx g)
abbrev gM(i:Nat):WG:=λd m K=>K (m.setV i (.imm d))
def PQ:WGs:=λds m K=>ds=[]/\K m
abbrev zy(g:WG)(f:WGs):WGs:=λds m K=>match ds with|d::r=>g d m λh=>f r h K|[]=>False
def NQ(n:Nat)(g:WGs):WG:=λd m K=>match d with| .tuple ds=>ds.length=n/\g ds m K|_=>False
theorem Qc(h:X.N.Nodup)(j:X.N[i]?=some x)(l:Loc X.env.scope x)(k:X.fn x=true\/X.env.scope.names.lookup x=some .local:=by first|exact .inl rfl|exact .inr rfl|assumption):MG X (.Name x pos) (gM i):=(Ol h j l k).wk λv n H Q ⟨o,m,d,K,R,hd,g,f⟩=>
 f _ _ g rfl (cp R hd)
theorem Mn:MGs X [] PQ:=(Md).wk<|by
 intro v g H Q ⟨i,m,d,K,R,hd,h,f⟩;let⟨rfl,h⟩:=h;exact⟨hd,f m g h rfl R⟩
theorem Iu{e:Expr}{es:List Expr}(p:MG X e g)(B:MGs X es gs)
  (t:(abZ (e::es) X.env).map (·.2)=afC e X.env::(abZ es X.env).map (·.2):=by rfl):MGs X (e::es) (zy g gs):=(GL p B t).wk<|by
 intro v C H Q ⟨l,m,ds,K,y,hd,j,h⟩
 cases ds with
 |nil=>exact j.elim
 |cons d r=>
  let⟨x,q,rfl,o,s⟩:=hd;exact⟨x,q,rfl,l,m,d,_,y,o,j,λA z k n R=>⟨l,A,r,_,R,s,k,λm2 f k2 n2 i=>h m2 f k2 (n2.trans n) i⟩⟩
theorem SY{es:List Expr}{k:Nat}(h:MGs X es gs)(o:X.calm=true:=by rfl)
  (q:(abZ es X.env).length=n:=by rfl) (j:(abZ es X.env).findIdx? (·.1)=none:=by rfl):MG X (.Tuple es k pos) (NQ n gs):=(QJ o h q j).wk<|by
 intro v r H Q ⟨p,m,d,K,R,hd,i,l⟩
 cases d with
 |tuple ds=>
  let⟨a,x,e,f,g⟩:=hd;exact⟨a,x,e,f,g.length.symm.trans i.1,p,m,ds,K,R,g,i.2,l⟩
 |none=>exact i.elim
 |bool _=>exact i.elim
 |int _=>exact i.elim
 |str _=>exact i.elim
 |list _=>exact i.elim
 |dict _=>exact i.elim
abbrev kq(P:aD->Prop):R->Prop
 | .imm d=>P d
 |_=>False
theorem gj{K:Kx}{P:aD->Prop}(rr:RelR K α Hb H r v)(h:kq P r):∃d,r = .imm d/\Den K H d v/\P d:=by
 cases r with
 |imm d=>exact⟨d,rfl,rr,h⟩
 |obj _=>exact h.elim
 |new _=>exact h.elim
 | «at» _ _=>exact h.elim
 |newT _=>exact h.elim
abbrev wAsg(we:WE)(g:WG):WS:=λD m=>we m λr f=>kq (λd=>g d f D.nx) r
theorem Qr(p:ME X e we)(x:MG X tg g)(o:adO [tg] e pos.line X.env=pure false:=by rfl)(h:adP [tg] e X.env=pure none:=by rfl)
  (l:(abZ [tg] X.env).map (·.2)=[afC tg X.env]:=by rfl):MS X (.Assign [tg] e pos) (wAsg we g):=(Uz p x o h l).wk<|by
 intro D C H ⟨j,m,A,t,h,k⟩;refine⟨j,m,_,t,h,λr y v s q n i rr F=>?_⟩;let⟨d,B,hd,q⟩:=gj rr q;exact⟨j,y,d,_,i,hd,q,λm2 f z n2 R=>k.nx j m2 f s z (n2.trans n) R (.of R F)⟩
def wPar(i j:Nat)(ws:WA):WS:=λD m=>ws m λrs d=>match rs with|[.imm d1,.imm d2]=>D.nx ((d.setV i (.imm d1)).setV j (.imm d2))|_=>False
theorem QB{d p pt:Pos}{kt k2 pt2}(o:X.N.Nodup)(s:X.N[i]?=some x)(J:X.N[j]?=some y)(h:i≠j)
  (A:X.env.scope.names.lookup x=some .local) (t:X.env.scope.names.lookup y=some .local) (C:MA X [a,b] ws)
  (f:adP [.Tuple [.Name x d,.Name y p] kt pt] (.Tuple [a,b] k2 pt2) X.env=pure (some [x,y])) (G:X.calm=true:=by rfl)
  (E:adO [.Tuple [.Name x d,.Name y p] kt pt] (.Tuple [a,b] k2 pt2) pos.line X.env=pure false:=by rfl) :
  MS X (.Assign [.Tuple [.Name x d,.Name y p] kt pt] (.Tuple [a,b] k2 pt2) pos) (wPar i j ws):=(UH G o s J h A t C f E).wk<|by
 intro D M H ⟨l,m,r,v,f,k⟩;refine⟨l,m,_,v,f,λrs z vs I q n R rr F=>?_⟩;let⟨d1,g,K,q⟩:∃d1 g,rs=[.imm d1,.imm g]/\r.nx ((z.setV i (.imm d1)).setV j (.imm g)):=by
  split at q
  .exact⟨_,_,rfl,q⟩
  .exact q.elim
 subst K
 cases rr with
 |cons B rr=>
  cases rr with
  |cons L rr=>
  cases rr;exact⟨_,_,rfl,k.nx l _ _ I q n (cp (cp R B) L) (.of R F)⟩
end
structure Src where
 ds:List aD
 own:Option (Nat×List aD)
structure Wks(K:Kd)(J:It)(ds:List aD)(C:Hp->Prop):Prop where
 stop:∀H,C H->J.stop ds.length H
 go:∀i H,i<ds.length->C H->J.go i H
 yld:∀i H x H',i<ds.length->C H->J.yld i H x H'->(∀b o,H b=some o->H' b=some o)/\∃d,ds[i]?=some d/\Den K H' d x
def uV(K:Kd)(d:Al)(H:Hp)(s:Src)(J:It):Prop:=
 match s.own with
 |none=>∃C:Hp->Prop,Wks K J s.ds C/\C H/\∀c b,C c->Pers c b->C b
 |some k=>∃a,d[k.1]?=some (.L a)/\Wks K J s.ds λH=>∃x,H a=some (.lst x)/\DenAll K H k.2 x
abbrev WI:=MSt->(Src->MSt->Prop)->Prop
def tMI(K:Kx)(w:WI):TI:=λe H R=>∃b m d,Rel K b m e H/\w m d/\∀s c J a,d s c->c.np=m.np->Rel K b c e a->Frm b H a->uV K b a s J->R J a
theorem PI.wk{t t':TI}(h:PI X tg e t)(k:∀a H Q,t' a H Q->t a H Q):PI X tg e t':=λp s a H Q I q=>h p s a H Q I (k _ _ _ q)
abbrev MI(X:Cx)(tg e:Expr)(w:WI):Prop:=PI X tg e (tMI X.kx w)
section
variable {X:Cx}{tg a b c e B:Expr}{N:List Expr}{O Q S E:WE}{G:WA}{M:WT}{pos:Pos}{st:Stmt}{rest A L:List Stmt}{w u:WS}
def iSeq(K:aae)(tl:TE):TI:=λg H R=>tl g H λx d=>∃a,x = .ref a/\(((∃f,SqL K d a f)/\R (Itl K a) d)\/((∃f,SqT K d a f)/\R (Itt K a) d))
theorem QG{l:Expr}{tl:TE}(r:PE X l tl):PI X tg l (iSeq X.K tl):=by
 intro f s n H R I h;refine thn (r f s n H _ I h) λv s1 ⟨x,j,d,r1,m⟩=>?_;let⟨a,e,q⟩:=m;subst e;cases r1;rcases q with⟨⟨k,i⟩,q⟩|⟨⟨k,i⟩,q⟩
 .obtain⟨its,rv,p,hz⟩:=d.list i;refine wpAny_pyIter_list p.isList ?_;refine⟨s1.heap.objs.size,[s1.heap.objs.size],_,_,j,rfl,d.kept (t':=s1.toks) λb o e=>Io _ e,BG a _,⟨_,aai _ rfl,rfl,rfl⟩,λb g=>?_,q⟩;have e:=by simpa using g
  subst e;exact d.fpOk (aab _) (d.hok.fresh (aab _))
 .obtain⟨its,rv,p,hz⟩:=d.tuple i;refine wpAny_pyIter_tuple (p) ?_;refine⟨s1.heap.objs.size,[s1.heap.objs.size],_,_,j,rfl,d.kept (t':=s1.toks) λb o e=>Io _ e,yb a _,⟨_,aai _ rfl,rfl,rfl⟩,λb g=>?_,q⟩;have e:=by simpa using g
  subst e;exact d.fpOk (aab _) (d.hok.fresh (aab _))
def srcR(m:MSt)(K:Src->MSt->Prop):R->Prop
 | .imm (.list ds)=>K ⟨ds,none⟩ m
 | .imm (.tuple ds)=>K ⟨ds,none⟩ m
 | .obj k=>∃ds,m.os[k]?=some ds/\K ⟨ds,some (k,ds)⟩ m
 |_=>False
abbrev Ql(E:WE):WI:=λm K=>E m λr d=>srcR d K r
theorem wks_list{a:Addr}:Wks K (Itl K a) ds λH=>∃xs,SqL K H a xs/\DenAll K H ds xs where
 stop:=λH ⟨xs,q,g⟩=>⟨xs,q,by rw[g.length];exact aab _⟩
 go:=λi H h ⟨xs,q,g⟩=>⟨xs,xs[i]'(by rw[<-g.length];exact h),q,lD _⟩
 yld:=λi H x k h ⟨xs,q,g⟩ y=>by
  let⟨e,y⟩:=y;subst e;let⟨d,f,j⟩:=g.get2 (y xs q);exact⟨λ_ _ z=>z,d,f,j⟩
theorem LU{a:Addr}:Wks K (Itt K a) ds λH=>∃xs,SqT K H a xs/\DenAll K H ds xs where
 stop:=λH ⟨xs,q,g⟩=>⟨xs,q,by rw[g.length];exact aab _⟩
 go:=λi H h ⟨xs,q,g⟩=>⟨xs,xs[i]'(by rw[<-g.length];exact h),q,lD _⟩
 yld:=λi H x k h ⟨xs,q,g⟩ y=>by
  let⟨e,y⟩:=y;subst e;let⟨d,f,j⟩:=g.get2 (y xs q);exact⟨λ_ _ z=>z,d,f,j⟩
theorem Wks.imp{C f:Hp->Prop}(h:Wks K J ds C)(k:∀H,f H->C H):Wks K J ds f:=⟨λH c=>h.stop H (k H c),λi H d c=>h.go i H d (k H c),λi H x g d c=>h.yld i H x g d (k H c)⟩
theorem Vf(I:ME X e E):MI X tg e (Ql E):=(QG (tg:=tg) I).wk<|by
 intro U H P ⟨D,m,T,C,J,i⟩;refine⟨D,m,_,C,J,λr o v s k n R rr F=>?_⟩
 cases r with
 |new _=>exact k.elim
 | «at» _ _=>exact k.elim
 |newT _=>exact k.elim
 |obj j=>
  let⟨ds,y,k⟩:=k;let⟨p,t,rfl⟩:=rr;let⟨x,q,g⟩:=R.own j _ ds t y;exact⟨p,rfl,.inl ⟨⟨x,SqL.of q⟩,i _ o _ s k n R F ⟨p,t,wks_list.imp<|by intro H ⟨x,q,g⟩;exact⟨x,SqL.of q,g⟩⟩⟩⟩
 | imm d=>
  cases d with
  |list ds=>
   have h:=rr;simp only[Den]at h;let⟨p,x,rfl,f,g⟩:=h;refine⟨p,rfl,.inl ⟨⟨x,f.sq⟩,i _ o _ s k n R F ⟨λH=>∃x,FzL X.kx H p x/\DenAll X.kx H ds x,wks_list.imp λH ⟨x,q,g⟩=>⟨x,q.sq,g⟩,⟨x,f,g⟩,λK z ⟨x,q,g⟩ l=>⟨x,q.mono l,g.mono l⟩⟩⟩⟩
  |tuple ds=>
   have h:=rr;simp only[Den]at h;let⟨p,x,rfl,f,g⟩:=h;refine⟨p,rfl,.inr ⟨⟨x,f⟩,i _ o _ s k n R F ⟨λH=>∃x,SqT X.kx H p x/\DenAll X.kx H ds x,LU,⟨x,f,g⟩,λK z ⟨x,q,g⟩ l=>⟨x,q.mono l,g.mono l⟩⟩⟩⟩
  |none=>exact k.elim
  |bool _=>exact k.elim
  |int _=>exact k.elim
  |str _=>exact k.elim
  |dict _=>exact k.elim
def iq(lo:Int)(n:Nat):List aD:=(aaz n).map λ(i:Nat)=>abf (lo+(i:Int))
def aM(lo:Int)(n:Nat):(iq lo n).length=n:=by simp[iq]
def jt{lo:Int}(h:i<n):(iq lo n)[i]?=some (.int (lo+(i:Int))):=by simp[iq,h]
theorem zx{lo:Int}:Wks K (Itr lo n) (iq lo n) λ_=>True where
 stop:=λH _=>by rw[aM];exact aab _
 go:=λi H h _=>by rw[aM]at h;exact h
 yld:=λi H x d h _ y=>by
  rw[aM]at h;let⟨e,y⟩:=y;subst e y;exact⟨λ_ _ z=>z,_,jt h,uK _⟩
abbrev Jz(G:WA):WI:=λm K=>G m λrs d=>match rs with|[.imm (.int j)]=>-(2^62)≤j/\j<2^62/\K ⟨iq 0 j.toNat,none⟩ d|_=>False
def aC{i:Int}(h:Den K H (.int i) v):v = .int i:=by simpa[Den]
theorem BA(o:Gl X "range")(h:X.mg "range" = none)(t:MA X [a] G)(s:aac [a] X.env=[(false,eval a X.env)]:=by first|exact cI rfl|rfl):MI X tg (.Call (.Name "range" p) [a] [] pos) (Jz G):=(AV o h t s).wk<|by
 intro z H y ⟨q,m,K,l,x,f⟩;refine⟨q,m,_,l,x,λrs d vs g k n R rr F=>?_⟩;let⟨j,v,k1,k2,i⟩:∃j:Int,rs=[.imm (.int j)]/\-(2^62)≤j/\j<2^62/\K ⟨iq 0 j.toNat,none⟩ d:=by
  split at k
  .exact⟨_,rfl,k⟩
  .exact k.elim
 subst v
 cases rr with
 |cons r rr=>
  cases rr;have e:=aC (show Den X.kx g _ _ from r);subst e;exact⟨j,rfl,k1,k2,f _ d _ g i n R F ⟨λ_=>True,zx,trivial,λ_ _ _ _=>trivial⟩⟩
def MSt.setN(m:MSt)(n:Nat):MSt:={m with np:=n}
def Src.np(s:Src)(m:MSt):Nat:=match s.own with|none=>m.np|some k=>max m.np (k.1+1)
def Src.ok(s:Src)(m:MSt):Prop:=match s.own with|none=>True|some k=>m.os[k.1]?=some k.2
def mX(s:Src)(g:WG)(w:WS):WS:=λD m1=>∃P:Nat->MSt->Prop,P 0 (m1.setN (s.np m1))/\
 (∀(i:Nat) (d:aD) (m:MSt),s.ds[i]?=some d->m.np=s.np m1->P i m->s.ok m/\g d m λm2=>w {nx:=P (i+1),ct:=P (i+1),bk:=λf=>D.nx (f.setN m1.np),rt:=λr f=>D.rt r (f.setN m1.np)} m2)/\
 ∀m,m.np=s.np m1->P s.ds.length m->s.ok m/\D.nx (m.setN m1.np)
abbrev wFor(d:WI)(g:WG)(w:WS):WS:=λD m=>d m λs m1=>mX s g w D m1
def Rel.setN{K:Kx}{m:MSt}(R:Rel K α m σ H)(h:n≤α.length)(d:K.eb.np≤n):Rel K α (m.setN n) σ H:=⟨R.nd,R.len,R.own,R.vlen,R.var,h,d,R.ebx⟩
theorem uZ{K:Kx}{s:Src}{w:WS}(Rl:Rel K α m1 σ H)(hJ:uV K α H s J)(h:mX s g w De m1)(k:EndsOk K m1.np α H De D)
  (hb:∀f t m F De' D',f.take (s.np m1)=α.take (s.np m1)->t.np=s.np m1->Rel K f t m F->w De' t->EndsOk K t.np f F De' D'->tb D' m F):sF J (tMG K g) tb D σ H:=by
 let⟨P,p0,turn,fin⟩:=h;have npk:s.np m1≤α.length:=by
  unfold Src.np;unfold uV at hJ
  cases e:s.own with
  |none=>exact Rl.npl
  |some j=>
   rw[e]at hJ;let⟨a,ea,_⟩:=hJ;have:=(AD.mp ea).1;have:=Rl.npl;show max m1.np (j.1+1)≤α.length;omega
 have T:m1.np≤s.np m1:=by
  unfold Src.np;split
  .exact aab _
  .exact aeU _ _
 let⟨C,wk,hC⟩:∃C:Hp->Prop,Wks K J s.ds C/\∀f t m F,Rel K f t m F->Ext (s.np m1) α H f F->s.ok t->C F:=by
  unfold uV at hJ
  cases e:s.own with
  |none=>
   rw[e]at hJ;let⟨C,wk,c0,cm⟩:=hJ;exact⟨C,wk,λf t m F _ x _=>cm H F c0 (Rl.pers x.frm)⟩
  | some j=>
   rw[e]at hJ;let⟨a,ea,wk⟩:=hJ;refine⟨_,wk,λf t m F W x ok=>?_⟩;have hj:j.1<s.np m1:=by unfold Src.np;rw[e];show j.1<max _ _;omega
   have ea':f[j.1]?=some (.L a):=by
    have:=congrArg (λl=>l[j.1]?) x.pre;simp only[aaR,if_pos hj]at this;rw[this];exact ea
   unfold Src.ok at ok;rw[e]at ok;exact W.own j.1 _ j.2 ea' ok
 have U:∀{f:Al}{t:MSt}{m:St}{F:Hp},Rel K f t m F->t.np=s.np m1->Ext (s.np m1) α H f F->Rel K f (t.setN m1.np) m F:=λW n x=>W.setN (by
  have:=W.npl;rw[n]at this;exact aaw ‹_› ‹_›) Rl.ebl
 refine⟨λi n m F=>n=s.ds.length-i/\i≤s.ds.length/\∃f t,P i t/\t.np=s.np m1/\Rel K f t m F/\Ext (s.np m1) α H f F,⟨s.ds.length,'a',abJ _,α,_,p0,rfl,Rl.setN npk (aaw Rl.ebl T),.of Rl (Frm.refl _ _)⟩,?_⟩;intro i n m F ⟨rfl,hi,f,t,p,hn,W,x⟩
 by_cases Z:i<s.ds.length
 .have hd:s.ds[i]?=some s.ds[i]:=lD Z;let⟨ok,hg⟩:=turn i _ t hd hn p;have c:=hC f t m F W x ok;refine .inr ⟨wk.go i F Z c,λσ2 Y=>∃α2 m2,P (i+1) m2/\m2.np=s.np m1/\Rel K α2 m2 σ2 Y/\Ext (s.np m1) α H α2 Y,λσ2 Y h2=>⟨s.ds.length-(i+1),∅,rfl,Z,h2⟩,λv Y y=>?_⟩;let⟨grow,d,e1,e2⟩:=wk.yld i F v Y Z c y;rw[hd]at e1;cases e1;have F2:Frm f F Y:=λb o z _=>grow b o z;have R2:Rel K f t m Y:=W.at (W.pers F2) (λb hb=>by
   let⟨ys,z,_⟩:=W.mem hb;rw[z];exact grow b _ z) F2
  have x2:Ext (s.np m1) α H f Y:=x.trans (.of R2 F2);refine⟨f,t,_,_,R2,e2,hg,λm3 σ3 q3 n3 R3=>hb f m3 σ3 Y _ _ x2.pre (n3.trans hn) R3 q3 ?_⟩;have I:m3.np=s.np m1:=n3.trans hn;have x3:Ext m3.np α H f Y:=by rw[I];exact x2
  refine⟨λR m4 V H4 q4 n4 R4 x4=>⟨R,m4,q4,n4.trans I,R4,?_⟩,λr R m4 V v4 H4 q4 n4 R4 rr x4=>?_,λR m4 V H4 q4 n4 R4 x4=>?_,λR m4 V H4 q4 n4 R4 x4=>⟨R,m4,q4,n4.trans I,R4,?_⟩⟩
  .rw[<-I];exact x3.trans x4
  .have x5:Ext (s.np m1) α H R H4:=by rw[<-I];exact x3.trans x4
   exact k.rt r R (m4.setN m1.np) V v4 H4 q4 rfl (U R4 (n4.trans I) x5) (rr.ext x3) (x5.less T)
  .have x5:Ext (s.np m1) α H R H4:=by rw[<-I];exact x3.trans x4
   exact k.nx R (m4.setN m1.np) V H4 q4 rfl (U R4 (n4.trans I) x5) (x5.less T)
  .rw[<-I];exact x3.trans x4
 .have e:i=s.ds.length:=by omega
  subst e;let⟨ok,q⟩:=fin t hn p;exact .inl ⟨wk.stop F (hC f t m F W x ok),k.nx f (t.setN m1.np) m F q rfl (U W hn x) (x.less T)⟩
theorem Su{h:WI}(o:MI X tg B h)(K:MG X tg g)(C:MSs X A w)(r:afP (model X.prog X.w) X.A X.env X.xe)(t:X.calm=true:=by rfl)
  (p:∀x,aaT B X.env x=pure x:=by intro _;rfl):MS X (.For tg B A [] pos) (wFor h g w):=(Um r t o K C p).wk<|by intro D Y H ⟨U,m,V,y,P,k⟩;exact
 ⟨U,m,_,y,P,λs i J v q n R F I=>uZ R I q (by rw[n];exact k.ext (.of R F)) λf i z v d W _ _ T j l=>⟨f,i,d,T,j,l⟩⟩
def v9(t:WT)(w:WS):WS:=λD f=>∃P:Nat->MSt->Prop,(∃n,P n f)/\∀n m,m.np=f.np->P n m->t m λc g=>if c=true then w {D with nx:=λm2=>∃d,d<n/\P d m2,ct:=λm2=>∃d,d<n/\P d m2,bk:=D.nx} g else D.nx g
theorem Gu(K:MT X t M)(U:MSs X A w)(hp:afP (model X.prog X.w) X.A X.env X.xe):MS X (.While t A [] pos) (v9 M w):=(Ie hp K U).wk<|by
 intro D σ H ⟨C,m,De,J,⟨P,⟨n0,p0⟩,o⟩,k⟩;refine⟨λn f i=>∃d g,P n g/\g.np=m.np/\Rel X.kx d g f i/\Ext m.np C H d i,⟨n0,C,m,p0,rfl,J,.of J (Frm.refl _ _)⟩,?_⟩;intro n F H1 ⟨j,m1,Y,n1,Z,V⟩;refine⟨j,m1,_,Z,o n m1 n1 Y,λbb m2 T q n2 R2 W=>?_⟩;have x:=V.trans (.of R2 W);have p:m2.np=m.np:=n2.trans n1
 cases bb with
 |true=>
  refine iteT ⟨λl I=>∃h,h<n/\∃d g,P h g/\g.np=m.np/\Rel X.kx d g l I/\Ext m.np C H d I,by intro l I ⟨h,s,z⟩;exact⟨h,s,z⟩,j,m2,_,R2,q,?_⟩;rw[p];exact⟨λd g f i ⟨h,s,q⟩ nn R y=>⟨h,s,d,g,q,nn,R,x.trans y⟩,λr d g f v i q nn R rr y=>k.rt r d g f v i q nn R (rr.ext x) (x.trans y),λd g f i q nn R y=>k.nx d g f i q nn R (x.trans y),λd g f i ⟨h,s,q⟩ nn R y=>⟨h,s,d,g,q,nn,R,x.trans y⟩⟩
 |false=>
  exact iteF (k.nx j m2 F T q p R2 x)
end
section
variable {K:Kx}{f:Al}{m:MSt}{j:St}{H:Hp}
theorem Rel.setW(R:Rel K f m j H)(u:f[q]?=some ao)(x:Pers H H')(F:∀b,b∉ao.ads->H' b=H b)(g:OwnAt K H' ao ds'):Rel K f {m with os:=m.os.set q ds' } j H'/\Frm f H H':=by
 have s:Frm f H H':=λb o e nb=>by rw[F b λz=>nb (j5 u z)];exact e
 have l:∀(k:Nat) (a:Ao) w,f[k]?=some a->(m.os.set q ds')[k]?=some w->OwnAt K H' a w:=λk a w y n=>by
  by_cases c:q=k
  .subst c;rw[aa3 (by rw[<-R.len];exact(AD.mp u).1)]at n
   grind
  .rw[aaS c]at n;exact(R.own k a w y n).mono x λb A=>F b λz=>gL R.nd u y c z A
 refine⟨⟨R.nd,by simp[R.len],l,R.vlen,λi r h=>?_,R.npl,R.ebl,R.ebx.trans ⟨rfl,s,λ_ h=>.inl h,λa u=>?_⟩⟩,s⟩
 .obtain⟨v,ev,rv⟩:=R.var i r h;refine⟨v,ev,?_⟩
  cases r with
  |imm d=>exact Den.mono x rv
  |obj k=>exact rv
  | «at» k p=>exact rv
  |new ds=>exact rv
  |newT t=>exact rv
 .obtain⟨k,ao,e1,hm⟩:=ja u;have hk:k<(m.os.set q ds').length:=by rw[abj,<-R.len];exact(AD.mp e1).1
  let⟨o,q,_⟩:=(l k ao _ e1 (lD hk)).mem hm;exact⟨o,q⟩
theorem Rel.setO{x:List V}(R:Rel K f m j H)(h:f[q]?=some (.L l))(c:H l=some (.lst xs))(g:DenAll K H ds' x):Rel K f {m with os:=m.os.set q ds' } j (upd H l (.lst x))/\Frm f H (upd H l (.lst x)):=by
 have p:Pers H (upd H l (.lst x)):=xT c;exact R.setW h p (λb a=>av λe=>a (aad.mpr e)) ⟨x,ay,g.mono p⟩
end
def yq(own:List Str)(ps:List Nat)(vs:List (Option R)):List (Option R):=own.map (λ_=>none)++ps.map λi=>(vs[i]?).join
def oy(own:List Str)(ps:List Nat)(m:MSt):MSt:=⟨yq own ps m.vs,m.os++[[]],m.os.length+1⟩
abbrev wIfT(tt:WT)(w:WS):WS:=λD m=>tt m λb a=>if b=true then w D a else D.nx a
abbrev P8(q:Nat)(w:WE):WS:=λD m=>w m λr a=>kq (λd=>∃ds,a.os[q]?=some ds/\ds.length<aak/\D.nx {a with os:=a.os.set q (ds++[d])}) r
abbrev ua(w:WI)(own:List Str)(ps:List Nat)(g:WG)(tt:WT)(b:WE):WE:=λm K=>w m λs m1=>
 mX s g (wIfT tt (P8 m1.os.length b)) {nx:=λa=>K (.new (a.os.getD m1.os.length [])) {m1 with os:=a.os.take m1.os.length},rt:=λ_ _=>False} (oy own ps m1)
abbrev zP(c:WI)(own:List Str)(ps:List Nat)(g:WG)(tt:WT)(w:WI)(b:WG)(t:WT)(d:WE):WE:=λm K=>c m λs m1=>
 mX s g (wIfT tt λD m2=>w m2 λs2 e=>mX s2 b (wIfT t (P8 m1.os.length d)) D e) {nx:=λa=>K (.new (a.os.getD m1.os.length [])) {m1 with os:=a.os.take m1.os.length},rt:=λ_ _=>False} (oy own ps m1)
abbrev zu:WT:=λm K=>K true m
section
variable {K:Kx}
theorem y7{w:WE}{m:MSt}(b:α[q]?=some (.L l))(j:Rel K α m σ H)(h:P8 q w De m)(k:EndsOk K m.np α H De D):yp l (tM K w) D σ H:=by
 refine⟨α,m,_,j,h,λr s v o a n R rr F=>?_⟩;let⟨d,p,hd,ds,f,i,a⟩:=gj rr a;let⟨x,c,g⟩:=R.own q _ ds b f;let⟨R2,e⟩:=R.setO b c (g.append (DenAll.cons hd DenAll.nil));exact⟨x,c,by rw[<-g.length];exact i,k.nx α _ σ _ a n R2 (.of R2 (F.trans e))⟩
theorem y9{tt:WT}{m:MSt}(e:Rel K α m σ H)(h:wIfT tt w De m)(k:EndsOk K m.np α H De D)
  (f:∀a b,a.np=m.np->Rel K α a σ b->w De a->EndsOk K a.np α b De D->tb D σ b):tIfT (tMT K tt) tb D σ H:=by
 refine⟨α,m,_,e,h,λd a b q n R F=>?_⟩;have c:EndsOk K a.np α b De D:=by rw[n];exact k.ext (.of R F)
 cases d with
 |true=>rw[if_pos rfl]at q;exact iteT (f a b n R q c)
 |false=>rw[if_neg aan]at q;exact iteF (c.nx α a σ b q rfl R (.of R (Frm.refl _ _)))
theorem CZ{own:List Str}{ps:List Nat}{s:Src}{m:MSt}{Kc:R->MSt->Prop}(Rl:Rel K α m σ H)(n1:m1.np=m.np)(c:Rel K α m1 σ H1)(F1:Frm α H H1)(P:uV K α H1 s J)(N:H1 l=none)
  (h:mX s g w {nx:=λf=>Kc (.new (f.os.getD m1.os.length [])) {m1 with os:=f.os.take m1.os.length},rt:=λ_ _=>False} (oy own ps m1))
  (fin:∀r f v u,Kc r f->f.np=m.np->Rel K α f σ u->RelR K α H u r v->Frm α H u->Q v u)
  (hb:∀A f E u F Y,A[m1.os.length]?=some (.L l)->m1.os.length<f.np->Rel K A f E u->w F f->EndsOk K f.np A u F Y->tb Y E u) :
  sF J (tMG K g) tb {nx:=λ_ u=>Q (.ref l) u,rt:=λ_ _=>False} (iy own ps σ) (upd H1 l (.lst [])):=by
 have pα:l∉ads α:=c.out N;have pe:Pers H1 (upd H1 l (.lst [])):=bj (.inl N);have B:α.length=m1.os.length:=c.len;have S:(α++[.L l])[m1.os.length]?=some (.L l):=by rw[aaP ∅,<-B];simp
 have U:Rel K α m1 σ (upd H1 l (.lst [])):=c.lay N;let⟨Rm,extm⟩:=qJ (ao:=.L l) (ds:=[]) U ⟨m1,σ,c⟩ (cu N) (by simp[Ao.ads]) (λb hb=>by cases aad.mp hb;exact N) ⟨[],ay,DenAll.nil⟩;have R0:Rel K (α++[.L l]) (oy own ps m1) (iy own ps σ) (upd H1 l (.lst [])):=by
  refine⟨Rm.nd,by simp[oy,B],Rm.own,by simp[iy,oy,yq],λi r z=>?_,by simp[oy,B],by have:=c.ebl;have:=c.npl;show K.eb.np≤m1.os.length+1;omega,Rm.ebx⟩;have D:(yq own ps m1.vs)[i]?=some (some r):=z;unfold yq at D
  by_cases hi:i<own.length
  .rw[aaE (by simpa using hi),aaj]at D
   cases q:own[i]? with
   |none=>rw[q]at D;cases D
   |some y=>rw[q]at D;cases D
  .rw[aaP (by simpa using hi),iO,aaj]at D
   cases q:ps[i-own.length]? with
   |none=>rw[q]at D;cases D
   | some p=>
    rw[q]at D;have W:(m1.vs[p]?).join=some r:=aaA D;have hv:m1.vs[p]?=some (some r):=by
     cases y:m1.vs[p]? with
     |none=>rw[y]at W;cases W
     |some y'=>rw[y]at W;cases y' with
      |none=>cases W
      |some y'=>cases W;rfl
    let⟨v,ev,L⟩:=Rm.var p r hv;refine⟨v,?_,L⟩;unfold iy;rw[aaP (by simpa using hi),iO,aaj,q];show some ((σ[p]?).join)=some (some v);rw[ev];rfl
 have hJ':uV K (α++[.L l]) (upd H1 l (.lst [])) s J:=by
  unfold uV at P⊢
  cases e:s.own with
  |none=>
   rw[e]at P;let⟨C,wk,c0,cm⟩:=P;exact⟨C,wk,cm _ _ c0 pe,cm⟩
  |some j=>
   rw[e]at P;let⟨a,ea,wk⟩:=P;exact⟨a,by rw[aaE (AD.mp ea).1];exact ea,wk⟩
 have T:m1.os.length<s.np (oy own ps m1):=by
  unfold Src.np;split
  .exact abF _
  .exact aau (abF _) (aeU _ _)
 refine uZ R0 hJ' h ⟨λA f E u q n O x=>?_,λ_ _ _ _ _ _ z=>z.elim,λ_ _ _ _ z=>z.elim,λ_ _ _ _ z=>z.elim⟩ λA f E u F Y hp hnp O h' k'=>hb A f E u F Y ?_ (by rw[hnp];exact T) O h' k'
 .
  have n':f.np=m1.os.length+1:=n;have x':Ext (m1.os.length+1) (α++[.L l]) (upd H1 l (.lst [])) A u:=x;have F':Frm α H1 u:=λb o e nb=>by
   have V:b≠l:=bi e N;refine x'.frm b o (by rw[av V];exact e) λz=>?_;rw[jE]at z;rcases aaV.mp z with z|z
   .exact nb z
   .exact V (by simpa[ads,Ao.ads]using z)
  have pe':Pers H1 u:=c.pers F';have G:∀k,k<m1.os.length+1->A[k]?=(α++[.L l])[k]?:=λk hk=>by
   have:=congrArg (λz=>z[k]?) x'.pre;simp only[aaR,if_pos hk]at this;exact this
  have hlen':m1.os.length+1≤f.os.length:=by
   have:=O.npl;rw[n',O.len]at this;exact this
  have hq:m1.os.length<f.os.length:=by assumption
  have eq1:f.os[m1.os.length]?=some (f.os.getD m1.os.length []):=by
   rw[aas,lD hq];rfl
  let⟨xs,y1,y2⟩:=O.own m1.os.length (.L l) _ (by rw[G _ (abF _)];exact S) eq1;have I:∀(k:Nat) (a:Ao) (Z:List aD),α[k]?=some a->(f.os.take m1.os.length)[k]?=some Z->OwnAt K u a Z:=λk a Z z1 M=>by
   rw[aaR]at M;have hk:k<m1.os.length:=by rw[<-B];exact(AD.mp z1).1
   rw[if_pos hk]at M;exact O.own k a Z (by rw[G k ∅,aaE ∅];exact z1) M
  have tl:(f.os.take m1.os.length).length=α.length:=by rw[aaB];omega
  have X:Ext K.eb.np α H1 α u:=⟨rfl,F',λ_ h=>.inl h,λa ha=>by
   let⟨k,ao,e1,hm⟩:=ja ha;have hk:k<(f.os.take m1.os.length).length:=by rw[tl];exact(AD.mp e1).1
   let⟨o,q,_⟩:=(I k ao _ e1 (lD hk)).mem hm;exact⟨o,q⟩⟩
  refine fin _ _ (.ref l) u q n1 ⟨c.nd,tl.symm,I,c.vlen,λi r z=>?_,c.npl,c.ebl,c.ebx.trans X⟩ ?_ (F1.trans F')
  .obtain⟨v,ev,L⟩:=c.var i r z;refine⟨v,ev,?_⟩
   cases r with
   |imm d=>exact Den.mono pe' L
   |obj k=>exact L
   | «at» k p=>exact L
   |new ds=>exact L
   |newT t=>exact L
  .refine⟨l,xs,rfl,?_,y1,y2⟩
   cases z:H l with
   |none=>rfl
   |some o=>
    have:=F1 l o z pα;rw[N]at this;cases this
 .have:=congrArg (λz=>z[m1.os.length]?) hp;simp only[aaR,if_pos T]at this;rw[this];exact S
end
section
variable {X:Cx}{scope sc:Scope}{own fr:List Str}{ps:List Nat}{elt tg a j b:Expr}{ifs e:List Expr}{pos d u:Pos}{w o:WI}{g A:WG}{tt p:WT}{f:WE}
theorem wn(h:tM X.kx (ua w own ps g tt f) σ H Q):Am (tMI X.kx w) own ps (tl1 (tMG X.kx g) (tMT X.kx tt) (tM X.kx f)) σ H Q:=by
 let⟨x,m,M,i,C,c⟩:=h;refine⟨x,m,_,i,C,λs m1 J O k n1 R F z l G=>?_⟩;exact CZ i n1 R F z G k c λr L t N D K y v B n q=>y9 B n q λm2 I n2 R2 E k2=>y7 y R2 E k2
theorem DW(h:tM X.kx (zP w own ps g tt o A p f) σ H Q):Am (tMI X.kx w) own ps (tl2 (tMG X.kx g) (tMT X.kx tt) (tMI X.kx o) (tMG X.kx A) (tMT X.kx p) (tM X.kx f)) σ H Q:=by
 let⟨S,m,Kc,t,Z,r⟩:=h;refine⟨S,m,_,t,Z,λs m1 J H1 k n1 R F1 W l hl=>?_⟩;refine CZ t n1 R F1 W hl k r λi m' K H' G D' T n Y E F=>y9 Y E F λm2 H2 n2 R2 h2 k2=>?_;refine⟨i,m2,_,R2,h2,λs2 x J2 H3 L y v I q=>?_⟩;have N:m1.os.length<s2.np x:=by
  have:m1.os.length<x.np:=by rw[y,n2];exact n
  unfold Src.np;split
  .omega
  .exact aau this (aeU _ _)
 refine uZ v q L (by rw[y];exact k2.ext (.of v I)) λU m4 O H4 De4 D4 c M P D B=>y9 P D B λm5 H5 n5 R5 V C=>y7 ?_ R5 V C;have:=congrArg (λz=>z[m1.os.length]?) c;simp[aaR,if_pos N]at this;rw[this];exact T
theorem Iz(S:cf own fr scope sc)(q:MI X tg a w)(n:∀cl s H C ex,MG (aU X scope cl (own++fr) s H C ex) tg g)(l:∀cl s H C ex,PTs (aU X scope cl (own++fr) s H C ex) ifs (tMT X.kx tt))
  (m:∀cl s H C ex,ME (aU X scope cl (own++fr) s H C ex) elt f) (c:X.env.scope=sc:=by rfl) (k:ps.map (λi=>X.N[i]?)=fr.map some:=by rfl) (t:X.calm=true:=by rfl) (r:∀x,aaT a X.env x=pure x:=by intro _;rfl) :
  ME X (.ListComp elt [⟨tg,a,ifs,0⟩] scope pos) (ua w own ps g tt f):=(Fv S q n l m c k t r).wk λ_ _ _ h=>wn h
theorem Nq:PTs X [] (tMT X.kx zu):=by intro c s k H Q I ⟨l,m,K,R,i,h⟩;exact Ls c s k H Q I (h true m H i rfl R (Frm.refl _ _))
def Kl{t:WT}(h:MT X c t):PTs X [c] (tMT X.kx t):=Kq h
theorem E8(S:cf own fr scope sc)(B:X.N.Nodup)(J:X.N[i]?=some y)(t:X.env.scope.names.lookup y=some .local)(E:MI X tg a w)(N:∀cl s H C ex,MG (aU X scope cl (own++fr) s H C ex) tg g)(K:∀cl s H C ex,PTs (aU X scope cl (own++fr) s H C ex) ifs (tMT X.kx tt))
  (L:∀cl s H C ex,ME (aU X scope cl (own++fr) s H C ex) elt f) (l:abG (.ListComp elt [⟨tg,a,ifs,0⟩] scope pos) (some (.Name y u)) d.line X.env=pure true:=by rfl)
  (h:X.env.scope=sc:=by rfl) (c:ps.map (λi=>X.N[i]?)=fr.map some:=by rfl) (I:X.calm=true:=by rfl) (G:∀x,aaT a X.env x=pure x:=by intro _;rfl) :
  MS X (.Assign [.Name y u] (.ListComp elt [⟨tg,a,ifs,0⟩] scope pos) d) (wSet i (ua w own ps g tt f)):=(IL S B J t E N K L l h c I G).wk λD P H ⟨M,m,Q,z,O,k⟩=>
 wn ⟨M,m,_,z,O,λr U v T q n R rr F=>vv R n F rr q k.nx ⟨m,P,z⟩⟩
theorem Ix(S:cf own fr scope sc)(L:X.N.Nodup)(M:X.N[i]?=some y)(t:X.env.scope.names.lookup y=some .local)(I:MI X tg a w)(J:∀cl s H C ex,MG (aU X scope cl (own++fr) s H C ex) tg g)(N:∀cl s H C ex,PTs (aU X scope cl (own++fr) s H C ex) ifs (tMT X.kx tt))
  (hi2:∀cl s H C ex,MI (aU X scope cl (own++fr) s H C ex) j b o) (B:∀cl s H C ex,MG (aU X scope cl (own++fr) s H C ex) j A) (c:∀cl s H C ex,PTs (aU X scope cl (own++fr) s H C ex) e (tMT X.kx p))
  (T:∀cl s H C ex,ME (aU X scope cl (own++fr) s H C ex) elt f) (E:abG (.ListComp elt [⟨tg,a,ifs,0⟩,⟨j,b,e,0⟩] scope pos) (some (.Name y u)) d.line X.env=pure true:=by rfl)
  (z:X.env.scope=sc:=by rfl) (l:ps.map (λi=>X.N[i]?)=fr.map some:=by rfl) (Q:X.calm=true:=by rfl) (P:∀x,aaT a X.env x=pure x:=by intro _;rfl)
  (h:∀cl C x,aaT b (agB scope cl C X.env) x=pure x:=by intro _ _ _;rfl) :
  MS X (.Assign [.Name y u] (.ListComp elt [⟨tg,a,ifs,0⟩,⟨j,b,e,0⟩] scope pos) d) (wSet i (zP w own ps g tt o A p f)):=(Gn S L M t I J N hi2 B c T E z l Q P h).wk λD U H ⟨O,m,Y,G,K,k⟩=>
 DW ⟨O,m,_,G,K,λr V v W q n R rr F=>vv R n F rr q k.nx ⟨m,U,G⟩⟩
end
def bo{i:Str}(h:Den K H (.str i) v):v = .str i:=by simpa[Den]
def jl{i:Bool}(h:Den K H (.bool i) v):v = .bl i:=by simpa[Den]
def g9(h:Den K H .none v):v = .non:=by simpa[Den]
def dU(i:Int):RelR K α Hb H (.imm (.int i)) (.int i):=rfl
def jJ(i:Bool):RelR K α Hb H (.imm (.bool i)) (.bl i):=rfl
def Jw(i:Str):RelR K α Hb H (.imm (.str i)) (.str i):=rfl
def vH:RelR K α Hb H (.imm .none) .non:=rfl
def og{d:aD}(h:Den K H d v):RelR K α Hb H (.imm d) v:=h
def bQ(h:Den K H (.tuple ds) v):∃a xs,v = .ref a/\SqT K H a xs/\DenAll K H ds xs:=by simpa only[Den]
def e8(f:SqT K H a xs)(g:DenAll K H ds xs):Den K H (.tuple ds) (.ref a):=by  exact⟨a,xs,rfl,f,g⟩
section
variable {X:Cx}
def oAdd:WO
 | .imm (.int i),.imm (.int j),_,K=>K (.imm (.int (i+j)))
 | .imm (.str x),.imm (.str y),_,K=>x.length+y.length≤aak/\K (.imm (.str (x++y)))
 | .imm (.tuple a),.imm (.tuple b),_,K=>a.length+b.length≤aak/\K (.imm (.tuple (a++b)))
 |r1,r2,m,K=>∃c d,lsOf m r1=some c/\lsOf m r2=some d/\c.length+d.length≤aak/\K (.new (c++d))
theorem aQ:OpR X (acp .Add) (rM X.kx oAdd):=by
 intro o s z H x y v u Q I O F ⟨α,m,σ,H0,H1,r1,r2,Kc,R,N,S,h,f⟩;unfold oAdd at h
 split at h
 .rename_i _ _ i j;have L:=aC (show Den X.kx H (.int i) x from N);have G:=aC (show Den X.kx H (.int j) y from S);subst L G;exact TU o s z H _ _ v u Q I O F ⟨i,j,rfl,rfl,f _ _ H h R (dU _) (Frm.refl _ _)⟩
 .rename_i _ _ i j;have L:=bo (show Den X.kx H (.str i) x from N);have G:=bo (show Den X.kx H (.str j) y from S);subst L G;exact yn o s z H _ _ v u Q I O F ⟨i,j,rfl,rfl,h.1,f _ _ H h.2 R (Jw _) (Frm.refl _ _)⟩
 .rename_i _ _ ds es;let⟨a,J,rfl,V,E⟩:=bQ (show Den X.kx H (.tuple ds) x from N);let⟨b,U,rfl,T,D⟩:=bQ (show Den X.kx H (.tuple es) y from S);let⟨W,h⟩:=h
  by_cases hx:J=[]
  .subst hx
   cases O;cases F
   let⟨q,r,p1,_⟩:=I.tuple V;let⟨c,A,p2,_⟩:=I.tuple T;cases r;let⟨⟨cls,Z,M,sl⟩,g,P,n,hd⟩:=id p1;let⟨⟨K,B,w,C⟩,k,l,n2,d⟩:=id p2;simp only at P hd l d;subst P hd l d;have Y:ds=[]:=by cases ds with|nil=>rfl|cons _ _=>have:=E.length;simp at this
   subst Y;exact af7 ⟨_,g,rfl⟩ ⟨_,k,rfl⟩ afQ agW aei aeb (adR _ _)
    (tuple_addW0 a b _ c.toArray n n2 Z B sl C 'a') ⟨g,k,⟨.ref b,H,I,rfl,f _ _ H h R (show Den X.kx H (.tuple ([]++es)) (.ref b)from S) (Frm.refl _ _)⟩⟩
  .refine OU o s z H _ _ v u Q I O F ⟨a,b,J,U,rfl,rfl,V,T,hx,by rw[<-E.length,<-D.length];exact W,λe=>?_,λe p t=>?_⟩
   .subst e;have Y:es=[]:=by cases es with|nil=>rfl|cons _ _=>have:=D.length;simp at this
    subst Y;exact f _ _ H (by rw[aa5]at h;exact h) R (og N) (Frm.refl _ _)
   .exact f _ _ _ h (R.lay t) (og<|e8 (SqT.of ay) ((E.append D).mono (bj (.inl t)))) (cu t)
 .obtain⟨ds,es,L,G,W,h⟩:=h;let⟨a,J,rfl,V,E⟩:=N.list R L;let⟨b,U,rfl,T,D⟩:=S.list R G
  cases O;cases F
  let⟨q,r,⟨⟨cls,Z,M,sl⟩,n,g,P,hdd,hd⟩,_⟩:=I.list V;let⟨c,A,⟨⟨K,B,w,C⟩,n2,k,l,hdd2,d⟩,_⟩:=I.list T;simp only at P hd l d;subst P hd l d;have hzz:J.length+U.length≤aak:=by rw[<-E.length,<-D.length];exact W
  refine af7 ⟨_,g,rfl⟩ ⟨_,k,rfl⟩ noFill_list_add seq_list_add PySem.F.slot_list_add PySem.F.entry_list_add (PySem.F.args_list_add_2 _ _) (list_addW a b q.toArray c.toArray n n2 Z B sl C (by have:=r.length;have:=A.length;simp only[aaK];omega)) ⟨g,k,?_⟩;have ea:q.toArray++c.toArray=(q++c).toArray:=by simp
  rw[ea];have t:H s.heap.objs.size=none:=I.fresh;exact⟨.ref _,_,I.lnew (t':=s.toks) (r.append A) (by rw[aao];omega),rfl,f _ _ _ h (R.lay t) ⟨_,J++U,rfl,t,ay,(E.append D).mono (bj (.inl t))⟩ (cu t)⟩
def oII(C:Int->Int->Prop)(g:Int->Int->Int):WO
 | .imm (.int i),.imm (.int j),_,K=>C i j/\K (.imm (.int (g i j)))
 |_,_,_,_=>False
def oIB(g:Int->Int->Bool):WO
 | .imm (.int i),.imm (.int j),_,K=>K (.imm (.bool (g i j)))
 |_,_,_,_=>False
theorem ue{f:Ad->Ad->Sem Ad}{C:Int->Int->Prop}{g:Int->Int->Int}(h:OpR X f (rI C λi j=>.int (g i j))):OpR X f (rM X.kx (oII C g)):=by
 intro p s b H x y v u Q I l r ⟨q,m,w,o,z,r1,t,K,R,k,n,a,c⟩;unfold oII at a
 split at a
 .rename_i _ _ i j;have d:=aC (show Den X.kx H _ x from k);have e:=aC (show Den X.kx H _ y from n);subst d e;exact h p s b H _ _ v u Q I l r ⟨i,j,rfl,rfl,a.1,c _ _ H a.2 R (dU _) (Frm.refl _ _)⟩
 .simp_all
theorem xo{f:Ad->Ad->Sem Ad}{g:Int->Int->Bool}(h:OpR X f (rI0 λi j=>.bl (g i j))):OpR X f (rM X.kx (oIB g)):=by
 intro p s a H x y v u Q I l r ⟨q,m,w,o,z,r1,t,K,R,k,n,b,c⟩;unfold oIB at b
 split at b
 .rename_i _ _ i j;have d:=aC (show Den X.kx H _ x from k);have e:=aC (show Den X.kx H _ y from n);subst d e;exact h p s a H _ _ v u Q I l r ⟨i,j,rfl,rfl,c _ _ H b R (jJ _) (Frm.refl _ _)⟩
 .simp_all
def oSub:WO:=oII (λ_ _=>True) λi j=>i-j
theorem CP:OpR X (acp .Sub) (rM X.kx oSub):=ue (opI λ_ _ _ _ _ _ _ _ q=>sub_int q)
def oMul:WO:=oII ahc λi j=>i*j
theorem Pc:OpR X (acp .Mult) (rM X.kx oMul):=ue (opI λ_ _ _ _ _ _ _ h q=>mul_int q h)
def CFd(_ j:Int):Prop:=0<j/\j.natAbs.log2<9000
def T6:WO:=oII CFd λi j=>i/j
theorem gQ:OpR X (acp .FloorDiv) (rM X.kx T6):=ue (opI λi j _ _ _ _ _ h q=>floordiv_int (by have:=h.1;omega) (by rw[Int.fdiv_eq_ediv_of_nonneg _ (by have:=h.1;omega)];exact q) (.inl (PyProof.noPylong_of_log2 h.2)))
def oMod:WO:=oII (λ_ j=>0<j) λi j=>i%j
def fz:OpR X (acp .Mod) (rM X.kx oMod):=ue Uh
def oPow:WO:=oII CPow λi j=>i^j.toNat
def Mf:OpR X (acp .Pow) (rM X.kx oPow):=ue UG
def oLt:WO:=oIB λi j=>decide (i<j)
def oLe:WO:=oIB λi j=>decide (i≤j)
def oGt:WO:=oIB λi j=>decide (j<i)
def oGe:WO:=oIB λi j=>decide (j≤i)
def ir:OpR X (aaW .Lt) (rM X.kx oLt):=xo VI
def Jv:OpR X (aaW .LtE) (rM X.kx oLe):=xo Xp
def kg:OpR X (aaW .Gt) (rM X.kx oGt):=xo VN
def y4:OpR X (aaW .GtE) (rM X.kx oGe):=xo V5
def eqD(f:Bool->Bool):WO:=λr1 r m K=>match asD m r1,asD m r with
 |some d1,some d2=>abL d1=true/\abL d2=true/\K (.imm (.bool (f (aaa d1 d2))))
 |_,_=>False
def eqS(f:Bool->Bool):WO:=λr1 r m K=>∃x y:Str,r1 = .imm (.str x)/\r = .imm (.str y)/\K (.imm (.bool (f (decide (x=y)))))
def eqSs(f:Bool->Bool):WO:=λr1 r m K=>∃x y:List Str,lsOf m r1=some (x.map .str)/\lsOf m r=some (y.map .str)/\x.length=y.length/\K (.imm (.bool (f (decide (x=y)))))
def oEq:WO:=λr1 r m K=>eqD id r1 r m K\/eqS id r1 r m K\/eqSs id r1 r m K
def oNe:WO:=λr1 r m K=>eqD (!·) r1 r m K\/eqS (!·) r1 r m K
theorem iM{K:Kd}{H:Hp}:∀{ns:List Str}{xs:List V},DenAll K H (ns.map .str) xs->xs=ns.map V.str
 |[],_,h=>by simpa only[ DenAll]
 |n::ns,_,h=>by
  let⟨v,vs,rfl,a,b⟩:=h;have e:=bo a;rw[e,iM b];rfl
theorem qC:∀{ns:List Str}{us:List Ad}{j:Nat}{u:Ad},Vals (ns.map V.str) us->us[j]?=some u->∃x t,ns[j]?=some x/\u = .str x t
 |[],_,_,_,.nil,e=>by simp at e
 |n::ns,_,0,_,.cons r _,e=>by
  simp at e;subst e;let⟨t,h⟩:=r;exact⟨n,t,rfl,h⟩
 |n::ns,_,j+1,u,.cons _ t,e=>by
  let⟨x,c,a,b⟩:=qC t ‹_›;exact⟨x,c,by simpa using a,b⟩
theorem uv(xs ys:List Str)(h:xs.length=ys.length):(aaz xs.length).all (λj=>decide (xs.getD j ae9=ys.getD j ae9))=decide (xs=ys):=by
 rw[abE,abM,decide_eq_true_eq];constructor
 .intro q;apply ahs h;intro i a b;have:=q i (by simpa);rw[decide_eq_true_eq,aas,aas,lD a,lD b]at this;exact this
 .rintro rfl j _;exact decide_eq_true rfl
theorem J7{s:GT}{x y:V}{v u:Ad}{m:MSt}{r1 r2:R}{xs ys:List Str}(I:Inv X pins σ' H s)(f:Rel X.kx α m σ H)(G:RelR X.kx α H0 H r1 x)(z:RelR X.kx α H1 H r2 y)(o:RelV x v)(B:RelV y u)
  (E:lsOf m r1=some (xs.map .str)) (n:lsOf m r2=some (ys.map .str)) (S:xs.length=ys.length) (T:X.A.units+64<cLine):∃l b c i,v = .ref l/\u = .ref b/\s.heap.IsList l c/\s.heap.IsList b i/\c.size=xs.length/\i.size=xs.length/\
   ∀j (N:j<c.size) (L:j<i.size),af1 X.A.in1 s c[j] i[j] (decide (xs.getD j ae9=ys.getD j ae9)):=by
 let⟨a,W,rfl,Q,O⟩:=G.list f E;let⟨b,U,rfl,D,C⟩:=z.list f n;have q:=iM O;have P:=iM C;subst q P
 cases o;cases B
 let⟨c,d,K,_⟩:=I.list Q;let⟨i,r,M,_⟩:=I.list D;have h:=d.length;have g:=r.length;rw[iO]at h g;refine⟨a,b,c.toArray,i.toArray,rfl,rfl,K.isList,M.isList,by simp[h],by simp[<-g,S],λj N L=>?_⟩;let⟨x,t,F,k⟩:=qC d (j:=j) (u:=c.toArray[j]) 'a';let⟨y,J,p,w⟩:=qC r (j:=j) (u:=i.toArray[j]) 'a';rw[k,w,aas,aas,F,p];have:=af1.str_str (A:=X.A.in1) (s:=s) x t y J;have e:(x==y)=decide (x=y):=by rw[aeu]
 simp_all
theorem bh(j:X.A.units+64<cLine):OpR X (aaW .Eq) (rM X.kx oEq):=by
 intro p s c H x y v u Q I g r ⟨B,m,D,A,F,r1,C,K,R,d,i,h,f⟩;rcases h with h|⟨z,t,rfl,rfl,h⟩|⟨n,o,a,e,k,h⟩
 .unfold eqD at h
  split at h
  .rename_i d1 d2 a e;let⟨E,q⟩:=d.reads I R g a (aa9 _ (adb h.1));let⟨bs,w⟩:=i.reads I R r e (aa9 _ (adb h.2.1));exact eq_dataH q w h.1 h.2.1 j ⟨.bl _,H,I,rfl,f _ _ H h.2.2 R (jJ _) (Frm.refl _ _)⟩
  .exact h.elim
 .have a:=bo (show Den X.kx H (.str z) x from d);have e:=bo (show Den X.kx H (.str t) y from i);subst a e;refine W5 p s c H _ _ v u Q I g r ⟨rfl,?_⟩;rw[qW];exact f _ _ H h R (jJ _) (Frm.refl _ _)
 .obtain⟨l,b,its,its2,rfl,rfl,p1,p2,s1,s2,he⟩:=J7 I R d i g r a e k j;refine SeqAt.eq_listAt p1 p2 (s1.trans s2.symm) ∅ he ?_;rw[s1,uv n o k];exact⟨.bl _,H,I,rfl,f _ _ H h R (jJ _) (Frm.refl _ _)⟩
theorem t9(g:X.A.units+64<cLine):OpR X (aaW .NotEq) (rM X.kx oNe):=by
 intro p s a H x y v u Q I c r ⟨k,m,n,j,w,r1,l,K,R,b,d,h,f⟩;rcases h with h|⟨z,t,rfl,rfl,h⟩
 .unfold eqD at h
  split at h
  .rename_i d1 d2 e1 e;let⟨o,q⟩:=b.reads I R c e1 (aa9 _ (adb h.1));let⟨bs,i⟩:=d.reads I R r e (aa9 _ (adb h.2.1));exact ne_dataH q i h.1 h.2.1 g ⟨.bl _,H,I,rfl,f _ _ H h.2.2 R (jJ _) (Frm.refl _ _)⟩
  .simp_all
 .have e1:=bo (show Den X.kx H (.str z) x from b);have e:=bo (show Den X.kx H _ y from d);subst e1 e;refine VY p s a H _ _ v u Q I c r ⟨rfl,?_⟩;rw[qW];exact f _ _ H h R (jJ _) (Frm.refl _ _)
def isNone:R->Bool
 | .imm .none=>true
 |_=>false
def oIsN:WO:=λr1 r _ K=>r = .imm .none/\K (.imm (.bool (isNone r1)))
def C9:WO:=λr1 r _ K=>r = .imm .none/\K (.imm (.bool (!isNone r1)))
theorem ph(h:RelR K α Hb H r v):decide (v = .non)=isNone r:=by
 cases r with
 |obj k=>let⟨a,_,rfl⟩:=h;rfl
 |new ds=>let⟨a,_,rfl,_⟩:=h;rfl
 | «at» k p=>let⟨f,a,_,_,rfl⟩:=h;rfl
 |newT t=>let⟨f,a,rfl,_⟩:=h;rfl
 |imm d=>
  cases d with
  |none=>have e:=g9 (show Den K H .none v from h);subst e;rfl
  |bool b=>have e:=jl (show Den K H _ v from h);subst e;rfl
  |int b=>have e:=aC (show Den K H _ v from h);subst e;rfl
  |str b=>have e:=bo (show Den K H _ v from h);subst e;rfl
  |list ds=>have c:=h;let⟨a,_,rfl,_⟩:=c;rfl
  |tuple ds=>let⟨a,_,rfl,_⟩:=bQ (h);rfl
  |dict g=>have c:=h;let⟨a,rfl,_⟩:=c;rfl
theorem Mq:OpR X (aaW .Is) (rM X.kx oIsN):=by
 intro p s a H x y v u Q I c r ⟨j,m,l,i,n,r1,k,K,R,b,d,h,f⟩;let⟨e,h⟩:=h;subst e;have g:=g9 (show Den X.kx H .none y from d);exact QM p s a H _ _ v u Q I c r ⟨g,by rw[ph b];exact f _ _ H h R (jJ _) (Frm.refl _ _)⟩
theorem oO:OpR X (aaW .IsNot) (rM X.kx C9):=by
 intro p s a H x y v u Q I c r ⟨j,m,l,i,n,r1,k,K,R,b,d,h,f⟩;let⟨e,h⟩:=h;subst e;have g:=g9 (show Den X.kx H .none y from d);exact Lh p s a H _ _ v u Q I c r ⟨g,by rw[ph b];exact f _ _ H h R (jJ _) (Frm.refl _ _)⟩
def uNeg:WU
 | .imm (.int i),_,K=>K (.imm (.int (-i)))
 |_,_,_=>False
theorem jw:UnR X (unaryOp .USub) (uM X.kx uNeg):=by
 intro p s a H x v Q I r ⟨d,m,g,c,r1,K,R,b,h,f⟩;unfold uNeg at h
 split at h
 .rename_i _ i;have e:=aC (show Den X.kx H _ x from b);subst e;exact Uc p s a H _ v Q I r ⟨i,rfl,f _ _ H h R (dU _) (Frm.refl _ _)⟩
 .simp_all
def B7(m:MSt)(K:R->Prop):R->R->Prop
 | .imm (.tuple ds),.imm (.int i)=>∃d,atI ds i=some d/\K (.imm d)
 | .imm (.str x),.imm (.int i)=>∃c,x.length≤aak/\atI x.cps.toList i=some c/\K (.imm (.str ⟨#[c]⟩))
 |r,.imm (.int i)=>∃ds d,lsOf m r=some ds/\atI ds i=some d/\K (.imm d)
 |_,_=>False
def mI:WO:=λr1 r m K=>B7 m K r1 r
theorem z6{K:Kx}{i:Int}{d:aD}(g:DenAll K H ds xs)(e:atI ds i=some d):∃v,atI xs i=some v/\Den K H d v:=by
 unfold atI at e⊢;rw[<-g.length]
 cases q:ixN ds.length i with
 |none=>rw[q]at e;cases e
 |some j=>
  rw[q]at e;let⟨v,h,a⟩:=g.get (e);exact⟨v,h,a⟩
theorem OT:IxR X (rM X.kx mI):=by
 intro h b p s n H x y v u Q I B r ⟨O,m,P,N,S,r1,M,L,R,A,E,J,o⟩ l;have j:B7 m L r1 M:=J;unfold B7 at j
 split at j
 .rename_i ds i;let⟨d,e,k⟩:=j;let⟨a,t,rfl,f,g⟩:=bQ (A);have q:=aC (show Den X.kx H (.int i) y from E);let⟨z,D,C⟩:=z6 g e;exact TX h b p s n H _ _ v u Q I B r ⟨a,t,i,z,rfl,q,f,D,o _ _ H k R (og C) (Frm.refl _ _)⟩ l
 .rename_i w i;let⟨c,G,e,k⟩:=j;have F:=bo (show Den X.kx H (.str w) x from A);have q:=aC (show Den X.kx H (.int i) y from E);exact Va h b p s n H _ _ v u Q I B r ⟨w,i,c,F,q,G,e,o _ _ H k R (Jw _) (Frm.refl _ _)⟩ l
 .rename_i i _ _;let⟨ds,d,K,e,k⟩:=j;let⟨a,t,rfl,f,g⟩:=A.list R K;have q:=aC (show Den X.kx H (.int i) y from E);let⟨z,D,C⟩:=z6 g e;exact Cq h b p s n H _ _ v u Q I B r ⟨a,t,i,z,rfl,q,f,D,o _ _ H k R (og C) (Frm.refl _ _)⟩ l
 .exact j.elim
theorem WX{a b:Expr}{c w:WE}(d:ME X a c)(e:ME X b w)(f:ls b:=by intro _ _;rfl):ME X (.Subscript a b pos) (wBin mI c w):=(UR OT d e f).wk λ_ _ _ h=>rQ h
end
abbrev Fy(P:Int->Prop):R->Prop
 | .imm (.int i)=>P i
 |_=>False
abbrev DU(P:Nat->Prop):R->Prop
 | .obj k=>P k
 |_=>False
abbrev on1(P:R->Prop):List R->Prop
 |[r]=>P r
 |_=>False
section
variable {K:Kx}{b:Al}{c H:Hp}{r:R}{v:V}
theorem Jj{P:Int->Prop}(rr:RelR K b c H r v)(h:Fy P r):∃i,r = .imm (.int i)/\v = .int i/\P i:=by
 unfold Fy at h
 split at h
 .exact⟨_,rfl,aC (K:=K) (H:=H) rr,h⟩
 .simp_all
theorem Jo{P:Nat->Prop}(rr:RelR K b c H r v)(h:DU P r):∃k a,r = .obj k/\b[k]?=some (.L a)/\v = .ref a/\P k:=by
 unfold DU at h
 split at h
 .obtain⟨a,e1,e2⟩:=rr;exact⟨_,a,rfl,e1,e2,h⟩
 .simp_all
theorem fv{P:R->Prop}{rs:List R}(rr:RelRs K b c H rs xs)(h:on1 P rs):∃r v,rs=[r]/\xs=[v]/\RelR K b c H r v/\P r:=by
 cases rr with
 |nil=>exact h.elim
 |cons a t=>
  cases t with
  |nil=>exact⟨_,_,rfl,rfl,a,h⟩
  |cons _ _=>exact h.elim
end
section
variable {X:Cx}{o a b c e:Expr}{z:List Expr}{A D E G B J:WE}{C:WA}{pos y j:Pos}
abbrev WM:=R->List R->MSt->(R->MSt->Prop)->Prop
def mM(K:Kx)(k:WM):V->List V->Hp->VK->Prop:=λx n H Q=>∃d m i l p r rs h,Rel K d m i H/\RelR K d l H r x/\RelRs K d p H rs n/\k r rs m h/\∀r g v f,h r g->g.np=m.np->Rel K d g i f->RelR K d H f r v->Frm d H f->Q v f
abbrev wML(d:WM)(A:WE)(C:WA):WE:=λm K=>A m λr m1=>(∃ds,lsOf m1 r=some ds)/\C m1 λrs m2=>d r rs m2 K
theorem Yc{w:WM}(h:tM X.kx (wML w A C) σ H Q):tBM X.K "list" (mM X.kx w) (tM X.kx A) (tMA X.kx C) σ H Q:=by
 let⟨p,m,M,u,O,t⟩:=h;refine⟨p,m,_,u,O,λr m1 v P k n1 R rr x=>?_⟩;let⟨⟨ds,L⟩,k⟩:=k;let⟨a,I,rfl,f,g⟩:=rr.list R L;refine⟨.inl ⟨rfl,I,f⟩,p,m1,_,R,k,λrs m2 vs S k2 n2 d i l=>?_⟩;exact⟨p,m2,σ,H,P,r,rs,M,d,rr.keep u R l,i,k2,λr K v N k n s q F=>t r K v N k (n.trans (n2.trans n1)) s (q.base d (x.trans l)) ((x.trans l).trans F)⟩
theorem XQ{name:Str}{id:String}{l:WM}(slot:Slot "list" name id)(k:typeOf (.builtin id)=pure (.type "method_descriptor"))(n:MtM X id (mM X.kx l))(m:ME X o A)(p:MA X (e::z) C)
  (f:abz o name X.env (eval o X.env)=eval o X.env:=by rfl)
  (i:((abq j (aac (e::z) X.env)).all (λx=>!x.1)&&(acY j (ab2 [] X.env)).all (λx=>x.1.isSome)
   && decide ((e::z).length+([]:List ac6).length+(if ([]:List ac6).isEmpty then 0 else 1)<30))=true:=by rfl)
  (g:(y.endLine==j.line)=true:=by rfl) (q:aac (e::z) X.env=(false,eval e X.env)::aac z X.env:=by first|exact aH rfl|rfl) (d:(abq j (aac z X.env)).any (·.1)=false:=by rfl) :
  ME X (.Call (.Attribute o name y) (e::z) [] j) (wML l A C):=(Uy PySem.F.plainAttrs_list slot k n m p f i g q d).wk λ_ _ _ h=>Yc h
def AF:WM:=λr rs m K=>DU (λk=>on1 (kq λd=>∃ds,m.os[k]?=some ds/\ds.length<aak/\K (.imm .none) {m with os:=m.os.set k (ds++[d])}) rs) r
theorem yx:MtM X "list.append" (mM X.kx AF):=by
 intro p s f H x P v L Q I K M ⟨T,m,W,O,Y,r,rs,U,R,w,i,h,l⟩;let⟨k,a,rfl,n,rfl,h⟩:=Jo w h;let⟨V,S,rfl,rfl,i,h⟩:=fv i h;let⟨d,rfl,hd,ds,t,u,h⟩:=gj i h;let⟨N,q,g⟩:=R.own _ _ ds n t;let⟨R2,F⟩:=R.setO n q (g.append (DenAll.cons hd DenAll.nil));exact nG p s f H _ _ v L Q I K M ⟨a,N,_,rfl,rfl,q,by rw[<-g.length];exact u,l _ _ _ _ h rfl R2 vH F⟩
def lenR(m:MSt)(K:R->Prop):R->Prop
 | .imm (.str x)=>x.length≤aak/\K (.imm (.int x.length))
 | .imm (.tuple ds)=>K (.imm (.int ds.length))
 |r=>∃ds,lsOf m r=some ds/\K (.imm (.int ds.length))
abbrev oLen:WC:=λrs m K=>on1 (lenR m K) rs
theorem bV:dF X (.builtin "len") (cM X.kx oLen):=by
 intro p s i H w u Q I n ⟨F,m,L,t,rs,K,R,h,d,k⟩;let⟨r,v,rfl,rfl,l,d⟩:=fv h d;unfold lenR at d
 split at d
 .rename_i x _;have e:=bo (show Den X.kx H _ _ from l);subst e;exact sU p s i H _ u Q I n ⟨x,rfl,d.1,k _ _ H d.2 R (dU _) (Frm.refl _ _)⟩
 .obtain⟨a,q,rfl,f,g⟩:=bQ (l);exact j4 p s i H _ u Q I n ⟨a,q,rfl,.inr f,by rw[<-g.length];exact k _ _ H d R (dU _) (Frm.refl _ _)⟩
 .obtain⟨ds,el,d⟩:=d;let⟨a,q,rfl,f,g⟩:=l.list R el;exact j4 p s i H _ u Q I n ⟨a,q,rfl,.inl f,by rw[<-g.length];exact k _ _ H d R (dU _) (Frm.refl _ _)⟩
abbrev intR(K:R->Prop):R->Prop
 | .imm (.int i)=>K (.imm (.int i))
 | .imm (.bool b)=>K (.imm (.int (if b then 1 else 0)))
 |_=>False
abbrev oInt:WC:=λrs m K=>on1 (intR K) rs
theorem lM:dF X (.type "int") (cM X.kx oInt):=by
 intro p s f H x u Q I l ⟨q,m,t,n,rs,K,R,h,d,g⟩;let⟨r,v,rfl,rfl,k,d⟩:=fv h d;unfold intR at d
 split at d
 .rename_i i _;have e:=aC (show Den X.kx H _ _ from k);subst e;exact uo p s f H _ u Q I l (.inl ⟨i,rfl,g _ _ H d R (dU _) (Frm.refl _ _)⟩)
 .rename_i i _;have e:=jl (show Den X.kx H _ _ from k);subst e;exact uo p s f H _ u Q I l (.inr ⟨i,rfl,g _ _ H d R (dU _) (Frm.refl _ _)⟩)
 .simp_all
def sqOf(m:MSt):R->Option (List aD)
 | .imm (.tuple ds)=>some ds
 |r=>lsOf m r
theorem RelR.seq{K:Kx}{m:MSt}(R:Rel K α m σ H)(h:RelR K α H0 H r v)(e:sqOf m r=some ds):∃a xs,v = .ref a/\(SqL K H a xs\/SqT K H a xs)/\DenAll K H ds xs:=by
 unfold sqOf at e
 split at e
 .cases e;let⟨a,d,e,f,g⟩:=bQ (h);exact⟨a,d,e,.inr f,g⟩
 .obtain⟨a,d,e,f,g⟩:=h.list R e;exact⟨a,d,e,.inl f,g⟩
def Jp:WC:=λrs m K=>on1 (λr=>∃ds,sqOf m r=some ds/\K (.imm (.tuple ds))) rs
theorem cZ:dF X (.type "tuple") (cM X.kx Jp):=by
 intro p s k H F u Q I t ⟨K,m,M,x,rs,L,R,h,d,i⟩;let⟨r,v,rfl,rfl,q,d⟩:=fv h d
 .obtain⟨ds,e,d⟩:=d;let⟨a,w,rfl,f,g⟩:=q.seq R e;refine qk p s k H _ u Q I t ⟨a,w,rfl,?_⟩;rcases f with f|f
  .exact .inl ⟨f,λl n=>i _ _ _ d (R.lay n) (og (e8 (SqT.of ay) (g.mono (bj (.inl n))))) (cu n)⟩
  .exact .inr ⟨f,i _ _ _ d R (og (e8 f g)) (Frm.refl _ _)⟩
def sM(K:Kx)(o:R->Option Int->Option Int->MSt->(R->Prop)->Prop):V->Option Int->Option Int->Hp->VK->Prop:=λx l k H Q=>∃d m h i r g,Rel K d m h H/\RelR K d i H r x/\o r l k m g/\∀r v f,g r->Rel K d m h f->RelR K d H f r v->Frm d H f->Q v f
def cutD(xs:List aD)(lo h:Option Int):List aD:=(xs.drop (HT.sIx xs.length 0 lo)).take (HT.sIx xs.length xs.length h-HT.sIx xs.length 0 lo)
def AG(g:DenAll K H ds xs)(lo h:Option Int):DenAll K H (cutD ds lo h) (cutV xs lo h):=by
 unfold cutD cutV;rw[<-g.length];exact(g.drop _).take _
def XJ:R->Option Int->Option Int->MSt->(R->Prop)->Prop:=λr l h m K=>∃ds,lsOf m r=some ds/\K (.new (cutD ds l h))
theorem G9:SlR X (sM X.kx XJ):=by
 intro d s l H x v vl N t q M Q I K L u w F;let⟨S,m,U,P,r,T,R,h,⟨ds,e,k⟩,n⟩:=F;let⟨a,O,rfl,f,g⟩:=h.list R e;exact Nw d s l H _ v vl N t q M Q I K L u w ⟨a,O,rfl,f,λp i=>n _ _ _ k (R.lay i) ⟨p,_,rfl,i,ay,(AG g t q).mono (bj (.inl i))⟩ (cu i)⟩
def WO1:=MSt->(Option Int->MSt->Prop)->Prop
def tMO(K:Kx)(w:WO1):TO:=λi H Q=>∃g m h,Rel K g m i H/\w m h/\∀r f d,h r f->f.np=m.np->Rel K g f i d->Frm g H d->Q r d
abbrev BP:WO1:=λm K=>K none m
abbrev Ur(w:WE):WO1:=λm K=>w m λr d=>Fy (λi=>K (some i) d) r
theorem PO.wk{X:Cx}{e:Option Expr}{t t':TO}(h:PO X e t)(k:∀d H Q,t' d H Q->t d H Q):PO X e t':=λp s d H Q I q=>h p s d H Q I (k _ _ _ q)
abbrev MO(X:Cx)(e:Option Expr)(w:WO1):Prop:=PO X e (tMO X.kx w)
theorem MH:MO X none BP:=(KJ).wk<|by intro d H Q ⟨g,m,K,R,h,f⟩;exact f none m H h rfl R (Frm.refl _ _)
theorem J5(h:ME X e B):MO X (some e) (Ur B):=(Ph h).wk<|by
 intro p H Q ⟨g,m,K,d,l,f⟩;refine⟨g,m,_,d,l,λr m1 v n k n1 R rr F=>?_⟩;let⟨i,rfl,rfl,k⟩:=Jj rr k;exact⟨i,rfl,f _ m1 n k n1 R F⟩
abbrev wSl(g:R->Option Int->Option Int->MSt->(R->Prop)->Prop)(B:WE)(w wh:WO1):WE:=λm K=>B m λr m1=>w m1 λl m2=>wh m2 λu d=>g r l u d λf=>K f d
theorem D9{w wh:WO1}{V:Pos}(L:SlR X (sM X.kx ob))(W:ME X e B)(O:MO X lo w)(I:MO X hi wh):ME X (.Subscript e (.Slice lo hi none V) pos) (wSl ob B w wh):=(Ic L W O I).wk<|by intro Y H Q ⟨g,m,Z,h,N,q⟩;exact
 ⟨g,m,_,h,N,λr m1 v H1 k n1 R rr t=>⟨g,m1,_,R,k,λl m2 H2 k2 n2 f n=>⟨g,m2,_,f,k2,λu s H3 K P d F=>⟨g,s,Y,H,r,_,d,(rr.keep h R n).keep h f F,K,λS T M x p i U=>q S s T M x (P.trans (n2.trans n1)) p (i.base d ((t.trans n).trans F)) (((t.trans n).trans F).trans U)⟩⟩⟩⟩
end
def agV:Nat->List Ag->List (Option R)
 |_,[]=>[]
 |k,.imm d::as=>some (.imm d)::agV k as
 |k,.own _::as=>some (.obj k)::agV (k+1) as
 |k,.tr _::as=>some (.at k [])::agV (k+1) as
def agO:List Ag->List (List aD)
 |[]=>[]
 | .imm _::as=>agO as
 | .own ds::as=>ds::agO as
 | .tr t::as=>[t]::agO as
def d4(n:Nat)(as:List Ag):MSt:=⟨agV 0 as++aaq (n-as.length) none,agO as,(agO as).length⟩
def outR(m:MSt):R->R
 | .imm d=>.imm d
 | .new ds=>.new ds
 | .newT t=>.newT t
 | .obj k=>if k<m.np then .obj k else .new (m.os.getD k [])
 | .at k p=>if k<m.np then .at k p else match p,m.os[k]? with
  |[],some [t]=>.newT t
  |_,_=>.at k p
theorem dq:∀(k:Nat) (as:List Ag),(agV k as).length=as.length
 |_,[]=>rfl
 |k,.imm d::as=>by simp[agV,dq k as]
 |k,.own _::as=>by simp[agV,dq (k+1) as]
 |k,.tr _::as=>by simp[agV,dq (k+1) as]
section
variable {K:Kx}{H:Hp}
theorem RelAs.facts{K:Kd}:∀{as:List Ag}{vs:List V}{β:Al}{pre:Al},RelAs K H as vs β ->
  (agO as).length=β.length/\(∀(k:Nat) (ao:Ao) (ds:List aD),β[k]?=some ao->(agO as)[k]?=some ds->OwnAt K H ao ds)/\
   ∀(i:Nat) (r:R),(agV pre.length as)[i]?=some (some r)->∃v,vs[i]?=some v/\RelS K (pre++β) H r v
 |_,_,_,_,.nil=>⟨rfl,λk a ds h=>by simp at h,λi r h=>by simp[agV]at h⟩
 | _,_,β,pre,.imm (as:=as) hd t=>by
  let⟨d,f,g⟩:=t.facts (pre:=pre);refine⟨d,f,λi r h=>?_⟩
  cases i with
  |zero=>simp[agV]at h;subst h;exact⟨_,rfl,hd⟩
  |succ i=>
   let⟨v,e,q⟩:=g i r (by simpa[agV]using h);exact⟨v,by simpa using e,q⟩
 | _,_,_,pre,.own (a:=a) (β:=β) ha t=>by
  let⟨d,f,g⟩:=t.facts (pre:=pre++[.L a]);refine⟨by simp[agO,d],λk b ds c z=>?_,λi r h=>?_⟩
  .cases k with
   |zero=>simp[agO]at c z;subst c;subst z;exact ha
   |succ k=>exact f k b ds (by simpa using c) (by simpa[agO]using z)
  .cases i with
   |zero=>simp[agV]at h;subst h;exact⟨_,rfl,a,'a',rfl⟩
   |succ i=>
    let⟨v,e,q⟩:=g i r (by simpa[agV]using h);refine⟨v,by simpa using e,?_⟩;rw[aaY]at q;exact q
 | _,_,_,pre,.tr (a:=a) (τ:=τ) (β:=β) ha el t=>by
  let⟨d,f,g⟩:=t.facts (pre:=pre++[.T τ]);refine⟨by simp[agO,d],λk b ds c z=>?_,λi r h=>?_⟩
  .cases k with
   |zero=>simp[agO]at c z;subst c;subst z;exact ha
   |succ k=>exact f k b ds (by simpa using c) (by simpa[agO]using z)
  .cases i with
   |zero=>simp[agV]at h;subst h;exact⟨_,rfl,τ,a,'a',el,rfl⟩
   |succ i=>
    let⟨v,e,q⟩:=g i r (by simpa[agV]using h);refine⟨v,by simpa using e,?_⟩;rw[aaY]at q;exact q
theorem ul(m:N.length=nN)(b:n≤nN)(o:as.length=n)(nd:(ads β).Nodup)(a:RelAs K H as vs β)(g:K.eb.np≤(agO as).length)(k:Ext K.eb.np K.eb.be K.eb.H β H):Rel K β (d4 nN as) (start N vs) H:=by
 let⟨h,j,l⟩:=a.facts (pre:=[]);have d:=a.length;refine⟨nd,by rw[<-h];rfl,j,?_,λi r e=>?_,by rw[<-h];exact aab _,g,k⟩
 .unfold start d4;simp only[aao,iO,acg,dq];omega
 .have e':(agV 0 as++aaq (nN-as.length) none)[i]?=some (some r):=e
  by_cases c:i<as.length
  .rw[aaE (by rw[dq];exact c)]at e';let⟨v,f,q⟩:=l i r e';refine⟨v,?_,by simpa using q⟩;unfold start;rw[aaE (by rw[iO];omega),aaj,f];rfl
  .rw[aaP (by rw[dq];omega),aea]at e'
   split at e'<;>cases e'
theorem qg{m:MSt}(r:RelAs K H as vs β)(d:m.np=(agO as).length)(R:Rel K α' m σ' H')(x:Ext (agO as).length β H α' H'):zT K H' β (m.os.take m.np)/\Frm β H H'/\β=α'.take (agO as).length:=by
 let⟨h,f,g⟩:=r.facts (pre:=[]);have e:α'.take (agO as).length=β:=by rw[x.pre,h,aav]
 refine⟨⟨?_,λj a ds b z=>?_⟩,x.frm,e.symm⟩
 .have:=R.npl;rw[R.len]at this
  grind
 .rw[<-e,aaR]at b;rw[d,aaR]at z
  by_cases c:j<(agO as).length
  .rw[if_pos c]at b z;exact R.own j a ds b z
  .simp_all
theorem KU{m:MSt}(D:m.np=(agO as).length)(R:Rel K α' m σ' H')(x:Ext (agO as).length β H α' H')(f:β=α'.take (agO as).length)(rr:RelR K α' H H' r v)
  (ok:∀k p,r = .at k p->k<m.np\/(p=[]/\∃t,m.os[k]?=some [t])):RelR K β H H' (outR m r) v:=by
 have out:∀{k:Nat}{c:Ao},¬k<m.np->α'[k]?=some c->∀b∈c.ads,H b=none:=λ{k c} hk e b n=>by
  rcases x.new b (j5 e n)with z|z
  .exfalso;rw[f]at z;let⟨j,B,ej,u⟩:=ja z;rw[aaR]at ej
   by_cases o:j<(agO as).length
   .rw[if_pos o]at ej;exact gL R.nd e ej ∅ n u
   .rw[if_neg o]at ej;cases ej
  .exact z
 have i:∀{k:Nat}{c:Ao},k<m.np->α'[k]?=some c->β[k]?=some c:=λ{k c} hk e=>by
  simp_all
 cases r with
 |imm d=>exact rr
 |new ds=>exact rr
 |newT t=>exact rr
 | obj k=>
  let⟨a,e,rfl⟩:=rr;unfold outR
  by_cases hk:k<m.np
  .simp only[hk,if_true];exact⟨a,i hk e,rfl⟩
  .simp only[hk,if_false];have h:k<m.os.length:=by rw[<-R.len];exact(AD.mp e).1
   have C:m.os[k]?=some (m.os.getD k []):=by rw[aas,lD h];rfl
   let⟨w,A,y⟩:=R.own k _ _ e C;exact⟨a,w,rfl,out hk e a (aad.mpr rfl),A,y⟩
 | «at» k p=>
  let⟨q,a,e,l,rfl⟩:=rr;unfold outR
  by_cases hk:k<m.np
  .simp only[hk,if_true];exact⟨q,a,i hk e,l,rfl⟩
  .simp only[hk,if_false];rcases ok k p rfl with z|⟨rfl,t,s⟩
   .exact(hk z).elim
   .rw[s];have g:=R.own k _ _ e s;exact⟨q,a,rfl,l,((fE α').mp R.nd).1 _ (LD e),out hk e,g⟩
def okR(m:MSt):R->Prop
 | .at k p=>k<m.np\/(p=[]/\∃t,m.os[k]?=some [t])
 |_=>True
theorem okR.at{m:MSt}(h:okR m r):∀k p,r = .at k p->k<m.np\/(p=[]/\∃t,m.os[k]?=some [t]):=λk p e=>by subst e;exact h
def retK(a:R->List (List aD)->Prop)(m:MSt):R->Prop
 | .at k p=>okR m (.at k p)/\a (outR m (.at k p)) (m.os.take m.np)
 | .imm d=>a (.imm d) (m.os.take m.np)
 | .new ds=>a (.new ds) (m.os.take m.np)
 | .obj k=>a (outR m (.obj k)) (m.os.take m.np)
 | .newT t=>a (.newT t) (m.os.take m.np)
theorem retK.ok{a:R->List (List aD)->Prop}{m:MSt}(h:retK a m r):okR m r/\a (outR m r) (m.os.take m.np):=by
 cases r with
 | «at» k p=>exact h
 |imm d=>exact⟨trivial,h⟩
 |new ds=>exact⟨trivial,h⟩
 |obj k=>exact⟨trivial,h⟩
 |newT t=>exact⟨trivial,h⟩
theorem fn_m{E:XK}(o:K.eb=⟨0,[],λ_=>none⟩)(h:spOf K n sp vs H Q E)(s:N.length=nN)(e:n≤nN)
  (B:∀as b,as.length=n->sp as b->w {nx:=λm=>b (.imm .none) (m.os.take m.np),rt:=λr m=>retK b m r} (d4 nN as)):tMS K w {nx:=λ_ c=>Q .non c,rt:=Q} (start N vs) H:=by
 let⟨as,y,b,p,nd,k,g,f⟩:=h;have t:=ul s e p nd k (by rw[o];exact abJ _) (by rw[o];exact⟨rfl,λ_ _ z=>(by cases z),λ_ _=>.inr rfl,λa A=>(by cases A)⟩);refine⟨y,d4 nN as,_,t,B as b p g,⟨λi u j c q d R x=>?_,λr i u j v c q d R rr x=>?_,λ_ _ _ _ z=>z.elim,λ_ _ _ _ z=>z.elim⟩⟩
 .obtain⟨O,F,_⟩:=qg k d R x;exact f _ _ .non c q O vH F
 .obtain⟨O,F,eβ⟩:=qg k d R x;have l:=retK.ok q;exact f _ _ v c l.2 O (KU d R x eβ rr l.1.at) F
end
structure FnM(P:aaI)(w:World)(K:aae)(mg:Str->Option Ad)(base:aa1)(x:Str)(k n:Nat)(sp:SpM):Prop where
 ex:∃(f:Addr) (fd:ab8) (ps:List Str),FnOk P w K mg base CX0 k f fd ps (spOf ⟨K,w⟩ n sp)/\mg x=some (.ref f)/\abT K (.ref f)=true/\Binds K fd ps []
 ar:∀as Kc,sp as Kc->as.length=n
structure DefM(K:aae)(mg:Str->Option Ad)(x:Str)(st:Stmt)(ps:List Str):Prop where
 ex:∃(f:Addr) (fd:ab8),Fun K x x st f fd/\mg x=some (.ref f)/\Binds K fd ps []
theorem WJ{P:aaI}{w:World}{K:aae}{base:aa1}{k:Nat}(D:DefM K mg x st ps)(S:ak N ps (ab st))(p:ps.length=n)(g:N.length=nN)(d:n≤nN)(ar:∀as b,sp as b->as.length=n)
  (a:∀(c:Ad) (A:abb) (outer:List Env) (s:GT) (H:Hp) (E:XK) (f:Addr),Room k (A.deeper (aeh x (ab st) s.heap.objs.size f c)) ->
   ∃e,MSs (cxOf CX0 P w K mg base N x (ab st) f c A outer s H E).nox (bA st) e/\∀as b,as.length=n->sp as b->e {nx:=λm=>b (.imm .none) (m.os.take m.np),rt:=λr m=>retK b m r} (d4 nN as)) :
  FnM P w K mg base x (k+1) n sp:=by
 let⟨f,fd,F,j,o⟩:=D.ex;refine⟨⟨f,fd,ps,F.ok S (λvs H Q E h=>by rw[p];exact h.len) (λc A outer s H vs Q E l h=>?_),j,F.kp,o⟩,ar⟩;let⟨e,i,q⟩:=a c A outer s H E f l;exact⟨_,i,fn_m rfl h g d q⟩
section
variable {X:Cx}{a:Expr}{e:List Expr}{w:WA}{pos p:Pos}{k n:Nat}{sp:SpM}{x:Str}
theorem Gq(F:FnM X.prog X.w X.K X.mg X.base x k n sp)(d:Room k X.A)(l:MA X (a::e) w)(i:Gl X x:=by rfl)(b:(x=='g')=false:=by decide)(c:aac (a::e) X.env=(false,eval a X.env)::aac e X.env:=by first|exact aH rfl|rfl)(h:(abq pos (aac e X.env)).any (·.1)=false:=by rfl) :
  ME X (.Call (.Name x p) (a::e) [] pos) (BI sp w):=by
 let⟨f,fd,m,G,j,hk,g⟩:=F.ex;exact OO G d i j hk g FZ F.ar l b c h
def d9:aa0 "len" = some (.builtin "len"):=by rfl
def tJ:aa0 "sum" = some (.builtin "sum"):=by rfl
def oG:aa0 "max" = some (.builtin "max"):=by rfl
def QE:aa0 "min" = some (.builtin "min"):=by rfl
def qv:aa0 "isinstance" = some (.builtin "isinstance"):=by rfl
def d3:aa0 "tuple" = some (.type "tuple"):=by rfl
def v5:aa0 "int" = some (.type "int"):=by rfl
def Ot:aa0 "bool" = some (.type "bool"):=by ext K
def se:aa0 "enumerate" = some (.type "enumerate"):=by rfl
end
section
variable {m:MSt}{K:R->MSt->Prop}{v:Bool->MSt->Prop}{z:List R->MSt->Prop}{f:R->Prop}{D:de}{q s C t E F:WE}{l:WA}{p G:WT}{w u:WS}{o:WO}{d:aD}{r r1 r2:R}{i j:Int}{k:Nat}
theorem qO(h:w {D with nx:=λa=>u D a } m):wSeq w u D m:=h
def Re(e:m.vs[n]?=some (some r))(h:K r m):wVar n m K:=⟨r,e,h⟩
def UW(h:p m λc a=>if c=true then w D a else u D a):wIfS p w u D m:=h
def LC(h:p m λc a=>if c=true then q a K else s a K):wIfE p q s m K:=h
def xt{P:Bool->Prop}{b:Bool}(h:P b):onBl P (.imm (.bool b)):=h
theorem jg(h:A):if true=true then A else B:=by simp_all
theorem jf(h:B):if false=true then A else B:=by simp_all
theorem ba{c:Prop}[Decidable c](h:c->A)(a:¬c->B):if decide c=true then A else B:=by simp_all
def Wg(h:f (.imm (.int (-i)))):uNeg (.imm (.int i)) m f:=h
def VX{rs:List R}{P:List aD->Prop}(e:ip rs=some ds)(a:ds.length≤aak)(h:P ds):M9 P (ip rs):=by rw[e];exact⟨a,h⟩
def Ub(h:l m λrs m1=>match iL m1 rs with|some (as,ks)=>ks.Nodup/\sp as λr a=>K (mapR ks r) {m1 with os:=cC m1.os ks a}|none=>False):BI sp l m K:=h
def Yd{rs:List R}{P:List Ag->List Nat->Prop}(e:iL m rs=some (as,ks))(a:ks.Nodup)(h:P as ks):match iL m rs with|some (as,ks)=>ks.Nodup/\P as ks|none=>False:=by rw[e];exact⟨a,h⟩
def VH(h:t m λr a=>qI n D.nx a r):wSet n t D m:=h
def mx(h:P (m.setV n (.imm d))):qI n P m (.imm d):=.inl h
theorem gg(h:P {vs:=m.vs.set n (some (.obj m.os.length)),os:=m.os++[ds],np:=m.np}):qI n P m (.new ds):=.inl (.inl h)
def XR{a:Nat}(h:l m λrs b=>match rs with|[.imm d1,.imm d2]=>D.nx ((b.setV n (.imm d1)).setV a (.imm d2))|_=>False):wPar n a l D m:=h
def x_ls{P:Prop}(e:lsOf m r=some ds)(h:P):(∃ds,lsOf m r=some ds)/\P:=⟨⟨ds,e⟩,h⟩
theorem Gj(e:m.os[k]?=some ds)(a:ds.length<aak)(h:K (.imm .none) {m with os:=m.os.set k (ds++[d])}):AF (.obj k) [.imm d] m K:=⟨ds,e,a,h⟩
def Vg(h:f (.imm (.int (i+j)))):oAdd (.imm (.int i)) (.imm (.int j)) m f:=h
def lc{a:List aD}(c:a.length+b.length≤aak)(h:f (.imm (.tuple (a++b)))):oAdd (.imm (.tuple a)) (.imm (.tuple b)) m f:=⟨c,h⟩
def K6{a:List aD}(c:a.length+b.length≤aak)(h:f (.new (a++b))):oAdd (.new a) (.new b) m f:=⟨a,b,rfl,rfl,c,h⟩
def SU(h:f (.imm (.int (i-j)))):oSub (.imm (.int i)) (.imm (.int j)) m f:=⟨trivial,h⟩
def Ul(a:CFd i j)(h:f (.imm (.int (i/j)))):T6 (.imm (.int i)) (.imm (.int j)) m f:=⟨a,h⟩
def Ki(a:0<j)(h:f (.imm (.int (i%j)))):oMod (.imm (.int i)) (.imm (.int j)) m f:=⟨a,h⟩
def Wm(a:CPow i j)(h:f (.imm (.int (i^j.toNat)))):oPow (.imm (.int i)) (.imm (.int j)) m f:=⟨a,h⟩
def x_lt(h:f (.imm (.bool (decide (i<j))))):oLt (.imm (.int i)) (.imm (.int j)) m f:=h
def x_le(h:f (.imm (.bool (decide (i≤j))))):oLe (.imm (.int i)) (.imm (.int j)) m f:=h
def x_gt(h:f (.imm (.bool (decide (j<i))))):oGt (.imm (.int i)) (.imm (.int j)) m f:=h
def x_ge(h:f (.imm (.bool (decide (j≤i))))):oGe (.imm (.int i)) (.imm (.int j)) m f:=h
def x_eq{d1 d2:aD}(a:asD m r1=some d1)(e:asD m r2=some d2)(s1:abL d1=true)(s2:abL d2=true)(h:f (.imm (.bool (aaa d1 d2)))):oEq r1 r2 m f:=by refine afG ?_;unfold eqD;rw[a,e];exact⟨s1,s2,h⟩
def x_ne{d1 d2:aD}(a:asD m r1=some d1)(e:asD m r2=some d2)(s1:abL d1=true)(s2:abL d2=true)(h:f (.imm (.bool (!aaa d1 d2)))):oNe r1 r2 m f:=by refine afG ?_;unfold eqD;rw[a,e];exact⟨s1,s2,h⟩
theorem XU(h:f (.imm (.bool (decide (i=j))))):oEq (.imm (.int i)) (.imm (.int j)) m f:=x_eq rfl rfl rfl rfl ‹_›
def VB(h:f (.imm (.bool (decide (x=y))))):oEq (.imm (.str x)) (.imm (.str y)) m f:=ada (afG ⟨x,y,rfl,rfl,h⟩)
def Xr(h:f (.imm (.bool (!decide (x=y))))):oNe (.imm (.str x)) (.imm (.str y)) m f:=ada ⟨x,y,rfl,rfl,h⟩
def VJ(h:f (.imm (.bool (isNone r)))):oIsN r (.imm .none) m f:=⟨rfl,h⟩
def DQ(h:f (.imm (.bool (!isNone r)))):C9 r (.imm .none) m f:=⟨rfl,h⟩
def bc(e:atI ds i=some d)(h:f (.imm d)):mI (.imm (.tuple ds)) (.imm (.int i)) m f:=⟨d,e,h⟩
def AK(e:atI ds i=some d)(h:f (.imm d)):mI (.imm (.list ds)) (.imm (.int i)) m f:=⟨ds,d,rfl,e,h⟩
def gG(a:m.os[k]?=some ds)(e:atI ds i=some d)(h:f (.imm d)):mI (.obj k) (.imm (.int i)) m f:=⟨ds,d,a,e,h⟩
def qx(e:atI ds i=some d)(h:f (.imm d)):mI (.new ds) (.imm (.int i)) m f:=⟨ds,d,rfl,e,h⟩
def Ue(h:f (.imm (.int ds.length))):lenR m f (.imm (.tuple ds)):=h
def SV(h:f (.imm (.int ds.length))):lenR m f (.imm (.list ds)):=⟨ds,rfl,h⟩
def UI(h:f (.imm (.int ds.length))):lenR m f (.new ds):=⟨ds,rfl,h⟩
def OX(e:sqOf m r=some ds)(h:f (.imm (.tuple ds))):Jp [r] m f:=⟨ds,e,h⟩
def x_gM(h:P (m.setV n (.imm d))):gM n d m P:=h
def zq(h:P m):PQ [] m P:=⟨rfl,h⟩
def mz(h:g d m λa=>gs ds a P):zy g gs (d::ds) m P:=h
def QZ(e:ds.length=n)(h:gs ds m P):NQ n gs (.tuple ds) m P:=⟨e,h⟩
def RF(h:Ks ⟨ds,none⟩ m):srcR m Ks (.imm (.list ds)):=h
def U6(h:Ks ⟨ds,none⟩ m):srcR m Ks (.imm (.tuple ds)):=h
def Tx(e:m.os[k]?=some ds)(h:Ks ⟨ds,some (k,ds)⟩ m):srcR m Ks (.obj k):=⟨ds,e,h⟩
end
def ai{D:de}{m:MSt}(a:MSt)(e:m=a)(h:w D a):w D m:=e▸h
theorem Xi{i j:Int}(h:(-18446744073709551616<i/\i<18446744073709551616)\/(-18446744073709551616<j/\j<18446744073709551616)):ahc i j:=CMul.ok ‹_›
theorem cfd{i j:Int}(h:0<j)(a:j<1152921504606846976):CFd i j:=⟨h,by
 have:j.natAbs<2^60:=by omega
 have:=(Nat.log2_lt ∅).mpr this;omega⟩
theorem ng:∀ns:List Int,abA (ns.map .int)=true
 |[]=>rfl
 |n::ns=>by simp[ abA,aff,ng ns]
theorem o3:∀ns:List Int,aaD (ns.map .int)≤1
 |[]=>abJ 1
 |n::ns=>by
  have:=o3 ns;simp[aaD,PyData.depth];omega
theorem vm(ns:List Int):abL (.list (ns.map .int))=true:=by
 have h:=o3 ns;have b:(aed (ns.map .int)).depth≤64:=by simp only[PyData.depth];omega
 have a:(aed (ns.map .int)).canLay0=true:=by simp only[aff,ng]
 unfold abL;rw[a,decide_eq_true b];rfl
theorem JN{a:Type}{xs:List a}{i:Int}(c:0≤i)(b:i<xs.length):∃d,xs[i.toNat]?=some d/\atI xs i=some d:=by
 have h:i.toNat<xs.length:=by omega
 refine⟨xs[i.toNat],lD h,?_⟩;unfold atI ixN
 simp_all
theorem Ij{i:Int}(a:0≤i)(b:i<ns.length):∃x:Int,atI (ns.map abf) i=some (.int x):=by
 let⟨d,e,h⟩:=JN (xs:=ns.map abf) a (by simp_all);rw[aaj]at e
 cases q:ns[i.toNat]? with
 |none=>rw[q]at e;cases e
 |some x=>rw[q]at e;cases e;exact⟨x,h⟩
section
variable {X:Cx}{tg a b c e:Expr}{l:List Expr}{y A B C w D:WE}{E:WA}{pos p j:Pos}
def c8:List aD->Option (List Int)
 |[]=>some []
 | .int i::ds=>(c8 ds).map (i :: ·)
 |_::_=>none
theorem ic(h:c8 ds=some ns):ds=ns.map .int:=by
 induction ds generalizing ns with
 |nil=>cases h;rfl
 | cons d ds f=>
  cases d with
  |int i=>
   simp only[c8]at h
   cases q:c8 ds with
   |none=>rw[q]at h;cases h
   |some m=>rw[q]at h;cases h;rw[f q];rfl
  |none=>cases h
  |bool _=>cases h
  |str _=>cases h
  |list _=>cases h
  |tuple _=>cases h
  |dict _=>cases h
theorem du:∀ns:List Int,c8 (ns.map .int)=some ns
 |[]=>rfl
 |n::ns=>by simp[ c8,du ns]
theorem dw{K:Kd}{H:Hp}:∀{ns:List Int}{xs:List V},DenAll K H (ns.map .int) xs->xs=ns.map V.int
 |[],_,h=>by simpa only[ DenAll]
 |n::ns,_,h=>by
  let⟨v,vs,rfl,d,f⟩:=h;have e:=aC d;rw[e,dw f];rfl
def oSum:WC:=λrs m K=>on1 (λr=>∃ds ns,lsOf m r=some ds/\c8 ds=some ns/\K (.imm (.int ns.sum))) rs
theorem zG(S:X.calm=true):dF X (.builtin "sum") (cM X.kx oSum):=by
 intro t s K H x us Q I U ⟨α,m,σ,Y,rs,Kc,R,h,k,o⟩;let⟨r,v,rfl,rfl,P,ds,ns,N,M,k⟩:=fv h k;let⟨a,ys,rfl,f,g⟩:=P.list R N;rw[ic M]at g;have W:=dw g;subst W;let⟨u,rfl,L⟩:=U.one;cases L;let⟨i,n,z,_⟩:=I.list f;have q:=fe n;have d:AllInts i.toArray:=q.allInts;let⟨x,ex⟩:=d.items;have V:s.heap.IsList a (intItems x):=by rw[<-ex];exact z.isList
 refine sum_intListG (I.ok.hd S) V λZ G t' hk=>?_;have J:preSum (numAt x) x.size=ns.sum:=by
  have F:(numsOf i).sum=ns.sum:=by rw[q.numsOf]
  rw[<-F];have O:=congrArg af4 ex;have T:i=(intItems x).toList:=by simpa using O
  rw[T,nums_intItems,preSum_eq,adc 'a']
 rw[J];exact⟨.int ns.sum,H,I.kept (t':=G) hk,⟨_,rfl⟩,o _ _ H k R (dU _) (Frm.refl _ _)⟩
def tyN:aD->String
 | .none=> "NoneType"
 | .bool _=> "bool"
 | .int _=> "int"
 | .str _=> "str"
 | .list _=> "list"
 | .tuple _=> "tuple"
 | .dict _=> "dict"
def tyR:R->String
 | .imm d=>tyN d
 |_=> "list"
def ndR:R->Bool
 | .imm (.dict _)=>false
 | .at _ _=>false
 | .newT _=>false
 |_=>true
def IsT(T:String)(f:String->Bool):Prop:=∀(K:aae) (n:String),n∈["NoneType","bool","int","str","list","tuple"]->PySem.W.kitOne K (.type n) (.type T)=some (f n)
def DG(h:∀n∈["NoneType","bool","int","str","list","tuple"],(if ((ac3 n)==(ac3 T))=true then some true else if PySem.W.kitMeta T=true then(fastBuiltinMro n).map (·.contains (.type T))else none)=some (f n)):IsT T f:=λK n d=>by
 have:=h n d;exact this
def fInt(n:String):Bool:=n == "int" ||n == "bool"
def J9:IsT "int" fInt:=DG (by ext K)
def EF:IsT "bool" (λn=>n == "bool"):=DG (by ext K)
def tm:IsT "tuple" (λn=>n == "tuple"):=DG (by ext K)
def rIsI(K:Kx)(T:String)(f:String->Bool):List V->Hp->VK->Prop:=λx H Q=>∃d m h g r v,Rel K d m h H/\RelR K d g H r v/\ndR r=true/\x=[v,.ty T]/\Q (.bl (f (tyR r))) H
theorem IG(G:IsT T f):dF X (.builtin "isinstance") (rIsI X.kx T f):=by
 intro g s L H xs us Q I rv ⟨α,m,σ,H0,r,v,S,h,F,ex,q⟩;subst ex;let⟨u,c,rfl,J,Y⟩:=rv.two
 cases (show c=ac3 T from Y)
 have done:∀P,EP X g L Q (.bool (f (tyR r))) {s with toks:=P}:=λP=>⟨.bl _,H,I.tok P,rfl,q⟩;have lst:∀{a:Addr}{K:List V},v = .ref a->SqL X.kx H a K->tyR r = "list" -> wpAny (model X.prog X.w) X.A (call (.builtin "isinstance") [u,.type T]) (EP X g L Q) X.xe s:=λ{a K} W M Z=>by
  subst W
  cases (show u=abm a from J)
  let⟨N,_,⟨o,n,i,O,_⟩,_⟩:=I.list M;exact adi PySem.W.kitx_list I.kIn ⟨o,i,O⟩ (by rw[Z];exact G X.K "list" ⋯) (λz=>nomatch z) done
 cases r with
 |obj k=>
  have hh:=h;let⟨a,U,rfl⟩:=hh;have hk:k<m.os.length:=by rw[<-S.len];exact(AD.mp U).1
  let⟨K,i,_⟩:=S.own k _ _ U (lD hk);exact lst rfl (SqL.of i) rfl
 |new ds=>let⟨a,K,rfl,_,i,_⟩:=h;exact lst rfl (SqL.of i) rfl
 | «at» _ _=>cases F
 |newT _=>cases F
 | imm d=>
  cases d with
  |none=>have e:=g9 (show Den X.kx H .none v from h);subst e;cases (show u=af2 from J);exact adi PySem.W.kitx_none I.kIn acE (G X.K "NoneType" ⋯) (λz=>nomatch z) done
  |bool x=>have e:=jl (show Den X.kx H (.bool x) v from h);subst e;cases (show u=ahI x from J);exact adi PySem.W.kitx_bool I.kIn acE (G X.K "bool" ⋯) (λz=>nomatch z) done
  |int x=>have e:=aC (show Den X.kx H (.int x) v from h);subst e;let⟨t,q⟩:=(show ∃t,u=agH x t from J);cases q;exact adi PySem.W.kitx_int I.kIn acE (G X.K "int" ⋯) (λz=>nomatch z) done
  |str x=>have e:=bo (show Den X.kx H (.str x) v from h);subst e;let⟨t,q⟩:=(show ∃t,u=ahP x t from J);cases q;exact adi PySem.W.kitx_str I.kIn acE (G X.K "str" ⋯) (λz=>nomatch z) done
  |list ds=>
   have R:Den X.kx H (.list ds) v:=h;simp only[Den]at R;let⟨a,K,e,M,_⟩:=R;exact lst e M.sq rfl
  |tuple ds=>
   let⟨a,K,rfl,M,_⟩:=bQ (show Den X.kx H (.tuple ds) v from h)
   cases (show u=abm a from J)
   let⟨N,_,⟨o,i,O,_⟩,_⟩:=I.tuple M;exact adi PySem.W.kitx_tuple I.kIn ⟨o,i,O⟩ (G X.K "tuple" ⋯) (λz=>nomatch z) done
  |dict l=>cases F
abbrev wIsT(f:String->Bool)(w:WE):WE:=λm K=>w m λr d=>ndR r=true/\K (.imm (.bool (f (tyR r)))) d
theorem U4(J:ME X e w)(z:IsT T f)(g:X.mg "isinstance" = none)(u:X.mg x=none)(O:aa0 x=some (.type T))(i:Gl X "isinstance":=by rfl)(I:Gl X x:=by rfl)(N:x ≠ "__name__":=by decide)(hd:(x=='g')=false:=by decide)
  (h:aac [e,.Name x j] X.env=(false,eval e X.env)::aac [.Name x j] X.env:=by rfl) (o:aac [.Name x j] X.env=(false,eval (.Name x j) X.env)::aac [] X.env:=by rfl) (d:(abq pos (aac [.Name x j] X.env)).any (·.1)=false:=by rfl) :
  ME X (.Call (.Name "isinstance" p) [e,.Name x j] [] pos) (wIsT f w):=(w4 (IG z) i g qv (uA J (uA (J1 I u O (v:=.ty T) rfl N hd) JB o) h) ⋯ rfl h d).wk<|by intro M H Q ⟨t,m,P,G,L,q⟩;exact
 ⟨t,m,_,G,L,λr s v K k n R rr F=>⟨t,s,M,H,r,v,R,rr,k.1,rfl,q _ s _ K k.2 n R (jJ _) F⟩⟩
def x_nd{P:Prop}(e:ndR r=true)(h:P):ndR r=true/\P:=⟨e,h⟩
end
theorem dB{D:de}(P:Nat->MSt->Prop)(p0:P 0 m1)
  (step:∀(i:Nat) (d:aD) (m:MSt),ds[i]?=some d->m.np=m1.np->P i m->g d m λm2=>w {nx:=P (i+1),ct:=P (i+1),bk:=λf=>D.nx (f.setN m1.np),rt:=λr f=>D.rt r (f.setN m1.np)} m2)
  (h:∀m,m.np=m1.np->P ds.length m->D.nx m):mX ⟨ds,none⟩ g w D m1:=by
 refine⟨P,p0,λi d m e n p=>⟨trivial,step i d m e n p⟩,λm n p=>⟨trivial,?_⟩⟩;have e:m.setN m1.np=m:=by
  let⟨a,b,c⟩:=m;have j:c=m1.np:=n;subst j;rfl
 rw[e];exact h m n p
theorem qf{k:Nat}{a:List aD}{D:de}(P:Nat->MSt->Prop)(p0:P 0 (m1.setN (max m1.np (k+1))))
  (ok:∀i m,P i m->m.os[k]?=some a)
  (step:∀(i:Nat) (d:aD) (m:MSt),ds[i]?=some d->m.np=max m1.np (k+1)->P i m->g d m λm2=>w {nx:=P (i+1),ct:=P (i+1),bk:=λb=>D.nx (b.setN m1.np),rt:=λr b=>D.rt r (b.setN m1.np)} m2)
  (f:∀m,m.np=max m1.np (k+1)->P ds.length m->D.nx (m.setN m1.np)):mX ⟨ds,some (k,a)⟩ g w D m1:=
 ⟨P,p0,λi d m e n p=>⟨ok i m p,step i d m e n p⟩,λm n p=>⟨ok _ m p,f m n p⟩⟩
theorem jy{t:WT}{D:de}{b:MSt}(P:Nat->MSt->Prop)(d:Nat)(p0:P d b)
  (step:∀n m,m.np=b.np->P n m->t m λc e=>if c=true then w {D with nx:=λm2=>∃a,a<n/\P a m2,ct:=λm2=>∃a,a<n/\P a m2,bk:=D.nx} e else D.nx e):v9 t w D b:=⟨P,⟨d,p0⟩,step⟩
def Fi(h:ds.length≤n):cutD ds none (some (n:Int))=ds:=by
 unfold cutD;rw[HT.sIx_none,HT.sIx_nat,Nat.min_eq_right h,Nat.sub_zero,List.drop_zero,aav]
theorem Qe{k:Nat}(h:k<n):ixN n (k:Int)=some k:=by
 unfold ixN;rw[if_pos ∅,if_pos ∅];simp
theorem ie{k:Nat}{m:MSt}(b:m.vs[n]?=some (some (.obj k)))(c:m.np≤k)(a:∀j:Nat,j≠n->m.vs[j]?≠some (some (.obj k)))(h:P {m with os:=m.os.set k ds}):qI n P m (.new ds):=.inr ⟨k,b,c,a,h⟩
theorem bM{a:Type}{xs:List a}{k:Nat}{d x:a}(h:xs[k]?=some x):xs.getD k d=x:=by simp_all
def x_J{w:WE}{m:MSt}{K:R->MSt->Prop}(c:R->MSt->Prop)(h:∀b:R->MSt->Prop,(∀r a,c r a->b r a)->w m b)(J:∀r a,c r a->K r a):w m K:=h K J
def x_JT{w:WT}{m:MSt}{K:Bool->MSt->Prop}(c:Bool->MSt->Prop)(h:∀b:Bool->MSt->Prop,(∀r a,c r a->b r a)->w m b)(J:∀r a,c r a->K r a):w m K:=h K J
theorem x_JS{m:MSt}{D:de}(b:MSt->Prop)(h:∀N:MSt->Prop,(∀a,b a->N a)->w {D with nx:=N} m)(J:∀a,b a->D.nx a):w D m:=h D.nx J
structure Shp(k:Nat)(d:aD):Prop where
 cl:d.canLay0=true
 dp:d.depth≤k
def Shp.mono{k k':Nat}{d:aD}(h:Shp k d)(hk:k≤k'):Shp k' d:=⟨h.cl,aaw h.dp hk⟩
def Shp.ok{k:Nat}{d:aD}(h:Shp k d)(hk:k≤64):abL d=true:=by
 unfold abL;rw[h.cl,decide_eq_true (aaw h.dp hk)];rfl
def cr(i:Int):Shp 0 (.int i):=⟨rfl,aab _⟩
theorem j2{k:Nat}:∀{ds:List aD},(∀d∈ds,Shp k d)->abA ds=true/\aaD ds≤k
 |[],_=>⟨rfl,by simp[aaD]⟩
 |d::ds,h=>by
  let⟨c,f⟩:=j2 λb e=>h b (aaf _ e);have a:=h d aah;refine⟨?_,?_⟩
  .simp only[abA];rw[a.cl,c];rfl
  .show max d.depth _≤k;have:=a.dp;omega
theorem aV{k:Nat}(h:∀d∈ds,Shp k d):Shp (k+1) (.tuple ds):=by
 let⟨a,b⟩:=j2 h;exact⟨by simp[aff];exact a,by show aaD ds+1≤_;omega⟩
theorem xU{k:Nat}(h:∀d∈ds,Shp k d):Shp (k+1) (.list ds):=by
 let⟨a,b⟩:=j2 h;exact⟨by simp only[aff];exact a,by show aaD ds+1≤_;omega⟩
theorem yR(b:Only H)(h:SqL K H a (ns.map V.int)):Den K H (.list (ns.map .int)) (.ref a):=by
 refine⟨a,_,rfl,?_,DenAll.ints _⟩;rcases h with(h|⟨o,h⟩)|h
 .rcases b a with z|_
  .grind
  .grind
 .exact .inl ⟨o,h⟩
 .exact .inr h
theorem Uv{P:aaI}{w:World}{K:aae}{base:aa1}{k:Nat}{f:Addr}(F:Fun K x x st f fd)(S:ak N ps (ab st))(o:ps.length=n)(g:N.length=nN)(b:n≤nN)
  (a:∀(c:Ad) (A:abb) (outer:List Env) (s:GT) (H:Hp) (E:XK) (f:Addr),Room k (A.deeper (aeh x (ab st) s.heap.objs.size f c)) ->
   ∃e,MSs (cxOf CX0 P w K mg base N x (ab st) f c A outer s H E).nox (bA st) e/\∀as d,as.length=n->sp as d->e {nx:=λm=>d (.imm .none) (m.os.take m.np),rt:=λr m=>retK d m r} (d4 nN as)) :
  FnOk P w K mg base CX0 (k+1) f fd ps (spOf ⟨K,w⟩ n sp):=by
 refine F.ok S (λvs H Q E h=>by rw[o];exact h.len) (λc A outer s H vs Q E j h=>?_);let⟨e,i,l⟩:=a c A outer s H E f j;exact⟨_,i,fn_m rfl h g b l⟩
structure DefK(K:aae)(x:Str)(st:Stmt):Prop where
 ex:∃(f:Addr) (fd:ab8),aaO K aay x=some (some (.ref f))/\Fun K x x st f fd
def DefK.of{K:aae}{f:Addr}{o kV d pm b ct:Ad}{an:Option Addr}{sl:Array (Option Ad)}(a:aaO K aay x=some (some (.ref f)))
  (l:K.lookup f=some ⟨o,od,.func (abo x x (ck st) (bA st) (ab st) .none kV d pm an b ct),sl⟩) (c:ady K b x=true) (k:abT K (.ref f)=true):DefK K x st:=⟨f,_,a,sv l c k⟩
theorem DefK.m{K:aae}{h:aa1}(D:DefK K x st)(X:K.In h)(G:h.Ns aay mg)(b:∀(f:Addr) (fd:ab8),Fun K x x st f fd->Binds K fd ps []):DefM K mg x st ps:=by
 let⟨f,fd,a,F⟩:=D.ex;exact⟨f,fd,F,agZ X G a,b f fd F⟩
structure EE(X:Cx)(e:Expr)(w:WE):Prop where
 h:ME X e w
structure ET(X:Cx)(e:Expr)(w:WT):Prop where
 h:MT X e w
structure EW(X:Cx)(e:Expr)(w:WT):Prop where
 h:MW X e w
structure EA(X:Cx)(es:List Expr)(w:WA):Prop where
 h:MA X es w
structure ES(X:Cx)(st:Stmt)(w:WS):Prop where
 h:MS X st w
structure ESs(X:Cx)(st:List Stmt)(w:WS):Prop where
 h:MSs X st w
structure EI(X:Cx)(tg e:Expr)(w:WI):Prop where
 h:MI X tg e w
structure EG(X:Cx)(t:Expr)(w:WG):Prop where
 h:MG X t w
structure EGs(X:Cx)(ts:List Expr)(w:WGs):Prop where
 h:MGs X ts w
structure EO(X:Cx)(e:Option Expr)(w:WO1):Prop where
 h:MO X e w
structure ETs(X:Cx)(ifs:List Expr)(w:WT):Prop where
 h:PTs X ifs (tMT X.kx w)
def EW.pt{w:WT}(h:EW X e w):ET X e w:=⟨h.h.pt⟩
section
variable {X:Cx}{a b c:Expr}{e:List Expr}{w d f:WE}{pos:Pos}
def mh'{i j pos}:EE X (.Constant (.int i) j pos) (wC (.int i)):=⟨U7⟩
def c7{i j pos}:EE X (.Constant (.bool i) j pos) (wC (.bool i)):=⟨XV⟩
def aq{i j pos}:EE X (.Constant (.str i) j pos) (wC (.str i)):=⟨SD⟩
def fQ{j pos}:EE X (.Constant .none j pos) (wC .none):=⟨QL⟩
theorem mv'(i:Nat){pos:Pos}(g:X.N[i]?=some x:=by rfl)(j:Vis X.env.scope x:=by first|exact afG rfl|exact ada (afG rfl)|exact ada (ada rfl))(hd:(x=='g')=false:=by decide)(h:(x==("__classdict__" : Str))=false:=by decide):EE X (.Name x pos) (wVar i):=⟨mv i g j hd h⟩
def ag{op:afb}(g:OpR X (acp op) (rM X.kx o))(i:EE X a w)(h:EE X b d):EE X (.BinOp a op b pos) (wBin o w d):=⟨TW g i.h h.h⟩
def cY(j:OpR X (aaW op) (rM X.kx o))(i:EE X a w)(g:EE X b d)(h:acU op b=false):EE X (.Compare a [op] [b] pos) (wBin o w d):=⟨Ut j i.h g.h h⟩
def ap(j:OpR X (aaW op) (rM X.kx o))(i:EE X a w)(g:EE X b d)(h:acU op b=false):ET X (.Compare a [op] [b] pos) (Bz (wBin o w d)):=⟨Ve j i.h g.h h⟩
def bX(i:EE X a w)(h:∀g,isTrue a X.env g=(do let v <- g;acN a.pos;ad2 [v] (truthy v)):=by intro _;rfl):ET X a (Bz w):=⟨RG i.h h⟩
end
section
variable {X:Cx}{a b c:Expr}{f:List Expr}{w d e:WE}{pos:Pos}
theorem BH{g:CmpOp}(k:OpR X (aaW op) (rM X.kx o))(h:OpR X (aaW g) (rM X.kx o'))(j:EE X a w)(l:EE X b d)(m:EE X c e)(i:lastMarks [op,g] [b,c]=false:=by with_unfolding_all rfl):EE X (.Compare a [op,g] [b,c] pos) (Dt o o' w d e):=⟨Ig k h j.h l.h m.h i⟩
end
section
variable {X:Cx}{a b c:Expr}{g:List Expr}{w e i:WE}{pos:Pos}
variable {d f:WT}{rest:List Expr}
def fH(h:ET X a d):EW X (.BoolOp .And [a] pos) d:=⟨Lg h.h⟩
def iZ(h:ET X a d):EW X (.BoolOp .Or [a] pos) d:=⟨QF h.h⟩
def fy(j:ET X a d)(h:EW X (.BoolOp .And (b::rest) pos) f):EW X (.BoolOp .And (a::b::rest) pos) (wAnd d f):=⟨RQ j.h h.h⟩
def jk(j:ET X a d)(h:EW X (.BoolOp .Or (b::rest) pos) f):EW X (.BoolOp .Or (a::b::rest) pos) (wOr d f):=⟨Xu j.h h.h⟩
def cX(h:ET X a d):ET X (.UnaryOp .Not a pos) (wNot d):=⟨UB h.h⟩
def jA{op}(h:EE X a w):EE X (.BoolOp op [a] pos) w:=⟨Vd h.h⟩
def k8(j:EE X a w)(h:EE X (.BoolOp .And (b::rest) pos) e):EE X (.BoolOp .And (a::b::rest) pos) (Sy w e):=⟨UY j.h h.h⟩
def SF(j:EE X a w)(h:EE X (.BoolOp .Or (b::rest) pos) e):EE X (.BoolOp .Or (a::b::rest) pos) (wOrV w e):=⟨W9 j.h h.h⟩
def PF(h:EE X a w):EE X (.UnaryOp .Not a pos) (Qu w):=⟨QT h.h⟩
def Bx(h:ET X t d)(k:EE X a w)(j:EE X b e):EE X (.IfExp t a b pos) (wIfE d w e):=⟨Yg h.h k.h j.h⟩
def oI{op:UnaryOp}{o:WU}(h:UnR X (unaryOp op) (uM X.kx o))(j:EE X a w):EE X (.UnaryOp op a pos) (wUn o w):=⟨Vy h j.h⟩
def eF(h:EE X a w):EE X a (wImm w):=⟨UV h.h⟩
end
section
variable {X:Cx}{a b c:Expr}{e:List Expr}{d f g:WE}{pos:Pos}
variable {i j:WT}{rest:List Expr}
variable {w:WA}
def mn'  : EA X [] wNil:=⟨UX⟩
def mc'(k:EE X a d)(l:EA X e w)(h:aac (a::e) X.env=(false,eval a X.env)::aac e X.env:=by first|exact aH rfl|rfl):EA X (a::e) (Vp d w):=⟨Nu k.h l.h h⟩
def au{x1}(h:EA X e w):EE X (.Tuple e x1 pos) (wTup w):=⟨Vc h.h⟩
def cQ(h:EA X e w):EE X (.List e pos) (wLst w):=⟨QP h.h⟩
theorem aE{id:String}{o:WC}(s:dF X (.builtin id) (cM X.kx o))(m:Gl X x)(n:X.mg x=none)(t:aa0 x=some (.builtin id))(q:EA X (a::e) w)(r:x ≠ "__name__":=by decide)(k:(x=='g')=false:=by decide)(l:aac (a::e) X.env=(false,eval a X.env)::aac e X.env:=by first|exact aH rfl|rfl)(h:(abq pos (aac e X.env)).any (·.1)=false:=by rfl):EE X (.Call (.Name x p) (a::e) [] pos) (wCB o w):=⟨DN s m n t q.h r k l h⟩
theorem cj{o:WC}(s:dF X (.type T) (cM X.kx o))(m:Gl X x)(n:X.mg x=none)(t:aa0 x=some (.type T))(q:EA X (a::e) w)(r:x ≠ "__name__":=by decide)(k:(x=='g')=false:=by decide)(l:aac (a::e) X.env=(false,eval a X.env)::aac e X.env:=by first|exact aH rfl|rfl)(h:(abq pos (aac e X.env)).any (·.1)=false:=by rfl):EE X (.Call (.Name x p) (a::e) [] pos) (wCB o w):=⟨Cf s m n t q.h r k l h⟩
end
section
variable {X:Cx}{a b c e:Expr}{d:List Expr}{f g h i:WE}{pos:Pos}{st:Stmt}{rest:List Stmt}{w u:WS}
def am  : ESs X [] UM:=⟨O3⟩
def mz'(j:ES X st w)(k:ESs X rest u):ESs X (st::rest) (wSeq w u):=⟨D5 j.h k.h⟩
def aa(j:ES X st w):ESs X [st] w:=⟨KL j.h⟩
end
section
variable {X:Cx}{a b c e:Expr}{f:List Expr}{q r s l:WE}{o:WA}{p:WT}{pos:Pos}{st:Stmt}{rest m d:List Stmt}{w u:WS}
def af(h:EE X e l):ES X (.Return (some e) pos) (wRet l):=⟨Qz h.h⟩
def d5(h:EE X e l)(g:abG e none pos.line X.env=pure false:=by rfl):ES X (.Expr e pos) (Sv l):=⟨NG h.h g⟩
def aG(h:ET X t p)(g:ESs X m w)(i:ESs X d u):ES X (.If t m d pos) (wIfS p w u):=⟨Wz h.h g.h i.h⟩
def gm  : ES X st JU:=⟨IZ⟩
theorem gl{g:Pos}(j:X.N.Nodup)(k:X.N[i]?=some x)(v:Loc X.env.scope x)(h:EE X e l)(n:abG e (some (.Name x g)) pos.line X.env=pure false:=by rfl)(t:X.fn x=true\/X.env.scope.names.lookup x=some .local:=by first|exact .inl rfl|exact .inr rfl|assumption):ES X (.Assign [.Name x g] e pos) (wSet i l):=⟨QW j k v h.h n t⟩
theorem pq(h:X.N.Nodup)(g:X.N[i]?=some x)(k:Loc X.env.scope x)(j:X.fn x=true\/X.env.scope.names.lookup x=some .local:=by first|exact .inl rfl|exact .inr rfl|assumption):EG X (.Name x pos) (gM i):=⟨Qc h g k j⟩
def aF  : EGs X [] PQ:=⟨Mn⟩
def ac{e:Expr}{f:List Expr}(h:EG X e g)(j:EGs X f gs)(i:(abZ (e::f) X.env).map (·.2)=afC e X.env::(abZ f X.env).map (·.2):=by rfl):EGs X (e::f) (zy g gs):=⟨Iu h.h j.h i⟩
theorem aY{f:List Expr}{k:Nat}(h:EGs X f gs)(j:X.calm=true:=by rfl)(i:(abZ f X.env).length=n:=by rfl)(g:(abZ f X.env).findIdx? (·.1)=none:=by rfl):EG X (.Tuple f k pos) (NQ n gs):=⟨SY h.h j i g⟩
theorem cx(h:EE X e l)(k:EG X tg g)(j:adO [tg] e pos.line X.env=pure false:=by rfl)(n:adP [tg] e X.env=pure none:=by rfl)(i:(abZ [tg] X.env).map (·.2)=[afC tg X.env]:=by rfl):ES X (.Assign [tg] e pos) (wAsg l g):=⟨Qr h.h k.h j n i⟩
theorem jU{g k pt:Pos}{kt k2 pt2}(t:X.N.Nodup)(A:X.N[i]?=some x)(v:X.N[j]?=some y)(h:i≠j)(E:X.env.scope.names.lookup x=some .local)(n:X.env.scope.names.lookup y=some .local)(B:EA X [a,b] o)(z:adP [.Tuple [.Name x g,.Name y k] kt pt] (.Tuple [a,b] k2 pt2) X.env=pure (some [x,y]))(D:X.calm=true:=by rfl)(C:adO [.Tuple [.Name x g,.Name y k] kt pt] (.Tuple [a,b] k2 pt2) pos.line X.env=pure false:=by rfl):ES X (.Assign [.Tuple [.Name x g,.Name y k] kt pt] (.Tuple [a,b] k2 pt2) pos) (wPar i j o):=⟨QB t A v h E n B.h z D C⟩
end
section
variable {X:Cx}{tg a b c e i:Expr}{l:List Expr}{m n o h:WE}{j:WA}{k:WT}{pos:Pos}{st:Stmt}{rest d f:List Stmt}{w u:WS}
def bH(g:EE X e h):EI X tg e (Ql h):=⟨Vf g.h⟩
theorem bP(r:Gl X "range")(q:X.mg "range" = none)(s:EA X [a] j)(g:aac [a] X.env=[(false,eval a X.env)]:=by first|exact cI rfl|rfl):EI X tg (.Call (.Name "range" p) [a] [] pos) (Jz j):=⟨BA r q s.h g⟩
theorem b5{p:WI}(q:EI X tg i p)(v:EG X tg g)(r:ESs X d w)(t:afP (model X.prog X.w) X.A X.env X.xe)(y:X.calm=true:=by rfl)(s:∀x,aaT i X.env x=pure x:=by intro _;rfl):ES X (.For tg i d [] pos) (wFor p g w):=⟨Su q.h v.h r.h t y s⟩
def fq(g:ET X t k)(p:ESs X d w)(q:afP (model X.prog X.w) X.A X.env X.xe):ES X (.While t d [] pos) (v9 k w):=⟨Gu g.h p.h q⟩
end
section
variable {X:Cx}{scope sc:Scope}{own fr:List Str}{ps:List Nat}{elt tg a f b:Expr}{ifs e:List Expr}{pos d p:Pos}{w k:WI}{g m:WG}{tt l:WT}{j:WE}
theorem bu(S:cf own fr scope sc)(r:EI X tg a w)(q:∀cl s H C ex,EG (aU X scope cl (own++fr) s H C ex) tg g)(n:∀cl s H C ex,ETs (aU X scope cl (own++fr) s H C ex) ifs tt)(o:∀cl s H C ex,EE (aU X scope cl (own++fr) s H C ex) elt j)(h:X.env.scope=sc:=by rfl)(c:ps.map (λi=>X.N[i]?)=fr.map some:=by rfl)(u:X.calm=true:=by rfl)(t:∀x,aaT a X.env x=pure x:=by intro _;rfl):EE X (.ListComp elt [⟨tg,a,ifs,0⟩] scope pos) (ua w own ps g tt j):=⟨Iz S r.h (λcl s H C ex=>(q cl s H C ex).h) (λcl s H C ex=>(n cl s H C ex).h) (λcl s H C ex=>(o cl s H C ex).h) h c u t⟩
def bw  : ETs X [] zu:=⟨Nq⟩
def pJ{t:WT}(h:ET X c t):ETs X [c] t:=⟨Kl h.h⟩
theorem i9(S:cf own fr scope sc)(q:X.N.Nodup)(v:X.N[i]?=some y)(o:X.env.scope.names.lookup y=some .local)(r:EI X tg a w)(B:∀cl s H C ex,EG (aU X scope cl (own++fr) s H C ex) tg g)(z:∀cl s H C ex,ETs (aU X scope cl (own++fr) s H C ex) ifs tt)(A:∀cl s H C ex,EE (aU X scope cl (own++fr) s H C ex) elt j)(n:abG (.ListComp elt [⟨tg,a,ifs,0⟩] scope pos) (some (.Name y p)) d.line X.env=pure true:=by rfl)(h:X.env.scope=sc:=by rfl)(c:ps.map (λi=>X.N[i]?)=fr.map some:=by rfl)(u:X.calm=true:=by rfl)(t:∀x,aaT a X.env x=pure x:=by intro _;rfl):ES X (.Assign [.Name y p] (.ListComp elt [⟨tg,a,ifs,0⟩] scope pos) d) (wSet i (ua w own ps g tt j)):=⟨E8 S q v o r.h (λcl s H C ex=>(B cl s H C ex).h) (λcl s H C ex=>(z cl s H C ex).h) (λcl s H C ex=>(A cl s H C ex).h) n h c u t⟩
theorem zd(S:cf own fr scope sc)(u:X.N.Nodup)(B:X.N[i]?=some y)(r:X.env.scope.names.lookup y=some .local)(v:EI X tg a w)(F:∀cl s H C ex,EG (aU X scope cl (own++fr) s H C ex) tg g)(D:∀cl s H C ex,ETs (aU X scope cl (own++fr) s H C ex) ifs tt)(hi2:∀cl s H C ex,EI (aU X scope cl (own++fr) s H C ex) f b k)(n:∀cl s H C ex,EG (aU X scope cl (own++fr) s H C ex) f m)(t:∀cl s H C ex,ETs (aU X scope cl (own++fr) s H C ex) e l)(E:∀cl s H C ex,EE (aU X scope cl (own++fr) s H C ex) elt j)(o:abG (.ListComp elt [⟨tg,a,ifs,0⟩,⟨f,b,e,0⟩] scope pos) (some (.Name y p)) d.line X.env=pure true:=by rfl)(h:X.env.scope=sc:=by rfl)(c:ps.map (λi=>X.N[i]?)=fr.map some:=by rfl)(A:X.calm=true:=by rfl)(z:∀x,aaT a X.env x=pure x:=by intro _;rfl)(q:∀cl C x,aaT b (agB scope cl C X.env) x=pure x:=by intro _ _ _;rfl):ES X (.Assign [.Name y p] (.ListComp elt [⟨tg,a,ifs,0⟩,⟨f,b,e,0⟩] scope pos) d) (wSet i (zP w own ps g tt k m l j)):=⟨Ix S u B r v.h (λcl s H C ex=>(F cl s H C ex).h) (λcl s H C ex=>(D cl s H C ex).h) (λcl s H C ex=>(hi2 cl s H C ex).h) (λcl s H C ex=>(n cl s H C ex).h) (λcl s H C ex=>(t cl s H C ex).h) (λcl s H C ex=>(E cl s H C ex).h) o h c A z q⟩
end
section
variable {X:Cx}
theorem ae{a b:Expr}{c w:WE}(h:EE X a c)(d:EE X b w)(e:ls b:=by intro _ _;rfl):EE X (.Subscript a b pos) (wBin mI c w):=⟨WX h.h d.h e⟩
end
section
variable {X:Cx}{o a b c e:Expr}{g:List Expr}{h j k l w m:WE}{i:WA}{pos f d:Pos}
theorem sd{name:Str}{id:String}{t:WM}(slot:Slot "list" name id)(s:typeOf (.builtin id)=pure (.type "method_descriptor"))(v:MtM X id (mM X.kx t))(u:EE X o h)(y:EA X (e::g) i)(p:abz o name X.env (eval o X.env)=eval o X.env:=by rfl)(r:((abq d (aac (e::g) X.env)).all (λx=>!x.1)&&(acY d (ab2 [] X.env)).all (λx=>x.1.isSome)
   && decide ((e::g).length+([]:List ac6).length+(if ([]:List ac6).isEmpty then 0 else 1)<30))=true:=by rfl) (q:(f.endLine==d.line)=true:=by rfl) (z:aac (e::g) X.env=(false,eval e X.env)::aac g X.env:=by first|exact aH rfl|rfl) (n:(abq d (aac g X.env)).any (·.1)=false:=by rfl):EE X (.Call (.Attribute o name f) (e::g) [] d) (wML t h i):=⟨XQ slot s v u.h y.h p r q z n⟩
def d8  : EO X none BP:=⟨MH⟩
def c5(n:EE X e w):EO X (some e) (Ur w):=⟨J5 n.h⟩
def cN{n wh:WO1}{p:Pos}(t:SlR X (sM X.kx ob))(q:EE X e w)(s:EO X lo n)(r:EO X hi wh):EE X (.Subscript e (.Slice lo hi none p) pos) (wSl ob w n wh):=⟨D9 t q.h s.h r.h⟩
end
section
variable {X:Cx}{a:Expr}{e:List Expr}{w:WA}{pos p:Pos}{k n:Nat}{sp:SpM}{x:Str}
theorem mf'(F:FnM X.prog X.w X.K X.mg X.base x k n sp)(d:Room k X.A)(g:EA X (a::e) w)(f:Gl X x:=by rfl)(b:(x=='g')=false:=by decide)(c:aac (a::e) X.env=(false,eval a X.env)::aac e X.env:=by first|exact aH rfl|rfl)(h:(abq pos (aac e X.env)).any (·.1)=false:=by rfl):EE X (.Call (.Name x p) (a::e) [] pos) (BI sp w):=⟨Gq F d g.h f b c h⟩
end
section
variable {X:Cx}{tg a b c e:Expr}{g:List Expr}{h i j k w l:WE}{m:WA}{pos p d:Pos}
theorem qt(t:EE X e w)(z:IsT T f)(s:X.mg "isinstance" = none)(v:X.mg x=none)(A:aa0 x=some (.type T))(q:Gl X "isinstance":=by rfl)(u:Gl X x:=by rfl)(y:x ≠ "__name__":=by decide)(hd:(x=='g')=false:=by decide)(n:aac [e,.Name x d] X.env=(false,eval e X.env)::aac [.Name x d] X.env:=by rfl)(r:aac [.Name x d] X.env=(false,eval (.Name x d) X.env)::aac [] X.env:=by rfl)(o:(abq pos (aac [.Name x d] X.env)).any (·.1)=false:=by rfl):EE X (.Call (.Name "isinstance" p) [e,.Name x d] [] pos) (wIsT f w):=⟨U4 t.h z s v A q u y hd n r o⟩
end
theorem aK{P:aaI}{w:World}{K:aae}{base:aa1}{k:Nat}(D:DefM K mg x st ps)(S:ak N ps (ab st))(i:ps.length=n)(e:N.length=nN)(d:n≤nN)(ar:∀as a,sp as a->as.length=n)
  (h:∀(c:Ad) (A:abb) (outer:List Env) (s:GT) (H:Hp) (E:XK) (f:Addr),Room k (A.deeper (aeh x (ab st) s.heap.objs.size f c)) ->
   ∃b,ESs (cxOf CX0 P w K mg base N x (ab st) f c A outer s H E).nox (bA st) b/\∀as a,as.length=n->sp as a->b {nx:=λm=>a (.imm .none) (m.os.take m.np),rt:=λr m=>retK a m r} (d4 nN as)) :
  FnM P w K mg base x (k+1) n sp:=WJ D S i e d ar λc A outer s H E f g=>let ⟨b,h1,h2⟩:=h c A outer s H E f g;⟨b,h1.h,h2⟩
theorem LL{P:aaI}{w:World}{K:aae}{base:aa1}{k:Nat}{f:Addr}(F:Fun K x x st f fd)(S:ak N ps (ab st))(i:ps.length=n)(e:N.length=nN)(b:n≤nN)
  (h:∀(c:Ad) (A:abb) (outer:List Env) (s:GT) (H:Hp) (E:XK) (f:Addr),Room k (A.deeper (aeh x (ab st) s.heap.objs.size f c)) ->
   ∃a,ESs (cxOf CX0 P w K mg base N x (ab st) f c A outer s H E).nox (bA st) a/\∀as d,as.length=n->sp as d->a {nx:=λm=>d (.imm .none) (m.os.take m.np),rt:=λr m=>retK d m r} (d4 nN as)) :
  FnOk P w K mg base CX0 (k+1) f fd ps (spOf ⟨K,w⟩ n sp):=Uv F S i e b λc A outer s H E f g=>let ⟨a,h1,h2⟩:=h c A outer s H E f g;⟨a,h1.h,h2⟩
end L2
namespace HT
open PySem PySem.Spec PyProof.Rows
section
variable {prog:aaI}{w:World}{A:abb}{E:Ad->GT->Prop}{s:GT}
def cut_whole{t sl:Addr}{items:Array Ad}{vl v:Ad}{lo c:Option Int}{Q:Ad->GT->Prop}(a:IsTup s.heap t items)(g:s.heap.IsSliceOf sl vl v .none)(pl:af8 vl lo)(p:af8 v c)
  (i:sIx items.size 0 lo=0/\sIx items.size items.size c=items.size) (h:Q (.ref t) s):wpAny (model prog w) A (aeI (.ref t) (.ref sl)) Q E s:=by
 let⟨os,d,e,j⟩:=id g;have f:s.TypeIs (.ref sl) "slice":=⟨os,d,e⟩;unfold aeI
 try with_reducible refine ab5 ?_
 refine gT (afv a.typeIs ⋯ (gT (aaN (name:=abK "__getitem__") a.typeIs abr (aaZ abr a.typeIs entry_tuple_getitem ?_ (args_tuple_getitem _ _)))));show wpAny _ _ (adz (.ref t) >>= _) _ _ s;refine gT (agX a (gT (ac5 f ?_)));rw[if_pos ⋯];refine gT (fY g pl p ?_);have b:(((sIx items.size 0 lo:Nat):Int)==0&&(1:Int)==1&&(sIx items.size items.size c-sIx items.size 0 lo)==items.size)=true:=by
  rw[i.1,i.2];simp
 show wpAny _ _ (if _=true then _ else _) _ _ s;rw[if_pos b];refine gT ?_;unfold afg;refine gT (ac5 a.typeIs (Ld ?_));rw[if_pos 'b'];exact gT (abI (Ld ⟨_,rfl,Ld h⟩))
end
end HT
namespace L2
open PySem PySem.Spec PyProof.Rows
variable{hi lo:Option Int}{Kr:R->Prop}{ds es:List aD}{K:R->MSt->Prop}{X:Cx}{pins:List 'i'}{σ:St}{H:Hp}{h h':aa1}{t t1 t2:Bool}{a b i1 i2 it l l1 l2 z:Addr}{i n:Nat}{items its xs ys:Array Ad}{α:Type}{Q:Ad->GT->Prop}{f:Ad}{elts:List Expr}
section
variable {X:Cx}
def oCut:R->Option Int->Option Int->MSt->(R->Prop)->Prop:=λr lo hi m K=>(∃ds,lsOf m r=some ds/\K (.new (cutD ds lo hi)))\/∃ds,r = .imm (.tuple ds)/\K (.imm (.tuple (cutD ds lo hi)))
theorem fx:SlR X (sM X.kx oCut):=by
 intro pins s d H x v vl D lo hi C Q I w y q u F;obtain⟨α,m,σ,E,r,G,R,h,k|⟨ds,rfl,k⟩,c⟩:=F
 .exact G9 pins s d H x v vl D lo hi C Q I w y q u ⟨α,m,σ,E,r,G,R,h,k,c⟩
 .obtain⟨a,xs,rfl,f,g⟩:=bQ (h)
  by_cases o:HT.sIx xs.length 0 lo=0/\HT.sIx xs.length xs.length hi=xs.length
  .cases w;let⟨its,J,B,L⟩:=I.tuple f;have j:its.toArray.size=xs.length:=by rw[aaK];exact J.length.symm
   refine⟨"tuple",_,abr.lookup,B.typeIs,?_⟩;refine HT.cut_whole B y q u (by rw[j];exact o) ⟨.ref a,H,I,rfl,c _ _ H k R (og (e8 f ?_)) (Frm.refl _ _)⟩;have e:cutD ds lo hi=ds:=by
    unfold cutD;rw[g.length,o.1,o.2,List.drop_zero,Nat.sub_zero,<-g.length,aav]
   rw[e];exact g
  .exact UL pins s d H _ v vl D lo hi C Q I w y q u ⟨a,xs,rfl,f,o,λp A=>c _ _ _ k (R.lay A) (og (e8 (SqT.of ay) ((AG g lo hi).mono (bj (.inl A))))) (cu A)⟩
def NH{m:MSt}{r:R}(e:lsOf m r=some ds)(h:Kr (.new (cutD ds lo hi))):oCut r lo hi m Kr:=.inl ⟨ds,e,h⟩
def UT{m:MSt}(h:Kr (.imm (.tuple (cutD ds lo hi)))):oCut (.imm (.tuple ds)) lo hi m Kr:=.inr ⟨ds,rfl,h⟩
def uX(n:Nat):cutD ds none (some (n:Int))=ds.take n:=by
 unfold cutD;rw[HT.sIx_none,HT.sIx_nat];simp
theorem jb(n:Nat):cutD ds (some (n:Int)) none=ds.drop n:=by
 unfold cutD;rw[HT.sIx_none,HT.sIx_nat]
 by_cases h:n≤ds.length
 .rw[Nat.min_eq_left h];exact adc 'a'
 .rw[Nat.min_eq_right ∅,List.drop_length,List.drop_eq_nil_of_le ∅,List.take_nil]
def oIn(c:Bool):WO:=λr1 r m K=>∃d ds,asD m r1=some d/\(asD m r=some (.list ds)\/asD m r=some (.tuple ds))/\d.canLay0=true/\abA ds=true/\d.depth≤60/\K (.imm (.bool (if c then !ds.any (λy=>aaa y d)else ds.any λy=>aaa y d)))
theorem Ji(F:X.A.units+64<cLine):OpR X (aaW .In) (rM X.kx (oIn false)):=by
 intro pins s k H x y v u Q I D r ⟨α,m,σ,E,M,r1,J,G,R,C,w,⟨d,ds,A,e,j,g,dp,B⟩,o⟩;let⟨L,q⟩:=C.reads I R D A (aa9 _ j);have c:EP X pins k Q (.bool (ds.any λy=>aaa y d)) s:=⟨.bl _,H,I,rfl,o _ _ H B R (jJ _) (Frm.refl _ _)⟩;have p:X.A.units+1+min (aaD ds) d.depth<cLine:=by have:=acZ (aaD ds) d.depth;omega
 rcases e with e|e
 .obtain⟨bs,q2⟩:=w.reads I R r e (by simp only[acq];exact abw _ g);exact SeqAt.in_list_reads q2 q g j p c
 .obtain⟨bs,q2⟩:=w.reads I R r e (by simp only[acq];exact abw _ g);exact SeqAt.in_tuple_reads q2 q g j p c
theorem l6(F:X.A.units+64<cLine):OpR X (aaW .NotIn) (rM X.kx (oIn true)):=by
 intro pins s k H x y v u Q I D r ⟨α,m,σ,E,M,r1,J,G,R,C,w,⟨d,ds,A,e,j,g,dp,B⟩,o⟩;let⟨L,q⟩:=C.reads I R D A (aa9 _ j);have c:EP X pins k Q _ s:=⟨.bl _,H,I,rfl,o _ _ H B R (jJ _) (Frm.refl _ _)⟩;have p:X.A.units+1+min (aaD ds) d.depth<cLine:=by have:=acZ (aaD ds) d.depth;omega
 rcases e with e|e
 .obtain⟨bs,q2⟩:=w.reads I R r e (by simp[acq];exact abw _ g);exact SeqAt.notIn_list_reads q2 q g j p c
 .obtain⟨bs,q2⟩:=w.reads I R r e (by simp only[acq];exact abw _ g);exact SeqAt.notIn_tuple_reads q2 q g j p c
def x_in{m:MSt}{r1 r2:R}{c:Bool}{d:aD}{k k':Nat}(g:asD m r1=some d)(e:asD m r2=some (.list ds)\/asD m r2=some (.tuple ds))(s1:Shp k d)(s2:∀y∈ds,Shp k' y)(hk:k≤60)(h:Kr (.imm (.bool (if c then !ds.any (λy=>aaa y d)else ds.any λy=>aaa y d)))):oIn c r1 r2 m Kr:=
 ⟨d,ds,g,e,s1.cl,(j2 s2).1,aaw s1.dp hk,h⟩
abbrev oMin:WC:=λrs _ K=>match rs with|[.imm (.int i),.imm (.int j)]=>K (.imm (.int (if j<i then j else i)))|_=>False
abbrev oMax:WC:=λrs _ K=>match rs with|[.imm (.int i),.imm (.int j)]=>K (.imm (.int (if j>i then j else i)))|_=>False
theorem y6(o:X.calm=true):dF X (.builtin "min") (cM X.kx oMin):=by
 intro pins s c H xs u Q I r ⟨α,m,σ,p,rs,q,R,h,d,e⟩
 match rs,h,d with
 |[.imm (.int i),.imm (.int j)],.cons h1 (.cons h2 .nil),d=>
  have k:=aC (show Den X.kx H (.int i) _ from h1);have g:=aC (show Den X.kx H (.int j) _ from h2);subst k g;exact zX o pins s c H _ u Q I r ⟨i,j,rfl,e _ _ H d R (dU _) (Frm.refl _ _)⟩
theorem Bv(o:X.calm=true):dF X (.builtin "max") (cM X.kx oMax):=by
 intro pins s c H xs u Q I r ⟨α,m,σ,p,rs,q,R,h,d,e⟩
 match rs,h,d with
 |[.imm (.int i),.imm (.int j)],.cons h1 (.cons h2 .nil),d=>
  have k:=aC (show Den X.kx H (.int i) _ from h1);have g:=aC (show Den X.kx H (.int j) _ from h2);subst k g;exact CA o pins s c H _ u Q I r ⟨i,j,rfl,e _ _ H d R (dU _) (Frm.refl _ _)⟩
def V3(P:List aD->Prop):R->Prop
 | .new ds=>P ds
 |_=>False
def zt:WM:=λr rs m K=>DU (λk=>on1 (V3 λes=>∃ds,m.os[k]?=some ds/\ds.length+es.length≤aak/\K (.imm .none) {m with os:=m.os.set k (ds++es)}) rs) r
theorem yw:MtM X "list.extend" (mM X.kx zt):=by
 intro pins s d H x xs v G Q I C J ⟨α,m,σ,L,O,r,rs,N,R,B,e,c,j⟩;let⟨k,a,rfl,p,rfl,c⟩:=Jo B c;let⟨E,M,rfl,rfl,e,c⟩:=fv e c
 cases E with
 |imm _=>exact c.elim
 |obj _=>exact c.elim
 | «at» _ _=>exact c.elim
 |newT _=>exact c.elim
 |new es=>
  let⟨ds,u,w,c⟩:=c;let⟨b,A,rfl,D,y,o⟩:=e;let⟨ys,q,g⟩:=R.own _ _ ds p u;let⟨R2,F⟩:=R.setO p q (g.append o);exact Ba pins s d H _ _ v G Q I C J ⟨a,b,ys,A,rfl,rfl,q,y,by rw[<-g.length,<-o.length];exact w,j _ _ _ _ c rfl R2 vH F⟩
def IX{m:MSt}{k:Nat}(e:m.os[k]?=some ds)(c:ds.length+es.length≤aak)(h:K (.imm .none) {m with os:=m.os.set k (ds++es)}):zt (.obj k) [.new es] m K:=⟨ds,e,c,h⟩
def JV:WM:=λr rs m K=>on1 (kq λd=>∃ds j,lsOf m r=some ds/\d.canLay0=true/\abA ds=true/\d.depth≤60/\(∃y,ds[j]?=some y/\aaa y d=true)/\(∀(i:Nat) y,i<j->ds[i]?=some y->aaa y d=false)/\K (.imm (.int (j:Nat))) m) rs
theorem C7(hu:X.A.units+64<cLine):MtM X "list.index" (mM X.kx JV):=by
 intro pins s Z H x xs v us Q I rx rv ⟨α,m,σ,H0,H1,r,rs,Kc,R,h1,G,w,L⟩;let⟨r2,v2,rfl,rfl,G,w⟩:=fv G w;let⟨d,rfl,hd,ds,j,el,M,E,dp,⟨y,U,eq⟩,D,w⟩:=gj G w;let⟨a,zs,rfl,f,g⟩:=h1.list R el;cases rx;let⟨u,rfl,ru⟩:=rv.one;let⟨bs,qd⟩:=Den.reads I (aa9 _ M) hd ru;let⟨its,A,V,Y⟩:=I.list f;let⟨o,n,q,P,k⟩:=V;let⟨as,B⟩:=DenAll.reads I (abw _ E) g A;have W:X.A.units+1+min (aaD ds) d.depth<cLine:=by have:=acZ (aaD ds) d.depth;omega
 have p:=ag5 ds _ _ E B;have T:its.length=ds.length:=by rw[<-p,iO]
 have S:j<its.length:=by rw[T];exact(AD.mp U).1
 have N:∀(i:Nat) (hi:i<its.length) y,ds[i]?=some y->add s.heap its[i]=y:=λi hi y e=>by
  rw[<-p,aaj,lD hi]at e;exact aaA e
 let⟨cls,dd,O,sl⟩:=o;let⟨k,c⟩:=k;dsimp only at P c;subst P;subst c;have J:(j:Int)<2^63-1:=by
  have F:=Y;rw[aap]at F;have:=A.length;omega
 refine ad8 afR ⟨_,q,rfl⟩ PySem.F.entry_list_index (PySem.F.args_list_index_2 _ _)
  (SeqAt.list_indexAt a its.toArray _ dd sl u (λy=>aaa (add s.heap y) d) j (by simpa using S) J ?_ ?_) ⟨q,aht (by simpa using B) qd E M W,?_⟩
 .show aaa (add s.heap its[j]) d=true;rw[N j S y U];exact eq
 .intro i hi hlt;have C:i<its.length:=by simpa using hi
  show aaa (add s.heap its[i]) d=false;have hi2:i<ds.length:=by rw[<-T];exact C
  rw[N i C _ (lD hi2)];exact D i _ hlt (lD hi2)
 .exact⟨.int (j:Nat),H,I.tok _,⟨_,rfl⟩,L _ _ _ H w rfl R (dU _) (Frm.refl _ _)⟩
def Qf{m:MSt}{r:R}{d y:aD}{j k k':Nat}(e:lsOf m r=some ds)(s1:Shp k d)(s2:∀y∈ds,Shp k' y)(hk:k≤60)(g:ds[j]?=some y)(eq:aaa y d=true)(c:∀(i:Nat) y,i<j->ds[i]?=some y->aaa y d=false)(h:K (.imm (.int (j:Nat))) m):JV r [.imm d] m K:=
 ⟨ds,j,e,s1.cl,(j2 s2).1,aaw s1.dp hk,⟨y,g,eq⟩,c,h⟩
end
theorem Inv.turneds{s:GT}{t':Nat}{ch:List Addr}(I:Inv X pins σ H s)(k:∀b o,b∉ch->s.heap.get? b=some o->h'.get? b=some o)(j:∀b∈ch,FpOk X pins H b):Inv X pins σ H {s with heap:=h',toks:=t' }:=by
 have g:∀b u,H b=some u->b∉ch:=λb u e z=>by have:=(j b z).1;grind
 have x:=λz=>(j _ z).2.1 rfl;refine I.step (g':=s.gens) (d':=s.drawn) (λb w=>?_) (λb o _ _ d e _=>k b o d e) (λb o _ _ d e _=>⟨o.slots,k b o d e⟩) (λ_ _ _ _ n=>n)
  (λb o d e=>⟨o,k b o d e⟩) (λ_ _ e=>e) (λ_ _ _ e=>e) (λb y e=>⟨#[],by rw[e];simp⟩) (λm p=>?_) (λb u e=>?_) I.bare
 .obtain⟨_,f1,_,f3,f4,f5⟩:=j b w;exact⟨f3,f1,f4,f5⟩
 .obtain⟨o,es,ep,ho,r⟩:=p;exact⟨o,es,ep,k _ o x ho,r⟩
 .refine(I.hok b u e).stay (λc v d q=>k c v ?_ q) (λ_ q=>q) λ_ _ q=>q;rcases d with z|z
  .rw[z];exact g b u e
  .exact g c _ z
def SubI(t:Bool)(h:aa1)(i l:Addr)(k:Nat):Prop:=if t then h.IsTupleIter i l k else h.IsListIter i l k
def SubS(t:Bool)(h:aa1)(l:Addr)(its:Array Ad):Prop:=if t then h.IsTuple l its else h.IsList l its
def SubI.ext{i:Addr}{k:Nat}(x:SubI t h i l k)(e:afx b h h')(n:i≠b):SubI t h' i l k:=by
 cases t
 .exact aa1.IsListIter.extBut (x) e n
 .exact aa1.IsTupleIter.extBut (x) e n
def SubI.obj{i:Addr}{k:Nat}(x:SubI t h i l k):∃o vs,h.get? i=some o/\o.data = .fields vs:=by
 cases t
 .obtain⟨o,e,_,d⟩:=(x);exact⟨o,_,e,d⟩
 .obtain⟨o,e,_,d⟩:=(x);exact⟨o,_,e,d⟩
def SubI.keep{i:Addr}{k:Nat}(x:SubI t h i l k)(e:∀o,h.get? i=some o->h'.get? i=some o):SubI t h' i l k:=by
 cases t
 .obtain⟨o,q,r⟩:=(x);exact⟨o,e o q,r⟩
 .obtain⟨o,q,r⟩:=(x);exact⟨o,e o q,r⟩
def SubS.keep(x:SubS t h l its)(e:∀o,h.get? l=some o->h'.get? l=some o):SubS t h' l its:=by
 cases t
 .obtain⟨o,q,r⟩:=(x);exact⟨o,e o q,r⟩
 .obtain⟨o,q,r⟩:=(x);exact⟨o,e o q,r⟩
def SubS.ext(x:SubS t h l its)(e:afx b h h')(n:l≠b):SubS t h' l its:=x.keep λo q=>e l o n q
section
variable {prog:aaI}{w:World}{A:abb}{E:Ad->GT->Prop}{s:GT}
theorem kM{Q:α->GT->Prop}(c:A.handled=none)(h:∀h' e,(∀b o,s.heap.get? b=some o->h'.get? b=some o)->(∃o,h'.get? e=some o/\o.cls = .type "StopIteration")->E (.ref e) {s with heap:=h' }) :
  wpAny (model prog w) A (do raiseNew (<- newExc (.type "StopIteration") []):Sem α) Q E s:=by
 refine gT ?_;refine gT ?_;refine abd ?_ (by size_fits);refine gT (wpAny_of_eq (a:=af2) 'b' (abd ?_ (by size_fits)));refine gT (m:=handled) (wpAny_handled ?_);rw[c];refine gT (Ld (wpAny_throw (h _ _ (λb o q=>Io _ (Io _ q)) ⟨_,aai _ rfl,rfl⟩)))
def Xq(c:s.heap.IsTupleIter it l i)(h:Q (.ref l) s):wpAny (model prog w) A (field (.ref it) 0) Q E s:=let ⟨_,ho,_,hd⟩:=c;abh ho hd (x:=.ref l) rfl h
def Vz(c:s.heap.IsTupleIter it l i)(h:Q (.int i 0) s):wpAny (model prog w) A (field (.ref it) 1) Q E s:=let ⟨_,ho,_,hd⟩:=c;abh ho hd (x:=.int i 0) rfl h
def VD{Q:Option (Array Ad)->GT->Prop}(c:s.heap.IsTuple l items)(h:Q (some items) s):wpAny (model prog w) A (seqItems? (.ref l)) Q E s:=let ⟨_,ho,_,_,hd⟩:=c;acI ho hd h
theorem vP{Q:Option Ad->GT->Prop}(c:s.heap.IsTupleIter it l i)(v:s.heap.IsTuple l items)
  (p:∀x,items[i]?=some x->∀h',h'.IsTupleIter it l (i+1)->abk it s.heap h'->Q (some x) {s with heap:=h' })
  (d:items[i]?=none->A.handled=none/\∀h' e,afx it s.heap h'->(∃o,h'.get? e=some o/\o.cls = .type "StopIteration")->E (.ref e) {s with heap:=h' }) :
  wpAny (model prog w) A (callSpecial? (.ref it) "__next__" []) Q E s:=by
 refine aaN (name:=abK "__next__") c.typeIs afh (aaZ afh c.typeIs F.entry_tuple_iterator_next ?_ (F.args_tuple_iterator_next_1 _))
 wp_walk using Xq c,Vz c,VD v
 rcases id c with⟨o,g,r,hd⟩;rw[aa6]
 cases q:items[i]? with
 | some x=>
  have new:(s.heap.update it (Obj.mapFields (·.setIfInBounds 1 (ade ((i:Int)+1))))).IsTupleIter it l (i+1):=by
   refine⟨_,adm _ g (Obj.isFreed_of_fields (ag6 hd _)),?_,?_⟩
   .exact(Obj.cls_mapFields ..).trans r
   .rw[ag6 hd];simp[ade]
  exact gT (m:=acJ (.ref it) 1 _) (wpAny_setField g hd 'a' (Ld ⟨x,rfl,p x q _ new (agN ..)⟩))
 |none=>
  let⟨u,d⟩:=d q;refine gT (m:=rule _) (abI (gT (m:=acJ (.ref it) 0 _) (wpAny_setField g hd 'a' ?_)));exact kM (A:=A.in1) u λh' e k x=>d h' e (λb j nb z=>k b j ((agN ..).extBut b j nb z)) x
theorem kQ{x:Ad}(c:SubI t s.heap it l i)(j:SubS t s.heap l items)(d:items[i]?=some x)
  (g:∀h',SubI t h' it l (i+1)->abk it s.heap h'->Q x {s with heap:=h' }):wpAny (model prog w) A (abO (.ref it)) Q E s:=by
 cases t with
 |false=>exact wpAny_nextOf_list_item (c) (j) d g
 |true=>exact gT (vP (c) (j) (λy k h' a b=>by rw[d]at k;cases k;exact Ld (g h' a b)) λe=>by rw[d]at e;cases e)
theorem vi(g:A.handled=none)(c:SubI t s.heap it l i)(j:SubS t s.heap l items)(m:items[i]?=none)
  (d:∀h' e,afx it s.heap h'->(∃o,h'.get? e=some o/\o.cls = .type "StopIteration")->E (.ref e) {s with heap:=h' }):wpAny (model prog w) A (abO (.ref it)) Q E s:=by
 cases t with
 |false=>exact wpAny_nextOf_list_end g (c) (j) m d
 |true=>exact gT (vP (c) (j) (λy k=>by rw[m]at k;cases k) λ_=>⟨g,d⟩)
structure Apart(z TI TO i1 i2 l1 l2:Addr):Prop where
 d:[z,TI,TO,i1,i2].Nodup
 m1:l1∉[z,TI,TO,i1,i2]
 m2:l2∉[z,TI,TO,i1,i2]
def Apart.old{TI TO:Addr}(D:Apart z TI TO i1 i2 l1 l2):ZipApart z TI TO i1 i2 l1 l2:=by
 let⟨d,m1,m2⟩:=D;simp at d m1 m2;let⟨⟨a1,a2,c,j⟩,⟨b1,b2,g⟩,⟨e,k⟩,d1⟩:=d;exact⟨abH a1,abH a2,abH c,abH j,b1,b2,g,e,k,d1,m1.1,m1.2.2.1,m1.2.2.2.1,m1.2.2.2.2,m2.1,m2.2.2.1,m2.2.2.2.1,m2.2.2.2.2⟩
structure I9(t1 t2:Bool)(z TI TO i1 i2 l1 l2:Addr)(k:Nat)(h:aa1):Prop where
 z:IsZip h z TI TO .none
 ti:aeV h TI (.ref i1) (.ref i2)
 to:∃a b,aeV h TO a b
 s1:SubI t1 h i1 l1 k
 s2:SubI t2 h i2 l2 k
def zf0{TI TO:Addr}(c:IsZip s.heap z TI TO f)(h:Q f s):wpAny (model prog w) A (field (.ref z) 0) Q E s:=abh c rfl (x:=f) rfl h
def zf2{TI TO:Addr}(c:IsZip s.heap z TI TO f)(h:Q (.bool false) s):wpAny (model prog w) A (field (.ref z) 2) Q E s:=abh c rfl (x:=.bool false) rfl h
def zf3{TI TO:Addr}(c:IsZip s.heap z TI TO f)(h:Q (.ref TI) s):wpAny (model prog w) A (field (.ref z) 3) Q E s:=abh c rfl (x:=.ref TI) rfl h
theorem Gf{TI TO:Addr}{k:Nat}{x y:Ad}{Q:Option Ad->GT->Prop}(D0:Apart z TI TO i1 i2 l1 l2)(Z:I9 t1 t2 z TI TO i1 i2 l1 l2 k s.heap)
  (hl1:SubS t1 s.heap l1 xs) (W:SubS t2 s.heap l2 ys) (hx:xs[k]?=some x) (hy:ys[k]?=some y)
  (hQ:∀h',IsZip h' z TI TO (ade s.heap.objs.size)->aeV h' TO x y->SubI t1 h' i1 l1 (k+1)->SubI t2 h' i2 l2 (k+1)->aeV h' s.heap.objs.size x y->h'.objs.size=s.heap.objs.size+1 ->
   (∀c o,c∉[z,TO,i1,i2]->s.heap.get? c=some o->h'.get? c=some o)->Q (some (.ref s.heap.objs.size)) {s with heap:=h' }):wpAny (model prog w) A (aci (.ref z)) Q E s:=by
 have D:=D0.old;let⟨J,hTI,⟨a,b,hTO⟩,h1,h2⟩:=Z;have hT:s.TypeIs (.ref z) "zip":=(⟨_,J,rfl⟩);unfold aci;refine gT (ab6 (aaN (name:=abK "__next__") hT aeW (aaZ aeW hT F.entry_zip_next ?_ (F.args_zip_next_1 _))));refine gT (m:=field (.ref z) 2) (zf2 J (gT (m:=field (.ref z) 3) (zf3 J (gT (acI hTI rfl ?_)))));refine gT (m:=abW (.ref z)) (gT (m:=field (.ref z) 0) (zf0 J (Ld ?_)));simp only[if_true];refine gT (abI (gT (abh J rfl (x:=.ref TO) rfl (gT (aaC J 'a' λg1 C s1=>?_)))));replace C:IsZip g1 z TI TO .ellipsis:=C;refine gT ?_;simp only[agm,List.forIn_nil,ahu,List.zipIdx_nil];refine gT (gT (afH (gT (m:=abO (.ref i1)) ?_)));refine(kQ (h1.ext s1.extBut D.i1z) (hl1.ext s1.extBut D.l1z) hx λg2 n1 s2=>Ld ?_);have u:aeV g2 TO a b:=s2.extBut _ _ D.TOi1 (s1.extBut _ _ D.TOz hTO);refine gT (acI u rfl (gT (aeO u λg3 j I=>?_)));replace j:aeV g3 TO x b:=j;refine gT (afy (Ld (gT (gT (afH ?_)))));refine gT (m:=abO (.ref i2)) (kQ (((h2.ext s1.extBut D.i2z).ext s2.extBut D.i12.symm).ext I.extBut D.TOi2.symm) (((W.ext s1.extBut D.l2z).ext s2.extBut D.l2i1).ext I.extBut D.l2TO) hy λg4 n2 L=>Ld ?_);have v:aeV g4 TO x b:=L.extBut _ _ D.TOi2 j;refine gT (acI v rfl (gT (aeO v λg d O=>?_)));replace d:aeV g TO x y:=d;refine gT (afy (Ld (Ld (gT (acI d rfl (gT (afi ?_)))))));have P:g.objs.size=s.heap.objs.size:=by rw[O.1,L.1,I.1,s2.1,s1.1]
 have M:IsZip g z TI TO .ellipsis:=O.extBut _ _ D.TOz.symm (L.extBut _ _ D.i2z.symm (I.extBut _ _ D.TOz.symm (s2.extBut _ _ D.i1z.symm C)));have k5:∀c o,c∉[z,TO,i1,i2]->s.heap.get? c=some o->g.get? c=some o:=λc o r e=>by
  simp only[aag,abx,not_or,or_false]at r;exact O.extBut _ _ r.2.1 (L.extBut _ _ r.2.2.2 (I.extBut _ _ r.2.1 (s2.extBut _ _ r.2.2.1 (s1.extBut _ _ r.1 e))))
 have Y:SubI t1 g i1 l1 (k+1):=((n1.ext I.extBut D.TOi1.symm).ext L.extBut D.i12).ext O.extBut D.TOi1.symm;have U:SubI t2 g i2 l2 (k+1):=n2.ext O.extBut D.TOi2.symm;have R:z<g.objs.size:=aal M;refine gT (m:=acy (.ref z) (.ref g.objs.size)) ?_;have hz6:IsZip (g.push {cls:=.type "tuple",data:=.seq #[x,y]}) z TI TO .ellipsis:=Io _ M;refine gT (m:=acJ (.ref z) 0 _) (aaC hz6 'a' λg7 B V=>?_);replace B:IsZip g7 z TI TO (ade g.objs.size):=B;refine aaC B 'a' λG p T=>?_;replace p:IsZip G z TI TO (ade g.objs.size):=p;have S:∀c o,c≠z->g.get? c=some o->G.get? c=some o:=λc o c1 e=>T.extBut _ _ c1 (V.extBut _ _ c1 (Io _ e));have N:aeV G g.objs.size x y:=T.extBut _ _ (abt R) (V.extBut _ _ (abt R) (aai _ rfl));have z8:G.objs.size=g.objs.size+1:=by rw[T.1,V.1,abv]
 rw[P]at p N z8;have fin:wpAny (model prog w) A (pure (some (abm g.objs.size))) Q E {s with heap:=G}:=by
  rw[P];exact Ld (hQ G p (S _ _ D.TOz d) (Y.keep λo e=>S _ o D.i1z e) (U.keep λo e=>S _ o D.i2z e) N z8 λc o r e=>S c o (λq=>r (by simp[q])) (k5 c o r e))
 exact Ld ⟨_,rfl,fin⟩
theorem M6{TI TO:Addr}{k:Nat}{Q:Option Ad->GT->Prop}(hh:A.handled=none)(D0:Apart z TI TO i1 i2 l1 l2)(Z:I9 t1 t2 z TI TO i1 i2 l1 l2 k s.heap)
  (L:SubS t1 s.heap l1 xs) (N:SubS t2 s.heap l2 ys) (I:xs[k]?=none\/ys[k]?=none)
  (hQ:∀h',(∀c o,c∉[z,TO,i1,i2]->s.heap.get? c=some o->h'.get? c=some o)->Q none {s with heap:=h' }):wpAny (model prog w) A (aci (.ref z)) Q E s:=by
 have D:=D0.old;let⟨y,O,⟨a,b,S⟩,h1,h2⟩:=Z;have hT:s.TypeIs (.ref z) "zip":=(⟨_,y,rfl⟩);have out:∀{c:Addr},c∉[z,TO,i1,i2]->c≠z/\c≠TO/\c≠i1/\c≠i2:=λv=>by simpa only[aag,abx,not_or,or_false]using v
 have J:∀h' e,(∀c o,c∉[z,TO,i1,i2]->s.heap.get? c=some o->h'.get? c=some o)->(∃o,h'.get? e=some o/\o.cls = .type "StopIteration") ->
   wpAny (model prog w) A (do if <- isInstance (.ref e) (.type "StopIteration")then pure none else throw (.ref e):Sem (Option Ad)) Q E {s with heap:=h' }:=λh' e hk ⟨o,ho,v⟩=>
  gT (acD (T:= "StopIteration") (b:=true) ⟨o,ho,v⟩ aek (Ld (hQ _ hk)))
 unfold aci;refine gT (ab6 (aaN (name:=abK "__next__") hT aeW (aaZ aeW hT F.entry_zip_next ?_ (F.args_zip_next_1 _))));refine gT (m:=field (.ref z) 2) (zf2 y (gT (m:=field (.ref z) 3) (zf3 y (gT (acI O rfl ?_)))));refine gT (m:=abW (.ref z)) (gT (m:=field (.ref z) 0) (zf0 y (Ld ?_)));simp only[if_true];refine gT (abI (gT (abh y rfl (x:=.ref TO) rfl (gT (aaC y 'a' λg1 j s1=>?_)))));replace j:IsZip g1 z TI TO .ellipsis:=j;refine gT ?_;simp only[agm,List.forIn_nil,ahu,List.zipIdx_nil];refine gT (gT (afH (gT (m:=abO (.ref i1)) ?_)))
 cases hx:xs[k]? with
 |none=>
  refine(vi hh (h1.ext s1.extBut D.i1z) (L.ext s1.extBut D.l1z) hx λM e s2 P=>?_);let⟨R,d,g⟩:=P;have C:IsZip M z TI TO .ellipsis:=s2 _ _ D.i1z.symm j;have u:e≠z:=λq=>by subst q;rw[C]at d;cases d;simp at g
  refine aaC C 'a' λW _ r=>J W e (λc o v q=>?_) ⟨R,r.extBut _ _ u d,g⟩;let⟨B,_,U,_⟩:=out v;exact r.extBut _ _ B (s2 _ _ U (s1.extBut _ _ B q))
 |some x=>
  have hy:ys[k]?=none:=by rcases I with q|q;rw[hx]at q;cases q;exact q
  refine(kQ (h1.ext s1.extBut D.i1z) (L.ext s1.extBut D.l1z) hx λM n1 s2=>Ld ?_);have p:aeV M TO a b:=s2.extBut _ _ D.TOi1 (s1.extBut _ _ D.TOz S);refine gT (acI p rfl (gT (aeO p λW V r=>?_)));refine gT (afy (Ld (gT (gT (afH ?_)))));refine gT (m:=abO (.ref i2)) (vi hh (((h2.ext s1.extBut D.i2z).ext s2.extBut D.i12.symm).ext r.extBut D.TOi2.symm) (((N.ext s1.extBut D.l2z).ext s2.extBut D.l2i1).ext r.extBut D.l2TO) hy λg4 e Y P=>?_);let⟨R,d,g⟩:=P;have G:IsZip g4 z TI TO .ellipsis:=Y _ _ D.i2z.symm (r.extBut _ _ D.TOz.symm (s2.extBut _ _ D.i1z.symm j));have u:e≠z:=λq=>by subst q;rw[G]at d;cases d;simp at g
  refine aaC G 'a' λg5 _ s5=>J g5 e (λc o v q=>?_) ⟨R,s5.extBut _ _ u d,g⟩;let⟨B,c2,U,c4⟩:=out v;exact s5.extBut _ _ B (Y _ _ c4 (r.extBut _ _ c2 (s2.extBut _ _ U (s1.extBut _ _ B q))))
end
def zit(t:Bool):String:=if t then "tuple_iterator" else "list_iterator"
abbrev itO(t:Bool)(l:Addr):Obj:={cls:=.type (zit t),data:=.fields #[.ref l,.int 0 0]}
abbrev zA(t1:Bool)(h:aa1)(l1:Addr):aa1:=h.push (itO t1 l1)
abbrev zB(t1 t2:Bool)(h:aa1)(l1 l2:Addr):aa1:=(zA t1 h l1).push (itO t2 l2)
abbrev zC(t1 t2:Bool)(h:aa1)(l1 l2:Addr):aa1:=(zB t1 t2 h l1 l2).push {cls:=.type "tuple",data:=.seq #[.ref h.objs.size,.ref (zA t1 h l1).objs.size]}
abbrev zD(t1 t2:Bool)(h:aa1)(l1 l2:Addr):aa1:=(zC t1 t2 h l1 l2).push {cls:=.type "tuple",data:=.seq #[.none,.none]}
abbrev zE(t1 t2:Bool)(h:aa1)(l1 l2:Addr):aa1:=(zD t1 t2 h l1 l2).push {cls:=.type "zip",data:=.fields #[.none,.bool false,.bool false,.ref (zB t1 t2 h l1 l2).objs.size,.ref (zC t1 t2 h l1 l2).objs.size]}
def dt{prog:aaI}{w:World}{A:abb}{E:Ad->GT->Prop}{s:GT}(h:SubS t s.heap l its)
  (c:Q (.ref s.heap.objs.size) {s with heap:=s.heap.push (itO t l)}):wpAny (model prog w) A (afD (.ref l)) Q E s:=by
 cases t
 .exact wpAny_pyIter_list (h) c
 .exact wpAny_pyIter_tuple (h) c
theorem Lu(t1 t2:Bool)(l1 l2:Addr)(xs ys:Array Ad) :
  Meets (ac4.«zip.__new__» ⟨[.type "zip",.ref l1,.ref l2],[]⟩) (λ_ R s=>SubS t1 s.heap l1 xs/\SubS t2 s.heap l2 ys/\R (.ok (.ret (.ref (zD t1 t2 s.heap l1 l2).objs.size))) {s with heap:=zE t1 t2 s.heap l1 l2}):=
 .of_wp λprog w A R s h=>by
  rcases s with⟨q,g,d,r,os⟩;rcases h with⟨m,j,h⟩;have p:=sub_zip;have c:=m;have k:SubS t2 (ahB ⟨q.push (itO t1 l1),g,d,r,os⟩) l2 ys:=j.keep λo e=>Io _ e
  wp_walk using dt c,dt k
  exact⟨_,rfl,h⟩
section
variable {prog:aaI}{w:World}{A:abb}{E:Ad->GT->Prop}{s:GT}
theorem Ii(v:SubS t1 s.heap l1 xs)(m:SubS t2 s.heap l2 ys)
  (h:∀h',I9 t1 t2 (s.heap.objs.size+4) (s.heap.objs.size+2) (s.heap.objs.size+3) s.heap.objs.size (s.heap.objs.size+1) l1 l2 0 h'->(∀c o,s.heap.get? c=some o->h'.get? c=some o)->Q (.ref (s.heap.objs.size+4)) {s with heap:=h' }):wpAny (model prog w) A (call (.type "zip") [.ref l1,.ref l2]) Q E s:=by
 refine callType_new F.called_zip ⋯ (F.typeCall_zip_2 _ _) (F.newCall_zip_2 _ _) (λobj=>F.args_object_init_3 obj _ _) F.entry_zip_new (Lu t1 t2 l1 l2 xs ys) ⟨v,m,?_⟩;have q:(zA t1 s.heap l1).objs.size=s.heap.objs.size+1:=abv ..;have p:(zB t1 t2 s.heap l1 l2).objs.size=s.heap.objs.size+2:=by rw[abv,q]
 have r:(zC t1 t2 s.heap l1 l2).objs.size=s.heap.objs.size+3:=by rw[abv,p]
 have B:(zD t1 t2 s.heap l1 l2).objs.size=s.heap.objs.size+4:=by rw[abv,r]
 have u:∀c o,(zD t1 t2 s.heap l1 l2).get? c=some o->(zE t1 t2 s.heap l1 l2).get? c=some o:=λc o e=>Io _ e;have k:∀c o,(zC t1 t2 s.heap l1 l2).get? c=some o->(zE t1 t2 s.heap l1 l2).get? c=some o:=λc o e=>u c o (Io _ e);have d:∀c o,(zB t1 t2 s.heap l1 l2).get? c=some o->(zE t1 t2 s.heap l1 l2).get? c=some o:=λc o e=>k c o (Io _ e);have g:∀c o,(zA t1 s.heap l1).get? c=some o->(zE t1 t2 s.heap l1 l2).get? c=some o:=λc o e=>d c o (Io _ e);have y:(zE t1 t2 s.heap l1 l2).get? (s.heap.objs.size+4)=some {cls:=.type "zip",data:=.fields #[.none,.bool false,.bool false,.ref (s.heap.objs.size+2),.ref (s.heap.objs.size+3)]}:=by
  rw[<-B,<-r,<-p];exact aai _ rfl
 have D:(zE t1 t2 s.heap l1 l2).get? (s.heap.objs.size+3)=some {cls:=.type "tuple",data:=.seq #[.none,.none]}:=by
  rw[<-r];exact u _ _ (aai _ rfl)
 have G:(zE t1 t2 s.heap l1 l2).get? (s.heap.objs.size+2)=some {cls:=.type "tuple",data:=.seq #[.ref s.heap.objs.size,.ref (s.heap.objs.size+1)]}:=by
  rw[<-p,<-q];exact k _ _ (aai _ rfl)
 have C:(zE t1 t2 s.heap l1 l2).get? (s.heap.objs.size+1)=some (itO t2 l2):=by
  rw[<-q];exact d _ _ (aai _ rfl)
 have I:(zE t1 t2 s.heap l1 l2).get? s.heap.objs.size=some (itO t1 l1):=g _ _ (aai _ rfl);have j:∀{t:Bool}{i l:Addr},(zE t1 t2 s.heap l1 l2).get? i=some (itO t l)->SubI t (zE t1 t2 s.heap l1 l2) i l 0:=λ{t i l} e=>by
  cases t
  .exact⟨_,e,rfl,rfl⟩
  .exact⟨_,e,rfl,rfl⟩
 show _/\_;rw[B];exact⟨⟨_,y,rfl⟩,h _ ⟨y,G,⟨_,_,D⟩,j I,j C⟩ λc o x=>g c o (Io _ x)⟩
end
theorem Df{l1 l2:Nat}(c:l1<n)(e:l2<n):Apart (n+4) (n+2) (n+3) n (n+1) l1 l2 where
 d:=by
  simp
 m1:=by
  grind
 m2:=by
  grind
def SqB(t:Bool)(K:aae)(H:Hp)(a:Addr)(xs:List V):Prop:=if t then SqT K H a xs else SqL K H a xs
def Itz(t1 t2:Bool)(K:aae)(a b:Addr):It where
 go:=λi H=>∃xs ys x y,SqB t1 K H a xs/\SqB t2 K H b ys/\xs[i]?=some x/\ys[i]?=some y
 yld:=λi H v c=>∃T x y,v = .ref T/\H T=none/\c=upd H T (.tup [x,y])/\(∀xs,SqB t1 K H a xs->xs[i]?=some x)/\∀ys,SqB t2 K H b ys->ys[i]?=some y
 stop:=λi H=>∃xs ys,SqB t1 K H a xs/\SqB t2 K H b ys/\(xs.length≤i\/ys.length≤i)
theorem Inv.sqb{s:GT}{xs:List V}(I:Inv X pins σ H s)(h:SqB t X.kx H a xs):∃its:List Ad,Vals xs its/\SubS t s.heap a its.toArray/\xs.length≤aak:=by
 cases t
 .obtain⟨its,r,p,z⟩:=I.list (h);exact⟨its,r,p.isList,z⟩
 .obtain⟨its,r,p,z⟩:=I.tuple (h);exact⟨its,r,p,z⟩
def Inv.sqb_inj{s:GT}{xs ys:List V}(I:Inv X pins σ H s)(h:SqB t X.kx H a xs)(h':SqB t X.kx H a ys):xs=ys:=by
 cases t
 .exact I.list_inj (h) (h')
 .exact I.tuple_inj (h) (h')
theorem Fc{P:aaI}{w:World}{K:aae}{x1:Nat}{pos:Pos}{TI TO:Addr}(D:Apart z TI TO i1 i2 a b):Turn P w K (.Tuple elts x1 pos) (Itz t1 t2 K a b) [z,TI,TO,i1,i2] z (λi h=>I9 t1 t2 z TI TO i1 i2 a b i h) where
 mem:=by simp
 obj:=λi h j c g=>by
  let⟨B,p,⟨u,v,m⟩,R,r⟩:=j;simp only[aag,abx,or_false]at g;rcases g with rfl|rfl|rfl|rfl|rfl
  .exact⟨_,B,λv q=>by cases q⟩
  .exact⟨_,p,λv q=>by cases q⟩
  .exact⟨_,m,λv q=>by cases q⟩
  .obtain⟨o,vs,e,d⟩:=R.obj;exact⟨o,e,λv q=>by rw[d]at q;cases q⟩
  .obtain⟨o,vs,e,d⟩:=r.obj;exact⟨o,e,λv q=>by rw[d]at q;cases q⟩
 keep:=λi h h' j k=>by
  let⟨B,p,⟨u,v,m⟩,R,r⟩:=j;exact⟨k z 'a' _ B,k TI 'a' _ p,⟨u,v,k TO 'a' _ m⟩,R.keep λo e=>k i1 'a' o e,r.keep λo e=>k i2 'a' o e⟩
 item:=by
  intro X hP Z hK g i pins s σ H E I T j V;subst hP Z hK;let⟨xs,ys,x,y,A,C,hx,hy⟩:=V;let⟨S,G,p1,_⟩:=I.sqb A;let⟨O,J,p2,_⟩:=I.sqb C;let⟨N,e1,Y⟩:=G.get hx;let⟨M,e2,U⟩:=J.get hy;refine Gf D j p1 p2 (x:=N) (y:=M) (by simpa using e1) (by simpa using e2) λh' a1 a2 a3 a4 a5 a6 a7=>⟨.ref s.heap.objs.size,rfl,?_⟩;refine wpAny_letOwnedTupleGo_zip (s:={s with heap:=h' }) a1 λr b1 sb=>?_;have W:H s.heap.objs.size=none:=I.hok.fresh (aab _);have sfp:∀c∈[z,TI,TO,i1,i2],c<s.heap.objs.size:=λc g=>by
   let⟨B,p,⟨u,v,m⟩,R,r⟩:=j;simp only[aag,abx,or_false]at g;rcases g with rfl|rfl|rfl|rfl|rfl
   .exact aal B
   .exact aal p
   .exact aal m
   .obtain⟨o,vs,e,d⟩:=R.obj;exact aal e
   .obtain⟨o,vs,e,d⟩:=r.obj;exact aal e
  have nz:∀c∈[z,TI,TO,i1,i2],c≠s.heap.objs.size:=λc g=>aa2 (sfp c g);have F:=D.old;have L:∀c o,c≠z->h'.get? c=some o->r.get? c=some o:=λc o n e=>sb.extBut c o n e;have T2:aeV r s.heap.objs.size N M:=L _ _ (abH (nz z 'a')) a5;have I0:Inv X pins σ (upd H s.heap.objs.size (.tup [x,y])) {s with heap:=s.heap.push {cls:=.type "tuple",data:=.seq #[N,M]},toks:=s.toks}:=
   I.laid (o:=.tup [x,y]) (λc o e=>Io _ e) (aab _) ⟨by show 2≤aak;rw[aap];decide,[N,M],.cons Y (.cons U .nil),PlainT.new _ _⟩
  have Il:Inv X pins σ (upd H s.heap.objs.size (.tup [x,y])) {s with heap:=r,toks:=s.toks}:=by
   refine Inv.turneds (s:={s with heap:=s.heap.push {cls:=.type "tuple",data:=.seq #[N,M]},toks:=s.toks}) (h':=r) (t':=s.toks) (ch:=[z,TI,TO,i1,i2]) I0 (λc o g e=>?_) λc g=>?_
   .rcases agC e with⟨rfl,rfl⟩|e
    .exact T2
    .exact L c o (λq=>g (by simp[q])) (a7 c o (λq=>g (by simp only[aag,abx,or_false]at q⊢;rcases q with q|q|q|q<;>simp[q])) e)
   .obtain⟨f0,f1⟩:=T c g;exact⟨by rw[av (nz c g)];exact f0,f1⟩
  refine⟨.ref s.heap.objs.size,upd H s.heap.objs.size (.tup [x,y]),Il,rfl,⟨_,x,y,rfl,W,rfl,λzs B=>by rw[I.sqb_inj B A];exact hx,λzs B=>by rw[I.sqb_inj B C];exact hy⟩,⟨b1,L _ _ F.TIz (a7 _ _ (by simp only[aag,abx,or_false,not_or];exact⟨F.TIz,F.TITO,F.TIi1,F.TIi2⟩) j.ti),⟨_,_,L _ _ F.TOz a2⟩,a3.keep λo e=>L _ o F.i1z e,a4.keep λo e=>L _ o F.i2z e⟩,λc g=>?_⟩;rw[av (nz c g)];exact(T c g).1
 done:=by
  intro X hP Z hK g i pins s σ H E I T j V;subst hP Z hK;let⟨xs,ys,A,C,he⟩:=V;let⟨S,G,p1,_⟩:=I.sqb A;let⟨O,J,p2,_⟩:=I.sqb C;have l1:=G.length;have l2:=J.length;refine M6 (I.ok.hd g) D j p1 p2 (by rcases he with q|q;(left;simp;omega);(right;simp;omega)) λh' hk=>⟨rfl,I.turneds (t':=s.toks) (ch:=[z,TI,TO,i1,i2]) (λc o g e=>hk c o (λq=>g (by simp only[aag,abx,or_false]at q⊢;rcases q with q|q|q|q<;>simp[q])) e) T⟩
 self:=λ_ _ _ _ _ j h=>wpAny_pyIter_zip j.z h
section
variable {X:Cx}{j:List Expr}{B:Nat}{w:Pos}{a b:Expr}{A:WA}{p pos:Pos}
def iZip(K:aae)(ta:TA):TI:=λσ H R=>ta σ H λvs c=>∃t1 t2 l1 l2,vs=[.ref l1,.ref l2]/\(∃xs,SqB t1 K c l1 xs)/\(∃ys,SqB t2 K c l2 ys)/\R (Itz t1 t2 K l1 l2) c
def J6:aa0 "zip" = some (.type "zip"):=by rfl
theorem Tz{ta:TA}(C:Gl X "zip")(J:X.mg "zip" = none)(M:PA X [a,b] ta)(N:aac [a,b] X.env=[(false,eval a X.env),(false,eval b X.env)]:=by first|exact(aH rfl).trans (congrArg _ (cI rfl))|rfl)(k:aac [b] X.env=[(false,eval b X.env)]:=by first|exact cI rfl|rfl):PI X (.Tuple j B w) (.Call (.Name "zip" p) [a,b] [] pos) (iZip X.K ta):=by
 intro pins s σ H S I h;refine Call_ (j7 I C J J6 (acA (thn (M pos pins s σ H _ I h) λT s1 ⟨vs,E,g,r1,D⟩=>?_) (by rw[N,k]) (by rw[k];rfl)));let⟨t1,t2,l1,l2,e,⟨xs,L⟩,⟨ys,F⟩,q⟩:=D;subst e
 cases r1 with
 | cons r rr=>
  cases rr with
  | cons G rr=>
   cases rr;cases r;cases G;let⟨y,O,v,_⟩:=g.sqb L;let⟨u,R,x,_⟩:=g.sqb F;refine Ii v x λh' Z hk=>?_;refine wpAny_pyIter_zip Z.z ?_;have lt:∀{t:Bool}{l:Addr}{its:Array Ad},SubS t s1.heap l its->l<s1.heap.objs.size:=λ{t l its} p=>by
    cases t
    .obtain⟨o,e,_⟩:=(show s1.heap.IsList l its from p);exact aal e
    .obtain⟨o,e,_⟩:=(show s1.heap.IsTuple l its from p);exact aal e
   refine⟨s1.heap.objs.size+4,_,_,_,E,rfl,g.kept (t':=s1.toks) hk,Fc (Df (lt v) (lt x)),Z,λc P=>?_,q⟩;have d:s1.heap.objs.size≤c:=by
    have m:=P;simp at m;rcases m with rfl|rfl|rfl|rfl|rfl<;>first|exact ack _ _|exact aab _
   exact g.fpOk d (g.hok.fresh d)
def imS:R->Option (Bool×List aD)
 | .imm (.tuple ds)=>some (true,ds)
 | .imm (.list ds)=>some (false,ds)
 |_=>none
def zipD(ds es:List aD):List aD:=(ds.zip es).map λp=>.tuple [p.1,p.2]
abbrev Uw(A:WA):WI:=λm K=>A m λrs c=>match rs with|[r1,r2]=>∃t1 ds t2 es,imS r1=some (t1,ds)/\imS r2=some (t2,es)/\K ⟨zipD ds es,none⟩ c|_=>False
theorem AY{K:Kd}{α:Al}{d:Hp}{r:R}{v:V}(h:RelR K α d H r v)(e:imS r=some (t,ds)):∃l xs,v = .ref l/\DenAll K H ds xs/\(SqB t K H l xs)/\∀c,Pers H c->SqB t K c l xs:=by
 unfold imS at e
 split at e
 .cases e;let⟨l,xs,e,f,g⟩:=bQ (h);exact⟨l,xs,e,g,f,λc p=>f.mono p⟩
 .cases e;have h':=h;let⟨l,xs,e,f,g⟩:=h';exact⟨l,xs,e,g,f.sq,λc p=>(f.mono p).sq⟩
 .cases e
def cw(ds es:List aD):(zipD ds es).length=min ds.length es.length:=by simp[zipD]
theorem vV{d e:aD}(c:ds[i]?=some d)(g:es[i]?=some e):(zipD ds es)[i]?=some (.tuple [d,e]):=by
 unfold zipD;rw[aaj,(List.getElem?_zip_eq_some (z:=(d,e))).mpr ⟨c,g⟩];rfl
theorem wks_zip{K:Kd}:Wks K (Itz t1 t2 K l1 l2) (zipD ds es) λH=>∃xs ys,SqB t1 K H l1 xs/\SqB t2 K H l2 ys/\DenAll K H ds xs/\DenAll K H es ys where
 stop:=λH ⟨xs,ys,c,m,k,g⟩=>⟨xs,ys,c,m,by rw[cw,<-k.length,<-g.length];omega⟩
 go:=λi H hi ⟨xs,ys,c,m,k,g⟩=>by
  rw[cw]at hi;exact⟨xs,ys,xs[i]'(by rw[<-k.length];omega),ys[i]'(by rw[<-g.length];omega),c,m,lD _,lD _⟩
 yld:=λi H x I hi ⟨xs,ys,c,m,k,g⟩ y=>by
  let⟨T,u,v,rfl,E,rfl,D,C⟩:=y;let⟨d,F,k1⟩:=k.get2 (D xs c);let⟨e,G,k2⟩:=g.get2 (C ys m);have r:∀b o,H b=some o->upd H T (.tup [u,v]) b=some o:=λb o q=>by rw[av (bi q E)];exact q
  have s:Pers H _:=⟨λb xs q=>r b _ q,λb o u q=>r b _ q⟩;refine⟨r,_,vV F G,?_⟩;exact e8 (SqT.of ay) (DenAll.cons (k1.mono s) (DenAll.cons (k2.mono s) DenAll.nil))
theorem Rg(M:X.mg "zip" = none)(U:MA X [a,b] A)(D:Gl X "zip":=by rfl)(T:aac [a,b] X.env=[(false,eval a X.env),(false,eval b X.env)]:=by first|exact(aH rfl).trans (congrArg _ (cI rfl))|rfl)(o:aac [b] X.env=[(false,eval b X.env)]:=by first|exact cI rfl|rfl):MI X (.Tuple j B w) (.Call (.Name "zip" p) [a,b] [] pos) (Uw A):=(Tz D M U T o).wk<|by
 intro σ H W ⟨α,m,Z,C,I,q⟩;refine⟨α,m,_,C,I,λrs E vs G k n R rr F=>?_⟩
 cases rr with
 |nil=>exact k.elim
 |cons O rr=>
  cases rr with
  |nil=>exact k.elim
  |cons J rr=>
  cases rr with
  |cons _ _=>exact k.elim
  |nil=>
  let⟨t1,ds,t2,es,N,y,k⟩:=k;let⟨l1,xs,rfl,V,u,P⟩:=AY O N;let⟨l2,ys,rfl,L,x,S⟩:=AY J y;refine⟨t1,t2,l1,l2,rfl,⟨xs,u⟩,⟨ys,x⟩,q _ E _ G k n R F ⟨λH=>∃xs ys,SqB t1 X.kx H l1 xs/\SqB t2 X.kx H l2 ys/\DenAll X.kx H ds xs/\DenAll X.kx H es ys/\(∀e,Pers H e->SqB t1 X.kx e l1 xs)/\∀e,Pers H e->SqB t2 X.kx e l2 ys,wks_zip.imp<|by intro H ⟨xs,ys,a,b,c,d,_⟩;exact⟨xs,ys,a,b,c,d⟩,⟨xs,ys,u,x,V,L,P,S⟩,by intro Y r ⟨xs,ys,a,b,c,d,s,v⟩ g;exact⟨xs,ys,s r g,v r g,c.mono g,d.mono g,λe p=>s e (g.trans p),λe p=>v e (g.trans p)⟩⟩⟩
end
theorem pQ{x:Nat}{c:Pos}{a b:Expr}{w:WA}{p pos:Pos}(g:X.mg "zip" = none)(j:EA X [a,b] w)(e:Gl X "zip":=by rfl)(k:aac [a,b] X.env=[(false,eval a X.env),(false,eval b X.env)]:=by first|exact(aH rfl).trans (congrArg _ (cI rfl))|rfl)(d:aac [b] X.env=[(false,eval b X.env)]:=by first|exact cI rfl|rfl):EI X (.Tuple elts x c) (.Call (.Name "zip" p) [a,b] [] pos) (Uw w):=⟨Rg g j.h e k d⟩
def cK{β:Type}{xs:List α}{x:α}(f:α->β)(h:xs[i]?=some x):(xs.take (i+1)).map f=(xs.take i).map f++[f x]:=by
 rw[aaU,h,aaM];rfl
theorem gmap{β:Type}{xs:List α}{y:β}{f:α->β}(h:(xs.map f)[i]?=some y):∃x,xs[i]?=some x/\y=f x/\i<xs.length:=by
 rw[aaj]at h
 cases q:xs[i]? with
 |none=>rw[q]at h;cases h
 |some x=>rw[q]at h;exact⟨x,rfl,(aaA h).symm,(AD.mp q).1⟩
theorem b9{lo:Int}{d:aD}(h:(iq lo n)[i]?=some d):i<n/\d = .int (lo+(i:Int)):=by
 have hi:=by
  have:=(AD.mp h).1;rwa[aM]at this
 rw[jt hi]at h;exact⟨hi,(aaA h).symm⟩
def zl{k:Nat}{P:MSt->Prop}{m:MSt}(c:List Nat)(m2:MSt)(N:Ren c (m.setV n (.obj k)) m2)(h:P m2):qI n P m (.obj k):=.inr ⟨c,m2,N,h⟩
def yG{d:aD}{P:MSt->Prop}{m:MSt}(c:List Nat)(m2:MSt)(N:Ren c (m.setV n (.imm d)) m2)(h:P m2):qI n P m (.imm d):=.inr ⟨c,m2,N,h⟩
def RenO(c:List Nat)(o:Option R):Option R->Prop
 |none=>True
 |some r=>RenR c (some o) r
def RenVs(c:List Nat):List (Option R)->List (Option R)->Prop
 |o::os,q::qs=>RenO c o q/\RenVs c os qs
 |[],[]=>True
 |_,_=>False
theorem RenVs.len{c:List Nat}:∀{os q:List (Option R)},RenVs c os q->q.length=os.length
 |[],[],_=>rfl
 |_::_,_::_,h=>congrArg (· + 1) (RenVs.len h.2)
 |[],_::_,h=>h.elim
 |_::_,[],h=>h.elim
theorem RenVs.get{d:List Nat}:∀{os c:List (Option R)},RenVs d os c->∀(j:Nat) (r:R),c[j]?=some (some r)->RenR d os[j]? r
 |o::os,q::c,h,0,r,e=>by
  have g:=by simpa using e
  subst g;exact h.1
 |o::os,q::c,h,j+1,r,e=>by simpa using RenVs.get h.2 j r ‹_›
 |[],[],_,_,_,e=>by simp at e
 |[],_::_,h,_,_,_=>h.elim
 |_::_,[],h,_,_,_=>h.elim
def JX{c:List Nat}{m m2:MSt}(nd:decide c.Nodup=true)(lt:(c.all λk=>Nat.blt k m.os.length)=true)(pre:c.take m.np=aaz m.np)(npl:Nat.ble m.np c.length=true)(os:m2.os=c.map λk=>m.os.getD k [])(np:m2.np=m.np)(vs:RenVs c m.vs m2.vs):Ren c m m2:=
 ⟨of_decide_eq_true nd,λk hk=>Nat.blt_eq.mp (abM.mp lt k hk),pre,aev npl,os,np,vs.len,λj r e=>vs.get j r e⟩
def qY{d:aD}(h:(zipD ds es)[i]?=some d):∃a b,ds[i]?=some a/\es[i]?=some b/\d = .tuple [a,b]:=by
 let⟨p,e,rfl,_⟩:=gmap h;let⟨g,c⟩:=List.getElem?_zip_eq_some.mp e;exact⟨p.1,p.2,g,c,rfl⟩
def L5{x:Str}(h:(aeC x).canLay0=true):Shp 0 (.str x):=⟨h,aab _⟩
end L2
namespace M3
def stepL(xs:List (List Nat))(r:Nat):List (List Nat):=xs.flatMap λa=>(aaz (r+1)).map λk=>a++[k]
def allL(rs:List Nat):List (List Nat):=rs.foldl stepL [[]]
def allR:List Nat->List (List Nat)
 |[]=>[[]]
 |r::rs=>(aaz (r+1)).flatMap λk=>(allR rs).map (k :: ·)
theorem sG:∀(rs:List Nat) (xs:List (List Nat)),rs.foldl stepL xs=xs.flatMap λa=>(allR rs).map (a++·)
 |[],xs=>by
  simp[allR]
 |r::rs,xs=>by
  rw[aeS,sG rs];simp only[stepL,allR,List.flatMap_assoc,List.map_flatMap,List.flatMap_map,aba]
  congr 1
  funext a
  congr 1
  funext k
  congr 1
  funext l
  simp
def allL_eq(rs:List Nat):allL rs=allR rs:=by
 unfold allL;rw[sG];simp
theorem allR_len:∀{rs l:List Nat},l∈allR rs->l.length=rs.length
 |[],l,h=>by simp[allR]at h;subst h;rfl
 |r::rs,l,h=>by
  simp only[allR,acj,aar]at h;let⟨k,_,a,h,rfl⟩:=h;simp[allR_len h]
theorem stepL_length(xs:List (List Nat))(r:Nat):(stepL xs r).length=xs.length*(r+1):=by
 unfold stepL
 induction xs with
 |nil=>simp
 |cons a xs i=>
  grind
theorem wj:∀{rs:List Nat}{xs:List (List Nat)},(∀r∈rs,r≤6)->(rs.foldl stepL xs).length≤xs.length*7^rs.length
 |[],xs,_=>by simp
 |r::rs,xs,h=>by
  rw[aeS];refine aaw (wj λa b=>h a (aaf _ b)) ?_;rw[stepL_length,aat,Nat.pow_succ,Nat.mul_assoc,ac8 (7^rs.length)];refine Nat.mul_le_mul_left _ (adA _ ?_)
  simp_all
def fold_small{rs:List Nat}(a:rs.length≤4)(h:∀r∈rs,r≤6):(rs.foldl stepL [[]]).length≤2401:=by
 refine aaw (wj h) ?_;have:7^rs.length≤7^4:=Nat.pow_le_pow_right ⋯ a;simpa
def stepL_take{xs:List (List Nat)}{r j:Nat}{l:List Nat}(h:xs[j]?=some l):stepL (xs.take (j+1)) r=stepL (xs.take j) r++(aaz (r+1)).map λy=>l++[y]:=by
 unfold stepL;rw[aaU,h];simp
end M3
set_option maxHeartbeats 4100000
namespace K
open PySem L2
variable{h:Hall}
def Iy:SpM:=λa K=>∃ns:List Int,a=[.imm (.list (ns.map .int))]/\ns.length≤63/\K (.imm (.bool true)) []
def frD(a b:Int):aD:=.tuple [.int a,.int b]
def SG:SpM:=λc K=>∃a b:Nat,c=[.imm (.int a),.imm (.int b)]/\a<1000000000/\0<b/\b<1000000000/\K (.imm (frD (a/a.gcd b:Nat) (b/a.gcd b:Nat))) []
structure Srv where
 a:Nat
 b:Nat
 r:Nat
def Srv.d(s:Srv):aD:=.tuple [.tuple [.int s.a,.int s.b],.int s.r]
structure Srv.Ok(s:Srv):Prop where
 a1:1≤s.a
 a2:s.a<1000000
 b1:1≤s.b
 b2:s.b<1000000
 r1:1≤s.r
 r6:s.r≤6
structure Hall where
 a:Nat
 b:Nat
 ss:List Srv
 mv:Bool
def Hall.d(h:Hall):aD:=.tuple [.tuple [.int h.a,.int h.b],.tuple (h.ss.map Srv.d),.bool h.mv]
structure Hall.Ok(h:Hall):Prop where
 a1:1≤h.a
 a2:h.a<1000000
 b1:1≤h.b
 b2:h.b<1000000
 n1:1≤h.ss.length
 n4:h.ss.length≤4
 ok:∀s∈h.ss,s.Ok
def Hall.rs(h:Hall):List Nat:=h.ss.map Srv.r
def Hall.rsl(h:Hall):h.rs.length=h.ss.length:=by simp[Hall.rs]
def Hall.Ok.r6(o:h.Ok):∀r∈h.rs,r≤6:=λr b=>by
 let⟨s,a,rfl⟩:=aar.mp b;exact(o.ok s a).r6
def Hall.rs_get{i:Nat}{s:Srv}(e:h.ss[i]?=some s):h.rs[i]?=some s.r:=by simp[Hall.rs,e]
def prD(p:Nat×Nat):aD:=.tuple [.int (p.1:Int),.int (p.2:Int)]
def natD(l:List Nat):List aD:=l.map λ(k:Nat)=>.int (k:Int)
def lnD(l:List Nat):aD:=.tuple (natD l)
def bg(l:List Nat):(natD l).length=l.length:=by simp[natD]
def bp{l:List Nat}{i x:Nat}(h:l[i]?=some x):(natD l)[i]?=some (.int (x:Int)):=by simp[natD,h]
inductive Rule where
 |random|turns|two|least|quick
 |told (ps:List Nat)
def Rule.word:Rule->Str
 | .random=> "random" | .turns=> "turns" | .two=> "two" | .least=> "least" | .quick=> "quick" | .told _=> "told"
def Rule.d:Rule->aD
 | .told p=>.tuple [.str "told",lnD p]
 |r=>.tuple [.str r.word]
def Rule.Ok(h:Hall):Rule->Prop
 | .told a=>a.length=(M3.allR h.rs).length/\∀p∈a,p<h.ss.length
 |_=>True
def yJ{rs:List Nat}(a:rs.length≤4)(h:∀r∈rs,r≤6):(M3.allR rs).length≤2401:=by
 rw[<-M3.allL_eq];exact M3.fold_small a h
def Lines(h:Hall)(l:List Nat):Prop:=l.length=h.ss.length/\∀(i:Nat) s x,h.ss[i]?=some s->l[i]?=some x->x≤s.r
theorem Lines.le{l:List Nat}(o:h.Ok)(k:Lines h l):∀x∈l,x≤6:=λx c=>by
 let⟨i,b,rfl⟩:=ab3.mp c;have a:i<h.ss.length:=by rw[<-k.1];exact b
 have:=k.2 i _ _ (lD a) (lD b);have:=(o.ok _ (aeD a)).r6;exact aaw ‹_› ‹_›
section
variable {h:Hall}{m:MSt}{K:L2.R->Prop}
def x_h1(q:K (.imm (.tuple (h.ss.map Srv.d)))):mI (.imm h.d) (.imm (.int 1)) m K:=⟨_,rfl,q⟩
def x_h2(q:K (.imm (.bool h.mv))):mI (.imm h.d) (.imm (.int 2)) m K:=⟨_,rfl,q⟩
end
end K
namespace L2
open PySem PySem.Spec PyProof.Rows
variable{v y:V}{u:Ad}{P prog:aaI}{w:World}{H H':Hp}{kvs:List (aD×aD)}{xs:List (List Key×Addr×Ad)}{a e it l:Addr}{Q:Ad->GT->Prop}{h':aa1}{pos:Pos}{X:Cx}{ks:List (Option Expr)}{vs:List Ad}{trs:List (TE×TE)}{values:List Expr}{τ:List 'h'}{p:List Nat}{kk:Key}{t t':aD}{i j:Nat}{K:List (R×R)->MSt->Prop}{wv:WE}{ws:List (WE×WE)}{items:Array Ad}{ns:List Int}{ds:List aD}{Kr:R->Prop}
section
variable {a:Type} [DecidableEq a]
def valV(kvs:List (a×V))(k:a):Option V:=(kvs.find? λb=>decide (b.1=k)).map (·.2)
def putK(kvs:List (a×V))(k:a)(v:V):List (a×V):=
 if (kvs.any λb=>decide (b.1=k))=true then kvs.map (λb=>if b.1=k then(b.1,v)else b)else kvs++[(k,v)]
theorem dm{p:a×V}{r:List (a×V)}{k:a}(e:p.1=k):valV (p::r) k=some p.2:=by simp[valV,e]
theorem dn{p:a×V}{r:List (a×V)}{k:a}(e:¬p.1=k):valV (p::r) k=valV r k:=by simp[valV,e]
theorem pH(k:a):∀kvs:List (a×V),(kvs.any λb=>decide (b.1=k))=(valV kvs k).isSome
 |[]=>rfl
 |p::r=>by
  rw[afI]
  by_cases e:p.1=k
  .simp[dm e,decide_eq_true e]
  .rw[dn e,decide_eq_false e];exact pH k r
theorem t7(k j:a)(y:V):∀kvs:List (a×V),valV kvs k=none->valV (kvs++[(k,y)]) j=if j=k then some y else valV kvs j
 |[],_=>by
  by_cases e:k=j
  .rw[if_pos e.symm];exact dm (p:=(k,y)) e
  .rw[if_neg (λz=>e z.symm)];exact dn (p:=(k,y)) e
 |p::r,hn=>by
  rw[adD];have hk:¬p.1=k:=λz=>by rw[dm z]at hn;cases hn
  rw[dn hk]at hn;have b:=t7 k j y r hn
  by_cases e:p.1=j
  .rw[dm e,dm e,if_neg (λz=>hk (e.trans z))]
  .rw[dn e,dn e,b]
theorem iz(kvs:List (a×V))(k:a)(v:V):(putK kvs k v).length≤kvs.length+1:=by
 unfold putK
 grind
theorem FM{kvs:List (a×V)}{k:a}(v:V)(h:valV kvs k=none):putK kvs k v=kvs++[(k,v)]:=by
 unfold putK;rw[pH,h];exact if_neg ⋯
theorem RelO.isSome_eq{o:Option V}{u:Option Ad}(r:RelO o u):o.isSome=u.isSome:=by
 cases o with
 |none=>cases u with
  |none=>rfl
  |some _=>exact(r).elim
 |some _=>cases u with
  |none=>exact(r).elim
  |some _=>rfl
theorem KV.val{kvs:List (a×V)}{vs:List (a×Ad)}(r:KV kvs vs)(k:a):RelO (valV kvs k) (ae4 vs k):=by
 induction r with
 |nil=>exact acE
 | @cons p q ps qs h t ih=>
  let⟨c,d⟩:=h
  by_cases e:p.1=k
  .have e':=c.symm.trans e;have b:ae4 (q::qs) k=some q.2:=by simp[ae4,e']
   rw[dm e,b];exact d
  .have e':¬q.1=k:=λz=>e (c.trans z);have b:ae4 (q::qs) k=ae4 qs k:=by simp[ae4,e']
   rw[dn e,b];exact ih
theorem KV.any{kvs:List (a×V)}{vs:List (a×Ad)}(r:KV kvs vs)(k:a):(kvs.any λb=>decide (b.1=k))=vs.any λb=>decide (b.1=k):=by
 induction r with
 |nil=>rfl
 |cons h t c=>rw[afI,afI,c,h.1]
theorem KV.repl{kvs:List (a×V)}{vs:List (a×Ad)}(r:KV kvs vs)(k:a)(d:RelV y u) :
  KV (kvs.map λb=>if b.1=k then(b.1,y)else b) (vs.map λb=>if b.1=k then(b.1,u)else b):=by
 induction r with
 |nil=>exact .nil
 | @cons p q ps qs h t ih=>
  rw[aam,aam];refine .cons ?_ ih;let⟨c,f⟩:=h
  by_cases e:p.1=k
  .rw[if_pos e,if_pos (c.symm.trans e)];exact⟨c,d⟩
  .rw[if_neg e,if_neg (λz=>e (c.trans z))];exact⟨c,f⟩
theorem KV.put{kvs:List (a×V)}{vs:List (a×Ad)}(r:KV kvs vs)(k:a)(b:RelV y u):KV (putK kvs k y) (stored vs k u):=by
 unfold putK stored;rw[r.any k]
 by_cases e:(vs.any λc=>decide (c.1=k))=true
 .rw[if_pos e,if_pos e];exact r.repl k b
 .rw[if_neg e,if_neg e];exact Paired.snoc r ⟨rfl,b⟩
theorem KV.length{kvs:List (a×V)}{vs:List (a×Ad)}(r:KV kvs vs):kvs.length=vs.length:=agU r
end
theorem vc{k:Key}(r:RelV (kV k) u):(cg P w).is k u=true:=by
 cases k with
 |inl i=>let⟨t,e⟩:=(r);subst e;exact vC P w i t
 |inr x=>let⟨t,e⟩:=(r);subst e;exact vy P w x t
theorem rF{P:aaI}{w:World}:∀{ks:List Key}{us:List Ad},Vals (ks.map kV) us->ItemsAre (cg P w) ks us
 |[],_,r=>by rw[adE]at r;cases r;exact .nil
 |k::ks,_,r=>by
  cases r with
  |cons h t=>exact .cons (vc h) (rF t)
abbrev KT(H:Hp):List (List Key×V)->List (List Key×Addr×Ad)->Prop:=abQ λp q=>p.1=q.1/\H q.2.1=some (.tup (p.1.map kV))/\RelV p.2 q.2.2
theorem KT.val{kvs:List (List Key×V)}(r:KT H kvs xs)(k:List Key):RelO (valV kvs k) ((atKey xs k).map (·.2)):=by
 induction r with
 |nil=>exact acE
 | @cons p q ps qs h t ih=>
  let⟨c,_,d⟩:=h
  by_cases e:p.1=k
  .have e':=c.symm.trans e;have b:atKey (q::qs) k=some q.2:=by simp[atKey,e']
   rw[dm e,b];exact d
  .have e':¬q.1=k:=λz=>e (c.trans z);have b:atKey (q::qs) k=atKey qs k:=by simp[atKey,e']
   rw[dn e,b];exact ih
theorem KT.repl{kvs:List (List Key×V)}(r:KT H kvs xs)(k:List Key)(f:RelV y u) :
  KT H (kvs.map λc=>if c.1=k then(c.1,y)else c) (xs.map (putAt k u)):=by
 induction r with
 |nil=>exact .nil
 | @cons p q ps qs h t ih=>
  rw[aam];refine .cons ?_ ih;let⟨b,d,g⟩:=h;unfold putAt
  by_cases e:p.1=k
  .rw[if_pos e,if_pos (b.symm.trans e)];exact⟨b,d,f⟩
  .rw[if_neg e,if_neg (λz=>e (b.trans z))];exact⟨b,d,g⟩
theorem KT.put{kvs:List (List Key×V)}(r:KT H kvs xs)(k:List Key){b:Addr}(h:H b=some (.tup (k.map kV)))(c:RelV y u) :
  KT H (putK kvs k y) (storedH xs k b u):=by
 have e:(kvs.any λd=>decide (d.1=k))=(atKey xs k).isSome:=by
  rw[pH,(r.val k).isSome_eq,afz]
 unfold putK storedH;rw[e]
 by_cases q:(atKey xs k).isSome=true
 .rw[if_pos q,if_pos q];exact r.repl k c
 .rw[if_neg q,if_neg q];exact Paired.snoc r ⟨rfl,h,c⟩
def KT.keeps{kvs:List (List Key×V)}(r:KT H kvs xs)(h:∀b ys,H b=some (.tup ys)->H' b=some (.tup ys)):KT H' kvs xs:=
 Paired.mapP r λ_ _ z=>⟨z.1,h _ _ z.2.1,z.2.2⟩
section
variable {P:aaI}{w:World}{H:Hp}{h:aa1}{a:Addr}
def T5{u:HO}(ok:HOk P w H h)(e:Rd H a u):ObjOk P w H h a u:=e.ok ok
def qB{kvs:List (Key×V)}(ok:HOk P w H h)(e:Rd H a (.dK kvs)):kvs.length≤aak/\(a==abB)=false/\∃vs,KV kvs vs/\h.DictOf (cg P w) a vs:=
 T5 ok e
def RM{kvs:List (Key×V)}(ok:HOk P w H h)(e:H a=some (.dK kvs)):kvs.length≤aak/\(a==abB)=false/\∃vs,KV kvs vs/\h.DictOf (cg P w) a vs:=qB ok (.inl e)
def sw{ks:List Key}(ok:HOk P w H h)(e:H a=some (.tup (ks.map kV))):(agI (cg P w)).is h ks a:=by
 let⟨_,b,r,o,c,d,hd,n,f⟩:=(ok a _ e);exact⟨o,b.toArray,n,c,d,f,by simpa using rF r⟩
theorem DA{kvs:List (List Key×V)}(ok:HOk P w H h)(e:Rd H a (.dT kvs)):kvs.length≤aak/\(a==abB)=false/\
  ∃xs,KT H kvs xs/\h.DictOfH (agI (cg P w)) a xs:=by
 let⟨z,y,xs,r,o,d,g,k,s,f,c,n⟩:=(T5 ok e);refine⟨z,y,xs,r,o,d,g,k,s,f,c,λx b=>?_,n⟩;have all:∀{l:List _}{m:List _},KT H l m->∀x∈m,(agI (cg P w)).is h x.1 x.2.1:=by
  intro l m q
  induction q with
  |nil=>intro x b;exact nomatch b
  | @cons p q ps qs hq t ih=>
   intro x b;rcases aag.mp b with e|b
   .subst e;exact sw ok (by simp_all)
   .exact ih x b
 exact all r x b
def VC{kvs:List (List Key×V)}(ok:HOk P w H h)(e:H a=some (.dT kvs)):kvs.length≤aak/\(a==abB)=false/\
  ∃xs,KT H kvs xs/\h.DictOfH (agI (cg P w)) a xs:=DA ok (.inl e)
end
def DGet(H:Hp)(a:Addr)(y:V)(r:Option V):Prop:=
 (∃kvs k,Rd H a (.dK kvs)/\y=kV k/\r=valV kvs k)\/∃kvs k b,Rd H a (.dT kvs)/\y = .ref b/\H b=some (.tup (k.map kV))/\r=valV kvs k
def DPut(H:Hp)(a:Addr)(y v:V)(H':Hp):Prop:=
 (∃kvs k,H a=some (.dK kvs)/\y=kV k/\kvs.length<aak/\H'=upd H a (.dK (putK kvs k v))) \/
 ∃kvs k b,H a=some (.dT kvs)/\y = .ref b/\H b=some (.tup (k.map kV))/\kvs.length<aak/\H'=upd H a (.dT (putK kvs k v))
theorem DGet.k{kvs:List (Key×V)}{k:Key}(e:H a=some (.dK kvs)):DGet H a (kV k) (valV kvs k):=.inl ⟨kvs,k,.inl e,rfl,rfl⟩
theorem DPut.k{kvs:List (Key×V)}{k:Key}(e:H a=some (.dK kvs))(h:kvs.length<aak):DPut H a (kV k) v (upd H a (.dK (putK kvs k v))):=.inl ⟨kvs,k,e,rfl,h,rfl⟩
section
variable {X:Cx}{d:List 'i'}{f:St}{H:Hp}{s:GT}{a:Addr}{y v:V}{u r:Ad}{o:Option V}{A:abb}{E:Ad->GT->Prop}
def Inv.big(I:Inv X d f H s):abB<s.heap.objs.size:=by
 have h:=(I.mod.glob.keeps I.bk).lt;exact ael ⋯ h
theorem sV(G:A.units+1<cLine)(I:Inv X d f H s)(g:DGet H a y (some v))(D:RelV y u)(h:∀n s',Inv X d f H s'->RelV v n->Q n s') :
  wpAny (model X.prog X.w) A (aeI (.ref a) u) Q E s:=by
 rcases g with⟨kvs,k,e,C,l⟩|⟨kvs,k,b,e,C,eb,l⟩
 .subst C;let⟨z,hd,vs,m,B⟩:=qB I.hok e;let⟨n,x,c⟩:=RelO.some_of (v:=v) (o:=ae4 vs k) (by rw[l];exact m.val k);exact wpAny_getItem_of (vc D) B.mapOf x (h n _ (I.tok _) c)
 .subst C
  cases (show u=abm b from D)
  let⟨z,hd,xs,m,B⟩:=DA I.hok e;let⟨n,x,c⟩:=RelO.some_of (v:=v) (o:=(atKey xs k).map (·.2)) (by rw[l];exact m.val k);let⟨p,F,q⟩:=aem.mp x;refine wpAny_getItem_heap (ad9 G) (sw I.hok eb) B F ?_;rw[q];exact h n _ (I.tok _) c
theorem d_in(B:A.units+1<cLine)(I:Inv X d f H s)(g:DGet H a y o)(x:RelV y u)(h:∀s',Inv X d f H s'->Q (.bool o.isSome) s') :
  wpAny (model X.prog X.w) A (aaW .In u (.ref a)) Q E s:=by
 rcases g with⟨kvs,k,e,n,l⟩|⟨kvs,k,b,e,n,eb,l⟩
 .subst n;let⟨z,hd,vs,c,m⟩:=qB I.hok e;refine wpAny_in_of (vc x) hd m.mapOf ?_;rw[<-(c.val k).isSome_eq,<-l];exact h _ (I.tok _)
 .subst n;cases (x);let⟨z,hd,xs,c,m⟩:=DA I.hok e;refine wpAny_in_heap (ad9 B) (sw I.hok eb) hd m ?_;have q:=(c.val k).isSome_eq;rw[afz]at q;rw[<-q,<-l];exact h _ (I.tok _)
theorem O6(B:A.units+1<cLine)(I:Inv X d f H s)(g:DGet H a y o)(x:RelV y u)(h:∀s',Inv X d f H s'->Q (.bool (!o.isSome)) s') :
  wpAny (model X.prog X.w) A (aaW .NotIn u (.ref a)) Q E s:=by
 rcases g with⟨kvs,k,e,n,l⟩|⟨kvs,k,b,e,n,eb,l⟩
 .subst n;let⟨z,hd,vs,c,m⟩:=qB I.hok e;refine wpAny_notIn_of (vc x) hd m.mapOf ?_;rw[<-(c.val k).isSome_eq,<-l];exact h _ (I.tok _)
 .subst n;cases (x);let⟨z,hd,xs,c,m⟩:=DA I.hok e;refine wpAny_notIn_heap (ad9 B) (sw I.hok eb) hd m ?_;have q:=(c.val k).isSome_eq;rw[afz]at q;rw[<-q,<-l];exact h _ (I.tok _)
def qK{t':Nat}{c:HO}(I:Inv X d f H s)(mu:Mut (H a))(h:abk a s.heap h')(g:∃q,h'.get? a=some q)(new:ObjOk X.prog X.w (upd H a c) h' a c) :
  Inv X d f (upd H a c) {s with heap:=h',toks:=t' }:=
 I.write mu (.inl rfl) (λb q k z=>(h.2 b k).trans z) g new
def JC{kvs:List (Key×V)}{vs:List (Key×Ad)}(z:kvs.length≤aak)(hd:(a==abB)=false)(b:KV kvs vs)(c:h'.DictOf (cg P w) a vs) :
  ObjOk P w H' h' a (.dK kvs):=⟨z,hd,vs,b,c⟩
theorem Br{Q:Unit->GT->Prop}(R:A.units+1<cLine)(I:Inv X d f H s)(g:DPut H a y v H')(M:RelV y u)(L:RelV v r)(h:∀s',Inv X d f H' s'->Q () s') :
  wpAny (model X.prog X.w) A (setItem (.ref a) u r) Q E s:=by
 rcases g with⟨kvs,k,e,J,l,B⟩|⟨kvs,k,b,e,J,eb,l,B⟩
 .subst J B;let⟨z,hd,vs,m,D⟩:=RM I.hok e;have C:vs.length≤aak:=by rw[<-m.length];exact z
  have G:(putK kvs k v).length≤aak:=by have:=iz kvs k v;exact aaw ‹_› ‹_›
  refine wpAny_setItem_pairs (hsz:=C) (vc M) D λh' n F=>h _ ?_;have Y:∃q,h'.get? a=some q:=let ⟨q,_,_,x,_⟩:=n;⟨q,x⟩;exact qK I (by rw[e];exact acE) F Y (JC G hd (m.put k L) n)
 .subst J B;cases (M);let⟨z,hd,xs,m,D⟩:=VC I.hok e;have C:xs.length≤aak:=by rw[<-agU m];exact z
  have G:(putK kvs k v).length≤aak:=by have:=iz kvs k v;exact aaw ‹_› ‹_›
  refine wpAny_setItem_heap (hsz:=C) (ad9 R) (sw I.hok eb) D λh' n F=>h _ ?_;let⟨q,V,S,x,U,W,O,_,T⟩:=n;refine qK I (by rw[e];exact acE) F ⟨q,x⟩ ⟨G,hd,_,(m.put k eb L).keeps λc Z N=>?_,q,V,S,x,U,W,O,T⟩;rw[av (uC N e (λz=>nomatch z))];exact N
end
def NoSl(i:Expr):Prop:=∀o b,agz i false o b=operate [o,b] (aeI o b)
theorem Cg{A:abb}{E:Ad->GT->Prop}{s:GT}{env:Env}{c b:Expr}{T id:String}
  (C:typeLookup (.type T) "__getitem__" = pure (some (.builtin id))) (B:NoSl b)
  (h:wpAny (model prog w) A (eval c env) (λo g=>wpAny (model prog w) A (eval b env) (λi d=>d.TypeIs o T/\wpAny (model prog w) A (aeI o i) Q E d) E g) E s) :
  wpAny (model prog w) A (eval (.Subscript c b pos) env) Q E s:=by
 refine ag4 (ach h (λo g n=>ach n (λi d f=>?_) λ_ _ x=>x) λ_ _ x=>x);let⟨z,f⟩:=f;unfold agY;refine gT ?_;rw[getitemInPython_of_ne z.not_modules];refine gT (aeX z C ?_);have m:wpAny (model prog w) A (agz b false o i) (λr k=>wpAny (model prog w) A (letTemporaryGo c o r >>= λ_=>pure r) Q E k) E d:=by
  rw[B o i];exact wpAny_operating (ach f (λr k q=>gT (wpAny_letTemporaryGo (Ld q))) λ_ _ x=>x)
 first
  |exact Ld (gT m)
  |exact gT (Ld (gT m))
  |exact gT m
theorem uI{c:List 'i'}{d:St}{s:GT}{o:Option V}(I:Inv X c d H s)(g:DGet H a y o):s.TypeIs (.ref a) "dict":=by
 rcases g with⟨kvs,k,e,_,_⟩|⟨kvs,k,b,e,_,_,_⟩
 .obtain⟨_,_,vs,_,dd⟩:=qB I.hok e;exact dd.typeIs
 .obtain⟨_,_,xs,_,dd⟩:=DA I.hok e;exact dd.typeIs
def XW(d ty:TE):TE:=λc H Q=>d c H λx f=>ty c f λy b=>∃a v,x = .ref a/\DGet b a y (some v)/\Q v b
def XT(g ty h:TE):TS:=λD b H=>h b H λv k=>g b k λx d=>ty b d λy f=>∃a c,x = .ref a/\DPut f a y v c/\D.nx b c
section
variable {X:Cx}{o i e b:Expr}{pos p c:Pos}{t ty d:TE}
theorem Lq(D:X.A.units+1<cLine)(C:PE X o t)(q:PE X i ty)(G:NoSl i):PE X (.Subscript o i pos) (XW t ty):=by
 intro f s m H Q I h;refine Cg afs.lookup G (thn (C f s m H _ I h) λu s1 ⟨x,L,z,F,E⟩=>thn (q f s1 m L _ z E) λO s2 ⟨y,B,k,n,a,v,ex,g,J⟩=>?_);subst ex;obtain rfl:u=abm a:=F;exact⟨uI k g,sV D k g n λN M A r=>⟨v,B,A,r,J⟩⟩
theorem OL(z:X.A.units+1<cLine)(M:PE X o t)(m:PE X i ty)(F:PE X b d)(O:abG b (some (.Subscript o i p)) pos.line X.env=pure false) :
  PS X (.Assign [.Subscript o i p] b pos) (XT t ty d):=by
 intro f s k H D I h;refine agc (thn (F f s k H _ I h) λr s1 ⟨v,T,n,E,B⟩=>thn (M f s1 k T _ n B) λu s2 ⟨x,L,R,C,S⟩=>thn (m f s2 k L _ R S) λW U ⟨y,Y,J,G,a,A,ex,g,q⟩=>?_) O;subst ex;obtain rfl:u=abm a:=C;exact Br z J g G E λV N=>⟨k,A,N,q⟩
end
def vN(h:aa1)(b:abB<h.objs.size):ObjOk P w H (h.push {cls:=.type "dict",data:=.dict #[]}) h.objs.size (.dK []):=
 ⟨abJ _,beq_eq_false_iff_ne.mpr (abH (aa2 b)),[],.nil,aa1.DictOf.new h⟩
def Qt:TE:=λ_ H Q=>∀p,H p=none->Q (.ref p) (upd H p (.dK []))
section
variable {X:Cx}{pos:Pos}
theorem pe_dnewK:PE X (.Dict [] [] pos) Qt:=λb s c H Q I h=>
 wpAny_Dict_empty ⟨.ref s.heap.objs.size,_,I.laid (t':=s.toks) (λ_ _ q=>Io _ q) (aab _) (vN s.heap I.big),rfl,h _ (I.hok.fresh (aab _))⟩
end
def wm:List (TE×TE)->St->Hp->(List (V×V)->Hp->Prop)->Prop
 |[],_,H,Q=>Q [] H
 |(tk,tv)::r,σ,H,Q=>tk σ H λx f=>tv σ f λy b=>wm r σ b λc d=>Q ((x,y)::c) d
abbrev VV:List (V×V)->List (Ad×Ad)->Prop:=abQ λp q=>RelV p.1 q.1/\RelV p.2 q.2
def PPs(X:Cx)(pos:Pos)(keys:List (Option Expr))(values:List Expr)(trs:List (TE×TE)):Prop:=
 ∀(b:List 'i') (s:GT) (c:St) (H:Hp) (Q:List (V×V)->Hp->Prop),Inv X b c H s->wm trs c H Q ->
  wpAny (model X.prog X.w) X.A (evalPairs (pairTrees keys values X.env pos)) (λvs f=>∃d H',Inv X b c H' f/\VV d vs/\Q d H') X.xe s
theorem Kg:PPs X pos [] [] []:=λb s c H Q I h=>pairTrees_nil_walk ⟨[],H,I,.nil,h⟩
theorem E9{k v:Expr}{vs:List Expr}{d f:TE}(hk:PE X k d)(J:PE X v f)(B:PPs X pos ks vs trs) :
  PPs X pos (some k::ks) (v::vs) ((d,f)::trs):=λb s c H Q I h=>
 pairTrees_cons_walk (thn (hk b s c H _ I h) λu s1 ⟨x,G,m,A,z⟩=>thn (J b s1 c G _ m z) λM s2 ⟨y,o,C,g,F⟩=>
  thn (B b s2 c o _ C F)<|by intro ws L ⟨D,E,n,r,q⟩;exact⟨(x,y)::D,E,n,.cons ⟨A,g⟩ r,q⟩)
def j8(kvs more:List (Key×V)):List (Key×V):=more.foldl (λb k=>putK b k.1 k.2) kvs
theorem KV.merge:∀{more:List (Key×V)}{rs:List (Key×Ad)}{kvs:List (Key×V)}{vs:List (Key×Ad)},KV more rs->KV kvs vs->KV (j8 kvs more) (merged vs rs):=by
 intro more rs kvs vs r;unfold KV at r
 induction r generalizing kvs vs with
 |nil=>intro q;exact q
 | @cons p q ps qs h t ih=>
  intro b;have e:KV (putK kvs p.1 p.2) (stored vs q.1 q.2):=by
   have:=b.put p.1 h.2;rw[<-h.1];exact this
  exact ih e
theorem jj:∀(more kvs:List (Key×V)),(j8 kvs more).length≤kvs.length+more.length
 |[],kvs=>by show kvs.length≤kvs.length+0;omega
 |p::r,kvs=>by
  have h:=jj r (putK kvs p.1 p.2);have b:=iz kvs p.1 p.2;show(j8 (putK kvs p.1 p.2) r).length≤_;rw[aat];omega
theorem oT{P:aaI}{w:World}:∀{kvs:List (Key×V)}{ws:List (Ad×Ad)},VV (kvs.map λk=>(kV k.1,k.2)) ws->∃rs,Carries (cg P w) ws rs/\KV kvs rs
 |[],_,r=>by rw[adE]at r;cases r;exact⟨[],acE,.nil⟩
 | p::kvs,_,r=>by
  rw[aam]at r
  cases r with
  | @cons a b as bs h t=>
   let⟨rs,c,q⟩:=oT (P:=P) (w:=w) t;let⟨b1,b2⟩:=b;exact⟨(p.1,b2)::rs,⟨vc h.1,rfl,c⟩,.cons ⟨rfl,h.2⟩ q⟩
def VM(trs:List (TE×TE)):TE:=λd H Q=>∀p,H p=none->wm trs d (upd H p (.dK [])) λc b=>b p=some (.dK [])/\∃kvs:List (Key×V),c=kvs.map (λk=>(kV k.1,k.2))/\kvs.length≤15/\Q (.ref p) (upd b p (.dK (j8 [] kvs)))
theorem P6{keys:List (Option Expr)}(h:PPs X pos keys values trs)(b:keys.all (·.isSome)=true)(O:keys.length=values.length)(m:keys≠[])
  (g:keys.length≤15):PE X (.Dict keys values pos) (VM trs):=by
 intro f s J H Q I q;have N:=I.hok.fresh (aab s.heap.objs.size);have n:=I.laid (a:=s.heap.objs.size) (o:=.dK []) (h':=s.heap.push {cls:=.type "dict",data:=.dict #[]}) (t':=s.toks) (λ_ _ q=>Io _ q) (aab _) (vN s.heap I.big);refine wpAny_Dict_walk (knd:=cg X.prog X.w) b O m g (thn (h f _ J _ _ n (q _ N)) λws s2 ⟨T,R,k,r,e,kvs,x,S,M⟩=>?_);subst x;let⟨rs,c,E⟩:=oT (P:=X.prog) (w:=X.w) r;let⟨z,hd,L,A,C⟩:=RM k.hok e;cases A;refine⟨rs,c,C,λh' d F=>⟨.ref s.heap.objs.size,_,?_,rfl,M⟩⟩;have B:(j8 [] kvs).length≤aak:=by
  have D:=jj kvs [];rw[ad5]at D;rw[aap];omega
 have G:∃q,h'.get? s.heap.objs.size=some q:=let ⟨q,_,_,hq,_⟩:=d;⟨q,hq⟩;exact qK k (by rw[e];exact acE) F G (JC B hd (E.merge .nil) d)
section
variable {K:Kd}{H H':Hp}{τ:List 'h'}
mutual
theorem TAt.monoP(f:Pers H H'):∀{d:aD}{p:List Nat}{v:V},(∀q a,τ.lookup (p++q)=some a->H' a=H a)->TAt K H τ p d v->TAt K H' τ p d v
 | .none,_,_,_,h=>by simp only[TAt]at h⊢;exact h.mono f
 | .bool _,_,_,_,h=>by simp only[TAt]at h⊢;exact h.mono f
 | .int _,_,_,_,h=>by simp only[TAt]at h⊢;exact h.mono f
 | .str _,_,_,_,h=>by simp only[TAt]at h⊢;exact h.mono f
 | .tuple _,_,_,_,h=>by simp only[TAt]at h⊢;exact h.mono f
 | .list ts,p,_,e,h=>by
  simp only[TAt]at h⊢;let⟨a,xs,b,m,n,g⟩:=h;exact⟨a,xs,b,m,(e [] a (by rw[aa5];exact b)).trans n,TAtL.monoP f (λi q a z=>e (i::q) a z) g⟩
 | .dict kvs,p,_,e,h=>by
  simp only[TAt]at h⊢;rcases h with⟨d,b,h⟩|⟨s,r,a,o,b,m,n,k,g⟩|⟨s,r,a,o,b,m,n,g⟩|⟨c,a,dx,C,xs,x,b,m,n,k,g⟩
  .exact .inl ⟨d,b,h.mono f⟩
  .exact .inr (.inl ⟨s,r,a,o,b,m,(e [] a (by rw[aa5];exact b)).trans n,k,TAtD.monoP f (λi q a z=>e (i::q) a z) g⟩)
  .exact .inr (.inr (.inl ⟨s,r,a,o,b,m,(e [] a (by rw[aa5];exact b)).trans n,TAtK.monoP f (λi q a z=>e (i::q) a z) g⟩))
  .exact .inr (.inr (.inr ⟨c,a,dx,C,xs,x,b,m,(e [] a (by rw[aa5];exact b)).trans n,k,TAtF.monoP f (λi q a z=>e (i::q) a z) g⟩))
theorem TAtL.monoP(b:Pers H H'):∀{ds:List aD}{p:List Nat}{i:Nat}{xs:List V},(∀i q a,τ.lookup (p++i::q)=some a->H' a=H a)->TAtL K H τ p i ds xs->TAtL K H' τ p i ds xs
 |[],_,_,_,_,h=>by simpa only[TAtL]using h
 |t::ts,p,i,_,e,h=>by
  simp only[TAtL]at h⊢;let⟨v,vs,c,d,g⟩:=h;exact⟨v,vs,c,TAt.monoP b (λq a z=>e i q a (by simpa using z)) d,TAtL.monoP b e g⟩
theorem TAtD.monoP(b:Pers H H'):∀{ds:List (aD×aD)}{p:List Nat}{i:Nat}{xs:List (Int×V×V)},(∀i q a,τ.lookup (p++i::q)=some a->H' a=H a)->TAtD K H τ p i ds xs->TAtD K H' τ p i ds xs
 |[],_,_,_,_,h=>by simpa only[TAtD]using h
 |(k,t)::r,p,i,_,e,h=>by
  simp only[TAtD]at h⊢;let⟨u,v,vs,d,g,f,c⟩:=h;exact⟨u,v,vs,d,g.mono b,TAt.monoP b (λq a z=>e i q a (by simpa using z)) f,TAtD.monoP b e c⟩
theorem TAtK.monoP(b:Pers H H'):∀{ds:List (aD×aD)}{p:List Nat}{i:Nat}{xs:List (Key×V)},(∀i q a,τ.lookup (p++i::q)=some a->H' a=H a)->TAtK K H τ p i ds xs->TAtK K H' τ p i ds xs
 |[],_,_,_,_,h=>by simpa only[TAtK]using h
 |(k,t)::r,p,i,_,e,h=>by
  simp only[TAtK]at h⊢;let⟨u,v,vs,d,g,f,c⟩:=h;exact⟨u,v,vs,d,g,TAt.monoP b (λq a z=>e i q a (by simpa using z)) f,TAtK.monoP b e c⟩
theorem TAtF.monoP(b:Pers H H'):∀{ds:List (aD×aD)}{p:List Nat}{i:Nat}{xs:List (Str×V)},(∀i q a,τ.lookup (p++i::q)=some a->H' a=H a)->TAtF K H τ p i ds xs->TAtF K H' τ p i ds xs
 |[],_,_,_,_,h=>by simpa only[TAtF]using h
 |(.str f,t)::r,p,i,_,e,h=>by
  simp only[TAtF]at h⊢;let⟨v,vs,c,k,g⟩:=h;exact⟨v,vs,c,TAt.monoP b (λq a z=>e i q a (by simpa using z)) k,TAtF.monoP b e g⟩
 |(.none,d)::r,_,_,_,e,h=>by simp only[TAtF]at h⊢;exact TAtF.monoP b e h
 |(.bool _,d)::r,_,_,_,_,h=>by simp only[TAtF]at h
 |(.int _,d)::r,_,_,_,_,h=>by simp only[TAtF]at h
 |(.list _,d)::r,_,_,_,_,h=>by simp only[TAtF]at h
 |(.tuple _,d)::r,_,_,_,_,h=>by simp only[TAtF]at h
 |(.dict _,d)::r,_,_,_,_,h=>by simp only[TAtF]at h
end
end
def setT:aD->List Nat->aD->aD
 |_,[],n=>n
 | .list ts,i::p,n=>.list (ts.set i (setT (ts.getD i .none) p n))
 | .dict kvs,i::p,n=>.dict (kvs.set i ((kvs.getD i (.none,.none)).1,setT (kvs.getD i (.none,.none)).2 p n))
 |t,_::_,_=>t
section
variable {K:Kd}{H b:Hp}{τ:List 'h'}{p q:List Nat}{P:List Nat}
theorem TAtL.setL(f:Pers H b){t':aD}:∀{ts:List aD}{i j:Nat}{xs:List V},TAtL K H τ p i ts xs->(∀v,xs[j]?=some v->TAt K b τ (p++[i+j]) t' v)->(∀l,l≠i+j->∀q a,τ.lookup (p++l::q)=some a->b a=H a)->TAtL K b τ p i (ts.set j t') xs
 |[],_,_,_,h,_,_=>by simpa only[List.set_nil,TAtL]using h
 | t::ts,i,0,xs,h,c,e=>by
  simp only[TAtL]at h;let⟨v,vs,rfl,_,g⟩:=h;refine⟨v,vs,rfl,c v rfl,?_⟩;clear c;have:∀{ts:List aD}{d:Nat}{vs:List V},i<d->TAtL K H τ p d ts vs->TAtL K b τ p d ts vs:=by
   intro ts
   induction ts with
   |nil=>intro d vs _ h;simpa only[TAtL]using h
   |cons t ts n=>
    intro d vs o h;simp only[TAtL]at h⊢;let⟨v,vs,rfl,k,g⟩:=h;exact⟨v,vs,rfl,TAt.monoP f (λq a z=>e d (by exact abt ‹_›) q a (by simpa using z)) k,n ∅ g⟩
  exact this (abF i) g
 |t::ts,i,j+1,xs,h,c,e=>by
  simp only[TAtL]at h;let⟨v,vs,rfl,k,g⟩:=h;exact⟨v,vs,rfl,TAt.monoP f (λq a z=>e i 'a' q a (by simpa using z)) k,TAtL.setL f g (λm z=>by rw[show i+1+j=i+(j+1) by omega];exact c m (by simpa using z)) λl o=>e l ∅⟩
theorem TAtK.rest(d:Pers H b){i:Nat}(e:∀l,l≠i->∀q a,τ.lookup (p++l::q)=some a->b a=H a):∀{ts:List (aD×aD)}{c:Nat}{vs:List (Key×V)},i<c->TAtK K H τ p c ts vs->TAtK K b τ p c ts vs
 |[],_,_,_,h=>by simpa[TAtK]
 |_::ts,c,vs,hl,h=>by
  let⟨k,v,vs,rfl,g,j,f⟩:=h;exact⟨k,v,vs,rfl,g,TAt.monoP d (λq a z=>e c (by exact abt ‹_›) q a (by simpa using z)) j,TAtK.rest d e ∅ f⟩
theorem TAtK.setK(n:Pers H b){t':aD}:∀{ts:List (aD×aD)}{i j:Nat}{xs:List (Key×V)}{d o:aD},TAtK K H τ p i ts xs->ts[j]?=some (d,o)->(∀v,(∃kk,xs[j]?=some (kk,v))->TAt K b τ (p++[i+j]) t' v)->(∀l,l≠i+j->∀q a,τ.lookup (p++l::q)=some a->b a=H a)->TAtK K b τ p i (ts.set j (d,t')) xs
 |[],_,_,_,_,_,_,z,_,_=>by simp at z
 |(k,t)::ts,i,0,xs,d,o,h,z,c,e=>by
  simp at z;let⟨rfl,rfl⟩:=z;simp only[TAtK]at h;let⟨kk,v,vs,rfl,g,_,m⟩:=h;exact⟨kk,v,vs,rfl,g,c v ⟨kk,rfl⟩,TAtK.rest n e (abF i) m⟩
 |(k,t)::ts,i,j+1,xs,d,o,h,z,c,e=>by
  let⟨kk,v,vs,rfl,g,s,m⟩:=h;exact⟨kk,v,vs,rfl,g,TAt.monoP n (λq a z=>e i ∅ q a (by simpa using z)) s,TAtK.setK n m (by simpa using z) (by intro r ⟨f,z⟩;rw[show i+1+j=i+(j+1) by omega];exact c r ⟨f,by simpa using z⟩) λl u=>e l ∅⟩
end
theorem wd(nd:(τ.map (·.2)).Nodup){q:List Nat}(h:τ.lookup p=some a)(c:τ.lookup q=some a):p=q:=by
 induction τ with
 |nil=>cases h
 | cons x τ i=>
  let⟨r,b⟩:=x;rw[aam,abe]at nd;rw[aa8]at h c
  by_cases d:p==r
  .rw[d]at h;cases h
   by_cases e:q==r
   .simp_all
   .simp only[afS]at e;rw[e]at c;exact(nd.1 (bC c)).elim
  .simp only[afS]at d;rw[d]at h
   by_cases e:q==r
   .rw[e]at c;cases c;exact(nd.1 (bC h)).elim
   .simp only[afS]at e;rw[e]at c;exact i nd.2 h c
def mF:aD->aD->Bool
 | .int a,.int b=>decide (a=b)
 | .str a,.str b=>decide (a=b)
 |_,_=>false
def nQ(a b:Key):mF (keyD a) (keyD b)=decide (a=b):=by
 cases a<;>cases b<;>simp[keyD,mF]
def oj(k:aD):Nat->List (aD×aD)->Option (Nat×aD)
 |_,[]=>none
 |i,(k',t)::r=>if mF k' k=true then some (i,t)else oj k (i+1) r
def putD(k t:aD):List (aD×aD)->List (aD×aD)
 |[]=>[(k,t)]
 |(k',t')::r=>if mF k' k=true then(k',t)::r else(k',t')::putD k t r
def lfD:aD->aD
 | .list ds=>.dict [(.none,.list ds)]
 | .dict ds=>.dict [(.none,.dict ds)]
 |d=>d
theorem qi(h:isKd kvs=true):fzOf kvs=none/\excC kvs=none:=by
 cases kvs with
 |nil=>exact⟨rfl,rfl⟩
 |cons x r=>
  let⟨k,d⟩:=x
  cases k with
  |int _=>exact⟨rfl,rfl⟩
  |str _=>exact⟨rfl,rfl⟩
  |none=>simp[isKd]at h
  |bool _=>simp[isKd]at h
  |list _=>simp[isKd]at h
  |tuple _=>simp[isKd]at h
  |dict _=>simp[isKd]at h
section
variable {K:Kd}{H:Hp}{τ:List 'h'}{p:List Nat}
theorem TAtK.get':∀{ts:List (aD×aD)}{i j:Nat}{xs:List (Key×V)}{k t:aD},TAtK K H τ p i ts xs->ts[j]?=some (k,t)->∃kk v,xs[j]?=some (kk,v)/\k=keyD kk/\TAt K H τ (p++[i+j]) t v
 |[],_,_,_,_,_,_,e=>by simp at e
 |(k,t)::ts,i,0,xs,k',t',h,e=>by
  let⟨u,v,vs,rfl,g,f,_⟩:=h;simp at e;let⟨rfl,rfl⟩:=e;exact⟨u,v,rfl,g.1,f⟩
 |(k,t)::ts,i,j+1,xs,k',t',h,e=>by
  let⟨u,v,vs,rfl,_,_,a⟩:=h;let⟨kk,b,d,l,c⟩:=TAtK.get' (j:=j) a ‹_›;exact⟨kk,b,by simpa using d,l,by rw[show i+(j+1)=i+1+j by omega];exact c⟩
theorem TAtK.kd:∀{ts:List (aD×aD)}{i:Nat}{xs:List (Key×V)},TAtK K H τ p i ts xs->isKd ts=true
 |[],_,_,_=>rfl
 |_::ts,i,xs,h=>by
  let⟨u,v,vs,rfl,g,_,a⟩:=h;have:=a.kd;unfold isKd at this⊢;rw[ab7,this,g.1]
  cases u<;>rfl
theorem TAtK.len:∀{ts:List (aD×aD)}{i:Nat}{xs:List (Key×V)},TAtK K H τ p i ts xs->ts.length=xs.length
 |[],_,_,h=>by simp[TAtK]at h;subst h;rfl
 |(k,t)::ts,i,xs,h=>by
  let⟨u,v,vs,rfl,a,_,g⟩:=h;simp[g.len]
theorem TAtK.look{kk:Key}:∀{ts:List (aD×aD)}{i j:Nat}{xs:List (Key×V)}{t:aD},TAtK K H τ p i ts xs->oj (keyD kk) i ts=some (j,t)->∃v,valV xs kk=some v/\TAt K H τ (p++[j]) t v
 |[],_,_,_,_,_,e=>by cases e
 |(k,t)::ts,i,j,xs,t',h,e=>by
  simp only[TAtK]at h;let⟨u,v,vs,rfl,g,l,a⟩:=h;let⟨rfl,_⟩:=g;simp only[oj,nQ]at e
  by_cases c:u=kk
  .rw[if_pos (decide_eq_true c)]at e;cases e;exact⟨v,dm (p:=(u,v)) c,l⟩
  .rw[if_neg (by simpa using c)]at e;let⟨b,f,d⟩:=TAtK.look a e;exact⟨b,by rw[dn (p:=(u,v)) c];exact f,d⟩
theorem tW{u:Key}{w:V}{vs:List (Key×V)}(c:u≠kk):putK ((u,w)::vs) kk v=(u,w)::putK vs kk v:=by
 unfold putK
 grind
theorem uj{w:V}{vs:List (Key×V)}(h:∀x∈vs,x.1≠kk):putK ((kk,w)::vs) kk v=(kk,v)::vs:=by
 unfold putK;rw[afI,decide_eq_true (rfl),Bool.true_or,if_pos rfl,aam,if_pos rfl]
 congr 1
 exact(acz λx a=>if_neg (h x a)).trans (ahC _)
def Gy{vs:List (Key×V)}{x:Key×V}(h:x∈putK vs kk v):x.1=kk\/∃y∈vs,y.1=x.1:=by
 unfold putK at h
 split at h
 .obtain⟨y,h1,h2⟩:=aar.mp h;subst h2;refine .inr ⟨y,h1,?_⟩
  split<;>rfl
 .obtain h|h:=aaV.mp h
  .exact .inr ⟨x,h,rfl⟩
  .cases aad.mp h
   exact .inl rfl
theorem TAtK.put{v':V}(c:∀j,TAt K H τ (p++[j]) t' v'):∀{ts:List (aD×aD)}{i:Nat}{xs:List (Key×V)},TAtK K H τ p i ts xs->TAtK K H τ p i (putD (keyD kk) t' ts) (putK xs kk v')
 |[],i,xs,h=>by
  simp only[TAtK]at h;subst h;exact⟨kk,v',[],rfl,⟨rfl,λx a=>by cases a⟩,c i,rfl⟩
 | (k,t)::ts,i,xs,h=>by
  let⟨u,v,vs,rfl,g,d,b⟩:=h;let⟨rfl,g⟩:=g;simp only[putD,nQ]
  by_cases e:u=kk
  .subst e;rw[if_pos (decide_eq_true rfl),uj g];simp only[TAtK];exact⟨u,v',vs,rfl,⟨rfl,g⟩,c i,b⟩
  .rw[if_neg (by simpa using e),tW e];simp only[TAtK];refine⟨u,v,_,rfl,⟨rfl,λx a=>?_⟩,d,b.put c⟩;rcases Gy a with z|⟨y,f,z⟩
   .rw[z];exact λw=>e w.symm
   .rw[<-z];exact g y f
theorem m8{d:aD}(h:Den K H d v):TAt K H τ p (lfD d) v:=by
 cases d with
 |list ds=>simp[lfD];exact .inl ⟨_,rfl,h⟩
 |dict ds=>simp[lfD];exact .inl ⟨_,rfl,h⟩
 |none=>simpa[ TAt]
 |bool _=>simpa[lfD]
 |int _=>simpa[ TAt]
 |str _=>simpa[lfD]
 |tuple _=>simpa[ TAt]
theorem TAt.kd(h:TAt K H τ p (.dict kvs) v)(e:isKd kvs=true):∃a c,τ.lookup p=some a/\v = .ref a/\H a=some (.dK c)/\TAtK K H τ p 0 kvs c:=by
 obtain _:=qi e;rcases h with _|⟨_,_,b,c,i,d,f,k,g⟩|⟨_,_,b,c,i,d,f,g⟩|_
 .simp_all
 .rw[k.1]at e;cases e
 .exact⟨b,c,i,d,f,g⟩
 .simp_all
theorem TAt.node(h:TAt K H τ p t v)(e:iX t=none):∃a,τ.lookup p=some a/\v = .ref a:=by
 cases t with
 |list ts=>
  simp only[TAt]at h;let⟨a,x,f,i,_⟩:=h;exact⟨a,f,i⟩
 |dict k=>
  have m:fzOf k=none:=e;simp only[TAt]at h;rcases h with⟨d,f,_⟩|⟨_,_,b,l,f,i,j,n,g⟩|⟨_,_,b,l,f,i,j,g⟩|⟨c,b,dx,C,x,o,f,i,j,n,g⟩
  .rw[m]at f;cases f
  .exact⟨b,f,i⟩
  .exact⟨b,f,i⟩
  .exact⟨b,f,i⟩
 |none=>cases e
 |bool _=>cases e
 |int _=>cases e
 |str _=>cases e
 |tuple _=>cases e
end
def okW:aD->List Nat->Bool
 |_,[]=>true
 | .list ts,i::q=>okW (ts.getD i .none) q
 | .dict kvs,i::q=>(isKd kvs||(excC kvs).isSome)&&okW (kvs.getD i (.none,.none)).2 q
 |_,_::_=>false
theorem Ip{k:aD}(h:isKd kvs=true)(e:kvs[i]?=some (k,t)):isKd (kvs.set i (k,t'))=true:=by
 unfold isKd at h⊢;rw[abM]at h⊢;intro x a;rcases afr a with z|z
 .exact h x z
 .subst z;exact h (k,t) (LD e)
theorem TAtF.restF{K:Kd}{H g:Hp}{τ:List 'h'}{p:List Nat}(c:Pers H g){i:Nat}(e:∀l,l≠i->∀q a,τ.lookup (p++l::q)=some a->g a=H a):∀{ts:List (aD×aD)}{b:Nat}{vs:List (Str×V)},i<b->TAtF K H τ p b ts vs->TAtF K g τ p b ts vs
 |[],_,_,_,h=>by simpa only[TAtF]
 |(.str f,t)::ts,b,vs,hl,h=>by
  let⟨v,vs,rfl,k,j⟩:=h;exact⟨v,vs,rfl,TAt.monoP c (λq a z=>e b ∅ q a (by simpa using z)) k,TAtF.restF c e ∅ j⟩
 |(.none,d)::r,_,_,hl,h=>by simp only[TAtF];exact TAtF.restF c e ∅ h
 |(.bool _,d)::r,_,_,_,h=>by simp[TAtF]at h
 |(.int _,d)::r,_,_,_,h=>by simp only[TAtF]at h
 |(.list _,d)::r,_,_,_,h=>by simp only[TAtF]at h
 |(.tuple _,d)::r,_,_,_,h=>by simp[TAtF]at h
 |(.dict _,d)::r,_,_,_,h=>by simp[TAtF]at h
theorem TAtF.setF{K:Kd}{H m:Hp}{τ:List 'h'}{p:List Nat}(g:Pers H m){t' u:aD}{w:Str}:∀{ts:List (aD×aD)}{i j:Nat}{xs:List (Str×V)},TAtF K H τ p i ts xs->ts[j]?=some (.str w,u)->(∀v,TAt K H τ (p++[i+j]) u v->TAt K m τ (p++[i+j]) t' v)->(∀l,l≠i+j->∀q a,τ.lookup (p++l::q)=some a->m a=H a)->TAtF K m τ p i (ts.set j (.str w,t')) xs
 |[],_,_,_,_,z,_,_=>by simp at z
 |(k,t)::ts,i,0,xs,h,z,c,e=>by
  simp at z;let⟨rfl,rfl⟩:=z;simp only[TAtF]at h;let⟨v,vs,rfl,s,n⟩:=h;simp only[ag7,TAtF];exact⟨v,vs,rfl,c v s,TAtF.restF g e (abF i) n⟩
 |(.str f,t)::ts,i,j+1,xs,h,z,c,e=>by
  simp only[TAtF]at h;let⟨v,vs,rfl,s,n⟩:=h;exact⟨v,vs,rfl,TAt.monoP g (λq a z=>e i ∅ q a (by simpa using z)) s,TAtF.setF g n (by simpa using z) (λo b=>by rw[show i+1+j=i+(j+1) by omega]at b⊢;exact c o b) λl x=>e l ∅⟩
 |(.none,d)::ts,i,j+1,xs,h,z,c,e=>by
  simp only[TAtF]at h;simp only[ag8,TAtF];exact TAtF.setF g h (by simpa using z) (λo b=>by rw[show i+1+j=i+(j+1) by omega]at b⊢;exact c o b) λl x=>e l ∅
 |(.bool _,d)::r,_,_+1,_,h,_,_,_=>by simp only[TAtF]at h
 |(.int _,d)::r,_,_+1,_,h,_,_,_=>by simp only[TAtF]at h
 |(.list _,d)::r,_,_+1,_,h,_,_,_=>by simp only[TAtF]at h
 |(.tuple _,d)::r,_,_+1,_,h,_,_,_=>by simp only[TAtF]at h
 |(.dict _,d)::r,_,_+1,_,h,_,_,_=>by simp only[TAtF]at h
theorem TAt.ins{K:Kd}{c:Str}(h:TAt K H τ p (.dict kvs) v)(e:excC kvs=some c):∃a dx C xs,τ.lookup p=some a/\v = .ref a/\H a=some (.ins C dx xs)/\ClsN K c C/\TAtF K H τ p 0 kvs xs:=by
 have b:fzOf kvs=none:=by
  unfold excC at e
  split at e
  .rfl
  .cases e
 simp only[TAt]at h
 grind
theorem Gi{x:aD×aD}{c:Str}{k:aD}(h:excC kvs=some c)(e:kvs[i]?=some (k,t))(a:k≠.none):excC (kvs.set i x)=some c:=by
 cases kvs with
 |nil=>cases h
 | cons y r=>
  cases i with
  |zero=>
   simp;unfold excC at h
   simp_all
  |succ i=>
   unfold excC at h⊢
   split at h
   .rename_i z;simp at z;let⟨rfl,rfl⟩:=z;exact h
   .cases h
theorem TAt.set{K:Kd}{H:Hp}{τ:List 'h'}(nd:(τ.map (·.2)).Nodup){a:Addr}{o:HO}{n:aD}(M:Pers H (upd H a o)):∀{q p:List Nat}{t J:aD}{v:V},TAt K H τ p t v->getT t q=some J->okW t q=true->τ.lookup (p++q)=some a->TAt K (upd H a o) τ (p++q) n (.ref a)->(∀u,TAt K H τ (p++q) J u->u = .ref a)->TAt K (upd H a o) τ p (setT t q n) v
 |[],p,t,J,v,h,e,_,_,hn,hu=>by
  cases e;rw[aa5]at hn hu;rw[hu v h];unfold setT;exact hn
 | i::q,p,t,J,v,h,e,ok,ea,hn,hu=>by
  have m:∀(r:List Nat) (b:Addr),τ.lookup r=some b->r≠p++i::q->(upd H a o) b=H b:=λr b z ne=>av λeb=>by
   subst eb;exact ne (wd nd z ea)
  have E:τ.lookup ((p++[i])++q)=some a:=by simpa using ea
  have G:TAt K (upd H a o) τ ((p++[i])++q) n (.ref a):=by simpa using hn
  have F:∀u,TAt K H τ ((p++[i])++q) J u->u = .ref a:=λu z=>hu u (by simpa using z);simp only[getT]at e
  cases z:chD t i with
  |none=>rw[z]at e;cases e
  | some O=>
   rw[z]at e;have R:getT O q=some J:=e;have I:∀l,l≠0+i->∀r b,τ.lookup (p++l::r)=some b->(upd H a o) b=H b:=λl hl r b T=>m _ _ T λy=>by
    have:=List.append_cancel_left y;injection this with h1 _
    omega
   have self:∀b,τ.lookup p=some b->(upd H a o) b=H b:=λb T=>m _ _ T λy=>by
    have:=congrArg adx y;simp at this
   cases t with
   |list ts=>
    have d:ts[i]?=some O:=z;have L:ts.getD i .none=O:=by rw[aas,d];rfl
    simp only[TAt]at h;let⟨b,Q,B,D,N,g⟩:=h;simp only[setT,L,TAt];refine⟨b,Q,B,D,(self b B).trans N,TAtL.setL M g (λY S=>?_) I⟩;let⟨v2,f,A⟩:=g.get (j:=i) d;rw[S]at f;cases f;rw[acQ]at A⊢;exact TAt.set nd M A R (by simp only[okW,L]at ok;exact ok) E G F
   | dict s=>
    simp only[chD]at z
    cases d:s[i]? with
    |none=>rw[d]at z;cases z
    |some kt=>
     let⟨k,P⟩:=kt;rw[d]at z;have X:k≠.none:=λw=>by subst w;cases z
     have D:P=O:=by split at z<;>simp_all
     subst D;have L:s.getD i (.none,.none)=(k,P):=by rw[aas,d];rfl
     simp only[okW,L,aaG,agn]at ok;rcases ok.1 with x|x
     .obtain⟨b,es,B,D,N,g⟩:=h.kd x;have W:isKd (s.set i (k,setT P q n))=true:=Ip x d;let⟨n1,n2⟩:=qi W;simp only[setT,L,TAt];refine .inr (.inr (.inl ⟨n1,n2,b,es,B,D,(self b B).trans N,TAtK.setK M g d (λY ⟨kk,S⟩=>?_) I⟩));let⟨kk2,v2,f,_,A⟩:=g.get' (j:=i) d;rw[S]at f;cases f;rw[acQ]at A⊢;exact TAt.set nd M A R ok.2 E G F
     .obtain⟨c,ec⟩:=afE.mp x;let⟨b,dx,C,Q,B,D,N,kc,g⟩:=h.ins ec;let⟨Z,rfl⟩:=g.key (LD d) X;have U:excC (s.set i (.str Z,setT P q n))=some c:=Gi ec d X;simp only[setT,L,TAt];refine .inr (.inr (.inr ⟨c,b,dx,C,Q,U,B,D,(self b B).trans N,kc,TAtF.setF M g d (λY A=>?_) I⟩));rw[acQ]at A⊢;exact TAt.set nd M A R ok.2 E G F
   |none=>cases z
   |bool _=>cases z
   |int _=>cases z
   |str _=>cases z
   |tuple _=>cases z
abbrev onAt(P:Nat->List Nat->Prop):R->Prop
 | .at k p=>P k p
 |_=>False
abbrev FI(P:aD->Prop):R->Prop
 | .imm (.int i)=>P (.int i)
 | .imm (.str x)=>P (.str x)
 |_=>False
def f7(k:Nat)(p:List Nat)(j:Nat)(t:aD):R:=match iX t with
 |some d=>.imm d
 |none=>.at k (p++[j])
section
variable {K:Kx}{b:Al}{c H:Hp}{r:R}{v:V}{m:MSt}{f:St}
theorem x8{P:Nat->List Nat->Prop}(rr:RelR K b c H r v)(h:onAt P r):∃k p τ a,r = .at k p/\b[k]?=some (.T τ)/\τ.lookup p=some a/\v = .ref a/\P k p:=by
 unfold onAt at h
 split at h
 .obtain⟨τ,a,e1,e2,e3⟩:=rr;exact⟨_,_,τ,a,rfl,e1,e2,e3,h⟩
 .simp_all
theorem JK{P:aD->Prop}(rr:RelR K b c H r v)(h:FI P r):∃kk:Key,r = .imm (keyD kk)/\v=kV kk/\P (keyD kk):=by
 unfold FI at h
 split at h
 .rename_i i;exact⟨.inl i,rfl,aC (show Den K H _ v from rr),h⟩
 .rename_i x;exact⟨.inr x,rfl,bo (show Den K H _ v from rr),h⟩
 .simp_all
theorem Rel.dict(R:Rel K b m f H){k:Nat}(h:b[k]?=some (.T τ))(q:τ.lookup p=some a)(l:m.os[k]?=some [t])(j:getT t p=some (.dict kvs))(i:isKd kvs=true) :
  ∃e,H a=some (.dK e)/\TAtK K H τ p 0 kvs e:=by
 let⟨⟨s,n,z,g,_⟩,_⟩:=R.own k _ _ h l;cases z;let⟨o,d⟩:=g.get j;obtain _:=d.kd i
 simp_all
theorem jS(R:Rel K b m f H){k:Nat}(l:b[k]?=some (.T τ))(h:TAt K H τ (p++[j]) t v):RelR K b c H (f7 k p j t) v:=by
 unfold f7
 cases e:iX t with
 |some d=>exact jc h e
 |none=>
  let⟨a,g,i⟩:=h.node e;exact⟨τ,a,l,g,i⟩
end
section
variable {X:Cx}{o i e:Expr}{wo wi we:WE}{pos pos':Pos}
def dGot(m:MSt)(k:Nat)(p:List Nat)(y:aD)(K:R->Prop):Prop:=∃t a j b,m.os[k]?=some [t]/\getT t p=some (.dict a)/\isKd a=true/\oj y 0 a=some (j,b)/\K (f7 k p j b)
def Vh(m:MSt)(k:Nat)(p:List Nat)(y d:aD)(P:aD->Prop):Prop:=∃t a,m.os[k]?=some [t]/\getT t p=some (.dict a)/\isKd a=true/\okW t p=true/\a.length<aak/\P (setT t p (.dict (putD y (lfD d) a)))
abbrev wDIx(wo wi:WE):WE:=λm K=>wo m λb m1=>wi m1 λa m2=>onAt (λk p=>FI (λy=>dGot m2 k p y λr=>K r m2) a) b
theorem Qg(N:X.A.units+64<cLine)(y:ME X o wo)(n:ME X i wi)(B:NoSl i:=by intro _ _;rfl):ME X (.Subscript o i pos) (wDIx wo wi):=(Lq ∅ y n B).wk<|by
 intro U H Q ⟨g,m,S,w,D,f⟩;refine⟨g,m,_,w,D,λL m1 K W k1 n1 c r E=>⟨g,m1,_,c,k1,λT m2 J s k2 n2 R b F=>?_⟩⟩;let⟨k,p,M,a,rfl,d,l,rfl,k2⟩:=x8 r k2;let⟨V,rfl,rfl,t,h,j,P,z,G,u,q,k2⟩:=JK b k2;let⟨O,A,C⟩:=R.dict d l z G u;let⟨v,x,I⟩:=C.look q;refine⟨a,v,rfl,by rw[<-x];exact DGet.k A,f _ m2 v s k2 (n2.trans n1) R ?_ (E.trans F)⟩;exact jS R d I
abbrev T7(we wo wi:WE):WS:=λD m=>we m λr m1=>kq (λd=>wo m1 λc m2=>wi m2 λb a=>onAt (λk p=>FI (λy=>Vh a k p y d λt=>D.nx {a with os:=a.os.set k [t]}) b) c) r
theorem Oa(hu:X.A.units+64<cLine)(he:ME X e we)(ho:ME X o wo)(Z:ME X i wi)(hs:abG e (some (.Subscript o i pos')) pos.line X.env=pure false:=by rfl):MS X (.Assign [.Subscript o i pos'] e pos) (T7 we wo wi):=(OL ∅ ho Z he hs).wk<|by
 intro D σ H ⟨A,m,De,Rl,hw,k⟩;refine⟨A,m,_,Rl,hw,λr m1 v H1 q n1 l rr F1=>?_⟩;let⟨d,er,hd,q⟩:=gj rr q;refine⟨A,m1,_,l,q,λro m2 ov H2 q2 n2 w K V=>⟨A,m2,_,w,q2,λri m3 iv B h n3 R M U=>?_⟩⟩;let⟨kk,p,s,a,rfl,E,f,rfl,h⟩:=x8 K h;let⟨y,rfl,rfl,t,c,Q,T,O,e6,e7,h⟩:=JK M h;let⟨F,W,Y⟩:=R.dict E f Q T O;have N:Den X.kx B d v:=(hd.mono (l.pers V)).mono (w.pers U);let⟨⟨t1,v0,z,g,a0,J,I⟩,mu⟩:=R.own kk (.T s) _ E Q;cases z;have C:Pers B (upd B a (.dK (putK F y v))):=bj (.inr ⟨_,W,rfl⟩);have nd:(s.map (·.2)).Nodup:=((fE A).mp R.nd).1 (.T s) (LD E);have G:TAtK X.kx (upd B a (.dK (putK F y v))) s p 0 c F:=TAtK.monoP C (λi q b zb=>av λeb=>by
  subst eb;have:=congrArg adx (wd nd zb f);simp at this) Y
 have new:TAt X.kx (upd B a (.dK (putK F y v))) s p (.dict (putD (keyD y) (lfD d) c)) (.ref a):=by
  have P:=G.put (kk:=y) (t':=lfD d) (v':=v) λj=>m8 (N.mono C);let⟨z1,z2⟩:=qi P.kd;simp only[TAt];exact .inr (.inr (.inl ⟨z1,z2,a,_,f,rfl,ay,P⟩))
 have all:=TAt.set nd C g T e6 (by rw[abi];exact f) (by rw[abi];exact new) λu x=>by
  rw[abi]at x;let⟨a',es',n,eu,_⟩:=x.kd O;rw[f]at n;cases n;exact eu
 let⟨S,F4⟩:=R.setW E C (ds':=[setT t p (.dict (putD (keyD y) (lfD d) c))]) (λb L=>av λeb=>L (eb▸bC f)) ⟨⟨_,v0,rfl,all,a0,J,I⟩,λb L=>by
  by_cases eb:b=a
  .subst eb;exact⟨_,ay,rfl⟩
  .rw[av eb];exact mu b L⟩
 exact⟨a,_,rfl,DPut.k W (by rw[<-Y.len];exact e7),k.nx A _ σ _ h (n3.trans (n2.trans n1)) S (.of S (((F1.trans V).trans U).trans F4))⟩
def oU:List (WE×WE)->MSt->(List (R×R)->MSt->Prop)->Prop
 |[],m,K=>K [] m
 |(wk,wv)::r,m,K=>wk m λb m1=>wv m1 λa m2=>oU r m2 λp c=>K ((b,a)::p) c
inductive RelPs(K:Kd)(α:Al)(Hb H:Hp):List (R×R)->List (V×V)->Prop where
 |nil:RelPs K α Hb H [] []
 |cons {r1 r2:R}{rs:List (R×R)}{v1 v2:V}{vs:List (V×V)}:RelR K α Hb H r1 v1->RelR K α Hb H r2 v2->RelPs K α Hb H rs vs->RelPs K α Hb H ((r1,r2)::rs) ((v1,v2)::vs)
theorem RelPs.base{K:Kx}{a:Al}{m:MSt}{d:St}{c:Hp}(b:Rel K a m d H)(F:Frm a c H):∀{rs:List (R×R)}{vs:List (V×V)},RelPs K a H H' rs vs->RelPs K a c H' rs vs
 |_,_,.nil=>.nil
 |_,_,.cons h1 h2 t=>.cons (h1.base b F) (h2.base b F) (t.base b F)
theorem vQ{K:Kx}:∀{s:List (WE×WE)}{c:Al}{m:MSt}{d:St}{H:Hp}{f:List (R×R)->MSt->Prop}{Q:List (V×V)->Hp->Prop},Rel K c m d H->oU s m f ->
  (∀ps k vs g,f ps k->k.np=m.np->Rel K c k d g->RelPs K c H g ps vs->Frm c H g->Q vs g)->wm (s.map λw=>(tM K w.1,tM K w.2)) d H Q
 |[],c,m,d,H,f,Q,Rl,h,fin=>fin _ m _ H h rfl Rl .nil (Frm.refl _ _)
 | (wk,wv)::r,c,m,d,H,f,Q,Rl,h,fin=>
  ⟨c,m,_,Rl,h,λr1 m1 y C k1 n1 a j q=>⟨c,m1,_,a,k1,λz m2 A B k2 n2 b l p=>
   vQ b k2 λps v vs x t u n rs F=>fin _ v _ x t (u.trans (n2.trans n1)) n
    (.cons ((j.keep Rl a p).keep Rl b F) ((l.keep a b F).base a q) (rs.base b (q.trans p))) ((q.trans p).trans F)⟩⟩
def j3:List (R×R)->Option (List (aD×aD))
 |[]=>some []
 |(.imm (.int i),.imm d)::r=>(j3 r).map ((.int i,d) :: ·)
 |(.imm (.str x),.imm d)::r=>(j3 r).map ((.str x,d) :: ·)
 |_::_=>none
def lfKV(kvs:List (aD×aD)):List (aD×aD):=kvs.map λk=>(k.1,lfD k.2)
def tX:List (aD×aD)->Bool
 |[]=>true
 |(k,_)::r=>r.all (λa=>!mF a.1 k)&&tX r
theorem B5{K:Kx}{u:Al}{f:Hp}{ps:List (R×R)}{vs:List (V×V)}(h:RelPs K u f H ps vs):∀{kvs:List (aD×aD)}{i:Nat},j3 ps=some kvs->tX kvs=true->∃a:List (Key×V),vs=a.map (λk=>(kV k.1,k.2))/\TAtK K H τ p i (lfKV kvs) a/\∀kk,(kvs.all λk=>!mF k.1 (keyD kk))=true->∀x∈a,x.1≠kk:=by
 induction h with
 |nil=>intro kvs i e _;cases e;exact⟨[],rfl,by simp[lfKV,TAtK],λ_ _ _ h=>by cases h⟩
 | @cons r1 r2 rs v1 v2 vs h1 h2 t ih=>
  intro kvs i e n;have go:∀(kk:Key) (d:aD),r1 = .imm (keyD kk)->r2 = .imm d->(j3 rs).map ((keyD kk,d) :: ·)=some kvs->∃a:List (Key×V),(v1,v2)::vs=a.map (λk=>(kV k.1,k.2))/\TAtK K H τ p i (lfKV kvs) a/\∀kk,(kvs.all λk=>!mF k.1 (keyD kk))=true->∀x∈a,x.1≠kk:=by
   clear e;intro kk d s c e;subst s c
   cases q:j3 rs with
   |none=>rw[q]at e;cases e
   | some b=>
    rw[q]at e;cases e;simp only[tX,aaG]at n;let⟨a,j,g,un⟩:=ih (i:=i+1) q n.2;have m:v1=kV kk:=by
     cases kk with
     |inl i=>exact aC (show Den K H (.int i) v1 from h1)
     |inr x=>exact bo (show Den K H (.str x) v1 from h1)
    subst m;refine⟨(kk,v2)::a,by rw[aam,<-j],?_,λl hk x v=>?_⟩
    .simp only[lfKV,aam,TAtK];exact⟨kk,v2,a,rfl,⟨rfl,un kk n.1⟩,m8 h2,g⟩
    .rw[ab7,aaG,nQ]at hk;rcases aag.mp v with z|z
     .subst z;simpa using hk.1
     .exact un l hk.2 x z
  unfold j3 at e
  split at e
  .rename_i z;cases z
  .rename_i i' d r z;cases z;exact go (.inl i') d rfl rfl e
  .rename_i x d r z;cases z;exact go (.inr x) d rfl rfl e
  .cases e
theorem rf:∀{more kvs:List (Key×V)},(more.map (·.1)).Nodup->(∀x∈more,valV kvs x.1=none)->j8 kvs more=kvs++more
 |[],kvs,_,_=>(aa5 _).symm
 | (k,v)::more,kvs,nd,h=>by
  show j8 (putK kvs k v) more=_;rw[aam,abe]at nd;rw[FM v (h (k,v) aah),rf nd.2 λx a=>?_,aaY]
  .rfl
  .rw[t7 _ _ _ _ (h (k,v) aah),if_neg]
   .exact h x (aaf _ a)
   .exact λz=>nd.1 (z▸List.mem_map_of_mem a)
theorem TAtK.nodup{K:Kd}:∀{ts:List (aD×aD)}{i:Nat}{xs:List (Key×V)},TAtK K H τ p i ts xs->(xs.map (·.1)).Nodup
 |[],_,_,h=>by simp only[TAtK]at h;subst h;exact abV
 |(k,t)::ts,i,xs,h=>by
  simp only[TAtK]at h;let⟨u,v,vs,rfl,g,_,b⟩:=h;rw[aam];rw[abe];refine⟨λz=>?_,b.nodup⟩;let⟨x,a,c⟩:=aar.mp z;exact g.2 x a c
def BR(P:List (aD×aD)->Prop):Option (List (aD×aD))->Prop
 |some k=>tX k=true/\k.length≤15/\P (lfKV k)
 |none=>False
abbrev Sx(w:List (WE×WE)):WE:=λm K=>oU w m λp a=>BR (λk=>K (.newT (.dict k)) a) (j3 p)
def MPs(X:Cx)(pos:Pos)(keys:List (Option Expr))(v:List Expr)(a:List (WE×WE)):Prop:=PPs X pos keys v (a.map λw=>(tM X.kx w.1,tM X.kx w.2))
def N9:MPs X pos [] [] []:=Kg
def FQ{k v:Expr}{vs:List Expr}{wk:WE}(hk:ME X k wk)(a:ME X v wv)(h:MPs X pos ks vs ws):MPs X pos (some k::ks) (v::vs) ((wk,wv)::ws):=E9 hk a h
theorem KO{keys:List (Option Expr)}(h:MPs X pos keys values ws)(f:keys.all (·.isSome)=true:=by rfl)(u:keys.length=values.length:=by rfl)(A:keys≠[]:=by exact λz=>by cases z)(r:keys.length≤15:=by decide):ME X (.Dict keys values pos) (Sx ws):=
 (P6 h f u A r).wk<|by
 intro P H Q ⟨k,m,O,n,M,t⟩;intro p l;refine vQ (n.lay l) M λN m1 vs j k1 n1 R J F=>?_
 cases e:j3 N with
 |none=>rw[e]at k1;exact k1.elim
 | some kvs=>
  rw[e]at k1;let⟨B,u,k1⟩:=k1;have a:p∉ads k:=n.out l;have v:j p=some (.dK []):=F p _ ay a;let⟨d,D,g,_⟩:=B5 (τ:=[([],p)]) (p:=[]) (i:=0) J e B;refine⟨v,d,D,by rw[<-g.len];simpa[lfKV]using u,?_⟩;have E:j8 [] d=d:=by
   have:=rf (more:=d) (kvs:=[]) g.nodup λx _=>rfl;rwa[abi]at this
  rw[E];have w:Pers j (upd j p (.dK d)):=bj (.inr ⟨_,v,rfl⟩);have fr:Frm k H (upd j p (.dK d)):=λb K eb nb=>by
   have ne:b≠p:=bi eb l;rw[av ne];exact F b K (by rw[av ne];exact eb) nb
  have old:Ext X.kx.eb.np k H k (upd j p (.dK d)):=⟨rfl,fr,λ_ h=>.inl h,λb c=>by
   have s:b≠p:=λe=>a (e▸c);rw[av s];let⟨y,L,_⟩:=R.mem c;exact⟨y,L⟩⟩
  refine t _ m1 _ _ k1 n1 (R.at' w (λb c=>av λe=>a (e▸c)) (n.ebx.trans old)) ⟨[([],p)],p,rfl,rfl,'a',λb c=>by simp at c;subst c;exact l,⟨⟨_,.ref p,rfl,?_,p,rfl,rfl⟩,λb c=>by simp at c;subst c;exact⟨_,ay,rfl⟩⟩⟩ fr;let⟨I,C⟩:=qi g.kd;simp only[TAt];refine .inr (.inr (.inl ⟨I,C,p,d,rfl,rfl,ay,TAtK.monoP w (λi q b G=>?_) g⟩));simp[aeM]at G
end
section
variable {m:MSt}{Q:R->MSt->Prop}{w f g:WE}{D:de}
def R8{k:Nat}{y d:aD}{K:R->Prop}(c:m.os[k]?=some [t])(a:getT t p=some (.dict kvs))(b:isKd kvs=true)(e:oj y 0 kvs=some (j,t'))(i:iX t'=some d)(h:K (.imm d)) :
  dGot m k p y K:=⟨t,kvs,j,t',c,a,b,e,by unfold f7;rw[i];exact h⟩
theorem xZ{y t t':aD}:∀{kvs:List (aD×aD)}{i j:Nat},oj y i kvs=some (i+j,t')->∃k',mF k' y=true/\putD y t kvs=kvs.set j (k',t)
 |[],_,_,e=>by cases e
 | (k',t0)::r,i,j,e=>by
  simp only[oj]at e
  by_cases c:mF k' y=true
  .rw[if_pos c]at e;have:i=i+j:=by simpa using congrArg (Option.map (·.1)) e
   obtain rfl:j=0:=by omega
   exact⟨k',c,by simp only[putD,if_pos c,ag7]⟩
  .rw[if_neg c]at e
   cases j with
   | zero=>
    exfalso;have b:∀{kvs:List (aD×aD)}{i j:Nat}{a:aD},oj y i kvs=some (j,a)->i≤j:=by
     intro kvs
     induction kvs with
     |nil=>intro i j a e;cases e
     |cons x r d=>
      intro i j a e;let⟨k1,l⟩:=x;simp only[oj]at e
      split at e
      .cases e;exact aab _
      .have:=d e;omega
    have:=b e;omega
   |succ j=>
    let⟨k2,h,k⟩:=xZ (t:=t) (i:=i+1) (j:=j) (by rw[e];congr 2;omega);exact⟨k2,h,by simp only[putD,if_neg c,ag8,k]⟩
def Fh{a b:aD}(h:mF a b=true):a=b:=by
 unfold mF at h
 split at h
 .rw[of_decide_eq_true h]
 .rw[of_decide_eq_true h]
 .cases h
theorem LM{k:Nat}{y d:aD}{P:aD->Prop}(o:m.os[k]?=some [t])(c:getT t p=some (.dict kvs))(n:isKd kvs=true)(e:okW t p=true)(q:kvs.length<aak)(l:oj y 0 kvs=some (j,t'))(h:P (setT t p (.dict (kvs.set j (y,lfD d))))) :
  Vh m k p y d P:=by
 let⟨r,b,a⟩:=xZ (t:=lfD d) (i:=0) (j:=j) (by rw[l,acQ]);rw[Fh b]at a;exact⟨t,kvs,o,c,n,e,q,by rw[a];exact h⟩
def QK(h:K [] m):oU [] m K:=h
def K8{wk:WE}{r:List (WE×WE)}(h:wk m λb m1=>wv m1 λa m2=>oU r m2 λps c=>K ((b,a)::ps) c):oU ((wk,wv)::r) m K:=h
def zn{P:List (aD×aD)->Prop}{o:Option (List (aD×aD))}{k:List (aD×aD)}(e:o=some kvs)(c:tX kvs=true)(a:kvs.length≤15)(b:lfKV kvs=k)(h:P k):BR P o:=by subst e;subst b;exact⟨c,a,h⟩
theorem vY{n:Nat}{P:MSt->Prop}(h:P {vs:=m.vs.set n (some (.at m.os.length [])),os:=m.os++[[t]],np:=m.np}):qI n P m (.newT t):=.inl h
end
section
variable {X:Cx}{o i e:Expr}{wo wi we:WE}{pos pos':Pos}
theorem gn(h:X.A.units+64<cLine)(c:EE X o wo)(a:EE X i wi)(b:NoSl i:=by intro _ _;rfl):EE X (.Subscript o i pos) (wDIx wo wi):=⟨Qg h c.h a.h b⟩
def qb(d:X.A.units+64<cLine)(h:EE X e we)(c:EE X o wo)(a:EE X i wi)(b:abG e (some (.Subscript o i pos')) pos.line X.env=pure false:=by rfl):ES X (.Assign [.Subscript o i pos'] e pos) (T7 we wo wi):=⟨Oa d h.h c.h a.h b⟩
structure EPs(X:Cx)(pos:Pos)(keys:List (Option Expr))(values:List Expr)(ws:List (WE×WE)):Prop where
 h:MPs X pos keys values ws
def Fg:EPs X pos [] [] []:=⟨N9⟩
def lJ{k v:Expr}{vs:List Expr}{wk:WE}(hk:EE X k wk)(a:EE X v wv)(h:EPs X pos ks vs ws):EPs X pos (some k::ks) (v::vs) ((wk,wv)::ws):=⟨FQ hk.h a.h h.h⟩
def GN{keys:List (Option Expr)}(h:EPs X pos keys values ws)(a:keys.all (·.isSome)=true:=by rfl)(d:keys.length=values.length:=by rfl)(c:keys≠[]:=by exact λz=>by cases z)(b:keys.length≤15:=by decide):EE X (.Dict keys values pos) (Sx ws):=⟨KO h.h a d c b⟩
end
def tZ{A:abb}(t:Bool)(c:A.handled=none)(I a:Addr)(b:a≠I)(items:Array Ad):Walks prog w A I [I,a] [I] items.size (λi v=>items[i]?=some v) (λi h=>SubI t h I a i/\SubS t h a items):=by
 cases t
 .exact Walks.list c I a b items
 .exact Walks.tuple c I a b items
section
variable {prog:aaI}{w:World}{A:abb}{E:Ad->GT->Prop}{s:GT}
theorem xJ{t:Bool}(c:SubS t s.heap l items)
  (h:∀s2:GT,s2={s with heap:=s.heap.push (itO t l)}->(SubI t s2.heap s.heap.objs.size l 0/\SubS t s2.heap l items)->(∀b∈[s.heap.objs.size,l],b<s2.heap.objs.size)->l≠s.heap.objs.size->Q (.ref s.heap.objs.size) s2):wpAny (model prog w) A (afD (.ref l)) Q E s:=by
 have a:l<s.heap.objs.size:=by
  cases t
  .obtain⟨_,e,_⟩:=(c);exact aal e
  .obtain⟨_,e,_⟩:=(c);exact aal e
 refine dt c (h _ rfl ⟨?_,c.keep λo e=>Io _ e⟩ (λb d=>?_) (aa2 a))
 .cases t
  .exact⟨_,aai _ rfl,rfl,rfl⟩
  .exact⟨_,aai _ rfl,rfl,rfl⟩
 .rw[abv];simp at d;rcases d with rfl|rfl
  .simp
  .exact aen a
theorem w9{t:Bool}(hk:∀b o,b∉[s.heap.objs.size]->(s.heap.push (itO t l)).get? b=some o->h'.get? b=some o):∀b o,s.heap.get? b=some o->h'.get? b=some o:=λb o e=>
 hk b o (λh=>absurd (aal e) (by rw[aad.mp h];exact acT _)) (Io _ e)
theorem uw(h:ae3 items.toList ns):∀(i:Nat) (v:Ad),items[i]?=some v->∃t,v = .int (ns.getD i 0) t:=λi v e=>h.int_at i v (by simpa)
end
section
variable {X:Cx}
def rMax(K:aae):List V->Hp->VK->Prop:=λa H Q=>∃t l ns,a=[.ref l]/\SqB t K H l (ns.map V.int)/\ns≠[]/\∀x,x∈ns->(∀y∈ns,y≤x)->Q (.int x) H
theorem GH{b:Nat}(c:b≤ns.length-1)(h:ns≠[]):ns.getD b 0∈ns:=by
 have a:b<ns.length:=by
  have:ns.length≠0:=λz=>h (abl z);omega
 rw[bM (lD a)];simp
theorem rm(x:X.calm=true):dF X (.builtin "max") (rMax X.K):=by
 intro p s J H F G Q I B ⟨t,l,ns,ex,w,b,q⟩;subst ex;let⟨u,rfl,o⟩:=B.one;cases o;let⟨a,r,k,_⟩:=I.sqb w;have f:=fe r;have D:a.length=ns.length:=by have:=r.length;rw[iO]at this;omega
 refine call_max_walk (xJ k λs2 e g c d=>?_);subst e;refine⟨s.heap.objs.size,[s.heap.objs.size,l],[s.heap.objs.size],a.toArray.size,λi v=>a.toArray[i]?=some v,λi h=>SubI t h s.heap.objs.size l i/\SubS t h l a.toArray,_,rfl,tZ (A:=X.A.in1) t (I.ok.hd x) _ l d a.toArray,g,c,?_,CmpOf.ints_gt (λi=>ns.getD i 0) (uw f),λv E m C hk=>?_⟩
 .grind
 .obtain⟨tt,rfl⟩:=uw f _ v C;rw[aaK,D]at *;let⟨b1,b2⟩:=PySem.argBest_gt (λi=>ns.getD i 0) (ns.length-1);refine⟨.int _,H,I.kept (t':=m) (w9 hk),⟨_,rfl⟩,q _ (GH b1 b) λy n=>?_⟩;let⟨j,z,rfl⟩:=ab3.mp n;have:=b2 j ∅;rwa[bM (lD z)]at this
end
section
variable {prog:aaI}{w:World}{A:abb}{E:Ad->GT->Prop}{s:GT}
structure vF(t:Bool)(e it l:Addr)(k:Nat)(h:aa1):Prop where
 e:∃old,IsEnum h e it (k:Int) old
 s:SubI t h it l k
theorem zm{t:Bool}{x:Ad}{Q:Option Ad->GT->Prop}(Z:vF t e it l i s.heap)(hl:SubS t s.heap l items)(X:items[i]?=some x)(f:e≠it)
  (Y:∀h',IsEnumOut h' e it ((i:Int)+1) x s.heap.objs.size->SubI t h' it l (i+1)->aeV h' s.heap.objs.size (.int i s.toks) x->h'.objs.size=s.heap.objs.size+1 ->
   (∀b o,b∉[e,it]->s.heap.get? b=some o->h'.get? b=some o)->Q (some (.ref s.heap.objs.size)) {s with heap:=h',toks:=s.toks+1}):wpAny (model prog w) A (aci (.ref e)) Q E s:=by
 let⟨⟨old,H⟩,P⟩:=Z;have V:s.TypeIs (.ref e) "enumerate":=(⟨_,H,rfl⟩);unfold aci;refine gT (ab6 (aaN (name:=abK "__next__") V adn (aaZ adn V agd ?_ (afT _))));rcases s with⟨h,g,d,a,os⟩;refine gT (m:=field (.ref e) 2) (abh H rfl (x:=.ref it) rfl (gT (kQ P hl X λp n1 s1=>?_)));replace s1:abk it h p:=s1;have O:IsEnum p e it i old:=(s1.2 e f).trans H;show wpAny _ _ (field (.ref e) 3 >>= _) _ _ ⟨p,g,d,a,os⟩;refine gT (abh O rfl (x:=ade i) rfl ?_);show wpAny _ _ (field (.ref e) 4 >>= _) _ _ ⟨p,g,d,a,os⟩;refine gT (abh O rfl (x:=.none) rfl ?_);refine gT (m:=mkInt i) (wpAny_mkInt ?_);show wpAny _ _ (acJ (.ref e) 3 (ade ((i:Int)+1)) >>= _) _ _ ⟨p,g,d,a+1,os⟩;refine gT (aaC O 'a' λD J s2=>?_);replace s2:abk e p D:=s2;replace J:IsEnum D e it ((i:Int)+1) old:=J;show wpAny _ _ (acJ (.ref e) 4 .none >>= _) _ _ ⟨D,g,d,a+1,os⟩;refine gT (aaC J 'a' λc M r=>?_);replace r:abk e D c:=r;replace M:IsEnum c e it ((i:Int)+1) old:=M;refine gT (m:=newTuple [.int i a,x]) (afi ?_);have C:IsEnum (c.push {cls:=.type "tuple",data:=.seq #[.int i a,x]}) e it ((i:Int)+1) old:=Io _ M;have j:c.objs.size=h.objs.size:=by rw[r.1,s2.1,s1.1]
 have y:e<h.objs.size:=aal H;have U:(c.push {cls:=.type "tuple",data:=.seq #[.int i a,x]}).get? h.objs.size=some {cls:=.type "tuple",data:=.seq #[.int i a,x]}:=by rw[<-j];exact aai _ rfl
 have W:(c.push {cls:=.type "tuple",data:=.seq #[.int i a,x]}).objs.size=h.objs.size+1:=by rw[abv,j]
 have T:∀b o,b∉[e,it]->h.get? b=some o->(c.push {cls:=.type "tuple",data:=.seq #[.int i a,x]}).get? b=some o:=λb o k q=>by
  simp only[aag,abx,not_or,or_false]at k;exact Io _ (r.extBut b o k.1 (s2.extBut b o k.1 (s1.extBut b o k.2 q)))
 have n4:SubI t (c.push {cls:=.type "tuple",data:=.seq #[.int i a,x]}) it l (i+1):=((n1.ext s2.extBut (abH f)).ext r.extBut (abH f)).keep λo q=>Io _ q;generalize c.push {cls:=.type "tuple",data:=.seq #[.int i a,x]}=I at C U W T n4;show wpAny _ _ (abW (.ref e) >>= _) _ _ ⟨I,g,d,a+1,os⟩;rw[j];refine gT (m:=abW (.ref e)) (gT (m:=field (.ref e) 0) (abh C rfl (x:=.none) rfl (Ld ?_)));simp only[if_true];refine gT (abI (gT (abh C rfl (x:=old) rfl (gT (aaC C 'a' λG K B=>?_)))));replace B:abk e I G:=B;replace K:IsEnum G e it ((i:Int)+1) x:=K;show wpAny _ _ (acy (.ref e) (.ref h.objs.size) >>= _) _ _ ⟨G,g,d,a+1,os⟩;refine gT (m:=acy (.ref e) (.ref h.objs.size)) ?_;refine gT (m:=acJ (.ref e) 0 _) (aaC K 'a' λS N F=>?_);replace F:abk e G S:=F;replace N:IsEnumOut S e it ((i:Int)+1) x h.objs.size:=N;refine aaC N 'a' λu R v=>?_;replace v:abk e S u:=v;replace R:IsEnumOut u e it ((i:Int)+1) x h.objs.size:=R;have L:∀b o,b≠e->I.get? b=some o->u.get? b=some o:=λb o n q=>v.extBut b o n (F.extBut b o n (B.extBut b o n q));refine gT (afy (Ld ⟨_,rfl,Ld (Y u R (n4.keep λo q=>L _ o (abH f) q) (L _ _ (abt y) U) (by rw[v.1,F.1,B.1,W]) λb o k q=>L b o (λz=>k (by simp[z])) (T b o k q))⟩))
theorem IW{t:Bool}{Q:Option Ad->GT->Prop}(j:A.handled=none)(Z:vF t e it l i s.heap)(p:SubS t s.heap l items)(q:items[i]?=none)
  (n:∀c,afx it s.heap c->Q none {s with heap:=c}):wpAny (model prog w) A (aci (.ref e)) Q E s:=by
 let⟨⟨old,d⟩,b⟩:=Z;have f:s.TypeIs (.ref e) "enumerate":=(⟨_,d,rfl⟩);refine gT (ab6 (aaN f adn (aaZ adn f agd ?_ (afT _))));refine gT (m:=field _ 2) (abh d rfl (x:=.ref it) rfl (gT (vi j b p q λr x h a=>?_)));let⟨o,k,g⟩:=a;exact gT (acD ⟨o,k,g⟩ aek (Ld (n _ h)))
end
open AutoSeq1 (wpAny_loadPart') in
set_option maxHeartbeats 1100000 in
theorem IP(t:Bool)(l:Addr)(items:Array Ad) :
  Meets (ac4.«enumerate.__new__» ⟨[.type "enumerate",.ref l],[]⟩) (λ_ R s=>SubS t s.heap l items/\
   R (.ok (.ret (.ref (s.heap.push (itO t l)).objs.size))) {s with heap:=(s.heap.push (itO t l)).push {cls:=.type "enumerate",data:=.fields #[.none,.bool false,.ref s.heap.objs.size,ade 0,.none,.none]} }):=
 .of_wp λprog w A R s h=>by
  rcases s with⟨f,g,d,e,os⟩;rcases h with⟨i,h⟩;have b:=sub_enumerate;have a:SubS t (ahB ⟨f,g,d,e,os⟩) l items:=i
  wp_walk
  refine wpAny_stack_any λj=>?_;refine Ld ?_;split
  .rename_i c _ _ _ _ _
   cases c==ac3 "enumerate"
   .wp_walk using dt a
    exact⟨_,rfl,h⟩
   .wp_walk using dt a
    exact⟨_,rfl,h⟩
  .wp_walk using dt a
   exact⟨_,rfl,h⟩
section
variable {prog:aaI}{w:World}{A:abb}{E:Ad->GT->Prop}{s:GT}
theorem Cn{t:Bool}(e:SubS t s.heap l items)
  (h:∀h',vF t (s.heap.objs.size+1) s.heap.objs.size l 0 h'->(∀b o,s.heap.get? b=some o->h'.get? b=some o)->Q (.ref (s.heap.objs.size+1)) {s with heap:=h' }):wpAny (model prog w) A (call (.type "enumerate") [.ref l]) Q E s:=by
 refine callType_new F.called_enumerate ⋯ (F.typeCall_enumerate_1 _) (F.newCall_enumerate_1 _) (λobj=>F.args_object_init_2 obj _) F.entry_enumerate_new (IP t l items) ⟨e,?_⟩;have a:(s.heap.push (itO t l)).objs.size=s.heap.objs.size+1:=abv ..;rw[a];have c:((s.heap.push (itO t l)).push {cls:=.type "enumerate",data:=.fields #[.none,.bool false,.ref s.heap.objs.size,ade 0,.none,.none]}).get? (s.heap.objs.size+1)=some {cls:=.type "enumerate",data:=.fields #[.none,.bool false,.ref s.heap.objs.size,ade 0,.none,.none]}:=by
  rw[<-a];exact aai _ rfl
 have d:((s.heap.push (itO t l)).push {cls:=.type "enumerate",data:=.fields #[.none,.bool false,.ref s.heap.objs.size,ade 0,.none,.none]}).get? s.heap.objs.size=some (itO t l):=Io _ (aai _ rfl);refine⟨⟨_,c,rfl⟩,h _ ⟨⟨.none,c⟩,?_⟩ λb o x=>Io _ (Io _ x)⟩;cases t
 .exact⟨_,d,rfl,rfl⟩
 .exact⟨_,d,rfl,rfl⟩
end
def Ite(t:Bool)(K:aae)(a:Addr):It where
 go:=λi H=>∃b x,SqB t K H a b/\b[i]?=some x
 yld:=λi H v c=>∃T x,v = .ref T/\H T=none/\c=upd H T (.tup [.int (i:Int),x])/\∀b,SqB t K H a b->b[i]?=some x
 stop:=λi H=>∃b,SqB t K H a b/\b.length≤i
theorem zR{K:aae}{l:List Expr}{x1:Nat}{t:Bool}(m:e≠it):Turn P w K (.Tuple l x1 pos) (Ite t K a) [e,it] e (λi h=>vF t e it a i h) where
 mem:=by simp
 obj:=λi h g c b=>by
  let⟨⟨old,j⟩,r⟩:=g;simp only[aag,abx,or_false]at b;rcases b with rfl|rfl
  .exact⟨_,j,λv q=>by cases q⟩
  .obtain⟨o,vs,e,d⟩:=r.obj;exact⟨o,e,λv q=>by rw[d]at q;cases q⟩
 keep:=λi h h' g k=>by
  let⟨⟨old,j⟩,r⟩:=g;exact⟨⟨old,k e 'a' _ j⟩,r.keep λo q=>k it 'a' o q⟩
 item:=by
  intro X M J N b i f s Q H E I B g D;subst M J N;let⟨T,x,y,S⟩:=D;let⟨C,L,p,_⟩:=I.sqb y;let⟨u,Y,ru⟩:=L.get S;refine zm g p (x:=u) (by simpa using Y) m λh' a1 a2 W a4 a5=>⟨.ref s.heap.objs.size,rfl,?_⟩;refine wpAny_letOwnedTupleGo_enum (s:={s with heap:=h',toks:=s.toks+1}) a1 λA b1 Z=>?_;have G:H s.heap.objs.size=none:=I.hok.fresh (aab _);have O:∀c∈[e,it],c<s.heap.objs.size:=λc b=>by
   let⟨⟨old,j⟩,r⟩:=g;simp only[aag,abx,or_false]at b;rcases b with rfl|rfl
   .exact aal j
   .obtain⟨o,vs,e,d⟩:=r.obj;exact aal e
  have R:∀c∈[e,it],c≠s.heap.objs.size:=λc b=>aa2 (O c b);have F:∀c o,c≠e->h'.get? c=some o->A.get? c=some o:=λc o n q=>Z.extBut c o n q;have T2:aeV A s.heap.objs.size (.int i s.toks) u:=F _ _ (abH (R e 'a')) W;have U:Inv X f Q (upd H s.heap.objs.size (.tup [.int (i:Int),x])) {s with heap:=s.heap.push {cls:=.type "tuple",data:=.seq #[.int i s.toks,u]},toks:=s.toks+1}:=
   I.laid (o:=.tup [.int (i:Int),x]) (λc o q=>Io _ q) (aab _) ⟨by show 2≤aak;rw[aap];decide,[.int i s.toks,u],.cons ⟨_,rfl⟩ (.cons ru .nil),PlainT.new _ _⟩
  have V:Inv X f Q (upd H s.heap.objs.size (.tup [.int (i:Int),x])) {s with heap:=A,toks:=s.toks+1}:=by
   refine Inv.turneds (s:={s with heap:=s.heap.push {cls:=.type "tuple",data:=.seq #[.int i s.toks,u]},toks:=s.toks+1}) (h':=A) (t':=s.toks+1) (ch:=[e,it]) U (λc o b q=>?_) λc b=>?_
   .rcases agC q with⟨rfl,rfl⟩|q
    .exact T2
    .exact F c o (λz=>b (by simp[z])) (a5 c o b q)
   .obtain⟨f0,f1⟩:=B c b;exact⟨by rw[av (R c b)];exact f0,f1⟩
  refine⟨.ref s.heap.objs.size,upd H s.heap.objs.size (.tup [.int (i:Int),x]),V,rfl,⟨_,x,rfl,G,rfl,λzs hz=>by rw[I.sqb_inj hz y];exact S⟩,⟨⟨u,?_⟩,a2.keep λo q=>F _ o (abH m) q⟩,λc b=>?_⟩
  .have:((i+1:Nat):Int)=(i:Int)+1:=by rfl
   rw[this];exact b1
  .rw[av (R c b)];exact(B c b).1
 done:=by
  intro X M J N b i f s Q H E I B g D;subst M J N;let⟨T,y,j⟩:=D;let⟨C,L,p,_⟩:=I.sqb y;have l1:=L.length;exact IW (I.ok.hd b) g p (by simp;omega) λh' hk=>⟨rfl,I.turneds (t':=s.toks) (ch:=[e,it]) (λc o b q=>hk c o (λz=>b (by simp[z])) q) B⟩
 self:=λ_ _ _ _ _ g h=>by let⟨⟨old,j⟩,_⟩:=g;exact wpAny_pyIter_enum j h
section
variable {X:Cx}{f:List Expr}{A:Nat}{w:Pos}{a:Expr}{z:WA}{p pos:Pos}
def XH(K:aae)(ta:TA):TI:=λc H R=>ta c H λvs b=>∃t l,vs=[.ref l]/\(∃x,SqB t K b l x)/\R (Ite t K l) b
theorem OJ{ta:TA}(k:Gl X "enumerate")(o:X.mg "enumerate" = none)(v:PA X [a] ta)(x:aac [a] X.env=[(false,eval a X.env)]:=by first|exact cI rfl|rfl):PI X (.Tuple f A w) (.Call (.Name "enumerate" p) [a] [] pos) (XH X.K ta):=by
 intro g s C H R I h;refine Call_ (j7 I k o se (acA (thn (v pos g s C H _ I h) λJ s1 ⟨vs,D,i,r1,m⟩=>?_) x rfl));let⟨t,l,e,⟨E,u⟩,q⟩:=m;subst e
 cases r1 with
 | cons r rr=>
  cases rr;cases r;let⟨j,F,n,_⟩:=i.sqb u;refine Cn n λG Z hk=>?_;let⟨old,B⟩:=Z.e;refine wpAny_pyIter_enum B ⟨s1.heap.objs.size+1,_,_,_,D,rfl,i.kept (t':=s1.toks) hk,zR (Nat.succ_ne_self _),Z,λc y=>?_,q⟩;have b:s1.heap.objs.size≤c:=by
   have d:=y;simp at d;rcases d with rfl|rfl<;>first|exact ack _ _|exact aab _
  exact i.fpOk b (i.hok.fresh b)
def yN(ds:List aD):List aD:=zipD (iq 0 ds.length) ds
def WN(m:MSt)(K:Src->MSt->Prop)(r:R):Prop:=(∃t ds,imS r=some (t,ds)/\K ⟨yN ds,none⟩ m)\/∃k ds,r = .obj k/\m.os[k]?=some ds/\K ⟨yN ds,some (k,ds)⟩ m
abbrev Jl(z:WA):WI:=λm K=>z m λrs b=>on1 (WN b K) rs
def gf(ds:List aD):(yN ds).length=ds.length:=by unfold yN;rw[cw,aM];simp
def rE{d:aD}(h:ds[i]?=some d):(yN ds)[i]?=some (.tuple [.int (i:Int),d]):=by
 have b:=(AD.mp h).1;have:=vV (jt (lo:=0) b) h;rw[ae5]at this;exact this
theorem wks_enum{K:Kd}{t:Bool}:Wks K (Ite t K l) (yN ds) λH=>∃xs,SqB t K H l xs/\DenAll K H ds xs where
 stop:=λH ⟨xs,q,g⟩=>⟨xs,q,by rw[gf,g.length];exact aab _⟩
 go:=λi H h ⟨xs,q,g⟩=>by
  rw[gf]at h;exact⟨xs,xs[i]'(by rw[<-g.length];exact h),q,lD _⟩
 yld:=λi H x n h ⟨xs,q,g⟩ y=>by
  let⟨T,u,rfl,j,rfl,e⟩:=y;let⟨d,k,k1⟩:=g.get2 (e xs q);have c:∀b o,H b=some o->upd H T (.tup [.int i,u]) b=some o:=λb o q=>by rw[av (bi q j)];exact q
  have m:Pers H _:=⟨λb xs q=>c b _ q,λb o u q=>c b _ q⟩;exact⟨c,_,rE k,e8 (SqT.of ay) (DenAll.cons (uK _) (DenAll.cons (k1.mono m) DenAll.nil))⟩
theorem KB(C:X.mg "enumerate" = none)(K:MA X [a] z)(E:Gl X "enumerate":=by rfl)(J:aac [a] X.env=[(false,eval a X.env)]:=by first|exact cI rfl|rfl):MI X (.Tuple f A w) (.Call (.Name "enumerate" p) [a] [] pos) (Jl z):=(OJ E C K J).wk<|by
 intro S H O ⟨G,m,Q,D,M,b⟩;refine⟨G,m,_,D,M,λrs o vs y k n R rr F=>?_⟩;let⟨r,v,rfl,rfl,s,k⟩:=fv rr k;rcases k with⟨t,ds,e,k⟩|⟨j,ds,rfl,e,k⟩
 rotate_left
 .obtain⟨p,ep,rfl⟩:=s;let⟨N,q,_⟩:=R.own j _ ds ep e;exact⟨false,p,rfl,⟨N,SqL.of q⟩,b _ o _ y k n R F ⟨p,ep,wks_enum.imp λH ⟨x,q,g⟩=>⟨x,SqL.of q,g⟩⟩⟩
 let⟨l,x,rfl,L,u,I⟩:=AY s e;refine⟨t,l,rfl,⟨x,u⟩,b _ o _ y k n R F ⟨λH=>∃x,SqB t X.kx H l x/\DenAll X.kx H ds x/\∀d,Pers H d->SqB t X.kx d l x,wks_enum.imp λH ⟨x,a,c,_⟩=>⟨x,a,c⟩,⟨x,u,L,I⟩,λP B ⟨x,a,c,i⟩ h=>⟨x,i B h,c.mono h,λd p=>i d (h.trans p)⟩⟩⟩
theorem IE(b:X.mg "enumerate" = none)(d:EA X [a] z)(c:Gl X "enumerate":=by rfl)(h:aac [a] X.env=[(false,eval a X.env)]:=by first|exact cI rfl|rfl):EI X (.Tuple f A w) (.Call (.Name "enumerate" p) [a] [] pos) (Jl z):=⟨KB b d.h c h⟩
end
section
variable {X:Cx}
def TZ:WC:=λrs m K=>on1 (λr=>∃ds ns,sqOf m r=some ds/\c8 ds=some ns/\ns≠[]/\∀x,x∈ns->(∀y∈ns,y≤x)->K (.imm (.int x))) rs
theorem fu(j:X.calm=true):dF X (.builtin "max") (cM X.kx TZ):=by
 intro p s b H w u Q I k ⟨y,m,z,t,rs,K,R,h,d,i⟩;let⟨r,v,rfl,rfl,e,ds,ns,n,l,c,d⟩:=fv h d;let⟨a,A,rfl,f,g⟩:=e.seq R n;rw[ic l]at g;have q:=dw g;subst q;have go:=λx e o=>i _ _ H (d x e o) R (dU _) (Frm.refl _ _);rcases f with f|f
 .exact rm j p s b H _ u Q I k ⟨false,a,ns,rfl,f,c,go⟩
 .exact rm j p s b H _ u Q I k ⟨true,a,ns,rfl,f,c,go⟩
def tU{m:MSt}{r:R}(b:sqOf m r=some ds)(e:c8 ds=some ns)(a:ns≠[])(h:∀x,x∈ns->(∀y∈ns,y≤x)->Kr (.imm (.int x))):TZ [r] m Kr:=⟨ds,ns,b,e,a,h⟩
end
open SeqAt in
open AutoSeq1 (wpAny_loadPart') in
theorem vn(l:Addr)(items:Array Ad)(n:Nat)(u:Option Addr)(sl:Array (Option Ad))(x:Ad)(e:Ad->Bool)(j:Nat)(F:j<items.size)(p:e items[j]=true)(k:∀m (D:m<items.size),m<j->e items[m]=false) :
  Meets (ac4.«tuple.index» ⟨[.ref l,x],[]⟩)
   (λA R s=>s.heap.get? l=some {cls:=.type "tuple",dict:=u,data:=.seq items n,slots:=sl}/\(∀y,y∈items->EqAt A.in1 s y x (e y))/\R (.ok (.ret (.int j s.toks))) {s with toks:=s.toks+1}):=
 .of_wp λprog w A R s h=>by
  rcases s with⟨z,g,d,t,os⟩;rcases h with⟨C,B,h⟩
  (wp_walk using aeY C)
  refine(show wpAny (model prog w) A.in1 (forIn ([:min items.size items.size]:Std.Legacy.Range) _ _) _ _ _ from ?_);simp only[Std.Legacy.Range.forIn_eq_forIn_range'];have E:ahD (0:Nat) (min items.size items.size) 1=ahD 0 items.size 1:=by rw[ahj]
  refine aeE _ (λrest (b:Option _×Unit) q=>b.1=none/\q=⟨z,g,d,t,os⟩/\∃i,i≤j/\rest=ahD i (items.size-i) 1) _ ?turn ?fin _ _ ?start
  case turn=>
   intro i rest b q ⟨r,rfl,c,hi0,f⟩;have a:c<items.size:=by omega
   have v:items.size-c=(items.size-(c+1))+1:=by omega
   rw[v,List.range'_succ]at f;cases f;rw[show items[i]?=some items[i]from abP a];refine gT (B items[i] (Array.getElem_mem a) prog w _ _ ?_)
   by_cases o:i=j
   .subst o;rw[p]
    wp_walk
    exact⟨_,rfl,h⟩
   .rw[k i a ∅]
    wp_walk
    exact⟨rfl,rfl,i+1,∅,rfl⟩
  case fin=>
   intro⟨b1,b2⟩ q ⟨r,rfl,c,hi0,f⟩;have:=congrArg adx f;simp at this;omega
  case start=>
   refine⟨rfl,rfl,0,abJ _,?_⟩;simp[Std.Legacy.Range.size]
section
variable {X:Cx}{o e:Expr}{b:List Expr}{w:WE}{p:WA}{l c:Pos}
abbrev wMT(a:WM)(w:WE)(p:WA):WE:=λm K=>w m λr m1=>(∃ds,r = .imm (.tuple ds))/\p m1 λrs m2=>a r rs m2 K
theorem Xh{name:Str}{id:String}{D:WM}(slot:Slot "tuple" name id)(B:typeOf (.builtin id)=pure (.type "method_descriptor"))(G:MtM X id (mM X.kx D))(J:ME X o w)(M:MA X (e::b) p)
  (i:abz o name X.env (eval o X.env)=eval o X.env:=by rfl)
  (j:((abq c (aac (e::b) X.env)).all (λx=>!x.1)&&(acY c (ab2 [] X.env)).all (λx=>x.1.isSome)
   && decide ((e::b).length+([]:List ac6).length+(if ([]:List ac6).isEmpty then 0 else 1)<30))=true:=by rfl)
  (d:(l.endLine==c.line)=true:=by rfl) (N:aac (e::b) X.env=(false,eval e X.env)::aac b X.env:=by first|exact aH rfl|rfl) (h:(abq c (aac b X.env)).any (·.1)=false:=by rfl) :
  ME X (.Call (.Attribute o name l) (e::b) [] c) (wMT D w p):=(Uy PySem.F.plainAttrs_tuple slot B G J M i j d N h).wk<|by
 intro S H Q ⟨u,m,L,C,P,A⟩;refine⟨u,m,_,C,P,λr m1 v T k n1 q rr E=>?_⟩;let⟨⟨ds,rfl⟩,k⟩:=k;let⟨a,I,rfl,f,g⟩:=bQ (rr);refine⟨.inr (.inl ⟨rfl,I,f⟩),u,m1,_,q,k,λrs m2 vs U k2 n2 R s t=>?_⟩;exact⟨u,m2,S,H,T,.imm _,rs,L,R,rr.keep C q t,s,k2,λr K v O k n z y F=>A r K v O k (n.trans (n2.trans n1)) z (y.base R (E.trans t)) ((E.trans t).trans F)⟩
theorem x6{name:Str}{id:String}{i:WM}(slot:Slot "tuple" name id)(g:typeOf (.builtin id)=pure (.type "method_descriptor"))(k:MtM X id (mM X.kx i))(j:EE X o w)(m:EA X (e::b) p)
  (a:abz o name X.env (eval o X.env)=eval o X.env:=by rfl)
  (f:((abq c (aac (e::b) X.env)).all (λx=>!x.1)&&(acY c (ab2 [] X.env)).all (λx=>x.1.isSome)
   && decide ((e::b).length+([]:List ac6).length+(if ([]:List ac6).isEmpty then 0 else 1)<30))=true:=by rfl)
  (d:(l.endLine==c.line)=true:=by rfl) (n:aac (e::b) X.env=(false,eval e X.env)::aac b X.env:=by first|exact aH rfl|rfl) (h:(abq c (aac b X.env)).any (·.1)=false:=by rfl) :
  EE X (.Call (.Attribute o name l) (e::b) [] c) (wMT i w p):=⟨Xh slot g k j.h m.h a f d n h⟩
def x_ts{P:Prop}(h:P):(∃b,R.imm (.tuple ds) = .imm (.tuple b))/\P:=⟨⟨ds,rfl⟩,h⟩
def zW:WM:=λr rs m K=>on1 (kq λd=>∃ds j,r = .imm (.tuple ds)/\d.canLay0=true/\abA ds=true/\d.depth≤60/\(∃y,ds[j]?=some y/\aaa y d=true)/\(∀(i:Nat) y,i<j->ds[i]?=some y->aaa y d=false)/\K (.imm (.int (j:Nat))) m) rs
theorem ij(hu:X.A.units+64<cLine):MtM X "tuple.index" (mM X.kx zW):=by
 intro O s W H x xs v us Q I rx rv ⟨α,m,σ,H0,H1,r,rs,Kc,V,h1,J,z,K⟩;let⟨r2,v2,rfl,rfl,J,z⟩:=fv J z;let⟨d,rfl,hd,ds,j,rfl,L,F,dp,⟨y,T,eq⟩,D,z⟩:=gj J z;let⟨a,zs,rfl,f,g⟩:=bQ (show Den X.kx H (.tuple ds) x from h1);cases rx;let⟨u,rfl,Y⟩:=rv.one;let⟨bs,Z⟩:=Den.reads I (aa9 _ L) hd Y;let⟨h,E,⟨o,t,P,G,n,k⟩,hz⟩:=I.tupleP f;let⟨as,A⟩:=DenAll.reads I (abw _ F) g E;have U:X.A.units+1+min (aaD ds) d.depth<cLine:=by have:=acZ (aaD ds) d.depth;omega
 have q:=ag5 ds _ _ F A;have S:h.length=ds.length:=by rw[<-q,iO]
 have R:j<h.length:=by rw[S];exact(AD.mp T).1
 have M:∀(i:Nat) (C:i<h.length) y,ds[i]?=some y->add s.heap h[i]=y:=λi C y e=>by
  rw[<-q,aaj,lD C]at e;exact aaA e
 let⟨cls,dd,N,sl⟩:=o;dsimp only at P k;subst P;subst k;refine ad8 acn ⟨_,t,rfl⟩ PySem.F.entry_tuple_index (PySem.F.args_tuple_index_2 _ _)
  (vn a h.toArray _ dd sl u (λy=>aaa (add s.heap y) d) j (by simpa using R) ?_ ?_) ⟨t,aht (by simpa using A) Z F L U,?_⟩
 .show aaa (add s.heap h[j]) d=true;rw[M j R y T];exact eq
 .intro i C hlt;have B:i<h.length:=by simpa using C
  show aaa (add s.heap h[i]) d=false;have hi2:i<ds.length:=by rw[<-S];exact B
  rw[M i B _ (lD hi2)];exact D i _ hlt (lD hi2)
 .exact⟨.int (j:Nat),H,I.tok _,⟨_,rfl⟩,K _ _ _ H z rfl V (dU _) (Frm.refl _ _)⟩
def k6{m:MSt}{d y:aD}{k k':Nat}{K:R->MSt->Prop}(s1:Shp k d)(s2:∀y∈ds,Shp k' y)(hk:k≤60)(f:ds[j]?=some y)(eq:aaa y d=true)(a:∀(i:Nat) y,i<j->ds[i]?=some y->aaa y d=false)(h:K (.imm (.int (j:Nat))) m):zW (.imm (.tuple ds)) [.imm d] m K:=
 ⟨ds,j,rfl,s1.cl,(j2 s2).1,aaw s1.dp hk,⟨y,f,eq⟩,a,h⟩
end
def yT:fillsNumberSlot (.type "tuple") "mul" = pure false:=
 PySem.fillsNumberSlot_seq aeo.lookup rfl afU.lookup rfl
def MQ:seqRepeat? (.type "tuple")=pure (some (.builtin "tuple.__mul__")):=by
 unfold seqRepeat?;rw[ahv (name:= "__mul__") aeo.lookup rfl,ahv (name:= "__rmul__") afU.lookup rfl];rfl
theorem FY(a:Int)(t:Tok)(l:Addr)(items:Array Ad)(n:Nat)(d:Option Addr)(sl:Array (Option Ad)) :
  Meets (ac4.«int.__rmul__» ⟨[.int a t,.ref l],[]⟩) (λ_ R s=>s.heap.get? l=some {cls:=.type "tuple",dict:=d,data:=.seq items n,slots:=sl}/\R (.ok (.ret Ad.notImplemented)) s):=
 .of_wp λprog w A R s h=>by
  rcases h with⟨b,h⟩
  wp_walk
  exact⟨_,rfl,h⟩
open AutoSeq1 (wpAny_loadPart') in
theorem O8(l:Addr)(items:Array Ad)(n:Nat)(y:Option Addr)(sl:Array (Option Ad))(k:Int)(t:Tok)(F:0≤k)(G:k<2^20)(E:items.size*k.toNat≤1000000) :
  Meets (ac4.«tuple.__mul__» ⟨[.ref l,.int k t],[]⟩) (λ_ R s=>s.heap.get? l=some {cls:=.type "tuple",dict:=y,data:=.seq items n,slots:=sl}/\
   if (items.isEmpty||k==1)=true then R (.ok (.ret (.ref l))) s else R (.ok (.ret (.ref s.heap.objs.size))) {s with heap:=s.heap.push {cls:=.type "tuple",data:=.seq ((aaq k.toNat items).foldl (λb x=>b++x) #[])} }):=
 .of_wp λprog w A R s h=>by
  rcases s with⟨r,g,d,p,os⟩;rcases h with⟨o,h⟩
  (wp_walk using aeY o)
  have z:(⟨r,g,d,p,os⟩:GT).TypeIs (.ref l) "tuple":=(⟨_,o,rfl⟩);have i:IsTup (⟨r,g,d,p,os⟩:GT).heap l items:=⟨_,o,rfl,n,rfl⟩;have B:((items.size:Nat):Int)*k≤1000000:=by
   have v:k=((k.toNat:Nat):Int):=by omega
   rw[v,<-ad6];omega
  rw[if_neg (show ¬_ by simp only[decide_eq_true_eq,agn];omega)];refine gT (agX i ?_)
  by_cases f:(items.isEmpty||k==1)=true
  .rw[if_pos f]at h⊢;refine gT ?_;unfold afg;refine gT (ac5 z (Ld ?_));rw[if_pos 'b'];exact gT (abI (Ld ⟨_,rfl,h⟩))
  .rw[if_neg f]at h⊢;have D:items.isEmpty=false:=by
    cases q:items.isEmpty with
    |false=>rfl
    |true=>rw[q]at f;exact(f rfl).elim
   by_cases j:k=0
   .subst j;show wpAny _ _ (if (decide ((0:Int)≤0)||items.isEmpty)=true then _ else _) _ _ _;rw[if_pos 'b'];exact gT (m:=abU #[]) (abd (Ld ⟨_,rfl,h⟩) (by show(0:Nat)≤aak;exact abJ _))
   have u:(decide (k≤0)||items.isEmpty)=false:=by rw[D,decide_eq_false ∅];rfl
   have c:∀(m:Nat) (a:Array Ad),(ahK (λb x=>b++x) a (aaq m items)).size=a.size+m*items.size:=by
    intro m
    induction m with
    |zero=>intro a;simp
    |succ m C=>intro a;rw[acx,aeS,C,Array.size_append,ae6];omega
   have e:((aaq k.toNat items).foldl (λb x=>b++x) #[]).size≤aak:=by
    rw[c,aap,ac8];simp;omega
   show wpAny _ _ (if (decide (k≤0)||items.isEmpty)=true then _ else _) _ _ _;rw[if_neg (by rw[u];exact aan)];show wpAny _ _ (if ((items.size:Nat):Int)*k>(2^63-1)/8 then _ else _) _ _ _;rw[if_neg ∅];show wpAny _ _ (if afj (((items.size:Nat):Int)*k)=true then _ else _) _ _ _;rw[if_neg (by unfold afj;rw[decide_eq_true_eq,aap];omega)];exact gT (m:=abU _) (abd (Ld ⟨_,rfl,h⟩) e)
section
variable {X:Cx}
def XY(K:aae):R2:=λx y H Q=>∃a b k,x = .ref a/\y = .int k/\SqT K H a b/\0≤k/\k<2^20/\b.length*k.toNat≤1000000/\
 if (b.isEmpty||k==1)=true then Q (.ref a) H else ∀p,H p=none->Q (.ref p) (upd H p (.tup (aaq k.toNat b).flatten))
theorem LR:OpR X (acp .Mult) (XY X.K):=by
 intro z s O H x y v u Q I G B h;let⟨a,c,k,rfl,rfl,D,E,M,C,q⟩:=h;cases G;let⟨t,rfl⟩:=B;let⟨i,r,⟨o,f,g,hd,n,d⟩,F⟩:=I.tupleP D;let⟨K,p,w,A⟩:=o;dsimp only at g d;subst g d;have m:c.length=i.length:=r.length;have l:i.toArray.isEmpty=c.isEmpty:=by
  cases i with
  |nil=>have:c=[]:=abl (by simpa using m);subst this;rfl
  |cons _ _=>cases c with
   |nil=>simp at m
   |cons _ _=>rfl
 have j:=by
  have:=nq i k.toNat [];omega
 refine afq (T:= "tuple") (U:= "int") ⋯ ⟨_,f,rfl⟩ (λL=>aga L k t) yT PySem.F.fills_int_mul agt MQ PySem.F.slot_int_index.lookup
  (ad8 agt (aga s k t) PySem.F.entry_int_rmul (PySem.F.args_int_rmul_2 _ _) (FY k t a i.toArray n p A)
   ⟨f,rfl,⟨_,f,rfl⟩,ad8 aeo ⟨_,f,rfl⟩ PySem.F.entry_tuple_mul (PySem.F.args_tuple_mul_2 _ _) (O8 a i.toArray n p A k t E M (by rw[aaK,<-m];exact C)) ⟨f,?_⟩⟩)
 rw[l,j]
 by_cases g:(c.isEmpty||k==1)=true
 .rw[if_pos g]at q⊢;exact⟨.ref a,H,I,rfl,q⟩
 .rw[if_neg g]at q⊢;have J:H s.heap.objs.size=none:=I.hok.fresh (aab _);refine⟨.ref s.heap.objs.size,_,I.laid (t':=s.toks) (o:=.tup (aaq k.toNat c).flatten) (λb N e=>Io _ e) (aab _) ⟨?_,_,r.rep k.toNat,PlainT.new _ _⟩,rfl,q _ J⟩;rw[y8,ac8,aap];omega
def yz:WO
 | .imm (.int i),.imm (.int j),_,K=>ahc i j/\K (.imm (.int (i*j)))
 | .imm (.tuple ds),.imm (.int k),_,K=>0≤k/\k<2^20/\ds.length*k.toNat≤1000000/\K (.imm (.tuple (aaq k.toNat ds).flatten))
 | .new ds,.imm (.int k),_,K=>0≤k/\k<2^20/\ds.length*k.toNat≤1000000/\K (.new (aaq k.toNat ds).flatten)
 |_,_,_,_=>False
theorem jQ{K:Kd}{H:Hp}{ds:List aD}{xs:List V}(g:DenAll K H ds xs):∀k:Nat,DenAll K H (aaq k ds).flatten (aaq k xs).flatten
 |0=>by simp[ DenAll]
 |k+1=>by rw[ acx];exact g.append (jQ g k)
theorem bI:OpR X (acp .Mult) (rM X.kx yz):=by
 intro b s l H x y v u Q I w r ⟨C,m,D,B,F,r1,J,K,R,t,z,h,c⟩;unfold yz at h
 split at h
 .rename_i i j;exact Pc b s l H x y v u Q I w r ⟨C,m,D,B,F,.imm (.int i),.imm (.int j),K,R,t,z,h,c⟩
 .rename_i ds k;let⟨k1,k2,A,h⟩:=h;let⟨a,o,rfl,f,g⟩:=bQ (show Den X.kx H (.tuple ds) x from t);have q:=aC (show Den X.kx H (.int k) y from z);subst q;refine LR b s l H _ _ v u Q I w r ⟨a,o,k,rfl,rfl,f,k1,k2,by rw[<-g.length];exact A,?_⟩
  by_cases n:(o.isEmpty||k==1)=true
  .rw[if_pos n];refine c _ _ H h R (og (e8 f ?_)) (Frm.refl _ _);have e:(aaq k.toNat ds).flatten=ds:=by
    rw[agn]at n;rcases n with n|n
    .have hx:o=[]:=List.isEmpty_iff.mp n;have hd:ds=[]:=abl (by rw[g.length,hx];rfl);subst hd;simp
    .simp_all
   rw[e];exact g
  .rw[if_neg n];exact λp d=>c _ _ _ h (R.lay d) (og (e8 (SqT.of ay) ((jQ g k.toNat).mono (bj (.inl d))))) (cu d)
 .rename_i ds k;let⟨k1,k2,A,h⟩:=h;let⟨a,o,rfl,G,E,g⟩:=t;have q:=aC (show Den X.kx H (.int k) y from z);subst q;refine Rh b s l H _ _ v u Q I w r ⟨a,k,o,rfl,rfl,E,∅,∅,by rw[<-g.length,aap];omega,λp d=>?_⟩;exact c _ _ _ h (R.lay d) ⟨p,_,rfl,d,ay,(jQ g k.toNat).mono (bj (.inl d))⟩ (cu d)
 .exact h.elim
def PC{m:MSt}{i j:Int}(a:ahc i j)(h:Kr (.imm (.int (i*j)))):yz (.imm (.int i)) (.imm (.int j)) m Kr:=⟨a,h⟩
def JJ{m:MSt}{k:Int}(b:0≤k)(c:k<2^20)(a:ds.length*k.toNat≤1000000)(h:Kr (.imm (.tuple (aaq k.toNat ds).flatten))):yz (.imm (.tuple ds)) (.imm (.int k)) m Kr:=⟨b,c,a,h⟩
def Jd{m:MSt}{k:Int}(b:0≤k)(c:k<2^20)(a:ds.length*k.toNat≤1000000)(h:Kr (.new (aaq k.toNat ds).flatten)):yz (.new ds) (.imm (.int k)) m Kr:=⟨b,c,a,h⟩
end
section
variable {prog:aaI}{w:World}{A:abb}{E:Ad->GT->Prop}{s:GT}
abbrev colH(h:aa1)(vs:List Ad):aa1:=(h.push (ac0 "list" #[] 0)).update h.objs.size (acG (·++vs.toArray))
abbrev srtH(h:aa1)(vs:List Ad):aa1:=(colH h vs).push (ac0 "list" vs.toArray 0)
def tw(h:aa1)(vs:List Ad):(colH h vs).objs.size=h.objs.size+1:=(aeF ..).trans (size_push' ..)
theorem OY(h:aa1)(vs:List Ad):(srtH h vs).get? (h.objs.size+1)=some (ac0 "list" vs.toArray 0):=by
 have e:(srtH h vs).get? (colH h vs).objs.size=some (ac0 "list" vs.toArray 0):=aai _ rfl;rwa[tw]at e
theorem Og{d:Addr}{o:Obj}{P:PySem.Fin->GT->Prop}(hd:s.heap.get? d=some (ac0 "list" #[] 0))(a:s.heap.get? l=some o)(b:o.cls = .type "tuple"){n:Nat}(c:o.data = .seq vs.toArray n)(hsz:vs.length≤aak)
  (h:P (.done (.ret (.ref d))) {s with heap:=s.heap.update d (acG (·++vs.toArray))}):wpAny (model prog w) A (ae7 (.ref d) (.ref l) (.ref d)) P E s:=by
 have fits:(#[]++vs.toArray:Array Ad).size≤aak+1:=by simp;omega
 refine gT (m:=typeOf (.ref l)) (ac5 (T:= "tuple") ⟨o,a,b⟩ ?_);rw[if_pos (show(adW (abm d) (abm l)||_||ac3 "tuple" == ac3 "tuple")=true from Bool.or_eq_true_iff.mpr (.inr rfl))];refine gT (ahk a c (gT (ahk (xs:=#[]) (n:=0) hd rfl ?_)));rw[if_neg (show ¬_ by simp)];exact gT (afJ (xs:=#[]) (n:=0) hd rfl (Ld h) (abJ _) fits)
theorem uu{Q:List Ad->GT->Prop}(d:s.heap.IsTuple l vs.toArray)
  (h:Q vs {s with heap:=colH s.heap vs}) (hsz:vs.length≤aak):wpAny (model prog w) A (collect (.ref l)) Q E s:=by
 let⟨o,b,c,nn,hd⟩:=id d;have new:(s.heap.push (ac0 "list" #[] 0)).get? s.heap.objs.size=some (ac0 "list" #[] 0):=aai _ rfl;have a:(colH s.heap vs).get? s.heap.objs.size=some _:=get?_update_seq new (·++vs.toArray);have all:((#[]:Array Ad)++vs.toArray).toList=vs:=by simp
 refine gT (m:=runValue _) (wpAny_runValue (adj entry_proto_collect' (gT (m:=ahh []) (afK (Ld ⟨Code.quiet_builtin _ (by ext K),adj entry_list_iadd' ?_⟩)))));refine Og (s:={s with heap:=s.heap.push (ac0 "list" #[] 0)}) new (Io _ b) c hd hsz (gT (m:=load s.heap.objs.size) (wpAny_load a ?_));exact Ld (all.symm▸h)
theorem w6{k:List (Str×Ad)}(a:s.heap.IsTuple l vs.toArray\/s.heap.IsList l vs.toArray)(hsz:vs.length≤aak)
  (h:wpAny (model prog w) A (call (.builtin "list.sort") [.ref (s.heap.objs.size+1)] k) (λ_ s'=>Q (.ref (s.heap.objs.size+1)) s') E {s with heap:=srtH s.heap vs}) :
  wpAny (model prog w) A (ac4.«sorted» ⟨[.ref l],k⟩) (λf s'=>∃v,f = .done (.ret v)/\Q v s') E s:=by
 have c:∀{P:List Ad->GT->Prop},P vs {s with heap:=colH s.heap vs}->wpAny (model prog w) A (collect (.ref l)) P E s:=λp=>a.elim (λt=>uu t p hsz) λt=>collect_list t p hsz;refine gT (m:=checkCount "sorted" 1 1 _) (Ld (gT (c (gT (m:=ahh vs) (afK ?_)))));have e:(ahB {s with heap:=colH s.heap vs}).objs.size=s.heap.objs.size+1:=tw ..;rw[e];exact gT (m:=ad2 _ _) (ab5 (ach h (λ_ s' q=>Ld ⟨_,rfl,q⟩) λ_ _ z=>z))
theorem ol{b:Bool}(d:s.heap.IsTuple l vs.toArray)(c:ae3 vs ns)(a:vs.length<64)
  (h:∀(out:Array Ad) (n:List Int),ae3 out.toList n->n.Perm ns->Ordered b n->Q (.ref (s.heap.objs.size+1)) {s with heap:=sortedAll s.heap vs out}):wpAny (model prog w) A (call (.builtin "sorted") [.ref l] [(abK "reverse",.bool b)]) Q E s:=by
 have at1:=OY s.heap vs;refine call_function_entry_kw kind_sorted plain_sorted entry_sorted (args_sorted_rev _ _) (w6 (A:=A.in1) (.inl d) (by rw[aap];omega) ?_);exact wpAny_call_entry_kw slot_list_sort ⟨_,at1,rfl⟩ entry_list_sort (list_sort_tree_rev at1 c a λout n p q r=>⟨_,rfl,h out n p q r⟩) (args_list_sort_rev _ _)
end
section
variable {X:Cx}{a:Expr}{b:List Expr}{w:WA}{pos p c d:Pos}
def V7(K:aae):List V->Hp->VK->Prop:=λx H Q=>∃(t:Bool) (l:Addr) (ns:List Int),x=[.ref l]/\SqB t K H l (ns.map V.int)/\Q (.int ns.sum) H
theorem k9(ns:List Int):∀n,n≤ns.length->preSum (λi=>ns.getD i 0) n=(ns.take n).sum
 |0,_=>by simp[preSum]
 |n+1,h=>by
  show preSum _ n+ns.getD n 0=_;have e:=by omega
  rw[k9 ns n (by exact abY ‹_›),aaU,lD e,bM (lD e),List.sum_append];simp
theorem ui(B:X.calm=true):dF X (.builtin "sum") (V7 X.K):=by
 intro k s J H F G Q I C ⟨t,l,ns,ex,z,q⟩;subst ex;let⟨u,rfl,y⟩:=C.one;cases y;let⟨f,r,n,_⟩:=I.sqb z;have o:=fe r;have D:f.length=ns.length:=by have:=r.length;grind
 refine call_sum_walkG (xJ n λs2 e m g j=>?_);subst e;refine⟨s.heap.objs.size,[s.heap.objs.size,l],[s.heap.objs.size],f.toArray.size,λi v=>f.toArray[i]?=some v,λi h=>SubI t h s.heap.objs.size l i/\SubS t h l f.toArray,λi=>ns.getD i 0,rfl,tZ (A:=X.A.in1) t (I.ok.hd B) _ l j f.toArray,m,g,uw o,λE x t' hk=>?_⟩;have e:preSum (λi=>ns.getD i 0) f.toArray.size=ns.sum:=by
  rw[aaK,D,k9 ns ns.length (aab _),aav]
 rw[e];exact⟨.int ns.sum,H,I.kept (t':=x) (w9 hk),⟨_,rfl⟩,q⟩
def Qo:WC:=λrs m K=>on1 (λr=>∃ds ns,sqOf m r=some ds/\c8 ds=some ns/\K (.imm (.int ns.sum))) rs
theorem gW(l:X.calm=true):dF X (.builtin "sum") (cM X.kx Qo):=by
 intro e s i H z u Q I n ⟨A,m,B,y,rs,K,R,h,j,k⟩;let⟨r,v,rfl,rfl,t,ds,ns,q,o,j⟩:=fv h j;let⟨a,C,rfl,f,g⟩:=t.seq R q;rw[ic o]at g;have x:=dw g;subst x;have go:=k _ _ H j R (dU _) (Frm.refl _ _);rcases f with f|f
 .exact ui l e s i H _ u Q I n ⟨false,a,ns,rfl,f,go⟩
 .exact ui l e s i H _ u Q I n ⟨true,a,ns,rfl,f,go⟩
def xW{m:MSt}{r:R}(f:sqOf m r=some ds)(e:c8 ds=some ns)(h:Kr (.imm (.int ns.sum))):Qo [r] m Kr:=⟨ds,ns,f,e,h⟩
def z7(X:Cx)(f:Ad)(k:List (Str×Ad))(r:List V->Hp->VK->Prop):Prop:=
 ∀(e:List 'i') (s:GT) (g:St) (H:Hp) (x:List V) (u:List Ad) (Q:VK),Inv X e g H s->Vals x u->r x H Q ->
  wpAny (model X.prog X.w) X.A (call f u k) (EP X e g Q) X.xe s
def Jm:WC:=λrs m K=>on1 (λr=>∃ds ns,sqOf m r=some ds/\c8 ds=some ns/\ns.length<64/\∀n:List Int,n.Perm ns->n.Pairwise (· ≥ ·)->K (.new (n.map .int))) rs
theorem ix{K:Kd}{H:Hp}:∀ns:List Int,DenAll K H (ns.map .int) (ns.map V.int)
 |[]=>by simp[ DenAll]
 |n::ns=>by
  exact⟨.int n,_,rfl,by simp[Den],ix ns⟩
theorem m9:z7 X (.builtin "sorted") [(abK "reverse",.bool true)] (cM X.kx Jm):=by
 intro q s t H N S Q I K ⟨O,m,T,M,rs,P,R,h,x,y⟩;let⟨r,v,rfl,rfl,E,ds,ns,B,A,G,x⟩:=fv h x;let⟨l,U,rfl,f,g⟩:=E.seq R B;rw[ic A]at g;have L:=dw g;subst L;let⟨u,rfl,D⟩:=K.one;cases D;have go:∀(i:List Ad),Vals (ns.map V.int) i->∀(out:Array Ad) (n:List Int),ae3 out.toList n->n.Perm ns->Ordered true n->EP X q t Q (.ref (s.heap.objs.size+1)) {s with heap:=sortedAll s.heap i out}:=by
  intro i j out n a1 a2 o;let⟨e,J⟩:=sortedAll_at s.heap i out;have k:H (s.heap.objs.size+1)=none:=I.hok.fresh (afu _);have F:Vals (n.map V.int) out.toList:=mQ a1;have C:(n.map V.int).length≤aak:=by rw[iO,a2.length_eq,aap];omega
  refine⟨.ref (s.heap.objs.size+1),_,I.laid (t':=s.toks) (λ_ _=>sortedAll_old) (afu _) (show ObjOk X.prog X.w _ _ _ (.lst (n.map V.int))from⟨C,out.toList,e,F,by rw[J]⟩),rfl,?_⟩;exact y _ _ _ (x n a2 o) (R.lay k) ⟨_,_,rfl,k,ay,ix n⟩ (cu k)
 rcases f with f|f
 .obtain⟨i,j,pl,_⟩:=I.list f;have z:=j.length;rw[iO]at z;exact sorted_ints_rev pl.isList (fe j) ∅ λout n a1 a2 o=>go i j out n a1 a2 o
 .obtain⟨i,j,pl,_⟩:=I.tuple f;have z:=j.length;rw[iO]at z;exact ol pl (fe j) ∅ λout n a1 a2 o=>go i j out n a1 a2 o
def CB{m:MSt}{r:R}(g:sqOf m r=some ds)(e:c8 ds=some ns)(f:ns.length<64)(h:∀n:List Int,n.Perm ns->n.Pairwise (· ≥ ·)->Kr (.new (n.map .int))):Jm [r] m Kr:=⟨ds,ns,g,e,f,h⟩
theorem Bg{id:String}{x k:Str}{o:WC}(u:z7 X (.builtin id) [(k,.bool true)] (cM X.kx o))(q:Gl X x)(m:X.mg x=none)(B:aa0 x=some (.builtin id))(t:MA X (a::b) w)(z:x ≠ "__name__":=by decide)(g:(x=='g')=false:=by decide)
  (v:aac (a::b) X.env=(false,eval a X.env)::aac b X.env:=by first|exact aH rfl|rfl) (f:(abq pos (aac (a::b) X.env)).any (·.1)=false:=by rfl):ME X (.Call (.Name x p) (a::b) [⟨some k,.Constant (.bool true) j c,d⟩] pos) (wCB o w):=by
 intro e s i H Q I h;have l:=Ku h;refine acF (j7 I q m B ?_ z g);refine callWith_kw (thn (t pos e s i H _ I l) λy s1 ⟨vs,A,n,r1,r⟩=>?_) (by rw[v];rfl) f rfl rfl;refine kws_cons (Constant_bool (kws_nil ?_));exact u e s1 i A vs y Q n r1 r
end
section
variable {X:Cx}{a:Expr}{e:List Expr}{w:WA}{pos p b c:Pos}
theorem pc{id:String}{x k:Str}{o:WC}(n:z7 X (.builtin id) [(k,.bool true)] (cM X.kx o))(g:Gl X x)(l:X.mg x=none)(q:aa0 x=some (.builtin id))(m:EA X (a::e) w)(i:x ≠ "__name__":=by decide)(d:(x=='g')=false:=by decide)
  (f:aac (a::e) X.env=(false,eval a X.env)::aac e X.env:=by first|exact aH rfl|rfl) (h:(abq pos (aac (a::e) X.env)).any (·.1)=false:=by rfl):EE X (.Call (.Name x p) (a::e) [⟨some k,.Constant (.bool true) j b,c⟩] pos) (wCB o w):=⟨Bg n g l q m.h i d f h⟩
def my:aa0 "sorted" = some (.builtin "sorted"):=by rfl
end
end L2
namespace HT
open PySem PySem.Spec PyProof.Rows
section
variable {prog:aaI}{w:World}{A:abb}{E:Ad->GT->Prop}{s:GT}
theorem rev_items(xs:Array Ad):((aaz xs.size).filterMap λ(m:Nat)=>xs[((xs.size:Int)-1+(m:Int) * -1).toNat]?)=xs.toList.reverse:=by
 apply ab9;intro i;have d:∀k,k≤xs.size->((aaz k).filterMap λ(m:Nat)=>xs[((xs.size:Int)-1+(m:Int) * -1).toNat]?)=(aaz k).map λm=>xs.getD (xs.size-1-m) .none:=by
  intro k
  induction k with
  |zero=>intro _;rfl
  | succ k c=>
   intro hk;rw[act,List.filterMap_append,aaM,c ∅];have e:((xs.size:Int)-1+(k:Int) * -1).toNat=xs.size-1-k:=by omega
   have h:xs.size-1-k<xs.size:=by omega
   have b:(List.filterMap (λ(m:Nat)=>xs[((xs.size:Int)-1+(m:Int) * -1).toNat]?) [k])=[xs.getD (xs.size-1-k) .none]:=by
    rw[adI,e,abP h];simp[h]
   rw[b];rfl
 rw[d xs.size (aab _)]
 by_cases a:i<xs.size
 .rw[aaj,ace a,List.getElem?_reverse (by simpa using a)];have h:xs.size-1-i<xs.size:=by omega
  simp[h]
 .rw[agu (by simp;omega),agu (by simp;omega)]
end
end HT
namespace L2
open PySem PySem.Spec PyProof.Rows
variable{i:Int}{j:Nat}{p3 p4:Pos}{a:Addr}{α:Al}{m2:MSt}{σ:St}{H:Hp}{ρ:List Nat}{ds ts:List aD}{kvs:List (aD×aD)}{K:Kd}{xs:List (aD×Addr×Ad)}{es:List (Key×V)}{Q:Ad->GT->Prop}
section
variable {X:Cx}{a b e st:Expr}{c w:WE}{pos p:Pos}
theorem xj:∀{xs:List V}{us:List Ad},Vals xs us->Vals xs.reverse us.reverse
 |_,_,.nil=>.nil
 |_,_,.cons r rs=>by
  rw[adv];rw[adv];exact(xj rs).append (.cons r .nil)
theorem zj{K:Kd}{H:Hp}:∀{ds:List aD}{xs:List V},DenAll K H ds xs->DenAll K H ds.reverse xs.reverse
 |[],xs,h=>by
  have:xs=[]:=by simpa only[DenAll]using h
  subst this;simp only[List.reverse_nil,DenAll]
 |d::ds,xs,h=>by
  simp only[DenAll]at h;let⟨v,vs,rfl,f,g⟩:=h;rw[adv];rw[adv];exact(zj g).append (by simp only[DenAll];exact⟨v,[],rfl,f,rfl⟩)
end
section
variable {X:Cx}{a b e st:Expr}{d c:WE}{pos l:Pos}
theorem IR(xs:Array Ad):ahq xs none none (some (-1))=xs.toList.reverse.toArray:=by
 unfold ahq
 congr 1
 rw[<-HT.rev_items xs];show(sliceRange ((xs.size:Int)-1) (-1) (-1)).filterMap _=_;unfold sliceRange;rw[if_neg ⋯];have e:(if ((xs.size:Int)-1) > -1 then(((xs.size:Int)-1) - -1 - -1-1)/(- -1)else 0).toNat=xs.size:=by
  by_cases h:((xs.size:Int)-1) > -1
  .rw[if_pos h,show(- -1:Int)=1 from rfl,Int.ediv_one];omega
  .rw[if_neg h];omega
 simp only[e,ag3]
 congr 1
 funext m
 show xs[((xs.size:Int)-1 + -1*(m:Int)).toNat]?=_;rw[Int.mul_comm]
def X9(K:aae)(t ts:TE):TE:=λσ H Q=>t σ H λx g=>ts σ g λy f=>∃p xs,x = .ref p/\y = .int (-1)/\SqL K f p xs/\∀q,f q=none->Q (.ref q) (upd f q (.lst xs.reverse))
theorem PJ{z ts:TE}(R:PE X e z)(m:PE X (.UnaryOp .USub (.Constant (.int i) j p3) p4) ts):PE X (.Subscript e (.Slice none none (some (.UnaryOp .USub (.Constant (.int i) j p3) p4)) l) pos) (X9 X.K z ts):=by
 intro f s σ H Q I h;refine ag4 (thn (R f s σ H _ I h) λv s1 ⟨x,S,F,r1,M⟩=>?_);refine wpAny_Slice ?_;rw[evalPart_none];refine Ld (a:=_) (Ld ?_);rw[evalPart_some];refine thn (m f s1 σ S _ F M) λvs g ⟨y,D,O,N,G⟩=>?_;let⟨p,xs,rfl,rfl,L,q⟩:=G;cases r1;let⟨t,rfl⟩:=N;have n:Inv X f σ D {g with heap:=g.heap.push {cls:=.type "slice",data:=.fields #[.none,.none,.int (-1) t]} }:=O.kept (t':=g.toks) λb T q=>Io _ q;let⟨k,u,B,P⟩:=n.list L;have C:=u.length;have r:D {g with heap:=g.heap.push {cls:=.type "slice",data:=.fields #[.none,.none,.int (-1) t]} }.heap.objs.size=none:=n.hok.fresh (aab _);have J:=afF (prog:=X.prog) (w:=X.w) (A:=X.A) (E:=X.xe) (Q:=EP X f σ Q) (s:={g with heap:=g.heap.push {cls:=.type "slice",data:=.fields #[.none,.none,.int (-1) t]} }) (sl:=g.heap.objs.size) B.isList ⟨_,aai _ rfl,rfl,rfl⟩ .none .none (.int (-1) t) ⋯ (by
  rw[IR];exact⟨.ref _,_,n.laid (t':=g.toks) (o:=.lst xs.reverse) (λ_ _=>Io _) (aab _) ⟨by rw[agP];exact P,k.reverse,0,xj u,aai _ rfl⟩,rfl,q _ r⟩) (by rw[aaK];omega)
 show wpAny (model X.prog X.w) X.A (agY e (.Slice none none (some (.UnaryOp .USub (.Constant (.int i) j p3) p4)) l) (.ref p) (.ref g.heap.objs.size)) (EP X f σ Q) X.xe {g with heap:=g.heap.push {cls:=.type "slice",data:=.fields #[.none,.none,.int (-1) t]} };exact tail_any (ops:=[.ref p,.ref g.heap.objs.size]) B.isList.typeIs afw.lookup J 'f'
abbrev Sw(d c:WE):WE:=λm K=>d m λr m1=>c m1 λf m2=>∃ds,lsOf m2 r=some ds/\f = .imm (.int (-1))/\K (.new ds.reverse) m2
theorem Ox(A:ME X e d)(o:ME X (.UnaryOp .USub (.Constant (.int i) j p3) p4) c):ME X (.Subscript e (.Slice none none (some (.UnaryOp .USub (.Constant (.int i) j p3) p4)) l) pos) (Sw d c):=(PJ A o).wk<|by
 intro σ H Q ⟨α,m,C,u,B,s⟩;refine⟨α,m,_,u,B,λr m1 v E k n1 h rr w=>⟨α,m1,_,h,k,λD m2 y t k2 n2 R p F=>?_⟩⟩;let⟨ds,z,rfl,k2⟩:=k2;let⟨a,xs,rfl,f,g⟩:=(rr.keep u h F).list R z;have x:=aC (show Den X.kx t (.int (-1)) y from p);subst x;refine⟨a,xs,rfl,rfl,f,λq n=>?_⟩;exact s _ m2 _ _ k2 (n2.trans n1) (R.lay n) ((show RelR X.kx.toKd α t _ (.new ds.reverse) (.ref q)from⟨q,_,rfl,n,ay,(zj g).mono (bj (.inl n))⟩).base R (w.trans F)) ((w.trans F).trans (cu n))
def Gw(f:EE X e d)(h:EE X (.UnaryOp .USub (.Constant (.int i) j p3) p4) c):EE X (.Subscript e (.Slice none none (some (.UnaryOp .USub (.Constant (.int i) j p3) p4)) l) pos) (Sw d c):=⟨Ox f.h h.h⟩
end
def isFz:HO->Bool
 | .lst _=>true
 | .dK _=>true
 | .ext _=>true
 |_=>false
section
variable {X:Cx}{p:List 'i'}{d:St}{H:Hp}{s:GT}
theorem Inv.freezeU{u:HO}(I:Inv X p d H s)(h:H a=some u)(g:isFz u=true):∃o,Inv X p d (upd H a (.frz o u)) s:=by
 have ok:=I.hok a u h;let⟨o,e⟩:∃o,s.heap.get? a=some o:=by
  cases u with
  |lst xs=>let⟨_,m,n,_,e⟩:=ok;exact⟨_,e⟩
  |dK kvs=>let⟨_,_,vs,_,o,_,_,e,_⟩:=ok;exact⟨_,e⟩
  |ext r=>exact ok.2.1
  |_=>cases g
 have k:∀{b:Addr}{v:HO},H b=some v->v≠u->b≠a:=λq z=>uC q h z;refine⟨o,I.un (h':=s.heap) (t':=s.toks) ⟨λb f q _ _ _=>q,λb f q _ _ _=>⟨f.slots,q⟩,λb f q z _=>?_,λb f q _=>⟨f,q⟩,λb y q=>?_,λb f v q=>?_,λb t q=>⟨#[],?_⟩⟩ λb f q=>?_⟩
 .rw[av (abH (bi h z))];exact z
 .rw[av (k q (by intro z;subst z;cases g))];exact q
 .rw[av (k q (by intro z;subst z;cases g))];exact q
 .rw[av (k q (by intro z;subst z;cases g)),q];simp
 .have stay:∀{c:Addr}{v:HO},ObjOk X.prog X.w H s.heap c v->ObjOk X.prog X.w (upd H a (.frz o u)) s.heap c v:=λx=>x.stay (λ_ _ _ z=>z) (λc z=>by rw[av (k z (by intro z;subst z;cases g))];exact z) λc y z=>by rw[av (k z (by intro z;subst z;cases g))];exact z
  by_cases l:b=a
  .subst l;rw[ay]at q;cases q;exact⟨e,stay ok⟩
  .rw[av l]at q;exact stay (I.hok b f q)
end
def tFrz(t:TS):TS:=λD σ H=>∃a u,H a=some u/\isFz u=true/\∀o,t D σ (upd H a (.frz o u))
section
variable {X:Cx}{st:Stmt}{w:WS}
theorem Uu{t:TS}(h:PS X st t):PS X st (tFrz t):=by
 intro p s σ H D I ⟨a,u,e,b,q⟩;let⟨o,c⟩:=I.freezeU e b;exact h p s σ _ D c (q o)
theorem Gh{K:Kx}{m:MSt}(R:Rel K α m σ H)(N:Ren ρ m m2):Rel K (ρ.map λk=>α.getD k (.L 0)) m2 σ H/\Ext m.np α H (ρ.map λk=>α.getD k (.L 0)) H:=by
 have u:=il R.len N.lt;have get:∀(k:Nat) (b:Ao),(ρ.map λk=>α.getD k (.L 0))[k]?=some b->∃j:Nat,ρ[k]?=some j/\α[j]?=some b:=λk b z=>by
  let⟨j,M,S⟩:=Paired.get2 u z;exact⟨j,M,S⟩
 have f:∀(k j:Nat) (b:Ao),ρ[k]?=some j->α[j]?=some b->(ρ.map λk=>α.getD k (.L 0))[k]?=some b:=λk j b C t=>by
  let⟨J,O,D⟩:=Paired.get' u C;rw[t]at D;cases D;exact O
 have n:(ρ.map λk=>α.getD k (.L 0)).take m.np=α.take m.np:=by
  apply ab9;intro l;rw[aaR,aaR]
  by_cases c:l<m.np
  .rw[if_pos c,if_pos c];have:ρ[l]?=some l:=by
    have e:=congrArg (·[l]?) N.pre;simp only[aaR,if_pos c]at e;rw[e,ace c]
   have g:l<α.length:=aau c R.npl;rw[f l l α[l] this (lD g),lD g]
  .rw[if_neg c,if_neg c]
 have ext:Ext m.np α H (ρ.map λk=>α.getD k (.L 0)) H:=⟨n,Frm.refl _ _,λa B=>by
  let⟨k,b,G,F⟩:=ja B;let⟨j,_,E⟩:=get k b G;exact .inl (j5 E F),λa B=>by
  let⟨o,q,_⟩:=R.mem B;exact⟨_,q⟩⟩
 refine⟨⟨dW R.nd N.nd u,?_,λk b ds C t=>?_,?_,λj r z=>?_,?_,by rw[N.np];exact R.ebl,R.ebx.trans (ext.less R.ebl)⟩,ext⟩
 .rw[N.os,iO,iO]
 .obtain⟨j,q,qa⟩:=get k b C;rw[N.os,aaj,q]at t;have P:j<m.os.length:=N.lt j (LD q);have x:m.os.getD j []=ds:=aaA t;refine R.own j b ds qa ?_;rw[<-x,aas,lD P];rfl
 .rw[N.vl];exact R.vlen
 .have h:=N.vs j r z
  cases r with
  |imm d=>exact R.var j (.imm d) h
  |new _=>exact h.elim
  |newT _=>exact h.elim
  |obj k=>
   let⟨s,q,h⟩:=h;let⟨v,y,a,A,e⟩:=R.var j (.obj s) h;exact⟨v,y,a,f k s _ q A,e⟩
  | «at» k p=>
   let⟨s,q,h⟩:=h;let⟨v,y,I,a,A,L,e⟩:=R.var j (.at s p) h;exact⟨v,y,I,a,f k s _ q A,L,e⟩
 .rw[N.np,iO];exact N.npl
structure Fz(k:Nat)(dd:aD)(ρ:List Nat)(m m2:MSt):Prop where
 nd:ρ.Nodup
 lt:∀k∈ρ,k<m.os.length
 out:k∉ρ
 pre:ρ.take m.np=aaz m.np
 npl:m.np≤ρ.length
 npk:m.np≤k
 os:m2.os=ρ.map λk=>m.os.getD k []
 np:m2.np=m.np
 vl:m2.vs.length=m.vs.length
 vs:∀(j:Nat) (r:R),m2.vs[j]?=some (some r)->RenR ρ m.vs[j]? r\/(r = .imm dd/\(m.vs[j]?=some (some (.obj k))\/m.vs[j]?=some (some (.at k []))))
def Fz.ren{k:Nat}{d:aD}{ρ:List Nat}{m m2:MSt}(F:Fz k d ρ m m2):∃b,Ren ρ m b/\b.np=m2.np/\b.os=m2.os/\b.vs.length=m2.vs.length/\∀(j:Nat) (r:R),m2.vs[j]?=some (some r)->b.vs[j]?=some (some r)\/(r = .imm d/\(m.vs[j]?=some (some (.obj k))\/m.vs[j]?=some (some (.at k [])))):=by
 classical
 refine⟨{m2 with vs:=m2.vs.mapIdx λj o=>match o with|some r=>if RenR ρ m.vs[j]? r then some r else none|none=>none},⟨F.nd,F.lt,F.pre,F.npl,F.os,F.np,by rw[<-F.vl];simp,λj r z=>?_⟩,rfl,rfl,'a',λj r z=>?_⟩
 .simp only[agD]at z
  cases q:m2.vs[j]? with
  |none=>rw[q]at z;cases z
  | some o=>
   rw[q]at z
   cases o with
   |none=>cases z
   |some c=>
    simp only[acM,ahi]at z
    split at z
    .cases z;assumption
    .cases z
 .rcases F.vs j r z with h|h
  .left;simp only[agD,z,acM,if_pos h]
  .exact .inr h
theorem vj{m:MSt}{y:de}{D:Ends}{k:Nat}{J:aD}{ao:Ao}{u:HO}(c:Rel X.kx α m σ H)(S:EndsOk X.kx m.np α H y D)(F:Fz k J ρ m m2)(C:α[k]?=some ao)(G:a∈ao.ads)(B:H a=some u)(l:isFz u=true)(mu:Mu u=true)
  (g:∀o,Pers H (upd H a (.frz o u))->Den X.kx (upd H a (.frz o u)) J (.ref a)) (name:∀(j:Nat) (v:V),(m.vs[j]?=some (some (.obj k))\/m.vs[j]?=some (some (.at k [])))->σ[j]?=some (some v)->v = .ref a) (M:w y m2):tFrz (tMS X.kx w) D σ H:=by
 let⟨m3,N,f,d,t,s⟩:=F.ren;let⟨U,q⟩:=Gh c N;refine⟨a,u,B,l,λo=>?_⟩;have E:Pers H (upd H a (.frz o u)):=bj (.inr ⟨u,B,mu⟩);have p:a∈ads α:=j5 C G;have out:a∉ads _:=λz=>by
  let⟨i,x,P,L⟩:=ja z;let⟨j,T,O⟩:=Paired.get2 (il c.len N.lt) P;exact gL c.nd C O (λz=>F.out (z▸LD T)) G L
 have I:Ext m.np α H (ρ.map λk=>α.getD k (.L 0)) (upd H a (.frz o u)):=⟨q.pre,λb Z e n=>by rw[av (λz=>n (by rw[z];exact p))];exact e,q.new,λb A=>by
  by_cases eb:b=a
  .subst eb;exact⟨_,ay⟩
  .rw[av eb];exact q.old b A⟩
 have R:=U.at' E (λb A=>av λz=>out (z▸A)) (c.ebx.trans (I.less c.ebl));refine⟨_,m2,y,⟨R.nd,by rw[R.len,d],λk ao ds Y W=>R.own k ao ds Y (by rw[d];exact W),by rw[R.vlen,t],λj r z=>?_,by rw[<-f];exact R.npl,by rw[<-f];exact R.ebl,R.ebx⟩,M,by rw[F.np];exact S.ext I⟩;rcases s j r z with h|⟨rfl,h⟩
 .exact R.var j r h
 .obtain⟨v,ev⟩:∃v,σ[j]?=some (some v):=by
   rcases h with h|h
   .obtain⟨v,ev,_⟩:=c.var j _ h;exact⟨v,ev⟩
   .obtain⟨v,ev,_⟩:=c.var j _ h;exact⟨v,ev⟩
  refine⟨v,ev,?_⟩;rw[name j v h ev];exact g o E
def wFzL(w:WS):WS:=λD m=>∃(k j:Nat) (ds:List aD) (ρ:List Nat) (m2:MSt),m.vs[j]?=some (some (.obj k))/\m.os[k]?=some ds/\Fz k (.list ds) ρ m m2/\w D m2
theorem Vb(h:MS X st w):MS X st (wFzL w):=(Uu h).wk<|by
 intro D σ H ⟨α,m,r,R,⟨k,q,ds,ρ,m2,ej,l,F,n⟩,d⟩;let⟨v,s,a,e,rfl⟩:=R.var q _ ej;let⟨xs,f,g⟩:=R.own k _ _ e l;refine vj R d F e (aad.mpr rfl) f rfl rfl (λo p=>?_) (λj v b c=>?_) n
 .simp only[Den];exact⟨a,xs,rfl,.inl ⟨o,ay⟩,g.mono p⟩
 .rcases b with b|b
  .obtain⟨v',ev',a',ea',rfl⟩:=R.var j _ b;rw[e]at ea';cases ea';rw[c]at ev';cases ev';rfl
  .obtain⟨v',ev',τ,a',ea',_⟩:=R.var j _ b;rw[e]at ea';cases ea'
def z9(d:aD):iX (lfD d)=some d:=by cases d<;>rfl
theorem fzKK{K:Kd}{H:Hp}{τ:List 'h'}{p:List Nat}:∀{kvs:List (aD×aD)}{i:Nat}{es:List (Key×V)},TAtK K H τ p i (lfKV kvs) es->DenKK K H kvs es
 |[],_,_,h=>by simpa[ TAtK]
 |(k,d)::r,i,es,h=>by
  let⟨e,v,vs,rfl,g,c,b⟩:=h;exact⟨e,v,vs,rfl,g,jc c (z9 d),fzKK b⟩
def Pq(h:ES X st w):ES X st (wFzL w):=⟨Vb h.h⟩
end
def FzVs(k:Nat)(d:aD)(ρ:List Nat):List (Option R)->List (Option R)->Prop
 |o::os,q::qs=>(RenO ρ o q\/(q= ~~~d/\(o=some (.obj k)\/o=some (.at k []))))/\FzVs k d ρ os qs
 |[],[]=>True
 |_,_=>False
theorem FzVs.len{k:Nat}{d:aD}{ρ:List Nat}:∀{os q:List (Option R)},FzVs k d ρ os q->q.length=os.length
 |[],[],_=>rfl
 |_::_,_::_,h=>congrArg (· + 1) (FzVs.len h.2)
 |[],_::_,h=>h.elim
 |_::_,[],h=>h.elim
theorem FzVs.get{k:Nat}{d:aD}{ρ:List Nat}:∀{os b:List (Option R)},FzVs k d ρ os b->∀(j:Nat) (r:R),b[j]?=some (some r)->RenR ρ os[j]? r\/(r = .imm d/\(os[j]?=some (some (.obj k))\/os[j]?=some (some (.at k []))))
 |o::os,q::b,h,0,r,e=>by
  have c:=by simpa using e
  subst c;rcases h.1 with h|_
  .exact .inl h
  .simp_all
 |o::os,q::b,h,j+1,r,e=>by simpa using FzVs.get h.2 j r ‹_›
 |[],[],_,_,_,e=>by simp at e
 |[],_::_,h,_,_,_=>h.elim
 |_::_,[],h,_,_,_=>h.elim
theorem LH{k:Nat}{d:aD}{m:MSt}(nd:decide ρ.Nodup=true)(lt:(ρ.all λk=>Nat.blt k m.os.length)=true)(out:(ρ.all λi=>i != k)=true)(pre:ρ.take m.np=aaz m.np)(npl:Nat.ble m.np ρ.length=true)(npk:Nat.ble m.np k=true)(os:m2.os=ρ.map λk=>m.os.getD k [])(np:m2.np=m.np)(vs:FzVs k d ρ m.vs m2.vs):Fz k d ρ m m2:=
 ⟨of_decide_eq_true nd,λk hk=>Nat.blt_eq.mp (abM.mp lt k hk),λz=>by simpa using abM.mp out k z,pre,aev npl,aev npk,os,np,vs.len,λj r e=>vs.get j r e⟩
def VG{w:WS}{D:de}{m:MSt}(k j:Nat)(ds:List aD)(ρ:List Nat)(m2:MSt)(b:m.vs[j]?=some (some (.obj k)))(e:m.os[k]?=some ds)(F:Fz k (.list ds) ρ m m2)(h:w D m2):wFzL w D m:=⟨k,j,ds,ρ,m2,b,e,F,h⟩
noncomputable instance instDecPyData:DecidableEq aD:=λa b=>Classical.propDecidable (a=b)
mutual
def kh:aD->Nat
 | .int _=>1
 | .str _=>1
 | .tuple ds=>fh ds+1
 |_=>0
def fh:List aD->Nat
 |[]=>0
 |d::ds=>kh d+fh ds
end
def kyD(d:aD):Bool:=(match d with| .tuple _=>true|_=>false)&&(hkD d&&(d.canLay0&&decide (d.depth≤7)))
theorem iu{d:aD}(h:kyD d=true):∃ds,d = .tuple ds/\hkA ds=true/\d.canLay0=true/\d.depth≤7:=by
 unfold kyD at h;rw[aaG,aaG,aaG,decide_eq_true_eq]at h
 cases d with
 |tuple ds=>exact⟨ds,rfl,by simpa[hkD]using h.2.1,h.2.2.1,h.2.2.2⟩
 |_=>simp at h
section
variable {w:World}{prog:aaI}
theorem ud(w:World):∀a b:List aD,iW w (a++b)=iW w a++iW w b
 |[],b=>by simp[iW]
 |d::a,b=>by simp[ iW,ud w a b]
theorem oX:∀a b:List aD,fh (a++b)=fh a+fh b
 |[],b=>by simp[fh]
 |d::a,b=>by simp[ fh,oX a b];omega
theorem uY:∀{ds:List aD}{d:aD},hkA ds=true->d∈ds->hkD d=true
 |x::ds,d,h,a=>by
  simp[hkA]at h;obtain rfl|a:=aag.mp a
  .exact h.1
  .exact uY h.2 a
theorem kb{d:aD}(h:d∈ds):d.depth≤aaD ds:=by
 induction ds with
 |nil=>cases h
 |cons x ds i=>
  show _≤max x.depth _
  grind
mutual
theorem o4:∀(d:aD) {A:abb}{E:Ad->GT->Prop}{s:GT}{v:Ad}{as:List Addr}{Q:Int->GT->Prop},hkD d=true->Reads s.heap v d as->A.units+d.depth<cLine->Q (im w d) {s with toks:=s.toks+kh d}->wpAny (model prog w) A (pyHash v) Q E s
 | .int i,A,E,s,v,as,Q,_,r,_,h=>by
  cases r;exact wpAny_pyHash_int (by simpa only[im,kh]using h)
 | .str x,A,E,s,v,as,Q,_,r,_,h=>by
  cases r;exact wpAny_pyHash_str (by simpa only[im,kh]using h)
 | .tuple ds,A,E,s,v,as,Q,hk,r,hu,h=>by
  cases r with
  | @tuple a o vs n _ _ ho hc hd f=>
   have t:s.TypeIs (.ref a) "tuple":=⟨o,ho,hc⟩;have j:A.units<cLine:=Nat.lt_of_le_of_lt (ack _ _) hu;have u:∀{P:Option Ad->GT->Prop},P (some (.builtin "tuple.__hash__")) s->wpAny (model prog w) A (ahw (.ref a) "__hash__") P E s:=λp=>aeX t afA.lookup p;simp only[im,kh]at h;refine gT (m:=cRoomFor "hash" [.ref a]) (wpAny_cRoomFor_or (.inr j) (gT (m:=ahw _ _) (u ?_)));rw[if_neg (show ¬(some (Ad.builtin "tuple.__hash__")==some af2)=true by rw[beq_builtin_none];decide)];refine gT (m:=ahw _ _) (u (gT (m:=callSpecialIfBoundUnlessNone? (.ref a) "__hash__" _) ?_));refine wpAny_callSpecialIfBoundUnlessNone?_slot t afA (aaZ afA t F.entry_tuple_hash (gT (m:=adz (.ref a)) (wpAny_tupleItemsOf ho hd ?_)) (F.args_tuple_hash_1 _));refine gT ?_;rw[<-ag9];refine aeE _
    (λrest (b:Array Int) q=>∃done left bs,ds=done++left/\adV s.heap rest left bs/\b.toList=iW w done/\q={s with toks:=s.toks+fh done})
    _ ?_ ?_ _ _ ⟨[],ds,_,rfl,f,by simp[iW],by simp[fh]⟩
   .rintro x rest b q ⟨done,left,bs,hds,hl,hb,rfl⟩
    cases hl with
    | @cons _ _ d ds' as1 bs1 r1 r2=>
     have g:d∈ds:=by rw[hds];simp
     refine gT (xr ds d g (uY (by simpa only[hkD]using hk) g) (s:={s with toks:=s.toks+fh done}) r1 ?_ ?_)
     .have:=kb g;have e:(abp ds).depth=aaD ds+1:=rfl;show A.units+1+d.depth<cLine;omega
     .have fin:∃c l k,ds=c++l/\adV s.heap rest l k/\(b.push (im w d)).toList=iW w c/\({s with toks:=s.toks+fh done+kh d}:GT)={s with toks:=s.toks+fh c }:=by
       refine⟨done++[d],ds',_,by rw[hds];simp,r2,?_,?_⟩
       .rw[aep,hb,ud];simp[iW]
       .rw[oX,adX];simp[fh]
      first
       |exact Ld fin
       |exact gT (Ld (Ld fin))
   .rintro b q ⟨done,left,bs,hds,hl,hb,rfl⟩;cases hl;rw[aa5]at hds;subst hds;change wpAny _ _ (retInt (abN (b.toList:List Int))) _ _ _;rw[hb];refine wpAny_ret_mkInt ?_;show wpAny _ _ (if (decide (-(2:Int)^63≤abN (iW w ds))&&decide (abN (iW w ds)<2^63))=true then _ else _) Q E _;unfold reduceHash at h
    by_cases f:(decide (-(2:Int)^63≤abN (iW w ds))&&decide (abN (iW w ds)<2^63))=true
    .rw[if_pos f];rw[if_pos f]at h;refine Ld ?_;simpa[adX]using h
    .rw[if_neg f];rw[if_neg f]at h;refine gT (m:=rule _) (abI (Ld ?_));simpa[adX]using h
 | .none,_,_,_,_,_,_,hk,_,_,_=>by simp only[hkD]at hk;cases hk
 | .bool _,_,_,_,_,_,_,hk,_,_,_=>by simp only[hkD]at hk;cases hk
 | .list _,_,_,_,_,_,_,hk,_,_,_=>by simp only[hkD]at hk;cases hk
 | .dict _,_,_,_,_,_,_,hk,_,_,_=>by simp only[hkD]at hk;cases hk
theorem xr:∀(ds:List aD) (d:aD),d∈ds->∀{A:abb}{E:Ad->GT->Prop}{s:GT}{v:Ad}{as:List Addr}{Q:Int->GT->Prop},hkD d=true->Reads s.heap v d as->A.units+d.depth<cLine->Q (im w d) {s with toks:=s.toks+kh d}->wpAny (model prog w) A (pyHash v) Q E s
 |x::ds,d,hm=>by
  intro hk r b h;rcases aag.mp hm with e|a
  .rw[e]at hk r b h;exact o4 x hk r b h
  .exact xr ds d a hk r b h
end
mutual
theorem s9:∀(a b:aD),hkD a=true->hkD b=true->aaa a b=decide (a=b)
 | .int i,b,_,hb=>by
  cases b with
  |int j=>
   show decide (i=j)=_
   by_cases h:i=j
   .subst h;rw[decide_eq_true rfl,decide_eq_true rfl]
   .rw[decide_eq_false h,decide_eq_false (λz=>h (by cases z;rfl))]
  |str _=>rw[decide_eq_false (λz=>by cases z)];rfl
  |tuple _=>rw[decide_eq_false (λz=>by cases z)];rfl
  |none=>simp only[hkD]at hb;cases hb
  |bool _=>simp only[hkD]at hb;cases hb
  |list _=>simp only[hkD]at hb;cases hb
  |dict _=>simp only[hkD]at hb;cases hb
 | .str i,b,_,hb=>by
  cases b with
  |str j=>
   show decide (i=j)=_
   by_cases h:i=j
   .subst h;rw[decide_eq_true rfl,decide_eq_true rfl]
   .rw[decide_eq_false h,decide_eq_false (λz=>h (by cases z;rfl))]
  |int _=>rw[decide_eq_false (λz=>by cases z)];rfl
  |tuple _=>rw[decide_eq_false (λz=>by cases z)];rfl
  |none=>simp only[hkD]at hb;cases hb
  |bool _=>simp only[hkD]at hb;cases hb
  |list _=>simp only[hkD]at hb;cases hb
  |dict _=>simp only[hkD]at hb;cases hb
 | .tuple ds,b,ha,hb=>by
  cases b with
  |tuple e=>
   simp only[aaa];rw[AA ds e (by simpa only[hkD]using ha) (by simpa only[hkD]using hb)]
   by_cases h:ds=e
   .subst h;rw[decide_eq_true rfl,decide_eq_true rfl]
   .rw[decide_eq_false h,decide_eq_false (λz=>h (by cases z;rfl))]
  |int _=>rw[decide_eq_false (λz=>by cases z)];rfl
  |str _=>rw[decide_eq_false (λz=>by cases z)];rfl
  |none=>simp only[hkD]at hb;cases hb
  |bool _=>simp only[hkD]at hb;cases hb
  |list _=>simp only[hkD]at hb;cases hb
  |dict _=>simp only[hkD]at hb;cases hb
 | .none,_,ha,_=>by simp only[hkD]at ha;cases ha
 | .bool _,_,ha,_=>by simp only[hkD]at ha;cases ha
 | .list _,_,ha,_=>by simp only[hkD]at ha;cases ha
 | .dict _,_,ha,_=>by simp only[hkD]at ha;cases ha
theorem AA:∀(a b:List aD),hkA a=true->hkA b=true->afL a b=decide (a=b)
 |[],[],_,_=>by rw[decide_eq_true rfl];rfl
 |[],_::_,_,_=>by rw[decide_eq_false (λz=>by cases z)];rfl
 |_::_,[],_,_=>by rw[decide_eq_false (λz=>by cases z)];rfl
 | x::a,y::b,ha,hb=>by
  simp only[hkA,aaG]at ha hb;simp only[afL];rw[s9 x y ha.1 hb.1,AA a b ha.2 hb.2]
  by_cases h:x=y
  .by_cases h2:a=b
   .subst h h2;rw[decide_eq_true rfl,decide_eq_true rfl,decide_eq_true rfl];rfl
   .rw[decide_eq_false h2,Bool.and_false,decide_eq_false (λz=>h2 (by cases z;rfl))]
  .rw[decide_eq_false h,Bool.false_and,decide_eq_false (λz=>h (by cases z;rfl))]
end
mutual
theorem Reads.hkeep{h h':aa1}{d:Addr}{o:Obj}{g:Array ab1}{f:Nat}(c:h.get? d=some o)(hd:o.data = .dict g f)(e:abk d h h'):∀(k:aD) {v:Ad}{as:List Addr},hkD k=true->Reads h v k as->Reads h' v k as
 | .int _,_,_,_,r=>by cases r;exact .int _ _
 | .str _,_,_,_,r=>by cases r;exact .str _ _
 | .tuple ds,_,_,hk,r=>by
  cases r with
  | @tuple a o' vs n _ _ h1 h2 h3 h4=>
   have b:a≠d:=by
    rintro rfl;rw[c]at h1;cases h1;rw[hd]at h3;cases h3
   exact .tuple ((e.2 a b).trans h1) h2 h3 (ReadsAll.hkeep c hd e ds (by simpa only[hkD]using hk) h4)
 | .none,_,_,hk,_=>by simp only[hkD]at hk;cases hk
 | .bool _,_,_,hk,_=>by simp only[hkD]at hk;cases hk
 | .list _,_,_,hk,_=>by simp only[hkD]at hk;cases hk
 | .dict _,_,_,hk,_=>by simp only[hkD]at hk;cases hk
theorem ReadsAll.hkeep{h h':aa1}{d:Addr}{o:Obj}{f:Array ab1}{e:Nat}(a:h.get? d=some o)(hd:o.data = .dict f e)(b:abk d h h'):∀(ks:List aD) {vs:List Ad}{as:List Addr},hkA ks=true->adV h vs ks as->adV h' vs ks as
 |[],_,_,_,r=>by cases r;exact .nil
 |k::ks,_,_,hk,r=>by
  simp only[hkA,aaG]at hk
  cases r with
  |cons r1 c=>exact .cons (Reads.hkeep a hd b k hk.1 r1) (ReadsAll.hkeep a hd b ks hk.2 c)
end
mutual
theorem mq:∀(d:aD) {A:abb}{E:Ad->GT->Prop}{s:GT}{v:Ad}{as:List Addr}{n:Nat}{Q:Bool->GT->Prop},hkD d=true->Reads s.heap v d as->d.depth≤n->Q true s->wpAny (model prog w) A (eqIsQuiet n v) Q E s
 | .int _,_,_,_,_,_,_,_,_,r,_,h=>by cases r;rw[eqIsQuiet_byValue _ rfl];exact Ld h
 | .str _,_,_,_,_,_,_,_,_,r,_,h=>by cases r;rw[eqIsQuiet_byValue _ rfl];exact Ld h
 | .tuple ds,A,E,s,v,as,n,Q,hk,r,hn,h=>by
  cases r with
  | @tuple a o vs nn _ _ ho hc hd hr=>
   have f:s.TypeIs (.ref a) "tuple":=⟨o,ho,hc⟩;have e:(abp ds).depth=aaD ds+1:=rfl
   cases n with
   |zero=>omega
   | succ n=>
    unfold eqIsQuiet;refine gT (m:=ahw _ _) (aeX f F.slot_tuple_eq.lookup (gT (m:=isInstance (.ref a) (.type "tuple")) (acD f isSubtype_tuple_tuple ?_)));simp only[if_false,ac9,Bool.not_true];refine gT (m:=seqItems? (.ref a)) (acI ho hd ?_);refine gT ?_;show wpAny _ _ (forIn vs _ _) _ _ s;rw[<-ag9];refine aeE _ (λrest r c=>r.1=none/\c=s/\∃left bs,(∀d∈left,d∈ds)/\adV s.heap rest left bs) _ ?_ ?_ _ _ ⟨rfl,rfl,ds,_,λ_ h=>h,hr⟩
    .rintro x rest r c ⟨hr',rfl,left,bs,hsub,hl⟩
     cases hl with
     | @cons _ _ d ds' as1 bs1 r1 r2=>
      have b:d∈ds:=hsub d aah;refine gT (tQ ds d b (uY (by simpa only[hkD]using hk) b) r1 (by have:=kb b;omega) ?_);simp only[if_false,ac9,Bool.not_true];exact Ld ⟨rfl,rfl,ds',_,λz g=>hsub z (aaf _ g),r2⟩
    .rintro⟨r1,r2⟩ c ⟨hr',rfl,_⟩;simp only at hr';subst hr';exact Ld h
 | .none,_,_,_,_,_,_,_,hk,_,_,_=>by simp only[hkD]at hk;cases hk
 | .bool _,_,_,_,_,_,_,_,hk,_,_,_=>by simp only[hkD]at hk;cases hk
 | .list _,_,_,_,_,_,_,_,hk,_,_,_=>by simp only[hkD]at hk;cases hk
 | .dict _,_,_,_,_,_,_,_,hk,_,_,_=>by simp only[hkD]at hk;cases hk
theorem tQ:∀(ds:List aD) (d:aD),d∈ds->∀{A:abb}{E:Ad->GT->Prop}{s:GT}{v:Ad}{as:List Addr}{n:Nat}{Q:Bool->GT->Prop},hkD d=true->Reads s.heap v d as->d.depth≤n->Q true s->wpAny (model prog w) A (eqIsQuiet n v) Q E s
 |x::ds,d,hm=>by
  intro hk r a h;rcases aag.mp hm with e|b
  .rw[e]at hk r a;exact mq x hk r a h
  .exact tQ ds d b hk r a h
end
theorem ot{d:aD}(h:kyD d=true):hkD d=true:=by
 let⟨ds,rfl,a,_⟩:=iu h;simpa[hkD]
noncomputable def lC (prog:aaI) (w:World):HeapKind prog w aD where
 is:=λh d a=>(∃c,Reads h (.ref a) d c)/\kyD d=true
 hash:=im w
 draws:=kh
 room:=λA=>A.units+20<cLine
 inj:=λ{h a x y} ⟨⟨c,r1⟩,k1⟩ ⟨⟨bs,f⟩,k2⟩=>by
  let⟨ds,rfl,_,n,_⟩:=iu k1;exact SeqAt.Reads.unique _ _ _ _ _ n r1 f
 keeps:=λ⟨⟨c,r⟩,k⟩ g hd j=>⟨⟨c,Reads.hkeep g hd j _ (ot k) r⟩,k⟩
 pyHash:=λ{A E s k a Q} i ⟨⟨c,r⟩,hk⟩ h=>by
  let⟨ds,e,_,_,hd⟩:=iu hk;exact o4 k (ot hk) r ∅ h
 eqBool:=λ{A E s x y a b Q} i ⟨⟨c,r1⟩,k1⟩ ⟨⟨bs,f⟩,k2⟩ h=>by
  let⟨ds,p,_,m,d1⟩:=iu k1;let⟨q,o,_,l,t⟩:=iu k2;refine ahx x y A s _ _ _ _ r1 f m l ∅ prog w E Q ?_;rw[s9 x y (ot k1) (ot k2)];exact h
 quiet:=λ{A E s k a Q} ⟨⟨c,r⟩,hk⟩ h=>by
  let⟨ds,e,_,_,hd⟩:=iu hk;exact mq k (ot hk) r ∅ h
end
def cE(k:aD):List (aD×aD)->Option aD
 |[]=>none
 |(k',d)::r=>if aaa k' k=true then some d else cE k r
def putP(k d:aD):List (aD×aD)->List (aD×aD)
 |[]=>[(k,d)]
 |(k',d')::r=>if aaa k' k=true then(k',d)::r else(k',d')::putP k d r
def kyA(kvs:List (aD×aD)):Bool:=kvs.all λk=>kyD k.1
def kdD:aD->Bool
 | .int _=>true
 | .str _=>true
 |_=>false
def oneK(kvs:List (aD×aD))(k:aD):Bool:=(isKd kvs&&kdD k)||(kyA kvs&&kyD k)
theorem uz{k:aD}(h:kdD k=true):∃kk:Key,k=keyD kk:=by
 cases k with
 |int i=>exact⟨.inl i,rfl⟩
 |str x=>exact⟨.inr x,rfl⟩
 |_=>cases h
def K9(a b:Key):aaa (keyD a) (keyD b)=decide (a=b):=by
 cases a<;>cases b<;>simp[keyD,aaa,aeu]
def IsDc(K:Kd)(H:Hp)(a:Addr)(kvs:List (aD×aD)):Prop:=
 (∃e,Rd H a (.dK e)/\DenKK K H kvs e)\/∃e,Rd H a (dX a e)/\isKd kvs=false/\(kvs.map (·.1)).Nodup/\DenKV K H kvs e
section
variable {K:Kd}{H a:Hp}
theorem fzKV{τ:List 'h'}{p:List Nat}:∀{kvs:List (aD×aD)}{i:Nat}{e:List (Int×V×V)},TAtD K H τ p i (lfKV kvs) e->DenKV K H kvs e
 |[],_,_,h=>by simpa[lfKV]
 |(k,d)::r,i,e,h=>by
  let⟨u,v,vs,rfl,g,c,b⟩:=h;exact⟨u,v,vs,rfl,g,jc c (z9 d),fzKV b⟩
theorem SE{τ:List 'h'}{p:List Nat}:∀{kvs:List (aD×aD)}{i:Nat}{e:List (Int×V×V)},DenKV K H kvs e->TAtD K H τ p i (lfKV kvs) e
 |[],_,_,h=>by simpa only[lfKV]
 |_::r,i,e,h=>by
  let⟨u,v,vs,rfl,g,c,b⟩:=h;exact⟨u,v,vs,rfl,g,m8 c,SE b⟩
def je(kvs:List (aD×aD)):(lfKV kvs).map (·.1)=kvs.map (·.1):=by
 unfold lfKV;rw[aba];rfl
def uG(kvs:List (aD×aD)):isKd (lfKV kvs)=isKd kvs:=by
 unfold isKd lfKV;rw[aeq];rfl
theorem o7(h:isKd kvs=true\/kyA kvs=true):fzOf kvs=none/\excC kvs=none:=by
 cases kvs with
 |nil=>exact⟨rfl,rfl⟩
 | cons x r=>
  let⟨k,d⟩:=x
  cases k with
  |none=>
   rcases h with h|h
   .simp[isKd]at h
   .simp[kyA,kyD]at h
  |int _=>exact⟨rfl,rfl⟩
  |str _=>exact⟨rfl,rfl⟩
  |bool _=>exact⟨rfl,rfl⟩
  |list _=>exact⟨rfl,rfl⟩
  |tuple _=>exact⟨rfl,rfl⟩
  |dict _=>exact⟨rfl,rfl⟩
end
def dcM(m:MSt)(kvs:List (aD×aD)):R->Prop
 | .imm (.dict es)=>es=kvs
 | .at k p=>p=p/\ndT m k p=some (.dict (lfKV kvs))
 |_=>False
theorem RelR.dc{K:Kx}{m:MSt}{y:Hp}{r:R}{v:V}(R:Rel K α m σ H)(h:RelR K α y H r v)(e:dcM m kvs r)(hk:isKd kvs=true\/kyA kvs=true):∃a,v = .ref a/\IsDc K H a kvs:=by
 let⟨n1,n2⟩:=o7 hk
 cases r with
 | imm d=>
  cases d with
  |dict j=>
   have A:j=kvs:=e;subst A;have n:Den K H (.dict j) v:=h;simp only[Den]at n;let⟨a,rfl,n⟩:=n;refine⟨a,rfl,?_⟩;rcases n with⟨x,⟨o,f⟩,l,g⟩|⟨x,o,f,g⟩|⟨c,x,u,_⟩
   .exact .inr ⟨x,.inr ⟨o,f⟩,l.1,l.2.1,g⟩
   .exact .inl ⟨x,.inr ⟨o,f⟩,g⟩
   .rw[n2]at u;cases u
  |none=>exact e.elim
  |bool _=>exact e.elim
  |int _=>exact e.elim
  |str _=>exact e.elim
  |list _=>exact e.elim
  |tuple _=>exact e.elim
 | «at» k p=>
  let⟨D,a,B,_,s,rfl,g⟩:=RelR.node R h e.2;refine⟨a,rfl,?_⟩;have w:=o7 (by
   rcases hk with hk|hk
   .exact .inl (by rw[uG];exact hk)
   .refine .inr ?_;unfold kyA lfKV at *;rw[aeq];exact hk)
  simp only[TAt]at g;rcases g with⟨d,i,_⟩|⟨_,_,b,j,i,z,q,l,g⟩|⟨_,_,b,j,i,z,q,g⟩|⟨c,b,dx,C,x,t,_⟩
  .rw[w.1]at i;cases i
  .rw[s]at i;cases i;exact .inr ⟨j,.inl q,by rw[<-uG];exact l.1,by rw[<-je];exact l.2.1,fzKV g⟩
  .rw[s]at i;cases i;exact .inl ⟨j,.inl q,fzKK g⟩
  .rw[w.2]at t;cases t
 |obj _=>exact e.elim
 |new _=>exact e.elim
 |newT _=>exact e.elim
theorem DenKV.len{K:Kd}{H:Hp}:∀{kvs:List (aD×aD)}{e:List (Int×V×V)},DenKV K H kvs e->kvs.length=e.length
 |[],_,g=>by simp[DenKV]at g;subst g;rfl
 |_::r,_,g=>by
  let⟨u,v,vs,rfl,_,_,g⟩:=g;simp[DenKV.len g]
section
variable {X:Cx}{pins:List 'i'}{σ:St}{H:Hp}{s:GT}
abbrev PxV(K:Kd)(H:Hp):List (aD×aD)->List (aD×Addr×Ad)->Prop:=abQ λp q=>p.1=q.1/\Den K H p.1 (.ref q.2.1)/\∃v,Den K H p.2 v/\RelV v q.2.2
theorem PxV.keys{H:Hp}(p:PxV K H kvs xs):xs.map (·.1)=kvs.map (·.1):=by
 induction p with
 |nil=>rfl
 |cons h t i=>rw[aam,aam,i,h.1]
theorem qZ{k:aD}{u:V}(hk:kyD k=true)(h:Den K H k u):∃b,u = .ref b:=by
 let⟨ds,rfl,_⟩:=iu hk;let⟨a,x,e,_⟩:=h;exact⟨a,e⟩
theorem B9{k:aD}(hk:kyD k=true):k.hasDict=false:=by
 let⟨ds,rfl,_,h,_⟩:=iu hk;exact aa9 _ h
def Inv.ky(I:Inv X pins σ H s){k:aD}{b:Addr}(hk:kyD k=true)(h:Den X.kd H k (.ref b)):(lC X.prog X.w).is s.heap k b:=⟨h.reads I (B9 hk) (rfl),hk⟩
abbrev ExV(w:World):List (Int×V×V)->List (aD×Addr×Ad)->Prop:=abQ λe q=>e.1=im w q.1/\e.2.1 = .ref q.2.1/\RelV e.2.2 q.2.2
theorem Inv.dcE(I:Inv X pins σ H s){f:List (Int×V×V)}(E:Rd H a (dX a f))(g:DenKV X.kd H kvs f)(nd:(kvs.map (·.1)).Nodup)(hk:kyA kvs=true):(a==abB)=false/\f.length≤aak/\∃xs,s.heap.DictOfH (lC X.prog X.w) a xs/\PxV X.kd H kvs xs/\ExV X.w f xs:=by
 let⟨⟨R,J,o,c,D,O,F,L,C⟩,_⟩:=(show ObjOk X.prog X.w H s.heap a (dX a f)from E.ok I.hok);have key:∀{kvs:List (aD×aD)}{f:List (Int×V×V)}{c:List ab1},kyA kvs=true->DenKV X.kd H kvs f->abQ (λ(e:Int×V×V) (d:ab1)=>d.hash=e.1/\RelV e.2.1 d.key/\RelV e.2.2 d.val) f c->∃xs,c=xs.map (entryOfKey (lC X.prog X.w))/\PxV X.kd H kvs xs/\ExV X.w f xs:=by
  intro kvs
  induction kvs with
  |nil=>
   intro f c _ g p;simp only[DenKV]at g;subst g;cases p;exact⟨[],rfl,.nil,.nil⟩
  | cons x r w=>
   intro f c hk g p;let⟨k,d⟩:=x;rw[kyA,ab7,aaG]at hk;simp only[DenKV]at g;let⟨u,v,vs,rfl,A,S,G⟩:=g
   cases p with
   |cons P Q=>
    rename_i M l;let⟨xs,y,j,n⟩:=w hk.2 G Q;let⟨b,rfl⟩:=qZ hk.1 A;let⟨T,N,z⟩:=P;let⟨B,K,m⟩:=M
    cases (show K=abm b from N)
    refine⟨(k,b,m)::xs,?_,.cons ⟨rfl,A,v,S,z⟩ j,.cons ⟨rfl,rfl,z⟩ n⟩;rw[aam,<-y]
    congr 1
    show ab1.mk B (.ref b) m=⟨im X.w k,.ref b,m⟩;rw[show B=im X.w k from T]
 let⟨xs,y,j,n⟩:=key hk g C;refine⟨R,J,xs,⟨o,c,D,O,F,L,y,λx i=>?_,by rw[j.keys];exact nd⟩,j,n⟩;have all:∀{kvs:List (aD×aD)}{xs:List (aD×Addr×Ad)},kyA kvs=true->PxV X.kd H kvs xs->∀x∈xs,(lC X.prog X.w).is s.heap x.1 x.2.1:=by
  intro kvs xs hk p
  induction p with
  |nil=>intro x i;cases i
  | @cons q x0 qs xs0 h t w=>
   rw[kyA,ab7,aaG]at hk;intro x i;obtain rfl|i:=aag.mp i
   .rw[<-h.1];exact I.ky hk.1 h.2.1
   .exact w hk.2 x i
 exact all hk j x i
theorem Inv.dc0(I:Inv X pins σ H s)(r:Rd H a (.dK [])):(a==abB)=false/\s.heap.DictOfH (lC X.prog X.w) a []:=by
 let⟨_,g,vs,k,j⟩:=qB I.hok r;cases k;let⟨o,e,b,h,f,m,d⟩:=j;refine⟨g,o,e,b,h,f,m,?_,⟨(λx l=>absurd l 'a'),abV⟩⟩;have c:e.toList=[]:=by
  let⟨_,i,_⟩:=d;exact abl (by have:=i.length;simpa)
 rw[c];rfl
theorem Sd(g:DenKK K H kvs es)(hk:kyA kvs=true):kvs=[]/\es=[]:=by
 cases kvs with
 |nil=>simp[DenKK]at g;exact⟨rfl,g⟩
 |cons x r=>
  let⟨k,d⟩:=x;let⟨a,v,vs,_,⟨e,_⟩,_⟩:=g;rw[kyA,ab7,aaG]at hk;have h:kyD k=true:=hk.1;rw[e]at h
  cases a<;>cases h
def Inv.dcX(I:Inv X pins σ H s)(h:IsDc X.kd H a kvs)(hk:kyA kvs=true):(a==abB)=false/\∃xs,s.heap.DictOfH (lC X.prog X.w) a xs/\PxV X.kd H kvs xs:=by
 rcases h with⟨e,r,g⟩|⟨e,r,_,nd,g⟩
 .obtain⟨rfl,rfl⟩:=Sd g hk;let⟨b,d⟩:=I.dc0 r;exact⟨b,[],d,.nil⟩
 .obtain⟨b,_,xs,d,p,_⟩:=I.dcE r g nd hk;exact⟨b,xs,d,p⟩
theorem PxV.val{k:aD}(hk:kyA kvs=true)(c:kyD k=true)(p:PxV K H kvs xs) :
  (cE k kvs=none/\atKey xs k=none)\/∃d v q,cE k kvs=some d/\atKey xs k=some q/\Den K H d v/\RelV v q.2:=by
 induction p with
 |nil=>exact(.inl ⟨rfl,rfl⟩)
 | @cons x q xs0 qs h t ih=>
  rw[kyA,ab7,aaG]at hk;let⟨g,d⟩:=x;let⟨i,m,v,l,j⟩:=h;have a:g=q.1:=i;have f:=s9 _ _ (ot hk.1) (ot c);unfold cE
  by_cases e:g=k
  .have b:atKey (q::qs) k=some q.2:=by simp[atKey,List.find?_cons,<-a,e]
   rw[f,decide_eq_true e,if_pos rfl];exact .inr ⟨d,v,q.2,rfl,b,l,j⟩
  .have b:atKey (q::qs) k=atKey qs k:=by simp[atKey,<-a,e]
   rw[f,decide_eq_false e,b];exact ih hk.2
theorem DenKK.val{kk:Key}(g:DenKK K H kvs es) :
  (cE (keyD kk) kvs=none/\valV es kk=none)\/∃d v,cE (keyD kk) kvs=some d/\valV es kk=some v/\Den K H d v:=by
 induction kvs generalizing es with
 |nil=>simp[DenKK]at g;subst g;exact .inl ⟨rfl,rfl⟩
 |cons x r i=>
  let⟨k,d⟩:=x;let⟨b,v,vs,rfl,⟨rfl,_⟩,c,a⟩:=g;unfold cE;rw[K9]
  by_cases e:b=kk
  .rw[decide_eq_true e];exact .inr ⟨d,v,rfl,dm e,c⟩
  .rw[decide_eq_false e,dn e];exact i a
def DGet.kr{H:Hp}{kvs:List (Key×V)}{k:Key}(e:Rd H a (.dK kvs)):DGet H a (kV k) (valV kvs k):=.inl ⟨kvs,k,e,rfl,rfl⟩
theorem jD{k:aD}(h:oneK kvs k=true):(isKd kvs=true/\kdD k=true)\/(kyA kvs=true/\kyD k=true):=by
 unfold oneK at h
 simp_all
def Inv.dcT(I:Inv X pins σ H s)(h:IsDc X.kd H a kvs):s.TypeIs (.ref a) "dict"/\∀b,abm a = .ref b->∃c,s.heap.get? b=some c/\c.dict=none:=by
 rcases h with⟨d,r,g⟩|⟨d,r,_,nd,g⟩
 .obtain⟨_,hs,vs,kv,o,_,_,h1,h2,_⟩:=qB I.hok r;exact⟨⟨o,h1,h2.1⟩,λb e=>by cases e;exact⟨o,h1,h2.2.1⟩⟩
 .obtain⟨⟨hs,hz,o,ents,ep,h1,h2,h3,h4⟩,_⟩:=(r.ok I.hok);exact⟨⟨o,h1,h2.1⟩,λb e=>by cases e;exact⟨o,h1,h2.2.1⟩⟩
theorem ut{kk:Key}{y:V}(h:Den K H (keyD kk) y):y=kV kk:=by
 cases kk with
 |inl i=>exact aC h
 |inr x=>exact bo h
section
variable {a:Addr}{kvs:List (aD×aD)}{k:aD}{y z:V}{u c:Ad}{A:abb}{E:Ad->GT->Prop}
theorem NW(G:A.units+64<cLine)(I:Inv X pins σ H s)(h:IsDc X.kd H a kvs)(ok:oneK kvs k=true)(hk:Den X.kd H k y)(t:RelV y u)(B:RelV z c)
  (f:∀v w s',Inv X pins σ H s'->RelV v w->((∃d,cE k kvs=some d/\Den X.kd H d v)\/(cE k kvs=none/\v=z))->Q w s'):wpAny (model X.prog X.w) A (call (.builtin "dict.get") [.ref a,u,c]) Q E s:=by
 have x:=(I.dcT h).1;rcases jD ok with⟨l,o⟩|⟨l,o⟩
 .obtain⟨kk,rfl⟩:=uz o;have F:=ut hk;subst F;rcases h with⟨C,n,g⟩|⟨C,n,kd,nd,g⟩
  .obtain⟨z0,hd,vs,rel,dd⟩:=qB I.hok n;refine ahl aew x age (afV _ _ _) (meets_dict_get_default (cg X.prog X.w) a (vc t) hd c) ⟨_,dd.mapOf,?_⟩;have r:=rel.val kk;rcases g.val (kk:=kk)with⟨i,e⟩|⟨d,v,i,e,m⟩
   .rw[e]at r;have j:ae4 vs kk=none:=RelO.none_of r;show Q ((ae4 vs kk).getD c) _;rw[j];exact f z c _ (I.tok _) B (.inr ⟨i,rfl⟩)
   .rw[e]at r;let⟨w,j,D⟩:=RelO.some_of r;show Q ((ae4 vs kk).getD c) _;rw[j];exact f v w _ (I.tok _) D (.inl ⟨d,i,m⟩)
  .rw[l]at kd;cases kd
 .obtain⟨hs,xs,dd,p⟩:=I.dcX h l;let⟨b,rfl⟩:=qZ o hk
  cases (show u=abm b from t)
  refine ahl aew x age (afV _ _ _) (meetsH_dict_get_default (lC X.prog X.w) a b hs c) ⟨(by show A.units+1+20<cLine;omega),k,xs,I.ky o hk,dd,?_⟩;rcases p.val l o with⟨i,e⟩|⟨d,v,q,i,e,m,j⟩
  .rw[e];exact f z c _ (I.tok _) B (.inr ⟨i,rfl⟩)
  .rw[e];exact f v q.2 _ (I.tok _) j (.inl ⟨d,i,m⟩)
theorem Yb(D:A.units+64<cLine)(I:Inv X pins σ H s)(h:IsDc X.kd H a kvs)(ok:oneK kvs k=true)(hk:Den X.kd H k y)(m:RelV y u)(n:Bool)
  (f:∀s',Inv X pins σ H s'->Q (.bool (if n=true then !(cE k kvs).isSome else(cE k kvs).isSome)) s'):wpAny (model X.prog X.w) A (aaW (if n=true then .NotIn else .In) u (.ref a)) Q E s:=by
 rcases jD ok with⟨l,o⟩|⟨l,o⟩
 .obtain⟨kk,rfl⟩:=uz o;have B:=ut hk;subst B;rcases h with⟨w,r,g⟩|⟨w,r,kd,nd,g⟩
  .have e:(cE (keyD kk) kvs).isSome=(valV w kk).isSome:=by
    rcases g.val (kk:=kk)with⟨j,i⟩|⟨d,v,j,i,x⟩
    .rw[j,i];rfl
    .rw[j,i];rfl
   cases n with
   |false=>exact d_in ∅ I (DGet.kr r) m λs' t=>by rw[<-e];exact f s' t
   |true=>exact O6 ∅ I (DGet.kr r) m λs' t=>by rw[<-e];exact f s' t
  .rw[l]at kd;cases kd
 .obtain⟨hs,xs,dd,p⟩:=I.dcX h l;let⟨b,rfl⟩:=qZ o hk
  cases (show u=abm b from m)
  have e:(cE k kvs).isSome=(atKey xs k).isSome:=by
   rcases p.val l o with⟨j,i⟩|⟨d,v,q,j,i,x,C⟩
   .rw[j,i];rfl
   .rw[j,i];rfl
  cases n with
  |false=>exact wpAny_in_heap (by show A.units+1+20<cLine;omega) (I.ky o hk) hs dd (by rw[<-e];exact f _ (I.tok _))
  |true=>exact PyProof.Rows.wpAny_notIn_heap (knd:=lC X.prog X.w) (by show A.units+1+20<cLine;omega) (I.ky o hk) hs dd (by rw[<-e];exact f _ (I.tok _))
theorem yu{d:aD}(G:A.units+64<cLine)(I:Inv X pins σ H s)(h:IsDc X.kd H a kvs)(ok:oneK kvs k=true)(hk:Den X.kd H k y)(n:RelV y u)(l:cE k kvs=some d)
  (i:∀v w s',Inv X pins σ H s'->RelV v w->Den X.kd H d v->Q w s'):wpAny (model X.prog X.w) A (aeI (.ref a) u) Q E s:=by
 rcases jD ok with⟨j,o⟩|⟨j,o⟩
 .obtain⟨kk,rfl⟩:=uz o;have F:=ut hk;subst F;rcases h with⟨C,t,g⟩|⟨C,t,kd,nd,g⟩
  .rcases g.val (kk:=kk)with⟨e,f⟩|⟨B,v,e,f,m⟩
   .rw[l]at e;cases e
   .rw[l]at e;cases e;exact sV ∅ I (by rw[<-f];exact DGet.kr t) n λw s' x r=>i v w s' x r m
  .rw[j]at kd;cases kd
 .obtain⟨hs,xs,dd,p⟩:=I.dcX h j;let⟨b,rfl⟩:=qZ o hk
  cases (show u=abm b from n)
  rcases p.val j o with⟨e,f⟩|⟨B,v,q,e,f,m,D⟩
  .rw[l]at e;cases e
  .rw[l]at e;cases e;exact wpAny_getItem_heap (knd:=lC X.prog X.w) (by show A.units+1+20<cLine;omega) (I.ky o hk) dd f (i v q.2 _ (I.tok _) D m)
end
end
section
variable {X:Cx}{a:Expr}{w:WE}{pos:Pos}
abbrev Se:WE:=λm K=>K (.newT (.dict [])) m
theorem K7:ME X (.Dict [] [] pos) Se:=pe_dnewK.wk<|by
 intro e H Q ⟨g,m,K,R,d,f⟩;intro p c;refine f _ m _ _ d rfl (R.lay c) ⟨[([],p)],p,rfl,rfl,'a',λb h=>by simp at h;subst h;exact c,⟨⟨_,.ref p,rfl,?_,p,rfl,rfl⟩,λb h=>by simp at h;subst h;exact⟨_,ay,rfl⟩⟩⟩ (cu c);refine .inr (.inr (.inl ⟨rfl,rfl,p,[],rfl,rfl,ay,?_⟩));rfl
def kU:EE X (.Dict [] [] pos) Se:=⟨K7⟩
end
section
variable {K:Kd}{H:Hp}{τ:List 'h'}{p:List Nat}
theorem jC:∀{ds:List aD}{i:Nat}{xs:List V},DenAll K H ds xs->TAtL K H τ p i (ds.map lfD) xs
 |[],_,_,h=>by simpa only[adE,TAtL,DenAll]using h
 |d::ds,i,_,h=>by
  simp only[DenAll]at h;let⟨v,vs,rfl,a,b⟩:=h;simp only[aam,TAtL];exact⟨v,vs,rfl,m8 a,jC b⟩
end
section
variable {K:Kx}{c:Al}{m:MSt}{d:St}{H:Hp}{k:Nat}{p:List Nat}{τ:List 'h'}{a:Addr}{t:aD}{ts ds:List aD}
theorem Rel.listN(R:Rel K c m d H)(h:c[k]?=some (.T τ))(f:τ.lookup p=some a)(l:m.os[k]?=some [t])(j:getT t p=some (.list ts)):∃xs,H a=some (.lst xs)/\TAtL K H τ p 0 ts xs:=by
 let⟨⟨r,v,z,g,_⟩,_⟩:=R.own k (.T τ) _ h l;cases z;let⟨o,b⟩:=g.get j;rw[abi]at b;simp only[TAt]at b;let⟨q,xs,e,_,n,i⟩:=b;rw[f]at e;cases e;exact⟨xs,n,i⟩
theorem Rel.setLs{xs x:List V}{ds':List aD}(R:Rel K c m d H)(i:c[k]?=some (.T τ))(f:τ.lookup p=some a)(s:m.os[k]?=some [t])(y:getT t p=some (.list ts))(ok:okW t p=true)(w:H a=some (.lst xs))(g':DenAll K H ds' x) :
  Rel K c {m with os:=m.os.set k [setT t p (.list (ds'.map lfD))]} d (upd H a (.lst x))/\Frm c H (upd H a (.lst x)):=by
 let⟨⟨A,v,z,g,r,o,j⟩,mu⟩:=R.own k (.T τ) _ i s;cases z;have n:Pers H (upd H a (.lst x)):=bj (.inr ⟨_,w,rfl⟩);have nd:(τ.map (·.2)).Nodup:=((fE c).mp R.nd).1 (.T τ) (LD i);have new:TAt K (upd H a (.lst x)) τ p (.list (ds'.map lfD)) (.ref a):=by
  simp only[TAt];exact⟨a,x,f,rfl,ay,jC (g'.mono n)⟩
 have all:TAt K (upd H a (.lst x)) τ [] (setT t p (.list (ds'.map lfD))) v:=TAt.set nd n g y ok (by rw[abi];exact f) (by rw[abi];exact new) λu h=>by
  rw[abi]at h;simp only[TAt]at h;let⟨B,_,e,q,_⟩:=h;rw[f]at e;cases e;exact q
 exact R.setW i n (ds':=[setT t p (.list (ds'.map lfD))]) (λb l=>av λeb=>l (eb▸bC f)) ⟨⟨_,v,rfl,all,r,o,j⟩,λb l=>by
  by_cases eb:b=a
  .subst eb;exact⟨_,ay,rfl⟩
  .rw[av eb];exact mu b l⟩
end
section
variable {X:Cx}{o e:Expr}{n:WE}{c l:Pos}
def VZ(m:MSt)(k:Nat)(p:List Nat)(P:List aD->(List aD->MSt)->Prop):Prop:=∃t ts ds,m.os[k]?=some [t]/\getT t p=some (.list ts)/\da ts=some ds/\okW t p=true/\P ds λd=>{m with os:=m.os.set k [setT t p (.list (d.map lfD))]}
def qP:WM:=λr rs m K=>onAt (λk p=>on1 (kq λd=>VZ m k p λds f=>ds.length<aak/\K (.imm .none) (f (ds++[d]))) rs) r
theorem yA:MtM X "list.append" (mM X.kx qP):=by
 intro b s f H x M v G Q I E J ⟨P,m,U,L,V,r,rs,S,R,D,i,h,j⟩;let⟨k,p,O,a,rfl,w,u,rfl,h⟩:=x8 D h;let⟨T,N,rfl,rfl,i,h⟩:=fv i h;let⟨d,rfl,hd,t,ts,ds,y,z,B,ok,C,h⟩:=gj i h;let⟨K,q,A⟩:=R.listN w u y z;have g:=jv A B;let⟨R2,F⟩:=R.setLs w u y z ok q (g.append (DenAll.cons hd DenAll.nil));exact nG b s f H _ _ v G Q I E J ⟨a,K,_,rfl,rfl,q,by rw[<-g.length];exact C,j _ _ _ _ h rfl R2 vH F⟩
def xi:WO:=λr1 r m K=>onAt (λk p=>Fy (λi=>∃t ts j a,m.os[k]?=some [t]/\getT t p=some (.list ts)/\ixN ts.length i=some j/\ts[j]?=some a/\K (f7 k p j a)) r) r1
theorem TAtL.get'{K:Kd}{H:Hp}{τ:List 'h'}{p:List Nat}:∀{ts:List aD}{i j:Nat}{xs:List V}{t:aD},TAtL K H τ p i ts xs->ts[j]?=some t->∃v,xs[j]?=some v/\TAt K H τ (p++[i+j]) t v
 |[],_,_,_,_,_,e=>by simp at e
 |t::ts,i,0,_,_,h,e=>by
  simp only[TAtL]at h;let⟨v,vs,rfl,a,_⟩:=h;simp at e;subst e;exact⟨v,rfl,a⟩
 |t::ts,i,j+1,_,_,h,e=>by
  simp only[TAtL]at h;let⟨v,vs,rfl,_,b⟩:=h;let⟨w,d,z⟩:=TAtL.get' b (j:=j) (by simpa using e);exact⟨w,by simpa using d,by rw[show i+(j+1)=i+1+j by omega];exact z⟩
theorem TAtL.len{K:Kd}{H:Hp}{τ:List 'h'}{p:List Nat}:∀{ts:List aD}{i:Nat}{xs:List V},TAtL K H τ p i ts xs->ts.length=xs.length
 |[],_,_,h=>by simp only[TAtL]at h;subst h;rfl
 |t::ts,i,_,h=>by
  simp only[TAtL]at h;let⟨v,vs,rfl,_,a⟩:=h;simp[TAtL.len a]
theorem DH:IxR X (rM X.kx xi):=by
 intro d b r s z H x y v u Q I L D ⟨U,m,Z,S,H1,r1,Y,W,R,K,O,h,A⟩ f;let⟨k,p,T,a,rfl,B,E,rfl,h⟩:=x8 K h;let⟨i,rfl,rfl,t,ts,j,V,J,N,G,F,h⟩:=Jj O h;let⟨P,q,g⟩:=R.listN B E J N;let⟨w,M,C⟩:=g.get' F;rw[acQ]at C;refine Cq d b r s z H _ _ v u Q I L D ⟨a,P,i,w,rfl,rfl,SqL.of q,?_,A _ _ H h R (jS R B C) (Frm.refl _ _)⟩ f;unfold atI;rw[<-g.len,G];exact M
def TM{a b:Expr}{w d:WE}{pos:Pos}(f:ME X a w)(i:ME X b d)(g:ls b:=by intro _ _;rfl):ME X (.Subscript a b pos) (wBin xi w d):=(UR DH f i g).wk λ_ _ _ h=>rQ h
end
def GJ{a:Hp}(old:∀b o,H b=some o->a b=some o):Pers H a:=⟨λb x q=>old b _ q,λb o u q=>old b _ q⟩
section
variable {K:Kd}{H:Hp}{τ τ':List 'h'}{w:List Nat}
mutual
theorem TAt.shift(e:∀q a,τ.lookup q=some a->τ'.lookup (w++q)=some a):∀{t:aD}{p:List Nat}{v:V},TAt K H τ p t v->TAt K H τ' (w++p) t v
 | .none,_,_,h=>by simp only[TAt]at h⊢;exact h
 | .bool _,_,_,h=>by simp only[TAt]at h⊢;exact h
 | .int _,_,_,h=>by simp only[TAt]at h⊢;exact h
 | .str _,_,_,h=>by simp only[TAt]at h⊢;exact h
 | .tuple _,_,_,h=>by simp only[TAt]at h⊢;exact h
 | .list ts,p,_,h=>by
  simp only[TAt]at h⊢;let⟨a,x,b,f,i,g⟩:=h;exact⟨a,x,e _ _ b,f,i,TAtL.shift e g⟩
 | .dict kvs,p,_,h=>by
  simp only[TAt]at h⊢;rcases h with⟨d,b,h⟩|⟨j,z,a,l,b,f,i,k,g⟩|⟨j,z,a,l,b,f,i,g⟩|⟨c,a,dx,C,x,m,b,f,i,k,g⟩
  .exact .inl ⟨d,b,h⟩
  .exact .inr (.inl ⟨j,z,a,l,e _ _ b,f,i,k,TAtD.shift e g⟩)
  .exact .inr (.inr (.inl ⟨j,z,a,l,e _ _ b,f,i,TAtK.shift e g⟩))
  .exact .inr (.inr (.inr ⟨c,a,dx,C,x,m,e _ _ b,f,i,k,TAtF.shift e g⟩))
theorem TAtL.shift(e:∀q a,τ.lookup q=some a->τ'.lookup (w++q)=some a):∀{ts:List aD}{p:List Nat}{i:Nat}{xs:List V},TAtL K H τ p i ts xs->TAtL K H τ' (w++p) i ts xs
 |[],_,_,_,h=>by simpa only[TAtL]using h
 |t::ts,p,i,_,h=>by
  simp only[TAtL]at h⊢;let⟨v,vs,b,c,g⟩:=h;exact⟨v,vs,b,by rw[aaY];exact TAt.shift e c,TAtL.shift e g⟩
theorem TAtD.shift(e:∀q a,τ.lookup q=some a->τ'.lookup (w++q)=some a):∀{ts:List (aD×aD)}{p:List Nat}{i:Nat}{xs:List (Int×V×V)},TAtD K H τ p i ts xs->TAtD K H τ' (w++p) i ts xs
 |[],_,_,_,h=>by simpa only[TAtD]using h
 |(k,t)::ts,p,i,_,h=>by
  simp only[TAtD]at h⊢;let⟨u,v,vs,c,g,d,b⟩:=h;exact⟨u,v,vs,c,g,by rw[aaY];exact TAt.shift e d,TAtD.shift e b⟩
theorem TAtK.shift(e:∀q a,τ.lookup q=some a->τ'.lookup (w++q)=some a):∀{ts:List (aD×aD)}{p:List Nat}{i:Nat}{xs:List (Key×V)},TAtK K H τ p i ts xs->TAtK K H τ' (w++p) i ts xs
 |[],_,_,_,h=>by simpa only[TAtK]using h
 |(k,t)::ts,p,i,_,h=>by
  simp only[TAtK]at h⊢;let⟨u,v,vs,c,g,d,b⟩:=h;exact⟨u,v,vs,c,g,by rw[aaY];exact TAt.shift e d,TAtK.shift e b⟩
theorem TAtF.shift(e:∀q a,τ.lookup q=some a->τ'.lookup (w++q)=some a):∀{ts:List (aD×aD)}{p:List Nat}{i:Nat}{xs:List (Str×V)},TAtF K H τ p i ts xs->TAtF K H τ' (w++p) i ts xs
 |[],_,_,_,h=>by simpa only[TAtF]using h
 |(.str f,t)::ts,p,i,_,h=>by
  simp only[TAtF]at h⊢;let⟨v,vs,b,c,g⟩:=h;exact⟨v,vs,b,by rw[aaY];exact TAt.shift e c,TAtF.shift e g⟩
 |(.none,d)::r,_,_,_,h=>by simp only[TAtF]at h⊢;exact TAtF.shift e h
 |(.bool _,d)::r,_,_,_,h=>by simp only[TAtF]at h
 |(.int _,d)::r,_,_,_,h=>by simp only[TAtF]at h
 |(.list _,d)::r,_,_,_,h=>by simp only[TAtF]at h
 |(.tuple _,d)::r,_,_,_,h=>by simp only[TAtF]at h
 |(.dict _,d)::r,_,_,_,h=>by simp only[TAtF]at h
end
end
def trR:R->Option aD
 | .imm d=>some (lfD d)
 | .new ds=>some (.list (ds.map lfD))
 | .newT t=>some t
 |_=>none
def allA:List (List 'h')->List Addr
 |[]=>[]
 |τ::τs=>τ.map (·.2)++allA τs
theorem QR{c:Hp}{r:R}{v:V}(h:RelR K α c H r v):∃τ:List 'h',(∀t,trR r=some t->TAt K H τ [] t v)/\(τ.map (·.2)).Nodup/\(∀a∈τ.map (·.2),∃o,H a=some o/\Mu o=true)/\∀a∈τ.map (·.2),c a=none:=by
 cases r with
 |imm d=>exact⟨[],λt e=>(by cases e;exact m8 h),abV,λ_ z=>(by simp at z),λ_ z=>(by simp at z)⟩
 |new ds=>
  let⟨a,x,rfl,n,q,g⟩:=h;refine⟨[([],a)],λt e=>?_,'a',λb z=>?_,λb z=>?_⟩
  .cases e;simp only[TAt];exact⟨a,x,rfl,rfl,q,jC g⟩
  .simp at z;subst z;exact⟨_,q,rfl⟩
  .simp at z;subst z;exact n
 |newT t=>
  let⟨τ,a,rfl,i,nd,n,⟨m,k,z,g,l,f,j⟩,mu⟩:=h;cases z;rw[i]at f;cases f;subst j;exact⟨τ,λt e=>(by cases e;exact g),nd,mu,n⟩
 |obj _=>exact⟨[],λt e=>(by cases e),abV,λ_ z=>(by simp at z),λ_ z=>(by simp at z)⟩
 | «at» _ _=>exact⟨[],λt e=>(by cases e),abV,λ_ z=>(by simp at z),λ_ z=>(by simp at z)⟩
def ko(i:Nat):List (List 'h')->List 'h'
 |[]=>[]
 |τ::τs=>τ.map (λq=>(i::q.1,q.2))++ko (i+1) τs
theorem fi:∀(i:Nat) (τs:List (List 'h')),(ko i τs).map (·.2)=allA τs
 |_,[]=>rfl
 |i,τ::τs=>by rw[ko,aaM,fi,aba];rfl
theorem xz{i:Nat}{q:List Nat}:∀τ:List 'h',(τ.map λa=>(i::a.1,a.2)).lookup (i::q)=τ.lookup q
 |[]=>rfl
 |(r,b)::τ=>by
  rw[aam,aa8,aa8,xz τ];have:((i::q)==(i::r))=(q==r):=by simp
  rw[this]
theorem lr{i j:Nat}{q:List Nat}(h:j≠i):∀τ:List 'h',(τ.map λa=>(i::a.1,a.2)).lookup (j::q)=none
 |[]=>rfl
 |(r,b)::τ=>by
  rw[aam,aa8,lr h τ];have:((j::q)==(i::r))=false:=by simp[h]
  rw[this]
theorem wM{β c:Type}[BEq β]{a b:List (β×c)}{k:β}:(a++b).lookup k=(a.lookup k).or (b.lookup k):=by
 induction a with
 |nil=>simp
 |cons x a i=>
  let⟨d,v⟩:=x;rw[adD,aa8,aa8,i]
  split<;>simp
theorem o9:∀{τs:List (List 'h')}{i j:Nat}{τ:List 'h'}{q:List Nat}{a:Addr},τs[j]?=some τ->τ.lookup q=some a->(ko i τs).lookup ((i+j)::q)=some a
 |[],_,_,_,_,_,e,_=>by simp at e
 |τ0::τs,i,0,τ,q,a,e,h=>by
  simp at e;subst e;rw[ko,wM,Nat.add_zero,xz,h];rfl
 |τ0::τs,i,j+1,τ,q,a,e,h=>by
  rw[ko,wM,lr ∅];have:=o9 (i:=i+1) (j:=j) (τs:=τs) (by simpa using e) h;rw[show i+1+j=i+(j+1) by omega]at this;rw[this];rfl
section
variable {X:Cx}{scope sc:Scope}{own fr:List Str}{ps:List Nat}{elt c o:Expr}{ifs:List Expr}{pos np l s p d e:Pos}{tt:WT}{w f:WE}{g:WI}{x y:Str}{i:Nat}
def vB{a b:Expr}{j h:WE}{pos:Pos}(k:EE X a j)(m:EE X b h)(n:ls b:=by intro _ _;rfl):EE X (.Subscript a b pos) (wBin xi j h):=⟨TM k.h m.h n⟩
end
def nw{X:Cx}:MtM X "list.append" (mM X.kx qP):=yA
section
variable {m:MSt}{Q:R->MSt->Prop}{w a:WE}{b:WI}{tt:WT}{own:List Str}{ps:List Nat}
def uc{k:Nat}{p:List Nat}{t d:aD}(i:m.os[k]?=some [t])(f:getT t p=some (.list ts))(g:da ts=some ds)(e:okW t p=true)(c:ds.length<aak)(h:Q (.imm .none) {m with os:=m.os.set k [setT t p (.list ((ds++[d]).map lfD))]}):qP (.at k p) [.imm d] m Q:=⟨t,ts,ds,i,f,g,e,c,h⟩
def uU{k:Nat}{p:List Nat}{t t':aD}{K:R->Prop}(f:m.os[k]?=some [t])(c:getT t p=some (.list ts))(d:ixN ts.length i=some j)(e:ts[j]?=some t')(h:K (f7 k p j t')):xi (.at k p) (.imm (.int i)) m K:=⟨t,ts,j,t',f,c,d,e,h⟩
end
section
variable {X:Cx}{o e i:Expr}{b:List Expr}{w:WE}{g:WA}{f c:Pos}
def Qw(K:Kd)(to:TE)(t:TA):TE:=λm H Q=>to m H λx n=>∃a j,x = .ref a/\IsDc K n a j/\t m n λp l=>∃h k y z,p=[y,z]/\IsDc K l a h/\oneK h k=true/\Den K l k y/\∀v,((∃d,cE k h=some d/\Den K l d v)\/(cE k h=none/\v=z))->Q v l
theorem IM{to:TE}{t:TA}(K:X.A.units+64<cLine)(J:PE X o to)(N:PA X (e::b) t)
  (j:abz o "get" X.env (eval o X.env)=eval o X.env:=by rfl)
  (l:((abq c (aac (e::b) X.env)).all (λx=>!x.1)&&(acY c (ab2 [] X.env)).all (λx=>x.1.isSome)
   && decide ((e::b).length+([]:List ac6).length+(if ([]:List ac6).isEmpty then 0 else 1)<30))=true:=by rfl)
  (d:(f.endLine==c.line)=true:=by rfl) (O:aac (e::b) X.env=(false,eval e X.env)::aac b X.env:=by rfl) (m:(abq c (aac b X.env)).any (·.1)=false:=by rfl) :
  PE X (.Call (.Attribute o "get" f) (e::b) [] c) (Qw X.kd to t):=by
 intro p s C H Q I h;refine agb j l d rfl (thn (J p s C H _ I h) λv s1 ⟨x,U,A,r1,q⟩=>?_);let⟨a,B,rfl,dc0,q⟩:=q;cases (r1);let⟨M,R⟩:=A.dcT dc0;refine⟨"dict","dict.get",afW,aew,PySem.F.type_dict_get,M,R,?_⟩;have u:=N c p s1 C U _ A q;rw[O]at u⊢;refine aej ‹_› (agA ?_);refine thn u λY s2 ⟨vs,G,P,r,T⟩=>?_;let⟨E,k,y,z,rfl,dc,ok,hk,n⟩:=T
 cases r with
 | cons D r=>
  cases r with
  |cons L r=>
   cases r;exact NW K P dc ok hk D L λv W Z F S V=>⟨v,G,F,S,n v V⟩
abbrev JM(w:WE)(g:WA):WE:=λm K=>w m λr m1=>∃a,dcM m1 a r/\(isKd a=true\/kyA a=true)/\g m1 λrs m2=>∃d k z,rs=[.imm k,.imm z]/\dcM m2 d r/\oneK d k=true/\K (.imm ((cE k d).getD z)) m2
theorem F7(K:X.A.units+64<cLine)(J:ME X o w)(M:MA X (e::b) g)
  (p:abz o "get" X.env (eval o X.env)=eval o X.env:=by rfl)
  (q:((abq c (aac (e::b) X.env)).all (λx=>!x.1)&&(acY c (ab2 [] X.env)).all (λx=>x.1.isSome)
   && decide ((e::b).length+([]:List ac6).length+(if ([]:List ac6).isEmpty then 0 else 1)<30))=true:=by rfl)
  (n:(f.endLine==c.line)=true:=by rfl) (N:aac (e::b) X.env=(false,eval e X.env)::aac b X.env:=by first|exact aH rfl|rfl) (j:(abq c (aac b X.env)).any (·.1)=false:=by rfl) :
  ME X (.Call (.Attribute o "get" f) (e::b) [] c) (JM w g):=(IM K J M p q n N j).wk<|by
 intro Y H Q ⟨B,m,V,A,P,y⟩;refine⟨B,m,_,A,P,λr m1 v Z k n1 R rr S=>?_⟩;let⟨t,D,O,k⟩:=k;let⟨a,rfl,dc0⟩:=RelR.dc R rr D O;refine⟨a,t,rfl,dc0,B,m1,_,R,k,λrs m2 vs E k2 n2 s h F=>?_⟩;let⟨l,T,z,rfl,C,ok,k2⟩:=k2;have hk:isKd l=true\/kyA l=true:=by
  rcases jD ok with z|z
  .exact .inl z.1
  .exact .inr z.1
 let⟨W,L,dc⟩:=RelR.dc s (rr.keep A R F) C hk;cases L
 cases h with
 | cons G h=>
  cases h with
  |cons I h=>
   cases h;refine⟨l,T,_,_,rfl,dc,ok,G,λv U=>y _ m2 v E k2 (n2.trans n1) s ?_ (S.trans F)⟩;rcases U with⟨d,u,hd⟩|⟨u,rfl⟩
   .rw[u];exact hd
   .rw[u];exact I
def oInD(n:Bool):WO:=λr1 r m K=>kq (λk=>∃a,dcM m a r/\oneK a k=true/\K (.imm (.bool (if n=true then !(cE k a).isSome else(cE k a).isSome)))) r1
theorem L6(A:X.A.units+64<cLine)(n:Bool):OpR X (aaW (if n=true then .NotIn else .In)) (rM X.kx (oInD n)):=by
 intro p s t H x y v u Q I C r ⟨F,m,L,E,M,r1,G,K,R,B,D,h,d⟩;let⟨k,rfl,hk,j,q,ok,h⟩:=gj B h;let⟨a,rfl,dc⟩:=RelR.dc R D q (by
  rcases jD ok with z|z
  .exact .inl z.1
  .exact .inr z.1)
 cases (r);exact Yb A I dc ok hk C n λJ l=>⟨.bl _,H,l,rfl,d _ _ H h R (jJ _) (Frm.refl _ _)⟩
def jz(h:X.A.units+64<cLine):OpR X (aaW .NotIn) (rM X.kx (oInD true)):=L6 h true
theorem BX(n:X.A.units+64<cLine)(k:EE X o w)(l:EA X (e::b) g)
  (a:abz o "get" X.env (eval o X.env)=eval o X.env:=by rfl)
  (j:((abq c (aac (e::b) X.env)).all (λx=>!x.1)&&(acY c (ab2 [] X.env)).all (λx=>x.1.isSome)
   && decide ((e::b).length+([]:List ac6).length+(if ([]:List ac6).isEmpty then 0 else 1)<30))=true:=by rfl)
  (d:(f.endLine==c.line)=true:=by rfl) (m:aac (e::b) X.env=(false,eval e X.env)::aac b X.env:=by first|exact aH rfl|rfl) (h:(abq c (aac b X.env)).any (·.1)=false:=by rfl) :
  EE X (.Call (.Attribute o "get" f) (e::b) [] c) (JM w g):=⟨F7 n k.h l.h a j d m h⟩
end
def onTr(P:aD->Prop)(r:R):Prop:=match trR r with
 |some t=>P t
 |none=>False
end L2
namespace L2
open PySem PySem.Spec PyProof.Rows
open Sem (wp)
variable{K:aae}{H:Hp}{p:List Nat}{t:aD}{kvs:List (aD×aD)}{c qual:Str}{C:Addr}{st:Stmt}{N ps:List Str}{od:Option Addr}{sl:Array (Option Ad)}{mg:Str->Option Ad}{n nN:Nat}{pl:Sem Bool}{ts:List (Str×aD)}{xs:List (Str×V)}{τs:List (List 'h')}{sp:SpI}{ds:List aD}{P:aD->Prop}
def iI(s:Stmt):List Stmt:=match s with
 | .ClassDef _ _ _ b _ _ _ _ _ _ _=>b
 |_=>[]
def Jc{K:Kd}{b:Bool}{v:V}(h:Den K H (.bool b) v):v = .bl b:=by simpa only[Den]using h
def fdAt(f:Str):Nat->List (aD×aD)->Option (Nat×aD)
 |_,[]=>none
 |i,(.str g,t)::r=>if decide (g=f)=true then some (i,t)else fdAt f (i+1) r
 |i,(.none,_)::r=>fdAt f (i+1) r
 |i,(.bool _,_)::r=>fdAt f (i+1) r
 |i,(.int _,_)::r=>fdAt f (i+1) r
 |i,(.list _,_)::r=>fdAt f (i+1) r
 |i,(.tuple _,_)::r=>fdAt f (i+1) r
 |i,(.dict _,_)::r=>fdAt f (i+1) r
section
variable {K:Kd}{H:Hp}{τ:List 'h'}{p:List Nat}{f:Str}
theorem TAtF.look:∀{ts:List (aD×aD)}{i j:Nat}{xs:List (Str×V)}{t:aD},TAtF K H τ p i ts xs->fdAt f i ts=some (j,t)->∃v,xs.lookup f=some v/\TAt K H τ (p++[j]) t v
 |[],_,_,_,_,_,e=>by cases e
 | (.str g,t)::ts,i,j,xs,t',h,e=>by
  simp only[TAtF]at h;let⟨v,vs,rfl,m,a⟩:=h;simp only[fdAt]at e
  by_cases c:g=f
  .rw[if_pos (decide_eq_true c)]at e;cases e;subst c;exact⟨v,by simp[aeM],m⟩
  .rw[if_neg (by simpa using c)]at e;let⟨b,l,k⟩:=TAtF.look a e;refine⟨b,?_,k⟩;rw[aa8];have:(f==g)=false:=by simp only[beq_eq_false_iff_ne,ne_eq];exact λz=>c z.symm
   rw[this];exact l
 |(.none,d)::r,i,j,xs,t',h,e=>by simp only[TAtF]at h;simp only[fdAt]at e;exact TAtF.look h e
 |(.bool _,d)::r,_,_,_,_,h,_=>by simp only[TAtF]at h
 |(.int _,d)::r,_,_,_,_,h,_=>by simp only[TAtF]at h
 |(.list _,d)::r,_,_,_,_,h,_=>by simp only[TAtF]at h
 |(.tuple _,d)::r,_,_,_,_,h,_=>by simp only[TAtF]at h
 |(.dict _,d)::r,_,_,_,_,h,_=>by simp only[TAtF]at h
theorem TAtF.noF:∀{ts:List (aD×aD)}{i:Nat}{xs:List (Str×V)},TAtF K H τ p i ts xs->fdAt f i ts=none->xs.lookup f=none
 |[],_,_,h,_=>by simp only[TAtF]at h;subst h;rfl
 | (.str g,t)::ts,i,xs,h,e=>by
  simp only[TAtF]at h;let⟨v,vs,rfl,b,a⟩:=h;simp only[fdAt]at e
  by_cases c:g=f
  .rw[if_pos (decide_eq_true c)]at e;cases e
  .rw[if_neg (by simpa using c)]at e;rw[aa8];have:(f==g)=false:=by simp only[beq_eq_false_iff_ne,ne_eq];exact λz=>c z.symm
   rw[this];exact TAtF.noF a e
 |(.none,d)::r,i,xs,h,e=>by simp only[TAtF]at h;simp only[fdAt]at e;exact TAtF.noF h e
 |(.bool _,d)::r,_,_,h,_=>by simp only[TAtF]at h
 |(.int _,d)::r,_,_,h,_=>by simp only[TAtF]at h
 |(.list _,d)::r,_,_,h,_=>by simp only[TAtF]at h
 |(.tuple _,d)::r,_,_,h,_=>by simp only[TAtF]at h
 |(.dict _,d)::r,_,_,h,_=>by simp only[TAtF]at h
end
def Rel.insN{K:Kx}{d:Al}{m:MSt}{s:St}(R:Rel K d m s H){k:Nat}{τ:List 'h'}{a:Addr}(h:d[k]?=some (.T τ))(f:τ.lookup p=some a)(j:m.os[k]?=some [t])(r:getT t p=some (.dict kvs))(i:excC kvs=some c) :
  ∃dx C xs,H a=some (.ins C dx xs)/\ClsN K c C/\TAtF K H τ p 0 kvs xs:=by
 let⟨⟨w,v,z,g,_⟩,_⟩:=R.own k (.T τ) _ h j;cases z;let⟨u,b⟩:=g.get r;rw[abi]at b;let⟨x,dx,C,xs,e,_,l,o,q⟩:=b.ins i;rw[f]at e;cases e;exact⟨dx,C,xs,l,o,q⟩
structure InsF(K:aae)(c f:Str):Prop where
 ex:∃C,aaO K aay c=some (some (.ref C))/\Cls K C/\NoAttr K C f
def InsF.of{f:Str}(a:aaO K aay c=some (some (.ref C)))(b1:acX K C ae9=true)(b2:adt K C=true)(e:aef K C=true)(b:abu K (.ref C) "__setattr__" = some (some (.builtin "object.__setattr__")))(d:abu K (.ref C) f=some none):InsF K c f:=⟨C,a,⟨b1,b2,e,b⟩,d⟩
def fGot(m:MSt)(c:Str)(k:Nat)(p:List Nat)(f:Str)(K:R->Prop):Prop:=∃t kvs j a,m.os[k]?=some [t]/\getT t p=some (.dict kvs)/\excC kvs=some c/\fdAt f 0 kvs=some (j,a)/\K (f7 k p j a)
abbrev wFld(c f:Str)(w:WE):WE:=λm K=>w m λr m1=>onAt (λk p=>fGot m1 c k p f λr=>K r m1) r
section
variable {X:Cx}{o:Expr}{w:WE}{pos:Pos}{c f:Str}
theorem Uf(C:InsF X.K c f)(y:ME X o w)(x:abz o f X.env (eval o X.env)=eval o X.env:=by rfl):ME X (.Attribute o f pos) (wFld c f w):=(Rf y x).wk<|by
 intro W H Q ⟨D,m,V,u,I,b⟩;refine⟨D,m,_,u,I,λr m1 v S q n1 R rr J=>?_⟩;let⟨k,p,T,a,rfl,e,h,rfl,t,kvs,j,U,B,L,l,i,q⟩:=x8 rr q;let⟨dx,d,xs,M,E,g⟩:=R.insN e h B L l;let⟨z,O,cl,F⟩:=C.ex;have A:d=z:=by
  have:=E.symm.trans O;simpa using this
 subst A;let⟨v,s,G⟩:=g.look i;exact⟨a,d,dx,xs,v,rfl,M,cl,F,s,b _ m1 v S q n1 R (jS R e G) J⟩
theorem ce(C:InsF X.K c f)(a:EE X o w)(h:abz o f X.env (eval o X.env)=eval o X.env:=by rfl):EE X (.Attribute o f pos) (wFld c f w):=⟨Uf C a.h h⟩
end
structure f9(P:aaI)(w:World)(K:aae)(mg:Str->Option Ad)(base:aa1)(c m:Str)(k n:Nat)(sp:SpM):Prop where
 ex:∃(C f:Addr) (fd:ab8) (ps:List Str),FnOk P w K mg base CX0 k f fd ps (spOf ⟨K,w⟩ n sp)/\aaO K aay c=some (some (.ref C))/\Cls K C/\Meth K C m f/\Binds K fd ps []
 ar:∀as Kc,sp as Kc->as.length=n
structure MthD(K:aae)(c m qual:Str)(st:Stmt)(ps:List Str):Prop where
 ex:∃(C f:Addr) (fd:ab8),Fun K m qual st f fd/\aaO K aay c=some (some (.ref C))/\Cls K C/\Meth K C m f/\Binds K fd ps []
def MthD.of{m:Str}{f:Addr}{o kV g pm b ct:Ad}{an:Option Addr}(h:∀(kV g pm:Ad) (an:Option Addr) (b ct:Ad) (us:List Ad),us.length=ps.length->adQ (abo m qual (ck st) (bA st) (ab st) .none kV g pm an b ct) ⟨us,[]⟩=pure (ps.zip us))
  (a:aaO K aay c=some (some (.ref C))) (b1:acX K C ae9=true) (b2:adt K C=true) (i:aef K C=true) (j:abu K (.ref C) "__setattr__" = some (some (.builtin "object.__setattr__")))
  (d:abu K (.ref C) m=some (some (.ref f))) (l:K.lookup f=some ⟨o,od,.func (abo m qual (ck st) (bA st) (ab st) .none kV g pm an b ct),sl⟩) (e:ady K b qual=true) (k:abT K (.ref f)=true) (fn:ae2 K (.ref f)=true):MthD K c m qual st ps:=
 ⟨C,f,_,sv l e k,a,⟨b1,b2,i,j⟩,⟨d,fn,k⟩,(sv l e k).binds h⟩
theorem j1{P:aaI}{w:World}{base:aa1}{m:Str}{k:Nat}{sp:SpM}(D:MthD K c m qual st ps)(S:ak N ps (ab st))(x:ps.length=n)(o:N.length=nN)(g:n≤nN)(ar:∀as e,sp as e->as.length=n)
  (d:∀(b:Ad) (A:abb) (outer:List Env) (s:GT) (H:Hp) (E:XK) (f:Addr),Room k (A.deeper (aeh qual (ab st) s.heap.objs.size f b)) ->
   ∃i,ESs (cxOf CX0 P w K mg base N qual (ab st) f b A outer s H E).nox (bA st) i/\∀as e,as.length=n->sp as e->i {nx:=λm=>e (.imm .none) (m.os.take m.np),rt:=λr m=>retK e m r} (d4 nN as)) :
  f9 P w K mg base c m (k+1) n sp:=by
 let⟨C,f,fd,F,a,cl,q,u⟩:=D.ex;refine⟨⟨C,f,fd,ps,F.ok S (λvs H Q E h=>by rw[x];exact h.len) (λb A outer s H vs Q E j h=>?_),a,cl,q,u⟩,ar⟩;let⟨i,v,l⟩:=d b A outer s H E f j;exact⟨_,v.h,fn_m (K:=(cxOf CX0 P w K mg base N qual (ab st) f b A outer s H E).nox.kx) rfl h o g l⟩
def insR(m:MSt)(c f:Str)(r:R)(P:Prop):Prop:=∃k kvs,r = .at k []/\m.os[k]?=some [.dict kvs]/\excC kvs=some c/\fdAt f 0 kvs=none/\P
def QX(P:List Ag->List Nat->Prop)(o:Option (List Ag×List Nat)):Prop:=∃a k,o=some (a,k)/\P a k
abbrev yX(c f:Str)(sp:SpM)(b:WE)(w:WA):WE:=λm K=>b m λa m1=>insR m1 c f a (w m1 λrs m2=>QX (λd k=>k.Nodup/\sp d λr o=>K (mapR k r) {m2 with os:=cC m2.os k o}) (iL m2 (a::rs)))
section
variable {X:Cx}{o a:Expr}{d:List Expr}{w:WE}{i:WA}{pos b:Pos}{c f:Str}{k n:Nat}{sp:SpM}{E:XK}{j:St}{H:Hp}{Q:VK}{C:Addr}
theorem Cz(h:tM X.kx (yX c f sp w i) j H Q)(hC:aaO X.K aay c=some (some (.ref C)))(hn:∀as S,sp as S->as.length=n):MZ C f (spOf X.kd n sp) [] E (tM X.kx w) (tMA X.kx i) j H Q:=by
 let⟨s,m,S,Y,hw,D⟩:=h;refine⟨s,m,_,Y,hw,λro m1 v H1 q n1 l rr B=>?_⟩;let⟨U,kvs,rfl,e3,W,V,q⟩:=q;let⟨τ,a,J,I,rfl⟩:=id rr;let⟨dx,C',xs,hH,hc,g⟩:=l.insN J I e3 (p:=[]) rfl W;have Z:C'=C:=by
  have:=hc.symm.trans hC;simpa using this
 subst Z;refine⟨a,dx,xs,rfl,hH,g.noF V,s,m1,_,l,q,λrs m2 vs L q2 n2 R u M=>?_⟩
 .obtain⟨as,ks,e,nd,hsp⟩:=q2;have A:RelRs X.kx s H (L) (.at U []::rs) (.ref a::vs):=.cons (show RelR X.kx s H L (.at U []) (.ref a)from⟨τ,a,J,I,rfl⟩) (u.base l B);let⟨β,ra,x⟩:=gA R A e;refine⟨as,β,_,hn _ _ hsp,dW R.nd nd x,by rw[aa5];exact ra,hsp,λr T v H' G O z F=>?_⟩;let⟨y,F3⟩:=xR R nd x O F;exact D _ _ v H' G (n2.trans n1) y ((vK x z).base R (B.trans M)) ((B.trans M).trans F3)
theorem L9(F:f9 X.prog X.w X.K X.mg X.base c f k n sp)(r:Room k X.A)(v:ME X o w)(q:MA X (a::d) i)
  (l:aac (a::d) X.env=(false,eval a X.env)::aac d X.env:=by first|exact aH rfl|rfl) (e:(abq pos (aac d X.env)).any (·.1)=false:=by rfl)
  (s:eval (.Call (.Attribute o f b) (a::d) [] pos) X.env=(do
   let ov <- eval o X.env
   acN b.atName
   let (f,first) <- ad2 [ov] (aez ov f pl)
   agx pos f first (abq pos (aac (a::d) X.env)) (acY pos (ab2 [] X.env))):=by rfl):ME X (.Call (.Attribute o f b) (a::d) [] pos) (yX c f sp w i):=by
 let⟨C,g,fd,ps,G,x,cl,m,u⟩:=F.ex;exact(P9 (E:=E0) (pl:=pl) v cl m G r u .nil FZ q l e s).wk λ_ _ _ h=>Cz h x F.ar
theorem Gg(F:f9 X.prog X.w X.K X.mg X.base c f k n sp)(U:Room k X.A)(J:ME X o w)
  (B:eval (.Call (.Attribute o f b) [] [] pos) X.env=(do
   let ov <- eval o X.env
   acN b.atName
   let (f,first) <- ad2 [ov] (aez ov f pl)
   agx pos f first (abq pos (aac [] X.env)) (acY pos (ab2 [] X.env))):=by rfl):ME X (.Call (.Attribute o f b) [] [] pos) (yX c f sp w wNil):=by
 let⟨C,g,fd,ps,G,L,cl,y,I⟩:=F.ex;refine(GW (E:=E0) (pl:=pl) J cl y G U I .nil FZ B).wk λj H Q h=>?_;let⟨O,m,T,D,V,u⟩:=Cz (E:=E0) h L F.ar;refine⟨O,m,T,D,V,λr m1 v x q n1 s rr W=>?_⟩;let⟨a,dx,fs,A,z,M,S,m2,Y,R,l,e⟩:=u r m1 v x q n1 s rr W;exact⟨a,dx,fs,A,z,M,e [] m2 [] x l rfl R .nil (Frm.refl _ _)⟩
theorem gZ(F:f9 X.prog X.w X.K X.mg X.base c f k n sp)(q:Room k X.A)(l:EE X o w)(m:EA X (a::d) i)
  (e:aac (a::d) X.env=(false,eval a X.env)::aac d X.env:=by first|exact aH rfl|rfl) (h:(abq pos (aac d X.env)).any (·.1)=false:=by rfl)
  (g:eval (.Call (.Attribute o f b) (a::d) [] pos) X.env=(do
   let ov <- eval o X.env
   acN b.atName
   let (f,first) <- ad2 [ov] (aez ov f pl)
   agx pos f first (abq pos (aac (a::d) X.env)) (acY pos (ab2 [] X.env))):=by rfl):EE X (.Call (.Attribute o f b) (a::d) [] pos) (yX c f sp w i):=⟨L9 (pl:=pl) F q l.h m.h e h g⟩
def sJ(F:f9 X.prog X.w X.K X.mg X.base c f k n sp)(g:Room k X.A)(e:EE X o w)
  (h:eval (.Call (.Attribute o f b) [] [] pos) X.env=(do
   let ov <- eval o X.env
   acN b.atName
   let (f,first) <- ad2 [ov] (aez ov f pl)
   agx pos f first (abq pos (aac [] X.env)) (acY pos (ab2 [] X.env))):=by rfl):EE X (.Call (.Attribute o f b) [] [] pos) (yX c f sp w wNil):=⟨Gg (pl:=pl) F g e.h h⟩
end
inductive FsOk(K:Kd)(H:Hp):List (Str×aD)->List (Str×V)->List (List 'h')->Prop where
 |nil:FsOk K H [] [] []
 |cons {f:Str}{t:aD}{v:V}{τ:List 'h'}{ts:List (Str×aD)}{xs:List (Str×V)}{τs:List (List 'h')}:TAt K H τ [] t v->(∀a∈τ.map (·.2),∃o,H a=some o/\Mu o=true)->FsOk K H ts xs τs->FsOk K H ((f,t)::ts) ((f,v)::xs) (τ::τs)
theorem FsOk.snoc{K:Kd}{H:Hp}{f:Str}{t:aD}{v:V}{τ:List 'h'}(h:TAt K H τ [] t v)(d:∀a∈τ.map (·.2),∃o,H a=some o/\Mu o=true):∀{ts:List (Str×aD)}{xs:List (Str×V)}{τs:List (List 'h')},FsOk K H ts xs τs->FsOk K H (ts++[(f,t)]) (xs++[(f,v)]) (τs++[τ])
 |_,_,_,.nil=>FsOk.cons h d .nil
 |_,_,_,.cons (f:=g) a b c=>FsOk.cons (f:=g) a b (FsOk.snoc h d c)
theorem FsOk.mono{K:Kd}{f:Hp}(g:Pers H f)(h:FsOk K H ts xs τs):(∀a∈allA τs,f a=H a)->FsOk K f ts xs τs:=by
 induction h with
 |nil=>intro _;exact .nil
 |cons a b c i=>
  intro e;exact .cons (TAt.mono g (λx d=>e x (ab0 _ d)) a) (λx d=>by rw[e x (ab0 _ d)];exact b x d) (i λx d=>e x (aaQ _ d))
theorem FsOk.names{K:Kd}:∀{ts:List (Str×aD)}{xs:List (Str×V)}{τs:List (List 'h')},FsOk K H ts xs τs->xs.map (·.1)=ts.map (·.1)
 |_,_,_,.nil=>rfl
 |_,_,_,.cons _ _ c=>by rw[aam,aam,c.names]
theorem FsOk.mu{K:Kd}:∀{ts:List (Str×aD)}{xs:List (Str×V)}{τs:List (List 'h')},FsOk K H ts xs τs->∀a∈allA τs,∃o,H a=some o/\Mu o=true
 |_,_,_,.nil,a,ha=>by cases ha
 |_,_,_,.cons _ b c,a,ha=>by
  rcases aaV.mp ha with z|z
  .exact b a z
  .exact c.mu a z
theorem lQ:∀(τs:List (List 'h')) (τ:List 'h'),allA (τs++[τ])=allA τs++τ.map (·.2)
 |[],τ=>by simp[allA]
 |σ::τs,τ=>by rw[adD,allA,allA,lQ τs,aaY]
def insT(c:Str)(ts:List (Str×aD)):aD:=.dict ((.none,.str c)::ts.map λf=>(.str f.1,f.2))
theorem FsOk.at{K:Kd}{τ':List 'h'}(h:FsOk K H ts xs τs):∀{i:Nat},(∀(j:Nat) (τ:List 'h') (q:List Nat) (a:Addr),τs[j]?=some τ->τ.lookup q=some a->τ'.lookup ((i+j)::q)=some a)->TAtF K H τ' [] i (ts.map λd=>(.str d.1,d.2)) xs:=by
 induction h with
 |nil=>intro i _;simp only[adE,TAtF]
 | @cons f t v τ ts xs τs a b c ih=>
  intro i l;simp only[aam,TAtF];refine⟨v,xs,rfl,?_,ih λj τ q a k g=>?_⟩
  .have:=TAt.shift (τ':=τ') (w:=[i]) (λq a e=>l 0 τ q a rfl e) a;simpa using this
  .rw[show i+1+j=i+(j+1) by omega];exact l (j+1) τ q a (by simpa using k) g
theorem xH{f:Str}{v:V}:∀{xs:List (Str×V)},f∉xs.map (·.1)->putF f v xs=xs++[(f,v)]
 |[],_=>rfl
 |(g,x)::r,h=>by
  rw[aam,aag,not_or]at h;rw[show putF f v ((g,x)::r)=(if g=f then(g,v)::r else(g,x)::putF f v r)from rfl,if_neg (λz=>h.1 z.symm),xH h.2];rfl
def Ir(K:aae):List (Str×TE)->TS->TS
 |[],w=>w
 |(f,tv)::r,w=>tSeq (sFld K (tVar 0) tv f) (Ir K r w)
def wFs:List (Str×WE)->MSt->(List (Str×aD)->MSt->Prop)->Prop
 |[],m,K=>K [] m
 |(f,we)::r,m,K=>we m λa m1=>onTr (λt=>wFs r m1 λts m2=>K ((f,t)::ts) m2) a
abbrev SpI:=List aD->(aD->Prop)->Prop
def mY(n:Nat)(ds:List aD):MSt:=⟨none::(ds.map λd=>some (.imm d))++aaq (n-(ds.length+1)) none,[],0⟩
def Lm(c:Str)(nN:Nat)(fs:List (Str×WE))(w:WS)(ds:List aD)(a:aD->Prop):Prop:=
 wFs fs (mY nN ds) λts _=>w {nx:=λm=>∃t,m.os[0]?=some [t]/\a t,rt:=λ_ _=>False} (d4 nN (.tr (insT c ts)::ds.map .imm))
def spIn(K:Kd)(c:Str)(n:Nat)(sp:SpI):Sp:=λvs H Q _=>∃a C dx ds v f,vs = .ref a::v/\ds.length=n/\H a=some (.ins C dx [])/\ClsN K c C/\DenAll K H ds v/\sp ds f/\
 ∀t d e,f t->d.lookup []=some a->(d.map (·.2)).Nodup->(∀b∈d.map (·.2),b=a\/H b=none)->OwnAt K e (.T d) [t]->(∀b o,H b=some o->b≠a->e b=some o)->Q .non e
theorem spIn.len{K:Kd}{vs:List V}{Q:VK}{E:XK}(h:spIn K c n sp vs H Q E):vs.length=n+1:=by
 let⟨a,C,dx,ds,v,d,rfl,b,_,_,hd,_⟩:=h;rw[aat,<-hd.length,b]
structure EIn(X:Cx)(c:Str)(body:List Stmt)(fs:List (Str×WE))(w:WS):Prop where
 h:PSs X body (Ir X.K (fs.map λfw=>(fw.1,tM X.kx fw.2)) (tMS X.kx w))
 all:∀f∈fs.map (·.1),InsF X.K c f
section
variable {X:Cx}{c f:Str}{b:List Stmt}{fs:List (Str×WE)}{w:WS}{a:WE}{e:Expr}{p d pos:Pos}
def FV(h:ESs X b w):EIn X c b [] w:=⟨h.h,λ_ z=>by cases z⟩
theorem iY(I:InsF X.K c f)(m:EE X e a)(j:EIn X c b fs w)(k:X.N[0]?=some ("self" : Str):=by rfl)(o:Vis X.env.scope "self":=by first|exact afG rfl|exact ada (afG rfl)|exact ada (ada rfl))(l:abG e (some (.Attribute (.Name "self" p) f d)) pos.line X.env=pure false:=by rfl):EIn X c (.Assign [.Attribute (.Name "self" p) f d] e pos::b) ((f,a)::fs) w:=
 ⟨vJ (Vi (Jt (i:=0) k o) m.h l) j.h,λg h=>by
  rcases aag.mp h with rfl|h
  .exact I
  .exact j.all g h⟩
end
theorem Oz{K:Kx}{m:MSt}{g:St}{f:Hp}(l:K.eb=⟨0,[],λ_=>none⟩)(h:Pers H f)(R:Rel K [] m g H):Rel K [] m g f:=by
 refine⟨R.nd,R.len,λk q ds z=>by simp at z,R.vlen,λi r z=>?_,R.npl,R.ebl,by rw[l];exact⟨rfl,λ_ _ z=>(by cases z),λ_ _=>.inr rfl,λa j=>(by cases j)⟩⟩;let⟨v,o,b⟩:=R.var i r z;refine⟨v,o,?_⟩
 cases r with
 |imm d=>exact Den.mono h b
 |obj k=>let⟨a,e,_⟩:=b;simp at e
 | «at» k p=>let⟨s,a,e,_⟩:=b;simp at e
 |new ds=>exact b
 |newT t=>exact b
theorem oY{K:Kd}{H:Hp}:∀{ds:List aD}{vs:List V},DenAll K H ds vs->RelAs K H (ds.map .imm) vs []
 |[],_,h=>by simp only[DenAll]at h;subst h;exact .nil
 |d::ds,_,h=>by
  simp only[DenAll]at h;let⟨v,vs,rfl,f,g⟩:=h;exact .imm f (oY g)
theorem vZ:∀ds:List aD,agO (ds.map .imm)=[]
 |[]=>rfl
 |d::ds=>by simp only[aam,agO,vZ ds]
theorem Vj{X:Cx}{fs:List (Str×WE)}{w:WS}{vs:List V}{Q:VK}{E:XK}(he:X.kx.eb=⟨0,[],λ_=>none⟩)(hN:N.length=nN)(hle:n+1≤nN)(all:∀f∈fs.map (·.1),InsF X.K c f)(nd:(fs.map (·.1)).Nodup)(h9:fs.length<900)
  (h:spIn X.kd c n sp vs H Q E) (hw:∀ds S,ds.length=n->sp ds S->Lm c nN fs w ds S):Ir X.K (fs.map λfw=>(fw.1,tM X.kx fw.2)) (tMS X.kx w) {nx:=λ_ W=>Q .non W,rt:=Q} (start N vs) H:=by
 let⟨a,C,dx,ds,l,S,rfl,hl,G,hc,hd,hsp,fin⟩:=h;have hw0:=hw ds S hl hsp;have hvl:ds.length=l.length:=hd.length;have σ0:(start N (.ref a::l))[0]?=some (some (.ref a)):=rfl;have R0:Rel X.kx [] (mY nN ds) (start N (.ref a::l)) H:=by
  refine⟨abV,rfl,λk ao es z=>by simp at z,?_,λi r z=>?_,aab _,by rw[he];exact aab _,by rw[he];exact⟨rfl,λ_ _ z=>(by cases z),λ_ _=>.inr rfl,λa G=>(by cases G)⟩⟩
  .simp[start,mY];omega
  .cases i with
   |zero=>simp[mY]at z
   | succ i=>
    have J:((ds.map λd=>some (R.imm d))++aaq (nN-(ds.length+1)) none)[i]?=some (some r):=by simpa[mY]using z
    by_cases hi:i<ds.length
    .rw[aaE (by rw[iO];exact hi),aaj]at J
     cases q:ds[i]? with
     |none=>rw[q]at J;cases J
     |some d=>
      rw[q]at J;cases J;let⟨v,ev,gv⟩:=hd.get q;refine⟨v,?_,gv⟩;show(some (V.ref a)::l.map some++aaq (N.length-(l.length+1)) none)[i+1]?=_;rw[adD,List.getElem?_cons_succ,aaE (by rw[iO];omega),aaj,ev];rfl
    .rw[aaP (by rw[iO];omega),aea]at J
     split at J<;>cases J
 have go:∀(I:List (Str×WE)) (m:MSt) (A:Hp) (done:List (Str×aD)) (xs:List (Str×V)) (τs:List (List 'h')),(∀f∈I.map (·.1),InsF X.K c f)->(done.map (·.1)++I.map (·.1)).Nodup->done.length+I.length<900 ->
   Rel X.kx [] m (start N (.ref a::l)) A->A a=some (.ins C dx xs)->FsOk X.kd A done xs τs->(allA τs).Nodup->(∀b∈allA τs,H b=none)->(∀b o,H b=some o->b≠a->A b=some o) ->
   wFs I m (λts _=>w {nx:=λm=>∃t,m.os[0]?=some [t]/\S t,rt:=λ_ _=>False} (d4 nN (.tr (insT c (done++ts))::ds.map .imm))) ->
   Ir X.K (I.map λfw=>(fw.1,tM X.kx fw.2)) (tMS X.kx w) {nx:=λ_ W=>Q .non W,rt:=Q} (start N (.ref a::l)) A:=by
  intro I
  induction I with
  | nil=>
   intro m A done xs τs _ _ _ Rl B M D fr old hk;have hk':w {nx:=λm=>∃t,m.os[0]?=some [t]/\S t,rt:=λ_ _=>False} (d4 nN (.tr (insT c done)::ds.map .imm)):=by
    have hk2:w {nx:=λm=>∃t,m.os[0]?=some [t]/\S t,rt:=λ_ _=>False} (d4 nN (.tr (insT c (done++[]))::ds.map .imm)):=hk;rwa[aa5]at hk2
   have an:a∉allA τs:=λz=>by have:=fr a z;rw[G]at this;cases this
   have pe:Pers H A:=⟨λb xs e=>old b _ e λz=>(by rw[z,G]at e;cases e),λb o u e=>old b _ e λz=>(by rw[z,G]at e;cases e)⟩;have ow:OwnAt X.kx A (.T (([],a)::ko 1 τs)) [insT c done]:=by
    refine⟨⟨_,.ref a,rfl,?_,a,rfl,rfl⟩,λb s=>?_⟩
    .unfold insT;simp only[TAt];refine .inr (.inr (.inr ⟨c,a,dx,C,xs,rfl,rfl,rfl,B,hc,?_⟩));simp only[TAtF];refine M.at λj τ q b e1 e2=>?_;rw[aa8];have:(((0+1+j)::q)==([]:List Nat))=false:=rfl;rw[this];exact o9 (i:=1) e1 e2
    .rw[aam,fi]at s;obtain rfl|s:=aag.mp s
     .exact⟨_,B,rfl⟩
     .exact M.mu b s
   have ra:RelAs X.kx A (.tr (insT c done)::ds.map .imm) (.ref a::l) [.T (([],a)::ko 1 τs)]:=.tr ow rfl (oY (hd.mono pe));have ndβ:(ads [Ao.T (([],a)::ko 1 τs)]).Nodup:=by
    have:ads [Ao.T (([],a)::ko 1 τs)]=a::allA τs:=by simp[ads,Ao.ads,fi]
    rw[this,abe];exact⟨an,D⟩
   have agl:(agO (.tr (insT c done)::ds.map .imm)).length=1:=by simp only[agO,vZ,aat,ad5]
   have R1:=ul (K:=X.kx) (N:=N) (n:=n+1) hN hle (by simp[hl]) ndβ ra (by rw[he];exact abJ _) (by rw[he];exact⟨rfl,λ_ _ z=>(by cases z),λ_ _=>.inr rfl,λa G=>(by cases G)⟩);refine⟨_,_,_,R1,hk',⟨λα' m' σ' W q hn R' x=>?_,λr α' m' σ' v W q _ _ _ _=>q.elim,λ_ _ _ _ z=>z.elim,λ_ _ _ _ z=>z.elim⟩⟩;let⟨O,F,_⟩:=qg ra hn R' x;let⟨t,Z,kt⟩:=q;have hn1:m'.np=1:=hn.trans agl;refine fin t (([],a)::ko 1 τs) W kt rfl (by rw[aam,fi,abe];exact⟨an,D⟩) (λb s=>?_) (O.at_ 0 _ _ rfl (by rw[hn1,aaR,if_pos ⋯];exact Z)) λb o eb nb=>?_
   .rw[aam,fi]at s;obtain rfl|s:=aag.mp s
    .exact .inl rfl
    .exact .inr (fr b s)
   .refine F b o (old b o eb nb) λz=>?_;have:ads [Ao.T (([],a)::ko 1 τs)]=a::allA τs:=by simp[ads,Ao.ads,fi]
    rw[this]at z;rcases aag.mp z with z|z
    .exact nb z
    .rw[fr b z]at eb;cases eb
  | cons g I ih=>
   let⟨f,we⟩:=g;intro m A done xs τs al T hz Rl B M D fr old hk;refine⟨[],m,_,Rl,hk,λr m1 v H1 q n1 Rl1 rr F1=>?_⟩;unfold onTr at q
   cases Z:trR r with
   |none=>rw[Z]at q;exact q.elim
   | some t=>
    rw[Z]at q;let⟨τ,t1,t2,t3,t4⟩:=QR rr;have Y:∀b o,A b=some o->H1 b=some o:=λb o e=>F1 b o e (by simp[ads]);have hH1:=Y a _ B;let⟨C0,hn,cl,na⟩:=(al f 'a').ex;have ec:C=C0:=by
     have:=hc.symm.trans hn;simpa using this
    subst ec;have fn:f∉xs.map (·.1):=by
     rw[M.names];intro z;rw[aam,acR]at T;exact T.2.2 f z f aah rfl
    have xl:xs.length=done.length:=by have:=congrArg adx M.names;simpa using this
    refine⟨.ref a,σ0,a,C,dx,xs,rfl,hH1,cl,na,by rw[xl];omega,?_⟩;rw[xH fn];have U:Pers H1 (upd H1 a (.ins C dx (xs++[(f,v)]))):=bj (.inr ⟨_,hH1,rfl⟩);have pec:Pers A H1:=⟨λb xs e=>Y b _ e,λb o u e=>Y b _ e⟩;have an:a∉allA τs:=λz=>by have:=fr a z;rw[G]at this;cases this
    have L:a∉τ.map (·.2):=λz=>by have:=t4 a z;rw[B]at this;cases this
    have old0:∀b,A b=none->H b=none:=λb q=>by
     cases z:H b with
     |none=>rfl
     |some o=>
      have ne:b≠a:=λy=>by rw[y,B]at q;cases q
      have:=old b o z ne;rw[q]at this;cases this
    refine ih m1 _ (done++[(f,t)]) (xs++[(f,v)]) (τs++[τ]) (λg hg=>al g (aaf _ hg)) ?_ ?_ (Oz he U Rl1) ay ?_ ?_ ?_ ?_ ?_
    .rw[aaM,aaY];exact T
    .rw[aao];simp at hz⊢;omega
    .refine FsOk.snoc (TAt.mono U (λb s=>av (λ(z:b=a)=>L (z▸s))) (t1 t Z)) (λb s=>by rw[av (λ(z:b=a)=>L (z▸s))];exact t3 b s) ?_;refine FsOk.mono (pec.trans U) M (λb s=>?_);rw[av (λ(z:b=a)=>an (z▸s))];let⟨o,q,_⟩:=M.mu b s;rw[q];exact Y b o q
    .rw[lQ,acR];refine⟨D,t2,λb s b' hb' z=>?_⟩;subst z;let⟨o,q,_⟩:=M.mu b s;rw[t4 b hb']at q;cases q
    .intro b s;rw[lQ]at s;rcases aaV.mp s with z|z
     .exact fr b z
     .exact old0 b (t4 b z)
    .intro b o eb nb;rw[av nb];exact Y b o (old b o eb nb)
    .have:=q;simp only[aaY,adD,abi]at this⊢;exact this
 exact go fs (mY nN ds) H [] [] [] all (by simpa using nd) (by simpa using h9) R0 G .nil abV (λ_ z=>by cases z) (λ_ _ e _=>e) hw0
structure Cu(P:aaI)(w:World)(K:aae)(mg:Str->Option Ad)(base:aa1)(c:Str)(k n:Nat)(sp:SpI):Prop where
 ex:∃(C f:Addr) (fd:ab8) (ps:List Str),Mk K C f/\FnOk P w K mg base CX0 k f fd ps (spIn ⟨K,w⟩ c n sp)/\aaO K aay c=some (some (.ref C))/\mg c=some (.ref C)/\Binds K fd ps []
 ar:∀ds Kc,sp ds Kc->ds.length=n
structure IniD(K:aae)(mg:Str->Option Ad)(c qual:Str)(st:Stmt)(ps:List Str):Prop where
 ex:∃(C f:Addr) (fd:ab8),Fun K "__init__" qual st f fd/\Mk K C f/\aaO K aay c=some (some (.ref C))/\mg c=some (.ref C)/\Binds K fd ps []
structure IniDK(K:aae)(c qual:Str)(st:Stmt)(ps:List Str):Prop where
 ex:∃(C f:Addr) (fd:ab8),Fun K "__init__" qual st f fd/\Mk K C f/\aaO K aay c=some (some (.ref C))/\Binds K fd ps []
def IniDK.of{f:Addr}{o kV g pm b ct:Ad}{an:Option Addr}(h:∀(kV g pm:Ad) (an:Option Addr) (b ct:Ad) (us:List Ad),us.length=ps.length->adQ (abo "__init__" qual (ck st) (bA st) (ab st) .none kV g pm an b ct) ⟨us,[]⟩=pure (ps.zip us))
  (a:aaO K aay c=some (some (.ref C))) (d:abu K (.ref C) "__init__" = some (some (.ref f))) (l:K.lookup f=some ⟨o,od,.func (abo "__init__" qual (ck st) (bA st) (ab st) .none kV g pm an b ct),sl⟩) (e:ady K b qual=true) (k:abT K (.ref f)=true) (fn:ae2 K (.ref f)=true) (m:agi K C=true) (i:abT K (.ref C)=true):IniDK K c qual st ps:=
 ⟨C,f,_,sv l e k,⟨m,d,fn,i⟩,a,(sv l e k).binds h⟩
theorem IniDK.m{h:aa1}(D:IniDK K c qual st ps)(X:K.In h)(G:h.Ns aay mg):IniD K mg c qual st ps:=by
 let⟨C,f,fd,F,M,a,b⟩:=D.ex;exact⟨C,f,fd,F,M,a,agZ X G a,b⟩
theorem Lr{P:aaI}{w:World}{base:aa1}{k:Nat}(D:IniD K mg c qual st ps)(S:ak N ps (ab st))(u:ps.length=n+1)(m:N.length=nN)(g:n+1≤nN)(ar:∀ds e,sp ds e->ds.length=n)
  (d:∀(b:Ad) (A:abb) (outer:List Env) (s:GT) (H:Hp) (E:XK) (f:Addr),Room k (A.deeper (aeh qual (ab st) s.heap.objs.size f b)) ->
   ∃fs i,EIn (cxOf CX0 P w K mg base N qual (ab st) f b A outer s H E).nox c (bA st) fs i/\(decide (fs.map (·.1)).Nodup=true/\fs.length<900)/\∀ds e,ds.length=n->sp ds e->Lm c nN fs i ds e) :
  Cu P w K mg base c (k+1) n sp:=by
 let⟨C,f,fd,F,M,a,o,r⟩:=D.ex;refine⟨⟨C,f,fd,ps,M,F.ok S (λvs H Q E h=>by rw[u];exact h.len) (λb A outer s H vs Q E q h=>?_),a,o,r⟩,ar⟩;let⟨fs,i,j,l,v⟩:=d b A outer s H E f q;exact⟨_,j.h,Vj (X:=(cxOf CX0 P w K mg base N qual (ab st) f b A outer s H E).nox) rfl m g j.all (of_decide_eq_true l.1) l.2 h v⟩
def lU:List R->Option (List aD)
 |[]=>some []
 | .imm d::rs=>(lU rs).map (d :: ·)
 |_::_=>none
def xq(P:List aD->Prop)(rs:List R):Prop:=match lU rs with
 |some ds=>P ds
 |none=>False
abbrev LS(sp:SpI)(w:WA):WE:=λm K=>w m λrs m1=>xq (λds=>sp ds λt=>K (.newT t) m1) rs
theorem v3{K:Kd}{f:Al}{a H:Hp}:∀{rs:List R}{vs:List V}{ds:List aD},RelRs K f a H rs vs->lU rs=some ds->DenAll K H ds vs
 |_,_,ds,.nil,e=>by cases e;exact DenAll.nil
 | _,_,ds,.cons (r:=.imm d) (rs:=rs) h t,e=>by
  simp only[lU]at e
  cases q:lU rs with
  |none=>rw[q]at e;cases e
  |some b=>
   rw[q]at e;cases e;exact DenAll.cons h (v3 t q)
 |_,_,_,.cons (r:=.obj _) _ _,e=>by cases e
 |_,_,_,.cons (r:=.at _ _) _ _,e=>by cases e
 |_,_,_,.cons (r:=.new _) _ _,e=>by cases e
 |_,_,_,.cons (r:=.newT _) _ _,e=>by cases e
section
variable {X:Cx}{a:Expr}{d:List Expr}{w:WA}{p pos:Pos}{c:Str}{k n:Nat}{sp:SpI}{E:XK}{g:St}{H:Hp}{Q:VK}{C:Addr}
theorem KQ(h:tM X.kx (LS sp w) g H Q)(W:aaO X.K aay c=some (some (.ref C)))(hn:∀ds J,sp ds J->ds.length=n):UK C (spIn X.kd c n sp) [] E (tMA X.kx w) g H Q:=by
 let⟨s,m,J,U,Z,G⟩:=h;refine⟨s,m,_,U,Z,λrs m1 vs i q n1 R rr L x dx B D ne=>?_⟩;unfold xq at q
 cases e:lU rs with
 |none=>rw[e]at q;exact q.elim
 | some ds=>
  rw[e]at q;have hd:=v3 rr e;have r:∀b o,i b=some o->(upd (upd i dx (.own x)) x (.ins C dx [])) b=some o:=λb o eb=>by
   have b1:b≠x:=λz=>by rw[z,B]at eb;cases eb
   have b2:b≠dx:=λz=>by rw[z,D]at eb;cases eb
   rw[av b1,av b2];exact eb
  have f:∀b,i b=none->H b=none:=λb q=>by
   cases z:H b with
   |none=>rfl
   |some o=>
    by_cases l:b∈ads s
    .obtain⟨o,q2,_⟩:=R.mem l;rw[q]at q2;cases q2
    .have:=L b o z l;rw[q]at this;cases this
  have A:Pers i (upd (upd i dx (.own x)) x (.ins C dx [])):=⟨λb xs e=>r b _ e,λb o u e=>r b _ e⟩;refine⟨x,C,dx,ds,vs,_,by rw[aa5],hn _ _ q,ay,W,hd.mono A,q,λt V v S O M Y e4 T=>⟨rfl,?_⟩⟩;have j:∀b o,i b=some o->v b=some o:=λb o eb=>T b o (r b o eb) λz=>by rw[z,B]at eb;cases eb
  have I:Frm s i v:=λb o eb _=>j b o eb;have F:Rel X.kx s m1 g v:=R.at (GJ j) (λb l=>by let⟨o,q,_⟩:=R.mem l;rw[q];exact j b o q) I;refine G _ m1 (.ref x) v S n1 F ⟨V,x,rfl,O,M,λb l=>?_,e4⟩ (L.trans I);rcases Y b l with rfl|z
  .exact f _ B
  .refine f b ?_
   cases y:i b with
   |none=>rfl
   |some o=>rw[r b o y]at z;cases z
theorem P7(F:Cu X.prog X.w X.K X.mg X.base c k n sp)(q:Room (k+1) X.A)(o:MA X (a::d) w)(l:Gl X c:=by rfl)(e:(c=='g')=false:=by decide)(r:aac (a::d) X.env=(false,eval a X.env)::aac d X.env:=by first|exact aH rfl|rfl)(b:(abq pos (aac d X.env)).any (·.1)=false:=by rfl):ME X (.Call (.Name c p) (a::d) [] pos) (LS sp w):=by
 let⟨C,f,fd,ps,M,G,m,i,j⟩:=F.ex;exact(Oi (E:=E0) M G q l i j .nil FZ o e r b).wk λ_ _ _ h=>KQ h m F.ar
theorem DJ(F:Cu X.prog X.w X.K X.mg X.base c k n sp)(f:Room (k+1) X.A)(j:EA X (a::d) w)(i:Gl X c:=by rfl)(b:(c=='g')=false:=by decide)(e:aac (a::d) X.env=(false,eval a X.env)::aac d X.env:=by first|exact aH rfl|rfl)(h:(abq pos (aac d X.env)).any (·.1)=false:=by rfl):EE X (.Call (.Name c p) (a::d) [] pos) (LS sp w):=⟨P7 F f j.h i b e h⟩
end
section
variable {m:MSt}{Q:R->MSt->Prop}{a:WE}{b:WA}{c f:Str}{sp:SpM}{s:SpI}
def UE{k j:Nat}{t' d:aD}{K:R->Prop}(l:m.os[k]?=some [t])(g:getT t p=some (.dict kvs))(i:excC kvs=some c)(e:fdAt f 0 kvs=some (j,t'))(o:iX t'=some d)(h:K (.imm d)):fGot m c k p f K:=⟨t,kvs,j,t',l,g,i,e,by unfold f7;rw[o];exact h⟩
def uO{k j:Nat}{t':aD}{K:R->Prop}(i:m.os[k]?=some [t])(d:getT t p=some (.dict kvs))(g:excC kvs=some c)(e:fdAt f 0 kvs=some (j,t'))(l:iX t'=none)(h:K (.at k (p++[j]))):fGot m c k p f K:=⟨t,kvs,j,t',i,d,g,e,by unfold f7;rw[l];exact h⟩
def Aa{p:List Ag->List Nat->Prop}{as:List Ag}{ks:List Nat}{o:Option (List Ag×List Nat)}(e:o=some (as,ks))(nd:ks.Nodup)(h:p as ks):QX (λas ks=>ks.Nodup/\p as ks) o:=⟨as,ks,e,nd,h⟩
def U8{k:Nat}{P:Prop}(g:m.os[k]?=some [.dict kvs])(e:excC kvs=some c)(d:fdAt f 0 kvs=none)(h:P):insR m c f (.at k []) P:=⟨k,kvs,rfl,g,e,d,h⟩
def Iq{P:List aD->Prop}{rs:List R}(e:lU rs=some ds)(h:P ds):xq P rs:=by unfold xq;rw[e];exact h
def LJ{fs:List (Str×WE)}{w:WS}{g:aD->Prop}(d:MSt)(e:d=mY nN ds)(h:wFs fs d λts _=>w {nx:=λm=>∃t,m.os[0]?=some [t]/\g t,rt:=λ_ _=>False} (d4 nN (.tr (insT c ts)::ds.map .imm))):Lm c nN fs w ds g:=by subst e;exact h
def WQ{r:List (Str×WE)}{w:WE}{K:List (Str×aD)->MSt->Prop}(h:w m λd m1=>onTr (λt=>wFs r m1 λts m2=>K ((f,t)::ts) m2) d):wFs ((f,w)::r) m K:=h
def VO{K:List (Str×aD)->MSt->Prop}(h:K [] m):wFs [] m K:=h
def Ye{d:aD}(h:P (lfD d)):onTr P (.imm d):=h
def WD(h:P (.list (ds.map lfD))):onTr P (.new ds):=h
def Wq(h:P t):onTr P (.newT t):=h
end
def XI(K:Kd)(to ti:TE):TE:=λe H Q=>to e H λx f=>ti e f λy b=>∃a kvs k d,x = .ref a/\IsDc K b a kvs/\oneK kvs k=true/\Den K b k y/\cE k kvs=some d/\∀v,Den K b d v->Q v b
section
variable {X:Cx}{o i:Expr}{w b:WE}{pos:Pos}{to ti:TE}
theorem PH(A:X.A.units+64<cLine)(z:PE X o to)(l:PE X i ti)(E:NoSl i):PE X (.Subscript o i pos) (XI X.kd to ti):=by
 intro e s g H Q I h;refine Cg afs.lookup E (thn (z e s g H _ I h) λu s1 ⟨x,L,m,D,B⟩=>thn (l e s1 g L _ m B) λO s2 ⟨y,q,f,r,a,kvs,k,d,ex,dc,ok,hk,G,J⟩=>?_);subst ex;obtain rfl:u=abm a:=D;exact⟨(f.dcT dc).1,yu A f dc ok hk r G λv M R j F hd=>⟨v,q,j,F,J v hd⟩⟩
abbrev SW(w b:WE):WE:=λm K=>w m λa m1=>b m1 λr m2=>kq (λk=>∃kvs d,dcM m2 kvs a/\oneK kvs k=true/\cE k kvs=some d/\K (.imm d) m2) r
theorem KI(x:X.A.units+64<cLine)(u:ME X o w)(l:ME X i b)(A:NoSl i:=by intro _ _;rfl):ME X (.Subscript o i pos) (SW w b):=(PH x u l A).wk<|by
 intro M H Q ⟨j,m,J,h,B,g⟩;refine⟨j,m,_,h,B,λI m1 G O k1 n1 e r D=>⟨j,m1,_,e,k1,λL m2 E s k2 n2 R f F=>?_⟩⟩;let⟨k,rfl,hk,kvs,d,q,ok,y,k2⟩:=gj f k2;let⟨a,rfl,dc⟩:=RelR.dc R (r.keep h e F) q (by
  rcases jD ok with z|z
  .exact .inl z.1
  .exact .inr z.1)
 exact⟨a,kvs,k,d,rfl,dc,ok,hk,y,λv hd=>g _ m2 v s k2 (n2.trans n1) R hd (D.trans F)⟩
theorem d6(h:X.A.units+64<cLine)(e:EE X o w)(a:EE X i b)(d:NoSl i:=by intro _ _;rfl):EE X (.Subscript o i pos) (SW w b):=⟨KI h e.h a.h d⟩
end
end L2
set_option maxHeartbeats 1100000
namespace L2
open PySem PySem.Spec PyProof.Rows
open Sem (wp)
variable{Q:Option Ad->GT->Prop}{H:Hp}{a:Addr}{o:Obj}{es:List (V×V)}{w:WS}{K:Kd}{kvs:List (aD×aD)}{P:List (aD×aD)->Prop}
structure EntAt(h:aa1)(d:Addr)(es:Array ab1)(ep:Nat):Prop where
 ex:∃o,h.get? d=some o/\o.ExactDict/\o.data = .dict es ep
section
variable {prog:aaI}{w:World}{A:abb}{E:Ad->GT->Prop}{s:GT}{it d:Addr}{es:Array ab1}{i ep:Nat}{ok ov:Ad}
def t8{Q:String->GT->Prop}(b:s.TypeIs (.ref it) "dict_itemiterator")(h:Q "dict_itemiterator" s):wpAny (model prog w) A (typeNameOfWhole (.ref it)) Q E s:=wpAny_typeNameOfWhole_itemiter b h
def yH{j n:Nat}{k v:Ad}{Q:Ad->GT->Prop}(c:adf s.heap it d j n ep ok ov)
  (M:∀h',afM h' it d j n ep k v s.heap.objs.size->h'.get? s.heap.objs.size=some {cls:=.type "tuple",data:=.seq #[k,v]}->h'.objs.size=s.heap.objs.size+1 ->
   (∀b o,b≠it->s.heap.get? b=some o->h'.get? b=some o)->Q (.ref s.heap.objs.size) {s with heap:=h' }):wpAny (model prog w) A (aca (.ref it) 6 k v) Q E s:=by
 have lt:it<s.heap.objs.size:=aal c;rcases s with⟨h,g,L,G,os⟩;refine gT (m:=newTuple [k,v]) (afi ?_);have F:(h.push {cls:=.type "tuple",data:=.seq #[k,v]}).objs.size=h.objs.size+1:=abv ..;have B:(h.push {cls:=.type "tuple",data:=.seq #[k,v]}).get? h.objs.size=some {cls:=.type "tuple",data:=.seq #[k,v]}:=aai _ rfl;have u:∀b o,h.get? b=some o->(h.push {cls:=.type "tuple",data:=.seq #[k,v]}).get? b=some o:=λb o q=>Io _ q;have e:adf (h.push {cls:=.type "tuple",data:=.seq #[k,v]}) it d j n ep ok ov:=u _ _ c;show wpAny _ _ (abX (.ref it) >>= _) _ _ ⟨h.push {cls:=.type "tuple",data:=.seq #[k,v]},g,L,G,os⟩;generalize h.push {cls:=.type "tuple",data:=.seq #[k,v]}=D at F B u e;refine gT (m:=abX (.ref it)) ?_;refine gT (m:=field (.ref it) 0) (abh e rfl (x:=.none) rfl (Ld ?_));refine gT (m:=field (.ref it) 6) (abh e rfl (x:=ok) rfl (gT (m:=field (.ref it) 7) (abh e rfl (x:=ov) rfl ?_)));refine gT (m:=acJ (.ref it) 6 k) (aaC e 'a' λO R s1=>?_);have p:adf O it d j n ep k ov:=R;refine gT (m:=acJ (.ref it) 7 v) (aaC p 'a' λU T s2=>?_);have t:adf U it d j n ep k v:=T;refine gT (m:=acJ (.ref it) 0 (ade h.objs.size)) (aaC t 'a' λJ I y=>?_);have r:afM J it d j n ep k v h.objs.size:=I;refine gT (m:=acJ (.ref it) 1 (.bool false)) (aaC r 'a' λf S z=>?_);have l:afM f it d j n ep k v h.objs.size:=S;have C:∀b o,b≠it->D.get? b=some o->f.get? b=some o:=λb o nb q=>z.extBut b o nb (y.extBut b o nb (s2.extBut b o nb (s1.extBut b o nb q)));have N:f.objs.size=D.objs.size:=by rw[z.1,y.1,s2.1,s1.1]
 exact gT (m:=letGo _ _) (afy (Ld (M f l (C _ _ (abt lt) B) (N.trans F) λb o nb q=>C b o nb (u b o q))))
theorem Ce(h:adf s.heap it d i es.size ep ok ov)(C:EntAt s.heap d es ep)(u:i<es.size)
  (y:∀h',afM h' it d (i+1) es.size ep es[i].key es[i].val s.heap.objs.size->h'.get? s.heap.objs.size=some {cls:=.type "tuple",data:=.seq #[es[i].key,es[i].val]}->h'.objs.size=s.heap.objs.size+1 ->
   (∀b o,b≠it->s.heap.get? b=some o->h'.get? b=some o)->Q (some (.ref s.heap.objs.size)) {s with heap:=h' }):wpAny (model prog w) A (aci (.ref it)) Q E s:=by
 let⟨G,f,D,e⟩:=C.ex;have c:s.TypeIs (.ref it) "dict_itemiterator":=(⟨_,h,rfl⟩);have own:abn "dict_itemiterator" = true:=by decide
 unfold aci;refine gT (ab6 (aaN (name:=abK "__next__") c abc (aaZ abc c acl ?_ (acf _))))
 wp_walk using t8 c,adB h rfl,acb f e,acu f e,abg c
 have v:(if (i:Int)<0 then none else es[((i:Nat):Int).toNat]?)=some es[i]:=by
  rw[if_neg ∅,aa6,abP u]
 rw[v];rcases s with⟨p,g,n,t,os⟩;refine gT ?_;refine gT (t8 c (Ld ?_));refine gT (m:=afk _ _) (abg c ?_);show wpAny _ _ (acJ (.ref it) 3 (ade ((i:Int)+1)) >>= _) _ _ _;refine gT (aaC h 'a' λj x s1=>?_);replace s1:abk it p j:=s1;have k:adf j it d (i+1) es.size ep ok ov:=by
  have q:((i+1:Nat):Int)=(i:Int)+1:=rfl;unfold adf;rw[q];simpa[ade]using x
 have T:aeK ⟨j,g,n,t,os⟩ (.ref it) "dict_itemiterator":=(⟨_,k,rfl⟩);refine gT (ab5 (gT (abg T (gT (abg T ?_)))));show wpAny _ _ (aca (.ref it) 6 es[i].key es[i].val) _ _ ⟨j,g,n,t,os⟩;have B:j.objs.size=p.objs.size:=s1.1;refine yH k λF l r z k2=>?_;rw[B]at l r z⊢;exact Ld ⟨_,rfl,Ld (y F l r z λb o nb q=>k2 b o nb (s1.extBut b o nb q))⟩
theorem z5(n:A.handled=none)(h:adf s.heap it d i es.size ep ok ov)(p:EntAt s.heap d es ep)(k:es.size≤i)
  (x:∀h',(∀b o,b≠it->s.heap.get? b=some o->h'.get? b=some o)->Q none {s with heap:=h' }):wpAny (model prog w) A (aci (.ref it)) Q E s:=by
 let⟨B,g,t,c⟩:=p.ex;have f:s.TypeIs (.ref it) "dict_itemiterator":=(⟨_,h,rfl⟩);have own:abn "dict_itemiterator" = true:=by decide
 unfold aci;refine gT (ab6 (aaN (name:=abK "__next__") f abc (aaZ abc f acl ?_ (acf _))))
 wp_walk using t8 f,adB h rfl,acb g c,acu g c,abg f
 have l:(if (i:Int)<0 then none else es[((i:Nat):Int).toNat]?)=none:=by
  rw[if_neg ∅,aa6,aer k]
 rw[l];refine gT (gT (t8 f (Ld ?_)));refine gT (m:=acJ (.ref it) 2 .none) (aaC h 'a' λy z s1=>?_);refine kM n λu e k2 ⟨r,j,v⟩=>?_;exact gT (acD (T:= "StopIteration") (b:=true) ⟨r,j,v⟩ aek (Ld (x u λb o nb q=>k2 b o (s1.extBut b o nb q))))
theorem EntAt.keep{h h':aa1}(x:EntAt h d es ep)(k:∀o,h.get? d=some o->h'.get? d=some o):EntAt h' d es ep:=let ⟨o,a,b,c⟩:=x.ex;⟨o,k o a,b,c⟩
theorem EntAt.ty(x:EntAt s.heap d es ep):s.TypeIs (.ref d) "dict":=let ⟨o,a,b,_⟩:=x.ex;⟨o,a,b.1⟩
def ym{Q:Ad->GT->Prop}(hd:(d==abB)=false)(b:EntAt s.heap d es ep)(h:Q (.ref s.heap.objs.size) {s with heap:=s.heap.push {cls:=.type "dict_items",data:=.fields #[.ref d]} }):wpAny (model prog w) A (call (.builtin "dict.items") [.ref d]) Q E s:=by
 refine ahl (S:=λ_ R s=>EntAt s.heap d es ep/\R (.ok (.ret (.ref s.heap.objs.size))) {s with heap:=s.heap.push {cls:=.type "dict_items",data:=.fields #[.ref d]} }) afX b.ty PySem.F.entry_dict_items (PySem.F.args_dict_items_1 _) (.of_wp λA R s ⟨c,h⟩=>?_) ⟨b,h⟩;refine gT (gT (aex c.ty ?_));refine Ld ?_;refine gT ?_;unfold aey;rw[hd];exact Ld (gT (abd (Ld ⟨_,rfl,h⟩)))
structure yK(h:aa1)(it d:Addr)(i n ep:Nat):Prop where
 e:h.get? it=some {cls:=.type "dict_keyiterator",data:=.fields #[.ref d,.int i 0,.int n 0,.int ep 0]}
def BQ{Q:Ad->GT->Prop}(hd:(d==abB)=false)(e:EntAt s.heap d es ep)
  (g:∀h',yK h' s.heap.objs.size d 0 es.size ep->(∀b o,s.heap.get? b=some o->h'.get? b=some o)->Q (.ref s.heap.objs.size) {s with heap:=h' }):wpAny (model prog w) A (afD (.ref d)) Q E s:=by
 let⟨j,c,f,h⟩:=e.ex;refine wpAny_pyIter_slot e.ty agf (aaZ agf e.ty PySem.F.entry_dict_iter ?_ (PySem.F.args_dict_iter_1 _));unfold ac4.«dict.__iter__» ac4.Dict.dictSlotNone;refine gT (gT (aex e.ty (Ld ?_)));refine gT (m:=aey d) ?_;unfold aey;rw[hd];refine Ld (gT (acb c h (gT (acu c h ?_))));refine gT (abd (Ld ⟨_,rfl,"dict_keyiterator",_,⟨_,aai _ rfl,rfl⟩,abC.lookup,?_⟩));exact g _ ⟨aai _ rfl⟩ λb o q=>Io _ q
def II{Q:String->GT->Prop}(b:s.TypeIs (.ref it) "dict_keyiterator")(h:Q "dict_keyiterator" s):wpAny (model prog w) A (typeNameOfWhole (.ref it)) Q E s:=wpAny_typeNameOfWhole_keyiter b h
theorem Ef(h:yK s.heap it d i es.size ep)(v:EntAt s.heap d es ep)(l:i<es.size)
  (r:∀h',yK h' it d (i+1) es.size ep->(∀b o,b≠it->s.heap.get? b=some o->h'.get? b=some o)->Q (some es[i].key) {s with heap:=h' }):wpAny (model prog w) A (aci (.ref it)) Q E s:=by
 let⟨y,f,x,e⟩:=v.ex;let⟨h⟩:=h;have c:s.TypeIs (.ref it) "dict_keyiterator":=(⟨_,h,rfl⟩);have own:abn "dict_keyiterator" = false:=by decide
 unfold aci;refine gT (ab6 (aaN (name:=abK "__next__") c abC (aaZ abC c adY ?_ (adL _))))
 wp_walk using II c,adB h rfl,acb f e,acu f e,ado c
 have m:(if (i:Int)<0 then none else es[((i:Nat):Int).toNat]?)=some es[i]:=by
  rw[if_neg ∅,aa6,abP l]
 rw[m];rcases s with⟨u,g,p,t,os⟩;refine gT ?_;refine gT (II c (Ld ?_));refine gT (ado c ?_);show wpAny _ _ (acJ (.ref it) 1 (ade ((i:Int)+1)) >>= _) _ _ _;refine gT (aaC h 'a' λk n s1=>?_);replace s1:abk it u k:=s1;have j:yK k it d (i+1) es.size ep:=by
  refine⟨?_⟩;have q:((i+1:Nat):Int)=(i:Int)+1:=rfl;rw[q];simpa[ade]using n
 have T:aeK ⟨k,g,p,t,os⟩ (.ref it) "dict_keyiterator":=(⟨_,j.e,rfl⟩);refine gT (ab5 (gT (ado T ?_)));exact Ld (Ld ⟨_,rfl,Ld (r k j λb o nb q=>s1.extBut b o nb q)⟩)
theorem D8(n:A.handled=none)(h:yK s.heap it d i es.size ep)(p:EntAt s.heap d es ep)(k:es.size≤i)
  (x:∀h',(∀b o,b≠it->s.heap.get? b=some o->h'.get? b=some o)->Q none {s with heap:=h' }):wpAny (model prog w) A (aci (.ref it)) Q E s:=by
 let⟨B,g,t,c⟩:=p.ex;let⟨h⟩:=h;have f:s.TypeIs (.ref it) "dict_keyiterator":=(⟨_,h,rfl⟩);have own:abn "dict_keyiterator" = false:=by decide
 unfold aci;refine gT (ab6 (aaN (name:=abK "__next__") f abC (aaZ abC f adY ?_ (adL _))))
 wp_walk using II f,adB h rfl,acb g c,acu g c,ado f
 have l:(if (i:Int)<0 then none else es[((i:Nat):Int).toNat]?)=none:=by
  rw[if_neg ∅,aa6,aer k]
 rw[l];refine gT (gT (II f (Ld ?_)));refine gT (m:=acJ (.ref it) 0 .none) (aaC h 'a' λy z s1=>?_);refine kM n λu e k2 ⟨r,j,v⟩=>?_;exact gT (acD (T:= "StopIteration") (b:=true) ⟨r,j,v⟩ aek (Ld (x u λb o nb q=>k2 b o (s1.extBut b o nb q))))
end
def DcE(H:Hp)(a:Addr)(o:Obj)(es:List (V×V)):Prop:=(∃x,H a=some (.frz o (dX a x))/\es=x.map (·.2))\/∃x,H a=some (.frz o (.dK x))/\es=x.map λp=>(kV p.1,p.2)
def DcE.mono{b:Hp}(p:Pers H b)(h:DcE H a o es):DcE b a o es:=by
 rcases h with⟨x,e,q⟩|⟨x,e,q⟩
 .exact .inl ⟨x,p.frzs _ _ _ e,q⟩
 .exact .inr ⟨x,p.frzs _ _ _ e,q⟩
section
variable {X:Cx}{p:List 'i'}{b:St}{H:Hp}{s:GT}
def AC{P:aaI}{w:World}{kk:Key}{u:Ad}(e:(cg P w).is kk u=true):RelV (kV kk) u:=by
 rcases bW e with⟨i,t,rfl,rfl⟩|⟨x,t,rfl,rfl⟩
 .exact⟨t,rfl⟩
 .exact⟨t,rfl⟩
theorem Inv.dce(I:Inv X p b H s)(h:DcE H a o es):(a==abB)=false/\∃c f,s.heap.get? a=some o/\o.ExactDict/\o.data = .dict c f/\abQ (λ(e:V×V) (d:ab1)=>RelV e.1 d.key/\RelV e.2 d.val) es c.toList:=by
 rcases h with⟨x,e,rfl⟩|⟨x,e,rfl⟩
 .obtain⟨ho,⟨hs,hz,o',c,f,h1,h2,h3,h4⟩,_⟩:=(I.hok a _ e);rw[ho]at h1;cases h1;refine⟨hs,c,f,ho,h2,h3,?_⟩;clear e hz;generalize c.toList=l at h4;rename_i z;clear z
  induction h4 with
  |nil=>exact .nil
  |cons q _ i=>exact .cons q.2 i
 .obtain⟨ho,hz,hs,vs,kv,o',c,f,h1,h2,h3,h4,h5,h6⟩:=(I.hok a _ e);rw[ho]at h1;cases h1;refine⟨hs,c,f,ho,h2,h3,?_⟩;generalize c.toList=l at h5;clear h6 h4 h3 h2 hz e
  induction kv generalizing l with
  |nil=>cases h5;exact .nil
  | cons q _ i=>
   cases h5 with
   |cons g j k=>
    rw[aam];refine .cons ⟨?_,?_⟩ (i _ k)
    .rw[<-q.1]at g;exact AC g
    .rw[j];exact q.2
end
def Itk(a:Addr)(o:Obj)(es:List (V×V)):It where
 go:=λi H=>DcE H a o es/\i<es.length
 yld:=λi H v b=>b=H/\∃p,es[i]?=some p/\v=p.1
 stop:=λi H=>DcE H a o es/\es.length≤i
theorem Paired.at{b β:Type}{R:b->β->Prop}:∀{xs:List b}{ys:List β}{i:Nat}{y:β},abQ R xs ys->ys[i]?=some y->∃x,xs[i]?=some x/\R x y
 |_,_,i,y,.nil,e=>by simp at e
 |_,_,0,y,.cons h _,e=>by simp at e;subst e;exact⟨_,rfl,h⟩
 |_,_,i+1,y,.cons _ t,e=>by
  let⟨x,c,d⟩:=Paired.at t ‹_›;exact⟨x,by simpa using c,d⟩
theorem AH{P:aaI}{w:World}{K:aae}{tg:Expr}{j:Addr}{e:Array ab1}{M:Nat}(x:o.data = .dict e M):Turn P w K tg (Itk a o es) [j] j (λi h=>yK h j a i e.size M) where
 mem:=by simp
 obj:=λi h d c f=>by
  cases aad.mp f
  exact⟨_,d.e,λv q=>by cases q⟩
 keep:=λi h G d k=>⟨k j 'a' _ d.e⟩
 item:=by
  intro X C B J f i r s S H E I u d A;subst C B J;let⟨dc,N⟩:=A;let⟨_,g,D,L,F,l,t⟩:=I.dce dc;rw[x]at l;cases l;have U:es.length=e.size:=by have:=t.length;simpa using this
  have m:i<e.size:=by omega
  let⟨p,O,T,V⟩:=Paired.at t (i:=i) (y:=e[i]) (by simp[m]);refine Ef d ⟨o,L,F,x⟩ m λG a1 a2=>⟨_,rfl,GF (s:={s with heap:=G }) (n:= "dict_keyiterator") a1.e rfl rfl ⋯ ⟨p.1,H,?_,T,⟨rfl,p,O,rfl⟩,a1,λb R=>(u b R).1⟩⟩;exact I.turneds (t':=s.toks) (ch:=[j]) (λc o f q=>a2 c o (λz=>f (by simp[z])) q) u
 done:=by
  intro X C B J f i r s S H E I u d A;subst C B J;let⟨dc,N⟩:=A;let⟨_,g,D,L,F,l,t⟩:=I.dce dc;rw[x]at l;cases l;have U:es.length=e.size:=by have:=t.length;simpa using this
  exact D8 (I.ok.hd f) d ⟨o,L,F,x⟩ ∅ λG hk=>⟨rfl,I.turneds (t':=s.toks) (ch:=[j]) (λc o f q=>hk c o (λz=>f (by simp[z])) q) u⟩
 self:=λ_ _ _ _ _ d h=>wpAny_pyIter_keyiter ⟨_,d.e,rfl,rfl⟩ h
theorem vE{K:Kd}{H:Hp}:∀{kvs:List (aD×aD)}{xs:List (Int×V×V)},DenKV K H kvs xs->abQ (λ(p:aD×aD) (e:V×V)=>Den K H p.1 e.1/\Den K H p.2 e.2) kvs (xs.map (·.2))
 |[],_,h=>by simp[DenKV]at h;subst h;exact .nil
 |_::r,_,h=>by
  let⟨u,v,vs,rfl,b,c,d⟩:=h;exact .cons ⟨b,c⟩ (vE d)
theorem vo{K:Kd}{H:Hp}:∀{kvs:List (aD×aD)}{xs:List (Key×V)},DenKK K H kvs xs->abQ (λ(p:aD×aD) (e:V×V)=>Den K H p.1 e.1/\Den K H p.2 e.2) kvs (xs.map λp=>(kV p.1,p.2))
 |[],_,h=>by simp[DenKK]at h;subst h;exact .nil
 |(k,d)::r,_,h=>by
  let⟨c,v,vs,rfl,⟨rfl,_⟩,b,f⟩:=h;refine .cons ⟨?_,b⟩ (vo f)
  cases c with
  |inl i=>exact uK i
  |inr x=>exact L8 x
abbrev PDc(K:Kd)(H:Hp):List (aD×aD)->List (V×V)->Prop:=abQ λp e=>Den K H p.1 e.1/\Den K H p.2 e.2
theorem PDc.mono{b:Hp}(p:Pers H b)(h:PDc K H kvs es):PDc K b kvs es:=by
 induction h with
 |nil=>exact .nil
 |cons h _ i=>exact .cons ⟨h.1.mono p,h.2.mono p⟩ i
theorem UD{v:V}(h:Den K H (.dict kvs) v)(hk:isKd kvs=true\/kyA kvs=true):∃a o es,v = .ref a/\DcE H a o es/\PDc K H kvs es:=by
 obtain _:=o7 hk;let⟨a,rfl,h⟩:=h;rcases h with⟨x,⟨o,f⟩,k,g⟩|⟨x,o,f,g⟩|⟨c,x,e,_⟩
 .exact⟨a,o,_,rfl,.inl ⟨x,f,rfl⟩,vE g⟩
 .exact⟨a,o,_,rfl,.inr ⟨x,f,rfl⟩,vo g⟩
 .grind
def gc(kvs:List (aD×aD)):List aD:=kvs.map λp=>.tuple [p.1,p.2]
def ux(kvs:List (aD×aD)):List aD:=kvs.map (·.1)
theorem Paired.at1{b β:Type}{R:b->β->Prop}:∀{xs:List b}{ys:List β}{i:Nat}{x:b},abQ R xs ys->xs[i]?=some x->∃y,ys[i]?=some y/\R x y
 |_,_,i,y,.nil,e=>by simp at e
 |_,_,0,y,.cons h _,e=>by simp at e;subst e;exact⟨_,rfl,h⟩
 |_,_,i+1,y,.cons _ t,e=>by
  let⟨x,c,d⟩:=Paired.at1 t ‹_›;exact⟨x,by simpa using c,d⟩
def FC:Wks K (Itk a o es) (ux kvs) λH=>DcE H a o es/\PDc K H kvs es where
 stop:=λH ⟨q,g⟩=>⟨q,by unfold ux;rw[iO,g.length];exact aab _⟩
 go:=λi H h ⟨q,g⟩=>⟨q,by unfold ux at h;rw[iO,g.length]at h;exact h⟩
 yld:=by
  intro i H x f h ⟨q,g⟩ y;let⟨rfl,u,e,rfl⟩:=y;let⟨p,c,d,j⟩:=Paired.at g e;exact⟨λb o z=>z,p.1,by unfold ux;rw[aaj,c];rfl,d⟩
section
variable {X:Cx}{tg o:Expr}{e:List Expr}{g:Nat}{t:Pos}{w:WE}{b f:Pos}
def Xo(to:TE):TI:=λd H R=>to d H λx c=>∃a o es,x = .ref a/\DcE c a o es/\R (Itk a o es) c
theorem Kh{to:TE}(l:PE X o to):PI X tg o (Xo to):=by
 intro p s z H R I h;refine thn (l p s z H _ I h) λv s1 ⟨x,A,d,r1,m⟩=>?_;let⟨a,y,es,rfl,dc,q⟩:=m;cases r1;let⟨n,j,D,u,k,i,B⟩:=d.dce dc;refine BQ n ⟨y,u,k,i⟩ λC Z hk=>?_;refine⟨_,[_],_,_,A,rfl,d.kept (t':=s1.toks) hk,AH i,Z,λc r=>?_,q⟩
 cases aad.mp r
 exact d.fpOk (aab _) (d.hok.fresh (aab _))
def onDc(P:List (aD×aD)->Prop):R->Prop
 | .imm (.dict kvs)=>(isKd kvs||kyA kvs)=true/\P kvs
 |_=>False
theorem W4{l:Al}{c:Hp}{r:R}{v:V}(h:RelR K l c H r v)(k:onDc P r):∃kvs a o es,v = .ref a/\DcE H a o es/\PDc K H kvs es/\P kvs:=by
 cases r with
 | imm d=>
  cases d with
  |dict kvs=>
   let⟨k1,k2⟩:=k;let⟨a,o,es,j,i,m⟩:=UD (h) (by simp_all);exact⟨kvs,a,o,es,j,i,m,k2⟩
  |none=>exact k.elim
  |bool _=>exact k.elim
  |int _=>exact k.elim
  |str _=>exact k.elim
  |list _=>exact k.elim
  |tuple _=>exact k.elim
 |_=>exact k.elim
abbrev JL(w:WE):WI:=λm K=>w m λr c=>onDc (λkvs=>K ⟨ux kvs,none⟩ c) r
theorem MX(h:ME X o w):MI X tg o (JL w):=(Kh h).wk<|by
 intro D H z ⟨j,m,C,d,u,c⟩;refine⟨j,m,_,d,u,λr i v q k n R rr F=>?_⟩;let⟨kvs,a,s,es,rfl,dc,l,k⟩:=W4 rr k;exact⟨a,s,es,rfl,dc,c _ i _ q k n R F ⟨_,FC,⟨dc,l⟩,λB A ⟨x,y⟩ p=>⟨x.mono p,y.mono p⟩⟩⟩
def w5(h:EE X o w):EI X tg o (JL w):=⟨MX h.h⟩
def Jk(hk:(isKd kvs||kyA kvs)=true)(h:P kvs):onDc P (.imm (.dict kvs)):=⟨hk,h⟩
end
noncomputable def putX (k:aD) (b:Addr) (r:Ad):List (aD×Addr×Ad)->List (aD×Addr×Ad)
 |[]=>[(k,b,r)]
 |x::xs=>if x.1=k then(x.1,x.2.1,r)::xs else x::putX k b r xs
theorem wQ{k:aD}{r:Ad}:∀{xs:List (aD×Addr×Ad)},k∉xs.map (·.1)->xs.map (putAt k r)=xs
 |[],_=>rfl
 |x::xs,h=>by
  rw[aam,aag,not_or]at h;rw[aam,wQ h.2];unfold putAt;rw[if_neg (λz=>h.1 z.symm)]
theorem mZ{k:aD}{b:Addr}{r:Ad}:∀{xs:List (aD×Addr×Ad)},(xs.map (·.1)).Nodup->storedH xs k b r=putX k b r xs
 |[],_=>rfl
 | x::xs,h=>by
  rw[aam,abe]at h
  by_cases e:x.1=k
  .have a:atKey (x::xs) k=some x.2:=by simp[atKey,e]
   rw[storedH_old a,aam,wQ (by rw[<-e];exact h.1)];unfold putX putAt;rw[if_pos e,if_pos e]
  .have a:atKey (x::xs) k=atKey xs k:=by simp[atKey,e]
   have i:=mZ (k:=k) (b:=b) (r:=r) h.2;unfold putX;rw[if_neg e,<-i];unfold storedH;rw[a];split
   .rw[aam];unfold putAt;rw[if_neg e]
   .rfl
noncomputable def putE (w:World) (k:aD) (y v:V):List (aD×aD)->List (Int×V×V)->List (Int×V×V)
 |(k',_)::r,e::es=>if k'=k then(e.1,e.2.1,v)::es else e::putE w k y v r es
 |_,_=>[(im w k,y,v)]
def Aq{k d k' d':aD}{r:List (aD×aD)}(h:kyD k'=true)(hk:kyD k=true):putP k d ((k',d')::r)=if k'=k then(k',d)::r else(k',d')::putP k d r:=by
 show(if aaa k' k=true then _ else _)=_;rw[s9 _ _ (ot h) (ot hk)];simp
theorem xV(w:World)(k:aD)(y v:V):∀(kvs:List (aD×aD)) (es:List (Int×V×V)),kvs.length=es.length->(putE w k y v kvs es).length≤es.length+1
 |[],[],_=>aab _
 |_::r,e::es,h=>by
  unfold putE;split
  .simp
  .rw[aat,aat];have:=xV w k y v r es (by simpa using h);omega
 |[],_::_,h=>by simp at h
 |_::_,[],h=>by simp at h
theorem v8{K:Kd}{H:Hp}{k d:aD}{y v:V}(hk:kyD k=true)(dk:Den K H k y)(b:Den K H d v):∀{kvs:List (aD×aD)}{es:List (Int×V×V)},kyA kvs=true->DenKV K H kvs es->DenKV K H (putP k d kvs) (putE K.w k y v kvs es)
 |[],es,_,g=>by
  subst g;show DenKV K H [(k,d)] [(im K.w k,y,v)];simp only[DenKV];exact⟨y,v,[],rfl,dk,b,rfl⟩
 |(k',d')::r,es,ha,g=>by
  rw[kyA,ab7,aaG]at ha;let⟨u,h,vs,rfl,c,i,f⟩:=g;rw[Aq ha.1 hk];unfold putE
  by_cases e:k'=k
  .rw[if_pos e,if_pos e];simp only[DenKV];exact⟨u,v,vs,rfl,c,b,f⟩
  .rw[if_neg e,if_neg e];simp only[DenKV];exact⟨u,h,_,rfl,c,i,v8 hk dk b ha.2 f⟩
theorem J3{w:World}{k:aD}{b:Addr}{v:V}{r:Ad}(d:RelV v r):∀{kvs:List (aD×aD)}{es:List (Int×V×V)}{xs:List (aD×Addr×Ad)},xs.map (·.1)=kvs.map (·.1)->ExV w es xs->ExV w (putE w k (.ref b) v kvs es) (putX k b r xs):=by
 intro kvs
 induction kvs with
 |nil=>
  intro es xs hk ex;have:=by simpa using hk
  subst this;exact .cons ⟨rfl,rfl,d⟩ .nil
 | cons q kvs i=>
  intro es xs hk ex;let⟨e,f⟩:=q
  cases ex with
  |nil=>simp at hk
  |cons h t=>
   simp at hk;unfold putE putX
   by_cases c:e=k
   .rw[if_pos c,if_pos (hk.1.trans c)];exact .cons ⟨h.1,h.2.1,d⟩ t
   .rw[if_neg c,if_neg (λz=>c (hk.1.symm.trans z))];exact .cons h (i hk.2 t)
def DxM(K:Kd)(H:Hp)(a:Addr)(kvs:List (aD×aD))(es:List (Int×V×V)):Prop:=
 DenKV K H kvs es/\(kvs.map (·.1)).Nodup/\kyA kvs=true/\((H a=some (dX a es)/\kvs≠[])\/(H a=some (.dK [])/\kvs=[]))
section
variable {X:Cx}{c:List 'i'}{i:St}{H:Hp}{s:GT}{a:Addr}{kvs:List (aD×aD)}{f:List (Int×V×V)}{k d:aD}{y v:V}{u r:Ad}{A:abb}{E:Ad->GT->Prop}
def DxM.is(I:Inv X c i H s)(h:DxM X.kd H a kvs f):(a==abB)=false/\∃xs,s.heap.DictOfH (lC X.prog X.w) a xs/\PxV X.kd H kvs xs/\ExV X.w f xs:=by
 obtain⟨g,nd,ky,⟨q,_⟩|⟨q,rfl⟩⟩:=h
 .obtain⟨hs,_,xs,dd,p,e⟩:=I.dcE (.inl q) g nd ky;exact⟨hs,xs,dd,p,e⟩
 .obtain⟨hs,dd⟩:=I.dc0 (.inl q);subst g;exact⟨hs,[],dd,.nil,.nil⟩
theorem Uj{Q:Unit->GT->Prop}(z:A.units+20<cLine)(I:Inv X c i H s)(h:DxM X.kd H a kvs f)(hk:kyD k=true)(dk:Den X.kd H k y)(t:RelV y u)(N:RelV v r)(Z:kvs.length<aak)
  (m:∀s',Inv X c i (upd H a (dX a (putE X.w k y v kvs f))) s'->Q () s'):wpAny (model X.prog X.w) A (dictSet a u r) Q E s:=by
 let⟨G,x,B,p,ex⟩:=h.is I;let⟨b,rfl⟩:=qZ hk dk;cases (t);have le:f.length=kvs.length:=h.1.len.symm;have U:x.length=kvs.length:=by have:=congrArg adx p.keys;simpa using this
 refine wpAny_dictSet_heap (knd:=lC X.prog X.w) z (I.ky hk dk) B (λS g j=>m _ ?_) ∅;rw[mZ (by rw[p.keys];exact h.2.1)]at g;let⟨o,e,C,l,O,D,n,L,M⟩:=g;have mu:Mut (H a):=by
  rcases h.2.2.2 with⟨q,_⟩|⟨q,_⟩
  .rw[q];exact trivial
  .rw[q];exact trivial
 refine qK I mu j ⟨o,l⟩ ⟨⟨G,?_,o,e,C,l,O,D,?_⟩,⟨o,l⟩,λW T F R=>?_⟩
 .have:=xV X.w k (.ref b) v kvs f le.symm;omega
 .rw[n];have:=J3 (w:=X.w) (k:=k) (b:=b) N p.keys ex;generalize putE X.w k (.ref b) v kvs f=Y at this;generalize putX k b r x=V at this;clear n L M
  induction this with
  |nil=>exact .nil
  |cons q _ J=>exact .cons ⟨q.1.symm,by rw[q.2.1];rfl,q.2.2⟩ J
 .obtain⟨z1,z2,o',ents',ep',z3,z4⟩:=F;exact⟨z1,z2,o',ents',ep',R o' z3,z4⟩
theorem ye{Q:Unit->GT->Prop}(t:A.units+64<cLine)(I:Inv X c i H s)(h:DxM X.kd H a kvs f)(hk:kyD k=true)(dk:Den X.kd H k y)(g:RelV y u)(j:RelV v r)(n:kvs.length<aak)
  (e:∀s',Inv X c i (upd H a (dX a (putE X.w k y v kvs f))) s'->Q () s'):wpAny (model X.prog X.w) A (setItem (.ref a) u r) Q E s:=by
 let⟨q,x,b,p,ex⟩:=h.is I;refine ab5 ?_;refine gT (afv b.typeIs ⋯ ?_);refine gT (aaN b.typeIs slot_dict_setitem (aaZ slot_dict_setitem b.typeIs entry_dict_setitem ?_ (args_dict_setitem _ _ _)));refine gT (aex b.typeIs ?_);refine gT (m:=dictSet a u r) (Uj (by grind) I h hk dk g j n λs' l=>Ld ⟨.none,rfl,Ld (e s' l)⟩)
end
def Ua(K:Kd)(t ty e:TE):TS:=λD b H=>e b H λv f=>t b f λx d=>ty b d λy c=>∃a kvs es k,x = .ref a/\DxM K c a kvs es/\kyD k=true/\Den K c k y/\kvs.length<aak/\D.nx b (upd c a (dX a (putE K.w k y v kvs es)))
section
variable {X:Cx}{o i e:Expr}{A B E:WE}{pos f:Pos}{G ty J:TE}
theorem GU(g:X.A.units+64<cLine)(L:PE X o G)(c:PE X i ty)(t:PE X e J)(N:abG e (some (.Subscript o i f)) pos.line X.env=pure false):PS X (.Assign [.Subscript o i f] e pos) (Ua X.kd G ty J):=by
 intro p s b H D I h;refine agc (thn (t p s b H _ I h) λr s1 ⟨v,S,d,m,j⟩=>thn (L p s1 b S _ d j) λu s2 ⟨x,F,O,l,R⟩=>thn (c p s2 b F _ O R) λV T ⟨y,W,C,z,a,kvs,es,k,ex,dx,ky,dk,n,q⟩=>?_) N;subst ex;obtain rfl:u=abm a:=l;exact ye g C dx ky dk z m n λU M=>⟨b,_,M,q⟩
theorem mD{k d:aD}(hk:kyD k=true):∀{kvs:List (aD×aD)},kyA kvs=true->(putP k d kvs).map (·.1)=if k∈kvs.map (·.1)then kvs.map (·.1)else kvs.map (·.1)++[k]
 |[],_=>rfl
 | (k',d')::r,h=>by
  rw[kyA,ab7,aaG]at h;rw[Aq h.1 hk]
  by_cases e:k'=k
  .rw[if_pos e,if_pos (by simp[e])];rfl
  .rw[if_neg e,aam,mD hk h.2]
   by_cases c:k∈r.map (·.1)
   .rw[if_pos c,if_pos (by simp[c])];rfl
   .rw[if_neg c,if_neg (by simp only[aam,aag,not_or];exact⟨λz=>e z.symm,c⟩)];rfl
theorem yO{k d:aD}(hk:kyD k=true)(h:kyA kvs=true)(nd:(kvs.map (·.1)).Nodup):((putP k d kvs).map (·.1)).Nodup:=by
 rw[mD hk h];split
 .omega
 .rename_i c;exact acR.mpr ⟨nd,'a',λa j b g=>by simp at g;subst g;exact λz=>c (z▸j)⟩
theorem v6{k d:aD}(hk:kyD k=true)(h:kyA kvs=true):kyA (putP k d kvs)=true:=by
 have e:∀l:List _,kyA l=(l.map _).all kyD:=λl=>by unfold kyA;rw[aeq];rfl
 rw[e,mD hk h];rw[e]at h;split
 .exact h
 .rw[List.all_append,h];simp[hk]
theorem Ng(k d:aD)(kvs:List (aD×aD)):putP k d kvs≠[]:=by
 cases kvs with
 |nil=>intro h;cases h
 |cons x r=>
  show(if _ then _ else _)≠_
  split<;>simp
theorem GM(h:kyA kvs=true)(n:kvs≠[]):isKd kvs=false:=by
 cases kvs with
 |nil=>exact(n rfl).elim
 |cons x r=>
  let⟨k,d⟩:=x;rw[kyA,ab7,aaG]at h;let⟨ds,rfl,_⟩:=iu h.1;rfl
def sk(h:kyA kvs=true)(n:kvs≠[])(nd:(kvs.map (·.1)).Nodup):CN kvs:=
 ⟨GM h n,nd,λk hk=>by
  let⟨x,b,rfl⟩:=aar.mp hk;exact ot (abM.mp h x b)⟩
abbrev Je(E A B:WE):WS:=λD m=>E m λr m1=>kq (λd=>A m1 λg m2=>B m2 λc b=>onAt (λk p=>kq (λy=>∃t kvs,b.os[k]?=some [t]/\getT t p=some (.dict (lfKV kvs))/\okW t p=true/\kyA kvs=true/\kyD y=true/\kvs.length<aak/\D.nx {b with os:=b.os.set k [setT t p (.dict (lfKV (putP y d kvs)))]}) c) g) r
def BF(kvs:List (aD×aD)):kyA (lfKV kvs)=kyA kvs:=by
 unfold kyA lfKV;rw[aeq];rfl
theorem Rel.dx{K:Kx}{l:Al}{m:MSt}{x:St}{k:Nat}{τ:List 'h'}{p:List Nat}{t:aD}(R:Rel K l m x H)(r:l[k]?=some (.T τ))(q:τ.lookup p=some a)(u:m.os[k]?=some [t])(s:getT t p=some (.dict (lfKV kvs)))(ky:kyA kvs=true):∃es,DxM K H a kvs es:=by
 let⟨⟨I,y,z,g,_⟩,_⟩:=R.own k (.T τ) _ r u;cases z;let⟨F,g⟩:=g.get s;rw[abi]at g;let⟨n1,n2⟩:=o7 (.inr (by rw[BF];exact ky));rcases g with⟨d,h,_⟩|⟨_,_,b,es,h,v,j,n,g⟩|⟨_,_,b,es,h,v,j,g⟩|⟨c,b,dx,C,D,L,_⟩
 .rw[n1]at h;cases h
 .rw[q]at h;cases h;exact⟨es,fzKV g,by rw[<-je];exact n.2.1,ky,.inl ⟨j,λz=>by subst z;exact absurd n.1 ⋯⟩⟩
 .simp_all
  let⟨rfl,rfl⟩:=Sd (fzKK g) ky;exact⟨[],by simp only[DenKV],abV,rfl,.inr ⟨j,rfl⟩⟩
 .grind
theorem GC(hu:X.A.units+64<cLine)(he:ME X e E)(ho:ME X o A)(hi:ME X i B)(hs:abG e (some (.Subscript o i f)) pos.line X.env=pure false:=by rfl):MS X (.Assign [.Subscript o i f] e pos) (Je E A B):=(GU hu ho hi he hs).wk<|by
 intro D σ H ⟨N,m,De,Rl,hw,k⟩;refine⟨N,m,_,Rl,hw,λr m1 v H1 q n1 I rr F1=>?_⟩;let⟨d,er,hd,q⟩:=gj rr q;refine⟨N,m1,_,I,q,λro m2 ov H2 q2 n2 M W F2=>⟨N,m2,_,M,q2,λri m3 T s x n3 R rr3 F3=>?_⟩⟩;let⟨kk,p,L,a,rfl,O,n,rfl,x⟩:=x8 W x;let⟨y,rfl,hy,t,kvs,e3,et,okw,ky,h,hl,x⟩:=gj rr3 x;let⟨es,dx⟩:=R.dx O n e3 et ky;have hd3:Den X.kx s d v:=(hd.mono (I.pers F2)).mono (M.pers F3);let⟨⟨t1,v0,z,g,a0,V,U⟩,mu⟩:=R.own kk (.T L) _ O e3;cases z;let⟨u0,Y,mu0⟩:∃u,s a=some u/\Mu u=true:=by
  rcases dx.2.2.2 with⟨q,_⟩|⟨q,_⟩
  .exact⟨_,q,rfl⟩
  .exact⟨_,q,rfl⟩
 have F:Pers s (upd s a (dX a (putE X.w y T v kvs es))):=bj (.inr ⟨u0,Y,mu0⟩);have ok:=sk (kvs:=putP y d kvs) (v6 h ky) (Ng y d kvs) (yO h ky dx.2.1);have nd:(L.map (·.2)).Nodup:=((fE N).mp R.nd).1 (.T L) (LD O);have new:TAt X.kx (upd s a (dX a (putE X.w y T v kvs es))) L p (.dict (lfKV (putP y d kvs))) (.ref a):=by
  let⟨z1,z2⟩:=o7 (.inr (by rw[BF];exact v6 h ky):isKd (lfKV (putP y d kvs))=true\/kyA (lfKV (putP y d kvs))=true);simp only[TAt];refine .inr (.inl ⟨z1,z2,a,_,n,rfl,ay,⟨by rw[uG];exact ok.1,by rw[je];exact ok.2.1,by rw[je];exact ok.2.2⟩,SE ?_⟩);exact v8 h (hy.mono F) (hd3.mono F) ky (DenKV.mono F dx.1)
 have all:TAt X.kx (upd s a (dX a (putE X.w y T v kvs es))) L [] (setT t p (.dict (lfKV (putP y d kvs)))) v0:=TAt.set nd F g et okw (by rw[abi];exact n) (by rw[abi];exact new) λu l=>by
  let⟨z1,z2⟩:=o7 (.inr (by rw[BF];exact ky):isKd (lfKV kvs)=true\/kyA (lfKV kvs)=true);rw[abi]at l;simp only[TAt]at l;rcases l with⟨d,j,_⟩|⟨_,_,b,es,j,S,_⟩|⟨_,_,b,es,j,S,_⟩|⟨c,b,dx,C,xs,y0,_⟩
  .rw[z1]at j;cases j
  .rw[n]at j;cases j;exact S
  .rw[n]at j;cases j;exact S
  .rw[z2]at y0;cases y0
 let⟨R4,F4⟩:=R.setW O F (ds':=[setT t p (.dict (lfKV (putP y d kvs)))]) (λb Z=>av λeb=>Z (eb▸bC n)) ⟨⟨_,v0,rfl,all,a0,V,U⟩,λb Z=>by
  by_cases eb:b=a
  .subst eb;exact⟨_,ay,rfl⟩
  .rw[av eb];exact mu b Z⟩
 exact⟨a,kvs,es,y,rfl,dx,h,hy,hl,k.nx N _ σ _ x (n3.trans (n2.trans n1)) R4 (.of R4 (((F1.trans F2).trans F3).trans F4))⟩
def jo(g:X.A.units+64<cLine)(h:EE X e E)(d:EE X o A)(b:EE X i B)(c:abG e (some (.Subscript o i f)) pos.line X.env=pure false:=by rfl):ES X (.Assign [.Subscript o i f] e pos) (Je E A B):=⟨GC g h.h d.h b.h c⟩
def wFzX(w:WS):WS:=λD m=>∃(k j:Nat) (kvs:List (aD×aD)) (b:List Nat) (m2:MSt),m.vs[j]?=some (some (.at k []))/\m.os[k]?=some [.dict (lfKV kvs)]/\kyA kvs=true/\Fz k (.dict kvs) b m m2/\w D m2
theorem Qx{st:Stmt}(h:MS X st w):MS X st (wFzX w):=(Uu h).wk<|by
 intro D u H ⟨I,m,y,R,⟨k,x,kvs,L,m2,ej,t,ky,F,r⟩,g⟩;let⟨v,z,C,a,c,d,rfl⟩:=R.var x _ ej;let⟨es,dx⟩:=R.dx c d t (p:=[]) rfl ky;have n:∀(j:Nat) (v:V),(m.vs[j]?=some (some (.obj k))\/m.vs[j]?=some (some (.at k [])))->u[j]?=some (some v)->v = .ref a:=λj v b s=>by
  rcases b with b|b
  .obtain⟨v',ev',a',ea',_⟩:=R.var j _ b;rw[c]at ea';cases ea'
  .obtain⟨v',ev',τ',a',ea',el',rfl⟩:=R.var j _ b
   grind
 rcases dx.2.2.2 with⟨q,ne⟩|⟨q,rfl⟩
 .refine vj R g F c (bC d) q rfl rfl (λo l=>?_) n r;simp only[Den];exact⟨a,rfl,.inl ⟨es,⟨o,ay⟩,sk ky ne dx.2.1,DenKV.mono l dx.1⟩⟩
 .refine vj R g F c (bC d) q rfl rfl (λo l=>?_) n r;simp only[Den];exact⟨a,rfl,.inr (.inl ⟨[],o,ay,by simp only[DenKK]⟩)⟩
def Av{st:Stmt}(h:ES X st w):ES X st (wFzX w):=⟨Qx h.h⟩
def Vm{D:de}{m:MSt}(k j:Nat)(kvs:List (aD×aD))(b:List Nat)(m2:MSt)(g:m.vs[j]?=some (some (.at k [])))(c:m.os[k]?=some [.dict (lfKV kvs)])(d:kyA kvs=true)(F:Fz k (.dict kvs) b m m2)(h:w D m2):wFzX w D m:=⟨k,j,kvs,b,m2,g,c,d,F,h⟩
end
section
variable {X:Cx}
def OA{m:MSt}{r2:R}{n:Bool}{k:aD}{b:R->Prop}(c:dcM m kvs r2)(e:oneK kvs k=true)(h:b (.imm (.bool (if n=true then !(cE k kvs).isSome else(cE k kvs).isSome)))):oInD n (.imm k) r2 m b:=⟨kvs,c,e,h⟩
def bx{ds:List aD}{g:WG}{D:de}{m1:MSt}(P:Nat->MSt->Prop)(p0:P 0 m1)
  (step:∀(i:Nat) (d:aD) (m:MSt),ds[i]?=some d->m.np=m1.np->P i m->∀c:de,(∀b,P (i+1) b->c.nx b)->(∀r b,D.rt r (b.setN m1.np)->c.rt r b)->g d m λm2=>w c m2)
  (f:∀m,m.np=m1.np->P ds.length m->D.nx m):mX ⟨ds,none⟩ g w D m1:=dB P p0 (λi d m e n p=>step i d m e n p _ (λ_ z=>z) λ_ _ z=>z) f
theorem aB{e:Expr}{b:WE}{pos p:Pos}{x:Str}(i:Nat)(c:X.N.Nodup)(h:EE X e b)(d:X.N[i]?=some x:=by rfl)(j:Loc X.env.scope x:=by exact afG rfl)(f:abG e (some (.Name x p)) pos.line X.env=pure false:=by rfl)(g:X.fn x=true\/X.env.scope.names.lookup x=some .local:=by first|exact .inl rfl|exact .inr rfl|assumption):ES X (.Assign [.Name x p] e pos) (wSet i b):=gl c d j h f g
theorem ah{pos:Pos}{x:Str}(i:Nat)(h:X.N.Nodup)(b:X.N[i]?=some x:=by rfl)(d:Loc X.env.scope x:=by exact afG rfl)(c:X.fn x=true\/X.env.scope.names.lookup x=some .local:=by first|exact .inl rfl|exact .inr rfl|assumption):EG X (.Name x pos) (gM i):=pq h b d c
end
end L2
namespace L2
open PySem
def mf{k:Nat}{ds a:List aD}{g:WG}{w:WS}{D:de}{m1:MSt}(P:Nat->MSt->Prop)(p0:P 0 (m1.setN (max m1.np (k+1))))(ok:∀i m,P i m->m.os[k]?=some a)(step:∀(i:Nat) (d:aD) (m:MSt),ds[i]?=some d->m.np=max m1.np (k+1)->P i m->∀c:de,(∀b,P (i+1) b->c.nx b)->(∀r b,D.rt r (b.setN m1.np)->c.rt r b)->g d m λm2=>w c m2)(f:∀m,m.np=max m1.np (k+1)->P ds.length m->D.nx (m.setN m1.np)):mX ⟨ds,some (k,a)⟩ g w D m1:=qf P p0 ok (λi d m e n p=>step i d m e n p _ (λ_ z=>z) λ_ _ z=>z) f
def Im{t:WT}{w:WS}{D:de}{d:MSt}(P:Nat->MSt->Prop)(g:Nat)(p0:P g d)(step:∀n m,m.np=d.np->P n m->∀(f:de) (E:MSt->Prop),(∀b a,b<n->P b a->f.nx a)->(∀r a,D.rt r a->f.rt r a)->(∀a,D.nx a->E a)->t m λc a=>if c=true then w f a else E a):v9 t w D d:=jy P g p0 λn m e p=>step n m e p _ _ (λb _ l q=>⟨b,l,q⟩) (λ_ _ z=>z) λ_ z=>z
end L2
namespace M7
open M3
def placeF:Nat->List Nat->List Nat->Nat
 |acc,r::rs,x::l=>placeF (acc*(r+1)+x) rs l
 |acc,_,_=>acc
def cnt:List Nat->Nat
 |[]=>1
 |r::rs=>(r+1)*cnt rs
theorem allR_cnt:∀rs:List Nat,(allR rs).length=cnt rs
 |[]=>rfl
 | r::rs=>by
  have a:=allR_cnt rs;have:∀n:Nat,((aaz n).flatMap λk=>(allR rs).map (k :: ·)).length=n*cnt rs:=by
   intro n
   induction n with
   |zero=>simp
   |succ n i=>rw[act,adJ,aao,i];simp[a,ae6]
  exact this _
theorem jO:∀{rs l:List Nat}{acc:Nat},l.length=rs.length->placeF acc rs l=acc*cnt rs+placeF 0 rs l
 |[],[],acc,_=>by simp[placeF,cnt]
 |r::rs,x::l,acc,h=>by
  have a:=by simpa using h
  simp only[placeF,cnt];rw[jO a,jO (acc:=0*_+x) a,Nat.add_mul,Nat.mul_assoc];simp[adX]
 |[],_::_,_,h=>by simp at h
 |_::_,[],_,h=>by simp at h
def iK{r x:Nat}{rs l:List Nat}(h:l.length=rs.length):placeF 0 (r::rs) (x::l)=x*cnt rs+placeF 0 rs l:=by
 simp only[placeF];rw[jO h];simp
theorem Da{N:Nat}(f:Nat->List (List Nat))(a:∀k,(f k).length=N):∀(n k j:Nat),k<n->j<N->((aaz n).flatMap f)[k*N+j]?=(f k)[j]?
 |0,k,j,h,_=>by contradiction
 | n+1,k,j,h,hj=>by
  have b:((aaz n).flatMap f).length=n*N:=by
   clear h hj
   induction n with
   |zero=>simp
   |succ n i=>rw[act,adJ,aao,i];simp[a,ae6]
  rw[act,adJ]
  by_cases hk:k<n
  .have:k*N+j<n*N:=by
    have:=adA N (show k+1≤n by assumption)
    grind
   rw[aaE ∅,Da f a n k j hk hj]
  .have e:k=n:=by omega
   simp_all
def Fits:List Nat->List Nat->Prop
 |r::rs,x::l=>x≤r/\Fits rs l
 |[],[]=>True
 |_,_=>False
theorem Fits.len:∀{rs l:List Nat},Fits rs l->l.length=rs.length
 |[],[],_=>rfl
 |_::_,_::_,h=>congrArg (· + 1) h.2.len
 |[],_::_,h=>h.elim
 |_::_,[],h=>h.elim
theorem place_lt:∀{rs l:List Nat},Fits rs l->placeF 0 rs l<cnt rs
 |[],[],_=>by simp[placeF,cnt]
 |r::rs,x::l,h=>by
  rw[iK h.2.len,cnt];have:=place_lt h.2;have a:=adA (cnt rs) (by have:=h.1;omega)
  grind
 |[],_::_,h=>h.elim
 |_::_,[],h=>h.elim
theorem place_at:∀{rs l:List Nat},Fits rs l->(allR rs)[placeF 0 rs l]?=some l
 |[],[],_=>rfl
 |r::rs,x::l,h=>by
  rw[iK h.2.len];show((aaz _).flatMap λk=>(allR rs).map _)[_]?=_;rw[Da _ (λk=>by rw[iO,allR_cnt]) _ x _ (by have:=h.1;omega) (place_lt h.2),aaj,place_at h.2];rfl
 |[],_::_,h=>h.elim
 |_::_,[],h=>h.elim
theorem place_only:∀{rs:List Nat}{i:Nat}{l:List Nat},(allR rs)[i]?=some l->i=placeF 0 rs l
 |[],0,l,h=>by
  rfl
 |[],i+1,l,h=>by simp[allR]at h
 | r::rs,i,l,h=>by
  have b:=(AD.mp h).1;rw[allR_cnt,cnt]at b;have c:0<cnt rs:=Nat.pos_of_ne_zero λz=>by rw[z]at b;simp at b
  have hk:i/cnt rs<r+1:=Nat.div_lt_of_lt_mul (by rw[ac8];exact b);have d:=aha i c;have e:i=i/cnt rs*cnt rs+i%cnt rs:=by rw[ac8];exact(Nat.div_add_mod i (cnt rs)).symm
  have a:=Da (N:=cnt rs) (λk=>(allR rs).map (k :: ·)) (λk=>by rw[iO,allR_cnt]) (r+1) _ _ hk d;rw[<-e]at a;have f:((aaz (r+1)).flatMap λk=>(allR rs).map (k :: ·))[i]?=some l:=h;rw[f,aaj]at a
  cases q:(allR rs)[i%cnt rs]? with
  |none=>rw[q]at a;cases a
  |some g=>
   rw[q]at a;have:l=(i/cnt rs)::g:=aaA a;subst this;have j:=place_only q;have m:=allR_len (LD q);rw[iK m,<-j,ac8];exact(Nat.div_add_mod i (cnt rs)).symm
def pick(lt:Nat->Nat->Bool):Nat->List Nat->Nat
 |b,[]=>b
 |b,k::ks=>pick lt (if lt k b then k else b) ks
def pick_self{lt:Nat->Nat->Bool}{k:Nat}{ks:List Nat}(h:lt k k=false):pick lt k (k::ks)=pick lt k ks:=by
 simp[pick,h]
theorem xY{lt:Nat->Nat->Bool}:∀{ks:List Nat}{b:Nat},pick lt b ks=b\/pick lt b ks∈ks
 |[],b=>.inl rfl
 | k::ks,b=>by
  simp only[pick];rcases xY with h|h
  .rw[h]
   by_cases q:lt k b=true
   .rw[if_pos q];exact .inr aah
   .rw[if_neg q];exact .inl rfl
  .exact .inr (aaf _ h)
theorem pick_app{lt:Nat->Nat->Bool}:∀{ks:List Nat}{b k:Nat},pick lt b (ks++[k])=if lt k (pick lt b ks)then k else pick lt b ks
 |[],b,k=>rfl
 |j::ks,b,k=>by simp;exact pick_app
theorem placeF_take:∀{rs l:List Nat}{i acc r x:Nat},rs[i]?=some r->l[i]?=some x->placeF acc (rs.take (i+1)) (l.take (i+1))=placeF acc (rs.take i) (l.take i)*(r+1)+x
 |r0::rs,x0::l,0,acc,r,x,h1,h2=>by
  have a:=by simpa using h1
  have e:=by simpa using h2
  subst a e;rfl
 |r0::rs,x0::l,i+1,acc,r,x,h1,h2=>by
  simp;exact placeF_take ‹_› ‹_›
 |[],_,_,_,_,_,h1,_=>by simp at h1
 |_::_,[],_,_,_,_,_,h2=>by simp at h2
end M7
namespace K
open PySem L2 M7
variable{h:Hall}{l o:List Nat}{n t:Nat}{r:Rule}
def Hall.an(h:Hall)(k:Nat):Nat:=(h.ss.map Srv.a).getD k 0
def Hall.bn(h:Hall)(k:Nat):Nat:=(h.ss.map Srv.b).getD k 0
def cq(l:List Nat)(k b:Nat):Bool:=decide (l.getD k 0<l.getD b 0)
def cz(h:Hall)(l:List Nat)(k b:Nat):Bool:=decide ((l.getD k 0+1)*h.bn k*h.an b<(l.getD b 0+1)*h.bn b*h.an k)
def sent(h:Hall)(r:Rule)(l:List Nat)(t:Nat)(o:List Nat):Nat:=match r with
 | .random=>o.headD 0
 | .turns=>t
 | .two=>pick (cq l) (o.headD 0) (o.take 2)
 | .least=>pick (cq l) (o.headD 0) o
 | .quick=>pick (cz h l) (o.headD 0) o
 | .told p=>p.getD (placeF 0 h.rs l) 0
structure Ord(n:Nat)(o:List Nat):Prop where
 ne:o≠[]
 lt:∀k∈o,k<n
 le:o.length≤4
theorem Lines.fits(k:Lines h l):Fits h.rs l:=by
 let⟨k1,k2⟩:=k;unfold Hall.rs;generalize h.ss=ss at k1 k2
 induction ss generalizing l with
 |nil=>cases l with
  |nil=>trivial
  |cons _ _=>simp at k1
 |cons s ss a=>cases l with
  |nil=>simp at k1
  |cons x l=>exact⟨k2 0 s x rfl rfl,a (by simpa using k1) λi s x b e=>k2 (i+1) s x ‹_› ‹_›⟩
theorem getN{k:Nat}(a:l.length=n)(hk:k<n):l[k]?=some (l.getD k 0):=by simp_all
def Hall.srv{k:Nat}(hk:k<h.ss.length):∃s,h.ss[k]?=some s/\h.an k=s.a/\h.bn k=s.b/\s∈h.ss:=by
 refine⟨h.ss[k],lD hk,?_,?_,aeD hk⟩
 .exact bM (by rw[aaj,lD hk];rfl)
 .exact bM (by rw[aaj,lD hk];rfl)
def Js:SpM:=λe K=>∃a b c d:Nat,e=[.imm (frD a b),.imm (frD c d)]/\a<1000000000000/\b<1000000000000/\c<1000000000000/\d<1000000000000/\K (.imm (.bool (decide (a*d<c*b)))) []
def CQ:SpM:=λa K=>∃(h:Hall) (l:List Nat),a=[.imm h.d,.imm (lnD l)]/\h.Ok/\Lines h l/\K (.imm (.int (placeF 0 h.rs l:Nat))) []
def o6:SpM:=λa K=>∃(l o:List Nat),a=[.imm (lnD l),.imm (lnD o)]/\Ord l.length o/\K (.imm (.int (pick (cq l) (o.headD 0) o:Nat))) []
def Jf:SpM:=λa K=>∃(h:Hall) (l:List Nat) (k:Nat),a=[.imm h.d,.imm (lnD l),.imm (.int (k:Int))]/\h.Ok/\Lines h l/\k<h.ss.length/\K (.imm (frD ((l.getD k 0+1)*h.bn k:Nat) (h.an k:Nat))) []
def o8:SpM:=λa K=>∃(h:Hall) (l o:List Nat),a=[.imm h.d,.imm (lnD l),.imm (lnD o)]/\h.Ok/\Lines h l/\Ord h.ss.length o/\K (.imm (.int (pick (cz h l) (o.headD 0) o:Nat))) []
def stD(l:List Nat)(t:Nat):aD:=.tuple [lnD l,.int (t:Int)]
def vO:SpM:=λa K=>∃(h:Hall) (r:Rule) (l:List Nat) (t:Nat) (o:List Nat),a=[.imm h.d,.imm r.d,.imm (stD l t),.imm (lnD o)]/\h.Ok/\r.Ok h/\Lines h l/\Ord h.ss.length o/\K (.imm (.int (sent h r l t o:Nat))) []
theorem Ord.cons(h:Ord n o):∃k ks,o=k::ks/\k<n:=by
 cases o with
 |nil=>exact(h.ne rfl).elim
 |cons k ks=>exact⟨k,ks,rfl,h.lt k aah⟩
def m6{lt:Nat->Nat->Bool}(h:Ord n o)(i:Nat):pick lt (o.headD 0) (o.take i)<n:=by
 let⟨k,a,rfl,hk⟩:=h.cons;rcases xY with e|e
 .rw[e];exact hk
 .exact h.lt _ (ab4 e)
def Rule.tl:Rule->List aD
 | .told p=>[lnD p]
 |_=>[]
def Rule.dc(r:Rule):r.d = .tuple (.str r.word::r.tl):=by cases r<;>rfl
def Ou{m:MSt}{K:R->Prop}{d x:aD}{ds:List aD}{i:Int}(e:d = .tuple ds)(h:atI ds i=some x)(k:K (.imm x)):mI (.imm d) (.imm (.int i)) m K:=by
 subst e;exact bc h k
inductive Mv where
 |come (o:List Nat)|done (k:Nat)|still
def Mv.d:Mv->aD
 | .come o=>.tuple [.str "come",lnD o]
 | .done k=>.tuple [.str "done",.int (k:Int)]
 | .still=>.tuple [.str "still"]
def Mv.Ok(h:Hall):Mv->Prop
 | .come o=>Ord h.ss.length o
 | .done k=>k<h.ss.length
 | .still=>True
inductive Wd where
 |taken|away|served|none
def Wd.s:Wd->Str
 | .taken=> "taken" | .away=> "away" | .served=> "served" | .none=> "none"
def Hall.rn(h:Hall)(k:Nat):Nat:=h.rs.getD k 0
def cR(h:Hall)(l:List Nat)(k:Nat):List Nat×Wd:=if l.getD k 0=h.rn k then(l,.away)else(l.set k (l.getD k 0+1),.taken)
def dE(l:List Nat)(k:Nat):List Nat×Wd:=if l.getD k 0=0 then(l,.none)else(l.set k (l.getD k 0-1),.served)
def idx(l:List Nat)(x:Nat):Nat:=l.findIdx (λy=>y==x)
def maxN(l:List Nat):Nat:=l.foldl max 0
def dH(h:Hall)(l:List Nat):Option (Nat×Nat):=if h.mv=true/\0∈l/\2≤maxN l then some (idx l (maxN l),idx l 0)else none
def cy(l:List Nat)(p:Nat×Nat):List Nat:=(l.set p.1 (l.getD p.1 0-1)).set p.2 ((l.set p.1 (l.getD p.1 0-1)).getD p.2 0+1)
def db(h:Hall):Nat->List Nat->List Nat
 |0,l=>l
 |n+1,l=>match dH h l with
  |none=>l
  |some p=>db h n (cy l p)
def gz(h:Hall)(l:List Nat):List Nat:=db h (l.count 0) l
theorem m7:∀(l:List Nat) (a:Nat),a≤l.foldl max a/\(∀x∈l,x≤l.foldl max a)/\(l.foldl max a=a\/l.foldl max a∈l)
 |[],a=>⟨aab _,(λ_ h=>by cases h),.inl rfl⟩
 | y::l,a=>by
  let⟨c,d,e⟩:=m7 l _;refine⟨aaw (aeU a y) c,λx b=>?_,?_⟩
  .rcases aag.mp b with rfl|b
   .exact aaw (Nat.le_max_right a x) c
   .exact d x b
  .grind
def vf:∀x∈l,x≤maxN l:=(m7 l 0).2.1
theorem jp(h:l≠[]):maxN l∈l:=by
 rcases (m7 l 0).2.2 with e|e
 .cases l with
  |nil=>exact(h rfl).elim
  |cons x l=>
   have:x≤maxN (x::l):=vf x aah;have a:maxN _=0:=e
   grind
 .exact e
theorem gY{x:Nat}(h:x∈l):l[idx l x]?=some x/\∀i y,i<idx l x->l[i]?=some y->y≠x:=by
 have a:idx l x<l.length:=List.findIdx_lt_length_of_exists ⟨x,h,'a'⟩;refine⟨?_,λi y b c e=>?_⟩
 .rw[lD a];have:=List.findIdx_getElem (w:=a);simp at this;exact congrArg some this
 .have:=List.not_of_lt_findIdx b
  grind
theorem cB(a b:Nat):aaa (.int (a:Int)) (.int (b:Int))=decide (a=b):=by
 simp[aaa]
 by_cases h:a=b
 .subst h;simp
 .have:¬_:=λz=>h (Int.ofNat.inj z)
  simp_all
def bJ(l:List Nat):∀y∈natD l,Shp 0 y:=λy a=>by
 let⟨x,_,rfl⟩:=aar.mp a;exact cr _
def vM(l:List Nat)(k x:Nat):(natD l).set k (.int (x:Int))=natD (l.set k x):=by
 unfold natD;rw[List.map_set]
def pf:SpM:=λa K=>∃(l:List Nat) (k:Nat) (d:Int) (x:Nat),a=[.imm (lnD l),.imm (.int (k:Int)),.imm (.int d)]/\k<l.length/\l.length≤1000/\(l.getD k 0:Int)+d=(x:Int)/\K (.imm (lnD (l.set k x))) []
def lwD(p:List Nat×Wd):aD:=.tuple [lnD p.1,.str p.2.s]
def Jn:SpM:=λa K=>∃(h:Hall) (l:List Nat) (k:Nat),a=[.imm h.d,.imm (lnD l),.imm (.int (k:Int))]/\h.Ok/\Lines h l/\k<h.ss.length/\K (.imm (lwD (cR h l k))) []
def Ja:SpM:=λa K=>∃(l:List Nat) (k:Nat),a=[.imm (lnD l),.imm (.int (k:Int))]/\k<l.length/\l.length≤1000/\K (.imm (lwD (dE l k))) []
def optP:Option (Nat×Nat)->aD
 |none=>.none
 |some p=>.tuple [.int (p.1:Int),.int (p.2:Int)]
def zJ:SpM:=λa K=>∃(h:Hall) (l:List Nat),a=[.imm h.d,.imm (lnD l)]/\l≠[]/\l.length≤1000/\K (.imm (optP (dH h l))) []
def sx:SpM:=λa K=>∃(h:Hall) (l:List Nat),a=[.imm h.d,.imm (lnD l)]/\l≠[]/\l.length≤1000/\K (.imm (lnD (gz h l))) []
theorem gH{p:Nat×Nat}(e:dH h l=some p):h.mv=true/\l[p.1]?=some (maxN l)/\2≤maxN l/\l[p.2]?=some 0/\p.1≠p.2:=by
 unfold dH at e
 split at e
 .rename_i q;let⟨c,a,d⟩:=q;have b:l≠[]:=λz=>by rw[z]at a;cases a
  have s1:=(gY (jp b)).1;have s:=(gY a).1
  grind
 .cases e
theorem jG{p:Nat×Nat}(e:dH h l=some p):cy l p=(l.set p.1 (maxN l-1)).set p.2 1/\p.1<l.length/\p.2<l.length/\(cy l p).count 0+1=l.count 0/\(cy l p).length=l.length:=by
 let⟨s,b,w,a,i⟩:=gH e;have g:=(AD.mp b).1;have f:=(AD.mp a).1;have q:l.getD p.1 0=maxN l:=bM b;have j:(l.set p.1 (maxN l-1)).getD p.2 0=0:=bM (by rw[aaS i];exact a);have c:cy l p=(l.set p.1 (maxN l-1)).set p.2 1:=by unfold cy;rw[q,j]
 have m:=by rw[lD g]at b;exact aaA b
 have k:l[p.2]=0:=by rw[lD f]at a;exact aaA a
 refine⟨c,g,f,?_,by rw[c,abj,abj]⟩;have u:0<l.count 0:=List.count_pos_iff.mpr (LD a);have d:p.2<(l.set p.1 (maxN l-1)).length:=by rw[abj];exact f
 have v:(l.set p.1 (maxN l-1))[p.2]=0:=by rw[adK i];exact k
 rw[c,List.count_set d,List.count_set g,v,m];have d1:(maxN l==0)=false:=by simp;omega
 have x:(maxN l-1==0)=false:=by simp;omega
 simp_all
theorem j9(e:dH h l=none):∀n,db h n l=l
 |0=>rfl
 |n+1=>by simp[db,e]
def DB(h:Hall)(r:Rule)(t:Nat):Nat:=match r with
 | .turns=>(t+1)%h.ss.length
 |_=>t
def zK:SpM:=λa K=>∃(h:Hall) (r:Rule) (t:Nat),a=[.imm h.d,.imm r.d,.imm (.int (t:Int))]/\h.Ok/\K (.imm (.int (DB h r t:Nat))) []
def GQ(h:Hall)(r:Rule)(l:List Nat)(t:Nat):Mv->aD
 | .come o=>.int (sent h r l t o:Nat)
 | .done k=>.int (k:Int)
 | .still=>.none
def xI:SpM:=λa K=>∃(h:Hall) (r:Rule) (l:List Nat) (t:Nat) (mv:Mv),a=[.imm h.d,.imm r.d,.imm (stD l t),.imm mv.d]/\h.Ok/\r.Ok h/\Lines h l/\mv.Ok h/\K (.imm (GQ h r l t mv)) []
def km(h:Hall)(r:Rule)(l:List Nat)(t:Nat):Mv->List Nat×Nat×Wd
 | .come o=>(gz h (cR h l (sent h r l t o)).1,DB h r t,(cR h l (sent h r l t o)).2)
 | .done k=>(gz h (dE l k).1,t,(dE l k).2)
 | .still=>(gz h l,t,.none)
def mvD(p:List Nat×Nat×Wd):aD:=.tuple [stD p.1 p.2.1,.str p.2.2.s]
def CK:SpM:=λa K=>∃(h:Hall) (r:Rule) (l:List Nat) (t:Nat) (mv:Mv),a=[.imm h.d,.imm r.d,.imm (stD l t),.imm mv.d]/\h.Ok/\r.Ok h/\Lines h l/\mv.Ok h/\(r = .turns->t<h.ss.length)/\K (.imm (mvD (km h r l t mv))) []
theorem vp(g:h.Ok)(c:r.Ok h)(f:Lines h l)(a:Ord h.ss.length o)(d:r = .turns->t<h.ss.length):sent h r l t o<h.ss.length:=by
 cases r with
 |random=>let⟨k,k1,rfl,e⟩:=a.cons;exact e
 |turns=>exact d rfl
 |two=>exact m6 a 2
 |least=>have:=m6 (lt:=cq l) a o.length;rw[aav]at this;exact this
 |quick=>have:=m6 (lt:=cz h l) a o.length;rw[aav]at this;exact this
 |told p=>
  have b:placeF 0 h.rs l<p.length:=by rw[c.1,allR_cnt];exact place_lt f.fits
  exact c.2 _ (LD (getN rfl b))
theorem Lines.set{k x:Nat}(a:Lines h l)(f:∀s,h.ss[k]?=some s->x≤s.r):Lines h (l.set k x):=by
 refine⟨by rw[abj];exact a.1,λi s y c e=>?_⟩
 by_cases b:k=i
 .subst b;have d:k<l.length:=by rw[a.1];exact(AD.mp c).1
  simp_all
 .rw[aaS b]at e;exact a.2 i s y c e
def Lines.at{k:Nat}(a:Lines h l)(hk:k<h.ss.length):∃s,h.ss[k]?=some s/\l.getD k 0≤s.r/\h.rn k=s.r/\s∈h.ss:=by
 let⟨s,e,c,eb,b⟩:=h.srv hk;exact⟨s,e,a.2 k s _ e (getN a.1 hk),bM (Hall.rs_get e),b⟩
theorem yf{k:Nat}(a:Lines h l)(hk:k<h.ss.length):Lines h (cR h l k).1:=by
 let⟨s,g,b,c,f⟩:=a.at hk;unfold cR;split
 .omega
 .refine a.set λd e=>?_
  grind
theorem yB{k:Nat}(a:Lines h l)(hk:k<h.ss.length):Lines h (dE l k).1:=by
 let⟨s,g,b,c,f⟩:=a.at hk;unfold dE;split
 .omega
 .refine a.set λd e=>?_
  grind
theorem i5{h:Hall}(b:h.Ok):∀(n:Nat) (l:List Nat),Lines h l->Lines h (db h n l)
 |0,l,hL=>hL
 | n+1,l,hL=>by
  simp[db]
  cases e:dH h l with
  |none=>exact hL
  |some p=>
   let⟨d,j,f,k,c⟩:=jG e;let⟨m,m1,m2,i,g⟩:=gH e;refine i5 b n _ ?_;rw[d];refine(hL.set λs a=>?_).set λs a=>(b.ok s (LD a)).r1;have:=hL.2 p.1 s _ a m1;omega
def gh(b:h.Ok)(a:Lines h l):Lines h (gz h l):=i5 b _ _ a
structure St(h:Hall)(r:Rule)(l:List Nat)(t:Nat):Prop where
 ln:Lines h l
 tn:r = .turns->t<h.ss.length
 ts:t<4
theorem GZ(a:h.Ok)(b:t<4)(c:r = .turns->t<h.ss.length):(r = .turns->DB h r t<h.ss.length)/\DB h r t<4:=by
 have n1:=a.n1;have n4:=a.n4
 cases r with
 |turns=>
  have:=aha (t+1) (show h.ss.length>0 by assumption);exact⟨λ_=>this,by show(t+1)%h.ss.length<4;exact aau ‹_› ‹_›⟩
 |_=>exact⟨(λz=>by cases z),b⟩
theorem fJ(a:h.Ok)(c:r.Ok h)(S:St h r l t){mv:Mv}(b:mv.Ok h):St h r (km h r l t mv).1 (km h r l t mv).2.1:=by
 cases mv with
 |come o=>
  have:=GZ a S.ts S.tn;exact⟨gh a (yf S.ln (vp a c S.ln b S.tn)),this.1,this.2⟩
 |done k=>exact⟨gh a (yB S.ln b),S.tn,S.ts⟩
 |still=>exact⟨gh a S.ln,S.tn,S.ts⟩
def zer(h:Hall):List Nat:=aaq h.ss.length 0
theorem i6(a:h.Ok)(r:Rule):St h r (zer h) 0:=by
 refine⟨⟨by simp[zer],λi s x b e=>?_⟩,λ_=>a.n1,⋯⟩;have:=by
  have:=LD e;exact(List.mem_replicate.mp this).2
 omega
def Af:SpM:=λa K=>∃h:Hall,a=[.imm h.d]/\h.Ok/\K (.imm (stD (zer h) 0)) []
def wX{k:Nat}{d:aD}(h:Shp k d):aaa d d=true:=PySem.SeqAt.eqv_refl d h.cl
end K
namespace M8
def ins(x:Nat):List Nat->List Nat
 |[]=>[x]
 |y::l=>if y≤x then x::y::l else y::ins x l
def srt:List Nat->List Nat
 |[]=>[]
 |x::l=>ins x (srt l)
def Fall(l:List Nat):Prop:=l.Pairwise (· ≥ ·)
theorem qV(x:Nat):∀l,(ins x l).Perm (x::l)
 |[]=>.refl _
 |y::l=>by
  unfold ins;split
  .exact .refl _
  .exact((qV x l).cons y).trans (.swap x y l)
theorem xw{x:Nat}:∀{l},Fall l->Fall (ins x l)
 |[],_=>ac1 _ _
 | y::l,h=>by
  unfold ins;rcases acH.mp h with⟨b,c⟩;split
  .rename_i hy;refine acH.mpr ⟨λz a=>?_,h⟩;obtain rfl|a:=aag.mp a
   .exact hy
   .have:=b z a;show z≤x;omega
  .rename_i hy;refine acH.mpr ⟨λz a=>?_,xw c⟩;rcases aag.mp ((qV x l).mem_iff.mp a)with rfl|a
   .show z≤y;omega
   .exact b z a
theorem kO:∀l,(srt l).Perm l
 |[]=>.refl _
 |x::l=>(qV x (srt l)).trans ((kO l).cons x)
theorem qz:∀l,Fall (srt l)
 |[]=>ahg
 |_::l=>xw (qz l)
theorem xu:∀{a b:List Nat},Fall a->Fall b->a.Perm b->a=b
 |[],b,_,_,p=>(List.nil_perm.mp p).symm
 |x::a,[],_,_,p=>by simpa using p.length_eq
 | x::a,y::b,ha,hb,p=>by
  let⟨a1,a2⟩:=acH.mp ha;let⟨b1,b2⟩:=acH.mp hb;have h:x=y:=by
   have c:x≤y:=by
    rcases aag.mp (p.mem_iff.mp aah)with e|e
    .omega
    .exact b1 x e
   have d:y≤x:=by
    rcases aag.mp (p.mem_iff.mpr (aah (a:=y)))with e|e
    .omega
    .exact a1 y e
   omega
  subst h;rw[xu a2 b2 (List.Perm.cons_inv p)]
def w6{a l:List Nat}(h:Fall a)(p:a.Perm l):srt l=a:=xu (qz l) h ((kO l).trans p.symm)
def Ud{l:List Nat}(h:Fall l):srt l=l:=w6 h (.refl _)
end M8
namespace K
open PySem L2 M7
variable{ps:List (Nat×Nat)}
def Km(ns:List Int)(p q:Int):aD:=.dict [(.str "script",.dict [(.none,.list (ns.map .int))]),(.str "turn",.int p),(.str "left",.int q)]
def TapeK(c:Nat)(t:aD):Prop:=∃(ns:List Int) (p q:Int),t=Km ns p q/\ns.length≤63/\0≤p/\p≤c/\0≤q
theorem TapeK.mono{c c':Nat}{t:aD}(h:TapeK c t)(g:c≤c'):TapeK c' t:=by
 let⟨ns,p,q,e,a,d,f,b⟩:=h;exact⟨ns,p,q,e,a,d,∅,b⟩
def B6:SpM:=λa K=>∃ns:List Int,a=[.imm (.list (ns.map .int))]/\ns.length≤63/\∀t,TapeK 0 t->K (.newT t) []
def vx:SpM:=λb K=>∃(t:aD) (m:Int) (c:Nat),b=[.tr t,.imm (.int m)]/\TapeK c t/\c<1000000000/\0<m/\m<1099511627776/\∀(r:Int) (a:aD),0≤r->r<m->TapeK (c+1) a->K (.imm (.int r)) [[a]]
def kI:SpM:=λa K=>∃rs:List Nat,a=[.imm (.list (rs.map λ(r:Nat)=>.int (r:Int)))]/\rs.length≤4/\(∀r∈rs,r≤6)/\K (.new ((M3.allR rs).map lnD)) []
def SvK(ps:List (Nat×Nat)):Prop:=1≤ps.length/\ps.length≤4/\∀p∈ps,1≤p.1/\p.1≤3/\1≤p.2/\p.2≤4
def bm(ps:List (Nat×Nat)):List Nat:=ps.map λp=>p.2
def jH(ps:List (Nat×Nat)):List (Nat×Nat):=ps.map λp=>(p.1,max 1 (p.2-1))
def Ga(h:SvK ps):SvK (jH ps):=by
 refine⟨by simpa[jH]using h.1,by simpa[jH]using h.2.1,λp b=>?_⟩;let⟨q,a,rfl⟩:=aar.mp b;have:=h.2.2 q a;exact⟨this.1,this.2.1,by show 1≤max 1 (q.2-1);omega,by show max 1 (q.2-1)≤4;omega⟩
theorem BW:∀{rs:List Nat},(∀r∈rs,r≤1)->M7.cnt rs≤2^rs.length
 |[],_=>aab _
 |r::rs,h=>by
  have c:=h r aah;have b:=BW (rs:=rs) λx a=>h x (aaf _ a);show(r+1)*M7.cnt rs≤2^(rs.length+1);rw[Nat.pow_succ,ac8];exact acK b ∅
theorem nH:∀{ps:List (Nat×Nat)},(∀p∈ps,1≤p.2)->(bm (jH ps)).sum≤(bm ps).sum/\((∃p∈ps,2≤p.2)->(bm (jH ps)).sum<(bm ps).sum)
 |[],_=>⟨aab _,by intro⟨p,b,_⟩;cases b⟩
 |p::ps,h=>by
  have i:=nH (ps:=ps) λx f=>h x (aaf _ f);have b:=h p aah;have d:(bm (jH (p::ps))).sum=max 1 (p.2-1)+(bm (jH ps)).sum:=by simp[bm,jH]
  have e:(bm (p::ps)).sum=p.2+(bm ps).sum:=by simp[bm]
  rw[d,e];refine⟨by have:=i.1;omega,λ⟨q,a,c⟩=>?_⟩;obtain rfl|a:=aag.mp a
  .have:=i.1;omega
  .have:=i.2 ⟨q,a,c⟩;omega
def SvK.six(h:SvK ps):(bm ps).length≤4/\∀r∈bm ps,r≤6:=by
 refine⟨by simpa[bm]using h.2.1,λr b=>?_⟩;let⟨p,a,rfl⟩:=aar.mp b;have:=(h.2.2 p a).2.2.2;omega
def SvK.rep(h:SvK ps){p:Nat×Nat}(c:p∈ps){n:Nat}(a:1≤n)(d:n≤4):SvK (aaq n p):=
 ⟨by rw[acg];exact a,by rw[acg];exact d,λq b=>by rw[afN b];exact h.2.2 p c⟩
theorem Dn{a:Type}(n:Nat)(x:a):(aaq n [x]).flatten=aaq n x:=by
 induction n with
 |zero=>rfl
 |succ n i=>rw[acx,ahf,i,acx];rfl
def Oh(p:Nat×Nat):aD:=.int (p.2:Int)
def topD(p:Nat×Nat):aD:=.int (p.1:Int)
def Uo(p:Nat×Nat):aD:=prD (p.1,max 1 (p.2-1))
def t6(ps:List (Nat×Nat)):ps.map Oh=(bm ps).map λ(r:Nat)=>.int (r:Int):=by rw[bm,aba];rfl
def Au(ps:List (Nat×Nat)):ps.map Uo=(jH ps).map prD:=by rw[jH,aba];rfl
def srvK(wh:Nat)(p:Nat×Nat):Srv:=⟨p.1/p.1.gcd wh,wh/p.1.gcd wh,p.2⟩
theorem zQ{p wh:Nat}(a:1≤p)(e:p<1000000)(h:1≤wh)(d:wh<1000000):1≤p/p.gcd wh/\p/p.gcd wh<1000000/\1≤wh/p.gcd wh/\wh/p.gcd wh<1000000:=by
 have g:0<p.gcd wh:=afO _ h;have b:p.gcd wh≤wh:=Nat.gcd_le_right _ h;have c:p.gcd wh≤p:=Nat.gcd_le_left _ a;have d1:=Nat.div_le_self p (p.gcd wh);have f:=Nat.div_le_self wh (p.gcd wh);exact⟨Nat.div_pos c g,∅,Nat.div_pos b g,∅⟩
def vd(ps:List (Nat×Nat)):List Nat:=ps.map λp=>p.1
def D7(ps:List (Nat×Nat)):ps.map topD=natD (vd ps):=by rw[vd,natD,aba];rfl
theorem wZ:∀{ps:List (Nat×Nat)},(∀p∈ps,p.1≤3)->(vd ps).sum≤3*ps.length
 |[],_=>aab _
 |p::ps,h=>by
  have i:=wZ (ps:=ps) λx a=>h x (aaf _ a);have:=h p aah;simp only[vd,aam,adl,aat]at i⊢;omega
theorem sumK:∀l:List Nat,(l.map λ(x:Nat)=>(x:Int)).sum=((l.sum:Nat):Int)
 |[]=>rfl
 |x::l=>by rw[aam,adl,adl,sumK l,aeZ]
def x9(l:List Nat)(x:Nat):natD (l++[x])=natD l++[.int (x:Int)]:=by simp[natD]
def Ae(l:List Nat):c8 (natD l)=some (l.map λ(k:Nat)=>(k:Int)):=by unfold natD;rw[show(l.map λ(k:Nat)=>abf (k:Int))=(l.map λ(k:Nat)=>(k:Int)).map .int by rw[aba];rfl,du]
def Fj{a:Type}(n:Nat)(x:a):(aaq n [x]).flatten=aaq n x:=by simp
def DI(n x:Nat):aaq n (abf (x:Int))=natD (aaq n x):=by unfold natD;rw[ahb]
mutual
def Gd(b:Nat):aD->Prop
 | .none=>True
 | .bool _=>True
 | .int i=>i.natAbs≤b
 | .str x=>x.length≤b/\x.cps.all (· < 128)=true
 | .list ds=>GdA b ds
 | .tuple ds=>GdA b ds
 | .dict _=>False
def GdA(b:Nat):List aD->Prop
 |[]=>True
 |d::ds=>Gd b d/\GdA b ds
end
theorem uJ{b:Nat}:∀{ds:List aD},GdA b ds↔∀d∈ds,Gd b d
 |[]=>by simp[GdA]
 |d::ds=>by simp[GdA,uJ (ds:=ds)]
mutual
theorem Gd.mono{b c:Nat}(h:b≤c):∀{d:aD},Gd b d->Gd c d
 | .none,_=>trivial
 | .bool _,_=>trivial
 | .int i,g=>by simp only[Gd]at g⊢;omega
 | .str x,g=>by simp only[Gd]at g⊢;exact⟨∅,g.2⟩
 | .list ds,g=>by simp only[Gd]at g⊢;exact GdA.mono h g
 | .tuple ds,g=>by simp only[Gd]at g⊢;exact GdA.mono h g
 | .dict _,g=>by simp only[Gd]at g
theorem GdA.mono{b c:Nat}(h:b≤c):∀{ds:List aD},GdA b ds->GdA c ds
 |[],_=>trivial
 |d::ds,g=>by simp only[GdA]at g⊢;exact⟨Gd.mono h g.1,GdA.mono h g.2⟩
end
def inW(a b:Int):aD->Bool
 | .int i=>decide (a≤i)&&decide (i≤b)
 |_=>false
def isWh:aD->Bool
 | .int _=>true
 |_=>false
def tupN(n:Nat):aD->Bool
 | .tuple ds=>decide (ds.length=n)
 |_=>false
def F9:aD->Bool
 | .tuple _=>true
 |_=>false
def QI(d:aD):(tyR (.imm d) == "tuple")=F9 d:=by cases d<;>rfl
def NU{d:aD}(h:F9 d=false)(n:Nat):tupN n d=false:=by cases d<;>first|rfl|cases h
def gd_tup{b:Nat}{ds:List aD}:Gd b (.tuple ds)↔∀d∈ds,Gd b d:=by simp only[Gd];exact uJ
end K
namespace L2
open PySem PySem.Spec PySem.W PyProof.Rows
section
variable {X:Cx}
theorem xy{K:Kd}{H:Hp}{ds:List aD}{xs:List V}(g:DenAll K H ds xs):∀p:List Nat,DenAll K H (p.map λi=>ds.getD i .none) (p.map λi=>xs.getD i .non)
 |[]=>by simp only[adE,DenAll]
 | i::p=>by
  simp only[aam];refine⟨_,_,rfl,?_,xy g p⟩
  cases e:ds[i]? with
  |some d=>
   let⟨v,a,hd⟩:=g.get e;rw[bM e,bM a];exact hd
  |none=>
   have a:xs[i]?=none:=by rw[List.getElem?_eq_none_iff]at e⊢;rw[<-g.length];exact e
   rw[aas,aas,e,a];rfl
theorem uq{xs:List V}{us:List Ad}(r:Vals xs us):∀p:List Nat,Vals (p.map λi=>xs.getD i .non) (p.map λi=>us.getD i .none)
 |[]=>.nil
 | i::p=>by
  rw[aam,aam];refine .cons ?_ (uq r p)
  cases e:xs[i]? with
  |some x=>
   let⟨u,a,h⟩:=r.get e;rw[bM e,bM a];exact h
  |none=>
   rw[aas,aas,e,r.none_of e];rfl
end
end L2
namespace K
open PySem L2 M7
def fitD:List Nat->List aD->Bool
 |r::rs,d::ds=>inW 0 (r:Int) d&&fitD rs ds
 |[],[]=>true
 |_,_=>false
theorem wN:∀{rs:List Nat}{ds:List aD},fitD rs ds=true->ds.length=rs.length
 |[],[],_=>rfl
 |r::rs,d::ds,h=>by
  simp only[fitD,aaG]at h;rw[aat,aat,wN h.2]
 |[],_::_,h=>by cases h
 |_::_,[],h=>by cases h
theorem yW:∀{rs:List Nat}{ds:List aD}{i r:Nat}{d:aD},fitD rs ds=true->rs[i]?=some r->ds[i]?=some d->inW 0 (r:Int) d=true
 |r::rs,d::ds,0,r',d',h,e1,e2=>by
  simp only[fitD,aaG]at h
  cases e1;cases e2;exact h.1
 |r::rs,d::ds,i+1,r',d',h,e1,e2=>by
  simp only[fitD,aaG]at h;exact yW h.2 (by simpa using e1) (by simpa using e2)
 |[],_,_,_,_,_,e1,_=>by simp at e1
 |_::_,[],_,_,_,h,_,_=>by cases h
theorem vg:∀{rs:List Nat}{ds:List aD},ds.length=rs.length->(∀(i r:Nat) (d:aD),rs[i]?=some r->ds[i]?=some d->inW 0 (r:Int) d=true)->fitD rs ds=true
 |[],[],_,_=>rfl
 |r::rs,d::ds,hl,h=>by
  simp only[fitD,aaG];exact⟨h 0 r d rfl rfl,vg (by simpa using hl) λi r d a e=>h (i+1) r d (by simpa using a) (by simpa using e)⟩
 |[],_::_,hl,_=>nomatch hl
 |_::_,[],hl,_=>nomatch hl
def u8(h:Hall):aD->Bool
 | .tuple ds=>fitD h.rs ds
 |_=>false
theorem Xz{n:Nat}{d:aD}(e:tupN n d=true):∃ds,d = .tuple ds/\ds.length=n:=by
 cases d with
 |tuple ds=>exact⟨ds,rfl,by simpa[tupN]using e⟩
 |_=>cases e
theorem Ab(h:Hall){d:aD}(e:tupN h.ss.length d=false):u8 h d=false:=by
 cases d with
 | tuple ds=>
  cases q:u8 h (.tuple ds)with
  |false=>rfl
  |true=>
   have:=wN q;rw[h.rsl]at this;simp[tupN,this]at e
 |_=>rfl
def ou(n:Nat)(os:List (List Nat)):List (List Nat):=os.flatMap λa=>((aaz n).filter λl=>!a.contains l).map λl=>a++[l]
def ordK(n:Nat):Nat->List (List Nat)
 |0=>[[]]
 |k+1=>ou n (ordK n k)
def yP{n:Nat}{os:List (List Nat)}{j:Nat}{a:List Nat}(h:os[j]?=some a):ou n (os.take (j+1))=ou n (os.take j)++((aaz n).filter λl=>!a.contains l).map λl=>a++[l]:=by
 unfold ou;rw[aaU,h];simp
def oZ:∀n≤4,∀k≤4,(ordK n k).length≤24/\∀a∈ordK n k,a.length≤4/\∀x∈a,x≤3:=by ext K
def nU:∀n≤4,∀k≤3,∀j≤24,(ou n ((ordK n k).take j)).length≤24:=by ext K
abbrev Pt:=List Nat×Nat
def ptD(p:Pt):aD:=stD p.1 p.2
theorem xQ:∀{a b:List Nat},natD a=natD b->a=b
 |[],[],_=>rfl
 |x::a,y::b,h=>by
  simp[natD]at h;rw[show x=y by omega,xQ h.2]
 |[],_::_,h=>nomatch h
 |_::_,[],h=>nomatch h
theorem SX(p:Pt):hkD (ptD p)=true:=by
 have n:∀l:List Nat,hkA (natD l)=true:=λl=>by
  induction l with
  |nil=>rfl
  |cons x l i=>show(hkD _&&hkA (natD l))=true;rw[i];rfl
 show(hkD _&&_)=true;rw[show hkD (lnD p.1)=true from n p.1];rfl
def QO(p q:Pt):aaa (ptD p) (ptD q)=decide (p=q):=by
 rw[s9 _ _ (SX p) (SX q)];refine decide_eq_decide.mpr ⟨λh=>?_,λh=>by rw[h]⟩;have a:=by injection h
 simp at a;have b:=by have:=a.1;injection this
 exact agy (xQ b) ∅
instance decWd:DecidableEq Wd:=λa b=>by cases a<;>cases b<;>first|exact isTrue rfl|exact isFalse (λh=>nomatch h)
def JE:SpM:=λa K=>∃h:Hall,a=[.imm h.d]/\h.Ok/\K (.new ((ordK h.ss.length h.ss.length).map lnD)) []
def Fq:∀n≤4,1≤n->∀o∈ordK n n,o≠[]/\o.length≤4/\∀k∈o,k<n:=by ext K
def ik(l:List Nat):c8 (natD l)=some (l.map λ(x:Nat)=>(x:Int)):=by
 have:=du (l.map λ(x:Nat)=>(x:Int));rwa[aba]at this
theorem lu:∀l:List Nat,(l.map λ(x:Nat)=>(x:Int)).sum=(l.sum:Int)
 |[]=>rfl
 |x::l=>by rw[aam,adl];rw[adl,lu l];rfl
theorem l9{d:Type}[DecidableEq d]:∀{l m:List d},l.Nodup->(∀x∈l,x∈m)->l.length≤m.length
 |[],_,_,_=>abJ _
 | a::l,m,h,hs=>by
  rw[abe]at h;have c:=hs a aah;have i:=l9 (l:=l) (m:=m.erase a) h.2 λx e=>by
   have b:x≠a:=λz=>h.1 (z▸e);exact(List.mem_erase_of_ne b).mpr (hs x (aaf _ e))
  have:=List.length_erase_of_mem c;have:=List.length_pos_of_mem c;rw[aat];omega
theorem kZ:∀{rs l:List Nat},M7.Fits rs l->l∈M3.allR rs
 |[],[],_=>aad.mpr rfl
 |r::rs,x::l,h=>by
  have a:x≤r:=h.1;exact acj.mpr ⟨x,adw.mpr ∅,aar.mpr ⟨l,kZ h.2,rfl⟩⟩
 |[],_::_,h=>h.elim
 |_::_,[],h=>h.elim
end K
namespace L2
open PySem PySem.Spec PySem.W PyProof.Rows
def LtAt(A:abb)(s:GT)(x y:Ad)(b:Bool):Prop:=
 ∀(prog:aaI) (w:World) (E:Ad->GT->Prop) (Q:Ad->GT->Prop),Q (.bool b) s->wpAny (model prog w) A (richCompare .Lt x y) Q E s
def zr(A:abb)(s:GT)(f r:Bool):List (Ad×Ad)->Prop
 |[]=>r=f
 |p::ps=>∃e,af1 A s p.1 p.2 e/\((e=true->zr A s f r ps)/\(e=false->LtAt A s p.1 p.2 r))
theorem n6(l b:Addr)(xs ys:Array Ad)(n m:Nat)(d1 d2:Option Addr)(s1 s2:Array (Option Ad))(r:Bool) :
  Meets (ac4.«tuple.__lt__» ⟨[.ref l,.ref b],[]⟩)
   (λA R s=>s.heap.get? l=some {cls:=.type "tuple",dict:=d1,data:=.seq xs n,slots:=s1}/\s.heap.get? b=some {cls:=.type "tuple",dict:=d2,data:=.seq ys m,slots:=s2}/\zr A.in1 s (decide (xs.size<ys.size)) r (xs.toList.zip ys.toList)/\R (.ok (.ret (.bool r))) s):=
 .of_wp λprog w A R s h=>by
  let⟨i,g,k,c⟩:=h;have q:=AutoSeq1.sub_tuple_tuple
  wp_walk using aeY i,aeY g,aeE _ (λrest z d=>z.1=none/\d=s/\zr A.in1 s (decide (xs.size<ys.size)) r rest) _
  case turn=>
   intro⟨u,v⟩ rest z d ⟨f,rfl,e,o,j,p⟩;refine gT (o prog w _ _ ?_)
   cases e with
   |true=>exact Ld ⟨rfl,rfl,j rfl⟩
   |false=>
    refine gT (abI (gT (p rfl prog w _ _ ?_)))
    wp_walk
    exact⟨_,rfl,c⟩
  case fin=>
   intro⟨z,u⟩ d ⟨f,rfl,e⟩;have a:z=none:=f;subst a
   wp_walk
   refine⟨_,rfl,?_⟩;rw[e]at c;exact c
  case h=>exact⟨rfl,rfl,k⟩
mutual
def ltD:aD->aD->Bool
 | .int a,.int b=>decide (a<b)
 | .tuple xs,.tuple ys=>ltDs xs ys
 |_,_=>false
def ltDs:List aD->List aD->Bool
 |x::xs,y::ys=>if aaa x y=true then ltDs xs ys else ltD x y
 |[],_::_=>true
 |_,_=>false
end
mutual
def smD:aD->aD->Bool
 | .int _,.int _=>true
 | .tuple xs,.tuple ys=>smDs xs ys
 |_,_=>false
def smDs:List aD->List aD->Bool
 |[],[]=>true
 |x::xs,y::ys=>smD x y&&smDs xs ys
 |_,_=>false
end
mutual
theorem ze:∀{x y:aD},smD x y=true->x.canLay0=true/\y.canLay0=true
 | .int _,.int _,_=>⟨rfl,rfl⟩
 | .tuple xs,.tuple ys,h=>by
  simp only[smD]at h;have:=Ci h;exact⟨this.1,this.2⟩
theorem Ci:∀{xs ys:List aD},smDs xs ys=true->abA xs=true/\abA ys=true
 |[],[],_=>⟨rfl,rfl⟩
 |x::xs,y::ys,h=>by
  simp only[smDs,aaG]at h;have a:=ze h.1;have b:=Ci h.2;exact⟨by simp only[abA,a.1,b.1,Bool.and_self],by simp only[abA,a.2,b.2,Bool.and_self]⟩
end
def LtUp(k:Nat):Prop:=∀(x y:aD) (A:abb) (s:GT) (u v:Ad) (a bs:List Addr),x.depth≤k->Reads s.heap u x a->Reads s.heap v y bs->smD x y=true->A.units+x.depth<cLine->LtAt A s u v (ltD x y)
theorem l7{k:Nat}(I:LtUp k)(A:abb)(s:GT):∀(xs ys:List aD) (us vs:List Ad) (as bs:List Addr),aaD xs≤k->adV s.heap us xs as->adV s.heap vs ys bs->smDs xs ys=true->A.units+aaD xs<cLine->us.length=vs.length/\zr A s false (ltDs xs ys) (us.zip vs)
 | [],ys,us,vs,as,bs,hk,r1,r2,h,hu=>by
  cases ys with
  |cons y ys=>exact absurd h (by simp only[smDs];decide)
  |nil=>
   cases r1;cases r2;exact⟨rfl,rfl⟩
 | x::xs,ys,us,vs,as,bs,hk,r1,r2,h,hu=>by
  cases ys with
  |nil=>exact absurd h (by simp only[smDs];decide)
  | cons y ys=>
   simp only[smDs,aaG]at h
   cases r1 with
   | cons a1 a2=>
    cases r2 with
    |cons b1 b2=>
     have a:max x.depth _≤k:=hk;have dp:A.units+max x.depth _<cLine:=hu;have ly:=ze h.1;let⟨b,l⟩:=l7 I A s xs ys _ _ _ _ ∅ a2 b2 h.2 ∅;refine⟨by rw[aat,aat,b],aaa x y,ahx x y A s _ _ _ _ a1 b1 ly.1 ly.2 (by have:=Nat.min_le_left x.depth y.depth;omega),λe=>?_,λe=>?_⟩
     .rw[ltDs,if_pos e];exact l
     .rw[ltDs,if_neg (by rw[e];decide)];exact I x y A s _ _ _ _ ∅ a1 b1 h.1 ∅
theorem vI:∀k,LtUp k
 | 0,x,y,A,s,u,v,as,bs,hk,r1,r2,h,hu=>by
  cases x with
  | int a=>
   cases y with
   |int b=>
    cases r1;cases r2;exact λprog w E Q h=>wpAny_lt_int h
   |_=>exact absurd h (by simp only[smD];decide)
  |tuple c=>exact absurd hk (by show ¬aaD c+1≤0;contradiction)
  |_=>exact absurd h (by simp only[smD];decide)
 | k+1,x,y,A,s,u,v,as,bs,hk,r1,r2,h,hu=>by
  cases x with
  | int a=>
   cases y with
   |int b=>
    cases r1;cases r2;exact λprog w E Q h=>wpAny_lt_int h
   |_=>exact absurd h (by simp only[smD];decide)
  | tuple c=>
   cases y with
   | tuple G=>
    simp only[smD]at h
    cases r1 with
    | tuple q i C O=>
     cases r2 with
     |tuple j t D M=>
      rename_i l o vs n m H d N;let⟨P,L,B,R⟩:=o;let⟨r,f,g,e⟩:=H;dsimp only at i C t D;subst i C t D;have I:aaD c+1≤k+1:=hk;have dp:A.units+(aaD c+1)<cLine:=hu;let⟨S,J⟩:=l7 (vI k) A.in1 s c G vs.toList d.toList _ _ ∅ O M h (show A.units+1+aaD c<cLine by omega);rw[acw,acw]at S;intro prog w E Q K;refine richCompare_meets_room (op:=.Lt) ⟨_,q,rfl⟩ ⟨_,j,rfl⟩ F.slot_tuple_lt F.entry_tuple_lt (F.args_tuple_lt_2 _ _) (n6 l m vs d n N L f R e (ltDs c G)) ⟨q,j,?_,⟨(λz=>nomatch z),K⟩⟩ ∅;rw[decide_eq_false (p:=_) ∅];exact J
   |_=>exact absurd h (by simp only[smD];decide)
  |_=>exact absurd h (by simp only[smD];decide)
end L2
namespace L2
open PySem PySem.Spec PyProof.Rows
variable{n:Nat}{T v:Addr}{b:Bool}{o:Obj}{Q:Option Ad->GT->Prop}{P:Addr->aa1->Nat->Ad->Prop}
section
variable {prog:aaI}{w:World}{A:abb}{E:Ad->GT->Prop}{s:GT}{it d:Addr}{es:Array ab1}{i ep:Nat}{ok ov:Ad}
def nW(h:aa1)(it d:Addr)(i n ep:Nat)(k v:Ad)(T:Addr)(b:Bool):Prop:=h.get? it=some {cls:=.type "dict_itemiterator",data:=.fields #[ade T,.bool b,.ref d,.int i 0,.int n 0,.int ep 0,k,v]}
def UF{a:Addr}{Q:Option Obj->GT->Prop}(h:Q (s.heap.get? a) s):wpAny (model prog w) A (loadIfAlive a) Q E s:=λ_ _ _=>h
theorem O4{j:Nat}{Q:Bool->GT->Prop}(h:nW s.heap it d j n ep ok ov T b)(g:s.heap.get? T=some o)
  (a:∀h',nW h' it d j n ep ok ov T true->h'.objs.size=s.heap.objs.size->(∀c o,c≠it->s.heap.get? c=some o->h'.get? c=some o)->Q false {s with heap:=h' }):wpAny (model prog w) A (abX (.ref it)) Q E s:=by
 refine gT (abh h rfl (x:=ade T) rfl ?_);refine gT (UF ?_);rw[show((T:Int)).toNat=T by rfl,g];refine gT (abh h rfl (x:=.bool b) rfl ?_)
 cases b with
 |true=>exact Ld (a s.heap h rfl λc o _ q=>q)
 |false=>
  refine gT (aaC h 'a' λe f s1=>?_);exact Ld (a e f s1.1 λc o k q=>s1.extBut c o k q)
def FE{j:Nat}{k v:Ad}{Q:Ad->GT->Prop}(h:nW s.heap it d j n ep ok ov T b)(f:s.heap.get? T=some o)
  (e:∀h',nW h' it d j n ep ok ov T true->h'.get? s.heap.objs.size=some {cls:=.type "tuple",data:=.seq #[k,v]}->h'.objs.size=s.heap.objs.size+1 ->
   (∀c o,c≠it->s.heap.get? c=some o->h'.get? c=some o)->Q (.ref s.heap.objs.size) {s with heap:=h' }):wpAny (model prog w) A (aca (.ref it) 6 k v) Q E s:=by
 have lt:=aal h;have push:∀c o,s.heap.get? c=some o->(s.heap.push {cls:=.type "tuple",data:=.seq #[k,v]}).get? c=some o:=λc o q=>Io _ q;refine gT (m:=abX _) (O4 (push _ _ h) (push _ _ f) λh' a1 a2 a=>?_);refine Ld (e h' a1 (a _ _ (abt lt) (aai _ rfl)) (a2.trans (abv ..)) λc o g q=>a c o g (push c o q))
theorem GG(h:nW s.heap it d i es.size ep ok ov T b)(p:s.heap.get? T=some o)(F:T≠it)(K:EntAt s.heap d es ep)(C:i<es.size)
  (I:∀h',nW h' it d (i+1) es.size ep ok ov T true->h'.get? s.heap.objs.size=some {cls:=.type "tuple",data:=.seq #[es[i].key,es[i].val]}->h'.objs.size=s.heap.objs.size+1 ->
   (∀c o,c≠it->s.heap.get? c=some o->h'.get? c=some o)->Q (some (.ref s.heap.objs.size)) {s with heap:=h' }):wpAny (model prog w) A (aci (.ref it)) Q E s:=by
 let⟨M,f,L,j⟩:=K.ex;have a:s.TypeIs (.ref it) "dict_itemiterator":=(⟨_,h,rfl⟩);have own:abn "dict_itemiterator" = true:=by decide
 unfold aci;refine gT (ab6 (aaN (name:=abK "__next__") a abc (aaZ abc a acl ?_ (acf _))))
 wp_walk using t8 a,adB h rfl,acb f j,acu f j,abg a
 have D:(if (i:Int)<0 then none else es[((i:Nat):Int).toNat]?)=some es[i]:=by
  rw[if_neg ∅,aa6,abP C]
 rw[D];rcases s with⟨y,g,l,t,os⟩;refine gT ?_;refine gT (t8 a (Ld ?_));refine gT (m:=afk _ _) (abg a ?_);show wpAny _ _ (acJ (.ref it) 3 (ade ((i:Int)+1)) >>= _) _ _ _;refine gT (aaC h 'a' λe H s1=>?_);replace s1:abk it y e:=s1;have k:nW e it d (i+1) es.size ep ok ov T b:=by
  have q:((i+1:Nat):Int)=(i:Int)+1:=rfl;unfold nW;rw[q];simpa[ade]using H
 have u:aeK ⟨e,g,l,t,os⟩ (.ref it) "dict_itemiterator":=(⟨_,k,rfl⟩);refine gT (ab5 (gT (abg u (gT (abg u ?_)))));show wpAny _ _ (aca (.ref it) 6 es[i].key es[i].val) _ _ ⟨e,g,l,t,os⟩;have J:e.objs.size=y.objs.size:=s1.1;refine FE (s:=⟨e,g,l,t,os⟩) k (s1.extBut T o F p) λG B x z k2=>?_;rw[J]at x z⊢;exact Ld ⟨_,rfl,Ld (I G B x z λc o r q=>k2 c o r (s1.extBut c o r q))⟩
theorem FG(p:A.handled=none)(h:nW s.heap it d i es.size ep ok ov T b)(r:EntAt s.heap d es ep)(k:es.size≤i)
  (z:∀h',(∀c o,c≠it->s.heap.get? c=some o->h'.get? c=some o)->Q none {s with heap:=h' }):wpAny (model prog w) A (aci (.ref it)) Q E s:=by
 let⟨F,g,u,a⟩:=r.ex;have f:s.TypeIs (.ref it) "dict_itemiterator":=(⟨_,h,rfl⟩);have own:abn "dict_itemiterator" = true:=by decide
 unfold aci;refine gT (ab6 (aaN (name:=abK "__next__") f abc (aaZ abc f acl ?_ (acf _))))
 wp_walk using t8 f,adB h rfl,acb g a,acu g a,abg f
 have l:(if (i:Int)<0 then none else es[((i:Nat):Int).toNat]?)=none:=by
  rw[if_neg ∅,aa6,aer k]
 rw[l];refine gT (gT (t8 f (Ld ?_)));refine gT (m:=acJ (.ref it) 2 .none) (aaC h 'a' λC D s1=>?_);refine kM p λx e k2 ⟨t,j,y⟩=>?_;exact gT (acD (T:= "StopIteration") (b:=true) ⟨t,j,y⟩ aek (Ld (z x λc o B q=>k2 c o (s1.extBut c o B q))))
structure Nx(prog:aaI)(w:World)(A:abb)(S it:Addr)(n:Nat)(St:Nat->aa1->Prop)(P:aa1->Nat->Ad->Prop):Prop where
 item:∀(i:Nat) (s:GT) (Q:Option Ad->GT->Prop) (E:Ad->GT->Prop),i<n->St i s.heap->(∃o,s.heap.get? S=some o)->(∀h' v,St (i+1) h'->P h' i v->(∀c o,c≠it->s.heap.get? c=some o->h'.get? c=some o)->Q (some v) {s with heap:=h' })->wpAny (model prog w) A (aci (.ref it)) Q E s
 done:∀(s:GT) (Q:Option Ad->GT->Prop) (E:Ad->GT->Prop),St n s.heap->(∀h',(∀c o,c≠it->s.heap.get? c=some o->h'.get? c=some o)->Q none {s with heap:=h' })->wpAny (model prog w) A (aci (.ref it)) Q E s
 keep:∀i h h',St i h->h'.objs.size=h.objs.size->(∀c o,c≠S->h.get? c=some o->h'.get? c=some o)->St i h'
 more:∀h h' i v,P h i v->(∀c o,c≠S->c≠it->h.get? c=some o->h'.get? c=some o)->P h' i v
def oA(h:aa1)(S:Addr)(acc:Array Ad)(c:Nat):Prop:=h.get? S=some {cls:=.type "list",data:=.seq acc c}
theorem wg{S it:Addr}{n:Nat}{St:Nat->aa1->Prop}{P:aa1->Nat->Ad->Prop}{R:Result->GT->Prop}{r:Ad}(N:Nx prog w A.in1 S it n St P)(ne:S≠it)(H:n≤aak):∀(k i:Nat) (s:GT) (acc:Array Ad) (c:Nat),n-i=k->i≤n->St i s.heap->oA s.heap S acc c->acc.size=i->(∀j v,acc[j]?=some v->P s.heap j v) ->
  (∀h' a c',(∀b o,b≠it->b≠S->s.heap.get? b=some o->h'.get? b=some o)->oA h' S a c'->a.size=n->(∀j v,a[j]?=some v->P h' j v)->R (.ok (.ret r)) {s with heap:=h' })->ad4 (model prog w) A (.builtin "list.extend.loop" ⟨[.ref S,.ref it,r],[]⟩) R s
 |0,i,s,acc,c,hk,hi,st,hl,ha,hp,fin=>by
  have e:i=n:=by omega
  subst e;refine adj agQ ((aeP adM _).symm▸?_);refine gT (m:=aci (.ref it)) (N.done s _ _ st λh' kp=>Ld (fin h' acc c (λb o nb _ q=>kp b o nb q) (kp S _ ne hl) ha λj v e=>N.more _ _ _ _ (hp j v e) λc o _ f q=>kp c o f q))
 | k+1,i,s,acc,c,hk,hi,st,hl,ha,hp,fin=>by
  refine adj agQ ((aeP adM _).symm▸?_);refine gT (m:=aci (.ref it)) (N.item i s _ _ ∅ st ⟨_,hl⟩ λh' v p F kp=>?_);have h:oA h' S acc c:=kp S _ ne hl;refine gT (m:=updateSeq S (·.push v)) (ago (s:={s with heap:=h' }) h rfl (Ld ⟨ag0 adM _,?_⟩) (by rw[ha];exact aaw ‹_› ‹_›) (by show(acc.push v).size≤aak+1;rw[ahE,ha];omega));have l:∀b o,b≠S->h'.get? b=some o->(h'.update S (acG (·.push v))).get? b=some o:=λb o nb q=>(ac7 _ _ (abH nb)).trans q;have t:∀j u,(acc.push v)[j]?=some u->P (h'.update S (acG (·.push v))) j u:=λj u e=>by
   rw[Array.getElem?_push]at e
   split at e
   .rename_i z;rw[ha]at z;subst z;rw[<-aaA e];exact N.more _ _ _ _ F λc o f _ q=>l c o f q
   .exact N.more _ _ _ _ (hp j u e) λc o f y q=>l c o f (kp c o y q)
  refine wg N ne H k (i+1) _ (acc.push v) _ ∅ ∅ (N.keep _ _ _ p (aeF ..) l) (adm _ h rfl) (by rw[ahE,ha]) t λG g x k2 B C D=>fin G g x (λb o n1 n2 q=>k2 b o n1 n2 (l b o n2 (kp b o n1 q))) B C D
end
section
variable {prog:aaI}{w:World}{A:abb}{E:Ad->GT->Prop}{s:GT}{f d S:Addr}{g:Array ab1}{i r:Nat}{ok t:Ad}
def StI(S f d:Addr)(g:Array ab1)(r:Nat)(i:Nat)(h:aa1):Prop:=EntAt h d g r/\h.objs.size=f+1+i/\((∃ok t,adf h f d i g.size r ok t)\/∃k v T b o,nW h f d i g.size r k v T b/\h.get? T=some o/\T≠f/\T≠S)
def PrI(S f:Addr)(g:Array ab1)(h:aa1)(i:Nat)(v:Ad):Prop:=S<f/\v = .ref (f+1+i)/\∃a:i<g.size,h.get? (f+1+i)=some {cls:=.type "tuple",data:=.seq #[g[i].key,g[i].val]}
def AI(f:Addr)(i:Nat):f+1+i≠f:=abt (aau (abF f) (ack _ i))
def Ac{S f:Addr}(h:S<f)(i:Nat):f+1+i≠S:=abt (ael h (aau (abF f) (ack _ i)))
theorem Gm(G:A.handled=none)(n1:S<f)(n2:S≠d)(F:f≠d):Nx prog w A S f g.size (StI S f d g r) (PrI S f g) where
 item:=by
  intro i s Q E m ⟨j,z,c⟩ ⟨J,I⟩ y;rcases c with⟨ok,t,c⟩|⟨k,v,T,b,o,c,D,B,C⟩
  .refine Ce c j m λx a1 a2 u p=>?_;rw[z]at a1 a2 u⊢;exact y x _ ⟨j.keep λo q=>p d o (abH F) q,u,.inr ⟨_,_,_,false,_,a1,a2,(AI f i),(Ac n1 i)⟩⟩ ⟨n1,rfl,m,a2⟩ p
  .refine GG c D B j m λx a1 a2 u p=>?_;rw[z]at a2 u⊢;exact y x _ ⟨j.keep λo q=>p d o (abH F) q,u,.inr ⟨_,_,_,true,o,a1,p T o B D,B,C⟩⟩ ⟨n1,rfl,m,a2⟩ p
 done:=by
  intro s Q E ⟨j,z,c⟩ y;rcases c with⟨ok,t,c⟩|⟨k,v,T,b,o,c,_⟩
  .exact z5 G c j (aab _) y
  .exact FG G c j (aab _) y
 keep:=by
  intro i h x ⟨j,z,c⟩ H k;refine⟨j.keep λo q=>k d o (abH n2) q,H.trans z,?_⟩;rcases c with⟨ok,t,c⟩|⟨a,v,T,b,o,c,D,B,C⟩
  .exact .inl ⟨ok,t,k f _ (abt n1) c⟩
  .exact .inr ⟨a,v,T,b,o,k f _ (abt n1) c,k T o C D,B,C⟩
 more:=by intro h x i v ⟨l,e,m,q⟩ k;exact⟨l,e,m,k _ _ (Ac n1 i) (AI f i) q⟩
def Cr{Q:Ad->GT->Prop}(e:s.heap.get? v=some {cls:=.type "dict_items",data:=.fields #[.ref d]})(j:EntAt s.heap d g r)
  (l:∀h',adf h' s.heap.objs.size d 0 g.size r .none .none->h'.objs.size=s.heap.objs.size+1->(∀b o,s.heap.get? b=some o->h'.get? b=some o)->Q (.ref s.heap.objs.size) {s with heap:=h' }):wpAny (model prog w) A (afD (.ref v)) Q E s:=by
 let⟨m,a,k,h⟩:=j.ex;have c:s.TypeIs (.ref v) "dict_items":=(⟨_,e,rfl⟩);have own:abn "dict_itemiterator" = true:=by decide
 refine wpAny_pyIter_slot c ae0 (aaZ ae0 c PySem.F.entry_dict_items_iter ?_ (PySem.F.args_dict_items_iter_1 _));refine gT (Ld (gT (gT (abh e rfl (x:=.ref d) rfl (Ld (gT (gT (acb a h (gT (acu a h ?_))))))))));simp only[own,if_true];refine abd (Ld ⟨_,rfl,"dict_itemiterator",_,⟨_,aai _ rfl,rfl⟩,PySem.F.slot_dict_itemiterator_next.lookup,?_⟩) (by simp only[sizeOk,ac4.Dict_items.ownedTupleFields,aaK,aao,aat,ad5,aap];decide);exact l _ (aai _ rfl) (abv ..) λb o q=>Io _ q
def Du:typeLookup (.type "dict_items") "__len__" = pure (some (.builtin "dict_items.__len__")):=by rfl
theorem yC{Q:Bool->GT->Prop}(a:s.TypeIs (.ref v) "dict_items")(h:Q false s):wpAny (model prog w) A (acB (.ref v)) Q E s:=by
 rw[acB];refine gT (aeX a Du ?_);have c:splitId "dict_items.__len__" = some ("dict_items","__len__"):=by ext K
 dsimp only;rw[c];dsimp only;refine gT (acD (b:=true) a (by rw[isSubtype_type];kernel_rfl) ?_);rw[if_neg ⋯];rw[if_pos (by ext K)];exact gT (ac5 a (Ld h))
def Qi{c:Nat}{Q:Unit->GT->Prop}(a:oA s.heap S #[] c)(h:∀h' c',oA h' S #[] c'->h'.objs.size=s.heap.objs.size->(∀b o,b≠S->s.heap.get? b=some o->h'.get? b=some o)->Q () {s with heap:=h' }):wpAny (model prog w) A (ac4.List.listTouch (.ref S)) Q E s:=by
 refine gT (ago a rfl ?_ 'a' (by trivial));have l:oA (s.heap.update S (acG (·.push .none))) S (#[].push .none) _:=adm _ a rfl;refine ago l rfl ?_ (by show(1:Nat)≤aak;rw[aap];decide) (by trivial);have e:oA ((s.heap.update S (acG (·.push .none))).update S (acG (·.pop))) S #[] _:=adm _ l rfl;exact h _ _ e ((aeF ..).trans (aeF ..)) λb o nb q=>(ac7 _ _ (abH nb)).trans ((ac7 _ _ (abH nb)).trans q)
def FX{T:String}{c:Nat}{St:Addr->Nat->aa1->Prop}{R:Result->GT->Prop}(x:s.TypeIs (.ref v) T)(k:T = "dict_items" \/ T = "dict")(K:S≠v)(X:oA s.heap S #[] c)(W:n≤aak)
  (h:∀(s:GT) (Q:Bool->GT->Prop) (E:Ad->GT->Prop),s.TypeIs (.ref v) T->Q false s->wpAny (model prog w) A.in1 (acB (.ref v)) Q E s)
  (a:∀(Q:Ad->GT->Prop) (E:Ad->GT->Prop),(∀h' f,f≠S->Nx prog w A.in1 S f n (St f) (P f)->St f 0 h'->(∀b o,s.heap.get? b=some o->h'.get? b=some o)->s.heap.get? f=none->Q (.ref f) {s with heap:=h' })->wpAny (model prog w) A.in1 (afD (.ref v)) Q E s)
  (p:∀f h' (acc:Array Ad) c',(∀b o,b≠S->s.heap.get? b=some o->h'.get? b=some o)->oA h' S acc c'->acc.size=n->(∀j u,acc[j]?=some u->P f h' j u)->R (.ok (.ret (.ref S))) {s with heap:=h' }):ad4 (model prog w) A (.builtin "list.__iadd__" ⟨[.ref S,.ref v],[]⟩) R s:=by
 refine adj F.entry_list_iadd ((aeP F.plain_list_iadd _).symm▸?_);show wpAny _ A.in1 (ae7 (.ref S) (.ref v) (.ref S)) _ _ _;refine gT ?_;refine ac5 x ?_;have L:adW (.ref S) (.ref v)=false:=by simp[adW,K]
 rw[L,if_neg (by rcases k with rfl|rfl<;>decide)];refine gT (a _ _ λy f D N B k1 nn=>?_);have m:aeK {s with heap:=y} (.ref v) T:=by
  let⟨o,H,V⟩:=x;exact⟨o,k1 _ _ H,V⟩
 refine gT (ab5 (h _ _ _ m ?_));dsimp only;rw[if_pos (by rcases k with rfl|rfl<;>decide)];refine gT (abI (gT (Qi (s:={s with heap:=y}) (k1 _ _ X) λZ C G l k2=>?_)));refine Ld ⟨ag0 adM _,wg N (abH D) W n 0 _ #[] C rfl (abJ _) (N.keep _ _ _ B l k2) G rfl (λj u e=>by simp at e) λM acc Y I J O U=>p f M acc Y (λb o nb q=>I b o (λz=>by rw[z,nn]at q;cases q) nb (k2 b o nb (k1 b o q))) J O U⟩
def yt{T:String}{St:Addr->Nat->aa1->Prop}{Q:List Ad->GT->Prop}(C:s.TypeIs (.ref v) T)(x:T = "dict_items" \/ T = "dict")(I:n≤aak)
  (a:∀(s:GT) (Q:Bool->GT->Prop) (E:Ad->GT->Prop),s.TypeIs (.ref v) T->Q false s->wpAny (model prog w) A.in1 (acB (.ref v)) Q E s)
  (c:∀(s1:GT) (Q:Ad->GT->Prop) (E:Ad->GT->Prop),(∀b o,s.heap.get? b=some o->s1.heap.get? b=some o)->(∃o,s1.heap.get? s.heap.objs.size=some o)->(∀h' f,f≠s.heap.objs.size->Nx prog w A.in1 s.heap.objs.size f n (St f) (P f)->St f 0 h'->(∀b o,s1.heap.get? b=some o->h'.get? b=some o)->s1.heap.get? f=none->Q (.ref f) {s1 with heap:=h' })->wpAny (model prog w) A.in1 (afD (.ref v)) Q E s1)
  (B:∀f h' (acc:Array Ad),(∀b o,s.heap.get? b=some o->h'.get? b=some o)->s.heap.objs.size<h'.objs.size->acc.size=n->(∀j u,acc[j]?=some u->P f h' j u)->Q acc.toList {s with heap:=h' }):wpAny (model prog w) A (collect (.ref v)) Q E s:=by
 have new:oA _ s.heap.objs.size #[] 0:=aai _ rfl;have y:∀b o,s.heap.get? b=some o->(s.heap.push {cls:=.type "list",data:=.seq #[]}).get? b=some o:=λb o q=>Io _ q;have G:s.heap.objs.size≠v:=by
  let⟨o,q,_⟩:=C;exact abt (aal q)
 have e:aeK {s with heap:=s.heap.push {cls:=.type "list",data:=.seq #[]} } (.ref v) T:=by
  let⟨o,D,H⟩:=C;exact⟨o,y _ _ D,H⟩
 refine gT (m:=runValue _) (wpAny_runValue (adj F.entry_proto_collect (gT (m:=ahh []) (abd (Ld ⟨ag0 F.plain_list_iadd _,?_⟩)))));refine FX e x G new I a (λQ E h=>c {s with heap:=s.heap.push {cls:=.type "list",data:=.seq #[]} } Q E y ⟨_,new⟩ h) λf h' acc J k l z p=>?_;refine gT (m:=load s.heap.objs.size) (wpAny_load l ?_);exact Ld (B f h' acc (λb o q=>k b o (aa2 (aal q)) (y b o q)) (aal l) z p)
end
end L2
namespace L2
open PySem PySem.Spec PySem.W PyProof.Rows
variable{a arr:Array Keyed}{i j lo n:Nat}{x:Keyed}{st':aby}{Q:Array Keyed->aby->Prop}{vs:List Ad}{ds:List aD}{B b:Addr}{g:Nat->HO}{kvs:List (aD×aD)}{es:List (V×V)}{o:Expr}{apos cpos p0 pos:Pos}
def gal:=sortPriv% PySem.Builtin.gallop
abbrev pK(a:Array Keyed)(i:Nat):Keyed:=a.getD i (.none,.none)
theorem vz(h:i<a.size):a[i]?=some (pK a i):=by simp_all
def Yf(h:i<a.size):a.toList.drop i=pK a i::a.toList.drop (i+1):=by
 rw[adH (by simpa using h)];simp[h]
def OrcW(prog:aaI)(w:World)(A:abb)(s:GT)(d:afY)(c:List Keyed):Prop:=∀x∈c,∀y∈c,∀C:Bool->GT->Prop,(∀b,C b s)->wpAny (model prog w) A (keyLt' d x.1 y.1) C (λ_ _=>False) s
def setG(st:aby)(m:Nat):aby:=afl (kindOf st) (arrOf st) (aaJ st) m (afm st)
def sMG:=sortPriv% PySem.Builtin.setMinGallop
def mLo:=sortPriv% PySem.Builtin.mergeLo
def mHi:=sortPriv% PySem.Builtin.mergeHi
section
variable {prog:aaI}{w:World}{A:abb}{E:Ad->GT->Prop}{s:GT}{g β:Type}{Q:β->aby->Prop}{st:aby}
def bF{c:Prop}[Decidable c]{p q:StateT aby Sem β}(h:c->wpS (model prog w) A E s p Q st)(d:¬c->wpS (model prog w) A E s q Q st):wpS (model prog w) A E s (if c then p else q) Q st:=by
 by_cases z:c
 .rw[if_pos z];exact h z
 .rw[if_neg z];exact d z
def dA{f:Keyed->StateT aby Sem β}(c:i<arr.size)(h:wpS (model prog w) A E s (f (pK arr i)) Q st):wpS (model prog w) A E s (elem' arr i >>= f) Q st:=by
 rw[elem'_eq,vz c];exact aaH (aaL h)
def wq{m c:Nat}{f:Unit->StateT aby Sem β}(h:wpS (model prog w) A E s (f ()) Q (setG st c)):wpS (model prog w) A E s (sMG c >>= f) Q (setG st m):=aaH (aeG h)
def FJ{M:Model}{A:abb}{E:Ad->GT->Prop}{s:GT}{c:Type}{x:c}{Q:PUnit->c->Prop}{st:c}(h:Q ⟨⟩ x):wpS M A E s (set x:StateT c Sem PUnit) Q st:=by
 unfold wpS;rw[StateT.run_set];exact Ld ⟨rfl,h⟩
variable {e:afY}{d:List Keyed} (O:OrcW prog w A s e d)
include O
theorem CJ{y:Keyed}{Q:Option Bool->aby->Prop}(hk:kindOf st=e)(f:x∈d)(c:y∈d)(h:∀b,Q (some b) st):wpS (model prog w) A E s (lt' x y) Q st:=by
 rw[lt'_eq];refine aaH (ae8 ?_);rw[hk];refine aaH (afZ (ab6 (ach (O x f y c _ λb=>?_) (λ_ _ q=>q) λ_ _ q=>q.elim)));exact⟨rfl,aaL (h b)⟩
theorem NR{y:Keyed}{f:Option Bool->StateT aby Sem β}(hk:kindOf st=e)(k:x∈d)(c:y∈d)(h:∀b,wpS (model prog w) A E s (f (some b)) Q st):wpS (model prog w) A E s (lt' x y >>= f) Q st:=aaH (CJ O hk k c h)
theorem oJ{left:Bool}{key:Keyed}{base p:Nat}{f:Option Nat->StateT aby Sem β}(hk:kindOf st=e)(u:key∈d)(H:p<n)(J:base+n≤arr.size)(G:∀x∈arr.toList,x∈d)(h:∀k,k≤n->wpS (model prog w) A E s (f (some k)) Q st):wpS (model prog w) A E s (gal left key arr base n p >>= f) Q st:=by
 have B:∀i,i<n->∀(v:Option Bool->aby->Prop),(∀b,v (some b) st)->wpS (model prog w) A E s (elem' arr (base+i) >>= λx=>if left=true then lt' x key else lt' key x >>= λr=>pure (r.map λx=>!x)) v st:=λi t v q=>by
  have m:=G _ (aeL.mpr (agv (vz (a:=arr) (i:=base+i) ∅)));refine dA ∅ ?_
  cases left with
  |true=>exact CJ O hk m u q
  |false=>exact NR O hk u m λb=>aaL (q !b)
 apply aaH;apply aaH;refine B p H _ λb=>?_;dsimp only;cases b
 case' false=>
  rw[if_neg ⋯];refine aaH (acd (abD (I:=λi c st'=>st=st'/\∃l o,c=(none,l,o)/\l≤p/\l<o) (Q:=λc st'=>st=st'/\∃l o,c=(none,l,o)/\l≤p/\l<o) ?_ (λ_ _ q=>q) ⟨rfl,0,1,rfl,∅,∅⟩) ?_)
 case' true=>
  rw[if_pos rfl];refine aaH (acd (abD (I:=λi c st'=>st=st'/\∃l o,c=(none,l,o)/\p+l<n/\l<o) (Q:=λc st'=>st=st'/\∃l o,c=(none,l,o)/\p+l<n/\l<o) ?_ (λ_ _ q=>q) ⟨rfl,0,1,rfl,∅,∅⟩) ?_)
 any_goals
  intro i c st' _ t ⟨rfl,l,o,rfl,F,D⟩;dsimp only;refine bF (λz=>aaL ⟨rfl,l,o,rfl,F,D⟩) λz=>?_;apply aaH;refine B _ ∅ _ λb=>?_
  cases b<;>exact aaL ⟨rfl,_,_,rfl,∅,∅⟩
 all_goals
  intro c st' ⟨rfl,l,o,rfl,F,D⟩;dsimp only;refine aaH (acd (abD (I:=λi c st'=>st=st'/\∃lo t,c=(none,lo,t)/\lo≤t/\t≤n) (Q:=λc st'=>st=st'/\∃lo t,c=(none,lo,t)/\lo≤t/\t≤n) ?_ (λ_ _ q=>q) ⟨rfl,_,_,rfl,∅,∅⟩) ?_)
  .rintro i c st' _ t ⟨rfl,lo,hi',rfl,y,C⟩;dsimp only;refine bF (λz=>aaL ⟨rfl,_,_,rfl,y,C⟩) λz=>?_;apply aaH;refine B _ ∅ _ λb=>?_;cases b
   .exact aaL ⟨rfl,_,_,rfl,∅,∅⟩
   .exact aaL ⟨rfl,_,_,rfl,∅,∅⟩
  intro c st' ⟨rfl,lo,t,rfl,y,C⟩;exact aaL (h _ ∅)
end
def Mg(tot out r c:List Keyed):Prop:=(out++(r++c)).Perm tot
section
variable {tot out r a xs:List Keyed}
def Mg.sym(h:Mg tot out r a):Mg tot out a r:=(List.perm_append_comm.append_left _).trans h
def Mg.app(h:Mg tot out (xs++r) a):Mg tot (out++xs) r a:=by
 unfold Mg at h⊢;simpa only[aaY]using h
end
def memK(h:i<a.size):pK a i∈a.toList:=aeL.mpr (agv (vz h))
abbrev ta(a:Array Keyed)(n:Nat):List Keyed:=(a.toList.take n).reverse
section
variable {a b out:Array Keyed}{c d k:Nat}{tot r:List Keyed}
def Mg.push(h:Mg tot out.toList (a.toList.drop c) r)(e:c<a.size):Mg tot (out.push (pK a c)).toList (a.toList.drop (c+1)) r:=by
 rw[Yf e]at h;rw[aep];exact Mg.app (xs:=[_]) h
def Mg.ext(h:Mg tot out.toList (a.toList.drop c) r):Mg tot (out++a.extract c (c+k)).toList (a.toList.drop (c+k)) r:=by
 rw[acW,show(a.extract c (c+k)).toList=(a.toList.drop c).take k by simp];refine Mg.app ?_;rw[<-List.drop_drop,adp];exact h
theorem Mg.done(h:Mg tot out.toList (a.toList.drop c) (b.toList.drop d)):(out++a.extract c a.size++b.extract d b.size).toList.Perm tot:=by
 have e:∀(a:Array Keyed) i,(a.extract i a.size).toList=a.toList.drop i:=λa i=>by simp[adc]
 rw[acW,acW,e,e,aaY];exact h
def Mg.pushH(h:Mg tot out.toList (ta a (c+1)) r)(f:c<a.size):Mg tot (out.push (pK a c)).toList (ta a c) r:=by
 have e:ta a (c+1)=pK a c::ta a c:=by
  show(agM (c+1) a.toList).reverse=_;rw[List.take_succ_eq_append_getElem (by simpa using f),agR];simp[f]
 rw[e]at h;rw[aep];exact Mg.app (xs:=[_]) h
theorem Mg.extH(h:Mg tot out.toList (ta a c) r)(hk:k≤c):Mg tot (out++(a.extract k c).reverse).toList (ta a k) r:=by
 have e:ta a c=(a.extract k c).reverse.toList++ta a k:=by
  rw[Array.toList_reverse,<-agR,aeQ];show _=(agM k _++agM (c-k) _).reverse;rw[<-List.take_add,show k+(c-k)=c by omega]
 rw[acW];rw[e]at h;exact Mg.app h
def Mg.doneH(h:Mg tot out.toList (ta a c) (ta b d)):(a.extract 0 c++b.extract 0 d++out.reverse).toList.Perm tot:=by
 have:=(afB _).trans h.sym;simpa using this
end
structure Two(prog:aaI)(w:World)(A:abb)(s:GT)(κ:afY)(it:List Keyed)(a b:Array Keyed)(st:aby):Prop where
 o:OrcW prog w A s κ it
 ma:∀x∈a.toList,x∈it
 mb:∀x∈b.toList,x∈it
 hk:kindOf st=κ
def SJ{τ:Type}(st:aby)(P:τ->Prop)(c:Option (Array Keyed)×τ)(st':aby):Prop:=c.1=none/\(∃m,st'=setG st m)/\P c.2
def SK{τ:Type}(tot:List Keyed)(st:aby)(P:τ->Prop)(c:Option (Array Keyed)×τ)(st':aby):Prop:=(∃m,st'=setG st m)/\((c.1=none/\P c.2)\/∃x,c.1=some x/\x.toList.Perm tot)
def SO{τ:Type}(tot:List Keyed)(st:aby)(P d:τ->Prop)(r:ForInStep (Option (Array Keyed)×τ))(st':aby):Prop:=∃c,(r = .done c/\SK tot st P c st')\/(r = .yield c/\SJ st d c st')
section
variable {prog:aaI}{w:World}{A:abb}{E:Ad->GT->Prop}{s:GT}{τ t:Type}{tot:List Keyed}{st:aby}{P l:τ->Prop}{c:τ}{m:Nat}
def cJ{x:Array Keyed}(h:x.toList.Perm tot):wpS (model prog w) A E s (pure (.done (some x,c))) (SO tot st P l) (setG st m):=aaL ⟨_,.inl ⟨rfl,⟨m,rfl⟩,.inr ⟨x,rfl,h⟩⟩⟩
def jT(h:P c):wpS (model prog w) A E s (pure (.done (none,c))) (SO tot st P l) (setG st m):=aaL ⟨_,.inl ⟨rfl,⟨m,rfl⟩,.inl ⟨rfl,h⟩⟩⟩
def yE(h:l c):wpS (model prog w) A E s (pure (.yield (none,c))) (SO tot st P l) (setG st m):=aaL ⟨_,.inr ⟨rfl,rfl,⟨m,rfl⟩,h⟩⟩
def Lp(tot:List Keyed)(a b:Array Keyed)(N:Nat)(c:Array Keyed×Nat×Nat×t):Prop:=Mg tot c.1.toList (a.toList.drop c.2.1) (b.toList.drop c.2.2.1)/\c.2.1+1<a.size/\c.2.2.1<b.size/\N≤c.2.1+c.2.2.1
def Hq(tot:List Keyed)(a b:Array Keyed)(N:Nat)(c:Nat×Nat×Array Keyed×t):Prop:=Mg tot c.2.2.1.toList (ta a c.1) (ta b c.2.1)/\0<c.1/\1<c.2.1/\c.1≤a.size/\c.2.1≤b.size/\N+c.1+c.2.1≤a.size+b.size
abbrev MgS:=Option (Array Keyed)×Array Keyed×Nat×Nat×Nat×Nat×Nat
def lo2(a b out:Array Keyed)(f g n x y:Nat):StateT aby Sem (ForInStep MgS):=do
 let v <- elem' a f
 if (f+1+1==a.size)=true then pure (.done (some (out.push v++b.extract g b.size++a.extract (f+1) a.size),out.push v,f+1,g,n,x,y))
 else if (decide (x<7)&&decide (y<7))=true then pure (.done (none,out.push v,f+1,g,n,x,y))
 else pure (.yield (none,out.push v,f+1,g,n,x,y))
def lo1(a b out:Array Keyed)(f g n x y:Nat):StateT aby Sem (ForInStep MgS):=do
 let v <- elem' b g
 if (g+1==b.size)=true then pure (.done (some (out.push v++a.extract f a.size++b.extract (g+1) b.size),out.push v,f,g+1,n,x,y))
 else do
  let u <- elem' a f
  let some k <- gal true u b (g+1) (b.size-(g+1)) 0|return .done (some (out.push v++a.extract f a.size++b.extract (g+1) b.size),out.push v,f,g+1,n,x,y)
  if k>0 then
   if (g+1+k==b.size)=true then pure (.done (some (out.push v++b.extract (g+1) (g+1+k)++a.extract f a.size++b.extract (g+1+k) b.size),out.push v++b.extract (g+1) (g+1+k),f,g+1+k,n,x,k))
   else lo2 a b (out.push v++b.extract (g+1) (g+1+k)) f (g+1+k) n x k
  else lo2 a b (out.push v) f (g+1) n x k
def loI(a b out:Array Keyed)(f g n x y:Nat):StateT aby Sem (ForInStep (Option (Array Keyed)×Array Keyed×Nat×Nat×Nat×Nat)):=do
 let u <- elem' b g
 let v <- elem' a f
 let some z <- lt' u v|return .done (some (out++a.extract f a.size++b.extract g b.size),out,f,g,x,y)
 if z=true then do
  let v <- elem' b g
  if (g+1==b.size)=true then pure (.done (some (out.push v++a.extract f a.size++b.extract (g+1) b.size),out.push v,f,g+1,0,y+1))
  else if y+1≥n then pure (.done (none,out.push v,f,g+1,0,y+1))
  else pure (.yield (none,out.push v,f,g+1,0,y+1))
 else do
  let v <- elem' a f
  if (f+1+1==a.size)=true then pure (.done (some (out.push v++b.extract g b.size++a.extract (f+1) a.size),out.push v,f+1,g,x+1,0))
  else if x+1≥n then pure (.done (none,out.push v,f+1,g,x+1,0))
  else pure (.yield (none,out.push v,f+1,g,x+1,0))
def lo0(a b out:Array Keyed)(f g n x y:Nat):StateT aby Sem (ForInStep MgS):=do
 sMG n
 let u <- elem' b g
 let some k <- gal false u a f (a.size-f) 0|return .done (some (out++a.extract f a.size++b.extract g b.size),out,f,g,n,x,y)
 if k>0 then
  if (f+k+1==a.size)=true then pure (.done (some (out++a.extract f (f+k)++b.extract g b.size++a.extract (f+k) a.size),out++a.extract f (f+k),f+k,g,n,k,y))
  else if (f+k==a.size)=true then pure (.done (some (out++a.extract f (f+k)++a.extract (f+k) a.size++b.extract g b.size),out++a.extract f (f+k),f+k,g,n,k,y))
  else lo1 a b (out++a.extract f (f+k)) (f+k) g n k y
 else lo1 a b out f g n k y
variable {a b out:Array Keyed}{f g n x y N:Nat}
theorem yZ(M:Mg tot out.toList (a.toList.drop f) (b.toList.drop g))(p:f+1<a.size)(q:g<b.size)(h:N≤f+g):wpS (model prog w) A E s (lo2 a b out f g n x y) (SO tot st (Lp tot a b N) (Lp tot a b N)) (setG st m):=by
 have p0:f<a.size:=aes p;have d:=M.push p0;refine dA p0 (bF (λz=>cJ d.sym.done) λz=>?_);simp only[beq_iff_eq]at z;exact bF (λ_=>jT ⟨d,by show f+1+1<_;omega,q,by show N≤f+1+g;omega⟩) λ_=>yE ⟨d,by show f+1+1<_;omega,q,by show N≤f+1+g;omega⟩
variable {o:afY}{p:List Keyed}
theorem zp(T:Two prog w A s o p a b st)(M:Mg tot out.toList (a.toList.drop f) (b.toList.drop g))(d:f+1<a.size)(h:g<b.size)(r:N≤f+g):wpS (model prog w) A E s (lo1 a b out f g n x y) (SO tot st (Lp tot a b N) (Lp tot a b N)) (setG st m):=by
 have p0:f<a.size:=aes d;have e:=(M.sym.push h).sym;refine dA h (bF (λz=>cJ e.done) λz=>?_);simp only[beq_iff_eq]at z;refine dA p0 (oJ T.o T.hk (T.ma _ (memK p0)) ∅ ∅ T.mb λk k1=>bF (λc=>?_) λc=>yZ e d ∅ ∅);have q:=(e.sym.ext (k:=k)).sym;refine bF (λz=>cJ q.done) λz=>yZ q d ?_ ∅;simp only[beq_iff_eq]at z;omega
theorem J8(T:Two prog w A s o p a b st){c:Array Keyed×Nat×Nat×Nat×Nat}(J:SJ st (Lp tot a b (N+j)) (none,c) st'):wpS (model prog w) A E s (loI a b c.1 c.2.1 c.2.2.1 n c.2.2.2.1 c.2.2.2.2) (SO tot st (Lp tot a b (N+1)) (Lp tot a b (N+(j+1)))) st':=by
 let⟨out,f,g,x,y⟩:=c;let⟨_,⟨m,rfl⟩,M,h,d,k⟩:=J;dsimp only at M h d k;have p0:f<a.size:=aes h;refine dA d (dA p0 (NR T.o T.hk (T.mb _ (memK d)) (T.ma _ (memK p0)) λe=>?_));cases e
 .have M':=M.push p0;refine dA p0 (bF (λz=>cJ M'.sym.done) λz=>?_);simp only[beq_iff_eq]at z;exact bF (λ_=>jT ⟨M',by show f+1+1<_;omega,d,by show N+1≤f+1+g;omega⟩) λ_=>yE ⟨M',by show f+1+1<_;omega,d,by show N+(j+1)≤f+1+g;omega⟩
 .have M':=(M.sym.push d).sym;refine dA d (bF (λz=>cJ M'.done) λz=>?_);simp only[beq_iff_eq]at z;exact bF (λ_=>jT ⟨M',h,by show g+1<_;omega,by show N+1≤f+(g+1);omega⟩) λ_=>yE ⟨M',h,by show g+1<_;omega,by show N+(j+1)≤f+(g+1);omega⟩
theorem Kj(T:Two prog w A s o p a b st){c:Array Keyed×Nat×Nat×Nat×Nat×Nat}{v:Nat}{d:Prop}[Decidable d](J:SJ st (Lp tot a b N) (none,c) st'):wpS (model prog w) A E s (if d then lo0 a b c.1 c.2.1 c.2.2.1 n c.2.2.2.2.1 c.2.2.2.2.2 else lo0 a b c.1 c.2.1 c.2.2.1 v c.2.2.2.2.1 c.2.2.2.2.2) (SO tot st (Lp tot a b N) (Lp tot a b N)) st':=by
 let⟨out,f,g,C,x,y⟩:=c;let⟨_,⟨m,rfl⟩,M,h,e,u⟩:=J;dsimp only at M h e u;have p0:f<a.size:=aes h;dsimp only;refine bF (λ_=>?_) λ_=>?_
 all_goals
  refine wq (dA e (oJ T.o T.hk (T.mb _ (memK e)) ∅ ∅ T.ma λk k1=>bF (λc=>?_) λc=>zp T M h e u));have q:=M.ext (k:=k);refine bF (λz=>cJ q.sym.done) λz=>bF (λr=>cJ q.done) λr=>?_;simp only[beq_iff_eq]at z r;exact zp T q ∅ e ∅
theorem U9(T:Two prog w A s o p a b st)(M:Mg tot [] a.toList b.toList)(C:0<a.size)(u:0<b.size)(h:∀r m,r.toList.Perm tot->Q r (setG st m)):wpS (model prog w) A E s (mLo a b) Q st:=by
 have v:Mg tot (#[]:Array Keyed).toList (a.toList.drop 0) (b.toList.drop 0):=M;have d:=(v.sym.push u).sym;apply aaH;refine afZ (abI ⟨rfl,?_⟩);dsimp only;refine dA u ?_;refine bF (λz=>aaL (h _ (agE st) d.done)) λz=>bF (λk=>aaL (h _ (agE st) d.sym.done)) λk=>?_;simp only[beq_iff_eq]at z k;refine aaH (ae8 (aaH (acd (abD (I:=λi c st'=>SJ st (Lp tot a b (i+1)) c st') (Q:=λc st'=>(∃m,st'=setG st m)/\∃r,c.fst=some r/\r.toList.Perm tot) (λi c st' _ _ J=>?_) (λc st' J=>by have:=J.2.2.2;omega) ⟨rfl,⟨agE st,rfl⟩,d,show 0+1<a.size by omega,show 1<b.size by omega,aab 1⟩) λc st' J=>?_)))
 rotate_left
 .obtain⟨⟨m,rfl⟩,r,e,R⟩:=J;rw[e];exact aaL (h _ _ R)
 refine aaH (acd (abD (I:=λj c st'=>SJ st (Lp tot a b (i+1+j)) c st') (Q:=SK tot st (Lp tot a b (i+1+1))) (λj c st' _ _ J=>acd (J8 T ⟨rfl,J.2⟩) λr st' h=>by obtain⟨c,⟨rfl,h⟩|⟨rfl,h⟩⟩:=h<;>exact h) (λc st' J=>⟨J.2.1,.inl ⟨J.1,J.2.2.1,J.2.2.2.1,J.2.2.2.2.1,by have:=J.2.2.2;omega⟩⟩) ⟨rfl,J.2⟩) λc st' J=>J.2.elim (λq=>?_) λq=>?_)
 rotate_left
 .obtain⟨r,e,R⟩:=q;rw[e];exact aaL ⟨J.1,_,rfl,R⟩
 rw[q.1];apply aaH;refine afZ (abI ⟨rfl,?_⟩);refine aaH (acd (abD (I:=λ_ c st'=>SJ st (Lp tot a b (i+1+1)) c st') (Q:=SK tot st (Lp tot a b (i+1+1))) (λj c st' _ _ J=>acd (Kj T ⟨rfl,J.2⟩) λr st' h=>by obtain⟨c,⟨rfl,h⟩|⟨rfl,h⟩⟩:=h<;>exact h) (λc st' J=>⟨J.2.1,.inl ⟨J.1,J.2.2⟩⟩) ⟨rfl,J.1,q.2⟩) λc st' J=>J.2.elim (λq=>?_) λq=>?_)
 rotate_left
 .obtain⟨r,e,R⟩:=q;rw[e];exact aaL ⟨J.1,_,rfl,R⟩
 rw[q.1];let⟨⟨m,rfl⟩,_⟩:=J;exact wq (aaL ⟨rfl,⟨_,rfl⟩,q.2⟩)
end
abbrev MhS:=Option (Array Keyed)×Nat×Nat×Array Keyed×Nat×Nat×Nat
def hi2(a b out:Array Keyed)(c nb n x y:Nat):StateT aby Sem (ForInStep MhS):=do
 let v <- elem' a (c-1)
 if (c-1==0)=true then pure (.done (some (a.extract 0 (c-1)++b.extract 0 nb++(out.push v).reverse),c-1,nb,out.push v,n,x,y))
 else if (decide (x<7)&&decide (y<7))=true then pure (.done (none,c-1,nb,out.push v,n,x,y))
 else pure (.yield (none,c-1,nb,out.push v,n,x,y))
def hi1(a b out:Array Keyed)(c nb n x y:Nat):StateT aby Sem (ForInStep MhS):=do
 let v <- elem' b (nb-1)
 if (nb-1==1)=true then pure (.done (some (b.extract 0 (nb-1)++a.extract 0 c++(out.push v).reverse),c,nb-1,out.push v,n,x,y))
 else do
  let u <- elem' a (c-1)
  let some k <- gal true u b 0 (nb-1) (nb-1-1)|return .done (some (a.extract 0 c++b.extract 0 (nb-1)++(out.push v).reverse),c,nb-1,out.push v,n,x,y)
  if nb-1-k>0 then
   if (k==1)=true then pure (.done (some (b.extract 0 k++a.extract 0 c++(out.push v++(b.extract k (nb-1)).reverse).reverse),c,k,out.push v++(b.extract k (nb-1)).reverse,n,x,nb-1-k))
   else if (k==0)=true then pure (.done (some (a.extract 0 c++b.extract 0 k++(out.push v++(b.extract k (nb-1)).reverse).reverse),c,k,out.push v++(b.extract k (nb-1)).reverse,n,x,nb-1-k))
   else hi2 a b (out.push v++(b.extract k (nb-1)).reverse) c k n x (nb-1-k)
  else hi2 a b (out.push v) c (nb-1) n x (nb-1-k)
def hiI(a b out:Array Keyed)(c nb n x y:Nat):StateT aby Sem (ForInStep (Option (Array Keyed)×Nat×Nat×Array Keyed×Nat×Nat)):=do
 let u <- elem' b (nb-1)
 let v <- elem' a (c-1)
 let some z <- lt' u v|return .done (some (a.extract 0 c++b.extract 0 nb++out.reverse),c,nb,out,x,y)
 if z=true then do
  let v <- elem' a (c-1)
  if (c-1==0)=true then pure (.done (some (a.extract 0 (c-1)++b.extract 0 nb++(out.push v).reverse),c-1,nb,out.push v,x+1,0))
  else if x+1≥n then pure (.done (none,c-1,nb,out.push v,x+1,0))
  else pure (.yield (none,c-1,nb,out.push v,x+1,0))
 else do
  let v <- elem' b (nb-1)
  if (nb-1==1)=true then pure (.done (some (b.extract 0 (nb-1)++a.extract 0 c++(out.push v).reverse),c,nb-1,out.push v,0,y+1))
  else if y+1≥n then pure (.done (none,c,nb-1,out.push v,0,y+1))
  else pure (.yield (none,c,nb-1,out.push v,0,y+1))
def hi0(a b out:Array Keyed)(c nb n x y:Nat):StateT aby Sem (ForInStep MhS):=do
 sMG n
 let u <- elem' b (nb-1)
 let some k <- gal false u a 0 c (c-1)|return .done (some (a.extract 0 c++b.extract 0 nb++out.reverse),c,nb,out,n,x,y)
 if c-k>0 then
  if (k==0)=true then pure (.done (some (a.extract 0 k++b.extract 0 nb++(out++(a.extract k c).reverse).reverse),k,nb,out++(a.extract k c).reverse,n,c-k,y))
  else hi1 a b (out++(a.extract k c).reverse) k nb n (c-k) y
 else hi1 a b out c nb n (c-k) y
section
variable {prog:aaI}{w:World}{A:abb}{E:Ad->GT->Prop}{s:GT}{tot:List Keyed}{st:aby}{m:Nat}{a b out:Array Keyed}{f nb n x y N:Nat}
theorem Bo(M:Mg tot out.toList (ta a (f+1)) (ta b nb))(p:f<a.size)(q:1<nb)(d:nb≤b.size)(h:N+f+nb≤a.size+b.size):wpS (model prog w) A E s (hi2 a b out (f+1) nb n x y) (SO tot st (Hq tot a b N) (Hq tot a b N)) (setG st m):=by
 have c:=M.pushH p;refine dA p (bF (λz=>cJ c.doneH) λz=>?_);have e:0<f:=by simp only[beq_iff_eq]at z;omega
 exact bF (λ_=>jT ⟨c,e,q,abY p,d,h⟩) λ_=>yE ⟨c,e,q,abY p,d,h⟩
variable {g:afY}{l:List Keyed}
theorem Dm(T:Two prog w A s g l a b st)(M:Mg tot out.toList (ta a (f+1)) (ta b (nb+1)))(p:f<a.size)(r:nb<b.size)(C:0<nb)(v:N+f+nb≤a.size+b.size):wpS (model prog w) A E s (hi1 a b out (f+1) (nb+1) n x y) (SO tot st (Hq tot a b N) (Hq tot a b N)) (setG st m):=by
 have d:=(M.sym.pushH r).sym;refine dA r (bF (λz=>cJ d.sym.doneH) λz=>?_);have q:1<nb:=by
  have t:¬(nb==1)=true:=z;simp only[beq_iff_eq]at t;omega
 refine dA p (oJ T.o T.hk (T.ma _ (memK p)) ∅ ∅ T.mb λk k1=>bF (λc=>?_) λc=>?_)
 .have M3:=(d.sym.extH (k:=k) k1).sym;refine bF (λz=>cJ M3.sym.doneH) λz=>bF (λh=>cJ M3.doneH) λh=>Bo M3 p ?_ ∅ ∅;simp only[beq_iff_eq]at z h;omega
 .have e:k=nb:=by
   have D:¬nb-k>0:=c;have u:k≤nb:=k1;omega
  subst e;exact Bo d p q ∅ ∅
theorem OZ(T:Two prog w A s g l a b st){c:Nat×Nat×Array Keyed×Nat×Nat}(J:SJ st (Hq tot a b (N+j)) (none,c) st'):wpS (model prog w) A E s (hiI a b c.2.2.1 c.1 c.2.1 n c.2.2.2.1 c.2.2.2.2) (SO tot st (Hq tot a b (N+1)) (Hq tot a b (N+(j+1)))) st':=by
 let⟨t,u,out,x,y⟩:=c;let⟨_,⟨m,rfl⟩,M,h,k,d,p,v⟩:=J;dsimp only at M h k d p v;let⟨f,rfl⟩:∃n,t=n+1:=⟨t-1,∅⟩;let⟨nb,rfl⟩:∃n,u=n+1:=⟨u-1,∅⟩;refine dA (i:=nb) p (dA (i:=f) d (NR T.o T.hk (T.mb _ (memK p)) (T.ma _ (memK d)) λe=>?_));cases e
 .have M':=(M.sym.pushH p).sym;refine dA (i:=nb) p (bF (λz=>cJ M'.sym.doneH) λz=>?_);have q:1<nb:=by
   have r:¬(nb==1)=true:=z;simp only[beq_iff_eq]at r;omega
  exact bF (λ_=>jT ⟨M',h,q,d,abY p,show N+1+(f+1)+nb≤_ by omega⟩) λ_=>yE ⟨M',h,q,d,abY p,show N+(j+1)+(f+1)+nb≤_ by omega⟩
 .have M':=M.pushH d;refine dA (i:=f) d (bF (λz=>cJ M'.doneH) λz=>?_);have q:0<f:=by
   have r:¬(f==0)=true:=z;simp only[beq_iff_eq]at r;omega
  exact bF (λ_=>jT ⟨M',q,k,abY d,p,show N+1+f+(nb+1)≤_ by omega⟩) λ_=>yE ⟨M',q,k,abY d,p,show N+(j+1)+f+(nb+1)≤_ by omega⟩
theorem J4(T:Two prog w A s g l a b st){c:Nat×Nat×Array Keyed×Nat×Nat×Nat}{r:Nat}{d:Prop}[Decidable d](J:SJ st (Hq tot a b N) (none,c) st'):wpS (model prog w) A E s (if d then hi0 a b c.2.2.1 c.1 c.2.1 n c.2.2.2.2.1 c.2.2.2.2.2 else hi0 a b c.2.2.1 c.1 c.2.1 r c.2.2.2.2.1 c.2.2.2.2.2) (SO tot st (Hq tot a b N) (Hq tot a b N)) st':=by
 let⟨h,q,out,F,x,y⟩:=c;let⟨_,⟨m,rfl⟩,M,t,u,C,p,v⟩:=J;dsimp only at M t u C p v;let⟨f,rfl⟩:∃n,h=n+1:=⟨h-1,∅⟩;let⟨nb,rfl⟩:∃n,q=n+1:=⟨q-1,∅⟩;dsimp only;refine bF (λ_=>?_) λ_=>?_
 all_goals
  refine wq (dA (i:=nb) p (oJ T.o T.hk (T.mb _ (memK p)) ∅ ∅ T.ma λk k1=>bF (λc=>?_) λc=>?_))
  .have M1:=M.extH (k:=k) k1;refine bF (λz=>cJ M1.doneH) λz=>?_;let⟨D,rfl⟩:∃n,k=n+1:=⟨k-1,by simp only[beq_iff_eq]at z;omega⟩;exact Dm T M1 ∅ p ∅ ∅
  .have e:k=f+1:=by omega
   subst e;exact Dm T M ∅ p ∅ ∅
theorem UZ(T:Two prog w A s g l a b st)(M:Mg tot [] a.toList b.toList)(C:0<a.size)(D:0<b.size)(h:∀r m,r.toList.Perm tot->Q r (setG st m)):wpS (model prog w) A E s (mHi a b) Q st:=by
 let⟨d,u⟩:∃n,a.size=n+1:=⟨a.size-1,∅⟩;have t:∀c:Array Keyed,ta c c.size=c.toList.reverse:=λc=>by simp[ta,adc]
 have v:Mg tot (#[]:Array Keyed).toList (ta a (d+1)) (ta b b.size):=by
  rw[<-u,t,t];exact((afB _).append (afB _)).trans M
 have k:=v.pushH ∅;apply aaH;refine afZ (abI ⟨rfl,?_⟩);dsimp only;rw[u];refine dA (i:=d+1-1) ∅ ?_;refine bF (λz=>aaL (h _ (agE st) k.doneH)) λz=>bF (λp=>aaL (h _ (agE st) k.sym.doneH)) λp=>?_;simp only[beq_iff_eq]at z p;refine aaH (ae8 (aaH (acd (abD (I:=λi c st'=>SJ st (Hq tot a b (i+1)) c st') (Q:=λc st'=>(∃m,st'=setG st m)/\∃r,c.fst=some r/\r.toList.Perm tot) (λi c st' _ _ J=>?_) (λc st' J=>by have:=J.2.2.2;omega) ⟨rfl,⟨agE st,rfl⟩,k,show 0<d by omega,show 1<b.size by omega,show d≤a.size by omega,aab _,show 0+1+d+b.size≤_ by omega⟩) λc st' J=>?_)))
 rotate_left
 .obtain⟨⟨m,rfl⟩,r,e,R⟩:=J;rw[e];exact aaL (h _ _ R)
 refine aaH (acd (abD (I:=λj c st'=>SJ st (Hq tot a b (i+1+j)) c st') (Q:=SK tot st (Hq tot a b (i+1+1))) (λj c st' _ _ J=>acd (OZ T ⟨rfl,J.2⟩) λr st' h=>by obtain⟨c,⟨rfl,h⟩|⟨rfl,h⟩⟩:=h<;>exact h) (λc st' J=>⟨J.2.1,.inl ⟨J.1,J.2.2.1,J.2.2.2.1,J.2.2.2.2.1,J.2.2.2.2.2.1,J.2.2.2.2.2.2.1,by have:=J.2.2.2;omega⟩⟩) ⟨rfl,J.2⟩) λc st' J=>J.2.elim (λq=>?_) λq=>?_)
 rotate_left
 .obtain⟨r,e,R⟩:=q;rw[e];exact aaL ⟨J.1,_,rfl,R⟩
 rw[q.1];apply aaH;refine afZ (abI ⟨rfl,?_⟩);refine aaH (acd (abD (I:=λ_ c st'=>SJ st (Hq tot a b (i+1+1)) c st') (Q:=SK tot st (Hq tot a b (i+1+1))) (λj c st' _ _ J=>acd (J4 T ⟨rfl,J.2⟩) λr st' h=>by obtain⟨c,⟨rfl,h⟩|⟨rfl,h⟩⟩:=h<;>exact h) (λc st' J=>⟨J.2.1,.inl ⟨J.1,J.2.2⟩⟩) ⟨rfl,J.1,q.2⟩) λc st' J=>J.2.elim (λq=>?_) λq=>?_)
 rotate_left
 .obtain⟨r,e,R⟩:=q;rw[e];exact aaL ⟨J.1,_,rfl,R⟩
 rw[q.1];let⟨⟨m,rfl⟩,_⟩:=J;exact wq (aaL ⟨rfl,⟨_,rfl⟩,q.2⟩)
end
def wr(sa:Nat)(l:List (Keyed×Nat))(a:Array Keyed):Array Keyed:=l.foldl (λa x=>a.setIfInBounds (sa+x.2) x.1) a
theorem CF(sa:Nat):∀(l:List Keyed) (k:Nat) (a:Array Keyed),sa+k+l.length≤a.size->(wr sa (l.zipIdx k) a).toList=a.toList.take (sa+k)++l++a.toList.drop (sa+k+l.length)
 |[],k,a,h=>by simp[wr]
 |x::l,k,a,h=>by
  have c:sa+k+(l.length+1)≤a.size:=h;have e:=CF sa l (k+1) (a.setIfInBounds (sa+k) x) (by simp;omega);show(wr sa (l.zipIdx (k+1)) (a.setIfInBounds (sa+k) x)).toList=_;rw[e,afn,List.drop_set_of_lt ∅,<-adX,List.take_succ,List.take_set_of_le (aab _),aa3 (by simp;omega),aat];simp[Nat.add_comm,Nat.add_left_comm]
theorem O7{r:Array Keyed}{h:Nat}(f:lo≤h)(c:h≤a.size)(p:r.toList.Perm (a.extract lo h).toList):(wr lo r.toList.zipIdx a).toList.Perm a.toList:=by
 have n:r.toList.length=h-lo:=by rw[p.length_eq];simp;omega
 have e:=CF lo r.toList 0 a ∅;rw[Nat.add_zero,n,show lo+(h-lo)=h by omega]at e;have d:a.toList=a.toList.take lo++(a.extract lo h).toList++a.toList.drop h:=by
  rw[aeQ];show _=_++agM (h-lo) (List.drop lo _)++_;rw[show a.toList.drop h=(a.toList.drop lo).drop (h-lo) by rw[List.drop_drop,show lo+(h-lo)=h by omega],aaY,adp,adp]
 rw[e]
 conv=>rhs;rw[d]
 exact(p.append_left _).append_right _
def MN(h:x∈(a.extract i j).toList):x∈a.toList:=by
 rw[aeQ]at h;exact List.mem_of_mem_drop (ab4 h)
def Ch:Nat->List (Nat×Nat×Nat)->Nat->Prop
 |lo,[],hi=>lo=hi
 |lo,p::rs,hi=>p.1=lo/\0<p.2.1/\Ch (lo+p.2.1) rs hi
theorem Ch.le:∀{l:List (Nat×Nat×Nat)}{lo c:Nat},Ch lo l c->lo+l.length≤c
 |[],lo,c,h=>by rw[show lo=c from h];exact aab _
 |p::l,lo,c,h=>by have:=Ch.le h.2.2;have:=h.2.1;rw[aat];omega
theorem Ch.app:∀{l k:List (Nat×Nat×Nat)}{lo c:Nat},Ch lo (l++k) c->∃m,Ch lo l m/\Ch m k c
 |[],k,lo,c,h=>⟨lo,rfl,h⟩
 |p::l,k,lo,c,h=>by
  let⟨m,d,e⟩:=Ch.app h.2.2;exact⟨m,⟨h.1,h.2.1,d⟩,e⟩
theorem Ch.cat:∀{l k:List (Nat×Nat×Nat)}{lo m c:Nat},Ch lo l m->Ch m k c->Ch lo (l++k) c
 |[],k,lo,m,c,h,h2=>by rw[show lo=m from h];exact h2
 |p::l,k,lo,m,c,h,h2=>⟨h.1,h.2.1,Ch.cat h.2.2 h2⟩
theorem Ch.mod{f:Nat×Nat×Nat->Nat×Nat×Nat}(d:∀x,(f x).1=x.1/\(f x).2.1=x.2.1):∀{l:List (Nat×Nat×Nat)}{k lo c:Nat},Ch lo l c->Ch lo (l.modify k f) c
 |[],k,lo,c,h=>by rw[List.modify_nil];exact h
 |p::l,0,lo,c,h=>by
  rw[List.modify_zero_cons];unfold Ch;rw[(d p).1,(d p).2];exact h
 |p::l,k+1,lo,c,h=>by
  rw[List.modify_succ_cons];exact⟨h.1,h.2.1,Ch.mod d h.2.2⟩
def Ch.push{p:Array (Nat×Nat×Nat)}(h:Ch 0 p.toList lo)(c:0<n):Ch 0 (p.push (lo,n,0)).toList (lo+n):=by
 rw[aep];exact Ch.cat h ⟨rfl,c,rfl⟩
structure SI(κ:afY)(it:List Keyed)(st:aby):Prop where
 pm:(arrOf st).toList.Perm it
 kd:kindOf st=κ
 fl:afm st=none
section
variable {prog:aaI}{w:World}{A:abb}{E:Ad->GT->Prop}{s:GT}{β:Type}{st:aby}
variable {d:afY}{a:List Keyed}
def SI.al(S:SI d a st):∀x∈(arrOf st).toList,x∈a:=λ_ h=>S.pm.mem_iff.mp h
def SI.sz(S:SI d a st):(arrOf st).size=a.length:=by simpa using S.pm.length_eq
variable (O:OrcW prog w A s d a)
include O
theorem Bj{C:Nat}{Q:Bool->aby->Prop}(S:SI d a st)(N:Ch 0 (aaJ st).toList C)(hh:C≤(arrOf st).size)(G:i+1<(aaJ st).size)
  (h:∀st',SI d a st'->Ch 0 (aaJ st').toList C->(aaJ st').size+1=(aaJ st).size->Q true st'):wpS (model prog w) A E s (mergeAt' i) Q st:=by
 have hl:i+1<(aaJ st).toList.length:=by simpa using G
 let⟨t,p,q,I,e,H⟩:∃t p q I,(aaJ st).toList=t++p::q::I/\t.length=i:=
  ⟨(aaJ st).toList.take i,_,_,(aaJ st).toList.drop (i+2),by rw[<-adH (i:=i+1) hl,<-adH (i:=i) ∅,adp],by rw[aaB];omega⟩
 let⟨sa,c,v⟩:=p;let⟨sb,nb,F⟩:=q;rw[e]at N;let⟨m,T,rfl,n1,rfl,n2,D⟩:=N.app;have le:=D.le;dsimp only at n1 n2 D le;apply aaH;refine ae8 ?_;have Y:(aaJ st)[i]?=some (sa,c,v):=by rw[<-adq,e,<-H];simp
 have U:(aaJ st)[i+1]?=some (sa+c,nb,F):=by rw[<-adq,e,<-H];simp
 have l:∀f m,f.toList.Perm (arrOf st).toList->Q true (afl (kindOf st) f (((aaJ st).setIfInBounds i (sa,c+nb,v)).eraseIdxIfInBounds (i+1)) m (afm st)):=λf m o=>by
  have M:(((aaJ st).setIfInBounds i (sa,c+nb,v)).eraseIdxIfInBounds (i+1)).toList=t++(sa,c+nb,v)::I:=by
   rw[Array.toList_eraseIdxIfInBounds,afn,e,<-H,List.set_append_right _ _ (aab _),Nat.sub_self,List.eraseIdx_append_of_length_le ∅,show t.length+1-t.length=1 by omega];rfl
  refine h _ ⟨o.trans S.pm,S.kd,S.fl⟩ ?_ ?_
  .show Ch 0 (af4 _) C;rw[M];exact Ch.cat T ⟨rfl,Nat.add_pos_left n1 _,by rw[<-adX];exact D⟩
  .show Array.size _+1=_;rw[<-acw,M,<-acw,e,aao,aao];rfl
 have P:∀u,u<(arrOf st).size->pK (arrOf st) u∈a:=λu V=>S.al _ (memK V);rw[Y,U];dsimp only;apply aaH;refine FJ ?_;refine dA (arr:=arrOf st) (i:=sa+c) ∅ ?_;refine oJ (arr:=arrOf st) (base:=sa) O S.kd (P _ ∅) n1 ∅ S.al λk k1=>?_;refine bF (λz=>aaL (l _ _ (.refl _))) λz=>?_;simp only[beq_iff_eq]at z;rw[show sa+k+(c-k)-1=sa+c-1 by omega];refine dA (arr:=arrOf st) (i:=sa+c-1) ∅ ?_;refine oJ (arr:=arrOf st) (base:=sa+c) O S.kd (P _ ∅) ∅ ∅ S.al λy m1=>?_;refine bF (λz=>aaL (l _ _ (.refl _))) λX=>?_;simp only[beq_iff_eq]at X;have K:∀(r:Array Keyed) m,r.toList.Perm (((arrOf st).extract (sa+k) (sa+c)).toList++((arrOf st).extract (sa+c) (sa+c+y)).toList)->Q true (afl (kindOf st) (wr (sa+k) r.toList.zipIdx (arrOf st)) (((aaJ st).setIfInBounds i (sa,c+nb,v)).eraseIdxIfInBounds (i+1)) m (afm st)):=λr m R=>by
  rw[<-acW,Array.extract_append_extract,show min (sa+k) (sa+c)=sa+k by omega,show max (sa+c) (sa+c+y)=sa+c+y by omega]at R;exact l _ _ (O7 ∅ ∅ R)
 have Z:(afm st).isNone=true:=by rw[S.fl];rfl
 have J:0<((arrOf st).extract (sa+k) (sa+c)).size:=by simp;omega
 have L:0<((arrOf st).extract (sa+c) (sa+c+y)).size:=by simp;omega
 have al:∀{i j},∀x∈((arrOf st).extract i j).toList,x∈a:=λx W=>S.al x (MN W);refine bF (λ_=>aaH (U9 ⟨O,al,al,by exact S.kd⟩ (.refl _) J L λr m R=>?_)) λ_=>aaH (UZ ⟨O,al,al,by exact S.kd⟩ (.refl _) J L λr m R=>?_)
 all_goals
  refine aaH (aeG (aaH (ae8 (aaL ?_))));show Q ((afm st).isNone) _;rw[Z];exact K r m R
theorem Ah{Q:β->aby->Prop}{f:Option Bool->StateT aby Sem β}(S:SI d a st)(c:i<(arrOf st).size)(e:j<(arrOf st).size)(h:∀b,wpS (model prog w) A E s (f (some b)) Q st):wpS (model prog w) A E s (ltAt' i j >>= f) Q st:=by
 rw[ltAt'_eq];refine aaH (aaH (ae8 ?_));exact dA c (dA e (CJ O S.kd (S.al _ (memK c)) (S.al _ (memK e)) h))
omit O in
theorem si{Q:β->aby->Prop}{f:Unit->StateT aby Sem β}(S:SI d a st)(h:∀st',SI d a st'->aaJ st'=aaJ st->wpS (model prog w) A E s (f ()) Q st'):wpS (model prog w) A E s (reverseSlice' i j >>= f) Q st:=by
 rw[reverseSlice'_eq];refine aaH (aeG (h _ ⟨(mirror_perm _ i j _).toList.trans S.pm,S.kd,S.fl⟩ rfl))
theorem LQ{e:Nat}{Q:Option Nat->aby->Prop}(S:SI d a st)(M:1≤e)(P:lo+e≤a.length)
  (h:∀m st',1≤m->m≤e->SI d a st'->aaJ st'=aaJ st->Q (some m) st'):wpS (model prog w) A E s (countRun' lo e) Q st:=by
 have r:∀{n:Nat}{k:aby} (t:SI d a k) (n1:1≤n) (n2:n≤e) {v:_->aby->Prop},(∀m,1≤m->m≤e->v (none,m) k)->wpS (model prog w) A E s (forIn [n:e] ((none,n):Option (Option Nat)×Nat) λ_ c=>do
   let z <- ltAt' (lo+c.2) (lo+c.2-1)
   match z with
    |some b=>if b=true then pure (.done (none,c.2))else pure (.yield (none,c.2+1))
    |_=>pure (.done (some none,c.2))) v k:=λ{n k} t n1 n2 {v} q=>by
  refine acd (abD (I:=λi c st'=>st'=k/\c=(none,i)/\i≤e/\1≤i) (Q:=λc st'=>st'=k/\∃n,c=(none,n)/\1≤n/\n≤e) ?_ ?_ ⟨rfl,rfl,n2,n1⟩) ?_
  .rintro i c st' hi hi2 ⟨rfl,rfl,_,_⟩;have:=t.sz;refine Ah O t (by dsimp only;omega) (by dsimp only;omega) λb=>?_;cases b
   .exact aaL ⟨rfl,rfl,hi2,∅⟩
   .exact aaL ⟨rfl,i,rfl,∅,∅⟩
  .rintro c st' ⟨rfl,rfl,_,_⟩;exact⟨rfl,_,rfl,∅,∅⟩
  .rintro c st' ⟨rfl,n,rfl,n1,n2⟩;exact q n n1 n2
 rw[countRun'_eq];refine aaH (r S (aab 1) M λn n1 n2=>?_);dsimp only;refine bF (λy=>aaL (h n _ n1 n2 S rfl)) λy=>?_;simp only[beq_iff_eq]at y;refine bF (λL=>?_) λL=>?_
 any_goals
  have:=S.sz;refine Ah O S ∅ ∅ λb=>?_;cases b
  rotate_left
  exact aaL (h n _ n1 n2 S rfl);refine bF (λz=>absurd z ⋯) λ_=>si S λk t K=>?_
 rotate_left
 have t:=S;have K:aaJ st=aaJ st:=rfl
 all_goals
  apply aaH;refine afZ (abI ⟨rfl,?_⟩);refine aaH (acd (abD (I:=λi c f=>(SI d a f/\aaJ f=aaJ st)/\∃q,c=(none,i,q)/\i≤e) (Q:=λc f=>(SI d a f/\aaJ f=aaJ st)/\∃n q,c=(none,n,q)/\1≤n/\n≤e) ?_ ?_ ⟨⟨t,K⟩,0,rfl,∅⟩) ?_)
  .rintro i c f hi hi2 ⟨⟨l,p⟩,q,rfl,_⟩;dsimp only;have:=l.sz;refine Ah O l ∅ ∅ λb=>?_;cases b
   .refine bF (λz=>absurd z ⋯) λ_=>Ah O l ∅ ∅ λb=>?_;cases b
    .exact aaL ⟨⟨l,p⟩,_,rfl,hi2⟩
    .exact aaL ⟨⟨l,p⟩,_,_,rfl,∅,∅⟩
   .exact bF (λ_=>bF (λ_=>si l λG F D=>aaL ⟨⟨F,D.trans p⟩,_,rfl,hi2⟩) λ_=>aaL ⟨⟨l,p⟩,_,rfl,hi2⟩) λz=>absurd rfl z
  .rintro c f ⟨h2,q,rfl,_⟩;exact⟨h2,_,_,rfl,∅,∅⟩
  intro c f ⟨⟨l,p⟩,N,q,rfl,J,n4⟩;exact bF (λ_=>si l λG F D=>si F λC u H=>aaH (r u J n4 λm m1 m2=>aaL (h m _ m1 m2 u (H.trans (D.trans p))))) λ_=>si l λC u H=>aaH (r u J n4 λm m1 m2=>aaL (h m _ m1 m2 u (H.trans p)))
theorem Pj{ok:Nat}{Q:Bool->aby->Prop}(S:SI d a st)(m:lo+n≤a.length)(h:∀st',SI d a st'->aaJ st'=aaJ st->Q true st'):wpS (model prog w) A E s (binarySort' lo n ok) Q st:=by
 rw[binarySort'_eq];refine aaH (acd (abD (I:=λk c st'=>c=(none,())/\SI d a st'/\aaJ st'=aaJ st) (Q:=λc st'=>c=(none,())/\SI d a st'/\aaJ st'=aaJ st) ?_ (λ_ _ q=>q) ⟨rfl,S,rfl⟩) ?_)
 .rintro k c st1 hk hk2 ⟨rfl,S1,e1⟩;have:=S1.sz;dsimp only;refine aaH (acd (abD (I:=λi c st'=>st'=st1/\∃l r,c=(none,l,r)/\l≤r/\r≤k) (Q:=λc st'=>st'=st1/\∃l r,c=(none,l,r)/\l≤r/\r≤k) ?_ (λ_ _ q=>q) ⟨rfl,0,k,rfl,∅,∅⟩) ?_)
  .rintro i c st' _ hi ⟨rfl,l,r,rfl,e,f⟩;dsimp only;refine bF (λz=>aaL ⟨rfl,l,r,rfl,e,f⟩) λz=>?_;refine Ah O S1 ∅ ∅ λb=>?_
   cases b<;>exact aaL ⟨rfl,_,_,rfl,∅,∅⟩
  intro c st' ⟨rfl,l,r,rfl,e,f⟩;dsimp only;rw[moveDown'_eq];exact aaH (aeG (aaL ⟨rfl,⟨(bubble_perm _ _ _).toList.trans S1.pm,S1.kd,S1.fl⟩,e1⟩))
 .rintro c st' ⟨rfl,S1,e1⟩;exact aaL (h _ S1 e1)
theorem My{Q:Unit->aby->Prop}(S:SI d a st)(K:aaJ st = #[])(h:∀st',SI d a st'->Q () st'):wpS (model prog w) A E s sortRuns' Q st:=by
 rw[sortRuns'_eq];refine aaH (ae8 ?_);dsimp only;rw[S.sz];refine aaH (acd (abD (I:=λi c st'=>∃lo,c=(none,lo)/\SI d a st'/\lo≤a.length/\Ch 0 (aaJ st').toList lo) (Q:=λc st'=>∃lo,c=(none,lo)/\SI d a st'/\lo≤a.length/\Ch 0 (aaJ st').toList lo) ?_ (λ_ _ q=>q) ⟨0,rfl,S,abJ _,by rw[K];exact rfl⟩) ?_)
 .rintro i c st' _ hi ⟨lo,rfl,k,F,C⟩;dsimp only;refine bF (λz=>aaL ⟨_,rfl,k,F,C⟩) λz=>?_;refine aaH (LQ O k ∅ ∅ λm N m1 m2 l v=>?_);rw[<-v]at C;dsimp only;refine bF (λD=>?_) λD=>?_;apply aaH;refine afZ (abI ⟨rfl,?_⟩);refine aaH (Pj O l ∅ λf y u=>?_);rw[<-u]at C;have r:1≤min (a.length-lo) (minRun' a.length a.length 0):=by omega
  have t:min (a.length-lo) (minRun' a.length a.length 0)≤a.length-lo:=by omega
  clear l v m1 m2 D u
  revert r t
  generalize min (a.length-lo) (minRun' a.length a.length 0)=m;intro m1 m2;rw[if_neg ⋯]
  rename SI d a f=>l
  rotate_left
  all_goals
   refine aaH (ae8 ?_)
   cases eb:(aaJ _).back? with
   |none=>exact aaH (aeG (aaL ⟨_,rfl,⟨l.pm,l.kd,l.fl⟩,∅,C.push m1⟩))
   | some p=>
    let⟨s1,G,P⟩:=p;refine aaH (acd (abD (I:=λi c f=>c=(none,())/\SI d a f/\Ch 0 (aaJ f).toList lo) (Q:=λc f=>c=(none,())/\SI d a f/\Ch 0 (aaJ f).toList lo) ?_ (λ_ _ h=>h) ⟨rfl,l,C⟩) ?_)
    .rintro j c f _ _ ⟨rfl,S3,C3⟩;refine aaH (ae8 ?_)
     cases e:(if (aaJ f).size>1 then(aaJ f)[(aaJ f).size-2]? else none)with
     |none=>exact aaL ⟨rfl,S3,C3⟩
     | some q=>
      have R:(aaJ f).size>1:=by
       by_cases z:(aaJ f).size>1
       .exact z
       .rw[if_neg z]at e;cases e
      refine bF (λ_=>aaL ⟨rfl,S3,C3⟩) λ_=>?_;have:=S3.sz;exact aaH (Bj O S3 C3 ∅ ∅ λJ M L _=>aaL ⟨rfl,M,L⟩)
    .rintro c f ⟨rfl,S3,C3⟩;refine aaH (aeG (aaH (aeG (aaL ⟨_,rfl,⟨S3.pm,S3.kd,S3.fl⟩,∅,Ch.push ?_ m1⟩))));show Ch 0 (Array.modify _ _ _).toList lo;rw[Array.toList_modify];refine Ch.mod ?_ C3;exact λ_=>⟨rfl,rfl⟩
 intro c st' ⟨lo,rfl,k,F,C⟩;dsimp only;refine aaH (acd (abD (I:=λi c st'=>c=(none,())/\SI d a st'/\Ch 0 (aaJ st').toList lo) (Q:=λc st'=>c=(none,())/\SI d a st'/\Ch 0 (aaJ st').toList lo) ?_ (λ_ _ h=>h) ⟨rfl,k,C⟩) ?_)
 .rintro i c st' _ hi ⟨rfl,k,C⟩;refine aaH (ae8 ?_);refine bF (λz=>aaL ⟨rfl,k,C⟩) λz=>?_;have:=k.sz;exact aaH (Bj O k C ∅ (by split<;>(try split)<;>omega) λf y H n2=>aaL ⟨rfl,y,H⟩)
 intro c st' ⟨rfl,k,C⟩;exact aaL (h _ k)
end
section
variable {prog:aaI}{w:World}{A:abb}{E:Ad->GT->Prop}{s:GT}
def MY(h h':aa1):Prop:=∀b o,h.get? b=some o->o.cls = .type "tuple" -> h'.get? b=some o
theorem xv{h h':aa1}{k:Nat}(K:MY h h')(I:∀x y u as,x.depth≤k->smD x y=true->Reads h u x as->∃bs,Reads h' u x bs):∀(xs ys:List aD) us as,aaD xs≤k->smDs xs ys=true->adV h us xs as->∃bs,adV h' us xs bs
 |[],ys,us,as,_,_,r=>by cases r;exact⟨[],.nil⟩
 | x::xs,ys,us,as,hk,sm,r=>by
  cases ys with
  |nil=>exact absurd sm (by simp only[smDs];decide)
  | cons y ys=>
   simp[smDs]at sm;have d:max x.depth _≤k:=hk
   cases r with
   |cons r1 c=>
    let⟨b1,q⟩:=I x y _ _ ∅ sm.1 r1;let⟨b2,e⟩:=xv K I xs ys _ _ ∅ sm.2 c;exact⟨_,.cons q e⟩
theorem zf{h h':aa1}(K:MY h h'):∀(k:Nat) (x y:aD) (u:Ad) (as:List Addr),x.depth≤k->smD x y=true->Reads h u x as->∃bs,Reads h' u x bs
 |k,.int a,y,u,as,_,_,r=>by cases r;exact⟨_,.int _ _⟩
 |0,.tuple xs,y,u,as,hk,_,_=>absurd hk (by show ¬aaD xs+1≤0;contradiction)
 | k+1,.tuple xs,y,u,as,hk,sm,r=>by
  cases y with
  | tuple l=>
   have d:aaD xs+1≤k+1:=hk
   cases r with
   |tuple e c q z=>
    let⟨bs,f⟩:=xv K (zf K k) xs l _ _ ∅ sm z;exact⟨_,.tuple (K _ _ e c) c q f⟩
  |_=>exact absurd sm (by simp only[smD];decide)
 |k,.none,y,u,as,_,sm,_=>absurd sm (by simp only[smD];decide)
 |k,.bool _,y,u,as,_,sm,_=>absurd sm (by simp only[smD];decide)
 |k,.str _,y,u,as,_,sm,_=>absurd sm (by simp only[smD];decide)
 |k,.list _,y,u,as,_,sm,_=>absurd sm (by simp only[smD];decide)
 |k,.dict _,y,u,as,_,sm,_=>absurd sm (by simp only[smD];decide)
theorem C5{f r:Bool}{Q:Bool->GT->Prop}(q:Q r s):∀(ps:List (Ad×Ad)) (i:Nat),zr A s f r ps->KatLex prog w A false f Q ps i s
 |[],i,h=>kat_nil (by have c:=h;rw[<-c];exact q)
 |p::ps,i,⟨e,he,h1,h2⟩=>by
  refine kat_cons (he prog w _ _ ?_)
  cases e with
  |true=>exact kat_yes (C5 q ps _ (h1 rfl))
  |false=>exact kat_no (kat_one _ _ (h2 rfl prog w _ _ q))
def RdL(h:aa1):List Ad->List aD->Prop
 |[],[]=>True
 |v::vs,d::ds=>(∃c,Reads h v d c)/\RdL h vs ds
 |_,_=>False
theorem RdL.len{h:aa1}:∀{vs:List Ad}{ds:List aD},RdL h vs ds->vs.length=ds.length
 |[],[],_=>rfl
 |v::vs,d::ds,t=>by rw[aat,aat,RdL.len t.2]
 |[],_::_,t=>t.elim
 |_::_,[],t=>t.elim
theorem RdL.get{h:aa1}:∀{vs:List Ad}{ds:List aD}{i:Nat},RdL h vs ds->i<vs.length->∃as,Reads h (vs.getD i .none) (ds.getD i .none) as
 |[],[],_,_,z=>by simp at z
 |v::vs,d::ds,0,t,_=>t.1
 |v::vs,d::ds,i+1,t,z=>by
  rw[List.getD_cons_succ];exact RdL.get t.2 (by simp_all)
 |[],_::_,_,t,_=>(t.elim)
 |_::_,[],_,t,_=>(t.elim)
def tt1:aD->Bool
 | .tuple (.tuple _::_)=>true
 |_=>false
theorem zg{h:aa1}:∀{vs:List Ad}{ds:List aD},RdL h vs ds->(∀d∈ds,tt1 d=true)->∃fs,KatTups h vs fs/\fs.length=vs.length/\∀v∈fs,∃b o,v = .ref b/\h.get? b=some o/\o.cls = .type "tuple"
 |[],[],_,_=>⟨[],.nil,rfl,λ_ h=>by cases h⟩
 | v::vs,d::ds,⟨⟨as,r⟩,t⟩,hd=>by
  let⟨fs,k1,k2,G⟩:=zg t λx k=>hd x (aaf _ k);have l:=hd d aah;let⟨y,m,rfl⟩:∃y m,d = .tuple (.tuple y::m):=by
   unfold tt1 at l
   split at l
   .exact⟨_,_,rfl⟩
   .cases l
  cases r with
  | tuple e c q z=>
   rename_i a o f n;generalize H:f.toList=L at z
   cases z with
   | cons r1 J=>
    rename_i u K C bs;have D:f[0]?=some u:=by
     rw[<-adq,H];rfl
    cases r1 with
    |tuple p F M I=>
     refine⟨_::fs,.cons e c q D k1,by rw[aat,aat,k2],λx k=>?_⟩;exact(aag.mp k).elim (λz=>by subst z;exact⟨_,_,rfl,p,F⟩) (G x)
 |[],_::_,t,_=>t.elim
 |_::_,[],t,_=>t.elim
theorem RdL.keep{h h':aa1}(K:MY h h'):∀{vs:List Ad}{ds:List aD},(∀d∈ds,smD d d=true)->RdL h vs ds->RdL h' vs ds
 |[],[],_,_=>trivial
 |v::vs,d::ds,hs,⟨⟨as,r⟩,t⟩=>⟨zf K d.depth d d v as (aab _) (hs d aah) r,RdL.keep K (λx c=>hs x (aaf _ c)) t⟩
 |[],_::_,_,t=>t.elim
 |_::_,[],_,t=>t.elim
structure SrtOk(ds:List aD):Prop where
 n:ds.length<100000
 sm:∀x∈ds,∀y∈ds,smD x y=true
 tt:∀x∈ds,tt1 x=true
 dp:∀x∈ds,x.depth≤7
theorem Tw{u v:Ad}{x y:aD}{as bs:List Addr}{Q:Bool->GT->Prop}(r1:Reads s.heap u x as)(r2:Reads s.heap v y bs)(sm:smD x y=true)(t:tt1 x=true)(d:tt1 y=true)(m:A.units+x.depth<cLine)(h:Q (ltD x y) s):wpAny (model prog w) A (keyLt' (tuples' false) u v) Q E s:=by
 let⟨a1,b1,rfl⟩:∃a b,x = .tuple (.tuple a::b):=by
  unfold tt1 at t
  split at t
  .exact⟨_,_,rfl⟩
  .cases t
 let⟨a2,b2,rfl⟩:∃a b,y = .tuple (.tuple a::b):=by
  unfold tt1 at d
  split at d
  .exact⟨_,_,rfl⟩
  .cases d
 cases r1 with
 | tuple e c q z=>
  cases r2 with
  |tuple k D r p=>
   have l:A.units+(aaD _+1)<cLine:=m;let⟨F,C⟩:=l7 (vI _) A s _ _ _ _ _ _ (aab _) z p sm (by exact abY ‹_›);have f:Q (ltDs (.tuple a1::b1) _) s:=h;refine kat_lt e q k r (C5 f _ 0 ?_)
   grind
def ordP(ds:List aD)(p:List Nat):Prop:=p.Perm (aaz ds.length)
theorem OI{t β:Type}{f:β->t}{l m:List t}(h:l.Perm m):∀{r:List β},m=r.map f->∃q:List β,q.Perm r/\l=q.map f:=by
 induction h with
 |nil=>exact λ{r} e=>⟨r,.refl _,e⟩
 | cons x _ C=>
  intro r e
  cases r with
  |nil=>cases e
  |cons y r=>
   let⟨k,c⟩:=ag1 e;let⟨q,p,d⟩:=C c;exact⟨y::q,p.cons _,by rw[k,d];rfl⟩
 | swap x y l=>
  intro r e
  match r,e with
  |a::b::r,e=>
   let⟨k,c⟩:=ag1 e;let⟨d,D⟩:=ag1 c;exact⟨b::a::r,.swap _ _ _,by rw[k,d,D];rfl⟩
 |trans _ _ u z=>
  intro r e;let⟨q,p,c⟩:=z e;let⟨F,v,d⟩:=u c;exact⟨F,v.trans p,d⟩
theorem Pf(r6:RdL s.heap vs ds)(ok:SrtOk ds)(z:A.units+7<cLine) :
  wpAny (model prog w) A ((sortRuns').run (afl (tuples' false) (vs.toArray.zip vs.toArray) #[] 7 none)) (λr s'=>∃q:List Nat,ordP ds q/\(arrOf r.2).map (·.2)=(q.map λi=>vs.getD i .none).toArray/\q.length=vs.length/\afm r.2=none/\s'=s) E s:=by
 have h:=r6.len;have k:(vs.toArray.zip vs.toArray).toList=(aaz ds.length).map λi=>(vs.getD i .none,vs.getD i .none):=by
  rw[ahy];refine ab9 λi=>?_;rw[aaj,List.zip,List.getElem?_zipWith]
  by_cases f:i<vs.length
  .simp[f,<-h]
  .simp[f,<-h]
 have m:∀i,i<ds.length->ds.getD i .none∈ds:=λi f=>by rw[bM (lD f)];exact aeD _
 have O:OrcW prog w A s (tuples' false) (vs.toArray.zip vs.toArray).toList:=λx u y t C q=>by
  rw[k]at u t;let⟨i,f,rfl⟩:=aar.mp u;let⟨j,l,rfl⟩:=aar.mp t;rw[adw]at f l;let⟨D,r1⟩:=r6.get (i:=i) ∅;let⟨bs,v⟩:=r6.get (i:=j) ∅;exact Tw r1 v (ok.sm _ (m i f) _ (m j l)) (ok.tt _ (m i f)) (ok.tt _ (m j l)) (by have:=ok.dp _ (m i f);omega) (q _)
 have W:=My (E:=E) (Q:=λ_ st'=>∃q:List Nat,ordP ds q/\(arrOf st').map (·.2)=(q.map λi=>vs.getD i .none).toArray/\q.length=vs.length/\afm st'=none) O (st:=afl (tuples' false) (vs.toArray.zip vs.toArray) #[] 7 none) ⟨.refl _,rfl,rfl⟩ rfl λst' S=>by
  let⟨q,p,e⟩:=OI S.pm k;refine⟨q,p,?_,by rw[p.length_eq,aa7,h],S.fl⟩;apply ahz.mp;rw[ahA,e,aba];rfl
 unfold wpS at W;exact ach W (λr s' ⟨e,q,a,b,c,d⟩=>⟨q,a,b,c,d,e⟩) λ_ _ e=>e
theorem qT{a:Addr}{P:PySem.Fin->GT->Prop}(u:s.heap.get? a=some (ac0 "list" vs.toArray n))(D:RdL s.heap vs ds)(ok:SrtOk ds)(hT:True)(H:A.units+7<cLine)
  (h:∀p:List Nat,ordP ds p->P (.done (.ret .none)) {s with heap:=agg s.heap a vs (p.map λi=>vs.getD i .none).toArray}):wpAny (model prog w) A
  (ac4.«list.sort» ⟨[.ref a],[]⟩) P E s:=by
 have k:=D.len;have K:=ok.n;rw[list_sort_plain];have r:(s.heap.update a (acG λ_=>#[])).get? a=some (ac0 "list" #[] _):=get?_update_seq u λ_=>#[];have f:(((s.heap.update a (acG λ_=>#[])).push (ac0 "tuple" vs.toArray 0)).push (ac0 "list" #[] 0)).get? a=some (ac0 "list" #[] _):=Io _ (Io _ r);refine gT (ahk u rfl (gT (afJ u rfl (gT (seqEpoch_at r rfl (gT (m:=newTuple _) (afi (gT (m:=ahh _) (afK (ab5 ?_))))))))));have r6:RdL (((s.heap.update a (acG λ_=>#[])).push (ac0 "tuple" vs.toArray 0)).push (ac0 "list" #[] 0)) vs ds:=D.keep (λb o e c=>by
  have N:b≠a:=λz=>by
   rw[z,u]at e;have O:o.cls=ac3 "list":=by rw[<-aaA e]
   rw[O]at c;exact absurd c ⋯
  refine Io _ (Io _ ?_);rw[aa1.get?_update_ne _ _ _ _ N];exact e) λd hd=>ok.sm d hd d hd
 generalize F:((s.heap.update a (acG λ_=>#[])).push (ac0 "tuple" vs.toArray 0)).push (ac0 "list" #[] 0)=y at f r6;have X:agg s.heap a vs=λout=>agg s.heap a vs out:=rfl;change wpAny _ A _ P E ({s with heap:=y}:GT);dsimp only;have I:(vs.toArray:Array Ad).size=vs.length:=aaK
 by_cases t:(vs.toArray:Array Ad).size<2
 .rw[if_pos t,if_pos t];refine gT (Ld ?_);rw[StateT.run_pure];refine gT (Ld ?_);dsimp only;refine gT (seqEpoch_at f rfl ?_);refine gT (afJ f rfl ?_ (hsz2:=by rw[Array.size_map];show(pairsOf vs).size≤_;rw[pairsOf_size,aap];omega));simp only[if_false,ac9,bne_self_eq_false];refine Ld ?_;have l:=h (aaz ds.length) (List.Perm.refl _);have V:((aaz ds.length).map λi=>vs.getD i .none).toArray=(arrOf (afl general' (vs.toArray.zip vs.toArray) #[] 7 none)).map (·.2):=by
   show _=(vs.toArray.zip vs.toArray).map (·.2);apply ahz.mp;rw[ahA,ahy];refine ab9 λi=>?_
   by_cases C:i<vs.length
   .simp[ace,C,<-k]
   .simp[ace,C,<-k]
  rw[V]at l;unfold agg at l;rw[F]at l;exact l
 .rw[if_neg t,if_neg t];let⟨fs,k1,k2,J⟩:=zg r6 ok.tt;refine gT (kat_kind (s:={s with heap:=y}) (T:=.type "tuple") k1 ∅ (λv M=>?_) rfl ?_)
  .obtain⟨b,o,rfl,e1,c1⟩:=J v M;exact λA' Y Z L W q=>ac5 ⟨o,W _ _ e1,c1⟩ q
  rw[show(ac3 "tuple" != ac3 "tuple")=false by decide];refine gT (ach (Pf (s:={s with heap:=y}) r6 ok H) ?_ λ_ _ e=>e);rintro⟨⟨⟩,st'⟩ L ⟨q,G,R,S,U,rfl⟩;dsimp only;rw[R];refine gT (seqEpoch_at f rfl ?_);refine gT (afJ f rfl ?_ (hsz2:=by simp;rw[S,aap];omega));rw[U];simp only[if_false,ac9,bne_self_eq_false];have l:=h q G;unfold agg at l;rw[F]at l;exact Ld l
end
section
variable {prog:aaI}{w:World}{A:abb}{E:Ad->GT->Prop}{s:GT}
theorem yQ{v:Ad}{C:aa1->List Ad->Prop}{Q:Ad->GT->Prop}(ok:SrtOk ds)(u:True)(F:A.units+10<cLine)
  (k:∀(P:List Ad->GT->Prop) (E:Ad->GT->Prop),(∀h' vs,(∀b o,s.heap.get? b=some o->h'.get? b=some o)->RdL h' vs ds->C h' vs->P vs {s with heap:=h' })->wpAny (model prog w) A.in1 (collect v) P E s)
  (h:∀(c f:aa1) (vs:List Ad) (p:List Nat) (L:Addr) (e:Nat),(∀b o,s.heap.get? b=some o->c.get? b=some o)->C c vs->RdL c vs ds->(∀b o,c.get? b=some o->f.get? b=some o)->L=c.objs.size->f.get? L=some (ac0 "list" (p.map λi=>vs.getD i .none).toArray e)->ordP ds p->Q (.ref L) {s with heap:=f}) :
  wpAny (model prog w) A (call (.builtin "sorted") [v]) Q E s:=by
 refine Calls.call_function_entry kind_sorted plain_sorted entry_sorted (args:=_) (args_sorted1 v) ?_;refine gT (m:=checkCount "sorted" 1 1 _) (Ld (gT (k _ _ λc vs k1 r1 t=>gT (m:=ahh vs) (afK ?_ (hsz:=by rw[r1.len,aap];have:=ok.n;omega)))));have at1:(c.push (ac0 "list" vs.toArray 0)).get? c.objs.size=some (ac0 "list" vs.toArray 0):=aai _ rfl;have k2:∀b o,c.get? b=some o->(c.push (ac0 "list" vs.toArray 0)).get? b=some o:=λb o q=>Io _ q;have r:=r1.keep (λb o q _=>k2 b o q) λd hd=>ok.sm d hd d hd;refine gT (m:=ad2 _ _) (ab5 (ach (aaZ slot_list_sort ⟨_,at1,rfl⟩ entry_list_sort (qT at1 r ok u (show A.units+1+1+7<cLine by exact abY ‹_›) λp y=>⟨_,rfl,?_⟩) (args_list_sort _)) (λG l (q:Q (.ref c.objs.size) l)=>Ld ⟨_,rfl,q⟩) λ_ _ z=>z));let⟨e,D⟩:=sortedHeap_at at1;exact h c _ vs p _ e k1 t r1 (λb o q=>by
  have lt:b<c.objs.size:=aal q;rw[sortedHeap_old (aa2 lt) (by rw[size_push'];exact aen lt)];exact k2 b o q) rfl D y
end
theorem Cy(h:aa1):h.get? h.objs.size=none:=by
 cases e:h.get? h.objs.size with
 |none=>rfl
 |some o=>exact(acT _ (aal e)).elim
def updR(H:Hp)(B:Addr)(g:Nat->HO):Nat->Hp
 |0=>H
 |n+1=>upd (updR H B g n) (B+n) (g n)
theorem jm{H:Hp}{B:Addr}{g:Nat->HO}{b:Addr}:∀{n:Nat},(∀j,j<n->b≠B+j)->updR H B g n b=H b
 |0,_=>rfl
 |n+1,h=>by
  show upd _ _ _ b=_;rw[av (h n (abF n))];exact jm λj c=>h j (aen c)
theorem u5{H:Hp}{B:Addr}{g:Nat->HO}{j:Nat}:∀{n:Nat},j<n->updR H B g n (B+j)=some (g j)
 |0,h=>absurd h (Nat.not_lt_zero _)
 |n+1,h=>by
  by_cases e:j=n
  .subst e;exact ay
  .show upd _ _ _ _=_;rw[av (λz=>e (agS z))];exact u5 ∅
section
variable {X:Cx}{pins:List 'i'}{σ:List (Option V)}{H:Hp}{s:GT}{h':aa1}
def IU(h:b<B):updR H B g n b=H b:=jm λj _=>aa2 (aau h (ack _ _))
def dg{o:HO}(fr:∀j,H (B+j)=none)(h:H b=some o):updR H B g n b=some o:=by
 rw[jm λj _ z=>by rw[z,fr j]at h;cases h];exact h
def Inv.laidR{t':Nat}(I:Inv X pins σ H s)(k:∀b u,s.heap.get? b=some u->h'.get? b=some u)(f:s.heap.objs.size≤B)(new:∀j,j<n->ObjOk X.prog X.w (updR H B g n) h' (B+j) (g j)) :
  Inv X pins σ (updR H B g n) {s with heap:=h',toks:=t' }:=by
 have fr:∀j,H (B+j)=none:=λj=>I.hok.fresh (aaw f (ack _ _));refine I.un ⟨λb u q _ _ _=>k b u q,λb u q _ _ _=>⟨u.slots,k b u q⟩,λb u q n _=>?_,λb u q _=>⟨u,k b u q⟩,λb d q=>dg fr q,λb u d q=>dg fr q,λb p q=>⟨#[],?_⟩⟩ λb u e=>?_
 .rw[IU (aau (aal q) f)];exact n
 .rw[dg fr q];simp
 .by_cases hb:∃j,j<n/\b=B+j
  .obtain⟨j,h,rfl⟩:=hb;rw[u5 h]at e;rw[<-aaA e];exact new j h
  .rw[jm λj h z=>hb ⟨j,h,z⟩]at e;exact(I.hok b u e).stay (λc v _ q=>k c v q) (λc q=>dg fr q) λc d q=>dg fr q
theorem O5{p:List Nat}(h:ordP ds p):(p.map λi=>ds.getD i .none).Perm ds/\True:=by
 have e:(aaz ds.length).map (λi=>ds.getD i .none)=ds:=ab9 λi=>by
  by_cases c:i<ds.length
  .simp_all
  .simp_all
 have:=h.map λi=>ds.getD i .none;rw[e]at this;exact⟨this,trivial⟩
theorem Jg(I:Inv X pins σ H s):∀{ds:List aD}{xs:List V}{us:List Ad},(∀d∈ds,d.canLay0=true)->DenAll X.kx H ds xs->Vals xs us->RdL s.heap us ds
 |[],xs,us,_,g,r=>by
  subst g;cases r;trivial
 |d::ds,xs,us,hl,g,r=>by
  let⟨x,e,rfl,k,c⟩:=g
  cases r with
  |cons h t=>exact⟨Den.reads I (aa9 _ (hl d aah)) k h,Jg I (λx f=>hl x (aaf _ f)) c t⟩
def SrtOk.lay(ok:SrtOk ds):∀d∈ds,d.canLay0=true:=λd hd=>(ze (ok.sm d hd d hd)).1
structure SrtT(ds:List aD):Prop where
 ok:SrtOk ds
 tot:True
def srtR(ds:List aD)(K:List aD->Prop):Prop:=SrtT ds/\∀d:List aD,d.Perm ds->True->K d
theorem za:∀{xs:List V}{us:List Ad},xs.length=us.length->(∀(j:Nat) (x:V) (u:Ad),xs[j]?=some x->us[j]?=some u->RelV x u)->Vals xs us
 |[],[],_,_=>.nil
 |x::xs,u::us,hl,h=>.cons (h 0 x u rfl rfl) (za (by simpa using hl) λj x u c e=>h (j+1) x u ‹_› ‹_›)
 |[],_::_,hl,_=>(adN _ hl).elim
 |_::_,[],hl,_=>(adN _ hl.symm).elim
theorem sj{K:Kd}{H:Hp}:∀{ds:List aD}{xs:List V},ds.length=xs.length->(∀(j:Nat) (d:aD) (x:V),ds[j]?=some d->xs[j]?=some x->Den K H d x)->DenAll K H ds xs
 |[],[],_,_=>by simp[DenAll]
 |d::ds,x::xs,hl,h=>by
  exact⟨x,xs,rfl,h 0 d x rfl rfl,sj (by simpa using hl) λj d x c e=>h (j+1) d x ‹_› ‹_›⟩
 |[],_::_,hl,_=>(adN _ hl).elim
 |_::_,[],hl,_=>(adN _ hl.symm).elim
theorem Dq{H:Hp}(fr:∀j,H (B+j)=none)(n:Nat):Pers H (updR H B g n):=⟨λb c q=>dg fr q,λb o u q=>dg fr q⟩
def itmG(es:List (V×V))(j:Nat):HO:=.tup [(es.getD j (.non,.non)).1,(es.getD j (.non,.non)).2]
def su(B:Addr)(n:Nat):List V:=(aaz n).map λj=>.ref (B+j)
theorem uf{K:Kd}{H:Hp}(fr:∀j,H (B+j)=none)(k:PDc K H kvs es):DenAll K (updR H B (itmG es) es.length) (gc kvs) (su B es.length):=by
 have h:=Dq (g:=itmG es) fr es.length;refine sj (by unfold gc su;rw[iO,iO,aa7,k.length]) λj d x f c=>?_;unfold gc at f;rw[aaj]at f;let⟨p,u,rfl⟩:=aem.mp f;let⟨l,q,d1,t⟩:=Paired.at1 k u;have m:=(AD.mp q).1;unfold su at c;rw[aaj,ace m]at c;have e:=aaA c;subst e;have r:itmG es j = .tup [l.1,l.2]:=by unfold itmG;rw[bM q]
 exact e8 (SqT.of ((u5 m).trans (by rw[r]))) (DenAll.cons (d1.mono h) (DenAll.cons (t.mono h) DenAll.nil))
def DcR(H:Hp)(a:Addr)(es:List (V×V)):Prop:=(∃c,Rd H a (dX a c)/\es=c.map (·.2))\/∃c,Rd H a (.dK c)/\es=c.map λp=>(kV p.1,p.2)
theorem Inv.dcr{X:Cx}{pins:List 'i'}{σ:St}{H:Hp}{s:GT}(I:Inv X pins σ H s){a:Addr}(h:DcR H a es):(a==abB)=false/\∃o c f,s.heap.get? a=some o/\o.ExactDict/\o.data = .dict c f/\abQ (λ(e:V×V) (d:ab1)=>RelV e.1 d.key/\RelV e.2 d.val) es c.toList:=by
 rcases h with⟨m,e,rfl⟩|⟨m,e,rfl⟩
 .obtain⟨⟨hs,hz,o,c,f,h1,h2,h3,h4⟩,_⟩:=(show ObjOk X.prog X.w H s.heap a (dX a m)from e.ok I.hok);refine⟨hs,o,c,f,h1,h2,h3,?_⟩;clear e hz;generalize c.toList=l at h4;rename_i z;clear z
  induction h4 with
  |nil=>exact .nil
  |cons q _ k=>exact .cons q.2 k
 .obtain⟨hz,hs,vs,kv,o,c,f,h1,h2,h3,h4,h5,h6⟩:=qB I.hok e;refine⟨hs,o,c,f,h1,h2,h3,?_⟩;generalize c.toList=l at h5;clear h6 h4 h3 h2 hz e
  induction kv generalizing l with
  |nil=>cases h5;exact .nil
  | cons q _ k=>
   cases h5 with
   |cons p r t=>
    rw[aam];refine .cons ⟨?_,?_⟩ (k _ t)
    .rw[<-q.1]at p;exact AC p
    .rw[r];exact q.2
theorem IsDc.dcr{K:Kd}{H:Hp}{a:Addr}(h:IsDc K H a kvs):∃es,DcR H a es/\PDc K H kvs es:=by
 rcases h with⟨es,r,g⟩|⟨es,r,_,_,g⟩
 .exact⟨_,.inr ⟨es,r,rfl⟩,vo g⟩
 .exact⟨_,.inl ⟨es,r,rfl⟩,vE g⟩
def UJ(K:Kd)(to:TE):TE:=λσ H Q=>to σ H λx c=>∃a es kvs,x = .ref a/\DcR c a es/\PDc K c kvs es/\SrtT (gc kvs)/\∀(d:List aD) (B:Addr) (g:Nat->HO) (n:Nat) (L:Addr) (e:List V),d.Perm (gc kvs)->True->(∀j,c (B+j)=none)->updR c B g n L=none->DenAll K (upd (updR c B g n) L (.lst e)) d e->Q (.ref L) (upd (updR c B g n) L (.lst e))
theorem IQ{to:TE}(hc:X.calm=true)(hu:X.A.units+64<cLine)(hg:Gl X "sorted")(hm:X.mg "sorted" = none)(ho:PE X o to)(r:abz o "items" X.env (eval o X.env)=eval o X.env:=by rfl)(A:(apos.endLine==cpos.line)=true:=by rfl)
  (D:aac [.Call (.Attribute o "items" apos) [] [] cpos] X.env=[(false,eval (.Call (.Attribute o "items" apos) [] [] cpos) X.env)]:=by rfl):PE X (.Call (.Name "sorted" p0) [.Call (.Attribute o "items" apos) [] [] cpos] [] pos) (UJ X.kx to):=by
 intro pins s σ H Q I h;refine acF (j7 I hg hm my ?_);refine aeA ?_ D rfl;rw[D];refine ag2 ?_;refine wpAny_Call_method0_late r A (thn (ho pins s σ H _ I h) λv s1 ⟨x,Y,I1,r1,q1⟩=>?_);let⟨a,es,kvs,rfl,dc,pd,T,q⟩:=q1;cases r1;let⟨N,ob,c,S,V,g2,g3,g4⟩:=I1.dcr dc;have he:EntAt s1.heap a c S:=⟨ob,V,g2,g3⟩;refine⟨"dict","dict.items",afW,afX,PySem.F.type_dict_items,⟨ob,V,g2.1⟩,λb e=>by cases e;exact⟨ob,V,g2.2.1⟩,aej rfl (PySem.evalArgs_none (ym N he ?_))⟩;refine ahd ?_;have kv:∀b o,s1.heap.get? b=some o->(s1.heap.push {cls:=.type "dict_items",data:=.fields #[.ref a]}).get? b=some o:=λb o q=>Io _ q;have hl:es.length=c.size:=by have:=g4.length;simpa using this
 have hil:(gc kvs).length=es.length:=by unfold gc;rw[iO,pd.length]
 have hn:=T.ok.n;have W:Inv X pins σ Y {s1 with heap:=s1.heap.push {cls:=.type "dict_items",data:=.fields #[.ref a]} }:=I1.kept (t':=s1.toks) kv;have m:(s1.heap.push {cls:=.type "dict_items",data:=.fields #[.ref a]}).get? s1.heap.objs.size=some {cls:=.type "dict_items",data:=.fields #[.ref a]}:=aai _ rfl;have F:EntAt (s1.heap.push {cls:=.type "dict_items",data:=.fields #[.ref a]}) a c S:=he.keep λo q=>kv _ _ q;have la:a<s1.heap.objs.size:=aal V;generalize hS2:({s1 with heap:=s1.heap.push {cls:=.type "dict_items",data:=.fields #[.ref a]} }:GT)=s2 at W⊢;have hh2:s2.heap=s1.heap.push {cls:=.type "dict_items",data:=.fields #[.ref a]}:=by rw[<-hS2]
 rw[<-hh2]at m F;have lv:s1.heap.objs.size<s2.heap.objs.size:=aal m;have lay:∀(h':aa1) (d:Addr),(∀b o,s2.heap.get? b=some o->h'.get? b=some o)->s2.heap.objs.size≤d+1->(∀j (t:j<c.size),h'.get? (d+1+j)=some {cls:=.type "tuple",data:=.seq #[c[j].key,c[j].val]})->Inv X pins σ (updR Y (d+1) (itmG es) es.length) {s2 with heap:=h' }:=λh' d k z tp=>by
  refine W.laidR (t':=s2.toks) k z λj t=>?_;let⟨ev,w,R,K⟩:=Paired.at g4 (i:=j) (y:=c[j]) (by simp[show j<c.size by omega]);have eg:itmG es j = .tup [ev.1,ev.2]:=by unfold itmG;rw[bM w]
  rw[eg];exact⟨by show 2≤aak;rw[aap];decide,[c[j].key,c[j].val],.cons R (.cons K .nil),⟨_,tp j ∅,rfl,rfl,_,rfl⟩⟩
 have M:∀(d:Addr) (f:Array Ad),f.size=c.size->(∀(j:Nat) u,f[j]?=some u->u = .ref (d+1+j))->Vals (su (d+1) es.length) f.toList:=λd f az ar=>za (by have z1:f.toList.length=f.size:=acw;unfold su;rw[iO,aa7,z1,az,hl]) λj x u w R=>by
  unfold su at w;rw[aaj]at w;let⟨j',K,rfl⟩:=aem.mp w;have J:j<es.length:=by have:=(AD.mp K).1;rwa[aa7]at this
  rw[ace J]at K;rw[adq]at R;rw[ar j u R,aaA K];exact rfl
 have fr:∀(d:Addr),s2.heap.objs.size≤d+1->∀j,Y (d+1+j)=none:=λd z j=>W.hok.fresh (aaw z (ack _ _));refine yQ (s:=s2) (C:=λh vs=>∃d:Addr,s2.heap.objs.size≤d+1/\(∀j (t:j<c.size),h.get? (d+1+j)=some {cls:=.type "tuple",data:=.seq #[c[j].key,c[j].val]})/\Vals (su (d+1) es.length) vs) T.ok T.tot ∅ (λP E hP=>?_) ?_
 .refine yt (St:=λd=>StI s2.heap.objs.size d a c S) (P:=λd=>PrI s2.heap.objs.size d c) (n:=c.size) ⟨_,m,rfl⟩ (.inl rfl) (by rw[aap];omega) (λs3 Q3 E3 hT q=>yC hT q) (λs3 Q3 E3 k0 ⟨oS,hS⟩ hq=>?_) λd h' f k zz az pz=>?_
  .have lS:s2.heap.objs.size<s3.heap.objs.size:=aal hS;have O:EntAt s3.heap a c S:=F.keep λo q=>k0 _ _ q;refine Cr (k0 _ _ m) O λh' Z sz hk=>hq h' _ (abt lS) (Gm (W.ok.hd hc) lS (abt (ael la lv)) (abt (ael la (ael lv lS)))) ⟨O.keep λo q=>hk _ _ q,sz,.inl ⟨_,_,Z⟩⟩ hk (Cy _)
  .obtain⟨l,z',tp',ar'⟩:∃l:Addr,s2.heap.objs.size≤l+1/\(∀j (t:j<c.size),h'.get? (l+1+j)=some {cls:=.type "tuple",data:=.seq #[c[j].key,c[j].val]})/\∀(j:Nat) u,f[j]?=some u->u = .ref (l+1+j):=by
    by_cases e0:c.size=0
    .exact⟨s2.heap.objs.size,afu _,λj t=>by omega,λj u e=>by have:=(Array.getElem?_eq_some_iff.mp e).1;omega⟩
    .have get:∀j,j<c.size->∃u,f[j]?=some u:=λj t=>⟨_,abP (show j<f.size by omega)⟩;let⟨u0,w⟩:=get 0 ∅;have l0:=(pz 0 u0 w).1;refine⟨d,abY (aen l0),λj t=>?_,λj u e=>(pz j u e).2.1⟩;let⟨u,e⟩:=get j t;let⟨_,_,J,q⟩:=pz j u e;exact q
   have U:=M l f az ar';have I':=lay h' l k z' tp';exact hP h' f.toList k (Jg I' T.ok.lay (uf (fr l z') pd) U) ⟨l,z',tp',U⟩
 .rintro h1 h2 vs p L e k1 ⟨d,z,tp,U⟩ r1 k2 hL hl2 hp;subst hL;have I3:=lay h1 d k1 z tp;have G:updR Y (d+1) (itmG es) es.length h1.objs.size=none:=I3.hok.fresh (aab _);let⟨o1,o2⟩:=O5 hp;have hpl:p.length=c.size:=by have:=List.Perm.length_eq hp;rw[aa7]at this;omega
  exact⟨.ref h1.objs.size,_,I3.laid (t':=s2.toks) k2 (aab _) (show ObjOk X.prog X.w _ _ _ (.lst (p.map λi=>(su (d+1) es.length).getD i .non))from⟨by rw[iO,aap];omega,_,e,uq U p,by rw[hl2]⟩),rfl,q _ _ _ _ _ _ o1 o2 (fr d z) G ((xy (uf (fr d z) pd) p).mono (bj (.inl G)))⟩
theorem Di{H:Hp}(fr:∀j,H (B+j)=none)(h:updR H B g n b=none):H b=none:=by
 cases e:H b with
 |none=>rfl
 |some o=>rw[dg fr e]at h;cases h
theorem Rel.layR{K:Kx}{c:Al}{m:MSt}{σ:St}{H:Hp}{B:Addr}{g:Nat->HO}(R:Rel K c m σ H)(fr:∀j,H (B+j)=none):∀n,Rel K c m σ (updR H B g n)
 |0=>R
 |n+1=>(Rel.layR R fr n).lay (by rw[jm λj h z=>abt h (agS z)];exact fr n)
theorem IJ{c:Al}{H:Hp}(fr:∀j,H (B+j)=none)(n:Nat):Frm c H (updR H B g n):=λb o e _=>dg fr e
abbrev Ju(w:WE):WE:=λm K=>w m λr c=>∃kvs,dcM c kvs r/\(isKd kvs=true\/kyA kvs=true)/\srtR (gc kvs) λd=>K (.new d) c
theorem Iw{w:WE}(E:X.A.units+64<cLine)(u:X.mg "sorted" = none)(A:ME X o w)(N:X.calm=true:=by rfl)(C:Gl X "sorted":=by rfl)(c:abz o "items" X.env (eval o X.env)=eval o X.env:=by rfl)(h:(apos.endLine==cpos.line)=true:=by rfl)
  (e:aac [.Call (.Attribute o "items" apos) [] [] cpos] X.env=[(false,eval (.Call (.Attribute o "items" apos) [] [] cpos) X.env)]:=by rfl):ME X (.Call (.Name "sorted" p0) [.Call (.Attribute o "items" apos) [] [] cpos] [] pos) (Ju w):=(IQ N E C u A c h e).wk<|by
 intro σ H Q ⟨G,m,S,z,O,p⟩;refine⟨G,m,_,z,O,λr D v T k n R rr F=>?_⟩;let⟨kvs,dk,hk,t,k⟩:=k;let⟨a,rfl,dc⟩:=rr.dc R dk hk;let⟨es,dc,M⟩:=dc.dcr;refine⟨a,es,kvs,rfl,dc,M,t,λd B g q L y I K fr l f=>?_⟩;have J:=Rel.layR (g:=g) R fr q;have P:=F.trans (IJ (g:=g) fr q);exact p _ D _ _ (k d I K) n (J.lay l) (RelR.base R F (⟨L,y,rfl,Di fr l,ay,f⟩)) (P.trans (cu l))
theorem zL{w:WE}(l:X.A.units+64<cLine)(k:X.mg "sorted" = none)(e:EE X o w)(m:X.calm=true:=by rfl)(f:Gl X "sorted":=by rfl)(h:abz o "items" X.env (eval o X.env)=eval o X.env:=by rfl)(c:(apos.endLine==cpos.line)=true:=by rfl)
  (d:aac [.Call (.Attribute o "items" apos) [] [] cpos] X.env=[(false,eval (.Call (.Attribute o "items" apos) [] [] cpos) X.env)]:=by rfl):EE X (.Call (.Name "sorted" p0) [.Call (.Attribute o "items" apos) [] [] cpos] [] pos) (Ju w):=⟨Iw l k e.h m f h c d⟩
end
end L2
namespace L2
open PySem PySem.Spec PyProof.Rows
section
variable {X:Cx}{i:Nat}{x:Str}{e:Expr}{w:WE}{op:afb}{p pos:Pos}{f:Int->Int->Int}
def F8(X:Cx)(op:afb)(f:Int->Int->Int):Prop:=PIp X op λx y H Q=>∃i j,x = .int i/\y = .int j/\Q (.int (f i j)) H
def JQ:F8 X .Add (· + ·):=UQ
def Uk:F8 X .Sub (· - ·):=QV
def wAug(i:Nat)(w:WE)(f:Int->Int->Int):WS:=λD m=>∃a:Int,m.vs[i]?=some (~~~(.int a))/\w m λr c=>∃b:Int,r = .imm (.int b)/\D.nx (c.setV i (.imm (.int (f a b))))
theorem Ui(l:X.N.Nodup)(u:X.N[i]?=some x)(z:ME X e w)(h:F8 X op f)(g:X.env.scope.names.lookup x=some .local:=by rfl):MS X (.AugAssign (.Name x p) op e pos) (wAug i w f):=(TQ l u (.inl g) z h (.inr g)).wk<|by
 intro D J H ⟨j,m,G,c,⟨a,t,C⟩,k⟩;let⟨v,A,E⟩:=c.var i _ t;have o:=E;refine⟨v,A,j,m,_,c,C,λr I y d ⟨b,B,q⟩ n R rr F=>?_⟩;subst B;have s:=rr;have R2:=cp (i:=i) (r:=.imm (.int (f a b))) R (show Den X.kx.toKd d (.int (f a b)) (.int (f a b)) by simp only[Den]);exact⟨a,b,o,s,k.nx j _ _ d q n R2 (.of R2 F)⟩
theorem uR(i:Nat)(b:X.N.Nodup)(a:EE X e w)(h:F8 X op f)(c:X.N[i]?=some x:=by rfl)(d:X.env.scope.names.lookup x=some .local:=by rfl):ES X (.AugAssign (.Name x p) op e pos) (wAug i w f):=⟨Ui b c a.h h d⟩
def Oo{D:de}{m:MSt}(a:Int)(d:m.vs[i]?=some (~~~(.int a)))(h:w m λr c=>∃b:Int,r = .imm (.int b)/\D.nx (c.setV i (.imm (.int (f a b))))):wAug i w f D m:=⟨a,d,h⟩
end
end L2
namespace K
open PySem L2 M7 M8
variable{h:Hall}{L:List (Pk×Int)}{a:Pk}{r1 r2:Rule}{t:Tr}{α:Type}
def alk(h:Hall):Bool:=(h.ss.map Srv.d).all λd=>aaa d ((h.ss.map Srv.d).getD 0 .none)
def cU(h:Hall)(l:List Nat):List Nat:=if alk h=true then srt l else l
def yc(h:Hall)(l:List Nat):(cU h l).Perm l:=by
 unfold cU;split
 .exact kO l
 .exact .refl _
def uh(h:Hall)(l:List Nat):cU h (cU h l)=cU h l:=by
 unfold cU;split
 .exact Ud (qz l)
 .rfl
theorem Bf(a:alk h=true){s t:Srv}(c:s∈h.ss)(f:t∈h.ss):s.r=t.r:=by
 have one:∀s∈h.ss,aaa s.d ((h.ss.map Srv.d).getD 0 .none)=true:=λs c=>abM.mp a _ (aar.mpr ⟨s,c,rfl⟩);let⟨d,ss,e⟩:∃d ss,h.ss=d::ss:=by
  cases e:h.ss with
  |nil=>rw[e]at c;cases c
  |cons a b=>exact⟨a,b,rfl⟩
 have key:∀s∈h.ss,s.r=d.r:=λs c=>by
  have:=one s c;rw[e]at this;have q:(aaa (.tuple [.int s.a,.int s.b]) (.tuple [.int d.a,.int d.b])&&(aaa (.int (s.r:Int)) (.int (d.r:Int))&&true))=true:=this;simp only[aco,aaG]at q;rw[cB]at q;exact of_decide_eq_true q.2
 rw[key s c,key t f]
theorem fM{l:List Nat}(L:Lines h l):Lines h (cU h l):=by
 unfold cU;split
 .rename_i a;have p:=(kO l);refine⟨p.length_eq.trans L.1,λi s x f e=>?_⟩;have d:=p.mem_iff.mp (LD e);let⟨j,c⟩:∃j,l[j]?=some _:=adC d;have b:j<h.ss.length:=by rw[<-L.1];exact(AD.mp c).1
  have:=L.2 j _ x (lD b) c;rw[Bf a (LD f) (aeD b)];exact this
 .exact L
theorem wD{l:List Nat}{ns:List Int}(f:ns.Perm (l.map λ(k:Nat)=>(k:Int)))(i:ns.Pairwise (· ≥ ·)):ns=(srt l).map λ(k:Nat)=>(k:Int):=by
 have d:∀x∈ns,((x.toNat:Nat):Int)=x:=λx e=>by
  let⟨k,_,rfl⟩:=aar.mp (f.mem_iff.mp e);rfl
 have m:(ns.map af0).map (λ(k:Nat)=>(k:Int))=ns:=by
  rw[aba]
  conv=>rhs;rw[<-ahC ns]
  exact acz λx e=>d x e
 have p:(ns.map af0).Perm l:=by
  have:=f.map af0;rw[aba]at this;have g:(l.map (af0∘λ(k:Nat)=>(k:Int)))=l:=by
   (conv=>rhs;rw[<-ahC l])
   exact acz λx _=>rfl
  rwa[g]at this
 have n:Fall (ns.map af0):=by
  unfold Fall;rw[List.pairwise_map];refine i.imp_of_mem λ{a b} j o c=>?_;have:=d a j;have:=d b o;show b.toNat≤a.toNat;have:b≤a:=c;omega
 rw[w6 n p,m]
def tj(l:List Nat):natD l=(l.map λ(k:Nat)=>(k:Int)).map .int:=by unfold natD;rw[aba];rfl
def kst(h:Hall)(r:Rule)(l:List Nat)(m:Mv):List Nat×Wd:=(cU h (km h r l 0 m).1,(km h r l 0 m).2.2)
def aw(w:Wd):Int:=if w = .away then 1 else 0
abbrev Tr:=List Nat×List Nat×Int
def bth(h:Hall)(r1 r2:Rule)(t:Tr)(m:Mv):Tr:=((kst h r1 t.1 m).1,(kst h r2 t.2.1 m).1,t.2.2+aw (kst h r2 t.2.1 m).2-aw (kst h r1 t.1 m).2)
def bad(t:Tr):Bool:=decide (t.2.2<0)||decide (((t.2.1.sum:Nat):Int)+t.2.2<((t.1.sum:Nat):Int))
def mvs(h:Hall):List Mv:=(ordK h.ss.length h.ss.length).map Mv.come++(aaz h.ss.length).map Mv.done++[.still]
def vX(b:h.Ok):∀m∈mvs h,m.Ok h:=λm e=>by
 rcases aaV.mp e with q|q
 .obtain q|q:=aaV.mp q
  .obtain⟨o,ho',rfl⟩:=aar.mp q;let⟨c,d,f⟩:=Fq _ b.n4 b.n1 o ho';exact⟨c,f,d⟩
  .obtain⟨k,hk,rfl⟩:=aar.mp q;exact adw.mp hk
 .rw[aad.mp q];exact trivial
inductive RcT(h:Hall)(r1 r2:Rule):Tr->Prop
 |here:RcT h r1 r2 (zer h,zer h,0)
 |next {t:Tr}{m:Mv}:RcT h r1 r2 t->m∈mvs h->RcT h r1 r2 (bth h r1 r2 t m)
structure Nvr(h:Hall)(r1 r2:Rule)(P:List Tr):Prop where
 b0:(zer h,zer h,0)∈P
 nb:∀t∈P,bad t=false
 cl:∀t∈P,∀m∈mvs h,∃u∈P,u.1=(bth h r1 r2 t m).1/\u.2.1=(bth h r1 r2 t m).2.1/\u.2.2≤(bth h r1 r2 t m).2.2
def trD(t:Tr):aD:=.tuple [lnD t.1,lnD t.2.1,.int t.2.2]
structure TrOk(h:Hall)(t:Tr):Prop where
 x:Lines h t.1
 y:Lines h t.2.1
 kx:cU h t.1=t.1
 ky:cU h t.2.1=t.2.1
 d0:0≤t.2.2
 d1:t.2.2<10^15
abbrev Pk:=List Nat×List Nat
def pkD(p:Pk):aD:=.tuple [lnD p.1,lnD p.2]
def ldD(L:List (Pk×Int)):List (aD×aD):=L.map λq=>(pkD q.1,.int q.2)
def gu(a b:List Nat):aaa (lnD a) (lnD b)=decide (a=b):=by
 have:=QO (a,0) (b,0);have e:aaa (ptD (a,0)) (ptD (b,0))=aaa (lnD a) (lnD b):=by
  show(aaa (lnD a) (lnD b)&&(aaa (.int 0) (.int 0)&&true))=_;rw[show aaa (.int 0) (.int 0)=true from rfl,Bool.true_and,aco]
 rw[<-e,this];simp
def JG(p q:Pk):aaa (pkD p) (pkD q)=decide (p=q):=by
 show(aaa (lnD p.1) (lnD q.1)&&(aaa (lnD p.2) (lnD q.2)&&true))=_;rw[gu,gu,aco,abE];simp[ahm]
def setL(a:Pk)(v:Int):List (Pk×Int)->List (Pk×Int)
 |[]=>[(a,v)]
 |q::L=>if q.1=a then(q.1,v)::L else q::setL a v L
theorem CU(a:Pk)(v:Int):∀L:List (Pk×Int),putP (pkD a) (.int v) (ldD L)=ldD (setL a v L)
 |[]=>rfl
 |q::L=>by
  show(if aaa (pkD q.1) (pkD a)=true then _ else _::putP (pkD a) (.int v) (ldD L))=ldD (if q.1=a then(q.1,v)::L else q::setL a v L);rw[JG]
  by_cases e:q.1=a
  .rw[if_pos (decide_eq_true e),if_pos e];rfl
  .rw[if_neg (by rw[decide_eq_false e];exact aan),if_neg e,CU a v L];rfl
theorem h7{a:Pk}{v:Int}:∀{L:List (Pk×Int)}{p:Pk×Int},p∈setL a v L->p=(a,v)\/p∈L
 |[],p,h=>.inl (aad.mp h)
 | q::L,p,h=>by
  unfold setL at h
  split at h
  .rename_i e;rcases aag.mp h with z|z
   .rw[z,e];exact .inl rfl
   .exact .inr (aaf _ z)
  .rcases aag.mp h with z|z
   .rw[z];exact .inr aah
   .exact(h7 z).imp id λy=>aaf _ y
theorem Fu{p:Pk}(c:h.Ok)(b:Lines h p.1)(f:Lines h p.2):kyD (pkD p)=true:=by
 have n:∀l:List Nat,hkA (natD l)=true:=λl=>by
  induction l with
  |nil=>rfl
  |cons x l i=>show(hkD _&&hkA (natD l))=true;rw[i];rfl
 have s:=aV (k:=1) (ds:=[lnD p.1,lnD p.2]) λd hd=>by
  rcases aag.mp hd with e|e
  .rw[e];exact aV (bJ _)
  .rw[aad.mp e];exact aV (bJ _)
 have hk:hkD (pkD p)=true:=by
  show(hkD (lnD p.1)&&(hkD (lnD p.2)&&true))=true;rw[show hkD (lnD p.1)=true from n p.1,show hkD (lnD p.2)=true from n p.2];rfl
 unfold kyD;rw[hk,show(pkD p).canLay0=true from s.cl,decide_eq_true (show(pkD p).depth≤7 from aaw s.dp ⋯)];rfl
def AQ(c:h.Ok)(X:∀p∈L,Lines h p.1.1/\Lines h p.1.2):kyA (ldD L)=true:=by
 unfold kyA ldD;rw[aeq,abM];exact λp b=>Fu c (X p b).1 (X p b).2
def JH(t u:Tr):aaa (trD t) (trD u)=decide (t=u):=by
 show(aaa (lnD t.1) (lnD u.1)&&(aaa (lnD t.2.1) (lnD u.2.1)&&(aaa (.int t.2.2) (.int u.2.2)&&true)))=_;rw[gu,gu,aco,show aaa (.int t.2.2) (.int u.2.2)=decide (t.2.2=u.2.2)from by simp[aaa,aeu],abE];simp[ahm,and_assoc]
def i7:cU h (zer h)=zer h:=List.perm_replicate.mp (yc h (zer h))
def lkL(a:Pk):List (Pk×Int)->Option Int
 |[]=>none
 |q::L=>if q.1=a then some q.2 else lkL a L
theorem BZ(a:Pk):∀L:List (Pk×Int),cE (pkD a) (ldD L)=(lkL a L).map .int
 |[]=>rfl
 |q::L=>by
  show(if aaa (pkD q.1) (pkD a)=true then some (abf q.2)else cE (pkD a) (ldD L))=(if q.1=a then some q.2 else lkL a L).map .int;rw[JG]
  by_cases e:q.1=a
  .rw[if_pos (decide_eq_true e),if_pos e];rfl
  .rw[if_neg (by rw[decide_eq_false e];exact aan),if_neg e];exact BZ a L
def smL(L:List (Pk×Int)):Nat:=(L.map λq=>q.2.toNat).sum
theorem q9{a:Pk}{v:Int}:∀{L:List (Pk×Int)},lkL a L=none->setL a v L=L++[(a,v)]
 |[],_=>rfl
 |q::L,h=>by
  unfold lkL at h;unfold setL
  split at h
  .cases h
  .rename_i e;rw[if_neg e,q9 h];rfl
theorem um{a:Pk}{v w:Int}:∀{L:List (Pk×Int)},lkL a L=some w->smL (setL a v L)+w.toNat=smL L+v.toNat/\(setL a v L).length=L.length/\(setL a v L).map (·.1)=L.map (·.1)
 |q::L,h=>by
  unfold lkL at h;unfold setL
  split at h
  .rename_i e;cases h;rw[if_pos e];refine⟨?_,rfl,rfl⟩;simp only[smL,aam,adl];omega
  .rename_i e;let⟨c,d,b⟩:=um (v:=v) h;rw[if_neg e];refine⟨?_,by simp[d],by simp[b]⟩;simp only[smL,aam,adl]at c⊢;omega
theorem JO{a:Pk}:∀{L:List (Pk×Int)},lkL a L=none->a∉L.map (·.1)
 |[],_,h=>by cases h
 | q::L,e,h=>by
  unfold lkL at e
  split at e
  .cases e
  .rename_i n;rcases aag.mp h with z|z
   .exact n z.symm
   .exact JO e z
theorem p9{a:Pk}{w:Int}:∀{L:List (Pk×Int)},lkL a L=some w->(a,w)∈L
 |q::L,e=>by
  unfold lkL at e
  split at e
  .rename_i n;cases e;rw[<-n];exact aah
  .exact aaf _ (p9 e)
structure DkOk(h:Hall)(L:List (Pk×Int)):Prop where
 nd:(L.map (·.1)).Nodup
 ln:∀p∈L,Lines h p.1.1/\Lines h p.1.2
 nn:∀p∈L,0≤p.2
 kp:∀p∈L,cU h p.1.1=p.1.1/\cU h p.1.2=p.1.2
def kL(h:Hall):List (List Nat):=(M3.allR h.rs).filter λl=>decide (cU h l=l)
def nP(h:Hall):Nat:=(kL h).length*(kL h).length
def Ug{a:Nat}(z:(M3.allR h.rs).length≤a):nP h≤a*a:=by
 have l:(kL h).length≤a:=aaw (adr _ _) z;exact acK l l
theorem DkOk.len(D:DkOk h L):L.length≤nP h:=by
 have:=l9 D.nd (m:=(kL h).flatMap λl=>(kL h).map λk=>(l,k)) λy d=>by
  let⟨p,c,rfl⟩:=aar.mp d;exact acj.mpr ⟨p.1.1,ad1.mpr ⟨kZ (D.ln p c).1.fits,decide_eq_true (D.kp p c).1⟩,aar.mpr ⟨p.1.2,ad1.mpr ⟨kZ (D.ln p c).2.fits,decide_eq_true (D.kp p c).2⟩,rfl⟩⟩
 rw[iO]at this;refine aaw this (af5 ?_);unfold nP;generalize kL h=A;have:∀B:List (List Nat),(B.flatMap λl=>A.map λk=>(l,k)).length=B.length*A.length:=λB=>by
  induction B with
  |nil=>simp
  |cons b B i=>rw[List.flatMap_cons,aao,i,iO,aat,ae6,Nat.add_comm]
 exact this A
def pot(h:Hall)(M:Nat)(L:List (Pk×Int)):Nat:=smL L+(nP h-L.length)*(M+2)
theorem DkOk.put{M:Nat}{v:Int}(D:DkOk h L)(n:Lines h a.1)(l:Lines h a.2)(f:cU h a.1=a.1/\cU h a.2=a.2)(d:0≤v)(B:v≤(M:Int)+1)(o:v<(lkL a L).getD (v+1)):DkOk h (setL a v L)/\pot h M (setL a v L)+1≤pot h M L/\((setL a v L).length=L.length->∃w,(a,w)∈L/\v<w)/\L.length≤(setL a v L).length:=by
 cases e:lkL a L with
 | none=>
  have s:=q9 (v:=v) e;have g:DkOk h (L++[(a,v)]):=by
   refine⟨?_,λp b=>?_,λp b=>?_,λp b=>?_⟩
   .rw[aaM];exact acR.mpr ⟨D.nd,ac1 _ _,λx i y r z=>JO e (by have:=z.trans (aad.mp r);rw[show x=a from this]at i;exact i)⟩
   .rcases aaV.mp b with z|z
    .exact D.ln p z
    .rw[aad.mp z];exact⟨n,l⟩
   .rcases aaV.mp b with z|z
    .exact D.nn p z
    .rw[aad.mp z];exact d
   .rcases aaV.mp b with z|z
    .exact D.kp p z
    .rw[aad.mp z];exact f
  have le:=g.len;rw[s];refine⟨g,?_,λz=>?_,'a'⟩
  .rw[aao]at le;have A:L.length+1≤nP h:=le;unfold pot;rw[aao,show smL (L++[(a,v)])=smL L+v.toNat by simp[smL]];let⟨k,hk⟩:∃k,nP h=L.length+1+k:=⟨nP h-(L.length+1),∅⟩;rw[hk,show L.length+1+k-(L.length+[(a,v)].length)=k by simp,show L.length+1+k-L.length=k+1 by omega,ae6];omega
  .simp at z
 | some w=>
  rw[e]at o;have c:v<w:=o;let⟨C,j,u⟩:=um (v:=v) e;have m:=p9 e;have q:=D.nn _ m;refine⟨⟨by rw[u];exact D.nd,λp b=>?_,λp b=>?_,λp b=>?_⟩,?_,λ_=>⟨w,m,c⟩,af5 j.symm⟩
  .rcases h7 b with z|z
   .rw[z];exact⟨n,l⟩
   .exact D.ln p z
  .rcases h7 b with z|z
   .rw[z];exact d
   .exact D.nn p z
  .rcases h7 b with z|z
   .rw[z];exact f
   .exact D.kp p z
  .unfold pot;rw[j];dsimp only at q;omega
def rq(d:h.Ok)(c:r1.Ok h)(b:r2.Ok h)(n1:r1≠.turns)(n2:r2≠.turns){m:Mv}(R:Lines h t.1/\Lines h t.2.1)(e:m∈mvs h):Lines h (bth h r1 r2 t m).1/\Lines h (bth h r1 r2 t m).2.1:=by
 have o:=vX d _ e;exact⟨fM (fJ d c (t:=0) ⟨R.1,λz=>(n1 z).elim,⋯⟩ o).ln,fM (fJ d b (t:=0) ⟨R.2,λz=>(n2 z).elim,⋯⟩ o).ln⟩
theorem l8(c:h.Ok)(b:r1.Ok h)(d:r2.Ok h)(n1:r1≠.turns)(n2:r2≠.turns)(R:RcT h r1 r2 t):Lines h t.1/\Lines h t.2.1:=by
 induction R with
 |here=>exact⟨(i6 c r1).ln,(i6 c r1).ln⟩
 |next _ e i=>exact rq c b d n1 n2 i e
theorem RH{m:Mv}:(bth h r1 r2 t m).2.2≤t.2.2+1:=by
 unfold bth aw;dsimp only
 split<;>split<;>omega
def Uq(b:bad t=false):0≤t.2.2:=by
 unfold bad at b;simp at b;exact b.1
def ldT(L:List (Pk×Int)):List Tr:=L.map λp=>(p.1.1,p.1.2,p.2)
theorem UU(D:DkOk h L)(V:∀p∈L,p.2≤1000000):∀t∈ldT L,TrOk h t:=λt c=>by
 let⟨p,b,rfl⟩:=aar.mp c;have v:=V p b;exact⟨(D.ln p b).1,(D.ln p b).2,(D.kp p b).1,(D.kp p b).2,D.nn p b,show p.2<10^15 by omega⟩
theorem Jr:∀{L:List (Pk×Int)},(L.map (·.1)).Nodup->∀p∈L,lkL p.1 L=some p.2
 |q::L,nd,p,b=>by
  rw[aam,abe]at nd;unfold lkL;rcases aag.mp b with rfl|b
  .rw[if_pos rfl]
  .rw[if_neg λz=>nd.1 (by rw[z];exact aar.mpr ⟨p,b,rfl⟩)];exact Jr nd.2 p b
def stT(h:Hall):Tr:=(zer h,zer h,0)
def wlk(h:Hall)(r1 r2:Rule)(R:List Mv):Tr:=R.foldl (bth h r1 r2) (stT h)
def RunK(h:Hall)(R:List Mv):Prop:=∀m∈R,m∈mvs h
section
variable {h:Hall}{r1 r2:Rule}{R:List Mv}{m:Mv}{t u:Tr}{L:List (Pk×Int)}
def h8:wlk h r1 r2 (R++[m])=bth h r1 r2 (wlk h r1 r2 R) m:=by unfold wlk;rw[ahn];rfl
def RunK.snoc(k:RunK h R)(c:m∈mvs h):RunK h (R++[m]):=λx b=>by
 rcases aaV.mp b with z|z
 .exact k x z
 .rwa[aad.mp z]
def RunK.cut(k:RunK h (R++[m])):RunK h R/\m∈mvs h:=⟨λx b=>k x (ab0 _ b),k m (aaQ _ aah)⟩
structure LeT(u t:Tr):Prop where
 x:u.1=t.1
 y:u.2.1=t.2.1
 d:u.2.2≤t.2.2
def LeT.refl(t:Tr):LeT t t:=⟨rfl,rfl,agF _⟩
def LeT.trans{v:Tr}(a:LeT u t)(b:LeT t v):LeT u v:=⟨a.x.trans b.x,a.y.trans b.y,adg a.d b.d⟩
theorem LeT.bth(a:LeT u t):LeT (bth h r1 r2 u m) (bth h r1 r2 t m):=by
 unfold K.bth;have:=a.d;refine⟨by rw[a.x],by rw[a.y],?_⟩;dsimp only;rw[a.x,a.y];omega
theorem LeT.good(a:LeT u t)(b:bad u=false):bad t=false:=by
 have:=a.d;unfold bad at b⊢;rw[a.x,a.y]at b;simp only[acP,decide_eq_false_iff_not]at b⊢;omega
def wJ:bad (stT h)=false:=by
 unfold bad stT;simp
def Cv(L:List (Pk×Int))(t:Tr):Prop:=∃p∈L,LeT (p.1.1,p.1.2,p.2) t
theorem qo{a:Pk}{v:Int}:∀L:List (Pk×Int),(a,v)∈setL a v L
 |[]=>aah
 |q::L=>by
  unfold setL;split
  .rename_i e;rw[<-e];exact aah
  .exact aaf _ (qo L)
theorem sg{a:Pk}{v:Int}{p:Pk×Int}(n:p.1≠a):∀{L:List (Pk×Int)},p∈L->p∈setL a v L
 | q::L,b=>by
  unfold setL;rcases aag.mp b with rfl|b
  .rw[if_neg n];exact aah
  .split
   .exact aaf _ b
   .exact aaf _ (sg n b)
theorem Cv.set{v:Int}(c:Cv L t)(D:DkOk h L)(f:v<(lkL a L).getD (v+1)):Cv (setL a v L) t:=by
 let⟨p,g,b⟩:=c
 by_cases e:p.1=a
 .have el:=Jr D.nd p g;rw[e]at el;rw[el]at f;have f:v<p.2:=f;refine⟨(a,v),qo L,?_⟩;have d:p.2≤t.2.2:=b.d;subst e;exact⟨b.x,b.y,show v≤t.2.2 by omega⟩
 .exact⟨p,sg e g,b⟩
def Xv{w:Int}(e:lkL a L=some w)(c:w≤t.2.2)(b:a=(t.1,t.2.1)):Cv L t:=⟨_,p9 e,by subst b;exact⟨rfl,rfl,c⟩⟩
def Min(h:Hall)(r1 r2:Rule)(n:Nat):Prop:=∀R,RunK h R->R.length<n->bad (wlk h r1 r2 R)=false
def Sound(h:Hall)(r1 r2:Rule):Prop:=∀R,RunK h R->bad (wlk h r1 r2 R)=false
theorem zh(k:RunK h R):RcT h r1 r2 (wlk h r1 r2 R):=by
 have go:∀(R:List Mv) (t:Tr),RunK h R->RcT h r1 r2 t->RcT h r1 r2 (R.foldl (bth h r1 r2) t):=λR=>by
  induction R with
  |nil=>exact λt _ q=>q
  |cons m R i=>exact λt k q=>i _ (λx b=>k x (aaf _ b)) (.next q (k m aah))
 exact go R _ k .here
theorem Fm(R:List Mv):cU h (wlk h r1 r2 R).1=(wlk h r1 r2 R).1/\cU h (wlk h r1 r2 R).2.1=(wlk h r1 r2 R).2.1:=by
 have go:∀(R:List Mv) (t:Tr),cU h t.1=t.1/\cU h t.2.1=t.2.1->cU h (R.foldl (bth h r1 r2) t).1=(R.foldl (bth h r1 r2) t).1/\cU h (R.foldl (bth h r1 r2) t).2.1=(R.foldl (bth h r1 r2) t).2.1:=λR=>by
  induction R with
  |nil=>exact λt q=>q
  |cons m R i=>exact λt q=>i _ ⟨uh h _,uh h _⟩
 exact go R _ ⟨i7,i7⟩
theorem L7:∀{R:List α},R≠[]->∃b m,R=b++[m]:=λ{R} h=>⟨R.dropLast,R.getLast h,(List.dropLast_concat_getLast h).symm⟩
end
abbrev Wy:=Option (Nat×Mv)
def CvD(T:List Tr)(P:List (List Mv))(d:Nat)(u:Tr):Prop:=∃(j:Nat) (p:List Mv) (t:Tr),P[j]?=some p/\T[j]?=some t/\p.length≤d/\LeT t u
def dj{l m:List α}{x:α}{k:Nat}(e:l[k]?=some x):(l++m)[k]?=some x:=by rw[aaE (AD.mp e).1];exact e
section
variable {h:Hall}{r1 r2:Rule}{L L':List (Pk×Int)}{T:List Tr}{Y:List Wy}{P:List (List Mv)}{C i j:Nat}{m:Mv}{p:List Mv}{t u:Tr}
theorem CvD.le{d d':Nat}(c:CvD T P d u)(hd:d≤d')(a:LeT u t):CvD T P d' t:=let ⟨j,p,x,e1,e2,e3,b⟩:=c;⟨j,p,x,e1,e2,aaw e3 hd,b.trans a⟩
theorem CvD.snoc{d:Nat}{x:Tr}{y:List Mv}(c:CvD T P d u):CvD (T++[x]) (P++[y]) d u:=let ⟨j,p,t,e1,e2,e3,b⟩:=c;⟨j,p,t,dj e1,dj e2,e3,b⟩
structure Qv(h:Hall)(r1 r2:Rule)(C:Nat)(L:List (Pk×Int))(T:List Tr)(Y:List Wy)(P:List (List Mv))(i j:Nat):Prop where
 dk:DkOk h L
 lt:T.length=P.length
 ly:Y.length=P.length
 tr:∀(k:Nat) (p:List Mv),P[k]?=some p->RunK h p/\T[k]?=some (wlk h r1 r2 p)
 wy:∀(k:Nat) (p:List Mv),P[k]?=some p->(p=[]/\Y[k]?=some none)\/∃(a:Nat) (m:Mv) (q:List Mv),a<k/\P[a]?=some q/\p=q++[m]/\Y[k]?=some (some (a,m))
 mo:∀(k l:Nat) (p q:List Mv),P[k]?=some p->P[l]?=some q->k≤l->p.length≤q.length
 cv:∀t∈T,Cv L t
 dl:∀x∈L,(x.1.1,x.1.2,x.2)∈T
 gd:∀t∈T,bad t=false
 p0:P[0]?=some []
 vt:∀t∈T,t.2.2≤(L.length:Int)
 pt:T.length+pot h (nP h) L≤C
 ex:∀(k:Nat) (p:List Mv) (m:Mv),k<i->P[k]?=some p->m∈mvs h->bad (wlk h r1 r2 (p++[m]))=false/\CvD T P (p.length+1) (wlk h r1 r2 (p++[m]))
 ej:∀(k:Nat) (p:List Mv) (m:Mv),k<j->P[i]?=some p->(mvs h)[k]?=some m->bad (wlk h r1 r2 (p++[m]))=false/\CvD T P (p.length+1) (wlk h r1 r2 (p++[m]))
 dp:∀(k:Nat) (p q:List Mv),P[i]?=some p->P[k]?=some q->q.length≤p.length+1
theorem Qv.zero(g:h.Ok):Qv h r1 r2 (1+pot h (nP h) [((zer h,zer h),0)]) [((zer h,zer h),0)] [stT h] [none] [[]] 0 0:=by
 have one:∀{α:Type}{x y:α}{k:Nat},[x][k]?=some y->y=x/\k=0:=λ{α x y k} e=>by
  cases k with
  |zero=>cases e;exact⟨rfl,rfl⟩
  |succ k=>simp at e
 exact {
  dk:=⟨ac1 _ _,λp b=>by rw[aad.mp b];exact⟨(i6 g r1).ln,(i6 g r1).ln⟩,λp b=>by rw[aad.mp b];exact agF _,λp b=>by rw[aad.mp b];exact⟨i7,i7⟩⟩
  lt:=rfl
  ly:=rfl
  tr:=λk p e=>by let⟨rfl,rfl⟩:=one e;exact⟨(λ_ z=>(by cases z)),rfl⟩
  wy:=λk p e=>by let⟨rfl,rfl⟩:=one e;exact .inl ⟨rfl,rfl⟩
  mo:=λk l p q f d _=>by let⟨rfl,_⟩:=one f;exact abJ _
  cv:=λt c=>⟨_,aah,by rw[aad.mp c];exact .refl _⟩
  dl:=λx n=>by rw[aad.mp n];exact aah
  gd:=λt c=>by rw[aad.mp c];exact wJ
  p0:=rfl
  vt:=λt c=>by rw[aad.mp c];exact(by decide:(0:Int)≤1)
  pt:=aab _
  ex:=λk p m z=>(by cases z)
  ej:=λk p m z=>(by cases z)
  dp:=λk p q f d=>by let⟨rfl,_⟩:=one d;exact abJ _}
def Qv.here(X:Qv h r1 r2 C L T Y P i j)(c:T[i]?=some t):∃p,P[i]?=some p/\RunK h p/\t=wlk h r1 r2 p:=by
 have d:i<P.length:=by rw[<-X.lt];exact(AD.mp c).1
 have b:=lD d;let⟨k,e⟩:=X.tr i _ b;rw[c]at e;exact⟨_,b,k,aaA e⟩
theorem Qv.runs(X:Qv h r1 r2 C L T Y P i j){N:Nat}(c:∀k q,P[k]?=some q->q.length<N->k<i):∀n R,R.length=n->n≤N->RunK h R->bad (wlk h r1 r2 R)=false/\CvD T P n (wlk h r1 r2 R)
 |0,R,l,_,_=>by
  rw[abl l];exact⟨wJ,0,[],_,X.p0,(X.tr 0 [] X.p0).2,aab _,.refl _⟩
 |n+1,R,l,hn,k=>by
  let⟨d,m,rfl⟩:=L7 (R:=R) (λz=>by rw[z]at l;cases l);let⟨s,r⟩:=k.cut;let⟨_,a,q,t,e,o,v,b⟩:=X.runs c n d (by simpa using l) ∅ s;let⟨x,y⟩:=X.ex a q m (c a q e ∅) e r;have g:=(X.tr a q e).2;rw[o]at g;cases g;have f:LeT (wlk h r1 r2 (q++[m])) (wlk h r1 r2 (d++[m])):=by rw[h8,h8];exact b.bth
  exact⟨f.good x,y.le ∅ f⟩
theorem Qv.min(X:Qv h r1 r2 C L T Y P i j)(b:P[i]?=some p):Min h r1 r2 (p.length+1):=λR k l=>(X.runs (N:=p.length) (λk q e z=>by
 rcases Nat.lt_or_ge k i with y|y
 .exact y
 .have:=X.mo i k p q b e y;omega) _ R rfl ∅ k).1
theorem Qv.done(X:Qv h r1 r2 C L T Y P i j)(b:T.length≤i){R:List Mv}(k:RunK h R):bad (wlk h r1 r2 R)=false/\CvD T P R.length (wlk h r1 r2 R):=X.runs (N:=R.length) (λk q e _=>by
 have:=(AD.mp e).1;have:=X.lt;omega) _ R rfl (aab _) k
theorem Qv.next(X:Qv h r1 r2 C L T Y P i (mvs h).length):Qv h r1 r2 C L T Y P (i+1) 0:={X with
 ex:=λk p m hk e d=>by
  by_cases z:k<i
  .exact X.ex k p m z e d
  .have:k=i:=by omega
   subst this;let⟨n,c⟩:=adC d;exact X.ej n p m (AD.mp c).1 e c
 ej:=λ_ _ _ z=>(by cases z)
 dp:=λk p q f g=>by
  have l:i<P.length:=by have:=(AD.mp f).1;omega
  have b:=lD l;have:=X.dp k _ q b g;have:=X.mo i (i+1) _ p b f ∅;omega}
theorem Qv.old(X:Qv h r1 r2 C L T Y P i j)(f:P[i]?=some p)(o:(mvs h)[j]?=some m)(b:bad (wlk h r1 r2 (p++[m]))=false)(c:Cv L (wlk h r1 r2 (p++[m]))):Qv h r1 r2 C L T Y P i (j+1):={X with
 ej:=λk r q hk e d=>by
  by_cases z:k<j
  .exact X.ej k r q z e d
  .have:k=j:=by omega
   subst this;rw[f]at e;rw[o]at d
   cases e;cases d
   let⟨x,s,a⟩:=c;let⟨l,g⟩:=adC (X.dl x s);have n:l<P.length:=by rw[<-X.lt];exact(AD.mp g).1
   exact⟨b,l,_,_,lD n,g,X.dp l p _ f (lD n),a⟩}
theorem di{l:List α}{x y:α}{k:Nat}(e:(l++[x])[k]?=some y):l[k]?=some y\/(k=l.length/\y=x):=by
 rw[List.getElem?_append]at e
 split at e
 .exact .inl e
 .have hk:=(AD.mp e).1;simp at hk;have:k=l.length:=by omega
  subst this;simp at e;exact .inr ⟨rfl,e.symm⟩
def qU{l:List α}{x:α}:(l++[x])[l.length]?=some x:=by simp
theorem Qv.new(X:Qv h r1 r2 C L T Y P i j)(O:h.Ok)(E:r1.Ok h)(A:r2.Ok h)(n1:r1≠.turns)(n2:r2≠.turns)(f:P[i]?=some p)(G:(mvs h)[j]?=some m)(r:u=wlk h r1 r2 (p++[m]))(b:bad u=false)(H:u.2.2<(lkL (u.1,u.2.1) L).getD (u.2.2+1)):Qv h r1 r2 C (setL (u.1,u.2.1) u.2.2 L) (T++[u]) (Y++[some (i,m)]) (P++[p++[m]]) i (j+1):=by
 have J:=LD G;let⟨kp,N⟩:=X.tr i p f;have kr:=kp.snoc J;have y:=l8 O E A n1 n2 (zh (r1:=r1) (r2:=r2) kr);have K:=Fm (h:=h) (r1:=r1) (r2:=r2) (p++[m]);rw[<-r]at y K;have I:=Uq b;have S:u.2.2≤(L.length:Int)+1:=by
  rw[r,h8];exact adg RH (Int.add_le_add_right (X.vt _ (LD N)) 1)
 have U:=X.dk.len;let⟨D,pt,q,le⟩:=X.dk.put (M:=nP h) (a:=(u.1,u.2.1)) y.1 y.2 K I ∅ H;have Q:u.2.2≤((setL (u.1,u.2.1) u.2.2 L).length:Int):=by
  by_cases e:(setL (u.1,u.2.1) u.2.2 L).length=L.length
  .obtain⟨w,hw,vw⟩:=q e;have:=X.vt _ (X.dl _ hw);dsimp only at this;omega
  .omega
 have R:i<P.length:=(AD.mp f).1;exact {
  dk:=D
  lt:=by rw[aao,aao,X.lt];rfl
  ly:=by rw[aao,aao,X.ly];rfl
  tr:=λk q e=>by
   rcases di e with e|⟨rfl,rfl⟩
   .exact(X.tr k q e).imp id dj
   .exact⟨kr,by rw[<-X.lt,<-r];exact qU⟩
  wy:=λk q e=>by
   rcases di e with e|⟨rfl,rfl⟩
   .rcases X.wy k q e with⟨z1,z2⟩|⟨a,o,n,z1,z2,z3,z4⟩
    .exact .inl ⟨z1,dj z2⟩
    .exact .inr ⟨a,o,n,z1,dj z2,z3,dj z4⟩
   .exact .inr ⟨i,m,p,R,dj f,rfl,by rw[<-X.ly];exact qU⟩
  mo:=λk l q n d c B=>by
   rcases di d with d|⟨rfl,rfl⟩
   .rcases di c with c|⟨rfl,rfl⟩
    .exact X.mo k l q n d c B
    .have:=X.dp k p q f d;rw[aao];exact this
   .rcases di c with c|⟨rfl,rfl⟩
    .have:=(AD.mp c).1;omega
    .exact aab _
  cv:=λt g=>by
   rcases aaV.mp g with z|z
   .exact(X.cv t z).set X.dk H
   .rw[aad.mp z];exact⟨_,qo L,.refl _⟩
  dl:=λx v=>by
   rcases h7 v with rfl|v
   .exact aaQ _ aah
   .exact ab0 _ (X.dl x v)
  gd:=λt g=>by
   rcases aaV.mp g with z|z
   .exact X.gd t z
   .rw[aad.mp z];exact b
  p0:=dj X.p0
  vt:=λt g=>by
   rcases aaV.mp g with z|z
   .have:=X.vt t z;omega
   .rw[aad.mp z];exact Q
  pt:=by rw[aao,agw];have:=X.pt;omega
  ex:=λk q o hk e s=>by
   rcases di e with e|⟨rfl,rfl⟩
   .exact(X.ex k q o hk e s).imp id .snoc
   .omega
  ej:=λk q o hk e F=>by
   rcases di e with e|⟨z,rfl⟩
   .by_cases z:k<j
    .exact(X.ej k q o z e F).imp id .snoc
    .have:k=j:=by omega
     subst this;rw[f]at e;rw[G]at F
     cases e;cases F
     rw[<-r];exact⟨b,P.length,p++[m],u,qU,by rw[<-X.lt];exact qU,'a',.refl _⟩
   .omega
  dp:=λk q n d c=>by
   rcases di d with d|⟨z,rfl⟩
   .rw[f]at d;cases d;rcases di c with c|⟨rfl,rfl⟩
    .exact X.dp k p n f c
    .simp
   .omega}
theorem Qv.dep(X:Qv h r1 r2 C L T Y P i j):∀(k:Nat) (p:List Mv),P[k]?=some p->p.length≤k:=λk=>by
 induction k using Nat.strongRecOn with
 |ind k c=>
  intro p e;rcases X.wy k p e with⟨rfl,_⟩|⟨a,m,q,l,b,rfl,_⟩
  .exact abJ _
  .have:=c a l q b;rw[aao];simp only[agw];omega
theorem Qv.nvr(X:Qv h r1 r2 C L T Y P i j)(E:T.length≤i){Z:List Tr}(v:Z.Perm (ldT L)):Nvr h r1 r2 Z:=by
 have f:∀{t:Tr},t∈Z->∃x∈L,t=(x.1.1,x.1.2,x.2):=λ{t} g=>by
  let⟨x,d,e⟩:=aar.mp (v.mem_iff.mp g);exact⟨x,d,e.symm⟩
 have n:∀{x:Pk×Int},x∈L->(x.1.1,x.1.2,x.2)∈Z:=λ{x} d=>v.mem_iff.mpr (aar.mpr ⟨x,d,rfl⟩);refine⟨?_,λt g=>?_,λt g m z=>?_⟩
 .obtain⟨x,d,b⟩:=X.cv (stT h) (LD (X.tr 0 [] X.p0).2);have D:=X.dk.nn x d;have G:x.2≤0:=b.d;have:(x.1.1,x.1.2,x.2)=(zer h,zer h,(0:Int)):=agy b.x (agy b.y (show x.2=0 by omega));rw[<-this];exact n d
 .obtain⟨x,d,rfl⟩:=f g;exact X.gd _ (X.dl x d)
 .obtain⟨x,d,rfl⟩:=f g;let⟨k,o⟩:=adC (X.dl x d);have hk:=(AD.mp o).1;have s:=lD (show k<P.length by rw[<-X.lt];exact hk);have r:=(X.tr k _ s).2;rw[o]at r;have:=(X.ex k _ m ∅ s z).2;rw[h8,<-aaA r]at this;let⟨l,q,B,F,w,_,b⟩:=this;let⟨y,A,c⟩:=X.cv B (LD w);exact⟨_,n A,c.x.trans b.x,c.y.trans b.y,adg c.d b.d⟩
end
section
variable {h:Hall}{a b c:Rule}
def pth(h:Hall)(r:Rule)(q:List Nat×Int)(m:Mv):List Nat×Int:=((kst h r q.1 m).1,q.2+aw (kst h r q.1 m).2)
def pR(h:Hall)(r:Rule)(R:List Mv):List Nat×Int:=R.foldl (pth h r) (zer h,0)
theorem Vv(R:List Mv):wlk h a b R=((pR h a R).1,(pR h b R).1,(pR h b R).2-(pR h a R).2):=by
 have go:∀(R:List Mv) (p q:List Nat×Int),R.foldl (bth h a b) (p.1,q.1,q.2-p.2)=((R.foldl (pth h a) p).1,(R.foldl (pth h b) q).1,(R.foldl (pth h b) q).2-(R.foldl (pth h a) p).2):=λR=>by
  induction R with
  |nil=>exact λp q=>rfl
  |cons m R i=>
   intro p q;have:=i (pth h a p m) (pth h b q m);show R.foldl (bth h a b) (bth h a b (p.1,q.1,q.2-p.2) m)=_;rw[show bth h a b (p.1,q.1,q.2-p.2) m=((pth h a p m).1,(pth h b q m).1,(pth h b q m).2-(pth h a p m).2)from agy rfl (agy rfl (by show q.2-p.2+aw (kst h b q.1 m).2-aw (kst h a p.1 m).2=q.2+aw (kst h b q.1 m).2-(p.2+aw (kst h a p.1 m).2);omega))];exact this
 exact go R (zer h,0) (zer h,0)
theorem FH(R:List Mv):bad (wlk h a b R)=false↔(pR h a R).2≤(pR h b R).2/\(((pR h a R).1.sum:Nat):Int)+(pR h a R).2≤(((pR h b R).1.sum:Nat):Int)+(pR h b R).2:=by
 rw[Vv];unfold bad;simp only[acP,decide_eq_false_iff_not];omega
def Sound.rfl':Sound h a a:=λR _=>(FH R).mpr ⟨agF _,agF _⟩
def Sound.trans'(x:Sound h a b)(y:Sound h b c):Sound h a c:=λR k=>by
 have p:=(FH R).mp (x R k);have q:=(FH R).mp (y R k);exact(FH R).mpr ⟨adg p.1 q.1,adg p.2 q.2⟩
end
open Classical in
noncomputable def wF (h:Hall) (f:Nat->Rule) (i j:Nat):Str:=if Sound h (f i) (f j)then "never" else "worse"
def X6:("worse" : Str) ≠ "never":=by ext K
theorem wF_iff{f:Nat->Rule}{i j:Nat}:wF h f i j = "never" ↔ Sound h (f i) (f j):=by
 unfold wF;split
 .exact⟨λ_=>‹_›,λ_=>rfl⟩
 .exact⟨λz=>(X6 z).elim,λz=>(‹¬_› z).elim⟩
def Xw{f:Nat->Rule}{i j:Nat}(n:¬Sound h (f i) (f j)):wF h f i j = "worse":=if_neg n
theorem v7{r s:Rule}(e:aaa r.d s.d=true):r=s:=by
 cases r<;>cases s<;>first
  |rfl
  |exact absurd e (by ext K)
  | (rename_i p q
     have b:(aaa (.str "told") (.str "told")&&(aaa (lnD p) (lnD q)&&true))=true:=e;rw[gu]at b;simp only[aco,aaG,decide_eq_true_eq]at b;rw[b.2])
  |(simp[Rule.d,aaa]at e;done)
  |(exact absurd e (by simp[Rule.d,aaa,afL]))
def kJ(r:Rule):Shp 2 r.d:=by
 have w:∀w:Str,(aeC w).canLay0=true->Shp 1 (.str w):=λw e=>⟨e,by show 0≤1;decide⟩
 cases r<;>refine aV (k:=1) λd hd=>?_
 case told p=>
  obtain rfl|hd:=aag.mp hd
  .exact w _ (by ext K)
  .rw[aad.mp hd];exact aV (bJ _)
 all_goals
  rw[aad.mp hd];exact w _ (by ext K)
end K
namespace L2
open PySem PySem.Spec PySem.W PyProof.Rows
def Bp:WO:=λr1 r _ K=>∃b c,r1 = .imm (.bool b)/\r = .imm (.bool c)/\K (.imm (.bool (b != c)))
def yM{X:Cx}:OpR X (aaW .IsNot) (rM X.kx Bp):=by
 intro p s a H x y v u Q I e r ⟨l,m,o,k,i,r1,n,K,R,d,g,h,f⟩;let⟨b,c,rfl,rfl,h⟩:=h;have ex:=Jc (show Den X.kx i (.bool b) x from d);have j:=Jc (show Den X.kx H (.bool c) y from g);subst ex j
 cases e;cases r
 have fn:=f _ (.bl (b != c)) H h R (jJ _) (Frm.refl _ _);have run:wpAny (model X.prog X.w) X.A (aaW .IsNot (.bool b) (.bool c)) (EP X p a Q) X.xe s:=Ld (bv I fn (by cases b<;>cases c<;>rfl));exact run
def Fe{m:MSt}{b c:Bool}{K:R->Prop}(h:K (.imm (.bool (b != c)))):Bp (.imm (.bool b)) (.imm (.bool c)) m K:=⟨b,c,rfl,rfl,h⟩
end L2
namespace K
open PySem L2
variable{Kr:L2.R->Prop}{r:Rule}{l os:List Nat}{h:Hall}{j:Nat}{F:Nat->Nat->Str}
local macro_rules | `(tactic| walk_at"1") => `(tactic| first
 |((with_reducible refine' Re ?xe ?_);(case xe=>rfl))|(with_reducible first        |apply x_h0|apply x_h1|apply x_h2|apply Vg|apply SU|apply x_lt|apply x_le|apply x_gt|apply x_ge     |apply XU|apply x_neI|apply VB|apply Xr )|((with_reducible refine' x_nd ?xe ?_);(case xe=>first|rfl|assumption))  |(with_reducible first   |apply x_ts)
 |((with_reducible refine' bc ?xe ?_);(case xe=>rfl))|((with_reducible refine' gG ?xf ?xe ?_);(case xf=>rfl);(case xe=>rfl))|((with_reducible refine' AK ?xe ?_);(case xe=>rfl))|((with_reducible refine' qx ?xe ?_);(case xe=>rfl))
 |((with_reducible refine' Ki ?xe ?_);(case xe=>omega))|((with_reducible refine' Ul ?xe ?_);(case xe=>exact cfd (by omega) (by omega)))|((with_reducible refine' PC ?xe ?_);(case xe=>exact Xi (by omega)))|((with_reducible refine' Wm ?xe ?_);(case xe=>exact⟨by decide,by decide,by decide⟩))
 |(with_reducible first  |apply mx|apply x_bindO    )|((with_reducible refine' x_put ?xe ?xf ?_);(case xe=>rfl);(case xf=>rfl))
 |with_reducible apply Ub|((with_reducible refine' Yd ?xe ?xf ?_);(case xe=>rfl);(case xf=>decide))
 |((with_reducible refine' VX ?xe ?xf ?_);(case xe=>rfl);(case xf=>exact of_decide_eq_true rfl))|(with_reducible first       |apply QK|apply K8|apply vY|apply x_bindA)|((with_reducible refine' R8 ?xa ?xb ?xc ?xd ?xe ?_);(case xa=>rfl);(case xb=>rfl);(case xc=>rfl);(case xd=>rfl);(case xe=>rfl))|((with_reducible refine' x_dgotN ?xa ?xb ?xc ?xd ?xe ?_);(case xa=>rfl);(case xb=>rfl);(case xc=>rfl);(case xd=>rfl);(case xe=>rfl))|((with_reducible refine' LM ?xa ?xb ?xc ?xd ?xe ?xf ?_);(case xa=>rfl);(case xb=>rfl);(case xc=>rfl);(case xd=>rfl);(case xe=>exact of_decide_eq_true rfl);(case xf=>rfl))|((with_reducible refine' zn ?xa ?xb ?xc ?xd ?_);(case xa=>rfl);(case xb=>rfl);(case xc=>exact of_decide_eq_true rfl);(case xd=>rfl))
 |((with_reducible refine' x_agsX ?xe ?xf ?_);(case xe=>rfl);(case xf=>decide))  |((with_reducible refine' x_rz ?xe ?_);(case xe=>exact of_decide_eq_true rfl))
 |((with_reducible refine' Aa ?xa ?xb ?_);(case xa=>rfl);(case xb=>decide))|(with_reducible first    |apply WQ|apply VO|apply Ye|apply WD|apply Wq    )|((with_reducible refine' UE ?xa ?xb ?xc ?xd ?xe ?_);(case xa=>rfl);(case xb=>rfl);(case xc=>rfl);(case xd=>rfl);(case xe=>rfl))|((with_reducible refine' uO ?xa ?xb ?xc ?xd ?xe ?_);(case xa=>rfl);(case xb=>rfl);(case xc=>rfl);(case xd=>rfl);(case xe=>rfl))  |((with_reducible refine' U8 ?xa ?xb ?xc ?_);(case xa=>rfl);(case xb=>rfl);(case xc=>rfl))  |((with_reducible refine' Iq ?xa ?_);(case xa=>rfl))  |((with_reducible refine' x_onPairsT ?xa ?xb ?xc ?_);(case xa=>rfl);(case xb=>rfl);(case xc=>exact of_decide_eq_true rfl))
 |(with_reducible first  |apply Wg     |apply Ue|apply SV)|((with_reducible refine' x_lenO ?xe ?_);(case xe=>rfl))|(with_reducible first|apply UI  |apply XR    )|((with_reducible refine' x_ls ?xe ?_);(case xe=>rfl))
 |(with_reducible first|apply VJ|apply x_isB|apply DQ  |apply zq  |apply QZ)
 |((with_reducible refine' NH ?xe ?_);(case xe=>rfl))|with_reducible apply UT|((with_reducible refine' x_list ?xe ?_);(case xe=>rfl))|((with_reducible refine' OX ?xe ?_);(case xe=>rfl))|(with_reducible first       |apply RF|apply U6)|((with_reducible refine' Tx ?xe ?_);(case xe=>rfl))|(with_reducible first        |apply jg)|with_reducible apply jf)
local macro_rules | `(tactic| walk_at"s") => `(tactic| ((repeat walk_at"1"); try (with_reducible conv => whnf)))
local macro_rules | `(tactic| walk_at"n") => `(tactic| first | dsimp only [mapR, cC, List.set, MSt.setV, MSt.setN, List.take, List.length, List.append, oy, yq, Nat.reduceAdd, List.getD_cons_succ, List.getD_cons_zero, List.nil_append, List.cons_append, setT, lfD] | dsimp only [mapR, cC, List.set, MSt.setV, MSt.setN, List.take, List.length, List.append, oy, yq, Nat.reduceAdd, List.getD_cons_succ, List.getD_cons_zero, List.nil_append, List.cons_append] | skip)
local macro_rules | `(tactic| walk_at "sc") => `(tactic| exact ⟨rfl, rfl, rfl, by decide +kernel, rfl, by decide +kernel, by decide +kernel⟩)
local macro_rules | `(tactic| walk_at"x") => `(tactic| (walk_at"n"; walk_at"s"))
local macro_rules | `(tactic| walk_at "a") => `(tactic| (refine ba (λz=>absurd z (by decide +kernel)) (λ_=>?_);walk_at"s";refine ba (λz=>absurd z (by decide +kernel)) (λ_=>?_);walk_at"s"))
local macro_rules | `(tactic| walk_at "b") => `(tactic| (rw[if_neg (by decide)];walk_at"s"))
local macro_rules | `(tactic| walk_at "c") => `(tactic| (refine ba (λz=>absurd z (by decide +kernel)) (λ_=>?_);walk_at"s";refine ba (λ_=>?_) (λz=>(z rfl).elim);walk_at"s"))
local macro_rules | `(tactic| walk_at "d") => `(tactic| (dsimp only[Srv.d];walk_at"s"))
local macro_rules | `(tactic| walk_at "e") => `(tactic| (walk_at"s";rw[if_pos (by decide +kernel)];walk_at"s"))
def top(i:Nat):Stmt:=PySem.Challenge.pw_shorterline_k59_whole_never_goes_on.main.body.getD i (.Pass ⟨0,0,0,0⟩)
abbrev lH:Stmt:=top 4
abbrev df:Stmt:=top 5
abbrev gw:Stmt:=top 6
abbrev qM:Stmt:=top 8
abbrev lm:Stmt:=top 10
abbrev mn:Stmt:=top 11
abbrev dI:Stmt:=top 12
abbrev dG:Stmt:=top 14
abbrev qG:Stmt:=top 15
abbrev dM:Stmt:=top 16
abbrev p6:Stmt:=top 17
abbrev gi:Stmt:=top 19
abbrev fU:Stmt:=top 20
abbrev fm:Stmt:=top 21
abbrev jx:Stmt:=top 22
abbrev pF:Stmt:=top 23
abbrev ql:Stmt:=top 24
abbrev iJ:Stmt:=top 25
abbrev p7:Stmt:=top 26
abbrev gq:Stmt:=top 27
abbrev qy:Stmt:=top 28
abbrev md:Stmt:=top 29
abbrev iQ:Stmt:=top 31
abbrev qc:Stmt:=top 32
abbrev jX:Stmt:=top 33
abbrev dN:Stmt:=top 34
abbrev fV:Stmt:=top 35
abbrev fC:Stmt:=top 36
abbrev jW:Stmt:=top 37
abbrev e9:Stmt:=top 38
abbrev mh:Stmt:=top 39
abbrev gF:Stmt:=top 40
abbrev dQ:Stmt:=top 41
abbrev iR:Stmt:=top 42
abbrev bt:Stmt:=(iI (top 44)).getD 1 (.Pass ⟨0,0,0,0⟩)
abbrev aI:Stmt:=(iI (top 44)).getD 2 (.Pass ⟨0,0,0,0⟩)
abbrev cW:Stmt:=(iI (top 44)).getD 3 (.Pass ⟨0,0,0,0⟩)
abbrev cb:Stmt:=(iI (top 44)).getD 4 (.Pass ⟨0,0,0,0⟩)
abbrev bz:Stmt:=(iI (top 44)).getD 5 (.Pass ⟨0,0,0,0⟩)
abbrev b7:Stmt:=(iI (top 44)).getD 6 (.Pass ⟨0,0,0,0⟩)
abbrev bT:Stmt:=(iI (top 44)).getD 0 (.Pass ⟨0,0,0,0⟩)
abbrev gC:Stmt:=top 45
abbrev jR:Stmt:=top 47
abbrev jM:Stmt:=top 48
abbrev jV:Stmt:=top 49
abbrev cF:Stmt:=top 51
abbrev ci:Stmt:=top 50
abbrev fg:Stmt:=top 52
abbrev gN:Stmt:=top 53
abbrev ll:Stmt:=top 54
abbrev jr:Stmt:=top 55
abbrev gI:Stmt:=top 56
abbrev jZ:Stmt:=top 58
abbrev gy:Stmt:=top 59
abbrev ga:Stmt:=top 60
abbrev iE:Stmt:=top 61
abbrev slaw:Stmt:=top 62
structure Bl(K:aae)(mg:Str->Option Ad):Prop where
 len:mg "len" = none
 abs:mg "abs" = none
 range:mg "range" = none
 list:mg "list" = none
 tuple:mg "tuple" = none
 int:mg "int" = none
 sum:mg "sum" = none
 max:mg "max" = none
 min:mg "min" = none
 isinstance:mg "isinstance" = none
 bool:mg "bool" = none
 sorted:mg "sorted" = none
 zip:mg "zip" = none
 enumerate:mg "enumerate" = none
 repr:mg "repr" = none
 f_Search_hall:InsF K "Search" "hall"
 f_Search_rules:InsF K "Search" "rules"
 f_Search_moves:InsF K "Search" "moves"
 f_Search_steps:InsF K "Search" "steps"
 f_Search_leads:InsF K "Search" "leads"
 f_Search_triples:InsF K "Search" "triples"
 f_Search_ways:InsF K "Search" "ways"
def yF:ak ["thing"] ["thing"] (ab lH):=by ext sc
def jI:ak ["thing","least","most"] ["thing","least","most"] (ab df):=by ext sc
def qw:ak ["thing","many"] ["thing","many"] (ab gw):=by ext sc
def zF:ak ["one","other"] ["one","other"] (ab qM):=by ext sc
def jY:ak ["hall","servers","server"] ["hall"] (ab lm):=by ext sc
def ig:ak ["hall","thing","servers","many","server"] ["hall","thing"] (ab mn):=by ext sc
def ca:ak ["hall","lines","place","many","server"] ["hall","lines"] (ab dI):=by ext sc
def cn:ak ["lines","order","best","line"] ["lines","order"] (ab dG):=by ext sc
def lq:ak ["hall","lines","line","top","bottom"] ["hall","lines","line"] (ab qG):=by ext sc
def bO:ak ["hall","lines","order","best","least","line","wait"] ["hall","lines","order"] (ab dM):=by ext sc
def jd:ak ["hall","rule","stand","order","lines","turn","word"] ["hall","rule","stand","order"] (ab p6):=by ext sc
def qL:ak ["hall"] ["hall"] (ab gi):=by ext sc
def c9:ak ["hall","many","orders","place"] ["hall"] (ab fU):=by ext sc
def lj:ak ["hall","dones"] ["hall"] (ab fm):=by ext sc
def u9:ak ["lines","line","more"] ["lines","line","more"] (ab jx):=by ext sc
def Bq:ak ["hall","lines","line"] ["hall","lines","line"] (ab pF):=by ext sc
def Ai:ak ["lines","line"] ["lines","line"] (ab ql):=by ext sc
def r8:ak ["hall","lines"] ["hall","lines"] (ab iJ):=by ext sc
def jn:ak ["hall","lines","shift"] ["hall","lines"] (ab p7):=by ext sc
def qp:ak ["hall","rule","turn"] ["hall","rule","turn"] (ab gq):=by ext sc
def DF:ak ["hall","rule","stand","move"] ["hall","rule","stand","move"] (ab qy):=by ext sc
def cc:ak ["hall","rule","stand","move","lines","turn","word","line"] ["hall","rule","stand","move"] (ab md):=by ext sc
def ub:ak ["hall","lines"] ["hall","lines"] (ab iQ):=by ext sc
def zo:ak ["hall","thing"] ["hall","thing"] (ab qc):=by ext sc
def u4:ak ["hall","thing"] ["hall","thing"] (ab jX):=by ext sc
def fZ:ak ["hall","thing","triple"] ["hall","thing"] (ab dN):=by ext sc
def oz:ak ["one","other"] ["one","other"] (ab fV):=by ext sc
def iw:ak ["hall","void"] ["hall"] (ab fC):=by ext sc
def iC:ak ["hall","rule","lines","move","stand","word"] ["hall","rule","lines","move"] (ab jW):=by ext sc
def bG:ak ["one_step","other_step","lead","x","one_away","y","other_away"] ["one_step","other_step","lead"] (ab e9):=by ext sc
def gJ:ak ["triple","x","y","lead"] ["triple"] (ab mh):=by ext sc
def cG:ak ["paper","leads","x","y","lead"] ["paper"] (ab gF):=by ext sc
def br:ak ["hall","one","other","leads","triple","x","y","lead","move","behind","pair"] ["hall","one","other","leads","triple"] (ab dQ):=by ext sc
def ef:ak ["hall","one","other","thing","leads","number","triple"] ["hall","one","other","thing"] (ab iR):=by ext sc
def fj:ak ["self","side","lines","rule"] ["self","side","lines"] (ab bt):=by ext sc
def aP:ak ["self","triple","x","y","lead","one_steps","other_steps"] ["self","triple"] (ab aI):=by ext sc
def d7:ak ["self","triple","ahead","move","x","y","lead"] ["self","triple","ahead","move"] (ab cW):=by ext sc
def cP:ak ["self","at","moves","move"] ["self","at"] (ab cb):=by ext sc
def bq:ak ["self","at","behind","move","triple"] ["self"] (ab bz):=by ext sc
def ox:ak ["self"] ["self"] (ab b7):=by ext sc
def jF:ak ["self","hall","one","other"] ["self","hall","one","other"] (ab bT):=by ext sc
def fX:ak ["hall","one","other","search","run"] ["hall","one","other"] (ab gC):=by ext sc
def vD:ak ["_law_script"] ["_law_script"] (ab jR):=by ext sc
def cA:ak ["_law_tape_here","_law_many","_law_found","_law_turn","_law_cell","_law_mixed"] ["_law_tape_here","_law_many"] (ab jM):=by ext sc
def iU:ak ["_law_top","_law_bottom","_law_one","_law_other"] ["_law_top","_law_bottom"] (ab jV):=by ext sc
def bU:ak ["_law_rooms","_law_found","_law_room","_law_longer","_law_lines"] ["_law_rooms"] (ab cF):=by ext sc
def b6:ak ["_law_tape_here","_law_most","_law_many","_law_servers","_law_come","_law_whole","_law_speeds"] ["_law_tape_here","_law_most"] (ab ci):=by ext sc
def iG:ak ["_law_tape_here","_law_hall_here","_law_way","_law_count"] ["_law_tape_here","_law_hall_here"] (ab fg):=by ext sc
def bZ:ak ["_law_hall_here","_law_rule_here","_law_lines","_law_order","_law_rooms","_law_found","_law_rest","_law_k","_law_one","_law_other","_law_mine","_law_theirs"] ["_law_hall_here","_law_rule_here","_law_lines","_law_order"] (ab gN):=by ext sc
def yI:ak ["_law_lines","_law_k","_law_more"] ["_law_lines","_law_k","_law_more"] (ab ll):=by ext sc
def b8:ak ["_law_hall_here","_law_rule_here","_law_lines","_law_move","_law_word","_law_k","_law_longest","_law_void"] ["_law_hall_here","_law_rule_here","_law_lines","_law_move"] (ab jr):=by ext sc
def nr:ak ["_law_hall_here","_law_lines","_law_alike"] ["_law_hall_here","_law_lines"] (ab gI):=by ext sc
def dJ:ak ["_law_hall_here","_law_one","_law_other","_law_triple","_law_move","_law_x","_law_first","_law_y","_law_second"] ["_law_hall_here","_law_one","_law_other","_law_triple","_law_move"] (ab jZ):=by ext sc
def qe:ak ["_law_triple"] ["_law_triple"] (ab gy):=by ext sc
def dh:ak ["_law_hall_here","_law_one","_law_other","_law_run","_law_triple","_law_move"] ["_law_hall_here","_law_one","_law_other","_law_run"] (ab ga):=by ext sc
def c6:ak ["_law_hall_here","_law_rules","_law_words_here","_law_i","_law_j","_law_told"] ["_law_hall_here","_law_rules"] (ab iE):=by ext sc
def qj:ak ["_law_script","_law_tape_here","_law_k","_law_hall_here","_law_rules","_law_words_here","_law_i","_law_j","_law_third"] ["_law_script"] (ab slaw):=by ext sc
def ku:∀(kV d pm:Ad) (an:Option Addr) (c ct:Ad) (us:List Ad),us.length=(["self","side","lines"]:List Str).length->adQ (abo "steps_of" "Search.steps_of" (ck bt) (bA bt) (ab bt) .none kV d pm an c ct) ⟨us,[]⟩=pure ((["self","side","lines"]:List Str).zip us):=λ_ _ _ _ _ _ us a=>match us,a with|[_,_,_],_=>rfl
def f8:∀(kV d pm:Ad) (an:Option Addr) (c ct:Ad) (us:List Ad),us.length=(["self","triple"]:List Str).length->adQ (abo "triples_behind" "Search.triples_behind" (ck aI) (bA aI) (ab aI) .none kV d pm an c ct) ⟨us,[]⟩=pure ((["self","triple"]:List Str).zip us):=λ_ _ _ _ _ _ us a=>match us,a with|[_,_],_=>rfl
def va:∀(kV d pm:Ad) (an:Option Addr) (c ct:Ad) (us:List Ad),us.length=(["self","triple","ahead","move"]:List Str).length->adQ (abo "met" "Search.met" (ck cW) (bA cW) (ab cW) .none kV d pm an c ct) ⟨us,[]⟩=pure ((["self","triple","ahead","move"]:List Str).zip us):=λ_ _ _ _ _ _ us a=>match us,a with|[_,_,_,_],_=>rfl
def n9:∀(kV d pm:Ad) (an:Option Addr) (c ct:Ad) (us:List Ad),us.length=(["self","at"]:List Str).length->adQ (abo "run_to" "Search.run_to" (ck cb) (bA cb) (ab cb) .none kV d pm an c ct) ⟨us,[]⟩=pure ((["self","at"]:List Str).zip us):=λ_ _ _ _ _ _ us a=>match us,a with|[_,_],_=>rfl
def jB:∀(kV d pm:Ad) (an:Option Addr) (c ct:Ad) (us:List Ad),us.length=(["self"]:List Str).length->adQ (abo "worse_run" "Search.worse_run" (ck bz) (bA bz) (ab bz) .none kV d pm an c ct) ⟨us,[]⟩=pure ((["self"]:List Str).zip us):=λ_ _ _ _ _ _ us a=>match us,a with|[_],_=>rfl
def qE:∀(kV d pm:Ad) (an:Option Addr) (c ct:Ad) (us:List Ad),us.length=(["self"]:List Str).length->adQ (abo "paper" "Search.paper" (ck b7) (bA b7) (ab b7) .none kV d pm an c ct) ⟨us,[]⟩=pure ((["self"]:List Str).zip us):=λ_ _ _ _ _ _ us a=>match us,a with|[_],_=>rfl
def ki:∀(kV d pm:Ad) (an:Option Addr) (c ct:Ad) (us:List Ad),us.length=(["self","hall","one","other"]:List Str).length->adQ (abo "__init__" "Search.__init__" (ck bT) (bA bT) (ab bT) .none kV d pm an c ct) ⟨us,[]⟩=pure ((["self","hall","one","other"]:List Str).zip us):=λ_ _ _ _ _ _ us a=>match us,a with|[_,_,_,_],_=>rfl
def JP:SpM:=λa K=>∃h:Hall,a=[.imm h.d]/\h.Ok/\K (.imm (.bool (alk h))) []
def nh:SpM:=λa K=>∃(h:Hall) (l:List Nat),a=[.imm h.d,.imm (lnD l)]/\h.Ok/\l.length≤4/\K (.imm (lnD (cU h l))) []
def uW:SpM:=λa K=>∃h:Hall,a=[.imm h.d]/\h.Ok/\K (.new ((mvs h).map Mv.d)) []
def prD'(P:List Tr):aD:=.tuple (P.map trD)
def CG:SpM:=λb K=>∃r1 a:Rule,b=[.imm r1.d,.imm a.d]/\r1≠.turns/\a≠.turns/\K (.imm .none) []
def B8:SpM:=λa K=>∃h:Hall,a=[.imm h.d]/\h.Ok/\K (.imm (trD (zer h,zer h,0))) []
def ksD(p:List Nat×Wd):aD:=.tuple [lnD p.1,.bool (decide (p.2 = .away))]
def JZ:SpM:=λa K=>∃(h:Hall) (r:Rule) (l:List Nat) (m:Mv),a=[.imm h.d,.imm r.d,.imm (lnD l),.imm m.d]/\h.Ok/\r.Ok h/\r≠.turns/\Lines h l/\m.Ok h/\K (.imm (ksD (kst h r l m))) []
def OG:SpM:=λa K=>∃(p q:List Nat×Wd) (d:Int),a=[.imm (ksD p),.imm (ksD q),.imm (.int d)]/\K (.imm (trD (p.1,q.1,d+aw q.2-aw p.2))) []
def CW:SpM:=λa K=>∃t:Tr,a=[.imm (trD t)]/\K (.imm (.bool (decide (((t.2.1.sum:Nat):Int)+t.2.2<((t.1.sum:Nat):Int))))) []
theorem qr{d x:aD}{tl:List aD}{m:MSt}(e:d = .tuple (x::tl))(h:Kr (.imm x)):mI (.imm d) (.imm (.int 0)) m Kr:=by
 subst e;exact bc (bf (j:=0) rfl) h
def JW(r:Rule):∃tl,r.d = .tuple (.str r.word::tl):=by cases r<;>exact⟨_,rfl⟩
theorem CI(h:r≠.turns):decide (r.word = "turns")=false:=by
 cases r with
 |turns=>exact(h rfl).elim
 |told p=>exact(show decide (("told" : Str) = "turns")=false by ext K)
 |random=>ext K
 |two=>ext K
 |least=>ext K
 |quick=>ext K
def O9{m:MSt}{k:Nat}{a b:List aD}(e:m.os[k]?=some b)(c:a.length+b.length≤aak)(h:Kr (.new (a++b))):oAdd (.new a) (.obj k) m Kr:=⟨a,b,rfl,e,c,h⟩
def IC(w:Wd):decide (w.s = "away")=decide (w = .away):=by cases w<;>ext K
def Vq(h:Hall):(mvs h).map Mv.d=(ordK h.ss.length h.ss.length).map (λo=>(Mv.come o).d)++(aaz h.ss.length).map (λk=>(Mv.done k).d)++[.tuple [.str "still"]]:=by
 unfold mvs;rw[aaM,aaM,aba,aba];rfl
def zU:SpM:=λa K=>∃t:Tr,a=[.imm (trD t)]/\K (.imm (.bool (bad t))) []
def Cj:SpM:=λa K=>∃(h:Hall) (r:Rule) (l:List Nat) (o:List Nat),a=[.imm h.d,.imm r.d,.imm (lnD l),.imm (lnD o)]/\h.Ok/\r.Ok h/\r≠.turns/\Lines h l/\Ord h.ss.length o/\K (.imm (.int (sent h r l 0 o:Nat))) []
def Jh:SpM:=λa K=>∃(h:Hall) (r:Rule) (l:List Nat) (m:Mv),a=[.imm h.d,.imm r.d,.imm (lnD l),.imm m.d]/\h.Ok/\r.Ok h/\r≠.turns/\Lines h l/\m.Ok h/\K (.imm (lwD ((km h r l 0 m).1,(km h r l 0 m).2.2))) []
def JA:SpM:=λb K=>∃(h:Hall) (r1 a:Rule) (t:Tr) (m:Mv),b=[.imm h.d,.imm r1.d,.imm a.d,.imm (trD t),.imm m.d]/\h.Ok/\r1.Ok h/\a.Ok h/\r1≠.turns/\a≠.turns/\Lines h t.1/\Lines h t.2.1/\m.Ok h/\K (.imm (trD (bth h r1 a t m))) []
def Rk:Rule->Prop
 | .two=>True
 | .least=>True
 | .quick=>True
 |_=>False
def rsO(r:Rule)(os:List Nat):List Nat:=match r with
 | .two=>os.take 1
 |_=>os
def ltO(h:Hall)(l:List Nat)(r:Rule):Nat->Nat->Bool:=match r with
 | .quick=>cz h l
 |_=>cq l
def zH{x:Nat}(h:x∈rsO r os):x∈os:=by
 cases r<;>first|exact h|exact ab4 h
theorem Vx{o:Nat}(a:Rk r):sent h r l 0 (o::os)=M7.pick (ltO h l r) o (rsO r os):=by
 cases r with
 |two=>exact M7.pick_self (lt:=cq l) (k:=o) (ks:=os.take 1) (by unfold cq;simp)
 |least=>exact M7.pick_self (lt:=cq l) (k:=o) (ks:=os) (by unfold cq;simp)
 |quick=>exact M7.pick_self (lt:=cz h l) (k:=o) (ks:=os) (by unfold cz;simp)
 |random=>exact a.elim
 |turns=>exact a.elim
 |told _=>exact a.elim
theorem wf{lt:Nat->Nat->Bool}{n:Nat}:∀{ks:List Nat}{b:Nat},b<n->(∀k∈ks,k<n)->M7.pick lt b ks<n
 |[],b,hb,_=>hb
 |k::ks,b,hb,h=>by
  show M7.pick lt (if lt k b then k else b) ks<n;refine wf ?_ λz a=>h z (aaf _ a);split
  .exact h k aah
  .exact hb
def OH{k:Nat}{ds:List aD}{g:WG}{w:WS}{D:de}{m1:MSt}(P:Nat->MSt->Prop)(p0:P 0 (m1.setN (max m1.np (k+1))))(ok:∀i m,P i m->m.os[k]?=some ds)(step:∀(i:Nat) (d:aD) (m:MSt),ds[i]?=some d->m.np=max m1.np (k+1)->P i m->∀b:de,(∀a,P (i+1) a->b.nx a)->(∀r a,D.rt r (a.setN m1.np)->b.rt r a)->g d m λm2=>w b m2)(f:∀m,m.np=max m1.np (k+1)->P ds.length m->D.nx (m.setN m1.np)):mX ⟨ds,some (k,ds)⟩ g w D m1:=qf P p0 ok (λi d m e n p=>step i d m e n p _ (λ_ z=>z) λ_ _ z=>z) f
def JD(t:Tr):Shp 2 (trD t):=aV λd hd=>by
 obtain rfl|hd:=aag.mp hd
 .exact aV (bJ _)
 .obtain rfl|hd:=aag.mp hd
  .exact aV (bJ _)
  .rw[aad.mp hd];exact(cr _).mono ⋯
def xh:SpM:=λb K=>∃(t:aD) (c mo:Nat),b=[.tr t,.imm (.int (mo:Int))]/\TapeK c t/\c<800000000/\2≤mo/\∀(h:Hall) (a:aD),h.Ok->(M3.allR h.rs).length≤mo->TapeK (c+20) a->K (.imm h.d) [[a]]
theorem SvK.tail{p:Nat×Nat}{ps:List (Nat×Nat)}{mo:Nat}(h:SvK (p::ps))(c:∀r∈bm (p::ps),r≤1)(f:2≤mo)(d:mo<(M3.allR (bm (p::ps))).length):SvK ps/\(bm (jH ps)).sum<(bm (p::ps)).sum:=by
 rw[M7.allR_cnt]at d;have b:=BW c;have l:(bm (p::ps)).length=ps.length+1:=by simp[bm]
 have i:=h.2.2 p aah;have e:=h.2.1;rw[aat]at e;refine⟨⟨?_,∅,λq a=>h.2.2 q (aaf _ a)⟩,?_⟩
 .cases ps with
  |nil=>rw[l]at b;simp at b;omega
  |cons q ps=>simp
 .have:=(nH (ps:=ps) λq a=>(h.2.2 q (aaf _ a)).2.2.1).1;have g:(bm (p::ps)).sum=p.2+(bm ps).sum:=by simp[bm]
  omega
def Ay:SpM:=λb K=>∃(t:aD) (c:Nat) (h:Hall),b=[.tr t,.imm h.d]/\TapeK c t/\c<800000000/\h.Ok/\∀(r:Rule) (a:aD),r.Ok h->r≠.turns->TapeK (c+3000) a->K (.imm r.d) [[a]]
theorem zM(a:h.Ok):1≤(mvs h).length/\(mvs h).length≤1000:=by
 have n1:=a.n1;have n4:=a.n4;unfold mvs;rw[aao,aao,iO,iO,aa7];generalize h.ss.length=n at *;have:(ordK n n).length≤24:=by
  rcases (show n=1\/n=2\/n=3\/n=4 by omega)with rfl|rfl|rfl|rfl<;>decide
 simp;omega
def wyD:Wy->aD
 |none=>.tuple [.int (-1),.none]
 |some (a,m)=>.tuple [.int (a:Int),m.d]
def rl(r1 r2:Rule)(s:Nat):Rule:=if s=0 then r1 else r2
abbrev Ck:=Nat×List Nat
def skD(p:Ck):aD:=.tuple [.int (p.1:Int),lnD p.2]
def stv(h:Hall)(r1 r2:Rule)(p:Ck):List aD:=(mvs h).map λm=>ksD (kst h (rl r1 r2 p.1) p.2 m)
def jK(h:Hall)(r1 r2:Rule)(C:List Ck):List (aD×aD):=C.map λp=>(skD p,.list (stv h r1 r2 p))
structure CaOk(h:Hall)(C:List Ck):Prop where
 nd:C.Nodup
 ok:∀p∈C,p.1<2/\Lines h p.2
theorem CaOk.len{C:List Ck}(X:CaOk h C):C.length≤2*(M3.allR h.rs).length:=by
 have:=l9 X.nd (m:=(M3.allR h.rs).map (λl=>(0,l))++(M3.allR h.rs).map (λl=>(1,l))) λp a=>by
  let⟨b,q⟩:=X.ok p a;have m:=kZ q.fits;rcases (show p.1=0\/p.1=1 by omega)with e|e
  .exact ab0 _ (aar.mpr ⟨p.2,m,by rw[<-e]⟩)
  .exact aaQ _ (aar.mpr ⟨p.2,m,by rw[<-e]⟩)
 rw[aao,iO,iO]at this;omega
def JR(p q:Ck):aaa (skD p) (skD q)=decide (p=q):=by
 show(aaa (.int _) (.int _)&&(aaa (lnD p.2) (lnD q.2)&&true))=_;rw[gu,aco,cB,abE];simp[ahm]
theorem st_look{h:Hall}{r1 r2:Rule}{p:Ck}:∀{C:List Ck},cE (skD p) (jK h r1 r2 C)=if p∈C then some (.list (stv h r1 r2 p))else none
 |[]=>rfl
 | q::C=>by
  show(if aaa (skD q) (skD p)=true then some (aed (stv h r1 r2 q))else cE (skD p) (jK h r1 r2 C))=_;rw[JR]
  by_cases e:q=p
  .rw[if_pos (decide_eq_true e),if_pos (by rw[e];exact aah),e]
  .rw[if_neg (by rw[decide_eq_false e];exact aan),st_look]
   by_cases c:p∈C
   .rw[if_pos c,if_pos (aaf _ c)]
   .rw[if_neg c,if_neg λz=>(aag.mp z).elim (λz=>e z.symm) c]
theorem Jy{h:Hall}{r1 r2:Rule}{p:Ck}:∀{C:List Ck},p∉C->putP (skD p) (.list (stv h r1 r2 p)) (jK h r1 r2 C)=jK h r1 r2 (C++[p])
 |[],_=>rfl
 |q::C,n=>by
  let⟨n1,n2⟩:=not_or.mp λw=>n (aag.mpr w);show(if aaa (skD q) (skD p)=true then _ else _::putP (skD p) _ (jK h r1 r2 C))=_;rw[JR,if_neg (by rw[decide_eq_false λe=>n1 e.symm];exact aan),Jy n2];rfl
theorem Mi{h:Hall}{s:Nat}:kyD (skD (s,l))=true:=by
 have n:∀l:List Nat,hkA (natD l)=true:=λl=>by
  induction l with
  |nil=>rfl
  |cons x l i=>show(hkD _&&hkA (natD l))=true;rw[i];rfl
 have q:=aV (k:=1) (ds:=[.int (s:Int),lnD l]) λd hd=>by
  rcases aag.mp hd with e|e
  .rw[e];exact(cr _).mono ⋯
  .rw[aad.mp e];exact aV (bJ _)
 have hk:hkD (skD (s,l))=true:=by
  show(true&&(hkD (lnD l)&&true))=true;rw[show hkD (lnD l)=true from n l];rfl
 unfold kyD;rw[hk,show(skD (s,l)).canLay0=true from q.cl,decide_eq_true (show(skD (s,l)).depth≤7 from aaw q.dp ⋯)];rfl
def Oy{r1 r2:Rule}(C:List Ck):kyA (jK h r1 r2 C)=true:=by
 unfold kyA jK;rw[aeq,abM];exact λp _=>Mi (h:=h)
theorem CC{kvs:List (aD×aD)}(h:kyA kvs=true):iX (.dict (lfKV kvs))=none:=by
 cases kvs with
 |nil=>rfl
 |cons q kvs=>
  let⟨k,d⟩:=q;rw[kyA,ab7,aaG]at h;let⟨ds,rfl,_⟩:=iu h.1;rfl
def scQ(h:Hall)(r1 r2:Rule)(C:List Ck)(L:List (Pk×Int))(T:List Tr)(Y:List Wy):aD:=insT "Search" [("hall",h.d),("rules",.tuple [r1.d,r2.d]),("moves",.dict [(.none,.list ((mvs h).map Mv.d))]),("steps",.dict (lfKV (jK h r1 r2 C))),("leads",.dict (lfKV (ldD L))),("triples",.list (T.map trD)),("ways",.list (Y.map wyD))]
theorem mN(T:List Tr):da (T.map trD)=some (T.map trD):=by
 induction T with
 |nil=>rfl
 |cons x l i=>show(match iX (trD x),da (l.map trD)with|some d,some ds=>some (d::ds)|_,_=>none)=_;rw[i];rfl
def Dw(y:Wy):iX (wyD y)=some (wyD y):=by rcases y with _|⟨a,m⟩<;>rfl
theorem uk(Y:List Wy):da (Y.map wyD)=some (Y.map wyD):=by
 induction Y with
 |nil=>rfl
 |cons x l i=>show(match iX (wyD x),da (l.map wyD)with|some d,some ds=>some (d::ds)|_,_=>none)=_;rw[i,Dw];rfl
def W6(T:List Tr):(T.map trD).map lfD=T.map trD:=by
 rw[aba];exact acz λx _=>rfl
def XZ(Y:List Wy):(Y.map wyD).map lfD=Y.map wyD:=by
 rw[aba];exact acz λy _=>by rcases y with _|⟨a,m⟩<;>rfl
structure GoodR(h:Hall)(r1 r2:Rule):Prop where
 o:h.Ok
 k1:r1.Ok h
 k2:r2.Ok h
 n1:r1≠.turns
 n2:r2≠.turns
theorem GoodR.rl{r1 r2:Rule}(G:GoodR h r1 r2)(s:Nat):(rl r1 r2 s).Ok h/\rl r1 r2 s≠.turns:=by
 unfold K.rl;split
 .exact⟨G.k1,G.n1⟩
 .exact⟨G.k2,G.n2⟩
def t5:SpM:=λc K=>∃(h:Hall) (r1 a:Rule) (C:List Ck) (L:List (Pk×Int)) (T:List Tr) (Y:List Wy) (s:Nat) (l:List Nat),c=[.tr (scQ h r1 a C L T Y),.imm (.int (s:Int)),.imm (lnD l)]/\GoodR h r1 a/\(M3.allR h.rs).length≤400/\CaOk h C/\s<2/\Lines h l/\∀b,CaOk h b->K (.imm (.list (stv h r1 a (s,l)))) [[scQ h r1 a b L T Y]]
def JS:SpM:=λc K=>∃(h:Hall) (r1 a:Rule) (C:List Ck) (L:List (Pk×Int)) (T:List Tr) (Y:List Wy) (t:Tr),c=[.tr (scQ h r1 a C L T Y),.imm (trD t)]/\GoodR h r1 a/\(M3.allR h.rs).length≤400/\CaOk h C/\Lines h t.1/\Lines h t.2.1/\∀b,CaOk h b->K (.new ((mvs h).map λm=>trD (bth h r1 a t m))) [[scQ h r1 a b L T Y]]
def Oj:SpM:=λc K=>∃(h:Hall) (r1 b:Rule) (C:List Ck) (L:List (Pk×Int)) (T:List Tr) (Y:List Wy) (t:Tr) (y:Wy) (a:Int) (d:aD),c=[.tr (scQ h r1 b C L T Y),.imm (trD t),.imm (.int a),.imm d]/\wyD y = .tuple [.int a,d]/\h.Ok/\(∀p∈L,Lines h p.1.1/\Lines h p.1.2)/\Lines h t.1/\Lines h t.2.1/\L.length≤200000/\T.length≤200000/\Y.length≤200000/\(t.2.2<(lkL (t.1,t.2.1) L).getD (t.2.2+1)->K (.imm .none) [[scQ h r1 b C (setL (t.1,t.2.1) t.2.2 L) (T++[t]) (Y++[y])]])/\(∀w,lkL (t.1,t.2.1) L=some w->w≤t.2.2->K (.imm .none) [[scQ h r1 b C L T Y]])
structure WyOk(Y:List Wy)(P:List (List Mv)):Prop where
 ly:Y.length=P.length
 wy:∀(k:Nat) (p:List Mv),P[k]?=some p->(p=[]/\Y[k]?=some none)\/∃(a:Nat) (m:Mv) (q:List Mv),a<k/\P[a]?=some q/\p=q++[m]/\Y[k]?=some (some (a,m))
def Cp:SpM:=λb K=>∃(h:Hall) (r1 a:Rule) (C:List Ck) (L:List (Pk×Int)) (T:List Tr) (Y:List Wy) (P:List (List Mv)) (i:Nat) (p:List Mv),b=[.tr (scQ h r1 a C L T Y),.imm (.int (i:Int))]/\WyOk Y P/\Y.length≤200000/\P[i]?=some p/\K (.imm (.tuple (p.map Mv.d))) [[scQ h r1 a C L T Y]]
def BV:SpM:=λb K=>∃(h:Hall) (r1 a:Rule),b=[.tr (scQ h r1 a [] [((zer h,zer h),0)] [stT h] [none])]/\GoodR h r1 a/\(M3.allR h.rs).length≤400/\nP h*(nP h+2)≤190000/\(∀(R:List Mv) (C:List Ck) (L:List (Pk×Int)) (T:List Tr) (Y:List Wy),RunK h R->bad (wlk h r1 a R)=true->Min h r1 a R.length->R.length≤200000->K (.imm (.tuple (R.map Mv.d))) [[scQ h r1 a C L T Y]])/\(∀(C:List Ck) (L:List (Pk×Int)) (T:List Tr) (Y:List Wy),Sound h r1 a->DkOk h L->(∀Z:List Tr,Z.Perm (ldT L)->Nvr h r1 a Z/\∀t∈Z,TrOk h t)->K (.imm .none) [[scQ h r1 a C L T Y]])
def yV:SpM:=λb K=>∃(h:Hall) (r1 a:Rule) (C:List Ck) (L:List (Pk×Int)) (T:List Tr) (Y:List Wy),b=[.tr (scQ h r1 a C L T Y)]/\h.Ok/\DkOk h L/\L.length<100000/\∀Z:List Tr,Z.Perm (ldT L)->K (.imm (prD' Z)) [[scQ h r1 a C L T Y]]
def AU:SpI:=λds K=>∃(h:Hall) (r1 a:Rule),ds=[h.d,r1.d,a.d]/\h.Ok/\K (scQ h r1 a [] [((zer h,zer h),0)] [stT h] [none])
def DE:SpM:=λb K=>∃(h:Hall) (r1 a:Rule),b=[.imm h.d,.imm r1.d,.imm a.d]/\GoodR h r1 a/\(M3.allR h.rs).length≤400/\nP h*(nP h+2)≤190000/\(∀R:List Mv,RunK h R->bad (wlk h r1 a R)=true->Min h r1 a R.length->R.length≤200000->K (.imm (.tuple [.str "worse",.tuple (R.map Mv.d)])) [])/\(∀Z:List Tr,Sound h r1 a->Nvr h r1 a Z->(∀t∈Z,TrOk h t)->Z.length≤100000->K (.imm (.tuple [.str "never",prD' Z])) [])
section
variable {h:Hall}{r1 r2:Rule}{C:List Ck}{L:List (Pk×Int)}{T:List Tr}{Y:List Wy}{m:MSt}{k:Nat}{P:L2.R->Prop}
def qR(e:m.os[k]?=some [scQ h r1 r2 C L T Y])(ky:kyA (ldD L)=true)(a:P (.at k [5])):fGot m "Search" k [] "leads" P:=uO e rfl rfl rfl (CC ky) a
def u7(e:m.os[k]?=some [scQ h r1 r2 C L T Y])(a:P (.at k [4])):fGot m "Search" k [] "steps" P:=uO e rfl rfl rfl (CC (Oy (h:=h) C)) a
end
def xO{k:Nat}{p:List Nat}(y:Wy):f7 k p j (wyD y) = .imm (wyD y):=by unfold f7;rw[Dw]
def zO{a:Type}{l:List a}{f:a->aD}{x:a}(e:l[j]?=some x):ixN (l.map f).length (j:Int)=some j/\(l.map f)[j]?=some (f x):=⟨Qe (by rw[iO];exact(AD.mp e).1),by rw[aaj,e];rfl⟩
theorem qH:∀{a b:List Nat},a.length=b.length->smDs (natD a) (natD b)=true
 |[],[],_=>rfl
 |x::a,y::b,e=>by
  show(true&&smDs (natD a) (natD b))=true;rw[qH (by simpa using e)];rfl
theorem BU{k β:Type}{f:k->β}{z l:List β}(p:z.Perm l):∀{m:List k},z=m.map f->∃g:List k,g.Perm m/\l=g.map f:=by
 induction p with
 |nil=>intro m e;exact⟨m,.refl _,e⟩
 | cons a p o=>
  intro m e
  cases m with
  |nil=>cases e
  |cons b m=>
   injection e with d c
   let⟨g,t,s⟩:=o c;exact⟨b::g,t.cons b,by rw[aam,d,s]⟩
 | swap a b l=>
  intro m e
  cases m with
  |nil=>cases e
  | cons x m=>
   cases m with
   |nil=>cases e
   |cons y m=>
    injection e with d c
    injection c with c e3
    exact⟨y::x::m,.swap _ _ _,by rw[aam,aam,d,c,e3]⟩
 |trans v w i n=>
  intro m e;let⟨m1,q,d⟩:=i e;let⟨m2,u,c⟩:=n d;exact⟨m2,u.trans q,c⟩
def itL(q:Pk×Int):aD:=.tuple [pkD q.1,.int q.2]
def Jb(L:List (Pk×Int)):gc (ldD L)=L.map itL:=by unfold gc ldD;rw[aba];rfl
def Qp{L:List (Pk×Int)}(D:DkOk h L)(n:L.length<100000):SrtT (gc (ldD L)):=by
 rw[Jb];refine⟨⟨by rw[iO];exact n,λx c y f=>?_,λx c=>?_,λx c=>?_⟩,trivial⟩
 .obtain⟨a,ha,rfl⟩:=aar.mp c;let⟨b,e,rfl⟩:∃b,b∈L/\itL b=y:=aar.mp f;show((smDs (natD a.1.1) (natD b.1.1)&&(smDs (natD a.1.2) (natD b.1.2)&&true))&&(true&&true))=true;rw[qH ((D.ln a ha).1.1.trans (D.ln b e).1.1.symm),qH ((D.ln a ha).2.1.trans (D.ln b e).2.1.symm)];rfl
 .obtain⟨a,ha,rfl⟩:=aar.mp c;rfl
 .obtain⟨a,ha,rfl⟩:=aar.mp c;exact aaw (aV (k:=2) (ds:=[pkD a.1,.int a.2]) λd hd=>by
   obtain rfl|hd:=aag.mp hd
   .exact aV λd hd=>by
     obtain rfl|hd:=aag.mp hd
     .exact aV (bJ _)
     .rw[aad.mp hd];exact aV (bJ _)
   .rw[aad.mp hd];exact(cr _).mono ⋯).dp ⋯
theorem Qy{P:List Tr}{t:Tr}:((P.map trD).any λy=>aaa y (trD t))=decide (t∈P):=by
 rw[abE,aeH,decide_eq_true_iff];constructor
 .rintro⟨d,hd,e⟩;let⟨u,b,a⟩:=aar.mp hd;rw[<-a,JH]at e;rw[<-of_decide_eq_true e];exact b
 .intro h;exact⟨_,aar.mpr ⟨t,h,rfl⟩,by rw[JH];exact decide_eq_true rfl⟩
theorem wG(a:Pk)(v:Int):∀L:List (Pk×Int),(setL a v L).length≤L.length+1
 |[]=>aab _
 |q::L=>by
  unfold setL;split
  .simp
  .have:=wG a v L;simp only[aat];omega
theorem Jx{a b:Pk}{v:Int}:∀L:List (Pk×Int),lkL b (setL a v L)=if b=a then some v else lkL b L
 |[]=>by
  show(if a=b then some v else none)=_
  by_cases e:b=a
  .rw[if_pos e,if_pos e.symm]
  .rw[if_neg e,if_neg λz=>e z.symm];rfl
 | q::L=>by
  have i:=Jx (a:=a) (b:=b) (v:=v) L;unfold setL
  by_cases c:q.1=a
  .rw[if_pos c];show(if q.1=b then some v else lkL b L)=if b=a then some v else(if q.1=b then some q.2 else lkL b L);rw[c]
   by_cases e:b=a
   .rw[if_pos e,if_pos e.symm]
   .rw[if_neg e,if_neg λz=>e z.symm,if_neg λz=>e z.symm]
  .rw[if_neg c];show(if q.1=b then some q.2 else lkL b (setL a v L))=if b=a then some v else(if q.1=b then some q.2 else lkL b L);rw[i]
   by_cases e:b=a
   .rw[if_pos e,if_pos e,if_neg λz=>c (z.trans e)]
   .rw[if_neg e,if_neg e]
def Bu:SpM:=λa K=>∃(b:Nat) (d:aD),a=[.imm d]/\Gd b d/\K (.imm (.bool (isWh d))) []
def Tj:SpM:=λc K=>∃(z:Nat) (d:aD) (a b:Int),c=[.imm d,.imm (.int a),.imm (.int b)]/\Gd z d/\K (.imm (.bool (inW a b d))) []
def C6:SpM:=λa K=>∃(z:Nat) (d:aD) (n:Nat),a=[.imm d,.imm (.int (n:Int))]/\Gd z d/\K (.imm (.bool (tupN n d))) []
def zN:SpM:=λa K=>∃(z:Nat) (h:Hall) (d:aD),a=[.imm h.d,.imm d]/\h.Ok/\Gd z d/\K (.imm (.bool (u8 h d))) []
def wx:SpM:=λa K=>∃(h:Hall) (l:List Nat),a=[.imm h.d,.imm (lnD l)]/\h.Ok/\Lines h l/\cU h l=l/\K (.imm (.bool true)) []
def Cw:SpM:=λa K=>∃(h:Hall) (t:Tr),a=[.imm h.d,.imm (trD t)]/\h.Ok/\TrOk h t/\K (.imm (.bool true)) []
def AB:SpM:=λa K=>∃(h:Hall) (P:List Tr),a=[.imm h.d,.imm (prD' P)]/\h.Ok/\(∀t∈P,TrOk h t)/\K (.imm (.bool true)) []
theorem Nh(L:Lines h l):u8 h (lnD l)=true:=by
 refine vg (by rw[bg,Hall.rsl];exact L.1) λi r d a e=>?_;let⟨s,b,rfl⟩:∃s,h.ss[i]?=some s/\s.r=r:=by simpa[Hall.rs]using a
 let⟨x,ex,rfl⟩:∃x,l[i]?=some x/\abf (x:Int)=d:=by simpa[natD]using e
 have:=L.2 i s x b ex;show(decide ((0:Int)≤(x:Int))&&decide ((x:Int)≤(s.r:Int)))=true;simp;omega
theorem Ak(a:h.Ok)(L:Lines h l):Gd 6 (lnD l):=by
 show GdA 6 (natD l);rw[uJ];intro d hd;let⟨x,b,rfl⟩:=aar.mp hd;have:=L.le a x b;show((x:Nat):Int).natAbs≤6;omega
theorem R9{t:Tr}(a:h.Ok)(X:TrOk h t):Gd (10^15) (trD t):=by
 have d0:=X.d0;have d1:=X.d1;show Gd _ (lnD t.1)/\Gd _ (lnD t.2.1)/\Gd _ (.int t.2.2)/\True;refine⟨(Ak a X.x).mono ⋯,(Ak a X.y).mono ⋯,?_,trivial⟩;show t.2.2.natAbs≤10^15;omega
def QC{z:Nat}{d:aD}(h:Gd z d):ndR (.imm d)=true:=by cases d<;>first|rfl|(simp only[Gd]at h)
structure LdOk(P:List Tr)(L:List (Pk×Int)):Prop where
 i:∀p∈L,(p.1.1,p.1.2,p.2)∈P
 n:L.length≤P.length
 a:∀t∈P,∃v,lkL (t.1,t.2.1) L=some v/\v≤t.2.2
def Cb:SpM:=λa K=>∃(h:Hall) (P:List Tr),a=[.imm (prD' P)]/\h.Ok/\(∀t∈P,TrOk h t)/\P.length≤100000/\∀L,LdOk P L->K (.imm (.dict (ldD L))) []
def JI:SpM:=λb K=>∃(h:Hall) (r1 a:Rule) (P:List Tr) (L:List (Pk×Int)) (t:Tr),b=[.imm h.d,.imm r1.d,.imm a.d,.imm (.dict (ldD L)),.imm (trD t)]/\GoodR h r1 a/\(∀t∈P,TrOk h t)/\LdOk P L/\TrOk h t/\(∀m∈mvs h,∃u∈P,u.1=(bth h r1 a t m).1/\u.2.1=(bth h r1 a t m).2.1/\u.2.2≤(bth h r1 a t m).2.2)/\K (.imm (.bool true)) []
def Bi:SpM:=λb K=>∃(h:Hall) (r1 a:Rule) (P:List Tr),b=[.imm h.d,.imm r1.d,.imm a.d,.imm (prD' P)]/\GoodR h r1 a/\Nvr h r1 a P/\(∀t∈P,TrOk h t)/\P.length≤100000/\K (.imm (.bool true)) []
def JY:SpM:=λb K=>∃(h:Hall) (r1 a:Rule) (R:List Mv),b=[.imm h.d,.imm r1.d,.imm a.d,.imm (.tuple (R.map Mv.d))]/\GoodR h r1 a/\RunK h R/\K (.imm (trD (wlk h r1 a R))) []
def wdK(f:Nat->Nat->Str)(n:Nat):List (aD×aD):=(aaz n).map λk=>(.tuple [.int ((k/3:Nat):Int),.int ((k%3:Nat):Int)],.str (f (k/3) (k%3)))
def BJ:SpM:=λa K=>∃(h:Hall) (f:Nat->Rule),a=[.imm h.d,.own [(f 0).d,(f 1).d,(f 2).d]]/\h.Ok/\(∀i,(f i).Ok h/\f i≠.turns)/\(M3.allR h.rs).length≤9/\K (.imm (.dict (wdK (wF h f) 9))) [[(f 0).d,(f 1).d,(f 2).d]]
theorem xP{n:Nat}(a:n≤9):kyA (wdK F n)=true:=by
 rcases (show n=0\/n=1\/n=2\/n=3\/n=4\/n=5\/n=6\/n=7\/n=8\/n=9 by omega)with rfl|rfl|rfl|rfl|rfl|rfl|rfl|rfl|rfl|rfl<;>rfl
theorem mi{i:Nat}(a:i<3)(b:j<3):putP (.tuple [.int (i:Int),.int (j:Int)]) (.str (F i j)) (wdK F (3*i+j))=wdK F (3*i+(j+1))/\cE (.tuple [.int (i:Int),.int (j:Int)]) (wdK F 9)=some (.str (F i j))/\kyD (.tuple [.int (i:Int),.int (j:Int)])=true:=by
 rcases (show i=0\/i=1\/i=2 by omega)with rfl|rfl|rfl<;>rcases (show j=0\/j=1\/j=2 by omega)with rfl|rfl|rfl<;>exact⟨rfl,rfl,rfl⟩
theorem rl3{f:Nat->Rule}{i:Nat}(a:i<3):atI [(f 0).d,(f 1).d,(f 2).d] (i:Int)=some (f i).d:=by
 rcases (show i=0\/i=1\/i=2 by omega)with rfl|rfl|rfl<;>rfl
section
variable {P:aaI}{w:World}{K:aae}{mg:Str->Option Ad}{base:aa1}
theorem yv(T:Bl K mg)(D:DefM K mg "is_whole" lH ["thing"]):FnM P w K mg base "is_whole" 1 1 Bu:=by
 refine aK D yF rfl (nN:=1) rfl ⋯ ?ar λc A outer s H E f g=>⟨_,(aa (af (k8 (qt (mv' 0) J9 T.isinstance T.int v5) (jA (PF (qt (mv' 0) EF T.isinstance T.bool Ot)))))),?_⟩
 case ar=>intro e b ⟨z,d,rfl,_⟩;rfl
 intro e b m ⟨z,d,rfl,hd,k⟩;have a:=QC hd;refine ai (MSt.mk [~~~d] [] 0) rfl ?_;ext s
 cases d with
 |int i=>rw[if_pos (show fInt (tyR (L2.R.imm (abf i)))=true from rfl)];ext s;exact k
 |bool i=>rw[if_pos (show fInt (tyR (L2.R.imm (PyData.bool i)))=true from rfl)];ext s;exact k
 |none=>rw[if_neg (show ¬fInt (tyR (L2.R.imm PyData.none))=true by ext K)];exact k
 |str x=>rw[if_neg (show ¬fInt (tyR (L2.R.imm (aeC x)))=true by show ¬fInt "str" = true;ext K)];exact k
 |list x=>rw[if_neg (show ¬fInt (tyR (L2.R.imm (aed x)))=true by show ¬fInt "list" = true;ext K)];exact k
 |tuple x=>rw[if_neg (show ¬fInt (tyR (L2.R.imm (abp x)))=true by show ¬fInt "tuple" = true;ext K)];exact k
 |dict x=>exact hd.elim
theorem js(T:Bl K mg)(D:DefM K mg "is_whole_within" df ["thing","least","most"])(G:FnM P w K mg base "is_whole" 1 1 Bu):FnM P w K mg base "is_whole_within" 2 3 Tj:=by
 refine aK D jI rfl (nN:=3) rfl ⋯ ?ar λc A outer s H E f g=>⟨_,(aa (af (k8 (mf' G g⁻¹ (mc' (mv' 0) mn')) (jA (BH Jv Jv (mv' 1) (mv' 0) (mv' 2)))))),?_⟩
 case ar=>intro m e ⟨z,d,a,b,rfl,_⟩;rfl
 intro m e n ⟨z,d,a,b,rfl,hd,k⟩;refine ai (MSt.mk [~~~d,~~~(.int a),~~~(.int b)] [] 0) rfl ?_;ext s;refine⟨z,d,rfl,hd,?_⟩;ext x
 cases d with
 |int i=>
  rw[if_pos (show isWh (abf i)=true from rfl)];ext s;refine ba (λh=>?_) (λh=>?_)
  .ext s;rw[show inW a b (.int i)=decide (i≤b) by simp[inW,h]]at k;exact k
  .rw[show inW a b (.int i)=false by simp[inW,h]]at k;exact k
 |bool i=>rw[if_neg (show ¬isWh (PyData.bool i)=true by simp[isWh])];exact k
 |none=>rw[if_neg (show ¬isWh PyData.none=true by simp[isWh])];exact k
 |str x=>rw[if_neg (show ¬isWh (aeC x)=true by simp[isWh])];exact k
 |list x=>rw[if_neg (show ¬isWh (aed x)=true by simp[isWh])];exact k
 |tuple x=>rw[if_neg (show ¬isWh (abp x)=true by simp[isWh])];exact k
 |dict x=>exact hd.elim
theorem qm(T:Bl K mg)(D:DefM K mg "is_tuple_of" gw ["thing","many"]):FnM P w K mg base "is_tuple_of" 1 2 C6:=by
 refine aK D qw rfl (nN:=2) rfl ⋯ ?ar λc A outer s H E f i=>⟨_,(aa (af (k8 (qt (mv' 0) tm T.isinstance T.tuple d3) (jA (cY (bh i.units) (aE bV 'b' T.len d9 (mc' (mv' 0) mn')) (mv' 1) (aA _)))))),?_⟩
 case ar=>intro m g ⟨z,d,n,rfl,_⟩;rfl
 intro m g o ⟨z,d,n,rfl,hd,k⟩;have b:=QC hd;refine ai (MSt.mk [~~~d,~~~(.int (n:Int))] [] 0) rfl ?_;ext s;have a:(tyR (L2.R.imm d) == "tuple")=F9 d:=by rw[QI]
 cases e:F9 d with
 |false=>
  rw[if_neg (show ¬(λn:String=>n == "tuple") (tyR (L2.R.imm d))=true by show ¬(tyR (L2.R.imm d) == "tuple")=true;rw[a,e];decide)];rw[NU e]at k;exact k
 | true=>
  rw[if_pos (show(λn:String=>n == "tuple") (tyR (L2.R.imm d))=true from a.trans e)]
  cases d with
  |tuple x=>
   ext s;rw[show tupN n (.tuple x)=decide ((x.length:Int)=(n:Int)) by unfold tupN;exact decide_eq_decide.mpr ∅]at k;exact k
  |_=>cases e
def Bc(T:Bl K mg)(D:DefM K mg "is_less" qM ["one","other"]):FnM P w K mg base "is_less" 1 2 Js:=by
 refine aK D zF rfl (nN:=2) rfl ⋯ ?ar λg A outer s H E f q=>⟨_,(aa (af (cY ir (ag bI (ae (mv' 0) mh') (ae (mv' 1) mh')) (ag bI (ae (mv' 1) mh') (ae (mv' 0) mh')) (aA _)))),?_⟩
 case ar=>intro m i ⟨a,b,c,d,rfl,_⟩;rfl
 intro m i t ⟨a,b,c,d,rfl,o,n,p,hd,k⟩;refine ai (MSt.mk [~~~(.tuple [.int a,.int b]),~~~(.tuple [.int c,.int d])] [] 0) rfl ?_;ext s;have e:decide ((a:Int)*(d:Int)<(c:Int)*(b:Int))=decide (a*d<c*b):=by
  rw[<-ad6,<-ad6];exact decide_eq_decide.mpr Int.ofNat_lt
 rw[e];exact k
theorem yo(T:Bl K mg)(D:DefM K mg "is_alike" lm ["hall"]):FnM P w K mg base "is_alike" 1 1 JP:=by
 refine aK D jY rfl (nN:=3) rfl ⋯ ?ar λC A outer s H E f I=>⟨_,(mz' (aB 1 jY.nd (ae (mv' 0) mh'))
   (mz' (b5 (bH (mv' 1)) (ah 2 jY.nd) (aa (aG (ap (t9 I.units) (mv' 2) (ae (mv' 1) mh') (aA _)) (aa (af c7)) am)) aaF)
   (aa (af c7)))),?_⟩
 case ar=>intro J G ⟨h,rfl,_⟩;rfl
 intro J G L ⟨h,rfl,B,k⟩;have n1:=B.n1;refine ai (MSt.mk [~~~(.tuple [.tuple [.int h.a,.int h.b],.tuple (h.ss.map Srv.d),.bool h.mv]),none,none] [] 0) rfl ?_;ext s;have p:∀d∈h.ss.map Srv.d,Shp 2 d:=λd hd=>by
  let⟨s,_,rfl⟩:=aar.mp hd;exact aV (k:=1) λd hd=>by
   simp at hd;rcases hd with rfl|rfl
   .exact aV (k:=0) λd hd=>by
     simp at hd;rcases hd with rfl|rfl<;>exact cr _
   .exact(cr _).mono ⋯
 have v:(h.ss.map Srv.d).length=h.ss.length:=iO ..;unfold alk at k;generalize h.ss.map Srv.d=ss at *;let⟨a,u,z⟩:=JN (xs:=ss) (i:=0) ⋯ ∅;have x:ss.getD 0 .none=a:=by rw[aas];have:ss[0]?=some a:=u;rw[this];rfl
 rw[x]at k;refine dB (λi m=>∃o,m=MSt.mk [~~~(.tuple [.tuple [.int h.a,.int h.b],.tuple ss,.bool h.mv]),~~~(.tuple ss),o] [] 0/\∀(j:Nat) s,j<i->ss[j]?=some s->aaa s a=true) ⟨none,rfl,λj s b=>by omega⟩ ?_ ?_
 .rintro i s m e n ⟨o,rfl,hp⟩;ext s;refine' bc (d:=a) ?ea ?_
  case ea=>exact z
  refine x_ne rfl rfl ((p s (LD e)).ok ⋯) ((p a (LD u)).ok ⋯) ?_;ext s
  cases q:aaa s a with
  |false=>
   refine jg ?_;ext s;have:(ss.all λs=>aaa s a)=false:=List.all_eq_false.mpr ⟨s,LD e,by rw[q];exact aan⟩;rw[this]at k;exact k
  |true=>
   refine jf ?_;ext s;refine⟨_,rfl,λj t b g=>?_⟩
   by_cases c:j=i
   .subst c;rw[e]at g;cases g;exact q
   .exact hp j t ∅ g
 .rintro m n ⟨o,rfl,hp⟩;ext s;have:(ss.all λs=>aaa s a)=true:=abM.mpr λs y=>by
   let⟨j,b,ej⟩:=ab3.mp y;exact hp j s b (by rw[lD b,ej])
  rw[this]at k;exact k
theorem yi(T:Bl K mg)(D:DefM K mg "is_lines" mn ["hall","thing"])(g:FnM P w K mg base "is_tuple_of" 1 2 C6)(G:FnM P w K mg base "is_whole_within" 2 3 Tj):FnM P w K mg base "is_lines" 3 2 zN:=by
 refine aK D ig rfl (nN:=5) rfl ⋯ ?ar λN A outer s H E f v=>⟨_,(mz' (aB 2 ig.nd (ae (mv' 0) mh'))
   (mz' (aG (cX (bX (mf' g v⁻¹ (mc' (mv' 1) (mc' (aE bV 'b' T.len d9 (mc' (mv' 2) mn')) mn'))))) (aa (af c7)) am)
   (mz' (b5 (pQ T.zip (mc' (mv' 1) (mc' (mv' 2) mn'))) (aY (n:=2) (ac (ah 3 ig.nd) (ac (ah 4 ig.nd) aF))) (aa (aG (cX (bX (mf' G v⁻¹ (mc' (mv' 3) (mc' mh' (mc' (ae (mv' 4) mh') mn')))))) (aa (af c7)) am)) aaF)
   (aa (af c7))))),?_⟩
 case ar=>intro M J ⟨z,h,d,rfl,_⟩;rfl
 intro M J U ⟨z,h,d,rfl,S,hd,k⟩;refine ai (MSt.mk [~~~h.d,~~~d,none,none,none] [] 0) rfl ?_;ext s;rw[iO];refine⟨z,d,h.ss.length,rfl,hd,?_⟩;ext x
 cases e:tupN h.ss.length d with
 |false=>
  rw[if_pos (c:=(!false)=true) rfl];ext s;rw[Ab h e]at k;exact k
 | true=>
  rw[if_neg (show ¬(!true)=true by decide)];let⟨ds,rfl,t⟩:=Xz e;have I:=gd_tup.mp hd;ext s;refine⟨true,_,true,_,rfl,rfl,?_⟩;refine dB (λi m=>∃a b,m=MSt.mk [~~~h.d,~~~(.tuple ds),~~~(.tuple (h.ss.map Srv.d)),a,b] [] 0/\∀(j r:Nat) (x:aD),j<i->h.rs[j]?=some r->ds[j]?=some x->inW 0 (r:Int) x=true) ⟨none,none,rfl,λj r x L=>by omega⟩ ?_ ?_
  .rintro i d m e n ⟨a,b,rfl,hall⟩;let⟨a1,b1,u,B,rfl⟩:=qY e;let⟨s,y,rfl,L⟩:=gmap B;ext d
   .rfl
   ext s;refine⟨z,a1,_,_,rfl,I a1 (LD u),?_⟩;ext x
   cases q:inW 0 (s.r:Int) a1 with
   | false=>
    rw[if_pos (c:=(!false)=true) rfl];ext s;rw[show u8 h (.tuple ds)=false by
     cases qq:u8 h (.tuple ds)with
     |false=>rfl
     |true=>rw[yW qq (Hall.rs_get y) u]at q;cases q]at k
    exact k
   | true=>
    rw[if_neg (show ¬(!true)=true by decide)];ext s;refine⟨_,_,rfl,λj r x C o ex=>?_⟩;rcases Nat.lt_or_ge j i with p|Q
    .exact hall j r x p o ex
    .have:j=i:=by omega
     subst this;rw[Hall.rs_get y]at o;rw[u]at ex
     cases o;cases ex;exact q
  .rintro m n ⟨a,b,rfl,hall⟩;ext s;rw[show u8 h (.tuple ds)=true from vg (by rw[h.rsl];exact t) λi r x o ex=>hall i r x (by
    have O:=(AD.mp o).1;have R:=(AD.mp ex).1;rw[h.rsl]at O;rw[cw,iO];omega) o ex]at k
   exact k
theorem kl(T:Bl K mg)(D:DefM K mg "place_of_lines" dI ["hall","lines"]):FnM P w K mg base "place_of_lines" 1 2 CQ:=by
 refine aK D ca rfl (nN:=5) rfl ⋯ ?ar λu A outer s H E f B=>⟨_,(mz' (aB 2 ca.nd mh')
   (mz' (b5 (pQ T.zip (mc' (mv' 1) (mc' (ae (mv' 0) mh') mn'))) (aY (n:=2) (ac (ah 3 ca.nd) (ac (ah 4 ca.nd) aF))) (aa (aB 2 ca.nd (ag aQ (ag bI (mv' 2) (ag aQ (ae (mv' 4) mh') mh')) (mv' 3)))) aaF)
   (aa (af (mv' 2))))),?_⟩
 case ar=>intro y v ⟨h,l,rfl,_⟩;rfl
 intro y v G ⟨h,l,rfl,t,p,k⟩;refine ai (MSt.mk [~~~h.d,~~~(.tuple (natD l)),none,none,none] [] 0) rfl ?_;ext s;refine⟨true,_,true,_,rfl,rfl,?_⟩;refine dB (λi m=>∃a b,m=MSt.mk [~~~h.d,~~~(.tuple (natD l)),~~~(.int (M7.placeF 0 (h.rs.take i) (l.take i):Nat)),a,b] [] 0) ⟨none,none,rfl⟩ ?_ ?_
 .rintro i d m e n ⟨a,b,rfl⟩;let⟨a1,b1,g,c,rfl⟩:=qY e;let⟨x,ex,rfl,z⟩:=gmap g;let⟨s,o,rfl,C⟩:=gmap c;have r6:=(t.ok s (LD o)).r6;rw[M7.placeF_take (Hall.rs_get o) ex];ext d
  .rfl
  ext s;generalize M7.placeF 0 (h.rs.take i) (l.take i)=P;have q:(P:Int)*((s.r:Int)+1)+(x:Int)=((P*(s.r+1)+x:Nat):Int):=by
   rw[aeZ,ad6,aeZ];rfl
  rw[q];exact⟨_,_,rfl⟩
 .rintro m n ⟨a,b,rfl⟩;have g:min (natD l).length (h.ss.map Srv.d).length=l.length:=by rw[bg,iO];have:=p.1;omega
  rw[cw,g];have c:h.rs.take l.length=h.rs:=by rw[p.1,<-h.rsl];exact aav
  rw[c,aav];ext s;exact k
theorem kz(T:Bl K mg)(D:DefM K mg "first_shortest" dG ["lines","order"]):FnM P w K mg base "first_shortest" 1 2 o6:=by
 refine aK D cn rfl (nN:=4) rfl ⋯ ?ar λt A outer s H E f B=>⟨_,(mz' (aB 2 cn.nd (ae (mv' 1) mh'))
   (mz' (b5 (bH (mv' 1)) (ah 3 cn.nd) (aa (aG (ap ir (ae (mv' 0) (mv' 3)) (ae (mv' 0) (mv' 2)) (aA _)) (aa (aB 2 cn.nd (mv' 3))) am)) aaF)
   (aa (af (mv' 2))))),?_⟩
 case ar=>intro x u ⟨l,o,rfl,_⟩;rfl
 intro x u C ⟨l,o,rfl,g,k⟩;let⟨c,os,rfl,y⟩:=g.cons;refine ai (MSt.mk [~~~(.tuple (natD l)),~~~(.tuple (natD (c::os))),none,none] [] 0) rfl ?_;ext s;refine bc (bf (j:=0) (bp rfl)) ?_;ext s;refine dB (λi m=>∃a,m=MSt.mk [~~~(.tuple (natD l)),~~~(.tuple (natD (c::os))),~~~(.int (M7.pick (cq l) c ((c::os).take i):Nat)),a] [] 0) ⟨none,rfl⟩ ?_ ?_
 .rintro i d m e n ⟨a,rfl⟩;let⟨j,ej,rfl,z⟩:=gmap e;have v:=g.lt j (LD ej);have p:M7.pick (cq l) c ((c::os).take i)<l.length:=m6 g i;have q:(c::os).take (i+1)=(c::os).take i++[j]:=by rw[aaU,ej];rfl
  rw[q,M7.pick_app];generalize M7.pick (cq l) c ((c::os).take i)=b at p;ext s;refine bc (bf (bp (getN rfl v))) ?_;ext s;refine bc (bf (bp (getN rfl p))) ?_;ext s;refine ba (λh=>?_) (λh=>?_)
  .ext s;rw[if_pos (show cq l j b=true from decide_eq_true ∅)];exact⟨_,rfl⟩
  .ext s;rw[if_neg (show ¬cq l j b=true by unfold cq;rw[decide_eq_true_eq];omega)];exact⟨_,rfl⟩
 .rintro m n ⟨a,rfl⟩;rw[bg,aav];ext s;exact k
theorem Dg(T:Bl K mg)(D:DefM K mg "wait_at" qG ["hall","lines","line"]):FnM P w K mg base "wait_at" 1 3 Jf:=by
 refine aK D lq rfl (nN:=5) rfl ⋯ ?ar λi A outer s H E f v=>⟨_,(mz' (cx (ae (ae (ae (mv' 0) mh') (mv' 2)) mh') (aY (n:=2) (ac (ah 3 lq.nd) (ac (ah 4 lq.nd) aF))))
   (aa (af (au (mc' (ag bI (ag aQ (ae (mv' 1) (mv' 2)) mh') (mv' 4)) (mc' (mv' 3) mn')))))),?_⟩
 case ar=>intro u m ⟨h,l,j,rfl,_⟩;rfl
 intro u m x ⟨h,l,j,rfl,b,t,a,k⟩;let⟨s,g,o,eb,q⟩:=h.srv a;have p:=b.ok s q;have b2:=p.b2;rw[o,eb]at k;have c:=getN t.1 a;refine ai (MSt.mk [~~~h.d,~~~(.tuple (natD l)),~~~(.int (j:Int)),none,none] [] 0) rfl ?_;ext s;refine bc (d:=s.d) (bf (by rw[aaj,g];rfl)) ?_;ext d
 .rfl
 ext s;refine bc (bf (bp c)) ?_;ext s;have e:(((l.getD j 0:Nat):Int)+1)*(s.b:Int)=(((l.getD j 0+1)*s.b:Nat):Int):=by
  rw[ad6,aeZ];rfl
 rw[e];exact k
theorem kB(T:Bl K mg)(D:DefM K mg "first_quickest" dM ["hall","lines","order"])(G:FnM P w K mg base "wait_at" 1 3 Jf)(g:FnM P w K mg base "is_less" 1 2 Js):FnM P w K mg base "first_quickest" 2 3 o8:=by
 refine aK D bO rfl (nN:=7) rfl ⋯ ?ar λQ A outer s H E f v=>⟨_,(mz' (aB 3 bO.nd (ae (mv' 2) mh'))
   (mz' (aB 4 bO.nd (mf' G v⁻¹ (mc' (mv' 0) (mc' (mv' 1) (mc' (mv' 3) mn')))))
   (mz' (b5 (bH (mv' 2)) (ah 5 bO.nd) (mz' (aB 6 bO.nd (mf' G v⁻¹ (mc' (mv' 0) (mc' (mv' 1) (mc' (mv' 5) mn')))))
   (aa (aG (bX (mf' g v⁻¹ (mc' (mv' 6) (mc' (mv' 4) mn')))) (aa (jU (i:=3) (j:=4) bO.nd rfl rfl ⋯ rfl rfl (mc' (mv' 5) (mc' (mv' 6) mn')) rfl)) am))) aaF)
   (aa (af (mv' 3)))))),?_⟩
 case ar=>intro O M ⟨h,l,o,rfl,_⟩;rfl
 intro O M W ⟨h,l,o,rfl,u,t,x,k⟩;let⟨c,os,rfl,C⟩:=x.cons;have z:∀j,j<h.ss.length->(l.getD j 0+1)*h.bn j<1000000000000/\h.an j<1000000000000:=λj p=>by
  let⟨s,V,N,eb,R⟩:=h.srv p;have B:=u.ok s R;have U:=t.le u _ (LD (getN t.1 p));rw[N,eb];have:=B.a2;have:(l.getD j 0+1)*s.b≤7*1000000:=acK ∅ (by have:=B.b2;omega);omega
 refine ai (MSt.mk [~~~h.d,~~~(.tuple (natD l)),~~~(.tuple (natD (c::os))),none,none,none,none] [] 0) rfl ?_;ext s;refine bc (bf (j:=0) (bp rfl)) ?_;ext s;refine⟨h,l,c,rfl,u,t,C,?_⟩;ext x;refine dB (λi m=>∃a b,m=MSt.mk [~~~h.d,~~~(.tuple (natD l)),~~~(.tuple (natD (c::os))),~~~(.int (M7.pick (cz h l) c ((c::os).take i):Nat)),~~~(frD ((l.getD (M7.pick (cz h l) c ((c::os).take i)) 0+1)*h.bn (M7.pick (cz h l) c ((c::os).take i)):Nat) (h.an (M7.pick (cz h l) c ((c::os).take i)):Nat)),a,b] [] 0) ⟨none,none,rfl⟩ ?_ ?_
 .rintro i d m e n ⟨a,b,rfl⟩;let⟨j,ej,rfl,S⟩:=gmap e;have p:=x.lt j (LD ej);have y:M7.pick (cz h l) c ((c::os).take i)<h.ss.length:=m6 x i;have J:(c::os).take (i+1)=(c::os).take i++[j]:=by rw[aaU,ej];rfl
  rw[J,M7.pick_app];generalize M7.pick (cz h l) c ((c::os).take i)=b at y;ext s;refine⟨h,l,j,rfl,u,t,p,?_⟩;ext x;let⟨b1,b2⟩:=z j p;let⟨I,L⟩:=z b y;refine⟨_,_,_,_,rfl,b1,b2,I,L,?_⟩;ext x;refine ba (λq=>?_) (λq=>?_)
  .ext s;rw[if_pos (show cz h l j b=true from decide_eq_true q)];exact⟨_,_,rfl⟩
  .ext s;rw[if_neg (show ¬cz h l j b=true by unfold cz;rw[decide_eq_true_eq];exact q)];exact⟨_,_,rfl⟩
 .rintro m n ⟨a,b,rfl⟩;rw[bg,aav];ext s;exact k
theorem Bw(T:Bl K mg)(D:DefM K mg "sent_to" p6 ["hall","rule","stand","order"])(G:FnM P w K mg base "first_shortest" 1 2 o6)(a:FnM P w K mg base "first_quickest" 2 3 o8)(b:FnM P w K mg base "place_of_lines" 1 2 CQ):FnM P w K mg base "sent_to" 3 4 vO:=by
 refine aK D jd rfl (nN:=7) rfl ⋯ ?ar λB A outer s H E f c=>⟨_,(mz' (cx (mv' 2) (aY (n:=2) (ac (ah 4 jd.nd) (ac (ah 5 jd.nd) aF))))
   (mz' (aB 6 jd.nd (ae (mv' 1) mh'))
   (mz' (aG (ap (bh c.units) (mv' 6) aq (aA _)) (aa (af (ae (mv' 3) mh'))) am)
   (mz' (aG (ap (bh c.units) (mv' 6) aq (aA _)) (aa (af (mv' 5))) am)
   (mz' (aG (ap (bh c.units) (mv' 6) aq (aA _)) (aa (af (mf' G c⁻¹ (mc' (mv' 4) (mc' (eF (cN fx (mv' 3) d8 (c5 mh'))) mn'))))) am)
   (mz' (aG (ap (bh c.units) (mv' 6) aq (aA _)) (aa (af (mf' G c⁻¹ (mc' (mv' 4) (mc' (mv' 3) mn'))))) am)
   (mz' (aG (ap (bh c.units) (mv' 6) aq (aA _)) (aa (af (mf' a c⁻¹ (mc' (mv' 0) (mc' (mv' 4) (mc' (mv' 3) mn')))))) am)
   (aa (af (ae (ae (mv' 1) mh') (mf' b c⁻¹ (mc' (mv' 0) (mc' (mv' 4) mn'))))))))))))),?_⟩
 case ar=>intro I C ⟨h,r,l,t,o,rfl,_⟩;rfl
 intro I C J ⟨h,r,l,t,o,rfl,v,m,i,g,k⟩;have p:=i.1;have d:Ord l.length o:=by rw[p];exact g
 cases r with
 |random=>
  refine ai (MSt.mk [~~~h.d,~~~(.tuple [.str "random"]),~~~(.tuple [lnD l,.int (t:Int)]),~~~(.tuple (natD o)),none,none,none] [] 0) rfl ?_;ext s
  .rfl
  ext s;refine ba (λ_=>?_) (λz=>(z rfl).elim);let⟨u,os,rfl,y⟩:=g.cons;ext s;refine bc (bf (j:=0) (bp rfl)) ?_;ext s;exact k
 |turns=>
  refine ai (MSt.mk [~~~h.d,~~~(.tuple [.str "turns"]),~~~(.tuple [lnD l,.int (t:Int)]),~~~(.tuple (natD o)),none,none,none] [] 0) rfl ?_;ext s
  .rfl
  ext s;ext c;exact k
 | two=>
  refine ai (MSt.mk [~~~h.d,~~~(.tuple [.str "two"]),~~~(.tuple [lnD l,.int (t:Int)]),~~~(.tuple (natD o)),none,none,none] [] 0) rfl ?_;ext s
  .rfl
  ext s;ext a;refine ba (λ_=>?_) (λz=>(z rfl).elim);ext s;have e:cutD (natD o) none (some 2)=natD (o.take 2):=by
   rw[show(2:Int)=((2:Nat):Int)from rfl,uX];simp[natD]
  rw[e];let⟨u,os,rfl,y⟩:=g.cons;refine⟨l,(u::os).take 2,rfl,⟨'a',λk hk=>d.lt k (ab4 hk),by rw[aaB];omega⟩,?_⟩;ext n;exact k
 |least=>
  refine ai (MSt.mk [~~~h.d,~~~(.tuple [.str "least"]),~~~(.tuple [lnD l,.int (t:Int)]),~~~(.tuple (natD o)),none,none,none] [] 0) rfl ?_;ext s
  .rfl
  ext s;ext a;ext c;refine⟨l,o,rfl,d,?_⟩;ext n;exact k
 |quick=>
  refine ai (MSt.mk [~~~h.d,~~~(.tuple [.str "quick"]),~~~(.tuple [lnD l,.int (t:Int)]),~~~(.tuple (natD o)),none,none,none] [] 0) rfl ?_;ext s
  .rfl
  ext s;ext a;ext a;refine ba (λ_=>?_) (λz=>(z rfl).elim);ext s;refine⟨h,l,o,rfl,v,i,g,?_⟩;ext n;exact k
 |told x=>
  refine ai (MSt.mk [~~~h.d,~~~(.tuple [.str "told",.tuple (natD x)]),~~~(.tuple [lnD l,.int (t:Int)]),~~~(.tuple (natD o)),none,none,none] [] 0) rfl ?_;ext s
  .rfl
  ext s;ext a;ext a;refine ba (λz=>absurd z (by ext K)) (λ_=>?_);ext s;refine⟨h,l,rfl,v,i,?_⟩;ext n;have q:M7.placeF 0 h.rs l<x.length:=by rw[m.1,M7.allR_cnt];exact M7.place_lt i.fits
  refine bc (bf (bp (getN rfl q))) ?_;exact k
theorem qh(T:Bl K mg)(D:DefM K mg "first_stand" gi ["hall"]):FnM P w K mg base "first_stand" 1 1 Af:=by
 refine aK D qL rfl (nN:=1) rfl ⋯ ?ar λc A outer s H E f g=>⟨_,(aa (af (au (mc' (ag bI (au (mc' mh' mn')) (aE bV 'b' T.len d9 (mc' (ae (mv' 0) mh') mn'))) (mc' mh' mn'))))),?_⟩
 case ar=>intro d b ⟨h,rfl,_⟩;rfl
 intro d b i ⟨h,rfl,a,k⟩;have n1:=a.n1;have n4:=a.n4;refine ai (MSt.mk [~~~h.d] [] 0) rfl ?_;ext s;rw[iO];refine JJ ∅ ∅ (by simp;omega) ?_;ext s;have e:(aaq ((h.ss.length:Nat):Int).toNat [abf 0]).flatten=natD (zer h):=by
  rw[aa6];simp[zer,natD]
 rw[e];exact k
theorem sf(T:Bl K mg)(D:DefM K mg "all_orders" fU ["hall"]):FnM P w K mg base "all_orders" 1 1 JE:=by
 refine aK D c9 rfl (nN:=4) rfl ⋯ ?ar λR A outer s H E f U=>⟨_,(mz' (gl (i:=1) c9.nd rfl (ada rfl) (aE bV 'b' T.len d9 (mc' (ae (mv' 0) mh') mn')))
   (mz' (aB 2 c9.nd (cQ (mc' (au mn') mn')))
   (mz' (b5 (bP 'b' T.range (mc' (mv' 1) mn')) (ah 3 c9.nd) (aa (zd (i:=2) (own:=["ahead","line"]) (fr:=["many"]) (ps:=[1]) (sc:=(ab fU)) 'e' c9.nd rfl rfl (bH (mv' 2)) (λ_ _ _ _ _=>(ah 0 (show aaX ((["ahead","line"]:List Str)++(["many"]:List Str))from by ext K))) (λ_ _ _ _ _=>bw) (λ_ _ _ _ _=>(bP 'b' T.range (mc' (mv' 2) mn'))) (λ_ _ _ _ _=>(ah 1 (show aaX ((["ahead","line"]:List Str)++(["many"]:List Str))from by ext K))) (λ_ _ _ _ _=>(pJ (ap (l6 U.units) (mv' 1) (mv' 0) 'f'))) (λ_ _ _ _ _=>(ag aQ (mv' 0) (au (mc' (mv' 1) mn')))))) aaF)
   (aa (af (mv' 2)))))),?_⟩
 case ar=>intro Y S ⟨h,rfl,_⟩;rfl
 intro Y S hl ⟨h,rfl,L,k⟩;have n1:=L.n1;have n4:=L.n4;refine ai (MSt.mk [~~~h.d,none,none,none] [] 0) rfl ?_;ext s;refine gg ?_;ext x;rw[iO];refine⟨∅,∅,?_⟩;rw[aa6];refine dB (λi m=>∃a,m=MSt.mk [~~~h.d,~~~(.int (h.ss.length:Nat)),some (.obj 0),a] [(ordK h.ss.length i).map lnD] 0) ⟨none,rfl⟩ ?_ ?_
 .rintro i d m e n ⟨a,rfl⟩;let⟨hi,rfl⟩:=b9 e;let⟨J,o⟩:=oZ h.ss.length n4 i ∅;have t:=nU h.ss.length n4 i ∅;rw[show ordK h.ss.length (i+1)=ou h.ss.length (ordK h.ss.length i)from rfl];generalize ordK h.ss.length i=os at J o t;ext s;ext n;refine qf (λz m=>∃b c,m=MSt.mk [b,c,~~~(.int (h.ss.length:Nat))] [os.map lnD,(ou h.ss.length (os.take z)).map lnD] 2) ⟨none,none,rfl⟩ ?_ ?_ ?_
  .rintro z m ⟨b,c,rfl⟩;rfl
  .rintro z d m ez nz ⟨b,c,rfl⟩;let⟨l,u,rfl,hz⟩:=gmap ez;let⟨Z,O⟩:=o l (LD u);have V:=(AD.mp u).1;have M:=t z ∅;ext s;refine⟨∅,∅,?_⟩;rw[aa6];let⟨G,p⟩:∃G:Nat->List (List Nat),G=λy=>ou h.ss.length (os.take z)++((aaz y).filter λq=>!l.contains q).map λq=>l++[q]:=⟨_,rfl⟩;have v:G 0=ou h.ss.length (os.take z):=by rw[p];simp
   have I:G h.ss.length=ou h.ss.length (os.take (z+1)):=by rw[p,yP u]
   have g:∀y,G (y+1)=G y++([y].filter λq=>!l.contains q).map λq=>l++[q]:=λy=>by
    rw[p];show _++((aaz (y+1)).filter _).map _=_;rw[act,afo,aaM,aaY]
   have C:∀y,y≤4->(G y).length≤28:=λy Q=>by
    rw[p];dsimp only;rw[aao,iO];have:=adr (λq=>!l.contains q) (aaz y);rw[aa7]at this;omega
   clear p;rw[<-v];refine bx (λy m=>∃c,m=MSt.mk [~~~(lnD l),c,~~~(.int (h.ss.length:Nat))] [os.map lnD,(G y).map lnD] 2) ⟨c,rfl⟩ ?_ ?_
   .rintro y d m ey ny ⟨c,rfl⟩ D1 hD1 hR1;let⟨Q,rfl⟩:=b9 ey;rw[show(0:Int)+(y:Int)=((y:Nat):Int) by omega];have N:=C y ∅;have B:(natD l).any (λx=>aaa x (.int (y:Int)))=l.contains y:=by
     rw[abE,aeH,List.contains_iff_mem];constructor
     .rintro⟨x,hx,ex⟩;let⟨w,X,rfl⟩:=aar.mp hx;rw[cB]at ex;rw[<-of_decide_eq_true ex];exact X
     .intro hm;exact⟨_,aar.mpr ⟨y,hm,rfl⟩,by rw[cB];exact decide_eq_true rfl⟩
    ext s;refine x_in (d:=.int (y:Int)) (ds:=natD l) rfl (.inr rfl) (cr _) (bJ l) ⋯ ?_;ext s;rw[B]
    cases hc:l.contains y with
    |true=>
     refine jf ?_;ext s;refine hD1 _ ⟨~~~(.int (y:Int)),?_⟩;rw[g,show([y].filter λq=>!l.contains q)=[] by rw[acm,hc];rfl,adE,aa5];rfl
    |false=>
     refine jg ?_;ext s;refine lc (by rw[aap,bg];simp;omega) ?_;ext s;refine⟨_,rfl,by rw[aap,iO];omega,hD1 _ ⟨~~~(.int (y:Int)),?_⟩⟩;rw[g,show([y].filter λq=>!l.contains q)=[y] by rw[acm,hc];rfl,aaM];simp[lnD,natD,MSt.setV]
   .rintro m ny ⟨c,rfl⟩;rw[aM,I];ext s;exact⟨_,_,rfl⟩
  .rintro m nz ⟨b,c,rfl⟩;rw[iO,aav];ext n;refine ie (k:=0) rfl (aab _) (λj W=>?_) ⟨_,rfl⟩
   match j with
   |0|1|3=>exact λz=>by cases z
   |2=>exact(W rfl).elim
   |n+4=>exact λz=>by cases z
 .rintro m n ⟨a,rfl⟩;rw[aM];ext s;exact k
theorem vb(T:Bl K mg)(D:DefM K mg "all_moves" fm ["hall"])(G:FnM P w K mg base "all_orders" 1 1 JE):FnM P w K mg base "all_moves" 2 1 uW:=by
 refine aK D lj rfl (nN:=2) rfl ⋯ ?ar λp A outer s H E f t=>⟨_,(mz' (i9 (i:=1) (own:=["line"]) (fr:=[]) (ps:=[]) (sc:=(ab fm)) 'e' lj.nd rfl rfl (bP 'b' T.range (mc' (aE bV 'b' T.len d9 (mc' (ae (mv' 0) mh') mn')) mn')) (λ_ _ _ _ _=>(ah 0 (show aaX ((["line"]:List Str)++([]:List Str))from by ext K))) (λ_ _ _ _ _=>bw) (λ_ _ _ _ _=>(au (mc' aq (mc' (mv' 0) mn')))))
   (aa (af (ag aQ (ag aQ (bu (own:=["order"]) (fr:=[]) (ps:=[]) (sc:=(ab fm)) 'e' (bH (eF (mf' G t⁻¹ (mc' (mv' 0) mn')))) (λ_ _ _ _ _=>(ah 0 (show aaX ((["order"]:List Str)++([]:List Str))from by ext K))) (λ_ _ _ _ _=>bw) (λ_ _ _ _ _=>(au (mc' aq (mc' (mv' 0) mn'))))) (mv' 1)) (cQ (mc' (au (mc' aq mn')) mn')))))),?_⟩
 case ar=>intro v q ⟨h,rfl,_⟩;rfl
 intro v q y ⟨h,rfl,g,k⟩;have n4:=g.n4;have x:(ordK h.ss.length h.ss.length).length≤24:=(oZ _ n4 _ n4).1;refine ai (MSt.mk [~~~h.d,none] [] 0) rfl ?_;ext s;refine⟨by rw[iO];omega,by rw[iO];omega,?_⟩;rw[iO,aa6];refine bx (λi m=>∃a:Option L2.R,m=MSt.mk [a] [(aaz i).map λk=>(Mv.done k).d] 1) ⟨none,rfl⟩ ?_ ?_
 .rintro i d m e c ⟨a,rfl⟩ D1 hD1 hR1;let⟨n,rfl⟩:=b9 e;ext s;refine⟨_,rfl,by rw[aap,iO,aa7];omega,hD1 _ ⟨~~~(.int (0+(i:Int))),?_⟩⟩;rw[act,aaM,show(0:Int)+(i:Int)=((i:Nat):Int) by omega];rfl
 intro m c ⟨a,rfl⟩;rw[aM];ext n;refine gg ?_;ext x;refine⟨h,rfl,g,?_⟩;ext x;refine bx (λi m=>∃a:Option L2.R,m=MSt.mk [a] [(aaz h.ss.length).map λk=>(Mv.done k).d,((ordK h.ss.length h.ss.length).take i).map λo=>(Mv.come o).d] 2) ⟨none,rfl⟩ ?_ ?_
 .rintro i d m e c ⟨a,rfl⟩ D1 hD1 hR1;let⟨o,u,rfl,n⟩:=gmap e;ext s;refine⟨_,rfl,by rw[aap,iO,aaB];omega,hD1 _ ⟨~~~(lnD o),?_⟩⟩;rw[aaU,u,aaM];rfl
 intro m c ⟨a,rfl⟩;rw[iO,aav];ext x;refine O9 (a:=(ordK h.ss.length h.ss.length).map λo=>(Mv.come o).d) (b:=(aaz h.ss.length).map λk=>(Mv.done k).d) rfl (by rw[iO,iO,aa7,aap];omega) ?_;ext s;refine K6 (by rw[aao,iO,iO,aa7,aap];simp;omega) ?_;rw[Vq]at k;ext s;exact k
theorem uQ(T:Bl K mg)(D:DefM K mg "with_more" jx ["lines","line","more"]):FnM P w K mg base "with_more" 1 3 pf:=by
 refine aK D u9 rfl (nN:=3) rfl ⋯ ?ar λc A outer s H E f n=>⟨_,(aa (af (ag aQ (ag aQ (cN fx (mv' 0) d8 (c5 (mv' 1))) (au (mc' (ag aQ (ae (mv' 0) (mv' 1)) (mv' 2)) mn'))) (cN fx (mv' 0) (c5 (ag aQ (mv' 1) mh')) d8)))),?_⟩
 case ar=>intro i g ⟨l,j,d,x,rfl,_⟩;rfl
 intro i g o ⟨l,j,d,x,rfl,a,m,b,k⟩;refine ai (MSt.mk [~~~(.tuple (natD l)),~~~(.int (j:Int)),~~~(.int d)] [] 0) rfl ?_;ext s;refine bc (bf (bp (getN rfl a))) ?_;ext s;rw[b,uX];refine lc (by rw[aap,aaB,bg];simp;omega) ?_;ext s;rw[show(j:Int)+1=((j+1:Nat):Int)from rfl,jb];refine lc (by rw[aap,aao,aaB,aeB,bg];simp;omega) ?_;ext s;have e:(natD l).take j++[.int (x:Int)]++(natD l).drop (j+1)=natD (l.set j x):=by
  rw[<-vM,aee,if_pos (by rw[bg];exact a)];simp
 rw[e];exact k
theorem BO(T:Bl K mg)(D:DefM K mg "come_to" pF ["hall","lines","line"])(G:FnM P w K mg base "with_more" 1 3 pf):FnM P w K mg base "come_to" 2 3 Jn:=by
 refine aK D Bq rfl (nN:=3) rfl ⋯ ?ar λn A outer s H E f c=>⟨_,(mz' (aG (ap (bh c.units) (ae (mv' 1) (mv' 2)) (ae (ae (ae (mv' 0) mh') (mv' 2)) mh') (aA _)) (aa (af (au (mc' (mv' 1) (mc' aq mn'))))) am)
   (aa (af (au (mc' (mf' G c⁻¹ (mc' (mv' 1) (mc' (mv' 2) (mc' mh' mn')))) (mc' aq mn')))))),?_⟩
 case ar=>intro q o ⟨h,l,j,rfl,_⟩;rfl
 intro q o v ⟨h,l,j,rfl,m,p,g,k⟩;have a:=p.1;have n4:=m.n4;let⟨s,b,t,eb,u⟩:=h.srv g;have i:h.rn j=s.r:=bM (Hall.rs_get b);refine ai (MSt.mk [~~~h.d,~~~(.tuple (natD l)),~~~(.int (j:Int))] [] 0) rfl ?_;ext s;refine bc (bf (bp (getN a g))) ?_;ext s;refine bc (d:=s.d) (bf (by rw[aaj,b];rfl)) ?_;ext d;refine ba (λz=>?_) (λz=>?_)
 .ext s;have e:cR h l j=(l,.away):=if_pos (by rw[i];omega);rw[e]at k;exact k
 .ext s;refine⟨l,j,1,l.getD j 0+1,rfl,∅,∅,rfl,?_⟩;ext x;have e:cR h l j=(l.set j (l.getD j 0+1),.taken):=if_neg (by rw[i];omega);rw[e]at k;exact k
theorem C8(T:Bl K mg)(D:DefM K mg "done_at" ql ["lines","line"])(G:FnM P w K mg base "with_more" 1 3 pf):FnM P w K mg base "done_at" 2 2 Ja:=by
 refine aK D Ai rfl (nN:=2) rfl ⋯ ?ar λd A outer s H E f b=>⟨_,(mz' (aG (ap (bh b.units) (ae (mv' 0) (mv' 1)) mh' (aA _)) (aa (af (au (mc' (mv' 0) (mc' aq mn'))))) am)
   (aa (af (au (mc' (mf' G b⁻¹ (mc' (mv' 0) (mc' (mv' 1) (mc' (oI jw mh') mn')))) (mc' aq mn')))))),?_⟩
 case ar=>intro i g ⟨l,j,rfl,_⟩;rfl
 intro i g m ⟨l,j,rfl,c,a,k⟩;refine ai (MSt.mk [~~~(.tuple (natD l)),~~~(.int (j:Int))] [] 0) rfl ?_;ext s;refine bc (bf (bp (getN rfl c))) ?_;ext s;refine ba (λz=>?_) (λz=>?_)
 .ext s;have e:dE l j=(l,.none):=if_pos ∅;rw[e]at k;exact k
 .ext s;refine⟨l,j,-1,l.getD j 0-1,rfl,c,a,∅,?_⟩;ext x;have e:dE l j=(l.set j (l.getD j 0-1),.served):=if_neg ∅;rw[e]at k;exact k
theorem rG(T:Bl K mg)(D:DefM K mg "next_shift" iJ ["hall","lines"]):FnM P w K mg base "next_shift" 1 2 zJ:=by
 refine aK D r8 rfl (nN:=2) rfl ⋯ ?ar λG A outer s H E f v=>⟨_,(mz' (aG (EW.pt (jk (cX (bX (ae (mv' 0) mh'))) (jk (ap (l6 v.units) mh' (mv' 1) 'f') (iZ (ap ir (aE (fu rfl) 'b' T.max oG (mc' (mv' 1) mn')) mh' (aA _)))))) (aa (af fQ)) am)
   (aa (af (au (mc' (x6 acn acV (ij v.units) (mv' 1) (mc' (aE (fu rfl) 'b' T.max oG (mc' (mv' 1) mn')) mn')) (mc' (x6 acn acV (ij v.units) (mv' 1) (mc' mh' mn')) mn')))))),?_⟩
 case ar=>intro L I ⟨h,l,rfl,_⟩;rfl
 intro L I Q ⟨h,l,rfl,o,M,k⟩;have a:c8 (natD l)=some (l.map λ(x:Nat)=>(x:Int)):=by
  have:=du (l.map λ(x:Nat)=>(x:Int));rwa[aba]at this
 have c:(l.map λ(x:Nat)=>(x:Int))≠[]:=λz=>o (agT.mp z);have g:∀x:Int,x∈(l.map λ(x:Nat)=>(x:Int))->(∀y∈(l.map λ(x:Nat)=>(x:Int)),y≤x)->x=(maxN l:Int):=λx p b=>by
  let⟨n,J,rfl⟩:=aar.mp p;have N:=vf n J;have O:=b (maxN l:Int) (aar.mpr ⟨maxN l,jp o,rfl⟩);omega
 have u:(natD l).any (λy=>aaa y (.int 0))=decide (0∈l):=by
  rw[abE];rw[aeH,decide_eq_true_eq];constructor
  .rintro⟨y,b,e⟩;let⟨x,p,rfl⟩:=aar.mp b;have B:=cB x 0;rw[show((0:Nat):Int)=0 from rfl,e]at B;have:x=0:=of_decide_eq_true B.symm;rw[<-this];exact p
  .intro m;exact⟨.int 0,aar.mpr ⟨0,m,rfl⟩,cB 0 0⟩
 refine ai (MSt.mk [~~~h.d,~~~(.tuple (natD l))] [] 0) rfl ?_;ext s
 cases hmv:h.mv with
 |false=>
  refine jg ?_;ext s;have e:dH h l=none:=if_neg (by rw[hmv];exact λz=>by cases z.1);rw[e]at k;exact k
 | true=>
  refine jf ?_;ext s;refine x_in (d:=.int 0) (ds:=natD l) rfl (.inr rfl) (cr 0) (bJ l) ⋯ ?_;ext s;rw[u]
  by_cases m:0∈l
  .rw[decide_eq_true m];refine jf ?_;ext s;refine tU rfl a c λx p b=>?_;rw[g x p b];ext s;refine ba (λz=>?_) (λz=>?_)
   .ext s;have e:dH h l=none:=if_neg (λq=>by have:=q.2.2;omega);rw[e]at k;exact k
   .ext s;refine tU rfl a c λx p b=>?_;rw[g x p b];have s1:=gY (jp o);have C:=gY m;ext s;refine k6 (j:=idx l (maxN l)) (k':=0) (cr _) (bJ l) ⋯ (bp s1.1) (by rw[cB];exact decide_eq_true rfl) (λi y t b=>?_) ?_
    .obtain⟨z,ez,rfl,_⟩:=gmap b;rw[cB];exact decide_eq_false (s1.2 i z t ez)
    ext s;refine k6 (j:=idx l 0) (k':=0) (cr _) (bJ l) ⋯ (bp C.1) (cB 0 0) (λi y t b=>?_) ?_
    .obtain⟨z',ez,rfl,_⟩:=gmap b;have:=cB z' 0;rw[show((0:Nat):Int)=0 from rfl]at this;rw[this];exact decide_eq_false (C.2 i z' t ez)
    ext s;have e:dH h l=some (idx l (maxN l),idx l 0):=if_pos ⟨hmv,m,∅⟩;rw[e]at k;exact k
  .rw[decide_eq_false m];refine jg ?_;ext s;have e:dH h l=none:=if_neg (λq=>m q.2.1);rw[e]at k;exact k
theorem zc(T:Bl K mg)(D:DefM K mg "settled" p7 ["hall","lines"])(G:FnM P w K mg base "next_shift" 1 2 zJ)(a:FnM P w K mg base "with_more" 1 3 pf):FnM P w K mg base "settled" 2 2 sx:=by
 refine aK D jn rfl (nN:=3) rfl ⋯ ?ar λI A outer s H E f t=>⟨_,(mz' (aB 2 jn.nd (mf' G t⁻¹ (mc' (mv' 0) (mc' (mv' 1) mn'))))
   (mz' (fq (ap oO (mv' 2) fQ (aA _)) (mz' (aB 1 jn.nd (mf' a t⁻¹ (mc' (mf' a t⁻¹ (mc' (mv' 1) (mc' (ae (mv' 2) mh') (mc' (oI jw mh') mn')))) (mc' (ae (mv' 2) mh') (mc' mh' mn')))))
   (aa (aB 2 jn.nd (mf' G t⁻¹ (mc' (mv' 0) (mc' (mv' 1) mn')))))) aaF)
   (aa (af (mv' 1))))),?_⟩
 case ar=>intro B x ⟨h,l,rfl,_⟩;rfl
 intro B x S ⟨h,l,rfl,i,q,k⟩;refine ai (MSt.mk [~~~h.d,~~~(lnD l),none] [] 0) rfl ?_;ext s;refine⟨h,l,rfl,i,q,?_⟩;ext x;refine jy (λn m=>∃b:List Nat,m=MSt.mk [~~~h.d,~~~(lnD b),~~~(optP (dH h b))] [] 0/\n=b.count 0/\db h n b=gz h l/\b≠[]/\b.length≤1000) (l.count 0) ⟨l,rfl,rfl,rfl,i,q⟩ ?_;intro n m R ⟨b,rfl,rfl,u,g,o⟩;ext s
 cases e:dH h b with
 |none=>
  refine jf ?_;ext s;rw[j9 e]at u;rw[<-u]at k;exact k
 | some p=>
  refine jg ?_;let⟨C,M,v,L,d⟩:=jG e;let⟨O,m1,m2,J,y⟩:=gH e;have Q:b.getD p.1 0=maxN b:=bM m1;have N:(b.set p.1 (maxN b-1)).getD p.2 0=0:=bM (by rw[aaS y];exact J);dsimp only[optP];ext s;refine⟨b,p.1,-1,maxN b-1,rfl,M,o,∅,?_⟩;ext x;refine⟨b.set p.1 (maxN b-1),p.2,1,1,rfl,by rw[abj];exact v,by rw[abj];exact o,∅,?_⟩;rw[<-C];ext x;have c:cy b p≠[]:=λz=>by
   rw[z]at d;exact g (abl d.symm)
  refine⟨h,cy b p,rfl,c,∅,?_⟩;ext x;refine⟨(cy b p).count 0,∅,cy b p,rfl,rfl,?_,c,∅⟩;rw[<-u,<-L];show _=db h ((cy b p).count 0+1) b;simp only[db,e]
theorem qF(T:Bl K mg)(D:DefM K mg "turn_behind" gq ["hall","rule","turn"]):FnM P w K mg base "turn_behind" 1 3 zK:=by
 refine aK D qp rfl (nN:=3) rfl ⋯ ?ar λc A outer s H E f a=>⟨_,(mz' (aG (ap (bh a.units) (ae (mv' 1) mh') aq (aA _)) (aa (af (ag fz (ag aQ (mv' 2) mh') (aE bV 'b' T.len d9 (mc' (ae (mv' 0) mh') mn'))))) am)
   (aa (af (mv' 2)))),?_⟩
 case ar=>intro g d ⟨h,r,t,rfl,_⟩;rfl
 intro g d i ⟨h,r,t,rfl,b,k⟩;have n1:=b.n1;refine ai (MSt.mk [~~~h.d,~~~r.d,~~~(.int (t:Int))] [] 0) rfl ?_;ext s;refine Ou r.dc (bf (j:=0) rfl) ?_;ext s;refine ba (λz=>?_) (λz=>?_)
 .have a:r = .turns:=by cases r<;>first|rfl|exact absurd z (by ext K)|exact absurd (show("told" : Str) = "turns" from z) (by ext K)
  subst a;ext s;refine Ki (by rw[iO];omega) ?_;rw[iO];exact k
 .ext s;have e:DB h r t=t:=by cases r<;>first|rfl|exact absurd rfl z
  rw[e]at k;exact k
theorem zY(T:Bl K mg)(D:DefM K mg "line_of" qy ["hall","rule","stand","move"])(G:FnM P w K mg base "sent_to" 3 4 vO):FnM P w K mg base "line_of" 4 4 xI:=by
 refine aK D DF rfl (nN:=4) rfl ⋯ ?ar λe A outer s H E f b=>⟨_,(mz' (aG (ap (bh b.units) (ae (mv' 3) mh') aq (aA _)) (aa (af (mf' G b⁻¹ (mc' (mv' 0) (mc' (mv' 1) (mc' (mv' 2) (mc' (ae (mv' 3) mh') mn'))))))) am)
   (mz' (aG (ap (bh b.units) (ae (mv' 3) mh') aq (aA _)) (aa (af (ae (mv' 3) mh'))) am)
   (aa (af fQ)))),?_⟩
 case ar=>intro m g ⟨h,r,l,t,mv,rfl,_⟩;rfl
 intro m g n ⟨h,r,l,t,mv,rfl,d,a,i,c,k⟩
 cases mv with
 |come o=>
  refine ai (MSt.mk [~~~h.d,~~~r.d,~~~(stD l t),~~~(.tuple [.str "come",lnD o])] [] 0) rfl ?_;ext s;refine ba (λ_=>?_) (λz=>(z rfl).elim);ext s;refine⟨h,r,l,t,o,rfl,d,a,i,c,?_⟩;ext n;exact k
 |done j=>
  refine ai (MSt.mk [~~~h.d,~~~r.d,~~~(stD l t),~~~(.tuple [.str "done",.int (j:Int)])] [] 0) rfl ?_;ext s;ext c;exact k
 |still=>
  refine ai (MSt.mk [~~~h.d,~~~r.d,~~~(stD l t),~~~(.tuple [.str "still"])] [] 0) rfl ?_;ext s;ext a;exact k
theorem yk(T:Bl K mg)(D:DefM K mg "moved_on" md ["hall","rule","stand","move"])(c:FnM P w K mg base "line_of" 4 4 xI)(a:FnM P w K mg base "come_to" 2 3 Jn)(G:FnM P w K mg base "turn_behind" 1 3 zK)(b:FnM P w K mg base "done_at" 2 2 Ja)(d:FnM P w K mg base "settled" 2 2 sx):FnM P w K mg base "moved_on" 5 4 CK:=by
 refine aK D cc rfl (nN:=8) rfl ⋯ ?ar λI A outer s H E f p=>⟨_,(mz' (cx (mv' 2) (aY (n:=2) (ac (ah 4 cc.nd) (ac (ah 5 cc.nd) aF))))
   (mz' (aB 6 cc.nd aq)
   (mz' (aB 7 cc.nd (mf' c p⁻¹ (mc' (mv' 0) (mc' (mv' 1) (mc' (mv' 2) (mc' (mv' 3) mn'))))))
   (mz' (aG (ap (bh p.units) (ae (mv' 3) mh') aq (aA _)) (mz' (cx (mf' a p⁻¹ (mc' (mv' 0) (mc' (mv' 4) (mc' (mv' 7) mn')))) (aY (n:=2) (ac (ah 4 cc.nd) (ac (ah 6 cc.nd) aF))))
   (aa (aB 5 cc.nd (mf' G p⁻¹ (mc' (mv' 0) (mc' (mv' 1) (mc' (mv' 5) mn'))))))) (aa (aG (ap (bh p.units) (ae (mv' 3) mh') aq (aA _)) (aa (cx (mf' b p⁻¹ (mc' (mv' 4) (mc' (mv' 7) mn'))) (aY (n:=2) (ac (ah 4 cc.nd) (ac (ah 6 cc.nd) aF))))) am)))
   (aa (af (au (mc' (au (mc' (mf' d p⁻¹ (mc' (mv' 0) (mc' (mv' 4) mn'))) (mc' (mv' 5) mn'))) (mc' (mv' 6) mn'))))))))),?_⟩
 case ar=>intro B y ⟨h,r,l,t,mv,rfl,_⟩;rfl
 intro B y J ⟨h,r,l,t,mv,rfl,m,i,q,u,C,k⟩;have v:=q.1;have n1:=m.n1;have n4:=m.n4;have ne:∀x:List Nat,x.length=l.length->x≠[]:=λx e z=>by rw[z]at e;simp at e;omega
 cases mv with
 |come o=>
  refine ai (MSt.mk [~~~h.d,~~~r.d,~~~(.tuple [lnD l,.int (t:Int)]),~~~(.tuple [.str "come",lnD o]),none,none,none,none] [] 0) rfl ?_;ext s
  .rfl
  ext s;refine⟨h,r,l,t,.come o,rfl,m,i,q,u,?_⟩;dsimp only[GQ];ext x;refine ba (λ_=>?_) (λz=>(z rfl).elim);ext s;refine⟨h,l,sent h r l t o,rfl,m,q,vp m i q u C,?_⟩;ext n;dsimp only[lwD];ext s
  .rfl
  ext s;refine⟨h,r,t,rfl,m,?_⟩;ext x;have g:(cR h l (sent h r l t o)).1.length=l.length:=by unfold cR;split<;>simp
  refine⟨h,_,rfl,ne _ g,∅,?_⟩;ext x;exact k
 |done j=>
  refine ai (MSt.mk [~~~h.d,~~~r.d,~~~(.tuple [lnD l,.int (t:Int)]),~~~(.tuple [.str "done",.int (j:Int)]),none,none,none,none] [] 0) rfl ?_;ext s
  .rfl
  ext s;refine⟨h,r,l,t,.done j,rfl,m,i,q,u,?_⟩;dsimp only[GQ];ext x;ext c;refine⟨l,j,rfl,by rw[v];exact u,∅,?_⟩;ext n;dsimp only[lwD];ext s
  .rfl
  ext s;have g:(dE l j).1.length=l.length:=by unfold dE;split<;>simp
  refine⟨h,_,rfl,ne _ g,∅,?_⟩;ext x;exact k
 |still=>
  refine ai (MSt.mk [~~~h.d,~~~r.d,~~~(.tuple [lnD l,.int (t:Int)]),~~~(.tuple [.str "still"]),none,none,none,none] [] 0) rfl ?_;ext s
  .rfl
  ext s;refine⟨h,r,l,t,.still,rfl,m,i,q,u,?_⟩;dsimp only[GQ];ext x;ext a;refine⟨h,l,rfl,ne _ rfl,∅,?_⟩;ext x;exact k
theorem rh(T:Bl K mg)(D:DefM K mg "kept_lines" iQ ["hall","lines"])(G:FnM P w K mg base "is_alike" 1 1 JP):FnM P w K mg base "kept_lines" 2 2 nh:=by
 refine aK D ub rfl (nN:=2) rfl ⋯ ?ar λc A outer s H E f i=>⟨_,(mz' (aG (bX (mf' G i⁻¹ (mc' (mv' 0) mn'))) (aa (af (cj cZ 'b' T.tuple d3 (mc' (pc m9 'b' T.sorted my (mc' (mv' 1) mn')) mn')))) am)
   (aa (af (mv' 1)))),?_⟩
 case ar=>intro m b ⟨h,l,rfl,_⟩;rfl
 intro m b p ⟨h,l,rfl,a,o,k⟩;refine ai (MSt.mk [~~~h.d,~~~(.tuple (natD l))] [] 0) rfl ?_;ext s;refine⟨h,rfl,a,?_⟩;ext n;unfold cU at k
 cases q:alk h with
 |true=>
  rw[q,if_pos rfl]at k;ext s;refine CB rfl (ik l) (by rw[iO];omega) λn g d=>?_;have e:=wD g d;subst e;rw[<-tj];ext s;exact k
 |false=>
  rw[q,if_neg aan]at k;ext s;exact k
theorem Dj(T:Bl K mg)(D:DefM K mg "is_kept" qc ["hall","thing"])(a:FnM P w K mg base "is_lines" 3 2 zN)(G:FnM P w K mg base "kept_lines" 2 2 nh):FnM P w K mg base "is_kept" 4 2 wx:=by
 refine aK D zo rfl (nN:=2) rfl ⋯ ?ar λm A outer s H E f c=>⟨_,(aa (af (k8 (mf' a c⁻¹ (mc' (mv' 0) (mc' (mv' 1) mn'))) (jA (cY (bh c.units) (mf' G c⁻¹ (mc' (mv' 0) (mc' (mv' 1) mn'))) (mv' 1) (aA _)))))),?_⟩
 case ar=>intro i g ⟨h,l,rfl,_⟩;rfl
 intro i g o ⟨h,l,rfl,b,d,hk,k⟩;have n4:=b.n4;have n:=d.1;refine ai (MSt.mk [~~~h.d,~~~(lnD l)] [] 0) rfl ?_;ext s;refine⟨6,h,lnD l,rfl,b,Ak b d,?_⟩;rw[Nh d];ext x;refine⟨h,l,rfl,b,∅,?_⟩;rw[hk];ext x;have e:=aV (bJ l);refine x_eq (d1:=lnD l) (d2:=lnD l) rfl rfl (e.ok ⋯) (e.ok ⋯) ?_;rw[show aaa (lnD l) (lnD l)=true from wX e];ext s;exact k
theorem vq(T:Bl K mg)(D:DefM K mg "is_triple" jX ["hall","thing"])(G:FnM P w K mg base "is_tuple_of" 1 2 C6)(a:FnM P w K mg base "is_kept" 4 2 wx)(b:FnM P w K mg base "is_whole" 1 1 Bu):FnM P w K mg base "is_triple" 5 2 Cw:=by
 refine aK D u4 rfl (nN:=2) rfl ⋯ ?ar λm A outer s H E f c=>⟨_,(mz' (aG (EW.pt (jk (cX (bX (mf' G c⁻¹ (mc' (mv' 1) (mc' mh' mn'))))) (jk (cX (bX (mf' a c⁻¹ (mc' (mv' 0) (mc' (ae (mv' 1) mh') mn'))))) (iZ (cX (bX (mf' a c⁻¹ (mc' (mv' 0) (mc' (ae (mv' 1) mh') mn'))))))))) (aa (af c7)) am)
   (aa (af (k8 (mf' b c⁻¹ (mc' (ae (mv' 1) mh') mn')) (jA (cY y4 (ae (mv' 1) mh') mh' (aA _))))))),?_⟩
 case ar=>intro i e ⟨h,t,rfl,_⟩;rfl
 intro i e n ⟨h,t,rfl,d,X,k⟩;have g:=R9 d X;refine ai (MSt.mk [~~~h.d,~~~(.tuple [lnD t.1,lnD t.2.1,.int t.2.2])] [] 0) rfl ?_;ext s;refine⟨_,trD t,3,rfl,g,?_⟩;rw[show tupN 3 (trD t)=true from rfl];ext x;ext b;refine⟨h,t.1,rfl,d,X.x,X.kx,?_⟩;ext x;ext b;refine⟨h,t.2.1,rfl,d,X.y,X.ky,?_⟩;ext x;ext b;refine⟨_,.int t.2.2,rfl,g.2.2.1,?_⟩;rw[show isWh (.int t.2.2)=true from rfl];ext x;rw[decide_eq_true (show(0:Int)≤t.2.2 from X.d0)];ext s;exact k
theorem kH(T:Bl K mg)(D:DefM K mg "is_never_paper" dN ["hall","thing"])(G:FnM P w K mg base "is_triple" 5 2 Cw):FnM P w K mg base "is_never_paper" 6 2 AB:=by
 refine aK D fZ rfl (nN:=3) rfl ⋯ ?ar λg A outer s H E f o=>⟨_,(mz' (aG (cX (bX (qt (mv' 1) tm T.isinstance T.tuple d3))) (aa (af c7)) am)
   (mz' (b5 (bH (mv' 1)) (ah 2 fZ.nd) (aa (aG (cX (bX (mf' G o⁻¹ (mc' (mv' 0) (mc' (mv' 2) mn'))))) (aa (af c7)) am)) aaF)
   (aa (af c7)))),?_⟩
 case ar=>intro p n ⟨h,P,rfl,_⟩;rfl
 intro p n u ⟨h,P,rfl,b,X,k⟩;refine ai (MSt.mk [~~~h.d,~~~(.tuple (P.map trD)),none] [] 0) rfl ?_;ext s;rw[if_neg (by show ¬(!("tuple" == "tuple"))=true;decide)];ext s;refine bx (λi m=>∃a:Option L2.R,m=MSt.mk [~~~h.d,~~~(.tuple (P.map trD)),a] [] 0) ⟨none,rfl⟩ ?_ ?_
 .rintro i d m e hnp ⟨a,rfl⟩ D1 hD1 hR1;let⟨t,c,rfl,q⟩:=gmap e;ext s;refine⟨h,t,rfl,b,X t (LD c),?_⟩;ext x;ext b;exact hD1 _ ⟨_,rfl⟩
 .rintro m hnp ⟨a,rfl⟩;ext s;exact k
def oi(T:Bl K mg)(D:DefM K mg "refuse_turns" fV ["one","other"]):FnM P w K mg base "refuse_turns" 1 2 CG:=by
 refine aK D oz rfl (nN:=2) rfl ⋯ ?ar λd A outer s H E f b=>⟨_,(aa (aG (EW.pt (jk (ap (bh b.units) (ae (mv' 0) mh') aq (aA _)) (iZ (ap (bh b.units) (ae (mv' 1) mh') aq (aA _))))) (aa gm) am)),?_⟩
 case ar=>intro n i ⟨r1,a,rfl,_⟩;rfl
 intro n i p ⟨r1,a,rfl,g,m,k⟩;refine ai (MSt.mk [~~~r1.d,~~~a.d] [] 0) rfl ?_;ext s;let⟨t,c⟩:=JW r1;let⟨o,e⟩:=JW a;refine qr c ?_;ext s;rw[CI g];ext s;refine qr e ?_;ext s;rw[CI m];ext s;exact k
theorem oo(T:Bl K mg)(D:DefM K mg "first_triple" fC ["hall"])(G:FnM P w K mg base "first_stand" 1 1 Af):FnM P w K mg base "first_triple" 2 1 B8:=by
 refine aK D iw rfl (nN:=2) rfl ⋯ ?ar λc A outer s H E f b=>⟨_,(mz' (aB 1 iw.nd (ae (mf' G b⁻¹ (mc' (mv' 0) mn')) mh'))
   (aa (af (au (mc' (mv' 1) (mc' (mv' 1) (mc' mh' mn'))))))),?_⟩
 case ar=>intro e a ⟨h,rfl,_⟩;rfl
 intro e a g ⟨h,rfl,d,k⟩;refine ai (MSt.mk [~~~h.d,none] [] 0) rfl ?_;ext s;refine⟨h,rfl,d,?_⟩;ext x;refine qr (tl:=[.int 0]) rfl ?_;ext s;exact k
theorem uF(T:Bl K mg)(D:DefM K mg "kept_step" jW ["hall","rule","lines","move"])(a:FnM P w K mg base "moved_on" 5 4 CK)(G:FnM P w K mg base "kept_lines" 2 2 nh):FnM P w K mg base "kept_step" 6 4 JZ:=by
 refine aK D iC rfl (nN:=6) rfl ⋯ ?ar λp A outer s H E f b=>⟨_,(mz' (cx (mf' a b⁻¹ (mc' (mv' 0) (mc' (mv' 1) (mc' (au (mc' (mv' 2) (mc' mh' mn'))) (mc' (mv' 3) mn'))))) (aY (n:=2) (ac (ah 4 iC.nd) (ac (ah 5 iC.nd) aF))))
   (aa (af (au (mc' (mf' G b⁻¹ (mc' (mv' 0) (mc' (ae (mv' 4) mh') mn'))) (mc' (cY (bh b.units) (mv' 5) aq (aA _)) mn')))))),?_⟩
 case ar=>intro o i ⟨h,r,l,m,rfl,_⟩;rfl
 intro o i u ⟨h,r,l,m,rfl,c,b,e,g,d,k⟩;have n4:=c.n4;have S:=fJ c b (t:=0) ⟨g,λz=>(e z).elim,⋯⟩ d;have q:=S.ln.1;refine ai (MSt.mk [~~~h.d,~~~r.d,~~~(lnD l),~~~m.d,none,none] [] 0) rfl ?_;ext s;refine⟨h,r,l,0,m,rfl,c,b,g,d,λz=>(e z).elim,?_⟩;ext n;unfold mvD;ext s
 .rfl
 ext s;refine qr (tl:=[.int ((km h r l 0 m).2.1:Int)]) rfl ?_;ext s;refine⟨h,_,rfl,c,∅,?_⟩;ext x;rw[IC];exact k
theorem mH(T:Bl K mg)(D:DefM K mg "triple_behind" e9 ["one_step","other_step","lead"]):FnM P w K mg base "triple_behind" 1 3 OG:=by
 refine aK D bG rfl (nN:=7) rfl ⋯ ?ar λc A outer s H E f i=>⟨_,(mz' (cx (mv' 0) (aY (n:=2) (ac (ah 3 bG.nd) (ac (ah 4 bG.nd) aF))))
   (mz' (cx (mv' 1) (aY (n:=2) (ac (ah 5 bG.nd) (ac (ah 6 bG.nd) aF))))
   (mz' (aG (EW.pt (fy (bX (mv' 6)) (fH (cX (bX (mv' 4)))))) (aa (uR 2 bG.nd mh' JQ)) am)
   (mz' (aG (EW.pt (fy (bX (mv' 4)) (fH (cX (bX (mv' 6)))))) (aa (uR 2 bG.nd mh' Uk)) am)
   (aa (af (au (mc' (mv' 3) (mc' (mv' 5) (mc' (mv' 2) mn')))))))))),?_⟩
 case ar=>intro g e ⟨p,q,d,rfl,_⟩;rfl
 intro g e m ⟨p,q,d,rfl,k⟩;unfold aw at k;refine ai (MSt.mk [~~~(.tuple [lnD p.1,.bool (decide (p.2 = .away))]),~~~(.tuple [lnD q.1,.bool (decide (q.2 = .away))]),~~~(.int d),none,none,none,none] [] 0) rfl ?_;ext s
 .rfl
 ext s
 .rfl
 ext s
 by_cases b:p.2 = .away<;>by_cases a:q.2 = .away
 .rw[if_pos b,if_pos a,show d+1-1=d by omega]at k;rw[decide_eq_true b,decide_eq_true a];ext s;ext b;ext b;exact k
 .rw[if_pos b,if_neg a,show d+0-1=d-1 by omega]at k;rw[decide_eq_true b,decide_eq_false a];ext s;rw[if_pos ⋯];refine Oo d rfl ?_;ext s;refine⟨1,rfl,?_⟩;ext x;exact k
 .rw[if_neg b,if_pos a,show d+1-0=d+1 by omega]at k;rw[decide_eq_false b,decide_eq_true a];ext s;rw[if_pos ⋯];refine Oo d rfl ?_;ext s;refine⟨1,rfl,?_⟩;ext s;exact k
 .rw[if_neg b,if_neg a,show d+0-0=d by omega]at k;rw[decide_eq_false b,decide_eq_false a];ext s;exact k
def yL(T:Bl K mg)(D:DefM K mg "is_worse" mh ["triple"]):FnM P w K mg base "is_worse" 1 1 CW:=by
 refine aK D gJ rfl (nN:=4) rfl ⋯ ?ar λc A outer s H E f d=>⟨_,(mz' (cx (mv' 0) (aY (n:=3) (ac (ah 1 gJ.nd) (ac (ah 2 gJ.nd) (ac (ah 3 gJ.nd) aF)))))
   (aa (af (cY kg (aE (gW rfl) 'b' T.sum tJ (mc' (mv' 1) mn')) (ag aQ (aE (gW rfl) 'b' T.sum tJ (mc' (mv' 2) mn')) (mv' 3)) (aA _))))),?_⟩
 case ar=>intro b a ⟨t,rfl,_⟩;rfl
 intro b a e ⟨t,rfl,k⟩;refine ai (MSt.mk [~~~(.tuple [lnD t.1,lnD t.2.1,.int t.2.2]),none,none,none] [] 0) rfl ?_;ext s
 .rfl
 ext s;refine xW rfl (ik t.1) ?_;rw[lu];ext s;refine xW rfl (ik t.2.1) ?_;rw[lu];ext s;exact k
theorem p8(T:Bl K mg)(D:DefM K mg "least_leads" gF ["paper"]):FnM P w K mg base "least_leads" 1 1 Cb:=by
 refine aK D cG rfl (nN:=5) rfl ⋯ ?ar λN A outer s H E f J=>⟨_,(mz' (aB 1 cG.nd kU)
   (mz' (b5 (bH (mv' 0)) (aY (n:=3) (ac (ah 2 cG.nd) (ac (ah 3 cG.nd) (ac (ah 4 cG.nd) aF)))) (aa (jo J.units (aE (y6 rfl) 'b' T.min QE (mc' (mv' 4) (mc' (BX J.units (mv' 1) (mc' (au (mc' (mv' 2) (mc' (mv' 3) mn'))) (mc' (mv' 4) mn'))) mn'))) (mv' 1) (au (mc' (mv' 2) (mc' (mv' 3) mn'))))) aaF)
   (aa (Av (af (mv' 1)))))),?_⟩
 case ar=>intro R O ⟨h,P,rfl,_⟩;rfl
 intro R O Y ⟨h,P,rfl,x,X,W,k⟩;refine ai (MSt.mk [~~~(.tuple (P.map trD)),none,none,none,none] [] 0) rfl ?_;ext s;ext n;refine bx (λi m=>∃(a b c:Option L2.R) (L:List (Pk×Int)),m=MSt.mk [~~~(.tuple (P.map trD)),some (.at 0 []),a,b,c] [[.dict (lfKV (ldD L))]] 0/\(∀p∈L,(p.1.1,p.1.2,p.2)∈P)/\L.length≤i/\∀t∈P.take i,∃v,lkL (t.1,t.2.1) L=some v/\v≤t.2.2) ⟨none,none,none,[],rfl,(λ_ z=>by cases z),aab _,λ_ z=>by cases z⟩ ?_ ?_
 .rintro i d m e hnp ⟨a,b,c,L,rfl,hL,hn,hA⟩ D1 hD1 hR1;let⟨t,G,rfl,U⟩:=gmap e;have y:=LD G;have B:=X t y;have g:kyA (ldD L)=true:=AQ x λp o=>⟨(X _ (hL p o)).x,(X _ (hL p o)).y⟩;have C:kyD (pkD (t.1,t.2.1))=true:=Fu x B.x B.y;rw[show trD t = .tuple [lnD t.1,lnD t.2.1,.int t.2.2]from rfl];ext s
  .rfl
  ext s;refine⟨ldD L,⟨rfl,rfl⟩,.inr g,?_⟩;ext s;refine⟨ldD L,pkD (t.1,t.2.1),.int t.2.2,rfl,⟨rfl,rfl⟩,by unfold oneK;rw[g,show kyD (pkD (t.1,t.2.1))=true from C,aco,aet],?_⟩;let⟨v,M,S,Q⟩:∃v:Int,(cE (pkD (t.1,t.2.1)) (ldD L)).getD (.int t.2.2) = .int v/\(t.1,t.2.1,v)∈P/\∀w,lkL (t.1,t.2.1) L=some w->w=v:=by
   rw[BZ]
   cases e:lkL (t.1,t.2.1) L with
   |none=>exact⟨t.2.2,rfl,y,λw z=>by cases z⟩
   |some w=>exact⟨w,rfl,hL _ (p9 e),λV z=>(aaA z).symm⟩
  rw[M];ext s;refine⟨_,ldD L,rfl,rfl,rfl,g,C,by unfold ldD;rw[iO,aap];omega,?_⟩;rw[show abp [lnD t.1,lnD t.2.1]=pkD (t.1,t.2.1)from rfl,CU];ext n;refine hD1 _ ⟨_,_,_,_,rfl,λp o=>?_,aaw (wG _ _ _) (Nat.succ_le_succ hn),λu I=>?_⟩
  .rcases h7 o with rfl|o
   .dsimp only;split
    .exact S
    .exact y
   .exact hL p o
  .rw[Jx];rw[aaU,G]at I;rcases aaV.mp I with q|q
   .obtain⟨w,ew,lw⟩:=hA u q
    by_cases c:(u.1,u.2.1)=(t.1,t.2.1)
    .rw[if_pos c];rw[c]at ew;have:=Q w ew;refine⟨_,rfl,?_⟩
     split<;>omega
    .rw[if_neg c];exact⟨w,ew,lw⟩
   .cases aad.mp q
    rw[if_pos rfl];refine⟨_,rfl,?_⟩
    split<;>omega
 .rintro m hnp ⟨a,b,c,L,rfl,hL,hn,hA⟩;rw[iO]at hn hA;rw[aav]at hA;have g:kyA (ldD L)=true:=AQ x λp o=>⟨(X _ (hL p o)).x,(X _ (hL p o)).y⟩;ext n;refine Vm 0 1 (ldD L) [] (MSt.mk [~~~(.tuple (P.map trD)),~~~(.dict (ldD L)),none,none,none] [] 0) rfl rfl g (LH rfl rfl rfl rfl rfl rfl rfl rfl ⟨.inl rfl,.inr ⟨rfl,.inr rfl⟩,.inl trivial,.inl trivial,.inl trivial,trivial⟩) ?_;ext s;exact k L ⟨hL,hn,hA⟩
theorem kj(T:Bl K mg)(D:DefM K mg "has_all_behind" dQ ["hall","one","other","leads","triple"])(k:FnM P w K mg base "all_moves" 2 1 uW)(G:FnM P w K mg base "kept_step" 6 4 JZ)(g:FnM P w K mg base "triple_behind" 1 3 OG):FnM P w K mg base "has_all_behind" 7 5 JI:=by
 refine aK D br rfl (nN:=11) rfl ⋯ ?ar λcdv A outer s H E f x=>⟨_,(mz' (cx (mv' 4) (aY (n:=3) (ac (ah 5 br.nd) (ac (ah 6 br.nd) (ac (ah 7 br.nd) aF)))))
   (mz' (b5 (bH (eF (mf' k x⁻¹ (mc' (mv' 0) mn')))) (ah 8 br.nd) (mz' (aB 9 br.nd (mf' g x⁻¹ (mc' (mf' G x⁻¹ (mc' (mv' 0) (mc' (mv' 1) (mc' (mv' 5) (mc' (mv' 8) mn'))))) (mc' (mf' G x⁻¹ (mc' (mv' 0) (mc' (mv' 2) (mc' (mv' 6) (mc' (mv' 8) mn'))))) (mc' (mv' 7) mn')))))
   (mz' (aB 10 br.nd (au (mc' (ae (mv' 9) mh') (mc' (ae (mv' 9) mh') mn'))))
   (aa (aG (EW.pt (jk (ap (jz x.units) (mv' 10) (mv' 3) 'f') (iZ (ap kg (d6 x.units (mv' 3) (mv' 10)) (ae (mv' 9) mh') (aA _))))) (aa (af c7)) am)))) aaF)
   (aa (af c7)))),?_⟩
 case ar=>intro as Kc ⟨h,r1,o,P,L,t,rfl,_⟩;rfl
 intro as Kc hl ⟨h,r1,o,P,L,t,rfl,⟨q,C,y,n1,n2⟩,X,N,I,cl,k1⟩;refine ai (MSt.mk [~~~h.d,~~~r1.d,~~~o.d,~~~(.dict (ldD L)),~~~(.tuple [lnD t.1,lnD t.2.1,.int t.2.2]),none,none,none,none,none,none] [] 0) rfl ?_;ext s
 .rfl
 ext s;refine⟨h,rfl,q,?_⟩;ext x;have Q:kyA (ldD L)=true:=AQ q λp V=>⟨(X _ (N.i p V)).x,(X _ (N.i p V)).y⟩;refine bx (λi m=>∃a b c:Option L2.R,m=MSt.mk [~~~h.d,~~~r1.d,~~~o.d,~~~(.dict (ldD L)),~~~(.tuple [lnD t.1,lnD t.2.1,.int t.2.2]),~~~(lnD t.1),~~~(lnD t.2.1),~~~(.int t.2.2),a,b,c] [] 0) ⟨none,none,none,rfl⟩ ?_ ?_
 .rintro i d m e hnp ⟨a,b,c,rfl⟩ D1 hD1 hR1;let⟨mv,R,rfl,hi⟩:=gmap e;have M:=vX q mv (LD R);have S1:=fJ q C (t:=0) ⟨I.x,λz=>(n1 z).elim,⋯⟩ M;have Z:=fJ q y (t:=0) ⟨I.y,λz=>(n2 z).elim,⋯⟩ M;ext s;refine⟨h,r1,t.1,mv,rfl,q,C,n1,I.x,M,?_⟩;ext x;refine⟨h,o,t.2.1,mv,rfl,q,y,n2,I.y,M,?_⟩;ext x;refine⟨_,_,_,rfl,?_⟩;rw[show trD ((kst h r1 t.1 mv).1,(kst h o t.2.1 mv).1,t.2.2+aw (kst h o t.2.1 mv).2-aw (kst h r1 t.1 mv).2)=trD (bth h r1 o t mv)from rfl];have L1:Lines h (bth h r1 o t mv).1:=fM S1.ln;have O:Lines h (bth h r1 o t mv).2.1:=fM Z.ln;have kt:kyD (pkD ((bth h r1 o t mv).1,(bth h r1 o t mv).2.1))=true:=Fu q L1 O;let⟨v,J,S⟩:∃v,lkL ((bth h r1 o t mv).1,(bth h r1 o t mv).2.1) L=some v/\v≤(bth h r1 o t mv).2.2:=by
   let⟨u,hu,Y,W,u3⟩:=cl mv (LD R);let⟨v,J,S⟩:=N.a u hu;rw[Y,W]at J;exact⟨v,J,adg S u3⟩
  generalize hB:bth h r1 o t mv=B at *;unfold trD;ext x;have one:oneK (ldD L) (pkD (B.1,B.2.1))=true:=by unfold oneK;rw[Q,show kyD (pkD (B.1,B.2.1))=true from kt,aco,aet]
  refine OA (kvs:=ldD L) rfl one ?_;rw[show abp [lnD B.1,lnD B.2.1]=pkD (B.1,B.2.1)from rfl];have U:cE (pkD (B.1,B.2.1)) (ldD L)=some (.int v):=by rw[BZ,J];rfl
  rw[U,show(if true=true then !(some (abf v)).isSome else(some (abf v)).isSome)=false from rfl];ext s;refine⟨ldD L,.int v,rfl,one,U,?_⟩;ext s;refine ba (λz=>by omega) (λz=>?_);ext s;exact hD1 _ ⟨_,_,_,rfl⟩
 .rintro m hnp ⟨a,b,c,rfl⟩;ext s;exact k1
theorem sy(T:Bl K mg)(D:DefM K mg "lets_never" iR ["hall","one","other","thing"])(o:FnM P w K mg base "refuse_turns" 1 2 CG)(c:FnM P w K mg base "is_never_paper" 6 2 AB)(p:FnM P w K mg base "first_triple" 2 1 B8)(q:FnM P w K mg base "least_leads" 1 1 Cb)(u:FnM P w K mg base "is_worse" 1 1 CW)(g:FnM P w K mg base "has_all_behind" 7 5 JI):FnM P w K mg base "lets_never" 8 4 Bi:=by
 refine aK D ef rfl (nN:=7) rfl ⋯ ?ar λO A outer s H E f v=>⟨_,(mz' (d5 (mf' o v⁻¹ (mc' (mv' 1) (mc' (mv' 2) mn'))))
   (mz' (aG (cX (bX (mf' c v⁻¹ (mc' (mv' 0) (mc' (mv' 3) mn'))))) (aa gm) am)
   (mz' (aG (ap (l6 v.units) (mf' p v⁻¹ (mc' (mv' 0) mn')) (mv' 3) 'f') (aa gm) am)
   (mz' (aB 4 ef.nd (mf' q v⁻¹ (mc' (mv' 3) mn')))
   (mz' (b5 (IE T.enumerate (mc' (mv' 3) mn')) (aY (n:=2) (ac (ah 5 ef.nd) (ac (ah 6 ef.nd) aF))) (mz' (aG (bX (mf' u v⁻¹ (mc' (mv' 6) mn'))) (aa gm) am)
   (aa (aG (cX (bX (mf' g v⁻¹ (mc' (mv' 0) (mc' (mv' 1) (mc' (mv' 2) (mc' (mv' 4) (mc' (mv' 6) mn')))))))) (aa gm) am))) aaF)
   (aa (af c7))))))),?_⟩
 case ar=>intro V R ⟨h,r1,x,P,rfl,_⟩;rfl
 intro V R W ⟨h,r1,x,P,rfl,G,N,X,U,k⟩;have B:=G.o;refine ai (MSt.mk [~~~h.d,~~~r1.d,~~~x.d,~~~(.tuple (P.map trD)),none,none,none] [] 0) rfl ?_;ext s;refine⟨r1,x,rfl,G.n1,G.n2,?_⟩;ext x;refine⟨h,P,rfl,B,X,?_⟩;ext x;ext b;refine⟨h,rfl,B,?_⟩;ext x;refine x_in (d:=trD (zer h,zer h,0)) (ds:=P.map trD) rfl (.inr rfl) (JD _) (k':=2) (λy M=>by let⟨t,_,rfl⟩:=aar.mp M;exact JD t) ⋯ ?_;rw[Qy,decide_eq_true N.b0];ext s;ext b;refine⟨h,P,rfl,B,X,U,λL S=>?_⟩;ext x;refine .inl ⟨_,P.map trD,rfl,?_⟩;refine bx (λi m=>∃a b:Option L2.R,m=MSt.mk [~~~h.d,~~~r1.d,~~~x.d,~~~(.tuple (P.map trD)),~~~(.dict (ldD L)),a,b] [] 0) ⟨none,none,rfl⟩ ?_ ?_
 .rintro i d m e hnp ⟨a,b,rfl⟩ D1 hD1 hR1;have J:i<P.length:=by
   have:=(AD.mp e).1;rw[gf,iO]at this;exact this
  let⟨t,I⟩:∃t,P[i]?=some t:=⟨_,lD J⟩;have Q:d = .tuple [.int (i:Int),trD t]:=by
   have:=rE (ds:=P.map trD) (i:=i) (d:=trD t) (by rw[aaj,I];rfl);rw[this]at e;exact(aaA e).symm
  subst Q;have C:=LD I;ext s
  .rfl
  ext s;refine⟨t,rfl,?_⟩;ext x;have nb:=N.nb t C;unfold bad at nb;simp only[acP,decide_eq_false_iff_not]at nb;refine ba (λz=>(nb.2 z).elim) (λz=>?_);ext s;refine⟨h,r1,x,P,L,t,rfl,G,X,S,X t C,N.cl t C,?_⟩;ext x;ext b;exact hD1 _ ⟨_,_,rfl⟩
 .rintro m hnp ⟨a,b,rfl⟩;ext s;exact k
theorem ju(T:Bl K mg)(D:MthD K "Search" "steps_of" "Search.steps_of" bt ["self","side","lines"])(n:FnM P w K mg base "kept_step" 6 4 JZ):f9 P w K mg base "Search" "steps_of" 7 3 t5:=by
 refine j1 D fj rfl (nN:=4) rfl ⋯ ?ar λJ A outer s H E f q=>⟨_,(mz' (aG (ap (jz q.units) (au (mc' (mv' 1) (mc' (mv' 2) mn'))) (ce T.f_Search_steps (mv' 0)) 'f') (mz' (gl (i:=3) fj.nd rfl (ada rfl) (ae (ce T.f_Search_rules (mv' 0)) (mv' 1)))
   (aa (jo q.units (eF (bu (own:=["move"]) (fr:=["self","rule","lines"]) (ps:=[0,3,2]) (sc:=(ab bt)) 'e' (bH (ce T.f_Search_moves (mv' 0))) (λ_ _ _ _ _=>(ah 0 (show aaX ((["move"]:List Str)++(["self","rule","lines"]:List Str))from by ext K))) (λ_ _ _ _ _=>bw) (λ_ _ _ _ _=>(mf' n q⁻¹ (mc' (ce T.f_Search_hall (mv' 1)) (mc' (mv' 2) (mc' (mv' 3) (mc' (mv' 0) mn')))))))) (ce T.f_Search_steps (mv' 0)) (au (mc' (mv' 1) (mc' (mv' 2) mn')))))) am)
   (aa (af (d6 q.units (ce T.f_Search_steps (mv' 0)) (au (mc' (mv' 1) (mc' (mv' 2) mn'))))))),?_⟩
 case ar=>intro R O ⟨h,r1,g,C,L,T,Y,s,l,rfl,_⟩;rfl
 intro R O Z ⟨h,r1,g,C,L,T,Y,s,l,rfl,G,V,X,s2,B,k⟩;have u:∀C,oneK (jK h r1 g C) (skD (s,l))=true:=λC=>by unfold oneK;rw[Oy (h:=h) C,Mi (h:=h),aco,aet]
 refine ai (MSt.mk [some (.at 0 []),~~~(.int (s:Int)),~~~(lnD l),none] [[scQ h r1 g C L T Y]] 1) rfl ?_;refine qO ?_;refine x_JS (λm=>∃(a:Option L2.R) (o:List Ck),m=MSt.mk [some (.at 0 []),~~~(.int (s:Int)),~~~(lnD l),a] [[scQ h r1 g o L T Y]] 1/\CaOk h o/\(s,l)∈o) (λN t=>?_) ?_
 .ext s;refine u7 rfl (OA (k:=skD (s,l)) (kvs:=jK h r1 g C) ⟨rfl,rfl⟩ (u C) ?_);rw[st_look]
  by_cases c:(s,l)∈C
  .rw[if_pos c];refine xt (b:=false) ?_;ext s;exact t _ ⟨_,C,rfl,X,c⟩
  .rw[if_neg c];refine xt (b:=true) ?_;ext s;refine bc (d:=(rl r1 g s).d) (by rcases (show s=0\/s=1 by omega)with rfl|rfl<;>rfl) ?_;ext s;ext n;refine bx (λi m=>∃a:Option L2.R,m=MSt.mk [a,some (.at 0 []),some (.imm (rl r1 g s).d),~~~(lnD l)] [[scQ h r1 g C L T Y],(stv h r1 g (s,l)).take i] 2) ⟨none,rfl⟩ ?_ ?_
   .rintro i d m e hnp ⟨a,rfl⟩ D1 hD1 hR1;let⟨mv,v,rfl,S⟩:=gmap e;ext s;refine⟨h,_,l,mv,rfl,G.o,(G.rl s).1,(G.rl s).2,B,vX G.o mv (LD v),?_⟩;ext x;have U:=(zM G.o).2;refine⟨_,rfl,by unfold stv;rw[aaB,iO,aap];omega,hD1 _ ⟨~~~mv.d,?_⟩⟩;rw[aaU,show(stv h r1 g (s,l))[i]?=some (ksD (kst h (rl r1 g s) l mv)) by unfold stv;rw[aaj,v];rfl];rfl
   .rintro m hnp ⟨a,rfl⟩;ext x;refine u7 rfl ?_;ext s;have W:=X.len;refine⟨_,jK h r1 g C,rfl,rfl,rfl,Oy (h:=h) C,Mi (h:=h),by unfold jK;rw[iO,aap];omega,?_⟩;ext n;rw[show aed ([[scQ h r1 g C L T Y],(stv h r1 g (s,l)).take ((mvs h).map Mv.d).length].getD 1 []) = .list ((stv h r1 g (s,l)).take ((mvs h).map Mv.d).length)from rfl,show aed ((stv h r1 g (s,l)).take ((mvs h).map Mv.d).length) = .list (stv h r1 g (s,l)) by rw[show((mvs h).map Mv.d).length=(stv h r1 g (s,l)).length by unfold stv;rw[iO,iO],aav],show abp [.int (s:Int),lnD l]=skD (s,l)from rfl,Jy c];refine t _ ⟨some (.imm (rl r1 g s).d),C++[(s,l)],rfl,⟨?_,λp Q=>?_⟩,aaQ _ aah⟩
    .exact acR.mpr ⟨X.nd,ac1 _ _,λx M y I z=>c (by rw[aad.mp I]at z;rw[<-z];exact M)⟩
    .rcases aaV.mp Q with z|z
     .exact X.ok p z
     .rw[aad.mp z];exact⟨s2,B⟩
 .rintro m ⟨a,o,rfl,X',c⟩;ext s;refine u7 rfl ?_;ext s;refine⟨jK h r1 g o,.list (stv h r1 g (s,l)),⟨rfl,rfl⟩,u o,st_look.trans (if_pos c),?_⟩;ext s;exact k o X'
theorem fG(T:Bl K mg)(D:MthD K "Search" "triples_behind" "Search.triples_behind" aI ["self","triple"])(c:f9 P w K mg base "Search" "steps_of" 7 3 t5)(g:FnM P w K mg base "triple_behind" 1 3 OG):f9 P w K mg base "Search" "triples_behind" 8 2 JS:=by
 refine j1 D aP rfl (nN:=7) rfl ⋯ ?ar λQ A outer s H E f q=>⟨_,(mz' (cx (mv' 1) (aY (n:=3) (ac (ah 2 aP.nd) (ac (ah 3 aP.nd) (ac (pq (i:=4) aP.nd rfl (ada rfl)) aF)))))
   (mz' (aB 5 aP.nd (gZ c q⁻¹ (mv' 0) (mc' mh' (mc' (mv' 2) mn'))))
   (mz' (aB 6 aP.nd (gZ c q⁻¹ (mv' 0) (mc' mh' (mc' (mv' 3) mn'))))
   (aa (af (bu (own:=["one_step","other_step"]) (fr:=["lead"]) (ps:=[4]) (sc:=(ab aI)) 'e' (pQ T.zip (mc' (mv' 5) (mc' (mv' 6) mn'))) (λ_ _ _ _ _=>(aY (n:=2) (ac (ah 0 (show aaX ((["one_step","other_step"]:List Str)++(["lead"]:List Str))from by ext K)) (ac (ah 1 (show aaX ((["one_step","other_step"]:List Str)++(["lead"]:List Str))from by ext K)) aF)))) (λ_ _ _ _ _=>bw) (λ_ _ _ _ _=>(mf' g q⁻¹ (mc' (mv' 0) (mc' (mv' 1) (mc' (mv' 2) mn'))))))))))),?_⟩
 case ar=>intro M I ⟨h,r1,o,C,L,T,Y,t,rfl,_⟩;rfl
 intro M I hl ⟨h,r1,o,C,L,T,Y,t,rfl,G,x,X,B,ly,k⟩;refine ai (MSt.mk [some (.at 0 []),~~~(.tuple [lnD t.1,lnD t.2.1,.int t.2.2]),none,none,none,none,none] [[scQ h r1 o C L T Y]] 1) rfl ?_;ext s
 .rfl
 ext s;refine⟨h,r1,o,C,L,T,Y,0,t.1,rfl,G,x,X,⋯,B,λS J=>?_⟩;ext x;refine⟨h,r1,o,S,L,T,Y,1,t.2.1,rfl,G,x,J,⋯,ly,λv z=>?_⟩;ext x;refine⟨false,_,false,_,rfl,rfl,?_⟩;refine bx (λi m=>∃a b:Option L2.R,m=MSt.mk [a,b,~~~(.int t.2.2)] [[scQ h r1 o v L T Y],((mvs h).map λm=>trD (bth h r1 o t m)).take i] 2) ⟨none,none,rfl⟩ ?_ ?_
 .rintro i d m e hnp ⟨a,b,rfl⟩ D1 hD1 hR1;let⟨Z,W,N,y,rfl⟩:=qY e;let⟨mv,u,rfl,U⟩:=gmap N;let⟨mv',p,rfl,O⟩:=gmap y;rw[u]at p;cases p;ext s
  .rfl
  ext s;refine⟨_,_,t.2.2,rfl,?_⟩;ext x;have V:=(zM G.o).2;refine⟨_,rfl,by rw[aaB,iO,aap];omega,hD1 _ ⟨~~~(ksD (kst h (rl r1 o 0) t.1 mv)),~~~(ksD (kst h (rl r1 o 1) t.2.1 mv)),?_⟩⟩;rw[aaU,aaj,u];rfl
 .rintro m hnp ⟨a,b,rfl⟩;ext x;have R:(zipD (stv h r1 o (0,t.1)) (stv h r1 o (1,t.2.1))).length=((mvs h).map λm=>trD (bth h r1 o t m)).length:=by unfold stv;rw[cw,iO,iO,iO];exact ahj _
  rw[R,aav];exact k v z
theorem rH(T:Bl K mg)(D:MthD K "Search" "met" "Search.met" cW ["self","triple","ahead","move"]):f9 P w K mg base "Search" "met" 1 4 Oj:=by
 refine j1 D d7 rfl (nN:=7) rfl ⋯ ?ar λM A outer s H E f q=>⟨_,(mz' (cx (mv' 1) (aY (n:=3) (ac (ah 4 d7.nd) (ac (ah 5 d7.nd) (ac (ah 6 d7.nd) aF)))))
   (aa (aG (EW.pt (jk (ap (jz q.units) (au (mc' (mv' 4) (mc' (mv' 5) mn'))) (ce T.f_Search_leads (mv' 0)) 'f') (iZ (ap ir (mv' 6) (d6 q.units (ce T.f_Search_leads (mv' 0)) (au (mc' (mv' 4) (mc' (mv' 5) mn')))) (aA _))))) (mz' (jo q.units (mv' 6) (ce T.f_Search_leads (mv' 0)) (au (mc' (mv' 4) (mc' (mv' 5) mn'))))
   (mz' (d5 (sd adZ ad0 nw (ce T.f_Search_triples (mv' 0)) (mc' (mv' 1) mn')))
   (aa (d5 (sd adZ ad0 nw (ce T.f_Search_ways (mv' 0)) (mc' (au (mc' (mv' 2) (mc' (mv' 3) mn'))) mn')))))) am))),?_⟩
 case ar=>intro S N ⟨h,r1,i,C,L,T,Y,t,y,a,d,rfl,_⟩;rfl
 intro S N hl ⟨h,r1,i,C,L,T,Y,t,y,a,d,rfl,U,x,O,J,ly,Z,X,V,k1,k2⟩;have g:kyA (ldD L)=true:=AQ x O;have u:kyD (pkD (t.1,t.2.1))=true:=Fu x J ly;have v:oneK (ldD L) (pkD (t.1,t.2.1))=true:=by unfold oneK;rw[g,u,aco,aet]
 refine ai (MSt.mk [some (.at 0 []),~~~(.tuple [lnD t.1,lnD t.2.1,.int t.2.2]),~~~(.int a),~~~d,none,none,none] [[scQ h r1 i C L T Y]] 1) rfl ?_;refine qO ?_;ext s
 .rfl
 refine mz (x_gM (mz (x_gM (mz (x_gM (zq ?_))))));ext n;refine UW ?_;refine x_JT (λc m=>m=MSt.mk [some (.at 0 []),~~~(.tuple [lnD t.1,lnD t.2.1,.int t.2.2]),~~~(.int a),~~~d,~~~(lnD t.1),~~~(lnD t.2.1),~~~(.int t.2.2)] [[scQ h r1 i C L T Y]] 1/\(c=true->t.2.2<(lkL (t.1,t.2.1) L).getD (t.2.2+1))/\(c=false->∃w,lkL (t.1,t.2.1) L=some w/\w≤t.2.2)) (λW B=>?_) ?_
 .ext x;refine qR rfl g (OA (k:=pkD (t.1,t.2.1)) (kvs:=ldD L) ⟨rfl,rfl⟩ v ?_);rw[BZ]
  cases e:lkL (t.1,t.2.1) L with
  |none=>
   refine xt (b:=true) ?_;exact B _ _ ⟨rfl,λ_=>by rw[e];exact(show t.2.2<t.2.2+1 by omega),λz=>by cases z⟩
  |some w=>
   refine xt (b:=false) ?_;ext s;refine qR rfl g ?_;ext s;refine⟨ldD L,.int w,⟨rfl,rfl⟩,v,(BZ (t.1,t.2.1) L).trans (by rw[e];rfl),?_⟩;ext s;refine B _ _ ⟨rfl,λz=>by rw[e];exact of_decide_eq_true z,λz=>⟨w,e,?_⟩⟩;have:=of_decide_eq_false z;omega
 .rintro c m ⟨rfl,h1,h2⟩
  cases c with
  |false=>
   let⟨w,Q,R⟩:=h2 rfl;ext s;exact k2 w Q R
  | true=>
   ext s;refine qR rfl g ?_;ext s;refine⟨_,ldD L,rfl,rfl,rfl,g,u,by unfold ldD;rw[iO,aap];omega,?_⟩;rw[show abp [lnD t.1,lnD t.2.1]=pkD (t.1,t.2.1)from rfl,CU];ext n;have l1:setT (scQ h r1 i C L T Y) [5] (.dict (lfKV (ldD (setL (t.1,t.2.1) t.2.2 L))))=scQ h r1 i C (setL (t.1,t.2.1) t.2.2 L) T Y:=rfl;generalize setL (t.1,t.2.1) t.2.2 L=o at *;ext s;refine⟨⟨_,mN T⟩,?_⟩;ext s;refine uc (p:=[6]) (m:=MSt.mk _ [[scQ h r1 i C o T Y]] 1) rfl rfl (mN T) rfl (by rw[iO,aap];omega) ?_;have I:setT (scQ h r1 i C o T Y) [6] (.list ((T.map trD++[trD t]).map lfD))=scQ h r1 i C o (T++[t]) Y:=by
    rw[show T.map trD++[trD t]=(T++[t]).map trD by rw[aaM];rfl,W6];rfl
   ext n;rw[show abp [lnD t.1,lnD t.2.1,.int t.2.2]=trD t from rfl,I];ext s;refine⟨⟨_,uk Y⟩,?_⟩;ext s;refine uc (p:=[7]) rfl rfl (uk Y) rfl (by rw[iO,aap];omega) ?_;have G:setT (scQ h r1 i C o (T++[t]) Y) [7] (.list ((Y.map wyD++[wyD y]).map lfD))=scQ h r1 i C o (T++[t]) (Y++[y]):=by
    rw[show Y.map wyD++[wyD y]=(Y++[y]).map wyD by rw[aaM];rfl,XZ];rfl
   rw[<-U,G];ext s;exact k1 (h1 rfl)
theorem k7(T:Bl K mg)(D:MthD K "Search" "run_to" "Search.run_to" cb ["self","at"]):f9 P w K mg base "Search" "run_to" 1 2 Cp:=by
 refine j1 D cP rfl (nN:=4) rfl ⋯ ?ar λx A outer s H E f N=>⟨_,(mz' (aB 2 cP.nd (cQ mn'))
   (mz' (fq (ap y4 (ae (vB (ce T.f_Search_ways (mv' 0)) (mv' 1)) mh') mh' (aA _)) (mz' (cx (vB (ce T.f_Search_ways (mv' 0)) (mv' 1)) (aY (n:=2) (ac (ah 1 cP.nd) (ac (ah 3 cP.nd) aF))))
   (aa (d5 (sd adZ ad0 yx (mv' 2) (mc' (mv' 3) mn'))))) aaF)
   (aa (af (cj cZ 'b' T.tuple d3 (mc' (Gw (mv' 2) (oI jw mh')) mn')))))),?_⟩
 case ar=>intro I B ⟨h,r1,c,C,L,T,Y,P,i,p,rfl,_⟩;rfl
 intro I B Q ⟨h,r1,c,C,L,T,Y,P,i,p,rfl,W,M,g,k⟩;refine ai (MSt.mk [some (.at 0 []),~~~(.int (i:Int)),none,none] [[scQ h r1 c C L T Y]] 1) rfl ?_;ext s;refine gg ?_;ext x;refine jy (λn m=>∃(a:Option L2.R) (q s:List Mv),m=MSt.mk [some (.at 0 []),~~~(.int (n:Int)),some (.obj 1),a] [[scQ h r1 c C L T Y],s.reverse.map Mv.d] 1/\P[n]?=some q/\p=q++s/\s.length+n≤i) i ⟨none,p,[],rfl,g,(aa5 p).symm,by rw[ad5];omega⟩ ?_;intro n m u ⟨a,q,s,rfl,eq,d,O⟩;have J:i<Y.length:=by rw[W.ly];exact(AD.mp g).1
 let⟨y,e⟩:∃y,Y[n]?=some y:=⟨_,lD (show n<Y.length by omega)⟩;let⟨o,t⟩:=zO (f:=wyD) e;ext s;refine uU (p:=[7]) rfl rfl o t ?_;rw[xO];rcases W.wy n q eq with⟨rfl,z⟩|⟨b,mv,v,G,eb,rfl,z⟩
 .rw[e]at z;cases z;rw[show wyD none = .tuple [.int (-1),.none]from rfl];ext s;ext b;refine⟨_,rfl,rfl,?_⟩;ext s;rw[<-List.map_reverse,List.reverse_reverse,show s=p from d.symm];exact k
 .rw[e]at z;cases z;rw[show wyD (some (b,mv)) = .tuple [.int (b:Int),mv.d]from rfl];ext s;rw[if_pos (decide_eq_true ∅)];ext s;refine uU (p:=[7]) rfl rfl o t ?_;rw[xO,show wyD (some (b,mv)) = .tuple [.int (b:Int),mv.d]from rfl];ext s
  .rfl
  ext s;refine' Gj (ds:=s.reverse.map Mv.d) ?eb (by rw[aap,iO,agP];omega) ?_
  case eb=>rfl
  refine⟨b,G,~~~mv.d,v,mv::s,?_,eb,by rw[d,aaY];rfl,by rw[aat];omega⟩;rw[adv,aaM];rfl
theorem i8(T:Bl K mg)(D:MthD K "Search" "worse_run" "Search.worse_run" bz ["self"])(g:f9 P w K mg base "Search" "triples_behind" 8 2 JS)(q:FnM P w K mg base "is_worse" 1 1 CW)(k:f9 P w K mg base "Search" "run_to" 1 2 Cp)(o:f9 P w K mg base "Search" "met" 1 4 Oj):f9 P w K mg base "Search" "worse_run" 9 1 BV:=by
 refine j1 D bq rfl (nN:=5) rfl ⋯ ?ar λcdv A outer s H E f N=>⟨_,(mz' (aB 1 bq.nd mh')
   (mz' (fq (ap ir (mv' 1) (aE bV 'b' T.len d9 (mc' (ce T.f_Search_triples (mv' 0)) mn')) (aA _)) (mz' (aB 2 bq.nd (eF (gZ g N⁻¹ (mv' 0) (mc' (vB (ce T.f_Search_triples (mv' 0)) (mv' 1)) mn'))))
   (mz' (b5 (pQ T.zip (mc' (ce T.f_Search_moves (mv' 0)) (mc' (mv' 2) mn'))) (aY (n:=2) (ac (ah 3 bq.nd) (ac (ah 4 bq.nd) aF))) (mz' (aG (EW.pt (jk (ap ir (ae (mv' 4) mh') mh' (aA _)) (iZ (bX (mf' q N⁻¹ (mc' (mv' 4) mn')))))) (aa (af (ag aQ (gZ k N⁻¹ (mv' 0) (mc' (mv' 1) mn')) (au (mc' (mv' 3) mn'))))) am)
   (aa (d5 (gZ o N⁻¹ (mv' 0) (mc' (mv' 4) (mc' (mv' 1) (mc' (mv' 3) mn'))))))) aaF)
   (aa (uR 1 bq.nd mh' JQ)))) aaF)
   (aa (af fQ)))),?_⟩
 case ar=>intro as Kc ⟨h,r1,r2,rfl,_⟩;rfl
 intro as Kc hl ⟨h,r1,r2,rfl,G,a4,hp,k1,k2⟩;refine ai (MSt.mk [some (.at 0 []),none,none,none,none] [[scQ h r1 r2 [] [((zer h,zer h),0)] [stT h] [none]]] 1) rfl ?_;ext s;have C0:1+pot h (nP h) [((zer h,zer h),0)]≤190001:=by
  unfold pot smL;have:(nP h-1)*(nP h+2)≤nP h*(nP h+2):=adA _ (Nat.sub_le _ _);simp;omega
 refine jy (λn m=>∃(i:Nat) (a b c:Option L2.R) (C:List Ck) (L:List (Pk×Int)) (T:List Tr) (Y:List Wy) (P:List (List Mv)),m=MSt.mk [some (.at 0 []),~~~(.int (i:Int)),a,b,c] [[scQ h r1 r2 C L T Y]] 1/\CaOk h C/\Qv h r1 r2 (1+pot h (nP h) [((zer h,zer h),0)]) L T Y P i 0/\n=190001-i) _ ⟨0,none,none,none,[],_,_,_,_,rfl,⟨abV,λ_ z=>by cases z⟩,Qv.zero G.o,rfl⟩ ?_;intro n m I ⟨i,a,b,c,C,L,T,Y,P,rfl,X,V,hn⟩;have nT:=V.pt;have nPb:nP h≤190000:=aaw (Nat.le_mul_of_pos_right _ (Nat.succ_pos _)) hp;ext s;refine⟨T.map trD,mN T,?_⟩;rw[iO];ext s;refine ba (λz=>?_) (λz=>?_)
 .have hi:i<T.length:=by omega
  let⟨t,Q⟩:∃t,T[i]?=some t:=⟨_,lD hi⟩;let⟨p,v,kp,rfl⟩:=V.here Q;have U:=l8 G.o G.k1 G.k2 G.n1 G.n2 (zh (r1:=r1) (r2:=r2) kp);let⟨W,i2⟩:=zO (f:=trD) Q;ext s;refine uU (p:=[6]) rfl rfl W i2 ?_;rw[show ∀j,f7 0 [6] j (trD (wlk h r1 r2 p)) = .imm (trD (wlk h r1 r2 p))from λ_=>rfl];ext s;refine⟨h,r1,r2,C,L,T,Y,wlk h r1 r2 p,rfl,G,a4,X,U.1,U.2,λy X1=>?_⟩;ext x;refine⟨false,_,false,_,rfl,rfl,?_⟩;refine bx (λj m=>∃(b c:Option L2.R) (L:List (Pk×Int)) (T:List Tr) (Y:List Wy) (P:List (List Mv)),m=MSt.mk [some (.at 0 []),~~~(.int (i:Int)),~~~(.list ((mvs h).map λm=>trD (bth h r1 r2 (wlk h r1 r2 p) m))),b,c] [[scQ h r1 r2 y L T Y]] 1/\Qv h r1 r2 (1+pot h (nP h) [((zer h,zer h),0)]) L T Y P i j/\P[i]?=some p) ⟨b,c,L,T,Y,P,rfl,V,v⟩ ?_ ?_
  .clear V v W i2 Q hi z nT;intro j d m e I ⟨b,c,L,T,Y,P,rfl,V,v⟩ D1 B S;let⟨x1,x2,e1,e2,rfl⟩:=qY e;let⟨mv,M,rfl,hj⟩:=gmap e1;let⟨mv',J,rfl,hj'⟩:=gmap e2;rw[M]at J;cases J;have O:=(h8 (h:=h) (r1:=r1) (r2:=r2) (R:=p) (m:=mv)).symm;have LB:=rq G.o G.k1 G.k2 G.n1 G.n2 U (LD M);generalize bth h r1 r2 (wlk h r1 r2 p) mv=u at *;have nT:=V.pt;have nY:=V.ly;have nP:=V.lt;have nL:=V.dk.len;ext s
   .rfl
   refine mz (x_gM (mz (x_gM (zq ?_))));ext n;refine qO (UW ?_);refine x_JT (λc m=>c=bad u/\m=MSt.mk [some (.at 0 []),~~~(.int (i:Int)),~~~(.list ((mvs h).map λm=>trD (bth h r1 r2 (wlk h r1 r2 p) m))),~~~mv.d,~~~(trD u)] [[scQ h r1 r2 y L T Y]] 1) (λK' hK=>?_) ?_
   .rw[show trD u = .tuple [lnD u.1,lnD u.2.1,.int u.2.2]from rfl];ext s;refine ba (λz=>?_) (λz=>?_)
    .exact hK _ _ ⟨by unfold bad;rw[decide_eq_true z];rfl,rfl⟩
    .ext s;refine⟨u,rfl,?_⟩;ext x;exact hK _ _ ⟨by unfold bad;rw[decide_eq_false z];rfl,rfl⟩
   .rintro c m ⟨rfl,rfl⟩
    cases hb:bad u with
    |true=>
     ext s;refine⟨h,r1,r2,y,L,T,Y,P,i,p,rfl,⟨V.ly,V.wy⟩,∅,v,?_⟩;ext x;have dp:=V.dep i p v;have iP:=(AD.mp v).1;refine lc (by rw[iO,aap];show p.length+1≤_;omega) ?_;have R1:=k1 (p++[mv]) y L T Y (kp.snoc (LD M)) (by rw[<-O];exact hb) (by rw[aao];exact V.min v) (by rw[aao];show p.length+1≤_;omega);rw[aaM]at R1;exact S _ _ R1
    |false=>
     ext s;refine⟨h,r1,r2,y,L,T,Y,u,some (i,mv),(i:Int),mv.d,rfl,rfl,G.o,V.dk.ln,LB.1,LB.2,∅,∅,∅,λhv=>?_,λw ew hw=>?_⟩
     .ext x;exact B _ ⟨_,_,_,_,_,_,rfl,V.new G.o G.k1 G.k2 G.n1 G.n2 v M O hb hv,dj v⟩
     .ext x;exact B _ ⟨_,_,_,_,_,_,rfl,V.old v M (by rw[<-O];exact hb) (by rw[<-O];exact Xv ew hw rfl),v⟩
  .rintro m I ⟨b,c,L,T,Y,P,rfl,V,v⟩;ext n;refine Oo (i:Int) rfl ?_;ext s;refine⟨1,rfl,?_⟩;ext n;have e0:(zipD ((mvs h).map Mv.d) ((mvs h).map λm=>trD (bth h r1 r2 (wlk h r1 r2 p) m))).length=(mvs h).length:=by rw[cw,iO,iO];exact ahj _
   rw[e0]at V;have iP:=(AD.mp v).1;have n1:=V.pt;have n2:=V.lt;exact⟨190001-(i+1),∅,i+1,_,b,c,y,L,T,Y,P,rfl,X1,V.next,rfl⟩
 .ext s;refine k2 C L T Y (λR kR=>(V.done ∅ kR).1) V.dk λZ pZ=>⟨V.nvr ∅ pZ,λt ht=>UU V.dk (λx hx=>?_) t (pZ.mem_iff.mp ht)⟩;have v1:=V.vt _ (V.dl x hx);have v2:=V.dk.len;dsimp only at v1;omega
theorem oa(T:Bl K mg)(D:MthD K "Search" "paper" "Search.paper" b7 ["self"]):f9 P w K mg base "Search" "paper" 1 1 yV:=by
 refine j1 D ox rfl (nN:=1) rfl ⋯ ?ar λy A outer s H E f B=>⟨_,(aa (af (cj cZ 'b' T.tuple d3 (mc' (bu (own:=["x","y","lead"]) (fr:=[]) (ps:=[]) (sc:=(ab b7)) 'e' (bH (eF (zL B.units T.sorted (ce T.f_Search_leads (mv' 0))))) (λ_ _ _ _ _=>(aY (n:=2) (ac (aY (n:=2) (ac (ah 0 (show aaX ((["x","y","lead"]:List Str)++([]:List Str))from by ext K)) (ac (ah 1 (show aaX ((["x","y","lead"]:List Str)++([]:List Str))from by ext K)) aF))) (ac (ah 2 (show aaX ((["x","y","lead"]:List Str)++([]:List Str))from by ext K)) aF)))) (λ_ _ _ _ _=>bw) (λ_ _ _ _ _=>(au (mc' (mv' 0) (mc' (mv' 1) (mc' (mv' 2) mn')))))) mn')))),?_⟩
 case ar=>intro G z ⟨h,r1,o,C,L,T,Y,rfl,_⟩;rfl
 intro G z N ⟨h,r1,o,C,L,T,Y,rfl,x,D,n,k⟩;have g:kyA (ldD L)=true:=AQ x D.ln;refine ai (MSt.mk [some (.at 0 [])] [[scQ h r1 o C L T Y]] 1) rfl ?_;ext s;refine qR rfl g ⟨ldD L,⟨rfl,rfl⟩,.inr g,Qp D n,λv t M=>?_⟩;rw[Jb]at t;let⟨u,p,rfl⟩:=BU t.symm rfl;ext s;refine bx (λi m=>∃a b c:Option L2.R,m=MSt.mk [a,b,c] [[scQ h r1 o C L T Y],(ldT (u.take i)).map trD] 2) ⟨none,none,none,rfl⟩ ?_ ?_
 .rintro i d m e hnp ⟨a,b,c,rfl⟩ D1 hD1 hR1;let⟨q,eq,rfl,I⟩:=gmap e;unfold itL pkD;ext s
  .rfl
  ext s
  .rfl
  ext s;ext n;have J:u.length<100000:=by rw[p.length_eq];exact n
  refine⟨_,rfl,by unfold ldT;rw[iO,iO,aaB,aap];omega,hD1 _ ⟨~~~(lnD q.1.1),~~~(lnD q.1.2),~~~(.int q.2),?_⟩⟩;rw[aaU,eq];unfold ldT;rw[aaM,aaM];rfl
 .rintro m hnp ⟨a,b,c,rfl⟩;ext s;rw[iO,aav];exact k _ (p.map _)
theorem jL(T:Bl K mg)(D:IniD K mg "Search" "Search.__init__" bT ["self","hall","one","other"])(b:FnM P w K mg base "all_moves" 2 1 uW)(G:FnM P w K mg base "first_triple" 2 1 B8)(a:f9 P w K mg base "Search" "met" 1 4 Oj):Cu P w K mg base "Search" 3 3 AU:=by
 refine Lr D jF rfl (nN:=4) rfl ⋯ ?ar λn A outer s H E f e=>⟨_,_,(iY T.f_Search_hall (mv' 1) (iY T.f_Search_rules (au (mc' (mv' 2) (mc' (mv' 3) mn'))) (iY T.f_Search_moves (eF (mf' b e⁻¹ (mc' (mv' 1) mn'))) (iY T.f_Search_steps kU (iY T.f_Search_leads kU (iY T.f_Search_triples (cQ mn') (iY T.f_Search_ways (cQ mn') (FV (aa (d5 (gZ a e⁻¹ (mv' 0) (mc' (mf' G e⁻¹ (mc' (mv' 1) mn')) (mc' (oI jw mh') (mc' fQ mn')))))))))))))),⟨'b',⋯⟩,?_⟩
 case ar=>intro ds i ⟨h,r1,d,rfl,_⟩;rfl
 intro ds i o ⟨h,r1,d,rfl,c,k⟩;refine LJ (MSt.mk [none,~~~h.d,~~~r1.d,~~~d.d] [] 0) rfl ?_;ext s;refine⟨h,rfl,c,?_⟩;ext x;refine⟨h,rfl,c,?_⟩;ext x;have g:=(i6 c r1).ln;refine⟨h,r1,d,[],[],[],[],stT h,none,-1,.none,rfl,rfl,c,(λ_ z=>by cases z),g,g,⋯,⋯,⋯,λp=>?_,λw m=>by cases m⟩;ext x;exact⟨_,rfl,k⟩
theorem pj(T:Bl K mg)(D:DefM K mg "never_worse" gC ["hall","one","other"])(d:FnM P w K mg base "refuse_turns" 1 2 CG)(b:Cu P w K mg base "Search" 3 3 AU)(a:f9 P w K mg base "Search" "worse_run" 9 1 BV)(e:f9 P w K mg base "Search" "paper" 1 1 yV):FnM P w K mg base "never_worse" 10 3 DE:=by
 refine aK D fX rfl (nN:=5) rfl ⋯ ?ar λt A outer s H E f i=>⟨_,(mz' (d5 (mf' d i⁻¹ (mc' (mv' 1) (mc' (mv' 2) mn'))))
   (mz' (aB 3 fX.nd (DJ b i⁻¹ (mc' (mv' 0) (mc' (mv' 1) (mc' (mv' 2) mn')))))
   (mz' (aB 4 fX.nd (sJ a i⁻¹ (mv' 3)))
   (mz' (aG (ap oO (mv' 4) fQ (aA _)) (aa (af (au (mc' aq (mc' (mv' 4) mn'))))) am)
   (aa (af (au (mc' aq (mc' (sJ e i⁻¹ (mv' 3)) mn'))))))))),?_⟩
 case ar=>intro I u ⟨h,r1,g,rfl,_⟩;rfl
 intro I u J ⟨h,r1,g,rfl,G,x,v,k1,k2⟩;refine ai (MSt.mk [~~~h.d,~~~r1.d,~~~g.d,none,none] [] 0) rfl ?_;ext s;refine⟨r1,g,rfl,G.n1,G.n2,?_⟩;ext x;refine⟨h,r1,g,rfl,G.o,?_⟩;ext s;ext n;refine Aa rfl ⋯ ?_;refine⟨h,r1,g,rfl,G,x,v,λR C L m Y B o y q=>?_,λC L m Y S D Z=>?_⟩
 .ext x;rw[if_pos (c:=(!isNone (L2.R.imm (.tuple (R.map Mv.d))))=true) rfl];ext s;exact k1 R B o y q
 .ext x;ext b;have l:L.length<100000:=by
   have:=D.len;have:nP h≤435:=by
    refine Nat.le_of_not_lt λz=>?_;have:436*438≤nP h*(nP h+2):=acK z ∅;omega
   omega
  refine⟨h,r1,g,C,L,m,Y,rfl,G.o,D,l,λk p=>?_⟩;ext x;have n:=p.length_eq;unfold ldT at n;rw[iO]at n;exact k2 k S (Z k p).1 (Z k p).2 ∅
theorem vh(T:Bl K mg)(D:DefM K mg "_law_tape" jR ["_law_script"]):FnM P w K mg base "_law_tape" 1 1 B6:=by
 refine aK D vD rfl (nN:=1) rfl ⋯ ?ar λc A outer s H E f g=>⟨_,(aa (af (GN (lJ aq (eF (cN fx (mv' 0) d8 (c5 mh'))) (lJ aq mh' (lJ aq mh' Fg)))))),?_⟩
 case ar=>intro d b ⟨ns,rfl,_⟩;rfl
 intro d b i ⟨ns,rfl,a,k⟩;refine ai (MSt.mk [~~~(.list (ns.map .int))] [] 0) rfl ?_;ext s;have e:cutD (ns.map abf) none (some 63)=ns.map .int:=Fi (n:=63) (by rw[iO];exact a);rw[e];exact k _ ⟨ns,0,0,rfl,a,∅,∅,∅⟩
theorem uE(T:Bl K mg)(D:DefM K mg "_law_draw" jM ["_law_tape_here","_law_many"]):FnM P w K mg base "_law_draw" 1 2 vx:=by
 refine aK D cA rfl (nN:=6) rfl ⋯ ?ar λI A outer s H E f d=>⟨_,(mz' (aG (ap kg (gn d.units (mv' 0) aq) mh' (aA _)) (mz' (aB 2 cA.nd (ag fz (gn d.units (mv' 0) aq) (mv' 1)))
   (mz' (qb d.units (ag gQ (gn d.units (mv' 0) aq) (mv' 1)) (mv' 0) aq)
   (aa (af (mv' 2))))) am)
   (mz' (aB 3 cA.nd (gn d.units (mv' 0) aq))
   (mz' (qb d.units (ag aQ (mv' 3) mh') (mv' 0) aq)
   (mz' (aB 4 cA.nd (ag bI mh' (mv' 3)))
   (mz' (aG (ap (t9 d.units) (gn d.units (mv' 0) aq) (cQ mn') (aA _)) (aa (aB 4 cA.nd (ae (gn d.units (mv' 0) aq) (ag fz (mv' 3) (aE bV 'b' T.len d9 (mc' (gn d.units (mv' 0) aq) mn')))))) am)
   (mz' (aG (EW.pt (fy (ap y4 (mv' 4) (ag Mf mh' mh') (aA _)) (fH (ap ir (mv' 3) (aE bV 'b' T.len d9 (mc' (gn d.units (mv' 0) aq) mn')) (aA _))))) (mz' (qb d.units (ag gQ (mv' 4) (mv' 1)) (mv' 0) aq)
   (aa (af (ag fz (mv' 4) (mv' 1))))) am)
   (mz' (aB 5 cA.nd (ag fz (ag bI (ag aQ (ag aQ (ag fz (mv' 4) mh') (ag bI mh' (mv' 3))) mh') mh') mh'))
   (mz' (aB 5 cA.nd (ag fz (ag bI (ag aQ (ag aQ (ag gQ (mv' 5) mh') (ag bI mh' (mv' 3))) mh') mh') mh'))
   (aa (af (ag fz (ag gQ (mv' 5) mh') (mv' 1)))))))))))),?_⟩
 case ar=>intro M B ⟨ds,m,c,rfl,_⟩;rfl
 intro M B Q ⟨ds,m,c,rfl,⟨ns,p,q,rfl,C,v,N,n⟩,O,e,G,k⟩;refine ai (MSt.mk [some (.at 0 []),~~~(.int m),none,none,none,none] [[Km ns p q]] 1) rfl ?_;ext s;refine ba (λh=>?_) (λh=>?_)
 .ext s;exact k _ _ (ad7 _ ∅) (adh _ e) ⟨ns,p,q/m,rfl,C,v,∅,agp n ∅⟩
 .ext s;have b:∀x:Int,0≤x->x<m->∀u:Int,0≤u->B (.imm (.int x)) [[Km ns (p+1) u]]:=λx g t u J=>k _ _ g t ⟨ns,p+1,u,rfl,C,∅,∅,J⟩;have a:∀y:Int,0≤y/64%m/\y/64%m<m:=λy=>⟨ad7 _ ∅,adh _ e⟩
  cases ns with
  | nil=>
   refine x_ne rfl rfl rfl rfl ?_;ext s;refine jf ?_;ext s;refine ba (λg=>?_) (λg=>?_)
   .ext s;refine ba (λt=>?_) (λt=>?_)
    .ext s;exact b _ (ad7 _ ∅) (adh _ e) _ (agp (adg ⋯ g) ∅)
    .ext s;exact b _ (a _).1 (a _).2 _ n
   .ext s;exact b _ (a _).1 (a _).2 _ n
  | cons z ns=>
   refine x_ne rfl rfl (vm _) rfl ?_;ext s;refine jg ?_;ext s;have o:(0:Int)<((List.map abf (z::ns)).length:Int):=by simp only[iO,aat];omega
   refine Ki o ?_;let⟨x,L⟩:=Ij (ns:=z::ns) (i:=p%((List.map abf (z::ns)).length:Int)) (ad7 _ ∅) (by have:=adh p o;simp only[iO]at this⊢;exact this);refine AK L ?_;ext s;refine ba (λg=>?_) (λg=>?_)
   .ext s;refine ba (λt=>?_) (λt=>?_)
    .ext s;exact b _ (ad7 _ ∅) (adh _ e) _ (agp (adg ⋯ g) ∅)
    .ext s;exact b _ (a _).1 (a _).2 _ n
   .ext s;exact b _ (a _).1 (a _).2 _ n
theorem uL(T:Bl K mg)(D:DefM K mg "_law_frac" jV ["_law_top","_law_bottom"]):FnM P w K mg base "_law_frac" 1 2 SG:=by
 refine aK D iU rfl (nN:=4) rfl ⋯ ?ar λq A outer s H E f I=>⟨_,(mz' (jU (i:=2) (j:=3) iU.nd rfl rfl ⋯ rfl rfl (mc' (mv' 0) (mc' (mv' 1) mn')) rfl)
   (mz' (fq (ap kg (mv' 3) mh' (aA _)) (aa (jU (i:=2) (j:=3) iU.nd rfl rfl ⋯ rfl rfl (mc' (mv' 3) (mc' (ag fz (mv' 2) (mv' 3)) mn')) rfl)) aaF)
   (aa (af (au (mc' (ag gQ (mv' 0) (mv' 2)) (mc' (ag gQ (mv' 1) (mv' 2)) mn'))))))),?_⟩
 case ar=>intro C t ⟨a,b,rfl,_⟩;rfl
 intro C t L ⟨a,b,rfl,v,d,p,k⟩;refine ai (MSt.mk [~~~(.int a),~~~(.int b),none,none] [] 0) rfl ?_;ext s;refine jy (λn m=>∃x y:Nat,m=MSt.mk [~~~(.int a),~~~(.int b),~~~(.int x),~~~(.int y)] [] 0/\x.gcd y=a.gcd b/\x<1000000000/\y<1000000000/\n=y) b ⟨a,b,rfl,rfl,v,p,rfl⟩ ?_;intro n m J ⟨x,y,rfl,c,z,e,rfl⟩;ext s;refine ba (λg=>?_) (λG=>?_)
 .ext s;have o:0<n:=by omega
  have B:=aha x o;exact⟨x%n,B,n,x%n,rfl,by rw[Nat.gcd_comm,<-Nat.gcd_rec,Nat.gcd_comm,c],e,∅,rfl⟩
 .have hy0:n=0:=by omega
  subst hy0;rw[Nat.gcd_zero_right]at c;have u:0<x:=by rw[c];exact afO _ d
  ext s;ext s;rw[c];exact k
theorem kG(T:Bl K mg)(D:DefM K mg "_law_all_lines" cF ["_law_rooms"]):FnM P w K mg base "_law_all_lines" 1 1 kI:=by
 refine aK D bU rfl (nN:=5) rfl ⋯ ?ar λJ A outer s H E f C=>⟨_,(mz' (aB 1 bU.nd (cQ (mc' (au mn') mn')))
   (mz' (b5 (bH (mv' 0)) (ah 2 bU.nd) (mz' (aB 3 bU.nd (cQ mn'))
   (mz' (b5 (bH (mv' 1)) (pq (i:=4) bU.nd rfl (ada rfl)) (aa (d5 (sd PySem.F.slot_list_extend PySem.F.type_list_extend yw (mv' 3) (mc' (bu (own:=["_law_k"]) (fr:=["_law_lines"]) (ps:=[4]) (sc:=(ab cF)) 'e' (bP 'b' T.range (mc' (ag aQ (mv' 2) mh') mn')) (λ_ _ _ _ _=>(ah 0 (show aaX ((["_law_k"]:List Str)++(["_law_lines"]:List Str))from by ext K))) (λ_ _ _ _ _=>bw) (λ_ _ _ _ _=>(ag aQ (mv' 1) (au (mc' (mv' 0) mn'))))) mn')))) aaF)
   (aa (aB 1 bU.nd (mv' 3))))) aaF)
   (aa (af (mv' 1))))),?_⟩
 case ar=>intro N M ⟨rs,rfl,_⟩;rfl
 intro N M U ⟨rs,rfl,Q,G,k⟩;refine ai (MSt.mk [~~~(.list (rs.map λ(r:Nat)=>.int (r:Int))),none,none,none,none] [] 0) rfl ?_;ext s;refine gg ?_;ext x;refine dB (λi m=>∃a c,m=MSt.mk [~~~(.list (rs.map λ(r:Nat)=>.int (r:Int))),some (.obj 0),a,none,c] [(((rs.take i).foldl M3.stepL [[]]).map lnD)] 0) ⟨none,none,rfl⟩ ?_ ?_
 .rintro i d m e n ⟨a,c,rfl⟩;let⟨r,x,rfl,R⟩:=gmap e;have r6:=G r (LD x);generalize g:(rs.take i).foldl M3.stepL [[]]=p;have q:∀a∈p,a.length≤4:=by
   intro a B;rw[<-g]at B;have:=M3.allR_len (by rw[<-M3.allL_eq];exact B);rw[this,aaB];omega
  have I:p.length≤2401:=by
   rw[<-g];exact M3.fold_small (by rw[aaB];omega) (λr C=>G r (ab4 C))
  have o:((rs.take (i+1)).foldl M3.stepL [[]])=M3.stepL p r:=by
   rw[aaU,x,ahn,g];rfl
  rw[o];ext s;refine gg ?_;ext x;refine qf (λi m=>∃a,m=MSt.mk [~~~(.list (rs.map λ(r:Nat)=>.int (r:Int))),some (.obj 0),~~~(.int r),some (.obj 1),a] [p.map lnD,(M3.stepL (p.take i) r).map lnD] 1) ⟨c,rfl⟩ ?_ ?_ ?_
  .rintro j m ⟨a,rfl⟩;rfl
  .rintro j d m ej nj ⟨a,rfl⟩;let⟨l,v,rfl,S⟩:=gmap ej;have O:=q l (LD v);ext s;refine⟨∅,∅,?_⟩;have L:((r:Int)+1).toNat=r+1:=by omega
   rw[L];ext n;refine dB (λz m=>∃b,m=MSt.mk [b,~~~(lnD l)] [p.map lnD,(M3.stepL (p.take j) r).map lnD,((aaz z).map λy=>l++[y]).map lnD] 3) ⟨none,rfl⟩ ?_ ?_
   .rintro z dz m ez nz ⟨b,rfl⟩;let⟨u,rfl⟩:=b9 ez;ext s;refine lc (by rw[aap,bg];simp;omega) ?_;ext s;refine⟨_,rfl,by rw[aap];simp;omega,~~~(.int (0+(z:Int))),?_⟩;have t:((aaz (z+1)).map λy=>l++[y]).map lnD=((aaz z).map λy=>l++[y]).map lnD++[.tuple (natD l++[.int (0+(z:Int))])]:=by
     rw[act];simp[lnD,natD]
    rw[t];rfl
   .rintro m n ⟨b,rfl⟩;rw[aM];ext s;have u:((M3.stepL (p.take j) r).map lnD).length+(((aaz (r+1)).map λy=>l++[y]).map lnD).length≤aak:=by
     rw[aap,iO,iO,iO,aa7,M3.stepL_length,aaB];have:min j p.length*(r+1)≤2401*7:=acK ∅ ∅;omega
    refine' IX (ds:=(M3.stepL (p.take j) r).map lnD) ?eb u ?_
    case eb=>rfl
    have t:(M3.stepL (p.take (j+1)) r).map lnD=(M3.stepL (p.take j) r).map lnD++((aaz (r+1)).map λy=>l++[y]).map lnD:=by
     rw[M3.stepL_take v,aaM]
    rw[t];exact⟨_,rfl⟩
  .rintro m n ⟨a,rfl⟩;rw[iO,aav];ext n;refine VH ?_;refine Re rfl ?_;refine zl [1] (MSt.mk [~~~(.list (rs.map λ(r:Nat)=>.int (r:Int))),some (.obj 0),~~~(.int r),none,none] [(M3.stepL p r).map lnD] 0) (JX rfl rfl rfl rfl rfl rfl ⟨rfl,⟨1,rfl,rfl⟩,rfl,trivial,trivial,trivial⟩) ⟨_,_,rfl⟩
 .rintro m n ⟨a,c,rfl⟩;rw[iO,aav,show rs.foldl M3.stepL [[]]=M3.allL rs from rfl,M3.allL_eq];ext s;exact k
theorem vk(T:Bl K mg)(D:DefM K mg "_law_hall" ci ["_law_tape_here","_law_most"])(G:FnM P w K mg base "_law_draw" 1 2 vx)(v:FnM P w K mg base "_law_frac" 1 2 SG)(u:FnM P w K mg base "_law_all_lines" 1 1 kI):FnM P w K mg base "_law_hall" 3 2 xh:=by
 refine aK D b6 rfl (nN:=7) rfl ⋯ ?ar λcdv A outer s H E f B=>⟨_,(mz' (aB 2 b6.nd (ae (cQ (mc' mh' (mc' mh' (mc' mh' (mc' mh' (mc' mh' (mc' mh' (mc' mh' (mc' mh' mn'))))))))) (mf' G B⁻¹ (mc' (mv' 0) (mc' mh' mn')))))
   (mz' (i9 (i:=3) (own:=["_law_k"]) (fr:=["_law_tape_here"]) (ps:=[0]) (sc:=(ab ci)) 'e' b6.nd rfl rfl (bP 'b' T.range (mc' (mv' 2) mn')) (λ_ _ _ _ _=>(ah 0 (show aaX ((["_law_k"]:List Str)++(["_law_tape_here"]:List Str))from by ext K))) (λ_ _ _ _ _=>bw) (λ_ _ _ _ _=>(au (mc' (ag aQ mh' (mf' G B⁻¹ (mc' (mv' 1) (mc' mh' mn')))) (mc' (ag aQ mh' (mf' G B⁻¹ (mc' (mv' 1) (mc' mh' mn')))) mn')))))
   (mz' (aG (ap (bh B.units) (mf' G B⁻¹ (mc' (mv' 0) (mc' mh' mn'))) mh' (aA _)) (aa (aB 3 b6.nd (ag bI (cQ (mc' (ae (mv' 3) mh') mn')) (mv' 2)))) am)
   (mz' (fq (ap kg (aE bV 'b' T.len d9 (mc' (mf' u B⁻¹ (mc' (eF (bu (own:=["_law_top","_law_room"]) (fr:=[]) (ps:=[]) (sc:=(ab ci)) 'e' (bH (mv' 3)) (λ_ _ _ _ _=>(aY (n:=2) (ac (ah 0 (show aaX ((["_law_top","_law_room"]:List Str)++([]:List Str))from by ext K)) (ac (ah 1 (show aaX ((["_law_top","_law_room"]:List Str)++([]:List Str))from by ext K)) aF)))) (λ_ _ _ _ _=>bw) (λ_ _ _ _ _=>(mv' 1)))) mn')) mn')) (mv' 1) (aA _)) (mz' (aG (ap (bh B.units) (aE (fu rfl) 'b' T.max oG (mc' (bu (own:=["_law_top","_law_room"]) (fr:=[]) (ps:=[]) (sc:=(ab ci)) 'e' (bH (mv' 3)) (λ_ _ _ _ _=>(aY (n:=2) (ac (ah 0 (show aaX ((["_law_top","_law_room"]:List Str)++([]:List Str))from by ext K)) (ac (ah 1 (show aaX ((["_law_top","_law_room"]:List Str)++([]:List Str))from by ext K)) aF)))) (λ_ _ _ _ _=>bw) (λ_ _ _ _ _=>(mv' 1))) mn')) mh' (aA _)) (aa (aB 3 b6.nd (cN fx (mv' 3) (c5 mh') d8))) am)
   (aa (i9 (i:=3) (own:=["_law_top","_law_room"]) (fr:=[]) (ps:=[]) (sc:=(ab ci)) 'e' b6.nd rfl rfl (bH (mv' 3)) (λ_ _ _ _ _=>(aY (n:=2) (ac (ah 0 (show aaX ((["_law_top","_law_room"]:List Str)++([]:List Str))from by ext K)) (ac (ah 1 (show aaX ((["_law_top","_law_room"]:List Str)++([]:List Str))from by ext K)) aF)))) (λ_ _ _ _ _=>bw) (λ_ _ _ _ _=>(au (mc' (mv' 0) (mc' (aE (Bv rfl) 'b' T.max oG (mc' mh' (mc' (ag CP (mv' 1) mh') mn'))) mn'))))))) aaF)
   (mz' (aB 4 b6.nd (ag aQ mh' (mf' G B⁻¹ (mc' (mv' 0) (mc' mh' mn')))))
   (mz' (gl (i:=5) b6.nd rfl (ada rfl) (ag aQ (ag aQ (mv' 4) (aE (zG rfl) 'b' T.sum tJ (mc' (bu (own:=["_law_top","_law_room"]) (fr:=[]) (ps:=[]) (sc:=(ab ci)) 'e' (bH (mv' 3)) (λ_ _ _ _ _=>(aY (n:=2) (ac (ah 0 (show aaX ((["_law_top","_law_room"]:List Str)++([]:List Str))from by ext K)) (ac (ah 1 (show aaX ((["_law_top","_law_room"]:List Str)++([]:List Str))from by ext K)) aF)))) (λ_ _ _ _ _=>bw) (λ_ _ _ _ _=>(mv' 0))) mn'))) (ae (cQ (mc' mh' (mc' mh' (mc' mh' (mc' mh' (mc' mh' mn')))))) (mf' G B⁻¹ (mc' (mv' 0) (mc' mh' mn'))))))
   (mz' (aB 6 b6.nd (cj cZ 'b' T.tuple d3 (mc' (bu (own:=["_law_top","_law_room"]) (fr:=["_law_whole"]) (ps:=[5]) (sc:=(ab ci)) 'e' (bH (mv' 3)) (λ_ _ _ _ _=>(aY (n:=2) (ac (ah 0 (show aaX ((["_law_top","_law_room"]:List Str)++(["_law_whole"]:List Str))from by ext K)) (ac (ah 1 (show aaX ((["_law_top","_law_room"]:List Str)++(["_law_whole"]:List Str))from by ext K)) aF)))) (λ_ _ _ _ _=>bw) (λ_ _ _ _ _=>(au (mc' (mf' v B⁻¹ (mc' (mv' 0) (mc' (mv' 2) mn'))) (mc' (mv' 1) mn'))))) mn')))
   (aa (af (au (mc' (mf' v B⁻¹ (mc' (mv' 4) (mc' (mv' 5) mn'))) (mc' (mv' 6) (mc' (cY (bh B.units) (mf' G B⁻¹ (mc' (mv' 0) (mc' mh' mn'))) mh' (aA _)) mn'))))))))))))),?_⟩
 case ar=>intro as Kc ⟨t,c,mo,rfl,_⟩;rfl
 intro as Kc hl ⟨t,c,mo,rfl,y,hc,hmo,k⟩;refine ai (MSt.mk [some (.at 0 []),~~~(.int (mo:Int)),none,none,none,none,none] [[t]] 1) rfl ?_;ext s;refine⟨t,_,_,rfl,y,∅,∅,∅,λq t Q R y=>?_⟩;let⟨n,hn1,hn4,en⟩:∃n:Nat,1≤n/\n≤4/\atI [abf 2,.int 2,.int 3,.int 1,.int 2,.int 3,.int 2,.int 4] q=some (.int (n:Int)):=by
  have:q=0\/q=1\/q=2\/q=3\/q=4\/q=5\/q=6\/q=7:=by omega
  rcases this with rfl|rfl|rfl|rfl|rfl|rfl|rfl|rfl
  .exact⟨2,⋯,⋯,rfl⟩
  .exact⟨2,⋯,⋯,rfl⟩
  .exact⟨3,⋯,⋯,rfl⟩
  .exact⟨1,⋯,⋯,rfl⟩
  .exact⟨2,⋯,⋯,rfl⟩
  .exact⟨3,⋯,⋯,rfl⟩
  .exact⟨2,⋯,⋯,rfl⟩
  .exact⟨4,⋯,⋯,rfl⟩
 ext n;refine qx en ?_;ext s;refine⟨∅,∅,?_⟩;rw[aa6];ext n;refine bx (λi m=>∃a t ps,m=MSt.mk [a,some (.at 0 [])] [[t],ps.map prD] 2/\TapeK (c+1+2*i) t/\ps.length=i/\∀p∈ps,1≤p.1/\p.1≤3/\1≤p.2/\p.2≤4) ⟨none,t,[],rfl,y,rfl,λ_ h=>by cases h⟩ ?_ ?_
 .rintro i d m e hnp ⟨a,t,ps,rfl,y,M,U⟩ D1 hD1 hR1;let⟨V,rfl⟩:=b9 e;ext s;refine⟨t,_,c+1+2*i,rfl,y,∅,∅,∅,λZ t Q R y=>?_⟩;ext x;refine⟨t,_,c+1+2*i+1,rfl,y,∅,∅,∅,λq2 t hq2 hq3 y=>?_⟩;ext x;let⟨Z,rfl⟩:=ac2 Q;let⟨q2,rfl⟩:=ac2 hq2;refine⟨_,rfl,by rw[aap,iO];omega,hD1 _ ⟨~~~(.int (0+(i:Int))),t,ps++[(1+Z,1+q2)],?_,y.mono ∅,by simp[M],λp I=>?_⟩⟩
  .rw[aaM];rfl
  .obtain h|h:=aaV.mp I
   .exact U p h
   .cases aad.mp h
    exact⟨by show 1≤1+Z;omega,by show 1+Z≤3;omega,by show 1≤1+q2;omega,by show 1+q2≤4;omega⟩
 intro m hnp ⟨a,t,ps,rfl,y,M,U⟩;rw[aM]at M;have y:=y.mono (c':=c+9) (by rw[aM];omega);have g:SvK ps:=⟨∅,∅,U⟩;ext n;refine gg ?_;ext n;refine qO ?_;refine x_JS (λm=>∃ps t,m=MSt.mk [some (.at 0 []),~~~(.int (mo:Int)),~~~(.int (n:Int)),some (.obj 1),none,none,none] [[t],ps.map prD] 1/\TapeK (c+10) t/\SvK ps) (λN J=>?_) ?_
 .ext s;refine⟨t,_,_,rfl,y,∅,∅,∅,λZ t Q R y=>?_⟩;ext x;refine ba (λz=>?_) (λz=>?_)
  .obtain⟨p0,o,rfl⟩:∃p0 o,ps=p0::o:=by
    cases ps with
    |nil=>simp at M;omega
    |cons p0 sp=>exact⟨p0,sp,rfl⟩
   ext s;refine gG (d:=prD p0) rfl (show atI ((p0::o).map prD) 0=some (prD p0)from bf (j:=0) (xs:=(p0::o).map prD) rfl) ?_;ext s;refine Jd ∅ ∅ (by simp;omega) ?_;rw[aa6,Dn];refine ie (k:=1) rfl (show 1≤1 by decide) (λj hj=>?_) (J _ ⟨aaq n p0,t,by rw[ahb];rfl,y,g.rep aah hn1 hn4⟩)
   match j with
   |0|1|2|4|5|6=>exact λz=>by cases z
   |3=>exact(hj rfl).elim
   |n+7=>exact λz=>by cases z
  .ext s;exact J _ ⟨ps,t,rfl,y,g⟩
 clear g M U y;intro _ ⟨ps,t,rfl,y,g⟩;refine qO ?_;refine Im (λz m=>∃ps,m=MSt.mk [some (.at 0 []),~~~(.int (mo:Int)),~~~(.int (n:Int)),some (.obj 1),none,none,none] [[t],ps.map prD] 1/\SvK ps/\z=(bm ps).sum) _ ⟨ps,rfl,g,rfl⟩ ?_;clear g;intro z m hnp ⟨ps,rfl,g,rfl⟩ D0 E0 hD0 hR0 hE0;ext s;let⟨s1,s4,_⟩:=id g;refine mf (λi m=>∃a b,m=MSt.mk [a,b] [[t],ps.map prD,(ps.take i).map Oh] 3) ⟨none,none,rfl⟩ ?_ ?_ ?_
 .rintro i m ⟨a,b,rfl⟩;rfl
 .rintro i d m e hnp2 ⟨a,b,rfl⟩ D1 hD1 hR1;let⟨p,C,rfl,V⟩:=gmap e;have I:=g.2.2 p (LD C);rw[cK _ C]at hD1;dsimp only[prD];ext s
  .rfl
  ext s;exact⟨_,rfl,by rw[aap,iO,aaB];omega,hD1 _ ⟨~~~(.int (p.1:Int)),~~~(.int (p.2:Int)),rfl⟩⟩
 intro m hm ⟨a,b,rfl⟩;rw[iO,aav,t6];ext x;refine⟨bm ps,rfl,g.six.1,g.six.2,?_⟩;ext x;rw[iO];refine ba (λhb=>?_) (λhb=>?_)
 .have hb':mo<(M3.allR (bm ps)).length:=by omega
  refine qO ?_;refine x_JS (λm=>∃o,m=MSt.mk [some (.at 0 []),~~~(.int (mo:Int)),~~~(.int (n:Int)),some (.obj 1),none,none,none] [[t],o.map prD] 1/\SvK o/\(bm (jH o)).sum<(bm ps).sum) (λN J=>?_) ?_
  .ext s;refine mf (λi m=>∃a b,m=MSt.mk [a,b] [[t],ps.map prD,(ps.take i).map Oh] 3) ⟨none,none,rfl⟩ ?_ ?_ ?_
   .rintro i m ⟨a,b,rfl⟩;rfl
   .rintro i d m e hnp2 ⟨a,b,rfl⟩ D1 hD1 hR1;let⟨p,C,rfl,V⟩:=gmap e;have I:=g.2.2 p (LD C);rw[cK _ C]at hD1;dsimp only[prD];ext s
    .rfl
    ext s;exact⟨_,rfl,by rw[aap,iO,aaB];omega,hD1 _ ⟨~~~(.int (p.1:Int)),~~~(.int (p.2:Int)),rfl⟩⟩
   intro m hm ⟨a,b,rfl⟩;rw[iO,aav,t6];ext x;refine tU rfl (Ae (bm ps)) (λz=>?_) λx hx hx2=>?_
   .have:=congrArg adx z;rw[iO,bm,iO,ad5]at this;omega
   ext s;refine ba (λz=>?_) (λz=>?_)
   .ext s;have h1:∀r∈bm ps,r≤1:=λr B=>by
     have:=hx2 (r:Int) (aar.mpr ⟨r,B,rfl⟩);omega
    let⟨p,o,rfl⟩:∃p o,ps=p::o:=by
     cases ps with
     |nil=>simp at s1
     |cons p o=>exact⟨p,o,rfl⟩
    let⟨sv',dec⟩:=g.tail h1 hmo hb';rw[show cutD ((p::o).map prD) (some 1) none=o.map prD from(jb 1)];refine ie (k:=1) rfl (show 1≤1 by decide) (λj hj=>?_) (J _ ⟨o,rfl,sv',dec⟩)
    match j with
    |0|1|2|4|5|6=>exact λz=>by cases z
    |3=>exact(hj rfl).elim
    |n+7=>exact λz=>by cases z
   .ext s;refine J _ ⟨ps,rfl,g,?_⟩;let⟨r,B,er⟩:=aar.mp hx;let⟨p2,Y,e2⟩:=aar.mp B;have:=(g.2.2 p2 Y).2.2.1;exact(nH (ps:=ps) λp I=>(g.2.2 p I).2.2.1).2 ⟨p2,Y,∅⟩
  intro _ ⟨o,rfl,O,W⟩;have s4':=O.2.1;ext s;refine mf (λi m=>∃a b,m=MSt.mk [a,b] [[t],o.map prD,(o.take i).map Uo] 3) ⟨none,none,rfl⟩ ?_ ?_ ?_
  .rintro i m ⟨a,b,rfl⟩;rfl
  .rintro i d m e hnp2 ⟨a,b,rfl⟩ D1 hD1 hR1;let⟨p,C,rfl,V⟩:=gmap e;have I:=O.2.2 p (LD C);rw[cK _ C]at hD1;dsimp only[prD];ext s
   .rfl
   ext s;have em:(if (p.2:Int)-1>1 then(p.2:Int)-1 else 1)=((max 1 (p.2-1):Nat):Int):=by
    split<;>omega
   rw[em];exact⟨_,rfl,by rw[aap,iO,aaB];omega,hD1 _ ⟨~~~(.int (p.1:Int)),~~~(.int (p.2:Int)),rfl⟩⟩
  intro m hm ⟨a,b,rfl⟩;rw[iO,aav,Au];ext n;refine ie (k:=1) rfl (show 1≤1 by decide) (λj hj=>?_) (hD0 _ _ W ⟨jH o,rfl,Ga O,rfl⟩)
  match j with
  |0|1|2|4|5|6=>exact λz=>by cases z
  |3=>exact(hj rfl).elim
  |n+7=>exact λz=>by cases z
 .refine hE0 _ ?_;ext s;refine⟨t,_,_,rfl,y,∅,∅,∅,λL t hc0 hc1 y=>?_⟩;let⟨L,rfl⟩:=ac2 hc0;ext x;refine mf (λi m=>∃a b,m=MSt.mk [a,b] [[t],ps.map prD,(ps.take i).map topD] 3) ⟨none,none,rfl⟩ ?_ ?_ ?_
  .rintro i m ⟨a,b,rfl⟩;rfl
  .rintro i d m e hnp2 ⟨a,b,rfl⟩ D1 hD1 hR1;let⟨p,C,rfl,V⟩:=gmap e;have I:=g.2.2 p (LD C);rw[cK _ C]at hD1;dsimp only[prD];ext s
   .rfl
   ext s;exact⟨_,rfl,by rw[aap,iO,aaB];omega,hD1 _ ⟨~~~(.int (p.1:Int)),~~~(.int (p.2:Int)),rfl⟩⟩
  intro m hm ⟨a,b,rfl⟩;rw[iO,aav,D7];ext x;refine⟨_,_,rfl,Ae (vd ps),?_⟩;rw[sumK];have hsum:(vd ps).sum≤12:=by
   have:=wZ (ps:=ps) λp I=>(g.2.2 p I).2.1;omega
  generalize (vd ps).sum=S at hsum;ext s;refine⟨t,_,_,rfl,y,∅,∅,∅,λq t Q R y=>?_⟩;let⟨X,hmr,emr⟩:∃X:Nat,X≤40/\atI [abf 0,.int 0,.int 1,.int 7,.int 40] q=some (.int (X:Int)):=by
   have:q=0\/q=1\/q=2\/q=3\/q=4:=by omega
   rcases this with rfl|rfl|rfl|rfl|rfl
   .exact⟨0,⋯,rfl⟩
   .exact⟨0,⋯,rfl⟩
   .exact⟨1,⋯,rfl⟩
   .exact⟨7,⋯,rfl⟩
   .exact⟨40,⋯,rfl⟩
  ext n;refine qx emr ?_;ext s;let⟨wh,ewh,hw1,hw2⟩:∃wh:Nat,(1+(L:Int)+(S:Int)+(X:Int))=(wh:Int)/\1≤wh/\wh<1000:=⟨1+L+S+X,∅,∅,∅⟩;rw[ewh];ext x;refine mf (λi m=>∃a b,m=MSt.mk [a,b,~~~(.int (wh:Int))] [[t],ps.map prD,(ps.take i).map λp=>(srvK wh p).d] 3) ⟨none,none,rfl⟩ ?_ ?_ ?_
  .rintro i m ⟨a,b,rfl⟩;rfl
  .rintro i d m e hnp2 ⟨a,b,rfl⟩ D1 hD1 hR1;let⟨p,C,rfl,V⟩:=gmap e;have I:=g.2.2 p (LD C);rw[cK _ C]at hD1;dsimp only[prD];ext s
   .rfl
   ext s;refine⟨p.1,wh,rfl,∅,∅,∅,?_⟩;ext x;exact⟨_,rfl,by rw[aap,iO,aaB];omega,hD1 _ ⟨~~~(.int (p.1:Int)),~~~(.int (p.2:Int)),rfl⟩⟩
  intro m hm ⟨a,b,rfl⟩;rw[iO,aav];ext x;refine⟨1+L,wh,rfl,∅,∅,∅,?_⟩;ext x;refine⟨t,_,_,rfl,y,∅,∅,∅,λq t Q R y=>?_⟩;ext x;have f1:=zQ (p:=1+L) (wh:=wh) ∅ ∅ hw1 ∅;have hk:=k ⟨(1+L)/(1+L).gcd wh,wh/(1+L).gcd wh,ps.map (srvK wh),decide (q=0)⟩ t ⟨f1.1,f1.2.1,f1.2.2.1,f1.2.2.2,by rw[iO];exact s1,by rw[iO];exact s4,λs hs=>?_⟩ (by
   rw[show Hall.rs ⟨(1+L)/(1+L).gcd wh,wh/(1+L).gcd wh,ps.map (srvK wh),decide (q=0)⟩=bm ps by unfold Hall.rs bm;rw[aba];rfl];omega) (y.mono ∅)
  .unfold Hall.d at hk;rw[aba]at hk;exact hk
  .obtain⟨p,I,rfl⟩:=aar.mp hs;have h:=g.2.2 p I;have f2:=zQ (p:=p.1) (wh:=wh) ∅ ∅ hw1 ∅;exact⟨f2.1,f2.2.1,f2.2.2.1,f2.2.2.2,h.2.2.1,by show p.2≤6;omega⟩
theorem vA(T:Bl K mg)(D:DefM K mg "_law_rule" fg ["_law_tape_here","_law_hall_here"])(g:FnM P w K mg base "_law_draw" 1 2 vx)(G:FnM P w K mg base "_law_all_lines" 1 1 kI):FnM P w K mg base "_law_rule" 2 2 Ay:=by
 refine aK D iG rfl (nN:=4) rfl ⋯ ?ar λU A outer s H E f v=>⟨_,(mz' (aB 2 iG.nd (mf' g v⁻¹ (mc' (mv' 0) (mc' mh' mn'))))
   (mz' (aG (ap ir (mv' 2) mh' (aA _)) (aa (af (au (mc' (ae (cQ (mc' aq (mc' aq (mc' aq (mc' aq mn'))))) (mv' 2)) mn')))) am)
   (mz' (aB 3 iG.nd (aE bV 'b' T.len d9 (mc' (mf' G v⁻¹ (mc' (eF (bu (own:=["_law_speed","_law_room"]) (fr:=[]) (ps:=[]) (sc:=(ab fg)) 'e' (bH (ae (mv' 1) mh')) (λ_ _ _ _ _=>(aY (n:=2) (ac (ah 0 (show aaX ((["_law_speed","_law_room"]:List Str)++([]:List Str))from by ext K)) (ac (ah 1 (show aaX ((["_law_speed","_law_room"]:List Str)++([]:List Str))from by ext K)) aF)))) (λ_ _ _ _ _=>bw) (λ_ _ _ _ _=>(mv' 1)))) mn')) mn')))
   (aa (af (au (mc' aq (mc' (cj cZ 'b' T.tuple d3 (mc' (bu (own:=["_law_k"]) (fr:=["_law_tape_here","_law_hall_here"]) (ps:=[0,1]) (sc:=(ab fg)) 'e' (bP 'b' T.range (mc' (mv' 3) mn')) (λ_ _ _ _ _=>(ah 0 (show aaX ((["_law_k"]:List Str)++(["_law_tape_here","_law_hall_here"]:List Str))from by ext K))) (λ_ _ _ _ _=>bw) (λ_ _ _ _ _=>(mf' g v⁻¹ (mc' (mv' 1) (mc' (aE bV 'b' T.len d9 (mc' (ae (mv' 2) mh') mn')) mn'))))) mn')) mn')))))))),?_⟩
 case ar=>intro Q N ⟨t,c,h,rfl,_⟩;rfl
 intro Q N Y ⟨t,c,h,rfl,o,X,q,k⟩;have n1:=q.n1;have n4:=q.n4;refine ai (MSt.mk [some (.at 0 []),~~~h.d,none,none] [[t]] 1) rfl ?_;ext s;refine⟨t,_,c,rfl,o,∅,⋯,⋯,λr t R V o=>?_⟩;ext x;refine ba (λz=>?_) (λz=>?_)
 .ext s;let⟨x,rl,ex,I,L,O⟩:∃(x:Str) (rl:Rule),atI [aeC "random",.str "two",.str "least",.str "quick"] r=some (.str x)/\abp [.str x]=rl.d/\rl.Ok h/\rl≠.turns:=by
   rcases (show r=0\/r=1\/r=2\/r=3 by omega)with rfl|rfl|rfl|rfl
   .exact⟨_,.random,rfl,rfl,trivial,Rule.noConfusion⟩
   .exact⟨_,.two,rfl,rfl,trivial,Rule.noConfusion⟩
   .exact⟨_,.least,rfl,rfl,trivial,Rule.noConfusion⟩
   .exact⟨_,.quick,rfl,rfl,trivial,Rule.noConfusion⟩
  refine qx ex ?_;ext s;rw[I];exact k rl t L O (o.mono ∅)
 .ext s;refine dB (λi m=>∃a b,m=MSt.mk [a,b] [[t],(h.rs.take i).map λ(r:Nat)=>.int (r:Int)] 2) ⟨none,none,rfl⟩ ?_ ?_
  .rintro i d m e n ⟨a,b,rfl⟩;let⟨s,S,rfl,J⟩:=gmap e;ext d
   .rfl
   ext s;refine⟨_,rfl,by rw[aap,iO,aaB];omega,~~~(.tuple [.int s.a,.int s.b]),~~~(.int s.r),?_⟩;rw[aaU,Hall.rs_get S,aaM];rfl
  intro m n ⟨a,b,rfl⟩;have u:=h.rsl;rw[iO,<-u,aav];ext s;have W:(M3.allR h.rs).length≤2401:=yJ (by rw[h.rsl];exact n4) q.r6;refine⟨h.rs,rfl,∅,q.r6,?_⟩;ext x;rw[iO];refine⟨∅,∅,?_⟩;rw[aa6];ext n;refine dB (λi m=>∃a C ps,m=MSt.mk [a,some (.at 0 []),~~~h.d] [[C],natD ps] 2/\TapeK (c+1+i) C/\ps.length=i/\∀p∈ps,p<h.ss.length) ⟨none,t,[],rfl,o,rfl,λ_ z=>by cases z⟩ ?_ ?_
  .rintro i d m e n ⟨a,t,ps,rfl,o,hpl,hps⟩;let⟨J,rfl⟩:=b9 e;ext s;refine⟨t,_,_,rfl,o,∅,by rw[iO];omega,by rw[iO];omega,λp t B y o=>?_⟩;ext x;rw[iO]at y;let⟨p,rfl⟩:=ac2 B;exact⟨_,rfl,by rw[aap,natD,iO];omega,_,t,ps++[p],by rw[x9],o,by simp;omega,λx M=>(aaV.mp M).elim (hps x) λz=>by rw[aad.mp z];omega⟩
  .rintro m n ⟨a,t,ps,rfl,o,hpl,hps⟩;rw[aM]at o hpl;ext x;exact k (.told ps) t ⟨∅,hps⟩ Rule.noConfusion (o.mono ∅)
theorem ur(T:Bl K mg)(D:DefM K mg "_law_sent" gN ["_law_hall_here","_law_rule_here","_law_lines","_law_order"])(G:FnM P w K mg base "_law_all_lines" 1 1 kI):FnM P w K mg base "_law_sent" 2 4 Cj:=by
 refine aK D bZ rfl (nN:=12) rfl ⋯ ?ar λcdv A outer s H E f t=>⟨_,(mz' (aG (ap (bh t.units) (ae (mv' 1) mh') aq (aA _)) (aa (af (ae (mv' 3) mh'))) am)
   (mz' (aG (ap (bh t.units) (ae (mv' 1) mh') aq (aA _)) (mz' (i9 (i:=4) (own:=["_law_speed","_law_room"]) (fr:=[]) (ps:=[]) (sc:=(ab gN)) 'e' bZ.nd rfl rfl (bH (ae (mv' 0) mh')) (λ_ _ _ _ _=>(aY (n:=2) (ac (ah 0 (show aaX ((["_law_speed","_law_room"]:List Str)++([]:List Str))from by ext K)) (ac (ah 1 (show aaX ((["_law_speed","_law_room"]:List Str)++([]:List Str))from by ext K)) aF)))) (λ_ _ _ _ _=>bw) (λ_ _ _ _ _=>(mv' 1)))
   (aa (Pq (af (ae (ae (mv' 1) mh') (sd afR PySem.F.type_list_index (C7 t.units) (mf' G t⁻¹ (mc' (mv' 4) mn')) (mc' (mv' 2) mn'))))))) am)
   (mz' (aB 5 bZ.nd (ae (mv' 3) mh'))
   (mz' (aB 6 bZ.nd (Bx (ap (bh t.units) (ae (mv' 1) mh') aq (aA _)) (cN fx (mv' 3) (c5 mh') (c5 mh')) (cN fx (mv' 3) (c5 mh') d8)))
   (mz' (b5 (bH (mv' 6)) (ah 7 bZ.nd) (mz' (jU (i:=8) (j:=9) bZ.nd rfl rfl ⋯ rfl rfl (mc' (ae (mv' 2) (mv' 7)) (mc' (ae (mv' 2) (mv' 5)) mn')) rfl)
   (mz' (aG (ap (bh t.units) (ae (mv' 1) mh') aq (aA _)) (mz' (jU (i:=10) (j:=11) bZ.nd rfl rfl ⋯ rfl rfl (mc' (ae (ae (ae (mv' 0) mh') (mv' 7)) mh') (mc' (ae (ae (ae (mv' 0) mh') (mv' 5)) mh') mn')) rfl)
   (mz' (aB 8 bZ.nd (ag bI (ag bI (ag aQ (mv' 8) mh') (ae (mv' 10) mh')) (ae (mv' 11) mh')))
   (aa (aB 9 bZ.nd (ag bI (ag bI (ag aQ (mv' 9) mh') (ae (mv' 11) mh')) (ae (mv' 10) mh')))))) am)
   (aa (aG (ap ir (mv' 8) (mv' 9) (aA _)) (aa (aB 5 bZ.nd (mv' 7))) am)))) aaF)
   (aa (af (mv' 5)))))))),?_⟩
 case ar=>intro as Kc ⟨h,r,l,o,rfl,_⟩;rfl
 intro as Kc hl ⟨h,r,l,o,rfl,C,t,nt,M,W,k⟩;have n4:=C.n4;have N:=M.1;let⟨c,os,rfl,h0⟩:=W.cons;have kind:r = .random\/(∃ps,r = .told ps)\/Rk r:=by
  cases r with
  |turns=>exact(nt rfl).elim
  |random=>exact .inl rfl
  |told ps=>exact .inr (.inl ⟨ps,rfl⟩)
  |two=>exact .inr (.inr trivial)
  |least=>exact .inr (.inr trivial)
  |quick=>exact .inr (.inr trivial)
 rcases kind with rfl|⟨ps,rfl⟩|p
 .refine ai (MSt.mk [~~~h.d,~~~(.tuple [.str "random"]),~~~(.tuple (natD l)),~~~(.tuple (natD (c::os))),none,none,none,none,none,none,none,none] [] 0) rfl ?_;ext e;refine bc (ds:=natD (c::os)) (bf (j:=0) rfl) ?_;ext s;exact k
 .refine ai (MSt.mk [~~~h.d,~~~(.tuple [.str "told",.tuple (natD ps)]),~~~(.tuple (natD l)),~~~(.tuple (natD (c::os))),none,none,none,none,none,none,none,none] [] 0) rfl ?_;ext s;rw[if_neg (hnc:=by ext K)];ext e;refine bx (λi m=>∃a b:Option L2.R,m=MSt.mk [a,b] [(h.rs.take i).map λ(r:Nat)=>.int (r:Int)] 1) ⟨none,none,rfl⟩ ?_ ?_
  .rintro i d m e x ⟨a,b,rfl⟩ D1 hD1 hR1;let⟨s,es,rfl,hi⟩:=gmap e;have g:h.rs[i]?=some s.r:=by unfold Hall.rs;rw[aaj,es];rfl
   ext d
   .rfl
   ext s;refine⟨_,rfl,by rw[aap,iO,aaB,Hall.rsl];omega,hD1 _ ⟨~~~(.tuple [.int s.a,.int s.b]),~~~(.int (s.r:Int)),?_⟩⟩;rw[aaU,g,aaM];rfl
  intro m x ⟨a,b,rfl⟩;rw[iO,<-Hall.rsl,aav];ext x;refine gg ?_;ext n;refine VG 0 4 (h.rs.map λ(r:Nat)=>.int (r:Int)) [] (MSt.mk [~~~h.d,~~~(.tuple [.str "told",.tuple (natD ps)]),~~~(.tuple (natD l)),~~~(.tuple (natD (c::os))),~~~(.list (h.rs.map λ(r:Nat)=>.int (r:Int))),none,none,none,none,none,none,none] [] 0) rfl rfl (LH rfl rfl rfl rfl rfl rfl rfl rfl ⟨.inl rfl,.inl rfl,.inl rfl,.inl rfl,.inr ⟨rfl,.inl rfl⟩,.inl trivial,.inl trivial,.inl trivial,.inl trivial,.inl trivial,.inl trivial,.inl trivial,trivial⟩) ?_;ext s;refine⟨h.rs,rfl,by rw[Hall.rsl];exact n4,C.r6,?_⟩;ext x;have hp:=M7.place_at M.fits;refine Qf (k':=1) (j:=M7.placeF 0 h.rs l) (y:=lnD l) rfl (aV (bJ l)) (λy X=>?_) ⋯ (by rw[aaj,hp];rfl) (by rw[show abp (natD l)=lnD l from rfl,gu];exact decide_eq_true rfl) (λi y hi X=>?_) ?_
  .obtain⟨l',_,rfl⟩:=aar.mp X;exact aV (bJ l')
  .obtain⟨l',el,rfl,_⟩:=gmap X;rw[show abp (natD l)=lnD l from rfl,gu];refine decide_eq_false λz=>?_;subst z;have:=M7.place_only el;omega
  .ext n;have U:M7.placeF 0 h.rs l<ps.length:=by rw[t.1,M7.allR_cnt];exact M7.place_lt M.fits
   refine bc (bf (bp (getN rfl U))) ?_;ext s;exact k
 .have ed:r.d = .tuple [.str r.word]:=by cases r<;>first|rfl|exact p.elim
  have n1:decide (r.word = "random")=false:=by cases r<;>first|exact p.elim|ext K
  have n2:decide (r.word = "told")=false:=by cases r<;>first|exact p.elim|ext K
  rw[ed];refine ai (MSt.mk [~~~h.d,~~~(.tuple [.str r.word]),~~~(.tuple (natD l)),~~~(.tuple (natD (c::os))),none,none,none,none,none,none,none,none] [] 0) rfl ?_;ext s;rw[n1];ext s;rw[n2];ext s;refine bc (ds:=natD (c::os)) (bf (j:=0) rfl) ?_;ext s;refine x_J (λr' m=>r' = .imm (.tuple (natD (rsO r os)))/\m=MSt.mk [~~~h.d,~~~(.tuple [.str r.word]),~~~(.tuple (natD l)),~~~(.tuple (natD (c::os))),none,~~~(.int (c:Int)),none,none,none,none,none,none] [] 0) (λK' J=>?_) ?_
  .refine LC ?_;ext x;refine ba (λz=>?_) (λz=>?_)
   .have g:r = .two:=by cases r<;>first|rfl|exact p.elim|exact absurd z (by ext K)
    subst g;ext s;rw[show cutD (natD (c::os)) (some 1) (some 2)=natD (os.take 1) by cases os<;>rfl];exact J _ _ ⟨rfl,rfl⟩
   .have g:rsO r os=os:=by cases r<;>first|rfl|exact p.elim|exact absurd rfl z
    ext s;rw[show cutD (natD (c::os)) (some 1) none=natD os by rw[show(1:Int)=((1:Nat):Int)from rfl,jb];rfl];exact J _ _ ⟨by rw[g],rfl⟩
  intro _ _ ⟨rfl,rfl⟩;ext n;refine mx ?_;ext x;refine bx (λi m=>∃V a8 Q v u:Option L2.R,m=MSt.mk [~~~h.d,~~~(.tuple [.str r.word]),~~~(.tuple (natD l)),~~~(.tuple (natD (c::os))),none,~~~(.int (M7.pick (ltO h l r) c ((rsO r os).take i):Nat)),~~~(.tuple (natD (rsO r os))),V,a8,Q,v,u] [] 0) ⟨none,none,none,none,none,rfl⟩ ?_ ?_
  .rintro i d m e x ⟨V,a8,Q,v,u,rfl⟩ D1 hD1 hR1;let⟨j,ej,rfl,hi⟩:=gmap e;have mj:=LD ej;have R:j<h.ss.length:=W.lt j (aaf _ (zH mj));have O:M7.pick (ltO h l r) c ((rsO r os).take i)<h.ss.length:=wf h0 λz Y=>W.lt z (aaf _ (zH (ab4 Y)));have et:(rsO r os).take (i+1)=(rsO r os).take i++[j]:=by rw[aaU,ej];rfl
   rw[et,M7.pick_app]at hD1;generalize M7.pick (ltO h l r) c ((rsO r os).take i)=b at O hD1⊢;ext s;refine bc (bf (bp (getN N R))) ?_;ext s;refine bc (bf (bp (getN N O))) ?_;ext s;let⟨s,es,ea,eb,hs⟩:=h.srv R;let⟨L,S,Z,eb',hs'⟩:=h.srv O;have so:=C.ok s hs;have I:=C.ok L hs';have b1:=M.le C _ (LD (getN N R));have b2:=M.le C _ (LD (getN N O));refine ba (λz=>?_) (λz=>?_)
   .have g:r = .quick:=by cases r<;>first|rfl|exact p.elim|exact absurd z (by ext K)
    subst g;have a2:=so.a2;have c2:=so.b2;have a2':=I.a2;have c2':=I.b2;have up:∀{z:Nat},z<10^30->z<10^160:=λY=>ael Y ⋯;have m1:(l.getD j 0+1)*s.b≤7*1000000:=acK ∅ ∅;have m2:(l.getD b 0+1)*L.b≤7*1000000:=acK ∅ ∅;ext s;refine bc (d:=s.d) (bf (by rw[aaj,es];rfl)) ?_;ext d;refine bc (d:=L.d) (bf (by rw[aaj,S];rfl)) ?_;ext d;have g:ltO h l Rule.quick j b=decide ((((l.getD j 0:Nat):Int)+1)*(s.b:Int)*(L.a:Int)<(((l.getD b 0:Nat):Int)+1)*(L.b:Int)*(s.a:Int)):=by
     show decide ((l.getD j 0+1)*h.bn j*h.an b<(l.getD b 0+1)*h.bn b*h.an j)=_;rw[eb,Z,eb',ea];refine decide_eq_decide.mpr ⟨λq=>?_,λq=>?_⟩
     .exact_mod_cast q
     .exact_mod_cast q
    rw[g]at hD1;refine ba (λB=>?_) (λB=>?_)
    .rw[decide_eq_true B,if_pos rfl]at hD1;ext s;exact hD1 _ ⟨_,_,_,_,_,rfl⟩
    .rw[decide_eq_false B,if_neg ⋯]at hD1;ext s;exact hD1 _ ⟨_,_,_,_,_,rfl⟩
   .have g:ltO h l r j b=decide (((l.getD j 0:Nat):Int)<((l.getD b 0:Nat):Int)):=by
     cases r with
     |quick=>exact absurd rfl z
     |two=>exact decide_eq_decide.mpr ∅
     |least=>exact decide_eq_decide.mpr ∅
     |_=>exact p.elim
    rw[g]at hD1;ext s;refine ba (λB=>?_) (λB=>?_)
    .rw[decide_eq_true B,if_pos rfl]at hD1;ext s;exact hD1 _ ⟨_,_,_,_,_,rfl⟩
    .rw[decide_eq_false B,if_neg ⋯]at hD1;ext s;exact hD1 _ ⟨_,_,_,_,_,rfl⟩
  .rintro m x ⟨V,a8,Q,v,u,rfl⟩;rw[bg,aav];ext s;rw[<-Vx p]at *;exact k
theorem yl(T:Bl K mg)(D:DefM K mg "_law_put" ll ["_law_lines","_law_k","_law_more"]):FnM P w K mg base "_law_put" 1 3 pf:=by
 refine aK D yI rfl (nN:=3) rfl ⋯ ?ar λc A outer s H E f n=>⟨_,(aa (af (ag aQ (ag aQ (cN fx (mv' 0) d8 (c5 (mv' 1))) (au (mc' (ag aQ (ae (mv' 0) (mv' 1)) (mv' 2)) mn'))) (cN fx (mv' 0) (c5 (ag aQ (mv' 1) mh')) d8)))),?_⟩
 case ar=>intro i g ⟨l,j,d,x,rfl,_⟩;rfl
 intro i g o ⟨l,j,d,x,rfl,a,m,b,k⟩;refine ai (MSt.mk [~~~(.tuple (natD l)),~~~(.int (j:Int)),~~~(.int d)] [] 0) rfl ?_;ext s;refine bc (bf (bp (getN rfl a))) ?_;ext s;rw[b,uX];refine lc (by rw[aap,aaB,bg];simp;omega) ?_;ext s;rw[show(j:Int)+1=((j+1:Nat):Int)from rfl,jb];refine lc (by rw[aap,aao,aaB,aeB,bg];simp;omega) ?_;ext s;have e:(natD l).take j++[.int (x:Int)]++(natD l).drop (j+1)=natD (l.set j x):=by
  rw[<-vM,aee,if_pos (by rw[bg];exact a)];simp
 rw[e];exact k
theorem uT(T:Bl K mg)(D:DefM K mg "_law_step" jr ["_law_hall_here","_law_rule_here","_law_lines","_law_move"])(b:FnM P w K mg base "_law_sent" 2 4 Cj)(G:FnM P w K mg base "_law_put" 1 3 pf):FnM P w K mg base "_law_step" 4 4 Jh:=by
 refine aK D b8 rfl (nN:=8) rfl ⋯ ?ar λcdv A outer s H E f c=>⟨_,(mz' (aB 4 b8.nd aq)
   (mz' (aG (ap (bh c.units) (ae (mv' 3) mh') aq (aA _)) (mz' (aB 5 b8.nd (mf' b c⁻¹ (mc' (mv' 0) (mc' (mv' 1) (mc' (mv' 2) (mc' (ae (mv' 3) mh') mn'))))))
   (mz' (aB 4 b8.nd (Bx (ap (bh c.units) (ae (mv' 2) (mv' 5)) (ae (ae (ae (mv' 0) mh') (mv' 5)) mh') (aA _)) aq aq))
   (aa (aB 2 b8.nd (mf' G c⁻¹ (mc' (mv' 2) (mc' (mv' 5) (mc' (cj lM 'b' T.int v5 (mc' (cY (bh c.units) (mv' 4) aq (aA _)) mn')) mn')))))))) (aa (aG (EW.pt (fy (ap (bh c.units) (ae (mv' 3) mh') aq (aA _)) (fH (ap kg (ae (mv' 2) (ae (mv' 3) mh')) mh' (aA _))))) (mz' (aB 4 b8.nd aq)
   (aa (aB 2 b8.nd (mf' G c⁻¹ (mc' (mv' 2) (mc' (ae (mv' 3) mh') (mc' (oI jw mh') mn'))))))) am)))
   (mz' (fq (EW.pt (fy (bX (ae (mv' 0) mh')) (fy (ap (Ji c.units) mh' (mv' 2) 'f') (fH (ap kg (aE (fu rfl) 'b' T.max oG (mc' (mv' 2) mn')) mh' (aA _)))))) (mz' (jU (i:=6) (j:=7) b8.nd rfl rfl ⋯ rfl rfl (mc' (x6 acn acV (ij c.units) (mv' 2) (mc' (aE (fu rfl) 'b' T.max oG (mc' (mv' 2) mn')) mn')) (mc' (x6 acn acV (ij c.units) (mv' 2) (mc' mh' mn')) mn')) rfl)
   (aa (aB 2 b8.nd (mf' G c⁻¹ (mc' (mf' G c⁻¹ (mc' (mv' 2) (mc' (mv' 6) (mc' (oI jw mh') mn')))) (mc' (mv' 7) (mc' mh' mn'))))))) aaF)
   (aa (af (au (mc' (mv' 2) (mc' (mv' 4) mn')))))))),?_⟩
 case ar=>intro as Kc ⟨h,r,l,m,rfl,_⟩;rfl
 intro as Kc hl ⟨h,r,l,mv,rfl,U,c,n1,L1,S,k⟩;have n4:=U.n4;have ln1:=U.n1;have l4:=L1.1;refine ai (MSt.mk [~~~h.d,~~~r.d,~~~(.tuple (natD l)),~~~mv.d,none,none,none,none] [] 0) rfl ?_;refine qO ?_;refine x_JS (λm=>m=MSt.mk [~~~h.d,~~~r.d,~~~(.tuple (natD l)),~~~mv.d,~~~(.str "none"),none,none,none] [] 0) (λN J=>?_) ?_
 .ext s;exact J _ rfl
 rintro _ rfl;ext n;refine qO ?_;refine x_JS (λm=>∃(B:List Nat) (w:Wd) (a5:Option L2.R),m=MSt.mk [~~~h.d,~~~r.d,~~~(.tuple (natD B)),~~~mv.d,~~~(.str w.s),a5,none,none] [] 0/\B.length=l.length/\((km h r l 0 mv).1,(km h r l 0 mv).2.2)=(gz h B,w)) (λN J=>?_) ?_
 .cases mv with
  | come o=>
   have hj:=vp U c L1 S (t:=0) λz=>(n1 z).elim;have Sr:=U.ok;let⟨s,W⟩:∃s,h.ss[sent h r l 0 o]?=some s:=⟨_,lD hj⟩;have rn:h.rn (sent h r l 0 o)=s.r:=by
    unfold Hall.rn Hall.rs;rw[aas,aaj,W];rfl
   let⟨x,ex⟩:∃x,l[sent h r l 0 o]?=some x:=⟨_,lD ∅⟩;have u:l.getD (sent h r l 0 o) 0=x:=bM ex;dsimp only[Mv.d];ext e;refine⟨h,r,l,o,rfl,U,c,n1,L1,S,?_⟩;ext x;refine x_J (λr' m=>r' = .imm (.str (cR h l (sent h r l 0 o)).2.s)/\m=MSt.mk [~~~h.d,~~~r.d,~~~(.tuple (natD l)),~~~(.tuple [.str "come",lnD o]),~~~(.str "none"),~~~(.int (sent h r l 0 o:Nat)),none,none] [] 0) (λK' J'=>?_) ?_
   .refine LC ?_;ext x;refine bc (bf (bp ex)) ?_;ext s;refine bc (ds:=h.ss.map Srv.d) (d:=s.d) (bf (by rw[aaj,W];rfl)) ?_;ext d;refine ba (λz=>?_) (λz=>?_)
    .ext s;exact J' _ _ ⟨by unfold cR;rw[u,rn,if_pos ∅];rfl,rfl⟩
    .ext s;exact J' _ _ ⟨by unfold cR;rw[u,rn,if_neg ∅];rfl,rfl⟩
   intro _ _ ⟨rfl,rfl⟩;ext n;refine mx ?_;ext x;have em:((km h r l 0 (.come o)).1,(km h r l 0 (.come o)).2.2)=(gz h (cR h l (sent h r l 0 o)).1,(cR h l (sent h r l 0 o)).2):=rfl;rw[em]at J
   by_cases z:x=s.r
   .have ec:cR h l (sent h r l 0 o)=(l,.away):=by unfold cR;rw[u,rn,if_pos z]
    have el:l.set (sent h r l 0 o) x=l:=by
     apply ab9;intro i;rw[List.getElem?_set];split
     .rename_i q;rw[<-q,ex,if_pos ∅]
     .rfl
    rw[ec]at J⊢;refine⟨l,_,_,x,rfl,∅,∅,by rw[u,show(if decide (Wd.away.s = "taken")=true then(1:Int)else 0)=0 by ext K];omega,?_⟩;rw[el];ext n;exact mx (J _ ⟨l,.away,_,rfl,rfl,rfl⟩)
   .have ec:cR h l (sent h r l 0 o)=(l.set (sent h r l 0 o) (x+1),.taken):=by unfold cR;rw[u,rn,if_neg z]
    rw[ec]at J⊢;refine⟨l,_,_,x+1,rfl,∅,∅,by rw[u,show(if decide (Wd.taken.s = "taken")=true then(1:Int)else 0)=1 by ext K];omega,?_⟩;ext n;exact mx (J _ ⟨_,.taken,_,rfl,by rw[abj],rfl⟩)
  |done j=>
   have hj:j<h.ss.length:=S;let⟨x,ex⟩:∃x,l[j]?=some x:=⟨_,lD ∅⟩;have u:l.getD j 0=x:=bM ex;dsimp only[Mv.d];ext s;rw[if_neg (hnc:=by ext K)];ext e;refine bc (bf (bp ex)) ?_;ext s;refine ba (λz=>?_) (λz=>?_)
   .ext s;refine⟨l,j,-1,x-1,rfl,∅,∅,∅,?_⟩;ext x;refine J _ ⟨l.set j (x-1),.served,none,rfl,by rw[abj],?_⟩;show(gz h (dE l j).1,(dE l j).2)=_;unfold dE;rw[u,if_neg ∅]
   .ext s;refine J _ ⟨l,.none,none,rfl,rfl,?_⟩;show(gz h (dE l j).1,(dE l j).2)=_;unfold dE;rw[u,if_pos ∅]
  |still=>
   dsimp only[Mv.d];ext s;rw[if_neg (hnc:=by ext K)];ext s;rw[if_neg (hnc:=by ext K)];ext s;exact J _ ⟨l,.none,none,rfl,rfl,rfl⟩
 intro _ ⟨B,w,a5,rfl,R,ek⟩;have hne:B≠[]:=λz=>by rw[z]at R;simp at R;omega
 have hl4:B.length≤1000:=by omega
 ext n;refine qO ?_;refine jy (λn m=>∃(a:List Nat) (a6 a7:Option L2.R),m=MSt.mk [~~~h.d,~~~r.d,~~~(.tuple (natD a)),~~~mv.d,~~~(.str w.s),a5,a6,a7] [] 0/\n=a.count 0/\db h n a=gz h B/\a≠[]/\a.length≤1000) (B.count 0) ⟨B,none,none,rfl,rfl,rfl,hne,hl4⟩ ?_;intro n m hn ⟨a,a6,a7,rfl,rfl,hs,g,hl'⟩;have p:c8 (natD a)=some (a.map λ(x:Nat)=>(x:Int)):=by
  have:=du (a.map λ(x:Nat)=>(x:Int));rwa[aba]at this
 have C:(a.map λ(x:Nat)=>(x:Int))≠[]:=λz=>g (agT.mp z);have I:∀x:Int,x∈(a.map λ(x:Nat)=>(x:Int))->(∀y∈(a.map λ(x:Nat)=>(x:Int)),y≤x)->x=(maxN a:Int):=λx M v=>by
  let⟨n,hn,rfl⟩:=aar.mp M;have h1:=vf n hn;have h2:=v (maxN a:Int) (aar.mpr ⟨maxN a,jp g,rfl⟩);omega
 have done:dH h a=none->Kc (.imm (lwD (a,w))) []:=λe=>by
  rw[j9 e]at hs;rw[ek,<-hs]at k;exact k
 have hin:(natD a).any (λx=>aaa x (.int 0))=decide (0∈a):=by
  rw[abE,aeH,decide_eq_true_iff];constructor
  .rintro⟨x,M,ex⟩;let⟨w,hw,e0⟩:=aar.mp M;rw[<-e0,show(abf 0)=abf ((0:Nat):Int)from rfl,cB]at ex;rw[<-of_decide_eq_true ex];exact hw
  .intro S;exact⟨_,aar.mpr ⟨0,S,rfl⟩,⋯⟩
 ext s
 cases hmv:h.mv with
 |false=>
  ext s;exact done (if_neg (by rw[hmv];exact λz=>by cases z.1))
 | true=>
  ext s;refine x_in (d:=.int 0) (ds:=natD a) rfl (.inr rfl) (cr 0) (bJ a) ⋯ ?_;rw[hin]
  by_cases O:0∈a
  .rw[decide_eq_true O,show(if false=true then !true else true)=true from rfl];ext s;refine tU rfl p C λx M v=>?_;rw[I x M v];ext s;refine ba (λz=>?_) (λz=>?_)
   .have e:dH h a=some (idx a (maxN a),idx a 0):=if_pos ⟨hmv,O,∅⟩;let⟨W,V,l2,hc,L⟩:=jG e;let⟨m0,m1,m2,m3,m4⟩:=gH e;dsimp only at W V l2 m1 m3 m4;have s1:=gY (jp g);have s0:=gY O;have g1:a.getD (idx a (maxN a)) 0=maxN a:=bM m1;have n0:(a.set (idx a (maxN a)) (maxN a-1))[idx a 0]?=some 0:=by rw[aaS m4];exact m3
    have g2:(a.set (idx a (maxN a)) (maxN a-1)).getD (idx a 0) 0=0:=bM n0;ext s;refine tU rfl p C λx M v=>?_;rw[I x M v];ext s;refine k6 (j:=idx a (maxN a)) (k':=0) (cr _) (bJ a) ⋯ (bp s1.1) (by rw[cB];exact decide_eq_true rfl) (λi y Y v=>?_) ?_
    .obtain⟨z,ez,rfl,_⟩:=gmap v;rw[cB];exact decide_eq_false (s1.2 i z Y ez)
    ext s;refine k6 (j:=idx a 0) (k':=0) (cr _) (bJ a) ⋯ (bp s0.1) (cB 0 0) (λi y Y v=>?_) ?_
    .obtain⟨z',ez,rfl,_⟩:=gmap v;have:=cB z' 0;rw[show((0:Nat):Int)=0 from rfl]at this;rw[this];exact decide_eq_false (s0.2 i z' Y ez)
    ext s;refine⟨a,idx a (maxN a),-1,maxN a-1,rfl,V,hl',∅,?_⟩;generalize Z:a.set (idx a (maxN a)) (maxN a-1)=X at *;ext n;dsimp only[lnD];ext s;have hl3:X.length=a.length:=by rw[<-Z,abj]
    refine⟨X,idx a 0,1,1,rfl,∅,∅,∅,?_⟩;rw[<-W];ext x;have Q:cy a (idx a (maxN a),idx a 0)≠[]:=λz=>by
     rw[z]at L;exact g (abl L.symm)
    refine⟨(cy a (idx a (maxN a),idx a 0)).count 0,∅,cy a (idx a (maxN a),idx a 0),_,_,rfl,rfl,?_,Q,∅⟩;rw[<-hs,<-hc];show _=db h ((cy a (idx a (maxN a),idx a 0)).count 0+1) a;simp only[db,e]
   .ext s;exact done (if_neg λq=>by have:=q.2.2;omega)
  .rw[decide_eq_false O,show(if false=true then !false else false)=false from rfl];ext s;exact done (if_neg λq=>O q.2.1)
theorem uD(T:Bl K mg)(D:DefM K mg "_law_kept" gI ["_law_hall_here","_law_lines"]):FnM P w K mg base "_law_kept" 1 2 nh:=by
 refine aK D nr rfl (nN:=3) rfl ⋯ ?ar λy A outer s H E f u=>⟨_,(mz' (aB 2 nr.nd (cY (bh u.units) (bu (own:=["_law_server"]) (fr:=["_law_hall_here"]) (ps:=[0]) (sc:=(ab gI)) 'e' (bH (ae (mv' 0) mh')) (λ_ _ _ _ _=>(ah 0 (show aaX ((["_law_server"]:List Str)++(["_law_hall_here"]:List Str))from by ext K))) (λ_ _ _ _ _=>(pJ (ap (t9 u.units) (mv' 0) (ae (ae (mv' 1) mh') mh') (aA _)))) (λ_ _ _ _ _=>(mv' 0))) (cQ mn') (aA _)))
   (aa (af (Bx (bX (mv' 2)) (cj cZ 'b' T.tuple d3 (mc' (pc m9 'b' T.sorted my (mc' (mv' 1) mn')) mn')) (mv' 1))))),?_⟩
 case ar=>intro M z ⟨h,l,rfl,_⟩;rfl
 intro M z R ⟨h,l,rfl,p,N,k⟩;have n4:=p.n4;refine ai (MSt.mk [~~~h.d,~~~(.tuple (natD l)),none] [] 0) rfl ?_;ext s;have key:∀d0:aD,(h.ss.map Srv.d).getD 0 .none=d0->(aaa (.list ((h.ss.map Srv.d).filter λd=>!aaa d d0)) (.list []))=alk h:=λd0 n=>by
  unfold alk;rw[n];generalize h.ss.map Srv.d=L
  induction L with
  |nil=>rfl
  |cons x L C=>
   rw[acm,ab7]
   cases aaa x d0 with
   |true=>simpa using C
   |false=>rfl
 let⟨c,ss,t⟩:∃c ss,h.ss=c::ss:=by
  cases e:h.ss with
  |nil=>have:=p.n1;rw[e]at this;exact absurd this ⋯
  |cons a b=>exact⟨a,b,rfl⟩
 have n:(h.ss.map Srv.d).getD 0 .none=c.d:=by rw[t];rfl
 have g:∀s:Srv,Shp 2 s.d:=λs=>aV (k:=1) λd hd=>by
  simp only[aag,abx,or_false]at hd;rcases hd with rfl|rfl
  .exact aV (k:=0) λd hd=>by
    simp only[aag,abx,or_false]at hd;rcases hd with rfl|rfl<;>exact cr _
  .exact(cr _).mono ⋯
 refine bx (λi m=>∃a:Option L2.R,m=MSt.mk [a,~~~h.d] [((h.ss.map Srv.d).take i).filter λd=>!aaa d c.d] 1) ⟨none,rfl⟩ ?_ ?_
 .rintro i d m e o ⟨a,rfl⟩ D1 hD1 hR1;let⟨s,Q,rfl,O⟩:=gmap e;rw[aaU,e,afo]at hD1;have v:=adr (λd=>!aaa d c.d) ((h.ss.map Srv.d).take i);rw[aaB,iO]at v;ext s;refine bc (ds:=h.ss.map Srv.d) (d:=c.d) (bf (j:=0) (by rw[t];rfl)) ?_;ext s;refine x_ne (d1:=s.d) (d2:=c.d) rfl rfl ((g s).ok ⋯) ((g c).ok ⋯) ?_;ext s
  cases ec:aaa s.d c.d with
  |true=>
   refine jf ?_;ext s;refine hD1 _ ⟨~~~s.d,?_⟩;rw[show((some s.d).toList.filter λd=>!aaa d c.d)=[] by show [s.d].filter _=[];rw[acm,ec];rfl,aa5];rfl
  |false=>
   refine jg ?_;ext s;refine⟨_,rfl,by rw[aap];omega,hD1 _ ⟨~~~s.d,?_⟩⟩;rw[show((some s.d).toList.filter λd=>!aaa d c.d)=[s.d] by show [s.d].filter _=_;rw[acm,ec];rfl];rfl
 intro m o ⟨a,rfl⟩;rw[aav];ext x;have J:Shp 3 (.list ((h.ss.map Srv.d).filter λd=>!aaa d c.d)):=xU λd hd=>by
  let⟨s,_,rfl⟩:=aar.mp (ad1.mp hd).1;exact g s
 refine x_eq (d1:=.list ((h.ss.map Srv.d).filter λd=>!aaa d c.d)) (d2:=.list []) rfl rfl (J.ok ⋯) (by ext K) ?_;rw[key _ n];ext s;unfold cU at k;refine LC ?_;ext s
 cases q:alk h with
 |true=>
  rw[q,if_pos rfl]at k;ext s;refine CB (ds:=natD l) rfl (ik l) (by rw[iO];omega) λI G B=>?_;have e:=wD G B;subst e;rw[<-tj];ext s;exact k
 |false=>
  rw[q,if_neg aan]at k;ext s;exact k
theorem uH(T:Bl K mg)(D:DefM K mg "_law_both" jZ ["_law_hall_here","_law_one","_law_other","_law_triple","_law_move"])(a:FnM P w K mg base "_law_step" 4 4 Jh)(G:FnM P w K mg base "_law_kept" 1 2 nh):FnM P w K mg base "_law_both" 5 5 JA:=by
 refine aK D dJ rfl (nN:=9) rfl ⋯ ?ar λx A outer s H E f c=>⟨_,(mz' (cx (mf' a c⁻¹ (mc' (mv' 0) (mc' (mv' 1) (mc' (ae (mv' 3) mh') (mc' (mv' 4) mn'))))) (aY (n:=2) (ac (ah 5 dJ.nd) (ac (ah 6 dJ.nd) aF))))
   (mz' (cx (mf' a c⁻¹ (mc' (mv' 0) (mc' (mv' 2) (mc' (ae (mv' 3) mh') (mc' (mv' 4) mn'))))) (aY (n:=2) (ac (ah 7 dJ.nd) (ac (ah 8 dJ.nd) aF))))
   (aa (af (au (mc' (mf' G c⁻¹ (mc' (mv' 0) (mc' (mv' 5) mn'))) (mc' (mf' G c⁻¹ (mc' (mv' 0) (mc' (mv' 7) mn'))) (mc' (ag CP (ag aQ (ae (mv' 3) mh') (cj lM 'b' T.int v5 (mc' (cY (bh c.units) (mv' 8) aq (aA _)) mn'))) (cj lM 'b' T.int v5 (mc' (cY (bh c.units) (mv' 6) aq (aA _)) mn'))) mn')))))))),?_⟩
 case ar=>intro v q ⟨h,r1,o,t,m,rfl,_⟩;rfl
 intro v q y ⟨h,r1,o,t,m,rfl,b,g,d,n1,n2,p,L,i,k⟩;have n4:=b.n4;have S:=fJ b g (t:=0) ⟨p,λz=>(n1 z).elim,⋯⟩ i;have u:=fJ b d (t:=0) ⟨L,λz=>(n2 z).elim,⋯⟩ i;refine ai (MSt.mk [~~~h.d,~~~r1.d,~~~o.d,~~~(.tuple [lnD t.1,lnD t.2.1,.int t.2.2]),~~~m.d,none,none,none,none] [] 0) rfl ?_;ext s;refine⟨h,r1,t.1,m,rfl,b,g,n1,p,i,?_⟩;ext n;unfold lwD;ext s
 .rfl
 ext s;refine⟨h,o,t.2.1,m,rfl,b,d,n2,L,i,?_⟩;ext n;unfold lwD;ext s
 .rfl
 ext s;refine⟨h,_,rfl,b,by have:=S.ln.1;omega,?_⟩;ext x;refine⟨h,_,rfl,b,by have:=u.ln.1;omega,?_⟩;ext x;have e:∀w:Wd,(if decide (w.s = "away")=true then(1:Int)else 0)=aw w:=λw=>by cases w<;>ext K
 rw[e,e];exact k
def pk(T:Bl K mg)(D:DefM K mg "_law_is_bad" gy ["_law_triple"]):FnM P w K mg base "_law_is_bad" 1 1 zU:=by
 refine aK D qe rfl (nN:=1) rfl ⋯ ?ar λc A outer s H E f d=>⟨_,(aa (af (SF (cY ir (ae (mv' 0) mh') mh' (aA _)) (jA (cY kg (aE (gW rfl) 'b' T.sum tJ (mc' (ae (mv' 0) mh') mn')) (ag aQ (aE (gW rfl) 'b' T.sum tJ (mc' (ae (mv' 0) mh') mn')) (ae (mv' 0) mh')) (aA _)))))),?_⟩
 case ar=>intro b a ⟨t,rfl,_⟩;rfl
 intro b a e ⟨t,rfl,k⟩;refine ai (MSt.mk [~~~(.tuple [lnD t.1,lnD t.2.1,.int t.2.2])] [] 0) rfl ?_;ext s;unfold bad at k;refine ba (λz=>?_) (λz=>?_)
 .rw[decide_eq_true z,Bool.true_or]at k;ext s;exact k
 .rw[decide_eq_false z,Bool.false_or]at k;ext s;refine xW rfl (ik t.1) ?_;rw[lu];ext s;refine xW rfl (ik t.2.1) ?_;rw[lu];ext s;exact k
theorem qX(T:Bl K mg)(D:DefM K mg "_law_walked" ga ["_law_hall_here","_law_one","_law_other","_law_run"])(b:FnM P w K mg base "_law_both" 5 5 JA):FnM P w K mg base "_law_walked" 6 4 JY:=by
 refine aK D dh rfl (nN:=6) rfl ⋯ ?ar λt A outer s H E f y=>⟨_,(mz' (aB 4 dh.nd (au (mc' (ag bI (au (mc' mh' mn')) (aE bV 'b' T.len d9 (mc' (ae (mv' 0) mh') mn'))) (mc' (ag bI (au (mc' mh' mn')) (aE bV 'b' T.len d9 (mc' (ae (mv' 0) mh') mn'))) (mc' mh' mn')))))
   (mz' (b5 (bH (mv' 3)) (ah 5 dh.nd) (aa (aB 4 dh.nd (mf' b y⁻¹ (mc' (mv' 0) (mc' (mv' 1) (mc' (mv' 2) (mc' (mv' 4) (mc' (mv' 5) mn')))))))) aaF)
   (aa (af (mv' 4))))),?_⟩
 case ar=>intro z v ⟨h,r1,r2,R,rfl,_⟩;rfl
 intro z v I ⟨h,r1,r2,R,rfl,G,o,k⟩;have c:=G.o;have n4:=c.n4;refine ai (MSt.mk [~~~h.d,~~~r1.d,~~~r2.d,~~~(.tuple (R.map Mv.d)),none,none] [] 0) rfl ?_;ext s;have g:∀{m:MSt}{Kr:L2.R->Prop},Kr (.imm (lnD (zer h)))->yz (L2.R.imm (abp ((λx=>abf 0::x) []))) (L2.R.imm (abf ↑(List.map Srv.d h.ss).length)) m Kr:=λ{m Kr} q=>by
  rw[iO];refine JJ ∅ ∅ (by simp;omega) ?_;rw[show(abp (aaq (h.ss.length:Int).toNat [abf 0]).flatten)=lnD (zer h) by
   rw[aa6,Fj];exact congrArg _ (DI _ 0)]
  exact q
 refine g ?_;ext s;refine g ?_;ext s;refine bx (λi m=>∃a:Option L2.R,m=MSt.mk [~~~h.d,~~~r1.d,~~~r2.d,~~~(.tuple (R.map Mv.d)),~~~(trD (wlk h r1 r2 (R.take i))),a] [] 0) ⟨none,rfl⟩ ?_ ?_
 .rintro i d m e hnp ⟨a,rfl⟩ D1 hD1 hR1;let⟨mv,n,rfl,C⟩:=gmap e;have B:=o mv (LD n);have p:RunK h (R.take i):=λx u=>o x (ab4 u);have L:=l8 c G.k1 G.k2 G.n1 G.n2 (zh (r1:=r1) (r2:=r2) p);ext s;refine⟨h,r1,r2,wlk h r1 r2 (R.take i),mv,rfl,c,G.k1,G.k2,G.n1,G.n2,L.1,L.2,vX c mv B,?_⟩;ext x;refine hD1 _ ⟨~~~mv.d,?_⟩;rw[aaU,n,show(some mv).toList=[mv]from rfl,h8];rfl
 .rintro m hnp ⟨a,rfl⟩;rw[iO,aav];ext s;exact k
theorem sI(T:Bl K mg)(D:DefM K mg "_law_words" iE ["_law_hall_here","_law_rules"])(n:FnM P w K mg base "never_worse" 10 3 DE)(p:FnM P w K mg base "lets_never" 8 4 Bi)(o:FnM P w K mg base "_law_walked" 6 4 JY)(g:FnM P w K mg base "_law_is_bad" 1 1 zU):FnM P w K mg base "_law_words" 12 2 BJ:=by
 refine aK D c6 rfl (nN:=6) rfl ⋯ ?ar λO A outer s H E f q=>⟨_,(mz' (aB 2 c6.nd kU)
   (mz' (b5 (bP 'b' T.range (mc' mh' mn')) (ah 3 c6.nd) (aa (b5 (bP 'b' T.range (mc' mh' mn')) (ah 4 c6.nd) (mz' (aB 5 c6.nd (mf' n q⁻¹ (mc' (mv' 0) (mc' (ae (mv' 1) (mv' 3)) (mc' (ae (mv' 1) (mv' 4)) mn')))))
   (mz' (jo q.units (ae (mv' 5) mh') (mv' 2) (au (mc' (mv' 3) (mc' (mv' 4) mn'))))
   (aa (aG (ap (bh q.units) (ae (mv' 5) mh') aq (aA _)) (aa (aG (ap yM (mf' p q⁻¹ (mc' (mv' 0) (mc' (ae (mv' 1) (mv' 3)) (mc' (ae (mv' 1) (mv' 4)) (mc' (ae (mv' 5) mh') mn'))))) c7 (aA _)) (aa (af fQ)) am)) (aa (aG (cX (bX (mf' g q⁻¹ (mc' (mf' o q⁻¹ (mc' (mv' 0) (mc' (ae (mv' 1) (mv' 3)) (mc' (ae (mv' 1) (mv' 4)) (mc' (ae (mv' 5) mh') mn'))))) mn')))) (aa (af fQ)) am)))))) aaF)) aaF)
   (aa (Av (af (mv' 2)))))),?_⟩
 case ar=>intro U Q ⟨h,f,rfl,_⟩;rfl
 intro U Q hl ⟨h,f,rfl,M,u,J,k⟩;refine ai (MSt.mk [~~~h.d,some (.obj 0),none,none,none,none] [[(f 0).d,(f 1).d,(f 2).d]] 1) rfl ?_;ext s;refine⟨⋯,⋯,?_⟩;refine bx (λi m=>∃a b c:Option L2.R,m=MSt.mk [~~~h.d,some (.obj 0),some (.at 1 []),a,b,c] [[(f 0).d,(f 1).d,(f 2).d],[.dict (lfKV (wdK (wF h f) (3*i)))]] 1) ⟨none,none,none,rfl⟩ ?_ ?_
 .rintro i d m e hnp ⟨a,b,c,rfl⟩ D1 hD1 hR1;let⟨t,rfl⟩:=b9 e;rw[ae5];have t:i<3:=t;ext s;refine⟨⋯,⋯,?_⟩;refine bx (λj m=>∃b c:Option L2.R,m=MSt.mk [~~~h.d,some (.obj 0),some (.at 1 []),~~~(.int (i:Int)),b,c] [[(f 0).d,(f 1).d,(f 2).d],[.dict (lfKV (wdK (wF h f) (3*i+j)))]] 1) ⟨b,c,rfl⟩ ?_ ?_
  .rintro j d m e hnp ⟨b,c,rfl⟩ D2 hD2 hR2;let⟨y,rfl⟩:=b9 e;rw[ae5];have y:j<3:=y;have go:∀{b c:Option L2.R},D2.nx (MSt.mk [~~~h.d,some (.obj 0),some (.at 1 []),~~~(.int (i:Int)),b,c] [[(f 0).d,(f 1).d,(f 2).d],[.dict (lfKV (wdK (wF h f) (3*i+(j+1))))]] 1):=λ{_ _}=>hD2 _ ⟨_,_,rfl⟩;let⟨v,_,I⟩:=mi (F:=wF h f) t y;have ky:kyA (wdK (wF h f) (3*i+j))=true:=xP ∅;have B:=rl3 (f:=f) t;have C:=rl3 (f:=f) y;have G:GoodR h (f i) (f j):=⟨M,(u i).1,(u j).1,(u i).2,(u j).2⟩;ext s;refine gG rfl B ?_;ext s;refine gG rfl C ?_;ext s;refine⟨h,f i,f j,rfl,G,∅,aaw (acK (Ug J) (Nat.add_le_add_right (Ug J) 2)) ⋯,λR L z Y V=>?_,λZ S N X W=>?_⟩
   .rw[Xw λS=>by rw[S R L]at z;cases z]at v;ext x;refine⟨_,wdK (wF h f) (3*i+j),rfl,rfl,rfl,ky,I,by unfold wdK;rw[iO,aa7,aap];omega,?_⟩;rw[show abp ((λx=>abf ↑i::x) ((λx=>abf ↑j::x) []))=abp [.int i,.int j]from rfl,v];ext x;rw[if_neg (hnc:=by ext K)];ext s;refine gG rfl B ?_;ext s;refine gG rfl C ?_;ext s;refine⟨h,f i,f j,R,rfl,G,L,?_⟩;ext x;refine⟨_,rfl,?_⟩;ext n;rw[z];ext s;ext b;exact go
   .rw[wF_iff.mpr S]at v;ext x;refine⟨_,wdK (wF h f) (3*i+j),rfl,rfl,rfl,ky,I,by unfold wdK;rw[iO,aa7,aap];omega,?_⟩;rw[show abp ((λx=>abf ↑i::x) ((λx=>abf ↑j::x) []))=abp [.int i,.int j]from rfl,v];ext x;rw[if_pos (by ext K)];ext s;refine gG rfl B ?_;ext s;refine gG rfl C ?_;ext s;refine⟨h,f i,f j,Z,rfl,G,N,X,∅,?_⟩;ext x;refine Fe ?_;ext s;ext b;exact go
  .rintro m hnp ⟨b,c,rfl⟩;exact hD1 _ ⟨_,_,_,rfl⟩
 .rintro m hnp ⟨a,b,c,rfl⟩;ext s;refine Vm 1 2 (wdK (wF h f) 9) [0] (MSt.mk [~~~h.d,some (.obj 0),~~~(.dict (wdK (wF h f) 9)),none,none,none] [[(f 0).d,(f 1).d,(f 2).d]] 1) rfl rfl (xP ⋯) (LH rfl rfl rfl rfl rfl rfl rfl rfl ⟨.inl rfl,.inl ⟨0,rfl,rfl⟩,.inr ⟨rfl,.inr rfl⟩,.inl trivial,.inl trivial,.inl trivial,trivial⟩) ?_;ext s;exact k
theorem Wf(T:Bl K mg){ff:Addr}{fd:ab8}(F:Fun K "law" "law" slaw ff fd)(v:FnM P w K mg base "_law_tape" 1 1 B6)(B:FnM P w K mg base "_law_hall" 3 2 xh)(u:FnM P w K mg base "_law_rule" 2 2 Ay)(G:FnM P w K mg base "_law_words" 12 2 BJ):FnOk P w K mg base CX0 13 ff fd ["_law_script"] (spOf ⟨K,w⟩ 1 Iy):=by
 refine LL F qj rfl (nN:=9) rfl ⋯ λcdv A outer s H E f o=>⟨_,(mz' (gl (i:=1) qj.nd rfl (ada rfl) (mf' v o⁻¹ (mc' (mv' 0) mn')))
   (mz' (b5 (bP 'b' T.range (mc' mh' mn')) (ah 2 qj.nd) (mz' (gl (i:=3) qj.nd rfl (ada rfl) (mf' B o⁻¹ (mc' (mv' 1) (mc' mh' mn'))))
   (mz' (gl (i:=4) qj.nd rfl (ada rfl) (bu (own:=["_law_j"]) (fr:=["_law_tape_here","_law_hall_here"]) (ps:=[1,3]) (sc:=(ab slaw)) 'e' (bP 'b' T.range (mc' mh' mn')) (λ_ _ _ _ _=>(ah 0 (show aaX ((["_law_j"]:List Str)++(["_law_tape_here","_law_hall_here"]:List Str))from by ext K))) (λ_ _ _ _ _=>bw) (λ_ _ _ _ _=>(mf' u o⁻¹ (mc' (mv' 1) (mc' (mv' 2) mn'))))))
   (mz' (gl (i:=5) qj.nd rfl (ada rfl) (mf' G o⁻¹ (mc' (mv' 3) (mc' (mv' 4) mn'))))
   (mz' (aG (EW.pt (jk (ap Mq (mv' 5) fQ (aA _)) (iZ (ap (t9 o.units) (bu (own:=["_law_j"]) (fr:=["_law_words_here"]) (ps:=[5]) (sc:=(ab slaw)) 'e' (bP 'b' T.range (mc' mh' mn')) (λ_ _ _ _ _=>(ah 0 (show aaX ((["_law_j"]:List Str)++(["_law_words_here"]:List Str))from by ext K))) (λ_ _ _ _ _=>bw) (λ_ _ _ _ _=>(d6 o.units (mv' 1) (au (mc' (mv' 0) (mc' (mv' 0) mn')))))) (ag bI (cQ (mc' aq mn')) mh') (aA _))))) (aa (af c7)) am)
   (mz' (b5 (w5 (mv' 5)) (aY (n:=2) (ac (ah 6 qj.nd) (ac (ah 7 qj.nd) aF))) (aa (b5 (bP 'b' T.range (mc' mh' mn')) (ah 8 qj.nd) (aa (aG (EW.pt (fy (ap (bh o.units) (d6 o.units (mv' 5) (au (mc' (mv' 6) (mc' (mv' 7) mn')))) aq (aA _)) (fy (ap (bh o.units) (d6 o.units (mv' 5) (au (mc' (mv' 7) (mc' (mv' 8) mn')))) aq (aA _)) (fH (ap (t9 o.units) (d6 o.units (mv' 5) (au (mc' (mv' 6) (mc' (mv' 8) mn')))) aq (aA _)))))) (aa (af c7)) am)) aaF)) aaF)
   (aa (aG (EW.pt (fy (ap (bh o.units) (bu (own:=["_law_rule_here"]) (fr:=["_law_rules"]) (ps:=[4]) (sc:=(ab slaw)) 'e' (bH (mv' 4)) (λ_ _ _ _ _=>(ah 0 (show aaX ((["_law_rule_here"]:List Str)++(["_law_rules"]:List Str))from by ext K))) (λ_ _ _ _ _=>(pJ (ap (bh o.units) (mv' 0) (ae (mv' 1) mh') (aA _)))) (λ_ _ _ _ _=>(mv' 0))) (mv' 4) (aA _)) (fH (ap (Ji o.units) aq (bu (own:=["_law_pair"]) (fr:=["_law_words_here"]) (ps:=[5]) (sc:=(ab slaw)) 'e' (w5 (mv' 5)) (λ_ _ _ _ _=>(ah 0 (show aaX ((["_law_pair"]:List Str)++(["_law_words_here"]:List Str))from by ext K))) (λ_ _ _ _ _=>bw) (λ_ _ _ _ _=>(d6 o.units (mv' 1) (mv' 0)))) 'f')))) (aa (af c7)) am))))))) aaF)
   (aa (af c7)))),?_⟩
 intro as Kc hl ⟨ns,rfl,U,k⟩;refine ai (MSt.mk [~~~(.list (ns.map .int)),none,none,none,none,none,none,none,none] [] 0) rfl ?_;ext s;refine⟨ns,rfl,U,λt C=>?_⟩;ext n;refine vY ?_;ext x;refine⟨⋯,⋯,?_⟩;refine bx (λi m=>∃(a2 Z a4 X W Y a8:Option L2.R) (t:aD) (os:List (List aD)),m=MSt.mk [~~~(.list (ns.map .int)),some (.at 0 []),a2,Z,a4,X,W,Y,a8] ([t]::os) 0/\TapeK (20000*i) t) ⟨none,none,none,none,none,none,none,t,[],rfl,C⟩ ?_ ?_
 .rintro i d m e g ⟨a2,Z,a4,X,W,Y,a8,t,os,rfl,C⟩ D1 hD1 hR1;let⟨V,rfl⟩:=b9 e;have hi2:i<2:=V;ext s;refine⟨t,_,9,rfl,C,∅,⋯,λh t ho h9 C=>?_⟩;ext n;refine yG [0] (MSt.mk [~~~(.list (ns.map .int)),some (.at 0 []),~~~(.int (0+(i:Int))),~~~h.d,none,none,none,none,none] [[t]] 0) (JX rfl rfl rfl rfl rfl rfl ⟨rfl,⟨0,rfl,rfl⟩,rfl,rfl,trivial,trivial,trivial,trivial,trivial,trivial⟩) ?_;ext x;refine⟨⋯,⋯,?_⟩;refine bx (λj m=>∃(a:Option L2.R) (t:aD) (f:Nat->Rule),m=MSt.mk [a,some (.at 0 []),~~~h.d] [[t],(aaz j).map λn=>(f n).d] 2/\(∀n,(f n).Ok h/\f n≠.turns)/\TapeK (20000*i+20+3000*j) t) ⟨none,t,λ_=>.random,rfl,λ_=>⟨trivial,(nofun)⟩,C⟩ ?_ ?_
  .rintro j d m e g ⟨a,t,f,rfl,hf,C⟩ D2 hD2 hR2;let⟨S,rfl⟩:=b9 e;have D:j<3:=S;ext s;refine⟨t,_,h,rfl,C,∅,ho,λr t o U C=>?_⟩;ext x;refine⟨_,rfl,by rw[aap,iO,aa7];omega,hD2 _ ⟨~~~(.int (0+(j:Int))),t,λn=>if n=j then r else f n,?_,λn=>?_,C.mono ∅⟩⟩
   .have N:(aaz j).map (λn=>(if n=j then r else f n).d)=(aaz j).map λn=>(f n).d:=acz λn U=>by
     rw[if_neg (by have:=adw.mp U;omega)]
    rw[act,aaM,N];show _=MSt.mk _ [[t],_++[(if j=j then r else f j).d]] 2;rw[if_pos rfl]
   .dsimp only
    by_cases z:n=j
    .rw[if_pos z];exact⟨o,U⟩
    .rw[if_neg z];exact hf n
  intro m g ⟨a,t,f,rfl,hf,C⟩;have C:=C.mono (c':=20000*(i+1)) (by rw[aM];omega);rw[show(aaz (iq 0 (af0 3)).length).map (λn=>(f n).d)=[(f 0).d,(f 1).d,(f 2).d]from rfl];ext n;refine gg ?_;ext x;refine⟨h,f,rfl,ho,hf,h9,?_⟩;ext x;have nv:∀i,wF h f i i = "never":=λi=>wF_iff.mpr .rfl';have R:∀{i j:Nat},i<3->j<3->oneK (wdK (wF h f) 9) (.tuple [.int (i:Int),.int (j:Int)])=true:=λV S=>by unfold oneK;rw[xP ⋯,(mi (F:=wF h f) V S).2.2];rfl
  refine⟨⋯,⋯,?_⟩;refine bx (λj m=>∃a:Option L2.R,m=MSt.mk [a,~~~(.dict (wdK (wF h f) 9))] [[t],[(f 0).d,(f 1).d,(f 2).d],aaq j (.str "never")] 3) ⟨none,rfl⟩ ?_ ?_
  .rintro j d m e g ⟨a,rfl⟩ D2 hD2 hR2;let⟨S,rfl⟩:=b9 e;have D:j<3:=S;rw[ae5];ext s;refine⟨wdK (wF h f) 9,.str (wF h f j j),rfl,R D D,(mi D D).2.1,?_⟩;rw[nv];ext s;refine⟨_,rfl,by rw[aap,acg];omega,hD2 _ ⟨~~~(.int (j:Int)),?_⟩⟩;rw[agG];rfl
  intro m g ⟨a,rfl⟩;ext x;refine Jd ⋯ ⋯ ⋯ ?_;have sn:abL (.list [.str "never",.str "never",.str "never"])=true:=by ext K
  refine x_ne (d1:=.list [.str "never",.str "never",.str "never"]) (d2:=.list [.str "never",.str "never",.str "never"]) rfl rfl sn sn ?_;rw[show aaa (.list [.str "never",.str "never",.str "never"]) (.list [.str "never",.str "never",.str "never"])=true by ext K];ext s;ext b;have O:kyA (wdK (wF h f) 9)=true:=xP ⋯;have gk:∀{n:Nat}{d:aD},(ux (wdK (wF h f) 9))[n]?=some d->∃i j:Nat,i<3/\j<3/\d = .tuple [.int (i:Int),.int (j:Int)]:=λ{n d} e=>by
   unfold ux wdK at e;rw[aba]at e;let⟨x,ex,rfl⟩:=aar.mp (LD e);have:=adw.mp ex;exact⟨x/3,x%3,∅,aha _ ⋯,rfl⟩
  refine Jk (by rw[O,aet]) ?_;ext s;refine bx (λn m=>∃a b c:Option L2.R,m=MSt.mk [~~~(.list (ns.map .int)),some (.at 0 []),~~~(.int (0+(i:Int))),~~~h.d,some (.obj 1),~~~(.dict (wdK (wF h f) 9)),a,b,c] [[t],[(f 0).d,(f 1).d,(f 2).d]] 0) ⟨none,none,none,rfl⟩ ?_ ?_
  .rintro n d m e g ⟨a,b,c,rfl⟩ D2 hD2 hR2;let⟨p,q,L,J,rfl⟩:=gk e;ext s
   .rfl
   ext s;refine⟨⋯,⋯,?_⟩;refine bx (λn m=>∃c:Option L2.R,m=MSt.mk [~~~(.list (ns.map .int)),some (.at 0 []),~~~(.int (0+(i:Int))),~~~h.d,some (.obj 1),~~~(.dict (wdK (wF h f) 9)),~~~(.int (p:Int)),~~~(.int (q:Int)),c] [[t],[(f 0).d,(f 1).d,(f 2).d]] 0) ⟨c,rfl⟩ ?_ ?_
   .rintro z d m e g ⟨c,rfl⟩ D3 hD3 hR3;let⟨hz,rfl⟩:=b9 e;have I:z<3:=hz;rw[ae5];ext s;refine⟨wdK (wF h f) 9,.str (wF h f p q),rfl,R L J,(mi L J).2.1,?_⟩;ext s;refine ba (λN=>?_) (λN=>?_)
    .ext s;refine⟨wdK (wF h f) 9,.str (wF h f q z),rfl,R J I,(mi J I).2.1,?_⟩;ext s;refine ba (λQ=>?_) (λQ=>?_)
     .ext s;refine⟨wdK (wF h f) 9,.str (wF h f p z),rfl,R L I,(mi L I).2.1,?_⟩;rw[wF_iff.mpr ((wF_iff.mp N).trans' (wF_iff.mp Q))];ext s;rw[if_neg (hnc:=by ext K)];ext s;exact hD3 _ ⟨_,rfl⟩
     .ext s;exact hD3 _ ⟨_,rfl⟩
    .ext s;exact hD3 _ ⟨_,rfl⟩
   .rintro m g ⟨c,rfl⟩;exact hD2 _ ⟨_,_,_,rfl⟩
  intro m g ⟨a,b,c,rfl⟩;ext s;have sr:∀n,abL (f n).d=true:=λn=>(kJ (f n)).ok ⋯;refine OH (λn m=>∃a:Option L2.R,m=MSt.mk [a,some (.obj 1)] [[t],[(f 0).d,(f 1).d,(f 2).d],(([f 0,f 1,f 2].take n).filter λr=>aaa r.d (f 0).d).map Rule.d] 3) ⟨none,rfl⟩ ?_ ?_ ?_
  .rintro n m ⟨a,rfl⟩;rfl
  .rintro n d m e g ⟨a,rfl⟩ D2 hD2 hR2;have e':([f 0,f 1,f 2].map Rule.d)[n]?=some d:=e;let⟨r,er,rfl,hn3⟩:=gmap e';rw[aaU,er,afo,aaM]at hD2;have sq:abL r.d=true:=(kJ r).ok ⋯;have ln:((([f 0,f 1,f 2].take n).filter λr=>aaa r.d (f 0).d).map Rule.d).length≤3:=by
    rw[iO];exact aaw (adr _ _) (by rw[aaB];exact acZ _ _)
   ext s;refine x_eq (d1:=r.d) (d2:=(f 0).d) rfl rfl sq (sr 0) ?_;ext s
   cases ec:aaa r.d (f 0).d with
   |true=>
    refine jg ?_;ext s;refine⟨_,rfl,by rw[aap];omega,hD2 _ ⟨~~~r.d,?_⟩⟩;rw[show((some r).toList.filter λr=>aaa r.d (f 0).d)=[r] by show [r].filter _=_;rw[acm,ec];rfl];rfl
   |false=>
    refine jf ?_;ext s;refine hD2 _ ⟨~~~r.d,?_⟩;rw[show((some r).toList.filter λr=>aaa r.d (f 0).d)=[] by show [r].filter _=_;rw[acm,ec];rfl];rw[adE,aa5];rfl
  intro m g ⟨a',rfl⟩;ext x;have sL:∀l:List Rule,abL (.list (l.map Rule.d))=true:=λl=>(xU (k:=2) λd hd=>by
   let⟨r,_,rfl⟩:=aar.mp hd;exact kJ r).ok ⋯
  refine x_eq (d1:=.list (([f 0,f 1,f 2].filter λr=>aaa r.d (f 0).d).map Rule.d)) (d2:=.list ([f 0,f 1,f 2].map Rule.d)) rfl rfl (sL _) (sL _) ?_;have all:aaa (.list (([f 0,f 1,f 2].filter λr=>aaa r.d (f 0).d).map Rule.d)) (.list ([f 0,f 1,f 2].map Rule.d))=true->f 1=f 0/\f 2=f 0:=λz=>by
   have e0:aaa (f 0).d (f 0).d=true:=wX (kJ (f 0))
   cases N:aaa (f 1).d (f 0).d<;>cases Q:aaa (f 2).d (f 0).d<;>simp[acm,e0,N,Q,aaa,afL]at z
   exact⟨v7 N,v7 Q⟩
  generalize aaa (.list (([f 0,f 1,f 2].filter λr=>aaa r.d (f 0).d).map Rule.d)) (.list ([f 0,f 1,f 2].map Rule.d))=b at all;ext s
  cases b with
  |false=>
   ext b;exact hD1 _ ⟨_,_,_,_,_,_,_,t,_,rfl,C⟩
  | true=>
   let⟨f1,f2⟩:=all rfl;have M:∀{i:Nat},i<3->f i=f 0:=λ{i} V=>by
    rcases (show i=0\/i=1\/i=2 by omega)with rfl|rfl|rfl
    .rfl
    .exact f1
    .exact f2
   rw[if_pos rfl];ext s;refine Jk (by rw[O,aet]) ?_;ext s;refine bx (λn m=>∃a:Option L2.R,m=MSt.mk [a,~~~(.dict (wdK (wF h f) 9))] [[t],[(f 0).d,(f 1).d,(f 2).d],aaq n (.str "never")] 3) ⟨none,rfl⟩ ?_ ?_
   .rintro n d m e g ⟨a,rfl⟩ D2 hD2 hR2;let⟨p,q,L,J,rfl⟩:=gk e;have hn9:n<9:=(AD.mp e).1;ext s;refine⟨wdK (wF h f) 9,.str (wF h f p q),rfl,R L J,(mi L J).2.1,?_⟩;rw[wF_iff.mpr (by rw[M L,M J];exact .rfl')];ext s;refine⟨_,rfl,by rw[aap,acg];omega,hD2 _ ⟨~~~(.tuple [.int (p:Int),.int (q:Int)]),?_⟩⟩;rw[agG];rfl
   intro m g ⟨a',rfl⟩;ext n;have s1:∀w:Str,(aeC w).canLay0=true->Shp 0 (.str w):=λ_=>L5;refine x_in (d:=.str "worse") (ds:=aaq 9 (.str "never")) rfl (.inl rfl) (s1 _ (by ext K)) (k':=0) (λy hy=>by rw[afN hy];exact s1 _ (by ext K)) ⋯ ?_;rw[show((aaq 9 (aeC "never")).any λy=>aaa y (.str "worse"))=false by ext K];ext s;ext b;exact hD1 _ ⟨_,_,_,_,_,_,_,t,_,rfl,C⟩
 .rintro m g ⟨a2,Z,a4,X,W,Y,a8,t,os,rfl,C⟩;ext s;exact k
end
def ar_{us:List Ad}{n:Nat}(b:us.length=n):us=(aaz n).map λi=>us.getD i .none:=ahs (by rw[b,iO,aa7]) λi a c=>by
 rw[List.getElem_map,List.getElem_range,aas,lD a];rfl
local macro_rules | `(tactic| walk_at "dm") => `(tactic| exact λf fd F => F.binds λ_ _ _ _ _ _ us hl => by rw [ar_ hl]; rfl)
theorem UC{l:agk}{w:World}{K:aae}{h:aa1}{mg:Str->Option Ad}{fa:Addr}(X:K.In h)(G:h.Ns aay mg)(hfa:mg "law" = some (.ref fa))(dis_whole:DefK K "is_whole" lH)(C:DefK K "is_whole_within" df)(dis_tuple_of:DefK K "is_tuple_of" gw)(dis_less:DefK K "is_less" qM)(dis_alike:DefK K "is_alike" lm)(dis_lines:DefK K "is_lines" mn)(D:DefK K "place_of_lines" dI)(H:DefK K "first_shortest" dG)(dwait_at:DefK K "wait_at" qG)(I:DefK K "first_quickest" dM)(dsent_to:DefK K "sent_to" p6)(dfirst_stand:DefK K "first_stand" gi)(dall_orders:DefK K "all_orders" fU)(dall_moves:DefK K "all_moves" fm)(dwith_more:DefK K "with_more" jx)(dcome_to:DefK K "come_to" pF)(ddone_at:DefK K "done_at" ql)(dnext_shift:DefK K "next_shift" iJ)(dsettled:DefK K "settled" p7)(dturn_behind:DefK K "turn_behind" gq)(dline_of:DefK K "line_of" qy)(dmoved_on:DefK K "moved_on" md)(dkept_lines:DefK K "kept_lines" iQ)(dis_kept:DefK K "is_kept" qc)(dis_triple:DefK K "is_triple" jX)(J:DefK K "is_never_paper" dN)(drefuse_turns:DefK K "refuse_turns" fV)(dfirst_triple:DefK K "first_triple" fC)(dkept_step:DefK K "kept_step" jW)(dtriple_behind:DefK K "triple_behind" e9)(dis_worse:DefK K "is_worse" mh)(dleast_leads:DefK K "least_leads" gF)(L:DefK K "has_all_behind" dQ)(dlets_never:DefK K "lets_never" iR)(z:MthD K "Search" "steps_of" "Search.steps_of" bt ["self","side","lines"])(d:MthD K "Search" "triples_behind" "Search.triples_behind" aI ["self","triple"])(dSearch_met:MthD K "Search" "met" "Search.met" cW ["self","triple","ahead","move"])(dSearch_run_to:MthD K "Search" "run_to" "Search.run_to" cb ["self","at"])(o:MthD K "Search" "worse_run" "Search.worse_run" bz ["self"])(dSearch_paper:MthD K "Search" "paper" "Search.paper" b7 ["self"])(B:IniDK K "Search" "Search.__init__" bT ["self","hall","one","other"])(dnever_worse:DefK K "never_worse" gC)(d_law_tape:DefK K "_law_tape" jR)(d_law_draw:DefK K "_law_draw" jM)(d_law_frac:DefK K "_law_frac" jV)(S:DefK K "_law_all_lines" cF)(d_law_hall:DefK K "_law_hall" ci)(d_law_rule:DefK K "_law_rule" fg)(d_law_sent:DefK K "_law_sent" gN)(d_law_put:DefK K "_law_put" ll)(d_law_step:DefK K "_law_step" jr)(d_law_kept:DefK K "_law_kept" gI)(d_law_both:DefK K "_law_both" jZ)(d_law_is_bad:DefK K "_law_is_bad" gy)(d_law_walked:DefK K "_law_walked" ga)(d_law_words:DefK K "_law_words" iE)(dlaw:DefK K "law" slaw)(zlen:aaO K aay "len" = some none)(zabs:aaO K aay "abs" = some none)(zrange:aaO K aay "range" = some none)(zlist:aaO K aay "list" = some none)(ztuple:aaO K aay "tuple" = some none)(zint:aaO K aay "int" = some none)(zsum:aaO K aay "sum" = some none)(zmax:aaO K aay "max" = some none)(zmin:aaO K aay "min" = some none)(zisinstance:aaO K aay "isinstance" = some none)(zbool:aaO K aay "bool" = some none)(zsorted:aaO K aay "sorted" = some none)(zzip:aaO K aay "zip" = some none)(zenumerate:aaO K aay "enumerate" = some none)(zrepr:aaO K aay "repr" = some none)    (ff_Search_hall:InsF K "Search" "hall")(M:InsF K "Search" "rules")(Q:InsF K "Search" "moves")(P:InsF K "Search" "steps")(O:InsF K "Search" "leads")(p:InsF K "Search" "triples")(ff_Search_ways:InsF K "Search" "ways") :
  ∃fd:ab8,(∀(s:GT) (v:Ad),ahe s fd ⟨[v],[]⟩ [("_law_script",v)])/\∀base:aa1,K.In base->base.Ns aay mg->FnOk l.prog w K mg base CX0 13 fa fd ["_law_script"] (spOf ⟨K,w⟩ 1 Iy):=by
 let⟨f,fd,a,F⟩:=dlaw.ex;have e:=hfa.symm.trans (agZ X G a);cases e;have T:Bl K mg:=⟨aa4 X G zlen,aa4 X G zabs,aa4 X G zrange,aa4 X G zlist,aa4 X G ztuple,aa4 X G zint,aa4 X G zsum,aa4 X G zmax,aa4 X G zmin,aa4 X G zisinstance,aa4 X G zbool,aa4 X G zsorted,aa4 X G zzip,aa4 X G zenumerate,aa4 X G zrepr,ff_Search_hall,M,Q,P,O,p,ff_Search_ways⟩;refine⟨fd,λs v=>?_,λbase _ _=>?_⟩
 .obtain⟨oc,od,kV,doc,pm,an,cdv,ct,osl,rfl,lk,hcd⟩:=F.ex;exact .of_eq rfl
 .have Gis_whole:=@yv l.prog w K mg base T (dis_whole.m X G 'd');have x:=@js l.prog w K mg base T (C.m X G 'd') Gis_whole;have n:=@qm l.prog w K mg base T (dis_tuple_of.m X G 'd');have Gis_less:=@Bc l.prog w K mg base T (dis_less.m X G 'd');have Gis_alike:=@yo l.prog w K mg base T (dis_alike.m X G 'd');have Gis_lines:=@yi l.prog w K mg base T (dis_lines.m X G 'd') n x;have R:=@kl l.prog w K mg base T (D.m X G 'd');have U:=@kz l.prog w K mg base T (H.m X G 'd');have Gwait_at:=@Dg l.prog w K mg base T (dwait_at.m X G 'd');have E:=@kB l.prog w K mg base T (I.m X G 'd') Gwait_at Gis_less;have Gsent_to:=@Bw l.prog w K mg base T (dsent_to.m X G 'd') U E R;have Gfirst_stand:=@qh l.prog w K mg base T (dfirst_stand.m X G 'd');have Gall_orders:=@sf l.prog w K mg base T (dall_orders.m X G 'd');have Z:=@vb l.prog w K mg base T (dall_moves.m X G 'd') Gall_orders;have m:=@uQ l.prog w K mg base T (dwith_more.m X G 'd');have Gcome_to:=@BO l.prog w K mg base T (dcome_to.m X G 'd') m;have Gdone_at:=@C8 l.prog w K mg base T (ddone_at.m X G 'd') m;have Gnext_shift:=@rG l.prog w K mg base T (dnext_shift.m X G 'd');have Gsettled:=@zc l.prog w K mg base T (dsettled.m X G 'd') Gnext_shift m;have Gturn_behind:=@qF l.prog w K mg base T (dturn_behind.m X G 'd');have Gline_of:=@zY l.prog w K mg base T (dline_of.m X G 'd') Gsent_to;have Gmoved_on:=@yk l.prog w K mg base T (dmoved_on.m X G 'd') Gline_of Gcome_to Gturn_behind Gdone_at Gsettled;have t:=@rh l.prog w K mg base T (dkept_lines.m X G 'd') Gis_alike;have Gis_kept:=@Dj l.prog w K mg base T (dis_kept.m X G 'd') Gis_lines t;have Gis_triple:=@vq l.prog w K mg base T (dis_triple.m X G 'd') n Gis_kept Gis_whole;have N:=@kH l.prog w K mg base T (J.m X G 'd') Gis_triple;have k:=@oi l.prog w K mg base T (drefuse_turns.m X G 'd');have i:=@oo l.prog w K mg base T (dfirst_triple.m X G 'd') Gfirst_stand;have Y:=@uF l.prog w K mg base T (dkept_step.m X G 'd') Gmoved_on t;have g:=@mH l.prog w K mg base T (dtriple_behind.m X G 'd');have Gis_worse:=@yL l.prog w K mg base T (dis_worse.m X G 'd');have Gleast_leads:=@p8 l.prog w K mg base T (dleast_leads.m X G 'd');have V:=@kj l.prog w K mg base T (L.m X G 'd') Z Y g;have Glets_never:=@sy l.prog w K mg base T (dlets_never.m X G 'd') k N i Gleast_leads Gis_worse V;have y:=@ju l.prog w K mg base T z Y;have c:=@fG l.prog w K mg base T d y g;have A:=@rH l.prog w K mg base T dSearch_met;have GSearch_run_to:=@k7 l.prog w K mg base T dSearch_run_to;have q:=@i8 l.prog w K mg base T o c Gis_worse GSearch_run_to A;have GSearch_paper:=@oa l.prog w K mg base T dSearch_paper;have u:=@jL l.prog w K mg base T (B.m X G) Z i A;have Gnever_worse:=@pj l.prog w K mg base T (dnever_worse.m X G 'd') k u q GSearch_paper;have G_law_tape:=@vh l.prog w K mg base T (d_law_tape.m X G 'd');have W:=@uE l.prog w K mg base T (d_law_draw.m X G 'd');have G_law_frac:=@uL l.prog w K mg base T (d_law_frac.m X G 'd');have b:=@kG l.prog w K mg base T (S.m X G 'd');have G_law_hall:=@vk l.prog w K mg base T (d_law_hall.m X G 'd') W G_law_frac b;have G_law_rule:=@vA l.prog w K mg base T (d_law_rule.m X G 'd') W b;have G_law_sent:=@ur l.prog w K mg base T (d_law_sent.m X G 'd') b;have G_law_put:=@yl l.prog w K mg base T (d_law_put.m X G 'd');have G_law_step:=@uT l.prog w K mg base T (d_law_step.m X G 'd') G_law_sent G_law_put;have G_law_kept:=@uD l.prog w K mg base T (d_law_kept.m X G 'd');have G_law_both:=@uH l.prog w K mg base T (d_law_both.m X G 'd') G_law_step G_law_kept;have G_law_is_bad:=@pk l.prog w K mg base T (d_law_is_bad.m X G 'd');have G_law_walked:=@qX l.prog w K mg base T (d_law_walked.m X G 'd') G_law_both;have G_law_words:=@sI l.prog w K mg base T (d_law_words.m X G 'd') Gnever_worse Glets_never G_law_walked G_law_is_bad;exact Wf T F G_law_tape G_law_hall G_law_rule G_law_words
theorem walk{l:agk}{q:aaI}{b:List Str}{X:(Str->Option Ad)->aa1->Prop}{Y:World->aa1->Prop}{d:DefRec}{K:Params->aae}(g:PyProof.Rows.importsNone q=true)(y:l.most=some 63)(c:d.params.defaults=[])
  (m:∀(w:World) (h:aa1),Y w h->(K w.params).In h)
  (F:∀(w:World) (mg:Str->Option Ad) (e:Addr) (h:aa1),(K w.params).In h->h.Ns aay mg->mg d.name=some (.ref e) ->
   ∃fd:ab8,(∀(s:GT) (u:Ad),ahe s fd ⟨[u],[]⟩ [("_law_script",u)])/\∀base:aa1,(K w.params).In base->base.Ns aay mg->FnOk l.prog w (K w.params) mg base CX0 13 e fd ["_law_script"] (spOf ⟨K w.params,w⟩ 1 Iy)) :
  ahN q b X Y l.row.toRowW d [] (λf vs=>ahL f vs):=
 L2.KZ (n:=63) (k:=13) (x:= "_law_script") (CX:=λ_=>CX0) (sp:=λw=>spOf ⟨K w.params,w⟩ 1 Iy) g y ⋯ c ⟨rfl,⋯,⋯,rfl⟩ m F
  (λw H a ns A p t=>⟨[.imm (.list (ns.map .int))],[],λr _=>r = .imm (.bool true),rfl,abV,.imm (yR p t) .nil,⟨ns,rfl,A,rfl⟩,λr o v i k _ rr _=>by cases k;exact jl (show Den ⟨K w.params,w⟩ i (.bool true) v from rr)⟩) λ_ _ _ _ _ z=>z
end K
namespace PySem.W.Fast
def tw8759888591410298376:=0
def tw7812677819301188815:=0
def tw10523987355793424113:=0
def tw14357363683245774297:=0
def tw14976735673176854922:=0
def tw9063363533715652832:=0
def tw14910146413114425355:=0
def tw11485882932531096598:=0
def tw11177651046785355656:=0
def tw14315836577138585713:=0
def tw8677418441981950781:=0
def tw17496783938204033541:=0
def tw11201353871950841928:=0
def tw16023708260273301656:=0
def tw7258892973536933730:=0
def tw17347307542681367707:=0
def tw5282568966909927507:=0
def tw5350994695350464853:=0
def tw14834252057865237881:=0
def tw6075030089204159609:=0
def tw18021145272639069668:=0
def tw8088360619166874396:=0
def tw9930581727536035529:=0
def tw12447248154182531953:=0
def tw16228655635409492265:=0
def tw7109075213379224009:=0
def tw6812009348992436840:=0
def tw9637277445159358910:=0
def tw10347649884218270235:=0
def tw15746564660594788827:=0
def tw5811106836740909957:=0
def tw1137070927575501430:=0
def tw9442900373065344991:=0
def tw11382024969352773742:=0
def tw16031880200324266121:=0
def tw12872670029267694376:=0
def tw12804361745785169975:=0
def tw15716938783375046808:=0
def tw12159887718646850014:=0
def tw4164135603639557320:=0
def tw11274345038836635025:=0
def tw5619284916466073789:=0
def tw4156527377630367511:=0
def tw13470534061955970156:=0
def tw4084942168423714025:=0
def tw1620409700270296492:=0
def tw9081884731709657423:=0
def tw12330787128648721994:=0
def tw1347202343242012407:=0
def tw1640899126836622608:=0
def tw2054726234022998323:=0
def tw9009058574832240717:=0
def tw15791717663811936860:=0
def tw8073110327808007179:=0
def tw17400291248091219073:=0
def tw15043653811819042467:=0
def tw7388232169781049537:=0
def tw1416947024044049465:=0
def tw665839214357658362:=0
def tw4610667943384491767:=0
def tw2219271155637122029:=0
def tw17035736134892894886:=0
def tw16464993812660588774:=0
def tw14754854506514460113:=0
def tw12103709651127312026:=0
def tw16070604594806347712:=0
def tw1216416630176718146:=0
def tw6900235789385959352:=0
def tw7174933499735219498:=0
def tw15205052915952546491:=0
def tw17527277370121892937:=0
def tw6686251450151675897:=0
def tw7374176526350904557:=0
def tw4473959691942400158:=0
def tw254915863173194433:=0
def tw6658224835574112549:=0
def tw16882975152517689151:=0
def tw4676423882048219907:=0
def tw8466260227075028601:=0
def tw9351197901371680946:=0
def tw7495808806920023088:=0
def tw1204874776325044396:=0
def tw110968208841202427:=0
def tw5420646744562480457:=0
def tw14159231784477495931:=0
def tw5774334196766303156:=0
def tw6588109234992440022:=0
def tw15966846579831919129:=0
def tw16390545601194268715:=0
def tw7914289604751591408:=0
def tw3925506653377419952:=0
def tw260818607695516475:=0
def tw16259635307680851391:=0
def tw16639152684124953980:=0
def tw10295578552946369406:=0
def tw9750026380444087324:=0
def tw1591984436488841190:=0
def tw16512093038775229458:=0
def tw12046954096066890554:=0
def tw2556895003418534908:=0
def tw11130927823782996581:=0
def tw15610726184692834600:=0
def tw3800652550974988838:=0
def tw13087448813915151516:=0
def tw9993098098386888638:=0
def tw9400944228963499165:=0
def tw10859032047047983529:=0
def tw9587315594665916571:=0
def tw3222151218668735995:=0
def tw5693535145305265039:=0
def tw13382825788080252769:=0
def tw5008181626677123488:=0
def tw3344015832714301351:=0
def tw5771129361110538175:=0
def tw14459247484137049309:=0
def tw1207548215248411168:=0
def tw15979368107378533345:=0
def tw3600759036858001063:=0
def tw8652455730490483033:=0
def tw14673932232771487758:=0
def tw13118275619545266055:=0
def tw2433634635470626394:=0
def tw10148851865927882246:=0
def tw9855824742884609100:=0
def tw17089994358224500949:=0
def tw6819025630918349119:=0
def tw8918671162858788082:=0
def tw6986680071829810267:=0
def tw1978942704042828017:=0
def tw8743845153408396424:=0
def tw1398528988236367045:=0
def tw13790320439871349579:=0
def tw8605849786339634914:=0
def tw17899023730949827628:=0
def tw11450913212036583201:=0
def tw6733844354772439736:=0
def tw16966924492265373149:=0
def tw17450221660371832788:=0
def tw8728145977813437377:=0
def tw13345521542472813757:=0
def tw1563914908565647093:=0
def tw14171123863445441173:=0
def tw7629506149843344903:=0
def tw8877460630694906909:=0
def tw1834638390581213112:=0
def tw4198903626071935843:=0
def tw5721665036486749463:=0
def tw8165344748939505928:=0
def tw11942215234125286145:=0
def tw5639752349625636638:=0
def tw13285801984750186750:=0
def tw4371049339151742544:=0
def tw10110083242850738246:=0
def tw9090319776426337809:=0
def tw10571814858023314048:=0
def tw12924010211119463101:=0
def tw6878618484886855301:=0
def tw3453224421344678550:=0
def tw12224022659120641953:=0
def tw13066958464544430017:=0
def tw7138414954375486196:=0
def tw1620088781327090321:=0
def tw2820420642070773896:=0
def tw4241837862142043674:=0
def tw13128139136990396723:=0
def tw2626050632378616250:=0
def tw836645332385146365:=0
def tw12485705802638666559:=0
def tw16120945174536119354:=0
def tw7203871751189137067:=0
def tw7366215054215838754:=0
def tw17438504346001079802:=0
def tw14132200983947790168:=0
def tw4088254307782688604:=0
def tw9196896612763261709:=0
def tw12978700150174516200:=0
def tw10711545530956345597:=0
def tw16153563456369728130:=0
def tw7871569934670542519:=0
def tw651707492093498345:=0
def tw1421574608764907561:=0
def tw16238026091962100705:=0
def tw13454781190949294350:=0
def tw6187673411019083487:=0
def tw2451907390782302223:=0
def tw6568045313873636241:=0
def tw191752413009217952:=0
def tw9436387005287262567:=0
def tw13435700756422775366:=0
def tw9982224365313646532:=0
def tw4159403498473781955:=0
def tw9743282033193982366:=0
def tw10452927571651975063:=0
def tw7431467535817143408:=0
def tw16663860629425481173:=0
def tw2143225394993607005:=0
def tw8193165223947303320:=0
def tw14563760183272097723:=0
def tw15932490567004945005:=0
def tw9378432241870121999:=0
def tw11656974030365967020:=0
def tw6147900958659856335:=0
def tw14290855160183858518:=0
def tw14296742814393657170:=0
def tw14828562023580106106:=0
def tw631052276220732706:=0
def tw1760672464359458743:=0
def tw5762063074499204850:=0
def tw15191622563315495099:=0
def tw5838456075586518856:=0
def tw14212392947237045579:=0
def tw14417759813243688406:=0
def tw13816671181928722652:=0
def tw12567087232831666585:=0
def tw18276718919812886147:=0
def tw929170189244071053:=0
def tw16450327793635549974:=0
def tw3502853874062617097:=0
def tw14293224101360426990:=0
def tw12857149861969680484:=0
def tw4054452686865815988:=0
def tw18424629012562943770:=0
def tw11436708527005015128:=0
def tw16087281022306470619:=0
def tw3827775528535698662:=0
def tw87307576188714458:=0
def tw10586437858017292628:=0
def tw16311514273764754168:=0
def tw2094862238896116264:=0
def tw7250746858812858:=0
def tw16335935922705677564:=0
def tw15171563669455268133:=0
def tw16811068493879315752:=0
def tw1239298033749719775:=0
def tw13183454675898376842:=0
def tw39828441571681673:=0
def tw12044970703662225447:=0
def tw2519904466543363256:=0
def tw1125145627747524187:=0
def tw2010524708586180161:=0
def tw6437138758684358258:=0
def tw10587437756342951453:=0
def tw2388469092812117969:=0
def tw17992285195196572813:=0
def tw7905851727653199543:=0
def tw16252220731725372989:=0
def tw10805160268167597119:=0
def tw9112534878568878730:=0
def tw16451732285913448584:=0
def tw5333547888024510710:=0
def tw898953083522419298:=0
def tw14215214937051568565:=0
def tw376758222953461622:=0
def tw4147106673918653065:=0
def tw1102314238706602416:=0
def tw14144839713767649727:=0
def tw3612893517218002530:=0
def tw15185596086468779606:=0
def tw11401952707737547191:=0
def tw2660896798243748861:=0
def tw7749827198568665293:=0
def tw17023658456346464737:=0
def tw1252541516164716397:=0
def tw4799551475031184647:=0
def tw16217687731006683603:=0
def tw15542722024810117314:=0
def tw390269195878425864:=0
def tw2013455864334798911:=0
def tw3320283610181455252:=0
def tw4158210328644483865:=0
def tw7795491668115778669:=0
def tw4828920200274044333:=0
def tw11734876888456267624:=0
def tw12900704127127645687:=0
def tw11012208135510867900:=0
def tw406253718122529142:=0
def tw3864902436579793565:=0
def tw17143648860402944444:=0
end PySem.W.Fast
open PySem PySem.W PyProof.Rows
local macro_rules | `(tactic| walk_at "dk") => `(tactic| (refine' L2.DefK.of ?a ?l ?c ?k; (case a => k_is); (case l => k_is); (case c => k_is); (case k => k_is)))
set_option maxRecDepth 100000 in
set_option maxHeartbeats 0 in
theorem PySem.Challenge.cw_shorterline_k59_whole_never_goes_on_holds : PySem.Challenge.rw_shorterline_k59_whole_never_goes_on.Holds := by
 w_on;o_law;k_head;(case hw=>w_witness2)
 k_fill
 refine K.walk (l:=PySem.Challenge.rw_shorterline_k59_whole_never_goes_on) ?hq rfl rfl (λw h Y=>PySem.W.kIn_of Y) ?F
 case hq=>kernel_rfl
 case F=>
  intro w mg fa h KX G hmg;refine' K.UC KX G hmg ?_ ?_ ?_ ?_ ?_ ?_ ?_ ?_ ?_ ?_ ?_ ?_ ?_ ?_ ?_ ?_ ?_ ?_ ?_ ?_ ?_ ?_ ?_ ?_ ?_ ?_ ?_ ?_ ?_ ?_ ?_ ?_ ?_ ?_ ?_ ?_ ?_ ?_ ?_ ?_ ?_ ?_ ?_ ?_ ?_ ?_ ?_ ?_ ?_ ?_ ?_ ?_ ?_ ?_ ?_ ?_ ?_ ?_ ?_ ?_ ?_ ?_ ?_ ?_ ?_ ?_ ?_ ?_ ?_ ?_ ?_ ?_ ?_ ?_ ?_ ?_ ?_ ?_ ?_
  iterate 34 · ext dk
  .refine' L2.MthD.of K.ku ?xa ?xb ?xc ?xd ?xe ?xf ?xl ?xg ?xk ?xn;(case xa=>k_is);(case xb=>k_is);(case xc=>k_is);(case xd=>k_is);(case xe=>k_is);(case xf=>k_is);(case xl=>k_is);(case xg=>k_is);(case xk=>k_is);(case xn=>k_is)
  .refine' L2.MthD.of K.f8 ?xa ?xb ?xc ?xd ?xe ?xf ?xl ?xg ?xk ?xn;(case xa=>k_is);(case xb=>k_is);(case xc=>k_is);(case xd=>k_is);(case xe=>k_is);(case xf=>k_is);(case xl=>k_is);(case xg=>k_is);(case xk=>k_is);(case xn=>k_is)
  .refine' L2.MthD.of K.va ?xa ?xb ?xc ?xd ?xe ?xf ?xl ?xg ?xk ?xn;(case xa=>k_is);(case xb=>k_is);(case xc=>k_is);(case xd=>k_is);(case xe=>k_is);(case xf=>k_is);(case xl=>k_is);(case xg=>k_is);(case xk=>k_is);(case xn=>k_is)
  .refine' L2.MthD.of K.n9 ?xa ?xb ?xc ?xd ?xe ?xf ?xl ?xg ?xk ?xn;(case xa=>k_is);(case xb=>k_is);(case xc=>k_is);(case xd=>k_is);(case xe=>k_is);(case xf=>k_is);(case xl=>k_is);(case xg=>k_is);(case xk=>k_is);(case xn=>k_is)
  .refine' L2.MthD.of K.jB ?xa ?xb ?xc ?xd ?xe ?xf ?xl ?xg ?xk ?xn;(case xa=>k_is);(case xb=>k_is);(case xc=>k_is);(case xd=>k_is);(case xe=>k_is);(case xf=>k_is);(case xl=>k_is);(case xg=>k_is);(case xk=>k_is);(case xn=>k_is)
  .refine' L2.MthD.of K.qE ?xa ?xb ?xc ?xd ?xe ?xf ?xl ?xg ?xk ?xn;(case xa=>k_is);(case xb=>k_is);(case xc=>k_is);(case xd=>k_is);(case xe=>k_is);(case xf=>k_is);(case xl=>k_is);(case xg=>k_is);(case xk=>k_is);(case xn=>k_is)
  .refine' L2.IniDK.of K.ki ?xa ?xd ?xl ?xe ?xk ?xf ?xm ?xc;(case xa=>k_is);(case xd=>k_is);(case xl=>k_is);(case xe=>k_is);(case xk=>k_is);(case xf=>k_is);(case xm=>k_is);(case xc=>k_is)
  iterate 16 · ext dk
  iterate 15 · k_is
  iterate 7 · refine' L2.InsF.of ?xa ?xb ?xc ?xd ?xe ?xf;(case xa=>k_is);(case xb=>k_is);(case xc=>k_is);(case xd=>k_is);(case xe=>k_is);(case xf=>k_is)