import PyProof.Rows.All
import Wide.All
import OpenK.AllK
import Wide.FinOn
import Lean
import PyProof.EqAt
import PyProof.EqKinds
import PyProof.TupleCall
import KE.KRevIter
import PyProof.FactsAll.range
import PyProof.P3In
import PyProof.ZipIter
import PyProof.TupleIter
import PyProof.WalkInts
import PyProof.SeqI3
import PyProof.EnumFor
import PyProof.EnumMake
import PyProof.ListMulRoad
import PyProof.Rows.SortRev
import PyProof.SumWalkG
import PyProof.StrWalks
import PyProof.StrCalls2
import PyProof.StrLawsTight
import KE.KIntText
import PyProof.StrBlockG
import PyProof.Rows.StrItems
import PyProof.StrLawsRepr
import PyProof.SliceStr2
import PyProof.StrBlockI
import PyProof.Rows.IntBool
import PyProof.Rows.FStr
import PyProof.FString
import PyProof.FactsAll.tuple
import KE.KSortTup
import PyProof.AutoListH
import PyProof.StrOps2
import PyProof.ListStr
import PyProof.DictRoadsH
import PyProof.Rows.TupTab
import PyProof.P3Eq
import PyProof.StationsW
import PyProof.RulesAs
import OpenK.KOwn
import KE.KTryMore
import PyProof.NsDelKeeps
import PyProof.ExcArgsOwn
import PyProof.ExcInit
import PyProof.InstStoreFacts
import PyProof.ListRange
import PyProof.TupleOfStr
import PyProof.CollectIter
import PyProof.DictItems
import PyProof.DictWalks
import PyProof.CollectWalk
import PySem.Challenge.RW_shorterline_k25_what_a_turn_leaves
set_option Elab.async false
set_option linter.all false
set_option maxRecDepth 100000
open PySem renaming wpAny_bind->gE,PyData->iO,Value->GE,wpAny_pure->aaa,Shared->aab,sizeLine->aam,starEach->aan,sizeLine_eq->aaq,wpAny_setField_rec->aaD,wpAny_callSpecial?_slot->aaP,wpAny_call_entry->aaT,mainGlobals->aaU,foldedSetIterable->aaW,Program->aaZ,wpAny_newObj_type->aa5,Heap->aa6,wpAny_field->abf,bootBuiltins->abh,wpAny_isOneOf_itemiter->abj,Around->abz,attributeBase->abD,sysModules->abH,assignEach->abL,wpAny_holding->abM,Paired->abV,wpAny_dictEntries->abX,swapsWith->abY,compareOp->abZ,backTo->acb,wpAny_dictEpoch->aci,pyNext->acj,DictEntry->acn,wpAny_isInstance->acq,wpAny_attempt->acu,binaryOp->acw,IsItemIter->acG,mem_of_lookup->acI,setField->acK,Builtin->acM,wpAny_rule->acU,wpAny_seqItems->acV,wpAny_passesOwn->ac1,FuncData->ac4,wpAny_mono->ac9,assign->ada,wpAny_standAt->adb,swapsWithSole->adc,swappedStores->add,behindInMarks->ade,rawInt->adj,standAt->ado,wpAny_typeOf->adq,Keyword->adr,letOwnedTupleGo->adA,wpAny_isOneOf_keyiter->adH,holding->adI,keywordEach->adM,wpAny_fieldsOf->adP,wpAny_comprehension_free->ad2,ReadsAll->ad3,wpAny_specialOf->aeb,wpAny_Call_Name_kw->aec,call_meets->aed,sliceBounds->aei,wpAny_newTuple->aer,isSubtype_stop->aes,wpAny_pyIter_slot->aew,wpAny_notOrdered_dict->aeH,wpAny_forIn_list->aeN,codeAny->aeT,getItem->aeU,NameKind->ae0,wpAny_updateSeq_pair->ae2,wpAny_execs_nil->afa,pyIter->afb,IsPair->afg,wpAny_loadPart'->afi,codeAny_builtin->afj,codeAny_mono->afm,valueAt->afp,backToKw->afx,wpAny_binaryOp_repeat_ref->afF,wpAny_sequenceKey->afK,wpAny_letGo->afN,wpAny_onRaise->afR,IsItemIterOut->afS,PassesOwn->afX,IntMulOk->afY,noFill_tuple_add->af0,wpAny_Call_method0_late->aga,concat_meets->agk,IsPart->agl,typeIs_int->agn,wpAny_Call_method_late->ago,wpAny_Assign_Subscript->ags,wpAny_updateSeq->agC,exec_Assign_Name_used->agD,builtinLookup_eq_fast->agH,subscripted->agL,compEnvC->agN,tupleKind->agY,setItem->agZ,callerA->ag0,relabel->ag1,evalArgs_none->ag5,assignInOrder->ahe,seq_tuple_add->ahf,plainId_quiet->ahk,typeLookup->aho,BindsTo->ahz,seqIndex_neg->ahA,compTurn->ahB,newList->ahC,newTuple->ahG,callSpecial?->ahH,call_meetsIn->ahJ,seqSlot_of->ahU,specialOf->ahV,call->ah5
open List renaming getElem?_eq_getElem->oR,length_map->Ge,mem_of_getElem?->OR,getElem?_eq_some_iff->aad,getElem?_map->aae,mem_cons_of_mem->aaf,take_length->aag,mem_cons_self->aah,map_cons->aao,size_toArray->aap,mem_cons->aas,length_append->aat,getD_eq_getElem?_getD->aau,mem_singleton->aaw,replicate->aax,mem_map->aaA,range->aaI,getElem?_append_right->aaJ,length_take->aaK,length_cons->aaL,getElem?_set_ne->aaM,getElem?_append_left->aaO,map_append->aaQ,getElem?_set_self->aaS,getElem?_take->aaV,take_add_one->aa1,length_range->aa2,not_mem_nil->aa3,eq_nil_of_length_eq_zero->aa7,append_nil->abb,nodup_cons->abc,getElem_mem->abm,mem_append->abn,length_set->abo,mem_append_right->abp,map_map->abq,replicate_succ->abr,mem_iff_getElem->abx,map_nil->abJ,pairwise_iff_getElem->abR,getElem?_range->abW,find?_cons->ab5,lookup_cons->ab6,all_eq_true->ab7,sum_cons->ab9,ext_getElem?->ace,Nodup->acf,take_succ->acy,getElem?_zipWith_eq_some->acz,flatten_cons->acA,append_assoc->acB,flatMap_append->acJ,all_cons->acQ,length_replicate->acX,getElem?_eq_none->acZ,range_succ->ac3,mem_of_mem_take->ac6,getElem?_of_mem->ac8,mem_flatMap->adk,nodup_nil->adm,set_cons_succ->ady,length_zipIdx->adz,foldl_cons->adB,nil_append->adC,foldl_append->adJ,length_drop->adT,all_map->adU,getElem_map->adV,getElem_set_ne->adX,sum_append->ad9,length_nil->aea,set_eq_take_append_cons_drop->aeo,zipWith->aeA,length_singleton->aeE,length_filter_le->aeI,foldl->aeL,filter_cons->aeS,any_cons->aeW,length->ae1,getElem?_zipIdx->ae5,forIn_cons->afe,filterMap_cons->afl,pairwise_cons->afy,map_replicate->afC,set_cons_zero->afD,mem_or_eq_of_mem_set->afG,eq_of_mem_replicate->afU,getElem?_replicate->afZ,cons_append->af4,any_eq_true->agd,take_of_length_le->agp,of_mem_zip->agy,getElem_set_self->agE,contains_iff_mem->agI,mem_append_left->agJ,getElem_toArray->agR,drop_zero->agT,getElem?_mapIdx->agU,map_congr_left->ag4,getElem_zipIdx->ag6,length_zipWith->ag8,getD_cons_succ->aha,map_eq_nil_iff->ahc,filter_append->ahx,nodup_append->ahD,ext_getElem->ahR,zipIdx_cons->ahT,range'->ahZ
open PySem.Heap renaming get?_push_of_some->Io,lt_size->aak,get?_push_size->aal,SameBut->abu,size_push->abB,get?_update_other->acO,get?_update_self->acY,get?_push_cases->ae3,ExtBut->afM,size_update->agc
open Nat renaming le_refl->aac,lt_of_lt_of_le->aaz,lt_of_le_of_lt->aaE,le_trans->aaF,lt_trans->aaY,ne_of_lt->aa4,gcd_pos_of_pos_right->abl,ne_of_gt->abv,mul_le_mul->abC,zero_add->abO,lt_succ_self->abP,mul_assoc->ab2,mul_comm->ab4,dvd_trans->aca,le_add_right->acr,lt_irrefl->acP,dvd_mul_left->acT,zero_le->ac5,gcd_dvd_right->ac7,zero_ne_add_one->adh,le_of_lt->adn,succ_mul->adu,div_le_self->adD,mul_le_mul_right->adN,pow_le_pow_right->adO,mul_pos->adQ,lt_or_gt_of_ne->aee,div_mul_cancel->aef,Coprime->aen,lt_succ_of_lt->aet,le_of_ble_eq_true->aeF,min_le_right->aeK,gcd_dvd_left->aeQ,add_assoc->aeV,le_of_dvd->aeY,le_max_left->aff,pow_one->afP,min_eq_right->af2,gcd_le_right->af7,pow_succ->agq,gcd_comm->agx,min_eq_left->agz,pos_of_dvd_of_pos->agG,log2_lt->agS,add_le_add_right->agW,mul_lt_mul_right->agX,mul_div_cancel'->ag7,add_left_cancel->ahb,mod_lt->ahs,mul_right_comm->ahv,gcd_zero_right->ahw,sub_zero->ahF,dvd_mul_right->ahM,dvd_refl->ahN,div_pos->ah0,mul_one->ah1
open Option.some renaming inj->aai,injEq->afL
open PySem.W renaming Frag->aaj,mg_none_of->abe,nsIn->abw,keepIn->adK,fnOf->adR,codeIn->afv,methodObj->afI,cellsFrom_some->agj,kas_rev->ag2,mg_of->ahj,OpenLaw->ah2,WalkO->ah8
open PySem.PyData renaming eqv->aar,depthAll->aav,canLayAll0->aba,int->abi,hasDict_of_canLay->abk,tuple->acg,hasDictAll_of_canLayAll->acp,hasDict->acx,hasDictAll->acD,shownAll->ac2,eqvAll->adE,str->aeM,shown->afo,showableAll->ahp,noDict_hsm->ahE,canLay0->ah6
open Bool renaming false_ne_true->aay,and_eq_true->aaH,beq_eq_decide_eq->acl,false_eq_true->aco,eq_iff_iff->acE,or_eq_true->ad8,or_true->aeD,not_eq_true->af8,false_and->agK,or_eq_false_iff->agP,and_self->ahi,and_true->ahm
open Int renaming natCast_mul->aaB,mul_left_comm->aaC,natAbs_natCast->aaN,mul_assoc->aaR,toNat_natCast->aaX,mul_comm->aa0,mul_pos->abG,natCast_add->abN,eq_ofNat_of_zero_le->ab8,ofNat_dvd_left->act,eq_of_mul_eq_mul_right->acW,mul_ediv_cancel_left->ad7,emod_lt_of_pos->aeg,one_mul->ael,sub_mul->aem,natAbs_mul->aex,natAbs_ediv_of_dvd->aey,mul_nonneg->aez,ofNat_lt->aeC,natCast_ediv->aeR,mul_one->aeZ,add_mul->ae6,le_refl->ae7,nonneg_of_mul_nonneg_left->ae8,emod_nonneg->afk,zero_mul->afq,ediv_nonneg->agB,zero_add->ahI,natAbs_sub_le->ahK,le_trans->ahL
open PySem.PassesOwn renaming never->aaG
open PySem.F renaming slot_dict_itemiterator_next->aa8,slot_dict_keyiterator_next->abA,slot_list_append->abE,type_list_append->abF,args_dict_itemiterator_next_1->ack,entry_dict_itemiterator_next->acs,slot_tuple_index->acv,slot_dict_items_iter->acH,slot_dict_itemiterator_next->acR,type_tuple_index->adg,slot_enumerate_next->adF,args_dict_keyiterator_next_1->adY,plain_extend_loop->adZ,args_tuple_add_2->ad0,entry_dict_keyiterator_next->ad5,slot_dict_itemiterator_iter->ad6,entry_tuple_add->aeh,plainAttrs_dict->aej,slot_dict_items->aek,slot_tuple_add->aep,slot_tuple_mul->aeu,slot_dict_get->aeG,args_dict_items_iter_1->aeO,entry_dict_items_iter->ae4,slot_zip_next->afh,slot_tuple_iterator_next->afA,slot_tuple_hash->afO,slot_list_extend->afV,type_list_extend->afW,slot_list_index->af3,args_enumerate_next_1->af5,slot_tuple_rmul->af6,args_dict_get_3->af9,type_dict_items->agb,entry_enumerate_next->agr,entry_dict_get->agt,slot_dict_iter->agu,slot_int_rmul->agF,entry_extend_loop->ag9
open PySem.Builtin.Dict_items renaming ownsTuple->abd,ownedTupleIsFree->ab3,pairFromOwner->ach,ownedTupleFields->ad4,newIterator->aeP,isOneOf->afE,dictOf->afH
open Array renaming length_toList->abg,getElem?_eq_getElem->abU,getElem?_toList->acm,getElem?_eq_none->aev,forIn_toList->ahu,size_push->ah3
open Ne renaming symm->abt
open PyProof.Rows renaming slot_tuple_getitem->aby,callWith_type1->acN,seqObj->aeB,callWith_builtin1->aeJ,envOfC->afc,IntsAre->afn,assignInOrder_cons->afu,AllBare->afJ,subscriptTail_builtinR->agm,sortedHeap->agw,tupleItemsOf_->ahg,subscriptTail->ahh,listUpdate_at->ahl
open PySem.Str renaming ofString->abI,empty->ahQ
open PySem.Builtin.List renaming listLengthHint->abK,listTooLong->adf,listExtendWith->afr,listSameRef->afT,listTouch->agv
open PySem.Builtin.Tuple renaming tupleHashOf->abQ,tupleExact->ab0,tupleItemsOf->adL,tupleIsExact->afz,tupleTooMany->afB
open PySem.Builtin.SmallTypes renaming nextOf->abT,ownedTupleIsFree->ab1,ownedTupleHandOut->acL
open PySem.Obj renaming mapSeq->acd,data_mapFields->ahr
open Option renaming map_some->acF,map_eq_some_iff->adx,isSome_iff_exists->afQ,getD_none->af1
open PySem.Value renaming ref->acS,none->agh,type->agi,int->aib,str->aic
open PySem.Builtin.Slice renaming slicePlaces->ac0,sliceAdjust->adW,sliceApplied->afw
open Or renaming inr->adl,inl->agQ
open False renaming elim->adp
open PySem.Calls renaming callWith_builtin->adt,Name_function_global->aft,evalArgs_plain->agM,spliced_cons->ahn,spliced_nil->ahy
open PySem.SeqAt renaming canLay_of_shaped->adv,readOf->adw,shaped->aeq,EqAt->agg,readsAll_map->ahq,items_eqAt->ahS,eqAt_reads->ahW
open PySem.Builtin.Dict renaming showsAll->adG
open PySem.NameKind renaming free->ad1,cell->ah9
open PySem.Shared renaming TypeIs->aeX,heap->ahY
open PySem.Around renaming under_plainId->ae9
open ForInStep renaming yield->afd
open LawfulBEq renaming eq_of_beq->afs
open Sum renaming inl->age,inr->agf
open List.cons renaming injEq->agA
open PySem.Heap.SameBut renaming update->ag3
open PySem.Paired renaming length->ahd
open True renaming intro->aht
open LawfulMonad renaming pure_bind->ahO
open And renaming intro->ahP
open PySem.PyData.int renaming injEq->ahX
open Int.ofNat renaming inj->aia
namespace L2
open PySem PySem.Spec PyProof.Rows
variable{us:List GE}{H:Hp}{a b:Addr}{o:HO}{h:aa6}{P:aaZ}{w:World}{g':Array GenState}{i j t':Nat}{ch fp:List Addr}{N ps:List Str}{x:Str}{M:Model}{A:abz}{E Q:GE->aab->Prop}{v:V}{u:GE}{X:Cx}{c e tg:Expr}{pos:Pos}{pins:List (Addr×Obj)}{σ:St}{K:aaj}{es:List Expr}{body:List Stmt}{f:GE->GE->Sem GE}{r:R2}{g:Int->Int->Int}{op:CmpOp}{mg:Str->Option GE}{scope:Scope}
abbrev Key:=Sum Int Str
def ul:Key->GE->Bool
 | .inl k,v=>Value.isInt k v
 | .inr x,v=>Value.isStrOf x v
def keyH(w:World):Key->Int
 | .inl k=>hashInt k
 | .inr x=>hashStr w x
theorem bx:∀{k:Key}{v:GE},ul k v=true->(∃i t,k=age i/\v=aib i t)\/(∃x t,k=agf x/\v=aic x t)
 | .inl i,v,h=>by
  obtain⟨t,e⟩:=GE.isInt_shape (k:=i) (v:=v) h;exact .inl ⟨i,t,rfl,e⟩
 | .inr x,v,h=>by
  obtain⟨t,e⟩:=GE.isStrOf_shape (x:=x) (v:=v) h;exact .inr ⟨x,t,rfl,e⟩
theorem w9(i:Int)(t:Tok):ul (.inl i) (.int i t)=true:=by simp[ul,Value.isInt]
theorem yo(x:Str)(t:Tok):ul (.inr x) (.str x t)=true:=by simp[ul,Value.isStrOf]
theorem LQ(a b:Int):decide ((age a:Key)=age b)=(a==b):=by
 by_cases e:a=b
 .subst e;simp
 .have h:¬(age a:Key)=age b:=fun q=>e (age.inj q);rw[decide_eq_false h];exact(beq_eq_false_iff_ne.mpr e).symm
theorem Lm(a b:Str):decide ((agf a:Key)=agf b)=decide (a=b):=by
 by_cases e:a=b
 .subst e;simp
 .have h:¬(agf a:Key)=agf b:=fun q=>e (agf.inj q);rw[decide_eq_false h,decide_eq_false e]
theorem K6(a:Int)(b:Str):decide ((age a:Key)=agf b)=false:=decide_eq_false (fun q=>nomatch q)
theorem JY(a:Str)(b:Int):decide ((agf a:Key)=age b)=false:=decide_eq_false (fun q=>nomatch q)
def ce(prog:aaZ)(w:World):PySem.KeyKind prog w Key where
 is:=ul
 hash:=keyH w
 inj:=fun v a b ha hb=>by
  rcases bx ha with⟨i,t,rfl,rfl⟩|⟨x,t,rfl,rfl⟩
  .rcases bx hb with⟨j,u,rfl,e⟩|⟨y,u,rfl,e⟩
   .injection e with e1 _;rw[e1]
   .exact nomatch e
  .rcases bx hb with⟨j,u,rfl,e⟩|⟨y,u,rfl,e⟩
   .exact nomatch e
   .injection e with e1 _;rw[e1]
 byValue:=fun k v h=>by
  rcases bx h with⟨i,t,rfl,rfl⟩|⟨x,t,rfl,rfl⟩<;>rfl
 pyHash:=fun hv h=>by
  rcases bx hv with⟨i,t,rfl,rfl⟩|⟨x,t,rfl,rfl⟩
  .exact wpAny_pyHash_int h
  .exact wpAny_pyHash_str h
 eqBool:=fun hu hv h=>by
  rcases bx hu with⟨i,t,rfl,rfl⟩|⟨x,t,rfl,rfl⟩
  .rcases bx hv with⟨j,u,rfl,rfl⟩|⟨y,u,rfl,rfl⟩
   .rw[LQ]at h;exact wpAny_eqBool_int h
   .rw[K6]at h;exact agg.int_str i t y u _ _ _ _ h
  .rcases bx hv with⟨j,u,rfl,rfl⟩|⟨y,u,rfl,rfl⟩
   .rw[JY]at h;exact agg.str_int x t j u _ _ _ _ h
   .rw[Lm]at h;exact wpAny_eqBool_str h
 «strs»:=fun k x t v h=>by
  rcases bx h with⟨i,u,rfl,e⟩|⟨y,u,rfl,e⟩
  .exact nomatch e
  .injection e with e1 _
   subst e1
   cases v<;>rfl
theorem qL(prog:aaZ)(w:World)(i:Int)(t:Tok):(ce prog w).is (.inl i) (.int i t)=true:=w9 i t
theorem qV(prog:aaZ)(w:World)(x:Str)(t:Tok):(ce prog w).is (.inr x) (.str x t)=true:=yo x t
inductive V where
 |non|bl (b:Bool)|int (i:Int)|str (x:Str)|byt (b:Array UInt8)|flt (b:UInt64)|ref (a:Addr)|ty (n:String)
 deriving DecidableEq
def RelV:V->GE->Prop
 | .non,u=>u=agh
 | .bl b,u=>u=Value.bool b
 | .int i,u=>∃t,u=aib i t
 | .str x,u=>∃t,u=aic x t
 | .byt b,u=>∃t,u=GE.bytes b t
 | .flt b,u=>∃t,u=GE.float b t
 | .ref a,u=>u=acS a
 | .ty n,u=>u=agi n
abbrev Vals:List V->List GE->Prop:=abV RelV
theorem Vals.length{xs:List V}(r:Vals xs us):xs.length=us.length:=ahd r
theorem Vals.get:∀{xs:List V}{us:List GE}{i:Nat}{x:V},Vals xs us->xs[i]?=some x->∃u,us[i]?=some u/\RelV x u
 |_,_,_,_,.nil,e=>by simp at e
 |_,_,0,_,.cons r _,e=>by simp at e;subst e;exact⟨_,rfl,r⟩
 |_,_,i+1,x,.cons _ t,e=>by
  obtain⟨u,h1,h2⟩:=Vals.get (i:=i) (x:=x) t (by simpa using e);exact⟨u,by simpa using h1,h2⟩
theorem Vals.set{x:V}{u:GE}(r:RelV x u):∀{xs:List V}{us:List GE} (i:Nat),Vals xs us->Vals (xs.set i x) (us.set i u)
 |_,_,_,.nil=>.nil
 |_,_,0,.cons _ t=>.cons r t
 |_,_,i+1,.cons q t=>.cons q (Vals.set r i t)
theorem Vals.append:∀{xs ys:List V}{us ws:List GE},Vals xs us->Vals ys ws->Vals (xs++ys) (us++ws)
 |_,_,_,_,.nil,s=>s
 |_,_,_,_,.cons r t,s=>.cons r (Vals.append t s)
theorem Vals.take:∀{xs:List V}{us:List GE} (n:Nat),Vals xs us->Vals (xs.take n) (us.take n)
 |_,_,0,_=>.nil
 |_,_,_+1,.nil=>.nil
 |_,_,n+1,.cons r t=>.cons r (Vals.take n t)
theorem Vals.drop:∀{xs:List V}{us:List GE} (n:Nat),Vals xs us->Vals (xs.drop n) (us.drop n)
 |_,_,0,r=>r
 |_,_,_+1,.nil=>.nil
 |_,_,n+1,.cons _ t=>Vals.drop n t
theorem Vals.none_of:∀{xs:List V}{us:List GE}{i:Nat},Vals xs us->xs[i]?=none->us[i]?=none:=fun {xs us i} r e=>by
 have h1:=r.length;have h2:xs.length≤i:=List.getElem?_eq_none_iff.mp e;exact List.getElem?_eq_none_iff.mpr (by omega)
def RelO:Option V->Option GE->Prop
 |some v,some u=>RelV v u
 |none,none=>True
 |_,_=>False
def KV{κ:Type}:List (κ×V)->List (κ×GE)->Prop:=abV fun(p:κ×V) (q:κ×GE)=>p.1=q.1/\RelV p.2 q.2
def kV:Key->V
 | .inl i=>.int i
 | .inr x=>.str x
inductive HO where
 |lst (xs:List V)
 |tup (xs:List V)
 |dK (kvs:List (Key×V))|dT (kvs:List (List Key×V))
 |set (S:Int->Bool) (n:Nat)
 |ins (C dx:Addr) (fs:List (Str×V))
 |own (x:Addr)
 |xd (fs:List (Str×V))
 |met (f x:Addr)
 |rng (lo hi:Int)
 |frz (o:Obj) (u:HO)
 |tbl (ps:Array GE)
 |ext (φ:aa6->Prop)
abbrev Hp:=Addr->Option HO
def upd(H:Hp)(a:Addr)(o:HO):Hp:=fun b=>if b=a then some o else H b
theorem aw:upd H a o a=some o:=by unfold upd;rw[if_pos rfl]
theorem ap(h:b≠a):upd H a o b=H b:=by unfold upd;rw[if_neg h]
theorem qG{u:HO}(h:H a=some o)(h':H b=some u)(d:o≠u):a≠b:=by
 intro e;subst e;rw[h]at h';exact d (aai h')
theorem bf(h:H a=some o)(h':H b=none):a≠b:=by
 intro e;subst e;rw[h]at h';cases h'
def PlainT(h:aa6)(a:Addr)(items:Array GE):Prop:=∃o,h.get? a=some o/\o.cls = .type "tuple" /\ o.dict=none/\∃n,o.data = .seq items n
theorem PlainT.tup{items:Array GE}(x:PlainT h a items):IsTup h a items:=let ⟨o,e,c,_,d⟩:=x;⟨o,e,c,d⟩
theorem PlainT.new(h:aa6)(items:Array GE):PlainT (h.push {cls:=.type "tuple",data:=.seq items}) h.objs.size items:=⟨_,aal _ rfl,rfl,rfl,_,rfl⟩
section
variable (P:aaZ) (w:World)
def ObjOk(H:Hp)(h:aa6)(a:Addr):HO->Prop
 | .lst xs=>xs.length≤aam/\∃(its:List GE) (n:Nat),Vals xs its/\h.get? a=some {cls:=.type "list",data:=.seq its.toArray n}
 | .tup xs=>xs.length≤aam/\∃its:List GE,Vals xs its/\PlainT h a its.toArray
 | .dK kvs=>kvs.length≤aam/\(a==abH)=false/\∃vs,KV kvs vs/\h.DictOf (ce P w) a vs
 | .dT kvs=>kvs.length≤aam/\(a==abH)=false/\∃xs:List (List Key×Addr×GE),
   abV (fun(p:List Key×V) (q:List Key×Addr×GE)=>p.1=q.1/\H q.2.1=some (.tup (p.1.map kV))/\RelV p.2 q.2.2) kvs xs /\
   ∃o es ep,h.get? a=some o/\o.ExactDict/\o.data = .dict es ep/\es.toList=xs.map (entryOfKey (agY (ce P w)))/\(xs.map (·.1)).Nodup
 | .set S n=>h.SetOf (intKind P w) a S n
 | .ins C dx fs=>H dx=some (.own a)/\fs.length≤1000/\dx≠a/\h.get? a=some (PySem.W.instObj C dx) /\
   ∃mA,h.Ns1 dx mA/\(∀f,RelO (fs.lookup f) (mA f))/\PySem.Within mA (fs.map (·.1))
 | .own _=>∃o,h.get? a=some o
 | .xd fs=>∃mA,h.Ns1 a mA/\∀f,RelO (fs.lookup f) (mA f)
 | .rng lo hi=>∃t u v,h.get? a=some {cls:=.type "range",data:=.fields #[.int lo t,.int hi u,.int 1 v]}
 | .frz o u=>h.get? a=some o/\ObjOk H h a u
 | .tbl ps=>h.get? a=some {cls:=.none,data:=.fields ps}
 | .met f x=>h.get? a=some (afI (.ref f) (.ref x))
 | .ext φ=>φ h/\(∃o,h.get? a=some o)/\∀h1 h2:aa6,φ h1->(∀o,h1.get? a=some o->h2.get? a=some o)->φ h2
def HOk(H:Hp)(h:aa6):Prop:=∀a o,H a=some o->ObjOk P w H h a o
end
section
variable {P:aaZ}{w:World}{H H':Hp}{h h':aa6}{a:Addr}{o:HO}
theorem ObjOk.lt(x:ObjOk P w H h a o):a<h.objs.size:=by
 cases o with
 |lst xs=>obtain⟨_,_,_,_,e⟩:=x;exact aak e
 |tup xs=>obtain⟨_,_,_,p⟩:=x;exact p.tup.lt
 |dK kvs=>obtain⟨_,_,_,_,o,_,_,e,_⟩:=x;exact aak e
 |dT kvs=>obtain⟨_,_,_,_,o,_,_,e,_⟩:=x;exact aak e
 |set S n=>obtain⟨o,_,_,_,e,_⟩:=x;exact aak e
 |ins C dx fs=>obtain⟨_,_,_,e,_⟩:=x;exact aak e
 |own y=>obtain⟨_,e⟩:=x;exact aak e
 |xd fs=>obtain⟨_,⟨_,_,_,e,_⟩,_⟩:=x;exact aak e
 |rng lo hi=>obtain⟨_,_,_,e⟩:=x;exact aak e
 |frz ob u=>obtain⟨e,_⟩:=x;exact aak e
 |tbl ps=>exact aak (show h.get? a=some _ from x)
 |met f y=>exact aak (show h.get? a=some _ from x)
 |ext φ=>obtain⟨_,⟨_,e⟩,_⟩:=x;exact aak e
theorem Paired.mapP{α β:Type}{F G:α->β->Prop}:∀{l₁:List α}{l₂:List β},abV F l₁ l₂->(∀a b,F a b->G a b)->abV G l₁ l₂
 |_,_,.nil,_=>.nil
 |_,_,.cons r t,f=>.cons (f _ _ r) (Paired.mapP t f)
theorem ObjOk.stay(x:ObjOk P w H h a o)(k:∀b u,(b=a\/H b=some (.own a))->h.get? b=some u->h'.get? b=some u)
  (ho:∀b,H b=some (.own a)->H' b=some (.own a)) (ht:∀b xs,H b=some (.tup xs)->H' b=some (.tup xs)):ObjOk P w H' h' a o:=by
 induction o with
 |lst xs=>obtain⟨z,its,n,r,e⟩:=x;exact⟨z,its,n,r,k _ _ (.inl rfl) e⟩
 |tup xs=>obtain⟨z,its,r,ob,e,c⟩:=x;exact⟨z,its,r,ob,k _ _ (.inl rfl) e,c⟩
 |dK kvs=>obtain⟨z,y,vs,r,ob,es,ep,e,c⟩:=x;exact⟨z,y,vs,r,ob,es,ep,k _ _ (.inl rfl) e,c⟩
 |dT kvs =>
  obtain⟨z,y,xs,r,ob,es,ep,e,c⟩:=x;exact⟨z,y,xs,Paired.mapP r fun p q z=>⟨z.1,ht _ _ z.2.1,z.2.2⟩,ob,es,ep,k _ _ (.inl rfl) e,c⟩
 |set S n=>obtain⟨ob,es,ep,t,e,c⟩:=x;exact⟨ob,es,ep,t,k _ _ (.inl rfl) e,c⟩
 |ins C dx fs =>
  obtain⟨d,z,ne,e,mA,⟨od,es,ep,e2,c⟩,r⟩:=x;exact⟨ho _ d,z,ne,k _ _ (.inl rfl) e,mA,⟨od,es,ep,k _ _ (.inr d) e2,c⟩,r⟩
 |own y=>obtain⟨ob,e⟩:=x;exact⟨ob,k _ _ (.inl rfl) e⟩
 |xd fs=>obtain⟨mA,⟨od,es,ep,e,c⟩,r⟩:=x;exact⟨mA,⟨od,es,ep,k _ _ (.inl rfl) e,c⟩,r⟩
 |rng lo hi=>obtain⟨t,u,v,e⟩:=x;exact⟨t,u,v,k _ _ (.inl rfl) e⟩
 |frz ob u ih=>obtain⟨e,q⟩:=x;exact⟨k _ _ (.inl rfl) e,ih q⟩
 |tbl ps =>
  have e:h.get? a=some {cls:=.none,data:=.fields ps}:=x;show h'.get? a=some {cls:=.none,data:=.fields ps};exact k a _ (.inl rfl) e
 |met f y =>
  have e:h.get? a=some (afI (.ref f) (.ref y)):=x;show h'.get? a=some (afI (.ref f) (.ref y));exact k a _ (.inl rfl) e
 |ext φ=>obtain⟨p,⟨o,e⟩,st⟩:=x;exact⟨st _ _ p fun o q=>k _ _ (.inl rfl) q,⟨o,k _ _ (.inl rfl) e⟩,st⟩
theorem HOk.lt(x:HOk P w H h)(e:H a=some o):a<h.objs.size:=(x a o e).lt
theorem HOk.fresh(x:HOk P w H h)(e:h.objs.size≤a):H a=none:=by
 cases q:H a with
 |none=>rfl
 |some u=>exact absurd (aaz (x.lt q) e) (acP _)
theorem HOk.kept(x:HOk P w H h)(k:∀b u,h.get? b=some u->h'.get? b=some u):HOk P w H h':=fun a o e =>
 (x a o e).stay (fun b u _ q=>k b u q) (fun _ q=>q) fun _ _ q=>q
theorem HOk.laid(x:HOk P w H h)(k:∀b u,h.get? b=some u->h'.get? b=some u)(hp:h.objs.size≤a)(new:ObjOk P w (upd H a o) h' a o):HOk P w (upd H a o) h':=fun b u e=>by
 have hn:=x.fresh hp
 by_cases hb:b=a
 .subst hb;rw[aw]at e;cases e;exact new
 .rw[ap hb]at e;exact(x b u e).stay (fun c v _ q=>k c v q) (fun c q=>by rw[ap (bf q hn)];exact q) fun c xs q=>by rw[ap (bf q hn)];exact q
end
def Rd(H:Hp)(a:Addr)(u:HO):Prop:=H a=some u\/∃o,H a=some (.frz o u)
theorem Rd.ok{u:HO}(r:Rd H a u)(x:HOk P w H h):ObjOk P w H h a u:=by
 rcases r with r|⟨o,r⟩
 .exact x a u r
 .obtain⟨_,q⟩:=x a _ r;exact q
def Mut:Option HO->Prop
 |some (.lst _)=>True
 |some (.dK _)=>True
 |some (.dT _)=>True
 |some (.set _ _)=>True
 |some (.ins _ _ _)=>True
 |some (.ext _)=>True
 |_=>False
section
variable {P:aaZ}{w:World}{H:Hp}{h h':aa6}{x e:Addr}{o':HO}
theorem HOk.write(ok:HOk P w H h)(mu:Mut (H x))(he:e=x\/H e=some (.own x))(k:∀b u,b≠e->h.get? b=some u->h'.get? b=some u)(heo:∃u,h'.get? e=some u)
  (new:ObjOk P w (upd H x o') h' x o'):HOk P w (upd H x o') h':=fun b u q=>by
 have nown:∀c y,H c=some (.own y)->c≠x:=fun c y r z=>by subst z;rw[r]at mu;exact mu
 have ntup:∀c xs,H c=some (.tup xs)->c≠x:=fun c xs r z=>by subst z;rw[r]at mu;exact mu
 by_cases hb:b=x
 .subst hb;rw[aw]at q;cases q;exact new
 .rw[ap hb]at q
  by_cases hbe:b=e
  .have q':H b=some (.own x):=by
    rcases he with z|z
    .exact absurd (hbe.trans z) hb
    .rw[hbe];exact z
   rw[q]at q';cases q';obtain⟨v,hv⟩:=heo;exact⟨v,by rw[hbe];exact hv⟩
  .refine(ok b u q).stay (fun c v hc r=>k c v ?_ r) (fun c r=>by rw[ap (nown c b r)];exact r) fun c xs r=>by rw[ap (ntup c xs r)];exact r
   rcases hc with rfl|hc
   .exact hbe
   .rintro rfl;rcases he with z|z
    .exact nown c b hc z
    .rw[hc]at z;cases z;exact hb rfl
end
structure Un(fs ex:List Addr)(H H':Hp)(h h':aa6):Prop where
 keep:∀b o,h.get? b=some o->H b=none->b∉fs->b∉ex->h'.get? b=some o
 slot:∀b o,h.get? b=some o->H b=none->b∈fs->b∉ex->∃sl,h'.get? b=some {o with slots:=sl}
 free:∀b o,h.get? b=some o->H b=none->b∉ex->H' b=none
 there:∀b o,h.get? b=some o->b∉ex->∃o',h'.get? b=some o'
 tups:∀b xs,H b=some (.tup xs)->H' b=some (.tup xs)
 frzs:∀b o u,H b=some (.frz o u)->H' b=some (.frz o u)
 tbls:∀b ps,H b=some (.tbl ps)->∃more,H' b=some (.tbl (ps++more))
section
variable {fs fs' ex ex':List Addr}{H H1 H2:Hp}{h h1 h2 h':aa6}{a x e:Addr}{o:HO}
theorem Un.any(u:Un fs ex H H1 h h1){ob:Obj}(q:h.get? b=some ob)(n:H b=none)(hx:b∉ex):∃sl,h1.get? b=some {ob with slots:=sl}:=by
 by_cases hb:b∈fs
 .exact u.slot b ob q n hb hx
 .exact⟨ob.slots,u.keep b ob q n hb hx⟩
theorem Un.kept(k:∀b u,h.get? b=some u->h'.get? b=some u):Un fs ex H H h h' :=
 ⟨fun b ob q _ _ _=>k b ob q,fun b ob q _ _ _=>⟨ob.slots,k b ob q⟩,fun _ _ _ n _=>n,fun b ob q _=>⟨ob,k b ob q⟩,fun _ _ q=>q,fun _ _ _ q=>q,fun _ ps q=>⟨#[],by rw[q];simp⟩⟩
theorem Un.refl:Un fs ex H H h h:=Un.kept fun _ _ q=>q
theorem Un.laid(k:∀b u,h.get? b=some u->h'.get? b=some u)(hp:h.objs.size≤a)(hn:H a=none):Un fs ex H (upd H a o) h h' where
 keep:=fun b u q _ _ _=>k b u q
 slot:=fun b u q _ _ _=>⟨u.slots,k b u q⟩
 free:=fun b u q n _=>by rw[ap (aa4 (aaz (aak q) hp))];exact n
 there:=fun b u q _=>⟨u,k b u q⟩
 tups:=fun b xs q=>by rw[ap (bf q hn)];exact q
 frzs:=fun b u xs q=>by rw[ap (bf q hn)];exact q
 tbls:=fun b ps q=>⟨#[],by rw[ap (bf q hn),q];simp⟩
theorem Un.write(mu:Mut (H x))(he:e=x\/H e=some (.own x))(k:∀b u,b≠e->h.get? b=some u->h'.get? b=some u)(heo:∃u,h'.get? e=some u):Un fs ex H (upd H x o) h h':=by
 have hx:∀b,H b=none->b≠x:=fun b n z=>by subst z;rw[n]at mu;exact mu
 have hb:∀b,H b=none->b≠e:=fun b n z=>by
  subst z;rcases he with r|r
  .exact hx b n r
  .rw[n]at r;cases r
 have hm:∀b u,H b=some u->¬Mut (some u)->b≠x:=fun b u q nm z=>by subst z;rw[q]at mu;exact nm mu
 refine⟨fun b u q n _ _=>k b u (hb b n) q,fun b u q n _ _=>⟨u.slots,k b u (hb b n) q⟩,fun b u q n _=>by rw[ap (hx b n)];exact n,fun b u q _=>?_,
  fun b xs q=>by rw[ap (hm b _ q fun z=>z)];exact q,fun b u xs q=>by rw[ap (hm b _ q fun z=>z)];exact q,fun b ps q=>⟨#[],by rw[ap (hm b _ q fun z=>z),q];simp⟩⟩
 by_cases hbe:b=e
 .subst hbe;exact heo
 .exact⟨u,k b u hbe q⟩
end
def trk(h:aa6)(H:Hp):List Addr:=(aaI h.objs.size).filter fun a=>(H a).isSome
def hidT(h:aa6)(H:Hp):aa6:=PySem.W.hideAll h (trk h H)
theorem yn(h:aa6)(H:Hp):(hidT h H).objs.size=h.objs.size:=PySem.W.hideAll_size _ _
theorem Bc{o:Obj}(e:h.get? b=some o)(n:H b=none):(hidT h H).get? b=some o :=
 PySem.W.hideAll_get _ e fun hm=>by
  have q:(H b).isSome=true:=(List.mem_filter.mp hm).2;rw[n]at q;simp at q
theorem FC{o:Obj}(e:(hidT h H).get? b=some o):h.get? b=some o/\H b=none:=by
 have e':h.get? b=some o:=PySem.W.of_hideAll (trk h H) e;refine⟨e',?_⟩
 cases q:H b with
 |none=>rfl
 |some x =>
  have hm:b∈trk h H:=List.mem_filter.mpr ⟨List.mem_range.mpr (aak e'),by simp[q]⟩;have z:(hidT h H).get? b=none:=PySem.W.hideAll_none (trk h H) hm;rw[z]at e;cases e
structure Mod(K:aaj)(mg:Str->Option GE)(base:aa6):Prop where
 kin:K.In base
 glob:base.Ns aaU mg
 blt:∃mb,base.Ns builtinsNs mb/\∀x:Str,x ≠ "__name__" -> mb x=abh x
 nolimit:base.NoLimit
 sys:∃m,base.Ns abH m
inductive Ao where
 |L (a:Addr)|T (t:List (List Nat×Addr))
structure EB where
 np:Nat
 be:List Ao
 H:Hp
structure Cx where
 prog:aaZ
 w:World
 K:aaj
 mg:Str->Option GE
 base:aa6
 A:abz
 N:List Str
 s₀:aab
 H₀:Hp
 env:Env
 outer:List Env
 stack:List Env
 ex:List Addr
 fn:Str->Bool
 calm:Bool
 pn:List (Addr×Obj)
 xe:GE->aab->Prop
 eb:EB:=⟨0,[],fun _=>none⟩
def frs(l:List Env):List Addr:=l.filterMap (·.frame)
abbrev Cx.fs(X:Cx):List Addr:=frs X.outer
def Vis(sc:Scope)(x:Str):Prop:=sc.names.lookup x=some .local\/sc.names.lookup x=some .cell\/sc.names.lookup x=some .free
def Loc(sc:Scope)(x:Str):Prop:=sc.names.lookup x=some .local\/sc.names.lookup x=some .cell
def Look(env:Env)(h:aa6)(m:Str->Option GE)(x:Str)(u:GE):Prop :=
 (env.kindOf x=some .local/\m x=some u)\/((env.kindOf x=some .cell\/env.kindOf x=some .free)/\∃c,env.cells.lookup x=some c/\h.IsCell c (some u))
structure Cx.Ok(X:Cx):Prop where
 mod:Mod X.K X.mg X.base
 kind:X.env.scope.kind = .function
 glob:X.env.globals=aaU
 blt:X.env.builtins=builtinsNs
 above:X.s₀.heap.objs.size≤X.env.locals
 inj:∀x y c,X.env.cells.lookup x=some c->X.env.cells.lookup y=some c->x=y
 has:∀x,(X.env.kindOf x=some .cell\/X.env.kindOf x=some .free)->∃c,X.env.cells.lookup x=some c
 cab:∀x c,X.fn x=true->X.env.cells.lookup x=some c->X.s₀.heap.objs.size≤c
 hd:X.calm=true->X.A.handled=none
 frames:X.A.frames=some X.stack
 stk:X.stack=X.outer\/(X.stack=X.env::X.outer/\X.env.frame=some X.env.locals)
 exf:∀b∈X.ex,b≠X.env.locals/\∀x c,X.env.cells.lookup x=some c->c≠b
 bs:∀b o,X.base.get? b=some o->X.s₀.heap.get? b=some o/\X.H₀ b=none
 bsz:X.base.objs.size≤X.s₀.heap.objs.size
 noex:∀b o,X.base.get? b=some o->b∉X.ex
 exfs:∀b∈X.ex,b∉X.fs
 funs:X.s₀.heap.FunFrames X.base X.outer
 frf:∀b∈X.fs,X.H₀ b=none
structure Inv(X:Cx)(pins:List (Addr×Obj))(σ:List (Option V))(H:Hp)(s:aab):Prop where
 ok:X.Ok
 os:s.os=X.s₀.os
 bare:afJ s.gens
 base:Un X.fs X.ex X.H₀ H X.s₀.heap s.heap
 loc:∃m,s.heap.Ns X.env.locals m/\∀(i:Nat) (x:Str) (v:V),X.N[i]?=some x->σ[i]?=some (some v)->Vis X.env.scope x->∃u,RelV v u/\Look X.env s.heap m x u
 cell:∀x c,X.env.cells.lookup x=some c->∃v,s.heap.IsCell c v
 free:H X.env.locals=none
 freeC:∀x c,X.env.cells.lookup x=some c->H c=none
 pin:∀p∈X.pn++pins,s.heap.get? p.1=some p.2/\H p.1=none/\p.1≠X.env.locals/\p.1∉X.fs/\∀v,p.2.data≠.cell v
 hok:HOk X.prog X.w H s.heap
 len:σ.length=X.N.length
section
variable {X:Cx}{pins:List (Addr×Obj)}{σ:List (Option V)}{H H':Hp}{s:aab}{h':aa6}
theorem Cx.Ok.nofr(ok:X.Ok){o:Obj}(e:X.base.get? b=some o):b∉X.fs:=fun hb=>by
 have:=(ok.funs.mem hb).1;rw[e]at this;cases this
theorem Inv.bs(I:Inv X pins σ H s):∀b o,X.base.get? b=some o->s.heap.get? b=some o/\H b=none:=fun b o e =>
 ⟨I.base.keep b o (I.ok.bs b o e).1 (I.ok.bs b o e).2 (I.ok.nofr e) (I.ok.noex b o e),I.base.free b o (I.ok.bs b o e).1 (I.ok.bs b o e).2 (I.ok.noex b o e)⟩
theorem Inv.bk(I:Inv X pins σ H s):∀b o,X.base.get? b=some o->s.heap.get? b=some o:=fun b o e=>(I.bs b o e).1
theorem Inv.mod(I:Inv X pins σ H s):Mod X.K X.mg X.base:=I.ok.mod
theorem Inv.kIn(I:Inv X pins σ H s):X.K.In s.heap:=I.ok.mod.kin.keeps I.bk
theorem Inv.lt(I:Inv X pins σ H s):X.env.locals<s.heap.objs.size:=let ⟨_,hn,_⟩:=I.loc;hn.lt
theorem Inv.sz(I:Inv X pins σ H s):X.s₀.heap.objs.size≤s.heap.objs.size:=aaF I.ok.above (adn I.lt)
theorem Inv.nofs(I:Inv X pins σ H s)(h:s.heap.objs.size≤a):a∉X.fs:=fun hb=>by
 obtain⟨_,o,ho,_⟩:=I.ok.funs.mem hb;exact absurd (aaz (aak ho) (aaF I.sz h)) (acP _)
theorem Inv.cne(I:Inv X pins σ H s):∀x c,X.env.cells.lookup x=some c->c≠X.env.locals:=fun x c e z=>by
 obtain⟨v,o,ho,hd⟩:=I.cell x c e;obtain⟨m,⟨o',es,ep,ho',hd',_⟩,_⟩:=I.loc;rw[z,ho']at ho;cases ho;rw[hd']at hd;cases hd
theorem Inv.funs(I:Inv X pins σ H s):s.heap.FunFrames X.base X.outer:=by
 have all:∀(l:List Env),(∀b∈frs l,b∈X.fs)->X.s₀.heap.FunFrames X.base l->s.heap.FunFrames X.base l:=by
  intro l
  induction l with
  |nil=>intro _ _;trivial
  |cons env r ih =>
   intro hs hl;obtain⟨hk,⟨L,o,hf,hn,ho,hd⟩,hr⟩:=hl;have hL:L∈X.fs:=hs L (by unfold frs;rw[afl,hf];exact aah);obtain⟨sl,e⟩:=I.base.slot L o ho (I.ok.frf L hL) hL fun z=>I.ok.exfs L z hL;exact⟨hk,⟨L,_,hf,hn,e,hd⟩,ih (fun b hb=>hs b (by unfold frs;rw[afl,hf];exact aaf _ hb)) hr⟩
 exact all X.outer (fun _ hb=>hb) I.ok.funs
theorem Inv.stack(I:Inv X pins σ H s):s.heap.FunFrames X.base X.stack:=by
 rcases I.ok.stk with e|⟨e,hf⟩
 .rw[e];exact I.funs
 .rw[e];obtain⟨m,hn,_⟩:=I.loc;refine .cons (by rw[I.ok.kind];decide) hf hn ?_ I.funs;exact aa6.get?_none_of_le (aaF I.ok.bsz I.ok.above)
theorem Inv.stkSub(I:Inv X pins σ H s):∀b∈frs X.stack,b∈X.env.locals::X.fs:=fun b hb=>by
 rcases I.ok.stk with e|⟨e,hf⟩
 .rw[e]at hb;exact aaf _ hb
 .rw[e]at hb;unfold frs at hb;rw[afl,hf]at hb;exact hb
theorem Inv.stkFree(I:Inv X pins σ H s):∀b∈frs X.stack,H b=none:=fun b hb=>by
 rcases aas.mp (I.stkSub b hb)with e|hb
 .rw[e];exact I.free
 .obtain⟨_,o,ho,_⟩:=I.ok.funs.mem hb;exact I.base.free b o ho (I.ok.frf b hb) fun z=>I.ok.exfs b z hb
theorem Inv.step{d':Drawn}(I:Inv X pins σ H s)
  (hch:∀b∈ch,(b∈X.ex\/X.s₀.heap.objs.size≤b)/\b≠X.env.locals/\(∀x c,X.env.cells.lookup x=some c->c≠b)/\∀p∈X.pn++pins,p.1≠b)
  (keep:∀b o,b≠X.env.locals->b∉X.fs->b∉ch->s.heap.get? b=some o->H b=none->h'.get? b=some o)
  (slot:∀b o,b≠X.env.locals->b∈X.fs->b∉ch->s.heap.get? b=some o->H b=none->∃sl,h'.get? b=some {o with slots:=sl}) (free:∀b o,b∉ch->s.heap.get? b=some o->H b=none->H' b=none)
  (there:∀b o,b∉ch->s.heap.get? b=some o->∃o',h'.get? b=some o')
  (tups:∀b xs,H b=some (.tup xs)->H' b=some (.tup xs)) (frzs:∀b o u,H b=some (.frz o u)->H' b=some (.frz o u)) (tbls:∀b ps,H b=some (.tbl ps)->∃more,H' b=some (.tbl (ps++more)))
  (ns:∀m,s.heap.Ns X.env.locals m->h'.Ns X.env.locals m) (hok:HOk X.prog X.w H' h') (hg:afJ g') :
  Inv X pins σ H' {s with heap:=h',gens:=g',drawn:=d',toks:=t' }:=by
 have neL:∀b o,X.s₀.heap.get? b=some o->b≠X.env.locals:=fun b o e=>aa4 (aaz (aak e) I.ok.above);have neC:∀b o,X.s₀.heap.get? b=some o->b∉X.ex->b∉ch:=fun b o e hx hb=>by
  rcases (hch b hb).1 with z|z
  .exact hx z
  .exact absurd (aaz (aak e) z) (acP _)
 have cellK:∀x c,X.env.cells.lookup x=some c->∀v,s.heap.IsCell c v->h'.IsCell c v:=fun x c e v ⟨o,ho,hd⟩=>by
  have nch:c∉ch:=fun z=>(hch c z).2.2.1 x c e rfl
  by_cases hc:c∈X.fs
  .obtain⟨sl,q⟩:=slot c o (I.cne x c e) hc nch ho (I.freeC x c e);exact⟨_,q,hd⟩
  .exact⟨o,keep c o (I.cne x c e) hc nch ho (I.freeC x c e),hd⟩
 refine⟨I.ok,I.os,hg,⟨fun b o e n hb hx=>?_,fun b o e n hb hx=>?_,fun b o e n hx=>?_,fun b o e hx=>?_,fun b xs e=>tups b xs (I.base.tups b xs e),fun b o xs e=>frzs b o xs (I.base.frzs b o xs e),fun b ps e=>?_⟩,?_,fun x c e=>?_,?_,fun x c e=>?_,fun p hp=>?_,hok,I.len⟩
 .exact keep b o (neL b o e) hb (neC b o e hx) (I.base.keep b o e n hb hx) (I.base.free b o e n hx)
 .obtain⟨sl,e1⟩:=I.base.slot b o e n hb hx;obtain⟨sl',e2⟩:=slot b _ (neL b o e) hb (neC b o e hx) e1 (I.base.free b o e n hx);exact⟨sl',e2⟩
 .obtain⟨o',e1⟩:=I.base.there b o e hx;exact free b o' (neC b o e hx) e1 (I.base.free b o e n hx)
 .obtain⟨o',e1⟩:=I.base.there b o e hx;exact there b o' (neC b o e hx) e1
 .obtain⟨m1,e1⟩:=I.base.tbls b ps e;obtain⟨m2,e2⟩:=tbls b _ e1;exact⟨m1++m2,by rw[e2,Array.append_assoc]⟩
 .obtain⟨m,hn,hl⟩:=I.loc;refine⟨m,ns m hn,fun i x v e1 e2 e3=>?_⟩;obtain⟨u,r,l⟩:=hl i x v e1 e2 e3;refine⟨u,r,?_⟩;rcases l with l|⟨k,c,e,z⟩
  .exact .inl l
  .exact .inr ⟨k,c,e,cellK x c e _ z⟩
 .obtain⟨v,z⟩:=I.cell x c e;exact⟨v,cellK x c e v z⟩
 .obtain⟨m,⟨o,_,_,ho,_⟩,_⟩:=I.loc;exact free _ o (fun z=>(hch _ z).2.1 rfl) ho I.free
 .obtain⟨v,o,ho,hd⟩:=I.cell x c e;exact free c o (fun z=>(hch c z).2.2.1 x c e rfl) ho (I.freeC x c e)
 .obtain⟨e,n,ne,nf,d⟩:=I.pin p hp;have nch:p.1∉ch:=fun z=>(hch p.1 z).2.2.2 p hp rfl;exact⟨keep p.1 p.2 ne nf nch e n,free p.1 p.2 nch e n,ne,nf,d⟩
theorem Inv.un(I:Inv X pins σ H s)(u:Un X.fs [] H H' s.heap h')(hok:HOk X.prog X.w H' h'):Inv X pins σ H' {s with heap:=h',toks:=t' }:=by
 obtain⟨m,⟨o,es,ep,ho,r⟩,_⟩:=id I.loc;obtain⟨sl,hL⟩:=u.any ho I.free (by simp);exact I.step (g':=s.gens) (d':=s.drawn) (ch:=[]) (fun _ z=>nomatch z) (fun b o _ hb _ e n=>u.keep b o e n hb (by simp)) (fun b o _ hb _ e n=>u.slot b o e n hb (by simp)) (fun b o _ e n=>u.free b o e n (by simp)) (fun b o _ e=>u.there b o e (by simp)) u.tups u.frzs u.tbls (fun m' hm=>by
  obtain⟨o',es',ep',ho',r'⟩:=hm;rw[ho]at ho';cases ho';exact⟨_,es',ep',hL,r'⟩) hok I.bare
theorem Inv.call{d':Drawn}(I:Inv X pins σ H s)(u:Un (frs X.stack) ch H H' s.heap h')(hok:HOk X.prog X.w H' h')(hg:afJ g')
  (hch:∀b∈ch,(b∈X.ex\/X.s₀.heap.objs.size≤b)/\b≠X.env.locals/\(∀x c,X.env.cells.lookup x=some c->c≠b)/\∀p∈X.pn++pins,p.1≠b) :
  Inv X pins σ H' {s with heap:=h',gens:=g',drawn:=d',toks:=t' }:=by
 obtain⟨m,⟨o,es,ep,ho,r⟩,_⟩:=id I.loc;obtain⟨sl,hL⟩:=u.any ho I.free fun z=>(hch _ z).2.1 rfl;exact I.step (ch:=ch) hch (fun b o hL hb hc e n=>u.keep b o e n (fun z=>(aas.mp (I.stkSub b z)).elim hL hb) hc) (fun b o _ _ hc e n=>u.any e n hc) (fun b o hc e n=>u.free b o e n hc) (fun b o hc e=>u.there b o e hc) u.tups u.frzs u.tbls (fun m' hm=>by
  obtain⟨o',es',ep',ho',r'⟩:=hm;rw[ho]at ho';cases ho';exact⟨_,es',ep',hL,r'⟩) hok hg
theorem Inv.turned{it:Addr}(I:Inv X pins σ H s)(k:∀b o,b≠it->s.heap.get? b=some o->h'.get? b=some o)(hn:H it=none)(hL:it≠X.env.locals)
  (h1:it∈X.ex\/X.s₀.heap.objs.size≤it) (h2:∀x c,X.env.cells.lookup x=some c->c≠it) (h3:∀p∈X.pn++pins,p.1≠it):Inv X pins σ H {s with heap:=h',toks:=t' }:=by
 have nit:∀b u,H b=some u->b≠it:=fun b u e z=>by rw[z,hn]at e;cases e
 refine I.step (g':=s.gens) (d':=s.drawn) (ch:=[it]) (fun b hb=>?_) (fun b o _ _ hc e _=>k b o (fun z=>hc (by simp[z])) e) (fun b o _ _ hc e _=>⟨o.slots,k b o (fun z=>hc (by simp[z])) e⟩) (fun _ _ _ _ n=>n)
  (fun b o hc e=>⟨o,k b o (fun z=>hc (by simp[z])) e⟩) (fun _ _ e=>e) (fun _ _ _ e=>e) (fun b ps e=>⟨#[],by rw[e];simp⟩) (fun m hm=>?_) (fun b u e=>?_) I.bare
 .have e:b=it:=by simpa using hb
  subst e;exact⟨h1,hL,h2,h3⟩
 .obtain⟨o,es,ep,ho,r⟩:=hm;exact⟨o,es,ep,k _ o (abt hL) ho,r⟩
 .refine(I.hok b u e).stay (fun c v hc q=>k c v ?_ q) (fun _ q=>q) fun _ _ q=>q;rcases hc with z|z
  .rw[z];exact nit b u e
  .exact nit c _ z
theorem Inv.tok(I:Inv X pins σ H s)(t:Nat):Inv X pins σ H {s with toks:=t}:=I.un (h':=s.heap) (t':=t) Un.refl I.hok
theorem Inv.kept(I:Inv X pins σ H s)(k:∀b u,s.heap.get? b=some u->h'.get? b=some u):Inv X pins σ H {s with heap:=h',toks:=t' }:=I.un (Un.kept k) (I.hok.kept k)
theorem Inv.laid(I:Inv X pins σ H s)(k:∀b u,s.heap.get? b=some u->h'.get? b=some u)(hp:s.heap.objs.size≤a)(new:ObjOk X.prog X.w (upd H a o) h' a o) :
  Inv X pins σ (upd H a o) {s with heap:=h',toks:=t' }:=I.un (Un.laid k hp (I.hok.fresh hp)) (I.hok.laid k hp new)
theorem Inv.write{x e:Addr}(I:Inv X pins σ H s)(mu:Mut (H x))(he:e=x\/H e=some (.own x))(k:∀b u,b≠e->s.heap.get? b=some u->h'.get? b=some u)(heo:∃u,h'.get? e=some u)
  (new:ObjOk X.prog X.w (upd H x o) h' x o):Inv X pins σ (upd H x o) {s with heap:=h',toks:=t' }:=I.un (Un.write mu he k heo) (I.hok.write mu he k heo new)
theorem Inv.pins_of{pins':List (Addr×Obj)}(I:Inv X pins σ H s)(h:∀p∈pins',s.heap.get? p.1=some p.2/\H p.1=none/\p.1≠X.env.locals/\p.1∉X.fs/\∀v,p.2.data≠.cell v):Inv X pins' σ H s :=
 ⟨I.ok,I.os,I.bare,I.base,I.loc,I.cell,I.free,I.freeC,fun p hp=>(abn.mp hp).elim (fun z=>I.pin p (agJ _ z)) (h p),I.hok,I.len⟩
theorem su(hN:N.Nodup)(a:N[i]?=some x)(b:N[j]?=some x):i=j:=by
 obtain⟨h1,e1⟩:=aad.mp a;obtain⟨h2,e2⟩:=aad.mp b;exact(List.getElem_inj hN).mp (e1.trans e2.symm)
theorem on{Q:Unit->aab->Prop}(I:Inv X pins σ H s)(hN:X.N.Nodup)(hi:X.N[i]?=some x)(hx:Loc X.env.scope x)(r:RelV v u)
  (h:∀s',Inv X pins (σ.set i (some v)) H s'->(∃a,abu a s.heap s'.heap/\(a=X.env.locals\/X.env.cells.lookup x=some a))->Q () s') (hf:X.fn x=true\/X.env.scope.names.lookup x=some .local:=by first|exact .inl rfl|exact .inr rfl|assumption):wpAny M A (storeName X.env x u) Q E s:=by
 obtain⟨m,hn,hl⟩:=id I.loc;have hcls:(X.env.scope.kind == .class||(X.env.scope.kind == .module&&X.env.locals != X.env.globals))=false:=by rw[I.ok.kind];rfl
 have hiσ:i<σ.length:=by rw[I.len];exact(aad.mp hi).1
 have cne:=I.cne;have tracked:∀{a:Addr}{h':aa6},(∃o,s.heap.get? a=some o/\H a=none)->abu a s.heap h'->HOk X.prog X.w H h':=fun {a h'} ha hs b ob e=>by
  obtain⟨_,_,hfree⟩:=ha;refine(I.hok b ob e).stay (fun c w' hc q=>(hs.2 c ?_).trans q) (fun _ q=>q) fun _ _ q=>q;rintro rfl;rcases hc with rfl|hc
  .rw[hfree]at e;cases e
  .rw[hfree]at hc;cases hc
 rcases hx with hk|hk
 .refine wpAny_storeName_local hk hn (fun h' hn' hs=>?_) hcls;obtain⟨oL,_,_,hoL,_⟩:=id hn;refine h _ ⟨I.ok,I.os,I.bare,⟨fun b o e n hb hx=>?_,fun b o e n hb hx=>?_,I.base.free,fun b o e hx=>?_,I.base.tups,I.base.frzs,I.base.tbls⟩,⟨_,hn',fun j y v' e1 e2 e3=>?_⟩,fun y c e=>?_,I.free,I.freeC,fun p hp=>?_,tracked ⟨oL,hoL,I.free⟩ hs,by simpa using I.len⟩ ⟨_,hs,.inl rfl⟩
  .exact(hs.2 b (aa4 (aaz (aak e) I.ok.above))).trans (I.base.keep b o e n hb hx)
  .obtain⟨sl,e1⟩:=I.base.slot b o e n hb hx;exact⟨sl,(hs.2 b (aa4 (aaz (aak e) I.ok.above))).trans e1⟩
  .obtain⟨o',e1⟩:=I.base.there b o e hx;exact⟨o',(hs.2 b (aa4 (aaz (aak e) I.ok.above))).trans e1⟩
  .by_cases hj:j=i
   .subst hj;rw[hi]at e1;cases e1;rw[aaS hiσ]at e2;cases e2;exact⟨u,r,.inl ⟨hk,by simp⟩⟩
   .rw[aaM (abt hj)]at e2;obtain⟨u',r',q⟩:=hl j y v' e1 e2 e3;refine⟨u',r',?_⟩;rcases q with⟨k,e⟩|⟨k,c,e,z⟩
    .refine .inl ⟨k,?_⟩;have:y≠x:=fun e=>hj (su hN e1 (e▸hi));simp[this,e]
    .exact .inr ⟨k,c,e,z.sameBut hs (cne y c e)⟩
  .obtain⟨w',z⟩:=I.cell y c e;exact⟨w',z.sameBut hs (cne y c e)⟩
  .obtain⟨e,n,ne,nf,d⟩:=I.pin p hp;exact⟨(hs.2 p.1 ne).trans e,n,ne,nf,d⟩
 .have hfn:X.fn x=true:=by
   rcases hf with z|z
   .exact z
   .rw[z]at hk;cases hk
  obtain⟨c,hc⟩:=I.ok.has x (.inl hk);obtain⟨w',z⟩:=I.cell x c hc;refine wpAny_storeName_cell I.ok.kind hk hc z (fun h' hc' hs=>?_);obtain⟨oc,hoc,hocd⟩:=id z;refine h {s with heap:=h' } ⟨I.ok,I.os,I.bare,⟨fun b o e n hb hx=>?_,fun b o e n hb hx=>?_,I.base.free,fun b o e hx=>?_,I.base.tups,I.base.frzs,I.base.tbls⟩,⟨m,hn.sameBut hs (abt (cne x c hc)),fun j y v' e1 e2 e3=>?_⟩,fun y c' e=>?_,I.free,I.freeC,fun p hp=>?_,tracked ⟨oc,hoc,I.freeC x c hc⟩ hs,by simpa using I.len⟩ ⟨c,hs,.inr hc⟩
  .exact(hs.2 b (aa4 (aaz (aak e) (I.ok.cab x c hfn hc)))).trans (I.base.keep b o e n hb hx)
  .obtain⟨sl,e1⟩:=I.base.slot b o e n hb hx;exact⟨sl,(hs.2 b (aa4 (aaz (aak e) (I.ok.cab x c hfn hc)))).trans e1⟩
  .obtain⟨o',e1⟩:=I.base.there b o e hx;exact⟨o',(hs.2 b (aa4 (aaz (aak e) (I.ok.cab x c hfn hc)))).trans e1⟩
  .by_cases hj:j=i
   .subst hj;rw[hi]at e1;cases e1;rw[aaS hiσ]at e2;cases e2;exact⟨u,r,.inr ⟨.inl hk,c,hc,hc'⟩⟩
   .rw[aaM (abt hj)]at e2;obtain⟨u',r',q⟩:=hl j y v' e1 e2 e3;refine⟨u',r',?_⟩;rcases q with q|⟨k,c',e,z'⟩
    .exact .inl q
    .refine .inr ⟨k,c',e,z'.sameBut hs ?_⟩;rintro rfl;exact hj (su hN e1 (I.ok.inj _ _ _ e hc▸hi))
  .by_cases hcc:c'=c
   .subst hcc;exact⟨_,hc'⟩
   .obtain⟨w2,z2⟩:=I.cell y c' e;exact⟨w2,z2.sameBut hs hcc⟩
  .obtain⟨e,n,ne,nf,d⟩:=I.pin p hp;refine⟨(hs.2 p.1 ?_).trans e,n,ne,nf,d⟩;intro q;rw[q,hoc]at e;have q':oc=p.2:=aai e;exact d w' (by rw[<-q'];exact hocd)
theorem jk{Q:Unit->aab->Prop}(I:Inv X pins σ H s)(hN:X.N.Nodup)(hi:X.N[i]?=some x)(hx:Loc X.env.scope x)(r:RelV v u)
  (h:∀s',Inv X pins (σ.set i (some v)) H s'->Q () s') (hf:X.fn x=true\/X.env.scope.names.lookup x=some .local:=by first|exact .inl rfl|exact .inr rfl|assumption):wpAny M A (storeName X.env x u) Q E s :=
 on I hN hi hx r (fun s' I' _=>h s' I') hf
theorem Inv.call'{s':aab}(I:Inv X pins σ H s)(ho:s'.os=s.os)(u:Un (frs X.stack) ch H H' s.heap s'.heap)(hok:HOk X.prog X.w H' s'.heap)(hg:afJ s'.gens)
  (hch:∀b∈ch,(b∈X.ex\/X.s₀.heap.objs.size≤b)/\b≠X.env.locals/\(∀x c,X.env.cells.lookup x=some c->c≠b)/\∀p∈X.pn++pins,p.1≠b):Inv X pins σ H' s':=by
 obtain⟨h',g',d',t',o'⟩:=s';have e:o'=s.os:=ho;subst e;exact I.call (g':=g') (t':=t') (d':=d') u hok hg hch
end
abbrev XK:=GE->Option Addr->Hp->Prop
abbrev St:=List (Option V)
abbrev VK:=V->Hp->Prop
abbrev TE:=St->Hp->VK->Prop
abbrev TT:=St->Hp->(Bool->Hp->Prop)->Prop
abbrev TA:=St->Hp->(List V->Hp->Prop)->Prop
structure Ends where
 nx:St->Hp->Prop
 rt:VK
 bk:St->Hp->Prop:=fun _ _=>False
 ct:St->Hp->Prop:=fun _ _=>False
abbrev TS:=Ends->St->Hp->Prop
def EP(X:Cx)(pins:List (Addr×Obj))(σ:St)(Q:VK)(u:GE)(s':aab):Prop:=∃v H',Inv X pins σ H' s'/\RelV v u/\Q v H'
def TP(X:Cx)(pins:List (Addr×Obj))(σ:St)(Q:Bool->Hp->Prop)(b:Bool)(s':aab):Prop:=∃H',Inv X pins σ H' s'/\Q b H'
def AP(X:Cx)(pins:List (Addr×Obj))(σ:St)(Q:List V->Hp->Prop)(us:List GE)(s':aab):Prop:=∃vs H',Inv X pins σ H' s'/\Vals vs us/\Q vs H'
def SP(X:Cx)(pins:List (Addr×Obj))(D:Ends)(f:Flow)(s':aab):Prop :=
 match f with
 | .next=>∃σ' H',Inv X pins σ' H' s'/\D.nx σ' H'
 | .brk=>∃σ' H',Inv X pins σ' H' s'/\D.bk σ' H'
 | .cont=>∃σ' H',Inv X pins σ' H' s'/\D.ct σ' H'
 | .ret u=>∃v σ' H',Inv X pins σ' H' s'/\RelV v u/\D.rt v H'
def PE(X:Cx)(e:Expr)(t:TE):Prop :=
 ∀(pins:List (Addr×Obj)) (s:aab) (σ:St) (H:Hp) (Q:VK),Inv X pins σ H s->t σ H Q->wpAny (model X.prog X.w) X.A (eval e X.env) (EP X pins σ Q) X.xe s
def PT(X:Cx)(e:Expr)(t:TT):Prop :=
 ∀(pins:List (Addr×Obj)) (s:aab) (σ:St) (H:Hp) (Q:Bool->Hp->Prop),Inv X pins σ H s->t σ H Q->wpAny (model X.prog X.w) X.A (isTrue e X.env (eval e X.env)) (TP X pins σ Q) X.xe s
def PW(X:Cx)(e:Expr)(t:TT):Prop :=
 ∀(whole:Sem GE) (pins:List (Addr×Obj)) (s:aab) (σ:St) (H:Hp) (Q:Bool->Hp->Prop),Inv X pins σ H s->t σ H Q->wpAny (model X.prog X.w) X.A (isTrue e X.env whole) (TP X pins σ Q) X.xe s
theorem PW.pt{t:TT}(h:PW X e t):PT X e t:=h _
def PA(X:Cx)(es:List Expr)(t:TA):Prop :=
 ∀(pos:Pos) (pins:List (Addr×Obj)) (s:aab) (σ:St) (H:Hp) (Q:List V->Hp->Prop),Inv X pins σ H s->t σ H Q->wpAny (model X.prog X.w) X.A (spliced (acb pos (aan es X.env))) (AP X pins σ Q) X.xe s
def PS(X:Cx)(st:Stmt)(t:TS):Prop :=
 ∀(pins:List (Addr×Obj)) (s:aab) (σ:St) (H:Hp) (D:Ends),Inv X pins σ H s->t D σ H->wpAny (model X.prog X.w) X.A (exec st X.env) (SP X pins D) X.xe s
def PSs(X:Cx)(st:List Stmt)(t:TS):Prop :=
 ∀(pins:List (Addr×Obj)) (s:aab) (σ:St) (H:Hp) (D:Ends),Inv X pins σ H s->t D σ H->wpAny (model X.prog X.w) X.A (execs st X.env) (SP X pins D) X.xe s
theorem thn{α:Type}{t:Sem α}{Q Q':α->aab->Prop}{s:aab}(h:wpAny M A t Q E s)(hQ:∀a s,Q a s->Q' a s):wpAny M A t Q' E s:=ac9 h hQ fun _ _ x=>x
section
variable {X:Cx}
def tVar(i:Nat):TE:=fun σ H Q=>∃v,σ[i]?=some (some v)/\Q v H
def tC(v:V):TE:=fun _ H Q=>Q v H
theorem LB(hN:X.N[i]?=some x)(hv:Vis X.env.scope x)(hd:(x==("__debug__" : Str))=false:=by decide)(hcd:(x==("__classdict__" : Str))=false:=by decide):PE X (.Name x pos) (tVar i):=by
 intro pins s σ H Q I h;obtain⟨v,e,h⟩:=h;obtain⟨m,hn,hl⟩:=I.loc;obtain⟨u,r,l⟩:=hl i x v hN e hv;have fin:EP X pins σ Q u s:=⟨v,H,I,r,h⟩;rcases l with⟨hk,hm⟩|⟨hk,c,hc,hcell⟩
 .exact wpAny_Name (wpAny_loadName_local I.ok.kind hk hn hm fin) hd
 .rcases hk with hk|hk
  .exact wpAny_Name (wpAny_loadName_cell I.ok.kind hk hc hcell fin) hd
  .exact wpAny_Name (wpAny_loadName_free I.ok.kind hk hc hcell fin hcd) hd
theorem Jm{i j pos}:PE X (.Constant (.int i) j pos) (tC (.int i)):=fun _ _ _ H _ I h=>wpAny_Constant_int ⟨.int i,H,I.tok _,⟨_,rfl⟩,h⟩
theorem OL{b j pos}:PE X (.Constant (.bool b) j pos) (tC (.bl b)):=fun _ _ _ H _ I h=>Constant_bool ⟨.bl b,H,I,rfl,h⟩
theorem J8{j pos}:PE X (.Constant .none j pos) (tC .non):=fun _ _ _ H _ I h=>Constant_none ⟨.non,H,I,rfl,h⟩
theorem Kq{x j pos}:PE X (.Constant (.str x) j pos) (tC (.str x)):=fun _ _ _ H _ I h=>Calls.Constant_str ⟨.str x,H,I.tok _,⟨_,rfl⟩,h⟩
def Gl(X:Cx)(x:Str):Prop:=X.env.kindOf x=some .globalImplicit
theorem yM{s:aab}(I:Inv X pins σ H s)(hg:Gl X x)(hm:X.mg x=some u)(h:Q u s)
  (hd:(x==("__debug__" : Str))=false:=by decide):wpAny (model X.prog X.w) X.A (eval (.Name x pos) X.env) Q E s :=
 aft I.ok.kind hg (Calls.loadGlobal_global (by rw[I.ok.glob];exact I.mod.glob.keeps I.bk) hm h) hd
theorem kZ{s:aab}(I:Inv X pins σ H s)(hg:Gl X x)(hm:X.mg x=none)(hv:abh x=some u)(h:Q u s)
  (hn:x ≠ "__name__" :=by decide) (hd:(x==("__debug__" : Str))=false:=by decide):wpAny (model X.prog X.w) X.A (eval (.Name x pos) X.env) Q E s:=by
 obtain⟨mb,h1,h2⟩:=I.mod.blt;exact aft I.ok.kind hg (Calls.loadGlobal_builtin (by rw[I.ok.glob];exact I.mod.glob.keeps I.bk) hm (by rw[I.ok.blt];exact h1.keeps I.bk) ((h2 x hn).trans hv) h) hd
theorem Ga(hg:Gl X x)(hm:X.mg x=some u)(r:RelV v u)(hd:(x==("__debug__" : Str))=false:=by decide):PE X (.Name x pos) (tC v) :=
 fun _ _ _ H _ I h=>yM I hg hm ⟨v,H,I,r,h⟩ hd
variable {a b:Expr}{ta tb:TE}{pos:Pos}
def tB(t:TE):TT:=fun σ H Q=>t σ H fun x H1=>∃c,x = .bl c/\Q c H1
theorem Iu{t:TE}(h:PE X e t)(he:∀whole,isTrue e X.env whole=(do let v <- whole;ado e.pos;adI [v] (truthy v)):=by intro _;rfl):PT X e (tB t):=by
 intro pins s σ H Q I hw;refine isTrue_plain (thn (h pins s σ H _ I hw) fun v s1 ⟨x,H1,I1,r1,q1⟩=>?_) (he _);obtain⟨d,rfl,q⟩:=q1;cases r1;exact wpAny_truthy_bool ⟨H1,I1,q⟩
variable {tA tB':TT}{rest:List Expr}
def tAnd(t u:TT):TT:=fun σ H Q=>t σ H fun c H1=>if c=true then u σ H1 Q else Q false H1
def tOr(t u:TT):TT:=fun σ H Q=>t σ H fun c H1=>if c=true then Q true H1 else u σ H1 Q
def tNot(t:TT):TT:=fun σ H Q=>t σ H fun c H1=>Q (!c) H1
theorem CV(ha:PT X a tA):PW X (.BoolOp .And [a] pos) tA:=by
 intro wh pins s σ H Q I h;refine isTrue_and (thn (ha pins s σ H Q I h) fun c s1 e=>?_)
 cases c with
 |true=>exact isTrue_and_nil e
 |false=>exact e
theorem Lj(ha:PT X a tA):PW X (.BoolOp .Or [a] pos) tA:=by
 intro wh pins s σ H Q I h;refine isTrue_or (thn (ha pins s σ H Q I h) fun c s1 e=>?_)
 cases c with
 |false=>exact isTrue_or_nil e
 |true=>exact e
theorem Jd(ha:PT X a tA)(hb:PW X (.BoolOp .And (b::rest) pos) tB'):PW X (.BoolOp .And (a::b::rest) pos) (tAnd tA tB'):=by
 intro wh pins s σ H Q I h;refine isTrue_and (thn (ha pins s σ H _ I h) fun c s1 ⟨H1,I1,q1⟩=>?_)
 cases c with
 |true=>exact hb wh pins s1 σ H1 Q I1 q1
 |false=>exact⟨H1,I1,q1⟩
theorem OU(ha:PT X a tA)(hb:PW X (.BoolOp .Or (b::rest) pos) tB'):PW X (.BoolOp .Or (a::b::rest) pos) (tOr tA tB'):=by
 intro wh pins s σ H Q I h;refine isTrue_or (thn (ha pins s σ H _ I h) fun c s1 ⟨H1,I1,q1⟩=>?_)
 cases c with
 |true=>exact⟨H1,I1,q1⟩
 |false=>exact hb wh pins s1 σ H1 Q I1 q1
theorem KI(ha:PT X a tA):PT X (.UnaryOp .Not a pos) (tNot tA):=by
 intro pins s σ H Q I h;exact isTrue_not (ha pins s σ H (fun c H1=>Q (!c) H1) I h)
def tIf(t:TT)(ta tb:TE):TE:=fun σ H Q=>t σ H fun c H1=>if c=true then ta σ H1 Q else tb σ H1 Q
theorem Bh(hc:PT X c tA)(ha:PE X a ta)(hb:PE X b tb):PE X (.IfExp c a b pos) (tIf tA ta tb):=by
 intro pins s σ H Q I h;refine wpAny_IfExp (thn (hc pins s σ H _ I h) fun d s1 ⟨H1,I1,q1⟩=>?_)
 cases d with
 |true=>exact ha pins s1 σ H1 Q I1 q1
 |false=>exact hb pins s1 σ H1 Q I1 q1
end
def SqL(K:aaj)(H:Hp)(a:Addr)(xs:List V):Prop :=
 Rd H a (.lst xs) \/
  ∃(o:Obj) (its:Array GE) (n:Nat),K.lookup a=some o/\o.cls = .type "list" /\ o.dict=none/\o.data = .seq its n/\its.size≤aam/\Vals xs its.toList
def SqT(K:aaj)(H:Hp)(a:Addr)(xs:List V):Prop :=
 Rd H a (.tup xs) \/
  ∃(o:Obj) (its:Array GE) (n:Nat),K.lookup a=some o/\o.cls = .type "tuple" /\ o.dict=none/\o.data = .seq its n/\its.size≤aam/\Vals xs its.toList
def absV:GE->Option V
 | .none=>some .non
 | .bool b=>some (.bl b)
 | .int i _=>some (.int i)
 | .str x _=>some (.str x)
 | .bytes b _=>some (.byt b)
 | .float b _=>some (.flt b)
 | .ref a=>some (.ref a)
 | .type n=>some (.ty n)
 |_=>none
theorem RelV.abs{x:V}(r:RelV x u):absV u=some x:=by
 cases x with
 |non=>cases r;rfl
 |bl _=>cases r;rfl
 |int _=>obtain⟨t,rfl⟩:=r;rfl
 |str _=>obtain⟨t,rfl⟩:=r;rfl
 |byt _=>obtain⟨t,rfl⟩:=r;rfl
 |flt _=>obtain⟨t,rfl⟩:=r;rfl
 |ref _=>cases r;rfl
 |ty _=>cases r;rfl
theorem RelV.inj{x y:V}(r:RelV x u)(q:RelV y u):x=y:=aai (r.abs.symm.trans q.abs)
theorem Vals.inj:∀{xs ys:List V}{us:List GE},Vals xs us->Vals ys us->xs=ys
 |_,_,_,.nil,.nil=>rfl
 |_,_,_,.cons r t,.cons r' t'=>by rw[r.inj r',Vals.inj t t']
section
variable {X:Cx}{pins:List (Addr×Obj)}{σ:St}{H:Hp}{s:aab}{a:Addr}{xs ys:List V}
theorem SqL.of(h:H a=some (.lst xs)):SqL K H a xs:=.inl (.inl h)
theorem SqT.of(h:H a=some (.tup xs)):SqT K H a xs:=.inl (.inl h)
theorem Inv.list(I:Inv X pins σ H s)(h:SqL X.K H a xs):∃its:List GE,Vals xs its/\PlainL s.heap a its.toArray/\xs.length≤aam:=by
 rcases h with h|⟨o,its,n,hk,hc,hd,hs,hz,r⟩
 .obtain⟨z,its,n,r,e⟩:=h.ok I.hok;exact⟨its,r,⟨_,n,e,rfl,rfl,rfl⟩,z⟩
 .refine⟨its.toList,r,⟨o,n,I.kIn a o hk,hc,hd,by simpa using hs⟩,?_⟩;have e:=r.length;simp only[abg]at e;omega
theorem Inv.tuple(I:Inv X pins σ H s)(h:SqT X.K H a xs):∃its:List GE,Vals xs its/\IsTup s.heap a its.toArray/\xs.length≤aam:=by
 rcases h with h|⟨o,its,n,hk,hc,hd,hs,hz,r⟩
 .obtain⟨z,its,r,p⟩:=h.ok I.hok;exact⟨its,r,p.tup,z⟩
 .refine⟨its.toList,r,⟨o,I.kIn a o hk,hc,n,by simpa using hs⟩,?_⟩;have e:=r.length;simp only[abg]at e;omega
theorem Inv.tupleP(I:Inv X pins σ H s)(h:SqT X.K H a xs):∃its:List GE,Vals xs its/\PlainT s.heap a its.toArray/\xs.length≤aam:=by
 rcases h with h|⟨o,its,n,hk,hc,hd,hs,hz,r⟩
 .obtain⟨z,its,r,p⟩:=h.ok I.hok;exact⟨its,r,p,z⟩
 .refine⟨its.toList,r,⟨o,I.kIn a o hk,hc,hd,n,by simpa using hs⟩,?_⟩;have e:=r.length;simp only[abg]at e;omega
theorem Inv.list_inj(I:Inv X pins σ H s)(h:SqL X.K H a xs)(h':SqL X.K H a ys):xs=ys:=by
 obtain⟨its,r,⟨o,n,e,_,_,d⟩,_⟩:=I.list h;obtain⟨its',r',⟨o',n',e',_,_,d'⟩,_⟩:=I.list h';rw[e]at e';cases e';rw[d]at d';injection d' with d1 _
 have:its=its':=by simpa using congrArg Array.toList d1
 subst this;exact r.inj r'
theorem Inv.tuple_inj(I:Inv X pins σ H s)(h:SqT X.K H a xs)(h':SqT X.K H a ys):xs=ys:=by
 obtain⟨its,r,⟨o,e,_,n,d⟩,_⟩:=I.tuple h;obtain⟨its',r',⟨o',e',_,n',d'⟩,_⟩:=I.tuple h';rw[e]at e';cases e';rw[d]at d';injection d' with d1 _
 have:its=its':=by simpa using congrArg Array.toList d1
 subst this;exact r.inj r'
end
abbrev Cx.wish(X:Cx)(E:GE->aab->Prop):Cx:={X with xe:=E}
abbrev Cx.nox(X:Cx):Cx:=X.wish fun _ _=>False
theorem Cx.Ok.wish(ok:X.Ok)(E:GE->aab->Prop):(X.wish E).Ok :=
 ⟨ok.mod,ok.kind,ok.glob,ok.blt,ok.above,ok.inj,ok.has,ok.cab,ok.hd,ok.frames,ok.stk,ok.exf,ok.bs,ok.bsz,ok.noex,ok.exfs,ok.funs,ok.frf⟩
theorem Cx.Ok.unwish(ok:(X.wish E).Ok):X.Ok :=
 ⟨ok.mod,ok.kind,ok.glob,ok.blt,ok.above,ok.inj,ok.has,ok.cab,ok.hd,ok.frames,ok.stk,ok.exf,ok.bs,ok.bsz,ok.noex,ok.exfs,ok.funs,ok.frf⟩
section
variable {X:Cx}{pins:List (Addr×Obj)}{σ:St}{H:Hp}{s:aab}{E:GE->aab->Prop}
theorem Inv.wish(I:Inv X pins σ H s)(E:GE->aab->Prop):Inv (X.wish E) pins σ H s:=⟨I.ok.wish E,I.os,I.bare,I.base,I.loc,I.cell,I.free,I.freeC,I.pin,I.hok,I.len⟩
theorem Inv.unwish(I:Inv (X.wish E) pins σ H s):Inv X pins σ H s:=⟨I.ok.unwish,I.os,I.bare,I.base,I.loc,I.cell,I.free,I.freeC,I.pin,I.hok,I.len⟩
theorem SP.unwish{D:Ends}{f:Flow}{s':aab}(h:SP (X.wish E) pins D f s'):SP X pins D f s':=by
 cases f with
 |next=>obtain⟨σ',H',I,q⟩:=h;exact⟨σ',H',I.unwish,q⟩
 |brk=>obtain⟨σ',H',I,q⟩:=h;exact⟨σ',H',I.unwish,q⟩
 |cont=>obtain⟨σ',H',I,q⟩:=h;exact⟨σ',H',I.unwish,q⟩
 |ret u=>obtain⟨v,σ',H',I,r,q⟩:=h;exact⟨v,σ',H',I.unwish,r,q⟩
theorem PSs.nox{st:List Stmt}{t:TS}(h:PSs X.nox st t):PSs X st t:=fun pins s σ H D I hw =>
 ac9 (h pins s σ H D (I.wish _) hw) (fun _ _ q=>q.unwish) fun _ _ z=>adp z
end
section
variable {X:Cx}{st:Stmt}{rest:List Stmt}{t u:TS}{e:Expr}{te:TE}{pos:Pos}
def NQ:TS:=fun D σ H=>D.nx σ H
def tSeq(t u:TS):TS:=fun D σ H=>t {D with nx:=u D} σ H
theorem FI:PSs X [] NQ:=fun _ _ σ H _ I h=>afa ⟨σ,H,I,h⟩
theorem AH(h1:PS X st t)(h2:PSs X rest u):PSs X (st::rest) (tSeq t u):=by
 intro pins s σ H D I h;refine wpAny_execs_cons (thn (h1 pins s σ H {D with nx:=u D} I h) fun f s1 q=>?_)
 cases f with
 |next =>
  obtain⟨σ',H',I',q⟩:=q;exact h2 pins s1 σ' H' D I' q
 |ret v=>exact q
 |brk=>exact q
 |cont=>exact q
theorem Gw(h1:PS X st t):PSs X [st] t:=by
 intro pins s σ H D I h;refine wpAny_execs_cons (thn (h1 pins s σ H D I h) fun f s1 q=>?_)
 cases f with
 |next=>exact afa q
 |ret v=>exact q
 |brk=>exact q
 |cont=>exact q
theorem Inv.quiet{s:aab}(I:Inv X pins σ H s):interactive X.env=false:=by simp[interactive,I.ok.kind]
def Mw(te:TE):TS:=fun D σ H=>te σ H fun _ H1=>D.nx σ H1
theorem Fq(he:PE X e te)(hs:abY e none pos.line X.env=pure false:=by rfl):PS X (.Expr e pos) (Mw te):=by
 intro pins s σ H D I h;exact wpAny_Expr_any (thn (he pins s σ H _ I h) fun v s1 ⟨x,H1,I1,r1,q1⟩=>⟨σ,H1,I1,q1⟩) I.quiet hs
def tRet(te:TE):TS:=fun D σ H=>te σ H D.rt
theorem JF(he:PE X e te):PS X (.Return (some e) pos) (tRet te):=by
 intro pins s σ H D I h;exact wpAny_Return_some (thn (he pins s σ H _ I h) fun v s1 ⟨x,H1,I1,r1,q1⟩=>⟨x,σ,H1,I1,r1,q1⟩)
def tIfS(c:TT)(t u:TS):TS:=fun D σ H=>c σ H fun b H1=>if b=true then t D σ H1 else u D σ H1
theorem MH{a b:List Stmt}{tc:TT}(hc:PT X c tc)(ha:PSs X a t)(hb:PSs X b u):PS X (.If c a b pos) (tIfS tc t u):=by
 intro pins s σ H D I h;refine wpAny_If (thn (hc pins s σ H _ I h) fun d s1 ⟨H1,I1,q1⟩=>?_)
 cases d with
 |true=>exact ha pins s1 σ H1 D I1 q1
 |false=>exact hb pins s1 σ H1 D I1 q1
def Kz:TS:=fun _ _ _=>False
theorem zO:PS X st Kz:=fun _ _ _ _ _ _ h=>h.elim
end
abbrev TG:=V->St->Hp->(St->Hp->Prop)->Prop
abbrev TGs:=List V->St->Hp->(St->Hp->Prop)->Prop
def PG(X:Cx)(target:Expr)(t:TG):Prop :=
 ∀(pins:List (Addr×Obj)) (s:aab) (σ:St) (H:Hp) (v:V) (u:GE) (Q:St->Hp->Prop),Inv X pins σ H s->RelV v u->t v σ H Q ->
  wpAny (model X.prog X.w) X.A (ada target X.env u) (fun _ s'=>∃σ' H',Inv X pins σ' H' s'/\Q σ' H') X.xe s
def PGs(X:Cx)(ts:List Expr)(t:TGs):Prop :=
 ∀(pins:List (Addr×Obj)) (s:aab) (σ:St) (H:Hp) (vs:List V) (us:List GE) (Q:St->Hp->Prop),Inv X pins σ H s->Vals vs us->t vs σ H Q ->
  wpAny (model X.prog X.w) X.A (ahe ((abL ts X.env).map (·.2)) us) (fun _ s'=>∃σ' H',Inv X pins σ' H' s'/\Q σ' H') X.xe s
abbrev TSet:=V->V->V->Hp->(Hp->Prop)->Prop
def PSet(X:Cx)(t:TSet):Prop :=
 ∀(pins:List (Addr×Obj)) (s:aab) (σ:St) (H:Hp) (o i v:V) (ov iv u:GE) (Q:Hp->Prop),Inv X pins σ H s->RelV o ov->RelV i iv->RelV v u->t o i v H Q ->
  wpAny (model X.prog X.w) X.A (agZ ov iv u) (fun _ s'=>∃H',Inv X pins σ H' s'/\Q H') X.xe s
section
variable {X:Cx}{pos:Pos}
def yX(i:Nat):TG:=fun v σ H Q=>Q (σ.set i (some v)) H
theorem CJ(hN:X.N.Nodup)(hi:X.N[i]?=some x)(hx:Loc X.env.scope x)(hf:X.fn x=true\/X.env.scope.names.lookup x=some .local:=by first|exact .inl rfl|exact .inr rfl|assumption):PG X (.Name x pos) (yX i):=by
 intro pins s σ H v u Q I r h;exact wpAny_assign_Name (jk I hN hi hx r (fun s' I'=>⟨_,H,I',h⟩) hf)
def gNil:TGs:=fun vs σ H Q=>vs=[]/\Q σ H
def Nh(t:TG)(u:TGs):TGs:=fun vs σ H Q=>∃v r,vs=v::r/\t v σ H fun σ' H'=>u r σ' H' Q
theorem Cy:PGs X [] gNil:=by
 intro pins s σ H vs us Q I r h;obtain⟨e,h⟩:=h;subst e;cases r;exact assignInOrder_nil ⟨σ,H,I,h⟩
theorem yY{t:TG}{u:TGs}(h1:PG X e t)(h2:PGs X es u)
  (hs:(abL (e::es) X.env).map (·.2)=ada e X.env::(abL es X.env).map (·.2):=by rfl):PGs X (e::es) (Nh t u):=by
 intro pins s σ H vs us Q I r h;obtain⟨v,vr,e1,h⟩:=h;subst e1
 cases r with
 |cons r rr =>
  rw[hs];refine afu (thn (h1 pins s σ H _ _ _ I r h) fun _ s1 ⟨σ1,H1,I1,q1⟩=>?_);exact h2 pins s1 σ1 H1 _ _ Q I1 rr q1
def gTup(K:aaj)(n:Nat)(t:TGs):TG:=fun v σ H Q=>∃a xs,v = .ref a/\SqT K H a xs/\xs.length=n/\t xs σ H Q
theorem Ls{k:Nat}{t:TGs}{n:Nat}(hc:X.calm=true)(h:PGs X es t)
  (hn:(abL es X.env).length=n:=by rfl) (hst:(abL es X.env).findIdx? (·.1)=none:=by rfl):PG X (.Tuple es k pos) (gTup X.K n t):=by
 intro pins s σ H v u Q I r hw;obtain⟨a,xs,e1,hq,hl,hw⟩:=hw;subst e1;cases r;obtain⟨its,rv,ht,hz⟩:=I.tuple hq;refine assign_Tuple_tuple (I.ok.hd hc) ht (by simp[hn,<-hl,rv.length]) hst fun h' hx=>?_;have I1:Inv X pins σ H {s with heap:=h' }:=I.kept (t':=s.toks) fun b o e=>hx b o (aa4 (aak e)) e;exact h pins _ σ H xs _ Q I1 (by simpa using rv) hw
def gSub(to ti:TE)(t:TSet):TG:=fun v σ H Q=>to σ H fun o H1=>ti σ H1 fun i H2=>t o i v H2 fun H3=>Q σ H3
theorem Jl{o i:Expr}{to ti:TE}{t:TSet}(ho:PE X o to)(hi:PE X i ti)(hs:PSet X t)
  (ha:∀v,ada (.Subscript o i pos) X.env v=(do
   let ov <- adI [v] (eval o X.env)
   let iv <- adI [v,ov] (eval i X.env)
   ado pos
   adI [v,ov,iv] (agZ ov iv v)
   release [v,ov,iv] []):=by intro _;rfl):PG X (.Subscript o i pos) (gSub to ti t):=by
 intro pins s σ H v u Q I r h;rw[ha];refine gE (abM (thn (ho pins s σ H _ I h) fun ov s1 ⟨x,H1,I1,r1,q1⟩=>?_));refine gE (abM (thn (hi pins s1 σ H1 _ I1 q1) fun iv s2 ⟨y,H2,I2,r2,q2⟩=>?_));refine gE (adb (gE (abM (thn (hs pins s2 σ H2 x y v ov iv u _ I2 r1 r2 r q2) fun _ s3 ⟨H3,I3,q3⟩=>?_))));exact wpAny_release ⟨σ,H3,I3,q3⟩
def tAsg(te:TE)(g:TG):TS:=fun D σ H=>te σ H fun x H1=>g x σ H1 D.nx
theorem BM{te:TE}{g:TG}(he:PE X e te)(hg:PG X tg g)(hs:adc [tg] e pos.line X.env=pure false:=by rfl)(hw:add [tg] e X.env=pure none:=by rfl)
  (h1:(abL [tg] X.env).map (·.2)=[ada tg X.env]:=by rfl):PS X (.Assign [tg] e pos) (tAsg te g):=by
 intro pins s σ H D I h;refine wpAny_Assign_stores (thn (he pins s σ H _ I h) fun v s1 ⟨x,H1,I1,r1,q1⟩=>?_) hs hw;rw[h1];exact thn (hg pins s1 σ H1 x v _ I1 r1 q1) fun _ s2 q=>q
theorem Jb{te:TE}{pos':Pos}(hN:X.N.Nodup)(hi:X.N[i]?=some x)(hx:Loc X.env.scope x)(he:PE X e te)(hs:abY e (some (.Name x pos')) pos.line X.env=pure false:=by rfl)(hf:X.fn x=true\/X.env.scope.names.lookup x=some .local:=by first|exact .inl rfl|exact .inr rfl|assumption) :
  PS X (.Assign [.Name x pos'] e pos) (tAsg te (yX i)):=by
 intro pins s σ H D I h;refine wpAny_Assign_Name (thn (he pins s σ H _ I h) fun v s1 ⟨y,H1,I1,r1,q1⟩=>?_) hs;exact jk I1 hN hi hx r1 (fun s2 I2=>⟨_,H1,I2,q1⟩) hf
def tPar(i j:Nat)(ta:TA):TS:=fun D σ H=>ta σ H fun vs H1=>∃v w,vs=[v,w]/\D.nx ((σ.set i (some v)).set j (some w)) H1
theorem Jr{y:Str}{a b:Expr}{ta:TA}{px py pt:Pos}{kt k2 pt2}(hc:X.calm=true)(hN:X.N.Nodup)(hi:X.N[i]?=some x)(hj:X.N[j]?=some y)(hij:i≠j)
  (hx:X.env.scope.names.lookup x=some .local) (hy:X.env.scope.names.lookup y=some .local) (ha:PA X [a,b] ta)
  (hw:add [.Tuple [.Name x px,.Name y py] kt pt] (.Tuple [a,b] k2 pt2) X.env=pure (some [x,y]))
  (hs:adc [.Tuple [.Name x px,.Name y py] kt pt] (.Tuple [a,b] k2 pt2) pos.line X.env=pure false:=by rfl) :
  PS X (.Assign [.Tuple [.Name x px,.Name y py] kt pt] (.Tuple [a,b] k2 pt2) pos) (tPar i j ta):=by
 intro pins s σ H D I h;rw[exec_Assign_arm];refine gE (adb ?_);rw[hs];refine gE (aaa ?_);rw[if_neg (by decide)];refine gE (Tuple_ (thn (ha _ pins s σ H _ I h) fun us s1 ⟨vs,H1,I1,r1,q1⟩=>?_));obtain⟨v,w,e1,q1⟩:=q1;subst e1;obtain⟨u1,u2,rfl,rv,rw'⟩:∃u1 u2,us=[u1,u2]/\RelV v u1/\RelV w u2:=by
  cases r1 with
  | cons p q =>
   cases q with
   |cons p' q' =>
    cases q';exact⟨_,_,rfl,p,p'⟩
 refine aa5 ?_ (by show 2≤aam;decide);have I2:Inv X pins σ H1 {s1 with heap:=s1.heap.push {cls:=.type "tuple",data:=.seq [u1,u2].toArray} }:=I1.kept (t':=s1.toks) fun b o e=>Io _ e;rw[hw];refine gE (aaa ?_);show wpAny (model X.prog X.w) X.A (do rule "assign.swapped-stores";let items <- unpackItems (.ref s1.heap.objs.size) 2 none;ahe [fun v=>bindName X.env y v,fun v=>bindName X.env x v] items.reverse;pure Flow.next) _ _ _;refine gE (acU (gE (unpackItems_tuple (items:=#[u1,u2]) (I.ok.hd hc) (IsTup.new s1.heap _) fun h' hx'=>?_)));have I3:=I2.kept (h':=h') (t':=s1.toks) fun b o e=>hx' b o (aa4 (aak e)) e;show wpAny _ _ (ahe [fun v=>bindName X.env y v,fun v=>bindName X.env x v] [u2,u1] >>= fun _=>pure Flow.next) _ _ _;refine gE (afu (wpAny_bindName (jk I3 hN hj (.inl hy) rw' (fun s2 I4=>?_) (.inr hy))));refine afu (wpAny_bindName (jk I4 hN hi (.inl hx) rv (fun s3 I5=>assignInOrder_nil (aaa ?_)) (.inr hx)));rw[List.set_comm _ _ (abt hij)]at I5;exact⟨_,H1,I5,q1⟩
end
section
variable {X:Cx}{pos:Pos}
def Ja(c:TT)(tb:TS):TS:=fun D σ H=>∃W:Nat->St->Hp->Prop,(∃m,W m σ H)/\∀m σ H,W m σ H ->
 c σ H fun b H1=>if b=true then ∃N:St->Hp->Prop,(∀σ' H',N σ' H'->∃m',m'<m/\W m' σ' H')/\tb {D with nx:=N,ct:=N,bk:=D.nx} σ H1 else D.nx σ H1
theorem Ai{tc:TT}{tb:TS}(hp:afX (model X.prog X.w) X.A X.env X.xe)(hc:PT X c tc)(hb:PSs X body tb):PS X (.While c body [] pos) (Ja tc tb):=by
 intro pins s σ H D I h;obtain⟨W,⟨m0,w0⟩,turn⟩:=h;refine wpAny_While (codeAny_whileLoop (fun n s'=>∃σ' H',Inv X pins σ' H' s'/\W n σ' H') ?_ m0 ⟨σ,H,I,w0⟩);rintro n s1 ⟨σ1,H1,I1,w1⟩;refine ac1 hp (thn (hc pins s1 σ1 H1 _ I1 (turn n σ1 H1 w1)) fun b s2 ⟨H2,I2,q2⟩=>?_)
 cases b with
 | true =>
  obtain⟨N,hN,q2⟩:=q2;rw[if_pos rfl];refine ac1 hp (thn (hb pins s2 σ1 H2 _ I2 q2) fun f s3 q3=>?_)
  cases f with
  |next =>
   obtain⟨σ3,H3,I3,n3⟩:=q3;obtain⟨m',hm,w3⟩:=hN σ3 H3 n3;exact⟨m',hm,σ3,H3,I3,w3⟩
  |cont =>
   obtain⟨σ3,H3,I3,n3⟩:=q3;obtain⟨m',hm,w3⟩:=hN σ3 H3 n3;exact⟨m',hm,σ3,H3,I3,w3⟩
  |brk=>exact q3
  |ret v=>exact q3
 |false =>
  rw[if_neg aay];exact afa ⟨σ1,H2,I2,q2⟩
end
structure It where
 go:Nat->Hp->Prop
 yld:Nat->Hp->V->Hp->Prop
 stop:Nat->Hp->Prop
def FpOk(X:Cx)(pins:List (Addr×Obj))(H:Hp)(b:Addr):Prop :=
 H b=none/\b≠X.env.locals/\b∉X.fs/\(b∈X.ex\/X.s₀.heap.objs.size≤b)/\(∀x c,X.env.cells.lookup x=some c->c≠b)/\∀p∈X.pn++pins,p.1≠b
theorem Inv.fpOk{H':Hp}{s:aab}(I:Inv X pins σ H s)(hb:s.heap.objs.size≤b)(hn:H' b=none):FpOk X pins H' b:=by
 refine⟨hn,abv (aaz I.lt hb),I.nofs hb,.inr (aaF I.sz hb),fun x c e z=>?_,fun p hp z=>?_⟩
 .obtain⟨v,q⟩:=I.cell x c e;exact absurd (aaz q.lt (by rw[z];exact hb)) (acP _)
 .exact absurd (aaz (aak (I.pin p hp).1) (by rw[z];exact hb)) (acP _)
structure Turn(P:aaZ)(w:World)(K:aaj)(tg:Expr)(J:It)(fp:List Addr)(it:Addr)(tn:Nat->aa6->Prop):Prop where
 mem:it∈fp
 obj:∀i h,tn i h->∀b∈fp,∃o,h.get? b=some o/\∀v,o.data≠.cell v
 keep:∀i h h',tn i h->(∀b∈fp,∀o,h.get? b=some o->h'.get? b=some o)->tn i h'
 item:∀(X:Cx),X.prog=P->X.w=w->X.K=K->X.calm=true->∀(i:Nat) (pins:List (Addr×Obj)) (s:aab) (σ:St) (H:Hp) (E:GE->aab->Prop),Inv X pins σ H s->(∀b∈fp,FpOk X pins H b)->tn i s.heap->J.go i H ->
  wpAny (model P w) X.A (acj (.ref it)) (fun r s1=>∃u,r=some u /\
   wpAny (model P w) X.A (adA tg (.ref it) u) (fun _ s2=>∃x H',Inv X pins σ H' s2/\RelV x u/\J.yld i H x H'/\tn (i+1) s2.heap/\∀b∈fp,H' b=none) E s1) E s
 done:∀(X:Cx),X.prog=P->X.w=w->X.K=K->X.calm=true->∀(i:Nat) (pins:List (Addr×Obj)) (s:aab) (σ:St) (H:Hp) (E:GE->aab->Prop),Inv X pins σ H s->(∀b∈fp,FpOk X pins H b)->tn i s.heap->J.stop i H ->
  wpAny (model P w) X.A (acj (.ref it)) (fun r s1=>r=none/\Inv X pins σ H s1) E s
 self:∀(A:abz) (i:Nat) (s:aab) (Q:GE->aab->Prop) (E:GE->aab->Prop),tn i s.heap->Q (.ref it) s->wpAny (model P w) A (afb (.ref it)) Q E s
abbrev TI:=St->Hp->(It->Hp->Prop)->Prop
def PIE(X:Cx)(pins:List (Addr×Obj))(σ:St)(tg:Expr)(R:It->Hp->Prop)(itv:GE)(s2:aab):Prop :=
 ∃(it:Addr) (fp:List Addr) (tn:Nat->aa6->Prop) (J:It) (H':Hp),itv = .ref it/\Inv X pins σ H' s2/\Turn X.prog X.w X.K tg J fp it tn/\tn 0 s2.heap/\(∀b∈fp,FpOk X pins H' b)/\R J H'
def PI(X:Cx)(tg iter:Expr)(wi:TI):Prop :=
 ∀(pins:List (Addr×Obj)) (s:aab) (σ:St) (H:Hp) (R:It->Hp->Prop),Inv X pins σ H s->wi σ H R ->
  wpAny (model X.prog X.w) X.A (eval iter X.env) (fun v s1=>wpAny (model X.prog X.w) X.A (afb v) (PIE X pins σ tg R) X.xe s1) X.xe s
theorem FW{s:aab}{it:Addr}{o:Obj}{n:String}{vs:Array GE}{Q:Unit->aab->Prop}(ho:s.heap.get? it=some o)(hc:o.cls = .type n)(hd:o.data = .fields vs)
  (hn:["enumerate","zip","dict_itemiterator","dict_reverseitemiterator","odict_iterator","itertools.zip_longest","itertools.pairwise"].contains n=false) (hQ:Q () s):wpAny M A (adA tg (.ref it) u) Q E s:=by
 unfold adA
 cases tg<;>first
  |exact aaa hQ
  | (cases u<;>first
    |exact aaa hQ
    | (refine gE (wpAny_load ho ?_)
       rw[hc,hd];show wpAny M A (if (["enumerate","zip","dict_itemiterator","dict_reverseitemiterator","odict_iterator","itertools.zip_longest","itertools.pairwise"].contains n&&vs[0]?==some (adj _))=true then _ else _) Q E s;rw[if_neg (by intro h;rw[hn,agK]at h;cases h)];exact aaa hQ))
def Itl(K:aaj)(a:Addr):It :=
 ⟨fun i H=>∃xs x,SqL K H a xs/\xs[i]?=some x,fun i H x H'=>H'=H/\∀xs,SqL K H a xs->xs[i]?=some x,fun i H=>∃xs,SqL K H a xs/\xs.length≤i⟩
def Itt(K:aaj)(a:Addr):It :=
 ⟨fun i H=>∃xs x,SqT K H a xs/\xs[i]?=some x,fun i H x H'=>H'=H/\∀xs,SqT K H a xs->xs[i]?=some x,fun i H=>∃xs,SqT K H a xs/\xs.length≤i⟩
def Itr(lo:Int)(n:Nat):It:=⟨fun i _=>i<n,fun i H x H'=>H'=H/\x = .int (lo+i),fun i _=>n≤i⟩
theorem wY(a it:Addr):Turn P w K tg (Itl K a) [it] it (fun i h=>h.IsListIter it a i) where
 mem:=by simp
 obj:=fun i h st b hb=>by
  have e:b=it:=by simpa using hb
  subst e;obtain⟨o,e,c,d⟩:=st;exact⟨o,e,fun v z=>by rw[d]at z;cases z⟩
 keep:=fun i h h' st k=>st.at fun o e=>k it (by simp) o e
 item:=by
  intro X hP hw hK hc i pins s σ H E I hf st hg;subst hP hw hK;obtain⟨xs,x,hq,hx⟩:=hg;obtain⟨its,rv,p,hz⟩:=I.list hq;obtain⟨u,hu,ru⟩:=rv.get hx;obtain⟨f0,f1,f2,f3,f4,f5⟩:=hf it (by simp);refine wpAny_pyNext_list_item st p.isList (x:=u) (by simpa using hu) fun h' st' sb=>?_;have I1:Inv X pins σ H {s with heap:=h' }:=I.turned (t':=s.toks) (fun b o hb e=>(sb.2 b hb).trans e) f0 f1 f3 f4 f5;obtain⟨o,e,c,d⟩:=id st';exact⟨u,rfl,FW (s:={s with heap:=h' }) e c d (by decide) ⟨x,H,I1,ru,⟨rfl,fun ys hy=>by rw[I.list_inj hy hq];exact hx⟩,st',fun b hb=>(hf b hb).1⟩⟩
 done:=by
  intro X hP hw hK hc i pins s σ H E I hf st hg;subst hP hw hK;obtain⟨xs,hq,hx⟩:=hg;obtain⟨its,rv,p,hz⟩:=I.list hq;obtain⟨f0,f1,f2,f3,f4,f5⟩:=hf it (by simp);have hl:=rv.length;exact wpAny_pyNext_list_end (I.ok.hd hc) st p.isList (by simp;omega) fun h' eb=>⟨rfl,I.turned (t':=s.toks) (fun b o hb e=>eb b o hb e) f0 f1 f3 f4 f5⟩
 self:=fun _ _ _ _ _ st h=>wpAny_pyIter_listiter st h
theorem uy(a it:Addr):Turn P w K tg (Itt K a) [it] it (fun i h=>h.IsTupleIter it a i) where
 mem:=by simp
 obj:=fun i h st b hb=>by
  have e:b=it:=by simpa using hb
  subst e;obtain⟨o,e,c,d⟩:=st;exact⟨o,e,fun v z=>by rw[d]at z;cases z⟩
 keep:=fun i h h' st k=>st.at fun o e=>k it (by simp) o e
 item:=by
  intro X hP hw hK hc i pins s σ H E I hf st hg;subst hP hw hK;obtain⟨xs,x,hq,hx⟩:=hg;obtain⟨its,rv,p,hz⟩:=I.tuple hq;obtain⟨u,hu,ru⟩:=rv.get hx;obtain⟨f0,f1,f2,f3,f4,f5⟩:=hf it (by simp);refine wpAny_pyNext_tuple_item st (show s.heap.IsTuple a its.toArray from p) (x:=u) (by simpa using hu) fun h' st' sb=>?_;have I1:Inv X pins σ H {s with heap:=h' }:=I.turned (t':=s.toks) (fun b o hb e=>(sb.2 b hb).trans e) f0 f1 f3 f4 f5;obtain⟨o,e,c,d⟩:=id st';exact⟨u,rfl,FW (s:={s with heap:=h' }) e c d (by decide) ⟨x,H,I1,ru,⟨rfl,fun ys hy=>by rw[I.tuple_inj hy hq];exact hx⟩,st',fun b hb=>(hf b hb).1⟩⟩
 done:=by
  intro X hP hw hK hc i pins s σ H E I hf st hg;subst hP hw hK;obtain⟨xs,hq,hx⟩:=hg;obtain⟨its,rv,p,hz⟩:=I.tuple hq;obtain⟨f0,f1,f2,f3,f4,f5⟩:=hf it (by simp);have hl:=rv.length;exact wpAny_pyNext_tuple_end (I.ok.hd hc) st (show s.heap.IsTuple a its.toArray from p) (by simp;omega) fun h' eb=>⟨rfl,I.turned (t':=s.toks) (fun b o hb e=>eb b o hb e) f0 f1 f3 f4 f5⟩
 self:=fun _ _ _ _ _ st h=>wpAny_pyIter_tupleiter st h
theorem um(it:Addr)(lo:Int)(n:Nat):Turn P w K tg (Itr lo n) [it] it (fun i h=>IsRangeIter h it (lo+(i:Nat)*1) ((n:Int)-(i:Nat)) 1) where
 mem:=by simp
 obj:=fun i h st b hb=>by
  have e:b=it:=by simpa using hb
  subst e;exact⟨_,st,fun v z=>by
   have z':Data.fields _=Data.cell v:=z;cases z'⟩
 keep:=fun i h h' st k=>k it (by simp) _ st
 item:=by
  intro X hP hw hK hc i pins s σ H E I hf st hg;subst hP hw hK;obtain⟨f0,f1,f2,f3,f4,f5⟩:=hf it (by simp);have W:=Walks.range (prog:=X.prog) (w:=X.w) (I.ok.hd hc) it lo 1 n;refine W.item i s _ _ hg st fun v h' tk hv st' kk=>?_;obtain⟨t,rfl⟩:=hv;have I1:Inv X pins σ H {s with heap:=h',toks:=tk}:=I.turned (fun b o hb e=>kk b o (by simpa using hb) e) f0 f1 f3 f4 f5;refine⟨_,rfl,FW (s:={s with heap:=h',toks:=tk}) (n := "range_iterator") st' rfl rfl (by decide) ⟨.int (lo+i),H,I1,⟨t,?_⟩,⟨rfl,rfl⟩,st',fun b hb=>(hf b hb).1⟩⟩;rw[aeZ]
 done:=by
  intro X hP hw hK hc i pins s σ H E I hf st hg;subst hP hw hK;obtain⟨f0,f1,f2,f3,f4,f5⟩:=hf it (by simp);exact wpAny_pyNext_range_end (I.ok.hd hc) st (by have:n≤i:=hg;omega) fun h' eb=>⟨rfl,I.turned (t':=s.toks) (fun b o hb e=>eb b o hb e) f0 f1 f3 f4 f5⟩
 self:=fun _ _ _ _ _ st h=>wpAny_pyIter_rangeiter st h
section
variable {X:Cx}{tg:Expr}
theorem y3{s:aab}{R:It->Hp->Prop}{lo hi:Int}{t u v:Tok}{tk:Nat}(I:Inv X pins σ H s)(h1 : -(2^62)≤lo)(h2:lo<2^62)(h3 : -(2^62)≤hi)(h4:hi<2^62)
  (q:R (Itr lo (hi-lo).toNat) H):wpAny (model X.prog X.w) X.A (afb (.ref s.heap.objs.size)) (PIE X pins σ tg R) E {s with heap:=s.heap.push {cls:=.type "range",data:=.fields #[.int lo t,.int hi u,.int 1 v]},toks:=tk}:=by
 refine wpAny_pyIter_range (IsRange.new ..) (small_one h1 h2 h3 h4) ?_;have I1:Inv X pins σ H {s with heap:=s.heap.push {cls:=.type "range",data:=.fields #[.int lo t,.int hi u,.int 1 v]},toks:=tk}:=I.kept fun b o e=>Io _ e;refine⟨(s.heap.push {cls:=.type "range",data:=.fields #[.int lo t,.int hi u,.int 1 v]}).objs.size,[(s.heap.push {cls:=.type "range",data:=.fields #[.int lo t,.int hi u,.int 1 v]}).objs.size],_,_,H,rfl,
  I1.kept (t':=tk) fun b o e=>Io _ e,um _ lo (hi-lo).toNat,?_,fun b hb=>?_,q⟩
 .have e1:lo+((0:Nat):Int)*1=lo:=by simp
  have e2:(((hi-lo).toNat:Nat):Int)-((0:Nat):Int)=acM.Range.rangeSize lo hi 1:=by rw[rangeSize_one];split<;>omega
  show IsRangeIter _ _ (lo+((0:Nat):Int)*1) ((((hi-lo).toNat:Nat):Int)-((0:Nat):Int)) 1;rw[e1,e2];exact aal _ rfl
 .have e:b=(s.heap.push {cls:=.type "range",data:=.fields #[.int lo t,.int hi u,.int 1 v]}).objs.size:=by simpa using hb
  subst e;exact I1.fpOk (aac _) (I1.hok.fresh (aac _))
def MR(ta:TA):TI:=fun σ H R=>ta σ H fun vs H1=>∃j:Int,vs=[.int j]/\-(2^62)≤j/\j<2^62/\R (Itr 0 j.toNat) H1
theorem vy{a:Expr}{ta:TA}{p:Pos}(hg:Gl X "range")(hm:X.mg "range" = none)(ha:PA X [a] ta)(hs:aan [a] X.env=[(false,eval a X.env)]:=by rfl):PI X tg (.Call (.Name "range" p) [a] [] pos) (MR ta):=by
 intro pins s σ H R I h;refine Call_ (kZ I hg hm boot_range (acN (thn (ha pos pins s σ H _ I h) fun us s1 ⟨vs,H1,I1,r1,q1⟩=>?_) hs rfl));obtain⟨j,e,q1,q2,q⟩:=q1;subst e
 cases r1 with
 |cons r rr =>
  cases rr;obtain⟨t,rfl⟩:=r;exact call_range_1 (y3 I1 (by omega) (by omega) q1 q2 (by simpa using q))
def tFor(wi:TI)(g:TG)(tb:TS):TS:=fun D σ H=>wi σ H fun J H1=>∃W:Nat->Nat->St->Hp->Prop,(∃m,W 0 m σ H1)/\∀i m σ H,W i m σ H ->
 (J.stop i H/\D.nx σ H)\/(J.go i H/\∃N:St->Hp->Prop,(∀σ' H',N σ' H'->∃m',m'<m/\W (i+1) m' σ' H')/\∀x H',J.yld i H x H'->g x σ H' fun σ2 H2=>tb {D with nx:=N,ct:=N,bk:=D.nx} σ2 H2)
def po(fp:List Addr)(h:aa6):List (Addr×Obj):=fp.filterMap fun b=>(h.get? b).map fun o=>(b,o)
theorem fV{o:Obj}(hb:b∈fp)(e:h.get? b=some o):(b,o)∈po fp h:=List.mem_filterMap.mpr ⟨b,hb,by rw[e];rfl⟩
theorem yg{p:Addr×Obj}(hp:p∈po fp h):p.1∈fp/\h.get? p.1=some p.2:=by
 obtain⟨b,hb,e⟩:=List.mem_filterMap.mp hp
 cases q:h.get? b with
 |none=>rw[q]at e;cases e
 |some o =>
  rw[q]at e;have e':(b,o)=p:=aai e;subst e';exact⟨hb,q⟩
theorem Inv.pinned{s:aab}(I:Inv X pins σ H s)(hf:∀b∈fp,FpOk X pins H b)(ho:∀b∈fp,∃o,s.heap.get? b=some o/\∀v,o.data≠.cell v):Inv X (pins++po fp s.heap) σ H s :=
 I.pins_of fun p hp=>(abn.mp hp).elim (fun z=>I.pin p (abp _ z)) fun z=>by
  obtain⟨hb,e⟩:=yg z;obtain⟨f0,f1,f2,_⟩:=hf p.1 hb;obtain⟨o,e',d⟩:=ho p.1 hb;rw[e]at e';cases e';exact⟨e,f0,f1,f2,d⟩
theorem Inv.unpinned{pl:List (Addr×Obj)}{s:aab}(I:Inv X (pins++pl) σ H s):Inv X pins σ H s:=I.pins_of fun p hp=>I.pin p (abp _ (agJ _ hp))
theorem KU{iter:Expr}{wi:TI}{g:TG}{tb:TS}(hp:afX (model X.prog X.w) X.A X.env X.xe)(hc:X.calm=true)(hi:PI X tg iter wi)(hg:PG X tg g)(hb:PSs X body tb)
  (hs:∀x,aaW iter X.env x=pure x:=by intro _;rfl):PS X (.For tg iter body [] pos) (tFor wi g tb):=by
 intro pins s σ H D I h;refine wpAny_For (thn (hi pins s σ H _ I h) fun v s1 h1=>thn h1 fun itv s2 h2=>?_) hs;obtain⟨it,fp,tn,J,H2,e,I2,T,st2,f2,W,⟨m0,w0⟩,turn⟩:=h2;subst e;have stat:∀{H':Hp},(∀b∈fp,H' b=none)->∀b∈fp,FpOk X pins H' b:=fun hn b hb=>⟨hn b hb,(f2 b hb).2⟩;refine codeAny_forLoop_any (fun n s'=>∃i σ' H',Inv X pins σ' H' s'/\tn i s'.heap/\(∀b∈fp,H' b=none)/\W i n σ' H') ?_ m0 ⟨0,σ,H2,I2,st2,fun b hb=>(f2 b hb).1,w0⟩;rintro n s3 ⟨i,σ3,H3,I3,st3,fr3,w3⟩;rcases turn i n σ3 H3 w3 with⟨stop,qn⟩|⟨go,N,hN,step⟩
 .refine ac1 hp (thn (T.done X rfl rfl rfl hc i pins s3 σ3 H3 X.xe I3 (stat fr3) st3 stop) fun r s4 ⟨hr,I4⟩=>?_);subst hr;exact afa ⟨σ3,H3,I4,qn⟩
 .refine ac1 hp (thn (T.item X rfl rfl rfl hc i pins s3 σ3 H3 X.xe I3 (stat fr3) st3 go) fun r s4 ⟨u,hr,h4⟩=>?_);subst hr;refine ac1 hp (thn h4 fun _ s5 ⟨x,H5,I5,r5,y5,st5,fr5⟩=>?_);have I5':=I5.pinned (stat fr5) (T.obj _ _ st5);refine ac1 hp (thn (hg _ s5 σ3 H5 x u _ I5' r5 (step x H5 y5)) fun _ s6 ⟨σ6,H6,I6,q6⟩=>?_);refine ac1 hp (thn (hb _ s6 σ6 H6 _ I6 q6) fun f s7 q7=>?_);have again:∀{σ7:St}{H7:Hp},Inv X (pins++po fp s5.heap) σ7 H7 s7->N σ7 H7->∃m,m<n/\∃i σ' H',Inv X pins σ' H' s7/\tn i s7.heap/\(∀b∈fp,H' b=none)/\W i m σ' H':=fun {σ7 H7} I7 n7=>by
   obtain⟨m',hm,w7⟩:=hN σ7 H7 n7;refine⟨m',hm,i+1,σ7,H7,I7.unpinned,T.keep _ _ _ st5 fun b hb o e=>(I7.pin (b,o) (abp _ (abp _ (fV hb e)))).1,fun b hb=>?_,w7⟩;obtain⟨o,e,d⟩:=T.obj _ _ st5 b hb;exact(I7.pin (b,o) (abp _ (abp _ (fV hb e)))).2.1
  cases f with
  |next=>obtain⟨σ7,H7,I7,n7⟩:=q7;exact again I7 n7
  |cont=>obtain⟨σ7,H7,I7,n7⟩:=q7;exact again I7 n7
  |brk=>obtain⟨σ7,H7,I7,q7⟩:=q7;exact⟨σ7,H7,I7.unpinned,q7⟩
  |ret v=>obtain⟨x7,σ7,H7,I7,r7,q7⟩:=q7;exact⟨x7,σ7,H7,I7.unpinned,r7,q7⟩
end
abbrev R2:=V->V->Hp->VK->Prop
def OpR(X:Cx)(f:GE->GE->Sem GE)(r:R2):Prop :=
 ∀(pins:List (Addr×Obj)) (s:aab) (σ:St) (H:Hp) (x y:V) (v u:GE) (Q:VK),Inv X pins σ H s->RelV x v->RelV y u->r x y H Q ->
  wpAny (model X.prog X.w) X.A (f v u) (EP X pins σ Q) X.xe s
def UnR(X:Cx)(f:GE->Sem GE)(r:V->Hp->VK->Prop):Prop :=
 ∀(pins:List (Addr×Obj)) (s:aab) (σ:St) (H:Hp) (x:V) (v:GE) (Q:VK),Inv X pins σ H s->RelV x v->r x H Q ->
  wpAny (model X.prog X.w) X.A (f v) (EP X pins σ Q) X.xe s
def dj(X:Cx)(f:GE)(r:List V->Hp->VK->Prop):Prop :=
 ∀(pins:List (Addr×Obj)) (s:aab) (σ:St) (H:Hp) (xs:List V) (us:List GE) (Q:VK),Inv X pins σ H s->Vals xs us->r xs H Q ->
  wpAny (model X.prog X.w) X.A (call f us) (EP X pins σ Q) X.xe s
def tOp(r:R2)(ta tb:TE):TE:=fun σ H Q=>ta σ H fun x H1=>tb σ H1 fun y H2=>r x y H2 Q
def tUn(r:V->Hp->VK->Prop)(ta:TE):TE:=fun σ H Q=>ta σ H fun x H1=>r x H1 Q
def rI(C:Int->Int->Prop)(g:Int->Int->V):R2:=fun x y H Q=>∃i j,x = .int i/\y = .int j/\C i j/\Q (g i j) H
def rI0(g:Int->Int->V):R2:=fun x y H Q=>∃i j,x = .int i/\y = .int j/\Q (g i j) H
def rU(g:Int->V):V->Hp->VK->Prop:=fun x H Q=>∃i,x = .int i/\Q (g i) H
section
variable {X:Cx}{a b c:Expr}{ta tb tc:TE}{pos:Pos}
theorem binT(ha:PE X a ta)(hb:PE X b tb){s:aab}{R:V->V->Hp->Prop}(I:Inv X pins σ H s)
  (h:ta σ H fun x H1=>tb σ H1 fun y H2=>R x y H2) 
  (hf:∀v u s2 x y H2,Inv X pins σ H2 s2->RelV x v->RelV y u->R x y H2->wpAny (model X.prog X.w) X.A (f v u) Q X.xe s2) :
  wpAny (model X.prog X.w) X.A (eval a X.env) (fun v s₁=>wpAny (model X.prog X.w) X.A (eval b X.env) (fun u s₂=>wpAny (model X.prog X.w) X.A (f v u) Q X.xe s₂) X.xe s₁) X.xe s:=by
 refine thn (ha pins s σ H _ I h) fun v s1 ⟨x,H1,I1,r1,q1⟩=>?_;refine thn (hb pins s1 σ H1 _ I1 q1) fun u s2 ⟨y,H2,I2,r2,q2⟩=>?_;exact hf v u s2 x y H2 I2 r1 r2 q2
theorem MJ{op:Operator}(ho:OpR X (acw op) r)(ha:PE X a ta)(hb:PE X b tb):PE X (.BinOp a op b pos) (tOp r ta tb):=by
 intro pins s σ H Q I h;exact wpAny_BinOp (binT ha hb I h fun v u s2 x y H2 I2 rx ry q=>ho pins s2 σ H2 x y v u Q I2 rx ry q)
theorem Oz{op:UnaryOp}{r:V->Hp->VK->Prop}(ho:UnR X (unaryOp op) r)(ha:PE X a ta):PE X (.UnaryOp op a pos) (tUn r ta):=by
 intro pins s σ H Q I h;exact UnaryOp_ (thn (ha pins s σ H _ I h) fun v s1 ⟨x,H1,I1,r1,q1⟩=>ho pins s1 σ H1 x v Q I1 r1 q1)
theorem opI{C:Int->Int->Prop}
  (rule:∀(i j:Int) (t u:Tok) (s:aab) (Q:GE->aab->Prop) (E:GE->aab->Prop),C i j->Q (.int (g i j) s.toks) {s with toks:=s.toks+1}->wpAny (model X.prog X.w) X.A (f (.int i t) (.int j u)) Q E s) :
  OpR X f (rI C fun i j=>.int (g i j)):=by
 intro pins s σ H x y v u Q I rx ry h;obtain⟨i,j,rfl,rfl,hc,q⟩:=h;obtain⟨t,rfl⟩:=rx;obtain⟨t',rfl⟩:=ry;exact rule i j t t' s _ _ hc ⟨.int (g i j),H,I.tok _,⟨_,rfl⟩,q⟩
theorem opI0
  (rule:∀(i j:Int) (t u:Tok) (s:aab) (Q:GE->aab->Prop) (E:GE->aab->Prop),Q (.int (g i j) s.toks) {s with toks:=s.toks+1}->wpAny (model X.prog X.w) X.A (f (.int i t) (.int j u)) Q E s) :
  OpR X f (rI0 fun i j=>.int (g i j)):=by
 intro pins s σ H x y v u Q I rx ry h;obtain⟨i,j,rfl,rfl,q⟩:=h;obtain⟨t,rfl⟩:=rx;obtain⟨t',rfl⟩:=ry;exact rule i j t t' s _ _ ⟨.int (g i j),H,I.tok _,⟨_,rfl⟩,q⟩
theorem opB0{g:Int->Int->Bool}
  (rule:∀(i j:Int) (t u:Tok) (s:aab) (Q:GE->aab->Prop) (E:GE->aab->Prop),Q (.bool (g i j)) s->wpAny (model X.prog X.w) X.A (f (.int i t) (.int j u)) Q E s) :
  OpR X f (rI0 fun i j=>.bl (g i j)):=by
 intro pins s σ H x y v u Q I rx ry h;obtain⟨i,j,rfl,rfl,q⟩:=h;obtain⟨t,rfl⟩:=rx;obtain⟨t',rfl⟩:=ry;exact rule i j t t' s _ _ ⟨.bl (g i j),H,I,rfl,q⟩
def CPow(i j:Int):Prop:=0≤j/\j≤1000000/\i.natAbs<2^64
def CMul(i j:Int):Prop:=(-(2^64)<i/\i<2^64)\/(-(2^64)<j/\j<2^64)
theorem CMul.ok{i j:Int}(h:CMul i j):afY i j:=by
 rcases h with⟨h1,h2⟩|⟨h1,h2⟩
 .exact .of_left (intBits_le_64 h1 h2)
 .exact .of_right (intBits_le_64 h1 h2)
theorem L4:OpR X (acw .Add) (rI0 fun i j=>.int (i+j)):=opI0 fun _ _ _ _ _ _ _ q=>add_int q
theorem KG:OpR X (acw .Mod) (rI (fun _ j=>0<j) fun i j=>.int (i%j)):=opI fun i j _ _ _ _ _ hc q=>by
 have h1:(0:Int)<j:=hc;exact mod_int' (by omega) (by rw[Int.fmod_eq_emod_of_nonneg i (by omega)];exact q)
theorem Lh:OpR X (acw .Pow) (rI CPow fun i j=>.int (i^j.toNat)):=opI fun _ _ _ _ _ _ _ hc q=>pow_int_small hc.1 hc.2.1 hc.2.2 q
theorem unI{f:GE->Sem GE}{g:Int->Int}
  (rule:∀(i:Int) (t:Tok) (s:aab) (Q:GE->aab->Prop) (E:GE->aab->Prop),Q (.int (g i) s.toks) {s with toks:=s.toks+1}->wpAny (model X.prog X.w) X.A (f (.int i t)) Q E s) :
  UnR X f (rU fun i=>.int (g i)):=by
 intro pins s σ H x v Q I rx h;obtain⟨i,rfl,q⟩:=h;obtain⟨t,rfl⟩:=rx;exact rule i t s _ _ ⟨.int (g i),H,I.tok _,⟨_,rfl⟩,q⟩
theorem Kw:UnR X (unaryOp .USub) (rU fun i=>.int (-i)):=unI fun _ _ _ _ _ q=>neg_int q
end
def scal:V->V->Bool
 | .non,.non=>true | .non,.int _=>true | .int _,.non=>true | .non,.bl _=>true | .bl _,.non=>true | .non,.str _=>true | .str _,.non=>true
 | .int _,.int _=>true | .bl _,.bl _=>true | .str _,.str _=>true | .byt _,.byt _=>true
 | .int _,.str _=>true | .str _,.int _=>true | .bl _,.str _=>true | .str _,.bl _=>true
 |_,_=>false
def rEq:R2:=fun x y H Q=>scal x y=true/\Q (.bl (decide (x=y))) H
def rNe:R2:=fun x y H Q=>scal x y=true/\Q (.bl (!decide (x=y))) H
theorem yx{i j:Int}:decide (V.int i=V.int j)=(i==j):=by
 rw[acE];simp
theorem BT{i j:Bool}:decide (V.bl i=V.bl j)=(i==j):=by
 rw[acE];simp
theorem l5{i j:Str}:decide (V.str i=V.str j)=(i==j):=by
 rw[acE];simp
theorem wq{i j:Array UInt8}:decide (V.byt i=V.byt j)=(i.toList==j.toList):=by
 rw[acE];cases i;cases j;simp
section
variable {X:Cx}{a b c:Expr}{ta tb tc:TE}{pos:Pos}
theorem bo{s:aab}{Q:VK}{k k':Bool}(I:Inv X pins σ H s)(q:Q (.bl k) H)(e:k=k'):EP X pins σ Q (.bool k') s:=by
 subst e;exact⟨.bl k,H,I,rfl,q⟩
theorem N6:OpR X (abZ .Eq) rEq:=by
 intro pins s σ H x y v u Q I rx ry h;obtain⟨hs,q⟩:=h
 cases x with
 |non =>
  cases rx
  cases y with
  |non=>cases ry;exact PySem.EqNone.eq_none_none (bo I q (by simp))
  |bl j=>cases ry;exact PySem.EqNone.eq_none_bool (bo I q (by simp))
  |int j=>obtain⟨t',rfl⟩:=ry;exact PySem.EqNone.eq_none_int (bo I q (by simp))
  |str j=>obtain⟨t',rfl⟩:=ry;exact PySem.EqNone.eq_none_str (bo I q (by simp))
  |_=>exact absurd (show false=true from hs) aay
 |bl i =>
  cases rx
  cases y with
  |non=>cases ry;exact PySem.EqNone.eq_bool_none (bo I q (by simp))
  |bl j=>cases ry;exact eq_bool (bo I q BT)
  |str j=>obtain⟨t',rfl⟩:=ry;exact PySem.EqMixed.eq_bool_str (bo I q (by simp))
  |_=>exact absurd (show false=true from hs) aay
 |int i =>
  obtain⟨t,rfl⟩:=rx
  cases y with
  |non=>cases ry;exact PySem.EqNone.eq_int_none (bo I q (by simp))
  |int j=>obtain⟨t',rfl⟩:=ry;exact eq_int (bo I q yx)
  |str j=>obtain⟨t',rfl⟩:=ry;exact PySem.EqMixed.eq_int_str (bo I q (by simp))
  |_=>exact absurd (show false=true from hs) aay
 |str i =>
  obtain⟨t,rfl⟩:=rx
  cases y with
  |non=>cases ry;exact PySem.EqNone.eq_str_none (bo I q (by simp))
  |bl j=>cases ry;exact PySem.EqMixed.eq_str_bool (bo I q (by simp))
  |int j=>obtain⟨t',rfl⟩:=ry;exact PySem.EqMixed.eq_str_int (bo I q (by simp))
  |str j=>obtain⟨t',rfl⟩:=ry;exact eq_str (bo I q l5)
  |_=>exact absurd (show false=true from hs) aay
 |byt i =>
  obtain⟨t,rfl⟩:=rx
  cases y with
  |byt j=>obtain⟨t',rfl⟩:=ry;exact PySem.W.eq_bytes (bo I q wq)
  |_=>exact absurd (show false=true from hs) aay
 |_=>cases y<;>exact absurd (show false=true from hs) aay
theorem M9:OpR X (abZ .NotEq) rNe:=by
 intro pins s σ H x y v u Q I rx ry h;obtain⟨hs,q⟩:=h
 cases x with
 |non =>
  cases rx
  cases y with
  |non=>cases ry;exact PySem.EqNone.ne_none_none (bo I q (by simp))
  |bl j=>cases ry;exact PySem.EqNone.ne_none_bool (bo I q (by simp))
  |int j=>obtain⟨t',rfl⟩:=ry;exact PySem.EqNone.ne_none_int (bo I q (by simp))
  |str j=>obtain⟨t',rfl⟩:=ry;exact PySem.EqNone.ne_none_str (bo I q (by simp))
  |_=>exact absurd (show false=true from hs) aay
 |bl i =>
  cases rx
  cases y with
  |non=>cases ry;exact PySem.EqNone.ne_bool_none (bo I q (by simp))
  |bl j=>cases ry;exact ne_bool (bo I q (congrArg not BT))
  |str j=>obtain⟨t',rfl⟩:=ry;exact PySem.EqMixed.ne_bool_str (bo I q (by simp))
  |_=>exact absurd (show false=true from hs) aay
 |int i =>
  obtain⟨t,rfl⟩:=rx
  cases y with
  |non=>cases ry;exact PySem.EqNone.ne_int_none (bo I q (by simp))
  |int j=>obtain⟨t',rfl⟩:=ry;exact ne_int (bo I q (congrArg not yx))
  |str j=>obtain⟨t',rfl⟩:=ry;exact PySem.EqMixed.ne_int_str (bo I q (by simp))
  |_=>exact absurd (show false=true from hs) aay
 |str i =>
  obtain⟨t,rfl⟩:=rx
  cases y with
  |non=>cases ry;exact PySem.EqNone.ne_str_none (bo I q (by simp))
  |bl j=>cases ry;exact PySem.EqMixed.ne_str_bool (bo I q (by simp))
  |int j=>obtain⟨t',rfl⟩:=ry;exact PySem.EqMixed.ne_str_int (bo I q (by simp))
  |str j=>obtain⟨t',rfl⟩:=ry;exact ne_str (bo I q (congrArg not l5))
  |_=>exact absurd (show false=true from hs) aay
 |byt i =>
  obtain⟨t,rfl⟩:=rx
  cases y with
  |byt j=>obtain⟨t',rfl⟩:=ry;exact PySem.W.ne_bytes (bo I q (congrArg not wq))
  |_=>exact absurd (show false=true from hs) aay
 |_=>cases y<;>exact absurd (show false=true from hs) aay
theorem OW:OpR X (abZ .Lt) (rI0 fun i j=>.bl (decide (i<j))):=opB0 fun _ _ _ _ _ _ _ q=>lt_int q
theorem Na:OpR X (abZ .Gt) (rI0 fun i j=>.bl (decide (j<i))):=opB0 fun _ _ _ _ _ _ _ q=>gt_int q
theorem Oa:OpR X (abZ .GtE) (rI0 fun i j=>.bl (decide (j≤i))):=opB0 fun _ _ _ _ _ _ _ q=>ge_int q
theorem Fj:OpR X (abZ .IsNot) (fun x y H Q=>y = .non/\Q (.bl (!decide (x = .non))) H):=by
 intro pins s σ H x y v u Q I rx ry h;obtain⟨rfl,q⟩:=h;cases ry;refine isnot_none_gen (bo I q ?_)
 cases x<;>first
  |(cases rx;rfl)
  |(obtain⟨t,rfl⟩:=rx;rfl)
theorem aI(b:Expr)(h:op≠.In:=by decide)(h2:op≠.NotIn:=by decide):ade op b=false:=by
 have e1:(op==CmpOp.In)=false:=by cases op<;>first|rfl|exact absurd rfl h
 have e2:(op==CmpOp.NotIn)=false:=by cases op<;>first|rfl|exact absurd rfl h2
 cases b<;>simp[ade,e1,e2]
theorem FY(ho:OpR X (abZ op) r)(ha:PE X a ta)(hb:PE X b tb)(hm:ade op b=false):PE X (.Compare a [op] [b] pos) (tOp r ta tb):=by
 intro pins s σ H Q I h;exact wpAny_Compare1 (binT ha hb I h fun v u s2 x y H2 I2 rx ry q=>ho pins s2 σ H2 x y v u Q I2 rx ry q) hm
def Ki(t:TE):TT:=fun σ H Q=>t σ H fun x H'=>∃k,x = .bl k/\Q k H'
theorem Di(ho:OpR X (abZ op) r)(ha:PE X a ta)(hb:PE X b tb)(hm:ade op b=false):PT X (.Compare a [op] [b] pos) (Ki (tOp r ta tb)):=by
 intro pins s σ H Q I h;refine wpAny_isTrue_Compare1 (thn (ha pins s σ H _ I h) fun v s1 ⟨x,H1,I1,r1,q1⟩=>thn (hb pins s1 σ H1 _ I1 q1) fun u s2 ⟨y,H2,I2,r2,q2⟩ =>
  thn (ho pins s2 σ H2 x y v u _ I2 r1 r2 q2) fun c s3 ⟨z,H3,I3,r3,k,e,q3⟩=>?_) hm
 subst e;cases r3;exact wpAny_truthy_bool ⟨H3,I3,q3⟩
theorem ll:(aam:Nat)<2^63:=by rw[aaq];decide
theorem ut:OpR X (acw .Add) (fun x y H Q=>∃i j,x = .str i/\y = .str j/\i.length+j.length≤aam/\Q (.str (i++j)) H):=by
 intro pins s σ H x y v u Q I rx ry h;obtain⟨i,j,rfl,rfl,hz,q⟩:=h;obtain⟨t,rfl⟩:=rx;obtain⟨t',rfl⟩:=ry;exact add_str (fun t' tk=>⟨.str (i++j),H,I.tok _,⟨_,rfl⟩,q⟩) hz
theorem uG{x:V}(r:Vals [x] us):∃u,us=[u]/\RelV x u:=by
 cases r with
 |cons r1 r2=>cases r2;exact⟨_,rfl,r1⟩
theorem AE:dj X (.builtin "abs") (fun xs H Q=>∃i,xs=[.int i]/\Q (.int (if i<0 then -i else i)) H):=by
 intro pins s σ H xs us Q I r h;obtain⟨i,rfl,q⟩:=h;obtain⟨u,rfl,t,rfl⟩:=uG r;exact call_abs_int fun u tk=>⟨.int (if i<0 then -i else i),H,I.tok _,⟨_,rfl⟩,q⟩
theorem oW:dj X (.type "int") (fun xs H Q=>(∃i,xs=[.int i]/\Q (.int i) H)\/∃k,xs=[.bl k]/\Q (.int (if k then 1 else 0)) H):=by
 intro pins s σ H xs us Q I r h;rcases h with⟨i,rfl,q⟩|⟨k,rfl,q⟩
 .obtain⟨u,rfl,t,rfl⟩:=uG r;exact call_int_int ⟨.int i,H,I,⟨_,rfl⟩,q⟩
 .obtain⟨u,rfl,r1⟩:=uG r;cases r1;exact call_int_bool ⟨.int (if k then 1 else 0),H,I.tok _,⟨_,rfl⟩,q⟩
end
theorem RelO.some_of{o:Option GE}(r:RelO (some v) o):∃u,o=some u/\RelV v u:=by
 cases o with
 |none=>exact(show False from r).elim
 |some u=>exact⟨u,rfl,r⟩
theorem RelO.none_of{o:Option GE}(r:RelO none o):o=none:=by
 cases o with
 |none=>rfl
 |some u=>exact(show False from r).elim
structure Room(k:Nat)(A:abz):Prop where
 hd:A.handled=none
 dp:A.depth+3*k+5<recursionLimit
 un:A.units+16*k+200<cLine
 gd:A.guards=some []
theorem Room.mono{k:Nat}(r:Room k A)(h:j≤k):Room j A:=⟨r.hd,by have:=r.dp;omega,by have:=r.un;omega,r.gd⟩
theorem Room.deeper{k:Nat}(r:Room (k+1) A)(env:Env):Room k (A.deeper env) :=
 ⟨r.hd,by have:=r.dp;show A.depth+1+3*k+5<_;omega,by have:=r.un;show A.units+3+16*k+200<_;omega,r.gd⟩
theorem Room.depth{k:Nat}(r:Room k A):A.depth<recursionLimit:=by have:=r.dp;omega
theorem Room.units{k:Nat}(r:Room k A):A.units+64<cLine:=by have:=r.un;omega
def tNil:TA:=fun _ H Q=>Q [] H
def Mt(ta:TE)(tr:TA):TA:=fun σ H Q=>ta σ H fun x H1=>tr σ H1 fun xs H2=>Q (x::xs) H2
section
variable {X:Cx}{e:Expr}{es:List Expr}{te:TE}{t:TA}{pos:Pos}
theorem JZ:PA X [] tNil:=fun _ _ _ _ H Q I h=>ahy ⟨[],H,I,.nil,h⟩
theorem CP(ha:PE X e te)(hr:PA X es t)(hs:aan (e::es) X.env=(false,eval e X.env)::aan es X.env:=by rfl):PA X (e::es) (Mt te t):=by
 intro pos pins s σ H Q I h;rw[hs];show wpAny _ _ (spliced ((false,eval e X.env)::acb pos (aan es X.env))) _ _ s;refine ahn (thn (ha pins s σ H _ I h) fun u s1 ⟨x,H1,I1,r1,q1⟩=>?_);exact thn (hr pos pins s1 σ H1 _ I1 q1) fun us s2 ⟨xs,H2,I2,r2,q2⟩=>⟨x::xs,H2,I2,.cons r1 r2,q2⟩
def tTup(t:TA):TE:=fun σ H Q=>t σ H fun xs H1=>xs.length≤aam/\∀p,H1 p=none->Q (.ref p) (upd H1 p (.tup xs))
def tLst(t:TA):TE:=fun σ H Q=>t σ H fun xs H1=>xs.length≤aam/\∀p,H1 p=none->Q (.ref p) (upd H1 p (.lst xs))
theorem IL{x1}(h:PA X es t):PE X (.Tuple es x1 pos) (tTup t):=by
 intro pins s σ H Q I hq;refine wpAny_Tuple_spliced (thn (h pos pins s σ H _ I hq) fun us s1 ⟨xs,H1,I1,r,z,q⟩=>⟨by rw[<-r.length];exact z,?_⟩);have hf:H1 s1.heap.objs.size=none:=I1.hok.fresh (aac _);refine⟨.ref s1.heap.objs.size,upd H1 s1.heap.objs.size (.tup xs),I1.laid (t':=s1.toks) (fun b u e=>Io _ e) (aac _) ?_,rfl,q _ hf⟩;exact⟨z,us,r,⟨_,aal _ rfl,rfl,rfl,_,rfl⟩⟩
theorem Iy(h:PA X es t):PE X (.List es pos) (tLst t):=by
 intro pins s σ H Q I hq;refine wpAny_List_spliced (thn (h pos pins s σ H _ I hq) fun us s1 ⟨xs,H1,I1,r,z,q⟩=>⟨by rw[<-r.length];exact z,?_⟩);have hf:H1 s1.heap.objs.size=none:=I1.hok.fresh (aac _);refine⟨.ref s1.heap.objs.size,upd H1 s1.heap.objs.size (.lst xs),I1.laid (t':=s1.toks) (fun b u e=>Io _ e) (aac _) ?_,rfl,q _ hf⟩;exact⟨z,us,0,r,aal _ rfl⟩
end
abbrev Sp:=List V->Hp->VK->XK->Prop
abbrev CXT:=List Env->Hp->aab->XK->GE->aab->Prop
structure Env0(P:aaZ)(w:World)(K:aaj)(mg:Str->Option GE)(base:aa6)(A:abz)(outer:List Env)(s:aab)(H:Hp):Prop where
 frames:A.frames=some outer
 mod:Mod K mg base
 bs:∀b o,base.get? b=some o->s.heap.get? b=some o/\H b=none
 bsz:base.objs.size≤s.heap.objs.size
 funs:s.heap.FunFrames base outer
 frf:∀b∈frs outer,H b=none
 hok:HOk P w H s.heap
 bare:afJ s.gens
def CE(outer:List Env)(P:aaZ)(w:World)(H:Hp)(s:aab)(Q:VK)(u:GE)(s':aab):Prop :=
 ∃v H',s'.os=s.os/\afJ s'.gens/\Un (frs outer) [] H H' s.heap s'.heap/\HOk P w H' s'.heap/\RelV v u/\Q v H'
def CR(CX:CXT)(outer:List Env)(P:aaZ)(w:World)(H:Hp)(s:aab)(Q:VK)(E:XK)(r:Result)(s':aab):Prop :=
 match r with
 | .ok (.ret u)=>CE outer P w H s Q u s'
 | .ok _=>False
 | .error e=>CX outer H s E e s'
structure FnOk(P:aaZ)(w:World)(K:aaj)(mg:Str->Option GE)(base:aa6)(CX:CXT)(k:Nat)(f:Addr)(fd:ac4)(ps:List Str)(sp:Sp):Prop where
 len:∀vs H Q E,sp vs H Q E->vs.length=ps.length
 run:∀(A:abz) (outer:List Env) (s:aab) (H:Hp) (args:Args) (us:List GE) (vs:List V) (Q:VK) (E:XK),Room k A->Env0 P w K mg base A outer s H->ahz s fd args (ps.zip us)->Vals vs us->sp vs H Q E ->
  aeT (model P w) A (.call (.ref f) args) (CR CX outer P w H s Q E) s
section
variable {X:Cx}{pins:List (Addr×Obj)}{σ:St}{H:Hp}{s s':aab}
theorem Inv.env0(I:Inv X pins σ H s):Env0 X.prog X.w X.K X.mg X.base X.A X.stack s H :=
 ⟨I.ok.frames,I.ok.mod,I.bs,aaF I.ok.bsz I.sz,I.stack,I.stkFree,I.hok,I.bare⟩
theorem Inv.after{Q:VK}(I:Inv X pins σ H s)(h:CE X.stack X.prog X.w H s Q u s'):EP X pins σ Q u s':=by
 obtain⟨v,H',os,bare,un,hok,r,q⟩:=h;obtain⟨hh,g,d,t,os'⟩:=s';obtain rfl:os'=s.os:=os;exact⟨v,H',I.call (h':=hh) (g':=g) (d':=d) (t':=t) (ch:=[]) un hok bare (fun b z=>absurd z (by simp)),r,q⟩
end
def Kl(sp:Sp)(dvs:List V)(E:XK)(t:TA):TE:=fun σ H Q=>t σ H fun vs H1=>sp (vs++dvs) H1 Q E
def Binds(K:aaj)(fd:ac4)(ps:List Str)(ds:List GE):Prop :=
 ∀(s:aab) (us:List GE),K.In s.heap->(us++ds).length=ps.length->ahz s fd ⟨us,[]⟩ (ps.zip (us++ds))
theorem Binds.all{fd:ac4}(h:∀us:List GE,us.length=ps.length->bindArgs fd ⟨us,[]⟩=pure (ps.zip us)):Binds K fd ps []:=fun s us _ hl=>by
 rw[abb]at hl⊢;exact .of_eq (h us hl)
def sg(CX:CXT)(X:Cx)(E:XK):Prop:=∀(pins:List (Addr×Obj)) (σ:St) (H:Hp) (s:aab) (e:GE) (s':aab),Inv X pins σ H s->CX X.stack H s E e s'->X.xe e s'
section
variable {X:Cx}{CX:CXT}{k:Nat}{f C:Addr}{fd:ac4}{ps:List Str}{sp:Sp}{dvs:List V}{ds:List GE}{E:XK}{x m:Str}{p pos apos:Pos}{e o:Expr}{es:List Expr}{ta:TE}{t:TA}
theorem JW{s:aab}{Q:VK}{vs:List V}(F:FnOk X.prog X.w X.K X.mg X.base CX k f fd ps sp)(hr:Room k X.A)(hb:Binds X.K fd ps ds)(hd:Vals dvs ds)(hx:sg CX X E)
  (I:Inv X pins σ H s) (r:Vals vs us) (h:sp (vs++dvs) H Q E):wpAny (model X.prog X.w) X.A (call (.ref f) us) (EP X pins σ Q) X.xe s:=by
 have r2:Vals (vs++dvs) (us++ds):=r.append hd;have hl:(us++ds).length=ps.length:=by rw[<-r2.length];exact F.len _ _ _ _ h
 refine wpAny_call (afm (F.run X.A X.stack s H ⟨us,[]⟩ (us++ds) (vs++dvs) Q E hr I.env0 (hb s us I.kIn hl) r2 h) fun r s' hq=>?_)
 cases r with
 |error e=>exact hx pins σ H s e s' I hq
 |ok fl =>
  cases fl with
  |ret u=>exact I.after hq
  |next=>exact adp hq
  |brk=>exact adp hq
  |cont=>exact adp hq
theorem FM(F:FnOk X.prog X.w X.K X.mg X.base CX k f fd ps sp)(hr:Room k X.A)(hg:Gl X x)(hm:X.mg x=some (.ref f))(hk:adK X.K (.ref f)=true)(hb:Binds X.K fd ps ds)(hd:Vals dvs ds)(hx:sg CX X E)
  (ha:PA X (e::es) t) (hdb:(x==("__debug__" : Str))=false:=by decide) (he:aan (e::es) X.env=(false,eval e X.env)::aan es X.env:=by rfl) (hpl:(acb pos (aan es X.env)).any (·.1)=false:=by rfl) :
  PE X (.Call (.Name x p) (e::es) [] pos) (Kl sp dvs E t):=by
 intro pins s σ H Q I h;refine aec (yM I hg hm ?_ hdb);refine PySem.W.callWith_K (h₀:=X.base) I.ok.mod.kin hk (thn (ha pos pins s σ H _ I h) fun us s1 ⟨vs,H1,I1,r,q⟩=>⟨I1.kIn,?_⟩) he hpl;exact JW F hr hb hd hx I1 r q
end
structure am(N P:List Str)(sc:Scope):Prop where
 kind:sc.kind = .function
 co:sc.isCoroutine=false
 gen:sc.isGenerator=false
 nd:N.Nodup
 pre:N.take P.length=P
 par:∀x∈P,sc.names.lookup x=some .local\/sc.names.lookup x=some .cell
 nofree:∀y∈sc.names,y.2≠.free
theorem n6{kindOf:Str->Option ae0}{x:Str}:∀{binds:List (Str×GE)}{m:Str->Option GE},(∀v,(x,v)∉binds)->bindL kindOf binds m x=m x
 |[],_,_=>rfl
 | (n,v)::r,m,h=>by
  unfold bindL;rw[n6 fun w hw=>h w (aaf _ hw)];split
  .have:x≠n:=by rintro rfl;exact h v aah
   simp[this]
  .rfl
theorem oQ{kindOf:Str->Option ae0}{x:Str}:∀{binds:List (Str×GE)}{m:Str->Option GE},(∀v,(x,v)∉binds)->bindC kindOf binds m x=m x
 |[],_,_=>rfl
 | (n,v)::r,m,h=>by
  unfold bindC;rw[oQ fun w hw=>h w (aaf _ hw)];split
  .rfl
  .have:x≠n:=by rintro rfl;exact h v aah
   simp[this]
theorem oy{kindOf:Str->Option ae0}{x:Str}{v:GE}:∀{P:List Str}{vs:List GE}{i:Nat}{m:Str->Option GE},P.Nodup->P[i]?=some x->vs[i]?=some v->kindOf x=some .local ->
  bindL kindOf (P.zip vs) m x=some v
 |[],_,_,_,_,h,_,_=>by simp at h
 |_::_,[],_,_,_,_,h,_=>by simp at h
 |p::P,w::vs,0,m,nd,h1,h2,hk=>by
  simp at h1 h2;subst h1;subst h2;show bindL kindOf ((p,w)::P.zip vs) m p=_;unfold bindL;rw[n6 fun v hv=>(abc.mp nd).1 (agy hv).1,if_pos hk];simp
 |p::P,w::vs,i+1,m,nd,h1,h2,hk=>by
  show bindL kindOf ((p,w)::P.zip vs) m x=_;unfold bindL;exact oy (i:=i) (abc.mp nd).2 (by simpa using h1) (by simpa using h2) hk
theorem p9{kindOf:Str->Option ae0}{x:Str}{v:GE}:∀{P:List Str}{vs:List GE}{i:Nat}{m:Str->Option GE},P.Nodup->P[i]?=some x->vs[i]?=some v->kindOf x≠some .local ->
  bindC kindOf (P.zip vs) m x=some v
 |[],_,_,_,_,h,_,_=>by simp at h
 |_::_,[],_,_,_,_,h,_=>by simp at h
 |p::P,w::vs,0,m,nd,h1,h2,hk=>by
  simp at h1 h2;subst h1;subst h2;show bindC kindOf ((p,w)::P.zip vs) m p=_;unfold bindC;rw[oQ fun v hv=>(abc.mp nd).1 (agy hv).1,if_neg hk];simp
 |p::P,w::vs,i+1,m,nd,h1,h2,hk=>by
  show bindC kindOf ((p,w)::P.zip vs) m x=_;unfold bindC;exact p9 (i:=i) (abc.mp nd).2 (by simpa using h1) (by simpa using h2) hk
def start(N:List Str)(vs:List V):St:=vs.map some++aax (N.length-vs.length) none
def cxOf(CX:CXT)(P:aaZ)(w:World)(K:aaj)(mg:Str->Option GE)(base:aa6)(N:List Str)(qual:Str)(scope:Scope)(f:Addr)(cd:GE)(A:abz)(outer:List Env)(s:aab)(H:Hp)(E:XK):Cx where
 prog:=P
 w:=w
 K:=K
 mg:=mg
 base:=base
 A:=A.deeper (afc qual scope s.heap.objs.size f cd)
 N:=N
 s₀:=s
 H₀:=H
 env:=afc qual scope s.heap.objs.size f cd
 outer:=outer
 stack:=afc qual scope s.heap.objs.size f cd::outer
 ex:=[]
 calm:=true
 fn:=fun _=>true
 pn:=[]
 xe:=fun e s'=>wpAny (model P w) (A.deeper (afc qual scope s.heap.objs.size f cd)) (leaving (afc qual scope s.heap.objs.size f cd) e) (fun _ s''=>CX outer H s E e s'') (fun e' s''=>CX outer H s E e' s'') s'
theorem t9{sc:Scope}{n:Nat}(h:sc.names.lookup x=some .cell):∃c,(cellsFrom n sc.names []).lookup x=some c:=by
 have q:=agj sc.names n [] (.inl h);exact afQ.mp q
theorem xR{CX:CXT}{base:aa6}{qual:Str}{f:Addr}{cd:GE}{outer:List Env}{s s1:aab}{E:XK}{vs:List V}
  (S:am N ps scope) (hd:A.handled=none) (e0:Env0 P w K mg base A outer s H) (hl:vs.length=ps.length) (r:Vals vs us)
  (x:InCallC s s.heap.objs.size (bindL (afc qual scope s.heap.objs.size f cd).kindOf (ps.zip us) fun _=>none) (cellsFrom (s.heap.objs.size+1) scope.names []) (bindC (afc qual scope s.heap.objs.size f cd).kindOf (ps.zip us) fun _=>none) s1) :
  Inv (cxOf CX P w K mg base N qual scope f cd A outer s H E) [] (start N vs) H s1:=by
 have hpl:ps.length≤N.length:=by have:=congrArg ae1 S.pre;rw[aaK]at this;omega
 obtain⟨h1,tk,rfl,hk⟩:=x.done;have noA:∀b:Addr,b∉(cxOf CX P w K mg base N qual scope f cd A outer s H E).ex:=fun b z=>absurd (show b∈([]:List Addr)from z) (by simp);refine⟨⟨e0.mod,S.kind,rfl,rfl,aac _,fun y z c h1 h2=>?_,fun y hy=>?_,fun y c _ h=>?_,fun _=>hd,abz.frames_deeper e0.frames,.inr ⟨rfl,rfl⟩,fun b z=>absurd z (noA b),e0.bs,e0.bsz,fun b _ _=>noA b,fun b z=>absurd z (noA b),e0.funs,e0.frf⟩,
  rfl,e0.bare,Un.kept hk,⟨_,x.toInCall.ns,fun i y v h1 h2 h3=>?_⟩,fun y c h=>⟨_,x.cell y c h⟩,e0.hok.fresh (aac _),fun y c h=>?_,fun p hp=>absurd (show p∈([]:List (Addr×Obj))from hp) (by simp),e0.hok.kept hk,?_⟩
 .exact name_of_addr x.apart (acI h1) (acI h2)
 .have hy:scope.names.lookup y=some .cell\/scope.names.lookup y=some .free:=hy;rcases hy with hy|hy
  .exact t9 hy
  .exact absurd rfl (S.nofree _ (acI hy))
 .exact adn (x.above y c (acI h))
 .have hi:i<vs.length:=by
   unfold start at h2
   by_cases hi:i<vs.length
   .exact hi
   .rw[aaJ (by simpa using hi)]at h2;rw[afZ]at h2
    split at h2<;>cases h2
  have ha:vs[i]?=some v:=by
   unfold start at h2;rw[aaO (by simpa using hi),aae]at h2
   cases e:vs[i]? with
   |none=>rw[e]at h2;cases h2
   |some a=>rw[e]at h2;cases h2;rfl
  obtain⟨u,hu,rv⟩:=r.get ha;have hp:ps[i]?=some y:=by
   rw[<-S.pre,List.getElem?_take_of_lt (by omega)];exact h1
  have ndP:ps.Nodup:=by rw[<-S.pre];exact S.nd.sublist (List.take_sublist _ _)
  refine⟨u,rv,?_⟩;rcases S.par y (OR hp)with k|k
  .exact .inl ⟨k,oy ndP hp hu k⟩
  .obtain⟨c,e⟩:=t9 (n:=s.heap.objs.size+1) k;refine .inr ⟨.inl k,c,e,?_⟩;have q:=x.cell y c e;rw[p9 ndP hp hu (by show scope.names.lookup y≠_;rw[k];decide)]at q;exact q
 .exact e0.hok.fresh (adn (x.above y c (acI h)))
 .unfold start;show _=N.length;rw[aat,Ge,acX];omega
theorem Ph{CX:CXT}{base:aa6}{k:Nat}{f:Addr}{name qual:Str}{params:Arguments}{dV kV doc pm cdv ct oc:GE}{an od:Option Addr}
  {osl:Array (Option GE)}{sp:Sp} (lk:K.lookup f=some ⟨oc,od,.func (adR name qual params body scope dV kV doc pm an cdv ct),osl⟩) (hcd:afv K cdv qual=true) (S:am N ps scope)
  (len:∀vs H Q E,sp vs H Q E->vs.length=ps.length)
  (hbody:∀(A:abz) (outer:List Env) (s:aab) (H:Hp) (vs:List V) (Q:VK) (E:XK),Room k (A.deeper (afc qual scope s.heap.objs.size f cdv))->sp vs H Q E ->
   ∃t,PSs (cxOf CX P w K mg base N qual scope f cdv A outer s H E) body t/\t {nx:=fun _ H'=>Q .non H',rt:=Q} (start N vs) H) :
  FnOk P w K mg base CX (k+1) f (adR name qual params body scope dV kV doc pm an cdv ct) ps sp:=by
 refine⟨len,fun A outer s H args us vs Q E hr e0 hb r hsp=>?_⟩;have hl:=len _ _ _ _ hsp;have KX:K.In s.heap:=e0.mod.kin.keeps fun b o e=>(e0.bs b o e).1;have lim:s.heap.NoLimit:=e0.mod.nolimit.keeps fun b o e=>(e0.bs b o e).1;have hkind:∀y∈ps.zip us,scope.names.lookup y.1=some .local\/(scope.names.lookup y.1=some .cell/\((cellsFrom (s.heap.objs.size+1) scope.names []).lookup y.1).isSome=true):=fun⟨n,v⟩ hy=>by
  rcases S.par n (agy hy).1 with q|q
  .exact .inl q
  .exact .inr ⟨q,agj _ _ _ (.inl q)⟩
 refine codeAny_call_function hr.depth (KX _ _ lk) rfl S.co S.gen rfl (PySem.W.codeRec_of KX hcd) (hb _ _ _ _ ?_);refine wpAny_newFunctionEnv_cells S.kind hkind fun env he s1 x=>?_;subst he;refine⟨lim.keeps x.toInCall.keep,codeAny_func ?_⟩;obtain⟨t,ht,hq⟩:=hbody A outer s H vs Q E (hr.deeper _) hsp;have I:Inv (cxOf CX P w K mg base N qual scope f cdv A outer s H E) [] (start N vs) H s1:=xR S hr.hd e0 hl r x;refine ac9 (ht [] s1 (start N vs) H _ I hq) (fun fl s' hs=>?_) fun e s' hs=>hs;have fin:∀{σ':St}{H':Hp}{v:V}{u:GE},Inv (cxOf CX P w K mg base N qual scope f cdv A outer s H E) [] σ' H' s'->RelV v u->Q v H'->CE outer P w H s Q u s' :=
  fun {σ' H' v u} J rv q=>⟨v,H',J.os,J.bare,J.base,J.hok,rv,q⟩
 cases fl with
 |ret u =>
  obtain⟨v,σ',H',J,rv,q⟩:=hs;exact fin J rv q
 |next =>
  obtain⟨σ',H',J,q⟩:=hs;exact fin (v:=V.non) (u:=agh) J rfl q
 |brk =>
  obtain⟨_,_,_,q⟩:=hs;exact adp q
 |cont =>
  obtain⟨_,_,_,q⟩:=hs;exact adp q
section
variable {X:Cx}{x:Str}{p pos:Pos}{e:Expr}{es:List Expr}{t:TA}{id T:String}{r:List V->Hp->VK->Prop}
def tCB(r:List V->Hp->VK->Prop)(t:TA):TE:=fun σ H Q=>t σ H fun vs H1=>r vs H1 Q
theorem za(hc:dj X (.builtin id) r)(hg:Gl X x)(hm:X.mg x=none)(hv:abh x=some (.builtin id))(ha:PA X (e::es) t)(hn:x ≠ "__name__" :=by decide)(hdb:(x==("__debug__" : Str))=false:=by decide)
  (he:aan (e::es) X.env=(false,eval e X.env)::aan es X.env:=by rfl) (hpl:(acb pos (aan es X.env)).any (·.1)=false:=by rfl):PE X (.Call (.Name x p) (e::es) [] pos) (tCB r t):=by
 intro pins s σ H Q I h;refine aec (kZ I hg hm hv ?_ hn hdb);exact aeJ (thn (ha pos pins s σ H _ I h) fun us s1 ⟨vs,H1,I1,r1,q1⟩=>hc pins s1 σ H1 vs us Q I1 r1 q1) he hpl
theorem vN(hc:dj X (.type T) r)(hg:Gl X x)(hm:X.mg x=none)(hv:abh x=some (.type T))(ha:PA X (e::es) t)(hn:x ≠ "__name__" :=by decide)(hdb:(x==("__debug__" : Str))=false:=by decide)
  (he:aan (e::es) X.env=(false,eval e X.env)::aan es X.env:=by rfl) (hpl:(acb pos (aan es X.env)).any (·.1)=false:=by rfl):PE X (.Call (.Name x p) (e::es) [] pos) (tCB r t):=by
 intro pins s σ H Q I h;refine aec (kZ I hg hm hv ?_ hn hdb);exact acN (thn (ha pos pins s σ H _ I h) fun us s1 ⟨vs,H1,I1,r1,q1⟩=>hc pins s1 σ H1 vs us Q I1 r1 q1) he hpl
end
end L2
namespace HT
open PySem PyProof.Rows
variable{Q:GE->aab->Prop}{hi lo:Option Int}
section
variable {prog:aaZ}{w:World}{A:abz}{E:GE->aab->Prop}{s:aab}
theorem cat_tup{t b:Addr}{vs ws:List GE}(ht:IsTup s.heap t vs.toArray)(hb:IsTup s.heap b ws.toArray)(hv:vs≠[])
  (h1:ws=[]->Q (.ref t) s) (h2:ws≠[]->Q (.ref s.heap.objs.size) {s with heap:=s.heap.push {cls:=.type "tuple",data:=.seq (vs++ws).toArray} })
  (hsz:vs.length+ws.length≤aam):wpAny (model prog w) A (acw .Add (.ref t) (.ref b)) Q E s:=by
 obtain⟨⟨cls,dd,data,sl⟩,ho,hc,n,hd⟩:=id ht;obtain⟨⟨cls2,dd2,data2,sl2⟩,ho2,hc2,n2,hd2⟩:=id hb;simp only at hc hd hc2 hd2;subst hc hd hc2 hd2;have e:vs.toArray++ws.toArray=(vs++ws).toArray:=by simp
 by_cases hw:ws=[]
 .exact agk ⟨_,ho,rfl⟩ ⟨_,ho2,rfl⟩ af0 ahf aep aeh (ad0 _ _)
   (tuple_addW1 t b vs.toArray ws.toArray n n2 dd dd2 sl sl2 (by simpa using hv) (by simp[hw])) ⟨ho,ho2,h1 hw⟩
 .refine agk ⟨_,ho,rfl⟩ ⟨_,ho2,rfl⟩ af0 ahf aep aeh (ad0 _ _)
   (tuple_addW2 t b vs.toArray ws.toArray n n2 dd dd2 sl sl2 (by simpa using hv) (by simpa using hw) (by rw[aap,aap];exact hsz)) ⟨ho,ho2,?_⟩
  rw[e];exact h2 hw
def sIx(n d:Nat):Option Int->Nat
 |none=>d
 |some v=>if v<0 then(v+(n:Int)).toNat else min v.toNat n
theorem sIx_none(n d:Nat):sIx n d none=d:=rfl
theorem sIx_nat(n d k:Nat):sIx n d (some (k:Int))=min k n:=by
 show(if (k:Int)<0 then((k:Int)+(n:Int)).toNat else min (k:Int).toNat n)=min k n;rw[if_neg (by omega),aaX]
theorem Lg(n d:Nat)(hd:d≤n)(o:Option Int):sIx n d o≤n:=by
 cases o with
 |none=>exact hd
 |some v =>
  show(if v<0 then(v+(n:Int)).toNat else min v.toNat n)≤n
  by_cases hv:v<0
  .rw[if_pos hv];omega
  .rw[if_neg hv];exact aeK _ _
theorem xI(v:Int)(n d:Nat):(if v<0 then max (v+(n:Int)) 0 else min v (n:Int))=((sIx n d (some v):Nat):Int):=by
 show(if v<0 then max (v+(n:Int)) 0 else min v (n:Int))=(((if v<0 then(v+(n:Int)).toNat else min v.toNat n):Nat):Int)
 by_cases hv:v<0
 .simp only[if_pos hv];omega
 .simp only[if_neg hv];omega
theorem ue(lo hi:Option Int)(n:Nat):adW lo hi 1 (n:Int)=(((sIx n 0 lo:Nat):Int),((sIx n n hi:Nat):Int)):=by
 have h1:¬((1:Int)<0):=by omega
 unfold adW;simp only[h1,if_false];refine Prod.ext ?_ ?_
 .cases lo with
  |none=>rfl
  |some v=>exact xI v n 0
 .cases hi with
  |none=>rfl
  |some v=>exact xI v n n
theorem ug(i j:Nat):ac0 (i:Int) (j:Int) 1=j-i:=by
 unfold ac0;have h1:(1:Int)>0:=by omega
 simp only[h1,if_true,Int.ediv_one]
 split<;>omega
theorem lm{v:GE}{o:Option Int}{Q:Option Int->aab->Prop}(p:agl v o)(h:Q o s):wpAny (model prog w) A (acM.Slice.slicePartIndex v) Q E s:=by
 cases p with
 |none=>exact slicePart_none h
 |int i t=>exact slicePart_int h
theorem fv{sl:Addr}{vl vu:GE}{n:Nat}{Q:Int×Int×Nat->aab->Prop}(hs:s.heap.IsSliceOf sl vl vu .none)(pl:agl vl lo)(pu:agl vu hi)
  (h:Q (((sIx n 0 lo:Nat):Int),1,sIx n n hi-sIx n 0 lo) s):wpAny (model prog w) A (afw (.ref sl) (pure (n:Int))) Q E s:=by
 obtain⟨os,hos,hcs,hds⟩:=id hs;unfold afw acM.Slice.sliceFields;refine gE (gE (abf hos hds (x:=vl) rfl (gE (abf hos hds (x:=vu) rfl (gE (abf hos hds (x:=.none) rfl (aaa ?_)))))));refine gE (slicePart_none ?_);show wpAny _ _ (if ((1:Int)==0)=true then _ else _) _ _ s;rw[if_neg (by decide)];refine gE (lm pl (gE (lm pu (gE (aaa ?_)))));show wpAny _ _ (match adW lo hi 1 (n:Int)with|(lo,hi)=>pure (lo,(1:Int),ac0 lo hi 1)) _ _ s;rw[ue lo hi n];show wpAny _ _ (pure (((sIx n 0 lo:Nat):Int),(1:Int),ac0 ((sIx n 0 lo:Nat):Int) ((sIx n n hi:Nat):Int) 1)) _ _ s;rw[ug];exact aaa h
theorem Bz(xs:Array GE)(i k:Nat):((aaI k).filterMap fun(m:Nat)=>xs[((i:Int)+(m:Int)*1).toNat]?).toArray=((xs.toList.drop i).take k).toArray:=by
 have e:(fun(m:Nat)=>xs[((i:Int)+(m:Int)*1).toNat]?)=fun m=>xs[i+m]?:=by
  funext m
  have:((i:Int)+(m:Int)*1).toNat=i+m:=by omega
  rw[this]
 rw[e];have:=pick_run xs i k;rw[List.filterMap_map]at this;have e2:((fun x=>xs[x]?)∘fun x=>i+x)=fun m=>xs[i+m]?:=rfl;rw[e2]at this;rw[this]
theorem getItem_tuple_cut{t sl:Addr}{items:Array GE}{vl vu:GE}(ht:IsTup s.heap t items)(hs:s.heap.IsSliceOf sl vl vu .none)(pl:agl vl lo)(pu:agl vu hi)
  (hw:¬(sIx items.size 0 lo=0/\sIx items.size items.size hi=items.size))
  (h:Q (.ref s.heap.objs.size) {s with heap:=s.heap.push {cls:=.type "tuple",data:=.seq ((items.toList.drop (sIx items.size 0 lo)).take (sIx items.size items.size hi-sIx items.size 0 lo)).toArray} })
  (hsz:items.size≤aam):wpAny (model prog w) A (aeU (.ref t) (.ref sl)) Q E s:=by
 have htake:sizeOk (.seq ((items.toList.drop (sIx items.size 0 lo)).take (sIx items.size items.size hi-sIx items.size 0 lo)).toArray):=by
  show((items.toList.drop (sIx items.size 0 lo)).take (sIx items.size items.size hi-sIx items.size 0 lo)).toArray.size≤aam;rw[aap,aaK,adT,abg];omega
 have hj:sIx items.size items.size hi≤items.size:=Lg _ _ (aac _) hi;obtain⟨os,hos,hcs,hds⟩:=id hs;have hTs:s.TypeIs (.ref sl) "slice" :=⟨os,hos,hcs⟩;unfold aeU
 try with_reducible refine abM ?_
 first|refine gE (aaa ?_)|skip
 refine gE (afK ht.typeIs (by decide) ?_);refine gE (aaP (name:=abI "__getitem__") ht.typeIs aby
  (aaT aby ht.typeIs entry_tuple_getitem ?_ (args_tuple_getitem _ _)))
 show wpAny _ _ (adL (.ref t) >>= _) _ _ s;refine gE (ahg ht ?_);refine gE (adq hTs ?_);rw[if_pos (by decide)];refine gE (fv hs pl pu ?_);have hno:¬((((sIx items.size 0 lo:Nat):Int)==0&&(1:Int)==1&&(sIx items.size items.size hi-sIx items.size 0 lo)==items.size)=true):=by
  intro q;rw[aaH,aaH]at q;have q1:((sIx items.size 0 lo:Nat):Int)=0:=afs q.1.1;have q2:sIx items.size items.size hi-sIx items.size 0 lo=items.size:=afs q.2;exact hw ⟨by omega,by omega⟩
 show wpAny _ _ (if (((sIx items.size 0 lo:Nat):Int)==0&&(1:Int)==1&&(sIx items.size items.size hi-sIx items.size 0 lo)==items.size)=true then _ else _) _ _ s;rw[if_neg hno,Bz]
 first
  |exact gE (m:=ab0 _) (aa5 (aaa ⟨_,rfl,aaa h⟩) htake)
  |exact gE (m:=ab0 _) (aa5 (gE (aaa (aaa ⟨_,rfl,aaa h⟩))) htake)
  |exact gE (gE (m:=ab0 _) (aa5 (aaa (aaa ⟨_,rfl,aaa h⟩)) htake))
  |exact gE (gE (m:=ab0 _) (aa5 (aaa ⟨_,rfl,aaa h⟩) htake))
end
end HT
namespace L2
open PySem PySem.Spec PyProof.Rows
variable{xs:List V}{n:Nat}{α:Type}{pins:List (Addr×Obj)}{σ:St}{H:Hp}{its its':List GE}
abbrev TO:=St->Hp->(Option Int->Hp->Prop)->Prop
def PO(X:Cx)(e:Option Expr)(t:TO):Prop :=
 ∀(pins:List (Addr×Obj)) (s:aab) (σ:St) (H:Hp) (Q:Option Int->Hp->Prop),Inv X pins σ H s->t σ H Q ->
  wpAny (model X.prog X.w) X.A (evalPart e X.env) (fun u s'=>∃o H',Inv X pins σ H' s'/\agl u o/\Q o H') X.xe s
def Dq:TO:=fun _ H Q=>Q none H
def Oo(t:TE):TO:=fun σ H Q=>t σ H fun x H1=>∃i,x = .int i/\Q (some i) H1
theorem ip{ns:List Int}:∀{us:List GE},Vals (ns.map V.int) us->afn us ns:=by
 induction ns with
 |nil=>intro us r;rw[abJ]at r;cases r;exact .nil
 | cons n ns ih =>
  intro us r;rw[aao]at r
  cases r with
  |cons r1 r2 =>
   obtain⟨t,e⟩:=r1;subst e;exact .cons n t (ih r2)
section
variable {X:Cx}{e:Expr}{te:TE}{lo hi:Option Expr}{tl th:TO}{pos p2:Pos}
theorem CN:PO X none Dq:=by
 intro pins s σ H Q I h;rw[evalPart_none];exact aaa ⟨none,H,I,.none,h⟩
theorem DF(h:PE X e te):PO X (some e) (Oo te):=by
 intro pins s σ H Q I hw;rw[evalPart_some];refine thn (h pins s σ H _ I hw) fun u s1 ⟨x,H1,I1,r1,q1⟩=>?_;obtain⟨i,rfl,q⟩:=q1;obtain⟨t,rfl⟩:=r1;exact⟨some i,H1,I1,.int i t,q⟩
def SlR(X:Cx)(r:V->Option Int->Option Int->Hp->VK->Prop):Prop :=
 ∀(pins:List (Addr×Obj)) (s:aab) (σ:St) (H:Hp) (x:V) (v vl vu:GE) (lo hi:Option Int) (sl:Addr) (Q:VK),Inv X pins σ H s->RelV x v->s.heap.IsSliceOf sl vl vu .none->agl vl lo->agl vu hi->r x lo hi H Q ->
  ∃T id,aho (.type T) "__getitem__" = pure (some (.builtin id))/\s.TypeIs v T/\wpAny (model X.prog X.w) X.A (aeU v (.ref sl)) (EP X pins σ Q) X.xe s
def tSl(r:V->Option Int->Option Int->Hp->VK->Prop)(te:TE)(tl th:TO):TE:=fun σ H Q=>te σ H fun x H1=>tl σ H1 fun l H2=>th σ H2 fun u H3=>r x l u H3 Q
theorem Ay{r:V->Option Int->Option Int->Hp->VK->Prop}(hr:SlR X r)(he:PE X e te)(hl:PO X lo tl)(hu:PO X hi th):PE X (.Subscript e (.Slice lo hi none p2) pos) (tSl r te tl th):=by
 intro pins s σ H Q I h;refine Subscript_ (thn (he pins s σ H _ I h) fun v s1 ⟨x,H1,I1,r1,q1⟩=>?_);refine wpAny_Slice (thn (hl pins s1 σ H1 _ I1 q1) fun vl s2 ⟨l,H2,I2,pl,q2⟩=>thn (hu pins s2 σ H2 _ I2 q2) fun vu s3 ⟨u,H3,I3,pu,q3⟩=>?_);rw[evalPart_none];refine aaa ?_;have I4:Inv X pins σ H3 {s3 with heap:=s3.heap.push {cls:=.type "slice",data:=.fields #[vl,vu,.none]} }:=I3.kept (t':=s3.toks) fun b ob q=>Io _ q;obtain⟨T,id,hT,ht,hg⟩:=hr pins {s3 with heap:=s3.heap.push {cls:=.type "slice",data:=.fields #[vl,vu,.none]} } σ H3 x v vl vu l u s3.heap.objs.size Q I4 r1 (aa6.IsSliceOf.new ..) pl pu q3;show wpAny (model X.prog X.w) X.A (ahh e (.Slice lo hi none p2) v (.ref s3.heap.objs.size)) (EP X pins σ Q) X.xe {s3 with heap:=s3.heap.push {cls:=.type "slice",data:=.fields #[vl,vu,.none]} };exact tail_any (ops:=[.ref s3.heap.objs.size,v]) ht hT hg (by with_unfolding_all rfl)
def cutV(xs:List V)(lo hi:Option Int):List V:=(xs.drop (HT.sIx xs.length 0 lo)).take (HT.sIx xs.length xs.length hi-HT.sIx xs.length 0 lo)
theorem kl(xs:List V)(lo hi:Option Int):(cutV xs lo hi).length≤xs.length:=by
 unfold cutV;rw[aaK,adT];omega
def rSlT(K:aaj):V->Option Int->Option Int->Hp->VK->Prop:=fun x lo hi H Q=>∃a xs,x = .ref a/\SqT K H a xs /\
 ¬(HT.sIx xs.length 0 lo=0/\HT.sIx xs.length xs.length hi=xs.length)/\∀p,H p=none->Q (.ref p) (upd H p (.tup (cutV xs lo hi)))
theorem KL:SlR X (rSlT X.K):=by
 intro pins s σ H x v vl vu lo hi sl Q I rx hs pl pu h;obtain⟨a,xs,rfl,hx,hw,q⟩:=h;cases rx;obtain⟨its,r,ht,hz⟩:=I.tuple hx;have hlen:its.toArray.size=xs.length:=by rw[aap];exact r.length.symm
 refine⟨"tuple",_,aby.lookup,ht.typeIs,?_⟩;refine HT.getItem_tuple_cut ht hs pl pu (by rw[hlen];exact hw) ?_ (by rw[hlen];exact hz);rw[hlen];refine⟨.ref s.heap.objs.size,_,I.laid (t':=s.toks) (o:=.tup (cutV xs lo hi)) (fun b ob q=>Io _ q) (aac _) ?_,rfl,q _ (I.hok.fresh (aac _))⟩;exact⟨aaF (kl xs lo hi) hz,_,(r.drop (HT.sIx xs.length 0 lo)).take (HT.sIx xs.length xs.length hi-HT.sIx xs.length 0 lo),PlainT.new _ _⟩
def O8(K:aaj):R2:=fun x y H Q=>∃a b xs ys,x = .ref a/\y = .ref b/\SqT K H a xs/\SqT K H b ys/\xs≠[]/\xs.length+ys.length≤aam /\
 (ys=[]->Q (.ref a) H)/\(ys≠[]->∀p,H p=none->Q (.ref p) (upd H p (.tup (xs++ys))))
theorem Vals.nil_iff{us:List GE}(r:Vals xs us):us=[]↔xs=[]:=by
 cases r with
 |nil=>simp
 |cons _ _=>simp
theorem DT:OpR X (acw .Add) (O8 X.K):=by
 intro pins s σ H x y v u Q I rx ry h;obtain⟨a,b,xs,ys,rfl,rfl,ha,hb,hx,hz,q1,q2⟩:=h;cases rx;cases ry;obtain⟨its,r1,p1,_⟩:=I.tuple ha;obtain⟨its2,r2,p2,_⟩:=I.tuple hb;refine HT.cat_tup p1 p2 (fun z=>hx (r1.nil_iff.mp z)) (fun z=>⟨.ref a,H,I,rfl,q1 (r2.nil_iff.mp z)⟩) (fun z=>?_) (by rw[<-r1.length,<-r2.length];exact hz);refine⟨.ref s.heap.objs.size,_,I.laid (t':=s.toks) (o:=.tup (xs++ys)) (fun b ob q=>Io _ q) (aac _) ?_,rfl,q2 (fun w=>z (r2.nil_iff.mpr w)) _ (I.hok.fresh (aac _))⟩;exact⟨by rw[aat];exact hz,_,r1.append r2,PlainT.new _ _⟩
end
def ixN(n:Nat)(i:Int):Option Nat:=if 0≤i then(if i<n then some i.toNat else none)else if -(n:Int)≤i then some (i+n).toNat else none
def atI{α:Type}(xs:List α)(i:Int):Option α:=(ixN xs.length i).bind fun j=>xs[j]?
theorem u6{i:Int}{j:Nat}(h:ixN n i=some j):seqIndex? i n=some j/\j<n/\-(n:Int)≤i/\i<n:=by
 unfold ixN at h
 by_cases h0:0≤i
 .rw[if_pos h0]at h
  by_cases h1:i<n
  .rw[if_pos h1]at h;have e:i.toNat=j:=aai h;exact⟨by rw[seqIndex_of h0 h1,e],by omega,by omega,h1⟩
  .rw[if_neg h1]at h;cases h
 .rw[if_neg h0]at h
  by_cases h1 : -(n:Int)≤i
  .rw[if_pos h1]at h;have e:(i+n).toNat=j:=aai h;exact⟨by rw[ahA (by omega) h1,e],by omega,h1,by omega⟩
  .rw[if_neg h1]at h;cases h
theorem rj{xs:List α}{i:Int}{v:α}(h:atI xs i=some v):∃j,seqIndex? i xs.length=some j/\xs[j]?=some v/\j<xs.length/\-(xs.length:Int)≤i/\i<xs.length:=by
 unfold atI at h
 cases e:ixN xs.length i with
 |none=>rw[e]at h;cases h
 |some j =>
  rw[e]at h;obtain⟨h1,h2,h3,h4⟩:=u6 e;exact⟨j,h1,h,h2,h3,h4⟩
theorem aA{xs:List α}{j:Nat}{v:α}(h:xs[j]?=some v):atI xs (j:Int)=some v:=by
 have hj:j<xs.length:=(aad.mp h).1;have e:ixN xs.length (j:Int)=some j:=by
  unfold ixN;rw[if_pos (by omega),if_pos (by omega)];simp
 unfold atI;rw[e];exact h
def qe(b:Expr):Prop:=∀o i,agL b false o i=operate [o,i] (aeU o i)
def IxR(X:Cx)(r:R2):Prop :=
 ∀(value slice:Expr) (pins:List (Addr×Obj)) (s:aab) (σ:St) (H:Hp) (x y:V) (v u:GE) (Q:VK),Inv X pins σ H s->RelV x v->RelV y u->r x y H Q ->
  agL slice false v u=operate [v,u] (aeU v u)->wpAny (model X.prog X.w) X.A (ahh value slice v u) (EP X pins σ Q) X.xe s
def MtR(X:Cx)(id:String)(r:V->List V->Hp->VK->Prop):Prop :=
 ∀(pins:List (Addr×Obj)) (s:aab) (σ:St) (H:Hp) (x:V) (xs:List V) (v:GE) (us:List GE) (Q:VK),Inv X pins σ H s->RelV x v->Vals xs us->r x xs H Q ->
  wpAny (model X.prog X.w) X.A (call (.builtin id) (v::us)) (EP X pins σ Q) X.xe s
section
variable {X:Cx}{a b:Expr}{ta tb:TE}{pos:Pos}
theorem OX{r:R2}(hr:IxR X r)(ha:PE X a ta)(hb:PE X b tb)(hs:qe b):PE X (.Subscript a b pos) (tOp r ta tb):=by
 intro pins s σ H Q I h;exact Subscript_ (binT ha hb I h fun v u s2 x y H2 I2 rx ry q=>hr a b pins s2 σ H2 x y v u Q I2 rx ry q (hs _ _))
def rIxL(K:aaj):R2:=fun x y H Q=>∃p xs i v,x = .ref p/\y = .int i/\SqL K H p xs/\atI xs i=some v/\Q v H
def rIxT(K:aaj):R2:=fun x y H Q=>∃p xs i v,x = .ref p/\y = .int i/\SqT K H p xs/\atI xs i=some v/\Q v H
def rIxS:R2:=fun x y H Q=>∃z i c,x = .str z/\y = .int i/\z.length≤aam/\atI z.cps.toList i=some c/\Q (.str ⟨#[c]⟩) H
theorem GQ:IxR X (rIxL X.K):=by
 intro value slice pins s σ H x y v u Q I rx ry h hs;obtain⟨p,xs,i,z,rfl,rfl,hq,he,q⟩:=h;cases rx;obtain⟨t,rfl⟩:=ry;obtain⟨its,r,pl,hz⟩:=I.list hq;obtain⟨j,h1,h2,h3,h4,h5⟩:=rj he;obtain⟨w,ew,rw'⟩:=r.get h2;have hl:=r.length;have hn:=ll;have fin:EP X pins σ Q w s:=⟨z,H,I,rw',q⟩
 by_cases h0:0≤i
 .have hj:i.toNat=j:=by
   rw[seqIndex_of h0 h5]at h1;exact aai h1
  exact item_listR pl.isList h0 (by omega) (by rw[hj];simpa using ew) fin hs
 .have hj:(i+(its.toArray.size:Int)).toNat=j:=by
   rw[ahA (by omega) h4]at h1;rw[aap,<-hl];exact aai h1
  exact agm (x:=w) pl.isList.typeIs slot_list_getitem.lookup
   (wpAny_getItem_list_neg (Q:=fun r s'=>r=w/\EP X pins σ Q r s') pl.isList (by omega) (by rw[aap]<;>omega) (by omega) (by rw[hj];simpa using ew) ⟨rfl,fin⟩) hs
theorem L5:IxR X (rIxT X.K):=by
 intro value slice pins s σ H x y v u Q I rx ry h hs;obtain⟨p,xs,i,z,rfl,rfl,hq,he,q⟩:=h;cases rx;obtain⟨t,rfl⟩:=ry;obtain⟨its,r,pl,hz⟩:=I.tuple hq;obtain⟨j,h1,h2,h3,h4,h5⟩:=rj he;obtain⟨w,ew,rw'⟩:=r.get h2;have hl:=r.length;have hn:=ll;have fin:EP X pins σ Q w s:=⟨z,H,I,rw',q⟩;exact agm (x:=w) pl.typeIs slot_tuple_getitem.lookup
  (getItem_tuple (j:=j) (Q:=fun r s'=>r=w/\EP X pins σ Q r s') pl (by omega) (by omega) (by rw[aap,<-hl];exact h1) (by simpa using ew) ⟨rfl,fin⟩) hs
theorem Jw:IxR X rIxS:=by
 intro value slice pins s σ H x y v u Q I rx ry h hs;obtain⟨z,i,c,rfl,rfl,hz,he,q⟩:=h;obtain⟨t,rfl⟩:=rx;obtain⟨t',rfl⟩:=ry;obtain⟨j,h1,h2,h3,h4,h5⟩:=rj he;have hl:z.cps.toList.length=z.length:=by simp[Str.length]
 rw[hl]at h1 h4 h5;have hn:=ll;exact tail_any (typeIs_str s z t) slot_str_getitem.lookup (getItem_str (c:=c) (by
  have e1:decide (i < -(2^63:Int))=false:=decide_eq_false (by omega);have e2:decide (i≥2^63)=false:=decide_eq_false (by omega);rw[e1,e2,Bool.or_false]) (by rw[h1];simpa using h2) ⟨.str ⟨#[c]⟩,H,I.tok _,⟨_,rfl⟩,q⟩) hs
theorem uj(its:List GE)(n j:Nat)(u:GE):acd (·.setIfInBounds j u) {cls:=.type "list",data:=.seq its.toArray n}={cls:=.type "list",data:=.seq (its.set j u).toArray n}:=by
 simp[acd]
theorem Inv.lst{s:aab}{p:Addr}(I:Inv X pins σ H s)(h:H p=some (.lst xs)) :
  ∃(its:List GE) (n:Nat),Vals xs its/\s.heap.get? p=some {cls:=.type "list",data:=.seq its.toArray n}/\xs.length≤aam:=by
 obtain⟨z,its,n,r,e⟩:=I.hok p _ h;exact⟨its,n,r,e,z⟩
theorem Inv.lstUpd{s:aab}{p:Addr}{ys:List V}{n':Nat}{f:Obj->Obj}(I:Inv X pins σ H s)(h:H p=some (.lst xs))
  (ho:s.heap.get? p=some {cls:=.type "list",data:=.seq its.toArray n}) (hf:f {cls:=.type "list",data:=.seq its.toArray n}={cls:=.type "list",data:=.seq its'.toArray n' }) (r:Vals ys its') (hz:ys.length≤aam) (t:Nat) :
  Inv X pins σ (upd H p (.lst ys)) {s with heap:=s.heap.update p f,toks:=t}:=by
 have e:(s.heap.update p f).get? p=some {cls:=.type "list",data:=.seq its'.toArray n' }:=by
  rw[acY f ho (by rw[hf]<;>rfl),hf]
 refine I.write (x:=p) (e:=p) (by rw[h];trivial) (.inl rfl) (fun b u hb q=>(acO _ _ (abt hb)).trans q) ⟨_,e⟩ ?_;exact⟨hz,its',n',r,e⟩
def OG:V->V->V->Hp->(Hp->Prop)->Prop:=fun o i v H Q=>∃p xs k j,o = .ref p/\i = .int k/\H p=some (.lst xs)/\ixN xs.length k=some j/\Q (upd H p (.lst (xs.set j v)))
theorem zt:PSet X OG:=by
 intro pins s σ H o i v ov iv u Q I ro ri rv h;obtain⟨p,xs,k,j,rfl,rfl,hp,hj,q⟩:=h;cases ro;obtain⟨t,rfl⟩:=ri;obtain⟨its,n,r,ho,hz⟩:=I.lst hp;obtain⟨h1,h2,h3,h4⟩:=u6 hj;have hl:=r.length;have hn:=ll;have I':Inv X pins σ (upd H p (.lst (xs.set j v))) {s with heap:=s.heap.update p (acd (·.setIfInBounds j u))} :=
  I.lstUpd hp ho (uj its n j u) (r.set rv j) (by rw[abo];exact hz) s.toks
 by_cases h0:0≤k
 .have hk:k.toNat=j:=by
   rw[seqIndex_of h0 h4]at h1;exact aai h1
  exact PySem.W.ki_setAt ho h0 (by omega) (by rw[aap,<-hl];exact h4) (by rw[hk];exact⟨_,I',q⟩)
 .have hk:(k+(its.toArray.size:Int)).toNat=j:=by
   rw[ahA (by omega) h3]at h1;rw[aap,<-hl];exact aai h1
  exact PySem.W.ki_setBack ho (by omega) (by rw[aap,<-hl];exact h3) (by omega) (by rw[hk];exact⟨_,I',q⟩)
theorem o5(lo hi:Option Int)(n:Nat):(aei lo hi none n).1=((HT.sIx n 0 lo:Nat):Int)/\(aei lo hi none n).2.1=((HT.sIx n n hi:Nat):Int)/\(aei lo hi none n).2.2=1:=by
 refine⟨?_,?_,rfl⟩
 .cases lo with
  |none=>simp[aei,HT.sIx]
  |some i =>
   simp only[aei,HT.sIx,af1,show(1:Int)>0 by decide,if_true]
   by_cases h:i<0
   .simp only[h,if_true]<;>omega
   .simp only[h,if_false]<;>omega
 .cases hi with
  |none=>simp[aei,HT.sIx]
  |some i =>
   simp only[aei,HT.sIx,af1,show(1:Int)>0 by decide,if_true]
   by_cases h:i<0
   .simp only[h,if_true]<;>omega
   .simp only[h,if_false]<;>omega
theorem nk(its:List GE)(lo hi:Option Int):slicePick its.toArray lo hi none=((its.drop (HT.sIx its.length 0 lo)).take (HT.sIx its.length its.length hi-HT.sIx its.length 0 lo)).toArray:=by
 obtain⟨h1,h2,h3⟩:=o5 lo hi its.toArray.size;unfold slicePick;rw[h1,h2,h3];simp only[sliceRange_one,pick_run,aap]<;>rfl
def rSlL(K:aaj):V->Option Int->Option Int->Hp->VK->Prop:=fun x lo hi H Q=>∃a xs,x = .ref a/\SqL K H a xs/\∀p,H p=none->Q (.ref p) (upd H p (.lst (cutV xs lo hi)))
theorem FX:SlR X (rSlL X.K):=by
 intro pins s σ H x v vl vu lo hi sl Q I rx hs pl pu h;obtain⟨a,xs,rfl,hx,q⟩:=h;cases rx;obtain⟨its,r,ht,hz⟩:=I.list hx;have hlen:=r.length;refine⟨"list",_,slot_list_getitem.lookup,ht.isList.typeIs,?_⟩;refine wpAny_getItem_list_slice ht.isList hs pl pu .none (by simp) ?_ (by rw[aap]<;>omega);rw[nk,<-hlen];refine⟨.ref s.heap.objs.size,_,I.laid (t':=s.toks) (o:=.lst (cutV xs lo hi)) (fun b ob q=>Io _ q) (aac _) ?_,rfl,q _ (I.hok.fresh (aac _))⟩;exact⟨aaF (kl xs lo hi) hz,_,0,(r.drop (HT.sIx xs.length 0 lo)).take (HT.sIx xs.length xs.length hi-HT.sIx xs.length 0 lo),aal _ rfl⟩
theorem i6:dj X (.builtin "len") (fun xs H Q=>∃p ys,xs=[.ref p]/\(SqL X.K H p ys\/SqT X.K H p ys)/\Q (.int ys.length) H):=by
 intro pins s σ H xs us Q I r h;obtain⟨p,ys,rfl,hq,q⟩:=h;obtain⟨u,rfl,rx⟩:=uG r;cases rx;have hn:=ll;rcases hq with hq|hq
 .obtain⟨its,r',pl,hz⟩:=I.list hq;have hlen:=r'.length;exact Calls.call_len_list pl.isList (by simp only[aap]<;>omega) ⟨.int ys.length,H,I.tok _,⟨s.toks+1,by rw[aap,hlen]⟩,q⟩
 .obtain⟨its,r',pl,hz⟩:=I.tuple hq;have hlen:=r'.length;exact len_tuple pl (by simp only[aap]<;>omega) ⟨.int ys.length,H,I.tok _,⟨s.toks+1,by rw[aap,hlen]⟩,q⟩
theorem ol:dj X (.builtin "len") (fun xs H Q=>∃z,xs=[.str z]/\z.length≤aam/\Q (.int z.length) H):=by
 intro pins s σ H xs us Q I r h;obtain⟨z,rfl,hz,q⟩:=h;obtain⟨u,rfl,t,rfl⟩:=uG r;have hn:=ll;exact len_str (by omega) ⟨.int z.length,H,I.tok _,⟨_,rfl⟩,q⟩
theorem lU:dj X (.type "tuple") (fun xs H Q=>∃p ys,xs=[.ref p]/\((SqL X.K H p ys/\∀l,H l=none->Q (.ref l) (upd H l (.tup ys)))\/(SqT X.K H p ys/\Q (.ref p) H))):=by
 intro pins s σ H xs us Q I r h;obtain⟨p,ys,rfl,h⟩:=h;obtain⟨u,rfl,rx⟩:=uG r;cases rx;rcases h with⟨hq,q⟩|⟨hq,q⟩
 .obtain⟨its,r',pl,hz⟩:=I.list hq;have hlen:=r'.length;refine call_tuple_list pl.isList (fun h' kp=>?_) (by simp only[aap]<;>omega);have I1:Inv X pins σ H {s with heap:=h' }:=I.kept (t':=s.toks) kp;have I2:Inv X pins σ (upd H h'.objs.size (.tup ys)) {s with heap:=h'.push {cls:=.type "tuple",data:=.seq its.toArray} } :=
   I1.laid (t':=s.toks) (fun b o e=>Io _ e) (aac _) (show ObjOk X.prog X.w _ _ _ (.tup ys)from⟨hz,its,r',PlainT.new _ _⟩)
  exact⟨.ref h'.objs.size,_,I2,rfl,q _ (I1.hok.fresh (aac _))⟩
 .obtain⟨its,r',pl,hz⟩:=I.tuple hq;exact call_tuple_same pl ⟨.ref p,H,I,rfl,q⟩
def tyV(K:aaj)(T:String)(x:V)(H:Hp):Prop:=match x with
 | .str _=>T = "str"
 | .int _=>T = "int"
 | .ref p=>(T = "list" /\ ∃xs,SqL K H p xs)\/(T = "tuple" /\ ∃xs,SqT K H p xs) \/
   (T = "dict" /\ ((∃kvs,H p=some (.dK kvs))\/∃kvs,H p=some (.dT kvs)))\/(T = "set" /\ ∃S n,H p=some (.set S n))
 |_=>False
theorem JR{s:aab}{T:String}{x:V}{v:GE}(I:Inv X pins σ H s)(r:RelV x v)(ty:tyV X.K T x H) :
  s.TypeIs v T/\∀a,v = .ref a->∃ob,s.heap.get? a=some ob/\ob.dict=none:=by
 cases x with
 |str z =>
  obtain⟨t,rfl⟩:=r
  cases (show T = "str" from ty)
  exact⟨typeIs_str s z t,fun _ e=>nomatch e⟩
 |int i =>
  obtain⟨t,rfl⟩:=r
  cases (show T = "int" from ty)
  exact⟨agn s i t,fun _ e=>nomatch e⟩
 | ref p =>
  cases r;rcases ty with⟨rfl,xs,hq⟩|⟨rfl,xs,hq⟩|⟨rfl,hk⟩|⟨rfl,S,n,hk⟩
  .obtain⟨its,_,pl,_⟩:=I.list hq;refine⟨pl.isList.typeIs,fun a e=>?_⟩;cases e;obtain⟨o,n,e,c,hd,_⟩:=pl;exact⟨o,e,hd⟩
  .obtain⟨its,_,⟨o,e0,hc,hd,_⟩,_⟩:=I.tupleP hq;refine⟨⟨o,e0,hc⟩,fun a e=>?_⟩;cases e;exact⟨o,e0,hd⟩
  .have z:∃o,s.heap.get? p=some o/\o.ExactDict:=by
    rcases hk with⟨kvs,hk⟩|⟨kvs,hk⟩
    .obtain⟨_,_,_,_,o,_,_,e,ex,_⟩:=I.hok p _ hk;exact⟨o,e,ex⟩
    .obtain⟨_,_,_,_,o,_,_,e,ex,_⟩:=I.hok p _ hk;exact⟨o,e,ex⟩
   obtain⟨o,e,ex⟩:=z;refine⟨⟨o,e,ex.1⟩,fun a e2=>?_⟩;cases e2;exact⟨o,e,ex.2.1⟩
  .obtain⟨o,_,_,_,e,ex,_⟩:=I.hok p _ hk;refine⟨⟨o,e,ex.1⟩,fun a e2=>?_⟩;cases e2;exact⟨o,e,ex.2.1⟩
 |_=>exact adp ty
def tBM(K:aaj)(T:String)(r:V->List V->Hp->VK->Prop)(to:TE)(t:TA):TE:=fun σ H Q=>to σ H fun x H1=>tyV K T x H1/\t σ H1 fun xs H2=>r x xs H2 Q
variable {o e:Expr}{es:List Expr}{to:TE}{t:TA}{name:Str}{apos cpos:Pos}{T id:String}{r:V->List V->Hp->VK->Prop}
theorem JM(pa:PlainAttrs T)(slot:Slot T name id)(hty:typeOf (.builtin id)=pure (.type "method_descriptor"))(hm:MtR X id r)(ho:PE X o to)(ha:PA X (e::es) t)
  (hbase:abD o name X.env (eval o X.env)=eval o X.env:=by rfl)
  (hfew:((acb cpos (aan (e::es) X.env)).all (fun x=>!x.1)&&(afx cpos (adM [] X.env)).all (fun x=>x.1.isSome)
   && decide ((e::es).length+([]:List adr).length+(if ([]:List adr).isEmpty then 0 else 1)<30))=true:=by rfl)
  (hline:(apos.endLine==cpos.line)=true:=by rfl) (hs:aan (e::es) X.env=(false,eval e X.env)::aan es X.env:=by rfl) (hplain:(acb cpos (aan es X.env)).any (·.1)=false:=by rfl) :
  PE X (.Call (.Attribute o name apos) (e::es) [] cpos) (tBM X.K T r to t):=by
 intro pins s σ H Q I h;refine ago hbase hfew hline rfl (thn (ho pins s σ H _ I h) fun v s1 ⟨x,H1,I1,r1,ty,q1⟩=>?_);obtain⟨h1,h2⟩:=JR I1 r1 ty;refine⟨T,id,pa,slot,hty,h1,h2,?_⟩;have hA:=ha cpos pins s1 σ H1 _ I1 q1;rw[hs]at hA⊢;refine adt (by show(false||(acb cpos (aan es X.env)).any (·.1))=false;rw[hplain]<;>rfl) (agM ?_);exact thn hA fun us s2 ⟨vs,H2,I2,r2,q2⟩=>hm pins s2 σ H2 x vs v us Q I2 r1 r2 q2
end
def MtM(X:Cx)(id:String)(r:V->List V->Hp->VK->Prop):Prop :=
 ∀(pins:List (Addr×Obj)) (s:aab) (σ:St) (H:Hp) (x:V) (xs:List V) (v:GE) (us:List GE) (Q:VK),Inv X pins σ H s->RelV x v->Vals xs us->r x xs H Q ->
  wpAny (model X.prog X.w) X.A (call (.builtin id) (v::us)) (EP X pins σ Q) X.xe s
theorem Vals.one:∀{x:V}{us:List GE},Vals [x] us->∃u,us=[u]/\RelV x u
 |_,_,.cons r .nil=>⟨_,rfl,r⟩
theorem Vals.rep{xs:List V}{us:List GE}(h:Vals xs us):∀k:Nat,Vals (aax k xs).flatten (aax k us).flatten
 |0=>.nil
 |k+1=>by
  rw[abr,abr,acA,acA];exact Vals.append h (Vals.rep h k)
theorem j4(its:List GE):∀(k:Nat) (acc:List GE),
  aeL (fun x1 x2=>x1++x2) acc.toArray (aax k its.toArray)=(acc++(aax k its).flatten).toArray
 |0,acc=>by simp
 | k+1,acc=>by
  have e:acc.toArray++its.toArray=(acc++its).toArray:=by simp
  have e2:(acc++its)++(aax k its).flatten=acc++(aax (k+1) its).flatten:=by
   rw[abr,acA,acB]
  rw[<-e2,<-j4 its k (acc++its),<-e,abr,adB]
section
variable {X:Cx}{pins:List (Addr×Obj)}{σ:St}{H:Hp}{s:aab}{l b:Addr}{xs ys zs:List V}
theorem Inv.lset{f:Array GE->Array GE}{t':Nat}(I:Inv X pins σ H s)(hH:H l=some (.lst xs))
  (e:s.heap.get? l=some {cls:=.type "list",data:=.seq its.toArray n}) (hf:f its.toArray=its'.toArray) (hv:Vals ys its') (hz:ys.length≤aam) :
  Inv X pins σ (upd H l (.lst ys)) {s with heap:=s.heap.update l (acd f),toks:=t' }:=by
 have q:=PySem.IsL.update e f;rw[hf]at q;refine I.write (x:=l) (e:=l) (by rw[hH];exact trivial) (.inl rfl) (fun b' u hb hu=>(acO s.heap (acd f) (abt hb)).trans hu) ⟨_,q⟩ ?_;exact⟨hz,its',_,hv,q⟩
theorem Inv.lnew{t':Nat}(I:Inv X pins σ H s)(hv:Vals ys its)(hz:ys.length≤aam) :
  Inv X pins σ (upd H s.heap.objs.size (.lst ys)) {s with heap:=s.heap.push {cls:=.type "list",data:=.seq its.toArray},toks:=t' } :=
 I.laid (fun _ _ q=>Io _ q) (aac _) ⟨hz,its,0,hv,aal _ rfl⟩
theorem Inv.fresh(I:Inv X pins σ H s):H s.heap.objs.size=none:=I.hok.fresh (aac _)
theorem Inv.lstM(I:Inv X pins σ H s)(hH:H l=some (.lst xs)):xs.length≤aam/\∃(its:List GE) (n:Nat),Vals xs its/\xs.length=its.length/\s.heap.get? l=some {cls:=.type "list",data:=.seq its.toArray n}:=by
 obtain⟨z,its,n,r,e⟩:=I.hok l _ hH;exact⟨z,its,n,r,r.length,e⟩
theorem uc(h:n≤aam):adf n=false:=by
 unfold adf;exact decide_eq_false (by omega)
end
section
variable {X:Cx}
def Gn:V->List V->Hp->VK->Prop:=fun x vs H Q=>∃l xs y,x = .ref l/\vs=[y]/\H l=some (.lst xs)/\xs.length<aam/\Q .non (upd H l (.lst (xs++[y])))
theorem om:MtM X "list.append" Gn:=by
 intro pins s σ H x vs v us Q I rx rv h;obtain⟨l,xs,y,rfl,rfl,hH,hz,q⟩:=h;cases rx;obtain⟨u,rfl,ru⟩:=rv.one;obtain⟨z,its,n,r,hl,e⟩:=I.lstM hH;refine aed F.slot_list_append ⟨_,e,rfl⟩ F.entry_list_append (F.args_list_append_2 _ _) (PySem.list_append l its.toArray n u (by rw[aap];omega)) ⟨e,?_⟩;refine⟨.non,_,I.lset (its':=its++[u]) hH e (by simp) (r.append (.cons ru .nil)) ?_,rfl,q⟩;rw[aat,aeE];omega
def Gv:V->List V->Hp->VK->Prop:=fun x vs H Q=>∃l b xs zs,x = .ref l/\vs=[.ref b]/\H l=some (.lst xs)/\H b=some (.lst zs)/\xs.length+zs.length≤aam/\Q .non (upd H l (.lst (xs++zs)))
theorem yO:MtM X "list.extend" Gv:=by
 intro pins s σ H x vs v us Q I rx rv h;obtain⟨l,b,xs,zs,rfl,rfl,hH,hB,hz,q⟩:=h;cases rx;obtain⟨u,rfl,ru⟩:=rv.one;cases ru;obtain⟨z,its,n,r,hl,e⟩:=I.lstM hH;obtain⟨z2,its2,n2,r2,hl2,e2⟩:=I.lstM hB;have hsz:its.toArray.size+its2.toArray.size≤aam:=by rw[aap,aap];omega
 have hlong:¬(!its.toArray.isEmpty&&adf (its.toArray.size+its2.toArray.size))=true:=by
  rw[uc hsz,Bool.and_false];exact aay
 refine aed F.slot_list_extend ⟨_,e,rfl⟩ F.entry_list_extend (F.args_list_extend_2 _ _)
  (AutoSeq1.list_extend_list_list_0 l its.toArray n b its2.toArray n2 hlong (by rw[aap];omega) (by omega)) ⟨e,e2,?_⟩
 refine⟨.non,_,I.lset (its':=its++its2) hH e (by simp) (r.append r2) ?_,rfl,q⟩;rw[aat];omega
def rRep:R2:=fun x y H Q=>∃l k xs,x = .ref l/\y = .int k/\H l=some (.lst xs)/\-(2^63)≤k/\k<2^63/\xs.length*k.toNat≤aam /\
 ∀p,H p=none->Q (.ref p) (upd H p (.lst (aax k.toNat xs).flatten))
theorem wG(xs:List α)(k:Nat):(aax k xs).flatten.length=k*xs.length:=by
 induction k with
 |zero=>simp
 |succ k ih=>rw[abr,acA,aat,ih,adu,Nat.add_comm]
theorem JV:OpR X (acw .Mult) rRep:=by
 intro pins s σ H x y v u Q I rx ry h;obtain⟨l,k,xs,rfl,rfl,hH,h1,h2,hz,q⟩:=h;cases rx;obtain⟨t,rfl⟩:=ry;obtain⟨z,its,n,r,hl,e⟩:=I.lstM hH;have hlen:its.toArray.size*k.toNat≤aam:=by rw[aap,<-hl];exact hz
 have hcap:¬its.toArray.size*k.toNat>(2^63-1)/8:=by
  have:(aam:Nat)≤(2^63-1)/8:=by decide
  omega
 have hfit:¬(!acM.List.listFitsIndex k)=true:=by
  rw[fitsIndex_both h1 h2];exact aay
 have hlong:¬adf (its.toArray.size*k.toNat)=true:=by
  rw[uc hlen];exact aay
 have hnew:aeL (fun x1 x2=>x1++x2) #[] (aax (if its.toArray.isEmpty=true then 0 else k.toNat) its.toArray)=(aax k.toNat its).flatten.toArray:=by
  have f0:∀m:Nat,aeL (fun x1 x2=>x1++x2) #[] (aax m its.toArray)=(aax m its).flatten.toArray:=fun m=>by
   have:=j4 its m [];rw[adC]at this;exact this
  rw[f0]
  cases its with
  |nil=>simp
  |cons a r'=>rw[if_neg (by simp)]
 refine afF (T := "list") (U := "int") (by decide) ⟨_,e,rfl⟩ (fun s'=>agn s' k t) noFill_list_mul F.fills_int_mul F.slot_int_rmul repeat_list F.slot_int_index.lookup
  (aed F.slot_int_rmul (agn s k t) F.entry_int_rmul (F.args_int_rmul_2 _ _) (int___rmul___int_list k t l its.toArray n)
   ⟨e,rfl,⟨_,e,rfl⟩,aed F.slot_list_mul ⟨_,e,rfl⟩ F.entry_list_mul (F.args_list_mul_2 _ _) (AutoListH.list___mul___list_int_3 l its.toArray n k t hfit hcap hlong) ⟨e,?_⟩⟩)
 rw[hnew];exact⟨.ref _,_,I.lnew (t':=s.toks) (r.rep k.toNat) (by rw[wG,ab4];exact hz),rfl,q _ I.fresh⟩
end
end L2
namespace Att
open PySem PySem.W PySem.Calls PyProof.Rows
theorem jH{P:Params}{h:aa6}:∀(ns:List Int) (vs:List GE),WellAll P h vs (ns.map WData.int)->afn vs ns:=by
 intro ns
 induction ns with
 |nil =>
  intro vs w;rw[abJ]at w;cases w;exact .nil
 | cons n ns ih =>
  intro vs w;rw[aao]at w
  cases w with
  |cons a b =>
   cases a;exact .cons _ _ (ih _ b)
theorem vE{l:OpenLaw}{n:Nat}(hn:l.most=some n){P:Params}{h:aa6}{args:List WData}{vals:List GE}
  (hpre:l.row.toRowW.claim.pre args=true) (hwl:WellAll P h vals args) :
  ∃a vs ns,vals=[acS a]/\args=[WData.list (ns.map WData.int)]/\h.get? a=some {cls:=.type "list",data:=.seq vs.toArray}/\afn vs ns/\ns.length≤n:=by
 have hsh:WShape.hasAll [] args [.list .int]=true:=(pre_splitW hpre).1;have hc:l.pre.holds [] {args:=args}=true:=(pre_splitW hpre).2;obtain⟨d,r,rfl,h1,h2⟩:=hasAllW_cons hsh;obtain rfl:=hasAllW_nil h2;obtain⟨xs,rfl,h3⟩:=hasW_list h1;obtain⟨ns,rfl⟩:=items_int h3;have hlen:ns.length≤n:=by
  unfold OpenLaw.pre at hc;have h4:(WTm.not (.lt (.lit (.int (n:Int))) (.len (.arg 0)))).holds [] {args:=[.list (ns.map .int)]}=true:=by
   have h4:=(holds_andW hc).1;rw[hn]at h4;exact h4
  have h5:=condW_of h4 (w_not (w_lt w_lit (w_len_list (w_arg rfl))));rw[Ge]at h5;refine Nat.le_of_not_lt fun q=>?_;have q':(n:Int)<((ns.length:Nat):Int):=by omega
  first
   |(rw[decide_eq_true q']at h5;exact absurd h5 (by decide))
   |(simp at h5;omega)
 cases hwl with
 |cons w1 w2 =>
  cases w2
  cases w1 with
  |list ho hall=>exact⟨_,_,ns,rfl,rfl,ho,jH ns _ hall,hlen⟩
theorem yw(l:OpenLaw)(args:List WData):l.row.toRowW.claim.post args (.bool true) args=true :=
 postW_of (r:=l.row.toRowW) (X:=(true==true))
  (show WShape.has [] (.bool true) .bool=true by first|rfl|decide|simp[WShape.has,WShape.arms,WShape.armsAll])
  (show(WTm.eq .res (.lit (.bool true))).value [] {args:=args,res:=some (.bool true),after:=args}=some (.bool (true==true))from w_eq_bool (w_res rfl) w_lit) rfl
theorem attach_call{l:OpenLaw}{n:Nat}{q:aaZ}{loose:List Str}{XP:(Str->Option GE)->aa6->Prop}{YP:World->aa6->Prop}{d:DefRec}
  (hn:l.most=some n) (hdf:d.params.defaults=[])
  (call:∀(w:World) (s₀ s₁:aab) (mg mb:Str->Option GE) (fa:Addr) (o:Obj) (pm cd doc:GE) (a:Addr) (vs:List GE) (ns:List Int),
   Ground q loose [] XP w s₀ mg mb s₁.heap->YP w s₁.heap ->
   s₁.heap.get? fa=some o->o.data = .func (docDef d.name d.params d.body d.scope pm cd doc)->s₁.heap.CodeRec cd d.name->mg d.name=some (.ref fa) ->
   s₁.heap.get? a=some {cls:=.type "list",data:=.seq vs.toArray}->afn vs ns->ns.length≤n->s₁.gens = #[] ->
   aeT (model l.prog w) ag0 (.call (.ref fa) ⟨[.ref a],[]⟩) (fun r s'=>r = .ok (.ret (.bool true))/\OldK s₁.heap s'.heap/\s'.os=s₁.os/\afJ s'.gens) s₁) :
  WalkO q loose XP YP l.row.toRowW d [] (fun f vs=>ah5 f vs):=by
 intro w s₀ s₁ mg mb G Y fa o pm cd doc dV kV ho hd hcd hD hmg hg args vals as hpre hlay hrd hwl hlo;obtain rfl:dV = .none:=Dflts.none hD hdf;obtain rfl:kV = .none:=Dflts.noKw hD;obtain⟨a,vs,ns,rfl,rfl,hobj,hints,hlen⟩:=vE hn hpre hwl;refine enter_call (afm (call w s₀ s₁ mg mb fa o pm cd doc a vs ns G Y ho (fd_plain hd) hcd hmg hobj hints hlen hg) fun r s' hq=>?_);obtain⟨rfl,h2,h3,h4⟩:=hq;exact⟨.inl ⟨.bool true,.bool true,[],rfl,fun _=>rfl,.bool true,yw l _,fun _=>⟨List.Pairwise.nil,fun _ hm=>(nomatch hm)⟩⟩,h2,h3,h4⟩
end Att
namespace L2
open PySem PySem.Spec PyProof.Rows
variable{P:MSt->Prop}{w:WS}{K:Kd}{mg:Str->Option GE}{a f l:Addr}{fd:ac4}{qual x y:Str}{ns:List Int}{i j n nN q:Nat}{X:Cx}{st:Stmt}{N own ps:List Str}{od:Option Addr}{A B:Prop}{env:Env}{scope:Scope}{c e elt t tg:Expr}{p pos pos':Pos}{ifs:List Expr}{tb:TS}{J:It}{fp:List Addr}{tn:Nat->aa6->Prop}{pins:List (Addr×Obj)}{σ σ':St}{H H' H0 H1 H2 Hb:Hp}{D:Ends}{E:GE->aab->Prop}{Q:VK}{vs xs:List V}{ds ds':List iO}{v:V}{ao:Ao}{α α' α1 β:Al}{τ:List (List Nat×Addr)}{r:R}{o:WO}{op:CmpOp}{sp:SpM}{ks:List Nat}{De:dB}{g:WG}{gs:WGs}{m1:MSt}{wi:WI}{we:WE}{tt:WT}{ob:R->Option Int->Option Int->MSt->(R->Prop)->Prop}{hi lo:Option Expr}{wh wl:WO1}{as:List Ag}{Ko:Option Int->MSt->Prop}{Ks:Src->MSt->Prop}
theorem oh:∀{vs:List GE}{ns:List Int},afn vs ns->Vals (ns.map V.int) vs
 |_,_,.nil=>.nil
 |_,_,.cons n t h=>.cons ⟨t,rfl⟩ (oh h)
def Only(H:Hp):Prop:=∀b,H b=none\/∃o xs,H b=some (.frz o (.lst xs))
theorem zg{P:aaZ}{w:World}{K:aaj}{mb:Str->Option GE}{CX:CXT}{k:Nat}{fa:Addr}{sp:Sp}{s₁:aab}{vs:List GE}
  (KX:K.In s₁.heap) (hns:s₁.heap.Ns aaU mg) (hb:s₁.heap.Ns builtinsNs mb) (hbb:∀x:Str,x ≠ "__name__" -> mb x=abh x) (hlim:s₁.heap.NoLimit) (hsy:∃m,s₁.heap.Ns abH m) (hg:s₁.gens = #[])
  (ha:s₁.heap.get? a=some {cls:=.type "list",data:=.seq vs.toArray}) (hi:afn vs ns) (hl:ns.length≤aam) (hr:Room k ag0)
  (F:∀base:aa6,K.In base->base.Ns aaU mg->FnOk P w K mg base CX k fa fd [x] sp) (hbind:∀(s:aab) (u:GE),ahz s fd ⟨[u],[]⟩ [(x,u)])
  (hsp:∀H:Hp,Only H->SqL K H a (ns.map V.int)->sp [.ref a] H (fun v _=>v = .bl true) fun _ _ _=>False)
  (hCX:∀H e s',CX [] H s₁ (fun _ _ _=>False) e s'->False) :
  aeT (model P w) ag0 (.call (.ref fa) ⟨[.ref a],[]⟩) (fun r s'=>r = .ok (.ret (.bool true))/\OldK s₁.heap s'.heap/\s'.os=s₁.os/\afJ s'.gens) s₁:=by
 have rv:=oh hi;have lenV:=hi.length;have core:∀H:Hp,Only H->SqL K H a (ns.map V.int)->HOk P w H s₁.heap->(∀b,H b≠none->b=a)->(H a≠none->K.lookup a=none) ->
   aeT (model P w) ag0 (.call (.ref fa) ⟨[.ref a],[]⟩) (fun r s'=>r = .ok (.ret (.bool true))/\OldK s₁.heap s'.heap/\s'.os=s₁.os/\afJ s'.gens) s₁:=by
  intro H hO hS hok hA hK;have base_of:∀{b:Addr}{o:Obj},s₁.heap.get? b=some o->H b=none->(hidT s₁.heap H).get? b=some o:=fun e n=>Bc e n;have noA:∀{b:Addr}{o:Obj}{es:Array acn}{ep:Nat},s₁.heap.get? b=some o->o.data = .dict es ep->H b=none:=fun {b o es ep} e d=>by
   cases q:H b with
   |none=>rfl
   |some u =>
    have e':b=a:=hA b (by rw[q];simp);subst e';rw[ha]at e;cases e;have d':Data.seq vs.toArray _=Data.dict es ep:=d;cases d'
  have nsK:∀{b:Addr}{m:Str->Option GE},s₁.heap.Ns b m->(hidT s₁.heap H).Ns b m:=fun {b m} ⟨o,es,ep,e,d,r⟩=>⟨o,es,ep,base_of e (noA e d),d,r⟩;have hKb:K.In (hidT s₁.heap H):=fun b o e=>base_of (KX b o e) (by
   cases q:H b with
   |none=>rfl
   |some u =>
    have e':b=a:=hA b (by rw[q];simp);subst e';rw[hK (by rw[q];simp)]at e;cases e)
  have hM:Mod K mg (hidT s₁.heap H):=⟨hKb,nsK hns,⟨mb,nsK hb,hbb⟩,let ⟨mc,h1,h2⟩:=hlim;⟨mc,nsK h1,h2⟩,let ⟨m,h⟩:=hsy;⟨m,nsK h⟩⟩;have e0:Env0 P w K mg (hidT s₁.heap H) ag0 [] s₁ H:=⟨rfl,hM,fun b o e=>FC e,Nat.le_of_eq (yn _ _),trivial,fun b hb=>absurd (show b∈([]:List Addr)from hb) (by simp),hok,.of_eq hg⟩;refine afm ((F _ hKb (nsK hns)).run ag0 [] s₁ H ⟨[.ref a],[]⟩ [.ref a] [.ref a] _ _ hr e0 (hbind s₁ (.ref a)) (.cons rfl .nil) (hsp H hO hS)) fun r s' h=>?_
  cases r with
  |error e=>exact(hCX H e s' h).elim
  | ok fl =>
   cases fl with
   |next=>exact adp h
   |brk=>exact adp h
   |cont=>exact adp h
   | ret u =>
    obtain⟨v,H',os,bare,un,hok',r',q⟩:=h;have q':v = .bl true:=q;subst q';obtain rfl:u=Value.bool true:=r';refine⟨rfl,OldK.of_keep fun b o e=>?_,os,bare⟩
    cases q:H b with
    |none=>exact un.keep b o e q (by intro z;exact absurd (show b∈([]:List Addr)from z) (by simp)) (by simp)
    |some u =>
     rcases hO b with z|⟨ob,xs,z⟩
     .rw[q]at z;cases z
     .have z2:=un.frzs b ob _ z;obtain⟨e1,_⟩:=hok b _ z;obtain⟨e2,_⟩:=hok' b _ z2;rw[e]at e1;cases e1;exact e2
 cases hk:K.lookup a with
 |some o =>
  have e:=KX a o hk;rw[ha]at e;cases e;refine core (fun _=>none) (fun _=>.inl rfl) (.inr ⟨_,vs.toArray,_,hk,rfl,rfl,rfl,by rw[aap,lenV];exact hl,by simpa using rv⟩) (fun b u z=>by have z':(none:Option HO)=some u:=z;cases z') (fun b z=>absurd rfl z) fun z=>absurd rfl z
 | none =>
  refine core (fun b=>if b=a then some (.frz {cls:=.type "list",data:=.seq vs.toArray} (.lst (ns.map V.int)))else none) (fun b=>?_) (.inl (.inr ⟨{cls:=.type "list",data:=.seq vs.toArray},if_pos rfl⟩)) (fun b u z=>?_) (fun b z=>?_) fun _=>hk
  .by_cases hb:b=a
   .exact .inr ⟨_,_,if_pos hb⟩
   .exact .inl (if_neg hb)
  .by_cases hb:b=a
   .have z':=(if_pos hb).symm.trans z;cases z';subst hb;exact⟨ha,by rw[Ge];exact hl,vs,_,rv,ha⟩
   .have z':=(if_neg hb).symm.trans z;cases z'
  .by_cases hb:b=a
   .exact hb
   .exact absurd (if_neg hb) z
theorem DQ{l:ah2}{k:Nat}{q:aaZ}{loose:List Str}{XP:(Str->Option GE)->aa6->Prop}{YP:World->aa6->Prop}{d:DefRec}{K:Params->aaj}{CX:World->CXT}{sp:World->Sp}
  (hq:importsNone q=true) (hn:l.most=some n) (hn2:n≤aam) (hdf:d.params.defaults=[]) (hr:Room k ag0)
  (hY:∀(w:World) (h:aa6),YP w h->(K w.params).In h)
  (F:∀(w:World) (mg:Str->Option GE) (fa:Addr) (h:aa6),(K w.params).In h->h.Ns aaU mg->mg d.name=some (.ref fa) ->
   ∃fd:ac4,(∀(s:aab) (u:GE),ahz s fd ⟨[u],[]⟩ [(x,u)]) /\
    ∀base:aa6,(K w.params).In base->base.Ns aaU mg->FnOk l.prog w (K w.params) mg base (CX w) k fa fd [x] (sp w))
  (hsp:∀(w:World) (H:Hp) (a:Addr) (ns:List Int),ns.length≤n->Only H->SqL (K w.params) H a (ns.map V.int)->sp w [.ref a] H (fun v _=>v = .bl true) fun _ _ _=>False)
  (hCX:∀(w:World) (H:Hp) (s:aab) (e:GE) (s':aab),CX w [] H s (fun _ _ _=>False) e s'->False) :
  ah8 q loose XP YP l.row.toRowW d [] (fun f vs=>ah5 f vs):=by
 refine Att.attach_call hn hdf fun w s₀ s₁ mg mb fa o pm cd doc a vs ns G Y ho hd hcd hmg hobj hints hlen hg=>?_;have KX:=hY w _ Y;obtain⟨fd,hb,hF⟩:=F w mg fa _ KX G.T.g hmg;exact zg KX G.T.g G.T.b G.T.builtins G.T.nolimit (let ⟨m,h,_⟩:=(G.T.seer hq).mods;⟨m,h⟩) hg hobj hints (aaF hlen hn2) hr hF hb (fun H hO hS=>hsp w H a ns hlen hO hS) fun H e s'=>hCX w H s₁ e s'
def jN(s:Stmt):Arguments:=match s with
 | .FunctionDef _ a _ _ _ _ _ _ _ _=>a
 |_=>{posonlyargs:=[],args:=[],vararg:=none,kwonlyargs:=[],kw_defaults:=[],kwarg:=none,defaults:=[]}
def dW(s:Stmt):List Stmt:=match s with
 | .FunctionDef _ _ b _ _ _ _ _ _ _=>b
 |_=>[]
def ac(s:Stmt):Scope:=match s with
 | .FunctionDef _ _ _ _ _ _ sc _ _ _=>sc
 |_=>{kind:=.function,names:=[],isGenerator:=false,isCoroutine:=false}
abbrev CX0:CXT:=fun _ _ _ _ _ _=>False
abbrev E0:XK:=fun _ _ _=>False
theorem Om:sg CX0 X E0:=fun _ _ _ _ _ _ _ h=>h.elim
structure Fun(K:aaj)(x qual:Str)(st:Stmt)(f:Addr)(fd:ac4):Prop where
 ex:∃(oc:GE) (od:Option Addr) (kV doc pm:GE) (an:Option Addr) (cdv ct:GE) (osl:Array (Option GE)),
  fd=adR x qual (jN st) (dW st) (ac st) .none kV doc pm an cdv ct/\K.lookup f=some ⟨oc,od,.func fd,osl⟩/\afv K cdv qual=true
 kp:adK K (.ref f)=true
section
variable {P:aaZ}{w:World}{K:aaj}{mg:Str->Option GE}{base:aa6}
theorem Fun.ok{k:Nat}{sp:Sp}(F:Fun K x qual st f fd)(S:am N ps (ac st))(len:∀vs H Q E,sp vs H Q E->vs.length=ps.length)
  (hbody:∀(cdv:GE) (A:abz) (outer:List Env) (s:aab) (H:Hp) (vs:List V) (Q:VK) (E:XK),Room k (A.deeper (afc qual (ac st) s.heap.objs.size f cdv))->sp vs H Q E ->
   ∃t,PSs (cxOf CX0 P w K mg base N qual (ac st) f cdv A outer s H E).nox (dW st) t/\t {nx:=fun _ H'=>Q .non H',rt:=Q} (start N vs) H):FnOk P w K mg base CX0 (k+1) f fd ps sp:=by
 obtain⟨oc,od,kV,doc,pm,an,cdv,ct,osl,rfl,lk,hcd⟩:=F.ex;refine Ph lk hcd S len fun A outer s H vs Q E hr hsp=>?_;obtain⟨t,h,q⟩:=hbody cdv A outer s H vs Q E hr hsp;exact⟨t,h.nox,q⟩
theorem Fun.binds(F:Fun K x qual st f fd)
  (h:∀(kV doc pm:GE) (an:Option Addr) (cdv ct:GE) (us:List GE),us.length=ps.length->bindArgs (adR x qual (jN st) (dW st) (ac st) .none kV doc pm an cdv ct) ⟨us,[]⟩=pure (ps.zip us)):Binds K fd ps []:=by
 obtain⟨oc,od,kV,doc,pm,an,cdv,ct,osl,rfl,lk,hcd⟩:=F.ex;exact .all (h kV doc pm an cdv ct)
theorem Lz{oc:GE}{an:Option Addr}{osl:Array (Option GE)}{kV doc pm cdv ct:GE}(l:K.lookup f=some ⟨oc,od,.func (adR x qual (jN st) (dW st) (ac st) .none kV doc pm an cdv ct),osl⟩)
  (c:afv K cdv qual=true) (k:adK K (.ref f)=true):Fun K x qual st f (adR x qual (jN st) (dW st) (ac st) .none kV doc pm an cdv ct):=⟨⟨oc,od,kV,doc,pm,an,cdv,ct,osl,rfl,l,c⟩,k⟩
end
theorem iteF(h:B):if false=true then A else B:=by
 rw[if_neg aay];exact h
theorem iteT(h:A):if true=true then A else B:=by
 rw[if_pos rfl];exact h
def aP(X:Cx)(scope:Scope)(cl:List (Str×Addr))(N:List Str)(s:aab)(H:Hp)(C:Addr)(ex:List Addr):Cx where
 prog:=X.prog
 w:=X.w
 K:=X.K
 mg:=X.mg
 base:=X.base
 A:=X.A
 N:=N
 s₀:=s
 H₀:=H
 env:=agN scope cl C X.env
 outer:=X.stack
 stack:=X.stack
 ex:=ex
 fn:=fun _=>false
 calm:=X.calm
 eb:=X.eb
 pn:=[]
 xe:=fun _ _=>False
theorem iY{env:Env}:∀{names:List (Str×ae0)}{acc:List (Str×Addr)},(∀y∈names,y.2 = .free->∃c,env.cells.lookup y.1=some c)->(∀x c,acc.lookup x=some c->env.cells.lookup x=some c) ->
  ∃cl,(forIn names acc fun(x:Str×ae0) (cs:List (Str×Addr))=>if (x.2==ad1)=true then do let c <- cellOf env x.1;pure (afd ((x.1,c)::cs))else pure (afd cs):Sem (List (Str×Addr)))=pure cl /\
   (∀x c,cl.lookup x=some c->env.cells.lookup x=some c)/\(∀y∈names,y.2 = .free->∃c,cl.lookup y.1=some c)/\(∀x,(∃c,acc.lookup x=some c)->∃c,cl.lookup x=some c)
 |[],acc,_,ha=>⟨acc,rfl,ha,fun y hy=>absurd hy (by simp),fun _ h=>h⟩
 | (n,k)::r,acc,h,ha=>by
  rw[afe]
  by_cases hk:k = .free
  .subst hk;obtain⟨c,hc⟩:=h (n,.free) aah rfl;have hc':env.cells.lookup n=some c:=hc;have e1:cellOf env n=pure c:=by unfold cellOf;rw[hc']
   obtain⟨cl,e2,h2,h3,h4⟩:=iY (env:=env) (names:=r) (acc:=(n,c)::acc) (fun y hy=>h y (aaf _ hy)) (fun x d hx=>by
    rw[ab6]at hx
    cases hb:x==n with
    |true=>rw[hb]at hx;cases hx;rw[afs hb];exact hc'
    |false=>rw[hb]at hx;exact ha x d hx)
   refine⟨cl,?_,h2,fun y hy hyk=>?_,fun x hx=>h4 x ?_⟩
   .simp only[beq_self_eq_true,if_true,e1,ahO];exact e2
   .obtain rfl|hy:=aas.mp hy
    .exact h4 n ⟨c,by rw[ab6];simp⟩
    .exact h3 y hy hyk
   .obtain⟨d,hd⟩:=hx;rw[ab6]
    cases hb:x==n with
    |true=>exact⟨c,rfl⟩
    |false=>exact⟨d,hd⟩
  .have hb:(k==ad1)=false:=by simpa using hk
   obtain⟨cl,e2,h2,h3,h4⟩:=iY (env:=env) (names:=r) (acc:=acc) (fun y hy=>h y (aaf _ hy)) ha;refine⟨cl,?_,h2,fun y hy hyk=>?_,h4⟩
   .simp only[hb,aco,if_false,ahO];exact e2
   .obtain rfl|hy:=aas.mp hy
    .exact absurd hyk hk
    .exact h3 y hy hyk
theorem d9(h:∀y∈scope.names,y.2 = .free->∃c,env.cells.lookup y.1=some c) :
  ∃cl,closureFor scope env=pure cl/\(∀x c,cl.lookup x=some c->env.cells.lookup x=some c)/\∀y∈scope.names,y.2 = .free->∃c,cl.lookup y.1=some c:=by
 obtain⟨cl,e,h1,h2,_⟩:=iY (env:=env) (names:=scope.names) (acc:=[]) h (fun x c hx=>by cases hx);refine⟨cl,?_,h1,h2⟩;simp only[closureFor];have e':=congrArg (fun(t:Sem (List (Str×Addr)))=>t >>= fun cs=>pure cs) e;simp only[ahO,bind_pure]at e'⊢;exact e'
def PTs(X:Cx)(ifs:List Expr)(t:TT):Prop :=
 ∀(pins:List (Addr×Obj)) (s:aab) (σ:St) (H:Hp) (Q:Bool->Hp->Prop),Inv X pins σ H s->t σ H Q ->
  wpAny (model X.prog X.w) X.A (forIn ifs true fun c r=>if r=true then do let ok <- isTrue c X.env (eval c X.env);pure (afd ok)else pure (afd r)) (TP X pins σ Q) X.xe s
def D7:TT:=fun _ H Q=>Q true H
theorem Dj:PTs X [] D7:=fun _ _ _ H _ I h=>wpAny_tests_nil ⟨H,I,h⟩
theorem Gq{t:TT}(hc:PT X c t):PTs X [c] t:=fun pins s σ H Q I h=>wpAny_tests_one (hc pins s σ H Q I h)
def PB(X:Cx)(bd:Sem PUnit)(t:TS):Prop :=
 ∀(pins:List (Addr×Obj)) (s:aab) (σ:St) (H:Hp) (D:Ends),Inv X pins σ H s->t D σ H->wpAny (model X.prog X.w) X.A bd (fun _ s'=>∃σ' H',Inv X pins σ' H' s'/\D.nx σ' H') X.xe s
def l4(J:It)(g:TG)(tb:TS):TS:=fun D σ H=>∃W:Nat->Nat->St->Hp->Prop,(∃m,W 0 m σ H)/\∀i m σ H,W i m σ H ->
 (J.stop i H/\D.nx σ H)\/(J.go i H/\∃N:St->Hp->Prop,(∀σ' H',N σ' H'->∃m',m'<m/\W (i+1) m' σ' H')/\∀x H',J.yld i H x H'->g x σ H' fun σ2 H2=>tb {D with nx:=N,ct:=N,bk:=D.nx} σ2 H2)
def tIfT(tt:TT)(tb:TS):TS:=fun D σ H=>tt σ H fun b H1=>if b=true then tb D σ H1 else D.nx σ H1
def pH(l:Addr)(te:TE):TS:=fun D σ H=>te σ H fun x H1=>∃xs,H1 l=some (.lst xs)/\xs.length<aam/\D.nx σ (upd H1 l (.lst (xs++[x])))
theorem pj{gens:List Comprehension}{d:Nat}{it:Addr}{acc:GE}{ipos:Pos}{bd:Sem PUnit}{g:TG}{tt:TT}
  (hturn:ahB (.ListComp elt gens scope pos) d (.ref it) acc X.env=(do
   ado ipos
   match <- acj (.ref it)with
   |none=>pure (.done .next)
   | some v =>
    adA tg (.ref it) v
    ada tg X.env v
    let mut ok:=true
    for c in ifs do
     if ok then ok <- isTrue c X.env (eval c X.env)
    if ok then bd
    again (.compLoop (.ListComp elt gens scope pos) d (.ref it) acc X.env)))
  (hx:X.xe=fun _ _=>False) (hc:X.calm=true) (T:Turn X.prog X.w X.K tg J fp it tn) (hg:PG X tg g) (ht:PTs X ifs tt) (hb:PB X bd tb)
  {s:aab} (I:Inv X pins σ H s) (st:tn 0 s.heap) (f:∀b∈fp,FpOk X pins H b) (h:l4 J g (tIfT tt tb) D σ H) :
  aeT (model X.prog X.w) X.A (.compLoop (.ListComp elt gens scope pos) d (.ref it) acc X.env) (fun r s'=>r = .ok .next/\∃σ' H',Inv X pins σ' H' s'/\D.nx σ' H') s:=by
 obtain⟨W,⟨m0,w0⟩,turn⟩:=h;have stat:∀{H':Hp},(∀b∈fp,H' b=none)->∀b∈fp,FpOk X pins H' b:=fun hn b hb=>⟨hn b hb,(f b hb).2⟩;have nox:∀{α:Type}{t:Sem α}{Q:α->aab->Prop}{E:GE->aab->Prop}{s:aab},wpAny (model X.prog X.w) X.A t Q X.xe s->wpAny (model X.prog X.w) X.A t Q E s:=fun h=>ac9 h (fun _ _ q=>q) fun _ _ z=>by
  rw[hx]at z;exact z.elim
 refine codeAny_loop rfl (fun n s'=>∃i σ' H',Inv X pins σ' H' s'/\tn i s'.heap/\(∀b∈fp,H' b=none)/\W i n σ' H') ?_ m0 ⟨0,σ,H,I,st,fun b hb=>(f b hb).1,w0⟩;rintro n s3 ⟨i,σ3,H3,I3,st3,fr3,w3⟩;show wpAny _ X.A ((ahB (.ListComp elt gens scope pos) d (.ref it) acc X.env).onRaise (fun x=>do noteFrame x X.env;theTreesLotGoes x)) _ _ s3;refine wpAny_noted ?_;rw[hturn];refine gE (m:=ado _) (adb (gE ?_));rcases turn i n σ3 H3 w3 with⟨stop,qn⟩|⟨go,N,hN,step⟩
 .refine thn (T.done X rfl rfl rfl hc i pins s3 σ3 H3 _ I3 (stat fr3) st3 stop) fun r s4 ⟨hr,I4⟩=>?_;subst hr;exact aaa ⟨rfl,σ3,H3,I4,qn⟩
 .refine thn (T.item X rfl rfl rfl hc i pins s3 σ3 H3 _ I3 (stat fr3) st3 go) fun r s4 ⟨u,hr,h4⟩=>?_;subst hr;refine gE (thn h4 fun _ s5 ⟨x,H5,I5,r5,y5,st5,fr5⟩=>?_);have I5':=I5.pinned (stat fr5) (T.obj _ _ st5);refine gE (nox (thn (hg _ s5 σ3 H5 x u _ I5' r5 (step x H5 y5)) fun _ s6 ⟨σ6,H6,I6,q6⟩=>?_));refine gE (nox (thn (ht _ s6 σ6 H6 _ I6 q6) fun ok s7 ⟨H7,I7,q7⟩=>?_));have fin:∀{σ8:St}{H8:Hp}{s8:aab},Inv X (pins++po fp s5.heap) σ8 H8 s8->N σ8 H8->∃m,m<n/\∃i σ' H',Inv X pins σ' H' s8/\tn i s8.heap/\(∀b∈fp,H' b=none)/\W i m σ' H':=fun {σ8 H8 s8} I8 n8=>by
   obtain⟨m',hm,w8⟩:=hN σ8 H8 n8;refine⟨m',hm,i+1,σ8,H8,I8.unpinned,T.keep _ _ _ st5 fun b hb o e=>(I8.pin (b,o) (abp _ (abp _ (fV hb e)))).1,fun b hb=>?_,w8⟩;obtain⟨o,e,_⟩:=T.obj _ _ st5 b hb;exact(I8.pin (b,o) (abp _ (abp _ (fV hb e)))).2.1
  cases ok with
  |false =>
   rw[if_neg aay]at q7;exact aaa ⟨rfl,fin I7 q7⟩
  |true =>
   rw[if_pos rfl]at q7;exact gE (nox (thn (hb _ s7 σ6 H7 _ I7 q7) fun _ s8 ⟨σ8,H8,I8,q8⟩=>aaa ⟨rfl,fin I8 q8⟩))
theorem rg{te:TE}(he:PE X elt te):PB X (do let _ <- call (.builtin "list.append") [.ref l,<-eval elt X.env]) (pH l te):=by
 intro pins s σ H D I h;refine gE (thn (he pins s σ H _ I h) fun u s1 ⟨x,H1,I1,r1,xs,hl,hz,q⟩=>?_);obtain⟨hz1,its,n,rv,hv,ho⟩:=I1.lstM hl;have hsl:s1.heap.IsList l its.toArray:=⟨_,ho,rfl,_,rfl⟩;refine gE (thn (Q:=fun _ s'=>∃σ' H',Inv X pins σ' H' s'/\D.nx σ' H') ?_ fun _ s' hq=>aaa hq);exact thn (om (X:=X) pins s1 σ H1 (.ref l) [x] (.ref l) [u] (fun v H'=>v = .non/\D.nx σ H') I1 rfl (.cons r1 .nil) ⟨l,xs,x,rfl,rfl,hl,hz,rfl,q⟩) fun v s' ⟨_,H',I',_,_,q'⟩=>⟨σ,H',I',q'⟩
theorem dQ(env:Env)(x:Str):∀names:List (Str×ae0),(names.map fun(n,k)=>if (k==ad1&&env.scope.kind == .function&&env.kindOf n==some .cell)then(n,ah9)else(n,k)).lookup x =
  (names.lookup x).map fun k=>if (k==ad1&&env.scope.kind == .function&&env.kindOf x==some .cell)then ah9 else k
 |[]=>rfl
 | (n,k)::r=>by
  have ih:=dQ env x r;rw[aao];dsimp only
  cases hx:x==n with
  |true =>
   have e:=afs hx;subst e
   by_cases hc:(k==ad1&&env.scope.kind == .function&&env.kindOf x==some .cell)=true
   .rw[if_pos hc];simp only[ab6,hx,acF,if_pos hc]
   .rw[if_neg hc];simp only[ab6,hx,acF,if_neg hc]
  |false =>
   split
   .simp only[ab6,hx];exact ih
   .simp only[ab6,hx];exact ih
theorem f9{k:ae0}:∀{names:List (Str×ae0)},names.lookup x=some k->(x,k)∈names:=fun h=>acI h
theorem jU(hcell:∀y∈scope.names,y.2≠.cell)(h:(ag1 scope env).names.lookup x=some .cell\/(ag1 scope env).names.lookup x=some .free):scope.names.lookup x=some .free:=by
 unfold ag1 at h;simp only[dQ]at h
 cases e:scope.names.lookup x with
 |none=>rw[e]at h;rcases h with h|h<;>cases h
 | some k =>
  rw[e]at h;simp only[acF,afL]at h;have hk:k≠.cell:=hcell (x,k) (f9 e)
  by_cases hf:k = .free
  .rw[hf]
  .have hb:(k==ad1)=false:=by simpa using hf
   rw[hb]at h;simp only[agK,aco,if_false]at h;rcases h with h|h
   .exact absurd h hk
   .rw[h]
theorem ox(h:scope.names.lookup x=some .free):(ag1 scope env).names.lookup x=some .cell\/(ag1 scope env).names.lookup x=some .free:=by
 unfold ag1;simp only[dQ,h,acF];split
 .exact .inl rfl
 .exact .inr rfl
def gh(own:List Str)(ps:List Nat)(σ:St):St:=own.map (fun _=>none)++ps.map fun i=>(σ[i]?).join
structure bR(own fr:List Str)(scope sc:Scope):Prop where
 kind:scope.kind = .function
 nocell:∀y∈scope.names,y.2≠.cell
 names:∀y∈scope.names,y.2 = .local->scope.names.lookup y.1=some .local
 there:∀y∈scope.names,y.2 = .free->sc.names.lookup y.1=some .cell\/sc.names.lookup y.1=some .free
 fr:∀x∈fr,scope.names.lookup x=some .free
section
variable {X:Cx}{scope sc:Scope}{own fr:List Str}{ps:List Nat}
theorem j6{iter:Expr}{rest:List Comprehension}{bdy:Env->GE->Sem PUnit}{g:TG}{tt:TT}{tb:Addr->TS}{cl:List (Str×Addr)}{R:GE->Addr->Result->aab->Prop}
  (S:bR own fr scope sc) (hsc:X.env.scope=sc) (hps:ps.map (fun i=>X.N[i]?)=fr.map some) (hc:X.calm=true) (hcl1:∀x c,cl.lookup x=some c->X.env.cells.lookup x=some c) (hcl2:∀y∈scope.names,y.2 = .free->∃c,cl.lookup y.1=some c)
  (hturn:∀env it acc,ahB (.ListComp elt (⟨tg,iter,ifs,0⟩::rest) scope pos) 0 it acc env=(do
   ado iter.pos
   match <- acj it with
   |none=>pure (.done .next)
   | some v =>
    adA tg it v
    ada tg env v
    let mut ok:=true
    for c in ifs do
     if ok=true then ok <- isTrue c env (eval c env)
    if ok then bdy env acc
    again (.compLoop (.ListComp elt (⟨tg,iter,ifs,0⟩::rest) scope pos) 0 it acc env)))
  (hg:∀s H C ex,PG (aP X scope cl (own++fr) s H C ex) tg g) (ht:∀s H C ex,PTs (aP X scope cl (own++fr) s H C ex) ifs tt)
  (hb:∀s H C ex l,PB (aP X scope cl (own++fr) s H C ex) (bdy (agN scope cl C X.env) (.ref l)) (tb l))
  {s:aab}{it:Addr} (I:Inv X pins σ H s) (T:Turn X.prog X.w X.K tg J fp it tn) (st:tn 0 s.heap) (f:∀b∈fp,FpOk X pins H b)
  (h:∀l,H l=none->l4 J g (tIfT tt (tb l)) {nx:=fun _ H'=>Q (.ref l) H',rt:=fun _ _=>False} (gh own ps σ) (upd H l (.lst [])))
  (hR:∀l C H' s',(∃m,s'.heap.Ns C m)->Inv X pins σ H' s'->FpOk X pins H' C->Q (.ref l) H'->R (.ref l) C (.ok .next) s') :
  wpAny (model X.prog X.w) X.A (ahC []) (fun acc s₃=>wpAny (model X.prog X.w) X.A (newFunctionEnv scope X.env.globals cl [] X.env.qual none .none (some X.env)) (fun cenv s₄ =>
   aeT (model X.prog X.w) X.A (.compStart (.ListComp elt (⟨tg,iter,ifs,0⟩::rest) scope pos) 0 (.ref it) acc {cenv with scope:=ag1 scope X.env}) (R acc cenv.locals) s₄) E s₃) E s:=by
 refine aa5 (wpAny_newFunctionEnv S.nocell (by intro y hy;simp at hy) (fun h₁ hns₁ hsb₁=>?_) S.kind);have I3:Inv X pins σ (upd H s.heap.objs.size (.lst [])) {s with heap:=s.heap.push {cls:=.type "list",data:=.seq ([]:List GE).toArray} }:=I.lnew (t':=s.toks) (ys:=[]) .nil (ac5 _);generalize hS3:({s with heap:=s.heap.push {cls:=.type "list",data:=.seq ([]:List GE).toArray} }:aab)=s3 at I3 hns₁ hsb₁⊢;have hsz:s3.heap.objs.size=s.heap.objs.size+1:=by rw[<-hS3];exact abB _ _
 have hl:H s.heap.objs.size=none:=I.hok.fresh (aac _);have kept0:∀b o,s.heap.get? b=some o->s3.heap.get? b=some o:=fun b o e=>by rw[<-hS3];exact Io _ e
 have kept1:∀b o,s3.heap.get? b=some o->h₁.get? b=some o:=fun b o e=>hsb₁.extBut b o (aa4 (aak e)) (Io _ e);have fpl:∀b∈fp,b<s.heap.objs.size:=fun b hb=>by obtain⟨o,e,_⟩:=T.obj _ _ st b hb;exact aak e
 have fpH:∀b∈fp,(upd H s.heap.objs.size (.lst [])) b=none:=fun b hb=>by rw[ap (aa4 (fpl b hb))];exact(f b hb).1
 have fpS:∀b∈fp,b∉frs X.stack:=fun b hb z=>by
  rcases aas.mp (I.stkSub b z)with e|e
  .exact(f b hb).2.1 e
  .exact(f b hb).2.2.1 e
 have ok':(aP X scope cl (own++fr) s3 (upd H s.heap.objs.size (.lst [])) s3.heap.objs.size fp).Ok:=by
  refine⟨I.ok.mod,S.kind,I.ok.glob,I.ok.blt,aac _,fun x y c h1 h2=>I.ok.inj x y c (hcl1 x c h1) (hcl1 y c h2),fun x hx=>?_,fun x c hf=>(by cases hf),I.ok.hd,I.ok.frames,.inl rfl,fun b hb=>⟨?_,fun x c hx=>(f b hb).2.2.2.2.1 x c (hcl1 x c hx)⟩,
   fun b o e=>I3.bs b o e,aaF I3.ok.bsz I3.sz,fun b o e hb=>?_,fun b hb=>fpS b hb,I3.stack,I3.stkFree⟩
  .exact hcl2 (x,.free) (f9 (jU S.nocell hx)) rfl
  .exact aa4 (aaz (fpl b hb) (by rw[hsz];exact Nat.le_succ _))
  .rcases (f b hb).2.2.2.1 with z|z
   .exact I.ok.noex b o e z
   .exact absurd (aaz (aak (I.ok.bs b o e).1) z) (acP _)
 have I4:Inv (aP X scope cl (own++fr) s3 (upd H s.heap.objs.size (.lst [])) s3.heap.objs.size fp) [] (gh own ps σ) (upd H s.heap.objs.size (.lst [])) {s3 with heap:=h₁,toks:=s3.toks+([]:List (Str×GE)).length}:=by
  refine⟨ok',rfl,I3.bare,Un.kept kept1,⟨_,hns₁,fun i x v e1 e2 e3=>?_⟩,fun x c e=>?_,I3.hok.fresh (aac _),fun x c e=>I3.freeC x c (hcl1 x c e),fun p hp=>absurd (show p∈([]:List (Addr×Obj))from hp) (by simp),I3.hok.kept kept1,?_⟩
  .have e1':(own++fr)[i]?=some x:=e1;unfold gh at e2
   by_cases hi:i<own.length
   .rw[aaO (by simpa using hi),aae]at e2
    cases q:own[i]? with
    |none=>rw[q]at e2;cases e2
    |some z=>rw[q]at e2;cases e2
   .rw[aaJ (by simpa using hi),Ge,aae]at e2;rw[aaJ (by simpa using hi)]at e1'
    cases q:ps[i-own.length]? with
    |none=>rw[q]at e2;cases e2
    | some p =>
     rw[q]at e2;have e2':(σ[p]?).join=some v:=aai e2;have hσ:σ[p]?=some (some v):=by
      cases z:σ[p]? with
      |none=>rw[z]at e2';cases e2'
      |some w=>rw[z]at e2';cases w with
       |none=>cases e2'
       |some w=>cases e2';rfl
     have hN:X.N[p]?=some x:=by
      have z:=congrArg (fun l=>l[i-own.length]?) hps;simp only[aae,q,e1',acF,afL]at z;exact z
     have hx:x∈fr:=OR e1';have hfr:=S.fr x hx;have hsee:=S.there (x,.free) (f9 hfr) rfl;obtain⟨m,hn,hlk⟩:=I3.loc;obtain⟨u,ru,lk⟩:=hlk p x v hN hσ (by rw[hsc];exact .inr hsee);refine⟨u,ru,.inr ⟨ox hfr,?_⟩⟩;rcases lk with⟨k,_⟩|⟨_,c,ec,z⟩
     .have k':X.env.scope.names.lookup x=some .local:=k;rw[hsc]at k';rcases hsee with q2|q2<;>(rw[k']at q2;cases q2)
     .obtain⟨c',ec'⟩:=hcl2 (x,.free) (f9 hfr) rfl;have:=hcl1 x c' ec';rw[ec]at this;cases this;obtain⟨o,ho,hd⟩:=z;exact⟨c,ec',o,kept1 _ _ ho,hd⟩
  .obtain⟨v,o,ho,hd⟩:=I3.cell x c (hcl1 x c e);exact⟨v,o,kept1 _ _ ho,hd⟩
  .show(gh own ps σ).length=(own++fr).length;have:=congrArg ae1 hps;rw[Ge,Ge]at this;unfold gh;rw[aat,aat,Ge,Ge,this]
 have f4:∀b∈fp,FpOk (aP X scope cl (own++fr) s3 (upd H s.heap.objs.size (.lst [])) s3.heap.objs.size fp) [] (upd H s.heap.objs.size (.lst [])) b:=fun b hb =>
  ⟨fpH b hb,(ok'.exf b hb).1,fpS b hb,.inl hb,(ok'.exf b hb).2,fun p hp=>absurd (show p∈([]:List (Addr×Obj))from hp) (by simp)⟩
 have st4:tn 0 h₁:=T.keep 0 _ _ st fun b hb o e=>kept1 b o (kept0 b o e);have loop:aeT (model X.prog X.w) X.A (.compLoop (.ListComp elt (⟨tg,iter,ifs,0⟩::rest) scope pos) 0 (.ref it) (.ref s.heap.objs.size) (agN scope cl s3.heap.objs.size X.env)) (R (.ref s.heap.objs.size) s3.heap.objs.size) {s3 with heap:=h₁,toks:=s3.toks+([]:List (Str×GE)).length}:=by
  refine afm (pj (X:=aP X scope cl (own++fr) s3 (upd H s.heap.objs.size (.lst [])) s3.heap.objs.size fp) (hturn _ _ _) rfl hc T (hg _ _ _ _) (ht _ _ _ _) (hb _ _ _ _ _) I4 st4 f4 (h _ hl)) fun r s' ⟨er,σ5,H5,I5,q5⟩=>?_;subst er;have I6:Inv X pins σ H5 s':=I3.call' (s':=s') I5.os I5.base I5.hok I5.bare fun b hb=>⟨(f b hb).2.2.2.1,(f b hb).2.1,(f b hb).2.2.2.2.1,(f b hb).2.2.2.2.2⟩;have hm:∃m,s'.heap.Ns s3.heap.objs.size m:=let ⟨m,hn,_⟩:=I5.loc;⟨m,hn⟩;exact hR _ _ H5 s' hm I6 (I3.fpOk (aac _) I5.free) q5
 exact codeAny_compStart_list loop (T.self _ 0 _ _ _ st4 loop)
def w6(wi:TI)(own:List Str)(ps:List Nat)(tl:Addr->It->TS):TE:=fun σ H Q=>wi σ H fun J H1=>∀l,H1 l=none->tl l J {nx:=fun _ H'=>Q (.ref l) H',rt:=fun _ _=>False} (gh own ps σ) (upd H1 l (.lst []))
def tl1(g:TG)(tt:TT)(te:TE):Addr->It->TS:=fun l J=>l4 J g (tIfT tt (pH l te))
def tl2(g:TG)(tt:TT)(wi2:TI)(g2:TG)(tt2:TT)(te:TE):Addr->It->TS:=fun l J=>l4 J g (tIfT tt fun D σ H=>wi2 σ H fun J2 H1=>l4 J2 g2 (tIfT tt2 (pH l te)) D σ H1)
theorem Ah{Y:Cx}{tg1 iter1 tg2 iter2:Expr}{ifs1 ifs2:List Expr}{wi2:TI}{g2:TG}{tt2:TT}{te:TE}(hx:Y.xe=fun _ _=>False)(hc:Y.calm=true)(hi:PI Y tg2 iter2 wi2)(hg:PG Y tg2 g2)(ht:PTs Y ifs2 tt2)(he:PE Y elt te)
  (hs:∀x,aaW iter2 Y.env x=pure x) :
  PB Y (do
   let x <- eval iter2 Y.env
   ado iter2.pos
   let x <- aaW iter2 Y.env x
   let _ <- runOwn (.compStart (.ListComp elt [⟨tg1,iter1,ifs1,0⟩,⟨tg2,iter2,ifs2,0⟩] scope pos) 1 (<- adI [x] (afb x)) (.ref l) Y.env) Y.env) (fun D σ H=>wi2 σ H fun J2 H1=>l4 J2 g2 (tIfT tt2 (pH l te)) D σ H1):=by
 intro pins s σ H D I h;refine gE (thn (hi pins s σ H _ I h) fun v s1 h1=>?_);refine gE (adb (gE (wpAny_of_eq (hs v) (gE (abM (thn h1 fun itv s2 h2=>?_))))));obtain⟨it,fp,tn,J,H2,e,I2,T,st2,f2,q⟩:=h2;subst e;have loop:∀s3,s3=s2->aeT (model Y.prog Y.w) Y.A (.compLoop (.ListComp elt [⟨tg1,iter1,ifs1,0⟩,⟨tg2,iter2,ifs2,0⟩] scope pos) 1 (.ref it) (.ref l) Y.env) (fun r s'=>match r with| .ok f=>wpAny (model Y.prog Y.w) Y.A (pure PUnit.unit) (fun _ s'=>∃σ' H',Inv Y pins σ' H' s'/\D.nx σ' H') Y.xe s' | .error e=>cameBackBy (model Y.prog Y.w) Y.A Y.env Y.xe e s') s3:=by
  rintro s3 rfl;refine afm (pj (X:=Y) (elt:=elt) (gens:=[⟨tg1,iter1,ifs1,0⟩,⟨tg2,iter2,ifs2,0⟩]) (scope:=scope) (pos:=pos) (d:=1) (acc:=.ref l) (ipos:=iter2.pos) (ifs:=ifs2)
   (bd:=do let _ <- call (.builtin "list.append") [.ref l,<-eval elt Y.env]) rfl hx hc T hg ht (rg he) I2 st2 f2 q) fun r s' ⟨er,hq⟩=>?_
  subst er;exact aaa hq
 refine gE (wpAny_runOwn ?_);show aeT (model Y.prog Y.w) Y.A _ _ s2;refine codeAny_of_tree ?_;show wpAny _ _ ((compStart (.ListComp elt [⟨tg1,iter1,ifs1,0⟩,⟨tg2,iter2,ifs2,0⟩] scope pos) 1 (.ref it) (.ref l) Y.env).onRaise (fun x=>do noteFrame x Y.env;ado theWindowsPlace)) _ _ s2;refine wpAny_notedAt ?_;unfold compStart;show wpAny _ _ (ask >>= _) _ _ s2;refine gE (m:=ask) (wpAny_askSetting (wpAny_ite ?_));split
 .first
   |exact gE (aaa (aaa (ahP rfl (loop _ rfl))))
   |exact aaa (ahP rfl (loop _ rfl))
 .first
   |exact gE (acU (gE (adb (gE (T.self _ 0 _ _ _ st2 (aaa (ahP rfl (loop _ rfl))))))))
   |(refine gE (acU ?_);show wpAny _ _ (ado iter2.pos >>= _) _ _ s2;exact gE (adb (gE (T.self _ 0 _ _ _ st2 (aaa (ahP rfl (loop _ rfl)))))))
theorem Inv.junk{s:aab}{C:Addr}(I:Inv X pins σ H s)(f:FpOk X pins H C){h':aa6}(hs:abu C s.heap h'):Inv X pins σ H {s with heap:=h' } :=
 I.turned (t':=s.toks) (it:=C) (fun b o ne e=>(hs.2 b ne).trans e) f.1 f.2.1 f.2.2.2.1 f.2.2.2.2.1 f.2.2.2.2.2
variable {elt tg iter:Expr}{ifs:List Expr}{pos spos py:Pos}{wi:TI}{g:TG}{tt:TT}{te:TE}
theorem lP{s:aab}(S:bR own fr scope sc)(hsc:X.env.scope=sc)(I:Inv X pins σ H s):∀y∈scope.names,y.2 = .free->∃c,X.env.cells.lookup y.1=some c:=fun y hy hk =>
 I.ok.has y.1 (by show X.env.scope.names.lookup y.1=_\/X.env.scope.names.lookup y.1=_;rw[hsc];exact S.there y hy hk)
theorem z9(S:bR own fr scope sc)(hi:PI X tg iter wi)(hg:∀cl s H C ex,PG (aP X scope cl (own++fr) s H C ex) tg g)(ht:∀cl s H C ex,PTs (aP X scope cl (own++fr) s H C ex) ifs tt)
  (he:∀cl s H C ex,PE (aP X scope cl (own++fr) s H C ex) elt te) (hsc:X.env.scope=sc:=by rfl) (hps:ps.map (fun i=>X.N[i]?)=fr.map some:=by rfl) (hc:X.calm=true:=by rfl) (hs:∀x,aaW iter X.env x=pure x:=by intro _;rfl) :
  PE X (.ListComp elt [⟨tg,iter,ifs,0⟩] scope pos) (w6 wi own ps (tl1 g tt te)):=by
 intro pins s σ H Q I h;obtain⟨cl,ec,h1,h2⟩:=d9 (lP S hsc I);rw[eval_ListComp];refine ad2 (use:=none) rfl hs ec S.kind S.names (thn (hi pins s σ H _ I h) fun v s1 q1=>thn q1 fun itv s2 q2=>?_);obtain⟨it,fp,tn,J,H2,e,I2,T,st2,f2,q⟩:=q2;subst e;exact j6 (R:=fun acc C=>compPost (model X.prog X.w) X.A X.xe none (EP X pins σ Q) acc C) (bdy:=fun env acc=>do let _ <- call (.builtin "list.append") [acc,<-eval elt env]) (tb:=fun l=>pH l te) S hsc hps hc h1 h2 (fun env it acc=>compTurn_list elt tg iter ifs scope pos it acc env)
  (hg cl) (ht cl) (fun s H C ex l=>rg (he cl s H C ex)) I2 T st2 f2 q fun l C H' s' hm I' fk q'=>by
   obtain⟨m,hn⟩:=hm;exact⟨m,hn,fun h' hs'=>⟨.ref l,H',I'.junk fk hs',rfl,q'⟩⟩
theorem o9{s':aab}{C:Addr}{Q:St->Hp->Prop}(hN:X.N.Nodup)(hy:X.N[i]?=some y)(hlc:X.env.scope.names.lookup y=some .local)(hm:∃m,s'.heap.Ns C m)(I:Inv X pins σ H' s')(fk:FpOk X pins H' C)(q:Q (σ.set i (some (.ref l))) H') :
  wpAny (model X.prog X.w) X.A (ada (.Name y py) X.env (.ref l)) (fun _ s''=>∃m,s''.heap.Ns C m/\∀h',abu C s''.heap h'->∃σ' H'',Inv X pins σ' H'' {s'' with heap:=h' }/\Q σ' H'') E s':=by
 obtain⟨m,hn⟩:=hm;refine wpAny_assign_Name (on I hN hy (.inl hlc) (v:=.ref l) rfl (fun s'' I'' ⟨a,hs,ha⟩=>?_) (.inr hlc));have hCa:C≠a:=by
  rcases ha with ha|ha
  .rw[ha];exact fk.2.1
  .exact fun z=>fk.2.2.2.2.1 _ _ ha z.symm
 exact⟨m,hn.sameBut hs hCa,fun h' hs'=>⟨_,H',I''.junk fk hs',q⟩⟩
theorem zM(S:bR own fr scope sc)(hN:X.N.Nodup)(hy:X.N[i]?=some y)(hlc:X.env.scope.names.lookup y=some .local)(hi:PI X tg iter wi)(hg:∀cl s H C ex,PG (aP X scope cl (own++fr) s H C ex) tg g)(ht:∀cl s H C ex,PTs (aP X scope cl (own++fr) s H C ex) ifs tt)
  (he:∀cl s H C ex,PE (aP X scope cl (own++fr) s H C ex) elt te) (hsw:abY (.ListComp elt [⟨tg,iter,ifs,0⟩] scope pos) (some (.Name y py)) spos.line X.env=pure true:=by rfl)
  (hsc:X.env.scope=sc:=by rfl) (hps:ps.map (fun i=>X.N[i]?)=fr.map some:=by rfl) (hc:X.calm=true:=by rfl) (hs:∀x,aaW iter X.env x=pure x:=by intro _;rfl) :
  PS X (.Assign [.Name y py] (.ListComp elt [⟨tg,iter,ifs,0⟩] scope pos) spos) (tAsg (w6 wi own ps (tl1 g tt te)) (yX i)):=by
 intro pins s σ H D I h;obtain⟨cl,ec,h1,h2⟩:=d9 (lP S hsc I);rw[show exec _ X.env=_ from agD _ _ _ _ hsw];refine gE (m:=ado _) (adb (gE ?_));show wpAny _ X.A (do let _ <- comprehension (.ListComp elt [⟨tg,iter,ifs,0⟩] scope pos) scope X.env _ (ahC []) false (eval iter X.env) (some (ada (.Name y py) X.env))) _ _ s;refine gE (ac9 (ad2 (use:=some (ada (.Name y py) X.env)) (Q:=fun _ s'=>SP X pins D .next s') rfl hs ec S.kind S.names (thn (hi pins s σ H _ I h) fun v s1 q1=>thn q1 fun itv s2 q2=>?_)) (fun _ s' hq=>aaa (aaa hq)) fun _ _ e=>e);obtain⟨it,fp,tn,J,H2,e,I2,T,st2,f2,q⟩:=q2;subst e;exact j6 (Q:=fun v H'=>D.nx (σ.set i (some v)) H') (R:=fun acc C=>compPost (model X.prog X.w) X.A X.xe (some (ada (.Name y py) X.env)) (fun _ s'=>SP X pins D .next s') acc C) (bdy:=fun env acc=>do let _ <- call (.builtin "list.append") [acc,<-eval elt env]) (tb:=fun l=>pH l te) S hsc hps hc h1 h2 (fun env it acc=>compTurn_list elt tg iter ifs scope pos it acc env)
  (hg cl) (ht cl) (fun s H C ex l=>rg (he cl s H C ex)) I2 T st2 f2 q fun l C H' s' hm I' fk q'=>o9 hN hy hlc hm I' fk q'
variable {tg2 iter2:Expr}{ifs2:List Expr}{wi2:TI}{g2:TG}{tt2:TT}
theorem kw(elt target iter:Expr)(ifs:List Expr)(tg2 iter2:Expr)(ifs2:List Expr)(scope:Scope)(pos:Pos)(it acc:GE)(env:Env) :
  ahB (.ListComp elt [⟨target,iter,ifs,0⟩,⟨tg2,iter2,ifs2,0⟩] scope pos) 0 it acc env=(do
   ado iter.pos
   match <- acj it with
   |none=>pure (.done .next)
   | some v =>
    adA target it v
    ada target env v
    let mut ok:=true
    for c in ifs do
     if ok=true then ok <- isTrue c env (eval c env)
    if ok then
     (do
      let x <- eval iter2 env
      ado iter2.pos
      let x <- aaW iter2 env x
      let _ <- runOwn (.compStart (.ListComp elt [⟨target,iter,ifs,0⟩,⟨tg2,iter2,ifs2,0⟩] scope pos) 1 (<- adI [x] (afb x)) acc env) env)
    again (.compLoop (.ListComp elt [⟨target,iter,ifs,0⟩,⟨tg2,iter2,ifs2,0⟩] scope pos) 0 it acc env)):=by
 unfold ahB;simp only[List.getElem?_cons_zero,List.getElem?_cons_succ,abO,bind_assoc,ahO,bne_self_eq_false,aco,if_false];rfl
theorem zd(S:bR own fr scope sc)(hN:X.N.Nodup)(hy:X.N[i]?=some y)(hlc:X.env.scope.names.lookup y=some .local)(hi:PI X tg iter wi)(hg:∀cl s H C ex,PG (aP X scope cl (own++fr) s H C ex) tg g)(ht:∀cl s H C ex,PTs (aP X scope cl (own++fr) s H C ex) ifs tt)
  (hi2:∀cl s H C ex,PI (aP X scope cl (own++fr) s H C ex) tg2 iter2 wi2) (hg2:∀cl s H C ex,PG (aP X scope cl (own++fr) s H C ex) tg2 g2) (ht2:∀cl s H C ex,PTs (aP X scope cl (own++fr) s H C ex) ifs2 tt2)
  (he:∀cl s H C ex,PE (aP X scope cl (own++fr) s H C ex) elt te) (hsw:abY (.ListComp elt [⟨tg,iter,ifs,0⟩,⟨tg2,iter2,ifs2,0⟩] scope pos) (some (.Name y py)) spos.line X.env=pure true:=by rfl)
  (hsc:X.env.scope=sc:=by rfl) (hps:ps.map (fun i=>X.N[i]?)=fr.map some:=by rfl) (hc:X.calm=true:=by rfl) (hs:∀x,aaW iter X.env x=pure x:=by intro _;rfl)
  (hs2:∀cl C x,aaW iter2 (agN scope cl C X.env) x=pure x:=by intro _ _ _;rfl) :
  PS X (.Assign [.Name y py] (.ListComp elt [⟨tg,iter,ifs,0⟩,⟨tg2,iter2,ifs2,0⟩] scope pos) spos) (tAsg (w6 wi own ps (tl2 g tt wi2 g2 tt2 te)) (yX i)):=by
 intro pins s σ H D I h;obtain⟨cl,ec,h1,h2⟩:=d9 (lP S hsc I);rw[show exec _ X.env=_ from agD _ _ _ _ hsw];refine gE (m:=ado _) (adb (gE ?_));show wpAny _ X.A (do let _ <- comprehension (.ListComp elt [⟨tg,iter,ifs,0⟩,⟨tg2,iter2,ifs2,0⟩] scope pos) scope X.env _ (ahC []) false (eval iter X.env) (some (ada (.Name y py) X.env))) _ _ s;refine gE (ac9 (ad2 (use:=some (ada (.Name y py) X.env)) (Q:=fun _ s'=>SP X pins D .next s') rfl hs ec S.kind S.names (thn (hi pins s σ H _ I h) fun v s1 q1=>thn q1 fun itv s2 q2=>?_)) (fun _ s' hq=>aaa (aaa hq)) fun _ _ e=>e);obtain⟨it,fp,tn,J,H2,e,I2,T,st2,f2,q⟩:=q2;subst e;exact j6 (Q:=fun v H'=>D.nx (σ.set i (some v)) H') (R:=fun acc C=>compPost (model X.prog X.w) X.A X.xe (some (ada (.Name y py) X.env)) (fun _ s'=>SP X pins D .next s') acc C) (tb:=fun l D σ H=>wi2 σ H fun J2 H1=>l4 J2 g2 (tIfT tt2 (pH l te)) D σ H1) S hsc hps hc h1 h2 (fun env it acc=>kw elt tg iter ifs tg2 iter2 ifs2 scope pos it acc env)
  (hg cl) (ht cl) (fun s H C ex l=>Ah (Y:=aP X scope cl (own++fr) s H C ex) rfl hc (hi2 cl s H C ex) (hg2 cl s H C ex) (ht2 cl s H C ex) (he cl s H C ex) (hs2 cl C)) I2 T st2 f2 q fun l C H' s' hm I' fk q'=>o9 hN hy hlc hm I' fk q'
end
def FzL(K:aaj)(H:Hp)(a:Addr)(xs:List V):Prop :=
 (∃o,H a=some (.frz o (.lst xs))) \/
  ∃(o:Obj) (its:Array GE) (n:Nat),K.lookup a=some o/\o.cls = .type "list" /\ o.dict=none/\o.data = .seq its n/\its.size≤aam/\Vals xs its.toList
theorem FzL.sq{K:aaj}(h:FzL K H a xs):SqL K H a xs:=by
 rcases h with⟨o,h⟩|h
 .exact .inl (.inr ⟨o,h⟩)
 .exact .inr h
structure Kd where
 K:aaj
 w:World
instance:Coe Kd aaj:=⟨Kd.K⟩
mutual
def dY(w:World):iO->Int
 | .int i=>hashInt i
 | .str x=>hashStr w x
 | .tuple ds=>reduceHash (abQ (gm w ds))
 |_=>0
def gm(w:World):List iO->List Int
 |[]=>[]
 |d::ds=>dY w d::gm w ds
end
mutual
def hkD:iO->Bool
 | .int _=>true
 | .str _=>true
 | .tuple ds=>hkA ds
 |_=>false
def hkA:List iO->Bool
 |[]=>true
 |d::ds=>hkD d&&hkA ds
end
def isKd(kvs:List (iO×iO)):Bool:=kvs.all fun kv=>match kv.1 with| .int _=>true | .str _=>true|_=>false
def xT(kvs:List (iO×iO)):Prop:=isKd kvs=false/\(kvs.map (·.1)).Nodup/\∀k∈kvs.map (·.1),hkD k=true
def dXp(a:Addr)(es:List (Int×V×V))(h:aa6):Prop :=
 (a==abH)=false/\es.length≤aam/\∃(o:Obj) (ents:Array acn) (ep:Nat),h.get? a=some o/\o.ExactDict/\o.data = .dict ents ep /\
  abV (fun(e:Int×V×V) (d:acn)=>d.hash=e.1/\RelV e.2.1 d.key/\RelV e.2.2 d.val) es ents.toList
abbrev dX(a:Addr)(es:List (Int×V×V)):HO:=.ext (dXp a es)
def FzD(H:Hp)(a:Addr)(es:List (Int×V×V)):Prop:=∃o,H a=some (.frz o (dX a es))
def ClsN(K:Kd)(c:Str)(C:Addr):Prop:=abw K.K aaU c=some (some (.ref C))
def ML(K:Kd)(H:Hp)(a:Addr)(c:Str)(xs:List (Str×V)):Prop :=
 ∃(o:Obj) (u:HO) (C:Addr),H a=some (.frz o u)/\o.cls = .ref C/\(∃vs,o.data = .fields vs)/\ClsN K c C/\((o.dict=none/\xs=[])\/∃(dx:Addr) (od:Obj),o.dict=some dx/\H dx=some (.frz od (.xd xs)))
def keyD:Key->iO
 | .inl i=>.int i
 | .inr x=>.str x
def excC:List (iO×iO)->Option Str
 |(.none,.str c)::_=>some c
 |_=>none
mutual
def Den(K:Kd)(H:Hp):iO->V->Prop
 | .none,v=>v = .non
 | .bool b,v=>v = .bl b
 | .int i,v=>v = .int i
 | .str x,v=>v = .str x
 | .list ds,v=>∃a xs,v = .ref a/\FzL K H a xs/\DenAll K H ds xs
 | .tuple ds,v=>∃a xs,v = .ref a/\SqT K H a xs/\DenAll K H ds xs
 | .dict kvs,v=>∃a,v = .ref a/\((∃es,FzD H a es/\xT kvs/\DenKV K H kvs es)\/(∃es o,H a=some (.frz o (.dK es))/\DenKK K H kvs es)\/∃c xs,excC kvs=some c/\ML K H a c xs/\DenXF K H kvs xs)
def DenAll(K:Kd)(H:Hp):List iO->List V->Prop
 |[],xs=>xs=[]
 |d::ds,xs=>∃v vs,xs=v::vs/\Den K H d v/\DenAll K H ds vs
def DenKV(K:Kd)(H:Hp):List (iO×iO)->List (Int×V×V)->Prop
 |[],es=>es=[]
 |(k,d)::r,es=>∃u v vs,es=(dY K.w k,u,v)::vs/\Den K H k u/\Den K H d v/\DenKV K H r vs
def DenKK(K:Kd)(H:Hp):List (iO×iO)->List (Key×V)->Prop
 |[],es=>es=[]
 |(k,d)::r,es=>∃kk v vs,es=(kk,v)::vs/\(k=keyD kk/\∀x∈vs,x.1≠kk)/\Den K H d v/\DenKK K H r vs
def DenXF(K:Kd)(H:Hp):List (iO×iO)->List (Str×V)->Prop
 |[],xs=>xs=[]
 |(k,d)::r,xs=>match k with
  | .str f=>∃v vs,xs=(f,v)::vs/\Den K H d v/\DenXF K H r vs
  |_=>DenXF K H r xs
end
structure Pers(H H':Hp):Prop where
 tups:∀b xs,H b=some (.tup xs)->H' b=some (.tup xs)
 frzs:∀b o u,H b=some (.frz o u)->H' b=some (.frz o u)
theorem Pers.trans(a:Pers H H1)(b:Pers H1 H2):Pers H H2:=⟨fun c xs e=>b.tups c xs (a.tups c xs e),fun c o u e=>b.frzs c o u (a.frzs c o u e)⟩
section
variable {K:Kd}{H H':Hp}
theorem FzL.mono(p:Pers H H')(h:FzL K H a xs):FzL K H' a xs:=by
 rcases h with⟨o,h⟩|h
 .exact .inl ⟨o,p.frzs _ _ _ h⟩
 .exact .inr h
theorem SqT.mono(p:Pers H H')(h:SqT K H a xs):SqT K H' a xs:=by
 rcases h with(h|⟨o,h⟩)|h
 .exact .inl (.inl (p.tups _ _ h))
 .exact .inl (.inr ⟨o,p.frzs _ _ _ h⟩)
 .exact .inr h
mutual
theorem Den.mono(p:Pers H H'):∀{d:iO}{v:V},Den K H d v->Den K H' d v
 | .none,_,h=>h
 | .bool _,_,h=>h
 | .int _,_,h=>h
 | .str _,_,h=>h
 | .list ds,_,h=>by
  simp only[Den]at h⊢;obtain⟨a,xs,e,f,g⟩:=h;exact⟨a,xs,e,f.mono p,DenAll.mono p g⟩
 | .tuple ds,_,h=>by
  simp only[Den]at h⊢;obtain⟨a,xs,e,f,g⟩:=h;exact⟨a,xs,e,f.mono p,DenAll.mono p g⟩
 | .dict kvs,_,h=>by
  simp only[Den]at h⊢;obtain⟨a,e,h⟩:=h;refine⟨a,e,?_⟩;rcases h with⟨es,⟨o,f⟩,kk,g⟩|⟨es,o,f,g⟩|⟨c,xs,ec,⟨o,u,C,f1,f2,f0,f3,f4⟩,g⟩
  .exact .inl ⟨es,⟨o,p.frzs _ _ _ f⟩,kk,DenKV.mono p g⟩
  .exact .inr (.inl ⟨es,o,p.frzs _ _ _ f,DenKK.mono p g⟩)
  .refine .inr <| .inr ⟨c,xs,ec,⟨o,u,C,p.frzs _ _ _ f1,f2,f0,f3,?_⟩,DenXF.mono p g⟩;rcases f4 with f4|⟨dx,od,f5,f6⟩
   .exact .inl f4
   .exact .inr ⟨dx,od,f5,p.frzs _ _ _ f6⟩
theorem DenAll.mono(p:Pers H H'):∀{ds:List iO}{xs:List V},DenAll K H ds xs->DenAll K H' ds xs
 |[],_,h=>h
 |d::ds,_,h=>by
  simp only[DenAll]at h⊢;obtain⟨v,vs,e,f,g⟩:=h;exact⟨v,vs,e,Den.mono p f,DenAll.mono p g⟩
theorem DenKV.mono(p:Pers H H'):∀{ds:List (iO×iO)}{xs:List (Int×V×V)},DenKV K H ds xs->DenKV K H' ds xs
 |[],_,h=>by simpa only[DenKV]using h
 |(k,d)::r,_,h=>by
  simp only[DenKV]at h⊢;obtain⟨u,v,vs,e,f1,f2,g⟩:=h;exact⟨u,v,vs,e,Den.mono p f1,Den.mono p f2,DenKV.mono p g⟩
theorem DenKK.mono(p:Pers H H'):∀{ds:List (iO×iO)}{xs:List (Key×V)},DenKK K H ds xs->DenKK K H' ds xs
 |[],_,h=>by simpa only[DenKK]using h
 |(k,d)::r,_,h=>by
  simp only[DenKK]at h⊢;obtain⟨u,v,vs,e,f1,f2,g⟩:=h;exact⟨u,v,vs,e,f1,Den.mono p f2,DenKK.mono p g⟩
theorem DenXF.mono(p:Pers H H'):∀{ds:List (iO×iO)}{xs:List (Str×V)},DenXF K H ds xs->DenXF K H' ds xs
 |[],_,h=>by simpa only[DenXF]using h
 |(.str f,d)::r,_,h=>by
  simp only[DenXF]at h⊢;obtain⟨v,vs,e,f1,g⟩:=h;exact⟨v,vs,e,Den.mono p f1,DenXF.mono p g⟩
 |(.none,d)::r,_,h=>by simp only[DenXF]at h⊢;exact DenXF.mono p h
 |(.bool _,d)::r,_,h=>by simp only[DenXF]at h⊢;exact DenXF.mono p h
 |(.int _,d)::r,_,h=>by simp only[DenXF]at h⊢;exact DenXF.mono p h
 |(.list _,d)::r,_,h=>by simp only[DenXF]at h⊢;exact DenXF.mono p h
 |(.tuple _,d)::r,_,h=>by simp only[DenXF]at h⊢;exact DenXF.mono p h
 |(.dict _,d)::r,_,h=>by simp only[DenXF]at h⊢;exact DenXF.mono p h
end
theorem DenAll.nil:DenAll K H [] []:=by simp only[DenAll]
theorem DenAll.cons{d:iO}(h:Den K H d v)(t:DenAll K H ds vs):DenAll K H (d::ds) (v::vs):=by
 simp only[DenAll];exact⟨v,vs,rfl,h,t⟩
theorem DenAll.paired:∀{ds:List iO}{xs:List V},DenAll K H ds xs->abV (Den K H) ds xs
 |[],_,h=>by simp only[DenAll]at h;subst h;exact .nil
 |d::ds,_,h=>by
  simp only[DenAll]at h;obtain⟨v,vs,e,f,g⟩:=h;subst e;exact .cons f g.paired
theorem fI:∀{ds:List iO}{xs:List V},abV (Den K H) ds xs->DenAll K H ds xs
 |_,_,.nil=>DenAll.nil
 |_,_,.cons f t=>DenAll.cons f (fI t)
theorem DenAll.length(h:DenAll K H ds xs):ds.length=xs.length:=h.paired.length
theorem Paired.get'{α β:Type}{F:α->β->Prop}:∀{l₁:List α}{l₂:List β}{i:Nat}{a:α},abV F l₁ l₂->l₁[i]?=some a->∃b,l₂[i]?=some b/\F a b
 |_,_,_,_,.nil,e=>by simp at e
 |_,_,0,_,.cons f _,e=>by simp at e;subst e;exact⟨_,rfl,f⟩
 |_,_,i+1,a,.cons _ t,e=>by
  obtain⟨b,h1,h2⟩:=Paired.get' (i:=i) (a:=a) t (by simpa using e);exact⟨b,by simpa using h1,h2⟩
theorem DenAll.get{d:iO}(h:DenAll K H ds xs)(e:ds[i]?=some d):∃v,xs[i]?=some v/\Den K H d v:=Paired.get' h.paired e
theorem Paired.get2{α β:Type}{F:α->β->Prop}:∀{l₁:List α}{l₂:List β}{i:Nat}{b:β},abV F l₁ l₂->l₂[i]?=some b->∃a,l₁[i]?=some a/\F a b
 |_,_,_,_,.nil,e=>by simp at e
 |_,_,0,_,.cons f _,e=>by simp at e;subst e;exact⟨_,rfl,f⟩
 |_,_,i+1,b,.cons _ t,e=>by
  obtain⟨a,h1,h2⟩:=Paired.get2 (i:=i) (b:=b) t (by simpa using e);exact⟨a,by simpa using h1,h2⟩
theorem DenAll.get2(h:DenAll K H ds xs)(e:xs[i]?=some v):∃d,ds[i]?=some d/\Den K H d v:=Paired.get2 h.paired e
theorem Paired.append'{α β:Type}{F:α->β->Prop}:∀{a b:List α}{c d:List β},abV F a c->abV F b d->abV F (a++b) (c++d)
 |_,_,_,_,.nil,s=>s
 |_,_,_,_,.cons r t,s=>.cons r (Paired.append' t s)
theorem DenAll.append{es:List iO}{ys:List V}(h:DenAll K H ds xs)(g:DenAll K H es ys):DenAll K H (ds++es) (xs++ys):=fI (Paired.append' h.paired g.paired)
theorem Paired.set'{α β:Type}{F:α->β->Prop}{a:α}{b:β}(f:F a b):∀{l₁:List α}{l₂:List β} (i:Nat),abV F l₁ l₂->abV F (l₁.set i a) (l₂.set i b)
 |_,_,_,.nil=>.nil
 |_,_,0,.cons _ t=>.cons f t
 |_,_,i+1,.cons q t=>.cons q (Paired.set' f i t)
theorem DenAll.set{d:iO}(h:DenAll K H ds xs)(f:Den K H d v)(i:Nat):DenAll K H (ds.set i d) (xs.set i v):=fI (Paired.set' f i h.paired)
theorem Paired.take'{α β:Type}{F:α->β->Prop}:∀{l₁:List α}{l₂:List β} (n:Nat),abV F l₁ l₂->abV F (l₁.take n) (l₂.take n)
 |_,_,0,_=>.nil
 |_,_,_+1,.nil=>.nil
 |_,_,n+1,.cons r t=>.cons r (Paired.take' n t)
theorem Paired.drop'{α β:Type}{F:α->β->Prop}:∀{l₁:List α}{l₂:List β} (n:Nat),abV F l₁ l₂->abV F (l₁.drop n) (l₂.drop n)
 |_,_,0,h=>h
 |_,_,_+1,.nil=>.nil
 |_,_,n+1,.cons _ t=>Paired.drop' n t
theorem DenAll.take(h:DenAll K H ds xs)(n:Nat):DenAll K H (ds.take n) (xs.take n):=fI (Paired.take' n h.paired)
theorem DenAll.drop(h:DenAll K H ds xs)(n:Nat):DenAll K H (ds.drop n) (xs.drop n):=fI (Paired.drop' n h.paired)
theorem DenAll.ints:∀ns:List Int,DenAll K H (ns.map .int) (ns.map V.int)
 |[]=>DenAll.nil
 |n::ns=>DenAll.cons (by simp only[Den]) (DenAll.ints ns)
end
def fzOf:List (iO×iO)->Option iO
 |[(.none,.list ds)]=>some (.list ds)
 |[(.none,.dict es)]=>some (.dict es)
 |_=>none
mutual
def TAt(K:Kd)(H:Hp)(τ:List (List Nat×Addr))(p:List Nat):iO->V->Prop
 | .list ts,v=>∃a xs,τ.lookup p=some a/\v = .ref a/\H a=some (.lst xs)/\TAtL K H τ p 0 ts xs
 | .dict kvs,v=>(∃d,fzOf kvs=some d/\Den K H d v) \/
   (fzOf kvs=none/\excC kvs=none/\∃a es,τ.lookup p=some a/\v = .ref a/\H a=some (dX a es)/\xT kvs/\TAtD K H τ p 0 kvs es) \/
   (fzOf kvs=none/\excC kvs=none/\∃a es,τ.lookup p=some a/\v = .ref a/\H a=some (.dK es)/\TAtK K H τ p 0 kvs es) \/
   ∃c a dx C xs,excC kvs=some c/\τ.lookup p=some a/\v = .ref a/\H a=some (.ins C dx xs)/\ClsN K c C/\TAtF K H τ p 0 kvs xs
 | .none,v=>Den K H .none v
 | .bool b,v=>Den K H (.bool b) v
 | .int i,v=>Den K H (.int i) v
 | .str x,v=>Den K H (.str x) v
 | .tuple ds,v=>Den K H (.tuple ds) v
def TAtL(K:Kd)(H:Hp)(τ:List (List Nat×Addr))(p:List Nat)(i:Nat):List iO->List V->Prop
 |[],xs=>xs=[]
 |t::ts,xs=>∃v vs,xs=v::vs/\TAt K H τ (p++[i]) t v/\TAtL K H τ p (i+1) ts vs
def TAtD(K:Kd)(H:Hp)(τ:List (List Nat×Addr))(p:List Nat)(i:Nat):List (iO×iO)->List (Int×V×V)->Prop
 |[],es=>es=[]
 |(k,t)::r,es=>∃u v vs,es=(dY K.w k,u,v)::vs/\Den K H k u/\TAt K H τ (p++[i]) t v/\TAtD K H τ p (i+1) r vs
def TAtK(K:Kd)(H:Hp)(τ:List (List Nat×Addr))(p:List Nat)(i:Nat):List (iO×iO)->List (Key×V)->Prop
 |[],es=>es=[]
 |(k,t)::r,es=>∃kk v vs,es=(kk,v)::vs/\(k=keyD kk/\∀x∈vs,x.1≠kk)/\TAt K H τ (p++[i]) t v/\TAtK K H τ p (i+1) r vs
def TAtF(K:Kd)(H:Hp)(τ:List (List Nat×Addr))(p:List Nat)(i:Nat):List (iO×iO)->List (Str×V)->Prop
 |[],xs=>xs=[]
 |(k,t)::r,xs=>match k with
  | .str f=>∃v vs,xs=(f,v)::vs/\TAt K H τ (p++[i]) t v/\TAtF K H τ p (i+1) r vs
  | .none=>TAtF K H τ p (i+1) r xs
  |_=>False
end
theorem bq{β γ:Type}[BEq β][LawfulBEq β]{l:List (β×γ)}{p:β}{a:γ}(h:l.lookup p=some a):a∈l.map (·.2):=by
 induction l with
 |nil=>cases h
 |cons x l ih =>
  rw[ab6]at h
  split at h
  .cases h;simp
  .exact aaA.mpr (let ⟨y,h1,h2⟩:=aaA.mp (ih h);⟨y,aaf _ h1,h2⟩)
section
variable {K:Kd}{H H':Hp}{τ:List (List Nat×Addr)}
mutual
theorem TAt.mono(pe:Pers H H')(e:∀a∈τ.map (·.2),H' a=H a):∀{d:iO}{p:List Nat}{v:V},TAt K H τ p d v->TAt K H' τ p d v
 | .none,_,_,h=>by simp only[TAt]at h⊢;exact h.mono pe
 | .bool _,_,_,h=>by simp only[TAt]at h⊢;exact h.mono pe
 | .int _,_,_,h=>by simp only[TAt]at h⊢;exact h.mono pe
 | .str _,_,_,h=>by simp only[TAt]at h⊢;exact h.mono pe
 | .tuple _,_,_,h=>by simp only[TAt]at h⊢;exact h.mono pe
 | .list ts,_,_,h=>by
  simp only[TAt]at h⊢;obtain⟨a,xs,e1,e2,e3,g⟩:=h;exact⟨a,xs,e1,e2,(e a (bq e1)).trans e3,TAtL.mono pe e g⟩
 | .dict kvs,_,_,h=>by
  simp only[TAt]at h⊢;rcases h with⟨d,e1,h⟩|⟨z1,z2,a,es,e1,e2,e3,k,g⟩|⟨z1,z2,a,es,e1,e2,e3,g⟩|⟨c,a,dx,C,xs,e0,e1,e2,e3,k,g⟩
  .exact .inl ⟨d,e1,h.mono pe⟩
  .exact .inr (.inl ⟨z1,z2,a,es,e1,e2,(e a (bq e1)).trans e3,k,TAtD.mono pe e g⟩)
  .exact .inr (.inr (.inl ⟨z1,z2,a,es,e1,e2,(e a (bq e1)).trans e3,TAtK.mono pe e g⟩))
  .exact .inr (.inr <| .inr ⟨c,a,dx,C,xs,e0,e1,e2,(e a (bq e1)).trans e3,k,TAtF.mono pe e g⟩)
theorem TAtL.mono(pe:Pers H H')(e:∀a∈τ.map (·.2),H' a=H a):∀{ds:List iO}{p:List Nat}{i:Nat}{xs:List V},TAtL K H τ p i ds xs->TAtL K H' τ p i ds xs
 |[],_,_,_,h=>by simpa only[TAtL]using h
 |t::ts,_,_,_,h=>by
  simp only[TAtL]at h⊢;obtain⟨v,vs,e1,g1,g2⟩:=h;exact⟨v,vs,e1,TAt.mono pe e g1,TAtL.mono pe e g2⟩
theorem TAtD.mono(pe:Pers H H')(e:∀a∈τ.map (·.2),H' a=H a):∀{ds:List (iO×iO)}{p:List Nat}{i:Nat}{xs:List (Int×V×V)},TAtD K H τ p i ds xs->TAtD K H' τ p i ds xs
 |[],_,_,_,h=>by simpa only[TAtD]using h
 |(k,t)::r,_,_,_,h=>by
  simp only[TAtD]at h⊢;obtain⟨u,v,vs,e1,g0,g1,g2⟩:=h;exact⟨u,v,vs,e1,g0.mono pe,TAt.mono pe e g1,TAtD.mono pe e g2⟩
theorem TAtK.mono(pe:Pers H H')(e:∀a∈τ.map (·.2),H' a=H a):∀{ds:List (iO×iO)}{p:List Nat}{i:Nat}{xs:List (Key×V)},TAtK K H τ p i ds xs->TAtK K H' τ p i ds xs
 |[],_,_,_,h=>by simpa only[TAtK]using h
 |(k,t)::r,_,_,_,h=>by
  simp only[TAtK]at h⊢;obtain⟨u,v,vs,e1,g0,g1,g2⟩:=h;exact⟨u,v,vs,e1,g0,TAt.mono pe e g1,TAtK.mono pe e g2⟩
theorem TAtF.mono(pe:Pers H H')(e:∀a∈τ.map (·.2),H' a=H a):∀{ds:List (iO×iO)}{p:List Nat}{i:Nat}{xs:List (Str×V)},TAtF K H τ p i ds xs->TAtF K H' τ p i ds xs
 |[],_,_,_,h=>by simpa only[TAtF]using h
 |(.str f,t)::r,_,_,_,h=>by
  simp only[TAtF]at h⊢;obtain⟨v,vs,e1,g1,g2⟩:=h;exact⟨v,vs,e1,TAt.mono pe e g1,TAtF.mono pe e g2⟩
 |(.none,d)::r,_,_,_,h=>by simp only[TAtF]at h⊢;exact TAtF.mono pe e h
 |(.bool _,d)::r,_,_,_,h=>by simp only[TAtF]at h
 |(.int _,d)::r,_,_,_,h=>by simp only[TAtF]at h
 |(.list _,d)::r,_,_,_,h=>by simp only[TAtF]at h
 |(.tuple _,d)::r,_,_,_,h=>by simp only[TAtF]at h
 |(.dict _,d)::r,_,_,_,h=>by simp only[TAtF]at h
end
end
abbrev Cx.kd(X:Cx):Kd:=⟨X.K,X.w⟩
section
variable {X:Cx}{pins:List (Addr×Obj)}{σ:St}{H:Hp}{s:aab}
mutual
theorem Den.reads(I:Inv X pins σ H s):∀{d:iO}{v:V}{u:GE},d.hasDict=false->Den X.kd H d v->RelV v u->∃as,Reads s.heap u d as
 | .none,v,u,_,h,r=>by simp only[Den]at h;subst h;cases r;exact⟨_,.none⟩
 | .bool b,v,u,nd,h,r=>by simp only[Den]at h;subst h;cases r;exact⟨_,.bool b⟩
 | .int i,v,u,nd,h,r=>by simp only[Den]at h;subst h;obtain⟨t,rfl⟩:=r;exact⟨_,.int i t⟩
 | .str x,v,u,nd,h,r=>by simp only[Den]at h;subst h;obtain⟨t,rfl⟩:=r;exact⟨_,.str x t⟩
 | .list ds,v,u,nd,h,r=>by
  simp only[Den]at h;obtain⟨a,xs,rfl,f,g⟩:=h;cases r;obtain⟨its,rv,⟨o,n,e,c,_,dd⟩,_⟩:=I.list f.sq;obtain⟨as,h2⟩:=DenAll.reads I (by simpa only[acx]using nd) g rv;exact⟨_,.list e c dd (by simpa using h2)⟩
 | .tuple ds,v,u,nd,h,r=>by
  simp only[Den]at h;obtain⟨a,xs,rfl,f,g⟩:=h;cases r;obtain⟨its,rv,⟨o,e,c,n,dd⟩,_⟩:=I.tuple f;obtain⟨as,h2⟩:=DenAll.reads I (by simpa only[acx]using nd) g rv;exact⟨_,.tuple e c dd (by simpa using h2)⟩
 | .dict _,v,u,nd,h,r=>by simp[acx]at nd
theorem DenAll.reads(I:Inv X pins σ H s):∀{ds:List iO}{xs:List V}{us:List GE},acD ds=false->DenAll X.kd H ds xs->Vals xs us->∃as,ad3 s.heap us ds as
 |[],xs,us,_,h,r=>by simp only[DenAll]at h;subst h;cases r;exact⟨_,.nil⟩
 | d::ds,xs,us,nd,h,r=>by
  simp only[acD,agP]at nd;simp only[DenAll]at h;obtain⟨v,vs,rfl,f,g⟩:=h
  cases r with
  |cons r1 r2 =>
   obtain⟨a1,h1⟩:=Den.reads I nd.1 f r1;obtain⟨a2,h2⟩:=DenAll.reads I nd.2 g r2;exact⟨_,.cons h1 h2⟩
end
theorem Inv.freeze(I:Inv X pins σ H s)(h:H a=some (.lst xs)):∃o,Inv X pins σ (upd H a (.frz o (.lst xs))) s:=by
 obtain⟨hz,its,n,rv,e⟩:=I.hok a _ h;refine⟨{cls:=.type "list",data:=.seq its.toArray n},I.un (h':=s.heap) (t':=s.toks) ⟨fun b ob q _ _ _=>q,fun b ob q _ _ _=>⟨ob.slots,q⟩,fun b ob q z _=>?_,fun b ob q _=>⟨ob,q⟩,fun b ys q=>?_,fun b ob u q=>?_,fun b ps q=>⟨#[],?_⟩⟩ fun b ob q=>?_⟩
 .rw[ap (abt (bf h z))];exact z
 .rw[ap (qG q h (by intro z;cases z))];exact q
 .rw[ap (qG q h (by intro z;cases z))];exact q
 .rw[ap (qG q h (by intro z;cases z)),q];simp
 .by_cases hb:b=a
  .subst hb;rw[aw]at q;cases q;exact⟨e,hz,its,n,rv,e⟩
  .rw[ap hb]at q;exact(I.hok b ob q).stay (fun _ _ _ z=>z) (fun c z=>by rw[ap (qG z h (by intro z;cases z))];exact z) fun c ys z=>by rw[ap (qG z h (by intro z;cases z))];exact z
end
def BH:Expr->Bool
 | .Starred ..=>true
 |_=>false
theorem aY{es:List Expr}(h:BH e=false):aan (e::es) env=(false,eval e env)::aan es env:=by
 cases e<;>first|rfl|cases h
theorem cu(h:BH e=false):aan [e] env=[(false,eval e env)]:=aY h
inductive R where
 |imm (d:iO)|obj (k:Nat)|new (ds:List iO)|at (k:Nat) (p:List Nat)|newT (t:iO)
structure MSt where
 vs:List (Option R)
 os:List (List iO)
 np:Nat
structure Kx extends Kd where
 eb:EB
instance:Coe Kx Kd:=⟨Kx.toKd⟩
abbrev Cx.kx(X:Cx):Kx:=⟨X.kd,X.eb⟩
abbrev Al:=List Ao
def Ao.ads:Ao->List Addr
 | .L a=>[a]
 | .T t=>t.map (·.2)
def ads(α:Al):List Addr:=α.flatMap Ao.ads
theorem iz(α β:Al):ads (α++β)=ads α++ads β:=by unfold ads;rw[acJ]
def Mu:HO->Bool
 | .tup _=>false
 | .frz _ _=>false
 |_=>true
def OwnAt(K:Kd)(H:Hp):Ao->List iO->Prop
 | .L a,ds=>∃xs,H a=some (.lst xs)/\DenAll K H ds xs
 | .T τ,ds=>(∃t v,ds=[t]/\TAt K H τ [] t v/\∃a,τ.lookup []=some a/\v = .ref a)/\∀a∈τ.map (·.2),∃o,H a=some o/\Mu o=true
theorem OwnAt.mem(h:OwnAt K H ao ds)(ha:a∈ao.ads):∃o,H a=some o/\Mu o=true:=by
 cases ao with
 |L b=>cases aaw.mp ha;obtain⟨xs,e,_⟩:=h;exact⟨_,e,rfl⟩
 |T τ=>exact h.2 a ha
theorem OwnAt.mono(h:OwnAt K H ao ds)(pe:Pers H H')(e:∀a∈ao.ads,H' a=H a):OwnAt K H' ao ds:=by
 cases ao with
 |L b =>
  obtain⟨xs,q,g⟩:=h;exact⟨xs,(e b (aaw.mpr rfl)).trans q,g.mono pe⟩
 |T τ =>
  obtain⟨⟨t,v,e1,g,r⟩,m⟩:=h;exact⟨⟨t,v,e1,g.mono pe e,r⟩,fun a ha=>by rw[e a ha];exact m a ha⟩
def RelS(K:Kd)(α:Al)(H:Hp):R->V->Prop
 | .imm d,v=>Den K H d v
 | .obj k,v=>∃a,α[k]?=some (.L a)/\v = .ref a
 | .at k p,v=>∃τ a,α[k]?=some (.T τ)/\τ.lookup p=some a/\v = .ref a
 | .new _,_=>False
 | .newT _,_=>False
def RelR(K:Kd)(α:Al)(Hb H:Hp):R->V->Prop
 | .imm d,v=>Den K H d v
 | .obj k,v=>∃a,α[k]?=some (.L a)/\v = .ref a
 | .at k p,v=>∃τ a,α[k]?=some (.T τ)/\τ.lookup p=some a/\v = .ref a
 | .new ds,v=>∃a xs,v = .ref a/\Hb a=none/\H a=some (.lst xs)/\DenAll K H ds xs
 | .newT t,v=>∃τ a,v = .ref a/\τ.lookup []=some a/\(τ.map (·.2)).Nodup/\(∀b∈τ.map (·.2),Hb b=none)/\OwnAt K H (.T τ) [t]
def Frm(α:Al)(H H':Hp):Prop:=∀b o,H b=some o->b∉ads α->H' b=some o
theorem Frm.refl(α:Al)(H:Hp):Frm α H H:=fun _ _ e _=>e
theorem Frm.trans(a:Frm α H H1)(b:Frm α H1 H2):Frm α H H2:=fun c o e n=>b c o (a c o e n) n
structure Ext(np:Nat)(α:Al)(H:Hp)(α':Al)(H':Hp):Prop where
 pre:α'.take np=α.take np
 frm:Frm α H H'
 new:∀a∈ads α',a∈ads α\/H a=none
 old:∀a∈ads α,∃o,H' a=some o
theorem Ext.trans{np:Nat}{α2:Al}(x:Ext np α H α1 H1)(y:Ext np α1 H1 α2 H2):Ext np α H α2 H2:=by
 have out:∀b o,H b=some o->b∉ads α->b∉ads α1:=fun b o e n hb=>by
  rcases x.new b hb with z|z
  .exact n z
  .rw[e]at z;cases z
 refine⟨y.pre.trans x.pre,fun b o e n=>y.frm b o (x.frm b o e n) (out b o e n),fun a ha=>?_,fun a ha=>?_⟩
 .rcases y.new a ha with z|z
  .exact x.new a z
  .cases q:H a with
   |none=>exact .inr rfl
   |some o =>
    by_cases hm:a∈ads α
    .exact .inl hm
    .have:=x.frm a o q hm;rw[z]at this;cases this
 .obtain⟨o,e⟩:=x.old a ha
  by_cases hm:a∈ads α1
  .exact y.old a hm
  .exact⟨o,y.frm a o e hm⟩
theorem Ext.nil{np:Nat}(x:Ext np α H α1 H1)(h:H1 a=none):H a=none:=by
 cases q:H a with
 |none=>rfl
 |some o =>
  by_cases hm:a∈ads α
  .obtain⟨o',e⟩:=x.old a hm;rw[h]at e;cases e
  .have:=x.frm a o q hm;rw[h]at this;cases this
theorem Ext.less{np n1:Nat}(x:Ext n1 α H α' H')(h:np≤n1):Ext np α H α' H':=by
 refine⟨?_,x.frm,x.new,x.old⟩;have:=congrArg (List.take np) x.pre;rw[List.take_take,List.take_take,agz h]at this;exact this
structure Rel(K:Kx)(α:Al)(m:MSt)(σ:St)(H:Hp):Prop where
 nd:(ads α).Nodup
 len:α.length=m.os.length
 own:∀(k:Nat) (ao:Ao) (ds:List iO),α[k]?=some ao->m.os[k]?=some ds->OwnAt K H ao ds
 vlen:σ.length=m.vs.length
 var:∀(i:Nat) (r:R),m.vs[i]?=some (some r)->∃v,σ[i]?=some (some v)/\RelS K α H r v
 npl:m.np≤α.length
 ebl:K.eb.np≤m.np
 ebx:Ext K.eb.np K.eb.be K.eb.H α H
section
variable {K:Kx}{α:Al}{m m':MSt}{σ:St}{H H0 H1 H':Hp}{r:R}{v:V}
theorem RelS.rr{K:Kd}(h:RelS K α H r v):RelR K α Hb H r v:=by
 cases r with
 |imm d=>exact h
 |obj k=>exact h
 | «at» k p=>exact h
 |new ds=>exact h.elim
 |newT t=>exact h.elim
theorem Rel.mem(R:Rel K α m σ H)(ha:a∈ads α):∃o,H a=some o/\Mu o=true:=by
 obtain⟨ao,h1,h2⟩:=adk.mp ha;obtain⟨k,hk,e⟩:=abx.mp h1;have h1:α[k]?=some ao:=by rw[oR hk,e]
 have h2':m.os[k]?=some (m.os[k]'(by rw[<-R.len];exact hk)):=oR _;exact(R.own k ao _ h1 h2').mem h2
theorem Rel.out(R:Rel K α m σ H)(h:H a=none):a∉ads α:=fun ha=>by
 obtain⟨xs,q,_⟩:=R.mem ha;rw[h]at q;cases q
theorem Rel.pers(R:Rel K α m σ H)(F:Frm α H H'):Pers H H' where
 tups:=fun b xs e=>F b _ e fun ha=>by obtain⟨ys,q,z⟩:=R.mem ha;rw[e]at q;cases q;cases z
 frzs:=fun b o u e=>F b _ e fun ha=>by obtain⟨ys,q,z⟩:=R.mem ha;rw[e]at q;cases q;cases z
theorem Ext.of{np:Nat}(R:Rel K α m σ H')(F:Frm α H H'):Ext np α H α H' :=
 ⟨rfl,F,fun _ h=>.inl h,fun a ha=>let ⟨xs,q,_⟩:=R.mem ha;⟨_,q⟩⟩
theorem OwnAt.keep{K:Kd}(h:OwnAt K H1 ao ds)(pe:Pers H1 H)(F:Frm α H1 H)(n:∀b∈ao.ads,b∉ads α):OwnAt K H ao ds :=
 h.mono pe fun a ha=>by
  obtain⟨o,e,_⟩:=h.mem ha;rw[e];exact F a o e (n a ha)
theorem RelR.keep(R0:Rel K α m σ H0)(R1:Rel K α m' σ H1)(F:Frm α H1 H)(h:RelR K α H0 H1 r v):RelR K α H0 H r v:=by
 cases r with
 |imm d=>exact Den.mono (R1.pers F) h
 |obj k=>exact h
 | «at» k p=>exact h
 |new ds =>
  obtain⟨a,xs,e,n,q,g⟩:=h;exact⟨a,xs,e,n,F a _ q (R0.out n),g.mono (R1.pers F)⟩
 |newT t =>
  obtain⟨τ,a,e,e1,nd,n,g⟩:=h;exact⟨τ,a,e,e1,nd,n,g.keep (R1.pers F) F fun b hb=>R0.out (n b hb)⟩
theorem RelR.base(R:Rel K α m σ H)(F:Frm α H0 H)(h:RelR K α H H' r v):RelR K α H0 H' r v:=by
 have old:∀a,H a=none->H0 a=none:=fun a n=>by
  cases z:H0 a with
  |none=>rfl
  |some o =>
   have:=F a o z (R.out n);rw[n]at this;cases this
 cases r with
 |imm d=>exact h
 |obj k=>exact h
 | «at» k p=>exact h
 |new ds =>
  obtain⟨a,xs,e,n,q,g⟩:=h;exact⟨a,xs,e,old a n,q,g⟩
 |newT t =>
  obtain⟨τ,a,e,e1,nd,n,g⟩:=h;exact⟨τ,a,e,e1,nd,fun b hb=>old b (n b hb),g⟩
def chD:iO->Nat->Option iO
 | .list ts,i=>ts[i]?
 | .dict kvs,i=>match kvs[i]? with
  |some (.none,_)=>none
  |some (_,t)=>some t
  |none=>none
 |_,_=>none
def getT:iO->List Nat->Option iO
 |t,[]=>some t
 |t,i::p=>(chD t i).bind fun t'=>getT t' p
def w5:iO->Option iO
 | .list _=>none
 | .dict kvs=>fzOf kvs
 |d=>some d
def iE:List iO->Option (List iO)
 |[]=>some []
 |t::ts=>match w5 t,iE ts with|some d,some ds=>some (d::ds)|_,_=>none
def ndL(m:MSt)(k:Nat)(p:List Nat):Option (List iO):=match m.os[k]? with
 |some [t]=>match getT t p with
  |some (.list ts)=>iE ts
  |_=>none
 |_=>none
theorem jl{K:Kd}{p:List Nat}{t d:iO}(h:TAt K H τ p t v)(e:w5 t=some d):Den K H d v:=by
 cases t with
 |list ts=>cases e
 | dict kvs =>
  have e':fzOf kvs=some d:=e;simp only[TAt]at h;rcases h with⟨d',e1,h⟩|⟨z,_⟩|⟨z,_⟩|⟨c,a,dx,C,xs,e0,_⟩
  .rw[e']at e1;cases e1;exact h
  .rw[e']at z;cases z
  .rw[e']at z;cases z
  .exfalso;unfold fzOf at e';unfold excC at e0
   split at e'<;>simp_all
 |none=>cases e;simpa only[TAt]using h
 |bool _=>cases e;simpa only[TAt]using h
 |int _=>cases e;simpa only[TAt]using h
 |str _=>cases e;simpa only[TAt]using h
 |tuple _=>cases e;simpa only[TAt]using h
theorem lh{K:Kd}{τ:List (List Nat×Addr)}{p:List Nat}:∀{ts ds:List iO}{i:Nat}{xs:List V},TAtL K H τ p i ts xs->iE ts=some ds->DenAll K H ds xs
 |[],ds,i,xs,h,e=>by
  cases e;simp only[TAtL]at h;subst h;exact DenAll.nil
 | t::ts,ds,i,xs,h,e=>by
  simp only[TAtL]at h;obtain⟨v,vs,rfl,g1,g2⟩:=h;simp only[iE]at e
  cases q1:w5 t with
  |none=>rw[q1]at e;cases e
  | some d =>
   cases q2:iE ts with
   |none=>rw[q1,q2]at e;cases e
   |some ds' =>
    rw[q1,q2]at e;cases e;exact DenAll.cons (jl g1 q1) (lh g2 q2)
theorem TAtL.get{K:Kd}{τ:List (List Nat×Addr)}{p:List Nat}:∀{ts:List iO}{i j:Nat}{xs:List V}{t:iO},TAtL K H τ p i ts xs->ts[j]?=some t->∃v,xs[j]?=some v/\TAt K H τ (p++[i+j]) t v
 |[],_,_,_,_,_,e=>by simp at e
 |t::ts,i,0,xs,t',h,e=>by
  simp only[TAtL]at h;obtain⟨v,vs,rfl,g1,_⟩:=h;simp at e;subst e;exact⟨v,rfl,g1⟩
 |t::ts,i,j+1,xs,t',h,e=>by
  simp only[TAtL]at h;obtain⟨v,vs,rfl,_,g2⟩:=h;obtain⟨v',e1,e2⟩:=TAtL.get (j:=j) g2 (by simpa using e);exact⟨v',by simpa using e1,by rw[show i+(j+1)=i+1+j by omega];exact e2⟩
theorem TAtD.get{K:Kd}{τ:List (List Nat×Addr)}{p:List Nat}:∀{ts:List (iO×iO)}{i j:Nat}{xs:List (Int×V×V)}{k t:iO},TAtD K H τ p i ts xs->ts[j]?=some (k,t)->∃u v,xs[j]?=some (dY K.w k,u,v)/\Den K H k u/\TAt K H τ (p++[i+j]) t v
 |[],_,_,_,_,_,_,e=>by simp at e
 |(k,t)::ts,i,0,xs,k',t',h,e=>by
  simp only[TAtD]at h;obtain⟨u,v,vs,rfl,g0,g1,_⟩:=h;simp at e;obtain⟨rfl,rfl⟩:=e;exact⟨u,v,rfl,g0,g1⟩
 |(k,t)::ts,i,j+1,xs,k',t',h,e=>by
  simp only[TAtD]at h;obtain⟨u,v,vs,rfl,_,_,g2⟩:=h;obtain⟨u',v',e1,e0,e2⟩:=TAtD.get (j:=j) g2 (by simpa using e);exact⟨u',v',by simpa using e1,e0,by rw[show i+(j+1)=i+1+j by omega];exact e2⟩
theorem TAtK.get{K:Kd}{τ:List (List Nat×Addr)}{p:List Nat}:∀{ts:List (iO×iO)}{i j:Nat}{xs:List (Key×V)}{k t:iO},TAtK K H τ p i ts xs->ts[j]?=some (k,t)->∃v,TAt K H τ (p++[i+j]) t v
 |[],_,_,_,_,_,_,e=>by simp at e
 |(k,t)::ts,i,0,xs,k',t',h,e=>by
  simp only[TAtK]at h;obtain⟨u,v,vs,rfl,g0,g1,_⟩:=h;simp at e;obtain⟨rfl,rfl⟩:=e;exact⟨v,g1⟩
 |(k,t)::ts,i,j+1,xs,k',t',h,e=>by
  simp only[TAtK]at h;obtain⟨u,v,vs,rfl,_,_,g2⟩:=h;obtain⟨v',e2⟩:=TAtK.get (j:=j) g2 (by simpa using e);exact⟨v',by rw[show i+(j+1)=i+1+j by omega];exact e2⟩
theorem TAtF.get{K:Kd}{τ:List (List Nat×Addr)}{p:List Nat}:∀{ts:List (iO×iO)}{i j:Nat}{xs:List (Str×V)}{f:Str}{t:iO},TAtF K H τ p i ts xs->ts[j]?=some (.str f,t)->∃v,(f,v)∈xs/\TAt K H τ (p++[i+j]) t v
 |[],_,_,_,_,_,_,e=>by simp at e
 |(k,t)::ts,i,0,xs,f,t',h,e=>by
  simp at e;obtain⟨rfl,rfl⟩:=e;simp only[TAtF]at h;obtain⟨v,vs,rfl,g1,_⟩:=h;exact⟨v,aah,g1⟩
 | (k,t)::ts,i,j+1,xs,f,t',h,e=>by
  have go:∀{ys:List (Str×V)},TAtF K H τ p (i+1) ts ys->∃v,(f,v)∈ys/\TAt K H τ (p++[i+(j+1)]) t' v:=fun {ys} g2=>by
   obtain⟨v',e1,e2⟩:=TAtF.get (j:=j) g2 (by simpa using e);exact⟨v',e1,by rw[show i+(j+1)=i+1+j by omega];exact e2⟩
  cases k with
  |str f' =>
   simp only[TAtF]at h;obtain⟨v,vs,rfl,_,g2⟩:=h;obtain⟨v',e1,e2⟩:=go g2;exact⟨v',aaf _ e1,e2⟩
  |none=>simp only[TAtF]at h;exact go h
  |bool _=>simp only[TAtF]at h
  |int _=>simp only[TAtF]at h
  |list _=>simp only[TAtF]at h
  |tuple _=>simp only[TAtF]at h
  |dict _=>simp only[TAtF]at h
theorem TAtF.key{K:Kd}{p:List Nat}:∀{ts:List (iO×iO)}{i:Nat}{xs:List (Str×V)}{k t:iO},TAtF K H τ p i ts xs->(k,t)∈ts->k≠.none->∃f,k = .str f
 |[],_,_,_,_,_,e,_=>by simp at e
 | (k,t)::ts,i,xs,k',t',h,e,kn=>by
  cases k with
  |str f' =>
   simp only[TAtF]at h;obtain⟨v,vs,rfl,_,g2⟩:=h;rcases aas.mp e with e|e
   .cases e;exact⟨_,rfl⟩
   .exact g2.key e kn
  |none =>
   simp only[TAtF]at h;rcases aas.mp e with e|e
   .cases e;exact(kn rfl).elim
   .exact h.key e kn
  |bool _=>simp only[TAtF]at h
  |int _=>simp only[TAtF]at h
  |list _=>simp only[TAtF]at h
  |tuple _=>simp only[TAtF]at h
  |dict _=>simp only[TAtF]at h
theorem TAt.get{K:Kd}{τ:List (List Nat×Addr)}:∀{q p:List Nat}{t t':iO}{v:V},TAt K H τ p t v->getT t q=some t'->∃v',TAt K H τ (p++q) t' v'
 |[],p,t,t',v,h,e=>by cases e;exact⟨v,by rw[abb];exact h⟩
 | i::q,p,t,t',v,h,e=>by
  simp only[getT]at e
  cases z:chD t i with
  |none=>rw[z]at e;cases e
  | some t1 =>
   rw[z]at e;have e':getT t1 q=some t':=e;have step:∃v1,TAt K H τ (p++[i]) t1 v1:=by
    cases t with
    |list ts =>
     simp only[TAt]at h;obtain⟨a,xs,_,_,_,g⟩:=h;obtain⟨v1,_,g1⟩:=g.get (j:=i) z;exact⟨v1,by rw[abO]at g1;exact g1⟩
    | dict kvs =>
     simp only[chD]at z
     cases zi:kvs[i]? with
     |none=>rw[zi]at z;cases z
     | some kt =>
      obtain⟨k,t2⟩:=kt;rw[zi]at z;have kn:k≠.none:=fun q=>by subst q;cases z
      have e2:t2=t1:=by
       split at z<;>simp_all
      subst e2;simp only[TAt]at h;rcases h with⟨d,e1,_⟩|⟨_,_,a,es,_,_,_,_,g⟩|⟨_,_,a,es,_,_,_,g⟩|⟨c,a,dx,C,xs,e0,_,_,_,_,g⟩
      .exfalso;unfold fzOf at e1
       split at e1
       .cases i<;>simp at zi;exact kn zi.1.symm
       .cases i<;>simp at zi;exact kn zi.1.symm
       .cases e1
      .obtain⟨u,v1,_,_,g1⟩:=g.get (j:=i) zi;exact⟨v1,by rw[abO]at g1;exact g1⟩
      .obtain⟨v1,g1⟩:=g.get (j:=i) zi;exact⟨v1,by rw[abO]at g1;exact g1⟩
      .obtain⟨f,rfl⟩:=g.key (OR zi) kn;obtain⟨v1,_,g1⟩:=g.get (j:=i) zi;exact⟨v1,by rw[abO]at g1;exact g1⟩
    |none=>cases z
    |bool _=>cases z
    |int _=>cases z
    |str _=>cases z
    |tuple _=>cases z
   obtain⟨v1,h1⟩:=step;obtain⟨v',h2⟩:=TAt.get h1 e';exact⟨v',by rw[acB]at h2;exact h2⟩
def lsOf(m:MSt):R->Option (List iO)
 | .imm (.list ds)=>some ds
 | .obj k=>m.os[k]?
 | .new ds=>some ds
 | .at k p=>ndL m k p
 |_=>none
mutual
def eraT:iO->Option iO
 | .list ts=>(eraL ts).map .list
 | .dict kvs=>fzOf kvs
 | .none=>some .none
 | .bool b=>some (.bool b)
 | .int i=>some (.int i)
 | .str x=>some (.str x)
 | .tuple ds=>some (.tuple ds)
def eraL:List iO->Option (List iO)
 |[]=>some []
 |t::ts=>match eraT t,eraL ts with|some d,some ds=>some (d::ds)|_,_=>none
end
def ndT(m:MSt)(k:Nat)(p:List Nat):Option iO:=match m.os[k]? with
 |some [t]=>getT t p
 |_=>none
def asD(m:MSt):R->Option iO
 | .imm d=>some d
 | .obj k=>(m.os[k]?).map .list
 | .new ds=>some (.list ds)
 | .at k p=>match ndT m k p with
  |some (.list ts)=>(eraL ts).map .list
  |_=>none
 | .newT _=>none
theorem RelR.node(R:Rel K α m σ H){k:Nat}{p:List Nat}(h:RelR K α H0 H (.at k p) v){t:iO}(e:ndT m k p=some t):∃τ a v',α[k]?=some (.T τ)/\τ.lookup p=some a/\v = .ref a/\TAt K H τ p t v':=by
 obtain⟨τ,a,e1,e2,e3⟩:=h;unfold ndT at e
 split at e
 .rename_i t0 e0;obtain⟨⟨t1,v0,e4,g,_⟩,_⟩:=R.own k (.T τ) _ e1 e0;cases e4;obtain⟨v',g'⟩:=g.get e;exact⟨τ,a,v',e1,e2,e3,by simpa using g'⟩
 .cases e
theorem RelR.list(R:Rel K α m σ H)(h:RelR K α H0 H r v)(e:lsOf m r=some ds):∃a xs,v = .ref a/\SqL K H a xs/\DenAll K H ds xs:=by
 cases r with
 | imm d =>
  cases d with
  |list es =>
   cases e;have h':Den K H (.list ds) v:=h;simp only[Den]at h';obtain⟨a,xs,e1,f,g⟩:=h';exact⟨a,xs,e1,f.sq,g⟩
  |none=>cases e
  |bool _=>cases e
  |int _=>cases e
  |str _=>cases e
  |tuple _=>cases e
  |dict _=>cases e
 |obj k =>
  obtain⟨a,e1,rfl⟩:=h;obtain⟨xs,q,g⟩:=R.own k _ ds e1 e;exact⟨a,xs,rfl,SqL.of q,g⟩
 |new es =>
  cases e;obtain⟨a,xs,e1,n,q,g⟩:=h;exact⟨a,xs,e1,SqL.of q,g⟩
 | «at» k p =>
  have e':ndL m k p=some ds:=e;obtain⟨ts,e1,e2⟩:∃ts,ndT m k p=some (.list ts)/\iE ts=some ds:=by
   unfold ndL at e';unfold ndT
   split at e'
   .split at e'
    .rename_i h0 _ ts h1;exact⟨ts,h1,e'⟩
    .cases e'
   .cases e'
  obtain⟨τ,a,v',_,ea,rfl,g⟩:=RelR.node R h e1;simp only[TAt]at g;obtain⟨a',xs,ea',_,q,g⟩:=g;rw[ea]at ea';cases ea';exact⟨a,xs,rfl,SqL.of q,lh g e2⟩
 |newT _=>cases e
end
section
variable {X:Cx}{pins:List (Addr×Obj)}{σ:St}{H:Hp}{s:aab}{τ:List (List Nat×Addr)}
mutual
theorem TAt.reads(I:Inv X pins σ H s):∀{t d:iO}{p:List Nat}{v:V}{u:GE},eraT t=some d->d.hasDict=false->TAt X.kd H τ p t v->RelV v u->∃as,Reads s.heap u d as
 | .none,d,p,v,u,e,nd,h,r=>by simp only[eraT]at e;cases e;simp only[TAt]at h;exact h.reads I nd r
 | .bool b,d,p,v,u,e,nd,h,r=>by simp only[eraT]at e;cases e;simp only[TAt]at h;exact h.reads I nd r
 | .int i,d,p,v,u,e,nd,h,r=>by simp only[eraT]at e;cases e;simp only[TAt]at h;exact h.reads I nd r
 | .str x,d,p,v,u,e,nd,h,r=>by simp only[eraT]at e;cases e;simp only[TAt]at h;exact h.reads I nd r
 | .tuple ds,d,p,v,u,e,nd,h,r=>by simp only[eraT]at e;cases e;simp only[TAt]at h;exact h.reads I nd r
 | .dict kvs,d,p,v,u,e,nd,h,r=>by
  simp only[eraT]at e;exact(jl h (show w5 (.dict kvs)=some d from e)).reads I nd r
 | .list ts,d,p,v,u,e,nd,h,r=>by
  simp only[eraT]at e
  cases q:eraL ts with
  |none=>rw[q]at e;cases e
  |some ds =>
   rw[q]at e;cases e;simp only[TAt]at h;obtain⟨a,xs,_,rfl,f,g⟩:=h;cases r;obtain⟨its,rv,⟨o,n,e,c,_,dd⟩,_⟩:=I.list (SqL.of f);obtain⟨as,h2⟩:=TAtL.reads I q (by simpa only[acx]using nd) g rv;exact⟨_,.list e c dd (by simpa using h2)⟩
theorem TAtL.reads(I:Inv X pins σ H s):∀{ts ds:List iO}{p:List Nat}{i:Nat}{xs:List V}{us:List GE},eraL ts=some ds->acD ds=false->TAtL X.kd H τ p i ts xs->Vals xs us->∃as,ad3 s.heap us ds as
 |[],ds,p,i,xs,us,e,nd,h,r=>by
  simp only[eraL]at e;cases e;simp only[TAtL]at h;subst h
  cases r;exact⟨_,.nil⟩
 | t::ts,ds,p,i,xs,us,e,nd,h,r=>by
  simp only[eraL]at e
  cases q1:eraT t with
  |none=>rw[q1]at e;cases e
  | some d =>
   cases q2:eraL ts with
   |none=>rw[q1,q2]at e;cases e
   | some ds' =>
    rw[q1,q2]at e;cases e;simp only[acD,agP]at nd;simp only[TAtL]at h;obtain⟨v,vs,rfl,g1,g2⟩:=h
    cases r with
    |cons r1 r2 =>
     obtain⟨a1,h1⟩:=TAt.reads I q1 nd.1 g1 r1;obtain⟨a2,h2⟩:=TAtL.reads I q2 nd.2 g2 r2;exact⟨_,.cons h1 h2⟩
end
end
theorem RelR.reads{s:aab}{m:MSt}{u:GE}{d:iO}(I:Inv X pins σ H s)(R:Rel X.kx α m σ' H)(h:RelR X.kd α H0 H r v)(rv:RelV v u)(e:asD m r=some d)(nd:d.hasDict=false):∃as,Reads s.heap u d as:=by
 have li:∀{ds:List iO},lsOf m r=some ds->acD ds=false->∃as,Reads s.heap u (.list ds) as:=fun {ds} e nd=>by
  obtain⟨a,xs,rfl,f,g⟩:=RelR.list R h e;cases rv;obtain⟨its,rv,⟨o,n,e,c,_,dd⟩,_⟩:=I.list f;obtain⟨as,h2⟩:=DenAll.reads I nd g rv;exact⟨_,.list e c dd (by simpa using h2)⟩
 cases r with
 |imm d'=>cases e;exact Den.reads I nd h rv
 | obj k =>
  cases q:m.os[k]? with
  |none=>simp[asD,q]at e
  |some ds =>
   simp[asD,q]at e;subst e;exact li q (by simpa only[acx]using nd)
 |new ds=>cases e;exact li rfl (by simpa only[acx]using nd)
 | «at» k p =>
  obtain⟨ts,ds,q,q2,rfl⟩:∃ts ds,ndT m k p=some (.list ts)/\eraL ts=some ds/\d = .list ds:=by
   unfold asD at e;simp only at e
   split at e
   .rename_i ts q
    cases q2:eraL ts with
    |none=>rw[q2]at e;cases e
    |some ds=>rw[q2]at e;cases e;exact⟨ts,ds,q,q2,rfl⟩
   .cases e
  obtain⟨τ,a,v',_,ea,rfl,g⟩:=RelR.node R h q;have g':=g;simp only[TAt]at g';obtain⟨a',xs,ea',e3,_⟩:=g';rw[ea]at ea';cases ea';subst e3;exact TAt.reads I (by simp only[eraT,q2,Option.map]) nd g rv
 |newT _=>cases e
abbrev WE:=MSt->(R->MSt->Prop)->Prop
abbrev WT:=MSt->(Bool->MSt->Prop)->Prop
abbrev WA:=MSt->(List R->MSt->Prop)->Prop
def tM(K:Kx)(w:WE):TE:=fun σ H Q=>∃α m Kc,Rel K α m σ H/\w m Kc/\∀r m' v H',Kc r m'->m'.np=m.np->Rel K α m' σ H'->RelR K α H H' r v->Frm α H H'->Q v H'
def tMT(K:Kx)(w:WT):TT:=fun σ H Q=>∃α m Kc,Rel K α m σ H/\w m Kc/\∀b m' H',Kc b m'->m'.np=m.np->Rel K α m' σ H'->Frm α H H'->Q b H'
inductive RelRs(K:Kd)(α:Al)(Hb H:Hp):List R->List V->Prop where
 |nil:RelRs K α Hb H [] []
 |cons {r:R}{rs:List R}{v:V}{vs:List V}:RelR K α Hb H r v->RelRs K α Hb H rs vs->RelRs K α Hb H (r::rs) (v::vs)
def tMA(K:Kx)(w:WA):TA:=fun σ H Q=>∃α m Kc,Rel K α m σ H/\w m Kc/\∀rs m' vs H',Kc rs m'->m'.np=m.np->Rel K α m' σ H'->RelRs K α H H' rs vs->Frm α H H'->Q vs H'
theorem PE.wk{t t':TE}(h:PE X e t)(k:∀σ H Q,t' σ H Q->t σ H Q):PE X e t':=fun pins s σ H Q I q=>h pins s σ H Q I (k _ _ _ q)
theorem PT.wk{t t':TT}(h:PT X e t)(k:∀σ H Q,t' σ H Q->t σ H Q):PT X e t':=fun pins s σ H Q I q=>h pins s σ H Q I (k _ _ _ q)
theorem PW.wk{t t':TT}(h:PW X e t)(k:∀σ H Q,t' σ H Q->t σ H Q):PW X e t':=fun wh pins s σ H Q I q=>h wh pins s σ H Q I (k _ _ _ q)
theorem PA.wk{e:List Expr}{t t':TA}(h:PA X e t)(k:∀σ H Q,t' σ H Q->t σ H Q):PA X e t':=fun pos pins s σ H Q I q=>h pos pins s σ H Q I (k _ _ _ q)
theorem PS.wk{e:Stmt}{t t':TS}(h:PS X e t)(k:∀D σ H,t' D σ H->t D σ H):PS X e t':=fun pins s σ H D I q=>h pins s σ H D I (k _ _ _ q)
theorem PSs.wk{e:List Stmt}{t t':TS}(h:PSs X e t)(k:∀D σ H,t' D σ H->t D σ H):PSs X e t':=fun pins s σ H D I q=>h pins s σ H D I (k _ _ _ q)
abbrev ME(X:Cx)(e:Expr)(w:WE):Prop:=PE X e (tM X.kx w)
abbrev MT(X:Cx)(e:Expr)(w:WT):Prop:=PT X e (tMT X.kx w)
abbrev MW(X:Cx)(e:Expr)(w:WT):Prop:=PW X e (tMT X.kx w)
abbrev MA(X:Cx)(es:List Expr)(w:WA):Prop:=PA X es (tMA X.kx w)
section
variable {X:Cx}{a b c:Expr}{es:List Expr}{wa wb wc:WE}{pos:Pos}
def wVar(i:Nat):WE:=fun m K=>∃r,m.vs[i]?=some (some r)/\K r m
def wC(d:iO):WE:=fun m K=>K (.imm d) m
theorem Fh{t:TE}{w:WE}(h:PE X a t)(k:∀α m σ H Kc Q,Rel X.kx α m σ H->w m Kc->(∀r m' v H',Kc r m'->m'.np=m.np->Rel X.kx α m' σ H'->RelR X.kx α H H' r v->Frm α H H'->Q v H')->t σ H Q):ME X a w :=
 h.wk fun σ H Q ⟨α,m,Kc,Rl,hw,fin⟩=>k α m σ H Kc Q Rl hw fin
theorem me_c{d:iO}(h:PE X a (tC v))(hd:∀(K:Kd) H,Den K H d v):ME X a (wC d) :=
 Fh h fun α m σ H Kc Q Rl hw fin=>fin _ m v H hw rfl Rl (hd _ _) (Frm.refl _ _)
theorem LJ{i j pos}:ME X (.Constant (.int i) j pos) (wC (.int i)):=me_c Jm fun _ _=>by simp only[Den]
theorem NK{i j pos}:ME X (.Constant (.bool i) j pos) (wC (.bool i)):=me_c OL fun _ _=>by simp only[Den]
theorem IY{i j pos}:ME X (.Constant (.str i) j pos) (wC (.str i)):=me_c Kq fun _ _=>by simp only[Den]
theorem KH{j pos}:ME X (.Constant .none j pos) (wC .none):=me_c J8 fun _ _=>by simp only[Den]
theorem LR(h:PE X a (tVar i)):ME X a (wVar i) :=
 Fh h fun α m σ H Kc Q Rl hw fin=>by
  obtain⟨r,e,k⟩:=hw;obtain⟨v,ev,rv⟩:=Rl.var i r e;exact⟨v,ev,fin r m v H k rfl Rl rv.rr (Frm.refl _ _)⟩
theorem mv(i:Nat){pos:Pos}(hN:X.N[i]?=some x:=by rfl)(hv:Vis X.env.scope x:=by first|exact agQ rfl|exact adl (agQ rfl)|exact adl (adl rfl))(hd:(x==("__debug__" : Str))=false:=by decide)(hcd:(x==("__classdict__" : Str))=false:=by decide):ME X (.Name x pos) (wVar i):=LR (LB hN hv hd hcd)
abbrev WO:=R->R->MSt->(R->Prop)->Prop
def rM(K:Kx)(o:WO):R2:=fun x y H Q=>∃α m σ H0 H1 r1 r2 Kc,Rel K α m σ H/\RelR K α H0 H r1 x/\RelR K α H1 H r2 y/\o r1 r2 m Kc/\∀r v H',Kc r->Rel K α m σ H'->RelR K α H H' r v->Frm α H H'->Q v H'
def wBin(o:WO)(wa wb:WE):WE:=fun m K=>wa m fun r1 m1=>wb m1 fun r2 m2=>o r1 r2 m2 fun r=>K r m2
theorem t3(h:tM X.kx (wBin o wa wb) σ H Q):tOp (rM X.kx o) (tM X.kx wa) (tM X.kx wb) σ H Q:=by
 obtain⟨α,m,Kc,Rl,hw,fin⟩:=h;refine⟨α,m,_,Rl,hw,fun r1 m1 x H1 k1 n1 Rl1 rr1 F1=>⟨α,m1,_,Rl1,k1,fun r2 m2 y H2 k2 n2 Rl2 rr2 F2=>?_⟩⟩;refine⟨α,m2,σ,H,H1,r1,r2,_,Rl2,rr1.keep Rl Rl1 F2,rr2,k2,fun r v H' k Rl' rr F=>?_⟩;exact fin r m2 v H' k (n2.trans n1) Rl' (rr.base Rl2 (F1.trans F2)) ((F1.trans F2).trans F)
theorem Ku{op:Operator}(ho:OpR X (acw op) (rM X.kx o))(ha:ME X a wa)(hb:ME X b wb):ME X (.BinOp a op b pos) (wBin o wa wb):=(MJ ho ha hb).wk fun _ _ _ h=>t3 h
theorem Jp(ho:OpR X (abZ op) (rM X.kx o))(ha:ME X a wa)(hb:ME X b wb)(hm:ade op b=false):ME X (.Compare a [op] [b] pos) (wBin o wa wb):=(FY ho ha hb hm).wk fun _ _ _ h=>t3 h
def onBl(P:Bool->Prop):R->Prop
 | .imm (.bool k)=>P k
 |_=>False
theorem Jo{K:Kx}{P:Bool->Prop}(rr:RelR K α Hb H r v)(h:onBl P r):∃b,r = .imm (.bool b)/\v = .bl b/\P b:=by
 cases r with
 |obj _=>exact h.elim
 |new _=>exact h.elim
 | «at» _ _=>exact h.elim
 |newT _=>exact h.elim
 | imm d =>
  cases d with
  |bool b =>
   have e:Den K H (.bool b) v:=rr;simp only[Den]at e;exact⟨b,rfl,e,h⟩
  |none=>exact h.elim
  |int _=>exact h.elim
  |str _=>exact h.elim
  |list _=>exact h.elim
  |tuple _=>exact h.elim
  |dict _=>exact h.elim
def uu(w:WE):WT:=fun m K=>w m fun r m'=>onBl (fun k=>K k m') r
theorem yA{t:TE}{Q:Bool->Hp->Prop}{w:WE}(k:∀Q',tM X.kx w σ H Q'->t σ H Q')(h:tMT X.kx (uu w) σ H Q):Ki t σ H Q:=by
 obtain⟨α,m,Kc,Rl,hw,fin⟩:=h;refine k _ ⟨α,m,_,Rl,hw,fun r m' v H' kk n1 Rl' rr F=>?_⟩;obtain⟨b,er,ev,kk⟩:=Jo rr kk;exact⟨b,ev,fin b m' H' kk n1 Rl' F⟩
theorem Km(ho:OpR X (abZ op) (rM X.kx o))(ha:ME X a wa)(hb:ME X b wb)(hm:ade op b=false):MT X (.Compare a [op] [b] pos) (uu (wBin o wa wb)):=(Di ho ha hb hm).wk fun _ _ _ h=>yA (fun _=>t3) h
theorem JP(ha:ME X a wa)(he:∀whole,isTrue a X.env whole=(do let v <- whole;ado a.pos;adI [v] (truthy v)):=by intro _;rfl):MT X a (uu wa):=(Iu ha he).wk fun _ _ _ h=>yA (t:=tM X.kx wa) (fun _ h=>h) h
end
section
variable {X:Cx}{a b c:Expr}{es:List Expr}{wa wb wc:WE}{pos:Pos}
variable {wt wu:WT}{rest:List Expr}
def wAnd(t u:WT):WT:=fun m K=>t m fun c m1=>if c=true then u m1 K else K false m1
def wOr(t u:WT):WT:=fun m K=>t m fun c m1=>if c=true then K true m1 else u m1 K
def wNot(t:WT):WT:=fun m K=>t m fun c m1=>K (!c) m1
theorem CQ(ha:MT X a wt):MW X (.BoolOp .And [a] pos) wt:=CV ha
theorem J3(ha:MT X a wt):MW X (.BoolOp .Or [a] pos) wt:=Lj ha
theorem KZ(ha:MT X a wt)(hb:MW X (.BoolOp .And (b::rest) pos) wu):MW X (.BoolOp .And (a::b::rest) pos) (wAnd wt wu):=(Jd ha hb).wk fun σ H Q ⟨α,m,Kc,Rl,hw,fin⟩=>by
 refine⟨α,m,_,Rl,hw,fun bb m1 H1 k n1 Rl1 F1=>?_⟩
 cases bb with
 |true=>rw[if_pos rfl]at k⊢;exact⟨α,m1,Kc,Rl1,k,fun b2 m2 H2 k2 n2 Rl2 F2=>fin b2 m2 H2 k2 (n2.trans n1) Rl2 (F1.trans F2)⟩
 |false=>rw[if_neg aay]at k⊢;exact fin _ m1 H1 k n1 Rl1 F1
theorem OM(ha:MT X a wt)(hb:MW X (.BoolOp .Or (b::rest) pos) wu):MW X (.BoolOp .Or (a::b::rest) pos) (wOr wt wu):=(OU ha hb).wk fun σ H Q ⟨α,m,Kc,Rl,hw,fin⟩=>by
 refine⟨α,m,_,Rl,hw,fun bb m1 H1 k n1 Rl1 F1=>?_⟩
 cases bb with
 |true=>rw[if_pos rfl]at k⊢;exact fin _ m1 H1 k n1 Rl1 F1
 |false=>rw[if_neg aay]at k⊢;exact⟨α,m1,Kc,Rl1,k,fun b2 m2 H2 k2 n2 Rl2 F2=>fin b2 m2 H2 k2 (n2.trans n1) Rl2 (F1.trans F2)⟩
theorem Jc(ha:MT X a wt):MT X (.UnaryOp .Not a pos) (wNot wt):=(KI ha).wk fun σ H Q ⟨α,m,Kc,Rl,hw,fin⟩ =>
 ⟨α,m,_,Rl,hw,fun bb m1 H1 k n1 Rl1 F1=>fin _ m1 H1 k n1 Rl1 F1⟩
theorem JH(b:Bool):Den K H (.bool b) (.bl b):=by simp only[Den]
theorem mT(b:Int):Den K H (.int b) (.int b):=by simp only[Den]
theorem yb(b:Str):Den K H (.str b) (.str b):=by simp only[Den]
theorem FG:Den K H .none .non:=by simp only[Den]
def wIfE(t:WT)(wa wb:WE):WE:=fun m K=>t m fun c m1=>if c=true then wa m1 K else wb m1 K
theorem O9(ht:MT X t wt)(ha:ME X a wa)(hb:ME X b wb):ME X (.IfExp t a b pos) (wIfE wt wa wb):=(Bh ht ha hb).wk fun σ H Q ⟨α,m,Kc,Rl,hw,fin⟩=>by
 refine⟨α,m,_,Rl,hw,fun bb m1 H1 k n1 Rl1 F1=>?_⟩
 cases bb with
 |true=>rw[if_pos rfl]at k⊢;exact⟨α,m1,Kc,Rl1,k,fun r m2 v H2 k2 n2 Rl2 rr2 F2=>fin r m2 v H2 k2 (n2.trans n1) Rl2 (rr2.base Rl1 F1) (F1.trans F2)⟩
 |false=>rw[if_neg aay]at k⊢;exact⟨α,m1,Kc,Rl1,k,fun r m2 v H2 k2 n2 Rl2 rr2 F2=>fin r m2 v H2 k2 (n2.trans n1) Rl2 (rr2.base Rl1 F1) (F1.trans F2)⟩
abbrev WU:=R->MSt->(R->Prop)->Prop
def uM(K:Kx)(o:WU):V->Hp->VK->Prop:=fun x H Q=>∃α m σ H0 r1 Kc,Rel K α m σ H/\RelR K α H0 H r1 x/\o r1 m Kc/\∀r v H',Kc r->Rel K α m σ H'->RelR K α H H' r v->Frm α H H'->Q v H'
def wUn(o:WU)(wa:WE):WE:=fun m K=>wa m fun r1 m1=>o r1 m1 fun r=>K r m1
theorem Oj{op:UnaryOp}{o:WU}(ho:UnR X (unaryOp op) (uM X.kx o))(ha:ME X a wa):ME X (.UnaryOp op a pos) (wUn o wa):=(Oz ho ha).wk fun σ H Q ⟨α,m,Kc,Rl,hw,fin⟩ =>
 ⟨α,m,_,Rl,hw,fun r1 m1 x H1 k1 n1 Rl1 rr1 F1=>⟨α,m1,σ,H,r1,_,Rl1,rr1,k1,fun r v H' k Rl' rr F=>fin r m1 v H' k n1 Rl' (rr.base Rl1 F1) (F1.trans F)⟩⟩
def tFz(t:TE):TE:=fun σ H Q=>t σ H fun v H1=>Q v H1\/∃a xs,H1 a=some (.lst xs)/\∀o,Q v (upd H1 a (.frz o (.lst xs)))
theorem M6{t:TE}(h:PE X a t):PE X a (tFz t):=by
 intro pins s σ H Q I q;refine thn (h pins s σ H _ I q) fun u s1 ⟨v,H1,I1,r1,q1⟩=>?_;rcases q1 with q1|⟨p,xs,e,q1⟩
 .exact⟨v,H1,I1,r1,q1⟩
 .obtain⟨o,I2⟩:=I1.freeze e;exact⟨v,_,I2,r1,q1 o⟩
theorem Rel.at{K:Kx}{m:MSt}(R:Rel K α m σ H)(p:Pers H H')(e:∀a∈ads α,H' a=H a)(x:Frm α H H'):Rel K α m σ H':=by
 refine⟨R.nd,R.len,fun k ao ds h1 h2=>?_,R.vlen,fun i r h=>?_,R.npl,R.ebl,R.ebx.trans ⟨rfl,x,fun _ h=>.inl h,fun a ha=>?_⟩⟩
 .exact(R.own k ao ds h1 h2).mono p fun a ha=>e a (adk.mpr ⟨ao,OR h1,ha⟩)
 .obtain⟨v,ev,rv⟩:=R.var i r h;refine⟨v,ev,?_⟩
  cases r with
  |imm d=>exact Den.mono p rv
  |obj k=>exact rv
  | «at» k p=>exact rv
  |new ds=>exact rv
  |newT t=>exact rv
 .obtain⟨o,q,_⟩:=R.mem ha;exact⟨o,(e a ha).trans q⟩
theorem Rel.at'{K:Kx}{m:MSt}(R:Rel K α m σ H)(p:Pers H H')(e:∀a∈ads α,H' a=H a)(x:Ext K.eb.np K.eb.be K.eb.H α H'):Rel K α m σ H':=by
 refine⟨R.nd,R.len,fun k ao ds h1 h2=>?_,R.vlen,fun i r h=>?_,R.npl,R.ebl,x⟩
 .exact(R.own k ao ds h1 h2).mono p fun a ha=>e a (adk.mpr ⟨ao,OR h1,ha⟩)
 .obtain⟨v,ev,rv⟩:=R.var i r h;refine⟨v,ev,?_⟩
  cases r with
  |imm d=>exact Den.mono p rv
  |obj k=>exact rv
  | «at» k p=>exact rv
  |new ds=>exact rv
  |newT t=>exact rv
theorem br{a:Addr}{o:HO}(h:H a=none\/∃u,H a=some u/\Mu u=true):Pers H (upd H a o) where
 tups:=fun b xs e=>by
  rw[ap];exact e;rintro rfl;rcases h with h|⟨ys,h,z⟩<;>(rw[e]at h;cases h)
  cases z
 frzs:=fun b o u e=>by
  rw[ap];exact e;rintro rfl;rcases h with h|⟨ys,h,z⟩<;>(rw[e]at h;cases h)
  cases z
theorem sK{a:Addr}{o:HO}(h:H a=some (.lst xs)):Pers H (upd H a o):=br (.inr ⟨_,h,rfl⟩)
theorem cj{a:Addr}{o:HO}(h:H a=none):Frm α H (upd H a o):=fun b ob e _=>by
 rw[ap (bf e h)];exact e
theorem Rel.lay{K:Kx}{m:MSt}{a:Addr}{o:HO}(R:Rel K α m σ H)(h:H a=none):Rel K α m σ (upd H a o) :=
 R.at (br (.inl h)) (fun b hb=>ap fun e=>R.out h (e▸hb)) (cj h)
def wImm(w:WE):WE:=fun m K=>w m fun r m'=>match r with| .imm d=>K (.imm d) m' | .new ds=>K (.imm (.list ds)) m'|_=>False
theorem IG(ha:ME X a wa):ME X a (wImm wa):=(M6 ha).wk fun σ H Q ⟨α,m,Kc,Rl,hw,fin⟩=>by
 refine⟨α,m,_,Rl,hw,fun r m1 v H1 k n1 Rl1 rr F1=>?_⟩
 cases r with
 |imm d=>exact .inl (fin _ m1 v H1 k n1 Rl1 rr F1)
 |obj _=>exact k.elim
 | «at» _ _=>exact k.elim
 |newT _=>exact k.elim
 | new ds =>
  obtain⟨p,xs,ev,n,q,g⟩:=rr;refine .inr ⟨p,xs,q,fun o=>?_⟩;have pe:Pers H1 (upd H1 p (.frz o (.lst xs))):=sK q;have fr:Frm α H (upd H1 p (.frz o (.lst xs))):=fun b ob e nb=>by
   rw[ap (bf e n)];exact F1 b ob e nb
  have old:Ext X.kx.eb.np α H α (upd H1 p (.frz o (.lst xs))):=⟨rfl,fr,fun _ h=>.inl h,fun b hb=>by
   have hbp:b≠p:=fun e=>Rl.out n (e▸hb);rw[ap hbp];obtain⟨o',e',_⟩:=Rl1.mem hb;exact⟨o',e'⟩⟩
  refine fin _ m1 v _ k n1 (Rl1.at' pe (fun b hb=>ap fun e=>Rl.out n (e▸hb)) (Rl.ebx.trans old)) (show Den X.kx _ (.list ds) v from ?_) fun b ob e nb=>?_
  .simp only[Den];exact⟨p,xs,ev,.inl ⟨o,aw⟩,g.mono pe⟩
  .rw[ap (bf e n)];exact F1 b ob e nb
def wNil:WA:=fun m K=>K [] m
def DI(w:WE)(ws:WA):WA:=fun m K=>w m fun r m1=>ws m1 fun rs m2=>K (r::rs) m2
theorem RelRs.base{K:Kx}{m:MSt}(Rl:Rel K α m σ H)(F:Frm α H0 H):∀{rs:List R}{vs:List V},RelRs K α H H' rs vs->RelRs K α H0 H' rs vs
 |_,_,.nil=>.nil
 |_,_,.cons h t=>.cons (h.base Rl F) (t.base Rl F)
variable {ws:WA}
theorem LS:MA X [] wNil:=(JZ (X:=X)).wk fun σ H Q ⟨α,m,Kc,Rl,hw,fin⟩=>fin _ m _ H hw rfl Rl .nil (Frm.refl _ _)
theorem GH(ha:ME X a wa)(hr:MA X es ws)(hs:aan (a::es) X.env=(false,eval a X.env)::aan es X.env:=by first|exact aY rfl|rfl):MA X (a::es) (DI wa ws):=(CP ha hr hs).wk fun σ H Q ⟨α,m,Kc,Rl,hw,fin⟩ =>
 ⟨α,m,_,Rl,hw,fun r m1 v H1 k n1 Rl1 rr F1=>⟨α,m1,_,Rl1,k,fun rs m2 vs H2 k2 n2 Rl2 rr2 F2=>fin _ m2 _ H2 k2 (n2.trans n1) Rl2 (.cons (rr.keep Rl Rl1 F2) (rr2.base Rl1 F1)) (F1.trans F2)⟩⟩
def fu:List R->Option (List iO)
 |[]=>some []
 | .imm d::rs=>(fu rs).map (d :: ·)
 |_::_=>none
theorem RelRs.imm{K:Kx}:∀{rs:List R}{vs:List V}{ds:List iO},RelRs K α H0 H rs vs->fu rs=some ds->DenAll K H ds vs
 |_,_,_,.nil,e=>by cases e;exact DenAll.nil
 |_,_,ds,.cons (r:=.imm d) (rs:=rs) h t,e=>by
  simp only[fu]at e
  cases q:fu rs with
  |none=>rw[q]at e;cases e
  |some ds'=>rw[q]at e;cases e;exact DenAll.cons h (t.imm q)
 |_,_,_,.cons (r:=.obj _) h t,e=>by cases e
 |_,_,_,.cons (r:=.new _) h t,e=>by cases e
 |_,_,_,.cons (r:=.at _ _) h t,e=>by cases e
 |_,_,_,.cons (r:=.newT _) h t,e=>by cases e
def vm(P:List iO->Prop):Option (List iO)->Prop
 |some ds=>ds.length≤aam/\P ds
 |none=>False
def wTup(ws:WA):WE:=fun m K=>ws m fun rs m'=>vm (fun ds=>K (.imm (.tuple ds)) m') (fu rs)
def wLst(ws:WA):WE:=fun m K=>ws m fun rs m'=>vm (fun ds=>K (.new ds) m') (fu rs)
theorem JO{x1}(h:MA X es ws):ME X (.Tuple es x1 pos) (wTup ws):=(IL h).wk fun σ H Q ⟨α,m,Kc,Rl,hw,fin⟩=>by
 refine⟨α,m,_,Rl,hw,fun rs m1 vs H1 k n1 Rl1 rr F1=>?_⟩
 cases e:fu rs with
 |none=>rw[e]at k;exact k.elim
 |some ds =>
  rw[e]at k;obtain⟨hz,k⟩:=k;have g:=rr.imm e;refine⟨by rw[<-g.length];exact hz,fun p hp=>fin _ m1 _ _ k n1 (Rl1.lay hp) (show Den X.kx _ (.tuple ds) (.ref p)from ?_) (F1.trans (cj hp))⟩;simp only[Den];exact⟨p,vs,rfl,SqT.of aw,g.mono (br (.inl hp))⟩
theorem IZ(h:MA X es ws):ME X (.List es pos) (wLst ws):=(Iy h).wk fun σ H Q ⟨α,m,Kc,Rl,hw,fin⟩=>by
 refine⟨α,m,_,Rl,hw,fun rs m1 vs H1 k n1 Rl1 rr F1=>?_⟩
 cases e:fu rs with
 |none=>rw[e]at k;exact k.elim
 |some ds =>
  rw[e]at k;obtain⟨hz,k⟩:=k;have g:=rr.imm e;refine⟨by rw[<-g.length];exact hz,fun p hp=>fin _ m1 _ _ k n1 (Rl1.lay hp) ((RelR.base Rl1 F1 (show RelR X.kx α H1 _ (.new ds) (.ref p)from⟨p,vs,rfl,hp,aw,g.mono (br (.inl hp))⟩))) (F1.trans (cj hp))⟩
abbrev WC:=List R->MSt->(R->Prop)->Prop
def cM(K:Kx)(o:WC):List V->Hp->VK->Prop:=fun xs H Q=>∃α m σ H0 rs Kc,Rel K α m σ H/\RelRs K α H0 H rs xs/\o rs m Kc/\∀r v H',Kc r->Rel K α m σ H'->RelR K α H H' r v->Frm α H H'->Q v H'
def wCB(o:WC)(ws:WA):WE:=fun m K=>ws m fun rs m1=>o rs m1 fun r=>K r m1
theorem JB{o:WC}(h:tM X.kx (wCB o ws) σ H Q):tCB (cM X.kx o) (tMA X.kx ws) σ H Q:=by
 obtain⟨α,m,Kc,Rl,hw,fin⟩:=h;exact⟨α,m,_,Rl,hw,fun rs m1 vs H1 k n1 Rl1 rr F1=>⟨α,m1,σ,H,rs,_,Rl1,rr,k,fun r v H' k Rl' rr' F=>fin r m1 v H' k n1 Rl' (rr'.base Rl1 F1) (F1.trans F)⟩⟩
theorem zm{id:String}{o:WC}(hc:dj X (.builtin id) (cM X.kx o))(hg:Gl X x)(hm:X.mg x=none)(hv:abh x=some (.builtin id))(ha:MA X (a::es) ws)(hn:x ≠ "__name__" :=by decide)(hdb:(x==("__debug__" : Str))=false:=by decide)
  (he:aan (a::es) X.env=(false,eval a X.env)::aan es X.env:=by first|exact aY rfl|rfl) (hpl:(acb pos (aan es X.env)).any (·.1)=false:=by rfl):ME X (.Call (.Name x p) (a::es) [] pos) (wCB o ws):=(za hc hg hm hv ha hn hdb he hpl).wk fun _ _ _ h=>JB h
theorem xU{T:String}{o:WC}(hc:dj X (.type T) (cM X.kx o))(hg:Gl X x)(hm:X.mg x=none)(hv:abh x=some (.type T))(ha:MA X (a::es) ws)(hn:x ≠ "__name__" :=by decide)(hdb:(x==("__debug__" : Str))=false:=by decide)
  (he:aan (a::es) X.env=(false,eval a X.env)::aan es X.env:=by first|exact aY rfl|rfl) (hpl:(acb pos (aan es X.env)).any (·.1)=false:=by rfl):ME X (.Call (.Name x p) (a::es) [] pos) (wCB o ws):=(vN hc hg hm hv ha hn hdb he hpl).wk fun _ _ _ h=>JB h
end
inductive Ag where
 |imm (d:iO)|own (ds:List iO)|tr (t:iO)
abbrev SpM:=List Ag->(R->List (List iO)->Prop)->Prop
inductive RelAs(K:Kd)(H:Hp):List Ag->List V->Al->Prop where
 |nil:RelAs K H [] [] []
 |imm {d:iO}{v:V}{as:List Ag}{vs:List V}{β:Al}:Den K H d v->RelAs K H as vs β->RelAs K H (.imm d::as) (v::vs) β
 |own {ds:List iO}{a:Addr}{as:List Ag}{vs:List V}{β:Al}:OwnAt K H (.L a) ds->RelAs K H as vs β->RelAs K H (.own ds::as) (.ref a::vs) (.L a::β)
 |tr {t:iO}{a:Addr}{τ:List (List Nat×Addr)}{as:List Ag}{vs:List V}{β:Al}:OwnAt K H (.T τ) [t]->τ.lookup []=some a->RelAs K H as vs β->RelAs K H (.tr t::as) (.ref a::vs) (.T τ::β)
theorem RelAs.length:∀{as:List Ag}{vs:List V}{β:Al},RelAs K H as vs β->as.length=vs.length
 |_,_,_,.nil=>rfl
 |_,_,_,.imm _ t=>by simp[t.length]
 |_,_,_,.own _ t=>by simp[t.length]
 |_,_,_,.tr _ _ t=>by simp[t.length]
structure wZ(K:Kd)(H:Hp)(β:Al)(outs:List (List iO)):Prop where
 len:outs.length=β.length
 at_:∀(j:Nat) (ao:Ao) (ds:List iO),β[j]?=some ao->outs[j]?=some ds->OwnAt K H ao ds
def spOf(K:Kd)(n:Nat)(sp:SpM):Sp:=fun vs H Q _=>∃as β Kc,as.length=n/\(ads β).Nodup/\RelAs K H as vs β/\sp as Kc/\∀r outs v H',Kc r outs->wZ K H' β outs->RelR K β H H' r v->Frm β H H'->Q v H'
theorem spOf.len{E:XK}(h:spOf K n sp vs H Q E):vs.length=n:=by
 obtain⟨as,β,Kc,hl,_,r,_⟩:=h;rw[<-r.length];exact hl
def gH(m:MSt):List R->Option (List Ag×List Nat)
 |[]=>some ([],[])
 | .imm d::rs=>match gH m rs with|some (as,ks)=>some (.imm d::as,ks)|none=>none
 | .obj k::rs=>match m.os[k]?,gH m rs with|some ds,some (as,ks)=>some (.own ds::as,k::ks)|_,_=>none
 | .at k []::rs=>match m.os[k]?,gH m rs with|some [t],some (as,ks)=>some (.tr t::as,k::ks)|_,_=>none
 |_::_=>none
def cq:List (List iO)->List Nat->List (List iO)->List (List iO)
 |os,k::ks,o::outs=>cq (os.set k o) ks outs
 |os,_,_=>os
def mapR(ks:List Nat):R->R
 | .imm d=>.imm d
 | .new ds=>.new ds
 | .obj j=>.obj (ks.getD j 0)
 | .at j p=>.at (ks.getD j 0) p
 | .newT t=>.newT t
def vP(sp:SpM)(ws:WA):WE:=fun m K=>ws m fun rs m1=>match gH m1 rs with
 |some (as,ks)=>ks.Nodup/\sp as fun r outs=>K (mapR ks r) {m1 with os:=cq m1.os ks outs}
 |none=>False
theorem iI:∀(ks:List Nat) (os outs:List (List iO)),(cq os ks outs).length=os.length
 |[],_,_=>by simp[cq]
 |_::_,_,[]=>by simp[cq]
 |k::ks,os,o::outs=>by simp[cq,iI ks]
theorem iw:∀(ks:List Nat) (os outs:List (List iO)) (k:Nat),k∉ks->(cq os ks outs)[k]?=os[k]?
 |[],_,_,_,_=>by simp[cq]
 |_::_,_,[],_,_=>by simp[cq]
 |k'::ks,os,o::outs,k,h=>by
  rw[aas]at h;rw[not_or]at h;show(cq (os.set k' o) ks outs)[k]?=_;rw[iw ks _ _ k h.2,aaM (abt h.1)]
theorem nW:∀(ks:List Nat) (os outs:List (List iO)) (j k:Nat) (ds:List iO),ks.Nodup->ks[j]?=some k->outs[j]?=some ds->k<os.length->(cq os ks outs)[k]?=some ds
 |[],_,_,_,_,_,_,h,_,_=>by simp at h
 |_::_,_,[],_,_,_,_,_,h,_=>by simp at h
 |k'::ks,os,o::outs,0,k,ds,nd,h1,h2,hk=>by
  simp at h1 h2;subst h1;subst h2;show(cq (os.set k' o) ks outs)[k']?=_;rw[iw ks _ _ k' (abc.mp nd).1,aaS hk]
 |k'::ks,os,o::outs,j+1,k,ds,nd,h1,h2,hk=>by
  exact nW ks (os.set k' o) outs j k ds (abc.mp nd).2 (by simpa using h1) (by simpa using h2) (by simpa using hk)
theorem gA(α:Al):(ads α).Nodup↔(∀ao∈α,ao.ads.Nodup)/\α.Pairwise fun x y=>∀a∈x.ads,∀b∈y.ads,a≠b:=List.pairwise_flatMap
theorem fM(nd:(ads α).Nodup){x y:Ao}(hi:α[i]?=some x)(hj:α[j]?=some y)(h:i≠j)(hx:a∈x.ads)(hy:a∈y.ads):False:=by
 have pw:=((gA α).mp nd).2;obtain⟨p1,q1⟩:=aad.mp hi;obtain⟨p2,q2⟩:=aad.mp hj;subst q1 q2;rcases aee h with l|l
 .exact abR.mp pw i j p1 p2 l a hx a hy rfl
 .exact abR.mp pw j i p2 p1 l a hy a hx rfl
theorem iZ{x:Ao}(hi:α[i]?=some x)(h:a∈x.ads):a∈ads α:=adk.mpr ⟨x,OR hi,h⟩
theorem ig(h:a∈ads α):∃(i:Nat) (x:Ao),α[i]?=some x/\a∈x.ads:=by
 obtain⟨ao,h1,h2⟩:=adk.mp h;obtain⟨k,hk,e⟩:=abx.mp h1;exact⟨k,ao,by rw[oR hk,e],h2⟩
section
variable {K:Kx}{α:Al}{m:MSt}{σ:St}{H H0 H':Hp}
theorem ia(Rl:Rel K α m σ H):∀{rs:List R}{vs:List V}{as:List Ag}{ks:List Nat},RelRs K α H0 H rs vs->gH m rs=some (as,ks)->∃β,RelAs K H as vs β/\abV (fun(k:Nat) (ao:Ao)=>α[k]?=some ao) ks β
 |_,_,_,_,.nil,e=>by cases e;exact⟨[],.nil,.nil⟩
 | _,_,as,ks,.cons (r:=.imm d) (rs:=rs) h t,e=>by
  simp only[gH]at e
  cases q:gH m rs with
  |none=>rw[q]at e;cases e
  |some p =>
   obtain⟨as',ks'⟩:=p;rw[q]at e;cases e;obtain⟨β,h1,h2⟩:=ia Rl t q;exact⟨β,.imm h h1,h2⟩
 | _,_,as,ks,.cons (r:=.obj k) (rs:=rs) h t,e=>by
  simp only[gH]at e
  cases q1:m.os[k]? with
  |none=>rw[q1]at e;cases e
  | some ds =>
   cases q:gH m rs with
   |none=>rw[q1,q]at e;cases e
   |some p =>
    obtain⟨as',ks'⟩:=p;rw[q1,q]at e;cases e;obtain⟨β,h1,h2⟩:=ia Rl t q;obtain⟨a,ea,rfl⟩:=h;exact⟨.L a::β,.own (Rl.own k _ ds ea q1) h1,.cons ea h2⟩
 |_,_,as,ks,.cons (r:=.at k []) (rs:=rs) h t,e=>by
  simp only[gH]at e
  split at e
  .rename_i t' as' ks' q1 q;cases e;obtain⟨β,h1,h2⟩:=ia Rl t q;obtain⟨τ,a,ea,el,rfl⟩:=h;exact⟨.T τ::β,.tr (Rl.own k _ _ ea q1) el h1,.cons ea h2⟩
  .cases e
 |_,_,_,_,.cons (r:=.at _ (_::_)) h t,e=>by cases e
 |_,_,_,_,.cons (r:=.new _) h t,e=>by cases e
 |_,_,_,_,.cons (r:=.newT _) h t,e=>by cases e
theorem fG(nd:(ads α).Nodup)(h:ks.Nodup)(p:abV (fun(k:Nat) (ao:Ao)=>α[k]?=some ao) ks β):(ads β).Nodup:=by
 have one:=((gA α).mp nd).1
 induction p with
 |nil=>exact adm
 | @cons k ao ks β e t ih =>
  have ih':=ih (abc.mp h).2;rw[gA]at ih'⊢;refine⟨fun x hx=>?_,afy.mpr ⟨fun y hy a ha b hb z=>?_,ih'.2⟩⟩
  .rcases aas.mp hx with rfl|hx
   .exact one _ (OR e)
   .exact ih'.1 x hx
  .subst z;obtain⟨j,hj,ej⟩:=abx.mp hy;obtain⟨k',e1,e2⟩:=Paired.get2 t (i:=j) (b:=y) (by rw[oR hj,ej]);have ek:k=k':=Classical.byContradiction fun ne=>fM nd e e2 ne ha hb;exact(abc.mp h).1 (ek▸OR e1)
theorem AI(Rl:Rel K α m σ H){outs:List (List iO)}(nd:ks.Nodup)(p:abV (fun(k:Nat) (ao:Ao)=>α[k]?=some ao) ks β)(O:wZ K H' β outs)(F:Frm β H H') :
  Rel K α {m with os:=cq m.os ks outs} σ H'/\Frm α H H':=by
 have sub:∀a∈ads β,∃k ao,k∈ks/\α[k]?=some ao/\a∈ao.ads:=fun a ha=>by
  obtain⟨j,ao,ej,hm⟩:=ig ha;obtain⟨k',e1,e2⟩:=Paired.get2 p ej;exact⟨k',ao,OR e1,e2,hm⟩
 have Fα:Frm α H H':=fun b o e n=>F b o e fun z=>by
  obtain⟨k,ao,_,e2,hm⟩:=sub b z;exact n (iZ e2 hm)
 have pe:=Rl.pers Fα;have own':∀(k:Nat) (ao:Ao) (ds:List iO),α[k]?=some ao->(cq m.os ks outs)[k]?=some ds->OwnAt K H' ao ds:=fun k ao ds e1 e2'=>by
  have hk:k<m.os.length:=by rw[<-Rl.len];exact(aad.mp e1).1
  by_cases hm:k∈ks
  .obtain⟨j,hj,ej⟩:=abx.mp hm;have z1:ks[j]?=some k:=by rw[oR hj,ej]
   obtain⟨a',z2,z3⟩:=Paired.get' p z1;rw[e1]at z3;cases z3;have hj2:j<outs.length:=by rw[O.len];exact(aad.mp z2).1
   have z4:outs[j]?=some outs[j]:=oR hj2;rw[nW ks m.os outs j k _ nd z1 z4 hk]at e2';cases e2';exact O.at_ j _ _ z2 z4
  .rw[iw ks _ _ k hm]at e2';have q:=Rl.own k ao ds e1 e2';refine q.mono pe fun a ha=>?_;obtain⟨o,eo,_⟩:=q.mem ha;rw[eo];refine F a o eo fun z=>?_;obtain⟨k2,ao2,hk2,e3,hm2⟩:=sub a z;exact fM Rl.nd e1 e3 (fun z=>hm (z▸hk2)) ha hm2
 refine⟨⟨Rl.nd,by show α.length=(cq m.os ks outs).length;rw[iI];exact Rl.len,own',Rl.vlen,fun i r h=>?_,Rl.npl,Rl.ebl,Rl.ebx.trans ⟨rfl,Fα,fun _ h=>.inl h,fun a ha=>?_⟩⟩,Fα⟩
 .obtain⟨v,ev,rv⟩:=Rl.var i r h;refine⟨v,ev,?_⟩
  cases r with
  |imm d=>exact Den.mono pe rv
  |obj k=>exact rv
  | «at» k p=>exact rv
  |new ds=>exact rv
  |newT t=>exact rv
 .obtain⟨k,ao,e1,hm⟩:=ig ha;have hk:k<(cq m.os ks outs).length:=by rw[iI,<-Rl.len];exact(aad.mp e1).1
  obtain⟨o,q,_⟩:=(own' k ao _ e1 (oR hk)).mem hm;exact⟨o,q⟩
theorem yZ{K:Kd}(p:abV (fun(k:Nat) (ao:Ao)=>α[k]?=some ao) ks β)(h:RelR K β H H' r v):RelR K α H H' (mapR ks r) v:=by
 have get:∀{j:Nat}{ao:Ao},β[j]?=some ao->α[ks.getD j 0]?=some ao:=fun {j ao} ea=>by
  obtain⟨k,z1,z2⟩:=Paired.get2 p ea;rw[aau,z1];exact z2
 cases r with
 |imm d=>exact h
 |new ds=>exact h
 |newT t=>exact h
 |obj j =>
  obtain⟨a,ea,e⟩:=h;exact⟨a,get ea,e⟩
 | «at» j q =>
  obtain⟨τ,a,ea,el,e⟩:=h;exact⟨τ,a,get ea,el,e⟩
end
section
variable {X:Cx}{a:Expr}{es:List Expr}{ws:WA}{pos p:Pos}{k n:Nat}{f:Addr}{fd:ac4}{ps:List Str}{sp:SpM}{x:Str}{CX:CXT}
theorem Gg{E:XK}(h:tM X.kx (vP sp ws) σ H Q)(hn:∀as Kc,sp as Kc->as.length=n):Kl (spOf X.kd n sp) [] E (tMA X.kx ws) σ H Q:=by
 obtain⟨α,m,Kc,Rl,hw,fin⟩:=h;refine⟨α,m,_,Rl,hw,fun rs m1 vs H1 kk n1 Rl1 rr F1=>?_⟩
 cases e:gH m1 rs with
 |none=>rw[e]at kk;exact kk.elim
 |some q =>
  obtain⟨as,ks⟩:=q;rw[e]at kk;obtain⟨nd,hsp⟩:=kk;obtain⟨β,ra,pa⟩:=ia Rl1 rr e;refine⟨as,β,_,hn _ _ hsp,fG Rl1.nd nd pa,by rw[abb];exact ra,hsp,fun r outs v H' kk2 O rr2 F=>?_⟩;obtain⟨Rl2,F2⟩:=AI Rl1 nd pa O F;exact fin _ _ v H' kk2 n1 Rl2 ((yZ pa rr2).base Rl1 F1) (F1.trans F2)
theorem Dw{E:XK}(F:FnOk X.prog X.w X.K X.mg X.base CX k f fd ps (spOf X.kd n sp))(hr:Room k X.A)(hg:Gl X x)(hm:X.mg x=some (.ref f))(hk:adK X.K (.ref f)=true)(hb:Binds X.K fd ps [])(hx:sg CX X E)(hn:∀as Kc,sp as Kc->as.length=n)
  (ha:MA X (a::es) ws) (hdb:(x==("__debug__" : Str))=false:=by decide) (he:aan (a::es) X.env=(false,eval a X.env)::aan es X.env:=by first|exact aY rfl|rfl) (hpl:(acb pos (aan es X.env)).any (·.1)=false:=by rfl) :
  ME X (.Call (.Name x p) (a::es) [] pos) (vP sp ws):=(FM (E:=E) F hr hg hm hk hb .nil hx ha hdb he hpl).wk fun _ _ _ h=>Gg h hn
end
structure dB where
 nx:MSt->Prop
 rt:R->MSt->Prop
 bk:MSt->Prop:=fun _=>False
 ct:MSt->Prop:=fun _=>False
abbrev WS:=dB->MSt->Prop
theorem RelR.ext{np:Nat}{α2:Al}(x:Ext np α H α1 H1)(h:RelR K α2 H1 H2 r v):RelR K α2 H H2 r v:=by
 cases r with
 |imm d=>exact h
 |obj k=>exact h
 | «at» k p=>exact h
 |new ds =>
  obtain⟨a,xs,e,n,q,g⟩:=h;exact⟨a,xs,e,x.nil n,q,g⟩
 |newT t =>
  obtain⟨τ,a,e,e1,nd,n,g⟩:=h;exact⟨τ,a,e,e1,nd,fun b hb=>x.nil (n b hb),g⟩
structure EndsOk(K:Kx)(np:Nat)(α:Al)(H:Hp)(De:dB)(D:Ends):Prop where
 nx:∀α' m' σ' H',De.nx m'->m'.np=np->Rel K α' m' σ' H'->Ext np α H α' H'->D.nx σ' H'
 rt:∀r α' m' σ' v H',De.rt r m'->m'.np=np->Rel K α' m' σ' H'->RelR K α' H H' r v->Ext np α H α' H'->D.rt v H'
 bk:∀α' m' σ' H',De.bk m'->m'.np=np->Rel K α' m' σ' H'->Ext np α H α' H'->D.bk σ' H'
 ct:∀α' m' σ' H',De.ct m'->m'.np=np->Rel K α' m' σ' H'->Ext np α H α' H'->D.ct σ' H'
theorem EndsOk.ext{K:Kx}{np:Nat}(h:EndsOk K np α H De D)(x:Ext np α H α1 H1):EndsOk K np α1 H1 De D where
 nx:=fun α' m' σ' H' k n R y=>h.nx α' m' σ' H' k n R (x.trans y)
 rt:=fun r α' m' σ' v H' k n R rr y=>h.rt r α' m' σ' v H' k n R (rr.ext x) (x.trans y)
 bk:=fun α' m' σ' H' k n R y=>h.bk α' m' σ' H' k n R (x.trans y)
 ct:=fun α' m' σ' H' k n R y=>h.ct α' m' σ' H' k n R (x.trans y)
def tMS(K:Kx)(w:WS):TS:=fun D σ H=>∃α m De,Rel K α m σ H/\w De m/\EndsOk K m.np α H De D
abbrev MS(X:Cx)(st:Stmt)(w:WS):Prop:=PS X st (tMS X.kx w)
abbrev MSs(X:Cx)(st:List Stmt)(w:WS):Prop:=PSs X st (tMS X.kx w)
section
variable {X:Cx}{a b c e:Expr}{es:List Expr}{wa wb wc we:WE}{pos:Pos}{st:Stmt}{rest:List Stmt}{w u:WS}
def DM:WS:=fun D m=>D.nx m
def wSeq(w u:WS):WS:=fun D m=>w {D with nx:=fun m'=>u D m' } m
theorem Gc:MSs X [] DM:=(FI (X:=X)).wk fun D σ H ⟨α,m,De,Rl,hw,k⟩=>k.nx α m σ H hw rfl Rl (.of Rl (Frm.refl _ _))
theorem zn(h1:MS X st w)(h2:MSs X rest u):MSs X (st::rest) (wSeq w u):=(AH h1 h2).wk fun D σ H ⟨α,m,De,Rl,hw,k⟩ =>
 ⟨α,m,_,Rl,hw,⟨fun α' m' σ' H' q n R y=>⟨α',m',De,R,q,by rw[n];exact k.ext y⟩,k.rt,k.bk,k.ct⟩⟩
theorem Fc(h1:MS X st w):MSs X [st] w:=(Gw h1).wk fun D σ H h=>h
end
section
variable {X:Cx}{a b c e:Expr}{es:List Expr}{wa wb wc we:WE}{ws:WA}{wt:WT}{pos:Pos}{st:Stmt}{rest body body2:List Stmt}{w u:WS}
def wRet(we:WE):WS:=fun D m=>we m fun r m'=>D.rt r m'
theorem J9(he:ME X e we):MS X (.Return (some e) pos) (wRet we):=(JF he).wk fun D σ H ⟨α,m,De,Rl,hw,k⟩ =>
 ⟨α,m,_,Rl,hw,fun r m' v H' q n Rl' rr F=>k.rt r α m' σ v H' q n Rl' rr (.of Rl' F)⟩
def DG(we:WE):WS:=fun D m=>we m fun _ m'=>D.nx m'
theorem CK(he:ME X e we)(hs:abY e none pos.line X.env=pure false:=by rfl):MS X (.Expr e pos) (DG we):=(Fq he hs).wk fun D σ H ⟨α,m,De,Rl,hw,k⟩ =>
 ⟨α,m,_,Rl,hw,fun r m' v H' q n Rl' rr F=>k.nx α m' σ H' q n Rl' (.of Rl' F)⟩
def wIfS(t:WT)(w u:WS):WS:=fun D m=>t m fun c m'=>if c=true then w D m' else u D m'
theorem Nk(ht:MT X t wt)(h1:MSs X body w)(h2:MSs X body2 u):MS X (.If t body body2 pos) (wIfS wt w u):=(MH ht h1 h2).wk fun D σ H ⟨α,m,De,Rl,hw,k⟩=>by
 refine⟨α,m,_,Rl,hw,fun bb m' H' q n Rl' F=>?_⟩;have k':EndsOk X.kx m'.np α H' De D:=by rw[n];exact k.ext (.of Rl' F)
 cases bb with
 |true=>rw[if_pos rfl]at q;exact iteT ⟨α,m',De,Rl',q,k'⟩
 |false=>rw[if_neg aay]at q;exact iteF ⟨α,m',De,Rl',q,k'⟩
def BW:WS:=fun _ _=>False
theorem Aa:MS X st BW:=(zO (X:=X)).wk fun D σ H ⟨α,m,De,Rl,hw,k⟩=>hw
def MSt.setV(m:MSt)(i:Nat)(r:R):MSt:={m with vs:=m.vs.set i (some r)}
def RenR(ρ:List Nat)(o:Option (Option R)):R->Prop
 | .imm d=>o=some (some (.imm d))
 | .obj k=>∃j,ρ[k]?=some j/\o=some (some (.obj j))
 | .at k p=>∃j,ρ[k]?=some j/\o=some (some (.at j p))
 | .new _=>False
 | .newT _=>False
structure Ren(ρ:List Nat)(m m2:MSt):Prop where
 nd:ρ.Nodup
 lt:∀k∈ρ,k<m.os.length
 pre:ρ.take m.np=aaI m.np
 npl:m.np≤ρ.length
 os:m2.os=ρ.map fun k=>m.os.getD k []
 np:m2.np=m.np
 vl:m2.vs.length=m.vs.length
 vs:∀(j:Nat) (r:R),m2.vs[j]?=some (some r)->RenR ρ m.vs[j]? r
def upR(D:MSt->Prop)(m:MSt):Prop:=D m\/∃ρ m2,Ren ρ m m2/\D m2
def o6(i:Nat)(D:MSt->Prop)(m:MSt):R->Prop
 | .imm d=>upR D (m.setV i (.imm d))
 | .obj k=>upR D (m.setV i (.obj k))
 | .at k p=>upR D (m.setV i (.at k p))
 | .new ds=>upR D {vs:=m.vs.set i (some (.obj m.os.length)),os:=m.os++[ds],np:=m.np} \/
   ∃k,m.vs[i]?=some (some (.obj k))/\m.np≤k/\(∀j:Nat,j≠i->m.vs[j]?≠some (some (.obj k)))/\D {m with os:=m.os.set k ds}
 | .newT t=>upR D {vs:=m.vs.set i (some (.at m.os.length [])),os:=m.os++[[t]],np:=m.np}
theorem fY{α:Al}{n:Nat}(hl:α.length=n):∀{ρ:List Nat},(∀k∈ρ,k<n)->abV (fun(k:Nat) (ao:Ao)=>α[k]?=some ao) ρ (ρ.map fun k=>α.getD k (.L 0))
 |[],_=>.nil
 | k::ρ,h=>.cons (by
   have hk:k<α.length:=by rw[hl];exact h k aah
   show α[k]?=some (α.getD k (.L 0));rw[aau,oR hk];rfl) (fY hl fun j hj=>h j (aaf _ hj))
theorem DA{K:Kx}{m m2:MSt}{ρ:List Nat}(Rl:Rel K α m σ H)(N:Ren ρ m m2):∃α2,Rel K α2 m2 σ H/\Ext m.np α H α2 H:=by
 have pr:=fY Rl.len N.lt;have get:∀(k:Nat) (ao:Ao),(ρ.map fun k=>α.getD k (.L 0))[k]?=some ao->∃j:Nat,ρ[k]?=some j/\α[j]?=some ao:=fun k ao z=>by
  obtain⟨j,h1,h2⟩:=Paired.get2 pr z;exact⟨j,h1,h2⟩
 have fwd:∀(k j:Nat) (ao:Ao),ρ[k]?=some j->α[j]?=some ao->(ρ.map fun k=>α.getD k (.L 0))[k]?=some ao:=fun k j ao z1 z2=>by
  obtain⟨ao',z3,z4⟩:=Paired.get' pr z1;rw[z2]at z4;cases z4;exact z3
 have pre':(ρ.map fun k=>α.getD k (.L 0)).take m.np=α.take m.np:=by
  apply ace;intro l;rw[aaV,aaV]
  by_cases hl:l<m.np
  .rw[if_pos hl,if_pos hl];have:ρ[l]?=some l:=by
    have e:=congrArg (·[l]?) N.pre;simp only[aaV,if_pos hl]at e;rw[e,abW hl]
   have hl2:l<α.length:=aaz hl Rl.npl;rw[fwd l l α[l] this (oR hl2),oR hl2]
  .rw[if_neg hl,if_neg hl]
 have ext:Ext m.np α H (ρ.map fun k=>α.getD k (.L 0)) H:=⟨pre',Frm.refl _ _,fun a ha=>by
  obtain⟨k,ao,e1,hm⟩:=ig ha;obtain⟨j,_,e2⟩:=get k ao e1;exact .inl (iZ e2 hm),fun a ha=>by
  obtain⟨o,q,_⟩:=Rl.mem ha;exact⟨_,q⟩⟩
 refine⟨ρ.map fun k=>α.getD k (.L 0),⟨fG Rl.nd N.nd pr,?_,fun k ao ds z1 z2=>?_,?_,fun j r z=>?_,?_,by rw[N.np];exact Rl.ebl,Rl.ebx.trans (ext.less Rl.ebl)⟩,ext⟩
 .rw[N.os,Ge,Ge]
 .obtain⟨j,q,qa⟩:=get k ao z1;rw[N.os,aae,q]at z2;have hj:j<m.os.length:=N.lt j (OR q);have z2':m.os.getD j []=ds:=aai z2;refine Rl.own j ao ds qa ?_;rw[<-z2',aau,oR hj];rfl
 .rw[N.vl];exact Rl.vlen
 .have h:=N.vs j r z
  cases r with
  |imm d=>exact Rl.var j (.imm d) h
  |new _=>exact h.elim
  |newT _=>exact h.elim
  |obj k =>
   obtain⟨j',q,h⟩:=h;obtain⟨v,ev,a,ea,e⟩:=Rl.var j (.obj j') h;exact⟨v,ev,a,fwd k j' _ q ea,e⟩
  | «at» k p =>
   obtain⟨j',q,h⟩:=h;obtain⟨v,ev,τ,a,ea,el,e⟩:=Rl.var j (.at j' p) h;exact⟨v,ev,τ,a,fwd k j' _ q ea,el,e⟩
 .rw[N.np,Ge];exact N.npl
def wSet(i:Nat)(we:WE):WS:=fun D m=>we m fun r m'=>o6 i D.nx m' r
theorem ck{K:Kx}{m:MSt}(Rl:Rel K α m σ H)(h:RelS K α H r v):Rel K α (m.setV i r) (σ.set i (some v)) H:=by
 refine⟨Rl.nd,Rl.len,Rl.own,?_,fun j r' e=>?_,Rl.npl,Rl.ebl,Rl.ebx⟩
 .show(σ.set i (some v)).length=(m.vs.set i (some r)).length;rw[abo,abo];exact Rl.vlen
 .have e':(m.vs.set i (some r))[j]?=some (some r'):=e
  by_cases hj:i=j
  .subst hj
   by_cases hi:i<m.vs.length
   .rw[aaS hi]at e';cases e';exact⟨v,aaS (by rw[Rl.vlen];exact hi),h⟩
   .rw[acZ (by rw[abo];omega)]at e';cases e'
  .rw[aaM hj]at e'⊢;exact Rl.var j r' e'
theorem nr{K:Kx}{m:MSt}(Rl:Rel K α m σ H)(R0:∃m0 σ0,Rel K α m0 σ0 H0)(F:Frm α H0 H)(nd:ao.ads.Nodup)(hn:∀b∈ao.ads,H0 b=none)(g:OwnAt K H ao ds) :
  Rel K (α++[ao]) {m with os:=m.os++[ds]} σ H/\∀np,np≤α.length->Ext np α H0 (α++[ao]) H:=by
 obtain⟨m0,σ0,Rl0⟩:=R0;have pα:∀b∈ao.ads,b∉ads α:=fun b hb=>Rl0.out (hn b hb);have one:ads [ao]=ao.ads:=by simp[ads]
 have ext:∀np,np≤α.length->Ext np α H0 (α++[ao]) H:=fun np hnp=>⟨by rw[List.take_append_of_le_length hnp],F,fun a ha=>by
  rw[iz,one]at ha;rcases abn.mp ha with z|z
  .exact .inl z
  .exact .inr (hn a z),fun a ha=>by
  obtain⟨o,q,_⟩:=Rl.mem ha;exact⟨_,q⟩⟩
 refine⟨⟨?_,by simp[Rl.len],fun k a es z1 z2=>?_,Rl.vlen,fun j r' z=>?_,by have:=Rl.npl;show m.np≤(α++[ao]).length;rw[aat];omega,Rl.ebl,Rl0.ebx.trans (ext _ ?_)⟩,ext⟩
 .rw[iz,one];exact ahD.mpr ⟨Rl.nd,nd,fun x hx y hy e=>pα y hy (e▸hx)⟩
 .have z2':(m.os++[ds])[k]?=some es:=z2
  by_cases hk:k<α.length
  .rw[aaO hk]at z1;rw[aaO (by rw[<-Rl.len];exact hk)]at z2';exact Rl.own k a es z1 z2'
  .rw[aaJ (by omega)]at z1;rw[aaJ (by rw[<-Rl.len];omega)]at z2';have hk0:k-α.length=0:=by
    have:=(aad.mp z1).1;simp at this;omega
   rw[hk0]at z1;rw[<-Rl.len,hk0]at z2';simp at z1 z2';subst z1;subst z2';exact g
 .obtain⟨v,ev,rv⟩:=Rl.var j r' z;refine⟨v,ev,?_⟩
  cases r' with
  |imm d=>exact rv
  |new _=>exact rv
  |newT _=>exact rv
  |obj k =>
   obtain⟨a,ea,e⟩:=rv;exact⟨a,by rw[aaO (aad.mp ea).1];exact ea,e⟩
  | «at» k p =>
   obtain⟨τ,a,ea,e⟩:=rv;exact⟨τ,a,by rw[aaO (aad.mp ea).1];exact ea,e⟩
 .exact aaF Rl.ebl Rl.npl
theorem qu{K:Kx}{m:MSt}{Q:St->Hp->Prop}{np:Nat}(Rl:Rel K α m σ H)(n:m.np=np)(F:Frm α H0 H)(h:RelR K α H0 H r v)(q:o6 i P m r)
  (k:∀α' m' σ' H',P m'->m'.np=np->Rel K α' m' σ' H'->Ext np α H0 α' H'->Q σ' H') (R0:∃m0 σ0,Rel K α m0 σ0 H0):Q (σ.set i (some v)) H:=by
 have up:∀α' m' σ' H',upR P m'->m'.np=np->Rel K α' m' σ' H'->Ext np α H0 α' H'->Q σ' H':=fun α' m' σ' H' q n R x=>by
  rcases q with q|⟨ρ,m2,N,q⟩
  .exact k α' m' σ' H' q n R x
  .obtain⟨α2,R2,x2⟩:=DA R N;rw[n]at x2;exact k α2 m2 σ' H' q (N.np.trans n) R2 (x.trans x2)
 have npα:np≤α.length:=by rw[<-n];exact Rl.npl
 cases r with
 |imm d=>exact up α _ _ H q n (ck Rl (r:=.imm d) h) (.of (ck (i:=i) Rl (r:=.imm d) h) F)
 |obj j=>exact up α _ _ H q n (ck Rl (r:=.obj j) h) (.of (ck (i:=i) Rl (r:=.obj j) h) F)
 | «at» j p=>exact up α _ _ H q n (ck Rl (r:=.at j p) h) (.of (ck (i:=i) Rl (r:=.at j p) h) F)
 |newT t =>
  obtain⟨τ,p,rfl,el,nd,hn,g⟩:=h;obtain⟨base,ext⟩:=nr Rl R0 F (ao:=.T τ) nd hn g;exact up (α++[.T τ]) _ _ H q n (ck base (r:=.at m.os.length []) ⟨τ,p,by rw[aaJ (by rw[Rl.len];exact aac _),<-Rl.len];simp,el,rfl⟩) (ext np npα)
 | new ds =>
  obtain⟨p,xs,rfl,hn,hp,g⟩:=h;have R0':=R0;obtain⟨m0,σ0,Rl0⟩:=R0';have pα:p∉ads α:=Rl0.out hn;rcases q with q|⟨j,e1,e2,e3,q⟩
  .
   obtain⟨base,ext⟩:=nr Rl R0 F (ao:=.L p) (by simp[Ao.ads]) (fun b hb=>by cases aaw.mp hb;exact hn) ⟨xs,hp,g⟩;exact up (α++[.L p]) _ _ H q n (ck base (r:=.obj m.os.length) ⟨p,by rw[aaJ (by rw[Rl.len];exact aac _),<-Rl.len];simp,rfl⟩) (ext np npα)
  .
   obtain⟨aj,eaj⟩:∃aj,α[j]?=some (.L aj):=by
    obtain⟨v,_,a,ea,_⟩:=Rl.var i _ e1;exact⟨a,ea⟩
   have hj:j<α.length:=(aad.mp eaj).1;have hi:i<m.vs.length:=(aad.mp e1).1;have ndS:(ads (α.set j (.L p))).Nodup:=by
    have z:=(gA α).mp Rl.nd;rw[gA];refine⟨fun ao ha=>?_,abR.mpr fun i1 i2 h1 h2 hlt a ha b hb e=>?_⟩
    .rcases afG ha with y|y
     .exact z.1 ao y
     .subst y;simp[Ao.ads]
    .subst e;rw[abo]at h1 h2;have mem:∀(l:Nat) (hl:l<α.length),a∈(α[l]).ads->a∈ads α:=fun l hl h=>iZ (oR hl) h
     by_cases c1:j=i1
     .subst c1;rw[agE]at ha;rw[adX (by omega)]at hb
      cases aaw.mp ha
      exact pα (mem i2 h2 hb)
     .rw[adX c1]at ha
      by_cases c2:j=i2
      .subst c2;rw[agE]at hb
       cases aaw.mp hb
       exact pα (mem i1 h1 ha)
      .rw[adX c2]at hb;exact fM Rl.nd (oR h1) (oR h2) (aa4 hlt) ha hb
   have ext:Ext np α H0 (α.set j (.L p)) H:=by
    refine⟨?_,F,fun a ha=>?_,fun a ha=>?_⟩
    .apply ace;intro l;rw[aaV,aaV]
     by_cases hl:l<np
     .rw[if_pos hl,if_pos hl,aaM (by omega)]
     .rw[if_neg hl,if_neg hl]
    .obtain⟨l,ao,el,hm⟩:=ig ha
     by_cases c1:j=l
     .subst c1;rw[aaS hj]at el;cases el
      cases aaw.mp hm
      exact .inr hn
     .rw[aaM c1]at el;exact .inl (iZ el hm)
    .obtain⟨o,q,_⟩:=Rl.mem ha;exact⟨_,q⟩
   have Rl':Rel K (α.set j (.L p)) {m with os:=m.os.set j ds} (σ.set i (some (.ref p))) H:=by
    refine⟨ndS,by simp[Rl.len],fun k a es z1 z2=>?_,by rw[abo];exact Rl.vlen,fun l r' z=>?_,by rw[abo];exact Rl.npl,Rl.ebl,Rl0.ebx.trans (ext.less (by have:=Rl.ebl;omega))⟩
    .have z2':(m.os.set j ds)[k]?=some es:=z2
     by_cases c1:j=k
     .subst c1;rw[aaS hj]at z1;rw[aaS (by rw[<-Rl.len];exact hj)]at z2'
      cases z1;cases z2'
      exact⟨xs,hp,g⟩
     .rw[aaM c1]at z1 z2';exact Rl.own k a es z1 z2'
    .have z':m.vs[l]?=some (some r'):=z
     by_cases hl:i=l
     .subst hl;rw[e1]at z';cases z';exact⟨.ref p,aaS (by rw[Rl.vlen];exact hi),p,aaS hj,rfl⟩
     .obtain⟨v,ev,rv⟩:=Rl.var l r' z';refine⟨v,by rw[aaM hl];exact ev,?_⟩
      cases r' with
      |imm d=>exact rv
      |new _=>exact rv
      |newT _=>exact rv
      |obj k =>
       obtain⟨a,ea,e⟩:=rv;refine⟨a,?_,e⟩;rw[aaM]
       .exact ea
       .rintro rfl;exact e3 l (abt hl) z'
      | «at» k p' =>
       obtain⟨τ,a,ea,e⟩:=rv;refine⟨τ,a,?_,e⟩;rw[aaM]
       .exact ea
       .rintro rfl;rw[eaj]at ea;cases ea
   exact k (α.set j (.L p)) _ _ H q n Rl' ext
theorem J7(hN:X.N.Nodup)(hi:X.N[i]?=some x)(hx:Loc X.env.scope x)(he:ME X e we)(hs:abY e (some (.Name x pos')) pos.line X.env=pure false:=by rfl)(hf:X.fn x=true\/X.env.scope.names.lookup x=some .local:=by first|exact .inl rfl|exact .inr rfl|assumption) :
  MS X (.Assign [.Name x pos'] e pos) (wSet i we):=(Jb hN hi hx he hs hf).wk fun D σ H ⟨α,m,De,Rl,hw,k⟩ =>
 ⟨α,m,_,Rl,hw,fun r m' v H' q n Rl' rr F=>qu (Q:=D.nx) Rl' n F rr q k.nx ⟨m,σ,Rl⟩⟩
abbrev WG:=iO->MSt->(MSt->Prop)->Prop
abbrev WGs:=List iO->MSt->(MSt->Prop)->Prop
def tMG(K:Kx)(g:WG):TG:=fun v σ H Q=>∃α m d Kc,Rel K α m σ H/\Den K H d v/\g d m Kc/\∀m' σ',Kc m'->m'.np=m.np->Rel K α m' σ' H->Q σ' H
def tMGs(K:Kx)(g:WGs):TGs:=fun vs σ H Q=>∃α m ds Kc,Rel K α m σ H/\DenAll K H ds vs/\g ds m Kc/\∀m' σ',Kc m'->m'.np=m.np->Rel K α m' σ' H->Q σ' H
theorem PG.wk{X:Cx}{e:Expr}{t t':TG}(h:PG X e t)(k:∀v σ H Q,t' v σ H Q->t v σ H Q):PG X e t':=fun pins s σ H v u Q I r q=>h pins s σ H v u Q I r (k _ _ _ _ q)
theorem PGs.wk{X:Cx}{e:List Expr}{t t':TGs}(h:PGs X e t)(k:∀v σ H Q,t' v σ H Q->t v σ H Q):PGs X e t':=fun pins s σ H v u Q I r q=>h pins s σ H v u Q I r (k _ _ _ _ q)
abbrev MG(X:Cx)(e:Expr)(g:WG):Prop:=PG X e (tMG X.kx g)
abbrev MGs(X:Cx)(es:List Expr)(g:WGs):Prop:=PGs X es (tMGs X.kx g)
def gM(i:Nat):WG:=fun d m K=>K (m.setV i (.imm d))
def DN:WGs:=fun ds m K=>ds=[]/\K m
def yz(g:WG)(gs:WGs):WGs:=fun ds m K=>match ds with|d::r=>g d m fun m'=>gs r m' K|[]=>False
def Bq(n:Nat)(gs:WGs):WG:=fun d m K=>match d with| .tuple ds=>ds.length=n/\gs ds m K|_=>False
theorem GF(hN:X.N.Nodup)(hi:X.N[i]?=some x)(hx:Loc X.env.scope x)(hf:X.fn x=true\/X.env.scope.names.lookup x=some .local:=by first|exact .inl rfl|exact .inr rfl|assumption):MG X (.Name x pos) (gM i):=(CJ hN hi hx hf).wk fun v σ H Q ⟨α,m,d,Kc,Rl,hd,hw,fin⟩ =>
 fin _ _ hw rfl (ck Rl hd)
theorem Gf:MGs X [] DN:=(Cy (X:=X)).wk fun v σ H Q ⟨α,m,d,Kc,Rl,hd,hw,fin⟩=>by
 obtain⟨rfl,hw⟩:=hw;simp only[DenAll]at hd;exact⟨hd,fin m σ hw rfl Rl⟩
theorem Am{e:Expr}{es:List Expr}(h1:MG X e g)(h2:MGs X es gs)
  (hs:(abL (e::es) X.env).map (·.2)=ada e X.env::(abL es X.env).map (·.2):=by rfl):MGs X (e::es) (yz g gs):=(yY h1 h2 hs).wk fun v σ H Q ⟨α,m,ds,Kc,Rl,hd,hw,fin⟩=>by
 cases ds with
 |nil=>exact hw.elim
 |cons d r =>
  simp only[DenAll]at hd;obtain⟨x,vr,rfl,h3,h4⟩:=hd;exact⟨x,vr,rfl,α,m,d,_,Rl,h3,hw,fun m' σ' k n Rl'=>⟨α,m',r,_,Rl',h4,k,fun m2 σ2 k2 n2 Rl2=>fin m2 σ2 k2 (n2.trans n) Rl2⟩⟩
theorem Lp{es:List Expr}{k:Nat}(h:MGs X es gs)(hc:X.calm=true:=by rfl)
  (hn:(abL es X.env).length=n:=by rfl) (hst:(abL es X.env).findIdx? (·.1)=none:=by rfl):MG X (.Tuple es k pos) (Bq n gs):=(Ls hc h hn hst).wk fun v σ H Q ⟨α,m,d,Kc,Rl,hd,hw,fin⟩=>by
 cases d with
 |tuple ds =>
  simp only[Den]at hd;obtain⟨a,xs,e,f,g⟩:=hd;exact⟨a,xs,e,f,g.length.symm.trans hw.1,α,m,ds,Kc,Rl,g,hw.2,fin⟩
 |none=>exact hw.elim
 |bool _=>exact hw.elim
 |int _=>exact hw.elim
 |str _=>exact hw.elim
 |list _=>exact hw.elim
 |dict _=>exact hw.elim
def df(P:iO->Prop):R->Prop
 | .imm d=>P d
 |_=>False
theorem fw{K:Kx}{P:iO->Prop}(rr:RelR K α Hb H r v)(h:df P r):∃d,r = .imm d/\Den K H d v/\P d:=by
 cases r with
 |imm d=>exact⟨d,rfl,rr,h⟩
 |obj _=>exact h.elim
 |new _=>exact h.elim
 | «at» _ _=>exact h.elim
 |newT _=>exact h.elim
def wAsg(we:WE)(g:WG):WS:=fun D m=>we m fun r m'=>df (fun d=>g d m' D.nx) r
theorem Md(he:ME X e we)(hg:MG X tg g)(hs:adc [tg] e pos.line X.env=pure false:=by rfl)(hw:add [tg] e X.env=pure none:=by rfl)
  (h1:(abL [tg] X.env).map (·.2)=[ada tg X.env]:=by rfl):MS X (.Assign [tg] e pos) (wAsg we g):=(BM he hg hs hw h1).wk fun D σ H ⟨α,m,De,Rl,hw,k⟩=>by
 refine⟨α,m,_,Rl,hw,fun r m' v H' q n Rl' rr F=>?_⟩;obtain⟨d,er,hd,q⟩:=fw rr q;exact⟨α,m',d,_,Rl',hd,q,fun m2 σ2 q2 n2 Rl2=>k.nx α m2 σ2 H' q2 (n2.trans n) Rl2 (.of Rl2 F)⟩
def wPar(i j:Nat)(ws:WA):WS:=fun D m=>ws m fun rs m'=>match rs with|[.imm d1,.imm d2]=>D.nx ((m'.setV i (.imm d1)).setV j (.imm d2))|_=>False
theorem JA{px py pt:Pos}{kt k2 pt2}(hN:X.N.Nodup)(hi:X.N[i]?=some x)(hj:X.N[j]?=some y)(hij:i≠j)
  (hx:X.env.scope.names.lookup x=some .local) (hy:X.env.scope.names.lookup y=some .local) (ha:MA X [a,b] ws)
  (hw:add [.Tuple [.Name x px,.Name y py] kt pt] (.Tuple [a,b] k2 pt2) X.env=pure (some [x,y])) (hc:X.calm=true:=by rfl)
  (hs:adc [.Tuple [.Name x px,.Name y py] kt pt] (.Tuple [a,b] k2 pt2) pos.line X.env=pure false:=by rfl) :
  MS X (.Assign [.Tuple [.Name x px,.Name y py] kt pt] (.Tuple [a,b] k2 pt2) pos) (wPar i j ws):=(Jr hc hN hi hj hij hx hy ha hw hs).wk fun D σ H ⟨α,m,De,Rl,hw,k⟩=>by
 refine⟨α,m,_,Rl,hw,fun rs m' vs H' q n Rl' rr F=>?_⟩;obtain⟨d1,d2,er,q⟩:∃d1 d2,rs=[.imm d1,.imm d2]/\De.nx ((m'.setV i (.imm d1)).setV j (.imm d2)):=by
  split at q
  .exact⟨_,_,rfl,q⟩
  .exact q.elim
 subst er
 cases rr with
 |cons h1 rr =>
  cases rr with
  |cons h2 rr =>
  cases rr;exact⟨_,_,rfl,k.nx α _ _ H' q n (ck (ck Rl' (r:=.imm d1) h1) (r:=.imm d2) h2) (.of Rl' F)⟩
end
structure Src where
 ds:List iO
 own:Option Nat
structure Wks(K:Kd)(J:It)(ds:List iO)(C:Hp->Prop):Prop where
 stop:∀H,C H->J.stop ds.length H
 go:∀i H,i<ds.length->C H->J.go i H
 yld:∀i H x H',i<ds.length->C H->J.yld i H x H'->(∀b o,H b=some o->H' b=some o)/\∃d,ds[i]?=some d/\Den K H' d x
def qc(K:Kd)(α:Al)(H:Hp)(s:Src)(J:It):Prop :=
 match s.own with
 |none=>∃C:Hp->Prop,Wks K J s.ds C/\C H/\∀H1 H2,C H1->Pers H1 H2->C H2
 |some k=>∃a,α[k]?=some (.L a)/\Wks K J s.ds fun H=>∃xs,H a=some (.lst xs)/\DenAll K H s.ds xs
abbrev WI:=MSt->(Src->MSt->Prop)->Prop
def tMI(K:Kx)(w:WI):TI:=fun σ H Rq=>∃α m Kc,Rel K α m σ H/\w m Kc/\∀s m' J H',Kc s m'->m'.np=m.np->Rel K α m' σ H'->Frm α H H'->qc K α H' s J->Rq J H'
theorem PI.wk{t t':TI}(h:PI X tg e t)(k:∀σ H Q,t' σ H Q->t σ H Q):PI X tg e t':=fun pins s σ H Q I q=>h pins s σ H Q I (k _ _ _ q)
abbrev MI(X:Cx)(tg e:Expr)(w:WI):Prop:=PI X tg e (tMI X.kx w)
section
variable {X:Cx}{tg a b c e iter:Expr}{es:List Expr}{wa wb wc we:WE}{ws:WA}{wt:WT}{pos:Pos}{st:Stmt}{rest body body2:List Stmt}{w u:WS}
def iSeq(K:aaj)(tl:TE):TI:=fun σ H Rq=>tl σ H fun x H1=>∃a,x = .ref a/\(((∃xs,SqL K H1 a xs)/\Rq (Itl K a) H1)\/((∃xs,SqT K H1 a xs)/\Rq (Itt K a) H1))
theorem Kj{l:Expr}{tl:TE}(hl:PE X l tl):PI X tg l (iSeq X.K tl):=by
 intro pins s σ H Rq I h;refine thn (hl pins s σ H _ I h) fun v s1 ⟨x,H1,I1,r1,q1⟩=>?_;obtain⟨a,e,q⟩:=q1;subst e;cases r1;rcases q with⟨⟨xs,hq⟩,q⟩|⟨⟨xs,hq⟩,q⟩
 .obtain⟨its,rv,p,hz⟩:=I1.list hq;refine wpAny_pyIter_list p.isList ?_;refine⟨s1.heap.objs.size,[s1.heap.objs.size],_,_,H1,rfl,I1.kept (t':=s1.toks) fun b o e=>Io _ e,wY a _,⟨_,aal _ rfl,rfl,rfl⟩,fun b hb=>?_,q⟩;have e:b=s1.heap.objs.size:=by simpa using hb
  subst e;exact I1.fpOk (aac _) (I1.hok.fresh (aac _))
 .obtain⟨its,rv,p,hz⟩:=I1.tuple hq;refine wpAny_pyIter_tuple (show s1.heap.IsTuple a its.toArray from p) ?_;refine⟨s1.heap.objs.size,[s1.heap.objs.size],_,_,H1,rfl,I1.kept (t':=s1.toks) fun b o e=>Io _ e,uy a _,⟨_,aal _ rfl,rfl,rfl⟩,fun b hb=>?_,q⟩;have e:b=s1.heap.objs.size:=by simpa using hb
  subst e;exact I1.fpOk (aac _) (I1.hok.fresh (aac _))
def srcR(m:MSt)(K:Src->MSt->Prop):R->Prop
 | .imm (.list ds)=>K ⟨ds,none⟩ m
 | .imm (.tuple ds)=>K ⟨ds,none⟩ m
 | .obj k=>∃ds,m.os[k]?=some ds/\K ⟨ds,some k⟩ m
 |_=>False
def G9(we:WE):WI:=fun m K=>we m fun r m'=>srcR m' K r
theorem wks_list{a:Addr}:Wks K (Itl K a) ds fun H=>∃xs,SqL K H a xs/\DenAll K H ds xs where
 stop:=fun H ⟨xs,q,g⟩=>⟨xs,q,by rw[g.length];exact aac _⟩
 go:=fun i H hi ⟨xs,q,g⟩=>⟨xs,xs[i]'(by rw[<-g.length];exact hi),q,oR _⟩
 yld:=fun i H x H' hi ⟨xs,q,g⟩ y=>by
  obtain⟨e,y⟩:=y;subst e;obtain⟨d,h1,h2⟩:=g.get2 (y xs q);exact⟨fun _ _ z=>z,d,h1,h2⟩
theorem CB{a:Addr}:Wks K (Itt K a) ds fun H=>∃xs,SqT K H a xs/\DenAll K H ds xs where
 stop:=fun H ⟨xs,q,g⟩=>⟨xs,q,by rw[g.length];exact aac _⟩
 go:=fun i H hi ⟨xs,q,g⟩=>⟨xs,xs[i]'(by rw[<-g.length];exact hi),q,oR _⟩
 yld:=fun i H x H' hi ⟨xs,q,g⟩ y=>by
  obtain⟨e,y⟩:=y;subst e;obtain⟨d,h1,h2⟩:=g.get2 (y xs q);exact⟨fun _ _ z=>z,d,h1,h2⟩
theorem Wks.imp{C C':Hp->Prop}(h:Wks K J ds C)(k:∀H,C' H->C H):Wks K J ds C':=⟨fun H c=>h.stop H (k H c),fun i H hi c=>h.go i H hi (k H c),fun i H x H' hi c=>h.yld i H x H' hi (k H c)⟩
theorem Ji(he:ME X e we):MI X tg e (G9 we):=(Kj (tg:=tg) he).wk fun σ H Rq ⟨α,m,Kc,Rl,hw,fin⟩=>by
 refine⟨α,m,_,Rl,hw,fun r m' v H' k n Rl' rr F=>?_⟩
 cases r with
 |new _=>exact k.elim
 | «at» _ _=>exact k.elim
 |newT _=>exact k.elim
 |obj j =>
  obtain⟨ds,e1,k⟩:=k;obtain⟨p,ep,rfl⟩:=rr;obtain⟨xs,q,g⟩:=Rl'.own j _ ds ep e1;exact⟨p,rfl,.inl ⟨⟨xs,SqL.of q⟩,fin _ m' _ H' k n Rl' F ⟨p,ep,wks_list.imp fun H ⟨xs,q,g⟩=>⟨xs,SqL.of q,g⟩⟩⟩⟩
 | imm d =>
  cases d with
  |list ds =>
   have h:Den X.kx H' (.list ds) v:=rr;simp only[Den]at h;obtain⟨p,xs,rfl,f,g⟩:=h;refine⟨p,rfl,.inl ⟨⟨xs,f.sq⟩,fin _ m' _ H' k n Rl' F ⟨fun H=>∃xs,FzL X.kx H p xs/\DenAll X.kx H ds xs,wks_list.imp fun H ⟨xs,q,g⟩=>⟨xs,q.sq,g⟩,⟨xs,f,g⟩,fun H1 H2 ⟨xs,q,g⟩ pe=>⟨xs,q.mono pe,g.mono pe⟩⟩⟩⟩
  |tuple ds =>
   have h:Den X.kx H' (.tuple ds) v:=rr;simp only[Den]at h;obtain⟨p,xs,rfl,f,g⟩:=h;refine⟨p,rfl,.inr ⟨⟨xs,f⟩,fin _ m' _ H' k n Rl' F ⟨fun H=>∃xs,SqT X.kx H p xs/\DenAll X.kx H ds xs,CB,⟨xs,f,g⟩,fun H1 H2 ⟨xs,q,g⟩ pe=>⟨xs,q.mono pe,g.mono pe⟩⟩⟩⟩
  |none=>exact k.elim
  |bool _=>exact k.elim
  |int _=>exact k.elim
  |str _=>exact k.elim
  |dict _=>exact k.elim
def gg(lo:Int)(n:Nat):List iO:=(aaI n).map fun(i:Nat)=>abi (lo+(i:Int))
theorem aF(lo:Int)(n:Nat):(gg lo n).length=n:=by simp[gg]
theorem iy{lo:Int}(h:i<n):(gg lo n)[i]?=some (.int (lo+(i:Int))):=by simp[gg,h]
theorem w4{lo:Int}:Wks K (Itr lo n) (gg lo n) fun _=>True where
 stop:=fun H _=>by rw[aF];exact aac _
 go:=fun i H hi _=>by rw[aF]at hi;exact hi
 yld:=fun i H x H' hi _ y=>by
  rw[aF]at hi;obtain⟨e,y⟩:=y;subst e y;exact⟨fun _ _ z=>z,_,iy hi,mT _⟩
def uV(ws:WA):WI:=fun m K=>ws m fun rs m'=>match rs with|[.imm (.int j)]=>-(2^62)≤j/\j<2^62/\K ⟨gg 0 j.toNat,none⟩ m'|_=>False
theorem aL{i:Int}(h:Den K H (.int i) v):v = .int i:=by simpa only[Den]using h
theorem yP(hg:Gl X "range")(hm:X.mg "range" = none)(ha:MA X [a] ws)(hs:aan [a] X.env=[(false,eval a X.env)]:=by first|exact cu rfl|rfl):MI X tg (.Call (.Name "range" p) [a] [] pos) (uV ws):=(vy (tg:=tg) hg hm ha hs).wk fun σ H Rq ⟨α,m,Kc,Rl,hw,fin⟩=>by
 refine⟨α,m,_,Rl,hw,fun rs m' vs H' k n Rl' rr F=>?_⟩;obtain⟨j,er,k1,k2,kf⟩:∃j:Int,rs=[.imm (.int j)]/\-(2^62)≤j/\j<2^62/\Kc ⟨gg 0 j.toNat,none⟩ m':=by
  split at k
  .exact⟨_,rfl,k⟩
  .exact k.elim
 subst er
 cases rr with
 |cons h1 rr =>
  cases rr;have e:=aL (show Den X.kx H' (.int j) _ from h1);subst e;exact⟨j,rfl,k1,k2,fin _ m' _ H' kf n Rl' F ⟨fun _=>True,w4,trivial,fun _ _ _ _=>trivial⟩⟩
def MSt.setN(m:MSt)(n:Nat):MSt:={m with np:=n}
def Src.np(s:Src)(m:MSt):Nat:=match s.own with|none=>m.np|some k=>max m.np (k+1)
def Src.ok(s:Src)(m:MSt):Prop:=match s.own with|none=>True|some k=>m.os[k]?=some s.ds
def gJ(s:Src)(g:WG)(w:WS):WS:=fun D m1=>∃P:Nat->MSt->Prop,P 0 (m1.setN (s.np m1)) /\
 (∀(i:Nat) (d:iO) (m:MSt),s.ds[i]?=some d->m.np=s.np m1->P i m->s.ok m/\g d m fun m2=>w {nx:=P (i+1),ct:=P (i+1),bk:=fun m'=>D.nx (m'.setN m1.np),rt:=fun r m'=>D.rt r (m'.setN m1.np)} m2) /\
 ∀m,m.np=s.np m1->P s.ds.length m->s.ok m/\D.nx (m.setN m1.np)
def wFor(wi:WI)(g:WG)(w:WS):WS:=fun D m=>wi m fun s m1=>gJ s g w D m1
theorem Rel.setN{K:Kx}{m:MSt}(R:Rel K α m σ H)(h:n≤α.length)(he:K.eb.np≤n):Rel K α (m.setN n) σ H:=⟨R.nd,R.len,R.own,R.vlen,R.var,h,he,R.ebx⟩
theorem qf{K:Kx}{s:Src}{w:WS}(Rl:Rel K α m1 σ H)(hJ:qc K α H s J)(h:gJ s g w De m1)(k:EndsOk K m1.np α H De D)
  (hb:∀α' m' σ' H' De' D',α'.take (s.np m1)=α.take (s.np m1)->m'.np=s.np m1->Rel K α' m' σ' H'->w De' m'->EndsOk K m'.np α' H' De' D'->tb D' σ' H'):l4 J (tMG K g) tb D σ H:=by
 obtain⟨P,p0,turn,fin⟩:=h;have npk:s.np m1≤α.length:=by
  unfold Src.np;unfold qc at hJ
  cases e:s.own with
  |none=>exact Rl.npl
  |some j =>
   rw[e]at hJ;obtain⟨a,ea,_⟩:=hJ;have:=(aad.mp ea).1;have:=Rl.npl;show max m1.np (j+1)≤α.length;omega
 have nple:m1.np≤s.np m1:=by
  unfold Src.np;split
  .exact aac _
  .exact aff _ _
 obtain⟨C,wk,hC⟩:∃C:Hp->Prop,Wks K J s.ds C/\∀α' m' σ' H',Rel K α' m' σ' H'->Ext (s.np m1) α H α' H'->s.ok m'->C H':=by
  unfold qc at hJ
  cases e:s.own with
  |none =>
   rw[e]at hJ;obtain⟨C,wk,c0,cm⟩:=hJ;exact⟨C,wk,fun α' m' σ' H' _ x _=>cm H H' c0 (Rl.pers x.frm)⟩
  | some j =>
   rw[e]at hJ;obtain⟨a,ea,wk⟩:=hJ;refine⟨_,wk,fun α' m' σ' H' R' x ok=>?_⟩;have hj:j<s.np m1:=by unfold Src.np;rw[e];show j<max _ _;omega
   have ea':α'[j]?=some (.L a):=by
    have:=congrArg (fun l=>l[j]?) x.pre;simp only[aaV,if_pos hj]at this;rw[this];exact ea
   unfold Src.ok at ok;rw[e]at ok;exact R'.own j _ s.ds ea' ok
 have back:∀{α':Al}{m':MSt}{σ':St}{H':Hp},Rel K α' m' σ' H'->m'.np=s.np m1->Ext (s.np m1) α H α' H'->Rel K α' (m'.setN m1.np) σ' H':=fun R' n x=>R'.setN (by
  have:=R'.npl;rw[n]at this;omega) Rl.ebl
 refine⟨fun i n σ' H'=>n=s.ds.length-i/\i≤s.ds.length/\∃α' m',P i m'/\m'.np=s.np m1/\Rel K α' m' σ' H'/\Ext (s.np m1) α H α' H',⟨s.ds.length,by simp,ac5 _,α,_,p0,rfl,Rl.setN npk (aaF Rl.ebl nple),.of Rl (Frm.refl _ _)⟩,?_⟩;rintro i n σ' H' ⟨rfl,hi,α',m',p,hn,R',x⟩
 by_cases hlt:i<s.ds.length
 .have hd:s.ds[i]?=some s.ds[i]:=oR hlt;obtain⟨ok,hg⟩:=turn i _ m' hd hn p;have c:=hC α' m' σ' H' R' x ok;refine .inr ⟨wk.go i H' hlt c,fun σ2 H2=>∃α2 m2,P (i+1) m2/\m2.np=s.np m1/\Rel K α2 m2 σ2 H2/\Ext (s.np m1) α H α2 H2,fun σ2 H2 h2=>⟨s.ds.length-(i+1),by omega,rfl,hlt,h2⟩,fun v H2 y=>?_⟩;obtain⟨grow,d,e1,e2⟩:=wk.yld i H' v H2 hlt c y;rw[hd]at e1;cases e1;have F2:Frm α' H' H2:=fun b o z _=>grow b o z;have R2:Rel K α' m' σ' H2:=R'.at (R'.pers F2) (fun b hb=>by
   obtain⟨ys,z,_⟩:=R'.mem hb;rw[z];exact grow b _ z) F2
  have x2:Ext (s.np m1) α H α' H2:=x.trans (.of R2 F2);refine⟨α',m',_,_,R2,e2,hg,fun m3 σ3 q3 n3 R3=>hb α' m3 σ3 H2 _ _ x2.pre (n3.trans hn) R3 q3 ?_⟩;have n3':m3.np=s.np m1:=n3.trans hn;have x3:Ext m3.np α H α' H2:=by rw[n3'];exact x2
  refine⟨fun α4 m4 σ4 H4 q4 n4 R4 x4=>⟨α4,m4,q4,n4.trans n3',R4,?_⟩,fun r α4 m4 σ4 v4 H4 q4 n4 R4 rr x4=>?_,fun α4 m4 σ4 H4 q4 n4 R4 x4=>?_,fun α4 m4 σ4 H4 q4 n4 R4 x4=>⟨α4,m4,q4,n4.trans n3',R4,?_⟩⟩
  .rw[<-n3'];exact x3.trans x4
  .have x5:Ext (s.np m1) α H α4 H4:=by rw[<-n3'];exact x3.trans x4
   exact k.rt r α4 (m4.setN m1.np) σ4 v4 H4 q4 rfl (back R4 (n4.trans n3') x5) (rr.ext x3) (x5.less nple)
  .have x5:Ext (s.np m1) α H α4 H4:=by rw[<-n3'];exact x3.trans x4
   exact k.nx α4 (m4.setN m1.np) σ4 H4 q4 rfl (back R4 (n4.trans n3') x5) (x5.less nple)
  .rw[<-n3'];exact x3.trans x4
 .have e:i=s.ds.length:=by omega
  subst e;obtain⟨ok,q⟩:=fin m' hn p;exact .inl ⟨wk.stop H' (hC α' m' σ' H' R' x ok),k.nx α' (m'.setN m1.np) σ' H' q rfl (back R' hn x) (x.less nple)⟩
theorem J4(hi:MI X tg iter wi)(hg:MG X tg g)(hb:MSs X body w)(hp:afX (model X.prog X.w) X.A X.env X.xe)(hc:X.calm=true:=by rfl)
  (hs:∀x,aaW iter X.env x=pure x:=by intro _;rfl):MS X (.For tg iter body [] pos) (wFor wi g w):=(KU hp hc hi hg hb hs).wk fun D σ H ⟨α,m,De,Rl,hw,k⟩ =>
 ⟨α,m,_,Rl,hw,fun s m' J H' q n Rl' F hJ=>qf Rl' hJ q (by rw[n];exact k.ext (.of Rl' F)) fun α' m' σ' H' De' D' _ _ R' h' k'=>⟨α',m',De',R',h',k'⟩⟩
def xj(t:WT)(w:WS):WS:=fun D m0=>∃P:Nat->MSt->Prop,(∃n,P n m0)/\∀n m,m.np=m0.np->P n m->t m fun c m'=>if c=true then w {D with nx:=fun m2=>∃n',n'<n/\P n' m2,ct:=fun m2=>∃n',n'<n/\P n' m2,bk:=D.nx} m' else D.nx m'
theorem ze(ht:MT X t wt)(hb:MSs X body w)(hp:afX (model X.prog X.w) X.A X.env X.xe):MS X (.While t body [] pos) (xj wt w):=(Ai hp ht hb).wk fun D σ H ⟨α,m,De,Rl,⟨P,⟨n0,p0⟩,turn⟩,k⟩=>by
 refine⟨fun n σ' H'=>∃α' m',P n m'/\m'.np=m.np/\Rel X.kx α' m' σ' H'/\Ext m.np α H α' H',⟨n0,α,m,p0,rfl,Rl,.of Rl (Frm.refl _ _)⟩,?_⟩;rintro n σ1 H1 ⟨α1,m1,p1,n1,R1,x1⟩;refine⟨α1,m1,_,R1,turn n m1 n1 p1,fun bb m2 H2 q n2 R2 F2=>?_⟩;have x2:Ext m.np α H α1 H2:=x1.trans (.of R2 F2);have n2':m2.np=m.np:=n2.trans n1
 cases bb with
 |true =>
  rw[if_pos rfl]at q;refine iteT ⟨fun σ3 H3=>∃n',n'<n/\∃α' m',P n' m'/\m'.np=m.np/\Rel X.kx α' m' σ3 H3/\Ext m.np α H α' H3,fun σ3 H3 ⟨n',hl,z⟩=>⟨n',hl,z⟩,α1,m2,_,R2,q,?_⟩;rw[n2'];exact⟨fun α' m' σ' H' ⟨n',hl,q⟩ nn R' y=>⟨n',hl,α',m',q,nn,R',x2.trans y⟩,fun r α' m' σ' v H' q nn R' rr y=>k.rt r α' m' σ' v H' q nn R' (rr.ext x2) (x2.trans y),fun α' m' σ' H' q nn R' y=>k.nx α' m' σ' H' q nn R' (x2.trans y),fun α' m' σ' H' ⟨n',hl,q⟩ nn R' y=>⟨n',hl,α',m',q,nn,R',x2.trans y⟩⟩
 |false =>
  rw[if_neg aay]at q;exact iteF (k.nx α1 m2 σ1 H2 q n2' R2 x2)
end
section
variable {K:Kx}{α:Al}{m:MSt}{σ:St}{H:Hp}
theorem Rel.setW(R:Rel K α m σ H)(ha:α[q]?=some ao)(pe:Pers H H')(F:∀b,b∉ao.ads->H' b=H b)(g:OwnAt K H' ao ds'):Rel K α {m with os:=m.os.set q ds' } σ H'/\Frm α H H':=by
 have Fα:Frm α H H':=fun b o e nb=>by rw[F b fun z=>nb (iZ ha z)];exact e
 have own':∀(k:Nat) (a:Ao) (es:List iO),α[k]?=some a->(m.os.set q ds')[k]?=some es->OwnAt K H' a es:=fun k a es z1 z2'=>by
  by_cases c:q=k
  .subst c;rw[ha]at z1;cases z1;rw[aaS (by rw[<-R.len];exact(aad.mp ha).1)]at z2';cases z2';exact g
  .rw[aaM c]at z2';exact(R.own k a es z1 z2').mono pe fun b hb=>F b fun z=>fM R.nd ha z1 c z hb
 refine⟨⟨R.nd,by simp[R.len],own',R.vlen,fun i r h=>?_,R.npl,R.ebl,R.ebx.trans ⟨rfl,Fα,fun _ h=>.inl h,fun a ha=>?_⟩⟩,Fα⟩
 .obtain⟨v,ev,rv⟩:=R.var i r h;refine⟨v,ev,?_⟩
  cases r with
  |imm d=>exact Den.mono pe rv
  |obj k=>exact rv
  | «at» k p=>exact rv
  |new ds=>exact rv
  |newT t=>exact rv
 .obtain⟨k,ao,e1,hm⟩:=ig ha;have hk:k<(m.os.set q ds').length:=by rw[abo,<-R.len];exact(aad.mp e1).1
  obtain⟨o,q,_⟩:=(own' k ao _ e1 (oR hk)).mem hm;exact⟨o,q⟩
theorem Rel.setO{xs':List V}(R:Rel K α m σ H)(ha:α[q]?=some (.L l))(hl:H l=some (.lst xs))(g:DenAll K H ds' xs'):Rel K α {m with os:=m.os.set q ds' } σ (upd H l (.lst xs'))/\Frm α H (upd H l (.lst xs')):=by
 have pe:Pers H (upd H l (.lst xs')):=sK hl;exact R.setW ha pe (fun b hb=>ap fun e=>hb (aaw.mpr e)) ⟨xs',aw,g.mono pe⟩
end
def uF(own:List Str)(ps:List Nat)(vs:List (Option R)):List (Option R):=own.map (fun _=>none)++ps.map fun i=>(vs[i]?).join
def je(own:List Str)(ps:List Nat)(m:MSt):MSt:=⟨uF own ps m.vs,m.os++[[]],m.os.length+1⟩
def wIfT(tt:WT)(w:WS):WS:=fun D m=>tt m fun b m'=>if b=true then w D m' else D.nx m'
def uB(q:Nat)(we:WE):WS:=fun D m=>we m fun r m'=>df (fun d=>∃ds,m'.os[q]?=some ds/\ds.length<aam/\D.nx {m' with os:=m'.os.set q (ds++[d])}) r
def k7(wi:WI)(own:List Str)(ps:List Nat)(g:WG)(tt:WT)(we:WE):WE:=fun m K=>wi m fun s m1 =>
 gJ s g (wIfT tt (uB m1.os.length we)) {nx:=fun m'=>K (.new (m'.os.getD m1.os.length [])) {m1 with os:=m'.os.take m1.os.length},rt:=fun _ _=>False} (je own ps m1)
def tq(wi:WI)(own:List Str)(ps:List Nat)(g:WG)(tt:WT)(wi2:WI)(g2:WG)(tt2:WT)(we:WE):WE:=fun m K=>wi m fun s m1 =>
 gJ s g (wIfT tt fun D m2=>wi2 m2 fun s2 m3=>gJ s2 g2 (wIfT tt2 (uB m1.os.length we)) D m3) {nx:=fun m'=>K (.new (m'.os.getD m1.os.length [])) {m1 with os:=m'.os.take m1.os.length},rt:=fun _ _=>False} (je own ps m1)
def qz:WT:=fun m K=>K true m
section
variable {K:Kx}
theorem vv{m:MSt}(ha:α[q]?=some (.L l))(Rl:Rel K α m σ H)(h:uB q we De m)(k:EndsOk K m.np α H De D):pH l (tM K we) D σ H:=by
 refine⟨α,m,_,Rl,h,fun r m' v H' kk n R' rr F=>?_⟩;obtain⟨d,er,hd,ds,e1,hz,kk⟩:=fw rr kk;obtain⟨xs,hx,g⟩:=R'.own q _ ds ha e1;obtain⟨R2,F2⟩:=R'.setO ha hx (g.append (DenAll.cons hd DenAll.nil));exact⟨xs,hx,by rw[<-g.length];exact hz,k.nx α _ σ _ kk n R2 (.of R2 (F.trans F2))⟩
theorem vd{m:MSt}(Rl:Rel K α m σ H)(h:wIfT tt w De m)(k:EndsOk K m.np α H De D)
  (hb:∀m' H',m'.np=m.np->Rel K α m' σ H'->w De m'->EndsOk K m'.np α H' De D->tb D σ H'):tIfT (tMT K tt) tb D σ H:=by
 refine⟨α,m,_,Rl,h,fun bb m' H' q n R' F=>?_⟩;have k':EndsOk K m'.np α H' De D:=by rw[n];exact k.ext (.of R' F)
 cases bb with
 |true=>rw[if_pos rfl]at q;exact iteT (hb m' H' n R' q k')
 |false=>rw[if_neg aay]at q;exact iteF (k'.nx α m' σ H' q rfl R' (.of R' (Frm.refl _ _)))
theorem v7{ps:List Nat}{s:Src}{m:MSt}{Kc:R->MSt->Prop}(Rl:Rel K α m σ H)(n1:m1.np=m.np)(Rl1:Rel K α m1 σ H1)(F1:Frm α H H1)(hJ:qc K α H1 s J)(hl:H1 l=none)
  (h:gJ s g w {nx:=fun m'=>Kc (.new (m'.os.getD m1.os.length [])) {m1 with os:=m'.os.take m1.os.length},rt:=fun _ _=>False} (je own ps m1))
  (fin:∀r m' v H',Kc r m'->m'.np=m.np->Rel K α m' σ H'->RelR K α H H' r v->Frm α H H'->Q v H')
  (hb:∀α' m' σ' H' De' D',α'[m1.os.length]?=some (.L l)->m1.os.length<m'.np->Rel K α' m' σ' H'->w De' m'->EndsOk K m'.np α' H' De' D'->tb D' σ' H') :
  l4 J (tMG K g) tb {nx:=fun _ H'=>Q (.ref l) H',rt:=fun _ _=>False} (gh own ps σ) (upd H1 l (.lst [])):=by
 have pα:l∉ads α:=Rl1.out hl;have pe:Pers H1 (upd H1 l (.lst [])):=br (.inl hl);have hlen:α.length=m1.os.length:=Rl1.len;have at0:(α++[.L l])[m1.os.length]?=some (.L l):=by rw[aaJ (by omega),<-hlen];simp
 have Rl1':Rel K α m1 σ (upd H1 l (.lst [])):=Rl1.lay hl;obtain⟨Rm,extm⟩:=nr (ao:=.L l) (ds:=[]) Rl1' ⟨m1,σ,Rl1⟩ (cj hl) (by simp[Ao.ads]) (fun b hb=>by cases aaw.mp hb;exact hl) ⟨[],aw,DenAll.nil⟩;have R0:Rel K (α++[.L l]) (je own ps m1) (gh own ps σ) (upd H1 l (.lst [])):=by
  refine⟨Rm.nd,by simp[je,hlen],Rm.own,by simp[gh,je,uF],fun i r z=>?_,by simp[je,hlen],by have:=Rl1.ebl;have:=Rl1.npl;show K.eb.np≤m1.os.length+1;omega,Rm.ebx⟩;have z':(uF own ps m1.vs)[i]?=some (some r):=z;unfold uF at z'
  by_cases hi:i<own.length
  .rw[aaO (by simpa using hi),aae]at z'
   cases q:own[i]? with
   |none=>rw[q]at z';cases z'
   |some y=>rw[q]at z';cases z'
  .rw[aaJ (by simpa using hi),Ge,aae]at z'
   cases q:ps[i-own.length]? with
   |none=>rw[q]at z';cases z'
   | some p =>
    rw[q]at z';have z2:(m1.vs[p]?).join=some r:=aai z';have hv:m1.vs[p]?=some (some r):=by
     cases y:m1.vs[p]? with
     |none=>rw[y]at z2;cases z2
     |some y'=>rw[y]at z2;cases y' with
      |none=>cases z2
      |some y'=>cases z2;rfl
    obtain⟨v,ev,rv⟩:=Rm.var p r hv;refine⟨v,?_,rv⟩;unfold gh;rw[aaJ (by simpa using hi),Ge,aae,q];show some ((σ[p]?).join)=some (some v);rw[ev];rfl
 have hJ':qc K (α++[.L l]) (upd H1 l (.lst [])) s J:=by
  unfold qc at hJ⊢
  cases e:s.own with
  |none =>
   rw[e]at hJ;obtain⟨C,wk,c0,cm⟩:=hJ;exact⟨C,wk,cm _ _ c0 pe,cm⟩
  |some j =>
   rw[e]at hJ;obtain⟨a,ea,wk⟩:=hJ;exact⟨a,by rw[aaO (aad.mp ea).1];exact ea,wk⟩
 have npq:m1.os.length<s.np (je own ps m1):=by
  unfold Src.np;split
  .exact abP _
  .exact aaz (abP _) (aff _ _)
 refine qf R0 hJ' h ⟨fun α' m' σ' H' q n R' x=>?_,fun _ _ _ _ _ _ z=>z.elim,fun _ _ _ _ z=>z.elim,fun _ _ _ _ z=>z.elim⟩ fun α' m' σ' H' De' D' hp hnp R' h' k'=>hb α' m' σ' H' De' D' ?_ (by rw[hnp];exact npq) R' h' k'
 .
  have n':m'.np=m1.os.length+1:=n;have x':Ext (m1.os.length+1) (α++[.L l]) (upd H1 l (.lst [])) α' H':=x;have F':Frm α H1 H':=fun b o e nb=>by
   have hbl:b≠l:=bf e hl;refine x'.frm b o (by rw[ap hbl];exact e) fun z=>?_;rw[iz]at z;rcases abn.mp z with z|z
   .exact nb z
   .exact hbl (by simpa[ads,Ao.ads]using z)
  have pe':Pers H1 H':=Rl1.pers F';have same:∀k,k<m1.os.length+1->α'[k]?=(α++[.L l])[k]?:=fun k hk=>by
   have:=congrArg (fun z=>z[k]?) x'.pre;simp only[aaV,if_pos hk]at this;exact this
  have hlen':m1.os.length+1≤m'.os.length:=by
   have:=R'.npl;rw[n',R'.len]at this;exact this
  have hq:m1.os.length<m'.os.length:=by omega
  have eq1:m'.os[m1.os.length]?=some (m'.os.getD m1.os.length []):=by
   rw[aau,oR hq];rfl
  obtain⟨xs,y1,y2⟩:=R'.own m1.os.length (.L l) _ (by rw[same _ (abP _)];exact at0) eq1;have own':∀(k:Nat) (a:Ao) (es:List iO),α[k]?=some a->(m'.os.take m1.os.length)[k]?=some es->OwnAt K H' a es:=fun k a es z1 z2'=>by
   rw[aaV]at z2';have hk:k<m1.os.length:=by rw[<-hlen];exact(aad.mp z1).1
   rw[if_pos hk]at z2';exact R'.own k a es (by rw[same k (by omega),aaO (by omega)];exact z1) z2'
  have tl:(m'.os.take m1.os.length).length=α.length:=by rw[aaK];omega
  have old':Ext K.eb.np α H1 α H':=⟨rfl,F',fun _ h=>.inl h,fun a ha=>by
   obtain⟨k,ao,e1,hm⟩:=ig ha;have hk:k<(m'.os.take m1.os.length).length:=by rw[tl];exact(aad.mp e1).1
   obtain⟨o,q,_⟩:=(own' k ao _ e1 (oR hk)).mem hm;exact⟨o,q⟩⟩
  refine fin _ _ (.ref l) H' q n1 ⟨Rl1.nd,tl.symm,own',Rl1.vlen,fun i r z=>?_,Rl1.npl,Rl1.ebl,Rl1.ebx.trans old'⟩ ?_ (F1.trans F')
  .obtain⟨v,ev,rv⟩:=Rl1.var i r z;refine⟨v,ev,?_⟩
   cases r with
   |imm d=>exact Den.mono pe' rv
   |obj k=>exact rv
   | «at» k p=>exact rv
   |new ds=>exact rv
   |newT t=>exact rv
  .refine⟨l,xs,rfl,?_,y1,y2⟩
   cases z:H l with
   |none=>rfl
   |some o =>
    have:=F1 l o z pα;rw[hl]at this;cases this
 .have:=congrArg (fun z=>z[m1.os.length]?) hp;simp only[aaV,if_pos npq]at this;rw[this];exact at0
end
section
variable {X:Cx}{scope sc:Scope}{own fr:List Str}{ps:List Nat}{elt tg iter tg2 iter2:Expr}{ifs ifs2:List Expr}{pos spos py:Pos}{wi wi2:WI}{g g2:WG}{tt tt2:WT}{we:WE}
theorem se(h:tM X.kx (k7 wi own ps g tt we) σ H Q):w6 (tMI X.kx wi) own ps (tl1 (tMG X.kx g) (tMT X.kx tt) (tM X.kx we)) σ H Q:=by
 obtain⟨α,m,Kc,Rl,hw,fin⟩:=h;refine⟨α,m,_,Rl,hw,fun s m1 J H1 k n1 Rl1 F1 hJ l hl=>?_⟩;exact v7 Rl n1 Rl1 F1 hJ hl k fin fun α' m' σ' H' De' D' ha hnp R' h' k'=>vd R' h' k' fun m2 H2 n2 R2 h2 k2=>vv ha R2 h2 k2
theorem Bu(h:tM X.kx (tq wi own ps g tt wi2 g2 tt2 we) σ H Q):w6 (tMI X.kx wi) own ps (tl2 (tMG X.kx g) (tMT X.kx tt) (tMI X.kx wi2) (tMG X.kx g2) (tMT X.kx tt2) (tM X.kx we)) σ H Q:=by
 obtain⟨α,m,Kc,Rl,hw,fin⟩:=h;refine⟨α,m,_,Rl,hw,fun s m1 J H1 k n1 Rl1 F1 hJ l hl=>?_⟩;refine v7 Rl n1 Rl1 F1 hJ hl k fin fun α' m' σ' H' De' D' ha hnp R' h' k'=>vd R' h' k' fun m2 H2 n2 R2 h2 k2=>?_;refine⟨α',m2,_,R2,h2,fun s2 m3 J2 H3 q3 n3 R3 F3 hJ2=>?_⟩;have hq:m1.os.length<s2.np m3:=by
  have:m1.os.length<m3.np:=by rw[n3,n2];exact hnp
  unfold Src.np;split
  .exact this
  .exact aaz this (aff _ _)
 refine qf R3 hJ2 q3 (by rw[n3];exact k2.ext (.of R3 F3)) fun α4 m4 σ4 H4 De4 D4 hp4 hn4 R4 h4 k4=>vd R4 h4 k4 fun m5 H5 n5 R5 h5 k5=>vv ?_ R5 h5 k5;have:=congrArg (fun z=>z[m1.os.length]?) hp4;simp only[aaV,if_pos hq]at this;rw[this];exact ha
theorem zx(S:bR own fr scope sc)(hi:MI X tg iter wi)(hg:∀cl s H C ex,MG (aP X scope cl (own++fr) s H C ex) tg g)(ht:∀cl s H C ex,PTs (aP X scope cl (own++fr) s H C ex) ifs (tMT X.kx tt))
  (he:∀cl s H C ex,ME (aP X scope cl (own++fr) s H C ex) elt we) (hsc:X.env.scope=sc:=by rfl) (hps:ps.map (fun i=>X.N[i]?)=fr.map some:=by rfl) (hc:X.calm=true:=by rfl) (hs:∀x,aaW iter X.env x=pure x:=by intro _;rfl) :
  ME X (.ListComp elt [⟨tg,iter,ifs,0⟩] scope pos) (k7 wi own ps g tt we):=(z9 S hi hg ht he hsc hps hc hs).wk fun _ _ _ h=>se h
theorem H9:PTs X [] (tMT X.kx qz):=fun pins s σ H Q I ⟨α,m,Kc,Rl,hw,fin⟩=>Dj pins s σ H Q I (fin true m H hw rfl Rl (Frm.refl _ _))
theorem C5{t:WT}(h:MT X c t):PTs X [c] (tMT X.kx t):=Gq h
theorem z6(S:bR own fr scope sc)(hN:X.N.Nodup)(hy:X.N[i]?=some y)(hlc:X.env.scope.names.lookup y=some .local)(hi:MI X tg iter wi)(hg:∀cl s H C ex,MG (aP X scope cl (own++fr) s H C ex) tg g)(ht:∀cl s H C ex,PTs (aP X scope cl (own++fr) s H C ex) ifs (tMT X.kx tt))
  (he:∀cl s H C ex,ME (aP X scope cl (own++fr) s H C ex) elt we) (hsw:abY (.ListComp elt [⟨tg,iter,ifs,0⟩] scope pos) (some (.Name y py)) spos.line X.env=pure true:=by rfl)
  (hsc:X.env.scope=sc:=by rfl) (hps:ps.map (fun i=>X.N[i]?)=fr.map some:=by rfl) (hc:X.calm=true:=by rfl) (hs:∀x,aaW iter X.env x=pure x:=by intro _;rfl) :
  MS X (.Assign [.Name y py] (.ListComp elt [⟨tg,iter,ifs,0⟩] scope pos) spos) (wSet i (k7 wi own ps g tt we)):=(zM S hN hy hlc hi hg ht he hsw hsc hps hc hs).wk fun D σ H ⟨α,m,De,Rl,hw,k⟩ =>
 se ⟨α,m,_,Rl,hw,fun r m' v H' q n Rl' rr F=>qu (Q:=D.nx) Rl' n F rr q k.nx ⟨m,σ,Rl⟩⟩
theorem AD(S:bR own fr scope sc)(hN:X.N.Nodup)(hy:X.N[i]?=some y)(hlc:X.env.scope.names.lookup y=some .local)(hi:MI X tg iter wi)(hg:∀cl s H C ex,MG (aP X scope cl (own++fr) s H C ex) tg g)(ht:∀cl s H C ex,PTs (aP X scope cl (own++fr) s H C ex) ifs (tMT X.kx tt))
  (hi2:∀cl s H C ex,MI (aP X scope cl (own++fr) s H C ex) tg2 iter2 wi2) (hg2:∀cl s H C ex,MG (aP X scope cl (own++fr) s H C ex) tg2 g2) (ht2:∀cl s H C ex,PTs (aP X scope cl (own++fr) s H C ex) ifs2 (tMT X.kx tt2))
  (he:∀cl s H C ex,ME (aP X scope cl (own++fr) s H C ex) elt we) (hsw:abY (.ListComp elt [⟨tg,iter,ifs,0⟩,⟨tg2,iter2,ifs2,0⟩] scope pos) (some (.Name y py)) spos.line X.env=pure true:=by rfl)
  (hsc:X.env.scope=sc:=by rfl) (hps:ps.map (fun i=>X.N[i]?)=fr.map some:=by rfl) (hc:X.calm=true:=by rfl) (hs:∀x,aaW iter X.env x=pure x:=by intro _;rfl)
  (hs2:∀cl C x,aaW iter2 (agN scope cl C X.env) x=pure x:=by intro _ _ _;rfl) :
  MS X (.Assign [.Name y py] (.ListComp elt [⟨tg,iter,ifs,0⟩,⟨tg2,iter2,ifs2,0⟩] scope pos) spos) (wSet i (tq wi own ps g tt wi2 g2 tt2 we)):=(zd S hN hy hlc hi hg ht hi2 hg2 ht2 he hsw hsc hps hc hs hs2).wk fun D σ H ⟨α,m,De,Rl,hw,k⟩ =>
 Bu ⟨α,m,_,Rl,hw,fun r m' v H' q n Rl' rr F=>qu (Q:=D.nx) Rl' n F rr q k.nx ⟨m,σ,Rl⟩⟩
end
theorem bu{i:Str}(h:Den K H (.str i) v):v = .str i:=by simpa only[Den]using h
theorem ki{i:Bool}(h:Den K H (.bool i) v):v = .bl i:=by simpa only[Den]using h
theorem lg(h:Den K H .none v):v = .non:=by simpa only[Den]using h
theorem dM(i:Int):RelR K α Hb H (.imm (.int i)) (.int i):=mT (K:=K) (H:=H) i
theorem nU(i:Bool):RelR K α Hb H (.imm (.bool i)) (.bl i):=JH (K:=K) (H:=H) i
theorem vJ(i:Str):RelR K α Hb H (.imm (.str i)) (.str i):=yb (K:=K) (H:=H) i
theorem yr:RelR K α Hb H (.imm .none) .non:=FG (K:=K) (H:=H)
theorem kG{d:iO}(h:Den K H d v):RelR K α Hb H (.imm d) v:=h
theorem bF(h:Den K H (.tuple ds) v):∃a xs,v = .ref a/\SqT K H a xs/\DenAll K H ds xs:=by simpa only[Den]using h
theorem cP(f:SqT K H a xs)(g:DenAll K H ds xs):Den K H (.tuple ds) (.ref a):=by simp only[Den];exact⟨a,xs,rfl,f,g⟩
section
variable {X:Cx}
def oAdd:WO
 | .imm (.int i),.imm (.int j),_,K=>K (.imm (.int (i+j)))
 | .imm (.str x),.imm (.str y),_,K=>x.length+y.length≤aam/\K (.imm (.str (x++y)))
 | .imm (.tuple a),.imm (.tuple b),_,K=>a.length+b.length≤aam/\K (.imm (.tuple (a++b)))
 |r1,r2,m,K=>∃xs ys,lsOf m r1=some xs/\lsOf m r2=some ys/\xs.length+ys.length≤aam/\K (.new (xs++ys))
theorem aM:OpR X (acw .Add) (rM X.kx oAdd):=by
 rintro pins s σ' H x y v u Q I rx ry ⟨α,m,σ,H0,H1,r1,r2,Kc,Rl,h1,h2,ho,fin⟩;unfold oAdd at ho
 split at ho
 .rename_i _ _ i j;have e1:=aL (show Den X.kx H (.int i) x from h1);have e2:=aL (show Den X.kx H (.int j) y from h2);subst e1 e2;exact L4 pins s σ' H _ _ v u Q I rx ry ⟨i,j,rfl,rfl,fin _ _ H ho Rl (dM _) (Frm.refl _ _)⟩
 .rename_i _ _ i j;have e1:=bu (show Den X.kx H (.str i) x from h1);have e2:=bu (show Den X.kx H (.str j) y from h2);subst e1 e2;exact ut pins s σ' H _ _ v u Q I rx ry ⟨i,j,rfl,rfl,ho.1,fin _ _ H ho.2 Rl (vJ _) (Frm.refl _ _)⟩
 .rename_i _ _ ds es;obtain⟨a,xs,rfl,f1,g1⟩:=bF (show Den X.kx H (.tuple ds) x from h1);obtain⟨b,ys,rfl,f2,g2⟩:=bF (show Den X.kx H (.tuple es) y from h2);obtain⟨hz,ho⟩:=ho
  by_cases hx:xs=[]
  .subst hx
   cases rx;cases ry
   obtain⟨its,rv1,p1,_⟩:=I.tuple f1;obtain⟨its2,rv2,p2,_⟩:=I.tuple f2;cases rv1;obtain⟨⟨cls,dd,data,sl⟩,ho1,hc,n,hd⟩:=id p1;obtain⟨⟨cls2,dd2,data2,sl2⟩,ho2,hc2,n2,hd2⟩:=id p2;simp only at hc hd hc2 hd2;subst hc hd hc2 hd2;have e0:ds=[]:=by cases ds with|nil=>rfl|cons _ _=>have:=g1.length;simp at this
   subst e0;exact agk ⟨_,ho1,rfl⟩ ⟨_,ho2,rfl⟩ af0 ahf aep aeh (ad0 _ _)
    (tuple_addW0 a b _ its2.toArray n n2 dd dd2 sl sl2 (by simp)) ⟨ho1,ho2,⟨.ref b,H,I,rfl,fin _ _ H ho Rl (show Den X.kx H (.tuple ([]++es)) (.ref b)from h2) (Frm.refl _ _)⟩⟩
  .refine DT pins s σ' H _ _ v u Q I rx ry ⟨a,b,xs,ys,rfl,rfl,f1,f2,hx,by rw[<-g1.length,<-g2.length];exact hz,fun e=>?_,fun e p hp=>?_⟩
   .subst e;have e0:es=[]:=by cases es with|nil=>rfl|cons _ _=>have:=g2.length;simp at this
    subst e0;exact fin _ _ H (by rw[abb]at ho;exact ho) Rl (kG h1) (Frm.refl _ _)
   .exact fin _ _ _ ho (Rl.lay hp) (kG<|cP (SqT.of aw) ((g1.append g2).mono (br (.inl hp)))) (cj hp)
 .obtain⟨ds,es,e1,e2,hz,ho⟩:=ho;obtain⟨a,xs,rfl,f1,g1⟩:=h1.list Rl e1;obtain⟨b,ys,rfl,f2,g2⟩:=h2.list Rl e2
  cases rx;cases ry
  obtain⟨its,rv1,⟨⟨cls,dd,data,sl⟩,n,ho1,hc,hdd,hd⟩,_⟩:=I.list f1;obtain⟨its2,rv2,⟨⟨cls2,dd2,data2,sl2⟩,n2,ho2,hc2,hdd2,hd2⟩,_⟩:=I.list f2;simp only at hc hd hc2 hd2;subst hc hd hc2 hd2;have hzz:xs.length+ys.length≤aam:=by rw[<-g1.length,<-g2.length];exact hz
  refine agk ⟨_,ho1,rfl⟩ ⟨_,ho2,rfl⟩ noFill_list_add seq_list_add PySem.F.slot_list_add PySem.F.entry_list_add (PySem.F.args_list_add_2 _ _) (list_addW a b its.toArray its2.toArray n n2 dd dd2 sl sl2 (by have:=rv1.length;have:=rv2.length;simp only[aap];omega)) ⟨ho1,ho2,?_⟩;have ea:its.toArray++its2.toArray=(its++its2).toArray:=by simp
  rw[ea];have hp:H s.heap.objs.size=none:=I.fresh;exact⟨.ref _,_,I.lnew (t':=s.toks) (rv1.append rv2) (by rw[aat];omega),rfl,fin _ _ _ ho (Rl.lay hp) ⟨_,xs++ys,rfl,hp,aw,(g1.append g2).mono (br (.inl hp))⟩ (cj hp)⟩
def oII(C:Int->Int->Prop)(g:Int->Int->Int):WO
 | .imm (.int i),.imm (.int j),_,K=>C i j/\K (.imm (.int (g i j)))
 |_,_,_,_=>False
def oIB(g:Int->Int->Bool):WO
 | .imm (.int i),.imm (.int j),_,K=>K (.imm (.bool (g i j)))
 |_,_,_,_=>False
theorem oi{f:GE->GE->Sem GE}{C:Int->Int->Prop}{g:Int->Int->Int}(h:OpR X f (rI C fun i j=>.int (g i j))):OpR X f (rM X.kx (oII C g)):=by
 rintro pins s σ' H x y v u Q I rx ry ⟨α,m,σ,H0,H1,r1,r2,Kc,Rl,h1,h2,ho,fin⟩;unfold oII at ho
 split at ho
 .rename_i _ _ i j;have e1:=aL (show Den X.kx H (.int i) x from h1);have e2:=aL (show Den X.kx H (.int j) y from h2);subst e1 e2;exact h pins s σ' H _ _ v u Q I rx ry ⟨i,j,rfl,rfl,ho.1,fin _ _ H ho.2 Rl (dM _) (Frm.refl _ _)⟩
 .exact ho.elim
theorem vc{f:GE->GE->Sem GE}{g:Int->Int->Bool}(h:OpR X f (rI0 fun i j=>.bl (g i j))):OpR X f (rM X.kx (oIB g)):=by
 rintro pins s σ' H x y v u Q I rx ry ⟨α,m,σ,H0,H1,r1,r2,Kc,Rl,h1,h2,ho,fin⟩;unfold oIB at ho
 split at ho
 .rename_i _ _ i j;have e1:=aL (show Den X.kx H (.int i) x from h1);have e2:=aL (show Den X.kx H (.int j) y from h2);subst e1 e2;exact h pins s σ' H _ _ v u Q I rx ry ⟨i,j,rfl,rfl,fin _ _ H ho Rl (nU _) (Frm.refl _ _)⟩
 .exact ho.elim
def oSub:WO:=oII (fun _ _=>True) fun i j=>i-j
theorem rm:OpR X (acw .Sub) (rM X.kx oSub):=oi (opI fun _ _ _ _ _ _ _ _ q=>sub_int q)
def oMul:WO:=oII afY fun i j=>i*j
theorem FQ:OpR X (acw .Mult) (rM X.kx oMul):=oi (opI fun _ _ _ _ _ _ _ hc q=>mul_int q hc)
def CFd(_ j:Int):Prop:=0<j/\j.natAbs.log2<9000
def L9:WO:=oII CFd fun i j=>i/j
theorem cZ:OpR X (acw .FloorDiv) (rM X.kx L9):=oi (opI fun i j _ _ _ _ _ hc q=>floordiv_int (by have:=hc.1;omega) (by rw[Int.fdiv_eq_ediv_of_nonneg _ (by have:=hc.1;omega)];exact q) (.inl (PyProof.noPylong_of_log2 hc.2)))
def oMod:WO:=oII (fun _ j=>0<j) fun i j=>i%j
theorem cN:OpR X (acw .Mod) (rM X.kx oMod):=oi KG
def oPow:WO:=oII CPow fun i j=>i^j.toNat
theorem Cw:OpR X (acw .Pow) (rM X.kx oPow):=oi Lh
def oLt:WO:=oIB fun i j=>decide (i<j)
def oGt:WO:=oIB fun i j=>decide (j<i)
def oGe:WO:=oIB fun i j=>decide (j≤i)
theorem jb:OpR X (abZ .Lt) (rM X.kx oLt):=vc OW
theorem i8:OpR X (abZ .Gt) (rM X.kx oGt):=vc Na
theorem K7:OpR X (abZ .GtE) (rM X.kx oGe):=vc Oa
def eqD(f:Bool->Bool):WO:=fun r1 r2 m K=>match asD m r1,asD m r2 with
 |some d1,some d2=>aeq d1=true/\aeq d2=true/\K (.imm (.bool (f (aar d1 d2))))
 |_,_=>False
def eqS(f:Bool->Bool):WO:=fun r1 r2 m K=>∃x y:Str,r1 = .imm (.str x)/\r2 = .imm (.str y)/\K (.imm (.bool (f (decide (x=y)))))
def eqSs(f:Bool->Bool):WO:=fun r1 r2 m K=>∃xs ys:List Str,lsOf m r1=some (xs.map .str)/\lsOf m r2=some (ys.map .str)/\xs.length=ys.length/\K (.imm (.bool (f (decide (xs=ys)))))
def oEq:WO:=fun r1 r2 m K=>eqD id r1 r2 m K\/eqS id r1 r2 m K\/eqSs id r1 r2 m K
def oNe:WO:=fun r1 r2 m K=>eqD (!·) r1 r2 m K\/eqS (!·) r1 r2 m K
theorem gn{K:Kd}{H:Hp}:∀{ns:List Str}{xs:List V},DenAll K H (ns.map .str) xs->xs=ns.map V.str
 |[],_,h=>by simpa only[abJ,DenAll]using h
 |n::ns,_,h=>by
  simp only[aao,DenAll]at h;obtain⟨v,vs,rfl,h1,h2⟩:=h;have e:=bu (K:=K) (H:=H) h1;rw[e,gn h2];rfl
theorem nh:∀{ns:List Str}{us:List GE}{j:Nat}{u:GE},Vals (ns.map V.str) us->us[j]?=some u->∃x t,ns[j]?=some x/\u = .str x t
 |[],_,_,_,.nil,e=>by simp at e
 |n::ns,_,0,_,.cons r _,e=>by
  simp at e;subst e;obtain⟨t,h⟩:=r;exact⟨n,t,rfl,h⟩
 |n::ns,_,j+1,u,.cons _ t,e=>by
  obtain⟨x,tk,h1,h2⟩:=nh (j:=j) (u:=u) t (by simpa using e);exact⟨x,tk,by simpa using h1,h2⟩
theorem rh(xs ys:List Str)(h:xs.length=ys.length):(aaI xs.length).all (fun j=>decide (xs.getD j ahQ=ys.getD j ahQ))=decide (xs=ys):=by
 rw[acE,ab7,decide_eq_true_eq];constructor
 .intro q;apply ahR h;intro i h1 h2;have:=q i (by simpa using h1);rw[decide_eq_true_eq,aau,aau,oR h1,oR h2]at this;exact this
 .rintro rfl j _;exact decide_eq_true rfl
theorem FZ{s:aab}{x y:V}{v u:GE}{m:MSt}{r1 r2:R}{xs ys:List Str}(I:Inv X pins σ' H s)(Rl:Rel X.kx α m σ H)(h1:RelR X.kx α H0 H r1 x)(h2:RelR X.kx α H1 H r2 y)(rx:RelV x v)(ry:RelV y u)
  (e1:lsOf m r1=some (xs.map .str)) (e2:lsOf m r2=some (ys.map .str)) (hl:xs.length=ys.length) (hu:X.A.units+64<cLine):∃l b its its2,v = .ref l/\u = .ref b/\s.heap.IsList l its/\s.heap.IsList b its2/\its.size=xs.length/\its2.size=xs.length /\
   ∀j (z1:j<its.size) (z2:j<its2.size),agg X.A.in1 s its[j] its2[j] (decide (xs.getD j ahQ=ys.getD j ahQ)):=by
 obtain⟨a,zs,rfl,f1,g1⟩:=h1.list Rl e1;obtain⟨b,ws,rfl,f2,g2⟩:=h2.list Rl e2;have q1:=gn g1;have q2:=gn g2;subst q1 q2
 cases rx;cases ry
 obtain⟨its,rv1,p1,_⟩:=I.list f1;obtain⟨its2,rv2,p2,_⟩:=I.list f2;have l1:=rv1.length;have l2:=rv2.length;rw[Ge]at l1 l2;refine⟨a,b,its.toArray,its2.toArray,rfl,rfl,p1.isList,p2.isList,by simp[l1],by simp[<-l2,hl],fun j z1 z2=>?_⟩;obtain⟨x,t,h3,h4⟩:=nh rv1 (j:=j) (u:=its.toArray[j]) (by rw[agR,oR]);obtain⟨y,t',h5,h6⟩:=nh rv2 (j:=j) (u:=its2.toArray[j]) (by rw[agR,oR]);rw[h4,h6,aau,aau,h3,h5];have:=agg.str_str (A:=X.A.in1) (s:=s) x t y t';have e:(x==y)=decide (x=y):=by rw[acl]
 rw[e]at this;exact this
theorem bG(hu:X.A.units+64<cLine):OpR X (abZ .Eq) (rM X.kx oEq):=by
 rintro pins s σ' H x y v u Q I rx ry ⟨α,m,σ,H0,H1,r1,r2,Kc,Rl,h1,h2,ho,fin⟩;rcases ho with ho|⟨z,t,rfl,rfl,ho⟩|⟨xs,ys,e1,e2,hl,ho⟩
 .unfold eqD at ho
  split at ho
  .rename_i d1 d2 e1 e2;obtain⟨as,q1⟩:=h1.reads I Rl rx e1 (abk _ (adv ho.1));obtain⟨bs,q2⟩:=h2.reads I Rl ry e2 (abk _ (adv ho.2.1));exact eq_dataH q1 q2 ho.1 ho.2.1 hu ⟨.bl _,H,I,rfl,fin _ _ H ho.2.2 Rl (nU _) (Frm.refl _ _)⟩
  .exact ho.elim
 .have e1:=bu (show Den X.kx H (.str z) x from h1);have e2:=bu (show Den X.kx H (.str t) y from h2);subst e1 e2;refine N6 pins s σ' H _ _ v u Q I rx ry ⟨rfl,?_⟩;rw[l5,acl];exact fin _ _ H ho Rl (nU _) (Frm.refl _ _)
 .obtain⟨l,b,its,its2,rfl,rfl,p1,p2,s1,s2,he⟩:=FZ I Rl h1 h2 rx ry e1 e2 hl hu;refine SeqAt.eq_listAt p1 p2 (s1.trans s2.symm) (by omega) he ?_;rw[s1,rh xs ys hl];exact⟨.bl _,H,I,rfl,fin _ _ H ho Rl (nU _) (Frm.refl _ _)⟩
theorem pJ(hu:X.A.units+64<cLine):OpR X (abZ .NotEq) (rM X.kx oNe):=by
 rintro pins s σ' H x y v u Q I rx ry ⟨α,m,σ,H0,H1,r1,r2,Kc,Rl,h1,h2,ho,fin⟩;rcases ho with ho|⟨z,t,rfl,rfl,ho⟩
 .unfold eqD at ho
  split at ho
  .rename_i d1 d2 e1 e2;obtain⟨as,q1⟩:=h1.reads I Rl rx e1 (abk _ (adv ho.1));obtain⟨bs,q2⟩:=h2.reads I Rl ry e2 (abk _ (adv ho.2.1));exact ne_dataH q1 q2 ho.1 ho.2.1 hu ⟨.bl _,H,I,rfl,fin _ _ H ho.2.2 Rl (nU _) (Frm.refl _ _)⟩
  .exact ho.elim
 .have e1:=bu (show Den X.kx H (.str z) x from h1);have e2:=bu (show Den X.kx H (.str t) y from h2);subst e1 e2;refine M9 pins s σ' H _ _ v u Q I rx ry ⟨rfl,?_⟩;rw[l5,acl];exact fin _ _ H ho Rl (nU _) (Frm.refl _ _)
def xz:R->Bool
 | .imm .none=>true
 |_=>false
def yk:WO:=fun r1 r2 _ K=>r2 = .imm .none/\K (.imm (.bool (!xz r1)))
theorem uA(h:RelR K α Hb H r v):decide (v = .non)=xz r:=by
 cases r with
 |obj k=>obtain⟨a,_,rfl⟩:=h;rfl
 |new ds=>obtain⟨a,_,rfl,_⟩:=h;rfl
 | «at» k p=>obtain⟨τ,a,_,_,rfl⟩:=h;rfl
 |newT t=>obtain⟨τ,a,rfl,_⟩:=h;rfl
 |imm d =>
  cases d with
  |none=>have e:=lg (show Den K H .none v from h);subst e;rfl
  |bool b=>have e:=ki (show Den K H (.bool b) v from h);subst e;rfl
  |int b=>have e:=aL (show Den K H (.int b) v from h);subst e;rfl
  |str b=>have e:=bu (show Den K H (.str b) v from h);subst e;rfl
  |list ds=>have h':Den K H (.list ds) v:=h;simp only[Den]at h';obtain⟨a,_,rfl,_⟩:=h';rfl
  |tuple ds=>obtain⟨a,_,rfl,_⟩:=bF (show Den K H (.tuple ds) v from h);rfl
  |dict es=>have h':Den K H (.dict es) v:=h;simp only[Den]at h';obtain⟨a,rfl,_⟩:=h';rfl
theorem ux:OpR X (abZ .IsNot) (rM X.kx yk):=by
 rintro pins s σ' H x y v u Q I rx ry ⟨α,m,σ,H0,H1,r1,r2,Kc,Rl,h1,h2,ho,fin⟩;obtain⟨e,ho⟩:=ho;subst e;have ey:=lg (show Den X.kx H .none y from h2);exact Fj pins s σ' H _ _ v u Q I rx ry ⟨ey,by rw[uA h1];exact fin _ _ H ho Rl (nU _) (Frm.refl _ _)⟩
def uNeg:WU
 | .imm (.int i),_,K=>K (.imm (.int (-i)))
 |_,_,_=>False
theorem gq:UnR X (unaryOp .USub) (uM X.kx uNeg):=by
 rintro pins s σ' H x v Q I rx ⟨α,m,σ,H0,r1,Kc,Rl,h1,ho,fin⟩;unfold uNeg at ho
 split at ho
 .rename_i _ i;have e1:=aL (show Den X.kx H (.int i) x from h1);subst e1;exact Kw pins s σ' H _ v Q I rx ⟨i,rfl,fin _ _ H ho Rl (dM _) (Frm.refl _ _)⟩
 .exact ho.elim
def wM(m:MSt)(K:R->Prop):R->R->Prop
 | .imm (.tuple ds),.imm (.int i)=>∃d,atI ds i=some d/\K (.imm d)
 | .imm (.str x),.imm (.int i)=>∃c,x.length≤aam/\atI x.cps.toList i=some c/\K (.imm (.str ⟨#[c]⟩))
 |r,.imm (.int i)=>∃ds d,lsOf m r=some ds/\atI ds i=some d/\K (.imm d)
 |_,_=>False
def oA:WO:=fun r1 r2 m K=>wM m K r1 r2
theorem ye{K:Kx}{i:Int}{d:iO}(g:DenAll K H ds xs)(e:atI ds i=some d):∃v,atI xs i=some v/\Den K H d v:=by
 unfold atI at e⊢;rw[<-g.length]
 cases q:ixN ds.length i with
 |none=>rw[q]at e;cases e
 |some j =>
  rw[q]at e;obtain⟨v,h1,h2⟩:=g.get (show ds[j]?=some d from e);exact⟨v,h1,h2⟩
theorem E9:IxR X (rM X.kx oA):=by
 rintro value slice pins s σ' H x y v u Q I rx ry ⟨α,m,σ,H0,H1,r1,r2,Kc,Rl,h1,h2,ho,fin⟩ hsub;have ho':wM m Kc r1 r2:=ho;unfold wM at ho'
 split at ho'
 .rename_i ds i;obtain⟨d,e,k⟩:=ho';obtain⟨a,xs,rfl,f,g⟩:=bF (show Den X.kx H (.tuple ds) x from h1);have e2:=aL (show Den X.kx H (.int i) y from h2);obtain⟨z,z1,z2⟩:=ye g e;exact L5 value slice pins s σ' H _ _ v u Q I rx ry ⟨a,xs,i,z,rfl,e2,f,z1,fin _ _ H k Rl (kG z2) (Frm.refl _ _)⟩ hsub
 .rename_i w i;obtain⟨c,hz,e,k⟩:=ho';have e1:=bu (show Den X.kx H (.str w) x from h1);have e2:=aL (show Den X.kx H (.int i) y from h2);exact Jw value slice pins s σ' H _ _ v u Q I rx ry ⟨w,i,c,e1,e2,hz,e,fin _ _ H k Rl (vJ _) (Frm.refl _ _)⟩ hsub
 .rename_i i _ _;obtain⟨ds,d,el,e,k⟩:=ho';obtain⟨a,xs,rfl,f,g⟩:=h1.list Rl el;have e2:=aL (show Den X.kx H (.int i) y from h2);obtain⟨z,z1,z2⟩:=ye g e;exact GQ value slice pins s σ' H _ _ v u Q I rx ry ⟨a,xs,i,z,rfl,e2,f,z1,fin _ _ H k Rl (kG z2) (Frm.refl _ _)⟩ hsub
 .exact ho'.elim
theorem Ou{a b:Expr}{wa wb:WE}(ha:ME X a wa)(hb:ME X b wb)(hs:qe b:=by intro _ _;rfl):ME X (.Subscript a b pos) (wBin oA wa wb):=(OX E9 ha hb hs).wk fun _ _ _ h=>t3 h
end
def oz(P:Int->Prop):R->Prop
 | .imm (.int i)=>P i
 |_=>False
def ql(P:Nat->Prop):R->Prop
 | .obj k=>P k
 |_=>False
def on1(P:R->Prop):List R->Prop
 |[r]=>P r
 |_=>False
section
variable {K:Kx}{α:Al}{Hb H:Hp}{r:R}{v:V}
theorem xk{P:Int->Prop}(rr:RelR K α Hb H r v)(h:oz P r):∃i,r = .imm (.int i)/\v = .int i/\P i:=by
 unfold oz at h
 split at h
 .exact⟨_,rfl,aL (K:=K) (H:=H) rr,h⟩
 .exact h.elim
theorem vC{P:Nat->Prop}(rr:RelR K α Hb H r v)(h:ql P r):∃k a,r = .obj k/\α[k]?=some (.L a)/\v = .ref a/\P k:=by
 unfold ql at h
 split at h
 .obtain⟨a,e1,e2⟩:=rr;exact⟨_,a,rfl,e1,e2,h⟩
 .exact h.elim
theorem dL{P:R->Prop}{rs:List R}(rr:RelRs K α Hb H rs xs)(h:on1 P rs):∃r v,rs=[r]/\xs=[v]/\RelR K α Hb H r v/\P r:=by
 cases rr with
 |nil=>exact h.elim
 |cons h1 t =>
  cases t with
  |nil=>exact⟨_,_,rfl,rfl,h1,h⟩
  |cons _ _=>exact h.elim
end
section
variable {X:Cx}{o a b c e:Expr}{es:List Expr}{wo wa wb wc we wi:WE}{ws:WA}{pos apos cpos:Pos}
abbrev WM:=R->List R->MSt->(R->MSt->Prop)->Prop
def mM(K:Kx)(ob:WM):V->List V->Hp->VK->Prop:=fun x xs H Q=>∃α m σ H0 H1 r rs Kc,Rel K α m σ H/\RelR K α H0 H r x/\RelRs K α H1 H rs xs/\ob r rs m Kc/\∀r m' v H',Kc r m'->m'.np=m.np->Rel K α m' σ H'->RelR K α H H' r v->Frm α H H'->Q v H'
def wML(ob:WM)(wo:WE)(ws:WA):WE:=fun m K=>wo m fun r m1=>(∃ds,lsOf m1 r=some ds)/\ws m1 fun rs m2=>ob r rs m2 K
theorem N9{ob:WM}(h:tM X.kx (wML ob wo ws) σ H Q):tBM X.K "list" (mM X.kx ob) (tM X.kx wo) (tMA X.kx ws) σ H Q:=by
 obtain⟨α,m,Kc,Rl,hw,fin⟩:=h;refine⟨α,m,_,Rl,hw,fun r m1 v H1 k n1 Rl1 rr F1=>?_⟩;obtain⟨⟨ds,el⟩,k⟩:=k;obtain⟨a,xs,rfl,f,g⟩:=rr.list Rl1 el;refine⟨.inl ⟨rfl,xs,f⟩,α,m1,_,Rl1,k,fun rs m2 vs H2 k2 n2 Rl2 rr2 F2=>?_⟩;exact⟨α,m2,σ,H,H1,r,rs,Kc,Rl2,rr.keep Rl Rl1 F2,rr2,k2,fun r m' v H' k n Rl' rr' F=>fin r m' v H' k (n.trans (n2.trans n1)) Rl' (rr'.base Rl2 (F1.trans F2)) ((F1.trans F2).trans F)⟩
theorem Mi{name:Str}{id:String}{ob:WM}(slot:Slot "list" name id)(hty:typeOf (.builtin id)=pure (.type "method_descriptor"))(hm:MtM X id (mM X.kx ob))(ho:ME X o wo)(ha:MA X (e::es) ws)
  (hbase:abD o name X.env (eval o X.env)=eval o X.env:=by rfl)
  (hfew:((acb cpos (aan (e::es) X.env)).all (fun x=>!x.1)&&(afx cpos (adM [] X.env)).all (fun x=>x.1.isSome)
   && decide ((e::es).length+([]:List adr).length+(if ([]:List adr).isEmpty then 0 else 1)<30))=true:=by rfl)
  (hline:(apos.endLine==cpos.line)=true:=by rfl) (hs:aan (e::es) X.env=(false,eval e X.env)::aan es X.env:=by first|exact aY rfl|rfl) (hplain:(acb cpos (aan es X.env)).any (·.1)=false:=by rfl) :
  ME X (.Call (.Attribute o name apos) (e::es) [] cpos) (wML ob wo ws):=(JM PySem.F.plainAttrs_list slot hty hm ho ha hbase hfew hline hs hplain).wk fun _ _ _ h=>N9 h
def x8:WM:=fun r rs m K=>ql (fun k=>on1 (df fun d=>∃ds,m.os[k]?=some ds/\ds.length<aam/\K (.imm .none) {m with os:=m.os.set k (ds++[d])}) rs) r
theorem cA:MtM X "list.append" (mM X.kx x8):=by
 rintro pins s σ' H x xs v us Q I rx rv ⟨α,m,σ,H0,H1,r,rs,Kc,Rl,h1,h2,ho,fin⟩;obtain⟨k,a,rfl,ea,rfl,ho⟩:=vC h1 ho;obtain⟨r2,v2,rfl,rfl,h2,ho⟩:=dL h2 ho;obtain⟨d,rfl,hd,ds,e1,hz,ho⟩:=fw h2 ho;obtain⟨ys,q,g⟩:=Rl.own _ _ ds ea e1;obtain⟨R2,F2⟩:=Rl.setO ea q (g.append (DenAll.cons hd DenAll.nil));exact om pins s σ' H _ _ v us Q I rx rv ⟨a,ys,_,rfl,rfl,q,by rw[<-g.length];exact hz,fin _ _ _ _ ho rfl R2 yr F2⟩
def Gj(we wo wi:WE):WS:=fun D m=>we m fun rv m1=>df (fun d=>wo m1 fun ro m2=>wi m2 fun ri m3=>ql (fun k=>oz (fun z=>∃ds j,m3.os[k]?=some ds/\ixN ds.length z=some j/\D.nx {m3 with os:=m3.os.set k (ds.set j d)}) ri) ro) rv
theorem GV{b i:Expr}(he:ME X e we)(ho:ME X b wo)(hi:ME X i wi)(hs:adc [.Subscript b i pos'] e pos.line X.env=pure false:=by rfl)(hw:add [.Subscript b i pos'] e X.env=pure none:=by rfl)
  (h1:(abL [.Subscript b i pos'] X.env).map (·.2)=[ada (.Subscript b i pos') X.env]:=by rfl) (ha:∀v,ada (.Subscript b i pos') X.env v=(do
   let ov <- adI [v] (eval b X.env)
   let iv <- adI [v,ov] (eval i X.env)
   ado pos'
   adI [v,ov,iv] (agZ ov iv v)
   release [v,ov,iv] []):=by intro _;rfl):MS X (.Assign [.Subscript b i pos'] e pos) (Gj we wo wi):=(BM he (Jl ho hi zt ha) hs hw h1).wk fun D σ H ⟨α,m,De,Rl,hw,k⟩=>by
 refine⟨α,m,_,Rl,hw,fun r m1 v H1 q n1 Rl1 rr F1=>?_⟩;obtain⟨d,er,hd,q⟩:=fw rr q;refine⟨α,m1,_,Rl1,q,fun ro m2 ov H2 q2 n2 Rl2 rr2 F2=>⟨α,m2,_,Rl2,q2,fun ri m3 iv H3 q3 n3 Rl3 rr3 F3=>?_⟩⟩;obtain⟨kk,p,rfl,ea,rfl,q3⟩:=vC rr2 q3;obtain⟨z,rfl,rfl,ds,j,e1,e2,q3⟩:=xk rr3 q3;obtain⟨ys,q,g⟩:=Rl3.own _ _ ds ea e1;have hd3:Den X.kx H3 d v:=(hd.mono (Rl1.pers F2)).mono (Rl2.pers F3);obtain⟨R4,F4⟩:=Rl3.setO ea q (g.set hd3 j);exact⟨p,ys,z,j,rfl,rfl,q,by rw[<-g.length];exact e2,k.nx α _ σ _ q3 (n3.trans (n2.trans n1)) R4 (.of R4 (((F1.trans F2).trans F3).trans F4))⟩
def lenR(m:MSt)(K:R->Prop):R->Prop
 | .imm (.str x)=>x.length≤aam/\K (.imm (.int x.length))
 | .imm (.tuple ds)=>K (.imm (.int ds.length))
 |r=>∃ds,lsOf m r=some ds/\K (.imm (.int ds.length))
def oLen:WC:=fun rs m K=>on1 (lenR m K) rs
theorem bg:dj X (.builtin "len") (cM X.kx oLen):=by
 rintro pins s σ' H xs us Q I rv ⟨α,m,σ,H0,rs,Kc,Rl,h,ho,fin⟩;obtain⟨r,v,rfl,rfl,h1,ho⟩:=dL h ho;unfold lenR at ho
 split at ho
 .rename_i x _;have e:=bu (show Den X.kx H (.str x) _ from h1);subst e;exact ol pins s σ' H _ us Q I rv ⟨x,rfl,ho.1,fin _ _ H ho.2 Rl (dM _) (Frm.refl _ _)⟩
 .rename_i ds _;obtain⟨a,ys,rfl,f,g⟩:=bF (show Den X.kx H (.tuple ds) _ from h1);exact i6 pins s σ' H _ us Q I rv ⟨a,ys,rfl,.inr f,by rw[<-g.length];exact fin _ _ H ho Rl (dM _) (Frm.refl _ _)⟩
 .obtain⟨ds,el,ho⟩:=ho;obtain⟨a,ys,rfl,f,g⟩:=h1.list Rl el;exact i6 pins s σ' H _ us Q I rv ⟨a,ys,rfl,.inl f,by rw[<-g.length];exact fin _ _ H ho Rl (dM _) (Frm.refl _ _)⟩
def oAbs:WC:=fun rs m K=>on1 (oz fun i=>K (.imm (.int (if i<0 then -i else i)))) rs
theorem oU:dj X (.builtin "abs") (cM X.kx oAbs):=by
 rintro pins s σ' H xs us Q I rv ⟨α,m,σ,H0,rs,Kc,Rl,h,ho,fin⟩;obtain⟨r,v,rfl,rfl,h1,ho⟩:=dL h ho;obtain⟨i,rfl,rfl,ho⟩:=xk h1 ho;exact AE pins s σ' H _ us Q I rv ⟨i,rfl,fin _ _ H ho Rl (dM _) (Frm.refl _ _)⟩
def intR(K:R->Prop):R->Prop
 | .imm (.int i)=>K (.imm (.int i))
 | .imm (.bool b)=>K (.imm (.int (if b then 1 else 0)))
 |_=>False
def oInt:WC:=fun rs m K=>on1 (intR K) rs
theorem oT:dj X (.type "int") (cM X.kx oInt):=by
 rintro pins s σ' H xs us Q I rv ⟨α,m,σ,H0,rs,Kc,Rl,h,ho,fin⟩;obtain⟨r,v,rfl,rfl,h1,ho⟩:=dL h ho;unfold intR at ho
 split at ho
 .rename_i i _;have e:=aL (show Den X.kx H (.int i) _ from h1);subst e;exact oW pins s σ' H _ us Q I rv (.inl ⟨i,rfl,fin _ _ H ho Rl (dM _) (Frm.refl _ _)⟩)
 .rename_i i _;have e:=ki (show Den X.kx H (.bool i) _ from h1);subst e;exact oW pins s σ' H _ us Q I rv (.inr ⟨i,rfl,fin _ _ H ho Rl (dM _) (Frm.refl _ _)⟩)
 .exact ho.elim
def sqOf(m:MSt):R->Option (List iO)
 | .imm (.tuple ds)=>some ds
 |r=>lsOf m r
theorem RelR.seq{K:Kx}{m:MSt}(Rl:Rel K α m σ H)(h:RelR K α H0 H r v)(e:sqOf m r=some ds):∃a xs,v = .ref a/\(SqL K H a xs\/SqT K H a xs)/\DenAll K H ds xs:=by
 unfold sqOf at e
 split at e
 .cases e;obtain⟨a,ys,e,f,g⟩:=bF (show Den K H (.tuple ds) _ from h);exact⟨a,ys,e,.inr f,g⟩
 .obtain⟨a,ys,e,f,g⟩:=h.list Rl e;exact⟨a,ys,e,.inl f,g⟩
def BQ:WC:=fun rs m K=>on1 (fun r=>∃ds,sqOf m r=some ds/\K (.imm (.tuple ds))) rs
theorem dg:dj X (.type "tuple") (cM X.kx BQ):=by
 rintro pins s σ' H xs us Q I rv ⟨α,m,σ,H0,rs,Kc,Rl,h,ho,fin⟩;obtain⟨r,v,rfl,rfl,h1,ho⟩:=dL h ho
 .obtain⟨ds,e,ho⟩:=ho;obtain⟨a,ys,rfl,f,g⟩:=h1.seq Rl e;refine lU pins s σ' H _ us Q I rv ⟨a,ys,rfl,?_⟩;rcases f with f|f
  .exact .inl ⟨f,fun l hl=>fin _ _ _ ho (Rl.lay hl) (kG (cP (SqT.of aw) (g.mono (br (.inl hl))))) (cj hl)⟩
  .exact .inr ⟨f,fin _ _ _ ho Rl (kG (cP f g)) (Frm.refl _ _)⟩
def CU:WC:=fun rs m K=>on1 (fun r=>∃d,asD m r=some d/\d.showable=true/\d.hasDict=false/\d.shown.length≤aam/\d.depth≤100/\K (.imm (.str d.shown))) rs
theorem da(hg:X.A.guards=some [])(hu:X.A.units+200<cLine):dj X (.builtin "repr") (cM X.kx CU):=by
 rintro pins s σ' H xs us Q I rv ⟨α,m,σ,H0,rs,Kc,Rl,h,ho,fin⟩;obtain⟨r,v,rfl,rfl,h1,ho⟩:=dL h ho
 .obtain⟨d,e,hs,hnd,hz,hdp,ho⟩:=ho;obtain⟨u,rfl,ru⟩:=rv.one;obtain⟨as,q⟩:=h1.reads I Rl ru e hnd;have done:∀tk tk2 h',(∀b o,s.heap.get? b=some o->h'.get? b=some o)->EP X pins σ' Q (.str d.shown tk2) {s with heap:=h',toks:=tk}:=fun tk tk2 h' hk=>⟨.str d.shown,H,I.kept (t':=tk) hk,⟨_,rfl⟩,fin _ _ H ho Rl (vJ _) (Frm.refl _ _)⟩
  cases q with
  |none=>exact PySem.P.repr_of_none (done _ _ _ fun _ _ z=>z)
  |bool b =>
   have:=done (s.toks+1) s.toks s.heap fun _ _ z=>z;simp only[afo]at this;exact PySem.P.repr_of_bool (by cases b<;>exact this)
  |int i t =>
   refine PySem.P.repr_of_int (by simpa[iO.showable]using hs) ?_;have:=done (s.toks+1) s.toks s.heap fun _ _ z=>z;simp only[afo]at this;exact this
  |str x t =>
   have hz':(reprText x).length≤aam:=by simpa only[afo]using hz
   refine PySem.P.repr_of_str ?_ hz';have:=done (s.toks+1) s.toks s.heap fun _ _ z=>z;simp only[afo]at this;exact this
  |list z1 z2 z3 z4=>exact repr_of_reads' (.list z1 z2 z3 z4) hs (ahE hnd) hg (by omega) (fun _ _ z=>z) (fun h' u tk hk=>done tk u h' hk) hz
  |tuple z1 z2 z3 z4=>exact repr_of_reads' (.tuple z1 z2 z3 z4) hs (ahE hnd) hg (by omega) (fun _ _ z=>z) (fun h' u tk hk=>done tk u h' hk) hz
  |dict z1 z2 z3 z4 z5=>simp[acx]at hnd
def sM(K:Kx)(o:R->Option Int->Option Int->MSt->(R->Prop)->Prop):V->Option Int->Option Int->Hp->VK->Prop:=fun x lo hi H Q=>∃α m σ H0 r Kc,Rel K α m σ H/\RelR K α H0 H r x/\o r lo hi m Kc/\∀r v H',Kc r->Rel K α m σ H'->RelR K α H H' r v->Frm α H H'->Q v H'
def cutD(xs:List iO)(lo hi:Option Int):List iO:=(xs.drop (HT.sIx xs.length 0 lo)).take (HT.sIx xs.length xs.length hi-HT.sIx xs.length 0 lo)
theorem yy(g:DenAll K H ds xs)(lo hi:Option Int):DenAll K H (cutD ds lo hi) (cutV xs lo hi):=by
 unfold cutD cutV;rw[<-g.length];exact(g.drop _).take _
def NW:R->Option Int->Option Int->MSt->(R->Prop)->Prop:=fun r lo hi m K=>∃ds,lsOf m r=some ds/\K (.new (cutD ds lo hi))
theorem AY:SlR X (sM X.kx NW):=by
 intro pins s σ' H x v vl vu lo hi sl Q I rx hs pl pu hq;obtain⟨α,m,σ,H0,r,Kc,Rl,h,⟨ds,e,k⟩,fin⟩:=hq;obtain⟨a,ys,rfl,f,g⟩:=h.list Rl e;exact FX pins s σ' H _ v vl vu lo hi sl Q I rx hs pl pu ⟨a,ys,rfl,f,fun p hp=>fin _ _ _ k (Rl.lay hp) ⟨p,_,rfl,hp,aw,(yy g lo hi).mono (br (.inl hp))⟩ (cj hp)⟩
def WO1:=MSt->(Option Int->MSt->Prop)->Prop
def tMO(K:Kx)(w:WO1):TO:=fun σ H Q=>∃α m Kc,Rel K α m σ H/\w m Kc/\∀r m' H',Kc r m'->m'.np=m.np->Rel K α m' σ H'->Frm α H H'->Q r H'
def qR:WO1:=fun m K=>K none m
def GC(w:WE):WO1:=fun m K=>w m fun r m'=>oz (fun i=>K (some i) m') r
theorem PO.wk{X:Cx}{e:Option Expr}{t t':TO}(h:PO X e t)(k:∀σ H Q,t' σ H Q->t σ H Q):PO X e t':=fun pins s σ H Q I q=>h pins s σ H Q I (k _ _ _ q)
abbrev MO(X:Cx)(e:Option Expr)(w:WO1):Prop:=PO X e (tMO X.kx w)
theorem GW:MO X none qR:=(CN (X:=X)).wk fun σ H Q ⟨α,m,Kc,Rl,hw,fin⟩=>fin none m H hw rfl Rl (Frm.refl _ _)
theorem E8(he:ME X e we):MO X (some e) (GC we):=(DF he).wk fun σ H Q ⟨α,m,Kc,Rl,hw,fin⟩=>by
 refine⟨α,m,_,Rl,hw,fun r m1 v H1 k n1 Rl1 rr F1=>?_⟩;obtain⟨i,rfl,rfl,k⟩:=xk rr k;exact⟨i,rfl,fin _ m1 H1 k n1 Rl1 F1⟩
def wSl(ob:R->Option Int->Option Int->MSt->(R->Prop)->Prop)(we:WE)(wl wh:WO1):WE:=fun m K=>we m fun r m1=>wl m1 fun l m2=>wh m2 fun u m3=>ob r l u m3 fun r'=>K r' m3
theorem Bj{p2:Pos}(hr:SlR X (sM X.kx ob))(he:ME X e we)(hl:MO X lo wl)(hu:MO X hi wh):ME X (.Subscript e (.Slice lo hi none p2) pos) (wSl ob we wl wh):=(Ay hr he hl hu).wk fun σ H Q ⟨α,m,Kc,Rl,hw,fin⟩ =>
 ⟨α,m,_,Rl,hw,fun r m1 v H1 k n1 Rl1 rr F1=>⟨α,m1,_,Rl1,k,fun l m2 H2 k2 n2 Rl2 F2=>⟨α,m2,_,Rl2,k2,fun u m3 H3 k3 n3 Rl3 F3=>⟨α,m3,σ,H,r,_,Rl3,(rr.keep Rl Rl1 F2).keep Rl Rl2 F3,k3,fun r' v' H' k4 Rl4 rr4 F4=>fin r' m3 v' H' k4 (n3.trans (n2.trans n1)) Rl4 (rr4.base Rl3 ((F1.trans F2).trans F3)) (((F1.trans F2).trans F3).trans F4)⟩⟩⟩⟩
end
def agV:Nat->List Ag->List (Option R)
 |_,[]=>[]
 |k,.imm d::as=>some (.imm d)::agV k as
 |k,.own _::as=>some (.obj k)::agV (k+1) as
 |k,.tr _::as=>some (.at k [])::agV (k+1) as
def agO:List Ag->List (List iO)
 |[]=>[]
 | .imm _::as=>agO as
 | .own ds::as=>ds::agO as
 | .tr t::as=>[t]::agO as
def gI(n:Nat)(as:List Ag):MSt:=⟨agV 0 as++aax (n-as.length) none,agO as,(agO as).length⟩
def outR(m:MSt):R->R
 | .imm d=>.imm d
 | .new ds=>.new ds
 | .newT t=>.newT t
 | .obj k=>if k<m.np then .obj k else .new (m.os.getD k [])
 | .at k p=>if k<m.np then .at k p else match p,m.os[k]? with
  |[],some [t]=>.newT t
  |_,_=>.at k p
theorem db:∀(k:Nat) (as:List Ag),(agV k as).length=as.length
 |_,[]=>rfl
 |k,.imm d::as=>by simp[agV,db k as]
 |k,.own _::as=>by simp[agV,db (k+1) as]
 |k,.tr _::as=>by simp[agV,db (k+1) as]
section
variable {K:Kx}{H:Hp}
theorem RelAs.facts{K:Kd}:∀{as:List Ag}{vs:List V}{β:Al}{pre:Al},RelAs K H as vs β ->
  (agO as).length=β.length/\(∀(k:Nat) (ao:Ao) (ds:List iO),β[k]?=some ao->(agO as)[k]?=some ds->OwnAt K H ao ds) /\
   ∀(i:Nat) (r:R),(agV pre.length as)[i]?=some (some r)->∃v,vs[i]?=some v/\RelS K (pre++β) H r v
 |_,_,_,_,.nil=>⟨rfl,fun k a ds h=>by simp at h,fun i r h=>by simp[agV]at h⟩
 | _,_,β,pre,.imm (as:=as) hd t=>by
  obtain⟨h1,h2,h3⟩:=t.facts (pre:=pre);refine⟨h1,h2,fun i r h=>?_⟩
  cases i with
  |zero=>simp[agV]at h;subst h;exact⟨_,rfl,hd⟩
  |succ i =>
   obtain⟨v,e,q⟩:=h3 i r (by simpa[agV]using h);exact⟨v,by simpa using e,q⟩
 | _,_,_,pre,.own (a:=a) (β:=β) ha t=>by
  obtain⟨h1,h2,h3⟩:=t.facts (pre:=pre++[.L a]);refine⟨by simp[agO,h1],fun k b ds z1 z2=>?_,fun i r h=>?_⟩
  .cases k with
   |zero=>simp[agO]at z1 z2;subst z1;subst z2;exact ha
   |succ k=>exact h2 k b ds (by simpa using z1) (by simpa[agO]using z2)
  .cases i with
   |zero=>simp[agV]at h;subst h;exact⟨_,rfl,a,by simp,rfl⟩
   |succ i =>
    obtain⟨v,e,q⟩:=h3 i r (by simpa[agV]using h);refine⟨v,by simpa using e,?_⟩;rw[acB]at q;exact q
 | _,_,_,pre,.tr (a:=a) (τ:=τ) (β:=β) ha el t=>by
  obtain⟨h1,h2,h3⟩:=t.facts (pre:=pre++[.T τ]);refine⟨by simp[agO,h1],fun k b ds z1 z2=>?_,fun i r h=>?_⟩
  .cases k with
   |zero=>simp[agO]at z1 z2;subst z1;subst z2;exact ha
   |succ k=>exact h2 k b ds (by simpa using z1) (by simpa[agO]using z2)
  .cases i with
   |zero=>simp[agV]at h;subst h;exact⟨_,rfl,τ,a,by simp,el,rfl⟩
   |succ i =>
    obtain⟨v,e,q⟩:=h3 i r (by simpa[agV]using h);refine⟨v,by simpa using e,?_⟩;rw[acB]at q;exact q
theorem yl(hN:N.length=nN)(hle:n≤nN)(hl:as.length=n)(nd:(ads β).Nodup)(ra:RelAs K H as vs β)(hb:K.eb.np≤(agO as).length)(hx:Ext K.eb.np K.eb.be K.eb.H β H):Rel K β (gI nN as) (start N vs) H:=by
 obtain⟨h1,h2,h3⟩:=ra.facts (pre:=[]);have hvl:as.length=vs.length:=ra.length;refine⟨nd,by rw[<-h1];rfl,h2,?_,fun i r e=>?_,by rw[<-h1];exact aac _,hb,hx⟩
 .unfold start gI;simp only[aat,Ge,acX,db];omega
 .have e':(agV 0 as++aax (nN-as.length) none)[i]?=some (some r):=e
  by_cases hi:i<as.length
  .rw[aaO (by rw[db];exact hi)]at e';obtain⟨v,ev,q⟩:=h3 i r e';refine⟨v,?_,by simpa using q⟩;unfold start;rw[aaO (by rw[Ge];omega),aae,ev];rfl
  .rw[aaJ (by rw[db];omega),afZ]at e'
   split at e'<;>cases e'
theorem tw{m':MSt}(ra:RelAs K H as vs β)(hn:m'.np=(agO as).length)(R':Rel K α' m' σ' H')(x:Ext (agO as).length β H α' H'):wZ K H' β (m'.os.take m'.np)/\Frm β H H'/\β=α'.take (agO as).length:=by
 obtain⟨h1,h2,h3⟩:=ra.facts (pre:=[]);have e1:α'.take (agO as).length=β:=by rw[x.pre,h1,aag]
 refine⟨⟨?_,fun j a ds z1 z2=>?_⟩,x.frm,e1.symm⟩
 .have:=R'.npl;rw[R'.len]at this;rw[aaK,hn,<-h1];omega
 .rw[<-e1,aaV]at z1;rw[hn,aaV]at z2
  by_cases hj:j<(agO as).length
  .rw[if_pos hj]at z1 z2;exact R'.own j a ds z1 z2
  .rw[if_neg hj]at z1;cases z1
theorem FV{m':MSt}(hn:m'.np=(agO as).length)(R':Rel K α' m' σ' H')(x:Ext (agO as).length β H α' H')(eβ:β=α'.take (agO as).length)(rr:RelR K α' H H' r v)
  (ok:∀k p,r = .at k p->k<m'.np\/(p=[]/\∃t,m'.os[k]?=some [t])):RelR K β H H' (outR m' r) v:=by
 have out:∀{k:Nat}{ao:Ao},¬k<m'.np->α'[k]?=some ao->∀b∈ao.ads,H b=none:=fun {k ao} hk ea b hb=>by
  rcases x.new b (iZ ea hb)with z|z
  .exfalso;rw[eβ]at z;obtain⟨j,ao',ej,hm⟩:=ig z;rw[aaV]at ej
   by_cases hj:j<(agO as).length
   .rw[if_pos hj]at ej;exact fM R'.nd ea ej (by omega) hb hm
   .rw[if_neg hj]at ej;cases ej
  .exact z
 have inb:∀{k:Nat}{ao:Ao},k<m'.np->α'[k]?=some ao->β[k]?=some ao:=fun {k ao} hk ea=>by
  rw[eβ,aaV,if_pos (by rw[<-hn];exact hk)];exact ea
 cases r with
 |imm d=>exact rr
 |new ds=>exact rr
 |newT t=>exact rr
 | obj k =>
  obtain⟨a,ea,rfl⟩:=rr;unfold outR
  by_cases hk:k<m'.np
  .simp only[hk,if_true];exact⟨a,inb hk ea,rfl⟩
  .simp only[hk,if_false];have hk2:k<m'.os.length:=by rw[<-R'.len];exact(aad.mp ea).1
   have e3:m'.os[k]?=some (m'.os.getD k []):=by rw[aau,oR hk2];rfl
   obtain⟨xs,y1,y2⟩:=R'.own k _ _ ea e3;exact⟨a,xs,rfl,out hk ea a (aaw.mpr rfl),y1,y2⟩
 | «at» k p =>
  obtain⟨τ,a,ea,el,rfl⟩:=rr;unfold outR
  by_cases hk:k<m'.np
  .simp only[hk,if_true];exact⟨τ,a,inb hk ea,el,rfl⟩
  .simp only[hk,if_false];rcases ok k p rfl with z|⟨rfl,t,et⟩
   .exact(hk z).elim
   .rw[et];have g:=R'.own k _ _ ea et;exact⟨τ,a,rfl,el,((gA α').mp R'.nd).1 _ (OR ea),out hk ea,g⟩
def okR(m:MSt):R->Prop
 | .at k p=>k<m.np\/(p=[]/\∃t,m.os[k]?=some [t])
 |_=>True
theorem okR.at{m:MSt}(h:okR m r):∀k p,r = .at k p->k<m.np\/(p=[]/\∃t,m.os[k]?=some [t]):=fun k p e=>by subst e;exact h
def retK(Kc:R->List (List iO)->Prop)(m:MSt):R->Prop
 | .at k p=>okR m (.at k p)/\Kc (outR m (.at k p)) (m.os.take m.np)
 | .imm d=>Kc (.imm d) (m.os.take m.np)
 | .new ds=>Kc (.new ds) (m.os.take m.np)
 | .obj k=>Kc (outR m (.obj k)) (m.os.take m.np)
 | .newT t=>Kc (.newT t) (m.os.take m.np)
theorem retK.ok{Kc:R->List (List iO)->Prop}{m:MSt}(h:retK Kc m r):okR m r/\Kc (outR m r) (m.os.take m.np):=by
 cases r with
 | «at» k p=>exact h
 |imm d=>exact⟨trivial,h⟩
 |new ds=>exact⟨trivial,h⟩
 |obj k=>exact⟨trivial,h⟩
 |newT t=>exact⟨trivial,h⟩
theorem fn_m{E:XK}(he:K.eb=⟨0,[],fun _=>none⟩)(h:spOf K n sp vs H Q E)(hN:N.length=nN)(hle:n≤nN)
  (hw:∀as Kc,as.length=n->sp as Kc->w {nx:=fun m=>Kc (.imm .none) (m.os.take m.np),rt:=fun r m=>retK Kc m r} (gI nN as)):tMS K w {nx:=fun _ H'=>Q .non H',rt:=Q} (start N vs) H:=by
 obtain⟨as,β,Kc,hl,nd,ra,hsp,fin⟩:=h;have R0:Rel K β (gI nN as) (start N vs) H:=yl hN hle hl nd ra (by rw[he];exact ac5 _) (by rw[he];exact⟨rfl,fun _ _ z=>(by cases z),fun _ _=>.inr rfl,fun a ha=>(by cases ha)⟩);refine⟨β,gI nN as,_,R0,hw as Kc hl hsp,⟨fun α' m' σ' H' q hn R' x=>?_,fun r α' m' σ' v H' q hn R' rr x=>?_,fun _ _ _ _ z=>z.elim,fun _ _ _ _ z=>z.elim⟩⟩
 .obtain⟨O,F,_⟩:=tw ra hn R' x;exact fin _ _ .non H' q O yr F
 .obtain⟨O,F,eβ⟩:=tw ra hn R' x;have q':=retK.ok q;exact fin _ _ v H' q'.2 O (FV hn R' x eβ rr q'.1.at) F
end
structure FnM(P:aaZ)(w:World)(K:aaj)(mg:Str->Option GE)(base:aa6)(x:Str)(k n:Nat)(sp:SpM):Prop where
 ex:∃(f:Addr) (fd:ac4) (ps:List Str),FnOk P w K mg base CX0 k f fd ps (spOf ⟨K,w⟩ n sp)/\mg x=some (.ref f)/\adK K (.ref f)=true/\Binds K fd ps []
 ar:∀as Kc,sp as Kc->as.length=n
structure DefM(K:aaj)(mg:Str->Option GE)(x:Str)(st:Stmt)(ps:List Str):Prop where
 ex:∃(f:Addr) (fd:ac4),Fun K x x st f fd/\mg x=some (.ref f)/\Binds K fd ps []
theorem Ot{P:aaZ}{w:World}{K:aaj}{base:aa6}{k:Nat}(D:DefM K mg x st ps)(S:am N ps (ac st))(hn:ps.length=n)(hN:N.length=nN)(hle:n≤nN)(ar:∀as Kc,sp as Kc->as.length=n)
  (hbody:∀(cdv:GE) (A:abz) (outer:List Env) (s:aab) (H:Hp) (E:XK) (f:Addr),Room k (A.deeper (afc x (ac st) s.heap.objs.size f cdv)) ->
   ∃ww,MSs (cxOf CX0 P w K mg base N x (ac st) f cdv A outer s H E).nox (dW st) ww/\∀as Kc,as.length=n->sp as Kc->ww {nx:=fun m=>Kc (.imm .none) (m.os.take m.np),rt:=fun r m=>retK Kc m r} (gI nN as)) :
  FnM P w K mg base x (k+1) n sp:=by
 obtain⟨f,fd,F,hm,hb⟩:=D.ex;refine⟨⟨f,fd,ps,F.ok S (fun vs H Q E h=>by rw[hn];exact h.len) (fun cdv A outer s H vs Q E hr h=>?_),hm,F.kp,hb⟩,ar⟩;obtain⟨ww,h1,h2⟩:=hbody cdv A outer s H E f hr;exact⟨_,h1,fn_m (K:=(cxOf CX0 P w K mg base N x (ac st) f cdv A outer s H E).nox.kx) rfl h hN hle h2⟩
section
variable {X:Cx}{a:Expr}{es:List Expr}{ws:WA}{pos p:Pos}{k n:Nat}{sp:SpM}{x:Str}
theorem Ba(F:FnM X.prog X.w X.K X.mg X.base x k n sp)(hr:Room k X.A)(ha:MA X (a::es) ws)(hg:Gl X x:=by rfl)(hdb:(x==("__debug__" : Str))=false:=by decide)(he:aan (a::es) X.env=(false,eval a X.env)::aan es X.env:=by first|exact aY rfl|rfl)(hpl:(acb pos (aan es X.env)).any (·.1)=false:=by rfl) :
  ME X (.Call (.Name x p) (a::es) [] pos) (vP sp ws):=by
 obtain⟨f,fd,ps,G,hm,hk,hb⟩:=F.ex;exact Dw (E:=E0) G hr hg hm hk hb Om F.ar ha hdb he hpl
theorem Room.u200{k:Nat}{A:abz}(r:Room k A):A.units+200<cLine:=by have:=r.un;omega
theorem cK:abh "len" = some (.builtin "len"):=by decide +kernel
theorem Cb:abh "abs" = some (.builtin "abs"):=by decide +kernel
theorem LP:abh "sum" = some (.builtin "sum"):=by decide +kernel
theorem tu:abh "max" = some (.builtin "max"):=by decide +kernel
theorem Jh:abh "min" = some (.builtin "min"):=by decide +kernel
theorem iq:abh "repr" = some (.builtin "repr"):=by decide +kernel
theorem gV:abh "tuple" = some (.type "tuple"):=by decide +kernel
theorem BU:abh "int" = some (.type "int"):=by decide +kernel
theorem ow:abh "enumerate" = some (.type "enumerate"):=by decide +kernel
end
section
variable {m:MSt}{K:R->MSt->Prop}{Kb:Bool->MSt->Prop}{Ka:List R->MSt->Prop}{Kr:R->Prop}{D:dB}{wa wb wc we wo wi:WE}{ws:WA}{wt wu:WT}{w u:WS}{o:WO}{d:iO}{r r1 r2:R}{i j:Int}{k:Nat}
theorem oj(h:w {D with nx:=fun m'=>u D m' } m):wSeq w u D m:=h
theorem L6(h:D.nx m):DM D m:=h
theorem OJ(h:wa m fun r1 m1=>wb m1 fun r2 m2=>o r1 r2 m2 fun r=>K r m2):wBin o wa wb m K:=h
theorem GN(e:m.vs[n]?=some (some r))(h:K r m):wVar n m K:=⟨r,e,h⟩
theorem x_c(h:K (.imm d) m):wC d m K:=h
theorem Mr(h:we m fun r m'=>D.rt r m'):wRet we D m:=h
theorem LU(h:we m fun _ m'=>D.nx m'):DG we D m:=h
theorem NH(h:wt m fun c m'=>if c=true then w D m' else u D m'):wIfS wt w u D m:=h
theorem Nw(h:wt m fun c m'=>if c=true then wa m' K else wb m' K):wIfE wt wa wb m K:=h
theorem IB(h:we m fun r m'=>onBl (fun k=>Kb k m') r):uu we m Kb:=h
theorem MF(h:wt m fun c m1=>if c=true then wu m1 Kb else Kb false m1):wAnd wt wu m Kb:=h
theorem x_or(h:wt m fun c m1=>if c=true then Kb true m1 else wu m1 Kb):wOr wt wu m Kb:=h
theorem OY(h:wt m fun c m1=>Kb (!c) m1):wNot wt m Kb:=h
theorem JS{P:Bool->Prop}{b:Bool}(h:P b):onBl P (.imm (.bool b)):=h
theorem GL{P:Int->Prop}(h:P i):oz P (.imm (.int i)):=h
theorem DJ{P:Nat->Prop}(h:P k):ql P (.obj k):=h
theorem GM{P:iO->Prop}(h:P d):df P (.imm d):=h
theorem Oq{P:R->Prop}(h:P r):on1 P [r]:=h
theorem jy(h:A):if true=true then A else B:=by rw[if_pos rfl];exact h
theorem ga(h:B):if false=true then A else B:=by rw[if_neg aay];exact h
theorem aG{c:Prop}[Decidable c](h1:c->A)(h2:¬c->B):if decide c=true then A else B:=by
 by_cases h:c
 .rw[if_pos (decide_eq_true h)];exact h1 h
 .rw[if_neg (by rw[decide_eq_false h];exact aay)];exact h2 h
theorem x_un{ob:WU}(h:wa m fun r1 m1=>ob r1 m1 fun r=>K r m1):wUn ob wa m K:=h
theorem Pg(h:Kr (.imm (.int (-i)))):uNeg (.imm (.int i)) m Kr:=h
theorem Ol(h:we m fun r m'=>match r with| .imm d=>K (.imm d) m' | .new ds=>K (.imm (.list ds)) m'|_=>False):wImm we m K:=h
theorem NA(h:Ka [] m):wNil m Ka:=h
theorem JT(h:we m fun r m1=>ws m1 fun rs m2=>Ka (r::rs) m2):DI we ws m Ka:=h
theorem O5(h:ws m fun rs m'=>vm (fun ds=>K (.imm (.tuple ds)) m') (fu rs)):wTup ws m K:=h
theorem Pf(h:ws m fun rs m'=>vm (fun ds=>K (.new ds) m') (fu rs)):wLst ws m K:=h
theorem Oh{rs:List R}{P:List iO->Prop}(e:fu rs=some ds)(hz:ds.length≤aam)(h:P ds):vm P (fu rs):=by rw[e];exact⟨hz,h⟩
theorem x_cb{oc:WC}(h:ws m fun rs m1=>oc rs m1 fun r=>K r m1):wCB oc ws m K:=h
theorem JQ(h:ws m fun rs m1=>match gH m1 rs with|some (as,ks)=>ks.Nodup/\sp as fun r outs=>K (mapR ks r) {m1 with os:=cq m1.os ks outs}|none=>False):vP sp ws m K:=h
theorem OZ{rs:List R}{P:List Ag->List Nat->Prop}(e:gH m rs=some (as,ks))(hn:ks.Nodup)(h:P as ks):match gH m rs with|some (as,ks)=>ks.Nodup/\P as ks|none=>False:=by rw[e];exact⟨hn,h⟩
theorem zQ(h:we m fun r m'=>o6 n D.nx m' r):wSet n we D m:=h
theorem cw(h:P (m.setV n (.imm d))):o6 n P m (.imm d):=.inl h
theorem ca(h:P {vs:=m.vs.set n (some (.obj m.os.length)),os:=m.os++[ds],np:=m.np}):o6 n P m (.new ds):=.inl (.inl h)
theorem O3(h:we m fun r m'=>df (fun d=>g d m' D.nx) r):wAsg we g D m:=h
theorem O6{n':Nat}(h:ws m fun rs m'=>match rs with|[.imm d1,.imm d2]=>D.nx ((m'.setV n (.imm d1)).setV n' (.imm d2))|_=>False):wPar n n' ws D m:=h
theorem IQ(h:we m fun rv m1=>df (fun d=>wo m1 fun ro m2=>wi m2 fun ri m3=>ql (fun k=>oz (fun z=>∃ds j,m3.os[k]?=some ds/\ixN ds.length z=some j/\D.nx {m3 with os:=m3.os.set k (ds.set j d)}) ri) ro) rv):Gj we wo wi D m:=h
theorem O7{k:Nat}{z:Int}{P:List iO->Nat->Prop}(e1:m.os[k]?=some ds)(e2:ixN ds.length z=some n)(h:P ds n):∃ds j,m.os[k]?=some ds/\ixN ds.length z=some j/\P ds j:=⟨ds,n,e1,e2,h⟩
theorem x_ml{ob:WM}(h:wo m fun r m1=>(∃ds,lsOf m1 r=some ds)/\ws m1 fun rs m2=>ob r rs m2 K):wML ob wo ws m K:=h
theorem x_ls{P:Prop}(e:lsOf m r=some ds)(h:P):(∃ds,lsOf m r=some ds)/\P:=⟨⟨ds,e⟩,h⟩
theorem jv(e:m.os[k]?=some ds)(hz:ds.length<aam)(h:K (.imm .none) {m with os:=m.os.set k (ds++[d])}):x8 (.obj k) [.imm d] m K:=⟨ds,e,hz,h⟩
theorem JJ(h:Kr (.imm (.int (i+j)))):oAdd (.imm (.int i)) (.imm (.int j)) m Kr:=h
theorem jI{a b:List iO}(hz:a.length+b.length≤aam)(h:Kr (.imm (.tuple (a++b)))):oAdd (.imm (.tuple a)) (.imm (.tuple b)) m Kr:=⟨hz,h⟩
theorem J6(h:Kr (.imm (.int (i-j)))):oSub (.imm (.int i)) (.imm (.int j)) m Kr:=⟨trivial,h⟩
theorem g9(hc:CFd i j)(h:Kr (.imm (.int (i/j)))):L9 (.imm (.int i)) (.imm (.int j)) m Kr:=⟨hc,h⟩
theorem Fe(hc:0<j)(h:Kr (.imm (.int (i%j)))):oMod (.imm (.int i)) (.imm (.int j)) m Kr:=⟨hc,h⟩
theorem NU(hc:CPow i j)(h:Kr (.imm (.int (i^j.toNat)))):oPow (.imm (.int i)) (.imm (.int j)) m Kr:=⟨hc,h⟩
theorem x_lt(h:Kr (.imm (.bool (decide (i<j))))):oLt (.imm (.int i)) (.imm (.int j)) m Kr:=h
theorem x_gt(h:Kr (.imm (.bool (decide (j<i))))):oGt (.imm (.int i)) (.imm (.int j)) m Kr:=h
theorem x_ge(h:Kr (.imm (.bool (decide (j≤i))))):oGe (.imm (.int i)) (.imm (.int j)) m Kr:=h
theorem x_eq{d1 d2:iO}(e1:asD m r1=some d1)(e2:asD m r2=some d2)(s1:aeq d1=true)(s2:aeq d2=true)(h:Kr (.imm (.bool (aar d1 d2)))):oEq r1 r2 m Kr:=by refine agQ ?_;unfold eqD;rw[e1,e2];exact⟨s1,s2,h⟩
theorem x_ne{d1 d2:iO}(e1:asD m r1=some d1)(e2:asD m r2=some d2)(s1:aeq d1=true)(s2:aeq d2=true)(h:Kr (.imm (.bool (!aar d1 d2)))):oNe r1 r2 m Kr:=by refine agQ ?_;unfold eqD;rw[e1,e2];exact⟨s1,s2,h⟩
theorem Oi(h:Kr (.imm (.bool (decide (i=j))))):oEq (.imm (.int i)) (.imm (.int j)) m Kr:=x_eq rfl rfl rfl rfl (by simp only[aar];rw[acl];exact h)
theorem OO(h:Kr (.imm (.bool (decide (i≠j))))):oNe (.imm (.int i)) (.imm (.int j)) m Kr:=x_ne rfl rfl rfl rfl (by simp only[aar];rw[acl,<-decide_not];exact h)
theorem Pi(h:Kr (.imm (.bool (decide (x=y))))):oEq (.imm (.str x)) (.imm (.str y)) m Kr:=adl (agQ ⟨x,y,rfl,rfl,h⟩)
theorem ON(h:Kr (.imm (.bool (!decide (x=y))))):oNe (.imm (.str x)) (.imm (.str y)) m Kr:=adl ⟨x,y,rfl,rfl,h⟩
theorem Ae(h:Kr (.imm (.bool (!xz r)))):yk r (.imm .none) m Kr:=⟨rfl,h⟩
theorem aD(e:atI ds i=some d)(h:Kr (.imm d)):oA (.imm (.tuple ds)) (.imm (.int i)) m Kr:=⟨d,e,h⟩
theorem qU(e:atI ds i=some d)(h:Kr (.imm d)):oA (.imm (.list ds)) (.imm (.int i)) m Kr:=⟨ds,d,rfl,e,h⟩
theorem m7(e1:m.os[k]?=some ds)(e:atI ds i=some d)(h:Kr (.imm d)):oA (.obj k) (.imm (.int i)) m Kr:=⟨ds,d,e1,e,h⟩
theorem gu(e:atI ds i=some d)(h:Kr (.imm d)):oA (.new ds) (.imm (.int i)) m Kr:=⟨ds,d,rfl,e,h⟩
theorem NR{rs:List R}(h:on1 (lenR m Kr) rs):oLen rs m Kr:=h
theorem JI(h:Kr (.imm (.int ds.length))):lenR m Kr (.imm (.tuple ds)):=h
theorem LH(h:Kr (.imm (.int ds.length))):lenR m Kr (.imm (.list ds)):=⟨ds,rfl,h⟩
theorem Ix(e:m.os[k]?=some ds)(h:Kr (.imm (.int ds.length))):lenR m Kr (.obj k):=⟨ds,e,h⟩
theorem Ox(h:Kr (.imm (.int (if i<0 then -i else i)))):oAbs [.imm (.int i)] m Kr:=h
theorem Ip{b:Bool}(h:Kr (.imm (.int (if b then 1 else 0)))):oInt [.imm (.bool b)] m Kr:=h
theorem F8(e:sqOf m r=some ds)(h:Kr (.imm (.tuple ds))):BQ [r] m Kr:=⟨ds,e,h⟩
theorem KW(e:asD m r=some d)(h1:d.showable=true)(h2:d.hasDict=false)(h3:d.shown.length≤aam)(h4:d.depth≤100)(h:Kr (.imm (.str d.shown))):CU [r] m Kr:=⟨d,e,h1,h2,h3,h4,h⟩
theorem x_sl(h:we m fun r m1=>wl m1 fun l m2=>wh m2 fun u m3=>ob r l u m3 fun r'=>K r' m3):wSl ob we wl wh m K:=h
theorem AC(h:Ko none m):qR m Ko:=h
theorem L8(h:we m fun r m'=>oz (fun i=>Ko (some i) m') r):GC we m Ko:=h
theorem x_gM(h:P (m.setV n (.imm d))):gM n d m P:=h
theorem Js(h:P m):DN [] m P:=⟨rfl,h⟩
theorem GI(h:g d m fun m'=>gs ds m' P):yz g gs (d::ds) m P:=h
theorem JG(e:ds.length=n)(h:gs ds m P):Bq n gs (.tuple ds) m P:=⟨e,h⟩
theorem Nr{wi:WI}(h:wi m fun s m1=>gJ s g w D m1):wFor wi g w D m:=h
theorem Lw(h:we m fun r m'=>srcR m' Ks r):G9 we m Ks:=h
theorem LG(h:Ks ⟨ds,none⟩ m):srcR m Ks (.imm (.list ds)):=h
theorem Jn(h:Ks ⟨ds,none⟩ m):srcR m Ks (.imm (.tuple ds)):=h
theorem JK(e:m.os[k]?=some ds)(h:Ks ⟨ds,some k⟩ m):srcR m Ks (.obj k):=⟨ds,e,h⟩
theorem Lu(h:ws m fun rs m'=>match rs with|[.imm (.int j)]=>-(2^62)≤j/\j<2^62/\Ks ⟨gg 0 j.toNat,none⟩ m'|_=>False):uV ws m Ks:=h
theorem M8(h:wt m fun b m'=>if b=true then w D m' else D.nx m'):wIfT wt w D m:=h
theorem AF(h:Kb true m):qz m Kb:=h
theorem JU(h:we m fun r m'=>df (fun d=>∃ds,m'.os[q]?=some ds/\ds.length<aam/\D.nx {m' with os:=m'.os.set q (ds++[d])}) r):uB q we D m:=h
end
theorem ai{D:dB}{m:MSt}(m':MSt)(e:m=m')(h:w D m'):w D m:=e▸h
theorem Pc{i j:Int}(h:(-18446744073709551616<i/\i<18446744073709551616)\/(-18446744073709551616<j/\j<18446744073709551616)):afY i j:=CMul.ok (by unfold CMul;exact h)
theorem cfd{i j:Int}(h0:0<j)(h1:j<1152921504606846976):CFd i j:=⟨h0,by
 have:j.natAbs<2^60:=by omega
 have:=(agS (by omega)).mpr this;omega⟩
theorem jR:∀ns:List Int,aba (ns.map .int)=true
 |[]=>rfl
 |n::ns=>by simp only[aao,aba,ah6,jR ns,ahi]
theorem ld:∀ns:List Int,aav (ns.map .int)≤1
 |[]=>ac5 1
 |n::ns=>by
  have:=ld ns;rw[aao];simp only[aav,iO.depth];omega
theorem LW{α:Type}{xs:List α}{i:Int}(h0:0≤i)(h1:i<xs.length):∃d,xs[i.toNat]?=some d/\atI xs i=some d:=by
 have hl:i.toNat<xs.length:=by omega
 refine⟨xs[i.toNat],oR hl,?_⟩;unfold atI ixN;rw[if_pos h0,if_pos h1];exact oR hl
theorem zc{i:Int}(h0:0≤i)(h1:i<ns.length):∃x:Int,atI (ns.map abi) i=some (.int x):=by
 obtain⟨d,e,h⟩:=LW (xs:=ns.map abi) h0 (by rw[Ge];exact h1);rw[aae]at e
 cases q:ns[i.toNat]? with
 |none=>rw[q]at e;cases e
 |some x=>rw[q]at e;cases e;exact⟨x,h⟩
section
variable {X:Cx}{tg a b c e:Expr}{es:List Expr}{wo wa wb wc we wi:WE}{ws:WA}{pos p p2:Pos}
def du:List iO->Option (List Int)
 |[]=>some []
 | .int i::ds=>(du ds).map (i :: ·)
 |_::_=>none
theorem iB(h:du ds=some ns):ds=ns.map .int:=by
 induction ds generalizing ns with
 |nil=>cases h;rfl
 | cons d ds ih =>
  cases d with
  |int i =>
   simp only[du]at h
   cases q:du ds with
   |none=>rw[q]at h;cases h
   |some ms=>rw[q]at h;cases h;rw[ih q];rfl
  |none=>cases h
  |bool _=>cases h
  |str _=>cases h
  |list _=>cases h
  |tuple _=>cases h
  |dict _=>cases h
theorem fj:∀ns:List Int,du (ns.map .int)=some ns
 |[]=>rfl
 |n::ns=>by simp only[aao,du,fj ns,acF]
theorem e8{K:Kd}{H:Hp}:∀{ns:List Int}{xs:List V},DenAll K H (ns.map .int) xs->xs=ns.map V.int
 |[],_,h=>by simpa only[abJ,DenAll]using h
 |n::ns,_,h=>by
  simp only[aao,DenAll]at h;obtain⟨v,vs,rfl,h1,h2⟩:=h;have e:=aL (K:=K) (H:=H) h1;rw[e,e8 h2];rfl
end
theorem fi{D:dB}(P:Nat->MSt->Prop)(p0:P 0 m1)
  (step:∀(i:Nat) (d:iO) (m:MSt),ds[i]?=some d->m.np=m1.np->P i m->g d m fun m2=>w {nx:=P (i+1),ct:=P (i+1),bk:=fun m'=>D.nx (m'.setN m1.np),rt:=fun r m'=>D.rt r (m'.setN m1.np)} m2)
  (fin:∀m,m.np=m1.np->P ds.length m->D.nx m):gJ ⟨ds,none⟩ g w D m1:=by
 refine⟨P,p0,fun i d m e n p=>⟨trivial,step i d m e n p⟩,fun m n p=>⟨trivial,?_⟩⟩;have e:m.setN m1.np=m:=by
  obtain⟨a,b,c⟩:=m;have n':c=m1.np:=n;subst n';rfl
 rw[e];exact fin m n p
theorem iJ{k:Nat}{D:dB}(P:Nat->MSt->Prop)(p0:P 0 (m1.setN (max m1.np (k+1))))
  (ok:∀i m,P i m->m.os[k]?=some ds)
  (step:∀(i:Nat) (d:iO) (m:MSt),ds[i]?=some d->m.np=max m1.np (k+1)->P i m->g d m fun m2=>w {nx:=P (i+1),ct:=P (i+1),bk:=fun m'=>D.nx (m'.setN m1.np),rt:=fun r m'=>D.rt r (m'.setN m1.np)} m2)
  (fin:∀m,m.np=max m1.np (k+1)->P ds.length m->D.nx (m.setN m1.np)):gJ ⟨ds,some k⟩ g w D m1 :=
 ⟨P,p0,fun i d m e n p=>⟨ok i m p,step i d m e n p⟩,fun m n p=>⟨ok _ m p,fin m n p⟩⟩
theorem mt{t:WT}{D:dB}{m0:MSt}(P:Nat->MSt->Prop)(n0:Nat)(p0:P n0 m0)
  (step:∀n m,m.np=m0.np->P n m->t m fun c m'=>if c=true then w {D with nx:=fun m2=>∃n',n'<n/\P n' m2,ct:=fun m2=>∃n',n'<n/\P n' m2,bk:=D.nx} m' else D.nx m'):xj t w D m0:=⟨P,⟨n0,p0⟩,step⟩
theorem Br(h:ds.length≤n):cutD ds none (some (n:Int))=ds:=by
 unfold cutD;rw[HT.sIx_none,HT.sIx_nat,af2 h,ahF,agT,aag]
theorem D5{m:MSt}{K:R->MSt->Prop}{ps:List Nat}(h:wi m fun s m1=>gJ s g (wIfT tt (uB m1.os.length we)) {nx:=fun m'=>K (.new (m'.os.getD m1.os.length [])) {m1 with os:=m'.os.take m1.os.length},rt:=fun _ _=>False} (je own ps m1)):k7 wi own ps g tt we m K:=h
theorem DL{m:MSt}{K:R->MSt->Prop}{wi2:WI}{ps:List Nat}{g2:WG}{tt2:WT}(h:wi m fun s m1=>gJ s g (wIfT tt fun D m2=>wi2 m2 fun s2 m3=>gJ s2 g2 (wIfT tt2 (uB m1.os.length we)) D m3) {nx:=fun m'=>K (.new (m'.os.getD m1.os.length [])) {m1 with os:=m'.os.take m1.os.length},rt:=fun _ _=>False} (je own ps m1)):tq wi own ps g tt wi2 g2 tt2 we m K:=h
theorem kU{k:Nat}{m:MSt}(h1:m.vs[n]?=some (some (.obj k)))(h2:m.np≤k)(h3:∀j:Nat,j≠n->m.vs[j]?≠some (some (.obj k)))(h:P {m with os:=m.os.set k ds}):o6 n P m (.new ds):=.inr ⟨k,h1,h2,h3,h⟩
theorem aW{α:Type}{xs:List α}{k:Nat}{d x:α}(h:xs[k]?=some x):xs.getD k d=x:=by
 rw[aau,h];rfl
theorem x_JS{m:MSt}{D:dB}(Φ:MSt->Prop)(h:∀N:MSt->Prop,(∀m',Φ m'->N m')->w {D with nx:=N} m)(J:∀m',Φ m'->D.nx m'):w D m:=h D.nx J
structure Fine(n k:Nat)(d:iO):Prop where
 sh:d.showable=true
 nd:d.hasDict=false
 ln:d.shown.length≤n
 dp:d.depth≤k
theorem Fine.mono{k n' k':Nat}{d:iO}(h:Fine n k d)(hn:n≤n')(hk:k≤k'):Fine n' k' d:=⟨h.sh,h.nd,aaF h.ln hn,aaF h.dp hk⟩
theorem yF(b:Bool):Fine 5 0 (.bool b):=⟨rfl,rfl,by cases b<;>decide,aac _⟩
theorem uw{k:Nat}(h:n<2^k)(hk:0<k):n.log2<k:=by
 by_cases h0:n=0
 .subst h0;rw[Nat.log2_zero];exact hk
 .rw[agS h0];exact h
theorem gN{i:Int}(h:i.natAbs<10^12):Fine 13 0 (.int i):=by
 refine⟨?_,rfl,iO.shown_int_le h,aac _⟩;have:i.natAbs.log2<40:=uw (aaz h (by decide)) (by decide);show decide (i.natAbs.log2<1920)=true;apply decide_eq_true;omega
theorem sj{n k:Nat}:∀{ds:List iO},(∀d∈ds,Fine n k d)->ahp ds=true/\acD ds=false/\((ac2 ds).map (·.length)).sum≤ds.length*n/\(ac2 ds).length=ds.length/\aav ds≤k
 |[],_=>⟨rfl,rfl,by simp[ac2],rfl,by simp[aav]⟩
 |d::ds,h=>by
  obtain⟨h1,h2,h3,h4,h5⟩:=sj fun d' h'=>h d' (aaf _ h');have h0:=h d aah;refine⟨?_,?_,?_,?_,?_⟩
  .show(d.showable&&ahp ds)=true;rw[h0.sh,h1];rfl
  .show(d.hasDict||acD ds)=false;rw[h0.nd,h2];rfl
  .show(d.shown.length::(ac2 ds).map (·.length)).sum≤_;rw[ab9,aaL,adu];have:=h0.ln;omega
  .show(ac2 ds).length+1=_;rw[h4];rfl
  .show max d.depth (aav ds)≤k;have:=h0.dp;omega
theorem bm{k c:Nat}(h:∀d∈ds,Fine n k d)(hc:ds.length≤c):Fine (c*(n+2)+3) (k+1) (.tuple ds):=by
 obtain⟨h1,h2,h3,h4,h5⟩:=sj h;refine⟨h1,h2,?_,?_⟩
 .show(tupleText (ac2 ds)).length≤_;have:=tupleText_len_le (ac2 ds);have e:ds.length*(n+2)≤c*(n+2):=adN _ hc;rw[Nat.mul_add]at e;rw[h4]at this;omega
 .show aav ds+1≤_;omega
structure Shp(k:Nat)(d:iO):Prop where
 cl:d.canLay0=true
 dp:d.depth≤k
theorem d8(i:Int):Shp 0 (.int i):=⟨rfl,aac _⟩
theorem km{k:Nat}:∀{ds:List iO},(∀d∈ds,Shp k d)->aba ds=true/\aav ds≤k
 |[],_=>⟨rfl,by simp[aav]⟩
 |d::ds,h=>by
  obtain⟨h1,h2⟩:=km fun d' h'=>h d' (aaf _ h');have h0:=h d aah;refine⟨?_,?_⟩
  .simp only[aba];rw[h0.cl,h1];rfl
  .show max d.depth (aav ds)≤k;have:=h0.dp;omega
theorem xg{k:Nat}(h:∀d∈ds,Shp k d):Shp (k+1) (.tuple ds):=by
 obtain⟨h1,h2⟩:=km h;exact⟨by simp only[ah6];exact h1,by show aav ds+1≤_;omega⟩
theorem iA{m:MSt}{d:iO}{Kr:R->Prop}{k:Nat}(h:Fine n k d)(e:asD m r=some d)(hn:n≤16777216)(hk:k≤100)(hK:Kr (.imm (.str d.shown))):CU [r] m Kr:=KW e h.sh h.nd (by rw[aaq];exact aaF h.ln hn) (aaF h.dp hk) hK
theorem uL(hO:Only H)(h:SqL K H a (ns.map V.int)):Den K H (.list (ns.map .int)) (.ref a):=by
 simp only[Den];refine⟨a,_,rfl,?_,DenAll.ints _⟩;rcases h with(h|⟨o,h⟩)|h
 .rcases hO a with z|⟨o,xs,z⟩
  .rw[h]at z;cases z
  .rw[h]at z;cases z
 .exact .inl ⟨o,h⟩
 .exact .inr h
theorem Kh{P:aaZ}{w:World}{K:aaj}{base:aa6}{k:Nat}(F:Fun K x x st f fd)(S:am N ps (ac st))(hn:ps.length=n)(hN:N.length=nN)(hle:n≤nN)
  (hbody:∀(cdv:GE) (A:abz) (outer:List Env) (s:aab) (H:Hp) (E:XK) (f:Addr),Room k (A.deeper (afc x (ac st) s.heap.objs.size f cdv)) ->
   ∃ww,MSs (cxOf CX0 P w K mg base N x (ac st) f cdv A outer s H E).nox (dW st) ww/\∀as Kc,as.length=n->sp as Kc->ww {nx:=fun m=>Kc (.imm .none) (m.os.take m.np),rt:=fun r m=>retK Kc m r} (gI nN as)) :
  FnOk P w K mg base CX0 (k+1) f fd ps (spOf ⟨K,w⟩ n sp):=by
 refine F.ok S (fun vs H Q E h=>by rw[hn];exact h.len) (fun cdv A outer s H vs Q E hr h=>?_);obtain⟨ww,h1,h2⟩:=hbody cdv A outer s H E f hr;exact⟨_,h1,fn_m (K:=(cxOf CX0 P w K mg base N x (ac st) f cdv A outer s H E).nox.kx) rfl h hN hle h2⟩
structure DefK(K:aaj)(x:Str)(st:Stmt):Prop where
 ex:∃(f:Addr) (fd:ac4),abw K aaU x=some (some (.ref f))/\Fun K x x st f fd
theorem DefK.of{K:aaj}{oc kV doc pm cdv ct:GE}{an:Option Addr}{sl:Array (Option GE)}(a:abw K aaU x=some (some (.ref f)))
  (l:K.lookup f=some ⟨oc,od,.func (adR x x (jN st) (dW st) (ac st) .none kV doc pm an cdv ct),sl⟩) (c:afv K cdv x=true) (k:adK K (.ref f)=true):DefK K x st:=⟨f,_,a,Lz l c k⟩
theorem DefK.m{K:aaj}{h:aa6}(D:DefK K x st)(X:K.In h)(G:h.Ns aaU mg)(b:∀(f:Addr) (fd:ac4),Fun K x x st f fd->Binds K fd ps []):DefM K mg x st ps:=by
 obtain⟨f,fd,a,F⟩:=D.ex;exact⟨f,fd,F,ahj X G a,b f fd F⟩
structure EE(X:Cx)(e:Expr)(w:WE):Prop where
 h:ME X e w
structure ET(X:Cx)(e:Expr)(w:WT):Prop where
 h:MT X e w
structure EW(X:Cx)(e:Expr)(w:WT):Prop where
 h:MW X e w
structure EA(X:Cx)(es:List Expr)(w:WA):Prop where
 h:MA X es w
structure ES(X:Cx)(st:Stmt)(w:WS):Prop where
 h:MS X st w
structure ESs(X:Cx)(st:List Stmt)(w:WS):Prop where
 h:MSs X st w
structure EI(X:Cx)(tg e:Expr)(w:WI):Prop where
 h:MI X tg e w
structure EG(X:Cx)(t:Expr)(w:WG):Prop where
 h:MG X t w
structure EGs(X:Cx)(ts:List Expr)(w:WGs):Prop where
 h:MGs X ts w
structure EO(X:Cx)(e:Option Expr)(w:WO1):Prop where
 h:MO X e w
structure ETs(X:Cx)(ifs:List Expr)(w:WT):Prop where
 h:PTs X ifs (tMT X.kx w)
theorem EW.pt{w:WT}(h:EW X e w):ET X e w:=⟨h.h.pt⟩
section
variable {X:Cx}{a b c:Expr}{es:List Expr}{wa wb wc:WE}{pos:Pos}
theorem mh'{i j pos}:EE X (.Constant (.int i) j pos) (wC (.int i)):=⟨LJ⟩
theorem uT{i j pos}:EE X (.Constant (.bool i) j pos) (wC (.bool i)):=⟨NK⟩
theorem aC{i j pos}:EE X (.Constant (.str i) j pos) (wC (.str i)):=⟨IY⟩
theorem rf{j pos}:EE X (.Constant .none j pos) (wC .none):=⟨KH⟩
theorem mv'(i:Nat){pos:Pos}(hN:X.N[i]?=some x:=by rfl)(hv:Vis X.env.scope x:=by first|exact agQ rfl|exact adl (agQ rfl)|exact adl (adl rfl))(hd:(x==("__debug__" : Str))=false:=by decide)(hcd:(x==("__classdict__" : Str))=false:=by decide):EE X (.Name x pos) (wVar i):=⟨mv i hN hv hd hcd⟩
theorem ad{op:Operator}(ho:OpR X (acw op) (rM X.kx o))(ha:EE X a wa)(hb:EE X b wb):EE X (.BinOp a op b pos) (wBin o wa wb):=⟨Ku ho ha.h hb.h⟩
theorem l9(ho:OpR X (abZ op) (rM X.kx o))(ha:EE X a wa)(hb:EE X b wb)(hm:ade op b=false):EE X (.Compare a [op] [b] pos) (wBin o wa wb):=⟨Jp ho ha.h hb.h hm⟩
theorem av(ho:OpR X (abZ op) (rM X.kx o))(ha:EE X a wa)(hb:EE X b wb)(hm:ade op b=false):ET X (.Compare a [op] [b] pos) (uu (wBin o wa wb)):=⟨Km ho ha.h hb.h hm⟩
theorem qP(ha:EE X a wa)(he:∀whole,isTrue a X.env whole=(do let v <- whole;ado a.pos;adI [v] (truthy v)):=by intro _;rfl):ET X a (uu wa):=⟨JP ha.h he⟩
end
section
variable {X:Cx}{a b c:Expr}{es:List Expr}{wa wb wc:WE}{pos:Pos}
variable {wt wu:WT}{rest:List Expr}
theorem l6(ha:ET X a wt):EW X (.BoolOp .And [a] pos) wt:=⟨CQ ha.h⟩
theorem x9(ha:ET X a wt):EW X (.BoolOp .Or [a] pos) wt:=⟨J3 ha.h⟩
theorem lL(ha:ET X a wt)(hb:EW X (.BoolOp .And (b::rest) pos) wu):EW X (.BoolOp .And (a::b::rest) pos) (wAnd wt wu):=⟨KZ ha.h hb.h⟩
theorem wf(ha:ET X a wt)(hb:EW X (.BoolOp .Or (b::rest) pos) wu):EW X (.BoolOp .Or (a::b::rest) pos) (wOr wt wu):=⟨OM ha.h hb.h⟩
theorem D8(ha:ET X a wt):ET X (.UnaryOp .Not a pos) (wNot wt):=⟨Jc ha.h⟩
theorem II(ht:ET X t wt)(ha:EE X a wa)(hb:EE X b wb):EE X (.IfExp t a b pos) (wIfE wt wa wb):=⟨O9 ht.h ha.h hb.h⟩
theorem kh{op:UnaryOp}{o:WU}(ho:UnR X (unaryOp op) (uM X.kx o))(ha:EE X a wa):EE X (.UnaryOp op a pos) (wUn o wa):=⟨Oj ho ha.h⟩
theorem dU(ha:EE X a wa):EE X a (wImm wa):=⟨IG ha.h⟩
end
section
variable {X:Cx}{a b c:Expr}{es:List Expr}{wa wb wc:WE}{pos:Pos}
variable {wt wu:WT}{rest:List Expr}
variable {ws:WA}
theorem mn'  : EA X [] wNil:=⟨LS⟩
theorem mc'(ha:EE X a wa)(hr:EA X es ws)(hs:aan (a::es) X.env=(false,eval a X.env)::aan es X.env:=by first|exact aY rfl|rfl):EA X (a::es) (DI wa ws):=⟨GH ha.h hr.h hs⟩
theorem af{x1}(h:EA X es ws):EE X (.Tuple es x1 pos) (wTup ws):=⟨JO h.h⟩
theorem bO(h:EA X es ws):EE X (.List es pos) (wLst ws):=⟨IZ h.h⟩
theorem au{id:String}{o:WC}(hc:dj X (.builtin id) (cM X.kx o))(hg:Gl X x)(hm:X.mg x=none)(hv:abh x=some (.builtin id))(ha:EA X (a::es) ws)(hn:x ≠ "__name__" :=by decide)(hdb:(x==("__debug__" : Str))=false:=by decide)(he:aan (a::es) X.env=(false,eval a X.env)::aan es X.env:=by first|exact aY rfl|rfl)(hpl:(acb pos (aan es X.env)).any (·.1)=false:=by rfl):EE X (.Call (.Name x p) (a::es) [] pos) (wCB o ws):=⟨zm hc hg hm hv ha.h hn hdb he hpl⟩
theorem cy{T:String}{o:WC}(hc:dj X (.type T) (cM X.kx o))(hg:Gl X x)(hm:X.mg x=none)(hv:abh x=some (.type T))(ha:EA X (a::es) ws)(hn:x ≠ "__name__" :=by decide)(hdb:(x==("__debug__" : Str))=false:=by decide)(he:aan (a::es) X.env=(false,eval a X.env)::aan es X.env:=by first|exact aY rfl|rfl)(hpl:(acb pos (aan es X.env)).any (·.1)=false:=by rfl):EE X (.Call (.Name x p) (a::es) [] pos) (wCB o ws):=⟨xU hc hg hm hv ha.h hn hdb he hpl⟩
end
section
variable {X:Cx}{a b c e:Expr}{es:List Expr}{wa wb wc we:WE}{pos:Pos}{st:Stmt}{rest:List Stmt}{w u:WS}
theorem ay  : ESs X [] DM:=⟨Gc⟩
theorem mz'(h1:ES X st w)(h2:ESs X rest u):ESs X (st::rest) (wSeq w u):=⟨zn h1.h h2.h⟩
theorem aa(h1:ES X st w):ESs X [st] w:=⟨Fc h1.h⟩
end
section
variable {X:Cx}{a b c e:Expr}{es:List Expr}{wa wb wc we:WE}{ws:WA}{wt:WT}{pos:Pos}{st:Stmt}{rest body body2:List Stmt}{w u:WS}
theorem ag(he:EE X e we):ES X (.Return (some e) pos) (wRet we):=⟨J9 he.h⟩
theorem cV(he:EE X e we)(hs:abY e none pos.line X.env=pure false:=by rfl):ES X (.Expr e pos) (DG we):=⟨CK he.h hs⟩
theorem bc(ht:ET X t wt)(h1:ESs X body w)(h2:ESs X body2 u):ES X (.If t body body2 pos) (wIfS wt w u):=⟨Nk ht.h h1.h h2.h⟩
theorem yN  : ES X st BW:=⟨Aa⟩
theorem cR(hN:X.N.Nodup)(hi:X.N[i]?=some x)(hx:Loc X.env.scope x)(he:EE X e we)(hs:abY e (some (.Name x pos')) pos.line X.env=pure false:=by rfl)(hf:X.fn x=true\/X.env.scope.names.lookup x=some .local:=by first|exact .inl rfl|exact .inr rfl|assumption):ES X (.Assign [.Name x pos'] e pos) (wSet i we):=⟨J7 hN hi hx he.h hs hf⟩
theorem mI(hN:X.N.Nodup)(hi:X.N[i]?=some x)(hx:Loc X.env.scope x)(hf:X.fn x=true\/X.env.scope.names.lookup x=some .local:=by first|exact .inl rfl|exact .inr rfl|assumption):EG X (.Name x pos) (gM i):=⟨GF hN hi hx hf⟩
theorem aV  : EGs X [] DN:=⟨Gf⟩
theorem ae{e:Expr}{es:List Expr}(h1:EG X e g)(h2:EGs X es gs)(hs:(abL (e::es) X.env).map (·.2)=ada e X.env::(abL es X.env).map (·.2):=by rfl):EGs X (e::es) (yz g gs):=⟨Am h1.h h2.h hs⟩
theorem bi{es:List Expr}{k:Nat}(h:EGs X es gs)(hc:X.calm=true:=by rfl)(hn:(abL es X.env).length=n:=by rfl)(hst:(abL es X.env).findIdx? (·.1)=none:=by rfl):EG X (.Tuple es k pos) (Bq n gs):=⟨Lp h.h hc hn hst⟩
theorem cz(he:EE X e we)(hg:EG X tg g)(hs:adc [tg] e pos.line X.env=pure false:=by rfl)(hw:add [tg] e X.env=pure none:=by rfl)(h1:(abL [tg] X.env).map (·.2)=[ada tg X.env]:=by rfl):ES X (.Assign [tg] e pos) (wAsg we g):=⟨Md he.h hg.h hs hw h1⟩
theorem jC{px py pt:Pos}{kt k2 pt2}(hN:X.N.Nodup)(hi:X.N[i]?=some x)(hj:X.N[j]?=some y)(hij:i≠j)(hx:X.env.scope.names.lookup x=some .local)(hy:X.env.scope.names.lookup y=some .local)(ha:EA X [a,b] ws)(hw:add [.Tuple [.Name x px,.Name y py] kt pt] (.Tuple [a,b] k2 pt2) X.env=pure (some [x,y]))(hc:X.calm=true:=by rfl)(hs:adc [.Tuple [.Name x px,.Name y py] kt pt] (.Tuple [a,b] k2 pt2) pos.line X.env=pure false:=by rfl):ES X (.Assign [.Tuple [.Name x px,.Name y py] kt pt] (.Tuple [a,b] k2 pt2) pos) (wPar i j ws):=⟨JA hN hi hj hij hx hy ha.h hw hc hs⟩
end
section
variable {X:Cx}{tg a b c e iter:Expr}{es:List Expr}{wa wb wc we:WE}{ws:WA}{wt:WT}{pos:Pos}{st:Stmt}{rest body body2:List Stmt}{w u:WS}
theorem bz(he:EE X e we):EI X tg e (G9 we):=⟨Ji he.h⟩
theorem bJ(hg:Gl X "range")(hm:X.mg "range" = none)(ha:EA X [a] ws)(hs:aan [a] X.env=[(false,eval a X.env)]:=by first|exact cu rfl|rfl):EI X tg (.Call (.Name "range" p) [a] [] pos) (uV ws):=⟨yP hg hm ha.h hs⟩
theorem bt(hi:EI X tg iter wi)(hg:EG X tg g)(hb:ESs X body w)(hp:afX (model X.prog X.w) X.A X.env X.xe)(hc:X.calm=true:=by rfl)(hs:∀x,aaW iter X.env x=pure x:=by intro _;rfl):ES X (.For tg iter body [] pos) (wFor wi g w):=⟨J4 hi.h hg.h hb.h hp hc hs⟩
theorem gW(ht:ET X t wt)(hb:ESs X body w)(hp:afX (model X.prog X.w) X.A X.env X.xe):ES X (.While t body [] pos) (xj wt w):=⟨ze ht.h hb.h hp⟩
end
section
variable {X:Cx}{scope sc:Scope}{own fr:List Str}{ps:List Nat}{elt tg iter tg2 iter2:Expr}{ifs ifs2:List Expr}{pos spos py:Pos}{wi wi2:WI}{g g2:WG}{tt tt2:WT}{we:WE}
theorem cv(S:bR own fr scope sc)(hi:EI X tg iter wi)(hg:∀cl s H C ex,EG (aP X scope cl (own++fr) s H C ex) tg g)(ht:∀cl s H C ex,ETs (aP X scope cl (own++fr) s H C ex) ifs tt)(he:∀cl s H C ex,EE (aP X scope cl (own++fr) s H C ex) elt we)(hsc:X.env.scope=sc:=by rfl)(hps:ps.map (fun i=>X.N[i]?)=fr.map some:=by rfl)(hc:X.calm=true:=by rfl)(hs:∀x,aaW iter X.env x=pure x:=by intro _;rfl):EE X (.ListComp elt [⟨tg,iter,ifs,0⟩] scope pos) (k7 wi own ps g tt we):=⟨zx S hi.h (fun cl s H C ex=>(hg cl s H C ex).h) (fun cl s H C ex=>(ht cl s H C ex).h) (fun cl s H C ex=>(he cl s H C ex).h) hsc hps hc hs⟩
theorem cF  : ETs X [] qz:=⟨H9⟩
theorem sY{t:WT}(h:ET X c t):ETs X [c] t:=⟨C5 h.h⟩
theorem xY(S:bR own fr scope sc)(hN:X.N.Nodup)(hy:X.N[i]?=some y)(hlc:X.env.scope.names.lookup y=some .local)(hi:EI X tg iter wi)(hg:∀cl s H C ex,EG (aP X scope cl (own++fr) s H C ex) tg g)(ht:∀cl s H C ex,ETs (aP X scope cl (own++fr) s H C ex) ifs tt)(he:∀cl s H C ex,EE (aP X scope cl (own++fr) s H C ex) elt we)(hsw:abY (.ListComp elt [⟨tg,iter,ifs,0⟩] scope pos) (some (.Name y py)) spos.line X.env=pure true:=by rfl)(hsc:X.env.scope=sc:=by rfl)(hps:ps.map (fun i=>X.N[i]?)=fr.map some:=by rfl)(hc:X.calm=true:=by rfl)(hs:∀x,aaW iter X.env x=pure x:=by intro _;rfl):ES X (.Assign [.Name y py] (.ListComp elt [⟨tg,iter,ifs,0⟩] scope pos) spos) (wSet i (k7 wi own ps g tt we)):=⟨z6 S hN hy hlc hi.h (fun cl s H C ex=>(hg cl s H C ex).h) (fun cl s H C ex=>(ht cl s H C ex).h) (fun cl s H C ex=>(he cl s H C ex).h) hsw hsc hps hc hs⟩
theorem vW(S:bR own fr scope sc)(hN:X.N.Nodup)(hy:X.N[i]?=some y)(hlc:X.env.scope.names.lookup y=some .local)(hi:EI X tg iter wi)(hg:∀cl s H C ex,EG (aP X scope cl (own++fr) s H C ex) tg g)(ht:∀cl s H C ex,ETs (aP X scope cl (own++fr) s H C ex) ifs tt)(hi2:∀cl s H C ex,EI (aP X scope cl (own++fr) s H C ex) tg2 iter2 wi2)(hg2:∀cl s H C ex,EG (aP X scope cl (own++fr) s H C ex) tg2 g2)(ht2:∀cl s H C ex,ETs (aP X scope cl (own++fr) s H C ex) ifs2 tt2)(he:∀cl s H C ex,EE (aP X scope cl (own++fr) s H C ex) elt we)(hsw:abY (.ListComp elt [⟨tg,iter,ifs,0⟩,⟨tg2,iter2,ifs2,0⟩] scope pos) (some (.Name y py)) spos.line X.env=pure true:=by rfl)(hsc:X.env.scope=sc:=by rfl)(hps:ps.map (fun i=>X.N[i]?)=fr.map some:=by rfl)(hc:X.calm=true:=by rfl)(hs:∀x,aaW iter X.env x=pure x:=by intro _;rfl)(hs2:∀cl C x,aaW iter2 (agN scope cl C X.env) x=pure x:=by intro _ _ _;rfl):ES X (.Assign [.Name y py] (.ListComp elt [⟨tg,iter,ifs,0⟩,⟨tg2,iter2,ifs2,0⟩] scope pos) spos) (wSet i (tq wi own ps g tt wi2 g2 tt2 we)):=⟨AD S hN hy hlc hi.h (fun cl s H C ex=>(hg cl s H C ex).h) (fun cl s H C ex=>(ht cl s H C ex).h) (fun cl s H C ex=>(hi2 cl s H C ex).h) (fun cl s H C ex=>(hg2 cl s H C ex).h) (fun cl s H C ex=>(ht2 cl s H C ex).h) (fun cl s H C ex=>(he cl s H C ex).h) hsw hsc hps hc hs hs2⟩
end
section
variable {X:Cx}
theorem ab{a b:Expr}{wa wb:WE}(ha:EE X a wa)(hb:EE X b wb)(hs:qe b:=by intro _ _;rfl):EE X (.Subscript a b pos) (wBin oA wa wb):=⟨Ou ha.h hb.h hs⟩
end
section
variable {X:Cx}{o a b c e:Expr}{es:List Expr}{wo wa wb wc we wi:WE}{ws:WA}{pos apos cpos:Pos}
theorem gi{name:Str}{id:String}{ob:WM}(slot:Slot "list" name id)(hty:typeOf (.builtin id)=pure (.type "method_descriptor"))(hm:MtM X id (mM X.kx ob))(ho:EE X o wo)(ha:EA X (e::es) ws)(hbase:abD o name X.env (eval o X.env)=eval o X.env:=by rfl)(hfew:((acb cpos (aan (e::es) X.env)).all (fun x=>!x.1)&&(afx cpos (adM [] X.env)).all (fun x=>x.1.isSome)
   && decide ((e::es).length+([]:List adr).length+(if ([]:List adr).isEmpty then 0 else 1)<30))=true:=by rfl) (hline:(apos.endLine==cpos.line)=true:=by rfl) (hs:aan (e::es) X.env=(false,eval e X.env)::aan es X.env:=by first|exact aY rfl|rfl) (hplain:(acb cpos (aan es X.env)).any (·.1)=false:=by rfl):EE X (.Call (.Attribute o name apos) (e::es) [] cpos) (wML ob wo ws):=⟨Mi slot hty hm ho.h ha.h hbase hfew hline hs hplain⟩
theorem mh{b i:Expr}(he:EE X e we)(ho:EE X b wo)(hi:EE X i wi)(hs:adc [.Subscript b i pos'] e pos.line X.env=pure false:=by rfl)(hw:add [.Subscript b i pos'] e X.env=pure none:=by rfl)(h1:(abL [.Subscript b i pos'] X.env).map (·.2)=[ada (.Subscript b i pos') X.env]:=by rfl)(ha:∀v,ada (.Subscript b i pos') X.env v=(do
   let ov <- adI [v] (eval b X.env)
   let iv <- adI [v,ov] (eval i X.env)
   ado pos'
   adI [v,ov,iv] (agZ ov iv v)
   release [v,ov,iv] []):=by intro _;rfl):ES X (.Assign [.Subscript b i pos'] e pos) (Gj we wo wi):=⟨GV he.h ho.h hi.h hs hw h1 ha⟩
theorem c5  : EO X none qR:=⟨GW⟩
theorem cY(he:EE X e we):EO X (some e) (GC we):=⟨E8 he.h⟩
theorem cp{p2:Pos}(hr:SlR X (sM X.kx ob))(he:EE X e we)(hl:EO X lo wl)(hu:EO X hi wh):EE X (.Subscript e (.Slice lo hi none p2) pos) (wSl ob we wl wh):=⟨Bj hr he.h hl.h hu.h⟩
end
section
variable {X:Cx}{a:Expr}{es:List Expr}{ws:WA}{pos p:Pos}{k n:Nat}{sp:SpM}{x:Str}
theorem mf'(F:FnM X.prog X.w X.K X.mg X.base x k n sp)(hr:Room k X.A)(ha:EA X (a::es) ws)(hg:Gl X x:=by rfl)(hdb:(x==("__debug__" : Str))=false:=by decide)(he:aan (a::es) X.env=(false,eval a X.env)::aan es X.env:=by first|exact aY rfl|rfl)(hpl:(acb pos (aan es X.env)).any (·.1)=false:=by rfl):EE X (.Call (.Name x p) (a::es) [] pos) (vP sp ws):=⟨Ba F hr ha.h hg hdb he hpl⟩
end
theorem aU{P:aaZ}{w:World}{K:aaj}{base:aa6}{k:Nat}(D:DefM K mg x st ps)(S:am N ps (ac st))(hn:ps.length=n)(hN:N.length=nN)(hle:n≤nN)(ar:∀as Kc,sp as Kc->as.length=n)
  (hbody:∀(cdv:GE) (A:abz) (outer:List Env) (s:aab) (H:Hp) (E:XK) (f:Addr),Room k (A.deeper (afc x (ac st) s.heap.objs.size f cdv)) ->
   ∃ww,ESs (cxOf CX0 P w K mg base N x (ac st) f cdv A outer s H E).nox (dW st) ww/\∀as Kc,as.length=n->sp as Kc->ww {nx:=fun m=>Kc (.imm .none) (m.os.take m.np),rt:=fun r m=>retK Kc m r} (gI nN as)) :
  FnM P w K mg base x (k+1) n sp:=Ot D S hn hN hle ar fun cdv A outer s H E f hr=>let ⟨ww,h1,h2⟩:=hbody cdv A outer s H E f hr;⟨ww,h1.h,h2⟩
theorem Dn{P:aaZ}{w:World}{K:aaj}{base:aa6}{k:Nat}(F:Fun K x x st f fd)(S:am N ps (ac st))(hn:ps.length=n)(hN:N.length=nN)(hle:n≤nN)
  (hbody:∀(cdv:GE) (A:abz) (outer:List Env) (s:aab) (H:Hp) (E:XK) (f:Addr),Room k (A.deeper (afc x (ac st) s.heap.objs.size f cdv)) ->
   ∃ww,ESs (cxOf CX0 P w K mg base N x (ac st) f cdv A outer s H E).nox (dW st) ww/\∀as Kc,as.length=n->sp as Kc->ww {nx:=fun m=>Kc (.imm .none) (m.os.take m.np),rt:=fun r m=>retK Kc m r} (gI nN as)) :
  FnOk P w K mg base CX0 (k+1) f fd ps (spOf ⟨K,w⟩ n sp):=Kh F S hn hN hle fun cdv A outer s H E f hr=>let ⟨ww,h1,h2⟩:=hbody cdv A outer s H E f hr;⟨ww,h1.h,h2⟩
end L2
namespace HT
open PySem PySem.Spec PyProof.Rows
section
variable {prog:aaZ}{w:World}{A:abz}{E:GE->aab->Prop}{s:aab}
theorem cut_whole{t sl:Addr}{items:Array GE}{vl vu:GE}{lo hi:Option Int}{Q:GE->aab->Prop}(ht:IsTup s.heap t items)(hs:s.heap.IsSliceOf sl vl vu .none)(pl:agl vl lo)(pu:agl vu hi)
  (hw:sIx items.size 0 lo=0/\sIx items.size items.size hi=items.size) (h:Q (.ref t) s):wpAny (model prog w) A (aeU (.ref t) (.ref sl)) Q E s:=by
 obtain⟨os,hos,hcs,hds⟩:=id hs;have hTs:s.TypeIs (.ref sl) "slice" :=⟨os,hos,hcs⟩;unfold aeU
 try with_reducible refine abM ?_
 first|(refine gE (aaa ?_))|skip
 refine gE (afK ht.typeIs (by decide) (gE (aaP (name:=abI "__getitem__") ht.typeIs aby (aaT aby ht.typeIs entry_tuple_getitem ?_ (args_tuple_getitem _ _)))));show wpAny _ _ (adL (.ref t) >>= _) _ _ s;refine gE (ahg ht (gE (adq hTs ?_)));rw[if_pos (by decide)];refine gE (fv hs pl pu ?_);have hyes:(((sIx items.size 0 lo:Nat):Int)==0&&(1:Int)==1&&(sIx items.size items.size hi-sIx items.size 0 lo)==items.size)=true:=by
  rw[hw.1,hw.2];simp
 show wpAny _ _ (if (((sIx items.size 0 lo:Nat):Int)==0&&(1:Int)==1&&(sIx items.size items.size hi-sIx items.size 0 lo)==items.size)=true then _ else _) _ _ s;rw[if_pos hyes];refine gE ?_;unfold afz;refine gE (adq ht.typeIs (aaa ?_));rw[if_pos (by rfl)];exact gE (acU (aaa ⟨_,rfl,aaa h⟩))
end
end HT
namespace L2
open PySem PySem.Spec PyProof.Rows
variable{hi lo:Option Int}{Kr:R->Prop}{ds es:List iO}{K:R->MSt->Prop}{X:Cx}{pins:List (Addr×Obj)}{σ:St}{H:Hp}{h h':aa6}{t t1 t2:Bool}{a b i1 i2 it l l1 l2 z:Addr}{i n:Nat}{items its xs ys:Array GE}{Q:GE->aab->Prop}{f:GE}{elts:List Expr}
section
variable {X:Cx}
def oCut:R->Option Int->Option Int->MSt->(R->Prop)->Prop:=fun r lo hi m K=>(∃ds,lsOf m r=some ds/\K (.new (cutD ds lo hi)))\/∃ds,r = .imm (.tuple ds)/\K (.imm (.tuple (cutD ds lo hi)))
theorem fm:SlR X (sM X.kx oCut):=by
 intro pins s σ' H x v vl vu lo hi sl Q I rx hs pl pu hq;obtain⟨α,m,σ,H0,r,Kc,Rl,h,k|⟨ds,rfl,k⟩,fin⟩:=hq
 .exact AY pins s σ' H x v vl vu lo hi sl Q I rx hs pl pu ⟨α,m,σ,H0,r,Kc,Rl,h,k,fin⟩
 .obtain⟨a,xs,rfl,f,g⟩:=bF (show Den X.kx H (.tuple ds) x from h)
  by_cases hw:HT.sIx xs.length 0 lo=0/\HT.sIx xs.length xs.length hi=xs.length
  .cases rx;obtain⟨its,rv,ht,hz⟩:=I.tuple f;have hlen:its.toArray.size=xs.length:=by rw[aap];exact rv.length.symm
   refine⟨"tuple",_,aby.lookup,ht.typeIs,?_⟩;refine HT.cut_whole ht hs pl pu (by rw[hlen];exact hw) ⟨.ref a,H,I,rfl,fin _ _ H k Rl (kG (cP f ?_)) (Frm.refl _ _)⟩;have e:cutD ds lo hi=ds:=by
    unfold cutD;rw[g.length,hw.1,hw.2,agT,ahF,<-g.length,aag]
   rw[e];exact g
  .exact KL pins s σ' H _ v vl vu lo hi sl Q I rx hs pl pu ⟨a,xs,rfl,f,hw,fun p hp=>fin _ _ _ k (Rl.lay hp) (kG (cP (SqT.of aw) ((yy g lo hi).mono (br (.inl hp))))) (cj hp)⟩
theorem CI{m:MSt}{r:R}(e:lsOf m r=some ds)(h:Kr (.new (cutD ds lo hi))):oCut r lo hi m Kr:=.inl ⟨ds,e,h⟩
theorem JL{m:MSt}(h:Kr (.imm (.tuple (cutD ds lo hi)))):oCut (.imm (.tuple ds)) lo hi m Kr:=.inr ⟨ds,rfl,h⟩
theorem jA(n:Nat):cutD ds none (some (n:Int))=ds.take n:=by
 unfold cutD;rw[HT.sIx_none,HT.sIx_nat,ahF,agT]
 by_cases h:n≤ds.length
 .rw[agz h]
 .rw[af2 (by omega),aag,agp (by omega)]
theorem jY(n:Nat):cutD ds (some (n:Int)) none=ds.drop n:=by
 unfold cutD;rw[HT.sIx_none,HT.sIx_nat]
 by_cases h:n≤ds.length
 .rw[agz h,agp (by rw[adT];omega)]
 .rw[af2 (by omega),List.drop_length,List.drop_eq_nil_of_le (by omega),List.take_nil]
def oIn(neg:Bool):WO:=fun r1 r2 m K=>∃d ds,asD m r1=some d/\(asD m r2=some (.list ds)\/asD m r2=some (.tuple ds))/\d.canLay0=true/\aba ds=true/\d.depth≤60/\K (.imm (.bool (if neg then !ds.any (fun y=>aar y d)else ds.any fun y=>aar y d)))
theorem jx(hu:X.A.units+64<cLine):OpR X (abZ .NotIn) (rM X.kx (oIn true)):=by
 rintro pins s σ' H x y v u Q I rx ry ⟨α,m,σ,H0,H1,r1,r2,Kc,Rl,h1,h2,⟨d,ds,e1,e2,c1,c2,dp,ho⟩,fin⟩;obtain⟨as,q1⟩:=h1.reads I Rl rx e1 (abk _ c1);have fin':EP X pins σ' Q (.bool (!ds.any fun y=>aar y d)) s:=⟨.bl _,H,I,rfl,fin _ _ H ho Rl (nU _) (Frm.refl _ _)⟩;have hm:X.A.units+1+min (aav ds) d.depth<cLine:=by have:=aeK (aav ds) d.depth;omega
 rcases e2 with e2|e2
 .obtain⟨bs,q2⟩:=h2.reads I Rl ry e2 (by simp only[acx];exact acp _ c2);exact SeqAt.notIn_list_reads q2 q1 c2 c1 hm fin'
 .obtain⟨bs,q2⟩:=h2.reads I Rl ry e2 (by simp only[acx];exact acp _ c2);exact SeqAt.notIn_tuple_reads q2 q1 c2 c1 hm fin'
theorem x_in{m:MSt}{r1 r2:R}{neg:Bool}{d:iO}{k k':Nat}(e1:asD m r1=some d)(e2:asD m r2=some (.list ds)\/asD m r2=some (.tuple ds))(s1:Shp k d)(s2:∀y∈ds,Shp k' y)(hk:k≤60)(h:Kr (.imm (.bool (if neg then !ds.any (fun y=>aar y d)else ds.any fun y=>aar y d)))):oIn neg r1 r2 m Kr :=
 ⟨d,ds,e1,e2,s1.cl,(km s2).1,aaF s1.dp hk,h⟩
def OH(P:List iO->Prop):R->Prop
 | .new ds=>P ds
 |_=>False
def ve:WM:=fun r rs m K=>ql (fun k=>on1 (OH fun es=>∃ds,m.os[k]?=some ds/\ds.length+es.length≤aam/\K (.imm .none) {m with os:=m.os.set k (ds++es)}) rs) r
theorem lp:MtM X "list.extend" (mM X.kx ve):=by
 rintro pins s σ' H x xs v us Q I rx rv ⟨α,m,σ,H0,H1,r,rs,Kc,Rl,h1,h2,ho,fin⟩;obtain⟨k,a,rfl,ea,rfl,ho⟩:=vC h1 ho;obtain⟨r2,v2,rfl,rfl,h2,ho⟩:=dL h2 ho
 cases r2 with
 |imm _=>exact ho.elim
 |obj _=>exact ho.elim
 | «at» _ _=>exact ho.elim
 |newT _=>exact ho.elim
 |new es =>
  obtain⟨ds,e1,hz,ho⟩:=ho;obtain⟨b,zs,rfl,hb0,hb,gb⟩:=h2;obtain⟨ys,q,g⟩:=Rl.own _ _ ds ea e1;obtain⟨R2,F2⟩:=Rl.setO ea q (g.append gb);exact yO pins s σ' H _ _ v us Q I rx rv ⟨a,b,ys,zs,rfl,rfl,q,hb,by rw[<-g.length,<-gb.length];exact hz,fin _ _ _ _ ho rfl R2 yr F2⟩
theorem zF{m:MSt}{k:Nat}(e:m.os[k]?=some ds)(hz:ds.length+es.length≤aam)(h:K (.imm .none) {m with os:=m.os.set k (ds++es)}):ve (.obj k) [.new es] m K:=⟨ds,e,hz,h⟩
def Cc:WM:=fun r rs m K=>on1 (df fun d=>∃ds j,lsOf m r=some ds/\d.canLay0=true/\aba ds=true/\d.depth≤60/\(∃y,ds[j]?=some y/\aar y d=true)/\(∀(i:Nat) y,i<j->ds[i]?=some y->aar y d=false)/\K (.imm (.int (j:Nat))) m) rs
theorem uU(hu:X.A.units+64<cLine):MtM X "list.index" (mM X.kx Cc):=by
 rintro pins s σ' H x xs v us Q I rx rv ⟨α,m,σ,H0,H1,r,rs,Kc,Rl,h1,h2,ho,fin⟩;obtain⟨r2,v2,rfl,rfl,h2,ho⟩:=dL h2 ho;obtain⟨d,rfl,hd,ds,j,el,c1,c2,dp,⟨y,ey,eq⟩,hno,ho⟩:=fw h2 ho;obtain⟨a,zs,rfl,f,g⟩:=h1.list Rl el;cases rx;obtain⟨u,rfl,ru⟩:=rv.one;obtain⟨bs,qd⟩:=Den.reads I (abk _ c1) hd ru;obtain⟨its,rvv,pl,hz⟩:=I.list f;obtain⟨o,n,ho1,hc,hdict⟩:=pl;obtain⟨as,rds⟩:=DenAll.reads I (acp _ c2) g rvv;have hm:X.A.units+1+min (aav ds) d.depth<cLine:=by have:=aeK (aav ds) d.depth;omega
 have hmap:=ahq ds _ _ c2 rds;have hl:its.length=ds.length:=by rw[<-hmap,Ge]
 have hj:j<its.length:=by rw[hl];exact(aad.mp ey).1
 have ro:∀(i:Nat) (hi:i<its.length) y,ds[i]?=some y->adw s.heap its[i]=y:=fun i hi y e=>by
  rw[<-hmap,aae,oR hi]at e;exact aai e
 obtain⟨cls,dd,data,sl⟩:=o;obtain⟨hdict,hdata⟩:=hdict;dsimp only at hc hdata;subst hc;subst hdata;have hsm:(j:Int)<2^63-1:=by
  have h16:=hz;rw[aaq]at h16;have:=rvv.length;omega
 refine aed af3 ⟨_,ho1,rfl⟩ PySem.F.entry_list_index (PySem.F.args_list_index_2 _ _)
  (SeqAt.list_indexAt a its.toArray _ dd sl u (fun y=>aar (adw s.heap y) d) j (by simpa using hj) hsm ?_ ?_) ⟨ho1,ahS (by simpa using rds) qd c2 c1 hm,?_⟩
 .show aar (adw s.heap its[j]) d=true;rw[ro j hj y ey];exact eq
 .intro i hi hlt;have hi':i<its.length:=by simpa using hi
  show aar (adw s.heap its[i]) d=false;have hi2:i<ds.length:=by rw[<-hl];exact hi'
  rw[ro i hi' _ (oR hi2)];exact hno i _ hlt (oR hi2)
 .exact⟨.int (j:Nat),H,I.tok _,⟨_,rfl⟩,fin _ _ _ H ho rfl Rl (dM _) (Frm.refl _ _)⟩
theorem CZ{m:MSt}{r:R}{d y:iO}{j k k':Nat}(e:lsOf m r=some ds)(s1:Shp k d)(s2:∀y∈ds,Shp k' y)(hk:k≤60)(ey:ds[j]?=some y)(eq:aar y d=true)(hno:∀(i:Nat) y,i<j->ds[i]?=some y->aar y d=false)(h:K (.imm (.int (j:Nat))) m):Cc r [.imm d] m K :=
 ⟨ds,j,e,s1.cl,(km s2).1,aaF s1.dp hk,⟨y,ey,eq⟩,hno,h⟩
end
theorem Inv.turneds{s:aab}{t':Nat}{ch:List Addr}(I:Inv X pins σ H s)(k:∀b o,b∉ch->s.heap.get? b=some o->h'.get? b=some o)(hf:∀b∈ch,FpOk X pins H b):Inv X pins σ H {s with heap:=h',toks:=t' }:=by
 have nit:∀b u,H b=some u->b∉ch:=fun b u e z=>by have:=(hf b z).1;rw[this]at e;cases e
 have nl:X.env.locals∉ch:=fun z=>(hf _ z).2.1 rfl;refine I.step (g':=s.gens) (d':=s.drawn) (ch:=ch) (fun b hb=>?_) (fun b o _ _ hc e _=>k b o hc e) (fun b o _ _ hc e _=>⟨o.slots,k b o hc e⟩) (fun _ _ _ _ n=>n)
  (fun b o hc e=>⟨o,k b o hc e⟩) (fun _ _ e=>e) (fun _ _ _ e=>e) (fun b ps e=>⟨#[],by rw[e];simp⟩) (fun m hm=>?_) (fun b u e=>?_) I.bare
 .obtain⟨_,f1,_,f3,f4,f5⟩:=hf b hb;exact⟨f3,f1,f4,f5⟩
 .obtain⟨o,es,ep,ho,r⟩:=hm;exact⟨o,es,ep,k _ o nl ho,r⟩
 .refine(I.hok b u e).stay (fun c v hc q=>k c v ?_ q) (fun _ q=>q) fun _ _ q=>q;rcases hc with z|z
  .rw[z];exact nit b u e
  .exact nit c _ z
def SubI(t:Bool)(h:aa6)(i l:Addr)(k:Nat):Prop:=if t then h.IsTupleIter i l k else h.IsListIter i l k
def SubS(t:Bool)(h:aa6)(l:Addr)(its:Array GE):Prop:=if t then h.IsTuple l its else h.IsList l its
theorem SubI.ext{i:Addr}{k:Nat}(x:SubI t h i l k)(e:afM b h h')(n:i≠b):SubI t h' i l k:=by
 cases t
 .exact aa6.IsListIter.extBut (show h.IsListIter i l k from x) e n
 .exact aa6.IsTupleIter.extBut (show h.IsTupleIter i l k from x) e n
theorem SubI.obj{i:Addr}{k:Nat}(x:SubI t h i l k):∃o vs,h.get? i=some o/\o.data = .fields vs:=by
 cases t
 .obtain⟨o,e,_,d⟩:=(show h.IsListIter i l k from x);exact⟨o,_,e,d⟩
 .obtain⟨o,e,_,d⟩:=(show h.IsTupleIter i l k from x);exact⟨o,_,e,d⟩
theorem SubI.keep{i:Addr}{k:Nat}(x:SubI t h i l k)(e:∀o,h.get? i=some o->h'.get? i=some o):SubI t h' i l k:=by
 cases t
 .obtain⟨o,q,r⟩:=(show h.IsListIter i l k from x);exact⟨o,e o q,r⟩
 .obtain⟨o,q,r⟩:=(show h.IsTupleIter i l k from x);exact⟨o,e o q,r⟩
theorem SubS.keep(x:SubS t h l its)(e:∀o,h.get? l=some o->h'.get? l=some o):SubS t h' l its:=by
 cases t
 .obtain⟨o,q,r⟩:=(show h.IsList l its from x);exact⟨o,e o q,r⟩
 .obtain⟨o,q,r⟩:=(show h.IsTuple l its from x);exact⟨o,e o q,r⟩
theorem SubS.ext(x:SubS t h l its)(e:afM b h h')(n:l≠b):SubS t h' l its:=x.keep fun o q=>e l o n q
section
variable {prog:aaZ}{w:World}{A:abz}{E:GE->aab->Prop}{s:aab}
theorem jp{α:Type}{Q:α->aab->Prop}(hh:A.handled=none)(h:∀h' e,(∀b o,s.heap.get? b=some o->h'.get? b=some o)->(∃o,h'.get? e=some o/\o.cls = .type "StopIteration")->E (.ref e) {s with heap:=h' }) :
  wpAny (model prog w) A (do raiseNew (<- newExc (.type "StopIteration") []):Sem α) Q E s:=by
 refine gE (m:=newExc (.type "StopIteration") []) ?_;refine gE (m:=ahG []) (aa5 ?_ (by size_fits));refine gE (m:=firstArgMember (.type "StopIteration") []) (wpAny_of_eq (a:=agh) (by rfl) (aa5 ?_ (by size_fits)));refine gE (m:=handled) (wpAny_handled ?_);rw[hh];refine gE (aaa (wpAny_throw (h _ _ (fun b o q=>Io _ (Io _ q)) ⟨_,aal _ rfl,rfl⟩)))
theorem O4(hit:s.heap.IsTupleIter it l i)(h:Q (.ref l) s):wpAny (model prog w) A (field (.ref it) 0) Q E s:=let ⟨_,ho,_,hd⟩:=hit;abf ho hd (x:=.ref l) rfl h
theorem Ow(hit:s.heap.IsTupleIter it l i)(h:Q (.int i 0) s):wpAny (model prog w) A (field (.ref it) 1) Q E s:=let ⟨_,ho,_,hd⟩:=hit;abf ho hd (x:=.int i 0) rfl h
theorem Og{Q:Option (Array GE)->aab->Prop}(hl:s.heap.IsTuple l items)(h:Q (some items) s):wpAny (model prog w) A (seqItems? (.ref l)) Q E s:=let ⟨_,ho,_,_,hd⟩:=hl;acV ho hd h
theorem s9{Q:Option GE->aab->Prop}(hit:s.heap.IsTupleIter it l i)(hl:s.heap.IsTuple l items)
  (hs:∀x,items[i]?=some x->∀h',h'.IsTupleIter it l (i+1)->abu it s.heap h'->Q (some x) {s with heap:=h' })
  (hE:items[i]?=none->A.handled=none/\∀h' e,afM it s.heap h'->(∃o,h'.get? e=some o/\o.cls = .type "StopIteration")->E (.ref e) {s with heap:=h' }) :
  wpAny (model prog w) A (ahH (.ref it) "__next__" []) Q E s:=by
 refine aaP (name:=abI "__next__") hit.typeIs afA (aaT afA hit.typeIs F.entry_tuple_iterator_next ?_ (F.args_tuple_iterator_next_1 _))
 wp_walk using O4 hit,Ow hit,Og hl
 rcases id hit with⟨o,ho,hc,hd⟩;rw[aaX]
 cases q:items[i]? with
 | some x =>
  have new:(s.heap.update it (Obj.mapFields (·.setIfInBounds 1 (adj ((i:Int)+1))))).IsTupleIter it l (i+1):=by
   refine⟨_,acY _ ho (Obj.isFreed_of_fields (ahr hd _)),?_,?_⟩
   .exact(Obj.cls_mapFields ..).trans hc
   .rw[ahr hd];simp[adj]
  exact gE (m:=acK (.ref it) 1 _) (wpAny_setField ho hd (by simp) (aaa ⟨x,rfl,hs x q _ new (ag3 ..)⟩))
 |none =>
  obtain⟨hh,hE⟩:=hE q;refine gE (m:=rule _) (acU (gE (m:=acK (.ref it) 0 _) (wpAny_setField ho hd (by simp) ?_)));exact jp (A:=A.in1) hh fun h' e k x=>hE h' e (fun b ob nb z=>k b ob ((ag3 ..).extBut b ob nb z)) x
theorem jt{x:GE}(hit:SubI t s.heap it l i)(hl:SubS t s.heap l items)(hx:items[i]?=some x)
  (hQ:∀h',SubI t h' it l (i+1)->abu it s.heap h'->Q x {s with heap:=h' }):wpAny (model prog w) A (abT (.ref it)) Q E s:=by
 cases t with
 |false=>exact wpAny_nextOf_list_item (show s.heap.IsListIter it l i from hit) (show s.heap.IsList l items from hl) hx hQ
 |true=>exact gE (m:=ahH (.ref it) "__next__" []) (s9 (show s.heap.IsTupleIter it l i from hit) (show s.heap.IsTuple l items from hl) (fun y ey h' a b=>by rw[hx]at ey;cases ey;exact aaa (hQ h' a b)) fun no=>by rw[hx]at no;cases no)
theorem qM(hh:A.handled=none)(hit:SubI t s.heap it l i)(hl:SubS t s.heap l items)(hx:items[i]?=none)
  (hE:∀h' e,afM it s.heap h'->(∃o,h'.get? e=some o/\o.cls = .type "StopIteration")->E (.ref e) {s with heap:=h' }):wpAny (model prog w) A (abT (.ref it)) Q E s:=by
 cases t with
 |false=>exact wpAny_nextOf_list_end hh (show s.heap.IsListIter it l i from hit) (show s.heap.IsList l items from hl) hx hE
 |true=>exact gE (m:=ahH (.ref it) "__next__" []) (s9 (show s.heap.IsTupleIter it l i from hit) (show s.heap.IsTuple l items from hl) (fun y ey=>by rw[hx]at ey;cases ey) fun _=>⟨hh,hE⟩)
structure Apart(z TI TO i1 i2 l1 l2:Addr):Prop where
 d:[z,TI,TO,i1,i2].Nodup
 m1:l1∉[z,TI,TO,i1,i2]
 m2:l2∉[z,TI,TO,i1,i2]
theorem Apart.old{TI TO:Addr}(D:Apart z TI TO i1 i2 l1 l2):ZipApart z TI TO i1 i2 l1 l2:=by
 obtain⟨d,m1,m2⟩:=D;simp only[abc,aas,aa3,not_or,or_false,adm,and_true,not_false_eq_true]at d m1 m2;obtain⟨⟨a1,a2,a3,a4⟩,⟨b1,b2,b3⟩,⟨c1,c2⟩,d1⟩:=d;exact⟨abt a1,abt a2,abt a3,abt a4,b1,b2,b3,c1,c2,d1,m1.1,m1.2.2.1,m1.2.2.2.1,m1.2.2.2.2,m2.1,m2.2.2.1,m2.2.2.2.1,m2.2.2.2.2⟩
structure y7(t1 t2:Bool)(z TI TO i1 i2 l1 l2:Addr)(k:Nat)(h:aa6):Prop where
 z:IsZip h z TI TO .none
 ti:afg h TI (.ref i1) (.ref i2)
 to:∃a b,afg h TO a b
 s1:SubI t1 h i1 l1 k
 s2:SubI t2 h i2 l2 k
theorem zf0{TI TO:Addr}(hz:IsZip s.heap z TI TO f)(h:Q f s):wpAny (model prog w) A (field (.ref z) 0) Q E s:=abf hz rfl (x:=f) rfl h
theorem zf2{TI TO:Addr}(hz:IsZip s.heap z TI TO f)(h:Q (.bool false) s):wpAny (model prog w) A (field (.ref z) 2) Q E s:=abf hz rfl (x:=.bool false) rfl h
theorem zf3{TI TO:Addr}(hz:IsZip s.heap z TI TO f)(h:Q (.ref TI) s):wpAny (model prog w) A (field (.ref z) 3) Q E s:=abf hz rfl (x:=.ref TI) rfl h
theorem Ac{TI TO:Addr}{k:Nat}{x y:GE}{Q:Option GE->aab->Prop}(D0:Apart z TI TO i1 i2 l1 l2)(Z:y7 t1 t2 z TI TO i1 i2 l1 l2 k s.heap)
  (hl1:SubS t1 s.heap l1 xs) (hl2:SubS t2 s.heap l2 ys) (hx:xs[k]?=some x) (hy:ys[k]?=some y)
  (hQ:∀h',IsZip h' z TI TO (adj s.heap.objs.size)->afg h' TO x y->SubI t1 h' i1 l1 (k+1)->SubI t2 h' i2 l2 (k+1)->afg h' s.heap.objs.size x y->h'.objs.size=s.heap.objs.size+1 ->
   (∀c o,c∉[z,TO,i1,i2]->s.heap.get? c=some o->h'.get? c=some o)->Q (some (.ref s.heap.objs.size)) {s with heap:=h' }):wpAny (model prog w) A (acj (.ref z)) Q E s:=by
 have D:=D0.old;obtain⟨hz,hTI,⟨a,b,hTO⟩,h1,h2⟩:=Z;have hT:s.TypeIs (.ref z) "zip" :=(⟨_,hz,rfl⟩);unfold acj;refine gE (acu (aaP (name:=abI "__next__") hT afh (aaT afh hT F.entry_zip_next ?_ (F.args_zip_next_1 _))));refine gE (m:=field (.ref z) 2) (zf2 hz (gE (m:=field (.ref z) 3) (zf3 hz (gE (acV hTI rfl ?_)))));refine gE (m:=ab1 (.ref z)) (gE (m:=field (.ref z) 0) (zf0 hz (aaa ?_)));simp only[if_true];refine gE (acU (gE (abf hz rfl (x:=.ref TO) rfl (gE (aaD hz (by simp) fun g1 hz1 s1=>?_)))));replace hz1:IsZip g1 z TI TO .ellipsis:=hz1;refine gE ?_;simp only[afe,List.forIn_nil,ahT,List.zipIdx_nil];refine gE (gE (afR (gE (m:=abT (.ref i1)) ?_)));refine(jt (h1.ext s1.extBut D.i1z) (hl1.ext s1.extBut D.l1z) hx fun g2 n1 s2=>aaa ?_);have hTO2:afg g2 TO a b:=s2.extBut _ _ D.TOi1 (s1.extBut _ _ D.TOz hTO);refine gE (acV hTO2 rfl (gE (ae2 hTO2 fun g3 hTO3 s3=>?_)));replace hTO3:afg g3 TO x b:=hTO3;refine gE (afN (aaa (gE (gE (afR ?_)))));refine gE (m:=abT (.ref i2)) (jt (((h2.ext s1.extBut D.i2z).ext s2.extBut D.i12.symm).ext s3.extBut D.TOi2.symm) (((hl2.ext s1.extBut D.l2z).ext s2.extBut D.l2i1).ext s3.extBut D.l2TO) hy fun g4 n2 s4=>aaa ?_);have hTO4:afg g4 TO x b:=s4.extBut _ _ D.TOi2 hTO3;refine gE (acV hTO4 rfl (gE (ae2 hTO4 fun g5 hTO5 s5=>?_)));replace hTO5:afg g5 TO x y:=hTO5;refine gE (afN (aaa (aaa (gE (acV hTO5 rfl (gE (aer ?_)))))));have hsz:g5.objs.size=s.heap.objs.size:=by rw[s5.1,s4.1,s3.1,s2.1,s1.1]
 have hz5:IsZip g5 z TI TO .ellipsis:=s5.extBut _ _ D.TOz.symm (s4.extBut _ _ D.i2z.symm (s3.extBut _ _ D.TOz.symm (s2.extBut _ _ D.i1z.symm hz1)));have k5:∀c o,c∉[z,TO,i1,i2]->s.heap.get? c=some o->g5.get? c=some o:=fun c o hc e=>by
  simp only[aas,aa3,not_or,or_false]at hc;exact s5.extBut _ _ hc.2.1 (s4.extBut _ _ hc.2.2.2 (s3.extBut _ _ hc.2.1 (s2.extBut _ _ hc.2.2.1 (s1.extBut _ _ hc.1 e))))
 have n15:SubI t1 g5 i1 l1 (k+1):=((n1.ext s3.extBut D.TOi1.symm).ext s4.extBut D.i12).ext s5.extBut D.TOi1.symm;have n25:SubI t2 g5 i2 l2 (k+1):=n2.ext s5.extBut D.TOi2.symm;have zlt:z<g5.objs.size:=aak hz5;refine gE (m:=acL (.ref z) (.ref g5.objs.size)) ?_;have hz6:IsZip (g5.push {cls:=.type "tuple",data:=.seq #[x,y]}) z TI TO .ellipsis:=Io _ hz5;refine gE (m:=acK (.ref z) 0 _) (aaD hz6 (by simp) fun g7 hz7 s7=>?_);replace hz7:IsZip g7 z TI TO (adj g5.objs.size):=hz7;refine aaD hz7 (by simp) fun g8 hz8 s8=>?_;replace hz8:IsZip g8 z TI TO (adj g5.objs.size):=hz8;have up:∀c o,c≠z->g5.get? c=some o->g8.get? c=some o:=fun c o c1 e=>s8.extBut _ _ c1 (s7.extBut _ _ c1 (Io _ e));have hT8:afg g8 g5.objs.size x y:=s8.extBut _ _ (abv zlt) (s7.extBut _ _ (abv zlt) (aal _ rfl));have z8:g8.objs.size=g5.objs.size+1:=by rw[s8.1,s7.1,abB]
 rw[hsz]at hz8 hT8 z8;have fin:wpAny (model prog w) A (pure (some (acS g5.objs.size))) Q E {s with heap:=g8}:=by
  rw[hsz];exact aaa (hQ g8 hz8 (up _ _ D.TOz hTO5) (n15.keep fun o e=>up _ o D.i1z e) (n25.keep fun o e=>up _ o D.i2z e) hT8 z8 fun c o hc e=>up c o (fun q=>hc (by simp[q])) (k5 c o hc e))
 exact aaa ⟨_,rfl,fin⟩
theorem Fw{TI TO:Addr}{k:Nat}{Q:Option GE->aab->Prop}(hh:A.handled=none)(D0:Apart z TI TO i1 i2 l1 l2)(Z:y7 t1 t2 z TI TO i1 i2 l1 l2 k s.heap)
  (hl1:SubS t1 s.heap l1 xs) (hl2:SubS t2 s.heap l2 ys) (hend:xs[k]?=none\/ys[k]?=none)
  (hQ:∀h',(∀c o,c∉[z,TO,i1,i2]->s.heap.get? c=some o->h'.get? c=some o)->Q none {s with heap:=h' }):wpAny (model prog w) A (acj (.ref z)) Q E s:=by
 have D:=D0.old;obtain⟨hz,hTI,⟨a,b,hTO⟩,h1,h2⟩:=Z;have hT:s.TypeIs (.ref z) "zip" :=(⟨_,hz,rfl⟩);have out:∀{c:Addr},c∉[z,TO,i1,i2]->c≠z/\c≠TO/\c≠i1/\c≠i2:=fun hc=>by simpa only[aas,aa3,not_or,or_false]using hc
 have fin:∀h' e,(∀c o,c∉[z,TO,i1,i2]->s.heap.get? c=some o->h'.get? c=some o)->(∃o,h'.get? e=some o/\o.cls = .type "StopIteration") ->
   wpAny (model prog w) A (do if <- isInstance (.ref e) (.type "StopIteration")then pure none else throw (.ref e):Sem (Option GE)) Q E {s with heap:=h' }:=fun h' e hk ⟨o,ho,hc⟩ =>
  gE (acq (T := "StopIteration") (b:=true) ⟨o,ho,hc⟩ aes (aaa (hQ _ hk)))
 unfold acj;refine gE (acu (aaP (name:=abI "__next__") hT afh (aaT afh hT F.entry_zip_next ?_ (F.args_zip_next_1 _))));refine gE (m:=field (.ref z) 2) (zf2 hz (gE (m:=field (.ref z) 3) (zf3 hz (gE (acV hTI rfl ?_)))));refine gE (m:=ab1 (.ref z)) (gE (m:=field (.ref z) 0) (zf0 hz (aaa ?_)));simp only[if_true];refine gE (acU (gE (abf hz rfl (x:=.ref TO) rfl (gE (aaD hz (by simp) fun g1 hz1 s1=>?_)))));replace hz1:IsZip g1 z TI TO .ellipsis:=hz1;refine gE ?_;simp only[afe,List.forIn_nil,ahT,List.zipIdx_nil];refine gE (gE (afR (gE (m:=abT (.ref i1)) ?_)))
 cases hx:xs[k]? with
 |none =>
  refine(qM hh (h1.ext s1.extBut D.i1z) (hl1.ext s1.extBut D.l1z) hx fun g2 e s2 he=>?_);obtain⟨oe,hoe,hce⟩:=he;have hz2:IsZip g2 z TI TO .ellipsis:=s2 _ _ D.i1z.symm hz1;have hez:e≠z:=fun q=>by subst q;rw[hz2]at hoe;cases hoe;simp at hce
  refine aaD hz2 (by simp) fun g3 _ s3=>fin g3 e (fun c o hc q=>?_) ⟨oe,s3.extBut _ _ hez hoe,hce⟩;obtain⟨c1,_,c3,_⟩:=out hc;exact s3.extBut _ _ c1 (s2 _ _ c3 (s1.extBut _ _ c1 q))
 |some x =>
  have hy:ys[k]?=none:=by rcases hend with q|q;rw[hx]at q;cases q;exact q
  refine(jt (h1.ext s1.extBut D.i1z) (hl1.ext s1.extBut D.l1z) hx fun g2 n1 s2=>aaa ?_);have hTO2:afg g2 TO a b:=s2.extBut _ _ D.TOi1 (s1.extBut _ _ D.TOz hTO);refine gE (acV hTO2 rfl (gE (ae2 hTO2 fun g3 hTO3 s3=>?_)));refine gE (afN (aaa (gE (gE (afR ?_)))));refine gE (m:=abT (.ref i2)) (qM hh (((h2.ext s1.extBut D.i2z).ext s2.extBut D.i12.symm).ext s3.extBut D.TOi2.symm) (((hl2.ext s1.extBut D.l2z).ext s2.extBut D.l2i1).ext s3.extBut D.l2TO) hy fun g4 e s4 he=>?_);obtain⟨oe,hoe,hce⟩:=he;have hz4:IsZip g4 z TI TO .ellipsis:=s4 _ _ D.i2z.symm (s3.extBut _ _ D.TOz.symm (s2.extBut _ _ D.i1z.symm hz1));have hez:e≠z:=fun q=>by subst q;rw[hz4]at hoe;cases hoe;simp at hce
  refine aaD hz4 (by simp) fun g5 _ s5=>fin g5 e (fun c o hc q=>?_) ⟨oe,s5.extBut _ _ hez hoe,hce⟩;obtain⟨c1,c2,c3,c4⟩:=out hc;exact s5.extBut _ _ c1 (s4 _ _ c4 (s3.extBut _ _ c2 (s2.extBut _ _ c3 (s1.extBut _ _ c1 q))))
end
def zit(t:Bool):String:=if t then "tuple_iterator" else "list_iterator"
abbrev itO(t:Bool)(l:Addr):Obj:={cls:=.type (zit t),data:=.fields #[.ref l,.int 0 0]}
abbrev zA(t1:Bool)(h:aa6)(l1:Addr):aa6:=h.push (itO t1 l1)
abbrev zB(t1 t2:Bool)(h:aa6)(l1 l2:Addr):aa6:=(zA t1 h l1).push (itO t2 l2)
abbrev zC(t1 t2:Bool)(h:aa6)(l1 l2:Addr):aa6:=(zB t1 t2 h l1 l2).push {cls:=.type "tuple",data:=.seq #[.ref h.objs.size,.ref (zA t1 h l1).objs.size]}
abbrev zD(t1 t2:Bool)(h:aa6)(l1 l2:Addr):aa6:=(zC t1 t2 h l1 l2).push {cls:=.type "tuple",data:=.seq #[.none,.none]}
abbrev zE(t1 t2:Bool)(h:aa6)(l1 l2:Addr):aa6:=(zD t1 t2 h l1 l2).push {cls:=.type "zip",data:=.fields #[.none,.bool false,.bool false,.ref (zB t1 t2 h l1 l2).objs.size,.ref (zC t1 t2 h l1 l2).objs.size]}
theorem c9{prog:aaZ}{w:World}{A:abz}{E:GE->aab->Prop}{s:aab}(h:SubS t s.heap l its)
  (hQ:Q (.ref s.heap.objs.size) {s with heap:=s.heap.push (itO t l)}):wpAny (model prog w) A (afb (.ref l)) Q E s:=by
 cases t
 .exact wpAny_pyIter_list (show s.heap.IsList l its from h) hQ
 .exact wpAny_pyIter_tuple (show s.heap.IsTuple l its from h) hQ
theorem DH(t1 t2:Bool)(l1 l2:Addr)(xs ys:Array GE) :
  Meets (acM.«zip.__new__» ⟨[.type "zip",.ref l1,.ref l2],[]⟩) (fun _ R s=>SubS t1 s.heap l1 xs/\SubS t2 s.heap l2 ys/\R (.ok (.ret (.ref (zD t1 t2 s.heap l1 l2).objs.size))) {s with heap:=zE t1 t2 s.heap l1 l2}) :=
 .of_wp fun prog w A R s h=>by
  rcases s with⟨hp,g,d,tk,os⟩;rcases h with⟨hl1,hl2,h⟩;have hsub:=sub_zip;have hL1:SubS t1 (ahY ⟨hp,g,d,tk,os⟩) l1 xs:=hl1;have hL2:SubS t2 (ahY ⟨hp.push (itO t1 l1),g,d,tk,os⟩) l2 ys:=hl2.keep fun o e=>Io _ e
  wp_walk using c9 hL1,c9 hL2
  exact⟨_,rfl,h⟩
section
variable {prog:aaZ}{w:World}{A:abz}{E:GE->aab->Prop}{s:aab}
theorem Ab(hl1:SubS t1 s.heap l1 xs)(hl2:SubS t2 s.heap l2 ys)
  (h:∀h',y7 t1 t2 (s.heap.objs.size+4) (s.heap.objs.size+2) (s.heap.objs.size+3) s.heap.objs.size (s.heap.objs.size+1) l1 l2 0 h'->(∀c o,s.heap.get? c=some o->h'.get? c=some o)->Q (.ref (s.heap.objs.size+4)) {s with heap:=h' }):wpAny (model prog w) A (call (.type "zip") [.ref l1,.ref l2]) Q E s:=by
 refine callType_new F.called_zip (by decide) (F.typeCall_zip_2 _ _) (F.newCall_zip_2 _ _) (fun obj=>F.args_object_init_3 obj _ _) F.entry_zip_new (DH t1 t2 l1 l2 xs ys) ⟨hl1,hl2,?_⟩;have z1:(zA t1 s.heap l1).objs.size=s.heap.objs.size+1:=abB ..;have z2:(zB t1 t2 s.heap l1 l2).objs.size=s.heap.objs.size+2:=by rw[abB,z1]
 have z3:(zC t1 t2 s.heap l1 l2).objs.size=s.heap.objs.size+3:=by rw[abB,z2]
 have z4:(zD t1 t2 s.heap l1 l2).objs.size=s.heap.objs.size+4:=by rw[abB,z3]
 have up1:∀c o,(zD t1 t2 s.heap l1 l2).get? c=some o->(zE t1 t2 s.heap l1 l2).get? c=some o:=fun c o e=>Io _ e;have up2:∀c o,(zC t1 t2 s.heap l1 l2).get? c=some o->(zE t1 t2 s.heap l1 l2).get? c=some o:=fun c o e=>up1 c o (Io _ e);have up3:∀c o,(zB t1 t2 s.heap l1 l2).get? c=some o->(zE t1 t2 s.heap l1 l2).get? c=some o:=fun c o e=>up2 c o (Io _ e);have up4:∀c o,(zA t1 s.heap l1).get? c=some o->(zE t1 t2 s.heap l1 l2).get? c=some o:=fun c o e=>up3 c o (Io _ e);have g5:(zE t1 t2 s.heap l1 l2).get? (s.heap.objs.size+4)=some {cls:=.type "zip",data:=.fields #[.none,.bool false,.bool false,.ref (s.heap.objs.size+2),.ref (s.heap.objs.size+3)]}:=by
  rw[<-z4,<-z3,<-z2];exact aal _ rfl
 have g4:(zE t1 t2 s.heap l1 l2).get? (s.heap.objs.size+3)=some {cls:=.type "tuple",data:=.seq #[.none,.none]}:=by
  rw[<-z3];exact up1 _ _ (aal _ rfl)
 have g3:(zE t1 t2 s.heap l1 l2).get? (s.heap.objs.size+2)=some {cls:=.type "tuple",data:=.seq #[.ref s.heap.objs.size,.ref (s.heap.objs.size+1)]}:=by
  rw[<-z2,<-z1];exact up2 _ _ (aal _ rfl)
 have g2:(zE t1 t2 s.heap l1 l2).get? (s.heap.objs.size+1)=some (itO t2 l2):=by
  rw[<-z1];exact up3 _ _ (aal _ rfl)
 have g1:(zE t1 t2 s.heap l1 l2).get? s.heap.objs.size=some (itO t1 l1):=up4 _ _ (aal _ rfl);have sub:∀{t:Bool}{i l:Addr},(zE t1 t2 s.heap l1 l2).get? i=some (itO t l)->SubI t (zE t1 t2 s.heap l1 l2) i l 0:=fun {t i l} e=>by
  cases t
  .exact⟨_,e,rfl,rfl⟩
  .exact⟨_,e,rfl,rfl⟩
 show _/\_;rw[z4];exact⟨⟨_,g5,rfl⟩,h _ ⟨g5,g3,⟨_,_,g4⟩,sub g1,sub g2⟩ fun c o x=>up4 c o (Io _ x)⟩
end
theorem wy{l1 l2:Nat}(h1:l1<n)(h2:l2<n):Apart (n+4) (n+2) (n+3) n (n+1) l1 l2 where
 d:=by
  show acf ([n+4,n+2,n+3,n,n+1]:List Nat);simp only[abc,aas,aa3,or_false,not_or,adm,and_true,not_false_eq_true];omega
 m1:=by
  show ¬(l1∈([n+4,n+2,n+3,n,n+1]:List Nat));simp only[aas,aa3,or_false,not_or];omega
 m2:=by
  show ¬(l2∈([n+4,n+2,n+3,n,n+1]:List Nat));simp only[aas,aa3,or_false,not_or];omega
def SqB(t:Bool)(K:aaj)(H:Hp)(a:Addr)(xs:List V):Prop:=if t then SqT K H a xs else SqL K H a xs
def Itz(t1 t2:Bool)(K:aaj)(a b:Addr):It where
 go:=fun i H=>∃xs ys x y,SqB t1 K H a xs/\SqB t2 K H b ys/\xs[i]?=some x/\ys[i]?=some y
 yld:=fun i H v H'=>∃T x y,v = .ref T/\H T=none/\H'=upd H T (.tup [x,y])/\(∀xs,SqB t1 K H a xs->xs[i]?=some x)/\∀ys,SqB t2 K H b ys->ys[i]?=some y
 stop:=fun i H=>∃xs ys,SqB t1 K H a xs/\SqB t2 K H b ys/\(xs.length≤i\/ys.length≤i)
theorem Inv.sqb{s:aab}{xs:List V}(I:Inv X pins σ H s)(h:SqB t X.kx H a xs):∃its:List GE,Vals xs its/\SubS t s.heap a its.toArray/\xs.length≤aam:=by
 cases t
 .obtain⟨its,r,p,z⟩:=I.list (show SqL X.kx H a xs from h);exact⟨its,r,p.isList,z⟩
 .obtain⟨its,r,p,z⟩:=I.tuple (show SqT X.kx H a xs from h);exact⟨its,r,p,z⟩
theorem Inv.sqb_inj{s:aab}{xs ys:List V}(I:Inv X pins σ H s)(h:SqB t X.kx H a xs)(h':SqB t X.kx H a ys):xs=ys:=by
 cases t
 .exact I.list_inj (show SqL X.kx H a xs from h) (show SqL X.kx H a ys from h')
 .exact I.tuple_inj (show SqT X.kx H a xs from h) (show SqT X.kx H a ys from h')
theorem zP{P:aaZ}{w:World}{K:aaj}{x1:Nat}{pos:Pos}{TI TO:Addr}(D:Apart z TI TO i1 i2 a b):Turn P w K (.Tuple elts x1 pos) (Itz t1 t2 K a b) [z,TI,TO,i1,i2] z (fun i h=>y7 t1 t2 z TI TO i1 i2 a b i h) where
 mem:=by simp
 obj:=fun i h st c hc=>by
  obtain⟨hz,hTI,⟨u,v,hTO⟩,h1,h2⟩:=st;simp only[aas,aa3,or_false]at hc;rcases hc with rfl|rfl|rfl|rfl|rfl
  .exact⟨_,hz,fun v q=>by cases q⟩
  .exact⟨_,hTI,fun v q=>by cases q⟩
  .exact⟨_,hTO,fun v q=>by cases q⟩
  .obtain⟨o,vs,e,d⟩:=h1.obj;exact⟨o,e,fun v q=>by rw[d]at q;cases q⟩
  .obtain⟨o,vs,e,d⟩:=h2.obj;exact⟨o,e,fun v q=>by rw[d]at q;cases q⟩
 keep:=fun i h h' st k=>by
  obtain⟨hz,hTI,⟨u,v,hTO⟩,h1,h2⟩:=st;exact⟨k z (by simp) _ hz,k TI (by simp) _ hTI,⟨u,v,k TO (by simp) _ hTO⟩,h1.keep fun o e=>k i1 (by simp) o e,h2.keep fun o e=>k i2 (by simp) o e⟩
 item:=by
  intro X hP hw hK hc i pins s σ H E I hf st hg;subst hP hw hK;obtain⟨xs,ys,x,y,hq1,hq2,hx,hy⟩:=hg;obtain⟨its1,rv1,p1,_⟩:=I.sqb hq1;obtain⟨its2,rv2,p2,_⟩:=I.sqb hq2;obtain⟨u1,e1,ru1⟩:=rv1.get hx;obtain⟨u2,e2,ru2⟩:=rv2.get hy;refine Ac D st p1 p2 (x:=u1) (y:=u2) (by simpa using e1) (by simpa using e2) fun h' a1 a2 a3 a4 a5 a6 a7=>⟨.ref s.heap.objs.size,rfl,?_⟩;refine wpAny_letOwnedTupleGo_zip (s:={s with heap:=h' }) a1 fun h2 b1 sb=>?_;have hfT:H s.heap.objs.size=none:=I.hok.fresh (aac _);have sfp:∀c∈[z,TI,TO,i1,i2],c<s.heap.objs.size:=fun c hc=>by
   obtain⟨hz,hTI,⟨u,v,hTO⟩,h1,h2⟩:=st;simp only[aas,aa3,or_false]at hc;rcases hc with rfl|rfl|rfl|rfl|rfl
   .exact aak hz
   .exact aak hTI
   .exact aak hTO
   .obtain⟨o,vs,e,d⟩:=h1.obj;exact aak e
   .obtain⟨o,vs,e,d⟩:=h2.obj;exact aak e
  have nz:∀c∈[z,TI,TO,i1,i2],c≠s.heap.objs.size:=fun c hc=>aa4 (sfp c hc);have dd:=D.old;have up:∀c o,c≠z->h'.get? c=some o->h2.get? c=some o:=fun c o n e=>sb.extBut c o n e;have T2:afg h2 s.heap.objs.size u1 u2:=up _ _ (abt (nz z (by simp))) a5;have I0:Inv X pins σ (upd H s.heap.objs.size (.tup [x,y])) {s with heap:=s.heap.push {cls:=.type "tuple",data:=.seq #[u1,u2]},toks:=s.toks} :=
   I.laid (o:=.tup [x,y]) (fun c o e=>Io _ e) (aac _) ⟨by show 2≤aam;rw[aaq];decide,[u1,u2],.cons ru1 (.cons ru2 .nil),PlainT.new _ _⟩
  have Il:Inv X pins σ (upd H s.heap.objs.size (.tup [x,y])) {s with heap:=h2,toks:=s.toks}:=by
   refine Inv.turneds (s:={s with heap:=s.heap.push {cls:=.type "tuple",data:=.seq #[u1,u2]},toks:=s.toks}) (h':=h2) (t':=s.toks) (ch:=[z,TI,TO,i1,i2]) I0 (fun c o hc e=>?_) fun c hc=>?_
   .rcases ae3 e with⟨rfl,rfl⟩|e
    .exact T2
    .exact up c o (fun q=>hc (by simp[q])) (a7 c o (fun q=>hc (by simp only[aas,aa3,or_false]at q⊢;rcases q with q|q|q|q<;>simp[q])) e)
   .obtain⟨f0,f1⟩:=hf c hc;exact⟨by rw[ap (nz c hc)];exact f0,f1⟩
  refine⟨.ref s.heap.objs.size,upd H s.heap.objs.size (.tup [x,y]),Il,rfl,⟨_,x,y,rfl,hfT,rfl,fun zs hz=>by rw[I.sqb_inj hz hq1];exact hx,fun zs hz=>by rw[I.sqb_inj hz hq2];exact hy⟩,⟨b1,up _ _ dd.TIz (a7 _ _ (by simp only[aas,aa3,or_false,not_or];exact⟨dd.TIz,dd.TITO,dd.TIi1,dd.TIi2⟩) st.ti),⟨_,_,up _ _ dd.TOz a2⟩,a3.keep fun o e=>up _ o dd.i1z e,a4.keep fun o e=>up _ o dd.i2z e⟩,fun c hc=>?_⟩;rw[ap (nz c hc)];exact(hf c hc).1
 done:=by
  intro X hP hw hK hc i pins s σ H E I hf st hg;subst hP hw hK;obtain⟨xs,ys,hq1,hq2,he⟩:=hg;obtain⟨its1,rv1,p1,_⟩:=I.sqb hq1;obtain⟨its2,rv2,p2,_⟩:=I.sqb hq2;have l1:=rv1.length;have l2:=rv2.length;refine Fw (I.ok.hd hc) D st p1 p2 (by rcases he with q|q;(left;simp;omega);(right;simp;omega)) fun h' hk=>⟨rfl,I.turneds (t':=s.toks) (ch:=[z,TI,TO,i1,i2]) (fun c o hc e=>hk c o (fun q=>hc (by simp only[aas,aa3,or_false]at q⊢;rcases q with q|q|q|q<;>simp[q])) e) hf⟩
 self:=fun _ _ _ _ _ st h=>wpAny_pyIter_zip st.z h
section
variable {X:Cx}{elts:List Expr}{x1:Nat}{tpos:Pos}{a b:Expr}{ws:WA}{p pos:Pos}
def iZip(K:aaj)(ta:TA):TI:=fun σ H Rq=>ta σ H fun vs H1=>∃t1 t2 l1 l2,vs=[.ref l1,.ref l2]/\(∃xs,SqB t1 K H1 l1 xs)/\(∃ys,SqB t2 K H1 l2 ys)/\Rq (Itz t1 t2 K l1 l2) H1
theorem D9:abh "zip" = some (.type "zip"):=by decide +kernel
theorem Im{ta:TA}(hg:Gl X "zip")(hm:X.mg "zip" = none)(ha:PA X [a,b] ta)(hs:aan [a,b] X.env=[(false,eval a X.env),(false,eval b X.env)]:=by first|exact(aY rfl).trans (congrArg _ (cu rfl))|rfl)(hs2:aan [b] X.env=[(false,eval b X.env)]:=by first|exact cu rfl|rfl):PI X (.Tuple elts x1 tpos) (.Call (.Name "zip" p) [a,b] [] pos) (iZip X.K ta):=by
 intro pins s σ H Rq I h;refine Call_ (kZ I hg hm D9 (acN (thn (ha pos pins s σ H _ I h) fun us s1 ⟨vs,H1,I1,r1,q1⟩=>?_) (by rw[hs,hs2]) (by rw[hs2];rfl)));obtain⟨t1,t2,l1,l2,e,⟨xs,h1⟩,⟨ys,h2⟩,q⟩:=q1;subst e
 cases r1 with
 | cons r rr =>
  cases rr with
  | cons r' rr =>
   cases rr;cases r;cases r';obtain⟨its1,rv1,p1,_⟩:=I1.sqb h1;obtain⟨its2,rv2,p2,_⟩:=I1.sqb h2;refine Ab p1 p2 fun h' Z hk=>?_;refine wpAny_pyIter_zip Z.z ?_;have lt:∀{t:Bool}{l:Addr}{its:Array GE},SubS t s1.heap l its->l<s1.heap.objs.size:=fun {t l its} p=>by
    cases t
    .obtain⟨o,e,_⟩:=(show s1.heap.IsList l its from p);exact aak e
    .obtain⟨o,e,_⟩:=(show s1.heap.IsTuple l its from p);exact aak e
   refine⟨s1.heap.objs.size+4,_,_,_,H1,rfl,I1.kept (t':=s1.toks) hk,zP (wy (lt p1) (lt p2)),Z,fun c hc=>?_,q⟩;have hle:s1.heap.objs.size≤c:=by
    have hc':c∈([s1.heap.objs.size+4,s1.heap.objs.size+2,s1.heap.objs.size+3,s1.heap.objs.size,s1.heap.objs.size+1]:List Nat):=hc;simp only[aas,aa3,or_false]at hc';rcases hc' with rfl|rfl|rfl|rfl|rfl<;>first|exact acr _ _|exact aac _
   exact I1.fpOk hle (I1.hok.fresh hle)
def imS:R->Option (Bool×List iO)
 | .imm (.tuple ds)=>some (true,ds)
 | .imm (.list ds)=>some (false,ds)
 |_=>none
def zipD(ds es:List iO):List iO:=(ds.zip es).map fun p=>.tuple [p.1,p.2]
def Ia(ws:WA):WI:=fun m K=>ws m fun rs m'=>match rs with|[r1,r2]=>∃t1 ds t2 es,imS r1=some (t1,ds)/\imS r2=some (t2,es)/\K ⟨zipD ds es,none⟩ m'|_=>False
theorem vH{K:Kd}{α:Al}{H0:Hp}{r:R}{v:V}(h:RelR K α H0 H r v)(e:imS r=some (t,ds)):∃l xs,v = .ref l/\DenAll K H ds xs/\(SqB t K H l xs)/\∀H1,Pers H H1->SqB t K H1 l xs:=by
 unfold imS at e
 split at e
 .cases e;obtain⟨l,xs,e,f,g⟩:=bF (show Den K H (.tuple ds) v from h);exact⟨l,xs,e,g,f,fun H1 p=>f.mono p⟩
 .cases e;have h':Den K H (.list ds) v:=h;simp only[Den]at h';obtain⟨l,xs,e,f,g⟩:=h';exact⟨l,xs,e,g,f.sq,fun H1 p=>(f.mono p).sq⟩
 .cases e
theorem e9(ds es:List iO):(zipD ds es).length=min ds.length es.length:=by simp[zipD]
theorem sX{d e:iO}(h1:ds[i]?=some d)(h2:es[i]?=some e):(zipD ds es)[i]?=some (.tuple [d,e]):=by
 unfold zipD;rw[aae,(List.getElem?_zip_eq_some (z:=(d,e))).mpr ⟨h1,h2⟩];rfl
theorem wks_zip{K:Kd}:Wks K (Itz t1 t2 K l1 l2) (zipD ds es) fun H=>∃xs ys,SqB t1 K H l1 xs/\SqB t2 K H l2 ys/\DenAll K H ds xs/\DenAll K H es ys where
 stop:=fun H ⟨xs,ys,q1,q2,g1,g2⟩=>⟨xs,ys,q1,q2,by rw[e9,<-g1.length,<-g2.length];omega⟩
 go:=fun i H hi ⟨xs,ys,q1,q2,g1,g2⟩=>by
  rw[e9]at hi;exact⟨xs,ys,xs[i]'(by rw[<-g1.length];omega),ys[i]'(by rw[<-g2.length];omega),q1,q2,oR _,oR _⟩
 yld:=fun i H x H' hi ⟨xs,ys,q1,q2,g1,g2⟩ y=>by
  obtain⟨T,u,v,rfl,hT,rfl,e1,e2⟩:=y;obtain⟨d,h1,k1⟩:=g1.get2 (e1 xs q1);obtain⟨e,h2,k2⟩:=g2.get2 (e2 ys q2);have gr:∀b o,H b=some o->upd H T (.tup [u,v]) b=some o:=fun b o q=>by rw[ap (bf q hT)];exact q
  have pe:Pers H (upd H T (.tup [u,v])):=⟨fun b xs q=>gr b _ q,fun b o u q=>gr b _ q⟩;refine⟨gr,_,sX h1 h2,?_⟩;exact cP (SqT.of aw) (DenAll.cons (k1.mono pe) (DenAll.cons (k2.mono pe) DenAll.nil))
theorem Ii(hm:X.mg "zip" = none)(ha:MA X [a,b] ws)(hg:Gl X "zip" :=by rfl)(hs:aan [a,b] X.env=[(false,eval a X.env),(false,eval b X.env)]:=by first|exact(aY rfl).trans (congrArg _ (cu rfl))|rfl)(hs2:aan [b] X.env=[(false,eval b X.env)]:=by first|exact cu rfl|rfl):MI X (.Tuple elts x1 tpos) (.Call (.Name "zip" p) [a,b] [] pos) (Ia ws):=(Im hg hm ha hs hs2).wk fun σ H Rq ⟨α,m,Kc,Rl,hw,fin⟩=>by
 refine⟨α,m,_,Rl,hw,fun rs m' vs H' k n Rl' rr F=>?_⟩
 cases rr with
 |nil=>exact k.elim
 |cons h1 rr =>
  cases rr with
  |nil=>exact k.elim
  |cons h2 rr =>
  cases rr with
  |cons _ _=>exact k.elim
  |nil =>
  obtain⟨t1,ds,t2,es,e1,e2,k⟩:=k;obtain⟨l1,xs,rfl,g1,q1,p1⟩:=vH h1 e1;obtain⟨l2,ys,rfl,g2,q2,p2⟩:=vH h2 e2;refine⟨t1,t2,l1,l2,rfl,⟨xs,q1⟩,⟨ys,q2⟩,fin _ m' _ H' k n Rl' F ⟨fun H=>∃xs ys,SqB t1 X.kx H l1 xs/\SqB t2 X.kx H l2 ys/\DenAll X.kx H ds xs/\DenAll X.kx H es ys/\(∀H1,Pers H H1->SqB t1 X.kx H1 l1 xs)/\∀H1,Pers H H1->SqB t2 X.kx H1 l2 ys,wks_zip.imp fun H ⟨xs,ys,a,b,c,d,_⟩=>⟨xs,ys,a,b,c,d⟩,⟨xs,ys,q1,q2,g1,g2,p1,p2⟩,fun Ha Hb ⟨xs,ys,a,b,c,d,pa,pb⟩ pe=>⟨xs,ys,pa Hb pe,pb Hb pe,c.mono pe,d.mono pe,fun H1 p=>pa H1 (pe.trans p),fun H1 p=>pb H1 (pe.trans p)⟩⟩⟩
theorem Oy{m:MSt}{Ks:Src->MSt->Prop}(h:ws m fun rs m'=>match rs with|[r1,r2]=>∃t1 ds t2 es,imS r1=some (t1,ds)/\imS r2=some (t2,es)/\Ks ⟨zipD ds es,none⟩ m'|_=>False):Ia ws m Ks:=h
end
theorem GJ{x1:Nat}{tpos:Pos}{a b:Expr}{ws:WA}{p pos:Pos}(hm:X.mg "zip" = none)(ha:EA X [a,b] ws)(hg:Gl X "zip" :=by rfl)(hs:aan [a,b] X.env=[(false,eval a X.env),(false,eval b X.env)]:=by first|exact(aY rfl).trans (congrArg _ (cu rfl))|rfl)(hs2:aan [b] X.env=[(false,eval b X.env)]:=by first|exact cu rfl|rfl):EI X (.Tuple elts x1 tpos) (.Call (.Name "zip" p) [a,b] [] pos) (Ia ws):=⟨Ii hm ha.h hg hs hs2⟩
theorem gmap{α β:Type}{xs:List α}{y:β}{f:α->β}(h:(xs.map f)[i]?=some y):∃x,xs[i]?=some x/\y=f x/\i<xs.length:=by
 rw[aae]at h
 cases q:xs[i]? with
 |none=>rw[q]at h;cases h
 |some x=>rw[q]at h;exact⟨x,rfl,(aai h).symm,(aad.mp q).1⟩
theorem bX{lo:Int}{d:iO}(h:(gg lo n)[i]?=some d):i<n/\d = .int (lo+(i:Int)):=by
 have hi:i<n:=by
  have:=(aad.mp h).1;rwa[aF]at this
 rw[iy hi]at h;exact⟨hi,(aai h).symm⟩
theorem oZ{k:Nat}{P:MSt->Prop}{m:MSt}(ρ:List Nat)(m2:MSt)(N:Ren ρ (m.setV n (.obj k)) m2)(h:P m2):o6 n P m (.obj k):=.inr ⟨ρ,m2,N,h⟩
def RenO(ρ:List Nat)(o:Option R):Option R->Prop
 |none=>True
 |some r=>RenR ρ (some o) r
def RenVs(ρ:List Nat):List (Option R)->List (Option R)->Prop
 |o::os,q::qs=>RenO ρ o q/\RenVs ρ os qs
 |[],[]=>True
 |_,_=>False
theorem RenVs.len{ρ:List Nat}:∀{os qs:List (Option R)},RenVs ρ os qs->qs.length=os.length
 |[],[],_=>rfl
 |_::_,_::_,h=>congrArg (· + 1) (RenVs.len h.2)
 |[],_::_,h=>h.elim
 |_::_,[],h=>h.elim
theorem RenVs.get{ρ:List Nat}:∀{os qs:List (Option R)},RenVs ρ os qs->∀(j:Nat) (r:R),qs[j]?=some (some r)->RenR ρ os[j]? r
 |o::os,q::qs,h,0,r,e=>by
  have e':q=some r:=by simpa using e
  subst e';exact h.1
 |o::os,q::qs,h,j+1,r,e=>by simpa using RenVs.get h.2 j r (by simpa using e)
 |[],[],_,_,_,e=>by simp at e
 |[],_::_,h,_,_,_=>h.elim
 |_::_,[],h,_,_,_=>h.elim
theorem Cp{ρ:List Nat}{m m2:MSt}(nd:decide ρ.Nodup=true)(lt:(ρ.all fun k=>Nat.blt k m.os.length)=true)(pre:ρ.take m.np=aaI m.np)(npl:Nat.ble m.np ρ.length=true)(os:m2.os=ρ.map fun k=>m.os.getD k [])(np:m2.np=m.np)(vs:RenVs ρ m.vs m2.vs):Ren ρ m m2 :=
 ⟨of_decide_eq_true nd,fun k hk=>Nat.blt_eq.mp (ab7.mp lt k hk),pre,aeF npl,os,np,vs.len,fun j r e=>vs.get j r e⟩
theorem Df{d:iO}(h:(zipD ds es)[i]?=some d):∃a b,ds[i]?=some a/\es[i]?=some b/\d = .tuple [a,b]:=by
 obtain⟨p,h1,rfl,_⟩:=gmap h;obtain⟨h2,h3⟩:=List.getElem?_zip_eq_some.mp h1;exact⟨p.1,p.2,h2,h3,rfl⟩
theorem t6{x:Str}(h:(aeM x).shown.length≤40):Fine 40 0 (.str x):=⟨rfl,rfl,h,aac _⟩
end L2
namespace M3
def stepL(xs:List (List Nat))(r:Nat):List (List Nat):=xs.flatMap fun a=>(aaI (r+1)).map fun k=>a++[k]
def allL(rs:List Nat):List (List Nat):=rs.foldl stepL [[]]
def allR:List Nat->List (List Nat)
 |[]=>[[]]
 |r::rs=>(aaI (r+1)).flatMap fun k=>(allR rs).map (k :: ·)
theorem pg:∀(rs:List Nat) (xs:List (List Nat)),rs.foldl stepL xs=xs.flatMap fun a=>(allR rs).map (a++·)
 |[],xs=>by
  simp[allR]
 |r::rs,xs=>by
  rw[adB,pg rs];simp only[stepL,allR,List.flatMap_assoc,List.map_flatMap,List.flatMap_map,abq]
  congr 1
  funext a
  congr 1
  funext k
  congr 1
  funext l
  simp
theorem allL_eq(rs:List Nat):allL rs=allR rs:=by
 unfold allL;rw[pg];simp
theorem allR_len:∀{rs l:List Nat},l∈allR rs->l.length=rs.length
 |[],l,h=>by simp[allR]at h;subst h;rfl
 |r::rs,l,h=>by
  simp only[allR,adk,aaA]at h;obtain⟨k,_,l',h,rfl⟩:=h;simp[allR_len h]
theorem stepL_length(xs:List (List Nat))(r:Nat):(stepL xs r).length=xs.length*(r+1):=by
 unfold stepL
 induction xs with
 |nil=>simp
 |cons a xs ih =>
  rw[List.flatMap_cons,aat,ih,Ge,aa2,aaL,adu];omega
theorem sG:∀{rs:List Nat}{xs:List (List Nat)},(∀r∈rs,r≤6)->(rs.foldl stepL xs).length≤xs.length*7^rs.length
 |[],xs,_=>by simp
 |r::rs,xs,h=>by
  rw[adB];refine aaF (sG fun r' h'=>h r' (aaf _ h')) ?_;rw[stepL_length,aaL,agq,ab2,ab4 (7^rs.length)];refine Nat.mul_le_mul_left _ (adN _ ?_);have:=h r aah;omega
theorem fold_small{rs:List Nat}(h4:rs.length≤4)(h:∀r∈rs,r≤6):(rs.foldl stepL [[]]).length≤2401:=by
 refine aaF (sG h) ?_;have:7^rs.length≤7^4:=adO (by decide) h4;simpa using this
theorem stepL_take{xs:List (List Nat)}{r j:Nat}{l:List Nat}(h:xs[j]?=some l):stepL (xs.take (j+1)) r=stepL (xs.take j) r++(aaI (r+1)).map fun y=>l++[y]:=by
 unfold stepL;rw[aa1,h,acJ];simp
end M3
set_option maxHeartbeats 4100000
namespace K
open PySem L2
variable{h:Hall}{l:List Nat}
def AM:SpM:=fun as K=>∃ns:List Int,as=[.imm (.list (ns.map .int))]/\ns.length≤63/\K (.imm (.bool true)) []
def frD(a b:Int):iO:=.tuple [.int a,.int b]
structure Srv where
 a:Nat
 b:Nat
 r:Nat
def Srv.d(s:Srv):iO:=.tuple [.tuple [.int s.a,.int s.b],.int s.r]
structure Srv.Ok(s:Srv):Prop where
 a1:1≤s.a
 a2:s.a<1000000
 b1:1≤s.b
 b2:s.b<1000000
 r1:1≤s.r
 r6:s.r≤6
structure Hall where
 a:Nat
 b:Nat
 ss:List Srv
 mv:Bool
def Hall.d(h:Hall):iO:=.tuple [.tuple [.int h.a,.int h.b],.tuple (h.ss.map Srv.d),.bool h.mv]
structure Hall.Ok(h:Hall):Prop where
 a1:1≤h.a
 a2:h.a<1000000
 b1:1≤h.b
 b2:h.b<1000000
 n1:1≤h.ss.length
 n4:h.ss.length≤4
 ok:∀s∈h.ss,s.Ok
def Hall.rs(h:Hall):List Nat:=h.ss.map Srv.r
theorem Hall.rsl(h:Hall):h.rs.length=h.ss.length:=by simp[Hall.rs]
theorem Hall.Ok.r6(o:h.Ok):∀r∈h.rs,r≤6:=fun r hr=>by
 obtain⟨s,hs,rfl⟩:=aaA.mp hr;exact(o.ok s hs).r6
theorem Hall.rs_get{i:Nat}{s:Srv}(e:h.ss[i]?=some s):h.rs[i]?=some s.r:=by simp[Hall.rs,e]
def prD(p:Nat×Nat):iO:=.tuple [.int (p.1:Int),.int (p.2:Int)]
def natD(l:List Nat):List iO:=l.map fun(k:Nat)=>.int (k:Int)
def lnD(l:List Nat):iO:=.tuple (natD l)
theorem ah(l:List Nat):(natD l).length=l.length:=by simp[natD]
theorem aE{i x:Nat}(h:l[i]?=some x):(natD l)[i]?=some (.int (x:Int)):=by simp[natD,h]
theorem lr(a b:List Nat):natD (a++b)=natD a++natD b:=by simp[natD]
def FH:SpM:=fun as K=>∃h:Hall,as=[.imm h.d]/\h.Ok/\K (.new ((M3.allR h.rs).map lnD)) []
theorem sD{a b:Nat}(h1:a<1000000000)(h2:b<1000000000):Fine 33 1 (frD a b):=by
 refine bm (n:=13) (k:=0) (c:=2) (fun d hd=>?_) (by simp);simp at hd;rcases hd with rfl|rfl
 .exact gN (by omega)
 .exact gN (by omega)
theorem Srv.Ok.fine{s:Srv}(o:s.Ok):Fine 73 2 s.d:=by
 refine bm (n:=33) (k:=1) (c:=2) (fun d hd=>?_) (by simp);simp at hd;rcases hd with rfl|rfl
 .exact sD (by have:=o.a2;omega) (by have:=o.b2;omega)
 .have:=o.r6;exact(gN (by omega)).mono (by decide) (by decide)
theorem Hall.Ok.fine(o:h.Ok):Fine 1000 4 h.d:=by
 have h1:Fine 303 3 (.tuple (h.ss.map Srv.d)):=(bm (n:=73) (k:=2) (c:=4) (fun d hd=>by
  obtain⟨s,hs,rfl⟩:=aaA.mp hd;exact(o.ok s hs).fine) (by rw[Ge];exact o.n4)).mono (by decide) (by decide)
 refine(bm (n:=303) (k:=3) (c:=3) (fun d hd=>?_) (by simp)).mono (by decide) (by decide);simp at hd;rcases hd with rfl|rfl|rfl
 .exact(sD (by have:=o.a2;omega) (by have:=o.b2;omega)).mono (by decide) (by decide)
 .exact h1
 .exact(yF _).mono (by decide) (by decide)
theorem pf{c:Nat}(hl:l.length≤c)(h:∀x∈l,x≤1000):Fine (c*15+3) 1 (lnD l):=by
 refine bm (n:=13) (k:=0) (c:=c) (fun d hd=>?_) (by simpa[natD]using hl);simp[natD]at hd;obtain⟨x,hx,rfl⟩:=hd;have:=h x hx;exact gN (by omega)
theorem yE(l:List Nat):Shp 1 (lnD l):=xg (k:=0) fun d hd=>by
 simp[natD]at hd;obtain⟨x,hx,rfl⟩:=hd;exact d8 _
inductive Rule where
 |random|turns|two|least|quick
 |told (ps:List Nat)
def Rule.word:Rule->Str
 | .random => "random" | .turns => "turns" | .two => "two" | .least => "least" | .quick => "quick" | .told _ => "told"
def Rule.d:Rule->iO
 | .told ps=>.tuple [.str "told",lnD ps]
 |r=>.tuple [.str r.word]
def Rule.Ok(h:Hall):Rule->Prop
 | .told ps=>ps.length=(M3.allR h.rs).length/\∀p∈ps,p<h.ss.length
 |_=>True
theorem kL{rs:List Nat}(h4:rs.length≤4)(h:∀r∈rs,r≤6):(M3.allR rs).length≤2401:=by
 rw[<-M3.allL_eq];exact M3.fold_small h4 h
theorem Rule.Ok.fine(o:h.Ok){r:Rule}(k:r.Ok h):Fine 80000 2 r.d:=by
 have w:∀x:Str,(aeM x).shown.length≤40->Fine 80000 2 (.tuple [.str x]):=fun x hx=>(bm (n:=40) (k:=0) (c:=1) (fun d hd=>by simp at hd;subst hd;exact t6 hx) (by simp)).mono (by decide) (by decide)
 cases r with
 |random=>exact w _ (by decide +kernel)
 |turns=>exact w _ (by decide +kernel)
 |two=>exact w _ (by decide +kernel)
 |least=>exact w _ (by decide +kernel)
 |quick=>exact w _ (by decide +kernel)
 |told ps =>
  obtain⟨k1,k2⟩:=k;have hl:ps.length≤2401:=by rw[k1];exact kL (by rw[h.rsl];exact o.n4) o.r6
  have f1:Fine 36018 1 (lnD ps):=pf hl fun x hx=>by have:=k2 x hx;have:=o.n4;omega
  refine(bm (n:=36018) (k:=1) (c:=2) (fun d hd=>?_) (by simp)).mono (by decide) (by decide);simp at hd;rcases hd with rfl|rfl
  .exact(t6 (by decide +kernel)).mono (by decide) (by decide)
  .exact f1
def Lines(h:Hall)(l:List Nat):Prop:=l.length=h.ss.length/\∀(i:Nat) s x,h.ss[i]?=some s->l[i]?=some x->x≤s.r
theorem Lines.le(o:h.Ok)(k:Lines h l):∀x∈l,x≤6:=fun x hx=>by
 obtain⟨i,hi,rfl⟩:=abx.mp hx;have hi':i<h.ss.length:=by rw[<-k.1];exact hi
 have:=k.2 i _ _ (oR hi') (oR hi);have:=(o.ok _ (abm hi')).r6;omega
end K
namespace M7
open M3
def placeF:Nat->List Nat->List Nat->Nat
 |acc,r::rs,x::l=>placeF (acc*(r+1)+x) rs l
 |acc,_,_=>acc
def cnt:List Nat->Nat
 |[]=>1
 |r::rs=>(r+1)*cnt rs
theorem allR_cnt:∀rs:List Nat,(allR rs).length=cnt rs
 |[]=>rfl
 | r::rs=>by
  have ih:=allR_cnt rs;have:∀n:Nat,((aaI n).flatMap fun k=>(allR rs).map (k :: ·)).length=n*cnt rs:=by
   intro n
   induction n with
   |zero=>simp
   |succ n ihn=>rw[ac3,acJ,aat,ihn];simp[ih,adu]
  exact this (r+1)
theorem iu:∀{rs l:List Nat}{acc:Nat},l.length=rs.length->placeF acc rs l=acc*cnt rs+placeF 0 rs l
 |[],[],acc,_=>by simp[placeF,cnt]
 |r::rs,x::l,acc,h=>by
  have h':l.length=rs.length:=by simpa using h
  simp only[placeF,cnt];rw[iu h',iu (acc:=0*(r+1)+x) h',Nat.add_mul,ab2];simp[aeV]
 |[],_::_,_,h=>by simp at h
 |_::_,[],_,h=>by simp at h
theorem gv{r x:Nat}{rs l:List Nat}(h:l.length=rs.length):placeF 0 (r::rs) (x::l)=x*cnt rs+placeF 0 rs l:=by
 simp only[placeF];rw[iu h];simp
theorem vx{N:Nat}(f:Nat->List (List Nat))(hf:∀k,(f k).length=N):∀(n k j:Nat),k<n->j<N->((aaI n).flatMap f)[k*N+j]?=(f k)[j]?
 |0,k,j,h,_=>by omega
 | n+1,k,j,h,hj=>by
  have hl:((aaI n).flatMap f).length=n*N:=by
   clear h hj
   induction n with
   |zero=>simp
   |succ n ih=>rw[ac3,acJ,aat,ih];simp[hf,adu]
  rw[ac3,acJ]
  by_cases hk:k<n
  .have:k*N+j<n*N:=by
    have:=adN N (show k+1≤n by omega);rw[adu]at this;omega
   rw[aaO (by omega),vx f hf n k j hk hj]
  .have e:k=n:=by omega
   subst e;rw[aaJ (by omega),hl];simp
def Fits:List Nat->List Nat->Prop
 |r::rs,x::l=>x≤r/\Fits rs l
 |[],[]=>True
 |_,_=>False
theorem Fits.len:∀{rs l:List Nat},Fits rs l->l.length=rs.length
 |[],[],_=>rfl
 |_::_,_::_,h=>congrArg (· + 1) h.2.len
 |[],_::_,h=>h.elim
 |_::_,[],h=>h.elim
theorem place_lt:∀{rs l:List Nat},Fits rs l->placeF 0 rs l<cnt rs
 |[],[],_=>by simp[placeF,cnt]
 |r::rs,x::l,h=>by
  rw[gv h.2.len,cnt];have:=place_lt h.2;have h2:=adN (cnt rs) (show x+1≤r+1 by have:=h.1;omega);rw[adu]at h2;omega
 |[],_::_,h=>h.elim
 |_::_,[],h=>h.elim
theorem place_at:∀{rs l:List Nat},Fits rs l->(allR rs)[placeF 0 rs l]?=some l
 |[],[],_=>rfl
 |r::rs,x::l,h=>by
  rw[gv h.2.len];show((aaI (r+1)).flatMap fun k=>(allR rs).map (k :: ·))[_]?=_;rw[vx (N:=cnt rs) (fun k=>(allR rs).map (k :: ·)) (fun k=>by rw[Ge,allR_cnt]) (r+1) x _ (by have:=h.1;omega) (place_lt h.2),aae,place_at h.2];rfl
 |[],_::_,h=>h.elim
 |_::_,[],h=>h.elim
theorem place_only:∀{rs:List Nat}{i:Nat}{l:List Nat},(allR rs)[i]?=some l->i=placeF 0 rs l
 |[],0,l,h=>by
  have:l=[]:=by simpa[allR]using h.symm
  subst this;rfl
 |[],i+1,l,h=>by simp[allR]at h
 | r::rs,i,l,h=>by
  have hi:=(aad.mp h).1;rw[allR_cnt,cnt]at hi;have hN:0<cnt rs:=Nat.pos_of_ne_zero fun z=>by rw[z]at hi;simp at hi
  have hk:i/cnt rs<r+1:=Nat.div_lt_of_lt_mul (by rw[ab4];exact hi);have hj:=ahs i hN;have e:i=i/cnt rs*cnt rs+i%cnt rs:=by rw[ab4];exact(Nat.div_add_mod i (cnt rs)).symm
  have h':=vx (N:=cnt rs) (fun k=>(allR rs).map (k :: ·)) (fun k=>by rw[Ge,allR_cnt]) (r+1) _ _ hk hj;rw[<-e]at h';have h2:((aaI (r+1)).flatMap fun k=>(allR rs).map (k :: ·))[i]?=some l:=h;rw[h2,aae]at h'
  cases q:(allR rs)[i%cnt rs]? with
  |none=>rw[q]at h';cases h'
  |some l' =>
   rw[q]at h';have:l=(i/cnt rs)::l':=aai h';subst this;have ih:=place_only q;have hl:l'.length=rs.length:=allR_len (OR q);rw[gv hl,<-ih,ab4];exact(Nat.div_add_mod i (cnt rs)).symm
def pick(lt:Nat->Nat->Bool):Nat->List Nat->Nat
 |b,[]=>b
 |b,k::ks=>pick lt (if lt k b then k else b) ks
theorem sJ{lt:Nat->Nat->Bool}:∀{ks:List Nat}{b:Nat},pick lt b ks=b\/pick lt b ks∈ks
 |[],b=>.inl rfl
 | k::ks,b=>by
  simp only[pick];rcases sJ (lt:=lt) (ks:=ks) (b:=if lt k b then k else b)with h|h
  .rw[h]
   by_cases q:lt k b=true
   .rw[if_pos q];exact .inr aah
   .rw[if_neg q];exact .inl rfl
  .exact .inr (aaf _ h)
theorem pick_app{lt:Nat->Nat->Bool}:∀{ks:List Nat}{b k:Nat},pick lt b (ks++[k])=if lt k (pick lt b ks)then k else pick lt b ks
 |[],b,k=>rfl
 |j::ks,b,k=>by simp only[af4,pick];exact pick_app
theorem placeF_take:∀{rs l:List Nat}{i acc r x:Nat},rs[i]?=some r->l[i]?=some x->placeF acc (rs.take (i+1)) (l.take (i+1))=placeF acc (rs.take i) (l.take i)*(r+1)+x
 |r0::rs,x0::l,0,acc,r,x,h1,h2=>by
  have e1:r0=r:=by simpa using h1
  have e2:x0=x:=by simpa using h2
  subst e1 e2;simp[placeF]
 |r0::rs,x0::l,i+1,acc,r,x,h1,h2=>by
  simp only[List.take_succ_cons,placeF];exact placeF_take (by simpa using h1) (by simpa using h2)
 |[],_,_,_,_,_,h1,_=>by simp at h1
 |_::_,[],_,_,_,_,_,h2=>by simp at h2
end M7
namespace K
open PySem L2 M7
variable{n:Nat}
def Hall.an(h:Hall)(k:Nat):Nat:=(h.ss.map Srv.a).getD k 0
def Hall.bn(h:Hall)(k:Nat):Nat:=(h.ss.map Srv.b).getD k 0
def bj(l:List Nat)(k b:Nat):Bool:=decide (l.getD k 0<l.getD b 0)
def bH(h:Hall)(l:List Nat)(k b:Nat):Bool:=decide ((l.getD k 0+1)*h.bn k*h.an b<(l.getD b 0+1)*h.bn b*h.an k)
def sent(h:Hall)(r:Rule)(l:List Nat)(t:Nat)(o:List Nat):Nat:=match r with
 | .random=>o.headD 0
 | .turns=>t
 | .two=>pick (bj l) (o.headD 0) (o.take 2)
 | .least=>pick (bj l) (o.headD 0) o
 | .quick=>pick (bH h l) (o.headD 0) o
 | .told ps=>ps.getD (placeF 0 h.rs l) 0
structure Ord(n:Nat)(o:List Nat):Prop where
 ne:o≠[]
 lt:∀k∈o,k<n
 le:o.length≤4
theorem Lines.fits{h:Hall}{l:List Nat}(k:Lines h l):Fits h.rs l:=by
 obtain⟨k1,k2⟩:=k;unfold Hall.rs;generalize h.ss=ss at k1 k2
 induction ss generalizing l with
 |nil=>cases l with
  |nil=>trivial
  |cons _ _=>simp at k1
 |cons s ss ih=>cases l with
  |nil=>simp at k1
  |cons x l=>exact⟨k2 0 s x rfl rfl,ih (by simpa using k1) fun i s x e1 e2=>k2 (i+1) s x (by simpa using e1) (by simpa using e2)⟩
theorem getN{l:List Nat}{k:Nat}(hl:l.length=n)(hk:k<n):l[k]?=some (l.getD k 0):=by
 rw[aW (oR (show k<l.length by omega))];exact oR _
theorem Hall.srv{h:Hall}{k:Nat}(hk:k<h.ss.length):∃s,h.ss[k]?=some s/\h.an k=s.a/\h.bn k=s.b/\s∈h.ss:=by
 refine⟨h.ss[k],oR hk,?_,?_,abm hk⟩
 .exact aW (by rw[aae,oR hk];rfl)
 .exact aW (by rw[aae,oR hk];rfl)
def BC:SpM:=fun as K=>∃a b c d:Nat,as=[.imm (frD a b),.imm (frD c d)]/\a<1000000000000/\b<1000000000000/\c<1000000000000/\d<1000000000000/\K (.imm (.bool (decide (a*d<c*b)))) []
def xK:SpM:=fun as K=>∃(h:Hall) (l:List Nat),as=[.imm h.d,.imm (lnD l)]/\h.Ok/\Lines h l/\K (.imm (.int (placeF 0 h.rs l:Nat))) []
def kW:SpM:=fun as K=>∃(l o:List Nat),as=[.imm (lnD l),.imm (lnD o)]/\Ord l.length o/\K (.imm (.int (pick (bj l) (o.headD 0) o:Nat))) []
def Cg:SpM:=fun as K=>∃(h:Hall) (l:List Nat) (k:Nat),as=[.imm h.d,.imm (lnD l),.imm (.int (k:Int))]/\h.Ok/\Lines h l/\k<h.ss.length/\K (.imm (frD ((l.getD k 0+1)*h.bn k:Nat) (h.an k:Nat))) []
def ix:SpM:=fun as K=>∃(h:Hall) (l o:List Nat),as=[.imm h.d,.imm (lnD l),.imm (lnD o)]/\h.Ok/\Lines h l/\Ord h.ss.length o/\K (.imm (.int (pick (bH h l) (o.headD 0) o:Nat))) []
def stD(l:List Nat)(t:Nat):iO:=.tuple [lnD l,.int (t:Int)]
def jq:SpM:=fun as K=>∃(h:Hall) (r:Rule) (l:List Nat) (t:Nat) (o:List Nat),as=[.imm h.d,.imm r.d,.imm (stD l t),.imm (lnD o)]/\h.Ok/\r.Ok h/\Lines h l/\Ord h.ss.length o/\K (.imm (.int (sent h r l t o:Nat))) []
theorem Ord.cons{o:List Nat}(h:Ord n o):∃k ks,o=k::ks/\k<n:=by
 cases o with
 |nil=>exact(h.ne rfl).elim
 |cons k ks=>exact⟨k,ks,rfl,h.lt k aah⟩
theorem fx{lt:Nat->Nat->Bool}{o:List Nat}(h:Ord n o)(i:Nat):pick lt (o.headD 0) (o.take i)<n:=by
 obtain⟨k,ks,rfl,hk⟩:=h.cons;rcases sJ (lt:=lt) (ks:=(k::ks).take i) (b:=k)with e|e
 .show pick lt k _<n;rw[e];exact hk
 .exact h.lt _ (ac6 e)
theorem tW:∀a b:List Nat,adE (natD a) (natD b)=decide (a=b)
 |[],[]=>by simp[natD,adE]
 |[],y::b=>by simp[natD,adE]
 |x::a,[]=>by simp[natD,adE]
 |x::a,y::b=>by
  have ih:=tW a b;unfold natD at ih;simp only[natD,aao,adE,aar,ih]
  by_cases h:x=y
  .subst h;simp
  .have:¬((x:Int)=(y:Int)):=fun z=>h (aia z);simp[h,this]
theorem uZ(a b:List Nat):aar (lnD a) (lnD b)=decide (a=b):=by
 simp only[lnD,aar];exact tW a b
def Rule.tl:Rule->List iO
 | .told ps=>[lnD ps]
 |_=>[]
theorem Rule.dc(r:Rule):r.d = .tuple (.str r.word::r.tl):=by cases r<;>rfl
theorem Dm{m:MSt}{Kr:R->Prop}{d x:iO}{ds:List iO}{i:Int}(e:d = .tuple ds)(h:atI ds i=some x)(k:Kr (.imm x)):oA (.imm d) (.imm (.int i)) m Kr:=by
 subst e;exact aD h k
end K
namespace L2
open PySem PySem.Spec PyProof.Rows
variable{t:Bool}{e it l:Addr}{items:Array GE}{Q:Option GE->aab->Prop}{ns:List Int}{i:Nat}{ds:List iO}{Kr:R->Prop}{ob:WM}{K:R->MSt->Prop}
theorem jP{prog:aaZ}{w:World}{A:abz}(t:Bool)(hh:A.handled=none)(I ax:Addr)(hne:ax≠I)(items:Array GE):Walks prog w A I [I,ax] [I] items.size (fun i v=>items[i]?=some v) (fun i h=>SubI t h I ax i/\SubS t h ax items):=by
 cases t
 .exact Walks.list hh I ax hne items
 .exact Walks.tuple hh I ax hne items
section
variable {prog:aaZ}{w:World}{A:abz}{E:GE->aab->Prop}{s:aab}
theorem lW{Q:GE->aab->Prop}(hl:SubS t s.heap l items)
  (h:∀s2:aab,s2={s with heap:=s.heap.push (itO t l)}->(SubI t s2.heap s.heap.objs.size l 0/\SubS t s2.heap l items)->(∀b∈[s.heap.objs.size,l],b<s2.heap.objs.size)->l≠s.heap.objs.size->Q (.ref s.heap.objs.size) s2):wpAny (model prog w) A (afb (.ref l)) Q E s:=by
 have hlt:l<s.heap.objs.size:=by
  cases t
  .obtain⟨_,e,_⟩:=(show s.heap.IsList l items from hl);exact aak e
  .obtain⟨_,e,_⟩:=(show s.heap.IsTuple l items from hl);exact aak e
 refine c9 hl (h _ rfl ⟨?_,hl.keep fun o e=>Io _ e⟩ (fun b hb=>?_) (aa4 hlt))
 .cases t
  .exact⟨_,aal _ rfl,rfl,rfl⟩
  .exact⟨_,aal _ rfl,rfl,rfl⟩
 .show b<(s.heap.push _).objs.size;rw[abB];simp only[aa3,or_false,aas]at hb;rcases hb with rfl|rfl
  .exact abP _
  .exact aet hlt
theorem mR{h':aa6}(hk:∀b o,b∉[s.heap.objs.size]->(s.heap.push (itO t l)).get? b=some o->h'.get? b=some o):∀b o,s.heap.get? b=some o->h'.get? b=some o:=fun b o e =>
 hk b o (fun hm=>absurd (aak e) (by rw[aaw.mp hm];exact acP _)) (Io _ e)
theorem jw(hi:afn items.toList ns):∀(i:Nat) (v:GE),items[i]?=some v->∃t,v = .int (ns.getD i 0) t:=fun i v e=>hi.int_at i v (by simpa using e)
end
section
variable {X:Cx}
def rMax(K:aaj):List V->Hp->VK->Prop:=fun xs H Q=>∃t l ns,xs=[.ref l]/\SqB t K H l (ns.map V.int)/\ns≠[]/\∀x,x∈ns->(∀y∈ns,y≤x)->Q (.int x) H
theorem sN{b:Nat}(hb:b≤ns.length-1)(hne:ns≠[]):ns.getD b 0∈ns:=by
 have hl:b<ns.length:=by
  have:ns.length≠0:=fun z=>hne (aa7 z);omega
 rw[aW (oR hl)];exact abm hl
theorem o7(hc:X.calm=true):dj X (.builtin "max") (rMax X.K):=by
 rintro pins s σ H xs us Q I rv ⟨t,l,ns,ex,hq,hne,q⟩;subst ex;obtain⟨u,rfl,ru⟩:=rv.one;cases ru;obtain⟨its,rvv,pl,_⟩:=I.sqb hq;have hi:afn its.toArray.toList ns:=ip rvv;have hl:its.length=ns.length:=by have:=rvv.length;rw[Ge]at this;omega
 refine call_max_walk (lW pl fun s2 e st hfp hlI=>?_);subst e;refine⟨s.heap.objs.size,[s.heap.objs.size,l],[s.heap.objs.size],its.toArray.size,fun i v=>its.toArray[i]?=some v,fun i h=>SubI t h s.heap.objs.size l i/\SubS t h l its.toArray,_,rfl,jP (A:=X.A.in1) t (I.ok.hd hc) _ l hlI its.toArray,st,hfp,?_,CmpOf.ints_gt (fun i=>ns.getD i 0) (jw hi),fun v h' tk hP hk=>?_⟩
 .have:ns.length≠0:=fun z=>hne (aa7 z);rw[aap];omega
 .obtain⟨tt,rfl⟩:=jw hi _ v hP;rw[aap,hl]at *;obtain⟨b1,b2⟩:=PySem.argBest_gt (fun i=>ns.getD i 0) (ns.length-1);refine⟨.int _,H,I.kept (t':=tk) (mR hk),⟨_,rfl⟩,q _ (sN b1 hne) fun y hy=>?_⟩;obtain⟨j,hj,rfl⟩:=abx.mp hy;have:=b2 j (by omega);rwa[aW (oR hj)]at this
def rMin(K:aaj):List V->Hp->VK->Prop:=fun xs H Q=>∃t l ns,xs=[.ref l]/\SqB t K H l (ns.map V.int)/\ns≠[]/\∀x,x∈ns->(∀y∈ns,x≤y)->Q (.int x) H
theorem oo(hc:X.calm=true):dj X (.builtin "min") (rMin X.K):=by
 rintro pins s σ H xs us Q I rv ⟨t,l,ns,ex,hq,hne,q⟩;subst ex;obtain⟨u,rfl,ru⟩:=rv.one;cases ru;obtain⟨its,rvv,pl,_⟩:=I.sqb hq;have hi:afn its.toArray.toList ns:=ip rvv;have hl:its.length=ns.length:=by have:=rvv.length;rw[Ge]at this;omega
 refine call_min_walk (lW pl fun s2 e st hfp hlI=>?_);subst e;refine⟨s.heap.objs.size,[s.heap.objs.size,l],[s.heap.objs.size],its.toArray.size,fun i v=>its.toArray[i]?=some v,fun i h=>SubI t h s.heap.objs.size l i/\SubS t h l its.toArray,_,rfl,jP (A:=X.A.in1) t (I.ok.hd hc) _ l hlI its.toArray,st,hfp,?_,CmpOf.ints_lt (fun i=>ns.getD i 0) (jw hi),fun v h' tk hP hk=>?_⟩
 .have:ns.length≠0:=fun z=>hne (aa7 z);rw[aap];omega
 .obtain⟨tt,rfl⟩:=jw hi _ v hP;rw[aap,hl]at *;obtain⟨b1,b2⟩:=PySem.argBest_lt (fun i=>ns.getD i 0) (ns.length-1);refine⟨.int _,H,I.kept (t':=tk) (mR hk),⟨_,rfl⟩,q _ (sN b1 hne) fun y hy=>?_⟩;obtain⟨j,hj,rfl⟩:=abx.mp hy;have:=b2 j (by omega);rwa[aW (oR hj)]at this
end
section
variable {prog:aaZ}{w:World}{A:abz}{E:GE->aab->Prop}{s:aab}
structure tf(t:Bool)(e it l:Addr)(k:Nat)(h:aa6):Prop where
 e:∃old,IsEnum h e it (k:Int) old
 s:SubI t h it l k
theorem vZ{x:GE}(Z:tf t e it l i s.heap)(hl:SubS t s.heap l items)(hx:items[i]?=some x)(hne:e≠it)
  (hQ:∀h',IsEnumOut h' e it ((i:Int)+1) x s.heap.objs.size->SubI t h' it l (i+1)->afg h' s.heap.objs.size (.int i s.toks) x->h'.objs.size=s.heap.objs.size+1 ->
   (∀b o,b∉[e,it]->s.heap.get? b=some o->h'.get? b=some o)->Q (some (.ref s.heap.objs.size)) {s with heap:=h',toks:=s.toks+1}):wpAny (model prog w) A (acj (.ref e)) Q E s:=by
 obtain⟨⟨old,he⟩,hit⟩:=Z;have hT:s.TypeIs (.ref e) "enumerate" :=(⟨_,he,rfl⟩);unfold acj;refine gE (acu (aaP (name:=abI "__next__") hT adF (aaT adF hT agr ?_ (af5 _))));rcases s with⟨hp,g,d,tk,os⟩;refine gE (m:=field (.ref e) 2) (abf he rfl (x:=.ref it) rfl (gE (jt hit hl hx fun g1 n1 s1=>?_)));replace s1:abu it hp g1:=s1;have e1:IsEnum g1 e it i old:=(s1.2 e hne).trans he;show wpAny _ _ (field (.ref e) 3 >>= _) _ _ ⟨g1,g,d,tk,os⟩;refine gE (abf e1 rfl (x:=adj i) rfl ?_);show wpAny _ _ (field (.ref e) 4 >>= _) _ _ ⟨g1,g,d,tk,os⟩;refine gE (abf e1 rfl (x:=.none) rfl ?_);refine gE (m:=mkInt i) (wpAny_mkInt ?_);show wpAny _ _ (acK (.ref e) 3 (adj ((i:Int)+1)) >>= _) _ _ ⟨g1,g,d,tk+1,os⟩;refine gE (aaD e1 (by simp) fun g2 e2 s2=>?_);replace s2:abu e g1 g2:=s2;replace e2:IsEnum g2 e it ((i:Int)+1) old:=e2;show wpAny _ _ (acK (.ref e) 4 .none >>= _) _ _ ⟨g2,g,d,tk+1,os⟩;refine gE (aaD e2 (by simp) fun g3 e3 s3=>?_);replace s3:abu e g2 g3:=s3;replace e3:IsEnum g3 e it ((i:Int)+1) old:=e3;refine gE (m:=ahG [.int i tk,x]) (aer ?_);have e4:IsEnum (g3.push {cls:=.type "tuple",data:=.seq #[.int i tk,x]}) e it ((i:Int)+1) old:=Io _ e3;have hsz:g3.objs.size=hp.objs.size:=by rw[s3.1,s2.1,s1.1]
 have young:e<hp.objs.size:=aak he;have t4:(g3.push {cls:=.type "tuple",data:=.seq #[.int i tk,x]}).get? hp.objs.size=some {cls:=.type "tuple",data:=.seq #[.int i tk,x]}:=by rw[<-hsz];exact aal _ rfl
 have z4:(g3.push {cls:=.type "tuple",data:=.seq #[.int i tk,x]}).objs.size=hp.objs.size+1:=by rw[abB,hsz]
 have k4:∀b o,b∉[e,it]->hp.get? b=some o->(g3.push {cls:=.type "tuple",data:=.seq #[.int i tk,x]}).get? b=some o:=fun b o hb q=>by
  simp only[aas,aa3,not_or,or_false]at hb;exact Io _ (s3.extBut b o hb.1 (s2.extBut b o hb.1 (s1.extBut b o hb.2 q)))
 have n4:SubI t (g3.push {cls:=.type "tuple",data:=.seq #[.int i tk,x]}) it l (i+1):=((n1.ext s2.extBut (abt hne)).ext s3.extBut (abt hne)).keep fun o q=>Io _ q;generalize g3.push {cls:=.type "tuple",data:=.seq #[.int i tk,x]}=g4 at e4 t4 z4 k4 n4;show wpAny _ _ (ab1 (.ref e) >>= _) _ _ ⟨g4,g,d,tk+1,os⟩;rw[hsz];refine gE (m:=ab1 (.ref e)) (gE (m:=field (.ref e) 0) (abf e4 rfl (x:=.none) rfl (aaa ?_)));simp only[if_true];refine gE (acU (gE (abf e4 rfl (x:=old) rfl (gE (aaD e4 (by simp) fun g5 e5 s5=>?_)))));replace s5:abu e g4 g5:=s5;replace e5:IsEnum g5 e it ((i:Int)+1) x:=e5;show wpAny _ _ (acL (.ref e) (.ref hp.objs.size) >>= _) _ _ ⟨g5,g,d,tk+1,os⟩;refine gE (m:=acL (.ref e) (.ref hp.objs.size)) ?_;refine gE (m:=acK (.ref e) 0 _) (aaD e5 (by simp) fun g6 e6 s6=>?_);replace s6:abu e g5 g6:=s6;replace e6:IsEnumOut g6 e it ((i:Int)+1) x hp.objs.size:=e6;refine aaD e6 (by simp) fun g7 e7 s7=>?_;replace s7:abu e g6 g7:=s7;replace e7:IsEnumOut g7 e it ((i:Int)+1) x hp.objs.size:=e7;have up:∀b o,b≠e->g4.get? b=some o->g7.get? b=some o:=fun b o n q=>s7.extBut b o n (s6.extBut b o n (s5.extBut b o n q));refine gE (afN (aaa ⟨_,rfl,aaa (hQ g7 e7 (n4.keep fun o q=>up _ o (abt hne) q) (up _ _ (abv young) t4) (by rw[s7.1,s6.1,s5.1,z4]) fun b o hb q=>up b o (fun z=>hb (by simp[z])) (k4 b o hb q))⟩))
theorem zN(hh:A.handled=none)(Z:tf t e it l i s.heap)(hl:SubS t s.heap l items)(hx:items[i]?=none)
  (hQ:∀hz,afM it s.heap hz->Q none {s with heap:=hz}):wpAny (model prog w) A (acj (.ref e)) Q E s:=by
 obtain⟨⟨old,he⟩,hit⟩:=Z;have hT:s.TypeIs (.ref e) "enumerate" :=(⟨_,he,rfl⟩);unfold acj;refine gE (acu (aaP (name:=abI "__next__") hT adF (aaT adF hT agr ?_ (af5 _))));refine gE (m:=field (.ref e) 2) (abf he rfl (x:=.ref it) rfl (gE (qM hh hit hl hx fun h' x he' hx'=>?_)));obtain⟨o,ho,hc⟩:=hx';exact gE (acq (T := "StopIteration") (b:=true) ⟨o,ho,hc⟩ aes (aaa (hQ _ he')))
end
open AutoSeq1 (wpAny_loadPart') in
set_option maxHeartbeats 1100000 in
theorem zj(t:Bool)(l:Addr)(items:Array GE) :
  Meets (acM.«enumerate.__new__» ⟨[.type "enumerate",.ref l],[]⟩) (fun _ R s=>SubS t s.heap l items /\
   R (.ok (.ret (.ref (s.heap.push (itO t l)).objs.size))) {s with heap:=(s.heap.push (itO t l)).push {cls:=.type "enumerate",data:=.fields #[.none,.bool false,.ref s.heap.objs.size,adj 0,.none,.none]} }) :=
 .of_wp fun prog w A R s h=>by
  rcases s with⟨hp,g,d,tk,os⟩;rcases h with⟨hl,h⟩;have hsub:=sub_enumerate;have hL:SubS t (ahY ⟨hp,g,d,tk,os⟩) l items:=hl
  wp_walk
  refine wpAny_stack_any fun st=>?_;refine aaa ?_;split
  .rename_i c _ _ _ _ _
   cases c==agi "enumerate"
   .wp_walk using c9 hL
    exact⟨_,rfl,h⟩
   .wp_walk using c9 hL
    exact⟨_,rfl,h⟩
  .wp_walk using c9 hL
   exact⟨_,rfl,h⟩
section
variable {prog:aaZ}{w:World}{A:abz}{E:GE->aab->Prop}{s:aab}
theorem vo{Q:GE->aab->Prop}(hL:SubS t s.heap l items)
  (h:∀h',tf t (s.heap.objs.size+1) s.heap.objs.size l 0 h'->(∀b o,s.heap.get? b=some o->h'.get? b=some o)->Q (.ref (s.heap.objs.size+1)) {s with heap:=h' }):wpAny (model prog w) A (call (.type "enumerate") [.ref l]) Q E s:=by
 refine callType_new F.called_enumerate (by decide) (F.typeCall_enumerate_1 _) (F.newCall_enumerate_1 _) (fun obj=>F.args_object_init_2 obj _) F.entry_enumerate_new (zj t l items) ⟨hL,?_⟩;have hz:(s.heap.push (itO t l)).objs.size=s.heap.objs.size+1:=abB ..;show _/\_;rw[hz];have he:((s.heap.push (itO t l)).push {cls:=.type "enumerate",data:=.fields #[.none,.bool false,.ref s.heap.objs.size,adj 0,.none,.none]}).get? (s.heap.objs.size+1)=some {cls:=.type "enumerate",data:=.fields #[.none,.bool false,.ref s.heap.objs.size,adj 0,.none,.none]}:=by
  rw[<-hz];exact aal _ rfl
 have hi:((s.heap.push (itO t l)).push {cls:=.type "enumerate",data:=.fields #[.none,.bool false,.ref s.heap.objs.size,adj 0,.none,.none]}).get? s.heap.objs.size=some (itO t l):=Io _ (aal _ rfl);refine⟨⟨_,he,rfl⟩,h _ ⟨⟨.none,he⟩,?_⟩ fun b o x=>Io _ (Io _ x)⟩;cases t
 .exact⟨_,hi,rfl,rfl⟩
 .exact⟨_,hi,rfl,rfl⟩
end
def Ite(t:Bool)(K:aaj)(a:Addr):It where
 go:=fun i H=>∃xs x,SqB t K H a xs/\xs[i]?=some x
 yld:=fun i H v H'=>∃T x,v = .ref T/\H T=none/\H'=upd H T (.tup [.int (i:Int),x])/\∀xs,SqB t K H a xs->xs[i]?=some x
 stop:=fun i H=>∃xs,SqB t K H a xs/\xs.length≤i
theorem xQ{P:aaZ}{w:World}{K:aaj}{elts:List Expr}{x1:Nat}{pos:Pos}{a:Addr}(hne:e≠it):Turn P w K (.Tuple elts x1 pos) (Ite t K a) [e,it] e (fun i h=>tf t e it a i h) where
 mem:=by simp
 obj:=fun i h st c hc=>by
  obtain⟨⟨old,he⟩,h1⟩:=st;simp only[aas,aa3,or_false]at hc;rcases hc with rfl|rfl
  .exact⟨_,he,fun v q=>by cases q⟩
  .obtain⟨o,vs,e,d⟩:=h1.obj;exact⟨o,e,fun v q=>by rw[d]at q;cases q⟩
 keep:=fun i h h' st k=>by
  obtain⟨⟨old,he⟩,h1⟩:=st;exact⟨⟨old,k e (by simp) _ he⟩,h1.keep fun o q=>k it (by simp) o q⟩
 item:=by
  intro X hP hw hK hc i pins s σ H E I hf st hg;subst hP hw hK;obtain⟨xs,x,hq,hx⟩:=hg;obtain⟨its,rv,p,_⟩:=I.sqb hq;obtain⟨u,eu,ru⟩:=rv.get hx;refine vZ st p (x:=u) (by simpa using eu) hne fun h' a1 a2 a3 a4 a5=>⟨.ref s.heap.objs.size,rfl,?_⟩;refine wpAny_letOwnedTupleGo_enum (s:={s with heap:=h',toks:=s.toks+1}) a1 fun h2 b1 sb=>?_;have hfT:H s.heap.objs.size=none:=I.hok.fresh (aac _);have sfp:∀c∈[e,it],c<s.heap.objs.size:=fun c hc=>by
   obtain⟨⟨old,he⟩,h1⟩:=st;simp only[aas,aa3,or_false]at hc;rcases hc with rfl|rfl
   .exact aak he
   .obtain⟨o,vs,e,d⟩:=h1.obj;exact aak e
  have nz:∀c∈[e,it],c≠s.heap.objs.size:=fun c hc=>aa4 (sfp c hc);have up:∀c o,c≠e->h'.get? c=some o->h2.get? c=some o:=fun c o n q=>sb.extBut c o n q;have T2:afg h2 s.heap.objs.size (.int i s.toks) u:=up _ _ (abt (nz e (by simp))) a3;have I0:Inv X pins σ (upd H s.heap.objs.size (.tup [.int (i:Int),x])) {s with heap:=s.heap.push {cls:=.type "tuple",data:=.seq #[.int i s.toks,u]},toks:=s.toks+1} :=
   I.laid (o:=.tup [.int (i:Int),x]) (fun c o q=>Io _ q) (aac _) ⟨by show 2≤aam;rw[aaq];decide,[.int i s.toks,u],.cons ⟨_,rfl⟩ (.cons ru .nil),PlainT.new _ _⟩
  have Il:Inv X pins σ (upd H s.heap.objs.size (.tup [.int (i:Int),x])) {s with heap:=h2,toks:=s.toks+1}:=by
   refine Inv.turneds (s:={s with heap:=s.heap.push {cls:=.type "tuple",data:=.seq #[.int i s.toks,u]},toks:=s.toks+1}) (h':=h2) (t':=s.toks+1) (ch:=[e,it]) I0 (fun c o hc q=>?_) fun c hc=>?_
   .rcases ae3 q with⟨rfl,rfl⟩|q
    .exact T2
    .exact up c o (fun z=>hc (by simp[z])) (a5 c o hc q)
   .obtain⟨f0,f1⟩:=hf c hc;exact⟨by rw[ap (nz c hc)];exact f0,f1⟩
  refine⟨.ref s.heap.objs.size,upd H s.heap.objs.size (.tup [.int (i:Int),x]),Il,rfl,⟨_,x,rfl,hfT,rfl,fun zs hz=>by rw[I.sqb_inj hz hq];exact hx⟩,⟨⟨u,?_⟩,a2.keep fun o q=>up _ o (abt hne) q⟩,fun c hc=>?_⟩
  .have:((i+1:Nat):Int)=(i:Int)+1:=by omega
   rw[this];exact b1
  .rw[ap (nz c hc)];exact(hf c hc).1
 done:=by
  intro X hP hw hK hc i pins s σ H E I hf st hg;subst hP hw hK;obtain⟨xs,hq,he⟩:=hg;obtain⟨its,rv,p,_⟩:=I.sqb hq;have l1:=rv.length;exact zN (I.ok.hd hc) st p (by simp;omega) fun h' hk=>⟨rfl,I.turneds (t':=s.toks) (ch:=[e,it]) (fun c o hc q=>hk c o (fun z=>hc (by simp[z])) q) hf⟩
 self:=fun _ _ _ _ _ st h=>by obtain⟨⟨old,he⟩,_⟩:=st;exact wpAny_pyIter_enum he h
section
variable {X:Cx}{elts:List Expr}{x1:Nat}{tpos:Pos}{a:Expr}{ws:WA}{p pos:Pos}
def OQ(K:aaj)(ta:TA):TI:=fun σ H Rq=>ta σ H fun vs H1=>∃t l,vs=[.ref l]/\(∃xs,SqB t K H1 l xs)/\Rq (Ite t K l) H1
theorem Fy{ta:TA}(hg:Gl X "enumerate")(hm:X.mg "enumerate" = none)(ha:PA X [a] ta)(hs:aan [a] X.env=[(false,eval a X.env)]:=by first|exact cu rfl|rfl):PI X (.Tuple elts x1 tpos) (.Call (.Name "enumerate" p) [a] [] pos) (OQ X.K ta):=by
 intro pins s σ H Rq I h;refine Call_ (kZ I hg hm ow (acN (thn (ha pos pins s σ H _ I h) fun us s1 ⟨vs,H1,I1,r1,q1⟩=>?_) hs rfl));obtain⟨t,l,e,⟨xs,h1⟩,q⟩:=q1;subst e
 cases r1 with
 | cons r rr =>
  cases rr;cases r;obtain⟨its,rv,pp,_⟩:=I1.sqb h1;refine vo pp fun h' Z hk=>?_;obtain⟨old,he⟩:=Z.e;refine wpAny_pyIter_enum he ⟨s1.heap.objs.size+1,_,_,_,H1,rfl,I1.kept (t':=s1.toks) hk,xQ (Nat.succ_ne_self _),Z,fun c hc=>?_,q⟩;have hle:s1.heap.objs.size≤c:=by
   have hc':c∈([s1.heap.objs.size+1,s1.heap.objs.size]:List Nat):=hc;simp only[aas,aa3,or_false]at hc';rcases hc' with rfl|rfl<;>first|exact acr _ _|exact aac _
  exact I1.fpOk hle (I1.hok.fresh hle)
def uk(ds:List iO):List iO:=zipD (gg 0 ds.length) ds
def yQ(ws:WA):WI:=fun m K=>ws m fun rs m'=>on1 (fun r=>∃t ds,imS r=some (t,ds)/\K ⟨uk ds,none⟩ m') rs
theorem dF(ds:List iO):(uk ds).length=ds.length:=by unfold uk;rw[e9,aF];omega
theorem o4{d:iO}(h:ds[i]?=some d):(uk ds)[i]?=some (.tuple [.int (i:Int),d]):=by
 have hi:=(aad.mp h).1;have:=sX (iy (lo:=0) hi) h;rw[ahI]at this;exact this
theorem wks_enum{K:Kd}:Wks K (Ite t K l) (uk ds) fun H=>∃xs,SqB t K H l xs/\DenAll K H ds xs where
 stop:=fun H ⟨xs,q,g⟩=>⟨xs,q,by rw[dF,g.length];exact aac _⟩
 go:=fun i H hi ⟨xs,q,g⟩=>by
  rw[dF]at hi;exact⟨xs,xs[i]'(by rw[<-g.length];exact hi),q,oR _⟩
 yld:=fun i H x H' hi ⟨xs,q,g⟩ y=>by
  obtain⟨T,u,rfl,hT,rfl,e1⟩:=y;obtain⟨d,h1,k1⟩:=g.get2 (e1 xs q);have gr:∀b o,H b=some o->upd H T (.tup [.int (i:Int),u]) b=some o:=fun b o q=>by rw[ap (bf q hT)];exact q
  have pe:Pers H (upd H T (.tup [.int (i:Int),u])):=⟨fun b xs q=>gr b _ q,fun b o u q=>gr b _ q⟩;exact⟨gr,_,o4 h1,cP (SqT.of aw) (DenAll.cons (mT _) (DenAll.cons (k1.mono pe) DenAll.nil))⟩
theorem Dy(hm:X.mg "enumerate" = none)(ha:MA X [a] ws)(hg:Gl X "enumerate" :=by rfl)(hs:aan [a] X.env=[(false,eval a X.env)]:=by first|exact cu rfl|rfl):MI X (.Tuple elts x1 tpos) (.Call (.Name "enumerate" p) [a] [] pos) (yQ ws):=(Fy hg hm ha hs).wk fun σ H Rq ⟨α,m,Kc,Rl,hw,fin⟩=>by
 refine⟨α,m,_,Rl,hw,fun rs m' vs H' k n Rl' rr F=>?_⟩;obtain⟨r,v,rfl,rfl,h1,t,ds,e1,k⟩:=dL rr k;obtain⟨l,xs,rfl,g1,q1,p1⟩:=vH h1 e1;refine⟨t,l,rfl,⟨xs,q1⟩,fin _ m' _ H' k n Rl' F ⟨fun H=>∃xs,SqB t X.kx H l xs/\DenAll X.kx H ds xs/\∀H1,Pers H H1->SqB t X.kx H1 l xs,wks_enum.imp fun H ⟨xs,a,c,_⟩=>⟨xs,a,c⟩,⟨xs,q1,g1,p1⟩,fun Ha Hb ⟨xs,a,c,pa⟩ pe=>⟨xs,pa Hb pe,c.mono pe,fun H1 p=>pa H1 (pe.trans p)⟩⟩⟩
theorem yV(hm:X.mg "enumerate" = none)(ha:EA X [a] ws)(hg:Gl X "enumerate" :=by rfl)(hs:aan [a] X.env=[(false,eval a X.env)]:=by first|exact cu rfl|rfl):EI X (.Tuple elts x1 tpos) (.Call (.Name "enumerate" p) [a] [] pos) (yQ ws):=⟨Dy hm ha.h hg hs⟩
theorem Jq{m:MSt}{Ks:Src->MSt->Prop}(h:ws m fun rs m'=>on1 (fun r=>∃t ds,imS r=some (t,ds)/\Ks ⟨uk ds,none⟩ m') rs):yQ ws m Ks:=h
end
section
variable {X:Cx}
def Ij:WC:=fun rs m K=>on1 (fun r=>∃ds ns,sqOf m r=some ds/\du ds=some ns/\ns≠[]/\∀x,x∈ns->(∀y∈ns,y≤x)->K (.imm (.int x))) rs
theorem fX(hc:X.calm=true):dj X (.builtin "max") (cM X.kx Ij):=by
 rintro pins s σ' H xs us Q I rv ⟨α,m,σ,H0,rs,Kc,Rl,h,ho,fin⟩;obtain⟨r,v,rfl,rfl,h1,ds,ns,e1,e2,hne,ho⟩:=dL h ho;obtain⟨a,ys,rfl,f,g⟩:=h1.seq Rl e1;rw[iB e2]at g;have ey:=e8 g;subst ey;have go:∀x,x∈ns->(∀y∈ns,y≤x)->Q (.int x) H:=fun x h1 h2=>fin _ _ H (ho x h1 h2) Rl (dM _) (Frm.refl _ _);rcases f with f|f
 .exact o7 hc pins s σ' H _ us Q I rv ⟨false,a,ns,rfl,f,hne,go⟩
 .exact o7 hc pins s σ' H _ us Q I rv ⟨true,a,ns,rfl,f,hne,go⟩
theorem ua{m:MSt}{r:R}(e1:sqOf m r=some ds)(e2:du ds=some ns)(hne:ns≠[])(h:∀x,x∈ns->(∀y∈ns,y≤x)->Kr (.imm (.int x))):Ij [r] m Kr:=⟨ds,ns,e1,e2,hne,h⟩
def Ie:WC:=fun rs m K=>on1 (fun r=>∃ds ns,sqOf m r=some ds/\du ds=some ns/\ns≠[]/\∀x,x∈ns->(∀y∈ns,x≤y)->K (.imm (.int x))) rs
theorem uz(hc:X.calm=true):dj X (.builtin "min") (cM X.kx Ie):=by
 rintro pins s σ' H xs us Q I rv ⟨α,m,σ,H0,rs,Kc,Rl,h,ho,fin⟩;obtain⟨r,v,rfl,rfl,h1,ds,ns,e1,e2,hne,ho⟩:=dL h ho;obtain⟨a,ys,rfl,f,g⟩:=h1.seq Rl e1;rw[iB e2]at g;have ey:=e8 g;subst ey;have go:∀x,x∈ns->(∀y∈ns,x≤y)->Q (.int x) H:=fun x h1 h2=>fin _ _ H (ho x h1 h2) Rl (dM _) (Frm.refl _ _);rcases f with f|f
 .exact oo hc pins s σ' H _ us Q I rv ⟨false,a,ns,rfl,f,hne,go⟩
 .exact oo hc pins s σ' H _ us Q I rv ⟨true,a,ns,rfl,f,hne,go⟩
theorem IE{m:MSt}{r:R}(e1:sqOf m r=some ds)(e2:du ds=some ns)(hne:ns≠[])(h:∀x,x∈ns->(∀y∈ns,x≤y)->Kr (.imm (.int x))):Ie [r] m Kr:=⟨ds,ns,e1,e2,hne,h⟩
end
open SeqAt in
open AutoSeq1 (wpAny_loadPart') in
theorem qx(l:Addr)(items:Array GE)(n:Nat)(dd:Option Addr)(sl:Array (Option GE))(x:GE)(e:GE->Bool)(j:Nat)(hj:j<items.size)(hit:e items[j]=true)(hno:∀m (hm:m<items.size),m<j->e items[m]=false) :
  Meets (acM.«tuple.index» ⟨[.ref l,x],[]⟩)
   (fun A R s=>s.heap.get? l=some {cls:=.type "tuple",dict:=dd,data:=.seq items n,slots:=sl}/\(∀y,y∈items->EqAt A.in1 s y x (e y))/\R (.ok (.ret (.int j s.toks))) {s with toks:=s.toks+1}) :=
 .of_wp fun prog w A R s h=>by
  rcases s with⟨hp,g,d,tk,os⟩;rcases h with⟨hl,he,h⟩
  (wp_walk using afi hl)
  refine(show wpAny (model prog w) A.in1 (forIn ([:min items.size items.size]:Std.Legacy.Range) _ _) _ _ _ from ?_);simp only[Std.Legacy.Range.forIn_eq_forIn_range'];have e1:ahZ (0:Nat) (min items.size items.size) 1=ahZ 0 items.size 1:=by rw[Nat.min_self]
  refine aeN _ (fun rest (b:Option _×Unit) s'=>b.1=none/\s'=⟨hp,g,d,tk,os⟩/\∃i,i≤j/\rest=ahZ i (items.size-i) 1) _ ?turn ?fin _ _ ?start
  case turn =>
   rintro i rest b s' ⟨hb,rfl,i0,hi0,hr⟩;have hlt:i0<items.size:=by omega
   have hs:items.size-i0=(items.size-(i0+1))+1:=by omega
   rw[hs,List.range'_succ]at hr;cases hr;rw[show items[i]?=some items[i]from abU hlt];refine gE (he items[i] (Array.getElem_mem hlt) prog w _ _ ?_)
   by_cases hij:i=j
   .subst hij;rw[hit]
    wp_walk
    exact⟨_,rfl,h⟩
   .rw[hno i hlt (by omega)]
    wp_walk
    exact⟨rfl,rfl,i+1,by omega,rfl⟩
  case fin =>
   rintro⟨b1,b2⟩ s' ⟨hb,rfl,i0,hi0,hr⟩;have:=congrArg ae1 hr;simp at this;omega
  case start =>
   refine⟨rfl,rfl,0,ac5 _,?_⟩;simp[Std.Legacy.Range.size]
section
variable {X:Cx}{o e:Expr}{es:List Expr}{wo:WE}{ws:WA}{apos cpos:Pos}
def wMT(ob:WM)(wo:WE)(ws:WA):WE:=fun m K=>wo m fun r m1=>(∃ds,r = .imm (.tuple ds))/\ws m1 fun rs m2=>ob r rs m2 K
theorem On{name:Str}{id:String}(slot:Slot "tuple" name id)(hty:typeOf (.builtin id)=pure (.type "method_descriptor"))(hm:MtM X id (mM X.kx ob))(ho:ME X o wo)(ha:MA X (e::es) ws)
  (hbase:abD o name X.env (eval o X.env)=eval o X.env:=by rfl)
  (hfew:((acb cpos (aan (e::es) X.env)).all (fun x=>!x.1)&&(afx cpos (adM [] X.env)).all (fun x=>x.1.isSome)
   && decide ((e::es).length+([]:List adr).length+(if ([]:List adr).isEmpty then 0 else 1)<30))=true:=by rfl)
  (hline:(apos.endLine==cpos.line)=true:=by rfl) (hs:aan (e::es) X.env=(false,eval e X.env)::aan es X.env:=by first|exact aY rfl|rfl) (hplain:(acb cpos (aan es X.env)).any (·.1)=false:=by rfl) :
  ME X (.Call (.Attribute o name apos) (e::es) [] cpos) (wMT ob wo ws):=(JM PySem.F.plainAttrs_tuple slot hty hm ho ha hbase hfew hline hs hplain).wk fun σ H Q ⟨α,m,Kc,Rl,hw,fin⟩=>by
 refine⟨α,m,_,Rl,hw,fun r m1 v H1 k n1 Rl1 rr F1=>?_⟩;obtain⟨⟨ds,rfl⟩,k⟩:=k;obtain⟨a,xs,rfl,f,g⟩:=bF (show Den X.kx H1 (.tuple ds) v from rr);refine⟨.inr (.inl ⟨rfl,xs,f⟩),α,m1,_,Rl1,k,fun rs m2 vs H2 k2 n2 Rl2 rr2 F2=>?_⟩;exact⟨α,m2,σ,H,H1,.imm (.tuple ds),rs,Kc,Rl2,rr.keep Rl Rl1 F2,rr2,k2,fun r m' v H' k n Rl' rr' F=>fin r m' v H' k (n.trans (n2.trans n1)) Rl' (rr'.base Rl2 (F1.trans F2)) ((F1.trans F2).trans F)⟩
theorem rJ{name:Str}{id:String}(slot:Slot "tuple" name id)(hty:typeOf (.builtin id)=pure (.type "method_descriptor"))(hm:MtM X id (mM X.kx ob))(ho:EE X o wo)(ha:EA X (e::es) ws)
  (hbase:abD o name X.env (eval o X.env)=eval o X.env:=by rfl)
  (hfew:((acb cpos (aan (e::es) X.env)).all (fun x=>!x.1)&&(afx cpos (adM [] X.env)).all (fun x=>x.1.isSome)
   && decide ((e::es).length+([]:List adr).length+(if ([]:List adr).isEmpty then 0 else 1)<30))=true:=by rfl)
  (hline:(apos.endLine==cpos.line)=true:=by rfl) (hs:aan (e::es) X.env=(false,eval e X.env)::aan es X.env:=by first|exact aY rfl|rfl) (hplain:(acb cpos (aan es X.env)).any (·.1)=false:=by rfl) :
  EE X (.Call (.Attribute o name apos) (e::es) [] cpos) (wMT ob wo ws):=⟨On slot hty hm ho.h ha.h hbase hfew hline hs hplain⟩
theorem x_mt{m:MSt}(h:wo m fun r m1=>(∃ds,r = .imm (.tuple ds))/\ws m1 fun rs m2=>ob r rs m2 K):wMT ob wo ws m K:=h
theorem x_ts{P:Prop}(h:P):(∃es,R.imm (.tuple ds) = .imm (.tuple es))/\P:=⟨⟨ds,rfl⟩,h⟩
def vg:WM:=fun r rs m K=>on1 (df fun d=>∃ds j,r = .imm (.tuple ds)/\d.canLay0=true/\aba ds=true/\d.depth≤60/\(∃y,ds[j]?=some y/\aar y d=true)/\(∀(i:Nat) y,i<j->ds[i]?=some y->aar y d=false)/\K (.imm (.int (j:Nat))) m) rs
theorem f8(hu:X.A.units+64<cLine):MtM X "tuple.index" (mM X.kx vg):=by
 rintro pins s σ' H x xs v us Q I rx rv ⟨α,m,σ,H0,H1,r,rs,Kc,Rl,h1,h2,ho,fin⟩;obtain⟨r2,v2,rfl,rfl,h2,ho⟩:=dL h2 ho;obtain⟨d,rfl,hd,ds,j,rfl,c1,c2,dp,⟨y,ey,eq⟩,hno,ho⟩:=fw h2 ho;obtain⟨a,zs,rfl,f,g⟩:=bF (show Den X.kx H (.tuple ds) x from h1);cases rx;obtain⟨u,rfl,ru⟩:=rv.one;obtain⟨bs,qd⟩:=Den.reads I (abk _ c1) hd ru;obtain⟨its,rvv,⟨o,ho1,hc,hdict,n,hdata⟩,hz⟩:=I.tupleP f;obtain⟨as,rds⟩:=DenAll.reads I (acp _ c2) g rvv;have hm:X.A.units+1+min (aav ds) d.depth<cLine:=by have:=aeK (aav ds) d.depth;omega
 have hmap:=ahq ds _ _ c2 rds;have hl:its.length=ds.length:=by rw[<-hmap,Ge]
 have hj:j<its.length:=by rw[hl];exact(aad.mp ey).1
 have ro:∀(i:Nat) (hi:i<its.length) y,ds[i]?=some y->adw s.heap its[i]=y:=fun i hi y e=>by
  rw[<-hmap,aae,oR hi]at e;exact aai e
 obtain⟨cls,dd,data,sl⟩:=o;dsimp only at hc hdata;subst hc;subst hdata;refine aed acv ⟨_,ho1,rfl⟩ PySem.F.entry_tuple_index (PySem.F.args_tuple_index_2 _ _)
  (qx a its.toArray _ dd sl u (fun y=>aar (adw s.heap y) d) j (by simpa using hj) ?_ ?_) ⟨ho1,ahS (by simpa using rds) qd c2 c1 hm,?_⟩
 .show aar (adw s.heap its[j]) d=true;rw[ro j hj y ey];exact eq
 .intro i hi hlt;have hi':i<its.length:=by simpa using hi
  show aar (adw s.heap its[i]) d=false;have hi2:i<ds.length:=by rw[<-hl];exact hi'
  rw[ro i hi' _ (oR hi2)];exact hno i _ hlt (oR hi2)
 .exact⟨.int (j:Nat),H,I.tok _,⟨_,rfl⟩,fin _ _ _ H ho rfl Rl (dM _) (Frm.refl _ _)⟩
theorem ju{m:MSt}{d y:iO}{j k k':Nat}(s1:Shp k d)(s2:∀y∈ds,Shp k' y)(hk:k≤60)(ey:ds[j]?=some y)(eq:aar y d=true)(hno:∀(i:Nat) y,i<j->ds[i]?=some y->aar y d=false)(h:K (.imm (.int (j:Nat))) m):vg (.imm (.tuple ds)) [.imm d] m K :=
 ⟨ds,j,rfl,s1.cl,(km s2).1,aaF s1.dp hk,⟨y,ey,eq⟩,hno,h⟩
end
theorem uh:fillsNumberSlot (.type "tuple") "mul" = pure false :=
 PySem.fillsNumberSlot_seq (id := "tuple.__mul__") (r:=some (.builtin "tuple.__rmul__")) aeu.lookup (by decide +kernel) af6.lookup (by decide +kernel)
theorem DB:seqRepeat? (.type "tuple")=pure (some (.builtin "tuple.__mul__")):=by
 unfold seqRepeat?;rw[ahU (T := "tuple") (name := "__mul__") (id := "tuple.__mul__") aeu.lookup (by decide +kernel),ahU (T := "tuple") (name := "__rmul__") (id := "tuple.__rmul__") af6.lookup (by decide +kernel)];rfl
theorem zf(a:Int)(t:Tok)(l:Addr)(items:Array GE)(n:Nat)(dd:Option Addr)(sl:Array (Option GE)) :
  Meets (acM.«int.__rmul__» ⟨[.int a t,.ref l],[]⟩) (fun _ R s=>s.heap.get? l=some {cls:=.type "tuple",dict:=dd,data:=.seq items n,slots:=sl}/\R (.ok (.ret GE.notImplemented)) s) :=
 .of_wp fun prog w A R s h=>by
  rcases s with⟨hp,g,d,tk,os⟩;rcases h with⟨hl,h⟩
  wp_walk
  exact⟨_,rfl,h⟩
open AutoSeq1 (wpAny_loadPart') in
theorem CF(l:Addr)(items:Array GE)(n:Nat)(dd:Option Addr)(sl:Array (Option GE))(k:Int)(t:Tok)(h1:0≤k)(h2:k<2^20)(hz:items.size*k.toNat≤1000000) :
  Meets (acM.«tuple.__mul__» ⟨[.ref l,.int k t],[]⟩) (fun _ R s=>s.heap.get? l=some {cls:=.type "tuple",dict:=dd,data:=.seq items n,slots:=sl} /\
   if (items.isEmpty||k==1)=true then R (.ok (.ret (.ref l))) s else R (.ok (.ret (.ref s.heap.objs.size))) {s with heap:=s.heap.push {cls:=.type "tuple",data:=.seq ((aax k.toNat items).foldl (fun x1 x2=>x1++x2) #[])} }) :=
 .of_wp fun prog w A R s h=>by
  rcases s with⟨hp,g,d,tk,os⟩;rcases h with⟨hl,h⟩
  (wp_walk using afi hl)
  have hT:(⟨hp,g,d,tk,os⟩:aab).TypeIs (.ref l) "tuple" :=(⟨_,hl,rfl⟩);have hIs:IsTup (⟨hp,g,d,tk,os⟩:aab).heap l items:=⟨_,hl,rfl,n,rfl⟩;have hsz:((items.size:Nat):Int)*k≤1000000:=by
   have ek:k=((k.toNat:Nat):Int):=by omega
   rw[ek,<-aaB];omega
  rw[if_neg (show ¬_ by simp only[decide_eq_true_eq,ad8];omega)];refine gE (ahg hIs ?_)
  by_cases hc:(items.isEmpty||k==1)=true
  .rw[if_pos hc]at h⊢;refine gE ?_;unfold afz;refine gE (adq hT (aaa ?_));rw[if_pos (by rfl)];exact gE (acU (aaa ⟨_,rfl,h⟩))
  .rw[if_neg hc]at h⊢;have he:items.isEmpty=false:=by
    cases q:items.isEmpty with
    |false=>rfl
    |true=>rw[q]at hc;exact(hc rfl).elim
   by_cases hk0:k=0
   .subst hk0;show wpAny _ _ (if (decide ((0:Int)≤0)||items.isEmpty)=true then _ else _) _ _ _;rw[if_pos (by rfl)];exact gE (m:=ab0 #[]) (aa5 (aaa ⟨_,rfl,h⟩) (by show(0:Nat)≤aam;exact ac5 _))
   have e1:(decide (k≤0)||items.isEmpty)=false:=by rw[he,decide_eq_false (by omega)];rfl
   have hlen:∀(m:Nat) (acc:Array GE),(aeL (fun x1 x2=>x1++x2) acc (aax m items)).size=acc.size+m*items.size:=by
    intro m
    induction m with
    |zero=>intro acc;simp
    |succ m ih=>intro acc;rw[abr,adB,ih,Array.size_append,adu];omega
   have hbig:((aax k.toNat items).foldl (fun x1 x2=>x1++x2) #[]).size≤aam:=by
    rw[hlen,aaq,ab4];simp;omega
   show wpAny _ _ (if (decide (k≤0)||items.isEmpty)=true then _ else _) _ _ _;rw[if_neg (by rw[e1];exact aay)];show wpAny _ _ (if ((items.size:Nat):Int)*k>(2^63-1)/8 then _ else _) _ _ _;rw[if_neg (by omega)];show wpAny _ _ (if afB (((items.size:Nat):Int)*k)=true then _ else _) _ _ _;rw[if_neg (by unfold afB;rw[decide_eq_true_eq,aaq];omega)];exact gE (m:=ab0 _) (aa5 (aaa ⟨_,rfl,h⟩) hbig)
section
variable {X:Cx}
def NG(K:aaj):R2:=fun x y H Q=>∃a xs k,x = .ref a/\y = .int k/\SqT K H a xs/\0≤k/\k<2^20/\xs.length*k.toNat≤1000000 /\
 if (xs.isEmpty||k==1)=true then Q (.ref a) H else ∀p,H p=none->Q (.ref p) (upd H p (.tup (aax k.toNat xs).flatten))
theorem CY:OpR X (acw .Mult) (NG X.K):=by
 intro pins s σ H x y v u Q I rx ry h;obtain⟨a,xs,k,rfl,rfl,hq,h1,h2,hz,q⟩:=h;cases rx;obtain⟨t,rfl⟩:=ry;obtain⟨its,r,⟨o,ho,hc,hd,n,hdt⟩,hsz⟩:=I.tupleP hq;obtain⟨cls,dd,data,sl⟩:=o;dsimp only at hc hdt;subst hc hdt;have hl:xs.length=its.length:=r.length;have hem:its.toArray.isEmpty=xs.isEmpty:=by
  cases its with
  |nil=>have:xs=[]:=aa7 (by simpa using hl);subst this;rfl
  |cons _ _=>cases xs with
   |nil=>simp at hl
   |cons _ _=>rfl
 have hnew:aeL (fun x1 x2=>x1++x2) #[] (aax k.toNat its.toArray)=(aax k.toNat its).flatten.toArray:=by
  have:=j4 its k.toNat [];rw[adC]at this;exact this
 refine afF (T := "tuple") (U := "int") (by decide) ⟨_,ho,rfl⟩ (fun s'=>agn s' k t) uh PySem.F.fills_int_mul agF DB PySem.F.slot_int_index.lookup
  (aed agF (agn s k t) PySem.F.entry_int_rmul (PySem.F.args_int_rmul_2 _ _) (zf k t a its.toArray n dd sl)
   ⟨ho,rfl,⟨_,ho,rfl⟩,aed aeu ⟨_,ho,rfl⟩ PySem.F.entry_tuple_mul (PySem.F.args_tuple_mul_2 _ _) (CF a its.toArray n dd sl k t h1 h2 (by rw[aap,<-hl];exact hz)) ⟨ho,?_⟩⟩)
 rw[hem,hnew]
 by_cases hc:(xs.isEmpty||k==1)=true
 .rw[if_pos hc]at q⊢;exact⟨.ref a,H,I,rfl,q⟩
 .rw[if_neg hc]at q⊢;have hp:H s.heap.objs.size=none:=I.hok.fresh (aac _);refine⟨.ref s.heap.objs.size,_,I.laid (t':=s.toks) (o:=.tup (aax k.toNat xs).flatten) (fun b ob e=>Io _ e) (aac _) ⟨?_,_,r.rep k.toNat,PlainT.new _ _⟩,rfl,q _ hp⟩;rw[wG,ab4,aaq];omega
def wR:WO
 | .imm (.int i),.imm (.int j),_,K=>afY i j/\K (.imm (.int (i*j)))
 | .imm (.tuple ds),.imm (.int k),_,K=>0≤k/\k<2^20/\ds.length*k.toNat≤1000000/\K (.imm (.tuple (aax k.toNat ds).flatten))
 | .new ds,.imm (.int k),_,K=>0≤k/\k<2^20/\ds.length*k.toNat≤1000000/\K (.new (aax k.toNat ds).flatten)
 |_,_,_,_=>False
theorem ik{K:Kd}{H:Hp}{ds:List iO}{xs:List V}(g:DenAll K H ds xs):∀k:Nat,DenAll K H (aax k ds).flatten (aax k xs).flatten
 |0=>by simp only[List.replicate_zero,List.flatten_nil,DenAll]
 |k+1=>by rw[abr,abr,acA,acA];exact g.append (ik g k)
theorem aB:OpR X (acw .Mult) (rM X.kx wR):=by
 rintro pins s σ' H x y v u Q I rx ry ⟨α,m,σ,H0,H1,r1,r2,Kc,Rl,h1,h2,ho,fin⟩;unfold wR at ho
 split at ho
 .rename_i i j;exact FQ pins s σ' H x y v u Q I rx ry ⟨α,m,σ,H0,H1,.imm (.int i),.imm (.int j),Kc,Rl,h1,h2,ho,fin⟩
 .rename_i ds k;obtain⟨k1,k2,k3,ho⟩:=ho;obtain⟨a,xs,rfl,f,g⟩:=bF (show Den X.kx H (.tuple ds) x from h1);have e2:=aL (show Den X.kx H (.int k) y from h2);subst e2;refine CY pins s σ' H _ _ v u Q I rx ry ⟨a,xs,k,rfl,rfl,f,k1,k2,by rw[<-g.length];exact k3,?_⟩
  by_cases hc:(xs.isEmpty||k==1)=true
  .rw[if_pos hc];refine fin _ _ H ho Rl (kG (cP f ?_)) (Frm.refl _ _);have e:(aax k.toNat ds).flatten=ds:=by
    rw[ad8]at hc;rcases hc with hc|hc
    .have hx:xs=[]:=List.isEmpty_iff.mp hc;have hd:ds=[]:=aa7 (by rw[g.length,hx];rfl);subst hd;simp
    .have:k=1:=by simpa using hc
     subst this;simp
   rw[e];exact g
  .rw[if_neg hc];exact fun p hp=>fin _ _ _ ho (Rl.lay hp) (kG (cP (SqT.of aw) ((ik g k.toNat).mono (br (.inl hp))))) (cj hp)
 .rename_i ds k;obtain⟨k1,k2,k3,ho⟩:=ho;obtain⟨a,xs,rfl,hb,hH,g⟩:=h1;have e2:=aL (show Den X.kx H (.int k) y from h2);subst e2;refine JV pins s σ' H _ _ v u Q I rx ry ⟨a,k,xs,rfl,rfl,hH,by omega,by omega,by rw[<-g.length,aaq];omega,fun p hp=>?_⟩;exact fin _ _ _ ho (Rl.lay hp) ⟨p,_,rfl,hp,aw,(ik g k.toNat).mono (br (.inl hp))⟩ (cj hp)
 .exact ho.elim
theorem cb{m:MSt}{i j:Int}(hc:afY i j)(h:Kr (.imm (.int (i*j)))):wR (.imm (.int i)) (.imm (.int j)) m Kr:=⟨hc,h⟩
theorem Me{m:MSt}{k:Int}(h1:0≤k)(h2:k<2^20)(h3:ds.length*k.toNat≤1000000)(h:Kr (.imm (.tuple (aax k.toNat ds).flatten))):wR (.imm (.tuple ds)) (.imm (.int k)) m Kr:=⟨h1,h2,h3,h⟩
theorem Jf{m:MSt}{k:Int}(h1:0≤k)(h2:k<2^20)(h3:ds.length*k.toNat≤1000000)(h:Kr (.new (aax k.toNat ds).flatten)):wR (.new ds) (.imm (.int k)) m Kr:=⟨h1,h2,h3,h⟩
end
end L2
namespace K
open PySem L2 M7
variable{l:List Nat}{h:Hall}{p:Nat×Nat}{r:Rule}{t:Nat}
inductive Mv where
 |come (o:List Nat)|done (k:Nat)|still
def Mv.d:Mv->iO
 | .come o=>.tuple [.str "come",lnD o]
 | .done k=>.tuple [.str "done",.int (k:Int)]
 | .still=>.tuple [.str "still"]
def Mv.Ok(h:Hall):Mv->Prop
 | .come o=>Ord h.ss.length o
 | .done k=>k<h.ss.length
 | .still=>True
inductive Wd where
 |taken|away|served|none
def Wd.s:Wd->Str
 | .taken => "taken" | .away => "away" | .served => "served" | .none => "none"
def Hall.rn(h:Hall)(k:Nat):Nat:=h.rs.getD k 0
def d6(h:Hall)(l:List Nat)(k:Nat):List Nat×Wd:=if l.getD k 0=h.rn k then(l,.away)else(l.set k (l.getD k 0+1),.taken)
def di(l:List Nat)(k:Nat):List Nat×Wd:=if l.getD k 0=0 then(l,.none)else(l.set k (l.getD k 0-1),.served)
def idx(l:List Nat)(x:Nat):Nat:=l.findIdx (fun y=>y==x)
def maxN(l:List Nat):Nat:=l.foldl max 0
def dA(h:Hall)(l:List Nat):Option (Nat×Nat):=if h.mv=true/\0∈l/\2≤maxN l then some (idx l (maxN l),idx l 0)else none
def cc(l:List Nat)(p:Nat×Nat):List Nat:=(l.set p.1 (l.getD p.1 0-1)).set p.2 ((l.set p.1 (l.getD p.1 0-1)).getD p.2 0+1)
def cQ(h:Hall):Nat->List Nat->List Nat
 |0,l=>l
 |n+1,l=>match dA h l with
  |none=>l
  |some p=>cQ h n (cc l p)
def dn(h:Hall)(l:List Nat):List Nat:=cQ h (l.count 0) l
theorem jO:∀(l:List Nat) (a:Nat),a≤l.foldl max a/\(∀x∈l,x≤l.foldl max a)/\(l.foldl max a=a\/l.foldl max a∈l)
 |[],a=>⟨aac _,(fun _ h=>by cases h),.inl rfl⟩
 | y::l,a=>by
  obtain⟨h1,h2,h3⟩:=jO l (max a y);refine⟨aaF (aff a y) h1,fun x hx=>?_,?_⟩
  .rcases aas.mp hx with rfl|hx
   .exact aaF (Nat.le_max_right a x) h1
   .exact h2 x hx
  .rcases h3 with h3|h3
   .show(aeL max (max a y) l=a)\/_;rw[h3]
    by_cases hy:a≤y
    .right;show aeL max (max a y) l∈y::l;rw[h3,Nat.max_eq_right hy];exact aah
    .left;exact Nat.max_eq_left (by omega)
   .exact .inr (aaf _ h3)
theorem rB:∀x∈l,x≤maxN l:=(jO l 0).2.1
theorem h9(h:l≠[]):maxN l∈l:=by
 rcases (jO l 0).2.2 with e|e
 .cases l with
  |nil=>exact(h rfl).elim
  |cons x l =>
   have:x≤maxN (x::l):=rB x aah;have e':maxN (x::l)=0:=e;have hx:x=0:=by omega
   rw[e',<-hx];exact aah
 .exact e
theorem fO{x:Nat}(h:x∈l):l[idx l x]?=some x/\∀i y,i<idx l x->l[i]?=some y->y≠x:=by
 have hlt:idx l x<l.length:=List.findIdx_lt_length_of_exists ⟨x,h,by simp⟩;refine⟨?_,fun i y hi hy e=>?_⟩
 .rw[oR hlt];have:=List.findIdx_getElem (w:=hlt);simp at this;exact congrArg some this
 .subst e;have:=List.not_of_lt_findIdx hi;have hi':i<l.length:=by have:idx l y<l.length:=hlt;omega
  rw[oR hi']at hy;simp at this;exact this (aai hy)
theorem bW(a b:Nat):aar (.int (a:Int)) (.int (b:Int))=decide (a=b):=by
 simp only[aar]
 by_cases h:a=b
 .subst h;simp
 .have:¬((a:Int)=(b:Int)):=fun z=>h (aia z);simp[h,this]
theorem fe(l:List Nat):∀y∈natD l,Shp 0 y:=fun y hy=>by
 obtain⟨x,_,rfl⟩:=aaA.mp hy;exact d8 _
theorem ud(l:List Nat)(k x:Nat):(natD l).set k (.int (x:Int))=natD (l.set k x):=by
 unfold natD;rw[List.map_set]
def i7:SpM:=fun as K=>∃(l:List Nat) (k:Nat) (d:Int) (x:Nat),as=[.imm (lnD l),.imm (.int (k:Int)),.imm (.int d)]/\k<l.length/\l.length≤1000/\(l.getD k 0:Int)+d=(x:Int)/\K (.imm (lnD (l.set k x))) []
def lwD(p:List Nat×Wd):iO:=.tuple [lnD p.1,.str p.2.s]
def BJ:SpM:=fun as K=>∃(h:Hall) (l:List Nat) (k:Nat),as=[.imm h.d,.imm (lnD l),.imm (.int (k:Int))]/\h.Ok/\Lines h l/\k<h.ss.length/\K (.imm (lwD (d6 h l k))) []
def B9:SpM:=fun as K=>∃(l:List Nat) (k:Nat),as=[.imm (lnD l),.imm (.int (k:Int))]/\k<l.length/\l.length≤1000/\K (.imm (lwD (di l k))) []
def optP:Option (Nat×Nat)->iO
 |none=>.none
 |some p=>.tuple [.int (p.1:Int),.int (p.2:Int)]
def vD:SpM:=fun as K=>∃(h:Hall) (l:List Nat),as=[.imm h.d,.imm (lnD l)]/\l≠[]/\l.length≤1000/\K (.imm (optP (dA h l))) []
def nK:SpM:=fun as K=>∃(h:Hall) (l:List Nat),as=[.imm h.d,.imm (lnD l)]/\l≠[]/\l.length≤1000/\K (.imm (lnD (dn h l))) []
theorem fU(e:dA h l=some p):h.mv=true/\l[p.1]?=some (maxN l)/\2≤maxN l/\l[p.2]?=some 0/\p.1≠p.2:=by
 unfold dA at e
 split at e
 .rename_i q;obtain⟨q1,q2,q3⟩:=q;have hne:l≠[]:=fun z=>by rw[z]at q2;cases q2
  have s1:=(fO (h9 hne)).1;have s0:=(fO q2).1;cases e;refine⟨q1,s1,q3,s0,fun z=>?_⟩;have z':idx l (maxN l)=idx l 0:=z;rw[z',s0]at s1;have:=aai s1;omega
 .cases e
theorem iG(e:dA h l=some p):cc l p=(l.set p.1 (maxN l-1)).set p.2 1/\p.1<l.length/\p.2<l.length/\(cc l p).count 0+1=l.count 0/\(cc l p).length=l.length:=by
 obtain⟨h0,h1,h2,h3,h4⟩:=fU e;have l1:=(aad.mp h1).1;have l2:=(aad.mp h3).1;have g1:l.getD p.1 0=maxN l:=aW h1;have g2:(l.set p.1 (maxN l-1)).getD p.2 0=0:=aW (by rw[aaM h4];exact h3);have es:cc l p=(l.set p.1 (maxN l-1)).set p.2 1:=by unfold cc;rw[g1,g2]
 have v1:l[p.1]=maxN l:=by rw[oR l1]at h1;exact aai h1
 have v2:l[p.2]=0:=by rw[oR l2]at h3;exact aai h3
 refine⟨es,l1,l2,?_,by rw[es,abo,abo]⟩;have c0:0<l.count 0:=List.count_pos_iff.mpr (OR h3);have l2':p.2<(l.set p.1 (maxN l-1)).length:=by rw[abo];exact l2
 have v2':(l.set p.1 (maxN l-1))[p.2]=0:=by rw[adX h4];exact v2
 rw[es,List.count_set l2',List.count_set l1,v2',v1];have d1:(maxN l==0)=false:=by simp;omega
 have d2:(maxN l-1==0)=false:=by simp;omega
 rw[d1,d2];simp;omega
theorem ja(e:dA h l=none):∀n,cQ h n l=l
 |0=>rfl
 |n+1=>by simp[cQ,e]
def p8(h:Hall)(r:Rule)(t:Nat):Nat:=match r with
 | .turns=>(t+1)%h.ss.length
 |_=>t
def yI:SpM:=fun as K=>∃(h:Hall) (r:Rule) (t:Nat),as=[.imm h.d,.imm r.d,.imm (.int (t:Int))]/\h.Ok/\K (.imm (.int (p8 h r t:Nat))) []
def zr(h:Hall)(r:Rule)(l:List Nat)(t:Nat):Mv->iO
 | .come o=>.int (sent h r l t o:Nat)
 | .done k=>.int (k:Int)
 | .still=>.none
def sw:SpM:=fun as K=>∃(h:Hall) (r:Rule) (l:List Nat) (t:Nat) (mv:Mv),as=[.imm h.d,.imm r.d,.imm (stD l t),.imm mv.d]/\h.Ok/\r.Ok h/\Lines h l/\mv.Ok h/\K (.imm (zr h r l t mv)) []
def cX(h:Hall)(r:Rule)(l:List Nat)(t:Nat):Mv->List Nat×Nat×Wd
 | .come o=>(dn h (d6 h l (sent h r l t o)).1,p8 h r t,(d6 h l (sent h r l t o)).2)
 | .done k=>(dn h (di l k).1,t,(di l k).2)
 | .still=>(dn h l,t,.none)
def mvD(p:List Nat×Nat×Wd):iO:=.tuple [stD p.1 p.2.1,.str p.2.2.s]
def xu:SpM:=fun as K=>∃(h:Hall) (r:Rule) (l:List Nat) (t:Nat) (mv:Mv),as=[.imm h.d,.imm r.d,.imm (stD l t),.imm mv.d]/\h.Ok/\r.Ok h/\Lines h l/\mv.Ok h/\(r = .turns->t<h.ss.length)/\K (.imm (mvD (cX h r l t mv))) []
theorem qi{o:List Nat}(ho:h.Ok)(hr:r.Ok h)(hL:Lines h l)(hO:Ord h.ss.length o)(ht:r = .turns->t<h.ss.length):sent h r l t o<h.ss.length:=by
 cases r with
 |random=>obtain⟨k0,k1,rfl,h0⟩:=hO.cons;exact h0
 |turns=>exact ht rfl
 |two=>exact fx (lt:=bj l) hO 2
 |least=>have:=fx (lt:=bj l) hO o.length;rw[aag]at this;exact this
 |quick=>have:=fx (lt:=bH h l) hO o.length;rw[aag]at this;exact this
 |told ps =>
  have hlt:placeF 0 h.rs l<ps.length:=by rw[hr.1,allR_cnt];exact place_lt hL.fits
  exact hr.2 _ (OR (getN rfl hlt))
theorem Lines.set{k x:Nat}(hL:Lines h l)(hx:∀s,h.ss[k]?=some s->x≤s.r):Lines h (l.set k x):=by
 refine⟨by rw[abo];exact hL.1,fun i s y e1 e2=>?_⟩
 by_cases hi:k=i
 .subst hi;have hlt:k<l.length:=by rw[hL.1];exact(aad.mp e1).1
  rw[aaS hlt]at e2;cases e2;exact hx s e1
 .rw[aaM hi]at e2;exact hL.2 i s y e1 e2
theorem Lines.at{k:Nat}(hL:Lines h l)(hk:k<h.ss.length):∃s,h.ss[k]?=some s/\l.getD k 0≤s.r/\h.rn k=s.r/\s∈h.ss:=by
 obtain⟨s,es,ea,eb,hs⟩:=h.srv hk;exact⟨s,es,hL.2 k s _ es (getN hL.1 hk),aW (Hall.rs_get es),hs⟩
theorem uJ{k:Nat}(hL:Lines h l)(hk:k<h.ss.length):Lines h (d6 h l k).1:=by
 obtain⟨s,es,hle,er,hs⟩:=hL.at hk;unfold d6;split
 .exact hL
 .rename_i hne;refine hL.set fun s' e'=>?_;rw[es]at e';cases e';omega
theorem uq{k:Nat}(hL:Lines h l)(hk:k<h.ss.length):Lines h (di l k).1:=by
 obtain⟨s,es,hle,er,hs⟩:=hL.at hk;unfold di;split
 .exact hL
 .refine hL.set fun s' e'=>?_;rw[es]at e';cases e';omega
theorem gQ{h:Hall}(ho:h.Ok):∀(n:Nat) (l:List Nat),Lines h l->Lines h (cQ h n l)
 |0,l,hL=>hL
 | n+1,l,hL=>by
  simp only[cQ]
  cases e:dA h l with
  |none=>exact hL
  |some p =>
   obtain⟨es,l1,l2,hc,hlen⟩:=iG e;obtain⟨m0,m1,m2,m3,m4⟩:=fU e;refine gQ ho n _ ?_;rw[es];refine(hL.set (k:=p.1) (x:=maxN l-1) fun s e1=>?_).set fun s e1=>(ho.ok s (OR e1)).r1;have:=hL.2 p.1 s _ e1 m1;omega
theorem fC(ho:h.Ok)(hL:Lines h l):Lines h (dn h l):=gQ ho _ _ hL
structure St(h:Hall)(r:Rule)(l:List Nat)(t:Nat):Prop where
 ln:Lines h l
 tn:r = .turns->t<h.ss.length
 ts:t<4
theorem Bi(ho:h.Ok)(hs:t<4)(ht:r = .turns->t<h.ss.length):(r = .turns->p8 h r t<h.ss.length)/\p8 h r t<4:=by
 have n1:=ho.n1;have n4:=ho.n4
 cases r with
 |turns =>
  have:=ahs (t+1) (show h.ss.length>0 by omega);exact⟨fun _=>this,by show(t+1)%h.ss.length<4;omega⟩
 |_=>exact⟨(fun z=>by cases z),hs⟩
theorem me(ho:h.Ok)(hr:r.Ok h)(S:St h r l t){mv:Mv}(hm:mv.Ok h):St h r (cX h r l t mv).1 (cX h r l t mv).2.1:=by
 cases mv with
 |come o =>
  have:=Bi ho S.ts S.tn;exact⟨fC ho (uJ S.ln (qi ho hr S.ln hm S.tn)),this.1,this.2⟩
 |done k=>exact⟨fC ho (uq S.ln hm),S.tn,S.ts⟩
 |still=>exact⟨fC ho S.ln,S.tn,S.ts⟩
def TapeD(c:Nat)(ds:List iO):Prop:=∃(ns:List Int) (p q:Int),ds=[.list (ns.map .int),.int p,.int q]/\ns.length≤63/\0≤p/\p≤c/\0≤q
theorem TapeD.mono{c c':Nat}{ds:List iO}(h:TapeD c ds)(hc:c≤c'):TapeD c' ds:=by
 obtain⟨ns,p,q,e,h1,h2,h3,h4⟩:=h;exact⟨ns,p,q,e,h1,h2,by omega,h4⟩
def BZ:SpM:=fun as K=>∃ns:List Int,as=[.imm (.list (ns.map .int))]/\ns.length≤63/\∀ds,TapeD 0 ds->K (.new ds) []
def im:SpM:=fun as K=>∃(ds:List iO) (m:Int) (c:Nat),as=[.own ds,.imm (.int m)]/\TapeD c ds/\c<1000000000/\0<m/\m<1099511627776/\∀(r:Int) (ds':List iO),0≤r->r<m->TapeD (c+1) ds'->K (.imm (.int r)) [ds']
def CA:SpM:=fun as K=>∃a b:Nat,as=[.imm (.int a),.imm (.int b)]/\K (.imm (.int (a.gcd b:Nat))) []
def wj(ms:List (List Nat)):Prop:=ms≠[]/\ms.length≤1000/\∀rs∈ms,1≤rs.length/\rs.length≤4/\∀r∈rs,1≤r/\r≤6
def nu:SpM:=fun as K=>∃(h:Hall) (l:List Nat),as=[.imm h.d,.imm (lnD l)]/\l≠[]/\l.length≤1000/\K (.imm (lnD (dn h l))) []
theorem sumZ:∀l:List Nat,(l.map fun(x:Nat)=>(x:Int)).sum=((l.sum:Nat):Int)
 |[]=>rfl
 |x::l=>by rw[aao,ab9,ab9,sumZ l,abN]
theorem Cr:∀{l:List Nat}{N:Nat},(∀x∈l,x≤N)->l.sum≤N*l.length
 |[],N,_=>ac5 _
 |x::l,N,h=>by
  have h1:=h x aah;have h2:=Cr (l:=l) fun y hy=>h y (aaf _ hy);rw[ab9,aaL,Nat.mul_succ];omega
theorem wg:∀{l:List Nat}{x:Nat},x∈l->x≤l.sum
 |y::l,x,h=>by
  rw[ab9];obtain rfl|h:=aas.mp h
  .omega
  .have:=wg h;omega
theorem wJ(l:List Nat):du (natD l)=some (l.map fun(x:Nat)=>(x:Int)):=by
 have:=fj (l.map fun(x:Nat)=>(x:Int));rwa[abq]at this
def cutN(b:Nat)(p:Nat):Nat×Nat:=(p/p.gcd b,b/p.gcd b)
theorem mD{b p:Nat}(h1:1≤p)(h2:p<1000000)(h3:1≤b)(h4:b<1000000):1≤(cutN b p).1/\(cutN b p).1<1000000/\1≤(cutN b p).2/\(cutN b p).2<1000000:=by
 have g1:0<p.gcd b:=abl _ h3;have g2:p.gcd b≤b:=af7 _ h3;have g3:p.gcd b≤p:=Nat.gcd_le_left _ h1;have d1:=adD p (p.gcd b);have d2:=adD b (p.gcd b);exact⟨ah0 g3 g1,by show p/p.gcd b<1000000;omega,ah0 g2 g1,by show b/p.gcd b<1000000;omega⟩
theorem r8{α:Type}(n:Nat)(x:α):(aax n [x]).flatten=aax n x:=by
 induction n with
 |zero=>rfl
 |succ n ih=>rw[abr,acA,ih,abr];rfl
theorem y8(n x:Nat):aax n (abi (x:Int))=natD (aax n x):=by unfold natD;rw[afC]
def Je(p:Nat×Nat)(r:Nat):Srv:=⟨p.1,p.2,r⟩
theorem Af{r:Nat}(h:1≤p.1/\p.1<1000000/\1≤p.2/\p.2<1000000)(hr:1≤r/\r≤6):(Je p r).Ok:=⟨h.1,h.2.1,h.2.2.1,h.2.2.2,hr.1,hr.2⟩
end K
namespace L2
open PySem PySem.Spec PyProof.Rows
variable{x:Str}
section
variable {X:Cx}{a:Expr}{es:List Expr}{ws:WA}{pos p p2 p3:Pos}
def MD(K:aaj):List V->Hp->VK->Prop:=fun xs H Q=>∃(t:Bool) (l:Addr) (ns:List Int),xs=[.ref l]/\SqB t K H l (ns.map V.int)/\Q (.int ns.sum) H
theorem j8(ns:List Int):∀n,n≤ns.length->preSum (fun i=>ns.getD i 0) n=(ns.take n).sum
 |0,_=>by simp[preSum]
 |n+1,h=>by
  show preSum (fun i=>ns.getD i 0) n+ns.getD n 0=_;have hn:n<ns.length:=by omega
  rw[j8 ns n (by omega),aa1,oR hn,aW (oR hn),ad9];simp
theorem oJ(hc:X.calm=true):dj X (.builtin "sum") (MD X.K):=by
 rintro pins s σ H xs us Q I rv ⟨t,l,ns,ex,hq,q⟩;subst ex;obtain⟨u,rfl,ru⟩:=rv.one;cases ru;obtain⟨its,rvv,pl,_⟩:=I.sqb hq;have hi:afn its.toArray.toList ns:=ip rvv;have hl:its.length=ns.length:=by have:=rvv.length;rw[Ge]at this;omega
 refine call_sum_walkG (lW pl fun s2 e st hfp hlI=>?_);subst e;refine⟨s.heap.objs.size,[s.heap.objs.size,l],[s.heap.objs.size],its.toArray.size,fun i v=>its.toArray[i]?=some v,fun i h=>SubI t h s.heap.objs.size l i/\SubS t h l its.toArray,fun i=>ns.getD i 0,rfl,jP (A:=X.A.in1) t (I.ok.hd hc) _ l hlI its.toArray,st,hfp,jw hi,fun h' tk t' hk=>?_⟩;have e:preSum (fun i=>ns.getD i 0) its.toArray.size=ns.sum:=by
  rw[aap,hl,j8 ns ns.length (aac _),aag]
 rw[e];exact⟨.int ns.sum,H,I.kept (t':=tk) (mR hk),⟨_,rfl⟩,q⟩
def Kg:WC:=fun rs m K=>on1 (fun r=>∃ds ns,sqOf m r=some ds/\du ds=some ns/\K (.imm (.int ns.sum))) rs
theorem ur(hc:X.calm=true):dj X (.builtin "sum") (cM X.kx Kg):=by
 rintro pins s σ' H xs us Q I rv ⟨α,m,σ,H0,rs,Kc,Rl,h,ho,fin⟩;obtain⟨r,v,rfl,rfl,h1,ds,ns,e1,e2,ho⟩:=dL h ho;obtain⟨a,ys,rfl,f,g⟩:=h1.seq Rl e1;rw[iB e2]at g;have ey:=e8 g;subst ey;have go:Q (.int ns.sum) H:=fin _ _ H ho Rl (dM _) (Frm.refl _ _);rcases f with f|f
 .exact oJ hc pins s σ' H _ us Q I rv ⟨false,a,ns,rfl,f,go⟩
 .exact oJ hc pins s σ' H _ us Q I rv ⟨true,a,ns,rfl,f,go⟩
theorem IX{m:MSt}{r:R}{Kr:R->Prop}{ds:List iO}{ns:List Int}(e1:sqOf m r=some ds)(e2:du ds=some ns)(h:Kr (.imm (.int ns.sum))):Kg [r] m Kr:=⟨ds,ns,e1,e2,h⟩
theorem gf{K:Kd}{H:Hp}:∀ns:List Int,DenAll K H (ns.map .int) (ns.map V.int)
 |[]=>by simp only[abJ,DenAll]
 |n::ns=>by
  simp only[aao,DenAll];exact⟨.int n,_,rfl,by simp only[Den],gf ns⟩
end
section
variable {X:Cx}{a:Expr}{es:List Expr}{ws:WA}{pos p p2 p3:Pos}
theorem oq:abh "sorted" = some (.builtin "sorted"):=by decide +kernel
end
structure ConM(K:aaj)(mg:Str->Option GE)(x:Str)(d:iO):Prop where
 ex:∃(v:V) (u:GE),mg x=some u/\RelV v u/\∀(w:World) (H:Hp),Den ⟨K,w⟩ H d v
structure ConK(K:aaj)(x:Str)(d:iO):Prop where
 ex:∃(v:V) (u:GE),abw K aaU x=some (some u)/\RelV v u/\∀(w:World) (H:Hp),Den ⟨K,w⟩ H d v
theorem ConK.m{K:aaj}{mg:Str->Option GE}{h:aa6}{d:iO}(D:ConK K x d)(X:K.In h)(G:h.Ns aaU mg):ConM K mg x d:=by
 obtain⟨v,u,a,r,q⟩:=D.ex;exact⟨v,u,ahj X G a,r,q⟩
section
variable {X:Cx}{a b o e:Expr}{es:List Expr}{wo we:WE}{ws:WA}{apos cpos pos p:Pos}{tg:Expr}
theorem Lq{d:iO}(C:ConM X.K X.mg x d)(hg:Gl X x)(hd:(x==("__debug__" : Str))=false:=by decide):ME X (.Name x pos) (wC d):=by
 obtain⟨v,u,hm,r,q⟩:=C.ex;exact Fh (Ga hg hm r hd) fun α m σ H Kc Q Rl hw fin=>fin _ m v H hw rfl Rl (q _ _) (Frm.refl _ _)
theorem Fx{d:iO}(C:ConM X.K X.mg x d)(hg:Gl X x)(hd:(x==("__debug__" : Str))=false:=by decide):EE X (.Name x pos) (wC d):=⟨Lq C hg hd⟩
end
end L2
namespace HT
open PySem PySem.Spec PyProof.Rows
end HT
namespace L2
open PySem PySem.Spec PyProof.Rows
def intV:GE->Option Int
 | .int z _=>some z
 |_=>none
theorem kM:∀{its:List GE}{zs:List Int},its.map intV=zs.map some->Vals (zs.map V.int) its
 |[],[],_=>.nil
 |[],_::_,h=>by cases h
 |_::_,[],h=>by cases h
 |u::its,z::zs,h=>by
  obtain⟨h1,h2⟩:=List.cons.inj h;refine .cons ?_ (kM h2)
  cases u<;>first|(cases h1;exact⟨_,rfl⟩)|cases h1
theorem ConK.ints{K:aaj}{x:Str}{p:Addr}{its:Array GE}{n:Nat}{sl:Array (Option GE)}{zs:List Int}(a:abw K aaU x=some (some (.ref p)))(l:K.lookup p=some ⟨.type "tuple",none,.seq its n,sl⟩)(i:its.toList.map intV=zs.map some)(hz:its.size≤1000):ConK K x (.tuple (zs.map .int)):=by
 refine⟨.ref p,_,a,rfl,fun _ H=>?_⟩;exact cP (.inr ⟨_,its,n,l,rfl,rfl,rfl,by rw[aaq];omega,kM i⟩) (gf zs)
end L2
namespace L2
open PySem PySem.Spec PySem.W PyProof.Rows
def runC{α:Type}(n:Nat)(f:Nat->Nat->Bool):KasT α->Option α
 | .ret a=>some a
 | .ask i j k=>if i<n/\j<n then runC n f (k (f i j))else none
theorem xJ{α:Type}{n:Nat}{f:Nat->Nat->Bool}{cmp:Nat->Nat->(Bool->aab->Prop)->aab->Prop}{s:aab}(hc:∀i j C,i<n->j<n->C (f i j) s->cmp i j C s){Q:α->aab->Prop}:∀(t:KasT α) (a:α),runC n f t=some a->Q a s->t.kasWp cmp Q s
 | .ret b,a,e,q=>by
  have e':b=a:=aai e;subst e';exact q
 | .ask i j k,a,e,q=>by
  unfold runC at e
  split at e
  .rename_i h;exact hc i j _ h.1 h.2 (xJ hc (k (f i j)) a e q)
  .cases e
section
variable {X:Cx}
theorem lZ{K:Kd}{H:Hp}{ds:List iO}{xs:List V}(g:DenAll K H ds xs):∀p:List Nat,DenAll K H (p.map fun i=>ds.getD i .none) (p.map fun i=>xs.getD i .non)
 |[]=>by simp only[abJ,DenAll]
 | i::p=>by
  simp only[aao,DenAll];refine⟨_,_,rfl,?_,lZ g p⟩
  cases e:ds[i]? with
  |some d =>
   obtain⟨v,e2,hd⟩:=g.get e;rw[aW e,aW e2];exact hd
  |none =>
   have e2:xs[i]?=none:=by rw[List.getElem?_eq_none_iff]at e⊢;rw[<-g.length];exact e
   rw[aau,aau,e,e2];simp only[af1,Den]
theorem j3{xs:List V}{us:List GE}(r:Vals xs us):∀p:List Nat,Vals (p.map fun i=>xs.getD i .non) (p.map fun i=>us.getD i .none)
 |[]=>.nil
 | i::p=>by
  rw[aao,aao];refine .cons ?_ (j3 r p)
  cases e:xs[i]? with
  |some x =>
   obtain⟨u,e2,hu⟩:=r.get e;rw[aW e,aW e2];exact hu
  |none =>
   rw[aau,aau,e,r.none_of e];exact rfl
end
end L2
namespace K
open PySem L2 M7
def gl(n:Nat)(os:List (List Nat)):List (List Nat):=os.flatMap fun a=>((aaI n).filter fun l=>!a.contains l).map fun l=>a++[l]
def ordK(n:Nat):Nat->List (List Nat)
 |0=>[[]]
 |k+1=>gl n (ordK n k)
theorem lb{n:Nat}{os:List (List Nat)}{j:Nat}{a:List Nat}(h:os[j]?=some a):gl n (os.take (j+1))=gl n (os.take j)++((aaI n).filter fun l=>!a.contains l).map fun l=>a++[l]:=by
 unfold gl;rw[aa1,h,acJ];simp
theorem ci:∀n≤4,∀k≤4,(ordK n k).length≤24/\∀a∈ordK n k,a.length≤4/\∀x∈a,x≤3:=by decide +kernel
theorem gc:∀n≤4,∀k≤3,∀j≤24,(gl n ((ordK n k).take j)).length≤24:=by decide +kernel
end K
namespace L2
open PySem PySem.Spec PyProof.Rows
variable{v y:V}{u:GE}{P:aaZ}{w:World}{H H':Hp}{kvs:List (iO×iO)}{xs:List (List Key×Addr×GE)}{a:Addr}{Q:GE->aab->Prop}{τ:List (List Nat×Addr)}{p ρ:List Nat}{kk:Key}{es vs:List (Key×V)}{t:iO}{K:Kd}{α:Al}{m2:MSt}{σ:St}
section
variable {κ:Type} [DecidableEq κ]
def valV(kvs:List (κ×V))(k:κ):Option V:=(kvs.find? fun kv=>decide (kv.1=k)).map (·.2)
def putK(kvs:List (κ×V))(k:κ)(v:V):List (κ×V) :=
 if (kvs.any fun kv=>decide (kv.1=k))=true then kvs.map (fun kv=>if kv.1=k then(kv.1,v)else kv)else kvs++[(k,v)]
theorem jr{p:κ×V}{r:List (κ×V)}{k:κ}(e:p.1=k):valV (p::r) k=some p.2:=by simp[valV,ab5,e]
theorem jn{p:κ×V}{r:List (κ×V)}{k:κ}(e:¬p.1=k):valV (p::r) k=valV r k:=by simp[valV,ab5,e]
theorem ub(k:κ):∀kvs:List (κ×V),(kvs.any fun kv=>decide (kv.1=k))=(valV kvs k).isSome
 |[]=>rfl
 |p::r=>by
  rw[aeW]
  by_cases e:p.1=k
  .simp only[jr e,decide_eq_true e,Bool.true_or,Option.isSome_some]
  .rw[jn e,decide_eq_false e,Bool.false_or];exact ub k r
theorem jT(kvs:List (κ×V))(k:κ)(v:V):(putK kvs k v).length≤kvs.length+1:=by
 unfold putK;split
 .rw[Ge];omega
 .rw[aat,aaL,aea];omega
theorem RelO.isSome_eq{o:Option V}{u:Option GE}(r:RelO o u):o.isSome=u.isSome:=by
 cases o with
 |none=>cases u with
  |none=>rfl
  |some _=>exact(show False from r).elim
 |some _=>cases u with
  |none=>exact(show False from r).elim
  |some _=>rfl
theorem KV.val{kvs:List (κ×V)}{vs:List (κ×GE)}(r:KV kvs vs)(k:κ):RelO (valV kvs k) (afp vs k):=by
 unfold KV at r
 induction r with
 |nil=>exact aht
 | @cons p q ps qs h t ih =>
  obtain⟨h1,h2⟩:=h
  by_cases e:p.1=k
  .have e':q.1=k:=h1.symm.trans e;have b:afp (q::qs) k=some q.2:=by simp[afp,ab5,e']
   rw[jr e,b];exact h2
  .have e':¬q.1=k:=fun z=>e (h1.trans z);have b:afp (q::qs) k=afp qs k:=by simp[afp,ab5,e']
   rw[jn e,b];exact ih
theorem KV.any{kvs:List (κ×V)}{vs:List (κ×GE)}(r:KV kvs vs)(k:κ):(kvs.any fun kv=>decide (kv.1=k))=vs.any fun kv=>decide (kv.1=k):=by
 unfold KV at r
 induction r with
 |nil=>rfl
 |cons h t ih=>rw[aeW,aeW,ih,h.1]
theorem KV.repl{kvs:List (κ×V)}{vs:List (κ×GE)}(r:KV kvs vs)(k:κ)(ry:RelV y u) :
  KV (kvs.map fun kv=>if kv.1=k then(kv.1,y)else kv) (vs.map fun kv=>if kv.1=k then(kv.1,u)else kv):=by
 unfold KV at r⊢
 induction r with
 |nil=>exact .nil
 | @cons p q ps qs h t ih =>
  rw[aao,aao];refine .cons ?_ ih;obtain⟨h1,h2⟩:=h
  by_cases e:p.1=k
  .rw[if_pos e,if_pos (h1.symm.trans e)];exact⟨h1,ry⟩
  .rw[if_neg e,if_neg (fun z=>e (h1.trans z))];exact⟨h1,h2⟩
theorem KV.put{kvs:List (κ×V)}{vs:List (κ×GE)}(r:KV kvs vs)(k:κ)(ry:RelV y u):KV (putK kvs k y) (stored vs k u):=by
 unfold putK stored;rw[r.any k]
 by_cases e:(vs.any fun kv=>decide (kv.1=k))=true
 .rw[if_pos e,if_pos e];exact r.repl k ry
 .rw[if_neg e,if_neg e];exact Paired.snoc r ⟨rfl,ry⟩
theorem KV.length{kvs:List (κ×V)}{vs:List (κ×GE)}(r:KV kvs vs):kvs.length=vs.length:=ahd r
end
theorem Ap{k:Key}(r:RelV (kV k) u):(ce P w).is k u=true:=by
 cases k with
 |inl i=>obtain⟨t,e⟩:=(show ∃t,u=aib i t from r);subst e;exact qL P w i t
 |inr x=>obtain⟨t,e⟩:=(show ∃t,u=aic x t from r);subst e;exact qV P w x t
theorem pi{P:aaZ}{w:World}:∀{ks:List Key}{us:List GE},Vals (ks.map kV) us->ItemsAre (ce P w) ks us
 |[],_,r=>by rw[abJ]at r;cases r;exact .nil
 |k::ks,_,r=>by
  rw[aao]at r
  cases r with
  |cons h t=>exact .cons (Ap h) (pi t)
abbrev KT(H:Hp):List (List Key×V)->List (List Key×Addr×GE)->Prop:=abV fun p q=>p.1=q.1/\H q.2.1=some (.tup (p.1.map kV))/\RelV p.2 q.2.2
theorem KT.val{kvs:List (List Key×V)}(r:KT H kvs xs)(k:List Key):RelO (valV kvs k) ((atKey xs k).map (·.2)):=by
 induction r with
 |nil=>exact aht
 | @cons p q ps qs h t ih =>
  obtain⟨h1,_,h2⟩:=h
  by_cases e:p.1=k
  .have e':q.1=k:=h1.symm.trans e;have b:atKey (q::qs) k=some q.2:=by simp[atKey,ab5,e']
   rw[jr e,b];exact h2
  .have e':¬q.1=k:=fun z=>e (h1.trans z);have b:atKey (q::qs) k=atKey qs k:=by simp[atKey,ab5,e']
   rw[jn e,b];exact ih
theorem KT.repl{kvs:List (List Key×V)}(r:KT H kvs xs)(k:List Key)(ry:RelV y u) :
  KT H (kvs.map fun kv=>if kv.1=k then(kv.1,y)else kv) (xs.map (putAt k u)):=by
 induction r with
 |nil=>exact .nil
 | @cons p q ps qs h t ih =>
  rw[aao,aao];refine .cons ?_ ih;obtain⟨h1,h2,h3⟩:=h;unfold putAt
  by_cases e:p.1=k
  .rw[if_pos e,if_pos (h1.symm.trans e)];exact⟨h1,h2,ry⟩
  .rw[if_neg e,if_neg (fun z=>e (h1.trans z))];exact⟨h1,h2,h3⟩
theorem KT.put{kvs:List (List Key×V)}(r:KT H kvs xs)(k:List Key){b:Addr}(hb:H b=some (.tup (k.map kV)))(ry:RelV y u) :
  KT H (putK kvs k y) (storedH xs k b u):=by
 have e:(kvs.any fun kv=>decide (kv.1=k))=(atKey xs k).isSome:=by
  rw[ub,(r.val k).isSome_eq,Option.isSome_map]
 unfold putK storedH;rw[e]
 by_cases q:(atKey xs k).isSome=true
 .rw[if_pos q,if_pos q];exact r.repl k ry
 .rw[if_neg q,if_neg q];exact Paired.snoc r ⟨rfl,hb,ry⟩
theorem KT.keeps{kvs:List (List Key×V)}(r:KT H kvs xs)(ht:∀b ys,H b=some (.tup ys)->H' b=some (.tup ys)):KT H' kvs xs :=
 Paired.mapP r fun _ _ z=>⟨z.1,ht _ _ z.2.1,z.2.2⟩
section
variable {P:aaZ}{w:World}{H:Hp}{h:aa6}{a:Addr}
theorem Iw{u:HO}(ok:HOk P w H h)(e:Rd H a u):ObjOk P w H h a u:=e.ok ok
theorem vf{kvs:List (Key×V)}(ok:HOk P w H h)(e:Rd H a (.dK kvs)):kvs.length≤aam/\(a==abH)=false/\∃vs,KV kvs vs/\h.DictOf (ce P w) a vs :=
 show ObjOk P w H h a (.dK kvs)from Iw ok e
theorem Nq{kvs:List (Key×V)}(ok:HOk P w H h)(e:H a=some (.dK kvs)):kvs.length≤aam/\(a==abH)=false/\∃vs,KV kvs vs/\h.DictOf (ce P w) a vs:=vf ok (.inl e)
theorem v3{ks:List Key}(ok:HOk P w H h)(e:H a=some (.tup (ks.map kV))):(agY (ce P w)).is h ks a:=by
 obtain⟨_,its,r,o,h1,h2,hd,n,h3⟩:=(show ObjOk P w H h a (.tup (ks.map kV))from ok a _ e);exact⟨o,its.toArray,n,h1,h2,h3,by simpa using pi r⟩
theorem Ju{kvs:List (List Key×V)}(ok:HOk P w H h)(e:Rd H a (.dT kvs)):kvs.length≤aam/\(a==abH)=false /\
  ∃xs,KT H kvs xs/\h.DictOfH (agY (ce P w)) a xs:=by
 obtain⟨z,y,xs,r,o,es,ep,h1,h2,h3,h4,h5⟩:=(show ObjOk P w H h a (.dT kvs)from Iw ok e);refine⟨z,y,xs,r,o,es,ep,h1,h2,h3,h4,fun x hx=>?_,h5⟩;have all:∀{l:List (List Key×V)}{m:List (List Key×Addr×GE)},KT H l m->∀x∈m,(agY (ce P w)).is h x.1 x.2.1:=by
  intro l m q
  induction q with
  |nil=>intro x hx;exact nomatch hx
  | @cons p q ps qs hq t ih =>
   intro x hx;rcases aas.mp hx with e|hx
   .subst e;exact v3 ok (by rw[<-hq.1];exact hq.2.1)
   .exact ih x hx
 exact all r x hx
theorem Ml{kvs:List (List Key×V)}(ok:HOk P w H h)(e:H a=some (.dT kvs)):kvs.length≤aam/\(a==abH)=false /\
  ∃xs,KT H kvs xs/\h.DictOfH (agY (ce P w)) a xs:=Ju ok (.inl e)
end
def DGet(H:Hp)(a:Addr)(y:V)(r:Option V):Prop :=
 (∃kvs k,Rd H a (.dK kvs)/\y=kV k/\r=valV kvs k)\/∃kvs k b,Rd H a (.dT kvs)/\y = .ref b/\H b=some (.tup (k.map kV))/\r=valV kvs k
def DPut(H:Hp)(a:Addr)(y v:V)(H':Hp):Prop :=
 (∃kvs k,H a=some (.dK kvs)/\y=kV k/\kvs.length<aam/\H'=upd H a (.dK (putK kvs k v))) \/
 ∃kvs k b,H a=some (.dT kvs)/\y = .ref b/\H b=some (.tup (k.map kV))/\kvs.length<aam/\H'=upd H a (.dT (putK kvs k v))
theorem DPut.k{kvs:List (Key×V)}{k:Key}(e:H a=some (.dK kvs))(hl:kvs.length<aam):DPut H a (kV k) v (upd H a (.dK (putK kvs k v))):=.inl ⟨kvs,k,e,rfl,hl,rfl⟩
section
variable {X:Cx}{pins:List (Addr×Obj)}{σ:St}{H:Hp}{s:aab}{a:Addr}{y v:V}{u r:GE}{o:Option V}{A:abz}{E:GE->aab->Prop}
theorem Inv.big(I:Inv X pins σ H s):abH<s.heap.objs.size:=by
 have h:aaU<s.heap.objs.size:=(I.mod.glob.keeps I.bk).lt;exact aaY (by decide) h
theorem vI(hu:A.units+1<cLine)(I:Inv X pins σ H s)(g:DGet H a y (some v))(ry:RelV y u)(h:∀w' s',Inv X pins σ H s'->RelV v w'->Q w' s') :
  wpAny (model X.prog X.w) A (aeU (.ref a) u) Q E s:=by
 rcases g with⟨kvs,k,e,ey,l⟩|⟨kvs,k,b,e,ey,eb,l⟩
 .subst ey;obtain⟨z,hd,vs,rel,dd⟩:=vf I.hok e;obtain⟨w',hw,rw'⟩:=RelO.some_of (v:=v) (o:=afp vs k) (by rw[l];exact rel.val k);exact wpAny_getItem_of (Ap ry) dd.mapOf hw (h w' _ (I.tok _) rw')
 .subst ey
  cases (show u=acS b from ry)
  obtain⟨z,hd,xs,rel,dd⟩:=Ju I.hok e;obtain⟨w',hw,rw'⟩:=RelO.some_of (v:=v) (o:=(atKey xs k).map (·.2)) (by rw[l];exact rel.val k);obtain⟨p,hp,hp2⟩:=adx.mp hw;refine wpAny_getItem_heap (tupleKind_room_in1 hu) (v3 I.hok eb) dd hp ?_;rw[hp2];exact h w' _ (I.tok _) rw'
theorem qy{h':aa6}{t':Nat}{ob:HO}(I:Inv X pins σ H s)(mu:Mut (H a))(hs:abu a s.heap h')(he:∃q,h'.get? a=some q)(new:ObjOk X.prog X.w (upd H a ob) h' a ob) :
  Inv X pins σ (upd H a ob) {s with heap:=h',toks:=t' } :=
 I.write (x:=a) (e:=a) mu (.inl rfl) (fun b q hb z=>(hs.2 b hb).trans z) he new
theorem LD{h':aa6}{kvs:List (Key×V)}{vs:List (Key×GE)}(z:kvs.length≤aam)(hd:(a==abH)=false)(rel:KV kvs vs)(dd:h'.DictOf (ce P w) a vs) :
  ObjOk P w H' h' a (.dK kvs):=⟨z,hd,vs,rel,dd⟩
theorem vn{Q:Unit->aab->Prop}(hu:A.units+1<cLine)(I:Inv X pins σ H s)(g:DPut H a y v H')(ry:RelV y u)(rv:RelV v r)(h:∀s',Inv X pins σ H' s'->Q () s') :
  wpAny (model X.prog X.w) A (agZ (.ref a) u r) Q E s:=by
 rcases g with⟨kvs,k,e,ey,l,eH⟩|⟨kvs,k,b,e,ey,eb,l,eH⟩
 .subst ey eH;obtain⟨z,hd,vs,rel,dd⟩:=Nq I.hok e;have hz:vs.length≤aam:=by rw[<-rel.length];exact z
  have hl:(putK kvs k v).length≤aam:=by have:=jT kvs k v;omega
  refine wpAny_setItem_pairs (hsz:=hz) (Ap ry) dd fun h' dd' hs=>h _ ?_;have he:∃q,h'.get? a=some q:=let ⟨q,_,_,hq,_⟩:=dd';⟨q,hq⟩;exact qy I (by rw[e];exact aht) hs he (LD hl hd (rel.put k rv) dd')
 .subst ey eH
  cases (show u=acS b from ry)
  obtain⟨z,hd,xs,rel,dd⟩:=Ml I.hok e;have hz:xs.length≤aam:=by rw[<-ahd rel];exact z
  have hl:(putK kvs k v).length≤aam:=by have:=jT kvs k v;omega
  refine wpAny_setItem_heap (hsz:=hz) (tupleKind_room_in1 hu) (v3 I.hok eb) dd fun h' dd' hs=>h _ ?_;obtain⟨q,es,ep,hq,h2,h3,h4,_,h5⟩:=dd';refine qy I (by rw[e];exact aht) hs ⟨q,hq⟩ ⟨hl,hd,_,(rel.put k eb rv).keeps fun c ys ec=>?_,q,es,ep,hq,h2,h3,h4,h5⟩;rw[ap (qG ec e (fun z=>nomatch z))];exact ec
end
def NoSl(i:Expr):Prop:=∀ov iv,agL i false ov iv=operate [ov,iv] (aeU ov iv)
theorem GA{prog:aaZ}{A:abz}{E:GE->aab->Prop}{s:aab}{env:Env}{value slice:Expr}{pos:Pos}{T id:String}
  (hl:aho (.type T) "__getitem__" = pure (some (.builtin id))) (hs:NoSl slice)
  (h:wpAny (model prog w) A (eval value env) (fun o s₁=>wpAny (model prog w) A (eval slice env) (fun i s₂=>s₂.TypeIs o T/\wpAny (model prog w) A (aeU o i) Q E s₂) E s₁) E s) :
  wpAny (model prog w) A (eval (.Subscript value slice pos) env) Q E s:=by
 refine Subscript_ (ac9 h (fun o s₁ h₁=>ac9 h₁ (fun i s₂ h₂=>?_) fun _ _ x=>x) fun _ _ x=>x);obtain⟨hT,h₂⟩:=h₂;unfold ahh;refine gE ?_;rw[getitemInPython_of_ne hT.not_modules];refine gE (aeb hT hl ?_);have fin:wpAny (model prog w) A (agL slice false o i) (fun r s₃=>wpAny (model prog w) A (letTemporaryGo value o r >>= fun _=>pure r) Q E s₃) E s₂:=by
  rw[hs o i];exact wpAny_operating (ac9 h₂ (fun r s₃ h₃=>gE (wpAny_letTemporaryGo (aaa h₃))) fun _ _ x=>x)
 first
  |exact aaa (gE fin)
  |exact gE (aaa (gE fin))
  |exact gE fin
def OI(td ty tv:TE):TS:=fun D σ H=>tv σ H fun v H1=>td σ H1 fun x H2=>ty σ H2 fun y H3=>∃a H4,x = .ref a/\DPut H3 a y v H4/\D.nx σ H4
section
variable {X:Cx}{o i e value:Expr}{pos pos' tpos:Pos}{td ty tv:TE}
theorem Gi(hu:X.A.units+1<cLine)(ho:PE X o td)(hi:PE X i ty)(hv:PE X value tv)(hs:abY value (some (.Subscript o i pos')) pos.line X.env=pure false) :
  PS X (.Assign [.Subscript o i pos'] value pos) (OI td ty tv):=by
 intro pins s σ H D I h;refine ags (thn (hv pins s σ H _ I h) fun r s1 ⟨v,H1,I1,rv,q1⟩=>thn (ho pins s1 σ H1 _ I1 q1) fun u s2 ⟨x,H2,I2,rx,q2⟩=>thn (hi pins s2 σ H2 _ I2 q2) fun iv s3 ⟨y,H3,I3,ry,a,H4,ex,g,q3⟩=>?_) hs;subst ex;obtain rfl:u=acS a:=rx;exact vn hu I3 g ry rv fun s4 I4=>⟨σ,H4,I4,q3⟩
end
theorem rH(h:aa6)(hb:abH<h.objs.size):ObjOk P w H (h.push {cls:=.type "dict",data:=.dict #[]}) h.objs.size (.dK []) :=
 ⟨ac5 _,beq_eq_false_iff_ne.mpr (abt (aa4 hb)),[],.nil,aa6.DictOf.new h⟩
def IM:TE:=fun _ H Q=>∀p,H p=none->Q (.ref p) (upd H p (.dK []))
section
variable {X:Cx}{pos:Pos}
theorem pe_dnewK:PE X (.Dict [] [] pos) IM:=fun pins s σ H Q I h =>
 wpAny_Dict_empty ⟨.ref s.heap.objs.size,_,I.laid (a:=s.heap.objs.size) (o:=.dK []) (t':=s.toks) (fun _ _ q=>Io _ q) (aac _) (rH s.heap I.big),rfl,h _ (I.hok.fresh (aac _))⟩
end
section
variable {K:Kd}{H H':Hp}{τ:List (List Nat×Addr)}
mutual
theorem TAt.monoP(pe:Pers H H'):∀{d:iO}{p:List Nat}{v:V},(∀q a,τ.lookup (p++q)=some a->H' a=H a)->TAt K H τ p d v->TAt K H' τ p d v
 | .none,_,_,_,h=>by simp only[TAt]at h⊢;exact h.mono pe
 | .bool _,_,_,_,h=>by simp only[TAt]at h⊢;exact h.mono pe
 | .int _,_,_,_,h=>by simp only[TAt]at h⊢;exact h.mono pe
 | .str _,_,_,_,h=>by simp only[TAt]at h⊢;exact h.mono pe
 | .tuple _,_,_,_,h=>by simp only[TAt]at h⊢;exact h.mono pe
 | .list ts,p,_,e,h=>by
  simp only[TAt]at h⊢;obtain⟨a,xs,e1,e2,e3,g⟩:=h;exact⟨a,xs,e1,e2,(e [] a (by rw[abb];exact e1)).trans e3,TAtL.monoP pe (fun i q a z=>e (i::q) a z) g⟩
 | .dict kvs,p,_,e,h=>by
  simp only[TAt]at h⊢;rcases h with⟨d,e1,h⟩|⟨z1,z2,a,es,e1,e2,e3,k,g⟩|⟨z1,z2,a,es,e1,e2,e3,g⟩|⟨c,a,dx,C,xs,e0,e1,e2,e3,k,g⟩
  .exact .inl ⟨d,e1,h.mono pe⟩
  .exact .inr (.inl ⟨z1,z2,a,es,e1,e2,(e [] a (by rw[abb];exact e1)).trans e3,k,TAtD.monoP pe (fun i q a z=>e (i::q) a z) g⟩)
  .exact .inr (.inr (.inl ⟨z1,z2,a,es,e1,e2,(e [] a (by rw[abb];exact e1)).trans e3,TAtK.monoP pe (fun i q a z=>e (i::q) a z) g⟩))
  .exact .inr (.inr (.inr ⟨c,a,dx,C,xs,e0,e1,e2,(e [] a (by rw[abb];exact e1)).trans e3,k,TAtF.monoP pe (fun i q a z=>e (i::q) a z) g⟩))
theorem TAtL.monoP(pe:Pers H H'):∀{ds:List iO}{p:List Nat}{i:Nat}{xs:List V},(∀i q a,τ.lookup (p++i::q)=some a->H' a=H a)->TAtL K H τ p i ds xs->TAtL K H' τ p i ds xs
 |[],_,_,_,_,h=>by simpa only[TAtL]using h
 |t::ts,p,i,_,e,h=>by
  simp only[TAtL]at h⊢;obtain⟨v,vs,e1,g1,g2⟩:=h;exact⟨v,vs,e1,TAt.monoP pe (fun q a z=>e i q a (by simpa using z)) g1,TAtL.monoP pe e g2⟩
theorem TAtD.monoP(pe:Pers H H'):∀{ds:List (iO×iO)}{p:List Nat}{i:Nat}{xs:List (Int×V×V)},(∀i q a,τ.lookup (p++i::q)=some a->H' a=H a)->TAtD K H τ p i ds xs->TAtD K H' τ p i ds xs
 |[],_,_,_,_,h=>by simpa only[TAtD]using h
 |(k,t)::r,p,i,_,e,h=>by
  simp only[TAtD]at h⊢;obtain⟨u,v,vs,e1,g0,g1,g2⟩:=h;exact⟨u,v,vs,e1,g0.mono pe,TAt.monoP pe (fun q a z=>e i q a (by simpa using z)) g1,TAtD.monoP pe e g2⟩
theorem TAtK.monoP(pe:Pers H H'):∀{ds:List (iO×iO)}{p:List Nat}{i:Nat}{xs:List (Key×V)},(∀i q a,τ.lookup (p++i::q)=some a->H' a=H a)->TAtK K H τ p i ds xs->TAtK K H' τ p i ds xs
 |[],_,_,_,_,h=>by simpa only[TAtK]using h
 |(k,t)::r,p,i,_,e,h=>by
  simp only[TAtK]at h⊢;obtain⟨u,v,vs,e1,g0,g1,g2⟩:=h;exact⟨u,v,vs,e1,g0,TAt.monoP pe (fun q a z=>e i q a (by simpa using z)) g1,TAtK.monoP pe e g2⟩
theorem TAtF.monoP(pe:Pers H H'):∀{ds:List (iO×iO)}{p:List Nat}{i:Nat}{xs:List (Str×V)},(∀i q a,τ.lookup (p++i::q)=some a->H' a=H a)->TAtF K H τ p i ds xs->TAtF K H' τ p i ds xs
 |[],_,_,_,_,h=>by simpa only[TAtF]using h
 |(.str f,t)::r,p,i,_,e,h=>by
  simp only[TAtF]at h⊢;obtain⟨v,vs,e1,g1,g2⟩:=h;exact⟨v,vs,e1,TAt.monoP pe (fun q a z=>e i q a (by simpa using z)) g1,TAtF.monoP pe e g2⟩
 |(.none,d)::r,_,_,_,e,h=>by simp only[TAtF]at h⊢;exact TAtF.monoP pe e h
 |(.bool _,d)::r,_,_,_,_,h=>by simp only[TAtF]at h
 |(.int _,d)::r,_,_,_,_,h=>by simp only[TAtF]at h
 |(.list _,d)::r,_,_,_,_,h=>by simp only[TAtF]at h
 |(.tuple _,d)::r,_,_,_,_,h=>by simp only[TAtF]at h
 |(.dict _,d)::r,_,_,_,_,h=>by simp only[TAtF]at h
end
end
def setT:iO->List Nat->iO->iO
 |_,[],n=>n
 | .list ts,i::p,n=>.list (ts.set i (setT (ts.getD i .none) p n))
 | .dict kvs,i::p,n=>.dict (kvs.set i ((kvs.getD i (.none,.none)).1,setT (kvs.getD i (.none,.none)).2 p n))
 |t,_::_,_=>t
section
variable {K:Kd}{H H':Hp}{τ:List (List Nat×Addr)}{p q:List Nat}{P:List Nat}
theorem TAtL.setL(pe:Pers H H'){t':iO}:∀{ts:List iO}{i j:Nat}{xs:List V},TAtL K H τ p i ts xs->(∀v,xs[j]?=some v->TAt K H' τ (p++[i+j]) t' v)->(∀l,l≠i+j->∀q a,τ.lookup (p++l::q)=some a->H' a=H a)->TAtL K H' τ p i (ts.set j t') xs
 |[],_,_,_,h,_,_=>by simpa only[List.set_nil,TAtL]using h
 | t::ts,i,0,xs,h,c,e=>by
  simp only[TAtL]at h;obtain⟨v,vs,rfl,_,g2⟩:=h;simp only[afD,TAtL];refine⟨v,vs,rfl,c v rfl,?_⟩;clear c;have:∀{ts:List iO}{i':Nat}{vs:List V},i<i'->TAtL K H τ p i' ts vs->TAtL K H' τ p i' ts vs:=by
   intro ts
   induction ts with
   |nil=>intro i' vs _ h;simpa only[TAtL]using h
   |cons t ts ih =>
    intro i' vs hl h;simp only[TAtL]at h⊢;obtain⟨v,vs,rfl,g1,g2⟩:=h;exact⟨v,vs,rfl,TAt.monoP pe (fun q a z=>e i' (by omega) q a (by simpa using z)) g1,ih (by omega) g2⟩
  exact this (abP i) g2
 |t::ts,i,j+1,xs,h,c,e=>by
  simp only[TAtL]at h;obtain⟨v,vs,rfl,g1,g2⟩:=h;simp only[ady,TAtL];exact⟨v,vs,rfl,TAt.monoP pe (fun q a z=>e i (by omega) q a (by simpa using z)) g1,TAtL.setL pe g2 (fun v' z=>by rw[show i+1+j=i+(j+1) by omega];exact c v' (by simpa using z)) fun l hl=>e l (by omega)⟩
theorem TAtK.rest(pe:Pers H H'){i:Nat}(e:∀l,l≠i->∀q a,τ.lookup (p++l::q)=some a->H' a=H a):∀{ts:List (iO×iO)}{i':Nat}{vs:List (Key×V)},i<i'->TAtK K H τ p i' ts vs->TAtK K H' τ p i' ts vs
 |[],_,_,_,h=>by simpa only[TAtK]using h
 |(k,t)::ts,i',vs,hl,h=>by
  simp only[TAtK]at h⊢;obtain⟨kk,v,vs,rfl,g0,g1,g2⟩:=h;exact⟨kk,v,vs,rfl,g0,TAt.monoP pe (fun q a z=>e i' (by omega) q a (by simpa using z)) g1,TAtK.rest pe e (by omega) g2⟩
theorem TAtK.setK(pe:Pers H H'){t':iO}:∀{ts:List (iO×iO)}{i j:Nat}{xs:List (Key×V)}{k0 t0:iO},TAtK K H τ p i ts xs->ts[j]?=some (k0,t0)->(∀v,(∃kk,xs[j]?=some (kk,v))->TAt K H' τ (p++[i+j]) t' v)->(∀l,l≠i+j->∀q a,τ.lookup (p++l::q)=some a->H' a=H a)->TAtK K H' τ p i (ts.set j (k0,t')) xs
 |[],_,_,_,_,_,_,z,_,_=>by simp at z
 |(k,t)::ts,i,0,xs,k0,t0,h,z,c,e=>by
  simp at z;obtain⟨rfl,rfl⟩:=z;simp only[TAtK]at h;obtain⟨kk,v,vs,rfl,g0,_,g2⟩:=h;simp only[afD,TAtK];exact⟨kk,v,vs,rfl,g0,c v ⟨kk,rfl⟩,TAtK.rest pe e (abP i) g2⟩
 |(k,t)::ts,i,j+1,xs,k0,t0,h,z,c,e=>by
  simp only[TAtK]at h;obtain⟨kk,v,vs,rfl,g0,g1,g2⟩:=h;simp only[ady,TAtK];exact⟨kk,v,vs,rfl,g0,TAt.monoP pe (fun q a z=>e i (by omega) q a (by simpa using z)) g1,TAtK.setK pe g2 (by simpa using z) (fun v' ⟨kk',z⟩=>by rw[show i+1+j=i+(j+1) by omega];exact c v' ⟨kk',by simpa using z⟩) fun l hl=>e l (by omega)⟩
end
theorem tQ(nd:(τ.map (·.2)).Nodup){q:List Nat}(h1:τ.lookup p=some a)(h2:τ.lookup q=some a):p=q:=by
 induction τ with
 |nil=>cases h1
 | cons x τ ih =>
  obtain⟨r,b⟩:=x;rw[aao,abc]at nd;rw[ab6]at h1 h2
  by_cases e1:p==r
  .rw[e1]at h1;cases h1
   by_cases e2:q==r
   .rw[afs e1,afs e2]
   .simp only[af8]at e2;rw[e2]at h2;exact(nd.1 (bq h2)).elim
  .simp only[af8]at e1;rw[e1]at h1
   by_cases e2:q==r
   .rw[e2]at h2;cases h2;exact(nd.1 (bq h1)).elim
   .simp only[af8]at e2;rw[e2]at h2;exact ih nd.2 h1 h2
def v9:iO->iO->Bool
 | .int a,.int b=>decide (a=b)
 | .str a,.str b=>decide (a=b)
 |_,_=>false
theorem nQ(a b:Key):v9 (keyD a) (keyD b)=decide (a=b):=by
 cases a<;>cases b<;>simp[keyD,v9]
def putD(k t:iO):List (iO×iO)->List (iO×iO)
 |[]=>[(k,t)]
 |(k',t')::r=>if v9 k' k=true then(k',t)::r else(k',t')::putD k t r
def lfD:iO->iO
 | .list ds=>.dict [(.none,.list ds)]
 | .dict ds=>.dict [(.none,.dict ds)]
 |d=>d
theorem qC(h:isKd kvs=true):fzOf kvs=none/\excC kvs=none:=by
 cases kvs with
 |nil=>exact⟨rfl,rfl⟩
 |cons x r =>
  obtain⟨k,d⟩:=x
  cases k with
  |int _=>exact⟨rfl,rfl⟩
  |str _=>exact⟨rfl,rfl⟩
  |none=>simp[isKd]at h
  |bool _=>simp[isKd]at h
  |list _=>simp[isKd]at h
  |tuple _=>simp[isKd]at h
  |dict _=>simp[isKd]at h
section
variable {K:Kd}{H:Hp}{τ:List (List Nat×Addr)}{p:List Nat}
theorem TAtK.get':∀{ts:List (iO×iO)}{i j:Nat}{xs:List (Key×V)}{k t:iO},TAtK K H τ p i ts xs->ts[j]?=some (k,t)->∃kk v,xs[j]?=some (kk,v)/\k=keyD kk/\TAt K H τ (p++[i+j]) t v
 |[],_,_,_,_,_,_,e=>by simp at e
 |(k,t)::ts,i,0,xs,k',t',h,e=>by
  simp only[TAtK]at h;obtain⟨u,v,vs,rfl,g0,g1,_⟩:=h;simp at e;obtain⟨rfl,rfl⟩:=e;exact⟨u,v,rfl,g0.1,g1⟩
 |(k,t)::ts,i,j+1,xs,k',t',h,e=>by
  simp only[TAtK]at h;obtain⟨u,v,vs,rfl,_,_,g2⟩:=h;obtain⟨kk,v',e1,e0,e2⟩:=TAtK.get' (j:=j) g2 (by simpa using e);exact⟨kk,v',by simpa using e1,e0,by rw[show i+(j+1)=i+1+j by omega];exact e2⟩
theorem TAtK.kd:∀{ts:List (iO×iO)}{i:Nat}{xs:List (Key×V)},TAtK K H τ p i ts xs->isKd ts=true
 |[],_,_,_=>rfl
 |(k,t)::ts,i,xs,h=>by
  simp only[TAtK]at h;obtain⟨u,v,vs,rfl,g0,_,g2⟩:=h;have:=g2.kd;unfold isKd at this⊢;rw[acQ,this,g0.1]
  cases u<;>rfl
theorem TAtK.len:∀{ts:List (iO×iO)}{i:Nat}{xs:List (Key×V)},TAtK K H τ p i ts xs->ts.length=xs.length
 |[],_,_,h=>by simp only[TAtK]at h;subst h;rfl
 |(k,t)::ts,i,xs,h=>by
  simp only[TAtK]at h;obtain⟨u,v,vs,rfl,g0,_,g2⟩:=h;simp[g2.len]
theorem pC{u:Key}{w:V}(c:u≠kk):putK ((u,w)::vs) kk v=(u,w)::putK vs kk v:=by
 unfold putK;rw[aeW,decide_eq_false (show ¬((u,w):Key×V).1=kk from c),Bool.false_or]
 by_cases e:(vs.any fun kv=>decide (kv.1=kk))=true
 .rw[if_pos e,if_pos e,aao,if_neg (show ¬((u,w):Key×V).1=kk from c)]
 .rw[if_neg e,if_neg e];rfl
theorem qb{w:V}(h:∀x∈vs,x.1≠kk):putK ((kk,w)::vs) kk v=(kk,v)::vs:=by
 unfold putK;rw[aeW,decide_eq_true (show((kk,w):Key×V).1=kk from rfl),Bool.true_or,if_pos rfl,aao,if_pos rfl]
 congr 1
 exact(ag4 (g:=id) fun x hx=>if_neg (h x hx)).trans (List.map_id _)
theorem zU{x:Key×V}(h:x∈putK vs kk v):x.1=kk\/∃y∈vs,y.1=x.1:=by
 unfold putK at h
 split at h
 .obtain⟨y,h1,h2⟩:=aaA.mp h;subst h2;refine .inr ⟨y,h1,?_⟩
  split<;>rfl
 .obtain h|h:=abn.mp h
  .exact .inr ⟨x,h,rfl⟩
  .cases aaw.mp h
   exact .inl rfl
theorem TAtK.put{t':iO}{v':V}(c:∀j,TAt K H τ (p++[j]) t' v'):∀{ts:List (iO×iO)}{i:Nat}{xs:List (Key×V)},TAtK K H τ p i ts xs->TAtK K H τ p i (putD (keyD kk) t' ts) (putK xs kk v')
 |[],i,xs,h=>by
  simp only[TAtK]at h;subst h;simp only[putD,TAtK];exact⟨kk,v',[],rfl,⟨rfl,fun x hx=>by cases hx⟩,c i,rfl⟩
 | (k,t)::ts,i,xs,h=>by
  simp only[TAtK]at h;obtain⟨u,v,vs,rfl,g0,g1,g2⟩:=h;obtain⟨rfl,g0⟩:=g0;simp only[putD,nQ]
  by_cases e:u=kk
  .subst e;rw[if_pos (decide_eq_true rfl),qb g0];simp only[TAtK];exact⟨u,v',vs,rfl,⟨rfl,g0⟩,c i,g2⟩
  .rw[if_neg (by simpa using e),pC e];simp only[TAtK];refine⟨u,v,_,rfl,⟨rfl,fun x hx=>?_⟩,g1,g2.put c⟩;rcases zU hx with z|⟨y,hy,z⟩
   .rw[z];exact fun w=>e w.symm
   .rw[<-z];exact g0 y hy
theorem vp{d:iO}(h:Den K H d v):TAt K H τ p (lfD d) v:=by
 cases d with
 |list ds=>simp only[lfD,TAt];exact .inl ⟨_,rfl,h⟩
 |dict ds=>simp only[lfD,TAt];exact .inl ⟨_,rfl,h⟩
 |none=>simpa only[lfD,TAt]using h
 |bool _=>simpa only[lfD,TAt]using h
 |int _=>simpa only[lfD,TAt]using h
 |str _=>simpa only[lfD,TAt]using h
 |tuple _=>simpa only[lfD,TAt]using h
theorem TAt.kd(h:TAt K H τ p (.dict kvs) v)(e:isKd kvs=true):∃a es,τ.lookup p=some a/\v = .ref a/\H a=some (.dK es)/\TAtK K H τ p 0 kvs es:=by
 obtain⟨n1,n2⟩:=qC e;simp only[TAt]at h;rcases h with⟨d,e1,_⟩|⟨_,_,b,es,e1,e2,e3,kk,g⟩|⟨_,_,b,es,e1,e2,e3,g⟩|⟨c,b,dx,C,xs,e0,e1,e2,e3,kk,g⟩
 .rw[n1]at e1;cases e1
 .rw[kk.1]at e;cases e
 .exact⟨b,es,e1,e2,e3,g⟩
 .rw[n2]at e0;cases e0
end
def okW:iO->List Nat->Bool
 |_,[]=>true
 | .list ts,i::q=>okW (ts.getD i .none) q
 | .dict kvs,i::q=>(isKd kvs||(excC kvs).isSome)&&okW (kvs.getD i (.none,.none)).2 q
 |_,_::_=>false
theorem Av{i:Nat}{k t':iO}(h:isKd kvs=true)(e:kvs[i]?=some (k,t)):isKd (kvs.set i (k,t'))=true:=by
 unfold isKd at h⊢;rw[ab7]at h⊢;intro x hx;rcases afG hx with z|z
 .exact h x z
 .subst z;exact h (k,t) (OR e)
theorem TAtF.restF{K:Kd}{H H':Hp}{τ:List (List Nat×Addr)}{p:List Nat}(pe:Pers H H'){i:Nat}(e:∀l,l≠i->∀q a,τ.lookup (p++l::q)=some a->H' a=H a):∀{ts:List (iO×iO)}{i':Nat}{vs:List (Str×V)},i<i'->TAtF K H τ p i' ts vs->TAtF K H' τ p i' ts vs
 |[],_,_,_,h=>by simpa only[TAtF]using h
 |(.str f,t)::ts,i',vs,hl,h=>by
  simp only[TAtF]at h⊢;obtain⟨v,vs,rfl,g1,g2⟩:=h;exact⟨v,vs,rfl,TAt.monoP pe (fun q a z=>e i' (by omega) q a (by simpa using z)) g1,TAtF.restF pe e (by omega) g2⟩
 |(.none,d)::r,_,_,hl,h=>by simp only[TAtF]at h⊢;exact TAtF.restF pe e (by omega) h
 |(.bool _,d)::r,_,_,_,h=>by simp only[TAtF]at h
 |(.int _,d)::r,_,_,_,h=>by simp only[TAtF]at h
 |(.list _,d)::r,_,_,_,h=>by simp only[TAtF]at h
 |(.tuple _,d)::r,_,_,_,h=>by simp only[TAtF]at h
 |(.dict _,d)::r,_,_,_,h=>by simp only[TAtF]at h
theorem TAtF.setF{K:Kd}{H H':Hp}{τ:List (List Nat×Addr)}{p:List Nat}(pe:Pers H H'){t' t0:iO}{f0:Str}:∀{ts:List (iO×iO)}{i j:Nat}{xs:List (Str×V)},TAtF K H τ p i ts xs->ts[j]?=some (.str f0,t0)->(∀v,TAt K H τ (p++[i+j]) t0 v->TAt K H' τ (p++[i+j]) t' v)->(∀l,l≠i+j->∀q a,τ.lookup (p++l::q)=some a->H' a=H a)->TAtF K H' τ p i (ts.set j (.str f0,t')) xs
 |[],_,_,_,_,z,_,_=>by simp at z
 |(k,t)::ts,i,0,xs,h,z,c,e=>by
  simp at z;obtain⟨rfl,rfl⟩:=z;simp only[TAtF]at h;obtain⟨v,vs,rfl,g1,g2⟩:=h;simp only[afD,TAtF];exact⟨v,vs,rfl,c v g1,TAtF.restF pe e (abP i) g2⟩
 |(.str f,t)::ts,i,j+1,xs,h,z,c,e=>by
  simp only[TAtF]at h;obtain⟨v,vs,rfl,g1,g2⟩:=h;simp only[ady,TAtF];exact⟨v,vs,rfl,TAt.monoP pe (fun q a z=>e i (by omega) q a (by simpa using z)) g1,TAtF.setF pe g2 (by simpa using z) (fun v' zv=>by rw[show i+1+j=i+(j+1) by omega]at zv⊢;exact c v' zv) fun l hl=>e l (by omega)⟩
 |(.none,d)::ts,i,j+1,xs,h,z,c,e=>by
  simp only[TAtF]at h;simp only[ady,TAtF];exact TAtF.setF pe h (by simpa using z) (fun v' zv=>by rw[show i+1+j=i+(j+1) by omega]at zv⊢;exact c v' zv) fun l hl=>e l (by omega)
 |(.bool _,d)::r,_,_+1,_,h,_,_,_=>by simp only[TAtF]at h
 |(.int _,d)::r,_,_+1,_,h,_,_,_=>by simp only[TAtF]at h
 |(.list _,d)::r,_,_+1,_,h,_,_,_=>by simp only[TAtF]at h
 |(.tuple _,d)::r,_,_+1,_,h,_,_,_=>by simp only[TAtF]at h
 |(.dict _,d)::r,_,_+1,_,h,_,_,_=>by simp only[TAtF]at h
theorem TAt.ins{c:Str}(h:TAt K H τ p (.dict kvs) v)(e:excC kvs=some c):∃a dx C xs,τ.lookup p=some a/\v = .ref a/\H a=some (.ins C dx xs)/\ClsN K c C/\TAtF K H τ p 0 kvs xs:=by
 have hf:fzOf kvs=none:=by
  unfold excC at e
  split at e
  .unfold fzOf;split
   .rename_i z;simp at z
   .rename_i z;simp at z
   .rfl
  .cases e
 simp only[TAt]at h;rcases h with⟨d,e1,_⟩|⟨_,z2,_⟩|⟨_,z2,_⟩|⟨c',a,dx,C,xs,e0,e1,e2,e3,k,g⟩
 .rw[hf]at e1;cases e1
 .rw[e]at z2;cases z2
 .rw[e]at z2;cases z2
 .rw[e]at e0;cases e0;exact⟨a,dx,C,xs,e1,e2,e3,k,g⟩
theorem y0{i:Nat}{x:iO×iO}{c:Str}{k:iO}(h:excC kvs=some c)(e:kvs[i]?=some (k,t))(kn:k≠.none):excC (kvs.set i x)=some c:=by
 cases kvs with
 |nil=>cases h
 | cons y r =>
  cases i with
  |zero =>
   simp at e;subst e;unfold excC at h
   split at h
   .rename_i z;simp at z;exact(kn z.1.1).elim
   .cases h
  |succ i =>
   rw[ady];unfold excC at h⊢
   split at h
   .rename_i z;simp at z;obtain⟨rfl,rfl⟩:=z;exact h
   .cases h
theorem TAt.set{K:Kd}{H:Hp}{τ:List (List Nat×Addr)}(nd:(τ.map (·.2)).Nodup){a:Addr}{o:HO}{n:iO}(pe:Pers H (upd H a o)):∀{q p:List Nat}{t t0:iO}{v:V},TAt K H τ p t v->getT t q=some t0->okW t q=true->τ.lookup (p++q)=some a->TAt K (upd H a o) τ (p++q) n (.ref a)->(∀u,TAt K H τ (p++q) t0 u->u = .ref a)->TAt K (upd H a o) τ p (setT t q n) v
 |[],p,t,t0,v,h,e,_,_,hn,hu=>by
  cases e;rw[abb]at hn hu;rw[hu v h];unfold setT;exact hn
 | i::q,p,t,t0,v,h,e,ok,ea,hn,hu=>by
  have other:∀(r:List Nat) (b:Addr),τ.lookup r=some b->r≠p++i::q->(upd H a o) b=H b:=fun r b z ne=>ap fun eb=>by
   subst eb;exact ne (tQ nd z ea)
  have ea':τ.lookup ((p++[i])++q)=some a:=by simpa using ea
  have hn':TAt K (upd H a o) τ ((p++[i])++q) n (.ref a):=by simpa using hn
  have hu':∀u,TAt K H τ ((p++[i])++q) t0 u->u = .ref a:=fun u z=>hu u (by simpa using z);simp only[getT]at e
  cases z:chD t i with
  |none=>rw[z]at e;cases e
  | some t1 =>
   rw[z]at e;have e':getT t1 q=some t0:=e;have sib:∀l,l≠0+i->∀r b,τ.lookup (p++l::r)=some b->(upd H a o) b=H b:=fun l hl r b zz=>other _ _ zz fun y=>by
    have:=List.append_cancel_left y;injection this with h1 _
    omega
   have self:∀b,τ.lookup p=some b->(upd H a o) b=H b:=fun b zz=>other _ _ zz fun y=>by
    have:=congrArg ae1 y;simp at this
   cases t with
   |list ts =>
    have zi:ts[i]?=some t1:=z;have hg:ts.getD i .none=t1:=by rw[aau,zi];rfl
    simp only[TAt]at h;obtain⟨b,xs,e1,e2,e3,g⟩:=h;simp only[setT,hg,TAt];refine⟨b,xs,e1,e2,(self b e1).trans e3,TAtL.setL pe g (fun v1 zv=>?_) sib⟩;obtain⟨v2,ev2,g2⟩:=g.get (j:=i) zi;rw[zv]at ev2;cases ev2;rw[abO]at g2⊢;exact TAt.set nd pe g2 e' (by simp only[okW,hg]at ok;exact ok) ea' hn' hu'
   | dict kvs =>
    simp only[chD]at z
    cases zi:kvs[i]? with
    |none=>rw[zi]at z;cases z
    |some kt =>
     obtain⟨k,t2⟩:=kt;rw[zi]at z;have kn:k≠.none:=fun w=>by subst w;cases z
     have e2:t2=t1:=by split at z<;>simp_all
     subst e2;have hg:kvs.getD i (.none,.none)=(k,t2):=by rw[aau,zi];rfl
     simp only[okW,hg,aaH,ad8]at ok;rcases ok.1 with ok1|ok1
     .obtain⟨b,es,e1,e2,e3,g⟩:=h.kd ok1;have kd':isKd (kvs.set i (k,setT t2 q n))=true:=Av ok1 zi;obtain⟨n1,n2⟩:=qC kd';simp only[setT,hg,TAt];refine .inr (.inr (.inl ⟨n1,n2,b,es,e1,e2,(self b e1).trans e3,TAtK.setK pe g zi (fun v1 ⟨kk,zv⟩=>?_) sib⟩));obtain⟨kk2,v2,ev2,_,g2⟩:=g.get' (j:=i) zi;rw[zv]at ev2;cases ev2;rw[abO]at g2⊢;exact TAt.set nd pe g2 e' ok.2 ea' hn' hu'
     .obtain⟨c,ec⟩:=afQ.mp ok1;obtain⟨b,dx,C,xs,e1,e2,e3,kc,g⟩:=h.ins ec;obtain⟨f0,rfl⟩:=g.key (OR zi) kn;have ec':excC (kvs.set i (.str f0,setT t2 q n))=some c:=y0 ec zi kn;simp only[setT,hg,TAt];refine .inr (.inr (.inr ⟨c,b,dx,C,xs,ec',e1,e2,(self b e1).trans e3,kc,TAtF.setF pe g zi (fun v1 g2=>?_) sib⟩));rw[abO]at g2⊢;exact TAt.set nd pe g2 e' ok.2 ea' hn' hu'
   |none=>cases z
   |bool _=>cases z
   |int _=>cases z
   |str _=>cases z
   |tuple _=>cases z
def onAt(P:Nat->List Nat->Prop):R->Prop
 | .at k p=>P k p
 |_=>False
def xL(P:iO->Prop):R->Prop
 | .imm (.int i)=>P (.int i)
 | .imm (.str x)=>P (.str x)
 |_=>False
section
variable {K:Kx}{α:Al}{Hb H:Hp}{r:R}{v:V}{m:MSt}{σ:St}
theorem Jz{P:Nat->List Nat->Prop}(rr:RelR K α Hb H r v)(h:onAt P r):∃k p τ a,r = .at k p/\α[k]?=some (.T τ)/\τ.lookup p=some a/\v = .ref a/\P k p:=by
 unfold onAt at h
 split at h
 .obtain⟨τ,a,e1,e2,e3⟩:=rr;exact⟨_,_,τ,a,rfl,e1,e2,e3,h⟩
 .exact h.elim
theorem Jk{P:iO->Prop}(rr:RelR K α Hb H r v)(h:xL P r):∃kk:Key,r = .imm (keyD kk)/\v=kV kk/\P (keyD kk):=by
 unfold xL at h
 split at h
 .rename_i i;exact⟨.inl i,rfl,aL (show Den K H (.int i) v from rr),h⟩
 .rename_i x;exact⟨.inr x,rfl,bu (show Den K H (.str x) v from rr),h⟩
 .exact h.elim
theorem Rel.dict(Rl:Rel K α m σ H){k:Nat}(e1:α[k]?=some (.T τ))(e2:τ.lookup p=some a)(e3:m.os[k]?=some [t])(e4:getT t p=some (.dict kvs))(e5:isKd kvs=true) :
  ∃es,H a=some (.dK es)/\TAtK K H τ p 0 kvs es:=by
 obtain⟨⟨t1,v0,z,g,_⟩,_⟩:=Rl.own k (.T τ) _ e1 e3;cases z;obtain⟨v',g'⟩:=g.get e4;rw[adC]at g';obtain⟨a',es,ea,_,ed,gk⟩:=g'.kd e5;rw[e2]at ea;cases ea;exact⟨es,ed,gk⟩
end
section
variable {X:Cx}{o i e:Expr}{wo wi we:WE}{pos pos':Pos}
def IU(m:MSt)(k:Nat)(p:List Nat)(y d:iO)(P:iO->Prop):Prop:=∃t kvs,m.os[k]?=some [t]/\getT t p=some (.dict kvs)/\isKd kvs=true/\okW t p=true/\kvs.length<aam/\P (setT t p (.dict (putD y (lfD d) kvs)))
def Fg(we wo wi:WE):WS:=fun D m=>we m fun rv m1=>df (fun d=>wo m1 fun ro m2=>wi m2 fun ri m3=>onAt (fun k p=>xL (fun y=>IU m3 k p y d fun t=>D.nx {m3 with os:=m3.os.set k [t]}) ri) ro) rv
theorem Du(hu:X.A.units+64<cLine)(he:ME X e we)(ho:ME X o wo)(hi:ME X i wi)(hs:abY e (some (.Subscript o i pos')) pos.line X.env=pure false:=by rfl):MS X (.Assign [.Subscript o i pos'] e pos) (Fg we wo wi):=(Gi (by omega) ho hi he hs).wk fun D σ H ⟨α,m,De,Rl,hw,k⟩=>by
 refine⟨α,m,_,Rl,hw,fun r m1 v H1 q n1 Rl1 rr F1=>?_⟩;obtain⟨d,er,hd,q⟩:=fw rr q;refine⟨α,m1,_,Rl1,q,fun ro m2 ov H2 q2 n2 Rl2 rr2 F2=>⟨α,m2,_,Rl2,q2,fun ri m3 iv H3 q3 n3 Rl3 rr3 F3=>?_⟩⟩;obtain⟨kk,p,τ,a,rfl,e1,e2,rfl,q3⟩:=Jz rr2 q3;obtain⟨y,rfl,rfl,t,kvs,e3,e4,e5,e6,e7,q3⟩:=Jk rr3 q3;obtain⟨es,ed,gk⟩:=Rl3.dict e1 e2 e3 e4 e5;have hd3:Den X.kx H3 d v:=(hd.mono (Rl1.pers F2)).mono (Rl2.pers F3);obtain⟨⟨t1,v0,z,g,a0,ea0,ev0⟩,mu⟩:=Rl3.own kk (.T τ) _ e1 e3;cases z;have pe:Pers H3 (upd H3 a (.dK (putK es y v))):=br (.inr ⟨_,ed,rfl⟩);have nd:(τ.map (·.2)).Nodup:=((gA α).mp Rl3.nd).1 (.T τ) (OR e1);have gk':TAtK X.kx (upd H3 a (.dK (putK es y v))) τ p 0 kvs es:=TAtK.monoP pe (fun i q b zb=>ap fun eb=>by
  subst eb;have:=congrArg ae1 (tQ nd zb e2);simp at this) gk
 have new:TAt X.kx (upd H3 a (.dK (putK es y v))) τ p (.dict (putD (keyD y) (lfD d) kvs)) (.ref a):=by
  have gp:=gk'.put (kk:=y) (t':=lfD d) (v':=v) fun j=>vp (hd3.mono pe);obtain⟨z1,z2⟩:=qC gp.kd;simp only[TAt];exact .inr (.inr (.inl ⟨z1,z2,a,_,e2,rfl,aw,gp⟩))
 have all:TAt X.kx (upd H3 a (.dK (putK es y v))) τ [] (setT t p (.dict (putD (keyD y) (lfD d) kvs))) v0:=TAt.set nd pe g e4 e6 (by rw[adC];exact e2) (by rw[adC];exact new) fun u hu'=>by
  rw[adC]at hu';obtain⟨a',es',ea',eu,_⟩:=hu'.kd e5;rw[e2]at ea';cases ea';exact eu
 obtain⟨R4,F4⟩:=Rl3.setW e1 pe (ds':=[setT t p (.dict (putD (keyD y) (lfD d) kvs))]) (fun b hb=>ap fun eb=>hb (eb▸bq e2)) ⟨⟨_,v0,rfl,all,a0,ea0,ev0⟩,fun b hb=>by
  by_cases eb:b=a
  .subst eb;exact⟨_,aw,rfl⟩
  .rw[ap eb];exact mu b hb⟩
 exact⟨a,_,rfl,DPut.k ed (by rw[<-gk.len];exact e7),k.nx α _ σ _ q3 (n3.trans (n2.trans n1)) R4 (.of R4 (((F1.trans F2).trans F3).trans F4))⟩
def lfKV(kvs:List (iO×iO)):List (iO×iO):=kvs.map fun kv=>(kv.1,lfD kv.2)
end
section
variable {m:MSt}{Q:R->MSt->Prop}{wo wi we:WE}{D:dB}
theorem KO{P:Nat->List Nat->Prop}{k:Nat}(h:P k p):onAt P (.at k p):=h
theorem rL{P:iO->Prop}{x:Str}(h:P (.str x)):xL P (.imm (.str x)):=h
theorem Ik(h:we m fun rv m1=>df (fun d=>wo m1 fun ro m2=>wi m2 fun ri m3=>onAt (fun k p=>xL (fun y=>IU m3 k p y d fun t=>D.nx {m3 with os:=m3.os.set k [t]}) ri) ro) rv):Fg we wo wi D m:=h
theorem jm{n:Nat}{P:MSt->Prop}(h:P {vs:=m.vs.set n (some (.at m.os.length [])),os:=m.os++[[t]],np:=m.np}):o6 n P m (.newT t):=.inl h
end
section
variable {X:Cx}{o i e:Expr}{wo wi we:WE}{pos pos':Pos}
theorem zX(hu:X.A.units+64<cLine)(he:EE X e we)(ho:EE X o wo)(hi:EE X i wi)(hs:abY e (some (.Subscript o i pos')) pos.line X.env=pure false:=by rfl):ES X (.Assign [.Subscript o i pos'] e pos) (Fg we wo wi):=⟨Du hu he.h ho.h hi.h hs⟩
end
def isFz:HO->Bool
 | .lst _=>true
 | .dK _=>true
 | .ext _=>true
 |_=>false
section
variable {X:Cx}{pins:List (Addr×Obj)}{σ:St}{H:Hp}{s:aab}
theorem Inv.freezeU{u:HO}(I:Inv X pins σ H s)(h:H a=some u)(hu:isFz u=true):∃o,Inv X pins σ (upd H a (.frz o u)) s:=by
 have ok:=I.hok a u h;obtain⟨o,e⟩:∃o,s.heap.get? a=some o:=by
  cases u with
  |lst xs=>obtain⟨_,its,n,_,e⟩:=ok;exact⟨_,e⟩
  |dK kvs=>obtain⟨_,_,vs,_,o,_,_,e,_⟩:=ok;exact⟨_,e⟩
  |ext φ=>exact ok.2.1
  |_=>cases hu
 have nt:∀{b:Addr}{v:HO},H b=some v->v≠u->b≠a:=fun q z=>qG q h z;refine⟨o,I.un (h':=s.heap) (t':=s.toks) ⟨fun b ob q _ _ _=>q,fun b ob q _ _ _=>⟨ob.slots,q⟩,fun b ob q z _=>?_,fun b ob q _=>⟨ob,q⟩,fun b ys q=>?_,fun b ob v q=>?_,fun b ps q=>⟨#[],?_⟩⟩ fun b ob q=>?_⟩
 .rw[ap (abt (bf h z))];exact z
 .rw[ap (nt q (by intro z;subst z;cases hu))];exact q
 .rw[ap (nt q (by intro z;subst z;cases hu))];exact q
 .rw[ap (nt q (by intro z;subst z;cases hu)),q];simp
 .have stay:∀{c:Addr}{v:HO},ObjOk X.prog X.w H s.heap c v->ObjOk X.prog X.w (upd H a (.frz o u)) s.heap c v:=fun x=>x.stay (fun _ _ _ z=>z) (fun c z=>by rw[ap (nt z (by intro z;subst z;cases hu))];exact z) fun c ys z=>by rw[ap (nt z (by intro z;subst z;cases hu))];exact z
  by_cases hb:b=a
  .subst hb;rw[aw]at q;cases q;exact⟨e,stay ok⟩
  .rw[ap hb]at q;exact stay (I.hok b ob q)
end
def tFrz(t:TS):TS:=fun D σ H=>∃a u,H a=some u/\isFz u=true/\∀o,t D σ (upd H a (.frz o u))
section
variable {X:Cx}{st:Stmt}{w:WS}
theorem CC{t:TS}(h:PS X st t):PS X st (tFrz t):=fun pins s σ H D I ⟨a,u,e,hu,q⟩=>by
 obtain⟨o,I'⟩:=I.freezeU e hu;exact h pins s σ _ D I' (q o)
theorem zT{K:Kx}{m:MSt}(Rl:Rel K α m σ H)(N:Ren ρ m m2):Rel K (ρ.map fun k=>α.getD k (.L 0)) m2 σ H/\Ext m.np α H (ρ.map fun k=>α.getD k (.L 0)) H:=by
 have pr:=fY Rl.len N.lt;have get:∀(k:Nat) (ao:Ao),(ρ.map fun k=>α.getD k (.L 0))[k]?=some ao->∃j:Nat,ρ[k]?=some j/\α[j]?=some ao:=fun k ao z=>by
  obtain⟨j,h1,h2⟩:=Paired.get2 pr z;exact⟨j,h1,h2⟩
 have fwd:∀(k j:Nat) (ao:Ao),ρ[k]?=some j->α[j]?=some ao->(ρ.map fun k=>α.getD k (.L 0))[k]?=some ao:=fun k j ao z1 z2=>by
  obtain⟨ao',z3,z4⟩:=Paired.get' pr z1;rw[z2]at z4;cases z4;exact z3
 have pre':(ρ.map fun k=>α.getD k (.L 0)).take m.np=α.take m.np:=by
  apply ace;intro l;rw[aaV,aaV]
  by_cases hl:l<m.np
  .rw[if_pos hl,if_pos hl];have:ρ[l]?=some l:=by
    have e:=congrArg (·[l]?) N.pre;simp only[aaV,if_pos hl]at e;rw[e,abW hl]
   have hl2:l<α.length:=aaz hl Rl.npl;rw[fwd l l α[l] this (oR hl2),oR hl2]
  .rw[if_neg hl,if_neg hl]
 have ext:Ext m.np α H (ρ.map fun k=>α.getD k (.L 0)) H:=⟨pre',Frm.refl _ _,fun a ha=>by
  obtain⟨k,ao,e1,hm⟩:=ig ha;obtain⟨j,_,e2⟩:=get k ao e1;exact .inl (iZ e2 hm),fun a ha=>by
  obtain⟨o,q,_⟩:=Rl.mem ha;exact⟨_,q⟩⟩
 refine⟨⟨fG Rl.nd N.nd pr,?_,fun k ao ds z1 z2=>?_,?_,fun j r z=>?_,?_,by rw[N.np];exact Rl.ebl,Rl.ebx.trans (ext.less Rl.ebl)⟩,ext⟩
 .rw[N.os,Ge,Ge]
 .obtain⟨j,q,qa⟩:=get k ao z1;rw[N.os,aae,q]at z2;have hj:j<m.os.length:=N.lt j (OR q);have z2':m.os.getD j []=ds:=aai z2;refine Rl.own j ao ds qa ?_;rw[<-z2',aau,oR hj];rfl
 .rw[N.vl];exact Rl.vlen
 .have h:=N.vs j r z
  cases r with
  |imm d=>exact Rl.var j (.imm d) h
  |new _=>exact h.elim
  |newT _=>exact h.elim
  |obj k =>
   obtain⟨j',q,h⟩:=h;obtain⟨v,ev,a,ea,e⟩:=Rl.var j (.obj j') h;exact⟨v,ev,a,fwd k j' _ q ea,e⟩
  | «at» k p =>
   obtain⟨j',q,h⟩:=h;obtain⟨v,ev,τ,a,ea,el,e⟩:=Rl.var j (.at j' p) h;exact⟨v,ev,τ,a,fwd k j' _ q ea,el,e⟩
 .rw[N.np,Ge];exact N.npl
structure Fz(k:Nat)(dd:iO)(ρ:List Nat)(m m2:MSt):Prop where
 nd:ρ.Nodup
 lt:∀k∈ρ,k<m.os.length
 out:k∉ρ
 pre:ρ.take m.np=aaI m.np
 npl:m.np≤ρ.length
 npk:m.np≤k
 os:m2.os=ρ.map fun k=>m.os.getD k []
 np:m2.np=m.np
 vl:m2.vs.length=m.vs.length
 vs:∀(j:Nat) (r:R),m2.vs[j]?=some (some r)->RenR ρ m.vs[j]? r\/(r = .imm dd/\(m.vs[j]?=some (some (.obj k))\/m.vs[j]?=some (some (.at k []))))
def Fz.ren{k:Nat}{dd:iO}{ρ:List Nat}{m m2:MSt}(F:Fz k dd ρ m m2):∃m3,Ren ρ m m3/\m3.np=m2.np/\m3.os=m2.os/\m3.vs.length=m2.vs.length/\∀(j:Nat) (r:R),m2.vs[j]?=some (some r)->m3.vs[j]?=some (some r)\/(r = .imm dd/\(m.vs[j]?=some (some (.obj k))\/m.vs[j]?=some (some (.at k [])))):=by
 classical
 refine⟨{m2 with vs:=m2.vs.mapIdx fun j o=>match o with|some r=>if RenR ρ m.vs[j]? r then some r else none|none=>none},⟨F.nd,F.lt,F.pre,F.npl,F.os,F.np,by rw[<-F.vl];simp,fun j r z=>?_⟩,rfl,rfl,by simp,fun j r z=>?_⟩
 .simp only[agU]at z
  cases q:m2.vs[j]? with
  |none=>rw[q]at z;cases z
  | some o =>
   rw[q]at z
   cases o with
   |none=>cases z
   |some r' =>
    simp only[acF,afL]at z
    split at z
    .cases z;assumption
    .cases z
 .rcases F.vs j r z with h|h
  .left;simp only[agU,z,acF,if_pos h]
  .exact .inr h
theorem lw{m:MSt}{De:dB}{D:Ends}{k:Nat}{dd:iO}{ao:Ao}{u:HO}(Rl:Rel X.kx α m σ H)(ke:EndsOk X.kx m.np α H De D)(F:Fz k dd ρ m m2)(ea:α[k]?=some ao)(hm:a∈ao.ads)(hu:H a=some u)(hfz:isFz u=true)(mu:Mu u=true)
  (den:∀o,Pers H (upd H a (.frz o u))->Den X.kx (upd H a (.frz o u)) dd (.ref a)) (name:∀(j:Nat) (v:V),(m.vs[j]?=some (some (.obj k))\/m.vs[j]?=some (some (.at k [])))->σ[j]?=some (some v)->v = .ref a) (hw:w De m2):tFrz (tMS X.kx w) D σ H:=by
 obtain⟨m3,N,np3,os3,vl3,vs3⟩:=F.ren;obtain⟨R3,x3⟩:=zT Rl N;refine⟨a,u,hu,hfz,fun o=>?_⟩;have pe:Pers H (upd H a (.frz o u)):=br (.inr ⟨u,hu,mu⟩);have aα:a∈ads α:=iZ ea hm;have out:a∉ads (ρ.map fun k=>α.getD k (.L 0)):=fun z=>by
  obtain⟨i,x,e1,e2⟩:=ig z;obtain⟨j,h1,h2⟩:=Paired.get2 (fY Rl.len N.lt) e1;exact fM Rl.nd ea h2 (fun z=>F.out (z▸OR h1)) hm e2
 have xx:Ext m.np α H (ρ.map fun k=>α.getD k (.L 0)) (upd H a (.frz o u)):=⟨x3.pre,fun b ob e n=>by rw[ap (fun z=>n (by rw[z];exact aα))];exact e,x3.new,fun b hb=>by
  by_cases eb:b=a
  .subst eb;exact⟨_,aw⟩
  .rw[ap eb];exact x3.old b hb⟩
 have R4:=R3.at' pe (fun b hb=>ap fun z=>out (z▸hb)) (Rl.ebx.trans (xx.less Rl.ebl));refine⟨_,m2,De,⟨R4.nd,by rw[R4.len,os3],fun k ao ds z1 z2=>R4.own k ao ds z1 (by rw[os3];exact z2),by rw[R4.vlen,vl3],fun j r z=>?_,by rw[<-np3];exact R4.npl,by rw[<-np3];exact R4.ebl,R4.ebx⟩,hw,by rw[F.np];exact ke.ext xx⟩;rcases vs3 j r z with h|⟨rfl,h⟩
 .exact R4.var j r h
 .obtain⟨v,ev⟩:∃v,σ[j]?=some (some v):=by
   rcases h with h|h
   .obtain⟨v,ev,_⟩:=Rl.var j _ h;exact⟨v,ev⟩
   .obtain⟨v,ev,_⟩:=Rl.var j _ h;exact⟨v,ev⟩
  refine⟨v,ev,?_⟩;rw[name j v h ev];exact den o pe
def wFzL(w:WS):WS:=fun D m=>∃(k j:Nat) (ds:List iO) (ρ:List Nat) (m2:MSt),m.vs[j]?=some (some (.obj k))/\m.os[k]?=some ds/\Fz k (.list ds) ρ m m2/\w D m2
theorem Jt(h:MS X st w):MS X st (wFzL w):=(CC h).wk fun D σ H ⟨α,m,De,Rl,⟨k,j0,ds,ρ,m2,ej,eo,F,hw⟩,ke⟩=>by
 obtain⟨v,ev,a,ea,rfl⟩:=Rl.var j0 _ ej;obtain⟨xs,hx,g⟩:=Rl.own k _ _ ea eo;refine lw Rl ke F ea (aaw.mpr rfl) hx rfl rfl (fun o pe=>?_) (fun j v hj evj=>?_) hw
 .simp only[Den];exact⟨a,xs,rfl,.inl ⟨o,aw⟩,g.mono pe⟩
 .rcases hj with hj|hj
  .obtain⟨v',ev',a',ea',rfl⟩:=Rl.var j _ hj;rw[ea]at ea';cases ea';rw[evj]at ev';cases ev';rfl
  .obtain⟨v',ev',τ,a',ea',_⟩:=Rl.var j _ hj;rw[ea]at ea';cases ea'
theorem yT(d:iO):w5 (lfD d)=some d:=by cases d<;>rfl
theorem fzKK{K:Kd}{H:Hp}{τ:List (List Nat×Addr)}{p:List Nat}:∀{kvs:List (iO×iO)}{i:Nat}{es:List (Key×V)},TAtK K H τ p i (lfKV kvs) es->DenKK K H kvs es
 |[],_,_,h=>by simpa only[lfKV,abJ,TAtK,DenKK]using h
 |(k,d)::r,i,es,h=>by
  simp only[lfKV,aao,TAtK]at h;obtain⟨kk,v,vs,rfl,g0,g1,g2⟩:=h;simp only[DenKK];exact⟨kk,v,vs,rfl,g0,jl g1 (yT d),fzKK g2⟩
def wFzK(w:WS):WS:=fun D m=>∃(k j:Nat) (kvs:List (iO×iO)) (ρ:List Nat) (m2:MSt),m.vs[j]?=some (some (.at k []))/\m.os[k]?=some [.dict (lfKV kvs)]/\isKd (lfKV kvs)=true/\Fz k (.dict kvs) ρ m m2/\w D m2
theorem IW(h:MS X st w):MS X st (wFzK w):=(CC h).wk fun D σ H ⟨α,m,De,Rl,⟨k,j0,kvs,ρ,m2,ej,eo,kd,F,hw⟩,ke⟩=>by
 obtain⟨v,ev,τ,a,ea,el,rfl⟩:=Rl.var j0 _ ej;obtain⟨es,hx,g⟩:=Rl.dict ea el eo rfl kd;refine lw Rl ke F ea (bq el) hx rfl rfl (fun o pe=>?_) (fun j v hj evj=>?_) hw
 .simp only[Den];exact⟨a,rfl,.inr (.inl ⟨es,o,aw,(fzKK g).mono pe⟩)⟩
 .rcases hj with hj|hj
  .obtain⟨v',ev',a',ea',_⟩:=Rl.var j _ hj;rw[ea]at ea';cases ea'
  .obtain⟨v',ev',τ',a',ea',el',rfl⟩:=Rl.var j _ hj;rw[ea]at ea';cases ea';rw[el]at el';cases el';rw[evj]at ev';cases ev';rfl
theorem DY(h:ES X st w):ES X st (wFzL w):=⟨Jt h.h⟩
theorem FJ(h:ES X st w):ES X st (wFzK w):=⟨IW h.h⟩
end
def FzVs(k:Nat)(dd:iO)(ρ:List Nat):List (Option R)->List (Option R)->Prop
 |o::os,q::qs=>(RenO ρ o q\/(q=some (.imm dd)/\(o=some (.obj k)\/o=some (.at k []))))/\FzVs k dd ρ os qs
 |[],[]=>True
 |_,_=>False
theorem FzVs.len{k:Nat}{dd:iO}{ρ:List Nat}:∀{os qs:List (Option R)},FzVs k dd ρ os qs->qs.length=os.length
 |[],[],_=>rfl
 |_::_,_::_,h=>congrArg (· + 1) (FzVs.len h.2)
 |[],_::_,h=>h.elim
 |_::_,[],h=>h.elim
theorem FzVs.get{k:Nat}{dd:iO}{ρ:List Nat}:∀{os qs:List (Option R)},FzVs k dd ρ os qs->∀(j:Nat) (r:R),qs[j]?=some (some r)->RenR ρ os[j]? r\/(r = .imm dd/\(os[j]?=some (some (.obj k))\/os[j]?=some (some (.at k []))))
 |o::os,q::qs,h,0,r,e=>by
  have e':q=some r:=by simpa using e
  subst e';rcases h.1 with h|⟨h1,h2⟩
  .exact .inl h
  .cases h1;exact .inr ⟨rfl,by simpa using h2⟩
 |o::os,q::qs,h,j+1,r,e=>by simpa using FzVs.get h.2 j r (by simpa using e)
 |[],[],_,_,_,e=>by simp at e
 |[],_::_,h,_,_,_=>h.elim
 |_::_,[],h,_,_,_=>h.elim
theorem Aw{k:Nat}{dd:iO}{m:MSt}(nd:decide ρ.Nodup=true)(lt:(ρ.all fun k=>Nat.blt k m.os.length)=true)(out:(ρ.all fun i=>i != k)=true)(pre:ρ.take m.np=aaI m.np)(npl:Nat.ble m.np ρ.length=true)(npk:Nat.ble m.np k=true)(os:m2.os=ρ.map fun k=>m.os.getD k [])(np:m2.np=m.np)(vs:FzVs k dd ρ m.vs m2.vs):Fz k dd ρ m m2 :=
 ⟨of_decide_eq_true nd,fun k hk=>Nat.blt_eq.mp (ab7.mp lt k hk),fun z=>by simpa using ab7.mp out k z,pre,aeF npl,aeF npk,os,np,vs.len,fun j r e=>vs.get j r e⟩
theorem Nu{w:WS}{D:dB}{m:MSt}(k j:Nat)(ds:List iO)(ρ:List Nat)(m2:MSt)(e1:m.vs[j]?=some (some (.obj k)))(e2:m.os[k]?=some ds)(F:Fz k (.list ds) ρ m m2)(h:w D m2):wFzL w D m:=⟨k,j,ds,ρ,m2,e1,e2,F,h⟩
theorem Ng{w:WS}{D:dB}{m:MSt}(k j:Nat)(kvs:List (iO×iO))(ρ:List Nat)(m2:MSt)(e1:m.vs[j]?=some (some (.at k [])))(e2:m.os[k]?=some [.dict (lfKV kvs)])(e3:isKd (lfKV kvs)=true)(F:Fz k (.dict kvs) ρ m m2)(h:w D m2):wFzK w D m:=⟨k,j,kvs,ρ,m2,e1,e2,e3,F,h⟩
noncomputable instance instDecPyData:DecidableEq iO:=fun a b=>Classical.propDecidable (a=b)
mutual
def i5:iO->Nat
 | .int _=>1
 | .str _=>1
 | .tuple ds=>d4 ds+1
 |_=>0
def d4:List iO->Nat
 |[]=>0
 |d::ds=>i5 d+d4 ds
end
def kyD(d:iO):Bool:=(match d with| .tuple _=>true|_=>false)&&(hkD d&&(d.canLay0&&decide (d.depth≤7)))
theorem ie{d:iO}(h:kyD d=true):∃ds,d = .tuple ds/\hkA ds=true/\d.canLay0=true/\d.depth≤7:=by
 unfold kyD at h;rw[aaH,aaH,aaH,decide_eq_true_eq]at h
 cases d with
 |tuple ds=>exact⟨ds,rfl,by simpa only[hkD]using h.2.1,h.2.2.1,h.2.2.2⟩
 |_=>simp at h
section
variable {w:World}{prog:aaZ}
theorem ph(w:World):∀a b:List iO,gm w (a++b)=gm w a++gm w b
 |[],b=>by simp[gm]
 |d::a,b=>by simp only[af4,gm,ph w a b]
theorem k9:∀a b:List iO,d4 (a++b)=d4 a+d4 b
 |[],b=>by simp[d4]
 |d::a,b=>by simp only[af4,d4,k9 a b];omega
theorem qQ:∀{ds:List iO}{d:iO},hkA ds=true->d∈ds->hkD d=true
 |x::ds,d,h,hm=>by
  simp only[hkA,aaH]at h;obtain rfl|hm:=aas.mp hm
  .exact h.1
  .exact qQ h.2 hm
theorem i9{ds:List iO}{d:iO}(h:d∈ds):d.depth≤aav ds:=by
 induction ds with
 |nil=>cases h
 |cons x ds ih =>
  show _≤max x.depth (aav ds);obtain rfl|h:=aas.mp h
  .omega
  .have:=ih h;omega
mutual
theorem k8:∀(d:iO) {A:abz}{E:GE->aab->Prop}{s:aab}{v:GE}{as:List Addr}{Q:Int->aab->Prop},hkD d=true->Reads s.heap v d as->A.units+d.depth<cLine->Q (dY w d) {s with toks:=s.toks+i5 d}->wpAny (model prog w) A (pyHash v) Q E s
 | .int i,A,E,s,v,as,Q,_,r,_,h=>by
  cases r;exact wpAny_pyHash_int (by simpa only[dY,i5]using h)
 | .str x,A,E,s,v,as,Q,_,r,_,h=>by
  cases r;exact wpAny_pyHash_str (by simpa only[dY,i5]using h)
 | .tuple ds,A,E,s,v,as,Q,hk,r,hu,h=>by
  cases r with
  | @tuple a o vs n _ _ ho hc hd hr =>
   have hT:s.TypeIs (.ref a) "tuple" :=⟨o,ho,hc⟩;have hu0:A.units<cLine:=aaE (acr _ _) hu;have sp:∀{P:Option GE->aab->Prop},P (some (.builtin "tuple.__hash__")) s->wpAny (model prog w) A (ahV (.ref a) "__hash__") P E s:=fun p=>aeb hT afO.lookup p;simp only[dY,i5]at h;refine gE (m:=cRoomFor "hash" [.ref a]) (wpAny_cRoomFor_or (.inr hu0) (gE (m:=ahV _ _) (sp ?_)));rw[if_neg (show ¬(some (GE.builtin "tuple.__hash__")==some agh)=true by rw[beq_builtin_none];decide)];refine gE (m:=ahV _ _) (sp (gE (m:=callSpecialIfBoundUnlessNone? (.ref a) "__hash__" _) ?_));refine wpAny_callSpecialIfBoundUnlessNone?_slot hT afO (aaT afO hT F.entry_tuple_hash (gE (m:=adL (.ref a)) (wpAny_tupleItemsOf ho hd ?_)) (F.args_tuple_hash_1 _));refine gE ?_;rw[<-ahu];refine aeN _
    (fun rest (b:Array Int) s'=>∃done left bs,ds=done++left/\ad3 s.heap rest left bs/\b.toList=gm w done/\s'={s with toks:=s.toks+d4 done})
    _ ?_ ?_ _ _ ⟨[],ds,_,rfl,hr,by simp[gm],by simp[d4]⟩
   .rintro x rest b s' ⟨done,left,bs,hds,hl,hb,rfl⟩
    cases hl with
    | @cons _ _ d ds' as1 bs1 r1 r2 =>
     have hm:d∈ds:=by rw[hds];simp
     refine gE (sn ds d hm (qQ (by simpa only[hkD]using hk) hm) (s:={s with toks:=s.toks+d4 done}) r1 ?_ ?_)
     .have:=i9 hm;have e:(acg ds).depth=aav ds+1:=rfl;show A.units+1+d.depth<cLine;omega
     .have fin:∃done' left' bs',ds=done'++left'/\ad3 s.heap rest left' bs'/\(b.push (dY w d)).toList=gm w done'/\({s with toks:=s.toks+d4 done+i5 d}:aab)={s with toks:=s.toks+d4 done' }:=by
       refine⟨done++[d],ds',_,by rw[hds];simp,r2,?_,?_⟩
       .rw[Array.toList_push,hb,ph];simp[gm]
       .rw[k9,aeV];simp[d4]
      first
       |exact aaa fin
       |exact gE (aaa (aaa fin))
   .rintro b s' ⟨done,left,bs,hds,hl,hb,rfl⟩;cases hl;rw[abb]at hds;subst hds;change wpAny _ _ (retInt (abQ (b.toList:List Int))) _ _ _;rw[hb];refine wpAny_ret_mkInt ?_;show wpAny _ _ (if (decide (-(2:Int)^63≤abQ (gm w ds))&&decide (abQ (gm w ds)<2^63))=true then _ else _) Q E _;unfold reduceHash at h
    by_cases hr:(decide (-(2:Int)^63≤abQ (gm w ds))&&decide (abQ (gm w ds)<2^63))=true
    .rw[if_pos hr];rw[if_pos hr]at h;refine aaa ?_;simpa[aeV]using h
    .rw[if_neg hr];rw[if_neg hr]at h;refine gE (m:=rule _) (acU (aaa ?_));simpa[aeV]using h
 | .none,_,_,_,_,_,_,hk,_,_,_=>by simp only[hkD]at hk;cases hk
 | .bool _,_,_,_,_,_,_,hk,_,_,_=>by simp only[hkD]at hk;cases hk
 | .list _,_,_,_,_,_,_,hk,_,_,_=>by simp only[hkD]at hk;cases hk
 | .dict _,_,_,_,_,_,_,hk,_,_,_=>by simp only[hkD]at hk;cases hk
theorem sn:∀(ds:List iO) (d:iO),d∈ds->∀{A:abz}{E:GE->aab->Prop}{s:aab}{v:GE}{as:List Addr}{Q:Int->aab->Prop},hkD d=true->Reads s.heap v d as->A.units+d.depth<cLine->Q (dY w d) {s with toks:=s.toks+i5 d}->wpAny (model prog w) A (pyHash v) Q E s
 |x::ds,d,hm=>by
  intro hk r hu h;rcases aas.mp hm with e|hm'
  .rw[e]at hk r hu h;exact k8 x hk r hu h
  .exact sn ds d hm' hk r hu h
end
mutual
theorem oX:∀(a b:iO),hkD a=true->hkD b=true->aar a b=decide (a=b)
 | .int i,b,_,hb=>by
  cases b with
  |int j =>
   show decide (i=j)=_
   by_cases h:i=j
   .subst h;rw[decide_eq_true rfl,decide_eq_true rfl]
   .rw[decide_eq_false h,decide_eq_false (fun z=>h (by cases z;rfl))]
  |str _=>rw[decide_eq_false (fun z=>by cases z)];rfl
  |tuple _=>rw[decide_eq_false (fun z=>by cases z)];rfl
  |none=>simp only[hkD]at hb;cases hb
  |bool _=>simp only[hkD]at hb;cases hb
  |list _=>simp only[hkD]at hb;cases hb
  |dict _=>simp only[hkD]at hb;cases hb
 | .str i,b,_,hb=>by
  cases b with
  |str j =>
   show decide (i=j)=_
   by_cases h:i=j
   .subst h;rw[decide_eq_true rfl,decide_eq_true rfl]
   .rw[decide_eq_false h,decide_eq_false (fun z=>h (by cases z;rfl))]
  |int _=>rw[decide_eq_false (fun z=>by cases z)];rfl
  |tuple _=>rw[decide_eq_false (fun z=>by cases z)];rfl
  |none=>simp only[hkD]at hb;cases hb
  |bool _=>simp only[hkD]at hb;cases hb
  |list _=>simp only[hkD]at hb;cases hb
  |dict _=>simp only[hkD]at hb;cases hb
 | .tuple ds,b,ha,hb=>by
  cases b with
  |tuple es =>
   simp only[aar];rw[wm ds es (by simpa only[hkD]using ha) (by simpa only[hkD]using hb)]
   by_cases h:ds=es
   .subst h;rw[decide_eq_true rfl,decide_eq_true rfl]
   .rw[decide_eq_false h,decide_eq_false (fun z=>h (by cases z;rfl))]
  |int _=>rw[decide_eq_false (fun z=>by cases z)];rfl
  |str _=>rw[decide_eq_false (fun z=>by cases z)];rfl
  |none=>simp only[hkD]at hb;cases hb
  |bool _=>simp only[hkD]at hb;cases hb
  |list _=>simp only[hkD]at hb;cases hb
  |dict _=>simp only[hkD]at hb;cases hb
 | .none,_,ha,_=>by simp only[hkD]at ha;cases ha
 | .bool _,_,ha,_=>by simp only[hkD]at ha;cases ha
 | .list _,_,ha,_=>by simp only[hkD]at ha;cases ha
 | .dict _,_,ha,_=>by simp only[hkD]at ha;cases ha
theorem wm:∀(a b:List iO),hkA a=true->hkA b=true->adE a b=decide (a=b)
 |[],[],_,_=>by rw[decide_eq_true rfl];rfl
 |[],_::_,_,_=>by rw[decide_eq_false (fun z=>by cases z)];rfl
 |_::_,[],_,_=>by rw[decide_eq_false (fun z=>by cases z)];rfl
 | x::a,y::b,ha,hb=>by
  simp only[hkA,aaH]at ha hb;simp only[adE];rw[oX x y ha.1 hb.1,wm a b ha.2 hb.2]
  by_cases h1:x=y
  .by_cases h2:a=b
   .subst h1 h2;rw[decide_eq_true rfl,decide_eq_true rfl,decide_eq_true rfl];rfl
   .rw[decide_eq_false h2,Bool.and_false,decide_eq_false (fun z=>h2 (by cases z;rfl))]
  .rw[decide_eq_false h1,agK,decide_eq_false (fun z=>h1 (by cases z;rfl))]
end
mutual
theorem Reads.hkeep{h h':aa6}{d:Addr}{o:Obj}{es:Array acn}{ep:Nat}(ho:h.get? d=some o)(hd:o.data = .dict es ep)(hs:abu d h h'):∀(k:iO) {v:GE}{as:List Addr},hkD k=true->Reads h v k as->Reads h' v k as
 | .int _,_,_,_,r=>by cases r;exact .int _ _
 | .str _,_,_,_,r=>by cases r;exact .str _ _
 | .tuple ds,_,_,hk,r=>by
  cases r with
  | @tuple a o' vs n _ _ h1 h2 h3 h4 =>
   have hne:a≠d:=by
    rintro rfl;rw[ho]at h1;cases h1;rw[hd]at h3;cases h3
   exact .tuple ((hs.2 a hne).trans h1) h2 h3 (ReadsAll.hkeep ho hd hs ds (by simpa only[hkD]using hk) h4)
 | .none,_,_,hk,_=>by simp only[hkD]at hk;cases hk
 | .bool _,_,_,hk,_=>by simp only[hkD]at hk;cases hk
 | .list _,_,_,hk,_=>by simp only[hkD]at hk;cases hk
 | .dict _,_,_,hk,_=>by simp only[hkD]at hk;cases hk
theorem ReadsAll.hkeep{h h':aa6}{d:Addr}{o:Obj}{es:Array acn}{ep:Nat}(ho:h.get? d=some o)(hd:o.data = .dict es ep)(hs:abu d h h'):∀(ks:List iO) {vs:List GE}{as:List Addr},hkA ks=true->ad3 h vs ks as->ad3 h' vs ks as
 |[],_,_,_,r=>by cases r;exact .nil
 |k::ks,_,_,hk,r=>by
  simp only[hkA,aaH]at hk
  cases r with
  |cons r1 r2=>exact .cons (Reads.hkeep ho hd hs k hk.1 r1) (ReadsAll.hkeep ho hd hs ks hk.2 r2)
end
mutual
theorem jG:∀(d:iO) {A:abz}{E:GE->aab->Prop}{s:aab}{v:GE}{as:List Addr}{n:Nat}{Q:Bool->aab->Prop},hkD d=true->Reads s.heap v d as->d.depth≤n->Q true s->wpAny (model prog w) A (eqIsQuiet n v) Q E s
 | .int _,_,_,_,_,_,_,_,_,r,_,h=>by cases r;rw[eqIsQuiet_byValue _ rfl];exact aaa h
 | .str _,_,_,_,_,_,_,_,_,r,_,h=>by cases r;rw[eqIsQuiet_byValue _ rfl];exact aaa h
 | .tuple ds,A,E,s,v,as,n,Q,hk,r,hn,h=>by
  cases r with
  | @tuple a o vs nn _ _ ho hc hd hr =>
   have hT:s.TypeIs (.ref a) "tuple" :=⟨o,ho,hc⟩;have e:(acg ds).depth=aav ds+1:=rfl
   cases n with
   |zero=>omega
   | succ n =>
    unfold eqIsQuiet;refine gE (m:=ahV _ _) (aeb hT F.slot_tuple_eq.lookup (gE (m:=isInstance (.ref a) (.type "tuple")) (acq hT isSubtype_tuple_tuple ?_)));simp only[if_false,aco,Bool.not_true];refine gE (m:=seqItems? (.ref a)) (acV ho hd ?_);refine gE ?_;show wpAny _ _ (forIn vs _ _) _ _ s;rw[<-ahu];refine aeN _ (fun rest r s'=>r.1=none/\s'=s/\∃left bs,(∀d∈left,d∈ds)/\ad3 s.heap rest left bs) _ ?_ ?_ _ _ ⟨rfl,rfl,ds,_,fun _ h=>h,hr⟩
    .rintro x rest r s' ⟨hr',rfl,left,bs,hsub,hl⟩
     cases hl with
     | @cons _ _ d ds' as1 bs1 r1 r2 =>
      have hm:d∈ds:=hsub d aah;refine gE (n9 ds d hm (qQ (by simpa only[hkD]using hk) hm) r1 (by have:=i9 hm;omega) ?_);simp only[if_false,aco,Bool.not_true];exact aaa ⟨rfl,rfl,ds',_,fun z hz=>hsub z (aaf _ hz),r2⟩
    .rintro⟨r1,r2⟩ s' ⟨hr',rfl,_⟩;simp only at hr';subst hr';exact aaa h
 | .none,_,_,_,_,_,_,_,hk,_,_,_=>by simp only[hkD]at hk;cases hk
 | .bool _,_,_,_,_,_,_,_,hk,_,_,_=>by simp only[hkD]at hk;cases hk
 | .list _,_,_,_,_,_,_,_,hk,_,_,_=>by simp only[hkD]at hk;cases hk
 | .dict _,_,_,_,_,_,_,_,hk,_,_,_=>by simp only[hkD]at hk;cases hk
theorem n9:∀(ds:List iO) (d:iO),d∈ds->∀{A:abz}{E:GE->aab->Prop}{s:aab}{v:GE}{as:List Addr}{n:Nat}{Q:Bool->aab->Prop},hkD d=true->Reads s.heap v d as->d.depth≤n->Q true s->wpAny (model prog w) A (eqIsQuiet n v) Q E s
 |x::ds,d,hm=>by
  intro hk r hu h;rcases aas.mp hm with e|hm'
  .rw[e]at hk r hu;exact jG x hk r hu h
  .exact n9 ds d hm' hk r hu h
end
theorem kJ{d:iO}(h:kyD d=true):hkD d=true:=by
 obtain⟨ds,rfl,h1,_⟩:=ie h;simpa only[hkD]using h1
noncomputable def ko (prog:aaZ) (w:World):HeapKind prog w iO where
 is:=fun h d a=>(∃as,Reads h (.ref a) d as)/\kyD d=true
 hash:=dY w
 draws:=i5
 room:=fun A=>A.units+20<cLine
 inj:=fun {h a x y} ⟨⟨as,r1⟩,k1⟩ ⟨⟨bs,r2⟩,k2⟩=>by
  obtain⟨ds,rfl,_,hl,_⟩:=ie k1;exact SeqAt.Reads.unique _ _ _ _ _ hl r1 r2
 keeps:=fun⟨⟨as,r⟩,k⟩ ho hd hs=>⟨⟨as,Reads.hkeep ho hd hs _ (kJ k) r⟩,k⟩
 pyHash:=fun {A E s k a Q} hu ⟨⟨as,r⟩,hk⟩ h=>by
  obtain⟨ds,e,_,_,hd⟩:=ie hk;exact k8 k (kJ hk) r (by omega) h
 eqBool:=fun {A E s x y a b Q} hu ⟨⟨as,r1⟩,k1⟩ ⟨⟨bs,r2⟩,k2⟩ h=>by
  obtain⟨ds,e1,_,l1,d1⟩:=ie k1;obtain⟨es,e2,_,l2,d2⟩:=ie k2;refine ahW x y A s _ _ _ _ r1 r2 l1 l2 (by omega) prog w E Q ?_;rw[oX x y (kJ k1) (kJ k2)];exact h
 quiet:=fun {A E s k a Q} ⟨⟨as,r⟩,hk⟩ h=>by
  obtain⟨ds,e,_,_,hd⟩:=ie hk;exact jG k (kJ hk) r (by omega) h
end
def dl(k:iO):List (iO×iO)->Option iO
 |[]=>none
 |(k',d)::r=>if aar k' k=true then some d else dl k r
def putP(k d:iO):List (iO×iO)->List (iO×iO)
 |[]=>[(k,d)]
 |(k',d')::r=>if aar k' k=true then(k',d)::r else(k',d')::putP k d r
def kyA(kvs:List (iO×iO)):Bool:=kvs.all fun kv=>kyD kv.1
def kdD:iO->Bool
 | .int _=>true
 | .str _=>true
 |_=>false
def oneK(kvs:List (iO×iO))(k:iO):Bool:=(isKd kvs&&kdD k)||(kyA kvs&&kyD k)
theorem mw(kvs:List (iO×iO)):isKd kvs=kvs.all fun kv=>kdD kv.1:=by
 unfold isKd
 congr 1
theorem lB{k:iO}(h:kdD k=true):∃kk:Key,k=keyD kk:=by
 cases k with
 |int i=>exact⟨.inl i,rfl⟩
 |str x=>exact⟨.inr x,rfl⟩
 |_=>cases h
theorem vX(a b:Key):aar (keyD a) (keyD b)=decide (a=b):=by
 cases a<;>cases b<;>simp[keyD,aar,acl]
def IsDc(K:Kd)(H:Hp)(a:Addr)(kvs:List (iO×iO)):Prop :=
 (∃es,Rd H a (.dK es)/\DenKK K H kvs es)\/∃es,Rd H a (dX a es)/\isKd kvs=false/\(kvs.map (·.1)).Nodup/\DenKV K H kvs es
section
variable {K:Kd}{H H':Hp}
theorem fzKV{τ:List (List Nat×Addr)}{p:List Nat}:∀{kvs:List (iO×iO)}{i:Nat}{es:List (Int×V×V)},TAtD K H τ p i (lfKV kvs) es->DenKV K H kvs es
 |[],_,_,h=>by simpa only[lfKV,abJ,TAtD,DenKV]using h
 |(k,d)::r,i,es,h=>by
  simp only[lfKV,aao,TAtD]at h;obtain⟨u,v,vs,rfl,g0,g1,g2⟩:=h;simp only[DenKV];exact⟨u,v,vs,rfl,g0,jl g1 (yT d),fzKV g2⟩
theorem I9{τ:List (List Nat×Addr)}{p:List Nat}:∀{kvs:List (iO×iO)}{i:Nat}{es:List (Int×V×V)},DenKV K H kvs es->TAtD K H τ p i (lfKV kvs) es
 |[],_,_,h=>by simpa only[lfKV,abJ,TAtD,DenKV]using h
 |(k,d)::r,i,es,h=>by
  simp only[DenKV]at h;obtain⟨u,v,vs,rfl,g0,g1,g2⟩:=h;simp only[lfKV,aao,TAtD];exact⟨u,v,vs,rfl,g0,vp g1,I9 g2⟩
theorem ic(kvs:List (iO×iO)):(lfKV kvs).map (·.1)=kvs.map (·.1):=by
 unfold lfKV;rw[abq];rfl
theorem jM(kvs:List (iO×iO)):isKd (lfKV kvs)=isKd kvs:=by
 unfold isKd lfKV;rw[adU];rfl
theorem nA(h:isKd kvs=true\/kyA kvs=true):fzOf kvs=none/\excC kvs=none:=by
 cases kvs with
 |nil=>exact⟨rfl,rfl⟩
 | cons x r =>
  obtain⟨k,d⟩:=x
  cases k with
  |none =>
   rcases h with h|h
   .simp[isKd]at h
   .simp[kyA,kyD]at h
  |int _=>exact⟨rfl,rfl⟩
  |str _=>exact⟨rfl,rfl⟩
  |bool _=>exact⟨rfl,rfl⟩
  |list _=>exact⟨rfl,rfl⟩
  |tuple _=>exact⟨rfl,rfl⟩
  |dict _=>exact⟨rfl,rfl⟩
end
def dcM(m:MSt)(kvs:List (iO×iO)):R->Prop
 | .imm (.dict es)=>es=kvs
 | .at k p=>p=[]/\m.os[k]?=some [.dict (lfKV kvs)]
 |_=>False
theorem RelR.dc{K:Kx}{m:MSt}{H0:Hp}{r:R}(R:Rel K α m σ H)(h:RelR K α H0 H r v)(e:dcM m kvs r)(hk:isKd kvs=true\/kyA kvs=true):∃a,v = .ref a/\IsDc K H a kvs:=by
 obtain⟨n1,n2⟩:=nA hk
 cases r with
 | imm d =>
  cases d with
  |dict es =>
   have e':es=kvs:=e;subst e';have h':Den K H (.dict es) v:=h;simp only[Den]at h';obtain⟨a,rfl,h'⟩:=h';refine⟨a,rfl,?_⟩;rcases h' with⟨xs,⟨o,f⟩,kk,g⟩|⟨xs,o,f,g⟩|⟨c,xs,ec,_⟩
   .exact .inr ⟨xs,.inr ⟨o,f⟩,kk.1,kk.2.1,g⟩
   .exact .inl ⟨xs,.inr ⟨o,f⟩,g⟩
   .rw[n2]at ec;cases ec
  |none=>exact e.elim
  |bool _=>exact e.elim
  |int _=>exact e.elim
  |str _=>exact e.elim
  |list _=>exact e.elim
  |tuple _=>exact e.elim
 | «at» k p =>
  obtain⟨rfl,eo⟩:=e;obtain⟨τ,a,e1,e2,rfl⟩:=h;obtain⟨⟨t1,v0,z,g,a0,el,ev⟩,_⟩:=R.own k _ _ e1 eo;cases z;rw[e2]at el;cases el;subst ev;refine⟨a,rfl,?_⟩;have n3:fzOf (lfKV kvs)=none/\excC (lfKV kvs)=none:=nA (by
   rcases hk with hk|hk
   .exact .inl (by rw[jM];exact hk)
   .refine .inr ?_;unfold kyA lfKV at *;rw[adU];exact hk)
  simp only[TAt]at g;rcases g with⟨d,e1,_⟩|⟨_,_,b,es,e1,e3,e4,kk,g⟩|⟨_,_,b,es,e1,e3,e4,g⟩|⟨c,b,dx,C,xs,e0,_⟩
  .rw[n3.1]at e1;cases e1
  .cases e3;rw[e2]at e1;exact .inr ⟨es,.inl e4,by rw[<-jM];exact kk.1,by rw[<-ic];exact kk.2.1,fzKV g⟩
  .cases e3;exact .inl ⟨es,.inl e4,fzKK g⟩
  .rw[n3.2]at e0;cases e0
 |obj _=>exact e.elim
 |new _=>exact e.elim
 |newT _=>exact e.elim
theorem DenKV.len{K:Kd}{H:Hp}:∀{kvs:List (iO×iO)}{es:List (Int×V×V)},DenKV K H kvs es->kvs.length=es.length
 |[],_,g=>by simp only[DenKV]at g;subst g;rfl
 |(k,d)::r,_,g=>by
  simp only[DenKV]at g;obtain⟨u,v,vs,rfl,_,_,g⟩:=g;simp[DenKV.len g]
section
variable {X:Cx}{pins:List (Addr×Obj)}{σ:St}{H:Hp}{s:aab}
abbrev PxV(K:Kd)(H:Hp):List (iO×iO)->List (iO×Addr×GE)->Prop:=abV fun p q=>p.1=q.1/\Den K H p.1 (.ref q.2.1)/\∃v,Den K H p.2 v/\RelV v q.2.2
theorem PxV.keys{H:Hp}{xs:List (iO×Addr×GE)}(p:PxV K H kvs xs):xs.map (·.1)=kvs.map (·.1):=by
 induction p with
 |nil=>rfl
 |cons h t ih=>rw[aao,aao,ih,h.1]
theorem t8{k:iO}{u:V}(hk:kyD k=true)(h:Den K H k u):∃b,u = .ref b:=by
 obtain⟨ds,rfl,_⟩:=ie hk;simp only[Den]at h;obtain⟨a,xs,e,_⟩:=h;exact⟨a,e⟩
theorem wQ{k:iO}(hk:kyD k=true):k.hasDict=false:=by
 obtain⟨ds,rfl,_,hl,_⟩:=ie hk;exact abk _ hl
theorem Inv.ky(I:Inv X pins σ H s){k:iO}{b:Addr}(hk:kyD k=true)(h:Den X.kd H k (.ref b)):(ko X.prog X.w).is s.heap k b:=⟨h.reads I (wQ hk) (show RelV (.ref b) (.ref b)from rfl),hk⟩
abbrev ExV(w:World):List (Int×V×V)->List (iO×Addr×GE)->Prop:=abV fun e q=>e.1=dY w q.1/\e.2.1 = .ref q.2.1/\RelV e.2.2 q.2.2
theorem Inv.dcE(I:Inv X pins σ H s){es:List (Int×V×V)}(rd:Rd H a (dX a es))(g:DenKV X.kd H kvs es)(nd:(kvs.map (·.1)).Nodup)(hk:kyA kvs=true):(a==abH)=false/\es.length≤aam/\∃xs,s.heap.DictOfH (ko X.prog X.w) a xs/\PxV X.kd H kvs xs/\ExV X.w es xs:=by
 obtain⟨⟨hs,hz,o,ents,ep,h1,h2,h3,h4⟩,_⟩:=(show ObjOk X.prog X.w H s.heap a (dX a es)from rd.ok I.hok);have key:∀{kvs:List (iO×iO)}{es:List (Int×V×V)}{ents:List acn},kyA kvs=true->DenKV X.kd H kvs es->abV (fun(e:Int×V×V) (d:acn)=>d.hash=e.1/\RelV e.2.1 d.key/\RelV e.2.2 d.val) es ents->∃xs,ents=xs.map (entryOfKey (ko X.prog X.w))/\PxV X.kd H kvs xs/\ExV X.w es xs:=by
  intro kvs
  induction kvs with
  |nil =>
   intro es ents _ g p;simp only[DenKV]at g;subst g;cases p;exact⟨[],rfl,.nil,.nil⟩
  | cons x r ih =>
   intro es ents hk g p;obtain⟨k,d⟩:=x;rw[kyA,acQ,aaH]at hk;simp only[DenKV]at g;obtain⟨u,v,vs,rfl,g0,g1,g2⟩:=g
   cases p with
   |cons p1 p2 =>
    rename_i en ents';obtain⟨xs,e1,e2,e3⟩:=ih hk.2 g2 p2;obtain⟨b,rfl⟩:=t8 hk.1 g0;obtain⟨p3,p4,p5⟩:=p1;obtain⟨eh,ek,ev⟩:=en
    cases (show ek=acS b from p4)
    refine⟨(k,b,ev)::xs,?_,.cons ⟨rfl,g0,v,g1,p5⟩ e2,.cons ⟨rfl,rfl,p5⟩ e3⟩;rw[aao,<-e1]
    congr 1
    show acn.mk eh (.ref b) ev=⟨dY X.w k,.ref b,ev⟩;rw[show eh=dY X.w k from p3]
 obtain⟨xs,e1,e2,e3⟩:=key hk g h4;refine⟨hs,hz,xs,⟨o,ents,ep,h1,h2,h3,e1,fun x hx=>?_,by rw[e2.keys];exact nd⟩,e2,e3⟩;have all:∀{kvs:List (iO×iO)}{xs:List (iO×Addr×GE)},kyA kvs=true->PxV X.kd H kvs xs->∀x∈xs,(ko X.prog X.w).is s.heap x.1 x.2.1:=by
  intro kvs xs hk p
  induction p with
  |nil=>intro x hx;cases hx
  | @cons q x0 qs xs0 h t ih =>
   rw[kyA,acQ,aaH]at hk;intro x hx;obtain rfl|hx:=aas.mp hx
   .rw[<-h.1];exact I.ky hk.1 h.2.1
   .exact ih hk.2 x hx
 exact all hk e2 x hx
theorem Inv.dc0(I:Inv X pins σ H s)(rd:Rd H a (.dK [])):(a==abH)=false/\s.heap.DictOfH (ko X.prog X.w) a []:=by
 obtain⟨_,hs,vs,kv,dd⟩:=vf I.hok rd;cases kv;obtain⟨o,ents,ep,h1,h2,h3,h4⟩:=dd;refine⟨hs,o,ents,ep,h1,h2,h3,?_,⟨(fun x hx=>absurd hx (by simp)),adm⟩⟩;have e0:ents.toList=[]:=by
  obtain⟨_,hp,_⟩:=h4;exact aa7 (by have:=hp.length;simpa using this)
 rw[e0];rfl
theorem Jv(g:DenKK K H kvs es)(hk:kyA kvs=true):kvs=[]/\es=[]:=by
 cases kvs with
 |nil=>simp only[DenKK]at g;exact⟨rfl,g⟩
 |cons x r =>
  obtain⟨k,d⟩:=x;simp only[DenKK]at g;obtain⟨kk,v,vs,_,⟨ek,_⟩,_⟩:=g;rw[kyA,acQ,aaH]at hk;have hk1:kyD k=true:=hk.1;rw[ek]at hk1
  cases kk<;>cases hk1
theorem Inv.dcX(I:Inv X pins σ H s)(h:IsDc X.kd H a kvs)(hk:kyA kvs=true):(a==abH)=false/\∃xs,s.heap.DictOfH (ko X.prog X.w) a xs/\PxV X.kd H kvs xs:=by
 rcases h with⟨es,rd,g⟩|⟨es,rd,_,nd,g⟩
 .obtain⟨rfl,rfl⟩:=Jv g hk;obtain⟨hs,dd⟩:=I.dc0 rd;exact⟨hs,[],dd,.nil⟩
 .obtain⟨hs,_,xs,dd,p,_⟩:=I.dcE rd g nd hk;exact⟨hs,xs,dd,p⟩
theorem PxV.val{xs:List (iO×Addr×GE)}{k:iO}(hk:kyA kvs=true)(hkk:kyD k=true)(p:PxV K H kvs xs) :
  (dl k kvs=none/\atKey xs k=none)\/∃d v q,dl k kvs=some d/\atKey xs k=some q/\Den K H d v/\RelV v q.2:=by
 induction p with
 |nil=>exact(.inl ⟨rfl,rfl⟩)
 | @cons x q xs0 qs h t ih =>
  rw[kyA,acQ,aaH]at hk;obtain⟨k',d⟩:=x;obtain⟨h1,h2,v,h3,h4⟩:=h;have h1':k'=q.1:=h1;have he:aar k' k=decide (k'=k):=oX _ _ (kJ hk.1) (kJ hkk);unfold dl
  by_cases e:k'=k
  .have b:atKey (q::qs) k=some q.2:=by simp[atKey,ab5,<-h1',e]
   rw[he,decide_eq_true e,if_pos rfl];exact .inr ⟨d,v,q.2,rfl,b,h3,h4⟩
  .have b:atKey (q::qs) k=atKey qs k:=by simp[atKey,ab5,<-h1',e]
   rw[he,decide_eq_false e,if_neg (by decide),b];exact ih hk.2
theorem DenKK.val(g:DenKK K H kvs es) :
  (dl (keyD kk) kvs=none/\valV es kk=none)\/∃d v,dl (keyD kk) kvs=some d/\valV es kk=some v/\Den K H d v:=by
 induction kvs generalizing es with
 |nil=>simp only[DenKK]at g;subst g;exact .inl ⟨rfl,rfl⟩
 |cons x r ih =>
  obtain⟨k,d⟩:=x;simp only[DenKK]at g;obtain⟨k0,v,vs,rfl,⟨rfl,_⟩,g1,g2⟩:=g;unfold dl;rw[vX]
  by_cases e:k0=kk
  .rw[decide_eq_true e,if_pos rfl];exact .inr ⟨d,v,rfl,jr (p:=(k0,v)) e,g1⟩
  .rw[decide_eq_false e,if_neg (by decide),jn (p:=(k0,v)) e];exact ih g2
theorem DGet.kr{H:Hp}{kvs:List (Key×V)}{k:Key}(e:Rd H a (.dK kvs)):DGet H a (kV k) (valV kvs k):=.inl ⟨kvs,k,e,rfl,rfl⟩
theorem mE{k:iO}(h:oneK kvs k=true):(isKd kvs=true/\kdD k=true)\/(kyA kvs=true/\kyD k=true):=by
 unfold oneK at h;rw[ad8,aaH,aaH]at h;exact h
theorem Inv.dcT(I:Inv X pins σ H s)(h:IsDc X.kd H a kvs):s.TypeIs (.ref a) "dict" /\ ∀b,acS a = .ref b->∃ob,s.heap.get? b=some ob/\ob.dict=none:=by
 rcases h with⟨es,rd,g⟩|⟨es,rd,_,nd,g⟩
 .obtain⟨_,hs,vs,kv,o,_,_,h1,h2,_⟩:=vf I.hok rd;exact⟨⟨o,h1,h2.1⟩,fun b e=>by cases e;exact⟨o,h1,h2.2.1⟩⟩
 .obtain⟨⟨hs,hz,o,ents,ep,h1,h2,h3,h4⟩,_⟩:=(show ObjOk X.prog X.w H s.heap a (dX a es)from rd.ok I.hok);exact⟨⟨o,h1,h2.1⟩,fun b e=>by cases e;exact⟨o,h1,h2.2.1⟩⟩
theorem wF(h:Den K H (keyD kk) y):y=kV kk:=by
 cases kk with
 |inl i=>exact aL h
 |inr x=>exact bu h
section
variable {a:Addr}{kvs:List (iO×iO)}{k:iO}{y z:V}{u dflt:GE}{A:abz}{E:GE->aab->Prop}
theorem CG(hu:A.units+64<cLine)(I:Inv X pins σ H s)(h:IsDc X.kd H a kvs)(ok:oneK kvs k=true)(hk:Den X.kd H k y)(ry:RelV y u)(rz:RelV z dflt)
  (fin:∀v w' s',Inv X pins σ H s'->RelV v w'->((∃d,dl k kvs=some d/\Den X.kd H d v)\/(dl k kvs=none/\v=z))->Q w' s'):wpAny (model X.prog X.w) A (call (.builtin "dict.get") [.ref a,u,dflt]) Q E s:=by
 have hT:=(I.dcT h).1;rcases mE ok with⟨o1,o2⟩|⟨o1,o2⟩
 .obtain⟨kk,rfl⟩:=lB o2;have ey:=wF hk;subst ey;rcases h with⟨es,rd,g⟩|⟨es,rd,kd,nd,g⟩
  .obtain⟨z0,hd,vs,rel,dd⟩:=vf I.hok rd;refine ahJ aeG hT agt (af9 _ _ _) (meets_dict_get_default (ce X.prog X.w) a (Ap ry) hd dflt) ⟨_,dd.mapOf,?_⟩;have rv:=rel.val kk;rcases g.val (kk:=kk)with⟨e1,e2⟩|⟨d,v,e1,e2,e3⟩
   .rw[e2]at rv;have e4:afp vs kk=none:=RelO.none_of rv;show Q ((afp vs kk).getD dflt) _;rw[e4];exact fin z dflt _ (I.tok _) rz (.inr ⟨e1,rfl⟩)
   .rw[e2]at rv;obtain⟨w',e4,e5⟩:=RelO.some_of rv;show Q ((afp vs kk).getD dflt) _;rw[e4];exact fin v w' _ (I.tok _) e5 (.inl ⟨d,e1,e3⟩)
  .rw[o1]at kd;cases kd
 .obtain⟨hs,xs,dd,p⟩:=I.dcX h o1;obtain⟨b,rfl⟩:=t8 o2 hk
  cases (show u=acS b from ry)
  refine ahJ aeG hT agt (af9 _ _ _) (meetsH_dict_get_default (ko X.prog X.w) a b hs dflt) ⟨(by show A.units+1+20<cLine;omega),k,xs,I.ky o2 hk,dd,?_⟩;rcases p.val o1 o2 with⟨e1,e2⟩|⟨d,v,q,e1,e2,e3,e4⟩
  .rw[e2];exact fin z dflt _ (I.tok _) rz (.inr ⟨e1,rfl⟩)
  .rw[e2];exact fin v q.2 _ (I.tok _) e4 (.inl ⟨d,e1,e3⟩)
theorem uD{d:iO}(hu:A.units+64<cLine)(I:Inv X pins σ H s)(h:IsDc X.kd H a kvs)(ok:oneK kvs k=true)(hk:Den X.kd H k y)(ry:RelV y u)(hl:dl k kvs=some d)
  (fin:∀v w' s',Inv X pins σ H s'->RelV v w'->Den X.kd H d v->Q w' s'):wpAny (model X.prog X.w) A (aeU (.ref a) u) Q E s:=by
 rcases mE ok with⟨o1,o2⟩|⟨o1,o2⟩
 .obtain⟨kk,rfl⟩:=lB o2;have ey:=wF hk;subst ey;rcases h with⟨es,rd,g⟩|⟨es,rd,kd,nd,g⟩
  .rcases g.val (kk:=kk)with⟨e1,e2⟩|⟨d',v,e1,e2,e3⟩
   .rw[hl]at e1;cases e1
   .rw[hl]at e1;cases e1;exact vI (by omega) I (by rw[<-e2];exact DGet.kr rd) ry fun w' s' I' rw'=>fin v w' s' I' rw' e3
  .rw[o1]at kd;cases kd
 .obtain⟨hs,xs,dd,p⟩:=I.dcX h o1;obtain⟨b,rfl⟩:=t8 o2 hk
  cases (show u=acS b from ry)
  rcases p.val o1 o2 with⟨e1,e2⟩|⟨d',v,q,e1,e2,e3,e4⟩
  .rw[hl]at e1;cases e1
  .rw[hl]at e1;cases e1;exact wpAny_getItem_heap (knd:=ko X.prog X.w) (by show A.units+1+20<cLine;omega) (I.ky o2 hk) dd e2 (fin v q.2 _ (I.tok _) e4 e3)
end
end
section
variable {X:Cx}{a:Expr}{wa:WE}{pos:Pos}
def FO:WE:=fun m K=>K (.newT (.dict [])) m
theorem Cz:ME X (.Dict [] [] pos) FO:=pe_dnewK.wk fun σ H Q ⟨α,m,Kc,Rl,hw,fin⟩=>by
 intro p hp;refine fin _ m _ _ hw rfl (Rl.lay hp) ⟨[([],p)],p,rfl,rfl,by simp,fun b hb=>by simp at hb;subst hb;exact hp,⟨⟨_,.ref p,rfl,?_,p,rfl,rfl⟩,fun b hb=>by simp at hb;subst hb;exact⟨_,aw,rfl⟩⟩⟩ (cj hp);simp only[TAt];refine .inr (.inr (.inl ⟨rfl,rfl,p,[],rfl,rfl,aw,?_⟩));simp only[TAtK]
theorem ls:EE X (.Dict [] [] pos) FO:=⟨Cz⟩
end
section
variable {m:MSt}{K:R->MSt->Prop}{w:WE}{P:iO->Prop}
theorem xh(h:K (.newT (.dict [])) m):FO m K:=h
end
section
variable {X:Cx}{o e e2:Expr}{es:List Expr}{wo:WE}{ws:WA}{apos cpos:Pos}
def JX(K:Kd)(to:TE)(t:TA):TE:=fun σ H Q=>to σ H fun x H1=>∃a kvs0,x = .ref a/\IsDc K H1 a kvs0/\t σ H1 fun xs H2=>∃kvs k y z,xs=[y,z]/\IsDc K H2 a kvs/\oneK kvs k=true/\Den K H2 k y/\∀v,((∃d,dl k kvs=some d/\Den K H2 d v)\/(dl k kvs=none/\v=z))->Q v H2
theorem AB{to:TE}{t:TA}(hu:X.A.units+64<cLine)(ho:PE X o to)(ha:PA X (e::es) t)
  (hbase:abD o "get" X.env (eval o X.env)=eval o X.env:=by rfl)
  (hfew:((acb cpos (aan (e::es) X.env)).all (fun x=>!x.1)&&(afx cpos (adM [] X.env)).all (fun x=>x.1.isSome)
   && decide ((e::es).length+([]:List adr).length+(if ([]:List adr).isEmpty then 0 else 1)<30))=true:=by rfl)
  (hline:(apos.endLine==cpos.line)=true:=by rfl) (hs:aan (e::es) X.env=(false,eval e X.env)::aan es X.env:=by rfl) (hplain:(acb cpos (aan es X.env)).any (·.1)=false:=by rfl) :
  PE X (.Call (.Attribute o "get" apos) (e::es) [] cpos) (JX X.kd to t):=by
 intro pins s σ H Q I h;refine ago hbase hfew hline rfl (thn (ho pins s σ H _ I h) fun v s1 ⟨x,H1,I1,r1,q1⟩=>?_);obtain⟨a,kvs0,rfl,dc0,q1⟩:=q1
 cases (show v=acS a from r1)
 obtain⟨h1,h2⟩:=I1.dcT dc0;refine⟨"dict","dict.get",aej,aeG,PySem.F.type_dict_get,h1,h2,?_⟩;have hA:=ha cpos pins s1 σ H1 _ I1 q1;rw[hs]at hA⊢;refine adt (by show(false||(acb cpos (aan es X.env)).any (·.1))=false;rw[hplain]<;>rfl) (agM ?_);refine thn hA fun us s2 ⟨vs,H2,I2,r2,q2⟩=>?_;obtain⟨kvs,k,y,z,rfl,dc,ok,hk,fin⟩:=q2
 cases r2 with
 | cons ry r2 =>
  cases r2 with
  |cons rz r2 =>
   cases r2;exact CG hu I2 dc ok hk ry rz fun v w' s' I' rv hv=>⟨v,H2,I',rv,fin v hv⟩
def yD(wo:WE)(ws:WA):WE:=fun m K=>wo m fun ro m1=>∃kvs0,dcM m1 kvs0 ro/\(isKd kvs0=true\/kyA kvs0=true)/\ws m1 fun rs m2=>∃kvs k z,rs=[.imm k,.imm z]/\dcM m2 kvs ro/\oneK kvs k=true/\K (.imm ((dl k kvs).getD z)) m2
theorem Bw(hu:X.A.units+64<cLine)(ho:ME X o wo)(ha:MA X (e::es) ws)
  (hbase:abD o "get" X.env (eval o X.env)=eval o X.env:=by rfl)
  (hfew:((acb cpos (aan (e::es) X.env)).all (fun x=>!x.1)&&(afx cpos (adM [] X.env)).all (fun x=>x.1.isSome)
   && decide ((e::es).length+([]:List adr).length+(if ([]:List adr).isEmpty then 0 else 1)<30))=true:=by rfl)
  (hline:(apos.endLine==cpos.line)=true:=by rfl) (hs:aan (e::es) X.env=(false,eval e X.env)::aan es X.env:=by first|exact aY rfl|rfl) (hplain:(acb cpos (aan es X.env)).any (·.1)=false:=by rfl) :
  ME X (.Call (.Attribute o "get" apos) (e::es) [] cpos) (yD wo ws):=(AB hu ho ha hbase hfew hline hs hplain).wk fun σ H Q ⟨α,m,Kc,Rl,hw,fin⟩=>by
 refine⟨α,m,_,Rl,hw,fun r m1 v H1 k n1 Rl1 rr F1=>?_⟩;obtain⟨kvs0,e0,k0,k⟩:=k;obtain⟨a,rfl,dc0⟩:=RelR.dc Rl1 rr e0 k0;refine⟨a,kvs0,rfl,dc0,α,m1,_,Rl1,k,fun rs m2 vs H2 k2 n2 Rl2 rr2 F2=>?_⟩;obtain⟨kvs,kk,z,rfl,e1,ok,k2⟩:=k2;have hk:isKd kvs=true\/kyA kvs=true:=by
  rcases mE ok with z|z
  .exact .inl z.1
  .exact .inr z.1
 obtain⟨a',ea,dc⟩:=RelR.dc Rl2 (rr.keep Rl Rl1 F2) e1 hk;cases ea
 cases rr2 with
 | cons hy rr2 =>
  cases rr2 with
  |cons hz rr2 =>
   cases rr2;refine⟨kvs,kk,_,_,rfl,dc,ok,hy,fun v hv=>fin _ m2 v H2 k2 (n2.trans n1) Rl2 ?_ (F1.trans F2)⟩;rcases hv with⟨d,ed,hd⟩|⟨ed,rfl⟩
   .rw[ed];exact hd
   .rw[ed];exact hz
theorem j9(hu:X.A.units+64<cLine)(ho:EE X o wo)(ha:EA X (e::es) ws)
  (hbase:abD o "get" X.env (eval o X.env)=eval o X.env:=by rfl)
  (hfew:((acb cpos (aan (e::es) X.env)).all (fun x=>!x.1)&&(afx cpos (adM [] X.env)).all (fun x=>x.1.isSome)
   && decide ((e::es).length+([]:List adr).length+(if ([]:List adr).isEmpty then 0 else 1)<30))=true:=by rfl)
  (hline:(apos.endLine==cpos.line)=true:=by rfl) (hs:aan (e::es) X.env=(false,eval e X.env)::aan es X.env:=by first|exact aY rfl|rfl) (hplain:(acb cpos (aan es X.env)).any (·.1)=false:=by rfl) :
  EE X (.Call (.Attribute o "get" apos) (e::es) [] cpos) (yD wo ws):=⟨Bw hu ho.h ha.h hbase hfew hline hs hplain⟩
end
section
variable {X:Cx}{iter:Expr}{wo:WE}{w:WS}{body:List Stmt}{pos np:Pos}{x:Str}{i0:Nat}
theorem rG{ws:WA}{m:MSt}{Q:R->MSt->Prop}(h:wo m fun ro m1=>∃kvs0,dcM m1 kvs0 ro/\(isKd kvs0=true\/kyA kvs0=true)/\ws m1 fun rs m2=>∃kvs k z,rs=[.imm k,.imm z]/\dcM m2 kvs ro/\oneK kvs k=true/\Q (.imm ((dl k kvs).getD z)) m2):yD wo ws m Q:=h
end
end L2
namespace L2
open PySem PySem.Spec PyProof.Rows
open Sem (wp)
def OT(K:Kd)(to ti:TE):TE:=fun σ H Q=>to σ H fun x H1=>ti σ H1 fun y H2=>∃a kvs k d,x = .ref a/\IsDc K H2 a kvs/\oneK kvs k=true/\Den K H2 k y/\dl k kvs=some d/\∀v,Den K H2 d v->Q v H2
section
variable {X:Cx}{o i:Expr}{wo wi:WE}{pos:Pos}{to ti:TE}
theorem Fo(hu:X.A.units+64<cLine)(ho:PE X o to)(hi:PE X i ti)(hs:NoSl i):PE X (.Subscript o i pos) (OT X.kd to ti):=by
 intro pins s σ H Q I h;refine GA PySem.F.slot_dict_getitem.lookup hs (thn (ho pins s σ H _ I h) fun u s1 ⟨x,H1,I1,rx,q1⟩=>thn (hi pins s1 σ H1 _ I1 q1) fun iv s2 ⟨y,H2,I2,ry,a,kvs,k,d,ex,dc,ok,hk,hl,q2⟩=>?_);subst ex;obtain rfl:u=acS a:=rx;exact⟨(I2.dcT dc).1,uD hu I2 dc ok hk ry hl fun v w' s' I' rv hd=>⟨v,H2,I',rv,q2 v hd⟩⟩
def DW(wo wi:WE):WE:=fun m K=>wo m fun ro m1=>wi m1 fun ri m2=>df (fun k=>∃kvs d,dcM m2 kvs ro/\oneK kvs k=true/\dl k kvs=some d/\K (.imm d) m2) ri
theorem Ib(hu:X.A.units+64<cLine)(ho:ME X o wo)(hi:ME X i wi)(hs:NoSl i:=by intro _ _;rfl):ME X (.Subscript o i pos) (DW wo wi):=(Fo hu ho hi hs).wk fun σ H Q ⟨α,m,Kc,Rl,hw,fin⟩=>by
 refine⟨α,m,_,Rl,hw,fun ro m1 v1 H1 k1 n1 Rl1 rr1 F1=>⟨α,m1,_,Rl1,k1,fun ri m2 v2 H2 k2 n2 Rl2 rr2 F2=>?_⟩⟩;obtain⟨k,rfl,hk,kvs,d,e1,ok,el,k2⟩:=fw rr2 k2;obtain⟨a,rfl,dc⟩:=RelR.dc Rl2 (rr1.keep Rl Rl1 F2) e1 (by
  rcases mE ok with z|z
  .exact .inl z.1
  .exact .inr z.1)
 exact⟨a,kvs,k,d,rfl,dc,ok,hk,el,fun v hd=>fin _ m2 v H2 k2 (n2.trans n1) Rl2 hd (F1.trans F2)⟩
theorem y9(hu:X.A.units+64<cLine)(ho:EE X o wo)(hi:EE X i wi)(hs:NoSl i:=by intro _ _;rfl):EE X (.Subscript o i pos) (DW wo wi):=⟨Ib hu ho.h hi.h hs⟩
end
theorem Iq{m:MSt}{Q:R->MSt->Prop}{wo wi:WE}(h:wo m fun ro m1=>wi m1 fun ri m2=>df (fun k=>∃kvs d,dcM m2 kvs ro/\oneK kvs k=true/\dl k kvs=some d/\Q (.imm d) m2) ri):DW wo wi m Q:=h
end L2
set_option maxHeartbeats 1100000
namespace L2
open PySem PySem.Spec PyProof.Rows
open Sem (wp)
variable{Q:GE->aab->Prop}{H:Hp}{a:Addr}{o:Obj}{es:List (V×V)}{w:World}{K:Kd}{kvs:List (iO×iO)}{P:List (iO×iO)->Prop}
structure EntAt(h:aa6)(d:Addr)(es:Array acn)(ep:Nat):Prop where
 ex:∃o,h.get? d=some o/\o.ExactDict/\o.data = .dict es ep
section
variable {prog:aaZ}{w:World}{A:abz}{E:GE->aab->Prop}{s:aab}{it d:Addr}{es:Array acn}{i ep:Nat}{ok ov:GE}
theorem pK{Q:String->aab->Prop}(hT:s.TypeIs (.ref it) "dict_itemiterator")(h:Q "dict_itemiterator" s):wpAny (model prog w) A (typeNameOfWhole (.ref it)) Q E s:=wpAny_typeNameOfWhole_itemiter hT h
theorem uH{j n:Nat}{k v:GE}(hit:acG s.heap it d j n ep ok ov)
  (hQ:∀h',afS h' it d j n ep k v s.heap.objs.size->h'.get? s.heap.objs.size=some {cls:=.type "tuple",data:=.seq #[k,v]}->h'.objs.size=s.heap.objs.size+1 ->
   (∀b o,b≠it->s.heap.get? b=some o->h'.get? b=some o)->Q (.ref s.heap.objs.size) {s with heap:=h' }):wpAny (model prog w) A (ach (.ref it) 6 k v) Q E s:=by
 have lt:it<s.heap.objs.size:=aak hit;rcases s with⟨hp,g,dr,tk,os⟩;refine gE (m:=ahG [k,v]) (aer ?_);have z0:(hp.push {cls:=.type "tuple",data:=.seq #[k,v]}).objs.size=hp.objs.size+1:=abB ..;have t0:(hp.push {cls:=.type "tuple",data:=.seq #[k,v]}).get? hp.objs.size=some {cls:=.type "tuple",data:=.seq #[k,v]}:=aal _ rfl;have k0:∀b o,hp.get? b=some o->(hp.push {cls:=.type "tuple",data:=.seq #[k,v]}).get? b=some o:=fun b o q=>Io _ q;have i0:acG (hp.push {cls:=.type "tuple",data:=.seq #[k,v]}) it d j n ep ok ov:=k0 _ _ hit;show wpAny _ _ (ab3 (.ref it) >>= _) _ _ ⟨hp.push {cls:=.type "tuple",data:=.seq #[k,v]},g,dr,tk,os⟩;generalize hp.push {cls:=.type "tuple",data:=.seq #[k,v]}=q0 at z0 t0 k0 i0;refine gE (m:=ab3 (.ref it)) ?_;refine gE (m:=field (.ref it) 0) (abf i0 rfl (x:=.none) rfl (aaa ?_));refine gE (m:=field (.ref it) 6) (abf i0 rfl (x:=ok) rfl (gE (m:=field (.ref it) 7) (abf i0 rfl (x:=ov) rfl ?_)));refine gE (m:=acK (.ref it) 6 k) (aaD i0 (by simp) fun q1 i1 s1=>?_);have i1':acG q1 it d j n ep k ov:=i1;refine gE (m:=acK (.ref it) 7 v) (aaD i1' (by simp) fun q2 i2 s2=>?_);have i2':acG q2 it d j n ep k v:=i2;refine gE (m:=acK (.ref it) 0 (adj hp.objs.size)) (aaD i2' (by simp) fun q3 i3 s3=>?_);have i3':afS q3 it d j n ep k v hp.objs.size:=i3;refine gE (m:=acK (.ref it) 1 (.bool false)) (aaD i3' (by simp) fun q4 i4 s4=>?_);have i4':afS q4 it d j n ep k v hp.objs.size:=i4;have up:∀b o,b≠it->q0.get? b=some o->q4.get? b=some o:=fun b o nb q=>s4.extBut b o nb (s3.extBut b o nb (s2.extBut b o nb (s1.extBut b o nb q)));have zz:q4.objs.size=q0.objs.size:=by rw[s4.1,s3.1,s2.1,s1.1]
 exact gE (m:=letGo _ _) (afN (aaa (hQ q4 i4' (up _ _ (abv lt) t0) (zz.trans z0) fun b o nb q=>up b o nb (k0 b o q))))
theorem p7{Q:Option GE->aab->Prop}(hit:acG s.heap it d i es.size ep ok ov)(he:EntAt s.heap d es ep)(hi:i<es.size)
  (hQ:∀h',afS h' it d (i+1) es.size ep es[i].key es[i].val s.heap.objs.size->h'.get? s.heap.objs.size=some {cls:=.type "tuple",data:=.seq #[es[i].key,es[i].val]}->h'.objs.size=s.heap.objs.size+1 ->
   (∀b o,b≠it->s.heap.get? b=some o->h'.get? b=some o)->Q (some (.ref s.heap.objs.size)) {s with heap:=h' }):wpAny (model prog w) A (acj (.ref it)) Q E s:=by
 obtain⟨od,hod,hcd,hdd⟩:=he.ex;have hT:s.TypeIs (.ref it) "dict_itemiterator" :=(⟨_,hit,rfl⟩);have own:abd "dict_itemiterator" = true:=by decide
 unfold acj;refine gE (acu (aaP (name:=abI "__next__") hT aa8 (aaT aa8 hT acs ?_ (ack _))))
 wp_walk using pK hT,adP hit rfl,abX hod hdd,aci hod hdd,abj hT
 have eg:(if (i:Int)<0 then none else es[((i:Nat):Int).toNat]?)=some es[i]:=by
  rw[if_neg (by omega),aaX,abU hi]
 rw[eg];rcases s with⟨hp,g,dr,tk,os⟩;refine gE ?_;refine gE (pK hT (aaa ?_));refine gE (m:=afE _ _) (abj hT ?_);show wpAny _ _ (acK (.ref it) 3 (adj ((i:Int)+1)) >>= _) _ _ _;refine gE (aaD hit (by simp) fun h1 e1 s1=>?_);replace s1:abu it hp h1:=s1;have e1':acG h1 it d (i+1) es.size ep ok ov:=by
  have q:((i+1:Nat):Int)=(i:Int)+1:=rfl;unfold acG;rw[q];simpa[adj]using e1
 have T1:aeX ⟨h1,g,dr,tk,os⟩ (.ref it) "dict_itemiterator" :=(⟨_,e1',rfl⟩);refine gE (abM (gE (abj T1 (gE (abj T1 ?_)))));show wpAny _ _ (ach (.ref it) 6 es[i].key es[i].val) _ _ ⟨h1,g,dr,tk,os⟩;have z1:h1.objs.size=hp.objs.size:=s1.1;refine uH e1' fun h2 e2 t2 z2 k2=>?_;rw[z1]at e2 t2 z2⊢;exact aaa ⟨_,rfl,aaa (hQ h2 e2 t2 z2 fun b o nb q=>k2 b o nb (s1.extBut b o nb q))⟩
theorem oI{Q:Option GE->aab->Prop}(hh:A.handled=none)(hit:acG s.heap it d i es.size ep ok ov)(he:EntAt s.heap d es ep)(hi:es.size≤i)
  (hQ:∀h',(∀b o,b≠it->s.heap.get? b=some o->h'.get? b=some o)->Q none {s with heap:=h' }):wpAny (model prog w) A (acj (.ref it)) Q E s:=by
 obtain⟨od,hod,hcd,hdd⟩:=he.ex;have hT:s.TypeIs (.ref it) "dict_itemiterator" :=(⟨_,hit,rfl⟩);have own:abd "dict_itemiterator" = true:=by decide
 unfold acj;refine gE (acu (aaP (name:=abI "__next__") hT aa8 (aaT aa8 hT acs ?_ (ack _))))
 wp_walk using pK hT,adP hit rfl,abX hod hdd,aci hod hdd,abj hT
 have eg:(if (i:Int)<0 then none else es[((i:Nat):Int).toNat]?)=none:=by
  rw[if_neg (by omega),aaX,aev hi]
 rw[eg];refine gE (gE (pK hT (aaa ?_)));refine gE (m:=acK (.ref it) 2 .none) (aaD hit (by simp) fun h1 e1 s1=>?_);refine jp hh fun h2 e k2 ⟨oe,q1,q2⟩=>?_;exact gE (acq (T := "StopIteration") (b:=true) ⟨oe,q1,q2⟩ aes (aaa (hQ h2 fun b o nb q=>k2 b o (s1.extBut b o nb q))))
theorem EntAt.keep{h h':aa6}(x:EntAt h d es ep)(k:∀o,h.get? d=some o->h'.get? d=some o):EntAt h' d es ep:=let ⟨o,a,b,c⟩:=x.ex;⟨o,k o a,b,c⟩
theorem EntAt.ty(x:EntAt s.heap d es ep):s.TypeIs (.ref d) "dict" :=let ⟨o,a,b,_⟩:=x.ex;⟨o,a,b.1⟩
theorem kQ(hd:(d==abH)=false)(he:EntAt s.heap d es ep)(h:Q (.ref s.heap.objs.size) {s with heap:=s.heap.push {cls:=.type "dict_items",data:=.fields #[.ref d]} }):wpAny (model prog w) A (call (.builtin "dict.items") [.ref d]) Q E s:=by
 refine ahJ (S:=fun _ R s=>EntAt s.heap d es ep/\R (.ok (.ret (.ref s.heap.objs.size))) {s with heap:=s.heap.push {cls:=.type "dict_items",data:=.fields #[.ref d]} }) aek he.ty PySem.F.entry_dict_items (PySem.F.args_dict_items_1 _) (.of_wp fun A R s ⟨hm,h⟩=>?_) ⟨he,h⟩;unfold acM.«dict.items» acM.Dict.noArgs;refine gE (gE (aeH hm.ty ?_));refine aaa ?_;refine gE (m:=adG d) ?_;unfold adG;rw[hd];exact aaa (gE (aa5 (aaa ⟨_,rfl,h⟩)))
theorem uE{v:Addr}(hv:s.heap.get? v=some {cls:=.type "dict_items",data:=.fields #[.ref d]})(he:EntAt s.heap d es ep)
  (hQ:∀h',acG h' s.heap.objs.size d 0 es.size ep .none .none->(∀b o,s.heap.get? b=some o->h'.get? b=some o)->Q (.ref s.heap.objs.size) {s with heap:=h' }):wpAny (model prog w) A (afb (.ref v)) Q E s:=by
 obtain⟨od,hod,hcd,hdd⟩:=he.ex;have hT:s.TypeIs (.ref v) "dict_items" :=(⟨_,hv,rfl⟩);have own:abd "dict_itemiterator" = true:=by decide
 refine aew hT acH (aaT acH hT ae4 ?_ (aeO _));unfold acM.«dict_items.__iter__» afH aeP;refine gE (aaa (gE (gE (abf hv rfl (x:=.ref d) rfl (aaa (gE (gE (abX hod hdd (gE (aci hod hdd ?_))))))))));simp only[own,if_true];refine aa5 (aaa ⟨_,rfl,"dict_itemiterator",_,⟨_,aal _ rfl,rfl⟩,acR.lookup,?_⟩) (by simp only[sizeOk,ad4,aap,aat,aaL,aea,aaq];omega);exact hQ _ (aal _ rfl) fun b o q=>Io _ q
structure qJ(h:aa6)(it d:Addr)(i n ep:Nat):Prop where
 e:h.get? it=some {cls:=.type "dict_keyiterator",data:=.fields #[.ref d,.int i 0,.int n 0,.int ep 0]}
theorem xG(hd:(d==abH)=false)(he:EntAt s.heap d es ep)
  (hQ:∀h',qJ h' s.heap.objs.size d 0 es.size ep->(∀b o,s.heap.get? b=some o->h'.get? b=some o)->Q (.ref s.heap.objs.size) {s with heap:=h' }):wpAny (model prog w) A (afb (.ref d)) Q E s:=by
 obtain⟨od,hod,hcd,hdd⟩:=he.ex;refine aew he.ty agu (aaT agu he.ty PySem.F.entry_dict_iter ?_ (PySem.F.args_dict_iter_1 _));unfold acM.«dict.__iter__» acM.Dict.dictSlotNone;refine gE (gE (aeH he.ty (aaa ?_)));refine gE (m:=adG d) ?_;unfold adG;rw[hd];refine aaa (gE (abX hod hdd (gE (aci hod hdd ?_))));refine gE (aa5 (aaa ⟨_,rfl,"dict_keyiterator",_,⟨_,aal _ rfl,rfl⟩,abA.lookup,?_⟩));exact hQ _ ⟨aal _ rfl⟩ fun b o q=>Io _ q
theorem Bt{Q:String->aab->Prop}(hT:s.TypeIs (.ref it) "dict_keyiterator")(h:Q "dict_keyiterator" s):wpAny (model prog w) A (typeNameOfWhole (.ref it)) Q E s:=wpAny_typeNameOfWhole_keyiter hT h
theorem yW{Q:Option GE->aab->Prop}(hit:qJ s.heap it d i es.size ep)(he:EntAt s.heap d es ep)(hi:i<es.size)
  (hQ:∀h',qJ h' it d (i+1) es.size ep->(∀b o,b≠it->s.heap.get? b=some o->h'.get? b=some o)->Q (some es[i].key) {s with heap:=h' }):wpAny (model prog w) A (acj (.ref it)) Q E s:=by
 obtain⟨od,hod,hcd,hdd⟩:=he.ex;obtain⟨hit⟩:=hit;have hT:s.TypeIs (.ref it) "dict_keyiterator" :=(⟨_,hit,rfl⟩);have own:abd "dict_keyiterator" = false:=by decide
 unfold acj;refine gE (acu (aaP (name:=abI "__next__") hT abA (aaT abA hT ad5 ?_ (adY _))))
 wp_walk using Bt hT,adP hit rfl,abX hod hdd,aci hod hdd,adH hT
 have eg:(if (i:Int)<0 then none else es[((i:Nat):Int).toNat]?)=some es[i]:=by
  rw[if_neg (by omega),aaX,abU hi]
 rw[eg];rcases s with⟨hp,g,dr,tk,os⟩;refine gE ?_;refine gE (Bt hT (aaa ?_));refine gE (adH hT ?_);show wpAny _ _ (acK (.ref it) 1 (adj ((i:Int)+1)) >>= _) _ _ _;refine gE (aaD hit (by simp) fun h1 e1 s1=>?_);replace s1:abu it hp h1:=s1;have e1':qJ h1 it d (i+1) es.size ep:=by
  refine⟨?_⟩;have q:((i+1:Nat):Int)=(i:Int)+1:=rfl;rw[q];simpa[adj]using e1
 have T1:aeX ⟨h1,g,dr,tk,os⟩ (.ref it) "dict_keyiterator" :=(⟨_,e1'.e,rfl⟩);refine gE (abM (gE (adH T1 ?_)));exact aaa (aaa ⟨_,rfl,aaa (hQ h1 e1' fun b o nb q=>s1.extBut b o nb q)⟩)
theorem AL{Q:Option GE->aab->Prop}(hh:A.handled=none)(hit:qJ s.heap it d i es.size ep)(he:EntAt s.heap d es ep)(hi:es.size≤i)
  (hQ:∀h',(∀b o,b≠it->s.heap.get? b=some o->h'.get? b=some o)->Q none {s with heap:=h' }):wpAny (model prog w) A (acj (.ref it)) Q E s:=by
 obtain⟨od,hod,hcd,hdd⟩:=he.ex;obtain⟨hit⟩:=hit;have hT:s.TypeIs (.ref it) "dict_keyiterator" :=(⟨_,hit,rfl⟩);have own:abd "dict_keyiterator" = false:=by decide
 unfold acj;refine gE (acu (aaP (name:=abI "__next__") hT abA (aaT abA hT ad5 ?_ (adY _))))
 wp_walk using Bt hT,adP hit rfl,abX hod hdd,aci hod hdd,adH hT
 have eg:(if (i:Int)<0 then none else es[((i:Nat):Int).toNat]?)=none:=by
  rw[if_neg (by omega),aaX,aev hi]
 rw[eg];refine gE (gE (Bt hT (aaa ?_)));refine gE (m:=acK (.ref it) 0 .none) (aaD hit (by simp) fun h1 e1 s1=>?_);refine jp hh fun h2 e k2 ⟨oe,q1,q2⟩=>?_;exact gE (acq (T := "StopIteration") (b:=true) ⟨oe,q1,q2⟩ aes (aaa (hQ h2 fun b o nb q=>k2 b o (s1.extBut b o nb q))))
end
def DcE(H:Hp)(a:Addr)(o:Obj)(es:List (V×V)):Prop:=(∃xs,H a=some (.frz o (dX a xs))/\es=xs.map (·.2))\/∃xs,H a=some (.frz o (.dK xs))/\es=xs.map fun p=>(kV p.1,p.2)
theorem DcE.mono{H':Hp}(p:Pers H H')(h:DcE H a o es):DcE H' a o es:=by
 rcases h with⟨xs,e,q⟩|⟨xs,e,q⟩
 .exact .inl ⟨xs,p.frzs _ _ _ e,q⟩
 .exact .inr ⟨xs,p.frzs _ _ _ e,q⟩
section
variable {X:Cx}{pins:List (Addr×Obj)}{σ:St}{H:Hp}{s:aab}
theorem GG{P:aaZ}{kk:Key}{u:GE}(e:(ce P w).is kk u=true):RelV (kV kk) u:=by
 rcases bx e with⟨i,t,rfl,rfl⟩|⟨x,t,rfl,rfl⟩
 .exact⟨t,rfl⟩
 .exact⟨t,rfl⟩
theorem Inv.dce(I:Inv X pins σ H s)(h:DcE H a o es):(a==abH)=false/\∃ents ep,s.heap.get? a=some o/\o.ExactDict/\o.data = .dict ents ep/\abV (fun(e:V×V) (d:acn)=>RelV e.1 d.key/\RelV e.2 d.val) es ents.toList:=by
 rcases h with⟨xs,e,rfl⟩|⟨xs,e,rfl⟩
 .obtain⟨ho,⟨hs,hz,o',ents,ep,h1,h2,h3,h4⟩,_⟩:=(show ObjOk X.prog X.w H s.heap a (.frz o (dX a xs))from I.hok a _ e);rw[ho]at h1;cases h1;refine⟨hs,ents,ep,ho,h2,h3,?_⟩;clear e hz;generalize ents.toList=l at h4;rename_i zz;clear zz
  induction h4 with
  |nil=>exact .nil
  |cons q _ ih=>exact .cons q.2 ih
 .obtain⟨ho,hz,hs,vs,kv,o',ents,ep,h1,h2,h3,h4,h5,h6⟩:=(show ObjOk X.prog X.w H s.heap a (.frz o (.dK xs))from I.hok a _ e);rw[ho]at h1;cases h1;refine⟨hs,ents,ep,ho,h2,h3,?_⟩;generalize ents.toList=l at h5;clear h6 h4 h3 h2 hz e
  induction kv generalizing l with
  |nil=>cases h5;exact .nil
  | cons q _ ih =>
   cases h5 with
   |cons p1 p2 p3 =>
    rw[aao];refine .cons ⟨?_,?_⟩ (ih _ p3)
    .rw[<-q.1]at p1;exact GG p1
    .rw[p2];exact q.2
end
def Itm(a:Addr)(o:Obj)(es:List (V×V)):It where
 go:=fun i H=>DcE H a o es/\i<es.length
 yld:=fun i H v H'=>∃T p,v = .ref T/\H T=none/\H'=upd H T (.tup [p.1,p.2])/\es[i]?=some p
 stop:=fun i H=>DcE H a o es/\es.length≤i
theorem Paired.at{α β:Type}{R:α->β->Prop}:∀{xs:List α}{ys:List β}{i:Nat}{y:β},abV R xs ys->ys[i]?=some y->∃x,xs[i]?=some x/\R x y
 |_,_,i,y,.nil,e=>by simp at e
 |_,_,0,y,.cons h _,e=>by simp at e;subst e;exact⟨_,rfl,h⟩
 |_,_,i+1,y,.cons _ t,e=>by
  obtain⟨x,h1,h2⟩:=Paired.at t (i:=i) (by simpa using e);exact⟨x,by simpa using h1,h2⟩
theorem zo:entryFor table "dict_itemiterator.__iter__" = some acM.«dict_keyiterator.__iter__»:=entryFor_alias (id' := "dict_keyiterator.__iter__") (by kernel_rfl) (by rfl) (by decide +kernel) (by kernel_rfl)
theorem wN{prog:aaZ}{A:abz}{E:GE->aab->Prop}{s:aab}{it d:Addr}{i n ep:Nat}{ok ov:GE}(st:acG s.heap it d i n ep ok ov)(h:Q (.ref it) s):wpAny (model prog w) A (afb (.ref it)) Q E s:=by
 have hT:s.TypeIs (.ref it) "dict_itemiterator" :=⟨_,st,rfl⟩;refine aew hT ad6 (aaT ad6 hT zo ?_ (PySem.F.args_dict_itemiterator_iter_1 _));refine aaa ⟨_,rfl,"dict_itemiterator",_,hT,acR.lookup,?_⟩;exact h
theorem uO{P:aaZ}{K:aaj}{elts:List Expr}{x1:Nat}{pos:Pos}{it:Addr}{ents:Array acn}{ep:Nat}(ho:o.data = .dict ents ep):Turn P w K (.Tuple elts x1 pos) (Itm a o es) [it] it (fun i h=>∃ok ov,acG h it a i ents.size ep ok ov) where
 mem:=by simp
 obj:=fun i h st c hc=>by
  obtain⟨ok,ov,he⟩:=st
  cases aaw.mp hc
  exact⟨_,he,fun v q=>by cases q⟩
 keep:=fun i h h' st k=>by
  obtain⟨ok,ov,he⟩:=st;exact⟨ok,ov,k it (by simp) _ he⟩
 item:=by
  intro X hP hw hK hc i pins s σ H E I hf st hg;subst hP hw hK;obtain⟨ok,ov,st⟩:=st;obtain⟨dc,hi⟩:=hg;obtain⟨_,ents',ep',g1,g2,g3,g4⟩:=I.dce dc;rw[ho]at g3;cases g3;have hl:es.length=ents.size:=by have:=g4.length;simpa using this
  have hi':i<ents.size:=by omega
  obtain⟨p,q1,q2,q3⟩:=Paired.at g4 (i:=i) (y:=ents[i]) (by simp[hi']);refine p7 st ⟨o,g1,g2,ho⟩ hi' fun h' a1 a2 a3 a4=>⟨.ref s.heap.objs.size,rfl,?_⟩;refine wpAny_letOwnedTupleGo_items (s:={s with heap:=h' }) a1 fun h2 b1 sb=>?_;have hfT:H s.heap.objs.size=none:=I.hok.fresh (aac _);have nz:it≠s.heap.objs.size:=aa4 (aak st);have up:∀c o,c≠it->h'.get? c=some o->h2.get? c=some o:=fun c o n q=>sb.extBut c o n q;have T2:h2.get? s.heap.objs.size=some {cls:=.type "tuple",data:=.seq #[ents[i].key,ents[i].val]}:=up _ _ (abt nz) a2;have I0:Inv X pins σ (upd H s.heap.objs.size (.tup [p.1,p.2])) {s with heap:=s.heap.push {cls:=.type "tuple",data:=.seq #[ents[i].key,ents[i].val]},toks:=s.toks} :=
   I.laid (o:=.tup [p.1,p.2]) (fun c o q=>Io _ q) (aac _) ⟨by show 2≤aam;rw[aaq];decide,[ents[i].key,ents[i].val],.cons q2 (.cons q3 .nil),PlainT.new _ _⟩
  have Il:Inv X pins σ (upd H s.heap.objs.size (.tup [p.1,p.2])) {s with heap:=h2,toks:=s.toks}:=by
   refine Inv.turneds (s:={s with heap:=s.heap.push {cls:=.type "tuple",data:=.seq #[ents[i].key,ents[i].val]},toks:=s.toks}) (h':=h2) (t':=s.toks) (ch:=[it]) I0 (fun c o hc q=>?_) fun c hc=>?_
   .have hc':c≠it:=fun z=>hc (by simp[z]);rcases ae3 q with⟨rfl,rfl⟩|q
    .exact T2
    .exact up c o hc' (a4 c o hc' q)
   .obtain⟨f0,f1⟩:=hf c hc
    cases aaw.mp hc
    exact⟨by rw[ap nz];exact f0,f1⟩
  refine⟨.ref s.heap.objs.size,upd H s.heap.objs.size (.tup [p.1,p.2]),Il,rfl,⟨_,p,rfl,hfT,rfl,q1⟩,⟨_,_,b1⟩,fun c hc=>?_⟩
  cases aaw.mp hc
  rw[ap nz];exact(hf _ hc).1
 done:=by
  intro X hP hw hK hc i pins s σ H E I hf st hg;subst hP hw hK;obtain⟨ok,ov,st⟩:=st;obtain⟨dc,hi⟩:=hg;obtain⟨_,ents',ep',g1,g2,g3,g4⟩:=I.dce dc;rw[ho]at g3;cases g3;have hl:es.length=ents.size:=by have:=g4.length;simpa using this
  exact oI (I.ok.hd hc) st ⟨o,g1,g2,ho⟩ (by omega) fun h' hk=>⟨rfl,I.turneds (t':=s.toks) (ch:=[it]) (fun c o hc q=>hk c o (fun z=>hc (by simp[z])) q) hf⟩
 self:=fun _ _ _ _ _ st h=>by
  obtain⟨ok,ov,st⟩:=st;exact wN st h
theorem uW{K:Kd}{H:Hp}:∀{kvs:List (iO×iO)}{xs:List (Int×V×V)},DenKV K H kvs xs->abV (fun(p:iO×iO) (e:V×V)=>Den K H p.1 e.1/\Den K H p.2 e.2) kvs (xs.map (·.2))
 |[],_,h=>by simp only[DenKV]at h;subst h;exact .nil
 |(k,d)::r,_,h=>by
  simp only[DenKV]at h;obtain⟨u,v,vs,rfl,h1,h2,h3⟩:=h;exact .cons ⟨h1,h2⟩ (uW h3)
theorem u7{K:Kd}{H:Hp}:∀{kvs:List (iO×iO)}{xs:List (Key×V)},DenKK K H kvs xs->abV (fun(p:iO×iO) (e:V×V)=>Den K H p.1 e.1/\Den K H p.2 e.2) kvs (xs.map fun p=>(kV p.1,p.2))
 |[],_,h=>by simp only[DenKK]at h;subst h;exact .nil
 |(k,d)::r,_,h=>by
  simp only[DenKK]at h;obtain⟨kk,v,vs,rfl,⟨rfl,_⟩,h2,h3⟩:=h;refine .cons ⟨?_,h2⟩ (u7 h3)
  cases kk with
  |inl i=>exact mT i
  |inr x=>exact yb x
abbrev PDc(K:Kd)(H:Hp):List (iO×iO)->List (V×V)->Prop:=abV fun p e=>Den K H p.1 e.1/\Den K H p.2 e.2
theorem PDc.mono{H':Hp}(p:Pers H H')(h:PDc K H kvs es):PDc K H' kvs es:=by
 induction h with
 |nil=>exact .nil
 |cons h _ ih=>exact .cons ⟨h.1.mono p,h.2.mono p⟩ ih
theorem KJ{v:V}(h:Den K H (.dict kvs) v)(hk:isKd kvs=true\/kyA kvs=true):∃a o es,v = .ref a/\DcE H a o es/\PDc K H kvs es:=by
 obtain⟨n1,n2⟩:=nA hk;simp only[Den]at h;obtain⟨a,rfl,h⟩:=h;rcases h with⟨xs,⟨o,f⟩,kk,g⟩|⟨xs,o,f,g⟩|⟨c,xs,ec,_⟩
 .exact⟨a,o,_,rfl,.inl ⟨xs,f,rfl⟩,uW g⟩
 .exact⟨a,o,_,rfl,.inr ⟨xs,f,rfl⟩,u7 g⟩
 .rw[n2]at ec;cases ec
def bZ(kvs:List (iO×iO)):List iO:=kvs.map fun p=>.tuple [p.1,p.2]
def lH(kvs:List (iO×iO)):List iO:=kvs.map (·.1)
theorem Paired.at1{α β:Type}{R:α->β->Prop}:∀{xs:List α}{ys:List β}{i:Nat}{x:α},abV R xs ys->xs[i]?=some x->∃y,ys[i]?=some y/\R x y
 |_,_,i,y,.nil,e=>by simp at e
 |_,_,0,y,.cons h _,e=>by simp at e;subst e;exact⟨_,rfl,h⟩
 |_,_,i+1,y,.cons _ t,e=>by
  obtain⟨x,h1,h2⟩:=Paired.at1 t (i:=i) (by simpa using e);exact⟨x,by simpa using h1,h2⟩
theorem xy:Wks K (Itm a o es) (bZ kvs) fun H=>DcE H a o es/\PDc K H kvs es where
 stop:=fun H ⟨q,g⟩=>⟨q,by unfold bZ;rw[Ge,g.length];exact aac _⟩
 go:=fun i H hi ⟨q,g⟩=>⟨q,by unfold bZ at hi;rw[Ge,g.length]at hi;exact hi⟩
 yld:=fun i H x H' hi ⟨q,g⟩ y=>by
  obtain⟨T,u,rfl,hT,rfl,e1⟩:=y;obtain⟨p,h1,h2,h3⟩:=Paired.at g e1;have gr:∀b o,H b=some o->upd H T (.tup [u.1,u.2]) b=some o:=fun b o q=>by rw[ap (bf q hT)];exact q
  have pe:Pers H (upd H T (.tup [u.1,u.2])):=⟨fun b xs q=>gr b _ q,fun b o u q=>gr b _ q⟩;exact⟨gr,.tuple [p.1,p.2],by unfold bZ;rw[aae,h1];rfl,cP (SqT.of aw) (DenAll.cons (h2.mono pe) (DenAll.cons (h3.mono pe) DenAll.nil))⟩
section
variable {X:Cx}{tg o:Expr}{elts:List Expr}{x1:Nat}{tpos:Pos}{wo:WE}{apos cpos:Pos}
def IJ(to:TE):TI:=fun σ H Rq=>to σ H fun x H1=>∃a o es,x = .ref a/\DcE H1 a o es/\Rq (Itm a o es) H1
theorem Ak{to:TE}(ho:PE X o to)(hbase:abD o "items" X.env (eval o X.env)=eval o X.env:=by rfl)(hline:(apos.endLine==cpos.line)=true:=by rfl):PI X (.Tuple elts x1 tpos) (.Call (.Attribute o "items" apos) [] [] cpos) (IJ to):=by
 intro pins s σ H Rq I h;refine aga hbase hline (thn (ho pins s σ H _ I h) fun v s1 ⟨x,H1,I1,r1,q1⟩=>?_);obtain⟨a,ob,es,rfl,dc,q⟩:=q1;cases r1;obtain⟨hs,ents,ep,g1,g2,g3,g4⟩:=I1.dce dc;have he:EntAt s1.heap a ents ep:=⟨ob,g1,g2,g3⟩;refine⟨"dict","dict.items",aej,aek,agb,⟨ob,g1,g2.1⟩,fun b e=>by cases e;exact⟨ob,g1,g2.2.1⟩,adt rfl (ag5 (kQ hs he ?_))⟩;have k1:∀b o,s1.heap.get? b=some o->(s1.heap.push {cls:=.type "dict_items",data:=.fields #[.ref a]}).get? b=some o:=fun b o q=>Io _ q;refine uE (s:={s1 with heap:=s1.heap.push {cls:=.type "dict_items",data:=.fields #[.ref a]} }) (aal _ rfl) (he.keep fun o=>k1 _ o) fun h' Z hk=>?_;have hle:s1.heap.objs.size≤(s1.heap.push {cls:=.type "dict_items",data:=.fields #[.ref a]}).objs.size:=by rw[abB];omega
 refine⟨_,[_],_,_,H1,rfl,I1.kept (t':=s1.toks) fun b o q=>hk b o (k1 b o q),uO g3,⟨_,_,Z⟩,fun c hc=>?_,q⟩
 cases aaw.mp hc
 exact I1.fpOk hle (I1.hok.fresh hle)
def onDc(P:List (iO×iO)->Prop):R->Prop
 | .imm (.dict kvs)=>(isKd kvs||kyA kvs)=true/\P kvs
 |_=>False
theorem Gm{α:Al}{H0:Hp}{r:R}{v:V}(h:RelR K α H0 H r v)(k:onDc P r):∃kvs a o es,v = .ref a/\DcE H a o es/\PDc K H kvs es/\P kvs:=by
 cases r with
 | imm d =>
  cases d with
  |dict kvs =>
   obtain⟨k1,k2⟩:=k;obtain⟨a,o,es,e1,e2,e3⟩:=KJ (show Den K H (.dict kvs) v from h) (by rw[ad8]at k1;exact k1);exact⟨kvs,a,o,es,e1,e2,e3,k2⟩
  |none=>exact k.elim
  |bool _=>exact k.elim
  |int _=>exact k.elim
  |str _=>exact k.elim
  |list _=>exact k.elim
  |tuple _=>exact k.elim
 |_=>exact k.elim
def qj(wo:WE):WI:=fun m K=>wo m fun r m'=>onDc (fun kvs=>K ⟨bZ kvs,none⟩ m') r
theorem Ad(ho:ME X o wo)(hbase:abD o "items" X.env (eval o X.env)=eval o X.env:=by rfl)(hline:(apos.endLine==cpos.line)=true:=by rfl):MI X (.Tuple elts x1 tpos) (.Call (.Attribute o "items" apos) [] [] cpos) (qj wo):=(Ak ho hbase hline).wk fun σ H Rq ⟨α,m,Kc,Rl,hw,fin⟩=>by
 refine⟨α,m,_,Rl,hw,fun r m' v H' k n Rl' rr F=>?_⟩;obtain⟨kvs,a,ob,es,rfl,dc,pd,k⟩:=Gm rr k;exact⟨a,ob,es,rfl,dc,fin _ m' _ H' k n Rl' F ⟨_,xy,⟨dc,pd⟩,fun Ha Hb ⟨x,y⟩ pe=>⟨x.mono pe,y.mono pe⟩⟩⟩
theorem yR(ho:EE X o wo)(hbase:abD o "items" X.env (eval o X.env)=eval o X.env:=by rfl)(hline:(apos.endLine==cpos.line)=true:=by rfl):EI X (.Tuple elts x1 tpos) (.Call (.Attribute o "items" apos) [] [] cpos) (qj wo):=⟨Ad ho.h hbase hline⟩
theorem Fv{m:MSt}{Ks:Src->MSt->Prop}(h:wo m fun r m'=>onDc (fun kvs=>Ks ⟨bZ kvs,none⟩ m') r):qj wo m Ks:=h
theorem yL(hk:(isKd kvs||kyA kvs)=true)(h:P kvs):onDc P (.imm (.dict kvs)):=⟨hk,h⟩
end
noncomputable def putX (k:iO) (b:Addr) (r:GE):List (iO×Addr×GE)->List (iO×Addr×GE)
 |[]=>[(k,b,r)]
 |x::xs=>if x.1=k then(x.1,x.2.1,r)::xs else x::putX k b r xs
theorem tm{k:iO}{r:GE}:∀{xs:List (iO×Addr×GE)},k∉xs.map (·.1)->xs.map (putAt k r)=xs
 |[],_=>rfl
 |x::xs,h=>by
  rw[aao,aas,not_or]at h;rw[aao,tm h.2];unfold putAt;rw[if_neg (fun z=>h.1 z.symm)]
theorem jZ{k:iO}{b:Addr}{r:GE}:∀{xs:List (iO×Addr×GE)},(xs.map (·.1)).Nodup->storedH xs k b r=putX k b r xs
 |[],_=>rfl
 | x::xs,h=>by
  rw[aao,abc]at h
  by_cases e:x.1=k
  .have a:atKey (x::xs) k=some x.2:=by simp[atKey,ab5,e]
   rw[storedH_old a,aao,tm (by rw[<-e];exact h.1)];unfold putX putAt;rw[if_pos e,if_pos e]
  .have a:atKey (x::xs) k=atKey xs k:=by simp[atKey,ab5,e]
   have ih:=jZ (k:=k) (b:=b) (r:=r) h.2;unfold putX;rw[if_neg e,<-ih];unfold storedH;rw[a];split
   .rw[aao]
    congr 1
    unfold putAt;rw[if_neg e]
   .rfl
noncomputable def putE (w:World) (k:iO) (y v:V):List (iO×iO)->List (Int×V×V)->List (Int×V×V)
 |(k',_)::r,e::es=>if k'=k then(e.1,e.2.1,v)::es else e::putE w k y v r es
 |_,_=>[(dY w k,y,v)]
theorem uQ{k d k' d':iO}{r:List (iO×iO)}(h:kyD k'=true)(hk:kyD k=true):putP k d ((k',d')::r)=if k'=k then(k',d)::r else(k',d')::putP k d r:=by
 show(if aar k' k=true then _ else _)=_;rw[oX _ _ (kJ h) (kJ hk)]
 by_cases e:k'=k
 .rw[if_pos e,if_pos (decide_eq_true e)]
 .rw[if_neg e,if_neg (by rw[decide_eq_false e];decide)]
theorem tj(w:World)(k:iO)(y v:V):∀(kvs:List (iO×iO)) (es:List (Int×V×V)),kvs.length=es.length->(putE w k y v kvs es).length≤es.length+1
 |[],[],_=>aac _
 |(k',d')::r,e::es,h=>by
  unfold putE;split
  .simp
  .rw[aaL,aaL];have:=tj w k y v r es (by simpa using h);omega
 |[],_::_,h=>by simp at h
 |_::_,[],h=>by simp at h
theorem tJ{K:Kd}{H:Hp}{k d:iO}{y v:V}(hk:kyD k=true)(dk:Den K H k y)(dd:Den K H d v):∀{kvs:List (iO×iO)}{es:List (Int×V×V)},kyA kvs=true->DenKV K H kvs es->DenKV K H (putP k d kvs) (putE K.w k y v kvs es)
 |[],es,_,g=>by
  simp only[DenKV]at g;subst g;show DenKV K H [(k,d)] [(dY K.w k,y,v)];simp only[DenKV];exact⟨y,v,[],rfl,dk,dd,rfl⟩
 |(k',d')::r,es,ha,g=>by
  rw[kyA,acQ,aaH]at ha;simp only[DenKV]at g;obtain⟨u,v',vs,rfl,g0,g1,g2⟩:=g;rw[uQ ha.1 hk];unfold putE
  by_cases e:k'=k
  .rw[if_pos e,if_pos e];simp only[DenKV];exact⟨u,v,vs,rfl,g0,dd,g2⟩
  .rw[if_neg e,if_neg e];simp only[DenKV];exact⟨u,v',_,rfl,g0,g1,tJ hk dk dd ha.2 g2⟩
theorem C9{k:iO}{b:Addr}{v:V}{r:GE}(rv:RelV v r):∀{kvs:List (iO×iO)}{es:List (Int×V×V)}{xs:List (iO×Addr×GE)},xs.map (·.1)=kvs.map (·.1)->ExV w es xs->ExV w (putE w k (.ref b) v kvs es) (putX k b r xs):=by
 intro kvs
 induction kvs with
 |nil =>
  intro es xs hk ex;have:xs=[]:=by simpa using hk
  subst this;cases ex;exact .cons ⟨rfl,rfl,rv⟩ .nil
 | cons q kvs ih =>
  intro es xs hk ex;obtain⟨k',d'⟩:=q
  cases ex with
  |nil=>simp at hk
  |cons h t =>
   simp only[aao,agA]at hk;unfold putE putX
   by_cases c:k'=k
   .rw[if_pos c,if_pos (hk.1.trans c)];exact .cons ⟨h.1,h.2.1,rv⟩ t
   .rw[if_neg c,if_neg (fun z=>c (hk.1.symm.trans z))];exact .cons h (ih hk.2 t)
def DxM(K:Kd)(H:Hp)(a:Addr)(kvs:List (iO×iO))(es:List (Int×V×V)):Prop :=
 DenKV K H kvs es/\(kvs.map (·.1)).Nodup/\kyA kvs=true/\((H a=some (dX a es)/\kvs≠[])\/(H a=some (.dK [])/\kvs=[]))
section
variable {X:Cx}{pins:List (Addr×Obj)}{σ:St}{H:Hp}{s:aab}{a:Addr}{kvs:List (iO×iO)}{es:List (Int×V×V)}{k d:iO}{y v:V}{u r:GE}{A:abz}{E:GE->aab->Prop}
theorem DxM.is(I:Inv X pins σ H s)(h:DxM X.kd H a kvs es):(a==abH)=false/\∃xs,s.heap.DictOfH (ko X.prog X.w) a xs/\PxV X.kd H kvs xs/\ExV X.w es xs:=by
 obtain⟨g,nd,ky,⟨q,_⟩|⟨q,rfl⟩⟩:=h
 .obtain⟨hs,_,xs,dd,p,e⟩:=I.dcE (.inl q) g nd ky;exact⟨hs,xs,dd,p,e⟩
 .obtain⟨hs,dd⟩:=I.dc0 (.inl q);simp only[DenKV]at g;subst g;exact⟨hs,[],dd,.nil,.nil⟩
theorem Cf{Q:Unit->aab->Prop}(hu:A.units+20<cLine)(I:Inv X pins σ H s)(h:DxM X.kd H a kvs es)(hk:kyD k=true)(dk:Den X.kd H k y)(ry:RelV y u)(rv:RelV v r)(hl:kvs.length<aam)
  (fin:∀s',Inv X pins σ (upd H a (dX a (putE X.w k y v kvs es))) s'->Q () s'):wpAny (model X.prog X.w) A (dictSet a u r) Q E s:=by
 obtain⟨hs,xs,dd,px,ex⟩:=h.is I;obtain⟨b,rfl⟩:=t8 hk dk
 cases (show u=acS b from ry)
 have le:es.length=kvs.length:=h.1.len.symm;have lx:xs.length=kvs.length:=by have:=congrArg ae1 px.keys;simpa using this
 refine wpAny_dictSet_heap (knd:=ko X.prog X.w) hu (I.ky hk dk) dd (fun h' dd' hsb=>fin _ ?_) (by omega);rw[jZ (by rw[px.keys];exact h.2.1)]at dd';obtain⟨o,ents,ep,h1,h2,h3,h4,h5,h6⟩:=dd';have mu:Mut (H a):=by
  rcases h.2.2.2 with⟨q,_⟩|⟨q,_⟩
  .rw[q];exact trivial
  .rw[q];exact trivial
 refine qy I mu hsb ⟨o,h1⟩ ⟨⟨hs,?_,o,ents,ep,h1,h2,h3,?_⟩,⟨o,h1⟩,fun ha hb φ kk=>?_⟩
 .have:=tj X.w k (.ref b) v kvs es le.symm;omega
 .rw[h4];have:=C9 (w:=X.w) (k:=k) (b:=b) rv px.keys ex;generalize putE X.w k (.ref b) v kvs es=l1 at this;generalize putX k b r xs=l2 at this;clear h4 h5 h6
  induction this with
  |nil=>exact .nil
  |cons q _ ih=>exact .cons ⟨q.1.symm,by rw[q.2.1];rfl,q.2.2⟩ ih
 .obtain⟨z1,z2,o',ents',ep',z3,z4⟩:=φ;exact⟨z1,z2,o',ents',ep',kk o' z3,z4⟩
theorem ui{Q:Unit->aab->Prop}(hu:A.units+64<cLine)(I:Inv X pins σ H s)(h:DxM X.kd H a kvs es)(hk:kyD k=true)(dk:Den X.kd H k y)(ry:RelV y u)(rv:RelV v r)(hl:kvs.length<aam)
  (fin:∀s',Inv X pins σ (upd H a (dX a (putE X.w k y v kvs es))) s'->Q () s'):wpAny (model X.prog X.w) A (agZ (.ref a) u r) Q E s:=by
 obtain⟨hs,xs,dd,px,ex⟩:=h.is I;unfold agZ;refine abM ?_;refine gE (afK dd.typeIs (by decide) ?_);refine gE (aaP (name:=abI "__setitem__") dd.typeIs slot_dict_setitem (aaT slot_dict_setitem dd.typeIs entry_dict_setitem ?_ (args_dict_setitem _ _ _)));refine gE (m:=acM.Dict.notOrdered "__setitem__" _) (aeH dd.typeIs ?_);refine gE (m:=dictSet a u r) (Cf (A:=A.in1) (by show A.units+1+20<cLine;omega) I h hk dk ry rv hl fun s' I'=>aaa ⟨.none,rfl,aaa (fin s' I')⟩)
end
def K9(K:Kd)(td ty tv:TE):TS:=fun D σ H=>tv σ H fun v H1=>td σ H1 fun x H2=>ty σ H2 fun y H3=>∃a kvs es k,x = .ref a/\DxM K H3 a kvs es/\kyD k=true/\Den K H3 k y/\kvs.length<aam/\D.nx σ (upd H3 a (dX a (putE K.w k y v kvs es)))
section
variable {X:Cx}{o i e:Expr}{wo wi we:WE}{pos pos':Pos}{td ty tv:TE}
theorem Au(hu:X.A.units+64<cLine)(ho:PE X o td)(hi:PE X i ty)(hv:PE X e tv)(hs:abY e (some (.Subscript o i pos')) pos.line X.env=pure false):PS X (.Assign [.Subscript o i pos'] e pos) (K9 X.kd td ty tv):=by
 intro pins s σ H D I h;refine ags (thn (hv pins s σ H _ I h) fun r s1 ⟨v,H1,I1,rv,q1⟩=>thn (ho pins s1 σ H1 _ I1 q1) fun u s2 ⟨x,H2,I2,rx,q2⟩=>thn (hi pins s2 σ H2 _ I2 q2) fun iv s3 ⟨y,H3,I3,ry,a,kvs,es,k,ex,dx,ky,dk,hl,q3⟩=>?_) hs;subst ex;obtain rfl:u=acS a:=rx;exact ui hu I3 dx ky dk ry rv hl fun s4 I4=>⟨σ,_,I4,q3⟩
theorem jD{k d:iO}(hk:kyD k=true):∀{kvs:List (iO×iO)},kyA kvs=true->(putP k d kvs).map (·.1)=if k∈kvs.map (·.1)then kvs.map (·.1)else kvs.map (·.1)++[k]
 |[],_=>rfl
 | (k',d')::r,h=>by
  rw[kyA,acQ,aaH]at h;rw[uQ h.1 hk]
  by_cases e:k'=k
  .rw[if_pos e,if_pos (by simp[e])];rfl
  .rw[if_neg e,aao,jD hk h.2]
   by_cases c:k∈r.map (·.1)
   .rw[if_pos c,if_pos (by simp[c])];rfl
   .rw[if_neg c,if_neg (by simp only[aao,aas,not_or];exact⟨fun z=>e z.symm,c⟩)];rfl
theorem uK{k d:iO}(hk:kyD k=true)(h:kyA kvs=true)(nd:(kvs.map (·.1)).Nodup):((putP k d kvs).map (·.1)).Nodup:=by
 rw[jD hk h];split
 .exact nd
 .rename_i c;exact ahD.mpr ⟨nd,by simp,fun a ha b hb=>by simp at hb;subst hb;exact fun z=>c (z▸ha)⟩
theorem rQ{k d:iO}(hk:kyD k=true)(h:kyA kvs=true):kyA (putP k d kvs)=true:=by
 have e:∀l:List (iO×iO),kyA l=(l.map (·.1)).all kyD:=fun l=>by unfold kyA;rw[adU];rfl
 rw[e,jD hk h];rw[e]at h;split
 .exact h
 .rw[List.all_append,h];simp[hk]
theorem Da(k d:iO)(kvs:List (iO×iO)):putP k d kvs≠[]:=by
 cases kvs with
 |nil=>intro h;cases h
 |cons x r =>
  obtain⟨k',d'⟩:=x;show(if _ then _ else _)≠_
  split<;>simp
theorem Bv(h:kyA kvs=true)(n:kvs≠[]):isKd kvs=false:=by
 cases kvs with
 |nil=>exact(n rfl).elim
 |cons x r =>
  obtain⟨k,d⟩:=x;rw[kyA,acQ,aaH]at h;obtain⟨ds,rfl,_⟩:=ie h.1;rfl
theorem jV(h:kyA kvs=true)(n:kvs≠[])(nd:(kvs.map (·.1)).Nodup):xT kvs :=
 ⟨Bv h n,nd,fun k hk=>by
  obtain⟨x,hx,rfl⟩:=aaA.mp hk;exact kJ (ab7.mp h x hx)⟩
def yc(we wo wi:WE):WS:=fun D m=>we m fun rv m1=>df (fun d=>wo m1 fun ro m2=>wi m2 fun ri m3=>onAt (fun k p=>df (fun y=>p=[]/\∃kvs,m3.os[k]?=some [.dict (lfKV kvs)]/\kyA kvs=true/\kyD y=true/\kvs.length<aam/\D.nx {m3 with os:=m3.os.set k [.dict (lfKV (putP y d kvs))]}) ri) ro) rv
theorem Ca(kvs:List (iO×iO)):kyA (lfKV kvs)=kyA kvs:=by
 unfold kyA lfKV;rw[adU];rfl
theorem Rel.dx{K:Kx}{α:Al}{m:MSt}{σ:St}{k:Nat}{τ:List (List Nat×Addr)}(Rl:Rel K α m σ H)(e1:α[k]?=some (.T τ))(e2:τ.lookup []=some a)(e3:m.os[k]?=some [.dict (lfKV kvs)])(ky:kyA kvs=true):∃es,DxM K H a kvs es:=by
 obtain⟨⟨t1,v0,z,g,a0,ea0,ev0⟩,_⟩:=Rl.own k (.T τ) _ e1 e3;cases z;obtain⟨n1,n2⟩:=nA (.inr (by rw[Ca];exact ky):isKd (lfKV kvs)=true\/kyA (lfKV kvs)=true);simp only[TAt]at g;rcases g with⟨d,z1,_⟩|⟨_,_,b,es,z1,z3,z4,kk,g⟩|⟨_,_,b,es,z1,z3,z4,g⟩|⟨c,b,dx,C,xs,z0,_⟩
 .rw[n1]at z1;cases z1
 .rw[e2]at z1;cases z1;exact⟨es,fzKV g,by rw[<-ic];exact kk.2.1,ky,.inl ⟨z4,fun z=>by subst z;exact absurd kk.1 (by decide)⟩⟩
 .rw[e2]at z1;cases z1;obtain⟨rfl,rfl⟩:=Jv (fzKK g) ky;exact⟨[],by simp only[DenKV],adm,rfl,.inr ⟨z4,rfl⟩⟩
 .rw[n2]at z0;cases z0
theorem zK(hu:X.A.units+64<cLine)(he:ME X e we)(ho:ME X o wo)(hi:ME X i wi)(hs:abY e (some (.Subscript o i pos')) pos.line X.env=pure false:=by rfl):MS X (.Assign [.Subscript o i pos'] e pos) (yc we wo wi):=(Au hu ho hi he hs).wk fun D σ H ⟨α,m,De,Rl,hw,k⟩=>by
 refine⟨α,m,_,Rl,hw,fun r m1 v H1 q n1 Rl1 rr F1=>?_⟩;obtain⟨d,er,hd,q⟩:=fw rr q;refine⟨α,m1,_,Rl1,q,fun ro m2 ov H2 q2 n2 Rl2 rr2 F2=>⟨α,m2,_,Rl2,q2,fun ri m3 iv H3 q3 n3 Rl3 rr3 F3=>?_⟩⟩;obtain⟨kk,p,τ,a,rfl,e1,e2,rfl,q3⟩:=Jz rr2 q3;obtain⟨y,rfl,hy,rfl,kvs,e3,ky,kyy,hl,q3⟩:=fw rr3 q3;obtain⟨es,dx⟩:=Rl3.dx e1 e2 e3 ky;have hd3:Den X.kx H3 d v:=(hd.mono (Rl1.pers F2)).mono (Rl2.pers F3);obtain⟨⟨t1,v0,z,g,a0,ea0,ev0⟩,mu⟩:=Rl3.own kk (.T τ) _ e1 e3;cases z;obtain⟨u0,hu0,mu0⟩:∃u,H3 a=some u/\Mu u=true:=by
  rcases dx.2.2.2 with⟨q,_⟩|⟨q,_⟩
  .exact⟨_,q,rfl⟩
  .exact⟨_,q,rfl⟩
 have pe:Pers H3 (upd H3 a (dX a (putE X.w y iv v kvs es))):=br (.inr ⟨u0,hu0,mu0⟩);have ok:=jV (kvs:=putP y d kvs) (rQ kyy ky) (Da y d kvs) (uK kyy ky dx.2.1);have new:TAt X.kx (upd H3 a (dX a (putE X.w y iv v kvs es))) τ [] (.dict (lfKV (putP y d kvs))) (.ref a):=by
  obtain⟨z1,z2⟩:=nA (.inr (by rw[Ca];exact rQ kyy ky):isKd (lfKV (putP y d kvs))=true\/kyA (lfKV (putP y d kvs))=true);simp only[TAt];refine .inr (.inl ⟨z1,z2,a,_,e2,rfl,aw,⟨by rw[jM];exact ok.1,by rw[ic];exact ok.2.1,by rw[ic];exact ok.2.2⟩,I9 ?_⟩);exact tJ kyy (hy.mono pe) (hd3.mono pe) ky (DenKV.mono pe dx.1)
 rw[e2]at ea0;cases ea0;subst ev0;obtain⟨R4,F4⟩:=Rl3.setW e1 pe (ds':=[.dict (lfKV (putP y d kvs))]) (fun b hb=>ap fun eb=>hb (eb▸bq e2)) ⟨⟨_,.ref a,rfl,new,a,e2,rfl⟩,fun b hb=>by
  by_cases eb:b=a
  .subst eb;exact⟨_,aw,rfl⟩
  .rw[ap eb];exact mu b hb⟩
 exact⟨a,kvs,es,y,rfl,dx,kyy,hy,hl,k.nx α _ σ _ q3 (n3.trans (n2.trans n1)) R4 (.of R4 (((F1.trans F2).trans F3).trans F4))⟩
theorem og(hu:X.A.units+64<cLine)(he:EE X e we)(ho:EE X o wo)(hi:EE X i wi)(hs:abY e (some (.Subscript o i pos')) pos.line X.env=pure false:=by rfl):ES X (.Assign [.Subscript o i pos'] e pos) (yc we wo wi):=⟨zK hu he.h ho.h hi.h hs⟩
theorem yi{D:dB}{m:MSt}(h:we m fun rv m1=>df (fun d=>wo m1 fun ro m2=>wi m2 fun ri m3=>onAt (fun k p=>df (fun y=>p=[]/\∃kvs,m3.os[k]?=some [.dict (lfKV kvs)]/\kyA kvs=true/\kyD y=true/\kvs.length<aam/\D.nx {m3 with os:=m3.os.set k [.dict (lfKV (putP y d kvs))]}) ri) ro) rv):yc we wo wi D m:=h
def wFzX(w:WS):WS:=fun D m=>∃(k j:Nat) (kvs:List (iO×iO)) (ρ:List Nat) (m2:MSt),m.vs[j]?=some (some (.at k []))/\m.os[k]?=some [.dict (lfKV kvs)]/\kyA kvs=true/\Fz k (.dict kvs) ρ m m2/\w D m2
theorem JC{st:Stmt}{w:WS}(h:MS X st w):MS X st (wFzX w):=(CC h).wk fun D σ H ⟨α,m,De,Rl,⟨k,j0,kvs,ρ,m2,ej,eo,ky,F,hw⟩,ke⟩=>by
 obtain⟨v,ev,τ,a,ea,el,rfl⟩:=Rl.var j0 _ ej;obtain⟨es,dx⟩:=Rl.dx ea el eo ky;have name:∀(j:Nat) (v:V),(m.vs[j]?=some (some (.obj k))\/m.vs[j]?=some (some (.at k [])))->σ[j]?=some (some v)->v = .ref a:=fun j v hj evj=>by
  rcases hj with hj|hj
  .obtain⟨v',ev',a',ea',_⟩:=Rl.var j _ hj;rw[ea]at ea';cases ea'
  .obtain⟨v',ev',τ',a',ea',el',rfl⟩:=Rl.var j _ hj;rw[ea]at ea';cases ea';rw[el]at el';cases el';rw[evj]at ev';cases ev';rfl
 rcases dx.2.2.2 with⟨q,ne⟩|⟨q,rfl⟩
 .refine lw Rl ke F ea (bq el) q rfl rfl (fun o pe=>?_) name hw;simp only[Den];exact⟨a,rfl,.inl ⟨es,⟨o,aw⟩,jV ky ne dx.2.1,DenKV.mono pe dx.1⟩⟩
 .refine lw Rl ke F ea (bq el) q rfl rfl (fun o pe=>?_) name hw;simp only[Den];exact⟨a,rfl,.inr (.inl ⟨[],o,aw,by simp only[DenKK]⟩)⟩
theorem yv{st:Stmt}{w:WS}(h:ES X st w):ES X st (wFzX w):=⟨JC h.h⟩
theorem KM{w:WS}{D:dB}{m:MSt}(k j:Nat)(kvs:List (iO×iO))(ρ:List Nat)(m2:MSt)(e1:m.vs[j]?=some (some (.at k [])))(e2:m.os[k]?=some [.dict (lfKV kvs)])(e3:kyA kvs=true)(F:Fz k (.dict kvs) ρ m m2)(h:w D m2):wFzX w D m:=⟨k,j,kvs,ρ,m2,e1,e2,e3,F,h⟩
def K8(K:Kd)(tk tv:TE):TE:=fun σ H Q=>∀p,H p=none->tk σ (upd H p (.dK [])) fun y H1=>tv σ H1 fun v H2=>H2 p=some (.dK [])/\∃k,kyD k=true/\Den K H2 k y/\∀ob,Q (.ref p) (upd H2 p (.frz ob (dX p [(dY K.w k,y,v)])))
theorem AV{tk tv:TE}(hu:X.A.units+64<cLine)(hk:PE X i tk)(hv:PE X e tv):PE X (.Dict [some i] [e] pos) (K8 X.kd tk tv):=by
 intro pins s σ H Q I q;have hn:=I.hok.fresh (aac s.heap.objs.size);have I1:=I.laid (a:=s.heap.objs.size) (o:=.dK []) (h':=s.heap.push {cls:=.type "dict",data:=.dict #[]}) (t':=s.toks) (fun _ _ q=>Io _ q) (aac _) (rH s.heap I.big);refine wpAny_Dict_any rfl rfl (by simp) (show 1≤15 by decide) (pairTrees_cons_walk (thn (hk pins _ σ _ _ I1 (q _ hn)) fun u s1 ⟨y,H1,I2,ry,q1⟩=>thn (hv pins s1 σ H1 _ I2 q1) fun r s2 ⟨v,H2,I3,rv,e0,k,ky,dk,q2⟩=>pairTrees_nil_walk ?_));unfold storeAll;rw[afe];refine gE (gE (Cf (kvs:=[]) (es:=[]) (by omega) I3 ⟨by simp only[DenKV],adm,rfl,.inr ⟨e0,rfl⟩⟩ ky dk ry rv (by rw[aaq];decide) fun s' I'=>aaa ?_));obtain⟨ob,I4⟩:=I'.freezeU aw rfl;have e1:upd (upd H2 s.heap.objs.size (dX s.heap.objs.size (putE X.w k y v [] []))) s.heap.objs.size (.frz ob (dX s.heap.objs.size (putE X.w k y v [] [])))=upd H2 s.heap.objs.size (.frz ob (dX s.heap.objs.size [(dY X.w k,y,v)])):=by
  funext b
  by_cases c:b=s.heap.objs.size
  .subst c;rw[aw,aw];rfl
  .rw[ap c,ap c,ap c]
 rw[e1]at I4;exact aaa ⟨.ref s.heap.objs.size,_,I4,rfl,q2 ob⟩
def v8(wk wv:WE):WE:=fun m K=>wk m fun rk m1=>df (fun k=>wv m1 fun rv m2=>df (fun d=>kyD k=true/\K (.imm (.dict [(k,d)])) m2) rv) rk
theorem y6(hu:X.A.units+64<cLine)(hk:ME X i wi)(hv:ME X e we):ME X (.Dict [some i] [e] pos) (v8 wi we):=(AV hu hk hv).wk fun σ H Q ⟨α,m,Kc,Rl,hw,fin⟩=>by
 intro p hp;refine⟨α,m,_,Rl.lay hp,hw,fun rk m1 y H1 k1 n1 Rl1 rr1 F1=>?_⟩;obtain⟨k,rfl,hky,k1⟩:=fw rr1 k1;refine⟨α,m1,_,Rl1,k1,fun rv m2 v H2 k2 n2 Rl2 rr2 F2=>?_⟩;obtain⟨d,rfl,hd,kd,k2⟩:=fw rr2 k2;have hpα:p∉ads α:=Rl.out hp;have e1:H2 p=some (.dK []):=F2 p _ (F1 p _ aw hpα) hpα;have hk2:Den X.kx H2 k y:=hky.mono (Rl1.pers F2);refine⟨e1,k,kd,hk2,fun ob=>?_⟩;have pe:Pers H2 (upd H2 p (.frz ob (dX p [(dY X.w k,y,v)]))):=br (.inr ⟨_,e1,rfl⟩);have fr:Frm α H (upd H2 p (.frz ob (dX p [(dY X.w k,y,v)]))):=fun b o eb nb=>by
  have ne:b≠p:=bf eb hp;rw[ap ne];exact F2 b o (F1 b o (by rw[ap ne];exact eb) nb) nb
 have old:Ext X.kx.eb.np α H α (upd H2 p (.frz ob (dX p [(dY X.w k,y,v)]))):=⟨rfl,fr,fun _ h=>.inl h,fun b hb=>by
  have hbp:b≠p:=fun e=>hpα (e▸hb);rw[ap hbp];obtain⟨o',e',_⟩:=Rl2.mem hb;exact⟨o',e'⟩⟩
 refine fin _ m2 _ _ k2 (n2.trans n1) (Rl2.at' pe (fun b hb=>ap fun e=>hpα (e▸hb)) (Rl.ebx.trans old)) (show Den X.kx _ (.dict [(k,d)]) (.ref p)from ?_) fr;simp only[Den];refine⟨p,rfl,.inl ⟨_,⟨ob,aw⟩,jV (by simp[kyA,kd]) (by simp) (by simp),?_⟩⟩;simp only[DenKV];exact⟨y,v,[],rfl,hk2.mono pe,hd.mono pe,rfl⟩
theorem u5(hu:X.A.units+64<cLine)(hk:EE X i wi)(hv:EE X e we):EE X (.Dict [some i] [e] pos) (v8 wi we):=⟨y6 hu hk.h hv.h⟩
theorem F9{m:MSt}{K:R->MSt->Prop}(h:wi m fun rk m1=>df (fun k=>we m1 fun rv m2=>df (fun d=>kyD k=true/\K (.imm (.dict [(k,d)])) m2) rv) rk):v8 wi we m K:=h
theorem vV{a b:iO}(ha:kdD a=true)(hb:kdD b=true):v9 a b=aar a b:=by
 obtain⟨ka,rfl⟩:=lB ha;obtain⟨kb,rfl⟩:=lB hb;rw[vX,nQ]
theorem yd{y d:iO}(hy:kdD y=true):∀{kvs:List (iO×iO)},isKd kvs=true->putD y (lfD d) (lfKV kvs)=lfKV (putP y d kvs)
 |[],_=>rfl
 |(k',d')::r,h=>by
  rw[mw,acQ,aaH]at h;have ih:=yd (y:=y) (d:=d) hy (kvs:=r) (by rw[mw];exact h.2);show(if v9 k' y=true then _ else _)=lfKV (if aar k' y=true then _ else _);rw[vV h.1 hy];split
  .rfl
  .show _::putD y (lfD d) (lfKV r)=_;rw[ih];rfl
end
end L2
namespace K
open PySem L2 M7
variable{D a b t v:Int}{S n q:Nat}{h:Hall}{r:Rule}{L:List Pr}
theorem vj(h:a.natAbs<10^160):acM.Int.intBits a≤540:=intBits_le_iff.mpr (aaY h (by decide))
theorem dI(ha:a.natAbs<10^160)(hb:b.natAbs<10^160):afY a b:=afY.of_le (vj ha) (vj hb) (by decide)
theorem cfdB{i:Int}{g:Nat}(h0:0<g)(h:g<10^160):CFd i (g:Int):=⟨by omega,by
 rw[aaN];have:=(agS (by omega)).mpr (aaY h (show 10^160<2^540 by decide));omega⟩
def nfP(t b:Int):Int×Int:=if b<0 then((-t)/((t.natAbs.gcd b.natAbs:Nat):Int),(-b)/((t.natAbs.gcd b.natAbs:Nat):Int))else(t/((t.natAbs.gcd b.natAbs:Nat):Int),b/((t.natAbs.gcd b.natAbs:Nat):Int))
def nf(t b:Int):iO:=.tuple [.int (nfP t b).1,.int (nfP t b).2]
def Bx:SpM:=fun as K=>∃t b:Int,as=[.imm (.int t),.imm (.int b)]/\b≠0/\t.natAbs<10^160/\b.natAbs<10^160/\K (.imm (nf t b)) []
structure FrOk(a b:Int):Prop where
 ha:a.natAbs<10^76
 hb:b.natAbs<10^76
 hp:0<b
def frT(a b:Int):iO:=.tuple [.int a,.int b]
def D6(f:Int->Int->Int->Int->iO):SpM:=fun as K=>∃a b c d:Int,as=[.imm (frT a b),.imm (frT c d)]/\FrOk a b/\FrOk c d/\K (.imm (f a b c d)) []
def addF(a b c d:Int):iO:=nf (a*d+c*b) (b*d)
def subF(a b c d:Int):iO:=nf (a*d-c*b) (b*d)
def mulF(a b c d:Int):iO:=nf (a*c) (b*d)
def Jy:SpM:=fun as K=>∃a b c d:Int,as=[.imm (frT a b),.imm (frT c d)]/\FrOk a b/\FrOk c d/\c≠0/\K (.imm (nf (a*d) (b*c))) []
theorem fJ(ha:a.natAbs<10^76)(hb:b.natAbs<10^76):(a*b).natAbs<10^152:=by
 rw[aex];have h:=Nat.mul_lt_mul'' ha hb;exact aaz h (by decide)
theorem qF(h:n<10^152):n<10^160:=aaY h (by decide)
theorem up45(h:n<10^76):n<10^160:=aaY h (by decide)
theorem L7(ha:a.natAbs<10^152)(hb:b.natAbs<10^152):(a+b).natAbs<10^160:=by
 have h:=Int.natAbs_add_le a b;have:10^152+10^152<10^160:=by decide
 omega
theorem IC(ha:a.natAbs<10^152)(hb:b.natAbs<10^152):(a-b).natAbs<10^160:=by
 have h:=ahK a b;have:10^152+10^152<10^160:=by decide
 omega
theorem vM(ha:0<a)(hb:0<b):a*b≠0:=Int.ne_of_gt (abG ha hb)
def Dl:SpM:=D6 addF
def IA:SpM:=D6 subF
def Ll:SpM:=D6 mulF
section
variable {α:Type} [deq:DecidableEq α]
def addA(a:α)(x:Int):List (α×Int)->List (α×Int)
 |[]=>[(a,x)]
 |p::r=>if p.1=a then(p.1,p.2+x)::r else p::addA a x r
def getA(a:α):List (α×Int)->Int
 |[]=>0
 |p::r=>if p.1=a then p.2 else getA a r
def kvA(enc:α->iO)(L:List (α×Int)):List (iO×iO):=L.map fun p=>(enc p.1,.int p.2)
theorem qH{enc:α->iO}(he:∀a b,aar (enc a) (enc b)=decide (a=b))(a:α):∀L:List (α×Int),(dl (enc a) (kvA enc L)).getD (.int 0) = .int (getA a L)
 |[]=>rfl
 |p::r=>by
  show(if aar (enc p.1) (enc a)=true then some (abi p.2)else dl (enc a) (kvA enc r)).getD (.int 0) = .int (if p.1=a then p.2 else getA a r);rw[he]
  by_cases c:p.1=a
  .rw[if_pos c,if_pos (decide_eq_true c)];rfl
  .rw[if_neg c,if_neg (by rw[decide_eq_false c];decide)];exact qH he a r
theorem yB{enc:α->iO}(he:∀a b,aar (enc a) (enc b)=decide (a=b))(a:α)(x:Int):∀L:List (α×Int),putP (enc a) (.int (getA a L+x)) (kvA enc L)=kvA enc (addA a x L)
 |[]=>by show [(enc a,abi (0+x))]=_;rw[ahI];rfl
 |p::r=>by
  show(if aar (enc p.1) (enc a)=true then(enc p.1,abi ((if p.1=a then p.2 else getA a r)+x))::kvA enc r else(enc p.1,abi p.2)::putP (enc a) (.int ((if p.1=a then p.2 else getA a r)+x)) (kvA enc r))=kvA enc (if p.1=a then(p.1,p.2+x)::r else p::addA a x r);rw[he]
  by_cases c:p.1=a
  .rw[if_pos c,if_pos c,if_pos (decide_eq_true c)];rfl
  .rw[if_neg c,if_neg c,if_neg (by rw[decide_eq_false c];decide),yB he a x r];rfl
theorem mf(a:α)(x:Int):∀L:List (α×Int),(addA a x L).length≤L.length+1
 |[]=>aac _
 |p::r=>by
  unfold addA;split
  .simp
  .have:=mf a x r;simp only[aaL]at this⊢;omega
end
abbrev Pt:=List Nat×Nat
def ptD(p:Pt):iO:=stD p.1 p.2
theorem r9:∀{a b:List Nat},natD a=natD b->a=b
 |[],[],_=>rfl
 |x::a,y::b,h=>by
  simp only[natD,aao,agA,ahX]at h;rw[show x=y by omega,r9 (a:=a) (b:=b) h.2]
 |[],_::_,h=>nomatch h
 |_::_,[],h=>nomatch h
theorem DE(p:Pt):hkD (ptD p)=true:=by
 have nats:∀l:List Nat,hkA (natD l)=true:=fun l=>by
  induction l with
  |nil=>rfl
  |cons x l ih=>show(hkD (.int (x:Int))&&hkA (natD l))=true;rw[ih];rfl
 show(hkD (lnD p.1)&&(hkD (.int (p.2:Int))&&true))=true;rw[show hkD (lnD p.1)=true from nats p.1];rfl
theorem jF(p q:Pt):aar (ptD p) (ptD q)=decide (p=q):=by
 rw[oX _ _ (DE p) (DE q)];refine decide_eq_decide.mpr ⟨fun h=>?_,fun h=>by rw[h]⟩;have h':[lnD p.1,abi (p.2:Int)]=[lnD q.1,.int (q.2:Int)]:=by injection h
 simp only[agA,ahX,and_true]at h';have h1:natD p.1=natD q.1:=by have:=h'.1;injection this
 exact Prod.ext (r9 h1) (by omega)
instance decWd:DecidableEq Wd:=fun a b=>by cases a<;>cases b<;>first|exact isTrue rfl|exact isFalse (fun h=>nomatch h)
theorem BA(p q:Wd):aar (.str p.s) (.str q.s)=decide (p=q):=by cases p<;>cases q<;>decide
def wdD(w:Wd):iO:=.str w.s
abbrev Ms:=List (Mv×Int)
def msD(M:Ms):List iO:=M.map fun p=>.tuple [p.1.d,.int p.2]
def goW1(h:Hall)(r:Rule)(p:Pt)(w:Int)(q:Mv×Int)(x:List (Pt×Int)×List (Wd×Int)):List (Pt×Int)×List (Wd×Int) :=
 (addA ((cX h r p.1 p.2 q.1).1,(cX h r p.1 p.2 q.1).2.1) (w*q.2) x.1,addA (cX h r p.1 p.2 q.1).2.2 (w*q.2) x.2)
def goW(h:Hall)(r:Rule)(M:Ms)(x:List (Pt×Int)×List (Wd×Int))(p:Pt×Int):List (Pt×Int)×List (Wd×Int):=M.foldl (fun x q=>goW1 h r p.1 p.2 q x) x
theorem uC{l:List Nat}{t:Nat}(ho:h.Ok)(S:St h r l t):kyD (stD l t)=true:=by
 have hk:=DE (l,t);have lay:∀l:List Nat,aba (natD l)=true:=fun l=>by
  have:=jR (l.map fun(x:Nat)=>(x:Int));rwa[abq]at this
 have dep:∀l:List Nat,aav (natD l)≤1:=fun l=>by
  have:=ld (l.map fun(x:Nat)=>(x:Int));rwa[abq]at this
 unfold kyD;rw[show hkD (stD l t)=true from hk];have c:(stD l t).canLay0=true:=by
  show aba [lnD l,.int (t:Int)]=true;simp only[aba,aaH];exact⟨lay l,rfl,trivial⟩
 rw[c];have d:(stD l t).depth≤7:=by
  show max (aav (natD l)+1) (max (abi (t:Int)).depth 0)+1≤7;have:=dep l;have e:(abi (t:Int)).depth=0:=rfl;rw[e];omega
 rw[decide_eq_true d];rfl
def wtD(W:List (Pt×Int)):iO:=.dict (kvA ptD W)
theorem zW(ho:h.Ok){W:List (Pt×Int)}(hW:∀p∈W,St h r p.1.1 p.1.2):kyA (kvA ptD W)=true:=by
 unfold kyA kvA;rw[adU,ab7];exact fun p hp=>uC ho (hW p hp)
theorem l7{α:Type}[DecidableEq α]{a:α}{x:Int}:∀{L:List (α×Int)}{p:α×Int},p∈addA a x L->p.1=a\/∃q∈L,q.1=p.1
 |[],p,h=>by rw[aaw.mp h];exact .inl rfl
 | q::r,p,h=>by
  unfold addA at h
  split at h
  .rename_i e
   cases h with
   |head=>exact .inl e
   |tail _ h=>exact .inr ⟨p,aaf _ h,rfl⟩
  .cases h with
   |head=>exact .inr ⟨_,aah,rfl⟩
   |tail _ h =>
    rcases l7 h with e|⟨q',h',e⟩
    .exact .inl e
    .exact .inr ⟨q',aaf _ h',e⟩
abbrev Pr:=iO×Int×Nat
def prsD(L:List Pr):List iO:=L.map fun p=>.tuple [p.1,.tuple [.int p.2.1,.int (p.2.2:Int)]]
def botL(L:List Pr):Nat:=L.foldl (fun m p=>m.lcm p.2.2) 1
def onB(L:List Pr):List iO:=L.map fun p=>.tuple [p.1,.int (p.2.1*(((botL L/p.2.2:Nat)):Int))]
theorem wr(L:List Pr)(p:Pr):botL (L++[p])=(botL L).lcm p.2.2:=by
 unfold botL;rw[adJ];rfl
theorem sE{B:Nat}:∀{L:List Pr},(∀p∈L,p.2.2 ∣ B)->botL L ∣ B:=by
 intro L;have key:∀(L:List Pr) (m:Nat),m ∣ B->(∀p∈L,p.2.2 ∣ B)->L.foldl (fun m p=>m.lcm p.2.2) m ∣ B:=by
  intro L
  induction L with
  |nil=>intro m hm _;exact hm
  |cons p L ih=>intro m hm h;exact ih _ (Nat.lcm_dvd hm (h p aah)) fun q hq=>h q (aaf _ hq)
 exact fun h=>key L 1 (Nat.one_dvd _) h
theorem y4(h:∀p∈L,1≤p.2.2):1≤botL L:=by
 have key:∀(L:List Pr) (m:Nat),1≤m->(∀p∈L,1≤p.2.2)->1≤L.foldl (fun m p=>m.lcm p.2.2) m:=by
  intro L
  induction L with
  |nil=>intro m hm _;exact hm
  |cons p L ih=>intro m hm h;exact ih _ (Nat.lcm_pos hm (h p aah)) fun q hq=>h q (aaf _ hq)
 exact key L 1 (aac _) h
structure BtOk(L:List Pr)(B:Nat):Prop where
 n:L.length≤100
 d:∀p∈L,1≤p.2.2/\p.2.2 ∣ B/\p.2.1.natAbs<10^76
 b0:1≤B
 b:B<10^76
def tU:SpM:=fun as K=>∃(L:List Pr) (B:Nat),as=[.imm (.list (prsD L))]/\BtOk L B/\K (.imm (.tuple [.list (onB L),.int (botL L:Int)])) []
theorem BtOk.pre{B:Nat}(h:BtOk L B)(i:Nat):1≤botL (L.take i)/\botL (L.take i)<10^76:=by
 have hm:∀p∈L.take i,p∈L:=fun p hp=>ac6 hp;refine⟨y4 fun p hp=>(h.d p (hm p hp)).1,aaE (aeY h.b0 (sE fun p hp=>(h.d p (hm p hp)).2.1)) h.b⟩
theorem CW(m b:Nat)(hb:1≤b):m.lcm b=m*(b/m.gcd b):=by
 unfold Nat.lcm;exact Nat.mul_div_assoc _ (ac7 m b)
def nG:SpM:=fun as K=>∃(t:Int) (b:Nat),as=[.imm (.int t),.imm (.int (b:Int))]/\0<b/\t.natAbs<10^160/\b<10^160/\K (.imm (nf t (b:Int))) []
theorem tz(ha:0<a)(hb:0<b):∃n:Nat,a*b=(n:Int)/\0<n:=by
 have h:=abG ha hb;exact⟨(a*b).toNat,by omega,by omega⟩
theorem h8(hb:0<b):0<(nfP t b).2/\(nfP t b).2≤b/\(nfP t b).1.natAbs≤t.natAbs:=by
 have g1:0<t.natAbs.gcd b.natAbs:=abl _ (by omega);have gb:((t.natAbs.gcd b.natAbs:Nat):Int) ∣ b:=act.mpr (ac7 _ _);have gt:((t.natAbs.gcd b.natAbs:Nat):Int) ∣ t:=act.mpr (aeQ _ _);unfold nfP;rw[if_neg (by omega)];refine⟨Int.ediv_pos_of_pos_of_dvd hb (by omega) gb,Int.ediv_le_self _ (by omega),?_⟩;show(t/((t.natAbs.gcd b.natAbs:Nat):Int)).natAbs≤_;rw[aey gt,aaN];exact adD _ _
def bQ(h:Hall):Int×Int:=nfP ((h.a:Int)*1) ((h.b:Int)*((ordK h.ss.length h.ss.length).length:Int))
def restF(h:Hall):Nat->Int×Int
 |0=>nfP (1*(h.b:Int)-(h.a:Int)*1) (1*(h.b:Int))
 |k+1=>match h.ss[k]? with
  |some s=>nfP ((restF h k).1*(s.b:Int)-(s.a:Int)*(restF h k).2) ((restF h k).2*(s.b:Int))
  |none=>restF h k
theorem mL(ho:h.Ok)(hl:0<(ordK h.ss.length h.ss.length).length):FrOk (bQ h).1 (bQ h).2:=by
 have a2:=ho.a2;have b1:=ho.b1;have b2:=ho.b2;have n:=(ci h.ss.length ho.n4 h.ss.length ho.n4).1;have hb:0<(h.b:Int)*((ordK h.ss.length h.ss.length).length:Int):=abG (by omega) (by omega);obtain⟨e1,e2,e3⟩:=h8 (t:=(h.a:Int)*1) hb;have e4:(h.b:Int)*((ordK h.ss.length h.ss.length).length:Int)≤1000000*24:=Int.mul_le_mul (by omega) (by omega) (by omega) (by omega);unfold bQ;exact⟨aaE e3 (by omega),by omega,e1⟩
theorem de{h:Hall}(ho:h.Ok):∀k,k≤h.ss.length->0<(restF h k).2/\(restF h k).2≤1000000^(k+1)/\(restF h k).1.natAbs≤(k+1)*1000000^(k+1)
 |0,_=>by
  have a2:=ho.a2;have b1:=ho.b1;have b2:=ho.b2;obtain⟨e1,e2,e3⟩:=h8 (t:=1*(h.b:Int)-(h.a:Int)*1) (b:=1*(h.b:Int)) (by omega);unfold restF;exact⟨e1,by omega,aaF e3 (by omega)⟩
 | k+1,hk=>by
  obtain⟨i1,i2,i3⟩:=de ho k (by omega);have es:h.ss[k]?=some h.ss[k]:=oR (by omega);have so:=ho.ok h.ss[k] (abm _);have sa:=so.a2;have sb:=so.b2;have sb1:=so.b1;have hb:0<(restF h k).2*(h.ss[k].b:Int):=abG i1 (by omega);obtain⟨e1,e2,e3⟩:=h8 (t:=(restF h k).1*(h.ss[k].b:Int)-(h.ss[k].a:Int)*(restF h k).2) hb;unfold restF;rw[es];refine⟨e1,ahL e2 ?_,aaF e3 (aaF (ahK _ _) ?_)⟩
  .rw[Int.pow_succ];exact Int.mul_le_mul i2 (by omega) (by omega) (by omega)
  .rw[aex,aex,aaN,aaN,agq 1000000 (k+1)];have h1:(restF h k).1.natAbs*h.ss[k].b≤(k+1)*1000000^(k+1)*1000000:=abC i3 (by omega);have h2:h.ss[k].a*(restF h k).2.natAbs≤1000000*1000000^(k+1):=abC (by omega) (by
    have e:((1000000^(k+1):Nat):Int)=(1000000:Int)^(k+1):=by rw[Int.natCast_pow];rfl
    omega)
   rw[ab4 1000000 (1000000^(k+1))]at h2;rw[show(k+1+1)*(1000000^(k+1)*1000000)=(k+1)*1000000^(k+1)*1000000+1000000^(k+1)*1000000 by rw[Nat.add_mul (k+1) 1,Nat.one_mul,ab2]];omega
theorem qK(ho:h.Ok){k:Nat}(hk:k≤h.ss.length):FrOk (restF h k).1 (restF h k).2:=by
 obtain⟨i1,i2,i3⟩:=de ho k hk;have n4:=ho.n4;have p1:1000000^(k+1)≤1000000^5:=adO (by decide) (by omega);have p2:(1000000:Int)^(k+1)=((1000000^(k+1):Nat):Int):=by rw[Int.natCast_pow];rfl
 have p3:(k+1)*1000000^(k+1)≤5*1000000^5:=abC (by omega) p1;have p4:5*1000000^5<10^76:=by decide
 have p5:1000000^5<10^76:=by decide
 refine⟨aaE i3 (aaE p3 p4),?_,i1⟩;rw[p2]at i2;omega
def prF(d:iO)(p:Int×Int):Pr:=(d,p.1,p.2.toNat)
def AW(h:Hall)(k:Nat):List Pr:=(h.ss.take k).zipIdx.map fun q=>((Mv.done q.2).d,(q.1.a:Int),q.1.b)
def shrL(h:Hall):List Pr:=(ordK h.ss.length h.ss.length).map (fun o=>prF (Mv.come o).d (bQ h))++AW h h.ss.length++if 0<(restF h h.ss.length).1 then [prF Mv.still.d (restF h h.ss.length)]else []
def sd:SpM:=fun as K=>∃h:Hall,as=[.imm h.d]/\h.Ok/\K (.new (prsD (shrL h))) []
def Ce:SpM:=fun as K=>∃h:Hall,as=[.imm h.d]/\h.Ok/\K (.new ((ordK h.ss.length h.ss.length).map lnD)) []
theorem cU:∀n≤4,0<(ordK n n).length:=by decide +kernel
def gF(h:Hall):List iO:=(ordK h.ss.length h.ss.length).map fun o=>.tuple [(Mv.come o).d,nf ((h.a:Int)*1) ((h.b:Int)*((ordK h.ss.length h.ss.length).length:Int))]
def jj(h:Hall)(k:Nat):List iO:=(aaI k).map fun i=>.tuple [(Mv.done i).d,.tuple [.int ((h.ss.getD i ⟨0,0,0⟩).a:Int),.int ((h.ss.getD i ⟨0,0,0⟩).b:Int)]]
def rsD(h:Hall)(k:Nat):iO:=.tuple [.int (restF h k).1,.int (restF h k).2]
theorem uf(h:Hall)(k:Nat):jj h (k+1)=jj h k++[.tuple [(Mv.done k).d,.tuple [.int ((h.ss.getD k ⟨0,0,0⟩).a:Int),.int ((h.ss.getD k ⟨0,0,0⟩).b:Int)]]]:=by
 unfold jj;rw[ac3,aaQ];rfl
theorem vk(a b:List Pr):prsD (a++b)=prsD a++prsD b:=by unfold prsD;rw[aaQ]
theorem OA{d:iO}{p:Int×Int}(hp:0<p.2):prsD [prF d p]=[.tuple [d,.tuple [.int p.1,.int p.2]]]:=by
 show [acg [d,.tuple [.int p.1,.int ((p.2.toNat:Nat):Int)]]]=_;rw[show((p.2.toNat:Nat):Int)=p.2 by omega]
theorem Gh(ho:h.Ok):prsD ((ordK h.ss.length h.ss.length).map fun o=>prF (Mv.come o).d (bQ h))=gF h:=by
 have hp:=(mL ho (cU h.ss.length ho.n4)).hp;unfold prsD gF;rw[abq];refine ag4 fun o _=>?_;show acg [(Mv.come o).d,.tuple [.int (bQ h).1,.int (((bQ h).2.toNat:Nat):Int)]]=_;rw[show(((bQ h).2.toNat:Nat):Int)=(bQ h).2 by omega];rfl
theorem DU(h:Hall):prsD (AW h h.ss.length)=jj h h.ss.length:=by
 unfold prsD AW jj;rw[aag,abq];refine ace fun i=>?_;rw[aae,aae,ae5]
 by_cases hi:i<h.ss.length
 .rw[abW hi,oR hi];have eg:h.ss.getD i ⟨0,0,0⟩=h.ss[i]:=aW (oR hi);show some (acg [(Mv.done (0+i)).d,.tuple [.int (h.ss[i].a:Int),.int (h.ss[i].b:Int)]])=some (.tuple [(Mv.done i).d,.tuple [.int ((h.ss.getD i ⟨0,0,0⟩).a:Int),.int ((h.ss.getD i ⟨0,0,0⟩).b:Int)]]);rw[eg,abO]
 .rw[acZ (by omega),acZ (by rw[aa2];omega)];rfl
theorem JN(ho:h.Ok):prsD (shrL h)=gF h++jj h h.ss.length++if 0<(restF h h.ss.length).1 then [.tuple [Mv.still.d,rsD h h.ss.length]]else []:=by
 unfold shrL;rw[vk,vk,Gh ho,DU]
 congr 1
 split
 .exact OA (de ho h.ss.length (aac _)).1
 .rfl
theorem zJ{i:Nat}{s:Srv}(e:h.ss[i]?=some s):rsD h (i+1)=subF (restF h i).1 (restF h i).2 (s.a:Int) (s.b:Int):=by
 unfold rsD;rw[restF,e];rfl
def shrM(h:Hall):List (Mv×Int×Nat):=(ordK h.ss.length h.ss.length).map (fun o=>(Mv.come o,(bQ h).1,(bQ h).2.toNat))++(h.ss.zipIdx.map fun q=>(Mv.done q.2,(q.1.a:Int),q.1.b))++if 0<(restF h h.ss.length).1 then [(Mv.still,(restF h h.ss.length).1,(restF h h.ss.length).2.toNat)]else []
theorem j5(h:Hall):shrL h=(shrM h).map fun q=>(q.1.d,q.2):=by
 unfold shrL shrM AW;rw[aaQ,aaQ,abq,abq,aag]
 congr 1
 split<;>rfl
def botH(h:Hall):Nat:=botL (shrL h)
def msL(h:Hall):Ms:=(shrM h).map fun q=>(q.1,q.2.1*((botH h/q.2.2:Nat):Int))
theorem IK(h:Hall):onB (shrL h)=msD (msL h):=by
 unfold onB msD msL botH;rw[j5,abq,abq];rfl
theorem sU:∀n≤4,1≤n->∀o∈ordK n n,o≠[]/\o.length≤4/\∀k∈o,k<n:=by decide +kernel
theorem js{q:Mv×Int×Nat}(hq:q∈shrM h):(∃o∈ordK h.ss.length h.ss.length,q=(Mv.come o,(bQ h).1,(bQ h).2.toNat))\/(∃i,∃hi:i<h.ss.length,q=(Mv.done i,(h.ss[i].a:Int),h.ss[i].b))\/q=(Mv.still,(restF h h.ss.length).1,(restF h h.ss.length).2.toNat):=by
 unfold shrM at hq;obtain hq|hq:=abn.mp hq
 .obtain hq|hq:=abn.mp hq
  .obtain⟨o,ho,rfl⟩:=aaA.mp hq;exact .inl ⟨o,ho,rfl⟩
  .obtain⟨z,hz,rfl⟩:=aaA.mp hq;obtain⟨i,hi,e⟩:=abx.mp hz;rw[adz]at hi;refine .inr (.inl ⟨i,hi,?_⟩);rw[ag6]at e;rw[<-e];show(Mv.done (0+i),_,_)=_;rw[abO]
 .split at hq
  .exact .inr (.inr (aaw.mp hq))
  .cases hq
theorem Gu(ho:h.Ok):∀q∈shrM h,q.1.Ok h:=fun q hq=>by
 rcases js hq with⟨o,hm,rfl⟩|⟨i,hi,rfl⟩|rfl
 .obtain⟨h1,h2,h3⟩:=sU h.ss.length ho.n4 ho.n1 o hm;exact⟨h1,h3,h2⟩
 .exact hi
 .exact trivial
theorem lz(hb:0<b):(nfP t b).2.toNat ∣ b.toNat:=by
 have gb:((t.natAbs.gcd b.natAbs:Nat):Int) ∣ b:=act.mpr (ac7 _ _);obtain⟨c,hc⟩:=gb;have g1:0<t.natAbs.gcd b.natAbs:=abl _ (by omega);unfold nfP;rw[if_neg (by omega)];show(b/((t.natAbs.gcd b.natAbs:Nat):Int)).toNat ∣ b.toNat;generalize hg:t.natAbs.gcd b.natAbs=g at *;have e:b/(g:Int)=c:=by rw[hc];exact ad7 _ (by omega)
 have c0:0<c:=by
  rcases Int.lt_trichotomy c 0 with z|z|z
  .have:=Int.mul_neg_of_pos_of_neg (show(0:Int)<(g:Int) by omega) z;omega
  .rw[z,Int.mul_zero]at hc;omega
  .exact z
 rw[e];refine⟨g,?_⟩;have:((c.toNat*g:Nat):Int)=b:=by
  rw[aaB,show((c.toNat:Nat):Int)=c by omega,aa0];exact hc.symm
 omega
def bP:List Srv->Nat
 |[]=>1
 |s::r=>s.b*bP r
theorem qY:∀(l:List Srv) (s:Srv),bP (l++[s])=bP l*s.b
 |[],s=>by show s.b*1=1*s.b;omega
 |x::l,s=>by show x.b*bP (l++[s])=x.b*bP l*s.b;rw[qY l s,ab2]
theorem BO:∀{l:List Srv}{s:Srv},s∈l->s.b ∣ bP l
 |x::l,s,h=>by
  cases h with
  |head=>exact ahM _ _
  |tail _ h=>exact aca (BO h) (acT _ _)
theorem zR:∀{l:List Srv},(∀s∈l,s.Ok)->1≤bP l/\bP l≤1000000^l.length
 |[],_=>⟨aac 1,aac 1⟩
 |x::l,h=>by
  obtain⟨h1,h2⟩:=zR (l:=l) fun s hs=>h s (aaf _ hs);have xo:=h x aah;have b1:=xo.b1;have b2:=xo.b2;refine⟨adQ b1 h1,?_⟩;show x.b*bP l≤1000000^(l.length+1);rw[agq,ab4];exact abC h2 (by omega)
theorem t7{h:Hall}(ho:h.Ok):∀k,k≤h.ss.length->(restF h k).2.toNat ∣ h.b*bP (h.ss.take k)
 |0,_=>by
  have b1:=ho.b1;have:=lz (t:=1*(h.b:Int)-(h.a:Int)*1) (b:=1*(h.b:Int)) (by omega);rw[show(1*(h.b:Int)).toNat=h.b by omega]at this;show(nfP _ _).2.toNat ∣ h.b*1;rw[ah1];exact this
 | k+1,hk=>by
  have ih:=t7 ho k (by omega);have i1:=(de ho k (by omega)).1;have es:h.ss[k]?=some h.ss[k]:=oR (by omega);have so:=ho.ok h.ss[k] (abm _);have sb1:=so.b1;have hb:0<(restF h k).2*(h.ss[k].b:Int):=abG i1 (by omega);have d:=lz (t:=(restF h k).1*(h.ss[k].b:Int)-(h.ss[k].a:Int)*(restF h k).2) hb;have e2:((restF h k).2*(h.ss[k].b:Int)).toNat=(restF h k).2.toNat*h.ss[k].b:=by
   rw[Int.toNat_mul (by omega) (by omega)];rfl
  rw[e2]at d;rw[restF,es,acy,es];show(nfP _ _).2.toNat ∣ h.b*bP (h.ss.take k++[h.ss[k]]);rw[qY,<-ab2];exact aca d (Nat.mul_dvd_mul ih (ahN _))
theorem oM(ho:h.Ok):BtOk (shrL h) ((ordK h.ss.length h.ss.length).length*(h.b*bP h.ss)):=by
 have n4:=ho.n4;have b1:=ho.b1;have b2:=ho.b2;have a2:=ho.a2;have nO:=(ci h.ss.length ho.n4 h.ss.length ho.n4).1;have pO:=cU h.ss.length ho.n4;obtain⟨p1,p2⟩:=zR ho.ok;have p3:bP h.ss≤1000000^4:=aaF p2 (adO (by decide) n4);refine⟨?_,?_,adQ pO (adQ b1 p1),?_⟩
 .rw[j5,Ge];unfold shrM;rw[aat,aat,Ge,Ge,adz]
  split<;>simp only[aaL,aea]<;>omega
 .intro p hp;rw[j5]at hp;obtain⟨q,hq,rfl⟩:=aaA.mp hp;rcases js hq with⟨o,hm,rfl⟩|⟨i,hi,rfl⟩|rfl
  .have e:=mL ho pO;have hb:0<(h.b:Int)*((ordK h.ss.length h.ss.length).length:Int):=abG (by omega) (by omega);have d:=lz (t:=(h.a:Int)*1) hb;rw[show((h.b:Int)*((ordK h.ss.length h.ss.length).length:Int)).toNat=h.b*(ordK h.ss.length h.ss.length).length by rw[<-aaB,aaX]]at d;refine⟨by have:=e.hp;show 1≤(bQ h).2.toNat;omega,?_,e.ha⟩;rw[ab4 h.b,]at d;exact aca d (by rw[<-ab2];exact ahM _ _)
  .have so:=ho.ok h.ss[i] (abm _);have sa:=so.a2;refine⟨so.b1,aca (BO (abm hi)) (aca (acT _ _) (acT _ _)),?_⟩;show((h.ss[i].a:Nat):Int).natAbs<10^76;omega
  .have e:=qK ho (k:=h.ss.length) (aac _);have d:=t7 ho h.ss.length (aac _);rw[aag]at d;exact⟨by have:=e.hp;show 1≤(restF h h.ss.length).2.toNat;omega,aca d (acT _ _),e.ha⟩
 .have m1:h.b*bP h.ss≤1000000*1000000^4:=abC (by omega) p3;have m2:(ordK h.ss.length h.ss.length).length*(h.b*bP h.ss)≤24*(1000000*1000000^4):=abC nO m1;exact aaE m2 (by decide)
theorem Dt(ho:h.Ok):(msL h).length≤29/\∀q∈msL h,q.1.Ok h/\q.2.natAbs<10^160:=by
 have n4:=ho.n4;have nO:=(ci h.ss.length ho.n4 h.ss.length ho.n4).1;have B:=oM ho;have bL:botH h<10^76:=by have:=B.pre (shrL h).length;rw[aag]at this;exact this.2
 constructor
 .unfold msL shrM;rw[Ge,aat,aat,Ge,Ge,adz]
  split<;>simp only[aaL,aea]<;>omega
 .intro q hq;obtain⟨z,hz,rfl⟩:=aaA.mp hq;have d:=B.d (z.1.d,z.2) (by rw[j5];exact aaA.mpr ⟨z,hz,rfl⟩);refine⟨Gu ho z hz,?_⟩;show(z.2.1*((botH h/z.2.2:Nat):Int)).natAbs<10^160;have e1:(z.2.1).natAbs<10^76:=d.2.2;have e2:(((botH h/z.2.2:Nat):Int)).natAbs<10^76:=by rw[aaN];exact aaE (adD _ _) bL
  exact qF (fJ e1 e2)
theorem kg(L:List (Wd×Int)):isKd (kvA wdD L)=true:=by
 unfold kvA;rw[mw,adU];exact ab7.mpr fun _ _=>rfl
def pk:SpM:=fun as K=>∃(h:Hall) (r:Rule) (W:List (Pt×Int)),as=[.imm h.d,.imm r.d,.imm (wtD W)]/\h.Ok/\r.Ok h/\(∀p∈W,St h r p.1.1 p.1.2/\p.2.natAbs<10^160)/\W.length≤100000/\K (.imm (.tuple [wtD (W.foldl (goW h r (msL h)) ([],[])).1,.dict (kvA wdD (W.foldl (goW h r (msL h)) ([],[])).2),.int (botH h:Int)])) []
structure GoOk(h:Hall)(r:Rule)(n:Nat)(x:List (Pt×Int)×List (Wd×Int)):Prop where
 st:∀p∈x.1,St h r p.1.1 p.1.2
 n1:x.1.length≤n
 n2:x.2.length≤n
theorem GoOk.next{x:List (Pt×Int)×List (Wd×Int)}(ho:h.Ok)(hr:r.Ok h)(X:GoOk h r n x){p:Pt}(hp:St h r p.1 p.2)(w:Int){q:Mv×Int}(hq:q.1.Ok h):GoOk h r (n+1) (goW1 h r p w q x):=by
 refine⟨fun z hz=>?_,aaF (mf _ _ _) (agW X.n1 1),aaF (mf _ _ _) (agW X.n2 1)⟩;rcases l7 hz with e|⟨z',hz',e⟩
 .rw[e];exact me ho hr hp hq
 .rw[<-e];exact X.st z' hz'
def Ck:SpM:=fun as K=>∃n:Nat,as=[.imm (.int (n:Int))]/\n≤4/\K (.new ((ordK n n).map lnD)) []
theorem cr(hb:0<b):(nfP t b).1*b=t*(nfP t b).2:=by
 have gb:((t.natAbs.gcd b.natAbs:Nat):Int) ∣ b:=act.mpr (ac7 _ _);have gt:((t.natAbs.gcd b.natAbs:Nat):Int) ∣ t:=act.mpr (aeQ _ _);have g1:0<t.natAbs.gcd b.natAbs:=abl _ (by omega);unfold nfP;rw[if_neg (by omega)];show t/((t.natAbs.gcd b.natAbs:Nat):Int)*b=t*(b/((t.natAbs.gcd b.natAbs:Nat):Int));generalize t.natAbs.gcd b.natAbs=g at *;obtain⟨x,hx⟩:=gt;obtain⟨y,hy⟩:=gb;have e1:t/(g:Int)=x:=by rw[hx];exact ad7 _ (by omega)
 have e2:b/(g:Int)=y:=by rw[hy];exact ad7 _ (by omega)
 rw[e1,e2,hx,hy];simp only[aa0,aaC,aaR]
def vF(D:Nat)(n:Int)(d:Nat):Int:=n*((D/d:Nat):Int)
theorem mJ{D d:Nat}{n:Int}(hd:d ∣ D)(e:n*b=t*(d:Int)):vF D n d*b=t*(D:Int):=by
 have eD:(D:Int)=(d:Int)*((D/d:Nat):Int):=by rw[<-aaB,ag7 hd]
 unfold vF
 calc n*((D/d:Nat):Int)*b=(n*b)*((D/d:Nat):Int):=by simp only[aa0,aaC,aaR]
  _=t*(D:Int):=by rw[e,eD];simp only[aa0,aaC,aaR]
theorem jo{p:Pr}(hp:p∈L):p.2.2 ∣ botL L:=by
 have keep:∀(L:List Pr) (m:Nat),m ∣ L.foldl (fun m p=>m.lcm p.2.2) m:=by
  intro L
  induction L with
  |nil=>intro m;exact ahN _
  |cons x L ih=>intro m;exact aca (Nat.dvd_lcm_left _ _) (ih _)
 have key:∀(L:List Pr) (m:Nat),p∈L->p.2.2 ∣ L.foldl (fun m p=>m.lcm p.2.2) m:=by
  intro L
  induction L with
  |nil=>intro m h;cases h
  |cons x L ih =>
   intro m h
   cases h with
   |head=>exact aca (Nat.dvd_lcm_right _ _) (keep _ _)
   |tail _ h=>exact ih _ h
 exact key L 1 hp
def tT(h:Hall):Nat->Int
 |0=>(h.b:Int)-(h.a:Int)
 |k+1=>match h.ss[k]? with
  |some s=>tT h k*(s.b:Int)-(s.a:Int)*((h.b*bP (h.ss.take k):Nat):Int)
  |none=>tT h k
theorem vq{k:Nat}(hk:k<h.ss.length):bP (h.ss.take (k+1))=bP (h.ss.take k)*h.ss[k].b:=by
 rw[acy,oR hk];exact qY _ _
theorem fW{h:Hall}(ho:h.Ok):∀k,k≤h.ss.length->(restF h k).1*((h.b*bP (h.ss.take k):Nat):Int)=tT h k*(restF h k).2
 |0,_=>by
  have b1:=ho.b1;have:=cr (t:=1*(h.b:Int)-(h.a:Int)*1) (b:=1*(h.b:Int)) (by omega);rw[restF,tT];show _*((h.b*1:Nat):Int)=_;rw[ah1];rw[ael,aeZ]at this;rw[ael,aeZ];exact this
 | k+1,hk=>by
  have ih:=fW ho k (by omega);have i1:=(de ho k (by omega)).1;have es:h.ss[k]?=some h.ss[k]:=oR (by omega);have so:=ho.ok h.ss[k] (abm _);have sb1:=so.b1;have hb:0<(restF h k).2*(h.ss[k].b:Int):=abG i1 (by omega);have c:=cr (t:=(restF h k).1*(h.ss[k].b:Int)-(h.ss[k].a:Int)*(restF h k).2) hb;rw[restF,tT,es,vq (by omega)];show(nfP _ _).1*_=(tT h k*(h.ss[k].b:Int)-(h.ss[k].a:Int)*_)*(nfP _ _).2;generalize nfP ((restF h k).1*(h.ss[k].b:Int)-(h.ss[k].a:Int)*(restF h k).2) ((restF h k).2*(h.ss[k].b:Int))=z at *;rw[<-ab2,aaB (h.b*bP (h.ss.take k))];generalize ((h.b*bP (h.ss.take k):Nat):Int)=P at *;generalize (h.ss[k].b:Int)=B at *;generalize (h.ss[k].a:Int)=S at *;generalize (restF h k).1=r1 at *;generalize (restF h k).2=r2 at *;generalize tT h k=T at *;refine Int.eq_of_mul_eq_mul_left (a:=r2) (by omega) ?_
  calc r2*(z.1*(P*B))=P*(z.1*(r2*B)):=by simp only[aa0,aaC,aaR]
   _=P*((r1*B-S*r2)*z.2):=by rw[c]
   _=((r1*P)*B-S*r2*P)*z.2:=by simp only[aem,Int.mul_sub,aa0,aaC,aaR]
   _=((T*r2)*B-S*r2*P)*z.2:=by rw[ih]
   _=r2*((T*B-S*P)*z.2):=by simp only[aem,Int.mul_sub,aa0,aaC,aaR]
def dnS(h:Hall)(D:Nat):Nat->Int
 |0=>0
 |k+1=>match h.ss[k]? with
  |some s=>dnS h D k+vF D (s.a:Int) s.b
  |none=>dnS h D k
theorem iL{h:Hall}(ho:h.Ok){D:Nat}{C:Int}(hC:C*(h.b:Int)=(h.a:Int)*(D:Int))(hD:∀s∈h.ss,s.b ∣ D):∀k,k≤h.ss.length->((D:Int)-C-dnS h D k)*((h.b*bP (h.ss.take k):Nat):Int)=tT h k*(D:Int)
 |0,_=>by
  rw[dnS,tT];show((D:Int)-C-0)*((h.b*1:Nat):Int)=_;rw[ah1,Int.sub_zero,aem,aem,hC,aa0 (D:Int)]
 | k+1,hk=>by
  have ih:=iL ho hC hD k (by omega);have es:h.ss[k]?=some h.ss[k]:=oR (by omega);have c:=mJ (D:=D) (d:=h.ss[k].b) (n:=(h.ss[k].a:Int)) (t:=(h.ss[k].a:Int)) (b:=(h.ss[k].b:Int)) (hD _ (abm _)) rfl;rw[dnS,tT,es,vq (by omega)];show((D:Int)-C-(dnS h D k+vF D (h.ss[k].a:Int) h.ss[k].b))*_=(tT h k*(h.ss[k].b:Int)-(h.ss[k].a:Int)*_)*(D:Int);rw[<-ab2,aaB (h.b*bP (h.ss.take k))];generalize vF D (h.ss[k].a:Int) h.ss[k].b=v at *;generalize ((h.b*bP (h.ss.take k):Nat):Int)=P at *;generalize (h.ss[k].b:Int)=B at *;generalize (h.ss[k].a:Int)=S at *;generalize dnS h D k=A at *;generalize tT h k=T at *;generalize (D:Int)=E at *;have e0:(E-C-(A+v))*(P*B)=((E-C-A)*P)*B-(v*B)*P:=by
   rw[show E-C-(A+v)=(E-C-A)-v by omega,aem];simp only[aa0,aaC,aaR]
  calc (E-C-(A+v))*(P*B)=((E-C-A)*P)*B-(v*B)*P:=e0
   _=(T*E)*B-(S*E)*P:=by rw[ih,c]
   _=(T*B-S*P)*E:=by rw[aem];simp only[aa0,aaC,aaR]
theorem Mf(h:Hall)(D:Nat):((h.ss.zipIdx.map fun q=>((q.1.a:Int)*((D/q.1.b:Nat):Int))).sum)=dnS h D h.ss.length:=by
 have key:∀k,k≤h.ss.length->(((h.ss.take k).map fun s=>((s.a:Int)*((D/s.b:Nat):Int))).sum)=dnS h D k:=by
  intro k
  induction k with
  |zero=>intro _;rfl
  |succ k ih =>
   intro hk;have es:h.ss[k]?=some h.ss[k]:=oR (by omega);rw[dnS,es,acy,es,aaQ,ad9,ih (by omega)];simp[vF]
 have e:=key h.ss.length (aac _);rw[aag]at e;rw[<-e]
 congr 1
 refine ace fun i=>?_;rw[aae,aae,ae5]
 cases h.ss[i]?<;>rfl
theorem nR{α:Type}(c:Int):∀l:List α,(l.map fun _=>c).sum=(l.length:Int)*c
 |[]=>by simp
 |x::l=>by rw[aao,ab9,nR c l,aaL];rw[abN,ae6];simp;omega
theorem Cn(ho:h.Ok)(h0:0≤(restF h h.ss.length).1):((msL h).map (·.2)).sum=(botH h:Int):=by
 have b1:=ho.b1;have pO:=cU h.ss.length ho.n4;have B:=oM ho;have bp:1≤botH h:=by have:=B.pre (shrL h).length;rw[aag]at this;exact this.1
 have memC:∀o∈ordK h.ss.length h.ss.length,prF (Mv.come o).d (bQ h)∈shrL h:=fun o hm=>by
  unfold shrL;exact abn.mpr (.inl (abn.mpr (.inl (aaA.mpr ⟨o,hm,rfl⟩))))
 have dvC:(bQ h).2.toNat ∣ botH h:=by
  obtain⟨o,hm⟩:=List.exists_mem_of_length_pos pO;exact jo (memC o hm)
 have hbn:0<(h.b:Int)*((ordK h.ss.length h.ss.length).length:Int):=abG (by omega) (by omega);have eo:=mL ho pO;have eC:vF (botH h) (bQ h).1 (bQ h).2.toNat*((h.b:Int)*((ordK h.ss.length h.ss.length).length:Int))=(h.a:Int)*1*(botH h:Int):=by
  refine mJ dvC ?_;rw[show(((bQ h).2.toNat:Nat):Int)=(bQ h).2 by have:=eo.hp;omega];exact cr hbn
 have hC:(((ordK h.ss.length h.ss.length).length:Int)*vF (botH h) (bQ h).1 (bQ h).2.toNat)*(h.b:Int)=(h.a:Int)*(botH h:Int):=by
  rw[aeZ]at eC;rw[<-eC];simp only[aa0,aaC,aaR]
 have hD:∀s∈h.ss,s.b ∣ botH h:=fun s hs=>by
  obtain⟨i,hi,rfl⟩:=abx.mp hs;have:((Mv.done i).d,(h.ss[i].a:Int),h.ss[i].b)∈shrL h:=by
   rw[j5];refine aaA.mpr ⟨(Mv.done i,(h.ss[i].a:Int),h.ss[i].b),?_,rfl⟩;unfold shrM;refine abn.mpr (.inl (abn.mpr (.inr (aaA.mpr ⟨(h.ss[i],i),?_,rfl⟩))));exact abx.mpr ⟨i,by rw[adz];exact hi,by rw[ag6,abO]⟩
  exact jo this
 have lc:=iL ho hC hD h.ss.length (aac _);have rc:=fW ho h.ss.length (aac _);obtain⟨p1,_⟩:=zR ho.ok;rw[aag]at lc rc;have Ppos:0<((h.b*bP h.ss:Nat):Int):=by have:=adQ b1 p1;omega
 have es:((msL h).map (·.2)).sum=((ordK h.ss.length h.ss.length).length:Int)*vF (botH h) (bQ h).1 (bQ h).2.toNat+dnS h (botH h) h.ss.length+if 0<(restF h h.ss.length).1 then vF (botH h) (restF h h.ss.length).1 (restF h h.ss.length).2.toNat else 0:=by
  unfold msL shrM;rw[abq,aaQ,aaQ,ad9,ad9,abq,abq]
  congr 1
  .congr 1
   .exact nR (vF (botH h) (bQ h).1 (bQ h).2.toNat) (ordK h.ss.length h.ss.length)
   .exact Mf h (botH h)
  .split
   .simp[vF]
   .rfl
 rw[es];have rp:=(de ho h.ss.length (aac _)).1
 by_cases c:0<(restF h h.ss.length).1
 .rw[if_pos c];have dvR:(restF h h.ss.length).2.toNat ∣ botH h:=by
   have:prF Mv.still.d (restF h h.ss.length)∈shrL h:=by
    unfold shrL;rw[if_pos c];exact abn.mpr (.inr (aaw.mpr rfl))
   exact jo this
  have eR:=mJ (D:=botH h) (n:=(restF h h.ss.length).1) (t:=tT h h.ss.length) (b:=((h.b*bP h.ss:Nat):Int)) dvR (by rw[rc,show(((restF h h.ss.length).2.toNat:Nat):Int)=(restF h h.ss.length).2 by omega]);have:=acW (a:=((h.b*bP h.ss:Nat):Int)) (by omega) (eR.trans lc.symm);omega
 .rw[if_neg c];have r0:(restF h h.ss.length).1=0:=by omega
  rw[r0,afq]at rc;have t0:tT h h.ss.length=0:=by
   rcases Int.mul_eq_zero.mp rc.symm with z|z
   .exact z
   .omega
  rw[t0,afq]at lc;rcases Int.mul_eq_zero.mp lc with z|z
  .omega
  .omega
def sumA{α:Type}(L:List (α×Int)):Int:=(L.map (·.2)).sum
theorem ii{α:Type}[DecidableEq α](a:α)(x:Int):∀L:List (α×Int),sumA (addA a x L)=sumA L+x
 |[]=>by show x+0=0+x;omega
 |p::r=>by
  have ih:=ii a x r;unfold addA;split
  .show p.2+x+sumA r=p.2+sumA r+x;omega
  .show p.2+sumA (addA a x r)=p.2+sumA r+x;omega
theorem jJ{α:Type}[DecidableEq α]{a:α}{x:Int}(hx:0≤x):∀{L:List (α×Int)},(∀p∈L,0≤p.2)->∀p∈addA a x L,0≤p.2
 |[],_,p,hp=>by rw[aaw.mp hp];exact hx
 | q::r,h,p,hp=>by
  have hq:=h q aah;unfold addA at hp
  split at hp
  .cases hp with
   |head=>show 0≤q.2+x;omega
   |tail _ hp=>exact h p (aaf _ hp)
  .cases hp with
   |head=>exact hq
   |tail _ hp=>exact jJ hx (fun z hz=>h z (aaf _ hz)) p hp
theorem yh{h:Hall}{r:Rule}{p:Pt}{w:Int}:∀{M:Ms}{x:List (Pt×Int)×List (Wd×Int)},sumA (M.foldl (fun x q=>goW1 h r p w q x) x).1=sumA x.1+w*(M.map (·.2)).sum/\sumA (M.foldl (fun x q=>goW1 h r p w q x) x).2=sumA x.2+w*(M.map (·.2)).sum
 |[],x=>by constructor<;>(show sumA _=sumA _+w*0;rw[Int.mul_zero,Int.add_zero];rfl)
 |q::M,x=>by
  obtain⟨i1,i2⟩:=yh (h:=h) (r:=r) (p:=p) (w:=w) (M:=M) (x:=goW1 h r p w q x);rw[adB,i1,i2];unfold goW1;dsimp only;rw[ii,ii,aao,ab9,Int.mul_add];constructor<;>omega
theorem Cj{h:Hall}{r:Rule}:∀{W:List (Pt×Int)}{x:List (Pt×Int)×List (Wd×Int)},sumA (W.foldl (goW h r (msL h)) x).1=sumA x.1+sumA W*((msL h).map (·.2)).sum/\sumA (W.foldl (goW h r (msL h)) x).2=sumA x.2+sumA W*((msL h).map (·.2)).sum
 |[],x=>by constructor<;>(show sumA _=sumA _+0*_;rw[afq,Int.add_zero];rfl)
 |p::W,x=>by
  obtain⟨i1,i2⟩:=Cj (h:=h) (r:=r) (W:=W) (x:=goW h r (msL h) x p);obtain⟨j1,j2⟩:=yh (h:=h) (r:=r) (p:=p.1) (w:=p.2) (M:=msL h) (x:=x);rw[adB,i1,i2];rw[show goW h r (msL h) x p=(msL h).foldl (fun x q=>goW1 h r p.1 p.2 q x) x from rfl,j1,j2];rw[show sumA (p::W)=p.2+sumA W from rfl,ae6];constructor<;>omega
theorem LL(ho:h.Ok)(h0:0≤(restF h h.ss.length).1):∀q∈msL h,0≤q.2:=fun q hq=>by
 obtain⟨z,hz,rfl⟩:=aaA.mp hq;refine aez ?_ (Int.natCast_nonneg _);rcases js hz with⟨o,hm,rfl⟩|⟨i,hi,rfl⟩|rfl
 .show 0≤(bQ h).1;unfold bQ nfP;have b1:=ho.b1;have pO:=cU h.ss.length ho.n4;have hb:0<(h.b:Int)*((ordK h.ss.length h.ss.length).length:Int):=abG (by omega) (by omega);rw[if_neg (by omega)];exact agB (by omega) (by omega)
 .show 0≤((h.ss[i].a:Nat):Int);omega
 .exact h0
theorem Ic{h:Hall}{r:Rule}{M:Ms}(hM:∀q∈M,0≤q.2){p:Pt}{w:Int}(hw:0≤w):∀{N:Ms}{x:List (Pt×Int)×List (Wd×Int)},(∀q∈N,q∈M)->(∀z∈x.1,0≤z.2)/\(∀z∈x.2,0≤z.2)->(∀z∈(N.foldl (fun x q=>goW1 h r p w q x) x).1,0≤z.2)/\∀z∈(N.foldl (fun x q=>goW1 h r p w q x) x).2,0≤z.2
 |[],x,_,hx=>hx
 |q::N,x,hN,hx=>Ic hM hw (N:=N) (fun z hz=>hN z (aaf _ hz)) ⟨jJ (aez hw (hM q (hN q aah))) hx.1,jJ (aez hw (hM q (hN q aah))) hx.2⟩
theorem BX{h:Hall}(ho:h.Ok)(h0:0≤(restF h h.ss.length).1)(r:Rule):∀{W:List (Pt×Int)}{x:List (Pt×Int)×List (Wd×Int)},(∀z∈W,0≤z.2)->(∀z∈x.1,0≤z.2)/\(∀z∈x.2,0≤z.2)->(∀z∈(W.foldl (goW h r (msL h)) x).1,0≤z.2)/\∀z∈(W.foldl (goW h r (msL h)) x).2,0≤z.2
 |[],x,_,hx=>hx
 |p::W,x,hW,hx=>BX ho h0 r (W:=W) (fun z hz=>hW z (aaf _ hz)) (Ic (LL ho h0) (hW p aah) (fun _ h=>h) hx)
theorem lR{α:Type}:∀{L:List (α×Int)},(∀p∈L,0≤p.2)->0≤sumA L/\∀p∈L,p.2≤sumA L
 |[],_=>⟨ae7 _,fun _ h=>(by cases h)⟩
 |q::L,h=>by
  obtain⟨i1,i2⟩:=lR (L:=L) fun p hp=>h p (aaf _ hp);have hq:=h q aah;have e:sumA (q::L)=q.2+sumA L:=rfl;rw[e];refine⟨by omega,fun p hp=>?_⟩
  cases hp with
  |head=>omega
  |tail _ hp=>have:=i2 p hp;omega
theorem wz{α:Type}[DecidableEq α](a:α):∀{L:List (α×Int)},(∀p∈L,0≤p.2)->0≤getA a L/\getA a L≤sumA L
 |[],_=>⟨ae7 0,ae7 0⟩
 |q::L,h=>by
  have i:=wz a (L:=L) fun p hp=>h p (aaf _ hp);have s:=(lR (L:=L) fun p hp=>h p (aaf _ hp)).1;have hq:=h q aah;have e:sumA (q::L)=q.2+sumA L:=rfl;rw[e];unfold getA
  split<;>omega
theorem oG{α:Type}[DecidableEq α]{a:α}{x:Int}:∀{L:List (α×Int)},(L.map (·.1)).Nodup->((addA a x L).map (·.1)).Nodup
 |[],_=>by simp[addA]
 | q::r,h=>by
  rw[aao,abc]at h;unfold addA;split
  .exact abc.mpr ⟨h.1,h.2⟩
  .rename_i ne;refine abc.mpr ⟨fun hm=>?_,oG h.2⟩;obtain⟨z,hz,e⟩:=aaA.mp hm;rcases l7 hz with e'|⟨y,hy,e'⟩
   .exact ne (e.symm.trans e')
   .exact h.1 (aaA.mpr ⟨y,hy,e'.trans e⟩)
theorem xv{h:Hall}{r:Rule}:∀{W:List (Pt×Int)}{x:List (Pt×Int)×List (Wd×Int)},(x.1.map (·.1)).Nodup->((W.foldl (goW h r (msL h)) x).1.map (·.1)).Nodup
 |[],x,hx=>hx
 | p::W,x,hx=>by
  have key:∀(M:Ms) (x:List (Pt×Int)×List (Wd×Int)),(x.1.map (·.1)).Nodup->((M.foldl (fun x q=>goW1 h r p.1 p.2 q x) x).1.map (·.1)).Nodup:=by
   intro M
   induction M with
   |nil=>intro x hx;exact hx
   |cons q M ih=>intro x hx;exact ih _ (oG hx)
  exact xv (W:=W) (key (msL h) x hx)
theorem lq(hb:0<b):aen (nfP t b).1.natAbs (nfP t b).2.natAbs:=by
 have g1:0<t.natAbs.gcd b.natAbs:=abl _ (by omega);have gb:((t.natAbs.gcd b.natAbs:Nat):Int) ∣ b:=act.mpr (ac7 _ _);have gt:((t.natAbs.gcd b.natAbs:Nat):Int) ∣ t:=act.mpr (aeQ _ _);unfold nfP;rw[if_neg (by omega)];show aen (t/((t.natAbs.gcd b.natAbs:Nat):Int)).natAbs (b/((t.natAbs.gcd b.natAbs:Nat):Int)).natAbs;rw[aey gt,aey gb,aaN];exact Nat.coprime_div_gcd_div_gcd g1
theorem qX{p q:Int}(c:aen p.natAbs q.natAbs)(e:p*b=a*q):q.natAbs ∣ b.natAbs:=by
 have e':p.natAbs*b.natAbs=a.natAbs*q.natAbs:=by rw[<-aex,<-aex,e]
 have:q.natAbs ∣ b.natAbs*p.natAbs:=by rw[ab4,e'];exact acT _ _
 exact aen.dvd_of_dvd_mul_right c.symm this
theorem LM{p q p' q':Int}(hq:0<q)(hq':0<q')(c:aen p.natAbs q.natAbs)(c':aen p'.natAbs q'.natAbs)(e:p*q'=p'*q):(p,q)=(p',q'):=by
 have d1:=qX c e;have d2:=qX c' e.symm;have eq:q=q':=by
  have:=Nat.dvd_antisymm d1 d2;omega
 subst eq;rw[acW (by omega) e]
theorem lG{t' b':Int}(hb:0<b)(hb':0<b')(e:t*b'=t'*b):nfP t b=nfP t' b':=by
 refine LM (h8 hb).1 (h8 hb').1 (lq hb) (lq hb') ?_;have e1:=cr (t:=t) hb;have e2:=cr (t:=t') hb';have hbb:b*b'≠0:=vM hb hb';refine acW hbb ?_
 calc (nfP t b).1*(nfP t' b').2*(b*b')=((nfP t b).1*b)*((nfP t' b').2*b'):=by simp only[aa0,aaC,aaR]
  _=t*b'*((nfP t b).2*(nfP t' b').2):=by rw[e1];simp only[aa0,aaC,aaR]
  _=(t'*(nfP t' b').2)*((nfP t b).2*b):=by rw[e];simp only[aa0,aaC,aaR]
  _=(nfP t' b').1*(nfP t b).2*(b*b'):=by rw[<-e2];simp only[aa0,aaC,aaR]
theorem zy{w:Int}(hD:0<D):nfP ((nfP v D).1*(nfP w D).2+(nfP w D).1*(nfP v D).2) ((nfP v D).2*(nfP w D).2)=nfP (v+w) D:=by
 have e1:=cr (t:=v) hD;have e2:=cr (t:=w) hD;refine lG (abG (h8 hD).1 (h8 hD).1) hD ?_;rw[ae6,ae6]
 congr 1
 .calc (nfP v D).1*(nfP w D).2*D=((nfP v D).1*D)*(nfP w D).2:=by simp only[aa0,aaC,aaR]
   _=v*((nfP v D).2*(nfP w D).2):=by rw[e1,aaR]
 .calc (nfP w D).1*(nfP v D).2*D=((nfP w D).1*D)*(nfP v D).2:=by simp only[aa0,aaC,aaR]
   _=w*((nfP v D).2*(nfP w D).2):=by rw[e2];simp only[aa0,aaC,aaR]
theorem ym{k:Int}(hD:0<D)(hb:0<b)(hk:0<k):nfP ((nfP v D).1*a) ((nfP v D).2*b)=nfP (v*(a*k)) (D*(b*k)):=by
 have e1:=cr (t:=v) hD;refine lG (abG (h8 hD).1 hb) (abG hD (abG hb hk)) ?_
 calc (nfP v D).1*a*(D*(b*k))=((nfP v D).1*D)*(a*b*k):=by simp only[aa0,aaC,aaR]
  _=v*(a*k)*((nfP v D).2*b):=by rw[e1];simp only[aa0,aaC,aaR]
theorem zq(hD:0<D):nfP 0 D=(0,1):=by
 unfold nfP;rw[if_neg (by omega),show((0:Int).natAbs)=0 from rfl,Nat.gcd_zero_left,Int.zero_ediv,show((D.natAbs:Nat):Int)=D by omega,Int.ediv_self (by omega)]
theorem Cu(hD:0<D)(h1:v.natAbs<10^76)(h2:D.natAbs<10^76):FrOk (nfP v D).1 (nfP v D).2:=by
 obtain⟨e1,e2,e3⟩:=h8 (t:=v) hD;exact⟨aaE e3 h1,by omega,e1⟩
theorem rq(v D:Int):nf v D=frT (nfP v D).1 (nfP v D).2:=rfl
section
variable {α:Type} [deq:DecidableEq α]
def kvG(enc:α->iO)(f:Int->iO)(L:List (α×Int)):List (iO×iO):=L.map fun p=>(enc p.1,f p.2)
theorem uR{enc:α->iO}{f:Int->iO}(he:∀a b,aar (enc a) (enc b)=decide (a=b))(a:α):∀L:List (α×Int),(dl (enc a) (kvG enc f L)).getD (f 0)=f (getA a L)
 |[]=>rfl
 |p::r=>by
  show(if aar (enc p.1) (enc a)=true then some (f p.2)else dl (enc a) (kvG enc f r)).getD (f 0)=f (if p.1=a then p.2 else getA a r);rw[he]
  by_cases c:p.1=a
  .rw[if_pos c,if_pos (decide_eq_true c)];rfl
  .rw[if_neg c,if_neg (by rw[decide_eq_false c];decide)];exact uR he a r
theorem Cq{enc:α->iO}{f:Int->iO}(he:∀a b,aar (enc a) (enc b)=decide (a=b))(a:α)(x:Int):∀L:List (α×Int),putP (enc a) (f (getA a L+x)) (kvG enc f L)=kvG enc f (addA a x L)
 |[]=>by show [(enc a,f (0+x))]=_;rw[ahI];rfl
 |p::r=>by
  show(if aar (enc p.1) (enc a)=true then(enc p.1,f ((if p.1=a then p.2 else getA a r)+x))::kvG enc f r else(enc p.1,f p.2)::putP (enc a) (f ((if p.1=a then p.2 else getA a r)+x)) (kvG enc f r))=kvG enc f (if p.1=a then(p.1,p.2+x)::r else p::addA a x r);rw[he]
  by_cases c:p.1=a
  .rw[if_pos c,if_pos c,if_pos (decide_eq_true c)];rfl
  .rw[if_neg c,if_neg c,if_neg (by rw[decide_eq_false c];decide),Cq he a x r];rfl
theorem sx{enc:α->iO}{f:Int->iO}(he:∀a b,aar (enc a) (enc b)=decide (a=b)):∀{L:List (α×Int)}{i:Nat}{p:α×Int},(L.map (·.1)).Nodup->L[i]?=some p->dl (enc p.1) (kvG enc f L)=some (f p.2)
 |[],i,p,_,e=>by cases e
 | q::r,i,p,nd,e=>by
  rw[aao,abc]at nd;show(if aar (enc q.1) (enc p.1)=true then some (f q.2)else dl (enc p.1) (kvG enc f r))=some (f p.2);rw[he]
  cases i with
  |zero =>
   have:q=p:=aai e;rw[this,if_pos (decide_eq_true rfl)]
  |succ i =>
   have e':r[i]?=some p:=e;have:¬q.1=p.1:=fun z=>nd.1 (z▸aaA.mpr ⟨p,OR e',rfl⟩);rw[if_neg (by rw[decide_eq_false this];decide)];exact sx he nd.2 e'
end
def frV(D:Int)(v:Int):iO:=nf v D
def shD(D:Int)(W:List (Pt×Int)):List (iO×iO):=kvG ptD (frV D) W
structure OfS(h:Hall)(S:Nat):Prop where
 s1:1≤S
 s2:S≤9700
 hb:h.b ∣ S
 hs:∀s∈h.ss,s.b ∣ S
 le:(h.a:Int)*((S/h.b:Nat):Int)+dnS h S h.ss.length≤(S:Int)
theorem OfS.lf(ho:h.Ok)(O:OfS h S):((S:Int)-(h.a:Int)*((S/h.b:Nat):Int)-dnS h S h.ss.length)*((h.b*bP h.ss:Nat):Int)=tT h h.ss.length*(S:Int):=by
 have hC:((h.a:Int)*((S/h.b:Nat):Int))*(h.b:Int)=(h.a:Int)*(S:Int):=by
  rw[aaR,<-aaB,aef O.hb]
 have:=iL ho hC O.hs h.ss.length (aac _);rwa[aag]at this
theorem OfS.bp(ho:h.Ok)(O:OfS h S):0<((h.b*bP h.ss:Nat):Int):=by
 have b1:=ho.b1;have:=adQ (show 0<h.b by omega) (show 0<bP h.ss from(zR ho.ok).1);omega
theorem OfS.rest(ho:h.Ok)(O:OfS h S):0≤(restF h h.ss.length).1:=by
 have e1:=O.lf ho;have e2:=fW ho h.ss.length (aac _);rw[aag]at e2;have p1:=O.bp ho;have s1:=O.s1;have le:=O.le;have r2:=(de ho h.ss.length (aac _)).1;have t0:0≤tT h h.ss.length:=by
  have q:0≤tT h h.ss.length*(S:Int):=by rw[<-e1];exact aez (by omega) (by omega)
  exact ae8 q (by omega)
 have q:0≤(restF h h.ss.length).1*((h.b*bP h.ss:Nat):Int):=by rw[e2];exact aez t0 (by omega)
 exact ae8 q p1
theorem uX(ho:h.Ok):∀k,k≤h.ss.length->aen (restF h k).1.natAbs (restF h k).2.natAbs
 |0,_=>by
  have b1:=ho.b1;exact lq (by omega)
 |k+1,hk=>by
  have i1:=(de ho k (by omega)).1;have es:h.ss[k]?=some h.ss[k]:=oR (by omega);have sb1:=(ho.ok h.ss[k] (abm _)).b1;rw[restF,es];exact lq (abG i1 (by omega))
theorem OfS.restd(ho:h.Ok)(O:OfS h S):(restF h h.ss.length).2.toNat ∣ S:=by
 have e1:=O.lf ho;have e2:=fW ho h.ss.length (aac _);rw[aag]at e2;have p1:=O.bp ho;have r2:=(de ho h.ss.length (aac _)).1;have c:=uX ho h.ss.length (aac _);generalize hX:(S:Int)-(h.a:Int)*((S/h.b:Nat):Int)-dnS h S h.ss.length=X at e1;have e:(restF h h.ss.length).1*(S:Int)=X*(restF h h.ss.length).2:=by
  refine acW (a:=((h.b*bP h.ss:Nat):Int)) (by omega) ?_
  calc (restF h h.ss.length).1*(S:Int)*((h.b*bP h.ss:Nat):Int)=((restF h h.ss.length).1*((h.b*bP h.ss:Nat):Int))*(S:Int):=by simp only[aa0,aaC,aaR]
   _=(tT h h.ss.length*(S:Int))*(restF h h.ss.length).2:=by rw[e2];simp only[aa0,aaC,aaR]
   _=X*(restF h h.ss.length).2*((h.b*bP h.ss:Nat):Int):=by rw[<-e1];simp only[aa0,aaC,aaR]
 have:=qX c e;rw[aaN]at this;rwa[show(restF h h.ss.length).2.toNat=(restF h h.ss.length).2.natAbs by omega]
theorem OfS.bot(ho:h.Ok)(O:OfS h S):botH h ∣ (ordK h.ss.length h.ss.length).length*S:=by
 have b1:=ho.b1;have pO:=cU h.ss.length ho.n4;refine sE fun p hp=>?_;rw[j5]at hp;obtain⟨q,hq,rfl⟩:=aaA.mp hp;rcases js hq with⟨o,hm,rfl⟩|⟨i,hi,rfl⟩|rfl
 .have d:=lz (t:=(h.a:Int)*1) (b:=(h.b:Int)*((ordK h.ss.length h.ss.length).length:Int)) (abG (by omega) (by omega));rw[show((h.b:Int)*((ordK h.ss.length h.ss.length).length:Int)).toNat=h.b*(ordK h.ss.length h.ss.length).length by rw[<-aaB,aaX]]at d;refine aca d ?_;rw[ab4];exact Nat.mul_dvd_mul (ahN _) O.hb
 .exact aca (O.hs _ (abm hi)) (acT _ _)
 .exact aca (O.restd ho) (acT _ _)
theorem jK(ho:h.Ok):1≤botH h:=by have:=(oM ho).pre (shrL h).length;rw[aag]at this;exact this.1
theorem OfS.small(ho:h.Ok)(O:OfS h S):botH h≤232800:=by
 have pO:=cU h.ss.length ho.n4;have nO:=(ci h.ss.length ho.n4 h.ss.length ho.n4).1;have:=aeY (adQ pO O.s1) (O.bot ho);have m:=abC nO O.s2;omega
theorem OfS.pow(ho:h.Ok)(O:OfS h S)(hn:n≤12):botH h^n<10^66:=by
 have h1:botH h^n≤232800^n:=Nat.pow_le_pow_left (O.small ho) n;have h2:232800^n≤232800^12:=adO (by decide) hn;have h3:232800^12<10^66:=by decide
 omega
def srvS(S q r:Nat):Srv:=Je (cutN S q) r
def yf(S p0:Nat)(qs rs:List Nat)(mv:Bool):Hall:=⟨(cutN S p0).1,(cutN S p0).2,aeA (srvS S) qs rs,mv⟩
theorem d5(hS:1≤S):(cutN S q).2 ∣ S/\(cutN S q).1*(S/(cutN S q).2)=q:=by
 unfold cutN;have g1:q.gcd S ∣ S:=ac7 _ _;refine⟨Nat.div_dvd_of_dvd g1,?_⟩;show q/q.gcd S*(S/(S/q.gcd S))=q;rw[Nat.div_div_self g1 (by omega)];exact aef (aeQ _ _)
theorem si{S p0:Nat}{qs rs:List Nat}{mv:Bool}(hS:1≤S)(hl:qs.length=rs.length):∀k,k≤qs.length->dnS (yf S p0 qs rs mv) S k=((qs.take k).sum:Int)
 |0,_=>rfl
 |k+1,hk=>by
  have ih:=si (p0:=p0) (mv:=mv) hS hl k (by omega);have e1:qs[k]?=some qs[k]:=oR (by omega);have e2:rs[k]?=some rs[k]:=oR (by omega);have es:(yf S p0 qs rs mv).ss[k]?=some (srvS S qs[k] rs[k]):=acz.mpr ⟨_,_,e1,e2,rfl⟩;rw[dnS,es,ih,aa1,e1,ad9];show _+((cutN S qs[k]).1:Int)*((S/(cutN S qs[k]).2:Nat):Int)=_;rw[<-aaB,(d5 hS).2,abN];rfl
theorem zH{p0:Nat}{qs rs:List Nat}{mv:Bool}(s1:1≤S)(s2:S≤9700)(hl:qs.length=rs.length)(hs:p0+qs.sum≤S):OfS (yf S p0 qs rs mv) S:=by
 have el:(yf S p0 qs rs mv).ss.length=qs.length:=by show(aeA (srvS S) qs rs).length=_;rw[ag8];omega
 refine⟨s1,s2,(d5 s1).1,fun s hs=>?_,?_⟩
 .obtain⟨i,hi⟩:=ac8 hs;obtain⟨q,r,_,_,rfl⟩:=acz.mp hi;exact(d5 s1).1
 .rw[el,si s1 hl _ (aac _),aag];show((cutN S p0).1:Int)*((S/(cutN S p0).2:Nat):Int)+_≤_;rw[<-aaB,(d5 s1).2];omega
theorem Ig(hS:1≤S):nf (q:Int) (S:Int)=prD (cutN S q):=by
 have g1:0<q.gcd S:=abl _ (by omega);unfold nf nfP;rw[if_neg (by omega),aaN,aaN];show acg [.int ((q:Int)/((q.gcd S:Nat):Int)),.int ((S:Int)/((q.gcd S:Nat):Int))] = .tuple [.int ((q/q.gcd S:Nat):Int),.int ((S/q.gcd S:Nat):Int)];rw[aeR,aeR]
theorem Jj{p:Nat}(hS:1≤S):((cutN S p).1*(cutN S q).2<(cutN S q).1*(cutN S p).2)↔p<q:=by
 have h1:=d5 (q:=p) hS;have h2:=d5 (q:=q) hS;have d1:0<(cutN S p).2:=agG h1.1 (by omega);have d2:0<(cutN S q).2:=agG h2.1 (by omega);have e1:(cutN S p).1*S=p*(cutN S p).2:=by
  have z:=congrArg (· * (cutN S p).2) h1.2;rwa[ab2,aef h1.1]at z
 have e2:(cutN S q).1*S=q*(cutN S q).2:=by
  have z:=congrArg (· * (cutN S q).2) h2.2;rwa[ab2,aef h2.1]at z
 have key:∀a b:Nat,a<b↔a*S<b*S:=fun a b=>(agX (by omega)).symm;rw[key];rw[show(cutN S p).1*(cutN S q).2*S=p*((cutN S p).2*(cutN S q).2) by rw[ahv,e1,ab2],show(cutN S q).1*(cutN S p).2*S=q*((cutN S p).2*(cutN S q).2) by rw[ahv,e2,ab2,ab4 (cutN S q).2]];exact agX (adQ d1 d2)
theorem lj:∀{l:List Nat}{n q:Nat},n=l.length->(∀x∈l,q≤x)->(aax n q).sum≤l.sum
 |[],n,q,h,_=>by subst h;exact aac _
 |x::l,n,q,h,hm=>by
  subst h;have ih:=lj (l:=l) (n:=l.length) (q:=q) rfl fun y hy=>hm y (aaf _ hy);have:=hm x aah;rw[aaL,abr,ab9,ab9];omega
def sI:SpM:=fun as K=>∃(fd:List iO) (c n:Nat),as=[.own fd,.imm (.int (n:Int))]/\TapeD c fd/\c<900000000/\n≤4/\∀(ps:List Nat) (S:Nat) (fd':List iO),ps.length=n+1->(∀p∈ps,1≤p/\p≤1600)->1≤S->S≤9700->ps.sum≤S->TapeD (c+10) fd'->K (.new ((ps.map (cutN S)).map prD)) [fd']
def vw:SpM:=fun as K=>∃(fd:List iO) (c:Nat) (ms:List (List Nat)),as=[.own fd,.imm (.list (ms.map lnD))]/\wj ms/\TapeD c fd/\c<800000000/\∀(h:Hall) (S:Nat) (fd':List iO),h.Ok->OfS h S->TapeD (c+20) fd'->K (.imm h.d) [fd']
end K
namespace L2
open PySem PySem.Spec PyProof.Rows
section
variable {X:Cx}
theorem bC{ds:List iO}{g:WG}{w:WS}{D:dB}{m1:MSt}(P:Nat->MSt->Prop)(p0:P 0 m1)
  (step:∀(i:Nat) (d:iO) (m:MSt),ds[i]?=some d->m.np=m1.np->P i m->∀D':dB,(∀m',P (i+1) m'->D'.nx m')->(∀r m',D.rt r (m'.setN m1.np)->D'.rt r m')->g d m fun m2=>w D' m2)
  (fin:∀m,m.np=m1.np->P ds.length m->D.nx m):gJ ⟨ds,none⟩ g w D m1:=fi P p0 (fun i d m e n p=>step i d m e n p _ (fun _ z=>z) fun _ _ z=>z) fin
theorem al{e:Expr}{we:WE}{pos pos':Pos}{x:Str}(i:Nat)(hN:X.N.Nodup)(he:EE X e we)(hi:X.N[i]?=some x:=by rfl)(hx:Loc X.env.scope x:=by exact agQ rfl)(hs:abY e (some (.Name x pos')) pos.line X.env=pure false:=by rfl)(hf:X.fn x=true\/X.env.scope.names.lookup x=some .local:=by first|exact .inl rfl|exact .inr rfl|assumption):ES X (.Assign [.Name x pos'] e pos) (wSet i we):=cR hN hi hx he hs hf
theorem ak{pos:Pos}{x:Str}(i:Nat)(hN:X.N.Nodup)(hi:X.N[i]?=some x:=by rfl)(hx:Loc X.env.scope x:=by exact agQ rfl)(hf:X.fn x=true\/X.env.scope.names.lookup x=some .local:=by first|exact .inl rfl|exact .inr rfl|assumption):EG X (.Name x pos) (gM i):=mI hN hi hx hf
end
end L2
namespace K
open PySem L2 M7
variable{h:Hall}{r:Rule}{q:Mv×Int×Nat}
def oY:SpM:=ix
def yH:SpM:=fun as K=>∃(fd:List iO) (c:Nat) (h:Hall),as=[.own fd,.imm h.d]/\h.Ok/\TapeD c fd/\c<800000000/\∀(r:Rule) (fd':List iO),r.Ok h->TapeD (c+2410) fd'->K (.imm r.d) [fd']
def sW:SpM:=fun as K=>∃(h:Hall) (r:Rule) (l:List Nat) (t:Nat) (o:List Nat),as=[.imm h.d,.imm r.d,.imm (stD l t),.imm (lnD o)]/\h.Ok/\r.Ok h/\St h r l t/\Ord h.ss.length o/\K (.imm (mvD (cX h r l t (.come o)))) []
def behD(h:Hall)(r:Rule)(l:List Nat)(t:Nat)(q:Mv×Int×Nat):iO:=.tuple [ptD ((cX h r l t q.1).1,(cX h r l t q.1).2.1),wdD (cX h r l t q.1).2.2,frT q.2.1 (q.2.2:Int)]
def BG:SpM:=fun as K=>∃(h:Hall) (r:Rule) (l:List Nat) (t:Nat),as=[.imm h.d,.imm r.d,.imm (stD l t)]/\h.Ok/\r.Ok h/\St h r l t/\K (.new ((shrM h).map (behD h r l t))) []
def cmM(h:Hall):List (Mv×Int×Nat):=(ordK h.ss.length h.ss.length).map fun o=>(Mv.come o,(bQ h).1,(bQ h).2.toNat)
def dnM(h:Hall):List (Mv×Int×Nat):=h.ss.zipIdx.map fun q=>(Mv.done q.2,(q.1.a:Int),q.1.b)
theorem Fi{i:Nat}{s:Srv}(e:h.ss[i]?=some s):(dnM h)[i]?=some (Mv.done i,(s.a:Int),s.b):=by
 unfold dnM;rw[aae,ae5,e];show some (Mv.done (0+i),_,_)=_;rw[abO]
theorem KQ(ho:h.Ok):nf (h.a:Int) (((h.b*(ordK h.ss.length h.ss.length).length:Nat)):Int)=frT (bQ h).1 (((bQ h).2.toNat:Nat):Int):=by
 have hp:=(mL ho (cU h.ss.length ho.n4)).hp;rw[show(((bQ h).2.toNat:Nat):Int)=(bQ h).2 by omega,rq];unfold bQ;rw[aeZ,aaB]
structure RL(h:Hall)(i:Nat)(x:Int×Int):Prop where
 e:x.1*(restF h i).2=(restF h i).1*x.2
 f:FrOk x.1 x.2
 g:0<i->x=restF h i
theorem RL.zero(ho:h.Ok):RL h 0 ((h.b:Int)-(h.a:Int),(h.b:Int)):=by
 have b1:=ho.b1;have b2:=ho.b2;have a2:=ho.a2;have c:=cr (t:=1*(h.b:Int)-(h.a:Int)*1) (b:=1*(h.b:Int)) (by omega);have c':(restF h 0).1*(1*(h.b:Int))=(1*(h.b:Int)-(h.a:Int)*1)*(restF h 0).2:=c;rw[ael,aeZ]at c';refine⟨c'.symm,⟨?_,?_,?_⟩,fun z=>by omega⟩
 .show((h.b:Int)-(h.a:Int)).natAbs<10^76;omega
 .show((h.b:Int)).natAbs<10^76;omega
 .show(0:Int)<h.b;omega
theorem RL.succ(ho:h.Ok){i:Nat}{x:Int×Int}{s:Srv}(X:RL h i x)(es:h.ss[i]?=some s):RL h (i+1) (nfP (x.1*(s.b:Int) + -(s.a:Int)*x.2) (x.2*(s.b:Int))):=by
 have hi:i<h.ss.length:=(aad.mp es).1;have so:=ho.ok s (OR es);have sb:=so.b1;have r2:=(de ho i (by omega)).1;have xp:=X.f.hp;have e:nfP (x.1*(s.b:Int) + -(s.a:Int)*x.2) (x.2*(s.b:Int))=restF h (i+1):=by
  rw[restF,es];refine lG (abG xp (by omega)) (abG r2 (by omega)) ?_;have e0:=X.e;have h1:x.1*(s.b:Int)*((restF h i).2*(s.b:Int))=(x.1*(restF h i).2)*((s.b:Int)*(s.b:Int)):=by simp only[aa0,aaC,aaR]
  have h2:(restF h i).1*(s.b:Int)*(x.2*(s.b:Int))=((restF h i).1*x.2)*((s.b:Int)*(s.b:Int)):=by simp only[aa0,aaC,aaR]
  have h3 : -(s.a:Int)*x.2*((restF h i).2*(s.b:Int)) = -((s.a:Int)*(restF h i).2*(x.2*(s.b:Int))):=by rw[Int.neg_mul,Int.neg_mul];congr 1;simp only[aa0,aaC,aaR]
  show(x.1*(s.b:Int) + -(s.a:Int)*x.2)*((restF h i).2*(s.b:Int))=((restF h i).1*(s.b:Int)-(s.a:Int)*(restF h i).2)*(x.2*(s.b:Int));rw[ae6,aem,h1,h2,h3,e0];omega
 rw[e];exact⟨rfl,qK ho (by omega),fun _=>rfl⟩
structure DuOk(h:Hall)(r:Rule)(n:Nat):Prop where
 ho:h.Ok
 hr:r.Ok h
 h0:0≤(restF h h.ss.length).1
 le:n≤12
 b:botH h^n<10^66
theorem DuOk.p0{n:Nat}(D:DuOk h r n)(k:Nat):0<((botH h^k:Nat):Int):=by
 have:=Nat.pow_pos (n:=k) (show 0<botH h from jK D.ho);omega
structure GoB(c:Int)(x:List (Pt×Int)×List (Wd×Int)):Prop where
 n1:∀p∈x.1,0≤p.2
 n2:∀p∈x.2,0≤p.2
 s1:sumA x.1≤c
 s2:sumA x.2≤c
theorem GoB.next{c d:Int}{p:Pt}{w:Int}{q:Mv×Int}{x:List (Pt×Int)×List (Wd×Int)}(X:GoB c x)(h1:0≤w*q.2)(h2:w*q.2≤d):GoB (c+d) (goW1 h r p w q x):=by
 have s1:=X.s1;have s2:=X.s2;unfold goW1;exact⟨jJ h1 X.n1,jJ h1 X.n2,by rw[ii];omega,by rw[ii];omega⟩
theorem Mh{v c:Int}{D k:Nat}(h0:0≤v)(h1:v≤c)(hc:c≤(k:Int)*(D:Int))(hk:k≤10000000)(hD:D<10^66):v.natAbs<10^76:=by
 have m:(k:Int)*(D:Int)≤((10000000*10^66:Nat):Int):=by
  rw[<-aaB];exact Int.ofNat_le.mpr (abC hk (adn hD))
 have e:10000000*10^66<10^76:=by decide
 omega
theorem yK(ho:h.Ok){D:Int}{W:List (Pt×Int)}(hW:∀p∈W,St h r p.1.1 p.1.2):kyA (shD D W)=true:=by
 unfold kyA shD kvG;rw[adU,ab7];exact fun p hp=>uC ho (hW p hp)
theorem IP{j:Nat}(e:(shrM h)[j]?=some q):(msL h)[j]?=some (q.1,q.2.1*((botH h/q.2.2:Nat):Int)):=by
 unfold msL;rw[aae,e];rfl
theorem DuOk.part{n:Nat}(D:DuOk h r n){k:Nat}(w:Int)(hq:q∈shrM h):FrOk q.2.1 (q.2.2:Int)/\nfP ((nfP w ((botH h^k:Nat):Int)).1*q.2.1) ((nfP w ((botH h^k:Nat):Int)).2*(q.2.2:Int))=nfP (w*(q.2.1*((botH h/q.2.2:Nat):Int))) ((botH h^(k+1):Nat):Int):=by
 have B:=oM D.ho;have hm:(q.1.d,q.2)∈shrL h:=by rw[j5];exact aaA.mpr ⟨q,hq,rfl⟩
 have d:=B.d _ hm;have dv:q.2.2 ∣ botH h:=jo hm;have bp:=jK D.ho;have b1:1≤q.2.2:=d.1;have le:=aeY bp dv;have bL:botH h<10^76:=by have:=B.pre (shrL h).length;rw[aag]at this;exact this.2
 have k1:0<botH h/q.2.2:=ah0 le b1;refine⟨⟨d.2.2,by rw[aaN];omega,by omega⟩,?_⟩;rw[ym (k:=((botH h/q.2.2:Nat):Int)) (D.p0 k) (by omega) (by omega)]
 congr 1
 rw[<-aaB,ag7 dv,agq,aaB]
theorem kj{i:Int}(h:i.natAbs<10^100):Fine 101 0 (.int i):=by
 have sl:(afo (.int i)).length≤101:=by
  have e:=PySem.int_text_length_le10 (k:=100) (by decide) h;show(abI (toString i)).length≤101;rw[PySem.ofString_length];exact e
 refine⟨?_,rfl,sl,aac _⟩;have:i.natAbs.log2<400\/i.natAbs=0:=by
  by_cases z:i.natAbs=0
  .exact .inr z
  .exact .inl ((agS z).mpr (aaY h (show 10^100<2^400 by decide)))
 show decide (i.natAbs.log2<1920)=true;rcases this with h|h
 .exact decide_eq_true (by omega)
 .rw[h];decide
theorem Dg{t b:Int}(hb0:0<b)(ht:t.natAbs<10^76)(hb:b.natAbs<10^76):Fine 300 1 (nf t b):=by
 have F:=Cu hb0 ht hb;refine(bm (n:=101) (k:=0) (c:=2) (ds:=[.int (nfP t b).1,.int (nfP t b).2]) (fun d hd=>?_) (aac 2)).mono (by decide) (by decide);rcases aas.mp hd with e|e
 .rw[e];exact kj (aaY F.ha (by decide))
 .rw[aaw.mp e];exact kj (aaY F.hb (by decide))
end K
namespace L2
open PySem PySem.W PyProof.Rows
variable{i j n:Nat}{p:Array Nat}
structure TotF(n:Nat)(f:Nat->Nat->Bool):Prop where
 tr:∀a b c,a<n->b<n->c<n->f a b=true->f b c=true->f a c=true
 tot:∀a b,a<n->b<n->a≠b->f a b=true\/f b a=true
theorem d7{α β:Type}{n:Nat}{f:Nat->Nat->Bool}(g:α->KasT β):∀t:KasT α,runC n f (t.bind g)=(runC n f t).bind fun a=>runC n f (g a)
 | .ret a=>rfl
 | .ask i j k=>by
  show(if i<n/\j<n then runC n f ((k (f i j)).bind g)else none)=(if i<n/\j<n then runC n f (k (f i j))else none).bind _
  by_cases h:i<n/\j<n
  .rw[if_pos h,if_pos h];exact d7 g (k (f i j))
  .rw[if_neg h,if_neg h];rfl
theorem gU{α:Type}{f:Nat->Nat->Bool}{k:Bool->KasT α}(hi:i<n)(hj:j<n):runC n f (.ask i j k)=runC n f (k (f i j)):=if_pos ⟨hi,hj⟩
structure PermA(n:Nat)(p:Array Nat):Prop where
 sz:p.size=n
 pm:p.toList.Perm (aaI n)
abbrev pA(p:Array Nat)(k:Nat):Nat:=p.getD k 0
theorem dt{k:Nat}(h:k<p.size):p[k]?=some (pA p k):=by
 unfold pA;rw[Array.getD_eq_getD_getElem?,abU h];rfl
theorem PermA.lt(h:PermA n p){k:Nat}(hk:k<n):pA p k<n:=by
 have e:=dt (p:=p) (k:=k) (by rw[h.sz];exact hk);have:pA p k∈p.toList:=by
  rw[Array.mem_toList_iff];exact Array.mem_of_getElem? e
 exact List.mem_range.mp (h.pm.mem_iff.mp this)
theorem PermA.inj(h:PermA n p)(hi:i<n)(hj:j<n)(e:pA p i=pA p j):i=j:=by
 have nd:p.toList.Nodup:=h.pm.nodup_iff.mpr List.nodup_range;have e1:p.toList[i]?=some (pA p i):=by rw[acm];exact dt (by rw[h.sz];exact hi)
 have e2:p.toList[j]?=some (pA p j):=by rw[acm];exact dt (by rw[h.sz];exact hj)
 have l1:i<p.toList.length:=by rw[abg,h.sz];exact hi
 have l2:j<p.toList.length:=by rw[abg,h.sz];exact hj
 rw[oR l1]at e1;rw[oR l2]at e2;have e3:p.toList[i]=p.toList[j]:=by rw[aai e1,aai e2,e]
 have pw:=abR.mp nd;rcases Nat.lt_trichotomy i j with z|z|z
 .exact absurd e3 (pw i j l1 l2 z)
 .exact z
 .exact absurd e3.symm (pw j i l2 l1 z)
def AscA(f:Nat->Nat->Bool)(p:Array Nat)(k:Nat):Prop:=∀i j,i<j->j<k->f (pA p i) (pA p j)=true
def DscA(f:Nat->Nat->Bool)(p:Array Nat)(k:Nat):Prop:=∀i j,i<j->j<k->f (pA p j) (pA p i)=true
section
variable {n:Nat}{f:Nat->Nat->Bool} (T:TotF n f)
include T
theorem TotF.no(h:PermA n p)(hi:i<n)(hj:j<n)(hne:i≠j)(e:f (pA p i) (pA p j)=false):f (pA p j) (pA p i)=true:=by
 rcases T.tot _ _ (h.lt hi) (h.lt hj) (fun z=>hne (h.inj hi hj z))with z|z
 .rw[e]at z;cases z
 .exact z
theorem zp(h:PermA n p){k:Nat}(h1:1≤k)(hk:k<n)(a:AscA f p k)(e:f (pA p (k-1)) (pA p k)=true):AscA f p (k+1):=fun i j hij hj=>by
 by_cases z:j=k
 .subst z
  by_cases y:i=j-1
  .rw[y];exact e
  .exact T.tr _ _ _ (h.lt (by omega)) (h.lt (by omega)) (h.lt hk) (a i (j-1) (by omega) (by omega)) e
 .exact a i j hij (by omega)
theorem rb{p:Array Nat}(h:PermA n p):∀(u k:Nat),1≤k->k+u≤n->AscA f p k->∃m,runC n f (kas_asc p u k)=some m/\k≤m/\m≤k+u/\AscA f p m/\(m<k+u->f (pA p m) (pA p (m-1))=true)
 |0,k,_,_,a=>⟨k,rfl,aac _,aac _,a,fun z=>by omega⟩
 | u+1,k,h1,hk,a=>by
  unfold kas_asc;rw[gU (h.lt (k:=k) (by omega)) (h.lt (k:=k-1) (by omega))]
  cases e:f (p.getD k 0) (p.getD (k-1) 0)with
  |true =>
   rw[if_pos rfl];exact⟨k,rfl,aac _,by omega,a,fun _=>e⟩
  |false =>
   rw[if_neg (by decide)];have e':=T.no h (i:=k) (j:=k-1) (by omega) (by omega) (by omega) e;obtain⟨m,r,m1,m2,m3,m4⟩:=rb h u (k+1) (by omega) (by omega) (zp T h h1 (by omega) a e');exact⟨m,r,by omega,by omega,m3,fun z=>m4 (by omega)⟩
theorem sF{p:Array Nat}(h:PermA n p):∀(u k:Nat),1≤k->k+u≤n->DscA f p k->∃m,runC n f (kas_desc u p k 0)=some (p,m,0)/\k≤m/\m≤k+u/\DscA f p m
 |0,k,_,_,a=>⟨k,rfl,aac _,aac _,a⟩
 | u+1,k,h1,hk,a=>by
  unfold kas_desc;rw[gU (h.lt (k:=k) (by omega)) (h.lt (k:=k-1) (by omega))]
  cases e:f (p.getD k 0) (p.getD (k-1) 0)with
  | true =>
   rw[if_pos rfl,if_neg (by omega)];have a':DscA f p (k+1):=fun i j hij hj=>by
    by_cases z:j=k
    .subst z
     by_cases y:i=j-1
     .rw[y];exact e
     .exact T.tr _ _ _ (h.lt (by omega)) (h.lt (by omega)) (h.lt (by omega)) e (a i (j-1) (by omega) (by omega))
    .exact a i j hij (by omega)
   obtain⟨m,r,m1,m2,m3⟩:=sF h u (k+1) (by omega) (by omega) a';exact⟨m,r,by omega,by omega,m3⟩
  |false =>
   rw[if_neg (by decide),gU (h.lt (k:=k-1) (by omega)) (h.lt (k:=k) (by omega))];have e':f (p.getD (k-1) 0) (p.getD k 0)=true:=T.no h (i:=k) (j:=k-1) (by omega) (by omega) (by omega) e;rw[e',if_pos rfl];exact⟨k,rfl,aac _,by omega,a⟩
theorem z7(h:PermA n p)(i j:Nat):PermA n (ag2 p i j):=by
 refine⟨by rw[kas_rev_size];exact h.sz,?_⟩;exact((mirror_perm p i j ((j-i)/2)).toList).trans h.pm
theorem BI(h:PermA n p){m:Nat}(hm:m≤n){k:Nat}(hk:k<n):pA (ag2 p 0 m) k=if k<m then pA p (m-1-k)else pA p k:=by
 have e:=getElem?_mirror_all (xs:=p) (i:=0) (j:=m) (by rw[h.sz];exact hm) k;have e1:(ag2 p 0 m)[k]?=some (pA (ag2 p 0 m) k):=dt (by rw[kas_rev_size,h.sz];exact hk);unfold ag2 at e1⊢;rw[e]at e1
 by_cases z:k<m
 .rw[if_pos ⟨ac5 _,z⟩,abO,dt (by rw[h.sz];omega)]at e1;rw[if_pos z];exact(aai e1).symm
 .rw[if_neg (fun y=>z y.2),dt (by rw[h.sz];omega)]at e1;rw[if_neg z];exact(aai e1).symm
theorem AA(h:PermA n p){m:Nat}(h1:1≤m)(hm:m≤n)(a:DscA f p m):∃m' p',runC n f (kas_tail3 m n p)=some (m',p')/\PermA n p'/\m≤m'/\m'≤n/\AscA f p' m':=by
 have h':=z7 T h 0 m;have a':AscA f (ag2 p 0 m) m:=fun i j hij hj=>by
  rw[BI T h hm (by omega),BI T h hm (by omega),if_pos (by omega),if_pos hj];exact a _ _ (by omega) (by omega)
 obtain⟨m',r,m1,m2,m3,_⟩:=rb T h' (n-m) m h1 (by omega) a';refine⟨m',ag2 p 0 m,?_,h',m1,by omega,m3⟩;unfold kas_tail3;rw[d7,r];rfl
theorem u3(h:PermA n p)(h1:1≤n):∃m' p',runC n f (kas_count n p)=some (m',p')/\PermA n p'/\1≤m'/\m'≤n/\AscA f p' m':=by
 obtain⟨m,r,m1,m2,m3,m4⟩:=rb T h (n-1) 1 (aac _) (by omega) (fun i j hij hj=>by omega);unfold kas_count;rw[d7,r];show ∃m' p',runC n f (if (m==n)=true then .ret (m,p)else _)=some (m',p')/\_
 by_cases z:m=n
 .rw[if_pos (by rw[z];exact beq_self_eq_true n)];exact⟨m,p,rfl,h,m1,by omega,m3⟩
 .rw[if_neg (fun y=>z (afs y))]
  by_cases y:m>1
  .rw[if_pos y,gU (h.lt (k:=0) (by omega)) (h.lt (k:=m-1) (by omega))];have e:f (p.getD 0 0) (p.getD (m-1) 0)=true:=m3 0 (m-1) (by omega) (by omega);rw[e,if_pos rfl];exact⟨m,p,rfl,h,m1,by omega,m3⟩
  .rw[if_neg y];have em:m=1:=by omega
   subst em;have d2:DscA f p 2:=fun i j hij hj=>by
    have ei:i=0:=by omega
    have ej:j=1:=by omega
    rw[ei,ej];exact m4 (by omega)
   obtain⟨k,rk,k1,k2,k3⟩:=sF T h (n-2) 2 (by omega) (by omega) d2;obtain⟨m',p',r',h',a1,a2,a3⟩:=AA T h (m:=k) (by omega) (by omega) k3;refine⟨m',p',?_,h',by omega,a2,a3⟩;unfold kas_descPart;rw[d7,rk];show runC n f (if (0:Nat)>0 then _ else kas_tail3 k n p)=_;rw[if_neg (by omega)];exact r'
theorem jS{p:Array Nat}(h:PermA n p){k:Nat}(hk:k<n)(a:AscA f p k):∀(u l r:Nat),l≤r->r≤k->r-l≤u->(∀i,i<l->f (pA p i) (pA p k)=true)->(∀i,r≤i->i<k->f (pA p k) (pA p i)=true)->∃m,runC n f (kas_place p k u l r)=some m/\m≤k/\(∀i,i<m->f (pA p i) (pA p k)=true)/\∀i,m≤i->i<k->f (pA p k) (pA p i)=true
 |0,l,r,hl,hr,hu,b1,b2=>⟨l,rfl,by omega,b1,fun i hi=>b2 i (by omega)⟩
 | u+1,l,r,hl,hr,hu,b1,b2=>by
  unfold kas_place
  by_cases z:l≥r
  .rw[if_pos z];exact⟨l,rfl,by omega,b1,fun i hi=>b2 i (by omega)⟩
  .rw[if_neg z,gU (h.lt hk) (h.lt (k:=(l+r)/2) (by omega))]
   cases e:f (p.getD k 0) (p.getD ((l+r)/2) 0)with
   | true =>
    rw[if_pos rfl];exact jS h hk a u l ((l+r)/2) (by omega) (by omega) (by omega) b1 fun i hi hik=>by
     by_cases y:i=(l+r)/2
     .rw[y];exact e
     .exact T.tr _ _ _ (h.lt hk) (h.lt (k:=(l+r)/2) (by omega)) (h.lt (by omega)) e (a _ _ (by omega) hik)
   | false =>
    rw[if_neg (by decide)];have e':=T.no h (i:=k) (j:=(l+r)/2) hk (by omega) (by omega) e;exact jS h hk a u ((l+r)/2+1) r (by omega) hr (by omega) (fun i hi=>by
     by_cases y:i=(l+r)/2
     .rw[y];exact e'
     .exact T.tr _ _ _ (h.lt (by omega)) (h.lt (k:=(l+r)/2) (by omega)) (h.lt hk) (a _ _ (by omega) (by omega)) e') b2
theorem Cv(h:PermA n p){k l:Nat}(hk:k<n)(hl:l≤k)(hi:i<n):pA (bubble p k (k-l)) i=if i=l then pA p k else if l<i/\i≤k then pA p (i-1)else pA p i:=by
 have e:=getElem?_bubble (xs:=p) (src:=k) (by rw[h.sz];exact hk) (k-l) (by omega) i;have e1:(bubble p k (k-l))[i]?=some (pA (bubble p k (k-l)) i):=dt (by rw[bubble_size,h.sz];exact hi);rw[e,show k-(k-l)=l by omega]at e1
 by_cases z:i=l
 .rw[if_pos z,dt (by rw[h.sz];exact hk)]at e1;rw[if_pos z];exact(aai e1).symm
 .rw[if_neg z]at e1⊢
  by_cases y:l<i/\i≤k
  .rw[if_pos y,dt (by rw[h.sz];omega)]at e1;rw[if_pos y];exact(aai e1).symm
  .rw[if_neg y,dt (by rw[h.sz];omega)]at e1;rw[if_neg y];exact(aai e1).symm
theorem xw:∀(u:Nat) {p:Array Nat}{k:Nat},PermA n p->k+u=n->AscA f p k->∃p',runC n f (kas_bin u p k)=some p'/\PermA n p'/\AscA f p' n
 |0,p,k,h,hk,a=>⟨p,rfl,h,by rw[<-hk];exact a⟩
 | u+1,p,k,h,hk,a=>by
  obtain⟨l,r,hl,b1,b2⟩:=jS T h (k:=k) (by omega) a k 0 k (by omega) (aac _) (by omega) (fun i hi=>by omega) (fun i hi hik=>by omega);unfold kas_bin;rw[d7,r];show ∃p',runC n f (kas_bin u (bubble p k (k-l)) (k+1))=some p'/\_;have h':PermA n (bubble p k (k-l)):=⟨by rw[bubble_size];exact h.sz,((bubble_perm p k (k-l)).toList).trans h.pm⟩;refine xw u h' (by omega) fun i j hij hj=>?_;rw[Cv T h (by omega) hl (by omega),Cv T h (by omega) hl (by omega)]
  by_cases z1:i=l
  .rw[if_pos z1,if_neg (by omega)]
   by_cases z2:l<j/\j≤k
   .rw[if_pos z2];exact b2 _ (by omega) (by omega)
   .rw[if_neg z2];omega
  .rw[if_neg z1]
   by_cases z3:j=l
   .rw[if_pos z3,if_neg (by omega)];exact b1 _ (by omega)
   .rw[if_neg z3]
    by_cases z4:l<i/\i≤k
    .rw[if_pos z4,if_pos (by omega)];exact a _ _ (by omega) (by omega)
    .rw[if_neg z4]
     by_cases z5:l<j/\j≤k
     .rw[if_pos z5];exact a _ _ (by omega) (by omega)
     .rw[if_neg z5];exact a _ _ hij (by omega)
theorem zk(h1:1≤n):∃p,runC n f (kas_sort n)=some p/\PermA n p/\AscA f p n:=by
 have h0:PermA n (List.toArray (aaI n)):=⟨by simp,by simp⟩;obtain⟨m,p,r,h,m1,m2,m3⟩:=u3 T h0 h1;unfold kas_sort;rw[d7,r];show ∃p',runC n f (if m<n then kas_bin (n-max m 1) p (max m 1)else .ret p)=some p'/\_
 by_cases z:m<n
 .rw[if_pos z,show max m 1=m by omega];exact xw T (n-m) h (by omega) m3
 .rw[if_neg z];have:m=n:=by omega
  subst this;exact⟨p,rfl,h,m3⟩
end
end L2
namespace L2
open PySem PySem.Spec PySem.W PyProof.Rows
def LtAt(A:abz)(s:aab)(x y:GE)(b:Bool):Prop :=
 ∀(prog:aaZ) (w:World) (E:GE->aab->Prop) (Q:GE->aab->Prop),Q (.bool b) s->wpAny (model prog w) A (richCompare .Lt x y) Q E s
def wX(A:abz)(s:aab)(fin r:Bool):List (GE×GE)->Prop
 |[]=>r=fin
 |p::ps=>∃e,agg A s p.1 p.2 e/\((e=true->wX A s fin r ps)/\(e=false->LtAt A s p.1 p.2 r))
theorem kq(l b:Addr)(xs ys:Array GE)(n m:Nat)(d1 d2:Option Addr)(s1 s2:Array (Option GE))(r:Bool) :
  Meets (acM.«tuple.__lt__» ⟨[.ref l,.ref b],[]⟩)
   (fun A R s=>s.heap.get? l=some {cls:=.type "tuple",dict:=d1,data:=.seq xs n,slots:=s1}/\s.heap.get? b=some {cls:=.type "tuple",dict:=d2,data:=.seq ys m,slots:=s2}/\wX A.in1 s (decide (xs.size<ys.size)) r (xs.toList.zip ys.toList)/\R (.ok (.ret (.bool r))) s) :=
 .of_wp fun prog w A R s h=>by
  obtain⟨hx,hy,hp,hr⟩:=h;have sub:=AutoSeq1.sub_tuple_tuple
  wp_walk using afi hx,afi hy,aeN _ (fun rest z s'=>z.1=none/\s'=s/\wX A.in1 s (decide (xs.size<ys.size)) r rest) _
  case turn =>
   rintro⟨u,v⟩ rest z s' ⟨hz,rfl,e,he,h1,h2⟩;refine gE (he prog w _ _ ?_)
   cases e with
   |true=>exact aaa ⟨rfl,rfl,h1 rfl⟩
   |false =>
    refine gE (acU (gE (h2 rfl prog w _ _ ?_)))
    wp_walk
    exact⟨_,rfl,hr⟩
  case fin =>
   rintro⟨z,u⟩ s' ⟨hz,rfl,e⟩;have hz':z=none:=hz;subst hz'
   wp_walk
   refine⟨_,rfl,?_⟩;rw[e]at hr;exact hr
  case h=>exact⟨rfl,rfl,hp⟩
mutual
def ltD:iO->iO->Bool
 | .int a,.int b=>decide (a<b)
 | .tuple xs,.tuple ys=>ltDs xs ys
 |_,_=>false
def ltDs:List iO->List iO->Bool
 |x::xs,y::ys=>if aar x y=true then ltDs xs ys else ltD x y
 |[],_::_=>true
 |_,_=>false
end
mutual
def smD:iO->iO->Bool
 | .int _,.int _=>true
 | .tuple xs,.tuple ys=>smDs xs ys
 |_,_=>false
def smDs:List iO->List iO->Bool
 |[],[]=>true
 |x::xs,y::ys=>smD x y&&smDs xs ys
 |_,_=>false
end
mutual
theorem yU:∀{x y:iO},smD x y=true->x.canLay0=true/\y.canLay0=true
 | .int _,.int _,_=>⟨rfl,rfl⟩
 | .tuple xs,.tuple ys,h=>by
  simp only[smD]at h;have:=xZ h;exact⟨this.1,this.2⟩
theorem xZ:∀{xs ys:List iO},smDs xs ys=true->aba xs=true/\aba ys=true
 |[],[],_=>⟨rfl,rfl⟩
 |x::xs,y::ys,h=>by
  simp only[smDs,aaH]at h;have a:=yU h.1;have b:=xZ h.2;exact⟨by simp only[aba,a.1,b.1,ahi],by simp only[aba,a.2,b.2,ahi]⟩
end
def LtUp(k:Nat):Prop:=∀(x y:iO) (A:abz) (s:aab) (u v:GE) (as bs:List Addr),x.depth≤k->Reads s.heap u x as->Reads s.heap v y bs->smD x y=true->A.units+x.depth<cLine->LtAt A s u v (ltD x y)
theorem jz{k:Nat}(IH:LtUp k)(A:abz)(s:aab):∀(xs ys:List iO) (us vs:List GE) (as bs:List Addr),aav xs≤k->ad3 s.heap us xs as->ad3 s.heap vs ys bs->smDs xs ys=true->A.units+aav xs<cLine->us.length=vs.length/\wX A s false (ltDs xs ys) (us.zip vs)
 | [],ys,us,vs,as,bs,hk,r1,r2,h,hu=>by
  cases ys with
  |cons y ys=>exact absurd h (by simp only[smDs];decide)
  |nil =>
   cases r1;cases r2;exact⟨rfl,rfl⟩
 | x::xs,ys,us,vs,as,bs,hk,r1,r2,h,hu=>by
  cases ys with
  |nil=>exact absurd h (by simp only[smDs];decide)
  | cons y ys =>
   simp only[smDs,aaH]at h
   cases r1 with
   | cons a1 a2 =>
    cases r2 with
    |cons b1 b2 =>
     have hk':max x.depth (aav xs)≤k:=hk;have dp:A.units+max x.depth (aav xs)<cLine:=hu;have ly:=yU h.1;obtain⟨l1,l2⟩:=jz IH A s xs ys _ _ _ _ (by omega) a2 b2 h.2 (by omega);refine⟨by rw[aaL,aaL,l1],aar x y,ahW x y A s _ _ _ _ a1 b1 ly.1 ly.2 (by have:=Nat.min_le_left x.depth y.depth;omega),fun e=>?_,fun e=>?_⟩
     .rw[ltDs,if_pos e];exact l2
     .rw[ltDs,if_neg (by rw[e];decide)];exact IH x y A s _ _ _ _ (by omega) a1 b1 h.1 (by omega)
theorem sf:∀k,LtUp k
 | 0,x,y,A,s,u,v,as,bs,hk,r1,r2,h,hu=>by
  cases x with
  | int a =>
   cases y with
   |int b =>
    cases r1;cases r2;exact fun prog w E Q h=>wpAny_lt_int h
   |_=>exact absurd h (by simp only[smD];decide)
  |tuple xs=>exact absurd hk (by show ¬aav xs+1≤0;omega)
  |_=>exact absurd h (by simp only[smD];decide)
 | k+1,x,y,A,s,u,v,as,bs,hk,r1,r2,h,hu=>by
  cases x with
  | int a =>
   cases y with
   |int b =>
    cases r1;cases r2;exact fun prog w E Q h=>wpAny_lt_int h
   |_=>exact absurd h (by simp only[smD];decide)
  | tuple xs =>
   cases y with
   | tuple ys =>
    simp only[smD]at h
    cases r1 with
    | tuple e1 c1 q1 z1 =>
     cases r2 with
     |tuple e2 c2 q2 z2 =>
      rename_i l o vs n m o' vs' n';obtain⟨cls,dd,data,sl⟩:=o;obtain⟨cls',dd',data',sl'⟩:=o';dsimp only at c1 q1 c2 q2;subst c1 q1 c2 q2;have hk':aav xs+1≤k+1:=hk;have dp:A.units+(aav xs+1)<cLine:=hu;obtain⟨l1,lx⟩:=jz (sf k) A.in1 s xs ys vs.toList vs'.toList _ _ (by omega) z1 z2 h (show A.units+1+aav xs<cLine by omega);rw[abg,abg]at l1;intro prog w E Q hQ;refine richCompare_meets_room (op:=.Lt) ⟨_,e1,rfl⟩ ⟨_,e2,rfl⟩ F.slot_tuple_lt F.entry_tuple_lt (F.args_tuple_lt_2 _ _) (kq l m vs vs' n n' dd dd' sl sl' (ltDs xs ys)) ⟨e1,e2,?_,⟨(fun z=>nomatch z),hQ⟩⟩ (by omega);rw[decide_eq_false (p:=_) (by omega)];exact lx
   |_=>exact absurd h (by simp only[smD];decide)
  |_=>exact absurd h (by simp only[smD];decide)
end L2
namespace L2
open PySem PySem.Spec PyProof.Rows
variable{n:Nat}{T v:Addr}{b:Bool}{o:Obj}{Q:Bool->aab->Prop}{P:Addr->aa6->Nat->GE->Prop}
section
variable {prog:aaZ}{w:World}{A:abz}{E:GE->aab->Prop}{s:aab}{it d:Addr}{es:Array acn}{i ep:Nat}{ok ov:GE}
def kH(h:aa6)(it d:Addr)(i n ep:Nat)(k v:GE)(T:Addr)(b:Bool):Prop:=h.get? it=some {cls:=.type "dict_itemiterator",data:=.fields #[adj T,.bool b,.ref d,.int i 0,.int n 0,.int ep 0,k,v]}
theorem JD{a:Addr}{Q:Option Obj->aab->Prop}(h:Q (s.heap.get? a) s):wpAny (model prog w) A (loadIfAlive a) Q E s:=fun _ _ _=>h
theorem Db{j:Nat}(hit:kH s.heap it d j n ep ok ov T b)(hT:s.heap.get? T=some o)
  (hQ:∀h',kH h' it d j n ep ok ov T true->h'.objs.size=s.heap.objs.size->(∀c o,c≠it->s.heap.get? c=some o->h'.get? c=some o)->Q false {s with heap:=h' }):wpAny (model prog w) A (ab3 (.ref it)) Q E s:=by
 refine gE (m:=field (.ref it) 0) (abf hit rfl (x:=adj T) rfl ?_);refine gE (m:=loadIfAlive _) (JD ?_);rw[show((T:Int)).toNat=T by omega,hT];show wpAny _ _ (field (.ref it) 1 >>= _) _ _ _;refine gE (m:=field (.ref it) 1) (abf hit rfl (x:=.bool b) rfl ?_)
 cases b with
 |true=>exact aaa (hQ s.heap hit rfl fun c o _ q=>q)
 |false =>
  refine gE (m:=acK (.ref it) 1 (.bool true)) (aaD hit (by simp) fun q1 i1 s1=>?_);exact aaa (hQ q1 i1 s1.1 fun c o nc q=>s1.extBut c o nc q)
theorem Bf{j:Nat}{k v:GE}{Q:GE->aab->Prop}(hit:kH s.heap it d j n ep ok ov T b)(hT:s.heap.get? T=some o)
  (hQ:∀h',kH h' it d j n ep ok ov T true->h'.get? s.heap.objs.size=some {cls:=.type "tuple",data:=.seq #[k,v]}->h'.objs.size=s.heap.objs.size+1 ->
   (∀c o,c≠it->s.heap.get? c=some o->h'.get? c=some o)->Q (.ref s.heap.objs.size) {s with heap:=h' }):wpAny (model prog w) A (ach (.ref it) 6 k v) Q E s:=by
 have lt:it<s.heap.objs.size:=aak hit;refine gE (m:=ahG [k,v]) (aer ?_);have push:∀c o,s.heap.get? c=some o->(s.heap.push {cls:=.type "tuple",data:=.seq #[k,v]}).get? c=some o:=fun c o q=>Io _ q;refine gE (m:=ab3 (.ref it)) (Db (s:={s with heap:=s.heap.push {cls:=.type "tuple",data:=.seq #[k,v]} }) (push _ _ hit) (push _ _ hT) fun h' a1 a2 a3=>?_);refine aaa (hQ h' a1 (a3 _ _ (abv lt) (aal _ rfl)) (a2.trans (abB ..)) fun c o nc q=>a3 c o nc (push c o q))
theorem AG{Q:Option GE->aab->Prop}(hit:kH s.heap it d i es.size ep ok ov T b)(hal:s.heap.get? T=some o)(nT:T≠it)(he:EntAt s.heap d es ep)(hi:i<es.size)
  (hQ:∀h',kH h' it d (i+1) es.size ep ok ov T true->h'.get? s.heap.objs.size=some {cls:=.type "tuple",data:=.seq #[es[i].key,es[i].val]}->h'.objs.size=s.heap.objs.size+1 ->
   (∀c o,c≠it->s.heap.get? c=some o->h'.get? c=some o)->Q (some (.ref s.heap.objs.size)) {s with heap:=h' }):wpAny (model prog w) A (acj (.ref it)) Q E s:=by
 obtain⟨od,hod,hcd,hdd⟩:=he.ex;have hT:s.TypeIs (.ref it) "dict_itemiterator" :=(⟨_,hit,rfl⟩);have own:abd "dict_itemiterator" = true:=by decide
 unfold acj;refine gE (acu (aaP (name:=abI "__next__") hT aa8 (aaT aa8 hT acs ?_ (ack _))))
 wp_walk using pK hT,adP hit rfl,abX hod hdd,aci hod hdd,abj hT
 have eg:(if (i:Int)<0 then none else es[((i:Nat):Int).toNat]?)=some es[i]:=by
  rw[if_neg (by omega),aaX,abU hi]
 rw[eg];rcases s with⟨hp,g,dr,tk,os⟩;refine gE ?_;refine gE (pK hT (aaa ?_));refine gE (m:=afE _ _) (abj hT ?_);show wpAny _ _ (acK (.ref it) 3 (adj ((i:Int)+1)) >>= _) _ _ _;refine gE (aaD hit (by simp) fun h1 e1 s1=>?_);replace s1:abu it hp h1:=s1;have e1':kH h1 it d (i+1) es.size ep ok ov T b:=by
  have q:((i+1:Nat):Int)=(i:Int)+1:=rfl;unfold kH;rw[q];simpa[adj]using e1
 have T1:aeX ⟨h1,g,dr,tk,os⟩ (.ref it) "dict_itemiterator" :=(⟨_,e1',rfl⟩);refine gE (abM (gE (abj T1 (gE (abj T1 ?_)))));show wpAny _ _ (ach (.ref it) 6 es[i].key es[i].val) _ _ ⟨h1,g,dr,tk,os⟩;have z1:h1.objs.size=hp.objs.size:=s1.1;refine Bf (s:=⟨h1,g,dr,tk,os⟩) e1' (s1.extBut T o nT hal) fun h2 e2 t2 z2 k2=>?_;rw[z1]at t2 z2⊢;exact aaa ⟨_,rfl,aaa (hQ h2 e2 t2 z2 fun c o nc q=>k2 c o nc (s1.extBut c o nc q))⟩
theorem Bg{Q:Option GE->aab->Prop}(hh:A.handled=none)(hit:kH s.heap it d i es.size ep ok ov T b)(he:EntAt s.heap d es ep)(hi:es.size≤i)
  (hQ:∀h',(∀c o,c≠it->s.heap.get? c=some o->h'.get? c=some o)->Q none {s with heap:=h' }):wpAny (model prog w) A (acj (.ref it)) Q E s:=by
 obtain⟨od,hod,hcd,hdd⟩:=he.ex;have hT:s.TypeIs (.ref it) "dict_itemiterator" :=(⟨_,hit,rfl⟩);have own:abd "dict_itemiterator" = true:=by decide
 unfold acj;refine gE (acu (aaP (name:=abI "__next__") hT aa8 (aaT aa8 hT acs ?_ (ack _))))
 wp_walk using pK hT,adP hit rfl,abX hod hdd,aci hod hdd,abj hT
 have eg:(if (i:Int)<0 then none else es[((i:Nat):Int).toNat]?)=none:=by
  rw[if_neg (by omega),aaX,aev hi]
 rw[eg];refine gE (gE (pK hT (aaa ?_)));refine gE (m:=acK (.ref it) 2 .none) (aaD hit (by simp) fun h1 e1 s1=>?_);refine jp hh fun h2 e k2 ⟨oe,q1,q2⟩=>?_;exact gE (acq (T := "StopIteration") (b:=true) ⟨oe,q1,q2⟩ aes (aaa (hQ h2 fun c o nc q=>k2 c o (s1.extBut c o nc q))))
structure Nx(prog:aaZ)(w:World)(A:abz)(S it:Addr)(n:Nat)(St:Nat->aa6->Prop)(P:aa6->Nat->GE->Prop):Prop where
 item:∀(i:Nat) (s:aab) (Q:Option GE->aab->Prop) (E:GE->aab->Prop),i<n->St i s.heap->(∃o,s.heap.get? S=some o)->(∀h' v,St (i+1) h'->P h' i v->(∀c o,c≠it->s.heap.get? c=some o->h'.get? c=some o)->Q (some v) {s with heap:=h' })->wpAny (model prog w) A (acj (.ref it)) Q E s
 done:∀(s:aab) (Q:Option GE->aab->Prop) (E:GE->aab->Prop),St n s.heap->(∀h',(∀c o,c≠it->s.heap.get? c=some o->h'.get? c=some o)->Q none {s with heap:=h' })->wpAny (model prog w) A (acj (.ref it)) Q E s
 keep:∀i h h',St i h->h'.objs.size=h.objs.size->(∀c o,c≠S->h.get? c=some o->h'.get? c=some o)->St i h'
 more:∀h h' i v,P h i v->(∀c o,c≠S->c≠it->h.get? c=some o->h'.get? c=some o)->P h' i v
def kI(h:aa6)(S:Addr)(acc:Array GE)(c:Nat):Prop:=h.get? S=some {cls:=.type "list",data:=.seq acc c}
theorem t5{S it:Addr}{n:Nat}{St:Nat->aa6->Prop}{P:aa6->Nat->GE->Prop}{R:Result->aab->Prop}{res:GE}(N:Nx prog w A.in1 S it n St P)(ne:S≠it)(hn:n≤aam):∀(k i:Nat) (s:aab) (acc:Array GE) (c:Nat),n-i=k->i≤n->St i s.heap->kI s.heap S acc c->acc.size=i->(∀j v,acc[j]?=some v->P s.heap j v) ->
  (∀h' acc' c',(∀b o,b≠it->b≠S->s.heap.get? b=some o->h'.get? b=some o)->kI h' S acc' c'->acc'.size=n->(∀j v,acc'[j]?=some v->P h' j v)->R (.ok (.ret res)) {s with heap:=h' })->aeT (model prog w) A (.builtin "list.extend.loop" ⟨[.ref S,.ref it,res],[]⟩) R s
 |0,i,s,acc,c,hk,hi,st,hl,ha,hp,fin=>by
  have e:i=n:=by omega
  subst e;refine afj ag9 ((ae9 adZ _).symm▸?_);refine gE (m:=acj (.ref it)) (N.done s _ _ st fun h' kp=>aaa (fin h' acc c (fun b o nb _ q=>kp b o nb q) (kp S _ ne hl) ha fun j v e=>N.more _ _ _ _ (hp j v e) fun c o _ nc q=>kp c o nc q))
 | k+1,i,s,acc,c,hk,hi,st,hl,ha,hp,fin=>by
  refine afj ag9 ((ae9 adZ _).symm▸?_);refine gE (m:=acj (.ref it)) (N.item i s _ _ (by omega) st ⟨_,hl⟩ fun h' v st' pv kp=>?_);have hl':kI h' S acc c:=kp S _ ne hl;refine gE (m:=updateSeq S (·.push v)) (agC (s:={s with heap:=h' }) hl' rfl (aaa ⟨ahk adZ _,?_⟩) (by rw[ha];omega) (by show(acc.push v).size≤aam+1;rw[ah3,ha];omega));have up:∀b o,b≠S->h'.get? b=some o->(h'.update S (acd (·.push v))).get? b=some o:=fun b o nb q=>(acO _ _ (abt nb)).trans q;have hp':∀j u,(acc.push v)[j]?=some u->P (h'.update S (acd (·.push v))) j u:=fun j u e=>by
   rw[Array.getElem?_push]at e
   split at e
   .rename_i z;rw[ha]at z;subst z;rw[<-aai e];exact N.more _ _ _ _ pv fun c o nc _ q=>up c o nc q
   .exact N.more _ _ _ _ (hp j u e) fun c o nc ni q=>up c o nc (kp c o ni q)
  refine t5 N ne hn k (i+1) _ (acc.push v) _ (by omega) (by omega) (N.keep _ _ _ st' (agc ..) up) (acY _ hl' rfl) (by rw[ah3,ha]) hp' fun h2 acc2 c2 k2 l2 z2 p2=>fin h2 acc2 c2 (fun b o n1 n2 q=>k2 b o n1 n2 (up b o n2 (kp b o n1 q))) l2 z2 p2
end
section
variable {prog:aaZ}{w:World}{A:abz}{E:GE->aab->Prop}{s:aab}{it d S:Addr}{es:Array acn}{i ep:Nat}{ok ov:GE}
def StI(S it d:Addr)(es:Array acn)(ep:Nat)(i:Nat)(h:aa6):Prop:=EntAt h d es ep/\h.objs.size=it+1+i/\((∃ok ov,acG h it d i es.size ep ok ov)\/∃k v T b o,kH h it d i es.size ep k v T b/\h.get? T=some o/\T≠it/\T≠S)
def PrI(S it:Addr)(es:Array acn)(h:aa6)(i:Nat)(v:GE):Prop:=S<it/\v = .ref (it+1+i)/\∃hi:i<es.size,h.get? (it+1+i)=some {cls:=.type "tuple",data:=.seq #[es[i].key,es[i].val]}
theorem yG(it:Addr)(i:Nat):it+1+i≠it:=abv (aaz (abP it) (acr _ i))
theorem xM{S it:Addr}(h:S<it)(i:Nat):it+1+i≠S:=abv (aaY h (aaz (abP it) (acr _ i)))
theorem Bm(hh:A.handled=none)(n1:S<it)(n2:S≠d)(n3:it≠d):Nx prog w A S it es.size (StI S it d es ep) (PrI S it es) where
 item:=fun i s Q E hi ⟨he,z,st⟩ ⟨oS,hS⟩ hQ=>by
  rcases st with⟨ok,ov,st⟩|⟨k,v,T,b,o,st,hT,nT,nS⟩
  .refine p7 st he hi fun h' a1 a2 a3 a4=>?_;rw[z]at a1 a2 a3⊢;exact hQ h' _ ⟨he.keep fun o q=>a4 d o (abt n3) q,a3,.inr ⟨_,_,_,false,_,a1,a2,(yG it i),(xM n1 i)⟩⟩ ⟨n1,rfl,hi,a2⟩ a4
  .refine AG st hT nT he hi fun h' a1 a2 a3 a4=>?_;rw[z]at a2 a3⊢;exact hQ h' _ ⟨he.keep fun o q=>a4 d o (abt n3) q,a3,.inr ⟨_,_,_,true,o,a1,a4 T o nT hT,nT,nS⟩⟩ ⟨n1,rfl,hi,a2⟩ a4
 done:=fun s Q E ⟨he,z,st⟩ hQ=>by
  rcases st with⟨ok,ov,st⟩|⟨k,v,T,b,o,st,_⟩
  .exact oI hh st he (aac _) hQ
  .exact Bg hh st he (aac _) hQ
 keep:=fun i h h' ⟨he,z,st⟩ zz k=>by
  refine⟨he.keep fun o q=>k d o (abt n2) q,zz.trans z,?_⟩;rcases st with⟨ok,ov,st⟩|⟨a,v,T,b,o,st,hT,nT,nS⟩
  .exact .inl ⟨ok,ov,k it _ (abv n1) st⟩
  .exact .inr ⟨a,v,T,b,o,k it _ (abv n1) st,k T o nS hT,nT,nS⟩
 more:=fun h h' i v ⟨l,e,hi,q⟩ k=>⟨l,e,hi,k _ _ (xM n1 i) (yG it i) q⟩
theorem Fu(hh:A.handled=none)(n1:S≠it)(n2:S≠d)(n3:it≠d):Nx prog w A S it es.size (fun i h=>EntAt h d es ep/\qJ h it d i es.size ep) (fun _ i v=>∃hi:i<es.size,v=es[i].key) where
 item:=fun i s Q E hi ⟨he,st⟩ _ hQ=>yW st he hi fun h' a1 a4=>hQ h' _ ⟨he.keep fun o q=>a4 d o (abt n3) q,a1⟩ ⟨hi,rfl⟩ a4
 done:=fun s Q E ⟨he,st⟩ hQ=>AL hh st he (aac _) hQ
 keep:=fun i h h' ⟨he,st⟩ _ k=>⟨he.keep fun o q=>k d o (abt n2) q,⟨k it _ (abt n1) st.e⟩⟩
 more:=fun h h' i v x _=>x
theorem xH{Q:GE->aab->Prop}(hv:s.heap.get? v=some {cls:=.type "dict_items",data:=.fields #[.ref d]})(he:EntAt s.heap d es ep)
  (hQ:∀h',acG h' s.heap.objs.size d 0 es.size ep .none .none->h'.objs.size=s.heap.objs.size+1->(∀b o,s.heap.get? b=some o->h'.get? b=some o)->Q (.ref s.heap.objs.size) {s with heap:=h' }):wpAny (model prog w) A (afb (.ref v)) Q E s:=by
 obtain⟨od,hod,hcd,hdd⟩:=he.ex;have hT:s.TypeIs (.ref v) "dict_items" :=(⟨_,hv,rfl⟩);have own:abd "dict_itemiterator" = true:=by decide
 refine aew hT acH (aaT acH hT ae4 ?_ (aeO _));unfold acM.«dict_items.__iter__» afH aeP;refine gE (aaa (gE (gE (abf hv rfl (x:=.ref d) rfl (aaa (gE (gE (abX hod hdd (gE (aci hod hdd ?_))))))))));simp only[own,if_true];refine aa5 (aaa ⟨_,rfl,"dict_itemiterator",_,⟨_,aal _ rfl,rfl⟩,acR.lookup,?_⟩) (by simp only[sizeOk,ad4,aap,aat,aaL,aea,aaq];omega);exact hQ _ (aal _ rfl) (abB ..) fun b o q=>Io _ q
theorem u8:aho (.type "dict_items") "__len__" = pure (some (.builtin "dict_items.__len__")):=by rw[typeLookup_type,agH];kernel_rfl
theorem AU:aho (.type "dict") "__len__" = pure (some (.builtin "dict.__len__")):=by rw[typeLookup_type,agH];kernel_rfl
theorem uo(hT:s.TypeIs (.ref v) "dict_items")(h:Q false s):wpAny (model prog w) A (abK (.ref v)) Q E s:=by
 rw[abK];refine gE (aeb hT u8 ?_);have sp:splitId "dict_items.__len__" = some ("dict_items","__len__"):=by decide +kernel
 dsimp only;rw[sp];dsimp only;refine gE (acq (b:=true) hT (by rw[isSubtype_type];kernel_rfl) ?_);rw[if_neg (by decide)];rw[if_pos (by decide +kernel)];exact gE (adq hT (aaa h))
theorem vT(hT:s.TypeIs (.ref v) "dict")(h:Q false s):wpAny (model prog w) A (abK (.ref v)) Q E s:=by
 rw[abK];refine gE (aeb hT AU ?_);have sp:splitId "dict.__len__" = some ("dict","__len__"):=by decide +kernel
 dsimp only;rw[sp];dsimp only;refine gE (acq (b:=true) hT (by rw[isSubtype_type];kernel_rfl) ?_);rw[if_neg (by decide)];rw[if_pos (by decide +kernel)];exact gE (adq hT (aaa h))
theorem J5{c:Nat}{Q:Unit->aab->Prop}(hl:kI s.heap S #[] c)(h:∀h' c',kI h' S #[] c'->h'.objs.size=s.heap.objs.size->(∀b o,b≠S->s.heap.get? b=some o->h'.get? b=some o)->Q () {s with heap:=h' }):wpAny (model prog w) A (agv (.ref S)) Q E s:=by
 unfold agv;refine gE (m:=updateSeq S (·.push .none)) (agC hl rfl ?_ (by rw[Array.size_empty,aaq];omega) (by show(#[].push agh:Array GE).size≤aam+1;rw[aaq];decide));have l1:kI (s.heap.update S (acd (·.push .none))) S (#[].push .none) _:=acY _ hl rfl;refine agC (s:={s with heap:=s.heap.update S (acd (·.push .none))}) l1 rfl ?_ (by show(1:Nat)≤aam;rw[aaq];decide) (by show(0:Nat)≤aam+1;omega);have l2:kI ((s.heap.update S (acd (·.push .none))).update S (acd (·.pop))) S #[] _:=acY _ l1 rfl;exact h _ _ l2 ((agc ..).trans (agc ..)) fun b o nb q=>(acO _ _ (abt nb)).trans ((acO _ _ (abt nb)).trans q)
theorem zh{T:String}{c:Nat}{St:Addr->Nat->aa6->Prop}{R:Result->aab->Prop}(hT:s.TypeIs (.ref v) T)(hTT:T = "dict_items" \/ T = "dict")(nv:S≠v)(hl:kI s.heap S #[] c)(hn:n≤aam)
  (hint:∀(s:aab) (Q:Bool->aab->Prop) (E:GE->aab->Prop),s.TypeIs (.ref v) T->Q false s->wpAny (model prog w) A.in1 (abK (.ref v)) Q E s)
  (iter:∀(Q:GE->aab->Prop) (E:GE->aab->Prop),(∀h' it,it≠S->Nx prog w A.in1 S it n (St it) (P it)->St it 0 h'->(∀b o,s.heap.get? b=some o->h'.get? b=some o)->s.heap.get? it=none->Q (.ref it) {s with heap:=h' })->wpAny (model prog w) A.in1 (afb (.ref v)) Q E s)
  (fin:∀it h' (acc:Array GE) c',(∀b o,b≠S->s.heap.get? b=some o->h'.get? b=some o)->kI h' S acc c'->acc.size=n->(∀j u,acc[j]?=some u->P it h' j u)->R (.ok (.ret (.ref S))) {s with heap:=h' }):aeT (model prog w) A (.builtin "list.__iadd__" ⟨[.ref S,.ref v],[]⟩) R s:=by
 refine afj F.entry_list_iadd ((ae9 F.plain_list_iadd _).symm▸?_);show wpAny _ A.in1 (afr (.ref S) (.ref v) (.ref S)) _ _ _;rw[afr];refine gE ?_;refine adq hT ?_;have sr:afT (.ref S) (.ref v)=false:=by simp[afT,nv]
 rw[sr,if_neg (by rcases hTT with rfl|rfl<;>decide)];refine gE (iter _ _ fun h1 it ni N st k1 nn=>?_);have hT1:aeX {s with heap:=h1} (.ref v) T:=by
  obtain⟨o,q1,q2⟩:=hT;exact⟨o,k1 _ _ q1,q2⟩
 refine gE (abM (hint _ _ _ hT1 ?_));dsimp only;rw[if_pos (by rcases hTT with rfl|rfl<;>decide)];refine gE (acU (gE (J5 (s:={s with heap:=h1}) (k1 _ _ hl) fun h2 c2 l2 zz2 k2=>?_)));refine aaa ⟨ahk adZ _,t5 N (abt ni) hn n 0 _ #[] c2 rfl (ac5 _) (N.keep _ _ _ st zz2 k2) l2 rfl (fun j u e=>by simp at e) fun h3 acc c3 k3 l3 z3 p3=>fin it h3 acc c3 (fun b o nb q=>k3 b o (fun z=>by rw[z,nn]at q;cases q) nb (k2 b o nb (k1 b o q))) l3 z3 p3⟩
theorem k6{T:String}{St:Addr->Nat->aa6->Prop}{Q:List GE->aab->Prop}(hT:s.TypeIs (.ref v) T)(hTT:T = "dict_items" \/ T = "dict")(hn:n≤aam)
  (hint:∀(s:aab) (Q:Bool->aab->Prop) (E:GE->aab->Prop),s.TypeIs (.ref v) T->Q false s->wpAny (model prog w) A.in1 (abK (.ref v)) Q E s)
  (iter:∀(s1:aab) (Q:GE->aab->Prop) (E:GE->aab->Prop),(∀b o,s.heap.get? b=some o->s1.heap.get? b=some o)->(∃o,s1.heap.get? s.heap.objs.size=some o)->(∀h' it,it≠s.heap.objs.size->Nx prog w A.in1 s.heap.objs.size it n (St it) (P it)->St it 0 h'->(∀b o,s1.heap.get? b=some o->h'.get? b=some o)->s1.heap.get? it=none->Q (.ref it) {s1 with heap:=h' })->wpAny (model prog w) A.in1 (afb (.ref v)) Q E s1)
  (fin:∀it h' (acc:Array GE),(∀b o,s.heap.get? b=some o->h'.get? b=some o)->s.heap.objs.size<h'.objs.size->acc.size=n->(∀j u,acc[j]?=some u->P it h' j u)->Q acc.toList {s with heap:=h' }):wpAny (model prog w) A (collect (.ref v)) Q E s:=by
 have new:kI (s.heap.push {cls:=.type "list",data:=.seq #[]}) s.heap.objs.size #[] 0:=aal _ rfl;have k0:∀b o,s.heap.get? b=some o->(s.heap.push {cls:=.type "list",data:=.seq #[]}).get? b=some o:=fun b o q=>Io _ q;have nv:s.heap.objs.size≠v:=by
  obtain⟨o,q,_⟩:=hT;exact abv (aak q)
 have hT0:aeX {s with heap:=s.heap.push {cls:=.type "list",data:=.seq #[]} } (.ref v) T:=by
  obtain⟨o,q1,q2⟩:=hT;exact⟨o,k0 _ _ q1,q2⟩
 refine gE (m:=runValue _) (wpAny_runValue (afj F.entry_proto_collect (gE (m:=ahC []) (aa5 (aaa ⟨ahk F.plain_list_iadd _,?_⟩)))));refine zh (s:={s with heap:=s.heap.push {cls:=.type "list",data:=.seq #[]} }) hT0 hTT nv new hn hint (fun Q E h=>iter {s with heap:=s.heap.push {cls:=.type "list",data:=.seq #[]} } Q E k0 ⟨_,new⟩ h) fun it h' acc c' k l z p=>?_;refine gE (m:=load s.heap.objs.size) (wpAny_load l ?_);exact aaa (fin it h' acc (fun b o q=>k b o (aa4 (aak q)) (k0 b o q)) (aak l) z p)
end
end L2
namespace L2
open PySem PySem.Spec PySem.W PyProof.Rows
variable{ds:List iO}{n:Nat}{B b:Addr}{g:Nat->HO}{o:Expr}{apos cpos pos:Pos}{wo:WE}
section
variable {prog:aaZ}{w:World}{A:abz}{E:GE->aab->Prop}{s:aab}
def Dh(h h':aa6):Prop:=∀b o,h.get? b=some o->o.cls = .type "tuple" -> h'.get? b=some o
theorem sk{h h':aa6}{k:Nat}(K:Dh h h')(IH:∀x y u as,x.depth≤k->smD x y=true->Reads h u x as->∃bs,Reads h' u x bs):∀(xs ys:List iO) us as,aav xs≤k->smDs xs ys=true->ad3 h us xs as->∃bs,ad3 h' us xs bs
 |[],ys,us,as,_,_,r=>by cases r;exact⟨[],.nil⟩
 | x::xs,ys,us,as,hk,sm,r=>by
  cases ys with
  |nil=>exact absurd sm (by simp only[smDs];decide)
  | cons y ys =>
   simp only[smDs,aaH]at sm;have hk':max x.depth (aav xs)≤k:=hk
   cases r with
   |cons r1 r2 =>
    obtain⟨b1,q1⟩:=IH x y _ _ (by omega) sm.1 r1;obtain⟨b2,q2⟩:=sk K IH xs ys _ _ (by omega) sm.2 r2;exact⟨_,.cons q1 q2⟩
theorem vG{h h':aa6}(K:Dh h h'):∀(k:Nat) (x y:iO) (u:GE) (as:List Addr),x.depth≤k->smD x y=true->Reads h u x as->∃bs,Reads h' u x bs
 |k,.int a,y,u,as,_,_,r=>by cases r;exact⟨_,.int _ _⟩
 |0,.tuple xs,y,u,as,hk,_,_=>absurd hk (by show ¬aav xs+1≤0;omega)
 | k+1,.tuple xs,y,u,as,hk,sm,r=>by
  cases y with
  | tuple ys =>
   simp only[smD]at sm;have hk':aav xs+1≤k+1:=hk
   cases r with
   |tuple e c q z =>
    obtain⟨bs,q'⟩:=sk K (vG K k) xs ys _ _ (by omega) sm z;exact⟨_,.tuple (K _ _ e c) c q q'⟩
  |_=>exact absurd sm (by simp only[smD];decide)
 |k,.none,y,u,as,_,sm,_=>absurd sm (by simp only[smD];decide)
 |k,.bool _,y,u,as,_,sm,_=>absurd sm (by simp only[smD];decide)
 |k,.str _,y,u,as,_,sm,_=>absurd sm (by simp only[smD];decide)
 |k,.list _,y,u,as,_,sm,_=>absurd sm (by simp only[smD];decide)
 |k,.dict _,y,u,as,_,sm,_=>absurd sm (by simp only[smD];decide)
theorem xm{fin r:Bool}{Q:Bool->aab->Prop}(q:Q r s):∀(ps:List (GE×GE)) (i:Nat),wX A s fin r ps->KatLex prog w A false fin Q ps i s
 |[],i,h=>kat_nil (by have h':r=fin:=h;rw[<-h'];exact q)
 |p::ps,i,⟨e,he,h1,h2⟩=>by
  refine kat_cons (he prog w _ _ ?_)
  cases e with
  |true=>exact kat_yes (xm q ps (i+1) (h1 rfl))
  |false=>exact kat_no (kat_one _ _ (h2 rfl prog w _ _ q))
def RdL(h:aa6):List GE->List iO->Prop
 |[],[]=>True
 |v::vs,d::ds=>(∃as,Reads h v d as)/\RdL h vs ds
 |_,_=>False
theorem RdL.len{h:aa6}:∀{vs:List GE}{ds:List iO},RdL h vs ds->vs.length=ds.length
 |[],[],_=>rfl
 |v::vs,d::ds,t=>by rw[aaL,aaL,RdL.len t.2]
 |[],_::_,t=>t.elim
 |_::_,[],t=>t.elim
theorem RdL.get{h:aa6}:∀{vs:List GE}{ds:List iO}{i:Nat},RdL h vs ds->i<vs.length->∃as,Reads h (vs.getD i .none) (ds.getD i .none) as
 |[],[],_,_,z=>by simp at z
 |v::vs,d::ds,0,t,_=>t.1
 |v::vs,d::ds,i+1,t,z=>by
  rw[aha,aha];exact RdL.get t.2 (by simpa using z)
 |[],_::_,_,t,_=>(t.elim)
 |_::_,[],_,t,_=>(t.elim)
def tt1:iO->Bool
 | .tuple (.tuple _::_)=>true
 |_=>false
theorem xt{h:aa6}:∀{vs:List GE}{ds:List iO},RdL h vs ds->(∀d∈ds,tt1 d=true)->∃fs,KatTups h vs fs/\fs.length=vs.length/\∀v∈fs,∃b o,v = .ref b/\h.get? b=some o/\o.cls = .type "tuple"
 |[],[],_,_=>⟨[],.nil,rfl,fun _ h=>by cases h⟩
 | v::vs,d::ds,⟨⟨as,r⟩,t⟩,hd=>by
  obtain⟨fs,k1,k2,k3⟩:=xt t fun x hx=>hd x (aaf _ hx);have h1:=hd d aah;obtain⟨ys,xs,rfl⟩:∃ys xs,d = .tuple (.tuple ys::xs):=by
   unfold tt1 at h1
   split at h1
   .exact⟨_,_,rfl⟩
   .cases h1
  cases r with
  | tuple e c q z =>
   rename_i a o its n;generalize eL:its.toList=L at z
   cases z with
   | cons r1 r2 =>
    rename_i u us as1 bs;have e0:its[0]?=some u:=by
     rw[<-acm,eL];rfl
    cases r1 with
    |tuple e2 c2 q2 z2 =>
     refine⟨_::fs,.cons e c q e0 k1,by rw[aaL,aaL,k2],fun x hx=>?_⟩;exact(aas.mp hx).elim (fun z=>by subst z;exact⟨_,_,rfl,e2,c2⟩) (k3 x)
 |[],_::_,t,_=>t.elim
 |_::_,[],t,_=>t.elim
theorem RdL.keep{h h':aa6}(K:Dh h h'):∀{vs:List GE}{ds:List iO},(∀d∈ds,smD d d=true)->RdL h vs ds->RdL h' vs ds
 |[],[],_,_=>trivial
 |v::vs,d::ds,hs,⟨⟨as,r⟩,t⟩=>⟨vG K d.depth d d v as (aac _) (hs d aah) r,RdL.keep K (fun x hx=>hs x (aaf _ hx)) t⟩
 |[],_::_,_,t=>t.elim
 |_::_,[],_,t=>t.elim
structure SrtOk(ds:List iO):Prop where
 n:ds.length<64
 sm:∀x∈ds,∀y∈ds,smD x y=true
 tt:∀x∈ds,tt1 x=true
 dp:∀x∈ds,x.depth≤7
theorem Jx{u v:GE}{x y:iO}{as bs:List Addr}{Q:Bool->aab->Prop}(r1:Reads s.heap u x as)(r2:Reads s.heap v y bs)(sm:smD x y=true)(t1:tt1 x=true)(t2:tt1 y=true)(hu:A.units+x.depth<cLine)(h:Q (ltD x y) s):wpAny (model prog w) A (keyLt' (tuples' false) u v) Q E s:=by
 obtain⟨a1,b1,rfl⟩:∃a b,x = .tuple (.tuple a::b):=by
  unfold tt1 at t1
  split at t1
  .exact⟨_,_,rfl⟩
  .cases t1
 obtain⟨a2,b2,rfl⟩:∃a b,y = .tuple (.tuple a::b):=by
  unfold tt1 at t2
  split at t2
  .exact⟨_,_,rfl⟩
  .cases t2
 simp only[smD]at sm
 cases r1 with
 | tuple e c q z =>
  cases r2 with
  |tuple e2 c2 q2 z2 =>
   have hu':A.units+(aav (.tuple a1::b1)+1)<cLine:=hu;obtain⟨l1,lx⟩:=jz (sf _) A s _ _ _ _ _ _ (aac _) z z2 sm (by omega);rw[abg,abg]at l1;have h':Q (ltDs (.tuple a1::b1) (.tuple a2::b2)) s:=h;refine kat_lt e q e2 q2 (xm h' _ 0 ?_);rw[decide_eq_false (p:=_) (by omega)];exact lx
def ordP(ds:List iO)(p:List Nat):Prop:=p.Perm (aaI ds.length)/\∀i j,i<j->j<ds.length->ltD (ds.getD (p.getD i 0) .none) (ds.getD (p.getD j 0) .none)=true
theorem mr{a:Addr}{vs:List GE}{P:PySem.Fin->aab->Prop}(ho:s.heap.get? a=some (aeB "list" vs.toArray n))(hr:RdL s.heap vs ds)(ok:SrtOk ds)(hT:TotF ds.length fun i j=>ltD (ds.getD i .none) (ds.getD j .none))(hu:A.units+7<cLine)
  (h:∀p:List Nat,ordP ds p->P (.done (.ret .none)) {s with heap:=agw s.heap a vs (p.map fun i=>vs.getD i .none).toArray}):wpAny (model prog w) A
  (acM.«list.sort» ⟨[.ref a],[]⟩) P E s:=by
 have hlen:=hr.len;have h64:=ok.n;rw[list_sort_plain];have hz1:(s.heap.update a (acd fun _=>#[])).get? a=some (aeB "list" #[] _):=get?_update_seq ho fun _=>#[];have hz6:(((s.heap.update a (acd fun _=>#[])).push (aeB "tuple" vs.toArray 0)).push (aeB "list" #[] 0)).get? a=some (aeB "list" #[] _):=Io _ (Io _ hz1);refine gE (listItems_at ho rfl (gE (ahl ho rfl (gE (seqEpoch_at hz1 rfl (gE (m:=ahG _) (aer (gE (m:=ahC _) (wpAny_newList (abM ?_))))))))));have r6:RdL (((s.heap.update a (acd fun _=>#[])).push (aeB "tuple" vs.toArray 0)).push (aeB "list" #[] 0)) vs ds:=hr.keep (fun b o e c=>by
  have hb:b≠a:=fun z=>by
   rw[z,ho]at e;have c':o.cls=agi "list" :=by rw[<-aai e]
   rw[c']at c;exact absurd c (by decide)
  refine Io _ (Io _ ?_);rw[aa6.get?_update_ne _ _ _ _ hb];exact e) fun d hd=>ok.sm d hd d hd
 generalize hH:((s.heap.update a (acd fun _=>#[])).push (aeB "tuple" vs.toArray 0)).push (aeB "list" #[] 0)=h6 at hz6 r6;have sH:agw s.heap a vs=fun out=>agw s.heap a vs out:=rfl;change wpAny _ A _ P E ({s with heap:=h6}:aab);dsimp only;have hsz:(vs.toArray:Array GE).size=vs.length:=aap
 by_cases h2:(vs.toArray:Array GE).size<2
 .rw[if_pos h2,if_pos h2];refine gE (aaa ?_);rw[StateT.run_pure];refine gE (aaa ?_);dsimp only;refine gE (seqEpoch_at hz6 rfl ?_);refine gE (ahl hz6 rfl ?_ (hsz2:=by rw[Array.size_map];show(pairsOf vs).size≤_;rw[pairsOf_size,aaq];omega));simp only[if_false,aco,bne_self_eq_false];refine aaa ?_;have hh:=h (aaI ds.length) ⟨List.Perm.refl _,fun i j hij hj=>by omega⟩;have eo:((aaI ds.length).map fun i=>vs.getD i .none).toArray=(arrOf (SortSt.mk' general' (vs.toArray.zip vs.toArray) #[] 7 none)).map (·.2):=by
   show _=(vs.toArray.zip vs.toArray).map (·.2);apply Array.toList_inj.mp;rw[Array.toList_map,Array.toList_zip];refine ace fun i=>?_
   by_cases hi:i<vs.length
   .simp[abW,hi,<-hlen]
   .simp[abW,hi,<-hlen]
  rw[eo]at hh;unfold agw at hh;rw[hH]at hh;exact hh
 .rw[if_neg h2,if_neg h2];obtain⟨q,eq,pq,aq⟩:=zk hT (by omega);obtain⟨fs,k1,k2,k3⟩:=xt r6 ok.tt;refine gE (kat_kind (s:={s with heap:=h6}) (T:=.type "tuple") k1 (by omega) (fun v hv=>?_) rfl ?_)
  .obtain⟨b,o,rfl,e1,c1⟩:=k3 v hv;exact fun A' Q' E' s' kk q=>adq ⟨o,kk _ _ e1,c1⟩ q
  rw[show(agi "tuple" != agi "tuple")=false by decide];refine gE (ac9 (kat_run (ks:=vs) (Q:=fun st' s'=>q.size=vs.length/\arrOf st'=q.map (kas_item (vs.toArray.zip vs.toArray))/\failedOf st'=none/\s'={s with heap:=h6})
   (G:=fun p' s'=>p'=q/\s'={s with heap:=h6}) rfl (by omega) (by omega) (fun p' st' s' z1 z2 z3 z4=>by obtain⟨rfl,rfl⟩:=z4;exact⟨z1,z2,z3,rfl⟩) ?_) ?_ fun _ _ e=>e)
  rotate_left
  .rintro⟨⟨⟩,st'⟩ s' ⟨z1,z2,z3,rfl⟩;dsimp only;rw[kat_snds rfl z2];refine gE (seqEpoch_at hz6 rfl ?_);refine gE (ahl hz6 rfl ?_ (hsz2:=by simp;rw[z1,aaq];omega));rw[z3];simp only[if_false,aco,bne_self_eq_false];have hh:=h q.toList ⟨pq.pm,fun i j hij hj=>by
    have e1:∀k,k<ds.length->q.toList.getD k 0=pA q k:=fun k hk=>by
     rw[aau,acm,dt (by rw[pq.sz];exact hk)];rfl
    rw[e1 i (by omega),e1 j hj];exact aq i j hij hj⟩
   unfold agw at hh;rw[hH]at hh;exact aaa hh
  .rw[hlen];refine xJ (fun i j C hi hj hC=>?_) _ q eq ⟨rfl,rfl⟩;have hi':i<ds.length:=hi;have hj':j<ds.length:=hj;obtain⟨as,r1⟩:=r6.get (i:=i) (by omega);obtain⟨bs,r2⟩:=r6.get (i:=j) (by omega);have m1:ds.getD i .none∈ds:=by rw[aW (oR hi')];exact abm _
   have m2:ds.getD j .none∈ds:=by rw[aW (oR hj')];exact abm _
   exact Jx (s:={s with heap:=h6}) r1 r2 (ok.sm _ m1 _ m2) (ok.tt _ m1) (ok.tt _ m2) (by have:=ok.dp _ m1;omega) hC
end
section
variable {prog:aaZ}{w:World}{A:abz}{E:GE->aab->Prop}{s:aab}
theorem kO{v:GE}{C:aa6->List GE->Prop}{Q:GE->aab->Prop}(ok:SrtOk ds)(hT:TotF ds.length fun i j=>ltD (ds.getD i .none) (ds.getD j .none))(hu:A.units+10<cLine)
  (col:∀(P:List GE->aab->Prop) (E:GE->aab->Prop),(∀h' vs,(∀b o,s.heap.get? b=some o->h'.get? b=some o)->RdL h' vs ds->C h' vs->P vs {s with heap:=h' })->wpAny (model prog w) A.in1 (collect v) P E s)
  (h:∀(h1 h2:aa6) (vs:List GE) (p:List Nat) (L:Addr) (e:Nat),(∀b o,s.heap.get? b=some o->h1.get? b=some o)->C h1 vs->RdL h1 vs ds->(∀b o,h1.get? b=some o->h2.get? b=some o)->L=h1.objs.size->h2.get? L=some (aeB "list" (p.map fun i=>vs.getD i .none).toArray e)->ordP ds p->Q (.ref L) {s with heap:=h2}) :
  wpAny (model prog w) A (call (.builtin "sorted") [v]) Q E s:=by
 refine Calls.call_function_entry kind_sorted plain_sorted entry_sorted (args:=_) (args_sorted1 v) ?_;refine gE (m:=checkCount "sorted" 1 1 _) (aaa (gE (col _ _ fun h1 vs k1 r1 c1=>gE (m:=ahC vs) (wpAny_newList ?_ (hsz:=by rw[r1.len,aaq];have:=ok.n;omega)))));have at1:(h1.push (aeB "list" vs.toArray 0)).get? h1.objs.size=some (aeB "list" vs.toArray 0):=aal _ rfl;have k2:∀b o,h1.get? b=some o->(h1.push (aeB "list" vs.toArray 0)).get? b=some o:=fun b o q=>Io _ q;have r2:RdL (h1.push (aeB "list" vs.toArray 0)) vs ds:=r1.keep (fun b o q _=>k2 b o q) fun d hd=>ok.sm d hd d hd;refine gE (m:=adI _ _) (abM (ac9 (aaT (s:={s with heap:=h1.push (aeB "list" vs.toArray 0)}) slot_list_sort ⟨_,at1,rfl⟩ entry_list_sort (mr at1 r2 ok hT (show A.units+1+1+7<cLine by omega) fun p hp=>⟨_,rfl,?_⟩) (args_list_sort _)) (fun v' s' (q:Q (.ref h1.objs.size) s')=>aaa ⟨_,rfl,q⟩) fun _ _ z=>z));obtain⟨e,he⟩:=sortedHeap_at (out:=(p.map fun i=>vs.getD i .none).toArray) at1;exact h h1 _ vs p _ e k1 c1 r1 (fun b o q=>by
  have lt:b<h1.objs.size:=aak q;rw[sortedHeap_old (aa4 lt) (by rw[size_push'];exact aet lt)];exact k2 b o q) rfl he hp
end
theorem oa(h:aa6):h.get? h.objs.size=none:=by
 cases e:h.get? h.objs.size with
 |none=>rfl
 |some o=>exact(acP _ (aak e)).elim
def updR(H:Hp)(B:Addr)(g:Nat->HO):Nat->Hp
 |0=>H
 |n+1=>upd (updR H B g n) (B+n) (g n)
theorem h7{H:Hp}{B:Addr}{g:Nat->HO}{b:Addr}:∀{n:Nat},(∀j,j<n->b≠B+j)->updR H B g n b=H b
 |0,_=>rfl
 |n+1,h=>by
  show upd _ _ _ b=_;rw[ap (h n (abP n))];exact h7 fun j hj=>h j (aet hj)
theorem qp{H:Hp}{B:Addr}{g:Nat->HO}{j:Nat}:∀{n:Nat},j<n->updR H B g n (B+j)=some (g j)
 |0,h=>absurd h (Nat.not_lt_zero _)
 |n+1,h=>by
  by_cases e:j=n
  .subst e;exact aw
  .show upd _ _ _ (B+j)=_;rw[ap (fun z=>e (ahb z))];exact qp (by omega)
section
variable {X:Cx}{pins:List (Addr×Obj)}{σ:List (Option V)}{H:Hp}{s:aab}{h':aa6}
theorem AK(h:b<B):updR H B g n b=H b:=h7 fun j _=>aa4 (aaz h (acr _ _))
theorem cW{o:HO}(fr:∀j,H (B+j)=none)(h:H b=some o):updR H B g n b=some o:=by
 rw[h7 fun j _ z=>by rw[z,fr j]at h;cases h];exact h
theorem Inv.laidR{t':Nat}(I:Inv X pins σ H s)(k:∀b u,s.heap.get? b=some u->h'.get? b=some u)(hp:s.heap.objs.size≤B)(new:∀j,j<n->ObjOk X.prog X.w (updR H B g n) h' (B+j) (g j)) :
  Inv X pins σ (updR H B g n) {s with heap:=h',toks:=t' }:=by
 have fr:∀j,H (B+j)=none:=fun j=>I.hok.fresh (aaF hp (acr _ _));refine I.un ⟨fun b u q _ _ _=>k b u q,fun b u q _ _ _=>⟨u.slots,k b u q⟩,fun b u q n _=>?_,fun b u q _=>⟨u,k b u q⟩,fun b xs q=>cW fr q,fun b u xs q=>cW fr q,fun b ps q=>⟨#[],?_⟩⟩ fun b u e=>?_
 .rw[AK (aaz (aak q) hp)];exact n
 .rw[cW fr q];simp
 .by_cases hb:∃j,j<n/\b=B+j
  .obtain⟨j,hj,rfl⟩:=hb;rw[qp hj]at e;rw[<-aai e];exact new j hj
  .rw[h7 fun j hj z=>hb ⟨j,hj,z⟩]at e;exact(I.hok b u e).stay (fun c v _ q=>k c v q) (fun c q=>cW fr q) fun c xs q=>cW fr q
theorem xW{p:List Nat}(h:ordP ds p):(p.map fun i=>ds.getD i .none).Perm ds/\(p.map fun i=>ds.getD i .none).Pairwise fun a b=>ltD a b=true:=by
 have pl:p.length=ds.length:=by rw[h.1.length_eq,aa2]
 constructor
 .have e:(aaI ds.length).map (fun i=>ds.getD i .none)=ds:=ace fun i=>by
   rw[aae]
   by_cases hi:i<ds.length
   .rw[abW hi,oR hi];show some (ds.getD i .none)=_;rw[aW (oR hi)]
   .rw[acZ (by rw[aa2];omega),acZ (by omega)];rfl
  have:=h.1.map fun i=>ds.getD i .none;rwa[e]at this
 .refine abR.mpr fun i j hi hj hij=>?_;rw[Ge]at hi hj;rw[adV,adV];have:=h.2 i j hij (by omega);rwa[aW (oR hi),aW (oR hj)]at this
theorem vi(I:Inv X pins σ H s):∀{ds:List iO}{xs:List V}{us:List GE},(∀d∈ds,d.canLay0=true)->DenAll X.kx H ds xs->Vals xs us->RdL s.heap us ds
 |[],xs,us,_,g,r=>by
  simp only[DenAll]at g;subst g;cases r;trivial
 |d::ds,xs,us,hl,g,r=>by
  simp only[DenAll]at g;obtain⟨x,xs',rfl,g1,g2⟩:=g
  cases r with
  |cons h t=>exact⟨Den.reads I (abk _ (hl d aah)) g1 h,vi I (fun x hx=>hl x (aaf _ hx)) g2 t⟩
theorem SrtOk.lay(ok:SrtOk ds):∀d∈ds,d.canLay0=true:=fun d hd=>(yU (ok.sm d hd d hd)).1
structure SrtT(ds:List iO):Prop where
 ok:SrtOk ds
 tot:TotF ds.length fun i j=>ltD (ds.getD i .none) (ds.getD j .none)
def srtR(ds:List iO)(K:List iO->Prop):Prop:=SrtT ds/\∀ds':List iO,ds'.Perm ds->ds'.Pairwise (fun a b=>ltD a b=true)->K ds'
def BF:WC:=fun rs m K=>on1 (onDc fun kvs=>srtR (lH kvs) fun ds'=>K (.new ds')) rs
theorem lM{K:Kd}{H:Hp}:∀{kvs:List (iO×iO)}{es:List (V×V)},PDc K H kvs es->DenAll K H (lH kvs) (es.map (·.1))
 |_,_,.nil=>by simp only[lH,abJ,DenAll]
 |_,_,.cons h t=>by
  simp only[lH,aao,DenAll];exact⟨_,_,rfl,h.1,lM t⟩
theorem qW:∀{xs:List V}{us:List GE},xs.length=us.length->(∀(j:Nat) (x:V) (u:GE),xs[j]?=some x->us[j]?=some u->RelV x u)->Vals xs us
 |[],[],_,_=>.nil
 |x::xs,u::us,hl,h=>.cons (h 0 x u rfl rfl) (qW (by simpa using hl) fun j x u e1 e2=>h (j+1) x u (by simpa using e1) (by simpa using e2))
 |[],_::_,hl,_=>(adh _ hl).elim
 |_::_,[],hl,_=>(adh _ hl.symm).elim
theorem qt(hc:X.calm=true)(hu:X.A.units+64<cLine):dj X (.builtin "sorted") (cM X.kx BF):=by
 rintro pins s σ' H xs us Q I rv ⟨α,m,σ,H0,rs,Kc,Rl,h,ho,fin⟩;obtain⟨r,v,rfl,rfl,h1,ho⟩:=dL h ho;obtain⟨kvs,a,o,es,rfl,dc,pd,st,ho⟩:=Gm h1 ho;obtain⟨u,rfl,ru⟩:=rv.one;cases ru;obtain⟨hsys,ents,ep,g1,g2,g3,g4⟩:=I.dce dc;have he:EntAt s.heap a ents ep:=⟨o,g1,g2,g3⟩;have hl:es.length=ents.size:=by have:=g4.length;simpa using this
 have hkl:(lH kvs).length=es.length:=by unfold lH;rw[Ge,pd.length]
 have hn:=st.ok.n;refine kO (C:=fun h vs=>s.heap.objs.size<h.objs.size/\Vals (es.map (·.1)) vs) st.ok st.tot (by omega) (fun P E hP=>?_) fun h1 h2 vs p L e k1 c1 r1 k2 hL hl2 hp=>?_
 .refine k6 (St:=fun it i h=>EntAt h a ents ep/\qJ h it a i ents.size ep) (P:=fun _ _ i v=>∃hi:i<ents.size,v=ents[i].key) (n:=ents.size) he.ty (.inr rfl) (by rw[aaq];omega) (fun s1 Q1 E1 hT q=>vT hT q) (fun s1 Q1 E1 k0 ⟨oS,hS⟩ hq=>?_) fun it h' acc k z az pz=>?_
  .have lS:s.heap.objs.size<s1.heap.objs.size:=aak hS;have la:a<s.heap.objs.size:=aak g1;have he1:EntAt s1.heap a ents ep:=he.keep fun o q=>k0 _ _ q;refine xG hsys he1 fun h' Z hk=>hq h' _ (abv lS) (Fu (I.ok.hd hc) (aa4 lS) (abv la) (abv (aaY la lS))) ⟨he1.keep fun o q=>hk _ _ q,Z⟩ hk ?_;exact oa _
  .have hv:Vals (es.map (·.1)) acc.toList:=qW (by have z1:acc.toList.length=acc.size:=abg;rw[Ge,z1,az,hl]) fun j x u e1 e2=>by
    rw[aae]at e1;obtain⟨ev,e3,rfl⟩:=adx.mp e1;rw[acm]at e2;obtain⟨hj,rfl⟩:=pz j u e2;obtain⟨ev',e4,e5,_⟩:=Paired.at g4 (i:=j) (y:=ents[j]) (by simp[hj]);rw[e3]at e4;rw[aai e4];exact e5
   have I':Inv X pins σ' H {s with heap:=h' }:=I.kept (t':=s.toks) k;exact hP h' acc.toList k (vi I' st.ok.lay (lM pd) hv) ⟨z,hv⟩
 .obtain⟨z,hv⟩:=c1;subst hL;have hfr:H h1.objs.size=none:=I.hok.fresh (adn z);have hpl:p.length=ents.size:=by have:=hp.1.length_eq;rw[aa2]at this;omega
  obtain⟨o1,o2⟩:=xW hp;refine⟨.ref h1.objs.size,_,I.laid (t':=s.toks) (fun b o q=>k2 b o (k1 b o q)) (adn z) (show ObjOk X.prog X.w _ _ _ (.lst (p.map fun i=>(es.map (·.1)).getD i .non))from⟨by rw[Ge,aaq];omega,_,e,j3 hv p,by rw[hl2]⟩),rfl,?_⟩;exact fin _ _ _ (ho _ o1 o2) (Rl.lay hfr) ⟨_,_,rfl,hfr,aw,(lZ (lM pd) p).mono (br (.inl hfr))⟩ (cj hfr)
theorem oH{K:Kd}{H:Hp}:∀{ds:List iO}{xs:List V},ds.length=xs.length->(∀(j:Nat) (d:iO) (x:V),ds[j]?=some d->xs[j]?=some x->Den K H d x)->DenAll K H ds xs
 |[],[],_,_=>by simp only[DenAll]
 |d::ds,x::xs,hl,h=>by
  simp only[DenAll];exact⟨x,xs,rfl,h 0 d x rfl rfl,oH (by simpa using hl) fun j d x e1 e2=>h (j+1) d x (by simpa using e1) (by simpa using e2)⟩
 |[],_::_,hl,_=>(adh _ hl).elim
 |_::_,[],hl,_=>(adh _ hl.symm).elim
theorem u9{H:Hp}(fr:∀j,H (B+j)=none)(n:Nat):Pers H (updR H B g n):=⟨fun b xs q=>cW fr q,fun b o u q=>cW fr q⟩
def itmG(es:List (V×V))(j:Nat):HO:=.tup [(es.getD j (.non,.non)).1,(es.getD j (.non,.non)).2]
def oO(B:Addr)(n:Nat):List V:=(aaI n).map fun j=>.ref (B+j)
theorem o8{K:Kd}{H:Hp}{kvs:List (iO×iO)}{es:List (V×V)}(fr:∀j,H (B+j)=none)(pd:PDc K H kvs es):DenAll K (updR H B (itmG es) es.length) (bZ kvs) (oO B es.length):=by
 have pe:=u9 (g:=itmG es) fr es.length;refine oH (by unfold bZ oO;rw[Ge,Ge,aa2,pd.length]) fun j d x e1 e2=>?_;unfold bZ at e1;rw[aae]at e1;obtain⟨p,e3,rfl⟩:=adx.mp e1;obtain⟨ev,e4,d1,d2⟩:=Paired.at1 pd e3;have hj:j<es.length:=(aad.mp e4).1;unfold oO at e2;rw[aae,abW hj]at e2;have e2':=aai e2;subst e2';have eg:itmG es j = .tup [ev.1,ev.2]:=by unfold itmG;rw[aW e4]
 exact cP (SqT.of ((qp hj).trans (by rw[eg]))) (DenAll.cons (d1.mono pe) (DenAll.cons (d2.mono pe) DenAll.nil))
def Jg(K:Kd)(to:TE):TE:=fun σ H Q=>to σ H fun x H1=>∃a o es kvs,x = .ref a/\DcE H1 a o es/\PDc K H1 kvs es/\SrtT (bZ kvs)/\∀(ds':List iO) (B:Addr) (g:Nat->HO) (n:Nat) (L:Addr) (xs:List V),ds'.Perm (bZ kvs)->ds'.Pairwise (fun a b=>ltD a b=true)->(∀j,H1 (B+j)=none)->updR H1 B g n L=none->DenAll K (upd (updR H1 B g n) L (.lst xs)) ds' xs->Q (.ref L) (upd (updR H1 B g n) L (.lst xs))
theorem zw{p0:Pos}{to:TE}(hc:X.calm=true)(hu:X.A.units+64<cLine)(hg:Gl X "sorted")(hm:X.mg "sorted" = none)(ho:PE X o to)(hbase:abD o "items" X.env (eval o X.env)=eval o X.env:=by rfl)(hline:(apos.endLine==cpos.line)=true:=by rfl)
  (hst:aan [.Call (.Attribute o "items" apos) [] [] cpos] X.env=[(false,eval (.Call (.Attribute o "items" apos) [] [] cpos) X.env)]:=by rfl):PE X (.Call (.Name "sorted" p0) [.Call (.Attribute o "items" apos) [] [] cpos] [] pos) (Jg X.kx to):=by
 intro pins s σ H Q I h;refine aec (kZ I hg hm oq ?_);refine aeJ ?_ hst rfl;rw[hst];refine ahn ?_;refine aga hbase hline (thn (ho pins s σ H _ I h) fun v s1 ⟨x,H1,I1,r1,q1⟩=>?_);obtain⟨a,ob,es,kvs,rfl,dc,pd,st,q⟩:=q1;cases r1;obtain⟨hsys,ents,ep,g1,g2,g3,g4⟩:=I1.dce dc;have he:EntAt s1.heap a ents ep:=⟨ob,g1,g2,g3⟩;refine⟨"dict","dict.items",aej,aek,agb,⟨ob,g1,g2.1⟩,fun b e=>by cases e;exact⟨ob,g1,g2.2.1⟩,adt rfl (ag5 (kQ hsys he ?_))⟩;refine ahy ?_;have kv:∀b o,s1.heap.get? b=some o->(s1.heap.push {cls:=.type "dict_items",data:=.fields #[.ref a]}).get? b=some o:=fun b o q=>Io _ q;have hl:es.length=ents.size:=by have:=g4.length;simpa using this
 have hil:(bZ kvs).length=es.length:=by unfold bZ;rw[Ge,pd.length]
 have hn:=st.ok.n;have I2:Inv X pins σ H1 {s1 with heap:=s1.heap.push {cls:=.type "dict_items",data:=.fields #[.ref a]} }:=I1.kept (t':=s1.toks) kv;have hv2:(s1.heap.push {cls:=.type "dict_items",data:=.fields #[.ref a]}).get? s1.heap.objs.size=some {cls:=.type "dict_items",data:=.fields #[.ref a]}:=aal _ rfl;have he2:EntAt (s1.heap.push {cls:=.type "dict_items",data:=.fields #[.ref a]}) a ents ep:=he.keep fun o q=>kv _ _ q;have la:a<s1.heap.objs.size:=aak g1;generalize hS2:({s1 with heap:=s1.heap.push {cls:=.type "dict_items",data:=.fields #[.ref a]} }:aab)=s2 at I2⊢;have hh2:s2.heap=s1.heap.push {cls:=.type "dict_items",data:=.fields #[.ref a]}:=by rw[<-hS2]
 rw[<-hh2]at hv2 he2;have lv:s1.heap.objs.size<s2.heap.objs.size:=aak hv2;have lay:∀(h':aa6) (it:Addr),(∀b o,s2.heap.get? b=some o->h'.get? b=some o)->s2.heap.objs.size≤it+1->(∀j (hj:j<ents.size),h'.get? (it+1+j)=some {cls:=.type "tuple",data:=.seq #[ents[j].key,ents[j].val]})->Inv X pins σ (updR H1 (it+1) (itmG es) es.length) {s2 with heap:=h' }:=fun h' it k z tp=>by
  refine I2.laidR (t':=s2.toks) k z fun j hj=>?_;obtain⟨ev,e1,e2,e3⟩:=Paired.at g4 (i:=j) (y:=ents[j]) (by simp[show j<ents.size by omega]);have eg:itmG es j = .tup [ev.1,ev.2]:=by unfold itmG;rw[aW e1]
  rw[eg];exact⟨by show 2≤aam;rw[aaq];decide,[ents[j].key,ents[j].val],.cons e2 (.cons e3 .nil),⟨_,tp j (by omega),rfl,rfl,_,rfl⟩⟩
 have vref:∀(it:Addr) (acc:Array GE),acc.size=ents.size->(∀(j:Nat) u,acc[j]?=some u->u = .ref (it+1+j))->Vals (oO (it+1) es.length) acc.toList:=fun it acc az ar=>qW (by have z1:acc.toList.length=acc.size:=abg;unfold oO;rw[Ge,aa2,z1,az,hl]) fun j x u e1 e2=>by
  unfold oO at e1;rw[aae]at e1;obtain⟨j',e3,rfl⟩:=adx.mp e1;have hj':j<es.length:=by have:=(aad.mp e3).1;rwa[aa2]at this
  rw[abW hj']at e3;rw[acm]at e2;rw[ar j u e2,aai e3];exact rfl
 have fr:∀(it:Addr),s2.heap.objs.size≤it+1->∀j,H1 (it+1+j)=none:=fun it z j=>I2.hok.fresh (aaF z (acr _ _));refine kO (s:=s2) (C:=fun h vs=>∃it:Addr,s2.heap.objs.size≤it+1/\(∀j (hj:j<ents.size),h.get? (it+1+j)=some {cls:=.type "tuple",data:=.seq #[ents[j].key,ents[j].val]})/\Vals (oO (it+1) es.length) vs) st.ok st.tot (by omega) (fun P E hP=>?_) ?_
 .refine k6 (St:=fun it=>StI s2.heap.objs.size it a ents ep) (P:=fun it=>PrI s2.heap.objs.size it ents) (n:=ents.size) ⟨_,hv2,rfl⟩ (.inl rfl) (by rw[aaq];omega) (fun s3 Q3 E3 hT q=>uo hT q) (fun s3 Q3 E3 k0 ⟨oS,hS⟩ hq=>?_) fun it h' acc k zz az pz=>?_
  .have lS:s2.heap.objs.size<s3.heap.objs.size:=aak hS;have he3:EntAt s3.heap a ents ep:=he2.keep fun o q=>k0 _ _ q;refine xH (k0 _ _ hv2) he3 fun h' Z sz hk=>hq h' _ (abv lS) (Bm (I2.ok.hd hc) lS (abv (aaY la lv)) (abv (aaY la (aaY lv lS)))) ⟨he3.keep fun o q=>hk _ _ q,sz,.inl ⟨_,_,Z⟩⟩ hk (oa _)
  .obtain⟨it',z',tp',ar'⟩:∃it':Addr,s2.heap.objs.size≤it'+1/\(∀j (hj:j<ents.size),h'.get? (it'+1+j)=some {cls:=.type "tuple",data:=.seq #[ents[j].key,ents[j].val]})/\∀(j:Nat) u,acc[j]?=some u->u = .ref (it'+1+j):=by
    by_cases e0:ents.size=0
    .exact⟨s2.heap.objs.size,Nat.le_succ _,fun j hj=>by omega,fun j u e=>by have:=(Array.getElem?_eq_some_iff.mp e).1;omega⟩
    .have get:∀j,j<ents.size->∃u,acc[j]?=some u:=fun j hj=>⟨_,abU (show j<acc.size by omega)⟩;obtain⟨u0,e1⟩:=get 0 (by omega);have l0:=(pz 0 u0 e1).1;refine⟨it,adn (aet l0),fun j hj=>?_,fun j u e=>(pz j u e).2.1⟩;obtain⟨u,e⟩:=get j hj;obtain⟨_,_,hj',q⟩:=pz j u e;exact q
   have hv:=vref it' acc az ar';have I':=lay h' it' k z' tp';exact hP h' acc.toList k (vi I' st.ok.lay (o8 (fr it' z') pd) hv) ⟨it',z',tp',hv⟩
 .rintro h1 h2 vs p L e k1 ⟨it,z,tp,hv⟩ r1 k2 hL hl2 hp;subst hL;have I3:=lay h1 it k1 z tp;have hfr:updR H1 (it+1) (itmG es) es.length h1.objs.size=none:=I3.hok.fresh (aac _);obtain⟨o1,o2⟩:=xW hp;have hpl:p.length=ents.size:=by have:=hp.1.length_eq;rw[aa2]at this;omega
  exact⟨.ref h1.objs.size,_,I3.laid (t':=s2.toks) k2 (aac _) (show ObjOk X.prog X.w _ _ _ (.lst (p.map fun i=>(oO (it+1) es.length).getD i .non))from⟨by rw[Ge,aaq];omega,_,e,j3 hv p,by rw[hl2]⟩),rfl,q _ _ _ _ _ _ o1 o2 (fr it z) hfr ((lZ (o8 (fr it z) pd) p).mono (br (.inl hfr)))⟩
theorem wx{H:Hp}(fr:∀j,H (B+j)=none)(h:updR H B g n b=none):H b=none:=by
 cases e:H b with
 |none=>rfl
 |some o=>rw[cW fr e]at h;cases h
theorem Rel.layR{K:Kx}{α:Al}{m:MSt}{σ:St}{H:Hp}{B:Addr}{g:Nat->HO}(R:Rel K α m σ H)(fr:∀j,H (B+j)=none):∀n,Rel K α m σ (updR H B g n)
 |0=>R
 |n+1=>(Rel.layR R fr n).lay (by rw[h7 fun j hj z=>abv hj (ahb z)];exact fr n)
theorem Bo{α:Al}{H:Hp}(fr:∀j,H (B+j)=none)(n:Nat):Frm α H (updR H B g n):=fun b o e _=>cW fr e
def xi(wo:WE):WE:=fun m K=>wo m fun r m'=>onDc (fun kvs=>srtR (bZ kvs) fun ds'=>K (.new ds') m') r
theorem zu{p0:Pos}(hu:X.A.units+64<cLine)(hm:X.mg "sorted" = none)(ho:ME X o wo)(hc:X.calm=true:=by rfl)(hg:Gl X "sorted" :=by rfl)(hbase:abD o "items" X.env (eval o X.env)=eval o X.env:=by rfl)(hline:(apos.endLine==cpos.line)=true:=by rfl)
  (hst:aan [.Call (.Attribute o "items" apos) [] [] cpos] X.env=[(false,eval (.Call (.Attribute o "items" apos) [] [] cpos) X.env)]:=by rfl):ME X (.Call (.Name "sorted" p0) [.Call (.Attribute o "items" apos) [] [] cpos] [] pos) (xi wo):=(zw hc hu hg hm ho hbase hline hst).wk fun σ H Q ⟨α,m,Kc,Rl,hw,fin⟩=>by
 refine⟨α,m,_,Rl,hw,fun r m' v H' k n Rl' rr F=>?_⟩;obtain⟨kvs,a,ob,es,rfl,dc,pd,st,k⟩:=Gm rr k;refine⟨a,ob,es,kvs,rfl,dc,pd,st,fun ds' B g n' L xs p1 p2 fr hL den=>?_⟩;have R1:=Rel.layR (g:=g) Rl' fr n';have F1:=F.trans (Bo (g:=g) fr n');exact fin _ m' _ _ (k ds' p1 p2) n (R1.lay hL) (RelR.base Rl' F (show RelR X.kx α H' _ (.new ds') (.ref L)from⟨L,xs,rfl,wx fr hL,aw,den⟩)) (F1.trans (cj hL))
theorem yJ{p0:Pos}(hu:X.A.units+64<cLine)(hm:X.mg "sorted" = none)(ho:EE X o wo)(hc:X.calm=true:=by rfl)(hg:Gl X "sorted" :=by rfl)(hbase:abD o "items" X.env (eval o X.env)=eval o X.env:=by rfl)(hline:(apos.endLine==cpos.line)=true:=by rfl)
  (hst:aan [.Call (.Attribute o "items" apos) [] [] cpos] X.env=[(false,eval (.Call (.Attribute o "items" apos) [] [] cpos) X.env)]:=by rfl):EE X (.Call (.Name "sorted" p0) [.Call (.Attribute o "items" apos) [] [] cpos] [] pos) (xi wo):=⟨zu hu hm ho.h hc hg hbase hline hst⟩
theorem zG{m:MSt}{K:R->MSt->Prop}(h:wo m fun r m'=>onDc (fun kvs=>srtR (bZ kvs) fun ds'=>K (.new ds') m') r):xi wo m K:=h
theorem Fm{m:MSt}{r:R}{Kr:R->Prop}(h:onDc (fun kvs=>srtR (lH kvs) fun ds'=>Kr (.new ds')) r):BF [r] m Kr:=h
end
end L2
namespace K
open PySem L2 M7
variable{p q:Pt}{a b:Pt×Int}{enc:Pt×Int->iO}
def lexN:List Nat->List Nat->Bool
 |x::xs,y::ys=>if x=y then lexN xs ys else decide (x<y)
 |_,_=>false
def ltP(p q:Pt):Bool:=if p.1=q.1 then decide (p.2<q.2)else lexN p.1 q.1
theorem sy:∀a:List Nat,lexN a a=false
 |[]=>rfl
 |x::xs=>by show(if x=x then lexN xs xs else _)=false;rw[if_pos rfl];exact sy xs
theorem xq:∀{a b c:List Nat},a.length=b.length->b.length=c.length->lexN a b=true->lexN b c=true->lexN a c=true
 |[],[],_,_,_,h,_=>by cases h
 | x::a,y::b,z::c,h1,h2,h,h'=>by
  have h3:(if x=y then lexN a b else decide (x<y))=true:=h;have h4:(if y=z then lexN b c else decide (y<z))=true:=h';show(if x=z then lexN a c else decide (x<z))=true
  by_cases e1:x=y
  .subst e1;rw[if_pos rfl]at h3
   by_cases e2:x=z
   .rw[if_pos e2]at h4⊢;exact xq (by simpa using h1) (by simpa using h2) h3 h4
   .rw[if_neg e2]at h4⊢;exact h4
  .rw[if_neg e1]at h3;have l1:=of_decide_eq_true h3
   by_cases e2:y=z
   .subst e2;rw[if_neg e1];exact h3
   .rw[if_neg e2]at h4;have l2:=of_decide_eq_true h4;rw[if_neg (by omega)];exact decide_eq_true (p:=_<_) (by omega)
theorem tZ:∀{a b:List Nat},a.length=b.length->a≠b->lexN a b=true\/lexN b a=true
 |[],[],_,h=>(h rfl).elim
 | x::a,y::b,hl,h=>by
  show(if x=y then lexN a b else decide (x<y))=true\/(if y=x then lexN b a else decide (y<x))=true
  by_cases e:x=y
  .subst e;rw[if_pos rfl,if_pos rfl];exact tZ (by simpa using hl) fun z=>h (by rw[z])
  .rw[if_neg e,if_neg (abt e)];rcases aee e with z|z
   .exact .inl (decide_eq_true z)
   .exact .inr (decide_eq_true z)
theorem BV{r:Pt}(h1:p.1.length=q.1.length)(h2:q.1.length=r.1.length)(a:ltP p q=true)(b:ltP q r=true):ltP p r=true:=by
 unfold ltP at *
 by_cases e1:p.1=q.1
 .rw[if_pos e1]at a;rw[e1]
  by_cases e2:q.1=r.1
  .rw[if_pos e2]at b⊢;have:=of_decide_eq_true a;have:=of_decide_eq_true b;exact decide_eq_true (p:=_<_) (by omega)
  .rw[if_neg e2]at b⊢;exact b
 .rw[if_neg e1]at a
  by_cases e2:q.1=r.1
  .rw[<-e2,if_neg e1];exact a
  .rw[if_neg e2]at b;have t:=xq h1 h2 a b
   by_cases e3:p.1=r.1
   .rw[e3,sy]at t;cases t
   .rw[if_neg e3];exact t
theorem FU(h1:p.1.length=q.1.length)(h:p≠q):ltP p q=true\/ltP q p=true:=by
 unfold ltP
 by_cases e:p.1=q.1
 .rw[if_pos e,if_pos e.symm];have:p.2≠q.2:=fun z=>h (Prod.ext e z);rcases aee this with z|z
  .exact .inl (decide_eq_true z)
  .exact .inr (decide_eq_true z)
 .rw[if_neg e,if_neg (abt e)];exact tZ h1 e
theorem mW(p:Pt):ltP p p=false:=by unfold ltP;rw[if_pos rfl];exact decide_eq_false (acP _)
theorem uY:∀{a b:List Nat},a.length=b.length->ltDs (natD a) (natD b)=lexN a b
 |[],[],_=>rfl
 |x::a,y::b,h=>by
  show(if aar (.int (x:Int)) (.int (y:Int))=true then ltDs (natD a) (natD b)else decide ((x:Int)<(y:Int)))=if x=y then lexN a b else decide (x<y);rw[bW,uY (a:=a) (b:=b) (by simpa using h)]
  by_cases e:x=y
  .rw[if_pos e,if_pos (decide_eq_true e)]
  .rw[if_neg e,if_neg (by rw[decide_eq_false e];decide)];exact decide_eq_decide.mpr aeC
theorem yC(h:p.1.length=q.1.length):ltD (ptD p) (ptD q)=ltP p q:=by
 show(if aar (lnD p.1) (lnD q.1)=true then(if aar (.int (p.2:Int)) (.int (q.2:Int))=true then ltDs [] []else decide ((p.2:Int)<(q.2:Int)))else ltDs (natD p.1) (natD q.1))=_;rw[uZ,bW,uY h];unfold ltP
 by_cases e:p.1=q.1
 .rw[if_pos e,if_pos (decide_eq_true e)]
  by_cases e2:p.2=q.2
  .rw[if_pos (decide_eq_true e2)];exact(decide_eq_false (by omega)).symm
  .rw[if_neg (by rw[decide_eq_false e2];decide)];exact decide_eq_decide.mpr aeC
 .rw[if_neg e,if_neg (by rw[decide_eq_false e];decide)]
def itD(f:Int->iO)(p:Pt×Int):iO:=.tuple [ptD p.1,f p.2]
theorem LZ{f:Int->iO}{p q:Pt×Int}(h:p.1.1.length=q.1.1.length)(hne:p.1≠q.1):ltD (itD f p) (itD f q)=ltP p.1 q.1:=by
 show(if aar (ptD p.1) (ptD q.1)=true then _ else ltD (ptD p.1) (ptD q.1))=_;rw[jF,if_neg (by rw[decide_eq_false hne];decide),yC h]
theorem p6{α:Type}{lt:α->α->Bool}(irr:∀a,lt a a=false):∀{l m:List α},l.Perm m->l.Pairwise (fun a b=>lt a b=true)->m.Pairwise (fun a b=>lt a b=true)->(∀a∈l,∀b∈l,lt a b=true->lt b a=false)->l=m
 |[],m,p,_,_,_=>p.nil_eq
 | a::l,m,p,h1,h2,asy=>by
  cases m with
  |nil=>exact(adh _ p.length_eq.symm).elim
  | cons b m =>
   have h1':=afy.mp h1;have h2':=afy.mp h2;have e:a=b:=by
    have hb:b∈a::l:=p.mem_iff.mpr aah;have ha:a∈b::m:=p.mem_iff.mp aah;rcases aas.mp hb with z|z
    .exact z.symm
    .rcases aas.mp ha with y|y
     .exact y
     .have l1:=h1'.1 b z;have l2:=h2'.1 a y;rw[asy a aah b hb l1]at l2;cases l2
   subst e;rw[p6 irr (List.Perm.cons_inv p) h1'.2 h2'.2 fun x hx y hy=>asy x (aaf _ hx) y (aaf _ hy)]
theorem ou{α β:Type}{f:α->β}{z l:List β}(p:z.Perm l):∀{m:List α},z=m.map f->∃m':List α,m'.Perm m/\l=m'.map f:=by
 induction p with
 |nil=>intro m e;exact⟨m,.refl _,e⟩
 | cons a p ih =>
  intro m e
  cases m with
  |nil=>cases e
  |cons b m =>
   rw[aao]at e;injection e with e1 e2
   obtain⟨m',p',e'⟩:=ih e2;exact⟨b::m',p'.cons b,by rw[aao,e1,e']⟩
 | swap a b l =>
  intro m e
  cases m with
  |nil=>cases e
  | cons x m =>
   cases m with
   |nil=>cases e
   |cons y m =>
    rw[aao,aao]at e;injection e with e1 e2
    injection e2 with e2 e3
    exact⟨y::x::m,.swap _ _ _,by rw[aao,aao,e1,e2,e3]⟩
 |trans p1 p2 ih1 ih2 =>
  intro m e;obtain⟨m1,q1,e1⟩:=ih1 e;obtain⟨m2,q2,e2⟩:=ih2 e1;exact⟨m2,q2.trans q1,e2⟩
def vh(D:Int)(W:List (Pt×Int)):iO:=.tuple (W.map fun q=>.tuple [ptD q.1,nf q.2 D])
structure Srd(W W':List (Pt×Int)):Prop where
 p:W'.Perm W
 o:W'.Pairwise fun a b=>ltP a.1 b.1=true
structure WOk(h:Hall)(r:Rule)(W:List (Pt×Int)):Prop where
 st:∀p∈W,St h r p.1.1 p.1.2
 kd:(W.map (·.1)).Nodup
 n:W.length<64
 v:∀p∈W,p.2.natAbs<10^76
section
variable {h:Hall}{r:Rule}{W:List (Pt×Int)}
theorem WOk.ln(X:WOk h r W)(ha:a∈W)(hb:b∈W):a.1.1.length=b.1.1.length:=((X.st a ha).ln.1).trans ((X.st b hb).ln.1).symm
theorem Ci{i j:Nat}(nd:(W.map (·.1)).Nodup)(e1:W[i]?=some a)(e2:W[j]?=some b)(h:i≠j):a.1≠b.1:=by
 have key:∀{i j:Nat}{a b:Pt×Int},W[i]?=some a->W[j]?=some b->i<j->a.1≠b.1:=fun {i j a b} e1 e2 hij=>by
  obtain⟨hi,ea⟩:=aad.mp e1;obtain⟨hj,eb⟩:=aad.mp e2;have:=abR.mp nd i j (by rw[Ge];exact hi) (by rw[Ge];exact hj) hij;rw[adV,adV,ea,eb]at this;exact this
 rcases aee h with z|z
 .exact key e1 e2 z
 .exact fun e=>key e2 e1 z e.symm
theorem qg(nd:(W.map (·.1)).Nodup)(ha:a∈W)(hb:b∈W)(e:a.1=b.1):a=b:=by
 obtain⟨i,hi⟩:=ac8 ha;obtain⟨j,hj⟩:∃j,W[j]?=some b:=ac8 hb
 by_cases c:i=j
 .subst c;rw[hi]at hj;exact aai hj
 .exact(Ci nd hi hj c e).elim
theorem Srd.uniq{A B:List (Pt×Int)}(X:WOk h r W)(a:Srd W A)(b:Srd W B):A=B :=
 p6 (lt:=fun(a b:Pt×Int)=>ltP a.1 b.1) (fun a=>mW _) (a.p.trans b.p.symm) a.o b.o fun x hx y hy l=>by
  have mx:=a.p.mem_iff.mp hx;have my:=a.p.mem_iff.mp hy
  cases e:ltP y.1 x.1 with
  |false=>rfl
  |true =>
   have t:=BV (X.ln mx my) (X.ln my mx) l e;rw[mW]at t;cases t
structure EncP(W:List (Pt×Int))(enc:Pt×Int->iO):Prop where
 lt:∀a∈W,∀b∈W,a.1≠b.1->ltD (enc a) (enc b)=ltP a.1 b.1
 ir:∀a,ltD (enc a) (enc a)=false
 sm:∀a∈W,∀b∈W,smD (enc a) (enc b)=true
 tt:∀a,tt1 (enc a)=true
 dp:∀a∈W,(enc a).depth≤7
theorem EncP.srt(X:WOk h r W)(E:EncP W enc):SrtT (W.map enc):=by
 have get:∀i,i<W.length->∃a,W[i]?=some a/\a∈W/\(W.map enc).getD i .none=enc a:=fun i hi=>by
  have e:=oR hi;exact⟨_,e,OR e,aW (by rw[aae,e];rfl)⟩
 refine⟨⟨by rw[Ge];exact X.n,fun x hx y hy=>?_,fun x hx=>?_,fun x hx=>?_⟩,⟨fun a b c ha hb hc=>?_,fun a b ha hb ne=>?_⟩⟩
 .obtain⟨a,ha,rfl⟩:=aaA.mp hx;obtain⟨b,hb,rfl⟩:∃b,b∈W/\enc b=y:=aaA.mp hy;exact E.sm a ha b hb
 .obtain⟨a,ha,rfl⟩:=aaA.mp hx;exact E.tt a
 .obtain⟨a,ha,rfl⟩:=aaA.mp hx;exact E.dp a ha
 .rw[Ge]at ha hb hc;obtain⟨x,ex,mx,gx⟩:=get a ha;obtain⟨y,ey,my,gy⟩:=get b hb;obtain⟨z,ez,mz,gz⟩:=get c hc;rw[gx,gy,gz];intro l1 l2;have n1:x.1≠y.1:=fun e=>by rw[qg X.kd mx my e,E.ir]at l1;cases l1
  have n2:y.1≠z.1:=fun e=>by rw[qg X.kd my mz e,E.ir]at l2;cases l2
  rw[E.lt x mx y my n1]at l1;rw[E.lt y my z mz n2]at l2;have t:=BV (X.ln mx my) (X.ln my mz) l1 l2;have n3:x.1≠z.1:=fun e=>by rw[e,mW]at t;cases t
  rw[E.lt x mx z mz n3];exact t
 .rw[Ge]at ha hb;obtain⟨x,ex,mx,gx⟩:=get a ha;obtain⟨y,ey,my,gy⟩:=get b hb;rw[gx,gy];have n:=Ci X.kd ex ey ne;rw[E.lt x mx y my n,E.lt y my x mx (abt n)];exact FU (X.ln mx my) n
theorem EncP.srd(X:WOk h r W)(E:EncP W enc){ds':List iO}(p:ds'.Perm (W.map enc))(o:ds'.Pairwise fun a b=>ltD a b=true):∃W',Srd W W'/\ds'=W'.map enc:=by
 obtain⟨W',p',e⟩:=ou p.symm rfl;refine⟨W',⟨p',?_⟩,e⟩;rw[e]at o;refine(List.pairwise_map.mp o).imp_of_mem fun {a b} ha hb l=>?_;have ma:=p'.mem_iff.mp ha;have mb:=p'.mem_iff.mp hb;have n:a.1≠b.1:=fun e=>by rw[qg X.kd ma mb e,E.ir]at l;cases l
 rwa[E.lt a ma b mb n]at l
theorem yj:∀{a b:List Nat},a.length=b.length->smDs (natD a) (natD b)=true
 |[],[],_=>rfl
 |x::a,y::b,e=>by
  show(true&&smDs (natD a) (natD b))=true;rw[yj (by simpa using e)];rfl
theorem Lb(e:p.1.length=q.1.length):smD (ptD p) (ptD q)=true:=by
 show(smDs (natD p.1) (natD q.1)&&(true&&true))=true;rw[yj e];rfl
theorem ml{l:List Nat}{t:Nat}(ho:h.Ok)(S:St h r l t):Fine 200 2 (stD l t):=by
 have n4:=ho.n4;have l1:=S.ln.1;have ts:=S.ts;refine(bm (n:=63) (k:=1) (c:=2) (ds:=[lnD l,.int (t:Int)]) (fun d hd=>?_) (aac 2)).mono (by decide) (by decide);rcases aas.mp hd with e|e
 .rw[e];exact pf (c:=4) (by omega) fun x hx=>by
   have:=S.ln.le ho x hx;omega
 .rw[aaw.mp e];exact(gN (by omega)).mono (by decide) (by decide)
theorem Lr(ho:h.Ok)(X:WOk h r W):EncP W fun p=>ptD p.1 :=
 ⟨fun a ha b hb _=>yC (X.ln ha hb),fun a=>by rw[yC rfl];exact mW _,fun a ha b hb=>Lb (X.ln ha hb),fun a=>rfl,fun a ha=>aaF (ml ho (X.st a ha)).dp (by decide)⟩
theorem JE(ho:h.Ok)(X:WOk h r W):EncP W (itD .int):=by
 refine⟨fun a ha b hb n=>LZ (X.ln ha hb) n,fun a=>?_,fun a ha b hb=>?_,fun a=>rfl,fun a ha=>?_⟩
 .show(if aar (ptD a.1) (ptD a.1)=true then(if aar (.int a.2) (.int a.2)=true then false else decide (a.2<a.2))else _)=false;rw[jF,if_pos (decide_eq_true rfl),decide_eq_false (Int.lt_irrefl a.2)]
  split<;>rfl
 .show(smD (ptD a.1) (ptD b.1)&&(true&&true))=true;rw[Lb (X.ln ha hb)];rfl
 .refine aaF (bm (n:=200) (k:=2) (c:=2) (ds:=[ptD a.1,.int a.2]) (fun d hd=>?_) (aac 2)).dp (by decide);rcases aas.mp hd with e|e
  .rw[e];exact ml ho (X.st a ha)
  .rw[aaw.mp e];exact(kj (aaY (X.v a ha) (by decide))).mono (by decide) (by decide)
theorem zY(W:List (Pt×Int)):bZ (kvA ptD W)=W.map (itD .int):=by
 unfold bZ kvA itD;rw[abq];rfl
theorem F7(D:Int)(W:List (Pt×Int)):lH (shD D W)=W.map fun p=>ptD p.1:=by
 unfold lH shD kvG;rw[abq];rfl
theorem xN{D:Int}(ho:h.Ok)(X:WOk h r W){W':List (Pt×Int)}(s:Srd W W')(h0:0<D)(hD:D.natAbs<10^76):Fine 50000 4 (vh D W'):=by
 have n:=X.n;have e:=s.p.length_eq;refine Fine.mono (n':=50000) (k':=4) (bm (n:=607) (k:=3) (c:=64) (ds:=W'.map fun q=>.tuple [ptD q.1,nf q.2 D]) (fun d hd=>?_) (by rw[Ge];omega)) (by decide) (by decide);obtain⟨q,hq,rfl⟩:∃q,q∈W'/\_=d:=aaA.mp hd;have mq:=s.p.mem_iff.mp hq;refine Fine.mono (n':=607) (k':=3) (bm (n:=300) (k:=2) (c:=2) (ds:=[ptD q.1,nf q.2 D]) (fun d hd=>?_) (aac 2)) (by decide) (by decide);rcases aas.mp hd with e|e
 .rw[e];exact(ml ho (X.st q mq)).mono (by decide) (by decide)
 .rw[aaw.mp e];exact(Dg h0 (X.v q mq) hD).mono (by decide) (by decide)
end
def lv(h:Hall)(r:Rule)(p:Pt):List (Pt×Int):=([(p,(1:Int))].foldl (goW h r (msL h)) ([],[])).1
theorem Ld{h:Hall}{r:Rule}(ho:h.Ok)(hr:r.Ok h){p:Pt}(hp:St h r p.1 p.2)(w:Int):∀{M:Ms}{n:Nat}{x:List (Pt×Int)×List (Wd×Int)},(∀q∈M,q.1.Ok h)->GoOk h r n x->GoOk h r (n+M.length) (M.foldl (fun x q=>goW1 h r p w q x) x)
 |[],n,x,_,X=>X
 |q::M,n,x,hM,X=>by
  have:=Ld ho hr hp w (M:=M) (fun z hz=>hM z (aaf _ hz)) (X.next ho hr hp w (hM q aah));rw[aaL,Nat.add_comm M.length 1,<-aeV];exact this
theorem GU{h:Hall}{r:Rule}{l:List Nat}{t:Nat}(D:DuOk h r 1)(S:St h r l t):WOk h r (lv h r (l,t))/\∀p∈lv h r (l,t),0≤p.2/\p.2≤(botH h:Int):=by
 obtain⟨mn,mo⟩:=Dt D.ho;have G:=Ld D.ho D.hr (p:=(l,t)) S 1 (M:=msL h) (n:=0) (x:=([],[])) (fun q hq=>(mo q hq).1) ⟨fun _ hp=>(by cases hp),aac _,aac _⟩;have nn:=(BX D.ho D.h0 r (W:=[((l,t),(1:Int))]) (x:=([],[])) (fun z hz=>by rw[aaw.mp hz];show(0:Int)≤1;decide) ⟨fun _ hp=>(by cases hp),fun _ hp=>(by cases hp)⟩).1;have sm:=(Cj (h:=h) (r:=r) (W:=[((l,t),(1:Int))]) (x:=([],[]))).1;have e:((msL h).map (·.2)).sum=(botH h:Int):=Cn D.ho D.h0;have le:=(lR nn).2;rw[sm,e]at le;have le':∀p∈lv h r (l,t),p.2≤(botH h:Int):=fun p hp=>by
  refine ahL (le p hp) (Int.le_of_eq ?_);show(0:Int)+(1+0)*(botH h:Int)=_;omega
 have b:botH h<10^66:=by have:=D.b;rwa[afP]at this
 refine⟨⟨G.st,xv (by simp),?_,fun p hp=>?_⟩,fun p hp=>⟨nn p hp,le' p hp⟩⟩
 .have:=G.n1;exact aaE this (by omega)
 .have h1:=nn p hp;have h2:=le' p hp;exact aaY (show p.2.natAbs<10^66 by omega) (by decide)
def BR:SpM:=fun as K=>∃(h:Hall) (r:Rule) (W:List (Pt×Int)) (D:Nat),as=[.imm (wtD W),.imm (.int (D:Int))]/\h.Ok/\WOk h r W/\0<D/\D<10^76/\∀W',Srd W W'->K (.imm (vh (D:Int) W')) []
def xn:SpM:=fun as K=>∃(h:Hall) (r:Rule) (l:List Nat) (t:Nat),as=[.imm h.d,.imm r.d,.imm (stD l t)]/\DuOk h r 1/\St h r l t/\∀W',Srd (lv h r (l,t)) W'->K (.imm (vh (botH h:Int) W')) []
def u4:SpM:=fun as K=>∃(h:Hall) (r:Rule) (l:List Nat) (t:Nat),as=[.imm h.d,.imm r.d,.imm (.list [.tuple [stD l t,.tuple [.int 1,.int 1]]])]/\DuOk h r 1/\St h r l t/\K (.imm (.dict (shD (botH h:Int) (lv h r (l,t))))) []
def yq:SpM:=fun as K=>∃(h:Hall) (r:Rule) (W:List (Pt×Int)) (D:Int),as=[.imm (.dict (shD D W))]/\h.Ok/\WOk h r W/\∀W',Srd W W'->K (.imm (vh D W')) []
def tF:SpM:=fun as K=>∃(fd:List iO) (c:Nat) (h:Hall) (r:Rule),as=[.own fd,.imm h.d,.imm r.d]/\h.Ok/\r.Ok h/\TapeD c fd/\c<800000000/\∀(l:List Nat) (t:Nat) (fd':List iO),St h r l t->TapeD (c+9) fd'->K (.imm (stD l t)) [fd']
end K
namespace K
open PySem L2
variable{l:ah2}
local macro_rules | `(tactic| walk_at "x1") => `(tactic| first
 |(with_reducible first|apply oj|apply OJ)|((with_reducible refine' GN ?xe ?_);(case xe=>rfl))|(with_reducible first|apply x_c|apply IB|apply JS|apply GL|apply DJ|apply GM|apply Oq|apply JJ|apply J6|apply x_lt|apply x_le|apply x_gt|apply x_ge|apply Oi|apply OO|apply Pi|apply ON|apply x_isT)|((with_reducible refine' x_nd ?xe ?_);(case xe=>first|rfl|assumption))|(with_reducible first|apply x_rev|apply x_min|apply x_max)|((with_reducible refine' Oy ?_))|(with_reducible first|apply Jq|apply x_mt|apply x_ts)
 |((with_reducible refine' aD ?xe ?_);(case xe=>rfl))|((with_reducible refine' m7 ?xf ?xe ?_);(case xf=>rfl);(case xe=>rfl))|((with_reducible refine' qU ?xe ?_);(case xe=>rfl))|((with_reducible refine' gu ?xe ?_);(case xe=>rfl))
 |((with_reducible refine' Fe ?xe ?_);(case xe=>omega))|((with_reducible refine' g9 ?xe ?_);(case xe=>exact cfd (by omega) (by omega)))|((with_reducible refine' cb ?xe ?_);(case xe=>exact Pc (by omega)))|((with_reducible refine' NU ?xe ?_);(case xe=>exact⟨by decide,by decide,by decide⟩))
 |(with_reducible first|apply zQ|apply cw|apply x_bindO|apply Mr|apply NH|apply L6|apply IQ)|((with_reducible refine' O7 ?xe ?xf ?_);(case xe=>rfl);(case xf=>rfl))
 |(with_reducible first|apply MF|apply x_or|apply OY|apply x_andV|apply x_orV|apply x_notV|apply JT|apply NA|apply x_cb|apply JQ)|((with_reducible refine' OZ ?xe ?xf ?_);(case xe=>rfl);(case xf=>decide))
 |(with_reducible first|apply O5|apply Pf)|((with_reducible refine' Oh ?xe ?xf ?_);(case xe=>rfl);(case xf=>exact of_decide_eq_true rfl))|(with_reducible first|apply Ol|apply x_dix|apply KO|apply rL|apply Ik|apply x_disp|apply x_pNil|apply x_pCons|apply jm|apply x_bindA)|((with_reducible refine' x_dgot ?xa ?xb ?xc ?xd ?xe ?_);(case xa=>rfl);(case xb=>rfl);(case xc=>rfl);(case xd=>rfl);(case xe=>rfl))|((with_reducible refine' x_dgotN ?xa ?xb ?xc ?xd ?xe ?_);(case xa=>rfl);(case xb=>rfl);(case xc=>rfl);(case xd=>rfl);(case xe=>rfl))|((with_reducible refine' x_dputs ?xa ?xb ?xc ?xd ?xe ?xf ?_);(case xa=>rfl);(case xb=>rfl);(case xc=>rfl);(case xd=>rfl);(case xe=>exact of_decide_eq_true rfl);(case xf=>rfl))|((with_reducible refine' x_onPairs ?xa ?xb ?xc ?xd ?_);(case xa=>rfl);(case xb=>rfl);(case xc=>exact of_decide_eq_true rfl);(case xd=>rfl))
 |with_reducible apply x_callX|((with_reducible refine' x_agsX ?xe ?xf ?_);(case xe=>rfl);(case xf=>decide))|(with_reducible first|apply x_raise|apply x_raiseI|apply x_excI|apply x_excP|apply x_xf|apply x_isX|apply x_isXs)|((with_reducible refine' x_rz ?xe ?_);(case xe=>exact of_decide_eq_true rfl))
 |((with_reducible refine' x_onAgs ?xa ?xb ?_);(case xa=>rfl);(case xb=>decide))|(with_reducible first|apply x_tupR|apply Iq|apply x_immT|apply x_fsC|apply x_fsN|apply x_trI|apply x_trN|apply x_trT|apply x_fldI)|((with_reducible refine' x_fgot ?xa ?xb ?xc ?xd ?xe ?_);(case xa=>rfl);(case xb=>rfl);(case xc=>rfl);(case xd=>rfl);(case xe=>rfl))|((with_reducible refine' x_fgotN ?xa ?xb ?xc ?xd ?xe ?_);(case xa=>rfl);(case xb=>rfl);(case xc=>rfl);(case xd=>rfl);(case xe=>rfl))|with_reducible apply x_meth|((with_reducible refine' x_insR ?xa ?xb ?xc ?_);(case xa=>rfl);(case xb=>rfl);(case xc=>rfl))|with_reducible apply x_make|((with_reducible refine' x_onImms ?xa ?_);(case xa=>rfl))|(with_reducible first|apply x_reps|apply x_dputT|apply x_empt|apply x_dispT|apply x_ml0)|((with_reducible refine' x_onPairsT ?xa ?xb ?xc ?_);(case xa=>rfl);(case xb=>rfl);(case xc=>exact of_decide_eq_true rfl))
 |(with_reducible first|apply x_un|apply Pg|apply Ox|apply x_intI|apply Ip|apply NR|apply JI|apply LH)|((with_reducible refine' Ix ?xe ?_);(case xe=>rfl))|(with_reducible first|apply x_lenN|apply O3|apply O6|apply LU|apply x_retN|apply x_chain|apply x_ml)|((with_reducible refine' x_ls ?xe ?_);(case xe=>rfl))
 |(with_reducible first|apply x_isN|apply x_isB|apply Ae|apply x_gM|apply Js|apply GI|apply JG)
 |((with_reducible refine' CI ?xe ?_);(case xe=>rfl))|with_reducible apply JL|((with_reducible refine' x_list ?xe ?_);(case xe=>rfl))|((with_reducible refine' F8 ?xe ?_);(case xe=>rfl))|(with_reducible first|apply x_listR|apply x_sl|apply AC|apply L8|apply Nr|apply Lw|apply LG|apply Jn)|((with_reducible refine' JK ?xe ?_);(case xe=>rfl))|(with_reducible first|apply Lu|apply x_rng2|apply D5|apply DL|apply M8|apply AF|apply JU|apply jy)|with_reducible apply ga)
local macro_rules | `(tactic| walk_at "xs") => `(tactic| repeat walk_at "x1")
local macro_rules | `(tactic| walk_at "xn") => `(tactic| first | dsimp only [mapR, cq, List.set, MSt.setV, MSt.setN, List.take, List.length, List.append, je, uF, Nat.reduceAdd, List.getD_cons_succ, List.getD_cons_zero, List.nil_append, List.cons_append, setT, lfD] | dsimp only [mapR, cq, List.set, MSt.setV, MSt.setN, List.take, List.length, List.append, je, uF, Nat.reduceAdd, List.getD_cons_succ, List.getD_cons_zero, List.nil_append, List.cons_append] | skip)
local macro_rules | `(tactic| walk_at "sc") => `(tactic| exact ⟨rfl, rfl, rfl, by decide +kernel, rfl, by decide +kernel, by decide +kernel⟩)
local macro_rules | `(tactic| walk_at "xx") => `(tactic| (walk_at "xn"; walk_at "xs"))
def top(i:Nat):Stmt:=PySem.Challenge.pw_shorterline_k25_what_a_turn_leaves.main.body.getD i (.Pass ⟨0,0,0,0⟩)
abbrev cx:Stmt:=top 4
abbrev fy:Stmt:=top 5
abbrev iX:Stmt:=top 6
abbrev md:Stmt:=top 7
abbrev m8:Stmt:=top 8
abbrev cC:Stmt:=top 9
abbrev dy:Stmt:=top 12
abbrev dh:Stmt:=top 14
abbrev mH:Stmt:=top 15
abbrev dm:Stmt:=top 16
abbrev lu:Stmt:=top 17
abbrev fg:Stmt:=top 19
abbrev iM:Stmt:=top 20
abbrev na:Stmt:=top 21
abbrev nq:Stmt:=top 22
abbrev gC:Stmt:=top 23
abbrev mi:Stmt:=top 24
abbrev fH:Stmt:=top 25
abbrev lQ:Stmt:=top 26
abbrev jW:Stmt:=top 27
abbrev dH:Stmt:=top 29
abbrev dq:Stmt:=top 30
abbrev dG:Stmt:=top 31
abbrev fh:Stmt:=top 32
abbrev il:Stmt:=top 34
abbrev iK:Stmt:=top 35
abbrev jB:Stmt:=top 36
abbrev iQ:Stmt:=top 37
abbrev gG:Stmt:=top 38
abbrev dw:Stmt:=top 39
abbrev fZ:Stmt:=top 40
abbrev cn:Stmt:=top 41
abbrev f7:Stmt:=top 42
abbrev dN:Stmt:=top 43
abbrev fo:Stmt:=top 44
abbrev iW:Stmt:=top 45
abbrev iC:Stmt:=top 46
abbrev fE:Stmt:=top 47
abbrev gw:Stmt:=top 48
abbrev fz:Stmt:=top 49
abbrev iU:Stmt:=top 50
abbrev cE:Stmt:=top 51
abbrev gj:Stmt:=top 52
abbrev slaw:Stmt:=top 53
structure Bl(K:aaj)(mg:Str->Option GE):Prop where
 len:mg "len" = none
 abs:mg "abs" = none
 range:mg "range" = none
 list:mg "list" = none
 tuple:mg "tuple" = none
 int:mg "int" = none
 sum:mg "sum" = none
 zip:mg "zip" = none
 min:mg "min" = none
 max:mg "max" = none
 enumerate:mg "enumerate" = none
 repr:mg "repr" = none
 sorted:mg "sorted" = none
 c_WHOLE_TURN:ConM K mg "WHOLE_TURN" (.tuple (([1,1]:List Int).map .int))
theorem dJ:am ["one","other"] ["one","other"] (ac cx):=by walk_at"sc"
theorem fc:am ["top","bottom","divisor"] ["top","bottom"] (ac fy):=by walk_at"sc"
theorem qk:am ["one","other"] ["one","other"] (ac iX):=by walk_at"sc"
theorem yu:am ["one","other"] ["one","other"] (ac md):=by walk_at"sc"
theorem vY:am ["one","other"] ["one","other"] (ac m8):=by walk_at"sc"
theorem bT:am ["pairs","bottom","thing","fraction"] ["pairs"] (ac cC):=by walk_at"sc"
theorem bI:am ["hall","lines","place","many","server"] ["hall","lines"] (ac dy):=by walk_at"sc"
theorem b9:am ["lines","order","best","line"] ["lines","order"] (ac dh):=by walk_at"sc"
theorem jX:am ["hall","lines","line","top","bottom"] ["hall","lines","line"] (ac mH):=by walk_at"sc"
theorem bv:am ["hall","lines","order","best","least","line","wait"] ["hall","lines","order"] (ac dm):=by walk_at"sc"
theorem ij:am ["hall","rule","stand","order","lines","turn","word"] ["hall","rule","stand","order"] (ac lu):=by walk_at"sc"
theorem cI:am ["hall","many","orders","place"] ["hall"] (ac fg):=by walk_at"sc"
theorem qq:am ["lines","line","more"] ["lines","line","more"] (ac iM):=by walk_at"sc"
theorem vK:am ["hall","lines","line"] ["hall","lines","line"] (ac na):=by walk_at"sc"
theorem wn:am ["lines","line"] ["lines","line"] (ac nq):=by walk_at"sc"
theorem pG:am ["hall","lines"] ["hall","lines"] (ac gC):=by walk_at"sc"
theorem gL:am ["hall","lines","shift"] ["hall","lines"] (ac mi):=by walk_at"sc"
theorem nw:am ["hall","rule","turn"] ["hall","rule","turn"] (ac fH):=by walk_at"sc"
theorem vt:am ["hall","rule","stand","move"] ["hall","rule","stand","move"] (ac lQ):=by walk_at"sc"
theorem bM:am ["hall","rule","stand","move","lines","turn","word","line"] ["hall","rule","stand","move"] (ac jW):=by walk_at"sc"
theorem ba:am ["hall","come","servers","moved","orders","each","shares","rest","line","server"] ["hall"] (ac dH):=by walk_at"sc"
theorem aH:am ["hall","rule","weights","moves","whole","stands","words","stand","weight","move","share","behind","word"] ["hall","rule","weights"] (ac dq):=by walk_at"sc"
theorem lD:am ["weights","whole"] ["weights","whole"] (ac dG):=by walk_at"sc"
theorem cB:am ["hall","rule","stand","stands","words","whole"] ["hall","rule","stand"] (ac fh):=by walk_at"sc"
theorem qT:am ["_law_script"] ["_law_script"] (ac il):=by walk_at"sc"
theorem cf:am ["_law_tape_here","_law_many","_law_found","_law_at","_law_cell","_law_mixed"] ["_law_tape_here","_law_many"] (ac iK):=by walk_at"sc"
theorem iP:am ["_law_top","_law_bottom","_law_one","_law_other"] ["_law_top","_law_bottom"] (ac jB):=by walk_at"sc"
theorem qI:am ["_law_one","_law_other"] ["_law_one","_law_other"] (ac iQ):=by walk_at"sc"
theorem ot:am ["_law_one","_law_other"] ["_law_one","_law_other"] (ac gG):=by walk_at"sc"
theorem dE:am ["_law_tape_here","_law_many","_law_most","_law_parts_here","_law_rest"] ["_law_tape_here","_law_many"] (ac dw):=by walk_at"sc"
theorem bw:am ["_law_tape_here","_law_menu","_law_rooms","_law_shares","_law_speeds","_law_slowest","_law_speed","_law_servers"] ["_law_tape_here","_law_menu"] (ac fZ):=by walk_at"sc"
theorem bh:am ["_law_hall_here","_law_found","_law_speed","_law_room","_law_longer","_law_lines"] ["_law_hall_here"] (ac cn):=by walk_at"sc"
theorem jE:am ["_law_tape_here","_law_hall_here","_law_word"] ["_law_tape_here","_law_hall_here"] (ac f7):=by walk_at"sc"
theorem bV:am ["_law_many","_law_found","_law_turn","_law_longer","_law_order"] ["_law_many"] (ac dN):=by walk_at"sc"
theorem bA:am ["_law_hall_here","_law_lines","_law_order","_law_best","_law_k","_law_one","_law_other","_law_mine"] ["_law_hall_here","_law_lines","_law_order"] (ac fo):=by walk_at"sc"
theorem bU:am ["_law_hall_here","_law_rule_here","_law_stand_here","_law_order","_law_lines","_law_turn","_law_some","_law_best","_law_k"] ["_law_hall_here","_law_rule_here","_law_stand_here","_law_order"] (ac iW):=by walk_at"sc"
theorem rF:am ["_law_lines","_law_k","_law_many"] ["_law_lines","_law_k","_law_many"] (ac iC):=by walk_at"sc"
theorem fq:am ["_law_hall_here","_law_lines"] ["_law_hall_here","_law_lines"] (ac fE):=by walk_at"sc"
theorem cG:am ["_law_hall_here","_law_rule_here","_law_stand_here","_law_order","_law_lines","_law_turn","_law_k"] ["_law_hall_here","_law_rule_here","_law_stand_here","_law_order"] (ac gw):=by walk_at"sc"
theorem aK:am ["_law_hall_here","_law_rule_here","_law_stand_here","_law_lines","_law_turn","_law_orders_here","_law_found","_law_order","_law_later","_law_word","_law_rest","_law_k","_law_speed","_law_less"] ["_law_hall_here","_law_rule_here","_law_stand_here"] (ac fz):=by walk_at"sc"
theorem cg:am ["_law_hall_here","_law_rule_here","_law_pairs","_law_found","_law_stand_here","_law_share","_law_later","_law_word","_law_part"] ["_law_hall_here","_law_rule_here","_law_pairs"] (ac iU):=by walk_at"sc"
theorem j7:am ["_law_shares"] ["_law_shares"] (ac cE):=by walk_at"sc"
theorem cJ:am ["_law_tape_here","_law_hall_here","_law_rule_here","_law_lines","_law_speed","_law_room","_law_turn"] ["_law_tape_here","_law_hall_here","_law_rule_here"] (ac gj):=by walk_at"sc"
theorem ji:am ["_law_script","_law_tape_here","_law_menu","_law_k","_law_hall_here","_law_rule_here","_law_j","_law_stand_here","_law_before","_law_due"] ["_law_script"] (ac slaw):=by walk_at"sc"
theorem yp{k:Nat}{ds:List iO}{g:WG}{w:WS}{D:dB}{m1:MSt}(P:Nat->MSt->Prop)(p0:P 0 (m1.setN (max m1.np (k+1))))(ok:∀i m,P i m->m.os[k]?=some ds)
  (step:∀(i:Nat) (d:iO) (m:MSt),ds[i]?=some d->m.np=max m1.np (k+1)->P i m->∀D':dB,(∀m',P (i+1) m'->D'.nx m')->g d m fun m2=>w D' m2)
  (fin:∀m,m.np=max m1.np (k+1)->P ds.length m->D.nx (m.setN m1.np)):gJ ⟨ds,some k⟩ g w D m1:=iJ P p0 ok (fun i d m e n p=>step i d m e n p _ fun _ z=>z) fin
def menu25:List (List Nat):=[[1],[2],[6],[1,1],[2,1],[1,3],[6,2],[1,2,1],[2,2,2],[4,1,3],[1,1,1,1],[2,1,1,2]]
theorem xr:wj menu25:=by
 refine⟨by decide,by decide,?_⟩;decide
theorem v6:wj [[6,6,6]]:=by
 refine⟨by decide,by decide,?_⟩;decide
theorem FE{h:Hall}{q:Int}(h0:0≤q)(h1:q<5):∃(r:Rule) (x:Str),atI [aeM "random",.str "turns",.str "two",.str "least",.str "quick"] q=some (.str x)/\r.d = .tuple [.str x]/\r.Ok h:=by
 rcases (show q=0\/q=1\/q=2\/q=3\/q=4 by omega)with z|z|z|z|z<;>rw[z]
 .exact⟨.random,"random",rfl,rfl,trivial⟩
 .exact⟨.turns,"turns",rfl,rfl,trivial⟩
 .exact⟨.two,"two",rfl,rfl,trivial⟩
 .exact⟨.least,"least",rfl,rfl,trivial⟩
 .exact⟨.quick,"quick",rfl,rfl,trivial⟩
theorem du25{h:Hall}{r:Rule}{S:Nat}(ho:h.Ok)(hr:r.Ok h)(O:OfS h S):DuOk h r 1:=⟨ho,hr,O.rest ho,by decide,O.pow ho (by decide)⟩
section
variable {P:aaZ}{w:World}{K:aaj}{mg:Str->Option GE}{base:aa6}
theorem ib(T:Bl K mg)(D:DefM K mg "greatest_divisor" cx ["one","other"]):FnM P w K mg base "greatest_divisor" 1 2 CA:=by
 refine aU D dJ rfl (nN:=2) rfl (by decide) ?ar fun cdv A outer s H E f hr=>⟨_,(mz' (gW (av (pJ hr.units) (mv' 1) mh' (aI _)) (aa (jC (i:=0) (j:=1) dJ.nd rfl rfl (by decide) rfl rfl (mc' (mv' 1) (mc' (ad cN (mv' 0) (mv' 1)) mn')) rfl)) aaG)
   (aa (ag (mv' 0)))),?_⟩
 case ar=>rintro as Kc ⟨a,b,rfl,_⟩;rfl
 rintro as Kc hl ⟨a,b,rfl,k⟩;refine ai (MSt.mk [some (.imm (.int a)),some (.imm (.int b))] [] 0) rfl ?_;walk_at"xs";refine mt (fun n m=>∃x y:Nat,m=MSt.mk [some (.imm (.int x)),some (.imm (.int y))] [] 0/\x.gcd y=a.gcd b/\n=y) b ⟨a,b,rfl,rfl,rfl⟩ ?_;rintro n m hn ⟨x,y,rfl,hg,rfl⟩;walk_at"xs";refine aG (fun hpos=>?_) (fun hz=>?_)
 .have hy:0<n:=by omega
  walk_at"xs";have h2:=ahs x hy;exact⟨x%n,h2,n,x%n,rfl,by rw[agx,<-Nat.gcd_rec,agx,hg],rfl⟩
 .have hy0:n=0:=by omega
  subst hy0;rw[ahw]at hg;walk_at"xs";rw[hg];exact k
theorem mj(T:Bl K mg)(D:DefM K mg "fraction_of" fy ["top","bottom"])(Ggreatest_divisor:FnM P w K mg base "greatest_divisor" 1 2 CA):FnM P w K mg base "fraction_of" 2 2 Bx:=by
 refine aU D fc rfl (nN:=3) rfl (by decide) ?ar fun cdv A outer s H E f hr=>⟨_,(mz' (bc (av (bG hr.units) (mv' 1) mh' (aI _)) (aa yN) ay)
   (mz' (bc (av jb (mv' 1) mh' (aI _)) (aa (jC (i:=0) (j:=1) fc.nd rfl rfl (by decide) rfl rfl (mc' (kh gq (mv' 0)) (mc' (kh gq (mv' 1)) mn')) rfl)) ay)
   (mz' (al 2 fc.nd (mf' Ggreatest_divisor (hr.mono (by decide)) (mc' (au oU (by rfl) T.abs Cb (mc' (mv' 0) mn')) (mc' (mv' 1) mn'))))
   (aa (ag (af (mc' (ad cZ (mv' 0) (mv' 2)) (mc' (ad cZ (mv' 1) (mv' 2)) mn')))))))),?_⟩
 case ar=>rintro as Kc ⟨a,b,rfl,_⟩;rfl
 rintro as Kc hl ⟨t,b,rfl,hb,ht,hb1,k⟩;refine ai (MSt.mk [some (.imm (.int t)),some (.imm (.int b)),none] [] 0) rfl ?_;have g1:0<t.natAbs.gcd b.natAbs:=abl _ (by omega);have g2:t.natAbs.gcd b.natAbs<10^160:=aaE (af7 _ (by omega)) hb1;unfold nf nfP at k;walk_at"xs";refine aG (fun z=>absurd z hb) (fun _=>?_);walk_at"xs";refine aG (fun z=>?_) (fun z=>?_)
 .rw[if_pos z]at k;walk_at"xs";refine⟨t.natAbs,b.natAbs,by rw[show(if -t<0 then - -t else -t)=(t.natAbs:Int) by split<;>omega,show -b=(b.natAbs:Int) by omega],?_⟩;walk_at"xn";refine cw ?_;walk_at"xx";refine g9 (cfdB g1 g2) ?_;walk_at"xs";refine g9 (cfdB g1 g2) ?_;walk_at"xs";exact k
 .rw[if_neg z]at k;walk_at"xs";refine⟨t.natAbs,b.natAbs,by rw[show(if t<0 then -t else t)=(t.natAbs:Int) by split<;>omega,show(b.natAbs:Int)=b by omega],?_⟩;walk_at"xn";refine cw ?_;walk_at"xx";refine g9 (cfdB g1 g2) ?_;walk_at"xs";refine g9 (cfdB g1 g2) ?_;walk_at"xs";exact k
theorem qr(T:Bl K mg)(D:DefM K mg "taken_off" iX ["one","other"])(Gfraction_of:FnM P w K mg base "fraction_of" 2 2 Bx):FnM P w K mg base "taken_off" 3 2 IA:=by
 refine aU D qk rfl (nN:=2) rfl (by decide) ?ar fun cdv A outer s H E f hr=>⟨_,(aa (ag (mf' Gfraction_of (hr.mono (by decide)) (mc' (ad rm (ad aB (ab (mv' 0) mh') (ab (mv' 1) mh')) (ad aB (ab (mv' 1) mh') (ab (mv' 0) mh'))) (mc' (ad aB (ab (mv' 0) mh') (ab (mv' 1) mh')) mn'))))),?_⟩
 case ar=>rintro as Kc ⟨a,b,c,d,rfl,_⟩;rfl
 rintro as Kc hl ⟨a,b,c,d,rfl,h1,h2,k⟩;refine ai (MSt.mk [some (.imm (.tuple [.int a,.int b])),some (.imm (.tuple [.int c,.int d]))] [] 0) rfl ?_;walk_at"xs";refine cb (dI (up45 h1.ha) (up45 h2.hb)) ?_;walk_at"xs";refine cb (dI (up45 h2.ha) (up45 h1.hb)) ?_;walk_at"xs";refine cb (dI (up45 h1.hb) (up45 h2.hb)) ?_;walk_at"xs";refine⟨_,_,rfl,vM h1.hp h2.hp,IC (fJ h1.ha h2.hb) (fJ h2.ha h1.hb),qF (fJ h1.hb h2.hb),?_⟩;walk_at"xn";exact k
theorem vO(T:Bl K mg)(D:DefM K mg "divided" md ["one","other"])(Gfraction_of:FnM P w K mg base "fraction_of" 2 2 Bx):FnM P w K mg base "divided" 3 2 Jy:=by
 refine aU D yu rfl (nN:=2) rfl (by decide) ?ar fun cdv A outer s H E f hr=>⟨_,(aa (ag (mf' Gfraction_of (hr.mono (by decide)) (mc' (ad aB (ab (mv' 0) mh') (ab (mv' 1) mh')) (mc' (ad aB (ab (mv' 0) mh') (ab (mv' 1) mh')) mn'))))),?_⟩
 case ar=>rintro as Kc ⟨a,b,c,d,rfl,_⟩;rfl
 rintro as Kc hl ⟨a,b,c,d,rfl,h1,h2,hc,k⟩;refine ai (MSt.mk [some (.imm (.tuple [.int a,.int b])),some (.imm (.tuple [.int c,.int d]))] [] 0) rfl ?_;walk_at"xs";refine cb (dI (up45 h1.ha) (up45 h2.hb)) ?_;walk_at"xs";refine cb (dI (up45 h1.hb) (up45 h2.ha)) ?_;walk_at"xs";refine⟨_,_,rfl,Int.mul_ne_zero (Int.ne_of_gt h1.hp) hc,qF (fJ h1.ha h2.hb),qF (fJ h1.hb h2.ha),?_⟩;walk_at"xn";exact k
theorem xV(T:Bl K mg)(D:DefM K mg "is_less" m8 ["one","other"]):FnM P w K mg base "is_less" 1 2 BC:=by
 refine aU D vY rfl (nN:=2) rfl (by decide) ?ar fun cdv A outer s H E f hr=>⟨_,(aa (ag (l9 jb (ad aB (ab (mv' 0) mh') (ab (mv' 1) mh')) (ad aB (ab (mv' 1) mh') (ab (mv' 0) mh')) (aI _)))),?_⟩
 case ar=>rintro as Kc ⟨a,b,c,d,rfl,_⟩;rfl
 rintro as Kc hl ⟨a,b,c,d,rfl,ha,hb,hc,hd,k⟩;refine ai (MSt.mk [some (.imm (.tuple [.int a,.int b])),some (.imm (.tuple [.int c,.int d]))] [] 0) rfl ?_;walk_at"xs";have e:decide ((a:Int)*(d:Int)<(c:Int)*(b:Int))=decide (a*d<c*b):=by
  rw[<-aaB,<-aaB];exact decide_eq_decide.mpr aeC
 rw[e];exact k
theorem jQ(T:Bl K mg)(D:DefM K mg "on_one_bottom" cC ["pairs"])(Ggreatest_divisor:FnM P w K mg base "greatest_divisor" 1 2 CA):FnM P w K mg base "on_one_bottom" 2 1 tU:=by
 refine aU D bT rfl (nN:=4) rfl (by decide) ?ar fun cdv A outer s H E f hr=>⟨_,(mz' (cR (i:=1) bT.nd rfl (adl rfl) mh')
   (mz' (bt (bz (mv' 0)) (bi (n:=2) (ae (ak 2 bT.nd) (ae (ak 3 bT.nd) aV))) (aa (cR (i:=1) bT.nd rfl (adl rfl) (ad aB (mv' 1) (ad cZ (ab (mv' 3) mh') (mf' Ggreatest_divisor (hr.mono (by decide)) (mc' (mv' 1) (mc' (ab (mv' 3) mh') mn'))))))) aaG)
   (aa (ag (af (mc' (dU (cv (own:=["thing","fraction"]) (fr:=["bottom"]) (ps:=[1]) (sc:=(ac cC)) (by exact⟨rfl,by decide +kernel,by decide +kernel,by decide +kernel,by decide +kernel⟩) (bz (mv' 0)) (fun _ _ _ _ _=>(bi (n:=2) (ae (ak 0 (show acf ((["thing","fraction"]:List Str)++(["bottom"]:List Str))from by decide +kernel)) (ae (ak 1 (show acf ((["thing","fraction"]:List Str)++(["bottom"]:List Str))from by decide +kernel)) aV)))) (fun _ _ _ _ _=>cF) (fun _ _ _ _ _=>(af (mc' (mv' 0) (mc' (ad aB (ab (mv' 1) mh') (ad cZ (mv' 2) (ab (mv' 1) mh'))) mn')))))) (mc' (mv' 1) mn'))))))),?_⟩
 case ar=>rintro as Kc ⟨L,B,rfl,_⟩;rfl
 rintro as Kc hl ⟨L,B,rfl,hP,k⟩;refine ai (MSt.mk [some (.imm (.list (prsD L))),none,none,none] [] 0) rfl ?_;walk_at"xs";refine bC (fun i m=>∃a b:Option L2.R,m=MSt.mk [some (.imm (.list (prsD L))),some (.imm (.int (botL (L.take i):Int))),a,b] [] 0) ⟨none,none,rfl⟩ ?_ ?_
 .rintro i d m e hnp ⟨a,b,rfl⟩ D1 hD1 hR1;obtain⟨p,ep,rfl,hi⟩:=gmap e;have hp:=hP.d p (OR ep);have hb:=hP.pre i;walk_at"xs"
  .rfl
  walk_at"xs";refine⟨botL (L.take i),p.2.2,rfl,?_⟩;have g1:0<(botL (L.take i)).gcd p.2.2:=abl _ hp.1;have g2:(botL (L.take i)).gcd p.2.2≤botL (L.take i):=Nat.gcd_le_left _ hb.1;have pB:p.2.2<10^76:=aaE (aeY hP.b0 hp.2.1) hP.b;walk_at"xx";refine g9 (cfdB g1 (aaE g2 (aaY hb.2 (by decide)))) ?_;rw[<-aeR];refine cb (dI (by rw[aaN];exact aaY hb.2 (by decide)) (by rw[aaN];exact aaE (adD _ _) (aaY pB (by decide)))) ?_;have es:botL (L.take (i+1))=botL (L.take i)*(p.2.2/(botL (L.take i)).gcd p.2.2):=by
   rw[acy,ep,<-CW _ _ hp.1];exact wr _ _
  walk_at"xs";refine hD1 _ (show ∃a b:Option L2.R,_=MSt.mk [some (.imm (.list (prsD L))),some (.imm (.int (botL (L.take (i+1)):Int))),a,b] [] 0 from⟨some (.imm p.1),some (.imm (.tuple [.int p.2.1,.int (p.2.2:Int)])),?_⟩);rw[es,aaB];rfl
 .rintro m hnp ⟨a,b,rfl⟩;have ef:L.take (prsD L).length=L:=by unfold prsD;rw[Ge];exact aag
  have bL:1≤botL L/\botL L<10^76:=by have:=hP.pre L.length;rwa[aag]at this
  rw[ef];walk_at"xs";refine bC (fun i m=>∃a b:Option L2.R,m=MSt.mk [a,b,some (.imm (.int (botL L:Int)))] [(onB L).take i] 1) ⟨none,none,rfl⟩ ?_ ?_
  .rintro i d m e hnp ⟨a,b,rfl⟩ D1 hD1 hR1;obtain⟨p,ep,rfl,hi⟩:=gmap e;have hp:=hP.d p (OR ep);have hn:=hP.n;have pB:p.2.2<10^76:=aaE (aeY hP.b0 hp.2.1) hP.b;walk_at"xs"
   .rfl
   walk_at"xs";refine g9 (cfdB hp.1 (aaY pB (by decide))) ?_;rw[<-aeR];refine cb (dI (aaY hp.2.2 (by decide)) (by rw[aaN];exact aaE (adD _ _) (aaY bL.2 (by decide)))) ?_;walk_at"xx";refine⟨_,rfl,by rw[aaK,aaq];omega,hD1 _ ⟨some (.imm p.1),some (.imm (.tuple [.int p.2.1,.int (p.2.2:Int)])),?_⟩⟩;have eo:(onB L)[i]?=some (.tuple [p.1,.int (p.2.1*((botL L/p.2.2:Nat):Int))]):=by unfold onB;rw[aae,ep];rfl
   rw[acy,eo];rfl
  .rintro m hnp ⟨a,b,rfl⟩;have ef2:(onB L).take (prsD L).length=onB L:=by
    have:(prsD L).length=(onB L).length:=by unfold prsD onB;rw[Ge,Ge]
    rw[this];exact aag
   rw[ef2];walk_at"xx";exact k
theorem jg(T:Bl K mg)(D:DefM K mg "place_of_lines" dy ["hall","lines"]):FnM P w K mg base "place_of_lines" 1 2 xK:=by
 refine aU D bI rfl (nN:=5) rfl (by decide) ?ar fun cdv A outer s H E f hr=>⟨_,(mz' (al 2 bI.nd mh')
   (mz' (bt (GJ T.zip (mc' (mv' 1) (mc' (ab (mv' 0) mh') mn'))) (bi (n:=2) (ae (ak 3 bI.nd) (ae (ak 4 bI.nd) aV))) (aa (al 2 bI.nd (ad aM (ad aB (mv' 2) (ad aM (ab (mv' 4) mh') mh')) (mv' 3)))) aaG)
   (aa (ag (mv' 2))))),?_⟩
 case ar=>rintro as Kc ⟨h,l,rfl,_⟩;rfl
 rintro as Kc hl ⟨h,l,rfl,ho,hL,k⟩;refine ai (MSt.mk [some (.imm (.tuple [.tuple [.int h.a,.int h.b],.tuple (h.ss.map Srv.d),.bool h.mv])),some (.imm (.tuple (natD l))),none,none,none] [] 0) rfl ?_;walk_at"xs";refine⟨true,_,true,_,rfl,rfl,?_⟩;refine fi (fun i m=>∃a b,m=MSt.mk [some (.imm (.tuple [.tuple [.int h.a,.int h.b],.tuple (h.ss.map Srv.d),.bool h.mv])),some (.imm (.tuple (natD l))),some (.imm (.int (M7.placeF 0 (h.rs.take i) (l.take i):Nat))),a,b] [] 0) ⟨none,none,rfl⟩ ?_ ?_
 .rintro i d m e n ⟨a,b,rfl⟩;obtain⟨a1,b1,e1,e2,rfl⟩:=Df e;obtain⟨x,ex,rfl,hi⟩:=gmap e1;obtain⟨s,es,rfl,hj⟩:=gmap e2;have r6:=(ho.ok s (OR es)).r6;rw[M7.placeF_take (Hall.rs_get es) ex];dsimp only[Srv.d];walk_at"xs"
  .rfl
  walk_at"xs";generalize M7.placeF 0 (h.rs.take i) (l.take i)=P;have ec:(P:Int)*((s.r:Int)+1)+(x:Int)=((P*(s.r+1)+x:Nat):Int):=by
   rw[abN,aaB,abN];rfl
  rw[ec];exact⟨_,_,rfl⟩
 .rintro m n ⟨a,b,rfl⟩;have e1:min (natD l).length (h.ss.map Srv.d).length=l.length:=by rw[ah,Ge];have:=hL.1;omega
  rw[e9,e1];have e2:h.rs.take l.length=h.rs:=by rw[hL.1,<-h.rsl];exact aag
  rw[e2,aag];walk_at"xs";exact k
theorem jh(T:Bl K mg)(D:DefM K mg "first_shortest" dh ["lines","order"]):FnM P w K mg base "first_shortest" 1 2 kW:=by
 refine aU D b9 rfl (nN:=4) rfl (by decide) ?ar fun cdv A outer s H E f hr=>⟨_,(mz' (al 2 b9.nd (ab (mv' 1) mh'))
   (mz' (bt (bz (mv' 1)) (ak 3 b9.nd) (aa (bc (av jb (ab (mv' 0) (mv' 3)) (ab (mv' 0) (mv' 2)) (aI _)) (aa (al 2 b9.nd (mv' 3))) ay)) aaG)
   (aa (ag (mv' 2))))),?_⟩
 case ar=>rintro as Kc ⟨l,o,rfl,_⟩;rfl
 rintro as Kc hl ⟨l,o,rfl,hO,k⟩;obtain⟨o0,os,rfl,h0⟩:=hO.cons;refine ai (MSt.mk [some (.imm (.tuple (natD l))),some (.imm (.tuple (natD (o0::os)))),none,none] [] 0) rfl ?_;walk_at"xs";refine aD (aA (j:=0) (aE rfl)) ?_;walk_at"xs";refine fi (fun i m=>∃a,m=MSt.mk [some (.imm (.tuple (natD l))),some (.imm (.tuple (natD (o0::os)))),some (.imm (.int (M7.pick (bj l) o0 ((o0::os).take i):Nat))),a] [] 0) ⟨none,rfl⟩ ?_ ?_
 .rintro i d m e n ⟨a,rfl⟩;obtain⟨j,ej,rfl,hi⟩:=gmap e;have hj:=hO.lt j (OR ej);have hb:M7.pick (bj l) o0 ((o0::os).take i)<l.length:=fx hO i;have et:(o0::os).take (i+1)=(o0::os).take i++[j]:=by rw[aa1,ej];rfl
  rw[et,M7.pick_app];generalize M7.pick (bj l) o0 ((o0::os).take i)=b at hb;walk_at"xs";refine aD (aA (aE (getN rfl hj))) ?_;walk_at"xs";refine aD (aA (aE (getN rfl hb))) ?_;walk_at"xs";refine aG (fun h=>?_) (fun h=>?_)
  .walk_at"xs";rw[if_pos (show bj l j b=true from decide_eq_true (by omega))];exact⟨_,rfl⟩
  .walk_at"xs";rw[if_neg (show ¬bj l j b=true by unfold bj;rw[decide_eq_true_eq];omega)];exact⟨_,rfl⟩
 .rintro m n ⟨a,rfl⟩;rw[ah,aag];walk_at"xs";exact k
theorem vQ(T:Bl K mg)(D:DefM K mg "wait_at" mH ["hall","lines","line"]):FnM P w K mg base "wait_at" 1 3 Cg:=by
 refine aU D jX rfl (nN:=5) rfl (by decide) ?ar fun cdv A outer s H E f hr=>⟨_,(mz' (cz (ab (ab (ab (mv' 0) mh') (mv' 2)) mh') (bi (n:=2) (ae (ak 3 jX.nd) (ae (ak 4 jX.nd) aV))))
   (aa (ag (af (mc' (ad aB (ad aM (ab (mv' 1) (mv' 2)) mh') (mv' 4)) (mc' (mv' 3) mn')))))),?_⟩
 case ar=>rintro as Kc ⟨h,l,j,rfl,_⟩;rfl
 rintro as Kc hl ⟨h,l,j,rfl,ho,hL,hj,k⟩;obtain⟨s,es,ea,eb,hs⟩:=h.srv hj;have so:=ho.ok s hs;have b2:=so.b2;rw[ea,eb]at k;have el:=getN hL.1 hj;refine ai (MSt.mk [some (.imm (.tuple [.tuple [.int h.a,.int h.b],.tuple (h.ss.map Srv.d),.bool h.mv])),some (.imm (.tuple (natD l))),some (.imm (.int (j:Int))),none,none] [] 0) rfl ?_;walk_at"xs";refine aD (d:=s.d) (aA (by rw[aae,es];rfl)) ?_;dsimp only[Srv.d];walk_at"xs"
 .rfl
 walk_at"xs";refine aD (aA (aE el)) ?_;walk_at"xs";have e:(((l.getD j 0:Nat):Int)+1)*(s.b:Int)=(((l.getD j 0+1)*s.b:Nat):Int):=by
  rw[aaB,abN];rfl
 rw[e];exact k
theorem jf(T:Bl K mg)(D:DefM K mg "first_quickest" dm ["hall","lines","order"])(Gwait_at:FnM P w K mg base "wait_at" 1 3 Cg)(Gis_less:FnM P w K mg base "is_less" 1 2 BC):FnM P w K mg base "first_quickest" 2 3 ix:=by
 refine aU D bv rfl (nN:=7) rfl (by decide) ?ar fun cdv A outer s H E f hr=>⟨_,(mz' (al 3 bv.nd (ab (mv' 2) mh'))
   (mz' (al 4 bv.nd (mf' Gwait_at (hr.mono (by decide)) (mc' (mv' 0) (mc' (mv' 1) (mc' (mv' 3) mn')))))
   (mz' (bt (bz (mv' 2)) (ak 5 bv.nd) (mz' (al 6 bv.nd (mf' Gwait_at (hr.mono (by decide)) (mc' (mv' 0) (mc' (mv' 1) (mc' (mv' 5) mn')))))
   (aa (bc (qP (mf' Gis_less (hr.mono (by decide)) (mc' (mv' 6) (mc' (mv' 4) mn')))) (aa (jC (i:=3) (j:=4) bv.nd rfl rfl (by decide) rfl rfl (mc' (mv' 5) (mc' (mv' 6) mn')) rfl)) ay))) aaG)
   (aa (ag (mv' 3)))))),?_⟩
 case ar=>rintro as Kc ⟨h,l,o,rfl,_⟩;rfl
 rintro as Kc hl ⟨h,l,o,rfl,ho,hL,hO,k⟩;obtain⟨o0,os,rfl,h0⟩:=hO.cons;have bd:∀j,j<h.ss.length->(l.getD j 0+1)*h.bn j<1000000000000/\h.an j<1000000000000:=fun j hj=>by
  obtain⟨s,es,ea,eb,hs⟩:=h.srv hj;have so:=ho.ok s hs;have h6:=hL.le ho _ (OR (getN hL.1 hj));rw[ea,eb];have:=so.a2;have:(l.getD j 0+1)*s.b≤7*1000000:=abC (by omega) (by have:=so.b2;omega);omega
 refine ai (MSt.mk [some (.imm h.d),some (.imm (.tuple (natD l))),some (.imm (.tuple (natD (o0::os)))),none,none,none,none] [] 0) rfl ?_;walk_at"xs";refine aD (aA (j:=0) (aE rfl)) ?_;walk_at"xs";refine⟨h,l,o0,rfl,ho,hL,h0,?_⟩;walk_at"xx";refine fi (fun i m=>∃a b,m=MSt.mk [some (.imm h.d),some (.imm (.tuple (natD l))),some (.imm (.tuple (natD (o0::os)))),some (.imm (.int (M7.pick (bH h l) o0 ((o0::os).take i):Nat))),some (.imm (frD ((l.getD (M7.pick (bH h l) o0 ((o0::os).take i)) 0+1)*h.bn (M7.pick (bH h l) o0 ((o0::os).take i)):Nat) (h.an (M7.pick (bH h l) o0 ((o0::os).take i)):Nat))),a,b] [] 0) ⟨none,none,rfl⟩ ?_ ?_
 .rintro i d m e n ⟨a,b,rfl⟩;obtain⟨j,ej,rfl,hi⟩:=gmap e;have hj:=hO.lt j (OR ej);have hb:M7.pick (bH h l) o0 ((o0::os).take i)<h.ss.length:=fx hO i;have et:(o0::os).take (i+1)=(o0::os).take i++[j]:=by rw[aa1,ej];rfl
  rw[et,M7.pick_app];generalize M7.pick (bH h l) o0 ((o0::os).take i)=b at hb;walk_at"xs";refine⟨h,l,j,rfl,ho,hL,hj,?_⟩;walk_at"xx";obtain⟨b1,b2⟩:=bd j hj;obtain⟨b3,b4⟩:=bd b hb;refine⟨_,_,_,_,rfl,b1,b2,b3,b4,?_⟩;walk_at"xx";refine aG (fun q=>?_) (fun q=>?_)
  .walk_at"xs";rw[if_pos (show bH h l j b=true from decide_eq_true q)];exact⟨_,_,rfl⟩
  .walk_at"xs";rw[if_neg (show ¬bH h l j b=true by unfold bH;rw[decide_eq_true_eq];exact q)];exact⟨_,_,rfl⟩
 .rintro m n ⟨a,b,rfl⟩;rw[ah,aag];walk_at"xs";exact k
theorem xl(T:Bl K mg)(D:DefM K mg "sent_to" lu ["hall","rule","stand","order"])(Gfirst_shortest:FnM P w K mg base "first_shortest" 1 2 kW)(Gfirst_quickest:FnM P w K mg base "first_quickest" 2 3 ix)(Gplace_of_lines:FnM P w K mg base "place_of_lines" 1 2 xK):FnM P w K mg base "sent_to" 3 4 jq:=by
 refine aU D ij rfl (nN:=7) rfl (by decide) ?ar fun cdv A outer s H E f hr=>⟨_,(mz' (cz (mv' 2) (bi (n:=2) (ae (ak 4 ij.nd) (ae (ak 5 ij.nd) aV))))
   (mz' (al 6 ij.nd (ab (mv' 1) mh'))
   (mz' (bc (av (bG hr.units) (mv' 6) aC (aI _)) (aa (ag (ab (mv' 3) mh'))) ay)
   (mz' (bc (av (bG hr.units) (mv' 6) aC (aI _)) (aa (ag (mv' 5))) ay)
   (mz' (bc (av (bG hr.units) (mv' 6) aC (aI _)) (aa (ag (mf' Gfirst_shortest (hr.mono (by decide)) (mc' (mv' 4) (mc' (dU (cp fm (mv' 3) c5 (cY mh'))) mn'))))) ay)
   (mz' (bc (av (bG hr.units) (mv' 6) aC (aI _)) (aa (ag (mf' Gfirst_shortest (hr.mono (by decide)) (mc' (mv' 4) (mc' (mv' 3) mn'))))) ay)
   (mz' (bc (av (bG hr.units) (mv' 6) aC (aI _)) (aa (ag (mf' Gfirst_quickest (hr.mono (by decide)) (mc' (mv' 0) (mc' (mv' 4) (mc' (mv' 3) mn')))))) ay)
   (aa (ag (ab (ab (mv' 1) mh') (mf' Gplace_of_lines (hr.mono (by decide)) (mc' (mv' 0) (mc' (mv' 4) mn'))))))))))))),?_⟩
 case ar=>rintro as Kc ⟨h,r,l,t,o,rfl,_⟩;rfl
 rintro as Kc hl ⟨h,r,l,t,o,rfl,ho,hr0,hL,hO,k⟩;have hll:=hL.1;have hO':Ord l.length o:=by rw[hll];exact hO
 cases r with
 |random =>
  refine ai (MSt.mk [some (.imm h.d),some (.imm (.tuple [.str "random"])),some (.imm (.tuple [lnD l,.int (t:Int)])),some (.imm (.tuple (natD o))),none,none,none] [] 0) rfl ?_;walk_at"xs"
  .rfl
  walk_at"xs";refine aG (fun _=>?_) (fun z=>(z rfl).elim);obtain⟨o0,os,rfl,h0⟩:=hO.cons;walk_at"xs";refine aD (aA (j:=0) (aE rfl)) ?_;walk_at"xs";exact k
 |turns =>
  refine ai (MSt.mk [some (.imm h.d),some (.imm (.tuple [.str "turns"])),some (.imm (.tuple [lnD l,.int (t:Int)])),some (.imm (.tuple (natD o))),none,none,none] [] 0) rfl ?_;walk_at"xs"
  .rfl
  walk_at"xs";refine aG (fun z=>absurd z (by decide +kernel)) (fun _=>?_);walk_at"xs";refine aG (fun _=>?_) (fun z=>(z rfl).elim);walk_at"xs";exact k
 | two =>
  refine ai (MSt.mk [some (.imm h.d),some (.imm (.tuple [.str "two"])),some (.imm (.tuple [lnD l,.int (t:Int)])),some (.imm (.tuple (natD o))),none,none,none] [] 0) rfl ?_;walk_at"xs"
  .rfl
  walk_at"xs";refine aG (fun z=>absurd z (by decide +kernel)) (fun _=>?_);walk_at"xs";refine aG (fun z=>absurd z (by decide +kernel)) (fun _=>?_);walk_at"xs";refine aG (fun _=>?_) (fun z=>(z rfl).elim);walk_at"xs";have e:cutD (natD o) none (some 2)=natD (o.take 2):=by
   rw[show(2:Int)=((2:Nat):Int)from rfl,jA];simp[natD]
  rw[e];obtain⟨o0,os,rfl,h0⟩:=hO.cons;refine⟨l,(o0::os).take 2,rfl,⟨by simp,fun k hk=>hO'.lt k (ac6 hk),by rw[aaK];omega⟩,?_⟩;walk_at"xn";exact k
 |least =>
  refine ai (MSt.mk [some (.imm h.d),some (.imm (.tuple [.str "least"])),some (.imm (.tuple [lnD l,.int (t:Int)])),some (.imm (.tuple (natD o))),none,none,none] [] 0) rfl ?_;walk_at"xs"
  .rfl
  walk_at"xs";refine aG (fun z=>absurd z (by decide +kernel)) (fun _=>?_);walk_at"xs";refine aG (fun z=>absurd z (by decide +kernel)) (fun _=>?_);walk_at"xs";refine aG (fun z=>absurd z (by decide +kernel)) (fun _=>?_);walk_at"xs";refine aG (fun _=>?_) (fun z=>(z rfl).elim);walk_at"xs";refine⟨l,o,rfl,hO',?_⟩;walk_at"xn";exact k
 |quick =>
  refine ai (MSt.mk [some (.imm h.d),some (.imm (.tuple [.str "quick"])),some (.imm (.tuple [lnD l,.int (t:Int)])),some (.imm (.tuple (natD o))),none,none,none] [] 0) rfl ?_;walk_at"xs"
  .rfl
  walk_at"xs";refine aG (fun z=>absurd z (by decide +kernel)) (fun _=>?_);walk_at"xs";refine aG (fun z=>absurd z (by decide +kernel)) (fun _=>?_);walk_at"xs";refine aG (fun z=>absurd z (by decide +kernel)) (fun _=>?_);walk_at"xs";refine aG (fun z=>absurd z (by decide +kernel)) (fun _=>?_);walk_at"xs";refine aG (fun _=>?_) (fun z=>(z rfl).elim);walk_at"xs";refine⟨h,l,o,rfl,ho,hL,hO,?_⟩;walk_at"xn";exact k
 |told ps =>
  refine ai (MSt.mk [some (.imm h.d),some (.imm (.tuple [.str "told",.tuple (natD ps)])),some (.imm (.tuple [lnD l,.int (t:Int)])),some (.imm (.tuple (natD o))),none,none,none] [] 0) rfl ?_;walk_at"xs"
  .rfl
  walk_at"xs";refine aG (fun z=>absurd z (by decide +kernel)) (fun _=>?_);walk_at"xs";refine aG (fun z=>absurd z (by decide +kernel)) (fun _=>?_);walk_at"xs";refine aG (fun z=>absurd z (by decide +kernel)) (fun _=>?_);walk_at"xs";refine aG (fun z=>absurd z (by decide +kernel)) (fun _=>?_);walk_at"xs";refine aG (fun z=>absurd z (by decide +kernel)) (fun _=>?_);walk_at"xs";refine⟨h,l,rfl,ho,hL,?_⟩;walk_at"xn";have hlt:M7.placeF 0 h.rs l<ps.length:=by rw[hr0.1,M7.allR_cnt];exact M7.place_lt hL.fits
  refine aD (aA (aE (getN rfl hlt))) ?_;exact k
theorem pI(T:Bl K mg)(D:DefM K mg "all_orders" fg ["hall"]):FnM P w K mg base "all_orders" 1 1 Ce:=by
 refine aU D cI rfl (nN:=4) rfl (by decide) ?ar fun cdv A outer s H E f hr=>⟨_,(mz' (cR (i:=1) cI.nd rfl (adl rfl) (au bg (by rfl) T.len cK (mc' (ab (mv' 0) mh') mn')))
   (mz' (al 2 cI.nd (bO (mc' (af mn') mn')))
   (mz' (bt (bJ (by rfl) T.range (mc' (mv' 1) mn')) (ak 3 cI.nd) (aa (vW (i:=2) (own:=["ahead","line"]) (fr:=["many"]) (ps:=[1]) (sc:=(ac fg)) (by exact⟨rfl,by decide +kernel,by decide +kernel,by decide +kernel,by decide +kernel⟩) cI.nd rfl rfl (bz (mv' 2)) (fun _ _ _ _ _=>(ak 0 (show acf ((["ahead","line"]:List Str)++(["many"]:List Str))from by decide +kernel))) (fun _ _ _ _ _=>cF) (fun _ _ _ _ _=>(bJ (by rfl) T.range (mc' (mv' 2) mn'))) (fun _ _ _ _ _=>(ak 1 (show acf ((["ahead","line"]:List Str)++(["many"]:List Str))from by decide +kernel))) (fun _ _ _ _ _=>(sY (av (jx hr.units) (mv' 1) (mv' 0) (by with_unfolding_all rfl)))) (fun _ _ _ _ _=>(ad aM (mv' 0) (af (mc' (mv' 1) mn')))))) aaG)
   (aa (ag (mv' 2)))))),?_⟩
 case ar=>rintro as Kc ⟨h,rfl,_⟩;rfl
 rintro as Kc hl ⟨h,rfl,ho,k⟩;have n1:=ho.n1;have n4:=ho.n4;refine ai (MSt.mk [some (.imm (.tuple [.tuple [.int h.a,.int h.b],.tuple (h.ss.map Srv.d),.bool h.mv])),none,none,none] [] 0) rfl ?_;walk_at"xs";refine ca ?_;walk_at"xx";rw[Ge];refine⟨by omega,by omega,?_⟩;rw[aaX];refine fi (fun i m=>∃a,m=MSt.mk [some (.imm (.tuple [.tuple [.int h.a,.int h.b],.tuple (h.ss.map Srv.d),.bool h.mv])),some (.imm (.int (h.ss.length:Nat))),some (.obj 0),a] [(ordK h.ss.length i).map lnD] 0) ⟨none,rfl⟩ ?_ ?_
 .rintro i d m e n ⟨a,rfl⟩;obtain⟨hi,rfl⟩:=bX e;obtain⟨hk1,hk2⟩:=ci h.ss.length n4 i (by omega);have hk3:=gc h.ss.length n4 i (by omega);rw[show ordK h.ss.length (i+1)=gl h.ss.length (ordK h.ss.length i)from rfl];generalize ordK h.ss.length i=os at hk1 hk2 hk3;walk_at"xs";walk_at"xn";refine iJ (fun z m=>∃b c,m=MSt.mk [b,c,some (.imm (.int (h.ss.length:Nat)))] [os.map lnD,(gl h.ss.length (os.take z)).map lnD] 2) ⟨none,none,rfl⟩ ?_ ?_ ?_
  .rintro z m ⟨b,c,rfl⟩;rfl
  .rintro z d m ez nz ⟨b,c,rfl⟩;obtain⟨l,el,rfl,hz⟩:=gmap ez;obtain⟨hl4,hl3⟩:=hk2 l (OR el);have hzl:=(aad.mp el).1;have hz24:=hk3 z (by omega);walk_at"xs";refine⟨by omega,by omega,?_⟩;rw[aaX];obtain⟨G,hG⟩:∃G:Nat->List (List Nat),G=fun y=>gl h.ss.length (os.take z)++((aaI y).filter fun q=>!l.contains q).map fun q=>l++[q]:=⟨_,rfl⟩;have hG0:G 0=gl h.ss.length (os.take z):=by rw[hG];simp
   have hGn:G h.ss.length=gl h.ss.length (os.take (z+1)):=by rw[hG,lb el]
   have hGs:∀y,G (y+1)=G y++([y].filter fun q=>!l.contains q).map fun q=>l++[q]:=fun y=>by
    rw[hG];show _++((aaI (y+1)).filter _).map _=_;rw[ac3,ahx,aaQ,acB]
   have hGl:∀y,y≤4->(G y).length≤28:=fun y hy=>by
    rw[hG];dsimp only;rw[aat,Ge];have:=aeI (fun q=>!l.contains q) (aaI y);rw[aa2]at this;omega
   clear hG;rw[<-hG0];refine bC (fun y m=>∃c,m=MSt.mk [some (.imm (lnD l)),c,some (.imm (.int (h.ss.length:Nat)))] [os.map lnD,(G y).map lnD] 2) ⟨c,rfl⟩ ?_ ?_
   .rintro y d m ey ny ⟨c,rfl⟩ D1 hD1 hR1;obtain⟨hy,rfl⟩:=bX ey;rw[show(0:Int)+(y:Int)=((y:Nat):Int) by omega];have hlen:=hGl y (by omega);have hin:(natD l).any (fun x=>aar x (.int (y:Int)))=l.contains y:=by
     rw[acE,agd,agI];constructor
     .rintro⟨x,hx,ex⟩;obtain⟨w,hw,rfl⟩:=aaA.mp hx;rw[bW]at ex;rw[<-of_decide_eq_true ex];exact hw
     .intro hm;exact⟨_,aaA.mpr ⟨y,hm,rfl⟩,by rw[bW];exact decide_eq_true rfl⟩
    walk_at"xs";refine x_in (d:=.int (y:Int)) (ds:=natD l) rfl (.inr rfl) (d8 _) (fe l) (by decide) ?_;walk_at"xs";rw[hin]
    cases hc:l.contains y with
    |true =>
     refine ga ?_;walk_at"xs";refine hD1 _ ⟨some (.imm (.int (y:Int))),?_⟩;rw[hGs,show([y].filter fun q=>!l.contains q)=[] by rw[aeS,hc];rfl,abJ,abb];rfl
    |false =>
     refine jy ?_;walk_at"xs";refine jI (by rw[aaq,ah];simp;omega) ?_;walk_at"xs";refine⟨_,rfl,by rw[aaq,Ge];omega,hD1 _ ⟨some (.imm (.int (y:Int))),?_⟩⟩;rw[hGs,show([y].filter fun q=>!l.contains q)=[y] by rw[aeS,hc];rfl,aaQ];simp[lnD,natD,MSt.setV]
   .rintro m ny ⟨c,rfl⟩;rw[aF,hGn];walk_at"xs";exact⟨_,_,rfl⟩
  .rintro m nz ⟨b,c,rfl⟩;rw[Ge,aag];walk_at"xn";refine kU (k:=0) rfl (aac _) (fun j hj=>?_) ⟨_,rfl⟩
   match j with
   |0|1|3=>exact fun z=>by cases z
   |2=>exact(hj rfl).elim
   |n+4=>exact fun z=>by cases z
 .rintro m n ⟨a,rfl⟩;rw[aF];walk_at"xs";exact k
theorem rl(T:Bl K mg)(D:DefM K mg "with_more" iM ["lines","line","more"]):FnM P w K mg base "with_more" 1 3 i7:=by
 refine aU D qq rfl (nN:=3) rfl (by decide) ?ar fun cdv A outer s H E f hr=>⟨_,(aa (ag (ad aM (ad aM (cp fm (mv' 0) c5 (cY (mv' 1))) (af (mc' (ad aM (ab (mv' 0) (mv' 1)) (mv' 2)) mn'))) (cp fm (mv' 0) (cY (ad aM (mv' 1) mh')) c5)))),?_⟩
 case ar=>rintro as Kc ⟨l,j,d,x,rfl,_⟩;rfl
 rintro as Kc hl ⟨l,j,d,x,rfl,hj,hl4,hx,k⟩;refine ai (MSt.mk [some (.imm (.tuple (natD l))),some (.imm (.int (j:Int))),some (.imm (.int d))] [] 0) rfl ?_;walk_at"xs";refine aD (aA (aE (getN rfl hj))) ?_;walk_at"xs";rw[hx,jA];refine jI (by rw[aaq,aaK,ah];simp;omega) ?_;walk_at"xs";rw[show(j:Int)+1=((j+1:Nat):Int)from rfl,jY];refine jI (by rw[aaq,aat,aaK,adT,ah];simp;omega) ?_;walk_at"xs";have e:(natD l).take j++[.int (x:Int)]++(natD l).drop (j+1)=natD (l.set j x):=by
  rw[<-ud,aeo,if_pos (by rw[ah];exact hj)];simp
 rw[e];exact k
theorem vz(T:Bl K mg)(D:DefM K mg "come_to" na ["hall","lines","line"])(Gwith_more:FnM P w K mg base "with_more" 1 3 i7):FnM P w K mg base "come_to" 2 3 BJ:=by
 refine aU D vK rfl (nN:=3) rfl (by decide) ?ar fun cdv A outer s H E f hr=>⟨_,(mz' (bc (av (bG hr.units) (ab (mv' 1) (mv' 2)) (ab (ab (ab (mv' 0) mh') (mv' 2)) mh') (aI _)) (aa (ag (af (mc' (mv' 1) (mc' aC mn'))))) ay)
   (aa (ag (af (mc' (mf' Gwith_more (hr.mono (by decide)) (mc' (mv' 1) (mc' (mv' 2) (mc' mh' mn')))) (mc' aC mn')))))),?_⟩
 case ar=>rintro as Kc ⟨h,l,j,rfl,_⟩;rfl
 rintro as Kc hl ⟨h,l,j,rfl,ho,hL,hj,k⟩;have hll:=hL.1;have n4:=ho.n4;obtain⟨s,es,ea,eb,hs⟩:=h.srv hj;have er:h.rn j=s.r:=aW (Hall.rs_get es);refine ai (MSt.mk [some (.imm (.tuple [.tuple [.int h.a,.int h.b],.tuple (h.ss.map Srv.d),.bool h.mv])),some (.imm (.tuple (natD l))),some (.imm (.int (j:Int)))] [] 0) rfl ?_;walk_at"xs";refine aD (aA (aE (getN hll hj))) ?_;walk_at"xs";refine aD (d:=s.d) (aA (by rw[aae,es];rfl)) ?_;dsimp only[Srv.d];walk_at"xs";refine aG (fun z=>?_) (fun z=>?_)
 .walk_at"xs";have e:d6 h l j=(l,.away):=if_pos (by rw[er];omega);rw[e]at k;exact k
 .walk_at"xs";refine⟨l,j,1,l.getD j 0+1,rfl,by omega,by omega,rfl,?_⟩;walk_at"xx";have e:d6 h l j=(l.set j (l.getD j 0+1),.taken):=if_neg (by rw[er];omega);rw[e]at k;exact k
theorem ya(T:Bl K mg)(D:DefM K mg "done_at" nq ["lines","line"])(Gwith_more:FnM P w K mg base "with_more" 1 3 i7):FnM P w K mg base "done_at" 2 2 B9:=by
 refine aU D wn rfl (nN:=2) rfl (by decide) ?ar fun cdv A outer s H E f hr=>⟨_,(mz' (bc (av (bG hr.units) (ab (mv' 0) (mv' 1)) mh' (aI _)) (aa (ag (af (mc' (mv' 0) (mc' aC mn'))))) ay)
   (aa (ag (af (mc' (mf' Gwith_more (hr.mono (by decide)) (mc' (mv' 0) (mc' (mv' 1) (mc' (kh gq mh') mn')))) (mc' aC mn')))))),?_⟩
 case ar=>rintro as Kc ⟨l,j,rfl,_⟩;rfl
 rintro as Kc hl ⟨l,j,rfl,hj,hl4,k⟩;refine ai (MSt.mk [some (.imm (.tuple (natD l))),some (.imm (.int (j:Int)))] [] 0) rfl ?_;walk_at"xs";refine aD (aA (aE (getN rfl hj))) ?_;walk_at"xs";refine aG (fun z=>?_) (fun z=>?_)
 .walk_at"xs";have e:di l j=(l,.none):=if_pos (by omega);rw[e]at k;exact k
 .walk_at"xs";refine⟨l,j,-1,l.getD j 0-1,rfl,hj,hl4,by omega,?_⟩;walk_at"xx";have e:di l j=(l.set j (l.getD j 0-1),.served):=if_neg (by omega);rw[e]at k;exact k
theorem o3(T:Bl K mg)(D:DefM K mg "next_shift" gC ["hall","lines"]):FnM P w K mg base "next_shift" 1 2 vD:=by
 refine aU D pG rfl (nN:=2) rfl (by decide) ?ar fun cdv A outer s H E f hr=>⟨_,(mz' (bc (EW.pt (wf (D8 (qP (ab (mv' 0) mh'))) (wf (av (jx hr.units) mh' (mv' 1) (by with_unfolding_all rfl)) (x9 (av jb (au (fX rfl) (by rfl) T.max tu (mc' (mv' 1) mn')) mh' (aI _)))))) (aa (ag rf)) ay)
   (aa (ag (af (mc' (rJ acv adg (f8 hr.units) (mv' 1) (mc' (au (fX rfl) (by rfl) T.max tu (mc' (mv' 1) mn')) mn')) (mc' (rJ acv adg (f8 hr.units) (mv' 1) (mc' mh' mn')) mn')))))),?_⟩
 case ar=>rintro as Kc ⟨h,l,rfl,_⟩;rfl
 rintro as Kc hl ⟨h,l,rfl,hne,hl4,k⟩;have hints:du (natD l)=some (l.map fun(x:Nat)=>(x:Int)):=by
  have:=fj (l.map fun(x:Nat)=>(x:Int));rwa[abq]at this
 have hnei:(l.map fun(x:Nat)=>(x:Int))≠[]:=fun z=>hne (ahc.mp z);have hmax:∀x:Int,x∈(l.map fun(x:Nat)=>(x:Int))->(∀y∈(l.map fun(x:Nat)=>(x:Int)),y≤x)->x=(maxN l:Int):=fun x hx hy=>by
  obtain⟨n,hn,rfl⟩:=aaA.mp hx;have h1:=rB n hn;have h2:=hy (maxN l:Int) (aaA.mpr ⟨maxN l,h9 hne,rfl⟩);omega
 have hin:(natD l).any (fun y=>aar y (.int 0))=decide (0∈l):=by
  rw[acE];rw[agd,decide_eq_true_eq];constructor
  .rintro⟨y,hy,e⟩;obtain⟨x,hx,rfl⟩:=aaA.mp hy;have e':=bW x 0;rw[show((0:Nat):Int)=0 from rfl,e]at e';have:x=0:=of_decide_eq_true e'.symm;rw[<-this];exact hx
  .intro h0;exact⟨.int 0,aaA.mpr ⟨0,h0,rfl⟩,bW 0 0⟩
 refine ai (MSt.mk [some (.imm (.tuple [.tuple [.int h.a,.int h.b],.tuple (h.ss.map Srv.d),.bool h.mv])),some (.imm (.tuple (natD l)))] [] 0) rfl ?_;walk_at"xs"
 cases hmv:h.mv with
 |false =>
  refine jy ?_;walk_at"xs";have e:dA h l=none:=if_neg (by rw[hmv];exact fun z=>by cases z.1);rw[e]at k;exact k
 | true =>
  refine ga ?_;walk_at"xs";refine x_in (d:=.int 0) (ds:=natD l) rfl (.inr rfl) (d8 0) (fe l) (by decide) ?_;walk_at"xs";rw[hin]
  by_cases h0:0∈l
  .rw[decide_eq_true h0];refine ga ?_;walk_at"xs";refine ua rfl hints hnei fun x hx hy=>?_;rw[hmax x hx hy];walk_at"xs";refine aG (fun z=>?_) (fun z=>?_)
   .walk_at"xs";have e:dA h l=none:=if_neg (fun q=>by have:=q.2.2;omega);rw[e]at k;exact k
   .walk_at"xs";refine ua rfl hints hnei fun x hx hy=>?_;rw[hmax x hx hy];have s1:=fO (h9 hne);have s0:=fO h0;walk_at"xs";refine ju (j:=idx l (maxN l)) (k':=0) (d8 _) (fe l) (by decide) (aE s1.1) (by rw[bW];exact decide_eq_true rfl) (fun i y hi hy=>?_) ?_
    .obtain⟨z,ez,rfl,_⟩:=gmap hy;rw[bW];exact decide_eq_false (s1.2 i z hi ez)
    walk_at"xs";refine ju (j:=idx l 0) (k':=0) (d8 _) (fe l) (by decide) (aE s0.1) (bW 0 0) (fun i y hi hy=>?_) ?_
    .obtain⟨z',ez,rfl,_⟩:=gmap hy;have:=bW z' 0;rw[show((0:Nat):Int)=0 from rfl]at this;rw[this];exact decide_eq_false (s0.2 i z' hi ez)
    walk_at"xs";have e:dA h l=some (idx l (maxN l),idx l 0):=if_pos ⟨hmv,h0,by omega⟩;rw[e]at k;exact k
  .rw[decide_eq_false h0];refine jy ?_;walk_at"xs";have e:dA h l=none:=if_neg (fun q=>h0 q.2.1);rw[e]at k;exact k
theorem v5(T:Bl K mg)(D:DefM K mg "settled" mi ["hall","lines"])(Gnext_shift:FnM P w K mg base "next_shift" 1 2 vD)(Gwith_more:FnM P w K mg base "with_more" 1 3 i7):FnM P w K mg base "settled" 2 2 nK:=by
 refine aU D gL rfl (nN:=3) rfl (by decide) ?ar fun cdv A outer s H E f hr=>⟨_,(mz' (al 2 gL.nd (mf' Gnext_shift (hr.mono (by decide)) (mc' (mv' 0) (mc' (mv' 1) mn'))))
   (mz' (gW (av ux (mv' 2) rf (aI _)) (mz' (al 1 gL.nd (mf' Gwith_more (hr.mono (by decide)) (mc' (mf' Gwith_more (hr.mono (by decide)) (mc' (mv' 1) (mc' (ab (mv' 2) mh') (mc' (kh gq mh') mn')))) (mc' (ab (mv' 2) mh') (mc' mh' mn')))))
   (aa (al 2 gL.nd (mf' Gnext_shift (hr.mono (by decide)) (mc' (mv' 0) (mc' (mv' 1) mn')))))) aaG)
   (aa (ag (mv' 1))))),?_⟩
 case ar=>rintro as Kc ⟨h,l,rfl,_⟩;rfl
 rintro as Kc hl ⟨h,l,rfl,hne,hl4,k⟩;refine ai (MSt.mk [some (.imm h.d),some (.imm (lnD l)),none] [] 0) rfl ?_;walk_at"xs";refine⟨h,l,rfl,hne,hl4,?_⟩;walk_at"xx";refine mt (fun n m=>∃l':List Nat,m=MSt.mk [some (.imm h.d),some (.imm (lnD l')),some (.imm (optP (dA h l')))] [] 0/\n=l'.count 0/\cQ h n l'=dn h l/\l'≠[]/\l'.length≤1000) (l.count 0) ⟨l,rfl,rfl,rfl,hne,hl4⟩ ?_;rintro n m hn ⟨l',rfl,rfl,hs,hne',hl'⟩;walk_at"xs"
 cases e:dA h l' with
 |none =>
  refine ga ?_;walk_at"xs";rw[ja e]at hs;rw[<-hs]at k;exact k
 | some p =>
  refine jy ?_;obtain⟨es,l1,l2,hc,hlen⟩:=iG e;obtain⟨m0,m1,m2,m3,m4⟩:=fU e;have g1:l'.getD p.1 0=maxN l':=aW m1;have g2:(l'.set p.1 (maxN l'-1)).getD p.2 0=0:=aW (by rw[aaM m4];exact m3);dsimp only[optP];walk_at"xs";refine⟨l',p.1,-1,maxN l'-1,rfl,l1,hl',by omega,?_⟩;walk_at"xx";refine⟨l'.set p.1 (maxN l'-1),p.2,1,1,rfl,by rw[abo];exact l2,by rw[abo];exact hl',by omega,?_⟩;rw[<-es];walk_at"xx";have hne2:cc l' p≠[]:=fun z=>by
   rw[z]at hlen;exact hne' (aa7 hlen.symm)
  refine⟨h,cc l' p,rfl,hne2,by omega,?_⟩;walk_at"xx";refine⟨(cc l' p).count 0,by omega,cc l' p,rfl,rfl,?_,hne2,by omega⟩;rw[<-hs,<-hc];show _=cQ h ((cc l' p).count 0+1) l';simp only[cQ,e]
theorem mF(T:Bl K mg)(D:DefM K mg "turn_behind" fH ["hall","rule","turn"]):FnM P w K mg base "turn_behind" 1 3 yI:=by
 refine aU D nw rfl (nN:=3) rfl (by decide) ?ar fun cdv A outer s H E f hr=>⟨_,(mz' (bc (av (bG hr.units) (ab (mv' 1) mh') aC (aI _)) (aa (ag (ad cN (ad aM (mv' 2) mh') (au bg (by rfl) T.len cK (mc' (ab (mv' 0) mh') mn'))))) ay)
   (aa (ag (mv' 2)))),?_⟩
 case ar=>rintro as Kc ⟨h,r,t,rfl,_⟩;rfl
 rintro as Kc hl ⟨h,r,t,rfl,ho,k⟩;have n1:=ho.n1;refine ai (MSt.mk [some (.imm (.tuple [.tuple [.int h.a,.int h.b],.tuple (h.ss.map Srv.d),.bool h.mv])),some (.imm r.d),some (.imm (.int (t:Int)))] [] 0) rfl ?_;walk_at"xs";refine Dm r.dc (aA (j:=0) rfl) ?_;walk_at"xs";refine aG (fun z=>?_) (fun z=>?_)
 .have hr:r = .turns:=by cases r<;>first|rfl|exact absurd z (by decide +kernel)|exact absurd (show("told" : Str) = "turns" from z) (by decide +kernel)
  subst hr;walk_at"xs";refine Fe (by rw[Ge];omega) ?_;rw[Ge];exact k
 .walk_at"xs";have e:p8 h r t=t:=by cases r<;>first|rfl|exact absurd rfl z
  rw[e]at k;exact k
theorem yt(T:Bl K mg)(D:DefM K mg "line_of" lQ ["hall","rule","stand","move"])(Gsent_to:FnM P w K mg base "sent_to" 3 4 jq):FnM P w K mg base "line_of" 4 4 sw:=by
 refine aU D vt rfl (nN:=4) rfl (by decide) ?ar fun cdv A outer s H E f hr=>⟨_,(mz' (bc (av (bG hr.units) (ab (mv' 3) mh') aC (aI _)) (aa (ag (mf' Gsent_to (hr.mono (by decide)) (mc' (mv' 0) (mc' (mv' 1) (mc' (mv' 2) (mc' (ab (mv' 3) mh') mn'))))))) ay)
   (mz' (bc (av (bG hr.units) (ab (mv' 3) mh') aC (aI _)) (aa (ag (ab (mv' 3) mh'))) ay)
   (aa (ag rf)))),?_⟩
 case ar=>rintro as Kc ⟨h,r,l,t,mv,rfl,_⟩;rfl
 rintro as Kc hl ⟨h,r,l,t,mv,rfl,ho,hr0,hL,hm,k⟩
 cases mv with
 |come o =>
  refine ai (MSt.mk [some (.imm h.d),some (.imm r.d),some (.imm (stD l t)),some (.imm (.tuple [.str "come",lnD o]))] [] 0) rfl ?_;walk_at"xs";refine aG (fun _=>?_) (fun z=>(z rfl).elim);walk_at"xs";refine⟨h,r,l,t,o,rfl,ho,hr0,hL,hm,?_⟩;walk_at"xn";exact k
 |done j =>
  refine ai (MSt.mk [some (.imm h.d),some (.imm r.d),some (.imm (stD l t)),some (.imm (.tuple [.str "done",.int (j:Int)]))] [] 0) rfl ?_;walk_at"xs";refine aG (fun z=>absurd z (by decide +kernel)) (fun _=>?_);walk_at"xs";refine aG (fun _=>?_) (fun z=>(z rfl).elim);walk_at"xs";exact k
 |still =>
  refine ai (MSt.mk [some (.imm h.d),some (.imm r.d),some (.imm (stD l t)),some (.imm (.tuple [.str "still"]))] [] 0) rfl ?_;walk_at"xs";refine aG (fun z=>absurd z (by decide +kernel)) (fun _=>?_);walk_at"xs";refine aG (fun z=>absurd z (by decide +kernel)) (fun _=>?_);walk_at"xs";exact k
theorem uI(T:Bl K mg)(D:DefM K mg "moved_on" jW ["hall","rule","stand","move"])(Gline_of:FnM P w K mg base "line_of" 4 4 sw)(Gcome_to:FnM P w K mg base "come_to" 2 3 BJ)(Gturn_behind:FnM P w K mg base "turn_behind" 1 3 yI)(Gdone_at:FnM P w K mg base "done_at" 2 2 B9)(Gsettled:FnM P w K mg base "settled" 2 2 nK):FnM P w K mg base "moved_on" 5 4 xu:=by
 refine aU D bM rfl (nN:=8) rfl (by decide) ?ar fun cdv A outer s H E f hr=>⟨_,(mz' (cz (mv' 2) (bi (n:=2) (ae (ak 4 bM.nd) (ae (ak 5 bM.nd) aV))))
   (mz' (al 6 bM.nd aC)
   (mz' (al 7 bM.nd (mf' Gline_of (hr.mono (by decide)) (mc' (mv' 0) (mc' (mv' 1) (mc' (mv' 2) (mc' (mv' 3) mn'))))))
   (mz' (bc (av (bG hr.units) (ab (mv' 3) mh') aC (aI _)) (mz' (cz (mf' Gcome_to (hr.mono (by decide)) (mc' (mv' 0) (mc' (mv' 4) (mc' (mv' 7) mn')))) (bi (n:=2) (ae (ak 4 bM.nd) (ae (ak 6 bM.nd) aV))))
   (aa (al 5 bM.nd (mf' Gturn_behind (hr.mono (by decide)) (mc' (mv' 0) (mc' (mv' 1) (mc' (mv' 5) mn'))))))) (aa (bc (av (bG hr.units) (ab (mv' 3) mh') aC (aI _)) (aa (cz (mf' Gdone_at (hr.mono (by decide)) (mc' (mv' 4) (mc' (mv' 7) mn'))) (bi (n:=2) (ae (ak 4 bM.nd) (ae (ak 6 bM.nd) aV))))) ay)))
   (aa (ag (af (mc' (af (mc' (mf' Gsettled (hr.mono (by decide)) (mc' (mv' 0) (mc' (mv' 4) mn'))) (mc' (mv' 5) mn'))) (mc' (mv' 6) mn'))))))))),?_⟩
 case ar=>rintro as Kc ⟨h,r,l,t,mv,rfl,_⟩;rfl
 rintro as Kc hl ⟨h,r,l,t,mv,rfl,ho,hr0,hL,hm,ht,k⟩;have hll:=hL.1;have n1:=ho.n1;have n4:=ho.n4;have ne:∀l':List Nat,l'.length=l.length->l'≠[]:=fun l' e z=>by rw[z]at e;simp at e;omega
 cases mv with
 |come o =>
  refine ai (MSt.mk [some (.imm h.d),some (.imm r.d),some (.imm (.tuple [lnD l,.int (t:Int)])),some (.imm (.tuple [.str "come",lnD o])),none,none,none,none] [] 0) rfl ?_;walk_at"xs"
  .rfl
  walk_at"xs";refine⟨h,r,l,t,.come o,rfl,ho,hr0,hL,hm,?_⟩;dsimp only[zr];walk_at"xx";refine aG (fun _=>?_) (fun z=>(z rfl).elim);walk_at"xs";refine⟨h,l,sent h r l t o,rfl,ho,hL,qi ho hr0 hL hm ht,?_⟩;walk_at"xn";dsimp only[lwD];walk_at"xs"
  .rfl
  walk_at"xs";refine⟨h,r,t,rfl,ho,?_⟩;walk_at"xx";have hlen:(d6 h l (sent h r l t o)).1.length=l.length:=by unfold d6;split<;>simp
  refine⟨h,_,rfl,ne _ hlen,by omega,?_⟩;walk_at"xx";exact k
 |done j =>
  refine ai (MSt.mk [some (.imm h.d),some (.imm r.d),some (.imm (.tuple [lnD l,.int (t:Int)])),some (.imm (.tuple [.str "done",.int (j:Int)])),none,none,none,none] [] 0) rfl ?_;walk_at"xs"
  .rfl
  walk_at"xs";refine⟨h,r,l,t,.done j,rfl,ho,hr0,hL,hm,?_⟩;dsimp only[zr];walk_at"xx";refine aG (fun z=>absurd z (by decide +kernel)) (fun _=>?_);walk_at"xs";refine aG (fun _=>?_) (fun z=>(z rfl).elim);walk_at"xs";refine⟨l,j,rfl,by rw[hll];exact hm,by omega,?_⟩;walk_at"xn";dsimp only[lwD];walk_at"xs"
  .rfl
  walk_at"xs";have hlen:(di l j).1.length=l.length:=by unfold di;split<;>simp
  refine⟨h,_,rfl,ne _ hlen,by omega,?_⟩;walk_at"xx";exact k
 |still =>
  refine ai (MSt.mk [some (.imm h.d),some (.imm r.d),some (.imm (.tuple [lnD l,.int (t:Int)])),some (.imm (.tuple [.str "still"])),none,none,none,none] [] 0) rfl ?_;walk_at"xs"
  .rfl
  walk_at"xs";refine⟨h,r,l,t,.still,rfl,ho,hr0,hL,hm,?_⟩;dsimp only[zr];walk_at"xx";refine aG (fun z=>absurd z (by decide +kernel)) (fun _=>?_);walk_at"xs";refine aG (fun z=>absurd z (by decide +kernel)) (fun _=>?_);walk_at"xs";refine⟨h,l,rfl,ne _ rfl,by omega,?_⟩;walk_at"xx";exact k
theorem ng(T:Bl K mg)(D:DefM K mg "move_shares" dH ["hall"])(Gall_orders:FnM P w K mg base "all_orders" 1 1 Ce)(Gdivided:FnM P w K mg base "divided" 3 2 Jy)(Gtaken_off:FnM P w K mg base "taken_off" 3 2 IA):FnM P w K mg base "move_shares" 4 1 sd:=by
 refine aU D ba rfl (nN:=10) rfl (by decide) ?ar fun cdv A outer s H E f hr=>⟨_,(mz' (cz (mv' 0) (bi (n:=3) (ae (ak 1 ba.nd) (ae (ak 2 ba.nd) (ae (ak 3 ba.nd) aV)))))
   (mz' (al 4 ba.nd (mf' Gall_orders (hr.mono (by decide)) (mc' (mv' 0) mn')))
   (mz' (cR (i:=5) ba.nd rfl (adl rfl) (mf' Gdivided (hr.mono (by decide)) (mc' (mv' 1) (mc' (af (mc' (au bg (by rfl) T.len cK (mc' (mv' 4) mn')) (mc' mh' mn'))) mn'))))
   (mz' (xY (i:=6) (own:=["order"]) (fr:=["each"]) (ps:=[5]) (sc:=(ac dH)) (by exact⟨rfl,by decide +kernel,by decide +kernel,by decide +kernel,by decide +kernel⟩) ba.nd rfl rfl (bz (mv' 4)) (fun _ _ _ _ _=>(ak 0 (show acf ((["order"]:List Str)++(["each"]:List Str))from by decide +kernel))) (fun _ _ _ _ _=>cF) (fun _ _ _ _ _=>(af (mc' (af (mc' aC (mc' (mv' 0) mn'))) (mc' (mv' 1) mn')))))
   (mz' (al 7 ba.nd (mf' Gtaken_off (hr.mono (by decide)) (mc' (Fx T.c_WHOLE_TURN (by rfl)) (mc' (mv' 1) mn'))))
   (mz' (bt (yV T.enumerate (mc' (mv' 2) mn')) (bi (n:=2) (ae (ak 8 ba.nd) (ae (ak 9 ba.nd) aV))) (mz' (cV (gi abE abF cA (mv' 6) (mc' (af (mc' (af (mc' aC (mc' (mv' 8) mn'))) (mc' (ab (mv' 9) mh') mn'))) mn')))
   (aa (al 7 ba.nd (mf' Gtaken_off (hr.mono (by decide)) (mc' (mv' 7) (mc' (ab (mv' 9) mh') mn')))))) aaG)
   (mz' (bc (av i8 (ab (mv' 7) mh') mh' (aI _)) (aa (cV (gi abE abF cA (mv' 6) (mc' (af (mc' (af (mc' aC mn')) (mc' (mv' 7) mn'))) mn')))) ay)
   (aa (ag (mv' 6)))))))))),?_⟩
 case ar=>rintro as Kc ⟨h,rfl,_⟩;rfl
 rintro as Kc hl ⟨h,rfl,ho,k⟩;have a1:=ho.a1;have a2:=ho.a2;have b1:=ho.b1;have b2:=ho.b2;have n4:=ho.n4;have nO:=(ci h.ss.length ho.n4 h.ss.length ho.n4).1;have pO:=cU h.ss.length ho.n4;refine ai (MSt.mk [some (.imm (.tuple [.tuple [.int h.a,.int h.b],.tuple (h.ss.map Srv.d),.bool h.mv])),none,none,none,none,none,none,none,none,none] [] 0) rfl ?_;walk_at"xs"
 .rfl
 walk_at"xs";refine⟨h,rfl,ho,?_⟩;walk_at"xn";refine ca ?_;walk_at"xx";refine⟨(h.a:Int),(h.b:Int),(((ordK h.ss.length h.ss.length).map lnD).length:Int),1,rfl,⟨by omega,by omega,by omega⟩,⟨by rw[Ge];omega,by decide,by decide⟩,by rw[Ge];omega,?_⟩;walk_at"xx";rw[Ge];refine iJ (fun i m=>∃a,m=MSt.mk [a,some (.imm (nf ((h.a:Int)*1) ((h.b:Int)*((ordK h.ss.length h.ss.length).length:Int))))] [(ordK h.ss.length h.ss.length).map lnD,(gF h).take i] 2) ⟨none,rfl⟩ ?_ ?_ ?_
 .rintro i m ⟨a,rfl⟩;rfl
 .rintro i d m e hnp ⟨a,rfl⟩;obtain⟨o,eo,rfl,hi⟩:=gmap e;walk_at"xs";have ec:(gF h)[i]?=some (.tuple [(Mv.come o).d,nf ((h.a:Int)*1) ((h.b:Int)*((ordK h.ss.length h.ss.length).length:Int))]):=by unfold gF;rw[aae,eo];rfl
  refine⟨_,rfl,by rw[aaK,aaq];omega,some (.imm (lnD o)),?_⟩;rw[acy,ec];rfl
 .rintro m hnp ⟨a,rfl⟩;have ef:(gF h).take ((ordK h.ss.length h.ss.length).map lnD).length=gF h:=by
   have:((ordK h.ss.length h.ss.length).map lnD).length=(gF h).length:=by unfold gF;rw[Ge,Ge]
   rw[this];exact aag
  rw[ef];walk_at"xn";refine ca ?_;walk_at"xx";refine⟨1,1,(h.a:Int),(h.b:Int),rfl,⟨by decide,by decide,by decide⟩,⟨by omega,by omega,by omega⟩,?_⟩;walk_at"xn";refine cw ?_;walk_at"xx";refine⟨true,h.ss.map Srv.d,rfl,?_⟩;refine bC (fun i m=>∃a b,m=MSt.mk [some (.imm (.tuple [.tuple [.int h.a,.int h.b],.tuple (h.ss.map Srv.d),.bool h.mv])),some (.imm (.tuple [.int h.a,.int h.b])),some (.imm (.tuple (h.ss.map Srv.d))),some (.imm (.bool h.mv)),some (.obj 0),some (.imm (nf ((h.a:Int)*1) ((h.b:Int)*((ordK h.ss.length h.ss.length).length:Int)))),some (.obj 1),some (.imm (rsD h i)),a,b] [(ordK h.ss.length h.ss.length).map lnD,gF h++jj h i] 0) ⟨none,none,?_⟩ ?_ ?_
  .rw[show jj h 0=[]from rfl,abb];rfl
  .rintro i d m e hnp ⟨a,b,rfl⟩ D1 hD1 hR1;have hi:i<h.ss.length:=by
    have:=(aad.mp e).1;rw[dF,Ge]at this;exact this
   have es:h.ss[i]?=some h.ss[i]:=oR hi;have ed:d = .tuple [.int (i:Int),Srv.d h.ss[i]]:=by
    have:=o4 (ds:=h.ss.map Srv.d) (i:=i) (d:=Srv.d h.ss[i]) (by rw[aae,es];rfl);rw[this]at e;exact(aai e).symm
   subst ed;have so:=ho.ok h.ss[i] (abm _);have sa:=so.a2;have sb:=so.b2;have sb1:=so.b1;have rk:=qK ho (k:=i) (by omega);have ln:(jj h i).length=i:=by unfold jj;rw[Ge,aa2]
   have lc:(gF h).length≤24:=by unfold gF;rw[Ge];exact nO
   generalize es':h.ss[i]=sv at *;obtain⟨va,vb,vr⟩:=sv;walk_at"xs"
   .rfl
   walk_at"xs";refine aD (ds:=[.tuple [.int (va:Int),.int (vb:Int)],.int (vr:Int)]) (aA (j:=0) rfl) ?_;walk_at"xs";refine⟨_,rfl,?_⟩;refine⟨by rw[aaq,aat];omega,?_⟩;walk_at"xx";refine aD (ds:=[.tuple [.int (va:Int),.int (vb:Int)],.int (vr:Int)]) (aA (j:=0) rfl) ?_;walk_at"xs";refine⟨(restF h i).1,(restF h i).2,(va:Int),(vb:Int),rfl,rk,⟨by simp only at sa;omega,by simp only at sb;omega,by simp only at sb1;omega⟩,?_⟩;rw[<-zJ (s:=⟨va,vb,vr⟩) es];walk_at"xn";refine cw ?_;walk_at"xn";refine hD1 _ ⟨some (.imm (.int (i:Int))),some (.imm (Srv.d ⟨va,vb,vr⟩)),?_⟩;rw[uf,aW es,acB];rfl
  .rintro m hnp ⟨a,b,rfl⟩;rw[dF,Ge];walk_at"xs";refine aD (ds:=[.int (restF h h.ss.length).1,.int (restF h h.ss.length).2]) (aA (j:=0) rfl) ?_;walk_at"xs";have ln:(jj h h.ss.length).length=h.ss.length:=by unfold jj;rw[Ge,aa2]
   have lc:(gF h).length≤24:=by unfold gF;rw[Ge];exact nO
   rw[JN ho]at k;refine aG (fun z=>?_) (fun z=>?_)
   .rw[if_pos z]at k;walk_at"xs";refine⟨_,rfl,?_⟩;refine⟨by rw[aaq,aat];omega,?_⟩;walk_at"xx";exact k
   .rw[if_neg z,abb]at k;walk_at"xs";exact k
theorem jd(T:Bl K mg)(D:DefM K mg "weights_behind" dq ["hall","rule","weights"])(Gmove_shares:FnM P w K mg base "move_shares" 4 1 sd)(Gon_one_bottom:FnM P w K mg base "on_one_bottom" 2 1 tU)(Gmoved_on:FnM P w K mg base "moved_on" 5 4 xu):FnM P w K mg base "weights_behind" 6 3 pk:=by
 refine aU D aH rfl (nN:=13) rfl (by decide) ?ar fun cdv A outer s H E f hr=>⟨_,(mz' (cz (mf' Gon_one_bottom (hr.mono (by decide)) (mc' (dU (mf' Gmove_shares (hr.mono (by decide)) (mc' (mv' 0) mn'))) mn')) (bi (n:=2) (ae (ak 3 aH.nd) (ae (ak 4 aH.nd) aV))))
   (mz' (al 5 aH.nd ls)
   (mz' (al 6 aH.nd ls)
   (mz' (bt (yR (mv' 2)) (bi (n:=2) (ae (ak 7 aH.nd) (ae (ak 8 aH.nd) aV))) (aa (bt (bz (mv' 3)) (bi (n:=2) (ae (ak 9 aH.nd) (ae (ak 10 aH.nd) aV))) (mz' (cz (mf' Gmoved_on (hr.mono (by decide)) (mc' (mv' 0) (mc' (mv' 1) (mc' (mv' 7) (mc' (mv' 9) mn'))))) (bi (n:=2) (ae (ak 11 aH.nd) (ae (ak 12 aH.nd) aV))))
   (mz' (og hr.units (ad aM (j9 hr.units (mv' 5) (mc' (mv' 11) (mc' mh' mn'))) (ad aB (mv' 8) (mv' 10))) (mv' 5) (mv' 11))
   (aa (zX hr.units (ad aM (j9 hr.units (mv' 6) (mc' (mv' 12) (mc' mh' mn'))) (ad aB (mv' 8) (mv' 10))) (mv' 6) (mv' 12))))) aaG)) aaG)
   (aa (yv (FJ (ag (af (mc' (mv' 5) (mc' (mv' 6) (mc' (mv' 4) mn')))))))))))),?_⟩
 case ar=>rintro as Kc ⟨h,r,W,rfl,_⟩;rfl
 rintro as Kc hl ⟨h,r,W,rfl,ho,hr0,hW,hWl,k⟩;have hB:=oM ho;obtain⟨mn,mo⟩:=Dt ho;refine ai (MSt.mk [some (.imm h.d),some (.imm r.d),some (.imm (wtD W)),none,none,none,none,none,none,none,none,none,none] [] 0) rfl ?_;walk_at"xs";refine⟨h,rfl,ho,?_⟩;walk_at"xx";refine⟨shrL h,_,rfl,hB,?_⟩;rw[IK];walk_at"xx"
 .rfl
 walk_at"xs";refine xh (jm ?_);walk_at"xn";refine oj (zQ (xh (jm ?_)));walk_at"xn";refine oj ?_;walk_at"xs";refine Fv ?_;walk_at"xs";refine yL (by rw[zW ho fun p hp=>(hW p hp).1,aeD]) ?_;refine bC (fun i m=>∃a b c d e f:Option L2.R,m=MSt.mk [some (.imm h.d),some (.imm r.d),some (.imm (wtD W)),some (.imm (.list (msD (msL h)))),some (.imm (.int (botH h:Int))),some (.at 0 []),some (.at 1 []),a,b,c,d,e,f] [[.dict (lfKV (kvA ptD ((W.take i).foldl (goW h r (msL h)) ([],[])).1))],[.dict (lfKV (kvA wdD ((W.take i).foldl (goW h r (msL h)) ([],[])).2))]] 0/\GoOk h r (29*i) ((W.take i).foldl (goW h r (msL h)) ([],[]))) ⟨none,none,none,none,none,none,rfl,⟨fun _ hp=>(by cases hp),aac _,aac _⟩⟩ ?_ ?_
 .rintro i d m e hnp ⟨a1,a2,a3,a4,a5,a6,rfl,G0⟩ D1 hD1 hR1;obtain⟨pr,ep,rfl,hi⟩:∃pr:Pt×Int,W[i]?=some pr/\.tuple [ptD pr.1,.int pr.2]=d/\i<W.length:=by
   have e':(bZ (kvA ptD W))[i]?=some d:=e;unfold bZ kvA at e';rw[abq,aae]at e'
   cases q:W[i]? with
   |none=>rw[q]at e';cases e'
   |some pr =>
    rw[q]at e';exact⟨pr,rfl,aai e',(aad.mp q).1⟩
  obtain⟨⟨l,t⟩,wt⟩:=pr;obtain⟨hS,hwt⟩:=hW _ (OR ep);have efold:(W.take (i+1)).foldl (goW h r (msL h)) ([],[])=goW h r (msL h) ((W.take i).foldl (goW h r (msL h)) ([],[])) ((l,t),wt):=by
   rw[acy,ep,adJ];rfl
  generalize hx0:(W.take i).foldl (goW h r (msL h)) ([],[])=x0 at *;walk_at"xs"
  .rfl
  walk_at"xs";refine bC (fun j m=>∃c d e f:Option L2.R,m=MSt.mk [some (.imm h.d),some (.imm r.d),some (.imm (wtD W)),some (.imm (.list (msD (msL h)))),some (.imm (.int (botH h:Int))),some (.at 0 []),some (.at 1 []),some (.imm (ptD (l,t))),some (.imm (.int wt)),c,d,e,f] [[.dict (lfKV (kvA ptD (((msL h).take j).foldl (fun x q=>goW1 h r (l,t) wt q x) x0).1))],[.dict (lfKV (kvA wdD (((msL h).take j).foldl (fun x q=>goW1 h r (l,t) wt q x) x0).2))]] 0/\GoOk h r (29*i+j) (((msL h).take j).foldl (fun x q=>goW1 h r (l,t) wt q x) x0)) ⟨a3,a4,a5,a6,rfl,G0⟩ ?_ ?_
  .rintro j d m ej hnj ⟨b3,b4,b5,b6,rfl,G1⟩ D2 hD2 hR2;obtain⟨q,eq,rfl,hj⟩:=gmap ej;have hq:=mo q (OR eq);have efold1:((msL h).take (j+1)).foldl (fun x q=>goW1 h r (l,t) wt q x) x0=goW1 h r (l,t) wt q (((msL h).take j).foldl (fun x q=>goW1 h r (l,t) wt q x) x0):=by
    rw[acy,eq,adJ];rfl
   have G2:=G1.next ho hr0 hS wt hq.1;rw[efold1]at hD2;generalize ((msL h).take j).foldl (fun x q=>goW1 h r (l,t) wt q x) x0=x1 at *;walk_at"xs"
   .rfl
   walk_at"xs";refine⟨h,r,l,t,q.1,rfl,ho,hr0,hS.ln,hq.1,hS.tn,?_⟩;walk_at"xn";rw[show mvD (cX h r l t q.1) = .tuple [ptD ((cX h r l t q.1).1,(cX h r l t q.1).2.1),wdD (cX h r l t q.1).2.2]from rfl];unfold goW1 at G2 hD2;have hS2:=me ho hr0 hS hq.1;generalize cX h r l t q.1=mm at *;obtain⟨l2,t2,wd⟩:=mm;dsimp only at hS2 G2 hD2⊢;walk_at"xs"
   .rfl
   walk_at"xs";refine yi ?_;walk_at"xs";walk_at"xn";have kyS:=zW ho G1.st;have ky2:=uC ho hS2;have m1:=G1.n1;have m2:=G1.n2;refine rG ?_;walk_at"xs";refine⟨kvA ptD x1.1,⟨rfl,rfl⟩,.inr kyS,?_⟩;walk_at"xs";refine⟨kvA ptD x1.1,ptD (l2,t2),.int 0,rfl,⟨rfl,rfl⟩,by unfold oneK;rw[kyS,show kyD (ptD (l2,t2))=true from ky2,ahm,aeD],?_⟩;rw[qH jF];walk_at"xs";refine cb (dI hwt hq.2) ?_;walk_at"xs";refine⟨rfl,kvA ptD x1.1,rfl,kyS,ky2,by unfold kvA;rw[Ge,aaq];omega,?_⟩;rw[yB jF];walk_at"xx";refine rG ?_;walk_at"xs";refine⟨kvA wdD x1.2,⟨rfl,rfl⟩,.inl (kg _),?_⟩;walk_at"xs";refine⟨kvA wdD x1.2,wdD wd,.int 0,rfl,⟨rfl,rfl⟩,by unfold oneK;rw[kg];rfl,?_⟩;rw[qH (enc:=wdD) BA];walk_at"xs";refine cb (dI hwt hq.2) ?_;walk_at"xs";refine rL (x:=wd.s) ?_;refine⟨_,lfKV (kvA wdD x1.2),rfl,rfl,by rw[jM];exact kg _,rfl,by unfold lfKV kvA;rw[Ge,Ge,aaq];omega,?_⟩;rw[show aeM wd.s=wdD wd from rfl,yd (by rfl) (kg _),yB (enc:=wdD) BA];exact hD2 _ ⟨some (.imm q.1.d),some (.imm (.int q.2)),some (.imm (ptD (l2,t2))),some (.imm (wdD wd)),rfl,G2⟩
  .rintro m hnj ⟨b3,b4,b5,b6,rfl,G1⟩;have el:(msD (msL h)).length=(msL h).length:=by unfold msD;rw[Ge]
   have ef:(msL h).take (msD (msL h)).length=msL h:=by rw[el];exact aag
   rw[ef]at G1;rw[ef];refine hD1 _ (show ∃a b c d e f:Option L2.R,_ from⟨some (.imm (ptD (l,t))),some (.imm (.int wt)),b3,b4,b5,b6,?_,?_⟩)
   .rw[efold];rfl
   .rw[efold];refine⟨G1.st,aaF G1.n1 ?_,aaF G1.n2 ?_⟩<;>rw[el]<;>omega
 .rintro m hnp ⟨a1,a2,a3,a4,a5,a6,rfl,G0⟩;have eW:W.take (bZ (kvA ptD W)).length=W:=by unfold bZ kvA;rw[Ge,Ge];exact aag
  rw[eW];rw[eW]at G0;refine KM 0 5 (kvA ptD (W.foldl (goW h r (msL h)) ([],[])).1) [1] (MSt.mk [some (.imm h.d),some (.imm r.d),some (.imm (wtD W)),some (.imm (.list (msD (msL h)))),some (.imm (.int (botH h:Int))),some (.imm (wtD (W.foldl (goW h r (msL h)) ([],[])).1)),some (.at 0 []),none,none,none,none,none,none] [[.dict (lfKV (kvA wdD (W.foldl (goW h r (msL h)) ([],[])).2))]] 0) rfl rfl (zW ho G0.st) ?_ ?_
  .exact Aw rfl rfl rfl rfl rfl rfl rfl rfl ⟨.inl rfl,.inl rfl,.inl rfl,.inl rfl,.inl rfl,.inr ⟨rfl,.inr rfl⟩,.inl ⟨1,rfl,rfl⟩,.inl trivial,.inl trivial,.inl trivial,.inl trivial,.inl trivial,.inl trivial,trivial⟩
  refine Ng 0 6 (kvA wdD (W.foldl (goW h r (msL h)) ([],[])).2) [] (MSt.mk [some (.imm h.d),some (.imm r.d),some (.imm (wtD W)),some (.imm (.list (msD (msL h)))),some (.imm (.int (botH h:Int))),some (.imm (wtD (W.foldl (goW h r (msL h)) ([],[])).1)),some (.imm (.dict (kvA wdD (W.foldl (goW h r (msL h)) ([],[])).2))),none,none,none,none,none,none] [] 0) rfl rfl (by rw[jM];exact kg _) ?_ ?_
  .exact Aw rfl rfl rfl rfl rfl rfl rfl rfl ⟨.inl rfl,.inl rfl,.inl rfl,.inl rfl,.inl rfl,.inl rfl,.inr ⟨rfl,.inr rfl⟩,.inl trivial,.inl trivial,.inl trivial,.inl trivial,.inl trivial,.inl trivial,trivial⟩
  walk_at"xs";exact k
theorem l8(T:Bl K mg)(D:DefM K mg "told_shares" dG ["weights","whole"])(Gfraction_of:FnM P w K mg base "fraction_of" 2 2 Bx):FnM P w K mg base "told_shares" 3 2 BR:=by
 refine aU D lD rfl (nN:=2) rfl (by decide) ?ar fun cdv A outer s H E f hr=>⟨_,(aa (ag (cy dg (by rfl) T.tuple gV (mc' (cv (own:=["stand","weight"]) (fr:=["whole"]) (ps:=[1]) (sc:=(ac dG)) (by exact⟨rfl,by decide +kernel,by decide +kernel,by decide +kernel,by decide +kernel⟩) (bz (dU (yJ hr.units T.sorted (mv' 0)))) (fun _ _ _ _ _=>(bi (n:=2) (ae (ak 0 (show acf ((["stand","weight"]:List Str)++(["whole"]:List Str))from by decide +kernel)) (ae (ak 1 (show acf ((["stand","weight"]:List Str)++(["whole"]:List Str))from by decide +kernel)) aV)))) (fun _ _ _ _ _=>cF) (fun _ _ _ _ _=>(af (mc' (mv' 0) (mc' (mf' Gfraction_of (hr.mono (by decide)) (mc' (mv' 1) (mc' (mv' 2) mn'))) mn'))))) mn')))),?_⟩
 case ar=>rintro as Kc ⟨h,r,W,D,rfl,_⟩;rfl
 rintro as Kc hl ⟨h,r,W,D,rfl,ho,X,d0,d1,k⟩;refine ai (MSt.mk [some (.imm (wtD W)),some (.imm (.int (D:Int)))] [] 0) rfl ?_;walk_at"xs";refine zG ?_;walk_at"xs";have E:=JE ho X;refine yL (by rw[zW ho X.st,aeD]) ?_;rw[zY];refine⟨E.srt X,fun ds' p o=>?_⟩;obtain⟨W',s,rfl⟩:=E.srd X p o;have ln:W'.length<64:=by rw[s.p.length_eq];exact X.n
 walk_at"xs";walk_at"xn";refine bC (fun i m=>∃a b:Option L2.R,m=MSt.mk [a,b,some (.imm (.int (D:Int)))] [(W'.take i).map fun q=>.tuple [ptD q.1,nf q.2 (D:Int)]] 1) ⟨none,none,rfl⟩ ?_ ?_
 .rintro i d m e hnp ⟨a,b,rfl⟩ D1 hD1 hR1;obtain⟨q,eq,rfl,hi⟩:=gmap e;have mq:=s.p.mem_iff.mp (OR eq);show Bq 2 _ (.tuple [ptD q.1,.int q.2]) _ _;walk_at"xs"
  .rfl
  walk_at"xs";refine⟨q.2,(D:Int),rfl,by omega,aaY (X.v q mq) (by decide),by rw[aaN];exact aaY d1 (by decide),?_⟩;walk_at"xx";refine⟨_,rfl,by rw[aaq,Ge,aaK];omega,hD1 _ ⟨some (.imm (ptD q.1)),some (.imm (.int q.2)),?_⟩⟩;rw[aa1,eq,aaQ];rfl
 .rintro m hnp ⟨a,b,rfl⟩;rw[Ge,aag];walk_at"xs";exact k W' s
theorem ku(T:Bl K mg)(D:DefM K mg "left_by_turn" fh ["hall","rule","stand"])(Gweights_behind:FnM P w K mg base "weights_behind" 6 3 pk)(Gtold_shares:FnM P w K mg base "told_shares" 3 2 BR):FnM P w K mg base "left_by_turn" 7 3 xn:=by
 refine aU D cB rfl (nN:=6) rfl (by decide) ?ar fun cdv A outer s H E f hr=>⟨_,(mz' (cz (mf' Gweights_behind (hr.mono (by decide)) (mc' (mv' 0) (mc' (mv' 1) (mc' (u5 hr.units (mv' 2) mh') mn')))) (bi (n:=3) (ae (ak 3 cB.nd) (ae (ak 4 cB.nd) (ae (ak 5 cB.nd) aV)))))
   (aa (ag (mf' Gtold_shares (hr.mono (by decide)) (mc' (mv' 3) (mc' (mv' 5) mn')))))),?_⟩
 case ar=>rintro as Kc ⟨h,r,l,t,rfl,_⟩;rfl
 rintro as Kc hl ⟨h,r,l,t,rfl,hD,S,k⟩;have ho:=hD.ho;have b:botH h<10^66:=by have:=hD.b;rwa[afP]at this
 refine ai (MSt.mk [some (.imm h.d),some (.imm r.d),some (.imm (stD l t)),none,none,none] [] 0) rfl ?_;walk_at"xs";refine F9 ?_;walk_at"xs";refine⟨uC ho S,?_⟩;walk_at"xs";refine⟨h,r,[((l,t),1)],rfl,ho,hD.hr,fun p hp=>?_,by show 1≤100000;decide,?_⟩
 .rw[show p=_ from aaw.mp hp];exact⟨S,by show(1:Int).natAbs<10^160;decide⟩
 walk_at"xx"
 .rfl
 walk_at"xs";refine⟨h,r,lv h r (l,t),botH h,rfl,ho,(GU hD S).1,jK ho,aaY b (by decide),fun W' s=>?_⟩;walk_at"xx";exact k W' s
theorem qZ(T:Bl K mg)(D:DefM K mg "_law_tape" il ["_law_script"]):FnM P w K mg base "_law_tape" 1 1 BZ:=by
 refine aU D qT rfl (nN:=1) rfl (by decide) ?ar fun cdv A outer s H E f hr=>⟨_,(aa (ag (bO (mc' (dU (cp fm (mv' 0) c5 (cY mh'))) (mc' mh' (mc' mh' mn')))))),?_⟩
 case ar=>rintro as Kc ⟨ns,rfl,_⟩;rfl
 rintro as Kc hl ⟨ns,rfl,hn,k⟩;refine ai (MSt.mk [some (.imm (.list (ns.map .int)))] [] 0) rfl ?_;walk_at"xs";have e:cutD (ns.map abi) none (some 63)=ns.map .int:=Br (n:=63) (by rw[Ge];exact hn);rw[e];exact k _ ⟨ns,0,0,rfl,hn,by omega,by omega,by omega⟩
theorem qm(T:Bl K mg)(D:DefM K mg "_law_draw" iK ["_law_tape_here","_law_many"]):FnM P w K mg base "_law_draw" 1 2 im:=by
 refine aU D cf rfl (nN:=6) rfl (by decide) ?ar fun cdv A outer s H E f hr=>⟨_,(mz' (bc (av i8 (ab (mv' 0) mh') mh' (aI _)) (mz' (al 2 cf.nd (ad cN (ab (mv' 0) mh') (mv' 1)))
   (mz' (mh (ad cZ (ab (mv' 0) mh') (mv' 1)) (mv' 0) mh')
   (aa (ag (mv' 2))))) ay)
   (mz' (al 3 cf.nd (ab (mv' 0) mh'))
   (mz' (mh (ad aM (mv' 3) mh') (mv' 0) mh')
   (mz' (al 4 cf.nd mh')
   (mz' (bc (av i8 (au bg (by rfl) T.len cK (mc' (ab (mv' 0) mh') mn')) mh' (aI _)) (aa (al 4 cf.nd (ab (ab (mv' 0) mh') (ad cN (mv' 3) (au bg (by rfl) T.len cK (mc' (ab (mv' 0) mh') mn')))))) ay)
   (mz' (bc (EW.pt (lL (av K7 (mv' 4) (ad Cw mh' mh') (aI _)) (l6 (av jb (mv' 3) (au bg (by rfl) T.len cK (mc' (ab (mv' 0) mh') mn')) (aI _))))) (mz' (mh (ad cZ (mv' 4) (mv' 1)) (mv' 0) mh')
   (aa (ag (ad cN (mv' 4) (mv' 1))))) ay)
   (mz' (al 5 cf.nd (ad cN (ad aB (ad aM (ad aM (ad aM (ad cN (mv' 4) mh') (ad aB (ad aB mh' (mv' 3)) (mv' 3))) (ad aB mh' (mv' 3))) mh') mh') mh'))
   (mz' (al 5 cf.nd (ad cN (ad aM (ad aM (ad aB (mv' 5) (mv' 5)) (ad aB mh' (mv' 5))) (mv' 3)) mh'))
   (aa (ag (ad cN (ad cZ (ad cN (ad aB (mv' 5) mh') mh') mh') (mv' 1)))))))))))),?_⟩
 case ar=>rintro as Kc ⟨ds,m,c,rfl,_⟩;rfl
 rintro as Kc hl ⟨ds,m,c,rfl,⟨ns,p,q,rfl,hn,hp0,hp,hq⟩,hc,hm0,hm1,k⟩;refine ai (MSt.mk [some (.obj 0),some (.imm (.int m)),none,none,none,none] [[.list (ns.map .int),.int p,.int q]] 1) rfl ?_;walk_at"xs";refine aG (fun h=>?_) (fun h=>?_)
 .walk_at"xs";exact k _ _ (afk _ (by omega)) (aeg _ hm0) ⟨ns,p,q/m,rfl,hn,hp0,by omega,agB hq (by omega)⟩
 .walk_at"xs";have fin:∀x:Int,0≤x->x<m->∀q':Int,0≤q'->Kc (.imm (.int x)) [[.list (ns.map .int),.int (p+1),.int q']]:=fun x h1 h2 q' h3=>k _ _ h1 h2 ⟨ns,p+1,q',rfl,hn,by omega,by omega,h3⟩;have mixed:∀y:Int,0≤y/7%m/\y/7%m<m:=fun y=>⟨afk _ (by omega),aeg _ hm0⟩;refine aG (fun h1=>?_) (fun h1=>?_)
  .walk_at"xs";have hl0:(0:Int)<((List.map abi ns).length:Int):=by simpa using h1
   obtain⟨x,hx⟩:=zc (ns:=ns) (i:=p%((List.map abi ns).length:Int)) (afk _ (by omega)) (by have:=aeg p hl0;simp only[Ge]at this⊢;exact this);refine qU hx ?_;walk_at"xs";refine aG (fun h1=>?_) (fun h1=>?_)
   .walk_at"xs";refine aG (fun h2=>?_) (fun h2=>?_)
    .walk_at"xs";exact fin _ (afk _ (by omega)) (aeg _ hm0) _ (agB (ahL (by decide) h1) (by omega))
    .walk_at"xs";exact fin _ (mixed _).1 (mixed _).2 _ hq
   .walk_at"xs";exact fin _ (mixed _).1 (mixed _).2 _ hq
  .walk_at"xs";refine aG (fun h1=>?_) (fun h1=>?_)
   .exact absurd h1 (by decide)
   .walk_at"xs";exact fin _ (mixed _).1 (mixed _).2 _ hq
theorem uv(T:Bl K mg)(D:DefM K mg "_law_cut" jB ["_law_top","_law_bottom"]):FnM P w K mg base "_law_cut" 1 2 nG:=by
 refine aU D iP rfl (nN:=4) rfl (by decide) ?ar fun cdv A outer s H E f hr=>⟨_,(mz' (jC (i:=2) (j:=3) iP.nd rfl rfl (by decide) rfl rfl (mc' (au oU (by rfl) T.abs Cb (mc' (mv' 0) mn')) (mc' (mv' 1) mn')) rfl)
   (mz' (gW (av i8 (mv' 3) mh' (aI _)) (aa (jC (i:=2) (j:=3) iP.nd rfl rfl (by decide) rfl rfl (mc' (mv' 3) (mc' (ad cN (mv' 2) (mv' 3)) mn')) rfl)) aaG)
   (aa (ag (af (mc' (ad cZ (mv' 0) (mv' 2)) (mc' (ad cZ (mv' 1) (mv' 2)) mn'))))))),?_⟩
 case ar=>rintro as Kc ⟨a,b,rfl,_⟩;rfl
 rintro as Kc hl ⟨t,b,rfl,hb0,ht,hb,k⟩;refine ai (MSt.mk [some (.imm (.int t)),some (.imm (.int b)),none,none] [] 0) rfl ?_;walk_at"xs";rw[show(if t<0 then -t else t)=(t.natAbs:Int) by split<;>omega];refine mt (fun n m=>∃x y:Nat,m=MSt.mk [some (.imm (.int t)),some (.imm (.int b)),some (.imm (.int x)),some (.imm (.int y))] [] 0/\x.gcd y=t.natAbs.gcd b/\n=y) b ⟨t.natAbs,b,rfl,rfl,rfl⟩ ?_;rintro n m hn ⟨x,y,rfl,hg,rfl⟩;walk_at"xs";refine aG (fun hpos=>?_) (fun hz=>?_)
 .walk_at"xs";have hy:0<n:=by omega
  have h2:=ahs x hy;exact⟨x%n,h2,n,x%n,rfl,by rw[agx,<-Nat.gcd_rec,agx,hg],rfl⟩
 .have hy0:n=0:=by omega
  subst hy0;rw[ahw]at hg;have hx0:0<x:=by rw[hg];exact abl _ hb0
  have hxb:x≤b:=by rw[hg];exact af7 _ hb0
  walk_at"xs";rw[hg];have hx1:t.natAbs.gcd b<10^160:=by rw[<-hg];exact aaE hxb hb
  have hx2:0<t.natAbs.gcd b:=by rw[<-hg];exact hx0
  refine g9 (cfdB hx2 hx1) ?_;walk_at"xs";refine g9 (cfdB hx2 hx1) ?_;walk_at"xs";unfold nf nfP at k;rw[if_neg (by omega),aaN]at k;exact k
theorem q9(T:Bl K mg)(D:DefM K mg "_law_plus" iQ ["_law_one","_law_other"])(G_law_cut:FnM P w K mg base "_law_cut" 1 2 nG):FnM P w K mg base "_law_plus" 2 2 Dl:=by
 refine aU D qI rfl (nN:=2) rfl (by decide) ?ar fun cdv A outer s H E f hr=>⟨_,(aa (ag (mf' G_law_cut (hr.mono (by decide)) (mc' (ad aM (ad aB (ab (mv' 0) mh') (ab (mv' 1) mh')) (ad aB (ab (mv' 1) mh') (ab (mv' 0) mh'))) (mc' (ad aB (ab (mv' 0) mh') (ab (mv' 1) mh')) mn'))))),?_⟩
 case ar=>rintro as Kc ⟨a,b,c,d,rfl,_⟩;rfl
 rintro as Kc hl ⟨a,b,c,d,rfl,h1,h2,k⟩;refine ai (MSt.mk [some (.imm (.tuple [.int a,.int b])),some (.imm (.tuple [.int c,.int d]))] [] 0) rfl ?_;walk_at"xs";refine cb (dI (up45 h1.ha) (up45 h2.hb)) ?_;walk_at"xs";refine cb (dI (up45 h2.ha) (up45 h1.hb)) ?_;walk_at"xs";refine cb (dI (up45 h1.hb) (up45 h2.hb)) ?_;walk_at"xs";obtain⟨bb,eb,hbb⟩:=tz h1.hp h2.hp;rw[eb];refine⟨_,bb,rfl,hbb,L7 (fJ h1.ha h2.hb) (fJ h2.ha h1.hb),(by have:=fJ h1.hb h2.hb;rw[eb,aaN]at this;exact qF this),?_⟩;walk_at"xn";rw[<-eb];exact k
theorem nH(T:Bl K mg)(D:DefM K mg "_law_times" gG ["_law_one","_law_other"])(G_law_cut:FnM P w K mg base "_law_cut" 1 2 nG):FnM P w K mg base "_law_times" 2 2 Ll:=by
 refine aU D ot rfl (nN:=2) rfl (by decide) ?ar fun cdv A outer s H E f hr=>⟨_,(aa (ag (mf' G_law_cut (hr.mono (by decide)) (mc' (ad aB (ab (mv' 0) mh') (ab (mv' 1) mh')) (mc' (ad aB (ab (mv' 0) mh') (ab (mv' 1) mh')) mn'))))),?_⟩
 case ar=>rintro as Kc ⟨a,b,c,d,rfl,_⟩;rfl
 rintro as Kc hl ⟨a,b,c,d,rfl,h1,h2,k⟩;refine ai (MSt.mk [some (.imm (.tuple [.int a,.int b])),some (.imm (.tuple [.int c,.int d]))] [] 0) rfl ?_;walk_at"xs";refine cb (dI (up45 h1.ha) (up45 h2.ha)) ?_;walk_at"xs";refine cb (dI (up45 h1.hb) (up45 h2.hb)) ?_;walk_at"xs";obtain⟨bb,eb,hbb⟩:=tz h1.hp h2.hp;rw[eb];refine⟨_,bb,rfl,hbb,qF (fJ h1.ha h2.ha),(by have:=fJ h1.hb h2.hb;rw[eb,aaN]at this;exact qF this),?_⟩;walk_at"xn";rw[<-eb];exact k
theorem pc(T:Bl K mg)(D:DefM K mg "_law_parts" dw ["_law_tape_here","_law_many"])(G_law_draw:FnM P w K mg base "_law_draw" 1 2 im)(G_law_cut:FnM P w K mg base "_law_cut" 1 2 nG):FnM P w K mg base "_law_parts" 3 2 sI:=by
 refine aU D dE rfl (nN:=5) rfl (by decide) ?ar fun cdv A outer s H E f hr=>⟨_,(mz' (cR (i:=2) dE.nd rfl (adl rfl) (ab (bO (mc' mh' (mc' mh' (mc' mh' (mc' mh' mn'))))) (mf' G_law_draw (hr.mono (by decide)) (mc' (mv' 0) (mc' mh' mn')))))
   (mz' (cR (i:=3) dE.nd rfl (adl rfl) (cv (own:=["_law_k"]) (fr:=["_law_tape_here","_law_most"]) (ps:=[0,2]) (sc:=(ac dw)) (by exact⟨rfl,by decide +kernel,by decide +kernel,by decide +kernel,by decide +kernel⟩) (bJ (by rfl) T.range (mc' (ad aM (mv' 1) mh') mn')) (fun _ _ _ _ _=>(ak 0 (show acf ((["_law_k"]:List Str)++(["_law_tape_here","_law_most"]:List Str))from by decide +kernel))) (fun _ _ _ _ _=>cF) (fun _ _ _ _ _=>(ad aM mh' (mf' G_law_draw (hr.mono (by decide)) (mc' (mv' 1) (mc' (mv' 2) mn')))))))
   (mz' (cR (i:=4) dE.nd rfl (adl rfl) (ab (bO (mc' mh' (mc' (ad aM mh' (mf' G_law_draw (hr.mono (by decide)) (mc' (mv' 0) (mc' (mv' 2) mn')))) (mc' (mf' G_law_draw (hr.mono (by decide)) (mc' (mv' 0) (mc' mh' mn'))) mn')))) (mf' G_law_draw (hr.mono (by decide)) (mc' (mv' 0) (mc' mh' mn')))))
   (aa (ag (cv (own:=["_law_part"]) (fr:=["_law_parts_here","_law_rest"]) (ps:=[3,4]) (sc:=(ac dw)) (by exact⟨rfl,by decide +kernel,by decide +kernel,by decide +kernel,by decide +kernel⟩) (bz (mv' 3)) (fun _ _ _ _ _=>(ak 0 (show acf ((["_law_part"]:List Str)++(["_law_parts_here","_law_rest"]:List Str))from by decide +kernel))) (fun _ _ _ _ _=>cF) (fun _ _ _ _ _=>(mf' G_law_cut (hr.mono (by decide)) (mc' (mv' 0) (mc' (ad aM (au (ur rfl) (by rfl) T.sum LP (mc' (mv' 1) mn')) (mv' 2)) mn')))))))))),?_⟩
 case ar=>rintro as Kc ⟨fd,c,n,rfl,_⟩;rfl
 rintro as Kc hl ⟨fd,c,n,rfl,hf,hc,hn,k⟩;refine ai (MSt.mk [some (.obj 0),some (.imm (.int (n:Int))),none,none,none] [fd] 1) rfl ?_;walk_at"xs";refine⟨fd,_,_,rfl,hf,by omega,by decide,by decide,fun i fd hi0 hi1 hf=>?_⟩;walk_at"xn";obtain⟨mo,emo,mo1,mo4⟩:∃mo:Nat,atI [abi 9,abi 3,abi 40,abi 1600] i=some (.int (mo:Int))/\1≤mo/\mo≤1600:=by
  rcases (show i=0\/i=1\/i=2\/i=3 by omega)with z|z|z|z<;>rw[z]
  .exact⟨9,rfl,by decide,by decide⟩
  .exact⟨3,rfl,by decide,by decide⟩
  .exact⟨40,rfl,by decide,by decide⟩
  .exact⟨1600,rfl,by decide,by decide⟩
 walk_at"xs";refine gu emo ?_;walk_at"xs";refine⟨by omega,by omega,?_⟩;rw[show((n:Int)+1).toNat=n+1 by omega];walk_at"xn";refine bC (fun z m=>∃(a:Option L2.R) (fd':List iO) (ps:List Nat),m=MSt.mk [a,some (.obj 0),some (.imm (.int (mo:Int)))] [fd',natD ps] 2/\TapeD (c+1+z) fd'/\ps.length=z/\∀p∈ps,1≤p/\p≤1600) ⟨none,fd,[],rfl,hf,rfl,fun _ h=>by cases h⟩ ?_ ?_
 .rintro z d m e hz ⟨a,fd,ps,rfl,hf,hpl,hps⟩ D1 hD1 hR1;obtain⟨hi,rfl⟩:=bX e;walk_at"xs";refine⟨fd,_,_,rfl,hf,by omega,by omega,by omega,fun q fd hq0 hq1 hf=>?_⟩;walk_at"xn";obtain⟨qn,rfl⟩:=ab8 hq0;walk_at"xs";refine⟨_,rfl,by rw[aaq,ah];omega,hD1 _ ⟨some (.imm (.int (0+(z:Int)))),fd,ps++[1+qn],by rw[lr];rfl,hf,by rw[aat,hpl];rfl,fun x hx=>?_⟩⟩;obtain hx|hx:=abn.mp hx
  .exact hps x hx
  .rw[aaw.mp hx];omega
 rintro m hm ⟨a,fd,ps,rfl,hf,hpl,hps⟩;rw[aF]at hf hpl;walk_at"xn";refine ca ?_;walk_at"xn";refine ai (MSt.mk [some (.obj 0),some (.imm (.int (n:Int))),some (.imm (.int (mo:Int))),some (.obj 1),none] [fd,natD ps] 1) rfl ?_;walk_at"xs";refine⟨fd,_,_,rfl,hf,by omega,by omega,by omega,fun q1 fd hq0 hq1 hf=>?_⟩;walk_at"xn";obtain⟨q1,rfl⟩:=ab8 hq0;walk_at"xs";refine⟨fd,_,_,rfl,hf,by omega,by omega,by omega,fun q2 fd hr0 hr1 hf=>?_⟩;walk_at"xn";obtain⟨q2,rfl⟩:=ab8 hr0;walk_at"xs";refine⟨fd,_,_,rfl,hf,by omega,by omega,by omega,fun q3 fd hs0 hs1 hf=>?_⟩;walk_at"xn";obtain⟨re,ere,re4⟩:∃re:Nat,atI [abi 0,abi (1+(q1:Int)),abi (q2:Int)] q3=some (.int (re:Int))/\re≤1601:=by
  rcases (show q3=0\/q3=1\/q3=2 by omega)with z|z|z<;>rw[z]
  .exact⟨0,rfl,by decide⟩
  .exact⟨1+q1,by rw[abN];rfl,by omega⟩
  .exact⟨q2,rfl,by omega⟩
 walk_at"xs";refine gu ere ?_;walk_at"xs";have hsum:=Cr fun p hp=>(hps p hp).2;walk_at"xn";refine yp (fun z m=>∃a,m=MSt.mk [a,some (.obj 1),some (.imm (.int (re:Int)))] [fd,natD ps,((ps.take z).map (cutN (ps.sum+re))).map prD] 3) ⟨none,rfl⟩ ?_ ?_ ?_
 .rintro z m ⟨a,rfl⟩;rfl
 .rintro z d m ez nz ⟨a,rfl⟩ D2 hD2;obtain⟨p,ep,rfl,hz⟩:=gmap ez;have hp:=hps p (OR ep);have hp2:=wg (OR ep);walk_at"xs";refine IX rfl (wJ ps) ?_;rw[sumZ];walk_at"xs";refine⟨(p:Int),ps.sum+re,by rw[abN],by omega,aaE (show((p:Nat):Int).natAbs≤1600 by omega) (by decide),aaE (show ps.sum+re≤100000 by omega) (by decide),?_⟩;rw[Ig (by omega)];walk_at"xx";refine⟨_,rfl,by rw[aaq,Ge,Ge,aaK];omega,hD2 _ ⟨some (.imm (.int (p:Int))),?_⟩⟩;rw[aa1,ep,aaQ,aaQ];rfl
 .rintro m hm ⟨a,rfl⟩;rw[ah,aag];walk_at"xs";exact k ps (ps.sum+re) fd hpl hps (by have:=List.length_pos_iff.mp (show 0<ps.length by omega);cases ps with|nil=>exact(this rfl).elim|cons x ps=>have:=hps x aah;simp only[ab9];omega) (by omega) (by omega) (hf.mono (by omega))
theorem qv(T:Bl K mg)(D:DefM K mg "_law_hall" fZ ["_law_tape_here","_law_menu"])(G_law_draw:FnM P w K mg base "_law_draw" 1 2 im)(G_law_parts:FnM P w K mg base "_law_parts" 3 2 sI):FnM P w K mg base "_law_hall" 4 2 vw:=by
 refine aU D bw rfl (nN:=8) rfl (by decide) ?ar fun cdv A outer s H E f hr=>⟨_,(mz' (cR (i:=2) bw.nd rfl (adl rfl) (ab (mv' 1) (mf' G_law_draw (hr.mono (by decide)) (mc' (mv' 0) (mc' (au bg (by rfl) T.len cK (mc' (mv' 1) mn')) mn')))))
   (mz' (al 3 bw.nd (mf' G_law_parts (hr.mono (by decide)) (mc' (mv' 0) (mc' (au bg (by rfl) T.len cK (mc' (mv' 2) mn')) mn'))))
   (mz' (cR (i:=4) bw.nd rfl (adl rfl) (cp fm (mv' 3) (cY mh') c5))
   (mz' (bc (av (bG hr.units) (mf' G_law_draw (hr.mono (by decide)) (mc' (mv' 0) (mc' mh' mn'))) mh' (aI _)) (mz' (cR (i:=2) bw.nd rfl (adl rfl) (ad aB (cp fm (mv' 2) c5 (cY mh')) (au bg (by rfl) T.len cK (mc' (mv' 2) mn'))))
   (mz' (al 5 bw.nd (ab (mv' 4) mh'))
   (mz' (bt (bz (mv' 4)) (ak 6 bw.nd) (aa (bc (av jb (ad aB (ab (mv' 6) mh') (ab (mv' 5) mh')) (ad aB (ab (mv' 5) mh') (ab (mv' 6) mh')) (aI _)) (aa (al 5 bw.nd (mv' 6))) ay)) aaG)
   (aa (cR (i:=4) bw.nd rfl (adl rfl) (ad aB (bO (mc' (mv' 5) mn')) (au bg (by rfl) T.len cK (mc' (mv' 2) mn')))))))) ay)
   (mz' (al 7 bw.nd (cy dg (by rfl) T.tuple gV (mc' (cv (own:=["_law_k"]) (fr:=["_law_speeds","_law_rooms"]) (ps:=[4,2]) (sc:=(ac fZ)) (by exact⟨rfl,by decide +kernel,by decide +kernel,by decide +kernel,by decide +kernel⟩) (bJ (by rfl) T.range (mc' (au bg (by rfl) T.len cK (mc' (mv' 2) mn')) mn')) (fun _ _ _ _ _=>(ak 0 (show acf ((["_law_k"]:List Str)++(["_law_speeds","_law_rooms"]:List Str))from by decide +kernel))) (fun _ _ _ _ _=>cF) (fun _ _ _ _ _=>(af (mc' (ab (mv' 1) (mv' 0)) (mc' (ab (mv' 2) (mv' 0)) mn'))))) mn')))
   (aa (ag (af (mc' (ab (mv' 3) mh') (mc' (mv' 7) (mc' (l9 (bG hr.units) (mf' G_law_draw (hr.mono (by decide)) (mc' (mv' 0) (mc' mh' mn'))) mh' (aI _)) mn'))))))))))),?_⟩
 case ar=>rintro as Kc ⟨fd,c,ms,rfl,_⟩;rfl
 rintro as Kc hl ⟨fd,c,ms,rfl,⟨hne,hml,hms⟩,hf,hc,k⟩;have hm0:0<ms.length:=List.length_pos_iff.mpr hne;refine ai (MSt.mk [some (.obj 0),some (.imm (.list (ms.map lnD))),none,none,none,none,none,none] [fd] 1) rfl ?_;walk_at"xs";rw[Ge];refine⟨fd,_,_,rfl,hf,by omega,by omega,by omega,fun i fd hi0 hi1 hf=>?_⟩;obtain⟨i,rfl⟩:=ab8 hi0;obtain⟨rs,ers⟩:∃rs,ms[i]?=some rs:=⟨_,oR (show i<ms.length by omega)⟩;obtain⟨r1,r4,hr⟩:=hms rs (OR ers);walk_at"xn";refine qU (d:=lnD rs) (aA (by rw[aae,ers];rfl)) ?_;walk_at"xs";dsimp only[lnD];walk_at"xs";rw[ah];refine⟨fd,_,rs.length,rfl,hf,by omega,r4,fun ns S fd hpl hps hS1 hS2 hSs hf=>?_⟩;walk_at"xn";refine ca ?_;walk_at"xx";refine ca ?_;obtain⟨p0,sp,rfl⟩:∃p0 sp,ns=p0::sp:=by
  cases ns with
  |nil=>simp at hpl
  |cons p0 sp=>exact⟨p0,sp,rfl⟩
 have hsl:sp.length=rs.length:=by simpa using hpl
 have h0:=hps p0 aah;have hsp:∀p∈sp,1≤p/\p≤1600:=fun p hp=>hps p (aaf _ hp);have ecut:cutD (((p0::sp).map (cutN S)).map prD) (some 1) none=(sp.map (cutN S)).map prD:=by
  rw[show(1:Int)=((1:Nat):Int)from rfl,jY];rfl
 rw[ecut];walk_at"xn";refine oj ?_;refine x_JS (fun m=>∃(rs':List Nat) (sp':List Nat) (a b:Option L2.R) (fd':List iO),m=MSt.mk [some (.obj 0),some (.imm (.list (ms.map lnD))),some (.imm (.tuple (natD rs'))),some (.obj 1),some (.obj 2),a,b,none] [fd',((p0::sp).map (cutN S)).map prD,(sp'.map (cutN S)).map prD] 1/\TapeD (c+12) fd'/\rs'.length=rs.length/\sp'.length=rs.length/\(∀r∈rs',1≤r/\r≤6)/\(∀p∈sp',1≤p/\p≤1600)/\sp'.sum≤sp.sum) (fun N J=>?_) ?_
 .walk_at"xs";refine⟨fd,_,_,rfl,hf,by omega,by omega,by omega,fun q1 fd hq0 hq1 hf=>?_⟩;walk_at"xx";refine aG (fun z=>?_) (fun z=>?_)
  .walk_at"xs";obtain⟨r0,rt,rfl⟩:∃r0 rt,rs=r0::rt:=by
    cases rs with
    |nil=>simp at r1
    |cons r0 rt=>exact⟨r0,rt,rfl⟩
   obtain⟨s0,st,rfl⟩:∃s0 st,sp=s0::st:=by
    cases sp with
    |nil=>simp at hsl
    |cons s0 st=>exact⟨s0,st,rfl⟩
   have ec1:cutD (natD (r0::rt)) none (some 1)=[.int (r0:Int)]:=by
    rw[show(1:Int)=((1:Nat):Int)from rfl,jA];rfl
   rw[ec1,ah];generalize hn:(r0::rt).length=n at *;refine Me (by omega) (by omega) (by simp;omega) ?_;rw[aaX,r8,y8];walk_at"xs";refine m7 (d:=prD (cutN S s0)) rfl (show atI (((s0::st).map (cutN S)).map prD) 0=some (prD (cutN S s0))from aA (j:=0) (xs:=((s0::st).map (cutN S)).map prD) rfl) ?_;walk_at"xs";refine yp (fun z m=>∃(q:Nat) (b:Option iO),m=MSt.mk [some (.obj 0),some (.imm (.list (ms.map lnD))),some (.imm (.tuple (natD (aax n r0)))),some (.obj 1),some (.obj 2),some (.imm (prD (cutN S q))),b.map L2.R.imm,none] [fd,((p0::s0::st).map (cutN S)).map prD,((s0::st).map (cutN S)).map prD] 3/\q∈s0::st/\∀x∈(s0::st).take z,q≤x) ?_ ?_ ?_ ?_
   .exact⟨s0,none,rfl,aah,fun _ h=>by cases h⟩
   .rintro z m ⟨q,b,rfl,_⟩;rfl
   .rintro z d m ez nz ⟨q,b,rfl,hq,hmn⟩ D2 hD2;obtain⟨p',ep',rfl,hz⟩:=gmap ez;obtain⟨p,ep,rfl,hz'⟩:=gmap ep';have b1:=hsp p (OR ep);have b2:=hsp q hq;have c1:=mD (b:=S) (p:=p) b1.1 (by omega) hS1 (by omega);have c2:=mD (b:=S) (p:=q) b2.1 (by omega) hS1 (by omega);have lt:=Jj (S:=S) (p:=p) (q:=q) hS1;have tk:∀y,(∀x∈(s0::st).take z,y≤x)->y≤p->∀x∈(s0::st).take (z+1),y≤x:=fun y h1 h2 x hx=>by
     rw[aa1,ep]at hx;obtain hx|hx:=abn.mp hx
     .exact h1 x hx
     .rw[aaw.mp hx];exact h2
    dsimp only[prD];walk_at"xs";refine aG (fun z=>?_) (fun z=>?_)
    .walk_at"xs";have hlt:=lt.mp (aeC.mp (by rw[aaB,aaB];exact z));exact hD2 _ ⟨p,some (prD (cutN S p)),rfl,OR ep,tk p (fun x hx=>aaF (adn hlt) (hmn x hx)) (aac _)⟩
    .walk_at"xs";refine hD2 _ ⟨q,some (prD (cutN S p)),rfl,hq,tk q hmn (Nat.le_of_not_lt fun y=>z ?_)⟩;have:=aeC.mpr (lt.mpr y);rwa[aaB,aaB]at this
   .rintro m hm ⟨q,b,rfl,hq,hmn⟩;rw[Ge,Ge,aag]at hmn;walk_at"xs";rw[ah,acX];refine Jf (by omega) (by omega) (by simp;omega) ?_;rw[aaX,r8];refine kU (k:=2) rfl (show 1≤2 by decide) (fun j hj=>?_) (J _ ⟨aax n r0,aax n q,some (.imm (prD (cutN S q))),b.map L2.R.imm,fd,by rw[afC,afC];rfl,hf.mono (by omega),by rw[acX],by rw[acX],fun r hr'=>?_,fun p hp=>?_,?_⟩)
    .match j with
     |0|1|2|3|5|7=>exact fun z=>by cases z
     |6=>cases b with
      |none=>exact fun z=>by cases z
      |some b=>exact fun z=>by cases z
     |4=>exact(hj rfl).elim
     |n+8=>exact fun z=>by cases z
    .rw[afU hr'];exact hr r0 aah
    .rw[afU hp];exact hsp q hq
    .exact lj (by omega) hmn
  .walk_at"xs";exact J _ ⟨rs,sp,none,none,fd,rfl,hf.mono (by omega),rfl,hsl,hr,hsp,aac _⟩
 rintro _ ⟨rs',sp',a,b,fd,rfl,hf,hrl,hsl',hr',hsp',hsum⟩;walk_at"xx";rw[ah];refine⟨by omega,by omega,?_⟩;rw[aaX];walk_at"xn";refine bC (fun z m=>∃a,m=MSt.mk [a,some (.obj 2),some (.imm (.tuple (natD rs')))] [fd,((p0::sp).map (cutN S)).map prD,(sp'.map (cutN S)).map prD,((aeA (srvS S) sp' rs').take z).map Srv.d] 4) ⟨none,rfl⟩ ?_ ?_
 .rintro z d m e hz ⟨a,rfl⟩ D1 hD1 hR1;obtain⟨hi,rfl⟩:=bX e;obtain⟨r,er⟩:∃r,rs'[z]?=some r:=⟨_,oR (by omega)⟩;obtain⟨p,ep⟩:∃p,sp'[z]?=some p:=⟨_,oR (by omega)⟩;rw[show(0:Int)+(z:Int)=((z:Nat):Int) by omega];walk_at"xs";refine m7 (d:=prD (cutN S p)) rfl (aA (by rw[aae,aae,ep];rfl)) ?_;walk_at"xs";refine aD (aA (aE er)) ?_;walk_at"xs";refine⟨_,rfl,by rw[aaq,Ge,aaK];omega,hD1 _ ⟨some (.imm (.int (z:Int))),?_⟩⟩;rw[aa1,acz.mpr ⟨p,r,ep,er,rfl⟩,aaQ];rfl
 .rintro m hm ⟨a',rfl⟩;have ezl:(aeA (srvS S) sp' rs').length=rs'.length:=by rw[ag8];omega
  rw[aF,<-ezl,aag];walk_at"xs";refine m7 (d:=prD (cutN S p0)) rfl (show atI (((p0::sp).map (cutN S)).map prD) 0=some (prD (cutN S p0))from aA (j:=0) (xs:=((p0::sp).map (cutN S)).map prD) rfl) ?_;walk_at"xs";refine⟨fd,_,_,rfl,hf,by omega,by omega,by omega,fun q fd hq0 hq1 hf=>?_⟩;walk_at"xx";have c0:=mD (b:=S) (p:=p0) h0.1 (by omega) hS1 (by omega);rw[ab9]at hSs;refine k (yf S p0 sp' rs' (decide (q=0))) S fd ⟨c0.1,c0.2.1,c0.2.2.1,c0.2.2.2,by show 1≤(aeA (srvS S) sp' rs').length;omega,by show(aeA (srvS S) sp' rs').length≤4;omega,fun s hs=>?_⟩ (zH hS1 hS2 (by omega) (by omega)) (hf.mono (by omega));obtain⟨i,hi⟩:=ac8 hs;obtain⟨p,r,e1,e2,rfl⟩:=acz.mp hi;have hp:=hsp' p (OR e1);exact Af (mD (b:=S) (p:=p) hp.1 (by omega) hS1 (by omega)) (hr' r (OR e2))
theorem jc(T:Bl K mg)(D:DefM K mg "_law_all_lines" cn ["_law_hall_here"]):FnM P w K mg base "_law_all_lines" 1 1 FH:=by
 refine aU D bh rfl (nN:=6) rfl (by decide) ?ar fun cdv A outer s H E f hr=>⟨_,(mz' (al 1 bh.nd (bO (mc' (af mn') mn')))
   (mz' (bt (bz (ab (mv' 0) mh')) (bi (n:=2) (ae (ak 2 bh.nd) (ae (ak 3 bh.nd) aV))) (mz' (al 4 bh.nd (bO mn'))
   (mz' (bt (bz (mv' 1)) (mI (i:=5) bh.nd rfl (adl rfl)) (aa (cV (gi afV afW lp (mv' 4) (mc' (cv (own:=["_law_many"]) (fr:=["_law_lines"]) (ps:=[5]) (sc:=(ac cn)) (by exact⟨rfl,by decide +kernel,by decide +kernel,by decide +kernel,by decide +kernel⟩) (bJ (by rfl) T.range (mc' (ad aM (mv' 3) mh') mn')) (fun _ _ _ _ _=>(ak 0 (show acf ((["_law_many"]:List Str)++(["_law_lines"]:List Str))from by decide +kernel))) (fun _ _ _ _ _=>cF) (fun _ _ _ _ _=>(ad aM (mv' 1) (af (mc' (mv' 0) mn'))))) mn')))) aaG)
   (aa (al 1 bh.nd (mv' 4))))) aaG)
   (aa (ag (mv' 1))))),?_⟩
 case ar=>rintro as Kc ⟨h,rfl,_⟩;rfl
 rintro as Kc hl ⟨h,rfl,ho,k⟩;refine ai (MSt.mk [some (.imm (.tuple [.tuple [.int h.a,.int h.b],.tuple (h.ss.map Srv.d),.bool h.mv])),none,none,none,none,none] [] 0) rfl ?_;walk_at"xs";refine ca ?_;walk_at"xx";refine fi (fun i m=>∃a b c,m=MSt.mk [some (.imm (.tuple [.tuple [.int h.a,.int h.b],.tuple (h.ss.map Srv.d),.bool h.mv])),some (.obj 0),a,b,none,c] [(((h.rs.take i).foldl M3.stepL [[]]).map lnD)] 0) ⟨none,none,none,rfl⟩ ?_ ?_
 .rintro i d m e n ⟨a,b,c,rfl⟩;obtain⟨s,es,rfl,hi⟩:=gmap e;have r1:=(ho.ok s (OR es)).r1;have r6:=(ho.ok s (OR es)).r6;have hrl:=h.rsl;generalize hprev:(h.rs.take i).foldl M3.stepL [[]]=prev;have hpl:∀a∈prev,a.length≤4:=by
   intro a ha;rw[<-hprev]at ha;have:=M3.allR_len (by rw[<-M3.allL_eq];exact ha);rw[this,aaK];have:=ho.n4;omega
  have hpn:prev.length≤2401:=by
   rw[<-hprev];exact M3.fold_small (by rw[aaK];have:=ho.n4;omega) (fun r hr=>ho.r6 r (ac6 hr))
  have hfold:((h.rs.take (i+1)).foldl M3.stepL [[]])=M3.stepL prev s.r:=by
   rw[aa1,Hall.rs_get es,adJ,hprev];rfl
  rw[hfold];dsimp only[Srv.d];walk_at"xs"
  .rfl
  walk_at"xs";refine ca ?_;walk_at"xx";refine iJ (fun i m=>∃a,m=MSt.mk [some (.imm (.tuple [.tuple [.int h.a,.int h.b],.tuple (h.ss.map Srv.d),.bool h.mv])),some (.obj 0),some (.imm (.tuple [.int s.a,.int s.b])),some (.imm (.int s.r)),some (.obj 1),a] [prev.map lnD,(M3.stepL (prev.take i) s.r).map lnD] 1) ⟨c,rfl⟩ ?_ ?_ ?_
  .rintro j m ⟨a,rfl⟩;rfl
  .rintro j d m ej nj ⟨a,rfl⟩;obtain⟨l,el,rfl,hj⟩:=gmap ej;have hl4:=hpl l (OR el);walk_at"xs";refine⟨by omega,by omega,?_⟩;have en:((s.r:Int)+1).toNat=s.r+1:=by omega
   rw[en];walk_at"xn";refine bC (fun z m=>∃b,m=MSt.mk [b,some (.imm (lnD l))] [prev.map lnD,(M3.stepL (prev.take j) s.r).map lnD,((aaI z).map fun y=>l++[y]).map lnD] 3) ⟨none,rfl⟩ ?_ ?_
   .rintro z dz m ez nz ⟨b,rfl⟩ D1 hD1 hR1;obtain⟨hz,rfl⟩:=bX ez;walk_at"xs";refine jI (by rw[aaq,ah];simp;omega) ?_;walk_at"xs";refine⟨_,rfl,by rw[aaq];simp;omega,hD1 _ ⟨some (.imm (.int (0+(z:Int)))),?_⟩⟩;have ee:((aaI (z+1)).map fun y=>l++[y]).map lnD=((aaI z).map fun y=>l++[y]).map lnD++[.tuple (natD l++[.int (0+(z:Int))])]:=by
     rw[ac3];simp[lnD,natD]
    rw[ee];rfl
   .rintro m n ⟨b,rfl⟩;rw[aF];walk_at"xs";have hz:((M3.stepL (prev.take j) s.r).map lnD).length+(((aaI (s.r+1)).map fun y=>l++[y]).map lnD).length≤aam:=by
     rw[aaq,Ge,Ge,Ge,aa2,M3.stepL_length,aaK];have:min j prev.length*(s.r+1)≤2401*7:=abC (by omega) (by omega);omega
    refine' zF (ds:=(M3.stepL (prev.take j) s.r).map lnD) ?eb hz ?_
    case eb=>rfl
    have ee:(M3.stepL (prev.take (j+1)) s.r).map lnD=(M3.stepL (prev.take j) s.r).map lnD++((aaI (s.r+1)).map fun y=>l++[y]).map lnD:=by
     rw[M3.stepL_take el,aaQ]
    rw[ee];exact⟨_,rfl⟩
  .rintro m n ⟨a,rfl⟩;rw[Ge,aag];walk_at"xn";refine zQ ?_;refine GN rfl ?_;refine oZ [1] (MSt.mk [some (.imm (.tuple [.tuple [.int h.a,.int h.b],.tuple (h.ss.map Srv.d),.bool h.mv])),some (.obj 0),some (.imm (.tuple [.int s.a,.int s.b])),some (.imm (.int s.r)),none,none] [(M3.stepL prev s.r).map lnD] 0) (Cp rfl rfl rfl rfl rfl rfl ⟨rfl,⟨1,rfl,rfl⟩,rfl,rfl,trivial,trivial,trivial⟩) ⟨_,_,_,rfl⟩
 .rintro m n ⟨a,b,c,rfl⟩;rw[Ge,<-h.rsl,aag,show h.rs.foldl M3.stepL [[]]=M3.allL h.rs from rfl,M3.allL_eq];walk_at"xs";exact k
theorem qh(T:Bl K mg)(D:DefM K mg "_law_rule" f7 ["_law_tape_here","_law_hall_here"])(G_law_draw:FnM P w K mg base "_law_draw" 1 2 im)(G_law_all_lines:FnM P w K mg base "_law_all_lines" 1 1 FH):FnM P w K mg base "_law_rule" 2 2 yH:=by
 refine aU D jE rfl (nN:=3) rfl (by decide) ?ar fun cdv A outer s H E f hr=>⟨_,(mz' (al 2 jE.nd (ab (bO (mc' aC (mc' aC (mc' aC (mc' aC (mc' aC (mc' aC mn'))))))) (mf' G_law_draw (hr.mono (by decide)) (mc' (mv' 0) (mc' mh' mn')))))
   (mz' (bc (av (pJ hr.units) (mv' 2) aC (aI _)) (aa (ag (af (mc' (mv' 2) mn')))) ay)
   (aa (ag (af (mc' (mv' 2) (mc' (cy dg (by rfl) T.tuple gV (mc' (cv (own:=["_law_lines"]) (fr:=["_law_tape_here","_law_hall_here"]) (ps:=[0,1]) (sc:=(ac f7)) (by exact⟨rfl,by decide +kernel,by decide +kernel,by decide +kernel,by decide +kernel⟩) (bz (dU (mf' G_law_all_lines (hr.mono (by decide)) (mc' (mv' 1) mn')))) (fun _ _ _ _ _=>(ak 0 (show acf ((["_law_lines"]:List Str)++(["_law_tape_here","_law_hall_here"]:List Str))from by decide +kernel))) (fun _ _ _ _ _=>cF) (fun _ _ _ _ _=>(mf' G_law_draw (hr.mono (by decide)) (mc' (mv' 1) (mc' (au bg (by rfl) T.len cK (mc' (ab (mv' 2) mh') mn')) mn'))))) mn')) mn'))))))),?_⟩
 case ar=>rintro as Kc ⟨fd,c,h,rfl,_⟩;rfl
 rintro as Kc hl ⟨fd,c,h,rfl,ho,hf,hc,k⟩;have n1:=ho.n1;have n4:=ho.n4;refine ai (MSt.mk [some (.obj 0),some (.imm (.tuple [.tuple [.int h.a,.int h.b],.tuple (h.ss.map Srv.d),.bool h.mv])),none] [fd] 1) rfl ?_;walk_at"xs";refine⟨fd,_,c,rfl,hf,by omega,by decide,by decide,fun r fd hr0 hr1 hf=>?_⟩;walk_at"xx";have five:∀(q:Rule) (x:Str),atI [aeM "random",.str "two",.str "least",.str "quick",.str "turns",.str "told"] r=some (.str x)->q.d = .tuple [.str x]->q.Ok h->x ≠ "told" -> ∃d,atI [aeM "random",.str "two",.str "least",.str "quick",.str "turns",.str "told"] r=some d/\((∃x q,d = .str x/\x ≠ "told" /\ Rule.d q = .tuple [.str x]/\q.Ok h)\/d = .str "told"):=fun q x e1 e2 e3 e4=>⟨_,e1,.inl ⟨x,q,rfl,e4,e2,e3⟩⟩;obtain⟨d,ed,hd⟩:∃d,atI [aeM "random",.str "two",.str "least",.str "quick",.str "turns",.str "told"] r=some d/\((∃x q,d = .str x/\x ≠ "told" /\ Rule.d q = .tuple [.str x]/\q.Ok h)\/d = .str "told"):=by
  rcases (show r=0\/r=1\/r=2\/r=3\/r=4\/r=5 by omega)with rfl|rfl|rfl|rfl|rfl|rfl
  .exact five .random "random" rfl rfl trivial (by decide +kernel)
  .exact five .two "two" rfl rfl trivial (by decide +kernel)
  .exact five .least "least" rfl rfl trivial (by decide +kernel)
  .exact five .quick "quick" rfl rfl trivial (by decide +kernel)
  .exact five .turns "turns" rfl rfl trivial (by decide +kernel)
  .exact⟨_,rfl,.inr rfl⟩
 refine gu ed ?_;rcases hd with⟨x,q,rfl,hx,eq,qo⟩|rfl
 .walk_at"xs";rw[decide_eq_false hx];refine jy ?_;walk_at"xs";rw[<-eq];exact k q fd qo (hf.mono (by omega))
 .walk_at"xs";rw[decide_eq_true rfl];refine ga ?_;walk_at"xs";refine⟨h,rfl,ho,?_⟩;walk_at"xx";walk_at"xn";have hsm:(M3.allR h.rs).length≤2401:=kL (by rw[h.rsl];exact n4) ho.r6;refine fi (fun i m=>∃a fd' ps,m=MSt.mk [a,some (.obj 0),some (.imm (.tuple [.tuple [.int h.a,.int h.b],.tuple (h.ss.map Srv.d),.bool h.mv]))] [fd',natD ps] 2/\TapeD (c+1+i) fd'/\ps.length=i/\∀p∈ps,p<h.ss.length) ⟨none,fd,[],rfl,hf,rfl,fun _ h=>by cases h⟩ ?_ ?_
  .rintro i d m e n ⟨a,fd',ps,rfl,hf',hpl,hps⟩;obtain⟨l,el,rfl,hi⟩:=gmap e;walk_at"xs";refine⟨fd',_,_,rfl,hf',by omega,by rw[Ge];omega,by rw[Ge];omega,fun p fd2 hp0 hp1 hf2=>?_⟩;rw[Ge]at hp1;walk_at"xx";obtain⟨pn,rfl⟩:=ab8 hp0;refine⟨_,rfl,by rw[aaq,ah];omega,_,fd2,ps++[pn],by rw[lr];rfl,hf2,by simp;omega,fun p hp=>?_⟩;obtain z|z:=abn.mp hp
   .exact hps p z
   .simp at z;subst z;omega
  .rintro m n ⟨a,fd',ps,rfl,hf',hpl,hps⟩;rw[Ge]at hf' hpl;walk_at"xs";exact k (.told ps) fd' ⟨hpl,hps⟩ (hf'.mono (by omega))
theorem m6(T:Bl K mg)(D:DefM K mg "_law_orders" dN ["_law_many"]):FnM P w K mg base "_law_orders" 1 1 Ck:=by
 refine aU D bV rfl (nN:=5) rfl (by decide) ?ar fun cdv A outer s H E f hr=>⟨_,(mz' (al 1 bV.nd (bO (mc' (af mn') mn')))
   (mz' (bt (bJ (by rfl) T.range (mc' (mv' 0) mn')) (ak 2 bV.nd) (mz' (al 3 bV.nd (bO mn'))
   (mz' (bt (bz (mv' 1)) (mI (i:=4) bV.nd rfl (adl rfl)) (aa (cV (gi afV afW lp (mv' 3) (mc' (cv (own:=["_law_k"]) (fr:=["_law_order"]) (ps:=[4]) (sc:=(ac dN)) (by exact⟨rfl,by decide +kernel,by decide +kernel,by decide +kernel,by decide +kernel⟩) (bJ (by rfl) T.range (mc' (mv' 0) mn')) (fun _ _ _ _ _=>(ak 0 (show acf ((["_law_k"]:List Str)++(["_law_order"]:List Str))from by decide +kernel))) (fun _ _ _ _ _=>(sY (av (jx hr.units) (mv' 0) (mv' 1) (by with_unfolding_all rfl)))) (fun _ _ _ _ _=>(ad aM (mv' 1) (af (mc' (mv' 0) mn'))))) mn')))) aaG)
   (aa (al 1 bV.nd (mv' 3))))) aaG)
   (aa (ag (mv' 1))))),?_⟩
 case ar=>rintro as Kc ⟨n,rfl,_⟩;rfl
 rintro as Kc hl ⟨n,rfl,n4,k⟩;refine ai (MSt.mk [some (.imm (.int (n:Int))),none,none,none,none] [] 0) rfl ?_;walk_at"xs";refine ca ?_;walk_at"xx";refine⟨by omega,by omega,?_⟩;rw[aaX];refine fi (fun i m=>∃a b,m=MSt.mk [some (.imm (.int (n:Int))),some (.obj 0),a,none,b] [(ordK n i).map lnD] 0) ⟨none,none,rfl⟩ ?_ ?_
 .rintro i d m e hnp ⟨a,b,rfl⟩;obtain⟨hi,rfl⟩:=bX e;obtain⟨hk1,hk2⟩:=ci n n4 i (by omega);have hk3:=gc n n4 i (by omega);rw[show ordK n (i+1)=gl n (ordK n i)from rfl];generalize ordK n i=os at hk1 hk2 hk3;walk_at"xs";refine ca ?_;walk_at"xx";refine iJ (fun z m=>∃c d,m=MSt.mk [some (.imm (.int (n:Int))),some (.obj 0),c,some (.obj 1),d] [os.map lnD,(gl n (os.take z)).map lnD] 1) ⟨_,_,rfl⟩ ?_ ?_ ?_
  .rintro z m ⟨c,d,rfl⟩;rfl
  .rintro z d m ez nz ⟨c,d',rfl⟩;obtain⟨l,el,rfl,hz⟩:=gmap ez;obtain⟨hl4,hl3⟩:=hk2 l (OR el);have hzl:=(aad.mp el).1;have hz24:=hk3 z (by omega);walk_at"xs";refine⟨by omega,by omega,?_⟩;rw[aaX];walk_at"xn";refine fi (fun y m=>∃c,m=MSt.mk [c,some (.imm (lnD l))] [os.map lnD,(gl n (os.take z)).map lnD,(((aaI y).filter fun q=>!l.contains q).map fun q=>l++[q]).map lnD] 3) ⟨none,rfl⟩ ?_ ?_
   .rintro y d m ey ny ⟨c,rfl⟩;obtain⟨hy,rfl⟩:=bX ey;rw[show(0:Int)+(y:Int)=((y:Nat):Int) by omega];have hin:(natD l).any (fun x=>aar x (.int (y:Int)))=l.contains y:=by
     rw[acE,agd];rw[agI];constructor
     .rintro⟨x,hx,ex⟩;obtain⟨w,hw,rfl⟩:=aaA.mp hx;rw[bW]at ex;rw[<-of_decide_eq_true ex];exact hw
     .intro hm;exact⟨_,aaA.mpr ⟨y,hm,rfl⟩,by rw[bW];exact decide_eq_true rfl⟩
    have hlen:(((aaI y).filter fun q=>!l.contains q).map fun q=>l++[q]).length≤4:=by
     rw[Ge];have:=aeI (fun q=>!l.contains q) (aaI y);rw[aa2]at this;omega
    walk_at"xs";refine x_in (d:=.int (y:Int)) (ds:=natD l) rfl (.inr rfl) (d8 _) (fe l) (by decide) ?_;walk_at"xs";rw[hin];rw[ac3,ahx,aaQ,aaQ]
    cases hc:l.contains y with
    |true =>
     refine ga ?_;walk_at"xs";refine⟨some (.imm (.int (y:Int))),?_⟩;rw[show([y].filter fun q=>!l.contains q)=[] by rw[aeS,hc];rfl,abJ,abJ,abb];rfl
    |false =>
     refine jy ?_;walk_at"xs";refine jI (by rw[aaq,ah];simp;omega) ?_;walk_at"xs";refine⟨_,rfl,by rw[aaq,Ge];omega,some (.imm (.int (y:Int))),?_⟩;rw[show([y].filter fun q=>!l.contains q)=[y] by rw[aeS,hc];rfl];simp[lnD,natD,MSt.setV]
   .rintro m ny ⟨c,rfl⟩;rw[aF];walk_at"xx";have hst:=lb (n:=n) el;refine⟨_,rfl,by show((gl n (os.take z)).map lnD).length+((((aaI n).filter fun q=>!l.contains q).map fun q=>l++[q]).map lnD).length≤aam;rw[aaq,Ge,Ge,Ge];have:=aeI (fun q=>!l.contains q) (aaI n);rw[aa2]at this;omega,?_⟩;rw[hst,aaQ];exact⟨_,_,rfl⟩
  .rintro m nz ⟨c,d',rfl⟩;rw[Ge,aag];walk_at"xn";refine zQ (GN rfl (oZ [1] (MSt.mk [some (.imm (.int (n:Int))),some (.obj 0),none,none,none] [(gl n os).map lnD] 0) (Cp rfl rfl rfl rfl rfl rfl ⟨rfl,⟨1,rfl,rfl⟩,trivial,trivial,trivial,trivial⟩) ⟨_,_,rfl⟩))
 .rintro m hnp ⟨a,b,rfl⟩;rw[aF];walk_at"xs";exact k
theorem kz(T:Bl K mg)(D:DefM K mg "_law_soonest" fo ["_law_hall_here","_law_lines","_law_order"]):FnM P w K mg base "_law_soonest" 1 3 oY:=by
 refine aU D bA rfl (nN:=8) rfl (by decide) ?ar fun cdv A outer s H E f hr=>⟨_,(mz' (al 3 bA.nd (ab (mv' 2) mh'))
   (mz' (bt (bz (mv' 2)) (ak 4 bA.nd) (mz' (al 5 bA.nd (ab (ab (ab (mv' 0) mh') (mv' 4)) mh'))
   (mz' (al 6 bA.nd (ab (ab (ab (mv' 0) mh') (mv' 3)) mh'))
   (mz' (al 7 bA.nd (ad aB (ad aB (ad aM (ab (mv' 1) (mv' 4)) mh') (ab (mv' 5) mh')) (ab (mv' 6) mh')))
   (aa (bc (av jb (mv' 7) (ad aB (ad aB (ad aM (ab (mv' 1) (mv' 3)) mh') (ab (mv' 6) mh')) (ab (mv' 5) mh')) (aI _)) (aa (al 3 bA.nd (mv' 4))) ay))))) aaG)
   (aa (ag (mv' 3))))),?_⟩
 case ar=>rintro as Kc ⟨h,l,o,rfl,_⟩;rfl
 rintro as Kc hl ⟨h,l,o,rfl,ho,hL,hO,k⟩;obtain⟨o0,os,rfl,h0⟩:=hO.cons;refine ai (MSt.mk [some (.imm (.tuple [.tuple [.int h.a,.int h.b],.tuple (h.ss.map Srv.d),.bool h.mv])),some (.imm (.tuple (natD l))),some (.imm (.tuple (natD (o0::os)))),none,none,none,none,none] [] 0) rfl ?_;walk_at"xs";refine aD (aA (j:=0) (aE rfl)) ?_;walk_at"xs";refine bC (fun i m=>∃a b c d,m=MSt.mk [some (.imm (.tuple [.tuple [.int h.a,.int h.b],.tuple (h.ss.map Srv.d),.bool h.mv])),some (.imm (.tuple (natD l))),some (.imm (.tuple (natD (o0::os)))),some (.imm (.int (M7.pick (bH h l) o0 ((o0::os).take i):Nat))),a,b,c,d] [] 0) ⟨none,none,none,none,rfl⟩ ?_ ?_
 .rintro i d m e n ⟨a,b,c,d',rfl⟩ D1 hD1 hR1;obtain⟨j,ej,rfl,hi⟩:=gmap e;have hj:=hO.lt j (OR ej);have hb:M7.pick (bH h l) o0 ((o0::os).take i)<h.ss.length:=fx hO i;have et:(o0::os).take (i+1)=(o0::os).take i++[j]:=by rw[aa1,ej];rfl
  rw[et,M7.pick_app]at hD1;generalize M7.pick (bH h l) o0 ((o0::os).take i)=b at hb hD1⊢;obtain⟨s,es,ea,eb,hs⟩:=h.srv hj;obtain⟨s',es',ea',eb',hs'⟩:=h.srv hb;have so:=ho.ok s hs;have so':=ho.ok s' hs';have q1:=so.a2;have q2:=so.b2;have q3:=so'.a2;have q4:=so'.b2;have l1:=hL.le ho _ (OR (getN hL.1 hj));have l2:=hL.le ho _ (OR (getN hL.1 hb));have m1:(l.getD j 0+1)*s.b≤7*1000000:=abC (by omega) (by omega);have m2:(l.getD b 0+1)*s'.b≤7*1000000:=abC (by omega) (by omega);walk_at"xs";refine aD (d:=s.d) (aA (by rw[aae,es];rfl)) ?_;dsimp only[Srv.d];walk_at"xs";refine aD (d:=s'.d) (aA (by rw[aae,es'];rfl)) ?_;dsimp only[Srv.d];walk_at"xs";refine aD (aA (aE (getN hL.1 hj))) ?_;walk_at"xs";refine aD (aA (aE (getN hL.1 hb))) ?_;walk_at"xs";have eq:bH h l j b=decide ((l.getD j 0+1)*s.b*s'.a<(l.getD b 0+1)*s'.b*s.a):=by unfold bH;rw[ea,eb,ea',eb']
  have cast:(((l.getD j 0:Int)+1)*(s.b:Int)*(s'.a:Int)<((l.getD b 0:Int)+1)*(s'.b:Int)*(s.a:Int))↔((l.getD j 0+1)*s.b*s'.a<(l.getD b 0+1)*s'.b*s.a):=by
   rw[show((l.getD j 0:Int)+1)*(s.b:Int)*(s'.a:Int)=(((l.getD j 0+1)*s.b*s'.a:Nat):Int) by rw[aaB,aaB,abN];rfl,show((l.getD b 0:Int)+1)*(s'.b:Int)*(s.a:Int)=(((l.getD b 0+1)*s'.b*s.a:Nat):Int) by rw[aaB,aaB,abN];rfl];exact aeC
  refine aG (fun q=>?_) (fun q=>?_)
  .walk_at"xs";rw[if_pos (show bH h l j b=true by rw[eq];exact decide_eq_true (cast.mp q))]at hD1;exact hD1 _ ⟨_,_,_,_,rfl⟩
  .walk_at"xs";rw[if_neg (show ¬bH h l j b=true by rw[eq,decide_eq_true_eq];exact fun z=>q (cast.mpr z))]at hD1;exact hD1 _ ⟨_,_,_,_,rfl⟩
 .rintro m n ⟨a,b,c,d,rfl⟩;rw[ah,aag];walk_at"xs";exact k
theorem qB(T:Bl K mg)(D:DefM K mg "_law_sent" iW ["_law_hall_here","_law_rule_here","_law_stand_here","_law_order"])(G_law_all_lines:FnM P w K mg base "_law_all_lines" 1 1 FH)(G_law_soonest:FnM P w K mg base "_law_soonest" 1 3 oY):FnM P w K mg base "_law_sent" 2 4 jq:=by
 refine aU D bU rfl (nN:=9) rfl (by decide) ?ar fun cdv A outer s H E f hr=>⟨_,(mz' (cz (mv' 2) (bi (n:=2) (ae (ak 4 bU.nd) (ae (ak 5 bU.nd) aV))))
   (mz' (bc (av (bG hr.units) (ab (mv' 1) mh') aC (aI _)) (aa (ag (ab (mv' 3) mh'))) ay)
   (mz' (bc (av (bG hr.units) (ab (mv' 1) mh') aC (aI _)) (aa (ag (mv' 5))) ay)
   (mz' (bc (av (bG hr.units) (ab (mv' 1) mh') aC (aI _)) (aa (ag (ab (ab (mv' 1) mh') (gi af3 PySem.F.type_list_index (uU hr.units) (mf' G_law_all_lines (hr.mono (by decide)) (mc' (mv' 0) mn')) (mc' (mv' 4) mn'))))) ay)
   (mz' (bc (av (bG hr.units) (ab (mv' 1) mh') aC (aI _)) (aa (ag (mf' G_law_soonest (hr.mono (by decide)) (mc' (mv' 0) (mc' (mv' 4) (mc' (mv' 3) mn')))))) ay)
   (mz' (al 6 bU.nd (mv' 3))
   (mz' (bc (av (bG hr.units) (ab (mv' 1) mh') aC (aI _)) (aa (al 6 bU.nd (cp fm (mv' 3) c5 (cY mh')))) ay)
   (mz' (al 7 bU.nd (ab (mv' 6) mh'))
   (mz' (bt (bz (mv' 6)) (ak 8 bU.nd) (aa (bc (av jb (ab (mv' 4) (mv' 8)) (ab (mv' 4) (mv' 7)) (aI _)) (aa (al 7 bU.nd (mv' 8))) ay)) aaG)
   (aa (ag (mv' 7)))))))))))),?_⟩
 case ar=>rintro as Kc ⟨h,r,l,t,o,rfl,_⟩;rfl
 rintro as Kc hl ⟨h,r,l,t,o,rfl,ho,hr0,hL,hO,k⟩;have hll:=hL.1;have hO':Ord l.length o:=by rw[hll];exact hO
 cases r with
 |random =>
  refine ai (MSt.mk [some (.imm h.d),some (.imm (.tuple [.str "random"])),some (.imm (.tuple [lnD l,.int (t:Int)])),some (.imm (.tuple (natD o))),none,none,none,none,none] [] 0) rfl ?_;walk_at"xs"
  .rfl
  walk_at"xs";refine aG (fun _=>?_) (fun z=>(z rfl).elim);obtain⟨o0,os,rfl,h0⟩:=hO.cons;walk_at"xs";refine aD (aA (j:=0) (aE rfl)) ?_;walk_at"xs";exact k
 |turns =>
  refine ai (MSt.mk [some (.imm h.d),some (.imm (.tuple [.str "turns"])),some (.imm (.tuple [lnD l,.int (t:Int)])),some (.imm (.tuple (natD o))),none,none,none,none,none] [] 0) rfl ?_;walk_at"xs"
  .rfl
  walk_at"xs";refine aG (fun z=>absurd z (by decide +kernel)) (fun _=>?_);walk_at"xs";refine aG (fun _=>?_) (fun z=>(z rfl).elim);walk_at"xs";exact k
 | told ps =>
  refine ai (MSt.mk [some (.imm h.d),some (.imm (.tuple [.str "told",.tuple (natD ps)])),some (.imm (.tuple [lnD l,.int (t:Int)])),some (.imm (.tuple (natD o))),none,none,none,none,none] [] 0) rfl ?_;walk_at"xs"
  .rfl
  walk_at"xs";refine aG (fun z=>absurd z (by decide +kernel)) (fun _=>?_);walk_at"xs";refine aG (fun z=>absurd z (by decide +kernel)) (fun _=>?_);walk_at"xs";refine aG (fun _=>?_) (fun z=>(z rfl).elim);walk_at"xs";refine⟨h,rfl,ho,?_⟩;walk_at"xx";have hp:=M7.place_at hL.fits;refine CZ (k':=1) (j:=M7.placeF 0 h.rs l) (y:=lnD l) rfl (yE l) (fun y hy=>?_) (by decide) (by rw[aae,hp];rfl) (by rw[uZ];exact decide_eq_true rfl) (fun i y hi hy=>?_) ?_
  .obtain⟨l',_,rfl⟩:=aaA.mp hy;exact yE l'
  .obtain⟨l',el,rfl,_⟩:=gmap hy;rw[uZ];refine decide_eq_false fun z=>?_;subst z;have:=M7.place_only el;omega
  .walk_at"xn";have hlt:M7.placeF 0 h.rs l<ps.length:=by rw[hr0.1,M7.allR_cnt];exact M7.place_lt hL.fits
   refine aD (aA (aE (getN rfl hlt))) ?_;exact k
 |quick =>
  refine ai (MSt.mk [some (.imm h.d),some (.imm (.tuple [.str "quick"])),some (.imm (.tuple [lnD l,.int (t:Int)])),some (.imm (.tuple (natD o))),none,none,none,none,none] [] 0) rfl ?_;walk_at"xs"
  .rfl
  walk_at"xs";refine aG (fun z=>absurd z (by decide +kernel)) (fun _=>?_);walk_at"xs";refine aG (fun z=>absurd z (by decide +kernel)) (fun _=>?_);walk_at"xs";refine aG (fun z=>absurd z (by decide +kernel)) (fun _=>?_);walk_at"xs";refine aG (fun _=>?_) (fun z=>(z rfl).elim);walk_at"xs";refine⟨h,l,o,rfl,ho,hL,hO,?_⟩;walk_at"xn";exact k
 | least =>
  refine ai (MSt.mk [some (.imm h.d),some (.imm (.tuple [.str "least"])),some (.imm (.tuple [lnD l,.int (t:Int)])),some (.imm (.tuple (natD o))),none,none,none,none,none] [] 0) rfl ?_;walk_at"xs"
  .rfl
  walk_at"xs";refine aG (fun z=>absurd z (by decide +kernel)) (fun _=>?_);walk_at"xs";refine aG (fun z=>absurd z (by decide +kernel)) (fun _=>?_);walk_at"xs";refine aG (fun z=>absurd z (by decide +kernel)) (fun _=>?_);walk_at"xs";refine aG (fun z=>absurd z (by decide +kernel)) (fun _=>?_);walk_at"xs";refine aG (fun z=>absurd z (by decide +kernel)) (fun _=>?_);obtain⟨o0,os,rfl,h0⟩:=hO'.cons;have hT:=hO';walk_at"xs";dsimp only[lnD];refine aD (aA (j:=0) (aE rfl)) ?_;walk_at"xs";refine bC (fun i m=>∃a,m=MSt.mk [some (.imm h.d),some (.imm (.tuple [.str "least"])),some (.imm (.tuple [lnD l,.int (t:Int)])),some (.imm (.tuple (natD (o0::os)))),some (.imm (.tuple (natD l))),some (.imm (.int (t:Int))),some (.imm (.tuple (natD (o0::os)))),some (.imm (.int (M7.pick (bj l) o0 ((o0::os).take i):Nat))),a] [] 0) ⟨none,rfl⟩ ?_ ?_
  .rintro i d m e n ⟨a,rfl⟩ D1 hD1 hR1;obtain⟨j,ej,rfl,hi⟩:=gmap e;have hj:=hT.lt j (OR ej);have hb:M7.pick (bj l) o0 ((o0::os).take i)<l.length:=fx hT i;have et:(o0::os).take (i+1)=(o0::os).take i++[j]:=by rw[aa1,ej];rfl
   rw[et,M7.pick_app]at hD1;generalize M7.pick (bj l) o0 ((o0::os).take i)=b at hb hD1⊢;walk_at"xs";refine aD (aA (aE (getN rfl hj))) ?_;walk_at"xs";refine aD (aA (aE (getN rfl hb))) ?_;walk_at"xs";refine aG (fun h=>?_) (fun h=>?_)
   .walk_at"xs";rw[if_pos (show bj l j b=true from decide_eq_true (by omega))]at hD1;exact hD1 _ ⟨_,rfl⟩
   .walk_at"xs";rw[if_neg (show ¬bj l j b=true by unfold bj;rw[decide_eq_true_eq];omega)]at hD1;exact hD1 _ ⟨_,rfl⟩
  .rintro m n ⟨a,rfl⟩;rw[ah,aag];walk_at"xs";exact k
 | two =>
  refine ai (MSt.mk [some (.imm h.d),some (.imm (.tuple [.str "two"])),some (.imm (.tuple [lnD l,.int (t:Int)])),some (.imm (.tuple (natD o))),none,none,none,none,none] [] 0) rfl ?_;walk_at"xs"
  .rfl
  walk_at"xs";refine aG (fun z=>absurd z (by decide +kernel)) (fun _=>?_);walk_at"xs";refine aG (fun z=>absurd z (by decide +kernel)) (fun _=>?_);walk_at"xs";refine aG (fun z=>absurd z (by decide +kernel)) (fun _=>?_);walk_at"xs";refine aG (fun z=>absurd z (by decide +kernel)) (fun _=>?_);walk_at"xs";refine aG (fun _=>?_) (fun z=>(z rfl).elim);walk_at"xs";have e:cutD (natD o) none (some 2)=natD (o.take 2):=by
   rw[show(2:Int)=((2:Nat):Int)from rfl,jA];simp[natD]
  rw[e];obtain⟨o0,os,rfl,h0⟩:=hO.cons;have hT:Ord l.length (o0::os.take 1):=⟨by simp,fun k hk=>hO'.lt k (ac6 (i:=2) hk),by rw[aaL,aaK];omega⟩;replace k:Kc (.imm (.int (M7.pick (bj l) o0 (o0::os.take 1):Nat))) []:=k;walk_at"xn";generalize os.take 1=os' at *;refine aD (aA (j:=0) (aE rfl)) ?_;walk_at"xs";refine bC (fun i m=>∃a,m=MSt.mk [some (.imm h.d),some (.imm (.tuple [.str "two"])),some (.imm (.tuple [lnD l,.int (t:Int)])),some (.imm (.tuple (natD (o0::os)))),some (.imm (.tuple (natD l))),some (.imm (.int (t:Int))),some (.imm (.tuple (natD (o0::os')))),some (.imm (.int (M7.pick (bj l) o0 ((o0::os').take i):Nat))),a] [] 0) ⟨none,rfl⟩ ?_ ?_
  .rintro i d m e n ⟨a,rfl⟩ D1 hD1 hR1;obtain⟨j,ej,rfl,hi⟩:=gmap e;have hj:=hT.lt j (OR ej);have hb:M7.pick (bj l) o0 ((o0::os').take i)<l.length:=fx hT i;have et:(o0::os').take (i+1)=(o0::os').take i++[j]:=by rw[aa1,ej];rfl
   rw[et,M7.pick_app]at hD1;generalize M7.pick (bj l) o0 ((o0::os').take i)=b at hb hD1⊢;walk_at"xs";refine aD (aA (aE (getN rfl hj))) ?_;walk_at"xs";refine aD (aA (aE (getN rfl hb))) ?_;walk_at"xs";refine aG (fun h=>?_) (fun h=>?_)
   .walk_at"xs";rw[if_pos (show bj l j b=true from decide_eq_true (by omega))]at hD1;exact hD1 _ ⟨_,rfl⟩
   .walk_at"xs";rw[if_neg (show ¬bj l j b=true by unfold bj;rw[decide_eq_true_eq];omega)]at hD1;exact hD1 _ ⟨_,rfl⟩
  .rintro m n ⟨a,rfl⟩;rw[ah,aag];walk_at"xs";exact k
theorem qw(T:Bl K mg)(D:DefM K mg "_law_more" iC ["_law_lines","_law_k","_law_many"]):FnM P w K mg base "_law_more" 1 3 i7:=by
 refine aU D rF rfl (nN:=3) rfl (by decide) ?ar fun cdv A outer s H E f hr=>⟨_,(aa (ag (ad aM (ad aM (cp fm (mv' 0) c5 (cY (mv' 1))) (af (mc' (ad aM (ab (mv' 0) (mv' 1)) (mv' 2)) mn'))) (cp fm (mv' 0) (cY (ad aM (mv' 1) mh')) c5)))),?_⟩
 case ar=>rintro as Kc ⟨l,j,d,x,rfl,_⟩;rfl
 rintro as Kc hl ⟨l,j,d,x,rfl,hj,hl4,hx,k⟩;refine ai (MSt.mk [some (.imm (.tuple (natD l))),some (.imm (.int (j:Int))),some (.imm (.int d))] [] 0) rfl ?_;walk_at"xs";refine aD (aA (aE (getN rfl hj))) ?_;walk_at"xs";rw[hx,jA];refine jI (by rw[aaq,aaK,ah];simp;omega) ?_;walk_at"xs";rw[show(j:Int)+1=((j+1:Nat):Int)from rfl,jY];refine jI (by rw[aaq,aat,aaK,adT,ah];simp;omega) ?_;walk_at"xs";have e:(natD l).take j++[.int (x:Int)]++(natD l).drop (j+1)=natD (l.set j x):=by
  rw[<-ud,aeo,if_pos (by rw[ah];exact hj)];simp
 rw[e];exact k
theorem lJ(T:Bl K mg)(D:DefM K mg "_law_evened" fE ["_law_hall_here","_law_lines"])(G_law_more:FnM P w K mg base "_law_more" 1 3 i7):FnM P w K mg base "_law_evened" 2 2 nu:=by
 refine aU D fq rfl (nN:=2) rfl (by decide) ?ar fun cdv A outer s H E f hr=>⟨_,(mz' (gW (EW.pt (lL (qP (ab (mv' 0) mh')) (lL (av (bG hr.units) (au (uz rfl) (by rfl) T.min Jh (mc' (mv' 1) mn')) mh' (aI _)) (l6 (av i8 (au (fX rfl) (by rfl) T.max tu (mc' (mv' 1) mn')) mh' (aI _)))))) (mz' (al 1 fq.nd (mf' G_law_more (hr.mono (by decide)) (mc' (mv' 1) (mc' (rJ acv adg (f8 hr.units) (mv' 1) (mc' (au (fX rfl) (by rfl) T.max tu (mc' (mv' 1) mn')) mn')) (mc' (kh gq mh') mn')))))
   (aa (al 1 fq.nd (mf' G_law_more (hr.mono (by decide)) (mc' (mv' 1) (mc' (rJ acv adg (f8 hr.units) (mv' 1) (mc' mh' mn')) (mc' mh' mn'))))))) aaG)
   (aa (ag (mv' 1)))),?_⟩
 case ar=>rintro as Kc ⟨h,l,rfl,_⟩;rfl
 rintro as Kc hl ⟨h,l,rfl,hne,hl4,k⟩;refine ai (MSt.mk [some (.imm (.tuple [.tuple [.int h.a,.int h.b],.tuple (h.ss.map Srv.d),.bool h.mv])),some (.imm (.tuple (natD l)))] [] 0) rfl ?_;refine oj ?_;refine mt (fun n m=>∃l':List Nat,m=MSt.mk [some (.imm (.tuple [.tuple [.int h.a,.int h.b],.tuple (h.ss.map Srv.d),.bool h.mv])),some (.imm (.tuple (natD l')))] [] 0/\n=l'.count 0/\cQ h n l'=dn h l/\l'≠[]/\l'.length≤1000) (l.count 0) ⟨l,rfl,rfl,rfl,hne,hl4⟩ ?_;rintro n m hn ⟨l',rfl,rfl,hs,hne',hl'⟩;have hints:du (natD l')=some (l'.map fun(x:Nat)=>(x:Int)):=by
  have:=fj (l'.map fun(x:Nat)=>(x:Int));rwa[abq]at this
 have hnei:(l'.map fun(x:Nat)=>(x:Int))≠[]:=fun z=>hne' (ahc.mp z);have hmax:∀x:Int,x∈(l'.map fun(x:Nat)=>(x:Int))->(∀y∈(l'.map fun(x:Nat)=>(x:Int)),y≤x)->x=(maxN l':Int):=fun x hx hy=>by
  obtain⟨n,hn,rfl⟩:=aaA.mp hx;have h1:=rB n hn;have h2:=hy (maxN l':Int) (aaA.mpr ⟨maxN l',h9 hne',rfl⟩);omega
 have hmin:∀x:Int,x∈(l'.map fun(x:Nat)=>(x:Int))->(∀y∈(l'.map fun(x:Nat)=>(x:Int)),x≤y)->(x=0↔0∈l'):=fun x hx hy=>by
  obtain⟨n,hn,rfl⟩:=aaA.mp hx;constructor
  .intro z;have:n=0:=by omega
   rw[<-this];exact hn
  .intro z;have:=hy ((0:Nat):Int) (aaA.mpr ⟨0,z,rfl⟩);omega
 have done:dA h l'=none->Kc (.imm (lnD l')) []:=fun e=>by
  rw[ja e]at hs;rw[<-hs]at k;exact k
 walk_at"xs"
 cases hmv:h.mv with
 |false =>
  walk_at"xs";exact done (if_neg (by rw[hmv];exact fun z=>by cases z.1))
 | true =>
  walk_at"xs";refine IE rfl hints hnei fun x hx hy=>?_;have hmn:=hmin x hx hy;walk_at"xs";refine aG (fun z=>?_) (fun z=>?_)
  .have h0:0∈l':=hmn.mp z;walk_at"xs";refine ua rfl hints hnei fun x hx hy=>?_;rw[hmax x hx hy];walk_at"xs";refine aG (fun z=>?_) (fun z=>?_)
   .have e:dA h l'=some (idx l' (maxN l'),idx l' 0):=if_pos ⟨hmv,h0,by omega⟩;obtain⟨es,l1,l2,hc,hlen⟩:=iG e;obtain⟨m0,m1,m2,m3,m4⟩:=fU e;dsimp only at es l1 l2 m1 m3 m4;have s1:=fO (h9 hne');have s0:=fO h0;have g1:l'.getD (idx l' (maxN l')) 0=maxN l':=aW m1;have n0:(l'.set (idx l' (maxN l')) (maxN l'-1))[idx l' 0]?=some 0:=by rw[aaM m4];exact m3
    have g2:(l'.set (idx l' (maxN l')) (maxN l'-1)).getD (idx l' 0) 0=0:=aW n0;have n1:∀(i y:Nat),i<idx l' 0->(l'.set (idx l' (maxN l')) (maxN l'-1))[i]?=some y->y≠0:=fun i y hi hy=>by
     by_cases hq:idx l' (maxN l')=i
     .rw[<-hq,aaS l1]at hy;have:=aai hy;omega
     .rw[aaM hq]at hy;exact s0.2 i y hi hy
    walk_at"xs";refine ua rfl hints hnei fun x hx hy=>?_;rw[hmax x hx hy];walk_at"xs";refine ju (j:=idx l' (maxN l')) (k':=0) (d8 _) (fe l') (by decide) (aE s1.1) (by rw[bW];exact decide_eq_true rfl) (fun i y hi hy=>?_) ?_
    .obtain⟨z,ez,rfl,_⟩:=gmap hy;rw[bW];exact decide_eq_false (s1.2 i z hi ez)
    walk_at"xs";refine⟨l',idx l' (maxN l'),-1,maxN l'-1,rfl,l1,hl',by omega,?_⟩;generalize hl2:l'.set (idx l' (maxN l')) (maxN l'-1)=l2' at *;walk_at"xn";dsimp only[lnD];walk_at"xs";refine ju (j:=idx l' 0) (k':=0) (d8 _) (fe l2') (by decide) (aE n0) (bW 0 0) (fun i y hi hy=>?_) ?_
    .obtain⟨z',ez,rfl,_⟩:=gmap hy;have:=bW z' 0;rw[show((0:Nat):Int)=0 from rfl]at this;rw[this];exact decide_eq_false (n1 i z' hi ez)
    walk_at"xs";have hl3:l2'.length=l'.length:=by rw[<-hl2,abo]
    refine⟨l2',idx l' 0,1,1,rfl,by omega,by omega,by omega,?_⟩;rw[<-es];walk_at"xx";have hne2:cc l' (idx l' (maxN l'),idx l' 0)≠[]:=fun z=>by
     rw[z]at hlen;exact hne' (aa7 hlen.symm)
    refine⟨(cc l' (idx l' (maxN l'),idx l' 0)).count 0,by omega,cc l' (idx l' (maxN l'),idx l' 0),rfl,rfl,?_,hne2,by omega⟩;rw[<-hs,<-hc];show _=cQ h ((cc l' (idx l' (maxN l'),idx l' 0)).count 0+1) l';simp only[cQ,e]
   .walk_at"xs";exact done (if_neg fun q=>by have:=q.2.2;omega)
  .walk_at"xs";exact done (if_neg fun q=>z (hmn.mpr q.2.1))
theorem pF(T:Bl K mg)(D:DefM K mg "_law_asked" gw ["_law_hall_here","_law_rule_here","_law_stand_here","_law_order"])(G_law_sent:FnM P w K mg base "_law_sent" 2 4 jq)(G_law_evened:FnM P w K mg base "_law_evened" 2 2 nu)(G_law_more:FnM P w K mg base "_law_more" 1 3 i7):FnM P w K mg base "_law_asked" 3 4 sW:=by
 refine aU D cG rfl (nN:=7) rfl (by decide) ?ar fun cdv A outer s H E f hr=>⟨_,(mz' (cz (mv' 2) (bi (n:=2) (ae (ak 4 cG.nd) (ae (ak 5 cG.nd) aV))))
   (mz' (al 6 cG.nd (mf' G_law_sent (hr.mono (by decide)) (mc' (mv' 0) (mc' (mv' 1) (mc' (mv' 2) (mc' (mv' 3) mn'))))))
   (mz' (bc (av (bG hr.units) (ab (mv' 1) mh') aC (aI _)) (aa (al 5 cG.nd (ad cN (ad aM (mv' 5) mh') (au bg (by rfl) T.len cK (mc' (mv' 4) mn'))))) ay)
   (mz' (bc (av (bG hr.units) (ab (mv' 4) (mv' 6)) (ab (ab (ab (mv' 0) mh') (mv' 6)) mh') (aI _)) (aa (ag (af (mc' (af (mc' (mf' G_law_evened (hr.mono (by decide)) (mc' (mv' 0) (mc' (mv' 4) mn'))) (mc' (mv' 5) mn'))) (mc' aC mn'))))) ay)
   (aa (ag (af (mc' (af (mc' (mf' G_law_evened (hr.mono (by decide)) (mc' (mv' 0) (mc' (mf' G_law_more (hr.mono (by decide)) (mc' (mv' 4) (mc' (mv' 6) (mc' mh' mn')))) mn'))) (mc' (mv' 5) mn'))) (mc' aC mn'))))))))),?_⟩
 case ar=>rintro as Kc ⟨h,r,l,t,o,rfl,_⟩;rfl
 rintro as Kc hl ⟨h,r,l,t,o,rfl,ho,hr0,hS,hO,k⟩;have hL:=hS.ln;have hll:=hL.1;have n1:=ho.n1;have n4:=ho.n4;have ne:∀l':List Nat,l'.length=l.length->l'≠[]:=fun l' e z=>by rw[z]at e;simp at e;omega
 refine ai (MSt.mk [some (.imm (.tuple [.tuple [.int h.a,.int h.b],.tuple (h.ss.map Srv.d),.bool h.mv])),some (.imm r.d),some (.imm (.tuple [lnD l,.int (t:Int)])),some (.imm (lnD o)),none,none,none] [] 0) rfl ?_;walk_at"xs"
 .rfl
 walk_at"xs";refine⟨h,r,l,t,o,rfl,ho,hr0,hL,hO,?_⟩;have hk:=qi ho hr0 hL hO hS.tn;have ht:∀(r:Rule),p8 h r t=if r.word = "turns" then(t+1)%h.ss.length else t:=by
  intro r
  cases r with
  |turns=>exact(if_pos rfl).symm
  |told ps=>exact(if_neg (show ¬("told" : Str) = "turns" by decide +kernel)).symm
  |_=>exact(if_neg (by decide +kernel)).symm
 rw[show mvD (cX h r l t (.come o)) = .tuple [.tuple [lnD (dn h (d6 h l (sent h r l t o)).1),.int (p8 h r t:Nat)],.str (d6 h l (sent h r l t o)).2.s]from rfl]at k;generalize sent h r l t o=j at *;obtain⟨s,es,ea,eb,hs⟩:=h.srv hk;have er:h.rn j=s.r:=aW (Hall.rs_get es);walk_at"xn";refine cw ?_;walk_at"xn";refine oj ?_;refine x_JS (fun m=>m=MSt.mk [some (.imm (.tuple [.tuple [.int h.a,.int h.b],.tuple (h.ss.map Srv.d),.bool h.mv])),some (.imm r.d),some (.imm (.tuple [lnD l,.int (t:Int)])),some (.imm (lnD o)),some (.imm (lnD l)),some (.imm (.int (p8 h r t:Nat))),some (.imm (.int (j:Int)))] [] 0) (fun N J=>?_) ?_
 .rw[ht r]at J;have wd:∃ds,r.d = .tuple (.str r.word::ds):=by cases r<;>exact⟨_,rfl⟩
  obtain⟨ds,ed⟩:=wd;rw[ed]at J⊢;walk_at"xs";refine aD (aA (j:=0) (xs:=.str r.word::ds) rfl) ?_;walk_at"xs";refine aG (fun z=>?_) (fun z=>?_)
  .rw[if_pos z]at J;dsimp only[lnD]at J⊢;walk_at"xs";rw[ah,hll];refine Fe (by omega) ?_;refine cw ?_;exact J _ rfl
  .rw[if_neg z]at J;walk_at"xs";exact J _ rfl
 rintro _ rfl;dsimp only[lnD];walk_at"xs";refine aD (aA (aE (getN hll hk))) ?_;walk_at"xs";refine aD (d:=s.d) (aA (by rw[aae,es];rfl)) ?_;dsimp only[Srv.d];walk_at"xs";refine aG (fun z=>?_) (fun z=>?_)
 .have e:d6 h l j=(l,.away):=if_pos (by rw[er];omega);rw[e]at k;walk_at"xs";refine⟨h,l,rfl,ne l rfl,by omega,?_⟩;walk_at"xx";exact k
 .have e:d6 h l j=(l.set j (l.getD j 0+1),.taken):=if_neg (by rw[er];omega);rw[e]at k;walk_at"xs";refine⟨l,j,1,l.getD j 0+1,rfl,by omega,by omega,rfl,?_⟩;walk_at"xx";refine⟨h,_,rfl,ne _ (by simp),by simp;omega,?_⟩;walk_at"xx";exact k
theorem m9(T:Bl K mg)(D:DefM K mg "_law_behind" fz ["_law_hall_here","_law_rule_here","_law_stand_here"])(G_law_orders:FnM P w K mg base "_law_orders" 1 1 Ck)(G_law_asked:FnM P w K mg base "_law_asked" 3 4 sW)(G_law_cut:FnM P w K mg base "_law_cut" 1 2 nG)(G_law_plus:FnM P w K mg base "_law_plus" 2 2 Dl)(G_law_more:FnM P w K mg base "_law_more" 1 3 i7)(G_law_evened:FnM P w K mg base "_law_evened" 2 2 nu):FnM P w K mg base "_law_behind" 4 3 BG:=by
 refine aU D aK rfl (nN:=14) rfl (by decide) ?ar fun cdv A outer s H E f hr=>⟨_,(mz' (cz (mv' 2) (bi (n:=2) (ae (ak 3 aK.nd) (ae (ak 4 aK.nd) aV))))
   (mz' (al 5 aK.nd (mf' G_law_orders (hr.mono (by decide)) (mc' (au bg (by rfl) T.len cK (mc' (mv' 3) mn')) mn')))
   (mz' (al 6 aK.nd (bO mn'))
   (mz' (bt (bz (mv' 5)) (ak 7 aK.nd) (mz' (cz (mf' G_law_asked (hr.mono (by decide)) (mc' (mv' 0) (mc' (mv' 1) (mc' (mv' 2) (mc' (mv' 7) mn'))))) (bi (n:=2) (ae (ak 8 aK.nd) (ae (ak 9 aK.nd) aV))))
   (aa (cV (gi abE abF cA (mv' 6) (mc' (af (mc' (mv' 8) (mc' (mv' 9) (mc' (mf' G_law_cut (hr.mono (by decide)) (mc' (ab (ab (mv' 0) mh') mh') (mc' (ad aB (ab (ab (mv' 0) mh') mh') (au bg (by rfl) T.len cK (mc' (mv' 5) mn'))) mn'))) mn')))) mn'))))) aaG)
   (mz' (al 10 aK.nd (af (mc' (ad rm (ab (ab (mv' 0) mh') mh') (ab (ab (mv' 0) mh') mh')) (mc' (ab (ab (mv' 0) mh') mh') mn'))))
   (mz' (bt (bJ (by rfl) T.range (mc' (au bg (by rfl) T.len cK (mc' (mv' 3) mn')) mn')) (ak 11 aK.nd) (mz' (al 12 aK.nd (ab (ab (ab (mv' 0) mh') (mv' 11)) mh'))
   (mz' (al 10 aK.nd (mf' G_law_plus (hr.mono (by decide)) (mc' (mv' 10) (mc' (af (mc' (kh gq (ab (mv' 12) mh')) (mc' (ab (mv' 12) mh') mn'))) mn'))))
   (mz' (al 9 aK.nd (ab (bO (mc' aC (mc' aC mn'))) (cy oT (by rfl) T.int BU (mc' (l9 i8 (ab (mv' 3) (mv' 11)) mh' (aI _)) mn'))))
   (mz' (al 13 aK.nd (mf' G_law_more (hr.mono (by decide)) (mc' (mv' 3) (mc' (mv' 11) (mc' (kh gq (cy oT (by rfl) T.int BU (mc' (l9 i8 (ab (mv' 3) (mv' 11)) mh' (aI _)) mn'))) mn')))))
   (aa (cV (gi abE abF cA (mv' 6) (mc' (af (mc' (af (mc' (mf' G_law_evened (hr.mono (by decide)) (mc' (mv' 0) (mc' (mv' 13) mn'))) (mc' (mv' 4) mn'))) (mc' (mv' 9) (mc' (mv' 12) mn')))) mn')))))))) aaG)
   (mz' (bc (av i8 (ab (mv' 10) mh') mh' (aI _)) (aa (cV (gi abE abF cA (mv' 6) (mc' (af (mc' (af (mc' (mf' G_law_evened (hr.mono (by decide)) (mc' (mv' 0) (mc' (mv' 3) mn'))) (mc' (mv' 4) mn'))) (mc' aC (mc' (mv' 10) mn')))) mn')))) ay)
   (aa (ag (mv' 6)))))))))),?_⟩
 case ar=>rintro as Kc ⟨h,r,l,t,rfl,_⟩;rfl
 rintro as Kc hl ⟨h,r,l,t,rfl,ho,hr0,hS,k⟩;have hL:=hS.ln;have hll:=hL.1;have n1:=ho.n1;have n4:=ho.n4;have b1:=ho.b1;have b2:=ho.b2;have a2:=ho.a2;have nO:=(ci h.ss.length ho.n4 h.ss.length ho.n4).1;have pO:=cU h.ss.length ho.n4;have ne:∀l':List Nat,l'.length=l.length->l'≠[]:=fun l' e z=>by rw[z]at e;simp at e;omega
 refine ai (MSt.mk [some (.imm (.tuple [.tuple [.int h.a,.int h.b],.tuple (h.ss.map Srv.d),.bool h.mv])),some (.imm r.d),some (.imm (.tuple [.tuple (natD l),.int (t:Int)])),none,none,none,none,none,none,none,none,none,none,none] [] 0) rfl ?_;walk_at"xs"
 .rfl
 walk_at"xs";rw[ah,hll];refine⟨h.ss.length,rfl,n4,?_⟩;walk_at"xn";refine ca ?_;walk_at"xx";refine ca ?_;walk_at"xx";have nC:(cmM h).length≤24:=by unfold cmM;rw[Ge];exact nO
 have nD:(dnM h).length=h.ss.length:=by unfold dnM;rw[Ge,adz]
 refine iJ (fun i m=>∃a b c,m=MSt.mk [some (.imm (.tuple [.tuple [.int h.a,.int h.b],.tuple (h.ss.map Srv.d),.bool h.mv])),some (.imm r.d),some (.imm (.tuple [.tuple (natD l),.int (t:Int)])),some (.imm (.tuple (natD l))),some (.imm (.int (t:Int))),some (.obj 0),some (.obj 1),a,b,c,none,none,none,none] [(ordK h.ss.length h.ss.length).map lnD,((cmM h).take i).map (behD h r l t)] 1) ⟨none,none,none,rfl⟩ ?_ ?_ ?_
 .rintro i m ⟨a,b,c,rfl⟩;rfl
 .rintro i d m e hnp ⟨a,b,c,rfl⟩;obtain⟨o,eo,rfl,hi⟩:=gmap e;obtain⟨q1,q2,q3⟩:=sU h.ss.length n4 n1 o (OR eo);walk_at"xs";refine⟨h,r,l,t,o,rfl,ho,hr0,hS,⟨q1,q3,q2⟩,?_⟩;walk_at"xn";have ec:(cmM h)[i]?=some (Mv.come o,(bQ h).1,(bQ h).2.toNat):=by unfold cmM;rw[aae,eo];rfl
  rw[aa1,ec,aaQ];have em:mvD (cX h r l t (.come o)) = .tuple [ptD ((cX h r l t (.come o)).1,(cX h r l t (.come o)).2.1),wdD (cX h r l t (.come o)).2.2]:=rfl;rw[em];walk_at"xs"
  .rfl
  walk_at"xs";rw[Ge];refine⟨(h.a:Int),h.b*(ordK h.ss.length h.ss.length).length,by rw[aaB],adQ (by omega) pO,?_,?_,?_⟩
  .exact aaE (show((h.a:Int)).natAbs≤1000000 by omega) (by decide)
  .exact aaE (abC (show h.b≤1000000 by omega) nO) (by decide)
  rw[KQ ho];walk_at"xx";refine' jv (ds:=((cmM h).take i).map (behD h r l t)) ?eb (by rw[aaq,Ge,aaK];omega) ?_
  case eb=>rfl
  exact⟨_,_,_,rfl⟩
 rintro m hnp ⟨a,b,c,rfl⟩;have eL:((ordK h.ss.length h.ss.length).map lnD).length=(cmM h).length:=by unfold cmM;rw[Ge,Ge]
 rw[eL,aag];walk_at"xs";rw[ah];refine⟨by omega,by omega,?_⟩;rw[aaX];refine bC (fun i m=>∃(a b c d e f:Option L2.R) (x:Int×Int),m=MSt.mk [some (.imm (.tuple [.tuple [.int h.a,.int h.b],.tuple (h.ss.map Srv.d),.bool h.mv])),some (.imm r.d),some (.imm (.tuple [.tuple (natD l),.int (t:Int)])),some (.imm (.tuple (natD l))),some (.imm (.int (t:Int))),some (.obj 0),some (.obj 1),a,b,c,some (.imm (frT x.1 x.2)),d,e,f] [(ordK h.ss.length h.ss.length).map lnD,(cmM h).map (behD h r l t)++((dnM h).take i).map (behD h r l t)] 0/\RL h i x) ⟨a,b,c,none,none,none,_,by rw[List.take_zero,abJ,abb];rfl,RL.zero ho⟩ ?_ ?_
 .rintro i d m e hnp ⟨a,b,c,d1,d2,d3,x,rfl,X⟩ D1 hD1 hR1;obtain⟨hi,rfl⟩:=bX e;rw[show(0:Int)+(i:Int)=((i:Nat):Int) by omega];obtain⟨s,es,ea,eb,hs⟩:=h.srv (show i<h.ss.length by omega);have so:=ho.ok s hs;have sa:=so.a2;have sb:=so.b2;have sb1:=so.b1;have X2:=X.succ ho es;have eg:=Fi es;rw[aa1,eg,aaQ,<-acB]at hD1;have sz:((cmM h).map (behD h r l t)++((dnM h).take i).map (behD h r l t)).length<100:=by rw[aat,Ge,Ge,aaK];omega
  walk_at"xs";refine aD (d:=s.d) (aA (by rw[aae,es];rfl)) ?_;dsimp only[Srv.d];walk_at"xs";refine⟨x.1,x.2,-(s.a:Int),(s.b:Int),rfl,X.f,⟨?_,?_,by omega⟩,?_⟩
  .exact aaE (show(-(s.a:Int)).natAbs≤1000000 by omega) (by decide)
  .exact aaE (show((s.b:Int)).natAbs≤1000000 by omega) (by decide)
  unfold addF;rw[rq];walk_at"xn";refine cw ?_;walk_at"xx";refine aD (aA (aE (getN hll (show i<h.ss.length by omega)))) ?_;walk_at"xs"
  by_cases hz:l.getD i 0=0
  .have ed:di l i=(l,.none):=if_pos hz;have el:l.set i (l.getD i 0)=l:=ace fun j=>by
    by_cases hj:i=j
    .subst hj;rw[aaS (by omega),getN hll (show i<h.ss.length by omega)]
    .rw[aaM hj]
   rw[hz];walk_at"xs";refine aD (aA (aE (getN hll (show i<h.ss.length by omega)))) ?_;rw[hz];walk_at"xs";refine⟨l,i,0,l.getD i 0,rfl,by omega,by omega,by omega,?_⟩;rw[el];walk_at"xx";refine⟨h,l,rfl,ne l rfl,by omega,?_⟩;walk_at"xx";refine' jv (ds:=(cmM h).map (behD h r l t)++((dnM h).take i).map (behD h r l t)) ?eb (by rw[aaq];omega) ?_
   case eb=>rfl
   have em:behD h r l t (Mv.done i,(s.a:Int),s.b) = .tuple [.tuple [lnD (dn h l),.int (t:Int)],.str "none",.tuple [.int (s.a:Int),.int (s.b:Int)]]:=by
    show acg [ptD (dn h (di l i).1,t),wdD (di l i).2,.tuple [.int (s.a:Int),.int (s.b:Int)]]=_;rw[ed];rfl
   rw[show(some (Mv.done i,(s.a:Int),s.b)).toList.map (behD h r l t)=[behD h r l t (Mv.done i,(s.a:Int),s.b)]from rfl,em]at hD1;exact hD1 _ ⟨a,b,_,_,_,_,_,rfl,X2⟩
  .have ed:di l i=(l.set i (l.getD i 0-1),.served):=if_neg hz;walk_at"xs";rw[show(if decide ((l.getD i 0:Int)>0)=true then(1:Int)else 0)=1 from if_pos (decide_eq_true (by omega))];refine gu (d:=.str "served") rfl ?_;walk_at"xs";refine aD (aA (aE (getN hll (show i<h.ss.length by omega)))) ?_;walk_at"xs";rw[show(if decide ((l.getD i 0:Int)>0)=true then(1:Int)else 0)=1 from if_pos (decide_eq_true (by omega))];refine⟨l,i,-1,l.getD i 0-1,rfl,by omega,by omega,by omega,?_⟩;walk_at"xx";refine⟨h,_,rfl,ne _ (by simp),by simp;omega,?_⟩;walk_at"xx";refine' jv (ds:=(cmM h).map (behD h r l t)++((dnM h).take i).map (behD h r l t)) ?eb (by rw[aaq];omega) ?_
   case eb=>rfl
   have em:behD h r l t (Mv.done i,(s.a:Int),s.b) = .tuple [.tuple [lnD (dn h (l.set i (l.getD i 0-1))),.int (t:Int)],.str "served",.tuple [.int (s.a:Int),.int (s.b:Int)]]:=by
    show acg [ptD (dn h (di l i).1,t),wdD (di l i).2,.tuple [.int (s.a:Int),.int (s.b:Int)]]=_;rw[ed];rfl
   rw[show(some (Mv.done i,(s.a:Int),s.b)).toList.map (behD h r l t)=[behD h r l t (Mv.done i,(s.a:Int),s.b)]from rfl,em]at hD1;exact hD1 _ ⟨a,b,_,_,_,_,_,rfl,X2⟩
 rintro m hnp ⟨a,b,c,d1,d2,d3,x,rfl,X⟩;rw[aF,hll,<-nD,aag];rw[aF,hll]at X;have ex:=X.g (by omega);subst ex;have ek:(shrM h).map (behD h r l t)=(cmM h).map (behD h r l t)++(dnM h).map (behD h r l t)++if 0<(restF h h.ss.length).1 then [behD h r l t (Mv.still,(restF h h.ss.length).1,(restF h h.ss.length).2.toNat)]else []:=by
  unfold shrM cmM dnM;rw[aaQ,aaQ]
  congr 1
  split<;>rfl
 rw[ek]at k;unfold frT;walk_at"xs";refine aG (fun z=>?_) (fun z=>?_)
 .rw[if_pos z]at k;walk_at"xs";refine⟨h,l,rfl,ne l rfl,by omega,?_⟩;walk_at"xx";refine' jv (ds:=(cmM h).map (behD h r l t)++(dnM h).map (behD h r l t)) ?eb (by rw[aaq,aat,Ge,Ge];omega) ?_
  case eb=>rfl
  walk_at"xx";have er:behD h r l t (Mv.still,(restF h h.ss.length).1,(restF h h.ss.length).2.toNat) = .tuple [.tuple [lnD (dn h l),.int (t:Int)],.str "none",.tuple [.int (restF h h.ss.length).1,.int (restF h h.ss.length).2]]:=by
   have:=(de ho h.ss.length (aac _)).1;show acg [ptD (dn h l,t),.str "none",.tuple [.int (restF h h.ss.length).1,.int (((restF h h.ss.length).2.toNat:Nat):Int)]]=_;rw[show(((restF h h.ss.length).2.toNat:Nat):Int)=(restF h h.ss.length).2 by omega];rfl
  rw[er]at k;exact k
 .rw[if_neg z,abb]at k;walk_at"xs";exact k
theorem qE(T:Bl K mg)(D:DefM K mg "_law_left" iU ["_law_hall_here","_law_rule_here","_law_pairs"])(G_law_behind:FnM P w K mg base "_law_behind" 4 3 BG)(G_law_times:FnM P w K mg base "_law_times" 2 2 Ll)(G_law_plus:FnM P w K mg base "_law_plus" 2 2 Dl):FnM P w K mg base "_law_left" 5 3 u4:=by
 refine aU D cg rfl (nN:=9) rfl (by decide) ?ar fun cdv A outer s H E f hr=>⟨_,(mz' (al 3 cg.nd ls)
   (mz' (bt (bz (mv' 2)) (bi (n:=2) (ae (ak 4 cg.nd) (ae (ak 5 cg.nd) aV))) (aa (bt (bz (dU (mf' G_law_behind (hr.mono (by decide)) (mc' (mv' 0) (mc' (mv' 1) (mc' (mv' 4) mn')))))) (bi (n:=3) (ae (ak 6 cg.nd) (ae (ak 7 cg.nd) (ae (ak 8 cg.nd) aV)))) (aa (og hr.units (mf' G_law_plus (hr.mono (by decide)) (mc' (j9 hr.units (mv' 3) (mc' (mv' 6) (mc' (af (mc' mh' (mc' mh' mn'))) mn'))) (mc' (mf' G_law_times (hr.mono (by decide)) (mc' (mv' 5) (mc' (mv' 8) mn'))) mn'))) (mv' 3) (mv' 6))) aaG)) aaG)
   (aa (yv (ag (mv' 3)))))),?_⟩
 case ar=>rintro as Kc ⟨h,r,l,t,rfl,_⟩;rfl
 rintro as Kc hl ⟨h,r,l,t,rfl,hD,hS,k⟩;have ho:=hD.ho;have hr0:=hD.hr;obtain⟨mn,mo⟩:=Dt ho;have P1:0<(botH h:Int):=by have:=jK ho;omega
 have B1:botH h<10^66:=by have:=hD.b;rwa[afP]at this
 have one:nfP 1 ((botH h^0:Nat):Int)=(1,1):=by rw[Nat.pow_zero];decide +kernel
 refine ai (MSt.mk [some (.imm h.d),some (.imm r.d),some (.imm (.list [.tuple [stD l t,.tuple [.int 1,.int 1]]])),none,none,none,none,none,none] [] 0) rfl ?_;walk_at"xs";refine xh (jm ?_);walk_at"xx";refine bC (fun j m=>∃a4 a5 a6 a7 a8:Option L2.R,m=MSt.mk [some (.imm h.d),some (.imm r.d),some (.imm (.list [.tuple [stD l t,.tuple [.int 1,.int 1]]])),some (.at 0 []),a4,a5,a6,a7,a8] [[.dict (lfKV (shD (botH h:Int) (([((l,t),(1:Int))].take j).foldl (goW h r (msL h)) ([],[])).1))]] 0) ⟨none,none,none,none,none,rfl⟩ ?_ ?_
 .rintro j d m e hnp ⟨a4,a5,a6,a7,a8,rfl⟩ D1 hD1 hR1;have hj:j=0:=by
   have:=(aad.mp e).1;rw[aeE]at this;omega
  subst hj;have ed:=aai e;subst ed;walk_at"xs"
  .rfl
  walk_at"xs";refine⟨h,r,l,t,rfl,ho,hr0,hS,?_⟩;walk_at"xx";refine bC (fun z m=>∃a6 a7 a8:Option L2.R,m=MSt.mk [some (.imm h.d),some (.imm r.d),some (.imm (.list [.tuple [stD l t,.tuple [.int 1,.int 1]]])),some (.at 0 []),some (.imm (stD l t)),some (.imm (.tuple [.int 1,.int 1])),a6,a7,a8] [[.dict (lfKV (shD (botH h:Int) (((msL h).take z).foldl (fun x q=>goW1 h r (l,t) 1 q x) ([],[])).1))]] 0/\GoOk h r z (((msL h).take z).foldl (fun x q=>goW1 h r (l,t) 1 q x) ([],[]))/\GoB ((z:Nat)*(botH h:Int)) (((msL h).take z).foldl (fun x q=>goW1 h r (l,t) 1 q x) ([],[]))) ⟨a6,a7,a8,rfl,⟨fun _ hp=>(by cases hp),aac _,aac _⟩,⟨fun _ hp=>(by cases hp),fun _ hp=>(by cases hp),?_,?_⟩⟩ ?_ ?_
  .show(0:Int)≤0*_;rw[afq];exact ae7 0
  .show(0:Int)≤0*_;rw[afq];exact ae7 0
  .rintro z d m ez hnz ⟨c6,c7,c8,rfl,G1,Q1⟩ D3 hD3 hR3;obtain⟨q,eq,rfl,hz⟩:=gmap ez;have hq:=OR eq;have eM:=IP eq;have hmq:=mo _ (OR eM);obtain⟨fQ,eQ⟩:=hD.part (k:=0) 1 hq;rw[one,abO,afP]at eQ;have v0:=LL ho hD.h0;have v1:=(lR (L:=msL h) v0).2 _ (OR eM);have v2:=v0 _ (OR eM);have es:sumA (msL h)=(botH h:Int):=Cn ho hD.h0;rw[es]at v1;have efold1:((msL h).take (z+1)).foldl (fun x q=>goW1 h r (l,t) 1 q x) ([],[])=goW1 h r (l,t) 1 (q.1,q.2.1*((botH h/q.2.2:Nat):Int)) (((msL h).take z).foldl (fun x q=>goW1 h r (l,t) 1 q x) ([],[])):=by
    rw[acy,eM,adJ];rfl
   have G2:=G1.next ho hr0 (p:=(l,t)) hS 1 hmq.1;have Q2:=Q1.next (h:=h) (r:=r) (p:=(l,t)) (w:=1) (q:=(q.1,q.2.1*((botH h/q.2.2:Nat):Int))) (d:=(botH h:Int)) (by rw[ael];exact v2) (by rw[ael];exact v1);have zl:(msL h).length=(shrM h).length:=by unfold msL;rw[Ge]
   have zb:z<29:=by omega
   rw[efold1]at hD3;generalize ((msL h).take z).foldl (fun x q=>goW1 h r (l,t) 1 q x) ([],[])=x1 at *;have hS2:=me ho hr0 hS hmq.1;rw[show behD h r l t q = .tuple [ptD ((cX h r l t q.1).1,(cX h r l t q.1).2.1),wdD (cX h r l t q.1).2.2,.tuple [.int q.2.1,.int (q.2.2:Int)]]from rfl];unfold goW1 at G2 Q2 hD3;dsimp only at eQ v1 v2 G2 Q2 hD3⊢;rw[ael (q.2.1*((botH h/q.2.2:Nat):Int))]at eQ G2 Q2 hD3;generalize hv:q.2.1*((botH h/q.2.2:Nat):Int)=v at *;generalize cX h r l t q.1=mm at *;obtain⟨l2,t2,wd⟩:=mm;dsimp only at hS2 G2 Q2 hD3⊢;have kyS:kyA (shD (botH h:Int) x1.1)=true:=yK ho G1.st;have ky2:=uC ho hS2;have m1:=G1.n1;have frB:∀y:Int,y.natAbs<10^76->FrOk (nfP y (botH h:Int)).1 (nfP y (botH h:Int)).2:=fun y hy=>Cu P1 hy (by rw[aaN];exact aaY B1 (by decide));have bd:∀y:Int,0≤y->y≤((z:Nat):Int)*(botH h:Int)->y.natAbs<10^76:=fun y h1 h2=>Mh (k:=z) h1 h2 (ae7 _) (by omega) B1;have frv:FrOk (nfP v (botH h:Int)).1 (nfP v (botH h:Int)).2:=frB v (aaY (show v.natAbs<10^67 by omega) (by decide));have g1:=wz (l2,t2) Q1.n1;have qs1:=Q1.s1;have eAdd:∀a b:Int,addF (nfP a (botH h:Int)).1 (nfP a (botH h:Int)).2 (nfP b (botH h:Int)).1 (nfP b (botH h:Int)).2=nf (a+b) (botH h:Int):=fun a b=>by unfold addF;rw[rq,zy P1,<-rq]
   walk_at"xs"
   .rfl
   walk_at"xs";refine yi ?_;walk_at"xs";refine rG ?_;walk_at"xs";refine⟨shD (botH h:Int) x1.1,⟨rfl,rfl⟩,.inr kyS,?_⟩;walk_at"xs";refine⟨shD (botH h:Int) x1.1,ptD (l2,t2),.tuple [.int 0,.int 1],rfl,⟨rfl,rfl⟩,by unfold oneK;rw[kyS,show kyD (ptD (l2,t2))=true from ky2,ahm,aeD],?_⟩;have z0:acg [.int 0,.int 1]=frV (botH h:Int) 0:=by unfold frV;rw[rq,zq P1];rfl
   rw[z0,show shD (botH h:Int) x1.1=kvG ptD (frV (botH h:Int)) x1.1 from rfl,uR jF];walk_at"xs";refine⟨1,1,q.2.1,(q.2.2:Int),rfl,⟨by decide,by decide,by decide⟩,fQ,?_⟩;rw[show mulF 1 1 q.2.1 (q.2.2:Int)=nf v (botH h:Int) by unfold mulF;rw[rq,eQ,<-rq]];walk_at"xx";refine⟨(nfP (getA (l2,t2) x1.1) (botH h:Int)).1,(nfP (getA (l2,t2) x1.1) (botH h:Int)).2,(nfP v (botH h:Int)).1,(nfP v (botH h:Int)).2,rfl,frB _ (bd _ g1.1 (by omega)),frv,?_⟩;rw[eAdd];walk_at"xx";refine⟨rfl,shD (botH h:Int) x1.1,rfl,kyS,ky2,by unfold shD kvG;rw[Ge,aaq];omega,?_⟩;rw[show nf (getA (l2,t2) x1.1+v) (botH h:Int)=frV (botH h:Int) (getA (l2,t2) x1.1+v)from rfl,show shD (botH h:Int) x1.1=kvG ptD (frV (botH h:Int)) x1.1 from rfl,Cq jF];have sz:((z:Nat):Int)*(botH h:Int)+(botH h:Int)=((z+1:Nat):Int)*(botH h:Int):=by
    rw[abN _ 1,ae6,show((1:Nat):Int)=1 from rfl,ael]
   rw[sz]at Q2;walk_at"xn";exact hD3 _ ⟨_,_,_,rfl,G2,Q2⟩
  .rintro m hnz ⟨b6,b7,b8,rfl,G1,Q1⟩;have zl:(msL h).length=(shrM h).length:=by unfold msL;rw[Ge]
   rw[Ge,<-zl,aag];exact hD1 _ ⟨_,_,_,_,_,rfl⟩
 .rintro m hnp ⟨a4,a5,a6,a7,a8,rfl⟩;have X:=(GU hD hS).1;rw[show([((l,t),(1:Int))].take [acg [stD l t,.tuple [.int 1,.int 1]]].length).foldl (goW h r (msL h)) ([],[])=[((l,t),(1:Int))].foldl (goW h r (msL h)) ([],[])from rfl];walk_at"xs";refine KM 0 3 (shD (botH h:Int) (lv h r (l,t))) [] (MSt.mk [some (.imm h.d),some (.imm r.d),some (.imm (.list [.tuple [stD l t,.tuple [.int 1,.int 1]]])),some (.imm (.dict (shD (botH h:Int) (lv h r (l,t))))),none,none,none,none,none] [] 0) rfl rfl (yK ho X.st) ?_ ?_
  .exact Aw rfl rfl rfl rfl rfl rfl rfl rfl ⟨.inl rfl,.inl rfl,.inl rfl,.inr ⟨rfl,.inr rfl⟩,.inl trivial,.inl trivial,.inl trivial,.inl trivial,.inl trivial,trivial⟩
  walk_at"xs";exact k
theorem jL(T:Bl K mg)(D:DefM K mg "_law_in_order" cE ["_law_shares"]):FnM P w K mg base "_law_in_order" 1 1 yq:=by
 refine aU D j7 rfl (nN:=1) rfl (by decide) ?ar fun cdv A outer s H E f hr=>⟨_,(aa (ag (cy dg (by rfl) T.tuple gV (mc' (cv (own:=["_law_stand_here"]) (fr:=["_law_shares"]) (ps:=[0]) (sc:=(ac cE)) (by exact⟨rfl,by decide +kernel,by decide +kernel,by decide +kernel,by decide +kernel⟩) (bz (dU (au (qt rfl hr.units) (by rfl) T.sorted oq (mc' (mv' 0) mn')))) (fun _ _ _ _ _=>(ak 0 (show acf ((["_law_stand_here"]:List Str)++(["_law_shares"]:List Str))from by decide +kernel))) (fun _ _ _ _ _=>cF) (fun _ _ _ _ _=>(af (mc' (mv' 0) (mc' (y9 hr.units (mv' 1) (mv' 0)) mn'))))) mn')))),?_⟩
 case ar=>rintro as Kc ⟨h,r,W,D,rfl,_⟩;rfl
 rintro as Kc hl ⟨h,r,W,D,rfl,ho,X,k⟩;refine ai (MSt.mk [some (.imm (.dict (shD D W)))] [] 0) rfl ?_;walk_at"xs";refine Fm ?_;have E:=Lr ho X;have ky:kyA (shD D W)=true:=yK ho X.st;refine yL (by rw[ky,aeD]) ?_;rw[F7];refine⟨E.srt X,fun ds' p o=>?_⟩;obtain⟨W',s,rfl⟩:=E.srd X p o;have ln:W'.length<64:=by rw[s.p.length_eq];exact X.n
 walk_at"xs";walk_at"xn";refine bC (fun i m=>∃a:Option L2.R,m=MSt.mk [a,some (.imm (.dict (shD D W)))] [(W'.take i).map fun q=>.tuple [ptD q.1,nf q.2 D]] 1) ⟨none,rfl⟩ ?_ ?_
 .rintro i d m e hnp ⟨a,rfl⟩ D1 hD1 hR1;obtain⟨q,eq,rfl,hi⟩:=gmap e;have mq:=s.p.mem_iff.mp (OR eq);obtain⟨z,hz⟩:=ac8 mq;walk_at"xs";refine⟨shD D W,frV D q.2,rfl,by unfold oneK;rw[ky,show kyD (ptD q.1)=true from uC ho (X.st q mq),ahm,aeD],sx (f:=frV D) jF X.kd hz,?_⟩;walk_at"xs";refine⟨_,rfl,by rw[aaq,Ge,aaK];omega,hD1 _ ⟨some (.imm (ptD q.1)),?_⟩⟩;rw[aa1,eq,aaQ];rfl
 .rintro m hnp ⟨a,rfl⟩;rw[Ge,aag];walk_at"xs";exact k W' s
theorem oN(T:Bl K mg)(D:DefM K mg "_law_stand" gj ["_law_tape_here","_law_hall_here","_law_rule_here"])(G_law_draw:FnM P w K mg base "_law_draw" 1 2 im):FnM P w K mg base "_law_stand" 2 3 tF:=by
 refine aU D cJ rfl (nN:=7) rfl (by decide) ?ar fun cdv A outer s H E f hr=>⟨_,(mz' (al 3 cJ.nd (bO mn'))
   (mz' (bt (bz (ab (mv' 1) mh')) (bi (n:=2) (ae (ak 4 cJ.nd) (ae (ak 5 cJ.nd) aV))) (aa (cV (gi abE abF cA (mv' 3) (mc' (ab (bO (mc' mh' (mc' (mv' 5) (mc' (ad rm (mv' 5) mh') (mc' (mf' G_law_draw (hr.mono (by decide)) (mc' (mv' 0) (mc' (ad aM (mv' 5) mh') mn'))) mn'))))) (mf' G_law_draw (hr.mono (by decide)) (mc' (mv' 0) (mc' mh' mn')))) mn')))) aaG)
   (mz' (al 6 cJ.nd (mf' G_law_draw (hr.mono (by decide)) (mc' (mv' 0) (mc' (au bg (by rfl) T.len cK (mc' (mv' 3) mn')) mn'))))
   (aa (ag (af (mc' (cy dg (by rfl) T.tuple gV (mc' (mv' 3) mn')) (mc' (II (av (bG hr.units) (ab (mv' 2) mh') aC (aI _)) (mv' 6) mh') mn')))))))),?_⟩
 case ar=>rintro as Kc ⟨fd,c,h,r,rfl,_⟩;rfl
 rintro as Kc hl ⟨fd,c,h,r,rfl,ho,hr0,hf,hc,k⟩;have n1:=ho.n1;have n4:=ho.n4;refine ai (MSt.mk [some (.obj 0),some (.imm (.tuple [.tuple [.int h.a,.int h.b],.tuple (h.ss.map Srv.d),.bool h.mv])),some (.imm r.d),none,none,none,none] [fd] 1) rfl ?_;walk_at"xs";refine ca ?_;walk_at"xx";refine bC (fun i m=>∃(a b:Option L2.R) (fd:List iO) (l:List Nat),m=MSt.mk [some (.obj 0),some (.imm (.tuple [.tuple [.int h.a,.int h.b],.tuple (h.ss.map Srv.d),.bool h.mv])),some (.imm r.d),some (.obj 1),a,b,none] [fd,natD l] 1/\TapeD (c+2*i) fd/\l.length=i/\∀(j:Nat) s x,h.ss[j]?=some s->l[j]?=some x->x≤s.r) ⟨none,none,fd,[],rfl,hf,rfl,fun _ _ _ _ e=>by cases e⟩ ?_ ?_
 .rintro i d m e hnp ⟨a,b,fd,l,rfl,hf,hll,hlx⟩ D1 hD1 hR1;obtain⟨s,es,rfl,hi⟩:=gmap e;have r1:=(ho.ok s (OR es)).r1;have r6:=(ho.ok s (OR es)).r6;dsimp only[Srv.d];walk_at"xs"
  .rfl
  walk_at"xs";refine⟨fd,_,_,rfl,hf,by omega,by omega,by omega,fun q1 fd hq0 hq1 hf=>?_⟩;walk_at"xx";refine⟨fd,_,_,rfl,hf,by omega,by decide,by decide,fun q2 fd hq2 hq3 hf=>?_⟩;walk_at"xn";obtain⟨x,ex,x6⟩:∃x:Nat,atI [abi 0,abi (s.r:Int),abi ((s.r:Int)-1),abi q1] q2=some (.int (x:Int))/\x≤s.r:=by
   rcases (show q2=0\/q2=1\/q2=2\/q2=3 by omega)with z|z|z|z<;>rw[z]
   .exact⟨0,rfl,by omega⟩
   .exact⟨s.r,rfl,by omega⟩
   .exact⟨s.r-1,by rw[show((s.r-1:Nat):Int)=(s.r:Int)-1 by omega];rfl,by omega⟩
   .exact⟨q1.toNat,by rw[show((q1.toNat:Nat):Int)=q1 by omega];rfl,by omega⟩
  walk_at"xs";refine gu ex ?_;walk_at"xs";refine⟨_,rfl,by rw[aaq,ah];omega,hD1 _ ⟨_,_,fd,l++[x],by rw[lr];rfl,hf.mono (by omega),by rw[aat,hll];rfl,fun j s' y e1 e2=>?_⟩⟩
  by_cases hj:j<l.length
  .rw[aaO hj]at e2;exact hlx j s' y e1 e2
  .rw[aaJ (by omega)]at e2;have hj2:j=l.length:=by
    have:=(aad.mp e2).1;rw[aeE]at this;omega
   rw[hj2,Nat.sub_self]at e2;have e3:x=y:=aai e2;rw[hj2,hll,es]at e1;rw[<-e3,<-aai e1];exact x6
 .rintro m hnp ⟨a,b,fd,l,rfl,hf,hll,hlx⟩;rw[Ge]at hf hll;walk_at"xs";refine⟨fd,_,_,rfl,hf,by omega,by rw[ah];omega,by rw[ah];omega,fun t fd ht0 ht1 hf=>?_⟩;rw[ah]at ht1;obtain⟨t,rfl⟩:=ab8 ht0;walk_at"xx";walk_at"xn";have wd:∃ds,r.d = .tuple (.str r.word::ds):=by cases r<;>exact⟨_,rfl⟩
  obtain⟨ds,ed⟩:=wd;rw[ed];have hw:r = .turns->r.word = "turns" :=fun z=>by rw[z];rfl
  refine Nw ?_;walk_at"xs";refine aD (aA (j:=0) (xs:=.str r.word::ds) rfl) ?_;walk_at"xs";refine aG (fun z=>?_) (fun z=>?_)
  .walk_at"xs";exact k l t fd ⟨⟨hll,hlx⟩,fun _=>by omega,by omega⟩ (hf.mono (by omega))
  .walk_at"xs";exact k l 0 fd ⟨⟨hll,hlx⟩,fun y=>(z (hw y)).elim,by decide⟩ (hf.mono (by omega))
theorem Mj(T:Bl K mg){ff:Addr}{fd:ac4}(F:Fun K "law" "law" slaw ff fd)(G_law_tape:FnM P w K mg base "_law_tape" 1 1 BZ)(G_law_hall:FnM P w K mg base "_law_hall" 4 2 vw)(G_law_rule:FnM P w K mg base "_law_rule" 2 2 yH)(G_law_draw:FnM P w K mg base "_law_draw" 1 2 im)(G_law_stand:FnM P w K mg base "_law_stand" 2 3 tF)(G_law_left:FnM P w K mg base "_law_left" 5 3 u4)(G_law_in_order:FnM P w K mg base "_law_in_order" 1 1 yq)(Gleft_by_turn:FnM P w K mg base "left_by_turn" 7 3 xn):FnOk P w K mg base CX0 9 ff fd ["_law_script"] (spOf ⟨K,w⟩ 1 AM):=by
 refine Dn F ji rfl (nN:=10) rfl (by decide) fun cdv A outer s H E f hr=>⟨_,(mz' (al 1 ji.nd (mf' G_law_tape (hr.mono (by decide)) (mc' (mv' 0) mn')))
   (mz' (al 2 ji.nd (bO (mc' (af (mc' mh' mn')) (mc' (af (mc' mh' mn')) (mc' (af (mc' mh' mn')) (mc' (af (mc' mh' (mc' mh' mn'))) (mc' (af (mc' mh' (mc' mh' mn'))) (mc' (af (mc' mh' (mc' mh' mn'))) (mc' (af (mc' mh' (mc' mh' mn'))) (mc' (af (mc' mh' (mc' mh' (mc' mh' mn')))) (mc' (af (mc' mh' (mc' mh' (mc' mh' mn')))) (mc' (af (mc' mh' (mc' mh' (mc' mh' mn')))) (mc' (af (mc' mh' (mc' mh' (mc' mh' (mc' mh' mn'))))) mn')))))))))))))
   (mz' (cV (gi abE abF cA (mv' 2) (mc' (af (mc' mh' (mc' mh' (mc' mh' (mc' mh' mn'))))) mn')))
   (mz' (DY (bt (bJ (by rfl) T.range (mc' mh' mn')) (ak 3 ji.nd) (mz' (al 4 ji.nd (mf' G_law_hall (hr.mono (by decide)) (mc' (mv' 1) (mc' (mv' 2) mn'))))
   (mz' (al 5 ji.nd (mf' G_law_rule (hr.mono (by decide)) (mc' (mv' 1) (mc' (mv' 4) mn'))))
   (mz' (bc (av (bG hr.units) (mf' G_law_draw (hr.mono (by decide)) (mc' (mv' 1) (mc' mh' mn'))) mh' (aI _)) (mz' (al 4 ji.nd (mf' G_law_hall (hr.mono (by decide)) (mc' (mv' 1) (mc' (dU (bO (mc' (af (mc' mh' (mc' mh' (mc' mh' mn')))) mn'))) mn'))))
   (aa (al 5 ji.nd (af (mc' (ab (bO (mc' aC (mc' aC (mc' aC (mc' aC (mc' aC mn')))))) (mf' G_law_draw (hr.mono (by decide)) (mc' (mv' 1) (mc' mh' mn')))) mn'))))) ay)
   (aa (bt (bJ (by rfl) T.range (mc' mh' mn')) (ak 6 ji.nd) (mz' (al 7 ji.nd (mf' G_law_stand (hr.mono (by decide)) (mc' (mv' 1) (mc' (mv' 4) (mc' (mv' 5) mn')))))
   (mz' (al 8 ji.nd (au (da hr.gd hr.u200) (by rfl) T.repr iq (mc' (af (mc' (mv' 4) (mc' (mv' 5) (mc' (mv' 7) mn')))) mn')))
   (mz' (al 9 ji.nd (mf' G_law_in_order (hr.mono (by decide)) (mc' (mf' G_law_left (hr.mono (by decide)) (mc' (mv' 4) (mc' (mv' 5) (mc' (dU (bO (mc' (af (mc' (mv' 7) (mc' (af (mc' mh' (mc' mh' mn'))) mn'))) mn'))) mn')))) mn')))
   (mz' (bc (EW.pt (wf (av (pJ hr.units) (au (da hr.gd hr.u200) (by rfl) T.repr iq (mc' (mf' Gleft_by_turn (hr.mono (by decide)) (mc' (mv' 4) (mc' (mv' 5) (mc' (mv' 7) mn')))) mn')) (au (da hr.gd hr.u200) (by rfl) T.repr iq (mc' (mv' 9) mn')) (aI _)) (x9 (av (pJ hr.units) (au (da hr.gd hr.u200) (by rfl) T.repr iq (mc' (af (mc' (mv' 4) (mc' (mv' 5) (mc' (mv' 7) mn')))) mn')) (mv' 8) (aI _))))) (aa (ag uT)) ay)
   (aa (bc (EW.pt (lL (av (bG hr.units) (mv' 6) mh' (aI _)) (l6 (av (pJ hr.units) (au (da hr.gd hr.u200) (by rfl) T.repr iq (mc' (mf' Gleft_by_turn (hr.mono (by decide)) (mc' (mv' 4) (mc' (mv' 5) (mc' (mv' 7) mn')))) mn')) (au (da hr.gd hr.u200) (by rfl) T.repr iq (mc' (mv' 9) mn')) (aI _))))) (aa (ag uT)) ay)))))) aaG))))) aaG))
   (aa (ag uT)))))),?_⟩
 rintro as Kc hl ⟨ns,rfl,hn,k⟩;refine ai (MSt.mk [some (.imm (.list (ns.map .int))),none,none,none,none,none,none,none,none,none] [] 0) rfl ?_;walk_at"xs";refine⟨ns,rfl,hn,fun fd hf=>?_⟩;walk_at"xn";refine ca ?_;walk_at"xx";refine ca ?_;walk_at"xx";refine⟨_,rfl,by rw[aaq];decide,?_⟩;walk_at"xn";refine oj ?_;refine Nu 1 2 (menu25.map lnD) [0] (MSt.mk [some (.imm (.list (ns.map .int))),some (.obj 0),some (.imm (.list (menu25.map lnD))),none,none,none,none,none,none,none] [fd] 0) rfl rfl (Aw rfl rfl rfl rfl rfl rfl rfl rfl ⟨.inl rfl,.inl ⟨0,rfl,rfl⟩,.inr ⟨rfl,.inl rfl⟩,.inl trivial,.inl trivial,.inl trivial,.inl trivial,.inl trivial,.inl trivial,.inl trivial,trivial⟩) ?_;walk_at"xs";refine⟨by decide,by decide,?_⟩;refine bC (fun i m=>∃(a3 a4 a5 a6 a7 a8 a9:Option L2.R) (fd:List iO),m=MSt.mk [some (.imm (.list (ns.map .int))),some (.obj 0),some (.imm (.list (menu25.map lnD))),a3,a4,a5,a6,a7,a8,a9] [fd] 0/\TapeD (3000*i) fd) ⟨none,none,none,none,none,none,none,fd,rfl,hf⟩ ?_ ?_
 .rintro i d m e hnp ⟨a3,a4,a5,a6,a7,a8,a9,fd,rfl,hf⟩ D1 hD1 hR1;obtain⟨hi,rfl⟩:=bX e;have hi2:i<3:=hi;walk_at"xs";refine⟨fd,_,_,rfl,xr,hf,by omega,fun h S fd ho hS hf=>?_⟩;walk_at"xn";refine cw ?_;walk_at"xx";refine⟨fd,_,h,rfl,ho,hf,by omega,fun r fd hr hf=>?_⟩;walk_at"xn";refine cw ?_;walk_at"xn";refine oj ?_;refine x_JS (fun m=>∃(h:Hall) (S:Nat) (r:Rule) (fd:List iO),h.Ok/\OfS h S/\r.Ok h/\TapeD (3000*i+2460) fd/\m=MSt.mk [some (.imm (.list (ns.map .int))),some (.obj 0),some (.imm (.list (menu25.map lnD))),some (.imm (.int (0+(i:Int)))),some (.imm h.d),some (.imm r.d),a6,a7,a8,a9] [fd] 0) (fun N J=>?_) ?_
  .walk_at"xs";refine⟨fd,_,_,rfl,hf,by omega,by decide,by decide,fun q fd hq0 hq1 hf=>?_⟩;walk_at"xx";refine aG (fun _=>?_) (fun _=>?_)
   .walk_at"xs";refine⟨fd,_,[[6,6,6]],rfl,v6,hf,by omega,fun h S fd ho hS hf=>?_⟩;walk_at"xn";refine cw ?_;walk_at"xx";refine⟨fd,_,_,rfl,hf,by omega,by decide,by decide,fun q fd hq0 hq1 hf=>?_⟩;obtain⟨r,x,ex,er,hr⟩:=FE (h:=h) hq0 hq1;walk_at"xx";refine gu ex ?_;walk_at"xs";refine J _ ⟨h,S,r,fd,ho,hS,hr,hf.mono (by omega),?_⟩;rw[er];rfl
   .walk_at"xs";exact J _ ⟨h,S,r,fd,ho,hS,hr,hf.mono (by omega),rfl⟩
  clear ho hr hS hf;rintro _ ⟨h,S,r,fd,ho,hS,hr,hf,rfl⟩;have D:=du25 ho hr hS;have P0:0<(botH h:Int):=by have:=jK ho;omega
  have B0:((botH h:Nat):Int).natAbs<10^76:=by have:=D.b;rw[afP]at this;rw[aaN];exact aaY this (by decide)
  walk_at"xx";refine⟨by decide,by decide,?_⟩;refine bC (fun j m=>∃(a6 a7 a8 a9:Option L2.R) (fd:List iO),m=MSt.mk [some (.imm (.list (ns.map .int))),some (.obj 0),some (.imm (.list (menu25.map lnD))),some (.imm (.int (0+(i:Int)))),some (.imm h.d),some (.imm r.d),a6,a7,a8,a9] [fd] 0/\TapeD (3000*i+2460+9*j) fd) ⟨_,_,_,_,fd,rfl,hf⟩ ?_ ?_
  .rintro j d m e hnp ⟨a6,a7,a8,a9,fd,rfl,hf⟩ D2 hD2 hR2;obtain⟨hj,rfl⟩:=bX e;have hj2:j<3:=hj;walk_at"xs";refine⟨fd,_,h,r,rfl,ho,hr,hf,by omega,fun l t fd hS hf=>?_⟩;have X:=(GU D hS).1;have fb:Fine 300000 5 (.tuple [h.d,r.d,stD l t]):=(bm (n:=80000) (k:=4) (c:=3) (fun d hd=>by
    simp at hd;rcases hd with rfl|rfl|rfl
    .exact ho.fine.mono (by decide) (by decide)
    .exact(hr.fine ho).mono (by decide) (by decide)
    .exact(ml ho hS).mono (by decide) (by decide)) (by simp)).mono (by decide) (by decide)
   walk_at"xn";refine cw ?_;walk_at"xx";obtain⟨tb,htb⟩:∃tb,(acg [h.d,r.d,stD l t]).shown=tb:=⟨_,rfl⟩;refine iA fb rfl (by decide) (by decide) ?_;rw[htb];walk_at"xs";refine⟨h,r,l,t,rfl,D,hS,?_⟩;walk_at"xx";refine⟨h,r,lv h r (l,t),(botH h:Int),rfl,ho,X,fun W1 s1=>?_⟩;have ft:=xN ho X s1 P0 B0;obtain⟨tx,htx⟩:∃tx,(vh (botH h:Int) W1).shown=tx:=⟨_,rfl⟩;walk_at"xn";refine cw ?_;walk_at"xx";refine⟨h,r,l,t,rfl,D,hS,fun W2 s2=>?_⟩;have e12:=s2.uniq X s1;subst e12;walk_at"xx";refine iA ft rfl (by decide) (by decide) ?_;rw[htx];walk_at"xs";refine iA ft rfl (by decide) (by decide) ?_;rw[htx];walk_at"xs";rw[decide_eq_true (rfl:tx=tx)];refine ga ?_;walk_at"xs";refine iA fb rfl (by decide) (by decide) ?_;rw[htb];walk_at"xs";rw[decide_eq_true (rfl:tb=tb)];refine ga ?_;walk_at"xs"
   by_cases z:(0+(j:Int))=2
   .rw[decide_eq_true z];walk_at"xs";refine⟨h,r,l,t,rfl,D,hS,fun W3 s3=>?_⟩;have e13:=s3.uniq X s1;subst e13;walk_at"xx";refine iA ft rfl (by decide) (by decide) ?_;rw[htx];walk_at"xs";refine iA ft rfl (by decide) (by decide) ?_;rw[htx];walk_at"xs";rw[decide_eq_true (rfl:tx=tx)];refine ga ?_;walk_at"xs";exact hD2 _ ⟨_,_,_,_,fd,rfl,hf.mono (by omega)⟩
   .rw[decide_eq_false z];walk_at"xs";exact hD2 _ ⟨_,_,_,_,fd,rfl,hf.mono (by omega)⟩
  .rintro m hnz ⟨a6,a7,a8,a9,fd,rfl,hf⟩;exact hD1 _ ⟨_,_,_,_,_,_,_,_,rfl,hf.mono (by rw[aF];omega)⟩
 .rintro m n ⟨a3,a4,a5,a6,a7,a8,a9,fd,rfl,hf⟩;walk_at"xs";exact k
end
theorem ar_{us:List GE}{n:Nat}(hl:us.length=n):us=(aaI n).map fun i=>us.getD i .none:=ahR (by rw[hl,Ge,aa2]) fun i h1 h2=>by
 rw[adV,List.getElem_range,aau,oR h1];rfl
local macro_rules | `(tactic| walk_at "dm") => `(tactic| exact fun f fd F => F.binds fun _ _ _ _ _ _ us hl => by rw [ar_ hl]; rfl)
theorem Iz{w:World}{K:aaj}{h:aa6}{mg:Str->Option GE}{fa:Addr}(X:K.In h)(G:h.Ns aaU mg)(hfa:mg "law" = some (.ref fa))(dgreatest_divisor:DefK K "greatest_divisor" cx)(dfraction_of:DefK K "fraction_of" fy)(dtaken_off:DefK K "taken_off" iX)(ddivided:DefK K "divided" md)(dis_less:DefK K "is_less" m8)(don_one_bottom:DefK K "on_one_bottom" cC)(dplace_of_lines:DefK K "place_of_lines" dy)(dfirst_shortest:DefK K "first_shortest" dh)(dwait_at:DefK K "wait_at" mH)(dfirst_quickest:DefK K "first_quickest" dm)(dsent_to:DefK K "sent_to" lu)(dall_orders:DefK K "all_orders" fg)(dwith_more:DefK K "with_more" iM)(dcome_to:DefK K "come_to" na)(ddone_at:DefK K "done_at" nq)(dnext_shift:DefK K "next_shift" gC)(dsettled:DefK K "settled" mi)(dturn_behind:DefK K "turn_behind" fH)(dline_of:DefK K "line_of" lQ)(dmoved_on:DefK K "moved_on" jW)(dmove_shares:DefK K "move_shares" dH)(dweights_behind:DefK K "weights_behind" dq)(dtold_shares:DefK K "told_shares" dG)(dleft_by_turn:DefK K "left_by_turn" fh)(d_law_tape:DefK K "_law_tape" il)(d_law_draw:DefK K "_law_draw" iK)(d_law_cut:DefK K "_law_cut" jB)(d_law_plus:DefK K "_law_plus" iQ)(d_law_times:DefK K "_law_times" gG)(d_law_parts:DefK K "_law_parts" dw)(d_law_hall:DefK K "_law_hall" fZ)(d_law_all_lines:DefK K "_law_all_lines" cn)(d_law_rule:DefK K "_law_rule" f7)(d_law_orders:DefK K "_law_orders" dN)(d_law_soonest:DefK K "_law_soonest" fo)(d_law_sent:DefK K "_law_sent" iW)(d_law_more:DefK K "_law_more" iC)(d_law_evened:DefK K "_law_evened" fE)(d_law_asked:DefK K "_law_asked" gw)(d_law_behind:DefK K "_law_behind" fz)(d_law_left:DefK K "_law_left" iU)(d_law_in_order:DefK K "_law_in_order" cE)(d_law_stand:DefK K "_law_stand" gj)(dlaw:DefK K "law" slaw)(zlen:abw K aaU "len" = some none)(zabs:abw K aaU "abs" = some none)(zrange:abw K aaU "range" = some none)(zlist:abw K aaU "list" = some none)(ztuple:abw K aaU "tuple" = some none)(zint:abw K aaU "int" = some none)(zsum:abw K aaU "sum" = some none)(zzip:abw K aaU "zip" = some none)(zmin:abw K aaU "min" = some none)(zmax:abw K aaU "max" = some none)(zenumerate:abw K aaU "enumerate" = some none)(zrepr:abw K aaU "repr" = some none)(zsorted:abw K aaU "sorted" = some none)(cWHOLE_TURN:ConK K "WHOLE_TURN" (.tuple (([1,1]:List Int).map .int)))    :
  ∃fd:ac4,(∀(s:aab) (v:GE),ahz s fd ⟨[v],[]⟩ [("_law_script",v)])/\∀base:aa6,K.In base->base.Ns aaU mg->FnOk l.prog w K mg base CX0 9 fa fd ["_law_script"] (spOf ⟨K,w⟩ 1 AM):=by
 obtain⟨f,fd,a,F⟩:=dlaw.ex;have e:=hfa.symm.trans (ahj X G a);cases e;have T:Bl K mg:=⟨abe X G zlen,abe X G zabs,abe X G zrange,abe X G zlist,abe X G ztuple,abe X G zint,abe X G zsum,abe X G zzip,abe X G zmin,abe X G zmax,abe X G zenumerate,abe X G zrepr,abe X G zsorted,cWHOLE_TURN.m X G⟩;have Dgreatest_divisor:=dgreatest_divisor.m (ps:=["one","other"]) X G (by walk_at"dm");have Dfraction_of:=dfraction_of.m (ps:=["top","bottom"]) X G (by walk_at"dm");have Dtaken_off:=dtaken_off.m (ps:=["one","other"]) X G (by walk_at"dm");have Ddivided:=ddivided.m (ps:=["one","other"]) X G (by walk_at"dm");have Dis_less:=dis_less.m (ps:=["one","other"]) X G (by walk_at"dm");have Don_one_bottom:=don_one_bottom.m (ps:=["pairs"]) X G (by walk_at"dm");have Dplace_of_lines:=dplace_of_lines.m (ps:=["hall","lines"]) X G (by walk_at"dm");have Dfirst_shortest:=dfirst_shortest.m (ps:=["lines","order"]) X G (by walk_at"dm");have Dwait_at:=dwait_at.m (ps:=["hall","lines","line"]) X G (by walk_at"dm");have Dfirst_quickest:=dfirst_quickest.m (ps:=["hall","lines","order"]) X G (by walk_at"dm");have Dsent_to:=dsent_to.m (ps:=["hall","rule","stand","order"]) X G (by walk_at"dm");have Dall_orders:=dall_orders.m (ps:=["hall"]) X G (by walk_at"dm");have Dwith_more:=dwith_more.m (ps:=["lines","line","more"]) X G (by walk_at"dm");have Dcome_to:=dcome_to.m (ps:=["hall","lines","line"]) X G (by walk_at"dm");have Ddone_at:=ddone_at.m (ps:=["lines","line"]) X G (by walk_at"dm");have Dnext_shift:=dnext_shift.m (ps:=["hall","lines"]) X G (by walk_at"dm");have Dsettled:=dsettled.m (ps:=["hall","lines"]) X G (by walk_at"dm");have Dturn_behind:=dturn_behind.m (ps:=["hall","rule","turn"]) X G (by walk_at"dm");have Dline_of:=dline_of.m (ps:=["hall","rule","stand","move"]) X G (by walk_at"dm");have Dmoved_on:=dmoved_on.m (ps:=["hall","rule","stand","move"]) X G (by walk_at"dm");have Dmove_shares:=dmove_shares.m (ps:=["hall"]) X G (by walk_at"dm");have Dweights_behind:=dweights_behind.m (ps:=["hall","rule","weights"]) X G (by walk_at"dm");have Dtold_shares:=dtold_shares.m (ps:=["weights","whole"]) X G (by walk_at"dm");have Dleft_by_turn:=dleft_by_turn.m (ps:=["hall","rule","stand"]) X G (by walk_at"dm");have D_law_tape:=d_law_tape.m (ps:=["_law_script"]) X G (by walk_at"dm");have D_law_draw:=d_law_draw.m (ps:=["_law_tape_here","_law_many"]) X G (by walk_at"dm");have D_law_cut:=d_law_cut.m (ps:=["_law_top","_law_bottom"]) X G (by walk_at"dm");have D_law_plus:=d_law_plus.m (ps:=["_law_one","_law_other"]) X G (by walk_at"dm");have D_law_times:=d_law_times.m (ps:=["_law_one","_law_other"]) X G (by walk_at"dm");have D_law_parts:=d_law_parts.m (ps:=["_law_tape_here","_law_many"]) X G (by walk_at"dm");have D_law_hall:=d_law_hall.m (ps:=["_law_tape_here","_law_menu"]) X G (by walk_at"dm");have D_law_all_lines:=d_law_all_lines.m (ps:=["_law_hall_here"]) X G (by walk_at"dm");have D_law_rule:=d_law_rule.m (ps:=["_law_tape_here","_law_hall_here"]) X G (by walk_at"dm");have D_law_orders:=d_law_orders.m (ps:=["_law_many"]) X G (by walk_at"dm");have D_law_soonest:=d_law_soonest.m (ps:=["_law_hall_here","_law_lines","_law_order"]) X G (by walk_at"dm");have D_law_sent:=d_law_sent.m (ps:=["_law_hall_here","_law_rule_here","_law_stand_here","_law_order"]) X G (by walk_at"dm");have D_law_more:=d_law_more.m (ps:=["_law_lines","_law_k","_law_many"]) X G (by walk_at"dm");have D_law_evened:=d_law_evened.m (ps:=["_law_hall_here","_law_lines"]) X G (by walk_at"dm");have D_law_asked:=d_law_asked.m (ps:=["_law_hall_here","_law_rule_here","_law_stand_here","_law_order"]) X G (by walk_at"dm");have D_law_behind:=d_law_behind.m (ps:=["_law_hall_here","_law_rule_here","_law_stand_here"]) X G (by walk_at"dm");have D_law_left:=d_law_left.m (ps:=["_law_hall_here","_law_rule_here","_law_pairs"]) X G (by walk_at"dm");have D_law_in_order:=d_law_in_order.m (ps:=["_law_shares"]) X G (by walk_at"dm");have D_law_stand:=d_law_stand.m (ps:=["_law_tape_here","_law_hall_here","_law_rule_here"]) X G (by walk_at"dm");refine⟨fd,fun s v=>?_,fun base _ _=>?_⟩
 .obtain⟨oc,od,kV,doc,pm,an,cdv,ct,osl,rfl,lk,hcd⟩:=F.ex;exact .of_eq rfl
 .have Ggreatest_divisor:=ib (P:=l.prog) (w:=w) (base:=base) T Dgreatest_divisor;have Gfraction_of:=mj (P:=l.prog) (w:=w) (base:=base) T Dfraction_of Ggreatest_divisor;have Gtaken_off:=qr (P:=l.prog) (w:=w) (base:=base) T Dtaken_off Gfraction_of;have Gdivided:=vO (P:=l.prog) (w:=w) (base:=base) T Ddivided Gfraction_of;have Gis_less:=xV (P:=l.prog) (w:=w) (base:=base) T Dis_less;have Gon_one_bottom:=jQ (P:=l.prog) (w:=w) (base:=base) T Don_one_bottom Ggreatest_divisor;have Gplace_of_lines:=jg (P:=l.prog) (w:=w) (base:=base) T Dplace_of_lines;have Gfirst_shortest:=jh (P:=l.prog) (w:=w) (base:=base) T Dfirst_shortest;have Gwait_at:=vQ (P:=l.prog) (w:=w) (base:=base) T Dwait_at;have Gfirst_quickest:=jf (P:=l.prog) (w:=w) (base:=base) T Dfirst_quickest Gwait_at Gis_less;have Gsent_to:=xl (P:=l.prog) (w:=w) (base:=base) T Dsent_to Gfirst_shortest Gfirst_quickest Gplace_of_lines;have Gall_orders:=pI (P:=l.prog) (w:=w) (base:=base) T Dall_orders;have Gwith_more:=rl (P:=l.prog) (w:=w) (base:=base) T Dwith_more;have Gcome_to:=vz (P:=l.prog) (w:=w) (base:=base) T Dcome_to Gwith_more;have Gdone_at:=ya (P:=l.prog) (w:=w) (base:=base) T Ddone_at Gwith_more;have Gnext_shift:=o3 (P:=l.prog) (w:=w) (base:=base) T Dnext_shift;have Gsettled:=v5 (P:=l.prog) (w:=w) (base:=base) T Dsettled Gnext_shift Gwith_more;have Gturn_behind:=mF (P:=l.prog) (w:=w) (base:=base) T Dturn_behind;have Gline_of:=yt (P:=l.prog) (w:=w) (base:=base) T Dline_of Gsent_to;have Gmoved_on:=uI (P:=l.prog) (w:=w) (base:=base) T Dmoved_on Gline_of Gcome_to Gturn_behind Gdone_at Gsettled;have Gmove_shares:=ng (P:=l.prog) (w:=w) (base:=base) T Dmove_shares Gall_orders Gdivided Gtaken_off;have Gweights_behind:=jd (P:=l.prog) (w:=w) (base:=base) T Dweights_behind Gmove_shares Gon_one_bottom Gmoved_on;have Gtold_shares:=l8 (P:=l.prog) (w:=w) (base:=base) T Dtold_shares Gfraction_of;have Gleft_by_turn:=ku (P:=l.prog) (w:=w) (base:=base) T Dleft_by_turn Gweights_behind Gtold_shares;have G_law_tape:=qZ (P:=l.prog) (w:=w) (base:=base) T D_law_tape;have G_law_draw:=qm (P:=l.prog) (w:=w) (base:=base) T D_law_draw;have G_law_cut:=uv (P:=l.prog) (w:=w) (base:=base) T D_law_cut;have G_law_plus:=q9 (P:=l.prog) (w:=w) (base:=base) T D_law_plus G_law_cut;have G_law_times:=nH (P:=l.prog) (w:=w) (base:=base) T D_law_times G_law_cut;have G_law_parts:=pc (P:=l.prog) (w:=w) (base:=base) T D_law_parts G_law_draw G_law_cut;have G_law_hall:=qv (P:=l.prog) (w:=w) (base:=base) T D_law_hall G_law_draw G_law_parts;have G_law_all_lines:=jc (P:=l.prog) (w:=w) (base:=base) T D_law_all_lines;have G_law_rule:=qh (P:=l.prog) (w:=w) (base:=base) T D_law_rule G_law_draw G_law_all_lines;have G_law_orders:=m6 (P:=l.prog) (w:=w) (base:=base) T D_law_orders;have G_law_soonest:=kz (P:=l.prog) (w:=w) (base:=base) T D_law_soonest;have G_law_sent:=qB (P:=l.prog) (w:=w) (base:=base) T D_law_sent G_law_all_lines G_law_soonest;have G_law_more:=qw (P:=l.prog) (w:=w) (base:=base) T D_law_more;have G_law_evened:=lJ (P:=l.prog) (w:=w) (base:=base) T D_law_evened G_law_more;have G_law_asked:=pF (P:=l.prog) (w:=w) (base:=base) T D_law_asked G_law_sent G_law_evened G_law_more;have G_law_behind:=m9 (P:=l.prog) (w:=w) (base:=base) T D_law_behind G_law_orders G_law_asked G_law_cut G_law_plus G_law_more G_law_evened;have G_law_left:=qE (P:=l.prog) (w:=w) (base:=base) T D_law_left G_law_behind G_law_times G_law_plus;have G_law_in_order:=jL (P:=l.prog) (w:=w) (base:=base) T D_law_in_order;have G_law_stand:=oN (P:=l.prog) (w:=w) (base:=base) T D_law_stand G_law_draw;exact Mj T F G_law_tape G_law_hall G_law_rule G_law_draw G_law_stand G_law_left G_law_in_order Gleft_by_turn
theorem walk{q:aaZ}{loose:List Str}{XP:(Str->Option GE)->aa6->Prop}{YP:World->aa6->Prop}{d:DefRec}{K:Params->aaj}(hq:PyProof.Rows.importsNone q=true)(hn:l.most=some 63)(hdf:d.params.defaults=[])
  (hY:∀(w:World) (h:aa6),YP w h->(K w.params).In h)
  (F:∀(w:World) (mg:Str->Option GE) (fa:Addr) (h:aa6),(K w.params).In h->h.Ns aaU mg->mg d.name=some (.ref fa) ->
   ∃fd:ac4,(∀(s:aab) (u:GE),ahz s fd ⟨[u],[]⟩ [("_law_script",u)])/\∀base:aa6,(K w.params).In base->base.Ns aaU mg->FnOk l.prog w (K w.params) mg base CX0 9 fa fd ["_law_script"] (spOf ⟨K w.params,w⟩ 1 AM)) :
  ah8 q loose XP YP l.row.toRowW d [] (fun f vs=>ah5 f vs) :=
 L2.DQ (n:=63) (k:=9) (x := "_law_script") (CX:=fun _=>CX0) (sp:=fun w=>spOf ⟨K w.params,w⟩ 1 AM) hq hn (by decide) hdf ⟨rfl,by decide,by decide,rfl⟩ hY F
  (fun w H a ns hl hO hS=>⟨[.imm (.list (ns.map .int))],[],fun r _=>r = .imm (.bool true),rfl,adm,.imm (uL hO hS) .nil,⟨ns,rfl,hl,rfl⟩,fun r outs v H' k _ rr _=>by cases k;exact ki (show Den ⟨K w.params,w⟩ H' (.bool true) v from rr)⟩) fun _ _ _ _ _ z=>z
end K
namespace PySem.W.Fast
def tw7232218099771968:=0
def tw17531739314188803614:=0
def tw8863678825288122030:=0
def tw13730852989776513988:=0
def tw15719966274520804187:=0
def tw11656923454724667937:=0
def tw8760951777736146356:=0
def tw8697959825216292301:=0
def tw9945376685630912236:=0
def tw3023003484526898769:=0
def tw12410917934351186843:=0
def tw574102798611222859:=0
def tw9528193553217750952:=0
def tw2894776307865282386:=0
def tw12523297968989768387:=0
def tw15714989962436132932:=0
def tw9046977630526243001:=0
def tw7715496812539251124:=0
def tw16767732591929783935:=0
def tw16312898947040078275:=0
def tw15694541774288447586:=0
def tw12345850017197824880:=0
def tw11059340164358531588:=0
def tw13367686127372439904:=0
def tw17727302794911299433:=0
def tw16974923521164848170:=0
def tw11005097505354545528:=0
def tw1154249580392355506:=0
def tw14291991061089511588:=0
def tw1541997213456967943:=0
def tw6668110159901715063:=0
def tw10414411912821109458:=0
def tw2128919373153058317:=0
def tw9843060915492868329:=0
def tw565565556170575249:=0
def tw10603529992724194206:=0
def tw12330819081504379471:=0
def tw16043868322632962959:=0
def tw13671977250819466582:=0
def tw16031579350352324082:=0
def tw18327567590897017600:=0
def tw6867601088021294379:=0
def tw12001442900361280687:=0
def tw13262221396436469861:=0
def tw15564345478566216642:=0
def tw15142084112692782059:=0
def tw2739537048878587507:=0
def tw676778710428916759:=0
def tw9926274442250530161:=0
def tw16116430478202099433:=0
def tw13255273485505160538:=0
def tw9242549302906886283:=0
def tw3558748436247386616:=0
def tw10650201531821271634:=0
def tw12763840655185287048:=0
def tw14466599208942454509:=0
def tw5749135600061812986:=0
def tw13815708852521344583:=0
def tw13038121644994317246:=0
def tw2713740764840989061:=0
def tw12681407815644379154:=0
def tw3229512894991721817:=0
def tw10487349083147822751:=0
def tw8900978358319525487:=0
def tw15979880421759840169:=0
def tw10702066720529361093:=0
def tw7652954190020314244:=0
def tw13741713915826091279:=0
def tw4193483483794630936:=0
def tw11149488434126667556:=0
def tw600421672404902393:=0
def tw15047600266129143551:=0
def tw11052096648228732307:=0
def tw7887416511022354208:=0
def tw12608576603608093569:=0
def tw5175620791644897386:=0
def tw1533995507278704883:=0
def tw15235279691171514112:=0
def tw11874419123570513238:=0
def tw3972233919512967076:=0
def tw13795060801706188763:=0
def tw16933509183445063538:=0
def tw774815967171358433:=0
def tw10962591050402493492:=0
def tw7401402052683998363:=0
def tw3043357771311605405:=0
def tw7997676254780375738:=0
def tw6688658456623599508:=0
def tw804514051015442067:=0
def tw3521224902180011990:=0
def tw14473077146332904914:=0
def tw12558034799448023596:=0
def tw10554855530350485258:=0
def tw10624853135634332009:=0
def tw9486028087272595509:=0
def tw3855828433293966893:=0
def tw2694295998105831208:=0
def tw9370105566740087499:=0
def tw6190098309425518295:=0
def tw5933926072172654809:=0
def tw7345420802434288607:=0
def tw5724153198969414446:=0
def tw17372429591370797373:=0
def tw6179499443597407752:=0
def tw13064671596392973407:=0
def tw7096422744772462537:=0
def tw13804149267065482482:=0
def tw8503939785756142045:=0
def tw8601034164794945051:=0
def tw10234631930116557474:=0
def tw13523111240827982703:=0
def tw239168700156885724:=0
def tw10447501135152288487:=0
def tw7748041475818570014:=0
def tw8843946037708178452:=0
def tw1529181045237304606:=0
def tw8773137750223916787:=0
def tw16805503507451590017:=0
def tw7815931713067484834:=0
def tw16352169722185954659:=0
end PySem.W.Fast
open PySem PySem.W PyProof.Rows
local macro_rules | `(tactic| walk_at "dk") => `(tactic| (refine' L2.DefK.of ?a ?l ?c ?k; (case a => k_is); (case l => k_is); (case c => k_is); (case k => k_is)))
set_option maxRecDepth 100000 in
set_option maxHeartbeats 0 in
theorem PySem.Challenge.cw_shorterline_k25_what_a_turn_leaves_holds : PySem.Challenge.rw_shorterline_k25_what_a_turn_leaves.Holds := by
 w_on;o_law;k_head;(case hw=>w_witness2)
 k_fill
 refine K.walk (l:=PySem.Challenge.rw_shorterline_k25_what_a_turn_leaves) ?hq rfl rfl (fun w h Y=>PySem.W.kIn_of Y) ?F
 case hq=>kernel_rfl
 case F =>
  intro w mg fa h KX G hmg;refine' K.Iz KX G hmg ?dgreatest_divisor ?dfraction_of ?dtaken_off ?ddivided ?dis_less ?don_one_bottom ?dplace_of_lines ?dfirst_shortest ?dwait_at ?dfirst_quickest ?dsent_to ?dall_orders ?dwith_more ?dcome_to ?ddone_at ?dnext_shift ?dsettled ?dturn_behind ?dline_of ?dmoved_on ?dmove_shares ?dweights_behind ?dtold_shares ?dleft_by_turn ?d_law_tape ?d_law_draw ?d_law_cut ?d_law_plus ?d_law_times ?d_law_parts ?d_law_hall ?d_law_all_lines ?d_law_rule ?d_law_orders ?d_law_soonest ?d_law_sent ?d_law_more ?d_law_evened ?d_law_asked ?d_law_behind ?d_law_left ?d_law_in_order ?d_law_stand ?dlaw ?zlen ?zabs ?zrange ?zlist ?ztuple ?zint ?zsum ?zzip ?zmin ?zmax ?zenumerate ?zrepr ?zsorted ?cWHOLE_TURN
  (case dgreatest_divisor=>walk_at"dk")
  (case dfraction_of=>walk_at"dk")
  (case dtaken_off=>walk_at"dk")
  (case ddivided=>walk_at"dk")
  (case dis_less=>walk_at"dk")
  (case don_one_bottom=>walk_at"dk")
  (case dplace_of_lines=>walk_at"dk")
  (case dfirst_shortest=>walk_at"dk")
  (case dwait_at=>walk_at"dk")
  (case dfirst_quickest=>walk_at"dk")
  (case dsent_to=>walk_at"dk")
  (case dall_orders=>walk_at"dk")
  (case dwith_more=>walk_at"dk")
  (case dcome_to=>walk_at"dk")
  (case ddone_at=>walk_at"dk")
  (case dnext_shift=>walk_at"dk")
  (case dsettled=>walk_at"dk")
  (case dturn_behind=>walk_at"dk")
  (case dline_of=>walk_at"dk")
  (case dmoved_on=>walk_at"dk")
  (case dmove_shares=>walk_at"dk")
  (case dweights_behind=>walk_at"dk")
  (case dtold_shares=>walk_at"dk")
  (case dleft_by_turn=>walk_at"dk")
  (case d_law_tape=>walk_at"dk")
  (case d_law_draw=>walk_at"dk")
  (case d_law_cut=>walk_at"dk")
  (case d_law_plus=>walk_at"dk")
  (case d_law_times=>walk_at"dk")
  (case d_law_parts=>walk_at"dk")
  (case d_law_hall=>walk_at"dk")
  (case d_law_all_lines=>walk_at"dk")
  (case d_law_rule=>walk_at"dk")
  (case d_law_orders=>walk_at"dk")
  (case d_law_soonest=>walk_at"dk")
  (case d_law_sent=>walk_at"dk")
  (case d_law_more=>walk_at"dk")
  (case d_law_evened=>walk_at"dk")
  (case d_law_asked=>walk_at"dk")
  (case d_law_behind=>walk_at"dk")
  (case d_law_left=>walk_at"dk")
  (case d_law_in_order=>walk_at"dk")
  (case d_law_stand=>walk_at"dk")
  (case dlaw=>walk_at"dk")
  (case zlen=>k_is)
  (case zabs=>k_is)
  (case zrange=>k_is)
  (case zlist=>k_is)
  (case ztuple=>k_is)
  (case zint=>k_is)
  (case zsum=>k_is)
  (case zzip=>k_is)
  (case zmin=>k_is)
  (case zmax=>k_is)
  (case zenumerate=>k_is)
  (case zrepr=>k_is)
  (case zsorted=>k_is)
  (case cWHOLE_TURN=>(refine' L2.ConK.ints ?a ?l ?i ?z;(case a=>k_is);(case l=>k_is);(case i=>rfl);(case z=>decide)))