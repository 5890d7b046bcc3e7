import PyProof.Rows.All
import KE.KDictOf
import KE.KIsAll
import KE.KFromBytes
import KE.KDictSum
import KE.KEqDict
import KE.LcSums
import KE.KItem
import Lean
import PyProof.EqAt
import PyProof.EqKinds
import PyProof.TupleCall
import PyProof.Rows.SortStr
import PyProof.StrLawsReplace
import PyProof.StrLawsIdx
import PyProof.StrLawsIn
import PyProof.StrBlockI
import PyProof.StrBlockL
import PyProof.SliceList
import PyProof.InstStoreFacts
import PyProof.NsDelKeeps
import PyProof.StationsW
import PyProof.ExcArgs
import PyProof.ExcBaseAll.ValueError
import PyProof.StrCalls
import PyProof.ListRange
import PyProof.EnumMake
import PyProof.Draws
import PyProof.FactsAll.dict
import PyProof.StrBlock2
import PyProof.Rows.SumAny
import PyProof.NeKinds
import PyProof.Rows.MinMaxN
import PyProof.Rows.Range3
import PyProof.StrLawsFirst
import PyProof.AttrMissHeap
import PyProof.Rows.CallKwBuiltin
import KE.KMinKey
import PyProof.FString2
import KE.KDictLaws
import KE.KRevIter
import PyProof.DictItems
import PyProof.ZipIter
import PySem.Challenge.RW_bandscribe_k70_whole_one_of_three
set_option genInjectivity false
set_option genSizeOfSpec false
open PySem.Challenge renaming pw_bandscribe_k70_whole_one_of_three->ñ,rw_bandscribe_k70_whole_one_of_three->Ę
open List renaming length_map->À,getElem?_eq_getElem->Ä,getElem?_map->È,getD_eq_getElem?_getD->Õ,length_append->Ì,getElem?_eq_some_iff->Ö,mem_map->Ç,mem_cons_of_mem->Ô,mem_singleton->Ó,mem_cons_self->Ø,map_map->Ê,map_append->Ò,map_cons->Ñ,mem_of_getElem?->á,length_take->Û,mem_append->Ú,mem_filter->Ý,size_toArray->â,take_length->ä,mem_append_right->ù,mem_cons->æ,getElem?_append_right->ĉ,range->Ü,getElem?_append_left->Ĉ,map_congr_left->ü,replicate->ë,all_eq_true->ø,length_cons->õ,nodup_cons->ó,getElem_mem->û,sum_cons->ï,length_range->Ă,append_assoc->Ā,append_nil->ý,filter_cons_of_pos->ė,take_add_one->Ć,filter_cons_of_neg->Ī,mem_append_left->Ĕ,filter_eq_self->ę,mem_range->Ą,not_mem_nil->ċ,length_filter_le->ľ,filterMap_cons->Ġ,length_drop->ď,eq_nil_of_length_eq_zero->ũ,take_sublist->ġ,any_eq_true->ğ,take_of_length_le->ŕ,filter_append->Ň,getElem_of_mem->Ŗ,nodup_nil->ĸ,getElem?_set_self->ξ,getElem?_set_ne->ο,flatten_cons->ű,nodup_append->Ū,replicate_succ->ų,dropLast_concat_getLast->wcp,mem_filterMap->Ŵ,length_singleton->Υ,length_set->Ų,mem_or_eq_of_mem_set->wcG,length->Ŋ,length_filterMap_le->wcM,filter_sublist->Ζ,any_cons->Ş,find?_cons->ſ,map->Ĥ,foldl_append->wd8,any_map->ŧ,length_replicate->wda,take_zero->ι,getElem_inj->wdg,lookup_cons->wdh,getElem_toArray->wdo,map_take->ς,foldl_cons->Θ,range_succ->wdv,getElem?_take_of_lt->wdD,map_id'->ν,prefix_append->wdI,flatMap_cons->wdQ,drop_eq_nil_of_le->wdW,map_drop->wdX,sum->Ř,take_prefix->we1,mem_flatMap->we2,take_append_drop->we6,filterMap_append->web,map_nil->Ο,mem_iff_getElem->wer,mem_of_mem_take->wes,filter_map->wet,drop_zero->weI,pairwise_cons->weO,all_cons->weS,any_eq_false->wf1,map_dropLast->wf7,filter_congr->wf8,getElem_take->wf9,extract_eq_take_drop->wfd,getElem?_eq_none_iff->wff,all_map->wfj,idxOf_lt_length_iff->wfq,suffix_refl->wfr,length_eq_zero_iff->wfw,prefix_iff_eq_take->wfC,of_mem_zip->wfJ,length_nil->wfK,lookup->wfS,range'->wg2,drop_of_length_le->wg4,singleton_append->wgd,getElem?_eq_none->wge,eq_nil_or_concat->wgf,idxOf_cons_self->wgq,flatMap_append->wgF,map_eq_nil_iff->wgI,getElem?_range->wgK,length_pos_iff->wgL,count_pos_iff->wgX,contains_cons->wh0,mem_range'_1->wh9,ext_getElem?->whc,drop_sublist->whe,range'_succ->wht,nodup_range->whu,drop_suffix->whv,append_inj'->whx,foldl->whA,nil_append->whC,idxOf_cons->whF,sum_append->whG,take_left->whM
open PySem.W renaming Frag->Á,findIn->ć,kia_one->Ğ,emptyDict->ŉ,recOk->ĺ,callWith_K->Ŭ,xlAt->Ļ,instObj->ŗ,fnOf->Į,keepIn->Ś,boot_heap->ķ,looks_findIn->δ,codeIn->Χ,looks_clsIn->wdP,plainGet->wdY,methodCall_KW->wea,OpenLaw->Ŷ,plainGet_of->wez,lookIn->weE,kitOne->weH,hasDictIn->wf0,methodObj->wf4,set_plain->wf6,isFn->wfk,takerIn->wfI,cellsFrom_some->wfT,looks_mroIn->wg5,SharedT->ω,check_slot->wgG,kdl_values->wgU,specialIn->wh2,plainOver->wh4,kitx_list->wh7,kitx_dict->wh8,boot_o_0->whm,handedIn->whn,kdl_dict->whr,kdl_call->whs,WalkO->whz,KeqHits->whD,makesIn->whE
open PySem renaming wpAny_bind->Â,wpAny_pure->Í,Program->É,bootBuiltins->é,mainGlobals->í,wpAny_holding->ö,wpAny_mono->ê,compareOp->ò,wpAny_Call_Name_kw->ģ,FuncData->ì,wpAny_loadPart_at->Ħ,importedModules->ě,codeAny_builtin->Ĭ,strKind->ĕ,wpAny_tryCatch->ĝ,excClassObj->Č,wpAny_truthy_bool->Ł,foldedSetIterable->ň,codeAny_mono->ē,OsState->ô,codeAny_call_builtin->Ů,sizeLine_eq->Ė,attributeBase->ĵ,wpAny_call->đ,plainId_quiet->Ľ,swapsWith->č,lookup_relabel_local->ź,cLine->ð,mem_of_lookup->θ,wpAny_isSubtype_exc->π,wpAny_execs_nil->Ŝ,wpAny_passesOwn->Ũ,wpAny_pyIter_list->υ,sysModules->ļ,keywordEach->Ń,wpAny_seqItems->š,Scope->ú,plainObj_wpAny_Assign_Attribute->wcR,wpAny_getItem_str_slice->wcT,behindInMarks->ş,tupleKind_room_in1->Ι,wpAny_updateSeq->Ż,wpAny_letGo->ř,assignEach->ŏ,wpAny_execs_cons->wdj,wpAny_standAt->Ž,Builtin->Ĩ,GenState->ł,Within->ζ,scanBound->ō,boot_len->Ρ,wpAny_pyIter_enum->wdO,wpAny_field->Ź,Result->ī,NameKind->Ŏ,checkBuiltinCall->we3,getMethod->Ŧ,seqItems?->Ţ,letOwnedTupleGo->wef,call_meets->ż,post_val_or_str->wel,wpAny_setField->weF,wpAny_loadPart->weG,tupleKind->γ,onTheHeap->ε,wpAny_letOwnedTupleGo_enum->weX,wpAny_newObj_type->wf3,typeLookup->Η,isInstance->Β,Keyword->ŭ,call_meetsIn->wfl,wpAny_lookBehind->wfm,pastItsLine_dict->wfn,wpAny_comprehension_free->wfo,wpAny_Call_method0_late->wfA,treeTable->wfF,setFlight->΢,codeAny_of_tree->wfO,wpAny_loadPart'->wfQ,subscripted->wfU,IsRangeIter->wfW,wpAny_pyNext_range_end->wfX,wpAny_pyIter_rangeiter->wfY,wpAny_isTrue_Compare1->wgb,weight_type_call_type->wgc,wpAny_loadName_local->wgm,PlainAttrs->wgn,wpAny_attempt->wgz,wpAny_loadName_cell->wgD,evalArgs_none->wgE,wpAt_of_wpAny->wgH,seqIndex_neg->wgR,wpAny_nsSet1->wgV,updateSeq->wgZ,seqIndex_of->whh,intItems_at->whi,wpAny_of_eq->whk,sliceBounds->whl,wpAt_bind->whI,call->whJ
open PySem.Heap renaming get?_push_of_some->Ð,lt_size->Ë,get?_push_size->ã,get?_update_other->Ċ,get?_update_self->Ő,size_push->Ĝ,SameBut->wei,get?_update_ne->wgM
open Nat renaming le_refl->Å,le_trans->Ï,lt_of_lt_of_le->Þ,ne_of_lt->Ù,zero_le->à,lt_irrefl->þ,lt_of_le_of_lt->Ě,lt_succ_self->ŀ,sub_self->ħ,ne_of_gt->Ķ,add_sub_cancel_left->wcj,le_succ->ı,not_lt_zero->Γ,le_of_lt->ŷ,lt_succ_of_lt->wdN,le_of_eq->weh,mul_le_mul_right->wen,mul_le_mul_left->weB,lt_or_eq_of_le->weR,min_eq_left->wfP,mul_le_mul->wgh,pow_le_pow_right->wgt,succ_mul->wgS,zero_add->wgY,lt_succ_of_le->whb,lt_trichotomy->whd,le_of_not_lt->why,le_antisymm->whH
open Option.some renaming inj->Î
open Sum renaming inr->Ã,inl->å
open PySem.Value renaming ref->Æ,none->ā,builtin->œ,type->ŵ,int->Ψ,str->Κ,bool->wgl,isStrOf->wgv,isStrOf_shape->wgB,float->whg
open Bool renaming false_ne_true->ß,and_eq_true->Ď,false_eq_true->ŋ,true_and->ő,and_false->ŝ,false_and->Š,eq_iff_iff->wdt,false_or->weT,eq_false_iff->wfa,not_true->wgA,or_eq_true->whB
open Int renaming toNat_natCast->î,emod_nonneg->ĩ,emod_lt_of_pos->ņ,zero_add->ń,le_ediv_iff_mul_le->wd6,le_trans->ů,pow_succ->Ť,natCast_add->Λ,natCast_pow->Τ,le_refl->μ,ediv_nonneg->weo,mul_comm->Φ,natCast_mul->wev,add_mul->Ν,le_of_mul_le_mul_right->weY,eq_ofNat_of_zero_le->wfx,mul_zero->wh1,mul_pos->whj
open PySem.F renaming plainAttrs_list->ă,slot_list_append->Đ,type_list_append->Ē,plain_min_loop->ţ,called_set->ś,plain_max_loop->Ŀ,plainAttrs_dict->η,excBase_ValueError->wc3,slot_dict_values->wcd,type_dict_values->wcN,slot_list_index->wcU,slot_dict_itemiterator_iter->wdL,entry_min_loop->wdV,entry_max_loop->we5,slot_dict_get->we8,slot_list_pop->weA,called_enumerate->weP,excAttr_ValueError->weZ,args_list_index_2->wfh,entry_list_index->wft,args_tuple_add_2->wfv,args_dict_get_3->wfz,slot_dict_items->wfB,type_list_index->wfD,entry_tuple_add->wfE,entry_dict_get->wg0,slot_tuple_add->wg6,plainAttrs_str->wg7,entry_bexc_ga->wgg,type_list_pop->wgi,slot_str_join->wgj,type_str_join->wgk,entry_type_call->wgp,args_bexc_ga->wgu
open False renaming elim->ç
open PySem.W.OpenRow renaming toRowW->Ĳ
open Ne renaming symm->è
open PySem.W.RowW renaming records->İ
open PySem.W.OpenLaw renaming row->ĭ
open PySem.Around renaming under_plainId->Ņ,under->wgP,under_plain->wgW
open True renaming intro->ÿ
open PySem.Builtin.Str renaming strSliceIndices->Ÿ,occurrences->wfy,subAt->wha
open PySem.Txt renaming slice->ą,join->Ĵ,startswith->Μ,slice_le->Ω
open PyProof.Rows renaming callWith_type1->Ξ,envOfC->Α,kws_cons->wed,callWith_builtin1->wek,sortedS->weq,kws_nil->weu,int_text_len_1921->wew,callWith_kw->wfs,subscriptTail_builtinR->wfV,subscriptTail->wgx,kmk_tree->whK
open Sum.inr renaming inj->Ģ
open PySem.PassesOwn renaming never->Ō,leaving->whf
open PySem.Str renaming ofString->į,length->Œ
open Array renaming length_toList->χ,getElem?_toList->wcv,getD_eq_getD_getElem?->wde,toArray_toList->wdm,getElem?_eq_some_iff->weV,toList_inj->wfp,getElem?_eq_none->wg1,toList_extract->wgs
open PyProof.Rows.F renaming plain_set_update_loop->wcs,entry_set_update_loop->wdF
open PySem.Builtin.Builtins renaming bindParams->wcu
open PySem.NameKind renaming free->Ŕ,cell->weU
open PySem.Obj renaming mapSeq->Ĺ,mapFields->ū,data_mapFields->Ε,isFreed_of_fields->we7
open PySem.Builtin.Range renaming rangeSize->wcS,small->wgJ
open ForInStep renaming yield->ž
open PySem.Calls renaming callWith_builtin->wd5,call_len_list->wey,spliced_cons->weM,Name_function_global->weW,evalArgs_plain->wgo,Constant_str->wgT,spliced_nil->wh5
open Eq renaming trans->ĳ
open Prod.mk renaming inj->Ű
open PySem.Builtin.List renaming listTooLong->wdA
open PySem.Code renaming quiet_builtin->wdG,isFrame->wgQ
open Or renaming inl->ĥ
open Option renaming bind_some->we4,isSome_map->wf2,map_eq_some_iff->wfR,getD_some->whq
open PySem.Heap.SameBut renaming update->weC
open Prod renaming ext->ť
open PySem.Data renaming fields->weJ,cell->wfM
open PySem.W.Looks renaming here->weN
open List.Sublist renaming refl->wf5
open PySem.Walks renaming list->Δ
open Classical renaming byContradiction->wfe,choose->whw
open PySem.SeqAt renaming list_indexAt->wfu
open PySem.Within renaming cons->wfN
open PyProof renaming noPylong_small->wfZ
open PySem.StrLaws renaming sliceText_from->wg3,sliceText_to->wgr
open PySem.SeqAt.EqAt renaming int_int->wg9,str_str->wga,int_str->wgN,str_int->wgO
open PySem.Paired renaming length->wgw
open List.cons renaming inj->wgy
open PySem.EntryCells renaming newEntry->wgC
open PySem.Flt renaming mathRow->wh3
open PySem.Heap.Ns1 renaming of_empty->wh6
open PySem.P renaming add_list->whp
open PySem.Builtin.Frozenset renaming updateFrom->whL
open PySem.Shared renaming TypeIs->whN
open PySem.IsRange renaming new->whO
set_option Elab.async false
set_option linter.all false
set_option maxRecDepth 100000
set_option maxHeartbeats 4000000
namespace Tt
open PySem PySem.W PySem.Calls PyProof.Rows
noncomputable def DJ(tb:String->Option Ĩ)(p:É)(w:World)(n₀:Nat)(ann:Option Value):Nat->ω->Thread->Option ω
 |0,_,_=>none
 |n+1,s,t=>match through t with
  |true=>some s
  |false=>match stepOk n₀ ann t with
   |false=>none
   |true=>match stepT (denote tb) p w s t with
    |some (s',t')=>DJ tb p w n₀ ann n s' t'
    |none=>none
theorem DK{tb:String->Option Ĩ}{p:É}{w:World}{n₀:Nat}{ann:Option Value}:∀{n:Nat} {s s':ω} {t:Thread},DJ tb p w n₀ ann n s t=some s'->topRun tb p w n₀ ann n s.abs t=some s'.abs
 |0,_,_,_,h=>by cases h
 |n+1,s,s',t,h=>by
  unfold DJ at h;unfold topRun
  cases ht:through t with
  |true=>rw[ht]at h;cases h;rfl
  |false=>
   rw[ht]at h
   cases hk:stepOk n₀ ann t with
   |false=>rw[hk]at h;cases h
   |true=>
    rw[hk]at h
    cases hs:stepT (denote tb) p w s t with
    |none=>rw[hs]at h;cases h
    |some r=>obtain⟨s₂,t₂⟩:=r;rw[hs]at h;rw[stepT_spec hs];exact DK h
noncomputable def sound(p:É)(h₀:Heap)(s:ω):Bool:=staticsOk (ě p.main.body) h₀ s.abs.heap&&namesBound p s.abs.heap&&gensDone s.abs&&laidKept h₀ s.abs.heap
theorem GY{p q:É}{loose:List Str}{Xt:Shared->Bool}{α:Type}{Yf:Shared->α}{Ya:World->α}{N n m₀:Nat}{life:Params->Life}{g0:Bool}{H₀:Params->Heap}{T₀:Params->BT}{OU:Array ł}{d₀:Drawn}{k₀:Nat}{ann:Option Value}
 (Ml:∀w:World,(fencedOpening wfF p w N).map (λs=>(s.heap,s.gens,s.drawn,s.toks))=some (H₀ w.params,OU,d₀,k₀))
 (size:∀P:Params,((H₀ P).isNs í&&OU.size==0,(H₀ P).objs.size,(H₀ P).nsMap í "__annotations__")=(true,m₀,ann))
 (tree:∀P:Params,absHeap (T₀ P) n (life P)=H₀ P)
 (run:∀(w:World) (os:ô),∃s,DJ wfF p w m₀ ann N ⟨T₀ w.params,n,life w.params,OU,d₀,k₀,os⟩ (topStub p)=some s/\sound p (H₀ w.params) s=true/\openSeen q loose (ě p.main.body) Xt g0 s.abs=openGood q loose/\Yf s.abs=Ya w):LeftO p q loose Xt Yf Ya N g0:=λw=>by
 obtain⟨⟨h,gs,d,k,os⟩,e,e'⟩:=wfR.mp (Ml w);obtain⟨rfl,rfl,rfl,rfl⟩:h=H₀ w.params/\gs=OU/\d=d₀/\k=k₀:=by simpa using e'
 obtain⟨z1,z2,z3⟩:_/\_/\_:=by simpa only[Prod.mk.injEq] using size w.params
 obtain⟨s,r,l1,l2,l3⟩:=run w os;have r:=DK r
 have ea:(SharedT.mk (T₀ w.params) n (life w.params) gs d k os).abs=⟨H₀ w.params,gs,d,k,os⟩:=by
  unfold SharedT.abs;rw[tree]
 rw[ea]at r
 have t:topFrom wfF p w N ⟨H₀ w.params,gs,d,k,os⟩=some s.abs:=by
  unfold topFrom;dsimp only;rw[z1,z2,z3,r];show (match sound p (H₀ w.params) s with |true=>_ |false=>_)=_;rw[l1]
 unfold openEnds;rw[e];show (topFrom wfF p w N _).map _=_;rw[t];exact congrArg some (ť l2 l3)
theorem K0{S A B C:Type}{o:Option S}{f:S->A}{g:S->B}{h:S->C}{a:A}{b:B}{c:C}(x:o.map f=some a)(y:o.map g=some b)(z:o.map h=some c):∃s,o=some s/\f s=a/\g s=b/\h s=c:=by
 cases o with
 |none=>cases x
 |some s=>exact⟨s,rfl,Î x,Î y,Î z⟩
theorem four{S A B C D E F G:Type}{o:Option S}{f:S->A×B×C×D×E×F×G}{a:A×B×C×D×E×F×G}(h1:o.map (λs=>(f s).1)=some a.1)(h2:o.map (λs=>((f s).2.1,(f s).2.2.1))=some (a.2.1,a.2.2.1))(h3:o.map (λs=>((f s).2.2.2.1,(f s).2.2.2.2.1))=some (a.2.2.2.1,a.2.2.2.2.1))(h5:o.map (λs=>(f s).2.2.2.2.2.1)=some a.2.2.2.2.2.1)(h4:o.map (λs=>(f s).2.2.2.2.2.2)=some a.2.2.2.2.2.2):o.map f=some a:=by
 cases o with
 |none=>cases h1
 |some s=>
  have e1:(f s).1=a.1:=Î h1;have e2:((f s).2.1,(f s).2.2.1)=(a.2.1,a.2.2.1):=Î h2;have e3:((f s).2.2.2.1,(f s).2.2.2.2.1)=(a.2.2.2.1,a.2.2.2.2.1):=Î h3;have e5:(f s).2.2.2.2.2.1=a.2.2.2.2.2.1:=Î h5;have e4:(f s).2.2.2.2.2.2=a.2.2.2.2.2.2:=Î h4;exact congrArg some (ť e1 (ť (Ű e2).1 (ť (Ű e2).2 (ť (Ű e3).1 (ť (Ű e3).2 (ť e5 e4))))))
theorem cut(n:Nat){o:Option ω}{as:List Addr}{v:List (Option Obj)}(h:o.map (λs=>(as.take n).map s.abs.heap.get?)=some (v.take n))(h':o.map (λs=>(as.drop n).map s.abs.heap.get?)=some (v.drop n)):o.map (λs=>as.map s.abs.heap.get?)=some v:=by
 cases o with
 |none=>cases h
 |some s=>
  have h1:(as.take n).map s.abs.heap.get?=v.take n:=Î h;have h2:(as.drop n).map s.abs.heap.get?=v.drop n:=Î h';show some (as.map s.abs.heap.get?)=some v;rw[<-we6 n as,Ò,h1,h2,we6]
end Tt
namespace K70
open PySem PySem.W
noncomputable def tp(i:Nat):Stmt:=ñ.main.body.getD i (.Pass ⟨0,0,0,0⟩)
noncomputable def view:É:={ñ with main:={ñ.main with body:=[tp 0,tp 2,tp 3,tp 4,tp 5,tp 6,tp 7,tp 8,tp 9,tp 10,tp 11,tp 12,tp 13,tp 14,tp 16,tp 18,tp 19,tp 20,tp 21,tp 22,tp 24,tp 25,tp 26,tp 27,tp 28,tp 30,tp 31,tp 32,tp 33,tp 34,tp 36,tp 37,tp 38,tp 39,tp 40,tp 41,tp 42,tp 44,tp 45,tp 46,tp 47,tp 48,tp 49,tp 50,tp 51,tp 52,tp 53,tp 54,tp 55,tp 56,tp 57,tp 58,tp 60,tp 61,tp 62,tp 63,tp 64,tp 65,tp 66,tp 67,tp 68,tp 69,tp 70,tp 71,tp 73,tp 74,tp 75,tp 76,tp 77,tp 79,tp 80,tp 81,tp 82,tp 83,tp 84,tp 85,tp 86,tp 87,tp 88,tp 89,tp 90,tp 91,tp 92]}}
noncomputable def tree0(P:Params):BT:=(.node (boot_o_0 P) (.node (boot_o_1 P) (.node (boot_o_3 P) (.node (boot_o_7 P) .nil .nil) .nil) (.node (boot_o_5 P) (.node (boot_o_9 P) .nil .nil) .nil)) (.node (boot_o_2 P) (.node (boot_o_4 P) (.node (boot_o_8 P) .nil .nil) .nil) (.node (boot_o_6 P) (.node (boot_o_10 P) .nil .nil) .nil)))
noncomputable def run(w:World)(os:ô):Option ω:=(Tt.DJ wfF ñ w 11 (some (Æ 6)) 8100 ⟨tree0 w.params,11,(ķ w.params).life,Array.mk [],boot_drawn,boot_toks,os⟩ (topStub ñ))
noncomputable def lhsS(w:World)(os:ô):=(run w os).map (λs=>Tt.sound ñ (ķ w.params) s)
noncomputable def lhsA1(w:World)(os:ô):=(run w os).map (λs=>(openSeen view [] (ě ñ.main.body) (λs=>Ļ view [] s&&ĺ (İ (Ĳ (ĭ Ę))) s) true s.abs).1)
noncomputable def lhsA2(w:World)(os:ô):=(run w os).map (λs=>((openSeen view [] (ě ñ.main.body) (λs=>Ļ view [] s&&ĺ (İ (Ĳ (ĭ Ę))) s) true s.abs).2.1,(openSeen view [] (ě ñ.main.body) (λs=>Ļ view [] s&&ĺ (İ (Ĳ (ĭ Ę))) s) true s.abs).2.2.1))
noncomputable def lhsA3(w:World)(os:ô):=(run w os).map (λs=>((openSeen view [] (ě ñ.main.body) (λs=>Ļ view [] s&&ĺ (İ (Ĳ (ĭ Ę))) s) true s.abs).2.2.2.1,(openSeen view [] (ě ñ.main.body) (λs=>Ļ view [] s&&ĺ (İ (Ĳ (ĭ Ę))) s) true s.abs).2.2.2.2.1))
noncomputable def lhsA5(w:World)(os:ô):=(run w os).map (λs=>(openSeen view [] (ě ñ.main.body) (λs=>Ļ view [] s&&ĺ (İ (Ĳ (ĭ Ę))) s) true s.abs).2.2.2.2.2.1)
noncomputable def lhsA4(w:World)(os:ô):=(run w os).map (λs=>(openSeen view [] (ě ñ.main.body) (λs=>Ļ view [] s&&ĺ (İ (Ĳ (ĭ Ę))) s) true s.abs).2.2.2.2.2.2)
noncomputable def lhsB(as:List Addr)(w:World)(os:ô):=(run w os).map (λs=>as.map s.abs.heap.get?)
end K70
noncomputable def PySem.W.Fast.tw14598715356260435866:=whm
theorem PySem.W.Fast.te14598715356260435866:whm=PySem.W.Fast.tw14598715356260435866:=rfl
noncomputable def PySem.W.Fast.tw18307534943844304584:=ñ
theorem PySem.W.Fast.te18307534943844304584:ñ=PySem.W.Fast.tw18307534943844304584:=rfl
noncomputable def PySem.W.Fast.tw13899100880601395773:=wh3
theorem PySem.W.Fast.te13899100880601395773:wh3=PySem.W.Fast.tw13899100880601395773:=rfl
lay_quick K70.lhsS K70.lhsA1 K70.lhsA2 K70.lhsA3 K70.lhsA4 K70.lhsA5 K70.lhsB
section
open PySem PySem.W PyProof.Rows
local macro_rules |`(tactic|o_head $H)=>`(tactic|(refine PySem.W.holds_open (q:=K70.view) (loose:=[]) (Xt:=λs=>PySem.W.xlAt K70.view [] s&&PySem.W.recOk (PySem.W.RowW.records (PySem.W.OpenRow.toRowW (PySem.W.OpenLaw.row PySem.Challenge.rw_bandscribe_k70_whole_one_of_three))) s) (XP:=PySem.W.XL K70.view []) (Yf:=PySem.W.Hook.obs $H) (Ya:=PySem.W.Hook.val $H) (YP:=PySem.W.Hook.says $H) (N:=8100) ?hl (PySem.W.Hook.of $H) (PySem.W.Hook.keeps $H) (λs e=>PySem.W.xl_of s (Bool.and_eq_true_iff.mp e).1) PySem.W.XL.keeps (by rfl) (by rfl) (by rfl) (λs e=>PySem.W.recFacts_of (Bool.and_eq_true_iff.mp e).2) (by rfl) (by first |assumption |decide+kernel) (by decide+kernel) ⟨rfl,rfl,rfl,rfl,rfl,by decide+kernel⟩ ?hw ?hc;(case hl=>(intro w;contradiction))))
theorem K70.pre(h:False):(Ę).Holds:=by
 w_on;o_law;k_head
 all_goals contradiction
end
namespace K70
open PySem PySem.W
noncomputable def addrs:List Addr:=[2,3,15,17,18,20,21,22,29,30,31,32,35,42,43,44,47,54,56,57,59,60,61,62,63,66,73,75,76,78,79,80,81,82,85,92,94,95,97,98,99,100,101,104,111,113,114,116,117,118,119,120,123,130,132,133,135,136,137,138,139,142,149,150,151,154,161,162,163,166,173,175,176,178,179,180,181,182,185,192,194,195,197,198,199,200,201,204,211,212,213,216,223,225,226,228,229,230,231,232,235,237,238,240,241,242,244,245,247,248,249,251,252,254,255,256,258,259,261,262,263,265,266,268,269,270,273,274,275,278,279,280,282,283,285,286,287,290,291,292,294,295,297,298,299,301,302,304,305,306,309,310,311,314,315,316,318,319,321,322,323,325,326,328,329,330,332,333,335,336,337,340,341,349,352,353,354,355,356,357,358,361,364,365,366,368,369,371,372,373,376,377,378,380,381,383,384,385,388,389,390,392,393,395,396,404,407,408,409,411,412,414,415,416,417,418,419,420,423,425,426,428,429,430,432,433,435,436,437,439,440,442,443,444,447,448,449,452,453,454,457,458,459,461,462,464,465,466,468,469,471,472,473,476,477,478,480,481,483,484,485,488,489,490,492,493,495,496,497,499,500,502,503,504,506,507,509,510,511,514,515,516,518,519,521,522,523,525,526,528,529,530,532,533,535,536,537,540,541,542,545,546,554,556,557,559,560,561,563,564,566,567,568,570,571,573,574,575,577,578,580,581,582,584,585,587,588,589,591,592,594,595,596,598,599,601,602,603,605,606,608,609,610,612,613,615,616,617,620,621,622,623,624,625,626,629,631,632,634,635,636,639,640,641,643,644,646,647,648,650,651,653,654,662,665,666,667,669,670,672,673,674,676,677,679,680,681,683,684,686,687,688,690,691,693,694,695,697,698,700,701,702,704,705,707,708,709,712,713,714,716,717,719,720,721,723,724,726,727,728,729,730,731,732,735,737,738,740,741,742,744,745,747,748,749,752,753,754,756,757,759,760,761,764,765,766,769,770,771,773,774,776,777,778,780,781,783,784,785,787,788,790,791,792,794,795,797,798,799,802,803,804,806,807,809,810,811,813,814,816,817,818,820,821,823,824]
open PyProof.Rows in
theorem pS(w:World)(os:ô):lhsS w os=some true:=ĳ (congrFun (congrFun PySem.W.Fast.te612315398068628793 w) os) (by kernel_rfl)
open PyProof.Rows in
theorem Vp(w:World)(os:ô):lhsA5 w os=some (plainGoodE view (looseW view [])):=ĳ (congrFun (congrFun PySem.W.Fast.te8269331305594658988 w) os) (by kernel_rfl)
open PyProof.Rows in
theorem Vq(w:World)(os:ô):lhsA3 w os=some (true,pinGoodD (drecsOf view)):=ĳ (congrFun (congrFun PySem.W.Fast.te10705357124383825822 w) os) (by kernel_rfl)
open PyProof.Rows in
theorem Vr(w:World)(os:ô):lhsA4 w os=some (plainGoodD view [],wideGood view,clsGoodW view []):=ĳ (congrFun (congrFun PySem.W.Fast.te16224278013269697611 w) os) (by kernel_rfl)
open PyProof.Rows in
theorem Vs(w:World)(os:ô):lhsA1 w os=some (expectedOf view):=ĳ (congrFun (congrFun PySem.W.Fast.te15741850574763823536 w) os) (by kernel_rfl)
open PyProof.Rows in
theorem Vt(w:World)(os:ô):lhsA2 w os=some (bltViewBooted,true):=ĳ (congrFun (congrFun PySem.W.Fast.te2119846690755900236 w) os) (by kernel_rfl)
theorem Vu(w:World)(os:ô):lhsB (K70.addrs.take 160) w os=some (((K70.pre.heap_39 w.params).map λp=>some p.2).take 160):=ĳ (congrFun (congrFun (congrFun PySem.W.Fast.te3004887137264728858 _) w) os) (by kernel_rfl)
theorem Vv(w:World)(os:ô):lhsB (K70.addrs.drop 160) w os=some (((K70.pre.heap_39 w.params).map λp=>some p.2).drop 160):=ĳ (congrFun (congrFun (congrFun PySem.W.Fast.te3004887137264728858 _) w) os) (by kernel_rfl)
theorem op:opening ñ=plainProg ñ.main.scope.names:=by kernel_rfl
theorem fe(s:Shared):fenceModules? ñ s=some s:=by kernel_rfl
theorem tr(P:Params):absHeap (tree0 P) 11 (ķ P).life=ķ P:=by kernel_rfl
theorem sz(P:Params):((ķ P).isNs í&&(Array.mk []:Array ł).size==0,(ķ P).objs.size,(ķ P).nsMap í "__annotations__")=(true,11,(some (Æ 6))):=by kernel_rfl
theorem whole:LeftO ñ view [] (λs=>Ļ view [] s&&ĺ (İ (Ĳ (ĭ Ę))) s) (λs=>K70.addrs.map s.heap.get?) (λw=>((K70.pre.heap_39 w.params).map λp=>some p.2)) 8100:=Tt.GY (H₀:=ķ) (T₀:=tree0) (life:=λP=>(ķ P).life) (boot_open op (by decide+kernel) fe) sz tr λw os=>Tt.K0 (o:=run w os) (f:=λs=>Tt.sound ñ (ķ w.params) s) (g:=λs=>openSeen view [] (ě ñ.main.body) (λs=>Ļ view [] s&&ĺ (İ (Ĳ (ĭ Ę))) s) true s.abs) (h:=λs=>K70.addrs.map s.abs.heap.get?) (pS w os) (Tt.four (o:=run w os) (f:=λs=>openSeen view [] (ě ñ.main.body) (λs=>Ļ view [] s&&ĺ (İ (Ĳ (ĭ Ę))) s) true s.abs) (a:=openGood view []) (Vs w os) (Vt w os) (Vq w os) (Vp w os) (Vr w os)) (Tt.cut (o:=run w os) 160 (Vu w os) (Vv w os))
end K70
open PySem
open AutoSeq1 (wpAny_loadPart')
open PySem.W (Looks looks_findIn looks_typeIn InitBack bind_fn findIn clsIn specialIn readsIn findCls keepIn isFn typeIn InstAt looks_find looks_hook looks_mroIn takesIn mroIn subIn KitX kitOne kitCls kia_one findObj findObj_data class_get handed_on handedOut_of)
open _root_.Option renaming some->ρ,none->τ
section
def fqq(x:Array Lean.Syntax)(a b:Lean.MacroM Lean.Syntax)(f:Lean.Syntax->Lean.MacroM Lean.Syntax):Lean.MacroM (Array Lean.Syntax):=do
 let mut y:=#[]
 for e in x do
  match e.isNatLit? with
  |some n=>for _ in [0:n] do y:=(y.push (←a)).push (←b)
  |none=>y:=y.push (←f e)
 return y
local macro_rules|`(tactic|lia)=>`(tactic|lia-abstractProof)
local macro_rules(kind:=«term{_}»)|`({$x,*})=>do
 let y:=(←fqq x.getElems (`(_)) (`(rfl)) pure).map λe=>(⟨e⟩:Lean.Term)
 `(⟨$y,*⟩)
def fpp:Nat->Lean.Syntax->Lean.MacroM Lean.Syntax
 |0,_=>Lean.Macro.throwUnsupported
 |k+1,s=>do
  let s:=if s.getKind==Lean.choiceKind then (s.getArgs.find? (·.getKind==`«term{_}»)).getD s else s
  if s.isIdent then `(rcasesPat|$(⟨s⟩):ident)
  else if s.getKind==`«term{_}» then
   let y:=(←fqq s[1].getSepArgs (`(rcasesPat|_)) (`(rcasesPat|$(Lean.mkIdent `rfl):ident)) (fpp k)).map λe=>(⟨e⟩:Lean.TSyntax `rcasesPat)
   `(rcasesPat|⟨$[$y:rcasesPat],*⟩)
  else if s.isOfKind `Lean.Parser.Term.hole then `(rcasesPat|_) else Lean.Macro.throwUnsupported
local macro_rules|`(tactic|let $p:term:=$e)=>do
 let q:Lean.TSyntax `rcasesPat:=⟨←fpp 9 p⟩
 `(tactic|obtain $q:rcasesPat:=$e)
local macro_rules|`(($n:num))=>`($(Lean.mkIdent `L2.pv) $n)
local macro_rules|`($x.$i:fieldIdx)=>match i.raw.isFieldIdx? with
 |some 8=>`($(x).heap.objs.size)
 |some 7=>`($(x).objs.size)
 |some 9=>`($(x).length)
 |some 6=>`($(x).toArray)
 |some 5=>`($(x).env)
 |_=>Lean.Macro.throwUnsupported
local macro_rules|`(())=>`(by lia)
local macro_rules|`($x:scientific)=>`(by omega)
local macro_rules|`(∅)=>`(by decide+kernel)
local macro_rules|`(⋯)=>`(by decide)
namespace L2
open PySem.Spec PyProof.Rows
noncomputable abbrev Key:=Sum Int Str
noncomputable def uN:Key->Value->Bool
 |.inl k,v=>Value.isInt k v
 |.inr x,v=>wgv x v
noncomputable def Q1(w:World):Key->Int
 |.inl k=>hashInt k
 |.inr x=>hashStr w x
theorem bD:∀{k:Key} {v:Value},uN k v=true->(∃i t,k=å i/\v=Ψ i t)\/(∃x t,k=Ã x/\v=Κ x t)
 |.inl i,v,h=>by
  let{t,e}:=Value.isInt_shape (k:=i) (v:=v) h
  exact .inl ⟨i,t,rfl,e⟩
 |.inr x,v,h=>by
  let{t,e}:=wgB (x:=x) (v:=v) h
  exact .inr ⟨x,t,rfl,e⟩
theorem BR(i:Int)(t:Tok):uN (.inl i) (.int i t)=true:=by simp[uN,Value.isInt]
theorem BU(x:Str)(t:Tok):uN (.inr x) (.str x t)=true:=by simp[uN,wgv]
theorem K3(a b:Int):decide ((å a:Key)=å b)=(a==b):=by
 grind
theorem K4(a b:Str):decide ((Ã a:Key)=Ã b)=decide (a=b):=by simp_all [Key,Ģ,decide_eq_false]
theorem K5(a:Int)(b:Str):decide ((å a:Key)=Ã b)=false:=decide_eq_false (λq=>nomatch q)
theorem K6(a:Str)(b:Int):decide ((Ã a:Key)=å b)=false:=decide_eq_false (λq=>nomatch q)
noncomputable def b8(prog:É)(w:World):PySem.KeyKind prog w Key where
 is:=uN
 hash:=Q1 w
 inj:=λv a b ha hb=>by
  rcases bD ha with⟨i,t,rfl,rfl⟩ |⟨x,t,rfl,rfl⟩
  .rcases bD hb with⟨j,u,rfl,e⟩ |⟨y,u,rfl,e⟩
   .injection e with e1 _;rw[e1]
   .exact nomatch e
  .rcases bD hb with⟨j,u,rfl,e⟩ |⟨y,u,rfl,e⟩
   .exact nomatch e
   .injection e with e1 _;rw[e1]
 byValue:=λk v h=>by
   rcases bD h with⟨i,t,rfl,rfl⟩ |⟨x,t,rfl,rfl⟩<;>rfl
 pyHash:=λhv h=>by
  rcases bD hv with⟨i,t,rfl,rfl⟩ |⟨x,t,rfl,rfl⟩
  .exact wpAny_pyHash_int h
  .exact wpAny_pyHash_str h
 eqBool:=λhu hv h=>by
  rcases bD hu with⟨i,t,rfl,rfl⟩ |⟨x,t,rfl,rfl⟩
  .rcases bD hv with⟨j,u,rfl,rfl⟩ |⟨y,u,rfl,rfl⟩
   .rw[K3]at h;exact wpAny_eqBool_int h
   .rw[K5]at h;exact wgN i t y u _ _ _ _ h
  .rcases bD hv with⟨j,u,rfl,rfl⟩ |⟨y,u,rfl,rfl⟩
   .rw[K6]at h;exact wgO x t j u _ _ _ _ h
   .rw[K4]at h;exact wpAny_eqBool_str h
 «strs»:=λk x t v h=>by
  rcases bD h with⟨i,u,rfl,e⟩ |⟨y,u,rfl,e⟩
  .exact nomatch e
  .injection e with e1 _
   subst e1;cases v<;>rfl
theorem xG(prog:É)(w:World)(i:Int)(t:Tok):(b8 prog w).is (.inl i) (.int i t)=true:=BR i t
theorem xH(prog:É)(w:World)(x:Str)(t:Tok):(b8 prog w).is (.inr x) (.str x t)=true:=BU x t
set_option genInjectivity true in
inductive V where
 |non |bl (b:Bool) |int (i:Int) |str (x:Str) |byt (b:Array UInt8) |flt (b:UInt64) |ref (a:Addr) |ty (n:String)
 deriving DecidableEq
def RelV:V->Value->Prop
 |.non,u=>u=ā
 |.bl b,u=>u=wgl b
 |.int i,u=>∃t,u=Ψ i t
 |.str x,u=>∃t,u=Κ x t
 |.byt b,u=>∃t,u=Value.bytes b t
 |.flt b,u=>∃t,u=whg b t
 |.ref a,u=>u=Æ a
 |.ty n,u=>u=ŵ n
abbrev Vals:List V->List Value->Prop:=Paired RelV
theorem Vals.length{xs:List V}{us:List Value}(r:Vals xs us):xs.9=us.9:=wgw r
theorem Vals.get:∀{xs:List V} {us:List Value} {i:Nat} {x:V},Vals xs us->xs[i]?=ρ x->∃u,us[i]?=ρ u/\RelV x u
 |_,_,_,_,.nil,e=>by simp at e
 |_,_,0,_,.cons r _,e=>by simp at e;subst e;exact{_,rfl,r}
 |_,_,i+1,x,.cons _ t,e=>by
  let{u,a,b}:=Vals.get (i:=i) (x:=x) t (by simpa using e)
  exact{u,by simpa using a,b}
theorem Vals.set(r:RelV x u):∀{xs:List V} {us:List Value} (i:Nat),Vals xs us->Vals (xs.set i x) (us.set i u)
 |_,_,_,.nil=>.nil
 |_,_,0,.cons _ t=>.cons r t
 |_,_,i+1,.cons q t=>.cons q (Vals.set r i t)
theorem Vals.append:∀{xs ys:List V} {us ws:List Value},Vals xs us->Vals ys ws->Vals (xs++ys) (us++ws)
 |_,_,_,_,.nil,s=>s
 |_,_,_,_,.cons r t,s=>.cons r (Vals.append t s)
theorem Vals.take:∀{xs:List V} {us:List Value} (n:Nat),Vals xs us->Vals (xs.take n) (us.take n)
 |_,_,0,_=>.nil
 |_,_,_+1,.nil=>.nil
 |_,_,n+1,.cons r t=>.cons r (Vals.take n t)
theorem Vals.drop:∀{xs:List V} {us:List Value} (n:Nat),Vals xs us->Vals (xs.drop n) (us.drop n)
 |_,_,0,r=>r
 |_,_,_+1,.nil=>.nil
 |_,_,n+1,.cons _ t=>Vals.drop n t
def gV:Option V->Option Value->Prop
 |some v,ρ u=>RelV v u
 |none,τ=>True
 |_,_=>False
def KV{κ:Type}:List (κ×V)->List (κ×Value)->Prop:=Paired λ(p:κ×V) (q:κ×Value)=>p.1=q.1/\RelV p.2 q.2
noncomputable def kV:Key->V
 |.inl i=>.int i
 |.inr x=>.str x
set_option genInjectivity true in
inductive HO where
 |lst (xs:List V)
 |tup (xs:List V)
 |dK (kvs:List (Key×V)) |dT (kvs:List (List Key×V))
 |set (S:Int->Bool) (n:Nat)
 |ins (C dx:Addr) (fs:List (Str×V))
 |own (x:Addr)
 |xd (fs:List (Str×V))
 |met (f x:Addr)
 |rng (lo hi:Int)
 |frz (o:Obj) (u:HO)
 |tbl (ps:Array Value)
 |ext (φ:Heap->Prop)
noncomputable abbrev Hp:=Addr->Option HO
noncomputable def upd(H:Hp)(a:Addr)(o:HO):Hp:=λb=>if b=a then ρ o else H b
theorem a5:upd H a o a=ρ o:=by unfold upd;rw[if_pos rfl]
theorem aa(h:b≠a):upd H a o b=H b:=by unfold upd;rw[if_neg h]
theorem qJ:upd (upd H a o) a u=upd H a u:=by
 funext b;unfold upd;split<;>rfl
theorem Mm{H:Hp}{a b:Addr}{o u:HO}(h:H a=ρ o)(h':H b=ρ u)(d:o≠u):a≠b:=by grind [Î]
theorem a9{H:Hp}{a b:Addr}{o:HO}(h:H a=ρ o)(h':H b=τ):a≠b:=by
 grind
def Rd(H:Hp)(a:Addr)(u:HO):Prop:=H a=ρ u\/∃o,H a=ρ (.frz o u)
def Mo:Option HO->Prop
 |some (.lst _)=>True
 |some (.dK _)=>True
 |some (.dT _)=>True
 |some (.set _ _)=>True
 |some (.ins _ _ _)=>True
 |some (.ext _)=>True
 |_=>False
structure Un(fs ex:List Addr)(H H':Hp)(h h':Heap):Prop where
 keep:∀b o,h.get? b=ρ o->H b=τ->b∉fs->b∉ex->h'.get? b=ρ o
 slot:∀b o,h.get? b=ρ o->H b=τ->b∈fs->b∉ex->∃sl,h'.get? b=ρ {o with slots:=sl}
 free:∀b o,h.get? b=ρ o->H b=τ->b∉ex->H' b=τ
 there:∀b o,h.get? b=ρ o->b∉ex->∃o',h'.get? b=ρ o'
 oA:∀b xs,H b=ρ (.tup xs)->H' b=ρ (.tup xs)
 mM:∀b o u,H b=ρ (.frz o u)->H' b=ρ (.frz o u)
 oB:∀b ps,H b=ρ (.tbl ps)->∃more,H' b=ρ (.tbl (ps++more))
noncomputable def Q2(h:Heap)(H:Hp):List Addr:=(Ü h.7).filter λa=>(H a).isSome
noncomputable def wm(h:Heap)(H:Hp):Heap:=PySem.W.hideAll h (Q2 h H)
theorem BV(h:Heap)(H:Hp):(wm h H).objs.size=h.7:=PySem.W.hideAll_size _ _
theorem DL(e:h.get? b=ρ o)(n:H b=τ):(wm h H).get? b=ρ o:=
 PySem.W.hideAll_get _ e λa=>by
  have q:(H b).isSome=true:=(Ý.mp a).2;rw[n]at q;simp at q
theorem GZ(e:(wm h H).get? b=ρ o):h.get? b=ρ o/\H b=τ:=by
 have a:h.get? b=ρ o:=PySem.W.of_hideAll (Q2 h H) e;refine{a,?_}
 cases q:H b with
 |none=>rfl
 |some x=>
  grind [Q2,Ë,wm,PySem.W.hideAll_none]
noncomputable def Hc(g h:Heap)(L:Addr):List (Addr×Obj):=(Ü h.7).filterMap λa=>if a=L\/(g.get? a).isSome=true then τ else(h.get? a).map λo=>(a,o)
noncomputable def rest(g h:Heap)(L d:Addr):List (Addr×Obj):=(Hc g h L).filter λp=>decide (p.1≠d)
structure Mod(K:Á)(mg:Str->Option Value)(base:Heap):Prop where
 Hd:K.In base
 glob:base.Ns í mg
 blt:∃mb,base.Ns builtinsNs mb/\∀x:Str,x≠"__name__"->mb x=é x
 nolimit:base.NoLimit
structure Cx where
 prog:É
 w:World
 K:Á
 mg:Str->Option Value
 base:Heap
 A:Around
 N:List Str
 s₀:Shared
 H₀:Hp
 env:Env
 outer:List Env
 stack:List Env
 ex:List Addr
 fn:Str->Bool
 calm:Bool
 pn:List (Addr×Obj)
 xe:Value->Shared->Prop
noncomputable def qu(l:List Env):List Addr:=l.filterMap (·.frame)
noncomputable abbrev Cx.fs(X:Cx):List Addr:=qu X.outer
def M0(sc:ú)(x:Str):Prop:=sc.names.lookup x=ρ .local\/sc.names.lookup x=ρ .cell\/sc.names.lookup x=ρ .free
def Loc(sc:ú)(x:Str):Prop:=sc.names.lookup x=ρ .local\/sc.names.lookup x=ρ .cell
def Look(env:Env)(h:Heap)(m:Str->Option Value)(x:Str)(u:Value):Prop:=
 (env.kindOf x=ρ .local/\m x=ρ u)\/((env.kindOf x=ρ .cell\/env.kindOf x=ρ .free)/\∃c,env.cells.lookup x=ρ c/\h.IsCell c (ρ u))
structure Cx.Ok(X:Cx):Prop where
 mod:Mod X.K X.mg X.base
 kind:X.env.scope.kind=.function
 glob:X.env.globals=í
 blt:X.env.builtins=builtinsNs
 above:X.s₀.8<=X.env.locals
 inj:∀x y c,X.env.cells.lookup x=ρ c->X.env.cells.lookup y=ρ c->x=y
 has:∀x,(X.env.kindOf x=ρ .cell\/X.env.kindOf x=ρ .free)->∃c,X.env.cells.lookup x=ρ c
 K7:∀x c,X.fn x=true->X.env.cells.lookup x=ρ c->X.s₀.8<=c
 hd:X.calm=true->X.A.handled=τ
 frames:X.A.frames=ρ X.stack
 M1:X.stack=X.outer\/(X.stack=X.5::X.outer/\X.env.frame=ρ X.env.locals)
 OV:∀b∈X.ex,b≠X.env.locals/\∀x c,X.env.cells.lookup x=ρ c->c≠b
 bs:∀b o,X.base.get? b=ρ o->X.s₀.heap.get? b=ρ o/\X.H₀ b=τ
 DM:X.base.7<=X.s₀.8
 zu:∀b o,X.base.get? b=ρ o->b∉X.ex
 BW:∀b∈X.ex,b∉X.fs
 mN:X.s₀.heap.FunFrames X.base X.outer
 He:∀b∈X.fs,X.H₀ b=τ
theorem rm{N:List Str}(g:N.Nodup){i j:Nat}{x:Str}(a:N[i]?=ρ x)(b:N[j]?=ρ x):i=j:=by
 let{e,c}:=Ö.mp a
 let{f,d}:=Ö.mp b
 exact(wdg g).mp (c.trans d.symm)
noncomputable abbrev XK:=Value->Option Addr->Hp->Prop
noncomputable abbrev St:=List (Option V)
noncomputable abbrev VK:=V->Hp->Prop
noncomputable abbrev TE:=St->Hp->VK->Prop
noncomputable abbrev TT:=St->Hp->(Bool->Hp->Prop)->Prop
noncomputable abbrev TA:=St->Hp->(List V->Hp->Prop)->Prop
structure Bx(p:Prop):Prop where
 go:p
instance {p:Prop}:CoeFun (Bx p) λ_=>p:=⟨Bx.go⟩
theorem bG{α:Type}{t:Sem α}{Q g:α->Shared->Prop}{M:Model}{A:Around}{E:Value->Shared->Prop}{s:Shared}(h:wpAny M A t Q E s)(j:∀a s,Q a s->g a s):wpAny M A t g E s:=ê h j λ_ _ x=>x
inductive Hf(i:Nat)(σ:St)(H:Hp)(Q:VK):Prop
 |mk (v) (_:σ[i]?=ρ (ρ v)) (_:Q v H)
def tC(v:V):TE:=λ_ H Q=>Q v H
inductive T6(x:V)(H:Hp)(Q:Bool->Hp->Prop):Prop
 |mk (c) (_:x=.bl c) (_:Q c H)
def tB(t:TE):TT:=λσ H Q=>t σ H λx H1=>T6 x H1 Q
def Q3(t u:TT):TT:=λσ H Q=>t σ H λc H1=>if c=true then u σ H1 Q else Q false H1
def Vw(t u:TT):TT:=λσ H Q=>t σ H λc H1=>if c=true then Q true H1 else u σ H1 Q
def Q4(t:TT):TT:=λσ H Q=>t σ H λc H1=>Q (!c) H1
def aG(K:Á)(H:Hp)(a:Addr)(xs:List V):Prop:=
 Rd H a (.lst xs) \/
  ∃(o:Obj) (its:Array Value) (n:Nat),K.lookup a=ρ o/\o.cls=.type "list"/\o.dict=τ/\o.data=.seq its n/\its.size<=sizeLine/\Vals xs its.toList
def eY(K:Á)(H:Hp)(a:Addr)(xs:List V):Prop:=
 Rd H a (.tup xs) \/
  ∃(o:Obj) (its:Array Value) (n:Nat),K.lookup a=ρ o/\o.cls=.type "tuple"/\o.data=.seq its n/\its.size<=sizeLine/\Vals xs its.toList
noncomputable def Q6:Value->Option V
 |.none=>ρ .non
 |.bool b=>ρ (.bl b)
 |.int i _=>ρ (.int i)
 |.str x _=>ρ (.str x)
 |.bytes b _=>ρ (.byt b)
 |.float b _=>ρ (.flt b)
 |.ref a=>ρ (.ref a)
 |.type n=>ρ (.ty n)
 |_=>τ
theorem RelV.abs{x:V}{u:Value}(r:RelV x u):Q6 u=ρ x:=by
 cases x with
 |non=>cases r;rfl
 |bl _=>cases r;rfl
 |int _=>let{t,rfl}:=r;rfl
 |str _=>let{t,rfl}:=r;rfl
 |byt _=>let{t,rfl}:=r;rfl
 |flt _=>let{t,rfl}:=r;rfl
 |ref _=>cases r;rfl
 |ty _=>cases r;rfl
theorem RelV.inj{x y:V}{u:Value}(r:RelV x u)(q:RelV y u):x=y:=Î (r.abs.symm.trans q.abs)
theorem Vals.inj:∀{xs ys:List V} {us:List Value},Vals xs us->Vals ys us->xs=ys
 |_,_,_,.nil,.nil=>rfl
 |_,_,_,.cons r t,.cons a b=>by rw[r.inj a,Vals.inj t b]
noncomputable abbrev Cx.kZ(X:Cx)(E:Value->Shared->Prop):Cx:={X with xe:=E}
noncomputable abbrev Cx.Hg(X:Cx):Cx:=X.kZ λ_ _=>False
noncomputable abbrev TG:=V->St->Hp->(St->Hp->Prop)->Prop
noncomputable abbrev OW:=List V->St->Hp->(St->Hp->Prop)->Prop
noncomputable abbrev K8:=V->V->V->Hp->(Hp->Prop)->Prop
noncomputable abbrev Mp:=V->V->Hp->VK->Prop
def dM(i:Nat):TG:=λv σ H Q=>Q (σ.set i (ρ v)) H
inductive DN(vs:List V)(σ:St)(H:Hp)(Q:St->Hp->Prop):Prop
 |mk (_:vs=[]) (_:Q σ H)
inductive jF(t:TG)(u:OW)(vs:List V)(σ:St)(H:Hp)(Q:St->Hp->Prop):Prop
 |mk (v r) (_:vs=v::r) (_:t v σ H λσ' H'=>u r σ' H' Q)
inductive DP(K:Á)(n:Nat)(t:OW)(v:V)(σ:St)(H:Hp)(Q:St->Hp->Prop):Prop
 |mk (a xs) (_:v=.ref a) (_:eY K H a xs) (_:xs.9=n) (_:t xs σ H Q)
def Q7(to ti:TE)(t:K8):TG:=λv σ H Q=>to σ H λo H1=>ti σ H1 λi H2=>t o i v H2 λH3=>Q σ H3
noncomputable def Vx(f:Int->Int->Int):Mp:=λx y H Q=>∃i j,x=.int i/\y=.int j/\Q (.int (f i j)) H
structure It where
 go:Nat->Hp->Prop
 ug:Nat->Hp->V->Hp->Prop
 stop:Nat->Hp->Prop
def ro(X:Cx)(pins:List (Addr×Obj))(H:Hp)(b:Addr):Prop:=
 H b=τ/\b≠X.env.locals/\b∉X.fs/\(b∈X.ex\/X.s₀.8<=b)/\(∀x c,X.env.cells.lookup x=ρ c->c≠b)/\∀p∈X.pn++pins,p.1≠b
noncomputable abbrev TI:=St->Hp->(It->Hp->Prop)->Prop
theorem xI{E:Value->Shared->Prop}{Q:Unit->Shared->Prop}(j:s.heap.get? it=ρ o)(hc:o.cls=.type n)(hd:o.data=.fields vs)
 (hn:["enumerate","zip","dict_itemiterator","dict_reverseitemiterator","odict_iterator","itertools.zip_longest","itertools.pairwise"].contains n=false) (g:Q .unit s):wpAny M A (wef l (.ref it) u) Q E s:=by
 unfold wef
 cases l<;>first
  |exact Í g
  |(cases u<;>first
     |exact Í g
     |(refine Â (wpAny_load j ?_)
       rw[hc,hd];show wpAny M A (if (["enumerate","zip","dict_itemiterator","dict_reverseitemiterator","odict_iterator","itertools.zip_longest","itertools.pairwise"].contains n&&vs[0]?==ρ (rawInt _))=true then _ else _) Q E s;rw[if_neg (by grind)]
       exact Í g))
noncomputable def M3(K:Á)(a:Addr):It:=
 {λi H=>∃xs x,aG K H a xs/\xs[i]?=ρ x,λi H x H'=>H'=H/\∀xs,aG K H a xs->xs[i]?=ρ x,λi H=>∃xs,aG K H a xs/\xs.9<=i}
noncomputable def Jr(lo:Int)(n:Nat):It:={λi _=>i<n,λi H x H'=>H'=H/\x=.int (lo+i),λi _=>n<=i}
def Mq(K:Á)(tl:TE):TI:=λσ H R=>tl σ H λx H1=>∃a,x=.ref a/\(∃xs,aG K H1 a xs)/\R (M3 K a) H1
def Mr(ta:TA):TI:=λσ H R=>ta σ H λvs H1=>∃j:Int,vs=[.int j]/\-(2^62)<=j/\j<2^62/\R (Jr 0 j.toNat) H1
def Ms(ta:TA):TI:=λσ H R=>ta σ H λvs H1=>∃i j:Int,vs=[.int i,.int j]/\(-(2^62)<=i/\i<2^62/\-(2^62)<=j/\j<2^62)/\R (Jr i (j-i).toNat) H1
noncomputable def rp(fp:List Addr)(h:Heap):List (Addr×Obj):=fp.filterMap λb=>(h.get? b).map λo=>(b,o)
theorem iR(g:b∈j)(e:h.get? b=ρ o):(b,o)∈rp j h:=Ŵ.mpr {b,g,by rw[e];rfl}
theorem BX(g:p∈rp j h):p.1∈j/\h.get? p.1=ρ p.2:=by
 let{b,a,e}:=Ŵ.mp g
 cases q:h.get? b with
 |none=>grind
 |some o=>
  grind
noncomputable abbrev R2:=V->V->Hp->VK->Prop
def Mt(r:R2)(ta tb:TE):TE:=λσ H Q=>ta σ H λx H1=>tb σ H1 λy H2=>r x y H2 Q
def Vy(r:V->Hp->VK->Prop)(ta:TE):TE:=λσ H Q=>ta σ H λx H1=>r x H1 Q
inductive rI(C:Int->Int->Prop)(g:Int->Int->V)(x y:V)(H:Hp)(Q:VK):Prop
 |mk (i j) (_:x=.int i) (_:y=.int j) (_:C i j) (_:Q (g i j) H)
inductive Js(g:Int->Int->V)(x y:V)(H:Hp)(Q:VK):Prop
 |mk (i j) (_:x=.int i) (_:y=.int j) (_:Q (g i j) H)
inductive rU(g:Int->V)(x:V)(H:Hp)(Q:VK):Prop
 |mk (i) (_:x=.int i) (_:Q (g i) H)
def Q8(i j:Int):Prop:=0<j/\j<1073741824
def Hh(i j:Int):Prop:=(-(2^64)<i/\i<2^64)\/(-(2^64)<j/\j<2^64)
noncomputable def Mu:V->V->Bool
 |.non,.non=>true |.non,.int _=>true |.int _,.non=>true |.non,.bl _=>true |.bl _,.non=>true |.non,.str _=>true |.str _,.non=>true
 |.int _,.int _=>true |.bl _,.bl _=>true |.str _,.str _=>true |.byt _,.byt _=>true
 |.int _,.str _=>true |.str _,.int _=>true |.bl _,.str _=>true |.str _,.bl _=>true
 |_,_=>false
inductive Vz(x y:V)(H:Hp)(Q:VK):Prop
 |mk (_:Mu x y=true) (_:Q (.bl (decide (x=y))) H)
inductive VA(x y:V)(H:Hp)(Q:VK):Prop
 |mk (_:Mu x y=true) (_:Q (.bl (!decide (x=y))) H)
theorem B5:decide (V.int i=V.int j)=(i==j):=by
 rw[wdt];simp
theorem DQ:decide (V.bl i=V.bl j)=(i==j):=by
 rw[wdt];simp
theorem B6:decide (V.str i=V.str j)=(i==j):=by
 rw[wdt];simp
theorem B8:decide (V.byt i=V.byt j)=(i.toList==j.toList):=by
 rw[wdt];cases i;cases j;simp
def Jt(t:TE):TT:=λσ H Q=>t σ H λx H'=>T6 x H' Q
theorem m6:(sizeLine:Nat)<2^63:=by rw[Ė];decide
theorem vals1(r:Vals [x] us):∃u,us=[u]/\RelV x u:=by
 cases r with
 |cons a b=>cases b;exact{_,rfl,a}
theorem vals2(r:Vals [x,y] us):∃u g,us=[u,g]/\RelV x u/\RelV y g:=by
 cases r with
 |cons a b=>
  cases b with
  |cons c d=>cases d;exact{_,1,a,c}
structure zv(h:Heap)(x dx C:Addr)(mA:Str->Option Value):Prop where
 obj:h.get? x=ρ (ŗ C dx)
 ns:h.Ns1 dx mA
 ne:dx≠x
noncomputable def cm(f:Str)(v:V):List (Str×V)->List (Str×V)
 |[]=>[(f,v)]
 |(g,x)::r=>if g=f then(g,v)::r else(g,x)::cm f v r
theorem aD(f g:Str)(v:V):∀fs:List (Str×V),(cm f v fs).lookup g=if g=f then ρ v else fs.lookup g
 |[]=>by
  show wfS g [(f,v)]=_
  by_cases h:g=f
  .grind
  .grind
 |(k,x)::r=>by
  have a:=aD f g v r;rw[show cm f v ((k,x)::r)=(if k=f then(k,v)::r else(k,x)::cm f v r) from rfl]
  by_cases hk:k=f
  .grind
  .grind
theorem oC(f:Str)(v:V):∀fs:List (Str×V),f∈(cm f v fs).map (·.1)/\∀g,g∈fs.map (·.1)->g∈(cm f v fs).map (·.1)
 |[]=>{by simp[cm],λg h=>by simp at h}
 |(k,x)::r=>by
  let{a,b}:=oC f v r
  rw[show cm f v ((k,x)::r)=(if k=f then(k,v)::r else(k,x)::cm f v r) from rfl]
  by_cases hk:k=f
  .grind
  .grind
theorem pj(f:Str)(v:V):∀fs:List (Str×V),(cm f v fs).9<=fs.9+1
 |[]=>by simp[cm]
 |(k,x)::r=>by
  have a:=pj f v r;rw[show cm f v ((k,x)::r)=(if k=f then(k,v)::r else(k,x)::cm f v r) from rfl]
  by_cases hk:k=f
  .grind
  .grind
theorem gV.qK(r:gV (ρ v) o):∃u,o=ρ u/\RelV v u:=by
 cases o with
 |none=>exact(show False from r).elim
 |some u=>exact⟨u,rfl,r⟩
theorem gV.none_of(r:gV τ o):o=τ:=by grind [gV,cases False]
theorem uO(r:RelV v u):whn u=true:=by
 cases v with
 |non=>cases(show u=ā from r);rfl
 |bl b=>cases(show u=wgl b from r);rfl
 |int i=>let{t,e}:=(show ∃t,u=Ψ i t from r);cases e;rfl
 |str x=>let{t,e}:=(show ∃t,u=Κ x t from r);cases e;rfl
 |byt b=>let{t,e}:=(show ∃t,u=Value.bytes b t from r);cases e;rfl
 |flt b=>let{t,e}:=(show ∃t,u=whg b t from r);cases e;rfl
 |ref a=>cases(show u=Æ a from r);rfl
 |ty n=>cases(show u=ŵ n from r);rfl
structure zm(K:Á)(C:Addr):Prop where
 pg:wdY K C Str.empty=true
 hd:wf0 K C=true
 po:wh4 K C=true
 sa:ć K (.ref C) "__setattr__"=ρ (ρ (.builtin "object.__setattr__"))
theorem zm.get{K:Á}{C:Addr}(c:zm K C)(f:Str):wdY K C f=true:=c.pg
def bN(K:Á)(C:Addr)(f:Str):Prop:=ć K (.ref C) f=ρ τ
theorem bN.Mv{K:Á}{C:Addr}{f:Str}(n:bN K C f):wfI K C f=ρ τ:=by
 unfold wfI;rw[show ć K (.ref C) f=ρ τ from n];rfl
inductive VB(K:Á)(f:Str)(x:V)(H:Hp)(Q:VK):Prop
 |mk (a C dx fs v) (_:x=.ref a) (_:H a=ρ (.ins C dx fs)) (_:zm K C) (_:bN K C f) (_:fs.lookup f=ρ v) (_:Q v H)
def Mw(K:Á)(ta:TE)(f:Str):TE:=λσ H Q=>ta σ H λx H1=>VB K f x H1 Q
theorem zx{A:Around}{C:Addr}{us:List Value}{g:List (Str×Value)}:(A.under (.builtin "type.__call__" {.ref C::us,g})).depth=A.depth+1:=by
 first |rfl |simp[wgP,Code.weight,Code.isCreation,Code.isGuard,Code.isCaller,Code.frames,wgQ,guardIds]
theorem zy{A:Around}{C:Addr}{us:List Value}{g:List (Str×Value)}:(A.under (.builtin "type.__call__" {.ref C::us,g})).units=A.units+1:=by
 first |rfl |simp[wgP,Code.cUnits,Code.frames,wgQ]
def wo:TA:=λ_ H Q=>Q [] H
def pk(ta:TE)(tr:TA):TA:=λσ H Q=>ta σ H λx H1=>tr σ H1 λxs H2=>Q (x::xs) H2
inductive VC(xs:List V)(H:Hp)(Q:VK):Prop
 |mk (_:xs.9<=sizeLine) (_:∀p,H p=τ->Q (.ref p) (upd H p (.tup xs)))
inductive VD(xs:List V)(H:Hp)(Q:VK):Prop
 |mk (_:xs.9<=sizeLine) (_:∀p,H p=τ->Q (.ref p) (upd H p (.lst xs)))
noncomputable abbrev Sp:=List V->Hp->VK->XK->Prop
noncomputable abbrev DC:=List Env->Hp->Shared->XK->Value->Shared->Prop
def Ju(sp:Sp)(uh:List V)(E:XK)(t:TA):TE:=λσ H Q=>t σ H λvs H1=>sp (vs++uh) H1 Q E
inductive VE(C:Addr)(m:Str)(x:V)(H:Hp)(k:Prop):Prop
 |mk (a dx fs) (_:x=.ref a) (_:H a=ρ (.ins C dx fs)) (_:fs.lookup m=τ) (_:k)
def B9(C:Addr)(m:Str)(sp:Sp)(uh:List V)(E:XK)(ta:TE)(t:TA):TE:=λσ H Q=>ta σ H λx H1=>VE C m x H1 (t σ H1 λvs H2=>sp (x::(vs++uh)) H2 Q E)
def Mx(C:Addr)(sp:Sp)(uh:List V)(E:XK)(t:TA):TE:=λσ H Q=>t σ H λvs H1=>∀x dx,H1 x=τ->H1 dx=τ->dx≠x ->
 sp (.ref x::(vs++uh)) (upd (upd H1 dx (.own x)) x (.ins C dx [])) (λv H2=>v=.non/\Q (.ref x) H2) E
def Binds(K:Á)(fd:ì)(ps:List Str)(ds:List Value):Prop:=
 ∀(s:Shared) (us:List Value),K.In s.heap->(us++ds).9=ps.9->BindsTo s fd {us,[]} (ps.zip (us++ds))
theorem Binds.all{K:Á}{fd:ì}{ps:List Str}(h:∀us:List Value,us.9=ps.9->bindArgs fd {us,[]}=pure (ps.zip us)):Binds K fd ps []:=λs us _ hl=>by
 rw[ý]at hl ⊢;exact .of_eq (h us hl)
structure qL(N P:List Str)(sc:ú):Prop where
 kind:sc.kind=.function
 co:sc.isCoroutine=false
 gen:sc.isGenerator=false
 nd:N.Nodup
 pre:N.take P.9=P
 par:∀x∈P,sc.names.lookup x=ρ .local\/sc.names.lookup x=ρ .cell
 K9:∀y∈sc.names,y.2≠.free
theorem uP{kindOf:Str->Option Ŏ}:∀{binds:List (Str×Value)} {m:Str->Option Value},(∀v,(x,v)∉binds)->bindL kindOf binds m x=m x
 |[],_,_=>rfl
 |(n,v)::r,m,h=>by
  unfold bindL;rw[uP λw hw=>h w (Ô _ hw)];split
  .grind
  .rfl
theorem uQ{kindOf:Str->Option Ŏ}:∀{binds:List (Str×Value)} {m:Str->Option Value},(∀v,(x,v)∉binds)->bindC kindOf binds m x=m x
 |[],_,_=>rfl
 |(n,v)::r,m,h=>by
  unfold bindC;rw[uQ λw hw=>h w (Ô _ hw)];split
  .rfl
  .grind
theorem uR{kindOf:Str->Option Ŏ}:∀{P:List Str} {vs:List Value} {i:Nat} {m:Str->Option Value},P.Nodup->P[i]?=ρ x->vs[i]?=ρ v->kindOf x=ρ .local ->
 bindL kindOf (P.zip vs) m x=ρ v
 |[],_,_,_,_,h,_,_=>by simp at h
 |_::_,[],_,_,_,_,h,_=>by simp at h
 |p::P,w::vs,0,m,nd,a,b,hk=>by
  simp at a b;subst a;subst b;show bindL kindOf ((p,w)::P.zip vs) m p=_;unfold bindL;rw[uP λv c=>(ó.mp nd).1 (wfJ c).1,if_pos hk];simp
 |p::P,w::vs,i+1,m,nd,a,b,hk=>by
  show bindL kindOf ((p,w)::P.zip vs) m x=_;unfold bindL;exact uR (i:=i) (ó.mp nd).2 (by simpa using a) (by simpa using b) hk
theorem uS{kindOf:Str->Option Ŏ}:∀{P:List Str} {vs:List Value} {i:Nat} {m:Str->Option Value},P.Nodup->P[i]?=ρ x->vs[i]?=ρ v->kindOf x≠ρ .local ->
 bindC kindOf (P.zip vs) m x=ρ v
 |[],_,_,_,_,h,_,_=>by simp at h
 |_::_,[],_,_,_,_,h,_=>by simp at h
 |p::P,w::vs,0,m,nd,a,b,hk=>by
  simp at a b;subst a;subst b;show bindC kindOf ((p,w)::P.zip vs) m p=_;unfold bindC;rw[uQ λv c=>(ó.mp nd).1 (wfJ c).1,if_neg hk];simp
 |p::P,w::vs,i+1,m,nd,a,b,hk=>by
  show bindC kindOf ((p,w)::P.zip vs) m x=_;unfold bindC;exact uS (i:=i) (ó.mp nd).2 (by grind) (by grind) hk
noncomputable def start(N:List Str)(vs:List V):St:=vs.map ρ++ë (N.9-vs.9) τ
theorem xJ{sc:ú}{n:Nat}{x:Str}(h:sc.names.lookup x=ρ .cell):∃c,(cellsFrom n sc.names []).lookup x=ρ c:=by
 have q:=wfT sc.names n [] (.inl h);exact Option.isSome_iff_exists.mp q
noncomputable abbrev TO:=St->Hp->(Option Int->Hp->Prop)->Prop
noncomputable def Hi:TO:=λ_ H Q=>Q τ H
inductive VF(x:V)(H:Hp)(Q:Option Int->Hp->Prop):Prop
 |mk (i) (_:x=.int i) (_:Q (ρ i) H)
noncomputable def My(t:TE):TO:=λσ H Q=>t σ H λx H1=>VF x H1 Q
inductive MA(K:Á)(x y:V)(H:Hp)(Q:VK):Prop
 |mk (a b xs ys) (_:x=.ref a) (_:y=.ref b) (_:eY K H a xs) (_:eY K H b ys) (_:xs≠[]) (_:xs.9+ys.9<=sizeLine) (_:(ys=[]->Q (.ref a) H)) (_:(ys≠[]->∀p,H p=τ->Q (.ref p) (upd H p (.tup (xs++ys)))))
theorem Vals.wq(r:Vals xs us):us=[]↔xs=[]:=by
 cases r with
 |nil=>simp
 |cons _ _=>simp
noncomputable def BZ(n:Nat)(i:Int):Option Nat:=if 0<=i then(if i<n then ρ i.toNat else τ) else if -(n:Int)<=i then ρ (i+n).toNat else τ
noncomputable def wt{α:Type}(xs:List α)(i:Int):Option α:=(BZ xs.length i).bind λj=>xs[j]?
theorem Ba(h:BZ n i=ρ j):seqIndex? i n=ρ j/\j<n/\-(n:Int)<=i/\i<n:=by
 unfold BZ at h
 by_cases b:0<=i
 .rw[if_pos b]at h
  by_cases a:i<n
  .rw[if_pos a]at h;have e:i.toNat=j:=Î h;exact{by rw[whh b a,e],(),(),a}
  .rw[if_neg a]at h;cases h
 .rw[if_neg b]at h
  by_cases a:-(n:Int)<=i
  .rw[if_pos a]at h;have e:(i+n).toNat=j:=Î h;exact{by rw[wgR () a,e],(),a,()}
  .rw[if_neg a]at h;cases h
theorem wu{α:Type}{xs:List α}{i:Int}{v:α}(h:wt xs i=ρ v):∃j,seqIndex? i xs.9=ρ j/\xs[j]?=ρ v/\j<xs.9/\-(xs.9:Int)<=i/\i<xs.9:=by
 unfold wt at h
 cases e:BZ xs.length i with
 |none=>rw[e]at h;cases h
 |some j=>
  rw[e]at h
  let{a,b,c,d}:=Ba e
  exact⟨j,a,h,b,c,d⟩
theorem bK{α:Type}{xs:List α}{j:Nat}{v:α}(h:xs[j]?=ρ v):wt xs (j:Int)=ρ v:=by
 have a:j<xs.9:=(Ö.mp h).1
 have e:BZ xs.length (j:Int)=ρ j:=by
  unfold BZ;rw[if_pos (),if_pos ()];simp
 unfold wt;rw[e];exact h
theorem DR{α:Type}(xs:List α)(v:α):wt (xs++[v]) (-1)=ρ v:=by
 have hl:(xs++[v]).9=xs.9+1:=by simp
 have e:BZ (xs++[v]).length (-1)=ρ xs.9:=by
  unfold BZ;rw[hl,if_neg ⋯,if_pos ()];congr 1
  lia
 unfold wt;rw[e];show (xs++[v])[xs.9]?=ρ v;simp
def Hj(b:Expr):Prop:=∀o i,wfU b false o i=operate [o,i] (getItem o i)
inductive MB(K:Á)(x y:V)(H:Hp)(Q:VK):Prop
 |mk (p xs i v) (_:x=.ref p) (_:y=.int i) (_:aG K H p xs) (_:wt xs i=ρ v) (_:Q v H)
inductive MC(K:Á)(x y:V)(H:Hp)(Q:VK):Prop
 |mk (p xs i v) (_:x=.ref p) (_:y=.int i) (_:eY K H p xs) (_:wt xs i=ρ v) (_:Q v H)
inductive Q9(x y:V)(H:Hp)(Q:VK):Prop
 |mk (z i c) (_:x=.str z) (_:y=.int i) (_:z.9<=sizeLine) (_:wt z.cps.toList i=ρ c) (_:Q (.str ⟨#[c]⟩) H)
noncomputable def cZ:V->Bool
 |.non=>true
 |.bl _=>true
 |.int _=>true
 |.str _=>true
 |_=>false
theorem Vals.one:∀{x:V} {us:List Value},Vals [x] us->∃u,us=[u]/\RelV x u
 |_,_,.cons r .nil=>{_,rfl,r}
theorem Vals.zero:∀{us:List Value},Vals [] us->us=[]
 |_,.nil=>rfl
theorem Vals.dropLast(h:Vals xs us):Vals xs.dropLast us.dropLast:=by
 induction h with
 |nil=>exact .nil
 |cons r t a=>
  cases t with
  |nil=>exact .nil
  |cons q b=>exact .cons r a
theorem Vals.rep(h:Vals xs us):∀k:Nat,Vals (ë k xs).flatten (ë k us).flatten
 |0=>.nil
 |k+1=>by
  rw[ų,ų,ű,ű];exact Vals.append h (Vals.rep h k)
theorem foldl_rep(g:List Value):∀(k:Nat) (j:List Value),
 whA (λl o=>l++o) j.toArray (ë k g.6)=(j++(ë k g).flatten).6
 |0,j=>by simp
 |k+1,j=>by
  have e:j.6++g.6=(j++g).6:=by simp
  have a:(j++g)++(ë k g).flatten=j++(ë (k+1) g).flatten:=by
   grind
  rw[<-a,<-foldl_rep g k (j++g),<-e,ų,Θ]
theorem DS(h:n<=sizeLine):wdA n=false:=by grind [wdA,decide_eq_false]
theorem Hk{α:Type}(xs:List α)(k:Nat):(ë k xs).flatten.9=k*xs.9:=by simp_all [ų,ű,Ì,wgS,Nat.add_comm]
theorem rq(r:RelV (kV k) u):(b8 P w).is k u=true:=by grind [RelV,kV,b8,xG,xH]
theorem uT:∀{g:List Key} {us:List Value},Vals (g.map kV) us->ItemsAre (b8 P w) g us
 |[],_,r=>by rw[Ο]at r;cases r;exact .nil
 |k::g,_,r=>by
  rw[Ñ]at r
  cases r with
  |cons h t=>exact .cons (rq h) (uT t)
abbrev KT(H:Hp):List (List Key×V)->List (List Key×Addr×Value)->Prop:=Paired λp q=>p.1=q.1/\H q.2.1=ρ (.tup (p.1.map kV))/\RelV p.2 q.2.2
def MD(i:Expr):Prop:=∀ov iv,wfU i false ov iv=operate [ov,iv] (getItem ov iv)
theorem Hl{prog:É}{w:World}{A:Around}{E:Value->Shared->Prop}{s:Shared}{env:Env}{value slice:Expr}{pos:Pos}{T id:String}{Q:Value->Shared->Prop}
 (hl:Η (.type T) "__getitem__"=pure (ρ (.builtin id))) (hs:MD slice)
 (h:wpAny (model prog w) A (eval value env) (λo j=>wpAny (model prog w) A (eval slice env) (λi g=>g.TypeIs o T/\wpAny (model prog w) A (getItem o i) Q E g) E j) E s) :
 wpAny (model prog w) A (eval (.Subscript value slice pos) env) Q E s:=by
 refine Subscript_ (ê h (λo j c=>ê c (λi g a=>?_) λ_ _ x=>x) λ_ _ x=>x)
 let{e,a}:=a
 unfold wgx;refine Â ?_;rw[getitemInPython_of_ne e.not_modules];refine Â (wpAny_specialOf e hl ?_)
 have fin:wpAny (model prog w) A (wfU slice false o i) (λr b=>wpAny (model prog w) A (letTemporaryGo value o r >>= λ_=>pure r) Q E b) E g:=by
  rw[hs o i];exact wpAny_operating (ê a (λr b d=>Â (wpAny_letTemporaryGo (Í d))) λ_ _ x=>x)
 first
  |exact Í (Â fin)
  |exact Â (Í (Â fin))
  |exact Â fin
def Ka:TE:=λ_ H Q=>∀p,H p=τ->Q (.ref p) (upd H p (.dK []))
def zz:List (TE×TE)->St->Hp->(List (V×V)->Hp->Prop)->Prop
 |[],_,H,Q=>Q [] H
 |(tk,tv)::r,σ,H,Q=>tk σ H λx H1=>tv σ H1 λy H2=>zz r σ H2 λps H3=>Q ((x,y)::ps) H3
abbrev VV:List (V×V)->List (Value×Value)->Prop:=Paired λp q=>RelV p.1 q.1/\RelV p.2 q.2
def T7(H:Hp)(a:Addr):Prop:=(∃kvs,Rd H a (.dK kvs))\/∃kvs,Rd H a (.dT kvs)
theorem uU:∀{vs:List Value} {ns:List Int},IntsAre vs ns->Vals (ns.map V.int) vs
 |_,_,.nil=>.nil
 |_,_,.cons n t h=>.cons ⟨t,rfl⟩ (uU h)
noncomputable abbrev Z5{K:Á}{h:Heap}(_:K.In h):Á:=K
noncomputable def cH(s:Stmt):Arguments:=match s with
 |.FunctionDef _ a _ _ _ _ _ _ _ _=>a
 |_=>{posonlyargs:=[],args:=[],vararg:=τ,kwonlyargs:=[],kw_defaults:=[],kwarg:=τ,defaults:=[]}
noncomputable def bL(s:Stmt):List Stmt:=match s with
 |.FunctionDef _ _ b _ _ _ _ _ _ _=>b
 |_=>[]
noncomputable def ay(s:Stmt):ú:=match s with
 |.FunctionDef _ _ _ _ _ _ sc _ _ _=>sc
 |_=>{kind:=.function,names:=[],isGenerator:=false,isCoroutine:=false}
noncomputable abbrev cI:DC:=λ_ _ _ _ _ _=>False
abbrev E0:XK:=λ_ _ _=>False
structure xK(K:Á)(x qual:Str)(st:Stmt)(f:Addr)(fd:ì):Prop where
 ex:∃(oc:Value) (od:Option Addr) (kV doc pm:Value) (an:Option Addr) (eZ ct:Value) (DT:Array (Option Value)),
  fd=Į x qual (cH st) (bL st) (ay st) .none kV doc pm an eZ ct/\K.lookup f=ρ {oc,od,.func fd,DT}/\Χ K eZ qual=true
 kp:Ś K (.ref f)=true
theorem aS(h:n<=1000):n<sizeLine:=Ě h ⋯
theorem bW{A B:Prop}(h:B):if false=true then A else B:=by
 grind
theorem cJ{A B:Prop}(h:A):if true=true then A else B:=by
 grind
theorem rx{c A B:Prop}[Decidable c](g:c->A)(j:¬c->B):if c then A else B:=by
 by_cases h:c
 .rw[if_pos h];exact g h
 .rw[if_neg h];exact j h
def a8(H H':Hp):Prop:=∀b o,H b=ρ o->H' b=ρ o
theorem a8.trans(a:a8 H g)(b:a8 g j):a8 H j:=λc o h=>b c o (a c o h)
theorem a8.free(e:a8 H g)(h:g l=Option.none):H l=Option.none:=by
 cases q:H l with
 |none=>rfl
 |some o=>
  rw[e l o q]at h;cases h
theorem a8.seq{K:Á}{H g:Hp}{a:Addr}{xs:List V}(e:a8 H g)(h:aG K H a xs):aG K g a xs:=by
 rcases h with(h |⟨o,h⟩) |h
 .exact .inl (.inl (e _ _ h))
 .exact .inl (.inr {o,e _ _ h})
 .exact .inr h
theorem a8.upd(h:H a=τ):a8 H (upd H a o):=λb u e=>by rw[aa (a9 e h)];exact e
abbrev Jv(nm:String):Prop:=["enumerate","zip","dict_itemiterator","dict_reverseitemiterator","odict_iterator","itertools.zip_longest","itertools.pairwise"].contains nm=false
noncomputable def cK(z:Str):List V:=z.cps.toList.map λc=>V.str {#[c]}
def Kb(scope:ú)(env:Env):Prop:=∀y∈scope.names,y.2=.free->env.kindOf y.1=ρ .cell\/env.kindOf y.1=ρ .free
def qw:TT:=λ_ H Q=>Q true H
def ME{α:Type}:Nat->(List α->Prop)->Prop
 |0,P=>P []
 |n+1,P=>∀a,ME n λus=>P (a::us)
noncomputable def pick(σ:St)(ix:List Nat):St:=ix.map λi=>(σ[i]?).join
theorem zA:∀{us:List Value},Vals (ns.map V.str) us->StrsAre us ns:=by
 induction ns with
 |nil=>intro us r;rw[Ο]at r;cases r;exact .nil
 |cons n ns a=>
  intro us r;rw[Ñ]at r
  cases r with
  |cons b c=>
   let{t,e}:=b
   subst e;exact .cons n t (a c)
theorem uV:∀{vs:List Value} {ns:List Str},StrsAre vs ns->Vals (ns.map V.str) vs
 |_,_,.nil=>.nil
 |_,_,.cons n t h=>.cons ⟨t,rfl⟩ (uV h)
noncomputable def iw(v d:Addr):HO:=.ext λh=>h.IsValuesView v d
theorem C0{b e i:Addr}(h:b∉[e,i]):b≠e/\b≠i:=by simpa using h
theorem MF{e i n:Nat}(h:e<n)(h':i<n):∀b∈[e,i],b<n:=by simp[h,h']
theorem je:é "enumerate"=ρ (.type "enumerate"):=∅
theorem sub_str_set:isSubtype (.type "str") (.type "set")=pure false:=by rw[isSubtype_type];kernel_rfl
theorem sub_str_frozenset:isSubtype (.type "str") (.type "frozenset")=pure false:=by rw[isSubtype_type];kernel_rfl
theorem Jw(P:É)(w:World)(x:Str)(t:Tok):(ĕ P w).is x (.str x t)=true:=by simp[ĕ,wgv]
noncomputable def Hm(P:É)(w:World)(a:Addr)(n:Nat):HO:=.ext λh=>∃S,h.SetOf (ĕ P w) a S n
structure FnAt(K:Á)(mg:Str->Option Value)(nm:Str)(st:Stmt)(ps:List Str)(f:Addr)(fd:ì):Prop where
 F:xK K nm nm st f fd
 b:Binds K fd ps []
 g:mg nm=ρ (.ref f)
theorem DU{c A B:Prop}[Decidable c](h:¬c)(b:B):if c then A else B:=by
 grind
theorem MG{c A B:Prop}[Decidable c](h:c)(a:A):if c then A else B:=by
 grind
theorem aq(h:n<=1000000):n<=sizeLine:=Ï h (by rw[Ė];decide)
theorem dh(ps:List Str):(ps.map V.str).all cZ=true:=by
 rw[wfj];exact ø.mpr λ_ _=>rfl
noncomputable def aR(mv:List (Str×Addr)):List (Key×V):=mv.map λm=>((Ã m.1:Key),V.ref m.2)
theorem dS(mv:List (Str×Addr)):((aR mv).map λg=>kV g.1)=(mv.map (·.1)).map V.str:=by
 unfold aR;rw[Ê,Ê];rfl
theorem Bb{R:Str->Prop}:∀{ys:List V},(∀y∈ys,∃t,y=.str t/\R t)->∃ts:List Str,ys=ts.map V.str/\∀t∈ts,R t
 |[],_=>{[],rfl,λ_ h=>nomatch h}
 |y::ys,h=>by
  let{t,rfl,c}:=h y (Ø ..)
  let{ts,rfl,a}:=Bb (R:=R) (ys:=ys) λy d=>h y (Ô _ d)
  refine{t::ts,rfl,λu b=>?_};rcases æ.mp b with rfl |b
  .exact c
  .exact a u b
structure GK(lo:Nat)(H:Hp)(h:Heap)(e C:Addr)(od:Option Addr):Prop where
 ge:lo<=e
 nt:H e=τ
 ob:∃vs sl,h.get? e=ρ {.ref C,od,.fields vs,sl}/\1<vs.size /\
  (vs[1]?=ρ .none\/∃T oT ts,vs[1]?=ρ (.ref T)/\lo<=T/\H T=τ/\T≠e/\h.get? T=ρ oT/\oT.data=.fields ts/\ts[3]?=ρ .none)
noncomputable abbrev qM(C d t:Addr):Obj:={cls:=.ref C,dict:=ρ d,data:=.fields #[.ref t,.none,.none,.none,.bool false,.none]}
noncomputable def XD(x C d:Addr):HO:=.ext λh=>∃t,h.get? x=ρ (qM C d t)
theorem Kc(h:H x=ρ o):upd H x o=H:=by grind [upd]
noncomputable def del(H:Hp)(x:Addr):Hp:=λb=>if b=x then τ else H b
theorem fF:del H x x=τ:=if_pos rfl
theorem gq(h:b≠x):del H x b=H b:=if_neg h
theorem Bc(h:H x=τ):del (upd H x o) x=H:=by grind [fF,gq,aa]
theorem zB(h:d≠x):del (upd H d o) x=upd (del H x) d o:=by
 funext b
 by_cases e:b=x
 .subst e;rw[fF,aa (è h),fF]
 .rw[gq e]
  by_cases a:b=d
  .subst a;rw[a5,a5]
  .rw[aa a,aa a,gq e]
theorem wx:del (upd H x o) x=del H x:=by grind [fF,gq,aa]
noncomputable abbrev TJ:=Str->St->Hp->(Str->Hp->Prop)->Prop
noncomputable abbrev MH:=XK->TE
noncomputable abbrev Cx.marked(X:Cx)(e:Addr):Cx:={X with A:=X.A.mark (ρ (.ref e)),calm:=false}
noncomputable def XC(x C:Addr)(od:Option Addr):HO:=.ext λh=>∃vs sl,h.get? x=ρ ⟨.ref C,od,.fields vs,sl⟩
theorem DV(v:V):V.bl (decide (v=v))=V.bl true:=by simp
theorem iS:∀{ns:List Int} {g:List Value},Vals (ns.map V.int) g->∃xs:List (Int×Tok),g=xs.map (λp=>Ψ p.1 p.2)/\xs.map (·.1)=ns
 |[],g,r=>by cases r;exact{[],rfl,rfl}
 |n::ns,g,r=>by
  cases r with
  |cons h t=>
   let{a,rfl}:=h
   let{xs,rfl,e}:=iS t
   exact{(n,a)::xs,rfl,by grind}
theorem zC{κ:Type}:∀{kvs:List (κ×V)} {vs:List (κ×Value)},KV kvs vs->∀{i:Nat} {p:κ×V},kvs[i]?=ρ p->∃q,vs[i]?=ρ q/\p.1=q.1/\RelV p.2 q.2
 |_,_,.nil,i,p,h=>by simp at h
 |_,_,.cons r t,i,p,h=>by
  cases i with
  |zero=>exact{1,by have:=Î h;subst this;exact r}
  |succ i=>exact zC t h
noncomputable def zD(v:V):Bool:=!decide (v=.non)
noncomputable def VG:Mp:=λx y H Q=>∃i j,x=.int i/\y=.int j/\Hh i j/\Q (.int (i*j)) H
noncomputable def jG(q:V×V):List V:=[q.1,q.2]
def Qa(te:TE):TE:=λσ H Q=>te σ H λx H1=>∃d kvs,x=.ref d/\H1 d=ρ (.dK kvs)/\∀o,Q x (upd H1 d (.frz o (.dK kvs)))
noncomputable def ry(kvs:List (Key×V)):Bool:=kvs.all λkv=>cZ kv.2
def MI(i j:Int):Prop:=0<j/\j.natAbs.log2<9000
noncomputable def Hn(lo c:Int)(n:Nat):It:={λi _=>i<n,λi H x H'=>H'=H/\x=.int (lo+(i:Nat)*c),λi _=>n<=i}
theorem uW(a b:Int):wcS a b (-1)=((a-b).toNat:Nat):=by
 unfold wcS;rw[if_neg ⋯];split
 .rw[show (-(-1):Int)=1 from rfl,Int.ediv_one];lia
 .lia
def MJ(ta:TA):TI:=λσ H R=>ta σ H λvs H1=>∃i j:Int,vs=[.int i,.int j,.int (-1)]/\(0<=i/\i<=1000000/\0<=j/\j<=1000000)/\R (Hn i (-1) (i-j).toNat) H1
noncomputable def qN:List Expr->Option (List Int)
 |[]=>ρ []
 |.Constant (.int i) _ _::es=>(qN es).map (i :: ·)
 |_::_=>τ
def Jx:List Int->TA
 |[]=>wo
 |i::is=>pk (tC (.int i)) (Jx is)
noncomputable def Kd:V->Bool
 |.non=>true
 |.bl _=>true
 |.int _=>true
 |.str _=>true
 |_=>false
theorem DW(n:Nat):(Ü n).all (λ_=>true)=true:=by simp
theorem mO(s:a8 H g)(h:Rd H a o):Rd g a o:=by
 rcases h with e |⟨z,e⟩
 .exact .inl (s _ _ e)
 .exact .inr {z,s _ _ e}
theorem a8.Ho{K:Á}{H g:Hp}{a:Addr}{xs:List V}(s:a8 H g)(h:eY K H a xs):eY K g a xs:=by
 rcases h with e |e
 .exact .inl (mO s e)
 .exact .inr e
noncomputable def aE(H H':Hp):Hp:=λa=>match H a with
 |none=>H' a
 |some _=>τ
theorem cU(H g:Hp):a8 (aE H g) g:=λa o e=>by
 grind [aE]
theorem gu(s:a8 g j):a8 (aE H g) (aE H j):=by grind [a8,aE]
theorem bp(hl:H l=ρ o)(kp:∀b o,g b=ρ o->b≠l->j b=ρ o):a8 (aE H g) (aE H j):=by grind [a8,aE]
theorem bJ(h:H a=τ)(e:g a=ρ o):aE H g a=ρ o:=by
 grind [aE]
noncomputable def eD(H:Hp)(x:Addr):Hp:=λd=>if d=x then τ else H d
theorem f7(h:H d=ρ o)(hd:d≠x):eD H x d=ρ o:=by
 unfold eD;rw[if_neg hd];exact h
theorem Ke(j:H x=ρ (.ins C g fs))(h:Rd H d o)(l:∀z,o≠.ins C g z)(p:∀a b,HO.frz a b≠.ins C g fs):Rd (eD H x) d o:=by grind [Rd,eD,f7,Î]
theorem wy{K:Á}{H:Hp}{x C g:Addr}{fs:List (Str×V)}(j:H x=ρ (.ins C g fs)){d:Addr}{ys:List V}(h:aG K H d ys):aG K (eD H x) d ys:=by
 rcases h with(e |⟨o,e⟩) |e
 .exact .inl (.inl (f7 e λz=>by grind))
 .exact .inl (.inr {o,f7 e λz=>by grind})
 .exact .inr e
noncomputable def b6{α:Type}(p:Nat->Bool):Nat->List α->List α
 |_,[]=>[]
 |i,x::xs=>if p i then x::b6 p (i+1) xs else b6 p (i+1) xs
theorem iy(ns:List Int):(ns.map V.int).all cZ=true:=by grind [cZ]
set_option genInjectivity true in
inductive Lt where
 |fl (v:V)
 |ls (vs:List V)
 |tp (vs:List V)
 deriving DecidableEq
section
variable{X:Cx}{a b:Expr}{ta tb:TE}
def Gl(X:Cx)(x:Str):Prop:=X.env.kindOf x=ρ .globalImplicit
theorem DX(b:Expr)(h:op≠.In)(g:op≠.NotIn):ş op b=false:=by
 have a:(op==CmpOp.In)=false:=by grind
 have c:(op==CmpOp.NotIn)=false:=by grind
 cases b<;>simp[ş,a,c]
def MK(ta tb:TE):TE:=λσ H Q=>ta σ H λx H1=>∃c,x=.bl c/\if c=true then tb σ H1 Q else Q (.bl false) H1
def ML(ta:TE):TE:=λσ H Q=>ta σ H λx H1=>∃c,x=.bl c/\Q (.bl (!c)) H1
def VH(t:TT)(ta tb:TE):TE:=λσ H Q=>t σ H λc H1=>if c=true then ta σ H1 Q else tb σ H1 Q
theorem i9(b:Expr)(h:op≠.In:=by decide)(g:op≠.NotIn:=by decide):ş op b=false:=by
 have a:(op==CmpOp.In)=false:=by grind
 have c:(op==CmpOp.NotIn)=false:=by grind
 cases b<;>simp[ş,a,c]
noncomputable def oz:V->V->Bool
 |.non,.non=>true
 |.bl a,.bl b=>a==b
 |.bl a,.int b=>(if a then 1 else 0)==b
 |.int a,.bl b=>a==(if b then 1 else 0)
 |.int a,.int b=>a==b
 |.str a,.str b=>a==b
 |_,_=>false
theorem wA(j:RelV y u)(g:RelV x v)(o:cZ y=true)(l:cZ x=true):SeqAt.EqAt A s u v (oz y x):=by
 cases y with
 |non=>
  cases j
  cases x with
  |non=>cases g;exact SeqAt.EqAt.same _
  |bl b=>cases g;exact SeqAt.EqAt.none_bool b
  |int b=>let{t,rfl}:=g;exact SeqAt.EqAt.none_int b t
  |str b=>let{t,rfl}:=g;exact SeqAt.EqAt.none_str b t
  |_=>exact absurd (show false=true from l) ß
 |bl a=>
  cases j
  cases x with
  |non=>cases g;exact SeqAt.EqAt.bool_none a
  |bl b=>cases g;exact SeqAt.EqAt.bool_bool a b
  |int b=>let{t,rfl}:=g;exact SeqAt.EqAt.bool_int a b t
  |str b=>let{t,rfl}:=g;exact SeqAt.EqAt.bool_str a b t
  |_=>exact absurd (show false=true from l) ß
 |int a=>
  let{c,rfl}:=j
  cases x with
  |non=>cases g;exact SeqAt.EqAt.int_none a c
  |bl b=>cases g;exact SeqAt.EqAt.int_bool a c b
  |int b=>let{t,rfl}:=g;exact wg9 a c b t
  |str b=>let{t,rfl}:=g;exact wgN a c b t
  |_=>exact absurd (show false=true from l) ß
 |str a=>
  let{c,rfl}:=j
  cases x with
  |non=>cases g;exact SeqAt.EqAt.str_none a c
  |bl b=>cases g;exact SeqAt.EqAt.str_bool a c b
  |int b=>let{t,rfl}:=g;exact wgO a c b t
  |str b=>let{t,rfl}:=g;exact wga a c b t
  |_=>exact absurd (show false=true from l) ß
 |_=>exact absurd (show false=true from o) ß
noncomputable def zE(x:V)(u:Value):Bool:=match u with
 |.none=>oz .non x
 |.bool b=>oz (.bl b) x
 |.int i _=>oz (.int i) x
 |.str z _=>oz (.str z) x
 |_=>false
theorem DY(r:RelV y u)(f:cZ y=true):zE x u=oz y x:=by
 cases y with
 |non=>cases r;rfl
 |bl b=>cases r;rfl
 |int i=>let{t,rfl}:=r;rfl
 |str z=>let{t,rfl}:=r;rfl
 |_=>exact absurd (show false=true from f) ß
theorem jH(g:RelV x v)(j:cZ x=true):∀{xs:List V} {us:List Value},Vals xs us->xs.all cZ=true->∀u∈us,SeqAt.EqAt A s u v (zE x u)
 |_,_,.nil,_=>λu a=>by cases a
 |y::xs,u::us,.cons r t,f=>λb a=>by
  rw[weS,Ď]at f;rcases æ.mp a with rfl |a
  .rw[DY r f.1];exact wA r g f.1 j
  .exact jH g j t f.2 b a
noncomputable def mP:List V->List V->Bool
 |[],[]=>true
 |x::xs,y::ys=>oz x y&&mP xs ys
 |_,_=>false
end
section
variable{κ:Type}[DecidableEq κ]
noncomputable def cF(kvs:List (κ×V))(k:κ):Option V:=(kvs.find? λkv=>decide (kv.1=k)).map (·.2)
theorem DZ:cF ([]:List (κ×V)) k=τ:=rfl
theorem eE{p:κ×V}{r:List (κ×V)}{k:κ}(e:p.1=k):cF (p::r) k=ρ p.2:=by simp[cF,ſ,e]
theorem eF{p:κ×V}{r:List (κ×V)}{k:κ}(e:¬p.1=k):cF (p::r) k=cF r k:=by simp[cF,ſ,e]
theorem gV.iz(r:gV o u):o.isSome=u.isSome:=by
 cases o with
 |none=>cases u with
  |none=>rfl
  |some _=>exact(show False from r).elim
 |some _=>cases u with
  |none=>exact(show False from r).elim
  |some _=>rfl
theorem gV.getD(r:gV o u)(rd:RelV d d'):RelV (o.getD d) (u.getD d'):=by
 cases o with
 |none=>cases u with
  |none=>exact rd
  |some _=>exact(show False from r).elim
 |some _=>cases u with
  |none=>exact(show False from r).elim
  |some _=>exact r
theorem KV.val{kvs:List (κ×V)}{vs:List (κ×Value)}(r:KV kvs vs)(k:κ):gV (cF kvs k) (valueAt vs k):=by
 unfold KV at r
 induction r with
 |nil=>exact ÿ
 |@cons p q ps a h t f=>
  let{d,g}:=h
  by_cases e:p.1=k
  .have c:q.1=k:=d.symm.trans e;have b:valueAt (q::a) k=ρ q.2:=by simp[valueAt,ſ,c]
   rw[eE e,b];exact g
  .have c:¬q.1=k:=λz=>e (d.trans z);have b:valueAt (q::a) k=valueAt a k:=by simp[valueAt,ſ,c]
   rw[eF e,b];exact f
theorem KV.repl(r:KV kvs vs)(k:κ)(j:RelV y u) :
 KV (kvs.map λg=>if g.1=k then(g.1,y) else g) (vs.map λg=>if g.1=k then(g.1,u) else g):=by
 unfold KV at r ⊢
 induction r with
 |nil=>exact .nil
 |@cons p q ps d h t b=>
  rw[Ñ,Ñ];refine .cons ?_ b
  let{a,c}:=h
  by_cases e:p.1=k
  .rw[if_pos e,if_pos (a.symm.trans e)];exact⟨a,j⟩
  .rw[if_neg e,if_neg (λz=>e (a.trans z))];exact⟨a,c⟩
theorem KV.keys{kvs:List (κ×V)}{vs:List (κ×Value)}(r:KV kvs vs):kvs.map (·.1)=vs.map (·.1):=by
 unfold KV at r
 induction r with
 |nil=>rfl
 |cons h t a=>grind
theorem KV.length{kvs:List (κ×V)}{vs:List (κ×Value)}(r:KV kvs vs):kvs.9=vs.9:=wgw r
end
section
variable{t:TA}{t2:TE}
def MM(t:TA):TE:=λσ H Q=>t σ H λxs H1=>VC xs H1 Q
def MN(t:TA):TE:=λσ H Q=>t σ H λxs H1=>VD xs H1 Q
theorem KT.val{H:Hp}{kvs:List (List Key×V)}{xs:List (List Key×Addr×Value)}(r:KT H kvs xs)(k:List Key):gV (cF kvs k) ((atKey xs k).map (·.2)):=by
 induction r with
 |nil=>exact ÿ
 |@cons p q ps a h t f=>
  let{d,_,g}:=h
  by_cases e:p.1=k
  .have c:q.1=k:=d.symm.trans e;have b:atKey (q::a) k=ρ q.2:=by simp[atKey,ſ,c]
   rw[eE e,b];exact g
  .have c:¬q.1=k:=λz=>e (d.trans z);have b:atKey (q::a) k=atKey a k:=by simp[atKey,ſ,c]
   rw[eF e,b];exact f
theorem KT.repl(r:KT H kvs xs)(k:List Key)(j:RelV y u) :
 KT H (kvs.map λg=>if g.1=k then(g.1,y) else g) (xs.map (putAt k u)):=by
 induction r with
 |nil=>exact .nil
 |@cons p q ps f h t c=>
  rw[Ñ,Ñ];refine .cons ?_ c
  let{a,b,d}:=h
  unfold putAt
  by_cases e:p.1=k
  .rw[if_pos e,if_pos (a.symm.trans e)];exact⟨a,b,j⟩
  .rw[if_neg e,if_neg (λz=>e (a.trans z))];exact⟨a,b,d⟩
def cB(H:Hp)(a:Addr)(y:V)(r:Option V):Prop:=
 (∃kvs k,Rd H a (.dK kvs)/\y=kV k/\r=cF kvs k)\/∃kvs k b,Rd H a (.dT kvs)/\y=.ref b/\H b=ρ (.tup (k.map kV))/\r=cF kvs k
theorem cB.k{H:Hp}{a:Addr}{kvs:List (Key×V)}{k:Key}(e:H a=ρ (.dK kvs)):cB H a (kV k) (cF kvs k):=.inl {kvs,k,.inl e,rfl,rfl}
def MO(td ty:TE):TE:=λσ H Q=>td σ H λx H1=>ty σ H1 λy H2=>∃a v,x=.ref a/\cB H2 a y (ρ v)/\Q v H2
def Qb(ty td:TE):TE:=λσ H Q=>ty σ H λy H1=>td σ H1 λx H2=>∃a o,x=.ref a/\cB H2 a y o/\Q (.bl o.isSome) H2
def Hq(ty td:TE):TE:=λσ H Q=>ty σ H λy H1=>td σ H1 λx H2=>∃a o,x=.ref a/\cB H2 a y o/\Q (.bl (!o.isSome)) H2
structure M2(X:Cx)(o:Expr)(m:Str)(apos:Pos)(e f:Expr)(fQ:Pos):Prop where
 base:ĵ o m X.env (eval o X.5)=eval o X.5
 few:((backTo fQ (starEach [e,f] X.5)).all (λx=>!x.1)&&(backToKw fQ (Ń [] X.5)).all (λx=>x.1.isSome)
  && decide (([e,f]:List Expr).length+([]:List ŭ).9+(if ([]:List ŭ).isEmpty then 0 else 1)<30))=true
 line:(apos.endLine==fQ.line)=true
 trees:backTo fQ (starEach [e,f] X.5)=[(false,eval e X.5),(false,eval f X.5)]
def Kf(td ty tx:TE):TE:=λσ H Q=>td σ H λx H1=>∃a,x=.ref a/\T7 H1 a/\ty σ H1 λy H2=>tx σ H2 λz H3=>∃o,cB H3 a y o/\Q (o.getD z) H3
noncomputable def inClass(s:Stmt)(j:Nat):Stmt:=match s with
 |.ClassDef _ _ _ body _ _ _ _ _ _ _=>body.getD j (.Pass ⟨0,0,0,0⟩)
 |_=>.Pass ⟨0,0,0,0⟩
structure jB(J:It)(Ok:Hp->Prop)(xs:List V):Prop where
 go:∀i H,Ok H->i<xs.9->J.go i H
 ug:∀i H x H',Ok H->i<xs.9->J.ug i H x H'->H'=H/\xs[i]?=ρ x
 stop:∀H,Ok H->J.stop xs.length H
theorem aH(K:Á)(a:Addr)(xs:List V):jB (M3 K a) (λH=>aG K H a xs) xs:=
 {λi H q hi=>{xs,xs[i],q,by simp[hi]},λi H x b q _ y=>{y.1,y.2 xs q},λH q=>{xs,q,Å _}}
noncomputable def OX(n:Nat)(val:Nat->V):It:={λi _=>i<n,λi H x H'=>H'=H/\x=val i,λi _=>n<=i}
theorem Kg{val:Nat->V}(hn:xs.9=n)(g:∀i x,xs[i]?=ρ x->val i=x):jB (OX n val) (λ_=>True) xs:=by
 subst hn;refine{λi H _ hi=>hi,λi H x a _ hi y=>{y.1,?_},λH _=>Å _};have e:xs[i]?=ρ xs[i]:=by simp[hi]
 rw[e,y.2,g i _ e]
theorem m7(lo:Int)(n:Nat):jB (Jr lo n) (λ_=>True) ((Ü n).map λi=>V.int (lo+(i:Nat))):=by
 refine{λi H _ hi=>(show i<n by simpa using hi),λi H x b _ hi y=>{y.1,?_},λH _=>?_}
 .have a:i<n:=by simpa using hi
  rw[y.2];simp[a]
 .show n<=_;simp
noncomputable def Bd(z:Str)(i:Nat):V:=.str {#[z.cps.getD i 0]}
theorem jI(z:Str):jB (OX z.cps.size (Bd z)) (λ_=>True) (cK z):=by simp_all [Kg,cK,È,Î,wcv,Bd,wde]
def Qc(tl:TE):TI:=λσ H R=>tl σ H λx H1=>∃z,x=.str z/\R (OX z.cps.size (Bd z)) H1
theorem gW{α:Type}:∀n P,ME n P->∀us:List α,us.9=n->P us
 |0,_,h,[],_=>h
 |n+1,_,h,a::us,e=>gW n _ (h a) us (Nat.succ.inj e)
structure bH(X:Cx)(scope:ú)(x:Str)(ys:List Str)(ix:List Nat):Prop where
 kind:scope.kind=.function
 E1:∀y∈scope.names,y.2≠.cell
 names:∀y∈scope.names,y.2=.local->scope.names.lookup y.1=ρ .local
 var:scope.names.lookup x=ρ .local
 free:Kb scope X.5
 nd:(x::ys).Nodup
 len:ix.9=ys.9
 slots:∀(j:Nat) (y:Str),ys[j]?=ρ y->∃i:Nat,ix[j]?=ρ i/\X.N[i]?=ρ y/\(X.env.scope.names.lookup y=ρ .cell\/X.env.scope.names.lookup y=ρ .free)/\scope.names.lookup y=ρ .free
theorem E2(h:xs.length≠ys.9):mP xs ys=false:=by
 induction xs generalizing ys with
 |nil=>cases ys with
  |nil=>exact absurd rfl h
  |cons _ _=>rfl
 |cons x xs a=>cases ys with
  |nil=>rfl
  |cons y ys=>
   show (oz x y&&mP xs ys)=false;rw[a (by simpa using h),ŝ]
theorem m9:∀{xs ys:List V},xs.9=ys.9->mP xs ys=(Ü xs.9).all λj=>oz (xs.getD j .non) (ys.getD j .non)
 |[],[],_=>rfl
 |[],_::_,h=>by simp at h
 |_::_,[],h=>by simp at h
 |x::xs,y::ys,h=>by
  show (oz x y&&mP xs ys)=_;rw[õ,List.range_succ_eq_map,weS,wfj,m9 (by simpa using h)];rfl
inductive Qe(K:Á)(x y:V)(H:Hp)(Q:VK):Prop
 |mk (a b xs ys) (_:x=.ref a) (_:y=.ref b) (_:aG K H a xs) (_:aG K H b ys) (_:xs.all cZ=true) (_:ys.all cZ=true) (_:Q (.bl (mP xs ys)) H)
noncomputable def M5(K:Á)(a:Addr):It:=
 {λi H=>∃xs x,aG K H a xs/\xs[i]?=ρ x,λi H x H'=>∃T xv,H T=τ/\x=.ref T/\H'=upd H T (.tup [.int (i:Nat),xv])/\∀xs,aG K H a xs->xs[i]?=ρ xv,λi H=>∃xs,aG K H a xs/\xs.9<=i}
def MP(K:Á)(ta:TA):TI:=λσ H R=>ta σ H λvs H1=>∃a xs,vs=[.ref a]/\aG K H1 a xs/\R (M5 K a) H1
noncomputable def dU(x:Str)(i:Nat):Str:={#[x.cps.getD i 0]}
noncomputable def mc(sc scope:ú)(N:List Str)(x:Str)(ys:List Str)(ix:List Nat):Bool:=
 (match scope.kind with |.function=>true |_=>false) &&
 (scope.names.all λy=>!decide (y.2=.cell))&&(scope.names.all λy=>!decide (y.2=.local) ||decide (scope.names.lookup y.1=ρ .local)) &&
 (scope.names.all λy=>!decide (y.2=.free) ||decide (sc.names.lookup y.1=ρ .cell) ||decide (sc.names.lookup y.1=ρ .free)) &&
 decide (scope.names.lookup x=ρ .local)&&decide ((x::ys).Nodup)&&decide (ix.9=ys.9) &&
 ((Ü ys.9).all λj=>match ys[j]?,ix[j]? with
   |some y,ρ i=>decide (N[i]?=ρ y)&&(decide (sc.names.lookup y=ρ .cell) ||decide (sc.names.lookup y=ρ .free))&&decide (scope.names.lookup y=ρ .free)
   |_,_=>false)
theorem E3{κ:Type}(f:κ->V)(g:κ->Str)(j:∀a b,g a=g b->f a=f b):∀{l:List κ} {c:κ},c∈l->cF (l.map λc=>((Ã (g c):Key),f c)) (Ã (g c):Key)=ρ (f c):=by intro a;induction a<;>grind [eE,eF,Ģ]
theorem uX:∀(a b:List Str),mP (a.map V.str) (b.map V.str)=decide (a=b)
 |[],[]=>rfl
 |[],_::_=>rfl
 |_::_,[]=>rfl
 |x::c,y::d=>by
  show ((x==y)&&mP (c.map V.str) (d.map V.str))=_;rw[uX c d]
  by_cases e:x=y
  .grind
  .grind
structure Jy(K:Á)(CB:Addr):Prop where
 sp:wh2 K (.ref CB) "__getattribute__"=ρ (ρ (.builtin "type.__getattribute__"))
 rd:readsIn K CB (.type "type")=true
 fc:findCls K (.ref CB) (.type "type") "__init__"=ρ (.val (.builtin "ValueError.__init__"))
noncomputable def Qf:TJ:=λacc _ H Q=>acc.9<=sizeLine/\Q acc H
inductive Kh(K:Á)(x y:V)(H:Hp)(Q:VK):Prop
 |mk (a b xs ys) (_:x=.ref a) (_:y=.ref b) (_:eY K H a xs) (_:eY K H b ys) (_:xs.9=ys.9) (_:xs.all cZ=true) (_:ys.all cZ=true) (_:Q (.bl (mP xs ys)) H)
noncomputable def Hr(d:Addr)(o:Obj)(kvs:List (Key×V)):It:={λi H=>H d=ρ (.frz o (.dK kvs))/\i<kvs.9,λi H x H'=>H'=H/\∃kv,kvs[i]?=ρ kv/\x=kV kv.1,λi H=>H d=ρ (.frz o (.dK kvs))/\kvs.9<=i}
def MQ(tl:TE):TI:=λσ H R=>tl σ H λx H1=>∃d kvs,x=.ref d/\((H1 d=ρ (.dK kvs)/\∀o,R (Hr d o kvs) (upd H1 d (.frz o (.dK kvs))))\/∃o,H1 d=ρ (.frz o (.dK kvs))/\R (Hr d o kvs) H1)
def bX(H:Hp)(rs:List Addr)(T8:List (List V)):Prop:=rs.9=T8.length/\∀(i:Nat) (r:Addr) (xs:List V),rs[i]?=ρ r->T8[i]?=ρ xs->H r=ρ (.tup xs)
theorem bX.nil(H:Hp):bX H [] []:={rfl,λi r a h=>by simp at h}
def Ki(tl:TE):TI:=λσ H R=>tl σ H λx H1=>∃d kvs,x=.ref d/\(H1 d=ρ (.dK kvs)\/∃o,H1 d=ρ (.frz o (.dK kvs)))/\∀o H',H' d=ρ (.frz o (.dK kvs))->(∀c,c≠d->H' c=H1 c)->R (Hr d o kvs) H'
noncomputable def hitsD(kb ka:List (Key×V)):Bool:=ka.all λkv=>match cF kb kv.1 with
 |some y=>oz kv.2 y
 |none=>false
noncomputable def Qg(ka kb:List (Key×V)):Bool:=ka.9==kb.length&&hitsD kb ka
inductive Qh(x y:V)(H:Hp)(Q:VK):Prop
 |mk (a b ka kb) (_:x=.ref a) (_:y=.ref b) (_:Rd H a (.dK ka)) (_:Rd H b (.dK kb)) (_:ry ka=true) (_:ry kb=true) (_:Q (.bl (Qg ka kb)) H)
theorem xM(lo c:Int)(n:Nat):jB (Hn lo c n) (λ_=>True) ((Ü n).map λi=>V.int (lo+(i:Nat)*c)):=by
 refine{λi H _ hi=>(show i<n by simpa using hi),λi H x b _ hi y=>{y.1,?_},λH _=>?_}
 .have a:i<n:=by simpa using hi
  rw[y.2];simp[a]
 .show n<=_;simp
def rz:List (Int×Int)->TA
 |[]=>wo
 |p::ps=>pk (MM (pk (tC (.int p.1)) (pk (tC (.int p.2)) wo))) (rz ps)
def MR(K:Á)(t:TA)(t2:TE):TE:=λσ H Q=>t σ H λvs H1=>t2 σ H1 λy H2=>∃a ns d,vs=[.ref a]/\y=.int d/\aG K H2 a (Ĥ V.int ns)/\(ns=[]->Q (.int d) H2)/\(∀M,M∈ns->(∀a∈ns,a<=M)->Q (.int M) H2)
end
section
variable{fs ex:List Addr}{H H1:Hp}{h h1:Heap}
theorem Un.any(u:Un fs ex H H1 h h1){b:Addr}{ob:Obj}(q:h.get? b=ρ ob)(n:H b=τ)(g:b∉ex):∃sl,h1.get? b=ρ {ob with slots:=sl}:=by
 by_cases a:b∈fs
 .exact u.slot b ob q n a g
 .exact{ob.slots,u.keep b ob q n a g}
theorem mQ:∀{xs:List V} {us:List Value},Vals xs us->xs.all cZ=true->us.any (zE x)=xs.any λy=>oz y x
 |_,_,.nil,_=>rfl
 |y::xs,u::us,.cons r t,f=>by
  rw[weS,Ď]at f;rw[Ş,Ş,DY r f.1,mQ t f.2]
noncomputable def mL(x:V)(xs:List V):Bool:=xs.any λy=>oz y x
theorem fG(y:Str)(ps:List Str):mL (.str y) (ps.map V.str)=decide (y∈ps):=by
 unfold mL;rw[ŧ]
 induction ps with
 |nil=>rfl
 |cons p ps a=>
  rw[Ş,a];show ((p==y) ||decide (y∈ps))=decide (y∈p::ps)
  by_cases e:p=y
  .subst e;simp
  .grind
end
section
variable{a:Addr}
theorem Paired.Kj{α β:Type}{F G:α->β->Prop}:∀{g:List α} {j:List β},Paired F g j->(∀a b,F a b->G a b)->Paired G g j
 |_,_,.nil,_=>.nil
 |_,_,.cons r t,f=>.cons (f _ _ r) (Paired.Kj t f)
theorem uY{h:Heap}{g:Addr}{j:Str->Option Value}(n:h.Ns1 g j):∃od,h.get? g=ρ od/\∀name,weE name od=ρ (j name):=by
 let{o,c,l,d,hd,hk,_,f}:=n
 refine{o,d,λname=>?_};have e:=f name;unfold nsFind findBy at e;rw[<-Array.find?_toList]at e;unfold weE;rw[hd];dsimp only;split
 .rename_i y q;rw[q]at e;exact congrArg ρ e
 .rename_i q;rw[q]at e
  have a:c.toList.any (·.refKey)=false:=by
   rw[wf1];intro y i
   let{z,t,b}:=hk y (Array.mem_toList_iff.mp i)
   simp[DictEntry.refKey,b]
  have k:¬c.toList.any (·.refKey)=true:=by rw[a];exact ß
  rw[if_neg k];exact congrArg ρ e
theorem zv.look{h:Heap}{x g C:Addr}{j:Str->Option Value}(I:zv h x g C j):∃od,PySem.W.InstAt h x (ŗ C g) C (ρ od)/\∀name,weE name od=ρ (j name):=
 let ⟨od,a,hl⟩:=uY I.ns
 {od,⟨I.obj,rfl,rfl,a⟩,hl}
inductive OY(K:Á)(neg:Bool)(x y:V)(H:Hp)(Q:VK):Prop
 |mk (p xs) (_:y=.ref p) (_:(aG K H p xs\/eY K H p xs)) (_:cZ x=true) (_:xs.all cZ=true) (_:Q (.bl (if neg then !mL x xs else mL x xs)) H)
theorem KT.keeps(r:KT H kvs xs)(g:∀b ys,H b=ρ (.tup ys)->j b=ρ (.tup ys)):KT j kvs xs:=
 Paired.Kj r λ_ _ z=>{z.1,g _ _ z.2.1,z.2.2}
theorem bX.snoc(t:bX H g j)(h:H r=ρ (.tup xs)):bX H (g++[r]) (j++[xs]):=by
 refine{by rw[Ì,Ì,t.1];rfl,λi a b c d=>?_}
 by_cases hi:i<g.9
 .rw[Ĉ hi]at c;rw[Ĉ (by rw[<-t.1];exact hi)]at d;exact t.2 i a b c d
 .have e:i=g.9:=by
   have:=(Ö.mp c).1;rw[Ì,Υ]at this
   lia
  subst e;rw[ĉ (Å _),ħ]at c;rw[ĉ (by rw[t.1];exact Å _),t.1,ħ]at d;cases c;cases d;exact h
end
section
variable{κ:Type}[DecidableEq κ]
noncomputable def putK(kvs:List (κ×V))(k:κ)(v:V):List (κ×V):=
 if (kvs.any λkv=>decide (kv.1=k))=true then kvs.map (λkv=>if kv.1=k then(kv.1,v) else kv) else kvs++[(k,v)]
theorem jJ(k:κ):∀kvs:List (κ×V),(kvs.any λg=>decide (g.1=k))=(cF kvs k).isSome
 |[]=>rfl
 |p::r=>by
  rw[Ş]
  by_cases e:p.1=k
  .simp only[eE e,decide_eq_true e,Bool.true_or,Option.isSome_some]
  .rw[eF e,decide_eq_false e,weT];exact jJ k r
theorem jK(kvs:List (κ×V))(k:κ)(v:V):(putK kvs k v).9<=kvs.9+1:=by
 unfold putK;split
 .rw[À];lia
 .rw[Ì,õ,wfK];lia
theorem cR{kvs:List (κ×V)}{k:κ}(v:V)(h:cF kvs k=τ):putK kvs k v=kvs++[(k,v)]:=by simp_all [putK,jJ,if_neg]
theorem KV.any{kvs:List (κ×V)}{vs:List (κ×Value)}(r:KV kvs vs)(k:κ):(kvs.any λg=>decide (g.1=k))=vs.any λg=>decide (g.1=k):=by
 unfold KV at r
 induction r with
 |nil=>rfl
 |cons h t a=>rw[Ş,Ş,a,h.1]
theorem KV.put{kvs:List (κ×V)}{vs:List (κ×Value)}(r:KV kvs vs)(k:κ){y:V}{u:Value}(g:RelV y u):KV (putK kvs k y) (stored vs k u):=by
 unfold putK stored;rw[r.any k]
 by_cases e:(vs.any λa=>decide (a.1=k))=true
 .rw[if_pos e,if_pos e];exact r.repl k g
 .rw[if_neg e,if_neg e];exact Paired.snoc r ⟨rfl,g⟩
end
section
variable{K:Á}
theorem KT.put{H:Hp}{kvs:List (List Key×V)}{xs:List (List Key×Addr×Value)}(r:KT H kvs xs)(k:List Key){b:Addr}{y:V}{u:Value}(j:H b=ρ (.tup (k.map kV)))(g:RelV y u) :
 KT H (putK kvs k y) (storedH xs k b u):=by
 have e:(kvs.any λa=>decide (a.1=k))=(atKey xs k).isSome:=by
  rw[jJ,(r.val k).iz,wf2]
 unfold putK storedH;rw[e]
 by_cases q:(atKey xs k).isSome=true
 .rw[if_pos q,if_pos q];exact r.repl k g
 .rw[if_neg q,if_neg q];exact Paired.snoc r ⟨rfl,j,g⟩
def gX(H:Hp)(a:Addr)(y v:V)(H':Hp):Prop:=
 (∃kvs k,H a=ρ (.dK kvs)/\y=kV k/\kvs.9<sizeLine/\H'=upd H a (.dK (putK kvs k v))) \/
 ∃kvs k b,H a=ρ (.dT kvs)/\y=.ref b/\H b=ρ (.tup (k.map kV))/\kvs.9<sizeLine/\H'=upd H a (.dT (putK kvs k v))
theorem gX.k{H:Hp}{a:Addr}{kvs:List (Key×V)}{k:Key}{v:V}(e:H a=ρ (.dK kvs))(hl:kvs.9<sizeLine):gX H a (kV k) v (upd H a (.dK (putK kvs k v))):=.inl ⟨kvs,k,e,rfl,hl,rfl⟩
noncomputable def ia(kvs more:List (Key×V)):List (Key×V):=more.foldl (λacc kv=>putK acc kv.1 kv.2) kvs
theorem KV.merge:∀{more:List (Key×V)} {g:List (Key×Value)} {kvs:List (Key×V)} {vs:List (Key×Value)},KV more g->KV kvs vs->KV (ia kvs more) (merged vs g):=by
 intro more g kvs vs r;unfold KV at r
 induction r generalizing kvs vs with
 |nil=>intro q;exact q
 |@cons p q ps c h t a=>
  intro b
  have e:KV (putK kvs p.1 p.2) (stored vs q.1 q.2):=by
   have:=b.put p.1 h.2;rw[<-h.1];exact this
  exact a e
theorem uj:∀(more kvs:List (Key×V)),(ia kvs more).9<=kvs.9+more.9:=by intro more;induction more<;>grind [putK,jK,ia,õ]
def MS(Qi:List (TE×TE)):TE:=λσ H Q=>∀p,H p=τ->zz Qi σ (upd H p (.dK [])) λps H2=>H2 p=ρ (.dK [])/\∃kvs:List (Key×V),ps=kvs.map (λkv=>(kV kv.1,kv.2))/\kvs.9<=15/\Q (.ref p) (upd H2 p (.dK (ia [] kvs)))
theorem xK.binds{x g:Str}{st:Stmt}{f:Addr}{fd:ì}{ps:List Str}(F:xK K x g st f fd)
 (h:∀(kV j pm:Value) (o:Option Addr) (l ct:Value) (us:List Value),us.9=ps.9->bindArgs (Į x g (cH st) (bL st) (ay st) .none kV j pm o l ct) {us,[]}=pure (ps.zip us)):Binds K fd ps []:=by
 let{c,d,kV,j,pm,o,l,ct,a,rfl,lk,b}:=F.ex
 exact .all (h kV j pm o l ct)
theorem E4{x g:Str}{st:Stmt}{f:Addr}{t:Value}{od r:Option Addr}{p:Array (Option Value)}{kV o pm j ct:Value}(l:K.lookup f=ρ {t,od,.func (Į x g (cH st) (bL st) (ay st) .none kV o pm r j ct),p})
 (c:Χ K j g=true) (k:Ś K (.ref f)=true):xK K x g st f (Į x g (cH st) (bL st) (ay st) .none kV o pm r j ct):={⟨t,od,kV,o,pm,r,j,ct,p,rfl,l,c⟩,k}
theorem md:∀{names:List (Str×Ŏ)} (g:List (Str×Addr)),(∀y∈names,y.2=.free->∃c,env.cells.lookup y.1=ρ c)->(∀y c,g.lookup y=ρ c->env.cells.lookup y=ρ c) ->
 ∃cl:List (Str×Addr),(forIn names g (λ(x:Str×Ŏ) p=>(match x with |(name,kind)=>if kind == .free then do let c <-cellOf env name;pure (ž ((name,c)::p)) else pure (ž p):Sem (ForInStep (List (Str×Addr))))))=pure cl /\
  (∀y c,cl.lookup y=ρ c->env.cells.lookup y=ρ c)/\(∀y c,g.lookup y=ρ c->∃j,cl.lookup y=ρ j)/\∀y∈names,y.2=.free->∃c,cl.lookup y.1=ρ c
 |[],g,_,ha=>{g,rfl,ha,λy c e=>⟨c,e⟩,λ_ h=>nomatch h}
 |(n,k)::r,g,f,ha=>by
  rw[List.forIn_cons]
  by_cases hk:k=.free
  .let{c,hc}:=f (n,k) Ø hk
   have i:(k==Ŕ)=true:=by rw[hk];rfl
   let{cl,l,m,d,o}:=md (env:=env) (names:=r) ((n,c)::g) (λy a=>f y (Ô _ a)) (λy j e=>by
    rw[wdh]at e
    cases q:y==n with
    |true=>
     rw[q]at e;have:c=j:=Î e;subst this;have:y=n:=eq_of_beq q;subst this;exact hc
    |false=>
     rw[q]at e
     exact ha y j e)
   refine{cl,?_,m,λy j e=>?_,λy a b=>?_}
   .rw[<-l];simp only[i,if_true];have s:cellOf env n=pure c:=by unfold cellOf;rw[hc]
    rw[s];rfl
   .by_cases q:y=n
    .subst q;exact d y c (by simp[wdh])
    .refine d y j ?_;have:(y==n)=false:=beq_eq_false_iff_ne.mpr q;rw[wdh,this];exact e
   .rcases æ.mp a with rfl |a
    .exact d n c (by simp[wdh])
    .exact o y a b
  .have i:(k==Ŕ)=false:=by simpa using hk
   let{cl,l,m,d,o}:=md (env:=env) (names:=r) g (λy a=>f y (Ô _ a)) ha
   refine{cl,?_,m,d,λy a b=>?_}
   .rw[<-l];simp only[i,ŋ,if_false];rfl
   .rcases æ.mp a with rfl |a
    .exact absurd b hk
    .exact o y a b
theorem lu(g:∀y∈scope.names,y.2=.free->∃c,env.cells.lookup y.1=ρ c) :
 ∃cl,closureFor scope env=pure cl/\(∀y c,cl.lookup y=ρ c->env.cells.lookup y=ρ c)/\∀y∈scope.names,y.2=.free->∃c,cl.lookup y.1=ρ c:=by
 let{cl,b,d,_,f}:=md (env:=env) (names:=scope.names) [] g (λy c e=>by simp at e)
 refine{cl,?_,d,f};simp only[closureFor]
 first
  |(rw[b];rfl)
  |(have a:=b;simp only at a ⊢;rw[a];rfl)
  |(refine ĳ (congrArg (λm=>m >>= λh=>pure h) ?_) ?_;exact pure cl;exact b;rfl)
theorem wB(g:∀y∈scope.names,y.2≠.cell)(h:(relabel scope env).names.lookup x=ρ .cell\/(relabel scope env).names.lookup x=ρ .free):∃k,(x,k)∈scope.names/\k=Ŕ:=by
 unfold relabel at h;dsimp only at h
 have key:∀(names:List (Str×Ŏ)),(∀y∈names,y.2≠.cell) ->
  ((names.map λ(n,k)=>if (k==Ŕ&&env.scope.kind == .function&&env.kindOf n==ρ .cell) then(n,weU) else(n,k)).lookup x=ρ .cell \/
   (names.map λ(n,k)=>if (k==Ŕ&&env.scope.kind == .function&&env.kindOf n==ρ .cell) then(n,weU) else(n,k)).lookup x=ρ .free)->∃k,(x,k)∈names/\k=Ŕ:=by
  intro names
  induction names with
  |nil=>grind
  |cons y r a=>
   grind
 exact key scope.names g h
theorem rA(h:scope.names.lookup x=ρ .free):(relabel scope env).names.lookup x=ρ .cell\/(relabel scope env).names.lookup x=ρ .free:=by
 unfold relabel;dsimp only
 have key:∀(names:List (Str×Ŏ)),names.lookup x=ρ .free ->
  ((names.map λ(n,k)=>if (k==Ŕ&&env.scope.kind == .function&&env.kindOf n==ρ .cell) then(n,weU) else(n,k)).lookup x=ρ .cell \/
   (names.map λ(n,k)=>if (k==Ŕ&&env.scope.kind == .function&&env.kindOf n==ρ .cell) then(n,weU) else(n,k)).lookup x=ρ .free):=by
  intro names
  induction names with
  |nil=>grind
  |cons y r a=>
   grind
 exact key scope.names h
theorem E5(hk:kvs.map (·.1)=g.map (Ã:Str->Key))(rel:KV kvs vs)(hl:us.9=vs.9)
 (l:∀(j:Nat) (u:Value),us[j]?=ρ u->∃k x,vs[j]?=ρ (k,x)/\(b8 P w).is k u=true):StrsAre us g:=by
 have e:vs.map (·.1)=g.map (Ã:Str->Key):=rel.keys ▸ hk;clear hk rel
 induction g generalizing us vs with
 |nil=>
  have:vs=[]:=by cases vs with |nil=>rfl |cons a b=>simp at e
  subst this;have:us=[]:=wfw.mp hl;subst this;exact .nil
 |cons k g i=>
  cases vs with
  |nil=>simp at e
  |cons v vs=>
   cases us with
   |nil=>simp at hl
   |cons u us=>
    rw[Ñ,Ñ]at e;injection e with m n
    let{f,x,o,p}:=l 0 u rfl
    have c:v=(f,x):=by simpa using o
    subst c;have d:f=(Ã k:Key):=m;subst d
    let{t,rfl}:=wgB (x:=k) (v:=u) p
    exact .cons k t (i (by simpa using hl) (λj q h=>l (j+1) q (by simpa using h)) n)
theorem uZ:∀{kvs:List (Key×V)} {vs:List (Key×Value)} {us:List Value},KV kvs vs->us.9=vs.9 ->
 (∀(j:Nat) (u:Value),us[j]?=ρ u->∃k x,vs[j]?=ρ (k,x)/\(b8 P w).is k u=true)->Vals (kvs.map λg=>kV g.1) us
 |_,_,us,.nil,hl,_=>by
  have:us=[]:=wfw.mp hl;subst this;exact .nil
 |_,_,us,.cons (a:=p) (b:=q) r t,hl,d=>by
  cases us with
  |nil=>simp at hl
  |cons u us=>
   let{f,x,l,m}:=d 0 u rfl
   have c:q=(f,x):=by simpa using l
   subst c;refine .cons ?_ (uZ t (by simpa using hl) λj n h=>d (j+1) n (by simpa using h));have e:p.1=f:=r.1;show RelV (kV p.1) u;rw[e];rcases bD m with⟨i,t,rfl,rfl⟩ |⟨y,t,rfl,rfl⟩
   .exact⟨t,rfl⟩
   .exact⟨t,rfl⟩
noncomputable def pq(σ:List Str)(v:Str):List Str:=if σ.any (· == v)=true then σ else σ++[v]
noncomputable def cx(val:Nat->Str)(i:Nat):List Str:=((Ü i).map val).foldl pq []
theorem gZ(val:Nat->Str)(i:Nat):cx val (i+1)=pq (cx val i) (val i):=by
 unfold cx;rw[wdv,Ò,wd8];rfl
theorem va(val:Nat->Str):∀i,(cx val i).9<=i
 |0=>Å _
 |i+1=>by
  rw[gZ];unfold pq;have a:=va val i;split
  .lia
  .grind
theorem C1(σ:List Str)(v k:Str):(pq σ v).any (· == k)=(σ.any (· == k) ||decide (k=v)):=by
 unfold pq
 by_cases h:σ.any (· == v)=true
 .rw[if_pos h]
  by_cases e:k=v
  .subst e;rw[h];simp
  .simp[e]
 .rw[if_neg h,List.any_append]
  by_cases e:k=v
  .subst e;simp
  .have a:(v==k)=false:=by simpa [beq_iff_eq] using(λb:v=k=>e b.symm)
   simp[a,e]
theorem wC(σ:List Str)(v:Str):(pq σ v).9=if σ.any (· == v) then σ.length else σ.9+1:=by
 unfold pq;split<;>simp
theorem zF{X:Cx}(g:X.env.scope=sc)(o:X.N=N)(h:mc sc scope N x ys l=true):bH X scope x ys l:=by
 unfold mc at h;simp only[Ď]at h
 let{{{{{{{b,d},f},k},m},n},p},r}:=h
 refine{?_,λy a=>?_,λy a e=>?_,of_decide_eq_true m,λy a e=>?_,of_decide_eq_true n,of_decide_eq_true p,λj y c=>?_}
 .cases e:scope.kind<;>rw[e]at b<;>first |rfl |cases b
 .have:=ø.mp d y a;simpa using this
 .have:=ø.mp f y a;simpa [e] using this
 .have:=ø.mp k y a;have q:sc.names.lookup y.1=ρ .cell\/sc.names.lookup y.1=ρ .free:=by simpa [e] using this
  show X.env.scope.names.lookup y.1=ρ .cell\/X.env.scope.names.lookup y.1=ρ .free;rw[g];exact q
 .have hl:j<ys.9:=(Ö.mp c).1;have:=ø.mp r j (Ą.mpr hl);rw[c]at this
  cases e:l[j]? with
  |none=>rw[e]at this;cases this
  |some i=>
   rw[e]at this;simp only[Ď,whB,decide_eq_true_eq]at this;exact{i,rfl,by rw[o];exact this.1.1,by rw[g];exact this.1.2,this.2}
noncomputable def jf(ks:List Str):List (Key×V):=ks.map λk=>((Ã k:Key),V.bl true)
theorem zG(g:List Str):(jf g).map (·.1)=g.map (Ã:Str->Key):=by
 unfold jf;rw[Ê];rfl
theorem C2(g:List Str):(jf g).9=g.9:=by unfold jf;rw[À]
noncomputable def gv(es:List (Key×V))(Kk:List Str):Bool:=(es.map (·.2)).any λe=>mL e (Kk.map V.str)
theorem E6{e:V}{a b:List Str}(h:∀k∈a,k∈b)(q:mL e (a.map V.str)=true):mL e (b.map V.str)=true:=by grind [mL]
theorem rB{g:List (Key×V)}{a b:List Str}(h:∀k∈a,k∈b)(q:gv g a=true):gv g b=true:=by
 unfold gv at q ⊢
 let{y,c,d}:=ğ.mp q
 exact ğ.mpr {y,c,E6 h d}
structure qx(ks:List Str)(es:Str->List (Key×V))(ls:List Str):Prop where
 sub:ls.Sublist ks
 MT:∀k∈ls,gv (es k) ls=true
 most:∀Kk:List Str,(∀k∈Kk,k∈ks/\gv (es k) Kk=true)->∀k∈Kk,k∈ls
theorem di(h:k∈mv.map (·.1)):∃a,(k,a)∈mv/\cF (aR mv) (Ã k:Key)=ρ (.ref a):=by
 induction mv with
 |nil=>simp at h
 |cons m mv b=>
  grind [eE,aR,eF]
noncomputable def roundF(ss:List Str)(es:Str->List (Key×V))(Kk:List Str):List Str:=ss.filter λp=>gv (es p) Kk
noncomputable def rounds(ss:List Str)(es:Str->List (Key×V)):Nat->List Str
 |0=>ss
 |n+1=>roundF ss es (rounds ss es n)
theorem GK.low{lo j:Nat}{H:Hp}{h:Heap}{e C:Addr}{od:Option Addr}(F:GK lo H h e C od)(hl:j<=lo):GK j H h e C od:=by
 let{g,n,i,sl,k,l,f}:=F
 refine{Ï hl g,n,i,sl,k,l,?_};rcases f with f |⟨T,m,o,a,b,c,d⟩
 .exact .inl f
 .exact .inr {T,m,o,a,Ï hl b,c,d}
theorem cB.f{H:Hp}{a:Addr}{o:Obj}{kvs:List (Key×V)}{k:Key}(e:H a=ρ (.frz o (.dK kvs))):cB H a (kV k) (cF kvs k):=.inl {kvs,k,.inr ⟨o,e⟩,rfl,rfl}
noncomputable def oE(f:Str->V)(ks:List Str):List (Key×V):=ks.map λp=>((Ã p:Key),f p)
theorem rD(f:Str->V)(h:k∈g):cF (oE f g) (Ã k:Key)=ρ (f k):=by
 induction g with
 |nil=>simp at h
 |cons j g a=>
  by_cases e:j=k
  .subst e;exact eE rfl
  .unfold oE;rw[Ñ,eF (λz=>e (Ģ z))];exact a (by grind)
theorem xN(f:Str->V)(g:List Str):(oE f g).9=g.9:=by unfold oE;rw[À]
theorem vc(f:Str->V)(g:List Str)(k:Str):oE f (g++[k])=oE f g++[((Ã k:Key),f k)]:=by unfold oE;rw[Ò];rfl
noncomputable def Hs(f:Str->Int):V->V:=λv=>match v with
 |.str z=>.int (f z)
 |_=>.non
theorem oF(f:Str->Int)(g:List Str):(g.map V.str).map (Hs f)=(g.map f).map V.int:=by
 rw[Ê,Ê];rfl
theorem xO{R:It->Hp->Prop}(h:g d=ρ (.dK kvs)\/∃o,g d=ρ (.frz o (.dK kvs)))
 (k:∀o j,j d=ρ (.frz o (.dK kvs))->(∀c,c≠d->j c=g c)->R (Hr d o kvs) j) :
 (g d=ρ (.dK kvs)/\∀o,R (Hr d o kvs) (upd g d (.frz o (.dK kvs))))\/∃o,g d=ρ (.frz o (.dK kvs))/\R (Hr d o kvs) g:=by
 rcases h with h |⟨o,h⟩
 .exact .inl {h,λo=>k o _ a5 λc hc=>aa hc}
 .exact .inr {o,h,k o _ h λc _=>rfl}
theorem bX.keep(t:bX H j g)(k:∀r xs,H r=ρ (.tup xs)->l r=ρ (.tup xs)):bX l j g:={t.1,λi r xs a b=>k _ _ (t.2 i r xs a b)}
theorem cB.rd{H:Hp}{a:Addr}{kvs:List (Key×V)}{k:Key}(e:Rd H a (.dK kvs)):cB H a (kV k) (cF kvs k):=.inl ⟨kvs,k,e,rfl,rfl⟩
theorem C3(h:ry kvs=true)(e:cF kvs k=ρ v):cZ v=true:=by
 unfold cF at e
 cases q:kvs.find? λa=>decide (a.1=k) with
 |none=>rw[q]at e;cases e
 |some a=>
  rw[q]at e;have:=ø.mp h a (List.mem_of_find?_eq_some q);cases e;exact this
theorem me{α:Type}(p:Nat->Bool)(x:α):∀(k:Nat) (xs:List α),b6 p k (xs++[x])=b6 p k xs++(if p (k+xs.9) then[x] else[])
 |k,[]=>by
  show (if p k then x::[] else[])=[]++_;rw[whC];rfl
 |k,y::xs=>by
  have e:k+(y::xs).9=k+1+xs.9:=by grind
  rw[e];show (if p k then y::b6 p (k+1) (xs++[x]) else b6 p (k+1) (xs++[x]))=(if p k then y::b6 p (k+1) xs else b6 p (k+1) xs)++_;rw[me p x (k+1) xs];cases p k<;>rfl
theorem kJ{α:Type}(p:Nat->Bool):∀(k:Nat) (xs:List α),(b6 p k xs).9<=xs.9
 |_,[]=>Å _
 |k,x::xs=>by
  have:=kJ p (k+1) xs;show (if p k then x::b6 p (k+1) xs else b6 p (k+1) xs).9<=xs.9+1
  cases p k with
  |true=>grind
  |false=>grind
theorem vd{α β:Type}(f:α->β)(p:Nat->Bool):∀(k:Nat) (xs:List α),b6 p k (xs.map f)=(b6 p k xs).map f
 |_,[]=>rfl
 |k,x::xs=>by
  show (if p k then f x::b6 p (k+1) (xs.map f) else b6 p (k+1) (xs.map f))=(if p k then x::b6 p (k+1) xs else b6 p (k+1) xs).map f;rw[vd f p (k+1) xs];cases p k<;>rfl
theorem under(n:Nat){P:Int->Prop}(h:∀k:Fin n,P ((k.val:Nat):Int))(d:Int)(a:0<=d)(b:d<(n:Int)):P d:=by
 let{k,rfl}:=wfx a
 exact h {k,Int.ofNat_lt.mp b}
theorem ak{X:Cx}(ys:List Str)(ix:List Nat)(h:mc X.env.scope scope X.N x ys ix=true:=by kernel_rfl):bH X scope x ys ix:=zF rfl rfl h
end
section
variable{M:Model}{A:Around}{E:Value->Shared->Prop}{s:Shared}{base:Heap}{env:Env}{outer:List Env}{L e C:Addr}{od:Option Addr}{lo:Nat}{H:Hp}
structure E7(lo:Nat)(H:Hp)(fs:List Addr)(h h':Heap):Prop where
 keep:∀b o,h.get? b=ρ o->(b<lo\/H b≠τ)->b∉fs->h'.get? b=ρ o
 slot:∀b o,h.get? b=ρ o->b∈fs->∃sl,h'.get? b=ρ {o with slots:=sl}
theorem ve{Q:Unit->Shared->Prop}
 (MU:A.frames=ρ (env::outer)) (hl:s.heap.FunFrames base (env::outer)) (hf:env.frame=ρ L) (MV:lo<=s.8) (MX:∀b,s.8<=b->H b=τ) (T9:lo<=e) (Ta:H e=τ)
 (he:s.heap.get? e=ρ oe) (zo:oe.cls=.ref C) (Tb:oe.dict=od) (hd:oe.data=.fields vs) (hsz:1<vs.size)
 (h:∀h',GK lo H h' e C od->E7 lo H ((env::outer).filterMap (·.frame)) s.heap h'->Q .unit {s with heap:=h'}) :
 wpAny M A (do let a <-frameOf env;let pl <-entryPlaceOf L OZ;let b <-wgC head a .none (rawInt L) .none pl;setField (.ref e) 1 b) (λ_ s'=>wpAny M A (΢ (.ref e) τ) Q E s') E s:=by
 have MY:e∉(env::outer).filterMap (·.frame):=λhm=>by
  let{_,o,ho,Qj}:=hl.mem hm
  rw[he]at ho;injection ho with ho;subst ho;exact Qj vs hd
 refine Â (wpAny_frameOf_fun MU hl hf λh₁ MZ=>?_);refine Â (wpAny_entryPlaceOf λpl hpl=>?_);unfold wgC newFields;refine Â (wf3 ?_ (hpl.sizeOk5 _ _ _ _ _));have Tc:h₁.get? e=ρ oe:=(MZ.2.1 e MY).trans he;have Td:=Ð (h:=h₁) {cls:=.type "traceback",dict:=τ,data:=.fields ([head,.ref L,.none,rawInt L,.none]++(if pl.isEmpty then ë 6 ā else pl)).6} Tc;refine weF Td hd hsz ?_;have Qk:h₁.objs.size≠e:=Ķ (Ë Tc);have Te:=Ε hd (·.setIfInBounds 1 (Æ h₁.7));have Tf:=Ő (ū (·.setIfInBounds 1 (Æ h₁.7))) Td (we7 Te)
 have Tg:=(Ċ (h₁.push {cls:=.type "traceback",dict:=τ,data:=.fields ([head,.ref L,.none,rawInt L,.none]++(if pl.isEmpty then ë 6 ā else pl)).6})
  (ū (·.setIfInBounds 1 (Æ h₁.7))) (è Qk)).trans (ã h₁ rfl)
 unfold ΢;refine Â (Ź Tf Te (x:=.ref h₁.7) (by simp[hsz]) ?_);rw[if_pos (show (Æ h₁.objs.size != ā)=true from by simp)];refine weF Tg rfl (by simp only[â,Ì,õ,wfK]<;>lia) (h _ ?_ ?_)
 .refine{T9,Ta,vs.setIfInBounds 1 (.ref h₁.7),oe.slots,?_,by simpa using hsz,.inr {h₁.7,_,_,by simp[hsz],by rw[MZ.1];exact MV,MX _ (by rw[MZ.1];exact Å _),Qk,
   Ő _ Tg (we7 (Ε rfl _)),Ε rfl _,by first |(simp;done) |(rcases hpl with rfl |⟨_,_,_,_,_,_,_,rfl⟩<;>simp)}}
  rw[Ċ _ _ Qk,Tf]
  let{c,d,dt,sl}:=oe
  dsimp only at zo Tb hd;subst zo Tb hd;rfl
 .have keep:∀b o,b≠e->h₁.get? b=ρ o ->
   (((h₁.push {cls:=.type "traceback",dict:=τ,data:=.fields ([head,.ref L,.none,rawInt L,.none]++(if pl.isEmpty then ë 6 ā else pl)).6}).update e (ū (·.setIfInBounds 1 (Æ h₁.7)))).update h₁.7
     (ū (·.setIfInBounds 3 ((τ:Option Addr).elim ā λf=>rawInt f)))).get? b=ρ o:=λb o VI hb=>by
   have VJ:h₁.objs.size≠b:=Ķ (Ë hb);rw[Ċ _ _ VJ,Ċ _ _ (è VI)];exact Ð _ hb
  refine{λb o hb hx Qj=>keep b o ?_ ((MZ.2.1 b Qj).trans hb),λb o hb hm=>?_}
  .rintro rfl;rcases hx with hx |hx
   .exact absurd (Þ hx T9) (þ _)
   .exact hx Ta
  .let{sl,hs}:=MZ.2.2 b o hb
   exact{sl,keep b _ (λz=>MY (z ▸ hm)) hs}
theorem xP{Q:Unit->Shared->Prop}(p:A.frames=ρ (env::outer))(hl:s.heap.FunFrames base (env::outer))(I:env.frame=ρ L)(r:lo<=s.8)(g:∀b,s.8<=b->H b=τ)
 (F:GK lo H s.heap e C od) (h:∀h',GK lo H h' e C od->E7 lo H ((env::outer).filterMap (·.frame)) s.heap h'->Q .unit {s with heap:=h'}) :
 wpAny M A (noteFrame (.ref e) env) (λ_ s'=>wpAny M A (΢ (.ref e) τ) Q E s') E s:=by
 let{m,n,z,sl,v,t,k}:=F
 unfold noteFrame;simp only[I];rcases k with k |⟨T,N,B,G,u,x,y,w,i,k⟩
 .refine Â (Ź v rfl k ?_);rw[if_neg ⋯];exact ve p hl I r g m n v rfl rfl rfl t h
 .refine Â (Ź v rfl G ?_);rw[if_pos (show (Æ T != ā)=true from by simp)];refine Â (Ź w i k ?_);rw[if_neg (show ¬((ā==rawInt L)=true) from by simp[rawInt])];refine Â (weF w i (weV.mp k).1 ?_);have other:∀b,b≠T->(s.heap.update T (ū (·.setIfInBounds 3 ā))).get? b=s.heap.get? b:=λb a=>Ċ _ _ (è a)
  have c:∀b o,s.heap.get? b=ρ o->(∀z,o.data≠.fields z)->b≠T:=λb o a d q=>by
   rw[q,w]at a;injection a with a;subst a;exact d B i
  have f:(s.heap.update T (ū (·.setIfInBounds 3 ā))).7=s.8:=Heap.size_after_update ..;refine ve (s:={s with heap:=s.heap.update T (ū (·.setIfInBounds 3 ā))}) p (hl.of_keeps λb o a d=>{o,(other b (c b o a d)).trans a,rfl}) I (by show lo<=_;rw[f];exact r) (λb a=>g b (by rw[<-f];exact a)) m n ((other e (è y)).trans v) rfl rfl rfl t λh' J P=>h h' J {λb o a l hn=>P.keep b o ((other b ?_).trans a) l hn,λb o a D=>P.slot b o ((other b ?_).trans a) D}
  .rintro rfl;rcases l with l |l
   .exact absurd (Þ l u) (þ _)
   .exact l x
  .rintro rfl
   let{_,O,j,d}:=hl.mem D
   rw[w]at j;injection j with j;subst j
   exact d B i
theorem zH{Q:Unit->Shared->Prop}(F:GK lo H s.heap e C od)(h:∀h',GK lo H h' e C od->(∀b o,s.heap.get? b=ρ o->(b<lo\/H b≠τ)->h'.get? b=ρ o)->Q .unit {s with heap:=h'}) :
 wpAny M A (΢ (.ref e) τ) Q E s:=by
 let{g,i,p,sl,n,j,f}:=F
 unfold ΢;rcases f with f |⟨T,v,u,r,a,k,l,t,d,f⟩
 .refine Â (Ź n rfl f ?_);rw[if_neg ⋯];exact Í (h _ {g,i,p,sl,n,j,.inl f} λb o q _=>q)
 .have c:3<u.size:=(weV.mp f).1;refine Â (Ź n rfl r ?_);rw[if_pos (show (Æ T != ā)=true from by simp)];refine weF t d c (h _ {g,i,p,sl,?_,j,.inr {T,_,_,r,a,k,l,Ő _ t (we7 (Ε d _)),Ε d _,by simp[c]}} λb o q m=>?_)
  .exact(Ċ _ _ l).trans n
  .refine(Ċ _ _ ?_).trans q;rintro rfl;rcases m with m |m
   .exact absurd (Þ m a) (þ _)
   .exact m k
end
section
variable{C:Addr}{sp:Sp}{x:Str}{t:TA}
noncomputable def Kl(sp:Sp)(t:TA):MH:=λE σ H Q=>t σ H λvs H1=>sp vs H1 Q E
noncomputable def Km(C:Addr)(sp:Sp)(t:TA):MH:=λE σ H Q=>t σ H λvs H1=>∀x dx,H1 x=τ->H1 dx=τ->dx≠x ->
 sp (.ref x::vs) (upd (upd H1 dx (.own x)) x (.ins C dx [])) (λv H2=>v=.non/\Q (.ref x) H2) E
inductive Ql(K:Á)(x y:V)(H:Hp)(Q:VK):Prop
 |mk (a b xs) (_:x=.ref a) (_:y=.ref b) (_:aG K H a xs) (_:aG K H b []) (_:Q (.bl (!xs.isEmpty)) H)
end
section
variable(P:É)(w:World)
def bq(H:Hp)(h:Heap)(a:Addr):HO->Prop
 |.lst xs=>xs.9<=sizeLine/\∃(its:List Value) (n:Nat),Vals xs its/\h.get? a=ρ {cls:=.type "list",data:=.seq its.toArray n}
 |.tup xs=>xs.9<=sizeLine/\∃its:List Value,Vals xs its/\IsTup h a its.6
 |.dK kvs=>kvs.9<=sizeLine/\(a==ļ)=false/\∃vs,KV kvs vs/\h.DictOf (b8 P w) a vs
 |.dT kvs=>kvs.9<=sizeLine/\(a==ļ)=false/\∃xs:List (List Key×Addr×Value),
   Paired (λ(p:List Key×V) (q:List Key×Addr×Value)=>p.1=q.1/\H q.2.1=ρ (.tup (p.1.map kV))/\RelV p.2 q.2.2) kvs xs /\
   ∃o es ep,h.get? a=ρ o/\o.ExactDict/\o.data=.dict es ep/\es.toList=xs.map (entryOfKey (γ (b8 P w)))/\(xs.map (·.1)).Nodup
 |.set S n=>h.SetOf (intKind P w) a S n
 |.ins C dx fs=>H dx=ρ (.own a)/\fs.9<=1000/\dx≠a/\h.get? a=ρ (ŗ C dx) /\
   ∃mA,h.Ns1 dx mA/\(∀f,gV (fs.lookup f) (mA f))/\ζ mA (fs.map (·.1))
 |.own _=>∃o,h.get? a=ρ o
 |.xd fs=>∃mA,h.Ns1 a mA/\∀f,gV (fs.lookup f) (mA f)
 |.rng lo hi=>∃t u v,h.get? a=ρ {cls:=.type "range",data:=.fields #[.int lo t,.int hi u,.int 1 v]}
 |.frz o u=>h.get? a=ρ o/\bq H h a u
 |.tbl ps=>h.get? a=ρ {cls:=.none,data:=.fields ps}
 |.met f x=>h.get? a=ρ (wf4 (.ref f) (.ref x))
 |.ext φ=>φ h/\(∃o,h.get? a=ρ o)/\∀h1 h2:Heap,φ h1->(∀o,h1.get? a=ρ o->h2.get? a=ρ o)->φ h2
def iT(H:Hp)(h:Heap):Prop:=∀a o,H a=ρ o->bq P w H h a o
end
section
variable{te:TE}{tl th:TO}
theorem Rd.ok{P:É}{w:World}{H:Hp}{h:Heap}{a:Addr}{u:HO}(r:Rd H a u)(x:iT P w H h):bq P w H h a u:=by
 rcases r with r |⟨o,r⟩
 .exact x a u r
 .let{_,q}:=x a _ r
  exact q
structure Inv(X:Cx)(pins:List (Addr×Obj))(σ:List (Option V))(H:Hp)(s:Shared):Prop where
 ok:X.Ok
 os:s.os=X.s₀.os
 bare:AllBare s.gens
 base:Un X.fs X.ex X.H₀ H X.s₀.heap s.heap
 loc:∃m,s.heap.Ns X.env.locals m/\∀(i:Nat) (x:Str) (v:V),X.N[i]?=ρ x->σ[i]?=ρ (ρ v)->M0 X.env.scope x->∃u,RelV v u/\Look X.env s.heap m x u
 cell:∀x c,X.env.cells.lookup x=ρ c->∃v,s.heap.IsCell c v
 free:H X.env.locals=τ
 gx:∀x c,X.env.cells.lookup x=ρ c->H c=τ
 pin:∀p∈X.pn++pins,s.heap.get? p.1=ρ p.2/\H p.1=τ/\p.1≠X.env.locals/\p.1∉X.fs/\∀v,p.2.data≠.cell v
 aT:iT X.prog X.w H s.heap
 len:σ.9=X.N.9
def EP(X:Cx)(pins:List (Addr×Obj))(σ:St)(Q:VK)(u:Value)(s':Shared):Prop:=∃v H',Inv X pins σ H' s'/\RelV v u/\Q v H'
def TP(X:Cx)(pins:List (Addr×Obj))(σ:St)(Q:Bool->Hp->Prop)(b:Bool)(s':Shared):Prop:=∃H',Inv X pins σ H' s'/\Q b H'
def AP(X:Cx)(pins:List (Addr×Obj))(σ:St)(Q:List V->Hp->Prop)(us:List Value)(s':Shared):Prop:=∃vs H',Inv X pins σ H' s'/\Vals vs us/\Q vs H'
abbrev PE(X:Cx)(e:Expr)(t:TE):Prop:=Bx (∀(pins:List (Addr×Obj)) (s:Shared) (σ:St) (H:Hp) (Q:VK),Inv X pins σ H s->t σ H Q->wpAny (model X.prog X.w) X.A (eval e X.5) (EP X pins σ Q) X.xe s)
abbrev PT(X:Cx)(e:Expr)(t:TT):Prop:=Bx (∀(pins:List (Addr×Obj)) (s:Shared) (σ:St) (H:Hp) (Q:Bool->Hp->Prop),Inv X pins σ H s->t σ H Q->wpAny (model X.prog X.w) X.A (isTrue e X.env (eval e X.5)) (TP X pins σ Q) X.xe s)
abbrev PW(X:Cx)(e:Expr)(t:TT):Prop:=Bx (∀(whole:Sem Value) (pins:List (Addr×Obj)) (s:Shared) (σ:St) (H:Hp) (Q:Bool->Hp->Prop),Inv X pins σ H s->t σ H Q->wpAny (model X.prog X.w) X.A (isTrue e X.env whole) (TP X pins σ Q) X.xe s)
theorem PW.pt{X:Cx}{e:Expr}{t:TT}(h:PW X e t):PT X e t:={h _}
abbrev PA(X:Cx)(es:List Expr)(t:TA):Prop:=Bx (∀(pos:Pos) (pins:List (Addr×Obj)) (s:Shared) (σ:St) (H:Hp) (Q:List V->Hp->Prop),Inv X pins σ H s->t σ H Q->wpAny (model X.prog X.w) X.A (spliced (backTo pos (starEach es X.5))) (AP X pins σ Q) X.xe s)
abbrev PG(X:Cx)(target:Expr)(t:TG):Prop:=Bx (∀(pins:List (Addr×Obj)) (s:Shared) (σ:St) (H:Hp) (v:V) (u:Value) (Q:St->Hp->Prop),Inv X pins σ H s->RelV v u->t v σ H Q ->
  wpAny (model X.prog X.w) X.A (assign target X.env u) (λ_ s'=>∃σ' H',Inv X pins σ' H' s'/\Q σ' H') X.xe s)
abbrev P0(X:Cx)(ts:List Expr)(t:OW):Prop:=Bx (∀(pins:List (Addr×Obj)) (s:Shared) (σ:St) (H:Hp) (vs:List V) (us:List Value) (Q:St->Hp->Prop),Inv X pins σ H s->Vals vs us->t vs σ H Q ->
  wpAny (model X.prog X.w) X.A (assignInOrder ((ŏ ts X.5).map (·.2)) us) (λ_ s'=>∃σ' H',Inv X pins σ' H' s'/\Q σ' H') X.xe s)
def N0(X:Cx)(t:K8):Prop:=
 ∀(pins:List (Addr×Obj)) (s:Shared) (σ:St) (H:Hp) (o i v:V) (ov iv u:Value) (Q:Hp->Prop),Inv X pins σ H s->RelV o ov->RelV i iv->RelV v u->t o i v H Q ->
  wpAny (model X.prog X.w) X.A (setItem ov iv u) (λ_ s'=>∃H',Inv X pins σ H' s'/\Q H') X.xe s
def P4(X:Cx)(op:Operator)(t:Mp):Prop:=
 ∀(pins:List (Addr×Obj)) (s:Shared) (σ:St) (H:Hp) (x y:V) (v u:Value) (Q:VK),Inv X pins σ H s->RelV x v->RelV y u->t x y H Q ->
  wpAny (model X.prog X.w) X.A (inplaceOp op v u) (EP X pins σ Q) X.xe s
structure Turn(P:É)(w:World)(K:Á)(tg:Expr)(J:It)(fp:List Addr)(it:Addr)(tn:Nat->Heap->Prop):Prop where
 mem:it∈fp
 obj:∀i h,tn i h->∀b∈fp,∃o,h.get? b=ρ o/\∀v,o.data≠.cell v
 keep:∀i h h',tn i h->(∀b∈fp,∀o,h.get? b=ρ o->h'.get? b=ρ o)->tn i h'
 item:∀(X:Cx),X.prog=P->X.w=w->X.K=K->X.calm=true->∀(i:Nat) (pins:List (Addr×Obj)) (s:Shared) (σ:St) (H:Hp) (E:Value->Shared->Prop),Inv X pins σ H s->(∀b∈fp,ro X pins H b)->tn i s.heap->J.go i H ->
  wpAny (model P w) X.A (pyNext (.ref it)) (λr s1=>∃u,r=ρ u /\
   wpAny (model P w) X.A (wef tg (.ref it) u) (λ_ s2=>∃x H',Inv X pins σ H' s2/\RelV x u/\J.ug i H x H'/\tn (i+1) s2.heap/\∀b∈fp,H' b=τ) E s1) E s
 done:∀(X:Cx),X.prog=P->X.w=w->X.K=K->X.calm=true->∀(i:Nat) (pins:List (Addr×Obj)) (s:Shared) (σ:St) (H:Hp) (E:Value->Shared->Prop),Inv X pins σ H s->(∀b∈fp,ro X pins H b)->tn i s.heap->J.stop i H ->
   wpAny (model P w) X.A (pyNext (.ref it)) (λr s1=>r=τ/\Inv X pins σ H s1) E s
 self:∀(A:Around) (i:Nat) (s:Shared) (Q:Value->Shared->Prop) (E:Value->Shared->Prop),tn i s.heap->Q (.ref it) s->wpAny (model P w) A (pyIter (.ref it)) Q E s
def N1(X:Cx)(pins:List (Addr×Obj))(σ:St)(tg:Expr)(R:It->Hp->Prop)(Qm:Value)(s2:Shared):Prop:=
 ∃(it:Addr) (fp:List Addr) (tn:Nat->Heap->Prop) (J:It) (H':Hp),Qm=.ref it/\Inv X pins σ H' s2/\Turn X.prog X.w X.K tg J fp it tn/\tn 0 s2.heap/\(∀b∈fp,ro X pins H' b)/\R J H'
abbrev PI(X:Cx)(tg iter:Expr)(wi:TI):Prop:=Bx (∀(pins:List (Addr×Obj)) (s:Shared) (σ:St) (H:Hp) (R:It->Hp->Prop),Inv X pins σ H s->wi σ H R ->
  wpAny (model X.prog X.w) X.A (eval iter X.5) (λv s1=>wpAny (model X.prog X.w) X.A (pyIter v) (N1 X pins σ tg R) X.xe s1) X.xe s)
def jE(X:Cx)(f:Value->Value->Sem Value)(r:R2):Prop:=
 ∀(pins:List (Addr×Obj)) (s:Shared) (σ:St) (H:Hp) (x y:V) (v u:Value) (Q:VK),Inv X pins σ H s->RelV x v->RelV y u->r x y H Q ->
  wpAny (model X.prog X.w) X.A (f v u) (EP X pins σ Q) X.xe s
def Qn(X:Cx)(f:Value->Sem Value)(r:V->Hp->VK->Prop):Prop:=
 ∀(pins:List (Addr×Obj)) (s:Shared) (σ:St) (H:Hp) (x:V) (v:Value) (Q:VK),Inv X pins σ H s->RelV x v->r x H Q ->
  wpAny (model X.prog X.w) X.A (f v) (EP X pins σ Q) X.xe s
theorem Hh.ok{i j:Int}(h:Hh i j):IntMulOk i j:=by
 rcases h with⟨a,b⟩ |⟨a,b⟩
 .exact .of_left (intBits_le_64 a b)
 .exact .of_right (intBits_le_64 a b)
def CE(outer:List Env)(P:É)(w:World)(H:Hp)(s:Shared)(Q:VK)(u:Value)(s':Shared):Prop:=
 ∃v H',s'.os=s.os/\AllBare s'.gens/\Un (qu outer) [] H H' s.heap s'.heap/\iT P w H' s'.heap/\RelV v u/\Q v H'
def CR(CX:DC)(outer:List Env)(P:É)(w:World)(H:Hp)(s:Shared)(Q:VK)(E:XK)(r:ī)(s':Shared):Prop:=
 match r with
 |.ok (.ret u)=>CE outer P w H s Q u s'
 |.ok _=>False
 |.error e=>CX outer H s E e s'
abbrev PK(X:Cx)(VL:List ŭ)(t:TA):Prop:=Bx (∀(pos:Pos) (pins:List (Addr×Obj)) (s:Shared) (σ:St) (H:Hp) (Q:List V->Hp->Prop),Inv X pins σ H s->t σ H Q->wpAny (model X.prog X.w) X.A (evalAll ((backToKw pos (Ń VL X.5)).map (·.2))) (AP X pins σ Q) X.xe s)
abbrev PO(X:Cx)(e:Option Expr)(t:TO):Prop:=Bx (∀(pins:List (Addr×Obj)) (s:Shared) (σ:St) (H:Hp) (Q:Option Int->Hp->Prop),Inv X pins σ H s->t σ H Q ->
  wpAny (model X.prog X.w) X.A (evalPart e X.5) (λu s'=>∃o H',Inv X pins σ H' s'/\IsPart u o/\Q o H') X.xe s)
def VM(r:V->Option Int->Option Int->Hp->VK->Prop)(te:TE)(tl th:TO):TE:=λσ H Q=>te σ H λx H1=>tl σ H1 λl H2=>th σ H2 λu H3=>r x l u H3 Q
def M6(X:Cx)(r:R2):Prop:=
 ∀(value slice:Expr) (pins:List (Addr×Obj)) (s:Shared) (σ:St) (H:Hp) (x y:V) (v u:Value) (Q:VK),Inv X pins σ H s->RelV x v->RelV y u->r x y H Q ->
  wfU slice false v u=operate [v,u] (getItem v u)->wpAny (model X.prog X.w) X.A (wgx value slice v u) (EP X pins σ Q) X.xe s
theorem rE(h:Heap)(g:ļ<h.7):bq P w H (h.push {cls:=.type "dict",data:=.dict #[]}) h.objs.size (.dK []):=
 {à _,beq_eq_false_iff_ne.mpr (è (Ù g)),[],.nil,Heap.DictOf.new h}
abbrev P5(X:Cx)(pos:Pos)(keys:List (Option Expr))(values:List Expr)(Qi:List (TE×TE)):Prop:=Bx (∀(pins:List (Addr×Obj)) (s:Shared) (σ:St) (H:Hp) (Q:List (V×V)->Hp->Prop),Inv X pins σ H s->zz Qi σ H Q ->
  wpAny (model X.prog X.w) X.A (evalPairs (pairTrees keys values X.env pos)) (λvs s'=>∃ps H',Inv X pins σ H' s'/\VV ps vs/\Q ps H') X.xe s)
theorem qO{X:Cx}:P5 X pos [] [] []:={λa s σ H Q I h=>pairTrees_nil_walk {[],H,I,.nil,h}}
theorem mR{X:Cx}(hk:PE X k tk)(j:PE X v l)(o:P5 X pos p vs g) :
 P5 X pos (ρ k::p) (v::vs) ((tk,l)::g):={λa s σ H Q I h=>
 pairTrees_cons_walk (bG (hk a s σ H _ I h) λu b ⟨x,c,d,e,f⟩=>bG (j a b σ c _ d f) λA i ⟨y,m,n,q,r⟩=>
  bG (o a i σ m _ n r) λB C ⟨ps,t,w,rel,z⟩=>{(x,y)::ps,t,w,.cons ⟨e,q⟩ rel,z})}
noncomputable def xE(P:É)(w:World):DC:=λouter H s E ev s'=>∃e C od H',ev=.ref e/\s'.os=s.os/\AllBare s'.gens/\Un (qu outer) [] H H' s.heap s'.heap/\iT P w H' s'.heap/\GK s.heap.objs.size H' s'.heap e C od/\E (.ref C) od H'
def Be(X:Cx)(E:XK):Prop:=∀(pins:List (Addr×Obj)) (σ:St) (H:Hp) (s:Shared) (e C:Addr) (od:Option Addr),Inv X pins σ H s->GK X.s₀.heap.objs.size H s.heap e C od->E (.ref C) od H->X.xe (.ref e) s
abbrev PJ(X:Cx)(es:List Expr)(t:TJ):Prop:=Bx (∀(pins:List (Addr×Obj)) (s:Shared) (σ:St) (H:Hp) (acc:Str) (Q:Str->Hp->Prop),Inv X pins σ H s->t acc σ H Q ->
 wpAny (model X.prog X.w) X.A (joinParts acc (evalEach es X.5)) (λu s'=>∃z H',Inv X pins σ H' s'/\(∃tk,u=.str z tk)/\Q z H') X.xe s)
end
section
variable{X:Cx}{pins:List (Addr×Obj)}{σ:List (Option V)}{H H':Hp}{s:Shared}{h':Heap}
theorem Cx.Ok.Qo(ok:X.Ok)(e:X.base.get? b=ρ o):b∉X.fs:=λa=>by
 have:=(ok.mN.mem a).1;rw[e]at this;cases this
theorem Inv.bs(I:Inv X pins σ H s):∀b o,X.base.get? b=ρ o->s.heap.get? b=ρ o/\H b=τ:=λb o e=>
 {I.base.keep b o (I.ok.bs b o e).1 (I.ok.bs b o e).2 (I.ok.Qo e) (I.ok.zu b o e),I.base.free b o (I.ok.bs b o e).1 (I.ok.bs b o e).2 (I.ok.zu b o e)}
theorem Inv.bk(I:Inv X pins σ H s):∀b o,X.base.get? b=ρ o->s.heap.get? b=ρ o:=λb o e=>(I.bs b o e).1
theorem Inv.mod(I:Inv X pins σ H s):Mod X.K X.mg X.base:=I.ok.mod
theorem Inv.fP(I:Inv X pins σ H s):X.K.In s.heap:=I.ok.mod.Hd.keeps I.bk
theorem Inv.E8(I:Inv X pins σ H s):∀x c,X.env.cells.lookup x=ρ c->c≠X.env.locals:=λx c e z=>by
 let{v,o,d,hd}:=I.cell x c e
 let{m,{f,g,h,a,b,_},_}:=I.loc
 rw[z,a]at d;cases d;rw[b]at hd;cases hd
theorem Inv.mN(I:Inv X pins σ H s):s.heap.FunFrames X.base X.outer:=by
 have all:∀(l:List Env),(∀b∈qu l,b∈X.fs)->X.s₀.heap.FunFrames X.base l->s.heap.FunFrames X.base l:=by
  intro l
  induction l with
  |nil=>intro _ _;trivial
  |cons env r g=>
   intro f hl
   let{hk,{L,o,a,hn,h,hd},i}:=hl
   have c:L∈X.fs:=f L (by unfold qu;rw[Ġ,a];exact Ø)
   let{sl,e}:=I.base.slot L o h (I.ok.He L c) c λz=>I.ok.BW L z c
   exact{hk,{L,_,a,hn,e,hd},g (λb d=>f b (by unfold qu;rw[Ġ,a];exact Ô _ d)) i}
 exact all X.outer (λ_ d=>d) I.ok.mN
theorem Inv.stack(I:Inv X pins σ H s):s.heap.FunFrames X.base X.stack:=by
 rcases I.ok.M1 with e |⟨e,a⟩
 .rw[e];exact I.mN
 .rw[e]
  let{m,hn,_}:=I.loc
  refine .cons (by rw[I.ok.kind];decide) a hn ?_ I.mN;exact Heap.get?_none_of_le (Ï I.ok.DM I.ok.above)
theorem Inv.rF(I:Inv X pins σ H s):∀b∈qu X.stack,b∈X.env.locals::X.fs:=λb a=>by
 rcases I.ok.M1 with e |⟨e,c⟩
 .grind
 .grind [qu]
theorem Inv.qP(I:Inv X pins σ H s):∀b∈qu X.stack,H b=τ:=λb a=>by
 rcases æ.mp (I.rF b a) with e |a
 .rw[e];exact I.free
 .let{_,o,c,_}:=I.ok.mN.mem a
  exact I.base.free b o c (I.ok.He b a) λz=>I.ok.BW b z a
theorem Inv.step{g':Array ł}{t':Nat}{d':Drawn}{ch:List Addr}(I:Inv X pins σ H s)
 (g:∀b∈ch,(b∈X.ex\/X.s₀.8<=b)/\b≠X.env.locals/\(∀x c,X.env.cells.lookup x=ρ c->c≠b)/\∀p∈X.pn++pins,p.1≠b)
 (keep:∀b o,b≠X.env.locals->b∉X.fs->b∉ch->s.heap.get? b=ρ o->H b=τ->h'.get? b=ρ o)
 (slot:∀b o,b≠X.env.locals->b∈X.fs->b∉ch->s.heap.get? b=ρ o->H b=τ->∃sl,h'.get? b=ρ {o with slots:=sl}) (free:∀b o,b∉ch->s.heap.get? b=ρ o->H b=τ->H' b=τ)
 (there:∀b o,b∉ch->s.heap.get? b=ρ o->∃C,h'.get? b=ρ C)
 (oA:∀b xs,H b=ρ (.tup xs)->H' b=ρ (.tup xs)) (mM:∀b o u,H b=ρ (.frz o u)->H' b=ρ (.frz o u)) (oB:∀b ps,H b=ρ (.tbl ps)->∃more,H' b=ρ (.tbl (ps++more)))
 (ns:∀m,s.heap.Ns X.env.locals m->h'.Ns X.env.locals m) (aT:iT X.prog X.w H' h') (T:AllBare g') :
 Inv X pins σ H' {s with heap:=h',gens:=g',drawn:=d',toks:=t'}:=by
 have B:∀b o,X.s₀.heap.get? b=ρ o->b≠X.env.locals:=λb o e=>Ù (Þ (Ë e) I.ok.above)
 have j:∀b o,X.s₀.heap.get? b=ρ o->b∉X.ex->b∉ch:=λb o e a y=>by
  rcases(g b y).1 with z |z
  .exact a z
  .exact absurd (Þ (Ë e) z) (þ _)
 have f:∀x c,X.env.cells.lookup x=ρ c->∀v,s.heap.IsCell c v->h'.IsCell c v:=λx c e v ⟨o,A,hd⟩=>by
  have h:c∉ch:=λz=>(g c z).2.2.1 x c e rfl
  by_cases hc:c∈X.fs
  .let{sl,q}:=slot c o (I.E8 x c e) hc h A (I.gx x c e)
   exact{_,q,hd}
  .exact{o,keep c o (I.E8 x c e) hc h A (I.gx x c e),hd}
 refine{I.ok,I.os,T,{λb o e n y a=>?_,λb o e n y a=>?_,λb o e n a=>?_,λb o e a=>?_,λb xs e=>oA b xs (I.base.oA b xs e),λb o xs e=>mM b o xs (I.base.mM b o xs e),λb ps e=>?_},?_,λx c e=>?_,?_,λx c e=>?_,λp G=>?_,aT,I.len}
 .exact keep b o (B b o e) y (j b o e a) (I.base.keep b o e n y a) (I.base.free b o e n a)
 .let{sl,t}:=I.base.slot b o e n y a
  let{E,D}:=slot b _ (B b o e) y (j b o e a) t (I.base.free b o e n a)
  exact⟨E,D⟩
 .let{C,t}:=I.base.there b o e a
  exact free b C (j b o e a) t (I.base.free b o e n a)
 .let{C,t}:=I.base.there b o e a
  exact there b C (j b o e a) t
 .let{L,t}:=I.base.oB b ps e
  let{M,D}:=oB b _ t
  exact{L++M,by rw[D,Array.append_assoc]}
 .let{m,hn,hl}:=I.loc
  refine{m,ns m hn,λi x v t D N=>?_}
  let{u,r,l}:=hl i x v t D N
  refine{u,r,?_};rcases l with l |⟨k,c,e,z⟩
  .exact .inl l
  .exact .inr {k,c,e,f x c e _ z}
 .let{v,z}:=I.cell x c e
  exact{v,f x c e v z}
 .let{m,{o,_,_,A,_},_}:=I.loc
  exact free _ o (λz=>(g _ z).2.1 rfl) A I.free
 .let{v,o,A,hd}:=I.cell x c e
  exact free c o (λz=>(g c z).2.2.1 x c e rfl) A (I.gx x c e)
 .let{e,n,ne,J,d}:=I.pin p G
  have h:p.1∉ch:=λz=>(g p.1 z).2.2.2 p G rfl;exact{keep p.1 p.2 ne J h e n,free p.1 p.2 h e n,ne,J,d}
theorem Inv.un{t':Nat}(I:Inv X pins σ H s)(u:Un X.fs [] H H' s.heap h')(aT:iT X.prog X.w H' h'):Inv X pins σ H' {s with heap:=h',toks:=t'}:=by
 let{m,{o,k,l,g,r},_}:=id I.loc
 let{sl,h}:=u.any g I.free (by simp)
 exact I.step (g':=s.gens) (d':=s.drawn) (ch:=[]) (λ_ z=>nomatch z) (λb o _ c _ e n=>u.keep b o e n c (by simp)) (λb o _ c _ e n=>u.slot b o e n c (by simp)) (λb o _ e n=>u.free b o e n (by simp)) (λb o _ e=>u.there b o e (by simp)) u.oA u.mM u.oB (λp i=>by
  let{q,d,f,a,j}:=i
  rw[g]at a;cases a
  exact{_,d,f,h,j}) aT I.bare
theorem Inv.call{g':Array ł}{t':Nat}{d':Drawn}{ch:List Addr}(I:Inv X pins σ H s)(u:Un (qu X.stack) ch H H' s.heap h')(aT:iT X.prog X.w H' h')(j:AllBare g')
 (g:∀b∈ch,(b∈X.ex\/X.s₀.8<=b)/\b≠X.env.locals/\(∀x c,X.env.cells.lookup x=ρ c->c≠b)/\∀p∈X.pn++pins,p.1≠b) :
 Inv X pins σ H' {s with heap:=h',gens:=g',drawn:=d',toks:=t'}:=by
 let{m,{o,t,v,i,r},_}:=id I.loc
 let{sl,d}:=u.any i I.free λz=>(g _ z).2.1 rfl
 exact I.step (ch:=ch) g (λb o d k hc e n=>u.keep b o e n (λz=>(æ.mp (I.rF b z)).elim d k) hc) (λb o _ _ hc e n=>u.any e n hc) (λb o hc e n=>u.free b o e n hc) (λb o hc e=>u.there b o e hc) u.oA u.mM u.oB (λy l=>by
  let{A,f,h,a,q}:=l
  rw[i]at a;cases a
  exact{_,f,h,d,q}) aT j
theorem Inv.Bf(I:Inv X pins σ H s)(h:∀p∈g,s.heap.get? p.1=ρ p.2/\H p.1=τ/\p.1≠X.env.locals/\p.1∉X.fs/\∀v,p.2.data≠.cell v):Inv X g σ H s:=
 {I.ok,I.os,I.bare,I.base,I.loc,I.cell,I.free,I.gx,λp a=>(Ú.mp a).elim (λz=>I.pin p (Ĕ _ z)) (h p),I.aT,I.len}
theorem Inv.vf(I:Inv X pins σ H s)(j:s'.os=s.os)(u:Un (qu X.stack) ch H H' s.heap s'.heap)(aT:iT X.prog X.w H' s'.heap)(l:AllBare s'.gens)
 (g:∀b∈ch,(b∈X.ex\/X.s₀.8<=b)/\b≠X.env.locals/\(∀x c,X.env.cells.lookup x=ρ c->c≠b)/\∀p∈X.pn++pins,p.1≠b):Inv X pins σ H' s':=by
 let{h',g',d',t',a}:=s'
 have e:a=s.os:=j;subst e;exact I.call (g':=g') (t':=t') (d':=d') u aT l g
structure Ends where
 nx:St->Hp->Prop
 rt:VK
 bk:St->Hp->Prop:=λ_ _=>False
 ct:St->Hp->Prop:=λ_ _=>False
noncomputable abbrev Ends.Jz(D:Ends)(N:St->Hp->Prop):Ends:=⟨N,D.rt,D.bk,D.ct⟩
noncomputable abbrev Ends.lp(D:Ends)(N:St->Hp->Prop):Ends:=⟨N,D.rt,D.nx,N⟩
noncomputable abbrev TS:=Ends->St->Hp->Prop
theorem E9(j:X.N[i]?=ρ x)(o:M0 X.env.scope x)(hd:(x==("__debug__":Str))=false:=by decide)(g:(x==("__classdict__":Str))=false:=by decide):PE X (.Name x pos) (Hf i):=by
 refine{?_};intro b s σ H Q I h
 let{v,e,h}:=h
 let{m,hn,hl}:=I.loc
 let{u,r,l}:=hl i x v j e o
 have fin:EP X b σ Q u s:=⟨v,H,I,r,h⟩;rcases l with⟨hk,d⟩ |⟨hk,c,hc,a⟩
 .exact wpAny_Name (wgm I.ok.kind hk hn d fin) hd
 .rcases hk with hk |hk
  .exact wpAny_Name (wgD I.ok.kind hk hc a fin) hd
  .exact wpAny_Name (wpAny_loadName_free I.ok.kind hk hc a fin g) hd
theorem gy{b j pos}:PE X (.Constant (.bool b) j pos) (tC (.bl b)):={λ_ _ _ H _ I h=>Constant_bool {.bl b,H,I,rfl,h}}
theorem ib{j pos}:PE X (.Constant .none j pos) (tC .non):={λ_ _ _ H _ I h=>Constant_none {.non,H,I,rfl,h}}
def Kn:TS:=λ_ _ _=>False
theorem dQ:P0 X [] DN:=by
 refine{?_};intro a s σ H b c Q I r h
 let{e,h}:=h
 subst e;cases r;exact assignInOrder_nil ⟨σ,H,I,h⟩
theorem aV{e:Expr}{g:List Expr}{t:TG}{u:OW}(j:PG X e t)(l:P0 X g u)
 (hs:(ŏ (e::g) X.5).map (·.2)=assign e X.5::(ŏ g X.5).map (·.2):=by rfl):P0 X (e::g) (jF t u):=by
 refine{?_};intro a s σ H n o Q I r h
 let{v,p,c,h}:=h
 subst c
 cases r with
 |cons r d=>
  rw[hs];refine assignInOrder_cons (bG (j a s σ H _ _ _ I r h) λ_ f ⟨b,i,k,m⟩=>?_);exact l a f b i _ _ Q k d m
structure cG(k:Nat)(A:Around):Prop where
 hd:A.handled=τ
 dp:A.depth+3*k+5<recursionLimit
 un:A.units+16*k+200<ð
theorem cG.mono(r:cG k A)(h:j<=k):cG j A:={r.hd,by have:=r.dp;lia,by have:=r.un;lia}
theorem cG.deeper(r:cG (k+1) A)(env:Env):cG k (A.deeper env):=
 {r.hd,by have:=r.dp;show A.depth+1+3*k+5<_;lia,by have:=r.un;show A.units+3+16*k+200<_;lia}
theorem cG.make(r:cG (k+1) A)(C:Addr)(us:List Value)(g:List (Str×Value)):cG k (A.under (.builtin "type.__call__" {.ref C::us,g})):=
 {r.hd,by have:=r.dp;rw[zx];lia,by have:=r.un;rw[zy];lia}
theorem cG.depth(r:cG k A):A.depth<recursionLimit:=by have:=r.dp;lia
theorem cG.units(r:cG k A):A.units+64<ð:=by have:=r.un;lia
theorem cG.rG(r:cG k A):A.units<ð:=by have:=r.un;lia
theorem dW:PA X [] wo:={λ_ _ _ _ H Q I h=>wh5 {[],H,I,.nil,h}}
theorem fY:PO X τ Hi:=by
 refine{?_};intro a s σ H Q I h;rw[evalPart_none];exact Í {τ,H,I,.none,h}
theorem rH:∀{kvs:List (Key×V)} {ws:List (Value×Value)},VV (kvs.map λj=>(kV j.1,j.2)) ws->∃g,Carries (b8 P w) ws g/\KV kvs g
 |[],_,r=>by rw[Ο]at r;cases r;exact{[],ÿ,.nil}
 |p::kvs,_,r=>by
  rw[Ñ]at r
  cases r with
  |@cons a b as bs h t=>
   let{g,c,q}:=rH (P:=P) (w:=w) t
   let{e,d}:=b
   exact{(p.1,d)::g,{rq h.1,rfl,c},.cons ⟨rfl,h.2⟩ q}
theorem dG(g:cG k A):A.units+1<ð:=Ě (Nat.add_le_add_left (by decide:1<=64) _) g.units
theorem pv(i:Nat)(j:X.N[i]?=ρ x:=by rfl)(l:M0 X.env.scope x:=by first |exact ĥ rfl |exact Or.inr (ĥ rfl) |exact Or.inr (Or.inr rfl))(hd:(x==("__debug__":Str))=false:=by decide)
 (g:(x==("__classdict__":Str))=false:=by decide):PE X (.Name x pos) (Hf i):=E9 j l hd g
theorem pw:∀{us:List Value},Vals (bs.map V.bl) us->LSm.BoolsAre us bs:=by
 induction bs with
 |nil=>intro us r;rw[Ο]at r;cases r;exact .nil
 |cons n ns a=>
  intro us r;rw[Ñ]at r
  cases r with
  |cons b c=>
   cases b;exact .cons n (a c)
noncomputable abbrev Ht:=(St->XK)->TS
end
section
variable{X:Cx}{a b:Expr}{ta tb:TE}{pos:Pos}{tA:TT}
noncomputable abbrev Ends.fn(Q:VK):Ends:={λ_ H'=>Q .non H',Q,λ_ _=>False,λ_ _=>False}
abbrev PC(X:Cx)(op:CmpOp)(a b:Expr)(t:TE):Prop:=Bx (∀(pins:List (Addr×Obj)) (s:Shared) (σ:St) (H:Hp) (Q:VK),Inv X pins σ H s->t σ H Q ->
  wpAny (model X.prog X.w) X.A (eval a X.5) (λv s₁=>wpAny (model X.prog X.w) X.A (eval b X.5) (λu s₂=>wpAny (model X.prog X.w) X.A (ò op v u) (EP X pins σ Q) X.xe s₂) X.xe s₁) X.xe s)
theorem wD{op:CmpOp}{t:TE}(h:PC X op a b t)(g:ş op b=false:=by first |exact DX _ ⋯ ⋯ |rfl):PT X (.Compare a [op] [b] pos) (tB t):=by
 refine{?_};intro e s σ H Q I hw;refine wgb (bG (h e s σ H _ I hw) λv m g=>bG g λu n f=>bG f λc o ⟨x,i,j,k,l⟩=>?_) g
 let{d,rfl,q}:=l
 cases k;exact Ł ⟨i,j,q⟩
theorem bF{e:Expr}{t:TE}(h:PE X e t)(he:∀whole,isTrue e X.env whole=(do let v <-whole;standAt e.pos;holding [v] (truthy v)):=by intro _;rfl):PT X e (tB t):=by
 refine{?_};intro a s σ H Q I hw;refine isTrue_plain (bG (h a s σ H _ I hw) λv i ⟨x,b,c,f,g⟩=>?_) (he _)
 let{d,rfl,q}:=g
 cases f;exact Ł ⟨b,c,q⟩
theorem qQ(ha:PT X a tA):PW X (.BoolOp .And [a] pos) tA:=by
 refine{?_};intro d b s σ H Q I h;refine isTrue_and (bG (ha b s σ H Q I h) λc f e=>?_)
 cases c with
 |true=>exact isTrue_and_nil e
 |false=>exact e
theorem mh(ha:PT X a tA):PW X (.BoolOp .Or [a] pos) tA:=by
 refine{?_};intro d b s σ H Q I h;refine isTrue_or (bG (ha b s σ H Q I h) λc f e=>?_)
 cases c with
 |false=>exact isTrue_or_nil e
 |true=>exact e
theorem dH(ha:PT X a tA):PT X (.UnaryOp .Not a pos) (Q4 tA):=by
 refine{?_};intro b s σ H Q I h;exact isTrue_not (ha b s σ H (λc d=>Q (!c) d) I h)
theorem rJ{op}(h:PE X a t):PE X (.BoolOp op [a] pos) t:={λb s σ H Q I hw=>BoolOp_one (h b s σ H Q I hw)}
theorem Ea(ha:PE X a ta):PE X (.UnaryOp .Not a pos) (ML ta):=by
 refine{?_};intro b s σ H Q I h;refine UnaryOp_ (bG (ha b s σ H _ I h) λv i ⟨x,e,f,g,d⟩=>?_)
 let{c,rfl,d}:=d
 cases g;exact not_of (Ł {.bl (!c),e,f,rfl,d})
theorem xQ{c:Expr}(hc:PT X c tA)(ha:PE X a ta)(l:PE X b tb):PE X (.IfExp c a b pos) (VH tA ta tb):=by
 refine{?_};intro e s σ H Q I h;refine wpAny_IfExp (bG (hc e s σ H _ I h) λd f ⟨g,i,j⟩=>?_)
 cases d with
 |true=>exact ha e f σ g Q i j
 |false=>exact l e f σ g Q i j
def N2:TS:=λD σ H=>D.nx σ H
theorem Inv.quiet(I:Inv X g σ H s):interactive X.5=false:=by simp[interactive,I.ok.kind]
theorem Eb{o i:Expr}{l p:TE}{t:K8}(C:PE X o l)(hi:PE X i p)(hs:N0 X t)
 (ha:∀v,assign (.Subscript o i pos) X.env v=(do
   let g <-holding [v] (eval o X.5)
   let j <-holding [v,g] (eval i X.5)
   standAt pos
   holding [v,g,j] (setItem g j v)
   release [v,g,j] []):=by intro _;rfl):PG X (.Subscript o i pos) (Q7 l p t):=by
 refine{?_};intro a s σ H v u Q I r h;rw[ha];refine Â (ö (bG (C a s σ H _ I h) λg b ⟨x,c,d,e,f⟩=>?_));refine Â (ö (bG (hi a b σ c _ d f) λj k ⟨y,m,n,q,w⟩=>?_));refine Â (Ž (Â (ö (bG (hs a k σ m x y v g j u _ n e q r w) λ_ D ⟨z,A,B⟩=>?_))));exact wpAny_release ⟨σ,z,A,B⟩
def Hu(te:TE)(g:TG):TS:=λD σ H=>te σ H λx H1=>g x σ H1 D.nx
inductive Qp(i:Nat)(te:TE)(ti:Mp)(D:Ends)(σ:St)(H:Hp):Prop
 |mk (x) (_:σ[i]?=ρ (ρ x)) (_:te σ H λy H1=>ti x y H1 λz H2=>D.nx (σ.set i (ρ z)) H2)
theorem Inv.mS(I:Inv X (g++pl) σ H s):Inv X g σ H s:=I.Bf λp a=>I.pin p (ù _ (Ĕ _ a))
theorem ck{lo:Int}{n:Nat}{g:TG}{t:TS}{D:Ends}{σ:St}{H:Hp}(Pv:Nat->St->Hp->Prop)(I:Pv 0 σ H)
 (hs:∀i σ H,i<n->Pv i σ H->g (.int (lo+i)) σ H λj r=>t (D.lp (Pv (i+1))) j r) (hd:∀σ H,Pv n σ H->D.nx σ H) :
 ∃W:Nat->Nat->St->Hp->Prop,(∃m,W 0 m σ H)/\∀i m σ H,W i m σ H ->
  ((Jr lo n).stop i H/\D.nx σ H)\/((Jr lo n).go i H/\∃N:St->Hp->Prop,(∀l o,N l o->∃C,C<m/\W (i+1) C l o)/\∀x o,(Jr lo n).ug i H x o->g x σ o λj r=>t (D.lp N) j r):=by
 refine{λi m σ H=>m=n-i/\i<=n/\Pv i σ H,{n,by simp,à _,I},?_};rintro i m σ H ⟨rfl,hi,p⟩
 by_cases a:i<n
 .refine .inr {a,Pv (i+1),λl o b=>{n-(i+1),(),rfl,a,b},λx o y=>?_}
  let{e,y}:=y
  subst e y;exact hs i σ _ a p
 .have e:i=n:=();subst e;exact .inl {Å _,hd σ H p}
theorem Ko(ha:PE X a ta)(t:PE X b tb){R:V->V->Hp->Prop}(I:Inv X g σ H s)
 (h:ta σ H λx r=>tb σ r λy j=>R x y j) {Q:Value->Shared->Prop} {f:Value->Value->Sem Value}
 (C:∀v u p x y j,Inv X g σ j p->RelV x v->RelV y u->R x y j->wpAny (model X.prog X.w) X.A (f v u) Q X.xe p) :
 wpAny (model X.prog X.w) X.A (eval a X.5) (λv l=>wpAny (model X.prog X.w) X.A (eval b X.5) (λu o=>wpAny (model X.prog X.w) X.A (f v u) Q X.xe o) X.xe l) X.xe s:=by
 refine bG (ha g s σ H _ I h) λv c ⟨x,r,d,e,i⟩=>?_;refine bG (t g c σ r _ d i) λu p ⟨y,j,k,m,n⟩=>?_;exact C v u p x y j k e m n
theorem aK(g:jE X (binaryOp op) r)(ha:PE X a ta)(j:PE X b tb):PE X (.BinOp a op b pos) (Mt r ta tb):=by
 refine{?_};intro c s σ H Q I h;exact wpAny_BinOp (Ko ha j I h λv u d x y e f i k q=>g c d σ e x y v u Q f i k q)
theorem JA{r:V->Hp->VK->Prop}(g:Qn X (unaryOp op) r)(ha:PE X a ta):PE X (.UnaryOp op a pos) (Vy r ta):=by
 refine{?_};intro b s σ H Q I h;exact UnaryOp_ (bG (ha b s σ H _ I h) λv c ⟨x,d,e,f,i⟩=>g b c σ d x v Q e f i)
theorem Hv{f:Value->Value->Sem Value}{g:Int->Int->Bool}
 (rule:∀(i j:Int) (t u:Tok) (s:Shared) (Q:Value->Shared->Prop) (E:Value->Shared->Prop),Q (.bool (g i j)) s->wpAny (model X.prog X.w) X.A (f (.int i t) (.int j u)) Q E s) :
 jE X f (Js λi j=>.bl (g i j)):=by
 intro a s σ H x y v u Q I b c h
 let{i,j,rfl,rfl,q}:=h
 let{t,rfl}:=b
 let{d,rfl}:=c
 exact rule i j t d s _ _ {.bl (g i j),H,I,rfl,q}
theorem bb(I:Inv X g σ H s)(q:Q (.bl k) H)(e:k=j):EP X g σ Q (.bool j) s:=by
 subst e;exact{.bl k,H,I,rfl,q}
theorem pz:jE X (ò .Eq) Vz:=by
 intro e s σ H x y v u Q I d a h
 let{c,q}:=h
 cases x with
 |non=>
  cases d
  cases y with
  |non=>cases a;exact PySem.EqNone.eq_none_none (bb I q (by simp))
  |bl j=>cases a;exact PySem.EqNone.eq_none_bool (bb I q (by simp))
  |int j=>let{b,rfl}:=a;exact PySem.EqNone.eq_none_int (bb I q (by simp))
  |str j=>let{b,rfl}:=a;exact PySem.EqNone.eq_none_str (bb I q (by simp))
  |_=>exact absurd (show false=true from c) ß
 |bl i=>
  cases d
  cases y with
  |non=>cases a;exact PySem.EqNone.eq_bool_none (bb I q (by simp))
  |bl j=>cases a;exact eq_bool (bb I q DQ)
  |str j=>let{b,rfl}:=a;exact PySem.EqMixed.eq_bool_str (bb I q (by simp))
  |_=>exact absurd (show false=true from c) ß
 |int i=>
  let{t,rfl}:=d
  cases y with
  |non=>cases a;exact PySem.EqNone.eq_int_none (bb I q (by simp))
  |int j=>let{b,rfl}:=a;exact eq_int (bb I q B5)
  |str j=>let{b,rfl}:=a;exact PySem.EqMixed.eq_int_str (bb I q (by simp))
  |_=>exact absurd (show false=true from c) ß
 |str i=>
  let{t,rfl}:=d
  cases y with
  |non=>cases a;exact PySem.EqNone.eq_str_none (bb I q (by simp))
  |bl j=>cases a;exact PySem.EqMixed.eq_str_bool (bb I q (by simp))
  |int j=>let{b,rfl}:=a;exact PySem.EqMixed.eq_str_int (bb I q (by simp))
  |str j=>let{b,rfl}:=a;exact eq_str (bb I q B6)
  |_=>exact absurd (show false=true from c) ß
 |byt i=>
  let{t,rfl}:=d
  cases y with
  |byt j=>let{b,rfl}:=a;exact PySem.W.eq_bytes (bb I q B8)
  |_=>exact absurd (show false=true from c) ß
 |_=>cases y<;>exact absurd (show false=true from c) ß
theorem N3:jE X (ò .NotEq) VA:=by
 intro e s σ H x y v u Q I d a h
 let{c,q}:=h
 cases x with
 |non=>
  cases d
  cases y with
  |non=>cases a;exact PySem.EqNone.ne_none_none (bb I q (by simp))
  |bl j=>cases a;exact PySem.EqNone.ne_none_bool (bb I q (by simp))
  |int j=>let{b,rfl}:=a;exact PySem.EqNone.ne_none_int (bb I q (by simp))
  |str j=>let{b,rfl}:=a;exact PySem.EqNone.ne_none_str (bb I q (by simp))
  |_=>exact absurd (show false=true from c) ß
 |bl i=>
  cases d
  cases y with
  |non=>cases a;exact PySem.EqNone.ne_bool_none (bb I q (by simp))
  |bl j=>cases a;exact ne_bool (bb I q (congrArg not DQ))
  |str j=>let{b,rfl}:=a;exact PySem.EqMixed.ne_bool_str (bb I q (by simp))
  |_=>exact absurd (show false=true from c) ß
 |int i=>
  let{t,rfl}:=d
  cases y with
  |non=>cases a;exact PySem.EqNone.ne_int_none (bb I q (by simp))
  |int j=>let{b,rfl}:=a;exact ne_int (bb I q (congrArg not B5))
  |str j=>let{b,rfl}:=a;exact PySem.EqMixed.ne_int_str (bb I q (by simp))
  |_=>exact absurd (show false=true from c) ß
 |str i=>
  let{t,rfl}:=d
  cases y with
  |non=>cases a;exact PySem.EqNone.ne_str_none (bb I q (by simp))
  |bl j=>cases a;exact PySem.EqMixed.ne_str_bool (bb I q (by simp))
  |int j=>let{b,rfl}:=a;exact PySem.EqMixed.ne_str_int (bb I q (by simp))
  |str j=>let{b,rfl}:=a;exact ne_str (bb I q (congrArg not B6))
  |_=>exact absurd (show false=true from c) ß
 |byt i=>
  let{t,rfl}:=d
  cases y with
  |byt j=>let{b,rfl}:=a;exact PySem.W.ne_bytes (bb I q (congrArg not B8))
  |_=>exact absurd (show false=true from c) ß
 |_=>cases y<;>exact absurd (show false=true from c) ß
theorem jL:jE X (ò .Lt) (Js λi j=>.bl (decide (i<j))):=Hv λ_ _ _ _ _ _ _ q=>lt_int q
theorem N4:jE X (ò .LtE) (Js λi j=>.bl (decide (i<=j))):=Hv λ_ _ _ _ _ _ _ q=>le_int q
theorem iA:jE X (ò .Gt) (Js λi j=>.bl (decide (j<i))):=Hv λ_ _ _ _ _ _ _ q=>gt_int q
theorem JB:jE X (ò .GtE) (Js λi j=>.bl (decide (j<=i))):=Hv λ_ _ _ _ _ _ _ q=>ge_int q
theorem oG:jE X (ò .In) (λx y H Q=>∃i j,x=.str i/\y=.str j/\Q (.bl (!(wfy j i 0 j.length 1).isEmpty)) H):=by
 intro a s σ H x y v u Q I b c h
 let{i,j,rfl,rfl,q}:=h
 let{t,rfl}:=b
 let{d,rfl}:=c
 exact in_str (bb I q rfl)
theorem Kp:jE X (ò .Is) (λx y H Q=>y=.non/\Q (.bl (decide (x=.non))) H):=by
 intro a s σ H x y v u Q I b c h
 let{rfl,q}:=h
 cases c;refine is_none_gen (bb I q ?_)
 cases x<;>first
  |(cases b;rfl)
  |(let{t,rfl}:=b;rfl)
theorem qR:jE X (ò .IsNot) (λx y H Q=>y=.non/\Q (.bl (!decide (x=.non))) H):=by
 intro a s σ H x y v u Q I b c h
 let{rfl,q}:=h
 cases c;refine isnot_none_gen (bb I q ?_)
 cases x<;>first
  |(cases b;rfl)
  |(let{t,rfl}:=b;rfl)
theorem dj(g:jE X (ò op) r)(ha:PE X a ta)(j:PE X b tb)(l:ş op b=false):PE X (.Compare a [op] [b] pos) (Mt r ta tb):=by
 refine{?_};intro c s σ H Q I h;exact wpAny_Compare1 (Ko ha j I h λv u d x y e f i k q=>g c d σ e x y v u Q f i k q) l
theorem fz(g:jE X (ò op) r)(ha:PE X a ta)(j:PE X b tb)(l:ş op b=false):PT X (.Compare a [op] [b] pos) (Jt (Mt r ta tb)):=by
 refine{?_};intro d s σ H Q I h
 refine wgb (bG (ha d s σ H _ I h) λv f ⟨x,i,m,n,o⟩=>bG (j d f σ i _ m o) λu p ⟨y,q,t,w,A⟩=>
  bG (g d p σ q x y v u _ t n w A) λc G ⟨z,B,C,D,k,e,E⟩=>?_) l
 subst e;cases D;exact Ł ⟨B,C,E⟩
structure Hw(K:Á)(C:Addr)(m:Str)(f:Addr):Prop where
 at_:ć K (.ref C) m=ρ (ρ (.ref f))
 fn:wfk K (.ref f)=true
 kp:Ś K (.ref f)=true
noncomputable def rK(CX:DC)(P:É)(w:World)(K:Á)(mg:Str->Option Value)(base:Heap)(N:List Str)(qual:Str)(scope:ú)(f:Addr)(cd:Value)(A:Around)(outer:List Env)(s:Shared)(H:Hp)(E:XK):Cx where
 prog:=P
 w:=w
 K:=K
 mg:=mg
 base:=base
 A:=A.deeper (envOfC qual scope s.heap.objs.size f cd)
 N:=N
 s₀:=s
 H₀:=H
 env:=envOfC qual scope s.heap.objs.size f cd
 outer:=outer
 stack:=envOfC qual scope s.heap.objs.size f cd::outer
 ex:=[]
 calm:=true
 fn:=λ_=>true
 pn:=[]
 xe:=λe s'=>wpAny (model P w) (A.deeper (envOfC qual scope s.heap.objs.size f cd)) («leaving» (envOfC qual scope s.heap.objs.size f cd) e) (λ_ Qq=>CX outer H s E e Qq) (λe' Qq=>CX outer H s E e' Qq) s'
theorem bf(g:M6 X r)(ha:PE X a ta)(j:PE X b tb)(hs:Hj b):PE X (.Subscript a b pos) (Mt r ta tb):=by
 refine{?_};intro c s σ H Q I h;exact Subscript_ (Ko ha j I h λv u d x y e f i k q=>g a b c d σ e x y v u Q f i k q (hs _ _))
theorem f9{J:It}{Ok:Hp->Prop}{xs:List V}{g:TG}{C:TS}{D:Ends}{σ:St}{H:Hp}(r:jB J Ok xs)(Pv:Nat->St->Hp->Prop)(T:Pv 0 σ H)(U:∀i σ H,i<=xs.9->Pv i σ H->Ok H)
 (hs:∀i x σ H,xs[i]?=ρ x->Pv i σ H->g x σ H λl t=>C (D.lp (Pv (i+1))) l t) (hd:∀σ H,Pv xs.length σ H->D.nx σ H) :
 ∃W:Nat->Nat->St->Hp->Prop,(∃m,W 0 m σ H)/\∀i m σ H,W i m σ H ->
  (J.stop i H/\D.nx σ H)\/(J.go i H/\∃N:St->Hp->Prop,(∀o j,N o j->∃I,I<m/\W (i+1) I o j)/\∀x j,J.ug i H x j->g x σ j λl t=>C (D.lp N) l t):=by
 refine{λi m σ H=>m=xs.9-i/\i<=xs.9/\Pv i σ H,{xs.9,by simp,à _,T},?_};rintro i m σ H ⟨rfl,hi,p⟩;have q:=U i σ H hi p
 by_cases a:i<xs.9
 .refine .inr {r.go i H q a,Pv (i+1),λo j b=>{xs.9-(i+1),(),rfl,a,b},λx j y=>?_}
  let{e,c}:=r.ug i H x j q a y
  subst e;exact hs i x σ _ c p
 .have e:i=xs.9:=();subst e;exact .inl {r.stop H q,hd σ H p}
def Hx(C:Addr)(E:XK)(t:TA):TS:=λ_ σ H=>t σ H λvs H1=>vs.9=1/\E (.ref C) τ H1
end
section
variable{te:TE}
def SP(X:Cx)(pins:List (Addr×Obj))(D:Ends)(f:Flow)(s':Shared):Prop:=
 match f with
 |.next=>∃σ' H',Inv X pins σ' H' s'/\D.nx σ' H'
 |.brk=>∃σ' H',Inv X pins σ' H' s'/\D.bk σ' H'
 |.cont=>∃σ' H',Inv X pins σ' H' s'/\D.ct σ' H'
 |.ret u=>∃v σ' H',Inv X pins σ' H' s'/\RelV v u/\D.rt v H'
abbrev PS(X:Cx)(st:Stmt)(t:TS):Prop:=Bx (∀(pins:List (Addr×Obj)) (s:Shared) (σ:St) (H:Hp) (D:Ends),Inv X pins σ H s->t D σ H->wpAny (model X.prog X.w) X.A (exec st X.5) (SP X pins D) X.xe s)
abbrev ui(X:Cx)(st:List Stmt)(t:TS):Prop:=Bx (∀(pins:List (Addr×Obj)) (s:Shared) (σ:St) (H:Hp) (D:Ends),Inv X pins σ H s->t D σ H->wpAny (model X.prog X.w) X.A (execs st X.5) (SP X pins D) X.xe s)
theorem Cx.Ok.kZ{X:Cx}(ok:X.Ok)(E:Value->Shared->Prop):(X.kZ E).Ok:=
 ⟨ok.mod,ok.kind,ok.glob,ok.blt,ok.above,ok.inj,ok.has,ok.K7,ok.hd,ok.frames,ok.M1,ok.OV,ok.bs,ok.DM,ok.zu,ok.BW,ok.mN,ok.He⟩
theorem Cx.Ok.eG{X:Cx}{E:Value->Shared->Prop}(ok:(X.kZ E).Ok):X.Ok:=
 ⟨ok.mod,ok.kind,ok.glob,ok.blt,ok.above,ok.inj,ok.has,ok.K7,ok.hd,ok.frames,ok.M1,ok.OV,ok.bs,ok.DM,ok.zu,ok.BW,ok.mN,ok.He⟩
def N5(te:TE):TS:=λD σ H=>te σ H λ_ H1=>D.nx σ H1
def Qr(te:TE):TS:=λD σ H=>te σ H D.rt
def Kq(c:TT)(tb:TS):TS:=λD σ H=>∃W:Nat->St->Hp->Prop,(∃m,W m σ H)/\∀m σ H,W m σ H ->
 c σ H λb H1=>if b=true then ∃N:St->Hp->Prop,(∀σ' H',N σ' H'->∃m',m'<m/\W m' σ' H')/\tb (D.lp N) σ H1 else D.nx σ H1
def N6(wi:TI)(g:TG)(tb:TS):TS:=λD σ H=>wi σ H λJ H1=>∃W:Nat->Nat->St->Hp->Prop,(∃m,W 0 m σ H1)/\∀i m σ H,W i m σ H ->
 (J.stop i H/\D.nx σ H)\/(J.go i H/\∃N:St->Hp->Prop,(∀σ' H',N σ' H'->∃m',m'<m/\W (i+1) m' σ' H')/\∀x H',J.ug i H x H'->g x σ H' λσ2 H2=>tb (D.lp N) σ2 H2)
theorem dN{K:Á}{a:Addr}{xs:List V}{g:TG}{t:TS}{D:Ends}{σ:St}{H:Hp}(Pv:Nat->St->Hp->Prop)(I:Pv 0 σ H)(hl:∀i σ H,i<=xs.9->Pv i σ H->aG K H a xs)
 (hs:∀i x σ H,xs[i]?=ρ x->Pv i σ H->g x σ H λj r=>t (D.lp (Pv (i+1))) j r) (hd:∀σ H,Pv xs.length σ H->D.nx σ H) :
 ∃W:Nat->Nat->St->Hp->Prop,(∃m,W 0 m σ H)/\∀i m σ H,W i m σ H ->
  ((M3 K a).stop i H/\D.nx σ H)\/((M3 K a).go i H/\∃N:St->Hp->Prop,(∀l o,N l o->∃C,C<m/\W (i+1) C l o)/\∀x o,(M3 K a).ug i H x o->g x σ o λj r=>t (D.lp N) j r):=by
 refine{λi m σ H=>m=xs.9-i/\i<=xs.9/\Pv i σ H,{xs.9,by simp,à _,I},?_};rintro i m σ H ⟨rfl,hi,p⟩;have q:=hl i σ H hi p
 by_cases b:i<xs.9
 .refine .inr {{xs,xs[i],q,by simp[b]},Pv (i+1),λl o c=>{xs.9-(i+1),(),rfl,b,c},λx o y=>?_}
  let{e,y}:=y
  subst e;exact hs i x σ _ (y xs q) p
 .have e:i=xs.9:=();subst e;exact .inl {{xs,q,Å _},hd σ H p}
def d1(X:Cx)(f:Value)(r:List V->Hp->VK->Prop):Prop:=
 ∀(pins:List (Addr×Obj)) (s:Shared) (σ:St) (H:Hp) (xs:List V) (us:List Value) (Q:VK),Inv X pins σ H s->Vals xs us->r xs H Q ->
  wpAny (model X.prog X.w) X.A (call f us) (EP X pins σ Q) X.xe s
def Qs(K:Á)(ta tv:TE)(f:Str):TS:=λD σ H=>tv σ H λy H1=>ta σ H1 λx H2=>∃a C dx fs,x=.ref a/\H2 a=ρ (.ins C dx fs)/\zm K C/\bN K C f/\fs.9<1000 /\
 D.nx σ (upd H2 a (.ins C dx (cm f y fs)))
structure zI(P:É)(w:World)(K:Á)(mg:Str->Option Value)(base:Heap)(A:Around)(outer:List Env)(s:Shared)(H:Hp):Prop where
 frames:A.frames=ρ outer
 mod:Mod K mg base
 bs:∀b o,base.get? b=ρ o->s.heap.get? b=ρ o/\H b=τ
 DM:base.7<=s.8
 mN:s.heap.FunFrames base outer
 He:∀b∈qu outer,H b=τ
 aT:iT P w H s.heap
 bare:AllBare s.gens
structure aP(P:É)(w:World)(K:Á)(mg:Str->Option Value)(base:Heap)(CX:DC)(k:Nat)(f:Addr)(fd:ì)(ps:List Str)(sp:Sp):Prop where
 len:∀vs H Q E,sp vs H Q E->vs.9=ps.9
 run:∀(A:Around) (outer:List Env) (s:Shared) (H:Hp) (args:Args) (us:List Value) (vs:List V) (Q:VK) (E:XK),cG k A->zI P w K mg base A outer s H->BindsTo s fd args (ps.zip us)->Vals vs us->sp vs H Q E ->
  codeAny (model P w) A (.call (.ref f) args) (CR CX outer P w H s Q E) s
theorem zI.make{P:É}{w:World}{K:Á}{mg:Str->Option Value}{base:Heap}{A:Around}{outer:List Env}{s:Shared}{H:Hp}(e:zI P w K mg base A outer s H)(C:Addr)(us:List Value)(g:List (Str×Value)) :
 zI P w K mg base (A.under (.builtin "type.__call__" {.ref C::us,g})) outer s H:={by first |exact e.frames |(simpa [wgP,Code.envs,wgQ,pushEnvs] using e.frames),e.mod,e.bs,e.DM,e.mN,e.He,e.aT,e.bare}
def Passes(CX:DC)(X:Cx)(E:XK):Prop:=∀(pins:List (Addr×Obj)) (σ:St) (H:Hp) (s:Shared) (e:Value) (s':Shared),Inv X pins σ H s->CX X.stack H s E e s'->X.xe e s'
def Hy(X:Cx)(id:String)(r:V->List V->Hp->VK->Prop):Prop:=
 ∀(pins:List (Addr×Obj)) (s:Shared) (σ:St) (H:Hp) (x:V) (xs:List V) (v:Value) (us:List Value) (Q:VK),Inv X pins σ H s->RelV x v->Vals xs us->r x xs H Q ->
  wpAny (model X.prog X.w) X.A (call (.builtin id) (v::us)) (EP X pins σ Q) X.xe s
def Th(X:Cx)(id:String)(r:V->List V->Hp->VK->Prop):Prop:=
 ∀(pins:List (Addr×Obj)) (s:Shared) (σ:St) (H:Hp) (x:V) (xs:List V) (v:Value) (us:List Value) (Q:VK),Inv X pins σ H s->RelV x v->Vals xs us->r x xs H Q ->
  wpAny (model X.prog X.w) X.A (call (.builtin id) (v::us)) (EP X pins σ Q) X.xe s
def JC(td ty tv:TE):TS:=λD σ H=>tv σ H λv H1=>td σ H1 λx H2=>ty σ H2 λy H3=>∃a H4,x=.ref a/\gX H3 a y v H4/\D.nx σ H4
theorem mU{X:Cx}:Passes cI X E0:=λ_ _ _ _ _ _ _ h=>h.elim
noncomputable def bc(X:Cx)(scope:ú)(N:List Str)(cl:List (Str×Addr))(L:Addr)(s:Shared)(H:Hp)(ex:List Addr)(pn:List (Addr×Obj)):Cx where
 prog:=X.prog
 w:=X.w
 K:=X.K
 mg:=X.mg
 base:=X.base
 A:=X.A
 N:=N
 s₀:=s
 H₀:=H
 env:=compEnvC scope cl L X.5
 outer:=X.stack
 stack:=X.stack
 ex:=ex
 fn:=λ_=>false
 calm:=X.calm
 pn:=pn
 xe:=λ_ _=>False
theorem rL{K:Á}{a:Addr}{xs:List V}{g:TG}{t:TS}{D:Ends}{σ:St}{H:Hp}(Pv:Nat->St->Hp->Prop)(I:Pv 0 σ H)(hl:∀i σ H,i<=xs.9->Pv i σ H->aG K H a xs)
 (hs:∀i x σ H T,xs[i]?=ρ x->Pv i σ H->H T=τ->g (.ref T) σ (upd H T (.tup [.int (i:Nat),x])) λj r=>t (D.lp (Pv (i+1))) j r) (hd:∀σ H,Pv xs.length σ H->D.nx σ H) :
 ∃W:Nat->Nat->St->Hp->Prop,(∃m,W 0 m σ H)/\∀i m σ H,W i m σ H ->
  ((M5 K a).stop i H/\D.nx σ H)\/((M5 K a).go i H/\∃N:St->Hp->Prop,(∀l o,N l o->∃C,C<m/\W (i+1) C l o)/\∀x o,(M5 K a).ug i H x o->g x σ o λj r=>t (D.lp N) j r):=by
 refine{λi m σ H=>m=xs.9-i/\i<=xs.9/\Pv i σ H,{xs.9,by simp,à _,I},?_};rintro i m σ H ⟨rfl,hi,p⟩;have q:=hl i σ H hi p
 by_cases b:i<xs.9
 .refine .inr {{xs,xs[i],q,by simp[b]},Pv (i+1),λl o c=>{xs.9-(i+1),1.0,rfl,b,c},λx o y=>?_}
  let{T,d,f,h,k,y}:=y
  subst h k;exact hs i d σ _ T (y xs q) p f
 .have e:i=xs.9:=1.0;subst e;exact .inl {{xs,q,Å _},hd σ H p}
abbrev Z6(X:Cx)(st:Stmt)(t:TS):Prop:=Bx (∀(pins:List (Addr×Obj)) (s:Shared) (σ:St) (H:Hp) (D:Ends),Inv X pins σ H s->1<=s.toks->t D σ H->wpAny (model X.prog X.w) X.A (exec st X.5) (SP X pins D) X.xe s)
abbrev VN(X:Cx)(st:List Stmt)(t:TS):Prop:=Bx (∀(pins:List (Addr×Obj)) (s:Shared) (σ:St) (H:Hp) (D:Ends),Inv X pins σ H s->1<=s.toks->t D σ H->wpAny (model X.prog X.w) X.A (execs st X.5) (SP X pins D) X.xe s)
def Qt(X:Cx)(pins:List (Addr×Obj))(σ:St)(E:XK)(ev:Value)(s':Shared):Prop:=∃H0 s0,Inv X pins σ H0 s0/\xE X.prog X.w X.stack H0 s0 E ev s'
def Ti(X:Cx)(pins:List (Addr×Obj))(E:St->XK)(ev:Value)(s':Shared):Prop:=∃σ,Qt X pins σ (E σ) ev s'
abbrev Qu(X:Cx)(e:Expr)(t:MH):Prop:=Bx (∀(pins:List (Addr×Obj)) (s:Shared) (σ:St) (H:Hp) (Q:VK) (E:XK),Inv X pins σ H s->t E σ H Q->wpAny (model X.prog X.w) X.A (eval e X.5) (EP X pins σ Q) (Qt X pins σ E) s)
abbrev Qv(X:Cx)(st:Stmt)(t:Ht):Prop:=Bx (∀(pins:List (Addr×Obj)) (s:Shared) (σ:St) (H:Hp) (D:Ends) (E:St->XK),Inv X pins σ H s->t E D σ H->wpAny (model X.prog X.w) X.A (exec st X.5) (SP X pins D) (Ti X pins E) s)
abbrev HB(X:Cx)(st:List Stmt)(t:Ht):Prop:=Bx (∀(pins:List (Addr×Obj)) (s:Shared) (σ:St) (H:Hp) (D:Ends) (E:St->XK),Inv X pins σ H s->t E D σ H->wpAny (model X.prog X.w) X.A (execs st X.5) (SP X pins D) (Ti X pins E) s)
end
section
variable{X:Cx}{pins:List (Addr×Obj)}{σ:St}{H:Hp}{s:Shared}{a:Addr}{xs ys:List V}
theorem aG.of{K:Á}(h:H a=ρ (.lst xs)):aG K H a xs:=.inl (.inl h)
theorem eY.of{K:Á}(h:H a=ρ (.tup xs)):eY K H a xs:=.inl (.inl h)
theorem Inv.list(I:Inv X pins σ H s)(h:aG X.K H a xs):∃g:List Value,Vals xs g/\PlainL s.heap a g.6/\xs.9<=sizeLine:=by
 rcases h with h |⟨o,g,n,hk,hc,hd,b,c,r⟩
 .let{z,g,n,r,e}:=h.ok I.aT
  exact{g,r,{_,n,e,rfl,rfl,rfl},z}
 .refine{g.toList,r,{o,n,I.fP a o hk,hc,hd,by simpa using b},?_};have e:=r.9;simp only[χ]at e
  lia
theorem Inv.tuple(I:Inv X pins σ H s)(h:eY X.K H a xs):∃g:List Value,Vals xs g/\IsTup s.heap a g.6/\xs.9<=sizeLine:=by
 rcases h with h |⟨o,g,n,hk,hc,b,c,r⟩
 .let{z,g,r,p}:=h.ok I.aT
  exact⟨g,r,p,z⟩
 .refine{g.toList,r,{o,I.fP a o hk,hc,n,by simpa using b},?_};have e:=r.9;simp only[χ]at e;omega
theorem Inv.rM(I:Inv X pins σ H s)(h:aG X.K H a xs)(h':aG X.K H a ys):xs=ys:=by
 let{c,r,{o,n,e,_,_,d},_}:=I.list h
 let{b,i,{j,k,f,_,_,g},_}:=I.list h'
 rw[e]at f;cases f;rw[d]at g;injection g with l _
 have:c=b:=by grind
 subst this;exact r.inj i
theorem aI:ui X [] N2:={λ_ _ σ H _ I h=>Ŝ ⟨σ,H,I,h⟩}
theorem gf:ui X g Kn:={λ_ _ _ _ _ _ h=>h.elim}
theorem bI:M6 X (MB X.K):=by
 intro value slice a s σ H x y v u Q I l m h f
 let{p,E,i,z,rfl,rfl,n,o,q}:=h
 cases l
 let{t,rfl}:=m
 let{c,r,pl,G}:=I.list n
 let{j,b,A,J,B,C}:=wu o
 let{w,g,d}:=r.get A
 have hl:=r.9;have hn:=m6;have fin:EP X a σ Q w s:=⟨z,H,I,d,q⟩
 by_cases k:0<=i
 .have e:i.toNat=j:=by
   rw[whh k C]at b;exact Î b
  exact item_listR pl.isList k () (by rw[e];simpa using g) fin f
 .have e:(i+(c.toArray.size:Int)).toNat=j:=by
   rw[wgR () B]at b;rw[â,<-hl];exact Î b
  exact wfV (x:=w) pl.isList.typeIs slot_list_getitem.lookup
   (wpAny_getItem_list_neg (Q:=λr D=>r=w/\EP X a σ Q r D) pl.isList () (by rw[â]<;>lia) () (by rw[e];simpa using g) ⟨rfl,fin⟩) f
theorem gz:M6 X (MC X.K):=by
 intro value slice a s σ H x y v u Q I c d h e
 let{p,A,i,z,rfl,rfl,f,g,q}:=h
 cases c
 let{t,rfl}:=d
 let{k,r,pl,B}:=I.tuple f
 let{j,l,m,C,D,E}:=wu g
 let{w,n,b}:=r.get m
 have hl:=r.9;have hn:=m6;have fin:EP X a σ Q w s:=⟨z,H,I,b,q⟩
 exact wfV (x:=w) pl.typeIs slot_tuple_getitem.lookup
  (getItem_tuple (j:=j) (Q:=λr o=>r=w/\EP X a σ Q r o) pl () () (by rw[â,<-hl];exact l) (by simpa using n) ⟨rfl,fin⟩) e
theorem zJ(g:List Value)(n j:Nat)(u:Value):Ĺ (·.setIfInBounds j u) {cls:=.type "list",data:=.seq g.toArray n}={cls:=.type "list",data:=.seq (g.set j u).toArray n}:=by
 simp[Ĺ]
theorem vg:jE X (ò .In) (OY X.K false):=by
 intro c s σ H x y v u Q I d f h
 let{p,i,rfl,b,e,fs,q}:=h
 cases f;rcases b with b |b
 .let{a,r,pl,g}:=I.list b
  refine SeqAt.in_listAt (zE x) pl.isList (λw hw=>jH d e r fs w (by grind)) {.bl _,H,I,rfl,?_};rw[show a.toArray.any (zE x)=a.any (zE x) by simp,mQ r fs];exact q
 .let{a,r,pl,g}:=I.tuple b
  refine SeqAt.in_tupleAt (zE x) pl (λw hw=>jH d e r fs w (by grind)) {.bl _,H,I,rfl,?_};rw[show a.toArray.any (zE x)=a.any (zE x) by simp,mQ r fs];exact q
theorem fZ:jE X (ò .NotIn) (OY X.K true):=by
 intro c s σ H x y v u Q I d f h
 let{p,i,rfl,b,e,fs,q}:=h
 cases f;rcases b with b |b
 .let{a,r,pl,g}:=I.list b
  refine SeqAt.notIn_listAt (zE x) pl.isList (λw hw=>jH d e r fs w (by grind)) {.bl _,H,I,rfl,?_};rw[show a.toArray.any (zE x)=a.any (zE x) by simp,mQ r fs];exact q
 .let{a,r,pl,g}:=I.tuple b
  refine SeqAt.notIn_tupleAt (zE x) pl (λw hw=>jH d e r fs w (by grind)) {.bl _,H,I,rfl,?_};rw[show a.toArray.any (zE x)=a.any (zE x) by simp,mQ r fs];exact q
theorem Ec(z:kvs.9<=sizeLine)(hd:(a==ļ)=false)(rel:KV kvs vs)(dd:h'.DictOf (b8 P w) a vs) :
 bq P w g h' a (.dK kvs):=⟨z,hd,vs,rel,dd⟩
theorem Ed(l:X.A.units<ð):jE X (ò .Eq) (Qe X.K):=by
 intro m s σ H x y v u Q I C D h
 let{a,b,f,g,rfl,rfl,ha,E,G,J,q}:=h
 cases C;cases D
 let{d,n,o,_}:=I.list ha
 let{c,p,r,_}:=I.list E
 have L:=n.9;have U:=p.9
 by_cases hl:f.9=g.9
 .refine SeqAt.eq_listAt (e:=λj=>oz (f.getD j .non) (g.getD j .non)) o.isList r.isList (by simp only[â];lia) l (λj M N=>?_) ?_
  .have i:j<d.9:=by simpa using M
   have k:j<c.9:=by simpa using N
   have t:f[j]?=ρ (f.getD j .non):=by rw[Õ];simp[show j<f.length by lia]
   have w:g[j]?=ρ (g.getD j .non):=by rw[Õ];simp[show j<g.length by lia]
   let{O,z,R}:=n.get t
   let{S,B,T}:=p.get w
   have g1:d.toArray[j]=O:=by
    have:d[j]?=ρ d[j]:=by simp[i]
    rw[this]at z;simpa using Î z
   have g2:c.toArray[j]=S:=by
    have:c[j]?=ρ c[j]:=by simp[k]
    rw[this]at B;simpa using Î B
   rw[g1,g2];exact wA R T (ø.mp G _ (á t)) (ø.mp J _ (á w))
  .rw[m9 hl]at q;refine{.bl _,H,I,rfl,?_};rw[â,<-L];exact q
 .refine SeqAt.eq_list_lengthsAt o.isList r.isList (by simp only[â,bne_iff_ne];lia) l {.bl false,H,I,rfl,?_};rw[E2 hl]at q;exact q
end
section
variable{X:Cx}{tg:Expr}
theorem g7{E:Value->Shared->Prop}{Q:Value->Shared->Prop}(I:Inv X g σ H s)(j:Gl X x)(l:X.mg x=ρ u)(h:Q u s)
 (hd:(x==("__debug__":Str))=false:=by decide):wpAny (model X.prog X.w) X.A (eval (.Name x pos) X.5) Q E s:=
 weW I.ok.kind j (Calls.loadGlobal_global (by rw[I.ok.glob];exact I.mod.glob.keeps I.bk) l h) hd
theorem gA{E:Value->Shared->Prop}{Q:Value->Shared->Prop}(I:Inv X g σ H s)(j:Gl X x)(l:X.mg x=τ)(o:é x=ρ u)(h:Q u s)
 (hn:x≠"__name__":=by decide) (hd:(x==("__debug__":Str))=false:=by decide):wpAny (model X.prog X.w) X.A (eval (.Name x pos) X.5) Q E s:=by
 let{c,a,b}:=I.mod.blt
 exact weW I.ok.kind j (Calls.loadGlobal_builtin (by rw[I.ok.glob];exact I.mod.glob.keeps I.bk) l (by rw[I.ok.blt];exact a.keeps I.bk) ((b x hn).trans o) h) hd
theorem cn(g:Gl X x)(j:X.mg x=ρ u)(r:RelV v u)(hd:(x==("__debug__":Str))=false:=by decide):PE X (.Name x pos) (tC v):=
 {λ_ _ _ H _ I h=>g7 I g j ⟨v,H,I,r,h⟩ hd}
theorem hF(g:Gl X x)(j:X.mg x=τ)(l:é x=ρ u)(r:RelV v u)(hn:x≠"__name__":=by decide)(hd:(x==("__debug__":Str))=false:=by decide):PE X (.Name x pos) (tC v):=
 {λ_ _ _ H _ I h=>gA I g j l ⟨v,H,I,r,h⟩ hn hd}
theorem Inv.pinned(I:Inv X g σ H s)(l:∀b∈j,ro X g H b)(r:∀b∈j,∃o,s.heap.get? b=ρ o/\∀v,o.data≠.cell v):Inv X (g++rp j s.heap) σ H s:=
 I.Bf λp f=>(Ú.mp f).elim (λz=>I.pin p (ù _ z)) λz=>by
  let{a,e}:=BX z
  let{h,f1,f2,_}:=l p.1 a
  let{o,c,d}:=r p.1 a
  rw[e]at c;cases c;exact⟨e,h,f1,f2,d⟩
theorem Ee(C:PassesOwn (model X.prog X.w) X.A X.env X.xe)(hc:X.calm=true)(hi:PI X tg iter wi)(hg:PG X tg g)(j:ui X body tb)
 (hs:∀x,ň iter X.env x=pure x:=by intro _;rfl):PS X (.For tg iter body [] pos) (N6 wi g tb):=by
 refine{?_};intro a s σ H D I h;refine wpAny_For (bG (hi a s σ H _ I h) λv s1 h1=>bG h1 λQm s2 h2=>?_) hs
 let{it,E,tn,J,H2,e,I2,T,R,f2,W,{m0,w0},G}:=h2
 subst e;have k:∀{y:Hp},(∀b∈E,y b=τ)->∀b∈E,ro X a y b:=λhn b j=>{hn b j,(f2 b j).2};refine codeAny_forLoop_any (λn s'=>∃i l y,Inv X a l y s'/\tn i s'.heap/\(∀b∈E,y b=τ)/\W i n l y) ?_ m0 ⟨0,σ,H2,I2,R,λb j=>(f2 b j).1,w0⟩;rintro n s3 ⟨i,p,Q,I3,L,M,w3⟩;rcases G i n p Q w3 with⟨stop,qn⟩ |⟨go,N,hN,step⟩
 .refine Ũ C (bG (T.done X rfl rfl rfl hc i a s3 p Q X.xe I3 (k M) L stop) λr s4 ⟨S,I4⟩=>?_);subst S;exact Ŝ ⟨p,Q,I4,qn⟩
 .refine Ũ C (bG (T.item X rfl rfl rfl hc i a s3 p Q X.xe I3 (k M) L go) λr s4 ⟨u,S,h4⟩=>?_);subst S;refine Ũ C (bG h4 λ_ s5 ⟨x,H5,I5,r5,y5,B,U⟩=>?_);have V:=I5.pinned (k U) (T.obj _ _ B);refine Ũ C (bG (hg _ s5 p H5 x u _ V r5 (step x H5 y5)) λ_ s6 ⟨Y,H6,I6,q6⟩=>?_);refine Ũ C (bG (j _ s6 Y H6 _ I6 q6) λf Z z=>?_)
  have again:∀{c:St} {q:Hp},Inv X (a++rp E s5.heap) c q Z->N c q->∃m,m<n/\∃i l y,Inv X a l y Z/\tn i Z.heap/\(∀b∈E,y b=τ)/\W i m l y:=λ{c q} t O=>by
   let{m',hm,w7}:=hN c q O
   refine{m',hm,i+1,c,q,t.mS,T.keep _ _ _ B λb j o e=>(t.pin (b,o) (ù _ (ù _ (iR j e)))).1,λb j=>?_,w7}
   let{o,e,d}:=T.obj _ _ B b j
   exact(t.pin (b,o) (ù _ (ù _ (iR j e)))).2.1
  cases f with
  |next=>let{c,q,t,O}:=z;exact again t O
  |cont=>let{c,q,t,O}:=z;exact again t O
  |brk=>let{c,q,t,z}:=z;exact⟨c,q,t.mS,z⟩
  |ret v=>let{x7,c,q,t,r7,z}:=z;exact⟨x7,c,q,t.mS,r7,z⟩
theorem Inv.lst(I:Inv X j σ H s)(h:H p=ρ (.lst xs)) :
 ∃(g:List Value) (n:Nat),Vals xs g/\s.heap.get? p=ρ {cls:=.type "list",data:=.seq g.toArray n}/\xs.9<=sizeLine:=by
 let{z,g,n,r,e}:=I.aT p _ h
 exact⟨g,n,r,e,z⟩
inductive N7(o i v:V)(H:Hp)(Q:Hp->Prop):Prop
 |mk (p xs k j) (_:o=.ref p) (_:i=.int k) (_:H p=ρ (.lst xs)) (_:BZ xs.length k=ρ j) (_:Q (upd H p (.lst (xs.set j v))))
def Qw(K:Á)(T:String)(x:V)(H:Hp):Prop:=match x with
 |.str _=>T="str"
 |.int _=>T="int"
 |.ref p=>(T="list"/\∃xs,aG K H p xs)\/(T="tuple"/\∃o,K.lookup p=ρ o/\o.cls=.type "tuple"/\o.dict=τ) \/
   (T="dict"/\((∃kvs,H p=ρ (.dK kvs))\/∃kvs,H p=ρ (.dT kvs)))\/(T="set"/\∃S n,H p=ρ (.set S n))
 |_=>False
def N8(K:Á)(T:String)(r:V->List V->Hp->VK->Prop)(to:TE):TE:=λσ H Q=>to σ H λx H1=>Qw K T x H1/\r x [] H1 Q
def Tj(K:Á)(T:String)(r:V->List V->Hp->VK->Prop)(to:TE)(t:TA):TE:=λσ H Q=>to σ H λx H1=>Qw K T x H1/\t σ H1 λxs H2=>r x xs H2 Q
inductive HC(x:V)(vs:List V)(H:Hp)(Q:VK):Prop
 |mk (l xs y) (_:x=.ref l) (_:vs=[y]) (_:H l=ρ (.lst xs)) (_:xs.9<sizeLine) (_:Q .non (upd H l (.lst (xs++[y]))))
inductive Qx(x:V)(vs:List V)(H:Hp)(Q:VK):Prop
 |mk (l xs y) (_:x=.ref l) (_:vs=[]) (_:H l=ρ (.lst xs)) (_:xs[xs.9-1]?=ρ y) (_:Q y (upd H l (.lst xs.dropLast)))
inductive Qy(x y:V)(H:Hp)(Q:VK):Prop
 |mk (l b xs zs) (_:x=.ref l) (_:y=.ref b) (_:H l=ρ (.lst xs)) (_:H b=ρ (.lst zs)) (_:xs.9+zs.9<=sizeLine) (_:∀p,H p=τ->Q (.ref p) (upd H p (.lst (xs++zs))))
inductive Qz(x y:V)(H:Hp)(Q:VK):Prop
 |mk (l k xs) (_:x=.ref l) (_:y=.int k) (_:H l=ρ (.lst xs)) (_:-(2^63)<=k) (_:k<2^63) (_:xs.9*k.toNat<=sizeLine) (_:∀p,H p=τ->Q (.ref p) (upd H p (.lst (ë k.toNat xs).flatten)))
def Only(H:Hp):Prop:=∀b,H b=τ\/∃o xs,H b=ρ (.frz o (.lst xs))
theorem Ef{P:É}{w:World}{K:Á}{mg I:Str->Option Value}{CX:DC}{k:Nat}{J a:Addr}{fd:ì}{x:Str}{sp:Sp}{g:Shared}{vs:List Value}{ns:List Int}
 (KX:K.In g.heap) (p:g.heap.Ns í mg) (j:g.heap.Ns builtinsNs I) (T:∀x:Str,x≠"__name__"->I x=é x) (t:g.heap.NoLimit) (hg:g.gens=#[])
 (ha:g.heap.get? a=ρ {cls:=.type "list",data:=.seq vs.6}) (hi:IntsAre vs ns) (hl:ns.9<=sizeLine) (hr:cG k callerA)
 (F:∀base:Heap,K.In base->base.Ns í mg->aP P w K mg base CX k J fd [x] sp) (l:∀(s:Shared) (u:Value),BindsTo s fd {[u],[]} [(x,u)])
 (U:∀H:Hp,Only H->aG K H a (ns.map V.int)->sp [.ref a] H (λv _=>v=.bl true) λ_ _ _=>False)
 (VO:∀H e s',CX [] H g (λ_ _ _=>False) e s'->False) :
 codeAny (model P w) callerA (.call (.ref J) {[.ref a],[]}) (λr s'=>r=.ok (.ret (.bool true))/\OldK g.heap s'.heap/\s'.os=g.os/\AllBare s'.gens) g:=by
 have G:=uU hi;have f:=hi.9
 have core:∀H:Hp,Only H->aG K H a (ns.map V.int)->iT P w H g.heap->(∀b,H b≠τ->b=a)->(H a≠τ->K.lookup a=τ) ->
  codeAny (model P w) callerA (.call (.ref J) {[.ref a],[]}) (λr s'=>r=.ok (.ret (.bool true))/\OldK g.heap s'.heap/\s'.os=g.os/\AllBare s'.gens) g:=by
  intro H L O aT M Q;have Bg:∀{b:Addr} {o:Obj},g.heap.get? b=ρ o->H b=τ->(wm g.heap H).get? b=ρ o:=λe n=>DL e n
  have D:∀{b:Addr} {o:Obj} {i:Array DictEntry} {y:Nat},g.heap.get? b=ρ o->o.data=.dict i y->H b=τ:=λ{b o i y} e d=>by
   cases q:H b with
   |none=>rfl
   |some u=>
    have E:b=a:=M b (by rw[q];simp);subst E;rw[ha]at e;cases e;have R:Data.seq vs.toArray _=Data.dict i y:=d;cases R
  have c:∀{b:Addr} {m:Str->Option Value},g.heap.Ns b m->(wm g.heap H).Ns b m:=λ{b m} ⟨o,i,y,e,d,r⟩=>{o,i,y,Bg e (D e d),d,r}
  have A:K.In (wm g.heap H):=λb o e=>Bg (KX b o e) (by
   cases q:H b with
   |none=>rfl
   |some u=>
    have E:b=a:=M b (by rw[q];simp);subst E
    rw[Q (by rw[q];simp)]at e;cases e)
  have S:Mod K mg (wm g.heap H):={A,c p,{I,c j,T},let ⟨X,Y,Z⟩:=t;{X,c Y,Z}};have e0:zI P w K mg (wm g.heap H) callerA [] g H:={rfl,S,λb o e=>GZ e,weh (BV _ _),trivial,λb j=>absurd (show b∈([]:List Addr) from j) (by simp),aT,.of_eq hg};refine ē ((F _ A (c p)).run callerA [] g H {[.ref a],[]} [.ref a] [.ref a] _ _ hr e0 (l g (.ref a)) (.cons rfl .nil) (U H L O)) λr s' h=>?_
  cases r with
  |error e=>exact(VO H e s' h).elim
  |ok fl=>
   cases fl with
   |next=>exact ç h
   |brk=>exact ç h
   |cont=>exact ç h
   |ret u=>
    let{v,H',os,bare,un,B,r',q}:=h
    have q':v=.bl true:=q;subst q';obtain rfl:u=wgl true:=r';refine{rfl,OldK.of_keep λb o e=>?_,os,bare}
    cases q:H b with
    |none=>exact un.keep b o e q (by intro z;exact absurd (show b∈([]:List Addr) from z) (by simp)) (by simp)
    |some u=>
     rcases L b with z |⟨ob,xs,z⟩
     .rw[q]at z;cases z
     .have z2:=un.mM b ob _ z
      let{N,_}:=aT b _ z
      let{e2,_}:=B b _ z2
      rw[e]at N;cases N;exact e2
 cases hk:K.lookup a with
 |some o=>
  have e:=KX a o hk;rw[ha]at e;cases e;refine core (λ_=>τ) (λ_=>.inl rfl) (.inr {_,vs.6,_,hk,rfl,rfl,rfl,by rw[â,f];exact hl,by simpa using G}) (λb u z=>by have C:(τ:Option HO)=ρ u:=z;cases C) (λb z=>absurd rfl z) λz=>absurd rfl z
 |none=>
  refine core (λb=>if b=a then ρ (.frz {cls:=.type "list",data:=.seq vs.6} (.lst (ns.map V.int))) else τ) (λb=>?_) (.inl (.inr {{cls:=.type "list",data:=.seq vs.6},if_pos rfl})) (λb u z=>?_) (λb z=>?_) λ_=>hk
  .by_cases j:b=a
   .exact .inr {_,_,if_pos j}
   .exact .inl (if_neg j)
  .by_cases j:b=a
   .have C:=(if_pos j).symm.trans z;cases C;subst j;exact{ha,by rw[À];exact hl,vs,_,G,ha}
   .have C:=(if_neg j).symm.trans z;cases C
  .by_cases j:b=a
   .exact j
   .exact absurd (if_neg j) z
def lz(J:It)(l:Addr)(σf:St)(tt:TT)(te:TE)(H:Hp)(Q:Hp->Prop):Prop:=
 ∃W:Nat->Nat->List V->Hp->Prop,(∃m,W 0 m [] (upd H l (.lst [])))/\∀i m ys H2,W i m ys H2->H2 l=ρ (.lst ys) /\
  ((J.stop i H2/\Q H2)\/(J.go i H2/\ys.9<sizeLine/\∀x H3,J.ug i H2 x H3->tt (ρ x::σf) H3 λb H4=>
    if b=true then te (ρ x::σf) H4 λy H5=>H5 l=ρ (.lst ys)/\∃m',m'<m/\W (i+1) m' (ys++[y]) (upd H5 l (.lst (ys++[y])))
    else ∃m',m'<m/\W (i+1) m' ys H4))
def vh(g:TG)(n:Nat)(J:It)(l:Addr)(σf:St)(tt:TT)(te:TE)(H:Hp)(Q:Hp->Prop):Prop:=
 ∃W:Nat->Nat->List V->Hp->Prop,(∃m,W 0 m [] (upd H l (.lst [])))/\∀i m ys H2,W i m ys H2->H2 l=ρ (.lst ys) /\
  ((J.stop i H2/\Q H2)\/(J.go i H2/\ys.9<sizeLine/\∀x H3 vs,vs.9=n->J.ug i H2 x H3->g x (vs++σf) H3 λσ' H'=>(∃N9,N9.length=n/\σ'=N9++σf)/\tt σ' H' λb H4=>
    if b=true then te σ' H4 λy H5=>H5 l=ρ (.lst ys)/\∃m',m'<m/\W (i+1) m' (ys++[y]) (upd H5 l (.lst (ys++[y])))
    else ∃m',m'<m/\W (i+1) m' ys H4))
theorem Bh(h:lz J l g j o H Q):vh (dM 0) 1 J l g j o H Q:=
 let ⟨W,a,t⟩:=h
 {W,a,λi m d e w=>let ⟨p,q⟩:=t i m d e w;{p,q.imp id λ⟨a,b,c⟩=>{a,b,λx f k n y=>by revert k;refine gW 1 _ ?_;exact λ_=>{{[ρ x],rfl,rfl},c x f y}}}}
def Nb(wi:TI)(ix:List Nat)(tt:TT)(te:TE):TE:=λσ H Q=>wi σ H λJ H1=>∀l,H1 l=τ->lz J l (pick σ ix) tt te H1 (λH2=>Q (.ref l) H2)
def Kr(wi:TI)(ix:List Nat)(tt:TT)(te:TE)(i:Nat):TS:=λD σ H=>wi σ H λJ H1=>∀l,H1 l=τ->lz J l (pick σ ix) tt te H1 (λH2=>D.nx (σ.set i (ρ (.ref l))) H2)
theorem cV{Ok:Hp->Prop}{Q:Hp->Prop}(p:V->Bool)(g:V->V)(T:jB J Ok xs)(hl:H l=τ)(hz:xs.9<=sizeLine)(t:∀j,a8 H j->Ok j)
 (U:∀x r C,x∈xs->a8 H r->(∀j,a8 r j->C (p x) j)->tt (ρ x::I) r C)
 (he:∀x r C,x∈xs->p x=true->a8 H r->(∀j,a8 r j->C (g x) j)->te (ρ x::I) r C)
 (hd:∀j,a8 H j->j l=ρ (.lst ((xs.filter p).map g))->Q j):lz J l I tt te H Q:=by
 refine{λi m n d=>m=xs.9-i/\i<=xs.9/\a8 H d/\d l=ρ (.lst n)/\n=((xs.take i).filter p).map g,{xs.9,by simp,à _,a8.upd hl,a5,by simp},?_};rintro i m n d ⟨rfl,hi,c,h,k⟩;refine{h,?_}
 by_cases a:i<xs.9
 .refine .inr {T.go i d (t _ c) a,?_,λx r y=>?_}
  .rw[k,À];refine Ě (ľ _ _) ?_;rw[Û];omega
  .let{e,s}:=T.ug i d x r (t _ c) a y
   subst e;have mem:x∈xs:=á s;have u:xs.take (i+1)=xs.take i++[x]:=by rw[Ć,s];rfl
   refine U x _ _ mem c λw f=>?_
   cases q:p x with
   |false=>
    rw[if_neg ß];refine{xs.9-(i+1),1.0,rfl,a,c.trans f,f _ _ h,?_};rw[u,Ň,k];simp[q]
   |true=>
    rw[if_pos rfl];refine he x _ _ mem q (c.trans f) λz v=>?_;refine{v _ _ (f _ _ h),xs.9-(i+1),1.0,rfl,a,?_,a5,?_}
    .intro b o e;rw[aa (a9 e hl)];exact v _ _ (f _ _ (c _ _ e))
    .rw[u,Ň,k];simp[q]
 .have e:i=xs.9:=1.0;subst e;refine .inl {T.stop d (t _ c),hd d c ?_};rw[h,k,ä]
theorem Eg{Ok:Hp->Prop}{Q:Hp->Prop}(R:V->Prop)(r:jB J Ok xs)(hl:H l=τ)(C:xs.9<=sizeLine)(j:∀g,a8 H g->Ok g)
 (he:∀x p I,x∈xs->a8 H p->(∀y g,R y->a8 p g->I y g)->T (ρ x::t) p I)
 (hd:∀ys g,a8 H g->ys.9=xs.9->(∀y∈ys,R y)->g l=ρ (.lst ys)->Q g):lz J l t qw T H Q:=by
 refine{λi m ys a=>m=xs.9-i/\i<=xs.9/\a8 H a/\a l=ρ (.lst ys)/\ys.9=i/\∀y∈ys,R y,{xs.9,by simp,à _,a8.upd hl,a5,rfl,λy f=>(nomatch f)},?_};rintro i m ys a ⟨rfl,hi,d,h,k,n⟩;refine{h,?_}
 by_cases c:i<xs.9
 .refine .inr {r.go i a (j _ d) c,(),λx p y=>?_}
  let{e,u}:=r.ug i a x p (j _ d) c y
  subst e;unfold qw;dsimp only;rw[if_pos rfl];refine he x _ _ (á u) d λz v C s=>?_;refine{s _ _ h,xs.9-(i+1),(),rfl,c,?_,a5,by simp[k],λy f=>?_}
  .intro b o e;rw[aa (a9 e hl)];exact s _ _ (d _ _ e)
  .rcases Ú.mp f with q |q
   .exact n y q
   .have:y=z:=by simpa using q
    subst this;exact C
 .have e:i=xs.9:=();subst e;exact .inl {r.stop a (j _ d),hd ys a d k n h}
set_option genInjectivity true in
inductive iQ where
 |at (v:V)
 |tup (ds:List iQ)
 |lst (ds:List iQ)
mutual
def bu(K:Á)(H:Hp):iQ->V->Prop
 |.at x,v=>v=x/\Kd x=true
 |.tup ds,v=>∃a xs,v=.ref a/\H a=ρ (.tup xs)/\b7 K H ds xs
 |.lst ds,v=>∃a xs,v=.ref a/\Rd H a (.lst xs)/\b7 K H ds xs
def b7(K:Á)(H:Hp):List iQ->List V->Prop
 |[],xs=>xs=[]
 |d::ds,xs=>∃v vs,xs=v::vs/\bu K H d v/\b7 K H ds vs
end
noncomputable def JD(q:Str×Str):iQ:=.tup [.at (.str q.1),.at (.str q.2)]
theorem b7.oH{K:Á}{H:Hp}:∀(g:List iQ) (ys:List V),g.9=ys.9->(∀(i:Nat) (d:iQ) (y:V),g[i]?=ρ d->ys[i]?=ρ y->bu K H d y)->b7 K H g ys
 |[],[],_,_=>rfl
 |[],_::_,h,_=>by simp at h
 |_::_,[],h,_=>by simp at h
 |d::g,y::ys,h,r=>{y,ys,rfl,r 0 d y rfl rfl,b7.oH g ys (by simpa using h) λi a b c e=>r (i+1) a b c e}
theorem b7.get{K:Á}{H:Hp}:∀{g:List iQ} {xs:List V},b7 K H g xs->∀(i:Nat) (x:V),xs[i]?=ρ x->∃d,g[i]?=ρ d/\bu K H d x
 |[],_,h,i,x,e=>by
  rw[show _=[] from h]at e;simp at e
 |d::g,_,h,i,x,e=>by
  let{v,a,rfl,b,hl}:=h
  cases i with
  |zero=>grind
  |succ i=>exact b7.get hl i x e
theorem gg{K:Á}{H:Hp}{d:iQ}{v:V}:∀{g:List iQ} {xs:List V},b7 K H g xs->bu K H d v->b7 K H (g++[d]) (xs++[v])
 |[],xs,h,r=>by
  have e:xs=[]:=h;subst e;exact{v,[],rfl,r,rfl}
 |c::g,_,h,r=>by
  let{v0,a,rfl,b,hl}:=h
  exact{v0,a++[v],rfl,b,gg hl r}
theorem b7.pick{K:Á}{H:Hp}(p:Nat->Bool):∀(k:Nat) (g:List iQ) (xs:List V),b7 K H g xs->b7 K H (b6 p k g) (b6 p k xs)
 |_,[],xs,h=>by
  have e:xs=[]:=h;subst e;rfl
 |k,d::g,_,h=>by
  let{v,a,rfl,c,hl}:=h
  have b:=b7.pick p (k+1) g a hl;show b7 K H (if p k then d::b6 p (k+1) g else b6 p (k+1) g) (if p k then v::b6 p (k+1) a else b6 p (k+1) a)
  cases p k with
  |true=>exact{v,_,rfl,c,b}
  |false=>exact b
theorem b7.set{K:Á}{H:Hp}{d:iQ}{v:V}:∀{g:List iQ} {xs:List V},b7 K H g xs->∀i:Nat,bu K H d v->b7 K H (g.set i d) (xs.set i v)
 |[],xs,h,i,r=>by
  have e:xs=[]:=h;subst e;exact h
 |c::g,_,h,0,r=>by
  let{v0,a,rfl,b,hl}:=h
  exact⟨v,a,rfl,r,hl⟩
 |c::g,_,h,i+1,r=>by
  let{v0,a,rfl,b,hl}:=h
  exact{v0,a.set i v,rfl,b,b7.set hl i r}
end
section
variable{P:É}{w:World}{H H':Hp}{h h':Heap}{a:Addr}{o:HO}
theorem bq.lt(x:bq P w H h a o):a<h.7:=by
 cases o with
 |lst c=>let{_,_,_,_,e}:=x;exact Ë e
 |tup c=>let{_,_,_,p}:=x;exact p.lt
 |dK b=>let{_,_,_,_,o,_,_,e,_}:=x;exact Ë e
 |dT b=>let{_,_,_,_,o,_,_,e,_}:=x;exact Ë e
 |set S n=>let{o,_,_,_,e,_}:=x;exact Ë e
 |ins C d fs=>let{_,_,_,e,_}:=x;exact Ë e
 |own y=>let{_,e}:=x;exact Ë e
 |xd fs=>let{_,{_,_,_,e,_},_}:=x;exact Ë e
 |rng lo hi=>let{_,_,_,e}:=x;exact Ë e
 |frz ob u=>let{e,_}:=x;exact Ë e
 |tbl ps=>exact Ë (show h.get? a=ρ _ from x)
 |met f y=>exact Ë (show h.get? a=ρ _ from x)
 |ext φ=>let{_,{_,e},_}:=x;exact Ë e
theorem bq.qy(x:bq P w H h a o)(k:∀b u,(b=a\/H b=ρ (.own a))->h.get? b=ρ u->h'.get? b=ρ u)
 (I:∀b,H b=ρ (.own a)->H' b=ρ (.own a)) (J:∀b xs,H b=ρ (.tup xs)->H' b=ρ (.tup xs)):bq P w H' h' a o:=by
 induction o with
 |lst xs=>let{z,j,n,r,e}:=x;exact{z,j,n,r,k _ _ (.inl rfl) e}
 |tup xs=>let{z,j,r,ob,e,c}:=x;exact{z,j,r,ob,k _ _ (.inl rfl) e,c}
 |dK l=>let{z,y,A,r,ob,g,i,e,c}:=x;exact{z,y,A,r,ob,g,i,k _ _ (.inl rfl) e,c}
 |dT l=>
  let{z,y,xs,r,ob,g,i,e,c}:=x
  exact{z,y,xs,Paired.Kj r λp q z=>{z.1,J _ _ z.2.1,z.2.2},ob,g,i,k _ _ (.inl rfl) e,c}
 |set S n=>let{ob,g,i,t,e,c}:=x;exact{ob,g,i,t,k _ _ (.inl rfl) e,c}
 |ins C E fs=>
  let{d,z,ne,e,m,{s,g,i,B,c},r}:=x
  exact{I _ d,z,ne,k _ _ (.inl rfl) e,m,{s,g,i,k _ _ (.inr d) B,c},r}
 |own y=>let{ob,e}:=x;exact{ob,k _ _ (.inl rfl) e}
 |xd fs=>let{m,{s,g,i,e,c},r}:=x;exact{m,{s,g,i,k _ _ (.inl rfl) e,c},r}
 |rng lo hi=>let{t,u,v,e}:=x;exact{t,u,v,k _ _ (.inl rfl) e}
 |frz ob u D=>let{e,q}:=x;exact{k _ _ (.inl rfl) e,D q}
 |tbl ps=>
  have e:h.get? a=ρ {cls:=.none,data:=.fields ps}:=x;show h'.get? a=ρ {cls:=.none,data:=.fields ps};exact k a _ (.inl rfl) e
 |met f y=>
  have e:h.get? a=ρ (wf4 (.ref f) (.ref y)):=x;show h'.get? a=ρ (wf4 (.ref f) (.ref y));exact k a _ (.inl rfl) e
 |ext φ=>let{p,{o,e},st}:=x;exact⟨st _ _ p λo q=>k _ _ (.inl rfl) q,⟨o,k _ _ (.inl rfl) e⟩,st⟩
theorem iT.lt(x:iT P w H h)(e:H a=ρ o):a<h.7:=(x a o e).lt
theorem iT.fresh(x:iT P w H h)(e:h.7<=a):H a=τ:=by
 cases q:H a with
 |none=>rfl
 |some u=>exact absurd (Þ (x.lt q) e) (þ _)
theorem iT.kept(x:iT P w H h)(k:∀b u,h.get? b=ρ u->h'.get? b=ρ u):iT P w H h':=λa o e=>
 (x a o e).qy (λb u _ q=>k b u q) (λ_ q=>q) λ_ _ q=>q
theorem iT.laid(x:iT P w H h)(k:∀b u,h.get? b=ρ u->h'.get? b=ρ u)(g:h.7<=a)(new:bq P w (upd H a o) h' a o):iT P w (upd H a o) h':=λb u e=>by
 have hn:=x.fresh g
 by_cases d:b=a
 .grind [a5]
 .rw[aa d]at e;exact(x b u e).qy (λc v _ q=>k c v q) (λc q=>by rw[aa (a9 q hn)];exact q) λc f q=>by rw[aa (a9 q hn)];exact q
theorem Eh(ok:iT P w H h)(e:Rd H a u):bq P w H h a u:=e.ok ok
theorem hH(ok:iT P w H h)(e:Rd H a (.dK kvs)):kvs.9<=sizeLine/\(a==ļ)=false/\∃vs,KV kvs vs/\h.DictOf (b8 P w) a vs:=
 show bq P w H h a (.dK kvs) from Eh ok e
theorem rN(ok:iT P w H h)(e:H a=ρ (.dK kvs)):kvs.9<=sizeLine/\(a==ļ)=false/\∃vs,KV kvs vs/\h.DictOf (b8 P w) a vs:=hH ok (.inl e)
theorem oI(ok:iT P w H h)(e:H a=ρ (.tup (g.map kV))):(γ (b8 P w)).is h g a:=by
 let{_,b,r,o,c,d,n,f}:=(show bq P w H h a (.tup (g.map kV)) from ok a _ e)
 exact{o,b.6,n,c,d,f,by simpa using uT r}
theorem rP(ok:iT P w H h)(e:Rd H a (.dT kvs)):kvs.9<=sizeLine/\(a==ļ)=false /\
 ∃xs,KT H kvs xs/\h.DictOfH (γ (b8 P w)) a xs:=by
 let{z,y,xs,r,o,b,c,d,f,g,i,j}:=(show bq P w H h a (.dT kvs) from Eh ok e)
 refine{z,y,xs,r,o,b,c,d,f,g,i,λx k=>?_,j}
 have all:∀{l:List (List Key×V)} {m:List (List Key×Addr×Value)},KT H l m->∀x∈m,(γ (b8 P w)).is h x.1 x.2.1:=by
  intro l m q
  induction q with
  |nil=>grind
  |@cons p q ps n s t u=>
   grind [oI]
 exact all r x k
theorem Nc(ok:iT P w H h)(e:H a=ρ (.dT kvs)):kvs.9<=sizeLine/\(a==ļ)=false /\
 ∃xs,KT H kvs xs/\h.DictOfH (γ (b8 P w)) a xs:=rP ok (.inl e)
theorem gB{X:Cx}{K:Á}(g:X.K=K):jE X (ò .In) (OY K false):=by
 subst g;exact vg
theorem uk{X:Cx}{K:Á}(g:X.K=K):jE X (ò .NotIn) (OY K true):=by
 subst g;exact fZ
theorem fH{X:Cx}{K:Á}(g:X.K=K):M6 X (MB K):=by
 subst g;exact bI
end
section
variable{X:Cx}{pins:List (Addr×Obj)}{σ:List (Option V)}{H:Hp}{s:Shared}{h':Heap}
theorem Inv.lt(I:Inv X pins σ H s):X.env.locals<s.8:=let ⟨_,hn,_⟩:=I.loc;hn.lt
theorem Inv.sz(I:Inv X pins σ H s):X.s₀.8<=s.8:=Ï I.ok.above (ŷ I.lt)
theorem Inv.QA(I:Inv X pins σ H s)(h:s.8<=a):a∉X.fs:=λb=>by
 let{_,o,c,_}:=I.ok.mN.mem b
 exact absurd (Þ (Ë c) (Ï I.sz h)) (þ _)
theorem Inv.turned{t':Nat}{it:Addr}(I:Inv X pins σ H s)(k:∀b o,b≠it->s.heap.get? b=ρ o->h'.get? b=ρ o)(hn:H it=τ)(g:it≠X.env.locals)
 (j:it∈X.ex\/X.s₀.8<=it) (l:∀x c,X.env.cells.lookup x=ρ c->c≠it) (t:∀p∈X.pn++pins,p.1≠it):Inv X pins σ H {s with heap:=h',toks:=t'}:=by
 have a:∀b u,H b=ρ u->b≠it:=λb u e z=>by rw[z,hn]at e;cases e
 refine I.step (g':=s.gens) (d':=s.drawn) (ch:=[it]) (λb d=>?_) (λb o _ _ hc e _=>k b o (λz=>hc (by simp[z])) e) (λb o _ _ hc e _=>{o.slots,k b o (λz=>hc (by simp[z])) e}) (λ_ _ _ _ n=>n)
  (λb o hc e=>{o,k b o (λz=>hc (by simp[z])) e}) (λ_ _ e=>e) (λ_ _ _ e=>e) (λb ps e=>{#[],by rw[e];simp}) (λm f=>?_) (λb u e=>?_) I.bare
 .have e:b=it:=by simpa using d
  subst e;exact⟨j,g,l,t⟩
 .let{o,h,i,w,r}:=f
  exact{o,h,i,k _ o (è g) w,r}
 .refine(I.aT b u e).qy (λc v hc q=>k c v ?_ q) (λ_ q=>q) λ_ _ q=>q;rcases hc with z |z
  .rw[z];exact a b u e
  .exact a c _ z
theorem vi{M:Model}{A:Around}{E:Value->Shared->Prop}{i:Nat}{x:Str}{v:V}{u:Value}{Q:Unit->Shared->Prop}(I:Inv X pins σ H s)(hN:X.N.Nodup)(hi:X.N[i]?=ρ x)(t:Loc X.env.scope x)(r:RelV v u)
 (h:∀s',Inv X pins (σ.set i (ρ v)) H s'->(∃a,wei a s.heap s'.heap/\(a=X.env.locals\/X.env.cells.lookup x=ρ a))->Q .unit s') (hf:X.fn x=true\/X.env.scope.names.lookup x=ρ .local:=by first |exact .inl rfl |exact .inr rfl |assumption):wpAny M A (storeName X.env x u) Q E s:=by
 let{m,hn,hl}:=id I.loc
 have L:(X.env.scope.kind == .class ||(X.env.scope.kind == .module&&X.env.locals != X.env.globals))=false:=by rw[I.ok.kind];rfl
 have hiσ:i<σ.9:=by rw[I.len];exact(Ö.mp hi).1
 have E8:=I.E8
 have g:∀{a:Addr} {h':Heap},(∃o,s.heap.get? a=ρ o/\H a=τ)->wei a s.heap h'->iT X.prog X.w H h':=λ{a h'} ha f b ob e=>by
  let{_,_,B}:=ha
  refine(I.aT b ob e).qy (λc U hc q=>(f.2 c ?_).trans q) (λ_ q=>q) λ_ _ q=>q;rintro rfl;rcases hc with rfl |hc
  .rw[B]at e;cases e
  .rw[B]at hc;cases hc
 rcases t with hk |hk
 .refine wpAny_storeName_local hk hn (λh' Z f=>?_) L
  let{oL,_,_,VP,_}:=id hn
  refine h _ {I.ok,I.os,I.bare,{λb o e n D t=>?_,λb o e n D t=>?_,I.base.free,λb o e t=>?_,I.base.oA,I.base.mM,I.base.oB},{_,Z,λj y v' l C e3=>?_},λy c e=>?_,I.free,I.gx,λp hp=>?_,g ⟨oL,VP,I.free⟩ f,by simpa using I.len} {_,f,.inl rfl}
  .exact(f.2 b (Ù (Þ (Ë e) I.ok.above))).trans (I.base.keep b o e n D t)
  .let{sl,l}:=I.base.slot b o e n D t
   exact{sl,(f.2 b (Ù (Þ (Ë e) I.ok.above))).trans l}
  .let{o',l}:=I.base.there b o e t
   exact{o',(f.2 b (Ù (Þ (Ë e) I.ok.above))).trans l}
  .by_cases G:j=i
   .subst G;rw[hi]at l;cases l;rw[ξ hiσ]at C;cases C;exact{u,r,.inl {hk,by simp}}
   .rw[ο (è G)]at C
    let{u',r',q}:=hl j y v' l C e3
    refine{u',r',?_};rcases q with⟨k,e⟩ |⟨k,c,e,z⟩
    .refine .inl {k,?_};have:y≠x:=λe=>G (rm hN l (e ▸ hi));simp[this,e]
    .exact .inr {k,c,e,z.sameBut f (E8 y c e)}
  .let{U,z}:=I.cell y c e
   exact{U,z.sameBut f (E8 y c e)}
  .let{e,n,ne,nf,d}:=I.pin p hp
   exact{(f.2 p.1 ne).trans e,n,ne,nf,d}
 .have J:X.fn x=true:=by
   rcases hf with z |z
   .exact z
   .rw[z]at hk;cases hk
  let{c,hc}:=I.ok.has x (.inl hk)
  let{U,z}:=I.cell x c hc
  refine wpAny_storeName_cell I.ok.kind hk hc z (λh' O f=>?_)
  let{oc,R,S}:=id z
  refine h {s with heap:=h'} {I.ok,I.os,I.bare,{λb o e n D t=>?_,λb o e n D t=>?_,I.base.free,λb o e t=>?_,I.base.oA,I.base.mM,I.base.oB},{m,hn.sameBut f (è (E8 x c hc)),λj y v' l C e3=>?_},λy Y e=>?_,I.free,I.gx,λp hp=>?_,g {oc,R,I.gx x c hc} f,by simpa using I.len} {c,f,.inr hc}
  .exact(f.2 b (Ù (Þ (Ë e) (I.ok.K7 x c J hc)))).trans (I.base.keep b o e n D t)
  .let{sl,l}:=I.base.slot b o e n D t
   exact{sl,(f.2 b (Ù (Þ (Ë e) (I.ok.K7 x c J hc)))).trans l}
  .let{o',l}:=I.base.there b o e t
   exact{o',(f.2 b (Ù (Þ (Ë e) (I.ok.K7 x c J hc)))).trans l}
  .by_cases G:j=i
   .subst G;rw[hi]at l;cases l;rw[ξ hiσ]at C;cases C;exact{u,r,.inr {.inl hk,c,hc,O}}
   .rw[ο (è G)]at C
    let{u',r',q}:=hl j y v' l C e3
    refine{u',r',?_};rcases q with q |⟨k,Y,e,z'⟩
    .exact .inl q
    .refine .inr {k,Y,e,z'.sameBut f ?_};rintro rfl;exact G (rm hN l (I.ok.inj _ _ _ e hc ▸ hi))
  .by_cases T:Y=c
   .subst T;exact{_,O}
   .let{w2,z2}:=I.cell y Y e
    exact{w2,z2.sameBut f T}
  .let{e,n,ne,nf,d}:=I.pin p hp
   refine{(f.2 p.1 ?_).trans e,n,ne,nf,d};intro q;rw[q,R]at e;have q':oc=p.2:=Î e;exact d U (by rw[<-q'];exact S)
theorem jM{E:Value->Shared->Prop}{Q:Unit->Shared->Prop}(I:Inv X pins σ H s)(g:X.N.Nodup)(hi:X.N[i]?=ρ x)(j:Loc X.env.scope x)(r:RelV v u)
 (h:∀s',Inv X pins (σ.set i (ρ v)) H s'->Q .unit s') (l:X.fn x=true\/X.env.scope.names.lookup x=ρ .local:=by first |exact .inl rfl |exact .inr rfl |assumption):wpAny M A (storeName X.env x u) Q E s:=
 vi I g hi j r (λs' a _=>h s' a) l
theorem C4{P:É}{w:World}{K:Á}{T:Expr}(a it:Addr):Turn P w K T (M3 K a) [it] it (λi h=>h.IsListIter it a i) where
 mem:=by simp
 obj:=λi h st b g=>by
  have e:b=it:=by simpa using g
  subst e
  let{o,e,c,d}:=st
  exact{o,e,λv z=>by rw[d]at z;cases z}
 keep:=λi h l st k=>st.at λo e=>k it (by simp) o e
 item:=by
  intro X q hw r hc i f s σ H E I m st t;subst q hw r
  let{L,x,n,y}:=t
  let{A,B,p,M}:=I.list n
  let{u,N,O}:=B.get y
  let{C,f1,f2,D,G,J}:=m it (by simp)
  refine wpAny_pyNext_list_item st p.isList (x:=u) (by simpa using N) λl j sb=>?_;have Q:Inv X f σ H {s with heap:=l}:=I.turned (t':=s.toks) (λb o g e=>(sb.2 b g).trans e) C f1 D G J
  let{o,e,c,d}:=id j
  exact{u,rfl,xI (s:={s with heap:=l}) e c d ⋯ {x,H,Q,O,{rfl,λU R=>by rw[I.rM R n];exact y},j,λb g=>(m b g).1}}
 done:=by
   intro X q hw r hc i f s σ H E I m st t;subst q hw r
   let{L,n,y}:=t
   let{A,B,p,M}:=I.list n
   let{C,f1,f2,D,G,J}:=m it (by simp)
   have hl:=B.9;exact wpAny_pyNext_list_end (I.ok.hd hc) st p.isList (by simp;lia) λl S=>{rfl,I.turned (t':=s.toks) (λb o g e=>S b o g e) C f1 D G J}
 self:=λ_ _ _ _ _ st h=>wpAny_pyIter_listiter st h
theorem zK{P:É}{w:World}{K:Á}{C:Expr}(it:Addr)(lo:Int)(n:Nat):Turn P w K C (Jr lo n) [it] it (λi h=>wfW h it (lo+(i:Nat)*1) ((n:Int)-(i:Nat)) 1) where
 mem:=by simp
 obj:=λi h st b c=>by
  have e:b=it:=by simpa using c
  subst e
  exact{_,st,λv z=>by
   have y:weJ _=wfM v:=z
   cases y}
 keep:=λi h f st k=>k it (by simp) _ st
 item:=by
  intro X j hw l hc i a s σ H E I g st m;subst j hw l
  let{p,f1,f2,q,r,u}:=g it (by simp)
  have A:=Walks.range (prog:=X.prog) (w:=X.w) (I.ok.hd hc) it lo 1 n;refine A.item i s _ _ m st λv f x B d D=>?_
  let{t,rfl}:=B
  have G:Inv X a σ H {s with heap:=f,toks:=x}:=I.turned (λb o c e=>D b o (by simpa using c) e) p f1 q r u;refine{1,xI (s:={s with heap:=f,toks:=x}) (n:="range_iterator") d rfl rfl ⋯ {.int (lo+i),H,G,{t,?_},⟨rfl,rfl⟩,d,λb c=>(g b c).1}};rw[Int.mul_one]
 done:=by
   intro X j hw l hc i a s σ H E I g st m;subst j hw l
   let{p,f1,f2,q,r,u}:=g it (by simp)
   exact wfX (I.ok.hd hc) st (by have:n<=i:=m;lia) λf J=>{rfl,I.turned (t':=s.toks) (λb o c e=>J b o c e) p f1 q r u}
 self:=λ_ _ _ _ _ st h=>wfY st h
set_option genInjectivity true in
inductive gY(K:Á)(H:Hp):V->Value->Prop where
 |non:gY K H .non (.type "NoneType")
 |bl (x:Bool):gY K H (.bl x) (.type "bool")
 |int (i:Int):gY K H (.int i) (.type "int")
 |str (x:Str):gY K H (.str x) (.type "str")
 |flt (x:UInt64):gY K H (.flt x) (.type "float")
 |lst {a:Addr} {xs:List V} (e:H a=ρ (.lst xs)):gY K H (.ref a) (.type "list")
 |frz {a:Addr} {o:Obj} {xs:List V} (e:H a=ρ (.frz o (.lst xs))):gY K H (.ref a) (.type "list")
 |tup {a:Addr} {xs:List V} (e:H a=ρ (.tup xs)):gY K H (.ref a) (.type "tuple")
 |dK {a:Addr} {kvs:List (Key×V)} (e:H a=ρ (.dK kvs)):gY K H (.ref a) (.type "dict")
 |dT {a:Addr} {kvs:List (List Key×V)} (e:H a=ρ (.dT kvs)):gY K H (.ref a) (.type "dict")
 |ins {a C dx:Addr} {fs:List (Str×V)} (e:H a=ρ (.ins C dx fs)) (cl:zm K C) (ha:ć K (.ref C) "__class__"=ρ (ρ (.builtin "object.__class__")))
   (hn:wh2 K (.builtin "object.__class__") "__get__"=ρ (ρ (.builtin "getset_descriptor.__get__"))) (jN:PySem.W.takesIn K (.builtin "object.__class__")=ρ true)
   (hm:PySem.W.mroIn K C (.type "object")=ρ true):gY K H (.ref a) (.ref C)
end
section
variable{X:Cx}{a b:Expr}{pos:Pos}{tA P6:TT}{rest:List Expr}
theorem rQ(ha:PT X a tA)(j:PW X (.BoolOp .And (b::rest) pos) P6):PW X (.BoolOp .And (a::b::rest) pos) (Q3 tA P6):=by
 refine{?_};intro i d s σ H Q I h;refine isTrue_and (bG (ha d s σ H _ I h) λc k ⟨e,f,g⟩=>?_)
 cases c with
 |true=>exact j i d k σ e Q f g
 |false=>exact⟨e,f,g⟩
theorem jO(ha:PT X a tA)(j:PW X (.BoolOp .Or (b::rest) pos) P6):PW X (.BoolOp .Or (a::b::rest) pos) (Vw tA P6):=by
 refine{?_};intro i d s σ H Q I h;refine isTrue_or (bG (ha d s σ H _ I h) λc k ⟨e,f,g⟩=>?_)
 cases c with
 |true=>exact⟨e,f,g⟩
 |false=>exact j i d k σ e Q f g
theorem iU(g:X.N.Nodup)(hi:X.N[i]?=ρ x)(j:Loc X.env.scope x)(l:X.fn x=true\/X.env.scope.names.lookup x=ρ .local:=by first |exact .inl rfl |exact .inr rfl |assumption):PG X (.Name x pos) (dM i):=by
 refine{?_};intro a s σ H v u Q I r h;exact wpAny_assign_Name (jM I g hi j r (λc b=>{_,H,b,h}) l)
theorem rR{j e:Expr}{l:TE}{g:TG}(he:PE X e l)(o:PG X j g)(hs:swapsWithSole [j] e pos.line X.5=pure false:=by rfl)(hw:swappedStores [j] e X.5=pure τ:=by rfl)
 (p:(ŏ [j] X.5).map (·.2)=[assign j X.5]:=by rfl):PS X (.Assign [j] e pos) (Hu l g):=by
 refine{?_};intro a s σ H D I h;refine wpAny_Assign_stores (bG (he a s σ H _ I h) λv b ⟨x,c,d,f,i⟩=>?_) hs hw;rw[p];exact bG (o a b σ c x v _ d f i) λ_ k q=>q
theorem Ei{i:Nat}{x:Str}{e:Expr}{j:TE}{g:Pos}(l:X.N.Nodup)(hi:X.N[i]?=ρ x)(o:Loc X.env.scope x)(he:PE X e j)(hs:č e (ρ (.Name x g)) pos.line X.5=pure false:=by rfl)(p:X.fn x=true\/X.env.scope.names.lookup x=ρ .local:=by first |exact .inl rfl |exact .inr rfl |assumption) :
 PS X (.Assign [.Name x g] e pos) (Hu j (dM i)):=by
 refine{?_};intro a s σ H D I h;refine wpAny_Assign_Name (bG (he a s σ H _ I h) λv m ⟨y,b,c,d,f⟩=>?_) hs;exact jM c l hi o d (λn k=>{_,b,k,f}) p
theorem rS{i:Nat}{x:Str}{e:Expr}{o:TE}{op:Operator}{p:Mp}{g:Pos}(t:X.N.Nodup)(hi:X.N[i]?=ρ x)(j:Loc X.env.scope x)(he:PE X e o)(C:P4 X op p)(J:X.fn x=true\/X.env.scope.names.lookup x=ρ .local:=by first |exact .inl rfl |exact .inr rfl |assumption) :
 PS X (.AugAssign (.Name x g) op e pos) (Qp i o p):=by
 refine{?_};intro a s σ H D I h
 let{v,q,h}:=h
 let{m,hn,hl}:=I.loc
 have n:M0 X.env.scope x:=by rcases j with k |k;exact .inl k;exact .inr (.inl k)
 let{u,r,l}:=hl i x v hi q n
 refine wpAny_AugAssign_Name ?_
 have go:wpAny (model X.prog X.w) X.A (eval e X.5) (λw d=>wpAny (model X.prog X.w) X.A (inplaceOp op u w) (λr f=>wpAny (model X.prog X.w) X.A (storeName X.env x r) (λ_=>SP X a D .next) X.xe f) X.xe d) X.xe s:=by
  refine bG (he a s σ H _ I h) λw B ⟨y,E,G,L,M⟩=>?_;refine bG (C a B σ E v y u w _ G r L M) λz V ⟨Y,O,Q,R,S⟩=>?_;exact jM Q t hi j R (λZ T=>{_,O,T,S}) J
 rcases l with⟨hk,U⟩ |⟨hk,c,hc,b⟩
 .exact wgm I.ok.kind hk hn U go
 .rcases hk with hk |hk
  .exact wgD I.ok.kind hk hc b go
  .rcases j with k |k
   .have:X.env.scope.names.lookup x=ρ .free:=hk;rw[k]at this;cases this
   .have:X.env.scope.names.lookup x=ρ .free:=hk;rw[k]at this;cases this
theorem fI{c:Expr}{body:List Stmt}{t:TT}{C:TS}(J:PassesOwn (model X.prog X.w) X.A X.env X.xe)(hc:PT X c t)(T:ui X body C):PS X (.While c body [] pos) (Kq t C):=by
 refine{?_};intro a s σ H D I h
 let{W,{E,G},g}:=h
 refine wpAny_While (codeAny_whileLoop (λn L=>∃i u,Inv X a i u L/\W n i u) ?_ E ⟨σ,H,I,G⟩);rintro n M ⟨e,x,O,Q⟩;refine Ũ J (bG (hc a M e x _ O (g n e x Q)) λb R ⟨y,z,k⟩=>?_)
 cases b with
 |true=>
  let{N,B,k}:=k
  rw[if_pos rfl];refine Ũ J (bG (T a R e y _ z k) λf S l=>?_)
  cases f with
  |next=>
   let{d,j,m,o}:=l
   let{p,q,r}:=B d j o
   exact⟨p,q,d,j,m,r⟩
  |cont=>
   let{d,j,m,o}:=l
   let{p,q,r}:=B d j o
   exact⟨p,q,d,j,m,r⟩
  |brk=>exact l
  |ret v=>exact l
 |false=>
  rw[if_neg ß];exact Ŝ ⟨e,y,z,k⟩
theorem Ej(I:Inv X g σ H s)(r:RelV x v)(ty:Qw X.K T x H) :
 s.TypeIs v T/\∀a,v=.ref a->∃ob,s.heap.get? a=ρ ob/\ob.dict=τ:=by
 cases x with
 |str z=>
  let{t,rfl}:=r
  cases(show T="str" from ty);exact{typeIs_str s z t,λ_ e=>nomatch e}
 |int i=>
  let{t,rfl}:=r
  cases(show T="int" from ty);exact{typeIs_int s i t,λ_ e=>nomatch e}
 |ref p=>
  cases r;rcases ty with⟨rfl,j,f⟩ |⟨rfl,o,hk,hc,hd⟩ |⟨rfl,hk⟩ |⟨rfl,S,n,hk⟩
  .let{h,_,pl,_}:=I.list f
   refine{pl.isList.typeIs,λa e=>?_};cases e
   let{o,n,e,c,hd,_}:=pl
   exact⟨o,e,hd⟩
  .refine{{o,I.fP p o hk,hc},λa e=>?_};cases e;exact{o,I.fP _ o hk,hd}
  .have z:∃o,s.heap.get? p=ρ o/\o.ExactDict:=by
    rcases hk with⟨b,hk⟩ |⟨b,hk⟩
    .let{_,_,_,_,o,_,_,e,ex,_}:=I.aT p _ hk
     exact⟨o,e,ex⟩
    .let{_,_,_,_,o,_,_,e,ex,_}:=I.aT p _ hk
     exact⟨o,e,ex⟩
   let{o,e,ex}:=z
   refine{⟨o,e,ex.1⟩,λa d=>?_};cases d;exact⟨o,e,ex.2.1⟩
  .let{o,_,_,_,e,ex,_}:=I.aT p _ hk
   refine{⟨o,e,ex.1⟩,λa d=>?_};cases d;exact⟨o,e,ex.2.1⟩
 |_=>exact ç ty
theorem forA(hi:PI X j iter l)(r:PG X j g)(I:ui X body J)(T:PassesOwn (model X.prog X.w) X.A X.env X.xe:=by exact Ō)(hc:X.calm=true:=by rfl)(hs:∀x,ň iter X.env x=pure x:=by intro _;rfl):PS X (.For j iter body [] pos) (N6 l g J):=Ee T hc hi r I hs
end
section
variable{t u:TS}
def Ks(t u:TS):TS:=λD σ H=>t (D.Jz (u D)) σ H
def QB(c:TT)(t u:TS):TS:=λD σ H=>c σ H λb H1=>if b=true then t D σ H1 else u D σ H1
theorem Inv.xR{X:Cx}(I:Inv X g σ H s)(j:s.8<=b)(hn:l b=τ):ro X g l b:=by
 refine{hn,Ķ (Þ I.lt j),I.QA j,.inr (Ï I.sz j),λx c e z=>?_,λp a z=>?_}
 .let{v,q}:=I.cell x c e
  exact absurd (Þ q.lt (by rw[z];exact j)) (þ _)
 .exact absurd (Þ (Ë (I.pin p a).1) (by rw[z];exact j)) (þ _)
theorem xS{X:Cx}(I:Inv X j σ H s)(g:cB H a y o):s.TypeIs (.ref a) "dict":=by
 rcases g with⟨c,k,e,_,_⟩ |⟨c,k,b,e,_,_,_⟩
 .let{_,_,f,_,d}:=hH I.aT e
  exact d.typeIs
 .let{_,_,h,_,d}:=rP I.aT e
  exact d.typeIs
theorem Kt{X:Cx}(I:Inv X j σ H s)(d:T7 H a) :
 s.TypeIs (.ref a) "dict"/\(∀b,Æ a=.ref b->∃ob,s.heap.get? b=ρ ob/\ob.dict=τ)/\(a==ļ)=false:=by
 rcases d with⟨f,e⟩ |⟨f,e⟩
 .let{_,hd,i,_,c}:=hH I.aT e
  refine{c.typeIs,λb q=>?_,hd};cases q
  let{ob,_,_,g,h,_}:=c
  exact⟨ob,g,h.2.1⟩
 .let{_,hd,k,_,c}:=rP I.aT e
  refine{c.typeIs,λb q=>?_,hd};cases q
  let{ob,_,_,g,h,_}:=c
  exact⟨ob,g,h.2.1⟩
inductive QC(t u:TS)(D:Ends)(σ:St)(H:Hp):Prop
 |mk (Z) (_:t (D.Jz Z) σ H) (_:∀σ' H',Z σ' H'->u D σ' H')
theorem mV{X:Cx}(g:Be X E):Passes (xE X.prog X.w) X E:=λa σ H s k d I h=>by
 let{e,C,f,i,rfl,c,bare,un,aT,F,j}:=h
 exact g a σ i d e C f (I.vf c un aT bare λb z=>absurd z (by simp)) (F.low I.sz) j
theorem oJ{X:Cx}(I:Inv X g σ H s)(e:H d=ρ (.frz o (.dK kvs)))(j:o.data=.dict p ep) :
 ∃vs,KV kvs vs/\s.heap.DictAt (b8 X.prog X.w) d vs ep:=by
 let{f,_}:=I.aT d _ e
 let{_,_,vs,rel,h,a,i,b,k,c,l}:=hH I.aT (.inr ⟨o,e⟩)
 refine{vs,rel,h,a,b,k,?_,l};rw[f]at b;cases b;rw[c]at j;cases j;exact c
end
section
variable{X:Cx}{pins:List (Addr×Obj)}{σ:St}{H:Hp}{s:Shared}{E:Value->Shared->Prop}
theorem Inv.kZ(I:Inv X pins σ H s)(E:Value->Shared->Prop):Inv (X.kZ E) pins σ H s:={I.ok.kZ E,I.os,I.bare,I.base,I.loc,I.cell,I.free,I.gx,I.pin,I.aT,I.len}
theorem Inv.eG(I:Inv (X.kZ E) pins σ H s):Inv X pins σ H s:=⟨I.ok.eG,I.os,I.bare,I.base,I.loc,I.cell,I.free,I.gx,I.pin,I.aT,I.len⟩
theorem SP.eG(h:SP (X.kZ E) pins D f s'):SP X pins D f s':=by
 cases f with
 |next=>let{a,b,I,q}:=h;exact⟨a,b,I.eG,q⟩
 |brk=>let{a,b,I,q}:=h;exact⟨a,b,I.eG,q⟩
 |cont=>let{a,b,I,q}:=h;exact⟨a,b,I.eG,q⟩
 |ret u=>let{v,a,b,I,r,q}:=h;exact⟨v,a,b,I.eG,r,q⟩
theorem ui.Hg{st:List Stmt}{t:TS}(h:ui X.Hg st t):ui X st t:={λpins s σ H D I hw=>
 ê (h pins s σ H D (I.kZ _) hw) (λ_ _ q=>q.eG) λ_ _ z=>ç z}
theorem Inv.Ek(I:Inv X pins σ H s):zI X.prog X.w X.K X.mg X.base X.A X.stack s H:=
 {I.ok.frames,I.ok.mod,I.bs,Ï I.ok.DM I.sz,I.stack,I.qP,I.aT,I.bare}
theorem Inv.fresh(I:Inv X pins σ H s):H s.8=τ:=I.aT.fresh (Å _)
theorem Inv.big(I:Inv X pins σ H s):ļ<s.8:=by
 have h:í<s.8:=(I.mod.glob.keeps I.bk).lt;exact Nat.lt_trans ⋯ h
end
section
variable{X:Cx}{e:Expr}{es:List Expr}{te:TE}{t:TJ}{pos:Pos}
theorem bo(he:PE X e te)(hs:č e τ pos.line X.5=pure false:=by rfl):PS X (.Expr e pos) (N5 te):=by
 refine{?_};intro a s σ H D I h;exact wpAny_Expr_any (bG (he a s σ H _ I h) λv f ⟨x,b,c,g,d⟩=>⟨σ,b,c,d⟩) I.quiet hs
theorem av(he:PE X e te):PS X (.Return (ρ e) pos) (Qr te):=by
 refine{?_};intro a s σ H D I h;exact wpAny_Return_some (bG (he a s σ H _ I h) λv g ⟨x,b,c,d,f⟩=>⟨x,σ,b,c,d,f⟩)
theorem cL(h:PE X e te):PO X (ρ e) (My te):=by
 refine{?_};intro a s σ H Q I hw;rw[evalPart_some];refine bG (h a s σ H _ I hw) λu g ⟨x,b,c,d,f⟩=>?_
 let{i,rfl,q}:=f
 let{t,rfl}:=d
 exact{ρ i,b,c,.int i t,q}
noncomputable def QD(z:Str)(t:TJ):TJ:=λacc σ H Q=>(acc++z).9<=sizeLine/\t (acc++z) σ H Q
noncomputable def QE(te:TE)(t:TJ):TJ:=λacc σ H Q=>te σ H λv H1=>(∃i,v=.int i/\i.natAbs.log2<1920/\(acc++(toString i:String)).length<=sizeLine/\t (acc++(toString i:String)) σ H1 Q)\/(∃z,v=.str z/\z.9<=sizeLine/\(acc++z).9<=sizeLine/\t (acc++z) σ H1 Q)
theorem HD(h:PJ X (e::g::es) t):PE X (.JoinedStr (e::g::es) pos) (λσ H Q=>t Str.empty σ H λz j=>Q (.str z) j):={λa s σ H Q I q=>
 JoinedStr_many (bG (h a s σ H _ _ I q) λu f ⟨z,b,c,r,d⟩=>{.str z,b,c,r,d})}
theorem AP.eG{E:Value->Shared->Prop}{Q:List V->Hp->Prop}(h:AP (X.kZ E) g σ Q us s'):AP X g σ Q us s':=by
 let{a,b,I,r,q}:=h
 exact⟨a,b,I.eG,r,q⟩
end
section
variable{X:Cx}{st:Stmt}{rest:List Stmt}{t u:TS}
theorem a6(g:PS X st t)(j:ui X rest u):ui X (st::rest) (Ks t u):=by
 refine{?_};intro a s σ H D I h;refine wdj (bG (g a s σ H (D.Jz (u D)) I h) λf c q=>?_)
 cases f with
 |next=>
  let{b,d,e,q}:=q
  exact j a c b d D e q
 |ret v=>exact q
 |brk=>exact q
 |cont=>exact q
theorem ae(g:PS X st t):ui X [st] t:=by
 refine{?_};intro a s σ H D I h;refine wdj (bG (g a s σ H D I h) λf b q=>?_)
 cases f with
 |next=>exact Ŝ q
 |ret v=>exact q
 |brk=>exact q
 |cont=>exact q
theorem HE(g:PS X st t)(j:ui X rest u):ui X (st::rest) (QC t u):=by
 refine{?_};intro a s σ H D I h
 let{Z,d,e}:=h
 refine wdj (bG (g a s σ H (D.Jz Z) I d) λf i q=>?_)
 cases f with
 |next=>
  let{b,c,k,q}:=q
  exact j a i b c D k (e b c q)
 |ret v=>exact q
 |brk=>exact q
 |cont=>exact q
end
section
variable{fs ex:List Addr}{H:Hp}{h h':Heap}{a:Addr}{o:HO}
theorem Un.kept(k:∀b u,h.get? b=ρ u->h'.get? b=ρ u):Un fs ex H H h h':=
 {λb ob q _ _ _=>k b ob q,λb ob q _ _ _=>{ob.slots,k b ob q},λ_ _ _ n _=>n,λb ob q _=>{ob,k b ob q},λ_ _ q=>q,λ_ _ _ q=>q,λ_ ps q=>{#[],by rw[q];simp}}
theorem Un.refl:Un fs ex H H h h:=Un.kept λ_ _ q=>q
theorem Un.laid(k:∀b u,h.get? b=ρ u->h'.get? b=ρ u)(g:h.7<=a)(hn:H a=τ):Un fs ex H (upd H a o) h h' where
 keep:=λb u q _ _ _=>k b u q
 slot:=λb u q _ _ _=>{u.slots,k b u q}
 free:=λb u q n _=>by rw[aa (Ù (Þ (Ë q) g))];exact n
 there:=λb u q _=>{u,k b u q}
 oA:=λb c q=>by rw[aa (a9 q hn)];exact q
 mM:=λb u c q=>by rw[aa (a9 q hn)];exact q
 oB:=λb ps q=>{#[],by rw[aa (a9 q hn),q];simp}
end
section
variable{X:Cx}{pins:List (Addr×Obj)}{σ:List (Option V)}{H:Hp}{s:Shared}{h':Heap}
theorem Inv.tok(I:Inv X pins σ H s)(t:Nat):Inv X pins σ H {s with toks:=t}:=I.un (h':=s.heap) (t':=t) Un.refl I.aT
theorem Inv.kept(I:Inv X pins σ H s)(k:∀b u,s.heap.get? b=ρ u->h'.get? b=ρ u):Inv X pins σ H {s with heap:=h',toks:=t'}:=I.un (Un.kept k) (I.aT.kept k)
theorem Inv.laid(I:Inv X pins σ H s)(k:∀b u,s.heap.get? b=ρ u->h'.get? b=ρ u)(g:s.8<=a)(new:bq X.prog X.w (upd H a o) h' a o) :
 Inv X pins σ (upd H a o) {s with heap:=h',toks:=t'}:=I.un (Un.laid k g (I.aT.fresh g)) (I.aT.laid k g new)
theorem ag{i j pos}:PE X (.Constant (.int i) j pos) (tC (.int i)):={λ_ _ _ H _ I h=>wpAny_Constant_int {.int i,H,I.tok _,{_,rfl},h}}
theorem bO{x j pos}:PE X (.Constant (.str x) j pos) (tC (.str x)):={λ_ _ _ H _ I h=>wgT {.str x,H,I.tok _,{_,rfl},h}}
theorem El:P4 X .Add (Vx λi j=>i+j):=by
 intro a s σ H x y v u Q I b c h
 let{i,j,d,e,q}:=h
 subst d;subst e
 let{t,rfl}:=b
 let{f,rfl}:=c
 exact iadd_int {.int _,H,I.tok _,{_,rfl},q}
theorem Em:M6 X Q9:=by
 intro value slice a s σ H x y v u Q I b d h e
 let{z,i,c,rfl,rfl,m,f,q}:=h
 let{t,rfl}:=b
 let{n,rfl}:=d
 let{j,g,o,p,k,l}:=wu f
 have hl:z.cps.toList.9=z.9:=by simp[Œ]
 rw[hl]at g k l;have hn:=m6
 exact tail_any (typeIs_str s z t) slot_str_getitem.lookup (getItem_str (c:=c) (by
  grind) (by grind) {.str {#[c]},H,I.tok _,{_,rfl},q}) e
theorem Ku:PJ X [] Qf:={λb s σ H a Q I h=>joinParts_nil {a,H,I.tok _,{_,rfl},h.2} h.1}
end
section
variable{X:Cx}{tg:Expr}
theorem aL{l:Expr}{g:TE}(hl:PE X l g):PI X tg l (Mq X.K g):=by
 refine{?_};intro c s σ H R I h;refine bG (hl c s σ H _ I h) λv d ⟨x,i,f,j,k⟩=>?_
 let{a,e,{t,m},q}:=k
 subst e;cases j
 let{n,u,p,w}:=f.list m
 refine υ p.isList ?_;refine{d.8,[d.8],_,_,i,rfl,f.kept (t':=d.toks) λb o e=>Ð _ e,C4 a _,{_,ã _ rfl,rfl,rfl},λb r=>?_,q};have e:b=d.8:=by simpa using r
 subst e;exact f.xR (Å _) (f.aT.fresh (Å _))
theorem xT{g:List (Addr×Obj)}{σ:St}{H:Hp}{s:Shared}{R:It->Hp->Prop}{E:Value->Shared->Prop}{lo hi:Int}{t u v:Tok}{tk:Nat}(I:Inv X g σ H s)(j:-(2^62)<=lo)(l:lo<2^62)(p:-(2^62)<=hi)(r:hi<2^62)
 (q:R (Jr lo (hi-lo).toNat) H):wpAny (model X.prog X.w) X.A (pyIter (.ref s.8)) (N1 X g σ tg R) E {s with heap:=s.heap.push {cls:=.type "range",data:=.fields #[.int lo t,.int hi u,.int 1 v]},toks:=tk}:=by
 refine wpAny_pyIter_range (whO ..) (small_one j l p r) ?_;have a:Inv X g σ H {s with heap:=s.heap.push {cls:=.type "range",data:=.fields #[.int lo t,.int hi u,.int 1 v]},toks:=tk}:=I.kept λb o e=>Ð _ e
 refine{(s.heap.push {cls:=.type "range",data:=.fields #[.int lo t,.int hi u,.int 1 v]}).7,[(s.heap.push {cls:=.type "range",data:=.fields #[.int lo t,.int hi u,.int 1 v]}).7],_,_,H,rfl,
  a.kept (t':=tk) λb o e=>Ð _ e,zK _ lo (hi-lo).toNat,?_,λb c=>?_,q}
 .have d:lo+((0:Nat):Int)*1=lo:=by simp
  have f:(((hi-lo).toNat:Nat):Int)-((0:Nat):Int)=wcS lo hi 1:=by rw[rangeSize_one];split<;>lia
  show wfW _ _ (lo+((0:Nat):Int)*1) ((((hi-lo).toNat:Nat):Int)-((0:Nat):Int)) 1;rw[d,f];exact ã _ rfl
 .have e:b=(s.heap.push {cls:=.type "range",data:=.fields #[.int lo t,.int hi u,.int 1 v]}).7:=by simpa using c
  subst e;exact a.xR (Å _) (a.aT.fresh (Å _))
theorem cW(g:Gl X "range")(l:X.mg "range"=τ)(ha:PA X [a] o)(hs:starEach [a] X.5=[(false,eval a X.5)]:=by rfl):PI X tg (.Call (.Name "range" p) [a] [] pos) (Mr o):=by
 refine{?_};intro b s σ H R I h;refine Call_ (gA I g l boot_range (Ξ (bG (ha pos b s σ H _ I h) λm n ⟨u,v,d,f,c⟩=>?_) hs rfl))
 let{j,e,c,i,q}:=c
 subst e
 cases f with
 |cons r k=>
  cases k
  let{t,rfl}:=r
  exact call_range_1 (xT d () () c i (by simpa using q))
theorem iB(l:Gl X "range")(o:X.mg "range"=τ)(ha:PA X [a,b] C)(hs:starEach [a,b] X.5=[(false,eval a X.5),(false,eval b X.5)]:=by rfl)(g:starEach [b] X.5=[(false,eval b X.5)]:=by rfl) :
 PI X tg (.Call (.Name "range" p) [a,b] [] pos) (Ms C):=by
 refine{?_};intro c s σ H R I h;refine Call_ (gA I l o boot_range (Ξ (bG (ha pos c s σ H _ I h) λx y ⟨z,A,k,m,d⟩=>?_) (by rw[hs,g]) (by rw[g];rfl)))
 let{i,j,e,{d,n,u,v},q}:=d
 subst e
 cases m with
 |cons r f=>
  cases f with
  |cons w f=>
   cases f
   let{t,rfl}:=r
   let{B,rfl}:=w
   exact call_range_2 (xT k d n u v q)
theorem P7{f:Value->Value->Sem Value}{C:Int->Int->Prop}{g:Int->Int->Int}
 (rule:∀(i j:Int) (t u:Tok) (s:Shared) (Q:Value->Shared->Prop) (E:Value->Shared->Prop),C i j->Q (.int (g i j) s.toks) {s with toks:=s.toks+1}->wpAny (model X.prog X.w) X.A (f (.int i t) (.int j u)) Q E s) :
 jE X f (rI C λi j=>.int (g i j)):=by
 intro a s σ H x y v u Q I b c h
 let{i,j,rfl,rfl,hc,q}:=h
 let{t,rfl}:=b
 let{d,rfl}:=c
 exact rule i j t d s _ _ hc {.int (g i j),H,I.tok _,{_,rfl},q}
theorem Nf{f:Value->Value->Sem Value}{g:Int->Int->Int}
 (rule:∀(i j:Int) (t u:Tok) (s:Shared) (Q:Value->Shared->Prop) (E:Value->Shared->Prop),Q (.int (g i j) s.toks) {s with toks:=s.toks+1}->wpAny (model X.prog X.w) X.A (f (.int i t) (.int j u)) Q E s) :
 jE X f (Js λi j=>.int (g i j)):=by
 intro a s σ H x y v u Q I b c h
 let{i,j,rfl,rfl,q}:=h
 let{t,rfl}:=b
 let{d,rfl}:=c
 exact rule i j t d s _ _ {.int (g i j),H,I.tok _,{_,rfl},q}
theorem fR:jE X (binaryOp .Add) (Js λi j=>.int (i+j)):=Nf λ_ _ _ _ _ _ _ q=>add_int q
theorem oK:jE X (binaryOp .Sub) (Js λi j=>.int (i-j)):=Nf λ_ _ _ _ _ _ _ q=>sub_int q
theorem gC:jE X (binaryOp .Mult) (rI Hh λi j=>.int (i*j)):=P7 λ_ _ _ _ _ _ _ hc q=>mul_int q hc.ok
theorem kK:jE X (binaryOp .FloorDiv) (rI Q8 λi j=>.int (i/j)):=P7 λi j _ _ _ _ _ hc q=>by
 have a:(0:Int)<j:=hc.1;have b:j<1073741824:=hc.2;exact floordiv_int 1.0 (by rw[Int.fdiv_eq_ediv_of_nonneg i 1.0];exact q) (.inl (wfZ 1.0))
theorem d8:jE X (binaryOp .Mod) (rI (λ_ j=>0<j) λi j=>.int (i%j)):=P7 λi j _ _ _ _ _ hc q=>by
 have a:(0:Int)<j:=hc;exact mod_int' () (by rw[Int.fmod_eq_emod_of_nonneg i ()];exact q)
theorem VQ{f:Value->Sem Value}{g:Int->Int}
 (rule:∀(i:Int) (t:Tok) (s:Shared) (Q:Value->Shared->Prop) (E:Value->Shared->Prop),Q (.int (g i) s.toks) {s with toks:=s.toks+1}->wpAny (model X.prog X.w) X.A (f (.int i t)) Q E s) :
 Qn X f (rU λi=>.int (g i)):=by
 intro a s σ H x v Q I b h
 let{i,rfl,q}:=h
 let{t,rfl}:=b
 exact rule i t s _ _ {.int (g i),H,I.tok _,{_,rfl},q}
theorem En:Qn X (unaryOp .USub) (rU λi=>.int (-i)):=VQ λ_ _ _ _ _ q=>neg_int q
theorem iV:jE X (binaryOp .Add) (λx y H Q=>∃i j,x=.str i/\y=.str j/\i.9+j.9<=sizeLine/\Q (.str (i++j)) H):=by
 intro a s σ H x y v u Q I b c h
 let{i,j,rfl,rfl,d,q}:=h
 let{t,rfl}:=b
 let{e,rfl}:=c
 exact add_str (λe f=>{.str (i++j),H,I.tok _,{_,rfl},q}) d
theorem xU:jE X (inplaceOp .Add) (λx y H Q=>∃i j,x=.str i/\y=.str j/\i.9+j.9<=sizeLine/\Q (.str (i++j)) H):=by
 intro a s σ H x y v u Q I b c h
 let{i,j,rfl,rfl,d,q}:=h
 let{t,rfl}:=b
 let{e,rfl}:=c
 exact iadd_str (λe f=>{.str (i++j),H,I.tok _,{_,rfl},q}) d
theorem C5(hc:X.calm=true):d1 X (.builtin "max") (λxs H Q=>∃i j,xs=[.int i,.int j]/\Q (.int (if j>i then j else i)) H):=by
 intro b s σ H xs c Q I r h
 let{i,j,rfl,q}:=h
 let{u,d,rfl,{t,rfl},{e,rfl}}:=vals2 r
 refine max_two_ints (I.ok.hd hc) λf g k=>{_,H,I.kept k,?_,q}
 by_cases a:j>i
 .rw[if_pos a,if_pos a];exact{_,rfl}
 .rw[if_neg a,if_neg a];exact{_,rfl}
theorem oM(hc:X.calm=true):d1 X (.builtin "min") (λxs H Q=>∃i j,xs=[.int i,.int j]/\Q (.int (if j<i then j else i)) H):=by
 intro b s σ H xs c Q I r h
 let{i,j,rfl,q}:=h
 let{u,d,rfl,{t,rfl},{e,rfl}}:=vals2 r
 refine min_two_ints (I.ok.hd hc) λf g k=>{_,H,I.kept k,?_,q}
 by_cases a:j<i
 .rw[if_pos a,if_pos a];exact{_,rfl}
 .rw[if_neg a,if_neg a];exact{_,rfl}
theorem C6{CX:DC}{P:É}{w:World}{K:Á}{mg:Str->Option Value}{base:Heap}{N ps:List Str}{g:Str}{scope:ú}{f:Addr}{cd:Value}{A:Around}{outer:List Env}{s s1:Shared}{H:Hp}{E:XK}{us:List Value}{vs:List V}
 (S:qL N ps scope) (hd:A.handled=τ) (j:zI P w K mg base A outer s H) (hl:vs.9=ps.9) (r:Vals vs us)
 (x:InCallC s s.heap.objs.size (bindL (envOfC g scope s.heap.objs.size f cd).kindOf (ps.zip us) λ_=>τ) (cellsFrom (s.8+1) scope.names []) (bindC (envOfC g scope s.heap.objs.size f cd).kindOf (ps.zip us) λ_=>τ) s1) :
 Inv (rK CX P w K mg base N g scope f cd A outer s H E) [] (start N vs) H s1:=by
 have D:ps.9<=N.9:=by have:=congrArg Ŋ S.pre;rw[Û]at this;lia
 let{B,I,rfl,hk}:=x.done
 have l:∀b:Addr,b∉(rK CX P w K mg base N g scope f cd A outer s H E).ex:=λb z=>absurd (show b∈([]:List Addr) from z) (by simp)
 refine{{j.mod,S.kind,rfl,rfl,Å _,λy z c B d=>?_,λy m=>?_,λy c _ h=>?_,λ_=>hd,Around.frames_deeper j.frames,.inr ⟨rfl,rfl⟩,λb z=>absurd z (l b),j.bs,j.DM,λb _ _=>l b,λb z=>absurd z (l b),j.mN,j.He},
  rfl,j.bare,Un.kept hk,{_,x.toInCall.ns,λi y v B d J=>?_},λy c h=>{_,x.cell y c h},j.aT.fresh (Å _),λy c h=>?_,λp o=>absurd (show p∈([]:List (Addr×Obj)) from o) (by simp),j.aT.kept hk,?_}
 .exact name_of_addr x.apart (θ B) (θ d)
 .have m:scope.names.lookup y=ρ .cell\/scope.names.lookup y=ρ .free:=m;rcases m with m |m
  .exact xJ m
  .exact absurd rfl (S.K9 _ (θ m))
 .exact ŷ (x.above y c (θ h))
 .have hi:i<vs.9:=by
   unfold start at d
   by_cases hi:i<vs.9
   .exact hi
   .rw[ĉ (by simpa using hi)]at d;rw[List.getElem?_replicate]at d;split at d<;>cases d
  have ha:vs[i]?=ρ v:=by
   unfold start at d;rw[Ĉ (by simpa using hi),È]at d
   cases e:vs[i]? with
   |none=>rw[e]at d;cases d
   |some a=>rw[e]at d;cases d;rfl
  let{u,C,G}:=r.get ha
  have o:ps[i]?=ρ y:=by
   rw[<-S.pre,wdD ()];exact B
  have t:ps.Nodup:=by rw[<-S.pre];exact S.nd.sublist (ġ _ _)
  refine{u,G,?_};rcases S.par y (á o) with k |k
  .exact .inl {k,uR t o C k}
  .let{c,e}:=xJ (n:=s.8+1) k
   refine .inr {.inl k,c,e,?_};have q:=x.cell y c e;rw[uS t o C (by show scope.names.lookup y≠_;rw[k];decide)]at q;exact q
 .exact j.aT.fresh (ŷ (x.above y c (θ h)))
 .unfold start;show _=N.9;rw[Ì,À,wda]
  lia
theorem JE{CX:DC}{P:É}{w:World}{K:Á}{mg:Str->Option Value}{base:Heap}{k:Nat}{f:Addr}{name g:Str}{l:Arguments}{body:List Stmt}{scope:ú}{dV kV C pm j ct oc:Value}{an od:Option Addr}
 {T:Array (Option Value)} {N ps:List Str} {sp:Sp} (lk:K.lookup f=ρ {oc,od,.func (Į name g l body scope dV kV C pm an j ct),T}) (U:Χ K j g=true) (S:qL N ps scope)
 (len:∀vs H Q E,sp vs H Q E->vs.9=ps.9)
 (p:∀(A:Around) (outer:List Env) (s:Shared) (H:Hp) (vs:List V) (Q:VK) (E:XK),cG k (A.deeper (envOfC g scope s.heap.objs.size f j))->sp vs H Q E ->
   ∃t,ui (rK CX P w K mg base N g scope f j A outer s H E) body t/\t (Ends.fn Q) (start N vs) H) :
 aP P w K mg base CX (k+1) f (Į name g l body scope dV kV C pm an j ct) ps sp:=by
 refine{len,λA outer s H args O vs Q E z i R r m=>?_};have hl:=len _ _ _ _ m;have L:K.In s.heap:=i.mod.Hd.keeps λb o e=>(i.bs b o e).1;have B:s.heap.NoLimit:=i.mod.nolimit.keeps λb o e=>(i.bs b o e).1
 have c:∀y∈ps.zip O,scope.names.lookup y.1=ρ .local\/(scope.names.lookup y.1=ρ .cell/\((cellsFrom (s.8+1) scope.names []).lookup y.1).isSome=true):=λ⟨n,v⟩ X=>by
  rcases S.par n (wfJ X).1 with q |q
  .exact .inl q
  .exact .inr {q,wfT _ _ _ (.inl q)}
 refine codeAny_call_function z.depth (L _ _ lk) rfl S.co S.gen rfl (PySem.W.codeRec_of L U) (R _ _ _ _ ?_);refine wpAny_newFunctionEnv_cells S.kind c λenv Y M x=>?_;subst Y;refine{B.keeps x.toInCall.keep,codeAny_func ?_}
 let{t,Z,hq}:=p A outer s H vs Q E (z.deeper _) m
 have I:Inv (rK CX P w K mg base N g scope f j A outer s H E) [] (start N vs) H M:=C6 S z.hd i hl r x;refine ê (Z [] M (start N vs) H _ I hq) (λfl D d=>?_) λe D d=>d
 have fin:∀{a:St} {h:Hp} {v:V} {u:Value},Inv (rK CX P w K mg base N g scope f j A outer s H E) [] a h D->RelV v u->Q v h->CE outer P w H s Q u D:=
  λ{a h v u} J G q=>⟨v,h,J.os,J.bare,J.base,J.aT,G,q⟩
 cases fl with
 |ret u=>
  let{v,a,h,J,G,q}:=d
  exact fin J G q
 |next=>
  let{a,h,J,q}:=d
  exact fin (v:=V.non) (u:=ā) J rfl q
 |brk=>
  let{_,_,_,q}:=d
  exact ç q
 |cont=>
  let{_,_,_,q}:=d
  exact ç q
theorem mW:d1 X (.builtin "len") (λxs H Q=>∃p ys,xs=[.ref p]/\(aG X.K H p ys\/eY X.K H p ys)/\Q (.int ys.9) H):=by
 intro e s σ H xs i Q I r h
 let{p,ys,rfl,a,q}:=h
 let{u,rfl,f}:=vals1 r
 cases f;have hn:=m6;rcases a with a |a
 .let{c,d,pl,g}:=I.list a
  have b:=d.9;exact wey pl.isList (by grind) {.int ys.9,H,I.tok _,{s.toks+1,by grind},q}
 .let{c,d,pl,g}:=I.tuple a
  have b:=d.9;exact len_tuple pl (by grind) {.int ys.9,H,I.tok _,{s.toks+1,by grind},q}
theorem wF:d1 X (.builtin "len") (λxs H Q=>∃z,xs=[.str z]/\z.9<=sizeLine/\Q (.int z.9) H):=by
 intro a s σ H xs b Q I r h
 let{z,rfl,c,q}:=h
 let{u,rfl,t,rfl}:=vals1 r
 have hn:=m6;exact len_str () {.int z.9,H,I.tok _,{_,rfl},q}
theorem dk:d1 X (.type "list") (λxs H Q=>∃p ys,xs=[.ref p]/\(aG X.K H p ys\/eY X.K H p ys)/\∀l,H l=τ->Q (.ref l) (upd H l (.lst ys))):=by
 intro g s σ H xs x Q I r h
 let{p,ys,rfl,i,q}:=h
 let{u,rfl,v}:=vals1 r
 cases v
 have fin:∀(a:List Value),Vals ys a->ys.9<=sizeLine->∀(c:Heap) (d:Nat),(∀b t,s.heap.get? b=ρ t->c.get? b=ρ t) ->
  c.get? s.8=ρ {cls:=.type "list",dict:=τ,data:=.seq a.toArray d,slots:=#[]}->EP X g σ Q (.ref s.8) {s with heap:=c}:=λa f j c d kp e=>
  {.ref s.8,_,I.laid (t':=s.toks) kp (Å _) (show bq X.prog X.w _ c _ (.lst ys) from ⟨j,a,d,f,e⟩),rfl,q _ (I.aT.fresh (Å _))}
 rcases i with i |i
 .let{a,f,pl,j}:=I.list i
  have k:=f.9
  let{o,m,hc,n,hd}:=pl.isList
  exact call_list_seq p (.inl rfl) m hc hd (λc d kp e=>fin a f j c d kp e) (by grind)
 .let{a,f,pl,j}:=I.tuple i
  have k:=f.9
  let{o,m,hc,n,hd}:=pl
  exact call_list_seq p (.inr rfl) m hc hd (λc d kp e=>fin a f j c d kp e) (by grind)
theorem a8.refl(H:Hp):a8 H H:=λ_ _ h=>h
theorem kL:Hy X "dict.values" (λx xs H Q=>∃d kvs,x=.ref d/\xs=[]/\H d=ρ (.dK kvs)/\∀v,H v=τ->Q (.ref v) (upd H v (iw v d))):=by
 intro a s σ H x xs v j Q I f g h
 let{d,kvs,rfl,rfl,hd,q}:=h
 cases f;have:=g.zero;subst this
 let{l,lo,i,rel,c}:=rN I.aT hd
 refine wfl wcd c.typeIs PySem.F.entry_dict_values (PySem.F.args_dict_values_1 _) (meets_dict_values (b8 X.prog X.w) d lo) {⟨i,c⟩,?_};refine{.ref s.8,_,I.laid (t':=s.toks) (o:=iw s.heap.objs.size d) (λb o e=>Ð _ e) (Å _) {{_,ã _ rfl,rfl,rfl},{_,ã _ rfl},λm n ⟨o,e,r⟩ k=>{o,k o e,r}},rfl,q _ (I.aT.fresh (Å _))}
theorem Bi:Hy X "str.join" (λx xs H Q=>∃z p ts,x=.str z/\xs=[.ref p]/\aG X.K H p (Ĥ V.str ts)/\(ts.map (·.9)).sum+ts.9*z.9<=16777216/\Q (.str (Ĵ z ts)) H):=by
 intro a s σ H x xs v l Q I b c h
 let{z,p,ts,rfl,rfl,d,e,q}:=h
 let{t,rfl}:=b
 let{u,rfl,f}:=c.one
 cases f
 let{g,i,pl,_}:=I.list d
 exact join_list pl.isList (by simpa using zA i) e λj k=>{.str _,H,I.tok k,⟨j,rfl⟩,q}
theorem xV:d1 X (.builtin "len") (λxs H Q=>∃p n,xs=[.ref p]/\H p=ρ (Hm X.prog X.w p n)/\Q (.int n) H):=by
 intro b s σ H xs g Q I r h
 let{p,n,rfl,c,q}:=h
 let{u,rfl,d}:=vals1 r
 cases d
 let{{S,o,i,j,k,e,hex,hd,_,_,f,a,hn},_}:=(show bq X.prog X.w H s.heap p (Hm X.prog X.w p n) from I.aT p _ c)
 refine call_len_set e hex hd a (by grind [ō]) {.int n,H,I.tok _,{s.toks+1,?_},q};rw[hn]
theorem comp_map{Ok:Hp->Prop}{Q:Hp->Prop}(g:V->V)(C:jB J Ok xs)(hl:H l=τ)(I:xs.9<=sizeLine)(r:∀j,a8 H j->Ok j)
 (he:∀x o p,x∈xs->a8 H o->(∀j,a8 o j->p (g x) j)->T (ρ x::t) o p)
 (hd:∀j,a8 H j->j l=ρ (.lst (xs.map g))->Q j):lz J l t qw T H Q:=
 cV (λ_=>true) g C hl I r (λx o p _ _ q=>q o (a8.refl _)) (λx o p a _ s q=>he x o p a s q) (λj s h=>hd j s (by rw[h,ę.mpr (λ_ _=>rfl)]))
theorem xW:d1 X (.type "range") (λxs H Q=>∃j:Int,xs=[.int j]/\∀p,H p=τ->Q (.ref p) (upd H p (.rng 0 j))):=by
 intro a s σ H xs c Q I r h
 let{j,rfl,q}:=h
 let{u,rfl,t,rfl}:=vals1 r
 refine call_range_1 {.ref s.8,_,I.laid (λb ob q=>Ð _ q) (Å _) (show bq X.prog X.w _ _ _ (.rng 0 j) from {_,_,_,ã _ rfl}),rfl,q _ (I.aT.fresh (Å _))}
theorem zL:d1 X (.type "dict") (λxs H Q=>∃d kvs,xs=[.ref d]/\Rd H d (.dK kvs)/\∀l,H l=τ->Q (.ref l) (upd H l (.dK kvs))):=by
 intro a s σ H xs n Q I r h
 let{d,kvs,rfl,hd,q}:=h
 let{u,rfl,f}:=vals1 r
 cases f
 let{c,lo,g,rel,i}:=hH I.aT hd
 refine kt_call_dict (knd:=b8 X.prog X.w) lo i (by rw[<-rel.9];exact c) λp j k=>?_;have m:=(rE (P:=X.prog) (w:=X.w) (H:=H) s.heap I.big);refine{.ref s.8,upd H s.heap.objs.size (.dK kvs),I.laid (t':=s.toks) (λb o e=>?_) (Å _) ⟨c,m.2.1,g,rel,j⟩,rfl,q _ (I.aT.fresh (Å _))};exact k.extBut b o (Ù (Ë e)) (Ð _ e)
theorem HF:P4 X .Add (λx y H Q=>∃i j,x=.str i/\y=.str j/\i.9+j.9<=sizeLine/\Q (.str (i++j)) H):=λa s σ H x y v u Q I b c h=>xU a s σ H x y v u Q I b c h
theorem rT:jE X (binaryOp .FloorDiv) (rI MI λi j=>.int (i/j)):=P7 λi j _ _ _ _ _ hc q=>by
 have a:(0:Int)<j:=hc.1;exact floordiv_int () (by grind) (.inl (PyProof.noPylong_of_log2 hc.2))
theorem Bj{σ:St}:∀{ps:List (Int×Int)} {H Q},(∀g j,a8 H g->j.9=ps.9->(∀(i:Nat) p,ps[i]?=ρ p->∃q,j[i]?=ρ (.ref q)/\g q=ρ (.tup [.int p.1,.int p.2]))->Q j g)->rz ps σ H Q
 |[],H,_,k=>k H [] (a8.refl _) rfl λ_ _ h=>nomatch h
 |_::_,_,_,k=>{(by show 2<=sizeLine;decide),λq f=>Bj λg j s e a=>k g (.ref q::j) ((a8.upd f).trans s) (congrArg (· + 1) e) λ
  |0,_,h=>{q,rfl,by cases h;exact s _ _ a5}
  |i+1,p,h=>a i p h}
theorem oN{α:Type}(p:Nat->Bool):∀(k:Nat) (xs:List α),(b6 p k xs).Sublist xs
 |_,[]=>wf5 _
 |k,x::xs=>by
  show (if p k then x::b6 p (k+1) xs else b6 p (k+1) xs).Sublist (x::xs)
  cases p k with
  |true=>exact(oN p (k+1) xs).cons₂ x
  |false=>exact(oN p (k+1) xs).cons x
theorem gi{α:Type}{p:Nat->Bool}{k:Nat}{xs:List α}{x:α}(h:x∈b6 p k xs):x∈xs:=(oN p k xs).subset h
end
section
variable{X:Cx}{pos:Pos}{e:Expr}{te:MH}
theorem fS(hc:X.calm=true)(h:P0 X g t)
 (hn:(ŏ g X.5).9=n:=by rfl) (j:(ŏ g X.5).findIdx? (·.1)=τ:=by rfl):PG X (.Tuple g k pos) (DP X.K n t):=by
 refine{?_};intro c s σ H v u Q I r hw
 let{a,f,i,l,hl,hw}:=hw
 subst i;cases r
 let{m,d,p,y}:=I.tuple l
 refine assign_Tuple_tuple (I.ok.hd hc) p (by simp[hn,<-hl,d.9]) j λq w=>?_;have x:Inv X c σ H {s with heap:=q}:=I.kept (t':=s.toks) λb o e=>w b o (Ù (Ë e)) e;exact h c _ σ H f _ Q x (by simpa using d) hw
theorem cp:PE X (.Dict [] [] pos) Ka:={λb s σ H Q I h=>
 wpAny_Dict_empty {.ref s.8,_,I.laid (a:=s.8) (o:=.dK []) (t':=s.toks) (λ_ _ q=>Ð _ q) (Å _) (rE s.heap I.big),rfl,h _ (I.aT.fresh (Å _))}}
noncomputable def Ng(te:MH):Ht:=λE D σ H=>te (E σ) σ H λ_ H1=>D.nx σ H1
theorem xX(he:Qu X e te)(hs:č e τ pos.line X.5=pure false:=by rfl):Qv X (.Expr e pos) (Ng te):=by
 refine{?_};intro a s σ H D E I h;exact wpAny_Expr_any (ê (he a s σ H _ (E σ) I h) (λv b ⟨x,c,d,g,f⟩=>⟨σ,c,d,f⟩) λi b z=>⟨σ,z⟩) I.quiet hs
end
section
variable{X:Cx}{pins:List (Addr×Obj)}{σ:St}{H:Hp}{s:Shared}{l:Addr}{xs ys:List V}
theorem Inv.Kv(I:Inv X pins σ H s)(j:Vals ys g)(o:ys.9<=sizeLine) :
 Inv X pins σ (upd H s.heap.objs.size (.lst ys)) {s with heap:=s.heap.push {cls:=.type "list",data:=.seq g.6},toks:=t'}:=
 I.laid (λ_ _ q=>Ð _ q) (Å _) ⟨o,g,0,j,ã _ rfl⟩
theorem Inv.Eo(I:Inv X pins σ H s)(j:H l=ρ (.lst xs)):xs.9<=sizeLine/\∃(g:List Value) (n:Nat),Vals xs g/\xs.9=g.9/\s.heap.get? l=ρ {cls:=.type "list",data:=.seq g.toArray n}:=by
 let{z,g,n,r,e}:=I.aT l _ j
 exact⟨z,g,n,r,r.9,e⟩
theorem zM:jE X (binaryOp .Add) Qy:=by
 intro d s σ H x y v u Q I f g h
 let{l,b,t,w,rfl,rfl,i,j,A,q}:=h
 cases f;cases g
 let{z,c,n,r,hl,e}:=I.Eo i
 let{B,a,C,k,m,o}:=I.Eo j
 refine whp e o ?_ (by rw[â,â];omega);have p:c.6++a.6=(c++a).6:=by simp
 rw[p];exact{.ref _,_,I.Kv (t':=s.toks) (r.append k) (by rw[Ì];omega),rfl,q _ I.fresh}
theorem Kw:jE X (binaryOp .Mult) Qz:=by
 intro p s σ H x y v u Q I A B h
 let{l,k,L,rfl,rfl,C,D,E,w,q}:=h
 cases A
 let{t,rfl}:=B
 let{z,b,n,r,hl,e}:=I.Eo C
 have d:b.toArray.size*k.toNat<=sizeLine:=by rw[â,<-hl];exact w
 have f:¬b.toArray.size*k.toNat>(2^63-1)/8:=by
  have:(sizeLine:Nat)<=(2^63-1)/8:=⋯
  lia
 have g:¬(!Builtin.List.listFitsIndex k)=true:=by
  rw[fitsIndex_both D E];exact ß
 have c:¬wdA (b.toArray.size*k.toNat)=true:=by
  rw[DS d];exact ß
 have i:whA (λj o=>j++o) #[] (ë (if b.toArray.isEmpty=true then 0 else k.toNat) b.6)=(ë k.toNat b).flatten.6:=by
  have G:∀m:Nat,whA (λj o=>j++o) #[] (ë m b.6)=(ë m b).flatten.6:=λm=>by
   grind [foldl_rep]
  rw[G]
  cases b with
  |nil=>simp
  |cons a M=>grind
 refine wpAny_binaryOp_repeat_ref (T:="list") (U:="int") ⋯ {_,e,rfl} (λJ=>typeIs_int J k t) noFill_list_mul F.fills_int_mul F.slot_int_rmul repeat_list F.slot_int_index.lookup
  (ż F.slot_int_rmul (typeIs_int s k t) F.entry_int_rmul (F.args_int_rmul_2 _ _) (int___rmul___int_list k t l b.toArray n)
    {e,rfl,{_,e,rfl},ż F.slot_list_mul {_,e,rfl} F.entry_list_mul (F.args_list_mul_2 _ _) (AutoListH.list___mul___list_int_3 l b.toArray n k t g f c) {e,?_}})
 rw[i];exact{.ref _,_,I.Kv (t':=s.toks) (r.rep k.toNat) (by rw[Hk,Nat.mul_comm];exact w),rfl,q _ I.fresh}
end
section
variable{m:Str}
theorem rV{X:Cx}{g:List (Addr×Obj)}{σ:St}{H:Hp}{s:Shared}{l:List Addr}{x y:V}{u v:Value}{j:Heap}(tk:Nat)(I:Inv X g σ H s)(p:∀b∈l,ro X g H b)(kp:∀b o,b∉l->s.heap.get? b=ρ o->j.get? b=ρ o)
 (t:j.get? s.8=ρ {cls:=.type "tuple",data:=.seq #[u,v]}) (C:RelV y u) (J:RelV x v) (hl:∀b∈l,b<s.8) :
 H s.8=τ/\Inv X g σ (upd H s.heap.objs.size (.tup [y,x])) {s with heap:=j,gens:=s.gens,drawn:=s.drawn,toks:=tk}/\∀b∈l,upd H s.heap.objs.size (.tup [y,x]) b=τ:=by
 have d:=I.aT.fresh (Å s.8);have e:∀b o,H b=ρ o->b∉l:=λb o q z=>by rw[(p b z).1]at q;cases q
 have f:iT X.prog X.w (upd H s.heap.objs.size (.tup [y,x])) j:=by
  intro b o q
  by_cases a:b=s.8
  .subst a;rw[a5]at q;cases q;exact{by show 2<=sizeLine;decide,[u,v],.cons C (.cons J .nil),{_,t,rfl,1}}
  .rw[aa a]at q;refine(I.aT b o q).qy (λc v hc r=>?_) (λc r=>by rw[aa (a9 r d)];exact r) λc i r=>by rw[aa (a9 r d)];exact r
   rcases hc with z |z
   .rw[z]at r ⊢;exact kp b v (e b o q) r
   .exact kp c v (e c _ z) r
 refine{d,?_,λb a=>by rw[aa (Ù (hl b a))];exact(p b a).1}
 refine I.step (ch:=l) (λb a=>?_) (λb o _ _ hc q _=>kp b o hc q) (λb o _ _ hc q _=>{o.slots,kp b o hc q}) (λb o _ q n=>by rw[aa (Ù (Ë q))];exact n) (λb o hc q=>{o,kp b o hc q})
  (λb i r=>by rw[aa (a9 r d)];exact r) (λb o u r=>by rw[aa (a9 r d)];exact r) (λb ps r=>{#[],by rw[aa (a9 r d),r];simp})
  (λm ⟨o,k,A,h,r⟩=>{o,k,A,kp _ o (λz=>(p _ z).2.1 rfl) h,r}) f I.bare
 let{_,f1,_,B,D,E}:=p b a
 exact⟨B,f1,D,E⟩
theorem um{X:Cx}{K:Á}(g:X.K=K):d1 X (.builtin "len") (λxs H Q=>∃p ys,xs=[.ref p]/\(aG K H p ys\/eY K H p ys)/\Q (.int ys.9) H):=by
 subst g;exact mW
theorem HG{α:Type}{M:Model}{A:Around}{m:Sem α}{Q:α->Shared->Prop}{E:Value->Shared->Prop}{s:Shared}(h:wpAny M A m Q (λ_ _=>False) s):wpAny M A m Q E s:=ê h (λ_ _ x=>x) λ_ _ z=>z.elim
end
section
variable{X:Cx}{pins:List (Addr×Obj)}{σ:St}{H:Hp}{s:Shared}{a:Addr}{y d:V}{u r:Value}{o:Option V}{A:Around}{E:Value->Shared->Prop}
theorem QF{Q:Value->Shared->Prop}(p:A.units+1<ð)(I:Inv X pins σ H s)(g:cB H a y o)(j:RelV y u)(h:∀s',Inv X pins σ H s'->Q (.bool o.isSome) s') :
 wpAny (model X.prog X.w) A (ò .In u (.ref a)) Q E s:=by
 rcases g with⟨c,k,e,d,l⟩ |⟨c,k,b,e,d,i,l⟩
 .subst d
  let{z,hd,m,rel,f}:=hH I.aT e
  refine wpAny_in_of (rq j) hd f.mapOf ?_;rw[<-(rel.val k).iz,<-l];exact h _ (I.tok _)
 .subst d;cases(show u=Æ b from j)
  let{z,hd,n,rel,f}:=rP I.aT e
  refine wpAny_in_heap (Ι p) (oI I.aT i) hd f ?_;have q:=(rel.val k).iz;rw[wf2]at q;rw[<-q,<-l];exact h _ (I.tok _)
theorem HH{Q:Value->Shared->Prop}(p:A.units+1<ð)(I:Inv X pins σ H s)(g:cB H a y o)(j:RelV y u)(h:∀s',Inv X pins σ H s'->Q (.bool (!o.isSome)) s') :
 wpAny (model X.prog X.w) A (ò .NotIn u (.ref a)) Q E s:=by
 rcases g with⟨c,k,e,d,l⟩ |⟨c,k,b,e,d,i,l⟩
 .subst d
  let{z,hd,m,rel,f}:=hH I.aT e
  refine wpAny_notIn_of (rq j) hd f.mapOf ?_;rw[<-(rel.val k).iz,<-l];exact h _ (I.tok _)
 .subst d;cases(show u=Æ b from j)
  let{z,hd,n,rel,f}:=rP I.aT e
  refine wpAny_notIn_heap (Ι p) (oI I.aT i) hd f ?_;have q:=(rel.val k).iz;rw[wf2]at q;rw[<-q,<-l];exact h _ (I.tok _)
theorem Kx{Q:Value->Shared->Prop}(t:A.units+1<ð)(I:Inv X pins σ H s)(g:cB H a y o)(j:RelV y u)(rd:RelV d r)(h:∀p s',Inv X pins σ H s'->RelV (o.getD d) p->Q p s') :
 wpAny (model X.prog X.w) A (call (.builtin "dict.get") [.ref a,u,r]) Q E s:=by
 rcases g with⟨f,k,e,i,l⟩ |⟨f,k,b,e,i,m,l⟩
 .subst i
  let{z,hd,q,rel,c}:=hH I.aT e
  refine wfl we8 c.typeIs wg0 (wfz _ _ _) (meets_dict_get_default (b8 X.prog X.w) a (rq j) hd r) {_,c.mapOf,h _ _ (I.tok _) ?_};rw[l];exact(rel.val k).getD rd
 .subst i;cases(show u=Æ b from j)
  let{z,hd,n,rel,c}:=rP I.aT e
  refine wfl we8 c.typeIs wg0 (wfz _ _ _) (meetsH_dict_get_default (γ (b8 X.prog X.w)) a b hd r) {Ι t,k,n,oI I.aT m,c,h _ _ (I.tok _) ?_};rw[l];exact(rel.val k).getD rd
end
section
variable{κ:Type}[DecidableEq κ]
theorem Ep{kvs:List (κ×V)}{k:κ}(h:cF kvs k=τ):¬k∈kvs.map (·.1):=by
 intro m
 let{p,a,e}:=Ç.mp m
 have q:(kvs.any λb=>decide (b.1=k))=true:=ğ.mpr {p,a,decide_eq_true e};rw[jJ,h]at q;exact absurd q (by simp)
theorem wG{kvs:List (κ×V)}{k:κ}{v:V}(h:cF kvs k=ρ v):k∈kvs.map (·.1):=by
 have q:(kvs.any λa=>decide (a.1=k))=true:=by
  rw[jJ,h]
  all_goals rfl
 let{p,b,e}:=ğ.mp q
 exact Ç.mpr {p,b,of_decide_eq_true e}
end
section
variable{X:Cx}{es:List Expr}{t:TA}{pos:Pos}
theorem bY{g}(h:PA X es t):PE X (.Tuple es g pos) (MM t):=by
 refine{?_};intro a s σ H Q I i;refine wpAny_Tuple_spliced (bG (h pos a s σ H _ I i) λj c ⟨k,d,f,r,z,q⟩=>{by rw[<-r.9];exact z,?_});have l:d c.8=τ:=f.aT.fresh (Å _);refine{.ref c.8,upd d c.heap.objs.size (.tup k),f.laid (t':=c.toks) (λb u e=>Ð _ e) (Å _) ?_,rfl,q _ l};exact{z,j,r,{_,ã _ rfl,rfl,1}}
theorem bP(h:PA X es t):PE X (.List es pos) (MN t):=by
 refine{?_};intro a s σ H Q I g;refine wpAny_List_spliced (bG (h pos a s σ H _ I g) λi c ⟨j,d,f,r,z,q⟩=>{by rw[<-r.9];exact z,?_});have k:d c.8=τ:=f.aT.fresh (Å _);refine{.ref c.8,upd d c.heap.objs.size (.lst j),f.laid (t':=c.toks) (λb u e=>Ð _ e) (Å _) ?_,rfl,q _ k};exact⟨z,i,0,r,ã _ rfl⟩
theorem fb(h:k∉mv.map (·.1)):cF (aR mv) (Ã k:Key)=τ:=by
 cases q:cF (aR mv) (Ã k:Key) with
 |none=>rfl
 |some v=>
  have:=wG q;unfold aR at this;rw[Ê]at this
  let{m,a,e}:=Ç.mp this
  have b:m.1=k:=Ģ e;exact absurd (Ç.mpr ⟨m,a,b⟩) h
theorem vj(f:Str->V)(h:k∉g):cF (oE f g) (Ã k:Key)=τ:=by
 cases q:cF (oE f g) (Ã k:Key) with
 |none=>rfl
 |some v=>
  have:=wG q;unfold oE at this;rw[Ê]at this
  let{m,a,e}:=Ç.mp this
  have b:m=k:=Ģ e;subst b;exact absurd a h
end
section
variable{X:Cx}{o i:Expr}{td ty:TE}
theorem Ky(j:X.A.units+1<ð)(hi:PE X i ty)(l:PE X o td):PC X .In i o (Qb ty td):=by
 refine{?_};intro b s σ H Q I h;refine bG (hi b s σ H _ I h) λv c ⟨y,d,e,f,k⟩=>bG (l b c σ d _ e k) λu w ⟨x,m,n,p,a,q,ex,g,r⟩=>?_;subst ex;obtain rfl:u=Æ a:=p;exact QF j n g f λz t=>{.bl q.isSome,m,t,rfl,r}
theorem oO(j:X.A.units+1<ð)(hi:PE X i ty)(l:PE X o td):PC X .NotIn i o (Hq ty td):=by
 refine{?_};intro b s σ H Q I h;refine bG (hi b s σ H _ I h) λv c ⟨y,d,e,f,k⟩=>bG (l b c σ d _ e k) λu w ⟨x,m,n,p,a,q,ex,g,r⟩=>?_;subst ex;obtain rfl:u=Æ a:=p;exact HH j n g f λz t=>{.bl (!q.isSome),m,t,rfl,r}
end
section
variable{P:É}{w:World}{K:Á}{mg:Str->Option Value}{base:Heap}
theorem xK.ok{x g:Str}{st:Stmt}{f:Addr}{fd:ì}{N ps:List Str}{k:Nat}{sp:Sp}(F:xK K x g st f fd)(S:qL N ps (ay st))(len:∀vs H Q E,sp vs H Q E->vs.9=ps.9)
 (l:∀(j:Value) (A:Around) (outer:List Env) (s:Shared) (H:Hp) (vs:List V) (Q:VK) (E:XK),cG k (A.deeper (envOfC g (ay st) s.heap.objs.size f j))->sp vs H Q E ->
   ∃t,ui (rK cI P w K mg base N g (ay st) f j A outer s H E).Hg (bL st) t/\t (Ends.fn Q) (start N vs) H):aP P w K mg base cI (k+1) f fd ps sp:=by
 let{i,m,kV,c,pm,n,j,ct,d,rfl,lk,a}:=F.ex
 refine JE lk a S len λA outer s H vs Q E e b=>?_
 let{t,h,q}:=l j A outer s H vs Q E e b
 exact⟨t,h.Hg,q⟩
theorem dZ(d:Addr)(o:Obj)(kvs:List (Key×V)):jB (Hr d o kvs) (λH=>H d=ρ (.frz o (.dK kvs))) (kvs.map λg=>kV g.1) where
 go:=λi H ok h=>{ok,by rwa[À]at h}
 ug:=λi H x a ok h q=>by
  let{rfl,g,e,rfl}:=q
  refine{rfl,?_};rw[È,e];rfl
 stop:=λH ok=>{ok,by rw[À];exact Å _}
end
section
variable{X:Cx}{tg:Expr}
theorem zN{P:É}{w:World}{K:Á}{U:Expr}{it:Addr}{n:Nat}{Pv:Nat->Value->Prop}{St:Nat->Heap->Prop}{val:Nat->V}
 (T:∀A:Around,A.handled=τ->Walks P w A it [it] [it] n Pv St)
 (g:∀i h,St i h->∃(o:Obj) (nm:String) (vs:Array Value),h.get? it=ρ o/\o.cls=.type nm/\o.data=.fields vs/\Jv nm)
 (j:∀i h h',St i h->(∀o,h.get? it=ρ o->h'.get? it=ρ o)->St i h')
 (l:∀(A:Around) (i:Nat) (s:Shared) (Q:Value->Shared->Prop) (E:Value->Shared->Prop),St i s.heap->Q (.ref it) s->wpAny (model P w) A (pyIter (.ref it)) Q E s)
 (p:∀i u,Pv i u->RelV (val i) u):Turn P w K U (OX n val) [it] it (λi h=>St i h/\i<=n) where
 mem:=by simp
 obj:=λi h st b f=>by
  have e:b=it:=by simpa using f
  subst e
  let{o,nm,vs,e,c,d,_}:=g i h st.1
  exact{o,e,λv z=>by rw[d]at z;cases z}
 keep:=λi h h' st k=>{j i h h' st.1 λo e=>k it (by simp) o e,st.2}
 item:=by
  intro X t hw x hc i a s σ H E I q st r;subst t hw x
  let{y,f1,f2,B,C,D}:=q it (by simp)
  refine(T X.A (I.ok.hd hc)).item i s _ _ r st.1 λv h' G L m J=>?_;have M:Inv X a σ H {s with heap:=h',toks:=G}:=I.turned (λb o f e=>J b o (by simpa using f) e) y f1 B C D
  let{o,nm,vs,e,c,d,hn}:=g _ _ m
  exact{1,xI (s:={s with heap:=h',toks:=G}) e c d hn {val i,H,M,p i v L,⟨rfl,rfl⟩,⟨m,r⟩,λb f=>(q b f).1}}
 done:=by
   intro X t hw x hc i a s σ H E I q st r;subst t hw x
   let{y,f1,f2,B,C,D}:=q it (by simp)
   have e:i=n:=by
    have N:=st.2;have O:n<=i:=r
    lia
   subst e;exact(T X.A (I.ok.hd hc)).done s _ _ st.1 λh' G J=>{rfl,I.turned (λb o f e=>J b o (by simpa using f) e) y f1 B C D}
 self:=λA i s Q E st h=>l A i s Q E st.1 h
theorem rW{l:Expr}{C:TE}(hl:PE X l C):PI X tg l (Qc C):=by
 refine{?_};intro f s σ H R I h;refine bG (hl f s σ H _ I h) λv a ⟨x,B,n,D,G⟩=>?_
 let{z,e,q}:=G
 subst e
 let{t,rfl}:=D
 have fin:∀(j:String) (o:Obj),(∀m:Around,m.handled=τ->Walks X.prog X.w m a.heap.objs.size [a.8] [a.8] z.cps.size (SignAt z) (λi h=>h.IsStrIter a.heap.objs.size j z t i)) ->
  (∀(A:Around) (i:Nat) (s:Shared) (Q:Value->Shared->Prop) (E:Value->Shared->Prop),s.heap.IsStrIter a.heap.objs.size j z t i->Q (.ref a.8) s->wpAny (model X.prog X.w) A (pyIter (.ref a.8)) Q E s) ->
  Jv j->(a.heap.push o).IsStrIter a.heap.objs.size j z t 0->N1 X f σ tg R (.ref a.8) {a with heap:=a.heap.push o}:=by
  intro j o J g p r
  refine{a.8,[a.8],_,_,B,rfl,n.kept (t':=a.toks) λb o e=>Ð _ e,
   zN (val:=Bd z) J (λi h st=>?_) (λi h O st k=>?_) g (λi u L=>?_),{r,à _},λb M=>?_,q}
  .let{o,e,c,d}:=st
   exact{o,j,_,e,c,d,p}
  .let{o,e,c,d}:=st
   exact{o,k o e,c,d}
  .let{c,N,hc,e}:=L
   refine{N,?_};rw[e,wde,hc];rfl
  .have e:b=a.8:=by simpa using M
   subst e;exact n.xR (Å _) (n.aT.fresh (Å _))
 cases ha:z.cps.all (· < 128)
 .exact wpAny_pyIter_wide ha (fin "str_iterator" _ (λm y=>Walks.strWide y _ z t) (λA i s Q E st h=>wpAny_pyIter_striter_wide st h) ⋯ {_,ã _ rfl,rfl,rfl})
 .exact wpAny_pyIter_ascii ha (fin "str_ascii_iterator" _ (λm y=>Walks.strAscii y _ z t) (λA i s Q E st h=>wpAny_pyIter_striter_ascii st h) ⋯ {_,ã _ rfl,rfl,rfl})
theorem jP(hc:X.calm=true):d1 X (.builtin "any") (λxs H Q=>∃p bs,xs=[.ref p]/\aG X.K H p (Ĥ V.bl bs)/\Q (.bl (bs.any id)) H):=by
 intro d s σ H xs o Q I r h
 let{p,bs,rfl,j,q}:=h
 let{u,rfl,k}:=vals1 r
 cases k
 let{a,l,pl,t}:=I.list j
 have f:=pw l;have hl:=pl.isList;have m:=I.ok.hd hc;have c:p<s.8:=by let{_,e,_}:=hl;exact Ë e
 refine call_any_walk (υ hl ?_)
 refine{s.8,[s.8,p],[s.8],a.toArray.size,_,_,λi=>(bs[i]?).getD false,rfl,Δ (A:=X.A.in1) m _ p (Ù c) a.6,
  {{_,ã _ rfl,rfl,rfl},hl.push _},λi v w x y n g=>?_,λz B hk=>?_}
 .let{b,e,rfl}:=f.get i v (by simpa using n)
  simp only[e,whq]at g;exact Ł g
 .have e:((Ü a.toArray.size).any λi=>(bs[i]?).getD false)=bs.any id:=by
   rw[â,f.9];exact LSm.range_any bs
  rw[e];exact{.bl _,H,I.kept (LSm.kept_iter hk),rfl,q}
theorem xY(hc:X.calm=true):d1 X (.builtin "all") (λxs H Q=>∃p bs,xs=[.ref p]/\aG X.K H p (Ĥ V.bl bs)/\Q (.bl (bs.all id)) H):=by
 intro d s σ H xs o Q I r h
 let{p,bs,rfl,j,q}:=h
 let{u,rfl,k}:=vals1 r
 cases k
 let{a,l,pl,t}:=I.list j
 have f:=pw l;have hl:=pl.isList;have m:=I.ok.hd hc;have c:p<s.8:=by let{_,e,_}:=hl;exact Ë e
 refine call_all_walk (υ hl ?_)
 refine{s.8,[s.8,p],[s.8],a.toArray.size,_,_,λi=>(bs[i]?).getD true,rfl,Δ (A:=X.A.in1) m _ p (Ù c) a.6,
  {{_,ã _ rfl,rfl,rfl},hl.push _},λi v w x y n g=>?_,λz B hk=>?_}
 .let{b,e,rfl}:=f.get i v (by simpa using n)
  simp only[e,whq]at g;exact Ł g
 .have e:((Ü a.toArray.size).all λi=>(bs[i]?).getD true)=bs.all id:=by
   rw[â,f.9];exact LSm.range_all bs
  rw[e];exact{.bl _,H,I.kept (LSm.kept_iter hk),rfl,q}
theorem wH(hc:X.calm=true):d1 X (.builtin "sorted") (λxs H Q=>∃d kvs g,xs=[.ref d]/\H d=ρ (.dK kvs)/\kvs.map (·.1)=Ĥ (Ã:Str->Key) g/\g.9<64 /\
 ∀l ss,H l=τ->ss.Perm g->sortedS ss=true->Q (.ref l) (upd H l (.lst (ss.map V.str)))):=by
 intro k s σ H xs Y Q I r h
 let{d,kvs,g,rfl,hd,hk,v,q}:=h
 let{u,rfl,N}:=vals1 r
 cases N
 let{D,lo,x,rel,O}:=rN I.aT hd
 let{ep,y}:=O.dictAt
 have R:=I.ok.hd hc;have n:kvs.9=g.9:=by have:=congrArg Ŋ hk;simpa using this
 have hn:x.9<=sizeLine:=by rw[<-rel.9];exact D
 refine Calls.call_function_entry kind_sorted plain_sorted entry_sorted (args_sorted1 _) ?_;unfold Ĩ.«sorted»;refine Â (m:=checkCount "sorted" 1 1 _) (Í ?_);refine Â (PySem.W.kdu_collect (A:=X.A.in1) (whr (knd:=b8 X.prog X.w) (kvs:=x) (ep:=ep) lo) R y hn λi E a z c=>?_);have hl:a.toList.9=x.9:=by rw[χ];exact c.1
 refine Â (wpAny_newList ?_ (by rw[hl];exact hn));have B:StrsAre a.toList g:=E5 (P:=X.prog) (w:=X.w) hk rel hl λj u e=>c.2 j u (by rw[<-wcv];exact e);have f:(i.push (seqObj "list" a.toList.toArray 0)).get? i.7=ρ (seqObj "list" a.toList.toArray 0):=ã _ rfl;have p:a.toList.9<64:=by rw[hl,<-rel.9,n];exact v
 refine Â (ö (wpAny_call_entry slot_list_sort {_,f,rfl} entry_list_sort (list_sort_treeK strKind_oneLt f B.keysOf (λG J rest e=>keyKind_strs (by rw[<-e];exact B)) p λC a1 a2=>{1,?_}) (args_list_sort _)))
 let{t,S,L,T}:=sorted_out_str B a1 a2
 have M:Inv X k σ H {s with heap:=i,toks:=E}:=I.kept z
 let{e,U}:=sortedHeap_at (out:=(arrOf C).map (·.2)) f
 refine Í {1,{.ref i.7,upd H i.objs.size (.lst (t.map V.str)),M.laid (t':=E) (λb o q=>?_) (Å _) {?_,_,e,uV S,?_},rfl,q _ t (M.aT.fresh (Å _)) L T}}
 .have lt:b<i.7:=Ë q;rw[sortedHeap_old (Ù lt) (by rw[size_push'];exact wdN lt)];exact Ð _ q
 .rw[À,L.length_eq,<-n];exact D
 .rw[wdm];exact U
theorem mi(hc:X.calm=true):d1 X (.type "list") (λxs H Q=>∃d kvs,xs=[.ref d]/\H d=ρ (.dK kvs)/\∀l,H l=τ->Q (.ref l) (upd H l (.lst (kvs.map λg=>kV g.1)))):=by
 intro k s σ H xs y Q I r h
 let{d,kvs,rfl,hd,q}:=h
 let{u,rfl,n}:=vals1 r
 cases n
 let{m,lo,f,rel,o}:=rN I.aT hd
 let{ep,i}:=o.dictAt
 have p:=I.ok.hd hc;have hn:f.9<=sizeLine:=by rw[<-rel.9];exact m
 refine whs (whr (knd:=b8 X.prog X.w) (kvs:=f) (ep:=ep) lo) p i hn λt v b c kp x a=>?_;have hl:b.toList.9=f.9:=by rw[χ];exact a.1
 refine{.ref s.8,_,I.laid (t':=v) kp (Å _) (show bq X.prog X.w _ t _ (.lst (kvs.map λg=>kV g.1)) from {?_,b.toList,c,uZ (P:=X.prog) (w:=X.w) rel hl λj u e=>a.2 j u (by rw[<-wcv];exact e),?_}),rfl,q _ (I.aT.fresh (Å _))}
 .rw[À];exact m
 .rw[wdm];exact x
theorem mj(hc:X.calm=true):d1 X (.type "list") (λxs H Q=>∃v d kvs,xs=[.ref v]/\H v=ρ (iw v d)/\H d=ρ (.dK kvs)/\∀l,H l=τ->Q (.ref l) (upd H l (.lst (kvs.map (·.2))))):=by
 intro k s σ H xs D Q I r h
 let{v,d,kvs,rfl,n,hd,q}:=h
 let{u,rfl,o}:=vals1 r
 cases o
 let{m,lo,b,rel,p}:=rN I.aT hd
 let{ep,i}:=p.dictAt
 let{g,_}:=(show bq X.prog X.w H s.heap v (iw v d) from I.aT v _ n)
 have x:=I.ok.hd hc;have hn:b.9<=sizeLine:=by rw[<-rel.9];exact m
 refine whs (wgU (knd:=b8 X.prog X.w) (kvs:=b) (ep:=ep)) x ⟨g,i⟩ hn λy z a c kp A f=>?_;have hl:a.toList.9=b.9:=by rw[χ];exact f.1
 have e:a.toList=b.map (·.2):=PySem.W.kdl_vals_eq a.toList hl λj u e=>f.2 j u (by rw[<-wcv];exact e)
 have B:∀{kvs:List (Key×V)} {b:List (Key×Value)},KV kvs b->Vals (kvs.map (·.2)) (b.map (·.2)):=λ{kvs b} r=>by
  induction r with
  |nil=>exact .nil
  |cons r t C=>exact .cons r.2 C
 refine{.ref s.8,_,I.laid (t':=z) kp (Å _) (show bq X.prog X.w _ y _ (.lst (kvs.map (·.2))) from {?_,a.toList,c,by rw[e];exact B rel,?_}),rfl,q _ (I.aT.fresh (Å _))}
 .rw[À];exact m
 .rw[wdm];exact A
theorem C7{P:É}{w:World}{K:Á}{g:List Expr}{k:Nat}{pos:Pos}(a e it:Addr)(j:e≠it):Turn P w K (.Tuple g k pos) (M5 K a) [e,it] e (λi h=>(∃old,IsEnum h e it (i:Nat) old)/\h.IsListIter it a i) where
 mem:=by simp
 obj:=λi h st b f=>by
  let{{old,c},o,t,hc,hd}:=st
  rcases æ.mp f with rfl |f
  .exact{_,c,λv z=>by
    have Q:weJ _=wfM v:=z
    cases Q}
  .have R:b=it:=by simpa using f
   subst R;exact{o,t,λv z=>by rw[hd]at z;cases z}
 keep:=λi h O st k=>{st.1.imp λold c=>k e (by simp) _ c,st.2.at λo q=>k it (by simp) o q}
 item:=by
  intro X A hw B hc i l s σ H E I C st D;subst A hw B
  let{S,x,r,G}:=D
  let{J,L,p,T}:=I.list r
  let{u,U,V}:=L.get G
  let{{old,c},hit}:=st
  refine wpAny_pyNext_enum_item c hit p.isList (x:=u) (by simpa using U) j λO t m Y Z hk=>?_;refine{1,weX t λTl M d=>?_}
  let{_,N,_}:=id hit
  have n:e<s.8:=Ë c
  let{fr,I1,hn}:=rV (y:=.int (i:Nat)) (s.toks+1) I C (λb o h q=>(d.2 b (C0 h).1).trans (hk b o (C0 h).1 (C0 h).2 q)) ((d.2 _ (Ķ n)).trans Y) {_,rfl} V (MF n (Ë N))
  exact{.ref s.8,_,I1,rfl,{s.8,x,fr,rfl,rfl,λys hy=>by rw[I.rM hy r];exact G},{{u,by simpa using M},m.at λo q=>(d.2 it (è j)).trans q},hn}
 done:=by
   intro X A hw B hc i l s σ H E I C st D;subst A hw B
   let{S,r,G}:=D
   let{J,L,p,T}:=I.list r
   have hl:=L.9
   let{{old,c},hit}:=st
   let{g0,g1,g2,g3,g4,g5}:=C it (by simp)
   exact wpAny_pyNext_enum_end (I.ok.hd hc) c hit p.isList (wg1 (by simp;lia)) λO eb=>{rfl,I.turned (t':=s.toks) (λb o f e=>eb b o f e) g0 g1 g3 g4 g5}
 self:=λ_ _ _ _ _ st h=>let ⟨⟨_,c⟩,_⟩:=st;wdO c h
theorem mX{g:List Expr}{k:Nat}{j:Pos}{l:Expr}{o:TA}{p pos:Pos}(r:Gl X "enumerate")(t:X.mg "enumerate"=τ)(ha:PA X [l] o)(hs:starEach [l] X.5=[(false,eval l X.5)]:=by rfl) :
 PI X (.Tuple g k j) (.Call (.Name "enumerate" p) [l] [] pos) (MP X.K o):=by
 refine{?_};intro c s σ H R I h;refine Call_ (gA I r t je (Ξ (bG (ha pos c s σ H _ I h) λD d ⟨E,m,i,v,w⟩=>?_) hs rfl))
 let{a,G,e,x,q}:=w
 subst e
 let{u,rfl,y}:=vals1 v
 cases y
 let{z,J,pl,L}:=i.list x
 refine call_enumerate_list pl.isList λA n hit B kp=>wdO n ?_;have C:Inv X c σ m {d with heap:=A}:=i.kept (t':=d.toks) kp;refine{d.8+1,[d.8+1,d.8],_,_,m,rfl,C,C7 a _ _ (Ķ (ŀ _)),{{_,n},hit},λb M=>?_,q}
 have f:d.8<=b:=by
  grind
 exact i.xR f (i.aT.fresh f)
theorem zO(hc:X.calm=true):d1 X (.type "list") (λxs H Q=>∃(p:Addr) (n:Nat),xs=[.ref p]/\H p=ρ (.rng 0 (n:Int))/\n<=sizeLine/\∀l,H l=τ->Q (.ref l) (upd H l (.lst ((Ü n).map λi=>V.int (i:Nat))))):=by
 intro m s σ H xs b Q I r h
 let{p,n,rfl,x,hn,q}:=h
 let{u,rfl,y}:=vals1 r
 cases y
 let{t,u,v,e}:=I.aT p _ x
 have f:n<=2^24:=by rw[Ė]at hn;lia
 refine call_list_range (I.ok.hd hc) (n:=n) (show IsRange s.heap p 0 (n:Int) 1 t u v from e) (small_one () () () ()) (by rw[rangeSize_one];split<;>lia) f λg z d c kp A a=>?_
 have B:∀(b:List Value) (k:Nat),(∀(j:Nat) (u:Value),b[j]?=ρ u->∃t,u=.int ((k+j:Nat):Int) t)->Vals ((wg2 k b.9).map λi=>V.int (i:Nat)) b:=by
  intro b
  induction b with
  |nil=>intro k _;exact .nil
  |cons u b C=>
   intro k h
   let{t,e}:=h 0 u rfl
   rw[õ,wht,Ñ];refine .cons ⟨t,e⟩ (C (k+1) λj u g=>?_)
   let{t,e}:=h (j+1) u (by simpa using g)
   exact{t,by rw[e];congr 1;lia}
 have hl:d.toList.9=n:=by rw[χ];exact a.1
 have o:=B d.toList 0 λj u e=>by
  let{t,D}:=a.2 j u (by rw[<-wcv];exact e)
  exact{t,by rw[D];congr 1;lia}
 rw[hl,<-List.range_eq_range']at o;refine{.ref s.8,_,I.laid (t':=z) kp (Å _) (show bq X.prog X.w _ g _ (.lst ((Ü n).map λi=>V.int (i:Nat))) from {?_,d.toList,c,o,?_}),rfl,q _ (I.aT.fresh (Å _))}
 .rw[À,Ă];exact hn
 .rw[wdm];exact A
theorem fJ(hc:X.calm=true):d1 X (.builtin "sum") (λxs H Q=>∃p ns,xs=[.ref p]/\aG X.K H p (Ĥ V.int ns)/\Q (.int ns.sum) H):=by
 intro b s σ H xs j Q I r h
 let{p,ns,rfl,d,q}:=h
 let{u,rfl,f}:=vals1 r
 cases f
 let{a,g,pl,k}:=I.list d
 let{c,e,rfl}:=iS g
 have hl:s.heap.IsList p (intItems c.6):=by
  have:intItems c.6=a.6:=by rw[e];unfold intItems;simp
  rw[this];exact pl.isList
 refine sum_intListG (I.ok.hd hc) hl λl m i hk=>?_;refine{.int _,H,I.kept hk,{i,?_},q};rw[preSum_eq,ŕ (by simp)]
theorem Er:P4 X .Mult VG:=by
 intro a s σ H x y v u Q I b c h
 let{i,j,d,e,hc,q}:=h
 subst d;subst e
 let{t,rfl}:=b
 let{f,rfl}:=c
 exact imul_int {.int _,H,I.tok _,{_,rfl},q} hc.ok
theorem C8(hc:X.calm=true):d1 X (.builtin "max") (λxs H Q=>∃p ns,xs=[.ref p]/\aG X.K H p (Ĥ V.int ns)/\ns≠[]/\∀M,M∈ns->(∀a∈ns,a<=M)->Q (.int M) H):=by
 intro g s σ H xs w Q I r h
 let{p,ns,rfl,i,c,q}:=h
 let{u,rfl,k}:=vals1 r
 cases k
 let{d,l,pl,x}:=I.list i
 let{b,e,rfl}:=iS l
 have hl:s.heap.IsList p (intItems b.6):=by
  have:intItems b.6=d.6:=by grind [intItems]
  rw[this];exact pl.isList
 have f:0<b.toArray.size:=by
  rw[â];exact Nat.pos_of_ne_zero λz=>c (by grind)
 refine max_intList (I.ok.hd hc) hl f λv y A m hk=>?_
 let{t,rfl}:=whi m
 let{B,n}:=argBest_gt (numAt b.6) (b.toArray.size-1)
 refine{.int _,H,I.kept hk,⟨t,rfl⟩,q _ ?_ λa ha=>?_}
 .rw[numAt_eq];exact getD_mem (by grind)
 .let{j,o,rfl}:=mem_getD ha
  rw[À]at o;have:=n j (by grind);rw[numAt_eq]at this;exact this
def gD(K:Á)(J:It)(l:Addr)(σf:St)(tt:TT)(te:TE)(H:Hp)(Q:Hp->Prop):Prop:=
 ∃W:Nat->Nat->List V->Hp->Prop,(∃m,W 0 m [] (upd H l (.lst [])))/\∀i m ys H2,W i m ys H2->H2 l=ρ (.lst ys) /\
  ((J.stop i H2/\Q H2)\/(J.go i H2/\ys.9<sizeLine/\∀x H3,J.ug i H2 x H3->∃p a b,x=.ref p/\eY K H3 p [a,b]/\tt (ρ a::ρ b::σf) H3 λok H4=>
    if ok=true then te (ρ a::ρ b::σf) H4 λy H5=>H5 l=ρ (.lst ys)/\∃m',m'<m/\W (i+1) m' (ys++[y]) (upd H5 l (.lst (ys++[y])))
    else ∃m',m'<m/\W (i+1) m' ys H4))
def Kz(K:Á)(wi:TI)(ix:List Nat)(tt:TT)(te:TE):TE:=λσ H Q=>wi σ H λJ H1=>∀l,H1 l=τ->gD K J l (pick σ ix) tt te H1 (λH2=>Q (.ref l) H2)
theorem xZ{P:É}{w:World}{K:Á}{C:Expr}(it:Addr)(lo c:Int)(n:Nat):Turn P w K C (Hn lo c n) [it] it (λi h=>wfW h it (lo+(i:Nat)*c) ((n:Int)-(i:Nat)) c) where
 mem:=by simp
 obj:=λi h st b d=>by
  have e:b=it:=by simpa using d
  subst e
  exact{_,st,λv z=>by
   have A:weJ _=wfM v:=z
   cases A}
 keep:=λi h g st k=>k it (by simp) _ st
 item:=by
  intro X l hw m hc i a s σ H E I j st p;subst l hw m
  let{q,f1,f2,r,u,x}:=j it (by simp)
  have B:=Walks.range (prog:=X.prog) (w:=X.w) (I.ok.hd hc) it lo c n;refine B.item i s _ _ p st λv g y D f G=>?_
  let{t,rfl}:=D
  have J:Inv X a σ H {s with heap:=g,toks:=y}:=I.turned (λb o d e=>G b o (by simpa using d) e) q f1 r u x;exact{1,xI (s:={s with heap:=g,toks:=y}) (n:="range_iterator") f rfl rfl ⋯ {.int (lo+(i:Nat)*c),H,J,⟨t,rfl⟩,⟨rfl,rfl⟩,f,λb d=>(j b d).1}}
 done:=by
   intro X l hw m hc i a s σ H E I j st p;subst l hw m
   let{q,f1,f2,r,u,x}:=j it (by simp)
   exact wfX (I.ok.hd hc) st (by have:n<=i:=p;lia) λg L=>{rfl,I.turned (t':=s.toks) (λb o d e=>L b o d e) q f1 r u x}
 self:=λ_ _ _ _ _ st h=>wfY st h
def HI(K:Á)(wi:TI)(ix:List Nat)(tt:TT)(te:TE)(i:Nat):TS:=λD σ H=>wi σ H λJ H1=>∀l,H1 l=τ->gD K J l (pick σ ix) tt te H1 (λH2=>D.nx (σ.set i (ρ (.ref l))) H2)
def rX(K:Á)(J:It)(l:Addr)(σf:St)(tt:TT)(te:TE)(H:Hp)(Q:Hp->Prop):Prop:=
 ∃W:Nat->Nat->List V->Hp->Prop,(∃m,W 0 m [] (upd H l (.lst [])))/\∀i m ys H2,W i m ys H2->H2 l=ρ (.lst ys) /\
  ((J.stop i H2/\Q H2)\/(J.go i H2/\ys.9<sizeLine/\∀x H3,J.ug i H2 x H3->∃p a b c,x=.ref p/\eY K H3 p [a,b,c]/\tt (ρ a::ρ b::ρ c::σf) H3 λok H4=>
    if ok=true then te (ρ a::ρ b::ρ c::σf) H4 λy H5=>H5 l=ρ (.lst ys)/\∃m',m'<m/\W (i+1) m' (ys++[y]) (upd H5 l (.lst (ys++[y])))
    else ∃m',m'<m/\W (i+1) m' ys H4))
def KA(K:Á)(wi:TI)(ix:List Nat)(tt:TT)(te:TE):TE:=λσ H Q=>wi σ H λJ H1=>∀l,H1 l=τ->rX K J l (pick σ ix) tt te H1 (λH2=>Q (.ref l) H2)
end
section
variable{X:Cx}{pins:List (Addr×Obj)}{σ:St}{H:Hp}{s:Shared}{e:Addr}
theorem Cx.Ok.marked(ok:X.Ok):(X.marked e).Ok:=
 {ok.mod,ok.kind,ok.glob,ok.blt,ok.above,ok.inj,ok.has,ok.K7,λz=>Bool.noConfusion z,ok.frames,ok.M1,ok.OV,ok.bs,ok.DM,ok.zu,ok.BW,ok.mN,ok.He}
theorem Inv.marked(I:Inv X pins σ H s):Inv (X.marked e) pins σ H s:=⟨I.ok.marked,I.os,I.bare,I.base,I.loc,I.cell,I.free,I.gx,I.pin,I.aT,I.len⟩
theorem Inv.unmarked(ok:X.Ok)(I:Inv (X.marked e) pins σ H s):Inv X pins σ H s:=⟨ok,I.os,I.bare,I.base,I.loc,I.cell,I.free,I.gx,I.pin,I.aT,I.len⟩
theorem QG(e:h.get? x=ρ {.ref C,od,.fields vs,sl}):bq P w H h x (XC x C od):=
 {⟨vs,sl,e⟩,{_,e},λd f ⟨a,b,c⟩ k=>{a,b,k _ c}}
theorem Inv.Nh{φ:Heap->Prop}(I:Inv X pins σ H s)(hn:H x=τ)(g:X.s₀.8<=x)(hl:x≠X.env.locals)(hc:∀y c,X.env.cells.lookup y=ρ c->c≠x)(j:∀p∈X.pn++pins,p.1≠x)(ok:bq X.prog X.w (upd H x (.ext φ)) s.heap x (.ext φ)) :
 Inv X pins σ (upd H x (.ext φ)) s:=by
 have u:=I.base;refine{I.ok,I.os,I.bare,{u.keep,u.slot,λb o q n h=>?_,u.there,λb f q=>?_,λb o v q=>?_,λb ps q=>?_},I.loc,I.cell,by rw[aa (è hl)];exact I.free,λy c e=>by rw[aa (hc y c e)];exact I.gx y c e,λp d=>?_,λa o e=>?_,I.len}
 .rw[aa (λz=>by rw[z]at q;exact absurd (Þ (Ë q) g) (þ _))];exact u.free b o q n h
 .have e:=u.oA b f q;rw[aa (a9 e hn)];exact e
 .have e:=u.mM b o v q;rw[aa (a9 e hn)];exact e
 .let{m,e}:=u.oB b ps q
  exact{m,by rw[aa (a9 e hn)];exact e}
 .let{a1,a2,a3}:=I.pin p d
  exact{a1,by rw[aa (j p d)];exact a2,a3}
 .by_cases z:a=x
  .subst z;rw[a5]at e;cases e;exact ok
  .rw[aa z]at e;refine(I.aT a o e).qy (λb u _ q=>q) (λb q=>?_) λb f q=>?_
   .rw[aa (a9 q hn)];exact q
   .rw[aa (a9 q hn)];exact q
theorem Inv.Es{m:Str->Option Value}(I:Inv X pins σ H s)(J:X.N.Nodup)(C:X.N[j]?=ρ n)(hk:X.env.scope.names.lookup n=ρ .local)
 (T:∃m,s.heap.Ns X.env.locals m/\(∀(i:Nat) (x:Str) (v:V),X.N[i]?=ρ x->σ[i]?=ρ (ρ v)->M0 X.env.scope x->∃u,RelV v u/\Look X.env s.heap m x u)/\h'.Ns X.env.locals (λx=>if x=n then v else m x))
 (hs:wei X.env.locals s.heap h'):Inv X pins (σ.set j τ) H {s with heap:=h',toks:=tk}:=by
 let{m,hn,hl,r}:=T
 have E8:=I.E8
 let{Q,_,_,A,_}:=id hn
 refine{I.ok,I.os,I.bare,{λb o e n t h=>?_,λb o e n t h=>?_,I.base.free,λb o e h=>?_,I.base.oA,I.base.mM,I.base.oB},{_,r,λi y B g l D=>?_},λy c e=>?_,I.free,I.gx,λp E=>?_,λb ob e=>?_,by simpa using I.len}
 .exact(hs.2 b (Ù (Þ (Ë e) I.ok.above))).trans (I.base.keep b o e n t h)
 .let{sl,g}:=I.base.slot b o e n t h
  exact{sl,(hs.2 b (Ù (Þ (Ë e) I.ok.above))).trans g}
 .let{G,g}:=I.base.there b o e h
  exact{G,(hs.2 b (Ù (Þ (Ë e) I.ok.above))).trans g}
 .by_cases f:i=j
  .subst f;have:i<σ.9:=by rw[I.len];exact(Ö.mp C).1
   rw[ξ this]at l;cases l
  .rw[ο (è f)]at l
   let{L,M,q}:=hl i y B g l D
   refine{L,M,?_};rcases q with⟨k,e⟩ |⟨k,c,e,z⟩
   .refine .inl {k,?_};have:y≠n:=λe=>f (rm J g (e ▸ C));simp[this,e]
   .exact .inr {k,c,e,z.sameBut hs (E8 y c e)}
 .let{w,z}:=I.cell y c e
  exact{w,z.sameBut hs (E8 y c e)}
 .let{e,n,ne,O,d}:=I.pin p E
  exact{(hs.2 p.1 ne).trans e,n,ne,O,d}
 .refine(I.aT b ob e).qy (λc w hc q=>(hs.2 c ?_).trans q) (λ_ q=>q) λ_ _ q=>q;rintro rfl;have a:=I.free;rcases hc with rfl |hc
  .rw[a]at e;cases e
  .rw[a]at hc;cases hc
theorem y2{K:Á}{J:It}(h:gD K J l g j o H Q):vh (DP K 2 (jF (dM 0) (jF (dM 1) DN))) 2 J l g j o H Q:=
 let ⟨W,a,t⟩:=h
 {W,a,λi m ys f w=>let ⟨p,q⟩:=t i m ys f w;{p,q.imp id λ⟨a,b,c⟩=>{a,b,λx k n u y=>by revert n;refine gW 2 _ ?_;exact λ_ _=>let ⟨p,v,d,e,r,s⟩:=c x k y;{p,[v,d],e,r,rfl,v,[d],rfl,d,[],rfl,rfl,{[ρ v,ρ d],rfl,rfl},s}}}}
theorem Et{K:Á}{J:It}(h:rX K J l g j o H Q):vh (DP K 3 (jF (dM 0) (jF (dM 1) (jF (dM 2) DN)))) 3 J l g j o H Q:=
 let ⟨W,a,t⟩:=h
 {W,a,λi m ys k w=>let ⟨p,q⟩:=t i m ys k w;{p,q.imp id λ⟨a,b,c⟩=>{a,b,λx n r z y=>by revert r;refine gW 3 _ ?_;exact λ_ _ _=>let ⟨p,v,f,d,e,u,s⟩:=c x n y;{p,[v,f,d],e,u,rfl,v,[f,d],rfl,f,[d],rfl,d,[],rfl,rfl,{[ρ v,ρ f,ρ d],rfl,rfl},s}}}}
end
section
variable{x:Str}
abbrev GL(X:Cx)(ifs:List Expr)(t:TT):Prop:=Bx (∀(pins:List (Addr×Obj)) (s:Shared) (σ:St) (H:Hp) (Q:Bool->Hp->Prop),Inv X pins σ H s->t σ H Q ->
  wpAny (model X.prog X.w) X.A (forIn ifs true λc r=>if r=true then do let ok <-isTrue c X.env (eval c X.5);pure (ž ok) else pure (ž r)) (TP X pins σ Q) X.xe s)
theorem b9{X:Cx}:GL X [] qw:={λ_ _ _ H _ I h=>wpAny_tests_nil ⟨H,I,h⟩}
theorem fA{X:Cx}(h:PT X c t):GL X [c] t:={λa s σ H Q I hw=>wpAny_tests_one (h a s σ H Q I hw)}
inductive Ni(x y:V)(H:Hp)(Q:VK):Prop
 |mk (l b xs zs) (_:x=.ref l) (_:y=.ref b) (_:Rd H l (.lst xs)) (_:Rd H b (.lst zs)) (_:xs.9+zs.9<=sizeLine) (_:∀p,H p=τ->Q (.ref p) (upd H p (.lst (xs++zs))))
end
section
variable{X:Cx}{pins:List (Addr×Obj)}{σ:St}{H:Hp}{s₂:Shared}{scope:ú}{x:Str}{xs ys:List Str}{ix:List Nat}{cl:List (Str×Addr)}{fp:List Addr}{L:Addr}
theorem HJ(B:bH X scope x ys ix)(I:Inv X pins σ H s₂)(j:∀b∈fp,ro X pins H b)(l:∀b∈fp,b<s₂.8)(r:s₂.8<=L)
 (g:∀y c,cl.lookup y=ρ c->X.env.cells.lookup y=ρ c) (p:∀y∈scope.names,y.2=.free->∃c,cl.lookup y.1=ρ c):(bc X scope N cl L s₂ H fp (X.pn++pins)).Ok where
 mod:=I.ok.mod
 kind:=B.kind
 glob:=I.ok.glob
 blt:=I.ok.blt
 above:=r
 inj:=λa b c i m=>I.ok.inj a b c (g a c i) (g b c m)
 has:=λa ha=>by
  let{k,f,hk}:=wB (env:=X.5) B.E1 (x:=a) ha
  exact p (a,k) f hk
 K7:=λ_ _ h=>nomatch h
 hd:=I.ok.hd
 frames:=I.ok.frames
 M1:=.inl rfl
 OV:=λb d=>{Ù (Þ (l b d) r),λy c h=>(j b d).2.2.2.2.1 y c (g y c h)}
 bs:=I.bs
 DM:=Ï I.ok.DM I.sz
 zu:=λb o e d=>by
  rcases(j b d).2.2.2.1 with z |z
  .exact I.ok.zu b o e z
  .exact absurd (Þ (Þ (Ë e) I.ok.DM) z) (þ _)
 BW:=λb d f=>by
  rcases æ.mp (I.rF b f) with z |z
  .exact(j b d).2.1 z
  .exact(j b d).2.2.1 z
 mN:=I.stack
 He:=I.qP
theorem Eu{m₁:Str->Option Value}(B:bH X scope x ys ix)(I:Inv X pins σ H s₂)(hf:∀b∈fp,ro X pins H b)(J:∀b∈fp,b<s₂.8)(T:s₂.8<=L)
 (g:∀y c,cl.lookup y=ρ c->X.env.cells.lookup y=ρ c) (C:∀y∈scope.names,y.2=.free->∃c,cl.lookup y.1=ρ c)
 (kp:∀b o,s₂.heap.get? b=ρ o->t.get? b=ρ o) (U:t.Ns L m₁) (hl:l=s₂.8) (QH:l≠L) (ho:t.get? l=ρ {cls:=.type "list",data:=.seq ([]:List Value).toArray n₀}) :
 Inv (bc X scope (xs++ys) cl L s₂ H fp (X.pn++pins)) [] (ë xs.length τ++pick σ ix) (upd H l (.lst [])) {s₂ with heap:=t,toks:=tk}:=by
 subst hl;have Q:=I.aT.fresh (Å s₂.8);refine{HJ B I hf J T g C,rfl,I.bare,Un.laid kp (Å _) Q,{m₁,U,λi y v D E Z=>?_},λy c e=>?_,?_,λy c e=>?_,λp O=>?_,I.aT.laid kp (Å _) {à _,[],n₀,.nil,ho},?_}
 .obtain⟨j,rfl⟩:∃j,i=xs.9+j:=by
   by_cases z:i<xs.9
   .rw[Ĉ (by simpa using z)]at E;simp[z]at E
   .exact{i-xs.9,()}
  have G:ys[j]?=ρ y:=by
   have D:(xs++ys)[xs.9+j]?=ρ y:=D;rwa[ĉ (Nat.le_add_right _ _),wcj]at D
  let{i,hi,R,hk,a}:=B.slots j y G
  have f:(σ[i]?).join=ρ v:=by
   have:(pick σ ix)[j]?=ρ (ρ v):=by rwa[ĉ (by simp),wda,wcj]at E
   unfold pick at this;rw[È,hi]at this;exact Î this
  have s:σ[i]?=ρ (ρ v):=by
   cases q:σ[i]? with
   |none=>rw[q]at f;cases f
   |some z=>rw[q]at f;rw[show z=ρ v from f]
  let{m,hn,M}:=I.loc
  have N:M0 X.env.scope y:=.inr (hk.imp id id)
  let{u,r,l}:=M i y v R s N
  refine{u,r,.inr {rA a,?_}};rcases l with⟨k,_⟩ |⟨_,c,hc,h⟩
  .have A:X.env.scope.names.lookup y=ρ .local:=k;rcases hk with z |z
   .rw[z]at A;cases A
   .rw[z]at A;cases A
  .let{S,w}:=C (y,.free) (θ a) rfl
   have:=g y S w;rw[hc]at this;cases this
   let{o,q,d}:=h
   exact{c,w,o,kp c o q,d}
 .let{v,o,q,d}:=I.cell y c (g y c e)
  exact{v,o,kp c o q,d}
 .show upd H s₂.heap.objs.size (.lst []) L=τ;rw[aa (è QH)];exact I.aT.fresh T
 .let{v,o,q,d}:=I.cell y c (g y c e)
  rw[aa (Ù (Ë q))];exact I.gx y c (g y c e)
 .rw[ý]at O
  let{q,n,ne,V,d}:=I.pin p O
  have lt:=Ë q;refine{kp _ _ q,by rw[aa (Ù lt)];exact n,Ù (Þ lt T),λY=>?_,d};rcases æ.mp (I.rF p.1 Y) with z |z
  .exact ne z
  .exact V z
 .simp[pick,B.len,bc]
theorem Bk(B:bH X scope x ys ix)(cl L s H ex pn):PG (bc X scope ([x]++ys) cl L s H ex pn) (.Name x g) (dM 0):=
 have a:(relabel scope X.5).names.lookup x=ρ .local:=ź B.var
 iU B.nd rfl (.inl a) (.inr a)
theorem wI:jE X (binaryOp .Add) Ni:=by
 intro d s σ H x y v u Q I g i h
 let{l,b,t,w,rfl,rfl,j,k,A,q}:=h
 cases g;cases i
 let{z,c,n,r,e}:=j.ok I.aT
 let{B,a,C,f,m}:=k.ok I.aT
 have hl:=r.9;have o:=f.9;refine whp e m ?_ (by grind);have p:c.6++a.6=(c++a).6:=by simp
 rw[p];exact{.ref _,_,I.Kv (t':=s.toks) (r.append f) (by grind),rfl,q _ I.fresh}
end
section
variable{P:É}{w:World}{K:Á}{mg:Str->Option Value}{base:Heap}{N:List Str}{qual:Str}{scope:ú}{f:Addr}{cd:Value}{A:Around}{outer:List Env}{s:Shared}{H:Hp}{E:XK}
theorem iT.past{lo:Nat}{H:Hp}{fs:List Addr}{h h':Heap}(x:iT P w H h)(p:E7 lo H fs h h')(g:∀b∈fs,H b=τ):iT P w H h':=λa o e=>
 (x a o e).qy (λb u c q=>p.keep b u q (.inr (by grind)) λd=>by
   grind) (λ_ q=>q) λ_ _ q=>q
theorem cq:Be (rK (xE P w) P w K mg base N qual scope f cd A outer s H E) E:=by
 intro v σ l x e C y I F B;show wpAny (model P w) _ («leaving» _ (.ref e)) (λ_ d=>xE P w outer H s E (.ref e) d) (λD d=>xE P w outer H s E D d) x;unfold «leaving»;have g:∀b,x.8<=b->l b=τ:=λb a=>I.aT.fresh a;refine Â (xP (lo:=s.8) (H:=l) (base:=base) (outer:=outer) I.ok.frames I.stack rfl I.sz g F λJ G p=>?_);have m:=I.qP
 have h:∀b o,s.heap.get? b=ρ o->b∉qu outer->b∉(envOfC qual scope s.heap.objs.size f cd::outer).filterMap (·.frame):=λb o a hn j=>by
  rcases æ.mp (show b∈s.8::qu outer from j) with z |z
  .exact absurd (Ë a) (by rw[z];exact þ _)
  .exact hn z
 refine{e,C,y,l,rfl,I.os,I.bare,?_,I.aT.past p m,G,B};have u:=I.base;refine{λb o a n c i=>?_,λb o a n c i=>?_,λb o a n i=>u.free b o a n i,λb o a i=>?_,u.oA,u.mM,u.oB}
 .exact p.keep b o (u.keep b o a n c i) (.inl (Ë a)) (h b o a c)
 .let{sl,k}:=u.slot b o a n c i
  let{q,r}:=p.slot b _ k (show b∈s.8::qu outer from Ô _ c)
  exact⟨q,r⟩
 .let{t,k}:=u.there b o a i
  by_cases j:b∈(envOfC qual scope s.heap.objs.size f cd::outer).filterMap (·.frame)
  .let{sl,r}:=p.slot b t k j
   exact{_,r}
  .exact{t,p.keep b t k (.inl (Ë a)) j}
theorem rY(o:KV g j)(r:ry g=true):∀{l:List (Key×V)} {C:List (Key×Value)},KV l C->ry l=true->whD A s j C (hitsD g l)
 |_,_,.nil,_=>.nil
 |_,_,@Paired.cons _ _ _ p q ps d h t,c=>by
  let{k,v}:=p
  let{f,u}:=q
  let{i,m}:=h
  obtain rfl:k=f:=i;have f1:cZ v=true:=ø.mp c (k,v) (Ø ..);have f2:ry ps=true:=ø.mpr λz n=>ø.mp c z (Ô _ n);have w:=rY o r t f2;have a:=o.val k;unfold hitsD;rw[weS];show whD A s j ((k,u)::d) ((match cF g k with |some y=>oz v y |none=>false)&&_)
  cases e:cF g k with
  |none=>
   rw[e]at a
   cases b:valueAt j k with
   |none=>exact .miss b
   |some y=>rw[b]at a;exact ç a
  |some y=>
   rw[e]at a
   cases b:valueAt j k with
   |none=>rw[b]at a;exact ç a
   |some x=>
    rw[b]at a;exact .hit b (wA m a f1 (C3 r e)) w
end
section
variable{X:Cx}{pins:List (Addr×Obj)}{σ:St}{H:Hp}{s:Shared}{a:Addr}{y v:V}{u:Value}{A:Around}{E:Value->Shared->Prop}
theorem C9{Q:Value->Shared->Prop}(C:A.units+1<ð)(I:Inv X pins σ H s)(g:cB H a y (ρ v))(t:RelV y u)(h:∀j s',Inv X pins σ H s'->RelV v j->Q j s') :
 wpAny (model X.prog X.w) A (getItem (.ref a) u) Q E s:=by
 rcases g with⟨d,k,e,f,l⟩ |⟨d,k,b,e,f,n,l⟩
 .subst f
  let{z,hd,q,rel,i}:=hH I.aT e
  let{j,hw,c}:=gV.qK (v:=v) (o:=valueAt q k) (by rw[l];exact rel.val k)
  exact wpAny_getItem_of (rq t) i.mapOf hw (h j _ (I.tok _) c)
 .subst f;cases(show u=Æ b from t)
  let{z,hd,r,rel,i}:=rP I.aT e
  let{j,hw,c}:=gV.qK (v:=v) (o:=(atKey r k).map (·.2)) (by rw[l];exact rel.val k)
  let{p,x,m}:=wfR.mp hw
  refine wpAny_getItem_heap (Ι C) (oI I.aT n) i x ?_;rw[m];exact h j _ (I.tok _) c
theorem Inv.Ew{l g:Hp}{j s1:Shared}{h':Heap}(C:Inv X pins σ l j)(r:s1.os=j.os)(bare:AllBare s1.gens)(un:Un (qu X.stack) [] l g j.heap s1.heap)(aT:iT X.prog X.w g s1.heap)
 (p:E7 j.heap.objs.size g (qu X.stack) s1.heap h') (t:∀b∈qu X.stack,g b=τ):Un (qu X.stack) [] l g j.heap h'/\iT X.prog X.w g h'/\∀tk,Inv X pins σ g {s1 with heap:=h',toks:=tk}:=by
 have e:Un (qu X.stack) [] l g j.heap h':=by
  refine{λb o d n a f=>p.keep b o (un.keep b o d n a f) (.inl (Ë d)) a,λb o d n a f=>?_,un.free,λb o d f=>?_,un.oA,un.mM,un.oB}
  .let{sl,h}:=un.slot b o d n a f
   let{i,k}:=p.slot b _ h a
   exact⟨i,k⟩
  .let{m,h}:=un.there b o d f
   by_cases q:b∈qu X.stack
   .let{sl,k}:=p.slot b m h q
    exact{_,k}
   .exact{m,p.keep b m h (.inl (Ë d)) q}
 have c:=aT.past p t;exact{e,c,λtk=>C.vf (s':={s1 with heap:=h',toks:=tk}) r e c bare λb z=>absurd z (by simp)}
theorem KB(g:X.A.units<ð):jE X (ò .Eq) Qh:=by
 intro c s σ H x y v u Q I f i h
 let{a,b,r,t,rfl,rfl,ha,j,k,l,q}:=h
 cases f;cases i
 let{_,m,w,d,n}:=hH I.aT ha
 let{_,o,z,e,p}:=hH I.aT j
 refine PySem.W.keq_eq m o n p g (λ_=>rY e l d k) {.bl _,H,I,rfl,?_};rw[<-d.9,<-e.9];exact q
end
section
variable{X:Cx}{e:Expr}{es:List Expr}{te:TE}{t:TA}
theorem a7(ha:PE X e te)(g:PA X es t)(hs:starEach (e::es) X.5=(false,eval e X.5)::starEach es X.5:=by rfl):PA X (e::es) (pk te t):=by
 refine{?_};intro pos a s σ H Q I h;rw[hs];show wpAny _ _ (spliced ((false,eval e X.5)::backTo pos (starEach es X.5))) _ _ s;refine weM (bG (ha a s σ H _ I h) λu b ⟨x,c,d,f,i⟩=>?_);exact bG (g pos a b σ c _ d i) λo p ⟨j,k,l,m,n⟩=>{x::j,k,l,.cons f m,n}
theorem aC(ha:PE X e te)(hs:starEach [e] X.5=(false,eval e X.5)::starEach [] X.5:=by rfl):PA X [e] (pk te wo):=a7 ha dW hs
end
section
variable{prog:É}{w:World}{A:Around}{E:Value->Shared->Prop}{s:Shared}{K:Á}{x dx C:Addr}{mA:Str->Option Value}{name:Str}{v:Value}
theorem get_map{Q:Value->Shared->Prop}(X:K.In s.heap)(I:zv s.heap x dx C mA)(j:wdY K C name=true)(l:wf0 K C=true)
 (ha:ć K (.ref C) name=ρ τ) (o:mA name=ρ v) (g:whn v=true) (h:Q v {s with toks:=s.toks+1}) :
 wpAny (model prog w) A (getAttr (.ref x) name expr) Q E s:=by
 let{a,J,hl}:=I.look
 exact PySem.W.get_value X J (wez j).1 (PySem.W.findObj_own l ha rfl (by rw[hl,o])) g h
theorem HK{Q:Unit->Shared->Prop}(X:K.In s.heap)(I:zv s.heap x dx C mA)
 (hs:ć K (.ref C) "__setattr__"=ρ (ρ (.builtin "object.__setattr__"))) (g:wh4 K C=true) (j:wfI K C name=ρ τ) (l:wf0 K C=true)
 (hw:ζ mA ns) (hsz:ns.9<=sizeLine)
 (h:∀h',zv h' x dx C (λy=>if y=name then ρ v else mA y)->wei dx s.heap h'->Q .unit {s with heap:=h',toks:=s.toks+2}) :
 wpAny (model prog w) A (setAttr (.ref x) name v) Q E s:=by
 let{p,J,hl}:=I.look
 refine wf6 X J hs (PySem.W.osa_open (s:={s with toks:=s.toks+1}) (r:=τ) X J g j λb=>?_)
 let{q,hc,e}:=PySem.W.any_some l
 have i:s.heap.get? x=ρ {.ref C,ρ dx,.plain,#[]}:=I.obj;refine Â (Í (Â (Â (weG i (Â (weN (s:={s with toks:=s.toks+1}) (wdP X hc) ?_))))));rw[e];refine Í (a:=ρ dx) (Â (Í (Â ?_)));refine wgV (s:={s with toks:=s.toks+1}) I.ns λh' c d=>?_
 let{t,k,m,f,n,o}:=c.count (wfN name v hw)
 refine Â (wfm f (by grind [wfn,Ï]) ?_);exact Í (h _ {(d.2 _ (è I.ne)).trans I.obj,c,I.ne} d)
theorem mY{X:Cx}:∀{g:List Expr} {is:List Int},qN g=ρ is->PA X g (Jx is)
 |[],is,h=>by
  obtain rfl:[]=is:=Î h;exact dW
 |e::g,is,h=>by
  unfold qN at h;split at h
  .rename_i heq;exact nomatch heq
  .rename_i i j p a heq;cases heq
   cases q:qN g with
   |none=>rw[q]at h;cases h
   |some b=>
    rw[q]at h;obtain rfl:=Î h;exact a7 ag (mY q)
  .cases h
theorem HL{X:Cx}{ps:List (Int×Int)}(h:PA X g (rz ps)):PA X (.Tuple [.Constant (.int i) l o,.Constant (.int j) p r] t pt::g) (rz ((i,j)::ps)):=a7 (bY (a7 ag (a7 ag dW))) h
end
section
variable{X:Cx}{e:Expr}{es:List Expr}{te:TE}{t:TJ}{pos:Pos}
theorem zP(h:PJ X es t):PJ X (.Constant (.str z) j pos::es) (QD z t):={λa s σ H b Q I q=>
 joinParts_cons (wgT {q.1,h a _ σ H _ Q (I.tok _) q.2})}
theorem Ex(he:PE X e te)(h:PJ X es t):PJ X (.FormattedValue e (-1) τ pos::es) (QE te t):={λa s σ H j Q I q=>by
 refine joinParts_cons (FormattedValue_plain (bG (he a s σ H _ I q) λv n ⟨y,d,f,g,k⟩=>?_));rcases k with⟨i,rfl,hl,b,c⟩ |⟨z,rfl,hl,b,c⟩
 .let{l,rfl}:=g
  exact formatField_int_small hl {b,h a _ σ d _ Q (f.tok _) c}
 .let{l,rfl}:=g
  exact formatField_str (λo m=>{b,h a _ σ d _ Q (f.tok _) c}) hl}
end
section
variable{X:Cx}{pos:Pos}{tx ty:Ht}{tc:TT}{c:Expr}{a b:List Stmt}
noncomputable def VR(tc:TT)(tx ty:Ht):Ht:=λE D σ H=>tc σ H λb H1=>if b=true then tx E D σ H1 else ty E D σ H1
theorem KC(hc:PT X.Hg c tc)(ha:HB X a tx)(l:HB X b ty):Qv X (.If c a b pos) (VR tc tx ty):=by
 refine{?_};intro e s σ H D E I h;refine wpAny_If (HG (bG (hc e s σ H _ (I.kZ _) h) λd g ⟨i,f,j⟩=>?_));have f:=f.eG
 cases d with
 |true=>exact ha e g σ i D E f j
 |false=>exact l e g σ i D E f j
end
section
variable{X:Cx}{x:Str}{p pos:Pos}{e:Expr}{es:List Expr}{t:TA}{id:String}{r:List V->Hp->VK->Prop}
def P8(r:List V->Hp->VK->Prop)(t:TA):TE:=λσ H Q=>t σ H λvs H1=>r vs H1 Q
theorem ax(hc:d1 X (.builtin id) r)(j:Gl X x)(l:X.mg x=τ)(o:é x=ρ (.builtin id))(ha:PA X (e::es) t)(hn:x≠"__name__":=by decide)(g:(x==("__debug__":Str))=false:=by decide)
 (he:starEach (e::es) X.5=(false,eval e X.5)::starEach es X.5:=by rfl) (hpl:(backTo pos (starEach es X.5)).any (·.1)=false:=by rfl):PE X (.Call (.Name x p) (e::es) [] pos) (P8 r t):=by
 refine{?_};intro a s σ H Q I h;refine ģ (gA I j l o ?_ hn g);exact wek (bG (ha pos a s σ H _ I h) λb c ⟨d,f,i,k,m⟩=>hc a c σ f d b Q i k m) he hpl
end
section
variable{X:Cx}{e:Expr}{te:TE}{lo hi:Option Expr}{tl th:TO}{pos p2:Pos}
def QI(X:Cx)(r:V->Option Int->Option Int->Hp->VK->Prop):Prop:=
 ∀(pins:List (Addr×Obj)) (s:Shared) (σ:St) (H:Hp) (x:V) (v vl vu:Value) (lo hi:Option Int) (sl:Addr) (Q:VK),Inv X pins σ H s->RelV x v->s.heap.IsSliceOf sl vl vu .none->IsPart vl lo->IsPart vu hi->r x lo hi H Q ->
  ∃T id,Η (.type T) "__getitem__"=pure (ρ (.builtin id))/\s.TypeIs v T/\wpAny (model X.prog X.w) X.A (getItem v (.ref sl)) (EP X pins σ Q) X.xe s
theorem cS{r:V->Option Int->Option Int->Hp->VK->Prop}(j:QI X r)(he:PE X e te)(hl:PO X lo tl)(o:PO X hi th):PE X (.Subscript e (.Slice lo hi τ p2) pos) (VM r te tl th):=by
 refine{?_};intro a s σ H Q I h;refine Subscript_ (bG (he a s σ H _ I h) λv i ⟨x,k,m,n,p⟩=>?_);refine wpAny_Slice (bG (hl a i σ k _ m p) λd t ⟨l,y,z,pl,B⟩=>bG (o a t σ y _ z B) λf c ⟨u,g,C,D,E⟩=>?_);rw[evalPart_none];refine Í ?_;have G:Inv X a σ g {c with heap:=c.heap.push {cls:=.type "slice",data:=.fields #[d,f,.none]}}:=C.kept (t':=c.toks) λb ob q=>Ð _ q
 let{T,id,J,L,M}:=j a {c with heap:=c.heap.push {cls:=.type "slice",data:=.fields #[d,f,.none]}} σ g x v d f l u c.heap.objs.size Q G n (Heap.IsSliceOf.new ..) pl D E
 show wpAny (model X.prog X.w) X.A (wgx e (.Slice lo hi τ p2) v (.ref c.8)) (EP X a σ Q) X.xe {c with heap:=c.heap.push {cls:=.type "slice",data:=.fields #[d,f,.none]}};exact tail_any (ops:=[.ref c.8,v]) L J M (by with_unfolding_all rfl)
end
section
variable{X:Cx}{o e:Expr}{es:List Expr}{to:TE}{t:TA}{name:Str}{apos fQ:Pos}{T id:String}{r:V->List V->Hp->VK->Prop}
theorem zQ(p:wgn T)(slot:Slot T name id)(l:typeOf (.builtin id)=pure (.type "method_descriptor"))(C:Hy X id r)(J:PE X o to)
 (g:ĵ o name X.env (eval o X.5)=eval o X.5:=by rfl) (j:(apos.endLine==fQ.line)=true:=by rfl):PE X (.Call (.Attribute o name apos) [] [] fQ) (N8 X.K T r to):=by
 refine{?_};intro a s σ H Q I h;refine wfA g j (bG (J a s σ H _ I h) λv d ⟨x,e,b,c,ty,f⟩=>?_)
 let{i,k}:=Ej b c ty
 exact{T,id,p,slot,l,i,k,wd5 rfl (wgE (C a d σ e x [] v [] Q b c .nil f))}
theorem gE(J:wgn T)(slot:Slot T name id)(C:typeOf (.builtin id)=pure (.type "method_descriptor"))(U:Hy X id r)(ho:PE X o to)(ha:PA X (e::es) t)
 (j:ĵ o name X.env (eval o X.5)=eval o X.5:=by rfl)
 (p:((backTo fQ (starEach (e::es) X.5)).all (λx=>!x.1)&&(backToKw fQ (Ń [] X.5)).all (λx=>x.1.isSome)
   && decide ((e::es).9+([]:List ŭ).9+(if ([]:List ŭ).isEmpty then 0 else 1)<30))=true:=by rfl)
 (l:(apos.endLine==fQ.line)=true:=by rfl) (hs:starEach (e::es) X.5=(false,eval e X.5)::starEach es X.5:=by rfl) (g:(backTo fQ (starEach es X.5)).any (·.1)=false:=by rfl) :
 PE X (.Call (.Attribute o name apos) (e::es) [] fQ) (Tj X.K T r to t):=by
 refine{?_};intro a s σ H Q I h;refine wpAny_Call_method_late j p l rfl (bG (ho a s σ H _ I h) λv f ⟨x,i,b,c,ty,k⟩=>?_)
 let{m,n}:=Ej b c ty
 refine{T,id,J,slot,C,m,n,?_};have d:=ha fQ a f σ i _ b k;rw[hs]at d ⊢;refine wd5 (by show (false ||(backTo fQ (starEach es X.5)).any (·.1))=false;rw[g]<;>rfl) (wgo ?_);exact bG d λq u ⟨w,y,z,A,B⟩=>U a u σ y x w v q Q z c A B
theorem rZ:QI X (λx lo hi H Q=>∃z,x=.str z/\z.9<=sizeLine/\Q (.str (ą z lo hi)) H):=by
 intro a s σ H x v p r lo hi sl Q I m n pl f h
 let{z,rfl,b,q}:=h
 let{t,rfl}:=m
 refine{"str",_,slot_str_getitem.lookup,typeIs_str s z t,?_};have fin:∀d k,EP X a σ Q (.str (ą z lo hi) d) {s with toks:=k}:=λd k=>{.str _,H,I.tok k,⟨d,rfl⟩,q}
 let{o,c,hc,hd}:=n
 cases pl with
 |none=>cases f with
  |none=>exact wcT (l:=τ) (u:=τ) (st:=τ) ⟨o,c,hc,hd⟩ rfl (wel {Ï (Ω z _ _) b,fin})
  |int j e=>exact wcT (l:=τ) (u:=ρ (j,e)) (st:=τ) ⟨o,c,hc,hd⟩ rfl (wel {Ï (Ω z _ _) b,fin})
 |int i g=>cases f with
  |none=>exact wcT (l:=ρ (i,g)) (u:=τ) (st:=τ) ⟨o,c,hc,hd⟩ rfl (wel {Ï (Ω z _ _) b,fin})
  |int j e=>exact wcT (l:=ρ (i,g)) (u:=ρ (j,e)) (st:=τ) ⟨o,c,hc,hd⟩ rfl (wel {Ï (Ω z _ _) b,fin})
end
section
variable{s:Shared}{f:Str}{A:Around}{E:Value->Shared->Prop}
theorem Bl{Q:Value->Shared->Prop}(j:ĵ e f env (eval e env)=eval e env)
 (h:wpAny (model prog w) A (eval e env) (λo g=>wpAny (model prog w) A (getAttr o f true) Q E g) E s):wpAny (model prog w) A (eval (.Attribute e f pos) env) Q E s:=
 Attribute_any_ h (by rw[arm_eval_Attribute,j])
theorem qS{X:Cx}{K:Á}{o:Expr}{t:TE}{name:Str}{apos g:Pos}{T id:String}{r:V->List V->Hp->VK->Prop}(C:X.K=K)(I:wgn T)(slot:Slot T name id)(p:typeOf (.builtin id)=pure (.type "method_descriptor"))(J:Hy X id r)(U:PE X o t)
 (j:ĵ o name X.env (eval o X.5)=eval o X.5:=by rfl) (l:(apos.endLine==g.line)=true:=by rfl):PE X (.Call (.Attribute o name apos) [] [] g) (N8 K T r t):=by
 subst C;exact zQ I slot p J U j l
end
section
variable{prog:É}{w:World}{A:Around}{E:Value->Shared->Prop}{s:Shared}{K:Á}{x dx C f:Addr}{mA:Str->Option Value}{name:Str}
theorem Ey{Q:Value×List Value->Shared->Prop}(X:K.In s.heap)(I:zv s.heap x dx C mA)(g:wdY K C name=true)
 (j:ć K (.ref C) name=ρ (ρ (.ref f))) (l:wfk K (.ref f)=true) (o:mA name=τ) (h:Q (.ref f,[.ref x]) s) :
 wpAny (model prog w) A (Ŧ (.ref x) name pl) Q E s:=by
 let{a,J,hl}:=I.look
 exact PySem.W.method_fn X J (wez g).1 (wez g).2 j (beq_iff_eq.mp l) (by show (weE name a).map (·.isSome)=ρ false;rw[hl,o];rfl) h
theorem y3{R:ī->Shared->Prop}(X:K.In s.heap)(l:whE K C=true)
 (hi:ć K (.ref C) "__init__"=ρ (ρ (.ref f))) (o:PySem.W.typeIn K (.ref f)=ρ (.type "function"))
 (h:codeAny (model prog w) (A.under (.builtin "type.__call__" {.ref C::vs,j})) (.call (.ref f) {.ref (s.8+1)::vs,j}) (PySem.W.InitBack (s.8+1) R)
   {s with heap:=(s.heap.push ŉ).push (ŗ C s.8)}) :
 codeAny (model prog w) A (.call (.ref C) ⟨vs,j⟩) R s:=by
 let{a,g,d,t,os}:=s
 exact PySem.W.make_core (PySem.W.makes_of X l) (δ X hi) (λself=>PySem.W.bind_fn X self o) (.inl rfl) h
end
section
variable{X:Cx}{ys:List Str}
theorem uo{K:Á}(g:X.K=K):d1 X (.type "list") (λxs H Q=>∃p ys,xs=[.ref p]/\(aG K H p ys\/eY K H p ys)/\∀l,H l=τ->Q (.ref l) (upd H l (.lst ys))):=by
 subst g;exact dk
end
section
variable{f C:Addr}
structure Mk(K:Á)(C f:Addr):Prop where
 makes:whE K C=true
 init:ć K (.ref C) "__init__"=ρ (ρ (.ref f))
 fn:wfk K (.ref f)=true
 kp:Ś K (.ref C)=true
end
section
variable{X:Cx}{st:Stmt}{tx:Ht}
theorem se(g:Qv X st tx):HB X [st] tx:=by
 refine{?_};intro a s σ H D E I h;refine wdj (ê (g a s σ H D E I h) (λf b q=>?_) λ_ _ z=>z)
 cases f with
 |next=>exact Ŝ q
 |ret v=>exact q
 |brk=>exact q
 |cont=>exact q
end
section
variable{X:Cx}{t u:TS}{pos:Pos}
theorem bg{c:Expr}{a b:List Stmt}{g:TT}(hc:PT X c g)(ha:ui X a t)(l:ui X b u):PS X (.If c a b pos) (QB g t u):=by
 refine{?_};intro e s σ H D I h;refine wpAny_If (bG (hc e s σ H _ I h) λd f ⟨i,j,k⟩=>?_)
 cases d with
 |true=>exact ha e f σ i D j k
 |false=>exact l e f σ i D j k
end
section
variable{prog:É}{w:World}{A:Around}{R:ī->Shared->Prop}{s:Shared}
theorem Ca(I:Nat->Shared->Prop)
 (C:∀n s,I n s->wpAny (model prog w) A (pyNext it) (λr g=>match r with
   |none=>R (.ok .next) g
   |some v=>wpAny (model prog w) A (wef target it v) (λ_ j=>wpAny (model prog w) A (assign target env v) (λ_ o=>
     wpAny (model prog w) A (forIn J true λc r=>if r=true then do let ok <-isTrue c env (eval c env);pure (ž ok) else pure (ž r)) (λok l=>
      if ok=true then wpAny (model prog w) A (eval T env) (λx p=>
       wpAny (model prog w) A (call (.builtin "list.append") [U,x]) (λ_ t=>∃m,m<n/\I m t) (notedBy (model prog w) A env λe s'=>R (.error e) s') p) (notedBy (model prog w) A env λe s'=>R (.error e) s') l
      else ∃m,m<n/\I m l) (notedBy (model prog w) A env λe s'=>R (.error e) s') o) (notedBy (model prog w) A env λe s'=>R (.error e) s') j) (notedBy (model prog w) A env λe s'=>R (.error e) s') g) (notedBy (model prog w) A env λe s'=>R (.error e) s') s)
 (n:Nat) (h:I n s) :
 codeAny (model prog w) A (.compLoop (.ListComp T [⟨target,iter,J,0⟩] scope pos) 0 it U env) R s:=by
 refine codeAny_loop rfl I (λn s u=>?_) n h;show wpAny _ A ((compTurn (.ListComp T [⟨target,iter,J,0⟩] scope pos) 0 it U env).onRaise (λx=>do noteFrame x env;theTreesLotGoes x)) _ _ s;refine wpAny_noted ?_;rw[compTurn_list];refine Â (Ž (Â (ê (C n s u) (λr g b=>?_) λ_ _ a=>a)))
 cases r with
 |none=>exact Í b
 |some v=>
  refine Â (ê b (λ_ j f=>?_) λ_ _ a=>a);refine Â (ê f (λ_ o i=>Â (ê i (λok l d=>?_) λ_ _ a=>a)) λ_ _ a=>a)
  cases ok with
  |false=>exact Í ⟨rfl,d⟩
  |true=>
   exact Â (Â (ê d (λx p k=>Â (ê k (λ_ t q=>Í (Í ⟨rfl,q⟩)) λ_ _ a=>a)) λ_ _ a=>a))
end
section
variable{X:Cx}{ta:TE}{a b:Expr}{pos:Pos}
theorem cT(g:jE X (ò op) r)(ha:PE X a ta)(j:PE X b l)(h:op≠.In:=by decide)(I:op≠.NotIn:=by decide):PT X (.Compare a [op] [b] pos) (Jt (Mt r ta l)):=fz g ha j (i9 _ h I)
end
section
variable{X:Cx}{pins:List (Addr×Obj)}{σ:St}{H:Hp}{s:Shared}{C:Addr}
theorem Inv.made(I:Inv X pins σ H s):Inv X pins σ (upd (upd H s.heap.objs.size (.own (s.8+1))) (s.8+1) (.ins C s.heap.objs.size []))
 {s with heap:=(s.heap.push ŉ).push (ŗ C s.8)}:=by
 have c:(s.heap.push ŉ).get? s.8=ρ ŉ:=ã s.heap rfl
 have d:((s.heap.push ŉ).push (ŗ C s.8)).get? (s.8+1)=ρ (ŗ C s.8):=by
  have:=ã (s.heap.push ŉ) (o:=ŗ C s.8) rfl;rwa[Ĝ]at this
 have f:(s.heap.push ŉ).Ns s.heap.objs.size (λ_=>τ):={ŉ,#[],_,c,rfl,(λe g=>absurd g (by simp)),λ_=>rfl};have h:=I.laid (a:=s.8) (o:=.own (s.8+1)) (h':=s.heap.push ŉ) (t':=s.toks) (λb u q=>Ð _ q) (Å _) {_,c};refine h.laid (a:=s.8+1) (o:=.ins C s.heap.objs.size []) (t':=s.toks) (λb u q=>Ð _ q) (weh (Ĝ _ _)) ?_;have ne:s.heap.objs.size≠s.8+1:=Ù (ŀ _);refine{by rw[aa ne,a5],à _,ne,d,λ_=>τ,(wh6 f).at λo q=>Ð _ q,λ_=>ÿ,λy i=>absurd rfl i}
end
section
variable{X:Cx}{o i:Expr}{pos:Pos}{td ty:TE}
theorem bS(j:X.A.units+1<ð)(l:PE X o td)(hi:PE X i ty)(hs:MD i):PE X (.Subscript o i pos) (MO td ty):=by
 refine{?_};intro b s σ H Q I h;refine Hl PySem.F.slot_dict_getitem.lookup hs (bG (l b s σ H _ I h) λu e ⟨x,f,k,m,n⟩=>bG (hi b e σ f _ k n) λw z ⟨y,p,d,q,a,v,ex,g,r⟩=>?_);subst ex;obtain rfl:u=Æ a:=m;exact{xS d g,C9 j d g q λB C t c=>⟨v,p,t,c,r⟩}
end
section
variable{X:Cx}{pins:List (Addr×Obj)}{σ:St}{H:Hp}{s s':Shared}
theorem Inv.after(I:Inv X pins σ H s)(h:CE X.stack X.prog X.w H s Q u s'):EP X pins σ Q u s':=by
 let{v,c,os,bare,un,aT,r,q}:=h
 let{e,g,d,t,a}:=s'
 obtain rfl:a=s.os:=os;exact{v,c,I.call (h':=e) (g':=g) (d':=d) (t':=t) (ch:=[]) un aT bare (λb z=>absurd z (by simp)),r,q}
end
section
variable{X:Cx}{CX:DC}{k:Nat}{f C:Addr}{fd:ì}{ps:List Str}{sp:Sp}{uh:List V}{ds:List Value}{E:XK}{x:Str}{p pos:Pos}{e:Expr}{es:List Expr}{t:TA}
theorem zR(F:aP X.prog X.w X.K X.mg X.base CX k f fd ps sp)(j:cG k X.A)(l:Binds X.K fd ps ds)(hd:Vals uh ds)(J:Passes CX X E)
 (I:Inv X g σ H s) (r:Vals vs us) (h:sp (vs++uh) H Q E):wpAny (model X.prog X.w) X.A (call (.ref f) us) (EP X g σ Q) X.xe s:=by
 have b:Vals (vs++uh) (us++ds):=r.append hd;have hl:(us++ds).9=ps.9:=by rw[<-b.9];exact F.len _ _ _ _ h
 refine đ (ē (F.run X.A X.stack s H {us,[]} (us++ds) (vs++uh) Q E j I.Ek (l s us I.fP hl) b h) λr c a=>?_)
 cases r with
 |error e=>exact J g σ H s e c I a
 |ok fl=>
  cases fl with
  |ret u=>exact I.after a
  |next=>exact ç a
  |brk=>exact ç a
  |cont=>exact ç a
theorem iW(F:aP X.prog X.w X.K X.mg X.base CX k f fd ps sp)(j:cG k X.A)(l:Gl X x)(J:X.mg x=ρ (.ref f))(hk:Ś X.K (.ref f)=true)(T:Binds X.K fd ps ds)(hd:Vals uh ds)(U:Passes CX X E)
 (ha:PA X (e::es) t) (g:(x==("__debug__":Str))=false:=by decide) (he:starEach (e::es) X.5=(false,eval e X.5)::starEach es X.5:=by rfl) (hpl:(backTo pos (starEach es X.5)).any (·.1)=false:=by rfl) :
 PE X (.Call (.Name x p) (e::es) [] pos) (Ju sp uh E t):=by
 refine{?_};intro a s σ H Q I h;refine ģ (g7 I l J ?_ g);refine Ŭ (h₀:=X.base) I.ok.mod.Hd hk (bG (ha pos a s σ H _ I h) λc d ⟨i,m,b,r,q⟩=>{b.fP,?_}) he hpl;exact zR F j T hd U b r q
theorem Ez(M:Mk X.K C f)(F:aP X.prog X.w X.K X.mg X.base CX k f fd ps sp)(l:cG (k+1) X.A)(J:Binds X.K fd ps ds)(hd:Vals uh ds)
 (T:Passes CX X E) (I:Inv X g σ H s) (r:Vals vs us)
 (h:∀x j,H x=τ->H j=τ->j≠x->sp (.ref x::(vs++uh)) (upd (upd H j (.own x)) x (.ins C j [])) (λv U=>v=.non/\Q (.ref x) U) E) :
 wpAny (model X.prog X.w) X.A (call (.ref C) us) (EP X g σ Q) X.xe s:=by
 have c:=h (s.8+1) s.heap.objs.size (I.aT.fresh (ı _)) (I.aT.fresh (Å _)) (Ù (ŀ _));have b:=Inv.made (C:=C) I;have d:Vals (V.ref (s.8+1)::(vs++uh)) (Æ (s.8+1)::(us++ds)):=.cons rfl (r.append hd)
 have hl:(Æ (s.8+1)::us++ds).9=ps.9:=by
  have e:=d.9;rw[F.len _ _ _ _ c]at e;exact e.symm
 refine đ (y3 (f:=f) I.fP M.makes M.init (beq_iff_eq.mp M.fn) (ē (F.run _ X.stack _ _ {Æ (s.8+1)::us,[]} (Æ (s.8+1)::(us++ds)) _ _ E (l.make C us [])
  (b.Ek.make C us []) (J _ (Æ (s.8+1)::us) b.fP hl) d c) λr i a=>?_))
 cases r with
 |error e=>exact T g σ _ _ e i b a
 |ok fl=>
  cases fl with
  |ret u=>
   let{v,m,n,o,p,q}:=b.after a
   subst p;exact{o,{V.ref (s.8+1),m,n,rfl,q}}
  |next=>exact ç a
  |brk=>exact ç a
  |cont=>exact ç a
theorem kM(M:Mk X.K C f)(F:aP X.prog X.w X.K X.mg X.base CX k f fd ps sp)(j:cG (k+1) X.A)(l:Gl X x)(J:X.mg x=ρ (.ref C))(T:Binds X.K fd ps ds)(hd:Vals uh ds)(U:Passes CX X E)
 (ha:PA X (e::es) t) (g:(x==("__debug__":Str))=false:=by decide) (he:starEach (e::es) X.5=(false,eval e X.5)::starEach es X.5:=by rfl) (hpl:(backTo pos (starEach es X.5)).any (·.1)=false:=by rfl) :
 PE X (.Call (.Name x p) (e::es) [] pos) (Mx C sp uh E t):=by
 refine{?_};intro a s σ H Q I h;refine ģ (g7 I l J ?_ g);refine Ŭ (h₀:=X.base) I.ok.mod.Hd M.kp (bG (ha pos a s σ H _ I h) λc d ⟨i,m,b,r,q⟩=>{b.fP,?_}) he hpl;exact Ez M F j T hd U b r q
end
section
variable{X:Cx}{k:Nat}{f:Addr}{fd:ì}{ps:List Str}{sp:Sp}{x:Str}{p pos:Pos}{e:Expr}{es:List Expr}{t:TA}
theorem HM(F:aP X.prog X.w X.K X.mg X.base (xE X.prog X.w) k f fd ps sp)(j:cG k X.A)(l:Binds X.K fd ps [])
 (I:Inv X g σ H s) (r:Vals vs us) (h:sp vs H Q E):wpAny (model X.prog X.w) X.A (call (.ref f) us) (EP X g σ Q) (Qt X g σ E) s:=by
 have hl:(us++[]).9=ps.9:=by rw[ý,<-r.9];exact F.len _ _ _ _ h
 have a:=l s us I.fP hl;rw[ý]at a;refine đ (ē (F.run X.A X.stack s H {us,[]} us vs Q E j I.Ek a r h) λr c b=>?_)
 cases r with
 |error e=>exact⟨H,s,I,b⟩
 |ok fl=>
  cases fl with
  |ret u=>exact I.after b
  |next=>exact ç b
  |brk=>exact ç b
  |cont=>exact ç b
theorem EA(F:aP X.prog X.w X.K X.mg X.base (xE X.prog X.w) k f fd ps sp)(j:cG k X.A)(l:Gl X x)(J:X.mg x=ρ (.ref f))(hk:Ś X.K (.ref f)=true)(T:Binds X.K fd ps [])
 (ha:PA X.Hg (e::es) t) (g:(x==("__debug__":Str))=false:=by decide) (he:starEach (e::es) X.5=(false,eval e X.5)::starEach es X.5:=by rfl) (hpl:(backTo pos (starEach es X.5)).any (·.1)=false:=by rfl) :
 Qu X (.Call (.Name x p) (e::es) [] pos) (Kl sp t):=by
 refine{?_};intro a s σ H Q E I h;refine ģ (g7 I l J ?_ g);refine Ŭ (h₀:=X.base) I.ok.mod.Hd hk (HG (bG (ha pos a s σ H _ (I.kZ _) h) λd i c=>?_)) he hpl
 let{m,n,b,r,q}:=c.eG
 exact{b.fP,ê (HM F j T b r q) (λ_ _ z=>z) λ_ _ z=>z}
end
section
variable{X:Cx}
theorem ai(F:aP X.prog X.w X.K X.mg X.base cI k f fd ps sp)(a:FnAt X.K X.mg x sm ps f fd)(ha:PA X (e::j) t)(o:cG k X.A:=by exact cG.mono (by assumption) ⋯)(r:Gl X x:=by rfl)(l:(x==("__debug__":Str))=false:=by decide)
 (he:starEach (e::j) X.5=(false,eval e X.5)::starEach j X.5:=by rfl) (hpl:(backTo pos (starEach j X.5)).any (·.1)=false:=by rfl):PE X (.Call (.Name x p) (e::j) [] pos) (Ju sp [] E0 t):=
 iW F o r a.g a.F.kp a.b .nil mU ha l he hpl
end
section
variable{X:Cx}{a b:Expr}{ta tb:TE}{pos:Pos}{rest:List Expr}
theorem sf(ha:PE X a ta)(j:PE X (.BoolOp .And (b::rest) pos) tb):PE X (.BoolOp .And (a::b::rest) pos) (MK ta tb):=by
 refine{?_};intro d s σ H Q I h;refine BoolOp_and (bG (ha d s σ H _ I h) λv i ⟨x,f,g,k,e⟩=>?_)
 let{c,rfl,e}:=e
 cases k;refine Ł ?_
 cases c with
 |true=>exact j d i σ f Q g e
 |false=>exact{.bl false,f,g,rfl,e}
end
section
variable{X:Cx}{pins:List (Addr×Obj)}{σ:St}{H:Hp}{s:Shared}{x:Addr}{φ:Heap->Prop}
theorem Inv.del(I:Inv X pins σ H s)(g:H x=ρ (.ext φ)):Inv X pins σ (L2.del H x) s:=by
 have ne:∀{b:Addr} {o:HO},H b=ρ o->(∀ψ,o≠.ext ψ)->b≠x:=λe n z=>by rw[z,g]at e;exact n φ (Î e).symm
 have nn:∀{b:Addr},H b=τ->L2.del H x b=τ:=λ{b} e=>by
  by_cases z:b=x
  .rw[z];exact fF
  .rw[gq z];exact e
 have u:=I.base;refine{I.ok,I.os,I.bare,{u.keep,u.slot,λb o q n d=>nn (u.free b o q n d),u.there,λb f q=>?_,λb o v q=>?_,λb ps q=>?_},I.loc,I.cell,nn I.free,λy c e=>nn (I.gx y c e),λp h=>?_,λa o e=>?_,I.len}
 .have e:=u.oA b f q;rw[gq (ne e λψ z=>by cases z)];exact e
 .have e:=u.mM b o v q;rw[gq (ne e λψ z=>by cases z)];exact e
 .let{m,e}:=u.oB b ps q
  exact{m,by rw[gq (ne e λψ z=>by cases z)];exact e}
 .let{a1,a2,a3}:=I.pin p h
  exact{a1,nn a2,a3}
 .have i:H a=ρ o:=by
   by_cases z:a=x
   .rw[z,fF]at e;cases e
   .rw[gq z]at e;exact e
  refine(I.aT a o i).qy (λb u _ q=>q) (λb q=>?_) λb f q=>?_
  .rw[gq (ne q λψ z=>by cases z)];exact q
  .rw[gq (ne q λψ z=>by cases z)];exact q
end
section
variable{P:É}{w:World}{H:Hp}{h h':Heap}{x e:Addr}{o':HO}
theorem iT.write(ok:iT P w H h)(g:Mo (H x))(he:e=x\/H e=ρ (.own x))(k:∀b u,b≠e->h.get? b=ρ u->h'.get? b=ρ u)(l:∃u,h'.get? e=ρ u)
 (new:bq P w (upd H x o') h' x o'):iT P w (upd H x o') h':=λb u q=>by
 have d:∀c y,H c=ρ (.own y)->c≠x:=λc y r z=>by subst z;rw[r]at g;exact g
 have f:∀c i,H c=ρ (.tup i)->c≠x:=λc i r z=>by subst z;rw[r]at g;exact g
 by_cases j:b=x
 .subst j;rw[a5]at q;cases q;exact new
 .rw[aa j]at q
  by_cases a:b=e
  .have m:H b=ρ (.own x):=by
    rcases he with z |z
    .exact absurd (a.trans z) j
    .rw[a];exact z
   rw[q]at m;cases m
   let{v,n}:=l
   exact{v,by rw[a];exact n}
  .refine(ok b u q).qy (λc v hc r=>k c v ?_ r) (λc r=>by rw[aa (d c b r)];exact r) λc i r=>by rw[aa (f c i r)];exact r
   rcases hc with rfl |hc
   .exact a
   .rintro rfl;rcases he with z |z
    .exact d c b hc z
    .rw[hc]at z;cases z;exact j rfl
end
section
variable{fs ex:List Addr}{H:Hp}{h h':Heap}{x e:Addr}{o:HO}
theorem Un.write(g:Mo (H x))(he:e=x\/H e=ρ (.own x))(k:∀b u,b≠e->h.get? b=ρ u->h'.get? b=ρ u)(j:∃u,h'.get? e=ρ u):Un fs ex H (upd H x o) h h':=by
 have f:∀b,H b=τ->b≠x:=λb n z=>by subst z;rw[n]at g;exact g
 have d:∀b,H b=τ->b≠e:=λb n z=>by
  subst z;rcases he with r |r
  .grind
  .grind
 have c:∀b u,H b=ρ u->¬Mo (ρ u)->b≠x:=λb u q i z=>by subst z;rw[q]at g;exact i g
 refine{λb u q n _ _=>k b u (d b n) q,λb u q n _ _=>{u.slots,k b u (d b n) q},λb u q n _=>by rw[aa (f b n)];exact n,λb u q _=>?_,
  λb l q=>by rw[aa (c b _ q λz=>z)];exact q,λb u l q=>by rw[aa (c b _ q λz=>z)];exact q,λb ps q=>{#[],by rw[aa (c b _ q λz=>z),q];simp}}
 by_cases a:b=e
 .subst a;exact j
 .exact{u,k b u a q}
end
section
variable{X:Cx}{pins:List (Addr×Obj)}{σ:List (Option V)}{H:Hp}{s:Shared}{h':Heap}
theorem Inv.write(I:Inv X pins σ H s)(j:Mo (H x))(he:e=x\/H e=ρ (.own x))(k:∀b u,b≠e->s.heap.get? b=ρ u->h'.get? b=ρ u)(g:∃u,h'.get? e=ρ u)
 (new:bq X.prog X.w (upd H x o) h' x o):Inv X pins σ (upd H x o) {s with heap:=h',toks:=t'}:=I.un (Un.write j he k g) (I.aT.write j he k g new)
end
section
variable{X:Cx}{pins:List (Addr×Obj)}{σ:St}{H:Hp}{s:Shared}{l:Addr}{xs ys:List V}
theorem Inv.Nj{g its':List Value}{n:Nat}{f:Array Value->Array Value}{t':Nat}(I:Inv X pins σ H s)(j:H l=ρ (.lst xs))
 (e:s.heap.get? l=ρ {cls:=.type "list",data:=.seq g.toArray n}) (o:f g.6=its'.6) (p:Vals ys its') (r:ys.9<=sizeLine) :
 Inv X pins σ (upd H l (.lst ys)) {s with heap:=s.heap.update l (Ĺ f),toks:=t'}:=by
 have q:=PySem.IsL.update e f;rw[o]at q;refine I.write (x:=l) (e:=l) (by rw[j];exact trivial) (.inl rfl) (λc u a b=>(Ċ s.heap (Ĺ f) (è a)).trans b) {_,q} ?_;exact{r,its',_,p,q}
theorem cg:Th X "list.append" HC:=by
 intro b s σ H x i v j Q I d f h
 let{l,k,y,rfl,rfl,c,m,q}:=h
 cases d
 let{u,rfl,g}:=f.one
 let{z,a,n,r,hl,e}:=I.Eo c
 refine ż Đ {_,e,rfl} F.entry_list_append (F.args_list_append_2 _ _) (PySem.list_append l a.toArray n u (by grind)) {e,?_};refine{.non,_,I.Nj (its':=a++[u]) c e (by simp) (r.append (.cons g .nil)) ?_,rfl,q};rw[Ì,Υ]
 lia
theorem EB:Th X "list.pop" Qx:=by
 intro d s σ H x m v o Q I g i h
 let{l,p,y,rfl,rfl,f,j,q}:=h
 cases g;have b:=i.zero;subst b
 let{z,a,n,r,hl,e}:=I.Eo f
 let{u,t,k}:=r.get j
 have c:a.toArray[a.toArray.size-1]?=ρ u:=by
  grind
 refine ż weA {_,e,rfl} F.entry_list_pop (F.args_list_pop_1 _) (MeetsSeq.list_pop_last l a.toArray n u c (by grind)) {e,?_};refine{y,_,I.Nj (its':=a.dropLast) f e ?_ r.dropLast ?_,k,q}
 .grind
 .grind
end
section
variable{X:Cx}{pins:List (Addr×Obj)}{σ:St}{H:Hp}{s₂:Shared}{scope:ú}{x:Str}{xs ys:List Str}{ix:List Nat}{cl:List (Str×Addr)}{fp:List Addr}{L:Addr}
theorem vk{tn:Nat->Heap->Prop}{Qd:Addr->Hp->Prop}{RR:Value->Addr->ī->Shared->Prop}{E:Value->Shared->Prop}
 (hc:X.calm=true) (B:bH X scope x ys ix) (I:Inv X pins σ H s₂) (T:Turn X.prog X.w X.K tg J fp it tn) (Tn:tn 0 s₂.heap) (U:∀b∈fp,ro X pins H b)
 (zo:∀y c,cl.lookup y=ρ c->X.env.cells.lookup y=ρ c) (VS:∀y∈scope.names,y.2=.free->∃c,cl.lookup y.1=ρ c)
 (ht:∀L s H ex pn,GL (bc X scope (xs++ys) cl L s H ex pn) ifs tt) (he:∀L s H ex pn,PE (bc X scope (xs++ys) cl L s H ex pn) elt te)
 (hg:∀L s H ex pn,PG (bc X scope (xs++ys) cl L s H ex pn) tg g) (hw:∀l,H l=τ->vh g xs.length J l (pick σ ix) tt te H (Qd l))
 (VU:∀D L H' s' m,Inv X pins σ H' s'->s'.heap.Ns L m->H' L=τ->L≠X.env.locals->X.s₀.8<=L->(∀y c,X.env.cells.lookup y=ρ c->c≠L)->(∀p∈X.pn++pins,p.1≠L)->Qd D H'->RR (.ref D) L (.ok .next) s') :
 wpAny (model X.prog X.w) X.A (newList []) (λacc t=>wpAny (model X.prog X.w) X.A (newFunctionEnv scope X.env.globals cl [] X.env.qual τ .none (ρ X.5)) (λNk s₄=>
  codeAny (model X.prog X.w) X.A (.compStart (.ListComp elt [⟨tg,iter,ifs,0⟩] scope pos) 0 (.ref it) acc {Nk with scope:=relabel scope X.5}) (RR acc Nk.locals) s₄) E t) E s₂:=by
 refine wf3 (wpAny_newFunctionEnv B.E1 (by intro y hy;simp at hy) (λk j a=>?_) B.kind);dsimp only at j a ⊢;generalize O:s₂.heap.push {cls:=.type "list",dict:=τ,data:=.seq ([]:List Value).toArray}=C at j a ⊢;have hC:C.7=s₂.8+1:=by rw[<-O,Ĝ]
 have To:s₂.heap.objs.size≠C.7:=by rw[hC];exact Ù (ŀ _)
 have f:s₂.8<=C.7:=by rw[hC];exact ı _
 have old:∀b o,s₂.heap.get? b=ρ o->k.get? b=ρ o:=λb o e=>a.extBut b o (Ù (Þ (Ë e) f)) (Ð _ (O ▸ Ð _ e));have QJ:k.get? s₂.8=ρ {cls:=.type "list",data:=.seq ([]:List Value).toArray}:=a.extBut _ _ To (Ð _ (O ▸ ã _ rfl));have Q:∀b∈fp,b<s₂.8:=λb h=>let ⟨o,e,_⟩:=T.obj 0 _ Tn b h;Ë e
 have VW:∀b∈fp,∀o,s₂.heap.get? b=ρ o->k.get? b=ρ o:=λb _ o e=>old b o e;have Tp:tn 0 k:=T.keep 0 _ _ Tn VW
 let{W,{m0,w0},turn}:=hw s₂.heap.objs.size (I.aT.fresh (Å _))
 have N:∀t:Shared,t={s₂ with heap:=k,toks:=s₂.toks+([]:List (Str×Value)).length} ->
  codeAny (model X.prog X.w) X.A (.compLoop (.ListComp elt [⟨tg,iter,ifs,0⟩] scope pos) 0 (.ref it) (.ref s₂.8) (compEnvC scope cl C.objs.size X.5))
   (RR (.ref s₂.8) C.7) t:=by
  rintro t rfl;have I0:=Eu (xs:=xs) (tk:=s₂.toks+([]:List (Str×Value)).length) (n₀:=0) (m₁:=_) (L:=C.7) B I U Q f zo VS old j rfl To QJ
  refine Ca (env:=compEnvC scope cl C.objs.size X.5)
   (λn s'=>∃i G vs H',vs.9=xs.9/\Inv (bc X scope (xs++ys) cl C.objs.size s₂ H fp (X.pn++pins)) [] (vs++pick σ ix) H' s'/\tn i s'.heap/\(∀b∈fp,H' b=τ)/\W i n G H') ?_ m0
   ⟨0,[],_,_,wda,I0,Tp,λb h=>by rw[aa (Ù (Q b h))];exact(U b h).1,w0⟩
  rintro n s3 ⟨i,G,vs,H3,hv,I3,Tq,Tr,w3⟩
  let{EC,alt}:=turn i n G H3 w3
  have M:∀{H':Hp},(∀b∈fp,H' b=τ)->∀b∈fp,ro (bc X scope (xs++ys) cl C.objs.size s₂ H fp (X.pn++pins)) [] H' b:=λhn b h=>
   {hn b h,Ù (Þ (Q b h) f),λhm=>by
     rcases æ.mp (I.rF b hm) with z |z
     .exact(U b h).2.1 z
     .exact(U b h).2.2.1 z,.inl h,λy c e=>(U b h).2.2.2.2.1 y c (zo y c e),λp hp=>(U b h).2.2.2.2.2 p (by simpa [bc] using hp)}
  rcases alt with⟨stop,qd⟩ |⟨go,hsz,step⟩
  .refine bG (T.done (bc X scope (xs++ys) cl C.objs.size s₂ H fp (X.pn++pins)) rfl rfl rfl hc i [] s3 _ H3 _ I3 (M Tr) Tq stop) λr s4 ⟨hr,Y⟩=>?_;subst hr
   let{m,hn,_}:=Y.loc
   refine VU s₂.heap.objs.size C.objs.size H3 s4 m ?_ hn Y.free (Ķ (Þ I.lt f)) (Ï I.sz f) (λy c e=>?_) (λp hp=>?_) qd
   .exact I.vf Y.os Y.base Y.aT Y.bare λb h=>{(U b h).2.2.2.1,(U b h).2.1,(U b h).2.2.2.2.1,(U b h).2.2.2.2.2}
   .let{v,o,q,d}:=I.cell y c e
    exact Ù (Þ (Ë q) f)
   .exact Ù (Þ (Ë (I.pin p hp).1) f)
  .refine bG (T.item (bc X scope (xs++ys) cl C.objs.size s₂ H fp (X.pn++pins)) rfl rfl rfl hc i [] s3 _ H3 _ I3 (M Tr) Tq go) λr s4 ⟨u,hr,h4⟩=>?_;subst hr;refine bG h4 λ_ s5 ⟨xv,H5,I5,r5,y5,R,VX⟩=>?_;have VY:=I5.pinned (M VX) (T.obj _ _ R);refine ê (hg _ _ _ _ _ _ s5 _ H5 xv u _ VY r5 (step xv _ vs hv y5)) (λ_ s6 {σ6,H6,I6,⟨N9,Ts,e6⟩,q6}=>?_) λ_ _ z=>ç z;subst e6;refine ê (ht _ _ _ _ _ _ s6 _ _ _ I6 q6) (λb s7 ⟨H7,I7,q7⟩=>?_) λ_ _ z=>ç z
   have again:∀{S:St} {V:Hp} {Z:Shared},Inv (bc X scope (xs++ys) cl C.objs.size s₂ H fp (X.pn++pins)) ([]++rp fp s5.heap) S V Z ->
    Inv (bc X scope (xs++ys) cl C.objs.size s₂ H fp (X.pn++pins)) [] S V Z/\tn (i+1) Z.heap/\∀b∈fp,V b=τ:=λ{S V Z} I8=>by
    refine{I8.mS,T.keep _ _ _ R λb h o e=>(I8.pin (b,o) (ù _ (ù _ (iR h e)))).1,λb h=>?_}
    let{o,e,d}:=T.obj _ _ R b h
    exact(I8.pin (b,o) (ù _ (ù _ (iR h e)))).2.1
   cases b with
   |false=>
    rw[if_neg ß]at q7 ⊢
    let{m',hm,w7}:=q7
    let{a1,a2,a3}:=again I7
    exact{m',hm,i+1,G,N9,H7,Ts,a1,a2,a3,w7}
   |true=>
    rw[if_pos rfl]at q7 ⊢;refine ê (he _ _ _ _ _ _ s7 _ _ _ I7 q7) (λuy Z ⟨y,V,I8,r8,P9,m',hm,w8⟩=>?_) λ_ _ z=>ç z
    refine ê (cg (X:=bc X scope (xs++ys) cl C.objs.size s₂ H fp (X.pn++pins)) _ Z _ V (.ref s₂.8) [y] (.ref s₂.8) [uy] (λ_ H9=>H9=upd V s₂.heap.objs.size (.lst (G++[y]))) I8 rfl (.cons r8 .nil) {_,G,y,rfl,rfl,P9,hsz,rfl})
     (λ_ s9 {v9,H9,I9,_,e9}=>?_) λ_ _ z=>ç z
    subst e9
    let{a1,a2,a3}:=again I9
    exact{m',hm,i+1,G++[y],N9,_,Ts,a1,a2,a3,w8}
 exact codeAny_compStart_list (N _ rfl) (T.self X.A 0 _ _ _ Tp (N _ rfl))
theorem si{C:It->Addr->St->Hp->(Hp->Prop)->Prop}(hc:X.calm=true)(B:bH X scope x ys ix)(hg:∀cl L s H ex pn,PG (bc X scope (xs++ys) cl L s H ex pn) U g)(hC:∀J l j H Q,C J l j H Q->vh g xs.length J l j tt te H Q)(hi:PI X U iter wi)
 (ht:∀cl L s H ex pn,GL (bc X scope (xs++ys) cl L s H ex pn) p tt) (he:∀cl L s H ex pn,PE (bc X scope (xs++ys) cl L s H ex pn) r te)
 (hs:∀v,ň iter X.env v=pure v:=by intro _;rfl):PE X (.ListComp r [⟨U,iter,p,0⟩] scope pos) (λσ H Q=>wi σ H λJ H1=>∀l,H1 l=τ->C J l (pick σ ix) H1 (λH2=>Q (.ref l) H2)):=by
 refine{?_};intro pins s σ H Q I h
 let{cl,a,d,f}:=lu (scope:=scope) (env:=X.5) (λy G i=>I.ok.has y.1 (B.free y G i))
 rw[eval_ListComp];refine wfo (use:=τ) rfl hs a B.kind B.names (bG (hi pins s σ H _ I h) λZ s1 k=>bG k λM s2 n=>?_)
 let{it,fp,tn,J,H2,e,N,T,t,f2,hw}:=n
 subst e;refine vk (RR:=λu C=>compPost (model X.prog X.w) X.A X.xe τ (EP X pins σ Q) u C) (Qd:=λl z=>Q (.ref l) z) hc B N T t f2 d f (ht cl) (he cl) (hg cl) (λl h=>hC _ _ _ _ _ (hw l h)) ?_;intro D L z O m R hn c k n S V q;exact{m,hn,λh' E=>{.ref D,z,R.turned (it:=L) (t':=O.toks) (λb o Y e=>(E.2 b Y).trans e) c k (.inr n) S V,rfl,q}}
theorem bZ(hc:X.calm=true)(B:bH X scope x ys ix)(hi:PI X (.Name x r) iter t)
 (I:∀cl L s H ex pn,GL (bc X scope (x::ys) cl L s H ex pn) g o) (he:∀cl L s H ex pn,PE (bc X scope (x::ys) cl L s H ex pn) j p)
 (hs:∀v,ň iter X.env v=pure v:=by intro _;rfl):PE X (.ListComp j [⟨.Name x r,iter,g,0⟩] scope pos) (Nb t ix o p):=
 si (C:=λJ l a H Q=>lz J l a o p H Q) (xs:=[x]) hc B (Bk B) (λ_ _ _ _ _=>Bh) hi I he hs
end
theorem Inv.freeze{X:Cx}(I:Inv X g σ H s)(e:H d=ρ (.dK kvs)):∃o,s.heap.get? d=ρ o/\Inv X g σ (upd H d (.frz o (.dK kvs))) s:=by
 have ok:=I.aT d _ e
 let{z,y,f,rel,o,h,i,a,j}:=id ok
 refine{o,a,?_};exact I.write (x:=d) (e:=d) (h':=s.heap) (t':=s.toks) (by rw[e];exact trivial) (.inl rfl) (λb u _ c=>c) {_,a} ⟨a,ok⟩
theorem zS{X:Cx}(h:PE X e g):PE X e (Qa g):=by
 refine{?_};intro a s σ H Q I hw;refine bG (h a s σ H _ I hw) λv j ⟨x,k,b,c,d,f,e,hd,q⟩=>?_
 let{o,l,i}:=b.freeze hd
 exact{x,_,i,c,q o}
section
variable{X:Cx}
theorem Inv.KD{g:List (Addr×Obj)}{σ:St}{H:Hp}{s:Shared}{p:Addr}{xs ys:List V}{j its':List Value}{n l:Nat}{f:Obj->Obj}(I:Inv X g σ H s)(h:H p=ρ (.lst xs))
 (C:s.heap.get? p=ρ {cls:=.type "list",data:=.seq j.toArray n}) (o:f {cls:=.type "list",data:=.seq j.toArray n}={cls:=.type "list",data:=.seq its'.toArray l}) (r:Vals ys its') (J:ys.9<=sizeLine) (t:Nat) :
 Inv X g σ (upd H p (.lst ys)) {s with heap:=s.heap.update p f,toks:=t}:=by
 have e:(s.heap.update p f).get? p=ρ {cls:=.type "list",data:=.seq its'.toArray l}:=by
  rw[Ő f C (by rw[o]<;>rfl),o]
 refine I.write (x:=p) (e:=p) (by rw[h];trivial) (.inl rfl) (λb u a q=>(Ċ _ _ (è a)).trans q) {_,e} ?_;exact⟨J,its',l,r,e⟩
theorem set_list:N0 X N7:=by
 intro a s σ H o i v C D u Q I w x y h
 let{p,z,k,j,rfl,rfl,e,A,q}:=h
 cases w
 let{t,rfl}:=x
 let{b,n,r,d,B}:=I.lst e
 let{c,E,f,g}:=Ba A
 have hl:=r.9;have hn:=m6
 have l:Inv X a σ (upd H p (.lst (z.set j v))) {s with heap:=s.heap.update p (Ĺ (·.setIfInBounds j u))}:=
  I.KD e d (zJ b n j u) (r.set y j) (by rw[Ų];exact B) s.toks
 by_cases m:0<=k
 .have hk:k.toNat=j:=by
   rw[whh m g]at c;exact Î c
  exact PySem.W.ki_setAt d m () (by rw[â,<-hl];exact g) (by rw[hk];exact{_,l,q})
 .have hk:(k+(b.toArray.size:Int)).toNat=j:=by
   rw[wgR () f]at c;rw[â,<-hl];exact Î c
  exact PySem.W.ki_setBack d () (by rw[â,<-hl];exact f) () (by rw[hk];exact{_,l,q})
end
section
variable{X:Cx}{scope:ú}{x:Str}{xs ys:List Str}{ix:List Nat}
theorem pA{C:It->Addr->St->Hp->(Hp->Prop)->Prop}(hc:X.calm=true)(B:bH X scope x ys ix)(hN:X.N.Nodup)(hy:X.N[i]?=ρ y)(r:X.env.scope.names.lookup y=ρ .local)(hg:∀cl L s H ex pn,PG (bc X scope (xs++ys) cl L s H ex pn) tg g)(hC:∀J l t H Q,C J l t H Q->vh g xs.length J l t tt te H Q)(hi:PI X tg iter wi)
 (ht:∀cl L s H ex pn,GL (bc X scope (xs++ys) cl L s H ex pn) j tt) (he:∀cl L s H ex pn,PE (bc X scope (xs++ys) cl L s H ex pn) p te)
 (QK:č (.ListComp p [⟨tg,iter,j,0⟩] scope pos) (ρ (.Name y py)) U.line X.5=pure true:=by rfl)
 (hs:∀v,ň iter X.env v=pure v:=by intro _;rfl):PS X (.Assign [.Name y py] (.ListComp p [⟨tg,iter,j,0⟩] scope pos) U) (λD σ H=>wi σ H λJ H1=>∀l,H1 l=τ->C J l (pick σ ix) H1 (λH2=>D.nx (σ.set i (ρ (.ref l))) H2)):=by
 refine{?_};intro c s σ H D I h
 let{cl,d,u,E}:=lu (scope:=scope) (env:=X.5) (λy hy G=>I.ok.has y.1 (B.free y hy G))
 rw[exec_Assign_Name_used _ _ _ _ QK];refine Â (Ž (Â ?_));show wpAny _ X.A (do let _ <-comprehension (.ListComp p [⟨tg,iter,j,0⟩] scope pos) scope X.env _ (newList []) false (eval iter X.5) (ρ (assign (.Name y py) X.5))) _ _ s
 refine Â (ê (wfo (use:=ρ (assign (.Name y py) X.5)) (Q:=λ_ k=>SP X c D .next k) rfl hs d B.kind B.names
  (bG (hi c s σ H _ I h) λxv s1 n=>bG n λQm s2 M=>?_)) (λ_ k hq=>Í (Í hq)) λ_ _ e=>e)
 let{it,fp,tn,J,H2,e,I2,T,O,f2,hw}:=M
 subst e;refine vk (RR:=λR C=>compPost (model X.prog X.w) X.A X.xe (ρ (assign (.Name y py) X.5)) (λ_ k=>SP X c D .next k) R C) (Qd:=λl S=>D.nx (σ.set i (ρ (.ref l))) S) hc B I2 T O f2 u E (ht cl) (he cl) (hg cl) (λl h=>hC _ _ _ _ _ (hw l h)) ?_;intro D' L S k m I' hn f n M h3 h4 q;show wpAny _ X.A (assign (.Name y py) X.env (.ref D')) _ _ _;refine wpAny_assign_Name (vi I' hN hy (.inl r) (v:=.ref D') rfl (λV Y sb=>?_) (.inr r))
 let{a,Z,ha}:=sb
 have hL:L≠a:=by
  rcases ha with z |z
  .rw[z];exact n
  .exact(h3 y a z).symm
 refine{m,hn.sameBut Z hL,λh' ED=>{_,S,Y.turned (it:=L) (t':=V.toks) (λb o hb e=>(ED.2 b hb).trans e) f n (.inr M) h3 h4,q}}
theorem fg(hc:X.calm=true)(B:bH X scope x ys ix)(U:X.N.Nodup)(hy:X.N[i]?=ρ y)(p:X.env.scope.names.lookup y=ρ .local)(hi:PI X (.Name x t) iter wi)
 (ht:∀cl L s H ex pn,GL (bc X scope (x::ys) cl L s H ex pn) g I) (he:∀cl L s H ex pn,PE (bc X scope (x::ys) cl L s H ex pn) j T)
 (r:č (.ListComp j [⟨.Name x t,iter,g,0⟩] scope pos) (ρ (.Name y py)) o.line X.5=pure true:=by rfl)
 (hs:∀v,ň iter X.env v=pure v:=by intro _;rfl):PS X (.Assign [.Name y py] (.ListComp j [⟨.Name x t,iter,g,0⟩] scope pos) o) (Kr wi ix I T i):=
 pA (C:=λJ l a H Q=>lz J l a I T H Q) (xs:=[x]) hc B U hy p (Bk B) (λ_ _ _ _ _=>Bh) hi ht he r hs
end
section
variable{X:Cx}{pins:List (Addr×Obj)}{σ:St}{H:Hp}{s:Shared}{a:Addr}{y v:V}{u r:Value}{A:Around}{E:Value->Shared->Prop}
theorem wJ(I:Inv X pins σ H s)(g:Mo (H a))(hs:wei a s.heap h')(he:∃q,h'.get? a=ρ q)(new:bq X.prog X.w (upd H a ob) h' a ob) :
 Inv X pins σ (upd H a ob) {s with heap:=h',toks:=t'}:=
 I.write (x:=a) (e:=a) g (.inl rfl) (λb q c z=>(hs.2 b c).trans z) he new
theorem Cb{Q:Unit->Shared->Prop}(J:A.units+1<ð)(I:Inv X pins σ H s)(g:gX H a y v T)(t:RelV y u)(C:RelV v r)(h:∀s',Inv X pins σ T s'->Q .unit s') :
 wpAny (model X.prog X.w) A (setItem (.ref a) u r) Q E s:=by
 rcases g with⟨d,k,e,j,l,m⟩ |⟨d,k,b,e,j,x,l,m⟩
 .subst j m
  let{z,hd,G,rel,n}:=rN I.aT e
  have o:G.9<=sizeLine:=by rw[<-rel.9];exact z
  have hl:(putK d k v).9<=sizeLine:=by have:=jK d k v;lia
  refine wpAny_setItem_pairs (hsz:=o) (rq t) n λB f p=>h _ ?_;have L:∃q,B.get? a=ρ q:=let ⟨q,_,_,i,_⟩:=f;⟨q,i⟩
  exact wJ I (by rw[e];exact ÿ) p L (Ec hl hd (rel.put k C) f)
 .subst j m;cases(show u=Æ b from t)
  let{z,hd,M,rel,n}:=Nc I.aT e
  have o:M.9<=sizeLine:=by rw[<-wgw rel];exact z
  have hl:(putK d k v).9<=sizeLine:=by have:=jK d k v;lia
  refine wpAny_setItem_heap (hsz:=o) (Ι J) (oI I.aT x) n λB f p=>h _ ?_
  let{q,N,O,i,R,S,U,_,V}:=f
  refine wJ I (by rw[e];exact ÿ) p ⟨q,i⟩ {hl,hd,_,(rel.put k x C).keeps λc Y D=>?_,q,N,O,i,R,S,U,V};rw[aa (Mm D e (λz=>nomatch z))];exact D
end
section
variable{prog:É}{w:World}{A:Around}{R:ī->Shared->Prop}{I:Addr}{fp wr:List Addr}{G:Array ł->Array ł->Prop}{n:Nat}{P:Nat->Value->Prop}{St:Nat->Shared->Prop}
theorem qU{X:Cx}(h:P5 X pos keys values j)(g:keys.all (·.isSome)=true)(hl:keys.9=values.9)(p:keys≠[])
 (l:keys.9<=15):PE X (.Dict keys values pos) (MS j):=by
 refine{?_};intro b s σ H Q I q;have hn:=I.aT.fresh (Å s.8);have k:=I.laid (a:=s.8) (o:=.dK []) (h':=s.heap.push {cls:=.type "dict",data:=.dict #[]}) (t':=s.toks) (λ_ _ q=>Ð _ q) (Å _) (rE s.heap I.big);refine wpAny_Dict_walk (knd:=b8 X.prog X.w) g hl p l (bG (h b _ σ _ _ k (q _ hn)) λE G ⟨ps,J,i,rel,e,d,m,lk,n⟩=>?_);subst m
 let{r,c,t}:=rH (P:=X.prog) (w:=X.w) rel
 let{z,hd,u,v,x}:=rN i.aT e
 cases v;refine{r,c,x,λh' f y=>{.ref s.8,_,?_,rfl,n}}
 have A:(ia [] d).9<=sizeLine:=by
  have B:=uj d [];rw[wfK]at B;rw[Ė];lia
 have C:∃q,h'.get? s.8=ρ q:=let ⟨q,_,_,D,_⟩:=f;⟨q,D⟩
 exact wJ i (by rw[e];exact ÿ) y C (Ec A hd (t.merge .nil) f)
theorem y4(l:WalksS prog w A.in1 I fp wr G n P St)(S:Addr)(p:S∉fp)
 (val:Nat->Str) (r:∀i v,P i v->∃t,v=.str (val i) t) (j:n+1<ō) :
 ∀(k i:Nat) (s:Shared),n-i=k->i<=n->St i s ->
  s.heap.SetOf (ĕ prog w) S (λg=>(cx val i).any (· == g)) (cx val i).9 ->
  (∀s',Moved (S::wr) G s s'->s'.heap.SetOf (ĕ prog w) S (λg=>(cx val n).any (· == g)) (cx val n).9->R (.ok (.ret .none)) s') ->
  codeAny (model prog w) A (.builtin "set.update.loop" {[.ref S,.ref I],[]}) R s:=by
 have f:S∉wr:=λh=>p (l.sub _ h);have a:∀b∈wr,b∈S::wr:=λb j=>Ô _ j;intro k
 induction k with
 |zero=>
  intro i s hk hi c B C;have D:i=n:=();subst D;refine Ĭ wdF ?_;rw[Ņ wcs _];show wpAny _ A.in1 (pyNext (.ref I) >>= _) _ _ s;refine Â (l.done s _ _ c λs' m=>?_);show wpAny _ A.in1 (ret ā) _ _ s'
  exact Í (C s' (m.mono a) (by
   let{o,E,H,t,J,rest}:=B
   exact{o,E,H,t,m.heap S _ f J,rest}))
 |succ k Q=>
  intro i s hk hi c B C;have q:i<n:=();refine Ĭ wdF ?_;rw[Ņ wcs _];show wpAny _ A.in1 (pyNext (.ref I) >>= _) _ _ s;refine Â (l.item i s _ _ q c λv s' T u m=>?_)
  let{t,rfl}:=r i v T
  have L:s'.heap.SetOf (ĕ prog w) S (λg=>(cx val i).any (· == g)) (cx val i).9:=by
   let{o,E,H,U,J,rest}:=B
   exact{o,E,H,U,m.heap S _ f J,rest}
  show wpAny _ A.in1 (holding [Κ (val i) t] (setAdd S (.str (val i) t)) >>= _) _ _ s';refine Â (ö ?_);unfold setAdd;refine ö ?_;refine Â ((ĕ prog w).pyHash (k:=val i) (Jw _ _ _ _) ?_);have d:(cx val i).9+1<ō:=by have:=va val i;lia
  refine wpAny_setAddHashed_of (knd:=ĕ prog w) (s:={s' with toks:=s'.toks+1}) (Jw _ _ _ _) rfl L d λV x M=>?_
  have N:V.SetOf (ĕ prog w) S (λg=>(cx val (i+1)).any (· == g)) (cx val (i+1)).9:=
   SetOf_congr M (λg=>by rw[gZ,C1]) (by rw[gZ,wC])
  refine Í {Ľ wcs _,Q (i+1) _ () q (l.frame _ s' _ _ u (ı _) λb j o e=>?_) N λO y z=>?_}
  .rw[x.2 b (λh:b=S=>p (by rw[<-h];exact j))];exact e
  .refine C O (Moved.trans l.gtrans ((m.mono a).then_heap (ı _) λb o j e=>?_) y) z;rw[x.2 b (λh:b=S=>j (by rw[h];exact Ø))];exact e
end
section
variable{prog:É}{w:World}{A:Around}{E:Value->Shared->Prop}{s:Shared}
set_option maxRecDepth 100000 in
set_option maxHeartbeats 3200000 in
theorem wK{Q:Value->Shared->Prop}
 (hh:A.handled=τ) (p:x.cps.size+1<ō)
 (h:∀(h':Heap) (tk:Nat),h'.SetOf (ĕ prog w) s.heap.objs.size (λC=>(cx (dU x) x.cps.size).any (· == C)) (cx (dU x) x.cps.size).9 ->
   (∀b o,b<s.8->s.heap.get? b=ρ o->h'.get? b=ρ o)->Q (.ref s.8) {s with heap:=h',toks:=tk}) :
 wpAny (model prog w) A (call (.type "set") [.str x I]) Q E s:=by
 let{c,tl,T}:=ś.mro
 have y:=ś.made;have U:=ś.sub;refine đ (wfO ?_);show wpAny _ _ (callAny (.type "set") _) _ _ _;refine Í {wdG _ ∅,Ĭ wgp ?_};rw[wgW (wgc "set" [.str x I] []) rfl];have h1:=ś.notType;have h2:=ś.canCreate;have Z:=PySem.F.typeCall_set_1 (.str x I)
 repeat (any_goals (first |assumption |wp_step))
 refine ē (code_set_new_1 (.str x I) (E:=E) (Q₁:=λobj f=>∃a:Bool,obj=.ref s.8/\f={s with heap:=s.heap.push {cls:=.type "set",dict:=τ,data:=.set #[] 0 (.fresh 0 0 a)}}) λa=>⟨a,rfl,rfl⟩) λr f z=>?_
 cases r with
 |error e=>exact z
 |ok fl=>
  cases fl with
  |ret obj=>
   let{a,rfl,rfl}:=z
   have V:(s.heap.push {cls:=.type "set",dict:=τ,data:=.set #[] 0 (.fresh 0 0 a)}).get? s.8=ρ {cls:=.type "set",dict:=τ,data:=.set #[] 0 (.fresh 0 0 a)}:=ã _ rfl;have hT:whN {s with heap:=s.heap.push {cls:=.type "set",dict:=τ,data:=.set #[] 0 (.fresh 0 0 a)}} (.ref s.8) "set":={_,V,rfl};have Z7:=ś.init.lookup;have Z8:=ś.init.bind (.ref s.8)
   repeat (any_goals (first |assumption |wp_step))
   refine ē (Ů (R:=wants (λr g=>r=.none/\∃h' tk,g={s with heap:=h',toks:=tk} /\
    h'.SetOf (ĕ prog w) s.heap.objs.size (λC=>(cx (dU x) x.cps.size).any (· == C)) (cx (dU x) x.cps.size).9 /\
    (∀b o,b<s.8->s.heap.get? b=ρ o->h'.get? b=ρ o)) E) ś.init.plain PySem.F.entry_set_init (check_set_init_1 hT ?_)) λl g d=>?_
   .have X:=sub_str_set;have Y:=sub_str_frozenset;have Cd:(ŵ "str" == ŵ "dict")=false:=⋯;unfold Ĩ.«set.__init__» noKeywords whL;generalize B:pyIter=PI
    wp_walk
    subst B;refine wpAny_pyIter_str λo St hW D=>?_;refine Â (wpAny_runValue ?_);have G:A.in1.in1.in1.handled=τ:=by simp[hh]
    have H:s.heap.objs.size∉[(s.heap.push {cls:=.type "set",dict:=τ,data:=.set #[] 0 (.fresh 0 0 a)}).7]:=by
     rw[Ĝ];simp only[æ,Ó,ċ,or_false,not_or];exact Ù (ŀ _)
    have m:∀(i:Nat) (v:Value),SignAt x i v->∃t,v=.str (dU x i) t:=λi v hv=>by
     let{c,u,hc,e}:=hv
     refine{u,?_};rw[e];unfold dU;rw[wde,hc];rfl
    refine y4 ((hW _ G).toS) s.heap.objs.size H (dU x) m p (x.cps.size-0) 0 _ () (à _) D ?J ?hR
    case J=>
     have n:((s.heap.push {cls:=.type "set",dict:=τ,data:=.set #[] 0 (.fresh 0 0 a)}).push o).get? s.8
      =ρ {cls:=.type "set",dict:=τ,data:=.set #[] 0 (.fresh 0 0 a)}:=Ð _ V
     exact SetOf_congr ((setObjOf_fresh (knd:=ĕ prog w) a).setOf n (by unfold ō;lia)) (λ_=>rfl) rfl
    case hR=>
     intro s' q j
     let{h',g',d',L,M}:=s'
     have eg:g'=s.gens:=q.gens;have ed:d'=s.drawn:=q.drawn;have eo:M=s.os:=q.os;subst eg;subst ed;subst eo;show wpAny _ _ _ _ _ _;refine Í ?_;show wpAny _ _ (ret ā) _ _ _;refine Í {rfl,h',L,rfl,j,λb o' p e=>?_};have N:b≠s.8:=Ù p
     have O:b≠(s.heap.push {cls:=.type "set",dict:=τ,data:=.set #[] 0 (.fresh 0 0 a)}).7:=by
      rw[Ĝ];exact Ù (wdN p)
     exact q.heap b o' (by simp only[æ,Ó,ċ,or_false,not_or];exact⟨N,O⟩) (Ð _ (Ð _ e))
   .cases l with
    |error e=>exact d
    |ok k=>
     cases k with
     |ret r=>
      let{rfl,h',tk,rfl,j,S}:=d
      repeat (any_goals (first |assumption |wp_step))
      exact h _ _ j S
     |_=>exact d.elim
  |_=>exact z.elim
end
section
variable{X:Cx}{o i value:Expr}{pos pos':Pos}{td ty tv:TE}
theorem cu(j:X.A.units+1<ð)(l:PE X o td)(hi:PE X i ty)(p:PE X value tv)(hs:č value (ρ (.Subscript o i pos')) pos.line X.5=pure false) :
 PS X (.Assign [.Subscript o i pos'] value pos) (JC td ty tv):=by
 refine{?_};intro b s σ H D I h;refine wpAny_Assign_Subscript (bG (p b s σ H _ I h) λr c ⟨v,d,e,f,k⟩=>bG (l b c σ d _ e k) λu m ⟨x,n,q,t,w⟩=>bG (hi b m σ n _ q w) λJ L ⟨y,M,z,B,a,C,ex,g,E⟩=>?_) hs;subst ex;obtain rfl:u=Æ a:=t;exact Cb j z g B f λN G=>⟨σ,C,G,E⟩
theorem y6(hc:X.calm=true):d1 X (.type "set") (λxs H Q=>∃z,xs=[.str z]/\z.cps.size+1<ō/\∀p,H p=τ->Q (.ref p) (upd H p (Hm X.prog X.w p (cx (dU z) z.cps.size).9))):=by
 intro c s σ H xs n Q I r h
 let{z,rfl,f,q}:=h
 let{u,rfl,t,rfl}:=vals1 r
 refine wK (I.ok.hd hc) f λg i d kp=>?_;have a:∀b o,s.heap.get? b=ρ o->g.get? b=ρ o:=λb o e=>kp b o (Ë e) e;refine{.ref s.8,_,I.laid (t':=i) (o:=Hm X.prog X.w s.heap.objs.size (cx (dU z) z.cps.size).9) a (Å _) {{_,d},?_,?_},rfl,q _ (I.aT.fresh (Å _))}
 .let{o,_,_,_,e,_}:=d
  exact⟨o,e⟩
 .rintro v x ⟨S,o,j,l,m,e,rest⟩ k;exact{S,o,j,l,m,k o e,rest}
end
section
variable{P:É}{w:World}{H:Hp}{h:Heap}{a C dx:Addr}{fs:List (Str×V)}
theorem qV(aT:iT P w H h)(e:H a=ρ (.ins C dx fs)):∃g,zv h a dx C g/\(∀f,gV (fs.lookup f) (g f))/\ζ g (fs.map (·.1))/\fs.9<=1000/\H dx=ρ (.own a):=by
 let{d,z,ne,ob,g,n,r,q}:=(show bq P w H h a (.ins C dx fs) from aT a _ e)
 exact{g,⟨ob,n,ne⟩,r,q,z,d}
end
section
variable{X:Cx}{pins:List (Addr×Obj)}{σ:St}{H:Hp}{s:Shared}{a C dx:Addr}{fs:List (Str×V)}{f:Str}{v:V}{A:Around}{E:Value->Shared->Prop}
theorem zT{Q:Value->Shared->Prop}(I:Inv X pins σ H s)(e:H a=ρ (.ins C dx fs))(c:zm X.K C)(n:bN X.K C f)(l:fs.lookup f=ρ v)
 (h:∀u s',Inv X pins σ H s'->RelV v u->Q u s'):wpAny (model X.prog X.w) A (getAttr (.ref a) f b) Q E s:=by
 let{g,O,r,_,_,_}:=qV I.aT e
 let{u,i,d}:=gV.qK (v:=v) (o:=g f) (by grind)
 exact get_map I.fP O (c.get f) c.hd n i (uO d) (h u _ (I.tok _) d)
theorem sj{Q:Value×List Value->Shared->Prop}(I:Inv X pins σ H s)(e:H a=ρ (.ins C dx fs))(c:zm X.K C)(k:Hw X.K C m g)(l:fs.lookup m=τ)
 (h:Q (.ref g,[.ref a]) s):wpAny (model X.prog X.w) A (Ŧ (.ref a) m pl) Q E s:=by
 let{b,O,r,_,_,_}:=qV I.aT e
 have hn:b m=τ:=gV.none_of (by grind);exact Ey I.fP O (c.get m) k.at_ k.fn hn h
theorem zU{Q:Unit->Shared->Prop}(I:Inv X pins σ H s)(e:H a=ρ (.ins C dx fs))(c:zm X.K C)(n:bN X.K C f)(hl:fs.9<1000)(l:RelV y u)
 (h:∀s',Inv X pins σ (upd H a (.ins C dx (cm f y fs))) s'->Q .unit s'):wpAny (model X.prog X.w) A (setAttr (.ref a) f u) Q E s:=by
 let{i,O,r,j,_,k}:=qV I.aT e
 have m:(fs.map (·.1)).9<=sizeLine:=by rw[À,Ė];lia
 refine HK I.fP O c.sa c.po n.Mv c.hd j m λp d sb=>h _ ?_;have hd:∃o,p.get? dx=ρ o:=let ⟨o,_,_,t,_⟩:=d.ns;⟨o,t⟩
 refine I.write (x:=a) (e:=dx) (by rw[e];exact ÿ) (.inr k) (λb q v z=>(sb.2 b v).trans z) hd ?_;refine{by rw[aa O.ne];exact k,?_,O.ne,d.obj,_,d.ns,λg=>?_,λg B=>?_}
 .have:=pj f y fs;lia
 .show gV ((cm f y fs).lookup g) (if g=f then ρ u else i g);rw[aD]
  by_cases q:g=f
  .rw[if_pos q,if_pos q];exact l
  .rw[if_neg q,if_neg q];exact r g
 .by_cases q:g=f
  .rw[q];exact(oC f y fs).1
  .refine(oC f y fs).2 g (j g λz=>B ?_);show (if g=f then ρ u else i g)=τ;rw[if_neg q];exact z
end
section
variable{X:Cx}{CX:DC}{k:Nat}{f C:Addr}{fd:ì}{ps:List Str}{sp:Sp}{uh:List V}{ds:List Value}{E:XK}{m:Str}{pos apos:Pos}{e o:Expr}{es:List Expr}{ta:TE}{t:TA}
theorem HN(he:PE X o ta)(c:zm X.K C)(j:Hw X.K C m f)(F:aP X.prog X.w X.K X.mg X.base CX k f fd ps sp)(T:cG k X.A)(U:Binds X.K fd ps ds)(hd:Vals uh ds)(hx:Passes CX X E)(ha:PA X (e::es) t)
 (g:starEach (e::es) X.5=(false,eval e X.5)::starEach es X.5:=by rfl) (hpl:(backTo pos (starEach es X.5)).any (·.1)=false:=by rfl)
 (ht:eval (.Call (.Attribute o m apos) (e::es) [] pos) X.5=(do
   let J <-eval o X.5
   standAt apos.atName
   let (f,first) <-holding [J] (Ŧ J m pl)
   callWith pos f first (backTo pos (starEach (e::es) X.5)) (backToKw pos (Ń [] X.5))):=by rfl) :
 PE X (.Call (.Attribute o m apos) (e::es) [] pos) (B9 C m sp uh E ta t):=by
 refine{?_};intro b s σ H Q I h;refine wea (pl:=pl) (bG (he b s σ H _ I h) λu n ⟨x,p,d,v,a,B,fs,ex,y,l,q⟩=>?_) ht;subst ex;obtain rfl:u=Æ a:=v;refine sj d y c j l ?_;refine Ŭ (first:=[.ref a]) (h₀:=X.base) I.ok.mod.Hd j.kp (bG (ha pos b n σ p _ d q) λus D ⟨vs,G,i,r,z⟩=>{i.fP,?_}) g hpl;exact zR (us:=.ref a::us) (vs:=.ref a::vs) F T U hd hx i (.cons rfl r) z
theorem EE(he:PE X o ta)(c:zm X.K C)(g:Hw X.K C m f)(F:aP X.prog X.w X.K X.mg X.base CX k f fd ps sp)(r:cG k X.A)(J:Binds X.K fd ps ds)(hd:Vals uh ds)(T:Passes CX X E)
 (U:eval (.Call (.Attribute o m apos) [] [] pos) X.5=(do
   let j <-eval o X.5
   standAt apos.atName
   let (f,first) <-holding [j] (Ŧ j m pl)
   callWith pos f first (backTo pos (starEach [] X.5)) (backToKw pos (Ń [] X.5))):=by rfl) :
 PE X (.Call (.Attribute o m apos) [] [] pos) (B9 C m sp uh E ta wo):=by
 refine{?_};intro b s σ H Q I h;refine wea (pl:=pl) (bG (he b s σ H _ I h) λu n ⟨x,p,d,e,a,t,fs,ex,i,l,q⟩=>?_) U;subst ex;obtain rfl:u=Æ a:=e;refine sj d i c g l ?_;exact PySem.W.callWith_K0 (first:=[.ref a]) d.fP g.kp (zR (us:=[.ref a]) (vs:=[.ref a]) F r J hd T d (.cons rfl .nil) q)
end
section
variable{X:Cx}{e:Expr}{f:Str}{pos:Pos}{ta:TE}
theorem aW(he:PE X e ta)(g:ĵ e f X.env (eval e X.5)=eval e X.5):PE X (.Attribute e f pos) (Mw X.K ta f):=by
 refine{?_};intro b s σ H Q I h;refine Bl g (bG (he b s σ H _ I h) λu p ⟨x,d,i,j,a,C,r,fs,v,ex,k,c,n,l,q⟩=>?_);subst ex;obtain rfl:u=Æ a:=j;exact zT i k c n l λt w m o=>⟨v,d,m,o,q⟩
end
section
variable{P:É}{w:World}{H:Hp}{h:Heap}{x C d t:Addr}
theorem kN{X:Cx}{K:Á}{e:Expr}{f:Str}{pos:Pos}{g:TE}(j:X.K=K)(he:PE X e g)(l:ĵ e f X.env (eval e X.5)=eval e X.5):PE X (.Attribute e f pos) (Mw K g f):=by
 subst j;exact aW he l
theorem QL(e:h.get? x=ρ (qM C d t)):bq P w H h x (XD x C d):={⟨t,e⟩,{_,e},λc f ⟨a,b⟩ k=>{a,k _ b}}
end
section
variable{X:Cx}{o value:Expr}{f:Str}{pos pos':Pos}{ta tv:TE}
theorem cM(ha:PE X o ta)(g:PE X value tv)(hs:č value (ρ (.Attribute o f pos')) pos.line X.5=pure false):PS X (.Assign [.Attribute o f pos'] value pos) (Qs X.K ta tv f):=by
 refine{?_};intro b s σ H D I h;refine wcR (bG (g b s σ H _ I h) λu d ⟨y,e,i,j,q⟩=>bG (ha b d σ e _ i q) λk z m=>?_) hs
 let{x,A,p,r,a,C,B,fs,ex,t,c,n,l,v}:=m
 subst ex;obtain rfl:k=Æ a:=r;exact zU p t c n l j λE w=>{σ,_,w,v}
end
section
variable{X:Cx}{o e f:Expr}{apos fQ:Pos}{td ty tx:TE}
theorem EG(j:X.A.units+1<ð)(l:PE X o td)(he:PE X e ty)(p:PE X f tx)(m:M2 X o "get" apos e f fQ):PE X (.Call (.Attribute o "get" apos) [e,f] [] fQ) (Kf td ty tx):=by
 refine{?_};intro b s σ H Q I h;refine wpAny_Call_method m.base m.few m.line η we8 PySem.F.type_dict_get (bG (l b s σ H _ I h) λu k ⟨x,n,i,q,a,ex,d,r⟩=>?_);subst ex;obtain rfl:u=Æ a:=q
 let{t,v,_}:=Kt i d
 refine{t,v,?_};rw[m.trees]
 refine wd5 rfl (wgo (weM (bG (he b k σ n _ i r) λO w ⟨y,B,C,D,E⟩=>
  weM (bG (p b w σ B _ C E) λR S ⟨z,G,J,L,T,g,M⟩=>wh5 ?_))))
 exact Kx j J g D L λU V N c=>{_,G,N,c,M}
end
section
variable{X:Cx}{x:Str}{p pos:Pos}{e:Expr}{es:List Expr}{t:TA}{T:String}{r:List V->Hp->VK->Prop}
theorem bB(hc:d1 X (.type T) r)(j:Gl X x)(l:X.mg x=τ)(o:é x=ρ (.type T))(ha:PA X (e::es) t)(hn:x≠"__name__":=by decide)(g:(x==("__debug__":Str))=false:=by decide)
 (he:starEach (e::es) X.5=(false,eval e X.5)::starEach es X.5:=by rfl) (hpl:(backTo pos (starEach es X.5)).any (·.1)=false:=by rfl):PE X (.Call (.Name x p) (e::es) [] pos) (P8 r t):=by
 refine{?_};intro a s σ H Q I h;refine ģ (gA I j l o ?_ hn g);exact Ξ (bG (ha pos a s σ H _ I h) λb c ⟨d,f,i,k,m⟩=>hc a c σ f d b Q i k m) he hpl
end
section
variable{X:Cx}{pins:List (Addr×Obj)}{σ:St}{H:Hp}{s:Shared}{A:Around}{E Q:Value->Shared->Prop}{c:Value}{b:Bool}
theorem oP(I:Inv X pins σ H s)(g:RelV x u)(ty:gY X.K H x t)(e:weH X.K t c=ρ b)(h:∀tk,Q (.bool b) {s with toks:=tk}) :
 wpAny (model X.prog X.w) A (call (.builtin "isinstance") [u,c]) Q E s:=by
 cases ty with
 |non=>cases(show u=ā from g);exact Ğ PySem.W.kitx_none I.fP ÿ e (λz=>nomatch z) h
 |bl y=>cases(show u=wgl y from g);exact Ğ PySem.W.kitx_bool I.fP ÿ e (λz=>nomatch z) h
 |int i=>let{t,q}:=(show ∃t,u=Ψ i t from g);cases q;exact Ğ PySem.W.kitx_int I.fP ÿ e (λz=>nomatch z) h
 |str y=>let{t,q}:=(show ∃t,u=Κ y t from g);cases q;exact Ğ PySem.W.kitx_str I.fP ÿ e (λz=>nomatch z) h
 |flt y=>let{t,q}:=(show ∃t,u=whg y t from g);cases q;exact Ğ PySem.W.kitx_float I.fP ÿ e (λz=>nomatch z) h
 |@lst a k d=>
  cases(show u=Æ a from g)
  let{_,_,n,_,f}:=(show bq X.prog X.w H s.heap a (.lst k) from I.aT a _ d)
  exact Ğ wh7 I.fP {_,f,rfl} e (λz=>nomatch z) h
 |@frz a ob k d=>
  cases(show u=Æ a from g)
  let{_,_,_,n,_,f}:=(show bq X.prog X.w H s.heap a (.frz ob (.lst k)) from I.aT a _ d)
  exact Ğ wh7 I.fP {_,f,rfl} e (λz=>nomatch z) h
 |@tup a k d=>
  cases(show u=Æ a from g)
  let{_,_,_,p}:=(show bq X.prog X.w H s.heap a (.tup k) from I.aT a _ d)
  let{o,f,l,_}:=p
  exact Ğ PySem.W.kitx_tuple I.fP ⟨o,f,l⟩ e (λz=>nomatch z) h
 |@dK a j d=>
  cases(show u=Æ a from g)
  let{_,_,B,_,p}:=(show bq X.prog X.w H s.heap a (.dK j) from I.aT a _ d)
  let{o,m,r,f,l,_}:=p
  exact Ğ wh8 I.fP ⟨o,f,l.1⟩ e (λz=>nomatch z) h
 |@dT a j d=>
  cases(show u=Æ a from g)
  let{_,_,k,_,o,m,r,f,l,_}:=(show bq X.prog X.w H s.heap a (.dT j) from I.aT a _ d)
  exact Ğ wh8 I.fP ⟨o,f,l.1⟩ e (λz=>nomatch z) h
 |@ins a C D fs d cl ha hn jN v=>
  cases(show u=Æ a from g)
  let{G,O,_}:=qV I.aT d
  let{L,J,_}:=O.look
  exact Ğ (PySem.W.kitx_own (cl.get _) cl.hd ha hn jN v) I.fP J e (λz=>nomatch z) h
end
section
variable{X:Cx}
theorem d9:d1 X (.builtin "isinstance") (λxs H Q=>∃x T t b,xs=[x,.ty T]/\gY X.K H x t/\weH X.K t (.type T)=ρ b/\Q (.bl b) H):=by
 intro a s σ H xs g Q I r h
 let{x,T,t,b,rfl,ty,e,q}:=h
 let{u,i,rfl,c,d}:=vals2 r
 cases d;exact oP I c ty e λf=>{.bl b,H,I.tok f,rfl,q}
end
end L2
open L2
namespace Bs
section
variable{ss:List Str}{E:Str->List Str}
noncomputable def cb(r:Str)(n:Nat):Str:=ą r (ρ (n:Int)) τ
noncomputable def EH(ps:List Str)(r:Str):Nat:=((Ü (r.9+1)).find? λn=>decide (cb r n∈ps)).getD 0
noncomputable def lend(ps:List Str)(r:Str):Str:=cb r (EH ps r)
theorem sq(g:cb r n∈ps)(j:∀m,m<n->cb r m∉ps)(l:n<=r.9):EH ps r=n:=by
 unfold EH
 have e:(Ü (r.9+1)).find? (λn=>decide (cb r n∈ps))=ρ n:=by
  grind [List.find?_range_eq_some]
 rw[e];rfl
theorem y7{P:Nat->Prop}:∀{ts:List Str},(∀t∈ts,∃c,t={#[c]}/\P c)->(ts.map (·.9)).sum=ts.9
 |[],_=>rfl
 |t::ts,h=>by
  let{c,rfl,_}:=h t (Ø ..)
  rw[Ñ,ï,y7 λt a=>h t (Ô _ a),õ];show 1+ts.9=_
  lia
theorem sr{α β:Type}(f:α->List β)(b:Nat):∀(g:List α),(∀c∈g,(f c).9<=b)->(g.flatMap f).9<=g.9*b
 |[],_=>à _
 |c::g,h=>by
  rw[wdQ,Ì,õ,wgS];have:=sr f b g λd hd=>h d (Ô _ hd);have:=h c (Ø ..)
  lia
noncomputable def aB(m:List (Str×Int)):List (Key×V):=m.map λp=>((Ã p.1:Key),V.int p.2)
theorem dn(m:List (Str×Int)):(aB m).9=m.9:=À ..
theorem zV(m:List (Str×Int)):(aB m).map (λg=>kV g.1)=(m.map (·.1)).map V.str:=by
 unfold aB;rw[Ê,Ê];rfl
noncomputable def fK:List (Str×Int)->Str->Option Int
 |[],_=>τ
 |(j,u)::m,k=>if j=k then ρ u else fK m k
theorem bT(k:Str):∀m:List (Str×Int),cF (aB m) (Ã k:Key)=(fK m k).map V.int
 |[]=>rfl
 |(j,u)::m=>by
  unfold fK
  by_cases h:j=k
  .rw[if_pos h,h];exact eE rfl
  .rw[if_neg h,<-bT k m];exact eF (λz=>h (Ģ z))
theorem iX:∀{m:List (Str×Int)},k∉m.map (·.1)->fK m k=τ
 |[],_=>rfl
 |(j,u)::m,h=>by
  unfold fK;rw[if_neg (λz=>h (by rw[z];exact Ø ..))];exact iX λz=>h (Ô _ z)
theorem y8:∀{m:List (Str×Int)},k∉m.map (·.1)->(aB m).map (λg=>if g.1=(Ã k:Key) then(g.1,x) else g)=aB m
 |[],_=>rfl
 |(j,u)::m,h=>by
  show (if (Ã j:Key)=Ã k then((Ã j:Key),x) else(Ã j,V.int u))::_=(Ã j,V.int u)::_;rw[if_neg (λz=>h (by rw[Ģ z];exact Ø ..))];congr 1;exact y8 λz=>h (Ô _ z)
noncomputable def jQ(q:Str×Str):List V:=[.str q.1,.str q.2]
noncomputable def mZ(q:Str×Str):V×V:=(.str q.1,.str q.2)
theorem Bm(g:List (Str×Str)):(g.map mZ).map jG=g.map jQ:=by
 rw[Ê];rfl
structure da(H:Hp)(l:Addr)(rs:List Addr)(qs:List (Str×Str)):Prop where
 l:H l=ρ (.lst (rs.map V.ref))
 t:bX H rs (qs.map jQ)
theorem da.len{H:Hp}{l:Addr}{g:List Addr}{j:List (Str×Str)}(r:da H l g j):g.9=j.9:=by rw[r.t.1,À]
theorem y9(ls:List Str)(g:List (Str×Str)):((g.map mZ).filter λq=>mL q.2 (ls.map V.str)).map jG=(g.filter λq=>decide (q.2∈ls)).map jQ:=by
 induction g with
 |nil=>rfl
 |cons q g a=>
  have e:mL (mZ q).2 (ls.map V.str)=decide (q.2∈ls):=fG q.2 ls;rw[Ñ]
  by_cases h:q.2∈ls
  .rw[ė (by rw[e];exact decide_eq_true h),ė (by exact decide_eq_true h),Ñ,Ñ,a];rfl
  .rw[Ī (by rw[e];simpa using h),Ī (by simpa using h),a]
def KG(m:List (Str×Int))(ls:List Str)(f:Str->Int):Prop:=∀p∈ls,fK m p=ρ (f p)
theorem su(m:List (Str×Int)):ry (aB m)=true:=ø.mpr λa h=>by
 let{p,1}:=Ç.mp h
 rfl
theorem kP(h:k∉m.map (·.1))(v:Int):putK (aB m) (Ã k:Key) (.int v)=aB (m++[(k,v)]):=by
 rw[cR _ (by rw[bT,iX h];rfl)];unfold aB;rw[Ò];rfl
theorem vm{f:Str->Int}:∀{os:List Str},k∈os->fK (os.map λp=>(p,f p)) k=ρ (f k)
 |[],h=>nomatch h
 |j::os,h=>by
  show (if j=k then ρ (f j) else fK (os.map λp=>(p,f p)) k)=_
  by_cases e:j=k
  .rw[if_pos e,e]
  .rw[if_neg e];rcases æ.mp h with z |z
   .grind
   .exact vm z
theorem wL{α:Type}{a b:α->Int}:∀{l:List α},(∀x∈l,a x<=b x)->(l.map a).sum<=(l.map b).sum
 |[],_=>μ _
 |x::l,h=>by
  rw[Ñ,Ñ,ï,ï];exact Int.add_le_add (h x (Ø ..)) (wL λy c=>h y (Ô _ c))
theorem ml{α:Type}{a:α->Int}{l:List α}(h:∀x∈l,0<=a x):0<=(l.map a).sum:=by
 have:=wL (a:=λ_=>(0:Int)) (b:=a) h
 have e:∀l:List α,(l.map λ_=>(0:Int)).sum=0:=by
  intro l
  induction l with
  |nil=>rfl
  |cons x l c=>grind
 rw[e]at this;exact this
theorem ya{α β:Type}(f:α->List β)(h:β->Int):∀l:List α,((l.flatMap f).map h).sum=(l.map λx=>((f x).map h).sum).sum:=by intro l;induction l<;>grind
noncomputable def QM:V->Bool
 |.int _=>true
 |_=>false
theorem sv{α β:Type}{f:α->Option β}:∀{l:List α},(∀a∈l,f a=τ)->l.filterMap f=[]:=by intro l;induction l<;>grind [Ø,Ô]
noncomputable def eh(q:Str×Nat):V×V:=(.str q.1,.int (q.2:Int))
noncomputable def vn(a:Addr):List (Str×V):=[("homes",.ref a)]
noncomputable def sx(a b:Addr):List (Str×V):=[("homes",.ref a),("weights",.ref b)]
noncomputable def zW(a b c:Addr):List (Str×V):=[("homes",.ref a),("weights",.ref b),("lines",.ref c)]
theorem JF(a:Addr):cm "homes" (.ref a) []=vn a:=rfl
theorem EI(a b:Addr):cm "weights" (.ref b) (vn a)=sx a b:=by
 show (if ("homes":Str)="weights" then(("homes":Str),V.ref b)::[] else(("homes":Str),V.ref a)::cm "weights" (.ref b) [])=_;rw[if_neg ∅];rfl
theorem Bn(a b c:Addr):cm "lines" (.ref c) (sx a b)=zW a b c:=by
 show (if ("homes":Str)="lines" then(("homes":Str),V.ref c)::[(("weights":Str),V.ref b)] else(("homes":Str),V.ref a)::(if ("weights":Str)="lines" then(("weights":Str),V.ref c)::[] else(("weights":Str),V.ref b)::cm "lines" (.ref c) []))=_;rw[if_neg ∅,if_neg ∅];rfl
theorem et(a b c:Addr):(zW a b c).lookup ("homes":Str)=ρ (.ref a):=by
 rw[<-Bn,aD,if_neg ∅,<-EI,aD,if_neg ∅,<-JF,aD,if_pos rfl]
theorem cf(a b c:Addr):(zW a b c).lookup ("weights":Str)=ρ (.ref b):=by
 rw[<-Bn,aD,if_neg ∅,<-EI,aD,if_pos rfl]
theorem bE(a b c:Addr):(zW a b c).lookup ("lines":Str)=ρ (.ref c):=by
 rw[<-Bn,aD,if_pos rfl]
noncomputable def aj(ls:List Str)(f:Str->Int):List Str:=ls.filter λp=>decide (0<f p)
theorem pB:∀{hs:List Str} {j:Nat} (h:j<hs.9),hs.idxOf hs[j]<=j
 |[],j,h=>absurd h (Γ _)
 |a::hs,0,h=>by
  show (a::hs).idxOf a<=0;rw[wgq];exact Å 0
 |a::hs,j+1,h=>by
  have b:j<hs.9:=by simpa using h
  show (a::hs).idxOf hs[j]<=j+1;rw[whF];have:=pB b
  cases(a==hs[j]) with
  |true=>grind
  |false=>grind
theorem oQ{hs:List Str}{k:Str}(h:k∈hs):hs[hs.idxOf k]?=ρ k/\∀j:Nat,j<hs.idxOf k->hs[j]?≠ρ k:=by grind [Ä,Î,pB]
noncomputable def dO(i:Int)(n:Nat):Bool:=decide (0<=i)&&decide (i<(n:Int))
noncomputable def aZ(ws:List Int)(qs:List (Str×Nat)):Int:=(qs.map λq=>ws.getD q.2 0).sum
noncomputable def dI(ws:List Int)(many:Int)(qs:List (Str×Nat))(w:Int):Bool:=!qs.isEmpty&&(decide (1<=w)&&decide (many*w<=aZ ws qs))
noncomputable def b0{α:Type}(ns:List Int)(l:List α):List α:=b6 (λi=>decide ((i:Int)∈ns)) 0 l
noncomputable def aX{α:Type}(ns:List Int)(l:List α):List α:=b6 (λi=>!decide ((i:Int)∈ns)) 0 l
noncomputable def eI(d t:Nat)(l:List (Str×Nat)):List (Str×Nat):=l.flatMap λq=>if q.2=d then[q,(q.1,t)] else[q]
noncomputable def d2(ws:List Int)(lns:List (List (Str×Nat)))(many qz:Int)(ns:List Int)(w:Int):Bool:=
 dO qz lns.length&&(ns.all (λi=>dO i (lns.getD qz.toNat []).9)&&(dI ws many (b0 ns (lns.getD qz.toNat [])) w&&dI ws many (aX ns (lns.getD qz.toNat [])) (ws.getD qz.toNat 0-w)))
noncomputable def df(hs:List Str)(d:Nat):List Str:=hs++[hs.getD d ""]
noncomputable def cj(ws:List Int)(d:Nat)(w:Int):List Int:=(ws++[ws.getD d 0-w]).set d w
noncomputable def gF(lns:List (List (Str×Nat)))(d:Nat)(ns:List Int):List (List (Str×Nat)):=((lns++[aX ns (lns.getD d [])]).set d (b0 ns (lns.getD d []))).map (eI d lns.9)
theorem oR(d t:Nat):∀l:List (Str×Nat),(eI d t l).9<=2*l.9
 |[]=>Å _
 |q::l=>by
  have:=oR d t l;show ((if q.2=d then[q,(q.1,t)] else[q])++eI d t l).9<=2*(l.9+1);rw[Ì];split
  .grind
  .grind
theorem sy(d t:Nat)(l:List (Str×Nat))(q:Str×Nat):eI d t (l++[q])=eI d t l++(if q.2=d then[q,(q.1,t)] else[q]):=by simp_all [eI,wgF,congr,ý]
structure JG(hs:List Str)(ws:List Int)(lns:List (List (Str×Nat))):Prop where
 w:ws.9=hs.9
 l:lns.9=hs.9
 e:∀l∈lns,∀q∈l,q.2<hs.9
 n:hs.9<=1000
 m:∀l∈lns,l.9<=5000
theorem n7(hi:i<ws.9)(g:i≠d):(cj ws d w).getD i 0=ws.getD i 0:=by grind [cj,ο,Ĉ]
theorem pC(hd:d<ws.9):(cj ws d w).getD d 0=w:=by
 unfold cj;rw[Õ,ξ (by rw[Ì];lia)];rfl
theorem pD(hd:d<ws.9):(cj ws d w).getD ws.length 0=ws.getD d 0-w:=by
 unfold cj;rw[Õ,ο (),ĉ (Å _),ħ];rfl
theorem zX(ws:List Int)(d:Nat)(w:Int):(cj ws d w).9=ws.9+1:=by
 unfold cj;rw[Ų,Ì];rfl
theorem c9(ws:List Int)(q:Str×Nat)(g:List (Str×Nat)):aZ ws (q::g)=ws.getD q.2 0+aZ ws g:=rfl
theorem sA(ws:List Int)(ps g:List (Str×Nat)):aZ ws (ps++g)=aZ ws ps+aZ ws g:=by
 unfold aZ;rw[Ò,whG]
theorem lA(hd:d<ws.9):∀g:List (Str×Nat),(∀q∈g,q.2<ws.9)->aZ (cj ws d w) (eI d ws.length g)=aZ ws g
 |[],_=>rfl
 |q::g,h=>by
  have c:=lA (w:=w) hd g λq b=>h q (Ô _ b);have b:=h q (Ø ..);have e:eI d ws.length (q::g)=(if q.2=d then[q,(q.1,ws.9)] else[q])++eI d ws.length g:=rfl;rw[e,sA,c,c9]
  by_cases a:q.2=d
  .rw[if_pos a,c9,c9,a,pC hd];have f:(cj ws d w).getD ((q.1,ws.9):Str×Nat).2 0=ws.getD d 0-w:=pD hd;rw[f];show w+(ws.getD d 0-w+0)+_=_
   lia
  .rw[if_neg a,c9,n7 b a];show ws.getD q.2 0+0+_=_
   lia
theorem Bo:∀(ws:List Int) (d:Nat) (w:Int),d<ws.9->(ws.set d w).sum=ws.sum-ws.getD d 0+w
 |[],_,_,h=>absurd h (Γ _)
 |x::ws,0,w,_=>by
  show w+ws.sum=x+ws.sum-x+w
  lia
 |x::ws,d+1,w,h=>by
  have a:=Bo ws d w (by simpa using h);show x+(ws.set d w).sum=x+ws.sum-ws.getD d 0+w;rw[a]
  lia
theorem zY(hd:d<ws.9):(cj ws d w).sum=ws.sum:=by grind [cj,Bo,Ì,Ĉ]
structure hO(many:Int)(hs:List Str)(ws:List Int)(lns:List (List (Str×Nat))):Prop where
 w:ws.9=hs.9
 l:lns.9=hs.9
 p:∀w∈ws,1<=w
 e:∀l∈lns,∀q∈l,q.2<hs.9
 b:∀(i:Nat) (l:List (Str×Nat)),lns[i]?=ρ l->many*ws.getD i 0<=aZ ws l
theorem zZ(h:q∈eI d t l):q.2=t\/q∈l:=by grind [eI]
theorem sC(h:dI ws many g w=true):g≠[]/\1<=w/\many*w<=aZ ws g:=by simp_all [dI,Ď,of_decide_eq_true]
noncomputable def pre(ls:List Int)(k:Nat):Int:=(ls.take k).sum
theorem Pa{a b:Prop}[Decidable a][Decidable b]{α:Type}{x y:α}(h:a↔b):(if a then x else y)=if b then x else y:=by simp_all [if_pos,if_neg]
noncomputable def gG(p:Str)(z:Str×Nat):List Str->List (List (Str×Nat))->Nat
 |h::hs,l::lns=>(if h=p then l.count z else 0)+gG p z hs lns
 |_,_=>0
theorem vo(p:Str)(z:Str×Nat)(h:Str)(l:List (Str×Nat)):∀(hs:List Str) (lns:List (List (Str×Nat))),hs.9=lns.9->gG p z (hs++[h]) (lns++[l])=gG p z hs lns+(if h=p then l.count z else 0)
 |[],[],_=>by
  show (if h=p then l.count z else 0)+0=0+_
  lia
 |[],_::_,e=>by cases e
 |_::_,[],e=>by cases e
 |x::hs,y::lns,e=>by
  show (if x=p then y.count z else 0)+gG p z (hs++[h]) (lns++[l])=_;rw[vo p z h l hs lns (by simpa using e)];show _=(if x=p then y.count z else 0)+gG p z hs lns+_
  lia
theorem yb(p:Str)(z:Str×Nat)(g:List (Str×Nat)):∀(hs:List Str) (lns:List (List (Str×Nat))) (d:Nat),hs.9=lns.9->d<lns.9 ->
 gG p z hs (lns.set d g)+(if hs.getD d ""=p then(lns.getD d []).count z else 0)=gG p z hs lns+(if hs.getD d ""=p then g.count z else 0)
 |_,[],d,_,h=>absurd h (Γ _)
 |[],_::_,_,e,_=>by cases e
 |x::hs,y::lns,0,_,_=>by
  show (if x=p then g.count z else 0)+gG p z hs lns+(if x=p then y.count z else 0)=(if x=p then y.count z else 0)+gG p z hs lns+(if x=p then g.count z else 0)
  lia
 |x::hs,y::lns,d+1,e,h=>by
  have a:=yb p z g hs lns d (by simpa using e) (by simpa using h);show (if x=p then y.count z else 0)+gG p z hs (lns.set d g)+(if hs.getD d ""=p then(lns.getD d []).count z else 0)=(if x=p then y.count z else 0)+gG p z hs lns+(if hs.getD d ""=p then g.count z else 0)
  lia
theorem yc(p:Str){f:List (Str×Nat)->List (Str×Nat)}:∀(hs:List Str) (lns:List (List (Str×Nat))),(∀l∈lns,(f l).count z=l.count z')->gG p z hs (lns.map f)=gG p z' hs lns
 |_,[],_=>by cases ‹List Str›<;>rfl
 |[],_::_,_=>rfl
 |x::hs,y::lns,h=>by
  show (if x=p then(f y).count z else 0)+gG p z hs (lns.map f)=(if x=p then y.count z' else 0)+gG p z' hs lns;rw[yc p hs lns λl hl=>h l (Ô _ hl),h y (Ø ..)]
theorem cnt_cons(q z:Str×Nat)(l:List (Str×Nat)):(q::l).count z=l.count z+if q=z then 1 else 0:=by simp_all [List.count_cons,if_pos,beq_self_eq_true,if_neg]
theorem sD(f:Nat->Bool)(z:Str×Nat):∀(k:Nat) (l:List (Str×Nat)),(b6 f k l).count z+(b6 (λi=>!f i) k l).count z=l.count z
 |_,[]=>rfl
 |k,q::l=>by
  have a:=sD f z (k+1) l;show (if f k then q::b6 f (k+1) l else b6 f (k+1) l).count z+(if !f k then q::b6 (λi=>!f i) (k+1) l else b6 (λi=>!f i) (k+1) l).count z=_;rw[cnt_cons]
  cases f k with
  |true=>
   grind
  |false=>
   grind
theorem pE(hd:d<t)(w:Str)(e:Nat):∀l:List (Str×Nat),(∀q∈l,q.2<t)->(eI d t l).count (w,e)=l.count (w,if e=t then d else e)
 |[],_=>rfl
 |q::l,h=>by
  have f:=pE hd w e l λq c=>h q (Ô _ c);have c:=h q (Ø ..);have g:eI d t (q::l)=(if q.2=d then[q,(q.1,t)] else[q])++eI d t l:=rfl;rw[g,List.count_append,f,cnt_cons]
  let{a,b}:=q
  have c:b<t:=c;show (if b=d then[(a,b),(a,t)] else[(a,b)]).count (w,e)+_=_
  by_cases i:b=d
  .grind
  .grind
def DE(B:Str->List (Str×Str))(hs:List Str)(lns:List (List (Str×Nat))):Prop:=
 ∀(p w:Str) (e:Nat),gG p (w,e) hs lns=if e<hs.9/\p∈hs/\(w,hs.getD e "")∈B p then 1 else 0
theorem ic{f:Str->Option (Str×Str)}(g:∀r x,f r=ρ x->x.1=r):∀L:List Str,((L.filterMap f).map (·.1)).Sublist L
 |[]=>.slnil
 |r::L=>by
  rw[Ġ]
  cases e:f r with
  |none=>exact(ic g L).cons _
  |some x=>
   show (x.1::(L.filterMap f).map (·.1)).Sublist _;rw[g r x e];exact(ic g L).cons₂ _
theorem wM:∀{l:List (Str×Str)},(l.map (·.1)).Nodup->l.Nodup:=by intro l;induction l<;>grind [ĸ,ó]
theorem n8{α:Type}(f:α->Int):∀l:List α,(∀x∈l,0<=f x)->(l.map f).sum=((l.filter λx=>decide (0<f x)).map f).sum:=by intro l;induction l<;>grind [Ô,Ø,ė,decide_eq_true,Ī,decide_eq_false]
theorem vp{f:Str->Int}(h:∀p∈ls,0<=f p):((aj ls f).map f).sum=(ls.map f).sum:=(n8 f ls h).symm
noncomputable def cN(ds:List Nat)(qs:List (Str×Nat)):List (Str×Nat):=qs.filter λq=>decide (q.2∈ds)
theorem EJ(j:List Nat)(g:List (Str×Nat)):(cN j g).9<=g.9:=ľ _ _
noncomputable def sE(lns:List (List (Str×Nat)))(many:Int)(ds:List Nat):List Nat:=ds.filter λd=>decide (many<=((cN ds (lns.getD d [])).9:Int))
def Bp(lns:List (List (Str×Nat)))(many:Int)(S:List Nat):Prop:=∀d∈S,d<lns.9/\many<=((cN S (lns.getD d [])).9:Int)
theorem EK(e:sE lns many g≠g):(sE lns many g).9<g.9:=by
 have a:(sE lns many g).Sublist g:=Ζ;exact Nat.lt_of_le_of_ne a.length_le λz=>e (a.eq_of_length z)
theorem mm:∀g:List (Str×Nat),(∀q∈g,ws.getD q.2 0<=h)->aZ ws g<=(g.9:Int)*h
 |[],_=>by show (0:Int)<=(0:Nat)*h;simp
 |q::g,a=>by
  have c:=mm g λp b=>a p (Ô _ b);have d:=a q (Ø ..);rw[c9,õ,Λ,Ν];show _<=_+1*h
  lia
theorem iC{ws:List Int}{i:Nat}(h:i<ws.9):ws.getD i 0∈ws:=by
 grind
theorem vq(f:Nat->Bool)(ws:List Int):∀(k:Nat) (g:List (Str×Nat)),aZ ws (b6 f k g)=(((wg2 k g.9).filter f).map λi=>ws.getD (g.getD (i-k) ("",0)).2 0).sum
 |_,[]=>rfl
 |k,q::g=>by
  have a:=vq f ws (k+1) g
  have e:((wg2 (k+1) g.9).filter f).map (λi=>ws.getD ((q::g).getD (i-k) ("",0)).2 0)=((wg2 (k+1) g.9).filter f).map λi=>ws.getD (g.getD (i-(k+1)) ("",0)).2 0:=ü λi hi=>by
   have:=(wh9.mp (Ý.mp hi).1).1;rw[show i-k=(i-(k+1))+1 by lia];rfl
  show aZ ws (if f k then q::b6 f (k+1) g else b6 f (k+1) g)=_;rw[õ,wht]
  cases b:f k with
  |true=>
   rw[if_pos rfl,ė b,Ñ,e,c9,a,ï,ħ];rfl
  |false=>
   rw[if_neg ⋯,Ī (by grind),e,a]
theorem A0{a b:List Nat}(na:a.Nodup)(g:b.Nodup)(h:∀x,x∈a↔x∈b):a.Perm b:=by grind [whH]
theorem mn{f:Nat->Int}:∀ns:List Nat,(∀n∈ns,f n<=h)->(ns.map f).sum<=(ns.9:Int)*h
 |[],_=>by show (0:Int)<=(0:Nat)*h;simp
 |n::ns,a=>by
  have c:=mn ns λp b=>a p (Ô _ b);have d:=a n (Ø ..);rw[Ñ,ï,õ,Λ,Ν];show _<=_+1*h
  lia
theorem sF{f:Nat->Int}:∀ns:List Nat,(∀n∈ns,1<=f n)->ns≠[]->1<=(ns.map f).sum
 |[],_,h=>absurd rfl h
 |[n],a,_=>by
  have:=a n (Ø ..);show 1<=f n+0
  lia
 |n::m::ns,a,_=>by
  have c:=a n (Ø ..);have d:=sF (m::ns) (λp b=>a p (Ô _ b)) (λz=>nomatch z);rw[Ñ,ï]
  lia
noncomputable def nI(ds:List Nat):List Int:=ds.map λn:Nat=>(n:Int)
theorem KH{g:List Nat}{e:Nat}:(e:Int)∈nI g↔e∈g:=by grind [nI]
theorem cX(g:List Nat):(nI g).9=g.9:=À _
theorem A1{g:List Nat}{i n:Nat}(h:g[i]?=ρ n):((nI g).map V.int)[i]?=ρ (.int (n:Int)):=by
 unfold nI;rw[È,È,h];rfl
theorem vr(a b:List Nat):nI (a++b)=nI a++nI b:=Ò
noncomputable def cy(ED:List Str)(f:Str->Int):Str->Int:=λp=>if p∈ED then f p else 0
theorem sG{α:Type}{f g:α->Int}:∀l:List α,(∀x∈l,f x<=g x)->(l.map f).sum<=(l.map g).sum
 |[],_=>μ _
 |x::l,h=>by
  have:=h x (Ø ..);have:=sG l λy a=>h y (Ô _ a);rw[Ñ,Ñ,ï,ï]
  lia
theorem sH{α:Type}{f:α->Int}{x:α}:∀l:List α,(∀x∈l,0<=f x)->x∈l->0<f x->0<(l.map f).sum
 |y::l,h,a,c=>by
  have d:=h y (Ø ..);have hn:=ml λz b=>h z (Ô _ b);rw[Ñ,ï];rcases æ.mp a with e |a
  .rw[<-e];lia
  .have:=sH l (λz b=>h z (Ô _ b)) a c
   lia
theorem vt:∀(a b:List Int),mP (a.map V.int) (b.map V.int)=decide (a=b)
 |[],[]=>rfl
 |[],_::_=>rfl
 |_::_,[]=>rfl
 |x::a,y::b=>by
  have d:=vt a b;show (oz (.int x) (.int y)&&mP (a.map V.int) (b.map V.int))=_;rw[d]
  by_cases h:x=y
  .subst h
   by_cases c:a=b
   .subst c;have:oz (.int x) (.int x)=true:=by simp[oz]
    rw[this,decide_eq_true rfl,decide_eq_true rfl];rfl
   .rw[decide_eq_false c,ŝ,decide_eq_false λz=>c (wgy z).2]
  .have:oz (.int x) (.int y)=false:=by simp[oz,h]
   rw[this,Š,decide_eq_false λz=>h (wgy z).1]
theorem vv{p:V->Bool}{f:Nat->Bool}(h:∀n:Nat,p (.int (n:Int))=f n):∀g:List Nat,((nI g).map V.int).filter p=(nI (g.filter f)).map V.int:=by intro n;induction n<;>grind [nI,ė,Ī]
theorem wN(h:x∈(nI g).map V.int):∃n∈g,x=.int (n:Int):=by grind [nI]
theorem yd(n:Nat):((Ü n).map λi=>V.int (i:Nat))=(nI (Ü n)).map V.int:=by
 unfold nI;rw[Ê];rfl
noncomputable def dB(rs:List Nat):List (Key×V):=rs.map λn:Nat=>((å (n:Int):Key),V.bl true)
theorem A2(e:Nat):∀g:List Nat,cF (dB g) (å (e:Int):Key)=if e∈g then ρ (.bl true) else τ
 |[]=>rfl
 |r::g=>by
  have a:=A2 e g
  by_cases h:r=e
  .subst h;rw[if_pos (Ø ..)];exact eE (p:=((å (r:Int):Key),V.bl true)) (r:=dB g) rfl
  .have hn:¬(å (r:Int):Key)=å (e:Int):=λz=>h (by grind);rw[show dB (r::g)=((å (r:Int):Key),V.bl true)::dB g from rfl,eF hn,a]
   by_cases b:e∈g
   .grind
   .grind
theorem KI{e:Nat}{g:List Nat}(h:e∉g):putK (dB g) (å (e:Int):Key) (.bl true)=dB (g++[e]):=by
 rw[cR _ (by rw[A2,if_neg h])];unfold dB;rw[Ò];rfl
theorem HP(g:List Nat):((dB g).map λj=>kV j.1)=(nI g).map V.int:=by
 unfold dB nI;rw[Ê,Ê];rfl
theorem HQ(h:g≠[]):∃(z:Nat) (ys:List Nat),g=ys++[z]/\((nI g).map V.int)[((nI g).map V.int).9-1]?=ρ (.int (z:Int))/\((nI g).map V.int).dropLast=(nI ys).map V.int:=by
 refine{g.getLast h,g.dropLast,(wcp h).symm,?_,?_}
 .have e:nI g=nI g.dropLast++[((g.getLast h:Nat):Int)]:=by
   conv=>lhs;rw[<-wcp h]
   exact vr _ _
  rw[e,Ò,Ì];show (_++[V.int _])[_+1-1]?=_;rw[Nat.add_sub_cancel,ĉ (Å _),ħ];rfl
 .unfold nI;rw[<-wf7,<-wf7]
noncomputable def dR(many:Int)(p:Nat->Int)(n:Nat):List (Key×V):=(Ü n).map λi:Nat=>((å (p i%many):Key),V.int (i:Int))
theorem Ce{κ:Type}[DecidableEq κ]{k:κ}{v:V}:∀{kvs:List (κ×V)},cF kvs k=ρ v->(k,v)∈kvs:=by intro kvs;induction kvs<;>grind [DZ,eE,Ø,eF,Ô]
theorem EL(many:Int)(p:Nat->Int)(n:Nat)(r:Int):(cF (dR many p n) (å r:Key)=τ/\∀i,i<n->p i%many≠r)\/∃i,i<n/\p i%many=r/\cF (dR many p n) (å r:Key)=ρ (.int (i:Int)):=by
 cases h:cF (dR many p n) (å r:Key) with
 |none=>
  refine .inl {rfl,λi hi e=>?_};refine Ep h (Ç.mpr {((å (p i%many):Key),V.int (i:Int)),Ç.mpr {i,Ą.mpr hi,rfl},?_});show (å (p i%many):Key)=_;rw[e]
 |some v=>
  let{i,hi,e}:=Ç.mp (Ce h)
  have a:p i%many=r:=Sum.inl.inj (Ű e).1;have b:V.int (i:Int)=v:=(Ű e).2;exact .inr {i,Ą.mp hi,a,by rw[b]}
theorem KJ{p:Nat->Int}(h:cF (dR many p n) (å (p n%many):Key)=τ):putK (dR many p n) (å (p n%many):Key) (.int (n:Int))=dR many p (n+1):=by
 rw[cR _ h];unfold dR;rw[wdv,Ò];rfl
theorem KL(many:Int)(p:Nat->Int)(n:Nat):(dR many p n).9=n:=by unfold dR;rw[À,Ă]
theorem nodup_map_on{α β:Type}{f:α->β}:∀{l:List α},l.Nodup->(∀a∈l,∀b∈l,f a=f b->a=b)->(l.map f).Nodup:=by intro l;induction l<;>grind [ĸ,Ô,Ø]
theorem Bq(ns:List Nat)(j:Nat):(nI ns).take j=nI (ns.take j):=by unfold nI;rw[ς]
theorem HR(ns:List Nat)(j:Nat):(nI ns).drop j=nI (ns.drop j):=by unfold nI;rw[wdX]
noncomputable def restOf(m i0:Nat):List Nat:=(Ü m).filter λn=>decide (n≠i0)
noncomputable def numsOf(m i0 k:Nat):List Nat:=i0::(restOf m i0).take k
theorem A3(m i0 k:Nat):(numsOf m i0 k).Nodup:=by
 unfold numsOf;refine ó.mpr {λh=>?_,(whu.filter _).sublist (ġ _ _)};have:=of_decide_eq_true (Ý.mp ((ġ _ _).subset h)).2;exact this rfl
theorem wO(h:i0<m):∀n∈numsOf m i0 k,n<m:=λn hn=>by
 rcases æ.mp hn with rfl |hn
 .exact h
 .exact Ą.mp (Ý.mp ((ġ _ _).subset hn)).1
theorem KQ(ws:List Int){g:List (Str×Nat)}{n:Nat}(h:n<g.9):(g.map λq=>ws.getD q.2 0).getD n 0=ws.getD (g.getD n ("",0)).2 0:=by
 rw[Õ,È,Ä h,Õ (l:=g),Ä h];rfl
noncomputable abbrev DF:=Nat×List Nat×Int
noncomputable def vx(a:Addr):List (Str×V):=[("weights",.ref a)]
noncomputable def sI(a b:Addr):List (Str×V):=[("weights",.ref a),("splits",.ref b)]
noncomputable def vy(a b c:Addr):List (Str×V):=[("weights",.ref a),("splits",.ref b),("kept",.ref c)]
noncomputable def wQ(a b c d:Addr):List (Str×V):=[("weights",.ref a),("splits",.ref b),("kept",.ref c),("last",.ref d)]
theorem Nm(a:Addr):cm "weights" (.ref a) []=vx a:=rfl
theorem Nn(a b:Addr):cm "splits" (.ref b) (vx a)=sI a b:=by
 show (if ("weights":Str)="splits" then _ else(("weights":Str),V.ref a)::cm "splits" (.ref b) [])=_;rw[if_neg ∅];rfl
theorem JH(a b c:Addr):cm "kept" (.ref c) (sI a b)=vy a b c:=by
 show (if ("weights":Str)="kept" then _ else(("weights":Str),V.ref a)::(if ("splits":Str)="kept" then _ else(("splits":Str),V.ref b)::cm "kept" (.ref c) []))=_;rw[if_neg ∅,if_neg ∅];rfl
theorem ER(a b c d:Addr):cm "last" (.ref d) (vy a b c)=wQ a b c d:=by
 show (if ("weights":Str)="last" then _ else(("weights":Str),V.ref a)::(if ("splits":Str)="last" then _ else(("splits":Str),V.ref b)::(if ("kept":Str)="last" then _ else(("kept":Str),V.ref c)::cm "last" (.ref d) [])))=_;rw[if_neg ∅,if_neg ∅,if_neg ∅];rfl
theorem A4(a b c d:Addr):(wQ a b c d).lookup ("last":Str)=ρ (.ref d):=by
 rw[<-ER,aD,if_pos rfl]
theorem A5(a b c d:Addr):(wQ a b c d).lookup ("kept":Str)=ρ (.ref c):=by
 rw[<-ER,aD,if_neg ∅,<-JH,aD,if_pos rfl]
theorem HS:eD (upd H b o) b=eD H b:=by
 funext c;unfold eD
 by_cases h:c=b
 .rw[if_pos h,if_pos h]
 .rw[if_neg h,if_neg h,aa h]
theorem Br(h:H b=ρ o):a8 (aE H g) (eD g b):=by grind [a8,eD,cU,f7,aE]
theorem EV(s:a8 H g)(h:H b=τ):a8 H (eD g b):=λc o e=>f7 (s _ _ e) (a9 e h)
theorem sJ:∀{ws:List Int},(∀w∈ws,1<=w)->(ws.9:Int)<=ws.sum
 |[],_=>μ _
 |w::ws,h=>by
  have b:=h w (Ø ..);have c:=sJ (ws:=ws) λx a=>h x (Ô _ a);rw[ï,õ]
  lia
noncomputable def kQ(ks:List Nat)(m:Nat)(qs:List (Str×Nat)):List (Str×Nat):=((cN ks qs).take m).map λq=>(q.1,ks.idxOf q.2)
noncomputable def qA(lns:List (List (Str×Nat)))(ks:List Nat)(m:Nat):List (List (Str×Nat)):=ks.map λd=>kQ ks m (lns.getD d [])
theorem Cg{l:List (Str×Nat)}{t:Nat}(h:t<l.9):l[t]?=ρ (l.getD t ("",0)):=by
 grind
theorem sL:∀{hs:List Nat} {j:Nat} (h:j<hs.9),hs.idxOf hs[j]<=j
 |[],j,h=>absurd h (Γ _)
 |a::hs,0,h=>by
  show (a::hs).idxOf a<=0;rw[wgq];exact Å 0
 |a::hs,j+1,h=>by
  have b:j<hs.9:=by simpa using h
  show (a::hs).idxOf hs[j]<=j+1;rw[whF];have:=sL b
  cases(a==hs[j]) with
  |true=>grind
  |false=>grind
theorem eu:∀{fs:List (Str×V)},n∉fs.map (·.1)->cm n v fs=fs++[(n,v)]
 |[],_=>rfl
 |(a,u)::fs,h=>by
  have b:¬a=n:=λz=>h (by grind);show (if a=n then _ else _)=_;rw[if_neg b,eu (fs:=fs) λz=>h (by grind)];rfl
theorem jR:∀{fs:List (Str×V)},n∉fs.map (·.1)->(fs++(n,v)::g).lookup n=ρ v:=by grind [wfS,Ø,Ô]
theorem ye:∀{fs:List (Str×V)},n∉fs.map (·.1)->fs.lookup n=τ:=by grind [Ø,Ô]
noncomputable def Np(p:Addr):List (Str×V):=[("scheme",.ref p)]
noncomputable def Pb(p b:Addr):List (Str×V):=[("scheme",.ref p),("band",.ref b)]
noncomputable def Nq(p b:Addr)(many:Int):List (Str×V):=[("scheme",.ref p),("band",.ref b),("many",.int many)]
noncomputable def Nr(p b:Addr)(many wide:Int):List (Str×V):=[("scheme",.ref p),("band",.ref b),("many",.int many),("wide",.int wide)]
noncomputable def Nt(p b:Addr)(many wide:Int)(h:Addr):List (Str×V):=[("scheme",.ref p),("band",.ref b),("many",.int many),("wide",.int wide),("homes",.ref h)]
noncomputable def JI(p b:Addr)(many wide:Int)(h l:Addr):List (Str×V):=[("scheme",.ref p),("band",.ref b),("many",.int many),("wide",.int wide),("homes",.ref h),("lines",.ref l)]
noncomputable def Pg(p b:Addr)(many wide:Int)(h l:Addr)(o:Str):List (Str×V):=[("scheme",.ref p),("band",.ref b),("many",.int many),("wide",.int wide),("homes",.ref h),("lines",.ref l),("opening",.str o)]
theorem yf:∀b:Nat,(ë b [V.int 0]).flatten=(nI (ë b 0)).map V.int
 |0=>rfl
 |b+1=>by
  rw[ų,ű,yf b,ų];rfl
theorem A6(h:∀c o,H c=ρ o->∃g,j c=ρ g):a8 (aE j l) (aE H l):=by grind [a8,aE]
theorem getD_some{α:Type}{l:List α}{i:Nat}(x:α)(h:i<l.9):l[i]?=ρ (l.getD i x):=by
 rw[Õ,Ä h];rfl
def Nu(lns:List (List (Str×Nat))):Nat->List Str->Prop
 |_,[]=>True
 |d,w::ws=>∃e,(w,e)∈lns.getD d []/\Nu lns e ws
noncomputable def cat:List Str->Str
 |[]=>""
 |w::ws=>w++cat ws
noncomputable def qW(E:Str->List Str)(F:Str->Int):Nat->Str->Int
 |0,p=>F p
 |n+1,p=>((E p).map (qW E F n)).sum
theorem wR(F:Str->Int):∀(n:Nat) (p:Str),qW E (λp=>((E p).map F).sum) n p=qW E F (n+1) p
 |0,p=>rfl
 |n+1,p=>congrArg Ř (ü λq _=>wR F n q)
theorem Bt{F:Str->Int}(j:∀p,∀q∈E p,q∈ss)(h:∀p∈ss,0<=F p):∀(n:Nat) (p:Str),p∈ss->0<=qW E F n p
 |0,p,a=>h p a
 |n+1,p,_=>ml λq b=>Bt j h n q (j p q b)
theorem Bu{F G:Str->Int}(j:∀p,∀q∈E p,q∈ss)(h:∀p∈ss,F p<=G p):∀(n:Nat) (p:Str),p∈ss->qW E F n p<=qW E G n p
 |0,p,a=>h p a
 |n+1,p,_=>wL λq b=>Bu j h n q (j p q b)
theorem lB{α:Type}{a:α->Int}{p:α->Bool}:∀{l:List α},(∀x∈l,p x=false->a x=0)->((l.filter p).map a).sum=(l.map a).sum
 |[],_=>rfl
 |x::l,h=>by
  have b:=lB (p:=p) (l:=l) λy c=>h y (Ô _ c);rw[Ñ,ï,<-b]
  cases e:p x with
  |true=>rw[ė (by exact e),Ñ,ï]
  |false=>rw[Ī (by rw[e];decide),h x (Ø ..) e,ń]
noncomputable def uq(w:Str->Int)(p:Str)(v:Int):Str->Int:=λq=>if q=p then v else w q
end
section
variable(p b h l:Addr)(many wide:Int)(o:Str)
theorem Nv:cm "scheme" (.ref p) []=Np p:=rfl
theorem Nw:cm "band" (.ref b) (Np p)=Pb p b:=eu (by show ("band":Str)∉[("scheme":Str)];decide+kernel)
theorem Nx:cm "many" (.int many) (Pb p b)=Nq p b many:=eu (by show ("many":Str)∉[("scheme":Str),"band"];decide+kernel)
theorem Ny:cm "wide" (.int wide) (Nq p b many)=Nr p b many wide:=eu (by show ("wide":Str)∉[("scheme":Str),"band","many"];decide+kernel)
theorem Nz:cm "homes" (.ref h) (Nr p b many wide)=Nt p b many wide h:=eu (by show ("homes":Str)∉[("scheme":Str),"band","many","wide"];decide+kernel)
theorem NA:cm "lines" (.ref l) (Nt p b many wide h)=JI p b many wide h l:=eu (by show ("lines":Str)∉[("scheme":Str),"band","many","wide","homes"];decide+kernel)
theorem ND:cm "opening" (.str o) (JI p b many wide h l)=Pg p b many wide h l o:=eu (by show ("opening":Str)∉[("scheme":Str),"band","many","wide","homes","lines"];decide+kernel)
theorem n9:(Nr p b many wide).lookup ("scheme":Str)=ρ (.ref p):=jR (fs:=[]) ∅
theorem A7:(JI p b many wide h l).lookup ("band":Str)=ρ (.ref b):=jR (fs:=Np p) (by show ("band":Str)∉[("scheme":Str)];decide+kernel)
theorem A8:(JI p b many wide h l).lookup ("wide":Str)=ρ (.int wide):=jR (fs:=Nq p b many) (by show ("wide":Str)∉[("scheme":Str),"band","many"];decide+kernel)
theorem yg:(JI p b many wide h l).lookup ("lines":Str)=ρ (.ref l):=jR (fs:=Nt p b many wide h) (by show ("lines":Str)∉[("scheme":Str),"band","many","wide","homes"];decide+kernel)
theorem wU:(JI p b many wide h l).lookup ("behind":Str)=τ:=ye (by show ("behind":Str)∉[("scheme":Str),"band","many","wide","homes","lines"];decide+kernel)
end
section
variable{κ:Type}[DecidableEq κ]
noncomputable def bump:List (κ×Int)->κ->Int->List (κ×Int)
 |[],k,v=>[(k,v)]
 |(j,u)::m,k,v=>if j=k then(j,u+v)::m else(j,u)::bump m k v
noncomputable def wsum(F:κ->Int)(m:List (κ×Int)):Int:=(m.map λp=>p.2*F p.1).sum
theorem yh(F:κ->Int):wsum F []=0:=rfl
theorem iD(F:κ->Int)(p:κ×Int)(m:List (κ×Int)):wsum F (p::m)=p.2*F p.1+wsum F m:=rfl
theorem vz(F:κ->Int)(k:κ)(v:Int):∀m:List (κ×Int),wsum F (bump m k v)=wsum F m+v*F k
 |[]=>by show v*F k+0=0+v*F k;lia
 |(j,u)::m=>by
  unfold bump
  by_cases h:j=k
  .rw[if_pos h,iD,iD,h];show (u+v)*F k+_=u*F k+_+_;rw[Ν];lia
  .rw[if_neg h,iD,iD,vz F k v m];lia
theorem iE(k:κ)(v:Int):∀m:List (κ×Int),(bump m k v).map (·.1)=if k∈m.map (·.1) then m.map (·.1) else m.map (·.1)++[k]
 |[]=>rfl
 |(j,u)::m=>by
  unfold bump
  by_cases h:j=k
  .rw[if_pos h,if_pos (by grind)];rfl
  .rw[if_neg h,Ñ,iE k v m,Ñ]
   by_cases hk:k∈m.map (·.1)
   .grind
   .grind
end
section
variable{g:Str}{ws ss ls:List Str}
noncomputable def iY(ws:List Str)(e:Str):Bool:=ws.any λw=>decide (e.9<w.9)&&Μ w e
theorem yi:∀{m:List (Str×Int)},k∉m.map (·.1)->bump m k v=m++[(k,v)]
 |[],_=>rfl
 |(j,u)::m,h=>by
  unfold bump;rw[if_neg (λz=>h (by rw[z];exact Ø ..)),yi λz=>h (Ô _ z)];rfl
noncomputable def bx(f:Str->Int)(ls:List Str):List (Str×Int):=ls.map λp=>(p,f p)
theorem kT(f:Str->Int)(ls:List Str):(bx f ls).map (·.1)=ls:=by
 unfold bx;rw[Ê];exact List.map_id _
theorem g8(f:Str->Int)(ls:List Str):KG (bx f ls) ls f:=λp a=>vm a
theorem JK{f h:Str->Int}:Qg (aB (bx f ls)) (aB (bx h ls))=true↔∀p∈ls,f p=h p:=by
 unfold Qg;rw[dn,dn];have e:(bx f ls).9=(bx h ls).9:=by unfold bx;rw[À,À]
 rw[e,beq_self_eq_true,ő];unfold hitsD;rw[ø];constructor
 .intro q p a;have:=q ((Ã p:Key),.int (f p)) (Ç.mpr {(p,f p),Ç.mpr ⟨p,a,rfl⟩,rfl});have this:(match cF (aB (bx h ls)) (Ã p:Key) with |some y=>oz (.int (f p)) y |none=>false)=true:=this;rw[bT,g8 h ls p a]at this;have this:oz (.int (f p)) (.int (h p))=true:=this;unfold oz at this;simpa using this
 .intro q d b
  let{z,c,rfl}:=Ç.mp b
  let{p,a,rfl}:=Ç.mp c
  show (match cF (aB (bx h ls)) (Ã p:Key) with |some y=>oz (.int (f p)) y |none=>false)=true;rw[bT,g8 h ls p a];show oz (.int (f p)) (.int (h p))=true;rw[q p a];unfold oz;simp
theorem Ch(m:List (Str×Int)):(m.map (·.2)).sum=wsum (λ_=>1) m:=congrArg Ř (ü λp _=>(Int.mul_one p.2).symm)
theorem yj(F:Str->Int)(p:Str):wsum F [(p,1)]=F p:=by show 1*F p+0=F p;lia
end
theorem EW{f:Str->Int}(h:k∈ls):putK (aB (bx f ls)) (Ã k:Key) (.int v)=aB (bx (λp=>if p=k then v else f p) ls):=by
 unfold putK;rw[if_pos]
 .unfold aB bx;rw[Ê,Ê,Ê];refine ü λp _=>?_;show (if (Ã p:Key)=Ã k then((Ã p:Key),V.int v) else(Ã p,V.int (f p)))=(Ã p,V.int (if p=k then v else f p))
  by_cases e:p=k
  .rw[if_pos (by rw[e]),if_pos e]
  .rw[if_neg (λz=>e (Ģ z)),if_neg e]
 .exact ğ.mpr {((Ã k:Key),V.int (f k)),Ç.mpr {(k,f k),Ç.mpr ⟨k,h,rfl⟩,rfl},decide_eq_true rfl}
theorem sM(f:Str->Int)(ls:List Str):(aB (bx f ls)).map (·.2)=(ls.map f).map V.int:=by simp_all [aB,bx,Ê]
end Bs
open Bs
namespace Sx
theorem NF:é "all"=ρ (.builtin "all"):=∅
theorem EX:é "any"=ρ (.builtin "any"):=∅
theorem HU:é "sorted"=ρ (.builtin "sorted"):=∅
theorem ie:é "isinstance"=ρ (.builtin "isinstance"):=∅
theorem HV:é "str"=ρ (.type "str"):=∅
theorem iF:é "list"=ρ (.type "list"):=∅
theorem QN:é "set"=ρ (.type "set"):=∅
noncomputable def NI(ls:List V):V->V:=λv=>.bl (mL v ls)
noncomputable def A9(g:Str)(b d q:Addr):List (Str×V):=[("signs",.str g),("barred",.ref b),("moves",.ref d),("lasting",.ref q)]
noncomputable def Ph(g:Str):List (Str×V):=[("signs",.str g)]
noncomputable def M7(g:Str)(b:Addr):List (Str×V):=[("signs",.str g),("barred",.ref b)]
noncomputable def KR(g:Str)(b d:Addr):List (Str×V):=[("signs",.str g),("barred",.ref b),("moves",.ref d)]
theorem KS(g:Str):cm "signs" (.str g) []=Ph g:=rfl
theorem put2(g:Str)(b:Addr):cm "barred" (.ref b) (Ph g)=M7 g b:=by
 show (if ("signs":Str)="barred" then(("signs":Str),V.ref b)::[] else(("signs":Str),V.str g)::cm "barred" (.ref b) [])=_;rw[if_neg ∅];rfl
theorem put3(g:Str)(b d:Addr):cm "moves" (.ref d) (M7 g b)=KR g b d:=by
 show (if ("signs":Str)="moves" then(("signs":Str),V.ref d)::[(("barred":Str),V.ref b)] else(("signs":Str),V.str g)::(if ("barred":Str)="moves" then(("barred":Str),V.ref d)::[] else(("barred":Str),V.ref b)::cm "moves" (.ref d) []))=_;rw[if_neg ∅,if_neg ∅];rfl
theorem Ci(g:Str)(b d q:Addr):cm "lasting" (.ref q) (KR g b d)=A9 g b d q:=by
 show (if ("signs":Str)="lasting" then(("signs":Str),V.ref q)::[(("barred":Str),V.ref b),(("moves":Str),V.ref d)] else(("signs":Str),V.str g)::(if ("barred":Str)="lasting" then(("barred":Str),V.ref q)::[(("moves":Str),V.ref d)] else(("barred":Str),V.ref b)::(if ("moves":Str)="lasting" then(("moves":Str),V.ref q)::[] else(("moves":Str),V.ref d)::cm "lasting" (.ref q) [])))=_;rw[if_neg ∅,if_neg ∅,if_neg ∅];rfl
theorem jS(g:Str)(b d:Addr):(KR g b d).lookup ("moves":Str)=ρ (.ref d):=by
 rw[<-put3,aD,if_pos rfl]
theorem mq(g:Str)(b d q:Addr):(A9 g b d q).lookup ("moves":Str)=ρ (.ref d):=by
 rw[<-Ci,aD,if_neg ∅];exact jS g b d
theorem vA(g:Str)(b d q:Addr):(A9 g b d q).lookup ("lasting":Str)=ρ (.ref q):=by
 rw[<-Ci,aD,if_pos rfl]
theorem GN(g:Str)(b d q:Addr){m:Str}(j:¬m="signs")(l:¬m="barred")(o:¬m="moves")(p:¬m="lasting"):(A9 g b d q).lookup m=τ:=by
 rw[<-Ci,aD,if_neg p,<-put3,aD,if_neg o,<-put2,aD,if_neg l,<-KS,aD,if_neg j];rfl
structure Raw(K:Á)(nm qual:Str)(st:Stmt)(f:Addr):Prop where
 ex:∃(oc:Value) (od:Option Addr) (kV doc pm:Value) (an:Option Addr) (eZ ct:Value) (DT:Array (Option Value)),
  K.lookup f=ρ {oc,od,.func (Į nm qual (cH st) (bL st) (ay st) .none kV doc pm an eZ ct),DT}/\Χ K eZ qual=true
 kp:Ś K (.ref f)=true
theorem Aa{K:Á}{nm g:Str}{st:Stmt}{f:Addr}{r:Value}{od t:Option Addr}{o:Array (Option Value)}{kV p pm j ct:Value}(l:K.lookup f=ρ {r,od,.func (Į nm g (cH st) (bL st) (ay st) .none kV p pm t j ct),o})
 (c:Χ K j g=true) (k:Ś K (.ref f)=true):Raw K nm g st f:={⟨r,od,kV,p,pm,t,j,ct,o,l,c⟩,k}
theorem Raw.fn(R:Raw K nm g st f)
 (h:∀(kV j pm:Value) (p:Option Addr) (o ct:Value) (us:List Value),us.9=ps.9->bindArgs (Į nm g (cH st) (bL st) (ay st) .none kV j pm p o ct) {us,[]}=pure (ps.zip us)) :
 ∃fd,xK K nm g st f fd/\Binds K fd ps []:=by
 let{{b,d,kV,j,pm,p,o,ct,a,l,c},k}:=R
 have F:=E4 (st:=st) l c k;exact{_,F,F.binds h}
theorem Raw.at_{mg:Str->Option Value}(X:K.In l)(G:l.Ns í mg)(a:PySem.W.nsIn K í nm=ρ (ρ (.ref f)))(R:Raw K nm nm st f)
 (h:∀(kV g pm:Value) (o:Option Addr) (j ct:Value) (us:List Value),us.9=ps.9->bindArgs (Į nm nm (cH st) (bL st) (ay st) .none kV g pm o j ct) {us,[]}=pure (ps.zip us)) :
 ∃fd,FnAt K mg nm st ps f fd:=by
 let{fd,F,b}:=R.fn h
 exact{fd,F,b,PySem.W.mg_of X G a}
theorem cC{ss:List Str}{i:Nat}{y:V}(h:(ss.map V.str)[i]?=ρ y):∃p,ss[i]?=ρ p/\y=.str p/\i<ss.9/\p∈ss/\ss.take (i+1)=ss.take i++[p]:=by
 rw[È]at h
 cases e:ss[i]? with
 |none=>rw[e]at h;cases h
 |some z=>
  rw[e]at h;exact{z,rfl,(Î h).symm,(Ö.mp e).1,á e,by rw[Ć,e];rfl}
inductive Bv(K:Á)(vs:List V)(H:Hp)(Q:VK)(dJ:XK):Prop
 |mk (a:Addr) (ns:List Int) (_:vs=[.ref a]) (_:aG K H a (ns.map V.int)) (_:ns.9<=63) (_:∀H',Q (.bl true) H')
noncomputable def one(c:Nat):Str:={#[c]}
theorem du(nx:g x=τ)(j:g l=τ):a8 g (upd (upd g l p) x o2):=λb o e=>by rw[aa (a9 e nx),aa (a9 e j)];exact e
theorem VZ:é "ValueError"=ρ (.type "ValueError"):=∅
theorem QO:é "int"=ρ (.type "int"):=∅
theorem NK:é "dict"=ρ (.type "dict"):=∅
theorem JL:é "bool"=ρ (.type "bool"):=∅
theorem wV:é "sum"=ρ (.builtin "sum"):=∅
theorem HW:é "min"=ρ (.builtin "min"):=∅
theorem EY:é "max"=ρ (.builtin "max"):=∅
theorem HX:é "range"=ρ (.type "range"):=∅
theorem Ab(he:H e=τ)(hd:(upd H e g) d=τ):d≠e/\H d=τ/\del (upd (upd (upd H e g) d o2) e o3) e=upd H d o2:=by grind [a5,aa,wx,zB,Bc]
theorem mr(g:Str)(b d q:Addr):(A9 g b d q).lookup ("signs":Str)=ρ (.str g):=by
 rw[<-Ci,aD,if_neg ∅,<-put3,aD,if_neg ∅,<-put2,aD,if_neg ∅,<-KS,aD,if_pos rfl]
theorem none_of(s:a8 H g)(h:g d=τ):H d=τ:=by
 cases q:H d with
 |none=>rfl
 |some o=>rw[s _ _ q]at h;cases h
theorem yk(g:Str)(b d q:Addr):(A9 g b d q).lookup ("barred":Str)=ρ (.ref b):=by
 rw[<-Ci,aD,if_neg ∅,<-put3,aD,if_neg ∅,<-put2,aD,if_pos rfl]
inductive EZ(vs:List V)(H:Hp)(Q:VK)(dJ:XK):Prop
 |mk (i) (_:vs=[.int i]) (_:Q (.bl true) H)
structure fh(m:Nat)(many wide:Int):Prop where
 a:2<=many
 b:many<=8
 c:1<=wide
 d:wide<=6
 e:(m:Int)^wide.toNat<=64
inductive NM(K:Á)(vs:List V)(H:Hp)(Q:VK)(dJ:XK):Prop
 |mk (a:Addr) (ns:List Int) (p:Int) (_:vs=[.ref a,.int p]) (_:aG K H a (ns.map V.int)) (_:∀(c:Int) (H':Hp),a8 H H'->Q (.int c) H')
inductive F0(K:Á)(vs:List V)(H:Hp)(Q:VK)(dJ:XK):Prop
 |mk (l d es m f) (_:vs=[.ref l,.ref d]) (_:aG K H l (es.map V.str)) (_:es.9<=1000) (_:Rd H d (.dK (aB m))) (_:KG m es f) (_:∀H',a8 H H'->Q (.int ((es.map f).sum)) H')
inductive F1(vs:List V)(H:Hp)(Q:VK)(dJ:XK):Prop
 |mk (c:Int) (m:Nat) (_:vs=[.int c,.int (m:Int)]) (_:m<=1000) (_:∀(l:Addr) (xs:List Int) (H':Hp),a8 H H'->H l=τ->H' l=ρ (.lst (xs.map V.int))->xs.9=m->Q (.ref l) H')
inductive HY(K:Á)(vs:List V)(H:Hp)(Q:VK)(dJ:XK):Prop
 |mk (a:Addr) (ns:List Int) (g:Str) (_:vs=[.ref a,.str g]) (_:aG K H a (ns.map V.int)) (_:2<=g.9) (_:g.9<=4) (_:∀(p:Addr) (many wide:Int) (H':Hp),a8 H H'->H p=τ->H' p=ρ (.tup [.int many,.int wide])->fh g.length many wide->Q (.ref p) H')
inductive HZ(K:Á)(vs:List V)(H:Hp)(Q:VK)(dJ:XK):Prop
 |mk (i a xs) (_:vs=[.int i,.ref a]) (_:aG K H a xs) (_:Q (.bl (dO i xs.9)) H)
structure Down(ws:List Int)(lns:List (List (Str×Nat)))(h:Int)(d i:Nat)(qs:List (Str×Nat))(q:Str×Nat):Prop where
 m:h∈ws
 t:∀w∈ws,w<=h
 l:lns[d]?=ρ qs
 s:qs[i]?=ρ q
 e:ws.getD d 0=h
 lt:ws.getD q.2 0<h
theorem fB{H:Hp}{a:Addr}{o:HO}(h:H a=τ):a8 H (upd H a o)/\(upd H a o) a=ρ o:={a8.upd h,a5}
def JM(v:V):Prop:=∃i:Int,v=.int i/\i.natAbs.log2<1920
structure F4(bw:List Str)(M:Int):Prop where
 u:∀w∈bw,(w.9:Int)<=M
 a:M=0/\bw=[]\/∃w∈bw,(w.9:Int)=M
structure F5(bw:List Str)(n:Nat)(b:Nat):Prop where
 le:b<=1000
 is:∃M:Int,F4 bw M/\(b:Int)=((if 0>M-1 then 0 else M-1)+(n:Int)-1)/(n:Int)
section
variable{K:Á}
inductive KU(K:Á)(vs:List V)(H:Hp)(Q:VK)(dJ:XK):Prop
 |mk (r a ps) (_:vs=[.str r,.ref a]) (_:aG K H a (ps.map V.str)) (_:("":Str)∈ps) (_:r.9<=1000) (_:∀H',a8 H H'->Q (.str (lend ps r)) H')
inductive Ia(K:Á)(vs:List V)(H:Hp)(Q:VK)(dJ:XK):Prop
 |mk (a b es ls) (_:vs=[.ref a,.ref b]) (_:aG K H a es) (_:aG K H b ls) (_:es.all cZ=true) (_:ls.all cZ=true) (_:es.9<=1000) (_:∀H',a8 H H'->Q (.bl (es.any λe=>mL e ls)) H')
inductive KW(K:Á)(vs:List V)(H:Hp)(Q:VK)(dJ:XK):Prop
 |mk (d mv es) (_:vs=[.ref d]) (_:H d=ρ (.dK (aR mv))) (_:mv.9<=1000) (_:(∀m∈mv,H m.2=ρ (.dK (es m.1)))) (_:(∀k,((es k).map (·.2)).all cZ=true)) (_:(∀k,(es k).9<=1000)) (_:∀(l:Addr) (ls:List Str) (H':Hp),a8 H H'->H l=τ->H' l=ρ (.lst (ls.map V.str))->qx (mv.map (·.1)) es ls->Q (.ref l) H')
end
end Sx
open Sx
namespace Bs
open PySem.Spec PyProof.Rows
noncomputable abbrev ch(x:Str):List Nat:=x.cps.toList
theorem aM(x:Str):(ch x).9=x.9:=by simp[ch,Œ]
theorem cY(h:ch x=ch y):x=y:=by
 obtain⟨a⟩:=x;obtain⟨b⟩:=y;have:a=b:=wfp.mp h;rw[this]
theorem bC(a b:Str):ch (a++b)=ch a++ch b:=by grind [Str.cps_append,Array.toList_append]
theorem F6(c:Nat):ch {#[c]}=[c]:=rfl
theorem mw(h:z.9=0):ch z=[]:=by grind [aM]
theorem nc(x:Str)(l u:Option Int):ą x l u=StrLaws.sliceText x l u:=rfl
theorem ym(x:Str)(j:Nat):ch (ą x τ (ρ (j:Int)))=(ch x).take j:=by
 by_cases h:j<=x.9
 .grind [nc,wgr,Œ]
 .have hn:Ÿ τ (ρ (j:Int)) 1 x.9=Ÿ τ (ρ ((x.9:Nat):Int)) 1 x.9:=by
   grind [Ÿ]
  have e:ą x τ (ρ (j:Int))=ą x τ (ρ ((x.9:Nat):Int)):=by
   grind [ą]
  rw[e,nc,wgr {(),by simp[Œ]}];have a:(ch x).9<=j:=by rw[aM];lia
  rw[ŕ a];have b:x.cps.toList.take x.cps.size=x.cps.toList:=ŕ (by simp);simp[Œ,b]
theorem sN(x:Str)(i:Nat):ch (ą x (ρ (i:Int)) τ)=(ch x).drop i:=by
 by_cases h:i<=x.9
 .rw[nc,wg3 {(),by simp[Œ]at h ⊢;lia}];show ((x.cps.toList.drop (i:Int).toNat).take ((x.cps.toList.9:Int)-(i:Int)).toNat).toArray.toList=(ch x).drop i;rw[List.toList_toArray,î,ŕ];rw[ď]
  lia
 .have hn:Ÿ (ρ (i:Int)) τ 1 x.9=Ÿ (ρ ((x.9:Nat):Int)) τ 1 x.9:=by
   have a:¬((i:Int)<0):=();have b:¬(((x.9:Nat):Int)<0):=();have c:max (0:Int) (min (i:Int) (x.9:Int))=max 0 (min ((x.9:Nat):Int) (x.9:Int)):=();simp[Ÿ,a,b,c]
  have e:ą x (ρ (i:Int)) τ=ą x (ρ ((x.9:Nat):Int)) τ:=by
   unfold ą;rw[hn]
  rw[e,nc,wg3 {(),by simp[Œ]}];have d:(ch x).9<=i:=by rw[aM];lia
  rw[wg4 d];simp[Œ]
theorem oS(g:z.9=0):∀ts:List Str,ch (Ĵ z ts)=(ts.map ch).flatten:=by
 intro ts;unfold Ĵ Builtin.Str.glued
 have b:z.cps=#[]:=by
  have:=mw g;exact wfp.mp this
 have key:∀(l:List Str) (a:Array Nat),(l.foldl (λa p=>a++z.cps++p.cps) a).toList=a.toList++(l.map ch).flatten:=by
  intro l
  induction l with
  |nil=>grind
  |cons p l c=>
   grind
 cases ts with
 |nil=>rfl
 |cons p l=>
  show ((List.drop 1 (p::l)).foldl (λa q=>a++z.cps++q.cps) p.cps).toList=_;rw[List.drop_one,List.tail_cons,key];rfl
noncomputable def eJ:Str:="abcdefghijklmnopqrstuvwxyz0123456789"
structure yn(x:Str):Prop where
 lo:2<=x.9
 hi:x.9<=4
 nd:(ch x).Nodup
 sub:∀c∈ch x,c∈ch eJ
structure QP(i:Nat)(Ib found:Str):Prop where
 pl:Ib.length+i=36
 fl:found.9=i
 pn:(ch Ib).Nodup
 fn:(ch found).Nodup
 ps:∀c∈ch Ib,c∈ch eJ
 fs:∀c∈ch found,c∈ch eJ
 ap:∀c∈ch found,c∉ch Ib
theorem yo:eJ.9=36:=∅
structure wW(sg w:Str):Prop where
 lo:1<=w.9
 hi:w.9<=5
 sub:∀c∈ch w,c∈ch sg
theorem Cj(j:z.9=0)(o:1<=ts.9)(p:ts.9<=5)(h:∀t∈ts,∃c,t={#[c]}/\c∈ch g):wW g (Ĵ z ts):=by
 have e:=oS j ts
 have hl:∀(l:List Str),(∀t∈l,∃c,t={#[c]}/\c∈ch g)->((l.map ch).flatten).9=l.9/\∀c∈(l.map ch).flatten,c∈ch g:=by
  intro l
  induction l with
  |nil=>intro _;exact{rfl,λc h=>by cases h}
  |cons t l b=>
   intro a
   let{c,rfl,hc}:=a t (Ø ..)
   let{d,f}:=b λt h=>a t (Ô _ h)
   refine{by rw[Ñ,ű,Ì,d,õ];exact Nat.add_comm 1 _,λk hk=>?_};rw[Ñ,ű]at hk;rcases Ú.mp hk with h |h
   .have:k=c:=by simpa [ch] using h
    subst this;exact hc
   .exact f k h
 let{i,m}:=hl ts h
 have n:(Ĵ z ts).9=ts.9:=by rw[<-aM,e,i]
 exact{(),(),λc hc=>m c (e ▸ hc)}
noncomputable def KY(y x:Str):Bool:=!(wfy x y 0 x.length 1).isEmpty
theorem Ic(x:Str)(c:Nat):KY {#[c]} x=decide (c∈ch x):=StrLaws.found_one x c
noncomputable def bears(ws:List Str)(r:Str):Bool:=ws.any λw=>KY w r
noncomputable def eW(w:Str)(n:Nat):Str:=ą w τ (ρ (n:Int))
theorem Ck(w:Str)(n:Nat):(eW w n).9<=w.9:=Ω _ _ _
noncomputable def wX(ks:List Str)(b:Str):List Str:=if b∈ks then ks else ks++[b]
noncomputable def oU(ws:List Str)(ks:List Str)(b:Str):List Str:=if bears ws b=true then ks else wX ks b
theorem F7(ws g:List Str)(b:Str):(oU ws g b).9<=g.9+1:=by
 unfold oU wX;split
 .lia
 .split
  .lia
  .simp
noncomputable def upTo(ws:List Str)(w:Str)(ks:List Str)(n:Nat):List Str:=((Ü n).map λi=>eW w (1+i)).foldl (oU ws) ks
theorem fi(ws:List Str)(w:Str)(g:List Str)(n:Nat):upTo ws w g (n+1)=oU ws (upTo ws w g n) (eW w (1+n)):=by
 unfold upTo;rw[wdv,Ò,wd8];rfl
theorem sO(ws:List Str)(w:Str)(g:List Str):∀n,(upTo ws w g n).9<=g.9+n
 |0=>Å _
 |n+1=>by
  rw[fi];have:=sO ws w g n;have:=F7 ws (upTo ws w g n) (eW w (1+n))
  lia
noncomputable def addW(ws:List Str)(ks:List Str)(w:Str):List Str:=upTo ws w ks (w.9-1)
noncomputable def bQ(ws:List Str)(e:Str)(us:List Str):List Str:=us.foldl (addW ws) [e]
theorem Ac(ws:List Str)(e:Str)(us:List Str)(w:Str):bQ ws e (us++[w])=addW ws (bQ ws e us) w:=by
 unfold bQ;rw[wd8];rfl
theorem gj(h:∀w∈us,w.9<=5):(bQ ws e us).9<=1+4*us.9:=by
 have key:∀(us a:List Str),(∀w∈us,w.9<=5)->(us.foldl (addW ws) a).9<=a.9+4*us.9:=by
  intro us
  induction us with
  |nil=>grind
  |cons w us b=>
   grind [addW,Ô,sO]
 exact key us [e] h
theorem Ad(h:g.Nodup):(wX g b).Nodup:=by
 unfold wX;split
 .exact h
 .rename_i d;refine Ū.mpr {h,by simp,λa ha c hc=>?_};have:c=b:=by simpa using hc
  subst this;rintro rfl;exact d ha
theorem Ae(h:g.Nodup):(oU ws g b).Nodup:=by
 unfold oU;split
 .exact h
 .exact Ad h
theorem sP(h:g.Nodup):∀n,(upTo ws w g n).Nodup
 |0=>h
 |n+1=>by rw[fi];exact Ae (sP h n)
theorem hU(us:List Str):(bQ ws e us).Nodup:=by
 have key:∀(us a:List Str),a.Nodup->(us.foldl (addW ws) a).Nodup:=by
  intro us
  induction us with
  |nil=>intro a h;exact h
  |cons w us b=>intro a h;exact b _ (sP h _)
 exact key us [e] (by simp)
theorem F8(h:k∈g):k∈oU ws g b:=by grind [oU,wX,Ĕ]
theorem mem_upTo(h:k∈g):∀n,k∈upTo ws w g n
 |0=>h
 |n+1=>by rw[fi];exact F8 (mem_upTo h n)
theorem bj(us:List Str):e∈bQ ws e us:=by
 have key:∀(us a:List Str),e∈a->e∈us.foldl (addW ws) a:=by
  intro us
  induction us with
  |nil=>intro a h;exact h
  |cons w us b=>intro a h;exact b _ (mem_upTo h _)
 exact key us [e] (by simp)
def yp(a b:Str):Prop:=¬(b.cps.toList<a.cps.toList)
theorem vB(g:yp a b)(j:yp b c):yp a c:=by grind [yp,List.not_lt,List.le_trans]
theorem jg:∀{l:List Str} {p:Str},risingS p l=true->(p::l).Pairwise yp
 |[],p,_=>List.pairwise_singleton _ _
 |x::r,p,h=>by
  have h:(!ltCps x.cps.toList p.cps.toList&&risingS x r)=true:=h;rw[Ď]at h
  have b:yp p x:=by
   have:=h.1;rw[ltCps_eq]at this;simpa [yp] using this
  have c:=jg h.2;refine weO.mpr {λa ha=>?_,c};rcases æ.mp ha with rfl |ha
  .exact b
  .exact vB b ((weO.mp c).1 a ha)
theorem jh(h:sortedS l=true):l.Pairwise yp:=by
 cases l with
 |nil=>exact .nil
 |cons x r=>exact jg h
theorem Af(ha:sortedS a=true)(g:sortedS b=true)(j:a.Perm c)(l:b.Perm c):a=b:=by
 refine(j.trans l.symm).eq_of_pairwise (le:=yp) (λx y _ _ d e=>?_) (jh ha) (jh g);unfold yp at d e;rw[List.not_lt]at d e;exact cY (List.le_antisymm d e)
end Bs
namespace Bs
theorem gk(r:Str):cb r r.9="":=by
 refine cY ?_;show ch (ą r (ρ (r.9:Int)) τ)=[];rw[sN];exact wg4 (weh (aM r))
theorem oV(x y:Str)(i:Nat):wha x y i=true↔((ch x).drop i).take y.9=ch y:=by
 unfold wha;rw[beq_iff_eq];constructor
 .intro h;have:=congrArg Array.toList h;rw[wgs,wfd,wcj]at this;exact this
 .intro h;refine wfp.mp ?_;rw[wgs,wfd,wcj];exact h
theorem Ie(y x:Str):KY y x=true↔ch y <:+: ch x:=by
 unfold KY;rw[StrLaws.found_iff];constructor
 .grind [oV,we1,whv]
 .rintro⟨a,b,e⟩;refine{a.9,?_,(oV x y _).mpr ?_}
  .rw[<-aM x,<-e,Ì,Ì,aM];lia
  .rw[<-e,Ā,List.drop_left,<-aM y,whM]
theorem mx(x y:Str):Μ x y=true↔ch y <+: ch x:=by
 unfold Μ;rw[Ď,decide_eq_true_iff,oV,weI];constructor
 .rintro⟨_,h⟩;rw[<-h];exact we1 _ _
 .rintro⟨b,e⟩;refine{?_,?_}
  .rw[<-aM x,<-e,Ì,aM];lia
  .rw[<-e,<-aM y,whM]
noncomputable def wl(ws:List Str):List (List Nat):=ws.map ch
theorem kU(w:Str)(n:Nat):ch (eW w n)=(ch w).take n:=ym w n
theorem iZ(w:Str)(n:Nat):ch (cb w n)=(ch w).drop n:=sN w n
theorem wY:k∈oU ws g b↔k∈g\/(k=b/\bears ws b=false):=by
 unfold oU wX
 by_cases a:bears ws b=true
 .grind
 .grind
theorem ng:∀n,k∈upTo ws w g n↔k∈g\/∃i,i<n/\k=eW w (1+i)/\bears ws k=false
 |0=>by
  show k∈g↔_;simp
 |n+1=>by
  rw[fi,wY,ng n];constructor
  .grind
  .grind
theorem ig(us:List Str):k∈bQ ws e us↔k=e\/∃w∈us,∃i,i<w.9-1/\k=eW w (1+i)/\bears ws k=false:=by
 have key:∀(us b:List Str),k∈us.foldl (addW ws) b↔k∈b\/∃w∈us,∃i,i<w.9-1/\k=eW w (1+i)/\bears ws k=false:=by
  intro us
  induction us with
  |nil=>intro b;simp
  |cons w us d=>
   intro b;rw[Θ,d];unfold addW;rw[ng];constructor
   .rintro((h |⟨i,h⟩) |⟨c,a,h⟩)
    .exact .inl h
    .exact .inr {w,Ø ..,i,h}
    .exact .inr {c,Ô _ a,h}
   .rintro(h |⟨c,a,h⟩)
    .exact .inl (.inl h)
    .rcases æ.mp a with rfl |a
     .exact .inl (.inr h)
     .exact .inr ⟨c,a,h⟩
 unfold bQ;rw[key];simp
noncomputable def NN(ss:List Str)(l:List Nat):Bool:=decide (l∈ss.map ch)
theorem j0:NN ss (ch k)=true↔k∈ss:=by
 unfold NN;rw[decide_eq_true_iff];constructor
 .grind [cY]
 .grind
theorem take_zero(r:Str):eW r 0="":=cY (by rw[kU];rfl)
theorem len_app(a b:Str):(a++b).9=a.9+b.9:=by grind [aM,bC]
noncomputable def jT(st sp n:Nat):List Nat:=(Ü n).map λk=>(ch eJ).getD ((st+k*sp)%36) 0
noncomputable def Ig(st sp:Nat):V->V:=λv=>match v with
 |.int k=>.str {#[(ch eJ).getD ((st+k.toNat*sp)%36) 0]}
 |_=>.non
noncomputable def gH(g:Str)(ws ss:List Str)(q:Str×Str):List (Str×Str):=(ch g).filterMap λc=>if bears ws (q.2++{#[c]})=true then τ else ρ (q.1++{#[c]},lend ss (q.2++{#[c]}))
noncomputable def eK(g:Str)(ws ss:List Str)(qs:List (Str×Str)):List (Str×Str):=qs.flatMap (gH g ws ss)
noncomputable def nh(g:Str)(ws ss:List Str)(p:Str):Nat->List (Str×Str)
 |0=>[("",p)]
 |n+1=>eK g ws ss (nh g ws ss p n)
noncomputable def aQ(g:Str)(ws ss ls:List Str)(n:Nat)(p:Str):List (Str×Str):=(nh g ws ss p n).filter λq=>decide (q.2∈ls)
theorem Ag(g:Str)(ws ss:List Str)(q:Str×Str):(gH g ws ss q).9<=g.9:=by
 unfold gH;have:=wcM (λc=>if bears ws (q.2++{#[c]})=true then τ else ρ (q.1++({#[c]}:Str),lend ss (q.2++({#[c]}:Str)))) (ch g);rw[aM]at this;exact this
theorem pF(g:Str)(ws ss:List Str)(j:List (Str×Str)):(eK g ws ss j).9<=j.9*g.9:=sr _ _ _ λq _=>Ag g ws ss q
theorem ni(g:Str)(ws ss:List Str)(p:Str):∀n,(nh g ws ss p n).9<=g.length^n
 |0=>Å 1
 |n+1=>Ï (pF g ws ss _) (by rw[Nat.pow_succ];exact wen _ (ni g ws ss p n))
theorem cO(h:r∈aQ g ws ss ls n p):r.2∈ls:=of_decide_eq_true (Ý.mp h).2
theorem fj(g:Str)(ws ss ls:List Str)(n:Nat)(p:Str):(aQ g ws ss ls n p).9<=g.length^n:=Ï (ľ _ _) (ni g ws ss p n)
noncomputable def eX(g:Str)(ws ss ls:List Str)(n:Nat)(f:Str->Int)(p:Str):Int:=((aQ g ws ss ls n p).map λq=>f q.2).sum
theorem Bw(r:Str):r++("":Str)=r:=cY (by rw[bC,mw (z:="") rfl,ý])
theorem Ih(r:Str):("":Str)++r=r:=cY (by rw[bC,mw (z:="") rfl,whC])
theorem oW(a b c:Str):a++b++c=a++(b++c):=by grind [cY,bC,Ā]
noncomputable def fk(g:Str)(ws ss ls:List Str)(n:Nat)(hs:List Str)(p:Str):List (Str×Nat):=((aQ g ws ss ls n p).filter λq=>decide (q.2∈hs)).map λq=>(q.1,hs.idxOf q.2)
noncomputable def bz(g:Str)(ws ss ls:List Str)(n:Nat)(hs:List Str):List (List (Str×Nat)):=hs.map (fk g ws ss ls n hs)
theorem Ah(g:Str)(ws ss ls:List Str)(n:Nat)(hs:List Str)(p:Str):(fk g ws ss ls n hs p).9<=g.length^n:=by
 unfold fk;rw[À];exact Ï (ľ _ _) (fj g ws ss ls n p)
theorem F9{f:Str->Int}(hn:∀p∈ls,0<=f p)(p:Str):aZ ((aj ls f).map f) (fk g ws ss ls n (aj ls f) p)=eX g ws ss ls n f p:=by
 unfold eX;rw[n8 (λq:Str×Str=>f q.2) (aQ g ws ss ls n p) λq a=>hn _ (cO a)];unfold aZ fk;rw[Ê]
 have e:(aQ g ws ss ls n p).filter (λq=>decide (q.2∈aj ls f))=(aQ g ws ss ls n p).filter λq=>decide (0<f q.2):=wf8 λq a=>by
  unfold aj;exact decide_eq_decide.mpr (by rw[Ý];exact{λz=>of_decide_eq_true z.2,λz=>{cO a,decide_eq_true z}})
 rw[e];refine congrArg Ř (ü λq a=>?_)
 have b:q.2∈aj ls f:=by
  unfold aj;have:=Ý.mp a;exact Ý.mpr {cO this.1,this.2}
 show ((aj ls f).map f).getD ((aj ls f).idxOf q.2) 0=f q.2;rw[Õ,È,(oQ b).1];rfl
noncomputable def j1(wl:List Int)(nums:List Nat)(j:Nat):Int:=((nums.take j).map λn=>wl.getD n 0).sum
theorem Cm{wl:List Int}{g:List Nat}{j n:Nat}(h:g[j]?=ρ n):j1 wl g (j+1)=j1 wl g j+wl.getD n 0:=by
 unfold j1;rw[Ć,h,Ò,whG];show _+(wl.getD n 0+0)=_
 lia
theorem Fa(wl:List Int)(g:List Nat)(h:i<=j):(((g.take j).drop i).map λn=>wl.getD n 0).sum=j1 wl g j-j1 wl g i:=by grind [j1,we6,wfP]
theorem Fb{wl:List Int}{g:List Nat}{i j:Nat}{many:Int}(h:i<=j)(e:j1 wl g i%many=j1 wl g j%many):(((g.take j).drop i).map λn=>wl.getD n 0).sum%many=0:=by
 rw[Fa wl g h];exact Int.emod_eq_emod_iff_emod_sub_eq_zero.mp e.symm
theorem eL{a b:Str}{m n:Nat}(g:a.9<=m)(j:b.9<=n):(a++b).9<=m+n:=by
 rw[len_app];exact Nat.add_le_add g j
theorem kW{wl:List (List (Str×Nat))}{d:Nat}(h:d<wl.9):wl[d]?=ρ (wl.getD d []):=by
 grind
def NP(ss hk:List Str)(wl:List (List (Str×Nat)))(p w:Str)(as:List Str)(i:Nat):Prop:=∃d e,d<wl.9/\hk.getD d ""=lend ss p/\(wl.getD d [])[i]?=ρ (w,e)/\Nu wl e as
structure Wr where
 g:Str
 bw:List Str
 ss:List Str
 ls:List Str
 hk:List Str
 many:Int
 n:Nat
 b:Nat
 c:Nat
 wl:List (List (Str×Nat))
open Classical in
noncomputable def QQ(R:Wr)(bs:List Str)(w:Str)(us:List Str):V:=if bears R.bw (cat bs)=true then .non else if h:∃i,NP R.ss R.hk R.wl (cat bs) w us i then .int ((whw h:Nat):Int) else .non
noncomputable def KZ(R:Wr)(all:List Str)(k:Nat):List Str:=(all.take (k+(R.b+1+R.c))).drop k
noncomputable def W2(R:Wr)(all:List Str)(k:Nat):V:=QQ R ((KZ R all k).take R.b) ((KZ R all k).getD R.b "") ((KZ R all k).drop (R.b+1))
section
variable{g:Str}{ws ss ls:List Str}
def DG(g:Str)(ws ss ls:List Str)(many:Int)(n:Nat)(f:Str->Int):Prop:=∀p∈ls,many*f p<=eX g ws ss ls n f p
noncomputable def jU(g:Str)(ws ss ls:List Str)(many:Int)(n:Nat)(f:Str->Int)(p:Str):Int:=if eX g ws ss ls n f p/many<f p then eX g ws ss ls n f p/many else f p
theorem Fc{n:Nat}{f:Str->Int}(h:∀p∈ls,0<=f p)(p:Str):0<=eX g ws ss ls n f p:=ml λq a=>h _ (cO a)
theorem sQ{f h:Str->Int}(e:∀p∈ls,f p<=h p)(p:Str):eX g ws ss ls n f p<=eX g ws ss ls n h p:=wL λq a=>e _ (cO a)
theorem Fd(many:Int)(n:Nat)(f:Str->Int)(p:Str):jU g ws ss ls many n f p<=f p:=by
 unfold jU;split<;>lia
theorem Fe{f:Str->Int}(j:2<=many)(h:∀p∈ls,0<=f p):∀p∈ls,0<=jU g ws ss ls many n f p:=λp a=>by
 have b:=weo (Fc (g:=g) (ws:=ws) (ss:=ss) (n:=n) h p) (show 0<=many by lia);have c:=h p a;unfold jU;split<;>lia
theorem Cp{f h:Str->Int}(l:2<=many)(j:DG g ws ss ls many n f)(e:∀p∈ls,f p<=h p):∀p∈ls,f p<=jU g ws ss ls many n h p:=λp a=>by
 have b:=j p a;have c:=sQ (g:=g) (ws:=ws) (ss:=ss) (n:=n) e p;have d:f p<=eX g ws ss ls n h p/many:=(wd6 1.0).mpr (by grind);have i:=e p a;unfold jU;split<;>omega
theorem Ii{f:Str->Int}(j:2<=many)(e:∀p∈ls,jU g ws ss ls many n f p=f p):DG g ws ss ls many n f:=λp a=>by
 have h:=e p a;unfold jU at h
 have b:f p<=eX g ws ss ls n f p/many:=by
  grind
 have:=(wd6 (show 0<many by lia)).mp b;rw[Φ]at this;exact this
theorem L1{f:Str->Int}(j:2<=many)(o:∀p∈ls,0<=f p)(e:¬∀p∈ls,jU g ws ss ls many n f p=f p):(ls.map λp=>(jU g ws ss ls many n f p).toNat).sum<(ls.map λp=>(f p).toNat).sum:=by
 have b:∀p∈ls,jU g ws ss ls many n f p<=f p:=λp _=>Fd many n f p;have c:=Fe (g:=g) (ws:=ws) (ss:=ss) (n:=n) j o;generalize jU g ws ss ls many n f=h at e b c
 have key:∀l:List Str,(∀p∈l,h p<=f p/\0<=h p)->(l.map λp=>(h p).toNat).sum<=(l.map λp=>(f p).toNat).sum/\((∃p∈l,h p≠f p)->(l.map λp=>(h p).toNat).sum<(l.map λp=>(f p).toNat).sum):=by
  intro l
  induction l with
  |nil=>intro _;exact{Å _,λ⟨p,a,_⟩=>nomatch a}
  |cons x l i=>
   intro hl
   let{m,k}:=i λp a=>hl p (Ô _ a)
   let{r,s}:=hl x (Ø ..)
   rw[Ñ,Ñ,ï,ï];refine{(),λ⟨p,a,d⟩=>?_};rcases æ.mp a with z |z
   .rw[z]at d
    lia
   .have:=k ⟨p,z,d⟩
    lia
 refine(key ls λp a=>{b p a,c p a}).2 ?_;apply wfe;intro q;exact e λp a=>wfe λz=>q ⟨p,a,z⟩
noncomputable def L4(g:Str):Nat->List Str
 |0=>[""]
 |n+1=>(ch g).flatMap λc=>(L4 g n).map λr=>({#[c]}:Str)++r
noncomputable def L5(g:Str):Nat->List Str
 |0=>[""]
 |n+1=>(L5 g n).flatMap λr=>(ch g).map λc=>r++({#[c]}:Str)
theorem qX:∀n,L5 g n=L4 g n
 |0=>rfl
 |1=>by
  show ([""]:List Str).flatMap (λr=>(ch g).map λc=>r++({#[c]}:Str))=(ch g).flatMap λc=>([""]:List Str).map λr=>({#[c]}:Str)++r;rw[List.flatMap_singleton]
  have:∀a:List Nat,(a.map λc=>("":Str)++({#[c]}:Str))=a.flatMap λc=>([""]:List Str).map λr=>({#[c]}:Str)++r:=by
   intro a
   induction a with
   |nil=>rfl
   |cons c a b=>
    grind [Ih,Bw]
  exact this _
 |n+2=>by
  show (L5 g (n+1)).flatMap (λr=>(ch g).map λc=>r++({#[c]}:Str))=(ch g).flatMap λc=>(L4 g (n+1)).map λr=>({#[c]}:Str)++r;rw[qX (n+1)];show ((ch g).flatMap λc=>(L4 g n).map λr=>({#[c]}:Str)++r).flatMap (λr=>(ch g).map λc=>r++({#[c]}:Str))=_;rw[List.flatMap_assoc];congr 1;funext c;rw[<-qX (n+1)];show _=((L5 g n).flatMap λr=>(ch g).map λc=>r++({#[c]}:Str)).map λr=>({#[c]}:Str)++r;rw[qX n,List.map_flatMap,List.flatMap_map];congr 1;funext r;rw[Ê];refine ü λd _=>?_;exact oW _ _ _
end
section
variable{ws ss ls:List Str}{p:Str}
noncomputable def jC(ws ss:List Str)(p:Str)(r:Str):Option (Str×Str):=if bears ws (p++r)=true then τ else ρ (r,lend ss (p++r))
noncomputable def Ij(ws ss ls:List Str)(p:Str)(r:Str):Option (Str×Str):=if bears ws (p++r)=true then τ else if lend ss (p++r)∈ls then ρ (r,lend ss (p++r)) else τ
end
end Bs
namespace K70
noncomputable def top(i:Nat):Stmt:=ñ.main.body.getD i (.Pass ⟨0,0,0,0⟩)
theorem d5{CX P w K mg base N q sc f cd A o s H E}:(rK CX P w K mg base N q sc f cd A o s H E).K=K:=rfl
theorem d7{X:Cx}{f}:(X.kZ f).K=X.K:=rfl
theorem zp{t u:TS}{D:Ends}{σ:St}{H:Hp}(h:∀R:St->Hp->Prop,(∀σ H,u D σ H->R σ H)->t (D.Jz R) σ H):Ks t u D σ H:=h _ λ_ _ x=>x
theorem b4{x p y q e}:(ŏ [.Name x p,.Name y q] e).9=2:=rfl
theorem b5{x p y q z r e}:(ŏ [.Name x p,.Name y q,.Name z r] e).9=3:=rfl
structure Ff(K:Á)(C:Addr):Prop where
 cl:zm K C
 g9:bN K C "homes"
 cD:bN K C "weights"
 cA:bN K C "lines"
structure Ik(K:Á)(C:Addr):Prop where
 cl:zm K C
 cD:bN K C "weights"
 Fg:bN K C "splits"
 Fh:bN K C "kept"
 Fi:bN K C "last"
structure Il(K:Á)(C:Addr):Prop where
 cl:zm K C
 qY:bN K C "signs"
 yq:bN K C "barred"
 kX:bN K C "moves"
 oX:bN K C "lasting"
inductive QR(lns:List (List (Str×Nat)))(rs ys:List Nat)(x rd wl a:Addr)(d z:Nat)(H:Hp)(i:Nat)(σ:St)(H5:Hp):Prop
 |mk (ad v5 v6) (_:σ=[ρ (.ref x),ρ (.int (d:Int)),ρ (.ref rd),ρ (.ref wl),ρ (.ref a),v5,v6]) (_:a8 H H5) (_:H5 rd=ρ (.dK (dB (rs++ad)))) (_:H5 wl=ρ (.lst ((nI (ys++ad)).map V.int))) (_:(rs++ad).Nodup) (_:∀r∈rs++ad,r<lns.9) (_:∀q∈(lns.getD z []).take i,q.2∈rs++ad)
theorem QR.s{wl:Addr}(q:QR lns j ys x rd wl a d z H i σ g):a8 H g:=by
 let{_,_,_,_,h,_}:=q
 exact h
noncomputable abbrev F3:List V:=[V.bl false,V.bl false,V.bl false]
structure zq(H:Hp)(d:Addr)(o:Obj)(mv:List (Str×Addr))(E:Str->List Str)(ss:List Str):Prop where
 hd:H d=ρ (.frz o (.dK (aR mv)))
 pm:(mv.map (·.1)).Perm ss
 en:∀m∈mv,H m.2=ρ (.lst ((E m.1).map V.str))
noncomputable def eN(g:Str)(ws ss:List Str)(p:Str)(i:Nat):List Str:=((ch g).take i).filterMap λc=>if bears ws (p++{#[c]})=true then τ else ρ (lend ss (p++{#[c]}))
theorem yr(m:List (Str×Int)):(aB m).map (·.2)=(m.map (·.2)).map V.int:=by
 unfold aB;rw[Ê,Ê];rfl
theorem NQ:∀st:Fin 36,∀sp∈[1,5,7,11,13,35],∀n∈[2,3,4],((jT st sp n).Nodup/\∀c∈jT st sp n,c∈ch eJ):=∅
theorem yt{st sp n:Nat}{x:Str}(j:st<36)(hs:sp∈[1,5,7,11,13,35])(hn:n∈[2,3,4])(g:ch x=jT st sp n):yn x:=by
 let{a,b}:=NQ ⟨st,j⟩ sp hs n hn
 have hl:x.9=n:=by grind [aM,jT,À]
 have c:n=2\/n=3\/n=4:=by simpa using hn
 exact{(),(),by rw[g];exact a,by rw[g];exact b}
theorem L6:∀d:Int,0<=d->d<8->∃n:Nat,wt ([.int 2,.int 2,.int 2,.int 3,.int 2,.int 4,.int 2,.int 3]:List V) d=ρ (.int (n:Int))/\n∈[2,3,4]:=under 8 λk=>{[2,2,2,3,2,4,2,3].getD k.val 0,by revert k;decide,by revert k;decide}
theorem L7:∀d:Int,0<=d->d<6->∃n:Nat,wt ([.int 1,.int 5,.int 7,.int 11,.int 13,.int 35]:List V) d=ρ (.int (n:Int))/\n∈[1,5,7,11,13,35]:=under 6 λk=>{[1,5,7,11,13,35].getD k.val 0,by revert k;decide,by revert k;decide}
theorem L8:∀d:Int,0<=d->d<8->∃n:Nat,wt ([.int 0,.int 1,.int 2,.int 3,.int 1,.int 2,.int 3,.int 6]:List V) d=ρ (.int (n:Int))/\n<=6:=under 8 λk=>{[0,1,2,3,1,2,3,6].getD k.val 0,by revert k;decide,by revert k;decide}
theorem La:∀d:Int,0<=d->d<8->∃n:Nat,wt ([.int 2,.int 3,.int 4,.int 2,.int 3,.int 4,.int 1,.int 5]:List V) d=ρ (.int (n:Int))/\1<=n/\n<=5:=under 8 λk=>{[2,3,4,2,3,4,1,5].getD k.val 0,by revert k;decide,by revert k;decide}
theorem Im{xs:List Int}(h:xs.9=4):∃a b c d,xs=[a,b,c,d]:=by
 match xs,h with
 |[a,b,c,d],_=>exact⟨a,b,c,d,rfl⟩
theorem Fj{n:Nat}{many wide:Int}(r:2<=n)(l:n<=4)(o:2<=many)(p:many<=8)(g:1<=wide)(j:wide<=6)(h:2<n->wide<=3):fh n many wide:=by
 have key:∀(m:Fin 5) (k:Fin 7),(2<m.val->k.val<=3)->(m.val:Int)^k.val<=64:=⋯
 let{k,rfl}:=wfx (ů ⋯ g)
 exact{o,p,g,j,key {n,whb l} {k,whb (Int.ofNat_le.mp j)} λz=>Int.ofNat_le.mp (h z)}
noncomputable def QS:List (Int×Int):=[(2,2),(2,3),(4,3),(3,3),(2,4),(3,2),(5,3),(8,5),(2,1),(6,4),(7,5),(7,6)]
theorem Lb:∀d:Int,0<=d->d<12->∃p,QS[d.toNat]?=ρ p/\2<=p.1/\p.1<=8/\1<=p.2/\p.2<=6:=under 12 λk=>{QS.getD k.val (0,0),by revert k;decide}
section
variable{w:World}
noncomputable def By(sz:Nat)(e:Str):V->V:=λv=>match v with
 |.str w=>.bl (decide ((w.9:Int)>(sz:Int))&&decide (V.str (eW w sz)=V.str e))
 |_=>.non
end
end K70
namespace L2
open PySem.Spec PyProof.Rows
section
variable{X:Cx}
noncomputable def NR(r:Str):V->V:=λv=>match v with
 |.str y=>.bl (Bs.KY y r)
 |_=>.non
theorem yu(r:Str)(ws:List Str):(ws.map V.str).map (NR r)=(ws.map λw=>Bs.KY w r).map V.bl:=by
 rw[Ê,Ê];rfl
theorem Cq(a b:Str):(cK a).map (NR b)=((Bs.ch a).map λc=>decide (c∈Bs.ch b)).map V.bl:=by
 unfold cK;rw[Ê,Ê];refine ü λc _=>?_;show V.bl (Bs.KY {#[c]} b)=V.bl (decide (c∈Bs.ch b));rw[Bs.Ic]
theorem Cr(g:List Str)(b:Str):putK (jf g) (Ã b:Key) (.bl true)=jf (Bs.wX g b):=by
 unfold putK Bs.wX
 by_cases h:b∈g
 .have a:((jf g).any λc=>decide (c.1=(Ã b:Key)))=true:=by
   refine ğ.mpr {(Ã b,.bl true),?_,decide_eq_true rfl};exact Ç.mpr ⟨b,h,rfl⟩
  rw[if_pos a,if_pos h];unfold jf;rw[Ê];refine ü λk _=>?_;show (if (Ã k:Key)=Ã b then((Ã k:Key),V.bl true) else((Ã k:Key),V.bl true))=_;split<;>rfl
 .have a:¬((jf g).any λc=>decide (c.1=(Ã b:Key)))=true:=by
   intro z
   let{p,d,e}:=ğ.mp z
   let{k,hk,rfl}:=Ç.mp d
   have:(Ã k:Key)=Ã b:=of_decide_eq_true e;have:k=b:=Ģ this;subst this;exact h hk
  rw[if_neg a,if_neg h];unfold jf;rw[Ò];rfl
theorem nj(h:(Bs.ch x).Nodup):∀i,i<=x.cps.size->cx (dU x) i=(Ü i).map (dU x)
 |0,_=>rfl
 |i+1,hi=>by
  have c:=nj h i 1.0;rw[gZ,c,wdv,Ò];unfold pq;rw[if_neg]
  .rfl
  .intro z
   let{y,d,e}:=ğ.mp z
   let{j,f,rfl}:=Ç.mp d
   have l:j<i:=Ą.mp f;have a:dU x j=dU x i:=eq_of_beq e;unfold dU at a
   have b:x.cps.getD j 0=x.cps.getD i 0:=by
    injection a with m
    have:=congrArg Array.toList m;simpa using this
   have g:∀k,(hk:k<x.cps.size)->x.cps.getD k 0=(Bs.ch x)[k]'(by simpa using hk):=λk hk=>by
    simp[Array.getD,hk]
   rw[g j 1.0,g i 1.0]at b;have:=(wdg h).mp b;omega
theorem yv(h:(Bs.ch x).Nodup):(cx (dU x) x.cps.size).9=x.9:=by
 rw[nj h _ (Å _),À,Ă];rfl
noncomputable def qZ(ws ps:List Str)(p:Str)(c:Nat):V:=if bears ws (p++{#[c]})=true then .non else .str (lend ps (p++{#[c]}))
noncomputable def rowOf(g:Str)(ws ps:List Str)(p:Str):List (Key×V):=(ch g).map λc=>((Ã ({#[c]}:Str):Key),qZ ws ps p c)
theorem Ct(g:Str)(ws ps:List Str)(p:Str):(rowOf g ws ps p).9=g.9:=by unfold rowOf;rw[À,aM]
theorem Ai(g:Str)(ws ps:List Str)(p:Str):((rowOf g ws ps p).map (·.2)).all cZ=true:=by
 unfold rowOf;rw[Ê];refine ø.mpr λv a=>?_
 let{c,1}:=Ç.mp a
 show cZ (qZ ws ps p c)=true;unfold qZ;split<;>rfl
theorem Io(h:c∈ch g):cF (rowOf g ws ps p) (Ã ({#[c]}:Str):Key)=ρ (qZ ws ps p c):=
 E3 (qZ ws ps p) (λc=>({#[c]}:Str)) (λa b e=>by
  grind) h
theorem af{i:Nat}{x:Str}{e:Expr}{j:TE}{g:Pos}(he:PE X e j)(l:X.N.Nodup:=by assumption)(hi:X.N[i]?=ρ x:=by rfl)(o:Loc X.env.scope x:=by first |exact ĥ rfl |exact Or.inr rfl)(hs:č e (ρ (.Name x g)) pos.line X.5=pure false:=by rfl)
 (p:X.fn x=true\/X.env.scope.names.lookup x=ρ .local:=by first |exact .inl rfl |exact .inr rfl |assumption):PS X (.Assign [.Name x g] e pos) (Hu j (dM i)):=
 Ei l hi o he hs p
theorem au{i:Nat}{x:Str}(g:X.N.Nodup:=by assumption)(hi:X.N[i]?=ρ x:=by rfl)(j:Loc X.env.scope x:=by first |exact ĥ rfl |exact Or.inr rfl)(l:X.fn x=true\/X.env.scope.names.lookup x=ρ .local:=by first |exact .inl rfl |exact .inr rfl |assumption):PG X (.Name x pos) (dM i):=
 iU g hi j l
noncomputable def aN(g:Str)(ws ss:List Str)(p:Str):List Str:=(ch g).filterMap λc=>if bears ws (p++{#[c]})=true then τ else ρ (lend ss (p++{#[c]}))
theorem yw(ws ss:List Str)(p:Str)(g:List Nat):((g.map (qZ ws ss p)).filter zD)=(g.filterMap λc=>if bears ws (p++{#[c]})=true then τ else ρ (lend ss (p++{#[c]}))).map V.str:=by
 induction g with
 |nil=>rfl
 |cons c g a=>
  grind [qZ,lend,zD]
theorem Aj(g:Str)(ws ss:List Str)(p:Str):(aN g ws ss p).9<=g.9:=by
 unfold aN;have:=wcM (λc=>if bears ws (p++{#[c]})=true then τ else ρ (lend ss (p++({#[c]}:Str)))) (ch g);rw[aM]at this;exact this
noncomputable def dg(g:Str)(ws ss:List Str):Nat->Str->Int
 |0,_=>1
 |n+1,p=>((aN g ws ss p).map (dg g ws ss n)).sum
noncomputable abbrev Lc(g:Str)(ws ss:List Str)(n:Nat):List (Key×V):=oE (λp=>.int (dg g ws ss n p)) ss
noncomputable def Tu(ws ss:List Str)(p:Str):V->V:=λv=>match v with
 |.str z=>qZ ws ss p (z.cps.getD 0 0)
 |_=>.non
theorem Cu(g:Str)(ws ss:List Str)(p:Str):(cK g).map (Tu ws ss p)=(ch g).map (qZ ws ss p):=by
 unfold cK;rw[Ê];rfl
end
section
variable{P:É}{w:World}{K:Á}{mg:Str->Option Value}{base:Heap}{N:List Str}{qual:Str}{f:Addr}{A:Around}{outer:List Env}{s:Shared}{H:Hp}{E:XK}
theorem xK.W3{x qual:Str}{st:Stmt}{f:Addr}{fd:ì}{N ps:List Str}{k:Nat}{sp:Sp}(F:xK K x qual st f fd)(S:qL N ps (ay st))(len:∀vs H Q E,sp vs H Q E->vs.9=ps.9)
 (j:∀(g:Value) (A:Around) (outer:List Env) (s:Shared) (H:Hp) (vs:List V) (Q:VK) (E:XK),cG k (A.deeper (envOfC qual (ay st) s.heap.objs.size f g))->sp vs H Q E ->
   ∃t,ui (rK (xE P w) P w K mg base N qual (ay st) f g A outer s H E) (bL st) t/\t (Ends.fn Q) (start N vs) H):aP P w K mg base (xE P w) (k+1) f fd ps sp:=by
 let{h,i,kV,c,pm,l,g,ct,d,rfl,lk,a}:=F.ex
 exact JE lk a S len λA outer s H vs Q E e b=>j g A outer s H vs Q E e b
end
section
variable{X:Cx}{k:Nat}{f C:Addr}{fd:ì}{ps:List Str}{sp:Sp}{x:Str}{p pos:Pos}{e:Expr}{es:List Expr}{t:TA}
theorem Fl(M:Mk X.K C f)(F:aP X.prog X.w X.K X.mg X.base (xE X.prog X.w) k f fd ps sp)(J:cG (k+1) X.A)(T:Gl X x)(U:X.mg x=ρ (.ref C))(hb:Binds X.K fd ps [])
 (ha:PA X.Hg (e::es) t) (l:(x==("__debug__":Str))=false:=by decide) (he:starEach (e::es) X.5=(false,eval e X.5)::starEach es X.5:=by rfl) (hpl:(backTo pos (starEach es X.5)).any (·.1)=false:=by rfl) :
 Qu X (.Call (.Name x p) (e::es) [] pos) (Km C sp t):=by
 refine{?_};intro d s σ H Q E I h;refine ģ (g7 I T U ?_ l);refine Ŭ (h₀:=X.base) I.ok.mod.Hd M.kp (HG (bG (ha pos d s σ H _ (I.kZ _) h) λc b o=>?_)) he hpl
 let{y,N,g,r,q}:=o.eG
 refine{g.fP,?_};have m:=q (b.8+1) b.heap.objs.size (g.aT.fresh (ı _)) (g.aT.fresh (Å _)) (Ù (ŀ _));have j:=Inv.made (C:=C) g;have n:Vals (V.ref (b.8+1)::y) (Æ (b.8+1)::c):=.cons rfl r
 have hl:(Æ (b.8+1)::c++[]).9=ps.9:=by
  have e:=n.9;rw[F.len _ _ _ _ m]at e;rw[ý];exact e.symm
 have i:=hb _ (Æ (b.8+1)::c) j.fP hl;rw[ý]at i
 refine đ (y3 (f:=f) g.fP M.makes M.init (beq_iff_eq.mp M.fn) (ē (F.run _ X.stack _ _ {Æ (b.8+1)::c,[]} (Æ (b.8+1)::c) _ _ E (J.make C c [])
  (j.Ek.make C c []) i n m) λr O a=>?_))
 cases r with
 |error e=>exact{_,_,j,a}
 |ok fl=>
  cases fl with
  |ret u=>
   let{v,z,B,D,G,L}:=j.after a
   subst G;exact{D,{V.ref (b.8+1),z,B,rfl,L}}
  |next=>exact ç a
  |brk=>exact ç a
  |cont=>exact ç a
end
end L2
namespace Sx
inductive Ip(vs:List V)(H:Hp)(Q:VK)(dJ:XK):Prop
 |mk (a b) (_:vs=[.str a,.str b]) (_:a.9<=1000) (_:∀H',a8 H H'->Q (.bl ((ch a).all λc=>decide (c∈ch b))) H')
inductive NS(vs:List V)(H:Hp)(Q:VK)(dJ:XK):Prop
 |mk (x) (_:vs=[.str x]) (_:yn x) (_:∀H',a8 H H'->Q (.bl true) H')
inductive NU(vs:List V)(H:Hp)(Q:VK)(dJ:XK):Prop
 |mk (t g) (_:vs=[.str t,.str g]) (_:wW g t) (_:∀H',a8 H H'->Q (.bl true) H')
structure aU(C:Addr)(H:Hp)(x:Addr)(g:Str)(ws ss ls:List Str):Prop where
 ex:∃(dx b d q:Addr) (mv:List (Str×Addr)),H x=ρ (.ins C dx (A9 g b d q))/\H b=ρ (.lst (ws.map V.str))/\H d=ρ (.dK (aR mv))/\mv.map (·.1)=ss/\(∀m∈mv,H m.2=ρ (.dK (rowOf g ws ss m.1)))/\H q=ρ (.lst (ls.map V.str))
 pm:ss.Perm (bQ ws "" ws)
 so:weq ss=true
 lv:qx ss (rowOf g ws ss) ls
theorem aU.same(B:aU C H x g ws ss ls)(s:a8 H j):aU C j x g ws ss ls:=by
 let{{a,b,d,q,c,e,f,h,i,k,n},p,o,l}:=B
 exact{{a,b,d,q,c,s _ _ e,s _ _ f,s _ _ h,i,λm r=>s _ _ (k m r),s _ _ n},p,o,l}
inductive Fm(C:Addr)(vs:List V)(H:Hp)(Q:VK)(dJ:XK):Prop
 |mk (x g ws ss ls) (_:vs=[.ref x]) (_:aU C H x g ws ss ls) (_:∀(l:Addr) (H':Hp),a8 H H'->H l=τ->H' l=ρ (.lst (ss.map V.str))->Q (.ref l) H')
theorem aU.nd(B:aU C H x g ws ss ls):ss.Nodup:=B.pm.nodup_iff.mpr (hU ws)
inductive Iq(C:Addr)(vs:List V)(H:Hp)(Q:VK)(dJ:XK):Prop
 |mk (x g ws ss ls) (_:vs=[.ref x]) (_:aU C H x g ws ss ls) (_:∀(l:Addr) (H':Hp),a8 H H'->H l=τ->H' l=ρ (.lst (ls.map V.str))->Q (.ref l) H')
inductive QT(C:Addr)(vs:List V)(H:Hp)(Q:VK)(dJ:XK):Prop
 |mk (x p g ws ss ls) (_:vs=[.ref x,.str p]) (_:aU C H x g ws ss ls) (_:p∈ss) (_:Q .non H)
inductive NV(C:Addr)(vs:List V)(H:Hp)(Q:VK)(dJ:XK):Prop
 |mk (x p c g ws ss ls) (_:vs=[.ref x,.str p,.str ⟨#[c]⟩]) (_:aU C H x g ws ss ls) (_:p∈ss) (_:c∈ch g) (_:Q (qZ ws ss p c) H)
theorem Cv(g:Str)(ws ss:List Str)(p:Str)(j:List Str):((ch g).map λc=>mL (qZ ws ss p c) (j.map V.str)).any id=gv (rowOf g ws ss p) j:=by grind [gv,rowOf,Ê,ŧ]
theorem vC(h:(cK g)[i]?=ρ y):∃c,(ch g)[i]?=ρ c/\y=.str {#[c]}/\i<(ch g).9/\c∈ch g/\(ch g).take (i+1)=(ch g).take i++[c]:=by
 unfold cK at h;rw[È]at h
 cases e:(ch g)[i]? with
 |none=>rw[show g.cps.toList[i]?=τ from e]at h;cases h
 |some z=>
  rw[show g.cps.toList[i]?=ρ z from e]at h;exact{z,rfl,(Î h).symm,(Ö.mp e).1,á e,by rw[Ć,e];rfl}
theorem Ak(g:Str):(cK g).9=g.9:=by grind [cK,aM]
theorem aU.few(B:aU C H x g ws ss ls)(hl:ws.9<=6)(hw:∀w∈ws,wW g w):ss.9<=25:=by
 have:=gj (ws:=ws) (e:="") (us:=ws) λw a=>(hw w a).hi;rw[B.pm.length_eq];lia
inductive Al(C:Addr)(vs:List V)(H:Hp)(Q:VK)(dJ:XK):Prop
 |mk (x p g ws ss ls) (_:vs=[.ref x,.str p]) (_:aU C H x g ws ss ls) (_:p∈ss) (_:g.9<=10) (_:∀(l:Addr) (H':Hp),a8 H H'->H l=τ->H' l=ρ (.lst ((aN g ws ss p).map V.str))->Q (.ref l) H')
inductive Cw(C:Addr)(vs:List V)(H:Hp)(Q:VK)(dJ:XK):Prop
 |mk (x g ws ss ls) (_:vs=[.ref x]) (_:aU C H x g ws ss ls) (_:g.9<=10) (_:ss.9<=900) (_:∀(d:Addr) (ev:List (Str×Addr)) (H':Hp),a8 H H'->H d=τ->H' d=ρ (.dK (aR ev))->ev.map (·.1)=ss->(∀m∈ev,H' m.2=ρ (.lst ((aN g ws ss m.1).map V.str)))->(∀m∈ev,H m.2=τ)->Q (.ref d) H')
inductive Ir(C:Addr)(vs:List V)(H:Hp)(Q:VK)(dJ:XK):Prop
 |mk (x n g ws ss ls) (_:vs=[.ref x,.int n]) (_:aU C H x g ws ss ls) (_:g.9<=10) (_:ss.9<=900) (_:0<=n) (_:n<=100000) (_:∀(l:Addr) (ts:List Addr) (H':Hp),a8 H H'->H l=τ->H' l=ρ (.lst (ts.map V.ref))->ts.9=n.toNat+1->(∀i t,ts[i]?=ρ t->H' t=ρ (.dK (Lc g ws ss i)))->Q (.ref l) H')
inductive Iu(C:Addr)(vs:List V)(H:Hp)(Q:VK)(dJ:XK):Prop
 |mk (x n g ws ss ls) (_:vs=[.ref x,.int n]) (_:aU C H x g ws ss ls) (_:g.9<=10) (_:ss.9<=900) (_:0<=n) (_:n<=100000) (_:∀H',a8 H H'->Q (.int (dg g ws ss n.toNat "")) H')
inductive Cy(C:Addr)(vs:List V)(H:Hp)(Q:VK)(dJ:XK):Prop
 |mk (x n g ws ss ls) (_:vs=[.ref x,.int n]) (_:aU C H x g ws ss ls) (_:g.9<=10) (_:0<=n) (_:n<=10) (_:Q (.int ((g.9:Int)^n.toNat)) H)
inductive yx(C:Addr)(vs:List V)(H:Hp)(Q:VK)(dJ:XK):Prop
 |mk (x many wide g ws ss ls) (_:vs=[.ref x,.int many,.int wide]) (_:aU C H x g ws ss ls) (_:g.9<=10) (_:fh g.length many wide) (_:Q (.bl true) H)
inductive QU(C:Addr)(vs:List V)(H:Hp)(Q:VK)(dJ:XK):Prop
 |mk (x p g ws ss ls) (_:vs=[.ref x,.str p]) (_:aU C H x g ws ss ls) (_:p∈ls) (_:Q .non H)
inductive Fn(C:Addr)(vs:List V)(H:Hp)(Q:VK)(dJ:XK):Prop
 |mk (x l rs qs g ws ss ls) (_:vs=[.ref x,.ref l]) (_:aU C H x g ws ss ls) (_:da H l rs qs) (_:(∀q∈qs,q.2∈ss/\q.1.9<=100)) (_:qs.9<=100) (_:g.9<=10) (_:∀(l':Addr) (QV:List Addr) (H':Hp),a8 H H'->H l'=τ->da H' l' QV (eK g ws ss qs)->Q (.ref l') H')
inductive Fo(C:Addr)(vs:List V)(H:Hp)(Q:VK)(dJ:XK):Prop
 |mk (x:Addr) (p:Str) (n:Nat) (g:Str) (ws ss ls:List Str) (_:vs=[.ref x,.str p,.int (n:Int)]) (_:aU C H x g ws ss ls) (_:p∈ls) (_:g.length^n<=100) (_:n<=10) (_:2<=g.9) (_:g.9<=10) (_:∀(l':Addr) (QV:List Addr) (H':Hp),a8 H H'->H l'=τ->da H' l' QV (aQ g ws ss ls n p)->Q (.ref l') H')
inductive yy(C:Addr)(vs:List V)(H:Hp)(Q:VK)(dJ:XK):Prop
 |mk (x:Addr) (n:Nat) (g:Str) (ws ss ls:List Str) (_:vs=[.ref x,.int (n:Int)]) (_:aU C H x g ws ss ls) (_:g.length^n<=100) (_:n<=10) (_:2<=g.9) (_:g.9<=10) (_:ss.9<=900) (_:∀(d:Addr) (ev:List (Str×Addr)) (H':Hp),a8 H H'->H d=τ->H' d=ρ (.dK (aR ev))->ev.map (·.1)=ls->(∀m∈ev,H' m.2=ρ (.lst (((aQ g ws ss ls n m.1).map (·.2)).map V.str)))->(∀m∈ev,H m.2=τ)->Q (.ref d) H')
inductive Fp(C:Addr)(vs:List V)(H:Hp)(Q:VK)(dJ:XK):Prop
 |mk (x p n g ws ss ls) (_:vs=[.ref x,.str p,.int n]) (_:aU C H x g ws ss ls) (_:p∈ss) (_:g.9<=10) (_:ss.9<=900) (_:0<=n) (_:n<=100000) (_:∀H',a8 H H'->Q (.int (dg g ws ss n.toNat p)) H')
inductive Cz(vs:List V)(H:Hp)(Q:VK)(dJ:XK):Prop
 |mk (de dw many n o ev f g ws ss ls) (_:vs=[.ref de,.int many,.ref dw]) (_:H de=ρ (.frz o (.dK (aR ev)))) (_:ev.map (·.1)=ls) (_:(∀m∈ev,H m.2=ρ (.lst (((aQ g ws ss ls n m.1).map (·.2)).map V.str)))) (_:g.length^n<=100) (_:ls.Nodup) (_:ls.9<=900) (_:2<=many) (_:many<=8) (_:Rd H dw (.dK (aB (bx f ls)))) (_:∀(d:Addr) (H':Hp),a8 H H'->H d=τ->H' d=ρ (.dK (aB (bx (jU g ws ss ls many n f) ls)))->Q (.ref d) H')
structure ji(g:Str)(ws ss ls:List Str)(many:Int)(n:Nat)(most:Int)(f:Str->Int):Prop where
 nn:∀p∈ls,0<=f p
 le:∀p∈ls,f p<=most
 fit:DG g ws ss ls many n f
 top:∀h:Str->Int,(∀p∈ls,h p<=most)->DG g ws ss ls many n h->∀p∈ls,h p<=f p
inductive Iv(C:Addr)(vs:List V)(H:Hp)(Q:VK)(dJ:XK):Prop
 |mk (x:Addr) (many:Int) (n:Nat) (most:Int) (g:Str) (ws ss ls:List Str) (_:vs=[.ref x,.int many,.int (n:Int),.int most]) (_:aU C H x g ws ss ls) (_:2<=g.9) (_:g.9<=10) (_:ss.9<=900) (_:fh g.length many n) (_:0<=most) (_:∀(d:Addr) (f:Str->Int) (H':Hp),a8 H H'->H d=τ->H' d=ρ (.dK (aB (bx f ls)))->ji g ws ss ls many n most f->Q (.ref d) H')
set_option genInjectivity true in
inductive Am(g:Str)(ws ss:List Str)(many:Int)(n:Nat)(most:Int):V->Prop where
 |some (k:Nat) (a:1<=k) (b:(k:Int)<=most) (c:dg g ws ss (k*n) "" < many^k) (d:∀j:Nat,1<=j->j<k->¬dg g ws ss (j*n) "" < many^j):Am g ws ss many n most (.int (k:Nat))
 |none (a:∀j:Nat,1<=j->(j:Int)<=most->¬dg g ws ss (j*n) "" < many^j):Am g ws ss many n most .non
inductive CA(C:Addr)(vs:List V)(H:Hp)(Q:VK)(dJ:XK):Prop
 |mk (x many wide most g ws ss ls) (_:vs=[.ref x,.int many,.int wide,.int most]) (_:aU C H x g ws ss ls) (_:g.9<=10) (_:ss.9<=900) (_:fh g.length many wide) (_:0<=most) (_:most<=100) (_:∀v H',a8 H H'->Am g ws ss many wide.toNat most v->Q v H')
inductive Fq(K:Á)(vs:List V)(H:Hp)(Q:VK)(dJ:XK):Prop
 |mk (r a ws) (_:vs=[.str r,.ref a]) (_:aG K H a (ws.map V.str)) (_:ws.9<=1000) (_:∀H',a8 H H'->Q (.bl (!bears ws r)) H')
inductive Iw(K:Á)(vs:List V)(H:Hp)(Q:VK)(dJ:XK):Prop
 |mk (a:Addr) (ns:List Int) (_:vs=[.ref a]) (_:aG K H a (ns.map V.int)) (_:∀(p lw:Addr) (g:Str) (ws:List Str) (H':Hp),a8 H H'->H p=τ->H lw=τ->H' p=ρ (.tup [.str g,.ref lw])->H' lw=ρ (.lst (ws.map V.str))->yn g->ws.9<=6->(∀w∈ws,wW g w)->Q (.ref p) H')
inductive Ld(K:Á)(vs:List V)(H:Hp)(Q:VK)(dJ:XK):Prop
 |mk (r a ws ss) (_:vs=[.str r,.ref a]) (_:aG K H a (ws.map V.str)) (_:ss.Perm (bQ ws "" ws)) (_:(∀w∈ws,w.9<=5)) (_:ws.9<=100) (_:bears ws r=false) (_:r.9<=1000) (_:∀H',a8 H H'->Q (.str (lend ss r)) H')
inductive NW(K:Á)(vs:List V)(H:Hp)(Q:VK)(dJ:XK):Prop
 |mk (a b:Addr) (many:Int) (wl:List Int) (nums:List Nat) (_:vs=[.ref a,.ref b,.int many]) (_:aG K H a (wl.map V.int)) (_:aG K H b ((nI nums).map V.int)) (_:1<=many) (_:many<=1000) (_:(nums.9:Int)=many) (_:(∀n∈nums,n<wl.9)) (_:∀(l:Addr) (i j:Nat) (H':Hp),a8 H H'->H l=τ->i<j->j<=nums.9->(((nums.take j).drop i).map λn=>wl.getD n 0).sum%many=0->H' l=ρ (.lst ((nI ((nums.take j).drop i)).map V.int))->Q (.ref l) H')
inductive Fs(C:Addr)(vs:List V)(H:Hp)(Q:VK)(dJ:XK):Prop
 |mk (x d:Addr) (many:Int) (n:Nat) (f:Str->Int) (g:Str) (ws ss ls:List Str) (_:vs=[.ref x,.int many,.int (n:Int),.ref d]) (_:aU C H x g ws ss ls) (_:(∀w∈ws,1<=w.9)) (_:(ch g).Nodup) (_:2<=g.9) (_:g.9<=10) (_:ss.9<=900) (_:fh g.length many n) (_:H d=ρ (.dK (aB (bx f ls)))) (_:(∀p∈ls,0<=f p)) (_:DG g ws ss ls many n f) (_:0<(ls.map f).sum) (_:∀(dl:Addr) (f':Str->Int) (H':Hp),(∀c o,H c=ρ o->c≠d->H' c=ρ o)->H dl=τ->H' dl=ρ (.dK (aB (bx f' ls)))->(∀p∈ls,0<=f' p)->DG g ws ss ls many n f'->0<(ls.map f').sum->(∀p∈ls,f' p<=f p)->(ls.map f').sum<=(ls.map f).sum->Q (.ref dl) H')
def Pj(CX:Addr)(g:Str)(bw ss:List Str)(many:Int)(n:Nat)(H:Hp)(E:XK):Prop:=∀(k:Nat) (d:Addr) (H':Hp),Am g bw ss many n 24 (.int (k:Nat))->a8 H H'->H d=τ->H' d=ρ (.xd [("length",.int (k:Nat)),("rows",.int (dg g bw ss (k*n) ""))])->E (.ref CX) (ρ d) H'
inductive Iy(C:Addr)(vs:List V)(H:Hp)(Q:VK)(dJ:XK):Prop
 |mk (x g bw ss ls) (_:vs=[.ref x]) (_:aU C H x g bw ss ls) (_:bw.9<=1000) (_:(∀w∈bw,w.9<=1000)) (_:∀(M:Int) (H':Hp),a8 H H'->F4 bw M->Q (.int M) H')
inductive Ft(C:Addr)(vs:List V)(H:Hp)(Q:VK)(dJ:XK):Prop
 |mk (x:Addr) (n:Nat) (g:Str) (bw ss ls:List Str) (_:vs=[.ref x,.int (n:Int)]) (_:aU C H x g bw ss ls) (_:1<=n) (_:n<=10) (_:(∀w∈bw,w.9<=900)) (_:bw.9<=1000) (_:∀(b:Nat) (H':Hp),a8 H H'->F5 bw n b->Q (.int (b:Int)) H')
inductive Le(C CB:Addr)(vs:List V)(H:Hp)(Q:VK)(dJ:XK):Prop
 |mk (x xb dx:Addr) (fs:List (Str×V)) (n:Nat) (g:Str) (bw ss ls:List Str) (_:vs=[.ref x]) (_:H x=ρ (.ins C dx fs)) (_:fs.lookup ("band":Str)=ρ (.ref xb)) (_:fs.lookup ("wide":Str)=ρ (.int (n:Int))) (_:aU CB H xb g bw ss ls) (_:1<=n) (_:n<=10) (_:(∀w∈bw,w.9<=900)) (_:bw.9<=1000) (_:∀(b:Nat) (H':Hp),a8 H H'->F5 bw n b->Q (.int (b:Int)) H')
section
variable{w:World}{K:Á}
inductive Iz(K:Á)(vs:List V)(H:Hp)(Q:VK)(dJ:XK):Prop
 |mk (r a ws) (_:vs=[.str r,.ref a]) (_:aG K H a (ws.map V.str)) (_:ws.9<=1000) (_:∀H',a8 H H'->Q (.bl (bears ws r)) H')
inductive IA(K:Á)(vs:List V)(H:Hp)(Q:VK)(dJ:XK):Prop
 |mk (a:Addr) (g:Str) (ws:List Str) (_:vs=[.ref a,.str g]) (_:aG K H a (ws.map V.str)) (_:ws.9<=6) (_:(∀w∈ws,wW g w)) (_:∀H',a8 H H'->Q .non H')
inductive Fu(K:Á)(vs:List V)(H:Hp)(Q:VK)(dJ:XK):Prop
 |mk (a ws) (_:vs=[.ref a]) (_:aG K H a (ws.map V.str)) (_:ws.9<=6) (_:(∀w∈ws,w.9<=5)) (_:∀(l:Addr) (ss:List Str) (H':Hp),a8 H H'->H l=τ->H' l=ρ (.lst (ss.map V.str))->ss.Perm (bQ ws "" ws)->weq ss=true->Q (.ref l) H')
inductive IB(K:Á)(vs:List V)(H:Hp)(Q:VK)(dJ:XK):Prop
 |mk (p g a b ws ps) (_:vs=[.str p,.str g,.ref a,.ref b]) (_:aG K H a (ws.map V.str)) (_:aG K H b (ps.map V.str)) (_:("":Str)∈ps) (_:p.9<=100) (_:g.9<=10) (_:(ch g).Nodup) (_:ws.9<=1000) (_:∀(d:Addr) (H':Hp),a8 H H'->H d=τ->H' d=ρ (.dK (rowOf g ws ps p))->Q (.ref d) H')
inductive Lf(K:Á)(C:Addr)(vs:List V)(H:Hp)(Q:VK)(dJ:XK):Prop
 |mk (x dx g a ws) (_:vs=[.ref x,.str g,.ref a]) (_:H x=ρ (.ins C dx [])) (_:aG K H a (ws.map V.str)) (_:yn g) (_:ws.9<=6) (_:(∀w∈ws,wW g w)) (_:∀(ss ls:List Str) (H':Hp),aU C H' x g ws ss ls->(∀b o,H b=ρ o->b≠x->H' b=ρ o)->Q .non H')
theorem CC(hw:∀w∈ws,w.9<=5):∀k∈bQ ws "" ws,k.9<=5:=by
 have h1:∀(w:Str),w.9<=5->∀(n:Nat) (ks:List Str),(∀k∈ks,k.9<=5)->∀k∈upTo ws w ks n,k.9<=5:=by
  intro w zr n
  induction n with
  |zero=>intro ks h;exact h
  |succ n ih=>
   intro ks h k hk;rw[fi]at hk;unfold oU wX at hk;split at hk
   .exact ih ks h k hk
   .split at hk
    .exact ih ks h k hk
    .rcases Ú.mp hk with z |z
     .exact ih ks h k z
     .have:k=eW w (1+n):=by simpa using z
      rw[this];exact Ï (Ck _ _) zr
 have h2:∀(us ks:List Str),(∀w∈us,w.9<=5)->(∀k∈ks,k.9<=5)->∀k∈us.foldl (addW ws) ks,k.9<=5:=by
  intro us
  induction us with
  |nil=>intro ks _ h;exact h
  |cons w us ih=>intro ks hu h;exact ih _ (λv hv=>hu v (Ô _ hv)) (h1 w (hu w (Ø ..)) _ ks h)
 exact h2 ws [""] hw (λk hk=>by have:k="":=by simpa using hk
                                subst this
                                decide+kernel)
end
end Sx
namespace Bs
section
variable{ss:List Str}{E:Str->List Str}
theorem iG{α:Type}[DecidableEq α]:∀{g l:List α},g.Nodup->(∀k∈g,k∈l)->g.9<=l.9
 |[],l,_,_=>à _
 |k::g,l,nd,h=>by
  rw[ó]at nd;have hk:=h k (Ø ..);have:=iG (l:=l.erase k) nd.2 λj a=>(List.mem_erase_of_ne (λz=>nd.1 (by rw[<-z];exact a))).mpr (h j (Ô _ a));rw[List.length_erase_of_mem hk]at this;have:0<l.9:=List.length_pos_of_mem hk;rw[õ]
  lia
structure QW(g:Str)(L:Nat)(m:List (Str×Int)):Prop where
 nd:(m.map (·.1)).Nodup
 sh:∀k∈m.map (·.1),(∀c∈ch k,c∈ch g)/\k.9<=L-1
theorem yz:∀{m:List (Str×Int)},(m.map (·.1)).Nodup->(k,v)∈m->fK m k=ρ v
 |[],_,h=>nomatch h
 |(j,u)::m,nd,h=>by
  unfold fK;rw[Ñ,ó]at nd;rcases æ.mp h with z |z
  .cases z;rw[if_pos rfl]
  .rw[if_neg (λe=>nd.1 (by rw[e];exact Ç.mpr {_,z,rfl}))];exact yz nd.2 z
theorem Bz:∀{m:List (Str×Int)},(m.map (·.1)).Nodup->k∈m.map (·.1)->(aB m).map (λg=>if g.1=(Ã k:Key) then(g.1,V.int ((fK m k).getD 0+v)) else g)=aB (bump m k v)
 |[],_,h=>nomatch h
 |(j,u)::m,nd,h=>by
  rw[Ñ,ó]at nd;unfold fK bump
  by_cases e:j=k
  .rw[if_pos e,if_pos e];subst e;show (if (Ã j:Key)=Ã j then((Ã j:Key),V.int (u+v)) else(Ã j,V.int u))::_=(Ã j,V.int (u+v))::_;rw[if_pos rfl];congr 1;exact y8 nd.1
  .rw[if_neg e,if_neg e]
   have a:k∈m.map (·.1):=by
    rcases æ.mp h with z |z
    .exact absurd z.symm e
    .exact z
   show (if (Ã j:Key)=Ã k then((Ã j:Key),V.int ((fK m k).getD 0+v)) else(Ã j,V.int u))::_=(Ã j,V.int u)::_;rw[if_neg (λz=>e (Ģ z))];congr 1;exact Bz nd.2 a
theorem Fv(nd:(m.map (·.1)).Nodup):putK (aB m) (Ã k:Key) (V.int ((fK m k).getD 0+v))=aB (bump m k v):=by
 by_cases h:k∈m.map (·.1)
 .unfold putK;rw[if_pos,Bz nd h]
  let{p,a,e}:=Ç.mp h
  refine ğ.mpr {((Ã p.1:Key),V.int p.2),Ç.mpr ⟨p,a,rfl⟩,decide_eq_true ?_};rw[<-e]
 .rw[cR _ (by rw[bT,iX h];rfl),iX h,yi h];unfold aB;rw[Ò];show _++[((Ã k:Key),V.int (0+v))]=_;rw[ń];rfl
structure cw(ss:List Str)(m:List (Str×Int)):Prop where
 nd:(m.map (·.1)).Nodup
 sh:∀k∈m.map (·.1),k∈ss
theorem cw.nil:cw ss []:={ĸ,λk h=>nomatch h}
theorem cw.bump(h:cw ss m)(hk:k∈ss):cw ss (bump m k v):=by
 by_cases c:k∈m.map (·.1)
 .exact{by rw[iE,if_pos c];exact h.nd,by rw[iE,if_pos c];exact h.sh}
 .refine{?_,?_}
  .rw[iE,if_neg c];exact Ū.mpr {h.nd,ó.mpr {λz=>(nomatch z),ĸ},λa ha b d z=>c (by rw[<-Ó.mp d,<-z];exact ha)}
  .rw[iE,if_neg c];intro j e;rcases Ú.mp e with z |z
   .exact h.sh j z
   .rw[Ó.mp z];exact hk
theorem cw.len(h:cw ss m):m.9<=ss.9:=by
 have:=iG h.nd h.sh;rw[À]at this;exact this
theorem An{g:List (Str×Str)}{hs:List Str}(nd:g.Nodup)(hn:hs.Nodup)(w:Str)(e:Nat) :
 (((g.filter λq=>decide (q.2∈hs)).map λq=>(q.1,hs.idxOf q.2)):List (Str×Nat)).count (w,e)=if e<hs.9/\(w,hs.getD e "")∈g then 1 else 0:=by
 have inj:∀q∈g.filter (λq=>decide (q.2∈hs)),((q.1,hs.idxOf q.2):Str×Nat)=(w,e)↔(e<hs.9/\q=(w,hs.getD e "")):=λq a=>by
  grind
 have gen:∀L:List (Str×Str),L.Nodup->(∀q∈L,((q.1,hs.idxOf q.2):Str×Nat)=(w,e)↔(e<hs.9/\q=(w,hs.getD e "")))->(L.map λq=>((q.1,hs.idxOf q.2):Str×Nat)).count (w,e)=if e<hs.9/\(w,hs.getD e "")∈L then 1 else 0:=by
  intro L
  induction L with
  |nil=>grind
  |cons q L b=>
   grind
 rw[gen _ (nd.filter _) inj];refine Pa {λz=>{z.1,(Ý.mp z.2).1},λz=>{z.1,Ý.mpr {z.2,decide_eq_true ?_}}};rw[Õ,Ä z.1];exact û _
theorem yA{a b:List Int}(h:a.Perm b):a.sum=b.sum:=by
 induction h with
 |nil=>rfl
 |cons x _ c=>grind
 |swap x y l=>grind
 |trans _ _ d e=>grind
theorem Ao(ws:List Int)(g:List (Str×Nat)){ns:List Nat}(nd:ns.Nodup)(j:∀n∈ns,n<g.9):aZ ws (b0 (ns.map λn:Nat=>(n:Int)) g)=(ns.map λi=>ws.getD (g.getD i ("",0)).2 0).sum:=by
 unfold b0;rw[vq];refine yA (List.Perm.map _ (A0 ((List.nodup_range' ..).filter _) nd λx=>?_));rw[Ý,wh9,decide_eq_true_eq,Ç];constructor
 .grind
 .grind
theorem CD(ws:List Int)(ns:List Int)(g:List (Str×Nat)):aZ ws (b0 ns g)+aZ ws (aX ns g)=aZ ws g:=by
 have gen:∀(f:Nat->Bool) (k:Nat) (l:List (Str×Nat)),aZ ws (b6 f k l)+aZ ws (b6 (λi=>!f i) k l)=aZ ws l:=by
  intro f k l
  induction l generalizing k with
  |nil=>rfl
  |cons q l a=>
   have a:=a (k+1);show aZ ws (if f k then q::b6 f (k+1) l else b6 f (k+1) l)+aZ ws (if !f k then q::b6 (λi=>!f i) (k+1) l else b6 (λi=>!f i) (k+1) l)=_;rw[c9]
   cases f k with
   |true=>
    rw[if_pos ⋯,if_neg ⋯,c9]
    lia
   |false=>
    rw[if_neg ⋯,if_pos ⋯,c9]
    lia
 exact gen _ 0 g
theorem IC{R:Addr->Prop}:(∀y∈ys,∃q,y=.ref q/\R q)->∃ps:List Addr,ys=ps.map V.ref/\∀q∈ps,R q:=by
 induction ys with
 |nil=>exact λ_=>{[],rfl,λq h=>nomatch h}
 |cons y ys a=>
  intro h
  let{q,rfl,c}:=h y (Ø ..)
  let{ps,rfl,d}:=a λz b=>h z (Ô _ b)
  exact{q::ps,rfl,λr e=>by
   grind}
set_option genInjectivity true in
inductive Runs(many:Int)(Pk:List Str)(Pm:List Int)(IE:List (List (Str×Nat))):List DF->List Str->List Int->List (List (Str×Nat))->Prop
 |nil:Runs many Pk Pm IE [] Pk Pm IE
 |snoc {l:List DF} {hs:List Str} {ws:List Int} {lns:List (List (Str×Nat))} {d:Nat} {ns:List Nat} {w:Int}:Runs many Pk Pm IE l hs ws lns->d2 ws lns many (d:Int) (nI ns) w=true->ns.9<=1000->Runs many Pk Pm IE (l++[(d,ns,w)]) (df hs d) (cj ws d w) (gF lns d (nI ns))
noncomputable def vD(wl:List (List (Str×Nat)))(s:Str×Nat)(t:Nat):Str×Nat:=(s.1++((wl.getD s.2 []).getD t ("",0)).1,((wl.getD s.2 []).getD t ("",0)).2)
noncomputable def fL(wl:List (List (Str×Nat)))(d:Nat)(ts:List Nat):Str×Nat:=ts.foldl (vD wl) ("",d)
theorem CF(wl:List (List (Str×Nat)))(d:Nat)(ts:List Nat)(t:Nat):fL wl d (ts++[t])=vD wl (fL wl d ts) t:=by
 grind [fL]
noncomputable def nk(E:Str->List Str)(a:List (Str×Int))(p:Str×Int):List (Str×Int):=(E p.1).foldl (λa q=>bump a q p.2) a
noncomputable def mV(E:Str->List Str)(m:List (Str×Int)):List (Str×Int):=m.foldl (nk E) []
noncomputable def cz(E:Str->List Str):Nat->List (Str×Int)->List (Str×Int)
 |0,m=>m
 |n+1,m=>mV E (cz E n m)
theorem vE(F:Str->Int)(v:Int):∀(j:List Str) (a:List (Str×Int)),wsum F (j.foldl (λa q=>bump a q v) a)=wsum F a+v*(j.map F).sum
 |[],a=>by simp
 |q::j,a=>by
  rw[Θ,vE F v j,vz,Ñ,ï,Int.mul_add]
  lia
theorem vF(F:Str->Int):∀(m a:List (Str×Int)),wsum F (m.foldl (nk E) a)=wsum F a+wsum (λp=>((E p).map F).sum) m
 |[],a=>by rw[yh,Int.add_zero];rfl
 |p::m,a=>by
  rw[Θ,vF F m,iD];unfold nk;rw[vE]
  lia
theorem my(m:List (Str×Int)):∀(n:Nat) (F:Str->Int),wsum F (cz E n m)=wsum (qW E F n) m
 |0,F=>rfl
 |n+1,F=>by
  show wsum F ((cz E n m).foldl (nk E) [])=_;rw[vF,yh,ń,my m n];exact congrArg (λG=>wsum G m) (funext λp=>wR F n p)
theorem vG(m:List (Str×Int))(a:Nat):∀b,cz E b (cz E a m)=cz E (a+b) m
 |0=>rfl
 |b+1=>congrArg (mV E) (vG m a b)
theorem vH{j:List Str}(l:∀q∈j,q∈ss):∀{a:List (Str×Int)},cw ss a->cw ss (j.foldl (λa q=>bump a q v) a):=by
 induction j with
 |nil=>exact λh=>h
 |cons q j b=>exact λh=>b (λx c=>l x (Ô _ c)) (h.bump (l q (Ø ..)))
theorem cw.pass(j:∀p,∀q∈E p,q∈ss):∀{m a:List (Str×Int)},cw ss a->cw ss (m.foldl (nk E) a):=by
 intro m
 induction m with
 |nil=>exact λh=>h
 |cons p m b=>exact λh=>b (vH (j p.1) h)
theorem cw.cz(j:∀p,∀q∈E p,q∈ss){m:List (Str×Int)}(h:cw ss m):∀n,cw ss (cz E n m)
 |0=>h
 |n+1=>cw.pass j cw.nil
theorem IG{a:Str->Int}{l m:List Str}(s:l.Sublist m):m.Nodup->(∀p∈m,p∉l->a p=0)->(m.map a).sum=(l.map a).sum:=by
 induction s with
 |slnil=>exact λ_ _=>rfl
 |@cons l m x s c=>
  intro nd h
  let{d,e}:=ó.mp nd
  rw[Ñ,ï,h x (Ø ..) λz=>d (s.subset z),ń];exact c e λp b f=>h p (Ô _ b) f
 |@cons_cons l m x s c=>
  intro nd h
  let{d,e}:=ó.mp nd
  rw[Ñ,ï,Ñ,ï,c e λp b f=>h p (Ô _ b) λz=>by
   rcases æ.mp z with z |z
   .exact d (z ▸ b)
   .exact f z]
structure TopK(E:Str->List Str)(ss:List Str)(many:Int)(n:Nat)(most:Int)(w:Str->Int):Prop where
 nn:∀p∈ss,0<=w p
 le:∀p∈ss,w p<=most
 top:∀h:Str->Int,(∀p∈ss,0<=h p/\h p<=most)->(∀p∈ss,many*h p<=qW E h n p)->∀p∈ss,h p<=w p
theorem Lg{w:Str->Int}(nd:ss.Nodup)(j:p∈ss)(v0:0<=v)(lt:v<w p):(ss.map λq=>(uq w p v q).toNat).sum<(ss.map λq=>(w q).toNat).sum:=by
 induction ss with
 |nil=>cases j
 |cons x ss a=>
  let{b,c}:=ó.mp nd
  rw[Ñ,ï,Ñ,ï]
  by_cases e:x=p
  .subst e
   have:(ss.map λq=>(uq w x v q).toNat)=ss.map λq=>(w q).toNat:=ü λq d=>by
    unfold uq;rw[if_neg λ(z:q=x)=>b (z ▸ d)]
   rw[this];have:uq w x v x=v:=if_pos rfl;rw[this]
   lia
  .have:=a c (by rcases æ.mp j with z |z;exact absurd z.symm e;exact z);have f:uq w p v x=w x:=if_neg e;rw[f]
   lia
end
structure gb(g:Str)(ws ss ls:List Str)(many:Int)(n:Nat)(f:Str->Int):Prop where
 gr:∃most:Int,1<=most/\most<=8/\ji g ws ss ls many n most f/\∀(m:Int) (h:Str->Int),1<=m->m<most->ji g ws ss ls many n m h->(ls.map h).sum=0
 ps:0<(ls.map f).sum
 le:(ls.map f).sum<=40
def fC(g:Str)(ws ss ls:List Str)(many:Int)(n:Nat):Prop:=∃most:Int,1<=most/\most<=9/\(∀(m:Int) (h:Str->Int),1<=m->m<most->ji g ws ss ls many n m h->(ls.map h).sum=0)/\(most=9\/∃f,ji g ws ss ls many n most f/\40<(ls.map f).sum)
theorem CG{f h:Str->Int}(a:ji g ws ss ls many n most f)(b:ji g ws ss ls many n most h):∀p∈ls,f p=h p:=λp c=>by
 have d:=a.top h b.le b.fit p c;have e:=b.top f a.le a.fit p c
 lia
theorem oY{f h:Str->Int}(a:ji g ws ss ls many n most f)(b:ji g ws ss ls many n most h):(ls.map f).sum=(ls.map h).sum:=congrArg Ř (ü λp c=>CG a b p c)
structure fm(g:Str)(bw ss ls:List Str)(many:Int)(n:Nat)(f:Str->Int)(rg:List DF)(hs:List Str)(ws:List Int)(lns:List (List (Str×Nat))):Prop where
 rn:Runs many (aj ls f) ((aj ls f).map f) (bz g bw ss ls n (aj ls f)) rg hs ws lns
 b:hO many hs ws lns
 cv:DE (aQ g bw ss ls n) hs lns
 sm:ws.sum=(ls.map f).sum
 sl:rg.9+(aj ls f).9=hs.9
 sb:∀p∈hs,p∈ls
def lj(g:Str)(bw ss:List Str)(many:Int)(n:Nat):Prop:=∀j:Nat,1<=j->(j:Int)<=24->¬dg g bw ss (j*n) "" < many^j
theorem vI{g:Str}{ws ss ls:List Str}{many:Int}{n:Nat}{f:Str->Int}(a:gb g ws ss ls many n f)(b:fC g ws ss ls many n):False:=by grind [cases gb,fC,cases False,Int.lt_trichotomy,oY]
theorem nq{g:Str}{bw ss:List Str}{many:Int}{n k:Nat}(a:lj g bw ss many n)(b:Am g bw ss many n 24 (.int (k:Nat))):False:=by grind [lj,cases Am,cases False]
section
variable{g:Str}{ws ss:List Str}
theorem Lh(n:Nat):∀p,0<=dg g ws ss n p:=by
 induction n with
 |zero=>intro p;show (0:Int)<=1;decide
 |succ n a=>intro p;exact ml λe _=>a e
theorem Fw(q:Str×Str)(h:Str->Int):((gH g ws ss q).map λr=>h r.2).sum=((aN g ws ss q.2).map h).sum:=by
 unfold gH aN
 induction ch g with
 |nil=>rfl
 |cons c a b=>
  grind
theorem vJ(nd:(ch g).Nodup):∀n,(L4 g n).Nodup
 |0=>ó.mpr {λz=>(nomatch z),ĸ}
 |n+1=>by
  show ((ch g).flatMap λc=>(L4 g n).map λr=>({#[c]}:Str)++r).Nodup;have l:=vJ nd n
  have key:∀f:List Nat,f.Nodup->(f.flatMap λc=>(L4 g n).map λr=>({#[c]}:Str)++r).Nodup:=by
   intro f
   induction f with
   |nil=>intro _;exact ĸ
   |cons c f i=>
    intro hn;rw[ó]at hn;rw[wdQ];refine Ū.mpr {?_,i hn.2,λa ha b m z=>?_}
    .refine List.Pairwise.map _ ?_ l;intro a b j z;have:=congrArg ch z;rw[bC,bC]at this;exact j (cY (List.append_cancel_left this))
    .let{r,1}:=Ç.mp ha
     let{d,hd,k}:=we2.mp m
     let{q,1}:=Ç.mp k
     have:=congrArg ch z;rw[bC,bC,F6,F6]at this
     have e:c=d:=by
      have h:=this;rw[wgd,wgd]at h;exact(wgy h).1
     exact hn.1 (by rw[e];exact hd)
  exact key _ nd
theorem Fx:∀(n:Nat) (p:Str),qW (aN g ws ss) (λ_=>1) n p=dg g ws ss n p
 |0,_=>rfl
 |n+1,p=>congrArg Ř (ü λq _=>Fx n q)
theorem Fy(n:Nat):((cz (aN g ws ss) n [("",1)]).map (·.2)).sum=dg g ws ss n "":=by rw[Ch,my,yj,Fx]
theorem Fz(p:Str):∀(n:Nat) (F:Str->Int),qW (aN g ws ss) F n p=((nh g ws ss p n).map λq=>F q.2).sum
 |0,F=>by show _=F p+0;rw[Int.add_zero];rfl
 |n+1,F=>by
  rw[<-wR,Fz p n];show _=(((nh g ws ss p n).flatMap (gH g ws ss)).map λq=>F q.2).sum;rw[ya];exact congrArg Ř (ü λq _=>(Fw q F).symm)
end
end Bs
namespace L2
open PySem.Spec PyProof.Rows PySem.Calls
section
variable{X:Cx}{prog:É}{w:World}{A:Around}{s:Shared}{E:Value->Shared->Prop}
theorem pG:∀ns:List Int,preSum (λi=>ns.getD i 0) ns.9=ns.sum
 |[]=>rfl
 |n::ns=>by
  show preSum (λi=>(n::ns).getD i 0) (ns.9+1)=n+ns.sum;rw[PySem.W.kdu_shift,<-pG ns];rfl
theorem fM{h h':Heap}{p:Addr}{g:Array Value}(e:h.IsList p g)(hk:∀b o,h.get? b=ρ o->h'.get? b=ρ o):h'.IsList p g:=let ⟨o,a,r⟩:=e;{o,hk _ _ a,r}
noncomputable abbrev JN(t:Tok):List (Str×Value):=[(į "start",.int 1 t)]
theorem FA(l:Addr)(t:Tok):checkTypeCall "enumerate" {[.ref l],JN t}=pure .unit:=by kernel_rfl
theorem FC(l:Addr)(t:Tok):we3 "enumerate.__new__" {[.type "enumerate",.ref l],JN t}=pure .unit:=by kernel_rfl
theorem Ap(o l:Addr)(t:Tok):argsOk "object.__init__" {[.ref o,.ref l],JN t}:=by unfold argsOk;kernel_rfl
theorem Aq{P:Nat->Value->Prop}{St:Nat->Heap->Prop}(D:Draws prog w A it g n P St):Draws prog w A it g (n+1) (λj v=>∃i,j=i+1/\P i v) (λj h=>∃i,j=i+1/\St i h) where
 live:=λ_ _ {i,_,st}=>D.live i _ st
 frame:=λ_ h a ⟨i,e,st⟩ hk=>{i,e,D.frame i h a st hk}
 item:=λ_ s Q E l ⟨i,e,st⟩ b=>D.item i s Q E () st λx a c d f sb=>b x a c ⟨i,e,d⟩ {i+1,(),f} sb
 done:=λs Q E ⟨i,e,st⟩ k=>D.done s Q E ((show n=i by lia) ▸ st) k
noncomputable def FD(K:Á)(a:Addr):It:=
 {λi H=>∃xs x,aG K H a xs/\xs[i]?=ρ x,λi H x H'=>∃T xv,H T=τ/\x=.ref T/\H'=upd H T (.tup [.int ((i+1:Nat):Int),xv])/\∀xs,aG K H a xs->xs[i]?=ρ xv,λi H=>∃xs,aG K H a xs/\xs.9<=i}
def Li(K:Á)(ta:TA):TI:=λσ H R=>ta σ H λvs H1=>∃a xs,vs=[.ref a]/\aG K H1 a xs/\R (FD K a) H1
theorem CH{K:Á}{a:Addr}{xs:List V}{g:TG}{t:TS}{D:Ends}{σ:St}{H:Hp}(Pv:Nat->St->Hp->Prop)(I:Pv 0 σ H)(hl:∀i σ H,i<=xs.9->Pv i σ H->aG K H a xs)
 (hs:∀i x σ H T,xs[i]?=ρ x->Pv i σ H->H T=τ->g (.ref T) σ (upd H T (.tup [.int ((i+1:Nat):Int),x])) λj r=>t (D.lp (Pv (i+1))) j r) (hd:∀σ H,Pv xs.length σ H->D.nx σ H) :
 ∃W:Nat->Nat->St->Hp->Prop,(∃m,W 0 m σ H)/\∀i m σ H,W i m σ H ->
  ((FD K a).stop i H/\D.nx σ H)\/((FD K a).go i H/\∃N:St->Hp->Prop,(∀l o,N l o->∃C,C<m/\W (i+1) C l o)/\∀x o,(FD K a).ug i H x o->g x σ o λj r=>t (D.lp N) j r):=by
 refine{λi m σ H=>m=xs.9-i/\i<=xs.9/\Pv i σ H,{xs.9,by simp,à _,I},?_};rintro i m σ H ⟨rfl,hi,p⟩;have q:=hl i σ H hi p
 by_cases b:i<xs.9
 .refine .inr {{xs,xs[i],q,by simp[b]},Pv (i+1),λl o c=>{xs.9-(i+1),(),rfl,b,c},λx o y=>?_}
  let{T,d,f,h,k,y}:=y
  subst h k;exact hs i d σ _ T (y xs q) p f
 .have e:i=xs.9:=();subst e;exact .inl {{xs,q,Å _},hd σ H p}
noncomputable def sR(v d:Addr):HO:=.ext λh=>h.IsItemsView v d
noncomputable def QX(d:Addr)(o:Obj)(kvs:List (Key×V)):It:=
 {λi H=>H d=ρ (.frz o (.dK kvs))/\i<kvs.9,λi H x H'=>∃T kv,H T=τ/\x=.ref T/\kvs[i]?=ρ kv/\H'=upd H T (.tup [kV kv.1,kv.2]),λi H=>H d=ρ (.frz o (.dK kvs))/\kvs.9<=i}
theorem CI:Hy X "dict.items" (λx xs H Q=>∃d o kvs,x=.ref d/\xs=[]/\H d=ρ (.frz o (.dK kvs))/\∀v,H v=τ->Q (.ref v) (upd H v (sR v d))):=by
 intro a s σ H x xs v j Q I f g h
 let{d,o,kvs,rfl,rfl,hd,q}:=h
 cases f;have:=g.zero;subst this
 let{l,lo,i,rel,c}:=hH I.aT (.inr ⟨o,hd⟩)
 refine wfl wfB c.typeIs PySem.F.entry_dict_items (PySem.F.args_dict_items_1 _) (meets_dict_items (b8 X.prog X.w) d lo) {⟨i,c⟩,?_};refine{.ref s.8,_,I.laid (t':=s.toks) (o:=sR s.heap.objs.size d) (λb o e=>Ð _ e) (Å _) {{_,ã _ rfl,rfl,rfl},{_,ã _ rfl},λm n ⟨o,e,r⟩ k=>{o,k o e,r}},rfl,q _ (I.aT.fresh (Å _))}
def QY(to:TE):TE:=λσ H Q=>to σ H λx H1=>∃d o kvs,x=.ref d/\H1 d=ρ (.frz o (.dK kvs))/\∀v,H1 v=τ->Q (.ref v) (upd H1 v (sR v d))
def IH(tl:TE):TI:=λσ H R=>tl σ H λx H1=>∃v d o kvs,x=.ref v/\H1 v=ρ (sR v d)/\H1 d=ρ (.frz o (.dK kvs))/\R (QX d o kvs) H1
end
section
variable{t:TA}
def NX(K:Á)(t:TA):TE:=λσ H Q=>t σ H λvs H1=>∃(a:Addr) (ps:List Addr),vs=[.ref a]/\aG K H1 a (ps.map V.ref)/\ps≠[]/\(∀q∈ps,∃ys,aG K H1 q ys)/\∀q∈ps,Q (.ref q) H1
end
end L2
namespace K70
section
variable{w:World}{K:Á}
inductive W4(g:Str)(ws ss:List Str)(ev:List (Str×Addr))(o:Obj)(x de lt:Addr)(n:Int)(H:Hp)(i:Nat)(σ:St)(H4:Hp):Prop
 |mk (ts:List Addr) (dc:Addr) (v4 v6 v7:Option V) (_:σ=[ρ (.ref x),ρ (.int n),ρ (.ref de),ρ (.ref dc),v4,ρ (.ref lt),v6,v7]) (_:ts.9=i+1) (_:ts[i]?=ρ dc) (_:H4 lt=ρ (.lst (ts.map V.ref))) (_:∀j t,ts[j]?=ρ t->H4 t=ρ (.dK (Lc g ws ss j))) (_:H4 de=ρ (.frz o (.dK (aR ev)))) (_:∀m∈ev,H4 m.2=ρ (.lst ((aN g ws ss m.1).map V.str))) (_:a8 H H4)
inductive NY(K:Á)(CX CO CB:Addr)(g:Str)(ws ss ls:List Str)(many:Int)(n:Nat)(H:Hp)(v:V):Prop
 |wr (_:v=.non) (_:lj g ws ss many n) (f:Str->Int) (_:gb g ws ss ls many n f)
 |sc (e d:Addr) (k:Nat) (_:v=.ref e) (_:Am g ws ss many n 24 (.int (k:Nat))) (_:H e=ρ (XC e CX (ρ d))) (_:H d=ρ (.xd [("length",.int (k:Nat)),("rows",.int (dg g ws ss (k*n) ""))]))
 |op (e:Addr) (_:v=.ref e) (_:lj g ws ss many n) (_:fC g ws ss ls many n) (_:H e=ρ (XC e CO τ))
inductive yB(g:Str)(ws ss ls:List Str)(many:Int)(n:Nat)(T:List V):Prop
 |wr (_:lj g ws ss many n) (f:Str->Int) (_:gb g ws ss ls many n f) (_:T=[.str "writer",.int 0,.int 0])
 |sc (k:Nat) (_:Am g ws ss many n 24 (.int (k:Nat))) (_:T=[.str "scarce",.int (k:Nat),.int (dg g ws ss (k*n) "")])
 |op (_:lj g ws ss many n) (_:fC g ws ss ls many n) (_:T=[.str "open",.int 0,.int 0])
theorem Am.num(h:Am g ws ss many n most v){k:Nat}(e:v=.int (k:Nat)):dg g ws ss (k*n) "" < many^k/\1<=k/\∀j:Nat,1<=j->j<k->¬dg g ws ss (j*n) "" < many^j:=by
 cases h with
 |some i a b c d=>
  obtain rfl:i=k:=by have:=V.int.inj e;lia
  exact⟨c,a,d⟩
 |none=>cases e
inductive vK(K:Á)(vs:List V)(H:Hp)(Q:VK)(dJ:XK):Prop
 |mk (way:Int) (g:Str) (a:Addr) (many:Int) (n:Nat) (ws ss ls:List Str) (_:vs=[.int way,.str g,.ref a,.int many,.int (n:Int)]) (_:aG K H a (ws.map V.str)) (_:yn g) (_:ws.9<=6) (_:∀w∈ws,wW g w) (_:fh g.length many n) (_:ss.Perm (bQ ws "" ws)) (_:weq ss=true) (_:qx ss (rowOf g ws ss) ls)
  (_:∀(r:Addr) (T:List V) (H':Hp),a8 H H'->yB g ws ss ls many n T->H' r=ρ (.tup T)->Q (.ref r) H'):vK K vs H Q dJ
inductive II(vs:List V)(H:Hp)(Q:VK)(dJ:XK):Prop
 |mk (g lw ws ss) (_:vs=[.str g,.ref lw]) (_:H lw=ρ (.lst (ws.map V.str))) (_:g.9<=4) (_:ws.9<=6) (_:∀w∈ws,1<=w.9) (_:∀w∈ws,w.9<=5) (_:∀w∈ws,∀c∈ch w,c∈ch g) (_:ss.Perm (bQ ws "" ws)) (_:∀(d:Addr) (mv:List (Str×Addr)) (H':Hp),a8 H H'->H d=τ->H' d=ρ (.dK (aR mv))->(mv.map (·.1)).Perm ss->(∀m∈mv,H' m.2=ρ (.lst ((aN g ws ss m.1).map V.str)))->Q (.ref d) H')
inductive W5(g:Str)(ws ss:List Str)(lw dm dq:Addr)(H:Hp)(q:Nat)(σ:St)(H3:Hp):Prop
 |mk (mv qs v4 v5 v6) (_:q=ss.9-mv.9) (_:σ=[ρ (.str g),ρ (.ref lw),ρ (.ref dm),ρ (.ref dq),v4,v5,v6]) (_:a8 H H3) (_:H3 dm=ρ (.dK (aR mv))) (_:H3 dq=ρ (.lst (qs.map V.str))) (_:∀m∈mv,m.2≠dq/\H3 m.2=ρ (.lst ((aN g ws ss m.1).map V.str))) (_:(mv.map (·.1)++qs).Nodup) (_:∀p∈mv.map (·.1)++qs,p∈ss) (_:("":Str)∈mv.map (·.1)++qs) (_:∀m∈mv,∀t∈aN g ws ss m.1,t∈mv.map (·.1)++qs)
inductive W6(g:Str)(ws ss:List Str)(lw dm dq a:Addr)(p:Str)(mv:List (Str×Addr))(H4:Hp)(i:Nat)(σ:St)(H5:Hp):Prop
 |mk (qs v5 v6) (_:σ=[ρ (.str g),ρ (.ref lw),ρ (.ref dm),ρ (.ref dq),ρ (.str p),v5,v6]) (_:H5 dq=ρ (.lst (qs.map V.str))) (_:H5 a=ρ (.lst ((eN g ws ss p i).map V.str))) (_:∀c o,H4 c=ρ o->c≠dq->c≠a->H5 c=ρ o) (_:((mv++[(p,a)]).map (·.1)++qs).Nodup) (_:∀x∈(mv++[(p,a)]).map (·.1)++qs,x∈ss) (_:("":Str)∈(mv++[(p,a)]).map (·.1)++qs) (_:∀m∈mv,∀t∈aN g ws ss m.1,t∈(mv++[(p,a)]).map (·.1)++qs) (_:∀t∈eN g ws ss p i,t∈(mv++[(p,a)]).map (·.1)++qs)
inductive FE(K:Á)(vs:List V)(H:Hp)(Q:VK)(dJ:XK):Prop
 |mk (d dc:Addr) (o:Obj) (mv:List (Str×Addr)) (E:Str->List Str) (ss:List Str) (m:List (Str×Int)) (n:Nat) (_:vs=[.ref d,.ref dc,.int (n:Int)]) (_:zq H d o mv E ss) (_:∀p,∀q∈E p,q∈ss) (_:ss.9<=25) (_:H dc=ρ (.dK (aB m))) (_:cw ss m) (_:n<=1000) (_:∀(dr:Addr) (H':Hp),(∀c ob,H c=ρ ob->c≠dc->H' c=ρ ob)->(dr=dc\/H dr=τ)->H' dr=ρ (.dK (aB (cz E n m)))->Q (.ref dr) H')
inductive Ar(K:Á)(vs:List V)(H:Hp)(Q:VK)(dJ:XK):Prop
 |mk (d:Addr) (o:Obj) (mv:List (Str×Addr)) (g:Str) (ws ss:List Str) (many:Int) (n:Nat) (_:vs=[.ref d,.int many,.int (n:Int)]) (_:zq H d o mv (aN g ws ss) ss) (_:("":Str)∈ss) (_:ss.9<=25) (_:2<=many) (_:many<=8) (_:n<=6) (_:∀H',lj g ws ss many n->a8 H H'->Q .non H') (_:∀(k:Nat) (r:Addr) (H':Hp),Am g ws ss many n 24 (.int (k:Nat))->a8 H H'->H' r=ρ (.tup [.int (k:Nat),.int (dg g ws ss (k*n) "")])->Q (.ref r) H')
structure Pn(H:Hp)(E:Str->List Str)(n:Nat)(ev:List (Str×Addr))(ks:List Str):Prop where
 ke:ev.map (·.1)=ks
 en:∀m∈ev,∃o,H m.2=ρ (.frz o (.dK (aB (cz E n [(m.1,1)]))))
inductive FG(K:Á)(vs:List V)(H:Hp)(Q:VK)(dJ:XK):Prop
 |mk (d:Addr) (o:Obj) (mv:List (Str×Addr)) (E:Str->List Str) (ss:List Str) (n:Nat) (_:vs=[.ref d,.int (n:Int)]) (_:zq H d o mv E ss) (_:∀p,∀q∈E p,q∈ss) (_:ss.Nodup) (_:ss.9<=25) (_:n<=6) (_:∀(de:Addr) (ev:List (Str×Addr)) (H':Hp),a8 H H'->H de=τ->H' de=ρ (.dK (aR ev))->Pn H' E n ev (mv.map (·.1))->Q (.ref de) H')
inductive IJ(K:Á)(vs:List V)(H:Hp)(Q:VK)(dJ:XK):Prop
 |mk (de oe ev E ks ss many most n) (_:vs=[.ref de,.int many,.int most]) (_:H de=ρ (.frz oe (.dK (aR ev)))) (_:Pn H E n ev ks) (_:ks.Perm ss) (_:ss.Nodup) (_:ss.9<=25) (_:∀p,∀q∈E p,q∈ss) (_:2<=many) (_:many<=8) (_:0<=most) (_:most<=8) (_:∀(dw:Addr) (w:Str->Int) (H':Hp),a8 H H'->H dw=τ->H' dw=ρ (.dK (aB (bx w ks)))->TopK E ss many n most w->(∀p∈ss,many*w p<=qW E w n p)->Q (.ref dw) H')
inductive FH(K:Á)(vs:List V)(H:Hp)(Q:VK)(dJ:XK):Prop
 |mk (d:Addr) (o:Obj) (mv:List (Str×Addr)) (g:Str) (ws ss ls:List Str) (many:Int) (n:Nat) (_:vs=[.ref d,.int many,.int (n:Int)]) (_:zq H d o mv (aN g ws ss) ss) (_:("":Str)∈ss) (_:ss.Nodup) (_:ss.9<=25) (_:qx ss (rowOf g ws ss) ls) (_:2<=many) (_:many<=8) (_:1<=n) (_:n<=6) (_:∀(b:Bool) (H':Hp),a8 H H'->(b=true->fC g ws ss ls many n)->(b=false->∃f,gb g ws ss ls many n f)->Q (.bl b) H')
end
end K70
namespace L2
open PySem.Spec PyProof.Rows
section
variable{X:Cx}
theorem fN{ss:List Str}(nd:ss.Nodup){i:Nat}{p:Str}(h:ss[i]?=ρ p):p∉ss.take i:=by
 intro b
 let{j,c,a}:=wer.mp b
 rw[wf9]at a;rw[Û]at c;have d:=(Ö.mp h).2;have:=(wdg nd).mp (a.trans d.symm)
 lia
theorem bX.same(t:bX H j g)(s:a8 H l):bX l j g:=t.keep λr a h=>s _ _ h
theorem Rd.same(h:Rd H a u)(s:a8 H g):Rd g a u:=by
 rcases h with h |⟨o,h⟩
 .exact .inl (s _ _ h)
 .exact .inr {o,s _ _ h}
theorem b7.len{K:Á}{H:Hp}:∀{g:List iQ} {xs:List V},b7 K H g xs->xs.9=g.9
 |[],xs,h=>by
  have e:xs=[]:=h;subst e;rfl
 |d::g,_,h=>by
  let{v,a,rfl,_,hl}:=h
  rw[õ,õ,b7.len hl]
theorem b7.at{K:Á}{H:Hp}{g:List iQ}{xs:List V}(h:b7 K H g xs){i:Nat}{d:iQ}(e:g[i]?=ρ d):∃x,xs[i]?=ρ x/\bu K H d x:=by
 have hi:i<g.9:=(Ö.mp e).1;have a:xs[i]?=ρ (xs[i]'(by rw[h.len];exact hi)):=Ä _
 let{c,b,r}:=h.get i _ a
 rw[e]at b;cases b;exact{_,a,r}
theorem dA(s:a8 g H):a8 (aE H j) (aE g j):=λa o e=>by
 unfold aE at e ⊢
 cases h:H a with
 |none=>rw[h]at e;rw[none_of s h];exact e
 |some z=>rw[h]at e;cases e
theorem fD(kp:∀b o,H b=ρ o->b≠x->g b=ρ o):a8 (eD H x) g:=λd o e=>by
 unfold eD at e
 by_cases hd:d=x
 .grind
 .grind
mutual
theorem bu.off{K:Á}{H:Hp}{x C j:Addr}{fs:List (Str×V)}(g:H x=ρ (.ins C j fs)):∀(d:iQ) (v:V),bu K H d v->bu K (eD H x) d v
 |.at _,_,h=>h
 |.tup c,_,h=>by
  let{a,b,e,f,hl}:=h
  exact{a,b,e,f7 f (λz=>by grind),b7.off g c b hl}
 |.lst c,_,h=>by
  let{a,b,e,f,hl}:=h
  exact{a,b,e,Ke g f (λ_ z=>by cases z) (λ_ _ z=>by cases z),b7.off g c b hl}
theorem b7.off{K:Á}{H:Hp}{x C l:Addr}{fs:List (Str×V)}(j:H x=ρ (.ins C l fs)):∀(g:List iQ) (xs:List V),b7 K H g xs->b7 K (eD H x) g xs
 |[],_,h=>h
 |d::g,_,h=>by
  let{v,a,e,b,hl}:=h
  exact{v,a,e,bu.off j d v b,b7.off j g a hl}
end
theorem Lj(g:X.A.units<ð):jE X (ò .NotEq) (Ql X.K):=by
 intro f s σ H x y v u Q I n o h
 let{a,b,c,rfl,rfl,ha,p,q}:=h
 cases n;cases o
 let{d,r,i,_}:=I.list ha
 let{k,t,l,_}:=I.list p
 have D:=r.9;have m:=t.9
 by_cases hl:c.9=0
 .refine SeqAt.RcNeAt.lists (e:=λj=>true) i.isList l.isList (by simp only[â];simp at m;lia) g (λj B E=>?_) X.prog X.w _ _ ?_
  .have C:j<d.9:=by simpa using B
   lia
  .refine{.bl _,H,I,rfl,?_};have:c=[]:=ũ hl;subst this;rw[DW];exact q
 .refine SeqAt.RcNeAt.lists_lengths i.isList l.isList (by simp only[â,bne_iff_ne];simp at m;lia) g X.prog X.w _ _ {.bl true,H,I,rfl,?_}
  cases c with
  |nil=>exact absurd rfl hl
  |cons z G=>exact q
theorem sS(y:Int)(ns:List Int):mL (.int y) (ns.map V.int)=decide (y∈ns):=by
 unfold mL;rw[ŧ]
 induction ns with
 |nil=>rfl
 |cons a l b=>
  rw[Ş,b];show ((a==y) ||decide (y∈l))=decide (y∈a::l)
  by_cases e:a=y
  .subst e;simp
  .grind
end
section
variable{X:Cx}{H:Hp}{scope:ú}{x x2 x3:Str}{ys:List Str}{ix:List Nat}{cl:List (Str×Addr)}{L:Addr}
theorem yC(hc:X.calm=true)(B:bH X scope x ys ix)(g:bH X scope x2 ys ix)(j:x≠x2)(cl L s H ex pn):PG (bc X scope ([x,x2]++ys) cl L s H ex pn) (.Tuple [.Name x o,.Name x2 l] p pt) (DP X.K 2 (jF (dM 0) (jF (dM 1) DN))):=by
 have c:(relabel scope X.5).names.lookup x=ρ .local:=ź B.var;have a:(relabel scope X.5).names.lookup x2=ρ .local:=ź g.var
 have b:(x::x2::ys).Nodup:=by
  have:=B.nd;have:=g.nd
  grind
 exact fS hc (aV (iU b rfl (.inl c) (.inr c)) (aV (iU b rfl (.inl a) (.inr a)) dQ))
theorem FI(hc:X.calm=true)(B:bH X scope x ys ix)(g:bH X scope x2 ys ix)(j:bH X scope x3 ys ix)(l:x≠x2/\x≠x3/\x2≠x3)(cl L s H ex pn):PG (bc X scope ([x,x2,x3]++ys) cl L s H ex pn) (.Tuple [.Name x r,.Name x2 o,.Name x3 p] t pt) (DP X.K 3 (jF (dM 0) (jF (dM 1) (jF (dM 2) DN)))):=by
 have d:(relabel scope X.5).names.lookup x=ρ .local:=ź B.var;have b:(relabel scope X.5).names.lookup x2=ρ .local:=ź g.var;have c:(relabel scope X.5).names.lookup x3=ρ .local:=ź j.var
 have a:(x::x2::x3::ys).Nodup:=by
  have:=B.nd;have:=g.nd;have:=j.nd
  grind
 exact fS hc (aV (iU a rfl (.inl d) (.inr d)) (aV (iU a rfl (.inl b) (.inr b)) (aV (iU a rfl (.inl c) (.inr c)) dQ)))
end
section
variable{P:É}{w:World}{K:Á}{mg:Str->Option Value}{base:Heap}{x qual:Str}{st:Stmt}{f:Addr}{fd:ì}{N ps:List Str}{k:Nat}{sp:Sp}
theorem xK.dC(F:xK K x qual st f fd)
 (l:∀(j:Value) (A:Around) (outer:List Env) (s:Shared) (H:Hp) (vs:List V) (Q:VK) (E:XK),N.Nodup->cG k (A.deeper (envOfC qual (ay st) s.heap.objs.size f j))->sp vs H Q E ->
   ∃t,ui (rK cI P w K mg base N qual (ay st) f j A outer s H E).Hg (bL st) t/\t (Ends.fn Q) (start N vs) H)
 (a:(ay st).kind=.function:=by rfl) (b:(ay st).isCoroutine=false:=by rfl) (c:(ay st).isGenerator=false:=by rfl) (nd:N.Nodup:=by decide+kernel) (e:N.take ps.9=ps:=by rfl)
 (g:∀x∈ps,(ay st).names.lookup x=ρ .local\/(ay st).names.lookup x=ρ .cell:=by decide+kernel) (h:∀y∈(ay st).names,y.2≠.free:=by decide+kernel)
 (len:∀vs H Q E,sp vs H Q E->vs.9=ps.9:=by intro _ _ _ _ h;cases h;subst_vars;rfl):aP P w K mg base cI (k+1) f fd ps sp:=
 F.ok ⟨a,b,c,nd,e,g,h⟩ len λj A outer s H vs Q E=>l j A outer s H vs Q E nd
theorem xK.CJ(F:xK K x qual st f fd)
 (l:∀(j:Value) (A:Around) (outer:List Env) (s:Shared) (H:Hp) (vs:List V) (Q:VK) (E:XK),N.Nodup->cG k (A.deeper (envOfC qual (ay st) s.heap.objs.size f j))->sp vs H Q E ->
   ∃t,ui (rK (xE P w) P w K mg base N qual (ay st) f j A outer s H E) (bL st) t/\t (Ends.fn Q) (start N vs) H)
 (a:(ay st).kind=.function:=by rfl) (b:(ay st).isCoroutine=false:=by rfl) (c:(ay st).isGenerator=false:=by rfl) (nd:N.Nodup:=by decide+kernel) (e:N.take ps.9=ps:=by rfl)
 (g:∀x∈ps,(ay st).names.lookup x=ρ .local\/(ay st).names.lookup x=ρ .cell:=by decide+kernel) (h:∀y∈(ay st).names,y.2≠.free:=by decide+kernel)
 (len:∀vs H Q E,sp vs H Q E->vs.9=ps.9:=by intro _ _ _ _ h;cases h;subst_vars;rfl):aP P w K mg base (xE P w) (k+1) f fd ps sp:=
 F.W3 ⟨a,b,c,nd,e,g,h⟩ len λj A outer s H vs Q E=>l j A outer s H vs Q E nd
end
end L2
namespace Bs
theorem da.same{H g:Hp}{l:Addr}{j:List Addr}{o:List (Str×Str)}(r:da H l j o)(s:a8 H g):da g l j o:={s _ _ r.l,r.t.same s}
theorem da.push{H:Hp}{l:Addr}{g:List Addr}{j:List (Str×Str)}(R:da H l g j){r:Addr}(o:H r=τ)(q:Str×Str):da (upd (upd H r (.tup (jQ q))) l (.lst (g.map V.ref++[.ref r]))) l (g++[r]) (j++[q]):=by
 have hl:(upd H r (.tup (jQ q))) l=ρ (.lst (g.map V.ref)):=a8.upd o _ _ R.l;refine{by rw[a5,Ò];rfl,?_};rw[Ò];refine bX.keep ((R.t.same (a8.upd o)).snoc a5) λa b h=>?_;rw[aa (λz=>by rw[z,hl]at h;cases h)];exact h
noncomputable def jj(q:Str×Nat):iQ:=.tup [.at (.str q.1),.at (.int (q.2:Int))]
noncomputable def bR(qs:List (Str×Nat)):iQ:=.lst (qs.map jj)
noncomputable def mz(lns:List (List (Str×Nat))):iQ:=.lst (lns.map bR)
noncomputable def sT(hs:List Str):iQ:=.lst (hs.map λh=>.at (.str h))
noncomputable def lC(ws:List Int):iQ:=.lst (ws.map λw=>.at (.int w))
theorem FJ(h:bu K H (sT hs) v):∃a,v=.ref a/\aG K H a (hs.map V.str):=by
 let{a,b,rfl,f,hl}:=h
 refine{a,rfl,?_}
 have:b=hs.map V.str:=by
  refine whc λi=>?_
  cases e:b[i]? with
  |none=>
   have:=hl.len;rw[À]at this;rw[wge (by rw[À];have:=wff.mp e;lia)]
  |some x=>
   let{d,hd,r}:=hl.get i x e
   rw[È]at hd ⊢
   cases c:hs[i]? with
   |none=>rw[c]at hd;cases hd
   |some z=>
    rw[c]at hd;cases hd;rw[r.1];rfl
 rw[<-this];exact .inl f
theorem gJ(h:bu K H (lC ws) v):∃a,v=.ref a/\aG K H a (ws.map V.int):=by
 let{a,b,rfl,f,hl}:=h
 refine{a,rfl,?_}
 have:b=ws.map V.int:=by
  refine whc λi=>?_
  cases e:b[i]? with
  |none=>
   have:=hl.len;rw[À]at this;rw[wge (by rw[À];have:=wff.mp e;lia)]
  |some x=>
   let{d,hd,r}:=hl.get i x e
   rw[È]at hd ⊢
   cases c:ws[i]? with
   |none=>rw[c]at hd;cases hd
   |some z=>
    rw[c]at hd;cases hd;rw[r.1];rfl
 rw[<-this];exact .inl f
theorem nr(h:H a=ρ (.lst (hs.map V.str))):bu K H (sT hs) (.ref a):=
 {a,1,.inl h,b7.oH _ _ (by simp) λi d y hd b=>by
   rw[È]at hd b
   cases e:hs[i]? with
   |none=>rw[e]at hd;cases hd
   |some z=>rw[e]at hd b;cases hd;cases b;exact⟨rfl,rfl⟩}
theorem iH(h:H a=ρ (.lst (ws.map V.int))):bu K H (lC ws) (.ref a):=
 {a,1,.inl h,b7.oH _ _ (by simp) λi d y hd b=>by
   rw[È]at hd b
   cases e:ws[i]? with
   |none=>rw[e]at hd;cases hd
   |some z=>rw[e]at hd b;cases hd;cases b;exact⟨rfl,rfl⟩}
theorem mB(h:bu K H (bR g) v):∃a xs,v=.ref a/\aG K H a xs/\xs.9=(g.map eh).9/\∀(i:Nat) (q:V×V),(g.map eh)[i]?=ρ q->∃r,xs[i]?=ρ (.ref r)/\H r=ρ (.tup [q.1,q.2]):=by
 let{a,xs,rfl,j,hl}:=h
 refine{a,xs,rfl,.inl j,by rw[hl.len,À,À],λi q b=>?_};rw[È]at b
 cases e:g[i]? with
 |none=>rw[e]at b;cases b
 |some z=>
  rw[e]at b;cases b
  let{x,k,r}:=hl.at (i:=i) (d:=jj z) (by grind)
  let{l,p,rfl,f,m}:=r
  let{v1,s,rfl,{rfl,_},n}:=m
  let{t,c,rfl,{rfl,_},o}:=n
  rw[show c=[] from o]at f;exact⟨l,k,f⟩
theorem nu(g:H r=τ)(q:Str×Nat):bu K (aE H (upd H r (.tup [.str q.1,.int (q.2:Int)]))) (jj q) (.ref r):=
 {r,1,bJ g a5,.str q.1,[.int (q.2:Int)],rfl,⟨rfl,rfl⟩,.int (q.2:Int),[],rfl,⟨rfl,rfl⟩,rfl}
structure bM(K:Á)(C:Addr)(H:Hp)(x:Addr)(hs:List Str)(ws:List Int)(lns:List (List (Str×Nat))):Prop where
 ex:∃dx a b c,H x=ρ (.ins C dx (zW a b c))/\bu K H (sT hs) (.ref a)/\bu K H (lC ws) (.ref b)/\bu K H (mz lns) (.ref c)
theorem yD(p:Nat->Bool)(h:b7 K H (g.map jj) xs):b7 K H ((b6 p 0 g).map jj) (b6 p 0 xs):=by
 rw[<-vd];exact h.pick p 0 _ _
theorem wZ{α:Type}{K:Á}{H:Hp}(f:α->V):∀(g:List α) (xs:List V),b7 K H (g.map λz=>iQ.at (f z)) xs->xs=g.map f
 |[],xs,h=>h
 |z::g,_,h=>by
  let{v,a,rfl,{rfl,_},hl}:=h
  rw[wZ f g a hl];rfl
theorem x9(h:bu K H (sT hs) (.ref a)):Rd H a (.lst (hs.map V.str)):=by
 let{d,b,e,c,hl}:=h
 cases e;rwa[wZ V.str hs b hl]at c
theorem IK(h:bu K H (lC ws) (.ref a)):Rd H a (.lst (ws.map V.int)):=by
 let{d,b,e,c,hl}:=h
 cases e;rwa[wZ V.int ws b hl]at c
theorem ez(h:bu K H (bR j) v):∃a l,v=.ref a/\aG K H a (l.map V.ref)/\bX H l ((j.map eh).map jG):=by
 let{a,d,rfl,n,b,k}:=mB h
 have ex:d=(d.map λv=>match v with |.ref r=>r |_=>0).map V.ref:=by
  rw[Ê];refine(ν d).symm.trans (ü λv o=>?_)
  let{i,hi,rfl}:=Ŗ o
  let{r,m,_}:=k i _ (Ä (by rw[<-b];exact hi))
  rw[Ä hi]at m;rw[Î m];rfl
 refine{a,1,by rw[<-ex];exact n,by rw[À,À,b],λi r s f c=>?_};rw[È]at f c
 cases e:(j.map eh)[i]? with
 |none=>rw[e]at c;cases c
 |some q=>
  rw[e]at c;cases c
  let{t,g,p}:=k i q e
  rw[g]at f;cases f;exact p
theorem hO.split{many:Int}{hs:List Str}{ws:List Int}{lns:List (List (Str×Nat))}(S:hO many hs ws lns){d:Nat}{ns:List Int}{w:Int}(h:d2 ws lns many (d:Int) ns w=true):hO many (df hs d) (cj ws d w) (gF lns d ns)/\d<hs.9:=by
 unfold d2 at h;simp only[Ď]at h
 let{n,A,v,x}:=h
 rw[î]at A v x
 let{E,G,B}:=sC v
 let{H,I,C}:=sC x
 have j:=S.w;have o:=S.l
 have hd:d<lns.9:=by
  unfold dO at n;rw[Ď]at n;have:=of_decide_eq_true n.2
  lia
 have f:d<ws.9:=();have r:(df hs d).9=hs.9+1:=by unfold df;rw[Ì];rfl
 have a:lns.getD d []∈lns:=by
  rw[Õ,Ä hd];exact û hd
 have k:=S.e _ a
 have c:∀l∈(lns++[aX ns (lns.getD d [])]).set d (b0 ns (lns.getD d [])),∀q∈l,q.2<hs.9:=λl hl=>by
  rcases wcG hl with z |z
  .rcases Ú.mp z with z |z
   .exact S.e l z
   .rw[Ó.mp z];exact λq a=>k q (gi a)
  .rw[z];exact λq a=>k q (gi a)
 refine{{by rw[r,zX,j],?_,λz y=>?_,λl hl q a=>?_,λi l hl=>?_},()}
 .unfold gF;rw[r,À,Ų,Ì,o];rfl
 .unfold cj at y;rcases wcG y with q |q
  .rcases Ú.mp q with q |q
   .exact S.p z q
   .rw[Ó.mp q];lia
  .rw[q];lia
 .rw[r];unfold gF at hl
  let{m,s,rfl}:=Ç.mp hl
  rcases zZ a with e |e
  .lia
  .have:=c m s q e
   lia
 .unfold gF at hl;rw[È]at hl
  cases e:((lns++[aX ns (lns.getD d [])]).set d (b0 ns (lns.getD d [])))[i]? with
  |none=>rw[e]at hl;cases hl
  |some m=>
   rw[e]at hl;cases hl;have D:=c m (á e);rw[show lns.9=ws.length by lia,lA f m (λq a=>by rw[j];exact D q a)]
   by_cases g:i=d
   .subst g;rw[ξ (by rw[Ì];lia)]at e;cases e;rw[pC f];exact B
   .rw[ο (λz=>g z.symm)]at e
    by_cases t:i<lns.9
    .rw[Ĉ t]at e;rw[n7 () g];exact S.b i m e
    .have u:i=lns.9:=by
      have:=(Ö.mp e).1;rw[Ì]at this;simp at this
      lia
     subst u;rw[ĉ (Å _),ħ]at e;cases e;rw[show lns.9=ws.length by lia,pD f];exact C
theorem ri:∀{hs:List Str} {lns:List (List (Str×Nat))} {i:Nat} {l:List (Str×Nat)},hs[i]?=ρ p->lns[i]?=ρ l->l.count z<=gG p z hs lns
 |y::hs,x::lns,0,l,a,b=>by
  cases a;cases b;show _<=(if p=p then x.count z else 0)+_;rw[if_pos rfl]
  lia
 |h::hs,x::lns,i+1,l,a,b=>by
  have:=ri (z:=z) (hs:=hs) (lns:=lns) (i:=i) (by simpa using a) (by simpa using b);show _<=_+gG p z hs lns
  lia
 |[],_,_,_,a,_=>by simp at a
 |_::_,[],_,_,_,b=>by simp at b
theorem DE.split{B:Str->List (Str×Str)}(h:DE B hs lns)(hl:lns.9=hs.9)(he:∀l∈lns,∀q∈l,q.2<hs.9)(hd:d<hs.9)(ns:List Int):DE B (df hs d) (gF lns d ns):=by
 intro p w e
 have t:lns.getD d []∈lns:=by
  rw[Õ,Ä ()];exact û _
 have k:∀l∈(lns++[aX ns (lns.getD d [])]).set d (b0 ns (lns.getD d [])),∀q∈l,q.2<lns.9:=λl b=>by
  rw[hl];rcases wcG b with z |z
  .rcases Ú.mp z with z |z
   .exact he l z
   .rw[Ó.mp z];exact λq c=>he _ t q (gi c)
  .rw[z];exact λq c=>he _ t q (gi c)
 have n:(hs++[hs.getD d ""]).getD d ""=hs.getD d "":=by
  rw[Õ,Ĉ hd,<-Õ]
 have o:(lns++[aX ns (lns.getD d [])]).getD d []=lns.getD d []:=by
  rw[Õ,Ĉ (),<-Õ]
 unfold df gF;rw[yc p (z':=(w,if e=lns.length then d else e)) _ _ λl b=>pE () w e l (k l b)];have r:=yb p (w,if e=lns.length then d else e) (b0 ns (lns.getD d [])) (hs++[hs.getD d ""]) (lns++[aX ns (lns.getD d [])]) d (by rw[Ì,Ì];simp[hl]) (by rw[Ì];lia);rw[n,o,vo p _ _ _ hs lns hl.symm]at r;have u:=sD (λi=>decide ((i:Int)∈ns)) (w,if e=lns.length then d else e) 0 (lns.getD d []);have y:(b0 ns (lns.getD d [])).count (w,if e=lns.length then d else e)+(aX ns (lns.getD d [])).count (w,if e=lns.length then d else e)=(lns.getD d []).count (w,if e=lns.length then d else e):=u;have v:=h p w (if e=lns.length then d else e)
 have x:gG p (w,if e=lns.length then d else e) (hs++[hs.getD d ""]) ((lns++[aX ns (lns.getD d [])]).set d (b0 ns (lns.getD d [])))=gG p (w,if e=lns.length then d else e) hs lns:=by
  by_cases j:hs.getD d ""=p
  .rw[if_pos j,if_pos j,if_pos j]at r
   lia
  .rw[if_neg j,if_neg j,if_neg j]at r
   lia
 rw[x,v]
 have m:p∈hs++[hs.getD d ""]↔p∈hs:=by
  rw[Ú,Ó];refine{λz=>z.elim id λz=>?_,.inl};rw[z,Õ,Ä hd];exact û _
 have a:(hs++[hs.getD d ""]).9=hs.9+1:=by rw[Ì];rfl
 by_cases f:e=lns.9
 .rw[if_pos f]
  have s:(hs++[hs.getD d ""]).getD e ""=hs.getD d "":=by
   rw[f,hl,Õ,ĉ (Å _),ħ];rfl
  rw[s,a];refine Pa {λz=>{(),m.mpr z.2.1,z.2.2},λz=>{hd,m.mp z.2.1,z.2.2}}
 .rw[if_neg f]
  by_cases g:e<hs.9
  .have s:(hs++[hs.getD d ""]).getD e ""=hs.getD e "":=by
    rw[Õ,Ĉ g,<-Õ]
   rw[s,a];refine Pa {λz=>{(),m.mpr z.2.1,z.2.2},λz=>{g,m.mp z.2.1,z.2.2}}
  .rw[if_neg (λz=>g z.1),if_neg (λz=>by have:=z.1;lia)]
theorem sU(p:Str)(z:Str×Nat)(f:Str->List (Str×Nat)):∀hs:List Str,hs.Nodup->gG p z hs (hs.map f)=if p∈hs then(f p).count z else 0
 |[],_=>rfl
 |h::hs,nd=>by
  rw[ó]at nd;show (if h=p then(f h).count z else 0)+gG p z hs (hs.map f)=_;rw[sU p z f hs nd.2]
  by_cases e:h=p
  .grind
  .grind
theorem vL(h:∀d∈S,d∈T):∀g:List (Str×Nat),(cN S g).9<=(cN T g).9
 |[]=>Å _
 |q::g=>by
  have a:=vL h g;unfold cN at a ⊢
  by_cases b:q.2∈S
  .rw[ė (by exact decide_eq_true b),ė (by exact decide_eq_true (h _ b))];exact Nat.succ_le_succ a
  .rw[Ī (by simpa using b)]
   by_cases c:q.2∈T
   .rw[ė (by exact decide_eq_true c)];exact Nat.le_succ_of_le a
   .rw[Ī (by simpa using c)];exact a
theorem sV{f:Nat->Int}:∀ns:List Nat,(∀n∈ns,f n<=h)->x∈ns->f x<h->(ns.map f).sum<(ns.9:Int)*h
 |[],_,a,_=>nomatch a
 |n::ns,c,a,b=>by
  have i:=c n (Ø ..);rw[Ñ,ï,õ,Λ,Ν];show _<_+1*h;rcases æ.mp a with e |a
  .have g:=mn ns λp d=>c p (Ô _ d);rw[e]at b
   lia
  .have g:=sV ns (λp d=>c p (Ô _ d)) a b
   lia
theorem CK{many h w:Int}{hs:List Str}{ws:List Int}{lns:List (List (Str×Nat))}(S:hO many hs ws lns){d i0:Nat}{g:List (Str×Nat)}{ns:List Nat}(J:∀w∈ws,w<=h)(hd:lns[d]?=ρ g)(hw:ws.getD d 0=h)(T:1<=many)
 (nd:ns.Nodup) (r:∀n∈ns,n<g.9) (t:ns≠[]) (I:(ns.9:Int)<=many) (o:(ns.9:Int)=many->i0∈ns) (C:ws.getD (g.getD i0 ("",0)).2 0<h)
 (j:(ns.map λi=>ws.getD (g.getD i ("",0)).2 0).sum=many*w):d2 ws lns many (d:Int) (ns.map λn:Nat=>(n:Int)) w=true:=by
 have k:=S.w;have u:=S.l;have x:d<lns.9:=(Ö.mp hd).1;have m:lns.getD d []=g:=by rw[Õ,hd];rfl
 have q:g∈lns:=á hd
 have a:∀i,i<g.9->ws.getD (g.getD i ("",0)).2 0∈ws:=λi hi=>by
  have e:g.getD i ("",0)=g[i]:=by rw[Õ,Ä hi];rfl
  rw[e];exact iC (by rw[k];exact S.e g q _ (û hi))
 have c:∀n∈ns,1<=ws.getD (g.getD n ("",0)).2 0:=λn hn=>S.p _ (a n (r n hn));have f:∀n∈ns,ws.getD (g.getD n ("",0)).2 0<=h:=λn hn=>J _ (a n (r n hn));have y:=sF ns c t;rw[j]at y
 have A:1<=w:=by
  by_cases z:1<=w
  .exact z
  .have:=Int.mul_nonpos_of_nonneg_of_nonpos (show 0<=many by lia) (show w<=0 by lia)
   lia
 have M:1<=h:=by rw[<-hw];exact S.p _ (iC ())
 have N:w<h:=by
  have lt:many*w<many*h:=by
   rw[<-j]
   by_cases z:(ns.9:Int)=many
   .have:=sV ns f (o z) C;rw[z]at this;exact this
   .have B:=mn ns f;have D:((ns.9:Int)+1)*h<=many*h:=Int.mul_le_mul_of_nonneg_right () ();rw[Ν]at D
    lia
  exact Int.lt_of_mul_lt_mul_left lt ()
 have s:=Ao ws g nd r;rw[j]at s;have O:=CD ws (ns.map λn:Nat=>(n:Int)) g;have b:=S.b d g hd;rw[hw]at b
 have E:many*(h-w)<=aZ ws (aX (ns.map λn:Nat=>(n:Int)) g):=by
  rw[Int.mul_sub]
  lia
 have part:∀(l:List (Str×Nat)) (v:Int),1<=v->many*v<=aZ ws l->dI ws many l v=true:=λl v G hl=>by
  have hn:l≠[]:=λz=>by
   rw[z]at hl;have B:many*v<=0:=hl;have:=whj (show 0<many by lia) (show 0<v by lia)
   lia
  unfold dI;rw[decide_eq_true G,decide_eq_true hl]
  cases l with
  |nil=>exact absurd rfl hn
  |cons _ _=>rfl
 unfold d2;rw[î,m,hw,part _ w A (Int.le_of_eq s.symm),part _ (h-w) () E];have H:dO (d:Int) lns.9=true:=by unfold dO;rw[decide_eq_true (),decide_eq_true ()];rfl
 have L:(ns.map λn:Nat=>(n:Int)).all (λi=>dO i g.9)=true:=ø.mpr λi hi=>by
  let{n,hn,rfl}:=Ç.mp hi
  have:=r n hn;unfold dO;rw[decide_eq_true (),decide_eq_true ()];rfl
 rw[H,L];rfl
theorem FK(e:Nat)(g:List Nat):mL (.int (e:Int)) ((nI g).map V.int)=decide (e∈g):=by
 rw[sS];exact decide_eq_decide.mpr KH
theorem FL:∀{a b:List Nat},nI a=nI b->a=b
 |[],[],_=>rfl
 |[],_::_,h=>nomatch h
 |_::_,[],h=>nomatch h
 |x::a,y::b,h=>by
  unfold nI at h;rw[Ñ,Ñ]at h;injection h with d c
  rw[FL (a:=a) (b:=b) c,show x=y by lia]
theorem sW{ls g:List Str}{f:Str->Int}(h:∀p∈ls,0<=f p):∀p∈ls,0<=cy g f p:=λp a=>by
 unfold cy;split
 .exact h p a
 .grind
theorem yE{ls g:List Str}{f:Str->Int}(h:∀p∈ls,0<=f p):∀p∈ls,cy g f p<=f p:=λp a=>by
 unfold cy;split
 .grind
 .exact h p a
theorem CL{ls g:List Str}{f:Str->Int}(h:∀p∈ls,0<=f p):(ls.map (cy g f)).sum<=(ls.map f).sum:=sG ls (yE h)
theorem CM{ls:List Str}{f:Str->Int}{g:List Nat}(h:∀p∈ls,0<=f p)(hl:∀d∈g,d<(aj ls f).9)(j:g≠[]):0<(ls.map (cy (g.map λd=>(aj ls f).getD d "") f)).sum:=by
 cases g with
 |nil=>exact absurd rfl j
 |cons d g=>
  have hd:=hl d (Ø ..)
  have a:(aj ls f).getD d ""∈aj ls f:=by
   grind
  let{b,c}:=Ý.mp a
  refine sH ls (sW h) b ?_;unfold cy;rw[if_pos (Ç.mpr {d,Ø ..,rfl})];exact of_decide_eq_true c
theorem vM(a b:List Nat):mP ((nI a).map V.int) ((nI b).map V.int)=decide (a=b):=by
 rw[vt];exact decide_eq_decide.mpr {FL,λe=>by rw[e]}
theorem jV{n:Nat}{g:List Nat}(nd:g.Nodup)(h:∀r∈g,r<n):g.9<=n:=by
 have:=iG nd λr a=>Ą.mpr (h r a);rwa[Ă]at this
theorem As{many:Int}{p:Nat->Int}{n:Nat}(g:0<many)(hn:(n:Int)=many)(hd:∀i k,i<k->k<=n->p i%many≠p k%many):False:=by
 have nd:((Ü (n+1)).map λi=>(p i%many).toNat).Nodup:=nodup_map_on whu λa ha b c e=>by
  have ha:=Ą.mp ha;have c:=Ą.mp c;have a0:=ĩ (p a) (show many≠0 by lia);have f:=ĩ (p b) (show many≠0 by lia);have j:p a%many=p b%many:=by grind
  rcases whd a b with h |h |h
  .grind
  .exact h
  .grind
 have:=jV (n:=n) nd λr d=>by
  let{i,1}:=Ç.mp d
  have a0:=ĩ (p i) (show many≠0 by lia);have a1:=ņ (p i) g;show (p i%many).toNat<n
  lia
 rw[À,Ă]at this
 lia
theorem yF:∀{m:Nat},i0<m->(restOf m i0).9=m-1
 |m+1,h=>by
  unfold restOf;rw[wdv,Ň,Ì]
  by_cases e:i0=m
  .subst e;have b:(Ü i0).filter (λn=>decide (n≠i0))=Ü i0:=ę.mpr λn hn=>decide_eq_true (by grind);rw[b,Ī (by simp),Ă];rfl
  .have a:=yF (i0:=i0) (m:=m) ();unfold restOf at a;rw[a,ė (by grind)];show m-1+1=_
   lia
theorem yG(h:i0<m)(hk:k+1<=m):(numsOf m i0 k).9=k+1:=by
 grind [numsOf,õ,yF]
theorem vN(S:hO many hs ws lns)(D:Down ws lns h d i g q):many<=(g.9:Int):=by
 have a:g∈lns:=á D.l;have c:=S.b d g D.l;have f:=mm (ws:=ws) (h:=h) g λp j=>D.t _ (iC (by rw[S.w];exact S.e g a p j));rw[D.e]at c;have k:1<=h:=S.p h D.m;exact weY (ů c f) ()
noncomputable def xa(s:DF):iQ:=.tup [.at (.int (s.1:Int)),lC (nI s.2.1),.at (.int s.2.2)]
structure oZ(K:Á)(C CS:Addr)(H:Hp)(x:Addr)(m:List (Str×Int))(rg:List DF)(ks:List Nat)(hs:List Str)(ws:List Int)(lns:List (List (Str×Nat))):Prop where
 ex:∃dx a b c d,H x=ρ (.ins C dx (wQ a b c d))/\H a=ρ (.dK (aB m))/\bu K H (.lst (rg.map xa)) (.ref b)/\bu K H (lC (nI ks)) (.ref c)/\bM K CS H d hs ws lns
theorem nv(s:a8 H g):a8 (eD H b) (eD g b):=λc o e=>by
 unfold eD at e ⊢
 by_cases h:c=b
 .rw[if_pos h]at e;cases e
 .rw[if_neg h]at e ⊢;exact s _ _ e
theorem sX:a8 (eD H b) H:=fD λ_ _ e _=>e
theorem BA(g:H t=ρ (.tup [.int (d:Int),.ref l,.int w]))(j:H l=ρ (.lst ((nI ns).map V.int))):bu K H (xa (d,ns,w)) (.ref t):=
 {t,1,g,_,1,⟨rfl,rfl⟩,_,1,iH j,_,1,⟨rfl,rfl⟩,rfl}
theorem fm.step{g:Str}{bw ss ls:List Str}{many:Int}{n:Nat}{f:Str->Int}{j:List DF}{hs:List Str}{ws:List Int}{lns:List (List (Str×Nat))}(h:fm g bw ss ls many n f j hs ws lns){d:Nat}{ns:List Nat}{w:Int}(ok:d2 ws lns many (d:Int) (nI ns) w=true)(hn:ns.9<=1000) :
 fm g bw ss ls many n f (j++[(d,ns,w)]) (df hs d) (cj ws d w) (gF lns d (nI ns)):=by
 let{b,hd}:=h.b.split ok
 have hw:=h.b.w;have hl:=h.b.l;refine{.snoc h.rn ok hn,b,h.cv.split hl h.b.e hd (nI ns),?_,?_,λp a=>?_}
 .rw[zY ()];exact h.sm
 .have:=h.sl;unfold df;rw[Ì,Ì];show j.9+1+_=hs.9+1
  lia
 .unfold df at a;rcases Ú.mp a with a |a
  .exact h.sb p a
  .rw[Ó.mp a,Õ,Ä hd];exact h.sb _ (û hd)
theorem fm.len{f:Str->Int}(h:fm g bw ss ls many n f j hs ws lns):(hs.9:Int)<=(ls.map f).sum:=by
 have:=sJ h.b.p;have a:=h.sm;have c:=h.b.w
 lia
theorem Au{m j N:Nat}{many wide:Int}{g:Str}{bw ss:List Str}(l:fh m many wide)(b:(j:Int)<=24)(c:dg g bw ss N "" < many^j):(dg g bw ss N "").natAbs.log2<1920:=by
 have e:0<=dg g bw ss N "":=Lh N "";obtain⟨k,hk⟩:∃k:Nat,many=k:={many.toNat,by have:=l.a;lia};have d:k<=8:=by have:=l.b;lia
 rw[hk,<-Τ]at c;have f:k^j<=8^24:=Ï (Nat.pow_le_pow_left d j) (wgt ⋯ ())
 have h:(dg g bw ss N "").natAbs<2^72:=by
  grind
 have i:=Nat.log2_lt (n:=(dg g bw ss N "").natAbs) (k:=72)
 by_cases z:(dg g bw ss N "").natAbs=0
 .rw[z];decide
 .grind
theorem IL(h:k∈g):(nI g)[g.idxOf k]?=ρ (k:Int)/\∀j:Nat,j<g.idxOf k->(nI g)[j]?≠ρ (k:Int):=by
 have hl:g.idxOf k<g.9:=wfq.mpr h;unfold nI;refine{by grind,λj c e=>?_};have a:j<g.9:=();rw[È,Ä a]at e;have b:g[j]=k:=by grind
 have:=sL a;rw[b]at this
 lia
theorem yH{α:Type}[DecidableEq α]{l a:List α}(h:a.Sublist l):l.Nodup->l.filter (λx=>decide (x∈a))=a:=by
 induction h with
 |slnil=>exact λ_=>rfl
 |@cons a l x h b=>
  intro nd;rw[ó]at nd;rw[Ī (by simpa using λz=>nd.1 (h.subset z))];exact b nd.2
 |@cons_cons a l x h b=>
  intro nd;rw[ó]at nd;rw[ė (by simp)];refine congrArg (x :: ·) (ĳ (wf8 λy d=>?_) (b nd.2));have c:y≠x:=λz=>nd.1 (z ▸ d);simp[c]
theorem sub_one{α:Type}[DecidableEq α]{l a b:List α}(ha:a.Sublist l)(g:b.Sublist l)(nd:l.Nodup)(h:∀x,x∈a↔x∈b):a=b:=by
 have e:(λx=>decide (x∈a))=(λx=>decide (x∈b)):=funext λx=>decide_eq_decide.mpr (h x);rw[<-yH ha nd,e,yH g nd]
theorem yI{α:Type}{a:α->Int}:∀{l:List α},0<(l.map a).sum->∃x∈l,0<a x
 |[],h=>absurd (show (0:Int)<0 from h) ⋯
 |x::l,h=>by
  rw[Ñ,ï]at h
  by_cases z:0<a x
  .exact{x,Ø ..,z}
  .let{y,b,q}:=yI (l:=l) (a:=a) ()
   exact{y,Ô _ b,q}
section
variable{ss:List Str}{E:Str->List Str}
theorem TopK.set{w:Str->Int}(T:TopK E ss many n most w)(o:2<=many)(l:∀p,∀q∈E p,q∈ss)(j:p∈ss)(lt:qW E w n p/many<w p):TopK E ss many n most (uq w p (qW E w n p/many)):=by
 have d:=Bt l T.nn n p j;have g:=weo d (show 0<=many by lia);refine{λq b=>?_,λq b=>?_,λh a f q b=>?_}
 .unfold uq;split
  .exact g
  .exact T.nn q b
 .have:=T.le q b;have:=T.le p j;unfold uq;split<;>lia
 .have c:=T.top h a f;unfold uq;split
  .rename_i e;subst e;have i:=Bu l c n q j;have k:=f q j;exact(wd6 ()).mpr (by rw[Φ];lia)
  .exact c q b
end
section
variable{g:Str}{ws ss:List Str}
theorem FN{j:List Str}(h:q∈aN g ws ss p)(l:q∈j):gv (rowOf g ws ss p) j=true:=by
 unfold aN at h
 let{c,hc,e}:=Ŵ.mp h
 rw[<-Cv];refine ğ.mpr {true,Ç.mpr {c,hc,?_},rfl};unfold qZ;split at e
 .cases e
 .rename_i a;rw[if_neg a,fG];exact decide_eq_true (by rw[Î e];exact l)
end
end Bs
namespace Sx
inductive FO(K:Á)(vs:List V)(H:Hp)(Q:VK)(dJ:XK):Prop
 |mk (v qs) (_:vs=[v]) (_:bu K H (bR qs) v) (_:qs.9<=10000) (_:∀y H',a8 H H'->bu K (aE H H') (bR qs) y->Q y H')
inductive FP(K:Á)(C:Addr)(vs:List V)(H:Hp)(Q:VK)(dJ:XK):Prop
 |mk (x dx u v w hs ws lns) (_:vs=[.ref x,u,v,w]) (_:H x=ρ (.ins C dx [])) (_:bu K H (sT hs) u) (_:bu K H (lC ws) v) (_:bu K H (mz lns) w) (_:hs.9<=10000) (_:ws.9<=10000) (_:lns.9<=10000) (_:(∀l∈lns,l.9<=10000)) (_:∀a b c H',H' x=ρ (.ins C dx (zW a b c))->bu K (aE H H') (sT hs) (.ref a)->bu K (aE H H') (lC ws) (.ref b)->bu K (aE H H') (mz lns) (.ref c)->(∀b o,H b=ρ o->b≠x->H' b=ρ o)->Q .non H')
inductive IM(K:Á)(C CS:Addr)(vs:List V)(H:Hp)(Q:VK)(dJ:XK):Prop
 |mk (x d:Addr) (many:Int) (n:Nat) (m:List (Str×Int)) (f:Str->Int) (g:Str) (ws ss ls:List Str) (_:vs=[.ref x,.int many,.int (n:Int),.ref d]) (_:aU C H x g ws ss ls) (_:2<=g.9) (_:g.9<=10) (_:ss.9<=900) (_:fh g.length many n) (_:Rd H d (.dK (aB m))) (_:KG m ls f) (_:∀(y:Addr) (H':Hp),a8 H H'->bM K CS (aE H H') y (aj ls f) ((aj ls f).map f) (bz g ws ss ls n (aj ls f))->Q (.ref y) H')
inductive Ln(K:Á)(CS CN:Addr)(vs:List V)(H:Hp)(Q:VK)(E:XK):Prop
 |mk (x many v w hs ws lns qs) (_:vs=[.ref x,.int many,v,.int w]) (_:bM K CS H x hs ws lns) (_:bu K H (bR qs) v) (_:qs.9<=10000) (_:(∀q∈qs,q.2<ws.9)) (_:0<=many) (_:many<=1000) (_:((dI ws many qs w=true/\∀H',a8 H H'->Q .non H')\/(dI ws many qs w=false/\∀H',a8 H H'->E (.ref CN) τ H')))
inductive IP(K:Á)(vs:List V)(H:Hp)(Q:VK)(dJ:XK):Prop
 |mk (v:V) (d t:Nat) (qs:List (Str×Nat)) (_:vs=[v,.int (d:Int),.int (t:Int)]) (_:bu K H (bR qs) v) (_:qs.9<=5000) (_:∀y H',a8 H H'->bu K (aE H H') (bR (eI d t qs)) y->Q y H')
inductive IQ(K:Á)(CS CN:Addr)(vs:List V)(H:Hp)(Q:VK)(E:XK):Prop
 |mk (x a many qz w ns hs ws lns) (_:vs=[.ref x,.int many,.int qz,.ref a,.int w]) (_:bM K CS H x hs ws lns) (_:aG K H a (ns.map V.int)) (_:ns.9<=10000) (_:JG hs ws lns) (_:0<=many) (_:many<=1000) (_:((d2 ws lns many qz ns w=true/\∀y H',a8 H H'->bM K CS (aE H H') y (df hs qz.toNat) (cj ws qz.toNat w) (gF lns qz.toNat ns)->Q (.ref y) H')\/(d2 ws lns many qz ns w=false/\∀H',a8 H H'->E (.ref CN) τ H')))
inductive Lp(K:Á)(vs:List V)(H:Hp)(Q:VK)(dJ:XK):Prop
 |mk (v a ds qs) (_:vs=[v,.ref a]) (_:bu K H (bR qs) v) (_:aG K H a ((nI ds).map V.int)) (_:qs.9<=10000) (_:∀y H',a8 H H'->bu K (aE H H') (bR (cN ds qs)) y->Q y H')
inductive Lq(K:Á)(C:Addr)(vs:List V)(H:Hp)(Q:VK)(dJ:XK):Prop
 |mk (x hs ws lns) (_:vs=[.ref x]) (_:bM K C H x hs ws lns) (_:ws.9=lns.9) (_:(∀l∈lns,∀q∈l,q.2<ws.9)) (_:ws≠[]) (_:(∀h∈ws,(∀w∈ws,w<=h)->∃d i qs q,Down ws lns h d i qs q)) (_:∀(t:Addr) (h:Int) (d i:Nat) (qs:List (Str×Nat)) (q:Str×Nat) (H':Hp),a8 H H'->H' t=ρ (.tup [.int (d:Int),.int (i:Int)])->Down ws lns h d i qs q->Q (.ref t) H')
inductive FQ(C CO:Addr)(vs:List V)(H:Hp)(Q:VK)(E:XK):Prop
 |mk (x:Addr) (many:Int) (n:Nat) (g:Str) (ws ss ls:List Str) (_:vs=[.ref x,.int many,.int (n:Int)]) (_:aU C H x g ws ss ls) (_:2<=g.9) (_:g.9<=10) (_:ss.9<=900) (_:fh g.length many n) (_:(∀(d:Addr) (f:Str->Int) (H':Hp),a8 H H'->H d=τ->H' d=ρ (.dK (aB (bx f ls)))->gb g ws ss ls many n f->Q (.ref d) H')) (_:(fC g ws ss ls many n->∀H',a8 H H'->E (.ref CO) τ H'))
inductive FR(K:Á)(C:Addr)(vs:List V)(H:Hp)(Q:VK)(dJ:XK):Prop
 |mk (x hs ws lns) (_:vs=[.ref x]) (_:bM K C H x hs ws lns) (_:hs.9<=10000) (_:ws.9<=10000) (_:lns.9<=10000) (_:(∀l∈lns,l.9<=10000)) (_:∀y H',a8 H H'->bM K C (aE H H') y hs ws lns->Q (.ref y) H')
inductive IU(K:Á)(C CS:Addr)(vs:List V)(H:Hp)(Q:VK)(dJ:XK):Prop
 |mk (x dx d z:Addr) (u v:V) (m:List (Str×Int)) (rg:List DF) (ks:List Nat) (hs:List Str) (ws:List Int) (lns:List (List (Str×Nat))) (_:vs=[.ref x,.ref d,u,v,.ref z]) (_:H x=ρ (.ins C dx [])) (_:Rd H d (.dK (aB m))) (_:bu K H (.lst (rg.map xa)) u) (_:bu K H (lC (nI ks)) v) (_:bM K CS H z hs ws lns) (_:hs.9<=10000) (_:ws.9<=10000) (_:lns.9<=10000) (_:(∀l∈lns,l.9<=10000)) (_:rg.9<=10000) (_:∀a b c y H',H' x=ρ (.ins C dx (wQ a b c y))->H a=τ->H' a=ρ (.dK (aB m))->bu K (aE H H') (.lst (rg.map xa)) (.ref b)->bu K (aE H H') (lC (nI ks)) (.ref c)->bM K CS (aE H H') y hs ws lns->(∀b o,H b=ρ o->b≠x->H' b=ρ o)->Q .non H')
inductive CQ(K:Á)(C CS:Addr)(vs:List V)(H:Hp)(Q:VK)(dJ:XK):Prop
 |mk (x m rg ks hs ws lns) (_:vs=[.ref x]) (_:oZ K C CS H x m rg ks hs ws lns) (_:hs.9<=10000) (_:ws.9<=10000) (_:lns.9<=10000) (_:(∀l∈lns,l.9<=10000)) (_:∀y H',a8 H H'->bM K CS (aE H H') y hs ws lns->Q (.ref y) H')
inductive IV(C CX:Addr)(vs:List V)(H:Hp)(Q:VK)(E:XK):Prop
 |mk (x:Addr) (many:Int) (n:Nat) (g:Str) (bw ss ls:List Str) (_:vs=[.ref x,.int many,.int (n:Int)]) (_:aU C H x g bw ss ls) (_:g.9<=10) (_:ss.9<=900) (_:fh g.length many n) (_:(lj g bw ss many n->∀H',a8 H H'->Q .non H')) (_:Pj CX g bw ss many n H E)
inductive IW(K:Á)(vs:List V)(H:Hp)(Q:VK)(dJ:XK):Prop
 |mk (v b many ks qs) (_:vs=[v,.ref b,.int many]) (_:bu K H (bR qs) v) (_:aG K H b ((nI ks).map V.int)) (_:ks.9<=1000) (_:qs.9<=10000) (_:0<=many) (_:∀y H',a8 H H'->bu K (aE H H') (bR (kQ ks many.toNat qs)) y->Q y H')
end Sx
namespace AC
section
variable{W:List (List Nat)}{P:List Nat->Bool}{l:List Nat}{c:Nat}
def Good(W:List (List Nat))(l:List Nat):Prop:=∀w∈W,¬w <:+: l
noncomputable def j2(P:List Nat->Bool):List Nat->List Nat
 |[]=>[]
 |a::l=>if P (a::l)=true then a::l else j2 P l
theorem iI:∀l,j2 P l <:+ l
 |[]=>wfr _
 |a::l=>by
  unfold j2;split
  .exact wfr _
  .exact(iI l).trans (List.suffix_cons a l)
theorem sY(g:P []=true):∀l,P (j2 P l)=true
 |[]=>g
 |a::l=>by
  unfold j2;split
  .assumption
  .exact sY g l
theorem Av(h:w <:+: l++[c]):w <:+: l\/w <:+ l++[c]:=by
 let{a,b,e}:=h
 rcases wgf b with f |⟨g,d,f⟩
 .grind
 .grind [whx]
end
section
variable{W:List (List Nat)}{p l u:List Nat}{c:Nat}{P:List Nat->Bool}{q:List Nat}
def Pl(W:List (List Nat))(p:List Nat):Prop:=p=[]\/((∃w∈W,p <+: w/\p.9<w.9)/\Good W p)
theorem FT(g:p <:+ q)(j:q <:+ p):p=q:=g.eq_of_length (whH g.length_le j.length_le)
end
section
variable{W:List (List Nat)}{l m:List Nat}
theorem Good.sub(h:Good W l)(hs:m <:+: l):Good W m:=λw hw hi=>h w hw (hi.trans hs)
end
section
variable{W:List (List Nat)}{u:List Nat}{c:Nat}{P:List Nat->Bool}{l q:List Nat}
theorem Pl.init(h:Pl W (u++[c])):Pl W u:=by
 rcases h with h |⟨⟨w,hw,a,hl⟩,b⟩
 .simp at h
 .by_cases e:u=[]
  .exact .inl e
  .refine .inr {{w,hw,(wdI u [c]).trans a,?_},b.sub (wdI u [c]).isInfix};rw[Ì]at hl;simp at hl
   lia
theorem iJ(g:P q=true):∀{l},q <:+ l->q <:+ j2 P l
 |[],h=>h
 |a::l,h=>by
  unfold j2;split
  .exact h
  .rename_i hn;rcases List.suffix_cons_iff.mp h with e |h
   .grind
   .exact iJ g h
end
section
variable{l q u:List Nat}{c:Nat}
theorem yJ:∀{q l:List Nat},q <:+ l++[c]->q=[]\/∃u,q=u++[c]/\u <:+ l:=λ{q l} h=>by
 rcases wgf q with e |⟨u,d,e⟩
 .exact .inl e
 .right
  rw[List.concat_eq_append]at e
  let{t,a}:=h
  subst e;rw[<-Ā]at a;have b:=whx a rfl;have hd:d=c:=by grind
  exact{u,by rw[hd],t,b.1}
end
section
variable{W:List (List Nat)}{P:List Nat->Bool}{l:List Nat}{c:Nat}
theorem CT(o:∀x,P x=true↔Pl W x)(j:Good W l)(g:∀w∈W,w≠[]):Good W (j2 P l++[c])↔Good W (l++[c]):=by
 have f:=iI (P:=P) l;constructor
 .intro h w hw hi;rcases Av hi with z |z
  .exact j w hw z
  .rcases yJ z with e |⟨u,rfl,d⟩
   .exact g w hw e
   .have a:Pl W u:=by
     by_cases e:u=[]
     .exact .inl e
     .exact .inr {{_,hw,wdI u [c],by simp},j.sub d.isInfix}
    have:=iJ ((o u).mpr a) d
    let{t,b}:=this
    exact h _ hw (show u++[c] <:+ j2 P l++[c] from {t,by rw[<-Ā,b]}).isInfix
 .intro h
  let{t,b}:=f
  exact h.sub (show j2 P l++[c] <:+ l++[c] from {t,by rw[<-Ā,b]}).isInfix
theorem Aw(g:∀x,P x=true↔Pl W x)(j:Good W l):j2 P (j2 P l++[c])=j2 P (l++[c]):=by
 have f:=iI (P:=P) l;have b:P []=true:=(g []).mpr (.inl rfl)
 have d:j2 P l++[c] <:+ l++[c]:=by
  let{t,h}:=f
  exact{t,by grind}
 refine FT (iJ (sY b _) ((iI _).trans d)) (iJ (sY b _) ?_);rcases yJ (iI (P:=P) (l++[c])) with e |⟨u,e,i⟩
 .rw[e];exact List.nil_suffix
 .have a:=(g _).mp (sY b (l++[c]));rw[e]at a ⊢
  let{t,h}:=iJ ((g u).mpr a.init) i
  exact{t,by grind}
end
end AC
open AC
namespace Bs
theorem cE(ws:List Str)(r:Str):bears ws r=false↔Good (wl ws) (ch r):=by simp_all [bears,Good,wl,wf1,Ie,ch]
theorem mem_keys:k∈bQ ws "" ws↔Pl (wl ws) (ch k):=by
 rw[ig];constructor
 .rintro(rfl |⟨w,hw,i,hi,e,b⟩)
  .exact .inl rfl
  .right
   refine{{ch w,Ç.mpr ⟨w,hw,rfl⟩,?_,?_},(cE ws k).mp b}
   .rw[e,kU];exact we1 _ _
   .rw[e,kU,Û,aM];omega
 .rintro(h |⟨⟨v,c,d,hl⟩,f⟩)
  .exact .inl (cY h)
  .by_cases a:ch k=[]
   .exact .inl (cY a)
   let{w,hw,rfl}:=Ç.mp c
   right
   rw[aM,aM]at hl;have g:k.length≠0:=λz=>a (mw z);refine{w,hw,k.9-1,1.0,cY ?_,(cE ws k).mpr f};rw[kU,show 1+(k.9-1)=k.length by omega,<-aM k];exact(wfC.mp d)
theorem FU(g:ss.Perm (bQ ws "" ws))(l:List Nat):NN ss l=true↔Pl (wl ws) l:=by
 have e:ch ⟨l.6⟩=l:=rfl;rw[<-e,j0,g.mem_iff,mem_keys]
theorem vO{P:List Nat->Bool}(g:P []=true):∀{l:List Nat} {n:Nat},P (l.drop n)=true->(∀m,m<n->P (l.drop m)=false)->j2 P l=l.drop n
 |[],n,_,_=>by simp[j2]
 |a::l,0,b,_=>by
  unfold j2;rw[weI]at b;rw[if_pos b];rfl
 |a::l,n+1,b,c=>by
  have:=c 0 ();rw[weI]at this;unfold j2;rw[this,if_neg (by simp),List.drop_succ_cons];exact vO g (by grind) λm d=>by grind
theorem j3(he:("":Str)∈ss)(r:Str):ch (lend ss r)=j2 (NN ss) (ch r):=by
 have c:∃n,n<=r.9/\cb r n∈ss/\∀m,m<n->cb r m∉ss:=by
  have f:∃n,cb r n∈ss:={r.9,by rw[gk];exact he}
  have key:∀k,(∃n,n<k/\cb r n∈ss/\∀m,m<n->cb r m∉ss)\/∀m,m<k->cb r m∉ss:=by
   intro k
   induction k with
   |zero=>right;intro m a;lia
   |succ k d=>
    rcases d with⟨n,hn,h⟩ |h
    .exact .inl {n,(),h}
    .by_cases hk:cb r k∈ss
     .exact .inl {k,(),hk,h}
     .right
      intro m a
      by_cases e:m=k
      .rw[e];exact hk
      .exact h m ()
  rcases key (r.9+1) with⟨n,hn,h⟩ |h
  .exact{n,(),h}
  .exact absurd (by rw[gk];exact he) (h r.length ())
 let{n,hn,a,hl}:=c
 unfold lend;rw[sq a hl hn,iZ];refine(vO (j0 (k:="").mpr he) ?_ λm b=>?_).symm
 .rw[<-iZ];exact j0.mpr a
 .rw[<-iZ];have:=hl m b;rw[<-j0]at this;simpa using this
theorem nA(he:("":Str)∈ss)(r:Str):lend ss r∈ss:=by
 rw[<-j0,j3 he];exact sY (j0 (k:="").mpr he) _
theorem CU(hw:∀w∈ws,1<=w.9):bears ws ""=false:=by
 refine(cE ws "").mpr λw a hi=>?_
 let{v,b,rfl}:=Ç.mp a
 have d:=hw v b;have c:=hi.length_le;rw[aM]at c;have:(ch ("":Str)).length=0:=rfl
 lia
theorem Ax(he:("":Str)∈ss)(h:r∈gH g ws ss q):r.2∈ss/\r.1.9=q.1.9+1:=by
 unfold gH at h
 let{c,_,e}:=Ŵ.mp h
 split at e
 .cases e
 .cases e;exact{nA he _,len_app _ _}
theorem sZ(he:("":Str)∈ss)(j:p∈ss):∀n,∀r∈nh g ws ss p n,r.2∈ss/\r.1.9=n
 |0,r,h=>by
  rw[Ó.mp h];exact⟨j,rfl⟩
 |n+1,r,h=>by
  let{q,a,b}:=we2.mp h
  have:=Ax he b;have:=(sZ he j n q a).2;exact{‹r.2∈ss/\_›.1,()}
theorem DE.line{B:Str->List (Str×Str)}(h:DE B hs lns)(hl:lns.9=hs.9)(g:∀p,(B p).9<=b):∀l∈lns,l.9<=b*hs.9:=by
 intro l j
 let{i,hi,e}:=Ŗ j
 have f:lns[i]?=ρ l:=by rw[Ä hi,e]
 have a:hs[i]?=ρ (hs[i]'1.0):=Ä _;generalize hs[i]'1.0=p at a
 have one:∀z,l.count z<=1:=λz=>by
  have c:=ri (z:=z) a f;have d:=h p z.1 z.2;rw[show ((z.1,z.2):Str×Nat)=z from rfl]at d;rw[d]at c;split at c<;>omega
 have nd:l.Nodup:=List.nodup_iff_count.mpr one
 have sub:∀z∈l,z∈((B p).map (·.1)).flatMap λw=>(Ü hs.9).map λe=>(w,e):=λz k=>by
  have c:=ri (z:=z) a f;have d:=h p z.1 z.2;rw[show ((z.1,z.2):Str×Nat)=z from rfl]at d;rw[d]at c;have m:0<l.count z:=wgX.mpr k
  by_cases hc:z.2<hs.9/\p∈hs/\(z.1,hs.getD z.2 "")∈B p
  .exact we2.mpr {z.1,Ç.mpr {_,hc.2.2,rfl},Ç.mpr {z.2,Ą.mpr hc.1,rfl}}
  .rw[if_neg hc]at c;omega
 have c:=iG nd sub
 have d:(((B p).map (·.1)).flatMap λw=>(Ü hs.9).map λe=>(w,e)).9<=(B p).9*hs.9:=by
  have:=sr (λw=>(Ü hs.9).map λe=>((w,e):Str×Nat)) hs.length ((B p).map (·.1)) λw _=>by rw[À,Ă];exact Å _
  rwa[À]at this
 exact Ï c (Ï d (wen _ (g p)))
structure Above(lns:List (List (Str×Nat)))(many:Int)(ks:List Nat):Prop where
 sub:ks.Sublist (Ü lns.9)
 top:∀S,Bp lns many S->∀d∈S,d∈ks
theorem Above.start(lns:List (List (Str×Nat)))(many:Int):Above lns many (Ü lns.9):={wf5 _,λS h d hd=>Ą.mpr (h d hd).1}
theorem Above.next(h:Above lns many g):Above lns many (sE lns many g):=by
 refine{Ζ.trans h.sub,λS a d hd=>Ý.mpr {h.top S a d hd,decide_eq_true ?_}};have b:=(a d hd).2;have c:=vL (h.top S a) (lns.getD d [])
 lia
theorem Above.stays(h:Above lns many g)(e:sE lns many g=g):Bp lns many g:=λd hd=>by
 refine{Ą.mp (h.sub.subset hd),?_};rw[<-e]at hd;exact of_decide_eq_true (Ý.mp hd).2
structure mC(lns:List (List (Str×Nat)))(many:Int)(ks:List Nat):Prop where
 ab:Above lns many ks
 st:Bp lns many ks
theorem yK{many h:Int}{hs:List Str}{ws:List Int}{lns:List (List (Str×Nat))}(S:hO many hs ws lns)(K:mC lns many [])(t:h∈ws)(C:∀w∈ws,w<=h)(I:1<=many) :
 ∃(d i:Nat) (g:List (Str×Nat)) (q:Str×Nat),lns[d]?=ρ g/\g[i]?=ρ q/\ws.getD d 0=h/\ws.getD q.2 0<h:=by
 have f:=S.w;have v:=S.l
 by_cases s:∃(d i:Nat) (g:List (Str×Nat)) (q:Str×Nat),lns[d]?=ρ g/\g[i]?=ρ q/\ws.getD d 0=h/\ws.getD q.2 0<h
 .exact s
 exfalso
 have all:∀(d:Nat) (g:List (Str×Nat)),lns[d]?=ρ g->ws.getD d 0=h->∀q∈g,ws.getD q.2 0=h:=λd g hd hw q c=>by
  let{i,hi,e}:=Ŗ c
  have x:¬ws.getD q.2 0<h:=λz=>s {d,i,g,q,hd,by rw[Ä hi,e],hw,z};have o:=C _ (iC (ws:=ws) (i:=q.2) (by rw[f];exact S.e g (á hd) q c))
  lia
 let{y,j,A}:=Ŗ t
 have x:1<=h:=S.p h t
 have r:Bp lns many ((Ü ws.9).filter λd=>decide (ws.getD d 0=h)):=λd hd=>by
  let{u,n}:=Ý.mp hd
  have u:=Ą.mp u;have n:ws.getD d 0=h:=of_decide_eq_true n;have k:d<lns.9:=();have c:lns[d]?=ρ (lns.getD d []):=by rw[Õ,Ä k];rfl
  refine{k,?_};have m:=all d _ c n;have B:cN ((Ü ws.9).filter λd=>decide (ws.getD d 0=h)) (lns.getD d [])=lns.getD d []:=ę.mpr λq a=>decide_eq_true (Ý.mpr {Ą.mpr (by rw[f];exact S.e _ (á c) q a),decide_eq_true (m q a)});rw[B];have o:=S.b d _ c;have D:=mm (lns.getD d []) λq a=>Int.le_of_eq (m q a);rw[n]at o;have E:many*h<=((lns.getD d []).9:Int)*h:=ů o D;exact weY E ()
 have:=K.ab.top _ r y (Ý.mpr {Ą.mpr j,decide_eq_true (by rw[Õ,Ä j,A];rfl)});cases this
theorem IX{many h:Int}{hs:List Str}{ws:List Int}{lns:List (List (Str×Nat))}(S:hO many hs ws lns)(p:1<=many){d i0:Nat}{g:List (Str×Nat)}{q:Str×Nat}(D:Down ws lns h d i0 g q){i j:Nat}(r:i<j)(I:j<=(numsOf g.length i0 (many-1).toNat).9)
 (C:((((numsOf g.length i0 (many-1).toNat).take j).drop i).map λn=>(g.map λq=>ws.getD q.2 0).getD n 0).sum%many=0) :
 d2 ws lns many (d:Int) (nI (((numsOf g.length i0 (many-1).toNat).take j).drop i)) (((((numsOf g.length i0 (many-1).toNat).take j).drop i).map λn=>(g.map λq=>ws.getD q.2 0).getD n 0).sum/many)=true:=by
 have b:i0<g.9:=(Ö.mp D.s).1;have hl:=vN S D;have u:=yG (k:=(many-1).toNat) b ();have c:=A3 g.length i0 (many-1).toNat;have f:=wO (k:=(many-1).toNat) b;have m:i0∈numsOf g.length i0 (many-1).toNat:=Ø ..;generalize numsOf g.length i0 (many-1).toNat=a at *;have sub:((a.take j).drop i).Sublist a:=(whe _ _).trans (ġ _ _);have len:((a.take j).drop i).9=j-i:=by rw[ď,Û];lia
 have o:∀n∈(a.take j).drop i,n<g.9:=λn hn=>f n (sub.subset hn);have e:((a.take j).drop i).map (λn=>(g.map λq=>ws.getD q.2 0).getD n 0)=((a.take j).drop i).map λn=>ws.getD (g.getD n ("",0)).2 0:=ü λn hn=>KQ ws (o n hn);rw[e]at C ⊢;have v:g.getD i0 ("",0)=q:=by rw[Õ,D.s];rfl
 refine CK S (i0:=i0) D.t D.l D.e p (c.sublist sub) o (λz=>?_) ?_ (λz=>?_) (by rw[v];exact D.lt) ?_
 .rw[z]at len;have:(0:Nat)=j-i:=len
  lia
 .rw[len];lia
 .have w:(a.take j).drop i=a:=sub.eq_of_length (by grind);rw[w];exact m
 .have:=Int.mul_ediv_add_emod ((((a.take j).drop i).map λn=>ws.getD (g.getD n ("",0)).2 0).sum) many
  lia
theorem fm.whole{f:Str->Int}(h:fm g bw ss ls many n f o hs ws lns)(r:(ls.map f).sum<=40)(j:g.length^n<=64):JG hs ws lns:=by
 have hl:=h.len;refine{h.b.w,h.b.l,h.b.e,(),λl a=>?_};have c:=h.cv.line h.b.l (b:=64) (λp=>Ï (fj g bw ss ls n p) j) l a;have d:64*hs.9<=64*40:=weB _ ()
 lia
theorem DE.word(h:DE (aQ g bw ss ls n) hs lns)(hl:lns.9=hs.9)(j:∀p∈hs,p∈ss)(he:("":Str)∈ss):∀l∈lns,∀q∈l,q.1.9=n:=by
 intro l d q f
 let{i,hi,e}:=Ŗ d
 have a:i<hs.9:=()
 have b:0<gG hs[i] (q.1,q.2) hs lns:=by
  have k:hs[i]?=ρ hs[i]:=Ä a;have m:lns[i]?=ρ l:=by rw[Ä hi,e]
  have:=ri (z:=(q.1,q.2)) k m;have hc:0<l.count (q.1,q.2):=wgX.mpr f
  lia
 rw[h hs[i] q.1 q.2]at b
 by_cases c:q.2<hs.9/\hs[i]∈hs/\(q.1,hs.getD q.2 "")∈aQ g bw ss ls n hs[i]
 .exact(sZ he (j _ (û a)) n _ (Ý.mp c.2.2).1).2
 .rw[if_neg c]at b
  lia
theorem qx.one{j:List Str}{l:Str->List (Key×V)}{a b:List Str}(nd:j.Nodup)(ha:qx j l a)(g:qx j l b):a=b:=
 sub_one ha.sub g.sub nd λx=>{λh=>g.most a (λk hk=>{ha.sub.subset hk,ha.MT k hk}) x h,λh=>ha.most b (λk hk=>{g.sub.subset hk,g.MT k hk}) x h}
section
variable{ws ss:List Str}{r:Str}{c:Nat}
theorem FV(he:("":Str)∈ss):lend ss ""="":=by
 refine cY ?_;rw[j3 he];rfl
theorem vP(g:ss.Perm (bQ ws "" ws))(j:bears ws r=false):lend ss (lend ss r++{#[c]})=lend ss (r++{#[c]}):=by
 have a:("":Str)∈ss:=g.mem_iff.mpr (bj ws);refine cY ?_;rw[j3 a,bC,j3 a,j3 a,bC];exact Aw (FU g) ((cE ws r).mp j)
theorem t6(g:ss.Perm (bQ ws "" ws))(j:bears ws r=false)(hw:∀w∈ws,1<=w.9):bears ws (lend ss r++{#[c]})=bears ws (r++{#[c]}):=by
 have b:("":Str)∈ss:=g.mem_iff.mpr (bj ws)
 have a:∀w∈wl ws,w≠[]:=by
  intro w d z
  let{v,e,rfl}:=Ç.mp d
  have:=hw v e;rw[<-aM,z]at this;simp at this
 have:=CT (c:=c) (FU g) ((cE ws r).mp j) a;rw[show [c]=ch ({#[c]}:Str) from rfl,<-j3 b,<-bC,<-bC,<-cE,<-cE]at this;cases f:bears ws (lend ss r++⟨#[c]⟩)<;>cases h:bears ws (r++⟨#[c]⟩)<;>simp[f,h]at this ⊢
theorem p0(h:ch a <:+: ch b)(g:bears ws b=false):bears ws a=false:=(cE ws a).mpr (((cE ws b).mp g).sub h)
theorem t7(j:ss.Perm (bQ ws "" ws))(l:bears ws e=false)(g:e.length≠0):iY ws e=true↔e∈ss:=by
 rw[j.mem_iff,mem_keys];unfold iY;rw[ğ];constructor
 .rintro⟨w,hw,h⟩;rw[Ď,decide_eq_true_iff,mx]at h;exact .inr {{ch w,Ç.mpr ⟨w,hw,rfl⟩,h.2,by rw[aM,aM];exact h.1},(cE ws e).mp l}
 .rintro(h |⟨⟨v,b,c,a⟩,_⟩)
  .rw[<-aM,h]at g;exact absurd rfl g
  .let{w,hw,rfl}:=Ç.mp b
   refine{w,hw,?_};rw[Ď,decide_eq_true_iff,mx];exact{by rw[aM,aM]at a;exact a,c}
theorem yL(g:ss.Perm (bQ ws "" ws))(hw:∀w∈ws,w.9<=5)(j:bears ws r=false)(o:n0<=r.9-5)(hn:n<=r.9)(hl:∀m,n0<=m->m<n->iY ws (cb r m)=false)(h:n=r.length\/iY ws (cb r n)=true):lend ss r=cb r n:=by
 have d:("":Str)∈ss:=g.mem_iff.mpr (bj ws);have f:∀m,bears ws (cb r m)=false:=λm=>p0 (by rw[iZ];exact(whv _ _).isInfix) j;have len:∀m,(cb r m).9=r.9-m:=λm=>by rw[<-aM,iZ,ď,aM]
 unfold lend;rw[sq (n:=n) ?_ ?_ hn]
 .rcases h with rfl |h
  .rw[gk];exact d
  .by_cases e:n=r.9
   .subst e;rw[gk];exact d
   .exact(t7 g (f n) (by rw[len];omega)).mp h
 .intro m i a
  by_cases b:n0<=m
  .have:=hl m b i;rw[(t7 g (f m) (by rw[len];omega)).mpr a]at this;cases this
  .rw[g.mem_iff,mem_keys]at a;rcases a with z |⟨⟨v,k,p,l⟩,_⟩
   .have:=congrArg Ŋ z;rw[aM,len]at this;simp at this;omega
   .let{w,c,rfl}:=Ç.mp k
    rw[aM,aM,len]at l;have:=hw w c;omega
theorem t9(j:ss.Perm (bQ ws "" ws))(hw:∀w∈ws,1<=w.9)(h:p∈ss):bears ws p=false/\lend ss p=p:=by
 have a:("":Str)∈ss:=j.mem_iff.mpr (bj ws);constructor
 .rcases mem_keys.mp (j.mem_iff.mp h) with z |z
  .have:p="":=cY (by rw[z];exact(mw rfl).symm);rw[this];exact CU hw
  .exact(cE ws p).mpr z.2
 .refine cY ?_;rw[j3 a];have b:NN ss (ch p)=true:=j0.mpr h;exact FT (iI _) (iJ b (wfr _))
theorem cw.one(h:p∈ss):cw ss [(p,v)]:={ó.mpr {λz=>(nomatch z),ĸ},λk hk=>by rw[Ó.mp hk];exact h}
end
section
variable{g:Str}{ws ss ls:List Str}{p:Str}
theorem FW(h:bears ws (p++a)=true):jC ws ss p (a++c)=τ:=by
 unfold jC;rw[if_pos]
 cases e:bears ws (p++(a++c)) with
 |true=>rfl
 |false=>
  have:=p0 (a:=p++a) (b:=p++(a++c)) (by rw[<-oW,bC (p++a) c];exact{[],ch c,by simp}) e;rw[h]at this;cases this
theorem vQ(l:ss.Perm (bQ ws "" ws))(hw:∀w∈ws,1<=w.9)(h:bears ws (p++r)=false):∀j:List Nat,(j.filterMap λc=>if bears ws (lend ss (p++r)++{#[c]})=true then τ else ρ (r++({#[c]}:Str),lend ss (lend ss (p++r)++({#[c]}:Str))))=(j.map λc=>r++({#[c]}:Str)).filterMap (jC ws ss p)
 |[]=>rfl
 |c::j=>by
  rw[Ñ,Ġ,Ġ,vQ l hw h j]
  have e:(if bears ws (lend ss (p++r)++{#[c]})=true then τ else ρ (r++({#[c]}:Str),lend ss (lend ss (p++r)++({#[c]}:Str))))=jC ws ss p (r++{#[c]}):=by
   unfold jC;rw[t6 l h hw,vP l h,oW]
  rw[e]
theorem yM(j:ss.Perm (bQ ws "" ws))(hw:∀w∈ws,1<=w.9):∀L:List Str,eK g ws ss (L.filterMap (jC ws ss p))=(L.flatMap λr=>(ch g).map λc=>r++({#[c]}:Str)).filterMap (jC ws ss p)
 |[]=>rfl
 |r::L=>by
  rw[wdQ,web,<-yM j hw L,Ġ]
  cases h:bears ws (p++r) with
  |true=>
   have e:jC ws ss p r=τ:=by unfold jC;rw[if_pos h]
   rw[e,sv (l:=(ch g).map λc=>r++({#[c]}:Str)) λa ha=>by grind [FW]];rfl
  |false=>
   have e:jC ws ss p r=ρ (r,lend ss (p++r)):=by unfold jC;rw[if_neg (by rw[h];exact ß)]
   rw[e,<-vQ j hw h];exact wdQ ..
theorem yN(l:ss.Perm (bQ ws "" ws))(hw:∀w∈ws,1<=w.9)(j:p∈ss):∀n,nh g ws ss p n=(L5 g n).filterMap (jC ws ss p)
 |0=>by
  let{b,a}:=t9 l hw j
  show [(("":Str),p)]=[("":Str)].filterMap (jC ws ss p);have e:jC ws ss p ""=ρ (("":Str),p):=by unfold jC;rw[Bw,a,if_neg (by grind)]
  rw[Ġ,e];rfl
 |n+1=>by
  show eK g ws ss (nh g ws ss p n)=((L5 g n).flatMap λr=>(ch g).map λc=>r++({#[c]}:Str)).filterMap (jC ws ss p);rw[yN l hw j n,yM l hw]
theorem Ay(l:ss.Perm (bQ ws "" ws))(hw:∀w∈ws,1<=w.9)(j:p∈ss)(n:Nat):(L5 g n).filterMap (Ij ws ss ls p)=aQ g ws ss ls n p:=by
 unfold aQ;rw[yN l hw j]
 have:∀L:List Str,L.filterMap (Ij ws ss ls p)=(L.filterMap (jC ws ss p)).filter λq=>decide (q.2∈ls):=by
  intro L
  induction L with
  |nil=>rfl
  |cons r L a=>
   rw[Ġ,Ġ,a];unfold Ij jC
   cases h:bears ws (p++r) with
   |true=>rfl
   |false=>
    rw[if_neg ß,if_neg ß]
    by_cases hl:lend ss (p++r)∈ls
    .rw[if_pos hl,ė (by exact decide_eq_true hl)]
    .rw[if_neg hl,Ī (by simpa using hl)]
 exact this _
end
theorem xc(nd:(ch g).Nodup)(l:ss.Perm (bQ ws "" ws))(hw:∀w∈ws,1<=w.9)(j:p∈ss)(n:Nat):((aQ g ws ss ls n p).map (·.1)).Nodup:=by
 rw[<-Ay l hw j n];refine List.Nodup.sublist (ic (λr x e=>?_) _) (by rw[qX];exact vJ nd n);unfold Ij at e;split at e
 .cases e
 .grind
theorem DE.first{g:Str}{ws ss ls:List Str}{n:Nat}{hs:List Str}(nd:(ch g).Nodup)(l:ss.Perm (bQ ws "" ws))(hw:∀w∈ws,1<=w.9)(j:∀p∈hs,p∈ss)(hn:hs.Nodup):DE (aQ g ws ss ls n) hs (bz g ws ss ls n hs):=by
 intro p w e;unfold bz;rw[sU p (w,e) _ hs hn]
 by_cases h:p∈hs
 .rw[if_pos h];unfold fk;rw[An (wM (xc nd l hw (j p h) n)) hn];exact Pa {λz=>⟨z.1,h,z.2⟩,λz=>⟨z.1,z.2.2⟩}
 .rw[if_neg h,if_neg (λz=>h z.2.1)]
theorem hO.first{f:Str->Int}(hn:∀p∈ls,0<=f p)(j:DG g ws ss ls many n f):hO many (aj ls f) ((aj ls f).map f) (bz g ws ss ls n (aj ls f)):=by
 have a:∀p∈aj ls f,p∈ls/\0<f p:=λp b=>{(Ý.mp b).1,of_decide_eq_true (Ý.mp b).2};refine{À _,À _,λw hw=>?_,λl hl q c=>?_,λi l hl=>?_}
 .let{p,b,rfl}:=Ç.mp hw
  have:=(a p b).2
  lia
 .let{p,b,rfl}:=Ç.mp hl
  let{z,d,rfl}:=Ç.mp c
  exact List.idxOf_lt_length_of_mem (of_decide_eq_true (Ý.mp d).2)
 .unfold bz at hl;rw[È]at hl
  cases e:(aj ls f)[i]? with
  |none=>rw[e]at hl;cases hl
  |some p=>
   rw[e]at hl;cases hl;rw[F9 hn,Õ,È,e];exact j p (a p (á e)).1
theorem fm.start{f:Str->Int}(nd:(ch g).Nodup)(j:ss.Perm (bQ bw "" bw))(hw:∀w∈bw,1<=w.9)(l:∀p∈ls,p∈ss)(hl:ls.Nodup)(hn:∀p∈ls,0<=f p)(o:DG g bw ss ls many n f) :
 fm g bw ss ls many n f [] (aj ls f) ((aj ls f).map f) (bz g bw ss ls n (aj ls f)):=
 {.nil,hO.first hn o,DE.first nd j hw (λp j=>l p (Ý.mp j).1) (hl.filter _),vp hn,wgY _,λp j=>(Ý.mp j).1}
noncomputable def IY(p b:Addr)(many wide:Int)(h l:Addr)(o:Str)(i:Int):List (Str×V):=[("scheme",.ref p),("band",.ref b),("many",.int many),("wide",.int wide),("homes",.ref h),("lines",.ref l),("opening",.str o),("first",.int i)]
section
variable{g:Str}{ws ss ls:List Str}
theorem yO{w:Str->Int}(he:("":Str)∈ss)(j:∀p∈ss,p∉ls->w p=0)(p:Str)(l:p∈ss):qW (aN g ws ss) w n p=eX g ws ss ls n w p:=by
 rw[Fz];unfold eX aQ;refine(lB λq a e=>j _ ?_ (of_decide_eq_false e)).symm
 cases n with
 |zero=>
  rw[Ó.mp (show q∈[(("":Str),p)] from a)];exact l
 |succ n=>
  let{r,_,b}:=we2.mp (show q∈(nh g ws ss p n).flatMap (gH g ws ss) from a)
  unfold gH at b
  let{c,_,e}:=Ŵ.mp b
  split at e
  .cases e
  .rw[<-Î e];exact nA he _
theorem CV{j:List Str}(l:ss.Perm (bQ ws "" ws))(hw:∀w∈ws,1<=w.9)(C:∀w∈ws,∀c∈ch w,c∈ch g)(I:("":Str)∈j)(hc:∀p∈j,∀q∈aN g ws ss p,q∈j):∀p∈ss,p∈j:=by
 have v:("":Str)∈ss:=l.mem_iff.mpr (bj ws)
 have key:∀(r:List Nat) (t:Str),ch t=r.reverse->(∀c∈r,c∈ch g)->bears ws t=false->lend ss t∈j:=by
  intro r
  induction r with
  |nil=>
   intro t e _ _;have:t="":=cY (by rw[e];exact(mw rfl).symm);rw[this,FV v];exact I
  |cons c r x=>
   intro t e n o;obtain⟨u,s⟩:∃u:Str,ch u=r.reverse:={⟨r.reverse.6⟩,rfl};have h:t=u++({#[c]}:Str):=cY (by rw[e,bC,s,List.reverse_cons]);have b:bears ws u=false:=p0 (show ch u <:+: ch t by rw[h,bC];exact(wdI _ _).isInfix) o;have k:=x u s (λd hd=>n d (Ô _ hd)) b;rw[h,<-vP l b];refine hc _ k _ ?_;unfold aN;refine Ŵ.mpr {c,n c (Ø ..),?_};rw[if_neg];rw[t6 l b hw,<-h,o];decide
 intro p f
 let{k,y}:=t9 l hw f
 rw[<-y];refine key (ch p).reverse p (List.reverse_reverse _).symm (λc a=>?_) k;have a:=List.mem_reverse.mp a;rcases(ig ws).mp (l.mem_iff.mp f) with z |⟨w,m,i,hi,z,_⟩
 .rw[z]at a;rw[mw rfl]at a;cases a
 .rw[z,kU]at a;exact C w m c (wes a)
end
section
variable{ss:List Str}{E:Str->List Str}
theorem TopK.start(h:0<=most):TopK E ss many n most λ_=>most:={λ_ _=>h,λ_ _=>μ _,λ_ a _ p b=>(a p b).2}
end
section
variable{ws ss:List Str}
theorem vR(g:ss.Perm (bQ ws "" ws))(hw:∀w∈ws,w.9<=5)(j:bears ws r=false)(l:n0<=r.9-4)(hn:n<=r.9)(hl:∀m,n0<=m->m<n->iY ws (cb r m)=false)(h:n=r.length\/iY ws (cb r n)=true):lend ss r=cb r n:=by
 by_cases d:r.9<=4
 .exact yL g hw j (n0:=0) (à _) hn (λm _ a=>hl m () a) h
 .refine yL g hw j (n0:=r.9-5) (Å _) hn (λm c a=>?_) h
  by_cases e:m=r.9-5
  .subst e;unfold iY;rw[wf1];intro w b;have dl:(cb r (r.9-5)).9=5:=by rw[<-aM,iZ,ď,aM];lia
   have:=hw w b;rw[dl,decide_eq_false ()];exact λz=>nomatch z
  .exact hl m () a
end
section
variable(p b h l:Addr)(many wide i:Int)(o:Str)
theorem NZ:cm "first" (.int i) (Pg p b many wide h l o)=IY p b many wide h l o i:=eu (by show ("first":Str)∉[("scheme":Str),"band","many","wide","homes","lines","opening"];decide+kernel)
end
end Bs
namespace L2
open PySem.Spec PyProof.Rows PySem.Calls
section
variable{X:Cx}
theorem xf{E:Value->Shared->Prop}{Q:Value->Shared->Prop}(l:args.any (·.1)=false)(o:j.any (·.1.isNone)=false)
 (h:wpAny M A (evalArgs (.type T) true args j) (λa g=>wpAny M A (call (.type T) (first++a.pos) a.kw) Q E g) E s):wpAny M A (callWith pos (.type T) first args j) Q E s:=by
 unfold callWith;refine Â (ö (ê h (λa g b=>Â (Ž ?_)) λ_ _ x=>x));simp only[l,o,Bool.or_false];exact Â (Í (Â (ê b (λr c d=>Â (ö (wpAny_point (Í d)))) λ_ _ x=>x)))
theorem Az{P:É}{w:World}{K:Á}{elts:List Expr}{k:Nat}{pos:Pos}(d it:Addr)(o:Obj)(kvs:List (Key×V))(es:Array DictEntry)(ep:Nat)(ho:o.data=.dict es ep):Turn P w K (.Tuple elts k pos) (QX d o kvs) [it] it (λi h=>∃ok ov,IsItemIter h it d i kvs.length ep ok ov) where
 mem:=by simp
 obj:=λi h st b hb=>by
  have e:b=it:=by simpa using hb
  subst e
  let{ok,ov,e}:=st
  exact{_,e,λv z=>by
   have z':weJ _=wfM v:=z
   cases z'}
 keep:=λi h h' ⟨ok,ov,e⟩ k=>{ok,ov,k it (by simp) _ e}
 item:=by
  intro X hP hw hK hc i pins s σ H E I hf st hg;subst hP hw hK
  let{hq,hi}:=hg
  let{vs,rel,O0}:=oJ I hq ho
  have hx:kvs[i]?=ρ kvs[i]:=by simp[hi]
  let{{k,v},hv,e1,e2}:=zC rel hx
  let{ok,ov,hit}:=st
  rw[rel.9]at hit;refine wpAny_pyNext_items_item hit O0 hv λkey h' QZ R9 hT hsz hk=>?_;refine{1,wpAny_letOwnedTupleGo_items R9 λTl Tv ED=>?_};have elt:it<s.8:=Ë hit
  have rk:RelV (kV kvs[i].1) key:=by
   have e':kvs[i].1=k:=e1;rw[e'];rcases bD QZ with⟨i,t,rfl,rfl⟩ |⟨y,t,rfl,rfl⟩
   .exact⟨t,rfl⟩
   .exact⟨t,rfl⟩
  let{fr,I1,hn}:=rV (y:=kV kvs[i].1) s.toks I hf (λb o h q=>(ED.2 b λz=>h (Ó.mpr z)).trans (hk b o (λz=>h (Ó.mpr z)) q)) ((ED.2 _ (Ķ elt)).trans hT) rk e2 (λb hb=>Ó.mp hb ▸ elt)
  rw[<-rel.9]at Tv;exact{.ref s.8,_,I1,rfl,{s.8,kvs[i],fr,rfl,hx,rfl},⟨key,v,Tv⟩,hn}
 done:=by
   intro X hP hw hK hc i pins s σ H E I hf st hg;subst hP hw hK
   let{hq,hi}:=hg
   let{vs,rel,O0}:=oJ I hq ho
   let{f0,f1,f2,f3,f4,f5}:=hf it (by simp)
   let{ok,ov,hit}:=st
   rw[rel.9]at hit hi;exact wpAny_pyNext_items_end (I.ok.hd hc) hit O0 (by simp;omega) λh' eb=>{rfl,I.turned (t':=s.toks) (λb o hb e=>eb b o hb e) f0 f1 f3 f4 f5}
 self:=λA i s Q E st h=>by
  let{ok,ov,e}:=st
  have hT:s.TypeIs (.ref it) "dict_itemiterator":={_,e,rfl};refine wpAny_pyIter_slot hT wdL (wpAny_call_entry wdL hT (show entryFor table "dict_itemiterator.__iter__"=ρ Ĩ.«dict_keyiterator.__iter__» from entryFor_alias (id':="dict_keyiterator.__iter__") (by kernel_rfl) rfl ∅ (by kernel_rfl)) ?_ (PySem.F.args_dict_itemiterator_iter_1 _));show wpAny _ _ (ret (.ref it)) _ _ s;exact Í {1,"dict_itemiterator",_,hT,PySem.F.slot_dict_itemiterator_next.lookup,h}
theorem CW{o:Expr}{p:TE}{apos g:Pos}(r:PE X o p)(j:ĵ o "items" X.env (eval o X.5)=eval o X.5:=by rfl)(l:(apos.endLine==g.line)=true:=by rfl):PE X (.Call (.Attribute o "items" apos) [] [] g) (QY p):=by
 refine{?_};intro b s σ H Q I h;refine wfA j l (bG (r b s σ H _ I h) λv f ⟨x,i,k,m,d,ob,c,e,hd,q⟩=>?_);subst e;have t:=m;cases m
 let{_,_,_,_,n,_,_,e,ex,_}:=(show bq X.prog X.w i f.heap d (.dK c) from Eh k.aT (.inr ⟨ob,hd⟩))
 refine{"dict","dict.items",η,wfB,PySem.F.type_dict_items,⟨n,e,ex.1⟩,λa u=>?_,wd5 rfl (wgE (CI b f σ i (.ref d) [] _ [] Q k t .nil ⟨d,ob,c,rfl,rfl,hd,q⟩))};cases u;exact⟨n,e,ex.2.1⟩
theorem AA{K:Á}{d l:Addr}{o:Obj}{kvs:List (Key×V)}{p:St}{t:TE}{H:Hp}{Q:Hp->Prop}(F:Key×V->V)(C:H d=ρ (.frz o (.dK kvs)))(hl:H l=τ)(J:kvs.9<=sizeLine)
 (he:∀g r I,g∈kvs->a8 H r->(∀j,a8 r j->I (F g) j)->t (ρ (kV g.1)::ρ g.2::p) r I)
 (hd:∀j,a8 H j->j l=ρ (.lst (kvs.map F))->Q j):gD K (QX d o kvs) l p qw t H Q:=by
 refine{λi m k a=>m=kvs.9-i/\i<=kvs.9/\a8 H a/\a l=ρ (.lst k)/\k=(kvs.take i).map F,{kvs.9,by simp,à _,a8.upd hl,a5,rfl},?_};rintro i m k a ⟨rfl,hi,c,n,h⟩;refine{n,?_}
 by_cases f:i<kvs.9
 .refine .inr {{c _ _ C,f},?_,λx r y=>?_}
  .rw[h,À,Û]
   lia
  .let{T,g,u,v,y,w}:=y
   subst v w;have q:a8 a (upd a T (.tup [kV g.1,g.2])):=a8.upd u;have z:kvs.take (i+1)=kvs.take i++[g]:=by rw[Ć,y];rfl
   refine{T,kV g.1,g.2,rfl,eY.of a5,?_};unfold qw;dsimp only;rw[if_pos rfl];refine he g _ _ (á y) (c.trans q) λA s=>{s _ _ (q _ _ n),kvs.9-(i+1),(),rfl,f,λb o e=>?_,a5,?_}
   .rw[aa (a9 e hl)];exact s _ _ (q _ _ (c _ _ e))
   .rw[z,Ò,h];rfl
 .have e:i=kvs.9:=();subst e;rw[ä]at h;exact .inl {{c _ _ C,Å _},hd a c (by rw[n,h])}
end
section
variable{prog:É}{w:World}{A:Around}{E:Value->Shared->Prop}{s:Shared}
theorem AB(o l:Addr)(t:Tok):Meets (Ĩ.«object.__init__» {[.ref o,.ref l],JN t}) (λ_ R s=>s.TypeIs (.ref o) "enumerate"/\R (.ok (.ret .none)) s):=by
 have hl:=weP.init.lookup;have c:=weP.made;have a:(ρ "enumerate.__new__" != ρ "object.__new__")=true:=⋯;refine Meets.of_wp λprog w A R s ⟨d,b⟩=>?_
 repeat (any_goals (first |assumption |wp_step))
 exact{_,rfl,b}
theorem CY(g:A.handled=τ)(it l:Addr)(items:Array Value)(i:Nat)(p:items[i]?=τ):Draws prog w A it [it,l] (i+1) (λ_ _=>False) (λj h=>j=i+1/\h.IsListIter it l i/\h.IsList l items) where
 live:=λ_ _ {_,st,_}=>let ⟨o,a,_⟩:=st;⟨o,a⟩
 frame:=λ_ _ _ ⟨e,st,sl⟩ hk=>{e,st.at λo q=>hk it (by simp) o q,sl.at λo q=>hk l (by simp) o q}
 item:=λ_ _ _ _ b {e,_} _=>absurd e (Ù b)
 done:=λ_ _ _ {_,st,sl} c=>wpAny_nextOf_list_end g st sl p c
end
section
variable{X:Cx}{elts:List Expr}{k:Nat}{Ra:Pos}
theorem CZ{l:Expr}{p:TE}(hl:PE X l p):PI X (.Tuple elts k Ra) l (IH p):=by
 refine{?_};intro f s σ H R I h;refine bG (hl f s σ H _ I h) λv g ⟨x,t,a,u,y⟩=>?_
 let{j,d,o,m,e,z,hd,q}:=y
 subst e;cases u
 let{c,_}:=(show bq X.prog X.w t g.heap j (sR j d) from a.aT j _ z)
 let{A,_}:=a.aT d _ hd
 let{_,lo,_,_,E,B,C,i,G,r,J}:=hH a.aT (.inr ⟨o,hd⟩)
 rw[A]at i;cases i
 let{L,rel,n}:=oJ a hd r
 refine wpAny_pyIter_items c n ?_;refine{g.8,[g.8],_,_,1,a.kept (t':=g.toks) λb o e=>Ð _ e,Az d _ o m B C r,{.none,.none,by rw[rel.9];exact ã _ rfl},λb D=>?_,q};have e:b=g.8:=by simpa using D
 subst e;exact a.xR (Å _) (a.aT.fresh (Å _))
end
section
variable{prog:É}{w:World}{A:Around}{s:Shared}{l I S:Addr}{vs:List Value}{R:ī->Shared->Prop}
theorem xg(kf:Nat->Int)(hh:A.handled=τ)(hl:s.heap.IsList l vs.6)(hI:I=s.8)(Lr:S≠I)(W8:s.8<=S)
 (turn:∀(i:Nat) (v:Value),vs[i]?=ρ v->∃p items,v=.ref p/\s.heap.IsList p items/\(items.size:Int)=kf i/\(items.size:Int)<2^63)
 (hR:∀(v:Value) (h':Heap) (AD:Nat),v∈vs->(∀b o,s.heap.get? b=ρ o->h'.get? b=ρ o)->R (.ok (.ret v)) {s with heap:=h',toks:=AD}) :
 ∀(r j i:Nat) (h:Heap) (tk:Nat) (vb:Value) (tb:Tok) (c:Nat),vs.9-(j+1)=r->j+1<=vs.9->(∀b o,s.heap.get? b=ρ o->h.get? b=ρ o) ->
  h.get? S=ρ (seqObj "list" #[vb,.int (kf i) tb] c)->h.IsListIter I l (j+1)->vs[i]?=ρ vb ->
  codeAny (model prog w) A (.builtin "min.loop" {[.ref I,.builtin "len",.ref S],[]}) R {s with heap:=h,toks:=tk}:=by
 have yP:(toString "min"++toString ".loop":String)="min.loop":=⋯;have AF:l<s.8:=let ⟨o,ho,_⟩:=hl;Ë ho
 have O1:l≠I:=by rw[hI];exact Ù AF
 have W:=Δ (prog:=prog) (w:=w) (A:=A.in1) hh I l O1 vs.6;have hsz:vs.toArray.size=vs.9:=â ..
 have old:∀{b:Addr} {o:Obj},s.heap.get? b=ρ o->b≠S/\b≠I:=λ{b o} e=>by
  have hb:b<s.8:=Ë e;exact{Ù (Þ hb W8),by rw[hI];exact Ù hb}
 intro r
 induction r with
 |zero=>
  intro j i h tk vb tb c hr hj mono nS hit Rb;have O2:j+1=vs.9:=1.0;refine Ĭ wdV ?_;rw[Ņ ţ _];show wpAny _ A.in1 (Ţ (.ref S) >>= _) _ _ _;refine Â (š nS rfl ?_);show wpAny _ A.in1 (tryCatch (pyNext (.ref I)) _ >>= _) _ _ _;refine Â (ĝ (W.done _ _ _ {by rw[hsz,<-O2];exact hit,fM hl mono} λh' AD GO=>?_));have Wa:=GO S _ (by simpa using Lr) nS;have s1:=weC h' S (Ĺ λ_=>(#[]:Array Value));show wpAny _ A.in1 (wgZ S (λ_=>#[]) >>= _) _ _ _;refine Â ?_;refine Ż Wa rfl (Â (ř (Í ?_)));exact hR vb _ _ (á Rb) λb o e=>(s1.2 b (old e).1).trans (GO b o (by simpa using(old e).2) (mono b o e))
 |succ r ih=>
  intro j i h tk vb tb c hr hj mono nS hit Rb;have Ls:j+1<vs.9:=1.0;refine Ĭ wdV ?_;rw[Ņ ţ _];show wpAny _ A.in1 (Ţ (.ref S) >>= _) _ _ _;refine Â (š nS rfl ?_);show wpAny _ A.in1 (tryCatch (pyNext (.ref I)) _ >>= _) _ _ _;refine Â (ĝ (W.item (j+1) _ _ _ (by rw[hsz];exact Ls) {hit,fM hl mono} λv h' AD hP IZ GO=>?_));have hv:vs[j+1]?=ρ v:=by simpa using hP
  have vS:∀b o,s.heap.get? b=ρ o->h'.get? b=ρ o:=λb o e=>GO b o (by simpa using(old e).2) (mono b o e);have M8:=GO S _ (by simpa using Lr) nS
  let{p,items,rfl,hp,Rc,D0}:=turn (j+1) v hv
  show wpAny _ A.in1 (tryCatch (holding [Æ p] (call (.builtin "len") [.ref p])) _ >>= _) _ _ _;refine Â (ĝ (ö (wey (fM hp vS) D0 ?_)));rw[Rc];show wpAny _ A.in1 (tryCatch (holding [Æ p,.int (kf (j+1)) _] (richCompare .Lt (.int (kf (j+1)) _) (.int (kf i) tb) >>= _)) _ >>= _) _ _ _;refine Â (ĝ (ö (Â (CmpOf.ints_lt (prog:=prog) (w:=w) (A:=A.in1) (P:=λi v=>∃t,v=.int (kf i) t) kf (λi v h=>h) (j+1) i _ _ _ _ _ {_,rfl} ⟨tb,rfl⟩ ?_))));refine Â (ö (Ł ?_));refine Â (ř (Í ?_))
  by_cases FX:kf (j+1)<kf i
  .simp only[FX,decide_true,if_true];refine Â ?_;refine Ż M8 rfl (Â (ř ?_));rw[yP];have s1:=weC h' S (Ĺ λ_=>#[Æ p,.int (kf (j+1)) (AD+1)]);obtain⟨c2,Rf⟩:∃c2,(h'.update S (Ĺ λ_=>#[Æ p,.int (kf (j+1)) (AD+1)])).get? S=ρ (seqObj "list" #[Æ p,.int (kf (j+1)) (AD+1)] c2):={_,get?_update_seq M8 λ_=>#[Æ p,.int (kf (j+1)) (AD+1)]};refine Í {Ľ ţ _,ih (j+1) (j+1) _ _ _ _ c2 1.0 Ls (λb o e=>(s1.2 b (old e).1).trans (vS b o e)) Rf ?_ hv}
   let{Rg,Lv,Rh}:=id IZ.1
   exact{Rg,(s1.2 I Lr.symm).trans Lv,Rh}
  .simp only[FX,decide_false,ŋ,if_false];refine Â (ř ?_);rw[yP];exact Í {Ľ ţ _,ih (j+1) i _ _ vb tb c 1.0 Ls vS M8 IZ.1 Rb}
end
end L2
namespace K70
section
variable{w:World}
structure Txt(mg:Str->Option Value):Prop where
 «ValueError»:mg "ValueError"=τ
 «all»:mg "all"=τ
 «any»:mg "any"=τ
 «bool»:mg "bool"=τ
 «dict»:mg "dict"=τ
 «enum»:mg "enumerate"=τ
 «int»:mg "int"=τ
 «ur»:mg "isinstance"=τ
 «len»:mg "len"=τ
 «list»:mg "list"=τ
 «max»:mg "max"=τ
 «min»:mg "min"=τ
 «range»:mg "range"=τ
 «set»:mg "set"=τ
 «sorted»:mg "sorted"=τ
 «str»:mg "str"=τ
 «sum»:mg "sum"=τ
structure D1(K:Á)(C:Addr):Prop where
 cl:zm K C
 tf:bN K C "scheme"
 FY:bN K C "band"
 Lw:bN K C "many"
 FZ:bN K C "wide"
 g9:bN K C "homes"
 cA:bN K C "lines"
 D2:bN K C "opening"
 J0:bN K C "first"
theorem yB.one(a:yB g ws ss ls many n T)(b:yB g ws ss ls many n j):T=j:=by
 rcases a with⟨a1,f,a2,rfl⟩ |⟨k,a1,rfl⟩ |⟨a1,a2,rfl⟩<;>rcases b with⟨c,q,d,rfl⟩ |⟨e,c,rfl⟩ |⟨c,d,rfl⟩
 .rfl
 .exact(nq a1 c).elim
 .exact(vI a2 d).elim
 .exact(nq c a1).elim
 .let{h,i,l}:=Am.num a1 rfl
  let{m,o,p}:=Am.num c rfl
  obtain rfl:k=e:=by
   rcases whd k e with z |z |z
   .exact absurd h (p k i z)
   .exact z
   .exact absurd m (l e o z)
  rfl
 .exact(nq c a1).elim
 .exact(vI d a2).elim
 .exact(nq a1 c).elim
 .rfl
theorem AG(sz:Nat)(e:Str)(he:e.9=sz)(ws:List Str):(ws.map V.str).map (By sz e)=(ws.map λw=>decide (e.9<w.9)&&Μ w e).map V.bl:=by
 rw[Ê,Ê];refine ü λw _=>?_;subst he;show V.bl _=V.bl (decide (e.9<w.9)&&Μ w e);congr 1
 by_cases h:e.9<w.9
 .rw[decide_eq_true h,decide_eq_true (show (w.9:Int)>(e.9:Int) by omega),ő,ő,wdt,decide_eq_true_iff,mx];have a:ch (eW w e.9)=(ch w).take e.9:=by unfold eW;rw[ym]
  constructor
  .intro z;have b:eW w e.9=e:=V.str.inj z;rw[<-b,a];exact we1 _ _
  .intro z;have:(ch w).take (ch e).9=ch e:=(wfC.mp z).symm;rw[aM]at this;exact congrArg V.str (cY (by rw[a,this]))
 .rw[decide_eq_false h,decide_eq_false (show ¬(w.9:Int)>(e.9:Int) by omega)];rfl
theorem zq.keep{kvs:List (Key×V)}{E:Str->List Str}(M:zq H d o mv E ss)(hc:H g=ρ (.dK kvs))(k:∀c ob,H c=ρ ob->c≠g->j c=ρ ob):zq j d o mv E ss:=by
 refine{k _ _ M.hd λz=>?_,M.pm,λm a=>k _ _ (M.en m a) λz=>?_}
 .have:=M.hd;rw[z,hc]at this;cases this
 .have:=M.en m a;rw[z,hc]at this;cases this
theorem zq.at{E:Str->List Str}(M:zq H d o mv E ss)(j:p∈ss):∃a,cB H d (.str p) (ρ (.ref a))/\H a=ρ (.lst ((E p).map V.str)):=by
 let{a,b,e}:=di (M.pm.mem_iff.mpr j)
 have g:=cB.f (k:=(Ã p:Key)) M.hd;rw[e]at g;exact{a,g,M.en _ b}
theorem G0{X:Cx}{x:Str}{i:Nat}{g:List Expr}{ps:List (Int×Int)}{rest:List Stmt}{b:TS}{j l o:Pos}(p:X.N.Nodup)(hi:X.N[i]?=ρ x)(r:Loc X.env.scope x)(t:∀X,PA X g (rz ps))(C:ui X rest b)
 (hs:č (.List g l) (ρ (.Name x j)) o.line X.5=pure false:=by rfl) (I:X.fn x=true\/X.env.scope.names.lookup x=ρ .local:=by first |exact .inl rfl |exact .inr rfl |assumption) :
 ui X (.Assign [.Name x j] (.List g l) o::rest) (Ks (Hu (MN (rz ps)) (dM i)) b):=a6 (Ei (i:=i) p hi r (bP (t _)) hs I) C
end
end K70
namespace L2
open PySem.Spec PyProof.Rows PySem.W Builtin Builtin.ObjectAttr
section
variable{name:Str}
noncomputable abbrev O3:List Value:=[.type "ValueError",.type "Exception",.type "BaseException",.type "object"]
noncomputable abbrev p5(CB:Addr):List Value:=.ref CB::O3
theorem D3{fs:List (Str×V)}{g:Str->Option Value}(r:∀f,gV (fs.lookup f) (g f)):ζ g (fs.map (·.1)):=by grind [gV,ζ,Ø,Ô]
theorem yQ(h:fs.lookup name=τ)(f:Str):(fs++[(name,y)]).lookup f=if f=name then ρ y else fs.lookup f:=by
 grind
end
section
variable{prog:É}{w:World}{A:Around}{E:Value->Shared->Prop}{s:Shared}{K:Á}{x C CB:Addr}{name:Str}{v:Value}
theorem G4{Q:Value->Shared->Prop}(X:K.In s.heap)(I:InstAt s.heap x ox C (ρ od))(hc:clsIn K C=ρ cd)(p:cd.mro=.ref C::p5 CB)(j:cd.hasDict=true)
 (g:findIn K (.ref C) "__getattribute__"=ρ (ρ (.builtin "BaseException.__getattribute__"))) (l:findIn K (.ref C) "__getattr__"=ρ τ) (ha:findIn K (.ref C) name=ρ τ)
 (hl:lookIn name od=ρ (ρ v)) (o:handedIn v=true) (h:Q v {s with toks:=s.toks+1}):wpAny (model prog w) A (getAttr (.ref x) name expr) Q E s:=by
 have G:=weZ.ga;refine Â (wpAny_mkText (ö (Â (I.type _ _ _ _ (λ_ _ e=>e) (Â (δ X g _ _ _ _ (λ_ _ e=>e) ?_))))));dsimp only;rw[show (ε (Æ C)&&œ "BaseException.__getattribute__" == œ "object.__getattribute__")=false from by grind,if_neg ⋯];have a:Looks (model prog w) s.heap (hookBefore (.ref C)) τ:=looks_hook X (by grind);refine Â (a _ _ _ _ (λ_ _ e=>e) (Â (wgz (ö ?_))));unfold callGetattribute;rw[show (expr&&ε (œ "BaseException.__getattribute__"))=false from ŝ _,if_neg ⋯];unfold boundAndCalled;rw[G.bind];refine Â (Í ?_);show wpAny _ _ (call (.builtin "BaseException.__getattribute__") [.ref x,.str name s.toks]) _ _ _;refine đ ?_;have sub:Looks (model prog w) s.heap (Β (.ref x) (.type "BaseException")) true:=I.type.andThen (wg5 X (by grind [mroIn]));refine Ů G.plain wgg ?_;refine @wgG (model prog w) _ _ {s with toks:=s.toks+1} "BaseException.__getattribute__" "BaseException" "__getattribute__" (.ref x) [.str name s.toks] [] _ ∅ ∅ sub (wgu (.ref x) (.str name s.toks)) ?_
 have b:findObj K C (ρ od) name=ρ (.value v):=by
  unfold findObj;rw[hc,ha];simp only[we4];unfold PySem.W.ownOf;rw[j,if_pos rfl];dsimp only;rw[hl];rfl
 have c:=I.type (M:=model prog w);have d:=looks_find (M:=model prog w) X I b;unfold Ĩ.«object.__getattribute__»;refine Â (Í ?_);refine Â (Í (Â (c _ _ _ _ (λ_ _ e=>e) (Â (d _ _ _ _ (λ_ _ e=>e) ?_)))));refine Í ?_;show wpAny _ _ (handedOut v) _ _ _;rw[handedOut_of o];exact Í h
end
section
variable{prog:É}{w:World}{A:Around}{s:Shared}{K:Á}{x C CB f:Addr}{name:Str}{v:Value}{R:ī->Shared->Prop}
theorem vT(X:K.In s.heap)(I:InstAt s.heap x ox C od)(hc:clsIn K C=ρ cd)(hm:cd.mro=.ref C::p5 CB)(ha:findIn K (.ref C) name=ρ τ)
 (h:wpAny (model prog w) A.in1 (storeInOwnDict (.ref x) (.ref C) (.str name tk) name v false)
   (λfin s'=>match fin with |.done f=>R (.ok f) s' |.again c'=>c'.quiet=true/\codeAny (model prog w) A c' R s') (λe s'=>R (.error e) s') s) :
 codeAny (model prog w) A (.call (.builtin "object.__setattr__") {[.ref x,.str name tk,v],[]}) R s:=by
 have SF:=PySem.F.store_object;have sub:Looks (model prog w) s.heap (Β (.ref x) (.type "object")) true:=I.type.andThen (wg5 X (by unfold mroIn;rw[hc,we4,hm];rfl));refine Ů SF.slot.plain SF.entry (@wgG (model prog w) _ _ s "object.__setattr__" "object" "__setattr__" (.ref x) [.str name tk,v] [] _ SF.kind SF.split sub (SF.args (.ref x) (.str name tk) v) ?_);have Wb:Looks (model prog w) s.heap (mroOf (.ref C)) cd.mro:=(wdP X hc).andThen .now;have L3:Looks (model prog w) s.heap (storeTaker? τ) τ:=.now;rw[osa_eq,refuse_eq];refine Â (Â (I.type.here (Â (Wb.here ?_))));rw[hm,refuseLoop_ref,refuseLoop_ref,PySem.F.store_ValueError.passes];refine Í (Â (I.type.here (Â ((δ X ha).here (Â (L3.here ?_))))));exact h
end
section
variable{prog:É}{w:World}{A:Around}{E:Value->Shared->Prop}{s:Shared}{K:Á}{x C CB:Addr}{mA:Str->Option Value}{name:Str}{v:Value}
theorem D4{Q:Unit->Shared->Prop}(X:K.In s.heap)(hx:s.heap.get? x=ρ (qM C d t))(hd:s.heap.Ns1 d mA)(hw:ζ mA ns)(hl:ns.9<=100)(hc:clsIn K C=ρ cd)(hm:cd.mro=.ref C::p5 CB)(hh:cd.hasDict=true)(ha:findIn K (.ref C) name=ρ τ)
 (hs:findIn K (.ref C) "__setattr__"=ρ (ρ (.builtin "object.__setattr__")))
 (h:∀h' tk,(∀b,b≠d->h'.get? b=s.heap.get? b)->h'.Ns1 d (λy=>if y=name then ρ v else mA y)->Q .unit {s with heap:=h',toks:=tk}) :
 wpAny (model prog w) A (setAttr (.ref x) name v) Q E s:=by
 let{od,es,ep,e1,_}:=id hd
 have J:InstAt s.heap x (qM C d t) C (ρ od):=⟨hx,rfl,rfl,e1⟩;refine wf6 X J hs (vT (s:={s with toks:=s.toks+1}) X J hc hm ha ?_);unfold storeInOwnDict;refine Â (Í ?_);rw[if_neg (by simp)];unfold ownDictForStores instanceDict;refine Â (Â (weG hx ?_));dsimp only;refine Â (weN (s:={s with toks:=s.toks+1}) (wdP X hc) ?_);rw[hh];simp only[wgA,ŋ,if_false];refine Í ?_;show wpAny _ _ (storeInDict d (.str name s.toks) name v) _ _ _;unfold storeInDict newKeyGuard;refine Â (Í (Â (wgV hd λh' zt ED=>?_)))
 let{oD,Wc,Wd,Ri,Tw,Tx}:=zt.count (wfN name v hw)
 refine Â (wfm Ri (by grind [wfn,Ï,Ė]) ?_)
 wp_walk
 exact h h' _ (λb hb=>ED.2 b hb) zt
end
end L2
namespace L2
open PySem.Spec PyProof.Rows
structure bA(K:Á)(C CB:Addr)(nm:Str):Prop where
 lk:∃(q:Str) (N:Addr) (bs:List Value) (sn:List Str) (sub:List Value) (ab:Bool) (col:Option Bool) (dd:Option Addr) (k0 k1 k2 k3 k5:Option Value),
  K.lookup C=ρ (Č nm q C N bs (p5 CB) true sn sub ab col dd k0 k1 k2 k3 k5 "ValueError.__new__")
 sa:findIn K (.ref C) "__setattr__"=ρ (ρ (.builtin "object.__setattr__"))
 ga:findIn K (.ref C) "__getattribute__"=ρ (ρ (.builtin "BaseException.__getattribute__"))
 gh:findIn K (.ref C) "__getattr__"=ρ τ
 kp:keepIn K (.ref C)=true
structure AH(K:Á)(CB:Addr)(nm:Str):Prop where
 lk:∃(q:Str) (N:Addr) (bs:List Value) (hd:Bool) (sn:List Str) (sub:List Value) (ab:Bool) (col:Option Bool) (dd:Option Addr) (k0 k1 k2 k3 k5:Option Value),
  K.lookup CB=ρ (Č nm q CB N bs O3 hd sn sub ab col dd k0 k1 k2 k3 k5 "ValueError.__new__")
def Rj(K:Á)(CB:Addr)(tb:Ht)(j i:Nat):TS:=λD σ H=>tb (λσ' cv od H'=>∃C nm,cv=.ref C/\bA K C CB nm/\∀e,H' e=τ->D.nx (((σ'.set j (ρ (.ref e))).set i (ρ (.ref e))).set j τ) (upd H' e (XC e C od))) D σ H
theorem gK(he:("":Str)∈ss)(h:t∈aN g ws ss p):t∈ss:=by grind [aN,nA]
mutual
theorem bu.same{K:Á}{H g:Hp}(s:a8 H g):∀(d:iQ) (v:V),bu K H d v->bu K g d v
 |.at _,_,h=>h
 |.tup c,_,h=>by
  let{a,b,e,f,hl}:=h
  exact{a,b,e,s _ _ f,b7.same s c b hl}
 |.lst c,_,h=>by
  let{a,b,e,f,hl}:=h
  exact{a,b,e,mO s f,b7.same s c b hl}
theorem b7.same{K:Á}{H j:Hp}(s:a8 H j):∀(g:List iQ) (xs:List V),b7 K H g xs->b7 K j g xs
 |[],_,h=>h
 |d::g,_,h=>by
  let{v,a,e,b,hl}:=h
  exact{v,a,e,bu.same s d v b,b7.same s g a hl}
end
section
variable{prog:É}{w:World}{A:Around}{R:ī->Shared->Prop}{h:Heap}{g:Array ł}{d:Drawn}{t:Nat}{os:ô}{nm q:Str}{C CB N:Addr}{bs:List Value}{hdct:Bool}{sn:List Str}{sub:List Value}{ab:Bool}{col:Option Bool}{dd:Option Addr}{k0 k1 k2 k3 k5:Option Value}
theorem J1{M:Model}{E:Value->Shared->Prop}{rest:List Value}{Q:Unit->Shared->Prop}(j:h.get? C=ρ (Č nm q C N bs (p5 CB) hdct sn sub ab col dd k0 k1 k2 k3 k5 "ValueError.__new__"))
 (l:Q .unit ⟨h,g,d,t,os⟩):wpAny M A (we3 "ValueError.__new__" {.ref C::rest,[]}) Q E ⟨h,g,d,t,os⟩:=by
 have F:=wc3;have a:(Æ C::p5 CB).contains (.type "ValueError")=true:=rfl;have b:=F.noStar;simp only[we3,F.newKind,F.newSplit,F.newRow]
 repeat (first |refine Ħ j ?_ |(refine π j ?_;rw[a]) |refine wpAny_staticBase_exc j ?_ |refine wpAny_madeBy_exc j ?_ |simp only[bne_self_eq_false,ŋ,if_false] |wp_step)
 exact l
theorem J4{rest:List Value}(j:h.get? C=ρ (Č nm q C N bs (p5 CB) hdct sn sub ab col dd k0 k1 k2 k3 k5 "ValueError.__new__"))
 (o:R (.ok (.ret (.ref (h.7+1)))) {(h.push {cls:=.type "tuple",data:=.seq rest.6}).push
   {cls:=.ref C,data:=.fields #[.ref h.7,.none,.none,.none,.bool false,.none]},g,d,t,os}) (l:rest.9<=sizeLine:=by size_fits) :
 codeAny (model prog w) A (.builtin "ValueError.__new__" {.ref C::rest,[]}) R ⟨h,g,d,t,os⟩:=by
 have F:=wc3;have a:=F.ends;have b:(Æ C::p5 CB).contains (.type "ValueError")=true:=rfl;have c:(Æ C::p5 CB).contains (.type "AttributeError")=false:=rfl;have e:(Æ C::p5 CB).contains (.type "NameError")=false:=rfl;refine codeAny_builtinAt F.entry ?_;unfold Ĩ.«BaseException.__new__»;refine whI ?_;show PySem.wpAt _ _ _ (PySem.stack >>= _) _ _ _;refine whI (PySem.wpAt_stack λp f=>wgH ?_)
 wp_walk
 refine wgH ?_;rw[F.owner]
 repeat (first |with_reducible refine wpAny_madeHere_exc F.canon j ?_ |with_reducible refine Ħ j ?_ |(with_reducible refine π j ?_;first |rw[b] |rw[c] |rw[e]) |wp_step)
 show R _ _;rw[Ĝ];exact o
theorem pH{E:Value->Shared->Prop}{Q:Flow->Shared->Prop}(l:A.handled=τ)
 (h:wpAny M A (eval x env) (λv j=>∃e od t,v=.ref e/\j.heap.get? C=ρ (Č nm q C N bs (p5 CB) hdct sn sub ab col dd k0 k1 k2 k3 k5 "ValueError.__new__") /\
   j.heap.get? e=ρ {cls:=.ref C,dict:=od,data:=.fields #[.ref t,.none,.none,.none,.bool false,.none]}/\E (.ref e) j) E s) :
 wpAny M A (exec (.Raise (ρ x) τ pos) env) Q E s:=by
 have key:wpAny M A (raiseStmt env (ρ (do let v <-eval x env;standAt pos;pure v)) τ) Q E s:=by
  have b:(Æ C::p5 CB).contains (.type "BaseException")=true:=rfl;unfold raiseStmt;refine Â (Â (ê h (λv j a=>Â (Ž (Í ?_))) λ_ _ x=>x))
  let{e,od,t,rfl,c,f,i}:=a
  let{k,g,d,m,os}:=j
  repeat (first |with_reducible refine Ħ f ?_ |with_reducible refine Ħ c ?_ |(with_reducible refine π c ?_;rw[b]) |wp_step)
  exact wpAny_raiseNew_none l i
 rw[arm_exec_Raise];exact Â (Ž key)
end
section
variable{X:Cx}{e:Expr}{te:TE}{pos p:Pos}
theorem DH(g:X.mg "len"=τ)(h:PE X e te)(j:Gl X "len":=by rfl)(he:starEach [e] X.5=(false,eval e X.5)::starEach [] X.5:=by rfl)(hpl:(backTo pos (starEach [] X.5)).any (·.1)=false:=by rfl) :
 PE X (.Call (.Name "len" p) [e] [] pos) (P8 (λxs H Q=>∃z,xs=[.str z]/\z.9<=sizeLine/\Q (.int z.9) H) (pk te wo)):=ax wF j g Ρ (a7 h dW he) (he:=he) (hpl:=hpl)
theorem J5(g:X.mg "len"=τ)(h:PE X e te)(j:Gl X "len":=by rfl)(he:starEach [e] X.5=(false,eval e X.5)::starEach [] X.5:=by rfl)(hpl:(backTo pos (starEach [] X.5)).any (·.1)=false:=by rfl) :
 PE X (.Call (.Name "len" p) [e] [] pos) (P8 (λxs H Q=>∃p ys,xs=[.ref p]/\(aG X.K H p ys\/eY X.K H p ys)/\Q (.int ys.9) H) (pk te wo)):=ax mW j g Ρ (a7 h dW he) (he:=he) (hpl:=hpl)
end
section
variable{M:Model}{A:Around}{E:Value->Shared->Prop}{e C CB:Addr}{nm q D5 qB:Str}{N NB:Addr}{bs We:List Value}{hdct Wf:Bool}{sn Wg:List Str}{sub subB:List Value}{ab Wh:Bool}{col Rk:Option Bool}{dd Wi:Option Addr}{k0 k1 k2 k3 k5 l0 l1 l2 l3 l5:Option Value}
theorem Lx{h:Heap}{g:Array ł}{d:Drawn}{t:Nat}{os:ô}{l:Obj}{Q:Bool->Shared->Prop}(o:h.get? C=ρ (Č nm q C N bs (p5 CB) hdct sn sub ab col dd k0 k1 k2 k3 k5 "ValueError.__new__"))
 (p:h.get? CB=ρ (Č D5 qB CB NB We O3 Wf Wg subB Wh Rk Wi l0 l1 l2 l3 l5 "ValueError.__new__")) (he:h.get? e=ρ l) (j:l.cls=.ref C) (r:Q true ⟨h,g,d,t,os⟩) :
 wpAny M A (excMatches (.ref e) (.ref CB)) Q E ⟨h,g,d,t,os⟩:=by
 have a:(Æ CB::O3).contains (.type "BaseException")=true:=rfl;have b:(Æ C::p5 CB).contains (.ref CB)=true:=by grind
 have f:=tc_notTuple;unfold excMatches
 repeat (first |(with_reducible refine Ħ he ?_;rw[j]) |with_reducible refine Ħ o ?_ |with_reducible refine Ħ p ?_ |(with_reducible refine π o ?_;rw[b]) |(with_reducible refine π p ?_;rw[a]) |wp_step)
 exact r
end
section
variable{X:Cx}{CB:Addr}{D5 n x J6:Str}{body:List Stmt}{tb:Ht}{i j:Nat}{p1 p2 p3 p4 Rl pos:Pos}
theorem Ly(r:X.stack=X.5::X.outer/\X.env.frame=ρ X.env.locals)(l:HB X body tb)(hg:Gl X D5)(hm:X.mg D5=ρ (.ref CB))(TB:AH X.K CB J6)(T:X.N.Nodup)(J:X.N[j]?=ρ n)(hi:X.N[i]?=ρ x)
 (g:X.env.scope.names.lookup n=ρ .local) (hx:Loc X.env.scope x) (Wj:(D5==("__debug__":Str))=false:=by decide) (Wk:(n==("__debug__":Str))=false:=by decide) (Wl:(n==("__classdict__":Str))=false:=by decide)
 (hf:X.fn x=true\/X.env.scope.names.lookup x=ρ .local:=by first |exact .inl rfl |exact .inr rfl |assumption) (QK:č (.Name n p3) (ρ (.Name x p2)) p4.line X.5=pure false:=by rfl) :
 PS X (.Try body [.ExceptHandler (ρ (.Name D5 p1)) (ρ n) [.Assign [.Name x p2] (.Name n p3) p4] Rl] [] [] pos) (Rj X.K CB tb j i):=by
 refine{?_};intro a s σ H D I h;refine wpAny_Try_except (ê (l a s σ H D _ I h) (λf s1 q=>?_) λev s1 q=>?_)
 .cases f with
  |next=>exact Ŝ q
  |ret v=>exact q
  |brk=>exact q
  |cont=>exact q
 let{k,H0,w,d,e,L,M,u,rfl,t,bare,un,aT,F,C,Tz,O,U,hD}:=q
 cases O;have I1:Inv X a k u s1:=d.vf t un aT bare λb z=>absurd z (by simp);have Q:(X.5::X.outer).filterMap (·.frame)=qu X.stack:=by rw[r.1];rfl
 have A:=I1.qP
 have B:w.8<=s1.8:=why λz=>by
  let{R,_,vs,sl,he,_}:=F
  exact absurd (Þ (Ě R (Ë he)) (ŷ z)) (þ _)
 refine xP (lo:=w.8) (H:=u) (base:=X.base) (outer:=X.outer) (by rw[<-r.1];exact d.ok.frames) (by rw[<-r.1];exact I1.stack) r.2 B (λb l=>aT.fresh l) F λh2 F2 p=>?_;rw[Q]at p
 let{S,E,J2}:=d.Ew t bare un aT p A
 have V:=J2 s1.toks
 let{qC,NC,Z9,Za,Wm,Zb,Wn,Zc,c0,c1,c2,c3,c5,Y}:=U.lk
 let{qT,NT,Zd,Ze,Zf,Wo,Zg,Wq,Zh,t0,t1,t2,t3,t5,Z}:=TB.lk
 let{Ws,Zi,Wt,_}:=id F2.ob
 refine wpAny_handleBy_cons (codeAny_handlers_test (g7 (X:=X.marked e) (V.marked (e:=e)) hg hm ?_ Wj)) (by intro z;cases z);refine Lx (V.fP _ _ Y) (V.fP _ _ Z) Wt rfl ?_;refine codeAny_handlers_suite_as ?_;refine zH F2 λh3 F3 k3=>?_;have Wu:E7 w.heap.objs.size u (qu X.stack) h2 h3:={λb o q l _=>k3 b o q l,λb o q l=>{o.slots,k3 b o q (.inl ?_)}}
 rotate_left
 ·
  have:∃o,w.heap.get? b=ρ o:=by
   let{_,o,G,_}:=d.stack.mem l
   exact⟨o,G⟩
  let{o,G}:=this
  exact Ë G
 let{Zj,Ww,J3}:=d.Ew (s1:={s1 with heap:=h2}) t bare S E Wu A
 have I3:=J3 s1.toks
 let{TC,Zk,Wx,_}:=id F3.ob
 have old:∀{b:Addr},b<w.8->b≠e:=λl z=>by rw[z]at l;exact absurd (Þ l F.ge) (þ _)
 have Wy:Inv X a k (upd u e (XC e L M)) {s1 with heap:=h3}:=I3.Nh F.nt (Ï d.sz F.ge) (è (old d.lt)) (λy c hc=>old (by
  let{v,o,G,_}:=d.cell y c hc
  exact Ë G)) (λp hp=>old (Ë (d.pin p hp).1)) (QG Wx)
 refine jM (v:=.ref e) Wy T J (.inl g) rfl (λs4 I4=>?_) (.inr g);have Wz:j<k.9:=by rw[d.len];exact(Ö.mp J).1
 have ev:=E9 (X:=(X.marked e).Hg) (pos:=p3) J (.inl g) Wk Wl a s4 _ (upd u e (XC e L M)) (λv WB=>v=.ref e/\WB=upd u e (XC e L M)) ((I4.marked (e:=e)).kZ _) {.ref e,ξ Wz,rfl,rfl};refine wdj (wpAny_Assign_Name (HG (bG ev λv s5 ⟨y,H5,I5,r5,ey,eH⟩=>?_)) QK);subst ey;subst eH;have I5:=(I5.eG).unmarked d.ok;refine jM I5 T hi hx r5 (λs6 I6=>Ŝ ?_) hf
 let{m,hn,hl}:=id I6.loc
 refine wpAny_nameGoes_keeps g hn (by rw[I6.ok.kind];rfl) λh7 v7 WC WD=>?_;exact{_,_,I6.Es (m:=m) (tk:=s6.toks+1) T J g ⟨m,hn,hl,WC⟩ WD,hD e F.nt}
end
end L2
namespace L2
open PySem.Spec PyProof.Rows Builtin Builtin.ObjectAttr
section
variable{prog:É}{w:World}{A:Around}{E:Value->Shared->Prop}{s:Shared}{K:Á}{x C CB:Addr}{nm:Str}{od:Option Addr}
def ExcAt(x C:Addr)(od:Option Addr)(h:Heap):Prop:=(∃vs sl,h.get? x=ρ {.ref C,od,.fields vs,sl})/\∀d,od=ρ d->∃o,h.get? d=ρ o
theorem ExcAt.inst(e:ExcAt x C od h):∃ox o,InstAt h x ox C o:=by
 let{{c,sl,a},hd}:=e
 cases od with
 |none=>exact{_,τ,a,rfl,rfl,trivial}
 |some d=>
  let{o,b}:=hd d rfl
  exact{_,ρ o,a,rfl,rfl,b}
structure yR(K:Á)(C:Addr):Prop where
 ha:findIn K (.ref C) "__class__"=ρ (ρ (.builtin "object.__class__"))
 hn:wh2 K (.builtin "object.__class__") "__get__"=ρ (ρ (.builtin "getset_descriptor.__get__"))
 jN:takesIn K (.builtin "object.__class__")=ρ true
theorem D6{Q:Option Value->Shared->Prop}(U:bA K C CB nm)(Y:yR K C)(X:K.In s.heap)(I:ExcAt x C od s.heap)(h:Q (ρ (.ref C)) {s with toks:=s.toks+1}):wpAny (model prog w) A (getAttr? (.ref x) "__class__") Q E s:=by
 let{ox,o,I}:=I.inst
 let{q,N,bs,k,sub,ab,c,l,m,n,p,r,t,lk}:=U.lk
 have hc:∃b,clsIn K C=ρ b:={_,by unfold clsIn;rw[lk]};have d:mroIn K C (.type "object")=ρ true:=by unfold mroIn clsIn;rw[lk];rfl
 have a:mroIn K C (.type "BaseException")=ρ true:=by unfold mroIn clsIn;rw[lk];rfl
 have G:=weZ.ga
 have f:findObj K C o "__class__"=ρ (.bind (.builtin "getset_descriptor.__get__") (.builtin "object.__class__")):=by
  let{b,hc}:=hc
  unfold findObj;rw[hc,Y.ha];simp only[we4];rw[Y.hn];simp only[we4];rw[Y.jN];rfl
 unfold getAttr? getAttrBy? getAttrBy;refine Â (wpAny_mkText (Â (wgz (ö (Â (I.type _ _ _ _ (λ_ _ e=>e) (Â (δ X U.ga _ _ _ _ (λ_ _ e=>e) ?_))))))));dsimp only;rw[show (ε (Æ C)&&œ "BaseException.__getattribute__" == œ "object.__getattribute__")=false from by rw[show (œ "BaseException.__getattribute__" == œ "object.__getattribute__")=false from by decide+kernel,ŝ],if_neg ⋯];have g:Looks (model prog w) s.heap (hookBefore (.ref C)) τ:=looks_hook X (by show (if ε (Æ C) then findIn K (.ref C) "__getattr__" else ρ τ)=ρ τ;rw[if_pos (show ε (Æ C)=true from rfl)];exact U.gh);refine Â (g _ _ _ _ (λ_ _ e=>e) (Â (wgz (ö ?_))));unfold callGetattribute;rw[show (false&&ε (œ "BaseException.__getattribute__"))=false from rfl,if_neg ⋯];unfold boundAndCalled;rw[G.bind];refine Â (Í ?_);show wpAny _ _ (call (.builtin "BaseException.__getattribute__") [.ref x,.str "__class__" s.toks]) _ _ _;refine đ ?_;have sub:Looks (model prog w) s.heap (Β (.ref x) (.type "BaseException")) true:=I.type.andThen (wg5 X a);refine Ů G.plain wgg ?_;refine @wgG (model prog w) _ _ {s with toks:=s.toks+1} "BaseException.__getattribute__" "BaseException" "__getattribute__" (.ref x) [.str "__class__" s.toks] [] _ ∅ ∅ sub (wgu (.ref x) (.str "__class__" s.toks)) ?_;have i:=I.type (M:=model prog w);have j:=looks_find (M:=model prog w) X I f;unfold Ĩ.«object.__getattribute__»;refine Â (Í ?_);refine Â (Í (Â (i _ _ _ _ (λ_ _ e=>e) (Â (j _ _ _ _ (λ_ _ e=>e) ?_)))));show wpAny _ _ (holding [.builtin "object.__class__"] (call (.builtin "getset_descriptor.__get__") [.builtin "object.__class__",.ref x,.ref C]) >>= ret) _ _ _;refine Â (ö (đ (class_get (s:={s with toks:=s.toks+1}) (ox:=ox) (od:=o) X I d ?_)));refine Í ?_;exact handed_on rfl (Í h)
theorem yS:kitOne K (.ref C) (.ref C)=ρ true:=by
 unfold kitOne;rw[if_pos (by simp)]
end
theorem bA.ne{K:Á}{C D CB j:Addr}{nm g:Str}(U:bA K C CB nm)(l:bA K D j g)(h:¬nm=g):C≠D:=λe=>by
 subst e
 let{q,N,bs,s,sub,ab,d,t,u,v,w,x,y,f}:=U.lk
 let{z,A,i,k,b,m,c,n,B,p,E,G,H,a}:=l.lk
 rw[f]at a;have:=congrArg (λo=>match o with |some (⟨_,_,.cls r,_⟩:Obj)=>r.name |_=>nm) a;exact h this
theorem bA.neT{K:Á}{C CB g:Addr}{nm j:Str}(U:bA K C CB nm)(T:AH K g j)(h:¬nm=j):C≠g:=λe=>by
 subst e
 let{q,N,bs,s,sub,ab,d,t,u,v,w,x,y,f}:=U.lk
 let{z,A,i,k,l,b,m,c,n,B,p,D,E,G,a}:=T.lk
 rw[f]at a;have:=congrArg (λo=>match o with |some (⟨_,_,.cls r,_⟩:Obj)=>r.name |_=>nm) a;exact h this
def O4(K:Á)(ta:TE)(f:Str):TE:=λσ H Q=>ta σ H λy H1=>∃e C CB d nm fs v,y=.ref e/\H1 e=ρ (XC e C (ρ d))/\H1 d=ρ (.xd fs)/\bA K C CB nm/\findIn K (.ref C) f=ρ τ/\fs.lookup f=ρ v/\Q v H1
section
variable{K:Á}{x C CB:Addr}{nm:Str}{od:Option Addr}
theorem yT(U:bA K C CB nm)(Y:yR K C):KitX K (.ref x) (.ref C) (ExcAt x C od) where
 ty:=λM h X I=>by
  let{r,o,I}:=I.inst
  exact I.type
 it:=λM h X I=>by
  let{q,N,bs,c,sub,ab,a,d,f,g,i,j,l,lk}:=U.lk
  intro s t u v k q;unfold isType loadHead;exact Â (weG (k _ _ (X _ _ lk)) (Í q))
 ne:=λh tp m p n sl X b=>by
  let{q,N,bs,c,sub,ab,a,d,f,g,i,j,l,lk}:=U.lk
  refine wfa.mpr λq=>?_;have e:C=tp:=Value.ref.inj (beq_iff_eq.mp q);subst e;have z:=congrArg (λo=>o.map (·.cls)) ((X _ _ lk).symm.trans b);simp at z
 ca:=λX I k=>D6 U Y X I k
theorem D7(U:bA K C CB nm):kitOne K (.ref C) (.type "ValueError")=ρ true:=by
 unfold kitOne;rw[if_neg (by simp)]
 let{q,N,bs,b,sub,ab,a,c,d,e,f,g,h,lk}:=U.lk
 unfold kitCls;dsimp only;rw[if_pos ∅];unfold subIn mroIn clsIn;dsimp only;rw[lk];rfl
end
section
variable{X:Cx}
set_option genInjectivity true in
inductive D8(K:Á)(H:Hp):V->V->Bool->Prop where
 |exc {e C CB:Addr} {od:Option Addr} {nm:Str} {D:Addr} {b:Bool} (h:H e=ρ (XC e C od)) (hd:∀d,od=ρ d->∃fs,H d=ρ (.xd fs)) (U:bA K C CB nm) (Y:yR K C) (k:kitOne K (.ref C) (.ref D)=ρ b):D8 K H (.ref e) (.ref D) b
 |val {e C CB:Addr} {od:Option Addr} {nm:Str} {T:String} {b:Bool} (h:H e=ρ (XC e C od)) (hd:∀d,od=ρ d->∃fs,H d=ρ (.xd fs)) (U:bA K C CB nm) (Y:yR K C) (k:kitOne K (.ref C) (.type T)=ρ b):D8 K H (.ref e) (.ty T) b
 |oth {x:V} {t:Value} {D:Addr} {b:Bool} (h:gY K H x t) (k:kitOne K t (.ref D)=ρ b):D8 K H x (.ref D) b
 |otb {x:V} {t:Value} {T:String} {b:Bool} (h:gY K H x t) (k:kitOne K t (.type T)=ρ b):D8 K H x (.ty T) b
theorem bU:d1 X (.builtin "isinstance") (λxs H Q=>∃x c b,xs=[x,c]/\D8 X.K H x c b/\Q (.bl b) H):=by
 intro j s σ H xs v Q I r h
 let{x,c,b,rfl,l,q}:=h
 let{u,w,rfl,f,g}:=vals2 r
 have at_:∀{e C:Addr} {i:Option Addr},H e=ρ (XC e C i)->(∀d,i=ρ d->∃fs,H d=ρ (.xd fs))->ExcAt e C i s.heap:=λ{e C i} h hd=>by
  let{{m,sl,n},_}:=I.aT e _ h
  refine{⟨m,sl,n⟩,λd e=>?_}
  let{fs,p}:=hd d e
  let{y,{o,_,_,t,_},_}:=I.aT d _ p
  exact⟨o,t⟩
 cases l with
 |exc h hd U Y k=>
  cases f;cases g;exact kia_one (yT U Y) I.fP (at_ h hd) k (λz=>nomatch z) λa=>{.bl b,H,I.tok a,rfl,q}
 |val h hd U Y k=>
  cases f;cases g;exact kia_one (yT U Y) I.fP (at_ h hd) k (λz=>nomatch z) λa=>{.bl b,H,I.tok a,rfl,q}
 |oth h k=>
  cases g;exact oP I f h k λa=>{.bl b,H,I.tok a,rfl,q}
 |otb h k=>
  cases g;exact oP I f h k λa=>{.bl b,H,I.tok a,rfl,q}
theorem xh(he:PE X e j)(l:ĵ e f X.env (eval e X.5)=eval e X.5):PE X (.Attribute e f pos) (O4 X.K j f):=by
 refine{?_};intro a s σ H Q I h;refine Bl l (bG (he a s σ H _ I h) λu E ⟨y,i,b,k,e,C,CB,d,m,fs,v,n,p,t,U,ha,hl,q⟩=>?_);subst n;obtain rfl:u=Æ e:=k
 let{{w,sl,x},_}:=b.aT e _ p
 let{z,ns,r}:=b.aT d _ t
 let{o,hd,look}:=uY ns
 let{A,N,bs,B,sub,ab,c,G,J,L,M,O,R,lk}:=U.lk
 let{S,D,g}:=gV.qK (v:=v) (o:=z f) (by rw[<-hl];exact r f)
 refine G4 (CB:=CB) (ox:={.ref C,ρ d,.fields w,sl}) (od:=o) b.fP ⟨x,rfl,rfl,hd⟩ (cd:={name:=m,bases:=bs,mro:=.ref C::p5 CB,ns:=N,qualname:=A,hasDict:=true,slotNames:=B,subclasses:=sub,abstract:=ab,collection:=c,hasDel:=false}) (by unfold clsIn;rw[lk]) rfl rfl U.ga U.gh ha (by rw[look,D]) (uO g) ?_;exact{v,i,b.tok _,g,q}
end
section
variable{K:Á}{C CB D:Addr}{nm BC J6:Str}
theorem bA.cls(V:bA K D CB BC):(clsIn K D).isSome=true/\typeIn K (.ref D)=ρ (.type "type"):=by
 let{h,i,d,e,b,f,c,g,j,k,l,m,n,a}:=V.lk
 refine{by unfold clsIn;rw[a];rfl,?_};show Option.map (λx=>x.cls) (K.lookup D)=ρ (.type "type");rw[a];rfl
theorem nB(U:bA K C CB nm)(V:bA K D CB BC)(T:AH K CB J6)(g:¬BC=J6)(e:¬nm=BC):kitOne K (.ref C) (.ref D)=ρ false:=by
 unfold kitOne;have ne:=U.ne V e;rw[if_neg (by grind)]
 let{q,N,bs,h,sub,ab,a,i,j,k,l,m,n,lk}:=U.lk
 let{b,c}:=V.cls
 unfold kitCls;dsimp only;rw[b,c,if_pos (by rfl)];unfold subIn mroIn clsIn;dsimp only;rw[lk];show ρ ((Æ C::p5 CB).contains (.ref D))=ρ false;have d:(Æ D==Æ C)=false:=by grind
 have f:(Æ D==Æ CB)=false:=by simpa using V.neT T g
 simp only[wh0,d,f,weT];rfl
end
end L2
namespace L2
open PySem.Spec PyProof.Rows
section
variable{X:Cx}{tg:Expr}
theorem yU(C:X.A.units<ð):jE X (ò .Eq) (Kh X.K):=by
 intro l s σ H x y v u Q I w z h
 let{a,b,f,g,rfl,rfl,ha,B,hl,D,E,q}:=h
 cases w;cases z
 let{d,m,G,_}:=I.tuple ha
 let{c,n,J,_}:=I.tuple B
 have T:=m.9;have U:=n.9;refine SeqAt.eq_tupleAt (e:=λj=>oz (f.getD j .non) (g.getD j .non)) G J C (λj L M=>?_) ?_
 .have i:j<d.9:=by simpa using L
  have k:j<c.9:=by simpa using M
  have o:f[j]?=ρ (f.getD j .non):=by rw[Õ];simp[show j<f.length by lia]
  have p:g[j]?=ρ (g.getD j .non):=by rw[Õ];simp[show j<g.length by lia]
  let{N,r,O}:=m.get o
  let{R,t,S}:=n.get p
  have g1:d.toArray[j]=N:=by
   have:d[j]?=ρ d[j]:=by simp[i]
   rw[this]at r;simpa using Î r
  have g2:c.toArray[j]=R:=by
   have:c[j]?=ρ c[j]:=by simp[k]
   rw[this]at t;simpa using Î t
  rw[g1,g2];exact wA O S (ø.mp D _ (á o)) (ø.mp E _ (á p))
 .rw[m9 hl]at q;refine{.bl _,H,I,rfl,?_};rw[show min d.toArray.size c.toArray.size=f.length by simp only[â];lia,show (d.toArray.size==c.toArray.size)=true by simp only[â,beq_iff_eq];lia,Bool.and_true];exact q
theorem D9{P:É}{w:World}{K:Á}{T:Expr}(d it:Addr)(o:Obj)(kvs:List (Key×V))(U:Array DictEntry)(ep:Nat)(J:o.data=.dict U ep):Turn P w K T (Hr d o kvs) [it] it (λi h=>h.IsKeyIter it d i kvs.length ep) where
 mem:=by simp
 obj:=λi h st b j=>by
  have e:b=it:=by grind
  subst e
  let{o,e,c,D}:=st
  exact{o,e,λv z=>by grind}
 keep:=λi h m st k=>st.at λo e=>k it (by simp) o e
 item:=by
  intro X p hw q hc i a s σ H E I n st r;subst p hw q
  let{u,hi}:=r
  let{L,rel,f}:=oJ I u J
  have G:kvs[i]?=ρ kvs[i]:=by simp[hi]
  let{{k,v},M,N,_}:=zC rel G
  let{x,f1,f2,A,B,C}:=n it (by simp)
  rw[rel.9]at st;refine wpAny_pyNext_dict_item st f M λkey m l g sb=>?_;have O:Inv X a σ H {s with heap:=m}:=I.turned (t':=s.toks) (λb o j e=>(sb.2 b j).trans e) x f1 A B C
  let{S,e,c,D}:=id g
  rw[<-rel.9]at g;refine{key,rfl,xI (s:={s with heap:=m}) e c D ⋯ {kV kvs[i].1,H,O,?_,{rfl,_,G,rfl},g,λb j=>(n b j).1}};have Q:kvs[i].1=k:=N;rw[Q];rcases bD l with⟨i,t,rfl,rfl⟩ |⟨y,t,rfl,rfl⟩
  .exact⟨t,rfl⟩
  .exact⟨t,rfl⟩
 done:=by
   intro X p hw q hc i a s σ H E I n st r;subst p hw q
   let{u,hi}:=r
   let{L,rel,f}:=oJ I u J
   let{x,f1,f2,A,B,C}:=n it (by simp)
   rw[rel.9]at st hi;exact wpAny_pyNext_dict_end (I.ok.hd hc) st f (by simp;omega) λm R=>{rfl,I.turned (t':=s.toks) (λb o j e=>R b o j e) x f1 A B C}
 self:=λ_ _ _ _ _ st h=>wpAny_pyIter_keyiter st h
theorem j4{l:Expr}{p:TE}(hl:PE X l p):PI X tg l (MQ p):=by
 refine{?_};intro a s σ H R I h;refine bG (hl a s σ H _ I h) λv g ⟨x,D,m,t,j⟩=>?_
 let{d,f,e,q}:=j
 subst e;cases t
 have key:∀{i:Hp} {o:Obj},Inv X a σ i g->i d=ρ (.frz o (.dK f))->R (Hr d o f) i->wpAny (model X.prog X.w) X.A (pyIter (.ref d)) (N1 X a σ tg R) X.xe g:=λ{i o} c hd u=>by
  let{E,lo,y,n,G,z,B,j,J,r,L}:=hH c.aT (.inr ⟨o,hd⟩)
  let{C,_}:=c.aT d _ hd
  rw[C]at j;cases j
  let{M,rel,k}:=oJ c hd r
  refine wpAny_pyIter_dict lo k ?_;refine{g.8,[g.8],_,_,i,rfl,c.kept (t':=g.toks) λb o e=>Ð _ e,D9 d _ o f z B r,{_,ã _ rfl,rfl,by rw[rel.9];rfl},λb N=>?_,u};have e:b=g.8:=by grind
  subst e;exact c.xR (Å _) (c.aT.fresh (Å _))
 rcases q with⟨hd,q⟩ |⟨o,hd,q⟩
 .let{o,O,c}:=m.freeze hd
  exact key c a5 (q o)
 .exact key m hd q
theorem mD{K:Á}{J:It}{Ok:Hp->Prop}{j:List Addr}{prs:List (V×V)}{l:Addr}{C:St}{tt:TT}{te:TE}{H:Hp}{Q:Hp->Prop}(p:V×V->Bool)(g:V×V->V)(U:jB J Ok (j.map V.ref))(hT:bX H j (prs.map jG))(hl:H l=τ)(hz:j.9<=sizeLine)(I:∀r,a8 H r->Ok r)
 (ht:∀q t T,q∈prs->a8 H t->(∀r,a8 t r->T (p q) r)->tt (ρ q.1::ρ q.2::C) t T)
 (he:∀q t T,q∈prs->p q=true->a8 H t->(∀r,a8 t r->T (g q) r)->te (ρ q.1::ρ q.2::C) t T)
 (hd:∀r,a8 H r->r l=ρ (.lst ((prs.filter p).map g))->Q r):gD K J l C tt te H Q:=by
 have f:j.9=prs.9:=by rw[hT.1,À]
 refine{λi m s d=>m=j.9-i/\i<=j.9/\a8 H d/\d l=ρ (.lst s)/\s=((prs.take i).filter p).map g,{j.9,by simp,à _,a8.upd hl,a5,by simp},?_};rintro i m s d ⟨rfl,hi,c,k,n⟩;refine{k,?_}
 by_cases a:i<j.9
 .refine .inr {U.go i d (I _ c) (by rw[À];exact a),?_,λx t y=>?_}
  .rw[n,À];refine Ě (ľ _ _) ?_;rw[Û];omega
  .let{e,v}:=U.ug i d x t (I _ c) (by rw[À];exact a) y
   subst e;have w:prs[i]?=ρ prs[i]:=Ä 1.0;have z:j[i]?=ρ j[i]:=Ä a;rw[È,z]at v;obtain rfl:V.ref j[i]=x:=Î v;have mem:prs[i]∈prs:=û _;have A:prs.take (i+1)=prs.take i++[prs[i]]:=by rw[Ć,w];rfl
   refine{j[i],prs[i].1,prs[i].2,rfl,eY.of (c _ _ (hT.2 i j[i] _ z (by rw[È,w];rfl))),ht prs[i] _ _ mem c λD h=>?_}
   cases u:p prs[i] with
   |false=>
    rw[if_neg ß];refine{j.9-(i+1),1.0,rfl,a,c.trans h,h _ _ k,?_};rw[A,Ň,n];simp[u]
   |true=>
    rw[if_pos rfl];refine he prs[i] _ _ mem u (c.trans h) λE B=>{B _ _ (h _ _ k),j.9-(i+1),1.0,rfl,a,λb o e=>?_,a5,?_}
    .rw[aa (a9 e hl)];exact B _ _ (h _ _ (c _ _ e))
    .rw[A,Ň,n];simp[u]
 .have e:i=j.9:=1.0;subst e;refine .inl {?_,hd d c ?_}
  .have:=U.stop d (I _ c);rwa[À]at this
  .rw[k,n,f,ä]
theorem Dc{K:Á}{J:It}{Ok:Hp->Prop}{j:List Addr}{prs:List (V×V)}{l:Addr}{I:St}{tt:TT}{te:TE}{H:Hp}{Q:Hp->Prop}(p:V×V->Bool)(g:V×V->List V)(hJ:jB J Ok (j.map V.ref))(hT:bX H j (prs.map jG))(hl:H l=τ)(hz:j.9<=sizeLine)(T:∀t,a8 H t->Ok t)
 (ht:∀q C U,q∈prs->a8 H C->(∀t,a8 C t->U (p q) t)->tt (ρ q.1::ρ q.2::I) C U)
 (he:∀q C U,q∈prs->p q=true->a8 H C->(∀r t,a8 C t->t r=ρ (.tup (g q))->U (.ref r) t)->te (ρ q.1::ρ q.2::I) C U)
 (hd:∀ys t,a8 H t->t l=ρ (.lst (ys.map V.ref))->bX t ys ((prs.filter p).map g)->Q t):gD K J l I tt te H Q:=by
 have h:j.9=prs.9:=by rw[hT.1,À]
 refine{λi m B d=>m=j.9-i/\i<=j.9/\a8 H d/\∃ys:List Addr,B=ys.map V.ref/\d l=ρ (.lst (ys.map V.ref))/\bX d ys (((prs.take i).filter p).map g),{j.9,by simp,à _,a8.upd hl,[],rfl,a5,by simpa using bX.nil _},?_};rintro i m B d ⟨rfl,hi,c,ys,rfl,k,n⟩;refine{k,?_}
 by_cases a:i<j.9
 .refine .inr {hJ.go i d (T _ c) (by rw[À];exact a),?_,λx C y=>?_}
  .rw[À,n.1,À];refine Ě (ľ _ _) ?_;rw[Û];omega
  .let{e,D}:=hJ.ug i d x C (T _ c) (by rw[À];exact a) y
   subst e;have E:prs[i]?=ρ prs[i]:=Ä 1.0;have G:j[i]?=ρ j[i]:=Ä a;rw[È,G]at D;obtain rfl:V.ref j[i]=x:=Î D;have mem:prs[i]∈prs:=û _;have L:prs.take (i+1)=prs.take i++[prs[i]]:=by rw[Ć,E];rfl
   refine{j[i],prs[i].1,prs[i].2,rfl,eY.of (c _ _ (hT.2 i j[i] _ G (by rw[È,E];rfl))),ht prs[i] _ _ mem c λN f=>?_}
   cases u:p prs[i] with
   |false=>
    rw[if_neg ß];refine{j.9-(i+1),1.0,rfl,a,c.trans f,ys,rfl,f _ _ k,?_}
    have e:((prs.take (i+1)).filter p).map g=((prs.take i).filter p).map g:=by
     rw[L,Ň];simp[u]
    rw[e];exact n.same f
   |true=>
    rw[if_pos rfl];refine he prs[i] _ _ mem u (c.trans f) λr O s v=>{s _ _ (f _ _ k),j.9-(i+1),1.0,rfl,a,λb o e=>?_,ys++[r],by rw[Ò];rfl,by rw[a5,Ò];rfl,?_}
    .rw[aa (a9 e hl)];exact s _ _ (f _ _ (c _ _ e))
    .have e:((prs.take (i+1)).filter p).map g=((prs.take i).filter p).map g++[g prs[i]]:=by
      rw[L,Ň];simp[u]
     rw[e];have w:=s _ _ (f _ _ k);refine bX.keep ((n.same (f.trans s)).snoc v) λR M A=>?_;rw[aa (λz=>by rw[z,w]at A;cases A)];exact A
 .have e:i=j.9:=1.0;subst e;refine .inl {?_,hd ys d c k ?_}
  .have:=hJ.stop d (T _ c);rwa[À]at this
  .rw[h,ä]at n;exact n
theorem yV{Ok:Hp->Prop}{Q:Hp->Prop}(R:Nat->V->Hp->Prop)(C:∀i y I g ys,R i y I->I l=ρ (.lst ys)->(∀b o,I b=ρ o->b≠l->g b=ρ o)->R i y g)(T:jB J Ok xs)(hl:H l=τ)(hz:xs.9<=sizeLine)(r:∀p,a8 H p->Ok p)
 (he:∀i x t ys Q',xs[i]?=ρ x->a8 H t->t l=ρ (.lst ys)->(∀y p,a8 t p->R i y p->Q' y p)->te (ρ x::U) t Q')
 (hd:∀ys p,a8 H p->p l=ρ (.lst ys)->ys.9=xs.9->(∀i y,ys[i]?=ρ y->R i y p)->Q p):lz J l U qw te H Q:=by
 refine{λi m a g=>m=xs.9-i/\i<=xs.9/\a8 H g/\g l=ρ (.lst a)/\a.9=i/\∀j y,a[j]?=ρ y->R j y g,{xs.9,by simp,à _,a8.upd hl,a5,rfl,λj y h=>by simp at h},?_};rintro i m a g ⟨rfl,hi,f,k,c,B⟩;refine{k,?_}
 by_cases d:i<xs.9
 .refine .inr {T.go i g (r _ f) d,by rw[c];lia,λx t y=>?_}
  let{e,D}:=T.ug i g x t (r _ f) d y
  subst e;unfold qw;dsimp only;rw[if_pos rfl];refine he i x _ a _ D f k λy s u v=>{u _ _ k,xs.9-(i+1),(),rfl,d,λb o e=>?_,a5,by rw[Ì,c];rfl,λj z n=>?_}
  .rw[aa (a9 e hl)];exact u _ _ (f _ _ e)
  .have q:=u _ _ k;have kp:∀b o,s b=ρ o->b≠l->(upd s l (.lst (a++[y]))) b=ρ o:=λb o e E=>by rw[aa E];exact e
   by_cases w:j<a.9
   .rw[Ĉ w]at n;exact C j z s _ _ (C j z _ _ _ (B j z n) k λb o e _=>u _ _ e) q kp
   .rw[ĉ ()]at n
    have A:j-a.9=0:=by
     have:=(Ö.mp n).1;simp at this
     lia
    rw[A]at n;cases n;have:j=i:=();rw[this];exact C i y s _ _ v q kp
 .have e:i=xs.9:=();subst e;exact .inl {T.stop g (r _ f),hd a g f k c B}
theorem tj{K:Á}{J:It}{Ok:Hp->Prop}{xs:List V}{l:Addr}{t:St}{U:TE}{H:Hp}{Q:Hp->Prop}(p:List iQ)(hJ:jB J Ok xs)(hl:H l=τ)(hz:xs.9<=sizeLine)(C:p.9=xs.9)(I:∀g,a8 H g->Ok g)
 (he:∀(i:Nat) (x:V) (d:iQ) j T,xs[i]?=ρ x->p[i]?=ρ d->a8 H j->(∀y g,a8 j g->bu K (aE j g) d y->T y g)->U (ρ x::t) j T)
 (hd:∀g,a8 H g->bu K (aE H g) (.lst p) (.ref l)->Q g):lz J l t qw U H Q:=by
 refine yV (λi y g=>∀d,p[i]?=ρ d->∃j o,a8 H j/\j l=ρ o/\bu K (aE j g) d y) ?_ hJ hl hz I (λi x j f T k b c m=>?_) (λf g h n e q=>?_)
 .intro i y v w f r s kp d a
  let{j,o,b,c,r}:=r d a
  exact{j,o,b,c,bu.same (bp c kp) d y r}
 .have hi:i<p.9:=by rw[C];exact(Ö.mp k).1
  refine he i x p[i] j _ k (Ä hi) b λy g h r=>m y g h λd a=>?_;rw[Ä hi]at a;cases a;exact{j,_,b,c,r}
 .refine hd g h {l,f,rfl,.inl (bJ hl n),b7.oH p f (by rw[C,e]) λi d y a u=>?_}
  let{j,o,b,c,r}:=q i y u d a
  exact bu.same (dA b) d y r
theorem AI{K:Á}{J:It}{Ok:Hp->Prop}{xs:List V}{prs:List (V×V)}{l:Addr}{I:St}{tt:TT}{te:TE}{H:Hp}{Q:Hp->Prop}(p:V×V->Bool)(D:V×V->iQ)(hJ:jB J Ok xs)(C:xs.9=prs.9)
 (hT:∀(i:Nat) (q:V×V),prs[i]?=ρ q->∃r,xs[i]?=ρ (.ref r)/\eY K H r [q.1,q.2]) (hl:H l=τ) (hz:xs.9<=sizeLine) (T:∀t,a8 H t->Ok t)
 (ht:∀q g U,q∈prs->a8 H g->(∀t,a8 g t->U (p q) t)->tt (ρ q.1::ρ q.2::I) g U)
 (he:∀q g U,q∈prs->p q=true->a8 H g->(∀y t,a8 g t->bu K (aE g t) (D q) y->U y t)->te (ρ q.1::ρ q.2::I) g U)
 (hd:∀t ys,a8 H t->t l=ρ (.lst ys)->bu K (aE H t) (.lst ((prs.filter p).map D)) (.ref l)->Q t):gD K J l I tt te H Q:=by
 refine{λi m ys n=>m=xs.9-i/\i<=xs.9/\a8 H n/\n l=ρ (.lst ys)/\ys.9=((prs.take i).filter p).9/\∀(j:Nat) (d:iQ) (y:V),(((prs.take i).filter p).map D)[j]?=ρ d->ys[j]?=ρ y->∃g o,a8 H g/\g l=ρ o/\bu K (aE g n) d y,
  {xs.9,by simp,à _,a8.upd hl,a5,by simp,λj d y h=>by simp at h},?_}
 rintro i m ys n ⟨rfl,hi,f,w,c,Y⟩;refine{w,?_}
 by_cases k:i<xs.9
 .have Zm:((prs.take i).filter p).9<=i:=Ï (ľ _ _) (by rw[Û];omega);refine .inr {hJ.go i n (T _ f) k,1.0,λx g y=>?_}
  let{e,hx}:=hJ.ug i n x g (T _ f) k y
  subst e;have Z:prs[i]?=ρ prs[i]:=Ä 1.0
  let{r,A,hr}:=hT i _ Z
  rw[hx]at A;cases A;have mem:prs[i]∈prs:=û _;have tk:prs.take (i+1)=prs.take i++[prs[i]]:=by rw[Ć,Z];rfl
  refine{r,prs[i].1,prs[i].2,rfl,f.Ho hr,ht prs[i] _ _ mem f λH4 u=>?_}
  have B:∀(j:Nat) (d:iQ) (y:V),(((prs.take i).filter p).map D)[j]?=ρ d->ys[j]?=ρ y->∃g o,a8 H g/\g l=ρ o/\bu K (aE g H4) d y:=λj d y h1 h3=>by
   let{N,o,E,h5,O}:=Y j d y h1 h3
   exact{N,o,E,h5,bu.same (gu u) d y O}
  cases R:p prs[i] with
  |false=>
   rw[if_neg ß];have G:(prs.take (i+1)).filter p=(prs.take i).filter p:=by rw[tk,Ň];simp[R]
   exact{xs.9-(i+1),1.0,rfl,k,f.trans u,u _ _ w,by rw[G];exact c,by rw[G];exact B}
  |true=>
   rw[if_pos rfl];have G:(prs.take (i+1)).filter p=(prs.take i).filter p++[prs[i]]:=by rw[tk,Ň];simp[R]
   have v:=u _ _ w;refine he prs[i] _ _ mem R (f.trans u) λy N E O=>{E _ _ v,xs.9-(i+1),1.0,rfl,k,λb o e=>?_,a5,by rw[G,Ì,Ì,c];rfl,λj d z s a=>?_}
   .rw[aa (a9 e hl)];exact E _ _ (u _ _ (f _ _ e))
   .have kp:∀b o,N b=ρ o->b≠l->(upd N l (.lst (ys++[y]))) b=ρ o:=λb o e hb=>by rw[aa hb];exact e
    rw[G,Ò]at s;have S:(((prs.take i).filter p).map D).length=ys.9:=by rw[À,c]
    by_cases X:j<ys.9
    .rw[Ĉ 1.0]at s;rw[Ĉ X]at a
     let{H6,o,s6,h6,r6}:=B j d z s a
     exact{H6,o,s6,h6,bu.same ((gu E).trans (bp h6 kp)) d z r6}
    .rw[ĉ 1.0]at s a
     have L:j-ys.9=0:=by
      have:=(Ö.mp a).1;simp at this;omega
     rw[S,L]at s;rw[L]at a;cases s;cases a;exact{H4,_,f.trans u,v,bu.same (bp v kp) _ _ O}
 .have e:i=xs.9:=1.0;subst e;refine .inl {hJ.stop n (T _ f),hd n ys f w {l,ys,rfl,.inl (bJ hl w),b7.oH _ ys ?_ λj d y s hy=>?_}}
  .rw[C,ä]at c;rw[À,c]
  .have M:=Y j d y;rw[C,ä]at M
   let{g,o,s3,h3,r3}:=M s hy
   exact bu.same (dA s3) d y r3
theorem kY{K:Á}{J:It}{Ok:Hp->Prop}{xs:List V}{prs:List (V×V)}{l:Addr}{o:St}{T:TT}{U:TE}{H:Hp}{Q:Hp->Prop}(p:V×V->Bool)(D:V×V->iQ)(hJ:jB J Ok xs)(t:xs.9=prs.9)
 (hT:∀(i:Nat) (q:V×V),prs[i]?=ρ q->∃r,xs[i]?=ρ (.ref r)/\eY K H r [q.1,q.2]) (hl:H l=τ) (hz:xs.9<=sizeLine) (I:∀g,a8 H g->Ok g)
 (ht:∀q j C,q∈prs->a8 H j->(∀g,a8 j g->C (p q) g)->T (ρ q.1::ρ q.2::o) j C)
 (he:∀q j C,q∈prs->p q=true->a8 H j->(∀y g,a8 j g->bu K (aE j g) (D q) y->C y g)->U (ρ q.1::ρ q.2::o) j C)
 (hd:∀g,a8 H g->bu K (aE H g) (.lst ((prs.filter p).map D)) (.ref l)->Q g):gD K J l o T U H Q:=
 AI p D hJ t hT hl hz I ht he λg _ a _ r=>hd g a r
theorem vU{K:Á}{a l:Addr}{xs:List V}{r:St}{I:TT}{J:TE}{H:Hp}{Q:Hp->Prop}(p:Nat->Bool)(C:aG K H a xs)(hl:H l=τ)(hz:xs.9<=sizeLine)
 (U:∀(i:Nat) (x:V) j t,xs[i]?=ρ x->a8 H j->(∀g,a8 j g->t (p i) g)->I (ρ (.int (i:Nat))::ρ x::r) j t)
 (he:∀(i:Nat) (x:V) j t,xs[i]?=ρ x->a8 H j->(∀g,a8 j g->t x g)->J (ρ (.int (i:Nat))::ρ x::r) j t)
 (hd:∀g,a8 H g->g l=ρ (.lst (b6 p 0 xs))->Q g):gD K (M5 K a) l r I J H Q:=by
 refine{λi m u f=>m=xs.9-i/\i<=xs.9/\a8 H f/\f l=ρ (.lst u)/\u=b6 p 0 (xs.take i),{xs.9,by simp,à _,a8.upd hl,a5,rfl},?_};rintro i m u f ⟨rfl,hi,c,v,k⟩;refine{v,?_}
 by_cases d:i<xs.9
 .refine .inr {{xs,xs[i],c.seq C,Ä d},?_,λx j y=>?_}
  .rw[k];refine Ě (kJ p 0 _) ?_;rw[Û]
   lia
  .let{T,h,E,G,L,y}:=y
   subst G L;have w:xs[i]?=ρ h:=y xs (c.seq C);have n:a8 f (upd f T (.tup [.int (i:Nat),h])):=a8.upd E;have z:xs.take (i+1)=xs.take i++[h]:=by rw[Ć,w];rfl
   have q:(xs.take i).9=i:=by rw[Û];lia
   refine{T,.int (i:Nat),h,rfl,eY.of a5,U i h _ _ w (c.trans n) λM s=>?_};have A:=s _ _ (n _ _ v)
   cases B:p i with
   |false=>
    rw[if_neg ß];exact{xs.9-(i+1),(),rfl,d,(c.trans n).trans s,A,by rw[z,me,q,wgY,B,if_neg ß,ý];exact k}
   |true=>
    rw[if_pos rfl];refine he i h _ _ w ((c.trans n).trans s) λN D=>{D _ _ A,xs.9-(i+1),(),rfl,d,λb o e=>?_,a5,?_}
    .rw[aa (a9 e hl)];exact D _ _ (s _ _ (n _ _ (c _ _ e)))
    .rw[z,me,q,wgY,B,if_pos rfl,k]
 .have e:i=xs.9:=();subst e;rw[ä]at k;exact .inl {{xs,c.seq C,Å _},hd f c (by rw[v,k])}
end
section
variable{X:Cx}{H:Hp}{scope:ú}{x x2 x3:Str}{ys:List Str}{ix:List Nat}{cl:List (Str×Addr)}{L:Addr}
theorem eO(hc:X.calm=true)(B:bH X scope x ys ix)(I:bH X scope x2 ys ix)(g:x≠x2)(hi:PI X (.Tuple [.Name x T,.Name x2 j] U pt) iter wi)
 (ht:∀cl L s H ex pn,GL (bc X scope (x::x2::ys) cl L s H ex pn) o r) (he:∀cl L s H ex pn,PE (bc X scope (x::x2::ys) cl L s H ex pn) p t)
 (hs:∀v,ň iter X.env v=pure v:=by intro _;rfl):PE X (.ListComp p [⟨.Tuple [.Name x T,.Name x2 j] U pt,iter,o,0⟩] scope pos) (Kz X.K wi ix r t):=
 si (C:=λJ l a H Q=>gD X.K J l a r t H Q) (xs:=[x,x2]) hc B (yC hc B I g) (λ_ _ _ _ _=>y2) hi ht he hs
theorem G5{X:Cx}{K:Á}{o e:Expr}{l:List Expr}{to:TE}{t:TA}{name:Str}{apos g:Pos}{T id:String}{r:V->List V->Hp->VK->Prop}(hK:X.K=K)(pa:wgn T)(slot:Slot T name id)(U:typeOf (.builtin id)=pure (.type "method_descriptor"))(hm:Hy X id r)(ho:PE X o to)(ha:PA X (e::l) t)
 (p:ĵ o name X.env (eval o X.5)=eval o X.5:=by rfl)
 (J:((backTo g (starEach (e::l) X.5)).all (λx=>!x.1)&&(backToKw g (Ń [] X.5)).all (λx=>x.1.isSome)
   && decide ((e::l).9+([]:List ŭ).9+(if ([]:List ŭ).isEmpty then 0 else 1)<30))=true:=by rfl)
 (I:(apos.endLine==g.line)=true:=by rfl) (hs:starEach (e::l) X.5=(false,eval e X.5)::starEach l X.5:=by rfl) (j:(backTo g (starEach l X.5)).any (·.1)=false:=by rfl) :
 PE X (.Call (.Attribute o name apos) (e::l) [] g) (Tj K T r to t):=by
 subst hK;exact gE pa slot U hm ho ha p J I hs j
theorem G6(hc:X.calm=true)(B:bH X scope x ys ix)(T:bH X scope x2 ys ix)(U:bH X scope x3 ys ix)(g:x≠x2/\x≠x3/\x2≠x3)(hi:PI X (.Tuple [.Name x px,.Name x2 j,.Name x3 o] kt pt) iter wi)
 (ht:∀cl L s H ex pn,GL (bc X scope (x::x2::x3::ys) cl L s H ex pn) p t) (he:∀cl L s H ex pn,PE (bc X scope (x::x2::x3::ys) cl L s H ex pn) r I)
 (hs:∀v,ň iter X.env v=pure v:=by intro _;rfl):PE X (.ListComp r [⟨.Tuple [.Name x px,.Name x2 j,.Name x3 o] kt pt,iter,p,0⟩] scope pos) (KA X.K wi ix t I):=
 si (C:=λJ l a H Q=>rX X.K J l a t I H Q) (xs:=[x,x2,x3]) hc B (FI hc B T U g) (λ_ _ _ _ _=>Et) hi ht he hs
end
theorem tm{X:Cx}(hl:PE X l g)(p:∀{σ H} {Q o:VK},(∀x j,Q x j->o x j)->g σ H Q->g σ H o:=by intro _ _ _ _ h q;let{v,e,q}:=q;exact{v,e,h _ _ q}):PI X r l (Ki g):=by
 refine{?_};intro c s σ H R I h;refine j4 hl c s σ H R I (p (λx j q=>?_) h)
 let{d,f,e,a,b}:=q
 exact{d,f,e,xO a b}
section
variable{X:Cx}{scope:ú}{x x2:Str}{ys:List Str}{ix:List Nat}
theorem pI(hc:X.calm=true)(B:bH X scope x ys ix)(hN:X.N.Nodup)(hy:X.N[i]?=ρ y)(r:X.env.scope.names.lookup y=ρ .local)(B2:bH X scope x2 ys ix)(t:x≠x2)(hi:PI X (.Tuple [.Name x T,.Name x2 g] U pt) iter wi)
 (ht:∀cl L s H ex pn,GL (bc X scope (x::x2::ys) cl L s H ex pn) j tt) (he:∀cl L s H ex pn,PE (bc X scope (x::x2::ys) cl L s H ex pn) o te)
 (I:č (.ListComp o [⟨.Tuple [.Name x T,.Name x2 g] U pt,iter,j,0⟩] scope pos) (ρ (.Name y py)) p.line X.5=pure true:=by rfl)
 (hs:∀v,ň iter X.env v=pure v:=by intro _;rfl):PS X (.Assign [.Name y py] (.ListComp o [⟨.Tuple [.Name x T,.Name x2 g] U pt,iter,j,0⟩] scope pos) p) (HI X.K wi ix tt te i):=
 pA (C:=λJ l a H Q=>gD X.K J l a tt te H Q) (xs:=[x,x2]) hc B hN hy r (yC hc B B2 t) (λ_ _ _ _ _=>y2) hi ht he I hs
end
end L2
namespace Bs
theorem bM.same(h:bM K C H x hs ws lns)(s:a8 H g):bM K C g x hs ws lns:=by
 let{d,a,b,c,e,f,i,j}:=h
 exact{d,a,b,c,s _ _ e,bu.same s _ _ f,bu.same s _ _ i,bu.same s _ _ j}
theorem oZ.same(h:oZ K C j H x m g l hs ws lns)(s:a8 H o):oZ K C j o x m g l hs ws lns:=by
 let{e,a,b,c,d,f,i,k,n,p}:=h
 exact{e,a,b,c,d,s _ _ f,s _ _ i,bu.same s _ _ k,bu.same s _ _ n,p.same s}
theorem bX.same(h:bX H j g)(s:a8 H l):bX l j g:={h.1,λi r c a b=>s _ _ (h.2 i r c a b)}
section
variable{g:Str}{ws ss ls:List Str}
theorem TopK.live{w:Str->Int}(T:TopK (aN g ws ss) ss many n most w)(fit:∀p∈ss,many*w p<=qW (aN g ws ss) w n p)(r:2<=many)(t:1<=n)(he:("":Str)∈ss)(L:qx ss (rowOf g ws ss) ls)(l:p∈ss)(h:0<w p):p∈ls:=by
 have d:∀p,∀q∈aN g ws ss p,q∈ss:=λp q h=>gK he h
 classical
 refine L.most (ss.filter λq=>decide (∃j,j<=n/\0<qW (aN g ws ss) w j q)) (λk hk=>?_) p (Ý.mpr {l,decide_eq_true ⟨0,à _,h⟩})
 let{b,e}:=Ý.mp hk
 refine{b,?_}
 obtain⟨j,f,a⟩:∃j,j<n/\0<qW (aN g ws ss) w (j+1) k:=by
  let{j,f,a}:=of_decide_eq_true e
  cases j with
  |zero=>
   have s:=fit k b;have i:0<w k:=a;have u:0<many*w k:=whj () i;obtain⟨m,rfl⟩:∃m,n=m+1:={n-1,()};exact{m,(),()}
  |succ j=>exact{j,(),a}
 let{q,c,o}:=yI a
 exact FN c (Ý.mpr {d k q c,decide_eq_true {j,(),o}})
theorem TopK.great{w:Str->Int}(T:TopK (aN g ws ss) ss many n most w)(fit:∀p∈ss,many*w p<=qW (aN g ws ss) w n p)(l:2<=many)(o:1<=n)(t:0<=most)(he:("":Str)∈ss)(L:qx ss (rowOf g ws ss) ls):ji g ws ss ls many n most w:=by
 have k:∀p,∀q∈aN g ws ss p,q∈ss:=λp q h=>gK he h;have sub:∀p∈ls,p∈ss:=λp h=>L.sub.subset h
 have m:∀p∈ss,p∉ls->w p=0:=λp b hn=>by
  have:=T.nn p b
  by_cases z:0<w p
  .exact absurd (T.live fit l o he L b z) hn
  .lia
 refine{λp b=>T.nn p (sub p b),λp b=>T.le p (sub p b),λp b=>?_,λh a f p b=>?_}
 .rw[<-yO he m p (sub p b)];exact fit p (sub p b)
 .classical
  have e:∀q,0<=(if q∈ls then max (h q) 0 else 0):=λq=>by split<;>lia
  have c:∀p∈ss,p∉ls->(if p∈ls then max (h p) 0 else 0)=0:=λp _ hn=>if_neg hn;have:=T.top (λq=>if q∈ls then max (h q) 0 else 0) (λq _=>{e q,by show (if q∈ls then max (h q) 0 else 0)<=most;split;(have:=a q ‹_›;lia);exact t}) (λq i=>?_) p (sub p b)
  .have this:(if p∈ls then max (h p) 0 else 0)<=w p:=this;rw[if_pos b]at this
   lia
  .have j:=Bt (F:=λq=>if q∈ls then max (h q) 0 else 0) k (λq _=>e q) n q i;show many*(if q∈ls then max (h q) 0 else 0)<=_;split
   .rename_i d
    by_cases hn:h q<=0
    .rw[show max (h q) 0=0 by lia,wh1];exact j
    .rw[show max (h q) 0=h q by lia,yO he c q i];refine ů (f q d) (sQ (λr s=>?_) q);show h r<=if r∈ls then max (h r) 0 else 0
     rw[if_pos s]
     lia
   .rw[wh1];exact j
theorem TopK.sum{w:Str->Int}(T:TopK (aN g ws ss) ss many n most w)(fit:∀p∈ss,many*w p<=qW (aN g ws ss) w n p)(j:2<=many)(l:1<=n)(he:("":Str)∈ss)(nd:ss.Nodup)(L:qx ss (rowOf g ws ss) ls):(ss.map w).sum=(ls.map w).sum:=IG L.sub nd λp a hn=>by
 have:=T.nn p a
 by_cases z:0<w p
 .exact absurd (T.live fit j l he L a z) hn
 .lia
end
end Bs
namespace L2
structure eA(K:Á)(C:Addr)(nm qual:Str)(st:Stmt)(ps:List Str)(f:Addr)(fd:ì):Prop where
 F:xK K nm qual st f fd
 b:Binds K fd ps []
 m:Hw K C nm f
theorem vV:∀(g:List Addr) (j:List (Str×Str)),bX H g (j.map jQ)->b7 K H (j.map JD) (g.map V.ref)
 |[],[],_=>rfl
 |[],_::_,h=>by have:=h.1;simp at this
 |_::_,[],h=>by have:=h.1;simp at this
 |r::g,q::j,h=>by
  refine{.ref r,g.map V.ref,rfl,{r,jQ q,rfl,h.2 0 r (jQ q) rfl rfl,?_},vV g j {by have:=h.1;simpa using this,λi a b c d=>h.2 (i+1) a b c d}};exact{.str q.1,[.str q.2],rfl,⟨rfl,rfl⟩,{.str q.2,[],rfl,⟨rfl,rfl⟩,rfl}}
theorem Rm.Bs.da.Zn(R:da H l j g):bu K H (.lst (g.map JD)) (.ref l):={l,1,.inl R.l,vV j g R.t}
theorem J7{X:Cx}(g:X.K=K):M6 X (MC K):=by
 subst g;exact gz
theorem Dd{Ok:Hp->Prop}{Q:Hp->Prop}(R:Nat->V->Hp->Prop)(I:∀i y T g ys,R i y T->T l=ρ (.lst ys)->(∀b o,T b=ρ o->b≠l->g b=ρ o)->R i y g)(U:jB J Ok xs)(hl:H l=τ)(hz:xs.9<=sizeLine)(t:∀r,a8 H r->Ok r)
 (he:∀i x C ys,xs[i]?=ρ x->a8 H C->C l=ρ (.lst ys)->∃p a b c,x=.ref p/\eY K C p [a,b,c]/\∀Q',(∀y r,a8 C r->R i y r->Q' y r)->te (ρ a::ρ b::ρ c::σf) C Q')
 (hd:∀ys r,a8 H r->r l=ρ (.lst ys)->ys.9=xs.9->(∀i y,ys[i]?=ρ y->R i y r)->Q r):rX K J l σf qw te H Q:=by
 refine{λi m d g=>m=xs.9-i/\i<=xs.9/\a8 H g/\g l=ρ (.lst d)/\d.9=i/\∀j y,d[j]?=ρ y->R j y g,{xs.9,by simp,à _,a8.upd hl,a5,rfl,λj y h=>by simp at h},?_};rintro i m d g ⟨rfl,hi,n,q,f,E⟩;refine{q,?_}
 by_cases k:i<xs.9
 .refine .inr {U.go i g (t _ n) k,by rw[f];lia,λx C y=>?_}
  let{e,G}:=U.ug i g x C (t _ n) k y
  subst e
  let{p,a,b,c,rfl,L,M}:=he i x _ d G n q
  refine{p,a,b,c,rfl,L,?_};unfold qw;dsimp only;rw[if_pos rfl];refine M _ λy v w A=>{w _ _ q,xs.9-(i+1),(),rfl,k,λb o e=>?_,a5,by rw[Ì,f];rfl,λj z s=>?_}
  .rw[aa (a9 e hl)];exact w _ _ (n _ _ e)
  .have u:=w _ _ q;have kp:∀b o,v b=ρ o->b≠l->(upd v l (.lst (d++[y]))) b=ρ o:=λb o e N=>by rw[aa N];exact e
   by_cases B:j<d.9
   .rw[Ĉ B]at s;exact I j z v _ _ (I j z _ _ _ (E j z s) q λb o e _=>w _ _ e) u kp
   .rw[ĉ ()]at s
    have D:j-d.9=0:=by
     have:=(Ö.mp s).1;simp at this
     lia
    rw[D]at s;cases s;have:j=i:=();rw[this];exact I i y v _ _ A u kp
 .have e:i=xs.9:=();subst e;exact .inl {U.stop g (t _ n),hd d g n q f E}
theorem G7{Ok:Hp->Prop}{Q:Hp->Prop}(t:List iQ)(hJ:jB J Ok xs)(hl:H l=τ)(hz:xs.9<=sizeLine)(C:t.9=xs.9)(T:∀g,a8 H g->Ok g)
 (he:∀(i:Nat) (x:V) (d:iQ) j,xs[i]?=ρ x->t[i]?=ρ d->a8 H j->∃p a b c,x=.ref p/\eY K j p [a,b,c]/\∀I,(∀y g,a8 j g->bu K (aE j g) d y->I y g)->te (ρ a::ρ b::ρ c::U) j I)
 (hd:∀g,a8 H g->bu K (aE H g) (.lst t) (.ref l)->Q g):rX K J l U qw te H Q:=by
 refine Dd (λi y g=>∀d,t[i]?=ρ d->∃j o,a8 H j/\j l=ρ o/\bu K (aE j g) d y) ?_ hJ hl hz T (λi x j n s h k=>?_) (λn g q u m v=>?_)
 .intro i y E G n r w kp d f
  let{j,o,h,k,r}:=r d f
  exact{j,o,h,k,bu.same (bp k kp) d y r}
 .have hi:i<t.9:=by rw[C];exact(Ö.mp s).1
  let{p,a,b,c,e,z,A}:=he i x t[i] j s (Ä hi) h
  refine{p,a,b,c,e,z,λI B=>A I λy g q r=>B y g q λd f=>?_};rw[Ä hi]at f;cases f;exact{j,_,h,k,r}
 .refine hd g q {l,n,rfl,.inl (bJ hl u),b7.oH t n (by rw[C,m]) λi d y f D=>?_}
  let{j,o,h,k,r}:=v i y D d f
  exact bu.same (dA h) d y r
end L2
namespace Sx
structure j5(K:Á)(C CB:Addr)(nm:Str):Prop where
 lk:∃(q:Str) (N:Addr) (bs:List Value) (sn:List Str) (sub:List Value) (ab:Bool) (col:Option Bool) (dd:Option Addr) (k0 k1 k2 k3 k5:Option Value),
  K.lookup C=ρ (Č nm q C N bs (p5 CB) true sn sub ab col dd k0 k1 k2 k3 k5 "ValueError.__new__")
theorem BD
 (l:K.lookup C=ρ (Č nm q C N bs (p5 CB) true sn sub ab col dd k0 k1 k2 k3 k5 "ValueError.__new__")):j5 K C CB nm:=⟨q,N,bs,sn,sub,ab,col,dd,k0,k1,k2,k3,k5,l⟩
theorem J8
 (l:K.lookup CB=ρ (Č nm q CB N bs O3 hd sn sub ab col dd k0 k1 k2 k3 k5 "ValueError.__new__")):AH K CB nm:=⟨q,N,bs,hd,sn,sub,ab,col,dd,k0,k1,k2,k3,k5,l⟩
inductive Lz(K:Á)(C:Addr)(vs:List V)(H:Hp)(Q:VK)(dJ:XK):Prop
 |mk (x many hs ws lns) (_:vs=[.ref x,.int many]) (_:bM K C H x hs ws lns) (_:lns.9<=1000) (_:(∀l∈lns,l.9<=10000)) (_:∀(l:Addr) (ks:List Nat) (H':Hp),a8 H H'->H l=τ->H' l=ρ (.lst ((nI ks).map V.int))->mC lns many ks->Q (.ref l) H')
inductive LA(K:Á)(C:Addr)(vs:List V)(H:Hp)(Q:VK)(dJ:XK):Prop
 |mk (x many hs ws lns) (_:vs=[.ref x,.int many]) (_:bM K C H x hs ws lns) (_:hO many hs ws lns) (_:mC lns many []) (_:hs≠[]) (_:hs.9<=1000) (_:(∀l∈lns,l.9<=10000)) (_:1<=many) (_:many<=1000) (_:∀(t l:Addr) (d:Nat) (ns:List Nat) (w:Int) (H':Hp),a8 H H'->H l=τ->H t=τ->H' t=ρ (.tup [.int (d:Int),.ref l,.int w])->H' l=ρ (.lst ((nI ns).map V.int))->d2 ws lns many (d:Int) (nI ns) w=true->d<hs.9->ns.9<=1000->Q (.ref t) H')
end Sx
local macro_rules|`(tactic|ac_rfl)=>`(tactic|try dsimp only[K70.d7,K70.d5,K70.b4,K70.b5])
namespace K70
section
variable{w:World}
structure Lk(K:Á)(mg:Str->Option Value) where
 T:Txt mg
 (tq tu vW nC lD lE pJ tD jW nD BE nE pK vX mE yW jX fo lF jY nF nG BF jZ fT nH gL eB k4 iK nJ j6 pL yX nK vY pM pN vZ k8 k9 jk lG nL nM j7 fU gM hV lH pO tE kc jl eP xi yY eQ jm tF uv tG tH tI pP lI pQ pR pT nN j8 lJ lK pU kd pV nO:Addr)
 (tJ tK w4 nP lL lM pW tL kg nQ BG nR pX w6 tM yZ kh iL lN ki nT nU BH kj jn nV gN eC kl iM nW nX pY z0 nY w9 pZ q0 wc km kn jo lO nZ o1 o4 jq gO hZ lP q4 tN kq jr eR xj z4 i3 js tO uw tP tQ tR q5 lQ q8 q9 qa o6 o7 lR lS qb kr qc o8:ì)
 mF:FnAt K mg "is_whole" (top 16) ["thing"] tq tJ
 tS:FnAt K mg "all_rows" (top 18) ["band","wide"] tu tK
 we:FnAt K mg "is_rate" (top 19) ["band","many","wide"] vW w4
 eS:FnAt K mg "check_rate" (top 20) ["band","many","wide"] nC nP
 lT:FnAt K mg "longer_rows" (top 21) ["band","rows"] lD lL
 ik:FnAt K mg "blocks_from" (top 22) ["band","place","wide"] lE lM
 qe:FnAt K mg "ends_from" (top 24) ["band","place"] pJ pW
 tT:FnAt K mg "all_ends" (top 25) ["band"] tD tL
 gP:FnAt K mg "counts_up_to" (top 26) ["band","length"] jW kg
 o9:FnAt K mg "count_from" (top 27) ["band","place","length"] nD nQ
 BI:FnAt K mg "count" (top 28) ["band","length"] BE BG
 og:FnAt K mg "block_ends" (top 30) ["band","wide"] nE nR
 qf:FnAt K mg "weight_of" (top 31) ["places","weights"] pK pX
 wg:FnAt K mg "lowered" (top 32) ["ends","many","weights"] vX w6
 tU:FnAt K mg "greatest" (top 33) ["band","many","wide","most"] mE tM
 z5:FnAt K mg "scarce" (top 34) ["band","many","wide","most"] yW yZ
 ku:FnAt K mg "copied_steps" (top 36) ["line"] jX kh
 ip:FnAt K mg "first_sheet" (top 38) ["band","many","wide","weights"] lF lN
 gQ:FnAt K mg "is_number_of" (top 39) ["number","things"] jY ki
 cP:FnAt K mg "check_part" (top 40) ["sheet","many","steps","weight"] nF nT
 oh:FnAt K mg "with_twins" (top 41) ["line","desk","twin"] nG nU
 rj:FnAt K mg "split" (top 42) ["sheet","many","desk","numbers","weight"] BF BH
 gR:FnAt K mg "copied_sheet" (top 47) ["sheet"] jZ kj
 cQ:FnAt K mg "check_not_scarce" (top 49) ["band","many","wide"] gL gN
 bV:FnAt K mg "weights_of_least_most" (top 50) ["band","many","wide"] eB eC
 ky:FnAt K mg "reached_from" (top 51) ["sheet","desk"] k4 kl
 iN:FnAt K mg "closed_weights" (top 52) ["band","many","wide","weights"] iK iM
 j9:FnAt K mg "steps_into" (top 53) ["line","desks"] nJ nW
 ja:FnAt K mg "kept_desks" (top 54) ["sheet","many"] j6 nX
 qg:FnAt K mg "step_down" (top 55) ["sheet"] pL pY
 z6:FnAt K mg "run_by" (top 56) ["weights","numbers","many"] yX z0
 oi:FnAt K mg "next_split" (top 57) ["sheet","many"] nK nY
 fq:FnAt K mg "plan_of" (top 58) ["band","many","wide"] vY w9
 kz:FnAt K mg "all_among" (top 61) ["text","signs"] pM pZ
 qh:FnAt K mg "are_signs" (top 62) ["thing"] pN q0
 wh:FnAt K mg "is_word" (top 63) ["thing","signs"] vZ wc
 kB:FnAt K mg "check_barred" (top 64) ["barred","signs"] k8 km
 gT:FnAt K mg "bears_barred" (top 65) ["row","barred"] k9 kn
 jt:FnAt K mg "sorted_places" (top 66) ["barred"] jk jo
 lU:FnAt K mg "longest_end" (top 67) ["row","places"] lG lO
 oj:FnAt K mg "moves_from" (top 68) ["place","signs","barred","places"] nL nZ
 om:FnAt K mg "leads_into" (top 69) ["ends","lot"] nM o1
 oo:FnAt K mg "live_among" (top 70) ["moves"] j7 o4
 ju:FnAt K mg "blocks_behind" (top 73) ["band","wide"] jl jr
 eT:FnAt K mg "steps_by_new_numbers" (top 74) ["line","kept","many"] eP eR
 J9:FnAt K mg "check_data" (top 75) ["data","many"] xi xj
 z7:FnAt K mg "walked" (top 76) ["lines","desk","data"] yY z4
 fO:FnAt K mg "_law_here" (top 79) ["_law_script","_law_place_here"] pP q5
 iq:FnAt K mg "_law_shaken" (top 80) ["_law_cell","_law_many"] lI lQ
 qi:FnAt K mg "_law_band" (top 81) ["_law_script"] pQ q8
 qj:FnAt K mg "_law_rate" (top 82) ["_law_script","_law_signs"] pR q9
 qk:FnAt K mg "_law_good" (top 83) ["_law_row","_law_words"] pT qa
 oq:FnAt K mg "_law_place" (top 84) ["_law_row","_law_words"] nN o6
 ot:FnAt K mg "_law_moves" (top 85) ["_law_signs","_law_words"] j8 o7
 ir:FnAt K mg "_law_passed" (top 86) ["_law_moves_here","_law_counts","_law_turns"] lJ lR
 lV:FnAt K mg "_law_scarce" (top 87) ["_law_moves_here","_law_many","_law_wide"] lK lS
 ql:FnAt K mg "_law_ends" (top 88) ["_law_moves_here","_law_wide"] pU qb
 kC:FnAt K mg "_law_lowered" (top 89) ["_law_ends_here","_law_many","_law_most"] kd kr
 qm:FnAt K mg "_law_open" (top 90) ["_law_moves_here","_law_many","_law_wide"] pV qc
 jb:FnAt K mg "_law_asked" (top 91) ["_law_way","_law_signs","_law_words","_law_many","_law_wide"] nO o8
 aw:Addr
 xk:mg "Sheet"=ρ (.ref aw)
 ao:Ff K aw
 tV:Mk K aw fo
 bh:Addr
 LC:mg "Plan"=ρ (.ref bh)
 dD:Ik K bh
 Ja:Mk K bh fT
 aA:Addr
 G8:mg "Band"=ρ (.ref aA)
 aJ:Il K aA
 BJ:Mk K aA fU
 az:Addr
 G9:mg "Writer"=ρ (.ref az)
 aO:D1 K az
 De:Mk K az eQ
 dE:eA K aw "__init__" "Sheet.__init__" (inClass (top 37) 0) ["self","homes","weights","lines"] fo iL
 jv:eA K bh "__init__" "Plan.__init__" (inClass (top 48) 0) ["self","weights","splits","kept","last"] fT jn
 ou:eA K bh "sheet" "Plan.sheet" (inClass (top 48) 1) ["self"] nH nV
 fV:eA K aA "__init__" "Band.__init__" (inClass (top 71) 0) ["self","signs","barred"] fU jq
 dX:eA K aA "check_place" "Band.check_place" (inClass (top 71) 2) ["self","place"] gM gO
 i5:eA K aA "check_live" "Band.check_live" (inClass (top 71) 3) ["self","place"] hV hZ
 lW:eA K aA "places" "Band.places" (inClass (top 71) 5) ["self"] lH lP
 i6:eA K aA "live" "Band.live" (inClass (top 71) 6) ["self"] pO q4
 mG:eA K aA "led" "Band.led" (inClass (top 71) 8) ["self","place","sign"] tE tN
 kD:eA K aA "longest" "Band.longest" (inClass (top 71) 9) ["self"] kc kq
 i7:eA K az "__init__" "Writer.__init__" (inClass (top 77) 0) ["self","band","many","wide"] eQ i3
 jw:eA K az "behind" "Writer.behind" (inClass (top 77) 1) ["self"] jm js
 Ga:eA K az "ahead" "Writer.ahead" (inClass (top 77) 2) ["self"] tF tO
 GP:eA K az "lead" "Writer.lead" (inClass (top 77) 4) ["self"] uv uw
 Gb:eA K az "desks" "Writer.desks" (inClass (top 77) 5) ["self"] tG tP
 Gd:eA K az "steps" "Writer.steps" (inClass (top 77) 7) ["self","desk"] tH tQ
 Ge:eA K az "write" "Writer.write" (inClass (top 77) 8) ["self","data"] tI tR
 aF:Addr
 qo:mg "BandError"=ρ (.ref aF)
 XT:AH K aF "BandError"
 XB:Jy K aF
 p6:Addr
 Df:mg "TooMany"=ρ (.ref p6)
 Dg:j5 K p6 aF "TooMany"
 tW:Addr
 Gf:mg "NoWord"=ρ (.ref tW)
 Gg:j5 K tW aF "NoWord"
 xm:Addr
 Jb:mg "NoRow"=ρ (.ref xm)
 Jc:j5 K xm aF "NoRow"
 tX:Addr
 Gi:mg "Barred"=ρ (.ref tX)
 Gj:j5 K tX aF "Barred"
 p7:Addr
 Dh:mg "NoPlace"=ρ (.ref p7)
 Di:j5 K p7 aF "NoPlace"
 tY:Addr
 Gk:mg "NoRate"=ρ (.ref tY)
 Gm:j5 K tY aF "NoRate"
 dF:Addr
 gn:mg "NoSplit"=ρ (.ref dF)
 gp:bA K dF aF "NoSplit"
 M9:yR K dF
 gU:ć K (.ref dF) "__init__"=ρ (ρ (.builtin "ValueError.__init__"))
 mH:Addr
 AJ:mg "NoLength"=ρ (.ref mH)
 AK:j5 K mH aF "NoLength"
 aY:Addr
 tZ:mg "Scarce"=ρ (.ref aY)
 dP:bA K aY aF "Scarce"
 Gn:yR K aY
 d4:Addr
 eU:ì
 z8:xK K "__init__" "Scarce.__init__" (inClass (top 12) 0) d4 eU
 z9:Binds K eU ["self","length","rows"] []
 Dj:ć K (.ref aY) "__init__"=ρ (ρ (.ref d4))
 Dk:wfk K (.ref d4)=true
 fW:ć K (.ref aY) "length"=ρ τ
 lX:ć K (.ref aY) "rows"=ρ τ
 fu:Addr
 xn:mg "Open"=ρ (.ref fu)
 p8:bA K fu aF "Open"
 LD:yR K fu
 BK:ć K (.ref fu) "__init__"=ρ (ρ (.builtin "ValueError.__init__"))
 u0:Addr
 Go:mg "NoData"=ρ (.ref u0)
 Gp:j5 K u0 aF "NoData"
 u3:∃t,mg "MOST_BLOCKS"=ρ (.int 24 t)
 u5:∃t,mg "MOST_WEIGHT"=ρ (.int 8 t)
 jD:∃t,mg "MOST_WEIGHT_IN_ALL"=ρ (.int 40 t)
 known:∃t,mg "KNOWN_SIGNS"=ρ (.str eJ t)
theorem zq.same{E:Str->List Str}(M:zq H d o mv E ss)(s:a8 H g):zq g d o mv E ss:={s _ _ M.hd,M.pm,λm a=>s _ _ (M.en m a)}
noncomputable abbrev AO(ss:List Str)(w:Str->Int):Nat:=(ss.map λp=>(w p).toNat).sum
inductive WG(E:Str->List Str)(ks ss:List Str)(many most:Int)(n:Nat)(de dw:Addr)(H1:Hp)(q:Nat)(σ:St)(H3:Hp):Prop
 |mk (w b v4 v6) (_:q=if b=true then AO ss w+1 else 0) (_:σ=[ρ (.ref de),ρ (.int many),ρ (.int most),ρ (.ref dw),v4,ρ (.bl b),v6]) (_:∀c oc,H1 c=ρ oc->c≠dw->H3 c=ρ oc) (_:H3 dw=ρ (.dK (aB (bx w ks)))) (_:TopK E ss many n most w) (_:b=false->∀p∈ss,¬qW E w n p/many<w p)
inductive WH(E:Str->List Str)(ks ss:List Str)(many most:Int)(n:Nat)(de dw:Addr)(H1:Hp)(w:Str->Int)(j:Nat)(σ:St)(H3:Hp):Prop
 |mk (u b v4 v6) (_:σ=[ρ (.ref de),ρ (.int many),ρ (.int most),ρ (.ref dw),v4,ρ (.bl b),v6]) (_:∀c oc,H1 c=ρ oc->c≠dw->H3 c=ρ oc) (_:H3 dw=ρ (.dK (aB (bx u ks)))) (_:TopK E ss many n most u) (_:b=true->AO ss u<AO ss w) (_:b=false->u=w/\∀p∈ks.take j,¬qW E w n p/many<w p)
end
section
variable{P:É}{w:World}{K:Á}{mg:Str->Option Value}{base:Heap}
theorem qD(L:Lk K mg):aP P w K mg base cI 1 L.jX L.kh ["line"] (FO K):=by
 refine L.ku.F.dC (N:=["line"]) (λo A outer s H D Q E nd c h=>?_)
 let{v,p,rfl,t,hn,k}:=h
 refine{_,(ae (av (eO rfl (ak [] []) (ak [] []) ⋯ (aL (0)) (λ_ _ _ _ _ _=>b9) (λ_ _ _ _ _ _=>(bY (a7 (0) (aC (1)))))))),?_}
 ac_rfl
 let{a,u,rfl,j,b,x}:=mB t
 have d:=b;rw[À]at d;refine{1,a,rfl,{_,j},λl hl=>?_};refine kY (prs:=p.map eh) (λ_=>true) (λq=>.tup [.at q.1,.at q.2]) (aH K a u) b (λi q e=>let ⟨r,y,B⟩:=x i q e;{r,y,eY.of B}) hl (aq ()) (λm f=>f.seq j) (λq n C _ _ g=>g n (a8.refl _)) (λq n C e _ G g=>?_) (λm f r=>?_)
 .let{z,I,rfl}:=Ç.mp e
  exact{2,by show 2<=sizeLine;decide,λr c=>g _ _ (a8.upd c) (nu c z)}
 .rw[ę.mpr (λ_ _=>rfl),Ê]at r;exact k _ m f r
theorem eV(L:Lk K mg):aP P w K mg base cI 2 L.fo L.iL ["self","homes","weights","lines"] (FP K L.aw):=by
 have T:=L.T;refine L.dE.F.dC (N:=["self","homes","weights","lines"]) (λeZ A outer s H vs Q E nd hr h=>?_)
 let{x,j,u,v,w,G,I,t,rfl,J,Z,Rn,GQ,n1,n2,n3,n4,k}:=h
 refine{_,(a6 (cM (0) (bB dk (by rfl) T.list iF (aC (1))) rfl)
  (a6 (cM (0) (bB dk (by rfl) T.list iF (aC (2))) rfl)
  (ae (cM (0) (bZ rfl (ak [] []) (aL (3)) (λ_ _ _ _ _ _=>b9) (λ_ _ _ _ _ _=>(ai (qD L) L.ku (aC (0))))) rfl)))),?_}
 ac_rfl
 let{a,rfl,ha}:=FJ Z
 let{b,rfl,hb}:=gJ Rn
 let{c,xs,rfl,hc,M}:=GQ
 have xl:xs.9=t.9:=by rw[M.len,À]
 have l:∀{d:Addr} {ys:List V} {H':Hp},aG K H d ys->(∀b o,H b=ρ o->b≠x->H' b=ρ o)->aG K H' d ys:=λhS kp=>(fD kp).seq (wy J hS);refine{1,a,1,.inl ha,λf B=>?_};have m:x≠f:=a9 J B;refine{1,x,L.aw,j,[],rfl,by rw[aa m];exact J,L.ao.cl,L.ao.g9,(show 0<1000 by decide),?_};rw[JF];have X:∀d o,H d=ρ o->d≠x->(upd (upd H f (.lst (G.map V.str))) x (.ins L.aw j (vn f))) d=ρ o:=λd o e hd=>by rw[aa hd];exact a8.upd B _ _ e
 have x1:(upd (upd H f (.lst (G.map V.str))) x _) x=ρ (.ins L.aw j (vn f)):=a5;have a1:(upd (upd H f (.lst (G.map V.str))) x (.ins L.aw j (vn f))) f=ρ (.lst (G.map V.str)):=by rw[aa m.symm,a5]
 generalize upd (upd H f _) x _=O at X x1 a1 ⊢;refine{1,b,1,.inl (l hb X),λg n=>?_};have p:x≠g:=a9 x1 n;have WK:f≠g:=a9 a1 n
 have Ro:H g=τ:=by
  cases q:H g with
  |none=>rfl
  |some o=>have:=X _ _ q p.symm;rw[n]at this;cases this
 refine{1,x,L.aw,j,vn f,rfl,by rw[aa p];exact x1,L.ao.cl,L.ao.cD,(show 1<1000 by decide),?_};rw[EI];have C:∀d o,H d=ρ o->d≠x->(upd (upd O g (.lst (I.map V.int))) x (.ins L.aw j (sx f g))) d=ρ o:=λd o e hd=>by rw[aa hd];exact a8.upd n _ _ (X _ _ e hd)
 have Y:(upd (upd O g (.lst (I.map V.int))) x _) x=ρ (.ins L.aw j (sx f g)):=a5;have a2:(upd (upd O g (.lst (I.map V.int))) x (.ins L.aw j (sx f g))) f=ρ (.lst (G.map V.str)):=by rw[aa m.symm,aa WK];exact a1
 have b2:(upd (upd O g (.lst (I.map V.int))) x (.ins L.aw j (sx f g))) g=ρ (.lst (I.map V.int)):=by rw[aa p.symm,a5]
 generalize upd (upd O g _) x _=H2 at C Y a2 b2 ⊢;have R:=b7.same (fD C) _ _ (b7.off J _ _ M);refine{1,c,rfl,{_,l (.inl hc) C},λc' S=>?_};refine tj (K:=K) (t.map bR) (aH K c xs) S (aq ()) (by rw[À,xl]) (λH' s'=>s'.seq (l (.inl hc) C)) (λi y d U Q' hy hd D qq=>?_) (λU D r3=>?_)
 .let{d',e',r}:=R.get i y hy
  rw[hd]at e';cases e';rw[È]at hd
  cases e:t[i]? with
  |none=>rw[e]at hd;cases hd
  |some qs=>
   rw[e]at hd;cases hd;exact{1,y,qs,rfl,bu.same D _ _ r,n4 qs (á e),λz H4 s4 r4=>qq z H4 s4 r4}
 .have Zo:x≠c':=a9 Y S;refine{1,x,L.aw,j,sx f g,rfl,D _ _ Y,L.ao.cl,L.ao.cA,(show 2<1000 by decide),?_};rw[Bn];have up:a8 (aE H U) (aE H (upd U x (.ins L.aw j (zW f g c')))):=bp J λd o e hd=>by rw[aa hd];exact e
  have old:a8 (aE H2 U) (aE H U):=λd o e=>by
   unfold aE at e ⊢
   cases q:H d with
   |none=>
    cases q2:H2 d with
    |none=>rw[q2]at e;exact e
    |some z=>rw[q2]at e;cases e
   |some z=>
    by_cases hd:d=x
    .rw[hd,Y]at e;cases e
    .rw[C _ _ q hd]at e;cases e
  refine k f g c' _ a5 ?_ ?_ (bu.same (old.trans up) _ _ r3) λd o e hd=>by rw[aa hd];exact D _ _ (C _ _ e hd)
  .exact nr ((bJ B (by rw[aa m.symm];exact D _ _ a2)))
  .exact iH ((bJ Ro (by rw[aa p.symm];exact D _ _ b2)))
theorem jx(L:Lk K mg):aP P w K mg base cI 1 L.jY L.ki ["number","things"] (HZ K):=by
 have T:=L.T;refine L.gQ.F.dC (N:=["number","things"]) (λd A outer s H g Q E nd j h=>?_)
 let{i,a,b,rfl,f,k}:=h
 refine{_,(ae (av (sf (dj JB (0) ag (i9 _)) (rJ (dj jL (0) (J5 T.len (1)) (i9 _)))))),?_}
 ac_rfl
 by_cases c:0<=i
 .have e:dO i b.9=decide (i<(b.9:Int)):=by unfold dO;rw[decide_eq_true c,ő]
  rw[e]at k;exact{1,_,1,rfl,true,congrArg V.bl (decide_eq_true c),cJ {2,a,b,rfl,.inl f,_,1,rfl,k}}
 .have e:dO i b.9=false:=by unfold dO;rw[decide_eq_false c,Š]
  rw[e]at k;exact{1,_,1,rfl,false,congrArg V.bl (decide_eq_false c),bW k}
theorem ux(L:Lk K mg):aP P w K mg base cI 1 L.nG L.nU ["line","desk","twin"] (IP K):=by
 refine L.oh.F.dC (N:=["line","desk","twin","steps","word","end"]) (λeZ A outer s H vs Q E nd u h=>?_)
 let{v,d,t,p,rfl,hL,JO,k}:=h
 refine{_,(a6 (af (i:=3) (bP dW))
  (a6 (forA (aL (0)) (fS rfl (aV (au (i:=4)) (aV (au (i:=5)) dQ))) (a6 (bo (gE ă Đ Ē cg (3) (aC (bY (a7 (4) (aC (5)))))))
  (ae (bg (cT pz (5) (1)) (ae (bo (gE ă Đ Ē cg (3) (aC (bY (a7 (4) (aC (2)))))))) aI))))
  (ae (av (3))))),?_}
 ac_rfl
 let{a,S,rfl,hS,hT}:=ez hL
 have BL:S.9=p.9:=by rw[hT.1,À,À]
 refine{à _,λb M=>?_};have sb:a8 H (upd H b (.lst [])):=a8.upd M;have x:(upd H b _) b=ρ (.lst []):=a5;generalize upd H b _=B at sb x;have keep:∀{g:Hp},(∀c o,B c=ρ o->c≠b->g c=ρ o)->a8 H g:=λC c o e=>C _ _ (sb _ _ e) (a9 e M)
 refine{1,a,rfl,{_,sb.seq hS},dN (K:=K) (a:=a) (xs:=S.map V.ref) (λj σ g=>∃(v4 v5:Option V) (as:List V),σ=[ρ (.ref a),ρ (.int (d:Int)),ρ (.int (t:Int)),ρ (.ref b),v4,v5]/\g b=ρ (.lst as)/\(∀c o,B c=ρ o->c≠b->g c=ρ o)/\b7 K (aE B g) ((eI d t (p.take j)).map jj) as)
  {τ,τ,[],rfl,x,λc o e _=>e,rfl} (λj σ g _ {_,_,_,_,_,C,_}=>(keep C).seq hS) ?_ ?_}
 .rintro j y σ g hy ⟨v4,v5,as,rfl,l,C,T⟩;have hj:j<S.9:=by have:=(Ö.mp hy).1;rwa[À]at this
  have U:j<p.9:=();rw[È,Ä hj]at hy;cases hy;have X:H S[j]=ρ (.tup [.str p[j].1,.int (p[j].2:Int)]):=hT.2 j S[j] (jG (eh p[j])) (Ä hj) (by rw[È,È,Ä U];rfl);have jN:p.take (j+1)=p.take j++[p[j]]:=by rw[Ć,Ä U];rfl
  have TF:as.9<=2*j:=by
   rw[T.len,À];exact Ï (oR d t _) (weB 2 (by rw[Û];lia))
  generalize p[j]=q at X jN;refine{S[j],1,eY.of (keep C _ _ X),rfl,_,1,_,1,rfl,?_};refine{1,.inl {rfl,_,aG.of l},2,by show 2<=sizeLine;decide,λr u=>?_};have I:∀n:Nat,n<=20000->n<sizeLine:=λn hn=>Ě hn (by rw[Ė];decide);have Pp:=a8.upd (o:=.tup [.str q.1,.int (q.2:Int)]) u _ _ l;refine{b,_,1,rfl,Pp,I _ (),?_};have Y:∀c o,(upd g r (.tup [.str q.1,.int (q.2:Int)])) c=ρ o->c≠b->(upd (upd g r (.tup [.str q.1,.int (q.2:Int)])) b (.lst (as++[.ref r]))) c=ρ o:=λc o e hc=>by rw[aa hc];exact e
  have D:∀c o,B c=ρ o->c≠b->(upd (upd g r (.tup [.str q.1,.int (q.2:Int)])) b (.lst (as++[.ref r]))) c=ρ o:=λc o e hc=>Y _ _ (a8.upd u _ _ (C c o e hc)) hc
  have r0:B r=τ:=by
   cases z:B r with
   |none=>rfl
   |some o=>
    by_cases hc:r=b
    .rw[hc,l]at u;cases u
    .rw[C _ _ z hc]at u;cases u
  have O:b7 K (aE B (upd (upd g r (.tup [.str q.1,.int (q.2:Int)])) b (.lst (as++[.ref r])))) ((eI d t (p.take j)).map jj++[jj q]) (as++[.ref r]):=by
   refine gg (b7.same ((gu (a8.upd u)).trans (bp x Y)) _ _ T) ?_;have R:r≠b:=λz=>by rw[z,l]at u;cases u
   exact{r,1,bJ r0 (by rw[aa R,a5]),.str q.1,[.int (q.2:Int)],rfl,⟨rfl,rfl⟩,.int (q.2:Int),[],rfl,⟨rfl,rfl⟩,rfl}
  have m:(upd (upd g r (.tup [.str q.1,.int (q.2:Int)])) b _) b=ρ (.lst (as++[.ref r])):=a5;generalize upd (upd g r _) b _=H4 at D O m
  by_cases G:q.2=d
  .refine{2,rfl,true,congrArg V.bl (decide_eq_true (by rw[G])),cJ ?_};refine{1,.inl {rfl,_,aG.of m},2,by show 2<=sizeLine;decide,λJ f=>?_};have JP:=a8.upd (o:=.tup [.str q.1,.int (t:Int)]) f _ _ m;refine{b,_,1,rfl,JP,I _ (by rw[Ì,Υ];lia),?_};have Z:∀c o,(upd H4 J (.tup [.str q.1,.int (t:Int)])) c=ρ o->c≠b->(upd (upd H4 J (.tup [.str q.1,.int (t:Int)])) b (.lst (as++[.ref r]++[.ref J]))) c=ρ o:=λc o e hc=>by rw[aa hc];exact e
   have WL:B J=τ:=by
    cases z:B J with
    |none=>rfl
    |some o=>
     by_cases hc:J=b
     .rw[hc,m]at f;cases f
     .rw[D _ _ z hc]at f;cases f
   refine{_,_,1,a5,λc o e hc=>Z _ _ (a8.upd f _ _ (D c o e hc)) hc,?_};rw[jN,sy,if_pos G,Ò];have em:([q,(q.1,t)]:List (Str×Nat)).map jj=[jj q]++[jj (q.1,t)]:=rfl;rw[em,<-Ā];refine gg (b7.same ((gu (a8.upd f)).trans (bp x Z)) _ _ O) ?_;have R:J≠b:=λz=>by rw[z,m]at f;cases f
   exact{J,1,bJ WL (by rw[aa R,a5]),.str q.1,[.int (t:Int)],rfl,⟨rfl,rfl⟩,.int (t:Int),[],rfl,⟨rfl,rfl⟩,rfl}
  .refine{2,rfl,false,congrArg V.bl (decide_eq_false λz=>G (by have:=V.int.inj z;lia)),bW ?_};refine{_,_,1,m,D,?_};rw[jN,sy,if_neg G,Ò];exact O
 .rintro σ g ⟨v4,v5,as,rfl,l,C,T⟩;rw[À,BL,ä]at T;exact{1,k _ _ (keep C) {b,as,rfl,.inl (bJ M l),b7.same (dA sb) _ _ T}}
theorem lY(L:Lk K mg):aP P w K mg base cI 1 L.nJ L.nW ["line","desks"] (Lp K):=by
 refine L.j9.F.dC (N:=["line","desks"]) (λy A outer s H R Q E nd g h=>?_)
 let{v,b,f,j,rfl,B,C,hn,k}:=h
 refine{_,(ae (av (eO rfl (ak ["desks"] [1]) (ak ["desks"] [1]) ⋯ (aL (0)) (λ_ _ _ _ _ _=>fA (fz (gB (K:=K) rfl) (1) (2) rfl)) (λ_ _ _ _ _ _=>(bY (a7 (0) (aC (1)))))))),?_}
 ac_rfl
 let{a,D,rfl,p,c,G}:=mB B
 have m:=c;rw[À]at m;refine{1,a,rfl,{_,p},λl hl=>?_}
 refine kY (prs:=j.map eh) (λq=>mL q.2 ((nI f).map V.int)) (λq=>.tup [.at q.1,.at q.2]) (aH K a D) c (λi q d=>let ⟨r,I,J⟩:=G i q d;{r,I,eY.of J}) hl (aq ()) (λt n=>n.seq p) (λq u M d x o=>by
  let{z,O,rfl}:=Ç.mp d
  exact{2,b,1,.inl (x.seq C),rfl,iy _,1,o u (a8.refl _)}) (λq u M d _ x o=>?_) (λt n r=>?_)
 .let{z,O,rfl}:=Ç.mp d
  exact{2,by show 2<=sizeLine;decide,λr g=>o _ _ (a8.upd g) (nu g z)}
 .have e:((j.map eh).filter λq=>mL q.2 ((nI f).map V.int))=(cN f j).map eh:=by
   unfold cN;rw[wet];refine congrArg _ (wf8 λq _=>?_);exact FK q.2 f
  rw[e,Ê]at r;exact k _ t n r
theorem lZ(L:Lk K mg):aP P w K mg base cI 2 L.j6 L.nX ["sheet","many"] (Lz K L.aw):=by
 have T:=L.T;refine L.ja.F.dC (N:=["sheet","many","kept","left"]) (λG A outer s H vs Q E nd hr h=>?_)
 let{x,many,hs,ws,b,rfl,S,hn,hm,k}:=h
 have I:(A.deeper (Α "kept_desks" (ay (top 54)) s.heap.objs.size L.j6 G)).units<ð:=hr.rG
 refine{_,(a6 (af (i:=2) (bB (zO rfl) (by rfl) T.list iF (aC (bB xW (by rfl) T.range HX (aC (J5 T.len (aW (0) rfl)))))))
  (ae (fI Ō (bF gy) (a6 (fg (i:=3) rfl (ak ["sheet","kept","many"] [0,2,1]) nd rfl rfl (aL (2)) (λ_ _ _ _ _ _=>fA (cT JB (ax (um (K:=K) rfl) (by rfl) T.len Ρ (aC (ai (lY L) L.j9 (a7 (bf (fH (K:=K) rfl) (kN (K:=K) rfl (1) rfl) (0) (λ_ _=>rfl)) (aC (2)))))) (3))) (λ_ _ _ _ _ _=>(0)))
  (a6 (bg (cT (Ed I) (3) (2)) (ae (av (2))) aI)
  (ae (af (i:=2) (3)))))))),?_}
 ac_rfl
 let{dx,ah,bw,cl,hx,rh,GR,rl}:=id S
 let{O5,J,ec,hc,m}:=id rl
 cases ec;have xl:J.9=b.9:=by rw[m.len,À]
 refine{1,x,L.aw,dx,_,1,hx,L.ao.cl,L.ao.cA,bE ah bw cl,cl,J,rfl,.inl (.inl hc),?_};rw[xl];refine{1,λp hp=>?_};refine{p,b.9,rfl,a5,aq (),λl hl=>?_};have s1:a8 H (upd H p (.rng 0 (b.9:Int))):=a8.upd hp;have fl:H l=τ:=none_of s1 hl;have s2:=s1.trans (a8.upd (o:=.lst ((Ü b.9).map λi=>V.int (i:Nat))) hl);have h2:(upd (upd H p (.rng 0 (b.9:Int))) l (.lst ((Ü b.9).map λi=>V.int (i:Nat)))) l=ρ (.lst ((nI (Ü b.9)).map V.int)):=by rw[a5,yd]
 generalize upd (upd H p _) l _=H2 at s2 h2;refine{λq σ M=>∃(l:Addr) (c:List Nat) (v3:Option V),q=c.9/\σ=[ρ (.ref x),ρ (.int many),ρ (.ref l),v3]/\a8 H M/\H l=τ/\M l=ρ (.lst ((nI c).map V.int))/\Above b many c,{_,l,_,τ,rfl,rfl,s2,fl,h2,Above.start b many},?_};rintro q σ M ⟨l,c,v3,rfl,rfl,O,fl,r,t⟩;refine{true,rfl,cJ ?_};refine{λu C=>∃(g:Addr),u=[ρ (.ref x),ρ (.int many),ρ (.ref g),ρ (.ref g)]/\a8 H C/\H g=τ/\C g=ρ (.lst ((nI (sE b many c)).map V.int))/\sE b many c≠c,?_,?_}
 .rintro u C ⟨g,rfl,R,U,h',X⟩;exact{_,EK X,g,_,1,rfl,R,U,h',t.next}
 have Y:∀d∈c,d<b.9:=λd hd=>Ą.mp (t.sub.subset hd);have Rp:c.9<=1000:=by have:=t.sub.length_le;rw[Ă]at this;lia
 refine{1,l,rfl,{_,aG.of r},λg z=>?_};refine cV (λv=>match v with |.int d=>decide (many<=((cN c (b.getD d.toNat [])).9:Int)) |_=>false) (λv=>v) (aH K l _) z (aq (by rw[À,cX];lia)) (λC R=>aG.of (R _ _ r)) (λy D Q' hy j Z=>?_) (λy D Q' hy _ j Z=>{1,Z D (a8.refl _)}) (λD j h4=>?_)
 .let{n,zt,rfl}:=wN hy
  have Ma:=Y n zt;have hq:b[n]?=ρ (b.getD n []):=by rw[Õ,Ä Ma];rfl
  let{v,LI,rd}:=m.at (i:=n) (d:=bR (b.getD n [])) (by rw[È,hq];rfl)
  have e:=O.trans j;refine{1,x,L.aw,dx,_,1,e _ _ hx,L.ao.cl,L.ao.cA,bE ah bw cl,1,cl,J,_,1,rfl,e.seq (.inl hc),bK LI,1,v,l,c,b.getD n [],rfl,bu.same e _ _ rd,aG.of (j _ _ r),hm _ (á hq),λy H5 s5 r5=>?_}
  let{a,rs,rfl,hS,hT}:=ez r5
  have BL:rs.9=(cN c (b.getD n [])).9:=by rw[hT.1,À,À]
  refine{a,1,.inl ((cU _ _).seq hS),?_};rw[À,BL];exact{1,_,1,rfl,1,Z H5 s5}
 rw[ν,vv (f:=λn=>decide (many<=((cN c (b.getD n [])).9:Int))) (λn=>rfl)]at h4;have e:=O.trans j;refine{2,g,l,_,1,rfl,aG.of h4,aG.of (j _ _ r),iy _,iy _,1,?_};refine rx (λB=>?_) (λB=>?_)
 .rw[vM,decide_eq_true_eq]at B;exact{1,k l c D e fl (j _ _ r) {t,t.stays B}}
 .rw[vM,decide_eq_true_eq]at B;exact{_,rfl,g,rfl,e,none_of O z,h4,B}
theorem ow(L:Lk K mg):aP P w K mg base cI 1 L.pM L.pZ ["text","signs"] Ip:=by
 have T:=L.T;refine L.kz.F.dC (N:=["text","signs"]) (λf A outer s H n Q E nd o h=>?_)
 let{a,b,rfl,hl,k}:=h
 refine{_,(ae (av (ax (xY rfl) (by rfl) T.all NF (aC (bZ rfl (ak ["signs"] [1]) (rW (0)) (λ_ _ _ _ _ _=>b9) (λ_ _ _ _ _ _=>(dj oG (0) (1) rfl))))))),?_}
 ac_rfl
 refine{1,a,rfl,λl e=>comp_map (NR b) (jI a) e (by unfold cK;rw[À];exact aq (Ï (weh (aM a)) ())) (λ_ _=>trivial) (λx g p i _ q=>?_) (λj m d=>?_)}
 .let{c,1}:=Ç.mp i
  exact{2,_,1,rfl,q g (a8.refl _)}
 .rw[Cq]at d;refine{l,1,aG.of d,?_};have:=k j m;rw[wfj];exact this
theorem jy(L:Lk K mg):aP P w K mg base cI 1 L.k9 L.kn ["row","barred"] (Iz K):=by
 have T:=L.T;refine L.gT.F.dC (N:=["row","barred"]) (λi A outer s H o Q E nd p h=>?_)
 let{r,a,j,rfl,f,hl,k}:=h
 refine{_,(ae (av (ax (jP rfl) (by rfl) T.any EX (aC (bZ rfl (ak ["row"] [0]) (aL (1)) (λ_ _ _ _ _ _=>b9) (λ_ _ _ _ _ _=>(dj oG (0) (1) rfl))))))),?_}
 ac_rfl
 refine{1,a,rfl,{_,f},λl d=>comp_map (NR r) (aH K a (j.map V.str)) d (by rw[À];exact aq ()) (λg e=>e.seq f) (λx m t n _ q=>?_) (λg e b=>?_)}
 .let{c,1}:=Ç.mp n
  exact{2,_,1,rfl,q m (a8.refl _)}
 .rw[yu]at b;refine{l,1,aG.of b,?_};have:=k g e;rw[ŧ];exact this
theorem xo(L:Lk K mg):aP P w K mg base cI 2 L.pN L.q0 ["thing"] NS:=by
 have T:=L.T;refine L.qh.F.dC (N:=["thing"]) (λd A outer s H l Q E nd m h=>?_)
 let{x,rfl,S,k}:=h
 have a:x.9<=sizeLine:=aq (by have:=S.hi;lia)
 let{f,b}:=L.known
 refine{_,(a6 (bg (PW.pt (jO (dH (bF (ax d9 (by rfl) T.ur ie (a7 (0) (aC (hF (v:=.ty "str") (by rfl) T.str HV rfl)))))) (jO (cT jL (DH T.len (0)) ag) (mh (cT iA (DH T.len (0)) ag))))) (ae (av gy)) aI)
  (ae (av (sf (dj pz (ax xV (by rfl) T.len Ρ (aC (bB (y6 rfl) (by rfl) T.set QN (aC (0))))) (DH T.len (0)) (i9 _)) (rJ (ai (ow L) L.kz (a7 (0) (aC (cn (v:=.str eJ) (by rfl) b ⟨f,rfl⟩))))))))),?_}
 ac_rfl
 refine{1,_,_,_,true,rfl,gY.str x,rfl,true,rfl,?_};refine bW ?_;refine{1,x,rfl,a,_,1,rfl,1,?_};refine DU (by have:=S.lo;simp;lia) ?_;refine{1,x,rfl,a,_,1,rfl,1,?_};refine DU (by have:=S.hi;simp;lia) ?_;refine{1,x,rfl,?_,λp g=>?_}
 .have:=S.hi;show x.9+1<ō;unfold ō
  lia
 refine{p,1,a5,1,x,rfl,a,rfl,?_};refine{1,?_};refine MG (by rw[yv S.nd];simp) ?_;refine{1,x,eJ,rfl,by have:=S.hi;lia,λi j=>?_};have e:((ch x).all λc=>decide (c∈ch eJ))=true:=ø.mpr λc hc=>decide_eq_true (S.sub c hc);rw[e];exact k i ((a8.upd g).trans j)
theorem AQ(L:Lk K mg):aP P w K mg base cI 2 L.vZ L.wc ["thing","signs"] NU:=by
 have T:=L.T;refine L.wh.F.dC (N:=["thing","signs"]) (λb A outer s H i Q E nd j h=>?_)
 let{x,g,rfl,S,k}:=h
 have a:x.9<=sizeLine:=aq (by have:=S.hi;lia)
 refine{_,(a6 (bg (PW.pt (jO (dH (bF (ax d9 (by rfl) T.ur ie (a7 (0) (aC (hF (v:=.ty "str") (by rfl) T.str HV rfl)))))) (jO (cT jL (DH T.len (0)) ag) (mh (cT iA (DH T.len (0)) ag))))) (ae (av gy)) aI)
  (ae (av (ai (ow L) L.kz (a7 (0) (aC (1))))))),?_}
 ac_rfl
 refine{1,_,_,_,true,rfl,gY.str x,rfl,true,rfl,?_};refine bW ?_;refine{1,x,rfl,a,_,1,rfl,1,?_};refine DU (by have:=S.lo;simp;lia) ?_;refine{1,x,rfl,a,_,1,rfl,1,?_};refine DU (by have:=S.hi;simp;lia) ?_;refine{2,x,g,rfl,by have:=S.hi;lia,λd f=>?_};have e:((ch x).all λc=>decide (c∈ch g))=true:=ø.mpr λc hc=>decide_eq_true (S.sub c hc);rw[e];exact k d f
theorem qE(L:Lk K mg):aP P w K mg base cI 3 L.k8 L.km ["barred","signs"] (IA K):=by
 have T:=L.T;refine L.kB.F.dC (N:=["barred","signs","number","thing"]) (λj A outer s H q Q E nd r h=>?_)
 let{a,g,d,rfl,c,hl,hw,k}:=h
 refine{_,(a6 (bg (cT iA (J5 T.len (0)) ag) gf aI)
  (ae (forA (mX (by rfl) T.enum (aC (0))) (fS rfl (aV (au (i:=2)) (aV (au (i:=3)) dQ))) (ae (bg (dH (bF (ai (AQ L) L.wh (a7 (3) (aC (1)))))) gf aI))))),?_}
 ac_rfl
 refine{1,a,1,.inl c,_,1,rfl,1,?_};refine DU (by grind) ?_;refine{1,a,1,c,rL (K:=K) (a:=a) (xs:=d.map V.str) (λi σ b=>a8 H b/\∃e f,σ=[ρ (.ref a),ρ (.str g),e,f]) {a8.refl _,τ,τ,rfl} (λi σ b _ p=>p.1.seq c) ?_ (λσ b p=>k b p.1)};rintro i x σ b T u ⟨l,e,f,rfl⟩ m
 obtain⟨t,rfl,n⟩:∃t,x=.str t/\t∈d:=by
  grind
 refine{T,1,eY.of a5,rfl,_,1,_,1,rfl,?_};refine{2,t,g,rfl,hw t n,λv o=>{true,rfl,?_}};refine bW ?_;exact{(l.trans (a8.upd m)).trans o,_,1}
theorem p9(L:Lk K mg):aP P w K mg base cI 2 L.jk L.jo ["barred"] (Fu K):=by
 have T:=L.T;refine L.jt.F.dC (N:=["barred","found","word","length","beginning"]) (λM A outer s H vs Q E nd O h=>?_)
 let{a,ws,rfl,y,hl,hw,k}:=h
 have R:=dG O
 refine{_,(a6 (af (i:=1) (qU (mR bO gy qO) rfl rfl (by simp) ⋯))
  (a6 (forA (aL (0)) (au (i:=2)) (ae (forA (iB rfl T.range (a7 ag (aC (DH T.len (2))))) (au (i:=3)) (a6 (af (i:=4) (cS rZ (2) fY (cL (3))))
  (ae (bg (dH (bF (ai (jy L) L.gT (a7 (4) (aC (0)))))) (ae (cu R (1) (4) gy rfl)) aI))))))
  (ae (av (ax (wH rfl) (by rfl) T.sorted HU (aC (1))))))),?_}
 ac_rfl
 intro d hd;refine{a5,[((Ã "":Key),V.bl true)],rfl,⋯,?_}
 have G:a8 H (upd (upd H d (.dK [])) d (.dK (ia [] [((Ã "":Key),V.bl true)]))):=by
  rw[qJ];exact a8.upd hd
 refine{1,a,rfl,{_,G.seq y},dN (K:=K) (a:=a) (xs:=ws.map V.str) (λi σ m=>∃B c v4,σ=[ρ (.ref a),ρ (.ref d),B,c,v4]/\a8 H m/\m d=ρ (.dK (jf (bQ ws "" (ws.take i)))))
  ⟨τ,τ,τ,rfl,G,a5⟩ (λi σ m _ {_,_,_,_,f,_}=>f.seq y) ?_ ?_}
 .rintro i x σ m g ⟨B,c,v4,rfl,f,t⟩;have hi:i<ws.9:=by have:=(Ö.mp g).1;rwa[À]at this
  obtain⟨wd,p,rfl⟩:∃wd,ws[i]?=ρ wd/\x=.str wd:=by
   rw[È]at g
   cases e:ws[i]? with
   |none=>rw[e]at g;cases g
   |some z=>rw[e]at g;exact{z,rfl,(Î g).symm}
  have S:wd∈ws:=á p;have U:=hw wd S;have X:ws.take (i+1)=ws.take i++[wd]:=by rw[Ć,p];rfl
  have Y:(bQ ws "" (ws.take i)).9<=30:=by
   have:=gj (ws:=ws) (e:="") (us:=ws.take i) λv Z=>hw v (wes Z);rw[Û]at this
   lia
  refine⟨_,rfl,wd,rfl,aq (),1,_,rfl,{⋯,⋯,(),()},?_⟩;have en:((wd.9:Int)-1).toNat=wd.9-1:=()
  refine ck (lo:=1) (n:=((wd.9:Int)-1).toNat) (λj σ u=>∃c v4,σ=[ρ (.ref a),ρ (.ref d),ρ (.str wd),c,v4]/\a8 H u/\u d=ρ (.dK (jf (upTo ws wd (bQ ws "" (ws.take i)) j))))
   ⟨c,v4,rfl,f,t⟩ ?_ ?_
  .rintro j σ u hj ⟨c,v4,rfl,q,C⟩;have ec:(1+(j:Int))=((1+j:Nat):Int):=();refine{3,wd,rfl,aq (),?_};rw[ec];have Zq:=sO ws wd (bQ ws "" (ws.take i)) j;refine{2,eW wd (1+j),a,ws,rfl,q.seq y,(),λH4 D=>{1,?_}};have I:=D _ _ C
   cases J:bears ws (eW wd (1+j)) with
   |true=>
    refine bW ?_;refine{_,1,q.trans D,?_};rw[I,fi];unfold oU;rw[if_pos J]
   |false=>
    refine cJ ?_;refine{2,d,1,gX.k (k:=Ã (eW wd (1+j))) I (by rw[C2];exact aS ()),?_};refine{_,1,λb o e=>?_,?_}
    .rw[aa (a9 e hd)];exact D _ _ (q _ _ e)
    .rw[a5,Cr,fi];unfold oU;rw[if_neg (by rw[J];exact ß)]
  .rintro σ u ⟨c,v4,rfl,q,C⟩;refine{_,c,v4,rfl,q,?_};rw[C,X,Ac,en];rfl
 .rintro σ m ⟨B,c,v4,rfl,f,t⟩;rw[À,ä]at t;have Rp:=gj (ws:=ws) (e:="") (us:=ws) hw;refine{1,d,_,1,t,zG _,(),λl ss r hp hs=>?_};exact k l ss _ (f.trans (a8.upd r)) (f.free r) a5 hp hs
theorem u9(L:Lk K mg):aP P w K mg base cI 1 L.lG L.lO ["row","places"] (KU K):=by
 refine L.lU.F.dC (N:=["row","places","cut"]) (λq A outer s H x Q E nd y h=>?_)
 let{r,a,ps,rfl,t,u,hl,k}:=h
 refine{_,(a6 (af (i:=2) ag)
  (a6 (fI Ō (fz fZ (cS rZ (0) (cL (2)) fY) (1) rfl) (ae (rS (i:=2) nd rfl (ĥ rfl) ag El)))
  (ae (av (cS rZ (0) (cL (2)) fY))))),?_}
 ac_rfl
 refine{λm σ c=>∃n:Nat,n<=r.9/\m=r.9-n/\σ=[ρ (.str r),ρ (.ref a),ρ (.int (n:Int))]/\a8 H c/\∀j,j<n->cb r j∉ps,⟨r.9,0,à _,rfl,rfl,a8.refl _,λj d=>absurd d (Γ j)⟩,?_};rintro m σ c ⟨n,hn,rfl,rfl,f,o⟩;refine{3,r,rfl,aq (),1,a,1,.inl (f.seq t),rfl,dh ps,1,?_};rw[if_pos rfl,fG]
 by_cases h:cb r n∈ps
 .have e:decide (ą r (ρ (n:Int)) τ∈ps)=true:=decide_eq_true h;rw[e];refine bW ?_;refine{3,r,rfl,aq (),?_};have:=k c f;unfold lend at this;rw[sq h o hn]at this;exact this
 .have e:decide (ą r (ρ (n:Int)) τ∈ps)=false:=decide_eq_false h;rw[e];refine cJ ?_
  have g:n<r.9:=by
   rcases weR hn with z |z
   .exact z
   .subst z;rw[gk]at h;exact absurd u h
  refine{λb p=>∃l:Nat,l=n+1/\b=[ρ (.str r),ρ (.ref a),ρ (.int (l:Int))]/\a8 H p,?_,?_}
  .rintro b p ⟨l,rfl,rfl,v⟩;refine{r.9-(n+1),(),n+1,g,rfl,rfl,v,λj d=>?_};rcases weR (Nat.le_of_lt_succ d) with z |z
   .exact o j z
   .rw[z];exact h
  .exact{1,_,1,rfl,n+1,rfl,rfl,f}
theorem uz(L:Lk K mg):aP P w K mg base cI 2 L.nL L.nZ ["place","signs","barred","places"] (IB K):=by
 refine L.oj.F.dC (N:=["place","signs","barred","places","moves","sign","row"]) (λR A outer s H vs Q E nd S h=>?_)
 let{p,g,a,b,l,ps,rfl,T,U,V,X,Y,B,C,k}:=h
 have Z:=dG S
 refine{_,(a6 (af (i:=4) cp)
  (a6 (forA (rW (1)) (au (i:=5)) (a6 (af (i:=6) (aK iV (0) (5)))
  (ae (cu Z (4) (5) (xQ (bF (ai (jy L) L.gT (a7 (6) (aC (2))))) ib (ai (u9 L) L.lU (a7 (6) (aC (3))))) rfl))))
  (ae (av (4))))),?_}
 ac_rfl
 intro d hd
 refine{1,g,rfl,f9 (jI g) (λi σ f=>∃r v6,σ=[ρ (.str p),ρ (.str g),ρ (.ref a),ρ (.ref b),ρ (.ref d),r,v6]/\a8 H f/\f d=ρ (.dK (((ch g).take i).map λc=>((Ã ({#[c]}:Str):Key),qZ l ps p c))))
  {τ,τ,rfl,a8.upd hd,a5} (λ_ _ _ _ _=>trivial) ?_ ?_}
 .rintro i x σ f m ⟨r,v6,rfl,t,y⟩
  obtain⟨c,hc,rfl⟩:∃c,(ch g)[i]?=ρ c/\x=.str ⟨#[c]⟩:=by
   unfold cK at m;rw[È]at m
   cases e:(ch g)[i]? with
   |none=>rw[show g.cps.toList[i]?=τ from e]at m;cases m
   |some z=>rw[show g.cps.toList[i]?=ρ z from e]at m;exact{z,rfl,(Î m).symm}
  have hi:i<(ch g).9:=(Ö.mp hc).1;have J:=aM g;have BL:(p++({#[c]}:Str)).length=p.9+1:=by rw[<-aM,bC,Ì,aM];rfl
  refine{2,p,{#[c]},rfl,rfl,aq (by show p.9+1<=_;lia),?_}
  have fin:∀u,a8 f u->JC (Hf 4) (Hf 5) (λ_ D Q5=>Q5 (qZ l ps p c) D) {nx:=λσ f=>∃r v6,σ=[ρ (.str p),ρ (.str g),ρ (.ref a),ρ (.ref b),ρ (.ref d),r,v6]/\a8 H f/\f d=ρ (.dK (((ch g).take (i+1)).map λc=>((Ã ({#[c]}:Str):Key),qZ l ps p c))),rt:=Q}
   [ρ (.str p),ρ (.str g),ρ (.ref a),ρ (.ref b),ρ (.ref d),ρ (.str {#[c]}),ρ (.str (p++{#[c]}))] u:=by
   intro u n;have h4:=n _ _ y;refine{2,d,1,gX.k (k:=Ã ({#[c]}:Str)) h4 (by rw[À,Û];exact aS ()),?_};refine{_,1,λb o e=>?_,?_}
   .rw[aa (a9 e hd)];exact n _ _ (t _ _ e)
   .rw[a5,cR]
    .have:(ch g).take (i+1)=(ch g).take i++[c]:=by rw[Ć,hc];rfl
     rw[this,Ò];rfl
    .cases q:cF (((ch g).take i).map λc=>((Ã (⟨#[c]⟩:Str):Key),qZ l ps p c)) (Ã (⟨#[c]⟩:Str):Key) with
     |none=>rfl
     |some v=>
      have:=wG q;rw[Ê]at this
      let{G,I,e}:=Ç.mp this
      have e':({#[G]}:Str)={#[c]}:=Ģ e
      have:G=c:=by
       have:=congrArg ch e';simpa [ch] using this
      subst this
      let{j,hj,M}:=wer.mp I
      rw[wf9]at M;rw[Û]at hj;have e1:(ch g)[i]=G:=(Ö.mp hc).2;have:=(wdg B).mp (M.trans e1.symm)
      lia
  refine{2,_,a,l,rfl,t.seq T,C,λu n=>{1,?_}}
  cases O:bears l (p++⟨#[c]⟩) with
  |true=>
   refine cJ ?_;have:=fin u n;unfold qZ at this;rw[if_pos O]at this;unfold qZ;exact this
  |false=>
   refine bW ?_;refine{2,_,b,ps,rfl,(t.trans n).seq U,V,(),λD s5=>?_};have:=fin D (n.trans s5);unfold qZ at this;rw[if_neg (by rw[O];exact ß)]at this;unfold qZ;exact this
 .rintro σ f ⟨r,v6,rfl,t,y⟩;have e:(cK g).9=(ch g).9:=by unfold cK;rw[À]
  rw[e,ä]at y;exact{_,rfl,k d f t hd y}
theorem uA(L:Lk K mg):aP P w K mg base cI 1 L.nM L.o1 ["ends","lot"] (Ia K):=by
 have T:=L.T;refine L.om.F.dC (N:=["ends","lot"]) (λm A outer s H v Q E nd y h=>?_)
 let{a,b,d,ls,rfl,i,n,o,p,hl,k}:=h
 refine{_,(ae (av (ax (jP rfl) (by rfl) T.any EX (aC (bZ rfl (ak ["lot"] [1]) (aL (0)) (λ_ _ _ _ _ _=>b9) (λ_ _ _ _ _ _=>(dj (gB (K:=K) rfl) (0) (1) rfl))))))),?_}
 ac_rfl
 refine{1,a,rfl,{_,i},λl f=>comp_map (NI ls) (aH K a d) f (aq ()) (λj g=>g.seq i) (λx r z t u q=>?_) (λj g c=>?_)}
 .exact{2,b,ls,rfl,.inl (u.seq n),ø.mp o x t,p,q r (a8.refl _)}
 .have e:d.map (NI ls)=(d.map λe=>mL e ls).map V.bl:=by rw[Ê];rfl
  rw[e]at c;refine{l,1,aG.of c,?_};have:=k j g;rw[ŧ];exact this
theorem uB(L:Lk K mg):aP P w K mg base cI 2 L.j7 L.o4 ["moves"] (KW K):=by
 have T:=L.T;refine L.oo.F.dC (N:=["moves","lot","left"]) (λY A outer s H vs Q E nd hr h=>?_)
 let{d,Z,o,rfl,hd,hl,hm,hf,TH,k}:=h
 have hu:=dG hr;have O6:(A.deeper (Α "live_among" (ay (top 70)) s.heap.objs.size L.j7 Y)).units<ð:=hr.rG
 refine{_,(a6 (af (i:=1) (bB (mi rfl) (by rfl) T.list iF (aC (0))))
  (ae (fI Ō (bF gy) (a6 (fg (i:=2) rfl (ak ["moves","lot"] [0,1]) nd rfl rfl (aL (1)) (λ_ _ _ _ _ _=>fA (bF (ai (uA L) L.om (a7 (bB (mj rfl) (by rfl) T.list iF (aC (qS (K:=K) rfl η wcd wcN kL (bS hu (1) (0) (λ_ _=>rfl))))) (aC (2)))))) (λ_ _ _ _ _ _=>(0)))
  (a6 (bg (cT (Ed O6) (2) (1)) (ae (av (1))) aI)
  (ae (af (i:=1) (2)))))))),?_}
 ac_rfl
 refine{1,d,1,hd,λl0 t=>?_}
 refine{λm σ H2=>∃(l:Addr) (ls:List Str) (v:Option V),m=ls.9/\σ=[ρ (.ref d),ρ (.ref l),v]/\a8 H H2/\H l=τ/\H2 l=ρ (.lst (ls.map V.str))/\ls.Sublist (Z.map (·.1)) /\
  ∀b:List Str,(∀k∈b,k∈Z.map (·.1)/\gv (o k) b=true)->∀k∈b,k∈ls,
  {_,l0,Z.map (·.1),τ,rfl,rfl,a8.upd t,t,by rw[a5,dS],wf5 _,λb h k hk=>(h k hk).1},?_}
 rintro m σ H2 ⟨l,ls,v,rfl,rfl,S,JQ,U,f,c⟩;refine{true,rfl,cJ ?_};have AF:ls.9<=1000:=by have:=f.length_le;rw[À]at this;lia
 let p:V->Bool:=λx=>match x with
  |.str k=>gv (o k) ls
  |_=>false
 let g:List Str:=ls.filter λk=>gv (o k) ls
 have u:(ls.map V.str).filter p=g.map V.str:=by
  rw[wet];rfl
 refine{λy r=>∃(B:Addr) (v:Option V),y=[ρ (.ref d),ρ (.ref B),v]/\a8 H r/\H B=τ/\r B=ρ (.lst (g.map V.str))/\g.9<ls.9,?_,?_}
 .rintro y r ⟨B,v,rfl,n,zt,C,Ls⟩;refine{g.9,Ls,B,g,v,rfl,rfl,n,zt,C,(Ζ).trans f,λb h k hk=>?_};have WM:=c b h k hk;exact Ý.mpr {WM,rB (c b h) (h k hk).2}
 .refine{1,l,rfl,{_,aG.of U},λl2 D=>cV p (λx=>x) (aH K l (ls.map V.str)) D (by rw[À];exact aq ()) (λr n=>n.seq (aG.of U)) (λx G Q' hx s3 q=>?_) (λx G Q' hx _ s3 q=>{1,q G (a8.refl _)}) (λr n C=>?_)}
  .let{X,WN,rfl}:=Ç.mp hx
   let{a,ha,I}:=di (f.subset WN)
   have J:a8 H G:=S.trans s3;have Pq:=J _ _ hd;have j:=J _ _ (hm _ ha);refine{2,d,.ref a,rfl,?_,?_}
   .have:=cB.k (k:=(Ã X:Key)) Pq;rw[I]at this;exact this
   refine{.inr (.inr (.inl {rfl,.inl {_,j}})),a,1,rfl,j,λvw M=>?_};refine{vw,a,1,a5,by rw[aa (a9 j M)];exact j,λl3 EC=>?_};have s4:a8 G (upd (upd G vw (iw vw a)) l3 (.lst ((o X).map (·.2)))):=(a8.upd M).trans (a8.upd EC);refine{1,l3,l,_,1,aG.of a5,aG.of (s4 _ _ (s3 _ _ U)),hf X,dh ls,by rw[À];exact TH X,λH5 s5=>{1,?_}};exact q H5 (s4.trans s5)
  .rw[ν,u]at C;have O:=n _ _ U;refine{2,l2,l,_,1,rfl,aG.of C,aG.of O,dh _,dh _,1,?_};rw[uX];have R:H l2=τ:=S.free D
   by_cases e:g=ls
   .rw[decide_eq_true e];refine cJ ?_;refine{1,k l ls r (S.trans n) JQ O {f,λkk hk=>?_,c}};have:=e ▸ hk;exact(Ý.mp this).2
   .rw[decide_eq_false e];refine bW ?_;refine{1,l2,1,S.trans n,R,C,?_};rcases weR (ľ (λk=>gv (o k) ls) ls) with z |z
    .exact z
    .exact absurd ((Ζ (p:=λk=>gv (o k) ls)).eq_of_length z) e
theorem ua(L:Lk K mg):aP P w K mg base cI 1 L.lH L.lP ["self"] (Fm L.aA):=by
 have T:=L.T;refine L.lW.F.dC (N:=["self"]) (λa A outer s H j Q E nd m h=>?_)
 let{x,g,n,ss,ls,rfl,B,k}:=h
 let{{c,b,d,q,o,e,p,f,i,r,t},_,_,_}:=B
 refine{_,(ae (av (bB (mi rfl) (by rfl) T.list iF (aC (aW (0) rfl))))),?_}
 ac_rfl
 refine{1,x,L.aA,c,_,1,e,L.aJ.cl,L.aJ.kX,mq g b d q,d,1,f,λl hl=>?_};rw[dS,i];exact k l _ (a8.upd hl) hl a5
theorem jc(L:Lk K mg):aP P w K mg base cI 1 L.pO L.q4 ["self"] (Iq L.aA):=by
 have T:=L.T;refine L.i6.F.dC (N:=["self"]) (λa A outer s H i Q E nd j h=>?_)
 let{x,g,m,ss,ls,rfl,B,k}:=h
 let{{c,b,d,q,n,e,o,p,r,t,f},_,_,_}:=B
 refine{_,(ae (av (bB dk (by rfl) T.list iF (aC (aW (0) rfl))))),?_}
 ac_rfl
 refine{1,x,L.aA,c,_,1,e,L.aJ.cl,L.aJ.oX,vA g b d q,q,1,.inl (aG.of f),λl hl=>?_};exact k l _ (a8.upd hl) hl a5
theorem fX(L:Lk K mg):aP P w K mg base cI 1 L.gM L.gO ["self","place"] (QT L.aA):=by
 have T:=L.T;refine L.dX.F.dC (N:=["self","place"]) (λc A outer s H r Q E nd e h=>?_)
 let{x,p,g,t,ss,ls,rfl,B,f,k}:=h
 let{{i,b,d,q,mv,j,u,l,m,y,z},_,_,_}:=B
 let{a,ha,n}:=di (mv:=mv) (k:=p) (by rw[m];exact f)
 have o:=dG e;refine{_,(ae (bg (PW.pt (jO (dH (bF (ax d9 (by rfl) T.ur ie (a7 (1) (aC (hF (v:=.ty "str") (by rfl) T.str HV rfl)))))) (mh (wD (oO o (1) (aW (0) rfl)))))) gf aI)),?_}
 ac_rfl
 refine{1,_,_,_,true,rfl,gY.str p,rfl,true,rfl,bW ?_};refine{2,x,L.aA,i,_,1,j,L.aJ.cl,L.aJ.kX,mq g b d q,d,1,cB.k (k:=(Ã p:Key)) l,1,?_};rw[n];exact bW k
theorem qp(L:Lk K mg):aP P w K mg base cI 1 L.tq L.tJ ["thing"] EZ:=by
 have T:=L.T;refine L.mF.F.dC (N:=["thing"]) (λa A outer s H b Q E nd c h=>?_)
 let{i,rfl,k}:=h
 refine{_,(ae (av (sf (ax d9 (by rfl) T.ur ie (a7 (0) (aC (hF (v:=.ty "int") (by rfl) T.int QO rfl)))) (rJ (Ea (ax d9 (by rfl) T.ur ie (a7 (0) (aC (hF (v:=.ty "bool") (by rfl) T.bool JL rfl))))))))),?_}
 ac_rfl
 refine{1,_,_,_,true,rfl,gY.int i,rfl,true,rfl,cJ ?_};exact{1,_,_,_,false,rfl,gY.int i,rfl,false,rfl,k}
theorem za(L:Lk K mg):aP P w K mg base cI 1 L.tu L.tK ["band","wide"] (Cy L.aA):=by
 have T:=L.T;refine L.tS.F.dC (N:=["band","wide","rows","step"]) (λf A outer s H r Q E nd t h=>?_)
 let{x,n,g,u,ss,ls,rfl,B,j,l,m,k}:=h
 refine{_,(a6 (af (i:=2) ag)
  (a6 (forA (cW rfl T.range (aC (1))) (au (i:=3)) (ae (rS (i:=2) nd rfl (ĥ rfl) (DH T.len (aW (0) rfl)) Er)))
  (ae (av (2))))),?_}
 ac_rfl
 let{{o,b,d,q,v,p,y,z,C,D,G},_,_,_}:=id B
 refine{1,n,rfl,(),(),ck (lo:=0) (n:=n.toNat) (λi σ a=>a=H/\∃c,σ=[ρ (.ref x),ρ (.int n),ρ (.int ((g.9:Int)^i)),c]) ⟨rfl,τ,rfl⟩ ?_ ?_}
 .rintro i σ a hi ⟨e,c,rfl⟩;rw[e];refine{2,x,L.aA,o,_,1,p,L.aJ.cl,L.aJ.qY,mr g b d q,g,rfl,aq (),_,1,rfl,.inr {(),()},rfl,ρ (.int (0+(i:Int))),?_};rw[Ť];rfl
 .rintro σ a ⟨e,c,rfl⟩;rw[e];exact{_,rfl,k}
theorem AR(L:Lk K mg):aP P w K mg base cI 2 L.vW L.w4 ["band","many","wide"] (yx L.aA):=by
 refine L.we.F.dC (N:=["band","many","wide"]) (λc A outer s H f Q E nd i h=>?_)
 let{x,many,wide,g,d,ss,ls,rfl,B,a,b,k}:=h
 refine{_,(a6 (bg (PW.pt (jO (dH (bF (ai (qp L) L.mF (aC (1))))) (jO (cT jL (1) ag) (mh (cT iA (1) ag))))) (ae (av gy)) aI)
  (a6 (bg (PW.pt (jO (dH (bF (ai (qp L) L.mF (aC (2))))) (jO (cT jL (2) ag) (mh (cT iA (2) ag))))) (ae (av gy)) aI)
  (ae (av (dj N4 (ai (za L) L.tS (a7 (0) (aC (2)))) ag (i9 _)))))),?_}
 ac_rfl
 let{ha,j,hc,hd,e}:=id b
 refine{_,rfl,many,rfl,true,rfl,bW ?_};refine{1,_,1,rfl,false,congrArg V.bl (decide_eq_false ()),bW ?_};refine{1,_,1,rfl,false,congrArg V.bl (decide_eq_false ()),bW ?_};refine{_,rfl,wide,rfl,true,rfl,bW ?_};refine{1,_,1,rfl,false,congrArg V.bl (decide_eq_false ()),bW ?_};refine{1,_,1,rfl,false,congrArg V.bl (decide_eq_false ()),bW ?_};refine{2,x,wide,g,d,ss,ls,rfl,B,a,(),(),_,1,rfl,?_};show Q (V.bl (decide ((g.9:Int)^wide.toNat<=64))) H;rw[decide_eq_true e];exact k
theorem fE(L:Lk K mg):aP P w K mg base cI 3 L.nC L.nP ["band","many","wide"] (yx L.aA):=by
 refine L.eS.F.dC (N:=["band","many","wide"]) (λc A outer s H e Q E nd f h=>?_)
 let{x,many,wide,g,d,ss,ls,rfl,B,a,b,k}:=h
 refine{_,(a6 (bg (dH (bF (ai (AR L) L.we (a7 (0) (a7 (1) (aC (2))))))) gf aI)
  (ae (av gy))),?_}
 ac_rfl
 exact{_,rfl,2,x,many,wide,g,d,ss,ls,rfl,B,a,b,true,rfl,bW k}
theorem mI(L:Lk K mg):aP P w K mg base cI 1 L.hV L.hZ ["self","place"] (QU L.aA):=by
 have T:=L.T;refine L.i5.F.dC (N:=["self","place"]) (λa A outer s H l Q E nd m h=>?_)
 let{x,p,g,n,ss,ls,rfl,B,c,k}:=h
 let{{f,b,d,q,o,i,r,t,u,y,j},_,_,_}:=B
 refine{_,(ae (bg (PW.pt (jO (dH (bF (ax d9 (by rfl) T.ur ie (a7 (1) (aC (hF (v:=.ty "str") (by rfl) T.str HV rfl)))))) (mh (fz fZ (1) (aW (0) rfl) rfl)))) gf aI)),?_}
 ac_rfl
 refine{1,_,_,_,true,rfl,gY.str p,rfl,true,rfl,bW ?_};refine{2,x,L.aA,f,_,1,i,L.aJ.cl,L.aJ.oX,vA g b d q,q,1,.inl (aG.of j),rfl,dh _,?_};have e:mL (.str p) (ls.map V.str)=true:=by rw[fG];exact decide_eq_true c
 refine{false,?_,bW k};show V.bl (!mL (.str p) (ls.map V.str))=V.bl false;rw[e];rfl
theorem xq(L:Lk K mg):aP P w K mg base cI 1 L.pK L.pX ["places","weights"] (F0 K):=by
 have T:=L.T;refine L.qf.F.dC (N:=["places","weights"]) (λj A outer s H y Q E nd n h=>?_)
 let{l,d,o,m,f,rfl,g,p,hd,hw,k}:=h
 have q:=dG n;refine{_,(ae (av (ax (fJ rfl) (by rfl) T.sum wV (aC (bZ rfl (ak ["weights"] [1]) (aL (0)) (λ_ _ _ _ _ _=>b9) (λ_ _ _ _ _ _=>(bS q (1) (0) (λ_ _=>rfl)))))))),?_}
 ac_rfl
 refine{1,l,rfl,{_,g},λr a=>?_};refine comp_map (Hs f) (aH K l (o.map V.str)) a (by rw[À];exact aq ()) (λB t=>t.seq g) (λz b C u c v=>?_) (λb c i=>?_)
 .let{e,x,rfl}:=Ç.mp u
  have g3:=cB.rd (k:=(Ã e:Key)) (hd.same c);rw[bT,hw e x]at g3;exact{2,d,1,g3,v b (a8.refl _)}
 .rw[oF]at i;exact{r,_,rfl,aG.of i,k b c}
theorem AU(L:Lk K mg):aP P w K mg base cI 2 L.vX L.w6 ["ends","many","weights"] Cz:=by
 have T:=L.T;refine L.wg.F.dC (N:=["ends","many","weights","lower","place"]) (λX A outer s H vs Q E nd Y h=>?_)
 let{x,B,many,n,o,M,f,g,r,ss,ls,rfl,l,O,Z,GU,nd,AF,TK,WO,C,k}:=h
 have D:=dG Y
 refine{_,(a6 (af (i:=3) cp)
  (a6 (forA (j4 (0)) (au (i:=4)) (ae (cu D (3) (4) (ax (oM rfl) (by rfl) T.min HW (a7 (bS D (2) (4) (λ_ _=>rfl)) (aC (aK kK (ai (xq L) L.qf (a7 (bS D (0) (4) (λ_ _=>rfl)) (aC (2)))) (1))))) rfl)))
  (ae (av (3))))),?_}
 ac_rfl
 refine λdl m=>?_;have R:a8 H (upd H dl (.dK [])):=a8.upd m;have J:=dZ x o (aR M);rw[dS,O]at J;refine{1,x,1,.inr {o,R _ _ l,?_}};refine f9 J (λj σ t=>∃(v4:Option V),σ=[ρ (.ref x),ρ (.int many),ρ (.ref B),ρ (.ref dl),v4]/\t dl=ρ (.dK (aB (bx (jU g r ss ls many n f) (ls.take j))))/\a8 H t) ⟨τ,rfl,a5,R⟩ (λj σ t _ {_,_,_,b}=>b _ _ l) ?_ ?_
 .rintro j y σ t hy ⟨v4,rfl,z,b⟩
  let{p,G,rfl,hj,u,jN}:=cC hy
  have d:=C.same b;have g3:=cB.rd (k:=(Ã p:Key)) d;rw[bT,g8 f ls p u]at g3
  let{a,ha,hv}:=di (mv:=M) (k:=p) (by rw[O];exact u)
  have S:=cB.f (k:=(Ã p:Key)) (b _ _ l);rw[hv]at S;have I:=b _ _ (Z _ ha);have Pt:=fj g r ss ls n p;refine{2,B,1,g3,2,x,1,S,1,a,B,(aQ g r ss ls n p).map (·.2),_,f,rfl,aG.of I,by rw[À];lia,d,λe he=>?_,λH4 U=>?_}
  .let{q,hq,rfl}:=Ç.mp he
   exact g8 f ls _ (cO hq)
  have eb:(((aQ g r ss ls n p).map (·.2)).map f).sum=eX g r ss ls n f p:=by unfold eX;rw[Ê];rfl
  refine{1,_,1,rfl,{(),()},_,1,?_};have h4:=U _ _ z;have v:p∉(bx (jU g r ss ls many n f) (ls.take j)).map (·.1):=by rw[kT];exact fN nd G
  refine{2,dl,1,gX.k (k:=Ã p) h4 (by rw[dn];unfold bx;rw[À,Û];exact aS ()),?_};refine{1,?_,λc oc e=>?_}
  .rw[a5,kP v,eb,jN];unfold bx;rw[Ò];rfl
  .rw[aa (a9 e m)];exact U _ _ (b _ _ e)
 .rintro σ t ⟨v4,rfl,z,b⟩;rw[À,ä]at z;exact{_,rfl,k dl t b m z}
theorem xr(L:Lk K mg):aP P w K mg base cI 1 L.pL L.pY ["sheet"] (Lq K L.aw):=by
 have T:=L.T;refine L.qg.F.dC (N:=["sheet","heaviest","desk","line","number","step"]) (λeZ A outer s H vs Q E nd hr h=>?_)
 let{x,hs,g,b,rfl,S,zr,he,Cd,hex,k}:=h
 refine{_,(a6 (af (i:=1) (ax (C8 rfl) (by rfl) T.max EY (aC (aW (0) rfl))))
  (a6 (forA (mX (by rfl) T.enum (aC (aW (0) rfl))) (fS rfl (aV (au (i:=2)) (aV (au (i:=3)) dQ))) (ae (forA (mX (by rfl) T.enum (aC (3))) (fS rfl (aV (au (i:=4)) (aV (au (i:=5)) dQ))) (ae (bg (PW.pt (rQ (cT pz (bf bI (aW (0) rfl) (2) (λ_ _=>rfl)) (1)) (qQ (cT jL (bf bI (aW (0) rfl) (bf gz (5) ag (λ_ _=>rfl)) (λ_ _=>rfl)) (1))))) (ae (av (bY (a7 (2) (aC (4)))))) aI)))))
  (ae (av ib)))),?_}
 ac_rfl
 let{dx,ah,bw,cl,hx,rh,GR,rl}:=id S
 let{TL,eb,hb}:=gJ GR
 cases eb
 let{O5,xs,ec,hc,R}:=id rl
 cases ec;have xl:xs.9=b.9:=by rw[R.len,À]
 refine{1,x,L.aw,dx,_,1,hx,L.ao.cl,L.ao.cD,cf ah bw cl,bw,g,rfl,hb,Cd,λM hM hT=>?_};have U:∀n:Nat,n<g.9->wt (g.map V.int) (n:Int)=ρ (.int (g.getD n 0)):=λn hn=>bK (by rw[È,Ä hn,Õ,Ä hn];rfl);refine{1,x,L.aw,dx,_,1,hx,L.ao.cl,L.ao.cA,bE ah bw cl,cl,xs,rfl,.inl hc,rL (K:=K) (a:=cl) (xs:=xs) (λi σ X=>a8 H X/\(∃v2 v3 v4 O,σ=[ρ (.ref x),ρ (.int M),v2,v3,v4,O])/\∀d f c q,Down g b M d f c q->i<=d) {a8.refl _,⟨τ,τ,τ,τ,rfl⟩,λ_ _ _ _ _=>à _} (λi σ X _ p=>p.1.seq (.inl hc)) ?_ (λσ X p=>?_)}
 .rintro d y σ X T hy ⟨s2,⟨v2,v3,v4,O,rfl⟩,B⟩ WQ;have hd:d<xs.9:=(Ö.mp hy).1;have Gq:d<b.9:=();have Y:b[d]?=ρ (b.getD d []):=by rw[Õ,Ä Gq];rfl
  let{v,Z,rd}:=R.at (i:=d) (d:=bR (b.getD d [])) (by rw[È,Y];rfl)
  rw[hy]at Z;cases Z
  let{a,C,rfl,hS,O7}:=ez rd
  have TN:C.9=(b.getD d []).9:=by rw[O7.1,À,À]
  have Rq:∀q∈b.getD d [],q.2<g.9:=he _ (á Y);have s3:=s2.trans (a8.upd (o:=.tup [.int (d:Nat),.ref a]) WQ);refine{T,1,eY.of a5,rfl,_,1,_,1,rfl,?_};generalize upd X T _=H3 at s3;refine{1,a,1,s3.seq hS,rL (K:=K) (a:=a) (xs:=C.map V.ref) (λi σ H4=>a8 H H4/\(∃v4 O,σ=[ρ (.ref x),ρ (.int M),ρ (.int (d:Int)),ρ (.ref a),v4,O])/\∀f c q,Down g b M d f c q->i<=f) {s3,{_,1},λ_ _ _ _=>à _} (λi σ H4 _ p=>p.1.seq hS) ?_ (λσ H4 p=>?_)}
  .rintro i y σ H4 T2 G ⟨s4,⟨v4,O,rfl⟩,j⟩ WR;have hi:i<C.9:=by have:=(Ö.mp G).1;rwa[À]at this
   have I:i<(b.getD d []).9:=();rw[È,Ä hi]at G;cases G;have O8:H C[i]=ρ (.tup [.str (b.getD d [])[i].1,.int ((b.getD d [])[i].2:Int)]):=O7.2 i C[i] (jG (eh (b.getD d [])[i])) (Ä hi) (by rw[È,È,Ä I];rfl);have J:(b.getD d [])[i]?=ρ (b.getD d [])[i]:=Ä I;have JO:=Rq _ (û I);generalize (b.getD d [])[i]=q at O8 J JO;have m:=s4.trans (a8.upd (o:=.tup [.int (i:Nat),.ref C[i]]) WR);refine{T2,1,eY.of a5,rfl,_,1,_,1,rfl,?_};generalize upd H4 T2 _=H5 at m
   have Jz:(¬∃c q,Down g b M d i c q)->∀f c q,Down g b M d f c q->i+1<=f:=λhn f c q hD=>by
    have:=j f c q hD
    by_cases e:f=i
    .subst e;exact absurd ⟨c,q,hD⟩ hn
    .lia
   refine{1,x,L.aw,dx,_,1,m _ _ hx,L.ao.cl,L.ao.cD,cf ah bw cl,1,bw,_,_,1,rfl,m.seq hb,U d (),1,?_}
   by_cases r:g.getD d 0=M
   .refine{rfl,true,congrArg V.bl (decide_eq_true (by rw[r])),cJ ?_};refine{1,x,L.aw,dx,_,1,m _ _ hx,L.ao.cl,L.ao.cD,cf ah bw cl,1,C[i],_,_,1,rfl,eY.of (m _ _ O8),rfl,bw,_,_,1,rfl,m.seq hb,U q.2 JO,1,_,1,rfl,?_}
    by_cases u:g.getD q.2 0<M
    .refine{true,congrArg V.bl (decide_eq_true u),cJ ?_};refine{2,by show 2<=sizeLine;decide,λt ht=>?_};exact k t M d i _ q _ (m.trans (a8.upd ht)) a5 ⟨hM,hT,Y,J,r,u⟩
    .refine{false,congrArg V.bl (decide_eq_false u),bW ?_};refine{m,{_,1},Jz ?_};rintro⟨c,q',D⟩;have e1:=D.l;rw[Y]at e1;cases e1;have e2:=D.s;rw[J]at e2;cases e2;exact u D.lt
   .refine{rfl,false,congrArg V.bl (decide_eq_false λz=>r (V.int.inj z)),bW ?_};refine bW {m,{_,1},Jz ?_};rintro⟨c,q',D⟩;exact r D.e
  .let{s4,{v4,O,rfl},j}:=p
   refine{s4,{_,_,_,1},λd' f c q D=>?_};have:=B d' f c q D
   by_cases e:d'=d
   .subst e;have:=j f c q D;have e1:=D.l;rw[Y]at e1;cases e1;have:=(Ö.mp D.s).1;rw[À]at *
    lia
   .lia
 .let{s2,_,B}:=p
  let{d,i,c,q,D}:=hex M hM hT
  have:=B d i c q D;have:=(Ö.mp D.l).1
  lia
theorem jz(L:Lk K mg):aP P w K mg base cI 4 L.jZ L.kj ["sheet"] (FR K L.aw):=by
 refine L.gR.F.dC (N:=["sheet"]) (λB A outer s H vs Q E nd C h=>?_)
 let{x,D,G,j,rfl,S,I,J,M,O,k}:=h
 refine{_,(ae (av (kM L.tV (eV L) (C.mono ⋯) rfl L.xk L.dE.b .nil mU (a7 (aW (0) rfl) (a7 (aW (0) rfl) (aC (aW (0) rfl))))))),?_}
 ac_rfl
 let{l,g,bw,cl,m,R,n,T}:=id S
 refine{1,x,L.aw,l,_,1,m,L.ao.cl,L.ao.g9,et g bw cl,1,x,L.aw,l,_,1,m,L.ao.cl,L.ao.cD,cf g bw cl,1,x,L.aw,l,_,1,m,L.ao.cl,L.ao.cA,bE g bw cl,?_};intro y i p q U;have sm:a8 H (upd (upd H i (.own y)) y (.ins L.aw i [])):=du p q;refine{y,i,.ref g,.ref bw,.ref cl,D,G,j,rfl,a5,bu.same sm _ _ R,bu.same sm _ _ n,bu.same sm _ _ T,I,J,M,O,λX Y Z a d q1 q2 q3 f=>{rfl,?_}};have t:a8 H a:=λc o e=>f _ _ (sm _ _ e) (a9 e p);have u:=λ(z:iQ) (v:V) (r:bu K (aE _ a) z v)=>bu.same (dA sm) z v r;exact k y a t {i,X,Y,Z,bJ p d,u _ _ q1,u _ _ q2,u _ _ q3}
theorem pd(L:Lk K mg):aP P w K mg base cI 5 L.fT L.jn ["self","weights","splits","kept","last"] (IU K L.bh L.aw):=by
 have T:=L.T;refine L.jv.F.dC (N:=["self","weights","splits","kept","last"]) (λeZ A outer s H vs Q E nd hr h=>?_)
 let{x,f,d,z,u,v,m,p,ks,hs,ws,Y,rfl,D,hd,WT,Rn,S,n1,n2,n3,n4,n5,k}:=h
 refine{_,(a6 (cM (0) (bB zL (by rfl) T.dict NK (aC (1))) rfl)
  (a6 (cM (0) (G6 rfl (ak [] []) (ak [] []) (ak [] []) {⋯,⋯,⋯} (aL (2)) (λ_ _ _ _ _ _=>b9) (λ_ _ _ _ _ _=>(bY (a7 (0) (a7 (bB (uo (K:=K) rfl) (by rfl) T.list iF (aC (1))) (aC (2))))))) rfl)
  (a6 (cM (0) (bB dk (by rfl) T.list iF (aC (3))) rfl)
  (ae (cM (0) (ai (jz L) L.gR (aC (4))) rfl))))),?_}
 ac_rfl
 let{c,rfl,hc}:=gJ Rn
 let{b,xs,rfl,hb,Z}:=WT
 have xl:xs.9=p.9:=by rw[Z.len,À]
 have G:∀{d:Addr} {ys:List V} {H':Hp},aG K H d ys->(∀b o,H b=ρ o->b≠x->H' b=ρ o)->aG K H' d ys:=λhS kp=>(fD kp).seq (wy D hS);refine{1,d,1,hd,λa I=>?_};have B:x≠a:=a9 D I;refine{1,x,L.bh,f,[],rfl,by rw[aa B];exact D,L.dD.cl,L.dD.cD,(show 0<1000 by decide),?_};rw[Nm];have k1:∀d o,H d=ρ o->d≠x->(upd (upd H a (.dK (aB m))) x (.ins L.bh f (vx a))) d=ρ o:=λd o e hd=>by rw[aa hd];exact a8.upd I _ _ e
 have x1:(upd (upd H a (.dK (aB m))) x _) x=ρ (.ins L.bh f (vx a)):=a5;have a1:(upd (upd H a (.dK (aB m))) x (.ins L.bh f (vx a))) a=ρ (.dK (aB m)):=by rw[aa B.symm,a5]
 generalize upd (upd H a _) x _=H1 at k1 x1 a1 ⊢;have Rr:=b7.same (fD k1) _ _ (b7.off D _ _ Z);have TQ:aG K H1 b xs:=G (.inl hb) k1;refine{1,b,rfl,{_,TQ},λj FX=>?_};refine G7 (K:=K) (p.map xa) (aH K b xs) FX (aq ()) (by rw[À,xl]) (λH' s'=>s'.seq TQ) (λi v dd n hv l U=>?_) (λn U r3=>?_)
 .let{d',e',r}:=Rr.get i v hv
  rw[l]at e';cases e';rw[È]at l
  cases e:p[i]? with
  |none=>rw[e]at l;cases l
  |some sp=>
   rw[e]at l;cases l
   let{r0,ys,rfl,hT,h2}:=r
   let{v1,Zr,rfl,{rfl,_},h3}:=h2
   let{v2,Ws,rfl,r2,h4}:=h3
   let{v3,TC,rfl,{rfl,_},h5}:=h4
   cases(show TC=[] from h5)
   let{l2,rfl,O9}:=gJ r2
   refine{r0,_,_,1,eY.of (U _ _ hT),λQ' qq=>?_};refine{2,l2,1,.inl (U.seq O9),λl3 J=>?_};refine{1,by show 3<=sizeLine;decide,λt ht=>?_};have s4:a8 (upd n l3 (.lst ((nI sp.2.1).map V.int))) (upd (upd n l3 (.lst ((nI sp.2.1).map V.int))) t (.tup [.int (sp.1:Int),.ref l3,.int sp.2.2])):=a8.upd ht;refine qq _ _ ((a8.upd J).trans s4) ?_;exact BA (d:=sp.1) (ns:=sp.2.1) (w:=sp.2.2) (bJ (none_of (a8.upd J) ht) a5) (bJ J (s4 _ _ a5))
 have Zt:x≠j:=a9 x1 FX;have x3:=U _ _ x1;have a3:=U _ _ a1;refine{1,x,L.bh,f,vx a,rfl,x3,L.dD.cl,L.dD.Fg,(show 1<1000 by decide),?_};rw[Nn];have k3:∀d o,H d=ρ o->d≠x->(upd n x (.ins L.bh f (sI a j))) d=ρ o:=λd o e hd=>by rw[aa hd];exact U _ _ (k1 _ _ e hd)
 have x4:(upd n x _) x=ρ (.ins L.bh f (sI a j)):=a5;have a4:(upd n x (.ins L.bh f (sI a j))) a=ρ (.dK (aB m)):=by rw[aa B.symm];exact a3
 have old:a8 (aE H1 n) (aE H n):=λd o e=>by
  unfold aE at e ⊢
  cases q:H d with
  |none=>
   cases M:H1 d with
   |none=>rw[M]at e;exact e
   |some z=>rw[M]at e;cases e
  |some z=>
   by_cases hd:d=x
   .rw[hd,x1]at e;cases e
   .rw[k1 _ _ q hd]at e;cases e
 have r4:bu K (aE H (upd n x (.ins L.bh f (sI a j)))) (.lst (p.map xa)) (.ref j):=bu.same (old.trans (bp D λd o e hd=>by rw[aa hd];exact e)) _ _ r3;generalize upd n x _=X at k3 x4 a4 r4 ⊢;refine{1,c,1,.inl (G hc k3),λg O=>?_};have C:x≠g:=a9 x4 O
 have WU:H g=τ:=by
  cases q:H g with
  |none=>rfl
  |some o=>have:=k3 _ _ q C.symm;rw[O]at this;cases this
 refine{1,x,L.bh,f,sI a j,rfl,by rw[aa C];exact x4,L.dD.cl,L.dD.Fh,(show 2<1000 by decide),?_};rw[JH];have s5:∀d o,X d=ρ o->d≠x->(upd (upd X g (.lst ((nI ks).map V.int))) x (.ins L.bh f (vy a j g))) d=ρ o:=λd o e hd=>by rw[aa hd];exact a8.upd O _ _ e
 have x5:(upd (upd X g (.lst ((nI ks).map V.int))) x _) x=ρ (.ins L.bh f (vy a j g)):=a5;have c5:(upd (upd X g (.lst ((nI ks).map V.int))) x (.ins L.bh f (vy a j g))) g=ρ (.lst ((nI ks).map V.int)):=by rw[aa C.symm,a5]
 generalize upd (upd X g _) x _=H5 at s5 x5 c5 ⊢;have k5:∀d o,H d=ρ o->d≠x->H5 d=ρ o:=λd o e hd=>s5 _ _ (k3 _ _ e hd) hd
 have S5:bM K L.aw H5 z hs ws Y:=by
  let{dz,ah,bw,cl,hz,rh,GR,rl}:=id S
  have WV:z≠x:=λq=>by rw[q,D]at hz;have:=Î hz;injection this with _ _ M;cases M
  have go:=λ(dd:iQ) (v:V) (r:bu K H dd v)=>bu.same (fD k5) dd v (bu.off D dd v r);exact{dz,ah,bw,cl,k5 _ _ hz WV,go _ _ rh,go _ _ GR,go _ _ rl}
 refine{1,z,hs,ws,Y,rfl,S5,n1,n2,n3,n4,λy R s6 S6=>?_};refine{1,x,L.bh,f,vy a j g,rfl,s6 _ _ x5,L.dD.cl,L.dD.Fi,(show 3<1000 by decide),?_};rw[ER];have up:∀{Ha:Hp},(∀d o,Ha d=ρ o->d≠x->(upd R x (.ins L.bh f (wQ a j g y))) d=ρ o)->a8 (aE H Ha) (aE H (upd R x (.ins L.bh f (wQ a j g y)))):=λh=>bp D h;have u6:∀d o,R d=ρ o->d≠x->(upd R x (.ins L.bh f (wQ a j g y))) d=ρ o:=λd o e hd=>by rw[aa hd];exact e
 have u4:∀d o,X d=ρ o->d≠x->(upd R x (.ins L.bh f (wQ a j g y))) d=ρ o:=λd o e hd=>u6 _ _ (s6 _ _ (s5 _ _ e hd)) hd
 have Rt:a8 (aE H5 R) (aE H R):=λd o e=>by
  unfold aE at e ⊢
  cases q:H d with
  |none=>
   cases M:H5 d with
   |none=>rw[M]at e;exact e
   |some z=>rw[M]at e;cases e
  |some z=>
   by_cases hd:d=x
   .rw[hd,x5]at e;cases e
   .rw[k5 _ _ q hd]at e;cases e
 exact k a j g y _ a5 I (u4 _ _ a4 B.symm) (bu.same (up u4) _ _ r4) (iH (bJ WU (u6 _ _ (s6 _ _ c5) C.symm))) (S6.same (Rt.trans (up u6))) λd o e hd=>u6 _ _ (s6 _ _ (k5 _ _ e hd)) hd
theorem uC(L:Lk K mg):aP P w K mg base cI 5 L.nH L.nV ["self"] (CQ K L.bh L.aw):=by
 refine L.ou.F.dC (N:=["self"]) (λe A outer s H v Q E nd B h=>?_)
 let{x,m,f,C,g,i,d,rfl,{j,a,b,c,z,l,ha,D,hc,S},n,o,p,q,k}:=h
 refine{_,(ae (av (ai (jz L) L.gR (aC (aW (0) rfl))))),?_}
 ac_rfl
 exact{1,x,L.bh,j,_,1,l,L.dD.cl,L.dD.Fi,A4 a b c z,z,g,i,d,rfl,S,n,o,p,q,λy r t u=>k y r t u}
theorem xt(L:Lk K mg):aP P w K mg base cI 1 L.pT L.qa ["_law_row","_law_words"] (Fq K):=by
 have T:=L.T;refine L.qk.F.dC (N:=["_law_row","_law_words"]) (λi A outer s H o Q E nd p h=>?_)
 let{r,a,j,rfl,f,hl,k}:=h
 refine{_,(ae (av (Ea (ax (jP rfl) (by rfl) T.any EX (aC (bZ rfl (ak ["_law_row"] [0]) (aL (1)) (λ_ _ _ _ _ _=>b9) (λ_ _ _ _ _ _=>(dj oG (0) (1) rfl)))))))),?_}
 ac_rfl
 refine{1,a,rfl,{_,f},λl d=>comp_map (NR r) (aH K a (j.map V.str)) d (by rw[À];exact aq 1.0) (λg e=>e.seq f) (λx m t n _ q=>?_) (λg e b=>?_)}
 .let{c,1}:=Ç.mp n
  exact{2,_,1,rfl,q m (a8.refl _)}
 .rw[yu]at b;refine{l,1,aG.of b,1,?_};have:=k g e;rw[ŧ];exact this
theorem kE(L:Lk K mg):aP P w K mg base cI 1 L.lJ L.lR ["_law_moves_here","_law_counts","_law_turns"] (FE K):=by
 have T:=L.T;refine L.ir.F.dC (N:=["_law_moves_here","_law_counts","_law_turns","_law_turn","_law_more","_law_place_here","_law_goal"]) (λeZ A outer s H vs Q E nd hr h=>?_)
 let{d,Z,o,mv,E,ss,m,n,rfl,M,hE,zb,hc,KM,hn,k}:=h
 have hu:=dG hr
 refine{_,(a6 (forA (cW rfl T.range (aC (2))) (au (i:=3)) (a6 (af (i:=4) cp)
  (a6 (forA (tm (1)) (au (i:=5)) (ae (forA (aL (bS hu (0) (5) (λ_ _=>rfl))) (au (i:=6)) (ae (cu hu (4) (6) (aK fR (EG hu (4) (6) ag ⟨rfl,rfl,rfl,rfl⟩) (bS hu (1) (5) (λ_ _=>rfl))) rfl)))))
  (ae (af (i:=1) (4))))))
  (ae (av (1)))),?_}
 ac_rfl
 refine{1,(n:Int),rfl,1.0,1.0,?_};rw[î]
 refine ck (lo:=0) (n:=n) (λi σ H3=>∃(l:Addr) (v3 v4 R v6:Option V),σ=[ρ (.ref d),ρ (.ref l),ρ (.int (n:Int)),v3,v4,R,v6]/\H3 l=ρ (.dK (aB (cz E i m)))/\(l=Z\/H l=τ)/\∀c ob,H c=ρ ob->c≠Z->H3 c=ρ ob)
  {Z,τ,τ,τ,τ,rfl,hc,.inl rfl,λc ob e _=>e} ?_ ?_
 .rintro i σ H3 hi ⟨l,v3,v4,R,v6,rfl,h3,S,s3⟩;have KO:cw ss (cz E i m):=KM.cz hE i;have hlen:=KO.len;have Pu:cz E (i+1) m=(cz E i m).foldl (nk E) []:=rfl;generalize cz E i m=u at h3 KO hlen Pu;refine λb B=>?_;have C:l≠b:=a9 h3 B
  have WW:b=Z\/H b=τ:=by
   by_cases z:b=Z
   .exact .inl z
   .cases e:H b with
    |none=>exact .inr rfl
    |some ob=>
     have:=s3 _ _ e z;rw[B]at this;cases this
  refine{1,l,1,.inl (by rw[aa C];exact h3),λob Hz hz hk=>?_};have J:=dZ l ob (aB u);rw[zV]at J;have TR:Hz b=ρ (.dK []):=by rw[hk b (è C),a5]
  have sz:∀c g,H c=ρ g->c≠Z->Hz c=ρ g:=λc g e n=>by
   have e3:=s3 _ _ e n;rw[hk c (λz=>by rcases S with q |q;exact n (z.trans q);rw[z,q]at e;cases e),aa (a9 e3 B)];exact e3
  have Mz:zq Hz d o mv E ss:=M.keep hc sz;have WX:∀{G:Hp},(∀c g,Hz c=ρ g->c≠b->G c=ρ g)->zq G d o mv E ss:=λI=>Mz.keep TR I;refine f9 J (λj σ G=>∃(R v6:Option V),σ=[ρ (.ref d),ρ (.ref l),ρ (.int (n:Int)),ρ (.int (0+(i:Int))),ρ (.ref b),R,v6]/\G b=ρ (.dK (aB ((u.take j).foldl (nk E) [])))/\∀c g,Hz c=ρ g->c≠b->G c=ρ g) {_,1,TR,λc g e _=>e} (λj σ G _ {_,_,_,_,I}=>I _ _ hz C) ?_ ?_
  .rintro j y σ G hy ⟨R,v6,rfl,h4,I⟩
   let{e,r,rfl,hj,WY,_}:=cC hy
   obtain⟨⟨p,v⟩,Dl,ee⟩:∃pr:Str×Int,u[j]?=ρ pr/\pr.1=e:=by
    rw[È]at r
    cases q:u[j]? with
    |none=>rw[q]at r;cases r
    |some pr=>rw[q]at r;exact{pr,rfl,Î r}
   obtain rfl:p=e:=ee;have Ru:(p,v)∈u:=á Dl;have jN:u.take (j+1)=u.take j++[(p,v)]:=by rw[List.take_succ,Dl];rfl
   have KX:cw ss ((u.take j).foldl (nk E) []):=cw.pass hE cw.nil;generalize hX:(u.take j).foldl (nk E) []=X at h4 KX
   let{a,ga,TU}:=(WX I).at (KO.sh p WY)
   refine{2,d,1,ga,a,rfl,{_,aG.of TU},dN (K:=K) (a:=a) (xs:=(E p).map V.str) (λq σ H5=>∃(v6:Option V),σ=[ρ (.ref d),ρ (.ref l),ρ (.int (n:Int)),ρ (.int (0+(i:Int))),ρ (.ref b),ρ (.str p),v6]/\H5 b=ρ (.dK (aB (((E p).take q).foldl (λa t=>bump a t v) X)))/\H5 a=ρ (.lst ((E p).map V.str))/\∀c g,Hz c=ρ g->c≠b->H5 c=ρ g) {_,rfl,h4,TU,I} (λq σ H5 _ {_,_,_,ha,_}=>aG.of ha) ?_ ?_}
   .rintro q y σ H5 hy ⟨v6,rfl,O,U,D⟩
    let{t,Zu,rfl,hq,Pw,WZ}:=cC hy
    have KN:cw ss (((E p).take q).foldl (λa t=>bump a t v) X):=vH (λx hx=>hE p x (wes hx)) KX;have hN:=KN.len;generalize X0:((E p).take q).foldl (λa t=>bump a t v) X=N at O KN hN;have Y:((E p).take (q+1)).foldl (λa t=>bump a t v) X=bump N t v:=by rw[WZ,wd8,X0];rfl
    have g1:=cB.k (k:=(Ã t:Key)) O;rw[bT]at g1;have g2:((fK N t).map V.int).getD (.int 0)=.int ((fK N t).getD 0):=by cases fK N t<;>rfl
    have g3:=cB.f (k:=(Ã p:Key)) (D _ _ hz C);rw[bT,yz KO.nd Ru]at g3;refine{1,b,rfl,.inl {_,.inl O},1,_,g1,2,l,1,g3,_,_,g2,rfl,?_};refine{2,b,1,gX.k (k:=(Ã t:Key)) O (by rw[dn];exact aS 1.0),?_};have X1:a≠b:=λz=>by rw[z,O]at U;cases U
    refine{1,?_,by rw[aa X1];exact U,λc' g e hc=>by rw[aa hc];exact D c' g e hc};rw[a5,Fv KN.nd,Y]
   .rintro σ H5 ⟨v6,rfl,O,_,D⟩;refine{_,1,?_,D};rw[jN,wd8,hX];rw[À,ä]at O;exact O
  rintro σ G ⟨R,v6,rfl,h4,I⟩;rw[À,À,ä,<-Pu]at h4
  exact{1,b,_,_,_,1,h4,WW,λc g e n=>I _ _ (sz _ _ e n) λz=>by
   have:=s3 _ _ e n;rw[z,B]at this
   cases this}
 .rintro σ H3 ⟨l,v3,v4,R,v6,rfl,h3,S,s3⟩;exact{_,rfl,k l H3 s3 S h3}
theorem ub(L:Lk K mg):aP P w K mg base cI 2 L.lK L.lS ["_law_moves_here","_law_many","_law_wide"] (Ar K):=by
 have T:=L.T;refine L.lV.F.dC (N:=["_law_moves_here","_law_many","_law_wide","_law_counts","_law_data","_law_length","_law_rows"]) (λeZ A outer s H vs Q E nd S h=>?_)
 let{d,o,mv,g,b,ss,many,n,rfl,M,U,I,m2,m8,n6,k1,k2}:=h
 refine{_,(a6 (af (i:=3) (qU (mR bO ag qO) rfl rfl (by simp) ⋯))
  (a6 (af (i:=4) ag)
  (a6 (forA (iB rfl T.range (a7 ag (aC ag))) (au (i:=5)) (a6 (af (i:=3) (ai (kE L) L.ir (a7 (0) (a7 (3) (aC (2))))))
  (a6 (af (i:=4) (aK gC (4) (1)))
  (a6 (af (i:=6) (ax (fJ rfl) (by rfl) T.sum wV (aC (bB (mj rfl) (by rfl) T.list iF (aC (qS (K:=K) rfl η wcd wcN kL (3)))))))
  (ae (bg (cT jL (6) (4)) (ae (av (bY (a7 (5) (aC (6)))))) aI))))))
  (ae (av ib))))),?_}
 ac_rfl
 have X:∀p,∀q∈aN g b ss p,q∈ss:=λp q h=>gK U h;refine λY m=>{a5,[((Ã "":Key),V.int 1)],rfl,⋯,?_};rw[qJ];have e0:ia [] [((Ã "":Key),V.int 1)]=aB (cz (aN g b ss) (0*n) [("",1)]):=by rw[Nat.zero_mul];rfl
 rw[e0];have s0:a8 H (upd H Y (.dK (aB (cz (aN g b ss) (0*n) [("",1)])))):=a8.upd m;refine⟨1,25,rfl,{1.0,1.0,1.0,1.0},ck (lo:=1) (n:=((25:Int)-1).toNat) (λi σ t=>a8 H t/\(∃(f:Addr) (J v6:Option V),σ=[ρ (.ref d),ρ (.int many),ρ (.int (n:Int)),ρ (.ref f),ρ (.int (many^i)),J,v6]/\t f=ρ (.dK (aB (cz (aN g b ss) (i*n) [("",1)])))/\H f=τ)/\∀j:Nat,1<=j->j<=i->¬dg g b ss (j*n) "" < many^j) {s0,{Y,τ,τ,by rw[Int.pow_zero];rfl,a5,m},λj C h2=>1.0} ?_ ?_⟩
 .rintro i σ t hi ⟨u,⟨f,J,v6,rfl,Z,a⟩,lo⟩;refine{3,d,f,o,mv,_,ss,_,n,rfl,M.same u,X,I,Z,(cw.one U).cz X _,1.0,λk D s4 fr x=>?_};rw[vG,<-wgS]at x;have y:a8 H D:=λc ob e=>s4 _ _ (u _ _ e) (a9 e a)
  have O:H k=τ:=by
   rcases fr with z |z
   .rw[z];exact a
   .exact none_of u z
  refine{2,_,1,rfl,.inr {1.0,1.0},?_};refine{1,{.inr (.inr (.inl {rfl,.inl {_,x}})),k,1,rfl,x,λv hv=>?_}};have h5:=a8.upd (o:=iw v k) hv _ _ x;refine{v,k,1,a5,h5,λl hl=>?_};rw[yr];have G:a8 D (upd (upd D v (iw v k)) l (.lst (((cz (aN g b ss) (Nat.succ i*n) [("",1)]).map (·.2)).map V.int))):=(a8.upd hv).trans (a8.upd hl);refine{l,1,aG.of a5,?_};rw[Fy];generalize upd (upd D v _) l _=H6 at G;refine{2,_,1,rfl,1,?_};refine rx (λC=>?_) (λC=>{y.trans G,{k,_,_,by rw[Ť];rfl,G _ _ x,O},λj B q2=>?_})
  .have R:=of_decide_eq_true C;refine{2,by show 2<=sizeLine;decide,λr S=>?_};refine k2 (i+1) r _ (.some (i+1) 1.0 1.0 (by rw[Ť];exact R) λj B q2=>lo j B 1.0) ((y.trans G).trans (a8.upd S)) ?_;rw[a5,show (1:Int)+(i:Int)=((i+1:Nat):Int) by omega]
  .by_cases hj:j<=i
   .exact lo j B hj
   .obtain rfl:j=i+1:=1.0;rw[Ť];exact λz=>C (decide_eq_true z)
 .rintro σ t ⟨u,⟨f,J,v6,rfl,Z,a⟩,lo⟩;exact k1 t (λj B q2=>lo j B 1.0) u
theorem xu(L:Lk K mg):aP P w K mg base cI 2 L.pU L.qb ["_law_moves_here","_law_wide"] (FG K):=by
 refine L.ql.F.dC (N:=["_law_moves_here","_law_wide","_law_ends_here","_law_place_here"]) (λeZ A outer s H vs Q E nd hr h=>?_)
 let{d,o,v,E,ss,n,rfl,M,hE,S,T,n6,k}:=h
 have hu:=dG hr
 refine{_,(a6 (af (i:=2) cp)
  (a6 (forA (j4 (0)) (au (i:=3)) (ae (cu hu (2) (3) (zS (ai (kE L) L.ir (a7 (0) (a7 (qU (mR (3) ag qO) rfl rfl (by simp) ⋯) (aC (1)))))) rfl)))
  (ae (av (2))))),?_}
 ac_rfl
 refine λb g=>?_;have B:a8 H (upd H b (.dK [])):=a8.upd g;have U:(upd H b (.dK [])) b=ρ (.dK (aR [])):=a5;generalize upd H b _=H1 at B U;have J:=dZ d o (aR v);rw[dS]at J;have X:(v.map (·.1)).Nodup:=M.pm.nodup_iff.mpr S;have Zv:v.9<=25:=by have:=M.pm.length_eq;rw[À]at this;omega
 refine{1,d,1,.inr {o,B _ _ M.hd,f9 J (λj σ a=>∃(Y:Option V) (f:List (Str×Addr)),σ=[ρ (.ref d),ρ (.int (n:Int)),ρ (.ref b),Y]/\a b=ρ (.dK (aR f))/\Pn a E n f ((v.map (·.1)).take j)/\∀c l,H1 c=ρ l->c≠b->a c=ρ l) {τ,[],rfl,U,{by rw[ι];rfl,λm h=>absurd h ċ},λc l e _=>e} (λj σ a _ {_,_,_,_,_,x}=>x _ _ (B _ _ M.hd) (a9 M.hd g)) ?_ ?_}}
 .rintro j y σ a hy ⟨Y,f,rfl,I,u,x⟩
  let{p,Dl,rfl,hj,Z,C}:=cC hy
  have M4:zq a d o v E ss:=(M.same B).keep U x;have JR:p∈ss:=M.pm.mem_iff.mp Z;refine{1,λD G=>{1,a5,[((Ã p:Key),V.int 1)],rfl,by show 1<=15;decide,?_}};rw[qJ,show ia [] [((Ã p:Key),V.int 1)]=aB [(p,1)] from rfl];have s5:a8 a (upd a D (.dK (aB [(p,1)]))):=a8.upd G;have h5:(upd a D (.dK (aB [(p,1)]))) D=ρ (.dK (aB [(p,1)])):=a5;generalize upd a D _=H5 at s5 h5;refine{1,d,D,o,v,E,ss,[(p,1)],n,rfl,M4.same s5,hE,T,h5,cw.one JR,1.0,λr H6 s6 fr h6=>{r,1,h6,λO=>?_}}
  have R:∀c l,a c=ρ l->(upd H6 r (.frz O (.dK (aB (cz E n [(p,1)]))))) c=ρ l:=λc l e=>by
   have n0:=a9 e G;have e5:=s5 _ _ e;rw[aa λz=>?_]
   .exact s6 _ _ e5 n0
   .rcases fr with q |q
    .exact n0 (z.trans q)
    .rw[z,q]at e5;cases e5
  have t:(upd H6 r (.frz O (.dK (aB (cz E n [(p,1)]))))) r=ρ (.frz O (.dK (aB (cz E n [(p,1)])))):=a5;generalize upd H6 r _=H7 at R t;have h7:=R _ _ I
  have Rv:p∉f.map (·.1):=by
   rw[u.ke];intro z;have:=X.sublist (ġ (j+1) _);rw[C]at this;exact(Ū.mp this).2.2 _ z _ (Ó.mpr rfl) rfl
  have Zw:f.9<=25:=by have:=congrArg Ŋ u.ke;rw[À,Û,À]at this;omega
  refine{2,b,1,gX.k (k:=Ã p) h7 (by unfold aR;rw[À];exact aS 1.0),?_};rw[cR _ (fb Rv),show aR f++[((Ã p:Key),V.ref r)]=aR (f++[(p,r)]) by unfold aR;rw[Ò];rfl];refine{_,f++[(p,r)],rfl,a5,{by rw[Ò,u.ke,C];rfl,λm hm=>?_},λc l e n=>by rw[aa n];exact R _ _ (x _ _ e n)};rcases Ú.mp hm with z |z
  .let{ox,ex}:=u.en m z
   exact{ox,by rw[aa λz=>by rw[z,I]at ex;cases ex];exact R _ _ ex}
  .rw[Ó.mp z];exact{O,by rw[aa λ(z:r=b)=>by rw[z,h7]at t;cases t];exact t}
 .rintro σ a ⟨Y,f,rfl,I,u,x⟩;rw[À,ä]at u;exact{1,k b f a (λc l e=>x _ _ (B _ _ e) (a9 e g)) g I u}
theorem qF(L:Lk K mg):aP P w K mg base cI 1 L.kd L.kr ["_law_ends_here","_law_many","_law_most"] (IJ K):=by
 have T:=L.T;refine L.kC.F.dC (N:=["_law_ends_here","_law_many","_law_most","_law_weights","_law_place_here","_law_turned","_law_room"]) (λeZ A outer s H vs Q E nd hr h=>?_)
 let{S,oe,ev,E,I,ss,many,most,n,rfl,hd,EF,X,GV,zb,hE,m2,m8,t0,t8,k}:=h
 have hu:=dG hr
 refine{_,(a6 (af (i:=3) cp)
  (a6 (forA (j4 (0)) (au (i:=4)) (ae (cu hu (3) (4) (2) rfl)))
  (a6 (af (i:=5) gy)
  (a6 (fI Ō (bF (5)) (a6 (af (i:=5) gy)
  (ae (forA (j4 (0)) (au (i:=4)) (a6 (af (i:=6) (aK kK (ax (fJ rfl) (by rfl) T.sum wV (aC (eO rfl (ak ["_law_weights"] [3]) (ak ["_law_weights"] [3]) ⋯ (CZ (CW (bS hu (0) (4) (λ_ _=>rfl)))) (λ_ _ _ _ _ _=>b9) (λ_ _ _ _ _ _=>(aK gC (bS hu (2) (0) (λ_ _=>rfl)) (1)))))) (1)))
  (ae (bg (cT jL (6) (bS hu (3) (4) (λ_ _=>rfl))) (a6 (cu hu (3) (4) (6) rfl)
  (ae (af (i:=5) gy))) aI)))))))
  (ae (av (3))))))),?_}
 ac_rfl
 have knd:I.Nodup:=X.nodup_iff.mpr GV;have Rp:I.9<=25:=by have:=X.length_eq;omega
 have ek:=EF.ke;refine λd r=>?_;have s1:a8 H (upd H d (.dK [])):=a8.upd r;have h1:(upd H d _) d=ρ (.dK []):=a5;generalize upd H d _=H1 at s1 h1;have B:=s1 _ _ hd;have M:S≠d:=a9 hd r;have J:=dZ S oe (aR ev);rw[dS,ek]at J;refine{1,S,1,.inr {oe,B,f9 J (λj σ U=>∃(v4:Option V),σ=[ρ (.ref S),ρ (.int many),ρ (.int most),ρ (.ref d),v4,τ,τ]/\U d=ρ (.dK (aB (bx (λ_=>most) (I.take j))))/\∀c g,H1 c=ρ g->c≠d->U c=ρ g) {τ,rfl,h1,λc g e _=>e} (λj σ U _ {_,_,_,o}=>o _ _ B M) ?_ ?_}}
 .rintro j y σ U hy ⟨v4,rfl,G,o⟩
  let{p,Dl,rfl,hj,C,jN}:=cC hy
  have AV:p∉(bx (λ_=>most) (I.take j)).map (·.1):=by rw[kT];exact fN knd Dl
  refine{3,d,1,gX.k (k:=Ã p) G (by rw[dn];unfold bx;rw[À,Û];exact aS 1.0),?_};refine{1,?_,λc g e hc=>by rw[aa hc];exact o c g e hc};rw[a5,kP AV,jN];unfold bx;rw[Ò];rfl
 rintro σ U ⟨v4,rfl,G,o⟩;rw[À,ä]at G;refine{WG E I ss many most n S d H1,{_,λ_=>most,true,v4,τ,rfl,rfl,o,G,TopK.start t0,λz=>nomatch z},?_};clear o G;rintro q σ U ⟨w,b,v4,v6,rfl,rfl,o,G,T,hb⟩;refine{1,b,rfl,?_}
 cases b with
 |false=>
  refine bW {1,k d w U (λc g e=>o _ _ (s1 _ _ e) (a9 e r)) r G T λp hp=>?_};have h:=hb rfl p hp;have h2:w p<=qW E w n p/many:=1.0;have:=(wd6 (show 0<many by omega)).mp h2;rw[Φ]at this;exact this
 |true=>
  refine cJ {_,λσ' H' h=>h,?_};refine{1,S,1,.inr {oe,o _ _ B M,f9 J (WH E I ss many most n S d H1 w) {w,false,_,1,o,G,T,λz=>(nomatch z),λ_=>{rfl,λp hp=>by rw[ι]at hp;cases hp}} (λj σ U _ {_,_,_,_,_,o,_,_,_,_}=>o _ _ B M) ?_ ?_}}
  .rintro j y σ H4 hy ⟨u,b,v4,v6,rfl,D,h4,Y,ht,hf⟩
   let{p,Dl,rfl,hj,C,jN}:=cC hy
   have O:p∈ss:=X.mem_iff.mp C
   let{a,X2,X3}:=di (mv:=ev) (k:=p) (by rw[ek];exact C)
   let{oa,ha}:=EF.en _ X2
   have ga:=cB.f (k:=(Ã p:Key)) (D _ _ B M);rw[X3]at ga;have na:a≠d:=a9 ha r;have R:=D _ _ (s1 _ _ ha) na;have KP:cw ss (cz E n [(p,1)]):=(cw.one O).cz hE n;have hw:=my (E:=E) [(p,1)] n u;rw[yj]at hw;generalize cz E n [(p,1)]=pp at R KP hw;have hpl:=KP.len;refine{2,S,1,ga,a,oa,1,R,λv hv=>?_};have s5:a8 H4 (upd H4 v (sR v a)):=a8.upd hv;have TV:(upd H4 v _) v=ρ (sR v a):=a5;generalize upd H4 v _=H5 at s5 TV;refine{v,a,oa,1,TV,s5 _ _ R,λl hl=>?_};refine AA (λZ=>.int (u (match Z.1 with |.inr t=>t |.inl _=>"")*(match Z.2 with |.int c=>c |_=>0))) (s5 _ _ R) hl (by rw[dn];exact aq 1.0) (λZ H6 Q' X4 s6 qq=>?_) (λH6 s6 h6=>?_)
   .let{m,Oa,rfl}:=Ç.mp (show Z∈pp.map λp=>((Ã p.1:Key),V.int p.2) from X4)
    have Pw:m.1∈I:=X.mem_iff.mpr (KP.sh _ (Ç.mpr ⟨m,Oa,rfl⟩));have gw:=cB.k (k:=(Ã m.1:Key)) (s6 _ _ (s5 _ _ h4));rw[bT,g8 u I m.1 Pw]at gw;have t1:=Y.nn m.1 (X.mem_iff.mp Pw);have t2:=Y.le m.1 (X.mem_iff.mp Pw);exact{2,d,1,gw,1,_,1,rfl,.inl {1.0,1.0},qq H6 (a8.refl _)}
   have e6:(aB pp).map (λZ:Key×V=>V.int (u (match Z.1 with |.inr t=>t |.inl _=>"")*(match Z.2 with |.int c=>c |_=>0)))=(pp.map λm=>u m.1*m.2).map V.int:=by
    unfold aB;rw[Ê,Ê];rfl
   rw[e6]at h6
   have LJ:(pp.map λm=>u m.1*m.2).sum=qW E u n p:=by
    rw[<-hw];exact congrArg Ř (ü λm _=>Φ _ _)
   refine{l,1,aG.of h6,1,_,1,rfl,{1.0,1.0},?_};rw[LJ];have Mb:=s5.trans s6;have Rw:=Mb _ _ h4;have TX:∀c g,H1 c=ρ g->c≠d->H6 c=ρ g:=λc g e hc=>Mb _ _ (D c g e hc);have gw:=cB.k (k:=(Ã p:Key)) Rw;rw[bT,g8 u I p C]at gw;refine{3,d,1,gw,_,1,rfl,1,?_};refine rx (λh1=>?_) (λh1=>?_)
   .have lt:=of_decide_eq_true h1;refine{3,d,1,gX.k (k:=Ã p) Rw (by rw[dn];unfold bx;rw[À];exact aS 1.0),?_};rw[EW C];refine{uq u p (qW E u n p/many),true,_,1,λc g e hc=>by rw[aa hc];exact TX c g e hc,a5,Y.set m2 hE O lt,λ_=>?_,λz=>nomatch z};have h2:=Lg GV O (weo (Bt hE Y.nn n p O) 1.0) lt
    have G:AO ss u<=AO ss w:=by
     cases b with
     |true=>exact ŷ (ht rfl)
     |false=>rw[(hf rfl).1];exact Å _
    exact Þ h2 G
   .refine{u,b,_,1,TX,Rw,Y,ht,λz=>?_}
    let{rfl,h}:=hf z
    refine{rfl,λx hx=>?_};rw[jN]at hx;rcases Ú.mp hx with y |y
    .exact h x y
    .rw[Ó.mp y];exact λz=>h1 (decide_eq_true z)
  .rintro σ H4 ⟨u,b,v4,v6,rfl,D,h4,Y,ht,hf⟩;rw[À,ä]at hf;refine{if b=true then AO ss u+1 else 0,?_,u,b,v4,v6,rfl,rfl,D,h4,Y,λz p hp=>?_}
   .show _<AO ss w+1;split
    .rename_i z;have:=ht z;omega
    .omega
   .let{rfl,h}:=hf z
    exact h p (X.mem_iff.mpr hp)
theorem xx(L:Lk K mg):aP P w K mg base cI 3 L.pV L.qc ["_law_moves_here","_law_many","_law_wide"] (FH K):=by
 have T:=L.T;refine L.qm.F.dC (N:=["_law_moves_here","_law_many","_law_wide","_law_ends_here","_law_most","_law_total"]) (λeZ A outer s H vs Q E nd hr h=>?_)
 let{d,o,J,g,O,ss,ls,many,n,rfl,M,R,b,u,lv,U,m8,n1,n6,k}:=h
 refine{_,(a6 (af (i:=3) (zS (ai (xu L) L.ql (a7 (0) (aC (2))))))
  (a6 (forA (iB rfl T.range (a7 ag (aC ag))) (au (i:=4)) (a6 (af (i:=5) (ax (fJ rfl) (by rfl) T.sum wV (aC (bB (mj rfl) (by rfl) T.list iF (aC (qS (K:=K) rfl η wcd wcN kL (ai (qF L) L.kC (a7 (3) (a7 (1) (aC (4)))))))))))
  (ae (bg (cT iA (5) ag) (ae (av (dj iA (5) ag (i9 _)))) aI))))
  (ae (av gy)))),?_}
 ac_rfl
 have hE:∀p,∀q∈aN g O ss p,q∈ss:=λp q h=>gK R h;refine{2,d,o,J,_,ss,n,rfl,M,hE,b,u,n6,λa j B s1 X r EF=>{a,1,r,λx=>?_}};have Y:a8 H (upd B a (.frz x (.dK (aR j)))):=λc oc e=>by rw[aa (a9 e X)];exact s1 _ _ e
 have f:Pn (upd B a (.frz x (.dK (aR j)))) (aN g O ss) n j (J.map (·.1)):={EF.ke,λm Z=>by
  let{ox,ex}:=EF.en m Z
  exact{ox,by rw[aa λz=>by rw[z,r]at ex;cases ex];exact ex}}
 have h2:(upd B a (.frz x (.dK (aR j)))) a=ρ (.frz x (.dK (aR j))):=a5;generalize upd B a _=H2 at Y f h2;refine⟨1,9,rfl,{1.0,1.0,1.0,1.0},ck (lo:=1) (n:=((9:Int)-1).toNat) (λi σ C=>a8 H2 C/\(∃(v4 v5:Option V),σ=[ρ (.ref d),ρ (.int many),ρ (.int (n:Int)),ρ (.ref a),v4,v5])/\∀(m:Int) (h:Str->Int),1<=m->m<1+(i:Int)->ji g O ss ls many n m h->(ls.map h).sum=0) {a8.refl _,⟨τ,τ,rfl⟩,λm h D q2=>1.0} ?_ ?_⟩
 .rintro i σ C hi ⟨t,⟨v4,v5,rfl⟩,lo⟩;have Zx:i<8:=hi;refine{3,a,x,j,_,_,ss,many,1+(i:Int),n,rfl,t _ _ h2,{f.ke,λm Z=>(f.en m Z).imp λ_ e=>t _ _ e},M.pm,b,u,hE,U,m8,1.0,1.0,λI w H4 s4 Zy h4 T fit=>?_};refine{.inr (.inr (.inl {rfl,.inl {_,h4}})),I,1,rfl,h4,λv hv=>?_};have h5:=a8.upd (o:=iw v I) hv _ _ h4;refine{v,I,1,a5,h5,λl hl=>?_};rw[sM];have s6:a8 H4 (upd (upd H4 v (iw v I)) l (.lst (((J.map (·.1)).map w).map V.int))):=(a8.upd hv).trans (a8.upd hl);refine{l,1,aG.of a5,?_};have G:=T.great fit U n1 1.0 R lv;have S:=T.sum fit U n1 R b lv;rw[yA (M.pm.map w),S];generalize upd (upd H4 v _) l _=H6 at s6;have LK:=(Y.trans t).trans (s4.trans s6);have pos:0<=(ls.map w).sum:=ml G.nn;refine{1,_,1,rfl,1,?_};refine rx (λr=>?_) (λr=>{t.trans (s4.trans s6),{_,1},λm h D q2 Gh=>?_})
  .have Px:(ls.map w).sum>0:=of_decide_eq_true r;refine{1,_,1,rfl,k _ H6 LK (λz=>{1+(i:Int),1.0,1.0,lo,.inr {w,G,of_decide_eq_true z}}) λz=>{w,{{1+(i:Int),1.0,1.0,G,lo},Px,?_}}};have:=of_decide_eq_false z;omega
  .by_cases z:m<1+(i:Int)
   .exact lo m h D z Gh
   .obtain rfl:m=1+(i:Int):=1.0;rw[oY Gh G];have:¬(ls.map w).sum>0:=λy=>r (decide_eq_true y);omega
 .rintro σ C ⟨t,⟨v4,v5,rfl⟩,lo⟩;exact k true C (Y.trans t) (λ_=>⟨9,1.0,1.0,λm h D q2=>lo m h D 1.0,.inl rfl⟩) λz=>nomatch z
end
end K70
namespace Sx
open PySem.Spec PyProof.Rows
section
variable{K:Á}{C CB D:Addr}{nm BC J6:Str}
theorem j5.ne(U:bA K C CB nm)(V:j5 K D CB BC)(h:¬nm=BC):C≠D:=λe=>by
 subst e
 let{q,N,bs,n,sub,ab,d,p,r,s,t,u,v,f}:=U.lk
 let{w,x,g,i,b,j,c,k,y,l,z,A,B,a}:=V.lk
 rw[f]at a;have:=congrArg (λo=>match o with |some (⟨_,_,.cls m,_⟩:Obj)=>m.name |_=>nm) a;exact h this
theorem j5.neT(V:j5 K D CB BC)(T:AH K CB J6)(h:¬BC=J6):D≠CB:=λe=>by
 subst e
 let{q,N,bs,p,sub,ab,d,r,s,t,u,v,w,f}:=V.lk
 let{x,y,g,i,j,b,k,c,l,z,m,A,B,C,a}:=T.lk
 rw[f]at a;have:=congrArg (λo=>match o with |some (⟨_,_,.cls n,_⟩:Obj)=>n.name |_=>BC) a;exact h this
theorem j5.cls(V:j5 K D CB BC):(clsIn K D).isSome=true/\typeIn K (.ref D)=ρ (.type "type"):=by grind [cases j5,K,typeIn,clsIn,Option.map]
theorem Dm(U:bA K C CB nm)(V:j5 K D CB BC)(T:AH K CB J6)(g:¬BC=J6)(e:¬nm=BC):kitOne K (.ref C) (.ref D)=ρ false:=by
 unfold kitOne;have ne:=j5.ne U V e;rw[if_neg (by grind)]
 let{q,N,bs,h,sub,ab,a,i,j,k,l,m,n,lk}:=U.lk
 let{b,c}:=V.cls
 unfold kitCls;dsimp only;rw[b,c,if_pos (by rfl)];unfold subIn mroIn clsIn;dsimp only;rw[lk];show ρ ((Æ C::p5 CB).contains (.ref D))=ρ false;have d:(Æ D==Æ C)=false:=by grind
 have f:(Æ D==Æ CB)=false:=by simpa using V.neT T g
 simp only[wh0,d,f,weT];rfl
end
end Sx
namespace Bs
structure Reach(lns:List (List (Str×Nat)))(rs:List Nat):Prop where
 cl:∀d∈rs,∀q∈lns.getD d [],q.2∈rs
 lt:∀d∈rs,d<lns.9
 ne:rs≠[]
 nd:rs.Nodup
theorem Dn{g:Str}{ws ss ls:List Str}{n:Nat}{many:Int}{f:Str->Int}{j:List Nat}(hn:∀p∈ls,0<=f p)(o:DG g ws ss ls many n f)(R:Reach (bz g ws ss ls n (aj ls f)) j) :
 DG g ws ss ls many n (cy (j.map λd=>(aj ls f).getD d "") f):=by
 intro p m
 by_cases h:p∈j.map λd=>(aj ls f).getD d ""
 .let{d,hd,rfl}:=Ç.mp h
  have b:=R.lt d hd;have c:d<(aj ls f).9:=by unfold bz at b;rwa[À]at b
  have k:(bz g ws ss ls n (aj ls f)).getD d []=fk g ws ss ls n (aj ls f) ((aj ls f).getD d ""):=by
   unfold bz;rw[Õ,È,Ä c,Õ,Ä c];rfl
  have e:eX g ws ss ls n (cy (j.map λd=>(aj ls f).getD d "") f) ((aj ls f).getD d "")=eX g ws ss ls n f ((aj ls f).getD d ""):=by
   unfold eX;refine congrArg Ř (ü λq i=>?_);unfold cy
   by_cases a:q.2∈j.map λd=>(aj ls f).getD d ""
   .rw[if_pos a]
   .rw[if_neg a]
    by_cases r:0<f q.2
    .exfalso;have l:q.2∈aj ls f:=Ý.mpr {cO i,decide_eq_true r}
     have s:(q.1,(aj ls f).idxOf q.2)∈(bz g ws ss ls n (aj ls f)).getD d []:=by
      rw[k];unfold fk;exact Ç.mpr {q,Ý.mpr {i,decide_eq_true l},rfl}
     have:=R.cl d hd _ s;refine a (Ç.mpr {_,this,?_});show (aj ls f).getD ((aj ls f).idxOf q.2) ""=q.2;rw[Õ,(oQ l).1];rfl
    .have:=hn _ (cO i)
     lia
  rw[e];unfold cy;rw[if_pos h];exact o _ m
 .have e:cy (j.map λd=>(aj ls f).getD d "") f p=0:=by unfold cy;rw[if_neg h]
  rw[e,wh1];unfold eX;exact ml λq i=>sW hn _ (cO i)
structure Gr(g:Str)(bw ss ls:List Str)(many:Int)(n:Nat)(f:Str->Int)(rg:List DF)(ks:List Nat)(hs:List Str)(ws:List Int)(lns:List (List (Str×Nat))):Prop where
 nn:∀p∈ls,0<=f p
 le:∀p∈ls,f p<=8
 fit:DG g bw ss ls many n f
 ps:0<(ls.map f).sum
 m:(ls.map f).sum<=40
 rn:Runs many (aj ls f) ((aj ls f).map f) (bz g bw ss ls n (aj ls f)) rg hs ws lns
 b:hO many hs ws lns
 cv:DE (aQ g bw ss ls n) hs lns
 ln:hs.9<=40
 ko:mC lns many ks
 ne:ks≠[]
 sl:rg.9<=40
 sb:∀p∈hs,p∈ls
structure Ob(many:Int)(n:Nat)(wl:List (List (Str×Nat))):Prop where
 ne:wl≠[]
 ln:∀l∈wl,(l.9:Int)=many
 e:∀l∈wl,∀q∈l,q.2<wl.9
 wd:∀l∈wl,∀q∈l,q.1.9=n
theorem BM{many:Int}{n:Nat}{wl:List (List (Str×Nat))}(g:Ob many n wl):∀(ts:List Nat) (s:Str×Nat),s.2<wl.9->(∀t∈ts,(t:Int)<many)->(ts.foldl (vD wl) s).2<wl.9/\(ts.foldl (vD wl) s).1.9=s.1.9+n*ts.9
 |[],s,h,_=>⟨h,rfl⟩
 |t::ts,s,h,c=>by
  have j:=c t (Ø ..);have hl:=á (kW h);have f:=g.ln _ hl;have d:=á (Cg (l:=wl.getD s.2 []) (t:=t) ())
  let{a,b}:=BM g ts (vD wl s t) (g.e _ hl ((wl.getD s.2 []).getD t ("",0)) d) λx i=>c x (Ô _ i)
  refine{a,?_};rw[Θ,b];show (s.1++_).9+_=_;rw[len_app,g.wd _ hl _ d,õ,Nat.mul_add,Nat.mul_one]
  lia
theorem Jd{many:Int}{n:Nat}{wl:List (List (Str×Nat))}(W:Ob many n wl){d:Nat}(hd:d<wl.9){ts:List Nat}(g:∀t∈ts,(t:Int)<many):(fL wl d ts).2<wl.9/\(fL wl d ts).1.9=n*ts.9:=by
 let{a,b}:=BM W ts ("",d) hd g
 refine{a,b.trans ?_};show 0+_=_
 lia
theorem Oc{many:Int}{n:Nat}{lns:List (List (Str×Nat))}{g:List Nat}(h:mC lns many g)(j:g≠[])(r:0<=many)(o:∀l∈lns,∀q∈l,q.1.9=n):Ob many n (qA lns g many.toNat):=by
 refine{λz=>j (wgI.mp z),λl hl=>?_,λl hl q a=>?_,λl hl q a=>?_}
 .let{d,hd,rfl}:=Ç.mp hl
  have:=(h.st d hd).2;unfold kQ;rw[À,Û]
  lia
 .let{d,hd,rfl}:=Ç.mp hl
  unfold kQ at a
  let{p,b,rfl}:=Ç.mp a
  have c:=of_decide_eq_true (Ý.mp ((ġ _ _).subset b)).2;unfold qA;rw[À];exact wfq.mpr c
 .let{d,hd,rfl}:=Ç.mp hl
  unfold kQ at a
  let{p,b,rfl}:=Ç.mp a
  have e:=(Ý.mp ((ġ _ _).subset b)).1;exact o _ (á (kW (h.st d hd).1)) p e
theorem Gs(B:aU C H j g bw ss ls)(I:H x=ρ (.ins J T fs))(hn:j≠x):aU C (eD H x) j g bw ss ls:=by
 let{{f,b,d,q,t,u,h,i,v,k,r},p,o,l}:=B
 have ne:∀{c:Addr} {o:HO},H c=ρ o->(∀a b e,o≠.ins a b e)->c≠x:=λe n z=>by grind
 exact{{f,b,d,q,t,f7 u hn,f7 h (ne h λ_ _ _ z=>by cases z),f7 i (ne i λ_ _ _ z=>by cases z),v,λm s=>f7 (k m s) (ne (k m s) λ_ _ _ z=>by cases z),f7 r (ne r λ_ _ _ z=>by cases z)},p,o,l}
end Bs
namespace L2
open PySem.Spec PyProof.Rows PySem.Calls
section
variable{X:Cx}
theorem Dp(hc:X.calm=true):d1 X (.builtin "sum") (λxs H Q=>∃v d kvs ns,xs=[.ref v]/\H v=ρ (iw v d)/\H d=ρ (.dK kvs)/\kvs.map (·.2)=Ĥ V.int ns/\Q (.int ns.sum) H):=by
 intro m s σ H xs U Q I r h
 let{v,d,kvs,ns,rfl,D,hd,hn,q}:=h
 let{u,rfl,E}:=vals1 r
 cases E
 let{Y,lo,c,rel,G}:=rN I.aT hd
 let{ep,f}:=G.dictAt
 let{a,_}:=(show bq X.prog X.w H s.heap v (iw v d) from I.aT v _ D)
 have J:=I.ok.hd hc
 have g:c.9=ns.9:=by
  have:=congrArg Ŋ hn;rw[À,À]at this;rw[<-rel.9];exact this
 have L:∀{kvs:List (Key×V)} {c:List (Key×Value)} {ns:List Int},KV kvs c->kvs.map (·.2)=ns.map V.int->∀(i:Nat) (k:Key) (x:Value),c[i]?=ρ (k,x)->∃t,x=.int (ns.getD i 0) t:=by
  intro kvs c ns r
  induction r generalizing ns with
  |nil=>intro _ i k x e;simp at e
  |@cons p q ps Z h t M=>
   intro e i k x j
   cases ns with
   |nil=>cases e
   |cons n ns=>
    rw[Ñ,Ñ]at e;injection e with N O
    cases i with
    |zero=>
     simp at j;have y:=h.2;rw[N,j]at y;exact y
    |succ i=>exact M O i k x (by simpa using j)
 have z:=wgU (prog:=X.prog) (w:=X.w) (r:=v) (d:=d) (knd:=b8 X.prog X.w) (kvs:=c) (ep:=ep);refine call_sum_walkAnyS ?_
 let{R,St,hit,S,st}:=z.iter X.A.in1 s J ⟨a,f⟩
 refine hit _ _ {s.8,_,_,_,c.9,_,_,λi=>ns.getD i 0,rfl,S.toS,st,λb l=>?_,λi x ⟨k,e⟩=>L rel hn i k x e,λB t' C=>?_}
 .show b<(s.heap.push R).objs.size;rw[size_push'];rcases æ.mp l with e |l
  .rw[e];exact ŀ _
  .rw[Ó.mp l];exact wdN (z.there _ ⟨a,f⟩).2
 .have hk:∀b o,s.heap.get? b=ρ o->B.heap.get? b=ρ o:=λb o e=>
   C.heap b o (λT=>absurd (Ë e) (by rw[Ó.mp T];exact þ _)) (Ð _ e)
  rw[Moved.eq_with C];refine{.int ns.sum,H,I.kept (t':=B.toks) hk,{t',?_},q};rw[g,pG]
theorem Dq(l:Addr)(items:Array Value)(n:Nat)(j:Option Addr)(sl:Array (Option Value))(t:Tok) :
 Meets (Ĩ.«enumerate.__new__» {[.type "enumerate",.ref l],JN t}) (λ_ R s=>s.heap.get? l=ρ {cls:=.type "list",dict:=j,data:=.seq items n,slots:=sl} /\
  R (.ok (.ret (.ref (s.8+1)))) {s with heap:=(s.heap.push {cls:=.type "list_iterator",data:=.fields #[.ref l,.int 0 0]}).push {cls:=.type "enumerate",data:=.fields #[.none,.bool false,.ref s.8,rawInt 1,.none,.none]}}):=
 .of_wp λprog w A R s h=>by
  let{a,g,d,i,os}:=s
  let{hl,h}:=h
  have b:(a.push {cls:=.type "list_iterator",data:=.fields #[.ref l,.int 0 0]}).7=a.7+1:=Ĝ ..;have e:=sub_enumerate;have f:Heap.IsList (Shared.heap ⟨a,g,d,i,os⟩) l items:={_,hl,rfl,n,rfl}
  wp_walk using wfQ hl
  refine wpAny_stack_any λst=>Í ?_;split
  .rename_i c _ _ _ _ _;cases(c==ŵ "enumerate")<;>(wp_walk using wfQ hl,υ f;exact{1,by rw[b];exact h})
  .wp_walk using wfQ hl,υ f
   exact{1,by rw[b];exact h}
theorem AW{P:É}{w:World}{K:Á}{r:List Expr}{k:Nat}{pos:Pos}(a e it:Addr)(g:e≠it)(J:a≠it):Turn P w K (.Tuple r k pos) (FD K a) [e,it] e (λi h=>(∃old,IsEnum h e it ((i+1:Nat):Int) old)/\h.IsListIter it a i) where
 mem:=by simp
 obj:=λi h st b n=>by
  let{{old,c},o,l,hc,hd}:=st
  rcases æ.mp n with z |n
  .exact{_,z ▸ c,λv q=>by
    have q':weJ _=wfM v:=q
    cases q'}
  .exact{o,Ó.mp n ▸ l,λv q=>by rw[hd]at q;cases q}
 keep:=λi h V st k=>{st.1.imp λold c=>k e (by simp) _ c,st.2.at λo q=>k it (by simp) o q}
 item:=by
  intro X G hw L hc i t s σ H E I M st N;subst G hw L
  let{xs,x,D,O}:=N
  let{d,Q,p,hz}:=I.list D
  let{u,Y,ru}:=Q.get O
  let{{old,c},hit}:=st
  have R:e≠a:=λz=>by
   let{o,l,S,_}:=p.isList
   have f:=c;rw[z]at f;rw[f]at l;cases l;have q:ŵ "enumerate"=.type "list":=S;injection q with q
   exact absurd q ⋯
  have X5:i<d.9:=(Ö.mp Y).1;refine wpAny_pyNext_enum_itemD (i:=i+1) (Aq (Draws.list (A:=X.A.in1) (I.ok.hd hc) it a J d.6)) c ⟨i,rfl,hit,p.isList⟩ (by rw[â];lia) g (by simp[g,R]) λy V tk m l T hT hsz hk=>?_
  let{Z,e1,m}:=m
  let{i2,e2,B,X6}:=T
  have e1:Z=i:=();have e2:i2=i+1:=();subst e1 e2
  have ey:y=u:=by
   rw[List.getElem?_toArray,Y]at m;exact(Î m).symm
  subst ey;refine{1,weX l λTl f j=>?_}
  let{_,U,_}:=id hit
  have C:e<s.8:=Ë c
  let{fr,I1,hn}:=rV (y:=.int ((Z+1:Nat):Int)) (tk+1) I M (λb o h q=>(j.2 b (C0 h).1).trans (hk b o (C0 h).1 (C0 h).2 q)) ((j.2 _ (Ķ C)).trans hT) {_,rfl} ru (MF C (Ë U))
  exact{.ref s.8,_,I1,rfl,{s.8,x,fr,rfl,rfl,λys m=>by rw[I.rM m D];exact O},{{y,by simpa using f},B.at λo q=>(j.2 it (è g)).trans q},hn}
 done:=by
   intro X G hw L hc i t s σ H E I M st N;subst G hw L
   let{xs,D,O}:=N
   let{d,Q,p,hz}:=I.list D
   have hl:=Q.9
   let{{old,c},hit}:=st
   let{g0,g1,g2,g3,g4,g5}:=M it (by simp)
   exact wpAny_pyNext_enum_endD (CY (A:=X.A.in1) (I.ok.hd hc) it a d.toArray i (wg1 (by simp;lia))) c ⟨rfl,hit,p.isList⟩ λV eb=>{rfl,I.turned (t':=s.toks) (λb o n e=>eb b o n e) g0 g1 g3 g4 g5}
 self:=λ_ _ _ _ _ st h=>let ⟨⟨_,c⟩,_⟩:=st;wdO c h
end
section
variable{prog:É}{w:World}{A:Around}{E:Value->Shared->Prop}{s:Shared}{X:Cx}
theorem AX{Q:Value->Shared->Prop}(C:s.heap.IsList l items)
 (h:∀h',IsEnum h' (s.8+1) s.heap.objs.size 1 .none->h'.IsListIter s.heap.objs.size l 0->(∀b o,s.heap.get? b=ρ o->h'.get? b=ρ o)->Q (.ref (s.8+1)) {s with heap:=h'}) :
 wpAny (model prog w) A (call (.type "enumerate") [.ref l] (JN t)) Q E s:=by
 let{{c,f,x,sl},hl,hc,n,hd}:=C
 have y:c=.type "list":=hc;have z:x=.seq items n:=hd;subst y z;have B:(s.heap.push {cls:=.type "list_iterator",data:=.fields #[.ref l,.int 0 0]}).7=s.8+1:=Ĝ ..;have a:=weP
 let{c,J,k}:=a.mro
 have g:=a.made;have m:=a.sub;have L:=a.notType;have M:=a.canCreate;have D:=FA l t;refine đ (wfO (show wpAny _ _ (callAny (.type "enumerate") _) _ _ _ from Í {wdG _ ∅,Ĭ wgp ?_}));rw[wgW (wgc "enumerate" [.ref l] (JN t)) (units_type_call_type "enumerate" [.ref l] (JN t))]
 repeat (any_goals (first |assumption |wp_step))
 have p:((s.heap.push {cls:=.type "list_iterator",data:=.fields #[.ref l,.int 0 0]}).push {cls:=.type "enumerate",data:=.fields #[.none,.bool false,.ref s.8,rawInt 1,.none,.none]}).get? (s.8+1)=ρ {cls:=.type "enumerate",data:=.fields #[.none,.bool false,.ref s.8,rawInt 1,.none,.none]}:=by
  rw[<-B];exact ã _ rfl
 refine ē (Ů a.plain F.entry_enumerate_new (whk (FC l t) ((Dq l items n f sl t) prog w A.in1 (wants (λv i=>v=.ref (s.8+1)/\i={s with heap:=(s.heap.push {cls:=.type "list_iterator",data:=.fields #[.ref l,.int 0 0]}).push {cls:=.type "enumerate",data:=.fields #[.none,.bool false,.ref s.8,rawInt 1,.none,.none]}}) E) s ⟨hl,rfl,rfl⟩))) λr q j=>?_
 cases r with
 |error e=>exact j
 |ok fl=>
  cases fl with
  |ret obj=>
   let{rfl,rfl}:=j
   have u:whN {s with heap:=(s.heap.push {cls:=.type "list_iterator",data:=.fields #[.ref l,.int 0 0]}).push {cls:=.type "enumerate",data:=.fields #[.none,.bool false,.ref s.8,rawInt 1,.none,.none]}} (.ref (s.8+1)) "enumerate":={_,p,rfl};have G:=a.init.lookup;have H:=a.init.bind (.ref (s.8+1));have N:=h _ p {_,Ð _ (ã _ rfl),rfl,rfl} λb o e=>Ð _ (Ð _ e)
   repeat (any_goals (first |assumption |wp_step))
   refine ē (Ů a.init.plain F.entry_object_init (a.init.check _ _ _ _ _ _ _ _ u (Ap _ l t) ((AB (s.8+1) l t) prog w A.in1 (wants (λv i=>v=.none/\i={s with heap:=(s.heap.push {cls:=.type "list_iterator",data:=.fields #[.ref l,.int 0 0]}).push {cls:=.type "enumerate",data:=.fields #[.none,.bool false,.ref s.8,rawInt 1,.none,.none]}}) E) _ ⟨u,rfl,rfl⟩))) λI O d=>?_
   cases I with
   |error e=>exact d
   |ok M7=>
    cases M7 with
    |ret r=>
     let{rfl,rfl}:=d
     repeat (any_goals (first |assumption |wp_step))
    |_=>exact d.elim
  |_=>exact j.elim
theorem Gu{g:List Expr}{k j:Nat}{o:Pos}{l:Expr}{C:TA}{p J kp pos:Pos}(T:Gl X "enumerate")(U:X.mg "enumerate"=τ)(ha:PA X [l] C)(hs:starEach [l] X.5=[(false,eval l X.5)]:=by rfl) :
 PI X (.Tuple g k o) (.Call (.Name "enumerate" p) [l] [{ρ "start",.Constant (.int 1) j J,kp}] pos) (Li X.K C):=by
 refine{?_};intro c s σ H R I h;refine ģ (gA I T U je ?_ ⋯ ⋯);refine xf (by rw[hs];rfl) rfl ?_
 have w:backTo pos (starEach [l] X.5)=(false,(backTo pos (starEach [l] X.5)).head (by rw[hs];exact λz=>nomatch z) |>.2)::[]:=by
  simp only[hs];rfl
 rw[w];refine evalArgs_kwB rfl ?_;rw[<-w];refine bG (ha pos c s σ H _ I h) λus E ⟨vs,A,G,L,M⟩=>?_;refine wed (bG (ag (X:=X) (i:=1) c E σ A (λx m=>x=.int 1/\m=A) G ⟨rfl,rfl⟩) λv d ⟨y,m,n,N,O,Q⟩=>weu ?_);subst O Q
 let{t,rfl}:=N
 let{a,xs,e,S,q}:=M
 subst e
 let{u,rfl,V}:=vals1 L
 cases V
 let{Y,rv,pl,hz}:=n.list S
 refine AX pl.isList λZ B hit kp=>wdO B ?_;have I3:Inv X c σ m {d with heap:=Z}:=n.kept (t':=d.toks) kp;have r:a<d.8:=let ⟨_,ho,_⟩:=pl.isList;Ë ho
 refine{d.8+1,[d.8+1,d.8],_,_,m,rfl,I3,AW a _ _ (Ķ (ŀ _)) (Ù r),{{_,B},hit},λb D=>?_,q}
 have f:d.8<=b:=by
  rcases æ.mp D with rfl |D
  .grind
  .grind
 exact n.xR f (n.aT.fresh f)
end
section
variable{prog:É}{w:World}{A:Around}{E:Value->Shared->Prop}{s:Shared}{l:Addr}{vs:List Value}{Q:Value->Shared->Prop}
theorem Je(kf:Nat->Int)(hh:A.handled=τ)(hl:s.heap.IsList l vs.6)(Cd:0<vs.9)
 (turn:∀(i:Nat) (v:Value),vs[i]?=ρ v->∃p items,v=.ref p/\s.heap.IsList p items/\(items.size:Int)=kf i/\(items.size:Int)<2^63)
 (hQ:∀(v:Value) (h':Heap) (AD:Nat),v∈vs->(∀b o,s.heap.get? b=ρ o->h'.get? b=ρ o)->Q v {s with heap:=h',toks:=AD}) :
 wpAny (model prog w) A (call (.builtin "min") [.ref l] [(į "key",.builtin "len")]) Q E s:=by
 have yP:(toString "min"++toString ".loop":String)="min.loop":=⋯;have AF:l<s.8:=let ⟨o,ho,_⟩:=hl;Ë ho
 refine whK PySem.F.kind_min PySem.F.plain_min PySem.F.entry_min (kmk_min_key _ _) ?_;show wpAny _ A.in1 (wcu "min" ["key","default"] 0 {[],[(į "key",.builtin "len")]} >>= _) _ _ s;refine Â (whk (show wcu "min" ["key","default"] 0 {[],[(į "key",.builtin "len")]}=pure [ρ (.builtin "len"),τ] from rfl) ?_);refine Â (Í ?_);refine Â (υ hl ?_);refine Â (wpAny_newList ?_ (à _));rw[yP];have hS:(s.heap.push {cls:=.type "list_iterator",data:=.fields #[.ref l,.int 0 0]}).7=s.8+1:=size_push' ..;have O1:l≠s.8:=Ù AF;have Lr:(s.heap.push {cls:=.type "list_iterator",data:=.fields #[.ref l,.int 0 0]}).objs.size≠s.8:=by rw[hS];exact Ķ (ŀ _)
 refine Í {Ľ ţ _,?_}
 have gI:((s.heap.push {cls:=.type "list_iterator",data:=.fields #[.ref l,.int 0 0]}).push (seqObj "list" #[] 0)).get? s.8=ρ {cls:=.type "list_iterator",data:=.fields #[.ref l,.int 0 0]}:=
  Ð _ (ã _ rfl)
 have gS:((s.heap.push {cls:=.type "list_iterator",data:=.fields #[.ref l,.int 0 0]}).push (seqObj "list" #[] 0)).get? (s.heap.push {cls:=.type "list_iterator",data:=.fields #[.ref l,.int 0 0]}).7=ρ (seqObj "list" #[] 0):=ã _ rfl;have JS:∀b o,s.heap.get? b=ρ o->((s.heap.push {cls:=.type "list_iterator",data:=.fields #[.ref l,.int 0 0]}).push (seqObj "list" #[] 0)).get? b=ρ o:=λb o e=>Ð _ (Ð _ e)
 have old:∀{b:Addr} {o:Obj},s.heap.get? b=ρ o->b≠s.8+1/\b≠s.8:=λ{b o} e=>by
  have hb:b<s.8:=Ë e;exact{Ù (wdN hb),Ù hb}
 have W:=Δ (prog:=prog) (w:=w) (A:=A.in1) hh s.heap.objs.size l O1 vs.6;have hsz:vs.toArray.size=vs.9:=â ..;refine Ĭ wdV ?_;rw[Ņ ţ _];show wpAny _ A.in1 (Ţ (.ref _) >>= _) _ _ _;refine Â (š gS rfl ?_);show wpAny _ A.in1 (tryCatch (pyNext (.ref s.8)) _ >>= _) _ _ _;refine Â (ĝ (W.item 0 _ _ _ (by rw[hsz];exact Cd) {{_,gI,rfl,rfl},fM hl JS} λv h' AD hP IZ GO=>?_));have hv:vs[0]?=ρ v:=by simpa using hP
 have vS:∀b o,s.heap.get? b=ρ o->h'.get? b=ρ o:=λb o e=>GO b o (by simpa using(old e).2) (JS b o e);have M8:=GO _ _ (by simpa using Lr) gS
 let{p,items,rfl,hp,Rc,D0}:=turn 0 v hv
 show wpAny _ A.in1 (tryCatch (holding [Æ p] (call (.builtin "len") [.ref p])) _ >>= _) _ _ _;refine Â (ĝ (ö (wey (fM hp vS) D0 ?_)));rw[Rc];have s1:=weC h' (s.heap.push {cls:=.type "list_iterator",data:=.fields #[.ref l,.int 0 0]}).objs.size (Ĺ λ_=>#[Æ p,.int (kf 0) (AD+1)]);obtain⟨c2,Rf⟩:∃c2,(h'.update (s.heap.push {cls:=.type "list_iterator",data:=.fields #[.ref l,.int 0 0]}).objs.size (Ĺ λ_=>#[Æ p,.int (kf 0) (AD+1)])).get? (s.heap.push {cls:=.type "list_iterator",data:=.fields #[.ref l,.int 0 0]}).7=ρ (seqObj "list" #[Æ p,.int (kf 0) (AD+1)] c2):={_,get?_update_seq M8 λ_=>#[Æ p,.int (kf 0) (AD+1)]};show wpAny _ A.in1 (wgZ (s.heap.push {cls:=.type "list_iterator",data:=.fields #[.ref l,.int 0 0]}).objs.size (λ_=>#[Æ p,.int (kf 0) (AD+1)]) >>= _) _ _ _;refine Â ?_;refine Ż M8 rfl ?_;rw[yP]
 let{Rg,Lv,Rh}:=id IZ.1
 refine Í {Ľ ţ _,xg kf hh hl rfl Lr (by rw[hS];exact ı _) turn hQ _ 0 0 _ _ _ _ c2 rfl Cd (λb o e=>(s1.2 b (by rw[hS];exact(old e).1)).trans (vS b o e)) Rf {Rg,(s1.2 _ Lr.symm).trans Lv,Rh} hv}
end
section
variable{X:Cx}{e:Expr}{t:TA}{p p2 kp pos:Pos}
theorem Jf(hc:X.calm=true)(C:Gl X "min")(J:X.mg "min"=τ)(l:Gl X "len")(o:X.mg "len"=τ)(ha:PA X [e] t)(hs:starEach [e] X.5=[(false,eval e X.5)]:=by rfl):PE X (.Call (.Name "min" p) [e] [{ρ "key",.Name "len" p2,kp}] pos) (NX X.K t):=by
 refine{?_};intro f s σ H Q I h;refine ģ (gA I C J (show é "min"=ρ (.builtin "min") from Sx.HW) ?_ ⋯ ⋯);refine wfs (bG (ha pos f s σ H _ I h) λR A ⟨S,B,g,D,E⟩=>?_) (by rw[hs];rfl) (by rw[hs];rfl);refine wed (gA g l o (show é "len"=ρ (.builtin "len") from Ρ) (weu ?_) ⋯ ⋯)
 let{a,ps,rfl,G,m,n,q}:=E
 let{u,rfl,L}:=vals1 D
 cases L
 let{b,k,pl,y}:=g.list G
 have hl:b.9=ps.9:=by have:=k.9;rw[À]at this;exact this.symm
 have j:∀{ps:List Addr} {b:List Value},Vals (ps.map V.ref) b->b=ps.map Æ:=by
  intro ps
  induction ps with
  |nil=>intro b r;cases r;rfl
  |cons x ps M=>
   intro b r
   cases r with
   |cons h t=>rw[M t];cases h;rfl
 have e:=j k;subst e
 have sz:∀q∈ps,∃b:List Value,A.heap.IsList q b.6/\b.9<=sizeLine:=λq c=>by
  let{T,N}:=n q c
  let{b,k,pl,y}:=g.list N
  exact{b,pl.isList,by rw[<-k.9];exact y}
 have hn:=m6;refine Je (kf:=λi=>match ps[i]? with |some q=>if c:q∈ps then((whw (sz q c)).9:Int) else 0 |none=>0) (g.ok.hd hc) pl.isList (by rw[À];cases ps with |nil=>exact absurd rfl m |cons _ _=>exact Nat.succ_pos _) (λi v d=>?_) λv U w d hk=>?_
 .rw[È]at d
  cases e:ps[i]? with
  |none=>rw[e]at d;cases d
  |some q=>
   rw[e]at d;cases d;have c:q∈ps:=á e
   let{O,Y}:=Classical.choose_spec (sz q c)
   refine{q,1,O,?_,?_}
   .show _=if c:q∈ps then _ else _
    rw[dif_pos c,â]
   .rw[â]
    lia
 .let{z,c,rfl}:=Ç.mp d
  exact{.ref z,B,g.kept (t':=w) hk,rfl,q z c}
end
end L2
namespace L2
open PySem.Spec PyProof.Rows
section
variable{X:Cx}{tg:Expr}
theorem AY{g:List (Addr×Obj)}{σ:St}{H:Hp}{s:Shared}{R:It->Hp->Prop}{E:Value->Shared->Prop}{lo hi:Int}{t u v:Tok}(I:Inv X g σ H s)(j:0<=lo)(l:lo<=1000000)(p:0<=hi)(r:hi<=1000000)
 (q:R (Hn lo (-1) (lo-hi).toNat) H):wpAny (model X.prog X.w) X.A (pyIter (.ref s.8)) (N1 X g σ tg R) E {s with heap:=s.heap.push {cls:=.type "range",data:=.fields #[.int lo t,.int hi u,.int (-1) v]}}:=by
 have a:wgJ lo hi (-1)=true:=by
  unfold wgJ;rw[uW];simp only[Builtin.Range.rangeFitsLong,Ď,whB,decide_eq_true_eq,beq_iff_eq,show ¬((-1:Int)>0) by decide,if_false]
  lia
 refine wpAny_pyIter_range (whO ..) a ?_;have c:Inv X g σ H {s with heap:=s.heap.push {cls:=.type "range",data:=.fields #[.int lo t,.int hi u,.int (-1) v]}}:=I.kept (t':=s.toks) λb o e=>Ð _ e
 refine{(s.heap.push {cls:=.type "range",data:=.fields #[.int lo t,.int hi u,.int (-1) v]}).7,[(s.heap.push {cls:=.type "range",data:=.fields #[.int lo t,.int hi u,.int (-1) v]}).7],_,_,H,rfl,
  c.kept (t':=s.toks) λb o e=>Ð _ e,xZ _ lo (-1) (lo-hi).toNat,?_,λb d=>?_,q}
 .have f:lo+((0:Nat):Int)*(-1)=lo:=by simp
  have h:(((lo-hi).toNat:Nat):Int)-((0:Nat):Int)=wcS lo hi (-1):=by rw[uW];simp
  show wfW _ _ (lo+((0:Nat):Int)*(-1)) ((((lo-hi).toNat:Nat):Int)-((0:Nat):Int)) (-1);rw[f,h];exact ã _ rfl
 .have e:b=(s.heap.push {cls:=.type "range",data:=.fields #[.int lo t,.int hi u,.int (-1) v]}).7:=by simpa using d
  subst e;exact c.xR (Å _) (c.aT.fresh (Å _))
theorem Dr(o:Gl X "range")(C:X.mg "range"=τ)(ha:PA X [a,b,c] J)(hs:starEach [a,b,c] X.5=[(false,eval a X.5),(false,eval b X.5),(false,eval c X.5)]:=by rfl)(g:starEach [b,c] X.5=[(false,eval b X.5),(false,eval c X.5)]:=by rfl) :
 PI X tg (.Call (.Name "range" p) [a,b,c] [] pos) (MJ J):=by
 refine{?_};intro d s σ H R I h;refine Call_ (gA I o C boot_range (Ξ (bG (ha pos d s σ H _ I h) λz A ⟨B,D,m,n,k⟩=>?_) (by rw[hs,g]) (by rw[g];rfl)))
 let{i,j,e,{k,u,v,w},q}:=k
 subst e
 cases n with
 |cons r f=>
  cases f with
  |cons x f=>
   cases f with
   |cons l f=>
    cases f
    let{t,rfl}:=r
    let{E,rfl}:=x
    let{y,rfl}:=l
    exact call_range_3 () (AY m k u v w q) (.inl (wfZ ()))
theorem Ds{K:Á}(J:X.K=K):Hy X "list.index" (λx xs H Q=>∃l g k i,x=.ref l/\xs=[.str k]/\aG K H l (Ĥ V.str g)/\g.9<=1000/\g[i]?=ρ k/\(∀j:Nat,j<i->g[j]?≠ρ k)/\Q (.int (i:Nat)) H):=by
 subst J;intro A s σ H x xs v Y Q I E G h
 let{l,g,k,i,rfl,rfl,L,M,hi,f,q}:=h
 cases E
 let{u,rfl,N,rfl}:=G.one
 let{a,B,pl,Z}:=I.list L
 let{{cls,O,data,sl},C,hc,n,hd}:=pl.isList
 simp only at hc hd;subst hc hd;have c:=B.9;rw[À]at c;have R:i<g.9:=(Ö.mp hi).1
 have at_:∀m (b:m<a.9),∃t,a[m]=.str (g[m]'1.0) t:=λm b=>by
  let{w,D,S}:=B.get (i:=m) (x:=.str (g[m]'1.0)) (by rw[È,Ä 1.0];rfl)
  rw[Ä b]at D
  let{t,rfl}:=S
  exact{t,Î D}
 refine ż wcU {_,C,rfl} wft (wfh _ _)
  (wfu l a.toArray n O sl (.str k N) (λw=>match w with |.str z _=>z==k |_=>false) i (by simp;omega) 1.0 ?_ ?_) {C,λy T=>?_,?_}
 .let{t,e}:=at_ i 1.0
  have U:g[i]=k:=(Ö.mp hi).2;simp only[wdo];rw[e,U];simp
 .intro m b o;have p:m<a.9:=by simpa using b
  let{t,e}:=at_ m p
  simp only[wdo];rw[e];have d:=f m o;rw[Ä 1.0]at d;simp only[beq_eq_false_iff_ne,ne_eq];exact λz=>d (by rw[z])
 .have r:y∈a:=by simpa using T
  let{m,b,rfl}:=Ŗ r
  let{t,e}:=at_ m b
  rw[e];exact wga _ _ _ _
 .exact{.int (i:Nat),H,I.tok _,{_,rfl},q}
theorem Dt{K:Á}(J:X.K=K):Hy X "list.index" (λx xs H Q=>∃l g k i,x=.ref l/\xs=[.int k]/\aG K H l (Ĥ V.int g)/\g.9<=1000/\g[i]?=ρ k/\(∀j:Nat,j<i->g[j]?≠ρ k)/\Q (.int (i:Nat)) H):=by
 subst J;intro B s σ H x xs v Z Q I G L h
 let{l,g,k,i,rfl,rfl,M,N,hi,o,q}:=h
 cases G
 let{u,rfl,O,rfl}:=L.one
 let{a,C,pl,hz}:=I.list M
 let{{cls,R,data,sl},D,hc,n,hd}:=pl.isList
 simp only at hc hd;subst hc hd;have d:=C.9;rw[À]at d;have S:i<g.9:=(Ö.mp hi).1
 have b:∀m (c:m<a.9),∃t,a[m]=.int (g[m]'1.0) t:=λm c=>by
  let{w,E,T}:=C.get (i:=m) (x:=.int (g[m]'1.0)) (by rw[È,Ä 1.0];rfl)
  rw[Ä c]at E
  let{t,rfl}:=T
  exact{t,Î E}
 refine ż wcU {_,D,rfl} wft (wfh _ _)
  (wfu l a.toArray n R sl (.int k O) (λw=>match w with |.int z _=>z==k |_=>false) i (by simp;omega) 1.0 ?_ ?_) {D,λy U=>?_,?_}
 .let{t,e}:=b i 1.0
  have Y:g[i]=k:=(Ö.mp hi).2;simp only[wdo];rw[e,Y];simp
 .intro m c p;have r:m<a.9:=by simpa using c
  let{t,e}:=b m r
  simp only[wdo];rw[e];have f:=o m p;rw[Ä 1.0]at f;simp only[beq_eq_false_iff_ne,ne_eq];exact λz=>f (by rw[z])
 .have A:y∈a:=by simpa using U
  let{m,c,rfl}:=Ŗ A
  let{t,e}:=b m c
  rw[e];exact wg9 _ _ _ _
 .exact{.int (i:Nat),H,I.tok _,{_,rfl},q}
end
section
variable{X:Cx}{e o:Expr}{es:List Expr}{ta:TE}{t:TA}{pos apos:Pos}{C f:Addr}{q:Str}{st:Stmt}{ps:List Str}{k:Nat}{sp:Sp}
theorem AZ{m:Str}{fd:ì}{pl:Sem Bool}(he:PE X o ta)(c:zm X.K C)(g:eA X.K C m q st ps f fd)(F:aP X.prog X.w X.K X.mg X.base cI k f fd ps sp)(l:cG k X.A:=by exact cG.mono (by assumption) ⋯)
 (r:eval (.Call (.Attribute o m apos) [] [] pos) X.5=(do
   let j <-eval o X.5
   standAt apos.atName
   let (f,first) <-holding [j] (Ŧ j m pl)
   callWith pos f first (backTo pos (starEach [] X.5)) (backToKw pos (Ń [] X.5))):=by rfl) :
 PE X (.Call (.Attribute o m apos) [] [] pos) (B9 C m sp [] E0 ta wo):=EE he c g.m F l g.b .nil mU r
theorem Od{m:Str}{fd:ì}{pl:Sem Bool}(he:PE X o ta)(c:zm X.K C)(j:eA X.K C m q st ps f fd)(F:aP X.prog X.w X.K X.mg X.base cI k f fd ps sp)(ha:PA X (e::es) t)(r:cG k X.A:=by exact cG.mono (by assumption) ⋯)
 (g:starEach (e::es) X.5=(false,eval e X.5)::starEach es X.5:=by rfl) (hpl:(backTo pos (starEach es X.5)).any (·.1)=false:=by rfl)
 (I:eval (.Call (.Attribute o m apos) (e::es) [] pos) X.5=(do
   let l <-eval o X.5
   standAt apos.atName
   let (f,first) <-holding [l] (Ŧ l m pl)
   callWith pos f first (backTo pos (starEach (e::es) X.5)) (backToKw pos (Ń [] X.5))):=by rfl) :
 PE X (.Call (.Attribute o m apos) (e::es) [] pos) (B9 C m sp [] E0 ta t):=HN he c j.m F r j.b .nil mU ha g hpl I
end
end L2
namespace K70
section
variable{P:É}{w:World}{K:Á}{mg:Str->Option Value}{base:Heap}
theorem iO(L:Lk K mg):aP P w K mg base cI 4 L.fU L.jq ["self","signs","barred"] (Lf K L.aA):=by
 have T:=L.T;refine L.fV.F.dC (N:=["self","signs","barred","places","place"]) (λeZ A outer s H vs Q E nd hr h=>?_)
 let{x,t,g,a,ws,rfl,hx,hS,sg,hl,hw,k}:=h
 have Z:∀w∈ws,w.9<=5:=λw h=>(hw w h).hi;have hu:=dG hr
 refine{_,(a6 (bg (dH (bF (ai (xo L) L.qh (aC (1))))) gf aI)
  (a6 (bo (ai (qE L) L.kB (a7 (2) (aC (1)))))
  (a6 (cM (0) (1) rfl)
  (a6 (cM (0) (bB dk (by rfl) T.list iF (aC (2))) rfl)
  (a6 (cM (0) cp rfl)
  (a6 (af (i:=3) (ai (p9 L) L.jt (aC (2))))
  (a6 (forA (aL (3)) (au (i:=4)) (ae (cu hu (aW (0) rfl) (4) (ai (uz L) L.oj (a7 (4) (a7 (1) (a7 (2) (aC (3)))))) rfl)))
  (ae (cM (0) (ai (uB L) L.oo (aC (aW (0) rfl))) rfl))))))))),?_}
 ac_rfl
 refine{1,g,rfl,sg,λH1 s1=>{true,rfl,bW ?_}};refine{2,a,g,ws,rfl,s1.seq hS,hl,hw,λH2 s2=>?_};have D:a8 H H2:=s1.trans s2;have X7:=D _ _ hx;refine{2,x,L.aA,t,1,X7,L.aJ.cl,L.aJ.qY,⋯,?_};rw[KS];have Oe:∀(o:HO) b ob,H b=ρ ob->b≠x->(upd H2 x o) b=ρ ob:=λo b ob e hb=>by rw[aa hb];exact D _ _ e
 have G:∀{H':Hp} (h:∀b o,H b=ρ o->b≠x->H' b=ρ o),aG K H' a (ws.map V.str):=λ{H'} h=>by
  have TY:∀o,H a=ρ o->(∀fs,o≠.ins L.aA t fs)->a≠x:=λo e ne z=>by
   subst z;rw[hx]at e;exact ne [] (Î e).symm
  rcases hS with(e |⟨o,e⟩) |e
  .exact .inl (.inl (h _ _ e (TY _ e (λ_ z=>by cases z))))
  .exact .inl (.inr {o,h _ _ e (TY _ e (λ_ z=>by cases z))})
  .exact .inr e
 refine{1,a,1,.inl (G (Oe _)),λb hb=>?_};have v:x≠b:=a9 a5 hb;have Rx:H2 b=τ:=by rw[aa v.symm]at hb;exact hb
 refine{1,x,L.aA,t,Ph g,rfl,by rw[aa v,a5],L.aJ.cl,L.aJ.yq,(show 1<1000 by decide),?_};rw[put2];intro d hd;have r:x≠d:=a9 a5 hd
 have Of:b≠d:=by
  intro z;subst z;rw[aa v.symm,a5]at hd;cases hd
 have I:H2 d=τ:=by rw[aa r.symm,aa Of.symm,aa r.symm]at hd;exact hd
 refine{1,x,L.aA,t,M7 g b,rfl,by rw[aa r,a5],L.aJ.cl,L.aJ.kX,(show 2<1000 by decide),?_};rw[put3];generalize J:upd (upd (upd (upd (upd H2 x (.ins L.aA t (Ph g))) b (.lst (ws.map V.str))) x (.ins L.aA t (M7 g b))) d (.dK [])) x (.ins L.aA t (KR g b d))=H3;have x3:H3 x=ρ (.ins L.aA t (KR g b d)):=by rw[<-J,a5]
 have d3:H3 d=ρ (.dK []):=by rw[<-J,aa r.symm,a5]
 have b3:H3 b=ρ (.lst (ws.map V.str)):=by rw[<-J,aa v.symm,aa Of,aa v.symm,a5]
 have k3:∀c o,H c=ρ o->c≠x->H3 c=ρ o:=λc o e hc=>by
  have e2:=D _ _ e;rw[<-J,aa hc,aa (a9 e2 I),aa hc,aa (a9 e2 Rx),aa hc];exact e2
 clear J;refine{1,a,ws,rfl,G k3,hl,Z,λl ss H4 s4 R h4 hp X8=>?_};have GV:ss.Nodup:=hp.nodup_iff.mpr (hU ws);have zb:ss.9<=25:=by have:=gj (ws:=ws) (e:="") (us:=ws) Z;rw[hp.length_eq];lia
 have Og:∀p∈ss,p.9<=5:=λp xF=>CC Z p (hp.mem_iff.mp xF);have Ry:("":Str)∈ss:=hp.mem_iff.mpr (bj ws);have Py:l≠d:=λz=>by rw[z,d3]at R;cases R
 have Zz:l≠x:=λz=>by rw[z,x3]at R;cases R
 refine{1,l,rfl,{_,aG.of h4},dN (K:=K) (a:=l) (xs:=ss.map V.str) (λi σ S=>∃v4 B,σ=[ρ (.ref x),ρ (.str g),ρ (.ref a),ρ (.ref l),v4]/\S d=ρ (.dK (aR B))/\B.map (·.1)=ss.take i/\(∀m∈B,S m.2=ρ (.dK (rowOf g ws ss m.1)))/\(∀m∈B,H4 m.2=τ)/\(∀c o,H4 c=ρ o->c≠d->S c=ρ o))
  {τ,[],rfl,s4 _ _ d3,rfl,λm u=>(nomatch u),λm u=>(nomatch u),λc o e _=>e} (λi σ S _ {_,_,_,_,_,_,_,M}=>aG.of (M _ _ h4 Py)) ?_ ?_}
 .rintro i y σ S hy ⟨v4,B,rfl,C,n,f,MU,M⟩
  obtain⟨p,U,rfl⟩:∃p,ss[i]?=ρ p/\y=.str p:=by
   rw[È]at hy
   cases e:ss[i]? with
   |none=>rw[e]at hy;cases hy
   |some z=>rw[e]at hy;exact{z,rfl,(Î hy).symm}
  have hi:i<ss.9:=(Ö.mp U).1;have xF:p∈ss:=á U
  have k5:∀c o,H c=ρ o->c≠x->S c=ρ o:=λc o e hc=>M _ _ (s4 _ _ (k3 c o e hc)) (λz=>by
   subst z;have:=D _ _ e
   rw[I]at this;cases this)
  have x5:S x=ρ (.ins L.aA t (KR g b d)):=M _ _ (s4 _ _ x3) r;refine{4,p,g,a,l,ws,ss,rfl,G k5,aG.of (M _ _ h4 Py),Ry,by have:=Og p xF;lia,by have:=sg.hi;lia,sg.nd,(),λe H6 O X h6=>?_};have d6:=O _ _ C
  have AV:p∉B.map (·.1):=by
   rw[n];intro u
   let{j,hj,ej}:=wer.mp u
   rw[wf9]at ej;rw[Û]at hj;have e1:ss[i]=p:=(Ö.mp U).2;have:=(wdg GV).mp (ej.trans e1.symm)
   lia
  have Y:B.9<=25:=by have:=congrArg Ŋ n;rw[À,Û]at this;lia
  refine{1,x,L.aA,t,_,1,O _ _ x5,L.aJ.cl,L.aJ.kX,jS g b d,1,d,1,gX.k (k:=Ã p) d6 (by unfold aR;rw[À];exact aS ()),?_};have Md:e≠d:=λz=>by rw[z,C]at X;cases X
  have e4:H4 e=τ:=by
   cases q:H4 e with
   |none=>rfl
   |some o=>
    have:=M _ _ q Md;rw[this]at X;cases X
  refine{_,B++[(p,e)],rfl,?_,?_,?_,?_,?_}
  .rw[a5,cR _ (fb AV)];unfold aR;rw[Ò];rfl
  .rw[Ò,n];have:ss.take (i+1)=ss.take i++[p]:=by rw[Ć,U];rfl
   rw[this];rfl
  .intro m u;rcases Ú.mp u with z |z
   .have nm:m.2≠d:=λq=>by
     have:=f m z;rw[q,C]at this;have:=MU m z;rw[q]at this;rw[s4 _ _ d3]at this;cases this
    rw[aa nm];exact O _ _ (f m z)
   .have:m=(p,e):=by simpa using z
    subst this;rw[aa Md];exact h6
  .intro m u;rcases Ú.mp u with z |z
   .exact MU m z
   .have:m=(p,e):=by simpa using z
    subst this;exact e4
  .intro c o hc TZ;rw[aa TZ];exact O _ _ (M c o hc TZ)
 .rintro σ S ⟨v4,B,rfl,C,n,f,MU,M⟩;rw[À,ä]at n;have x5:S x=ρ (.ins L.aA t (KR g b d)):=M _ _ (s4 _ _ x3) r;have Y:B.9<=1000:=by have:=congrArg Ŋ n;rw[À]at this;lia
  refine{1,x,L.aA,t,_,1,x5,L.aJ.cl,L.aJ.kX,jS g b d,d,B,rowOf g ws ss,rfl,C,Y,f,λkx=>Ai g ws ss kx,λkx=>by rw[Ct];have:=sg.hi;lia,λq ls H6 O hq h6 lv=>?_};refine{1,x,L.aA,t,1,O _ _ x5,L.aJ.cl,L.aJ.oX,(show 3<1000 by decide),?_};rw[Ci];have Rz:q≠x:=λz=>by rw[z,x5]at hq;cases hq
  have Tz:∀m∈B,m.2≠x:=λm u z=>by
   have:=f m u;rw[z,x5]at this;cases this
  refine k ss ls _ {{t,b,d,q,B,a5,?_,?_,n,λm u=>?_,?_},hp,X8,by rw[n]at lv;exact lv} λc o e hc=>?_
  .rw[aa v.symm];exact O _ _ (M _ _ (s4 _ _ b3) Of)
  .rw[aa r.symm];exact O _ _ C
  .rw[aa (Tz m u)];exact O _ _ (f m u)
  .rw[aa Rz];exact h6
  .rw[aa hc]
   exact O _ _ (M _ _ (s4 _ _ (k3 c o e hc)) (λz=>by
    subst z;have:=D _ _ e
    rw[I]at this;cases this))
theorem qt(L:Lk K mg):aP P w K mg base cI 2 L.tE L.tN ["self","place","sign"] (NV L.aA):=by
 refine L.mG.F.dC (N:=["self","place","sign"]) (λn A outer s H z Q E nd o h=>?_)
 let{x,p,c,g,r,ss,ls,rfl,B,e,hc,k}:=h
 let{{f,b,d,q,mv,i,C,t,u,v,D},_,_,_}:=id B
 let{a,ha,y}:=di (mv:=mv) (k:=p) (by rw[u];exact e)
 have j:=dG o
 refine{_,(a6 (bo (Od (0) L.aJ.cl L.dX (fX L) (aC (1))))
  (ae (av (bS j (bS j (aW (0) rfl) (1) (λ_ _=>rfl)) (2) (λ_ _=>rfl))))),?_}
 ac_rfl
 refine{1,x,f,1,i,GN _ _ _ _ ∅ ∅ ∅ ∅,1,x,p,g,r,ss,ls,rfl,B,e,?_};have l:=cB.k (k:=(Ã p:Key)) t;rw[y]at l;have m:=cB.k (k:=(Ã ({#[c]}:Str):Key)) (v _ ha);rw[Io hc]at m;exact{1,x,L.aA,f,_,1,i,L.aJ.cl,L.aJ.kX,mq g b d q,1,d,1,l,1,a,1,m,k}
theorem xA(L:Lk K mg):aP P w K mg base cI 3 L.pJ L.pW ["band","place"] (Al L.aA):=by
 refine L.qe.F.dC (N:=["band","place","ends"]) (λI A outer s H X Q E nd Y h=>?_)
 let{x,p,g,u,ss,ls,rfl,B,J,M,k}:=h
 refine{_,(a6 (fg (i:=2) rfl (ak ["band","place"] [0,1]) nd rfl rfl (rW (aW (0) rfl)) (λ_ _ _ _ _ _=>b9) (λ_ _ _ _ _ _=>(Od (1) L.aJ.cl L.mG (qt L) (a7 (2) (aC (0))))))
  (ae (av (bZ rfl (ak [] []) (aL (2)) (λ_ _ _ _ _ _=>fA (cT qR (0) ib)) (λ_ _ _ _ _ _=>(0)))))),?_}
 ac_rfl
 let{{O,b,d,q,Z,R,h2,h3,h4,h5,h6},pm,_,_}:=id B
 refine{1,x,L.aA,O,_,1,R,L.aJ.cl,L.aJ.qY,mr g b d q,g,rfl,λl hl=>?_};refine comp_map (Tu u ss p) (jI g) hl (by rw[Ak];exact aq ()) (λ_ _=>trivial) (λz C D S n e=>?_) (λC n a=>?_)
 .let{c,hc,rfl}:=Ç.mp S
  have G:=B.same n
  let{{o,_,_,_,_,r,_},_}:=id G
  exact{1,x,o,1,r,GN _ _ _ _ ∅ ∅ ∅ ∅,2,x,p,c,g,u,ss,ls,rfl,G,J,hc,e C (a8.refl _)}
 .rw[Cu]at a;refine{1,l,rfl,{_,aG.of a},λT f=>?_};refine cV zD (λv=>v) (aH K l _) f (by rw[À,aM];exact aq ()) (λH' U=>aG.of (U _ _ a)) (λy j D V t e=>{1,rfl,1,e j (a8.refl _)}) (λy j D V _ t e=>{1,e j (a8.refl _)}) (λj t m=>?_);rw[ν,yw]at m;exact k T j (n.trans t) (none_of n f) m
theorem zc(L:Lk K mg):aP P w K mg base cI 4 L.tD L.tL ["band"] (Cw L.aA):=by
 refine L.tT.F.dC (N:=["band","ends","place"]) (λeZ A outer s H vs Q E nd hr h=>?_)
 let{x,g,U,ss,ls,rfl,B,X,zb,k}:=h
 have hu:=dG hr
 refine{_,(a6 (af (i:=1) cp)
  (a6 (forA (aL (AZ (0) L.aJ.cl L.lW (ua L))) (au (i:=2)) (ae (cu hu (1) (2) (ai (xA L) L.qe (a7 (0) (aC (2)))) rfl)))
  (ae (av (1))))),?_}
 ac_rfl
 refine λn r=>?_;have R:a8 H (upd H n (.dK [])):=a8.upd r;have B0:=B.same R
 let{{dx,b,d,q,mv,h1,h2,h3,h4,h5,h6},pm,_,_}:=id B0
 refine{1,x,dx,1,h1,GN _ _ _ _ ∅ ∅ ∅ ∅,x,g,U,ss,ls,rfl,B0,λlp S G f1 I=>?_};have Y:lp≠n:=λz=>by rw[z,a5]at f1;cases f1
 have nd:=B.nd
 refine{lp,rfl,{_,aG.of I},dN (K:=K) (a:=lp) (xs:=ss.map V.str) (λi σ T=>∃Z l,σ=[ρ (.ref x),ρ (.ref n),Z]/\T n=ρ (.dK (aR l))/\l.map (·.1)=ss.take i/\(∀m∈l,T m.2=ρ (.lst ((aN g U ss m.1).map V.str)))/\(∀m∈l,S m.2=τ)/\(∀c o,S c=ρ o->c≠n->T c=ρ o))
  {τ,[],rfl,G _ _ a5,rfl,λm t=>(nomatch t),λm t=>(nomatch t),λc o e _=>e} (λi σ T _ {_,_,_,_,_,_,_,D}=>aG.of (D _ _ I Y)) ?_ ?_}
 .rintro i y σ H5 hy ⟨Z,l,rfl,u,f,j,v,D⟩
  let{p,Oh,rfl,hi,xF,jN}:=cC hy
  have RA:a8 H H5:=λc o e=>D _ _ (G _ _ (R _ _ e)) (a9 e r);refine{2,x,p,g,U,ss,ls,rfl,B.same RA,xF,X,λe H6 s6 C X9=>?_};have d6:=s6 _ _ u;have J:p∉l.map (·.1):=by rw[f];exact fN nd Oh
  have RB:l.9<=900:=by have:=congrArg Ŋ f;rw[À,Û]at this;lia
  refine{2,n,1,gX.k (k:=Ã p) d6 (by unfold aR;rw[À];exact aS ()),?_};have M:e≠n:=λz=>by rw[z,u]at C;cases C
  have e1:S e=τ:=by
   cases q:S e with
   |none=>rfl
   |some o=>
    have:=D _ _ q M;rw[this]at C;cases C
  refine{_,l++[(p,e)],rfl,?_,?_,?_,?_,?_}
  .rw[a5,cR _ (fb J)];unfold aR;rw[Ò];rfl
  .rw[Ò,f,jN];rfl
  .intro m t;rcases Ú.mp t with z |z
   .have nm:m.2≠n:=λq=>by
     have:=v m z;rw[q,G _ _ a5]at this;cases this
    rw[aa nm];exact s6 _ _ (j m z)
   .have:m=(p,e):=by simpa using z
    subst this;rw[aa M];exact X9
  .intro m t;rcases Ú.mp t with z |z
   .exact v m z
   .have:m=(p,e):=by simpa using z
    subst this;exact e1
  .intro c o hc O;rw[aa O];exact s6 _ _ (D c o hc O)
 .rintro σ H5 ⟨Z,l,rfl,u,f,j,v,D⟩;rw[À,ä]at f;exact{1,k n l H5 (λc o e=>D _ _ (G _ _ (R _ _ e)) (a9 e r)) r u f j λm t=>none_of R (none_of G (v m t))}
theorem jA(L:Lk K mg):aP P w K mg base cI 5 L.jW L.kg ["band","length"] (Ir L.aA):=by
 have T:=L.T;refine L.gP.F.dC (N:=["band","length","ends","counts","place","table","step","longer"]) (λeZ A outer s H vs Q E nd hr h=>?_)
 let{x,n,g,G,ss,ls,rfl,B,BO,zb,ZA,U0,k}:=h
 have hu:=dG hr
 refine{_,(a6 (af (i:=2) (ai (zc L) L.tT (aC (0))))
  (a6 (af (i:=3) cp)
  (a6 (forA (j4 (2)) (au (i:=4)) (ae (cu hu (3) (4) ag rfl)))
  (a6 (af (i:=5) (bP (aC (3))))
  (a6 (forA (cW rfl T.range (aC (1))) (au (i:=6)) (a6 (af (i:=7) cp)
  (a6 (forA (j4 (2)) (au (i:=4)) (ae (cu hu (7) (4) (ax (fJ rfl) (by rfl) T.sum wV (aC (bZ rfl (ak ["counts"] [3]) (aL (bS hu (2) (4) (λ_ _=>rfl))) (λ_ _ _ _ _ _=>b9) (λ_ _ _ _ _ _=>(bS hu (1) (0) (λ_ _=>rfl)))))) rfl)))
  (a6 (bo (gE ă Đ Ē cg (5) (aC (7))))
  (ae (af (i:=3) (7)))))))
  (ae (av (5)))))))),?_}
 ac_rfl
 have nd:=B.nd;have he:("":Str)∈ss:=B.pm.mem_iff.mpr (bj G);refine{1,x,g,G,ss,ls,rfl,B,BO,zb,λd u H1 s1 RC h1 ek er ef=>?_};refine λl v=>?_;have Z:d≠l:=a9 h1 v;have I:((aR u).map λkv=>kV kv.1)=ss.map V.str:=by rw[dS,ek]
 have Xa:∀m∈u,m.2≠d:=λm q z=>by have:=er m q;rw[z,h1]at this;cases this
 refine{1,d,1,.inl {(a8.upd v) _ _ h1,λo=>?_}};have J:=dZ d o (aR u);rw[I]at J;have S:(upd (upd H1 l (.dK [])) d (.frz o (.dK (aR u)))) l=ρ (.dK []):=by rw[aa (è Z),a5]
 have U:(upd (upd H1 l (.dK [])) d _) d=ρ (.frz o (.dK (aR u))):=a5
 have sz:a8 H (upd (upd H1 l (.dK [])) d (.frz o (.dK (aR u)))):=λc r e=>by
  rw[aa (a9 e RC)];exact a8.upd v _ _ (s1 _ _ e)
 have X:∀m∈u,(upd (upd H1 l (.dK [])) d (.frz o (.dK (aR u)))) m.2=ρ (.lst ((aN g G ss m.1).map V.str)):=λm q=>by
  rw[aa (Xa m q)];exact a8.upd v _ _ (er m q)
 have f0:H l=τ:=none_of s1 v;generalize upd (upd H1 l _) d _=Hz at S U sz X;have RD:∀m∈u,m.2≠l:=λm q z=>by have:=X m q;rw[z,S]at this;cases this
 refine f9 J (λi σ H3=>∃v4,σ=[ρ (.ref x),ρ (.int n),ρ (.ref d),ρ (.ref l),v4,τ,τ,τ]/\H3 l=ρ (.dK (oE (λp=>.int (dg g G ss 0 p)) (ss.take i)))/\∀c r,Hz c=ρ r->c≠l->H3 c=ρ r) {τ,rfl,S,λc r e _=>e} (λi σ H3 _ {_,_,_,b}=>b _ _ U Z) ?_ ?_
 .rintro i y σ H3 hy ⟨v4,rfl,h3,b⟩
  let{p,Oh,rfl,hi,xF,jN}:=cC hy
  refine{2,l,1,gX.k (k:=Ã p) h3 (by rw[xN,Û];exact aS ()),?_};refine{1,?_,λc r e hc=>by rw[aa hc];exact b c r e hc};rw[a5,cR _ (vj _ (fN nd Oh)),jN,vc];rfl
 rintro σ H3 ⟨v4,rfl,h3,b⟩;rw[À,ä]at h3;have s3:a8 H H3:=λc r e=>b _ _ (sz _ _ e) (a9 e f0);have RE:=b _ _ U Z;have Pz:∀m∈u,H3 m.2=ρ (.lst ((aN g G ss m.1).map V.str)):=λm q=>b _ _ (X m q) (RD m q);clear b S U sz X J v h1 er;refine{1,by show 1<=sizeLine;decide,λlt C=>?_};have flt:H lt=τ:=none_of s3 C
 refine{1,n,rfl,(),(),ck (lo:=0) (n:=n.toNat) (W4 g G ss u o x d lt n H)
  {[l],l,_,τ,τ,rfl,rfl,rfl,a5,?_,a8.upd C _ _ RE,λm q=>a8.upd C _ _ (Pz m q),s3.trans (a8.upd C)} ?_ ?_}
 .intro j t R
  cases j with
  |zero=>
   obtain rfl:l=t:=Î R;exact a8.upd C _ _ h3
  |succ j=>simp at R
 .rintro i σ H4 hi ⟨ts,dc,v4,v6,v7,rfl,M,U1,RF,Y,D,JP,s4⟩;refine λdl Gq=>?_;have sd:a8 H4 (upd H4 dl (.dK [])):=a8.upd Gq;have Xb:=Y i dc U1;have J:=dZ d o (aR u);rw[I]at J;have ZB:d≠dl:=a9 D Gq;refine{1,d,1,.inr {o,sd _ _ D,?_}};refine f9 J (λj σ H5=>∃v4,σ=[ρ (.ref x),ρ (.int n),ρ (.ref d),ρ (.ref dc),v4,ρ (.ref lt),ρ (.int (0+(i:Int))),ρ (.ref dl)]/\H5 dl=ρ (.dK (oE (λp=>.int (dg g G ss (i+1) p)) (ss.take j)))/\∀c r,H4 c=ρ r->H5 c=ρ r) {1,a5,λc r e=>sd _ _ e} (λj σ H5 _ {_,_,_,b}=>b _ _ D) ?_ ?_
  .rintro j y σ H5 hy ⟨v4,rfl,h5,b⟩
   let{p,Dl,rfl,hj,xF,jN}:=cC hy
   let{a,ha,hv}:=di (mv:=u) (k:=p) (by rw[ek];exact xF)
   have e1:=cB.f (k:=(Ã p:Key)) (b _ _ D);rw[hv]at e1;have U2:=b _ _ (JP _ ha);have RG:=b _ _ Xb;have el:=Aj g G ss p;refine{2,d,1,e1,a,rfl,{_,aG.of U2},λlm Xc=>?_};refine comp_map (Hs (dg g G ss i)) (aH K a ((aN g G ss p).map V.str)) Xc (by rw[À];exact aq ()) (λH' s'=>aG.of (s' _ _ U2)) (λz H6 Q' hz s6 qq=>?_) (λH6 s6 h6=>?_)
   .let{t,R,rfl}:=Ç.mp hz
    have e2:=cB.k (k:=(Ã t:Key)) (s6 _ _ RG);rw[rD _ (gK he R)]at e2;exact{2,dc,1,e2,qq H6 (a8.refl _)}
   .rw[oF]at h6;refine{lm,1,aG.of h6,?_};have Xd:=s6 _ _ h5;refine{2,dl,1,gX.k (k:=Ã p) Xd (by rw[xN,Û];exact aS ()),?_};refine{1,?_,λc r e=>by rw[aa (a9 e Gq)];exact s6 _ _ (b c r e)};rw[a5,cR _ (vj _ (fN nd Dl)),jN,vc];rfl
  rintro σ H5 ⟨ZC,rfl,h5,b⟩;rw[À,ä]at h5;have O:=b _ _ RF;refine{1,.inl {rfl,_,aG.of O},1,lt,_,1,rfl,O,by rw[À];exact Ě (m:=200000) () (by rw[Ė];decide),?_};have Xe:∀t,H5 t=ρ (.dK (Lc g G ss (i+1)))->t≠lt:=λt e z=>by rw[z,O]at e;cases e
  refine{1,ts++[dl],dl,_,_,1,by rw[Ì,M];rfl,by rw[ĉ (),M,ħ];rfl,by rw[a5,Ò];rfl,?_,?_,?_,?_}
  .intro j t R
   by_cases hj:j<ts.9
   .rw[Ĉ hj]at R;have e:=b _ _ (Y j t R);rw[aa (λz=>by rw[z,O]at e;cases e)];exact e
   .have Xf:j=i+1:=by
     have:=(Ö.mp R).1;rw[Ì,Υ]at this
     lia
    subst Xf;rw[ĉ (),M,ħ]at R;obtain rfl:dl=t:=Î R;rw[aa (Xe _ h5)];exact h5
  .have e:=b _ _ D;rw[aa (λz=>by rw[z,O]at e;cases e)];exact e
  .intro m q;have e:=b _ _ (JP m q)
   by_cases z:m.2=lt
   .exfalso;have f:=Pz m q;rw[z,C]at f;cases f
   .rw[aa z];exact e
  .exact λc r e=>by rw[aa (a9 e flt)];exact b _ _ (s4 _ _ e)
 .rintro σ H4 ⟨ts,dc,v4,v6,v7,rfl,M,U1,RF,Y,D,JP,s4⟩;exact{_,rfl,k lt ts H4 s4 flt RF M Y}
theorem uD(L:Lk K mg):aP P w K mg base cI 6 L.nD L.nQ ["band","place","length"] (Fp L.aA):=by
 refine L.o9.F.dC (N:=["band","place","length"]) (λy A outer s H T Q E nd C h=>?_)
 let{x,p,n,g,r,ss,ls,rfl,B,u,e,f,i,j,k}:=h
 have D:=dG C
 refine{_,(a6 (bo (Od (0) L.aJ.cl L.dX (fX L) (aC (1))))
  (ae (av (bS D (bf bI (ai (jA L) L.gP (a7 (0) (aC (2)))) (JA En ag) (λ_ _=>rfl)) (1) (λ_ _=>rfl))))),?_}
 ac_rfl
 let{{G,b,d,q,U,I,X,Y,Z,h5,h6},_,_,_}:=id B
 refine{1,x,G,1,I,GN _ _ _ _ ∅ ∅ ∅ ∅,1,x,p,g,r,ss,ls,rfl,B,u,?_};refine{2,x,n,g,r,ss,ls,rfl,B,e,f,i,j,λl m J M f1 hl a O=>?_};obtain⟨c,t,rfl⟩:∃l t,m=l++[t]:={m.dropLast,m.getLast (by intro z;rw[z]at a;simp at a),(wcp _).symm};have R:wt ((c++[t]).map V.ref) (-1)=ρ (.ref t):=by rw[Ò];exact DR _ _
 have o:c.9=n.toNat:=by rw[Ì,Υ]at a;lia
 have S:=O n.toNat t (by rw[ĉ (),o,ħ];rfl);have v:=cB.k (k:=(Ã p:Key)) S;rw[rD _ u]at v;exact{1,l,_,-1,1,rfl,aG.of hl,R,1,t,1,v,k J M}
theorem Gv(L:Lk K mg):aP P w K mg base cI 7 L.BE L.BG ["band","length"] (Iu L.aA):=by
 refine L.BI.F.dC (N:=["band","length"]) (λf A outer s H j Q E nd l h=>?_)
 let{x,n,g,e,ss,ls,rfl,B,a,b,c,d,k}:=h
 refine{_,(ae (av (ai (uD L) L.o9 (a7 (0) (a7 bO (aC (1))))))),?_}
 ac_rfl
 have i:("":Str)∈ss:=B.pm.mem_iff.mpr (bj e);exact{2,x,"",n,g,e,ss,ls,rfl,B,i,a,b,c,d,k}
theorem Du(L:Lk K mg):aP P w K mg base cI 6 L.yW L.yZ ["band","many","wide","most"] (CA L.aA):=by
 have T:=L.T;refine L.z5.F.dC (N:=["band","many","wide","most","table","rows_of_data","length"]) (λeZ A outer s H vs Q E nd hr h=>?_)
 let{x,many,wide,most,g,m,ss,ls,rfl,B,q,D,r,U3,RH,Z}:=h
 have k1:∀k:Nat,1<=k->(k:Int)<=most->dg g m ss (k*wide.toNat) "" < many^k->(∀j:Nat,1<=j->j<k->¬dg g m ss (j*wide.toNat) "" < many^j)->∀f,a8 H f->Q (.int (k:Nat)) f:=λk a b c d f G=>Z _ f G (.some k a b c d);have k2:(∀j:Nat,1<=j->(j:Int)<=most->¬dg g m ss (j*wide.toNat) "" < many^j)->∀f,a8 H f->Q .non f:=λa f G=>Z _ f G (.none a);have hu:=dG hr
 refine{_,(a6 (bo (ai (fE L) L.eS (a7 (0) (a7 (1) (aC (2))))))
  (a6 (af (i:=4) (ai (jA L) L.gP (a7 (0) (aC (aK gC (3) (2))))))
  (a6 (af (i:=5) ag)
  (a6 (forA (iB rfl T.range (a7 ag (aC (aK fR (3) ag)))) (au (i:=6)) (a6 (rS (i:=5) nd rfl (ĥ rfl) (1) Er)
  (ae (bg (cT jL (bS hu (bf bI (4) (aK gC (6) (2)) (λ_ _=>rfl)) bO (λ_ _=>rfl)) (5)) (ae (av (6))) aI))))
  (ae (av ib)))))),?_}
 ac_rfl
 have he:("":Str)∈ss:=B.pm.mem_iff.mpr (bj m)
 let{ha,hb,hc,hd,_}:=id r
 obtain⟨e,t⟩:∃w:Nat,wide=(w:Int):={wide.toNat,()};obtain⟨u,I⟩:∃w:Nat,most=(w:Int):={most.toNat,()};have o:most*wide=((u*e:Nat):Int):=by rw[t,I,wev]
 have ZD:u*e<=600:=by
  have p:u<=100:=();have h2:e<=6:=();exact Ï (wgh p h2) ⋯
 have ew:wide.toNat=e:=();rw[ew]at k1 k2;refine{3,x,many,wide,g,m,ss,ls,rfl,B,q,r,?_};refine{3,_,1,rfl,.inl {(),()},x,most*wide,g,m,ss,ls,rfl,B,q,D,by rw[o];lia,by rw[o];lia,λl J M s1 f1 hl O ht=>?_};rw[o,î]at O;refine⟨_,rfl,_,_,rfl,rfl,1,most+1,rfl,{(),(),(),()},ck (lo:=1) (n:=(most+1-1).toNat) (λi σ R=>R=M/\(∃v6,σ=[ρ (.ref x),ρ (.int many),ρ (.int wide),ρ (.int most),ρ (.ref l),ρ (.int (many^i)),v6])/\∀j:Nat,1<=j->j<=i->¬dg g m ss (j*e) "" < many^j) {rfl,{τ,by rw[Int.pow_zero];rfl},λj p h2=>()} ?_ ?_⟩
 .rintro i σ R hi ⟨S,⟨v6,rfl⟩,lo⟩;rw[S];have U:i+1<=u:=();have U4:(i+1)*e<=u*e:=wen _ U;have v:(i+1)*e<J.9:=();have e1:(J.map V.ref)[(i+1)*e]?=ρ (.ref J[(i+1)*e]):=by rw[È,Ä v];rfl
  have y:=bK e1;have ei:((((i+1)*e:Nat)):Int)=(1+(i:Int))*wide:=by rw[t,wev,Λ,Int.add_comm];rfl
  rw[ei]at y;have X:=ht _ _ (Ä v);have e3:=cB.k (k:=(Ã "":Key)) X;rw[rD _ he]at e3;refine{2,_,1,rfl,.inr {(),()},?_};refine{3,_,1,rfl,.inr {(),()},l,_,_,1,rfl,aG.of hl,y,_,1,e3,1,_,1,rfl,1,?_};refine rx (λp=>?_) (λp=>{rfl,{_,by rw[Ť];rfl},λj C q2=>?_})
  .have Y:=of_decide_eq_true p;have:=k1 (i+1) () () (by rw[Ť];exact Y) (λj C q2=>lo j C ()) M s1;rw[show (((i+1:Nat):Nat):Int)=1+(i:Int) by lia]at this;exact{_,rfl,this}
  .by_cases hj:j<=i
   .exact lo j C hj
   .obtain rfl:j=i+1:=();rw[Ť];exact λz=>p (decide_eq_true z)
 .rintro σ R ⟨S,⟨v6,rfl⟩,lo⟩;rw[S];exact k2 (λj C q2=>lo j C ()) M s1
theorem uc(L:Lk K mg):aP P w K mg base cI 3 L.lD L.lL ["band","rows"] (Fn L.aA):=by
 refine L.lT.F.dC (N:=["band","rows","longer","word","place","sign","end"]) (λeZ A outer s H vs Q E nd hr h=>?_)
 let{x,l,rs,m,g,n,ss,ls,rfl,B,R,hq,JO,BO,k}:=h
 refine{_,(a6 (af (i:=2) (bP dW))
  (a6 (forA (aL (1)) (fS rfl (aV (au (i:=3)) (aV (au (i:=4)) dQ))) (ae (forA (rW (aW (0) rfl)) (au (i:=5)) (a6 (af (i:=6) (Od (0) L.aJ.cl L.mG (qt L) (a7 (4) (aC (5)))))
  (ae (bg (cT qR (6) ib) (ae (bo (gE ă Đ Ē cg (2) (aC (bY (a7 (aK iV (3) (5)) (aC (6)))))))) aI))))))
  (ae (av (2))))),?_}
 ac_rfl
 refine{à _,λu v=>?_};have s0:a8 H (upd H u (.lst [])):=a8.upd v;refine{1,l,rfl,{_,aG.of (s0 _ _ R.l)},dN (K:=K) (a:=l) (xs:=rs.map V.ref) (λi σ J=>∃(v3 v4 z v6:Option V) (f:List Addr),σ=[ρ (.ref x),ρ (.ref l),ρ (.ref u),v3,v4,z,v6]/\a8 H J/\da J u f (eK g n ss (m.take i))) {τ,τ,τ,τ,[],rfl,s0,{a5,bX.nil _}} (λi σ J _ {_,_,_,_,_,_,C,_}=>aG.of (C _ _ R.l)) ?_ ?_}
 .rintro i y σ J D ⟨v3,v4,z,v6,f,rfl,C,R2⟩;rw[È]at D
  obtain⟨r,O,rfl⟩:∃r,rs[i]?=ρ r/\y=.ref r:=by
   cases q:rs[i]? with
   |none=>rw[q]at D;cases D
   |some r=>rw[q]at D;exact{r,rfl,(Î D).symm}
  have S:i<m.9:=by have:=(Ö.mp O).1;rw[R.len]at this;exact this
  have T:m[i]?=ρ m[i]:=Ä S
  let{U,X}:=hq m[i] (û S)
  have hT:=R.t.2 i r (jQ m[i]) O (by rw[È,T];rfl);have jN:m.take (i+1)=m.take i++[m[i]]:=by rw[Ć,T];rfl
  have G:eK g n ss (m.take (i+1))=eK g n ss (m.take i)++gH g n ss m[i]:=by
   unfold eK;rw[jN,wgF];simp
  have PB:(eK g n ss (m.take i)).9<=1000:=by
   have h1:=pF g n ss (m.take i);have h2:(m.take i).9<=100:=by rw[Û];lia
   exact Ï h1 (wgh h2 BO)
  generalize m[i]=q at U X hT G
  let{w,p}:=q
  generalize eK g n ss (m.take i)=M at R2 G PB;refine{r,1,eY.of (C _ _ hT),rfl,_,1,_,1,rfl,?_};have B2:=B.same C
  let{{dx,b,d,qq,mv,h1,h2,h3,h4,h5,h6},pm,_,_}:=id B2
  refine{1,x,L.aA,dx,_,1,h1,L.aJ.cl,L.aJ.qY,mr g b d qq,g,rfl,f9 (jI g) (λj σ Y=>∃(z v6:Option V) (f:List Addr),σ=[ρ (.ref x),ρ (.ref l),ρ (.ref u),ρ (.str w),ρ (.str p),z,v6]/\a8 H Y/\da Y u f (M++((ch g).take j).filterMap λc=>if bears n (p++{#[c]})=true then τ else ρ (w++{#[c]},lend ss (p++{#[c]})))) {_,_,f,rfl,C,by rw[ι,List.filterMap_nil,ý];exact R2} (λ_ _ _ _ _=>trivial) ?_ ?_}
  .rintro j y σ Y D ⟨z,v6,f,rfl,Z,R3⟩
   let{c,Xg,rfl,hj,U5,LL}:=vC D
   have B3:=B.same Z
   let{{Xh,_,_,_,_,Xi,_},_}:=id B3
   refine{1,x,Xh,1,Xi,GN _ _ _ _ ∅ ∅ ∅ ∅,2,x,p,c,g,n,ss,ls,rfl,B3,U,U5,?_}
   have RJ:(M++((ch g).take j).filterMap λc=>if bears n (p++{#[c]})=true then τ else ρ (w++({#[c]}:Str),lend ss (p++({#[c]}:Str)))).length<=1010:=by
    have:=wcM (λc=>if bears n (p++{#[c]})=true then τ else ρ (w++({#[c]}:Str),lend ss (p++({#[c]}:Str)))) ((ch g).take j);rw[Û,aM]at this;rw[Ì]
    lia
   refine{1,rfl,1,?_};rw[LL,web,<-Ā];generalize (M++((ch g).take j).filterMap λc=>if bears n (p++{#[c]})=true then τ else ρ (w++({#[c]}:Str),lend ss (p++({#[c]}:Str))))=M2 at R3 RJ
   cases hb:bears n (p++⟨#[c]⟩) with
   |true=>
    have e:qZ n ss p c=.non:=by unfold qZ;rw[hb];rfl
    rw[e];refine bW {_,_,f,rfl,Z,?_}
    have e2:([c].filterMap λc=>if bears n (p++{#[c]})=true then τ else ρ (w++({#[c]}:Str),lend ss (p++({#[c]}:Str))))=[]:=by
     rw[Ġ,hb];rfl
    rw[e2,ý];exact R3
   |false=>
    have e:qZ n ss p c=.str (lend ss (p++{#[c]})):=by unfold qZ;rw[hb];rfl
    rw[e]
    have e2:([c].filterMap λc=>if bears n (p++{#[c]})=true then τ else ρ (w++({#[c]}:Str),lend ss (p++({#[c]}:Str))))=[(w++{#[c]},lend ss (p++{#[c]}))]:=by
     rw[Ġ,hb];rfl
    rw[e2];have BL:=R3.len;have Xj:w.9<=100:=X;refine cJ {1,.inl {rfl,_,aG.of R3.l},2,_,1,rfl,aq (by show w.9+1<=_;lia),1,by show 2<=sizeLine;decide,λr' I=>?_};refine{u,_,1,rfl,a8.upd I _ _ R3.l,by rw[À,BL];exact Ě RJ (by rw[Ė];decide),?_};have key:=R3.push I (w++{#[c]},lend ss (p++{#[c]}))
    have sk:a8 H (upd (upd Y r' (.tup [.str (w++{#[c]}),.str (lend ss (p++{#[c]}))])) u (.lst (f.map V.ref++[.ref r']))):=λa o ea=>by
     rw[aa (a9 ea v)];exact a8.upd I _ _ (Z _ _ ea)
    unfold jQ at key;generalize lend ss (p++{#[c]})=le at key sk ⊢;refine{ρ (.str {#[c]}),ρ (.str le),f++[r'],?_,?_,?_}
    .rfl
    .exact sk
    .exact key
  .rintro σ Y ⟨z,v6,f,rfl,Z,R3⟩;refine{_,_,_,_,f,rfl,Z,?_};have:(cK g).9=(ch g).9:=by unfold cK;rw[À]
   rw[this,ä]at R3;rw[G];exact R3
 .rintro σ J ⟨v3,v4,z,v6,f,rfl,C,R2⟩;rw[À,R.len,ä]at R2;exact{_,rfl,k u f J C v R2}
theorem kF(L:Lk K mg):aP P w K mg base cI 4 L.lE L.lM ["band","place","wide"] (Fo L.aA):=by
 have T:=L.T;refine L.ik.F.dC (N:=["band","place","wide","rows","step","live"]) (λeZ A outer s H vs Q E nd hr h=>?_)
 let{x,p,n,g,a,ss,ls,rfl,B,hp,j,hn,BP,J,k}:=h
 refine{_,(a6 (bo (Od (0) L.aJ.cl L.i5 (mI L) (aC (1))))
  (a6 (af (i:=3) (bP (aC (bY (a7 bO (aC (1)))))))
  (a6 (forA (cW rfl T.range (aC (2))) (au (i:=4)) (ae (af (i:=3) (ai (uc L) L.lT (a7 (0) (aC (3)))))))
  (a6 (af (i:=5) (AZ (0) L.aJ.cl L.i6 (jc L)))
  (ae (av (eO rfl (ak ["live"] [5]) (ak ["live"] [5]) ⋯ (aL (3)) (λ_ _ _ _ _ _=>fA (fz (gB (K:=K) rfl) (1) (2) rfl)) (λ_ _ _ _ _ _=>(bY (a7 (0) (aC (1)))))))))))),?_}
 ac_rfl
 have he:("":Str)∈ss:=B.pm.mem_iff.mpr (bj a);have M:p∈ss:=B.lv.sub.subset hp
 let{{dx,b,d,q,mv,m,z,h3,h4,h5,h6},pm,_,_}:=id B
 refine{1,x,dx,1,m,GN _ _ _ _ ∅ ∅ ∅ ∅,1,x,p,g,a,ss,ls,rfl,B,hp,?_};refine{1,by show 2<=sizeLine;decide,λe O=>{by show 1<=sizeLine;decide,λC o=>?_}}
 have R0:da (upd (upd H e (.tup [.str "",.str p])) C (.lst [.ref e])) C [e] (nh g a ss p 0):=by
  refine{a5,rfl,λi r xs m z=>?_}
  match i,m,z with
  |0,m,z=>
   cases m;cases z;exact a8.upd o _ _ a5
 have s0:a8 H (upd (upd H e (.tup [.str "",.str p])) C (.lst [.ref e])):=(a8.upd O).trans (a8.upd o);refine{1,(n:Int),rfl,(),(),?_};rw[î];refine ck (lo:=0) (n:=n) (λi σ D=>∃(l:Addr) (u:List Addr) (v4:Option V),σ=[ρ (.ref x),ρ (.str p),ρ (.int (n:Int)),ρ (.ref l),v4,τ]/\a8 H D/\da D l u (nh g a ss p i)) {C,[e],τ,rfl,s0,R0} ?_ ?_
 .rintro i σ D hi ⟨l,u,v4,rfl,f,R2⟩;have c:(nh g a ss p i).9<=100:=Ï (ni g a ss p i) (Ï (wgt () ()) j);refine{2,x,l,u,_,g,a,ss,ls,rfl,B.same f,R2,λr hr=>?_,c,J,λl' R H3 v f3 R3=>{l',R,_,rfl,f.trans v,R3}}
  let{a1,a2}:=sZ he M i r hr
  exact{a1,()}
 .rintro σ D ⟨l,u,v4,rfl,f,R2⟩;have B2:=B.same f
  let{{S,_,_,_,_,U,_},_}:=id B2
  refine{1,x,S,1,U,GN _ _ _ _ ∅ ∅ ∅ ∅,x,g,a,ss,ls,rfl,B2,λlv H3 v f3 X=>?_};have R3:=R2.same v;have c:(nh g a ss p n).9<=100:=Ï (ni g a ss p n) j;have BL:=R3.len;refine{1,l,rfl,{_,aG.of R3.l},λlr y=>?_};refine Dc (prs:=(nh g a ss p n).map mZ) (λq=>mL q.2 (ls.map V.str)) jG (aH K l (u.map V.ref)) (by rw[Bm];exact R3.t) y (aq ()) (λH' s'=>aG.of (s' _ _ R3.l)) (λqv G Q' hq I Y=>?_) (λqv G Q' hq _ I Y=>?_) (λys G I Z t4=>?_)
  .let{q',1}:=Ç.mp hq
   exact{2,lv,1,.inl (aG.of (I _ _ X)),rfl,dh _,1,Y G (a8.refl _)}
  .exact{2,by show 2<=sizeLine;decide,λr' RK=>Y r' _ (a8.upd RK) a5}
  .rw[y9]at t4;exact k lr ys G ((f.trans v).trans I) (none_of (f.trans v) y) ⟨Z,t4⟩
theorem uE(L:Lk K mg):aP P w K mg base cI 5 L.nE L.nR ["band","wide"] (yy L.aA):=by
 refine L.og.F.dC (N:=["band","wide","ends","place"]) (λeZ A outer s H vs Q E nd hr h=>?_)
 let{x,n,g,J,ss,ls,rfl,B,GU,hn,BP,BO,zb,k}:=h
 have hu:=dG hr
 refine{_,(a6 (af (i:=2) cp)
  (a6 (forA (aL (AZ (0) L.aJ.cl L.i6 (jc L))) (au (i:=3)) (ae (cu hu (2) (3) (eO rfl (ak [] []) (ak [] []) ⋯ (aL (ai (kF L) L.ik (a7 (0) (a7 (3) (aC (1)))))) (λ_ _ _ _ _ _=>b9) (λ_ _ _ _ _ _=>(1))) rfl)))
  (ae (av (2))))),?_}
 ac_rfl
 refine λu v=>?_;have Y:a8 H (upd H u (.dK [])):=a8.upd v;have B0:=B.same Y
 let{{dx,b,d,q,mv,h1,h2,h3,h4,h5,h6},pm,_,_}:=id B0
 refine{1,x,dx,1,h1,GN _ _ _ _ ∅ ∅ ∅ ∅,x,g,J,ss,ls,rfl,B0,λlp Z R f1 S=>?_};have Py:lp≠u:=λz=>by rw[z,a5]at f1;cases f1
 have nd:ls.Nodup:=B.nd.sublist B.lv.sub;have AF:ls.9<=900:=Ï B.lv.sub.length_le zb
 refine{lp,rfl,{_,aG.of S},dN (K:=K) (a:=lp) (xs:=ls.map V.str) (λi σ H2=>∃v3 r,σ=[ρ (.ref x),ρ (.int (n:Int)),ρ (.ref u),v3]/\H2 u=ρ (.dK (aR r))/\r.map (·.1)=ls.take i/\(∀m∈r,H2 m.2=ρ (.lst (((aQ g J ss ls n m.1).map (·.2)).map V.str)))/\(∀m∈r,Z m.2=τ)/\(∀c o,Z c=ρ o->c≠u->H2 c=ρ o))
  {τ,[],rfl,R _ _ a5,rfl,λm C=>(nomatch C),λm C=>(nomatch C),λc o e _=>e} (λi σ H2 _ {_,_,_,_,_,_,_,M}=>aG.of (M _ _ S Py)) ?_ ?_}
 .rintro i y σ H5 hy ⟨v3,r,rfl,D,f,j,G,M⟩
  let{p,Oh,rfl,hi,xF,jN}:=cC hy
  have RA:a8 H H5:=λc o e=>M _ _ (R _ _ (Y _ _ e)) (a9 e v);refine{3,x,p,n,g,J,ss,ls,rfl,B.same RA,xF,GU,hn,BP,BO,λlb rs H6 s6 f6 R6=>?_};have Pt:=fj g J ss ls n p;have BL:=R6.len;refine{lb,rfl,{_,aG.of R6.l},λe he=>?_};refine mD (prs:=(aQ g J ss ls n p).map mZ) (λ_=>true) (λq=>q.2) (aH K lb (rs.map V.ref)) (by rw[Bm];exact R6.t) he (aq ()) (λH' s'=>aG.of (s' _ _ R6.l)) (λq H7 Q' _ _ qq=>qq H7 (a8.refl _)) (λq H7 Q' _ _ _ qq=>{1,qq H7 (a8.refl _)}) (λH7 s7 h7=>?_)
  have e7:(((aQ g J ss ls n p).map mZ).filter λ_=>true).map (λq=>q.2)=((aQ g J ss ls n p).map (·.2)).map V.str:=by
   rw[ę.mpr (λ_ _=>rfl),Ê,Ê];rfl
  rw[e7]at h7;have O:=s6.trans s7;have d6:=O _ _ D;have I:H5 e=τ:=none_of s6 he;have T:p∉r.map (·.1):=by rw[f];exact fN nd Oh
  have RB:r.9<=900:=by have:=congrArg Ŋ f;rw[À,Û]at this;lia
  refine{2,u,1,gX.k (k:=Ã p) d6 (by unfold aR;rw[À];exact aS ()),?_};have U:e≠u:=λz=>by rw[z,D]at I;cases I
  have e1:Z e=τ:=by
   cases q:Z e with
   |none=>rfl
   |some o=>
    have:=M _ _ q U;rw[this]at I;cases I
  refine{_,r++[(p,e)],rfl,?_,?_,?_,?_,?_}
  .rw[a5,cR _ (fb T)];unfold aR;rw[Ò];rfl
  .rw[Ò,f,jN];rfl
  .intro m C;rcases Ú.mp C with z |z
   .have nm:m.2≠u:=λq=>by
     have:=G m z;rw[q,R _ _ a5]at this;cases this
    rw[aa nm];exact O _ _ (j m z)
   .have:m=(p,e):=by simpa using z
    subst this;rw[aa U];exact h7
  .intro m C;rcases Ú.mp C with z |z
   .exact G m z
   .have:m=(p,e):=by simpa using z
    subst this;exact e1
  .intro c o hc X;rw[aa X];exact O _ _ (M c o hc X)
 .rintro σ H5 ⟨v3,r,rfl,D,f,j,G,M⟩;rw[À,ä]at f;exact{1,k u r H5 (λc o e=>M _ _ (R _ _ (Y _ _ e)) (a9 e v)) v D f j λm C=>none_of Y (none_of R (G m C))}
theorem zf(L:Lk K mg):aP P w K mg base cI 6 L.mE L.tM ["band","many","wide","most"] (Iv L.aA):=by
 refine L.tU.F.dC (N:=["band","many","wide","most","ends","weights","place","lower"]) (λeZ A outer s H vs Q E nd hr h=>?_)
 let{x,many,n,most,g,v,ss,ls,rfl,B,BP,U,X,Y,U3,k}:=h
 have hu:=dG hr;have O6:(A.deeper (Α "greatest" (ay (top 33)) s.heap.objs.size L.mE eZ)).units<ð:=hr.rG
 refine{_,(a6 (bo (ai (fE L) L.eS (a7 (0) (a7 (1) (aC (2))))))
  (a6 (af (i:=4) (ai (uE L) L.og (a7 (0) (aC (2)))))
  (a6 (af (i:=5) cp)
  (a6 (forA (tm (4)) (au (i:=6)) (ae (cu hu (5) (6) (3) rfl)))
  (ae (fI Ō (bF gy) (a6 (af (i:=7) (ai (AU L) L.wg (a7 (4) (a7 (1) (aC (5))))))
  (a6 (bg (cT (KB O6) (7) (5)) (ae (av (5))) aI)
  (ae (af (i:=5) (7))))))))))),?_}
 ac_rfl
 let{Z,rb,rc,rd,re}:=id Y
 have GU:g.length^n<=64:=by
  rw[î]at re;have:((g.length^n:Nat):Int)<=64:=by rw[Τ];exact re
  lia
 have nd:ls.Nodup:=B.nd.sublist B.lv.sub;have AF:ls.9<=900:=Ï B.lv.sub.length_le X;refine{3,x,many,n,g,v,ss,ls,rfl,B,U,Y,?_};refine{2,x,n,g,v,ss,ls,rfl,B,(),(),BP,U,X,λd G H1 s1 RC h1 ek er ef=>?_};have Xk:∀q∈G,q.2≠d:=λq hq z=>by have:=er q hq;rw[z,h1]at this;cases this
 refine λa b=>?_;have I:d≠a:=a9 h1 b;have Px:(upd H1 a (.dK [])) d=ρ (.dK (aR G)):=a8.upd b _ _ h1;refine{1,d,1,.inl Px,λo H2 h2 l=>?_};have M:H2 a=ρ (.dK []):=by rw[l a (è I),a5]
 have s2:a8 H H2:=λc O e=>by
  rw[l c (a9 e RC)];exact a8.upd b _ _ (s1 _ _ e)
 have R:∀m∈G,H2 m.2=ρ (.lst (((aQ g v ss ls n m.1).map (·.2)).map V.str)):=λm r=>by
  rw[l _ (Xk m r)];exact a8.upd b _ _ (er m r)
 have t:H a=τ:=none_of s1 b;have J:=dZ d o (aR G);rw[dS,ek]at J;refine f9 J (λj σ u=>∃(v6:Option V),σ=[ρ (.ref x),ρ (.int many),ρ (.int (n:Int)),ρ (.int most),ρ (.ref d),ρ (.ref a),v6,τ]/\u a=ρ (.dK (aB (bx (λ_=>most) (ls.take j))))/\∀c O,H2 c=ρ O->c≠a->u c=ρ O) {τ,rfl,M,λc O e _=>e} (λj σ u _ {_,_,_,C}=>C _ _ h2 I) ?_ ?_
 .rintro j y σ u hy ⟨v6,rfl,h3,C⟩
  let{p,Dl,rfl,hj,xF,jN}:=cC hy
  have AV:p∉(bx (λ_=>most) (ls.take j)).map (·.1):=by rw[kT];exact fN nd Dl
  refine{3,a,1,gX.k (k:=Ã p) h3 (by rw[dn];unfold bx;rw[À,Û];exact aS ()),?_};refine{1,?_,λc O e hc=>by rw[aa hc];exact C c O e hc};rw[a5,kP AV,jN];unfold bx;rw[Ò];rfl
 rintro σ u ⟨v6,rfl,h3,C⟩;rw[À,ä]at h3;have RE:=C _ _ h2 I;have s3:a8 H u:=λc O e=>C _ _ (s2 _ _ e) (a9 e t);have RL:∀m∈G,m.2≠a:=λm r z=>by have:=R m r;rw[z,M]at this;cases this
 have Pz:∀m∈G,u m.2=ρ (.lst (((aQ g v ss ls n m.1).map (·.2)).map V.str)):=λm r=>C _ _ (R m r) (RL m r);clear C h2 M R er h1 l Px J b
 refine{λq σ H4=>∃(a:Addr) (f:Str->Int) (v6 v7:Option V),q=(ls.map λp=>(f p).toNat).sum/\σ=[ρ (.ref x),ρ (.int many),ρ (.int (n:Int)),ρ (.int most),ρ (.ref d),ρ (.ref a),v6,v7]/\a8 u H4/\H a=τ/\H4 a=ρ (.dK (aB (bx f ls)))/\(∀p∈ls,0<=f p)/\(∀p∈ls,f p<=most)/\(∀h:Str->Int,(∀p∈ls,h p<=most)->DG g v ss ls many n h->∀p∈ls,h p<=f p),
  {_,a,λ_=>most,v6,τ,rfl,rfl,a8.refl _,t,h3,λ_ _=>U3,λ_ _=>μ _,λh hh _ p hp=>hh p hp},?_}
 rintro q σ H4 ⟨a,f,v6,v7,rfl,rfl,s4,t,h4,S,U6,U7⟩;refine{true,rfl,cJ ?_};refine{λσ' H'=>∃(dl:Addr) (v6 v7:Option V),σ'=[ρ (.ref x),ρ (.int many),ρ (.int (n:Int)),ρ (.int most),ρ (.ref d),ρ (.ref dl),v6,v7]/\a8 u H'/\H dl=τ/\H' dl=ρ (.dK (aB (bx (jU g v ss ls many n f) ls)))/\¬∀p∈ls,jU g v ss ls many n f p=f p,?_,?_}
 .rintro σ' H' ⟨dl,v6,v7,rfl,s',T,h',Cd⟩;exact{_,L1 Z S Cd,dl,_,_,1,rfl,s',T,h',Fe Z S,λp hp=>ů (Fd many n f p) (U6 p hp),λh hh D=>Cp Z D (U7 h hh D)}
 .refine{3,d,a,many,n,o,G,f,g,v,ss,ls,rfl,s4 _ _ RE,ek,λm r=>s4 _ _ (Pz m r),(),nd,AF,Z,rb,.inl h4,λdl H5 s5 T h5=>?_};have U8:=s5 _ _ h4;refine{2,dl,a,_,1,rfl,.inl h5,.inl U8,su _,su _,1,?_};refine rx (λhe=>?_) (λhe=>?_)
  .have e:=JK.mp he;exact{1,k a f H5 ((s3.trans s4).trans s5) t U8 {S,U6,Ii Z e,U7}}
  .exact{1,dl,_,1,s4.trans s5,none_of s3 (none_of s4 T),h5,λe=>he (JK.mpr e)}
theorem kG(L:Lk K mg):aP P w K mg base cI 5 L.lF L.lN ["band","many","wide","weights"] (IM K L.aA L.aw):=by
 refine L.ip.F.dC (N:=["band","many","wide","weights","homes","lines","place","blocks"]) (λeZ A outer s H vs Q E nd hr h=>?_)
 let{x,d,many,n,m,f,g,u,ss,ls,rfl,B,BP,BO,zb,Gw,hd,hw,k}:=h
 have hu:=dG hr
 refine{_,(a6 (bo (ai (fE L) L.eS (a7 (0) (a7 (1) (aC (2))))))
  (a6 (af (i:=4) (bZ rfl (ak ["weights"] [3]) (aL (AZ (0) L.aJ.cl L.i6 (jc L))) (λ_ _ _ _ _ _=>fA (cT iA (bS hu (1) (0) (λ_ _=>rfl)) ag)) (λ_ _ _ _ _ _=>(0))))
  (a6 (af (i:=5) (bP dW))
  (a6 (forA (aL (4)) (au (i:=6)) (a6 (af (i:=7) (ai (kF L) L.ik (a7 (0) (a7 (6) (aC (2))))))
  (ae (bo (gE ă Đ Ē cg (5) (aC (eO rfl (ak ["homes"] [4]) (ak ["homes"] [4]) ⋯ (aL (7)) (λ_ _ _ _ _ _=>fA (fz (gB (K:=K) rfl) (1) (2) rfl)) (λ_ _ _ _ _ _=>(bY (a7 (0) (aC (G5 (K:=K) rfl ă wcU wfD (Ds (K:=K) rfl) (2) (aC (1))))))))))))))
  (ae (av (kM L.tV (eV L) (hr.mono ⋯) rfl L.xk L.dE.b .nil mU (a7 (4) (a7 (bZ rfl (ak ["weights"] [3]) (aL (4)) (λ_ _ _ _ _ _=>b9) (λ_ _ _ _ _ _=>(bS hu (1) (0) (λ_ _=>rfl)))) (aC (5))))))))))),?_}
 ac_rfl
 let{ra,rb,rc,rd,re}:=id Gw
 have GU:g.length^n<=64:=by
  rw[î]at re;have:((g.length^n:Nat):Int)<=64:=by rw[Τ];exact re
  lia
 have AF:ls.9<=900:=Ï B.lv.sub.length_le zb;refine{3,x,many,n,g,u,ss,ls,rfl,B,BO,Gw,?_}
 let{{dx,b,d0,q,mv,h1,h2,h3,h4,h5,h6},pm,_,_}:=id B
 refine{1,x,dx,1,h1,GN _ _ _ _ ∅ ∅ ∅ ∅,x,g,u,ss,ls,rfl,B,λlv H1 s1 f1 hv=>?_};refine{lv,rfl,{_,aG.of hv},λS Mf=>?_};refine cV (λv=>match v with |.str p=>decide (0<f p) |_=>false) (λv=>v) (aH K lv (ls.map V.str)) Mf (by rw[À];exact aq ()) (λH' s'=>aG.of (s' _ _ hv)) (λz J Q' hz s2 Y=>?_) (λz J Q' hz _ s2 Y=>{1,Y J (a8.refl _)}) (λJ s2 hh=>?_)
 .let{p,hp,rfl}:=Ç.mp hz
  have g3:=cB.rd (k:=(Ã p:Key)) (hd.same (s1.trans s2));rw[bT,hw p hp]at g3;have q2:Q' (decide (0<f p)) J:=Y J (a8.refl _);exact{2,d,1,g3,_,1,rfl,1,q2}
 have Xl:((ls.map V.str).filter (λv=>match v with |.str p=>decide (0<f p) |_=>false)).map (λv=>v)=(aj ls f).map V.str:=by
  rw[ν,wet];rfl
 rw[Xl]at hh;have U9:(aj ls f).9<=900:=Ï (ľ _ _) AF;have Oi:∀p∈aj ls f,p∈ls:=λp hp=>(Ý.mp hp).1;have Mg:=s1.trans s2;refine{à _,λC D=>?_};have sb:a8 J (upd J C (.lst [])):=a8.upd D;have Z:(upd J C _) C=ρ (.lst []):=a5;generalize upd J C _=Hb at sb Z;have Xm:S≠C:=a9 hh D
 refine{1,S,rfl,{_,aG.of (sb _ _ hh)},dN (K:=K) (a:=S) (xs:=(aj ls f).map V.str) (λj σ H3=>∃(v6 v7:Option V) (as:List V),σ=[ρ (.ref x),ρ (.int many),ρ (.int (n:Int)),ρ (.ref d),ρ (.ref S),ρ (.ref C),v6,v7]/\H3 C=ρ (.lst as)/\(∀c o,Hb c=ρ o->c≠C->H3 c=ρ o)/\b7 K (aE Hb H3) (((aj ls f).take j).map λp=>bR (fk g u ss ls n (aj ls f) p)) as)
  {τ,τ,[],rfl,Z,λc o e _=>e,rfl} (λj σ H3 _ {_,_,_,_,_,kk,_}=>aG.of (kk _ _ (sb _ _ hh) Xm)) ?_ ?_}
 .rintro j y σ H3 hy ⟨v6,v7,as,rfl,RM,kk,hR⟩
  let{p,Dl,rfl,hj,xF,jN}:=cC hy
  have M:a8 J H3:=λc o e=>kk _ _ (sb _ _ e) (a9 e D);have B3:=B.same (Mg.trans M);refine{3,x,p,n,g,u,ss,ls,rfl,B3,Oi p xF,(),(),BP,BO,λlb rb T G f4 R4=>?_};have I:=G _ _ RM;have Pt:=fj g u ss ls n p
  have TF:as.9=j:=by
   rw[hR.len,À,Û]
   lia
  refine{1,.inl {rfl,_,aG.of I},1,lb,rfl,{_,aG.of R4.l},λlc LN=>?_};have O:T S=ρ (.lst ((aj ls f).map V.str)):=G _ _ (M _ _ hh);refine kY (prs:=(aQ g u ss ls n p).map mZ) (λq=>mL q.2 ((aj ls f).map V.str)) (λq=>.tup [.at q.1,.at (.int (match q.2 with |.str e=>((aj ls f).idxOf e:Nat) |_=>0))]) (aH K lb (rb.map V.ref)) (by rw[À,À,R4.len]) (λi q U=>?_) LN (by rw[À,R4.len];exact aq ()) (λH' s'=>aG.of (s' _ _ R4.l)) (λq R Q' U X Y=>?_) (λq R Q' U Xn X Y=>?_) (λR X r5=>?_)
  .have hi:i<rb.9:=by have:=(Ö.mp U).1;rw[À,<-R4.len]at this;exact this
   rw[È]at U
   cases e:(aQ g u ss ls n p)[i]? with
   |none=>rw[e]at U;cases U
   |some z=>
    rw[e]at U;cases U;refine{rb[i],by rw[È,Ä hi];rfl,eY.of (R4.t.2 i rb[i] (jQ z) (Ä hi) (by rw[È,e];rfl))}
  .let{z,hz,rfl}:=Ç.mp U
   exact{2,S,1,.inl (aG.of (X _ _ O)),rfl,dh _,1,Y R (a8.refl _)}
  .let{z,hz,rfl}:=Ç.mp U
   have hm:z.2∈aj ls f:=by
    have:mL (.str z.2) ((aj ls f).map V.str)=true:=Xn;rw[fG]at this;exact of_decide_eq_true this
   let{i1,i2}:=oQ hm
   refine{2,.inl {rfl,_,aG.of (X _ _ O)},1,S,aj ls f,z.2,(aj ls f).idxOf z.2,rfl,rfl,aG.of (X _ _ O),(),i1,i2,by show 2<=sizeLine;decide,λr hr=>?_};exact Y _ _ (a8.upd hr) (nu hr (z.1,(aj ls f).idxOf z.2))
  have el:((((aQ g u ss ls n p).map mZ).filter λq=>mL q.2 ((aj ls f).map V.str)).map λq=>iQ.tup [.at q.1,.at (.int (match q.2 with |.str e=>((aj ls f).idxOf e:Nat) |_=>0))])=(fk g u ss ls n (aj ls f) p).map jj:=by
   unfold fk;rw[wet,Ê,Ê]
   have ep:((λq:V×V=>mL q.2 ((aj ls f).map V.str)) ∘ mZ)=λq:Str×Str=>decide (q.2∈aj ls f):=by
    funext q;exact fG q.2 _
   rw[ep];rfl
  rw[el]at r5;refine{C,_,1,rfl,X _ _ I,by rw[TF];exact Ě (show j<=900 by lia) (by rw[Ė];decide),?_};have Ua:=G.trans X;have Ub:=X _ _ I;have kp:∀c o,R c=ρ o->c≠C->(upd R C (.lst (as++[.ref lc]))) c=ρ o:=λc o e hc=>by rw[aa hc];exact e
  refine{_,_,as++[.ref lc],rfl,a5,λc o e hc=>kp _ _ (Ua _ _ (kk c o e hc)) hc,?_};rw[jN,Ò];refine gg (b7.same ((gu Ua).trans (bp Z kp)) _ _ hR) ?_
  have old:a8 (aE T R) (aE Hb R):=λc o e=>by
   unfold aE at e ⊢
   cases q:Hb c with
   |none=>
    cases q2:T c with
    |none=>rw[q2]at e;exact e
    |some z=>rw[q2]at e;cases e
   |some z=>
    by_cases hc:c=C
    .rw[hc,I]at e;cases e
    .rw[G _ _ (kk _ _ q hc)]at e;cases e
  exact bu.same (old.trans (bp Z kp)) _ _ r5
 .rintro σ H3 ⟨v6,v7,as,rfl,RM,kk,hR⟩;rw[À,ä]at hR;have M:a8 J H3:=λc o e=>kk _ _ (sb _ _ e) (a9 e D);have DI:=Mg.trans M;have RN:=M _ _ hh;refine{2,S,rfl,{_,aG.of RN},λlw LO=>?_};refine comp_map (Hs f) (aH K S ((aj ls f).map V.str)) LO (by rw[À];exact aq ()) (λH' s'=>aG.of (s' _ _ RN)) (λz T Q' hz G Y=>?_) (λT G Oj=>?_)
  .let{p,hp,rfl}:=Ç.mp hz
   have g3:=cB.rd (k:=(Ã p:Key)) (hd.same (DI.trans G));rw[bT,hw p (Oi p hp)]at g3;exact{2,d,1,g3,Y T (a8.refl _)}
  rw[oF]at Oj;have I:=G _ _ RM;have Xo:=G _ _ RN;refine{1,λy dy ny RO Xp=>?_};have sm:a8 T (upd (upd T dy (.own y)) y (.ins L.aw dy [])):=du ny RO;refine{y,dy,.ref S,.ref lw,.ref C,aj ls f,(aj ls f).map f,bz g u ss ls n (aj ls f),rfl,a5,nr (sm _ _ Xo),iH (sm _ _ Oj),?_,(),by rw[À];lia,by unfold bz;rw[À];lia,?_,λa' b' c' R RP r1 r2 r3 Xq=>{rfl,?_}}
  .have Xr:b7 K T ((aj ls f).map λp=>bR (fk g u ss ls n (aj ls f) p)) as:=b7.same ((cU _ _).trans G) _ _ hR;refine{C,as,rfl,.inl (sm _ _ I),?_}
   have e:(bz g u ss ls n (aj ls f)).map bR=(aj ls f).map λp=>bR (fk g u ss ls n (aj ls f) p):=by
    unfold bz;rw[Ê];rfl
   rw[e];exact b7.same sm _ _ Xr
  .intro l hl
   let{p,1}:=Ç.mp hl
   have:=Ah g u ss ls n (aj ls f) p
   lia
  .have X:a8 T R:=λc o e=>Xq _ _ (sm _ _ e) (a9 e ny);refine k y R (DI.trans (G.trans X)) ?_;have RQ:H y=τ:=none_of (DI.trans G) ny;have nw:=λ(d:iQ) (v:V) (r:bu K (aE _ R) d v)=>bu.same (dA ((DI.trans G).trans sm)) d v r;exact{dy,a',b',c',bJ RQ RP,nw _ _ r1,nw _ _ r2,nw _ _ r3}
theorem uF(L:Lk K mg):aP P w K mg base cI 1 L.nN L.o6 ["_law_row","_law_words"] (Ld K):=by
 have T:=L.T;refine L.oq.F.dC (N:=["_law_row","_law_words","_law_size","_law_end"]) (λY A outer s H vs Q E nd hr h=>?_)
 let{r,a,B,ss,rfl,S,pm,b,Z,U,BL,k}:=h
 refine{_,(a6 (forA (Dr rfl T.range (a7 (ax (oM rfl) (by rfl) T.min HW (a7 (DH T.len (0)) (aC ag))) (a7 ag (aC (JA En ag))))) (au (i:=2)) (a6 (af (i:=3) (cS rZ (0) (cL (aK oK (DH T.len (0)) (2))) fY))
  (ae (bg (bF (ax (jP rfl) (by rfl) T.any EX (aC (bZ rfl (ak ["_law_size","_law_end"] [2,3]) (aL (1)) (λ_ _ _ _ _ _=>b9) (λ_ _ _ _ _ _=>(sf (dj iA (DH T.len (0)) (1) (i9 _)) (rJ (dj pz (cS rZ (0) fY (cL (1))) (2) (i9 _))))))))) (ae (av (3))) aI))))
  (ae (av bO))),?_}
 ac_rfl
 obtain⟨M,eM,ZE,ZF,g⟩:∃M:Nat,(if (4:Int)<(r.9:Int) then(4:Int) else(r.9:Int))=(M:Int)/\M<=4/\M<=r.9/\r.9-M<=r.9-4:=by
  by_cases z:(4:Int)<(r.9:Int)
  .exact⟨4,if_pos z,1.0,1.0,1.0⟩
  .exact{r.9,if_neg z,1.0,1.0,1.0}
 refine⟨_,rfl,r,rfl,aq 1.0,_,_,rfl,_,rfl,(M:Int),0,congrArg (λz=>[V.int z,.int 0,.int (-1)]) eM,{1.0,1.0,1.0,1.0},?_⟩;rw[show ((M:Int)-0).toNat=M by omega];refine f9 (xM (M:Int) (-1) M) (λi σ t=>a8 H t/\(∃C D,σ=[ρ (.str r),ρ (.ref a),C,D])/\∀m,r.9-M<=m->m<r.9-M+i->iY B (cb r m)=false) {a8.refl _,⟨τ,τ,rfl⟩,λm c u=>1.0} (λ_ _ _ _ _=>trivial) ?_ ?_
 .rintro i x σ t G ⟨d,⟨C,D,rfl⟩,f⟩
  have hi:i<M:=by
   have:=(Ö.mp G).1;rw[À,Ă]at this;exact this
  have ex:x=.int ((M:Int)+(i:Int)*(-1)):=by
   rw[È,wgK hi]at G;exact(Î G).symm
  rw[ex];obtain⟨sz,I⟩:∃sz:Nat,(M:Int)+(i:Int)*(-1)=(sz:Int):={M-i,1.0};rw[I];obtain⟨n,hn⟩:∃n,n=r.9-M+i:={_,rfl};have ec:(r.9:Int)-(sz:Int)=(n:Int):=1.0;rw[<-hn]at f;have J:n<r.9:=1.0;have dl:(cb r n).9=sz:=by rw[<-aM,iZ,ď,aM];omega
  refine{2,r,rfl,aq 1.0,1,_,1,rfl,1,r,rfl,aq 1.0,?_};rw[ec];refine{1,a,rfl,{_,d.seq S},λl hl=>?_};refine comp_map (By sz (cb r n)) (aH K a (B.map V.str)) hl (by rw[À];exact aq 1.0) (λH' s'=>(d.trans s').seq S) (λy v Q' hy _ q=>?_) (λv X j=>?_)
  .let{w,hw,rfl}:=Ç.mp hy
   have w5:=b w hw;refine{1,w,rfl,aq 1.0,1,_,1,rfl,1,?_};refine rx (λc=>?_) (λc=>?_)
   .refine{3,w,rfl,aq 1.0,1,rfl,?_};have o:=q v (a8.refl _)
    have O:By sz (cb r n) (.str w)=.bl (decide (V.str (eW w sz)=V.str (cb r n))):=by
     show V.bl (decide ((w.9:Int)>(sz:Int))&&_)=_;rw[c,ő]
    rw[O]at o;exact o
   .have o:=q v (a8.refl _)
    have O:By sz (cb r n) (.str w)=.bl false:=by
     show V.bl (decide ((w.9:Int)>(sz:Int))&&_)=_;rw[wfa.mpr c,Š]
    rw[O]at o;exact o
  rw[AG sz _ dl]at j;refine{l,1,aG.of j,?_};rw[ŧ];refine{1,?_};show if iY B (cb r n)=true then _ else _
  refine rx (λu=>?_) (λu=>?_)
  .refine{1,?_};have e:=vR pm b U (n:=n) (n0:=r.9-M) g (ŷ J) f (.inr u);have p:=k v (d.trans X);rw[e]at p;exact p
  .refine{d.trans X,{_,1},λm R c=>?_}
   by_cases z:m=n
   .rw[z];exact wfa.mpr u
   .exact f m R 1.0
 .rintro σ t ⟨d,⟨C,D,rfl⟩,f⟩;rw[À,Ă]at f;have e:=vR pm b U (n:=r.9) (n0:=r.9-M) g (Å _) (λm R c=>f m R 1.0) (.inl rfl);have p:=k t d;rw[e,gk]at p;exact p
theorem uG(L:Lk K mg):aP P w K mg base cI 2 L.j8 L.o7 ["_law_signs","_law_words"] II:=by
 refine L.ot.F.dC (N:=["_law_signs","_law_words","_law_moves_here","_law_queue","_law_place_here","_law_sign","_law_goal"]) (λeZ A outer s H vs Q E nd hr h=>?_)
 let{g,lw,ws,ss,rfl,hS,ZG,zr,GQ,RT,Xs,pm,k}:=h
 have hu:=dG hr;have O6:(A.deeper (Α "_law_moves" (ay (top 85)) s.heap.objs.size L.j8 eZ)).units<ð:=hr.rG
 refine{_,(a6 (af (i:=2) cp)
  (a6 (af (i:=3) (bP (aC bO)))
  (a6 (fI Ō (cT (Lj O6) (3) (bP dW)) (a6 (af (i:=4) (zQ ă weA wgi EB (3)))
  (a6 (cu hu (2) (4) (bP dW) rfl)
  (ae (forA (rW (0)) (au (i:=5)) (ae (bg (bF (ai (xt L) L.qk (a7 (aK iV (4) (5)) (aC (1))))) (a6 (af (i:=6) (ai (uF L) L.oq (a7 (aK iV (4) (5)) (aC (1)))))
  (a6 (bo (gE ă Đ Ē cg (bS hu (2) (4) (λ_ _=>rfl)) (aC (6))))
  (ae (bg (PW.pt (rQ (wD (oO hu (6) (2))) (qQ (fz fZ (6) (3) rfl)))) (ae (bo (gE ă Đ Ē cg (3) (aC (6))))) aI)))) aI)))))))
  (ae (av (2)))))),?_}
 ac_rfl
 have Mh:("":Str)∈ss:=pm.mem_iff.mpr (bj ws);have GV:ss.Nodup:=pm.nodup_iff.mpr (hU ws)
 have zb:ss.9<=25:=by
  have:=gj (ws:=ws) (e:="") RT;rw[pm.length_eq];omega
 refine λd M=>?_;refine{by show 1<=sizeLine;decide,λf RU=>?_};have O:d≠f:=a9 a5 RU;have s0:a8 H (upd (upd H d (.dK [])) f (.lst [.str ""])):=(a8.upd M).trans (a8.upd RU);have Uc:(upd (upd H d (.dK [])) f (.lst [.str ""])) d=ρ (.dK (aR [])):=by rw[aa O,a5];rfl
 have Ud:(upd (upd H d (.dK [])) f (.lst [.str ""])) f=ρ (.lst ([("":Str)].map V.str)):=a5;have R:H f=τ:=none_of (a8.upd M) RU;generalize upd (upd H d _) f _=H0 at s0 Uc Ud;refine{W5 g ws ss lw d f H,{_,[],[""],τ,τ,τ,rfl,rfl,s0,Uc,Ud,λm h=>absurd h ċ,ó.mpr ⟨ċ,ĸ⟩,λp h=>by rw[Ó.mp h];exact Mh,Ó.mpr rfl,λm h=>absurd h ċ},?_};rintro q σ H3 ⟨mv,j,v4,v5,v6,rfl,rfl,s3,Xu,Xv,Ue,nd,sub,h0,cl⟩;refine{1,by show 0<=sizeLine;decide,λle hle=>?_};have Y:a8 H3 (upd H3 le (.lst [])):=a8.upd hle;have Ug:(upd H3 le _) le=ρ (.lst []):=a5;generalize upd H3 le _=H4 at Y Ug;have Uh:=Y _ _ Xu;have RV:=Y _ _ Xv;refine{f,le,1,rfl,aG.of RV,aG.of Ug,?_}
 by_cases Z:j=[]
 .subst Z;refine{false,rfl,bW ?_};rw[ý]at nd sub h0 cl;refine{1,k d mv H4 (s3.trans Y) M Uh ((List.perm_ext_iff_of_nodup nd GV).mpr λp=>{sub p,CV pm GQ Xs h0 (λp hp t C=>?_) p}) λm u=>Y _ _ (Ue m u).2}
  let{m,u,rfl}:=Ç.mp hp
  exact cl m u t C
 obtain⟨p,D,rfl,Ol,Om⟩:∃(p:Str) (D:List Str),j=D++[p]/\(j.map V.str)[(j.map V.str).9-1]?=ρ (.str p)/\(j.map V.str).dropLast=D.map V.str:=by
  refine{j.getLast Z,j.dropLast,(wcp Z).symm,?_,wf7.symm};rw[È,À,<-List.getLast?_eq_getElem?,List.getLast?_eq_some_getLast Z];rfl
 have Rv:p∉mv.map (·.1)++D:=λz=>(Ū.mp (by rw[<-Ā]at nd;exact nd)).2.2 _ z _ (Ó.mpr rfl) rfl;have xF:p∉mv.map (·.1):=λz=>Rv (Ĕ _ z);have JR:p∈ss:=sub p (ù _ (ù _ (Ó.mpr rfl)))
 have hpl:p.9<=4:=by
  rcases(ig ws).mp (pm.mem_iff.mp JR) with z |⟨w,hw,i,hi,z,_⟩
  .rw[z];exact à _
  .have:=RT w hw;rw[z,<-aM,kU,Û];omega
 have hlen:mv.9+(D.9+1)<=ss.9:=by
  have:=iG nd sub;rw[Ì,À,Ì]at this;exact this
 refine{true,congrArg V.bl (by cases D<;>rfl),cJ {_,λσ' H' h=>h,?_}};refine{1,.inl {rfl,_,aG.of RV},f,_,1,rfl,RV,Ol,?_};rw[Om];have k5:∀c o,H4 c=ρ o->c≠f->(upd H4 f (.lst (D.map V.str))) c=ρ o:=λc o e n=>by rw[aa n];exact e
 have RW:(upd H4 f _) f=ρ (.lst (D.map V.str)):=a5;generalize upd H4 f _=H5 at k5 RW;have RX:=k5 _ _ Uh O;refine{by show 0<=sizeLine;decide,λa ha=>?_};have RY:f≠a:=a9 RW ha;have S:d≠a:=a9 RX ha;refine{2,d,1,gX.k (k:=Ã p) (by rw[aa S];exact RX) (by unfold aR;rw[À];exact aS ()),?_};rw[cR _ (fb xF),show aR mv++[((Ã p:Key),V.ref a)]=aR (mv++[(p,a)]) by unfold aR;rw[Ò];rfl];have k6:∀c o,H5 c=ρ o->c≠d->(upd (upd H5 a (.lst [])) d (.dK (aR (mv++[(p,a)])))) c=ρ o:=λc o e n=>by rw[aa n,aa (a9 e ha)];exact e
 have RZ:(upd (upd H5 a (.lst [])) d _) d=ρ (.dK (aR (mv++[(p,a)]))):=a5;have Ui:(upd (upd H5 a (.lst [])) d (.dK (aR (mv++[(p,a)])))) a=ρ (.lst []):=by rw[aa S.symm,a5]
 generalize upd (upd H5 a _) d _=H6 at k6 RZ Ui;have Xw:=k6 _ _ RW O.symm;have Uj:(mv++[(p,a)]).map (·.1)++D=mv.map (·.1)++([p]++D):=by rw[Ò,Ā];rfl
 have Oo:∀x,x∈(mv++[(p,a)]).map (·.1)++D↔x∈mv.map (·.1)++(D++[p]):=λx=>by rw[Uj,Ú,Ú,Ú,Ú,Or.comm (a:=x∈[p])]
 refine{1,g,rfl,f9 (jI g) (W6 g ws ss lw d f a p mv H6) {D,_,1,Xw,Ui,λc o e _ _=>e,?_,λx r=>sub x ((Oo x).mp r),(Oo _).mpr h0,λm u t C=>(Oo t).mpr (cl m u t C),λt C=>?_} (λ_ _ _ _ _=>trivial) ?_ ?_}
 .rw[Uj];exact(List.Perm.append_left _ List.perm_append_comm).nodup_iff.mp nd
 .unfold eN at C;rw[ι]at C;cases C
 .rintro i y σ H7 hy ⟨j,v5,v6,rfl,PD,T,kk,v,b,G,I,B⟩
  let{c,Xg,rfl,hq,U5,LL}:=vC hy
  have S0:mv.9+1+j.9<=ss.9:=by
   have:=iG v b;rw[Ì,À,Ì]at this;exact this
  have ZH:(p++({#[c]}:Str)).length=p.9+1:=len_app _ _;have el:({#[c]}:Str).length=1:=rfl;have Uk:H7 lw=ρ (.lst (ws.map V.str)):=kk _ _ (k6 _ _ (k5 _ _ (Y _ _ (s3 _ _ hS)) (a9 hS R)) (a9 hS M)) (a9 hS R) (a9 (k5 _ _ (Y _ _ (s3 _ _ hS)) (a9 hS R)) ha);have Xx:=kk _ _ RZ O S
  have l:eN g ws ss p (i+1)=eN g ws ss p i++if bears ws (p++{#[c]})=true then[] else[lend ss (p++{#[c]})]:=by
   unfold eN;rw[LL,web];congr 1;cases hb:bears ws (p++⟨#[c]⟩)<;>simp[hb]
  refine{2,_,1,rfl,aq 1.0,1,_,lw,ws,rfl,aG.of Uk,1.0,λH8 s8=>{1,?_}}
  cases hb:bears ws (p++⟨#[c]⟩) with
  |true=>
   rw[hb,if_pos rfl,ý]at l;exact bW {j,_,1,s8 _ _ PD,by rw[l];exact s8 _ _ T,λc o e X n2=>s8 _ _ (kk c o e X n2),v,b,G,I,by rw[l];exact B}
  |false=>
   rw[hb,if_neg ß]at l;refine MG rfl ?_;refine{2,_,1,rfl,aq 1.0,1,_,lw,ws,ss,rfl,aG.of (s8 _ _ Uk),pm,RT,1.0,hb,1.0,λH9 s9=>?_};have JT:=s8.trans s9;have Ul:=JT _ _ Xx;have Xy:=JT _ _ PD;have Um:=JT _ _ T;have Oq:lend ss (p++{#[c]})∈ss:=nA Mh _;generalize lend ss (p++{#[c]})=t at l Oq;have ga:=cB.k (k:=(Ã p:Key)) Ul
   let{J,Xz,ev}:=di (mv:=mv++[(p,a)]) (k:=p) (by rw[Ò];exact ù _ (Ó.mpr rfl))
   obtain rfl:J=a:=by
    rcases Ú.mp Xz with z |z
    .exact absurd (Ç.mpr {_,z,rfl}) xF
    .exact(Ű (Ó.mp z)).2
   rw[ev]at ga
   have TH:(eN g ws ss p i).9<=4:=by
    unfold eN;refine Ï (wcM _ _) ?_;rw[Û,aM];omega
   refine{2,d,1,ga,.inl {rfl,_,aG.of Um},1,J,_,1,rfl,Um,by rw[À];exact aS 1.0,?_};rw[show (eN g ws ss p i).map V.str++[V.str t]=(eN g ws ss p (i+1)).map V.str by rw[l,Ò];rfl];have kA:∀c o,H9 c=ρ o->c≠J->(upd H9 J (.lst ((eN g ws ss p (i+1)).map V.str))) c=ρ o:=λc o e n=>by rw[aa n];exact e
   have PF:(upd H9 J _) J=ρ (.lst ((eN g ws ss p (i+1)).map V.str)):=a5;generalize upd H9 J _=HA at kA PF;have XA:=kA _ _ Ul S;have U:=kA _ _ Xy RY;have S2:∀c o,H6 c=ρ o->c≠f->c≠J->HA c=ρ o:=λc o e X n2=>kA _ _ (JT _ _ (kk c o e X n2)) n2;have gm:=cB.k (k:=(Ã t:Key)) XA
   by_cases u:t∈(mv++[(p,J)]).map (·.1)
   .let{_,_,XE}:=di u
    rw[XE]at gm
    exact{2,d,1,gm,false,rfl,bW (bW {j,_,1,U,PF,S2,v,b,G,I,λx r=>by
     rw[l]at r;rcases Ú.mp r with z |z
     .exact B x z
     .rw[Ó.mp z];exact Ĕ _ u})}
   .rw[fb u]at gm;refine{2,d,1,gm,true,rfl,cJ {2,f,1,.inl (aG.of U),rfl,dh _,!decide (t∈j),by rw[<-fG];rfl,?_}}
    by_cases hq:t∈j
    .rw[decide_eq_true hq]
     exact bW {j,_,1,U,PF,S2,v,b,G,I,λx r=>by
      rw[l]at r;rcases Ú.mp r with z |z
      .exact B x z
      .rw[Ó.mp z];exact ù _ hq}
    .rw[decide_eq_false hq];refine cJ {1,.inl {rfl,_,aG.of U},1,f,_,1,rfl,U,by rw[À];exact aS (),?_};have O2:∀x,x∈(mv++[(p,J)]).map (·.1)++j->x∈(mv++[(p,J)]).map (·.1)++(j++[t]):=λx r=>by rw[<-Ā];exact Ĕ _ r
     have XF:t∈(mv++[(p,J)]).map (·.1)++(j++[t]):=ù _ (ù _ (Ó.mpr rfl));refine{j++[t],_,1,by rw[a5,Ò];rfl,by rw[aa RY.symm];exact PF,λc o e X n2=>by rw[aa X];exact S2 c o e X n2,?_,λx r=>?_,O2 _ G,λm u t C=>O2 _ (I m u t C),λx r=>?_}
     .rw[<-Ā]
      exact Ū.mpr {v,ó.mpr ⟨ċ,ĸ⟩,λx r y hy z=>by
       rw[Ó.mp hy]at z;rw[z]at r;rcases Ú.mp r with w |w
       .exact u w
       .exact hq w}
     .rw[<-Ā]at r;rcases Ú.mp r with z |z
      .exact b x z
      .rw[Ó.mp z];exact Oq
     .rw[l]at r;rcases Ú.mp r with z |z
      .exact O2 _ (B x z)
      .rw[Ó.mp z];exact XF
 .rintro σ H7 ⟨j,v5,v6,rfl,PD,T,kk,v,b,G,I,B⟩
  have ee:eN g ws ss p (cK g).9=aN g ws ss p:=by
   unfold eN aN;rw[show (cK g).9=(ch g).length by unfold cK;rw[À],ä]
  rw[ee]at T B;refine{_,?_,mv++[(p,a)],j,_,v5,v6,rfl,rfl,λc o e=>?_,kk _ _ RZ O S,PD,λm u=>?_,v,b,G,λm u t C=>?_}
  .rw[Ì];show ss.9-(mv.9+1)<ss.9-mv.9
   lia
  .have e5:=k5 _ _ (Y _ _ (s3 _ _ e)) (a9 e R);exact kk _ _ (k6 _ _ e5 (a9 e M)) (a9 e R) (a9 e5 ha)
  .rcases Ú.mp u with z |z
   .let{X,h1}:=Ue m z
    have e5:=k5 _ _ (Y _ _ h1) X;refine{X,kk _ _ (k6 _ _ e5 λz=>?_) X (a9 e5 ha)};rw[z,RX]at e5;cases e5
   .rw[Ó.mp z];exact⟨RY.symm,T⟩
  .rcases Ú.mp u with z |z
   .exact I m z t C
   .rw[Ó.mp z]at C;exact B t C
end
end K70
namespace PySem
section
variable{P:É}{W0:World}{B:Around}{R:ī->Shared->Prop}{I:Addr}{fp wr:List Addr}{n:Nat}{Pr:Nat->Value->Prop}{St:Nat->Heap->Prop}
theorem uH(W:Walks P W0 B.in1 I fp wr n Pr St)(bt:Nat->Nat->Bool)(cmp:CmpOf P W0 B.in1 .Gt Pr bt)(S:Addr)(nS:S∉fp)(kw:List (Str×Value)) :
 ∀(k j:Nat) (z:Shared) (best:Value) (c:Nat),n-(j+1)=k->j+1<=n->St (j+1) z.heap->Pr (argBest bt j) best->z.heap.get? S=ρ {cls:=.type "list",dict:=τ,data:=.seq #[best,best] c,slots:=#[]} ->
 (∀v h' tk,Pr (argBest bt (n-1)) v->(∀b o,b∉wr->b≠S->z.heap.get? b=ρ o->h'.get? b=ρ o)->R (.ok (.ret v)) {z with heap:=h',toks:=tk}) ->
 codeAny (model P W0) B (.builtin "max.loop" {[.ref I,.none,.ref S],kw}) R z:=by
 have PH:S∉wr:=λh=>nS (W.sub _ h);have nm:(toString "max"++toString ".loop":String)="max.loop":=⋯;intro k
 induction k with
 |zero=>
  intro j z best c hk hj st pb gS fin;have last:j+1=n:=1.0;refine Ĭ we5 ?_;rw[Ņ Ŀ _];show wpAny _ B.in1 (Ţ (.ref S) >>= _) _ _ z;refine Â (š gS rfl ?_);show wpAny _ B.in1 (tryCatch (pyNext (.ref I)) _ >>= _) _ _ z;refine Â (ĝ (W.done z _ _ (last ▸ st) λh' tk kp=>?_));have JU:=kp S _ PH gS;show wpAny _ B.in1 (wgZ S (λ_=>#[]) >>= _) _ _ _;refine Â (Ż JU rfl (Â (ř (Í ?_))));exact fin best _ tk (by rw[<-last];exact pb) λb o h1 h2 e=>(Ċ _ _ (è h2)).trans (kp b o h1 e)
 |succ k ih=>
  intro j z best c hk hj st pb gS fin;have more:j+1<n:=1.0;refine Ĭ we5 ?_;rw[Ņ Ŀ _];show wpAny _ B.in1 (Ţ (.ref S) >>= _) _ _ z;refine Â (š gS rfl ?_);show wpAny _ B.in1 (tryCatch (pyNext (.ref I)) _ >>= _) _ _ z;refine Â (ĝ (W.item (j+1) z _ _ more st λv h' tk hP PL kp=>?_));have JU:=kp S _ PH gS;show wpAny _ B.in1 (tryCatch (holding [v,v] (richCompare .Gt v best >>= _)) _ >>= _) _ _ _;refine Â (ĝ (ö (Â (cmp (j+1) (argBest bt j) v best _ _ _ hP pb ?_))));refine Â (ö (Ł (Â (ř (Í ?_)))))
  cases hb:bt (j+1) (argBest bt j) with
  |true=>
   simp only[if_true];refine Â (Ż JU rfl (Â (ř ?_)));rw[nm];refine Í {Ľ Ŀ _,ih (j+1) _ v _ 1.0 more (W.frame _ _ _ PL λb Uo o e=>?_) (by simp only[argBest,hb,if_true];exact hP) (Ő _ JU rfl) λv' h2 Ot Ou Ov=>?_}
   .exact(Ċ _ _ (λh:S=b=>nS (by rw[h];exact Uo))).trans e
   .exact fin v' h2 Ot Ou λb o h1 h3 e=>Ov b o h1 h3 ((Ċ _ _ (è h3)).trans (kp b o h1 e))
  |false=>
   simp only[ŋ,if_false];refine Â (ř ?_);rw[nm];refine Í {Ľ Ŀ _,ih (j+1) _ best c 1.0 more PL (by simp only[argBest,hb,ŋ,if_false];exact pb) JU λv' h2 Ot Ou Ov=>?_};exact fin v' h2 Ot Ou λb o h1 h3 e=>Ov b o h1 h3 (kp b o h1 e)
theorem ud(W:Walks P W0 B.in1 I fp wr n Pr St)(bt:Nat->Nat->Bool)(cmp:CmpOf P W0 B.in1 .Gt Pr bt)(S:Addr)(nS:S∉fp)(kw:List (Str×Value))(pos:0<n)(st:St 0 z.heap)(gS:z.heap.get? S=ρ {cls:=.type "list",dict:=τ,data:=.seq #[] c,slots:=#[]})
 (fin:∀v h' tk,Pr (argBest bt (n-1)) v->(∀b o,b∉wr->b≠S->z.heap.get? b=ρ o->h'.get? b=ρ o)->R (.ok (.ret v)) {z with heap:=h',toks:=tk}):codeAny (model P W0) B (.builtin "max.loop" {[.ref I,.none,.ref S],kw}) R z:=by
 have PH:S∉wr:=λh=>nS (W.sub _ h);have nm:(toString "max"++toString ".loop":String)="max.loop":=⋯;refine Ĭ we5 ?_;rw[Ņ Ŀ _];show wpAny _ B.in1 (Ţ (.ref S) >>= _) _ _ z;refine Â (š gS rfl ?_);show wpAny _ B.in1 (tryCatch (pyNext (.ref I)) _ >>= _) _ _ z;refine Â (ĝ (W.item 0 z _ _ pos st λv h' tk hP PL kp=>?_));have JU:=kp S _ PH gS;show wpAny _ B.in1 (wgZ S (λ_=>#[v,v]) >>= _) _ _ _;refine Â (Ż JU rfl ?_);rw[nm];refine Í {Ľ Ŀ _,uH W bt cmp S nS kw _ 0 _ v _ rfl pos (W.frame _ _ _ PL λb Uo o e=>?_) hP (Ő _ JU rfl) λv' h2 Ot Ou Ov=>?_}
 .exact(Ċ _ _ (λh:S=b=>nS (by grind))).trans e
 .exact fin v' h2 Ot Ou λb o h1 h3 e=>Ov b o h1 h3 ((Ċ _ _ (è h3)).trans (kp b o h1 e))
theorem uI(W:Walks P W0 B.in1 I fp wr n Pr St)(S:Addr)(nS:S∉fp)(dv:Value)(Ow:n=0)(st:St 0 z.heap)(gS:z.heap.get? S=ρ {cls:=.type "list",dict:=τ,data:=.seq #[] c,slots:=#[]})
 (fin:∀h' tk,(∀b o,b∉wr->b≠S->z.heap.get? b=ρ o->h'.get? b=ρ o)->R (.ok (.ret dv)) {z with heap:=h',toks:=tk}):codeAny (model P W0) B (.builtin "max.loop" {[.ref I,.none,.ref S],[(į "default",dv)]}) R z:=by
 refine Ĭ we5 ?_;rw[Ņ Ŀ _];show wpAny _ B.in1 (Ţ (.ref S) >>= _) _ _ z;refine Â (š gS rfl ?_);show wpAny _ B.in1 (tryCatch (pyNext (.ref I)) _ >>= _) _ _ z;refine Â (ĝ (W.done z _ _ (Ow ▸ st) λh' tk kp=>?_));have done:=fin h' tk λb o h1 _ e=>kp b o h1 e
 wp_walk
 exact done
theorem uJ(a v:Value):argsOk "max" {[a],[(į "default",v)]}:=by unfold argsOk;kernel_rfl
end
section
variable{P:É}{W0:World}{B:Around}{E:Value->Shared->Prop}{z:Shared}
theorem uK{Q:Value->Shared->Prop}(hh:B.handled=τ)(il:z.heap.IsList l (intItems xs))
 (he:xs.size=0->∀h' tk,(∀b o,z.heap.get? b=ρ o->h'.get? b=ρ o)->Q dv {z with heap:=h',toks:=tk})
 (hn:0<xs.size->∀v h' tk,(intItems xs)[argBest (λi j=>decide (numAt xs i>numAt xs j)) (xs.size-1)]?=ρ v->(∀b o,z.heap.get? b=ρ o->h'.get? b=ρ o)->Q v {z with heap:=h',toks:=tk}) :
 wpAny (model P W0) B (call (.builtin "max") [.ref l] [(į "default",dv)]) Q E z:=by
 have nm:(toString "max"++toString ".loop":String)="max.loop":=⋯;refine whK F.kind_max F.plain_max F.entry_max (uJ _ _) ?_;show wpAny _ B.in1 (wcu "max" ["key","default"] 0 {[],[(į "default",dv)]} >>= _) _ _ z;refine Â (whk (show wcu "max" ["key","default"] 0 {[],[(į "default",dv)]}=pure [τ,ρ dv] from rfl) ?_);refine Â (Í (Â (iter_intList il λs₂ e st XG O1=>?_)));subst e;refine Â (wf3 ?_);rw[nm];have W:=Δ (prog:=P) (w:=W0) (A:=B.in1) hh z.heap.objs.size l O1 (intItems xs);have nS:(z.heap.push {cls:=.type "list_iterator",data:=.fields #[.ref l,.int 0 0]}).objs.size∉[z.8,l]:=λhm=>þ _ (XG _ hm)
 have keep:∀{h':Heap},(∀b o,b∉[z.8]->b≠(z.heap.push {cls:=.type "list_iterator",data:=.fields #[.ref l,.int 0 0]}).7->((z.heap.push {cls:=.type "list_iterator",data:=.fields #[.ref l,.int 0 0]}).push {cls:=.type "list",data:=.seq #[]}).get? b=ρ o->h'.get? b=ρ o)->∀b o,z.heap.get? b=ρ o->h'.get? b=ρ o:=λ{h'} hk b o e=>by
  have lt:=Ë e;refine hk b o (λhm=>?_) (λh=>?_) (Ð _ (Ð _ e))
  .rw[Ó.mp hm]at lt;exact þ _ lt
  .rw[Ĝ]at h;rw[h]at lt;exact absurd (show z.8+1<z.heap.objs.size from lt) ()
 by_cases h0:xs.size=0
 .refine Í {Ľ Ŀ _,uI W _ nS dv (by simp[intItems,h0]) (W.frame _ _ _ st λb _ o e=>Ð _ e) (ã _ rfl) λh' tk hk=>?_};exact he h0 h' tk (keep hk)
 .refine Í {Ľ Ŀ _,ud W _ (CmpOf.ints_gt (numAt xs) (λ_ _=>whi)) _ nS _ (by simp[intItems];lia) (W.frame _ _ _ st λb _ o e=>Ð _ e) (ã _ rfl) λv h' tk hP hk=>?_};exact hn () v h' tk (by simpa [intItems] using hP) (keep hk)
end
end PySem
namespace Up
open PyProof.Rows PySem.W PySem.Calls
theorem qG:∀(ns:List Int) (vs:List Value),WellAll P h vs (ns.map WData.int)->IntsAre vs ns:=by
 intro ns
 induction ns with
 |nil=>
  intro vs w;rw[Ο]at w;cases w;exact .nil
 |cons n ns c=>
  intro vs w;rw[Ñ]at w
  cases w with
  |cons a b=>
   cases a;exact .cons _ _ (c _ b)
theorem Dv{l:Ŷ}{n:Nat}(hn:l.most=ρ n){P:Params}{h:Heap}{args:List WData}{g:List Value}
 (j:l.row.toRowW.claim.pre args=true) (o:WellAll P h g args) :
 ∃a vs ns,g=[Æ a]/\args=[WData.list (ns.map WData.int)]/\h.get? a=ρ {cls:=.type "list",data:=.seq vs.6}/\IntsAre vs ns/\ns.9<=n:=by
 have i:WShape.hasAll [] args [.list .int]=true:=(pre_splitW j).1;have hc:l.pre.holds [] {args:=args}=true:=(pre_splitW j).2
 let{d,r,rfl,k,m}:=hasAllW_cons i
 obtain rfl:=hasAllW_nil m
 let{w,rfl,p}:=hasW_list k
 let{ns,rfl}:=items_int p
 have b:ns.9<=n:=by
  unfold OpenLaw.pre at hc
  have e:(WTm.not (.lt (.lit (.int (n:Int))) (.len (.arg 0)))).holds [] {args:=[.list (ns.map .int)]}=true:=by
   have e:=(holds_andW hc).1;rw[hn]at e;exact e
  have f:=condW_of e (w_not (w_lt w_lit (w_len_list (w_arg rfl))));rw[À]at f;refine why λq=>?_;have s:(n:Int)<((ns.9:Nat):Int):=1.0
  first
   |(rw[decide_eq_true s]at f;exact absurd f ⋯)
   |(simp at f;omega)
 cases o with
 |cons t u=>
  cases u
  cases t with
  |list v c=>exact{_,_,ns,rfl,rfl,v,qG ns _ c,b}
theorem Dw(l:Ŷ)(args:List WData):l.row.toRowW.claim.post args (.bool true) args=true:=
 postW_of (r:=l.row.toRowW) (X:=(true==true))
  (show WShape.has [] (.bool true) .bool=true by first |rfl |decide |simp[WShape.has,WShape.arms,WShape.armsAll])
  (show (WTm.eq .res (.lit (.bool true))).value [] {args:=args,res:=ρ (.bool true),after:=args}=ρ (.bool (true==true)) from w_eq_bool (w_res rfl) w_lit) rfl
theorem zg{l:Ŷ}{n:Nat}{q:É}{loose:List Str}{XP:(Str->Option Value)->Heap->Prop}{YP:World->Heap->Prop}{d:DefRec}
 (hn:l.most=ρ n) (t:d.params.defaults=[])
 (call:∀(w:World) (s₀ g:Shared) (mg C:Str->Option Value) (p:Addr) (o:Obj) (pm cd j:Value) (a:Addr) (vs:List Value) (ns:List Int),
   Ground q loose [] XP w s₀ mg C g.heap->YP w g.heap ->
   g.heap.get? p=ρ o->o.data=.func (docDef d.name d.params d.body d.scope pm cd j)->g.heap.CodeRec cd d.name->mg d.name=ρ (.ref p) ->
   g.heap.get? a=ρ {cls:=.type "list",data:=.seq vs.6}->IntsAre vs ns->ns.9<=n->g.gens=#[] ->
   codeAny (model l.prog w) callerA (.call (.ref p) {[.ref a],[]}) (λr s'=>r=.ok (.ret (.bool true))/\OldK g.heap s'.heap/\s'.os=g.os/\AllBare s'.gens) g) :
 whz q loose XP YP l.row.toRowW d [] (λf vs=>whJ f vs):=by
 intro w s₀ g mg C G Y p o pm cd j x kV y hd i s k z args u as c v A m B;obtain rfl:x=.none:=Dflts.none s t;obtain rfl:kV=.none:=Dflts.noKw s
 let{a,vs,ns,rfl,rfl,e,b,h}:=Dv hn c m
 refine enter_call (ē (call w s₀ g mg C p o pm cd j a vs ns G Y y (fd_plain hd) i k e b h z) λr s' D=>?_)
 let{rfl,E,H,I}:=D
 exact{.inl {.bool true,.bool true,[],rfl,λ_=>rfl,.bool true,Dw l _,λ_=>{List.Pairwise.nil,λ_ J=>(nomatch J)}},E,H,I}
end Up
namespace Sx
inductive Dx(K:Á)(C:Addr)(vs:List V)(H:Hp)(Q:VK)(dJ:XK):Prop
 |mk (x:Addr) (d:Nat) (hs:List Str) (ws:List Int) (lns:List (List (Str×Nat))) (_:vs=[.ref x,.int (d:Int)]) (_:bM K C H x hs ws lns) (_:d<lns.9) (_:(∀l∈lns,∀q∈l,q.2<lns.9)) (_:lns.getD d []≠[]) (_:lns.9<=1000) (_:∀(l:Addr) (rs:List Nat) (H':Hp),a8 H H'->H l=τ->H' l=ρ (.lst ((nI rs).map V.int))->Reach lns rs->Q (.ref l) H')
inductive Gx(K:Á)(C CP CS CX CO:Addr)(vs:List V)(H:Hp)(Q:VK)(E:XK):Prop
 |mk (x:Addr) (many:Int) (n:Nat) (g:Str) (bw ss ls:List Str) (_:vs=[.ref x,.int many,.int (n:Int)]) (_:aU C H x g bw ss ls) (_:(∀w∈bw,1<=w.9)) (_:(ch g).Nodup) (_:2<=g.9) (_:g.9<=10) (_:ss.9<=900) (_:fh g.length many n) (_:(lj g bw ss many n->∀(y:Addr) (f0 f:Str->Int) (rg:List DF) (ks:List Nat) (hs:List Str) (ws:List Int) (lns:List (List (Str×Nat))) (H':Hp),a8 H H'->oZ K CP CS (aE H H') y (bx f ls) rg ks hs ws lns->gb g bw ss ls many n f0->(∀p∈ls,f p<=f0 p)->Gr g bw ss ls many n f rg ks hs ws lns->Q (.ref y) H')) (_:Pj CX g bw ss many n H E) (_:(lj g bw ss many n->fC g bw ss ls many n->∀H',a8 H H'->E (.ref CO) τ H'))
inductive Gy(K:Á)(vs:List V)(H:Hp)(Q:VK)(dJ:XK):Prop
 |mk (v:V) (d:Nat) (a:Addr) (many:Int) (n:Nat) (wl:List (List (Str×Nat))) (ts:List Nat) (_:vs=[v,.int (d:Int),.ref a]) (_:bu K H (mz wl) v) (_:aG K H a ((nI ts).map V.int)) (_:Ob many n wl) (_:d<wl.9) (_:(∀t∈ts,(t:Int)<many)) (_:ts.9<=100000) (_:n<=10) (_:∀p H',a8 H H'->H' p=ρ (.tup [.str (fL wl d ts).1,.int ((fL wl d ts).2:Int)])->Q (.ref p) H')
inductive Dy(K:Á)(C CB CP CS CX CO:Addr)(vs:List V)(H:Hp)(Q:VK)(E:XK):Prop
 |mk (x dx xb:Addr) (many:Int) (n:Nat) (g:Str) (bw ss ls:List Str) (_:vs=[.ref x,.ref xb,.int many,.int (n:Int)]) (_:H x=ρ (.ins C dx [])) (_:aU CB H xb g bw ss ls) (_:(∀w∈bw,1<=w.9/\w.9<=900)) (_:bw.9<=1000) (_:("":Str)∈ss) (_:(ch g).Nodup) (_:2<=g.9) (_:g.9<=10) (_:ss.9<=900) (_:fh g.length many n) (_:(lj g bw ss many n->∀(p a l:Addr) (f0 f:Str->Int) (rg:List DF) (ks:List Nat) (hs:List Str) (ws:List Int) (lns:List (List (Str×Nat))) (b:Nat) (H':Hp),(∀c o,H c=ρ o->c≠x->H' c=ρ o)->H' x=ρ (.ins C dx (IY p xb many (n:Int) a l (fL (qA lns ks many.toNat) 0 (ë b 0)).1 ((fL (qA lns ks many.toNat) 0 (ë b 0)).2:Int)))->oZ K CP CS (aE H H') p (bx f ls) rg ks hs ws lns->bu K (aE H H') (sT (ks.map λd=>hs.getD d "")) (.ref a)->bu K (aE H H') (mz (qA lns ks many.toNat)) (.ref l)->gb g bw ss ls many n f0->(∀p∈ls,f p<=f0 p)->Gr g bw ss ls many n f rg ks hs ws lns->Ob many n (qA lns ks many.toNat)->F5 bw n b->Q .non H')) (_:Pj CX g bw ss many n H E) (_:(lj g bw ss many n->fC g bw ss ls many n->∀H',a8 H H'->E (.ref CO) τ H'))
end Sx
namespace HT
open PyProof.Rows
section
variable{prog:É}{w:World}{A:Around}{E:Value->Shared->Prop}{s:Shared}
theorem Jg{Q:Value->Shared->Prop}(o:IsTup s.heap t vs.6)(p:IsTup s.heap b ws.6)(j:vs≠[])
 (r:ws=[]->Q (.ref t) s) (C:ws≠[]->Q (.ref s.8) {s with heap:=s.heap.push {cls:=.type "tuple",data:=.seq (vs++ws).6}})
 (hsz:vs.9+ws.9<=sizeLine):wpAny (model prog w) A (binaryOp .Add (.ref t) (.ref b)) Q E s:=by
 let{{cls,i,data,sl},h,hc,n,hd}:=id o
 let{{k,c,data2,d},a,f,l,g}:=id p
 simp only at hc hd f g;subst hc hd f g;have e:vs.6++ws.6=(vs++ws).6:=by simp
 by_cases hw:ws=[]
 .exact concat_meets {_,h,rfl} {_,a,rfl} noFill_tuple_add seq_tuple_add wg6 wfE (wfv _ _)
   (tuple_addW1 t b vs.toArray ws.toArray n l i c sl d (by simpa using j) (by simp[hw])) {h,a,r hw}
 .refine concat_meets {_,h,rfl} {_,a,rfl} noFill_tuple_add seq_tuple_add wg6 wfE (wfv _ _)
   (tuple_addW2 t b vs.toArray ws.toArray n l i c sl d (by simpa using j) (by simpa using hw) (by rw[â,â];exact hsz)) {h,a,?_}
  rw[e];exact C hw
noncomputable def zh(n d:Nat):Option Int->Nat
 |none=>d
 |some v=>if v<0 then(v+(n:Int)).toNat else min v.toNat n
theorem Jh(n d k:Nat):zh n d (ρ (k:Int))=min k n:=by
 show (if (k:Int)<0 then((k:Int)+(n:Int)).toNat else min (k:Int).toNat n)=min k n;rw[if_neg (),î]
end
end HT
namespace L2
open PySem.Spec PyProof.Rows
section
variable{lo hi:Option Expr}
noncomputable def kH(xs:List V)(lo hi:Option Int):List V:=(xs.drop (HT.zh xs.length 0 lo)).take (HT.zh xs.length xs.length hi-HT.zh xs.length 0 lo)
theorem zi(xs:List V)(lo hi:Option Int):(kH xs lo hi).9<=xs.9:=by
 unfold kH;rw[Û,ď]
 lia
theorem Ji{l:Ŷ}{n k:Nat}{q:É}{loose:List Str}{XP:(Str->Option Value)->Heap->Prop}{YP:World->Heap->Prop}{d:DefRec}{K:Params->Á}{CX:World->DC}{sp:World->Sp}{x:Str}
 (hn:l.most=ρ n) (r:n<=sizeLine) (t:d.params.defaults=[]) (J:cG k callerA)
 (U:∀(w:World) (h:Heap),YP w h->(K w.params).In h)
 (F:∀(w:World) (mg:Str->Option Value) (p:Addr) (h:Heap),(K w.params).In h->h.Ns í mg->mg d.name=ρ (.ref p) ->
   ∃fd:ì,(∀(s:Shared) (u:Value),BindsTo s fd {[u],[]} [(x,u)]) /\
    ∀base:Heap,(K w.params).In base->base.Ns í mg->aP l.prog w (K w.params) mg base (CX w) k p fd [x] (sp w))
 (C:∀(w:World) (H:Hp) (a:Addr) (ns:List Int),ns.9<=n->Only H->aG (K w.params) H a (ns.map V.int)->sp w [.ref a] H (λv _=>v=.bl true) λ_ _ _=>False)
 (I:∀(w:World) (H:Hp) (s:Shared) (e:Value) (s':Shared),CX w [] H s (λ_ _ _=>False) e s'->False) :
 whz q loose XP YP l.row.toRowW d [] (λf vs=>whJ f vs):=by
 refine Up.zg hn t λw z j mg Q p o pm R B a vs ns G Y S hd D y m i c E=>?_;have A:=U w _ Y
 let{fd,L,M}:=F w mg p _ A G.T.g y
 exact Ef A G.T.g G.T.b G.T.builtins G.T.nolimit E m i (Ï c r) J M L (λH N O=>C w H a ns c N O) λH e s'=>I w H j e s'
theorem BQ(xs:List V)(n:Nat):kH xs τ (ρ (n:Int))=xs.take n:=by simp_all [kH,HT.zh,weI,Nat.sub_zero,if_neg,wfP,Nat.min_eq_right,ä,ŕ]
theorem zj(xs:List V)(k:Nat):kH xs (ρ (k:Int)) τ=xs.drop k:=by
 unfold kH HT.zh;simp only;split
 .lia
 .by_cases h:k<=xs.9
  .rw[show min ((k:Int)).toNat xs.9=k by lia];exact ŕ (by rw[ď];exact Å _)
  .rw[show min ((k:Int)).toNat xs.9=xs.length by lia,ħ,ι,wdW ()]
theorem Jj(xs:List V){i j:Nat}(h:i<=j):kH xs (ρ (i:Int)) (ρ (j:Int))=(xs.drop i).take (j-i):=by
 unfold kH HT.zh;simp only;rw[if_neg (),if_neg ()]
 by_cases a:i<=xs.9
 .by_cases b:j<=xs.9
  .rw[show min ((i:Int)).toNat xs.9=i by lia,show min ((j:Int)).toNat xs.9=j by lia]
  .rw[show min ((i:Int)).toNat xs.9=i by lia,show min ((j:Int)).toNat xs.9=xs.length by lia];rw[ŕ (by rw[ď];exact Å _),ŕ (by rw[ď];lia)]
 .rw[show min ((i:Int)).toNat xs.9=xs.length by lia,wdW (Å _),wdW (),List.take_nil,List.take_nil]
end
section
variable{X:Cx}{e e2:Expr}{t:TA}{t2:TE}{p kp pos:Pos}
theorem Jk:jE X (binaryOp .Add) (MA X.K):=by
 intro e s σ H x y v u Q I i j h
 let{a,b,k,l,rfl,rfl,ha,m,n,f,p,r}:=h
 cases i;cases j
 let{t,d,A,_}:=I.tuple ha
 let{g,c,p2,_}:=I.tuple m
 refine HT.Jg A p2 (λz=>n (d.wq.mp z)) (λz=>{.ref a,H,I,rfl,p (c.wq.mp z)}) (λz=>?_) (by rw[<-d.9,<-c.9];exact f);refine{.ref s.8,_,I.laid (t':=s.toks) (o:=.tup (k++l)) (λb ob q=>Ð _ q) (Å _) ?_,rfl,r (λw=>z (c.wq.mpr w)) _ (I.aT.fresh (Å _))};exact{by rw[Ì];exact f,_,d.append c,IsTup.new _ _}
theorem xB(lo hi:Option Int)(n:Nat):(whl lo hi τ n).1=((HT.zh n 0 lo:Nat):Int)/\(whl lo hi τ n).2.1=((HT.zh n n hi:Nat):Int)/\(whl lo hi τ n).2.2=1:=by
 have key:∀(i:Int) (d:Nat),max 0 (min (if i<0 then i+(n:Int) else i) (n:Int))=((HT.zh n d (ρ i):Nat):Int):=by
  intro i d
  by_cases h:i<0<;>simp only[HT.zh,h,if_true,if_false]<;>lia
 exact{by cases lo with |none=>rfl |some i=>exact key i 0,by cases hi with |none=>rfl |some i=>exact key i n,rfl}
theorem uL(g:List Value)(lo hi:Option Int):slicePick g.toArray lo hi τ=((g.drop (HT.zh g.length 0 lo)).take (HT.zh g.length g.length hi-HT.zh g.length 0 lo)).6:=by
 let{a,b,c}:=xB lo hi g.toArray.size
 unfold slicePick;rw[a,b,c];simp only[sliceRange_one,pick_run,â]<;>rfl
theorem Gz(ns:List Int)(lo hi:Option Int):∃g:List Int,kH (ns.map V.int) lo hi=g.map V.int/\g.9<=ns.9:=by
 refine{_,by unfold kH;rw[<-wdX,<-ς],?_};rw[Û,ď]
 lia
theorem Dz(hc:X.calm=true)(I:Inv X g σ H s)(l:RelV (.int d) v)(o:aG X.K H a (Ĥ V.int ns))(C:ns=[]->Q (.int d) H)(J:∀M,M∈ns->(∀a∈ns,a<=M)->Q (.int M) H) :
 wpAny (model X.prog X.w) X.A (call (.builtin "max") [.ref a] [(į "default",v)]) (EP X g σ Q) X.xe s:=by
 let{f,r,pl,u}:=I.list o
 let{c,e,rfl}:=iS r
 have hl:s.heap.IsList a (intItems c.6):=by
  have:intItems c.6=f.6:=by rw[e];unfold intItems;simp
  rw[this];exact pl.isList
 refine uK (I.ok.hd hc) hl (λh i k hk=>?_) (λh x i k m hk=>?_)
 .have:c=[]:=by
   rw[â]at h;exact ũ h
  subst this;exact{.int d,H,I.kept hk,l,C rfl}
 .let{t,rfl}:=whi m
  let{y,n}:=argBest_gt (numAt c.6) (c.toArray.size-1)
  refine{.int _,H,I.kept hk,⟨t,rfl⟩,J _ ?_ λb p=>?_}
  .rw[numAt_eq];exact getD_mem (by rw[À];simp only[â]at *;omega)
  .let{j,q,rfl}:=mem_getD p
   rw[À]at q;have:=n j (by simp only[â]at *;omega);rw[numAt_eq]at this;exact this
theorem Jl(hc:X.calm=true)(g:Gl X "max")(j:X.mg "max"=τ)(ha:PA X [e] t)(hd:PE X e2 t2)(hs:starEach [e] X.5=[(false,eval e X.5)]:=by rfl):PE X (.Call (.Name "max" p) [e] [{ρ "default",e2,kp}] pos) (MR X.K t t2):=by
 refine{?_};intro b s σ H Q I h;refine ģ (gA I g j (show é "max"=ρ (.builtin "max") from EY) ?_ ⋯ ⋯);refine wfs (bG (ha pos b s σ H _ I h) λz c ⟨A,f,i,k,l⟩=>?_) (by rw[hs];rfl) (by rw[hs];rfl);refine wed (bG (hd b c σ f _ i l) λv B ⟨y,C,m,n,o⟩=>weu ?_)
 let{a,ns,d,rfl,rfl,q,r,w}:=o
 let{u,rfl,x}:=vals1 k
 cases x;exact Dz hc m n q r w
end
section
variable{a:Expr}
inductive Sa(K:Á)(x:V)(lo hi:Option Int)(H:Hp)(Q:VK):Prop
 |mk (a xs) (_:x=.ref a) (_:aG K H a xs) (_:∀p,H p=τ->Q (.ref p) (upd H p (.lst (kH xs lo hi))))
end
section
variable{X:Cx}
theorem jd:QI X (Sa X.K):=by
 intro e s σ H x v n p lo hi sl Q I g i pl j h
 let{a,c,rfl,k,q}:=h
 cases g
 let{l,r,f,m}:=I.list k
 have d:=r.9;refine{"list",_,slot_list_getitem.lookup,f.isList.typeIs,?_};refine wpAny_getItem_list_slice f.isList i pl j .none (by simp) ?_ (by grind);rw[uL,<-d];refine{.ref s.8,_,I.laid (t':=s.toks) (o:=.lst (kH c lo hi)) (λb ob q=>Ð _ q) (Å _) ?_,rfl,q _ (I.aT.fresh (Å _))};exact⟨Ï (zi c lo hi) m,_,0,(r.drop (HT.zh c.length 0 lo)).take (HT.zh c.length c.length hi-HT.zh c.length 0 lo),ã _ rfl⟩
end
end L2
namespace K70
section
variable{P:É}{w:World}{K:Á}{mg:Str->Option Value}{base:Heap}
theorem qH(L:Lk K mg):aP P w K mg base cI 1 L.k4 L.kl ["sheet","desk"] (Dx K L.aw):=by
 have T:=L.T;refine L.ky.F.dC (N:=["sheet","desk","reached","waiting","line","word","end"]) (λeZ A outer s H vs Q E nd n h=>?_)
 let{x,d,hs,ws,c,rfl,S,hd,he,Cd,hn,k}:=h
 have hu:=dG n
 refine{_,(a6 (af (i:=2) cp)
  (a6 (af (i:=3) (bP (aC (1))))
  (a6 (fI Ō (cT iA (J5 T.len (3)) ag) (a6 (af (i:=4) (bf bI (aW (0) rfl) (zQ ă weA wgi EB (3)) (λ_ _=>rfl)))
  (ae (forA (aL (4)) (fS rfl (aV (au (i:=5)) (aV (au (i:=6)) dQ))) (ae (bg (wD (oO hu (6) (2))) (a6 (cu hu (2) (6) gy rfl)
  (ae (bo (gE ă Đ Ē cg (3) (aC (6)))))) aI))))))
  (ae (av (bB (mi rfl) (by rfl) T.list iF (aC (2)))))))),?_}
 ac_rfl
 let{dx,ah,bw,cl,hx,rh,GR,rl}:=id S
 let{O5,xs,ec,hc,zo}:=id rl
 cases ec;have xl:xs.9=c.9:=by rw[zo.len,À]
 refine λrd Sb=>?_;refine{1,by show 1<=sizeLine;decide,λwl zr=>?_};have J:rd≠wl:=a9 a5 zr;have s0:a8 H (upd (upd H rd (.dK [])) wl (.lst [.int (d:Int)])):=(a8.upd Sb).trans (a8.upd zr);have Uq:(upd (upd H rd (.dK [])) wl (.lst [.int (d:Int)])) rd=ρ (.dK (dB [])):=by rw[aa J,a5];rfl
 have Ur:(upd (upd H rd (.dK [])) wl (.lst [.int (d:Int)])) wl=ρ (.lst ((nI [d]).map V.int)):=a5;have Us:H wl=τ:=none_of (a8.upd Sb) zr;generalize upd (upd H rd _) wl _=H0 at s0 Uq Ur
 refine{λq σ Y=>∃(f Z:List Nat) (v4 M v6:Option V),q=2*(c.9-f.9)+Z.9/\σ=[ρ (.ref x),ρ (.int (d:Int)),ρ (.ref rd),ρ (.ref wl),v4,M,v6]/\a8 H Y/\Y rd=ρ (.dK (dB f))/\Y wl=ρ (.lst ((nI Z).map V.int))/\f.Nodup/\(∀r∈f,r<c.9)/\(∀w∈Z,w<c.9)/\(∀r∈f,r∉Z->∀q∈c.getD r [],q.2∈f)/\(d∉Z->∀q∈c.getD d [],q.2∈f)/\Z.9<=f.9+1,
  {_,[],[d],τ,τ,τ,rfl,rfl,s0,Uq,Ur,ĸ,λr h=>absurd h ċ,λw h=>by rw[Ó.mp h];exact hd,λr h=>absurd h ċ,λh=>absurd (Ó.mpr rfl) h,Å _},?_}
 rintro q σ Y ⟨f,Z,v4,M,v6,rfl,rfl,s3,Pp,O,nd,Sd,Ut,Ox,Pq,R⟩;have BL:=jV nd Sd
 by_cases Uu:Z=[]
 .subst Uu;refine{1,wl,1,.inl (aG.of O),_,1,rfl,false,rfl,bW ?_};refine{1,rd,1,Pp,λl hl=>?_};rw[HP];refine k l f _ (s3.trans (a8.upd hl)) (none_of s3 hl) a5 {λr n=>Ox r n ċ,Sd,λz=>?_,nd}
  cases e:c.getD d [] with
  |nil=>exact Cd e
  |cons q qs=>
   have:=Pq ċ q (by rw[e];exact Ø ..);rw[z]at this;cases this
 let{z,u,rfl,hz,Gq}:=HQ Uu
 refine{1,wl,1,.inl (aG.of O),_,1,rfl,true,congrArg V.bl (decide_eq_true (by rw[À,cX,Ì];show (0:Int)<((_+1:Nat):Int);lia)),cJ ?_};have XH:z<c.9:=Ut z (ù _ (Ó.mpr rfl));have Uv:c[z]?=ρ (c.getD z []):=by rw[Õ,Ä XH];rfl
 have Rq:∀q∈c.getD z [],q.2<c.9:=he _ (á Uv)
 let{v,LI,XI}:=zo.at (i:=z) (d:=bR (c.getD z [])) (by rw[È,Uv];rfl)
 let{a,rr,rfl,hS,hT}:=ez XI
 have TN:rr.9=(c.getD z []).9:=by rw[hT.1,À,À]
 refine{λσ' H'=>∃(ad:List Nat) (M v6:Option V),σ'=[ρ (.ref x),ρ (.int (d:Int)),ρ (.ref rd),ρ (.ref wl),ρ (.ref a),M,v6]/\a8 H H'/\H' rd=ρ (.dK (dB (f++ad)))/\H' wl=ρ (.lst ((nI (u++ad)).map V.int))/\(f++ad).Nodup/\(∀r∈f++ad,r<c.9)/\(∀q∈c.getD z [],q.2∈f++ad),?_,?_}
 .rintro σ' H' ⟨ad,M,v6,rfl,s',RK,XJ,Uw,FX,j⟩;have Oy:=jV Uw FX;rw[Ì]at Oy;refine{_,?_,f++ad,u++ad,_,M,v6,rfl,rfl,s',RK,XJ,Uw,FX,λw hw=>?_,λr n U q I=>?_,λU q I=>?_,?_}
  .rw[Ì,Ì,Ì];show _<2*(c.9-f.9)+(u.9+1)
   lia
  .rcases Ú.mp hw with hw |hw
   .exact Ut w (Ĕ _ hw)
   .exact FX w (ù _ hw)
  .rcases Ú.mp n with n |n
   .by_cases B:r=z
    .rw[B]at I;exact j q I
    .refine Ĕ _ (Ox r n (λm=>?_) q I);rcases Ú.mp m with m |m
     .exact U (Ĕ _ m)
     .exact B (Ó.mp m)
   .exact absurd (ù _ n) U
  .by_cases B:d=z
   .rw[B]at I;exact j q I
   .refine Ĕ _ (Pq (λm=>?_) q I);rcases Ú.mp m with m |m
    .exact U (Ĕ _ m)
    .exact B (Ó.mp m)
  .rw[Ì]at R;rw[Ì,Ì];have:u.9+1<=f.9+1:=R
   lia
 refine{1,x,L.aw,dx,_,1,s3 _ _ hx,L.ao.cl,L.ao.cA,bE ah bw cl,1,.inl {rfl,_,aG.of O},wl,_,1,rfl,O,hz,?_};rw[Gq];have s4:a8 H (upd Y wl (.lst ((nI u).map V.int))):=λb o e=>by rw[aa (a9 e Us)];exact s3 _ _ e
 have JP:(upd Y wl (.lst ((nI u).map V.int))) rd=ρ (.dK (dB f)):=by rw[aa J];exact Pp
 have Oj:(upd Y wl _) wl=ρ (.lst ((nI u).map V.int)):=a5;generalize upd Y wl _=H4 at s4 JP Oj;refine{cl,xs,_,1,rfl,s4.seq (.inl hc),bK LI,?_};refine{1,a,rfl,{_,s4.seq hS},dN (K:=K) (a:=a) (xs:=rr.map V.ref) (QR c f u x rd wl a d z H) {[],_,1,s4,by rw[ý];exact JP,by rw[ý];exact Oj,by rw[ý];exact nd,by rw[ý];exact Sd,λq I=>by rw[ι]at I;cases I} (λi σ H5 _ q=>q.s.seq hS) ?_ ?_}
 .rintro i y σ H5 hy ⟨ad,M,v6,rfl,s5,C,X,D,G,j⟩;have hi:i<rr.9:=by have:=(Ö.mp hy).1;rwa[À]at this
  have Se:i<(c.getD z []).9:=();rw[È,Ä hi]at hy;cases hy;have O8:H rr[i]=ρ (.tup [.str (c.getD z [])[i].1,.int ((c.getD z [])[i].2:Int)]):=hT.2 i rr[i] (jG (eh (c.getD z [])[i])) (Ä hi) (by rw[È,È,Ä Se];rfl);have LL:(c.getD z []).take (i+1)=(c.getD z []).take i++[(c.getD z [])[i]]:=by rw[Ć,Ä Se];rfl
  have JO:=Rq _ (û Se);generalize (c.getD z [])[i]=q at O8 LL JO;have XM:=jV D G;refine{rr[i],1,eY.of (s5 _ _ O8),rfl,_,1,_,1,rfl,?_};have g:=cB.k (k:=(å (q.2:Int):Key)) C;rw[A2]at g
  by_cases m:q.2∈f++ad
  .rw[if_pos m]at g;refine{_,rfl,1,rd,1,g,false,rfl,bW ?_};refine{ad,_,1,s5,C,X,D,G,λp t=>?_};rw[LL]at t;rcases Ú.mp t with t |t
   .exact j p t
   .rw[Ó.mp t];exact m
  .rw[if_neg m]at g;refine{_,rfl,1,rd,1,g,true,rfl,cJ ?_};refine{2,rd,1,gX.k (k:=å (q.2:Int)) C (aS (by unfold dB;rw[À];lia)),?_};rw[KI m];have Ux:(upd H5 rd (.dK (dB (f++ad++[q.2])))) wl=ρ (.lst ((nI (u++ad)).map V.int)):=by rw[aa J.symm];exact X
   refine{1,.inl {rfl,_,aG.of Ux},1,wl,_,1,rfl,Ux,?_,?_}
   .rw[Ì]at R XM;rw[À,cX,Ì];have:u.9+1<=f.9+1:=R;exact aS ()
   refine{ad++[q.2],_,1,λb o e=>by rw[aa (a9 e Us),aa (a9 e Sb)];exact s5 _ _ e,by rw[aa J,a5,Ā],by rw[a5,<-Ā,vr (u++ad),Ò];rfl,?_,λr n=>?_,λp t=>?_}
   .rw[<-Ā];refine Ū.mpr {D,by simp,λa ha b hb e=>?_};rw[Ó.mp hb]at e;rw[e]at ha;exact m ha
   .rw[<-Ā]at n;rcases Ú.mp n with n |n
    .exact G r n
    .rw[Ó.mp n];exact JO
   .rw[<-Ā];rw[LL]at t;rcases Ú.mp t with t |t
    .exact Ĕ _ (j p t)
    .rw[Ó.mp t];exact ù _ (Ó.mpr rfl)
 .rintro σ H5 ⟨ad,M,v6,rfl,s5,C,X,D,G,j⟩;rw[À,TN,ä]at j;exact⟨ad,M,v6,rfl,s5,C,X,D,G,j⟩
theorem iP(L:Lk K mg):aP P w K mg base cI 2 L.eP L.eR ["line","kept","many"] (IW K):=by
 refine L.eT.F.dC (N:=["line","kept","many"]) (λX A outer s H vs Q E nd p h=>?_)
 let{v,b,many,c,f,rfl,Y,R,t,u,m0,k}:=h
 refine{_,(ae (av (eO rfl (ak ["kept"] [1]) (ak ["kept"] [1]) ⋯ (aL (cS jd (ai (lY L) L.j9 (a7 (0) (aC (1)))) fY (cL (2)))) (λ_ _ _ _ _ _=>b9) (λ_ _ _ _ _ _=>(bY (a7 (0) (aC (G5 (K:=K) rfl ă wcU wfD (Dt (K:=K) rfl) (2) (aC (1)))))))))),?_}
 ac_rfl
 have x:many=((many.toNat:Nat):Int):=1.0;refine{2,v,b,c,f,rfl,Y,R,u,λy S B Z=>?_}
 let{a,j,rfl,hS,T}:=ez (bu.same (cU _ _) _ _ Z)
 have BL:j.9=(cN c f).9:=by rw[T.1,À,À]
 have X5:=EJ c f;refine{1,((many.toNat:Nat):Int),congrArg V.int x,a,1,hS,λC D=>?_};rw[BQ,<-ς]
 let{m,G}:=fB (H:=S) (o:=.lst ((j.take many.toNat).map V.ref)) D
 generalize upd S C _=H2 at m G;refine{C,rfl,{_,aG.of G},λl hl=>?_};refine kY (prs:=((cN c f).take many.toNat).map eh) (λ_=>true) (λq=>match q.2 with |.int e=>.tup [.at q.1,.at (.int (c.idxOf e.toNat:Int))] |_=>.at .non) (aH K C _) (by grind) (λi q g=>?_) hl (aq (by grind)) (λU I=>aG.of (I _ _ G)) (λq J Q' _ _ M=>M J (a8.refl _)) (λq J Q' g _ s3 M=>?_) (λU I r=>?_)
 .rw[È]at g
  have hi:i<((cN c f).take many.toNat).9:=by
   cases e:((cN c f).take many.toNat)[i]? with
   |none=>rw[e]at g;cases g
   |some z=>exact(Ö.mp e).1
  have d:i<many.toNat/\i<j.9:=by rw[Û]at hi;omega
  rw[wdD d.1,Ä 1.0]at g;cases g;refine{j[i],by rw[È,wdD d.1,Ä d.2];rfl,eY.of (m _ _ ?_)};exact T.2 i j[i] (jG (eh (cN c f)[i])) (Ä d.2) (by rw[È,È,Ä 1.0];rfl)
 .let{z,hz,rfl}:=Ç.mp g
  have O:=of_decide_eq_true (Ý.mp ((ġ _ _).subset hz)).2;have n:aG K J b ((nI c).map V.int):=((B.trans m).trans s3).seq R
  let{i1,i2}:=IL O
  refine{2,.inl {rfl,_,n},1,b,nI c,(z.2:Int),c.idxOf z.2,rfl,rfl,n,by rw[cX];exact t,i1,i2,by show 2<=sizeLine;decide,λr p=>?_};exact M _ _ (a8.upd p) (nu p (z.1,c.idxOf z.2))
 .rw[ę.mpr (λ_ _=>rfl),Ê]at r;refine k _ U ((B.trans m).trans I) (bu.same (dA (B.trans m)) _ _ ?_);unfold kQ bR;rw[Ê];exact r
theorem DA(L:Lk K mg):aP P w K mg base cI 1 L.yY L.z4 ["lines","desk","data"] (Gy K):=by
 refine L.z7.F.dC (N:=["lines","desk","data","row","thing","step"]) (λX A outer s H vs Q E nd hr h=>?_)
 let{v,d,a,many,n,wl,ts,rfl,Y,T,z,hd,m,Z,hn,k}:=h
 refine{_,(a6 (af (i:=3) bO)
  (a6 (forA (aL (2)) (au (i:=4)) (a6 (af (i:=5) (bf bI (bf bI (0) (1) (λ_ _=>rfl)) (4) (λ_ _=>rfl)))
  (a6 (rS (i:=3) nd rfl (ĥ rfl) (bf gz (5) ag (λ_ _=>rfl)) HF)
  (ae (af (i:=1) (bf gz (5) ag (λ_ _=>rfl)))))))
  (ae (av (bY (a7 (3) (aC (1)))))))),?_}
 ac_rfl
 let{cl,xs,rfl,hc,B}:=id Y
 refine{1,a,rfl,{_,T},dN (K:=K) (a:=a) (xs:=(nI ts).map V.int) (λi σ u=>∃(v4 C:Option V),σ=[ρ (.ref cl),ρ (.int ((fL wl d (ts.take i)).2:Int)),ρ (.ref a),ρ (.str (fL wl d (ts.take i)).1),v4,C]/\a8 H u) {τ,τ,rfl,a8.refl _} (λi σ u _ {_,_,_,c}=>c.seq T) ?_ ?_}
 .rintro i y σ u D ⟨v4,C,rfl,c⟩;have hi:i<ts.9:=by have:=(Ö.mp D).1;rwa[À,cX]at this
  have g:ts[i]?=ρ ts[i]:=Ä hi;rw[A1 g]at D;cases D;have G:=m _ (û hi);have jN:ts.take (i+1)=ts.take i++[ts[i]]:=by rw[Ć,g];rfl
  generalize ts[i]=t at g G jN
  let{w1,w2}:=Jd z hd (ts:=ts.take i) λx hx=>m x ((ġ _ _).subset hx)
  have e:=CF wl d (ts.take i) t;rw[<-jN]at e;have I:=kW w1;have JQ:=z.ln _ (á I);have J:=z.wd _ (á I);have M:vD wl (fL wl d (ts.take i)) t=((fL wl d (ts.take i)).1++((wl.getD (fL wl d (ts.take i)).2 []).getD t ("",0)).1,((wl.getD (fL wl d (ts.take i)).2 []).getD t ("",0)).2):=rfl;rw[M]at e;generalize fL wl d (ts.take i)=O at *
  let{v,R,rd}:=B.at (i:=O.2) (d:=bR (wl.getD O.2 [])) (by rw[È,I];rfl)
  generalize wl.getD O.2 []=f at *
  let{b,j,rfl,hS,U}:=ez rd
  have BL:j.9=f.9:=by rw[U.1,À,À]
  have l:t<f.9:=();have o:t<j.9:=();have r:H j[t]=ρ (.tup [.str f[t].1,.int (f[t].2:Int)]):=U.2 t j[t] (jG (eh f[t])) (Ä o) (by rw[È,È,Ä l];rfl);have eq:f.getD t ("",0)=f[t]:=by rw[Õ,Ä l];rfl
  have S:=J _ (û l);rw[eq]at e;generalize f[t]=q at *;refine{2,cl,xs,_,1,rfl,c.seq (.inl hc),bK R,1,b,_,_,1,rfl,c.seq hS,bK (v:=.ref j[t]) (by rw[È,Ä o];rfl),?_};refine{2,j[t],_,_,1,rfl,eY.of (c _ _ r),rfl,_,1,rfl,aq ?_,?_}
  .rw[w2,S,Û];have h1:n*min i ts.9<=10*99999:=wgh hn ()
   lia
  refine{1,j[t],_,_,1,rfl,eY.of (c _ _ r),rfl,?_};rw[e];exact{_,1,c}
 .rintro σ u ⟨v4,C,rfl,c⟩;rw[À,cX,ä];refine{2,by show 2<=sizeLine;decide,λp hp=>?_};exact k p _ (c.trans (a8.upd hp)) a5
theorem qI(L:Lk K mg):aP P w K mg base cI 1 L.kc L.kq ["self"] (Iy L.aA):=by
 have T:=L.T;refine L.kD.F.dC (N:=["self"]) (λo A outer s H R Q E nd S h=>?_)
 let{x,g,bw,ss,ls,rfl,B,p,e,k}:=h
 refine{_,(ae (av (Jl rfl (by rfl) T.max (aC (bZ rfl (ak [] []) (aL (aW (0) rfl)) (λ_ _ _ _ _ _=>b9) (λ_ _ _ _ _ _=>(DH T.len (0))))) ag))),?_}
 ac_rfl
 let{r,b,d,q,U,t,l,f,X,Y,Z}:=id B.ex
 refine{1,x,L.aA,r,_,1,t,L.aJ.cl,L.aJ.yq,yk g b d q,b,rfl,{_,aG.of l},λu i=>?_};refine cV (λ_=>true) (λv=>match v with |.str z=>.int (z.9:Int) |_=>.non) (aH K b _) i (aq (by rw[À];lia)) (λH' C=>aG.of (C _ _ l)) (λy a D m c j=>j a (a8.refl _)) (λy a D m _ c j=>?_) (λa c f=>?_)
 .let{w,hw,rfl}:=Ç.mp m
  exact{1,w,rfl,aq (by have:=e w hw;lia),j a (a8.refl _)}
 have G:((bw.map V.str).filter λ_=>true).map (λv=>match v with |.str z=>V.int (z.9:Int) |_=>.non)=(bw.map λw=>(w.9:Int)).map V.int:=by
  rw[ę.mpr (λ_ _=>rfl),Ê,Ê];rfl
 rw[G]at f;refine⟨u,_,0,rfl,rfl,aG.of f,λhn=>?_,λM I J=>?_⟩
 .have n:bw=[]:=wgI.mp hn;exact k 0 a c {(λw hw=>by rw[n]at hw;cases hw),.inl ⟨rfl,n⟩}
 .let{w,hw,rfl}:=Ç.mp I
  exact k _ a c {λz O=>J _ (Ç.mpr ⟨z,O,rfl⟩),.inr ⟨w,hw,rfl⟩}
theorem pe(L:Lk K mg):aP P w K mg base cI 2 L.jl L.jr ["band","wide"] (Ft L.aA):=by
 have T:=L.T;refine L.ju.F.dC (N:=["band","wide","signs"]) (λj A outer s H y Q E nd z h=>?_)
 let{x,n,g,bw,ss,ls,rfl,B,C,l,c,e,k}:=h
 refine{_,(a6 (af (i:=2) (ax (C5 rfl) (by rfl) T.max EY (a7 (aK oK (AZ (0) L.aJ.cl L.kD (qI L)) ag) (aC ag))))
  (ae (av (aK kK (aK oK (aK fR (2) (1)) ag) (1))))),?_}
 ac_rfl
 let{m,b,d,q,D,o,G,I,J,O,R}:=id B.ex
 refine{1,x,m,1,o,GN g b d q ∅ ∅ ∅ ∅,x,g,bw,ss,ls,rfl,B,e,(λw hw=>by have:=c w hw;omega),λM p r f=>?_};refine{_,1,rfl,_,1,?_}
 have t:0<=M/\M<=900:=by
  rcases f.a with⟨h,_⟩ |⟨w,hw,h⟩
  .omega
  .have:=c w hw;omega
 have u:0<=((if 0>M-1 then 0 else M-1)+(n:Int)-1)/(n:Int):=weo (by split<;>omega) 1.0
 have v:((if 0>M-1 then 0 else M-1)+(n:Int)-1)/(n:Int)<=1000:=by
  refine ů (Int.ediv_le_self _ (by split<;>omega)) (by split<;>omega)
 refine{2,_,1,rfl,_,1,rfl,1,_,1,rfl,{1.0,1.0},?_};have:=k (((if 0>M-1 then 0 else M-1)+(n:Int)-1)/(n:Int)).toNat p r {1.0,M,f,1.0};rwa[show ((((if 0>M-1 then 0 else M-1)+(n:Int)-1)/(n:Int)).toNat:Int)=((if 0>M-1 then 0 else M-1)+(n:Int)-1)/(n:Int) by omega]at this
theorem oy(L:Lk K mg):aP P w K mg base cI 6 L.iK L.iM ["band","many","wide","weights"] (Fs L.aA):=by
 have T:=L.T;refine L.iN.F.dC (N:=["band","many","wide","weights","sheet","lots","homes","closed","place"]) (λeZ A outer s H vs Q E nd hr h=>?_)
 let{x,d,many,n,f,g,ws,ss,ls,rfl,B,GQ,Oz,BP,BO,zb,Gw,hd,D,Z,Uy,k}:=h
 have hu:=dG hr
 refine{_,(a6 (af (i:=4) (ai (kG L) L.ip (a7 (0) (a7 (1) (a7 (2) (aC (3)))))))
  (a6 (fg (i:=5) rfl (ak ["sheet"] [4]) nd rfl rfl (cW rfl T.range (aC (J5 T.len (aW (4) rfl)))) (λ_ _ _ _ _ _=>b9) (λ_ _ _ _ _ _=>(ai (qH L) L.ky (a7 (1) (aC (0))))))
  (a6 (fg (i:=6) rfl (ak ["sheet"] [4]) nd rfl rfl (aL (Jf rfl (by rfl) T.min (by rfl) T.len (aC (5)))) (λ_ _ _ _ _ _=>b9) (λ_ _ _ _ _ _=>(bf (fH (K:=K) rfl) (kN (K:=K) rfl (1) rfl) (0) (λ_ _=>rfl))))
  (a6 (af (i:=7) cp)
  (a6 (forA (tm (3)) (au (i:=8)) (ae (cu hu (7) (8) (xQ (fz vg (8) (6) rfl) (bS hu (3) (8) (λ_ _=>rfl)) ag) rfl)))
  (ae (av (7)))))))),?_}
 ac_rfl
 have nd:ls.Nodup:=B.nd.sublist B.lv.sub;have AF:ls.9<=900:=Ï B.lv.sub.length_le zb;refine{4,x,d,many,n,bx f ls,f,g,ws,ss,ls,rfl,B,BP,BO,zb,Gw,.inl hd,g8 f ls,λy H1 s1 S1=>?_};have S:=S1.same (cU _ _);have hB:=hO.first (g:=g) (ws:=ws) (ss:=ss) (n:=n) (many:=many) D Z;have U9:(aj ls f).9<=ls.9:=ľ _ _;have I:=hB.l;have ZI:(1:Int)<=many:=by have:=Gw.a;lia
 generalize Uz:aj ls f=m at S hB U9 I;generalize Sf:bz g ws ss ls n m=G at S hB I
 have Sg:m≠[]:=λz=>by
  have h1:=vp D;rw[Uz,z]at h1;have:(0:Int)=(ls.map f).sum:=h1
  lia
 have PB:0<m.9:=wgL.mpr Sg
 have Sh:∀i,i<G.9->G.getD i []≠[]:=λi hi z=>by
  have U:G[i]?=ρ (G.getD i []):=by rw[Õ,Ä hi];rfl
  have h1:=hB.b i _ U;rw[z]at h1;have h2:many*(m.map f).getD i 0<=0:=h1;have hw:=hB.w;have h3:=hB.p _ (iC (ws:=m.map f) (i:=i) ());have:=whj (show 0<many by lia) (show 0<(m.map f).getD i 0 by lia)
  lia
 let{dx,ah,bw,cl,hx,rh,GR,rl}:=id S
 have hh:=x9 rh;refine{1,y,L.aw,dx,_,1,hx,L.ao.cl,L.ao.g9,et ah bw cl,ah,1,.inl (.inl hh),1,(),by rw[À];lia,λll Si=>?_};have en:(((m.map V.str).9:Nat):Int).toNat=m.9:=by rw[À,î]
 rw[en];refine yV (λi v H'=>∃q r,v=.ref q/\q≠ll/\H' q=ρ (.lst ((nI r).map V.int))/\Reach G r) (λi v Ha Hb ys h hl kp=>?_) (m7 0 m.9) Si (aq (by rw[À,Ă];lia)) (λ_ _=>ÿ) (λi v H3 ys Q' hv s3 EC qq=>?_) (λys H3 s3 h3 JV hR=>?_)
 .let{q,r,rfl,U,XO,X}:=h
  exact{q,r,rfl,U,kp _ _ XO U,X}
 .have hi:i<m.9:=by have:=(Ö.mp hv).1;rwa[À,Ă]at this
  rw[È,wgK hi]at hv
  have hv:v=.int (i:Int):=by
   rw[<-Î hv];show V.int (0+(i:Int))=_;rw[ń]
  subst hv;refine{2,y,i,m,_,G,rfl,S.same s3,(),λl hl q U=>by rw[I];exact hB.e l hl q U,Sh i (),(),λl r H' s' fl Oy t=>?_};exact qq _ H' s' {l,r,rfl,(λz=>by rw[z,EC]at fl;cases fl),Oy,t}
 let{ps,rfl,JR}:=IC (ys:=ys) (R:=λq=>∃r,H3 q=ρ (.lst ((nI r).map V.int))/\Reach G r) λv hv=>by
  let{i,hi,e}:=Ŗ hv
  let{q,r,e1,_,e2,e3}:=hR i v (by rw[Ä hi,e])
  exact⟨q,e1,r,e2,e3⟩
 have hpl:ps≠[]:=λz=>by
  rw[À,À,Ă,z]at JV;have:0=m.9:=JV
  lia
 refine{1,ll,ps,rfl,aG.of h3,hpl,λq U=>by let{r,e,_}:=JR q U;exact{_,aG.of e},λq U=>?_}
 let{r,X,t}:=JR q U
 have BL:=jV t.nd t.lt;refine{q,rfl,{_,aG.of X},λlh Mf=>?_};refine cV (λ_=>true) (λv=>match v with |.int d=>.str (m.getD d.toNat "") |_=>.non) (aH K q _) Mf (aq (by rw[À,cX];lia)) (λH' s'=>aG.of (s' _ _ X)) (λv H8 Q' hy s8 qq=>qq H8 (a8.refl _)) (λv H4 Q' hy _ s4 qq=>?_) (λH4 s4 h4=>?_)
 .let{n',zt,rfl}:=wN hy
  have OA:n'<m.9:=by rw[<-I];exact t.lt n' zt
  have Y:=s3.trans s4;exact{1,y,L.aw,dx,_,1,Y _ _ hx,L.ao.cl,L.ao.g9,et ah bw cl,1,ah,_,_,1,rfl,Y.seq (.inl hh),bK (v:=.str (m.getD n' "")) (by rw[È,Ä OA,Õ,Ä OA];rfl),qq H4 (a8.refl _)}
 have e4:(((nI r).map V.int).filter λ_=>true).map (λv=>match v with |.int d=>V.str (m.getD d.toNat "") |_=>.non)=(r.map λd=>m.getD d "").map V.str:=by
  rw[ę.mpr (λ_ _=>rfl)];unfold nI;rw[Ê,Ê,Ê];rfl
 rw[e4]at h4;have Y:=s3.trans s4;refine λdl C=>?_;have M:=s1.trans Y;have Md:d≠dl:=a9 (M _ _ hd) C;have JW:(upd H4 dl (.dK [])) d=ρ (.dK (aB (bx f ls))):=a8.upd C _ _ (M _ _ hd);refine{1,d,1,.inl JW,λo H5 h5 LQ=>?_};have Ub:H5 dl=ρ (.dK []):=by rw[LQ dl (è Md),a5]
 have XQ:lh≠d:=λz=>by rw[z]at h4;rw[M _ _ hd]at h4;cases h4
 have XR:H5 lh=ρ (.lst ((r.map λd=>m.getD d "").map V.str)):=by rw[LQ lh XQ];exact a8.upd C _ _ h4
 have k5:∀c O,H c=ρ O->c≠d->H5 c=ρ O:=λc O e hc=>by rw[LQ c hc];exact a8.upd C _ _ (M _ _ e)
 have Sj:H dl=τ:=none_of M C;have Sl:dl≠lh:=λz=>by rw[z]at C;rw[h4]at C;cases C
 have J:=dZ d o (aB (bx f ls));rw[show ((aB (bx f ls)).map λkv=>kV kv.1)=ls.map V.str by unfold aB bx;rw[Ê,Ê];rfl]at J;refine f9 J (λj σ H6=>∃(v8:Option V),σ=[ρ (.ref x),ρ (.int many),ρ (.int (n:Int)),ρ (.ref d),ρ (.ref y),ρ (.ref ll),ρ (.ref lh),ρ (.ref dl),v8]/\H6 dl=ρ (.dK (aB (bx (cy (r.map λd=>m.getD d "") f) (ls.take j))))/\∀c O,H5 c=ρ O->c≠dl->H6 c=ρ O) {τ,rfl,Ub,λc O e _=>e} (λj σ H6 _ {_,_,_,kk}=>kk _ _ h5 Md) ?_ ?_
 .rintro j v σ H6 hy ⟨v8,rfl,h6,kk⟩
  let{p,Dl,rfl,hj,xF,jN}:=cC hy
  have AV:p∉(bx (cy (r.map λd=>m.getD d "") f) (ls.take j)).map (·.1):=by rw[kT];exact fN nd Dl
  have put:∀u,u=cy (r.map λd=>m.getD d "") f p->putK (aB (bx (cy (r.map λd=>m.getD d "") f) (ls.take j))) (Ã p:Key) (.int u)=aB (bx (cy (r.map λd=>m.getD d "") f) (ls.take (j+1))):=λu XS=>by
   rw[kP AV,jN,XS];unfold bx;rw[Ò];rfl
  have hlen:(aB (bx (cy (r.map λd=>m.getD d "") f) (ls.take j))).9<sizeLine:=by rw[dn];unfold bx;rw[À,Û];exact aS ()
  have g6:=cB.f (k:=(Ã p:Key)) (kk _ _ h5 Md);rw[bT,g8 f ls p xF]at g6;refine{2,lh,1,.inl (aG.of (kk _ _ XR (è Sl))),rfl,dh _,decide (p∈r.map λd=>m.getD d ""),congrArg V.bl (fG p _),?_}
  by_cases hp:p∈r.map λd=>m.getD d ""
  .rw[decide_eq_true hp];refine cJ {2,d,1,g6,2,dl,1,gX.k (k:=Ã p) h6 hlen,?_};exact{1,by rw[a5,put (f p) (by unfold cy;rw[if_pos hp])],λc O e hc=>by rw[aa hc];exact kk c O e hc}
  .rw[decide_eq_false hp];refine bW {2,dl,1,gX.k (k:=Ã p) h6 hlen,?_};exact{1,by rw[a5,put 0 (by unfold cy;rw[if_neg hp])],λc O e hc=>by rw[aa hc];exact kk c O e hc}
 rintro σ H6 ⟨v8,rfl,h6,kk⟩;rw[À,ä]at h6;subst Uz;subst Sf;exact{1,k dl _ H6 (λc o e hc=>kk _ _ (k5 c o e hc) (a9 e Sj)) Sj h6 (sW D) (Dn D Z t) (CM D (λd hd=>by rw[<-I];exact t.lt d hd) t.ne) (yE D) (CL D)}
theorem pf(L:Lk K mg):aP P w K mg base cI 3 L.jm L.js ["self"] (Le L.az L.aA):=by
 refine L.jw.F.dC (N:=["self"]) (λf A outer s H o Q E nd p h=>?_)
 let{x,i,d,fs,n,g,bw,ss,ls,rfl,e,j,l,B,m,a,b,c,k}:=h
 refine{_,(ae (av (ai (pe L) L.ju (a7 (aW (0) rfl) (aC (aW (0) rfl)))))),?_}
 ac_rfl
 exact{1,x,L.az,d,_,1,e,L.aO.cl,L.aO.FY,j,1,x,L.az,d,_,1,e,L.aO.cl,L.aO.FZ,l,i,n,g,bw,ss,ls,rfl,B,m,a,b,c,k}
theorem gd(L:Lk K mg):aP P w K mg base cI 1 L.pP L.q5 ["_law_script","_law_place_here"] (NM K):=by
 have T:=L.T;refine L.fO.F.dC (N:=["_law_script","_law_place_here"]) (λb A outer s H e Q E nd f h=>?_)
 let{a,ns,p,rfl,c,k}:=h
 refine{_,(ae (av (ax (fJ rfl) (by rfl) T.sum wV (aC (cS jd (0) (cL (1)) (cL (aK fR (1) ag))))))),?_}
 ac_rfl
 refine{4,_,1,rfl,1,a,1,c,λl hl=>?_}
 let{d,em,_}:=Gz ns (ρ p) (ρ (p+1))
 rw[em];exact{l,d,rfl,aG.of a5,k _ _ (a8.upd hl)}
theorem kI(L:Lk K mg):aP P w K mg base cI 1 L.lI L.lQ ["_law_cell","_law_many"] F1:=by
 have T:=L.T;refine L.iq.F.dC (N:=["_law_cell","_law_many","_law_found","_law_one","_law_turn","_law_two","_law_more"]) (λx A outer s H C Q E nd D h=>?_)
 let{c,m,rfl,G,k}:=h
 refine{_,(a6 (af (i:=2) (bP dW))
  (a6 (af (i:=3) (aK rT (0) ag))
  (a6 (bg (cT pz (aK d8 (0) ag) ag) (a6 (forA (cW rfl T.range (aC (1))) (au (i:=4)) (a6 (bo (gE ă Đ Ē cg (2) (aC (aK d8 (3) ag))))
  (ae (af (i:=3) (aK rT (3) ag)))))
  (ae (av (2)))) aI)
  (a6 (af (i:=5) (aK d8 (aK rT (3) ag) ag))
  (a6 (af (i:=3) (aK d8 (3) ag))
  (a6 (forA (cW rfl T.range (aC (aK fR (1) ag))) (au (i:=4)) (a6 (af (i:=6) (aK fR (aK fR (aK fR (aK gC (3) ag) (aK gC (5) (5))) (aK gC ag (4))) ag))
  (a6 (af (i:=3) (5))
  (a6 (af (i:=5) (aK d8 (6) ag))
  (ae (bo (gE ă Đ Ē cg (2) (aC (5)))))))))
  (ae (av (cS jd (2) (cL ag) fY))))))))),?_}
 ac_rfl
 refine{à _,λl hl=>?_};have t:a8 H (upd H l (.lst [])):=a8.upd hl;have app:∀{f:Hp} {d:List Int} {v:Int},a8 H f->f l=ρ (.lst (d.map V.int))->a8 H (upd f l (.lst (d.map V.int++[.int v])))/\(upd f l (.lst (d.map V.int++[.int v]))) l=ρ (.lst ((d++[v]).map V.int)):=λ{f d v} j g=>{λb I e=>by rw[aa (a9 e hl)];exact j _ _ e,by rw[a5,Ò];rfl};refine{1,_,1,rfl,{⋯,∅},?_};refine{1,_,1,rfl,(by show (0:Int)<2;decide),rfl,1,rx (λ_=>?_) (λ_=>?_)}
 .refine{1,(m:Int),rfl,(),(),?_};rw[î];refine ck (lo:=0) (n:=m) (λi σ f=>∃(one:Int) (d:List Int) (v4:Option V),σ=[ρ (.int c),ρ (.int (m:Int)),ρ (.ref l),ρ (.int one),v4,τ,τ]/\a8 H f/\f l=ρ (.lst (d.map V.int))/\d.9=i) {_,[],τ,rfl,t,a5,rfl} ?_ ?_
  .rintro i σ f hi ⟨one,d,v4,rfl,j,g,o⟩;refine{1,.inl {rfl,_,aG.of g},1,_,1,rfl,(by show (0:Int)<1999999973;decide),l,_,1,rfl,g,by rw[À];exact aS (),?_};exact{1,_,1,rfl,{⋯,∅},_,d++[one%1999999973],1,(app j g).1,(app j g).2,by rw[Ì,o];rfl}
  .rintro σ f ⟨one,d,v4,rfl,j,g,o⟩;exact{_,rfl,k l d f j hl g o}
 .refine{1,_,1,rfl,{⋯,∅},_,1,rfl,(by show (0:Int)<1999999943;decide),?_};have q:=ĩ (c/2/1999999973) (show (1999999943:Int)≠0 by decide);have u:=ņ (c/2/1999999973) (show (0:Int)<1999999943 by decide);refine{1,_,1,rfl,(by show (0:Int)<1999999973;decide),?_};refine{1,_,1,rfl,1,(),(),?_};rw[show ((m:Int)+2).toNat=m+2 by lia];refine ck (lo:=0) (n:=m+2) (λi σ f=>∃(one a:Int) (d:List Int) (v4 v6:Option V),σ=[ρ (.int c),ρ (.int (m:Int)),ρ (.ref l),ρ (.int one),v4,ρ (.int a),v6]/\0<=a/\a<2000000000/\a8 H f/\f l=ρ (.lst (d.map V.int))/\d.9=i) {c/2%1999999973,c/2/1999999973%1999999943,[],τ,τ,rfl,q,(),t,a5,rfl} ?_ ?_
  .rintro i σ f hi ⟨one,a,d,v4,v6,rfl,q,u,j,g,o⟩;refine{1,_,1,rfl,.inr {⋯,⋯},2,_,1,rfl,.inl {(),()},_,1,rfl,1,_,1,rfl,.inl {⋯,⋯},_,1,rfl,_,1,rfl,?_};refine{1,?_};refine{1,_,1,rfl,(by show (0:Int)<1999999973;decide),?_};have y:=ĩ (one*1664525+a*a+97*(0+(i:Int))+40503) (show (1999999973:Int)≠0 by decide);have J:=ņ (one*1664525+a*a+97*(0+(i:Int))+40503) (show (0:Int)<1999999973 by decide);refine{1,.inl {rfl,_,aG.of g},1,l,_,1,rfl,g,by rw[À];exact Ě (m:=2000) () (by rw[Ė];decide),?_};exact{_,_,d++[(one*1664525+a*a+97*(0+(i:Int))+40503)%1999999973],_,1,y,(),(app j g).1,(app j g).2,by rw[Ì,o];rfl}
  .rintro σ f ⟨one,a,d,v4,v6,rfl,q,u,j,g,o⟩;refine{2,l,1,aG.of g,λz p=>?_};have B:=zj (d.map V.int) 2;have r:kH (d.map V.int) (ρ 2) τ=(d.drop 2).map V.int:=by rw[wdX];exact B
   rw[r];exact k z (d.drop 2) _ (j.trans (a8.upd p)) (none_of j p) a5 (by rw[ď];lia)
theorem xC(L:Lk K mg):aP P w K mg base cI 2 L.pQ L.q8 ["_law_script"] (Iw K):=by
 have T:=L.T;refine L.qi.F.dC (N:=["_law_script","_law_known","_law_xs","_law_size","_law_step","_law_signs","_law_words","_law_k","_law_ys","_law_long"]) (λeZ A outer s H vs Q E nd hr h=>?_)
 let{a,ns,rfl,hS,k}:=h
 refine{_,(a6 (af (i:=1) bO)
  (a6 (af (i:=2) (ai (kI L) L.iq (a7 (ai (gd L) L.fO (a7 (0) (aC ag))) (aC ag))))
  (a6 (af (i:=3) (bf bI (bP (mY (is:=[2,2,2,3,2,4,2,3]) ∅)) (aK d8 (bf bI (2) ag (λ_ _=>rfl)) ag) (λ_ _=>rfl)))
  (a6 (af (i:=4) (bf bI (bP (mY (is:=[1,5,7,11,13,35]) ∅)) (aK d8 (bf bI (2) ag (λ_ _=>rfl)) ag) (λ_ _=>rfl)))
  (a6 (af (i:=5) (gE wg7 wgj wgk Bi bO (aC (bZ rfl (ak ["_law_known","_law_xs","_law_step"] [1,2,4]) (cW rfl T.range (aC (3))) (λ_ _ _ _ _ _=>b9) (λ_ _ _ _ _ _=>(bf Em (1) (aK d8 (aK fR (bf (fH (K:=K) rfl) (2) ag (λ_ _=>rfl)) (aK gC (3) (0))) ag) (λ_ _=>rfl)))))))
  (a6 (af (i:=6) (bP dW))
  (a6 (forA (cW rfl T.range (aC (bf bI (bP (mY (is:=[0,1,2,3,1,2,3,6]) ∅)) (aK d8 (bf bI (2) ag (λ_ _=>rfl)) ag) (λ_ _=>rfl)))) (au (i:=7)) (a6 (af (i:=8) (cS jd (ai (kI L) L.iq (a7 (ai (gd L) L.fO (a7 (0) (aC (aK fR ag (aK d8 (7) ag))))) (aC ag))) (cL (aK gC (aK kK (7) ag) ag)) fY))
  (a6 (af (i:=9) (bf bI (bP (mY (is:=[2,3,4,2,3,4,1,5]) ∅)) (aK d8 (bf bI (8) ag (λ_ _=>rfl)) ag) (λ_ _=>rfl)))
  (ae (bo (gE ă Đ Ē cg (6) (aC (gE wg7 wgj wgk Bi bO (aC (bZ rfl (ak ["_law_signs","_law_size"] [5,3]) (aL (cS jd (8) (cL ag) (cL (aK fR ag (9))))) (λ_ _ _ _ _ _=>b9) (λ_ _ _ _ _ _=>(bf Em (1) (aK d8 (0) (2)) (λ_ _=>rfl)))))))))))))
  (ae (av (bY (a7 (5) (aC (6))))))))))))),?_}
 ac_rfl
 refine⟨_,rfl,a,ns,0,rfl,hS,λc1 H1 s1=>?_⟩;refine⟨c1,4,rfl,⋯,λlx xs H2 s2 fx h2 hx=>?_⟩
 let{x0,x1,x2,x3,rfl}:=Im hx
 clear hx;have Mg:=s1.trans s2
 let{n,hn,n1}:=L6 _ (ĩ x0 (show (8:Int)≠0 by decide)) (ņ x0 (show (0:Int)<8 by decide))
 refine{⋯,λp hp=>?_};have G:=a8.upd (o:=.lst [.int 2,.int 2,.int 2,.int 3,.int 2,.int 4,.int 2,.int 3]) hp _ _ h2;have DI:=Mg.trans (a8.upd (o:=.lst [.int 2,.int 2,.int 2,.int 3,.int 2,.int 4,.int 2,.int 3]) hp);refine⟨_,rfl,lx,_,0,_,rfl,rfl,aG.of G,rfl,_,_,rfl,rfl,(by show (0:Int)<8;decide),p,_,_,_,rfl,rfl,aG.of a5,hn,?_⟩;generalize upd H2 p _=H3 at G DI
 let{sp,Uy,UA}:=L7 _ (ĩ x2 (show (6:Int)≠0 by decide)) (ņ x2 (show (0:Int)<6 by decide))
 refine{⋯,λp2 OB=>?_};have f:=a8.upd (o:=.lst [.int 1,.int 5,.int 7,.int 11,.int 13,.int 35]) OB _ _ G;have PN:=DI.trans (a8.upd (o:=.lst [.int 1,.int 5,.int 7,.int 11,.int 13,.int 35]) OB);refine⟨_,rfl,lx,_,2,_,rfl,rfl,aG.of f,rfl,_,_,rfl,rfl,(by show (0:Int)<6;decide),p2,_,_,_,rfl,rfl,aG.of a5,Uy,?_⟩;generalize upd H3 p2 _=H4 at f PN
 have UB:sp<=35:=by
  simp only[æ,ċ,or_false]at UA
  lia
 have ZJ:n<=4:=by
  simp only[æ,ċ,or_false]at n1
  lia
 obtain⟨st,XU⟩:∃st:Nat,x1%36=(st:Int):={(x1%36).toNat,()};have Pu:st<36:=();refine{rfl,1,(n:Int),rfl,(),(),λl hl=>?_};rw[î];refine comp_map (Ig st sp) (m7 0 n) hl (by rw[À,Ă];exact aq ()) (λ_ _=>trivial) (λx H5 Q' hx s5 q=>?_) (λH5 s5 m=>?_)
 .let{i,hi,rfl}:=Ç.mp hx
  have ZK:i<n:=Ą.mp hi;have hd:(st+i*sp)%36<(ch eJ).9:=by rw[aM,yo];exact Nat.mod_lt _ ⋯
  have e1:(ch eJ)[(st+i*sp)%36]?=ρ ((ch eJ).getD ((st+i*sp)%36) 0):=by rw[Õ,Ä hd];rfl
  have e2:=bK e1
  have e3:(((st+i*sp)%36:Nat):Int)=(x1+(sp:Int)*(0+(i:Int)))%36:=by
   rw[ń,Φ (sp:Int),Int.natCast_emod,Λ,wev,<-XU];show (x1%36+(i:Int)*(sp:Int))%36=_;rw[Int.emod_add_emod]
  rw[e3]at e2
  have e4:Ig st sp (.int (0+(i:Int)))=.str {#[(ch eJ).getD ((st+i*sp)%36) 0]}:=by
   rw[ń];rfl
  have q':=q H5 (a8.refl _);rw[e4]at q';exact⟨_,rfl,_,rfl,lx,_,1,_,rfl,rfl,aG.of (s5 _ _ f),rfl,_,rfl,_,rfl,_,_,rfl,rfl,.inl {(),()},_,_,rfl,rfl,_,_,rfl,rfl,(by show (0:Int)<36;decide),eJ,_,_,rfl,rfl,aq (by rw[yo];decide),e2,q'⟩
 have UC:((Ü n).map λ(i:Nat)=>V.int (0+(i:Int))).map (Ig st sp)=((jT st sp n).map λc=>({#[c]}:Str)).map V.str:=by
  unfold jT;rw[Ê,Ê,Ê];refine ü λi _=>?_;show Ig st sp (.int (0+(i:Int)))=_;rw[ń];rfl
 have d:(jT st sp n).9=n:=by unfold jT;rw[À,Ă]
 rw[UC]at m;refine{_,l,1,rfl,aG.of m,?_,?_}
 .have u:∀r:List Nat,((r.map λc=>({#[c]}:Str)).map (·.9)).sum=r.9:=by
   intro r
   induction r with
   |nil=>rfl
   |cons c r ih=>rw[Ñ,Ñ,ï,ih,õ];show 1+r.9=_;lia
  rw[u,À,d];show n+n*0<=16777216
  lia
 have I:∀r:List Nat,((r.map λc=>({#[c]}:Str)).map ch).flatten=r:=by
  intro r
  induction r with
  |nil=>rfl
  |cons c r ih=>rw[Ñ,Ñ,ű,ih];rfl
 have UD:=yt Pu UA n1 (x:=Ĵ "" ((jT st sp n).map λc=>({#[c]}:Str))) (by rw[oS ∅,I]);have BO:(Ĵ "" ((jT st sp n).map λc=>({#[c]}:Str))).length=n:=by rw[<-aM,oS ∅,I,d]
 generalize Ĵ "" ((jT st sp n).map λc=>({#[c]}:Str))=g at UD BO ⊢;clear m UC d I;have PQ:=PN.trans s5;have XV:=s5 _ _ f
 let{nw,XW,ZL}:=L8 _ (ĩ x3 (show (8:Int)≠0 by decide)) (ņ x3 (show (0:Int)<8 by decide))
 refine{à _,λJ M=>?_};have fw:H J=τ:=none_of PQ M;have XX:=a8.upd (o:=.lst []) M _ _ XV;have LK:=PQ.trans (a8.upd (o:=.lst []) M);refine{⋯,λp3 O=>?_};have UE:=a8.upd (o:=.lst [.int 0,.int 1,.int 2,.int 3,.int 1,.int 2,.int 3,.int 6]) O _ _ XX;have UG:=a8.upd (o:=.lst [.int 0,.int 1,.int 2,.int 3,.int 1,.int 2,.int 3,.int 6]) O _ _ (a5 (H:=H5) (a:=J) (o:=.lst []));have PR:=LK.trans (a8.upd (o:=.lst [.int 0,.int 1,.int 2,.int 3,.int 1,.int 2,.int 3,.int 6]) O);refine⟨_,rfl,lx,_,3,_,rfl,rfl,aG.of UE,rfl,_,_,rfl,rfl,(by show (0:Int)<8;decide),p3,_,_,_,rfl,rfl,aG.of a5,XW,?_⟩;generalize upd (upd H5 J _) p3 _=H7 at UE UG PR;refine{1,(),(),?_};rw[î]
 refine ck (lo:=0) (n:=nw) (λi σ H8=>∃(R:List Str) (v7 v8 v9:Option V),σ=[ρ (.ref a),ρ (.str eJ),ρ (.ref lx),ρ (.int (n:Int)),ρ (.int (sp:Int)),ρ (.str g),ρ (.ref J),v7,v8,v9]/\a8 H H8/\H8 J=ρ (.lst (R.map V.str))/\R.9=i/\∀w∈R,wW g w)
  {[],τ,τ,τ,rfl,PR,UG,rfl,(λw h=>nomatch h)} ?_ ?_
 .rintro i σ H8 hi ⟨R,v7,v8,v9,rfl,s8,h8,zr,S⟩;refine{2,_,1,rfl,(by show (0:Int)<3;decide),_,1,rfl,a,ns,1,s8.seq hS,λcc H9 s9=>?_};refine⟨cc,12,rfl,⋯,λly ys GW GX fy Jm hy=>?_⟩;have hq:(0+(i:Int))/3*6=((i/3*6:Nat):Int):=();have ZM:i/3*6<=6:=();refine{1,_,1,rfl,{⋯,⋯},_,1,rfl,.inr {⋯,⋯},1,ly,1,aG.of Jm,λl2 m=>?_}
  have ec:kH (ys.map V.int) (ρ ((0+(i:Int))/3*6)) τ=(ys.drop (i/3*6)).map V.int:=by
   rw[wdX,hq];exact zj _ _
  rw[ec];have U:(ys.drop (i/3*6)).length ≥ 6:=by rw[ď];lia
  generalize ys.drop (i/3*6)=zs at U;have B:(upd GW l2 _) l2=ρ (.lst (zs.map V.int)):=a5;have LR:=((s8.trans s9).trans GX).trans (a8.upd (o:=.lst (zs.map V.int)) m);have OC:=a8.upd (o:=.lst (zs.map V.int)) m _ _ (GX _ _ (s9 _ _ h8));generalize upd GW l2 _=JX at B LR OC
  obtain⟨C,D,rfl⟩:∃C D,zs=C::D:=by
   cases zs with
   |nil=>exact absurd U ⋯
   |cons C D=>exact⟨C,D,rfl⟩
  let{lg,XY,ZN,ZO}:=La _ (ĩ C (show (8:Int)≠0 by decide)) (ņ C (show (0:Int)<8 by decide))
  refine{⋯,λp4 X=>?_};have v:=a8.upd (o:=.lst [.int 2,.int 3,.int 4,.int 2,.int 3,.int 4,.int 1,.int 5]) X _ _ B;have Jn:=LR.trans (a8.upd (o:=.lst [.int 2,.int 3,.int 4,.int 2,.int 3,.int 4,.int 1,.int 5]) X);have Y:=a8.upd (o:=.lst [.int 2,.int 3,.int 4,.int 2,.int 3,.int 4,.int 1,.int 5]) X _ _ OC;refine⟨_,rfl,l2,_,0,_,rfl,rfl,aG.of v,(bK (xs:=(C::D).map V.int) (j:=0) rfl),_,_,rfl,rfl,(by show (0:Int)<8;decide),p4,_,_,_,rfl,rfl,aG.of a5,XY,?_⟩;generalize upd JX p4 _=LU at v Jn Y;refine{1,.inl {rfl,_,aG.of Y},rfl,1,?_};refine{2,_,1,rfl,1,l2,1,aG.of v,λl3 EC=>?_}
  obtain⟨ms,em,RJ⟩:∃ms:List Int,kH ((C::D).map V.int) (ρ 1) (ρ (1+(lg:Int)))=ms.map V.int/\ms.9=lg:=by
   refine{D.take lg,?_,by rw[Û];rw[õ]at U;lia};rw[show (1+(lg:Int))=((1+lg:Nat):Int) by lia,show (1:Int)=((1:Nat):Int) from rfl,Jj _ (),ς];show (((D.map V.int).take (1+lg-1)))=_;rw[wcj]
  rw[em];have XZ:=Jn.trans (a8.upd (o:=.lst (ms.map V.int)) EC);have PU:=a8.upd (o:=.lst (ms.map V.int)) EC _ _ Y;refine{l3,rfl,{_,aG.of a5},λlc LN=>?_}
  have UH:0<(n:Int):=by
   simp only[æ,ċ,or_false]at n1
   lia
  refine Eg (λy=>∃t,y=.str t/\∃cc,t={#[cc]}/\cc∈ch g) (aH K l3 (ms.map V.int)) LN (by rw[À];exact aq ()) (λH' s'=>s'.seq (aG.of a5)) (λx UI Q' hx Z q=>?_) (λus UI Z d hR Y0=>?_)
  .let{y,hy,rfl}:=Ç.mp hx
   have y0:=ĩ y (show (n:Int)≠0 by lia);have y1:=ņ y UH;obtain⟨dd,Y1⟩:∃dd:Nat,y%(n:Int)=(dd:Int):={(y%(n:Int)).toNat,()};have hd:dd<(ch g).9:=by rw[aM];lia
   have e1:(ch g)[dd]?=ρ (ch g)[dd]:=by simp[hd]
   have e2:=bK e1;rw[<-Y1]at e2;exact{3,_,1,rfl,UH,g,_,1,rfl,aq (),e2,q _ UI {_,rfl,1,û hd} (a8.refl _)}
  let{ts,rfl,Oq}:=Bb hR
  rw[À,À]at d;have u:=y7 Oq;refine{_,lc,ts,rfl,rfl,aG.of Y0,?_,?_}
  .rw[u];show ts.9+ts.9*0<=16777216
   lia
  have UJ:wW g (Ĵ "" ts):=Cj ∅ () () Oq;generalize Ĵ "" ts=wd at UJ;have Y2:=XZ.trans Z;have Y3:=Z _ _ PU;refine{J,_,1,rfl,Y3,by rw[À];exact aS (),?_};refine{R++[wd],_,_,1,λb o e=>?_,?_,by simp[zr],λw hw=>?_}
  .rw[aa (a9 e fw)];exact Y2 _ _ e
  .rw[a5,Ò];rfl
  .rcases Ú.mp hw with z |z
   .exact S w z
   .rw[Ó.mp z];exact UJ
 .rintro σ H8 ⟨R,v7,v8,v9,rfl,s8,h8,zr,S⟩;refine{2,by show 2<=sizeLine;decide,λq hq=>?_};exact k q J g R _ (s8.trans (a8.upd hq)) (none_of s8 hq) fw a5 (a8.upd hq _ _ h8) UD () S
theorem xD(L:Lk K mg):aP P w K mg base cI 2 L.pR L.q9 ["_law_script","_law_signs"] (HY K):=by
 have T:=L.T;refine L.qj.F.dC (N:=["_law_script","_law_signs","_law_some","_law_many","_law_wide"]) (λV A outer s H vs Q E nd hr h=>?_)
 let{a,ns,g,rfl,Y,u,v,k}:=h
 obtain⟨x,l,y,B,Z,C,D⟩:∃(x:Pos) (l:List Expr) (y B:Pos),bL (top 82)=.Assign [.Name "_law_some" x] (.List l y) B::(bL (top 82)).tail/\(∀X,PA X l (rz QS))/\∀env,č (.List l y) (ρ (.Name "_law_some" x)) B.line env=pure false:={_,_,_,1,λ_=>by repeat first |exact dW |refine HL ?_,λ_=>rfl};rw[Z]
 refine{_,(G0 (i:=2) nd rfl (ĥ rfl) C (a6 (rR (bf bI (2) (aK d8 (ai (gd L) L.fO (a7 (0) (aC ag))) ag) (λ_ _=>rfl)) (fS rfl (aV (au (i:=3)) (aV (au (i:=4)) dQ))))
  (HE (bg (cT iA (DH T.len (1)) ag) (ae (af (i:=4) (ax (oM rfl) (by rfl) T.min HW (a7 (4) (aC ag))))) aI)
  (ae (av (bY (a7 (3) (aC (4)))))))) (D _)),?_}
 ac_rfl
 refine Bj λe G I hl hI=>{hl ▸ (by show 12<=sizeLine;decide),λb f=>?_};have d:=I.trans (a8.upd (o:=.lst G) f);have M:=a5 (H:=e) (a:=b) (o:=.lst G);have O:=a8.upd (o:=.lst G) f;generalize upd e b _=ZP at d M O;refine⟨_,rfl,_,rfl,a,ns,4,rfl,d.seq Y,λc H2 J=>?_⟩;have R:=ĩ c (show (12:Int)≠0 by decide)
 let{{many,wide},m,m2,m8,n,r}:=Lb _ R (ņ c (show (0:Int)<12 by decide))
 let{q,t,hm}:=hI _ _ m
 have t:=bK t;rw[Int.toNat_of_nonneg R]at t;have j:=d.trans J;refine{_,1,rfl,(by show (0:Int)<12;decide),b,_,_,1,rfl,aG.of (J _ _ M),t,q,1,eY.of (J _ _ (O _ _ hm)),rfl,_,1,_,1,rfl,?_};refine{λσ S=>S=H2/\∃(wd:Int),σ=[ρ (.ref a),ρ (.str g),ρ (.ref b),ρ (.int many),ρ (.int wd)]/\1<=wd/\wd<=6/\(2<g.9->wd<=3),?_,?_}
 .refine{1,g,rfl,aq (),_,1,rfl,1,rx (λU=>?_) (λU=>?_)}
  .refine⟨_,rfl,wide,3,rfl,?_⟩
   by_cases z:(3:Int)<wide
   .rw[if_pos z];exact⟨rfl,3,rfl,⋯,⋯,λ_=>μ _⟩
   .rw[if_neg z];exact{rfl,wide,rfl,n,r,λ_=>()}
  .exact{rfl,wide,rfl,n,r,λz=>absurd (decide_eq_true ()) U}
 .rintro σ S ⟨rfl,wd,rfl,n,r,w3⟩;refine{2,by show 2<=sizeLine;decide,λp m=>?_};exact k p many wd _ (j.trans (a8.upd m)) (none_of j m) a5 (Fj u v m2 m8 n r w3)
end
end K70
namespace Bs
open PySem.Spec PyProof.Rows PySem.Builtin
theorem wj:∀{l:List Str} {p:Str},(p::l).Pairwise yp->risingS p l=true
 |[],_,_=>rfl
 |x::r,p,h=>by
  let{a,b}:=weO.mp h
  show (!ltCps x.cps.toList p.cps.toList&&risingS x r)=true;rw[wj b,Bool.and_true,ltCps_eq];have:=a x (Ø ..);unfold yp at this;simpa using this
theorem Jo(l:List Str):∃s:List Str,s.Perm l/\sortedS s=true:=by
 classical
 refine{l.mergeSort λa b=>decide (yp a b),List.mergeSort_perm _ _,?_}
 have h:=List.pairwise_mergeSort (le:=λa b=>decide (yp a b)) (λa b c d e=>decide_eq_true (vB (of_decide_eq_true d) (of_decide_eq_true e))) (λa b=>by
  by_cases z:b.cps.toList<a.cps.toList
  .have:yp b a:=λy=>List.lt_asymm z y;simp[this]
  .have:yp a b:=z
   simp[this]) l
 have h:=h.imp λx=>of_decide_eq_true x;generalize (l.mergeSort λa b=>decide (yp a b))=s at h
 cases s with
 |nil=>rfl
 |cons x r=>exact wj h
theorem Jp(g:List Str)(j:Str->List (Key×V)):∃ls,qx g j ls:=by
 classical
 refine{g.filter λp=>decide (∃a:List Str,(∀k∈a,k∈g/\gv (j k) a=true)/\p∈a),Ζ,λk hk=>?_,λa h k hk=>Ý.mpr {(h k hk).1,decide_eq_true ⟨a,h,hk⟩}}
 let{a,h,c}:=of_decide_eq_true (Ý.mp hk).2
 exact rB (λp b=>Ý.mpr {(h p b).1,decide_eq_true ⟨a,h,b⟩}) (h k c).2
end Bs
namespace L2
open PySem.Spec PyProof.Rows PySem.W
section
variable{t:Nat}{C:Addr}
noncomputable abbrev dY(C t:Addr):Obj:={cls:=.ref C,data:=.fields #[.ref t,.none,.none,.none,.bool false,.none]}
noncomputable abbrev ph(vs:List Value):Obj:={cls:=.type "tuple",data:=.seq vs.6}
end
end L2
namespace L2
open PySem.Spec PyProof.Rows
noncomputable def XN(x C:Addr):HO:=.ext λh=>∃t,h.get? x=ρ (dY C t)
def LV(K:Á)(CB:Addr)(t:TA):TE:=λσ H Q=>t σ H λvs H1=>∃x C nm m,vs=[.ref x,m]/\H1 x=ρ (XN x C)/\bA K C CB nm/\Q .non H1
def LW(K:Á)(C:Addr)(sp:Sp)(E:XK)(t:TA):TS:=λ_ σ H=>t σ H λvs H1=>vs.9<=sizeLine/\∀x,H1 x=τ ->
 sp (.ref x::vs) (upd H1 x (XN x C)) (λv H2=>v=.non/\((H2 x=ρ (XN x C)/\E (.ref C) τ (del H2 x))\/∃d,H2 x=ρ (XD x C d)/\E (.ref C) (ρ d) (del H2 x))) E0
section
variable{prog:É}{w:World}{A:Around}{R:ī->Shared->Prop}{h:Heap}{g:Array ł}{d:Drawn}{t:Nat}{os:ô}{nm q:Str}{C CB N:Addr}{bs:List Value}{hdct:Bool}{sn:List Str}{sub:List Value}{ab:Bool}{col:Option Bool}{dd:Option Addr}{k0 k1 k2 k3 k5:Option Value}
theorem GA{rest:List Value}{init:Value}{p:Around}(l:h.get? C=ρ (Č nm q C N bs (p5 CB) hdct sn sub ab col dd k0 k1 k2 k3 k5 "ValueError.__new__"))
 (hi:Looks (model prog w) h (Η (.ref C) "__init__") (ρ init)) (J:∀self,Looks (model prog w) h (bindSpecial init self) (init,[self])) (j:rest.9<=sizeLine)
 (T:codeAny (model prog w) p (.call init {.ref (h.7+1)::rest,[]}) (InitBack (h.7+1) R) {(h.push (ph rest)).push (dY C h.7),g,d,t,os}) :
 wpAny (model prog w) p (Ĩ.«type.__call__» {.ref C::rest,[]}) (λfin s'=>match fin with |.done f=>R (.ok f) s' |.again I=>I.quiet=true/\codeAny (model prog w) A I R s') (λe s'=>R (.error e) s') ⟨h,g,d,t,os⟩:=by
 have F:=wc3
 repeat (first |with_reducible refine Ħ l ?_ |with_reducible refine wpAny_madeBy_exc l ?_ |wp_step)
 refine codeAny_call_builtin_code (wdG _ F.quiet) (J1 l ?_);refine J4 l ?_ j;show wpAny _ _ _ _ _ _;have k:∀b o,h.get? b=ρ o->((h.push (ph rest)).push (dY C h.7)).get? b=ρ o:=λb o e=>Ð _ (Ð _ e)
 have a:=Ð {cls:=.ref C,data:=.fields #[.ref h.7,.none,.none,.none,.bool false,.none]}
  (Ð {cls:=.type "tuple",data:=.seq rest.6} l)
 have c:((h.push {cls:=.type "tuple",data:=.seq rest.6}).push {cls:=.ref C,data:=.fields #[.ref h.7,.none,.none,.none,.bool false,.none]}).get? (h.7+1)=ρ {cls:=.ref C,data:=.fields #[.ref h.7,.none,.none,.none,.bool false,.none]}:=by heap_get
 have i:(Æ C::p5 CB).contains (.ref C)=true:=by simp
 have m:=hi.keeps k;have n:=(J (.ref (h.7+1))).keeps k;unfold Β
 repeat (first |with_reducible refine Ħ c ?_ |(with_reducible refine π a ?_;rw[i]) |wp_step)
 show wpAny _ _ (Η (.ref C) _) _ _ _;refine m.at ?_;refine ö (Â (n.at ?_));refine Â (đ (ē T λr s' z=>?_));rcases r with e |(v |_ |_ |_)<;>first |exact z |exact z.elim |skip
 let{rfl,z}:=z
 wp_walk
 exact z
theorem zk{rest:List Value}{init:Value}(l:h.get? C=ρ (Č nm q C N bs (p5 CB) hdct sn sub ab col dd k0 k1 k2 k3 k5 "ValueError.__new__"))
 (hi:Looks (model prog w) h (Η (.ref C) "__init__") (ρ init)) (o:∀self,Looks (model prog w) h (bindSpecial init self) (init,[self])) (j:rest.9<=sizeLine)
 (p:codeAny (model prog w) (A.under (.builtin "type.__call__" {.ref C::rest,[]})) (.call init {.ref (h.7+1)::rest,[]}) (InitBack (h.7+1) R) {(h.push (ph rest)).push (dY C h.7),g,d,t,os}) :
 codeAny (model prog w) A (.call (.ref C) {rest,[]}) R ⟨h,g,d,t,os⟩:=by
 have f1:=tc_lookup;have f2:=PySem.tc_bind (.ref C);have a:(⟨h,g,d,t,os⟩:Shared).TypeIs (.ref C) "type":={_,l,rfl};refine wfO ?_;show wpAny _ _ (callAny (.ref C) _) _ _ _
 repeat (any_goals (first |assumption |with_reducible refine Ħ l ?_ |wp_step))
 refine{rfl,?_};exact codeAny_call_builtin_at (wdG _ ∅) entry_typeCall (wpAny_check_type_call_sub l (GA l hi o j p))
end
section
variable{CB C:Addr}{name:Str}{ta tv:TE}
def OD(K:Á)(CB:Addr)(ta tv:TE)(name:Str):TS:=λD σ H=>tv σ H λy H1=>ta σ H1 λz H2=>∃x C nm,z=.ref x/\H2 x=ρ (XN x C)/\bA K C CB nm/\findIn K (.ref C) name=ρ τ /\
 ∀d,H2 d=τ->D.nx σ (upd (upd H2 d (.xd [(name,y)])) x (XD x C d))
end
section
variable{P:É}{w:World}{H:Hp}{h:Heap}{x C t:Addr}
theorem LX(e:h.get? x=ρ (dY C t)):bq P w H h x (XN x C):={⟨t,e⟩,{_,e},λc d ⟨a,b⟩ k=>{a,k _ b}}
end
section
variable{X:Cx}{CB C f:Addr}{fd:ì}{ps:List Str}{sp:Sp}{E:XK}{k:Nat}{p pos fQ:Pos}{e:Expr}{es:List Expr}{t:TA}{x nm:Str}
theorem Inv.newExc(I:Inv X g σ H s)(us:List Value)(C:Addr) :
 Inv X g σ (upd H (s.8+1) (XN (s.8+1) C)) {s with heap:=(s.heap.push (ph us)).push (dY C s.8)}:=by
 have c:=I.kept (h':=s.heap.push (ph us)) (t':=s.toks) λb u q=>Ð _ q;refine c.laid (a:=s.8+1) (t':=s.toks) (λb u q=>Ð _ q) (weh (Ĝ _ _)) (LX (t:=s.8) ?_);have:=ã (s.heap.push (ph us)) (o:=dY C s.8) rfl;rwa[Ĝ]at this
theorem GB(hT:Be X E)(hc:X.calm=true)(U:bA X.K C CB nm)(hi:findIn X.K (.ref C) "__init__"=ρ (ρ (.ref f)))(J:isFn X.K (.ref f)=true)
 (F:aP X.prog X.w X.K X.mg X.base cI k f fd ps sp) (hr:cG (k+1) X.A) (hb:Binds X.K fd ps []) (hg:Gl X x) (hm:X.mg x=ρ (.ref C)) (ha:PA X (e::es) t)
 (T:(x==("__debug__":Str))=false:=by decide) (he:starEach (e::es) X.5=(false,eval e X.5)::starEach es X.5:=by rfl) (hpl:(backTo fQ (starEach es X.5)).any (·.1)=false:=by rfl) :
 PS X (.Raise (ρ (.Call (.Name x p) (e::es) [] fQ)) τ pos) (LW X.K C sp E t):=by
 refine{?_};intro a s σ H D I h
 let{Z,N,bs,sn,sub,ab,col,dd,k0,k1,k2,k3,k5,lk}:=U.lk
 refine pH (C:=C) (CB:=CB) (nm:=nm) (q:=Z) (N:=N) (bs:=bs) (hdct:=true) (sn:=sn) (sub:=sub) (ab:=ab) (col:=col) (dd:=dd) (k0:=k0) (k1:=k1) (k2:=k2) (k3:=k3) (k5:=k5) (I.ok.hd hc) ?_;refine ģ (g7 I hg hm ?_ T);refine Ŭ (h₀:=X.base) I.ok.mod.Hd U.kp (bG (ha fQ a s σ H _ I h) λc i ⟨vs,H1,j,r,m,q⟩=>{j.fP,?_}) he hpl;have B:=j.aT.fresh (ı i.8);have Q:=q (i.8+1) B;have G:=Inv.newExc j c C;have R:Vals (V.ref (i.8+1)::vs) (Æ (i.8+1)::c):=.cons rfl r
 have hl:(Æ (i.8+1)::c++[]).9=ps.9:=by
  have S:=R.9;rw[F.len _ _ _ _ Q]at S;rw[ý];exact S.symm
 have n:=hb _ (Æ (i.8+1)::c) G.fP hl;rw[ý]at n
 let{L,g,dr,tk,os}:=i
 refine đ (zk (j.fP _ _ lk) (δ j.fP hi) (λself=>bind_fn j.fP self (beq_iff_eq.mp J)) (by show c.9<=sizeLine;rw[<-r.9];exact m) ?_);refine ē (F.run _ X.stack _ _ {Æ (L.7+1)::c,[]} (Æ (L.7+1)::c) _ _ E0 (hr.make C c []) (G.Ek.make C c []) n R Q) λrr Y b=>?_
 cases rr with
 |error e=>exact ç b
 |ok fl=>
  cases fl with
  |next=>exact ç b
  |brk=>exact ç b
  |cont=>exact ç b
  |ret u=>
   let{v,H',l,rv,ev,q3}:=G.after b
   subst ev;refine{rv,?_};have o:X.s₀.8<=L.7+1:=Ï j.sz (ı _);rcases q3 with⟨y,M⟩ |⟨d,y,M⟩
   .let{{O,z},_}:=l.aT _ _ y
    exact{_,τ,O,rfl,l.fP _ _ lk,z,hT a σ _ Y _ C τ (l.del y) {o,fF,_,_,z,by show 1<6;decide,.inl rfl} M}
   .let{{O,z},_}:=l.aT _ _ y
    exact{_,ρ d,O,rfl,l.fP _ _ lk,z,hT a σ _ Y _ C (ρ d) (l.del y) {o,fF,_,_,z,by show 1<6;decide,.inl rfl} M}
end
end L2
namespace L2
open PySem.Spec PyProof.Rows PySem.W Builtin Builtin.ObjectAttr
section
variable{X:Cx}{CB:Addr}{o value:Expr}{ta tv:TE}{name:Str}{pos pos':Pos}
def LY(K:Á)(CB:Addr)(ta tv:TE)(name:Str):TS:=λD σ H=>tv σ H λy H1=>ta σ H1 λz H2=>∃x C nm d fs,z=.ref x/\H2 x=ρ (XD x C d)/\H2 d=ρ (.xd fs)/\fs.9<=50/\bA K C CB nm/\findIn K (.ref C) name=ρ τ/\fs.lookup name=τ/\D.nx σ (upd H2 d (.xd (fs++[(name,y)])))
theorem GC(ha:PE X o ta)(J:PE X value tv)(hs:č value (ρ (.Attribute o name pos')) pos.line X.5=pure false):PS X (.Assign [.Attribute o name pos'] value pos) (LY X.K CB ta tv name):=by
 refine{?_};intro c s σ H D I h;refine wcR (bG (J c s σ H _ I h) λu G ⟨y,L,M,O,q⟩=>bG (ha c G σ L _ M q) λQ E R=>?_) hs
 let{z,i,g,S,x,C,T,d,fs,V,Y,hd,hl,U,hn,Z,q2}:=R
 subst V;obtain rfl:Q=Æ x:=S
 let{{t,ht},_}:=g.aT x _ Y
 let{mA,ns,r}:=g.aT d _ hd
 let{qn,N,bs,sn,sub,ab,m,dd,k0,k1,k2,k3,k5,lk}:=U.lk
 refine D4 (CB:=CB) g.fP ht ns (D3 r) (by rw[À];lia) (cd:={name:=T,bases:=bs,mro:=.ref C::p5 CB,ns:=N,qualname:=qn,hasDict:=true,slotNames:=sn,subclasses:=sub,abstract:=ab,collection:=m,hasDel:=false}) (by unfold clsIn;rw[lk]) rfl rfl hn U.sa λp tk k j=>{σ,_,?_,q2}
 let{o',_,_,eo,_}:=id j
 have nx:∀{b:Addr} {o:HO},i b=ρ o->(∀fs,o≠.xd fs)->b≠d:=λe n z=>by rw[z,hd]at e;exact n _ (Î e).symm
 have A:∀{b:Addr},i b=τ->b≠d:=λe z=>by rw[z,hd]at e;cases e
 have un:Un (qu X.stack) [] i (upd i d (.xd (fs++[(name,y)]))) E.heap p:=by
  refine{λb o q n _ _=>by rw[k b (A n)];exact q,λb o q n _ _=>{o.slots,by rw[k b (A n)];exact q},λb o q n _=>?_,λb o q _=>?_,λb vs q=>?_,λb o v q=>?_,λb ps q=>?_}
  .rw[aa (A n)];exact n
  .by_cases z:b=d
   .rw[z];exact{_,eo}
   .exact{o,by rw[k b z];exact q}
  .rw[aa (nx q λψ z=>by cases z)];exact q
  .rw[aa (nx q λψ z=>by cases z)];exact q
  .exact{#[],by rw[aa (nx q λψ z=>by cases z),q];simp}
 have aT:iT X.prog X.w (upd i d (.xd (fs++[(name,y)]))) p:=λa o e=>by
  by_cases z:a=d
  .subst z;rw[a5]at e;cases e;refine{_,j,λf=>?_};rw[yQ Z]
   by_cases e:f=name
   .rw[if_pos e,if_pos e];exact O
   .rw[if_neg e,if_neg e];exact r f
  .rw[aa z]at e;refine(g.aT a o e).qy (λb u l q=>?_) (λb q=>?_) λb vs q=>?_
   .rw[k b ?_]
    .exact q
    .rintro rfl;rcases l with rfl |l
     .exact z rfl
     .rw[hd]at l;cases l
   .rw[aa (λB=>by rw[B,hd]at q;cases q)];exact q
   .rw[aa (λB=>by rw[B,hd]at q;cases q)];exact q
 exact g.vf (s':={E with heap:=p,toks:=tk}) rfl un aT g.bare λb z=>absurd z (by simp)
end
section
variable{prog:É}{w:World}{A:Around}{E:Value->Shared->Prop}{s:Shared}{K:Á}{x C CB:Addr}{name:Str}{v:Value}
theorem GD{Q:Unit->Shared->Prop}(X:K.In s.heap)(hx:s.heap.get? x=ρ (dY C t))(hc:clsIn K C=ρ cd)(hm:cd.mro=.ref C::p5 CB)(hh:cd.hasDict=true)(ha:findIn K (.ref C) name=ρ τ)
 (hs:findIn K (.ref C) "__setattr__"=ρ (ρ (.builtin "object.__setattr__")))
 (h:∀h' d tk,s.8<=d->(∀b o,b≠x->s.heap.get? b=ρ o->h'.get? b=ρ o)->h'.get? x=ρ {cls:=.ref C,dict:=ρ d,data:=.fields #[.ref t,.none,.none,.none,.bool false,.none]}->h'.Ns1 d (λy=>if y=name then ρ v else τ)->Q .unit {s with heap:=h',toks:=tk}) :
 wpAny (model prog w) A (setAttr (.ref x) name v) Q E s:=by
 have J:InstAt s.heap x (dY C t) C τ:=⟨hx,rfl,rfl,trivial⟩;refine wf6 X J hs (vT (s:={s with toks:=s.toks+1}) X J hc hm ha ?_);unfold storeInOwnDict;refine Â (Í ?_);rw[if_neg (by simp)];unfold ownDictForStores instanceDict;refine Â (Â (weG hx ?_));dsimp only;refine Â (weN (s:={s with toks:=s.toks+1}) (wdP X hc) ?_);rw[hh];have UK:(s.heap.push {cls:=.type "dict",data:=.dict #[]}).get? x=ρ (dY C t):=Ð _ hx;have UL:x≠s.8:=Ù (Ë hx);simp only[wgA,ŋ,if_false,Bool.not_false,weT];rw[if_neg (by simp[typeHasDict])];refine Â (wpAny_alloc ?_);refine Â (wpAny_update UK ?_);refine Í ?_
 have PV:((s.heap.push {cls:=.type "dict",data:=.dict #[]}).update x λo=>{cls:=o.cls,dict:=ρ s.8,data:=o.data,slots:=o.slots}).get? s.8
  =ρ {cls:=.type "dict",data:=.dict #[]}:=(wgM _ _ _ _ UL.symm).trans (Heap.get?_push_at rfl rfl)
 have GV:((s.heap.push {cls:=.type "dict",data:=.dict #[]}).update x λo=>{cls:=o.cls,dict:=ρ s.8,data:=o.data,slots:=o.slots}).Ns s.heap.objs.size (λ_=>τ):=
  {_,#[],_,PV,rfl,λe he=>absurd he (by simp),λ_=>rfl}
 show wpAny _ _ (storeInDict s.heap.objs.size (.str name s.toks) name v) _ _ _;unfold storeInDict newKeyGuard;refine Â (Í (Â (wgV (wh6 GV) λh' zt ED=>?_)))
 let{oD,Wc,Wd,Ri,Tw,Tx}:=zt.count (wfN name v Within.nil)
 refine Â (wfm Ri (by rw[Tw];exact wfn (Ï Tx (by grind))) ?_)
 wp_walk
 refine h h' s.heap.objs.size _ (Å _) (λb ob Y4 hb=>?_) ?_ zt
 .exact(ED.2 b (Ù (Ë hb))).trans ((wgM _ _ _ _ Y4).trans (Ð _ hb))
 .exact(ED.2 x UL).trans (Ő _ UK rfl)
end
section
variable{prog:É}{w:World}{A:Around}{s:Shared}{K:Á}{x C CB:Addr}{R:ī->Shared->Prop}{nm q:Str}{N:Addr}{bs:List Value}{sn:List Str}{sub:List Value}{ab:Bool}{col:Option Bool}{dd:Option Addr}{k0 k1 k2 k3 k5:Option Value}
theorem ue(X:K.In s.heap)(j:s.heap.get? x=ρ (dY C t))(hk:K.lookup C=ρ (Č nm q C N bs (p5 CB) true sn sub ab col dd k0 k1 k2 k3 k5 "ValueError.__new__"))
 (h:∀h' t',(∀b o,b≠x->s.heap.get? b=ρ o->h'.get? b=ρ o)->h'.get? x=ρ (dY C t')->R (.ok (.ret .none)) {s with heap:=h'}) :
 codeAny (model prog w) A (.call (.builtin "ValueError.__init__") {[.ref x,u],[]}) R s:=by
 have F:=wc3;have f:=X _ _ hk;have J:InstAt s.heap x (dY C t) C τ:=⟨j,rfl,rfl,trivial⟩;have sub:Looks (model prog w) s.heap (Β (.ref x) (.type "ValueError")) true:=J.type.andThen (wg5 X (by unfold mroIn clsIn;rw[hk];rfl));refine Ů F.init.plain F.initEntry ?_;simp only[we3,F.initKind,F.initSplit,F.initRow];refine Â (sub.here ?_);simp only[wgA,ŋ,if_false];have a:=F.noStar
 let{c,g,d,l,os}:=s
 repeat (first |with_reducible refine Ħ f ?_ |wp_step)
 have i:x≠c.7:=Ù (Ë j);refine h _ c.objs.size (λb o k e=>?_) ?_
 .rw[Ċ _ _ (è k)];exact Ð _ e
 .exact Ő _ (Ð _ j) rfl
end
section
variable{prog:É}{w:World}{A:Around}{E:Value->Shared->Prop}{s:Shared}{K:Á}{x C CB:Addr}{nm q:Str}{N:Addr}{bs:List Value}{sn:List Str}{sub:List Value}{ab:Bool}{col:Option Bool}{dd:Option Addr}{k0 k1 k2 k3 k5:Option Value}
theorem B4{Q:Value->Shared->Prop}(X:K.In s.heap)(g:s.heap.get? x=ρ (dY C t))(hk:K.lookup C=ρ (Č nm q C N bs (p5 CB) true sn sub ab col dd k0 k1 k2 k3 k5 "ValueError.__new__"))
 (h:∀h' t',(∀b o,b≠x->s.heap.get? b=ρ o->h'.get? b=ρ o)->h'.get? x=ρ (dY C t')->Q .none {s with heap:=h'}) :
 wpAny (model prog w) A (call (.builtin "ValueError.__init__") [.ref x,u]) Q E s:=đ (ue X g hk h)
end
end L2
namespace L2
open PySem.Spec PyProof.Rows
section
variable{X:Cx}{CB:Addr}{pos:Pos}{name:Str}{ta tv:TE}{o value:Expr}{pos':Pos}
theorem Jq(ha:PE X o ta)(T:PE X value tv)(hs:č value (ρ (.Attribute o name pos')) pos.line X.5=pure false):PS X (.Assign [.Attribute o name pos'] value pos) (OD X.K CB ta tv name):=by
 refine{?_};intro g s σ H D I h;refine wcR (bG (T g s σ H _ I h) λu L ⟨y,M,O,Q,q⟩=>bG (ha g L σ M _ O q) λR G S=>?_) hs
 let{z,m,i,V,x,C,Y,Z,l,U,hn,q2}:=S
 subst Z;obtain rfl:R=Æ x:=V
 let{{t,ht},_}:=i.aT x _ l
 let{qn,N,bs,sn,sub,ab,r,dd,k0,k1,k2,k3,k5,lk}:=U.lk
 refine GD (CB:=CB) i.fP ht (cd:={name:=Y,bases:=bs,mro:=.ref C::p5 CB,ns:=N,qualname:=qn,hasDict:=true,slotNames:=sn,subclasses:=sub,abstract:=ab,collection:=r,hasDel:=false}) (by unfold clsIn;rw[lk]) rfl rfl hn U.sa λA d tk hd k ex ns=>{σ,_,?_,q2 d (i.aT.fresh hd)};have UM:d≠x:=λz=>by rw[z]at hd;exact absurd (Þ (i.aT.lt l) hd) (þ _)
 have c:=i.aT.fresh hd
 have un:Un (qu X.stack) [] m (upd (upd m d (.xd [(name,y)])) x (XD x C d)) G.heap A:=by
  have nx:∀{b:Addr} {o:HO},m b=ρ o->(∀ψ,o≠.ext ψ)->b≠x:=λe n z=>by rw[z,l]at e;exact n _ (Î e).symm
  have B:∀{b:Addr},m b=τ->b≠x:=λe z=>by rw[z,l]at e;cases e
  refine{λb o q n _ _=>k b o (B n) q,λb o q n _ _=>{o.slots,k b o (B n) q},λb o q n _=>?_,λb o q _=>?_,λb vs q=>?_,λb o v q=>?_,λb ps q=>?_}
  .rw[aa (B n),aa (λz=>by rw[z]at q;exact absurd (Þ (Ë q) hd) (þ _))];exact n
  .by_cases z:b=x
   .rw[z];exact{_,ex}
   .exact{o,k b o z q}
  .rw[aa (nx q λψ z=>by cases z),aa (a9 q c)];exact q
  .rw[aa (nx q λψ z=>by cases z),aa (a9 q c)];exact q
  .exact{#[],by rw[aa (nx q λψ z=>by cases z),aa (a9 q c),q];simp}
 have aT:iT X.prog X.w (upd (upd m d (.xd [(name,y)])) x (XD x C d)) A:=λa o e=>by
  by_cases z:a=x
  .subst z;rw[a5]at e;cases e;exact QL ex
  .rw[aa z]at e
   by_cases J:a=d
   .subst J;rw[a5]at e;cases e;refine{_,ns,λf=>?_}
    by_cases p:f=name
    .have j:(f==name)=true:=beq_iff_eq.mpr p;simp only[wfS,j,if_pos p];exact Q
    .have j:(f==name)=false:=beq_eq_false_iff_ne.mpr p;simp only[wfS,j,if_neg p]
     trivial
   .rw[aa J]at e;refine(i.aT a o e).qy (λb u j q=>k b u ?_ q) (λb q=>?_) λb vs q=>?_
    .rintro rfl;rcases j with rfl |j
     .exact z rfl
     .rw[l]at j;cases j
    .have:b≠x:=λE=>by rw[E,l]at q;cases q
     rw[aa this,aa (a9 q c)];exact q
    .have:b≠x:=λE=>by rw[E,l]at q;cases q
     rw[aa this,aa (a9 q c)];exact q
 exact i.vf (s':={G with heap:=A,toks:=tk}) rfl un aT i.bare λb z=>absurd z (by simp)
end
section
variable{X:Cx}{CB f:Addr}{p pos apos:Pos}{e e2:Expr}{t:TA}{D5:Str}
theorem GF(r:Gl X D5)(J:X.mg D5=ρ (.ref CB))(B:Jy X.K CB)(ha:PA X [e,e2] t)(g:(D5==("__debug__":Str))=false:=by decide)
 (he:starEach [e,e2] X.5=(false,eval e X.5)::starEach [e2] X.5:=by rfl) (hpl:(backTo pos (starEach [e2] X.5)).any (·.1)=false:=by rfl)
 (j:eval (.Call (.Attribute (.Name D5 p) "__init__" apos) [e,e2] [] pos) X.5=(do
   let l <-eval (.Name D5 p) X.5
   standAt apos.atName
   let (f,first) <-holding [l] (Ŧ l "__init__" pl)
   callWith pos f first (backTo pos (starEach [e,e2] X.5)) (backToKw pos (Ń [] X.5))):=by rfl) :
 PE X (.Call (.Attribute (.Name D5 p) "__init__" apos) [e,e2] [] pos) (LV X.K CB t):=by
 refine{?_};intro a s σ H Q I h;refine wea (pl:=pl) (g7 I r J ?_ g) j;refine PySem.W.method_cls I.fP B.sp (PySem.W.cls_value I.fP B.rd B.fc rfl ?_);refine wek (bG (ha pos a _ σ H _ (I.tok _) h) λG i n=>?_) he hpl
 let{L,v,c,w,x,C,M,m,y,d,U,q}:=n
 subst y
 let{O,R,rfl,A,S}:=vals2 w
 cases A
 let{{t,j},_}:=c.aT x _ d
 let{T,N,bs,V,sub,ab,D,Y,Z,k1,k2,k3,k5,lk}:=U.lk
 refine B4 c.fP j lk λh' t' k ex=>{.non,v,?_,rfl,q};have:=c.write (x:=x) (e:=x) (o:=XN x C) (h':=h') (t':=i.toks) (by rw[d];exact ÿ) (.inl rfl) (λb u E z=>k b u E z) {_,ex} (LX ex);rw[Kc d]at this;exact this
end
section
variable{X:Cx}{CB C:Addr}{E:XK}{p pos fQ:Pos}{e:Expr}{es:List Expr}{t:TA}{x nm:Str}
theorem fv(J:Be X E)(hc:X.calm=true)(U:bA X.K C CB nm)(hi:findIn X.K (.ref C) "__init__"=ρ (ρ (.builtin "ValueError.__init__")))(T:Gl X x)(hm:X.mg x=ρ (.ref C))(ha:PA X (e::es) t)
 (l:(x==("__debug__":Str))=false:=by decide) (he:starEach (e::es) X.5=(false,eval e X.5)::starEach es X.5:=by rfl) (hpl:(backTo fQ (starEach es X.5)).any (·.1)=false:=by rfl) :
 PS X (.Raise (ρ (.Call (.Name x p) (e::es) [] fQ)) τ pos) (Hx C E t):=by
 refine{?_};intro a s σ H D I h
 let{y,N,bs,sn,sub,ab,col,dd,k0,k1,k2,k3,k5,lk}:=U.lk
 refine pH (C:=C) (CB:=CB) (nm:=nm) (q:=y) (N:=N) (bs:=bs) (hdct:=true) (sn:=sn) (sub:=sub) (ab:=ab) (col:=col) (dd:=dd) (k0:=k0) (k1:=k1) (k2:=k2) (k3:=k3) (k5:=k5) (I.ok.hd hc) ?_;refine ģ (g7 I T hm ?_ l);refine Ŭ (h₀:=X.base) I.ok.mod.Hd U.kp (bG (ha fQ a s σ H _ I h) λA c ⟨Q,B,d,r,f,q⟩=>{d.fP,?_}) he hpl
 obtain⟨u,rfl⟩:∃u,A=[u]:=by
  have:=r.9;rw[f]at this;exact List.length_eq_one_iff.mp this.symm
 have m:=Inv.newExc d [u] C;have i:(upd B (c.8+1) (XN (c.8+1) C)) (c.8+1)=ρ (XN (c.8+1) C):=a5;have j:=d.aT.fresh (ı c.8)
 let{k,g,R,G,os}:=c
 refine đ (zk (d.fP _ _ lk) (δ d.fP hi) (λself=>Looks.of_pure (wc3.init.bind self)) (by show 1<=sizeLine;decide) ?_)
 let{{S,L},_}:=m.aT _ _ i
 refine ue m.fP L lk λh' t' M ex=>{rfl,?_};have w:=m.write (x:=k.7+1) (e:=k.7+1) (o:=XN (k.7+1) C) (h':=h') (t':=G) (by rw[i];exact ÿ) (.inl rfl) (λb u O z=>M b u O z) {_,ex} (LX ex);rw[qJ]at w;have n:=w.del (x:=k.7+1) a5;rw[Bc j]at n;have v:X.s₀.8<=k.7+1:=Ï d.sz (ı _);exact{_,τ,t',rfl,n.fP _ _ lk,ex,J a σ _ _ _ C τ n {v,j,_,_,ex,by show 1<6;decide,.inl rfl} q}
end
end L2
namespace K70
section
variable{P:É}{w:World}{K:Á}{mg:Str->Option Value}{base:Heap}
theorem m3(L:Lk K mg):aP P w K mg base (xE P w) 1 L.nF L.nT ["sheet","many","steps","weight"] (Ln K L.aw L.dF):=by
 have T:=L.T;refine L.cP.F.CJ (N:=["sheet","many","steps","weight"]) (λU A outer s H vs Q E nd hr h=>?_)
 let{x,many,v,w,hs,c,X,b,rfl,S,Y,Z,t,m0,m1,k}:=h
 refine{_,(a6 (bg (cT pz (J5 T.len (2)) ag) (ae (fv cq rfl L.gp L.gU rfl L.gn (aC bO))) aI)
  (a6 (bg (cT jL (3) ag) (ae (fv cq rfl L.gp L.gU rfl L.gn (aC bO))) aI)
  (ae (bg (cT jL (ax (fJ rfl) (by rfl) T.sum wV (aC (eO rfl (ak ["sheet"] [0]) (ak ["sheet"] [0]) ⋯ (aL (2)) (λ_ _ _ _ _ _=>b9) (λ_ _ _ _ _ _=>(bf (fH (K:=K) rfl) (kN (K:=K) rfl (2) rfl) (1) (λ_ _=>rfl)))))) (aK gC (1) (3))) (ae (fv cq rfl L.gp L.gU rfl L.gn (aC bO))) aI)))),?_}
 ac_rfl
 let{dx,ah,bw,cl,hx,rh,u,rl}:=id S
 let{TL,eb,hb}:=gJ u
 cases eb
 let{a,o,rfl,p,J}:=ez Y
 have g:o.9=b.9:=by rw[J.1,À,À]
 have no:dI c many b w=false->∀y,a8 H y->E (.ref L.dF) τ y:=λh=>by
  rcases k with⟨r,_⟩ |⟨_,i⟩
  .rw[h]at r;cases r
  .exact i
 by_cases B:b=[]
 .subst B;have r0:o=[]:=ũ g;subst r0;exact{1,a,1,.inl p,rfl,true,DV _,cJ {rfl,no rfl H (a8.refl _)}}
 have ZQ:o.length≠0:=by rw[g];exact λz=>B (ũ z)
 have j:b.isEmpty=false:=by cases b with |nil=>exact absurd rfl B |cons _ _=>rfl
 refine{1,a,1,.inl p,rfl,false,congrArg V.bl (decide_eq_false λz=>by have:=V.int.inj z;rw[À]at this;omega),bW ?_}
 by_cases M:w<1
 .refine{1,_,1,rfl,true,congrArg V.bl (decide_eq_true M),cJ {rfl,no ?_ H (a8.refl _)}};unfold dI;rw[decide_eq_false (show ¬1<=w by omega),Š,ŝ]
 refine{1,_,1,rfl,false,congrArg V.bl (decide_eq_false M),bW ?_};refine{1,a,rfl,{_,p},λlc C=>?_};refine mD (prs:=b.map eh) (λ_=>true) (λq=>match q.2 with |.int e=>.int (c.getD e.toNat 0) |_=>.non) (aH K a (o.map V.ref)) J C (aq 1.0) (λy s'=>s'.seq p) (λq d O _ _ D=>D d (a8.refl _)) (λq d O hq _ l D=>?_) (λd l R=>?_)
 .let{f,G,rfl}:=Ç.mp hq
  have m:=t f G;have I:wt (c.map V.int) (f.2:Int)=ρ (.int (c.getD f.2 0)):=bK (by rw[È,Ä m,Õ,Ä m];rfl)
  have q2:O (.int (c.getD f.2 0)) d:=by
   have:=D d (a8.refl _);rwa[show (eh f).2=.int (f.2:Int) from rfl]at this
  exact{1,x,L.aw,dx,_,1,l _ _ hx,L.ao.cl,L.ao.cD,cf ah bw cl,1,bw,_,_,1,rfl,l.seq hb,I,q2}
 have e7:((b.map eh).filter λ_=>true).map (λq=>match q.2 with |.int e=>V.int (c.getD e.toNat 0) |_=>.non)=(b.map λq=>c.getD q.2 0).map V.int:=by
  rw[ę.mpr (λ_ _=>rfl),Ê,Ê];rfl
 rw[e7]at R;refine{lc,1,aG.of R,2,_,1,rfl,.inl {1.0,1.0},_,1,rfl,?_}
 by_cases n:aZ c b<many*w
 .refine{true,congrArg V.bl (decide_eq_true n),cJ {rfl,no ?_ d l}};unfold dI;rw[decide_eq_false (show ¬many*w<=aZ c b by omega),ŝ,ŝ]
 .refine{false,congrArg V.bl (decide_eq_false n),bW ?_};rcases k with⟨_,r⟩ |⟨i,_⟩
  .exact r d l
  .unfold dI at i;rw[j,decide_eq_true (show 1<=w by omega),decide_eq_true (show many*w<=aZ c b by omega)]at i;cases i
theorem GH(L:Lk K mg):aP P w K mg base (xE P w) 4 L.BF L.BH ["sheet","many","desk","numbers","weight"] (IQ K L.aw L.dF):=by
 have T:=L.T;refine L.rj.F.CJ (N:=["sheet","many","desk","numbers","weight","line","chosen","others","rest","lines","weights","twin"]) (λeZ A outer s H vs Q E nd hr h=>?_)
 let{x,a,many,u,w,ns,C,j,f,rfl,S,hA,Ma,Wv,m0,m1,k}:=h
 refine{_,(a6 (bg (dH (bF (ai (jx L) L.gQ (a7 (2) (aC (aW (0) rfl)))))) (ae (fv cq rfl L.gp L.gU rfl L.gn (aC bO))) aI)
  (a6 (af (i:=5) (bf bI (aW (0) rfl) (2) (λ_ _=>rfl)))
  (a6 (bg (dH (bF (ax (xY rfl) (by rfl) T.all NF (aC (bZ rfl (ak ["line"] [5]) (aL (3)) (λ_ _ _ _ _ _=>b9) (λ_ _ _ _ _ _=>(ai (jx L) L.gQ (a7 (0) (aC (1)))))))))) (ae (fv cq rfl L.gp L.gU rfl L.gn (aC bO))) aI)
  (a6 (pI (i:=6) rfl (ak ["numbers"] [3]) nd rfl rfl (ak ["numbers"] [3]) ⋯ (mX (by rfl) T.enum (aC (5))) (λ_ _ _ _ _ _=>fA (fz (gB (K:=K) rfl) (0) (2) rfl)) (λ_ _ _ _ _ _=>(1)))
  (a6 (pI (i:=7) rfl (ak ["numbers"] [3]) nd rfl rfl (ak ["numbers"] [3]) ⋯ (mX (by rfl) T.enum (aC (5))) (λ_ _ _ _ _ _=>fA (fz (uk (K:=K) rfl) (0) (2) rfl)) (λ_ _ _ _ _ _=>(1)))
  (a6 (af (i:=8) (aK oK (bf bI (aW (0) rfl) (2) (λ_ _=>rfl)) (4)))
  (a6 (bo (iW (m3 L) (hr.mono ⋯) rfl L.cP.g L.cP.F.kp L.cP.b .nil (mV cq) (a7 (0) (a7 (1) (a7 (6) (aC (4)))))))
  (a6 (bo (iW (m3 L) (hr.mono ⋯) rfl L.cP.g L.cP.F.kp L.cP.b .nil (mV cq) (a7 (0) (a7 (1) (a7 (7) (aC (8)))))))
  (a6 (af (i:=9) (aK wI (aW (0) rfl) (bP (aC (7)))))
  (a6 (rR (6) (Eb (9) (2) set_list))
  (a6 (af (i:=10) (aK wI (aW (0) rfl) (bP (aC (8)))))
  (a6 (rR (4) (Eb (10) (2) set_list))
  (a6 (af (i:=11) (J5 T.len (aW (0) rfl)))
  (ae (av (kM L.tV (eV L) (hr.mono ⋯) rfl L.xk L.dE.b .nil mU (a7 (aK wI (aW (0) rfl) (bP (aC (bf bI (aW (0) rfl) (2) (λ_ _=>rfl))))) (a7 (10) (aC (bZ rfl (ak ["desk","twin"] [2,11]) (aL (9)) (λ_ _ _ _ _ _=>b9) (λ_ _ _ _ _ _=>(ai (ux L) L.oh (a7 (0) (a7 (1) (aC (2)))))))))))))))))))))))))),?_}
 ac_rfl
 refine zp λR1 c1=>?_
 let{dx,M,bw,cl,hx,rh,GR,rl}:=id S
 have hh:=x9 rh;have hw:=IK GR
 let{O5,t,ec,hc,zo}:=id rl
 cases ec;have xl:t.9=f.9:=by rw[zo.len,À]
 have hn:=Wv.n;have zr:=Wv.w;have AF:=Wv.l
 have no:d2 j f many u ns w=false->∀H',a8 H H'->E (.ref L.dF) τ H':=λh=>by
  rcases k with⟨k1,_⟩ |⟨_,k2⟩
  .rw[h]at k1;cases k1
  .exact k2
 cases h1:dO u f.length with
 |false=>
  refine{2,x,L.aw,dx,_,1,hx,L.ao.cl,L.ao.cA,bE M bw cl,u,cl,t,rfl,.inl hc,false,congrArg V.bl (by rw[xl];exact h1),cJ {rfl,no ?_ H (a8.refl _)}};unfold d2;rw[h1,Š]
 |true=>
 obtain⟨d,rfl,hd⟩:∃d:Nat,u=(d:Int)/\d<f.9:=by
  unfold dO at h1;rw[Ď]at h1;have a1:=of_decide_eq_true h1.1;have a2:=of_decide_eq_true h1.2;exact{u.toNat,(),()}
 refine{2,x,L.aw,dx,_,1,hx,L.ao.cl,L.ao.cA,bE M bw cl,_,cl,t,rfl,.inl hc,true,congrArg V.bl (by rw[xl];exact h1),bW ?_};refine c1 _ _ (zp λR2 c2=>?_);rw[î]at k;have UM:d<t.9:=();have UN:t[d]?=ρ t[d]:=Ä UM
 let{dd,Mi,rd}:=zo.get d _ UN
 have UO:f[d]?=ρ f[d]:=Ä hd;rw[È,UO]at Mi;cases Mi;have PV:f.getD d []=f[d]:=by rw[Õ,UO];rfl
 have Mj:f[d]∈f:=û hd;have Sn:=Wv.m _ Mj;have Sq:=Wv.e _ Mj
 have UP:d2 j f many (d:Int) ns w=(ns.all (λi=>dO i f[d].9)&&(dI j many (b0 ns f[d]) w&&dI j many (aX ns f[d]) (j.getD d 0-w))):=by
  unfold d2;rw[h1,ő,î,PV]
 unfold gF at k;rw[PV]at k;rw[UP]at k no;refine{1,x,L.aw,dx,_,1,hx,L.ao.cl,L.ao.cA,bE M bw cl,1,cl,t,_,t[d],rfl,rfl,.inl hc,bK UN,?_}
 let{al,ys,el,O,JV}:=rd
 rw[el];have yl:ys.9=f[d].9:=by rw[JV.len,À]
 generalize f[d]=p at UP Mj Sn Sq JV yl k no;refine c2 _ _ (zp λR3 c3=>?_);refine{1,a,rfl,{_,hA},λl1 OG=>?_};refine comp_map (λv=>match v with |.int i=>V.bl (dO i ys.9) |_=>.non) (aH K a (ns.map V.int)) OG (by rw[À];exact aq ()) (λH' s'=>s'.seq hA) (λz H2 Q' hz s2 R=>?_) (λH2 s2 h2=>?_)
 .let{i,1}:=Ç.mp hz
  exact{2,i,al,ys,rfl,s2.seq (.inl O),R H2 (a8.refl _)}
 have e2:(ns.map V.int).map (λv=>match v with |.int i=>V.bl (dO i ys.9) |_=>.non)=(ns.map λi=>dO i p.9).map V.bl:=by
  rw[Ê,Ê,yl];rfl
 rw[e2]at h2
 have OH:((ns.map λi=>dO i p.9).all id)=ns.all (λi=>dO i p.9):=by
  rw[wfj];rfl
 cases h3:ns.all (λi=>dO i p.9) with
 |false=>
  refine{l1,1,aG.of h2,false,congrArg V.bl (OH.trans h3),cJ {rfl,no ?_ H2 s2}};rw[h3,Š]
 |true=>
 refine{l1,1,aG.of h2,true,congrArg V.bl (OH.trans h3),bW ?_};refine c3 _ _ (zp λR4 c4=>?_);rw[h3,ő]at k no;refine{1,al,ys,rfl,s2.seq (.inl O),λlc LN=>?_};refine vU (λi=>mL (.int (i:Nat)) (ns.map V.int)) (s2.seq (.inl O)) LN (aq ()) (λi y H3 Q' _ s3 R=>?_) (λi y H3 Q' _ s3 R=>{1,R H3 (a8.refl _)}) (λH3 s3 UQ=>?_)
 .exact{2,a,1,.inl ((s2.trans s3).seq hA),rfl,iy ns,1,R H3 (a8.refl _)}
 have Oo:(λi:Nat=>mL (.int (i:Nat)) (ns.map V.int))=λi:Nat=>decide ((i:Int)∈ns):=funext λi=>sS _ ns;rw[Oo]at UQ;have DI:=s2.trans s3;refine c4 _ _ (zp λR5 c5=>?_);refine{1,al,ys,rfl,DI.seq (.inl O),λlo MV=>?_};refine vU (λi=>!mL (.int (i:Nat)) (ns.map V.int)) (DI.seq (.inl O)) MV (aq ()) (λi y H4 Q' _ s4 R=>?_) (λi y H4 Q' _ s4 R=>{1,R H4 (a8.refl _)}) (λH4 s4 UR=>?_)
 .exact{2,a,1,.inl ((DI.trans s4).seq hA),rfl,iy ns,1,R H4 (a8.refl _)}
 have Sr:(λi:Nat=>!mL (.int (i:Nat)) (ns.map V.int))=λi:Nat=>!decide ((i:Int)∈ns):=funext λi=>congrArg (!·) (sS _ ns);rw[Sr]at UR;have B:=DI.trans s4;refine c5 _ _ (zp λR6 c6=>?_);have Y5:=s4 _ _ UQ;have rC:bu K H4 (bR (b0 ns p)) (.ref lc):={lc,1,.inl Y5,yD _ (b7.same B _ _ JV)};have rO:bu K H4 (bR (aX ns p)) (.ref lo):={lo,1,.inl UR,yD _ (b7.same B _ _ JV)};have UT:(b0 ns p).9<=5000:=Ï (kJ _ _ _) Sn;have Y6:(aX ns p).9<=5000:=Ï (kJ _ _ _) Sn;have ce:∀q∈b0 ns p,q.2<j.9:=λq hq=>by rw[zr];exact Sq q (gi hq)
 have oe:∀q∈aX ns p,q.2<j.9:=λq hq=>by rw[zr];exact Sq q (gi hq)
 have UU:d<j.9:=();have Ss:wt (j.map V.int) (d:Int)=ρ (.int (j.getD d 0)):=bK (by rw[È,Ä UU,Õ,Ä UU];rfl);refine{1,x,L.aw,dx,_,1,B _ _ hx,L.ao.cl,L.ao.cD,cf M bw cl,1,bw,_,_,1,rfl,B.seq (.inl hw),Ss,1,_,1,rfl,?_};show dM 8 (V.int (j.getD d 0-w)) _ _ _;refine c6 _ _ (zp λR7 c7=>?_);have S4:=S.same B;refine{4,x,many,.ref lc,w,C,j,f,b0 ns p,rfl,S4,rC,(),ce,m0,m1,?_}
 cases h5:dI j many (b0 ns p) w with
 |false=>exact .inr {rfl,λH5 s5=>no (by rw[h5,Š]) H5 (B.trans s5)}
 |true=>
 refine .inl {rfl,λH5 s5=>?_};refine c7 _ _ (zp λR8 c8=>?_);rw[h5,ő]at k no;refine{4,x,many,.ref lo,j.getD d 0-w,C,j,f,aX ns p,rfl,S4.same s5,bu.same s5 _ _ rO,(),oe,m0,m1,?_}
 cases h6:dI j many (aX ns p) (j.getD d 0-w) with
 |false=>exact .inr {rfl,λH6 s6=>no h6 H6 ((B.trans s5).trans s6)}
 |true=>
 refine .inl {rfl,λH6 s6=>?_};refine c8 _ _ ?_;obtain⟨_,kk⟩:True/\_:=⟨trivial,k⟩;rcases kk with⟨_,k⟩ |⟨k1,_⟩
 rotate_left
 .rw[h6]at k1;cases k1
 have Mb:=s5.trans s6;have LK:=B.trans Mb;have Y7:=bu.same Mb _ _ rC;have Y8:=bu.same Mb _ _ rO;have big:∀n:Nat,n<=20000->n<=sizeLine:=λn hn=>Ï hn (by rw[Ė];decide);refine{1,x,L.aw,dx,_,1,LK _ _ hx,L.ao.cl,L.ao.cA,bE M bw cl,1,by show 1<=sizeLine;decide,λl7 S0=>?_};refine{cl,l7,t,[.ref lo],rfl,rfl,mO (LK.trans (a8.upd S0)) hc,.inl a5,big _ (by show t.9+1<=_;lia),λU I=>?_};have UW:a8 H6 (upd H6 l7 (.lst [V.ref lo])):=a8.upd S0;generalize upd H6 l7 _=X at UW I;have ZR:a8 X (upd X U (.lst (t++[V.ref lo]))):=a8.upd I
 have U4:BZ (t++[V.ref lo]).length (d:Int)=ρ d:=by
  have Y:(t++[V.ref lo]).9=t.9+1:=by rw[Ì];rfl
  unfold BZ;rw[Y,if_pos (),if_pos (),î]
 refine{3,U,_,_,d,rfl,rfl,a5,U4,?_};have P9:(upd (upd X U (.lst (t++[V.ref lo]))) U _) U=ρ (.lst ((t++[V.ref lo]).set d (V.ref lc))):=a5
 have PX:a8 H6 (upd (upd X U (.lst (t++[V.ref lo]))) U (.lst ((t++[V.ref lo]).set d (V.ref lc)))):=λc o e=>by
  have J:=UW _ _ e;rw[aa (a9 J I),aa (a9 J I)];exact J
 generalize upd (upd X U _) U _=H8 at P9 PX;have PY:=LK.trans PX
 have Y9:b7 K H8 (((f++[aX ns p]).set d (b0 ns p)).map bR) ((t++[V.ref lo]).set d (V.ref lc)):=by
  have r1:b7 K H8 (f.map bR++[bR (aX ns p)]) (t++[V.ref lo]):=gg (b7.same PY _ _ zo) (bu.same PX _ _ Y8)
  have e:((f++[aX ns p]).set d (b0 ns p)).map bR=(f.map bR++[bR (aX ns p)]).set d (bR (b0 ns p)):=by
   rw[List.map_set,Ò];rfl
  rw[e];exact r1.set d (bu.same PX _ _ Y7)
 refine{1,x,L.aw,dx,_,1,PY _ _ hx,L.ao.cl,L.ao.cD,cf M bw cl,1,by show 1<=sizeLine;decide,λl9 UX=>?_};refine{bw,l9,_,[.int (j.getD d 0-w)],rfl,rfl,mO (PY.trans (a8.upd UX)) hw,.inl a5,big _ (by rw[À];show j.9+1<=_;lia),λlw LO=>?_};have UY:a8 H8 (upd H8 l9 (.lst [.int (j.getD d 0-w)])):=a8.upd UX;generalize upd H8 l9 _=Su at UY LO;have Sv:j.map V.int++[V.int (j.getD d 0-w)]=(j++[j.getD d 0-w]).map V.int:=by rw[Ò];rfl
 rw[Sv]
 have Sw:BZ ((j++[j.getD d 0-w]).map V.int).length (d:Int)=ρ d:=by
  have Y:((j++[j.getD d 0-w]).map V.int).9=j.9+1:=by rw[À,Ì];rfl
  unfold BZ;rw[Y,if_pos (),if_pos (),î]
 refine{3,lw,_,_,d,rfl,rfl,a5,Sw,?_}
 have Sy:((j++[j.getD d 0-w]).map V.int).set d (.int w)=(cj j d w).map V.int:=by
  unfold cj;rw[List.map_set]
 rw[Sy];have UZ:(upd (upd Su lw (.lst ((j++[j.getD d 0-w]).map V.int))) lw _) lw=ρ (.lst ((cj j d w).map V.int)):=a5
 have JT:a8 H8 (upd (upd Su lw (.lst ((j++[j.getD d 0-w]).map V.int))) lw (.lst ((cj j d w).map V.int))):=λc o e=>by
  have J:=UY _ _ e;rw[aa (a9 J LO),aa (a9 J LO)];exact J
 generalize upd (upd Su lw _) lw _=H9 at UZ JT;have D:=PY.trans JT;refine{1,x,L.aw,dx,_,1,D _ _ hx,L.ao.cl,L.ao.cA,bE M bw cl,cl,t,rfl,.inl (D.seq (.inl hc)),?_};rw[xl];have V0:d<C.9:=();have Sz:wt (C.map V.str) (d:Int)=ρ (.str (C.getD d "")):=bK (by rw[È,Ä V0,Õ,Ä V0];rfl);refine{1,x,L.aw,dx,_,1,D _ _ hx,L.ao.cl,L.ao.g9,et M bw cl,1,x,L.aw,dx,_,1,D _ _ hx,L.ao.cl,L.ao.g9,et M bw cl,1,M,_,_,1,rfl,D.seq (.inl hh),Sz,by show 1<=sizeLine;decide,λl10 OI=>?_};refine{M,l10,_,[.str (C.getD d "")],rfl,rfl,mO (D.trans (a8.upd OI)) hh,.inl a5,big _ (by rw[À];show C.9+1<=_;lia),λlh Mf=>?_};have V1:a8 H9 (upd H9 l10 (.lst [.str (C.getD d "")])):=a8.upd OI;generalize upd H9 l10 _=V2 at V1 Mf;have OJ:C.map V.str++[V.str (C.getD d "")]=(df C d).map V.str:=by unfold df;rw[Ò];rfl
 rw[OJ];have PZ:=V1.trans (a8.upd (o:=.lst ((df C d).map V.str)) Mf);have OM:(upd V2 lh _) lh=ρ (.lst ((df C d).map V.str)):=a5;generalize upd V2 lh _=GW at PZ OM;have JY:=JT.trans PZ;have Z:=JY _ _ P9;have SA:=b7.same JY _ _ Y9;have zl:((t++[V.ref lo]).set d (V.ref lc)).9=f.9+1:=by rw[Ų,Ì,xl];rfl
 refine{2,U,rfl,{_,aG.of Z},λlt Ls=>?_}
 have OO:∀l∈(f++[aX ns p]).set d (b0 ns p),l.9<=5000:=λl hl=>by
  rcases wcG hl with z |z
  .rcases Ú.mp z with z |z
   .exact Wv.m l z
   .rw[Ó.mp z];exact Y6
  .rw[z];exact UT
 refine tj (K:=K) ((((f++[aX ns p]).set d (b0 ns p)).map (eI d f.9)).map bR) (aH K U ((t++[V.ref lo]).set d (V.ref lc))) Ls (big _ (by rw[zl];lia)) (by rw[À,À,Ų,Ì,zl];rfl) (λH' s'=>aG.of (s' _ _ Z)) (λi y dt JX Q' hy JW G R=>?_) (λJX G Yb=>?_)
 .let{d',J,r}:=SA.get i y hy
  rw[È]at J JW;rw[È]at JW
  cases e:((f++[aX ns p]).set d (b0 ns p))[i]? with
  |none=>rw[e]at J;cases J
  |some l=>
   rw[e]at J JW;cases J;cases JW;exact{3,y,d,f.9,l,rfl,bu.same G _ _ r,OO l (á e),λz LU Jn Yc=>R z LU Jn Yc}
 intro y dy ny RO Xp;have sm:a8 JX (upd (upd JX dy (.own y)) y (.ins L.aw dy [])):=du ny RO;have GI:=D.trans PZ;refine{y,dy,.ref lh,.ref lw,.ref lt,df C d,cj j d w,((f++[aX ns p]).set d (b0 ns p)).map (eI d f.9),rfl,a5,nr (sm _ _ (G _ _ OM)),iH (sm _ _ (G _ _ (PZ _ _ UZ))),bu.same ((cU _ _).trans sm) _ _ Yb,?_,?_,?_,?_,λa' b' c' LU SD q1 q2 q3 SE=>{rfl,?_}}
 .unfold df;rw[Ì];show C.9+1<=_;lia
 .unfold cj;rw[Ų,Ì];show j.9+1<=_;lia
 .rw[À,Ų,Ì];show f.9+1<=_;lia
 .intro l hl
  let{l',Oy,rfl}:=Ç.mp hl
  have:=oR d f.length l';have:=OO l' Oy
  lia
 .have Jn:a8 JX LU:=λc o e=>SE _ _ (sm _ _ e) (a9 e ny);refine k y LU (GI.trans (G.trans Jn)) ?_;have RQ:H y=τ:=none_of (GI.trans G) ny;have nw:=λ(dd:iQ) (v:V) (r:bu K (aE _ LU) dd v)=>bu.same (dA ((GI.trans G).trans sm)) dd v r;exact{dy,a',b',c',bJ RQ SD,nw _ _ q1,nw _ _ q2,nw _ _ q3}
theorem iu(L:Lk K mg):aP P w K mg base (xE P w) 7 L.eB L.eC ["band","many","wide"] (FQ L.aA L.fu):=by
 have T:=L.T;refine L.bV.F.CJ (N:=["band","many","wide","most","weights","in_all"]) (λY A outer s H vs Q E nd hr h=>?_)
 let{x,many,n,g,O,ss,ls,rfl,B,r,t,u,y,k,R}:=h
 refine{_,(a6 (Ee whf rfl (iB rfl T.range (a7 ag (aC (aK fR (cn (v:=.int 8) (by rfl) L.u5.choose_spec {_,rfl}) ag)))) (au (i:=3)) (a6 (af (i:=4) (ai (zf L) L.tU (a7 (0) (a7 (1) (a7 (2) (aC (3)))))))
  (a6 (af (i:=5) (ax (Dp rfl) (by rfl) T.sum wV (aC (qS (K:=K) rfl η wcd wcN kL (4)))))
  (a6 (bg (cT iA (5) (cn (v:=.int 40) (by rfl) L.jD.choose_spec {_,rfl})) (ae (fv cq rfl L.p8 L.BK rfl L.xn (aC bO))) aI)
  (ae (bg (cT iA (5) ag) (ae (av (4))) aI))))))
  (ae (fv cq rfl L.p8 L.BK rfl L.xn (aC bO)))),?_}
 ac_rfl
 refine⟨_,_,rfl,rfl,1,9,rfl,⋯,?_⟩;refine ck (lo:=1) (n:=8) (λi σ q=>∃z v4 C:Option V,σ=[ρ (.ref x),ρ (.int many),ρ (.int (n:Int)),z,v4,C]/\a8 H q/\∀(m:Int) (h:Str->Int),1<=m->m<1+(i:Int)->ji g O ss ls many n m h->(ls.map h).sum=0) {τ,τ,τ,rfl,a8.refl _,λm h S Z=>()} ?_ ?_
 .rintro i σ q hi ⟨z,v4,C,rfl,j,l⟩;refine{4,x,many,n,1+(i:Int),g,O,ss,ls,rfl,B.same j,r,t,u,y,(),λd f U s3 fd D G=>?_};refine{1,.inr (.inr (.inl {rfl,.inl {_,D}})),d,1,rfl,D,λv hv=>?_};have I:=a8.upd (o:=iw v d) hv;have J:=I _ _ D;have p:(upd U v _) v=ρ (iw v d):=a5;generalize upd U v _=X at I J p;have a:=j.trans (s3.trans I);refine{v,d,_,ls.map f,rfl,p,J,sM f ls,?_}
  by_cases b:(40:Int)<(ls.map f).sum
  .refine{1,_,1,rfl,true,congrArg V.bl (decide_eq_true b),cJ {rfl,?_}};exact R {1+(i:Int),(),(),l,.inr ⟨f,G,b⟩} X a
  refine{1,_,1,rfl,false,congrArg V.bl (decide_eq_false b),bW ?_}
  by_cases M:(0:Int)<(ls.map f).sum
  .refine{1,_,1,rfl,true,congrArg V.bl (decide_eq_true M),cJ {1,?_}};exact k d f X a (none_of j fd) J {{1+(i:Int),(),(),G,l},M,()}
  .refine{1,_,1,rfl,false,congrArg V.bl (decide_eq_false M),bW ?_};refine{_,_,1,a,λm h S Z c=>?_}
   by_cases e:m=1+(i:Int)
   .subst e;have:=oY G c;have:=ml c.nn
    lia
   .exact l m h S () c
 .rintro σ q ⟨z,v4,C,rfl,j,l⟩;exact{rfl,R ⟨9,⋯,⋯,l,.inl rfl⟩ q j}
end
end K70
namespace Bs
theorem GJ(xs:List Int)(g:i<=j)(l:j<=xs.9):kH (xs.map V.int) (ρ (i:Int)) (ρ (j:Int))=((xs.take j).drop i).map V.int:=by grind [kH,HT.Jh,À,wfP,wdX,ς,List.drop_take]
end Bs
namespace K70
section
variable{P:É}{w:World}{K:Á}{mg:Str->Option Value}{base:Heap}
theorem DB(L:Lk K mg):aP P w K mg base cI 1 L.yX L.z0 ["weights","numbers","many"] (NW K):=by
 have T:=L.T;refine L.z6.F.dC (N:=["weights","numbers","many","taken_at","total","taken","number"]) (λeZ A outer s H vs Q E nd hr h=>?_)
 let{a,b,many,wl,d,rfl,hA,I,m1,m2,J,M,k}:=h
 have O:=dG hr
 refine{_,(a6 (af (i:=3) (qU (mR ag ag qO) rfl rfl (by simp) ⋯))
  (a6 (af (i:=4) ag)
  (a6 (forA (Gu (by rfl) T.enum (aC (1))) (fS rfl (aV (au (i:=5)) (aV (au (i:=6)) dQ))) (a6 (rS (i:=4) nd rfl (ĥ rfl) (bf bI (0) (6) (λ_ _=>rfl)) El)
  (a6 (bg (wD (Ky O (aK d8 (4) (2)) (3))) (ae (av (cS jd (1) (cL (bS O (3) (aK d8 (4) (2)) (λ_ _=>rfl))) (cL (5))))) aI)
  (ae (cu O (3) (aK d8 (4) (2)) (5) rfl)))))
  (ae (av (bP dW)))))),?_}
 ac_rfl
 have l:(0:Int)<many:=();refine λg m=>{a5,[((å 0:Key),V.int 0)],rfl,⋯,?_};have R:a8 H (upd (upd H g (.dK [])) g (.dK (ia [] [((å 0:Key),V.int 0)]))):=λc o e=>by rw[aa (a9 e m),aa (a9 e m)];exact e
 have Y:(upd (upd H g (.dK [])) g (.dK (ia [] [((å 0:Key),V.int 0)]))) g=ρ (.dK (dR many (j1 wl d) 1)):=by
  rw[a5];refine congrArg (λz=>ρ (HO.dK z)) ?_;show [((å 0:Key),V.int 0)]=[((å (0%many):Key),V.int 0)];rw[Int.zero_emod]
 generalize upd (upd H g _) g _=H0 at R Y;refine{1,b,1,R.seq I,CH (K:=K) (a:=b) (xs:=(nI d).map V.int) (λj σ q=>a8 H q/\(∃S v6,σ=[ρ (.ref a),ρ (.ref b),ρ (.int many),ρ (.ref g),ρ (.int (j1 wl d j)),S,v6])/\q g=ρ (.dK (dR many (j1 wl d) (j+1)))/\∀i k,i<k->k<=j->j1 wl d i%many≠j1 wl d k%many) {R,⟨τ,τ,rfl⟩,Y,λi k Z C=>()} (λi σ q _ p=>p.1.seq I) ?_ (λσ q p=>?_)}
 .rintro j y σ q T U ⟨s2,⟨S,v6,rfl⟩,C,f⟩ hT;have hj:j<d.9:=by have:=(Ö.mp U).1;rwa[À,cX]at this
  have r:d[j]?=ρ d[j]:=Ä hj;rw[A1 r]at U;cases U;have t:=M _ (û hj);have x:=Cm (wl:=wl) r;generalize d[j]=n at r t x;have u:=s2.trans (a8.upd (o:=.tup [.int ((j+1:Nat):Int),.int (n:Int)]) hT);have D:(upd q T (.tup [.int ((j+1:Nat):Int),.int (n:Int)])) g=ρ (.dK (dR many (j1 wl d) (j+1))):=a8.upd hT _ _ C;refine{T,1,eY.of a5,rfl,_,1,_,1,rfl,?_};generalize upd q T _=H3 at u D;refine{3,a,_,_,1,rfl,u.seq hA,bK (v:=.int (wl.getD n 0)) (by rw[È,Ä t,Õ,Ä t];rfl),_,1,rfl,?_};dsimp only;rw[<-x];refine{2,_,1,rfl,l,1,g,1,cB.k (k:=(å (j1 wl d (j+1)%many):Key)) D,?_};rcases EL many (j1 wl d) (j+1) (j1 wl d (j+1)%many) with⟨G,B⟩ |⟨i,hi,X,G⟩
  .rw[G];refine{false,rfl,bW ?_};refine{4,_,1,rfl,l,g,1,gX.k (k:=å (j1 wl d (j+1)%many)) D (by rw[KL];exact aS ()),?_};rw[KJ G];refine{λc o e=>by rw[aa (a9 e m)];exact u _ _ e,{_,1},a5,λi k Z C=>?_}
   by_cases e:k=j+1
   .subst e;exact B i ()
   .exact f i k Z ()
  .have hg:=cB.k (k:=(å (j1 wl d (j+1)%many):Key)) D;rw[G]at hg ⊢;refine{true,rfl,cJ ?_};refine{4,_,1,rfl,l,g,1,hg,3,b,1,u.seq I,λp hp=>?_};rw[GJ _ () (by rw[cX];lia),Bq,HR];exact k p i (j+1) _ (u.trans (a8.upd hp)) (none_of u hp) () () (Fb () X) a5
 .let{s2,{S,v6,rfl},C,f}:=p
  rw[À,cX]at f;exact absurd (As l J f) id
theorem uM(L:Lk K mg):aP P w K mg base cI 2 L.nK L.nY ["sheet","many"] (LA K L.aw):=by
 have T:=L.T;refine L.oi.F.dC (N:=["sheet","many","found","desk","weights","others","numbers"]) (λeZ A outer s H vs Q E nd hr h=>?_)
 let{x,many,hs,c,u,rfl,S,B,hK,Cd,hn,hm,m1,m2,k}:=h
 refine{_,(a6 (af (i:=2) (ai (xr L) L.qg (aC (0))))
  (a6 (af (i:=3) (bf gz (2) ag (λ_ _=>rfl)))
  (a6 (af (i:=4) (eO rfl (ak ["sheet"] [0]) (ak ["sheet"] [0]) ⋯ (aL (bf bI (aW (0) rfl) (3) (λ_ _=>rfl))) (λ_ _ _ _ _ _=>b9) (λ_ _ _ _ _ _=>(bf (fH (K:=K) rfl) (kN (K:=K) rfl (2) rfl) (1) (λ_ _=>rfl)))))
  (a6 (fg (i:=5) rfl (ak ["found"] [2]) nd rfl rfl (cW rfl T.range (aC (J5 T.len (4)))) (λ_ _ _ _ _ _=>fA (cT N3 (0) (bf (J7 (K:=K) rfl) (1) ag (λ_ _=>rfl)))) (λ_ _ _ _ _ _=>(0)))
  (a6 (af (i:=6) (ai (DB L) L.z6 (a7 (4) (a7 (aK zM (bP (aC (bf gz (2) ag (λ_ _=>rfl)))) (cS jd (5) fY (cL (aK oK (1) ag)))) (aC (1))))))
  (ae (av (bY (a7 (3) (a7 (6) (aC (aK kK (ax (fJ rfl) (by rfl) T.sum wV (aC (bZ rfl (ak ["weights"] [4]) (aL (6)) (λ_ _ _ _ _ _=>b9) (λ_ _ _ _ _ _=>(bf (fH (K:=K) rfl) (1) (0) (λ_ _=>rfl)))))) (1))))))))))))),?_}
 ac_rfl
 let{dx,ah,bw,cl,hx,rh,GR,rl}:=id S
 let{TL,eb,hb}:=gJ GR
 cases eb
 let{O5,xs,ec,hc,zo}:=id rl
 cases ec;have O:=B.w;have AF:=B.l;have xl:xs.9=u.9:=by rw[zo.len,À]
 have Yd:c≠[]:=λz=>Cd (ũ (by rw[<-O,z];rfl));refine{1,x,hs,c,u,rfl,S,(),λl hl q hq=>by rw[O];exact B.e l hl q hq,Yd,λh hh ht=>?_,λt h d i b q H1 R ht D=>?_}
 .let{d,i,b,q,e1,e2,e3,e4}:=yK B hK hh ht m1
  exact⟨d,i,b,q,hh,ht,e1,e2,e3,e4⟩
 have hd:d<u.9:=(Ö.mp D.l).1;have hi:i<b.9:=(Ö.mp D.s).1;have Mj:b∈u:=á D.l;have JO:=hm b Mj;have V3:=vN B D;have hT:=eY.of (K:=K) ht;refine{1,t,_,_,1,rfl,hT,rfl,?_}
 let{v,LI,rd}:=zo.at (i:=d) (d:=bR b) (by rw[È,D.l];rfl)
 let{a,rs,rfl,hS,O7}:=ez rd
 have BL:rs.9=b.9:=by rw[O7.1,À,À]
 refine{1,x,L.aw,dx,_,1,R _ _ hx,L.ao.cl,L.ao.cA,bE ah bw cl,1,cl,xs,_,1,rfl,R.seq (.inl hc),bK LI,a,rfl,{_,R.seq hS},λlc LN=>?_};refine mD (prs:=b.map eh) (λ_=>true) (λq=>match q.2 with |.int e=>.int (c.getD e.toNat 0) |_=>.non) (aH K a (rs.map V.ref)) (O7.same R) LN (aq ()) (λH' s'=>(R.trans s').seq hS) (λq H7 Q' _ _ m=>m H7 (a8.refl _)) (λq H7 Q' hq _ s7 m=>?_) (λH7 s7 h7=>?_)
 .let{U,Ye,rfl}:=Ç.mp hq
  have C:U.2<c.9:=by rw[O];exact B.e b Mj U Ye
  have O0:wt (c.map V.int) (U.2:Int)=ρ (.int (c.getD U.2 0)):=bK (by rw[È,Ä C,Õ,Ä C];rfl)
  have q2:Q' (.int (c.getD U.2 0)) H7:=by
   have:=m H7 (a8.refl _);rwa[show (eh U).2=.int (U.2:Int) from rfl]at this
  have G:=R.trans s7;exact{1,x,L.aw,dx,_,1,G _ _ hx,L.ao.cl,L.ao.cD,cf ah bw cl,1,bw,_,_,1,rfl,G.seq hb,O0,q2}
 have e7:((b.map eh).filter λ_=>true).map (λq=>match q.2 with |.int e=>V.int (c.getD e.toNat 0) |_=>.non)=(b.map λq=>c.getD q.2 0).map V.int:=by
  rw[ę.mpr (λ_ _=>rfl),Ê,Ê];rfl
 rw[e7]at h7;have G:=R.trans s7;have V4:=s7.Ho hT;have g:(b.map λq=>c.getD q.2 0).9=b.9:=À _;refine{1,lc,1,.inl (aG.of h7),1,(),by rw[À,g];lia,λlo MV=>?_};have en:((((b.map λq=>c.getD q.2 0).map V.int).9:Nat):Int).toNat=b.9:=by rw[À,g,î]
 rw[en];refine cV (λv=>!decide (v=.int (i:Int))) (λv=>v) (m7 0 b.9) MV (aq (by rw[À,Ă];lia)) (λ_ _=>ÿ) (λy I Q' hy X m=>?_) (λy I Q' hy _ X m=>{1,m I (a8.refl _)}) (λI X h8=>?_)
 .let{n,zt,rfl}:=Ç.mp hy
  exact{2,t,_,_,1,rfl,X.Ho V4,rfl,rfl,1,m I (a8.refl _)}
 have e8:(((Ü b.9).map λi:Nat=>V.int (0+(i:Nat))).filter λv=>!decide (v=.int (i:Int)))=(nI (restOf b.length i)).map V.int:=by
  have e9:((Ü b.9).map λi:Nat=>V.int (0+(i:Nat)))=(nI (Ü b.9)).map V.int:=by
   rw[<-yd];exact ü λn _=>by rw[ń]
  rw[e9,vv (f:=λn=>decide (n≠i)) λn=>?_]
  .rfl
  .by_cases z:n=i
   .subst z;simp
   .have:¬V.int (n:Int)=V.int (i:Int):=λy=>z (by have:=V.int.inj y;lia);rw[decide_eq_false this,decide_eq_true z];rfl
 rw[ν,e8]at h8;have V5:=G.trans X;have Yg:=X.Ho V4;have V6:=X _ _ h7;refine{2,t,_,_,1,rfl,Yg,rfl,by show 1<=sizeLine;decide,λl1 OG=>?_}
 let{s9,h9}:=fB (H:=I) (o:=.lst [V.int (i:Int)]) OG
 generalize upd I l1 _=H9 at s9 h9;have Yh:many-1=(((many-1).toNat:Nat):Int):=();refine{2,_,1,rfl,(((many-1).toNat:Nat):Int),congrArg V.int Yh,lo,1,aG.of (s9 _ _ h8),λl2 O9=>?_};rw[BQ,<-ς,Bq]
 let{Y,Jm}:=fB (H:=H9) (o:=.lst ((nI ((restOf b.length i).take (many-1).toNat)).map V.int)) O9
 generalize upd H9 l2 _=GW at Y Jm;have Ma:=yG (k:=(many-1).toNat) hi ();refine{l1,l2,_,1,rfl,Y _ _ h9,Jm,aq ?_,λl3 EC=>?_}
 .rw[À,cX,Û];show 1+_<=_
  lia
 rw[show [V.int (i:Int)]++(nI ((restOf b.length i).take (many-1).toNat)).map V.int=(nI (numsOf b.length i (many-1).toNat)).map V.int from rfl]
 let{LR,OC}:=fB (H:=GW) (o:=.lst ((nI (numsOf b.length i (many-1).toNat)).map V.int)) EC
 generalize upd GW l3 _=JX at LR OC;have j:=(s9.trans Y).trans LR;refine{1,lc,l3,many,b.map λq=>c.getD q.2 0,numsOf b.length i (many-1).toNat,rfl,aG.of (j _ _ V6),aG.of OC,m1,m2,by rw[Ma];lia,λn hn=>by rw[g];exact wO hi n hn,λl i' j' LU Jn SG Yi hj hz p=>?_};have aT:=IX B m1 D Yi hj hz;have C:∀n∈((numsOf b.length i (many-1).toNat).take j').drop i',n<b.9:=λn hn=>wO hi n (((whe _ _).trans (ġ _ _)).subset hn)
 have JQ:(((numsOf b.length i (many-1).toNat).take j').drop i').9<=1000:=by
  rw[ď,Û]
  lia
 generalize ((numsOf b.length i (many-1).toNat).take j').drop i'=ns at *;have J:=V5.trans (j.trans Jn);have Yj:=Jn _ _ (j _ _ V6);refine{3,l,rfl,{_,aG.of p},λls Yk=>?_};refine cV (λ_=>true) (λv=>match v with |.int n=>.int ((b.map λq=>c.getD q.2 0).getD n.toNat 0) |_=>.non) (aH K l _) Yk (aq (by rw[À,cX];lia)) (λH' s'=>aG.of (s' _ _ p)) (λy I Q' hy X m=>m I (a8.refl _)) (λy V7 Q' hy _ r m=>?_) (λV7 r PU=>?_)
 .let{n,zt,rfl}:=wN hy
  have M:n<(b.map λq=>c.getD q.2 0).9:=by rw[g];exact C n zt
  exact{2,lc,_,_,1,rfl,aG.of (r _ _ Yj),bK (v:=.int ((b.map λq=>c.getD q.2 0).getD n 0)) (by rw[È,Ä M,Õ,Ä M];rfl),m V7 (a8.refl _)}
 have Yl:(((nI ns).map V.int).filter λ_=>true).map (λv=>match v with |.int n=>V.int ((b.map λq=>c.getD q.2 0).getD n.toNat 0) |_=>.non)=(ns.map λn=>(b.map λq=>c.getD q.2 0).getD n 0).map V.int:=by
  rw[ę.mpr (λ_ _=>rfl)];unfold nI;rw[Ê,Ê,Ê];rfl
 rw[Yl]at PU;refine{ls,1,aG.of PU,1,_,1,rfl,{(),()},by show 3<=sizeLine;decide,λt' Z=>?_};exact k t' l d ns _ _ (J.trans (r.trans (a8.upd Z))) (none_of (V5.trans j) SG) (none_of (J.trans r) Z) a5 (a8.upd Z _ _ (r _ _ p)) aT () JQ
end
end K70
namespace Sx
inductive SH(C:Addr)(n1 n2:Str)(dC Ym:V->Prop)(vs:List V)(H:Hp)(Q:VK)(dJ:XK):Prop
 |mk (x u v) (_:vs=[.ref x,u,v]) (_:dC u) (_:Ym v) (_:H x=ρ (XN x C)) (_:∀d,H d=τ->Q .non (upd (upd H d (.xd [(n1,u),(n2,v)])) x (XD x C d)))
end Sx
namespace K70
section
variable{P:É}{w:World}{K:Á}{mg:Str->Option Value}{base:Heap}
theorem mJ(L:Lk K mg):aP P w K mg base cI 1 L.d4 L.eU ["self","length","rows"] (SH L.aY "length" "rows" JM JM):=by
 refine L.z8.dC (N:=["self","length","rows"]) (λn A outer s H o Q E nd p h=>?_)
 let{x,u,v,rfl,{i,rfl,a},{j,rfl,b},l,k}:=h
 refine{_,(a6 (bo (GF rfl L.qo L.XB (a7 (0) (aC (HD (zP (Ex (1) (zP (Ex (2) (zP Ku))))))))))
  (a6 (Jq (CB:=L.aF) (0) (1) rfl)
  (ae (GC (CB:=L.aF) (0) (2) rfl)))),?_}
 ac_rfl
 have f:=wew a;have m:=wew b;refine{1,aq ?_,1,.inl {i,rfl,a,aq ?_,aq ?_,1,.inl {j,rfl,b,aq ?_,aq ?_,aq ?_,x,L.aY,_,1,l,L.dP,?_}}}
 .exact Ï (show _<=1000 by decide+kernel) ⋯
 .exact Ï (eL (show _<=1000 by decide+kernel) f) ⋯
 .exact Ï (eL (eL (show _<=1000 by decide+kernel) f) (show _<=1000 by decide+kernel)) ⋯
 .exact Ï (eL (eL (eL (show _<=1000 by decide+kernel) f) (show _<=1000 by decide+kernel)) m) ⋯
 .exact Ï (eL (eL (eL (eL (show _<=1000 by decide+kernel) f) (show _<=1000 by decide+kernel)) m) (show _<=1000 by decide+kernel)) ⋯
 .exact Ï (eL (eL (eL (eL (show _<=1000 by decide+kernel) f) (show _<=1000 by decide+kernel)) m) (show _<=1000 by decide+kernel)) ⋯
 refine{2,x,L.aY,1,l,L.dP,L.fW,λd hd=>?_};have g:d≠x:=λz=>by rw[z,l]at hd;cases hd
 refine{2,x,L.aY,_,d,[("length",.int i)],rfl,a5,by rw[aa g,a5],by show 1<=50;decide,L.dP,L.lX,by rw[wdh,show (("rows":Str) == "length")=false by decide+kernel];rfl,?_}
 have e:upd (upd (upd H d (.xd [(("length":Str),V.int i)])) x (XD x L.aY d)) d (.xd ([(("length":Str),V.int i)]++[(("rows":Str),V.int j)]))=upd (upd H d (.xd [(("length":Str),V.int i),(("rows":Str),V.int j)])) x (XD x L.aY d):=by
  funext c
  by_cases a:c=d
  .subst a;rw[a5,aa g,a5];rfl
  .rw[aa a]
   by_cases b:c=x
   .subst b;rw[a5,a5]
   .rw[aa b,aa b,aa a,aa a]
 rw[e];exact k d hd
theorem lq(L:Lk K mg):aP P w K mg base (xE P w) 8 L.gL L.gN ["band","many","wide"] (IV L.aA L.aY):=by
 refine L.cQ.F.CJ (N:=["band","many","wide","length"]) (λC A outer s H S Q E nd D h=>?_)
 let{x,many,n,g,bw,ss,ls,rfl,B,l,m,f,k,G}:=h
 refine{_,(a6 (af (i:=3) (ai (Du L) L.z5 (a7 (0) (a7 (1) (a7 (2) (aC (cn (v:=.int 24) (by rfl) L.u3.choose_spec {_,rfl})))))))
  (ae (bg (cT qR (3) ib) (ae (GB cq rfl L.dP L.Dj L.Dk (mJ L) (D.mono ⋯) L.z9 rfl L.tZ (a7 (3) (aC (ai (Gv L) L.BI (a7 (0) (aC (aK gC (3) (2))))))))) aI))),?_}
 ac_rfl
 refine⟨_,rfl,_,rfl,_,rfl,x,many,(n:Int),24,g,bw,ss,ls,rfl,B,l,m,f,⋯,⋯,λv I o p=>?_⟩;rw[î]at p;have q:=p
 cases p with
 |none a=>exact{1,rfl,false,rfl,bW (k (λj u J=>a j u J) I o)}
 |some j a b c d=>
  refine{_,rfl,rfl,true,rfl,cJ ?_}
  have hk:(j:Int)*(n:Int)<=100000:=by
   have u:(j:Int)*(n:Int)<=24*6:=Int.mul_le_mul b f.d () ()
   lia
  have r:0<=(j:Int)*(n:Int):=Int.mul_nonneg () ();have M:((j:Int)*(n:Int)).toNat=j*n:=by rw[<-wev,î]
  refine{4,_,1,rfl,?_,x,(j:Int)*(n:Int),g,bw,ss,ls,rfl,B.same o,l,m,r,hk,λT y=>?_}
  .exact .inl {(),()}
  rw[M];refine{by show 2<=sizeLine;decide,λe O=>{e,_,1,{1,?_},{1,?_},a5,λt hd=>{rfl,.inr {t,a5,?_}}}}
  .have:=Nat.log2_le_self ((j:Nat):Int).natAbs
   lia
  .exact Au f b c
  let{U,z,R}:=Ab (o2:=.xd [("length",.int (j:Nat)),("rows",.int (dg g bw ss (j*n) ""))]) (o3:=XD e L.aY t) O hd
  rw[R];exact G j t _ q ((o.trans y).trans (a8.upd z)) (none_of (o.trans y) z) a5
theorem uf(L:Lk K mg):aP P w K mg base (xE P w) 9 L.vY L.w9 ["band","many","wide"] (Gx K L.aA L.bh L.aw L.aY L.fu):=by
 have T:=L.T;refine L.fq.F.CJ (N:=["band","many","wide","weights","sheet","splits","kept","part"]) (λeZ A outer s H vs Q E nd hr h=>?_)
 let{x,many,n,g,bw,ss,ls,rfl,B,GQ,Oz,BP,J,U,D,k,kS,kO}:=h
 refine{_,(a6 (bo (ai (fE L) L.eS (a7 (0) (a7 (1) (aC (2))))))
  (a6 (bo (iW (lq L) (hr.mono ⋯) rfl L.cQ.g L.cQ.F.kp L.cQ.b .nil (mV cq) (a7 (0) (a7 (1) (aC (2))))))
  (a6 (af (i:=3) (ai (oy L) L.iN (a7 (0) (a7 (1) (a7 (2) (aC (iW (iu L) (hr.mono ⋯) rfl L.bV.g L.bV.F.kp L.bV.b .nil (mV cq) (a7 (0) (a7 (1) (aC (2)))))))))))
  (a6 (af (i:=4) (ai (kG L) L.ip (a7 (0) (a7 (1) (a7 (2) (aC (3)))))))
  (a6 (af (i:=5) (bP dW))
  (a6 (af (i:=6) (ai (lZ L) L.ja (a7 (4) (aC (1)))))
  (a6 (fI whf (cT pz (J5 T.len (6)) ag) (a6 (af (i:=7) (ai (uM L) L.oi (a7 (4) (aC (1)))))
  (a6 (af (i:=4) (iW (GH L) (hr.mono ⋯) rfl L.rj.g L.rj.F.kp L.rj.b .nil (mV cq) (a7 (4) (a7 (1) (a7 (bf gz (7) ag (λ_ _=>rfl)) (a7 (bf gz (7) ag (λ_ _=>rfl)) (aC (bf gz (7) ag (λ_ _=>rfl)))))))))
  (a6 (bo (gE ă Đ Ē cg (5) (aC (7))))
  (ae (af (i:=6) (ai (lZ L) L.ja (a7 (4) (aC (1))))))))))
  (ae (av (kM L.Ja (pd L) (hr.mono ⋯) rfl L.LC L.jv.b .nil mU (a7 (3) (a7 (5) (a7 (6) (aC (4))))))))))))))),?_}
 ac_rfl
 let{ra,rb,rc,rd,re}:=id D
 have GU:g.length^n<=64:=by
  rw[î]at re;have:((g.length^n:Nat):Int)<=64:=by rw[Τ];exact re
  lia
 have nd:ls.Nodup:=B.nd.sublist B.lv.sub;refine{3,x,many,n,g,bw,ss,ls,rfl,B,J,D,?_};refine{3,x,many,n,g,bw,ss,ls,rfl,B,J,U,D,λJZ H1 s1=>?_,kS};refine{6,x,many,n,g,bw,ss,ls,rfl,B.same s1,BP,J,U,D,λd f0 H2 s2 fd h2 hL=>?_,λYn H2 s2=>kO JZ Yn H2 (s1.trans s2)}
 let{most,RH,WO,hG,_}:=id hL.gr
 refine{x,d,many,n,f0,g,bw,ss,ls,rfl,B.same (s1.trans s2),GQ,Oz,BP,J,U,D,h2,hG.nn,hG.fit,hL.ps,λdl f H3 k3 Sj h3 V8 D0 JR hle LJ=>?_};have s3:a8 H H3:=λc o e=>k3 c o (s2 _ _ (s1 _ _ e)) (a9 (s1 _ _ e) fd);have X:(ls.map f).sum<=40:=ů LJ hL.le;refine{4,x,dl,many,n,bx f ls,f,g,bw,ss,ls,rfl,B.same s3,BP,J,U,D,.inl h3,g8 f ls,λy H4 s4 S4=>?_};have S4:=S4.same (cU _ _);have L0:fm g bw ss ls many n f [] _ _ _:=fm.start Oz B.pm GQ (λp hp=>B.lv.sub.subset hp) nd V8 D0;refine{à _,λb hb=>?_};have s5:a8 H4 (upd H4 b (.lst [])):=a8.upd hb;have h5:(upd H4 b _) b=ρ (.lst []):=a5;have o5:a8 H4 (eD (upd H4 b (.lst [])) b):=EV s5 hb;generalize upd H4 b _=H5 at s5 h5 o5;have W0:=L0.whole X GU;generalize aj ls f=v at S4 L0 W0;generalize v.map f=C at S4 L0 W0;generalize bz g bw ss ls n v=a at S4 L0 W0;have JQ:a.9<=1000:=by rw[W0.l];exact W0.n
 refine{2,y,many,v,C,a,rfl,S4.same s5,JQ,λl hl=>by have:=W0.m l hl;lia,λr G H6 s6 I Y hK=>?_};have SJ:r≠b:=λz=>by rw[z,h5]at I;cases I
 refine{λq σ M=>∃(y r:Addr) (v:List Str) (C:List Int) (a:List (List (Str×Nat))) (j:List DF) (u:List V) (G:List Nat) (v7:Option V),q=40-v.9/\σ=[ρ (.ref x),ρ (.int many),ρ (.int (n:Int)),ρ (.ref dl),ρ (.ref y),ρ (.ref b),ρ (.ref r),v7]/\a8 H M/\M dl=ρ (.dK (aB (bx f ls)))/\bM K L.aw (eD M b) y v C a/\fm g bw ss ls many n f j v C a/\M b=ρ (.lst u)/\b7 K (eD M b) (j.map xa) u/\r≠b/\M r=ρ (.lst ((nI G).map V.int))/\mC a many G,
  {_,y,r,v,C,a,[],[],G,τ,rfl,rfl,s3.trans (s4.trans (s5.trans s6)),s6 _ _ (s5 _ _ (s4 _ _ h3)),S4.same (o5.trans (nv s6)),L0,s6 _ _ h5,rfl,SJ,Y,hK},?_}
 clear hK Y SJ I s6 JQ W0 L0 o5 h5 s5 S4;have Ro:H b=τ:=none_of (s3.trans s4) hb;have Of:dl≠b:=a9 (s4 _ _ h3) hb;rintro q σ M ⟨y,r,v,C,a,j,u,G,v7,rfl,rfl,s7,V9,S7,O,Z,r7,SJ,SK,hK⟩;have W7:=O.whole X GU;have hlen:=O.len;have zr:=O.b.w;have JQ:a.9<=1000:=by rw[W7.l];exact W7.n
 have JV:u.9=j.9:=by rw[r7.len,À]
 have Yo:=O.sl
 by_cases SM:G=[]
 .subst SM
  have Cd:v≠[]:=λz=>by
   have h1:=O.sm;rw[z]at zr;rw[ũ zr]at h1;have:(0:Int)=(ls.map f).sum:=h1
   lia
  refine{1,r,1,.inl (aG.of SK),rfl,true,DV _,cJ ?_};refine{λσ' H'=>∃(y r:Addr) (R:List Str) (C:List Int) (a:List (List (Str×Nat))) (j:List DF) (u:List V) (G:List Nat) (v7:Option V),R.9=v.9+1/\σ'=[ρ (.ref x),ρ (.int many),ρ (.int (n:Int)),ρ (.ref dl),ρ (.ref y),ρ (.ref b),ρ (.ref r),v7]/\a8 H H'/\H' dl=ρ (.dK (aB (bx f ls)))/\bM K L.aw (eD H' b) y R C a/\fm g bw ss ls many n f j R C a/\H' b=ρ (.lst u)/\b7 K (eD H' b) (j.map xa) u/\r≠b/\H' r=ρ (.lst ((nI G).map V.int))/\mC a many G,?_,?_}
  .rintro σ' H' ⟨y,r,R,C,a,j,u,G,v7,e1,rfl,s',JW,S',L',FX,r',Yp,GO,SN⟩;have:=L'.len;exact{_,(),y,r,R,C,a,j,u,G,v7,rfl,rfl,s',JW,S',L',FX,r',Yp,GO,SN}
  refine{2,y,many,v,C,a,rfl,S7.same sX,O.b,hK,Cd,(),λl hl=>by have:=W7.m l hl;lia,(),(),λt l d ns w H8 s8 fl ft Va Vb ok Gq Ma=>?_};have hT:=eY.of (K:=K) Va;have S8:=(S7.same sX).same s8;refine{3,t,_,_,1,rfl,hT,rfl,1,t,_,_,1,rfl,hT,rfl,1,t,_,_,1,rfl,hT,rfl,y,l,many,(d:Int),w,nI ns,v,C,a,rfl,S8,aG.of Vb,by rw[cX];lia,W7,(),(),.inl {ok,λy' H9 s9 S9=>?_}};rw[î]at S9;have Vc:=s8 _ _ Z;have Vd:=s9 _ _ Vc;have L9:=O.step ok Ma;have W9:=L9.whole X GU;have SQ:(gF a d (nI ns)).9<=1000:=by rw[W9.l];exact W9.n
  have Yq:l≠b:=λz=>by rw[z,Z]at fl;cases fl
  have Yr:t≠b:=λz=>by rw[z,Z]at ft;cases ft
  have r9:b7 K (eD H9 b) ((j++[(d,ns,w)]).map xa) (u++[.ref t]):=by
   rw[Ò];exact gg (b7.same (nv (s8.trans s9)) _ _ r7) (BA (f7 (s9 _ _ Va) Yr) (f7 (s9 _ _ Vb) Yq))
  have Q0:bM K L.aw (eD H9 b) y' _ _ _:=S9.same (Br Vc);refine{1,.inl {rfl,_,aG.of Vd},1,b,_,1,rfl,Vd,aS (),?_};have eo:eD (upd H9 b (.lst (u++[.ref t]))) b=eD H9 b:=HS;rw[<-eo]at r9 Q0;have GX:a8 H (upd H9 b (.lst (u++[.ref t]))):=λc o e=>by rw[aa (a9 e Ro)];exact s9 _ _ (s8 _ _ (s7 _ _ e))
  have Ve:(upd H9 b (.lst (u++[.ref t]))) dl=ρ (.dK (aB (bx f ls))):=by rw[aa Of];exact s9 _ _ (s8 _ _ V9)
  have SR:(upd H9 b _) b=ρ (.lst (u++[.ref t])):=a5;generalize upd H9 b _=GW at GX Ve SR r9 Q0;refine{2,y',many,_,_,1,Q0.same sX,SQ,λl hl=>by have:=W9.m l hl;lia,λYs Yt JX S I Y SN=>?_};refine{y',Ys,_,_,_,j++[(d,ns,w)],u++[.ref t],Yt,_,?_,rfl,GX.trans S,S _ _ Ve,Q0.same (nv S),L9,S _ _ SR,b7.same (nv S) _ _ r9,(λz=>by rw[z,SR]at I;cases I),Y,SN};unfold df;rw[Ì];rfl
 .refine{1,r,1,.inl (aG.of SK),rfl,false,congrArg V.bl (decide_eq_false λz=>SM (ũ (by have:=V.int.inj z;rw[À,cX]at this;lia))),bW ?_};refine{4,?_};intro z dz nz Yu ZS;have sm:a8 M (upd (upd M dz (.own z)) z (.ins L.bh dz [])):=du nz Yu;refine{z,dz,dl,y,.ref b,.ref r,bx f ls,j,G,v,C,a,rfl,a5,.inl (sm _ _ V9),{b,u,rfl,.inl (sm _ _ Z),b7.same (sX.trans sm) _ _ r7},iH (sm _ _ SK),(S7.same sX).same sm,(),(),(),λl hl=>by have:=W7.m l hl;lia,(),λa' b' c' y' H8 h8 fa Yv r8 Yw S8 Yx=>{rfl,?_}};have s8:a8 M H8:=λc o e=>Yx _ _ (sm _ _ e) (a9 e nz);have nw:a8 (aE (upd (upd M dz (.own z)) z (.ins L.bh dz [])) H8) (aE H H8):=dA (s7.trans sm);refine k JZ z f0 f j G v C a H8 (s7.trans s8) {dz,a',b',c',y',bJ (none_of s7 nz) h8,bJ (none_of (s7.trans sm) fa) Yv,bu.same nw _ _ r8,bu.same nw _ _ Yw,S8.same nw} hL hle {V8,λp hp=>?_,D0,JR,X,O.rn,O.b,O.cv,(),hK,SM,(),O.sb};have h1:=hle p hp;have h2:=hG.le p hp
  lia
theorem mK(L:Lk K mg):aP P w K mg base (xE P w) 10 L.eQ L.i3 ["self","band","many","wide"] (Dy K L.az L.aA L.bh L.aw L.aY L.fu):=by
 refine L.i7.F.CJ (N:=["self","band","many","wide","sheet","kept","found"]) (λeZ A outer s H vs Q E nd hr h=>?_)
 let{x,a,j,many,n,g,bw,ss,ls,rfl,hx,B,GQ,Pt,Mh,Oz,BP,BO,zb,Gw,k,kS,kO}:=h
 refine{_,(a6 (cM (0) (iW (uf L) (hr.mono ⋯) rfl L.fq.g L.fq.F.kp L.fq.b .nil (mV cq) (a7 (1) (a7 (2) (aC (3))))) rfl)
  (a6 (cM (0) (1) rfl)
  (a6 (cM (0) (2) rfl)
  (a6 (cM (0) (3) rfl)
  (a6 (af (i:=4) (AZ (aW (0) rfl) L.dD.cl L.ou (uC L)))
  (a6 (af (i:=5) (aW (aW (0) rfl) rfl))
  (a6 (cM (0) (bZ rfl (ak ["sheet"] [4]) (aL (5)) (λ_ _ _ _ _ _=>b9) (λ_ _ _ _ _ _=>(bf (fH (K:=K) rfl) (kN (K:=K) rfl (1) rfl) (0) (λ_ _=>rfl)))) rfl)
  (a6 (cM (0) (bZ rfl (ak ["sheet","kept","many"] [4,5,2]) (aL (5)) (λ_ _ _ _ _ _=>b9) (λ_ _ _ _ _ _=>(ai (iP L) L.eT (a7 (bf (fH (K:=K) rfl) (kN (K:=K) rfl (1) rfl) (0) (λ_ _=>rfl)) (a7 (2) (aC (3))))))) rfl)
  (a6 (af (i:=6) (ai (DA L) L.z7 (a7 (aW (0) rfl) (a7 ag (aC (aK Kw (bP (aC ag)) (AZ (0) L.aO.cl L.jw (pf L))))))))
  (a6 (cM (0) (bf gz (6) ag (λ_ _=>rfl)) rfl)
  (ae (cM (0) (bf gz (6) ag (λ_ _=>rfl)) rfl)))))))))))),?_}
 ac_rfl
 let{ra,rb,rc,rd,re}:=id Gw
 have Yy:j≠x:=λz=>by
  let{ZT,b,d,q,mv,h1,_}:=id B.ex
  rw[z,hx]at h1;have:=Î h1;injection this with _ _ q2
  cases q2
 refine{3,j,many,n,g,bw,ss,ls,rfl,B,λw hw=>(GQ w hw).1,Oz,BP,BO,zb,Gw,λJZ p f0 f rg u O ws m H1 s1 P1 hL hle C=>?_,kS,kO};have W0:=Oc (n:=n) C.ko C.ne (show 0<=many by lia) (C.cv.word C.b.l (λq I=>B.lv.sub.subset (C.sb q I)) Mh);have ZU:=P1.same (cU _ _);have Yz:=C.ln;have ZV:=C.b.w;have QH:=C.b.l
 have GU:g.length^n<=64:=by
  rw[î]at re;have:((g.length^n:Nat):Int)<=64:=by rw[Τ];exact re
  lia
 have OO:∀l∈m,l.9<=10000:=λl hm=>by
  have h1:=C.cv.line C.b.l (b:=64) (λp=>Ï (fj g bw ss ls n p) GU) l hm;have h2:64*O.9<=64*40:=weB _ ()
  lia
 have Rp:u.9<=40:=by have:=C.ko.ab.sub.length_le;rw[Ă]at this;lia
 have Vf:∀d∈u,d<m.9:=λd hd=>(C.ko.st d hd).1;refine{1,x,L.az,a,[],rfl,s1 _ _ hx,L.aO.cl,L.aO.tf,(show 0<1000 by decide),?_};rw[Nv];refine{2,x,L.az,a,1,a5,L.aO.cl,L.aO.FY,(show 1<1000 by decide),?_};rw[Nw];refine{2,x,L.az,a,1,a5,L.aO.cl,L.aO.Lw,(show 2<1000 by decide),?_};rw[Nx];refine{2,x,L.az,a,1,a5,L.aO.cl,L.aO.FZ,(show 3<1000 by decide),?_};rw[Ny];have x2:(upd (upd (upd (upd H1 x (.ins L.az a (Np p))) x (.ins L.az a (Pb p j))) x (.ins L.az a (Nq p j many))) x _) x=ρ (.ins L.az a (Nr p j many (n:Int))):=a5;have k2:∀c o,H1 c=ρ o->c≠x->(upd (upd (upd (upd H1 x (.ins L.az a (Np p))) x (.ins L.az a (Pb p j))) x (.ins L.az a (Nq p j many))) x (.ins L.az a (Nr p j many (n:Int)))) c=ρ o:=λc o e hc=>by rw[aa hc,aa hc,aa hc,aa hc];exact e
 generalize upd (upd (upd (upd H1 x _) x _) x _) x _=H2 at x2 k2;have SU:∀c o,H c=ρ o->c≠x->H2 c=ρ o:=λc o e hc=>k2 c o (s1 _ _ e) hc;have n2:a8 (aE H H1) (aE H H2):=bp hx k2;have P2:=P1.same (n2.trans (cU _ _))
 let{dp,wa,wb,R,wz,OB,_,_,YB,_}:=id P2
 refine{1,x,L.az,a,_,1,x2,L.aO.cl,L.aO.tf,n9 p j many n,p,dp,1,OB,ye (by show ("sheet":Str)∉[("weights":Str),"splits","kept","last"];decide+kernel),p,bx f ls,rg,u,O,ws,m,rfl,P2,(),(),(),OO,λy H3 s3 S3=>?_};have x3:=s3 _ _ x2;refine{1,x,L.az,a,_,1,x3,L.aO.cl,L.aO.tf,n9 p j many n,p,L.bh,dp,_,1,s3 _ _ OB,L.dD.cl,L.dD.Fh,A5 wa wb R wz,?_}
 have SV:aG K H3 R ((nI u).map V.int):=by
  let{c',e,h}:=gJ (bu.same s3 _ _ YB)
  cases e;exact h
 have YC:=S3.same (cU _ _)
 let{dy,ah,Vg,cl,hy,rh,ZW,rl}:=id YC
 have hh:=x9 rh
 let{O5,xs,ec,hc,zo}:=id rl
 cases ec;refine{1,R,rfl,{_,SV},λr SW=>?_};refine cV (λ_=>true) (λv=>match v with |.int d=>.str (O.getD d.toNat "") |_=>.non) (aH K R _) SW (aq (by rw[À,cX];lia)) (λH' s'=>s'.seq SV) (λv H8 Q' hy s8 qq=>qq H8 (a8.refl _)) (λv H4 Q' hv _ J qq=>?_) (λH4 J h4=>?_)
 .let{n',zt,rfl}:=wN hv
  have S:n'<O.9:=by rw[<-QH];exact Vf n' zt
  exact{1,y,L.aw,dy,_,1,J _ _ hy,L.ao.cl,L.ao.g9,et ah Vg cl,1,ah,_,_,1,rfl,J.seq (.inl hh),bK (v:=.str (O.getD n' "")) (by rw[È,Ä S,Õ,Ä S];rfl),qq H4 (a8.refl _)}
 have e4:(((nI u).map V.int).filter λ_=>true).map (λv=>match v with |.int d=>V.str (O.getD d.toNat "") |_=>.non)=(u.map λd=>O.getD d "").map V.str:=by
  rw[ę.mpr (λ_ _=>rfl)];unfold nI;rw[Ê,Ê,Ê];rfl
 rw[e4]at h4;have T:r≠x:=è (a9 x3 SW);refine{1,x,L.az,a,1,J _ _ x3,L.aO.cl,L.aO.g9,(show 4<1000 by decide),?_};rw[Nz];have x5:(upd H4 x _) x=ρ (.ins L.az a (Nt p j many (n:Int) r)):=a5;have k5:∀c o,H4 c=ρ o->c≠x->(upd H4 x (.ins L.az a (Nt p j many (n:Int) r))) c=ρ o:=λc o e hc=>by rw[aa hc];exact e
 generalize upd H4 x _=H5 at x5 k5;have x4:=J _ _ x3
 have YD:y≠x:=λz=>by
  let{_,_,_,_,h,_}:=id S3
  rw[z]at h;unfold aE at h;rw[x2]at h;cases h
 have LQ:aG K H5 R ((nI u).map V.int):=(fD k5).seq (wy x4 (J.seq SV));have RP:=k5 _ _ (J _ _ hy) YD;have YF:bu K H5 (mz m) (.ref cl):=bu.same (fD k5) _ _ (bu.off x4 _ _ (bu.same J _ _ rl))
 let{UT,YG,YH,YJ,SX}:=id YF
 cases YH;refine{1,R,rfl,{_,LQ},λD AF=>?_};refine tj (K:=K) ((qA m u many.toNat).map bR) (aH K R _) AF (aq (by rw[À,cX];lia)) (by unfold qA;rw[À,À,À,cX]) (λH' s'=>s'.seq LQ) (λi v dd H6 Q' hv Mi U qq=>?_) (λH6 U r6=>?_)
 .have hi:i<u.9:=by have:=(Ö.mp hv).1;rwa[À,cX]at this
  rw[A1 (Ä hi)]at hv;cases hv;unfold qA at Mi;rw[È,È,Ä hi]at Mi;cases Mi;have Gq:=Vf _ (û hi);generalize u[i]=d at qq Gq;have I:=kW Gq
  let{v',LI,YK}:=SX.at (i:=d) (d:=bR (m.getD d [])) (by rw[È,I];rfl)
  exact{1,y,L.aw,dy,_,1,U _ _ RP,L.ao.cl,L.ao.cA,bE ah Vg cl,1,cl,YG,_,1,rfl,U.seq (.inl YJ),bK LI,2,v',R,many,u,m.getD d [],rfl,bu.same U _ _ YK,U.seq LQ,(),OO _ (á I),(),λz X s7 r7=>qq z X s7 r7}
 have x6:=U _ _ x5;refine{1,x,L.az,a,1,x6,L.aO.cl,L.aO.cA,(show 5<1000 by decide),?_};rw[NA];have x7:(upd H6 x _) x=ρ (.ins L.az a (JI p j many (n:Int) r D)):=a5;have k7:∀c o,H6 c=ρ o->c≠x->(upd H6 x (.ins L.az a (JI p j many (n:Int) r D))) c=ρ o:=λc o e hc=>by rw[aa hc];exact e
 generalize upd H6 x _=X at x7 k7;have Vh:∀c o,H c=ρ o->c≠x->H5 c=ρ o:=λc o e hc=>k5 _ _ (J _ _ (s3 _ _ (SU c o e hc))) hc;have YL:∀c o,H c=ρ o->c≠x->X c=ρ o:=λc o e hc=>k7 _ _ (U _ _ (Vh c o e hc)) hc;have r7:bu K X (mz (qA m u many.toNat)) (.ref D):=bu.same ((Br x5).trans (fD k7)) _ _ r6;have B7:aU L.aA X j g bw ss ls:=(Gs B hx Yy).same (fD YL);refine{1,x,L.az,a,_,1,x7,L.aO.cl,L.aO.cA,yg p j r D many n,by show 1<=sizeLine;decide,λl0 PB=>?_}
 let{s8,h8}:=fB (H:=X) (o:=.lst [V.int 0]) PB
 generalize upd X l0 _=H8 at s8 h8;have x8:=s8 _ _ x7;refine{1,x,a,1,x8,wU p j r D many n,x,j,a,_,n,g,bw,ss,ls,rfl,x8,A7 p j r D many n,A8 p j r D many n,B7.same s8,(),(),λw hw=>(GQ w hw).2,Pt,λb H9 s9 hb=>?_};have Vi:=hb.le;refine{l0,(b:Int),[V.int 0],rfl,rfl,s9 _ _ h8,(),(),aq (by show 1*((b:Int)).toNat<=_;lia),λpr Oa=>?_};rw[î,yf]
 let{GX,Jm}:=fB (H:=H9) (o:=.lst ((nI (ë b 0)).map V.int)) Oa
 generalize upd H9 pr _=GW at GX Jm;have Y:=s8.trans (s9.trans GX);refine⟨.ref D,0,pr,many,n,qA m u many.toNat,ë b 0,rfl,bu.same Y _ _ r7,aG.of Jm,W0,wgL.mpr W0.ne,λt ht=>by rw[(List.mem_replicate.mp ht).2];lia,by rw[wda];lia,(),λq M LR I=>?_⟩;have Z:=Y.trans LR;have Vj:=Z _ _ x7;have Rz:q≠x:=λz=>by rw[z,Vj]at I;cases I
 generalize YM:fL (qA m u many.toNat) 0 (ë b 0)=wk at I;refine{1,q,_,_,1,rfl,eY.of I,rfl,1,x,L.az,a,1,Vj,L.aO.cl,L.aO.D2,(show 6<1000 by decide),?_};rw[ND];refine{1,q,_,_,1,rfl,eY.of (by rw[aa Rz];exact I),rfl,1,x,L.az,a,1,a5,L.aO.cl,L.aO.J0,(show 7<1000 by decide),?_};rw[NZ];have SY:(upd (upd M x (.ins L.az a (Pg p j many (n:Int) r D wk.1))) x _) x=ρ (.ins L.az a (IY p j many (n:Int) r D wk.1 (wk.2:Int))):=a5;have Vk:∀c o,M c=ρ o->c≠x->(upd (upd M x (.ins L.az a (Pg p j many (n:Int) r D wk.1))) x (.ins L.az a (IY p j many (n:Int) r D wk.1 (wk.2:Int)))) c=ρ o:=λc o e hc=>by rw[aa hc,aa hc];exact e
 generalize upd (upd M x _) x _=G at SY Vk;have OQ:∀c o,X c=ρ o->c≠x->G c=ρ o:=λc o e hc=>Vk _ _ (Z _ _ e) hc;have SZ:∀c o,H5 c=ρ o->c≠x->G c=ρ o:=λc o e hc=>OQ _ _ (k7 _ _ (U _ _ e) hc) hc;have OS:∀c o,H4 c=ρ o->c≠x->G c=ρ o:=λc o e hc=>SZ _ _ (k5 _ _ e hc) hc;have OT:∀c o,H2 c=ρ o->c≠x->G c=ρ o:=λc o e hc=>OS _ _ (J _ _ (s3 _ _ e)) hc
 have fla:H r=τ:=by
  cases e:H r with
  |none=>rfl
  |some o=>have:=s3 _ _ (SU r o e T);rw[SW]at this;cases this
 have m5:∀c o,H c=ρ o->∃o',H5 c=ρ o':=λc o e=>by
  by_cases z:c=x
  .rw[z];exact{_,x5}
  .exact{o,Vh c o e z}
 rw[<-YM]at SY;refine k JZ p r D f0 f rg u O ws m b G (λc o e hc=>OT _ _ (SU c o e hc) hc) SY (P1.same (n2.trans (bp hx OT))) (nr (bJ fla (OS _ _ h4 T))) (bu.same ((A6 m5).trans (bp hx λc o e hc=>OQ _ _ (k7 _ _ e hc) hc)) _ _ r6) hL hle C W0 hb
theorem m4(L:Lk K mg):aP P w K mg base cI 12 L.nO L.o8 ["_law_way","_law_signs","_law_words","_law_many","_law_wide"] (vK K):=by
 have T:=L.T;refine L.jb.F.dC (N:=["_law_way","_law_signs","_law_words","_law_many","_law_wide","_law_caught","e","_law_others"]) (λeZ A outer s H vs Q E nd R h=>?_)
 let{way,g,a,many,n,l,ss,ls,rfl,hA,sg,S,G,Gw,pm,so,lv,k1}:=h
 refine{_,(a6 (af (i:=5) ib)
  (a6 (Ly ⟨rfl,rfl⟩ (se (KC (cT pz (0) ag) (se (xX (EA (uf L) (R.mono ⋯) rfl L.fq.g L.fq.F.kp L.fq.b (a7 (kM L.BJ (iO L) (R.mono ⋯) rfl L.G8 L.fV.b .nil mU (a7 (1) (aC (2)))) (a7 (3) (aC (4))))))) (se (xX (Fl L.De (mK L) (R.mono ⋯) rfl L.G9 L.i7.b (a7 (kM L.BJ (iO L) (R.mono ⋯) rfl L.G8 L.fV.b .nil mU (a7 (1) (aC (2)))) (a7 (3) (aC (4))))))))) rfl L.qo L.XT nd (j:=6) (i:=5) rfl rfl rfl (ĥ rfl))
  (a6 (bg (cT Kp (5) ib) (ae (av (bY (a7 bO (a7 ag (aC ag)))))) aI)
  (a6 (af (i:=7) (bP (a7 (ax bU (by rfl) T.ur ie (a7 (5) (aC (cn (v:=.ref L.tY) (by rfl) L.Gk rfl)))) (a7 (ax bU (by rfl) T.ur ie (a7 (5) (aC (cn (v:=.ref L.dF) (by rfl) L.gn rfl)))) (aC (ax bU (by rfl) T.ur ie (a7 (5) (aC (cn (v:=.ref L.mH) (by rfl) L.AJ rfl)))))))))
  (a6 (af (i:=7) (aK zM (7) (bP (a7 (ax bU (by rfl) T.ur ie (a7 (5) (aC (cn (v:=.ref L.tX) (by rfl) L.Gi rfl)))) (a7 (ax bU (by rfl) T.ur ie (a7 (5) (aC (cn (v:=.ref L.xm) (by rfl) L.Jb rfl)))) (aC (ax bU (by rfl) T.ur ie (a7 (5) (aC (cn (v:=.ref L.p7) (by rfl) L.Dh rfl))))))))))
  (a6 (af (i:=7) (aK zM (7) (bP (a7 (ax bU (by rfl) T.ur ie (a7 (5) (aC (cn (v:=.ref L.tW) (by rfl) L.Gf rfl)))) (a7 (ax bU (by rfl) T.ur ie (a7 (5) (aC (cn (v:=.ref L.p6) (by rfl) L.Df rfl)))) (aC (ax bU (by rfl) T.ur ie (a7 (5) (aC (cn (v:=.ref L.u0) (by rfl) L.Go rfl))))))))))
  (a6 (bg (PW.pt (jO (bF (ax (jP rfl) (by rfl) T.any EX (aC (7)))) (mh (dH (bF (ax bU (by rfl) T.ur ie (a7 (5) (aC (hF (v:=.ty "ValueError") (by rfl) T.ValueError VZ rfl))))))))) (ae (av (bY (a7 bO (a7 ag (aC ag)))))) aI)
  (a6 (bg (PW.pt (rQ (bF (ax bU (by rfl) T.ur ie (a7 (5) (aC (cn (v:=.ref L.fu) (by rfl) L.xn rfl))))) (qQ (dH (bF (ax bU (by rfl) T.ur ie (a7 (5) (aC (cn (v:=.ref L.aY) (by rfl) L.tZ rfl))))))))) (ae (av (bY (a7 bO (a7 ag (aC ag)))))) aI)
  (a6 (bg (PW.pt (rQ (bF (ax bU (by rfl) T.ur ie (a7 (5) (aC (cn (v:=.ref L.aY) (by rfl) L.tZ rfl))))) (rQ (dH (bF (ax bU (by rfl) T.ur ie (a7 (5) (aC (cn (v:=.ref L.fu) (by rfl) L.xn rfl)))))) (qQ (dH (bF (ax d9 (by rfl) T.ur ie (a7 (xh (5) rfl) (aC (hF (v:=.ty "bool") (by rfl) T.bool JL rfl)))))))))) (ae (av (bY (a7 bO (a7 (xh (5) rfl) (aC (xh (5) rfl))))))) aI)
  (ae (av (bY (a7 bO (a7 ag (aC ag))))))))))))))),?_}
 ac_rfl
 have g2:=sg.lo;have g4:=sg.hi;have w1:∀w∈l,1<=w.9/\w.9<=900:=λw h=>{(G w h).lo,by have:=(G w h).hi;lia};refine zp λR1 c1=>?_;refine c1 _ _ (zp λR2 c2=>?_)
 have fin:∀v q,a8 H q->NY K L.aY L.fu L.aF g l ss ls many n q v->R2 [ρ (.int way),ρ (.str g),ρ (.ref a),ρ (.int many),ρ (.int (n:Int)),ρ v,τ,τ] q:=by
  intro v q s2 ho;refine c2 _ _ ?_;clear c1 c2 R1
  have ho:(v=.non/\lj g l ss many n/\∃f,gb g l ss ls many n f)\/∃e C X od,v=.ref e/\q e=ρ (XC e C od)/\(∀d,od=ρ d->∃fs,q d=ρ (.xd fs))/\bA K C L.aF X/\yR K C/\((C=L.aY/\X="Scarce"/\∃d I,od=ρ d/\Am g l ss many n 24 (.int (I:Nat))/\q d=ρ (.xd [("length",.int (I:Nat)),("rows",.int (dg g l ss (I*n) ""))]))\/(C=L.fu/\X="Open"/\lj g l ss many n/\fC g l ss ls many n)):=by
   rcases ho with⟨rfl,hn,f,hL⟩ |⟨e,d,I,rfl,hs,Z,hd⟩ |⟨e,rfl,hn,hl,Z⟩
   .exact .inl ⟨rfl,hn,f,hL⟩
   .exact .inr {e,_,_,ρ d,rfl,Z,λd' z=>(Î z) ▸ {_,hd},L.dP,L.Gn,.inl ⟨rfl,rfl,d,I,rfl,hs,hd⟩}
   .exact .inr {e,_,_,τ,rfl,Z,λd' z=>(nomatch z),L.p8,L.LD,.inr ⟨rfl,rfl,hn,hl⟩}
  rcases ho with⟨rfl,hn,f,hL⟩ |⟨e,C,X,od,rfl,Z,hD,U,Y,hc⟩
  .exact{1,rfl,true,rfl,cJ {by show 3<=sizeLine;decide,λr R=>k1 r _ _ (s2.trans (a8.upd R)) (.wr hn f hL rfl) a5}}
  have k:∀{H3:Hp},a8 q H3->∀{D:Addr} {b:Bool},weH K (.ref C) (.ref D)=ρ b->D8 K H3 (.ref e) (.ref D) b:=@λH3 s3 D b I=>.exc (s3 _ _ Z) (λd hd=>let ⟨fs,h⟩:=hD d hd;{fs,s3 _ _ h}) U Y I;have ne:∀x∈[("NoRate":Str),"NoSplit","NoLength","Barred","NoRow","NoPlace","NoWord","TooMany","NoData"],¬X=x:=by rcases hc with⟨_,rfl,_⟩ |⟨_,rfl,_⟩<;>decide+kernel
  have kR:∀{D:Addr} {x:Str},j5 K D L.aF x->x∈[("NoRate":Str),"NoSplit","NoLength","Barred","NoRow","NoPlace","NoWord","TooMany","NoData"]->weH K (.ref C) (.ref D)=ρ false:=λV h=>Dm U V L.XT ((by decide+kernel:∀x∈[("NoRate":Str),"NoSplit","NoLength","Barred","NoRow","NoPlace","NoWord","TooMany","NoData"],¬x="BandError") _ h) (ne _ h);refine{_,rfl,rfl,false,rfl,bW ?_};refine{1,_,_,false,rfl,k (a8.refl _) (kR L.Gm ∅),1,_,_,false,rfl,k (a8.refl _) (nB U L.gp L.XT ∅ (ne _ ∅)),1,_,_,false,rfl,k (a8.refl _) (kR L.AK ∅),by show 3<=sizeLine;decide,λl1 OG=>?_}
  let{t1,g1}:=fB (H:=q) (o:=.lst F3) OG
  show dM 7 (V.ref l1) _ _ _;generalize upd q l1 _=G1 at t1 g1;refine{2,_,_,false,rfl,k t1 (kR L.Gj ∅),1,_,_,false,rfl,k t1 (kR L.Jc ∅),1,_,_,false,rfl,k t1 (kR L.Di ∅),by show 3<=sizeLine;decide,λm1 RH=>?_}
  let{u1,v1}:=fB (H:=G1) (o:=.lst F3) RH
  generalize upd G1 m1 _=K1 at u1 v1;refine{l1,m1,_,1,rfl,u1 _ _ g1,v1,by show 6<=sizeLine;decide,λl2 O9=>?_};have t2:=t1.trans (u1.trans (a8.upd (H:=K1) (o:=.lst (F3++F3)) O9));have g2:(upd K1 l2 _) l2=ρ (.lst (F3++F3)):=a5;show dM 7 (V.ref l2) _ _ _;generalize upd K1 l2 _=G2 at t2 g2;refine{2,_,_,false,rfl,k t2 (kR L.Gg ∅),1,_,_,false,rfl,k t2 (kR L.Dg ∅),1,_,_,false,rfl,k t2 (kR L.Gp ∅),by show 3<=sizeLine;decide,λm2 TK=>?_}
  let{u2,v2}:=fB (H:=G2) (o:=.lst F3) TK
  generalize upd G2 m2 _=K2 at u2 v2;refine{l2,m2,_,1,rfl,u2 _ _ g2,v2,by show 9<=sizeLine;decide,λl3 EC=>?_};have t:=t2.trans (u2.trans (a8.upd (H:=K2) (o:=.lst ((F3++F3)++F3)) EC));have g3:(upd K2 l3 _) l3=ρ (.lst ((F3++F3)++F3)):=a5;show dM 7 (V.ref l3) _ _ _;generalize upd K2 l3 _=G3 at t g3;have s3:=s2.trans t;refine{1,l3,ë 9 false,rfl,aG.of g3,false,rfl,bW {1,_,_,true,rfl,.val (t _ _ Z) (λd hd=>let ⟨fs,h⟩:=hD d hd;{fs,t _ _ h}) U Y (D7 U),true,rfl,bW ?_}};rcases hc with⟨rfl,rfl,d,I,rfl,hs,hd⟩ |⟨rfl,rfl,hn,hl⟩
  .refine{1,_,_,false,rfl,k t (nB U L.p8 L.XT ∅ ∅),false,rfl,bW (bW ?_)};refine{1,_,_,true,rfl,k t yS,true,rfl,cJ {1,_,_,false,rfl,k t (nB U L.p8 L.XT ∅ ∅),false,rfl,cJ ?_}};refine{1,e,L.aY,L.aF,d,_,_,.int (I:Nat),rfl,t _ _ Z,t _ _ hd,L.dP,L.fW,by simp,_,_,_,false,rfl,gY.int _,rfl,false,rfl,cJ ?_};refine{1,e,L.aY,L.aF,d,_,_,.int (I:Nat),rfl,t _ _ Z,t _ _ hd,L.dP,L.fW,by simp,1,e,L.aY,L.aF,d,_,_,.int (dg g l ss (I*n) ""),rfl,t _ _ Z,t _ _ hd,L.dP,L.lX,jR (fs:=[(("length":Str),V.int (I:Nat))]) (by show ("rows":Str)∉[("length":Str)];decide+kernel),by show 3<=sizeLine;decide,λr R=>?_};exact k1 r _ _ (s3.trans (a8.upd R)) (.sc I hs rfl) a5
  .refine{1,_,_,true,rfl,k t yS,true,rfl,cJ {1,_,_,false,rfl,k t (nB U L.dP L.XT ∅ ∅),false,rfl,cJ ?_}};exact{by show 3<=sizeLine;decide,λr R=>k1 r _ _ (s3.trans (a8.upd R)) (.op hn hl rfl) a5}
 have mk:∀{xb:Addr} {J:Hp} {M O:List Str},aU L.aA J xb g l M O->aU L.aA J xb g l ss ls:=λ{xb J M O} B=>by
  obtain rfl:M=ss:=Af B.so so B.pm pm;obtain rfl:O=ls:=qx.one B.nd B.lv lv;exact B
 have Mh:("":Str)∈ss:=pm.mem_iff.mpr (bj l);have Vl:∀{J:Hp},a8 H J->Pj L.aY g l ss many n J λcv od H'=>∃C X,cv=.ref C/\bA K C L.aF X/\∀e,H' e=τ->R2 [ρ (.int way),ρ (.str g),ρ (.ref a),ρ (.int many),ρ (.int (n:Int)),ρ (.ref e),τ,τ] (upd H' e (XC e C od)):=λs1 k' d' H' hs s' _ h'=>{L.aY,1,L.dP,λe he=>fin _ _ ((s1.trans s').trans (a8.upd he)) (.sc e d' k' rfl hs a5 (by rw[aa (a9 h' he)];exact h'))};have Vm:∀{H':Hp},a8 H H'->lj g l ss many n->fC g l ss ls many n->∃C X,Æ L.fu=.ref C/\bA K C L.aF X/\∀e,H' e=τ->R2 [ρ (.int way),ρ (.str g),ρ (.ref a),ρ (.int many),ρ (.int (n:Int)),ρ (.ref e),τ,τ] (upd H' e (XC e C τ)):=λs' hn hl=>{L.fu,1,L.p8,λe he=>fin _ _ (s'.trans (a8.upd he)) (.op e rfl hn hl a5)};refine{1,rfl,1,rx (λh1=>?_) (λh1=>?_)}
 .refine{2,λxb T1 u m T3=>?_};refine{xb,T1,g,a,l,rfl,a5,(du u m).seq hA,sg,S,G,λM O J B1 T4=>{rfl,?_}};have s1:a8 H J:=λb o e=>T4 b o (du u m _ _ e) (a9 e u);have B:=mk B1;have zb:ss.9<=25:=B.few S G;refine{2,xb,many,n,g,l,ss,ls,rfl,B,λw h=>(w1 w h).1,sg.nd,g2,(),(),Gw,λJZ y f0 f rg ks hs YN lns q s2 P2 hL hle hP=>?_,Vl s1,λhn hl H' s'=>Vm (s1.trans s') hn hl};exact fin _ q (s1.trans s2) (.wr rfl JZ f0 hL)
 .refine{2,λxb T1 u m T3=>?_};refine{xb,T1,g,a,l,rfl,a5,(du u m).seq hA,sg,S,G,λM O J B1 T4=>{rfl,?_}};have s1:a8 H J:=λb o e=>T4 b o (du u m _ _ e) (a9 e u);have B:=mk B1;have zb:ss.9<=25:=B.few S G;refine{2,λx dx nx YQ ZX=>?_};have sm:a8 J (upd (upd J dx (.own x)) x (.ins L.az dx [])):=du nx YQ;refine{x,dx,xb,many,n,g,l,ss,ls,rfl,a5,B.same sm,w1,(),Mh,sg.nd,g2,(),(),Gw,λJZ p la ll f0 f rg ks hs YN lns b q k2 x2 P2 r2 l2 hL hle hP W0 hB=>{rfl,?_},Vl (s1.trans sm),λhn hl H' s'=>Vm ((s1.trans sm).trans s') hn hl};have s2:a8 J q:=λc o e=>k2 _ _ (sm _ _ e) (a9 e nx);exact fin _ q (s1.trans s2) (.wr rfl JZ f0 hL)
theorem LZ{f:Addr}{fd:ì}(L:Lk K mg)(F:xK K "law" "law" (top 92) f fd):aP P w K mg base cI 13 f fd ["_law_script"] (Bv K):=by
 have T:=L.T;refine F.dC (N:=["_law_script","_law_signs","_law_words","_law_many","_law_wide","_law_moves_here","_law_due","_law_few","_law_first"]) (λeZ A outer s H vs Q E nd hr h=>?_)
 let{a,ns,rfl,hS,hlen,k}:=h
 have G:(A.deeper (Α "law" (ay (top 92)) s.heap.objs.size f eZ)).units<ð:=hr.rG
 refine{_,(a6 (rR (ai (xC L) L.qi (aC (0))) (fS rfl (aV (au (i:=1)) (aV (au (i:=2)) dQ))))
  (a6 (rR (ai (xD L) L.qj (a7 (0) (aC (1)))) (fS rfl (aV (au (i:=3)) (aV (au (i:=4)) dQ))))
  (a6 (af (i:=5) (zS (ai (uG L) L.ot (a7 (1) (aC (2))))))
  (a6 (af (i:=6) (bY (a7 bO (a7 ag (aC ag)))))
  (a6 (af (i:=7) (ai (ub L) L.lV (a7 (5) (a7 (3) (aC (4))))))
  (a6 (bg (cT qR (7) ib) (ae (af (i:=6) (aK Jk (bY (aC bO)) (7)))) (ae (bg (bF (ai (xx L) L.qm (a7 (5) (a7 (3) (aC (4)))))) (ae (af (i:=6) (bY (a7 bO (a7 ag (aC ag)))))) aI)))
  (a6 (af (i:=8) (aK d8 (aK kK (ai (gd L) L.fO (a7 (0) (aC ag))) ag) ag))
  (ae (av (sf (dj (yU G) (ai (m4 L) L.jb (a7 (8) (a7 (1) (a7 (2) (a7 (3) (aC (4))))))) (6) (i9 _)) (rJ (dj (yU G) (ai (m4 L) L.jb (a7 (aK oK ag (8)) (a7 (1) (a7 (2) (a7 (3) (aC (4))))))) (6) (i9 _))))))))))))),?_}
 ac_rfl
 refine zp λR1 c1=>?_;refine{1,a,ns,rfl,hS,λpt I g ws H1 s1 ZY ZZ YR LO sg t j=>?_};have g2:=sg.lo;have g4:=sg.hi;refine{pt,1,eY.of YR,rfl,_,1,_,1,rfl,?_};refine c1 _ _ (zp λR2 c2=>?_);refine{2,a,ns,g,rfl,s1.seq hS,g2,g4,λpr many wide H2 s2 fpr Oa u=>?_};refine{pr,1,eY.of Oa,rfl,_,1,_,1,rfl,?_};refine c2 _ _ (zp λR3 c3=>?_)
 let{ra,rb,rc,rd,re}:=id u
 obtain⟨wd,rfl⟩:∃w:Nat,wide=(w:Int):={wide.toNat,()};have Mg:=s1.trans s2;have x:=s2 _ _ LO
 let{ss,pm,so}:=Jo (bQ ws "" ws)
 let{ls,lv}:=Jp ss (rowOf g ws ss)
 have J:("":Str)∈ss:=pm.mem_iff.mpr (bj ws);have GV:ss.Nodup:=pm.nodup_iff.mpr (hU ws)
 have O:ss.9<=25:=by
  have:=gj (ws:=ws) (e:="") (λw h=>(j w h).hi);rw[pm.length_eq]
  lia
 refine{2,g,I,ws,ss,rfl,x,g4,t,λw h=>(j w h).lo,λw h=>(j w h).hi,λw h=>(j w h).sub,pm,λd R H3 s3 fd h3 YS YT=>{d,1,h3,λo=>?_}};have y:a8 H2 (upd H3 d (.frz o (.dK (aR R)))):=λc oc e=>by rw[aa (a9 e fd)];exact s3 _ _ e
 have M:zq (upd H3 d (.frz o (.dK (aR R)))) d o R (aN g ws ss) ss:={a5,YS,λm hm=>by
  have:=YT m hm;rw[aa λz=>by rw[z,h3]at this;cases this]
  exact this}
 generalize upd H3 d _=H4 at y M;have PN:=Mg.trans y;refine c3 _ _ (zp λR4 c4=>?_);refine{by show 3<=sizeLine;decide,λr0 YV=>?_}
 let{S,h5}:=fB (H:=H4) (o:=.tup [.str "writer",.int 0,.int 0]) YV
 generalize upd H4 r0 _=H5 at S h5;have PQ:=PN.trans S;refine c4 _ _ (zp λR5 c5=>?_);have U:wd<=6:=();have U0:1<=wd:=()
 have key:∀v B,a8 H5 B->(v=.non/\lj g ws ss many wd\/∃r C,v=.ref r/\Am g ws ss many wd 24 (.int (C:Nat))/\B r=ρ (.tup [.int (C:Nat),.int (dg g ws ss (C*wd) "")]))->R5 [ρ (.ref a),ρ (.str g),ρ (.ref I),ρ (.int many),ρ (.int (wd:Int)),ρ (.ref d),ρ (.ref r0),ρ v,τ] B:=by
  intro v B q hv;refine c5 _ _ (zp λR6 c6=>?_);clear c1 c2 c3 c4 c5
  have fin:∀rd T V,a8 B V->yB g ws ss ls many wd T->V rd=ρ (.tup T)->R6 [ρ (.ref a),ρ (.str g),ρ (.ref I),ρ (.int many),ρ (.int (wd:Int)),ρ (.ref d),ρ (.ref rd),ρ v,τ] V:=by
   intro rd T V D hD h7;refine c6 _ _ ?_;clear c6;have PR:=PQ.trans (q.trans D);have X:=(y.trans S).trans (q.trans D);have l:T.all cZ=true:=by rcases hD with⟨_,_,_,rfl⟩ |⟨_,_,rfl⟩ |⟨_,_,rfl⟩<;>rfl
   have Y:mP T T=true:=by rcases hD with⟨_,_,_,rfl⟩ |⟨_,_,rfl⟩ |⟨_,_,rfl⟩<;>simp[mP,oz]
   refine⟨_,rfl,a,ns,4,rfl,PR.seq hS,λc0 H8 s8=>{_,1,rfl,{⋯,⋯},_,1,rfl,⋯,?_}⟩;refine{5,_,g,I,many,wd,ws,ss,ls,rfl,aG.of (s8 _ _ (X _ _ x)),sg,t,j,u,pm,so,lv,λr T' H9 s9 YW h9=>?_};obtain rfl:=YW.one hD;refine{1,r,rd,_,1,rfl,eY.of h9,eY.of (s9 _ _ (s8 _ _ h7)),rfl,l,l,?_};rw[Y];have Z:=s8.trans s9;refine{true,rfl,cJ {1,_,1,rfl,4,_,g,I,many,wd,ws,ss,ls,rfl,aG.of (Z _ _ (X _ _ x)),sg,t,j,u,pm,so,lv,λr2 T2 GW GX YX Jm=>?_}};obtain rfl:=YX.one hD;refine{1,r2,rd,_,1,rfl,eY.of Jm,eY.of (GX _ _ (Z _ _ h7)),rfl,l,l,?_};rw[Y];exact k GW
  clear c6;rcases hv with⟨rfl,n⟩ |⟨r,C,rfl,hk,h6⟩
  .refine{_,rfl,rfl,false,rfl,bW ?_};refine{3,d,o,R,g,ws,ss,ls,many,wd,rfl,M.same (S.trans q),J,GV,O,lv,ra,rb,U0,U,λb V D Vi YY=>{b,rfl,?_}}
   cases b with
   |true=>exact cJ {by show 3<=sizeLine;decide,λr hr=>fin r _ _ (D.trans (a8.upd hr)) (.op n (Vi rfl) rfl) a5}
   |false=>
    let{f,hL}:=YY rfl
    exact bW (fin r0 _ _ D (.wr n f hL rfl) (D _ _ (q _ _ h5)))
  .refine{_,rfl,rfl,true,rfl,cJ ?_};exact{by show 1<=sizeLine;decide,λr1 Vn=>{1,r1,r,_,1,rfl,eY.of a5,eY.of (a8.upd Vn _ _ h6),by simp,by show 3<=sizeLine;decide,λz=>absurd z (by simp),λ_ p hp=>fin p _ _ ((a8.upd Vn).trans (a8.upd hp)) (.sc C hk rfl) a5}}
 refine{3,d,o,R,g,ws,ss,many,wd,rfl,M.same S,J,O,ra,rb,U,λB n q=>key _ _ q (.inl ⟨rfl,n⟩),λC r B hk q h6=>key _ _ q (.inr ⟨r,C,rfl,hk,h6⟩)}
end
end K70
end
namespace K70
open PySem PySem.W L2 Bs Sx
theorem nz{K:Frag}{mg:Str->Option Value}{hp:Heap}{x:Str}(X:K.In hp)(G:hp.Ns í mg)(a:nsIn K í x=some none:=by k_is):mg x=none:=mg_none_of X G a
theorem na{K:Frag}{C:Addr}{f:Str}(a:findIn K (.ref C) f=some none:=by k_is):bN K C f:=a
theorem YZ{K:Frag}{mg:Str->Option Value}{hp:Heap}{f:Addr}{oc:Value}{od an:Option Addr}{DT:Array (Option Value)}{kV doc pm eZ ct:Value}{nm:Str}{st:Stmt}{ps:List Str}(X:K.In hp)(G:hp.Ns í mg)(a:nsIn K í nm=some (some (.ref f)):=by k_is)(l:K.lookup f=some ⟨oc,od,.func (fnOf nm nm (cH st) (bL st) (ay st) .none kV doc pm an eZ ct),DT⟩:=by k_is)(c:codeIn K eZ nm=true:=by k_is)(k:keepIn K (.ref f)=true:=by k_is)(b:∀(kV doc pm:Value) (an:Option Addr) (eZ ct:Value) (us:List Value),us.length=ps.length->bindArgs (fnOf nm nm (cH st) (bL st) (ay st) .none kV doc pm an eZ ct) ⟨us,[]⟩=pure (ps.zip us):=by first |exact λ_ _ _ _ _ _=>L2.gW _ _ λ_=>rfl |exact λ_ _ _ _ _ _=>L2.gW _ _ λ_ _=>rfl |exact λ_ _ _ _ _ _=>L2.gW _ _ λ_ _ _=>rfl |exact λ_ _ _ _ _ _=>L2.gW _ _ λ_ _ _ _=>rfl |exact λ_ _ _ _ _ _=>L2.gW _ _ λ_ _ _ _ _=>rfl |exact λ_ _ _ _ _ _=>L2.gW _ _ λ_ _ _ _ _ _=>rfl):∃fd,FnAt K mg nm st ps f fd:=Raw.at_ X G a (Aa l c k) b
theorem Z0{K:Frag}{C f:Addr}{oc:Value}{od an:Option Addr}{DT:Array (Option Value)}{kV doc pm eZ ct:Value}{nm q:Str}{st:Stmt}{ps:List Str}(a:findIn K (.ref C) nm=some (some (.ref f)):=by k_is)(i:isFn K (.ref f)=true:=by k_is)(l:K.lookup f=some ⟨oc,od,.func (fnOf nm q (cH st) (bL st) (ay st) .none kV doc pm an eZ ct),DT⟩:=by k_is)(c:codeIn K eZ q=true:=by k_is)(k:keepIn K (.ref f)=true:=by k_is)(b:∀(kV doc pm:Value) (an:Option Addr) (eZ ct:Value) (us:List Value),us.length=ps.length->bindArgs (fnOf nm q (cH st) (bL st) (ay st) .none kV doc pm an eZ ct) ⟨us,[]⟩=pure (ps.zip us):=by first |exact λ_ _ _ _ _ _=>L2.gW _ _ λ_=>rfl |exact λ_ _ _ _ _ _=>L2.gW _ _ λ_ _=>rfl |exact λ_ _ _ _ _ _=>L2.gW _ _ λ_ _ _=>rfl |exact λ_ _ _ _ _ _=>L2.gW _ _ λ_ _ _ _=>rfl |exact λ_ _ _ _ _ _=>L2.gW _ _ λ_ _ _ _ _=>rfl |exact λ_ _ _ _ _ _=>L2.gW _ _ λ_ _ _ _ _ _=>rfl):∃fd,eA K C nm q st ps f fd:=by
 obtain⟨fd,F,B⟩:=(Aa l c k).fn b;exact⟨fd,F,B,a,i,k⟩
theorem Z1{K:Frag}{mg:Str->Option Value}{hp:Heap}{x:Str}{t:Tok}(X:K.In hp)(G:hp.Ns í mg)(a:nsIn K í "KNOWN_SIGNS"=some (some (.str x t)):=by k_is)(e:x=eJ:=by first |rfl |decide+kernel):∃t,mg "KNOWN_SIGNS"=some (.str eJ t):=⟨t,e ▸ mg_of X G a⟩
theorem Vo{K:Frag}{f:Addr}{oc:Value}{od an:Option Addr}{DT:Array (Option Value)}{kV doc pm eZ ct:Value}{nm q:Str}{st:Stmt}{ps:List Str}(l:K.lookup f=some ⟨oc,od,.func (fnOf nm q (cH st) (bL st) (ay st) .none kV doc pm an eZ ct),DT⟩:=by k_is)(c:codeIn K eZ q=true:=by k_is)(k:keepIn K (.ref f)=true:=by k_is)(b:∀(kV doc pm:Value) (an:Option Addr) (eZ ct:Value) (us:List Value),us.length=ps.length->bindArgs (fnOf nm q (cH st) (bL st) (ay st) .none kV doc pm an eZ ct) ⟨us,[]⟩=pure (ps.zip us):=by first |exact λ_ _ _ _ _ _=>L2.gW _ _ λ_=>rfl |exact λ_ _ _ _ _ _=>L2.gW _ _ λ_ _=>rfl |exact λ_ _ _ _ _ _=>L2.gW _ _ λ_ _ _=>rfl |exact λ_ _ _ _ _ _=>L2.gW _ _ λ_ _ _ _=>rfl |exact λ_ _ _ _ _ _=>L2.gW _ _ λ_ _ _ _ _=>rfl |exact λ_ _ _ _ _ _=>L2.gW _ _ λ_ _ _ _ _ _=>rfl):∃fd,xK K nm q st f fd/\Binds K fd ps []:=(Aa l c k).fn b
theorem walk{l:Ŷ}{q:É}{loose:List Str}{XP:(Str->Option Value)->Heap->Prop}{YP:World->Heap->Prop}{d:DefRec}{K:Params->Á}(hn:l.most=some 63)(Z2:d.params.defaults=[])
 (hY:∀(w:World) (h:Heap),YP w h->(K w.params).In h)
 (F:∀(w:World) (mg:Str->Option Value) (fa:Addr) (h:Heap),(K w.params).In h->h.Ns í mg->mg d.name=some (.ref fa) ->
   ∃fd:ì,(∀(s:Shared) (u:Value),BindsTo s fd ⟨[u],[]⟩ [("_law_script",u)])/\∀base:Heap,(K w.params).In base->base.Ns í mg->aP l.prog w (K w.params) mg base cI 13 fa fd ["_law_script"] (Bv (K w.params))) :
 whz q loose XP YP l.row.toRowW d [] (λf vs=>whJ f vs):=
 L2.Ji (n:=63) (k:=13) (x:="_law_script") (CX:=λ_=>cI) (sp:=λw=>Bv (K w.params)) hn (by decide) Z2 ⟨rfl,by decide,by decide⟩ hY F (λ_ _ a ns hl _ hS=>⟨a,ns,rfl,hS,hl,λ_=>rfl⟩) λ_ _ _ _ _ z=>z
theorem T5{K:Frag}{mg:Str->Option Value}{hp:Heap}{f:Addr}{oc:Value}{od an:Option Addr}{DT:Array (Option Value)}{kV doc pm eZ ct:Value}(l:Ŷ)(w:World)(fa:Addr)(Z3:mg "law"=some (.ref fa))(X:K.In hp)(G:hp.Ns í mg)(L:Lk K mg)(a:nsIn K í "law"=some (some (.ref f)):=by k_is)(lk:K.lookup f=some ⟨oc,od,.func (fnOf "law" "law" (cH (top 92)) (bL (top 92)) (ay (top 92)) .none kV doc pm an eZ ct),DT⟩:=by k_is)(c:codeIn K eZ "law"=true:=by k_is)(k:keepIn K (.ref f)=true:=by k_is) :
 ∃fd:ì,(∀(s:Shared) (v:Value),BindsTo s fd ⟨[v],[]⟩ [("_law_script",v)])/\∀base:Heap,K.In base->base.Ns í mg->aP l.prog w K mg base cI 13 fa fd ["_law_script"] (Bv K):=by
 have e:=Z3.symm.trans (mg_of X G a);cases e;exact⟨_,λs v=>.of_eq rfl,λbase _ _=>LZ L (E4 (st:=top 92) lk c k)⟩
end K70
open PySem PySem.W PyProof.Rows
local macro_rules |`(tactic|o_head $H)=>`(tactic|(refine PySem.W.holds_open (q:=K70.view) (loose:=[]) (Xt:=λs=>PySem.W.xlAt K70.view [] s&&PySem.W.recOk (PySem.W.RowW.records (PySem.W.OpenRow.toRowW (PySem.W.OpenLaw.row PySem.Challenge.rw_bandscribe_k70_whole_one_of_three))) s) (XP:=PySem.W.XL K70.view []) (Yf:=PySem.W.Hook.obs $H) (Ya:=PySem.W.Hook.val $H) (YP:=PySem.W.Hook.says $H) (N:=8100) ?hl (PySem.W.Hook.of $H) (PySem.W.Hook.keeps $H) (λs e=>PySem.W.xl_of s (Bool.and_eq_true_iff.mp e).1) PySem.W.XL.keeps (by rfl) (by rfl) (by rfl) (λs e=>PySem.W.recFacts_of (Bool.and_eq_true_iff.mp e).2) (by rfl) (by first |assumption |decide+kernel) (by decide+kernel) ⟨rfl,rfl,rfl,rfl,rfl,by decide+kernel⟩ ?hw ?hc;(case hl=>(intro w;exact K70.whole w))))
set_option maxRecDepth 100000 in
set_option maxHeartbeats 0 in
theorem PySem.Challenge.cw_bandscribe_k70_whole_one_of_three_holds : PySem.Challenge.rw_bandscribe_k70_whole_one_of_three.Holds := by
 w_on;o_law;o_head (PySem.W.kHook K70.pre.heap_39 K70.addrs (λ_=>by kernel_rfl));(case hw=>w_witness2)
 k_fill
 refine K70.walk (l:=Ę) rfl rfl (λw h Y=>PySem.W.kIn_of Y) ?F
 case F=>
  intro w mg fa h X G Z4;refine K70.T5 _ w fa Z4 X G ?L;constructor
  all_goals try first |exact(K70.YZ X G).choose_spec |exact(K70.Z0).choose_spec |exact mg_of X G (by k_is) |exact K70.na |k_is |exact⟨_,mg_of X G (by k_is)⟩ |exact K70.Z1 X G |exact Sx.J8 (by k_is) |exact Sx.BD (by k_is) |exact⟨(Sx.BD (by k_is)).lk,by k_is,by k_is,by k_is,by k_is⟩ |exact⟨by k_is,by k_is,by k_is⟩ |exact⟨by k_is,by k_is,by k_is,by k_is⟩ |(constructor;exact K70.nz X G;all_goals exact K70.nz X G) |(constructor;exact⟨by k_is,by k_is,by k_is,by k_is⟩;all_goals exact K70.na)
  case L.z8=>exact(K70.Vo (ps:=["self","length","rows"])).choose_spec.1
  case L.z9=>exact(K70.Vo (nm:="__init__") (q:="Scarce.__init__") (st:=L2.inClass (K70.top 12) 0)).choose_spec.2
#print axioms PySem.Challenge.cw_bandscribe_k70_whole_one_of_three_holds
